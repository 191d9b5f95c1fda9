import PyProof.Rows.All
import Wide.All
import OpenK.AllK
import Wide.FinOn
import Lean
import PyProof.EqAt
import PyProof.EqKinds
import PyProof.TupleCall
import PyProof.NeKinds
import KE.KDictSum
import PyProof.Rows.SortRuns
import PySem.SetOps
import PyProof.Rows.SetFrom
import PyProof.DictWalks
import PyProof.FactsAll.set_1
import PyProof.FactsAll.set_2
import PyProof.MakeMany
import PyProof.CollectWalk
import PyProof.Rows.SortShell
import PyProof.StrWalks
import PyProof.StrLoop
import PyProof.ZipIter
import PyProof.EnumMake
import PyProof.EnumStmt
import PyProof.EnumFor
import PyProof.MeetsDict
import PyProof.DictRoadsH
import KE.KUnpack
import PyProof.TupleIter
import PyProof.Draws
import PyProof.SliceStr2
import PyProof.StrBlockI
import PyProof.Rows.StrWeight2
import PyProof.StrOps2
import PyProof.ConsumeWalk
import KE.KItemsList
import KE.KDictList
import PyProof.ListRange
import KE.KSortTup
import KE.KIntText
import PyProof.StrBlockG
import PyProof.StrLawsTight
import PyProof.StrLawsChain
import KE.IntTextLaws
import PyProof.Rows.CatFin
import PyProof.ReprRoads
import PyProof.FitsInt
import PyProof.Rows.MinMaxN
import PySem.Challenge.RW_midlanes_k31_silent_rows
open Array renaming length_toList->dL,getElem?_toList->kJ,forIn_toList->qy,perm_iff_toList_perm->uZ,getElem?_eq_some_iff->u9,getElem?_eq_none_iff->va
open Bool renaming false_ne_true->bA,false_eq_true->cu,not_true->fu,and_eq_true->gC,eq_iff_iff->kz,beq_eq_decide_eq->kO,not_false->qz
open Int renaming toNat_natCast->cf,le_refl->eo,mul_comm->ie,natAbs_mul->jz,emod_nonneg->jD,emod_lt_of_pos->jE,le_of_lt->kP,mul_one->nr,zero_add->nL,add_mul->nM
open List renaming length_map->af,getElem?_map->aq,length_append->ax,getElem?_eq_getElem->aC,mem_of_getElem?->aE,mem_cons->aG,mem_append->aI,map_append->aJ,map_cons->aS,mem_singleton->aU,getElem?_eq_some_iff->ba,mem_map->bg,mem_cons_self->bi,size_toArray->bu,getElem?_concat_length->bB,mem_cons_of_mem->bH,sum_cons->ce,length_cons->cm,not_mem_nil->cp,length_set->cr,getElem?_append_left->cL,mem_append_right->cP,nodup_cons->cQ,mem_append_left->cU,nodup_nil->cV,length_singleton->dq,find?_cons->du,take_add_one->dw,length_take->dM,take_length->dO,nodup_append->dP,append_assoc->eh,getD_eq_getElem?_getD->eA,mem_iff_getElem?->eB,any_cons->fT,dropLast_concat->fV,mem_range->gx,append_nil->gy,length_drop->gB,flatten_cons->gE,length_nil->gF,map_set->gI,getElem?_append_right->hW,length_replicate->hX,replicate_succ->hZ,getElem?_set_self->jk,all_eq_true->js,mem_or_eq_of_mem_set->jA,getLast?_eq_some_iff->jB,getElem?_replicate->kE,nil_append->kK,lookup_cons->kM,length_range->kR,getElem?_set_ne->nj,take_of_length_le->nE,pairwise_cons->nH,map_replicate->nQ,length_pos_iff->nR,dropLast_concat_getLast->qA,set_eq_take_append_cons_drop->vb
open List.Pairwise renaming imp_of_mem->u8
open Nat renaming le_refl->aA,le_trans->aR,zero_le->bD,ne_of_lt->bK,lt_of_lt_of_le->cq,lt_trans->dv,ne_of_gt->eS,le_of_lt->ft,mul_le_mul_right->fw,lt_irrefl->fQ,le_of_eq->gD,lt_of_le_of_lt->ia,le_of_ble_eq_true->ic,min_le_right->jn,sub_le->jo,add_le_add_left->jr,pow_le_pow_right->kS,succ_mul->nA,add_assoc->nJ,mul_le_mul_left->nO,sub_zero->nP,lt_succ_of_lt->qw
open Option renaming map_eq_some_iff->bc,isSome_iff_exists->kC,isSome_map->qt,map_some->qu,toList_some->qF
open PyProof.Rows renaming wpS_bind->aY,wpS_pure->bo,mirror_perm->gG,pairsOf_size->gH,slot_tuple_getitem->jp,wpS_forRange->ju,listUpdate_at->jv,seqEpoch_at->jw,callWith_type1->qk,callWith_builtin1->uS
open PySem renaming wpAny_bind->ae,wpAny_pure->am,wpAny_mono->cD,wpAny_holding->dm,wpAny_newObj_type->dN,wpAny_call_entry->eT,wpAny_field->fS,wpAny_rule->fU,wpAny_passesOwn->hV,wpAny_truthy_bool->jm,call_meets->jq,wpAny_isInstance->jx,wpAny_setField_rec->jC,codeAny_mono->kB,wpAny_typeOf->kG,wpAny_specialOf->kL,wpAny_tupleItemsOf->kQ,wpAny_eqBool_int->nh,wpAny_execs_nil->np,wpAny_standAt->nq,wpAny_Call_Name_kw->nu,wpAny_callSpecial?_slot->nv,tupleKind_room_in1->nB,wpAny_newList->nF,wpAny_forIn_list->nI,isSubtype_tuple_tuple->nK,wpAny_dictEntries->nS,wpAny_dictEpoch->nT,codeAny_builtin->nU,plainId_quiet->nW,noFill_tuple_add->qm,wpAny_typeNameOfWhole_itemiter->qB,wpAny_isOneOf_itemiter->qC,wpAny_typeNameOfWhole_keyiter->qE
open PySem.Around renaming under_plainId->nV
open PySem.Calls renaming spliced_cons->kA,spliced_nil->nt,callWith_builtin->qr,call_function_entry->u7
open PySem.Heap renaming lt_size->aV,get?_push_of_some->bt,get?_push_size->ck,get?_update_self->kH,get?_update_other->kI,size_push->qv
open PySem.SeqAt.EqAt renaming int_str->qi,str_int->qj,int_int->qo,str_str->qp,none_int->uT,none_str->uU,int_none->uV,str_none->uW,of_refs->uX
open PySem.SeqAt.RcNeAt renaming lists_lengths->uY
open PySem.W renaming boot_heap->jt
def ah:=@if_pos
def ai:=@if_neg
def aQ:=@decide_eq_false
def aX:=@decide_eq_true
def bM:=@not_or
def bY:=@if_false
def cW:=@or_false
def fR:=@if_true
def nG:=@bne_self_eq_false
def nN:=@of_decide_eq_true
def qh:=@beq_eq_false_iff_ne
def qx:=@decide_eq_true_eq
def qD:=@decide_eq_decide
set_option Elab.async false
set_option linter.all false
set_option maxRecDepth 100000
set_option maxHeartbeats 4000000
set_option autoImplicit false
set_option exponentiation.threshold 4000
open List (all_cons any_eq_false any_eq_true append_inj' cons_append cons_ne_nil contains_cons dropLast_eq_take drop_zero eq_of_mem_replicate eraseIdxIfInBounds_toArray eraseIdx_cons_succ ext_getElem? filterMap_cons filterMap_map filter_append filter_cons find?_append find?_eq_none find?_isSome find?_nil find?_some foldl_append foldl_cons forIn_cons getElem?_eq_none getElem?_inj getElem?_range getElem?_take_of_lt getElem_inj getElem_mem getElem_of_mem getElem_range getLast?_concat getLast?_eq_none_iff getLast?_map length_dropLast map_congr_left map_drop map_dropLast map_id map_map map_nil map_singleton map_snd_zip map_take mem_filter mem_filterMap mem_map_of_mem mem_nil_iff mem_of_find?_eq_some mem_of_mem_take mergeSort_perm nil_perm of_mem_zip pairwise_iff_getElem pairwise_map pairwise_mergeSort pairwise_singleton reverse_cons reverse_reverse sum_nil take_append_drop take_left take_sublist take_zero zip_cons_cons)
noncomputable section
section
namespace L2
open PySem PySem.Spec PyProof.Rows
abbrev Key:=Sum Int Str
def gk:Key->Value->Bool
 | .inl k,v=>Value.isInt k v
 | .inr x,v=>Value.isStrOf x v
def keyH (w:World):Key->Int
 | .inl k=>hashInt k
 | .inr x=>hashStr w x
theorem fJ : ∀ {k : Key} {v : Value}, gk k v = true -> (∃ i t, k = Sum.inl i /\ v = Value.int i t) \/ (∃ x t, k = Sum.inr x /\ v = Value.str x t)
  | .inl i, v, h => by
    obtain ⟨t,e⟩:=Value.isInt_shape (k:=i) (v:=v) h
    exact .inl ⟨i,t,rfl,e⟩
  | .inr x, v, h => by
    obtain ⟨t,e⟩:=Value.isStrOf_shape (x:=x) (v:=v) h
    exact .inr ⟨x, t, rfl, e⟩
theorem ZkG (i:Int) (t:Tok):gk (.inl i) (.int i t)=true:=by simp[gk,Value.isInt]
theorem ZkF (x:Str) (t:Tok):gk (.inr x) (.str x t)=true:=by simp[gk,Value.isStrOf]
theorem key_ll (a b:Int):decide ((Sum.inl a:Key)=Sum.inl b)=(a == b):=by
 by_cases e:a=b
 .subst e;simp
 .have h:¬ (Sum.inl a:Key)=Sum.inl b:=fun q=>e (Sum.inl.inj q)
  rw[aQ h]
  exact (qh.mpr e).symm
theorem key_rr (a b:Str):decide ((Sum.inr a:Key)=Sum.inr b)=decide (a=b):=by
 by_cases e:a=b
 .subst e;simp
 .have h:¬ (Sum.inr a:Key)=Sum.inr b:=fun q=>e (Sum.inr.inj q)
  rw[aQ h,aQ e]
theorem key_lr (a:Int) (b:Str):decide ((Sum.inl a:Key)=Sum.inr b)=false:=aQ (fun q=>nomatch q)
theorem key_rl (a:Str) (b:Int):decide ((Sum.inr a:Key)=Sum.inl b)=false:=aQ (fun q=>nomatch q)
def cj (prog:Program) (w:World):PySem.KeyKind prog w Key where
 is:=gk
 hash:=keyH w
 inj:=fun v a b ha hb=>by
  rcases fJ ha with ⟨i,t,rfl,rfl⟩|⟨x,t,rfl,rfl⟩
  .rcases fJ hb with ⟨j,u,rfl,e⟩|⟨y,u,rfl,e⟩
   .injection e with e1 _;rw[e1]
   .exact nomatch e
  .rcases fJ hb with ⟨j,u,rfl,e⟩|⟨y,u,rfl,e⟩
   .exact nomatch e
   .injection e with e1 _;rw[e1]
 byValue:=fun k v h=>by
  rcases fJ h with ⟨i,t,rfl,rfl⟩|⟨x,t,rfl,rfl⟩ <;> rfl
 pyHash:=fun hv h=>by
  rcases fJ hv with ⟨i,t,rfl,rfl⟩|⟨x,t,rfl,rfl⟩
  .exact wpAny_pyHash_int h
  .exact wpAny_pyHash_str h
 eqBool:=fun hu hv h=>by
  rcases fJ hu with ⟨i,t,rfl,rfl⟩|⟨x,t,rfl,rfl⟩
  .rcases fJ hv with ⟨j,u,rfl,rfl⟩|⟨y,u,rfl,rfl⟩
   .rw[key_ll] at h;exact nh h
   .rw[key_lr] at h;exact qi i t y u _ _ _ _ h
  .rcases fJ hv with ⟨j,u,rfl,rfl⟩|⟨y,u,rfl,rfl⟩
   .rw[key_rl] at h;exact qj x t j u _ _ _ _ h
   .rw[key_rr] at h;exact wpAny_eqBool_str h
 «strs»:=fun k x t v h=>by
  rcases fJ h with ⟨i,u,rfl,e⟩|⟨y,u,rfl,e⟩
  .exact nomatch e
  .injection e with e1 _
   subst e1
   cases v <;> rfl
theorem ZhO (prog:Program) (w:World) (i:Int) (t:Tok):(cj prog w).is (.inl i) (.int i t)=true:=ZkG i t
theorem ZhN (prog:Program) (w:World) (x:Str) (t:Tok):(cj prog w).is (.inr x) (.str x t)=true:=ZkF x t
end L2
namespace L2
open PySem PySem.Spec PyProof.Rows
inductive V where
 | non|bl (b:Bool)|int (i:Int)|str (x:Str)|byt (b:Array UInt8)|flt (b:UInt64)|ref (a:Addr)|ty (n:String)
 deriving DecidableEq
def RelV:V->Value->Prop
 | .non,u=>u=Value.none
 | .bl b,u=>u=Value.bool b
 | .int i,u=>∃ t,u=Value.int i t
 | .str x,u=>∃ t,u=Value.str x t
 | .byt b,u=>∃ t,u=Value.bytes b t
 | .flt b,u=>∃ t,u=Value.float b t
 | .ref a,u=>u=Value.ref a
 | .ty n,u=>u=Value.type n
abbrev Vals:List V->List Value->Prop:=Paired RelV
theorem Vals.length {xs:List V} {us:List Value} (r:Vals xs us):xs.length=us.length:=Paired.length r
theorem Vals.get : ∀ {xs : List V} {us : List Value} {i : Nat} {x : V}, Vals xs us -> xs[i]? = some x -> ∃ u, us[i]? = some u /\ RelV x u
  | _, _, _, _, .nil, e => by simp at e
  | _, _, 0, _, .cons r _, e => by simp at e; subst e; exact ⟨_, rfl, r⟩
  | _, _, i + 1, x, .cons _ t, e => by
    obtain ⟨u,h1,h2⟩:=Vals.get (i:=i) (x:=x) t (by simpa using e)
    exact ⟨u, by simpa using h1, h2⟩
theorem Vals.set {x:V} {u:Value} (r:RelV x u):∀ {xs:List V} {us:List Value} (i:Nat),Vals xs us->Vals (xs.set i x) (us.set i u)
 | _,_,_,.nil=>.nil
 | _,_,0,.cons _ t=>.cons r t
 | _,_,i+1,.cons q t=>.cons q (Vals.set r i t)
theorem Vals.append {xs ys:List V} {us ws:List Value} (h:Vals xs us) (s:Vals ys ws):Vals (xs++ys) (us++ws):=by
 induction h with
 | nil=>exact s
 | cons r _ ih=>exact .cons r ih
theorem Vals.take:∀ {xs:List V} {us:List Value} (n:Nat),Vals xs us->Vals (xs.take n) (us.take n)
 | _,_,0,_=>.nil
 | _,_,_+1,.nil=>.nil
 | _,_,n+1,.cons r t=>.cons r (Vals.take n t)
theorem Vals.drop:∀ {xs:List V} {us:List Value} (n:Nat),Vals xs us->Vals (xs.drop n) (us.drop n)
 | _,_,0,r=>r
 | _,_,_+1,.nil=>.nil
 | _,_,n+1,.cons _ t=>Vals.drop n t
def RelO:Option V->Option Value->Prop
 | some v,some u=>RelV v u
 | none,none=>True
 | _,_=>False
def KV {κ:Type}:List (κ×V)->List (κ×Value)->Prop:=Paired fun (p:κ×V) (q:κ×Value)=>p.1=q.1/\RelV p.2 q.2
def kV:Key->V
 | .inl i=>.int i
 | .inr x=>.str x
inductive HO where
 | lst (xs:List V)
 | tup (xs:List V)
 | dK (kvs:List (Key×V))|dT (kvs:List (List Key×V))
 | set (S:Int->Bool) (n:Nat)
 | ins (C dx:Addr) (fs:List (Str×V))
 | own (x:Addr)
 | xd (fs:List (Str×V))
 | met (f x:Addr)
 | rng (lo hi:Int)
 | frz (o:Obj) (u:HO)
 | tbl (ps:Array Value)
 | ext (φ:Heap->Prop)
abbrev Hp:=Addr->Option HO
def upd (H:Hp) (a:Addr) (o:HO):Hp:=fun b=>if b=a then some o else H b
theorem bC {H:Hp} {a:Addr} {o:HO}:upd H a o a=some o:=by unfold upd;rw[ah rfl]
theorem bh {H:Hp} {a b:Addr} {o:HO} (h:b≠a):upd H a o b=H b:=by unfold upd;rw[ai h]
theorem ne_of {H:Hp} {a b:Addr} {o u:HO} (h:H a=some o) (h':H b=some u) (d:o≠u):a≠b:=by
 intro e;subst e;rw[h] at h';exact d (Option.some.inj h')
theorem g9 {H:Hp} {a b:Addr} {o:HO} (h:H a=some o) (h':H b=none):a≠b:=by
 intro e;subst e;rw[h] at h';cases h'
section
variable (P:Program) (w:World)
def ObjOk (H:Hp) (h:Heap) (a:Addr):HO->Prop
 | .lst xs=>xs.length<=sizeLine/\∃ (its:List Value) (n:Nat),Vals xs its/\h.get? a=some { cls:=.type "list",data:=.seq its.toArray n }
 | .tup xs=>xs.length<=sizeLine/\∃ its:List Value,Vals xs its/\IsTup h a its.toArray
 | .dK kvs=>kvs.length<=sizeLine/\(a == sysModules)=false/\∃ vs,KV kvs vs/\h.DictOf (cj P w) a vs
 | .dT kvs=>kvs.length<=sizeLine/\(a == sysModules)=false/\∃ xs:List (List Key×Addr×Value),
   Paired (fun (p:List Key×V) (q:List Key×Addr×Value)=>p.1=q.1/\H q.2.1=some (.tup (p.1.map kV))/\RelV p.2 q.2.2) kvs xs /\
   ∃ o es ep,h.get? a=some o/\o.ExactDict/\o.data=.dict es ep/\es.toList=xs.map (entryOfKey (tupleKind (cj P w)))/\(xs.map (·.1)).Nodup
 | .set S n=>h.SetOf (intKind P w) a S n
 | .ins C dx fs=>H dx=some (.own a)/\fs.length<=1000/\dx≠a/\h.get? a=some (PySem.W.instObj C dx) /\
   ∃ mA,h.Ns1 dx mA/\(∀ f,RelO (fs.lookup f) (mA f))/\PySem.Within mA (fs.map (·.1))
 | .own _=>∃ o,h.get? a=some o
 | .xd fs=>∃ mA,h.Ns1 a mA/\∀ f,RelO (fs.lookup f) (mA f)
 | .rng lo hi=>∃ t u v,h.get? a=some { cls:=.type "range",data:=.fields #[.int lo t,.int hi u,.int 1 v] }
 | .frz o u=>h.get? a=some o/\ObjOk H h a u
 | .tbl ps=>h.get? a=some { cls:=.none,data:=.fields ps }
 | .met f x=>h.get? a=some (PySem.W.methodObj (.ref f) (.ref x))
 | .ext φ=>φ h/\(∃ o,h.get? a=some o)/\∀ h1 h2:Heap,φ h1->(∀ o,h1.get? a=some o->h2.get? a=some o)->φ h2
def HOk (H:Hp) (h:Heap):Prop:=∀ a o,H a=some o->ObjOk P w H h a o
end
section
variable {P:Program} {w:World} {H H':Hp} {h h':Heap} {a:Addr} {o:HO}
theorem ObjOk.lt (x:ObjOk P w H h a o):a < h.objs.size:=by
 cases o with
 | lst xs=>obtain ⟨j,j,j,j,e⟩:=x;exact aV e
 | tup xs=>obtain ⟨j,j,j,p⟩:=x;exact p.lt
 | dK kvs=>obtain ⟨j,j,j,j,o,j,j,e,j⟩:=x;exact aV e
 | dT kvs=>obtain ⟨j,j,j,j,o,j,j,e,j⟩:=x;exact aV e
 | set S n=>obtain ⟨o,j,j,j,e,j⟩:=x;exact aV e
 | ins C dx fs=>obtain ⟨j,j,j,e,j⟩:=x;exact aV e
 | own y=>obtain ⟨j,e⟩:=x;exact aV e
 | xd fs=>obtain ⟨j,⟨j,j,j,e,j⟩,j⟩:=x;exact aV e
 | rng lo hi=>obtain ⟨j,j,j,e⟩:=x;exact aV e
 | frz ob u=>obtain ⟨e,j⟩:=x;exact aV e
 | tbl ps=>exact aV (show h.get? a=some _ from x)
 | met f y=>exact aV (show h.get? a=some _ from x)
 | ext φ=>obtain ⟨j,⟨j,e⟩,j⟩:=x;exact aV e
theorem Paired.mapP {α β:Type} {F G:α->β->Prop} {l₁:List α} {l₂:List β} (h:Paired F l₁ l₂) (f:∀ a b,F a b->G a b):Paired G l₁ l₂:=by
 induction h with
 | nil=>exact .nil
 | cons r _ ih=>exact .cons (f _ _ r) ih
theorem ObjOk.stay (x:ObjOk P w H h a o) (k:∀ b u,(b=a\/H b=some (.own a))->h.get? b=some u->h'.get? b=some u)
  (ho:∀ b,H b=some (.own a)->H' b=some (.own a)) (ht:∀ b xs,H b=some (.tup xs)->H' b=some (.tup xs)):ObjOk P w H' h' a o:=by
 induction o with
 | lst xs=>obtain ⟨z,its,n,r,e⟩:=x;exact ⟨z,its,n,r,k _ _ (.inl rfl) e⟩
 | tup xs=>obtain ⟨z,its,r,ob,e,c⟩:=x;exact ⟨z,its,r,ob,k _ _ (.inl rfl) e,c⟩
 | dK kvs=>obtain ⟨z,y,vs,r,ob,es,ep,e,c⟩:=x;exact ⟨z,y,vs,r,ob,es,ep,k _ _ (.inl rfl) e,c⟩
 | dT kvs =>
  obtain ⟨z,y,xs,r,ob,es,ep,e,c⟩:=x
  exact ⟨z,y,xs,Paired.mapP r fun p q z=>⟨z.1,ht _ _ z.2.1,z.2.2⟩,ob,es,ep,k _ _ (.inl rfl) e,c⟩
 | set S n=>obtain ⟨ob,es,ep,t,e,c⟩:=x;exact ⟨ob,es,ep,t,k _ _ (.inl rfl) e,c⟩
 | ins C dx fs =>
  obtain ⟨d,z,ne,e,mA,⟨od,es,ep,e2,c⟩,r⟩:=x
  exact ⟨ho _ d,z,ne,k _ _ (.inl rfl) e,mA,⟨od,es,ep,k _ _ (.inr d) e2,c⟩,r⟩
 | own y=>obtain ⟨ob,e⟩:=x;exact ⟨ob,k _ _ (.inl rfl) e⟩
 | xd fs=>obtain ⟨mA,⟨od,es,ep,e,c⟩,r⟩:=x;exact ⟨mA,⟨od,es,ep,k _ _ (.inl rfl) e,c⟩,r⟩
 | rng lo hi=>obtain ⟨t,u,v,e⟩:=x;exact ⟨t,u,v,k _ _ (.inl rfl) e⟩
 | frz ob u ih=>obtain ⟨e,q⟩:=x;exact ⟨k _ _ (.inl rfl) e,ih q⟩
 | tbl ps =>
  have e:h.get? a=some { cls:=.none,data:=.fields ps }:=x
  show h'.get? a=some { cls:=.none,data:=.fields ps }
  exact k a _ (.inl rfl) e
 | met f y =>
  have e:h.get? a=some (PySem.W.methodObj (.ref f) (.ref y)):=x
  show h'.get? a=some (PySem.W.methodObj (.ref f) (.ref y))
  exact k a _ (.inl rfl) e
 | ext φ=>obtain ⟨p,⟨o,e⟩,st⟩:=x;exact ⟨st _ _ p fun o q=>k _ _ (.inl rfl) q,⟨o,k _ _ (.inl rfl) e⟩,st⟩
theorem HOk.lt (x:HOk P w H h) (e:H a=some o):a < h.objs.size:=(x a o e).lt
theorem HOk.fresh (x:HOk P w H h) (e:h.objs.size<=a):H a=none:=by
 cases q:H a with
 | none=>rfl
 | some u=>exact absurd (cq (x.lt q) e) (fQ _)
theorem HOk.kept (x:HOk P w H h) (k:∀ b u,h.get? b=some u->h'.get? b=some u):HOk P w H h':=fun a o e =>
 (x a o e).stay (fun b u j q=>k b u q) (fun j q=>q) fun j j q=>q
theorem HOk.laid (x:HOk P w H h) (k:∀ b u,h.get? b=some u->h'.get? b=some u) (hp:h.objs.size<=a) (new:ObjOk P w (upd H a o) h' a o):HOk P w (upd H a o) h':=fun b u e=>by
 have hn:=x.fresh hp
 by_cases hb:b=a
 .subst hb;rw[bC] at e;cases e;exact new
 .rw[bh hb] at e
  exact (x b u e).stay (fun c v j q=>k c v q) (fun c q=>by rw[bh (g9 q hn)];exact q) fun c xs q=>by rw[bh (g9 q hn)];exact q
end
def Rd (H:Hp) (a:Addr) (u:HO):Prop:=H a=some u\/∃ o,H a=some (.frz o u)
theorem Rd.ok {P:Program} {w:World} {H:Hp} {h:Heap} {a:Addr} {u:HO} (r:Rd H a u) (x:HOk P w H h):ObjOk P w H h a u:=by
 rcases r with r|⟨o,r⟩
 .exact x a u r
 .obtain ⟨j,q⟩:=x a _ r
  exact q
def Mut:Option HO->Prop
 | some (.lst _)=>True
 | some (.dK _)=>True
 | some (.dT _)=>True
 | some (.set _ _)=>True
 | some (.ins _ _ _)=>True
 | some (.ext _)=>True
 | _=>False
section
variable {P:Program} {w:World} {H:Hp} {h h':Heap} {x e:Addr} {o':HO}
theorem HOk.write (ok:HOk P w H h) (mu:Mut (H x)) (he:e=x\/H e=some (.own x)) (k:∀ b u,b≠e->h.get? b=some u->h'.get? b=some u) (heo:∃ u,h'.get? e=some u)
  (new:ObjOk P w (upd H x o') h' x o'):HOk P w (upd H x o') h':=fun b u q=>by
 have nown:∀ c y,H c=some (.own y)->c≠x:=fun c y r z=>by subst z;rw[r] at mu;exact mu
 have ntup:∀ c xs,H c=some (.tup xs)->c≠x:=fun c xs r z=>by subst z;rw[r] at mu;exact mu
 by_cases hb:b=x
 .subst hb;rw[bC] at q;cases q;exact new
 .rw[bh hb] at q
  by_cases hbe:b=e
  .have q':H b=some (.own x):=by
    rcases he with z|z
    .exact absurd (hbe.trans z) hb
    .rw[hbe];exact z
   rw[q] at q';cases q'
   obtain ⟨v,hv⟩:=heo
   exact ⟨v,by rw[hbe];exact hv⟩
  .refine (ok b u q).stay (fun c v hc r=>k c v ?_ r) (fun c r=>by rw[bh (nown c b r)];exact r) fun c xs r=>by rw[bh (ntup c xs r)];exact r
   rcases hc with rfl|hc
   .exact hbe
   .rintro rfl
    rcases he with z|z
    .exact nown c b hc z
    .rw[hc] at z;cases z;exact hb rfl
end
structure Un (fs ex:List Addr) (H H':Hp) (h h':Heap):Prop where
 keep:∀ b o,h.get? b=some o->H b=none->b∉fs->b∉ex->h'.get? b=some o
 slot:∀ b o,h.get? b=some o->H b=none->b∈fs->b∉ex->∃ sl,h'.get? b=some { o with slots:=sl }
 free:∀ b o,h.get? b=some o->H b=none->b∉ex->H' b=none
 there:∀ b o,h.get? b=some o->b∉ex->∃ o',h'.get? b=some o'
 tups:∀ b xs,H b=some (.tup xs)->H' b=some (.tup xs)
 frzs:∀ b o u,H b=some (.frz o u)->H' b=some (.frz o u)
 tbls:∀ b ps,H b=some (.tbl ps)->∃ more,H' b=some (.tbl (ps++more))
section
variable {fs fs' ex ex':List Addr} {H H1 H2:Hp} {h h1 h2 h':Heap} {a x e:Addr} {o:HO}
theorem Un.any (u:Un fs ex H H1 h h1) {b:Addr} {ob:Obj} (q:h.get? b=some ob) (n:H b=none) (hx:b∉ex):∃ sl,h1.get? b=some { ob with slots:=sl }:=by
 by_cases hb:b∈fs
 .exact u.slot b ob q n hb hx
 .exact ⟨ob.slots,u.keep b ob q n hb hx⟩
theorem Un.kept (k:∀ b u,h.get? b=some u->h'.get? b=some u):Un fs ex H H h h' :=
 ⟨fun b ob q j j j=>k b ob q,fun b ob q j j j=>⟨ob.slots,k b ob q⟩,fun j j j n j=>n,fun b ob q j=>⟨ob,k b ob q⟩,fun j j q=>q,fun j j j q=>q,fun j ps q=>⟨#[],by rw[q];simp⟩⟩
theorem Un.refl:Un fs ex H H h h:=Un.kept fun j j q=>q
theorem Un.laid (k:∀ b u,h.get? b=some u->h'.get? b=some u) (hp:h.objs.size<=a) (hn:H a=none):Un fs ex H (upd H a o) h h' where
 keep:=fun b u q j j j=>k b u q
 slot:=fun b u q j j j=>⟨u.slots,k b u q⟩
 free:=fun b u q n j=>by rw[bh (bK (cq (aV q) hp))];exact n
 there:=fun b u q j=>⟨u,k b u q⟩
 tups:=fun b xs q=>by rw[bh (g9 q hn)];exact q
 frzs:=fun b u xs q=>by rw[bh (g9 q hn)];exact q
 tbls:=fun b ps q=>⟨#[],by rw[bh (g9 q hn),q];simp⟩
theorem Un.write (mu:Mut (H x)) (he:e=x\/H e=some (.own x)) (k:∀ b u,b≠e->h.get? b=some u->h'.get? b=some u) (heo:∃ u,h'.get? e=some u):Un fs ex H (upd H x o) h h':=by
 have hx:∀ b,H b=none->b≠x:=fun b n z=>by subst z;rw[n] at mu;exact mu
 have hb:∀ b,H b=none->b≠e:=fun b n z=>by
  subst z
  rcases he with r|r
  .exact hx b n r
  .rw[n] at r;cases r
 have hm:∀ b u,H b=some u->¬ Mut (some u)->b≠x:=fun b u q nm z=>by subst z;rw[q] at mu;exact nm mu
 refine ⟨fun b u q n j j=>k b u (hb b n) q,fun b u q n j j=>⟨u.slots,k b u (hb b n) q⟩,fun b u q n j=>by rw[bh (hx b n)];exact n,fun b u q j=>?_,
  fun b xs q=>by rw[bh (hm b _ q fun z=>z)];exact q,fun b u xs q=>by rw[bh (hm b _ q fun z=>z)];exact q,fun b ps q=>⟨#[],by rw[bh (hm b _ q fun z=>z),q];simp⟩⟩
 by_cases hbe:b=e
 .subst hbe;exact heo
 .exact ⟨u,k b u hbe q⟩
end
def trk (h:Heap) (H:Hp):List Addr:=(List.range h.objs.size).filter fun a=>(H a).isSome
def hidT (h:Heap) (H:Hp):Heap:=PySem.W.hideAll h (trk h H)
theorem ZkT (h:Heap) (H:Hp):(hidT h H).objs.size=h.objs.size:=PySem.W.hideAll_size _ _
theorem Zl3 {h:Heap} {H:Hp} {b:Addr} {o:Obj} (e:h.get? b=some o) (n:H b=none):(hidT h H).get? b=some o :=
 PySem.W.hideAll_get _ e fun hm=>by
  have q:(H b).isSome=true:=(mem_filter.mp hm).2
  rw[n] at q;simp at q
theorem ZnG {h:Heap} {H:Hp} {b:Addr} {o:Obj} (e:(hidT h H).get? b=some o):h.get? b=some o/\H b=none:=by
 have e':h.get? b=some o:=PySem.W.of_hideAll (trk h H) e
 refine ⟨e',?_⟩
 cases q:H b with
 | none=>rfl
 | some x =>
  have hm:b∈trk h H:=mem_filter.mpr ⟨gx.mpr (aV e'),by simp[q]⟩
  have z:(hidT h H).get? b=none:=PySem.W.hideAll_none (trk h H) hm
  rw[z] at e;cases e
def Zn8 (g h:Heap) (L:Addr):List (Addr×Obj):=(List.range h.objs.size).filterMap fun a=>if a=L\/(g.get? a).isSome=true then none else (h.get? a).map fun o=>(a,o)
def rest (g h:Heap) (L d:Addr):List (Addr×Obj):=(Zn8 g h L).filter fun p=>decide (p.1≠d)
end L2
namespace L2
open PySem PySem.Spec PyProof.Rows
structure Mod (K:W.Frag) (mg:Str->Option Value) (base:Heap):Prop where
 kin:K.In base
 glob:base.Ns mainGlobals mg
 blt:∃ mb,base.Ns builtinsNs mb/\∀ x:Str,x≠"__name__"->mb x=bootBuiltins x
 nolimit:base.NoLimit
structure Cx where
 prog:Program
 w:World
 K:W.Frag
 mg:Str->Option Value
 base:Heap
 A:Around
 N:List Str
 s₀:Shared
 H₀:Hp
 env:Env
 outer:List Env
 stack:List Env
 ex:List Addr
 fn:Str->Bool
 calm:Bool
 pn:List (Addr×Obj)
 xe:Value->Shared->Prop
def frs (l:List Env):List Addr:=l.filterMap (·.frame)
abbrev Cx.fs (X:Cx):List Addr:=frs X.outer
def Vis (sc:Scope) (x:Str):Prop:=sc.names.lookup x=some .local\/sc.names.lookup x=some .cell\/sc.names.lookup x=some .free
def Loc (sc:Scope) (x:Str):Prop:=sc.names.lookup x=some .local\/sc.names.lookup x=some .cell
def Look (env:Env) (h:Heap) (m:Str->Option Value) (x:Str) (u:Value):Prop :=
 (env.kindOf x=some .local/\m x=some u)\/((env.kindOf x=some .cell\/env.kindOf x=some .free)/\∃ c,env.cells.lookup x=some c/\h.IsCell c (some u))
structure Cx.Ok (X:Cx):Prop where
 mod:Mod X.K X.mg X.base
 kind:X.env.scope.kind=.function
 glob:X.env.globals=mainGlobals
 blt:X.env.builtins=builtinsNs
 above:X.s₀.heap.objs.size<=X.env.locals
 inj:∀ x y c,X.env.cells.lookup x=some c->X.env.cells.lookup y=some c->x=y
 has:∀ x,(X.env.kindOf x=some .cell\/X.env.kindOf x=some .free)->∃ c,X.env.cells.lookup x=some c
 cab:∀ x c,X.fn x=true->X.env.cells.lookup x=some c->X.s₀.heap.objs.size<=c
 hd:X.calm=true->X.A.handled=none
 frames:X.A.frames=some X.stack
 stk:X.stack=X.outer\/(X.stack=X.env::X.outer/\X.env.frame=some X.env.locals)
 exf:∀ b∈X.ex,b≠X.env.locals/\∀ x c,X.env.cells.lookup x=some c->c≠b
 bs:∀ b o,X.base.get? b=some o->X.s₀.heap.get? b=some o/\X.H₀ b=none
 bsz:X.base.objs.size<=X.s₀.heap.objs.size
 noex:∀ b o,X.base.get? b=some o->b∉X.ex
 exfs:∀ b∈X.ex,b∉X.fs
 funs:X.s₀.heap.FunFrames X.base X.outer
 frf:∀ b∈X.fs,X.H₀ b=none
structure Inv (X:Cx) (pins:List (Addr×Obj)) (Z:List (Option V)) (H:Hp) (s:Shared):Prop where
 ok:X.Ok
 os:s.os=X.s₀.os
 bare:AllBare s.gens
 base:Un X.fs X.ex X.H₀ H X.s₀.heap s.heap
 loc:∃ m,s.heap.Ns X.env.locals m/\∀ (i:Nat) (x:Str) (v:V),X.N[i]?=some x->Z[i]?=some (some v)->Vis X.env.scope x->∃ u,RelV v u/\Look X.env s.heap m x u
 cell:∀ x c,X.env.cells.lookup x=some c->∃ v,s.heap.IsCell c v
 free:H X.env.locals=none
 freeC:∀ x c,X.env.cells.lookup x=some c->H c=none
 pin:∀ p∈X.pn++pins,s.heap.get? p.1=some p.2/\H p.1=none/\p.1≠X.env.locals/\p.1∉X.fs/\∀ v,p.2.data≠.cell v
 hok:HOk X.prog X.w H s.heap
 len:Z.length=X.N.length
section
variable {X:Cx} {pins:List (Addr×Obj)} {Z:List (Option V)} {H H':Hp} {s:Shared} {h':Heap}
theorem Cx.Ok.nofr (ok:X.Ok) {b:Addr} {o:Obj} (e:X.base.get? b=some o):b∉X.fs:=fun hb=>by
 have:=(ok.funs.mem hb).1
 rw[e] at this;cases this
theorem Inv.bs (I:Inv X pins Z H s):∀ b o,X.base.get? b=some o->s.heap.get? b=some o/\H b=none:=fun b o e =>
 ⟨I.base.keep b o (I.ok.bs b o e).1 (I.ok.bs b o e).2 (I.ok.nofr e) (I.ok.noex b o e),I.base.free b o (I.ok.bs b o e).1 (I.ok.bs b o e).2 (I.ok.noex b o e)⟩
theorem Inv.bk (I:Inv X pins Z H s):∀ b o,X.base.get? b=some o->s.heap.get? b=some o:=fun b o e=>(I.bs b o e).1
theorem Inv.mod (I:Inv X pins Z H s):Mod X.K X.mg X.base:=I.ok.mod
theorem Inv.kIn (I:Inv X pins Z H s):X.K.In s.heap:=I.ok.mod.kin.keeps I.bk
theorem Inv.lt (I:Inv X pins Z H s):X.env.locals < s.heap.objs.size:=let ⟨_,hn,_⟩:=I.loc;hn.lt
theorem Inv.sz (I:Inv X pins Z H s):X.s₀.heap.objs.size<=s.heap.objs.size:=aR I.ok.above (ft I.lt)
theorem Inv.nofs (I:Inv X pins Z H s) {a:Addr} (h:s.heap.objs.size<=a):a∉X.fs:=fun hb=>by
 obtain ⟨j,o,ho,j⟩:=I.ok.funs.mem hb
 exact absurd (cq (aV ho) (aR I.sz h)) (fQ _)
theorem Inv.cne (I:Inv X pins Z H s):∀ x c,X.env.cells.lookup x=some c->c≠X.env.locals:=fun x c e z=>by
 obtain ⟨v,o,ho,hd⟩:=I.cell x c e
 obtain ⟨m,⟨o',es,ep,ho',hd',j⟩,j⟩:=I.loc
 rw[z,ho'] at ho;cases ho;rw[hd'] at hd;cases hd
theorem Inv.funs (I:Inv X pins Z H s):s.heap.FunFrames X.base X.outer:=by
 have all:∀ (l:List Env),(∀ b∈frs l,b∈X.fs)->X.s₀.heap.FunFrames X.base l->s.heap.FunFrames X.base l:=by
  intro l
  induction l with
  | nil=>intro j j;trivial
  | cons env r ih =>
   intro hs hl
   obtain ⟨hk,⟨L,o,hf,hn,ho,hd⟩,hr⟩:=hl
   have hL:L∈X.fs:=hs L (by unfold frs;rw[filterMap_cons,hf];exact bi)
   obtain ⟨sl,e⟩:=I.base.slot L o ho (I.ok.frf L hL) hL fun z=>I.ok.exfs L z hL
   exact ⟨hk,⟨L,_,hf,hn,e,hd⟩,ih (fun b hb=>hs b (by unfold frs;rw[filterMap_cons,hf];exact bH _ hb)) hr⟩
 exact all X.outer (fun j hb=>hb) I.ok.funs
theorem Inv.stack (I:Inv X pins Z H s):s.heap.FunFrames X.base X.stack:=by
 rcases I.ok.stk with e|⟨e,hf⟩
 .rw[e];exact I.funs
 .rw[e]
  obtain ⟨m,hn,j⟩:=I.loc
  refine .cons (by rw[I.ok.kind];decide) hf hn ?_ I.funs
  exact Heap.get?_none_of_le (aR I.ok.bsz I.ok.above)
theorem Inv.stkSub (I:Inv X pins Z H s):∀ b∈frs X.stack,b∈X.env.locals::X.fs:=fun b hb=>by
 rcases I.ok.stk with e|⟨e,hf⟩
 .rw[e] at hb;exact bH _ hb
 .rw[e] at hb
  unfold frs at hb
  rw[filterMap_cons,hf] at hb
  exact hb
theorem Inv.stkFree (I:Inv X pins Z H s):∀ b∈frs X.stack,H b=none:=fun b hb=>by
 rcases aG.mp (I.stkSub b hb) with e|hb
 .rw[e];exact I.free
 .obtain ⟨j,o,ho,j⟩:=I.ok.funs.mem hb
  exact I.base.free b o ho (I.ok.frf b hb) fun z=>I.ok.exfs b z hb
theorem Inv.step {g':Array GenState} {t':Nat} {d':Drawn} {ch:List Addr} (I:Inv X pins Z H s)
  (hch:∀ b∈ch,(b∈X.ex\/X.s₀.heap.objs.size<=b)/\b≠X.env.locals/\(∀ x c,X.env.cells.lookup x=some c->c≠b)/\∀ p∈X.pn++pins,p.1≠b)
  (keep:∀ b o,b≠X.env.locals->b∉X.fs->b∉ch->s.heap.get? b=some o->H b=none->h'.get? b=some o)
  (slot:∀ b o,b≠X.env.locals->b∈X.fs->b∉ch->s.heap.get? b=some o->H b=none->∃ sl,h'.get? b=some { o with slots:=sl }) (free:∀ b o,b∉ch->s.heap.get? b=some o->H b=none->H' b=none)
  (there:∀ b o,b∉ch->s.heap.get? b=some o->∃ o',h'.get? b=some o')
  (tups:∀ b xs,H b=some (.tup xs)->H' b=some (.tup xs)) (frzs:∀ b o u,H b=some (.frz o u)->H' b=some (.frz o u)) (tbls:∀ b ps,H b=some (.tbl ps)->∃ more,H' b=some (.tbl (ps++more)))
  (ns:∀ m,s.heap.Ns X.env.locals m->h'.Ns X.env.locals m) (hok:HOk X.prog X.w H' h') (hg:AllBare g') :
  Inv X pins Z H' { s with heap:=h',gens:=g',drawn:=d',toks:=t' }:=by
 have neL:∀ b o,X.s₀.heap.get? b=some o->b≠X.env.locals:=fun b o e=>bK (cq (aV e) I.ok.above)
 have neC:∀ b o,X.s₀.heap.get? b=some o->b∉X.ex->b∉ch:=fun b o e hx hb=>by
  rcases (hch b hb).1 with z|z
  .exact hx z
  .exact absurd (cq (aV e) z) (fQ _)
 have cellK:∀ x c,X.env.cells.lookup x=some c->∀ v,s.heap.IsCell c v->h'.IsCell c v:=fun x c e v ⟨o,ho,hd⟩=>by
  have nch:c∉ch:=fun z=>(hch c z).2.2.1 x c e rfl
  by_cases hc:c∈X.fs
  .obtain ⟨sl,q⟩:=slot c o (I.cne x c e) hc nch ho (I.freeC x c e)
   exact ⟨_,q,hd⟩
  .exact ⟨o,keep c o (I.cne x c e) hc nch ho (I.freeC x c e),hd⟩
 refine ⟨I.ok,I.os,hg,⟨fun b o e n hb hx=>?_,fun b o e n hb hx=>?_,fun b o e n hx=>?_,fun b o e hx=>?_,fun b xs e=>tups b xs (I.base.tups b xs e),fun b o xs e=>frzs b o xs (I.base.frzs b o xs e),fun b ps e=>?_⟩,?_,fun x c e=>?_,?_,fun x c e=>?_,fun p hp=>?_,hok,I.len⟩
 .exact keep b o (neL b o e) hb (neC b o e hx) (I.base.keep b o e n hb hx) (I.base.free b o e n hx)
 .obtain ⟨sl,e1⟩:=I.base.slot b o e n hb hx
  obtain ⟨sl',e2⟩:=slot b _ (neL b o e) hb (neC b o e hx) e1 (I.base.free b o e n hx)
  exact ⟨sl',e2⟩
 .obtain ⟨o',e1⟩:=I.base.there b o e hx
  exact free b o' (neC b o e hx) e1 (I.base.free b o e n hx)
 .obtain ⟨o',e1⟩:=I.base.there b o e hx
  exact there b o' (neC b o e hx) e1
 .obtain ⟨m1,e1⟩:=I.base.tbls b ps e
  obtain ⟨m2,e2⟩:=tbls b _ e1
  exact ⟨m1++m2,by rw[e2,Array.append_assoc]⟩
 .obtain ⟨m,hn,hl⟩:=I.loc
  refine ⟨m,ns m hn,fun i x v e1 e2 e3=>?_⟩
  obtain ⟨u,r,l⟩:=hl i x v e1 e2 e3
  refine ⟨u,r,?_⟩
  rcases l with l|⟨k,c,e,z⟩
  .exact .inl l
  .exact .inr ⟨k,c,e,cellK x c e _ z⟩
 .obtain ⟨v,z⟩:=I.cell x c e
  exact ⟨v,cellK x c e v z⟩
 .obtain ⟨m,⟨o,j,j,ho,j⟩,j⟩:=I.loc
  exact free _ o (fun z=>(hch _ z).2.1 rfl) ho I.free
 .obtain ⟨v,o,ho,hd⟩:=I.cell x c e
  exact free c o (fun z=>(hch c z).2.2.1 x c e rfl) ho (I.freeC x c e)
 .obtain ⟨e,n,ne,nf,d⟩:=I.pin p hp
  have nch:p.1∉ch:=fun z=>(hch p.1 z).2.2.2 p hp rfl
  exact ⟨keep p.1 p.2 ne nf nch e n,free p.1 p.2 nch e n,ne,nf,d⟩
theorem Inv.un {t':Nat} (I:Inv X pins Z H s) (u:Un X.fs [] H H' s.heap h') (hok:HOk X.prog X.w H' h'):Inv X pins Z H' { s with heap:=h',toks:=t' }:=by
 obtain ⟨m,⟨o,es,ep,ho,r⟩,j⟩:=id I.loc
 obtain ⟨sl,hL⟩:=u.any ho I.free (by simp)
 exact I.step (g':=s.gens) (d':=s.drawn) (ch:=[]) (fun j z=>nomatch z) (fun b o j hb j e n=>u.keep b o e n hb (by simp)) (fun b o j hb j e n=>u.slot b o e n hb (by simp)) (fun b o j e n=>u.free b o e n (by simp)) (fun b o j e=>u.there b o e (by simp)) u.tups u.frzs u.tbls (fun m' hm=>by
  obtain ⟨o',es',ep',ho',r'⟩:=hm
  rw[ho] at ho';cases ho'
  exact ⟨_,es',ep',hL,r'⟩) hok I.bare
theorem Inv.call {g':Array GenState} {t':Nat} {d':Drawn} {ch:List Addr} (I:Inv X pins Z H s) (u:Un (frs X.stack) ch H H' s.heap h') (hok:HOk X.prog X.w H' h') (hg:AllBare g')
  (hch:∀ b∈ch,(b∈X.ex\/X.s₀.heap.objs.size<=b)/\b≠X.env.locals/\(∀ x c,X.env.cells.lookup x=some c->c≠b)/\∀ p∈X.pn++pins,p.1≠b) :
  Inv X pins Z H' { s with heap:=h',gens:=g',drawn:=d',toks:=t' }:=by
 obtain ⟨m,⟨o,es,ep,ho,r⟩,j⟩:=id I.loc
 obtain ⟨sl,hL⟩:=u.any ho I.free fun z=>(hch _ z).2.1 rfl
 exact I.step (ch:=ch) hch (fun b o hL hb hc e n=>u.keep b o e n (fun z=>(aG.mp (I.stkSub b z)).elim hL hb) hc) (fun b o j j hc e n=>u.any e n hc) (fun b o hc e n=>u.free b o e n hc) (fun b o hc e=>u.there b o e hc) u.tups u.frzs u.tbls (fun m' hm=>by
  obtain ⟨o',es',ep',ho',r'⟩:=hm
  rw[ho] at ho';cases ho'
  exact ⟨_,es',ep',hL,r'⟩) hok hg
theorem Inv.turned {t':Nat} {it:Addr} (I:Inv X pins Z H s) (k:∀ b o,b≠it->s.heap.get? b=some o->h'.get? b=some o) (hn:H it=none) (hL:it≠X.env.locals)
  (h1:it∈X.ex\/X.s₀.heap.objs.size<=it) (h2:∀ x c,X.env.cells.lookup x=some c->c≠it) (h3:∀ p∈X.pn++pins,p.1≠it):Inv X pins Z H { s with heap:=h',toks:=t' }:=by
 have nit:∀ b u,H b=some u->b≠it:=fun b u e z=>by rw[z,hn] at e;cases e
 refine I.step (g':=s.gens) (d':=s.drawn) (ch:=[it]) (fun b hb=>?_) (fun b o j j hc e j=>k b o (fun z=>hc (by simp[z])) e) (fun b o j j hc e j=>⟨o.slots,k b o (fun z=>hc (by simp[z])) e⟩) (fun j j j j n=>n)
  (fun b o hc e=>⟨o,k b o (fun z=>hc (by simp[z])) e⟩) (fun j j e=>e) (fun j j j e=>e) (fun b ps e=>⟨#[],by rw[e];simp⟩) (fun m hm=>?_) (fun b u e=>?_) I.bare
 .have e:b=it:=by simpa using hb
  subst e
  exact ⟨h1,hL,h2,h3⟩
 .obtain ⟨o,es,ep,ho,r⟩:=hm
  exact ⟨o,es,ep,k _ o (Ne.symm hL) ho,r⟩
 .refine (I.hok b u e).stay (fun c v hc q=>k c v ?_ q) (fun j q=>q) fun j j q=>q
  rcases hc with z|z
  .rw[z];exact nit b u e
  .exact nit c _ z
theorem Inv.tok (I:Inv X pins Z H s) (t:Nat):Inv X pins Z H { s with toks:=t }:=I.un (h':=s.heap) (t':=t) Un.refl I.hok
theorem Inv.kept {t':Nat} (I:Inv X pins Z H s) (k:∀ b u,s.heap.get? b=some u->h'.get? b=some u):Inv X pins Z H { s with heap:=h',toks:=t' }:=I.un (Un.kept k) (I.hok.kept k)
theorem Inv.laid {a:Addr} {o:HO} {t':Nat} (I:Inv X pins Z H s) (k:∀ b u,s.heap.get? b=some u->h'.get? b=some u) (hp:s.heap.objs.size<=a) (new:ObjOk X.prog X.w (upd H a o) h' a o) :
  Inv X pins Z (upd H a o) { s with heap:=h',toks:=t' }:=I.un (Un.laid k hp (I.hok.fresh hp)) (I.hok.laid k hp new)
theorem Inv.write {x e:Addr} {o:HO} {t':Nat} (I:Inv X pins Z H s) (mu:Mut (H x)) (he:e=x\/H e=some (.own x)) (k:∀ b u,b≠e->s.heap.get? b=some u->h'.get? b=some u) (heo:∃ u,h'.get? e=some u)
  (new:ObjOk X.prog X.w (upd H x o) h' x o):Inv X pins Z (upd H x o) { s with heap:=h',toks:=t' }:=I.un (Un.write mu he k heo) (I.hok.write mu he k heo new)
theorem Inv.pins_of {pins':List (Addr×Obj)} (I:Inv X pins Z H s) (h:∀ p∈pins',s.heap.get? p.1=some p.2/\H p.1=none/\p.1≠X.env.locals/\p.1∉X.fs/\∀ v,p.2.data≠.cell v):Inv X pins' Z H s :=
 ⟨I.ok,I.os,I.bare,I.base,I.loc,I.cell,I.free,I.freeC,fun p hp=>(aI.mp hp).elim (fun z=>I.pin p (cU _ z)) (h p),I.hok,I.len⟩
theorem sF {N:List Str} (hN:N.Nodup) {i j:Nat} {x:Str} (a:N[i]?=some x) (b:N[j]?=some x):i=j:=by
 obtain ⟨h1,e1⟩:=ba.mp a
 obtain ⟨h2,e2⟩:=ba.mp b
 exact (getElem_inj hN).mp (e1.trans e2.symm)
theorem tf {M:Model} {A:Around} {E:Value->Shared->Prop} {i:Nat} {x:Str} {v:V} {u:Value} {Q:Unit->Shared->Prop} (I:Inv X pins Z H s) (hN:X.N.Nodup) (hi:X.N[i]?=some x) (hx:Loc X.env.scope x) (r:RelV v u)
  (h:∀ s',Inv X pins (Z.set i (some v)) H s'->(∃ a,Heap.SameBut a s.heap s'.heap/\(a=X.env.locals\/X.env.cells.lookup x=some a))->Q () s') (hf:X.fn x=true\/X.env.scope.names.lookup x=some .local:=by first|exact .inl rfl|exact .inr rfl|assumption):wpAny M A (storeName X.env x u) Q E s:=by
 obtain ⟨m,hn,hl⟩:=id I.loc
 have hcls:(X.env.scope.kind == .class || (X.env.scope.kind == .module && X.env.locals != X.env.globals))=false:=by rw[I.ok.kind];rfl
 have hiσ:i < Z.length:=by rw[I.len];exact (ba.mp hi).1
 have cne:=I.cne
 have tracked:∀ {a:Addr} {h':Heap},(∃ o,s.heap.get? a=some o/\H a=none)->Heap.SameBut a s.heap h'->HOk X.prog X.w H h':=fun {a h'} ha hs b ob e=>by
  obtain ⟨t,t,hfree⟩:=ha
  refine (I.hok b ob e).stay (fun c w' hc q=>(hs.2 c ?_).trans q) (fun t q=>q) fun t t q=>q
  rintro rfl
  rcases hc with rfl|hc
  .rw[hfree] at e;cases e
  .rw[hfree] at hc;cases hc
 rcases hx with hk|hk
 .refine wpAny_storeName_local hk hn (fun h' hn' hs=>?_) hcls
  obtain ⟨oL,t,t,hoL,t⟩:=id hn
  refine h _ ⟨I.ok,I.os,I.bare,⟨fun b o e n hb hx=>?_,fun b o e n hb hx=>?_,I.base.free,fun b o e hx=>?_,I.base.tups,I.base.frzs,I.base.tbls⟩,⟨_,hn',fun j y v' e1 e2 e3=>?_⟩,fun y c e=>?_,I.free,I.freeC,fun p hp=>?_,tracked ⟨oL,hoL,I.free⟩ hs,by simpa using I.len⟩ ⟨_,hs,.inl rfl⟩
  .exact (hs.2 b (bK (cq (aV e) I.ok.above))).trans (I.base.keep b o e n hb hx)
  .obtain ⟨sl,e1⟩:=I.base.slot b o e n hb hx
   exact ⟨sl,(hs.2 b (bK (cq (aV e) I.ok.above))).trans e1⟩
  .obtain ⟨o',e1⟩:=I.base.there b o e hx
   exact ⟨o',(hs.2 b (bK (cq (aV e) I.ok.above))).trans e1⟩
  .by_cases hj:j=i
   .subst hj
    rw[hi] at e1;cases e1
    rw[jk hiσ] at e2
    cases e2
    exact ⟨u,r,.inl ⟨hk,by simp⟩⟩
   .rw[nj (Ne.symm hj)] at e2
    obtain ⟨u',r',q⟩:=hl j y v' e1 e2 e3
    refine ⟨u',r',?_⟩
    rcases q with ⟨k,e⟩|⟨k,c,e,z⟩
    .refine .inl ⟨k,?_⟩
     have:y≠x:=fun e=>hj (sF hN e1 (e▸hi))
     simp[this,e]
    .exact .inr ⟨k,c,e,z.sameBut hs (cne y c e)⟩
  .obtain ⟨w',z⟩:=I.cell y c e
   exact ⟨w',z.sameBut hs (cne y c e)⟩
  .obtain ⟨e,n,ne,nf,d⟩:=I.pin p hp
   exact ⟨(hs.2 p.1 ne).trans e,n,ne,nf,d⟩
 .have hfn:X.fn x=true:=by
   rcases hf with z|z
   .exact z
   .rw[z] at hk;cases hk
  obtain ⟨c,hc⟩:=I.ok.has x (.inl hk)
  obtain ⟨w',z⟩:=I.cell x c hc
  refine wpAny_storeName_cell I.ok.kind hk hc z (fun h' hc' hs=>?_)
  obtain ⟨oc,hoc,hocd⟩:=id z
  refine h { s with heap:=h' } ⟨I.ok,I.os,I.bare,⟨fun b o e n hb hx=>?_,fun b o e n hb hx=>?_,I.base.free,fun b o e hx=>?_,I.base.tups,I.base.frzs,I.base.tbls⟩,⟨m,hn.sameBut hs (Ne.symm (cne x c hc)),fun j y v' e1 e2 e3=>?_⟩,fun y c' e=>?_,I.free,I.freeC,fun p hp=>?_,tracked ⟨oc,hoc,I.freeC x c hc⟩ hs,by simpa using I.len⟩ ⟨c,hs,.inr hc⟩
  .exact (hs.2 b (bK (cq (aV e) (I.ok.cab x c hfn hc)))).trans (I.base.keep b o e n hb hx)
  .obtain ⟨sl,e1⟩:=I.base.slot b o e n hb hx
   exact ⟨sl,(hs.2 b (bK (cq (aV e) (I.ok.cab x c hfn hc)))).trans e1⟩
  .obtain ⟨o',e1⟩:=I.base.there b o e hx
   exact ⟨o',(hs.2 b (bK (cq (aV e) (I.ok.cab x c hfn hc)))).trans e1⟩
  .by_cases hj:j=i
   .subst hj
    rw[hi] at e1;cases e1
    rw[jk hiσ] at e2
    cases e2
    exact ⟨u,r,.inr ⟨.inl hk,c,hc,hc'⟩⟩
   .rw[nj (Ne.symm hj)] at e2
    obtain ⟨u',r',q⟩:=hl j y v' e1 e2 e3
    refine ⟨u',r',?_⟩
    rcases q with q|⟨k,c',e,z'⟩
    .exact .inl q
    .refine .inr ⟨k,c',e,z'.sameBut hs ?_⟩
     rintro rfl
     exact hj (sF hN e1 (I.ok.inj _ _ _ e hc▸hi))
  .by_cases hcc:c'=c
   .subst hcc;exact ⟨_,hc'⟩
   .obtain ⟨w2,z2⟩:=I.cell y c' e
    exact ⟨w2,z2.sameBut hs hcc⟩
  .obtain ⟨e,n,ne,nf,d⟩:=I.pin p hp
   refine ⟨(hs.2 p.1 ?_).trans e,n,ne,nf,d⟩
   intro q
   rw[q,hoc] at e
   have q':oc=p.2:=Option.some.inj e
   exact d w' (by rw[<-q'];exact hocd)
theorem sO {M:Model} {A:Around} {E:Value->Shared->Prop} {i:Nat} {x:Str} {v:V} {u:Value} {Q:Unit->Shared->Prop} (I:Inv X pins Z H s) (hN:X.N.Nodup) (hi:X.N[i]?=some x) (hx:Loc X.env.scope x) (r:RelV v u)
  (h:∀ s',Inv X pins (Z.set i (some v)) H s'->Q () s') (hf:X.fn x=true\/X.env.scope.names.lookup x=some .local:=by first|exact .inl rfl|exact .inr rfl|assumption):wpAny M A (storeName X.env x u) Q E s :=
 tf I hN hi hx r (fun s' I' j=>h s' I') hf
theorem Inv.call' {s':Shared} {ch:List Addr} (I:Inv X pins Z H s) (ho:s'.os=s.os) (u:Un (frs X.stack) ch H H' s.heap s'.heap) (hok:HOk X.prog X.w H' s'.heap) (hg:AllBare s'.gens)
  (hch:∀ b∈ch,(b∈X.ex\/X.s₀.heap.objs.size<=b)/\b≠X.env.locals/\(∀ x c,X.env.cells.lookup x=some c->c≠b)/\∀ p∈X.pn++pins,p.1≠b):Inv X pins Z H' s':=by
 obtain ⟨h',g',d',t',o'⟩:=s'
 have e:o'=s.os:=ho
 subst e
 exact I.call (g':=g') (t':=t') (d':=d') u hok hg hch
end
abbrev XK:=Value->Option Addr->Hp->Prop
abbrev St:=List (Option V)
abbrev VK:=V->Hp->Prop
abbrev TE:=St->Hp->VK->Prop
abbrev TT:=St->Hp->(Bool->Hp->Prop)->Prop
abbrev TA:=St->Hp->(List V->Hp->Prop)->Prop
structure Ends where
 nx:St->Hp->Prop
 rt:VK
 bk:St->Hp->Prop:=fun _ _=>False
 ct:St->Hp->Prop:=fun _ _=>False
abbrev TS:=Ends->St->Hp->Prop
def EP (X:Cx) (pins:List (Addr×Obj)) (Z:St) (Q:VK) (u:Value) (s':Shared):Prop:=∃ v H',Inv X pins Z H' s'/\RelV v u/\Q v H'
def TP (X:Cx) (pins:List (Addr×Obj)) (Z:St) (Q:Bool->Hp->Prop) (b:Bool) (s':Shared):Prop:=∃ H',Inv X pins Z H' s'/\Q b H'
def AP (X:Cx) (pins:List (Addr×Obj)) (Z:St) (Q:List V->Hp->Prop) (us:List Value) (s':Shared):Prop:=∃ vs H',Inv X pins Z H' s'/\Vals vs us/\Q vs H'
def SP (X:Cx) (pins:List (Addr×Obj)) (D:Ends) (f:Flow) (s':Shared):Prop :=
 match f with
 | .next=>∃ σ' H',Inv X pins σ' H' s'/\D.nx σ' H'
 | .brk=>∃ σ' H',Inv X pins σ' H' s'/\D.bk σ' H'
 | .cont=>∃ σ' H',Inv X pins σ' H' s'/\D.ct σ' H'
 | .ret u=>∃ v σ' H',Inv X pins σ' H' s'/\RelV v u/\D.rt v H'
def PE (X:Cx) (e:Expr) (t:TE):Prop :=
 ∀ (pins:List (Addr×Obj)) (s:Shared) (Z:St) (H:Hp) (Q:VK),Inv X pins Z H s->t Z H Q->wpAny (model X.prog X.w) X.A (eval e X.env) (EP X pins Z Q) X.xe s
def PT (X:Cx) (e:Expr) (t:TT):Prop :=
 ∀ (pins:List (Addr×Obj)) (s:Shared) (Z:St) (H:Hp) (Q:Bool->Hp->Prop),Inv X pins Z H s->t Z H Q->wpAny (model X.prog X.w) X.A (isTrue e X.env (eval e X.env)) (TP X pins Z Q) X.xe s
def PW (X:Cx) (e:Expr) (t:TT):Prop :=
 ∀ (whole:Sem Value) (pins:List (Addr×Obj)) (s:Shared) (Z:St) (H:Hp) (Q:Bool->Hp->Prop),Inv X pins Z H s->t Z H Q->wpAny (model X.prog X.w) X.A (isTrue e X.env whole) (TP X pins Z Q) X.xe s
theorem PW.pt {X:Cx} {e:Expr} {t:TT} (h:PW X e t):PT X e t:=h _
def PA (X:Cx) (es:List Expr) (t:TA):Prop :=
 ∀ (pos:Pos) (pins:List (Addr×Obj)) (s:Shared) (Z:St) (H:Hp) (Q:List V->Hp->Prop),Inv X pins Z H s->t Z H Q->wpAny (model X.prog X.w) X.A (spliced (backTo pos (starEach es X.env))) (AP X pins Z Q) X.xe s
def PS (X:Cx) (st:Stmt) (t:TS):Prop :=
 ∀ (pins:List (Addr×Obj)) (s:Shared) (Z:St) (H:Hp) (D:Ends),Inv X pins Z H s->t D Z H->wpAny (model X.prog X.w) X.A (exec st X.env) (SP X pins D) X.xe s
def PSs (X:Cx) (st:List Stmt) (t:TS):Prop :=
 ∀ (pins:List (Addr×Obj)) (s:Shared) (Z:St) (H:Hp) (D:Ends),Inv X pins Z H s->t D Z H->wpAny (model X.prog X.w) X.A (execs st X.env) (SP X pins D) X.xe s
theorem thn {α:Type} {t:Sem α} {Q Q':α->Shared->Prop} {M:Model} {A:Around} {E:Value->Shared->Prop} {s:Shared} (h:wpAny M A t Q E s) (hQ:∀ a s,Q a s->Q' a s):wpAny M A t Q' E s:=cD h hQ fun j j x=>x
end L2
namespace L2
open PySem PySem.Spec PyProof.Rows
section
variable {X:Cx}
def tVar (i:Nat):TE:=fun Z H Q=>∃ v,Z[i]?=some (some v)/\Q v H
def tC (v:V):TE:=fun j H Q=>Q v H
theorem pe_var {i:Nat} {x:Str} {pos:Pos} (hN:X.N[i]?=some x) (hv:Vis X.env.scope x) (hd:(x == ("__debug__":Str))=false:=by decide) (hcd:(x == ("__classdict__":Str))=false:=by decide):PE X (.Name x pos) (tVar i):=by
 intro pins s Z H Q I h
 obtain ⟨v,e,h⟩:=h
 obtain ⟨m,hn,hl⟩:=I.loc
 obtain ⟨u,r,l⟩:=hl i x v hN e hv
 have fin:EP X pins Z Q u s:=⟨v,H,I,r,h⟩
 rcases l with ⟨hk,hm⟩|⟨hk,c,hc,hcell⟩
 .exact wpAny_Name (wpAny_loadName_local I.ok.kind hk hn hm fin) hd
 .rcases hk with hk|hk
  .exact wpAny_Name (wpAny_loadName_cell I.ok.kind hk hc hcell fin) hd
  .exact wpAny_Name (wpAny_loadName_free I.ok.kind hk hc hcell fin hcd) hd
theorem aa {i j pos}:PE X (.Constant (.int i) j pos) (tC (.int i)):=fun z z z H z I h=>wpAny_Constant_int ⟨.int i,H,I.tok _,⟨_,rfl⟩,h⟩
theorem gY {b j pos}:PE X (.Constant (.bool b) j pos) (tC (.bl b)):=fun z z z H z I h=>Constant_bool ⟨.bl b,H,I,rfl,h⟩
theorem fq {j pos}:PE X (.Constant .none j pos) (tC .non):=fun z z z H z I h=>Constant_none ⟨.non,H,I,rfl,h⟩
theorem ay {x j pos}:PE X (.Constant (.str x) j pos) (tC (.str x)):=fun z z z H z I h=>Calls.Constant_str ⟨.str x,H,I.tok _,⟨_,rfl⟩,h⟩
def Gl (X:Cx) (x:Str):Prop:=X.env.kindOf x=some .globalImplicit
theorem sI {E:Value->Shared->Prop} {pins:List (Addr×Obj)} {s:Shared} {Z:St} {H:Hp} {x:Str} {u:Value} {pos:Pos} {Q:Value->Shared->Prop} (I:Inv X pins Z H s) (hg:Gl X x) (hm:X.mg x=some u) (h:Q u s)
  (hd:(x == ("__debug__":Str))=false:=by decide):wpAny (model X.prog X.w) X.A (eval (.Name x pos) X.env) Q E s :=
 Calls.Name_function_global I.ok.kind hg (Calls.loadGlobal_global (by rw[I.ok.glob];exact I.mod.glob.keeps I.bk) hm h) hd
theorem ij {E:Value->Shared->Prop} {pins:List (Addr×Obj)} {s:Shared} {Z:St} {H:Hp} {x:Str} {u:Value} {pos:Pos} {Q:Value->Shared->Prop} (I:Inv X pins Z H s) (hg:Gl X x) (hm:X.mg x=none) (hv:bootBuiltins x=some u) (h:Q u s)
  (hn:x≠"__name__":=by decide) (hd:(x == ("__debug__":Str))=false:=by decide):wpAny (model X.prog X.w) X.A (eval (.Name x pos) X.env) Q E s:=by
 obtain ⟨mb,h1,h2⟩:=I.mod.blt
 exact Calls.Name_function_global I.ok.kind hg (Calls.loadGlobal_builtin (by rw[I.ok.glob];exact I.mod.glob.keeps I.bk) hm (by rw[I.ok.blt];exact h1.keeps I.bk) ((h2 x hn).trans hv) h) hd
theorem tK {x:Str} {v:V} {u:Value} {pos:Pos} (hg:Gl X x) (hm:X.mg x=some u) (r:RelV v u) (hd:(x == ("__debug__":Str))=false:=by decide):PE X (.Name x pos) (tC v) :=
 fun j j j H j I h=>sI I hg hm ⟨v,H,I,r,h⟩ hd
theorem d9 {x:Str} {v:V} {u:Value} {pos:Pos} (hg:Gl X x) (hm:X.mg x=none) (hv:bootBuiltins x=some u) (r:RelV v u) (hn:x≠"__name__":=by decide) (hd:(x == ("__debug__":Str))=false:=by decide):PE X (.Name x pos) (tC v) :=
 fun j j j H j I h=>ij I hg hm hv ⟨v,H,I,r,h⟩ hn hd
variable {a b:Expr} {ta tb:TE} {pos:Pos}
def PC (X:Cx) (op:CmpOp) (a b:Expr) (t:TE):Prop :=
 ∀ (pins:List (Addr×Obj)) (s:Shared) (Z:St) (H:Hp) (Q:VK),Inv X pins Z H s->t Z H Q ->
  wpAny (model X.prog X.w) X.A (eval a X.env) (fun v s₁=>wpAny (model X.prog X.w) X.A (eval b X.env) (fun u s₂=>wpAny (model X.prog X.w) X.A (compareOp op v u) (EP X pins Z Q) X.xe s₂) X.xe s₁) X.xe s
theorem ZlW (b:Expr) {op:CmpOp} (h:op≠.In) (h2:op≠.NotIn):behindInMarks op b=false:=by
 have e1:(op == CmpOp.In)=false:=by cases op <;> first|rfl|exact absurd rfl h
 have e2:(op == CmpOp.NotIn)=false:=by cases op <;> first|rfl|exact absurd rfl h2
 cases b <;> simp[behindInMarks,e1,e2]
def tB (t:TE):TT:=fun Z H Q=>t Z H fun x H1=>∃ c,x=.bl c/\Q c H1
theorem oe {op:CmpOp} {t:TE} (h:PC X op a b t) (h1:behindInMarks op b=false:=by first|exact ZlW _ (by decide) (by decide)|rfl):PT X (.Compare a [op] [b] pos) (tB t):=by
 intro pins s Z H Q I hw
 refine wpAny_isTrue_Compare1 (thn (h pins s Z H _ I hw) fun v s1 h1=>thn h1 fun u s2 h2=>thn h2 fun c s3 ⟨x,H1,I1,r1,q1⟩=>?_) h1
 obtain ⟨d,rfl,q⟩:=q1
 cases r1
 exact jm ⟨H1,I1,q⟩
theorem fB {e:Expr} {t:TE} (h:PE X e t) (he:∀ whole,isTrue e X.env whole=(do let v <- whole;standAt e.pos;holding [v] (truthy v)):=by intro j;rfl):PT X e (tB t):=by
 intro pins s Z H Q I hw
 refine isTrue_plain (thn (h pins s Z H _ I hw) fun v s1 ⟨x,H1,I1,r1,q1⟩=>?_) (he _)
 obtain ⟨d,rfl,q⟩:=q1
 cases r1
 exact jm ⟨H1,I1,q⟩
variable {tA tB':TT} {rest:List Expr}
def tAnd (t u:TT):TT:=fun Z H Q=>t Z H fun c H1=>if c=true then u Z H1 Q else Q false H1
def tOr (t u:TT):TT:=fun Z H Q=>t Z H fun c H1=>if c=true then Q true H1 else u Z H1 Q
def tNot (t:TT):TT:=fun Z H Q=>t Z H fun c H1=>Q (!c) H1
theorem cg (ha:PT X a tA):PW X (.BoolOp .And [a] pos) tA:=by
 intro wh pins s Z H Q I h
 refine isTrue_and (thn (ha pins s Z H Q I h) fun c s1 e=>?_)
 cases c with
 | true=>exact isTrue_and_nil e
 | false=>exact e
theorem hE (ha:PT X a tA):PW X (.BoolOp .Or [a] pos) tA:=by
 intro wh pins s Z H Q I h
 refine isTrue_or (thn (ha pins s Z H Q I h) fun c s1 e=>?_)
 cases c with
 | false=>exact isTrue_or_nil e
 | true=>exact e
theorem bU (ha:PT X a tA) (hb:PW X (.BoolOp .And (b::rest) pos) tB'):PW X (.BoolOp .And (a::b::rest) pos) (tAnd tA tB'):=by
 intro wh pins s Z H Q I h
 refine isTrue_and (thn (ha pins s Z H _ I h) fun c s1 ⟨H1,I1,q1⟩=>?_)
 cases c with
 | true=>exact hb wh pins s1 Z H1 Q I1 q1
 | false=>exact ⟨H1,I1,q1⟩
theorem fK (ha:PT X a tA) (hb:PW X (.BoolOp .Or (b::rest) pos) tB'):PW X (.BoolOp .Or (a::b::rest) pos) (tOr tA tB'):=by
 intro wh pins s Z H Q I h
 refine isTrue_or (thn (ha pins s Z H _ I h) fun c s1 ⟨H1,I1,q1⟩=>?_)
 cases c with
 | true=>exact ⟨H1,I1,q1⟩
 | false=>exact hb wh pins s1 Z H1 Q I1 q1
theorem jP (ha:PT X a tA):PT X (.UnaryOp .Not a pos) (tNot tA):=by
 intro pins s Z H Q I h
 exact isTrue_not (ha pins s Z H (fun c H1=>Q (!c) H1) I h)
def tAndV (ta tb:TE):TE:=fun Z H Q=>ta Z H fun x H1=>∃ c,x=.bl c/\if c=true then tb Z H1 Q else Q (.bl false) H1
theorem pS {op} {t:TE} (h:PE X a t):PE X (.BoolOp op [a] pos) t:=fun pins s Z H Q I hw=>BoolOp_one (h pins s Z H Q I hw)
theorem lX (ha:PE X a ta) (hb:PE X (.BoolOp .And (b::rest) pos) tb):PE X (.BoolOp .And (a::b::rest) pos) (tAndV ta tb):=by
 intro pins s Z H Q I h
 refine BoolOp_and (thn (ha pins s Z H _ I h) fun v s1 ⟨x,H1,I1,r1,q1⟩=>?_)
 obtain ⟨c,rfl,q1⟩:=q1
 cases r1
 refine jm ?_
 cases c with
 | true=>exact hb pins s1 Z H1 Q I1 q1
 | false=>exact ⟨.bl false,H1,I1,rfl,q1⟩
def tIf (t:TT) (ta tb:TE):TE:=fun Z H Q=>t Z H fun c H1=>if c=true then ta Z H1 Q else tb Z H1 Q
theorem gO {c:Expr} (hc:PT X c tA) (ha:PE X a ta) (hb:PE X b tb):PE X (.IfExp c a b pos) (tIf tA ta tb):=by
 intro pins s Z H Q I h
 refine wpAny_IfExp (thn (hc pins s Z H _ I h) fun d s1 ⟨H1,I1,q1⟩=>?_)
 cases d with
 | true=>exact ha pins s1 Z H1 Q I1 q1
 | false=>exact hb pins s1 Z H1 Q I1 q1
end
end L2
namespace L2
open PySem PySem.Spec PyProof.Rows
def SqL (K:W.Frag) (H:Hp) (a:Addr) (xs:List V):Prop :=
 Rd H a (.lst xs) \/
  ∃ (o:Obj) (its:Array Value) (n:Nat),K.lookup a=some o/\o.cls=.type "list"/\o.dict=none/\o.data=.seq its n/\its.size<=sizeLine/\Vals xs its.toList
def SqT (K:W.Frag) (H:Hp) (a:Addr) (xs:List V):Prop :=
 Rd H a (.tup xs) \/
  ∃ (o:Obj) (its:Array Value) (n:Nat),K.lookup a=some o/\o.cls=.type "tuple"/\o.data=.seq its n/\its.size<=sizeLine/\Vals xs its.toList
def absV:Value->Option V
 | .none=>some .non
 | .bool b=>some (.bl b)
 | .int i _=>some (.int i)
 | .str x _=>some (.str x)
 | .bytes b _=>some (.byt b)
 | .float b _=>some (.flt b)
 | .ref a=>some (.ref a)
 | .type n=>some (.ty n)
 | _=>none
theorem RelV.abs {x:V} {u:Value} (r:RelV x u):absV u=some x:=by
 cases x with
 | non=>cases r;rfl
 | bl _=>cases r;rfl
 | int _=>obtain ⟨t,rfl⟩:=r;rfl
 | str _=>obtain ⟨t,rfl⟩:=r;rfl
 | byt _=>obtain ⟨t,rfl⟩:=r;rfl
 | flt _=>obtain ⟨t,rfl⟩:=r;rfl
 | ref _=>cases r;rfl
 | ty _=>cases r;rfl
theorem RelV.inj {x y:V} {u:Value} (r:RelV x u) (q:RelV y u):x=y:=Option.some.inj (r.abs.symm.trans q.abs)
theorem Vals.inj {xs ys:List V} {us:List Value} (h:Vals xs us) (h':Vals ys us):xs=ys:=by
 induction h generalizing ys with
 | nil=>cases h';rfl
 | cons r _ ih =>
  cases h' with
  | cons r' t'=>rw[r.inj r',ih t']
section
variable {X:Cx} {pins:List (Addr×Obj)} {Z:St} {H:Hp} {s:Shared} {a:Addr} {xs ys:List V}
theorem SqL.of {K:W.Frag} (h:H a=some (.lst xs)):SqL K H a xs:=.inl (.inl h)
theorem SqT.of {K:W.Frag} (h:H a=some (.tup xs)):SqT K H a xs:=.inl (.inl h)
theorem Inv.list (I:Inv X pins Z H s) (h:SqL X.K H a xs):∃ its:List Value,Vals xs its/\PlainL s.heap a its.toArray/\xs.length<=sizeLine:=by
 rcases h with h|⟨o,its,n,hk,hc,hd,hs,hz,r⟩
 .obtain ⟨z,its,n,r,e⟩:=h.ok I.hok
  exact ⟨its,r,⟨_,n,e,rfl,rfl,rfl⟩,z⟩
 .refine ⟨its.toList,r,⟨o,n,I.kIn a o hk,hc,hd,by simpa using hs⟩,?_⟩
  have e:=r.length
  simp only[dL] at e
  lia
theorem Inv.tuple (I:Inv X pins Z H s) (h:SqT X.K H a xs):∃ its:List Value,Vals xs its/\IsTup s.heap a its.toArray/\xs.length<=sizeLine:=by
 rcases h with h|⟨o,its,n,hk,hc,hs,hz,r⟩
 .obtain ⟨z,its,r,p⟩:=h.ok I.hok
  exact ⟨its,r,p,z⟩
 .refine ⟨its.toList,r,⟨o,I.kIn a o hk,hc,n,by simpa using hs⟩,?_⟩
  have e:=r.length
  simp only[dL] at e
  lia
theorem Inv.list_inj (I:Inv X pins Z H s) (h:SqL X.K H a xs) (h':SqL X.K H a ys):xs=ys:=by
 obtain ⟨its,r,⟨o,n,e,j,j,d⟩,j⟩:=I.list h
 obtain ⟨its',r',⟨o',n',e',j,j,d'⟩,j⟩:=I.list h'
 rw[e] at e';cases e'
 rw[d] at d'
 injection d' with d1 _
 have:its=its':=by simpa using congrArg Array.toList d1
 subst this
 exact r.inj r'
theorem Inv.tuple_inj (I:Inv X pins Z H s) (h:SqT X.K H a xs) (h':SqT X.K H a ys):xs=ys:=by
 obtain ⟨its,r,⟨o,e,j,n,d⟩,j⟩:=I.tuple h
 obtain ⟨its',r',⟨o',e',j,n',d'⟩,j⟩:=I.tuple h'
 rw[e] at e';cases e'
 rw[d] at d'
 injection d' with d1 _
 have:its=its':=by simpa using congrArg Array.toList d1
 subst this
 exact r.inj r'
end
abbrev Cx.wish (X:Cx) (E:Value->Shared->Prop):Cx:={ X with xe:=E }
abbrev Cx.nox (X:Cx):Cx:=X.wish fun j j=>False
theorem Cx.Ok.wish {X:Cx} (ok:X.Ok) (E:Value->Shared->Prop):(X.wish E).Ok :=
 ⟨ok.mod,ok.kind,ok.glob,ok.blt,ok.above,ok.inj,ok.has,ok.cab,ok.hd,ok.frames,ok.stk,ok.exf,ok.bs,ok.bsz,ok.noex,ok.exfs,ok.funs,ok.frf⟩
theorem Cx.Ok.unwish {X:Cx} {E:Value->Shared->Prop} (ok:(X.wish E).Ok):X.Ok :=
 ⟨ok.mod,ok.kind,ok.glob,ok.blt,ok.above,ok.inj,ok.has,ok.cab,ok.hd,ok.frames,ok.stk,ok.exf,ok.bs,ok.bsz,ok.noex,ok.exfs,ok.funs,ok.frf⟩
section
variable {X:Cx} {pins:List (Addr×Obj)} {Z:St} {H:Hp} {s:Shared} {E:Value->Shared->Prop}
theorem Inv.wish (I:Inv X pins Z H s) (E:Value->Shared->Prop):Inv (X.wish E) pins Z H s:=⟨I.ok.wish E,I.os,I.bare,I.base,I.loc,I.cell,I.free,I.freeC,I.pin,I.hok,I.len⟩
theorem Inv.unwish (I:Inv (X.wish E) pins Z H s):Inv X pins Z H s:=⟨I.ok.unwish,I.os,I.bare,I.base,I.loc,I.cell,I.free,I.freeC,I.pin,I.hok,I.len⟩
theorem SP.unwish {D:Ends} {f:Flow} {s':Shared} (h:SP (X.wish E) pins D f s'):SP X pins D f s':=by
 cases f with
 | next=>obtain ⟨σ',H',I,q⟩:=h;exact ⟨σ',H',I.unwish,q⟩
 | brk=>obtain ⟨σ',H',I,q⟩:=h;exact ⟨σ',H',I.unwish,q⟩
 | cont=>obtain ⟨σ',H',I,q⟩:=h;exact ⟨σ',H',I.unwish,q⟩
 | ret u=>obtain ⟨v,σ',H',I,r,q⟩:=h;exact ⟨v,σ',H',I.unwish,r,q⟩
theorem PSs.nox {st:List Stmt} {t:TS} (h:PSs X.nox st t):PSs X st t:=fun pins s Z H D I hw =>
 cD (h pins s Z H D (I.wish _) hw) (fun j j q=>q.unwish) fun j j z=>False.elim z
end
section
variable {X:Cx} {st:Stmt} {rest:List Stmt} {t u:TS} {e:Expr} {te:TE} {pos:Pos}
def oQ:TS:=fun D Z H=>D.nx Z H
def tSeq (t u:TS):TS:=fun D Z H=>t { D with nx:=u D } Z H
theorem a8:PSs X [] oQ:=fun j j Z H j I h=>np ⟨Z,H,I,h⟩
theorem ag (h1:PS X st t) (h2:PSs X rest u):PSs X (st::rest) (tSeq t u):=by
 intro pins s Z H D I h
 refine wpAny_execs_cons (thn (h1 pins s Z H { D with nx:=u D } I h) fun f s1 q=>?_)
 cases f with
 | next =>
  obtain ⟨σ',H',I',q⟩:=q
  exact h2 pins s1 σ' H' D I' q
 | ret v=>exact q
 | brk=>exact q
 | cont=>exact q
theorem ak (h1:PS X st t):PSs X [st] t:=by
 intro pins s Z H D I h
 refine wpAny_execs_cons (thn (h1 pins s Z H D I h) fun f s1 q=>?_)
 cases f with
 | next=>exact np q
 | ret v=>exact q
 | brk=>exact q
 | cont=>exact q
theorem Inv.quiet {pins:List (Addr×Obj)} {Z:St} {H:Hp} {s:Shared} (I:Inv X pins Z H s):interactive X.env=false:=by simp[interactive,I.ok.kind]
def mW (te:TE):TS:=fun D Z H=>te Z H fun j H1=>D.nx Z H1
theorem cx (he:PE X e te) (hs:swapsWith e none pos.line X.env=pure false:=by rfl):PS X (.Expr e pos) (mW te):=by
 intro pins s Z H D I h
 exact wpAny_Expr_any (thn (he pins s Z H _ I h) fun v s1 ⟨x,H1,I1,r1,q1⟩=>⟨Z,H1,I1,q1⟩) I.quiet hs
def tRet (te:TE):TS:=fun D Z H=>te Z H D.rt
theorem aB (he:PE X e te):PS X (.Return (some e) pos) (tRet te):=by
 intro pins s Z H D I h
 exact wpAny_Return_some (thn (he pins s Z H _ I h) fun v s1 ⟨x,H1,I1,r1,q1⟩=>⟨x,Z,H1,I1,r1,q1⟩)
def tIfS (c:TT) (t u:TS):TS:=fun D Z H=>c Z H fun b H1=>if b=true then t D Z H1 else u D Z H1
theorem aH {c:Expr} {a b:List Stmt} {tc:TT} (hc:PT X c tc) (ha:PSs X a t) (hb:PSs X b u):PS X (.If c a b pos) (tIfS tc t u):=by
 intro pins s Z H D I h
 refine wpAny_If (thn (hc pins s Z H _ I h) fun d s1 ⟨H1,I1,q1⟩=>?_)
 cases d with
 | true=>exact ha pins s1 Z H1 D I1 q1
 | false=>exact hb pins s1 Z H1 D I1 q1
end
abbrev TG:=V->St->Hp->(St->Hp->Prop)->Prop
abbrev TGs:=List V->St->Hp->(St->Hp->Prop)->Prop
def PG (X:Cx) (target:Expr) (t:TG):Prop :=
 ∀ (pins:List (Addr×Obj)) (s:Shared) (Z:St) (H:Hp) (v:V) (u:Value) (Q:St->Hp->Prop),Inv X pins Z H s->RelV v u->t v Z H Q ->
  wpAny (model X.prog X.w) X.A (assign target X.env u) (fun j s'=>∃ σ' H',Inv X pins σ' H' s'/\Q σ' H') X.xe s
def PGs (X:Cx) (ts:List Expr) (t:TGs):Prop :=
 ∀ (pins:List (Addr×Obj)) (s:Shared) (Z:St) (H:Hp) (vs:List V) (us:List Value) (Q:St->Hp->Prop),Inv X pins Z H s->Vals vs us->t vs Z H Q ->
  wpAny (model X.prog X.w) X.A (assignInOrder ((assignEach ts X.env).map (·.2)) us) (fun j s'=>∃ σ' H',Inv X pins σ' H' s'/\Q σ' H') X.xe s
abbrev TSet:=V->V->V->Hp->(Hp->Prop)->Prop
def PSet (X:Cx) (t:TSet):Prop :=
 ∀ (pins:List (Addr×Obj)) (s:Shared) (Z:St) (H:Hp) (o i v:V) (ov iv u:Value) (Q:Hp->Prop),Inv X pins Z H s->RelV o ov->RelV i iv->RelV v u->t o i v H Q ->
  wpAny (model X.prog X.w) X.A (setItem ov iv u) (fun j s'=>∃ H',Inv X pins Z H' s'/\Q H') X.xe s
section
variable {X:Cx} {pos:Pos}
def dj (i:Nat):TG:=fun v Z H Q=>Q (Z.set i (some v)) H
theorem gQ {i:Nat} {x:Str} (hN:X.N.Nodup) (hi:X.N[i]?=some x) (hx:Loc X.env.scope x) (hf:X.fn x=true\/X.env.scope.names.lookup x=some .local:=by first|exact .inl rfl|exact .inr rfl|assumption):PG X (.Name x pos) (dj i):=by
 intro pins s Z H v u Q I r h
 exact wpAny_assign_Name (sO I hN hi hx r (fun s' I'=>⟨_,H,I',h⟩) hf)
def gNil:TGs:=fun vs Z H Q=>vs=[]/\Q Z H
def gCons (t:TG) (u:TGs):TGs:=fun vs Z H Q=>∃ v r,vs=v::r/\t v Z H fun σ' H'=>u r σ' H' Q
theorem bQ:PGs X [] gNil:=by
 intro pins s Z H vs us Q I r h
 obtain ⟨e,h⟩:=h
 subst e
 cases r
 exact assignInOrder_nil ⟨Z,H,I,h⟩
theorem aF {e:Expr} {es:List Expr} {t:TG} {u:TGs} (h1:PG X e t) (h2:PGs X es u)
  (hs:(assignEach (e::es) X.env).map (·.2)=assign e X.env::(assignEach es X.env).map (·.2):=by rfl):PGs X (e::es) (gCons t u):=by
 intro pins s Z H vs us Q I r h
 obtain ⟨v,vr,e1,h⟩:=h
 subst e1
 cases r with
 | cons r rr =>
  rw[hs]
  refine assignInOrder_cons (thn (h1 pins s Z H _ _ _ I r h) fun _ s1 ⟨σ1,H1,I1,q1⟩=>?_)
  exact h2 pins s1 σ1 H1 _ _ Q I1 rr q1
def gTup (K:W.Frag) (n:Nat) (t:TGs):TG:=fun v Z H Q=>∃ a xs,v=.ref a/\SqT K H a xs/\xs.length=n/\t xs Z H Q
theorem pg_tup {es:List Expr} {k:Nat} {t:TGs} {n:Nat} (hc:X.calm=true) (h:PGs X es t)
  (hn:(assignEach es X.env).length=n:=by rfl) (hst:(assignEach es X.env).findIdx? (·.1)=none:=by rfl):PG X (.Tuple es k pos) (gTup X.K n t):=by
 intro pins s Z H v u Q I r hw
 obtain ⟨a,xs,e1,hq,hl,hw⟩:=hw
 subst e1
 cases r
 obtain ⟨its,rv,ht,hz⟩:=I.tuple hq
 refine assign_Tuple_tuple (I.ok.hd hc) ht (by simp[hn,<- hl,rv.length]) hst fun h' hx=>?_
 have I1:Inv X pins Z H { s with heap:=h' }:=I.kept (t':=s.toks) fun b o e=>hx b o (bK (aV e)) e
 exact h pins _ Z H xs _ Q I1 (by simpa using rv) hw
def gSub (to ti:TE) (t:TSet):TG:=fun v Z H Q=>to Z H fun o H1=>ti Z H1 fun i H2=>t o i v H2 fun H3=>Q Z H3
theorem bJ {o i:Expr} {to ti:TE} {t:TSet} (ho:PE X o to) (hi:PE X i ti) (hs:PSet X t)
  (ha:∀ v,assign (.Subscript o i pos) X.env v=(do
   let ov <- holding [v] (eval o X.env)
   let iv <- holding [v,ov] (eval i X.env)
   standAt pos
   holding [v,ov,iv] (setItem ov iv v)
   release [v,ov,iv] []):=by intro j;rfl):PG X (.Subscript o i pos) (gSub to ti t):=by
 intro pins s Z H v u Q I r h
 rw[ha]
 refine ae (dm (thn (ho pins s Z H _ I h) fun ov s1 z0_=>?_))
 obtain ⟨x,H1,I1,r1,q1⟩:=z0_
 refine ae (dm (thn (hi pins s1 Z H1 _ I1 q1) fun iv s2 z1_=>?_))
 obtain ⟨y,H2,I2,r2,q2⟩:=z1_
 refine ae (nq (ae (dm (thn (hs pins s2 Z H2 x y v ov iv u _ I2 r1 r2 r q2) fun j s3 z2_=>?_))))
 obtain ⟨H3,I3,q3⟩:=z2_
 exact wpAny_release ⟨Z,H3,I3,q3⟩
def tAsg (te:TE) (g:TG):TS:=fun D Z H=>te Z H fun x H1=>g x Z H1 D.nx
theorem bm {tg e:Expr} {te:TE} {g:TG} (he:PE X e te) (hg:PG X tg g) (hs:swapsWithSole [tg] e pos.line X.env=pure false:=by rfl) (hw:swappedStores [tg] e X.env=pure none:=by rfl)
  (h1:(assignEach [tg] X.env).map (·.2)=[assign tg X.env]:=by rfl):PS X (.Assign [tg] e pos) (tAsg te g):=by
 intro pins s Z H D I h
 refine wpAny_Assign_stores (thn (he pins s Z H _ I h) fun v s1 ⟨x,H1,I1,r1,q1⟩=>?_) hs hw
 rw[h1]
 exact thn (hg pins s1 Z H1 x v _ I1 r1 q1) fun j s2 q=>q
theorem cv {i:Nat} {x:Str} {e:Expr} {te:TE} {pos':Pos} (hN:X.N.Nodup) (hi:X.N[i]?=some x) (hx:Loc X.env.scope x) (he:PE X e te) (hs:swapsWith e (some (.Name x pos')) pos.line X.env=pure false:=by rfl) (hf:X.fn x=true\/X.env.scope.names.lookup x=some .local:=by first|exact .inl rfl|exact .inr rfl|assumption) :
  PS X (.Assign [.Name x pos'] e pos) (tAsg te (dj i)):=by
 intro pins s Z H D I h
 refine wpAny_Assign_Name (thn (he pins s Z H _ I h) fun v s1 ⟨y,H1,I1,r1,q1⟩=>?_) hs
 exact sO I1 hN hi hx r1 (fun s2 I2=>⟨_,H1,I2,q1⟩) hf
end
section
variable {X:Cx} {pos:Pos}
def uH (c:TT) (tb:TS):TS:=fun D Z H=>∃ W:Nat->St->Hp->Prop,(∃ m,W m Z H)/\∀ m Z H,W m Z H ->
 c Z H fun b H1=>if b=true then ∃ N:St->Hp->Prop,(∀ σ' H',N σ' H'->∃ m',m' < m/\W m' σ' H')/\tb { D with nx:=N,ct:=N,bk:=D.nx } Z H1 else D.nx Z H1
theorem t5 {c:Expr} {body:List Stmt} {tc:TT} {tb:TS} (hp:PassesOwn (model X.prog X.w) X.A X.env X.xe) (hc:PT X c tc) (hb:PSs X body tb):PS X (.While c body [] pos) (uH tc tb):=by
 intro pins s Z H D I h
 obtain ⟨W,⟨m0,w0⟩,turn⟩:=h
 refine wpAny_While (codeAny_whileLoop (fun n s'=>∃ σ' H',Inv X pins σ' H' s'/\W n σ' H') ?_ m0 ⟨Z,H,I,w0⟩)
 rintro n s1 ⟨σ1,H1,I1,w1⟩
 refine hV hp (thn (hc pins s1 σ1 H1 _ I1 (turn n σ1 H1 w1)) fun b s2 ⟨H2,I2,q2⟩=>?_)
 cases b with
 | true =>
  obtain ⟨N,hN,q2⟩:=q2
  rw[ah rfl]
  refine hV hp (thn (hb pins s2 σ1 H2 _ I2 q2) fun f s3 q3=>?_)
  cases f with
  | next =>
   obtain ⟨σ3,H3,I3,n3⟩:=q3
   obtain ⟨m',hm,w3⟩:=hN σ3 H3 n3
   exact ⟨m',hm,σ3,H3,I3,w3⟩
  | cont =>
   obtain ⟨σ3,H3,I3,n3⟩:=q3
   obtain ⟨m',hm,w3⟩:=hN σ3 H3 n3
   exact ⟨m',hm,σ3,H3,I3,w3⟩
  | brk=>exact q3
  | ret v=>exact q3
 | false =>
  rw[ai bA]
  exact np ⟨σ1,H2,I2,q2⟩
end
structure It where
 go:Nat->Hp->Prop
 yld:Nat->Hp->V->Hp->Prop
 stop:Nat->Hp->Prop
def FpOk (X:Cx) (pins:List (Addr×Obj)) (H:Hp) (b:Addr):Prop :=
 H b=none/\b≠X.env.locals/\b∉X.fs/\(b∈X.ex\/X.s₀.heap.objs.size<=b)/\(∀ x c,X.env.cells.lookup x=some c->c≠b)/\∀ p∈X.pn++pins,p.1≠b
theorem Inv.fpOk {X:Cx} {pins:List (Addr×Obj)} {Z:St} {H H':Hp} {s:Shared} {b:Addr} (I:Inv X pins Z H s) (hb:s.heap.objs.size<=b) (hn:H' b=none):FpOk X pins H' b:=by
 refine ⟨hn,eS (cq I.lt hb),I.nofs hb,.inr (aR I.sz hb),fun x c e z=>?_,fun p hp z=>?_⟩
 .obtain ⟨v,q⟩:=I.cell x c e
  exact absurd (cq q.lt (by rw[z];exact hb)) (fQ _)
 .exact absurd (cq (aV (I.pin p hp).1) (by rw[z];exact hb)) (fQ _)
structure Turn (P:Program) (w:World) (K:W.Frag) (tg:Expr) (J:It) (fp:List Addr) (it:Addr) (tn:Nat->Heap->Prop):Prop where
 mem:it∈fp
 obj:∀ i h,tn i h->∀ b∈fp,∃ o,h.get? b=some o/\∀ v,o.data≠.cell v
 keep:∀ i h h',tn i h->(∀ b∈fp,∀ o,h.get? b=some o->h'.get? b=some o)->tn i h'
 item:∀ (X:Cx),X.prog=P->X.w=w->X.K=K->X.calm=true->∀ (i:Nat) (pins:List (Addr×Obj)) (s:Shared) (Z:St) (H:Hp) (E:Value->Shared->Prop),Inv X pins Z H s->(∀ b∈fp,FpOk X pins H b)->tn i s.heap->J.go i H ->
  wpAny (model P w) X.A (pyNext (.ref it)) (fun r s1=>∃ u,r=some u /\
   wpAny (model P w) X.A (letOwnedTupleGo tg (.ref it) u) (fun _ s2=>∃ x H',Inv X pins Z H' s2/\RelV x u/\J.yld i H x H'/\tn (i+1) s2.heap/\∀ b∈fp,H' b=none) E s1) E s
 done:∀ (X:Cx),X.prog=P->X.w=w->X.K=K->X.calm=true->∀ (i:Nat) (pins:List (Addr×Obj)) (s:Shared) (Z:St) (H:Hp) (E:Value->Shared->Prop),Inv X pins Z H s->(∀ b∈fp,FpOk X pins H b)->tn i s.heap->J.stop i H ->
  wpAny (model P w) X.A (pyNext (.ref it)) (fun r s1=>r=none/\Inv X pins Z H s1) E s
 self:∀ (A:Around) (i:Nat) (s:Shared) (Q:Value->Shared->Prop) (E:Value->Shared->Prop),tn i s.heap->Q (.ref it) s->wpAny (model P w) A (pyIter (.ref it)) Q E s
abbrev TI:=St->Hp->(It->Hp->Prop)->Prop
def PIE (X:Cx) (pins:List (Addr×Obj)) (Z:St) (tg:Expr) (R:It->Hp->Prop) (itv:Value) (s2:Shared):Prop :=
 ∃ (it:Addr) (fp:List Addr) (tn:Nat->Heap->Prop) (J:It) (H':Hp),itv=.ref it/\Inv X pins Z H' s2/\Turn X.prog X.w X.K tg J fp it tn/\tn 0 s2.heap/\(∀ b∈fp,FpOk X pins H' b)/\R J H'
def PI (X:Cx) (tg iter:Expr) (wi:TI):Prop :=
 ∀ (pins:List (Addr×Obj)) (s:Shared) (Z:St) (H:Hp) (R:It->Hp->Prop),Inv X pins Z H s->wi Z H R ->
  wpAny (model X.prog X.w) X.A (eval iter X.env) (fun v s1=>wpAny (model X.prog X.w) X.A (pyIter v) (PIE X pins Z tg R) X.xe s1) X.xe s
theorem lu {M : Model} {A : Around} {E : Value -> Shared -> Prop} {s : Shared} {tg : Expr} {it : Addr} {u : Value} {o : Obj} {n : String} {vs : Array Value} {Q : Unit -> Shared -> Prop} (ho : s.heap.get? it = some o) (hc : o.cls = .type n) (hd : o.data = .fields vs)
    (hn : ["enumerate", "zip", "dict_itemiterator", "dict_reverseitemiterator", "odict_iterator", "itertools.zip_longest", "itertools.pairwise"].contains n = false) (hQ : Q () s) : wpAny M A (letOwnedTupleGo tg (.ref it) u) Q E s := by
  unfold letOwnedTupleGo
  cases tg <;> first
    | exact am hQ
    | (cases u <;> first
        | exact am hQ
        | (refine ae (wpAny_load ho ?_)
           rw[hc,hd]
           show wpAny M A (if (["enumerate","zip","dict_itemiterator","dict_reverseitemiterator","odict_iterator","itertools.zip_longest","itertools.pairwise"].contains n && vs[0]? == some (rawInt _))=true then _ else _) Q E s
           rw[ai (by intro h;rw[hn,Bool.false_and] at h;cases h)]
           exact am hQ))
def Itl (K:W.Frag) (a:Addr):It :=
 ⟨fun i H=>∃ xs x,SqL K H a xs/\xs[i]?=some x,fun i H x H'=>H'=H/\∀ xs,SqL K H a xs->xs[i]?=some x,fun i H=>∃ xs,SqL K H a xs/\xs.length<=i⟩
def Itt (K:W.Frag) (a:Addr):It :=
 ⟨fun i H=>∃ xs x,SqT K H a xs/\xs[i]?=some x,fun i H x H'=>H'=H/\∀ xs,SqT K H a xs->xs[i]?=some x,fun i H=>∃ xs,SqT K H a xs/\xs.length<=i⟩
def Itr (lo:Int) (n:Nat):It:=⟨fun i j=>i < n,fun i H x H'=>H'=H/\x=.int (lo+i),fun i j=>n<=i⟩
theorem ZjU {P:Program} {w:World} {K:W.Frag} {tg:Expr} (a it:Addr):Turn P w K tg (Itl K a) [it] it (fun i h=>h.IsListIter it a i) where
 mem:=by simp
 obj:=fun i h st b hb=>by
  have e:b=it:=by simpa using hb
  subst e
  obtain ⟨o,e,c,d⟩:=st
  exact ⟨o,e,fun v z=>by rw[d] at z;cases z⟩
 keep:=fun i h h' st k=>st.at fun o e=>k it (by simp) o e
 item:=by
  intro X hP hw hK hc i pins s Z H E I hf st hg
  subst hP hw hK
  obtain ⟨xs,x,hq,hx⟩:=hg
  obtain ⟨its,rv,p,hz⟩:=I.list hq
  obtain ⟨u,hu,ru⟩:=rv.get hx
  obtain ⟨f0,f1,f2,f3,f4,f5⟩:=hf it (by simp)
  refine wpAny_pyNext_list_item st p.isList (x:=u) (by simpa using hu) fun h' st' sb=>?_
  have I1:Inv X pins Z H { s with heap:=h' }:=I.turned (t':=s.toks) (fun b o hb e=>(sb.2 b hb).trans e) f0 f1 f3 f4 f5
  obtain ⟨o,e,c,d⟩:=id st'
  exact ⟨u,rfl,lu (s:={ s with heap:=h' }) e c d (by decide) ⟨x,H,I1,ru,⟨rfl,fun ys hy=>by rw[I.list_inj hy hq];exact hx⟩,st',fun b hb=>(hf b hb).1⟩⟩
 done:=by
  intro X hP hw hK hc i pins s Z H E I hf st hg
  subst hP hw hK
  obtain ⟨xs,hq,hx⟩:=hg
  obtain ⟨its,rv,p,hz⟩:=I.list hq
  obtain ⟨f0,f1,f2,f3,f4,f5⟩:=hf it (by simp)
  have hl:=rv.length
  exact wpAny_pyNext_list_end (I.ok.hd hc) st p.isList (by simp;lia) fun h' eb=>⟨rfl,I.turned (t':=s.toks) (fun b o hb e=>eb b o hb e) f0 f1 f3 f4 f5⟩
 self:=fun j j j j j st h=>wpAny_pyIter_listiter st h
theorem Zi5 {P:Program} {w:World} {K:W.Frag} {tg:Expr} (a it:Addr):Turn P w K tg (Itt K a) [it] it (fun i h=>h.IsTupleIter it a i) where
 mem:=by simp
 obj:=fun i h st b hb=>by
  have e:b=it:=by simpa using hb
  subst e
  obtain ⟨o,e,c,d⟩:=st
  exact ⟨o,e,fun v z=>by rw[d] at z;cases z⟩
 keep:=fun i h h' st k=>st.at fun o e=>k it (by simp) o e
 item:=by
  intro X hP hw hK hc i pins s Z H E I hf st hg
  subst hP hw hK
  obtain ⟨xs,x,hq,hx⟩:=hg
  obtain ⟨its,rv,p,hz⟩:=I.tuple hq
  obtain ⟨u,hu,ru⟩:=rv.get hx
  obtain ⟨f0,f1,f2,f3,f4,f5⟩:=hf it (by simp)
  refine wpAny_pyNext_tuple_item st (show s.heap.IsTuple a its.toArray from p) (x:=u) (by simpa using hu) fun h' st' sb=>?_
  have I1:Inv X pins Z H { s with heap:=h' }:=I.turned (t':=s.toks) (fun b o hb e=>(sb.2 b hb).trans e) f0 f1 f3 f4 f5
  obtain ⟨o,e,c,d⟩:=id st'
  exact ⟨u,rfl,lu (s:={ s with heap:=h' }) e c d (by decide) ⟨x,H,I1,ru,⟨rfl,fun ys hy=>by rw[I.tuple_inj hy hq];exact hx⟩,st',fun b hb=>(hf b hb).1⟩⟩
 done:=by
  intro X hP hw hK hc i pins s Z H E I hf st hg
  subst hP hw hK
  obtain ⟨xs,hq,hx⟩:=hg
  obtain ⟨its,rv,p,hz⟩:=I.tuple hq
  obtain ⟨f0,f1,f2,f3,f4,f5⟩:=hf it (by simp)
  have hl:=rv.length
  exact wpAny_pyNext_tuple_end (I.ok.hd hc) st (show s.heap.IsTuple a its.toArray from p) (by simp;lia) fun h' eb=>⟨rfl,I.turned (t':=s.toks) (fun b o hb e=>eb b o hb e) f0 f1 f3 f4 f5⟩
 self:=fun j j j j j st h=>wpAny_pyIter_tupleiter st h
theorem Zi6 {P:Program} {w:World} {K:W.Frag} {tg:Expr} (it:Addr) (lo:Int) (n:Nat):Turn P w K tg (Itr lo n) [it] it (fun i h=>IsRangeIter h it (lo+(i:Nat) * 1) ((n:Int) - (i:Nat)) 1) where
 mem:=by simp
 obj:=fun i h st b hb=>by
  have e:b=it:=by simpa using hb
  subst e
  exact ⟨_,st,fun v z=>by
   have z':Data.fields _=Data.cell v:=z
   cases z'⟩
 keep:=fun i h h' st k=>k it (by simp) _ st
 item:=by
  intro X hP hw hK hc i pins s Z H E I hf st hg
  subst hP hw hK
  obtain ⟨f0,f1,f2,f3,f4,f5⟩:=hf it (by simp)
  have W:=Walks.range (prog:=X.prog) (w:=X.w) (I.ok.hd hc) it lo 1 n
  refine W.item i s _ _ hg st fun v h' tk hv st' kk=>?_
  obtain ⟨t,rfl⟩:=hv
  have I1:Inv X pins Z H { s with heap:=h',toks:=tk }:=I.turned (fun b o hb e=>kk b o (by simpa using hb) e) f0 f1 f3 f4 f5
  refine ⟨_,rfl,lu (s:={ s with heap:=h',toks:=tk }) (n:="range_iterator") st' rfl rfl (by decide) ⟨.int (lo+i),H,I1,⟨t,?_⟩,⟨rfl,rfl⟩,st',fun b hb=>(hf b hb).1⟩⟩
  rw[nr]
 done:=by
  intro X hP hw hK hc i pins s Z H E I hf st hg
  subst hP hw hK
  obtain ⟨f0,f1,f2,f3,f4,f5⟩:=hf it (by simp)
  exact wpAny_pyNext_range_end (I.ok.hd hc) st (by have:n<=i:=hg;lia) fun h' eb=>⟨rfl,I.turned (t':=s.toks) (fun b o hb e=>eb b o hb e) f0 f1 f3 f4 f5⟩
 self:=fun j j j j j st h=>wpAny_pyIter_rangeiter st h
end L2
namespace L2
open PySem PySem.Spec PyProof.Rows
section
variable {X:Cx} {tg:Expr}
def mw (K:W.Frag) (tl:TE):TI:=fun Z H R=>tl Z H fun x H1=>∃ a,x=.ref a/\(∃ xs,SqL K H1 a xs)/\R (Itl K a) H1
def iTup (K:W.Frag) (tl:TE):TI:=fun Z H R=>tl Z H fun x H1=>∃ a,x=.ref a/\(∃ xs,SqT K H1 a xs)/\R (Itt K a) H1
theorem Zny {l:Expr} {tl:TE} (hl:PE X l tl):PI X tg l (mw X.K tl):=by
 intro pins s Z H R I h
 refine thn (hl pins s Z H _ I h) fun v s1 z0_=>?_
 obtain ⟨x,H1,I1,r1,q1⟩:=z0_
 obtain ⟨a,e,⟨xs,hq⟩,q⟩:=q1
 subst e
 cases r1
 obtain ⟨its,rv,p,hz⟩:=I1.list hq
 refine wpAny_pyIter_list p.isList ?_
 refine ⟨s1.heap.objs.size,[s1.heap.objs.size],_,_,H1,rfl,I1.kept (t':=s1.toks) fun b o e=>bt _ e,ZjU a _,⟨_,ck _ rfl,rfl,rfl⟩,fun b hb=>?_,q⟩
 have e:b=s1.heap.objs.size:=by simpa using hb
 subst e
 exact I1.fpOk (aA _) (I1.hok.fresh (aA _))
theorem pi_tup {l:Expr} {tl:TE} (hl:PE X l tl):PI X tg l (iTup X.K tl):=by
 intro pins s Z H R I h
 refine thn (hl pins s Z H _ I h) fun v s1 ⟨x,H1,I1,r1,q1⟩=>?_
 obtain ⟨a,e,⟨xs,hq⟩,q⟩:=q1
 subst e
 cases r1
 obtain ⟨its,rv,p,hz⟩:=I1.tuple hq
 refine wpAny_pyIter_tuple (show s1.heap.IsTuple a its.toArray from p) ?_
 refine ⟨s1.heap.objs.size,[s1.heap.objs.size],_,_,H1,rfl,I1.kept (t':=s1.toks) fun b o e=>bt _ e,Zi5 a _,⟨_,ck _ rfl,rfl,rfl⟩,fun b hb=>?_,q⟩
 have e:b=s1.heap.objs.size:=by simpa using hb
 subst e
 exact I1.fpOk (aA _) (I1.hok.fresh (aA _))
theorem ZlK {pins:List (Addr×Obj)} {Z:St} {H:Hp} {s:Shared} {R:It->Hp->Prop} {E:Value->Shared->Prop} {lo hi:Int} {t u v:Tok} {tk:Nat} (I:Inv X pins Z H s) (h1:-(2 ^ 62)<=lo) (h2:lo < 2 ^ 62) (h3:-(2 ^ 62)<=hi) (h4:hi < 2 ^ 62)
  (q:R (Itr lo (hi - lo).toNat) H):wpAny (model X.prog X.w) X.A (pyIter (.ref s.heap.objs.size)) (PIE X pins Z tg R) E { s with heap:=s.heap.push { cls:=.type "range",data:=.fields #[.int lo t,.int hi u,.int 1 v] },toks:=tk }:=by
 refine wpAny_pyIter_range (IsRange.new ..) (small_one h1 h2 h3 h4) ?_
 have I1:Inv X pins Z H { s with heap:=s.heap.push { cls:=.type "range",data:=.fields #[.int lo t,.int hi u,.int 1 v] },toks:=tk }:=I.kept fun b o e=>bt _ e
 refine ⟨(s.heap.push { cls:=.type "range",data:=.fields #[.int lo t,.int hi u,.int 1 v] }).objs.size,[(s.heap.push { cls:=.type "range",data:=.fields #[.int lo t,.int hi u,.int 1 v] }).objs.size],_,_,H,rfl,
  I1.kept (t':=tk) fun b o e=>bt _ e,Zi6 _ lo (hi - lo).toNat,?_,fun b hb=>?_,q⟩
 .have e1:lo+((0:Nat):Int) * 1=lo:=by simp
  have e2:(((hi - lo).toNat:Nat):Int) - ((0:Nat):Int)=Builtin.Range.rangeSize lo hi 1:=by rw[rangeSize_one];split <;> lia
  show IsRangeIter _ _ (lo+((0:Nat):Int) * 1) ((((hi - lo).toNat:Nat):Int) - ((0:Nat):Int)) 1
  rw[e1,e2]
  exact ck _ rfl
 .have e:b=(s.heap.push { cls:=.type "range",data:=.fields #[.int lo t,.int hi u,.int 1 v] }).objs.size:=by simpa using hb
  subst e
  exact I1.fpOk (aA _) (I1.hok.fresh (aA _))
def pB (ta:TA):TI:=fun Z H R=>ta Z H fun vs H1=>∃ j:Int,vs=[.int j]/\-(2 ^ 62)<=j/\j < 2 ^ 62/\R (Itr 0 j.toNat) H1
theorem cT {a:Expr} {ta:TA} {p pos:Pos} (hg:Gl X "range") (hm:X.mg "range"=none) (ha:PA X [a] ta) (hs:starEach [a] X.env=[(false,eval a X.env)]:=by rfl):PI X tg (.Call (.Name "range" p) [a] [] pos) (pB ta):=by
 intro pins s Z H R I h
 refine Call_ (ij I hg hm boot_range (qk (thn (ha pos pins s Z H _ I h) fun us s1 ⟨vs,H1,I1,r1,q1⟩=>?_) hs rfl))
 obtain ⟨j,e,q1,q2,q⟩:=q1
 subst e
 cases r1 with
 | cons r rr =>
  cases rr
  obtain ⟨t,rfl⟩:=r
  exact call_range_1 (ZlK I1 (by lia) (by lia) q1 q2 (by simpa using q))
def tFor (wi:TI) (g:TG) (tb:TS):TS:=fun D Z H=>wi Z H fun J H1=>∃ W:Nat->Nat->St->Hp->Prop,(∃ m,W 0 m Z H1)/\∀ i m Z H,W i m Z H ->
 (J.stop i H/\D.nx Z H)\/(J.go i H/\∃ N:St->Hp->Prop,(∀ σ' H',N σ' H'->∃ m',m' < m/\W (i+1) m' σ' H')/\∀ x H',J.yld i H x H'->g x Z H' fun σ2 H2=>tb { D with nx:=N,ct:=N,bk:=D.nx } σ2 H2)
def cS (fp:List Addr) (h:Heap):List (Addr×Obj):=fp.filterMap fun b=>(h.get? b).map fun o=>(b,o)
theorem kw {fp:List Addr} {h:Heap} {b:Addr} {o:Obj} (hb:b∈fp) (e:h.get? b=some o):(b,o)∈cS fp h:=mem_filterMap.mpr ⟨b,hb,by rw[e];rfl⟩
theorem qW {fp:List Addr} {h:Heap} {p:Addr×Obj} (hp:p∈cS fp h):p.1∈fp/\h.get? p.1=some p.2:=by
 obtain ⟨b,hb,e⟩:=mem_filterMap.mp hp
 cases q:h.get? b with
 | none=>rw[q] at e;cases e
 | some o =>
  rw[q] at e
  have e':(b,o)=p:=Option.some.inj e
  subst e'
  exact ⟨hb,q⟩
theorem Inv.pinned {pins:List (Addr×Obj)} {Z:St} {H:Hp} {s:Shared} {fp:List Addr} (I:Inv X pins Z H s) (hf:∀ b∈fp,FpOk X pins H b) (ho:∀ b∈fp,∃ o,s.heap.get? b=some o/\∀ v,o.data≠.cell v):Inv X (pins++cS fp s.heap) Z H s :=
 I.pins_of fun p hp=>(aI.mp hp).elim (fun z=>I.pin p (cP _ z)) fun z=>by
  obtain ⟨hb,e⟩:=qW z
  obtain ⟨f0,f1,f2,j⟩:=hf p.1 hb
  obtain ⟨o,e',d⟩:=ho p.1 hb
  rw[e] at e';cases e'
  exact ⟨e,f0,f1,f2,d⟩
theorem Inv.unpinned {pins pl:List (Addr×Obj)} {Z:St} {H:Hp} {s:Shared} (I:Inv X (pins++pl) Z H s):Inv X pins Z H s:=I.pins_of fun p hp=>I.pin p (cP _ (cU _ hp))
theorem cz {iter:Expr} {body:List Stmt} {wi:TI} {g:TG} {tb:TS} {pos:Pos} (hp:PassesOwn (model X.prog X.w) X.A X.env X.xe) (hc:X.calm=true) (hi:PI X tg iter wi) (hg:PG X tg g) (hb:PSs X body tb)
  (hs:∀ x,foldedSetIterable iter X.env x=pure x:=by intro j;rfl):PS X (.For tg iter body [] pos) (tFor wi g tb):=by
 intro pins s Z H D I h
 refine wpAny_For (thn (hi pins s Z H _ I h) fun v s1 h1=>thn h1 fun itv s2 h2=>?_) hs
 obtain ⟨it,fp,tn,J,H2,e,I2,T,st2,f2,W,⟨m0,w0⟩,turn⟩:=h2
 subst e
 have stat:∀ {H':Hp},(∀ b∈fp,H' b=none)->∀ b∈fp,FpOk X pins H' b:=fun hn b hb=>⟨hn b hb,(f2 b hb).2⟩
 refine codeAny_forLoop_any (fun n s'=>∃ i σ' H',Inv X pins σ' H' s'/\tn i s'.heap/\(∀ b∈fp,H' b=none)/\W i n σ' H') ?_ m0 ⟨0,Z,H2,I2,st2,fun b hb=>(f2 b hb).1,w0⟩
 rintro n s3 ⟨i,σ3,H3,I3,st3,fr3,w3⟩
 rcases turn i n σ3 H3 w3 with ⟨stop,qn⟩|⟨go,N,hN,step⟩
 .refine hV hp (thn (T.done X rfl rfl rfl hc i pins s3 σ3 H3 X.xe I3 (stat fr3) st3 stop) fun r s4 z0_=>?_)
  obtain ⟨hr,I4⟩:=z0_
  subst hr
  exact np ⟨σ3,H3,I4,qn⟩
 .refine hV hp (thn (T.item X rfl rfl rfl hc i pins s3 σ3 H3 X.xe I3 (stat fr3) st3 go) fun r s4 z1_=>?_)
  obtain ⟨u,hr,h4⟩:=z1_
  subst hr
  refine hV hp (thn h4 fun j s5 z2_=>?_)
  obtain ⟨x,H5,I5,r5,y5,st5,fr5⟩:=z2_
  have I5':=I5.pinned (stat fr5) (T.obj _ _ st5)
  refine hV hp (thn (hg _ s5 σ3 H5 x u _ I5' r5 (step x H5 y5)) fun j s6 z3_=>?_)
  obtain ⟨σ6,H6,I6,q6⟩:=z3_
  refine hV hp (thn (hb _ s6 σ6 H6 _ I6 q6) fun f s7 q7=>?_)
  have again:∀ {σ7:St} {H7:Hp},Inv X (pins++cS fp s5.heap) σ7 H7 s7->N σ7 H7->∃ m,m < n/\∃ i σ' H',Inv X pins σ' H' s7/\tn i s7.heap/\(∀ b∈fp,H' b=none)/\W i m σ' H':=fun {σ7 H7} I7 n7=>by
   obtain ⟨m',hm,w7⟩:=hN σ7 H7 n7
   refine ⟨m',hm,i+1,σ7,H7,I7.unpinned,T.keep _ _ _ st5 fun b hb o e=>(I7.pin (b,o) (cP _ (cP _ (kw hb e)))).1,fun b hb=>?_,w7⟩
   obtain ⟨o,e,d⟩:=T.obj _ _ st5 b hb
   exact (I7.pin (b,o) (cP _ (cP _ (kw hb e)))).2.1
  cases f with
  | next=>obtain ⟨σ7,H7,I7,n7⟩:=q7;exact again I7 n7
  | cont=>obtain ⟨σ7,H7,I7,n7⟩:=q7;exact again I7 n7
  | brk=>obtain ⟨σ7,H7,I7,q7⟩:=q7;exact ⟨σ7,H7,I7.unpinned,q7⟩
  | ret v=>obtain ⟨x7,σ7,H7,I7,r7,q7⟩:=q7;exact ⟨x7,σ7,H7,I7.unpinned,r7,q7⟩
end
theorem Zl6 {K:W.Frag} {a:Addr} {xs:List V} {g:TG} {tb:TS} {D:Ends} {Z:St} {H:Hp} (Pv:Nat->St->Hp->Prop) (h0:Pv 0 Z H) (hl:∀ i Z H,i<=xs.length->Pv i Z H->SqL K H a xs)
  (hs:∀ i x Z H,xs[i]?=some x->Pv i Z H->g x Z H fun σ2 H2=>tb { D with nx:=Pv (i+1),ct:=Pv (i+1),bk:=D.nx } σ2 H2) (hd:∀ Z H,Pv xs.length Z H->D.nx Z H) :
  ∃ W:Nat->Nat->St->Hp->Prop,(∃ m,W 0 m Z H)/\∀ i m Z H,W i m Z H ->
   ((Itl K a).stop i H/\D.nx Z H)\/((Itl K a).go i H/\∃ N:St->Hp->Prop,(∀ σ' H',N σ' H'->∃ m',m' < m/\W (i+1) m' σ' H')/\∀ x H',(Itl K a).yld i H x H'->g x Z H' fun σ2 H2=>tb { D with nx:=N,ct:=N,bk:=D.nx } σ2 H2):=by
 refine ⟨fun i m Z H=>m=xs.length - i/\i<=xs.length/\Pv i Z H,⟨xs.length,by simp,bD _,h0⟩,?_⟩
 rintro i m Z H ⟨rfl,hi,p⟩
 have q:=hl i Z H hi p
 by_cases hlt:i < xs.length
 .refine .inr ⟨⟨xs,xs[i],q,by simp[hlt]⟩,Pv (i+1),fun σ' H' p'=>⟨xs.length - (i+1),by lia,rfl,hlt,p'⟩,fun x H' y=>?_⟩
  obtain ⟨e,y⟩:=y
  subst e
  exact hs i x Z _ (y xs q) p
 .have e:i=xs.length:=by lia
  subst e
  exact .inl ⟨⟨xs,q,aA _⟩,hd Z H p⟩
end L2
namespace L2
open PySem PySem.Spec PyProof.Rows
abbrev R2:=V->V->Hp->VK->Prop
def OpR (X:Cx) (f:Value->Value->Sem Value) (r:R2):Prop :=
 ∀ (pins:List (Addr×Obj)) (s:Shared) (Z:St) (H:Hp) (x y:V) (v u:Value) (Q:VK),Inv X pins Z H s->RelV x v->RelV y u->r x y H Q ->
  wpAny (model X.prog X.w) X.A (f v u) (EP X pins Z Q) X.xe s
def UnR (X:Cx) (f:Value->Sem Value) (r:V->Hp->VK->Prop):Prop :=
 ∀ (pins:List (Addr×Obj)) (s:Shared) (Z:St) (H:Hp) (x:V) (v:Value) (Q:VK),Inv X pins Z H s->RelV x v->r x H Q ->
  wpAny (model X.prog X.w) X.A (f v) (EP X pins Z Q) X.xe s
def bF (X:Cx) (f:Value) (r:List V->Hp->VK->Prop):Prop :=
 ∀ (pins:List (Addr×Obj)) (s:Shared) (Z:St) (H:Hp) (xs:List V) (us:List Value) (Q:VK),Inv X pins Z H s->Vals xs us->r xs H Q ->
  wpAny (model X.prog X.w) X.A (call f us) (EP X pins Z Q) X.xe s
def tOp (r:R2) (ta tb:TE):TE:=fun Z H Q=>ta Z H fun x H1=>tb Z H1 fun y H2=>r x y H2 Q
def tUn (r:V->Hp->VK->Prop) (ta:TE):TE:=fun Z H Q=>ta Z H fun x H1=>r x H1 Q
def rI (C:Int->Int->Prop) (g:Int->Int->V):R2:=fun x y H Q=>∃ i j,x=.int i/\y=.int j/\C i j/\Q (g i j) H
def rI0 (g:Int->Int->V):R2:=fun x y H Q=>∃ i j,x=.int i/\y=.int j/\Q (g i j) H
def rU (g:Int->V):V->Hp->VK->Prop:=fun x H Q=>∃ i,x=.int i/\Q (g i) H
section
variable {X:Cx} {a b c:Expr} {ta tb tc:TE} {pos:Pos}
theorem binT (ha:PE X a ta) (hb:PE X b tb) {pins:List (Addr×Obj)} {s:Shared} {Z:St} {H:Hp} {R:V->V->Hp->Prop} (I:Inv X pins Z H s)
  (h:ta Z H fun x H1=>tb Z H1 fun y H2=>R x y H2) {Q:Value->Shared->Prop} {f:Value->Value->Sem Value}
  (hf:∀ v u s2 x y H2,Inv X pins Z H2 s2->RelV x v->RelV y u->R x y H2->wpAny (model X.prog X.w) X.A (f v u) Q X.xe s2) :
  wpAny (model X.prog X.w) X.A (eval a X.env) (fun v s₁=>wpAny (model X.prog X.w) X.A (eval b X.env) (fun u s₂=>wpAny (model X.prog X.w) X.A (f v u) Q X.xe s₂) X.xe s₁) X.xe s:=by
 refine thn (ha pins s Z H _ I h) fun v s1 ⟨x,H1,I1,r1,q1⟩=>?_
 refine thn (hb pins s1 Z H1 _ I1 q1) fun u s2 ⟨y,H2,I2,r2,q2⟩=>?_
 exact hf v u s2 x y H2 I2 r1 r2 q2
theorem ao {op:Operator} {r:R2} (ho:OpR X (binaryOp op) r) (ha:PE X a ta) (hb:PE X b tb):PE X (.BinOp a op b pos) (tOp r ta tb):=by
 intro pins s Z H Q I h
 exact wpAny_BinOp (binT ha hb I h fun v u s2 x y H2 I2 rx ry q=>ho pins s2 Z H2 x y v u Q I2 rx ry q)
theorem bT {op:UnaryOp} {r:V->Hp->VK->Prop} (ho:UnR X (unaryOp op) r) (ha:PE X a ta):PE X (.UnaryOp op a pos) (tUn r ta):=by
 intro pins s Z H Q I h
 exact UnaryOp_ (thn (ha pins s Z H _ I h) fun v s1 ⟨x,H1,I1,r1,q1⟩=>ho pins s1 Z H1 x v Q I1 r1 q1)
theorem opI {f:Value->Value->Sem Value} {C:Int->Int->Prop} {g:Int->Int->Int}
  (rule:∀ (i j:Int) (t u:Tok) (s:Shared) (Q:Value->Shared->Prop) (E:Value->Shared->Prop),C i j->Q (.int (g i j) s.toks) { s with toks:=s.toks+1 }->wpAny (model X.prog X.w) X.A (f (.int i t) (.int j u)) Q E s) :
  OpR X f (rI C fun i j=>.int (g i j)):=by
 intro pins s Z H x y v u Q I rx ry h
 obtain ⟨i,j,rfl,rfl,hc,q⟩:=h
 obtain ⟨t,rfl⟩:=rx
 obtain ⟨t',rfl⟩:=ry
 exact rule i j t t' s _ _ hc ⟨.int (g i j),H,I.tok _,⟨_,rfl⟩,q⟩
theorem opI0 {f:Value->Value->Sem Value} {g:Int->Int->Int}
  (rule:∀ (i j:Int) (t u:Tok) (s:Shared) (Q:Value->Shared->Prop) (E:Value->Shared->Prop),Q (.int (g i j) s.toks) { s with toks:=s.toks+1 }->wpAny (model X.prog X.w) X.A (f (.int i t) (.int j u)) Q E s) :
  OpR X f (rI0 fun i j=>.int (g i j)):=by
 intro pins s Z H x y v u Q I rx ry h
 obtain ⟨i,j,rfl,rfl,q⟩:=h
 obtain ⟨t,rfl⟩:=rx
 obtain ⟨t',rfl⟩:=ry
 exact rule i j t t' s _ _ ⟨.int (g i j),H,I.tok _,⟨_,rfl⟩,q⟩
theorem opB0 {f:Value->Value->Sem Value} {g:Int->Int->Bool}
  (rule:∀ (i j:Int) (t u:Tok) (s:Shared) (Q:Value->Shared->Prop) (E:Value->Shared->Prop),Q (.bool (g i j)) s->wpAny (model X.prog X.w) X.A (f (.int i t) (.int j u)) Q E s) :
  OpR X f (rI0 fun i j=>.bl (g i j)):=by
 intro pins s Z H x y v u Q I rx ry h
 obtain ⟨i,j,rfl,rfl,q⟩:=h
 obtain ⟨t,rfl⟩:=rx
 obtain ⟨t',rfl⟩:=ry
 exact rule i j t t' s _ _ ⟨.bl (g i j),H,I,rfl,q⟩
def CPow (i j:Int):Prop:=0<=j/\j<=1000000/\i.natAbs < 2 ^ 64
def CMul (i j:Int):Prop:=(-(2 ^ 64) < i/\i < 2 ^ 64)\/(-(2 ^ 64) < j/\j < 2 ^ 64)
theorem CMul.ok {i j:Int} (h:CMul i j):IntMulOk i j:=by
 rcases h with ⟨h1,h2⟩|⟨h1,h2⟩
 .exact .of_left (intBits_le_64 h1 h2)
 .exact .of_right (intBits_le_64 h1 h2)
theorem br:OpR X (binaryOp .Add) (rI0 fun i j=>.int (i+j)):=opI0 fun z z z z z z z q=>add_int q
theorem cw:OpR X (binaryOp .Sub) (rI0 fun i j=>.int (i - j)):=opI0 fun z z z z z z z q=>sub_int q
theorem qb:OpR X (binaryOp .Mult) (rI CMul fun i j=>.int (i * j)):=opI fun z z z z z z z hc q=>mul_int q hc.ok
theorem fP:OpR X (binaryOp .Mod) (rI (fun z j=>0 < j) fun i j=>.int (i % j)):=opI fun i j z z z z z hc q=>by
 have h1:(0:Int) < j:=hc
 exact mod_int' (by lia) (by rw[Int.fmod_eq_emod_of_nonneg i (by lia)];exact q)
theorem km:OpR X (binaryOp .Pow) (rI CPow fun i j=>.int (i ^ j.toNat)):=opI fun z z z z z z z hc q=>pow_int_small hc.1 hc.2.1 hc.2.2 q
theorem unI {f:Value->Sem Value} {g:Int->Int}
  (rule:∀ (i:Int) (t:Tok) (s:Shared) (Q:Value->Shared->Prop) (E:Value->Shared->Prop),Q (.int (g i) s.toks) { s with toks:=s.toks+1 }->wpAny (model X.prog X.w) X.A (f (.int i t)) Q E s) :
  UnR X f (rU fun i=>.int (g i)):=by
 intro pins s Z H x v Q I rx h
 obtain ⟨i,rfl,q⟩:=h
 obtain ⟨t,rfl⟩:=rx
 exact rule i t s _ _ ⟨.int (g i),H,I.tok _,⟨_,rfl⟩,q⟩
theorem bV:UnR X (unaryOp .USub) (rU fun i=>.int (-i)):=unI fun j j j j j q=>neg_int q
end
def scal:V->V->Bool
 | .non,.non=>true|.non,.int _=>true|.int _,.non=>true|.non,.bl _=>true|.bl _,.non=>true|.non,.str _=>true|.str _,.non=>true
 | .int _,.int _=>true|.bl _,.bl _=>true|.str _,.str _=>true|.byt _,.byt _=>true
 | .int _,.str _=>true|.str _,.int _=>true|.bl _,.str _=>true|.str _,.bl _=>true
 | _,_=>false
def rEq:R2:=fun x y H Q=>scal x y=true/\Q (.bl (decide (x=y))) H
def rNe:R2:=fun x y H Q=>scal x y=true/\Q (.bl (!decide (x=y))) H
theorem lz {i j:Int}:decide (V.int i=V.int j)=(i == j):=by
 rw[kz]
 simp
theorem lJ {i j:Bool}:decide (V.bl i=V.bl j)=(i == j):=by
 rw[kz]
 simp
theorem pq {i j:Str}:decide (V.str i=V.str j)=(i == j):=by
 rw[kz]
 simp
theorem tQ {i j:Array UInt8}:decide (V.byt i=V.byt j)=(i.toList == j.toList):=by
 rw[kz]
 cases i
 cases j
 simp
section
variable {X:Cx} {a b c:Expr} {ta tb tc:TE} {pos:Pos}
theorem bj {pins:List (Addr×Obj)} {Z:St} {H:Hp} {s:Shared} {Q:VK} {k k':Bool} (I:Inv X pins Z H s) (q:Q (.bl k) H) (e:k=k'):EP X pins Z Q (.bool k') s:=by
 subst e
 exact ⟨.bl k,H,I,rfl,q⟩
theorem aM:OpR X (compareOp .Eq) rEq:=by
 intro pins s Z H x y v u Q I rx ry h
 obtain ⟨hs,q⟩:=h
 cases x with
 | non =>
  cases rx
  cases y with
  | non=>cases ry;exact PySem.EqNone.eq_none_none (bj I q (by simp))
  | bl j=>cases ry;exact PySem.EqNone.eq_none_bool (bj I q (by simp))
  | int j=>obtain ⟨t',rfl⟩:=ry;exact PySem.EqNone.eq_none_int (bj I q (by simp))
  | str j=>obtain ⟨t',rfl⟩:=ry;exact PySem.EqNone.eq_none_str (bj I q (by simp))
  | _=>exact absurd (show false=true from hs) bA
 | bl i =>
  cases rx
  cases y with
  | non=>cases ry;exact PySem.EqNone.eq_bool_none (bj I q (by simp))
  | bl j=>cases ry;exact eq_bool (bj I q lJ)
  | str j=>obtain ⟨t',rfl⟩:=ry;exact PySem.EqMixed.eq_bool_str (bj I q (by simp))
  | _=>exact absurd (show false=true from hs) bA
 | int i =>
  obtain ⟨t,rfl⟩:=rx
  cases y with
  | non=>cases ry;exact PySem.EqNone.eq_int_none (bj I q (by simp))
  | int j=>obtain ⟨t',rfl⟩:=ry;exact eq_int (bj I q lz)
  | str j=>obtain ⟨t',rfl⟩:=ry;exact PySem.EqMixed.eq_int_str (bj I q (by simp))
  | _=>exact absurd (show false=true from hs) bA
 | str i =>
  obtain ⟨t,rfl⟩:=rx
  cases y with
  | non=>cases ry;exact PySem.EqNone.eq_str_none (bj I q (by simp))
  | bl j=>cases ry;exact PySem.EqMixed.eq_str_bool (bj I q (by simp))
  | int j=>obtain ⟨t',rfl⟩:=ry;exact PySem.EqMixed.eq_str_int (bj I q (by simp))
  | str j=>obtain ⟨t',rfl⟩:=ry;exact eq_str (bj I q pq)
  | _=>exact absurd (show false=true from hs) bA
 | byt i =>
  obtain ⟨t,rfl⟩:=rx
  cases y with
  | byt j=>obtain ⟨t',rfl⟩:=ry;exact PySem.W.eq_bytes (bj I q tQ)
  | _=>exact absurd (show false=true from hs) bA
 | _=>cases y <;> exact absurd (show false=true from hs) bA
theorem i6:OpR X (compareOp .NotEq) rNe:=by
 intro pins s Z H x y v u Q I rx ry h
 obtain ⟨hs,q⟩:=h
 cases x with
 | non =>
  cases rx
  cases y with
  | non=>cases ry;exact PySem.EqNone.ne_none_none (bj I q (by simp))
  | bl j=>cases ry;exact PySem.EqNone.ne_none_bool (bj I q (by simp))
  | int j=>obtain ⟨t',rfl⟩:=ry;exact PySem.EqNone.ne_none_int (bj I q (by simp))
  | str j=>obtain ⟨t',rfl⟩:=ry;exact PySem.EqNone.ne_none_str (bj I q (by simp))
  | _=>exact absurd (show false=true from hs) bA
 | bl i =>
  cases rx
  cases y with
  | non=>cases ry;exact PySem.EqNone.ne_bool_none (bj I q (by simp))
  | bl j=>cases ry;exact ne_bool (bj I q (congrArg not lJ))
  | str j=>obtain ⟨t',rfl⟩:=ry;exact PySem.EqMixed.ne_bool_str (bj I q (by simp))
  | _=>exact absurd (show false=true from hs) bA
 | int i =>
  obtain ⟨t,rfl⟩:=rx
  cases y with
  | non=>cases ry;exact PySem.EqNone.ne_int_none (bj I q (by simp))
  | int j=>obtain ⟨t',rfl⟩:=ry;exact ne_int (bj I q (congrArg not lz))
  | str j=>obtain ⟨t',rfl⟩:=ry;exact PySem.EqMixed.ne_int_str (bj I q (by simp))
  | _=>exact absurd (show false=true from hs) bA
 | str i =>
  obtain ⟨t,rfl⟩:=rx
  cases y with
  | non=>cases ry;exact PySem.EqNone.ne_str_none (bj I q (by simp))
  | bl j=>cases ry;exact PySem.EqMixed.ne_str_bool (bj I q (by simp))
  | int j=>obtain ⟨t',rfl⟩:=ry;exact PySem.EqMixed.ne_str_int (bj I q (by simp))
  | str j=>obtain ⟨t',rfl⟩:=ry;exact ne_str (bj I q (congrArg not pq))
  | _=>exact absurd (show false=true from hs) bA
 | byt i =>
  obtain ⟨t,rfl⟩:=rx
  cases y with
  | byt j=>obtain ⟨t',rfl⟩:=ry;exact PySem.W.ne_bytes (bj I q (congrArg not tQ))
  | _=>exact absurd (show false=true from hs) bA
 | _=>cases y <;> exact absurd (show false=true from hs) bA
theorem dS:OpR X (compareOp .Lt) (rI0 fun i j=>.bl (decide (i < j))):=opB0 fun z z z z z z z q=>lt_int q
theorem fi:OpR X (compareOp .Gt) (rI0 fun i j=>.bl (decide (j < i))):=opB0 fun z z z z z z z q=>gt_int q
theorem op_ge:OpR X (compareOp .GtE) (rI0 fun i j=>.bl (decide (j<=i))):=opB0 fun z z z z z z z q=>ge_int q
theorem op_isN:OpR X (compareOp .Is) (fun x y H Q=>y=.non/\Q (.bl (decide (x=.non))) H):=by
 intro pins s Z H x y v u Q I rx ry h
 obtain ⟨rfl,q⟩:=h
 cases ry
 refine is_none_gen (bj I q ?_)
 cases x <;> first
  | (cases rx;rfl)
  | (obtain ⟨t,rfl⟩:=rx;rfl)
theorem ZnC:OpR X (compareOp .IsNot) (fun x y H Q=>y=.non/\Q (.bl (!decide (x=.non))) H):=by
 intro pins s Z H x y v u Q I rx ry h
 obtain ⟨rfl,q⟩:=h
 cases ry
 refine isnot_none_gen (bj I q ?_)
 cases x <;> first
  | (cases rx;rfl)
  | (obtain ⟨t,rfl⟩:=rx;rfl)
theorem au (b:Expr) {op:CmpOp} (h:op≠.In:=by decide) (h2:op≠.NotIn:=by decide):behindInMarks op b=false:=by
 have e1:(op == CmpOp.In)=false:=by cases op <;> first|rfl|exact absurd rfl h
 have e2:(op == CmpOp.NotIn)=false:=by cases op <;> first|rfl|exact absurd rfl h2
 cases b <;> simp[behindInMarks,e1,e2]
theorem eZ {op:CmpOp} {r:R2} (ho:OpR X (compareOp op) r) (ha:PE X a ta) (hb:PE X b tb) (hm:behindInMarks op b=false):PE X (.Compare a [op] [b] pos) (tOp r ta tb):=by
 intro pins s Z H Q I h
 exact wpAny_Compare1 (binT ha hb I h fun v u s2 x y H2 I2 rx ry q=>ho pins s2 Z H2 x y v u Q I2 rx ry q) hm
def oE (t:TE):TT:=fun Z H Q=>t Z H fun x H'=>∃ k,x=.bl k/\Q k H'
theorem av {op:CmpOp} {r:R2} (ho:OpR X (compareOp op) r) (ha:PE X a ta) (hb:PE X b tb) (hm:behindInMarks op b=false):PT X (.Compare a [op] [b] pos) (oE (tOp r ta tb)):=by
 intro pins s Z H Q I h
 refine wpAny_isTrue_Compare1 (thn (ha pins s Z H _ I h) fun v s1 ⟨x,H1,I1,r1,q1⟩=>thn (hb pins s1 Z H1 _ I1 q1) fun u s2 ⟨y,H2,I2,r2,q2⟩ =>
  thn (ho pins s2 Z H2 x y v u _ I2 r1 r2 q2) fun c s3 ⟨z,H3,I3,r3,k,e,q3⟩=>?_) hm
 subst e
 cases r3
 exact jm ⟨H3,I3,q3⟩
theorem m8:(sizeLine:Nat) < 2 ^ 63:=by rw[sizeLine_eq];decide
theorem Zjc:OpR X (binaryOp .Add) (fun x y H Q=>∃ i j,x=.str i/\y=.str j/\i.length+j.length<=sizeLine/\Q (.str (i++j)) H):=by
 intro pins s Z H x y v u Q I rx ry h
 obtain ⟨i,j,rfl,rfl,hz,q⟩:=h
 obtain ⟨t,rfl⟩:=rx
 obtain ⟨t',rfl⟩:=ry
 exact add_str (fun t' tk=>⟨.str (i++j),H,I.tok _,⟨_,rfl⟩,q⟩) hz
theorem vals1 {x:V} {us:List Value} (r:Vals [x] us):∃ u,us=[u]/\RelV x u:=by
 cases r with
 | cons r1 r2=>cases r2;exact ⟨_,rfl,r1⟩
theorem vals2 {x y:V} {us:List Value} (r:Vals [x,y] us):∃ u w',us=[u,w']/\RelV x u/\RelV y w':=by
 cases r with
 | cons r1 r2 =>
  cases r2 with
  | cons r3 r4=>cases r4;exact ⟨_,_,rfl,r1,r3⟩
theorem Zmg:bF X (.builtin "abs") (fun xs H Q=>∃ i,xs=[.int i]/\Q (.int (if i < 0 then -i else i)) H):=by
 intro pins s Z H xs us Q I r h
 obtain ⟨i,rfl,q⟩:=h
 obtain ⟨u,rfl,t,rfl⟩:=vals1 r
 exact call_abs_int fun u tk=>⟨.int (if i < 0 then -i else i),H,I.tok _,⟨_,rfl⟩,q⟩
theorem Zla (hc:X.calm=true):bF X (.builtin "max") (fun xs H Q=>∃ i j,xs=[.int i,.int j]/\Q (.int (if j > i then j else i)) H):=by
 intro pins s Z H xs us Q I r h
 obtain ⟨i,j,rfl,q⟩:=h
 obtain ⟨u,w',rfl,⟨t,rfl⟩,⟨t',rfl⟩⟩:=vals2 r
 refine max_two_ints (I.ok.hd hc) fun h' tk k=>⟨_,H,I.kept k,?_,q⟩
 by_cases hj:j > i
 .rw[ah hj,ah hj];exact ⟨_,rfl⟩
 .rw[ai hj,ai hj];exact ⟨_,rfl⟩
theorem Zk7 (hc:X.calm=true):bF X (.builtin "min") (fun xs H Q=>∃ i j,xs=[.int i,.int j]/\Q (.int (if j < i then j else i)) H):=by
 intro pins s Z H xs us Q I r h
 obtain ⟨i,j,rfl,q⟩:=h
 obtain ⟨u,w',rfl,⟨t,rfl⟩,⟨t',rfl⟩⟩:=vals2 r
 refine min_two_ints (I.ok.hd hc) fun h' tk k=>⟨_,H,I.kept k,?_,q⟩
 by_cases hj:j < i
 .rw[ah hj,ah hj];exact ⟨_,rfl⟩
 .rw[ai hj,ai hj];exact ⟨_,rfl⟩
theorem Zle:bF X (.type "int") (fun xs H Q=>(∃ i,xs=[.int i]/\Q (.int i) H)\/∃ k,xs=[.bl k]/\Q (.int (if k then 1 else 0)) H):=by
 intro pins s Z H xs us Q I r h
 rcases h with ⟨i,rfl,q⟩|⟨k,rfl,q⟩
 .obtain ⟨u,rfl,t,rfl⟩:=vals1 r
  exact call_int_int ⟨.int i,H,I,⟨_,rfl⟩,q⟩
 .obtain ⟨u,rfl,r1⟩:=vals1 r
  cases r1
  exact call_int_bool ⟨.int (if k then 1 else 0),H,I.tok _,⟨_,rfl⟩,q⟩
def LenV (K:W.Frag) (x:V) (H:Hp) (n:Nat):Prop :=
 match x with
 | .str y=>y.length<=sizeLine/\n=y.length
 | .byt y=>y.size<=sizeLine/\n=y.size
 | .ref p=>(∃ xs,SqL K H p xs/\n=xs.length)\/∃ xs,SqT K H p xs/\n=xs.length
 | _=>False
theorem Zmf:bF X (.builtin "len") (fun xs H Q=>∃ x n,xs=[x]/\LenV X.K x H n/\Q (.int n) H):=by
 intro pins s Z H xs us Q I r h
 obtain ⟨x,n,rfl,e,q⟩:=h
 obtain ⟨u,rfl,rx⟩:=vals1 r
 have hl:=m8
 have hs:sizeLine=16777216:=sizeLine_eq
 cases x with
 | str y =>
  obtain ⟨t,rfl⟩:=rx
  obtain ⟨hy,e'⟩:y.length<=sizeLine/\n=y.length:=e
  subst e'
  exact len_str (by lia) ⟨.int _,H,I.tok _,⟨_,rfl⟩,q⟩
 | byt y =>
  obtain ⟨t,rfl⟩:=rx
  obtain ⟨hy,e'⟩:y.size<=sizeLine/\n=y.size:=e
  subst e'
  exact PySem.W.len_bytes (by lia) ⟨.int _,H,I.tok _,⟨_,rfl⟩,q⟩
 | ref p =>
  cases rx
  have e':(∃ xs,SqL X.K H p xs/\n=xs.length)\/∃ xs,SqT X.K H p xs/\n=xs.length:=e
  rcases e' with ⟨xs,hx,e'⟩|⟨xs,hx,e'⟩
  .subst e'
   obtain ⟨its,r',pl,hz⟩:=I.list hx
   have hlen:=r'.length
   exact Calls.call_len_list pl.isList (by simp only[bu];lia) ⟨.int xs.length,H,I.tok _,⟨_,by simp only[bu];rw[hlen]⟩,q⟩
  .subst e'
   obtain ⟨its,r',pl,hz⟩:=I.tuple hx
   have hlen:=r'.length
   exact len_tuple pl (by simp only[bu];lia) ⟨.int xs.length,H,I.tok _,⟨_,by simp only[bu];rw[hlen]⟩,q⟩
 | _=>exact (show False from e).elim
end
end L2
namespace L2
open PySem PySem.Spec PyProof.Rows
structure ObjM (h:Heap) (x dx C:Addr) (mA:Str->Option Value):Prop where
 obj:h.get? x=some (PySem.W.instObj C dx)
 ns:h.Ns1 dx mA
 ne:dx≠x
theorem Zkw {h:Heap} {dx:Addr} {mA:Str->Option Value} (n:h.Ns1 dx mA):∃ od,h.get? dx=some od/\∀ name,PySem.W.lookIn name od=some (mA name):=by
 obtain ⟨o,es,ep,ho,hd,hk,_,hm⟩:=n
 refine ⟨o,ho,fun name=>?_⟩
 have e:=hm name
 unfold nsFind findBy at e
 rw[<-Array.find?_toList] at e
 unfold PySem.W.lookIn
 rw[hd]
 dsimp only
 split
 .rename_i y q
  rw[q] at e
  exact congrArg some e
 .rename_i q
  rw[q] at e
  have a:es.toList.any (·.refKey)=false:=by
   rw[any_eq_false]
   intro y hy
   obtain ⟨z,t,hkey⟩:=hk y (Array.mem_toList_iff.mp hy)
   simp[DictEntry.refKey,hkey]
  have a':¬ es.toList.any (·.refKey)=true:=by rw[a];exact bA
  rw[ai a']
  exact congrArg some e
theorem ObjM.look {h:Heap} {x dx C:Addr} {mA:Str->Option Value} (I:ObjM h x dx C mA):∃ od,PySem.W.InstAt h x (PySem.W.instObj C dx) C (some od)/\∀ name,PySem.W.lookIn name od=some (mA name) :=
 let ⟨od,ho,hl⟩:=Zkw I.ns
 ⟨od,⟨I.obj,rfl,rfl,ho⟩,hl⟩
theorem RelO.some_of {v:V} {o:Option Value} (r:RelO (some v) o):∃ u,o=some u/\RelV v u:=by
 cases o with
 | none=>exact (show False from r).elim
 | some u=>exact ⟨u,rfl,r⟩
section
variable {P:Program} {w:World} {H H':Hp} {h h':Heap} {a C dx:Addr} {fs fs':List (Str×V)}
theorem tG (hok:HOk P w H h) (e:H a=some (.ins C dx fs)):∃ mA,ObjM h a dx C mA/\(∀ f,RelO (fs.lookup f) (mA f))/\PySem.Within mA (fs.map (·.1))/\fs.length<=1000/\H dx=some (.own a):=by
 obtain ⟨d,z,ne,ob,mA,n,r,q⟩:=(show ObjOk P w H h a (.ins C dx fs) from hok a _ e)
 exact ⟨mA,⟨ob,n,ne⟩,r,q,z,d⟩
end
structure Cls (K:W.Frag) (C:Addr):Prop where
 pg:PySem.W.plainGet K C Str.empty=true
 hd:PySem.W.hasDictIn K C=true
 po:PySem.W.plainOver K C=true
 sa:PySem.W.findIn K (.ref C) "__setattr__"=some (some (.builtin "object.__setattr__"))
theorem Cls.get {K:W.Frag} {C:Addr} (c:Cls K C) (f:Str):PySem.W.plainGet K C f=true:=c.pg
section
variable {X:Cx} {pins:List (Addr×Obj)} {Z:St} {H:Hp} {s:Shared} {A:Around} {E:Value->Shared->Prop} {Q:Value->Shared->Prop} {c:Value} {b:Bool}
inductive TyOf (K:W.Frag) (H:Hp):V->Value->Prop where
 | non:TyOf K H .non (.type "NoneType")
 | bl (x:Bool):TyOf K H (.bl x) (.type "bool")
 | int (i:Int):TyOf K H (.int i) (.type "int")
 | str (x:Str):TyOf K H (.str x) (.type "str")
 | flt (x:UInt64):TyOf K H (.flt x) (.type "float")
 | lst {a:Addr} {xs:List V} (e:H a=some (.lst xs)):TyOf K H (.ref a) (.type "list")
 | frz {a:Addr} {o:Obj} {xs:List V} (e:H a=some (.frz o (.lst xs))):TyOf K H (.ref a) (.type "list")
 | tup {a:Addr} {xs:List V} (e:H a=some (.tup xs)):TyOf K H (.ref a) (.type "tuple")
 | dK {a:Addr} {kvs:List (Key×V)} (e:H a=some (.dK kvs)):TyOf K H (.ref a) (.type "dict")
 | dT {a:Addr} {kvs:List (List Key×V)} (e:H a=some (.dT kvs)):TyOf K H (.ref a) (.type "dict")
 | ins {a C dx:Addr} {fs:List (Str×V)} (e:H a=some (.ins C dx fs)) (cl:Cls K C) (ha:PySem.W.findIn K (.ref C) "__class__"=some (some (.builtin "object.__class__")))
   (hn:PySem.W.specialIn K (.builtin "object.__class__") "__get__"=some (some (.builtin "getset_descriptor.__get__"))) (htk:PySem.W.takesIn K (.builtin "object.__class__")=some true)
   (hm:PySem.W.mroIn K C (.type "object")=some true):TyOf K H (.ref a) (.ref C)
theorem ZkM {x:V} {u t:Value} (I:Inv X pins Z H s) (rx:RelV x u) (ty:TyOf X.K H x t) (e:PySem.W.kitOne X.K t c=some b) (h:∀ tk,Q (.bool b) { s with toks:=tk }) :
  wpAny (model X.prog X.w) A (call (.builtin "isinstance") [u,c]) Q E s:=by
 cases ty with
 | non=>cases (show u=Value.none from rx);exact PySem.W.kia_one PySem.W.kitx_none I.kIn True.intro e (fun z=>nomatch z) h
 | bl y=>cases (show u=Value.bool y from rx);exact PySem.W.kia_one PySem.W.kitx_bool I.kIn True.intro e (fun z=>nomatch z) h
 | int i=>obtain ⟨t,q⟩:=(show ∃ t,u=Value.int i t from rx);cases q;exact PySem.W.kia_one PySem.W.kitx_int I.kIn True.intro e (fun z=>nomatch z) h
 | str y=>obtain ⟨t,q⟩:=(show ∃ t,u=Value.str y t from rx);cases q;exact PySem.W.kia_one PySem.W.kitx_str I.kIn True.intro e (fun z=>nomatch z) h
 | flt y=>obtain ⟨t,q⟩:=(show ∃ t,u=Value.float y t from rx);cases q;exact PySem.W.kia_one PySem.W.kitx_float I.kIn True.intro e (fun z=>nomatch z) h
 | @lst a xs ea =>
  cases (show u=Value.ref a from rx)
  obtain ⟨j,j,n,j,h1⟩:=(show ObjOk X.prog X.w H s.heap a (.lst xs) from I.hok a _ ea)
  exact PySem.W.kia_one PySem.W.kitx_list I.kIn ⟨_,h1,rfl⟩ e (fun z=>nomatch z) h
 | @frz a ob xs ea =>
  cases (show u=Value.ref a from rx)
  obtain ⟨j,j,j,n,j,h1⟩:=(show ObjOk X.prog X.w H s.heap a (.frz ob (.lst xs)) from I.hok a _ ea)
  exact PySem.W.kia_one PySem.W.kitx_list I.kIn ⟨_,h1,rfl⟩ e (fun z=>nomatch z) h
 | @tup a xs ea =>
  cases (show u=Value.ref a from rx)
  obtain ⟨j,j,j,p⟩:=(show ObjOk X.prog X.w H s.heap a (.tup xs) from I.hok a _ ea)
  obtain ⟨o,h1,h2,j⟩:=p
  exact PySem.W.kia_one PySem.W.kitx_tuple I.kIn ⟨o,h1,h2⟩ e (fun z=>nomatch z) h
 | @dK a kvs ea =>
  cases (show u=Value.ref a from rx)
  obtain ⟨j,j,vs,j,p⟩:=(show ObjOk X.prog X.w H s.heap a (.dK kvs) from I.hok a _ ea)
  obtain ⟨o,es,ep,h1,h2,j⟩:=p
  exact PySem.W.kia_one PySem.W.kitx_dict I.kIn ⟨o,h1,h2.1⟩ e (fun z=>nomatch z) h
 | @dT a kvs ea =>
  cases (show u=Value.ref a from rx)
  obtain ⟨j,j,xs,j,o,es,ep,h1,h2,j⟩:=(show ObjOk X.prog X.w H s.heap a (.dT kvs) from I.hok a _ ea)
  exact PySem.W.kia_one PySem.W.kitx_dict I.kIn ⟨o,h1,h2.1⟩ e (fun z=>nomatch z) h
 | @ins a C dx fs ea cl ha hn htk hm =>
  cases (show u=Value.ref a from rx)
  obtain ⟨mA,O,j⟩:=tG I.hok ea
  obtain ⟨od,J,j⟩:=O.look
  exact PySem.W.kia_one (PySem.W.kitx_own (cl.get _) cl.hd ha hn htk hm) I.kIn J e (fun z=>nomatch z) h
end
end L2
namespace L2
open PySem PySem.Spec PyProof.Rows
structure Room (k:Nat) (A:Around):Prop where
 hd:A.handled=none
 dp:A.depth+3 * k+5 < recursionLimit
 un:A.units+16 * k+200 < cLine
 gd:A.guards=some []
theorem Room.mono {j k:Nat} {A:Around} (r:Room k A) (h:j<=k):Room j A:=⟨r.hd,by have:=r.dp;lia,by have:=r.un;lia,r.gd⟩
theorem Room.m {j k:Nat} {A:Around} (r:Room k A) (h:j<=k:=by first|decide|lia):Room j A:=r.mono h
theorem Room.deeper {k:Nat} {A:Around} (r:Room (k+1) A) (env:Env):Room k (A.deeper env) :=
 ⟨r.hd,by have:=r.dp;show A.depth+1+3 * k+5 < _;lia,by have:=r.un;show A.units+3+16 * k+200 < _;lia,r.gd⟩
theorem Room.depth {k:Nat} {A:Around} (r:Room k A):A.depth < recursionLimit:=by have:=r.dp;lia
theorem Room.units {k:Nat} {A:Around} (r:Room k A):A.units+64 < cLine:=by have:=r.un;lia
def tNil:TA:=fun j H Q=>Q [] H
def a9 (ta:TE) (tr:TA):TA:=fun Z H Q=>ta Z H fun x H1=>tr Z H1 fun xs H2=>Q (x::xs) H2
section
variable {X:Cx} {e:Expr} {es:List Expr} {te:TE} {t:TA} {pos:Pos}
theorem ab:PA X [] tNil:=fun j j j j H Q I h=>nt ⟨[],H,I,.nil,h⟩
theorem eC (ha:PE X e te) (hr:PA X es t) (hs:starEach (e::es) X.env=(false,eval e X.env)::starEach es X.env:=by rfl):PA X (e::es) (a9 te t):=by
 intro pos pins s Z H Q I h
 rw[hs]
 show wpAny _ _ (spliced ((false,eval e X.env)::backTo pos (starEach es X.env))) _ _ s
 refine kA (thn (ha pins s Z H _ I h) fun u s1 ⟨x,H1,I1,r1,q1⟩=>?_)
 exact thn (hr pos pins s1 Z H1 _ I1 q1) fun us s2 ⟨xs,H2,I2,r2,q2⟩=>⟨x::xs,H2,I2,.cons r1 r2,q2⟩
def tTup (t:TA):TE:=fun Z H Q=>t Z H fun xs H1=>xs.length<=sizeLine/\∀ p,H1 p=none->Q (.ref p) (upd H1 p (.tup xs))
def tLst (t:TA):TE:=fun Z H Q=>t Z H fun xs H1=>xs.length<=sizeLine/\∀ p,H1 p=none->Q (.ref p) (upd H1 p (.lst xs))
theorem ar {x1} (h:PA X es t):PE X (.Tuple es x1 pos) (tTup t):=by
 intro pins s Z H Q I hq
 refine wpAny_Tuple_spliced (thn (h pos pins s Z H _ I hq) fun us s1 ⟨xs,H1,I1,r,z,q⟩=>⟨by rw[<-r.length];exact z,?_⟩)
 have hf:H1 s1.heap.objs.size=none:=I1.hok.fresh (aA _)
 refine ⟨.ref s1.heap.objs.size,upd H1 s1.heap.objs.size (.tup xs),I1.laid (t':=s1.toks) (fun b u e=>bt _ e) (aA _) ?_,rfl,q _ hf⟩
 exact ⟨z,us,r,⟨_,ck _ rfl,rfl,_,rfl⟩⟩
theorem be (h:PA X es t):PE X (.List es pos) (tLst t):=by
 intro pins s Z H Q I hq
 refine wpAny_List_spliced (thn (h pos pins s Z H _ I hq) fun us s1 ⟨xs,H1,I1,r,z,q⟩=>⟨by rw[<-r.length];exact z,?_⟩)
 have hf:H1 s1.heap.objs.size=none:=I1.hok.fresh (aA _)
 refine ⟨.ref s1.heap.objs.size,upd H1 s1.heap.objs.size (.lst xs),I1.laid (t':=s1.toks) (fun b u e=>bt _ e) (aA _) ?_,rfl,q _ hf⟩
 exact ⟨z,us,0,r,ck _ rfl⟩
end
abbrev Sp:=List V->Hp->VK->XK->Prop
abbrev CXT:=List Env->Hp->Shared->XK->Value->Shared->Prop
structure Env0 (P:Program) (w:World) (K:W.Frag) (mg:Str->Option Value) (base:Heap) (A:Around) (outer:List Env) (s:Shared) (H:Hp):Prop where
 frames:A.frames=some outer
 mod:Mod K mg base
 bs:∀ b o,base.get? b=some o->s.heap.get? b=some o/\H b=none
 bsz:base.objs.size<=s.heap.objs.size
 funs:s.heap.FunFrames base outer
 frf:∀ b∈frs outer,H b=none
 hok:HOk P w H s.heap
 bare:AllBare s.gens
def CE (outer:List Env) (P:Program) (w:World) (H:Hp) (s:Shared) (Q:VK) (u:Value) (s':Shared):Prop :=
 ∃ v H',s'.os=s.os/\AllBare s'.gens/\Un (frs outer) [] H H' s.heap s'.heap/\HOk P w H' s'.heap/\RelV v u/\Q v H'
def CR (CX:CXT) (outer:List Env) (P:Program) (w:World) (H:Hp) (s:Shared) (Q:VK) (E:XK) (r:Result) (s':Shared):Prop :=
 match r with
 | .ok (.ret u)=>CE outer P w H s Q u s'
 | .ok _=>False
 | .error e=>CX outer H s E e s'
structure FnOk (P:Program) (w:World) (K:W.Frag) (mg:Str->Option Value) (base:Heap) (CX:CXT) (k:Nat) (f:Addr) (fd:FuncData) (ps:List Str) (sp:Sp):Prop where
 len:∀ vs H Q E,sp vs H Q E->vs.length=ps.length
 run:∀ (A:Around) (outer:List Env) (s:Shared) (H:Hp) (args:Args) (us:List Value) (vs:List V) (Q:VK) (E:XK),Room k A->Env0 P w K mg base A outer s H->BindsTo s fd args (ps.zip us)->Vals vs us->sp vs H Q E ->
  codeAny (model P w) A (.call (.ref f) args) (CR CX outer P w H s Q E) s
section
variable {X:Cx} {pins:List (Addr×Obj)} {Z:St} {H:Hp} {s s':Shared}
theorem Inv.env0 (I:Inv X pins Z H s):Env0 X.prog X.w X.K X.mg X.base X.A X.stack s H :=
 ⟨I.ok.frames,I.ok.mod,I.bs,aR I.ok.bsz I.sz,I.stack,I.stkFree,I.hok,I.bare⟩
theorem Inv.after {Q:VK} {u:Value} (I:Inv X pins Z H s) (h:CE X.stack X.prog X.w H s Q u s'):EP X pins Z Q u s':=by
 obtain ⟨v,H',os,bare,un,hok,r,q⟩:=h
 obtain ⟨hh,g,d,t,os'⟩:=s'
 obtain rfl:os'=s.os:=os
 exact ⟨v,H',I.call (h':=hh) (g':=g) (d':=d) (t':=t) (ch:=[]) un hok bare (fun b z=>absurd z (by simp)),r,q⟩
end
def fc (sp:Sp) (dvs:List V) (E:XK) (t:TA):TE:=fun Z H Q=>t Z H fun vs H1=>sp (vs++dvs) H1 Q E
def Binds (K:W.Frag) (fd:FuncData) (ps:List Str) (ds:List Value):Prop :=
 ∀ (s:Shared) (us:List Value),K.In s.heap->(us++ds).length=ps.length->BindsTo s fd ⟨us,[]⟩ (ps.zip (us++ds))
theorem Binds.all {K:W.Frag} {fd:FuncData} {ps:List Str} (h:∀ us:List Value,us.length=ps.length->bindArgs fd ⟨us,[]⟩=pure (ps.zip us)):Binds K fd ps []:=fun s us j hl=>by
 rw[gy] at hl ⊢
 exact .of_eq (h us hl)
def nY (CX:CXT) (X:Cx) (E:XK):Prop:=∀ (pins:List (Addr×Obj)) (Z:St) (H:Hp) (s:Shared) (e:Value) (s':Shared),Inv X pins Z H s->CX X.stack H s E e s'->X.xe e s'
section
variable {X:Cx} {CX:CXT} {k:Nat} {f C:Addr} {fd:FuncData} {ps:List Str} {sp:Sp} {dvs:List V} {ds:List Value} {E:XK} {x m:Str} {p pos apos:Pos} {e o:Expr} {es:List Expr} {ta:TE} {t:TA}
theorem run_fn {pins:List (Addr×Obj)} {Z:St} {H:Hp} {s:Shared} {Q:VK} {us:List Value} {vs:List V} (F:FnOk X.prog X.w X.K X.mg X.base CX k f fd ps sp) (hr:Room k X.A) (hb:Binds X.K fd ps ds) (hd:Vals dvs ds) (hx:nY CX X E)
  (I:Inv X pins Z H s) (r:Vals vs us) (h:sp (vs++dvs) H Q E):wpAny (model X.prog X.w) X.A (call (.ref f) us) (EP X pins Z Q) X.xe s:=by
 have r2:Vals (vs++dvs) (us++ds):=r.append hd
 have hl:(us++ds).length=ps.length:=by rw[<-r2.length];exact F.len _ _ _ _ h
 refine wpAny_call (kB (F.run X.A X.stack s H ⟨us,[]⟩ (us++ds) (vs++dvs) Q E hr I.env0 (hb s us I.kIn hl) r2 h) fun r s' hq=>?_)
 cases r with
 | error e=>exact hx pins Z H s e s' I hq
 | ok fl =>
  cases fl with
  | ret u=>exact I.after hq
  | next=>exact False.elim hq
  | brk=>exact False.elim hq
  | cont=>exact False.elim hq
theorem ZnB (F:FnOk X.prog X.w X.K X.mg X.base CX k f fd ps sp) (hr:Room k X.A) (hg:Gl X x) (hm:X.mg x=some (.ref f)) (hk:PySem.W.keepIn X.K (.ref f)=true) (hb:Binds X.K fd ps ds) (hd:Vals dvs ds) (hx:nY CX X E)
  (ha:PA X (e::es) t) (hdb:(x == ("__debug__":Str))=false:=by decide) (he:starEach (e::es) X.env=(false,eval e X.env)::starEach es X.env:=by rfl) (hpl:(backTo pos (starEach es X.env)).any (·.1)=false:=by rfl) :
  PE X (.Call (.Name x p) (e::es) [] pos) (fc sp dvs E t):=by
 intro pins s Z H Q I h
 refine nu (sI I hg hm ?_ hdb)
 refine PySem.W.callWith_K (h₀:=X.base) I.ok.mod.kin hk (thn (ha pos pins s Z H _ I h) fun us s1 ⟨vs,H1,I1,r,q⟩=>⟨I1.kIn,?_⟩) he hpl
 exact run_fn F hr hb hd hx I1 r q
end
def PK (X:Cx) (kws:List Keyword) (t:TA):Prop :=
 ∀ (pos:Pos) (pins:List (Addr×Obj)) (s:Shared) (Z:St) (H:Hp) (Q:List V->Hp->Prop),Inv X pins Z H s->t Z H Q->wpAny (model X.prog X.w) X.A (evalAll ((backToKw pos (keywordEach kws X.env)).map (·.2))) (AP X pins Z Q) X.xe s
structure FnScope (N P:List Str) (sc:Scope):Prop where
 kind:sc.kind=.function
 co:sc.isCoroutine=false
 gen:sc.isGenerator=false
 nd:N.Nodup
 pre:N.take P.length=P
 par:∀ x∈P,sc.names.lookup x=some .local\/sc.names.lookup x=some .cell
 nofree:∀ y∈sc.names,y.2≠.free
theorem rF {kindOf : Str -> Option NameKind} {x : Str} : ∀ {binds : List (Str × Value)} {m : Str -> Option Value}, (∀ v, (x, v) ∉ binds) -> bindL kindOf binds m x = m x
  | [], _, _ => rfl
  | (n, v) :: r, m, h => by
    unfold bindL
    rw[rF fun w hw=>h w (bH _ hw)]
    split
    . have : x ≠ n := by rintro rfl; exact h v bi
      simp[this]
    . rfl
theorem rC {kindOf : Str -> Option NameKind} {x : Str} : ∀ {binds : List (Str × Value)} {m : Str -> Option Value}, (∀ v, (x, v) ∉ binds) -> bindC kindOf binds m x = m x
  | [], _, _ => rfl
  | (n, v) :: r, m, h => by
    unfold bindC
    rw[rC fun w hw=>h w (bH _ hw)]
    split
    . rfl
    . have : x ≠ n := by rintro rfl; exact h v bi
      simp[this]
theorem tO {kindOf : Str -> Option NameKind} {x : Str} {v : Value} : ∀ {P : List Str} {vs : List Value} {i : Nat} {m : Str -> Option Value}, P.Nodup -> P[i]? = some x -> vs[i]? = some v -> kindOf x = some .local ->
    bindL kindOf (P.zip vs) m x=some v
  | [], _, _, _, _, h, _, _ => by simp at h
  | _ :: _, [], _, _, _, _, h, _ => by simp at h
  | p :: P, w :: vs, 0, m, nd, h1, h2, hk => by
    simp at h1 h2;subst h1;subst h2
    show bindL kindOf ((p,w)::P.zip vs) m p=_
    unfold bindL
    rw[rF fun v hv=>(cQ.mp nd).1 (of_mem_zip hv).1,ah hk]
    simp
  | p :: P, w :: vs, i + 1, m, nd, h1, h2, hk => by
    show bindL kindOf ((p,w)::P.zip vs) m x=_
    unfold bindL
    exact tO (i := i) (cQ.mp nd).2 (by simpa using h1) (by simpa using h2) hk
theorem tI {kindOf : Str -> Option NameKind} {x : Str} {v : Value} : ∀ {P : List Str} {vs : List Value} {i : Nat} {m : Str -> Option Value}, P.Nodup -> P[i]? = some x -> vs[i]? = some v -> kindOf x ≠ some .local ->
    bindC kindOf (P.zip vs) m x=some v
  | [], _, _, _, _, h, _, _ => by simp at h
  | _ :: _, [], _, _, _, _, h, _ => by simp at h
  | p :: P, w :: vs, 0, m, nd, h1, h2, hk => by
    simp at h1 h2;subst h1;subst h2
    show bindC kindOf ((p,w)::P.zip vs) m p=_
    unfold bindC
    rw[rC fun v hv=>(cQ.mp nd).1 (of_mem_zip hv).1,ai hk]
    simp
  | p :: P, w :: vs, i + 1, m, nd, h1, h2, hk => by
    show bindC kindOf ((p,w)::P.zip vs) m x=_
    unfold bindC
    exact tI (i := i) (cQ.mp nd).2 (by simpa using h1) (by simpa using h2) hk
def start (N:List Str) (vs:List V):St:=vs.map some++List.replicate (N.length - vs.length) none
def cxOf (CX:CXT) (P:Program) (w:World) (K:W.Frag) (mg:Str->Option Value) (base:Heap) (N:List Str) (qual:Str) (scope:Scope) (f:Addr) (cd:Value) (A:Around) (outer:List Env) (s:Shared) (H:Hp) (E:XK):Cx where
 prog:=P
 w:=w
 K:=K
 mg:=mg
 base:=base
 A:=A.deeper (envOfC qual scope s.heap.objs.size f cd)
 N:=N
 s₀:=s
 H₀:=H
 env:=envOfC qual scope s.heap.objs.size f cd
 outer:=outer
 stack:=envOfC qual scope s.heap.objs.size f cd::outer
 ex:=[]
 calm:=true
 fn:=fun j=>true
 pn:=[]
 xe:=fun e s'=>wpAny (model P w) (A.deeper (envOfC qual scope s.heap.objs.size f cd)) (leaving (envOfC qual scope s.heap.objs.size f cd) e) (fun j s''=>CX outer H s E e s'') (fun e' s''=>CX outer H s E e' s'') s'
theorem rm {sc:Scope} {n:Nat} {x:Str} (h:sc.names.lookup x=some .cell):∃ c,(cellsFrom n sc.names []).lookup x=some c:=by
 have q:=PySem.W.cellsFrom_some sc.names n [] (.inl h)
 exact kC.mp q
theorem ZkP {CX:CXT} {P:Program} {w:World} {K:W.Frag} {mg:Str->Option Value} {base:Heap} {N ps:List Str} {qual:Str} {scope:Scope} {f:Addr} {cd:Value} {A:Around} {outer:List Env} {s s1:Shared} {H:Hp} {E:XK} {us:List Value} {vs:List V}
  (S:FnScope N ps scope) (hd:A.handled=none) (e0:Env0 P w K mg base A outer s H) (hl:vs.length=ps.length) (r:Vals vs us)
  (x:InCallC s s.heap.objs.size (bindL (envOfC qual scope s.heap.objs.size f cd).kindOf (ps.zip us) fun j=>none) (cellsFrom (s.heap.objs.size+1) scope.names []) (bindC (envOfC qual scope s.heap.objs.size f cd).kindOf (ps.zip us) fun j=>none) s1) :
  Inv (cxOf CX P w K mg base N qual scope f cd A outer s H E) [] (start N vs) H s1:=by
 have hpl:ps.length<=N.length:=by have:=congrArg List.length S.pre;rw[dM] at this;lia
 obtain ⟨h1,tk,rfl,hk⟩:=x.done
 have noA:∀ b:Addr,b∉(cxOf CX P w K mg base N qual scope f cd A outer s H E).ex:=fun b z=>absurd (show b∈([]:List Addr) from z) (by simp)
 refine ⟨⟨e0.mod,S.kind,rfl,rfl,aA _,fun y z c h1 h2=>?_,fun y hy=>?_,fun y c j h=>?_,fun j=>hd,Around.frames_deeper e0.frames,.inr ⟨rfl,rfl⟩,fun b z=>absurd z (noA b),e0.bs,e0.bsz,fun b j j=>noA b,fun b z=>absurd z (noA b),e0.funs,e0.frf⟩,
  rfl,e0.bare,Un.kept hk,⟨_,x.toInCall.ns,fun i y v h1 h2 h3=>?_⟩,fun y c h=>⟨_,x.cell y c h⟩,e0.hok.fresh (aA _),fun y c h=>?_,fun p hp=>absurd (show p∈([]:List (Addr×Obj)) from hp) (by simp),e0.hok.kept hk,?_⟩
 .exact name_of_addr x.apart (PySem.mem_of_lookup h1) (PySem.mem_of_lookup h2)
 .have hy:scope.names.lookup y=some .cell\/scope.names.lookup y=some .free:=hy
  rcases hy with hy|hy
  .exact rm hy
  .exact absurd rfl (S.nofree _ (PySem.mem_of_lookup hy))
 .exact ft (x.above y c (PySem.mem_of_lookup h))
 .have hi:i < vs.length:=by
   unfold start at h2
   by_cases hi:i < vs.length
   .exact hi
   .rw[hW (by simpa using hi)] at h2
    rw[kE] at h2
    split at h2 <;> cases h2
  have ha:vs[i]?=some v:=by
   unfold start at h2
   rw[cL (by simpa using hi),aq] at h2
   cases e:vs[i]? with
   | none=>rw[e] at h2;cases h2
   | some a=>rw[e] at h2;cases h2;rfl
  obtain ⟨u,hu,rv⟩:=r.get ha
  have hp:ps[i]?=some y:=by
   rw[<-S.pre,getElem?_take_of_lt (by lia)];exact h1
  have ndP:ps.Nodup:=by rw[<-S.pre];exact S.nd.sublist (take_sublist _ _)
  refine ⟨u,rv,?_⟩
  rcases S.par y (aE hp) with k|k
  .exact .inl ⟨k,tO ndP hp hu k⟩
  .obtain ⟨c,e⟩:=rm (n:=s.heap.objs.size+1) k
   refine .inr ⟨.inl k,c,e,?_⟩
   have q:=x.cell y c e
   rw[tI ndP hp hu (by show scope.names.lookup y≠_;rw[k];decide)] at q
   exact q
 .exact e0.hok.fresh (ft (x.above y c (PySem.mem_of_lookup h)))
 .unfold start
  show _=N.length
  rw[ax,af,hX]
  lia
theorem fn_of {CX:CXT} {P:Program} {w:World} {K:W.Frag} {mg:Str->Option Value} {base:Heap} {k:Nat} {f:Addr} {name qual:Str} {params:Arguments} {body:List Stmt} {scope:Scope} {dV kV doc pm cdv ct oc:Value} {an od:Option Addr}
  {osl:Array (Option Value)} {N ps:List Str} {sp:Sp} (lk:K.lookup f=some ⟨oc,od,.func (PySem.W.fnOf name qual params body scope dV kV doc pm an cdv ct),osl⟩) (hcd:PySem.W.codeIn K cdv qual=true) (S:FnScope N ps scope)
  (len:∀ vs H Q E,sp vs H Q E->vs.length=ps.length)
  (hbody:∀ (A:Around) (outer:List Env) (s:Shared) (H:Hp) (vs:List V) (Q:VK) (E:XK),Room k (A.deeper (envOfC qual scope s.heap.objs.size f cdv))->sp vs H Q E ->
   ∃ t,PSs (cxOf CX P w K mg base N qual scope f cdv A outer s H E) body t/\t { nx:=fun j H'=>Q .non H',rt:=Q } (start N vs) H) :
  FnOk P w K mg base CX (k+1) f (PySem.W.fnOf name qual params body scope dV kV doc pm an cdv ct) ps sp:=by
 refine ⟨len,fun A outer s H args us vs Q E hr e0 hb r hsp=>?_⟩
 have hl:=len _ _ _ _ hsp
 have KX:K.In s.heap:=e0.mod.kin.keeps fun b o e=>(e0.bs b o e).1
 have lim:s.heap.NoLimit:=e0.mod.nolimit.keeps fun b o e=>(e0.bs b o e).1
 have hkind:∀ y∈ps.zip us,scope.names.lookup y.1=some .local\/(scope.names.lookup y.1=some .cell/\((cellsFrom (s.heap.objs.size+1) scope.names []).lookup y.1).isSome=true):=fun ⟨n,v⟩ hy=>by
  rcases S.par n (of_mem_zip hy).1 with q|q
  .exact .inl q
  .exact .inr ⟨q,PySem.W.cellsFrom_some _ _ _ (.inl q)⟩
 refine codeAny_call_function hr.depth (KX _ _ lk) rfl S.co S.gen rfl (PySem.W.codeRec_of KX hcd) (hb _ _ _ _ ?_)
 refine wpAny_newFunctionEnv_cells S.kind hkind fun env he s1 x=>?_
 subst he
 refine ⟨lim.keeps x.toInCall.keep,codeAny_func ?_⟩
 obtain ⟨t,ht,hq⟩:=hbody A outer s H vs Q E (hr.deeper _) hsp
 have I:Inv (cxOf CX P w K mg base N qual scope f cdv A outer s H E) [] (start N vs) H s1:=ZkP S hr.hd e0 hl r x
 refine cD (ht [] s1 (start N vs) H _ I hq) (fun fl s' hs=>?_) fun e s' hs=>hs
 have fin:∀ {σ':St} {H':Hp} {v:V} {u:Value},Inv (cxOf CX P w K mg base N qual scope f cdv A outer s H E) [] σ' H' s'->RelV v u->Q v H'->CE outer P w H s Q u s' :=
  fun {σ' H' v u} J rv q=>⟨v,H',J.os,J.bare,J.base,J.hok,rv,q⟩
 cases fl with
 | ret u =>
  obtain ⟨v,σ',H',J,rv,q⟩:=hs
  exact fin J rv q
 | next =>
  obtain ⟨σ',H',J,q⟩:=hs
  exact fin (v:=V.non) (u:=Value.none) J rfl q
 | brk =>
  obtain ⟨j,j,j,q⟩:=hs
  exact False.elim q
 | cont =>
  obtain ⟨j,j,j,q⟩:=hs
  exact False.elim q
end L2
namespace L2
open PySem PySem.Spec PyProof.Rows
section
variable {X:Cx} {x:Str} {p pos:Pos} {e:Expr} {es:List Expr} {t:TA} {id T:String} {r:List V->Hp->VK->Prop}
def tCB (r:List V->Hp->VK->Prop) (t:TA):TE:=fun Z H Q=>t Z H fun vs H1=>r vs H1 Q
theorem aO (hc:bF X (.builtin id) r) (hg:Gl X x) (hm:X.mg x=none) (hv:bootBuiltins x=some (.builtin id)) (ha:PA X (e::es) t) (hn:x≠"__name__":=by decide) (hdb:(x == ("__debug__":Str))=false:=by decide)
  (he:starEach (e::es) X.env=(false,eval e X.env)::starEach es X.env:=by rfl) (hpl:(backTo pos (starEach es X.env)).any (·.1)=false:=by rfl):PE X (.Call (.Name x p) (e::es) [] pos) (tCB r t):=by
 intro pins s Z H Q I h
 refine nu (ij I hg hm hv ?_ hn hdb)
 exact uS (thn (ha pos pins s Z H _ I h) fun us s1 ⟨vs,H1,I1,r1,q1⟩=>hc pins s1 Z H1 vs us Q I1 r1 q1) he hpl
theorem cN (hc:bF X (.type T) r) (hg:Gl X x) (hm:X.mg x=none) (hv:bootBuiltins x=some (.type T)) (ha:PA X (e::es) t) (hn:x≠"__name__":=by decide) (hdb:(x == ("__debug__":Str))=false:=by decide)
  (he:starEach (e::es) X.env=(false,eval e X.env)::starEach es X.env:=by rfl) (hpl:(backTo pos (starEach es X.env)).any (·.1)=false:=by rfl):PE X (.Call (.Name x p) (e::es) [] pos) (tCB r t):=by
 intro pins s Z H Q I h
 refine nu (ij I hg hm hv ?_ hn hdb)
 exact qk (thn (ha pos pins s Z H _ I h) fun us s1 ⟨vs,H1,I1,r1,q1⟩=>hc pins s1 Z H1 vs us Q I1 r1 q1) he hpl
end
end L2
namespace HT
open PySem PyProof.Rows
section
variable {prog:Program} {w:World} {A:Around} {E:Value->Shared->Prop} {s:Shared}
theorem cat_tup {t b:Addr} {vs ws:List Value} {Q:Value->Shared->Prop} (ht:IsTup s.heap t vs.toArray) (hb:IsTup s.heap b ws.toArray) (hv:vs≠[])
  (h1:ws=[]->Q (.ref t) s) (h2:ws≠[]->Q (.ref s.heap.objs.size) { s with heap:=s.heap.push { cls:=.type "tuple",data:=.seq (vs++ws).toArray } })
  (hsz:vs.length+ws.length<=sizeLine):wpAny (model prog w) A (binaryOp .Add (.ref t) (.ref b)) Q E s:=by
 obtain ⟨⟨cls,dd,data,sl⟩,ho,hc,n,hd⟩:=id ht
 obtain ⟨⟨cls2,dd2,data2,sl2⟩,ho2,hc2,n2,hd2⟩:=id hb
 simp only at hc hd hc2 hd2
 subst hc hd hc2 hd2
 have e:vs.toArray++ws.toArray=(vs++ws).toArray:=by simp
 by_cases hw:ws=[]
 .exact concat_meets ⟨_,ho,rfl⟩ ⟨_,ho2,rfl⟩ qm seq_tuple_add PySem.F.slot_tuple_add PySem.F.entry_tuple_add (PySem.F.args_tuple_add_2 _ _)
   (tuple_addW1 t b vs.toArray ws.toArray n n2 dd dd2 sl sl2 (by simpa using hv) (by simp[hw])) ⟨ho,ho2,h1 hw⟩
 .refine concat_meets ⟨_,ho,rfl⟩ ⟨_,ho2,rfl⟩ qm seq_tuple_add PySem.F.slot_tuple_add PySem.F.entry_tuple_add (PySem.F.args_tuple_add_2 _ _)
   (tuple_addW2 t b vs.toArray ws.toArray n n2 dd dd2 sl sl2 (by simpa using hv) (by simpa using hw) (by rw[bu,bu];exact hsz)) ⟨ho,ho2,?_⟩
  rw[e]
  exact h2 hw
def sIx (n d:Nat):Option Int->Nat
 | none=>d
 | some v=>if v < 0 then (v+(n:Int)).toNat else min v.toNat n
theorem sIx_le (n d:Nat) (hd:d<=n) (o:Option Int):sIx n d o<=n:=by
 cases o with
 | none=>exact hd
 | some v =>
  show (if v < 0 then (v+(n:Int)).toNat else min v.toNat n)<=n
  by_cases hv:v < 0
  .rw[ah hv];lia
  .rw[ai hv];exact jn _ _
theorem clip_eq (v:Int) (n d:Nat):(if v < 0 then max (v+(n:Int)) 0 else min v (n:Int))=((sIx n d (some v):Nat):Int):=by
 show (if v < 0 then max (v+(n:Int)) 0 else min v (n:Int))=(((if v < 0 then (v+(n:Int)).toNat else min v.toNat n):Nat):Int)
 by_cases hv:v < 0
 .rw[ah hv,ah hv,Int.toNat_eq_max]
 .obtain ⟨m,rfl⟩:=Int.eq_ofNat_of_zero_le (Int.not_lt.mp hv)
  rw[ai hv,ai hv]
  show min (m:Int) n=((min m n:Nat):Int)
  lia
theorem ZjF (lo hi:Option Int) (n:Nat):Builtin.Slice.sliceAdjust lo hi 1 (n:Int)=(((sIx n 0 lo:Nat):Int),((sIx n n hi:Nat):Int)):=by
 have h1:¬ ((1:Int) < 0):=by lia
 unfold Builtin.Slice.sliceAdjust
 simp only[h1,bY]
 refine Prod.ext ?_ ?_
 .cases lo with
  | none=>rfl
  | some v=>exact clip_eq v n 0
 .cases hi with
  | none=>rfl
  | some v=>exact clip_eq v n n
theorem Zja (i j:Nat):Builtin.Slice.slicePlaces (i:Int) (j:Int) 1=j - i:=by
 unfold Builtin.Slice.slicePlaces
 have h1:(1:Int) > 0:=by lia
 simp only[h1,fR,Int.ediv_one]
 split <;> lia
theorem rY {v:Value} {o:Option Int} {Q:Option Int->Shared->Prop} (p:IsPart v o) (h:Q o s):wpAny (model prog w) A (Builtin.Slice.slicePartIndex v) Q E s:=by
 cases p with
 | none=>exact slicePart_none h
 | int i t=>exact slicePart_int h
theorem qV {sl:Addr} {vl vu:Value} {lo hi:Option Int} {n:Nat} {Q:Int×Int×Nat->Shared->Prop} (hs:s.heap.IsSliceOf sl vl vu .none) (pl:IsPart vl lo) (pu:IsPart vu hi)
  (h:Q (((sIx n 0 lo:Nat):Int),1,sIx n n hi - sIx n 0 lo) s):wpAny (model prog w) A (Builtin.Slice.sliceApplied (.ref sl) (pure (n:Int))) Q E s:=by
 obtain ⟨os,hos,hcs,hds⟩:=id hs
 unfold Builtin.Slice.sliceApplied Builtin.Slice.sliceFields
 refine ae (ae (fS hos hds (x:=vl) rfl (ae (fS hos hds (x:=vu) rfl (ae (fS hos hds (x:=.none) rfl (am ?_)))))))
 refine ae (slicePart_none ?_)
 show wpAny _ _ (if ((1:Int) == 0)=true then _ else _) _ _ s
 rw[ai (by decide)]
 refine ae (rY pl (ae (rY pu (ae (am ?_)))))
 show wpAny _ _ (match Builtin.Slice.sliceAdjust lo hi 1 (n:Int) with|(lo,hi)=>pure (lo,(1:Int),Builtin.Slice.slicePlaces lo hi 1)) _ _ s
 rw[ZjF lo hi n]
 show wpAny _ _ (pure (((sIx n 0 lo:Nat):Int),(1:Int),Builtin.Slice.slicePlaces ((sIx n 0 lo:Nat):Int) ((sIx n n hi:Nat):Int) 1)) _ _ s
 rw[Zja]
 exact am h
theorem ZlU (xs:Array Value) (i k:Nat):((List.range k).filterMap fun (m:Nat)=>xs[((i:Int)+(m:Int) * 1).toNat]?).toArray=((xs.toList.drop i).take k).toArray:=by
 have e:(fun (m:Nat)=>xs[((i:Int)+(m:Int) * 1).toNat]?)=fun m=>xs[i+m]?:=by
  funext m
  have:((i:Int)+(m:Int) * 1).toNat=i+m:=by lia
  rw[this]
 rw[e]
 have:=pick_run xs i k
 rw[filterMap_map] at this
 have e2:((fun x=>xs[x]?) ∘ fun x=>i+x)=fun m=>xs[i+m]?:=rfl
 rw[e2] at this
 rw[this]
theorem getItem_tuple_cut {t sl:Addr} {items:Array Value} {vl vu:Value} {lo hi:Option Int} {Q:Value->Shared->Prop} (ht:IsTup s.heap t items) (hs:s.heap.IsSliceOf sl vl vu .none) (pl:IsPart vl lo) (pu:IsPart vu hi)
  (hw:¬ (sIx items.size 0 lo=0/\sIx items.size items.size hi=items.size))
  (h:Q (.ref s.heap.objs.size) { s with heap:=s.heap.push { cls:=.type "tuple",data:=.seq ((items.toList.drop (sIx items.size 0 lo)).take (sIx items.size items.size hi - sIx items.size 0 lo)).toArray } })
  (hsz:items.size<=sizeLine):wpAny (model prog w) A (getItem (.ref t) (.ref sl)) Q E s:=by
 have htake:sizeOk (.seq ((items.toList.drop (sIx items.size 0 lo)).take (sIx items.size items.size hi - sIx items.size 0 lo)).toArray):=by
  show ((items.toList.drop (sIx items.size 0 lo)).take (sIx items.size items.size hi - sIx items.size 0 lo)).toArray.size<=sizeLine
  rw[bu,dM,gB,dL]
  exact aR (jn _ _) (aR (jo _ _) hsz)
 have hj:sIx items.size items.size hi<=items.size:=sIx_le _ _ (aA _) hi
 obtain ⟨os,hos,hcs,hds⟩:=id hs
 have hTs:s.TypeIs (.ref sl) "slice":=⟨os,hos,hcs⟩
 unfold getItem
 try with_reducible refine dm ?_
 first|refine ae (am ?_)|skip
 refine ae (wpAny_sequenceKey ht.typeIs (by decide) ?_)
 refine ae (nv (name:=Str.ofString "__getitem__") ht.typeIs jp
  (eT jp ht.typeIs entry_tuple_getitem ?_ (args_tuple_getitem _ _)))
 show wpAny _ _ (Builtin.Tuple.tupleItemsOf (.ref t) >>= _) _ _ s
 refine ae (tupleItemsOf_ ht ?_)
 refine ae (kG hTs ?_)
 rw[ah (by decide)]
 refine ae (qV hs pl pu ?_)
 have hno:¬ ((((sIx items.size 0 lo:Nat):Int) == 0 && (1:Int) == 1 && (sIx items.size items.size hi - sIx items.size 0 lo) == items.size)=true):=by
  intro q
  rw[gC,gC] at q
  have q1:((sIx items.size 0 lo:Nat):Int)=0:=eq_of_beq q.1.1
  have q2:sIx items.size items.size hi - sIx items.size 0 lo=items.size:=eq_of_beq q.2
  exact hw ⟨Int.ofNat.inj q1,Nat.le_antisymm hj (aR (gD q2.symm) (jo _ _))⟩
 show wpAny _ _ (if (((sIx items.size 0 lo:Nat):Int) == 0 && (1:Int) == 1 && (sIx items.size items.size hi - sIx items.size 0 lo) == items.size)=true then _ else _) _ _ s
 rw[ai hno,ZlU]
 first
  | exact ae (m:=Builtin.Tuple.tupleExact _) (dN (am ⟨_,rfl,am h⟩) htake)
  | exact ae (m:=Builtin.Tuple.tupleExact _) (dN (ae (am (am ⟨_,rfl,am h⟩))) htake)
  | exact ae (ae (m:=Builtin.Tuple.tupleExact _) (dN (am (am ⟨_,rfl,am h⟩)) htake))
  | exact ae (ae (m:=Builtin.Tuple.tupleExact _) (dN (am ⟨_,rfl,am h⟩) htake))
end
end HT
namespace L2
open PySem PySem.Spec PyProof.Rows
abbrev TO:=St->Hp->(Option Int->Hp->Prop)->Prop
def PO (X:Cx) (e:Option Expr) (t:TO):Prop :=
 ∀ (pins:List (Addr×Obj)) (s:Shared) (Z:St) (H:Hp) (Q:Option Int->Hp->Prop),Inv X pins Z H s->t Z H Q ->
  wpAny (model X.prog X.w) X.A (evalPart e X.env) (fun u s'=>∃ o H',Inv X pins Z H' s'/\IsPart u o/\Q o H') X.xe s
def oI:TO:=fun j H Q=>Q none H
def pF (t:TE):TO:=fun Z H Q=>t Z H fun x H1=>∃ i,x=.int i/\Q (some i) H1
theorem intsAre_of {ns:List Int}:∀ {us:List Value},Vals (ns.map V.int) us->IntsAre us ns:=by
 induction ns with
 | nil=>intro us r;rw[map_nil] at r;cases r;exact .nil
 | cons n ns ih =>
  intro us r
  rw[aS] at r
  cases r with
  | cons r1 r2 =>
   obtain ⟨t,e⟩:=r1
   subst e
   exact .cons n t (ih r2)
section
variable {X:Cx} {e:Expr} {te:TE} {lo hi:Option Expr} {tl th:TO} {pos p2:Pos}
theorem cK:PO X none oI:=by
 intro pins s Z H Q I h
 rw[evalPart_none]
 exact am ⟨none,H,I,.none,h⟩
theorem cE (h:PE X e te):PO X (some e) (pF te):=by
 intro pins s Z H Q I hw
 rw[evalPart_some]
 refine thn (h pins s Z H _ I hw) fun u s1 ⟨x,H1,I1,r1,q1⟩=>?_
 obtain ⟨i,rfl,q⟩:=q1
 obtain ⟨t,rfl⟩:=r1
 exact ⟨some i,H1,I1,.int i t,q⟩
def SlR (X:Cx) (r:V->Option Int->Option Int->Hp->VK->Prop):Prop :=
 ∀ (pins:List (Addr×Obj)) (s:Shared) (Z:St) (H:Hp) (x:V) (v vl vu:Value) (lo hi:Option Int) (sl:Addr) (Q:VK),Inv X pins Z H s->RelV x v->s.heap.IsSliceOf sl vl vu .none->IsPart vl lo->IsPart vu hi->r x lo hi H Q ->
  ∃ T id,typeLookup (.type T) "__getitem__"=pure (some (.builtin id))/\s.TypeIs v T/\wpAny (model X.prog X.w) X.A (getItem v (.ref sl)) (EP X pins Z Q) X.xe s
def tSl (r:V->Option Int->Option Int->Hp->VK->Prop) (te:TE) (tl th:TO):TE:=fun Z H Q=>te Z H fun x H1=>tl Z H1 fun l H2=>th Z H2 fun u H3=>r x l u H3 Q
theorem cJ {r:V->Option Int->Option Int->Hp->VK->Prop} (hr:SlR X r) (he:PE X e te) (hl:PO X lo tl) (hu:PO X hi th):PE X (.Subscript e (.Slice lo hi none p2) pos) (tSl r te tl th):=by
 intro pins s Z H Q I h
 refine Subscript_ (thn (he pins s Z H _ I h) fun v s1 z0_=>?_)
 obtain ⟨x,H1,I1,r1,q1⟩:=z0_
 refine wpAny_Slice (thn (hl pins s1 Z H1 _ I1 q1) fun vl s2 ⟨l,H2,I2,pl,q2⟩=>thn (hu pins s2 Z H2 _ I2 q2) fun vu s3 z1_=>?_)
 obtain ⟨u,H3,I3,pu,q3⟩:=z1_
 rw[evalPart_none]
 refine am ?_
 have I4:Inv X pins Z H3 { s3 with heap:=s3.heap.push { cls:=.type "slice",data:=.fields #[vl,vu,.none] } }:=I3.kept (t':=s3.toks) fun b ob q=>bt _ q
 obtain ⟨T,id,hT,ht,hg⟩:=hr pins { s3 with heap:=s3.heap.push { cls:=.type "slice",data:=.fields #[vl,vu,.none] } } Z H3 x v vl vu l u s3.heap.objs.size Q I4 r1 (Heap.IsSliceOf.new ..) pl pu q3
 show wpAny (model X.prog X.w) X.A (subscriptTail e (.Slice lo hi none p2) v (.ref s3.heap.objs.size)) (EP X pins Z Q) X.xe { s3 with heap:=s3.heap.push { cls:=.type "slice",data:=.fields #[vl,vu,.none] } }
 exact tail_any (ops:=[.ref s3.heap.objs.size,v]) ht hT hg (by with_unfolding_all rfl)
def cutV (xs:List V) (lo hi:Option Int):List V:=(xs.drop (HT.sIx xs.length 0 lo)).take (HT.sIx xs.length xs.length hi - HT.sIx xs.length 0 lo)
theorem rA (xs:List V) (lo hi:Option Int):(cutV xs lo hi).length<=xs.length:=by
 unfold cutV
 rw[dM,gB]
 exact aR (jn _ _) (jo _ _)
def rSlT (K:W.Frag):V->Option Int->Option Int->Hp->VK->Prop:=fun x lo hi H Q=>∃ a xs,x=.ref a/\SqT K H a xs /\
 ¬ (HT.sIx xs.length 0 lo=0/\HT.sIx xs.length xs.length hi=xs.length)/\∀ p,H p=none->Q (.ref p) (upd H p (.tup (cutV xs lo hi)))
theorem sl_tup:SlR X (rSlT X.K):=by
 intro pins s Z H x v vl vu lo hi sl Q I rx hs pl pu h
 obtain ⟨a,xs,rfl,hx,hw,q⟩:=h
 cases rx
 obtain ⟨its,r,ht,hz⟩:=I.tuple hx
 have hlen:its.toArray.size=xs.length:=by rw[bu];exact r.length.symm
 refine ⟨"tuple",_,jp.lookup,ht.typeIs,?_⟩
 refine HT.getItem_tuple_cut ht hs pl pu (by rw[hlen];exact hw) ?_ (by rw[hlen];exact hz)
 rw[hlen]
 refine ⟨.ref s.heap.objs.size,_,I.laid (t':=s.toks) (o:=.tup (cutV xs lo hi)) (fun b ob q=>bt _ q) (aA _) ?_,rfl,q _ (I.hok.fresh (aA _))⟩
 exact ⟨aR (rA xs lo hi) hz,_,(r.drop (HT.sIx xs.length 0 lo)).take (HT.sIx xs.length xs.length hi - HT.sIx xs.length 0 lo),IsTup.new _ _⟩
def rCatT (K:W.Frag):R2:=fun x y H Q=>∃ a b xs ys,x=.ref a/\y=.ref b/\SqT K H a xs/\SqT K H b ys/\xs≠[]/\xs.length+ys.length<=sizeLine /\
 (ys=[]->Q (.ref a) H)/\(ys≠[]->∀ p,H p=none->Q (.ref p) (upd H p (.tup (xs++ys))))
theorem Vals.nil_iff {xs:List V} {us:List Value} (r:Vals xs us):us=[]↔xs=[]:=by
 cases r with
 | nil=>simp
 | cons _ _=>simp
theorem ZnE:OpR X (binaryOp .Add) (rCatT X.K):=by
 intro pins s Z H x y v u Q I rx ry h
 obtain ⟨a,b,xs,ys,rfl,rfl,ha,hb,hx,hz,q1,q2⟩:=h
 cases rx
 cases ry
 obtain ⟨its,r1,p1,j⟩:=I.tuple ha
 obtain ⟨its2,r2,p2,j⟩:=I.tuple hb
 refine HT.cat_tup p1 p2 (fun z=>hx (r1.nil_iff.mp z)) (fun z=>⟨.ref a,H,I,rfl,q1 (r2.nil_iff.mp z)⟩) (fun z=>?_) (by rw[<-r1.length,<- r2.length];exact hz)
 refine ⟨.ref s.heap.objs.size,_,I.laid (t':=s.toks) (o:=.tup (xs++ys)) (fun b ob q=>bt _ q) (aA _) ?_,rfl,q2 (fun w=>z (r2.nil_iff.mpr w)) _ (I.hok.fresh (aA _))⟩
 exact ⟨by rw[ax];exact hz,_,r1.append r2,IsTup.new _ _⟩
end
end L2
namespace L2
open PySem PySem.Spec PyProof.Rows
def ixN (n:Nat) (i:Int):Option Nat:=if 0<=i then (if i < n then some i.toNat else none) else if -(n:Int)<=i then some (i+n).toNat else none
def atI {α:Type} (xs:List α) (i:Int):Option α:=(ixN xs.length i).bind fun j=>xs[j]?
theorem uq {n:Nat} {i:Int} {j:Nat} (h:ixN n i=some j):seqIndex? i n=some j/\j < n/\-(n:Int)<=i/\i < n:=by
 unfold ixN at h
 by_cases h0:0<=i
 .rw[ah h0] at h
  by_cases h1:i < n
  .rw[ah h1] at h
   have e:i.toNat=j:=Option.some.inj h
   exact ⟨by rw[seqIndex_of h0 h1,e],by lia,by lia,h1⟩
  .rw[ai h1] at h;cases h
 .rw[ai h0] at h
  by_cases h1:-(n:Int)<=i
  .rw[ah h1] at h
   have e:(i+n).toNat=j:=Option.some.inj h
   exact ⟨by rw[seqIndex_neg (by lia) h1,e],by lia,h1,by lia⟩
  .rw[ai h1] at h;cases h
theorem sD {α:Type} {xs:List α} {i:Int} {v:α} (h:atI xs i=some v):∃ j,seqIndex? i xs.length=some j/\xs[j]?=some v/\j < xs.length/\-(xs.length:Int)<=i/\i < xs.length:=by
 unfold atI at h
 cases e:ixN xs.length i with
 | none=>rw[e] at h;cases h
 | some j =>
  rw[e] at h
  obtain ⟨h1,h2,h3,h4⟩:=uq e
  exact ⟨j,h1,h,h2,h3,h4⟩
def rV (b:Expr):Prop:=∀ o i,subscripted b false o i=operate [o,i] (getItem o i)
def IxR (X:Cx) (r:R2):Prop :=
 ∀ (value slice:Expr) (pins:List (Addr×Obj)) (s:Shared) (Z:St) (H:Hp) (x y:V) (v u:Value) (Q:VK),Inv X pins Z H s->RelV x v->RelV y u->r x y H Q ->
  subscripted slice false v u=operate [v,u] (getItem v u)->wpAny (model X.prog X.w) X.A (subscriptTail value slice v u) (EP X pins Z Q) X.xe s
def MtR (X:Cx) (id:String) (r:V->List V->Hp->VK->Prop):Prop :=
 ∀ (pins:List (Addr×Obj)) (s:Shared) (Z:St) (H:Hp) (x:V) (xs:List V) (v:Value) (us:List Value) (Q:VK),Inv X pins Z H s->RelV x v->Vals xs us->r x xs H Q ->
  wpAny (model X.prog X.w) X.A (call (.builtin id) (v::us)) (EP X pins Z Q) X.xe s
section
variable {X:Cx} {a b:Expr} {ta tb:TE} {pos:Pos}
theorem IxR.or {r r':R2} (h:IxR X r) (h':IxR X r'):IxR X (fun x y H Q=>r x y H Q\/r' x y H Q):=by
 intro value slice pins s Z H x y v u Q I rx ry q hs
 rcases q with q|q
 .exact h value slice pins s Z H x y v u Q I rx ry q hs
 .exact h' value slice pins s Z H x y v u Q I rx ry q hs
theorem f7 {r:R2} (hr:IxR X r) (ha:PE X a ta) (hb:PE X b tb) (hs:rV b):PE X (.Subscript a b pos) (tOp r ta tb):=by
 intro pins s Z H Q I h
 exact Subscript_ (binT ha hb I h fun v u s2 x y H2 I2 rx ry q=>hr a b pins s2 Z H2 x y v u Q I2 rx ry q (hs _ _))
def rIxL (K:W.Frag):R2:=fun x y H Q=>∃ p xs i v,x=.ref p/\y=.int i/\SqL K H p xs/\atI xs i=some v/\Q v H
def rIxT (K:W.Frag):R2:=fun x y H Q=>∃ p xs i v,x=.ref p/\y=.int i/\SqT K H p xs/\atI xs i=some v/\Q v H
theorem ix_list:IxR X (rIxL X.K):=by
 intro value slice pins s Z H x y v u Q I rx ry h hs
 obtain ⟨p,xs,i,z,rfl,rfl,hq,he,q⟩:=h
 cases rx
 obtain ⟨t,rfl⟩:=ry
 obtain ⟨its,r,pl,hz⟩:=I.list hq
 obtain ⟨j,h1,h2,h3,h4,h5⟩:=sD he
 obtain ⟨w,ew,rw'⟩:=r.get h2
 have hl:=r.length
 have hn:=m8
 have fin:EP X pins Z Q w s:=⟨z,H,I,rw',q⟩
 by_cases h0:0<=i
 .have hj:i.toNat=j:=by
   rw[seqIndex_of h0 h5] at h1
   exact Option.some.inj h1
  exact item_listR pl.isList h0 (by lia) (by rw[hj];simpa using ew) fin hs
 .have hj:(i+(its.toArray.size:Int)).toNat=j:=by
   rw[seqIndex_neg (by lia) h4] at h1
   rw[bu,<- hl]
   exact Option.some.inj h1
  exact subscriptTail_builtinR (x:=w) pl.isList.typeIs slot_list_getitem.lookup
   (wpAny_getItem_list_neg (Q:=fun r s'=>r=w/\EP X pins Z Q r s') pl.isList (by lia) (by rw[bu] <;> lia) (by lia) (by rw[hj];simpa using ew) ⟨rfl,fin⟩) hs
theorem ix_tup:IxR X (rIxT X.K):=by
 intro value slice pins s Z H x y v u Q I rx ry h hs
 obtain ⟨p,xs,i,z,rfl,rfl,hq,he,q⟩:=h
 cases rx
 obtain ⟨t,rfl⟩:=ry
 obtain ⟨its,r,pl,hz⟩:=I.tuple hq
 obtain ⟨j,h1,h2,h3,h4,h5⟩:=sD he
 obtain ⟨w,ew,rw'⟩:=r.get h2
 have hl:=r.length
 have hn:=m8
 have fin:EP X pins Z Q w s:=⟨z,H,I,rw',q⟩
 exact subscriptTail_builtinR (x:=w) pl.typeIs jp.lookup
  (getItem_tuple (j:=j) (Q:=fun r s'=>r=w/\EP X pins Z Q r s') pl (by lia) (by lia) (by rw[bu,<- hl];exact h1) (by simpa using ew) ⟨rfl,fin⟩) hs
theorem Zjd (its:List Value) (n j:Nat) (u:Value):Obj.mapSeq (·.setIfInBounds j u) { cls:=.type "list",data:=.seq its.toArray n }={ cls:=.type "list",data:=.seq (its.set j u).toArray n }:=by
 simp[Obj.mapSeq]
theorem Inv.lst {pins:List (Addr×Obj)} {Z:St} {H:Hp} {s:Shared} {p:Addr} {xs:List V} (I:Inv X pins Z H s) (h:H p=some (.lst xs)) :
  ∃ (its:List Value) (n:Nat),Vals xs its/\s.heap.get? p=some { cls:=.type "list",data:=.seq its.toArray n }/\xs.length<=sizeLine:=by
 obtain ⟨z,its,n,r,e⟩:=I.hok p _ h
 exact ⟨its,n,r,e,z⟩
theorem Inv.lstUpd {pins:List (Addr×Obj)} {Z:St} {H:Hp} {s:Shared} {p:Addr} {xs ys:List V} {its its':List Value} {n n':Nat} {f:Obj->Obj} (I:Inv X pins Z H s) (h:H p=some (.lst xs))
  (ho:s.heap.get? p=some { cls:=.type "list",data:=.seq its.toArray n }) (hf:f { cls:=.type "list",data:=.seq its.toArray n }={ cls:=.type "list",data:=.seq its'.toArray n' }) (r:Vals ys its') (hz:ys.length<=sizeLine) (t:Nat) :
  Inv X pins Z (upd H p (.lst ys)) { s with heap:=s.heap.update p f,toks:=t }:=by
 have e:(s.heap.update p f).get? p=some { cls:=.type "list",data:=.seq its'.toArray n' }:=by
  rw[kH f ho (by rw[hf] <;> rfl),hf]
 refine I.write (x:=p) (e:=p) (by rw[h];trivial) (.inl rfl) (fun b u hb q=>(kI _ _ (Ne.symm hb)).trans q) ⟨_,e⟩ ?_
 exact ⟨hz,its',n',r,e⟩
def iZ:V->V->V->Hp->(Hp->Prop)->Prop:=fun o i v H Q=>∃ p xs k j,o=.ref p/\i=.int k/\H p=some (.lst xs)/\ixN xs.length k=some j/\Q (upd H p (.lst (xs.set j v)))
theorem bI:PSet X iZ:=by
 intro pins s Z H o i v ov iv u Q I ro ri rv h
 obtain ⟨p,xs,k,j,rfl,rfl,hp,hj,q⟩:=h
 cases ro
 obtain ⟨t,rfl⟩:=ri
 obtain ⟨its,n,r,ho,hz⟩:=I.lst hp
 obtain ⟨h1,h2,h3,h4⟩:=uq hj
 have hl:=r.length
 have hn:=m8
 have I':Inv X pins Z (upd H p (.lst (xs.set j v))) { s with heap:=s.heap.update p (Obj.mapSeq (·.setIfInBounds j u)) } :=
  I.lstUpd hp ho (Zjd its n j u) (r.set rv j) (by rw[cr];exact hz) s.toks
 by_cases h0:0<=k
 .have hk:k.toNat=j:=by
   rw[seqIndex_of h0 h4] at h1
   exact Option.some.inj h1
  exact PySem.W.ki_setAt ho h0 (by lia) (by rw[bu,<- hl];exact h4) (by rw[hk];exact ⟨_,I',q⟩)
 .have hk:(k+(its.toArray.size:Int)).toNat=j:=by
   rw[seqIndex_neg (by lia) h3] at h1
   rw[bu,<- hl]
   exact Option.some.inj h1
  exact PySem.W.ki_setBack ho (by lia) (by rw[bu,<- hl];exact h3) (by lia) (by rw[hk];exact ⟨_,I',q⟩)
theorem ZgL (lo hi:Option Int) (n:Nat):(sliceBounds lo hi none n).1=((HT.sIx n 0 lo:Nat):Int)/\(sliceBounds lo hi none n).2.1=((HT.sIx n n hi:Nat):Int)/\(sliceBounds lo hi none n).2.2=1:=by
 have tb:∀ (i:Int) (n d:Nat),(if (1:Int) > 0 then max 0 (min (if i < 0 then i+n else i) n) else max (-1) (min (if i < 0 then i+n else i) ((n:Int) - 1)))=((HT.sIx n d (some i):Nat):Int):=by
  intro i n d
  rw[ah (by decide),<- HT.clip_eq i n d]
  by_cases h:i < 0
  .rw[ah h,ah h];lia
  .rw[ai h,ai h];lia
 refine ⟨?_,?_,rfl⟩
 .cases lo with
  | none=>rfl
  | some i=>exact tb i n 0
 .cases hi with
  | none=>rfl
  | some i=>exact tb i n n
theorem Zf8 (its:List Value) (lo hi:Option Int):slicePick its.toArray lo hi none=((its.drop (HT.sIx its.length 0 lo)).take (HT.sIx its.length its.length hi - HT.sIx its.length 0 lo)).toArray:=by
 obtain ⟨h1,h2,h3⟩:=ZgL lo hi its.toArray.size
 unfold slicePick
 rw[h1,h2,h3]
 simp only[sliceRange_one,pick_run,bu] <;> rfl
def rSlL (K:W.Frag):V->Option Int->Option Int->Hp->VK->Prop:=fun x lo hi H Q=>∃ a xs,x=.ref a/\SqL K H a xs/\∀ p,H p=none->Q (.ref p) (upd H p (.lst (cutV xs lo hi)))
theorem Zng:SlR X (rSlL X.K):=by
 intro pins s Z H x v vl vu lo hi sl Q I rx hs pl pu h
 obtain ⟨a,xs,rfl,hx,q⟩:=h
 cases rx
 obtain ⟨its,r,ht,hz⟩:=I.list hx
 have hlen:=r.length
 refine ⟨"list",_,slot_list_getitem.lookup,ht.isList.typeIs,?_⟩
 refine wpAny_getItem_list_slice ht.isList hs pl pu .none (by simp) ?_ (by rw[bu] <;> lia)
 rw[Zf8,<- hlen]
 refine ⟨.ref s.heap.objs.size,_,I.laid (t':=s.toks) (o:=.lst (cutV xs lo hi)) (fun b ob q=>bt _ q) (aA _) ?_,rfl,q _ (I.hok.fresh (aA _))⟩
 exact ⟨aR (rA xs lo hi) hz,_,0,(r.drop (HT.sIx xs.length 0 lo)).take (HT.sIx xs.length xs.length hi - HT.sIx xs.length 0 lo),ck _ rfl⟩
def eU:V->Bool
 | .non=>true
 | .bl _=>true
 | .int _=>true
 | .str _=>true
 | _=>false
def eqV:V->V->Bool
 | .non,.non=>true
 | .bl a,.bl b=>a == b
 | .bl a,.int b=>(if a then 1 else 0) == b
 | .int a,.bl b=>a == (if b then 1 else 0)
 | .int a,.int b=>a == b
 | .str a,.str b=>a == b
 | _,_=>false
theorem eqAt_V {A:Around} {s:Shared} {y x:V} {u v:Value} (ry:RelV y u) (rx:RelV x v) (fy:eU y=true) (fx:eU x=true):SeqAt.EqAt A s u v (eqV y x):=by
 cases y with
 | non =>
  cases ry
  cases x with
  | non=>cases rx;exact SeqAt.EqAt.same _
  | bl b=>cases rx;exact SeqAt.EqAt.none_bool b
  | int b=>obtain ⟨t,rfl⟩:=rx;exact uT b t
  | str b=>obtain ⟨t,rfl⟩:=rx;exact uU b t
  | _=>exact absurd (show false=true from fx) bA
 | bl a =>
  cases ry
  cases x with
  | non=>cases rx;exact SeqAt.EqAt.bool_none a
  | bl b=>cases rx;exact SeqAt.EqAt.bool_bool a b
  | int b=>obtain ⟨t,rfl⟩:=rx;exact SeqAt.EqAt.bool_int a b t
  | str b=>obtain ⟨t,rfl⟩:=rx;exact SeqAt.EqAt.bool_str a b t
  | _=>exact absurd (show false=true from fx) bA
 | int a =>
  obtain ⟨t',rfl⟩:=ry
  cases x with
  | non=>cases rx;exact uV a t'
  | bl b=>cases rx;exact SeqAt.EqAt.int_bool a t' b
  | int b=>obtain ⟨t,rfl⟩:=rx;exact qo a t' b t
  | str b=>obtain ⟨t,rfl⟩:=rx;exact qi a t' b t
  | _=>exact absurd (show false=true from fx) bA
 | str a =>
  obtain ⟨t',rfl⟩:=ry
  cases x with
  | non=>cases rx;exact uW a t'
  | bl b=>cases rx;exact SeqAt.EqAt.str_bool a t' b
  | int b=>obtain ⟨t,rfl⟩:=rx;exact qj a t' b t
  | str b=>obtain ⟨t,rfl⟩:=rx;exact qp a t' b t
  | _=>exact absurd (show false=true from fx) bA
 | _=>exact absurd (show false=true from fy) bA
def eqU (x:V) (u:Value):Bool:=match u with
 | .none=>eqV .non x
 | .bool b=>eqV (.bl b) x
 | .int i _=>eqV (.int i) x
 | .str z _=>eqV (.str z) x
 | _=>false
theorem uF {x y:V} {u:Value} (r:RelV y u) (f:eU y=true):eqU x u=eqV y x:=by
 cases y with
 | non=>cases r;rfl
 | bl b=>cases r;rfl
 | int i=>obtain ⟨t,rfl⟩:=r;rfl
 | str z=>obtain ⟨t,rfl⟩:=r;rfl
 | _=>exact absurd (show false=true from f) bA
theorem jH {x : V} : ∀ {xs : List V} {us : List Value}, Vals xs us -> xs.all eU = true -> us.any (eqU x) = xs.any fun y => eqV y x
  | _, _, .nil, _ => rfl
  | y :: xs, u :: us, .cons r t, f => by
    rw[all_cons,gC] at f
    rw[fT, fT, uF r f.1, jH t f.2]
theorem jM {A : Around} {s : Shared} {x : V} {v : Value} (rx : RelV x v) (fx : eU x = true) : ∀ {xs : List V} {us : List Value}, Vals xs us -> xs.all eU = true -> ∀ u ∈ us, SeqAt.EqAt A s u v (eqU x u)
  | _, _, .nil, _ => fun u hu => by cases hu
  | y :: xs, u :: us, .cons r t, f => fun u' hu => by
    rw[all_cons,gC] at f
    rcases aG.mp hu with rfl|hu
    . rw[uF r f.1]; exact eqAt_V r rx f.1 fx
    . exact jM rx fx t f.2 u' hu
def inV (x:V) (xs:List V):Bool:=xs.any fun y=>eqV y x
def rIn (K:W.Frag) (neg:Bool):R2:=fun x y H Q=>∃ p xs,y=.ref p/\(SqL K H p xs\/SqT K H p xs)/\eU x=true/\xs.all eU=true/\Q (.bl (if neg then !inV x xs else inV x xs)) H
theorem Zks:OpR X (compareOp .In) (rIn X.K false):=by
 intro pins s Z H x y v u Q I rx ry h
 obtain ⟨p,xs,rfl,hq,fx,fs,q⟩:=h
 cases ry
 rcases hq with hq|hq
 .obtain ⟨its,r,pl,hz⟩:=I.list hq
  refine SeqAt.in_listAt (eqU x) pl.isList (fun w hw=>jM rx fx r fs w (by simpa using hw)) ⟨.bl _,H,I,rfl,?_⟩
  rw[show its.toArray.any (eqU x)=its.any (eqU x) by simp,jH r fs]
  exact q
 .obtain ⟨its,r,pl,hz⟩:=I.tuple hq
  refine SeqAt.in_tupleAt (eqU x) pl (fun w hw=>jM rx fx r fs w (by simpa using hw)) ⟨.bl _,H,I,rfl,?_⟩
  rw[show its.toArray.any (eqU x)=its.any (eqU x) by simp,jH r fs]
  exact q
theorem ZgZ:OpR X (compareOp .NotIn) (rIn X.K true):=by
 intro pins s Z H x y v u Q I rx ry h
 obtain ⟨p,xs,rfl,hq,fx,fs,q⟩:=h
 cases ry
 rcases hq with hq|hq
 .obtain ⟨its,r,pl,hz⟩:=I.list hq
  refine SeqAt.notIn_listAt (eqU x) pl.isList (fun w hw=>jM rx fx r fs w (by simpa using hw)) ⟨.bl _,H,I,rfl,?_⟩
  rw[show its.toArray.any (eqU x)=its.any (eqU x) by simp,jH r fs]
  exact q
 .obtain ⟨its,r,pl,hz⟩:=I.tuple hq
  refine SeqAt.notIn_tupleAt (eqU x) pl (fun w hw=>jM rx fx r fs w (by simpa using hw)) ⟨.bl _,H,I,rfl,?_⟩
  rw[show its.toArray.any (eqU x)=its.any (eqU x) by simp,jH r fs]
  exact q
theorem Zhj:bF X (.type "list") (fun xs H Q=>∃ p ys,xs=[.ref p]/\(SqL X.K H p ys\/SqT X.K H p ys)/\∀ l,H l=none->Q (.ref l) (upd H l (.lst ys))):=by
 intro pins s Z H xs us Q I r h
 obtain ⟨p,ys,rfl,hq,q⟩:=h
 obtain ⟨u,rfl,rx⟩:=vals1 r
 cases rx
 have fin:∀ (its:List Value),Vals ys its->ys.length<=sizeLine->∀ (h':Heap) (c':Nat),(∀ b o',s.heap.get? b=some o'->h'.get? b=some o') ->
   h'.get? s.heap.objs.size=some { cls:=.type "list",dict:=none,data:=.seq its.toArray c',slots:=#[] }->EP X pins Z Q (.ref s.heap.objs.size) { s with heap:=h' }:=fun its r' hz h' c' kp e =>
  ⟨.ref s.heap.objs.size,_,I.laid (t':=s.toks) kp (aA _) (show ObjOk X.prog X.w _ h' _ (.lst ys) from ⟨hz,its,c',r',e⟩),rfl,q _ (I.hok.fresh (aA _))⟩
 rcases hq with hq|hq
 .obtain ⟨its,r',pl,hz⟩:=I.list hq
  have hlen:=r'.length
  obtain ⟨o,ho,hc,n,hd⟩:=pl.isList
  exact call_list_seq p (.inl rfl) ho hc hd (fun h' c' kp e=>fin its r' hz h' c' kp e) (by simp only[bu] <;> lia)
 .obtain ⟨its,r',pl,hz⟩:=I.tuple hq
  have hlen:=r'.length
  obtain ⟨o,ho,hc,n,hd⟩:=pl
  exact call_list_seq p (.inr rfl) ho hc hd (fun h' c' kp e=>fin its r' hz h' c' kp e) (by simp only[bu] <;> lia)
theorem Zgx:bF X (.type "tuple") (fun xs H Q=>∃ p ys,xs=[.ref p]/\((SqL X.K H p ys/\∀ l,H l=none->Q (.ref l) (upd H l (.tup ys)))\/(SqT X.K H p ys/\Q (.ref p) H))):=by
 intro pins s Z H xs us Q I r h
 obtain ⟨p,ys,rfl,h⟩:=h
 obtain ⟨u,rfl,rx⟩:=vals1 r
 cases rx
 rcases h with ⟨hq,q⟩|⟨hq,q⟩
 .obtain ⟨its,r',pl,hz⟩:=I.list hq
  have hlen:=r'.length
  refine call_tuple_list pl.isList (fun h' kp=>?_) (by simp only[bu] <;> lia)
  have I1:Inv X pins Z H { s with heap:=h' }:=I.kept (t':=s.toks) kp
  have I2:Inv X pins Z (upd H h'.objs.size (.tup ys)) { s with heap:=h'.push { cls:=.type "tuple",data:=.seq its.toArray } } :=
   I1.laid (t':=s.toks) (fun b o e=>bt _ e) (aA _) (show ObjOk X.prog X.w _ _ _ (.tup ys) from ⟨hz,its,r',IsTup.new _ _⟩)
  exact ⟨.ref h'.objs.size,_,I2,rfl,q _ (I1.hok.fresh (aA _))⟩
 .obtain ⟨its,r',pl,hz⟩:=I.tuple hq
  exact call_tuple_same pl ⟨.ref p,H,I,rfl,q⟩
def tyV (K:W.Frag) (T:String) (x:V) (H:Hp):Prop:=match x with
 | .str _=>T="str"
 | .int _=>T="int"
 | .ref p=>(T="list"/\∃ xs,SqL K H p xs)\/(T="tuple"/\∃ o,K.lookup p=some o/\o.cls=.type "tuple"/\o.dict=none) \/
   (T="dict"/\((∃ kvs,H p=some (.dK kvs))\/∃ kvs,H p=some (.dT kvs)))\/(T="set"/\∃ S n,H p=some (.set S n))
 | _=>False
theorem s9 {pins:List (Addr×Obj)} {Z:St} {H:Hp} {s:Shared} {T:String} {x:V} {v:Value} (I:Inv X pins Z H s) (r:RelV x v) (ty:tyV X.K T x H) :
  s.TypeIs v T/\∀ a,v=.ref a->∃ ob,s.heap.get? a=some ob/\ob.dict=none:=by
 cases x with
 | str z =>
  obtain ⟨t,rfl⟩:=r
  cases (show T="str" from ty)
  exact ⟨typeIs_str s z t,fun j e=>nomatch e⟩
 | int i =>
  obtain ⟨t,rfl⟩:=r
  cases (show T="int" from ty)
  exact ⟨typeIs_int s i t,fun j e=>nomatch e⟩
 | ref p =>
  cases r
  rcases ty with ⟨rfl,xs,hq⟩|⟨rfl,o,hk,hc,hd⟩|⟨rfl,hk⟩|⟨rfl,S,n,hk⟩
  .obtain ⟨its,j,pl,j⟩:=I.list hq
   refine ⟨pl.isList.typeIs,fun a e=>?_⟩
   cases e
   obtain ⟨o,n,e,c,hd,j⟩:=pl
   exact ⟨o,e,hd⟩
  .refine ⟨⟨o,I.kIn p o hk,hc⟩,fun a e=>?_⟩
   cases e
   exact ⟨o,I.kIn _ o hk,hd⟩
  .have z:∃ o,s.heap.get? p=some o/\o.ExactDict:=by
    rcases hk with ⟨kvs,hk⟩|⟨kvs,hk⟩
    .obtain ⟨j,j,j,j,o,j,j,e,ex,j⟩:=I.hok p _ hk
     exact ⟨o,e,ex⟩
    .obtain ⟨j,j,j,j,o,j,j,e,ex,j⟩:=I.hok p _ hk
     exact ⟨o,e,ex⟩
   obtain ⟨o,e,ex⟩:=z
   refine ⟨⟨o,e,ex.1⟩,fun a e2=>?_⟩
   cases e2
   exact ⟨o,e,ex.2.1⟩
  .obtain ⟨o,j,j,j,e,ex,j⟩:=I.hok p _ hk
   refine ⟨⟨o,e,ex.1⟩,fun a e2=>?_⟩
   cases e2
   exact ⟨o,e,ex.2.1⟩
 | _=>exact False.elim ty
def tBM0 (K:W.Frag) (T:String) (r:V->List V->Hp->VK->Prop) (to:TE):TE:=fun Z H Q=>to Z H fun x H1=>tyV K T x H1/\r x [] H1 Q
def tBM (K:W.Frag) (T:String) (r:V->List V->Hp->VK->Prop) (to:TE) (t:TA):TE:=fun Z H Q=>to Z H fun x H1=>tyV K T x H1/\t Z H1 fun xs H2=>r x xs H2 Q
variable {o e:Expr} {es:List Expr} {to:TE} {t:TA} {name:Str} {apos cpos:Pos} {T id:String} {r:V->List V->Hp->VK->Prop}
theorem pe_bm0 (pa:PlainAttrs T) (slot:Slot T name id) (hty:typeOf (.builtin id)=pure (.type "method_descriptor")) (hm:MtR X id r) (ho:PE X o to)
  (hbase:attributeBase o name X.env (eval o X.env)=eval o X.env:=by rfl) (hline:(apos.endLine == cpos.line)=true:=by rfl):PE X (.Call (.Attribute o name apos) [] [] cpos) (tBM0 X.K T r to):=by
 intro pins s Z H Q I h
 refine wpAny_Call_method0_late hbase hline (thn (ho pins s Z H _ I h) fun v s1 ⟨x,H1,I1,r1,ty,q1⟩=>?_)
 obtain ⟨h1,h2⟩:=s9 I1 r1 ty
 exact ⟨T,id,pa,slot,hty,h1,h2,qr rfl (PySem.evalArgs_none (hm pins s1 Z H1 x [] v [] Q I1 r1 .nil q1))⟩
theorem pe_bm (pa:PlainAttrs T) (slot:Slot T name id) (hty:typeOf (.builtin id)=pure (.type "method_descriptor")) (hm:MtR X id r) (ho:PE X o to) (ha:PA X (e::es) t)
  (hbase:attributeBase o name X.env (eval o X.env)=eval o X.env:=by rfl)
  (hfew:((backTo cpos (starEach (e::es) X.env)).all (fun x=>!x.1) && (backToKw cpos (keywordEach [] X.env)).all (fun x=>x.1.isSome)
   && decide ((e::es).length+([]:List Keyword).length+(if ([]:List Keyword).isEmpty then 0 else 1) < 30))=true:=by rfl)
  (hline:(apos.endLine == cpos.line)=true:=by rfl) (hs:starEach (e::es) X.env=(false,eval e X.env)::starEach es X.env:=by rfl) (hplain:(backTo cpos (starEach es X.env)).any (·.1)=false:=by rfl) :
  PE X (.Call (.Attribute o name apos) (e::es) [] cpos) (tBM X.K T r to t):=by
 intro pins s Z H Q I h
 refine wpAny_Call_method_late hbase hfew hline rfl (thn (ho pins s Z H _ I h) fun v s1 z0_=>?_)
 obtain ⟨x,H1,I1,r1,ty,q1⟩:=z0_
 obtain ⟨h1,h2⟩:=s9 I1 r1 ty
 refine ⟨T,id,pa,slot,hty,h1,h2,?_⟩
 have hA:=ha cpos pins s1 Z H1 _ I1 q1
 rw[hs] at hA ⊢
 refine qr (by show (false || (backTo cpos (starEach es X.env)).any (·.1))=false;rw[hplain] <;> rfl) (Calls.evalArgs_plain ?_)
 exact thn hA fun us s2 z1_=>by obtain ⟨vs,H2,I2,r2,q2⟩:=z1_;exact hm pins s2 Z H2 x vs v us Q I2 r1 r2 q2
/- xs.append(e),list.index on a module's tuple .. are MtR facts of 06m -/
end
end L2
namespace L2
open PySem PySem.Spec PyProof.Rows
def MtM (X:Cx) (id:String) (r:V->List V->Hp->VK->Prop):Prop :=
 ∀ (pins:List (Addr×Obj)) (s:Shared) (Z:St) (H:Hp) (x:V) (xs:List V) (v:Value) (us:List Value) (Q:VK),Inv X pins Z H s->RelV x v->Vals xs us->r x xs H Q ->
  wpAny (model X.prog X.w) X.A (call (.builtin id) (v::us)) (EP X pins Z Q) X.xe s
theorem Vals.consI {x:V} {xs:List V} {us:List Value} (h:Vals (x::xs) us):∃ u ws,us=u::ws/\RelV x u/\Vals xs ws:=by
 cases h with
 | cons r t=>exact ⟨_,_,rfl,r,t⟩
theorem Vals.nilI {us:List Value} (h:Vals [] us):us=[]:=by
 cases h
 rfl
theorem Vals.one {x:V} {us:List Value} (h:Vals [x] us):∃ u,us=[u]/\RelV x u:=by
 obtain ⟨u,ws,rfl,r,t⟩:=h.consI
 exact ⟨u,by rw[t.nilI],r⟩
theorem Vals.zero:∀ {us:List Value},Vals [] us->us=[]
 | _,.nil=>rfl
theorem Vals.dropLast {xs:List V} {us:List Value} (h:Vals xs us):Vals xs.dropLast us.dropLast:=by
 induction h with
 | nil=>exact .nil
 | cons r t ih =>
  cases t with
  | nil=>exact .nil
  | cons q t'=>exact .cons r ih
theorem Vals.eraseIdx:∀ {xs:List V} {us:List Value} (i:Nat),Vals xs us->Vals (xs.eraseIdx i) (us.eraseIdx i)
 | _,_,_,.nil=>.nil
 | _,_,0,.cons _ t=>t
 | _,_,i+1,.cons r t=>.cons r (Vals.eraseIdx i t)
theorem Vals.rep {xs : List V} {us : List Value} (h : Vals xs us) : ∀ k : Nat, Vals (List.replicate k xs).flatten (List.replicate k us).flatten
  | 0 => .nil
  | k + 1 => by
    rw[hZ,hZ,gE,gE]
    exact Vals.append h (Vals.rep h k)
theorem Zjr {α:Type} (l:List α):l.eraseIdx (l.length - 1)=l.dropLast:=by
 induction l with
 | nil=>rfl
 | cons a r ih =>
  cases r with
  | nil=>rfl
  | cons b r =>
   have e:(a::b::r).length - 1=((b::r).length - 1)+1:=by
    have h1:(a::b::r).length=r.length+2:=rfl
    have h2:(b::r).length=r.length+1:=rfl
    lia
   rw[e,eraseIdx_cons_succ,ih]
   all_goals rfl
theorem rW {α:Type}:∀ (l:List α) (i:Nat),(l.eraseIdx i).length<=l.length
 | [],_=>aA _
 | _::_,0=>Nat.le_succ _
 | _::r,i+1=>Nat.succ_le_succ (rW r i)
theorem foldl_rep (its : List Value) : ∀ (k : Nat) (acc : List Value),
    List.foldl (fun x1 x2=>x1++x2) acc.toArray (List.replicate k its.toArray)=(acc++(List.replicate k its).flatten).toArray
  | 0, acc => by simp
  | k + 1, acc => by
    have e:acc.toArray++its.toArray=(acc++its).toArray:=by simp
    have e2 : (acc ++ its) ++ (List.replicate k its).flatten = acc ++ (List.replicate (k + 1) its).flatten := by
      rw[hZ,gE,eh]
    rw[<- e2, <- foldl_rep its k (acc ++ its), <- e, hZ, foldl_cons]
section
variable {X:Cx} {pins:List (Addr×Obj)} {Z:St} {H:Hp} {s:Shared} {l b:Addr} {xs ys zs:List V}
theorem Inv.lset {its its':List Value} {n:Nat} {f:Array Value->Array Value} {t':Nat} (I:Inv X pins Z H s) (hH:H l=some (.lst xs))
  (e:s.heap.get? l=some { cls:=.type "list",data:=.seq its.toArray n }) (hf:f its.toArray=its'.toArray) (hv:Vals ys its') (hz:ys.length<=sizeLine) :
  Inv X pins Z (upd H l (.lst ys)) { s with heap:=s.heap.update l (Obj.mapSeq f),toks:=t' }:=by
 have q:=PySem.IsL.update e f
 rw[hf] at q
 refine I.write (x:=l) (e:=l) (by rw[hH];exact trivial) (.inl rfl) (fun b' u hb hu=>(kI s.heap (Obj.mapSeq f) (Ne.symm hb)).trans hu) ⟨_,q⟩ ?_
 exact ⟨hz,its',_,hv,q⟩
theorem Inv.lnew {its:List Value} {t':Nat} (I:Inv X pins Z H s) (hv:Vals ys its) (hz:ys.length<=sizeLine) :
  Inv X pins Z (upd H s.heap.objs.size (.lst ys)) { s with heap:=s.heap.push { cls:=.type "list",data:=.seq its.toArray },toks:=t' } :=
 I.laid (fun j j q=>bt _ q) (aA _) ⟨hz,its,0,hv,ck _ rfl⟩
theorem Inv.fresh (I:Inv X pins Z H s):H s.heap.objs.size=none:=I.hok.fresh (aA _)
theorem Inv.lstM (I:Inv X pins Z H s) (hH:H l=some (.lst xs)):xs.length<=sizeLine/\∃ (its:List Value) (n:Nat),Vals xs its/\xs.length=its.length/\s.heap.get? l=some { cls:=.type "list",data:=.seq its.toArray n }:=by
 obtain ⟨z,its,n,r,e⟩:=I.hok l _ hH
 exact ⟨z,its,n,r,r.length,e⟩
theorem sL {n:Nat} (h:n<=sizeLine):Builtin.List.listTooLong n=false:=by
 unfold Builtin.List.listTooLong
 exact aQ (by lia)
end
section
variable {X:Cx}
def pE:V->List V->Hp->VK->Prop:=fun x vs H Q=>∃ l xs y,x=.ref l/\vs=[y]/\H l=some (.lst xs)/\xs.length < sizeLine/\Q .non (upd H l (.lst (xs++[y])))
theorem eE:MtM X "list.append" pE:=by
 intro pins s Z H x vs v us Q I rx rv h
 obtain ⟨l,xs,y,rfl,rfl,hH,hz,q⟩:=h
 cases rx
 obtain ⟨u,rfl,ru⟩:=rv.one
 obtain ⟨z,its,n,r,hl,e⟩:=I.lstM hH
 refine jq F.slot_list_append ⟨_,e,rfl⟩ F.entry_list_append (F.args_list_append_2 _ _) (PySem.list_append l its.toArray n u (by rw[bu];lia)) ⟨e,?_⟩
 refine ⟨.non,_,I.lset (its':=its++[u]) hH e (by simp) (r.append (.cons ru .nil)) ?_,rfl,q⟩
 rw[ax,dq]
 lia
def Znt:V->List V->Hp->VK->Prop:=fun x vs H Q=>∃ l b xs zs,x=.ref l/\vs=[.ref b]/\H l=some (.lst xs)/\H b=some (.lst zs)/\xs.length+zs.length<=sizeLine/\Q .non (upd H l (.lst (xs++zs)))
theorem mt_extend:MtM X "list.extend" Znt:=by
 intro pins s Z H x vs v us Q I rx rv h
 obtain ⟨l,b,xs,zs,rfl,rfl,hH,hB,hz,q⟩:=h
 cases rx
 obtain ⟨u,rfl,ru⟩:=rv.one
 cases ru
 obtain ⟨z,its,n,r,hl,e⟩:=I.lstM hH
 obtain ⟨z2,its2,n2,r2,hl2,e2⟩:=I.lstM hB
 have hsz:its.toArray.size+its2.toArray.size<=sizeLine:=by rw[bu,bu];lia
 have hlong:¬ (!its.toArray.isEmpty && Builtin.List.listTooLong (its.toArray.size+its2.toArray.size))=true:=by
  rw[sL hsz,Bool.and_false]
  exact bA
 refine jq F.slot_list_extend ⟨_,e,rfl⟩ F.entry_list_extend (F.args_list_extend_2 _ _)
  (AutoSeq1.list_extend_list_list_0 l its.toArray n b its2.toArray n2 hlong (by rw[bu];lia) (by lia)) ⟨e,e2,?_⟩
 refine ⟨.non,_,I.lset (its':=its++its2) hH e (by simp) (r.append r2) ?_,rfl,q⟩
 rw[ax]
 lia
def rPop:V->List V->Hp->VK->Prop:=fun x vs H Q=>∃ l xs y,x=.ref l/\vs=[]/\H l=some (.lst xs)/\xs[xs.length - 1]?=some y/\Q y (upd H l (.lst xs.dropLast))
theorem qK:MtM X "list.pop" rPop:=by
 intro pins s Z H x vs v us Q I rx rv h
 obtain ⟨l,xs,y,rfl,rfl,hH,hy,q⟩:=h
 cases rx
 have hus:=rv.zero
 subst hus
 obtain ⟨z,its,n,r,hl,e⟩:=I.lstM hH
 obtain ⟨u,hu,ru⟩:=r.get hy
 have hy':its.toArray[its.toArray.size - 1]?=some u:=by
  show its.toArray[its.length - 1]?=some u
  rw[<-kJ,<- hl]
  exact hu
 refine jq F.slot_list_pop ⟨_,e,rfl⟩ F.entry_list_pop (F.args_list_pop_1 _) (MeetsSeq.list_pop_last l its.toArray n u hy' (by rw[bu];lia)) ⟨e,?_⟩
 refine ⟨y,_,I.lset (its':=its.dropLast) hH e ?_ r.dropLast ?_,ru,q⟩
 .show its.toArray.eraseIdxIfInBounds (its.toArray.size - 1)=its.dropLast.toArray
  rw[bu,eraseIdxIfInBounds_toArray,Zjr]
 .rw[length_dropLast]
  lia
def rPopAt:V->List V->Hp->VK->Prop:=fun x vs H Q=>∃ l xs i k y,x=.ref l/\vs=[.int i]/\H l=some (.lst xs)/\-(2 ^ 63)<=i/\i < 2 ^ 63/\seqIndex? i xs.length=some k/\xs[k]?=some y/\Q y (upd H l (.lst (xs.eraseIdx k)))
theorem ZlX:MtM X "list.pop" rPopAt:=by
 intro pins s Z H x vs v us Q I rx rv h
 obtain ⟨l,xs,i,k,y,rfl,rfl,hH,h1,h2,hk,hy,q⟩:=h
 cases rx
 obtain ⟨u,rfl,ru⟩:=rv.one
 obtain ⟨t,rfl⟩:=ru
 obtain ⟨z,its,n,r,hl,e⟩:=I.lstM hH
 obtain ⟨w,hw,rw'⟩:=r.get hy
 refine jq F.slot_list_pop ⟨_,e,rfl⟩ F.entry_list_pop (F.args_list_pop_2 _ _)
  (MeetsSeq.list_pop_at l its.toArray n i t k w (fitsIndex_both h1 h2) (by rw[bu,<- hl];exact hk) (by rw[<-kJ];exact hw) (by rw[bu];lia)) ⟨e,?_⟩
 refine ⟨y,_,I.lset (its':=its.eraseIdx k) hH e ?_ (r.eraseIdx k) ?_,rw',q⟩
 .show its.toArray.eraseIdxIfInBounds k=(its.eraseIdx k).toArray
  rw[eraseIdxIfInBounds_toArray]
 .have:=rW xs k
  lia
def rCat:R2:=fun x y H Q=>∃ l b xs zs,x=.ref l/\y=.ref b/\H l=some (.lst xs)/\H b=some (.lst zs)/\xs.length+zs.length<=sizeLine/\∀ p,H p=none->Q (.ref p) (upd H p (.lst (xs++zs)))
theorem de:OpR X (binaryOp .Add) rCat:=by
 intro pins s Z H x y v u Q I rx ry h
 obtain ⟨l,b,xs,zs,rfl,rfl,hH,hB,hz,q⟩:=h
 cases rx
 cases ry
 obtain ⟨z,its,n,r,hl,e⟩:=I.lstM hH
 obtain ⟨z2,its2,n2,r2,hl2,e2⟩:=I.lstM hB
 refine PySem.P.add_list e e2 ?_ (by rw[bu,bu];lia)
 have ea:its.toArray++its2.toArray=(its++its2).toArray:=by simp
 rw[ea]
 exact ⟨.ref _,_,I.lnew (t':=s.toks) (r.append r2) (by rw[ax];lia),rfl,q _ I.fresh⟩
def rRep:R2:=fun x y H Q=>∃ l k xs,x=.ref l/\y=.int k/\H l=some (.lst xs)/\-(2 ^ 63)<=k/\k < 2 ^ 63/\xs.length * k.toNat<=sizeLine /\
 ∀ p,H p=none->Q (.ref p) (upd H p (.lst (List.replicate k.toNat xs).flatten))
theorem ZnJ {α:Type} (xs:List α) (k:Nat):(List.replicate k xs).flatten.length=k * xs.length:=by
 induction k with
 | zero=>simp
 | succ k ih=>rw[hZ,gE,ax,ih,nA,Nat.add_comm]
theorem pz:OpR X (binaryOp .Mult) rRep:=by
 intro pins s Z H x y v u Q I rx ry h
 obtain ⟨l,k,xs,rfl,rfl,hH,h1,h2,hz,q⟩:=h
 cases rx
 obtain ⟨t,rfl⟩:=ry
 obtain ⟨z,its,n,r,hl,e⟩:=I.lstM hH
 have hlen:its.toArray.size * k.toNat<=sizeLine:=by rw[bu,<- hl];exact hz
 have hcap:¬ its.toArray.size * k.toNat > (2 ^ 63 - 1) / 8:=by
  have:(sizeLine:Nat)<=(2 ^ 63 - 1) / 8:=by decide
  lia
 have hfit:¬ (!Builtin.List.listFitsIndex k)=true:=by
  rw[fitsIndex_both h1 h2]
  exact bA
 have hlong:¬ Builtin.List.listTooLong (its.toArray.size * k.toNat)=true:=by
  rw[sL hlen]
  exact bA
 have hnew:List.foldl (fun x1 x2=>x1++x2) #[] (List.replicate (if its.toArray.isEmpty=true then 0 else k.toNat) its.toArray)=(List.replicate k.toNat its).flatten.toArray:=by
  have f0:∀ m:Nat,List.foldl (fun x1 x2=>x1++x2) #[] (List.replicate m its.toArray)=(List.replicate m its).flatten.toArray:=fun m=>by
   have:=foldl_rep its m []
   rw[kK] at this
   exact this
  rw[f0]
  cases its with
  | nil=>simp
  | cons a r'=>rw[ai (by simp)]
 refine wpAny_binaryOp_repeat_ref (T:="list") (U:="int") (by decide) ⟨_,e,rfl⟩ (fun s'=>typeIs_int s' k t) noFill_list_mul F.fills_int_mul F.slot_int_rmul repeat_list F.slot_int_index.lookup
  (jq F.slot_int_rmul (typeIs_int s k t) F.entry_int_rmul (F.args_int_rmul_2 _ _) (int___rmul___int_list k t l its.toArray n)
   ⟨e,rfl,⟨_,e,rfl⟩,jq F.slot_list_mul ⟨_,e,rfl⟩ F.entry_list_mul (F.args_list_mul_2 _ _) (AutoListH.list___mul___list_int_3 l its.toArray n k t hfit hcap hlong) ⟨e,?_⟩⟩)
 rw[hnew]
 exact ⟨.ref _,_,I.lnew (t':=s.toks) (r.rep k.toNat) (by rw[ZnJ,Nat.mul_comm];exact hz),rfl,q _ I.fresh⟩
end
end L2
namespace L2
open PySem PySem.Spec PyProof.Rows
section
variable {κ:Type} [DecidableEq κ]
def valV (kvs:List (κ×V)) (k:κ):Option V:=(kvs.find? fun kv=>decide (kv.1=k)).map (·.2)
def putK (kvs:List (κ×V)) (k:κ) (v:V):List (κ×V) :=
 if (kvs.any fun kv=>decide (kv.1=k))=true then kvs.map (fun kv=>if kv.1=k then (kv.1,v) else kv) else kvs++[(k,v)]
theorem kr {p:κ×V} {r:List (κ×V)} {k:κ} (e:p.1=k):valV (p::r) k=some p.2:=by simp[valV,du,e]
theorem jd {p:κ×V} {r:List (κ×V)} {k:κ} (e:¬ p.1=k):valV (p::r) k=valV r k:=by simp[valV,du,e]
theorem mY (k : κ) : ∀ kvs : List (κ × V), (kvs.any fun kv => decide (kv.1 = k)) = (valV kvs k).isSome
  | [] => rfl
  | p :: r => by
    rw[fT]
    by_cases e:p.1=k
    . simp only[kr e, aX e, Bool.true_or, Option.isSome_some]
    . rw[jd e, aQ e, Bool.false_or]; exact mY k r
theorem tD (kvs:List (κ×V)) (k:κ) (v:V):(putK kvs k v).length<=kvs.length+1:=by
 unfold putK
 split
 .rw[af];lia
 .rw[ax,cm,gF];lia
theorem ZlP {kvs:List (κ×V)} {k:κ} (v:V) (h:valV kvs k=none):putK kvs k v=kvs++[(k,v)]:=by
 unfold putK
 rw[mY,h]
 exact ai (by decide)
theorem RelO.isSome_eq {o:Option V} {u:Option Value} (r:RelO o u):o.isSome=u.isSome:=by
  cases o with
  | none => cases u with
    | none => rfl
    | some _ => exact (show False from r).elim
  | some _ => cases u with
    | none => exact (show False from r).elim
    | some _ => rfl
theorem RelO.getD {o:Option V} {u:Option Value} {d:V} {d':Value} (r:RelO o u) (rd:RelV d d'):RelV (o.getD d) (u.getD d'):=by
  cases o with
  | none => cases u with
    | none => exact rd
    | some _ => exact (show False from r).elim
  | some _ => cases u with
    | none => exact (show False from r).elim
    | some _ => exact r
theorem KV.val {kvs:List (κ×V)} {vs:List (κ×Value)} (r:KV kvs vs) (k:κ):RelO (valV kvs k) (valueAt vs k):=by
 unfold KV at r
 induction r with
 | nil=>exact True.intro
 | @cons p q ps qs h t ih =>
  obtain ⟨h1,h2⟩:=h
  by_cases e:p.1=k
  .have e':q.1=k:=h1.symm.trans e
   have b:valueAt (q::qs) k=some q.2:=by simp[valueAt,du,e']
   rw[kr e,b];exact h2
  .have e':¬ q.1=k:=fun z=>e (h1.trans z)
   have b:valueAt (q::qs) k=valueAt qs k:=by simp[valueAt,du,e']
   rw[jd e,b];exact ih
theorem KV.any {kvs:List (κ×V)} {vs:List (κ×Value)} (r:KV kvs vs) (k:κ):(kvs.any fun kv=>decide (kv.1=k))=vs.any fun kv=>decide (kv.1=k):=by
 unfold KV at r
 induction r with
 | nil=>rfl
 | cons h t ih=>rw[fT,fT,ih,h.1]
theorem KV.repl {kvs:List (κ×V)} {vs:List (κ×Value)} (r:KV kvs vs) (k:κ) {y:V} {u:Value} (ry:RelV y u) :
  KV (kvs.map fun kv=>if kv.1=k then (kv.1,y) else kv) (vs.map fun kv=>if kv.1=k then (kv.1,u) else kv):=by
 unfold KV at r ⊢
 induction r with
 | nil=>exact .nil
 | @cons p q ps qs h t ih =>
  rw[aS,aS]
  refine .cons ?_ ih
  obtain ⟨h1,h2⟩:=h
  by_cases e:p.1=k
  .rw[ah e,ah (h1.symm.trans e)];exact ⟨h1,ry⟩
  .rw[ai e,ai (fun z=>e (h1.trans z))];exact ⟨h1,h2⟩
theorem KV.put {kvs:List (κ×V)} {vs:List (κ×Value)} (r:KV kvs vs) (k:κ) {y:V} {u:Value} (ry:RelV y u):KV (putK kvs k y) (stored vs k u):=by
 unfold putK stored
 rw[r.any k]
 by_cases e:(vs.any fun kv=>decide (kv.1=k))=true
 .rw[ah e,ah e];exact r.repl k ry
 .rw[ai e,ai e];exact Paired.snoc r ⟨rfl,ry⟩
theorem KV.length {kvs:List (κ×V)} {vs:List (κ×Value)} (r:KV kvs vs):kvs.length=vs.length:=Paired.length r
end
theorem jY {P:Program} {w:World} {k:Key} {u:Value} (r:RelV (kV k) u):(cj P w).is k u=true:=by
 cases k with
 | inl i=>obtain ⟨t,e⟩:=(show ∃ t,u=Value.int i t from r);subst e;exact ZhO P w i t
 | inr x=>obtain ⟨t,e⟩:=(show ∃ t,u=Value.str x t from r);subst e;exact ZhN P w x t
theorem uO {P : Program} {w : World} : ∀ {ks : List Key} {us : List Value}, Vals (ks.map kV) us -> ItemsAre (cj P w) ks us
  | [], _, r => by rw[map_nil] at r; cases r; exact .nil
  | k :: ks, _, r => by
    rw[aS] at r
    cases r with
    | cons h t => exact .cons (jY h) (uO t)
abbrev KT (H:Hp):List (List Key×V)->List (List Key×Addr×Value)->Prop:=Paired fun p q=>p.1=q.1/\H q.2.1=some (.tup (p.1.map kV))/\RelV p.2 q.2.2
theorem KT.val {H:Hp} {kvs:List (List Key×V)} {xs:List (List Key×Addr×Value)} (r:KT H kvs xs) (k:List Key):RelO (valV kvs k) ((atKey xs k).map (·.2)):=by
 induction r with
 | nil=>exact True.intro
 | @cons p q ps qs h t ih =>
  obtain ⟨h1,j,h2⟩:=h
  by_cases e:p.1=k
  .have e':q.1=k:=h1.symm.trans e
   have b:atKey (q::qs) k=some q.2:=by simp[atKey,du,e']
   rw[kr e,b];exact h2
  .have e':¬ q.1=k:=fun z=>e (h1.trans z)
   have b:atKey (q::qs) k=atKey qs k:=by simp[atKey,du,e']
   rw[jd e,b];exact ih
theorem KT.repl {H:Hp} {kvs:List (List Key×V)} {xs:List (List Key×Addr×Value)} (r:KT H kvs xs) (k:List Key) {y:V} {u:Value} (ry:RelV y u) :
  KT H (kvs.map fun kv=>if kv.1=k then (kv.1,y) else kv) (xs.map (putAt k u)):=by
 induction r with
 | nil=>exact .nil
 | @cons p q ps qs h t ih =>
  rw[aS,aS]
  refine .cons ?_ ih
  obtain ⟨h1,h2,h3⟩:=h
  unfold putAt
  by_cases e:p.1=k
  .rw[ah e,ah (h1.symm.trans e)];exact ⟨h1,h2,ry⟩
  .rw[ai e,ai (fun z=>e (h1.trans z))];exact ⟨h1,h2,h3⟩
theorem KT.put {H:Hp} {kvs:List (List Key×V)} {xs:List (List Key×Addr×Value)} (r:KT H kvs xs) (k:List Key) {b:Addr} {y:V} {u:Value} (hb:H b=some (.tup (k.map kV))) (ry:RelV y u) :
  KT H (putK kvs k y) (storedH xs k b u):=by
 have e:(kvs.any fun kv=>decide (kv.1=k))=(atKey xs k).isSome:=by
  rw[mY,(r.val k).isSome_eq,qt]
 unfold putK storedH
 rw[e]
 by_cases q:(atKey xs k).isSome=true
 .rw[ah q,ah q];exact r.repl k ry
 .rw[ai q,ai q];exact Paired.snoc r ⟨rfl,hb,ry⟩
theorem KT.keeps {H H':Hp} {kvs:List (List Key×V)} {xs:List (List Key×Addr×Value)} (r:KT H kvs xs) (ht:∀ b ys,H b=some (.tup ys)->H' b=some (.tup ys)):KT H' kvs xs :=
 Paired.mapP r fun j j z=>⟨z.1,ht _ _ z.2.1,z.2.2⟩
section
variable {P:Program} {w:World} {H:Hp} {h:Heap} {a:Addr}
theorem rd_of {u:HO} (ok:HOk P w H h) (e:Rd H a u):ObjOk P w H h a u:=e.ok ok
theorem iB {kvs:List (Key×V)} (ok:HOk P w H h) (e:Rd H a (.dK kvs)):kvs.length<=sizeLine/\(a == sysModules)=false/\∃ vs,KV kvs vs/\h.DictOf (cj P w) a vs :=
 show ObjOk P w H h a (.dK kvs) from rd_of ok e
theorem dk_of {kvs:List (Key×V)} (ok:HOk P w H h) (e:H a=some (.dK kvs)):kvs.length<=sizeLine/\(a == sysModules)=false/\∃ vs,KV kvs vs/\h.DictOf (cj P w) a vs:=iB ok (.inl e)
theorem jJ {ks:List Key} (ok:HOk P w H h) (e:H a=some (.tup (ks.map kV))):(tupleKind (cj P w)).is h ks a:=by
 obtain ⟨j,its,r,o,h1,h2,n,h3⟩:=(show ObjOk P w H h a (.tup (ks.map kV)) from ok a _ e)
 exact ⟨o,its.toArray,n,h1,h2,h3,by simpa using uO r⟩
theorem iX {kvs:List (List Key×V)} (ok:HOk P w H h) (e:Rd H a (.dT kvs)):kvs.length<=sizeLine/\(a == sysModules)=false /\
  ∃ xs,KT H kvs xs/\h.DictOfH (tupleKind (cj P w)) a xs:=by
 obtain ⟨z,y,xs,r,o,es,ep,h1,h2,h3,h4,h5⟩:=(show ObjOk P w H h a (.dT kvs) from rd_of ok e)
 refine ⟨z,y,xs,r,o,es,ep,h1,h2,h3,h4,fun x hx=>?_,h5⟩
 have all:∀ {l:List (List Key×V)} {m:List (List Key×Addr×Value)},KT H l m->∀ x∈m,(tupleKind (cj P w)).is h x.1 x.2.1:=by
  intro l m q
  induction q with
  | nil=>intro x hx;exact nomatch hx
  | @cons p q ps qs hq t ih =>
   intro x hx
   rcases aG.mp hx with e|hx
   .subst e
    exact jJ ok (by rw[<-hq.1];exact hq.2.1)
   .exact ih x hx
 exact all r x hx
theorem dt_of {kvs:List (List Key×V)} (ok:HOk P w H h) (e:H a=some (.dT kvs)):kvs.length<=sizeLine/\(a == sysModules)=false /\
  ∃ xs,KT H kvs xs/\h.DictOfH (tupleKind (cj P w)) a xs:=iX ok (.inl e)
end
def DGet (H:Hp) (a:Addr) (y:V) (r:Option V):Prop :=
 (∃ kvs k,Rd H a (.dK kvs)/\y=kV k/\r=valV kvs k)\/∃ kvs k b,Rd H a (.dT kvs)/\y=.ref b/\H b=some (.tup (k.map kV))/\r=valV kvs k
def DPut (H:Hp) (a:Addr) (y v:V) (H':Hp):Prop :=
 (∃ kvs k,H a=some (.dK kvs)/\y=kV k/\kvs.length < sizeLine/\H'=upd H a (.dK (putK kvs k v))) \/
 ∃ kvs k b,H a=some (.dT kvs)/\y=.ref b/\H b=some (.tup (k.map kV))/\kvs.length < sizeLine/\H'=upd H a (.dT (putK kvs k v))
theorem DGet.k {H:Hp} {a:Addr} {kvs:List (Key×V)} {k:Key} (e:H a=some (.dK kvs)):DGet H a (kV k) (valV kvs k):=.inl ⟨kvs,k,.inl e,rfl,rfl⟩
theorem DPut.k {H:Hp} {a:Addr} {kvs:List (Key×V)} {k:Key} {v:V} (e:H a=some (.dK kvs)) (hl:kvs.length < sizeLine):DPut H a (kV k) v (upd H a (.dK (putK kvs k v))):=.inl ⟨kvs,k,e,rfl,hl,rfl⟩
theorem DPut.t {H:Hp} {a b:Addr} {kvs:List (List Key×V)} {k:List Key} {v:V} (e:H a=some (.dT kvs)) (eb:H b=some (.tup (k.map kV))) (hl:kvs.length < sizeLine) :
  DPut H a (.ref b) v (upd H a (.dT (putK kvs k v))):=.inr ⟨kvs,k,b,e,rfl,eb,hl,rfl⟩
section
variable {X:Cx} {pins:List (Addr×Obj)} {Z:St} {H:Hp} {s:Shared} {a:Addr} {y v:V} {u r:Value} {o:Option V} {A:Around} {E:Value->Shared->Prop}
theorem Inv.big (I:Inv X pins Z H s):sysModules < s.heap.objs.size:=by
 have h:mainGlobals < s.heap.objs.size:=(I.mod.glob.keeps I.bk).lt
 exact dv (by decide) h
theorem Zk2 {Q:Value->Shared->Prop} (hu:A.units+1 < cLine) (I:Inv X pins Z H s) (g:DGet H a y (some v)) (ry:RelV y u) (h:∀ w' s',Inv X pins Z H s'->RelV v w'->Q w' s') :
  wpAny (model X.prog X.w) A (getItem (.ref a) u) Q E s:=by
 rcases g with ⟨kvs,k,e,ey,l⟩|⟨kvs,k,b,e,ey,eb,l⟩
 .subst ey
  obtain ⟨z,hd,vs,rel,dd⟩:=iB I.hok e
  obtain ⟨w',hw,rw'⟩:=RelO.some_of (v:=v) (o:=valueAt vs k) (by rw[l];exact rel.val k)
  exact wpAny_getItem_of (jY ry) dd.mapOf hw (h w' _ (I.tok _) rw')
 .subst ey
  cases (show u=Value.ref b from ry)
  obtain ⟨z,hd,xs,rel,dd⟩:=iX I.hok e
  obtain ⟨w',hw,rw'⟩:=RelO.some_of (v:=v) (o:=(atKey xs k).map (·.2)) (by rw[l];exact rel.val k)
  obtain ⟨p,hp,hp2⟩:=bc.mp hw
  refine wpAny_getItem_heap (nB hu) (jJ I.hok eb) dd hp ?_
  rw[hp2]
  exact h w' _ (I.tok _) rw'
theorem Zn0 {Q:Value->Shared->Prop} (hu:A.units+1 < cLine) (I:Inv X pins Z H s) (g:DGet H a y o) (ry:RelV y u) (h:∀ s',Inv X pins Z H s'->Q (.bool (!o.isSome)) s') :
  wpAny (model X.prog X.w) A (compareOp .NotIn u (.ref a)) Q E s:=by
 rcases g with ⟨kvs,k,e,ey,l⟩|⟨kvs,k,b,e,ey,eb,l⟩
 .subst ey
  obtain ⟨z,hd,vs,rel,dd⟩:=iB I.hok e
  refine wpAny_notIn_of (jY ry) hd dd.mapOf ?_
  rw[<-(rel.val k).isSome_eq,<- l]
  exact h _ (I.tok _)
 .subst ey
  cases (show u=Value.ref b from ry)
  obtain ⟨z,hd,xs,rel,dd⟩:=iX I.hok e
  refine wpAny_notIn_heap (nB hu) (jJ I.hok eb) hd dd ?_
  have q:=(rel.val k).isSome_eq
  rw[qt] at q
  rw[<-q,<- l]
  exact h _ (I.tok _)
theorem qP {h':Heap} {t':Nat} {ob:HO} (I:Inv X pins Z H s) (mu:Mut (H a)) (hs:Heap.SameBut a s.heap h') (he:∃ q,h'.get? a=some q) (new:ObjOk X.prog X.w (upd H a ob) h' a ob) :
  Inv X pins Z (upd H a ob) { s with heap:=h',toks:=t' } :=
 I.write (x:=a) (e:=a) mu (.inl rfl) (fun b q hb z=>(hs.2 b hb).trans z) he new
theorem dk_new {P:Program} {w:World} {H':Hp} {h':Heap} {kvs:List (Key×V)} {vs:List (Key×Value)} (z:kvs.length<=sizeLine) (hd:(a == sysModules)=false) (rel:KV kvs vs) (dd:h'.DictOf (cj P w) a vs) :
  ObjOk P w H' h' a (.dK kvs):=⟨z,hd,vs,rel,dd⟩
theorem Zk1 {H':Hp} {Q:Unit->Shared->Prop} (hu:A.units+1 < cLine) (I:Inv X pins Z H s) (g:DPut H a y v H') (ry:RelV y u) (rv:RelV v r) (h:∀ s',Inv X pins Z H' s'->Q () s') :
  wpAny (model X.prog X.w) A (setItem (.ref a) u r) Q E s:=by
 rcases g with ⟨kvs,k,e,ey,l,eH⟩|⟨kvs,k,b,e,ey,eb,l,eH⟩
 .subst ey eH
  obtain ⟨z,hd,vs,rel,dd⟩:=dk_of I.hok e
  have hz:vs.length<=sizeLine:=by rw[<-rel.length];exact z
  have hl:(putK kvs k v).length<=sizeLine:=by have:=tD kvs k v;lia
  refine wpAny_setItem_pairs (hsz:=hz) (jY ry) dd fun h' dd' hs=>h _ ?_
  have he:∃ q,h'.get? a=some q:=let ⟨q,_,_,hq,_⟩:=dd';⟨q,hq⟩
  exact qP I (by rw[e];exact True.intro) hs he (dk_new hl hd (rel.put k rv) dd')
 .subst ey eH
  cases (show u=Value.ref b from ry)
  obtain ⟨z,hd,xs,rel,dd⟩:=dt_of I.hok e
  have hz:xs.length<=sizeLine:=by rw[<-Paired.length rel];exact z
  have hl:(putK kvs k v).length<=sizeLine:=by have:=tD kvs k v;lia
  refine wpAny_setItem_heap (hsz:=hz) (nB hu) (jJ I.hok eb) dd fun h' dd' hs=>h _ ?_
  obtain ⟨q,es,ep,hq,h2,h3,h4,j,h5⟩:=dd'
  refine qP I (by rw[e];exact True.intro) hs ⟨q,hq⟩ ⟨hl,hd,_,(rel.put k eb rv).keeps fun c ys ec=>?_,q,es,ep,hq,h2,h3,h4,h5⟩
  rw[bh (ne_of ec e (fun z=>nomatch z))]
  exact ec
end
def NoSl (i:Expr):Prop:=∀ ov iv,subscripted i false ov iv=operate [ov,iv] (getItem ov iv)
theorem Znd {prog:Program} {w:World} {A:Around} {E:Value->Shared->Prop} {s:Shared} {env:Env} {value slice:Expr} {pos:Pos} {T id:String} {Q:Value->Shared->Prop}
  (hl:typeLookup (.type T) "__getitem__"=pure (some (.builtin id))) (hs:NoSl slice)
  (h:wpAny (model prog w) A (eval value env) (fun o s₁=>wpAny (model prog w) A (eval slice env) (fun i s₂=>s₂.TypeIs o T/\wpAny (model prog w) A (getItem o i) Q E s₂) E s₁) E s) :
  wpAny (model prog w) A (eval (.Subscript value slice pos) env) Q E s:=by
 refine Subscript_ (cD h (fun o s₁ h₁=>cD h₁ (fun i s₂ h₂=>?_) fun j j x=>x) fun j j x=>x)
 obtain ⟨hT,h₂⟩:=h₂
 unfold subscriptTail
 refine ae ?_
 rw[getitemInPython_of_ne hT.not_modules]
 refine ae (kL hT hl ?_)
 have fin:wpAny (model prog w) A (subscripted slice false o i) (fun r s₃=>wpAny (model prog w) A (letTemporaryGo value o r >>= fun j=>pure r) Q E s₃) E s₂:=by
  rw[hs o i]
  exact wpAny_operating (cD h₂ (fun r s₃ h₃=>ae (wpAny_letTemporaryGo (am h₃))) fun j j x=>x)
 first
  | exact am (ae fin)
  | exact ae (am (ae fin))
  | exact ae fin
theorem ZhW {X:Cx} {pins:List (Addr×Obj)} {Z:St} {H:Hp} {s:Shared} {a:Addr} {y:V} {o:Option V} (I:Inv X pins Z H s) (g:DGet H a y o):s.TypeIs (.ref a) "dict":=by
 rcases g with ⟨kvs,k,e,j,j⟩|⟨kvs,k,b,e,j,j,j⟩
 .obtain ⟨j,j,vs,j,dd⟩:=iB I.hok e
  exact dd.typeIs
 .obtain ⟨j,j,xs,j,dd⟩:=iX I.hok e
  exact dd.typeIs
def o0 (td ty:TE):TE:=fun Z H Q=>td Z H fun x H1=>ty Z H1 fun y H2=>∃ a v,x=.ref a/\DGet H2 a y (some v)/\Q v H2
def q9 (ty td:TE):TE:=fun Z H Q=>ty Z H fun y H1=>td Z H1 fun x H2=>∃ a o,x=.ref a/\DGet H2 a y o/\Q (.bl (!o.isSome)) H2
def mS (td ty tv:TE):TS:=fun D Z H=>tv Z H fun v H1=>td Z H1 fun x H2=>ty Z H2 fun y H3=>∃ a H4,x=.ref a/\DPut H3 a y v H4/\D.nx Z H4
section
variable {X:Cx} {o i e value:Expr} {pos pos' tpos:Pos} {td ty tv:TE}
theorem fW (hu:X.A.units+1 < cLine) (ho:PE X o td) (hi:PE X i ty) (hs:NoSl i):PE X (.Subscript o i pos) (o0 td ty):=by
 intro pins s Z H Q I h
 refine Znd PySem.F.slot_dict_getitem.lookup hs (thn (ho pins s Z H _ I h) fun u s1 ⟨x,H1,I1,rx,q1⟩=>thn (hi pins s1 Z H1 _ I1 q1) fun iv s2 z0_=>?_)
 obtain ⟨y,H2,I2,ry,a,v,ex,g,q2⟩:=z0_
 subst ex
 obtain rfl:u=Value.ref a:=rx
 exact ⟨ZhW I2 g,Zk2 hu I2 g ry fun w' s3 I3 rw'=>⟨v,H2,I3,rw',q2⟩⟩
theorem pj (hu:X.A.units+1 < cLine) (hi:PE X i ty) (ho:PE X o td):PC X .NotIn i o (q9 ty td):=by
 intro pins s Z H Q I h
 refine thn (hi pins s Z H _ I h) fun iv s1 ⟨y,H1,I1,ry,q1⟩=>thn (ho pins s1 Z H1 _ I1 q1) fun u s2 ⟨x,H2,I2,rx,a,ov,ex,g,q2⟩=>?_
 subst ex
 obtain rfl:u=Value.ref a:=rx
 exact Zn0 hu I2 g ry fun s3 I3=>⟨.bl (!ov.isSome),H2,I3,rfl,q2⟩
theorem f6 (hu:X.A.units+1 < cLine) (ho:PE X o td) (hi:PE X i ty) (hv:PE X value tv) (hs:swapsWith value (some (.Subscript o i pos')) pos.line X.env=pure false) :
  PS X (.Assign [.Subscript o i pos'] value pos) (mS td ty tv):=by
 intro pins s Z H D I h
 refine wpAny_Assign_Subscript (thn (hv pins s Z H _ I h) fun r s1 ⟨v,H1,I1,rv,q1⟩=>thn (ho pins s1 Z H1 _ I1 q1) fun u s2 ⟨x,H2,I2,rx,q2⟩=>thn (hi pins s2 Z H2 _ I2 q2) fun iv s3 z0_=>?_) hs
 obtain ⟨y,H3,I3,ry,a,H4,ex,g,q3⟩:=z0_
 subst ex
 obtain rfl:u=Value.ref a:=rx
 exact Zk1 hu I3 g ry rv fun s4 I4=>⟨Z,H4,I4,q3⟩
end
theorem Zmb {P:Program} {w:World} {H:Hp} (h:Heap) (hb:sysModules < h.objs.size):ObjOk P w H (h.push { cls:=.type "dict",data:=.dict #[] }) h.objs.size (.dK []) :=
 ⟨bD _,qh.mpr (Ne.symm (bK hb)),[],.nil,Heap.DictOf.new h⟩
theorem Zma {P:Program} {w:World} {H:Hp} (h:Heap) (hb:sysModules < h.objs.size):ObjOk P w H (h.push { cls:=.type "dict",data:=.dict #[] }) h.objs.size (.dT []) :=
 ⟨bD _,qh.mpr (Ne.symm (bK hb)),[],.nil,_,#[],0,ck _ rfl,⟨rfl,rfl,rfl⟩,rfl,rfl,cV⟩
def pM:TE:=fun j H Q=>∀ p,H p=none->Q (.ref p) (upd H p (.dK []))
def qU:TE:=fun j H Q=>∀ p,H p=none->Q (.ref p) (upd H p (.dT []))
section
variable {X:Cx} {pos:Pos}
theorem lr:PE X (.Dict [] [] pos) pM:=fun pins s Z H Q I h =>
 wpAny_Dict_empty ⟨.ref s.heap.objs.size,_,I.laid (a:=s.heap.objs.size) (o:=.dK []) (t':=s.toks) (fun j j q=>bt _ q) (aA _) (Zmb s.heap I.big),rfl,h _ (I.hok.fresh (aA _))⟩
theorem ub:PE X (.Dict [] [] pos) qU:=fun pins s Z H Q I h =>
 wpAny_Dict_empty ⟨.ref s.heap.objs.size,_,I.laid (a:=s.heap.objs.size) (o:=.dT []) (t':=s.toks) (fun j j q=>bt _ q) (aA _) (Zma s.heap I.big),rfl,h _ (I.hok.fresh (aA _))⟩
end
structure M2 (X:Cx) (o:Expr) (m:Str) (apos:Pos) (e f:Expr) (cpos:Pos):Prop where
 base:attributeBase o m X.env (eval o X.env)=eval o X.env
 few:((backTo cpos (starEach [e,f] X.env)).all (fun x=>!x.1) && (backToKw cpos (keywordEach [] X.env)).all (fun x=>x.1.isSome)
  && decide (([e,f]:List Expr).length+([]:List Keyword).length+(if ([]:List Keyword).isEmpty then 0 else 1) < 30))=true
 line:(apos.endLine == cpos.line)=true
 trees:backTo cpos (starEach [e,f] X.env)=[(false,eval e X.env),(false,eval f X.env)]
def IsD (H:Hp) (a:Addr):Prop:=(∃ kvs,Rd H a (.dK kvs))\/∃ kvs,Rd H a (.dT kvs)
theorem pX {X:Cx} {pins:List (Addr×Obj)} {Z:St} {H:Hp} {s:Shared} {a:Addr} (I:Inv X pins Z H s) (d:IsD H a) :
  s.TypeIs (.ref a) "dict"/\(∀ b,Value.ref a=.ref b->∃ ob,s.heap.get? b=some ob/\ob.dict=none)/\(a == sysModules)=false:=by
 rcases d with ⟨kvs,e⟩|⟨kvs,e⟩
 .obtain ⟨j,hd,vs,j,dd⟩:=iB I.hok e
  refine ⟨dd.typeIs,fun b q=>?_,hd⟩
  cases q
  obtain ⟨ob,j,j,h1,h2,j⟩:=dd
  exact ⟨ob,h1,h2.2.1⟩
 .obtain ⟨j,hd,xs,j,dd⟩:=iX I.hok e
  refine ⟨dd.typeIs,fun b q=>?_,hd⟩
  cases q
  obtain ⟨ob,j,j,h1,h2,j⟩:=dd
  exact ⟨ob,h1,h2.2.1⟩
section
variable {X:Cx} {pins:List (Addr×Obj)} {Z:St} {H:Hp} {s:Shared} {a:Addr} {y d:V} {u r:Value} {o:Option V} {A:Around} {E:Value->Shared->Prop}
theorem d_get2 {Q:Value->Shared->Prop} (hu:A.units+1 < cLine) (I:Inv X pins Z H s) (g:DGet H a y o) (ry:RelV y u) (rd:RelV d r) (h:∀ w' s',Inv X pins Z H s'->RelV (o.getD d) w'->Q w' s') :
  wpAny (model X.prog X.w) A (call (.builtin "dict.get") [.ref a,u,r]) Q E s:=by
 rcases g with ⟨kvs,k,e,ey,l⟩|⟨kvs,k,b,e,ey,eb,l⟩
 .subst ey
  obtain ⟨z,hd,vs,rel,dd⟩:=iB I.hok e
  refine call_meetsIn PySem.F.slot_dict_get dd.typeIs PySem.F.entry_dict_get (PySem.F.args_dict_get_3 _ _ _) (meets_dict_get_default (cj X.prog X.w) a (jY ry) hd r) ⟨_,dd.mapOf,h _ _ (I.tok _) ?_⟩
  rw[l]
  exact (rel.val k).getD rd
 .subst ey
  cases (show u=Value.ref b from ry)
  obtain ⟨z,hd,xs,rel,dd⟩:=iX I.hok e
  refine call_meetsIn PySem.F.slot_dict_get dd.typeIs PySem.F.entry_dict_get (PySem.F.args_dict_get_3 _ _ _) (meetsH_dict_get_default (tupleKind (cj X.prog X.w)) a b hd r) ⟨nB hu,k,xs,jJ I.hok eb,dd,h _ _ (I.tok _) ?_⟩
  rw[l]
  exact (rel.val k).getD rd
end
def uk (td ty tx:TE):TE:=fun Z H Q=>td Z H fun x H1=>∃ a,x=.ref a/\IsD H1 a/\ty Z H1 fun y H2=>tx Z H2 fun z H3=>∃ o,DGet H3 a y o/\Q (o.getD z) H3
section
variable {X:Cx} {o e f:Expr} {apos cpos:Pos} {td ty tx:TE}
theorem rK (hu:X.A.units+1 < cLine) (ho:PE X o td) (he:PE X e ty) (hf:PE X f tx) (m:M2 X o "get" apos e f cpos):PE X (.Call (.Attribute o "get" apos) [e,f] [] cpos) (uk td ty tx):=by
 intro pins s Z H Q I h
 refine wpAny_Call_method m.base m.few m.line PySem.F.plainAttrs_dict PySem.F.slot_dict_get PySem.F.type_dict_get (thn (ho pins s Z H _ I h) fun u s1 z0_=>?_)
 obtain ⟨x,H1,I1,rx,a,ex,d,q1⟩:=z0_
 subst ex
 obtain rfl:u=Value.ref a:=rx
 obtain ⟨t1,t2,j⟩:=pX I1 d
 refine ⟨t1,t2,?_⟩
 rw[m.trees]
 refine qr rfl (Calls.evalArgs_plain (kA (thn (he pins s1 Z H1 _ I1 q1) fun iv s2 ⟨y,H2,I2,ry,q2⟩ =>
  kA (thn (hf pins s2 Z H2 _ I2 q2) fun fv s3 ⟨z,H3,I3,rz,ov,g,q3⟩=>nt ?_))))
 exact d_get2 hu I3 g ry rz fun w' s4 I4 rw'=>⟨_,H3,I4,rw',q3⟩
end
end L2
namespace Att
open PySem PySem.W PySem.Calls PyProof.Rows
theorem Zff {P:Params} {h:Heap}:∀ (ns:List Int) (vs:List Value),WellAll P h vs (ns.map WData.int)->IntsAre vs ns:=by
 intro ns
 induction ns with
 | nil =>
  intro vs w
  rw[map_nil] at w
  cases w
  exact .nil
 | cons n ns ih =>
  intro vs w
  rw[aS] at w
  cases w with
  | cons a b =>
   cases a
   exact .cons _ _ (ih _ b)
theorem Zj3 {l:OpenLaw} {n:Nat} (hn:l.most=some n) {P:Params} {h:Heap} {args:List WData} {vals:List Value}
  (hpre:l.row.toRowW.claim.pre args=true) (hwl:WellAll P h vals args) :
  ∃ a vs ns,vals=[Value.ref a]/\args=[WData.list (ns.map WData.int)]/\h.get? a=some { cls:=.type "list",data:=.seq vs.toArray }/\IntsAre vs ns/\ns.length<=n:=by
 have hsh:WShape.hasAll [] args [.list .int]=true:=(pre_splitW hpre).1
 have hc:l.pre.holds [] { args:=args }=true:=(pre_splitW hpre).2
 obtain ⟨d,r,rfl,h1,h2⟩:=hasAllW_cons hsh
 obtain rfl:=hasAllW_nil h2
 obtain ⟨xs,rfl,h3⟩:=hasW_list h1
 obtain ⟨ns,rfl⟩:=items_int h3
 have hlen:ns.length<=n:=by
  unfold OpenLaw.pre at hc
  have h4:(WTm.not (.lt (.lit (.int (n:Int))) (.len (.arg 0)))).holds [] { args:=[.list (ns.map .int)] }=true:=by
   have h4:=(holds_andW hc).1
   rw[hn] at h4
   exact h4
  have h5:=condW_of h4 (w_not (w_lt w_lit (w_len_list (w_arg rfl))))
  rw[af] at h5
  refine Nat.le_of_not_lt fun q=>?_
  have q':(n:Int) < ((ns.length:Nat):Int):=by lia
  first
   | (rw[aX q'] at h5;exact absurd h5 (by decide))
   | (simp at h5;lia)
 cases hwl with
 | cons w1 w2 =>
  cases w2
  cases w1 with
  | list ho hall=>exact ⟨_,_,ns,rfl,rfl,ho,Zff ns _ hall,hlen⟩
theorem Zki (l:OpenLaw) (args:List WData):l.row.toRowW.claim.post args (.bool true) args=true :=
 postW_of (r:=l.row.toRowW) (X:=(true == true))
  (show WShape.has [] (.bool true) .bool=true by first|rfl|decide|simp[WShape.has,WShape.arms,WShape.armsAll])
  (show (WTm.eq .res (.lit (.bool true))).value [] { args:=args,res:=some (.bool true),after:=args }=some (.bool (true == true)) from w_eq_bool (w_res rfl) w_lit) rfl
theorem attach_call {l:OpenLaw} {n:Nat} {q:Program} {loose:List Str} {XP:(Str->Option Value)->Heap->Prop} {YP:World->Heap->Prop} {d:DefRec}
  (hn:l.most=some n) (hdf:d.params.defaults=[])
  (call:∀ (w:World) (s₀ s₁:Shared) (mg mb:Str->Option Value) (fa:Addr) (o:Obj) (pm cd doc:Value) (a:Addr) (vs:List Value) (ns:List Int),
   Ground q loose [] XP w s₀ mg mb s₁.heap->YP w s₁.heap ->
   s₁.heap.get? fa=some o->o.data=.func (docDef d.name d.params d.body d.scope pm cd doc)->s₁.heap.CodeRec cd d.name->mg d.name=some (.ref fa) ->
   s₁.heap.get? a=some { cls:=.type "list",data:=.seq vs.toArray }->IntsAre vs ns->ns.length<=n->s₁.gens=#[] ->
   codeAny (model l.prog w) callerA (.call (.ref fa) ⟨[.ref a],[]⟩) (fun r s'=>r=.ok (.ret (.bool true))/\OldK s₁.heap s'.heap/\s'.os=s₁.os/\AllBare s'.gens) s₁) :
  WalkO q loose XP YP l.row.toRowW d [] (fun f vs=>PySem.call f vs):=by
 intro w s₀ s₁ mg mb G Y fa o pm cd doc dV kV ho hd hcd hD hmg hg args vals as hpre hlay hrd hwl hlo
 obtain rfl:dV=.none:=Dflts.none hD hdf
 obtain rfl:kV=.none:=Dflts.noKw hD
 obtain ⟨a,vs,ns,rfl,rfl,hobj,hints,hlen⟩:=Zj3 hn hpre hwl
 refine enter_call (kB (call w s₀ s₁ mg mb fa o pm cd doc a vs ns G Y ho (fd_plain hd) hcd hmg hobj hints hlen hg) fun r s' hq=>?_)
 obtain ⟨rfl,h2,h3,h4⟩:=hq
 exact ⟨.inl ⟨.bool true,.bool true,[],rfl,fun j=>rfl,.bool true,Zki l _,fun j=>⟨List.Pairwise.nil,fun j hm=>(nomatch hm)⟩⟩,h2,h3,h4⟩
section
variable {prog:Program} {w:World} {A:Around} {E:Value->Shared->Prop} {s:Shared} {K:Frag}
def ledger (h:Heap) (L d:Addr):List (Addr×Obj):=(List.range h.objs.size).filterMap fun a=>if a=L\/a=d then none else (h.get? a).map fun o=>(a,o)
end
end Att
namespace L2
open PySem PySem.Spec PyProof.Rows
theorem sN:∀ {vs:List Value} {ns:List Int},IntsAre vs ns->Vals (ns.map V.int) vs
 | _,_,.nil=>.nil
 | _,_,.cons n t h=>.cons ⟨t,rfl⟩ (sN h)
def Only (H:Hp):Prop:=∀ b,H b=none\/∃ o xs,H b=some (.frz o (.lst xs))
theorem ZlY {P:Program} {w:World} {K:W.Frag} {mg mb:Str->Option Value} {CX:CXT} {k:Nat} {fa a:Addr} {fd:FuncData} {x:Str} {sp:Sp} {s₁:Shared} {vs:List Value} {ns:List Int}
  (KX:K.In s₁.heap) (hns:s₁.heap.Ns mainGlobals mg) (hb:s₁.heap.Ns builtinsNs mb) (hbb:∀ x:Str,x≠"__name__"->mb x=bootBuiltins x) (hlim:s₁.heap.NoLimit) (hg:s₁.gens=#[])
  (ha:s₁.heap.get? a=some { cls:=.type "list",data:=.seq vs.toArray }) (hi:IntsAre vs ns) (hl:ns.length<=sizeLine) (hr:Room k callerA)
  (F:∀ base:Heap,K.In base->base.Ns mainGlobals mg->FnOk P w K mg base CX k fa fd [x] sp) (hbind:∀ (s:Shared) (u:Value),BindsTo s fd ⟨[u],[]⟩ [(x,u)])
  (hsp:∀ H:Hp,Only H->SqL K H a (ns.map V.int)->sp [.ref a] H (fun v j=>v=.bl true) fun j j j=>False)
  (hCX:∀ H e s',CX [] H s₁ (fun j j j=>False) e s'->False) :
  codeAny (model P w) callerA (.call (.ref fa) ⟨[.ref a],[]⟩) (fun r s'=>r=.ok (.ret (.bool true))/\OldK s₁.heap s'.heap/\s'.os=s₁.os/\AllBare s'.gens) s₁:=by
 have rv:=sN hi
 have lenV:=hi.length
 have core:∀ H:Hp,Only H->SqL K H a (ns.map V.int)->HOk P w H s₁.heap->(∀ b,H b≠none->b=a)->(H a≠none->K.lookup a=none) ->
   codeAny (model P w) callerA (.call (.ref fa) ⟨[.ref a],[]⟩) (fun r s'=>r=.ok (.ret (.bool true))/\OldK s₁.heap s'.heap/\s'.os=s₁.os/\AllBare s'.gens) s₁:=by
  intro H hO hS hok hA hK
  have base_of:∀ {b:Addr} {o:Obj},s₁.heap.get? b=some o->H b=none->(hidT s₁.heap H).get? b=some o:=fun e n=>Zl3 e n
  have noA:∀ {b:Addr} {o:Obj} {es:Array DictEntry} {ep:Nat},s₁.heap.get? b=some o->o.data=.dict es ep->H b=none:=fun {b o es ep} e d=>by
   cases q:H b with
   | none=>rfl
   | some u =>
    have e':b=a:=hA b (by rw[q];simp)
    subst e'
    rw[ha] at e;cases e
    have d':Data.seq vs.toArray _=Data.dict es ep:=d
    cases d'
  have nsK:∀ {b:Addr} {m:Str->Option Value},s₁.heap.Ns b m->(hidT s₁.heap H).Ns b m:=fun {b m} ⟨o,es,ep,e,d,r⟩=>⟨o,es,ep,base_of e (noA e d),d,r⟩
  have hKb:K.In (hidT s₁.heap H):=fun b o e=>base_of (KX b o e) (by
   cases q:H b with
   | none=>rfl
   | some u =>
    have e':b=a:=hA b (by rw[q];simp)
    subst e'
    rw[hK (by rw[q];simp)] at e;cases e)
  have hM:Mod K mg (hidT s₁.heap H):=⟨hKb,nsK hns,⟨mb,nsK hb,hbb⟩,let ⟨mc,h1,h2⟩:=hlim;⟨mc,nsK h1,h2⟩⟩
  have e0:Env0 P w K mg (hidT s₁.heap H) callerA [] s₁ H:=⟨rfl,hM,fun b o e=>ZnG e,gD (ZkT _ _),trivial,fun b hb=>absurd (show b∈([]:List Addr) from hb) (by simp),hok,.of_eq hg⟩
  refine kB ((F _ hKb (nsK hns)).run callerA [] s₁ H ⟨[.ref a],[]⟩ [.ref a] [.ref a] _ _ hr e0 (hbind s₁ (.ref a)) (.cons rfl .nil) (hsp H hO hS)) fun r s' h=>?_
  cases r with
  | error e=>exact (hCX H e s' h).elim
  | ok fl =>
   cases fl with
   | next=>exact False.elim h
   | brk=>exact False.elim h
   | cont=>exact False.elim h
   | ret u =>
    obtain ⟨v,H',os,bare,un,hok',r',q⟩:=h
    have q':v=.bl true:=q
    subst q'
    obtain rfl:u=Value.bool true:=r'
    refine ⟨rfl,OldK.of_keep fun b o e=>?_,os,bare⟩
    cases q:H b with
    | none=>exact un.keep b o e q (by intro z;exact absurd (show b∈([]:List Addr) from z) (by simp)) (by simp)
    | some u =>
     rcases hO b with z|⟨ob,xs,z⟩
     .rw[q] at z;cases z
     .have z2:=un.frzs b ob _ z
      obtain ⟨e1,j⟩:=hok b _ z
      obtain ⟨e2,j⟩:=hok' b _ z2
      rw[e] at e1;cases e1
      exact e2
 cases hk:K.lookup a with
 | some o =>
  have e:=KX a o hk
  rw[ha] at e
  cases e
  refine core (fun j=>none) (fun j=>.inl rfl) (.inr ⟨_,vs.toArray,_,hk,rfl,rfl,rfl,by rw[bu,lenV];exact hl,by simpa using rv⟩) (fun b u z=>by have z':(none:Option HO)=some u:=z;cases z') (fun b z=>absurd rfl z) fun z=>absurd rfl z
 | none =>
  refine core (fun b=>if b=a then some (.frz { cls:=.type "list",data:=.seq vs.toArray } (.lst (ns.map V.int))) else none) (fun b=>?_) (.inl (.inr ⟨{ cls:=.type "list",data:=.seq vs.toArray },ah rfl⟩)) (fun b u z=>?_) (fun b z=>?_) fun j=>hk
  .by_cases hb:b=a
   .exact .inr ⟨_,_,ah hb⟩
   .exact .inl (ai hb)
  .by_cases hb:b=a
   .have z':=(ah hb).symm.trans z
    cases z'
    subst hb
    exact ⟨ha,by rw[af];exact hl,vs,_,rv,ha⟩
   .have z':=(ai hb).symm.trans z
    cases z'
  .by_cases hb:b=a
   .exact hb
   .exact absurd (ai hb) z
end L2
namespace L2
open PySem PySem.Spec PyProof.Rows
abbrev KOf {K:W.Frag} {h:Heap} (_:K.In h):W.Frag:=K
theorem qI {l:PySem.W.OpenLaw} {n k:Nat} {q:Program} {loose:List Str} {XP:(Str->Option Value)->Heap->Prop} {YP:World->Heap->Prop} {d:DefRec} {K:Params->W.Frag} {CX:World->CXT} {sp:World->Sp} {x:Str}
  (hn:l.most=some n) (hn2:n<=sizeLine) (hdf:d.params.defaults=[]) (hr:Room k callerA)
  (hY:∀ (w:World) (h:Heap),YP w h->(K w.params).In h)
  (F:∀ (w:World) (mg:Str->Option Value) (fa:Addr) (h:Heap),(K w.params).In h->h.Ns mainGlobals mg->mg d.name=some (.ref fa) ->
   ∃ fd:FuncData,(∀ (s:Shared) (u:Value),BindsTo s fd ⟨[u],[]⟩ [(x,u)]) /\
    ∀ base:Heap,(K w.params).In base->base.Ns mainGlobals mg->FnOk l.prog w (K w.params) mg base (CX w) k fa fd [x] (sp w))
  (hsp:∀ (w:World) (H:Hp) (a:Addr) (ns:List Int),ns.length<=n->Only H->SqL (K w.params) H a (ns.map V.int)->sp w [.ref a] H (fun v j=>v=.bl true) fun j j j=>False)
  (hCX:∀ (w:World) (H:Hp) (s:Shared) (e:Value) (s':Shared),CX w [] H s (fun j j j=>False) e s'->False) :
  PySem.W.WalkO q loose XP YP l.row.toRowW d [] (fun f vs=>PySem.call f vs):=by
 refine Att.attach_call hn hdf fun w s₀ s₁ mg mb fa o pm cd doc a vs ns G Y ho hd hcd hmg hobj hints hlen hg=>?_
 have KX:=hY w _ Y
 obtain ⟨fd,hb,hF⟩:=F w mg fa _ KX G.T.g hmg
 exact ZlY KX G.T.g G.T.b G.T.builtins G.T.nolimit hg hobj hints (aR hlen hn2) hr hF hb (fun H hO hS=>hsp w H a ns hlen hO hS) fun H e s'=>hCX w H s₁ e s'
end L2
/- THE LAST THEOREM (shape; LID, My.* are yours):
   My.Adr: a structure of the addresses that your layer names (classes,functions);My.Txt K t: a structure (Prop) of the equations over K;
   My.txt_mk : {K} {implicit addresses ..} (e1 : nsIn K mainGlobals "law" = some (some (.ref f))) (e2 : K.lookup f = some ⟨oc, od, .func (fnOf "law" "law" params body scope dV kV doc pm an cdv ct), sl⟩) (e3 : codeIn K cdv "law" = true) .. : ∃ t, My.Txt K t
set_option maxHeartbeats 0 in
theorem PySem.Challenge.cw_LID_holds : PySem.Challenge.rw_LID.Holds := by
 w_on;o_law;k_head;(case hw=>w_witness2)
 k_fill
 refine L2.qI (l:=PySem.Challenge.rw_LID) (n:=63) (k:=40) (x:="script") (CX:=fun w=>..) (sp:=fun j=>My.sp_law) rfl (by decide) rfl ⟨rfl,by decide,by decide⟩ (fun w h Y=>PySem.W.kIn_of Y) ?F ?S ?C
 case F =>
  intro w mg fa h KX G hmg
  have T:∃ t,My.Txt (L2.KOf KX) t:=by
   dsimp only [L2.KOf]                          -- K must stand as «<heap const> w.params» for k_is
   refine' My.txt_mk ?e1 ?e2 ?e3 ..
   (case e1=>PySem.W.k_is)                    -- in the order: a name -> its address -> its object -> its parts
   (case e2=>PySem.W.k_is)
   ..
  obtain ⟨t,T⟩:=T
  have e0:=hmg.symm.trans (PySem.W.mg_of KX G T.law)
  cases e0                                       -- fa is the law's own address
  exact ⟨_,fun s u=>.of_eq rfl,fun base kb nb=>My.qe T kb nb⟩     -- if «.of_eq rfl» comes too early: refine' ⟨_,?b,fun base kb nb=>My.qe T kb nb⟩;exact fun s u=>.of_eq rfl
 case S=>exact fun w H a ns hl hO hS=>..
 case C=>exact ..
(the tactic k_is has no namespace: write k_is) -/
namespace L2
open PySem PySem.Spec PyProof.Rows
def eO (s:Stmt):Arguments:=match s with
 | .FunctionDef _ a _ _ _ _ _ _ _ _=>a
 | _=>{ posonlyargs:=[],args:=[],vararg:=none,kwonlyargs:=[],kw_defaults:=[],kwarg:=none,defaults:=[] }
def cH (s:Stmt):List Stmt:=match s with
 | .FunctionDef _ _ b _ _ _ _ _ _ _=>b
 | _=>[]
def aD (s:Stmt):Scope:=match s with
 | .FunctionDef _ _ _ _ _ _ sc _ _ _=>sc
 | _=>{ kind:=.function,names:=[],isGenerator:=false,isCoroutine:=false }
abbrev CX0:CXT:=fun j j j j j j=>False
abbrev E0:XK:=fun j j j=>False
theorem pass0 {X:Cx}:nY CX0 X E0:=fun j j j j j j j h=>h.elim
structure Fun (K:W.Frag) (x qual:Str) (st:Stmt) (f:Addr) (fd:FuncData):Prop where
 ex:∃ (oc:Value) (od:Option Addr) (kV doc pm:Value) (an:Option Addr) (cdv ct:Value) (osl:Array (Option Value)),
  fd=PySem.W.fnOf x qual (eO st) (cH st) (aD st) .none kV doc pm an cdv ct/\K.lookup f=some ⟨oc,od,.func fd,osl⟩/\PySem.W.codeIn K cdv qual=true
 kp:PySem.W.keepIn K (.ref f)=true
section
variable {P:Program} {w:World} {K:W.Frag} {mg:Str->Option Value} {base:Heap}
theorem Fun.ok {x qual:Str} {st:Stmt} {f:Addr} {fd:FuncData} {N ps:List Str} {k:Nat} {sp:Sp} (F:Fun K x qual st f fd) (S:FnScope N ps (aD st)) (len:∀ vs H Q E,sp vs H Q E->vs.length=ps.length)
  (hbody:∀ (cdv:Value) (A:Around) (outer:List Env) (s:Shared) (H:Hp) (vs:List V) (Q:VK) (E:XK),Room k (A.deeper (envOfC qual (aD st) s.heap.objs.size f cdv))->sp vs H Q E ->
   ∃ t,PSs (cxOf CX0 P w K mg base N qual (aD st) f cdv A outer s H E).nox (cH st) t/\t { nx:=fun j H'=>Q .non H',rt:=Q } (start N vs) H):FnOk P w K mg base CX0 (k+1) f fd ps sp:=by
 obtain ⟨oc,od,kV,doc,pm,an,cdv,ct,osl,rfl,lk,hcd⟩:=F.ex
 refine fn_of lk hcd S len fun A outer s H vs Q E hr hsp=>?_
 obtain ⟨t,h,q⟩:=hbody cdv A outer s H vs Q E hr hsp
 exact ⟨t,h.nox,q⟩
theorem Fun.binds {x qual:Str} {st:Stmt} {f:Addr} {fd:FuncData} {ps:List Str} (F:Fun K x qual st f fd)
  (h:∀ (kV doc pm:Value) (an:Option Addr) (cdv ct:Value) (us:List Value),us.length=ps.length->bindArgs (PySem.W.fnOf x qual (eO st) (cH st) (aD st) .none kV doc pm an cdv ct) ⟨us,[]⟩=pure (ps.zip us)):Binds K fd ps []:=by
 obtain ⟨oc,od,kV,doc,pm,an,cdv,ct,osl,rfl,lk,hcd⟩:=F.ex
 exact .all (h kV doc pm an cdv ct)
theorem dA {x qual:Str} {st:Stmt} {f:Addr} {oc:Value} {od an:Option Addr} {osl:Array (Option Value)} {kV doc pm cdv ct:Value} (l:K.lookup f=some ⟨oc,od,.func (PySem.W.fnOf x qual (eO st) (cH st) (aD st) .none kV doc pm an cdv ct),osl⟩)
  (c:PySem.W.codeIn K cdv qual=true) (k:PySem.W.keepIn K (.ref f)=true):Fun K x qual st f (PySem.W.fnOf x qual (eO st) (cH st) (aD st) .none kV doc pm an cdv ct):=⟨⟨oc,od,kV,doc,pm,an,cdv,ct,osl,rfl,l,c⟩,k⟩
end
theorem iG {A:Around} {k:Nat} (hr:Room k A):A.units+1 < cLine:=ia (jr (by decide:1<=64) _) hr.units
section
variable {X:Cx}
theorem pv (i:Nat) {x:Str} {pos:Pos} (hN:X.N[i]?=some x:=by rfl) (hv:Vis X.env.scope x:=by first|exact Or.inl rfl|exact Or.inr (Or.inl rfl)|exact Or.inr (Or.inr rfl)) (hd:(x == ("__debug__":Str))=false:=by decide)
  (hcd:(x == ("__classdict__":Str))=false:=by decide):PE X (.Name x pos) (tVar i):=pe_var hN hv hd hcd
end
theorem iteF {A B:Prop} (h:B):if false=true then A else B:=by
 rw[ai bA]
 exact h
theorem iteT {A B:Prop} (h:A):if true=true then A else B:=by
 rw[ah rfl]
 exact h
theorem iteNS {c A B:Prop} [Decidable c] (hc:c) (h:B):if (!decide c)=true then A else B:=by
 rw[aX hc]
 exact iteF h
def Same (H H':Hp):Prop:=∀ b o,H b=some o->H' b=some o
theorem Same.refl (H:Hp):Same H H:=fun j j h=>h
theorem Same.trans {H H1 H2:Hp} (a:Same H H1) (b:Same H1 H2):Same H H2:=fun c o h=>b c o (a c o h)
theorem Same.free {H H':Hp} (e:Same H H') {l:Addr} (h:H' l=Option.none):H l=Option.none:=by
 cases q:H l with
 | none=>rfl
 | some o =>
  rw[e l o q] at h
  cases h
theorem Same.seq {K:W.Frag} {H H':Hp} {a:Addr} {xs:List V} (e:Same H H') (h:SqL K H a xs):SqL K H' a xs:=by
 rcases h with (h|⟨o,h⟩)|h
 .exact .inl (.inl (e _ _ h))
 .exact .inl (.inr ⟨o,e _ _ h⟩)
 .exact .inr h
section
variable {κ:Type} [DecidableEq κ]
theorem rP : ∀ {l : List κ} {k : κ}, l.Nodup -> ¬ k ∈ l -> (l ++ [k]).Nodup
  | [], k, _, _ => by simp
  | a :: r, k, h, hk => by
    obtain ⟨h1,h2⟩:=cQ.mp h
    show (a::(r++[k])).Nodup
    refine cQ.mpr ⟨fun m=>?_,rP h2 fun m=>hk (aG.mpr (Or.inr m))⟩
    rcases aI.mp m with q|q
    . exact h1 q
    . exact hk (aG.mpr (Or.inl (aU.mp q).symm))
end
end L2
end
section
namespace L2
theorem opq {p:Prop} (h:let g:Prop:=p;g):p:=h
open PySem PySem.Spec PyProof.Rows
theorem pO (env : Env) : ∀ (names : List (Str × NameKind)) (acc : List (Str × Addr)),
    (∀ y∈names,y.2=.free->∃ c,env.cells.lookup y.1=some c) ->
    ∃ cl : List (Str × Addr), (forIn names acc fun (x : Str × NameKind) (r : List (Str × Addr)) => (match x with
        | (name, kind) => if (kind == NameKind.free) = true then do
            let a <- cellOf env name
            pure (ForInStep.yield ((name,a)::r))
          else pure (ForInStep.yield r):Sem (ForInStep (List (Str×Addr)))))=(pure cl:Sem (List (Str×Addr))) /\
      (∀ x c,cl.lookup x=some c->acc.lookup x=some c\/env.cells.lookup x=some c) /\
      (∀ x,(acc.lookup x).isSome=true\/(x,NameKind.free)∈names->(cl.lookup x).isSome=true)
  | [], acc, _ => ⟨acc, by simp, fun x c h => .inl h, fun x h => h.elim id fun z => nomatch z⟩
  | (n, k) :: r, acc, h => by
    by_cases hk:k=.free
    . subst hk
      obtain ⟨c,hc⟩:=h (n,.free) bi rfl
      obtain ⟨cl,e,h1,h2⟩:=pO env r ((n,c)::acc) fun y hy=>h y (bH _ hy)
      refine ⟨cl,?_,fun x c' z=>?_,fun x z=>?_⟩
      . rw[forIn_cons]
        have q:cellOf env n=pure c:=by unfold cellOf;rw[hc]
        simp only[q,beq_self_eq_true,fR,pure_bind]
        exact e
      . rcases h1 x c' z with z | z
        . rw[kM] at z
          by_cases hx:x=n
          . subst hx
            simp at z
            subst z
            exact .inr hc
          . have hb : (x == n) = false := by simpa using hx
            rw[hb] at z
            exact .inl z
        . exact .inr z
      . refine h2 x ?_
        rw[kM]
        by_cases hx:x=n
        . subst hx
          left
          simp
        . have hb : (x == n) = false := by simpa using hx
          rw[hb]
          rcases z with z|z
          . exact .inl z
          . rcases aG.mp z with z | z
            . cases z
              exact absurd rfl hx
            . exact .inr z
    . obtain ⟨cl, e, h1, h2⟩ := pO env r acc fun y hy => h y (bH _ hy)
      refine ⟨cl,?_,h1,fun x z=>h2 x ?_⟩
      . rw[forIn_cons]
        have hb:(k == NameKind.free)=false:=by simpa using hk
        simp only[hb,cu,bY,pure_bind]
        exact e
      . rcases z with z | z
        . exact .inl z
        . rcases aG.mp z with z | z
          . cases z
            exact absurd rfl hk
          . exact .inr z
theorem tY {scope:Scope} {env:Env} (h:∀ y∈scope.names,y.2=.free->∃ c,env.cells.lookup y.1=some c) :
  ∃ cl,closureFor scope env=pure cl/\(∀ x c,cl.lookup x=some c->env.cells.lookup x=some c)/\∀ x,(x,NameKind.free)∈scope.names->∃ c,cl.lookup x=some c:=by
 obtain ⟨cl,e,h1,h2⟩:=pO env scope.names [] h
 refine ⟨cl,?_,fun x c z=>(h1 x c z).elim (fun q=>by simp at q) id,fun x z=>kC.mp (h2 x (.inr z))⟩
 unfold closureFor
 dsimp only
 rw[e]
 rfl
structure BkScope (N:List Str) (sc osc:Scope) (LN FN:List Str) (fr:List Nat):Prop where
 kind:sc.kind=.function
 nocell:∀ y∈sc.names,y.2≠.cell
 names:∀ x∈sc.names,x.2=.local->sc.names.lookup x.1=some .local
 free:∀ y∈sc.names,y.2=.free->osc.names.lookup y.1=some .cell\/osc.names.lookup y.1=some .free
 fnk:∀ x∈FN,osc.names.lookup x=some .cell\/osc.names.lookup x=some .free
 fnf:∀ x∈FN,sc.names.lookup x=some .free
 at':FN.map some=fr.map fun j=>N[j]?
theorem BkScope.place {N:List Str} {sc osc:Scope} {LN FN:List Str} {fr:List Nat} (S:BkScope N sc osc LN FN fr) {k:Nat} {x:Str} (e:FN[k]?=some x):∃ j:Nat,fr[k]?=some j/\N[j]?=some x:=by
 have h:=congrArg (fun l=>l[k]?) S.at'
 simp only[aq,e,qu] at h
 cases q:fr[k]? with
 | none=>rw[q] at h;cases h
 | some j =>
  rw[q] at h
  exact ⟨j,rfl,(Option.some.inj h).symm⟩
theorem BkScope.frl {N:List Str} {sc osc:Scope} {LN FN:List Str} {fr:List Nat} (S:BkScope N sc osc LN FN fr):fr.length=FN.length:=by
 have h:=congrArg List.length S.at'
 simpa using h.symm
def fL (LN:List Str) (fr:List Nat) (Z:St):St:=List.replicate LN.length none++fr.map fun j=>(Z[j]?).getD none
def bkCx (X:Cx) (LN FN:List Str) (sc:Scope) (cl:List (Str×Addr)) (C:Addr) (fp:List Addr) (pins:List (Addr×Obj)) (s:Shared) (H:Hp):Cx :=
 { X with N:=LN++FN,s₀:=s,H₀:=H,env:=compEnvC sc cl C X.env,outer:=X.stack,ex:=fp,fn:=fun j=>false,pn:=X.pn++pins,xe:=fun j j=>False }
theorem oo {env : Env} : ∀ {names : List (Str × NameKind)} {x : Str} {k : NameKind},
    (names.map fun (n,k)=>if (k == NameKind.free && env.scope.kind == .function && env.kindOf n == some .cell) then (n,NameKind.cell) else (n,k)).lookup x=some k ->
    names.lookup x=some k\/(names.lookup x=some .free/\k=.cell)
  | [], _, _, h => by simp at h
  | (n, j) :: r, x, k, h => by
    have ih:=@oo env r x k
    have h:List.lookup x ((if (j == NameKind.free && env.scope.kind == .function && env.kindOf n == some .cell)=true then (n,NameKind.cell) else (n,j))::_)=some k:=h
    rw[kM]
    by_cases hc:(j == NameKind.free && env.scope.kind == .function && env.kindOf n == some .cell)=true
    . rw[ah hc, kM] at h
      cases hx:x == n with
      | true =>
        rw[hx] at h
        simp only[gC,beq_iff_eq] at hc
        have hk:NameKind.cell=k:=by simpa using h
        exact .inr ⟨by simp[hc.1.1],hk.symm⟩
      | false =>
        rw[hx] at h
        exact ih h
    . rw[ai hc, kM] at h
      cases hx:x == n with
      | true =>
        rw[hx] at h
        exact .inl h
      | false =>
        rw[hx] at h
        exact ih h
theorem Zmo {X:Cx} {pins:List (Addr×Obj)} {Z:St} {H:Hp} {s:Shared} {LN FN:List Str} {fr:List Nat} {sc:Scope} {cl:List (Str×Addr)} {C:Addr} {fp:List Addr} {h':Heap} {tk:Nat} {m:Str->Option Value}
  (I:Inv X pins Z H s) (S:BkScope X.N sc X.env.scope LN FN fr) (hf:∀ b∈fp,FpOk X pins H b) (hfs:∀ b∈fp,∃ o,s.heap.get? b=some o)
  (h1:∀ x c,cl.lookup x=some c->X.env.cells.lookup x=some c) (h2:∀ x,(x,NameKind.free)∈sc.names->∃ c,cl.lookup x=some c)
  (hC:s.heap.objs.size<=C) (hk:∀ b o,s.heap.get? b=some o->h'.get? b=some o) (hn:h'.Ns C m) :
  Inv (bkCx X LN FN sc cl C fp pins s H) [] (fL LN fr Z) H { s with heap:=h',toks:=tk }:=by
 have hsub:∀ b,b∉X.fs->b≠X.env.locals->b∉frs X.stack:=fun b n1 n2 z=>(aG.mp (I.stkSub b z)).elim n2 n1
 have hlk:∀ x k,(relabel sc X.env).names.lookup x=some k->(k=.cell\/k=.free)->sc.names.lookup x=some .free:=fun x k e hk=>by
  rcases oo e with q|⟨q,w⟩
  .rcases hk with rfl|rfl
   .exact absurd rfl (S.nocell _ (PySem.mem_of_lookup q))
   .exact q
  .exact q
 refine ⟨⟨I.ok.mod,?_,I.ok.glob,I.ok.blt,hC,fun x y c e1 e2=>I.ok.inj x y c (h1 x c e1) (h1 y c e2),fun x hx=>?_,(fun x c z=>absurd z (by intro z;cases z)),I.ok.hd,I.ok.frames,.inl rfl,fun b hb=>⟨?_,fun x c e z=>?_⟩,I.bs,aR I.ok.bsz I.sz,fun b o e hb=>?_,fun b hb=>?_,I.stack,I.stkFree⟩,
  rfl,I.bare,Un.kept hk,⟨m,hn,fun i x v e1 e2 e3=>?_⟩,fun x c e=>?_,?_,fun x c e=>I.freeC x c (h1 x c e),fun p hp=>?_,I.hok.kept hk,?_⟩
 .exact S.kind
 .have hx:(relabel sc X.env).names.lookup x=some .cell\/(relabel sc X.env).names.lookup x=some .free:=hx
  rcases hx with hx|hx
  .exact h2 x (PySem.mem_of_lookup (hlk x _ hx (.inl rfl)))
  .exact h2 x (PySem.mem_of_lookup (hlk x _ hx (.inr rfl)))
 .obtain ⟨o,e⟩:=hfs b hb
  exact bK (cq (aV e) hC)
 .exact (hf b hb).2.2.2.2.1 x c (h1 x c e) z
 .obtain ⟨w,w,w,h3,w⟩:=hf b hb
  rcases h3 with z|z
  .exact I.ok.noex b o e z
  .exact absurd (cq (aV (I.ok.bs b o e).1) z) (fQ _)
 .obtain ⟨w,n1,n2,w⟩:=hf b hb
  exact hsub b n2 n1
 .-- the free names' values
  have hi:LN.length<=i:=by
   refine Nat.le_of_not_lt fun hlt=>?_
   unfold fL at e2
   rw[cL (by simpa using hlt),kE] at e2
   split at e2 <;> cases e2
  have e1:FN[i - LN.length]?=some x:=by
   have e1:(LN++FN)[i]?=some x:=e1
   rwa [hW hi] at e1
  obtain ⟨j,ej,hj⟩:=S.place e1
  have e2:(Z[j]?).getD none=some v:=by
   unfold fL at e2
   rw[hW (by simpa using hi),hX,aq,ej] at e2
   simpa using e2
  have e2:Z[j]?=some (some v):=by
   cases q:Z[j]? with
   | none=>rw[q] at e2;cases e2
   | some z =>
    rw[q] at e2
    exact congrArg some e2
  have hkx:=S.fnk x (aE e1)
  obtain ⟨m0,hm0,hl⟩:=I.loc
  have hv:Vis X.env.scope x:=hkx.elim (fun z=>.inr (.inl z)) fun z=>.inr (.inr z)
  obtain ⟨u,r,l⟩:=hl j x v hj e2 hv
  refine ⟨u,r,?_⟩
  rcases l with ⟨k1,w⟩|⟨w,c,ec,z⟩
  .have k1:X.env.scope.names.lookup x=some .local:=k1
   rcases hkx with q|q <;> rw[q] at k1 <;> cases k1
  .have e3:Vis (relabel sc X.env) x:=e3
   rcases e3 with q|q|q
   .-- a block's own name is none of the free ones,unless it shadows: then the kinds say local
    rcases oo q with q'|⟨w,q'⟩
    .rw[S.fnf x (aE e1)] at q'
     cases q'
    .cases q'
   .obtain ⟨c',ec'⟩:=h2 x (PySem.mem_of_lookup (hlk x _ q (.inl rfl)))
    have:=h1 x c' ec'
    rw[ec] at this;cases this
    exact .inr ⟨.inl q,c,ec',by obtain ⟨o,ho,hd⟩:=z;exact ⟨o,hk _ _ ho,hd⟩⟩
   .obtain ⟨c',ec'⟩:=h2 x (PySem.mem_of_lookup (hlk x _ q (.inr rfl)))
    have:=h1 x c' ec'
    rw[ec] at this;cases this
    exact .inr ⟨.inr q,c,ec',by obtain ⟨o,ho,hd⟩:=z;exact ⟨o,hk _ _ ho,hd⟩⟩
 .obtain ⟨v,o,ho,hd⟩:=I.cell x c (h1 x c e)
  exact ⟨v,o,hk _ _ ho,hd⟩
 .exact I.hok.fresh hC
 .have hp:p∈(X.pn++pins)++[]:=hp
  rw[gy] at hp
  obtain ⟨e,n,ne,nf,d⟩:=I.pin p hp
  exact ⟨hk _ _ e,n,bK (cq (aV e) hC),hsub _ nf ne,d⟩
 .unfold fL
  show _=(LN++FN).length
  simp[S.frl]
end L2
end
section
namespace L2
open PySem PySem.Spec PyProof.Rows
def PTs (X:Cx) (ifs:List Expr) (t:TT):Prop :=
 ∀ (pins:List (Addr×Obj)) (s:Shared) (Z:St) (H:Hp) (Q:Bool->Hp->Prop),Inv X pins Z H s->t Z H Q ->
  wpAny (model X.prog X.w) X.A (forIn ifs true fun c r=>if r=true then do let ok <- isTrue c X.env (eval c X.env);pure (ForInStep.yield ok) else pure (ForInStep.yield r)) (TP X pins Z Q) X.xe s
def gN:TT:=fun j H Q=>Q true H
theorem dh {X:Cx}:PTs X [] gN:=fun j j j H j I h=>wpAny_tests_nil ⟨H,I,h⟩
theorem qZ {X:Cx} {c:Expr} {t:TT} (h:PT X c t):PTs X [c] t:=fun pins s Z H Q I q=>wpAny_tests_one (h pins s Z H Q I q)
theorem Un.track {fs ex:List Addr} {H H1:Hp} {h h1:Heap} {a:Addr} {o:HO} (u:Un fs ex H H1 h h1) (hp:h.objs.size<=a) (hn:H a=none):Un fs ex H (upd H1 a o) h h1 where
 keep:=u.keep
 slot:=u.slot
 free:=fun b ob q n hx=>by
  rw[bh (bK (cq (aV q) hp))]
  exact u.free b ob q n hx
 there:=u.there
 tups:=fun b xs q=>by
  rw[bh (fun z=>by rw[z,hn] at q;cases q)]
  exact u.tups b xs q
 frzs:=fun b ob x q=>by
  rw[bh (fun z=>by rw[z,hn] at q;cases q)]
  exact u.frzs b ob x q
 tbls:=fun b ps q=>by
  rw[bh (fun z=>by rw[z,hn] at q;cases q)]
  exact u.tbls b ps q
theorem HOk.track {P:Program} {w:World} {H:Hp} {h:Heap} {a:Addr} {o:HO} (x:HOk P w H h) (hn:H a=none) (new:ObjOk P w (upd H a o) h a o):HOk P w (upd H a o) h:=fun b u e=>by
 by_cases hb:b=a
 .subst hb
  rw[bC] at e
  cases e
  exact new
 .rw[bh hb] at e
  refine (x b u e).stay (fun j j j q=>q) (fun c q=>?_) fun c xs q=>?_
  .rw[bh (fun z=>by rw[z,hn] at q;cases q)]
   exact q
  .rw[bh (fun z=>by rw[z,hn] at q;cases q)]
   exact q
theorem Zjv {EB:Value->Shared->Prop} {prog:Program} {w:World} {A:Around} {R:Result->Shared->Prop} {s:Shared} {elt target iter:Expr} {ifs:List Expr} {scope:Scope} {pos:Pos} {it acc:Value} {env:Env} (I:Nat->Shared->Prop)
  (turn:∀ n s,I n s->wpAny (model prog w) A (pyNext it) (fun r s₁=>match r with
   | none=>R (.ok .next) s₁
   | some v=>wpAny (model prog w) A (letOwnedTupleGo target it v) (fun j s₁'=>wpAny (model prog w) A (assign target env v) (fun j s₂ =>
     wpAny (model prog w) A (forIn ifs true fun c r=>if r=true then do let ok <- isTrue c env (eval c env);pure (ForInStep.yield ok) else pure (ForInStep.yield r)) (fun ok s₃ =>
      if ok=true then wpAny (model prog w) A (eval elt env) (fun x s₄ =>
       wpAny (model prog w) A (call (.builtin "list.append") [acc,x]) (fun j s₅=>∃ m,m < n/\I m s₅) (fun j j=>False) s₄) EB s₃
      else ∃ m,m < n/\I m s₃) (fun j j=>False) s₂) (fun j j=>False) s₁') (fun j j=>False) s₁) (fun j j=>False) s)
  (hEB:∀ e s',EB e s'->notedBy (model prog w) A env (fun e s'=>R (.error e) s') e s') (n:Nat) (h:I n s) :
  codeAny (model prog w) A (.compLoop (.ListComp elt [⟨target,iter,ifs,0⟩] scope pos) 0 it acc env) R s:=by
 refine codeAny_loop rfl I (fun n s hI=>?_) n h
 show wpAny _ A ((compTurn (.ListComp elt [⟨target,iter,ifs,0⟩] scope pos) 0 it acc env).onRaise (fun x=>do noteFrame x env;theTreesLotGoes x)) _ _ s
 refine wpAny_noted ?_
 rw[compTurn_list]
 refine ae (nq (ae (cD (turn n s hI) (fun r s₁ h₁=>?_) fun j j h'=>h'.elim)))
 cases r with
 | none=>exact am h₁
 | some v =>
  refine ae (cD h₁ (fun j s₁' h₁'=>?_) fun j j h'=>h'.elim)
  refine ae (cD h₁' (fun j s₂ h₂=>ae (cD h₂ (fun ok s₃ h₃=>?_) fun j j h'=>h'.elim)) fun j j h'=>h'.elim)
  cases ok with
  | false=>exact am ⟨rfl,h₃⟩
  | true =>
   exact ae (ae (cD h₃ (fun x s₄ h₄=>ae (cD h₄ (fun j s₅ h₅=>am (am ⟨rfl,h₅⟩)) fun j j h'=>h'.elim)) fun e s' h'=>hEB e s' h'))
def qG (X:Cx) (C:Addr) (e:Value) (s':Shared):Prop:=∃ m,s'.heap.Ns C m/\∀ h',Heap.SameBut C s'.heap h'->∀ cenv:Env,cenv.locals=C->wpAny (model X.prog X.w) X.A (PySem.passOn "comprehension.variables-let-go" e cenv:Sem Value) (fun j j=>False) X.xe { s' with heap:=h' }
def bkXe (X:Cx) (sc:Scope) (cl:List (Str×Addr)) (C:Addr):Value->Shared->Prop:=notedBy (model X.prog X.w) X.A (compEnvC sc cl C X.env) (qG X C)
def BkIn (X:Cx) (C:Addr) (fp:List Addr) (pins:List (Addr×Obj)) (s:Shared) (H:Hp):Prop:=(∃ Z,Inv X pins Z H s)/\(∀ b∈fp,FpOk X pins H b)/\s.heap.objs.size<=C
def bkX (X:Cx) (LN FN:List Str) (sc:Scope) (cl:List (Str×Addr)) (C:Addr) (fp:List Addr) (pins:List (Addr×Obj)) (s:Shared) (H:Hp):Cx:=(bkCx X LN FN sc cl C fp pins s H).wish (bkXe X sc cl C)
section
variable {X:Cx} {tg elt iter:Expr} {ifs:List Expr} {sc:Scope} {pos:Pos} {LN FN:List Str} {fr:List Nat} {wi:TI} {g:TG} {tt:TT} {te:TE}
def CW (J:It) (g:TG) (tt:TT) (te:TE) (W:Nat->Nat->List V->St->Hp->Prop) (Q:VK):Prop :=
 ∀ i m ys Z H,W i m ys Z H ->
  (J.stop i H/\ys.length<=sizeLine/\∀ p,H p=none->Q (.ref p) (upd H p (.lst ys))) \/
  (J.go i H/\∃ N:List V->St->Hp->Prop,(∀ ys' σ' H',N ys' σ' H'->∃ m',m' < m/\W (i+1) m' ys' σ' H') /\
   ∀ x H2,J.yld i H x H2->g x Z H2 fun σ2 H3=>tt σ2 H3 fun ok H4=>if ok=true then te σ2 H4 fun y H5=>ys.length < sizeLine/\N (ys++[y]) σ2 H5 else N ys σ2 H4)
def ff (LN:List Str) (fr:List Nat) (wi:TI) (g:TG) (tt:TT) (te:TE):TE:=fun Z H Q=>wi Z H fun J H1 =>
 ∃ W:Nat->Nat->List V->St->Hp->Prop,(∃ m,W 0 m [] (fL LN fr Z) H1)/\CW J g tt te W Q
theorem rM {pins:List (Addr×Obj)} {Z:St} {H2:Hp} {s2:Shared} {it:Addr} {fp:List Addr} {tn:Nat->Heap->Prop} {J:It} {cl:List (Str×Addr)} {W:Nat->Nat->List V->St->Hp->Prop} {Q:VK} {m0:Nat}
  {R:Value->Addr->Result->Shared->Prop} {E:Value->Shared->Prop}
  (hc:X.calm=true) (S:BkScope X.N sc X.env.scope LN FN fr)
  (hg:∀ cl C fp pins s H,PG (bkCx X LN FN sc cl C fp pins s H) tg g) (ht:∀ cl C fp pins s H,PTs (bkCx X LN FN sc cl C fp pins s H) ifs tt) (he:∀ cl C fp pins s H,BkIn X C fp pins s H->PE (bkX X LN FN sc cl C fp pins s H) elt te)
  (h1:∀ x c,cl.lookup x=some c->X.env.cells.lookup x=some c) (h2:∀ x,(x,NameKind.free)∈sc.names->∃ c,cl.lookup x=some c)
  (I2:Inv X pins Z H2 s2) (T:Turn X.prog X.w X.K tg J fp it tn) (st2:tn 0 s2.heap) (f2:∀ b∈fp,FpOk X pins H2 b) (w0:W 0 m0 [] (fL LN fr Z) H2) (turn:CW J g tt te W Q)
  (hR:∀ D C s' H' ys m,s'.heap.Ns C m->Inv X pins Z (upd H' D (.lst ys)) s'->FpOk X pins (upd H' D (.lst ys)) C->Q (.ref D) (upd H' D (.lst ys))->R (.ref D) C (.ok .next) s') (hRE:∀ D C e s',qG X C e s'->R (.ref D) C (.error e) s') :
  wpAny (model X.prog X.w) X.A (newList []) (fun acc s₃=>wpAny (model X.prog X.w) X.A (newFunctionEnv sc X.env.globals cl [] X.env.qual none .none (some X.env)) (fun cenv s₄ =>
   codeAny (model X.prog X.w) X.A (.compStart (.ListComp elt [⟨tg,iter,ifs,0⟩] sc pos) 0 (.ref it) acc { cenv with scope:=relabel sc X.env }) (R acc cenv.locals) s₄) E s₃) E s2:=by
 refine dN (wpAny_newFunctionEnv S.nocell (by intro y hy;simp at hy) (fun h₁ hns hsb=>?_) S.kind)
 dsimp only at hns hsb ⊢
 generalize hH2:s2.heap.push { cls:=.type "list",dict:=none,data:=.seq ([]:List Value).toArray }=G at hns hsb ⊢
 have hC:G.objs.size=s2.heap.objs.size+1:=by rw[<-hH2,qv]
 have hDC:s2.heap.objs.size≠G.objs.size:=by rw[hC];exact bK (Nat.lt_succ_self _)
 have hCle:s2.heap.objs.size<=G.objs.size:=by rw[hC];exact Nat.le_succ _
 have old:∀ b o,s2.heap.get? b=some o->h₁.get? b=some o:=fun b o e =>
  hsb.extBut b o (by rw[hC];exact bK (qw (aV e))) (bt _ (hH2▸bt _ e))
 have hacc:h₁.PlainList s2.heap.objs.size #[]:=⟨_,hsb.extBut _ _ hDC (bt _ (hH2▸ck _ rfl))⟩
 have hfs:∀ b∈fp,∃ o,s2.heap.get? b=some o:=fun b hb=>let ⟨o,e,_⟩:=T.obj 0 _ st2 b hb;⟨o,e⟩
 have hflt:∀ b∈fp,b < s2.heap.objs.size:=fun b hb=>let ⟨o,e⟩:=hfs b hb;aV e
 generalize hD:s2.heap.objs.size=D at *
 generalize hCC:G.objs.size=C at *
 have I0:=Zmo (LN:=LN) (cl:=cl) (C:=C) (tk:=s2.toks+([]:List (Str×Value)).length) I2 S f2 hfs h1 h2 (by rw[hD];exact hCle) old hns
 have hin:BkIn X C fp pins s2 H2:=⟨⟨Z,I2⟩,f2,by rw[hD];exact hCle⟩
 have fD:FpOk X pins H2 D:=I2.fpOk (gD hD) (I2.hok.fresh (gD hD))
 have stD:∀ {pl:List (Addr×Obj)} {H':Hp},H' D=none->(∀ p∈pl,p.1≠D)->FpOk (bkCx X LN FN sc cl C fp pins s2 H2) pl H' D:=fun {pl H'} hn hp=>by
  refine ⟨hn,hDC,fun z=>?_,.inr (gD hD),fun x c e=>fD.2.2.2.2.1 x c (h1 x c e),fun p hp'=>?_⟩
  .exact (aG.mp (I2.stkSub D z)).elim fD.2.1 fD.2.2.1
  .have hp':p∈(X.pn++pins)++pl:=hp'
   rcases aI.mp hp' with q|q
   .exact fD.2.2.2.2.2 p q
   .exact hp p q
 have stat:∀ {pl:List (Addr×Obj)} {H':Hp},(∀ b∈fp,H' b=none)->(∀ p∈pl,p.1=D)->∀ b∈fp,FpOk (bkCx X LN FN sc cl C fp pins s2 H2) pl H' b:=fun {pl H'} hn hp b hb=>by
  obtain ⟨j,n1,n2,n3,n4,n5⟩:=f2 b hb
  refine ⟨hn b hb,bK (cq (hflt b hb) hCle),fun z=>?_,.inl hb,fun x c e=>n4 x c (h1 x c e),fun p hp'=>?_⟩
  .exact (aG.mp (I2.stkSub b z)).elim n1 n2
  .have hp':p∈(X.pn++pins)++pl:=hp'
   rcases aI.mp hp' with q|q
   .exact n5 p q
   .rw[hp p q]
    exact eS (hflt b hb)
 have pinD:∀ {s':Shared},∀ p∈cS [D] s'.heap,p.1=D:=fun p hp=>by simpa using (qW hp).1
 have key:∀ s₄:Shared,s₄={ s2 with heap:=h₁,toks:=s2.toks+([]:List (Str×Value)).length } ->
   codeAny (model X.prog X.w) X.A (.compLoop (.ListComp elt [⟨tg,iter,ifs,0⟩] sc pos) 0 (.ref it) (.ref D) (compEnvC sc cl C X.env)) (R (.ref D) C) s₄:=by
  rintro s₄ rfl
  refine Zjv (EB:=bkXe X sc cl C) (fun n s'=>∃ i ys σ' H' its,Inv (bkCx X LN FN sc cl C fp pins s2 H2) [] σ' H' s'/\tn i s'.heap/\(∀ b∈fp,H' b=none)/\W i n ys σ' H'/\Vals ys its/\s'.heap.PlainList D its.toArray/\H' D=none) ?_ (fun e s' h'=>cD h' (fun j s'' q=>hRE D C e s'' q) fun e' s'' q=>hRE D C e' s'' q) m0
   ⟨0,[],_,H2,[],I0,T.keep _ _ _ st2 (fun b j o e=>old b o e),fun b hb=>(f2 b hb).1,w0,.nil,hacc,fD.1⟩
  rintro n s3 hh
  refine opq ?_
  intro gg
  obtain ⟨i,ys,σ3,H3,its,I3,st3,fr3,w3,rv,pl,nD⟩:=hh
  have plo:∃ o,s3.heap.get? D=some o/\∀ v,o.data≠.cell v:=by
   obtain ⟨k,e⟩:=pl
   exact ⟨_,e,fun v z=>by cases z⟩
  have I3':Inv (bkCx X LN FN sc cl C fp pins s2 H2) ([]++cS [D] s3.heap) σ3 H3 s3:=I3.pinned (fp:=[D]) (fun b hb=>by
   obtain rfl:b=D:=by simpa using hb
   exact stD nD (fun j z=>nomatch z)) (fun b hb=>by
   obtain rfl:b=D:=by simpa using hb
   exact plo)
  have I3':Inv (bkCx X LN FN sc cl C fp pins s2 H2) (cS [D] s3.heap) σ3 H3 s3:=I3'
  have keepD:∀ {pl':List (Addr×Obj)} {σ':St} {H':Hp} {s':Shared},Inv (bkCx X LN FN sc cl C fp pins s2 H2) (cS [D] s3.heap++pl') σ' H' s'->s'.heap.PlainList D its.toArray/\H' D=none:=fun {pl' σ' H' s'} J=>by
   obtain ⟨k,e⟩:=pl
   have:=J.pin (D,_) (cP _ (cU _ (kw (by simp) e)))
   exact ⟨⟨k,this.1⟩,this.2.1⟩
  have keepD0:∀ {σ':St} {H':Hp} {s':Shared},Inv (bkCx X LN FN sc cl C fp pins s2 H2) (cS [D] s3.heap) σ' H' s'->s'.heap.PlainList D its.toArray/\H' D=none:=fun {σ' H' s'} J=>by
   refine keepD (pl':=[]) (σ':=σ') ?_
   rw[gy]
   exact J
  rcases turn i n ys σ3 H3 w3 with ⟨stop,hlen,q⟩|⟨go,N,hN,step⟩
  .refine thn (T.done (bkCx X LN FN sc cl C fp pins s2 H2) rfl rfl rfl hc i (cS [D] s3.heap) s3 σ3 H3 _ I3' (stat fr3 (fun p hp=>pinD (s':=s3) p hp)) st3 stop) fun r s4 hh1=>?_
   refine opq ?_
   intro gg1
   obtain ⟨hr,I4⟩:=hh1
   subst hr
   obtain ⟨pl4,n4⟩:=keepD0 I4
   have u4:Un (frs X.stack) fp H2 (upd H3 D (.lst ys)) s2.heap s4.heap:=Un.track I4.base (gD hD) fD.1
   have nC:H3 C=none:=I4.free
   have o4:HOk X.prog X.w (upd H3 D (.lst ys)) s4.heap:=HOk.track I4.hok n4 (by
    obtain ⟨k,e⟩:=pl4
    exact ⟨hlen,its,k,rv,e⟩)
   have J:Inv X pins Z (upd H3 D (.lst ys)) s4:=I2.call' (s':=s4) (ch:=fp) I4.os u4 o4 I4.bare fun b hb=>by
    obtain ⟨j,n1,n2,n3,n4,n5⟩:=f2 b hb
    exact ⟨n3,n1,n4,n5⟩
   obtain ⟨m,hm,j⟩:=I4.loc
   exact hR D C s4 H3 ys m hm J (I2.fpOk (by rw[hD];exact hCle) (by rw[bh (Ne.symm hDC)];exact nC)) (q D n4)
  .refine thn (T.item (bkCx X LN FN sc cl C fp pins s2 H2) rfl rfl rfl hc i (cS [D] s3.heap) s3 σ3 H3 _ I3' (stat fr3 (fun p hp=>pinD (s':=s3) p hp)) st3 go) fun r s4 hh2=>?_
   refine opq ?_
   intro gg2
   obtain ⟨u,hr,h4⟩:=hh2
   subst hr
   refine thn h4 fun j s5 hh3=>?_
   refine opq ?_
   intro gg3
   obtain ⟨x,H5,I5,r5,y5,st5,fr5⟩:=hh3
   have I5':=I5.pinned (stat fr5 (fun p hp=>pinD (s':=s3) p hp)) (T.obj _ _ st5)
   refine thn (hg cl C fp pins s2 H2 _ s5 σ3 H5 x u _ I5' r5 (step x H5 y5)) fun j s6 hh4=>?_
   refine opq ?_
   intro gg4
   obtain ⟨σ6,H6,I6,q6⟩:=hh4
   refine thn (ht cl C fp pins s2 H2 _ s6 σ6 H6 _ I6 q6) fun ok s7 hh5=>?_
   obtain ⟨H7,I7,q7⟩:=hh5
   have again:∀ {s':Shared} {H':Hp},Inv (bkCx X LN FN sc cl C fp pins s2 H2) (cS [D] s3.heap++cS fp s5.heap) σ6 H' s'->tn (i+1) s'.heap/\∀ b∈fp,H' b=none:=fun {s' H'} J=>by
    refine ⟨T.keep _ _ _ st5 fun b hb o e=>(J.pin (b,o) (cP _ (cP _ (kw hb e)))).1,fun b hb=>?_⟩
    obtain ⟨o,e,d⟩:=T.obj _ _ st5 b hb
    exact (J.pin (b,o) (cP _ (cP _ (kw hb e)))).2.1
   have bare:∀ {s':Shared} {H':Hp},Inv (bkCx X LN FN sc cl C fp pins s2 H2) (cS [D] s3.heap++cS fp s5.heap) σ6 H' s'->Inv (bkCx X LN FN sc cl C fp pins s2 H2) [] σ6 H' s':=fun J=>J.pins_of fun p hp=>nomatch hp
   cases ok with
   | false =>
    rw[ai bA] at q7 ⊢
    obtain ⟨m',hm,w7⟩:=hN ys σ6 H7 q7
    obtain ⟨pl7,n7⟩:=keepD I7
    exact ⟨m',hm,i+1,ys,σ6,H7,its,bare I7,(again I7).1,(again I7).2,w7,rv,pl7,n7⟩
   | true =>
    rw[ah rfl] at q7 ⊢
    refine cD (he cl C fp pins s2 H2 hin _ s7 σ6 H7 _ (I7.wish _) q7) (fun v s8 hz8=>?_) fun j j z=>z
    obtain ⟨y,H8,I8,r8,hl8,q8⟩:=hz8
    have I8:=I8.unwish
    obtain ⟨m',hm,w8⟩:=hN _ σ6 H8 q8
    obtain ⟨pl8,n8⟩:=keepD I8
    obtain ⟨t8,f8⟩:=again I8
    have hsz:its.toArray.size<=sizeLine:=by
     have:=rv.length
     rw[bu,<- this]
     exact ft hl8
    refine wpAny_list_append_plain pl8 (fun h' pl' sb=>?_) hsz
    refine ⟨m',hm,i+1,ys++[y],σ6,H8,its++[v],?_,?_,f8,w8,rv.append (.cons r8 .nil),?_,n8⟩
    .obtain ⟨d0,d1,d2,d3,d4,d5⟩:=stD (pl:=[]) n8 (fun j z=>nomatch z)
     exact (bare I8).turned (t':=s8.toks) (fun b o hb e=>(sb.2 b hb).trans e) d0 d1 d3 d4 d5
    .exact T.keep _ _ _ t8 fun b hb o e=>(sb.2 b (bK (hflt b hb))).trans e
    .simpa using pl'
 exact codeAny_compStart_list (key _ rfl) (T.self _ 0 _ _ _ (T.keep _ _ _ st2 fun b j o e=>old b o e) (key _ rfl))
theorem PE.any {E:Value->Shared->Prop} {e:Expr} {t:TE} (h:PE X e t) (hx:X.xe=fun j j=>False):PE (X.wish E) e t:=by
 intro pins s Z H Q I q
 refine cD (h pins s Z H Q I.unwish q) (fun v s1 h1=>?_) (fun j j z=>by rw[hx] at z;exact z.elim)
 obtain ⟨y,H1,I1,r1,q1⟩:=h1
 exact ⟨y,H1,I1.wish E,r1,q1⟩
theorem eY (hc:X.calm=true) (S:BkScope X.N sc X.env.scope LN FN fr) (hi:PI X tg iter wi)
  (hg:∀ cl C fp pins s H,PG (bkCx X LN FN sc cl C fp pins s H) tg g) (ht:∀ cl C fp pins s H,PTs (bkCx X LN FN sc cl C fp pins s H) ifs tt) (he:∀ cl C fp pins s H,PE (bkCx X LN FN sc cl C fp pins s H) elt te)
  (hs:∀ x,foldedSetIterable iter X.env x=pure x:=by intro j;rfl):PE X (.ListComp elt [⟨tg,iter,ifs,0⟩] sc pos) (ff LN fr wi g tt te):=by
 intro pins s Z H Q I h
 rw[eval_ListComp]
 obtain ⟨cl,ecl,h1,h2⟩:=tY (scope:=sc) (env:=X.env) fun y hy hk=>I.ok.has y.1 (S.free y hy hk)
 refine wpAny_comprehension_free (use:=none) rfl hs ecl S.kind S.names (thn (hi pins s Z H _ I h) fun v s1 q1=>thn q1 fun itv s2 q2=>?_)
 obtain ⟨it,fp,tn,J,H2,e,I2,T,st2,f2,W,⟨m0,w0⟩,turn⟩:=q2
 subst e
 refine rM (R:=fun acc C=>compPost (model X.prog X.w) X.A X.xe none (EP X pins Z Q) acc C) hc S hg ht (fun cl C fp pins s H j=>(he cl C fp pins s H).any rfl) h1 h2 I2 T st2 f2 w0 turn (fun D C s' H' ys m hn J fC q=>?_) (fun j j j j z=>z)
 refine ⟨m,hn,fun h' sb=>⟨.ref D,_,J.turned (t':=s'.toks) (fun b o hb e=>(sb.2 b hb).trans e) fC.1 fC.2.1 fC.2.2.2.1 fC.2.2.2.2.1 fC.2.2.2.2.2,rfl,q⟩⟩
theorem jT {i:Nat} {x:Str} {pos' pos2:Pos} (hc:X.calm=true) (hN:X.N.Nodup) (hix:X.N[i]?=some x) (hx:X.env.scope.names.lookup x=some .local) (S:BkScope X.N sc X.env.scope LN FN fr) (hi:PI X tg iter wi)
  (hg:∀ cl C fp pins s H,PG (bkCx X LN FN sc cl C fp pins s H) tg g) (ht:∀ cl C fp pins s H,PTs (bkCx X LN FN sc cl C fp pins s H) ifs tt) (he:∀ cl C fp pins s H,PE (bkCx X LN FN sc cl C fp pins s H) elt te)
  (hsw:swapsWith (.ListComp elt [⟨tg,iter,ifs,0⟩] sc pos) (some (.Name x pos')) pos2.line X.env=pure true:=by rfl)
  (hs:∀ x,foldedSetIterable iter X.env x=pure x:=by intro j;rfl):PS X (.Assign [.Name x pos'] (.ListComp elt [⟨tg,iter,ifs,0⟩] sc pos) pos2) (tAsg (ff LN fr wi g tt te) (dj i)):=by
 intro pins s Z H D0 I h
 rw[exec_Assign_Name_used _ _ _ _ hsw]
 refine ae (nq (ae ?_))
 show wpAny _ X.A (do let _ <- comprehension (.ListComp elt [⟨tg,iter,ifs,0⟩] sc pos) sc X.env _ (newList []) false (eval iter X.env) (some (assign (.Name x pos') X.env))) _ _ s
 obtain ⟨cl,ecl,h1,h2⟩:=tY (scope:=sc) (env:=X.env) fun y hy hk=>I.ok.has y.1 (S.free y hy hk)
 refine ae (cD (wpAny_comprehension_free (use:=some (assign (.Name x pos') X.env)) (Q:=fun j s'=>SP X pins D0 .next s') rfl hs ecl S.kind S.names (thn (hi pins s Z H _ I h) fun v s1 q1=>thn q1 fun itv s2 q2=>?_))
  (fun j s' hq=>am (am hq)) fun j j e=>e)
 obtain ⟨it,fp,tn,J,H2,e,I2,T,st2,f2,W,⟨m0,w0⟩,turn⟩:=q2
 subst e
 refine rM (R:=fun acc C=>compPost (model X.prog X.w) X.A X.xe (some (assign (.Name x pos') X.env)) (fun j s'=>SP X pins D0 .next s') acc C) hc S hg ht (fun cl C fp pins s H j=>(he cl C fp pins s H).any rfl) h1 h2 I2 T st2 f2 w0 turn (fun D C s' H' ys m hn J fC q=>?_) (fun j j j j z=>z)
 show wpAny _ X.A (assign (.Name x pos') X.env (.ref D)) _ _ s'
 refine wpAny_assign_Name (tf J hN hix (.inl hx) (show RelV (.ref D) (.ref D) from rfl) (fun s'' J2 ⟨a,sb2,ha⟩=>?_) (.inr hx))
 have nCa:C≠a:=by
  rcases ha with z|z
  .rw[z];exact fC.2.1
  .exact fun q=>fC.2.2.2.2.1 x a z q.symm
 refine ⟨m,hn.sameBut sb2 nCa,fun h' sb=>⟨_,_,J2.turned (t':=s''.toks) (fun b o hb e=>(sb.2 b hb).trans e) fC.1 fC.2.1 fC.2.2.2.1 fC.2.2.2.2.1 fC.2.2.2.2.2,q⟩⟩
end
inductive D where
 | non|bl (b:Bool)|int (i:Int)|str (x:Str)|tup (ds:List D)
mutual
def Rep (H:Hp):D->V->Prop
 | .non,v=>v=.non
 | .bl b,v=>v=.bl b
 | .int i,v=>v=.int i
 | .str x,v=>v=.str x
 | .tup ds,v=>∃ a xs,v=.ref a/\H a=some (.tup xs)/\Reps H ds xs
def Reps (H:Hp):List D->List V->Prop
 | [],vs=>vs=[]
 | d::ds,vs=>∃ v r,vs=v::r/\Rep H d v/\Reps H ds r
end
def pY (H H':Hp):Prop:=∀ a xs,H a=some (.tup xs)->H' a=some (.tup xs)
theorem Same.new {H:Hp} {a:Addr} {o:HO} (h:H a=none):Same H (upd H a o):=fun b u e=>by rw[bh (g9 e h)];exact e
mutual
theorem Rep.mono {H H' : Hp} (t : pY H H') : ∀ {d : D} {v : V}, Rep H d v -> Rep H' d v
  | .non, _, h => by simpa [Rep] using h
  | .bl _, _, h => by simpa [Rep] using h
  | .int _, _, h => by simpa [Rep] using h
  | .str _, _, h => by simpa [Rep] using h
  | .tup ds, v, h => by
    rw[Rep] at h ⊢
    obtain ⟨a,xs,e,ha,r⟩:=h
    exact ⟨a, xs, e, t a xs ha, Reps.mono t r⟩
theorem Reps.mono {H H' : Hp} (t : pY H H') : ∀ {ds : List D} {vs : List V}, Reps H ds vs -> Reps H' ds vs
  | [], _, h => by simpa [Reps] using h
  | d :: ds, vs, h => by
    rw[Reps] at h ⊢
    obtain ⟨v,r,e,h1,h2⟩:=h
    exact ⟨v, r, e, Rep.mono t h1, Reps.mono t h2⟩
end
theorem Znh {H:Hp} {a:Addr} {xs:List V} {ds:List D} (h:H a=some (.tup xs)) (r:Reps H ds xs):Rep H (.tup ds) (.ref a):=by rw[Rep];exact ⟨a,xs,rfl,h,r⟩
theorem jR {H:Hp}:Reps H [] []:=by rw[Reps]
theorem Zj4 {H:Hp} {d:D} {ds:List D} {v:V} {vs:List V} (h:Rep H d v) (r:Reps H ds vs):Reps H (d::ds) (v::vs):=by rw[Reps];exact ⟨v,vs,rfl,h,r⟩
theorem m7 {H:Hp} {v:V} {ds:List D} (h:Rep H (.tup ds) v):∃ a xs,v=.ref a/\H a=some (.tup xs)/\Reps H ds xs:=by rwa [Rep] at h
theorem pK {H:Hp} {vs:List V} (h:Reps H [] vs):vs=[]:=by rwa [Reps] at h
theorem gL {H:Hp} {d:D} {ds:List D} {vs:List V} (h:Reps H (d::ds) vs):∃ v r,vs=v::r/\Rep H d v/\Reps H ds r:=by rwa [Reps] at h
theorem Reps.length {H : Hp} : ∀ {ds : List D} {vs : List V}, Reps H ds vs -> ds.length = vs.length
  | [], vs, h => by rw[pK h]; rfl
  | d :: ds, vs, h => by
    obtain ⟨v,r,rfl,j,h2⟩:=gL h
    simp[Reps.length h2]
theorem Reps.get {H : Hp} : ∀ {ds : List D} {vs : List V} {i : Nat} {d : D}, Reps H ds vs -> ds[i]? = some d -> ∃ v, vs[i]? = some v /\ Rep H d v
  | [], vs, i, d, h, e => by simp at e
  | d :: ds, vs, 0, d', h, e => by
    obtain ⟨v,r,rfl,h1,h2⟩:=gL h
    simp at e;subst e
    exact ⟨v,rfl,h1⟩
  | d :: ds, vs, i + 1, d', h, e => by
    obtain ⟨v,r,rfl,h1,h2⟩:=gL h
    obtain ⟨u,e1,e2⟩:=Reps.get (i:=i) (d:=d') h2 (by simpa using e)
    exact ⟨u, by simpa using e1, e2⟩
mutual
def D.pl:D->Bool
 | .bl _=>false
 | .tup ds=>D.pls ds
 | _=>true
def D.pls:List D->Bool
 | []=>true
 | d::ds=>d.pl && D.pls ds
end
mutual
def D.dep:D->Nat
 | .tup ds=>D.deps ds+1
 | _=>0
def D.deps:List D->Nat
 | []=>0
 | d::ds=>max d.dep (D.deps ds)
end
theorem D.pls_get : ∀ {ds : List D} {i : Nat} {d : D}, D.pls ds = true -> ds[i]? = some d -> d.pl = true
  | [], i, d, _, e => by simp at e
  | d :: ds, 0, d', h, e => by
    simp at e;subst e
    rw[D.pls,gC] at h
    exact h.1
  | d :: ds, i + 1, d', h, e => by
    rw[D.pls,gC] at h
    exact D.pls_get (i := i) h.2 (by simpa using e)
theorem D.deps_get : ∀ {ds : List D} {i : Nat} {d : D}, ds[i]? = some d -> d.dep <= D.deps ds
  | [], i, d, e => by simp at e
  | d :: ds, 0, d', e => by
    simp at e;subst e
    rw[D.deps];lia
  | d :: ds, i + 1, d', e => by
    have:=D.deps_get (ds:=ds) (i:=i) (d:=d') (by simpa using e)
    rw[D.deps]; lia
open Classical in
def eqD (d e:D):Bool:=decide (d=e)
theorem eqD_true {d e:D}:eqD d e=true↔d=e:=by unfold eqD;simp
theorem eqD_same {d:D}:eqD d d=true:=eqD_true.mpr rfl
theorem cy {d e:D} (h:d≠e):eqD d e=false:=by unfold eqD;simp[h]
theorem ZnZ {i j:Int}:eqD (.int i) (.int j)=(i == j):=by
 by_cases h:i=j
 .subst h;rw[eqD_same];simp
 .rw[cy (by intro z;cases z;exact h rfl)];simp[h]
theorem ZnX {i j:Str}:eqD (.str i) (.str j)=(i == j):=by
 by_cases h:i=j
 .subst h;rw[eqD_same];simp
 .rw[cy (by intro z;cases z;exact h rfl)];simp[h]
def fe (ds es:List D) (f:D->D->Bool) (j:Nat):Bool:=match ds[j]?,es[j]? with|some a,some b=>f a b|_,_=>false
theorem lv {ds es:List D}:((List.range (min ds.length es.length)).all (fe ds es eqD) && ds.length == es.length)=eqD (.tup ds) (.tup es):=by
 by_cases h:ds=es
 .subst h
  rw[eqD_same]
  simp only[beq_self_eq_true,Bool.and_true,js,gx]
  intro j hj
  have hj:j < ds.length:=by lia
  unfold fe
  rw[aC hj]
  exact eqD_same
 .rw[cy (by intro z;cases z;exact h rfl)]
  by_cases hl:ds.length=es.length
  .rw[Bool.and_eq_false_iff]
   left
   rw[<-Bool.not_eq_true]
   intro hall
   apply h
   refine ext_getElem? fun j=>?_
   by_cases hj:j < ds.length
   .have hj':j < es.length:=by lia
    have:=js.mp hall j (gx.mpr (by lia))
    unfold fe at this
    rw[aC hj,aC hj'] at this
    rw[aC hj,aC hj',eqD_true.mp this]
   .rw[getElem?_eq_none (by lia),getElem?_eq_none (by lia)]
  .rw[Bool.and_eq_false_iff]
   right
   simpa using hl
section
variable {X:Cx} {pins:List (Addr×Obj)} {Z:St} {H:Hp} {s:Shared}
theorem Inv.isTup (I:Inv X pins Z H s) {a:Addr} {xs:List V} (h:H a=some (.tup xs)):∃ its:List Value,Vals xs its/\s.heap.IsTuple a its.toArray:=by
 obtain ⟨j,its,r,p⟩:=(show ObjOk X.prog X.w H s.heap a (.tup xs) from I.hok a _ h)
 exact ⟨its,r,p⟩
theorem tV (I:Inv X pins Z H s) {d e:D} {x y:V} {u v:Value} {A:Around} (hd:d.dep=0) (pd:d.pl=true) (pe:e.pl=true) (rd:Rep H d x) (re:Rep H e y) (ru:RelV x u) (rv:RelV y v) (hu:A.units < cLine):SeqAt.EqAt A s u v (eqD d e):=by
 cases d with
 | tup ds=>rw[D.dep] at hd;lia
 | bl b=>simp[D.pl] at pd
 | non =>
  rw[Rep] at rd;subst rd;cases ru
  cases e with
  | bl b=>simp[D.pl] at pe
  | non=>rw[Rep] at re;subst re;cases rv;rw[eqD_same];exact SeqAt.EqAt.same _
  | int b=>rw[Rep] at re;subst re;obtain ⟨t,rfl⟩:=rv;rw[cy (by intro z;cases z)];exact uT b t
  | str b=>rw[Rep] at re;subst re;obtain ⟨t,rfl⟩:=rv;rw[cy (by intro z;cases z)];exact uU b t
  | tup es =>
   rw[Rep] at re
   obtain ⟨a,xs,rfl,ha,j⟩:=re
   cases rv
   obtain ⟨its,j,ht⟩:=I.isTup ha
   rw[cy (by intro z;cases z)]
   exact SeqAt.EqAt.none_tuple ht hu
 | int i =>
  rw[Rep] at rd;subst rd;obtain ⟨t,rfl⟩:=ru
  cases e with
  | bl b=>simp[D.pl] at pe
  | non=>rw[Rep] at re;subst re;cases rv;rw[cy (by intro z;cases z)];exact uV i t
  | int b=>rw[Rep] at re;subst re;obtain ⟨t',rfl⟩:=rv;rw[ZnZ];exact qo i t b t'
  | str b=>rw[Rep] at re;subst re;obtain ⟨t',rfl⟩:=rv;rw[cy (by intro z;cases z)];exact qi i t b t'
  | tup es =>
   rw[Rep] at re
   obtain ⟨a,xs,rfl,ha,j⟩:=re
   cases rv
   obtain ⟨its,j,ht⟩:=I.isTup ha
   rw[cy (by intro z;cases z)]
   exact SeqAt.EqAt.int_tuple i t ht hu
 | str i =>
  rw[Rep] at rd;subst rd;obtain ⟨t,rfl⟩:=ru
  cases e with
  | bl b=>simp[D.pl] at pe
  | non=>rw[Rep] at re;subst re;cases rv;rw[cy (by intro z;cases z)];exact uW i t
  | int b=>rw[Rep] at re;subst re;obtain ⟨t',rfl⟩:=rv;rw[cy (by intro z;cases z)];exact qj i t b t'
  | str b=>rw[Rep] at re;subst re;obtain ⟨t',rfl⟩:=rv;rw[ZnX];exact qp i t b t'
  | tup es =>
   rw[Rep] at re
   obtain ⟨a,xs,rfl,ha,j⟩:=re
   cases rv
   obtain ⟨its,j,ht⟩:=I.isTup ha
   rw[cy (by intro z;cases z)]
   exact SeqAt.EqAt.str_tuple i t ht hu
mutual
theorem Rep.inj {H : Hp} : ∀ {d e : D} {v : V}, Rep H d v -> Rep H e v -> d = e
  | .non, .non, _, _, _ => rfl
  | .bl a, .bl b, v, h, h' => by simp only[Rep] at h h'; rw[h] at h'; cases h'; rfl
  | .int a, .int b, v, h, h' => by simp only[Rep] at h h'; rw[h] at h'; cases h'; rfl
  | .str a, .str b, v, h, h' => by simp only[Rep] at h h'; rw[h] at h'; cases h'; rfl
  | .tup ds, .tup es, v, h, h' => by
    rw[Rep] at h h'
    obtain ⟨a,xs,rfl,ha,r⟩:=h
    obtain ⟨b,ys,e,hb,r'⟩:=h'
    cases e
    rw[ha] at hb;cases hb
    rw[Reps.inj r r']
  | .non, .bl _, v, h, h' => by simp only[Rep] at h h'; rw[h] at h'; cases h'
  | .non, .int _, v, h, h' => by simp only[Rep] at h h'; rw[h] at h'; cases h'
  | .non, .str _, v, h, h' => by simp only[Rep] at h h'; rw[h] at h'; cases h'
  | .non, .tup _, v, h, h' => by simp only[Rep] at h h'; obtain ⟨j, j, e, j⟩ := h'; rw[h] at e; cases e
  | .bl _, .non, v, h, h' => by simp only[Rep] at h h'; rw[h] at h'; cases h'
  | .bl _, .int _, v, h, h' => by simp only[Rep] at h h'; rw[h] at h'; cases h'
  | .bl _, .str _, v, h, h' => by simp only[Rep] at h h'; rw[h] at h'; cases h'
  | .bl _, .tup _, v, h, h' => by simp only[Rep] at h h'; obtain ⟨j, j, e, j⟩ := h'; rw[h] at e; cases e
  | .int _, .non, v, h, h' => by simp only[Rep] at h h'; rw[h] at h'; cases h'
  | .int _, .bl _, v, h, h' => by simp only[Rep] at h h'; rw[h] at h'; cases h'
  | .int _, .str _, v, h, h' => by simp only[Rep] at h h'; rw[h] at h'; cases h'
  | .int _, .tup _, v, h, h' => by simp only[Rep] at h h'; obtain ⟨j, j, e, j⟩ := h'; rw[h] at e; cases e
  | .str _, .non, v, h, h' => by simp only[Rep] at h h'; rw[h] at h'; cases h'
  | .str _, .bl _, v, h, h' => by simp only[Rep] at h h'; rw[h] at h'; cases h'
  | .str _, .int _, v, h, h' => by simp only[Rep] at h h'; rw[h] at h'; cases h'
  | .str _, .tup _, v, h, h' => by simp only[Rep] at h h'; obtain ⟨j, j, e, j⟩ := h'; rw[h] at e; cases e
  | .tup _, .non, v, h, h' => by simp only[Rep] at h h'; obtain ⟨j, j, e, j⟩ := h; rw[h'] at e; cases e
  | .tup _, .bl _, v, h, h' => by simp only[Rep] at h h'; obtain ⟨j, j, e, j⟩ := h; rw[h'] at e; cases e
  | .tup _, .int _, v, h, h' => by simp only[Rep] at h h'; obtain ⟨j, j, e, j⟩ := h; rw[h'] at e; cases e
  | .tup _, .str _, v, h, h' => by simp only[Rep] at h h'; obtain ⟨j, j, e, j⟩ := h; rw[h'] at e; cases e
theorem Reps.inj {H : Hp} : ∀ {ds es : List D} {vs : List V}, Reps H ds vs -> Reps H es vs -> ds = es
  | [], [], _, _, _ => rfl
  | [], e :: es, vs, h, h' => by rw[pK h] at h'; obtain ⟨j, j, z, j⟩ := gL h'; cases z
  | d :: ds, [], vs, h, h' => by rw[pK h'] at h; obtain ⟨j, j, z, j⟩ := gL h; cases z
  | d :: ds, e :: es, vs, h, h' => by
    obtain ⟨v,r,rfl,h1,h2⟩:=gL h
    obtain ⟨v',r',z,h1',h2'⟩:=gL h'
    cases z
    rw[Rep.inj h1 h1', Reps.inj h2 h2']
end
theorem eqAt_D (I:Inv X pins Z H s):∀ (n:Nat) {d e:D} {x y:V} {u v:Value} {A:Around},d.dep<=n->d.pl=true->e.pl=true->Rep H d x->Rep H e y->RelV x u->RelV y v->A.units+n < cLine->SeqAt.EqAt A s u v (eqD d e):=by
 intro n
 induction n with
 | zero =>
  intro d e x y u v A hn pd pe rd re ru rv hu
  exact tV I (by lia) pd pe rd re ru rv (by lia)
 | succ n ih =>
  intro d e x y u v A hn pd pe rd re ru rv hu
  by_cases h0:d.dep=0
  .exact tV I h0 pd pe rd re ru rv (by lia)
  .cases d with
   | non=>simp[D.dep] at h0
   | bl _=>simp[D.dep] at h0
   | int _=>simp[D.dep] at h0
   | str _=>simp[D.dep] at h0
   | tup ds =>
    obtain ⟨a,xs,rfl,ha,r⟩:=m7 rd
    cases ru
    obtain ⟨its,vx,ht⟩:=I.isTup ha
    cases e with
    | bl b=>simp[D.pl] at pe
    | non=>rw[Rep] at re;subst re;cases rv;rw[cy (by intro z;cases z)];exact SeqAt.EqAt.tuple_none ht (by lia)
    | int b=>rw[Rep] at re;subst re;obtain ⟨t,rfl⟩:=rv;rw[cy (by intro z;cases z)];exact SeqAt.EqAt.tuple_int b t ht (by lia)
    | str b=>rw[Rep] at re;subst re;obtain ⟨t,rfl⟩:=rv;rw[cy (by intro z;cases z)];exact SeqAt.EqAt.tuple_str b t ht (by lia)
    | tup es =>
     obtain ⟨b,ys,rfl,hb,r'⟩:=m7 re
     cases rv
     by_cases hab:a=b
     .subst hab
      rw[Rep.inj rd re,eqD_same]
      exact SeqAt.EqAt.same _
     .obtain ⟨its',vy,ht'⟩:=I.isTup hb
      refine uX hab ?_
      have l1:=vx.length
      have l2:=vy.length
      have l3:=r.length
      have l4:=r'.length
      have key:=SeqAt.RcAt.tuples (A:=A) (e:=fe ds es eqD) ht ht' (by lia) fun j h1 h2=>?_
      .rw[<-lv,l3,l4,l1,l2]
       simpa using key
      .have h1':j < its.length:=by simpa using h1
       have h2':j < its'.length:=by simpa using h2
       have e1:ds[j]?=some (ds[j]'(by lia)):=aC _
       have e2:es[j]?=some (es[j]'(by lia)):=aC _
       obtain ⟨v1,q1,p1⟩:=r.get e1
       obtain ⟨v2,q2,p2⟩:=r'.get e2
       obtain ⟨u1,z1,w1⟩:=vx.get q1
       obtain ⟨u2,z2,w2⟩:=vy.get q2
       have y1:its.toArray[j]=u1:=by
        have:its[j]?=some its[j]:=aC h1'
        rw[z1] at this
        simpa using (Option.some.inj this).symm
       have y2:its'.toArray[j]=u2:=by
        have:its'[j]?=some its'[j]:=aC h2'
        rw[z2] at this
        simpa using (Option.some.inj this).symm
       rw[y1,y2]
       unfold fe
       rw[e1,e2]
       rw[D.dep] at hn
       have hdep:=D.deps_get e1
       rw[D.pl] at pd pe
       exact ih (by lia) (D.pls_get pd e1) (D.pls_get pe e2) p1 p2 w1 w2 (by show A.units+1+n < cLine;lia)
end
end L2
end
section
namespace L2
open PySem PySem.Spec PyProof.Rows
section
variable {X:Cx}
def rEqD:R2:=fun x y H Q=>∃ ds es,Rep H (.tup ds) x/\Rep H (.tup es) y/\D.pls ds=true/\D.pls es=true/\D.deps ds<=40/\Q (.bl (eqD (.tup ds) (.tup es))) H
theorem ou {X:Cx} {pins:List (Addr×Obj)} {Z:St} {H:Hp} {s:Shared} {A:Around} (I:Inv X pins Z H s) {ds es:List D} {xs ys:List V} {its its':List Value} (vx:Vals xs its) (vy:Vals ys its') (r:Reps H ds xs) (r':Reps H es ys) (pd:D.pls ds=true) (pe:D.pls es=true)
  (hd:D.deps ds<=40) (hu:A.units+40 < cLine):∀ j (h1:j < its.toArray.size) (h2:j < its'.toArray.size),SeqAt.EqAt A s its.toArray[j] its'.toArray[j] (fe ds es eqD j):=by
 intro j h1 h2
 have l1:=vx.length
 have l2:=vy.length
 have l3:=r.length
 have l4:=r'.length
 have h1':j < its.length:=by simpa using h1
 have h2':j < its'.length:=by simpa using h2
 have e1:ds[j]?=some (ds[j]'(by lia)):=aC _
 have e2:es[j]?=some (es[j]'(by lia)):=aC _
 obtain ⟨v1,q1,p1⟩:=r.get e1
 obtain ⟨v2,q2,p2⟩:=r'.get e2
 obtain ⟨u1,z1,w1⟩:=vx.get q1
 obtain ⟨u2,z2,w2⟩:=vy.get q2
 have y1:its.toArray[j]=u1:=by
  have:its[j]?=some its[j]:=aC h1'
  rw[z1] at this
  simpa using (Option.some.inj this).symm
 have y2:its'.toArray[j]=u2:=by
  have:its'[j]?=some its'[j]:=aC h2'
  rw[z2] at this
  simpa using (Option.some.inj this).symm
 rw[y1,y2]
 unfold fe
 rw[e1,e2]
 have hdep:=D.deps_get e1
 exact eqAt_D I 40 (by lia) (D.pls_get pd e1) (D.pls_get pe e2) p1 p2 w1 w2 hu
theorem tU (hu:X.A.units+64 < cLine):OpR X (compareOp .Eq) rEqD:=by
 rintro pins s Z H x y v u Q I rx ry ⟨ds,es,h1,h2,pd,pe,hd,q⟩
 obtain ⟨a,xs,rfl,ha,r⟩:=m7 h1
 obtain ⟨b,ys,rfl,hb,r'⟩:=m7 h2
 cases rx;cases ry
 obtain ⟨its,vx,ht⟩:=I.isTup ha
 obtain ⟨its',vy,ht'⟩:=I.isTup hb
 refine SeqAt.eq_tupleAt (e:=fe ds es eqD) ht ht' (by lia) (ou (A:=X.A.in1) I vx vy r r' pd pe hd (by show X.A.units+1+40 < cLine;lia)) ?_
 refine bj I q ?_
 rw[<-lv,r.length,r'.length,vx.length,vy.length]
 simp
def rEqL (K:W.Frag):R2:=fun x y H Q=>∃ a b xs ys ds es,x=.ref a/\y=.ref b/\SqL K H a xs/\SqL K H b ys/\Reps H ds xs/\Reps H es ys/\D.pls ds=true/\D.pls es=true/\D.deps ds<=40/\Q (.bl (eqD (.tup ds) (.tup es))) H
def rNeL (K:W.Frag):R2:=fun x y H Q=>∃ a b xs ys ds es,x=.ref a/\y=.ref b/\SqL K H a xs/\SqL K H b ys/\Reps H ds xs/\Reps H es ys/\D.pls ds=true/\D.pls es=true/\D.deps ds<=40/\Q (.bl (!eqD (.tup ds) (.tup es))) H
theorem op_eqL (hu:X.A.units+64 < cLine):OpR X (compareOp .Eq) (rEqL X.K):=by
 rintro pins s Z H x y v u Q I rx ry ⟨a,b,xs,ys,ds,es,rfl,rfl,ha,hb,r,r',pd,pe,hd,q⟩
 cases rx;cases ry
 obtain ⟨its,vx,ht,j⟩:=I.list ha
 obtain ⟨its',vy,ht',j⟩:=I.list hb
 by_cases hl:its.length=its'.length
 .refine SeqAt.eq_listAt (e:=fe ds es eqD) ht.isList ht'.isList (by simpa using hl) (by lia) (ou (A:=X.A.in1) I vx vy r r' pd pe hd (by show X.A.units+1+40 < cLine;lia)) ?_
  refine bj I q ?_
  rw[<-lv,r.length,r'.length,vx.length,vy.length,hl]
  simp[hl]
 .refine SeqAt.eq_list_lengthsAt ht.isList ht'.isList (by simpa using hl) (by lia) (bj I q ?_)
  refine cy fun z=>hl ?_
  cases z
  rw[<-vx.length,<- vy.length,<- r.length,<- r'.length]
theorem op_neL (hu:X.A.units+64 < cLine):OpR X (compareOp .NotEq) (rNeL X.K):=by
 rintro pins s Z H x y v u Q I rx ry ⟨a,b,xs,ys,ds,es,rfl,rfl,ha,hb,r,r',pd,pe,hd,q⟩
 cases rx;cases ry
 obtain ⟨its,vx,ht,j⟩:=I.list ha
 obtain ⟨its',vy,ht',j⟩:=I.list hb
 by_cases hl:its.length=its'.length
 .refine SeqAt.RcNeAt.lists (e:=fe ds es eqD) ht.isList ht'.isList (by simpa using hl) (by lia) (ou (A:=X.A.in1) I vx vy r r' pd pe hd (by show X.A.units+1+40 < cLine;lia)) _ _ _ _ ?_
  refine bj I q ?_
  rw[<-lv,r.length,r'.length,vx.length,vy.length,hl]
  simp[hl]
 .refine uY ht.isList ht'.isList (by simpa using hl) (by lia) _ _ _ _ (bj I q ?_)
  rw[cy fun z=>hl ?_]
  .rfl
  .cases z
   rw[<-vx.length,<- vy.length,<- r.length,<- r'.length]
def CBig (i j:Int):Prop:=i.natAbs < 2 ^ 8000/\j.natAbs < 2 ^ 8000
theorem uD {i:Int} (h:i.natAbs < 2 ^ 8000):Builtin.Int.intBits i<=8000:=by
 unfold Builtin.Int.intBits
 by_cases h0:i=0
 .simp[h0]
 .have:(i == 0)=false:=by simpa using h0
  rw[this]
  have:=(Nat.log2_lt (show i.natAbs≠0 by lia)).mpr h
  simp
  lia
theorem CBig.ok {i j:Int} (h:CBig i j):IntMulOk i j:=by
 unfold IntMulOk
 have h1:=uD h.1
 have h2:=uD h.2
 have hb:Builtin.Int.intTooBig (Builtin.Int.intBits i+Builtin.Int.intBits j)=false:=by
  unfold Builtin.Int.intTooBig
  rw[aQ]
  have:(16000:Int)<=bitsLine:=by decide
  lia
 rw[hb]
 simp
theorem eL:OpR X (binaryOp .Mult) (rI CBig fun i j=>.int (i * j)):=opI fun z z z z z z z hc q=>mul_int q hc.ok
def i4 (i j:Int):Prop:=0 < j/\j.natAbs < 2 ^ 8000
theorem jO:OpR X (binaryOp .FloorDiv) (rI i4 fun i j=>.int (i / j)):=opI fun i j z z z z z hc q=>by
 have hj:j≠0:=by have:=hc.1;lia
 refine floordiv_int hj ?_ (.inl (PyProof.noPylong_of_log2 ?_))
 .rw[Int.fdiv_eq_ediv_of_nonneg _ (by have:=hc.1;lia)]
  exact q
 .have:=(Nat.log2_lt (show j.natAbs≠0 by lia)).mpr hc.2
  lia
theorem Zme (hc:X.calm=true):bF X (.builtin "sum") (fun xs H Q=>∃ (a:Addr) (ns:List Int),xs=[.ref a]/\SqL X.K H a (ns.map V.int)/\Q (.int ns.sum) H):=by
 intro pins s Z H xs us Q I r h
 obtain ⟨a,ns,rfl,ha,q⟩:=h
 obtain ⟨u,rfl,ru⟩:=vals1 r
 cases ru
 obtain ⟨its,vx,ht,j⟩:=I.list ha
 have hi:=intsAre_of vx
 obtain ⟨ps,e⟩:=hi.allInts.items
 refine sum_intListG (xs:=ps) (I.ok.hd hc) (by rw[<-e];exact ht.isList) fun h' tk t' hk=>⟨.int ns.sum,H,I.kept hk,⟨t',?_⟩,q⟩
 congr 1
 rw[preSum_eq,nE (by simp)]
 have e2:=hi.numsOf
 have e3:numsOf (intItems ps).toList=ns:=by rw[<-e];exact e2
 rw[nums_intItems] at e3
 rw[<-e3]
def isi (t T:String):Bool:=t == T || (t == "bool" && T == "int")
theorem kit_of {K:W.Frag}:∀ {t T:String},t∈["int","bool","str","tuple","list","dict","NoneType"]->T∈["int","bool","str","tuple","list","dict"]->PySem.W.kitOne K (.type t) (.type T)=some (isi t T):=by
 intro t T ht hT
 simp only[aG,mem_nil_iff,cW] at ht hT
 rcases ht with rfl|rfl|rfl|rfl|rfl|rfl|rfl <;> rcases hT with rfl|rfl|rfl|rfl|rfl|rfl <;> with_unfolding_all rfl
def tyO:Option HO->Option String
 | some (.lst _)=>some "list"
 | some (.frz _ (.lst _))=>some "list"
 | some (.tup _)=>some "tuple"
 | some (.dK _)=>some "dict"
 | some (.dT _)=>some "dict"
 | _=>none
def tyN (H:Hp):V->Option String
 | .non=>some "NoneType"
 | .bl _=>some "bool"
 | .int _=>some "int"
 | .str _=>some "str"
 | .ref a=>tyO (H a)
 | _=>none
theorem rh {K:W.Frag} {H:Hp} {x:V} {t:String} (h:tyN H x=some t):TyOf K H x (.type t)/\t∈["int","bool","str","tuple","list","dict","NoneType"]:=by
 cases x with
 | non=>cases h;exact ⟨.non,by decide⟩
 | bl b=>cases h;exact ⟨.bl b,by decide⟩
 | int i=>cases h;exact ⟨.int i,by decide⟩
 | str y=>cases h;exact ⟨.str y,by decide⟩
 | ref a =>
  have h:tyO (H a)=some t:=h
  cases e:H a with
  | none=>rw[e] at h;cases h
  | some o =>
   rw[e] at h
   cases o with
   | lst _=>cases h;exact ⟨.lst e,by decide⟩
   | frz _ o =>
    cases o with
    | lst _=>cases h;exact ⟨.frz e,by decide⟩
    | _=>cases h
   | tup _=>cases h;exact ⟨.tup e,by decide⟩
   | dK _=>cases h;exact ⟨.dK e,by decide⟩
   | dT _=>cases h;exact ⟨.dT e,by decide⟩
   | _=>cases h
 | byt _=>cases h
 | flt _=>cases h
 | ty _=>cases h
def rIsi:List V->Hp->VK->Prop:=fun xs H Q=>∃ x T t,xs=[x,.ty T]/\tyN H x=some t/\T∈["int","bool","str","tuple","list","dict"]/\Q (.bl (isi t T)) H
theorem gq:bF X (.builtin "isinstance") rIsi:=by
 intro pins s Z H xs us Q I r h
 obtain ⟨x,T,t,rfl,ht,hT,q⟩:=h
 cases r with
 | cons r1 r2 =>
  cases r2 with
  | cons r3 r4 =>
   cases r4
   cases r3
   obtain ⟨ty,hm⟩:=rh (K:=X.K) ht
   exact ZkM I r1 ty (kit_of hm hT) fun tk=>⟨.bl _,H,I.tok _,rfl,q⟩
end
structure Callee (P:Program) (w:World) (K:W.Frag) (mg:Str->Option Value) (base:Heap) (x:Str) (k:Nat) (ps:List Str) (sp:Sp):Prop where
 ex:∃ f fd,FnOk P w K mg base CX0 k f fd ps sp/\mg x=some (.ref f)/\PySem.W.keepIn K (.ref f)=true/\Binds K fd ps []
theorem fM {X:Cx} {x:Str} {k:Nat} {ps:List Str} {sp:Sp} {p pos:Pos} {e:Expr} {es:List Expr} {t:TA} (C:Callee X.prog X.w X.K X.mg X.base x k ps sp) (hr:Room k X.A) (hg:Gl X x) (ha:PA X (e::es) t) (hdb:(x == ("__debug__":Str))=false:=by decide)
  (he:starEach (e::es) X.env=(false,eval e X.env)::starEach es X.env:=by rfl) (hpl:(backTo pos (starEach es X.env)).any (·.1)=false:=by rfl) :
  PE X (.Call (.Name x p) (e::es) [] pos) (fc sp [] E0 t):=by
 obtain ⟨f,fd,F,hm,hk,hb⟩:=C.ex
 exact ZnB F hr hg hm hk hb .nil pass0 ha hdb he hpl
section
variable {K:W.Frag} {a:Addr} {xs:List V} {g:TG} {tt:TT} {te:TE} {Q:VK} {Z:St} {H:Hp}
def CN (Pv:Nat->List V->St->Hp->Prop) (i:Nat) (ys':List V) (σ':St) (H':Hp):Prop:=ys'.length<=i+1/\Pv (i+1) ys' σ' H'
theorem lB {J:It} (n:Nat) (hz:n<=sizeLine) (Pv:Nat->List V->St->Hp->Prop) (h0:Pv 0 [] Z H) (hgo:∀ i ys Z H,i < n->Pv i ys Z H->J.go i H) (hstop:∀ ys Z H,Pv n ys Z H->J.stop n H)
  (hs:∀ i x ys Z H H2,i < n->ys.length<=i->ys.length < sizeLine->Pv i ys Z H->J.yld i H x H2->g x Z H2 fun σ2 H3=>tt σ2 H3 fun ok H4=>if ok=true then te σ2 H4 fun y H5=>ys.length < sizeLine/\CN Pv i (ys++[y]) σ2 H5 else CN Pv i ys σ2 H4)
  (hd:∀ ys Z H,ys.length<=n->Pv n ys Z H->∀ p,H p=none->Q (.ref p) (upd H p (.lst ys))) :
  ∃ W:Nat->Nat->List V->St->Hp->Prop,(∃ m,W 0 m [] Z H)/\CW J g tt te W Q:=by
 refine ⟨fun i m ys Z H=>m=n - i/\i<=n/\ys.length<=i/\Pv i ys Z H,⟨n,by simp,bD _,aA _,h0⟩,?_⟩
 rintro i m ys Z H ⟨rfl,hi,hy,p⟩
 by_cases hlt:i < n
 .exact .inr ⟨hgo i ys Z H hlt p,CN Pv i,fun ys' σ' H' p'=>⟨n - (i+1),by lia,rfl,hlt,p'.1,p'.2⟩,fun x H2 y=>hs i x ys Z H H2 hlt hy (by lia) p y⟩
 .have e:i=n:=by lia
  subst e
  exact .inl ⟨hstop ys Z H p,by lia,hd ys Z H hy p⟩
theorem Zn1 (hz:xs.length<=sizeLine) (Pv:Nat->List V->St->Hp->Prop) (h0:Pv 0 [] Z H) (hl:∀ i ys Z H,i<=xs.length->Pv i ys Z H->SqL K H a xs)
  (hs:∀ i x ys Z H,xs[i]?=some x->ys.length<=i->ys.length < sizeLine->Pv i ys Z H->g x Z H fun σ2 H3=>tt σ2 H3 fun ok H4=>if ok=true then te σ2 H4 fun y H5=>ys.length < sizeLine/\CN Pv i (ys++[y]) σ2 H5 else CN Pv i ys σ2 H4)
  (hd:∀ ys Z H,ys.length<=xs.length->Pv xs.length ys Z H->∀ p,H p=none->Q (.ref p) (upd H p (.lst ys))) :
  ∃ W:Nat->Nat->List V->St->Hp->Prop,(∃ m,W 0 m [] Z H)/\CW (Itl K a) g tt te W Q:=by
 refine lB xs.length hz Pv h0 (fun i ys Z H hi p=>⟨xs,xs[i],hl i ys Z H (ft hi) p,by simp[hi]⟩) (fun ys Z H p=>⟨xs,hl _ ys Z H (aA _) p,aA _⟩) (fun i x ys Z H H2 hi h1 h2 p y=>?_) hd
 obtain ⟨rfl,y⟩:=y
 exact hs i x ys Z _ (y xs (hl i ys Z _ (ft hi) p)) h1 h2 p
end
section
variable {Z:St} {H:Hp} {Q:VK} {v x y:V} {ta tb tc te:TE} {t u:TS} {c d:TT} {D':Ends} {r:R2} {g:TG} {i j:Int} {n:Nat} {K:W.Frag}
theorem rd_var (e:Z[n]?=some (some v)) (h:Q v H):tVar n Z H Q:=⟨v,e,h⟩
theorem rd_c (h:Q v H):tC v Z H Q:=h
theorem rd_op (h:ta Z H fun x H1=>tb Z H1 fun y H2=>r x y H2 Q):tOp r ta tb Z H Q:=h
theorem rd_seq (h:t { D' with nx:=u D' } Z H):tSeq t u D' Z H:=h
theorem rd_asg (h:te Z H fun x H1=>g x Z H1 D'.nx):tAsg te g D' Z H:=h
theorem ZlJ {R:St->Hp->Prop} (h:R (Z.set n (some v)) H):dj n v Z H R:=h
theorem rd_ret (h:te Z H D'.rt):tRet te D' Z H:=h
theorem Znl (h:D'.nx Z H):oQ D' Z H:=h
theorem rd_if (h:c Z H fun b H1=>if b=true then t D' Z H1 else u D' Z H1):tIfS c t u D' Z H:=h
theorem Znj {R:Bool->Hp->Prop} (h:ta Z H fun x H'=>∃ k,x=.bl k/\R k H'):oE ta Z H R:=h
theorem rd_and {R:Bool->Hp->Prop} (h:c Z H fun b H1=>if b=true then d Z H1 R else R false H1):tAnd c d Z H R:=h
theorem uI {R:Bool->Hp->Prop} (h:R true H):gN Z H R:=h
theorem rd_nil {R:List V->Hp->Prop} (h:R [] H):tNil Z H R:=h
theorem Zno {tr:TA} {R:List V->Hp->Prop} (h:ta Z H fun x H1=>tr Z H1 fun xs H2=>R (x::xs) H2):a9 ta tr Z H R:=h
theorem rd_cb {rr:List V->Hp->VK->Prop} {ta:TA} (h:ta Z H fun vs H1=>rr vs H1 Q):tCB rr ta Z H Q:=h
theorem Znr {sp:Sp} {E:XK} {ta:TA} (h:ta Z H fun vs H1=>sp (vs++[]) H1 Q E):fc sp [] E ta Z H Q:=h
theorem rd_I0 {f:Int->Int->V} (h:Q (f i j) H):rI0 f (.int i) (.int j) H Q:=⟨i,j,rfl,rfl,h⟩
theorem rd_I {C:Int->Int->Prop} {f:Int->Int->V} (hc:C i j) (h:Q (f i j) H):rI C f (.int i) (.int j) H Q:=⟨i,j,rfl,rfl,hc,h⟩
theorem tH (h:Q (.bl (decide (i=j))) H):rEq (.int i) (.int j) H Q:=⟨rfl,by rw[lz,kO];exact h⟩
theorem ue (h:Q (.bl (!decide (i=j))) H):rNe (.int i) (.int j) H Q:=⟨rfl,by rw[lz,kO];exact h⟩
theorem tw {a b:Str} (h:Q (.bl (decide (a=b))) H):rEq (.str a) (.str b) H Q:=⟨rfl,by rw[pq,kO];exact h⟩
theorem tW {a b:Bool} (h:Q (.bl (decide (a=b))) H):rEq (.bl a) (.bl b) H Q:=⟨rfl,by rw[lJ,kO];exact h⟩
theorem rQ {a b:Bool} (h:Q (.bl (!decide (a=b))) H):rNe (.bl a) (.bl b) H Q:=⟨rfl,by rw[lJ,kO];exact h⟩
theorem rd_bl {b:Bool} {R:Bool->Prop} (h:R b):∃ k,V.bl b=V.bl k/\R k:=⟨b,rfl,h⟩
theorem rd_lst {ta:TA} (h:ta Z H fun xs H1=>xs.length<=sizeLine/\∀ p,H1 p=none->Q (.ref p) (upd H1 p (.lst xs))):tLst ta Z H Q:=h
theorem gU {n:Nat} (h:n<=1000):n<=sizeLine:=aR h (by decide)
theorem rd_ixT {p:Addr} {xs:List V} (h:H p=some (.tup xs)) (e:atI xs i=some v) (q:Q v H):rIxT K (.ref p) (.int i) H Q:=⟨p,xs,i,v,rfl,rfl,SqT.of h,e,q⟩
theorem rd_ixL {p:Addr} {xs:List V} (h:H p=some (.lst xs)) (e:atI xs i=some v) (q:Q v H):rIxL K (.ref p) (.int i) H Q:=⟨p,xs,i,v,rfl,rfl,SqL.of h,e,q⟩
theorem ku {p:Addr} {xs:List V} {k:Nat} {R:Hp->Prop} (h:H p=some (.lst xs)) (e:ixN xs.length i=some k) (q:R (upd H p (.lst (xs.set k v)))):iZ (.ref p) (.int i) v H R:=⟨p,xs,i,k,rfl,rfl,h,e,q⟩
theorem Znn {to ti:TE} {ts:TSet} {R:St->Hp->Prop} (h:to Z H fun o H1=>ti Z H1 fun i H2=>ts o i v H2 fun H3=>R Z H3):gSub to ti ts v Z H R:=h
theorem Zm7 {a:Addr} {xs:List V} (h:H a=some (.tup xs)):tyN H (.ref a)=some "tuple":=by show tyO (H a)=_;rw[h];rfl
theorem uw {a:Addr} {xs:List V} (h:H a=some (.lst xs)):tyN H (.ref a)=some "list":=by show tyO (H a)=_;rw[h];rfl
theorem ZlG {rr:V->Option Int->Option Int->Hp->VK->Prop} {tl th:TO} (h:te Z H fun x H1=>tl Z H1 fun l H2=>th Z H2 fun u H3=>rr x l u H3 Q):tSl rr te tl th Z H Q:=h
theorem Zka {R:Option Int->Hp->Prop} (h:R none H):oI Z H R:=h
theorem Znk {R:Option Int->Hp->Prop} (h:ta Z H fun x H1=>∃ i,x=.int i/\R (some i) H1):pF ta Z H R:=h
theorem rd_int {R:Int->Prop} (h:R i):∃ k,V.int i=V.int k/\R k:=⟨i,rfl,h⟩
theorem Zkb {l:Addr} {xs:List V} (h:H l=some (.lst xs)) (hz:xs.length < sizeLine) (q:Q .non (upd H l (.lst (xs++[y])))):pE (.ref l) [y] H Q:=⟨l,xs,y,rfl,rfl,h,hz,q⟩
theorem Znp {LN:List Str} {fr:List Nat} {wi:TI} (h:wi Z H fun J H1=>∃ W:Nat->Nat->List V->St->Hp->Prop,(∃ m,W 0 m [] (fL LN fr Z) H1)/\CW J g c te W Q):ff LN fr wi g c te Z H Q:=h
def ilK (K:W.Frag) (R:It->Hp->Prop) (x:V) (H1:Hp):Prop:=∃ a,x=.ref a/\(∃ xs,SqL K H1 a xs)/\R (Itl K a) H1
theorem ZlI {R:It->Hp->Prop} {tl:TE} (h:tl Z H (ilK K R)):mw K tl Z H R:=h
theorem ud {R:It->Hp->Prop} {a:Addr} {xs:List V} (h:SqL K H a xs) (q:R (Itl K a) H):ilK K R (.ref a) H:=⟨a,rfl,⟨xs,h⟩,q⟩
theorem rd_for {wi:TI} (h:wi Z H fun J H1=>∃ W:Nat->Nat->St->Hp->Prop,(∃ m,W 0 m Z H1)/\∀ i m Z H,W i m Z H ->
 (J.stop i H/\D'.nx Z H)\/(J.go i H/\∃ N:St->Hp->Prop,(∀ σ' H',N σ' H'->∃ m',m' < m/\W (i+1) m' σ' H')/\∀ x H',J.yld i H x H'->g x Z H' fun σ2 H2=>t { D' with nx:=N,ct:=N,bk:=D'.nx } σ2 H2)):tFor wi g t D' Z H:=h
end
theorem lM:bootBuiltins "abs"=some (.builtin "abs"):=by decide +kernel
theorem bz:bootBuiltins "len"=some (.builtin "len"):=by decide +kernel
theorem bt_sum:bootBuiltins "sum"=some (.builtin "sum"):=by decide +kernel
theorem eW:bootBuiltins "isinstance"=some (.builtin "isinstance"):=by decide +kernel
theorem qf:bootBuiltins "max"=some (.builtin "max"):=by decide +kernel
theorem bt_min:bootBuiltins "min"=some (.builtin "min"):=by decide +kernel
theorem pD:bootBuiltins "sorted"=some (.builtin "sorted"):=by decide +kernel
theorem bt_all:bootBuiltins "all"=some (.builtin "all"):=by decide +kernel
theorem p7:bootBuiltins "int"=some (.type "int"):=by decide +kernel
theorem t6:bootBuiltins "bool"=some (.type "bool"):=by decide +kernel
theorem dR:bootBuiltins "tuple"=some (.type "tuple"):=by decide +kernel
theorem gP:bootBuiltins "list"=some (.type "list"):=by decide +kernel
theorem ke:bootBuiltins "str"=some (.type "str"):=by decide +kernel
def bkOk (N:List Str) (sc osc:Scope) (FN:List Str) (fr:List Nat):Bool :=
 decide (sc.kind=.function) && sc.names.all (fun y=>decide (y.2≠.cell)) && sc.names.all (fun y=>decide (y.2=.local->sc.names.lookup y.1=some .local)) &&
 sc.names.all (fun y=>decide (y.2=.free->osc.names.lookup y.1=some .cell\/osc.names.lookup y.1=some .free)) &&
 FN.all (fun x=>decide (osc.names.lookup x=some .cell\/osc.names.lookup x=some .free)) && FN.all (fun x=>decide (sc.names.lookup x=some .free)) && decide (FN.map some=fr.map fun j=>N[j]?)
theorem cR {N:List Str} {sc osc:Scope} {LN FN:List Str} {fr:List Nat} (h:bkOk N sc osc FN fr=true):BkScope N sc osc LN FN fr:=by
 unfold bkOk at h
 simp only[gC,js,qx] at h
 obtain ⟨⟨⟨⟨⟨⟨h1,h2⟩,h3⟩,h4⟩,h5⟩,h6⟩,h7⟩:=h
 exact ⟨h1,h2,h3,h4,h5,h6,h7⟩
section
variable {X:Cx}
def rIxA (K:W.Frag):R2:=fun x y H Q=>rIxL K x y H Q\/rIxT K x y H Q
theorem ix_any:IxR X (rIxA X.K):=ix_list.or ix_tup
theorem Znm {K:W.Frag} {H:Hp} {p:Addr} {xs:List V} {i:Int} {v:V} {Q:VK} (h:H p=some (.tup xs)) (e:atI xs i=some v) (q:Q v H):rIxA K (.ref p) (.int i) H Q:=.inr (rd_ixT h e q)
theorem cF {K:W.Frag} {H:Hp} {p:Addr} {xs:List V} {i:Int} {v:V} {Q:VK} (h:H p=some (.lst xs)) (e:atI xs i=some v) (q:Q v H):rIxA K (.ref p) (.int i) H Q:=.inl (rd_ixL h e q)
theorem di {α:Type} {xs:List α} {i:Int} {n:Nat} {v:α} (hi:i=(n:Int)) (h:xs[n]?=some v):atI xs i=some v:=by
 subst hi
 have hl:n < xs.length:=(ba.mp h).1
 unfold atI ixN
 rw[ah (by lia),ah (by lia)]
 simpa using h
theorem tS {m:Nat} {i:Int} {n:Nat} (hi:i=(n:Int)) (h:n < m):ixN m i=some n:=by
 subst hi
 unfold ixN
 rw[ah (by lia),ah (by lia)]
 simp
def rLen (K:W.Frag):List V->Hp->VK->Prop:=fun xs H Q=>∃ x n,xs=[x]/\LenV K x H n/\Q (.int n) H
theorem Zld:bF X (.builtin "len") (rLen X.K):=Zmf
theorem tL {K:W.Frag} {H:Hp} {p:Addr} {ys:List V} {Q:VK} (h:SqL K H p ys) (q:Q (.int ys.length) H):rLen K [.ref p] H Q:=⟨_,_,rfl,.inl ⟨ys,h,rfl⟩,q⟩
def rAbs:List V->Hp->VK->Prop:=fun xs H Q=>∃ i,xs=[.int i]/\Q (.int (if i < 0 then -i else i)) H
theorem mD:bF X (.builtin "abs") rAbs:=Zmg
theorem rd_abs {H:Hp} {i:Int} {Q:VK} (q:Q (.int (if i < 0 then -i else i)) H):rAbs [.int i] H Q:=⟨i,rfl,q⟩
def rMax:List V->Hp->VK->Prop:=fun xs H Q=>∃ i j,xs=[.int i,.int j]/\Q (.int (if j > i then j else i)) H
theorem Zlb (hc:X.calm=true):bF X (.builtin "max") rMax:=Zla hc
def rMin:List V->Hp->VK->Prop:=fun xs H Q=>∃ i j,xs=[.int i,.int j]/\Q (.int (if j < i then j else i)) H
theorem Zk8 (hc:X.calm=true):bF X (.builtin "min") rMin:=Zk7 hc
def rSum (K:W.Frag):List V->Hp->VK->Prop:=fun xs H Q=>∃ (a:Addr) (ns:List Int),xs=[.ref a]/\SqL K H a (ns.map V.int)/\Q (.int ns.sum) H
theorem Zk6 (hc:X.calm=true):bF X (.builtin "sum") (rSum X.K):=Zme hc
def rInt:List V->Hp->VK->Prop:=fun xs H Q=>(∃ i,xs=[.int i]/\Q (.int i) H)\/∃ k,xs=[.bl k]/\Q (.int (if k then 1 else 0)) H
theorem Zlf:bF X (.type "int") rInt:=Zle
def jN (K:W.Frag):List V->Hp->VK->Prop:=fun xs H Q=>∃ p ys,xs=[.ref p]/\((SqL K H p ys/\∀ l,H l=none->Q (.ref l) (upd H l (.tup ys)))\/(SqT K H p ys/\Q (.ref p) H))
theorem Zk5:bF X (.type "tuple") (jN X.K):=Zgx
theorem uR {K:W.Frag} {H:Hp} {p:Addr} {ys:List V} {Q:VK} (h:SqL K H p ys) (q:∀ l,H l=none->Q (.ref l) (upd H l (.tup ys))):jN K [.ref p] H Q:=⟨p,ys,rfl,.inl ⟨h,q⟩⟩
def mQ (K:W.Frag):List V->Hp->VK->Prop:=fun xs H Q=>∃ p ys,xs=[.ref p]/\(SqL K H p ys\/SqT K H p ys)/\∀ l,H l=none->Q (.ref l) (upd H l (.lst ys))
theorem Zlc:bF X (.type "list") (mQ X.K):=Zhj
theorem mk_le {n:Nat} (h:Nat.ble n 1000=true):n<=sizeLine:=gU (ic h)
end
section
variable {X:Cx} {K:W.Frag} {pos:Pos}
theorem k_ix (h:X.K=K):IxR X (rIxA K):=h▸ix_any
theorem bw (h:X.K=K):bF X (.builtin "len") (rLen K):=h▸Zld
theorem k_sum (h:X.K=K) (hc:X.calm=true):bF X (.builtin "sum") (rSum K):=h▸Zk6 hc
theorem fj (h:X.K=K):bF X (.type "tuple") (jN K):=h▸Zk5
theorem nZ (h:X.K=K):bF X (.type "list") (mQ K):=h▸Zlc
theorem k_sl (h:X.K=K):SlR X (rSlL K):=h▸Zng
theorem k_in (h:X.K=K):OpR X (compareOp .In) (rIn K false):=h▸Zks
theorem ZnR (h:X.K=K):OpR X (compareOp .NotIn) (rIn K true):=h▸ZgZ
theorem dI {tg l:Expr} {tl:TE} (h:X.K=K) (hl:PE X l tl):PI X tg l (mw K tl):=h▸Zny hl
theorem dE {tg l:Expr} {tl:TE} (h:X.K=K) (hl:PE X l tl):PI X tg l (iTup K tl):=h▸pi_tup hl
theorem cb {es:List Expr} {k:Nat} {t:TGs} {n:Nat} (h:X.K=K) (hc:X.calm=true) (hg:PGs X es t)
  (hn:(assignEach es X.env).length=n:=by rfl) (hst:(assignEach es X.env).findIdx? (·.1)=none:=by rfl):PG X (.Tuple es k pos) (gTup K n t):=h▸pg_tup hc hg hn hst
variable {o e:Expr} {es:List Expr} {to:TE} {t:TA} {name:Str} {apos cpos:Pos} {T id:String} {r:V->List V->Hp->VK->Prop}
theorem k_bm (h:X.K=K) (pa:PlainAttrs T) (slot:Slot T name id) (hty:typeOf (.builtin id)=pure (.type "method_descriptor")) (hm:MtR X id r) (ho:PE X o to) (ha:PA X (e::es) t)
  (hbase:attributeBase o name X.env (eval o X.env)=eval o X.env:=by rfl)
  (hfew:((backTo cpos (starEach (e::es) X.env)).all (fun x=>!x.1) && (backToKw cpos (keywordEach [] X.env)).all (fun x=>x.1.isSome)
   && decide ((e::es).length+([]:List Keyword).length+(if ([]:List Keyword).isEmpty then 0 else 1) < 30))=true:=by rfl)
  (hline:(apos.endLine == cpos.line)=true:=by rfl) (hs:starEach (e::es) X.env=(false,eval e X.env)::starEach es X.env:=by rfl) (hplain:(backTo cpos (starEach es X.env)).any (·.1)=false:=by rfl) :
  PE X (.Call (.Attribute o name apos) (e::es) [] cpos) (tBM K T r to t):=h▸pe_bm pa slot hty hm ho ha hbase hfew hline hs hplain
theorem k_bm0 (h:X.K=K) (pa:PlainAttrs T) (slot:Slot T name id) (hty:typeOf (.builtin id)=pure (.type "method_descriptor")) (hm:MtR X id r) (ho:PE X o to)
  (hbase:attributeBase o name X.env (eval o X.env)=eval o X.env:=by rfl) (hline:(apos.endLine == cpos.line)=true:=by rfl):PE X (.Call (.Attribute o name apos) [] [] cpos) (tBM0 K T r to):=h▸pe_bm0 pa slot hty hm ho hbase hline
end
structure TopFn (K:W.Frag) (mg:Str->Option Value) (x:Str) (st:Stmt) (ps:List Str):Prop where
 ex:∃ f fd,Fun K x x st f fd/\mg x=some (.ref f)/\Binds K fd ps []
section
variable {P:Program} {w:World} {K:W.Frag} {mg:Str->Option Value} {base:Heap} {x:Str} {st:Stmt} {ps N:List Str} {sp:Sp} {k:Nat}
theorem TopFn.callee (T:TopFn K mg x st ps) (h:∀ f fd,Fun K x x st f fd->FnOk P w K mg base CX0 k f fd ps sp):Callee P w K mg base x k ps sp:=by
 obtain ⟨f,fd,F,hm,hb⟩:=T.ex
 exact ⟨f,fd,h f fd F,hm,F.kp,hb⟩
def sp1 (b:V->Hp->VK->Prop):Sp:=fun vs H Q j=>∃ x,vs=[x]/\b x H Q
def sp2 (b:V->V->Hp->VK->Prop):Sp:=fun vs H Q j=>∃ x y,vs=[x,y]/\b x y H Q
theorem use1 {b:V->Hp->VK->Prop} {x:V} {H:Hp} {Q:VK} {E:XK} (h:b x H Q):sp1 b [x] H Q E:=⟨x,rfl,h⟩
theorem use2 {b:V->V->Hp->VK->Prop} {x y:V} {H:Hp} {Q:VK} {E:XK} (h:b x y H Q):sp2 b [x,y] H Q E:=⟨x,y,rfl,h⟩
def mG (P:Program) (w:World) (K:W.Frag) (mg:Str->Option Value) (base:Heap) (N:List Str) (x:Str) (st:Stmt) (f:Addr) (cdv:Value) (A:Around) (outer:List Env) (s:Shared) (H:Hp) (vs:List V) (Q:VK) (E:XK):Prop :=
 ∃ t,PSs (cxOf CX0 P w K mg base N x (aD st) f cdv A outer s H E).nox (cH st) t/\t { nx:=fun j H'=>Q .non H',rt:=Q } (start N vs) H
theorem TopFn.ok1 {a1:Str} {b:V->Hp->VK->Prop} (T:TopFn K mg x st [a1]) (S:FnScope N [a1] (aD st))
  (h:∀ (f:Addr) (cdv:Value) (A:Around) (outer:List Env) (s:Shared) (H:Hp) (v1:V) (Q:VK) (E:XK),Room k (A.deeper (envOfC x (aD st) s.heap.objs.size f cdv))->b v1 H Q->mG P w K mg base N x st f cdv A outer s H [v1] Q E):Callee P w K mg base x (k+1) [a1] (sp1 b) :=
 T.callee fun f fd F=>F.ok S (fun vs H Q E ⟨_,e,_⟩=>by rw[e];rfl) fun cdv A outer s H vs Q E hr hsp=>by
  obtain ⟨v1,rfl,hb⟩:=hsp
  exact h f cdv A outer s H v1 Q E hr hb
theorem TopFn.ok2 {a1 a2:Str} {b:V->V->Hp->VK->Prop} (T:TopFn K mg x st [a1,a2]) (S:FnScope N [a1,a2] (aD st))
  (h:∀ (f:Addr) (cdv:Value) (A:Around) (outer:List Env) (s:Shared) (H:Hp) (v1 v2:V) (Q:VK) (E:XK),Room k (A.deeper (envOfC x (aD st) s.heap.objs.size f cdv))->b v1 v2 H Q->mG P w K mg base N x st f cdv A outer s H [v1,v2] Q E):Callee P w K mg base x (k+1) [a1,a2] (sp2 b) :=
 T.callee fun f fd F=>F.ok S (fun vs H Q E ⟨_,_,e,_⟩=>by rw[e];rfl) fun cdv A outer s H vs Q E hr hsp=>by
  obtain ⟨v1,v2,rfl,hb⟩:=hsp
  exact h f cdv A outer s H v1 v2 Q E hr hb
theorem mn {f:Addr} {cdv:Value} {A:Around} {outer:List Env} {s:Shared} {H:Hp} {vs:List V} {Q:VK} {E:XK} {t:TS} (Z:St) (hσ:start N vs=Z) (h:PSs (cxOf CX0 P w K mg base N x (aD st) f cdv A outer s H E).nox (cH st) t)
  (q:t { nx:=fun j H'=>Q .non H',rt:=Q } Z H):mG P w K mg base N x st f cdv A outer s H vs Q E:=⟨t,h,by rw[hσ];exact q⟩
end
end L2
namespace L2
open PySem PySem.Spec PyProof.Rows
theorem jI {b:Bool} {A B:Prop} (h:b=false) (q:B):if b=true then A else B:=by subst h;exact iteF q
theorem jX {b:Bool} {A B:Prop} (h:b=true) (q:A):if b=true then A else B:=by subst h;exact iteT q
theorem t7 {c A B:Prop} [Decidable c] (h:¬ c) (q:B):if decide c=true then A else B:=by rw[aQ h];exact iteF q
theorem sP {c A B:Prop} [Decidable c] (h:c) (q:A):if decide c=true then A else B:=by rw[aX h];exact iteT q
theorem ite_ny {c A B:Prop} [Decidable c] (h:¬ c) (q:A):if (!decide c)=true then A else B:=by rw[aQ h];exact iteT q
theorem cA {c A B:Prop} [Decidable c] (h:c->A) (q:¬ c->B):if decide c=true then A else B:=by
 by_cases e:c
 .exact sP e (h e)
 .exact t7 e (q e)
theorem sQ {c A B:Prop} [Decidable c] (h:¬ c->A) (q:c->B):if (!decide c)=true then A else B:=by
 by_cases e:c
 .exact iteNS e (q e)
 .exact ite_ny e (h e)
def pairD (p:Int×Int):D:=.tup [.int p.1,.int p.2]
end L2
namespace L2
theorem iw {n:Nat} (h:n<=1000000):n<=PySem.sizeLine:=aR h (by rw[PySem.sizeLine_eq];decide)
end L2
namespace L2
theorem gJ {A B:Prop} (h:B):if (!true)=true then A else B:=iteF h
end L2
namespace L2
open PySem
theorem Zk3 (ns:List Int) (lo hi:Option Int):∃ ms:List Int,cutV (ns.map V.int) lo hi=ms.map V.int/\ms.length<=ns.length:=by
 refine ⟨(ns.drop (HT.sIx (ns.map V.int).length 0 lo)).take (HT.sIx (ns.map V.int).length (ns.map V.int).length hi - HT.sIx (ns.map V.int).length 0 lo),?_,?_⟩
 .unfold cutV
  rw[map_take,map_drop]
 .rw[dM,gB]
  exact aR (jn _ _) (jo _ _)
theorem pL {K:W.Frag} {H:Hp} {a:Addr} {xs:List V} {lo hi:Option Int} {Q:VK} (h:SqL K H a xs) (q:∀ p,H p=none->Q (.ref p) (upd H p (.lst (cutV xs lo hi)))):rSlL K (.ref a) lo hi H Q:=⟨a,xs,rfl,h,q⟩
theorem ux {H:Hp} {l b:Addr} {xs zs:List V} {Q:VK} (h1:H l=some (.lst xs)) (h2:H b=some (.lst zs)) (hl:xs.length+zs.length<=sizeLine) (q:∀ p,H p=none->Q (.ref p) (upd H p (.lst (xs++zs)))):rCat (.ref l) (.ref b) H Q:=⟨l,b,xs,zs,rfl,rfl,h1,h2,hl,q⟩
theorem ints_get {ns:List Int} {i:Nat} {x:V} (h:(ns.map V.int)[i]?=some x):∃ z,x=.int z/\ns[i]?=some z:=by
 rw[aq] at h
 obtain ⟨z,e,rfl⟩:=bc.mp h
 exact ⟨z,rfl,e⟩
theorem Zm6 {H:Hp} {a b:Addr} {o u:HO} (h:H b=some u) (hn:H a=none):upd H a o b=some u:=by rw[bh (g9 h hn)];exact h
def j8 (K:W.Frag):Sp:=sp1 fun x H Q=>∃ (a:Addr) (ns:List Int),x=.ref a/\SqL K H a (ns.map V.int)/\ns.length<=63/\∀ H',Q (.bl true) H'
theorem ZlA {K:W.Frag} {H:Hp} {a:Addr} {ns:List Int} {E:XK} (hl:ns.length<=63) (hS:SqL K H a (ns.map V.int)):j8 K [.ref a] H (fun v j=>v=.bl true) E:=⟨_,rfl,a,ns,rfl,hS,hl,fun j=>rfl⟩
theorem Fun.law {P:Program} {w:World} {K:W.Frag} {mg:Str->Option Value} {base:Heap} {st:Stmt} {f:Addr} {fd:FuncData} {N:List Str} {k:Nat} (F:Fun K "law" "law" st f fd) (S:FnScope N ["script"] (aD st))
  (h:∀ (cdv:Value) (A:Around) (outer:List Env) (s:Shared) (H:Hp) (a:Addr) (ns:List Int) (Q:VK) (E:XK),Room k (A.deeper (PyProof.Rows.envOfC "law" (aD st) s.heap.objs.size f cdv))->SqL K H a (ns.map V.int)->ns.length<=63->(∀ H',Q (.bl true) H') ->
   mG P w K mg base N "law" st f cdv A outer s H [.ref a] Q E):FnOk P w K mg base CX0 (k+1) f fd ["script"] (j8 K) :=
 F.ok S (fun vs H Q E ⟨_,e,_⟩=>by rw[e];rfl) fun cdv A outer s H vs Q E hr hsp=>by
  obtain ⟨j,rfl,a,ns,rfl,h1,h2,h3⟩:=hsp
  exact h cdv A outer s H a ns Q E hr h1 h2 h3
end L2
namespace L2
theorem ten60:(10:Int) ^ (60:Int).toNat=1000000000000000000000000000000000000000000000000000000000000:=by decide +kernel
theorem m3:CPow 10 60:=⟨by decide,by decide,by decide⟩
theorem oy {x:Int} (h:x.natAbs<=10 ^ 70):x.natAbs < 2 ^ 8000:=ia h (by decide +kernel)
theorem sS {x y:Int} (h:x.natAbs<=10 ^ 70) (h2:y.natAbs<=10 ^ 70):CBig x y:=⟨oy h,oy h2⟩
theorem j7 {x y:Int} (h:0 < y) (h2:y.natAbs<=10 ^ 70):i4 x y:=⟨h,oy h2⟩
end L2
end
section
namespace L2
open PySem PySem.W PyProof.Rows
abbrev xs (n:String) (t:Tok):Value:=.str (Str.ofString n) t
abbrev xi (n:Int) (t:Tok):Value:=.int n t
abbrev xr (a:Addr):Value:=.ref a
abbrev xe (P:Params) (n:String) (t:Tok) (v:Value):DictEntry:=⟨PyData.keyHash P (Str.ofString n),.str (Str.ofString n) t,v⟩
abbrev oD (es:Array DictEntry) (n:Nat):Obj:={ cls:=.type "dict",data:=.dict es n }
abbrev oT (vs:Array Value):Obj:={ cls:=.type "tuple",data:=.seq vs }
abbrev oC (vs:Array Value):Obj:={ cls:=.type "code",data:=.fields vs }
abbrev oF (n q:Str) (st:Stmt) (m:String) (t:Tok) (c:Addr):Obj:={ cls:=.type "function",data:=.func (fnOf n q (eO st) (cH st) (aD st) .none .none .none (xs m t) none (xr c) .none) }
abbrev oG (n:Str) (st:Stmt) (m:String) (t:Tok) (c:Addr):Obj:=oF n n st m t c
abbrev xf (P:Params) (n:String) (t:Tok) (a:Addr):DictEntry:=xe P n t (xr a)
abbrev oK (n:String) (t l a r:Nat):Obj:=oC #[xs n t,xs n (t+1),xs "/claim/cut.py" (t+2),xi l 0,xi a 0,xi 0 0,xi 0 0,xi 3 0,xr r,.bool true,xi 181 0,xr (r+1),.none,.none,.none,xr (r+2),xi (t+3) 0,xi l 0,xs "/claim/cut.py" (t+4)]
theorem Zje {p q:Program} {loose:List Str} {Xt:Shared->Bool} {α:Type} {Yf:Shared->α} {Ya:World->α} {N:Nat} (row:String)
  (e:opening p=plainProg p.main.scope.names) (hN:Nat.ble 600 N=true) (f:∀ s,fenceModules? p s=some s)
  (h:∀ (b:Bool) (w:World) (os:OsState),(topFrom treeTable p (w.withFollow row b) N ⟨jt (w.withFollow row b).params,Array.mk [],boot_drawn,boot_toks,os⟩).map (fun s=>(openSeen q loose (importedModules p.main.body) Xt true s,Yf s))=some (openGood q loose,Ya (w.withFollow row b))) :
  LeftO p q loose Xt Yf Ya N:=fun w=>by
 have h':=byRow2 row (P:=fun w=>∀ os,(topFrom treeTable p w N ⟨jt w.params,Array.mk [],boot_drawn,boot_toks,os⟩).map (fun s=>(openSeen q loose (importedModules p.main.body) Xt true s,Yf s))=some (openGood q loose,Ya w)) (fun w=>h false w) (fun w=>h true w) w
 obtain ⟨⟨hp,gs,d,k,os⟩,e1,e2⟩:=bc.mp (boot_open e hN f w)
 obtain ⟨rfl,rfl,rfl,rfl⟩:hp=jt w.params/\gs=Array.mk []/\d=boot_drawn/\k=boot_toks:=by simpa using e2
 unfold openEnds
 rw[e1]
 exact h' os
theorem top_tw {p:Program} {w:World} {N:Nat} {s₀:Shared} {β:Type} {F:Shared->β} {r:β} {m:Nat} {ann:Option Value}
  (z1:(s₀.heap.isNs mainGlobals && s₀.gens.size == 0)=true) (z2:s₀.heap.objs.size=m) (z3:s₀.heap.nsMap mainGlobals "__annotations__"=ann)
  (h:((PySem.W.Fast.tw14082659384304107361 PySem.W.Fast.tw14364793385576792824 p w m ann N s₀ (topStub p)).bind fun s₁=>match staticsOk (importedModules p.main.body) s₀.heap s₁.heap && namesBound p s₁.heap && gensDone s₁ && laidKept s₀.heap s₁.heap with|true=>some s₁|false=>none).map F=some r) :
  (topFrom treeTable p w N s₀).map F=some r:=by
 unfold topFrom
 rw[z1,z2,z3,PySem.W.Fast.te14082659384304107361,PySem.W.Fast.te14364793385576792824]
 exact h
abbrev LB (row:String) (b:Bool) (p q:Program) (loose:List Str) (Xt:Shared->Bool) {α:Type} (Yf:Shared->α) (Ya:World->α) (N:Nat):Prop :=
 ∀ (w:World) (os:OsState),((PySem.W.Fast.tw14082659384304107361 PySem.W.Fast.tw14364793385576792824 p (w.withFollow row b) 11 (some (.ref 6)) N ⟨jt (w.withFollow row b).params,Array.mk [],boot_drawn,boot_toks,os⟩ (topStub p)).bind fun s=>match staticsOk (importedModules p.main.body) (jt (w.withFollow row b).params) s.heap && namesBound p s.heap && gensDone s && laidKept (jt (w.withFollow row b).params) s.heap with|true=>some s|false=>none).map (fun s=>(PySem.W.Fast.tw4187177175401517315 q loose (importedModules p.main.body) Xt true s,Yf s))=some (openGood q loose,Ya (w.withFollow row b))
theorem Zky {p q:Program} {loose:List Str} {Xt:Shared->Bool} {α:Type} {Yf:Shared->α} {Ya:World->α} {N:Nat} {row:String} (h0:LB row false p q loose Xt Yf Ya N) (h1:LB row true p q loose Xt Yf Ya N)
  (e:opening p=plainProg p.main.scope.names:=by kernel_rfl) (hN:Nat.ble 600 N=true:=by kernel_rfl) (f:∀ s,fenceModules? p s=some s:=by intro s;kernel_rfl):LeftO p q loose Xt Yf Ya N:=by
 refine Zje row e hN f fun b w os=>?_
 refine top_tw (m:=11) (ann:=some (.ref 6)) (by kernel_rfl) (by kernel_rfl) (by kernel_rfl) ?_
 rw[PySem.W.Fast.te4187177175401517315]
 cases b
 .exact h0 w os
 .exact h1 w os
theorem uc {M:List Value->Prop} {n:Nat} (h:∀ a us,us.length=n->M (a::us)) (us:List Value) (hl:us.length=n+1):M us:=by
 cases us with
 | nil=>cases hl
 | cons a us=>exact h a us (Nat.succ.inj hl)
theorem un0 {M:List Value->Prop} (h:M []) (us:List Value) (hl:us.length=0):M us:=by
 cases us with
 | nil=>exact h
 | cons a us=>cases hl
section
variable {K:Frag} {h:Heap} {mg:Str->Option Value} {x m qual:Str} {st:Stmt}
theorem gv {v:Value} (X:K.In h) (G:h.Ns mainGlobals mg) (e:nsIn K mainGlobals x=some (some v):=by kernel_rfl):mg x=some v:=mg_of X G e
theorem gz (X:K.In h) (G:h.Ns mainGlobals mg) (e:nsIn K mainGlobals x=some none:=by kernel_rfl):mg x=none:=mg_none_of X G e
theorem lo (a:Addr) (o:Obj) (e:K.lookup a=some o:=by kernel_rfl):K.lookup a=some o:=e
theorem tf1 {p1:Str} (X:K.In h) (G:h.Ns mainGlobals mg) (f:Addr) (md:String) (t:Tok) (c:Addr) (a:nsIn K mainGlobals x=some (some (.ref f)):=by kernel_rfl) (l:K.lookup f=some (oF x x st md t c):=by kernel_rfl) (cc:codeIn K (xr c) x=true:=by kernel_rfl) (k:keepIn K (.ref f)=true:=by kernel_rfl)
  (b:∀ (kV doc pm:Value) (an:Option Addr) (cdv ct:Value) (u1:Value),bindArgs (fnOf x x (eO st) (cH st) (aD st) .none kV doc pm an cdv ct) ⟨[u1],[]⟩=pure [(p1,u1)]:=by intros;kernel_rfl):TopFn K mg x st [p1] :=
 ⟨_,_,dA l cc k,mg_of X G a,(dA l cc k).binds fun j j j j j j=>uc fun j=>un0 (b ..)⟩
theorem tf2 {p1 p2:Str} (X:K.In h) (G:h.Ns mainGlobals mg) (f:Addr) (md:String) (t:Tok) (c:Addr) (a:nsIn K mainGlobals x=some (some (.ref f)):=by kernel_rfl) (l:K.lookup f=some (oF x x st md t c):=by kernel_rfl) (cc:codeIn K (xr c) x=true:=by kernel_rfl) (k:keepIn K (.ref f)=true:=by kernel_rfl)
  (b:∀ (kV doc pm:Value) (an:Option Addr) (cdv ct:Value) (u1 u2:Value),bindArgs (fnOf x x (eO st) (cH st) (aD st) .none kV doc pm an cdv ct) ⟨[u1,u2],[]⟩=pure [(p1,u1),(p2,u2)]:=by intros;kernel_rfl):TopFn K mg x st [p1,p2] :=
 ⟨_,_,dA l cc k,mg_of X G a,(dA l cc k).binds fun j j j j j j=>uc fun j=>uc fun j=>un0 (b ..)⟩
theorem tf3 {p1 p2 p3:Str} (X:K.In h) (G:h.Ns mainGlobals mg) (f:Addr) (md:String) (t:Tok) (c:Addr) (a:nsIn K mainGlobals x=some (some (.ref f)):=by kernel_rfl) (l:K.lookup f=some (oF x x st md t c):=by kernel_rfl) (cc:codeIn K (xr c) x=true:=by kernel_rfl) (k:keepIn K (.ref f)=true:=by kernel_rfl)
  (b:∀ (kV doc pm:Value) (an:Option Addr) (cdv ct:Value) (u1 u2 u3:Value),bindArgs (fnOf x x (eO st) (cH st) (aD st) .none kV doc pm an cdv ct) ⟨[u1,u2,u3],[]⟩=pure [(p1,u1),(p2,u2),(p3,u3)]:=by intros;kernel_rfl):TopFn K mg x st [p1,p2,p3] :=
 ⟨_,_,dA l cc k,mg_of X G a,(dA l cc k).binds fun j j j j j j=>uc fun j=>uc fun j=>uc fun j=>un0 (b ..)⟩
theorem tf4 {p1 p2 p3 p4:Str} (X:K.In h) (G:h.Ns mainGlobals mg) (f:Addr) (md:String) (t:Tok) (c:Addr) (a:nsIn K mainGlobals x=some (some (.ref f)):=by kernel_rfl) (l:K.lookup f=some (oF x x st md t c):=by kernel_rfl) (cc:codeIn K (xr c) x=true:=by kernel_rfl) (k:keepIn K (.ref f)=true:=by kernel_rfl)
  (b:∀ (kV doc pm:Value) (an:Option Addr) (cdv ct:Value) (u1 u2 u3 u4:Value),bindArgs (fnOf x x (eO st) (cH st) (aD st) .none kV doc pm an cdv ct) ⟨[u1,u2,u3,u4],[]⟩=pure [(p1,u1),(p2,u2),(p3,u3),(p4,u4)]:=by intros;kernel_rfl):TopFn K mg x st [p1,p2,p3,p4] :=
 ⟨_,_,dA l cc k,mg_of X G a,(dA l cc k).binds fun j j j j j j=>uc fun j=>uc fun j=>uc fun j=>uc fun j=>un0 (b ..)⟩
theorem tf5 {p1 p2 p3 p4 p5:Str} (X:K.In h) (G:h.Ns mainGlobals mg) (f:Addr) (md:String) (t:Tok) (c:Addr) (a:nsIn K mainGlobals x=some (some (.ref f)):=by kernel_rfl) (l:K.lookup f=some (oF x x st md t c):=by kernel_rfl) (cc:codeIn K (xr c) x=true:=by kernel_rfl) (k:keepIn K (.ref f)=true:=by kernel_rfl)
  (b:∀ (kV doc pm:Value) (an:Option Addr) (cdv ct:Value) (u1 u2 u3 u4 u5:Value),bindArgs (fnOf x x (eO st) (cH st) (aD st) .none kV doc pm an cdv ct) ⟨[u1,u2,u3,u4,u5],[]⟩=pure [(p1,u1),(p2,u2),(p3,u3),(p4,u4),(p5,u5)]:=by intros;kernel_rfl):TopFn K mg x st [p1,p2,p3,p4,p5] :=
 ⟨_,_,dA l cc k,mg_of X G a,(dA l cc k).binds fun j j j j j j=>uc fun j=>uc fun j=>uc fun j=>uc fun j=>uc fun j=>un0 (b ..)⟩
theorem tf6 {p1 p2 p3 p4 p5 p6:Str} (X:K.In h) (G:h.Ns mainGlobals mg) (f:Addr) (md:String) (t:Tok) (c:Addr) (a:nsIn K mainGlobals x=some (some (.ref f)):=by kernel_rfl) (l:K.lookup f=some (oF x x st md t c):=by kernel_rfl) (cc:codeIn K (xr c) x=true:=by kernel_rfl) (k:keepIn K (.ref f)=true:=by kernel_rfl)
  (b:∀ (kV doc pm:Value) (an:Option Addr) (cdv ct:Value) (u1 u2 u3 u4 u5 u6:Value),bindArgs (fnOf x x (eO st) (cH st) (aD st) .none kV doc pm an cdv ct) ⟨[u1,u2,u3,u4,u5,u6],[]⟩=pure [(p1,u1),(p2,u2),(p3,u3),(p4,u4),(p5,u5),(p6,u6)]:=by intros;kernel_rfl):TopFn K mg x st [p1,p2,p3,p4,p5,p6] :=
 ⟨_,_,dA l cc k,mg_of X G a,(dA l cc k).binds fun j j j j j j=>uc fun j=>uc fun j=>uc fun j=>uc fun j=>uc fun j=>uc fun j=>un0 (b ..)⟩
end
end L2
end
section
namespace L2
open PySem
def bagL (l:Addr) (i m st c:Int):List V:=[.ref l,.int i,.int m,.int st,.int c]
structure BagAt (H:Hp) (b l:Addr):Prop where
 ex:∃ (xs:List Int) (i:Nat) (m st c:Int),H b=some (.lst (bagL l i m st c))/\H l=some (.lst (xs.map V.int))/\i<=xs.length/\(0<=m/\m<=10 ^ 60)/\(0<=st/\st < 2147483647)/\(∀ x∈xs,0<=x/\x<=10 ^ 60)/\xs.length<=63
def BSame (b:Addr) (H H':Hp):Prop:=∀ a o,a≠b->H a=some o->H' a=some o
theorem BSame.refl (b:Addr) (H:Hp):BSame b H H:=fun j j j h=>h
theorem BSame.trans {b:Addr} {H H1 H2:Hp} (x:BSame b H H1) (y:BSame b H1 H2):BSame b H H2:=fun a o n h=>y a o n (x a o n h)
theorem BSame.wr {b:Addr} {H:Hp} {o:HO}:BSame b H (upd H b o):=fun a u n h=>by rw[bh n];exact h
theorem BagAt.lst {H:Hp} {b l:Addr} (B:BagAt H b l):∃ xs,H b=some (.lst xs):=let ⟨_,_,_,_,_,h,_⟩:=B.ex;⟨_,h⟩
inductive drawB (x y:V) (H:Hp) (Q:VK):Prop
 | mk (b l n) (_:x=.ref b) (_:y=.int n) (_:0 < n/\n<=10 ^ 65) (_:BagAt H b l) (_:∀ r H',0<=r->r < n->BagAt H' b l->BSame b H H'->Q (.int r) H'):drawB x y H Q
def dH:Sp:=sp2 drawB
inductive Pr_number (x:V) (H:Hp) (Q:VK):Prop
 | mk (b l) (_:x=.ref b) (_:BagAt H b l) (_:∀ r H',r.natAbs<=10 ^ 60->BagAt H' b l->BSame b H H'->Q (.int r) H'):Pr_number x H Q
def j0:Sp:=sp1 (Pr_number)
inductive Pr_bag (K:W.Frag) (x:V) (H:Hp) (Q:VK):Prop
 | mk (a:Addr) (ns:List Int) (_:x=.ref a) (_:SqL K H a (ns.map V.int)) (_:ns.length<=63) (_:∀ b l H',H b=none->Same H H'->BagAt H' b l->Q (.ref b) H'):Pr_bag K x H Q
def sM (K:W.Frag):Sp:=sp1 (Pr_bag K)
end L2
end
section
namespace L3
open PySem PyProof.Rows
class KOrd where
 kd:SortKind
 good:Keyed->Prop
 kv:Keyed->Int
abbrev oneType' [KOrd]:SortKind:=KOrd.kd
def IntK [KOrd] (x:Keyed):Prop:=KOrd.good x
def kvl [KOrd] (x:Keyed):Int:=KOrd.kv x
def IntKeys [KOrd] (xs:Array Keyed):Prop:=∀ q,q∈xs.toList->IntK q
def K [KOrd] (xs:Array Keyed) (i:Nat):Int:=match xs[i]? with
 | some q=>kvl q
 | none=>0
class KLt [KOrd] (P:Program) (W:World) (A:Around) (E:Value->Shared->Prop) (z:Shared):Prop where
 lt:∀ {u:SortSt} {x y:Keyed} {Q:Option Bool->SortSt->Prop},kindOf u=oneType'->IntK x->IntK y->Q (some (decide (kvl x < kvl y))) u->wpS (model P W) A E z (lt' x y) Q u
section
variable [KOrd]
theorem K_eq' {arr:Array Keyed} {i:Nat} (h:i < arr.size):K arr i=kvl arr[i]:=by
 unfold K
 rw[getElem?_pos arr i h]
theorem K_congr {xs ys:Array Keyed} {i j:Nat} (h:xs[i]?=ys[j]?):K xs i=K ys j:=by unfold K;rw[h]
theorem K_mirror {xs:Array Keyed} {i j:Nat} (hj:j<=xs.size) (k:Nat):K (mirror xs i j ((j - i) / 2)) k=if i<=k/\k < j then K xs (i+j - 1 - k) else K xs k:=by
 have e:=getElem?_mirror_all (i:=i) hj k
 by_cases h1:i<=k/\k < j
 .rw[ah h1] at e ⊢
  exact K_congr e
 .rw[ai h1] at e ⊢
  exact K_congr e
theorem K_mirror_equal {xs:Array Keyed} {i j:Nat} (hj:j<=xs.size) (heq:∀ k,i<=k->k < j->K xs k=K xs (j - 1)) (k:Nat):K (mirror xs i j ((j - i) / 2)) k=K xs k:=by
 rw[K_mirror hj]
 split
 .rw[heq _ (by lia) (by lia),heq k (by lia) (by lia)]
 .rfl
theorem K_bubble {xs:Array Keyed} {src d:Nat} (hs:src < xs.size) (hd:d<=src) (k:Nat):K (bubble xs src d) k=if k=src - d then K xs src else if src - d < k/\k<=src then K xs (k - 1) else K xs k:=by
 have e:=getElem?_bubble hs d hd k
 by_cases h1:k=src - d
 .rw[ah h1] at e ⊢
  exact K_congr e
 .rw[ai h1] at e ⊢
  by_cases h2:src - d < k/\k<=src
  .rw[ah h2] at e ⊢
   exact K_congr e
  .rw[ai h2] at e ⊢
   exact K_congr e
end
theorem wpS_reverse {P:Program} {W:World} {A:Around} {E:Value->Shared->Prop} {z:Shared} {st:SortSt} {i j:Nat} {Q:Unit->SortSt->Prop} (h:Q () (setArr st (mirror (arrOf st) i j ((j - i) / 2)))):wpS (model P W) A E z (reverseSlice' i j) Q st:=by
 rw[reverseSlice'_eq]
 exact wpS_modify h
section
variable [KOrd] {P:Program} {W:World} {A:Around} {E:Value->Shared->Prop} {z:Shared} [KLt P W A E z]
theorem Zm3 {u:SortSt} {x y:Keyed} {Q:Option Bool->SortSt->Prop} (hk:kindOf u=oneType') (hx:IntK x) (hy:IntK y) (h:Q (some (decide (kvl x < kvl y))) u):wpS (model P W) A E z (lt' x y) Q u:=KLt.lt hk hx hy h
def bey (left:Bool) (kv:Int) (arr:Array Keyed) (base i:Nat):Bool:=if left then decide (K arr (base+i) < kv) else !decide (kv < K arr (base+i))
end
end L3
end
section
namespace L3
open PySem PyProof.Rows
variable [KOrd]
def Zob (xs:List Keyed):Prop:=xs.Pairwise fun p q=>kvl p<=kvl q
section
variable {P:Program} {W:World} {A:Around} {E:Value->Shared->Prop} {z:Shared} [KLt P W A E z]
theorem rJ {u:SortSt} {arr:Array Keyed} {i:Nat} {Q:Keyed->SortSt->Prop} (h:i < arr.size) (q:Q arr[i] u):wpS (model P W) A E z (elem' arr i) Q u:=by
 rw[elem'_eq,getElem?_pos arr i h]
 exact bo q
structure Fr (u v:SortSt):Prop where
 kind:kindOf v=kindOf u
 arr:arrOf v=arrOf u
 pend:pendingOf v=pendingOf u
 failed:failedOf v=failedOf u
end
theorem mz {a:Array Keyed} {i:Nat} (h:i < a.size):K a i=kvl a[i]:=K_eq' h
theorem sT {a:Array Keyed} (h:IntKeys a) {i:Nat} (hi:i < a.size):IntK a[i]:=h _ (Array.getElem_mem_toList hi)
end L3
end
section
namespace L3
open PySem PyProof.Rows
variable [KOrd]
def SegS (xs:Array Keyed) (lo n:Nat):Prop:=∀ i j,lo<=i->i<=j->j < lo+n->K xs i<=K xs j
theorem SegS.list {xs:Array Keyed} {lo n:Nat} (h:SegS xs lo n) (hs:lo+n<=xs.size):Zob ((xs.toList.drop lo).take n):=by
 refine pairwise_iff_getElem.mpr fun i j hi hj hij=>?_
 rw[dM,gB] at hi hj
 have hl:xs.toList.length=xs.size:=by simp
 have:=h (lo+i) (lo+j) (by lia) (by lia) (by lia)
 rw[mz (show lo+i < xs.size by lia),mz (show lo+j < xs.size by lia)] at this
 simpa using this
end L3
end
section
namespace L3
open PySem PyProof.Rows
variable [KOrd]
structure Bas (a₀:Array Keyed) (p:Array (Nat×Nat×Nat)) (st:SortSt):Prop where
 perm:(arrOf st).Perm a₀
 kind:kindOf st=oneType'
 failed:failedOf st=none
 pend:pendingOf st=p
section
variable {P:Program} {W:World} {A:Around} {E:Value->Shared->Prop} {z:Shared} [KLt P W A E z] {a₀:Array Keyed} {p:Array (Nat×Nat×Nat)}
theorem Bas.size {st:SortSt} (h:Bas a₀ p st):(arrOf st).size=a₀.size:=h.perm.size_eq
theorem Bas.setArr {st:SortSt} (h:Bas a₀ p st) {xs:Array Keyed} (hp:xs.Perm (arrOf st)):Bas a₀ p (setArr st xs):=⟨hp.trans h.perm,h.kind,h.failed,h.pend⟩
theorem Zhd {xs:Array Keyed} (h0:IntKeys a₀) (h:xs.Perm a₀):IntKeys xs:=fun q hq=>h0 q ((uZ.mp h).mem_iff.mp hq)
theorem eQ {st:SortSt} {i j:Nat} {Q:Option Bool->SortSt->Prop} (hB:Bas a₀ p st) (h0:IntKeys a₀) (hi:i < a₀.size) (hj:j < a₀.size) (h:Q (some (decide (K (arrOf st) i < K (arrOf st) j))) st):wpS (model P W) A E z (ltAt' i j) Q st:=by
 have hI:=Zhd h0 hB.perm
 have e1:i < (arrOf st).size:=by rw[hB.size];exact hi
 have e2:j < (arrOf st).size:=by rw[hB.size];exact hj
 rw[ltAt'_eq]
 refine aY (wpS_get ?_)
 refine aY (rJ e1 ?_)
 refine aY (rJ e2 ?_)
 rw[mz e1,mz e2] at h
 exact Zm3 hB.kind (sT hI e1) (sT hI e2) h
def Kept (lo:Nat) (st st':SortSt):Prop:=∀ i,i < lo->K (arrOf st') i=K (arrOf st) i
theorem Kept.refl (lo:Nat) (st:SortSt):Kept lo st st:=fun j j=>rfl
theorem Kept.trans {lo:Nat} {s1 s2 s3:SortSt} (h:Kept lo s1 s2) (g:Kept lo s2 s3):Kept lo s1 s3:=fun i hi=>(g i hi).trans (h i hi)
theorem Kept.mirror {lo:Nat} {st:SortSt} {i j:Nat} (hi:lo<=i) (hj:j<=(arrOf st).size):Kept lo st (setArr st (mirror (arrOf st) i j ((j - i) / 2))):=fun k hk=>by
 show K (PyProof.Rows.mirror (arrOf st) i j ((j - i) / 2)) k=_
 rw[K_mirror hj,ai (by lia)]
def fH (xs:Array Keyed) (lo n:Nat):Prop:=∀ i j,lo<=i->i<=j->j < lo+n->K xs j<=K xs i
theorem j9 {st:SortSt} {lo a nrem:Nat} {β:Type} {o:Option β} {f:Nat->Option β×Nat->StateT SortSt Sem (ForInStep (Option β×Nat))} {Q:Option β×Nat->SortSt->Prop} (ha:1<=a) (han:a<=nrem) (hs:SegS (arrOf st) lo a)
  (hf:∀ x n (R:ForInStep (Option β×Nat)->SortSt->Prop),1<=n->n < nrem->(K (arrOf st) (lo+n) < K (arrOf st) (lo+n - 1)->R (.done (o,n)) st)->(¬ K (arrOf st) (lo+n) < K (arrOf st) (lo+n - 1)->R (.yield (o,n+1)) st)->wpS (model P W) A E z (f x (o,n)) R st)
  (h:∀ n,a<=n->n<=nrem->SegS (arrOf st) lo n->(n=nrem\/K (arrOf st) (lo+n) < K (arrOf st) (lo+n - 1))->Q (o,n) st):wpS (model P W) A E z (forIn [a:nrem] (o,a) f) Q st:=by
 refine ju (I:=fun x c st'=>st'=st/\c=(o,x)/\SegS (arrOf st) lo x) ?step ?fin ⟨rfl,rfl,hs⟩
 case fin =>
  rintro c st' ⟨rfl,rfl,hs'⟩
  rw[show max a nrem=nrem by lia] at hs' ⊢
  exact h nrem han (aA _) hs' (.inl rfl)
 case step =>
  rintro x c st' hax hxn ⟨rfl,rfl,hs'⟩
  refine hf x x _ (by lia) hxn (fun hl=>h x hax (by lia) hs' (.inr hl)) fun hl=>⟨rfl,rfl,fun i j h1 hij hj=>?_⟩
  by_cases hjx:j < lo+x
  .exact hs' i j h1 hij hjx
  .have hj':j=lo+x:=by lia
   subst hj'
   by_cases hi':i=lo+x
   .subst hi';exact eo _
   .exact Int.le_trans (hs' i (lo+x - 1) h1 (by lia) (by lia)) (Int.not_lt.mp hl)
theorem tX {st:SortSt} {lo n nrem:Nat} {β:Type} {o:Option β} {f:Nat->Option β×Nat×Nat->StateT SortSt Sem (ForInStep (Option β×Nat×Nat))} {Q:Option β×Nat×Nat->SortSt->Prop} (hn:lo+nrem<=a₀.size) (h1:1<=n) (hnn:n<=nrem) (hB:Bas a₀ p st) (hs:fH (arrOf st) lo n)
  (hf:∀ x m q st' (R:ForInStep (Option β×Nat×Nat)->SortSt->Prop),Bas a₀ p st'->1<=m->m < nrem ->
   (K (arrOf st') (lo+m) < K (arrOf st') (lo+m - 1)->q > 0->R (.yield (o,m+1,0)) (setArr st' (mirror (arrOf st') (lo+m - (q+1)) (lo+m) ((lo+m - (lo+m - (q+1))) / 2)))) ->
   (K (arrOf st') (lo+m) < K (arrOf st') (lo+m - 1)->¬ q > 0->R (.yield (o,m+1,0)) st') ->
   (¬ K (arrOf st') (lo+m) < K (arrOf st') (lo+m - 1)->K (arrOf st') (lo+m - 1) < K (arrOf st') (lo+m)->R (.done (o,m,q)) st') ->
   (¬ K (arrOf st') (lo+m) < K (arrOf st') (lo+m - 1)->¬ K (arrOf st') (lo+m - 1) < K (arrOf st') (lo+m)->R (.yield (o,m+1,q+1)) st')->wpS (model P W) A E z (f x (o,m,q)) R st')
  (h:∀ m q st',Bas a₀ p st'->Kept lo st st'->n<=m->m<=nrem->fH (arrOf st') lo m->q+1<=m->(∀ i,lo+m - (q+1)<=i->i < lo+m->K (arrOf st') i=K (arrOf st') (lo+m - 1))->Q (o,m,q) st') :
  wpS (model P W) A E z (forIn [n:nrem] (o,n,0) f) Q st:=by
 refine ju (I:=fun x c st'=>∃ q,c=(o,x,q)/\Bas a₀ p st'/\Kept lo st st'/\fH (arrOf st') lo x/\q+1<=x /\
   (∀ i,lo+x - (q+1)<=i->i < lo+x->K (arrOf st') i=K (arrOf st') (lo+x - 1))) ?step ?fin ⟨0,rfl,hB,Kept.refl _ _,hs,by lia,fun i q1 q2=>by congr 1;lia⟩
 case fin =>
  rintro c st' ⟨q,rfl,hB',hK,hs',hq,he⟩
  rw[show max n nrem=nrem by lia] at hs' hq he ⊢
  exact h nrem q st' hB' hK hnn (aA _) hs' hq he
 case step =>
  rintro x c st' hax hxn ⟨q,rfl,hB',hK,hs',hq,he⟩
  have hsz:lo+x<=(arrOf st').size:=by rw[hB'.size];lia
  have step1:K (arrOf st') (lo+x) < K (arrOf st') (lo+x - 1)->∀ xs:Array Keyed,(∀ k,K xs k=K (arrOf st') k)->fH xs lo (x+1):=by
   intro hless xs hk i j h1 hij hj
   rw[hk,hk]
   by_cases hjx:j < lo+x
   .exact hs' i j h1 hij hjx
   .have hj':j=lo+x:=by lia
    subst hj'
    by_cases hi':i=lo+x
    .subst hi';exact eo _
    .exact Int.le_trans (kP hless) (hs' i (lo+x - 1) h1 (by lia) (by lia))
  refine hf x x q st' _ hB' (by lia) hxn (fun hless hneq=>?_) (fun hless hneq=>?_) (fun hless hl=>?_) (fun hless hl=>?_)
  .exact ⟨0,rfl,hB'.setArr (gG _ _ _ _),hK.trans (Kept.mirror (by lia) hsz),step1 hless _ (K_mirror_equal hsz he),by lia,fun i q1 q2=>by congr 1;lia⟩
  .exact ⟨0,rfl,hB',hK,step1 hless _ (fun y=>rfl),by lia,fun i q1 q2=>by congr 1;lia⟩
  .exact h x q st' hB' hK hax (by lia) hs' hq he
  .have heqx:K (arrOf st') (lo+x)=K (arrOf st') (lo+x - 1):=by lia
   refine ⟨q+1,rfl,hB',hK,fun i j h1 hij hj=>?_,by lia,fun i q1 q2=>?_⟩
   .by_cases hjx:j < lo+x
    .exact hs' i j h1 hij hjx
    .have hj':j=lo+x:=by lia
     subst hj'
     by_cases hi':i=lo+x
     .subst hi';exact eo _
     .rw[heqx];exact hs' i (lo+x - 1) h1 (by lia) (by lia)
   .rw[show lo+(x+1) - 1=lo+x by lia]
    by_cases hix:i=lo+x
    .subst hix;rfl
    .rw[heqx];exact he i (by lia) (by lia)
theorem lf {lo n:Nat} {xs:Array Keyed} (hsz:lo+n<=xs.size) (hs:fH xs lo n):SegS (mirror xs lo (lo+n) ((lo+n - lo) / 2)) lo n:=by
 intro i j h1 hij hj
 rw[K_mirror hsz,K_mirror hsz,ah (by lia),ah (by lia)]
 exact hs _ _ (by lia) (by lia) (by lia)
theorem ZiX {st:SortSt} {lo nrem:Nat} {Q:Option Nat->SortSt->Prop} (h0:IntKeys a₀) (hn:lo+nrem<=a₀.size) (h1:1<=nrem) (hB:Bas a₀ p st)
  (h:∀ m st',Bas a₀ p st'->Kept lo st st'->1<=m->m<=nrem->SegS (arrOf st') lo m->Q (some m) st'):wpS (model P W) A E z (countRun' lo nrem) Q st:=by
 refine aY (j9 (lo:=lo) (aA 1) h1 (fun i j q1 q2 q3=>by
  have:i=j:=by lia
  subst this
  exact eo _) ?_ fun n hn1 hn2 hsn hor=>?_)
 .intro x k R k1 k2 y1 y2
  dsimp only
  refine aY (eQ hB h0 (by lia) (by lia) ?_)
  dsimp only
  by_cases hl:K (arrOf st) (lo+k) < K (arrOf st) (lo+k - 1)
  .rw[aX hl,ah rfl]
   exact bo (y1 hl)
  .rw[aQ hl,ai (by decide)]
   exact bo (y2 hl)
 dsimp only
 by_cases hnn:n=nrem
 .rw[ah (by simpa using hnn)]
  exact bo (h n st hB (Kept.refl _ _) hn1 hn2 hsn)
 rw[ai (by simpa using hnn)]
 have hlt:K (arrOf st) (lo+n) < K (arrOf st) (lo+n - 1):=hor.resolve_left hnn
 by_cases hgt:n > 1
 .rw[ah hgt]
  refine aY (eQ hB h0 (by lia) (by lia) ?_)
  dsimp only
  by_cases hrose:K (arrOf st) lo < K (arrOf st) (lo+n - 1)
  .rw[aX hrose,ah rfl]
   exact bo (h n st hB (Kept.refl _ _) hn1 hn2 hsn)
  .rw[aQ hrose,ai (by decide)]
   have hszn:lo+n<=(arrOf st).size:=by rw[hB.size];lia
   have hall:∀ k,lo<=k->k < lo+n->K (arrOf st) k=K (arrOf st) (lo+n - 1):=by
    intro k k1 k2
    have a1:=hsn lo k (aA _) k1 k2
    have a2:=hsn k (lo+n - 1) k1 (by lia) (by lia)
    lia
   refine aY (wpS_reverse ?_)
   have hB1:=hB.setArr (gG (arrOf st) lo (lo+n) ((lo+n - lo) / 2))
   have hK1:Kept lo st _:=Kept.mirror (aA lo) hszn
   have hs1:fH (arrOf (setArr st (mirror (arrOf st) lo (lo+n) ((lo+n - lo) / 2)))) lo (n+1):=by
    intro i j q1 q2 q3
    show K (mirror (arrOf st) _ _ _) j<=K (mirror (arrOf st) _ _ _) i
    rw[K_mirror_equal hszn hall,K_mirror_equal hszn hall]
    by_cases hjn:j < lo+n
    .rw[hall i q1 (by lia),hall j (by lia) hjn]
     exact eo _
    .have hj':j=lo+n:=by lia
     subst hj'
     by_cases hi':i=lo+n
     .subst hi';exact eo _
     .rw[hall i q1 (by lia)]
      exact kP hlt
   generalize hst1:setArr st (mirror (arrOf st) lo (lo+n) ((lo+n - lo) / 2))=st1 at hB1 hK1 hs1
   refine aY (wpS_lift (fU ⟨rfl,?_⟩))
   refine aY (tX hn (by lia) (by lia) hB1 hs1 ?_ fun m q st' hB' hK' hm1 hm2 hs' hq he=>?_)
   .intro x m q st' R hB' m1 m2 y1 y2 y3 y4
    dsimp only
    refine aY (eQ hB' h0 (by lia) (by lia) ?_)
    dsimp only
    by_cases hl:K (arrOf st') (lo+m) < K (arrOf st') (lo+m - 1)
    .rw[aX hl,ah rfl]
     by_cases hq:q > 0
     .rw[ah hq]
      exact aY (wpS_reverse (bo (y1 hl hq)))
     .rw[ai hq]
      exact bo (y2 hl hq)
    .rw[aQ hl,ai (by decide)]
     refine aY (eQ hB' h0 (by lia) (by lia) ?_)
     dsimp only
     by_cases hg:K (arrOf st') (lo+m - 1) < K (arrOf st') (lo+m)
     .rw[aX hg,ah rfl]
      exact bo (y3 hl hg)
     .rw[aQ hg,ai (by decide)]
      exact bo (y4 hl hg)
   dsimp only
   have hKK:=hK1.trans hK'
   have hsz:lo+m<=(arrOf st').size:=by rw[hB'.size];lia
   by_cases hq0:q > 0
   .rw[ah hq0]
    refine aY (wpS_reverse ?_)
    have hB2:=hB'.setArr (gG (arrOf st') (lo+m - (q+1)) (lo+m) ((lo+m - (lo+m - (q+1))) / 2))
    have hK2:=hKK.trans (Kept.mirror (lo:=lo) (i:=lo+m - (q+1)) (by lia) hsz)
    have hs2:fH (arrOf (setArr st' (mirror (arrOf st') (lo+m - (q+1)) (lo+m) ((lo+m - (lo+m - (q+1))) / 2)))) lo m:=fun i j q1 q2 q3=>by
     show K (mirror (arrOf st') _ _ _) j<=K (mirror (arrOf st') _ _ _) i
     rw[K_mirror_equal hsz he,K_mirror_equal hsz he]
     exact hs' i j q1 q2 q3
    generalize hst2:setArr st' (mirror (arrOf st') (lo+m - (q+1)) (lo+m) ((lo+m - (lo+m - (q+1))) / 2))=st2 at hB2 hK2 hs2
    refine aY (wpS_reverse ?_)
    have hB3:=hB2.setArr (gG (arrOf st2) lo (lo+m) ((lo+m - lo) / 2))
    have hsz3:lo+m<=(arrOf st2).size:=by rw[hB2.size];lia
    have hK3:=hK2.trans (Kept.mirror (aA lo) hsz3)
    refine aY (j9 (lo:=lo) (by lia) hm2 (lf hsz3 hs2) ?_ fun k q1 q2 q3 y=>bo (h k _ hB3 hK3 (by lia) q2 q3))
    intro x k R k1 k2 y1 y2
    dsimp only
    refine aY (eQ hB3 h0 (by lia) (by lia) ?_)
    dsimp only
    by_cases hl:K (arrOf (setArr st2 (mirror (arrOf st2) lo (lo+m) ((lo+m - lo) / 2)))) (lo+k) < K (arrOf (setArr st2 (mirror (arrOf st2) lo (lo+m) ((lo+m - lo) / 2)))) (lo+k - 1)
    .rw[aX hl,ah rfl]
     exact bo (y1 hl)
    .rw[aQ hl,ai (by decide)]
     exact bo (y2 hl)
   .rw[ai hq0]
    refine aY (wpS_reverse ?_)
    have hB3:=hB'.setArr (gG (arrOf st') lo (lo+m) ((lo+m - lo) / 2))
    have hsz3:lo+m<=(arrOf st').size:=by rw[hB'.size];lia
    have hK3:=hKK.trans (Kept.mirror (aA lo) hsz3)
    refine aY (j9 (lo:=lo) (by lia) hm2 (lf hsz3 hs') ?_ fun k q1 q2 q3 y=>bo (h k _ hB3 hK3 (by lia) q2 q3))
    intro x k R k1 k2 y1 y2
    dsimp only
    refine aY (eQ hB3 h0 (by lia) (by lia) ?_)
    dsimp only
    by_cases hl:K (arrOf (setArr st' (mirror (arrOf st') lo (lo+m) ((lo+m - lo) / 2)))) (lo+k) < K (arrOf (setArr st' (mirror (arrOf st') lo (lo+m) ((lo+m - lo) / 2)))) (lo+k - 1)
    .rw[aX hl,ah rfl]
     exact bo (y1 hl)
    .rw[aQ hl,ai (by decide)]
     exact bo (y2 hl)
 .rw[ai hgt]
  have hn1':n=1:=by lia
  subst hn1'
  have hs1:fH (arrOf st) lo (1+1):=by
   intro i j q1 q2 q3
   by_cases hi':i=j
   .subst hi';exact eo _
   .have hi0:i=lo:=by lia
    have hj1:j=lo+1:=by lia
    subst hi0
    subst hj1
    exact kP hlt
  have hK1:=Kept.refl lo st
  refine aY (wpS_lift (fU ⟨rfl,?_⟩))
  refine aY (tX hn (by lia) (by lia) hB hs1 ?_ fun m q st' hB' hK' hm1 hm2 hs' hq he=>?_)
  .intro x m q st' R hB' m1 m2 y1 y2 y3 y4
   dsimp only
   refine aY (eQ hB' h0 (by lia) (by lia) ?_)
   dsimp only
   by_cases hl:K (arrOf st') (lo+m) < K (arrOf st') (lo+m - 1)
   .rw[aX hl,ah rfl]
    by_cases hq:q > 0
    .rw[ah hq]
     exact aY (wpS_reverse (bo (y1 hl hq)))
    .rw[ai hq]
     exact bo (y2 hl hq)
   .rw[aQ hl,ai (by decide)]
    refine aY (eQ hB' h0 (by lia) (by lia) ?_)
    dsimp only
    by_cases hg:K (arrOf st') (lo+m - 1) < K (arrOf st') (lo+m)
    .rw[aX hg,ah rfl]
     exact bo (y3 hl hg)
    .rw[aQ hg,ai (by decide)]
     exact bo (y4 hl hg)
  dsimp only
  have hKK:=hK1.trans hK'
  have hsz:lo+m<=(arrOf st').size:=by rw[hB'.size];lia
  by_cases hq0:q > 0
  .rw[ah hq0]
   refine aY (wpS_reverse ?_)
   have hB2:=hB'.setArr (gG (arrOf st') (lo+m - (q+1)) (lo+m) ((lo+m - (lo+m - (q+1))) / 2))
   have hK2:=hKK.trans (Kept.mirror (lo:=lo) (i:=lo+m - (q+1)) (by lia) hsz)
   have hs2:fH (arrOf (setArr st' (mirror (arrOf st') (lo+m - (q+1)) (lo+m) ((lo+m - (lo+m - (q+1))) / 2)))) lo m:=fun i j q1 q2 q3=>by
    show K (mirror (arrOf st') _ _ _) j<=K (mirror (arrOf st') _ _ _) i
    rw[K_mirror_equal hsz he,K_mirror_equal hsz he]
    exact hs' i j q1 q2 q3
   generalize hst2:setArr st' (mirror (arrOf st') (lo+m - (q+1)) (lo+m) ((lo+m - (lo+m - (q+1))) / 2))=st2 at hB2 hK2 hs2
   refine aY (wpS_reverse ?_)
   have hB3:=hB2.setArr (gG (arrOf st2) lo (lo+m) ((lo+m - lo) / 2))
   have hsz3:lo+m<=(arrOf st2).size:=by rw[hB2.size];lia
   have hK3:=hK2.trans (Kept.mirror (aA lo) hsz3)
   refine aY (j9 (lo:=lo) (by lia) hm2 (lf hsz3 hs2) ?_ fun k q1 q2 q3 y=>bo (h k _ hB3 hK3 (by lia) q2 q3))
   intro x k R k1 k2 y1 y2
   dsimp only
   refine aY (eQ hB3 h0 (by lia) (by lia) ?_)
   dsimp only
   by_cases hl:K (arrOf (setArr st2 (mirror (arrOf st2) lo (lo+m) ((lo+m - lo) / 2)))) (lo+k) < K (arrOf (setArr st2 (mirror (arrOf st2) lo (lo+m) ((lo+m - lo) / 2)))) (lo+k - 1)
   .rw[aX hl,ah rfl]
    exact bo (y1 hl)
   .rw[aQ hl,ai (by decide)]
    exact bo (y2 hl)
  .rw[ai hq0]
   refine aY (wpS_reverse ?_)
   have hB3:=hB'.setArr (gG (arrOf st') lo (lo+m) ((lo+m - lo) / 2))
   have hsz3:lo+m<=(arrOf st').size:=by rw[hB'.size];lia
   have hK3:=hKK.trans (Kept.mirror (aA lo) hsz3)
   refine aY (j9 (lo:=lo) (by lia) hm2 (lf hsz3 hs') ?_ fun k q1 q2 q3 y=>bo (h k _ hB3 hK3 (by lia) q2 q3))
   intro x k R k1 k2 y1 y2
   dsimp only
   refine aY (eQ hB3 h0 (by lia) (by lia) ?_)
   dsimp only
   by_cases hl:K (arrOf (setArr st' (mirror (arrOf st') lo (lo+m) ((lo+m - lo) / 2)))) (lo+k) < K (arrOf (setArr st' (mirror (arrOf st') lo (lo+m) ((lo+m - lo) / 2)))) (lo+k - 1)
   .rw[aX hl,ah rfl]
    exact bo (y1 hl)
   .rw[aQ hl,ai (by decide)]
    exact bo (y2 hl)
end
end L3
end
section
namespace L3
open PySem PyProof.Rows
variable [KOrd]
section
variable {P:Program} {W:World} {A:Around} {E:Value->Shared->Prop} {z:Shared} [KLt P W A E z] {a₀:Array Keyed} {p:Array (Nat×Nat×Nat)}
theorem Zlv {st:SortSt} {lo n ok:Nat} {Q:Bool->SortSt->Prop} (h0:IntKeys a₀) (hn:lo+n<=a₀.size) (hok:ok<=n) (hB:Bas a₀ p st) (hs:SegS (arrOf st) lo ok)
  (h:∀ st',Bas a₀ p st'->Kept lo st st'->SegS (arrOf st') lo n->Q true st'):wpS (model P W) A E z (binarySort' lo n ok) Q st:=by
 refine aY (wpS_mono (ju (I:=fun k c st'=>c=(none,())/\Bas a₀ p st'/\Kept lo st st'/\SegS (arrOf st') lo (min k n)) (Q:=fun c st'=>c=(none,())/\Bas a₀ p st'/\Kept lo st st'/\SegS (arrOf st') lo n) ?step ?fin ?init) ?post)
 case post =>
  rintro c st' ⟨rfl,hB',hK,hs'⟩
  exact bo (h st' hB' hK hs')
 case init =>
  refine ⟨rfl,hB,Kept.refl _ _,fun i j q1 hij hj=>?_⟩
  by_cases h1:ok=0
  .have:i=j:=by lia
   subst this;exact eo _
  .exact hs i j q1 hij (by lia)
 case fin =>
  rintro c st' ⟨hc,hB',hK,hs'⟩
  refine ⟨hc,hB',hK,?_⟩
  rwa [show min (max (max ok 1) n) n=n by lia] at hs'
 case step =>
  rintro k c st' hak hkn ⟨rfl,hB',hK,hs'⟩
  rw[show min k n=k by lia] at hs'
  refine aY (wpS_mono (ju (I:=fun x c v=>v=st'/\∃ l r,c=(none,l,r)/\l<=r/\r<=k/\r - l<=k - x/\(∀ i,lo<=i->i < lo+l->K (arrOf st') i<=K (arrOf st') (lo+k))/\(∀ i,lo+r<=i->i < lo+k->K (arrOf st') (lo+k) < K (arrOf st') i))
   (Q:=fun c v=>v=st'/\∃ l r,c=(none,l,r)/\l<=k/\(∀ i,lo<=i->i < lo+l->K (arrOf st') i<=K (arrOf st') (lo+k))/\(∀ i,lo+l<=i->i < lo+k->K (arrOf st') (lo+k) < K (arrOf st') i)) ?istep ?ifin ?iinit) ?ipost)
  case iinit=>exact ⟨rfl,0,k,rfl,by lia,by lia,by lia,fun i h1 hi=>by lia,fun i h1 h2=>by lia⟩
  case ifin =>
   rintro c v ⟨rfl,l,r,rfl,hlr,hrk,hm,hlo,hhi⟩
   have:l=r:=by lia
   subst this
   exact ⟨rfl,l,l,rfl,hrk,hlo,hhi⟩
  case istep =>
   rintro x c v y hxk ⟨rfl,l,r,rfl,hlr,hrk,hm,hlo,hhi⟩
   dsimp only
   by_cases hge:l ≥ r
   .rw[ah hge]
    have:l=r:=by lia
    subst this
    exact bo ⟨rfl,l,l,rfl,hrk,hlo,hhi⟩
   .rw[ai hge]
    refine aY (eQ hB' h0 (by lia) (by lia) ?_)
    dsimp only
    by_cases hless:K (arrOf v) (lo+k) < K (arrOf v) (lo+(l+r) / 2)
    .rw[aX hless,ah rfl]
     refine bo ⟨rfl,l,(l+r) / 2,rfl,by lia,by lia,by lia,hlo,fun i h1 h2=>?_⟩
     exact Int.lt_of_lt_of_le hless (hs' _ _ (by lia) h1 h2)
    .rw[aQ hless,ai (by decide)]
     refine bo ⟨rfl,(l+r) / 2+1,r,rfl,by lia,by lia,by lia,fun i h1 h2=>?_,hhi⟩
     exact Int.le_trans (hs' i (lo+(l+r) / 2) h1 (by lia) (by lia)) (Int.not_lt.mp hless)
  case ipost =>
   rintro c v ⟨rfl,l,r,rfl,hlk,hlo,hhi⟩
   have hks:lo+k < (arrOf v).size:=by rw[hB'.size];lia
   refine aY (wpS_modify ?_)
   have hKb:∀ q,K (bubble (arrOf v) (lo+k) (lo+k - (lo+l))) q=_:=fun q=>K_bubble hks (by lia) q
   refine bo ⟨rfl,hB'.setArr (bubble_perm _ (lo+k) (lo+k - (lo+l))),hK.trans fun q hq=>?_,?_⟩
   .show K (bubble (arrOf v) (lo+k) (lo+k - (lo+l))) q=_
    rw[hKb,ai (by lia),ai (by lia)]
   .rw[show min (k+1) n=k+1 by lia]
    intro i j q1 hij hj
    show K (bubble (arrOf v) (lo+k) (lo+k - (lo+l))) i<=K (bubble (arrOf v) (lo+k) (lo+k - (lo+l))) j
    rw[hKb,hKb,show lo+k - (lo+k - (lo+l))=lo+l by lia]
    repeat' split
    all_goals first
     | (exfalso;lia)
     | exact eo _
     | exact hlo _ (by lia) (by lia)
     | exact kP (hhi _ (by lia) (by lia))
     | exact hs' _ _ (by lia) (by lia) (by lia)
end
end L3
end
section
namespace L2
open PySem PySem.Spec PyProof.Rows
section
variable {P:Program} {W:World} {A:Around} {E:Value->Shared->Prop} {z:Shared}
def qT (P:Program) (W:World) (A:Around) (E:Value->Shared->Prop) (z:Shared) (b:Array Keyed):Prop :=
 ∀ u:SortSt,SBase b u->arrOf u=b->wpS (model P W) A E z sortRuns' (fun j v=>(arrOf v).Perm b/\failedOf v=none/\SortedTo (arrOf v) b.size) u
theorem ZlE {b:Array Keyed} (hk:IntKeys b) (h2:2<=b.size) (h:b.size < 64):qT P W A E z b:=fun u hu j=>wpS_sortRuns hk hu h2 h fun v a c d=>⟨a,c,d⟩
theorem Zne {a:Addr} {us:List Value} {ns:List Int} {k:Nat} {F:PySem.Fin->Shared->Prop} (ho:z.heap.get? a=some (seqObj "list" us.toArray k)) (hi:IntsAre us ns) (hz:us.length<=sizeLine)
  (hr:2<=us.length->∀ z',qT P W A E z' (pairsOf us))
  (h:∀ (out:Array Value) (ms:List Int),IntsAre out.toList ms->ms.Perm ns->ms.Pairwise (·<=·)->F (.done (.ret .none)) { z with heap:=sortedHeap z.heap a us out }) :
  wpAny (model P W) A (Builtin.«list.sort» ⟨[.ref a],[]⟩) F E z:=by
 have hlt:a < z.heap.objs.size:=aV ho
 have hus:us.toArray.size=us.length:=by simp
 obtain ⟨ep,hoE⟩:∃ ep,(z.heap.update a (Obj.mapSeq fun y=>#[])).get? a=some (seqObj "list" #[] ep):=⟨_,get?_update_seq ho fun y=>#[]⟩
 have hoF:(((z.heap.update a (Obj.mapSeq fun y=>#[])).push (seqObj "tuple" us.toArray 0)).push (seqObj "list" #[] 0)).get? a=some (seqObj "list" #[] ep):=bt _ (bt _ hoE)
 have ends:∀ v:SortSt,(arrOf v).Perm (pairsOf us)->SortedTo (arrOf v) (pairsOf us).size->F (.done (.ret .none)) { z with heap:=sortedHeap z.heap a us ((arrOf v).map (·.2)) }:=fun v hp hs=>by
  obtain ⟨ms,q1,q2,q3⟩:=sorted_out hi hp hs
  exact h _ ms q1 q2 q3
 have hfit:∀ v:SortSt,(arrOf v).Perm (pairsOf us)->((arrOf v).map (·.2)).size<=sizeLine+1:=fun v hp=>by
  rw[Array.size_map,hp.size_eq,gH]
  lia
 rw[list_sort_plain]
 refine ae (listItems_at (o:=seqObj "list" us.toArray k) ho rfl ?_)
 refine ae (jv (hsz:=by rw[hus];exact hz) (hsz2:=bD _) (o:=seqObj "list" us.toArray k) ho rfl ?_)
 refine ae (jw (o:=seqObj "list" #[] ep) hoE rfl ?_)
 refine ae (wpAny_newTuple ?_ (hsz:=by rw[dL,hus];exact hz))
 refine ae (nF ?_ (hsz:=bD _))
 refine dm (id ?_)
 dsimp only
 by_cases hfew:us.toArray.size < 2
 .rw[ah hfew,ah hfew]
  refine ae (am (id ?_))
  rw[StateT.run_pure]
  refine ae (am (id ?_))
  dsimp only
  refine ae (jw (o:=seqObj "list" #[] ep) hoF rfl ?_)
  refine ae (jv (hsz:=bD _) (hsz2:=hfit (SortSt.mk' general' (us.toArray.zip us.toArray) #[] 7 none) (Array.Perm.refl _)) (o:=seqObj "list" #[] ep) hoF rfl ?_)
  simp only[nG,cu,bY]
  refine am (ends (SortSt.mk' general' (us.toArray.zip us.toArray) #[] 7 none) (Array.Perm.refl _) fun i j hij hj=>?_)
  obtain rfl:i=j:=by rw[gH] at hj;lia
  exact eo _
 .rw[ai hfew,ai hfew]
  have hkind:keyKind' us.toArray=pure oneType':=by
   match us,hi,hus,hfew with
   | [],_,_,hf=>simp at hf
   | [_],_,_,hf=>simp at hf
   | _::_::_,hi,_,_=>exact keyKind_ints hi
  rw[hkind]
  refine ae (am (id ?_))
  refine ae (cD (hr (by lia) _ (SortSt.mk' oneType' (us.toArray.zip us.toArray) #[] 7 none) ⟨Array.Perm.refl _,rfl,rfl,rfl⟩ rfl) ?_ fun y y q=>q)
  rintro ⟨⟨⟩,v⟩ z' ⟨rfl,hp,hf,hs⟩
  dsimp only
  refine ae (jw (o:=seqObj "list" #[] ep) hoF rfl ?_)
  refine ae (jv (hsz:=bD _) (hsz2:=hfit v hp) (o:=seqObj "list" #[] ep) hoF rfl ?_)
  rw[hf]
  simp only[nG,cu,bY]
  exact am (ends v hp hs)
end
theorem Un.track' {fs ex:List Addr} {H H1:Hp} {h h1:Heap} {a:Addr} {o:HO} (u:Un fs ex H H1 h h1) (hne:∀ b o,h.get? b=some o->b≠a) (hn:H a=none):Un fs ex H (upd H1 a o) h h1 where
 keep:=u.keep
 slot:=u.slot
 free:=fun b ob q n hx=>by
  rw[bh (hne b ob q)]
  exact u.free b ob q n hx
 there:=u.there
 tups:=fun b xs q=>by
  rw[bh (fun z=>by rw[z,hn] at q;cases q)]
  exact u.tups b xs q
 frzs:=fun b ob x q=>by
  rw[bh (fun z=>by rw[z,hn] at q;cases q)]
  exact u.frzs b ob x q
 tbls:=fun b ps q=>by
  rw[bh (fun z=>by rw[z,hn] at q;cases q)]
  exact u.tbls b ps q
theorem ObjOk.there {P:Program} {w:World} {H:Hp} {h:Heap} {a:Addr} {o:HO} (x:ObjOk P w H h a o):∃ ob,h.get? a=some ob:=by
 cases o with
 | lst xs=>obtain ⟨j,j,j,j,e⟩:=x;exact ⟨_,e⟩
 | tup xs=>obtain ⟨j,j,j,ob,e,j⟩:=x;exact ⟨_,e⟩
 | dK kvs=>obtain ⟨j,j,j,j,o,j,j,e,j⟩:=x;exact ⟨_,e⟩
 | dT kvs=>obtain ⟨j,j,j,j,o,j,j,e,j⟩:=x;exact ⟨_,e⟩
 | set S n=>obtain ⟨o,j,j,j,e,j⟩:=x;exact ⟨_,e⟩
 | ins C dx fs=>obtain ⟨j,j,j,e,j⟩:=x;exact ⟨_,e⟩
 | own y=>exact x
 | xd fs=>obtain ⟨j,⟨o,j,j,e,j⟩,j⟩:=x;exact ⟨_,e⟩
 | rng lo hi=>obtain ⟨j,j,j,e⟩:=x;exact ⟨_,e⟩
 | frz ob u=>obtain ⟨e,j⟩:=x;exact ⟨_,e⟩
 | tbl ps=>exact ⟨_,x⟩
 | met f y=>exact ⟨_,x⟩
 | ext φ=>obtain ⟨j,e,j⟩:=x;exact e
theorem rb:∀ {us:List Value} {ns:List Int},IntsAre us ns->Vals (ns.map V.int) us
 | _,_,.nil=>.nil
 | _,_,.cons n t h=>.cons ⟨t,rfl⟩ (rb h)
theorem KV.at' {κ : Type} : ∀ {kvs : List (κ × V)} {vs : List (κ × Value)} {j : Nat} {k : κ} {x : Value}, KV kvs vs -> vs[j]? = some (k, x) -> ∃ p, kvs[j]? = some p /\ p.1 = k
  | _, _, j, k, x, .nil, e => by simp at e
  | p :: _, q :: _, 0, k, x, .cons r _, e => by
    simp at e
    subst e
    exact ⟨p,rfl,r.1⟩
  | p :: ps, q :: qs, j + 1, k, x, .cons _ t, e => by
    obtain ⟨p',e1,e2⟩:=KV.at' (j:=j) (kvs:=ps) (vs:=qs) t (by simpa using e)
    exact ⟨p', by simpa using e1, e2⟩
theorem rN : ∀ {us : List Value} {ns : List Int}, us.length = ns.length -> (∀ (j : Nat) v, us[j]? = some v -> ∃ n t, ns[j]? = some n /\ v = Value.int n t) -> IntsAre us ns
  | [], [], _, _ => .nil
  | [], _ :: _, h, _ => by simp at h
  | _ :: _, [], h, _ => by simp at h
  | u :: us, n :: ns, h, k => by
    obtain ⟨n',t,e1,e2⟩:=k 0 u rfl
    simp at e1
    subst e1;subst e2
    exact .cons n t (rN (by simpa using h) fun j v e => k (j + 1) v (by simpa using e))
end L2
namespace L2
open PySem
def kvT (t:List (Int×Int)):List (Key×V):=t.map fun q=>(Sum.inl q.1,V.int q.2)
theorem Zl1 (t:List (Int×Int)):(kvT t).map (·.1)=(t.map (·.1)).map Sum.inl:=by unfold kvT;simp
theorem ZjQ {t:List (Int×Int)} {w:Int} (h:∀ q∈t,q.1≠w):valV (kvT t) (Sum.inl w:Key)=none:=by
 induction t with
 | nil=>rfl
 | cons q t ih =>
  show valV ((Sum.inl q.1,V.int q.2)::kvT t) (Sum.inl w:Key)=none
  rw[jd (fun e=>h q bi (Sum.inl.inj e))]
  exact ih fun q' hq=>h q' (bH _ hq)
theorem ZlN {t:List (Int×Int)} {w x:Int} (h:∀ q∈t,q.1≠w):putK (kvT t) (Sum.inl w:Key) (V.int x)=kvT (t++[(w,x)]):=by
 rw[ZlP _ (ZjQ h)]
 unfold kvT
 simp
end L2
end
section
namespace L3
open PySem PyProof.Rows
section
variable {P:Program} {w:World} {A:Around} {E:Value->Shared->Prop} {s:Shared}
def dd (ns:List Int):List Int:=firstMet (fun i=>ns.getD i 0) ns.length
end
end L3
end
section
namespace L2
open PySem PySem.Spec PyProof.Rows
def rIsN:R2:=fun x y H Q=>y=.non/\Q (.bl (decide (x=.non))) H
def rNotN:R2:=fun x y H Q=>y=.non/\Q (.bl (!decide (x=.non))) H
theorem uj {X:Cx}:OpR X (compareOp .Is) rIsN:=op_isN
theorem sJ {X:Cx}:OpR X (compareOp .IsNot) rNotN:=ZnC
theorem rj : ∀ {l m : List Int}, l.Pairwise (· <= ·) -> m.Pairwise (· <= ·) -> l.Perm m -> l = m
  | [], m, _, _, p => by rw[nil_perm.mp p]
  | a :: l, [], _, _, p => by simp at p
  | a :: l, b :: m, h1, h2, p => by
    obtain ⟨p1,p2⟩:=nH.mp h1
    obtain ⟨q1,q2⟩:=nH.mp h2
    have hab : a = b := by
      have ha:a∈b::m:=p.mem_iff.mp bi
      have hb:b∈a::l:=p.mem_iff.mpr bi
      rcases aG.mp ha with e|ha
      . exact e
      . rcases aG.mp hb with e | hb
        . exact e.symm
        . have := q1 a ha
          have:=p1 b hb
          lia
    subst hab
    rw[rj p2 q2 (List.Perm.cons_inv p)]
structure SgOk (sg:List (Int×Int)):Prop where
 pos:0 < sg.length
 few:sg.length<=6
 first:∃ bx,sg[0]?=some (0,bx)
 all:∀ q∈sg,0<=q.1/\q.1<=4/\q.1<=q.2/\1<=q.2/\q.2<=8
section
variable {X:Cx} {C:Addr} {x m:Str} {k:Nat} {ps:List Str} {sp:Sp} {o e:Expr} {es:List Expr} {ta:TE} {t:TA} {apos pos p:Pos}
theorem ZnA {n:Int} (hg:Gl X x) (h:∃ t,X.mg x=some (.int n t)) (hd:(x == ("__debug__":Str))=false:=by decide):PE X (.Name x pos) (tC (.int n)):=by
 obtain ⟨t,h⟩:=h
 exact tK hg h ⟨t,rfl⟩ hd
def tCT (K:W.Frag) (xs:List V):TE:=fun j H Q=>∀ a,(∀ H',SqT K H' a xs)->Q (.ref a) H
def IsCT (K:W.Frag) (mg:Str->Option Value) (x:Str) (xs:List V):Prop:=∃ a,mg x=some (.ref a)/\∃ (o:Obj) (its:Array Value) (n:Nat),K.lookup a=some o/\o.cls=.type "tuple"/\o.data=.seq its n/\its.size<=sizeLine/\Vals xs its.toList
theorem Znz {K:W.Frag} {xs:List V} (hg:Gl X x) (h:IsCT K X.mg x xs) (hd:(x == ("__debug__":Str))=false:=by decide):PE X (.Name x pos) (tCT K xs):=by
 obtain ⟨a,h,r⟩:=h
 intro pins s Z H Q I q
 exact tK (v:=.ref a) hg h rfl hd pins s Z H Q I (q a fun H'=>.inr r)
end
end L2
end
section
namespace L2
open PySem
inductive Rw where
 | put (p n:Int)|copy (p q:Int)|plus (p q r:Int)|less (p q r:Int)|times (p q n:Int)|take (p:Int)|tell (p:Int)|jump (t:Int)|zero (p t:Int)|below (p t:Int)|call (p f:Int) (qs:List Int)|back (p:Int)
def Rw.row:Rw->Str×List D
 | .put p n=>("put",[.int p,.int n])
 | .copy p q=>("copy",[.int p,.int q])
 | .plus p q r=>("plus",[.int p,.int q,.int r])
 | .less p q r=>("less",[.int p,.int q,.int r])
 | .times p q n=>("times",[.int p,.int q,.int n])
 | .take p=>("take",[.int p])
 | .tell p=>("tell",[.int p])
 | .jump t=>("jump",[.int t])
 | .zero p t=>("zero",[.int p,.int t])
 | .below p t=>("below",[.int p,.int t])
 | .call p f qs=>("call",[.int p,.int f,.tup (qs.map D.int)])
 | .back p=>("back",[.int p])
structure Df where
 takes:Int
 boxes:Int
 rows:List Rw
def In0 (n m:Int):Prop:=0<=n/\n < m
def Rw.Ok (P:List Df) (nb many:Int):Rw->Prop
 | .put p n=>In0 p nb/\n.natAbs<=10 ^ 60
 | .copy p q=>In0 p nb/\In0 q nb
 | .plus p q r=>In0 p nb/\In0 q nb/\In0 r nb
 | .less p q r=>In0 p nb/\In0 q nb/\In0 r nb
 | .times p q n=>In0 p nb/\In0 q nb/\n.natAbs<=99
 | .take p=>In0 p nb
 | .tell p=>In0 p nb
 | .jump t=>In0 t many
 | .zero p t=>In0 p nb/\In0 t many
 | .below p t=>In0 p nb/\In0 t many
 | .call p f qs=>In0 p nb/\(∃ d,0<=f/\P[f.toNat]?=some d/\(qs.length:Int)=d.takes)/\∀ q∈qs,In0 q nb
 | .back p=>In0 p nb
def Rw.last:Rw->Prop
 | .jump _=>True
 | .back _=>True
 | _=>False
structure DfOk (P:List Df) (d:Df):Prop where
 b:1<=d.boxes/\d.boxes<=1000
 t:0<=d.takes/\d.takes<=d.boxes
 n:d.rows.length<=1000
 rows:∀ r∈d.rows,r.Ok P d.boxes d.rows.length
 last:∃ r,d.rows[d.rows.length - 1]?=some r/\r.last
def PgOk (P:List Df):Prop:=P≠[]/\P.length<=1000/\∀ d∈P,DfOk P d
inductive En where
 | back (n:Int)|dry (f at':Int)|deep (f at':Int)
abbrev Fr:=Int×Int×List Int
structure HS where
 frames:List Fr
 left:List Int
 news:List Int
 gone:Int
 fin:Option En
def cX (P:List Df) (f at':Int):Option Rw:=(P[f.toNat]?).bind fun d=>d.rows[at'.toNat]?
def bP (bx:List Int) (p:Int):Int:=bx.getD p.toNat 0
def setAt (bx:List Int) (p v:Int):List Int:=bx.set p.toNat v
def Rw.calc (bx:List Int):Rw->Option (Int×Int)
 | .put p n=>some (p,n)
 | .copy p q=>some (p,bP bx q)
 | .plus p q r=>some (p,bP bx q+bP bx r)
 | .less p q r=>some (p,bP bx q - bP bx r)
 | .times p q n=>some (p,bP bx q * n)
 | _=>none
end L2
end
section
namespace L2
open PySem
abbrev FZ:=(Addr×Addr)×Fr
end L2
end
section
namespace L2
open PySem
section
variable {kp own:List Addr} {H0 H H':Hp}
theorem apart {own own' oth:List Addr} (new:∀ x∈own',x∈own\/H x=none) (d:∀ x∈oth,x∉own) (al:∀ x∈oth,H x≠none):∀ x∈oth,x∉own':=fun x hx m=>by
 rcases new x m with h|h
 .exact d x hx h
 .exact al x hx h
end
end L2
end
section
namespace L2
open PySem PySem.Spec PyProof.Rows
def Seqs (H:Hp) (x y:V) (xs ys:List V):Prop:=∃ a b,x=.ref a/\y=.ref b/\((H a=some (.tup xs)/\H b=some (.tup ys))\/(H a=some (.lst xs)/\H b=some (.lst ys)))
def simV:V->Prop
 | .byt _=>False
 | .flt _=>False
 | .ty _=>False
 | _=>True
def Alike (H:Hp):Nat->V->V->Prop
 | 0,x,y=>x=y/\simV x
 | n+1,x,y=>(x=y/\simV x)\/∃ xs ys,Seqs H x y xs ys/\xs.length=ys.length/\∀ (j:Nat) (u v:V),xs[j]?=some u->ys[j]?=some v->Alike H n u v
theorem Alike.up {H : Hp} : ∀ {n : Nat} {x y : V}, Alike H n x y -> Alike H (n + 1) x y
  | 0, x, y, h => .inl h
  | n + 1, x, y, h => by
    rcases h with h|⟨xs,ys,s,l,k⟩
    . exact .inl h
    . exact .inr ⟨xs, ys, s, l, fun j u v e1 e2 => (k j u v e1 e2).up⟩
theorem Alike.le {H:Hp} {n m:Nat} {x y:V} (h:Alike H n x y) (l:n<=m):Alike H m x y:=by
  induction m with
  | zero => obtain rfl : n = 0 := by lia
            exact h
  | succ m ih =>
    by_cases e:n=m+1
    . subst e; exact h
    . exact (ih (by lia)).up
theorem Alike.refl {H:Hp} (n:Nat) {x:V} (f:simV x):Alike H n x x:=Alike.le (n:=0) ⟨rfl,f⟩ (bD _)
section
variable {X:Cx} {pins:List (Addr×Obj)} {Z:St} {H:Hp} {s:Shared}
theorem mT {xs:List V} {its:List Value} (vx:Vals xs its) {j:Nat} (h:j < its.toArray.size):∃ x,xs[j]?=some x/\RelV x its.toArray[j]:=by
 have l1:=vx.length
 have h':j < its.length:=by simpa using h
 have e1:xs[j]?=some (xs[j]'(by lia)):=aC _
 obtain ⟨u1,z1,w1⟩:=vx.get e1
 have y1:its.toArray[j]=u1:=by
  have:its[j]?=some its[j]:=aC h'
  rw[z1] at this
  simpa using (Option.some.inj this).symm
 exact ⟨_,e1,by rw[y1];exact w1⟩
theorem rG (I:Inv X pins Z H s) {A:Around} {a b:Addr} {xs ys:List V} (h:(H a=some (.tup xs)/\H b=some (.tup ys))\/(H a=some (.lst xs)/\H b=some (.lst ys))) (hl:xs.length=ys.length) (hu:A.units < cLine)
  (k:∀ (j:Nat) (u v:V) (u' v':Value),xs[j]?=some u->ys[j]?=some v->RelV u u'->RelV v v'->SeqAt.EqAt A.in1 s u' v' true):SeqAt.RcAt A s (.ref a) (.ref b) true:=by
 rcases h with ⟨ha,hb⟩|⟨ha,hb⟩
 .obtain ⟨its,vx,ht⟩:=I.isTup ha
  obtain ⟨its',vy,ht'⟩:=I.isTup hb
  have l1:=vx.length
  have l2:=vy.length
  have key:=SeqAt.RcAt.tuples (A:=A) (e:=fun z=>true) ht ht' hu fun j j1 j2=>by
   obtain ⟨x,e1,r1⟩:=mT vx j1
   obtain ⟨y,e2,r2⟩:=mT vy j2
   exact k j x y _ _ e1 e2 r1 r2
  have e:((List.range (min its.toArray.size its'.toArray.size)).all (fun z=>true) && its.toArray.size == its'.toArray.size)=true:=by
   simp;lia
  rw[e] at key
  exact key
 .obtain ⟨its,vx,ht,z⟩:=I.list (SqL.of ha)
  obtain ⟨its',vy,ht',z⟩:=I.list (SqL.of hb)
  have l1:=vx.length
  have l2:=vy.length
  have key:=SeqAt.RcAt.lists (A:=A) (e:=fun z=>true) ht.isList ht'.isList (by simp;lia) hu fun j j1 j2=>by
   obtain ⟨x,e1,r1⟩:=mT vx j1
   obtain ⟨y,e2,r2⟩:=mT vy j2
   exact k j x y _ _ e1 e2 r1 r2
  have e:(List.range its.toArray.size).all (fun z=>true)=true:=by simp
  rw[e] at key
  exact key
theorem Zjs (I:Inv X pins Z H s):∀ (n:Nat) {x y:V} {u v:Value} {A:Around},Alike H n x y->RelV x u->RelV y v->A.units+n < cLine->SeqAt.EqAt A s u v true:=by
 have flat:∀ {x:V} {u v:Value} {A:Around},simV x->RelV x u->RelV x v->SeqAt.EqAt A s u v true:=by
  intro x u v A f ru rv
  cases x with
  | non=>cases ru;cases rv;exact SeqAt.EqAt.same _
  | bl b=>cases ru;cases rv;exact SeqAt.EqAt.same _
  | int i =>
   obtain ⟨t,rfl⟩:=ru;obtain ⟨t',rfl⟩:=rv
   have:=qo (A:=A) (s:=s) i t i t'
   simpa using this
  | str i =>
   obtain ⟨t,rfl⟩:=ru;obtain ⟨t',rfl⟩:=rv
   have:=qp (A:=A) (s:=s) i t i t'
   simpa using this
  | ref a=>cases ru;cases rv;exact SeqAt.EqAt.same _
  | _=>cases f
 intro n
 induction n with
 | zero =>
  rintro x y u v A ⟨rfl,f⟩ ru rv hu
  exact flat f ru rv
 | succ n ih =>
  rintro x y u v A h ru rv hu
  rcases h with ⟨rfl,f⟩|⟨xs,ys,⟨a,b,rfl,rfl,h⟩,hl,k⟩
  .exact flat f ru rv
  .cases ru;cases rv
   by_cases hab:a=b
   .subst hab;exact SeqAt.EqAt.same _
   .exact uX hab (rG I h hl (by lia) fun j u v u' v' e1 e2 r1 r2=>ih (k j u v e1 e2) r1 r2 (by show A.units+1+n < cLine;lia))
def rEqA:R2:=fun x y H Q=>∃ xs ys,Seqs H x y xs ys/\xs.length=ys.length/\(∀ (j:Nat) (u v:V),xs[j]?=some u->ys[j]?=some v->Alike H 40 u v)/\Q (.bl true) H
theorem op_eqA (hu:X.A.units+64 < cLine):OpR X (compareOp .Eq) rEqA:=by
 rintro pins s Z H x y v u Q I rx ry ⟨xs,ys,⟨a,b,rfl,rfl,h⟩,hl,k,q⟩
 cases rx;cases ry
 have key:=rG (A:=X.A) I h hl (by lia) fun j u v u' v' e1 e2 r1 r2=>Zjs I 40 (k j u v e1 e2) r1 r2 (by show X.A.units+1+40 < cLine;lia)
 exact key _ _ _ _ (bj I q rfl)
end
section
variable {H:Hp}
def uz (H:Hp) (n:Nat) (x y:V):Prop:=∃ xs ys,Seqs H x y xs ys/\xs.length=ys.length/\∀ (j:Nat) (u v:V),xs[j]?=some u->ys[j]?=some v->Alike H n u v
theorem rd_eqA {x y:V} {Q:VK} (h:uz H 40 x y) (q:Q (.bl true) H):rEqA x y H Q:=by
 obtain ⟨xs,ys,s,l,k⟩:=h
 exact ⟨xs,ys,s,l,k,q⟩
end
end L2
end
section
namespace L2
open PySem
theorem ZlH {K:W.Frag} {H:Hp} {p:Addr} {ys:List V} {Q:VK} (h:SqT K H p ys) (q:Q (.int ys.length) H):rLen K [.ref p] H Q:=⟨_,_,rfl,.inr ⟨ys,h,rfl⟩,q⟩
end L2
end
section
namespace HT
open PySem PySem.Spec PyProof.Rows L2
section
variable {prog:Program} {w:World} {A:Around} {E:Value->Shared->Prop} {s:Shared}
theorem cat_tup0 {t b:Addr} {vs ws:List Value} {Q:Value->Shared->Prop} (ht:IsTup s.heap t vs.toArray) (hb:IsTup s.heap b ws.toArray) (hv:vs=[]) (h1:Q (.ref b) s):wpAny (model prog w) A (binaryOp .Add (.ref t) (.ref b)) Q E s:=by
 obtain ⟨⟨cls,dd,data,sl⟩,ho,hc,n,hd⟩:=id ht
 obtain ⟨⟨cls2,dd2,data2,sl2⟩,ho2,hc2,n2,hd2⟩:=id hb
 simp only at hc hd hc2 hd2
 subst hc hd hc2 hd2
 exact concat_meets ⟨_,ho,rfl⟩ ⟨_,ho2,rfl⟩ qm seq_tuple_add PySem.F.slot_tuple_add PySem.F.entry_tuple_add (PySem.F.args_tuple_add_2 _ _) (tuple_addW0 t b vs.toArray ws.toArray n n2 dd dd2 sl sl2 (by simp[hv])) ⟨ho,ho2,h1⟩
theorem getItem_tuple_all {t sl:Addr} {items:Array Value} {vl vu:Value} {lo hi:Option Int} {Q:Value->Shared->Prop} (ht:IsTup s.heap t items) (hs:s.heap.IsSliceOf sl vl vu .none) (pl:IsPart vl lo) (pu:IsPart vu hi)
  (hw:sIx items.size 0 lo=0/\sIx items.size items.size hi=items.size) (h:Q (.ref t) s):wpAny (model prog w) A (getItem (.ref t) (.ref sl)) Q E s:=by
 obtain ⟨os,hos,hcs,hds⟩:=id hs
 have hTs:s.TypeIs (.ref sl) "slice":=⟨os,hos,hcs⟩
 unfold getItem
 try with_reducible refine dm ?_
 first|refine ae (am ?_)|skip
 refine ae (wpAny_sequenceKey ht.typeIs (by decide) ?_)
 refine ae (nv (name:=Str.ofString "__getitem__") ht.typeIs jp
  (eT jp ht.typeIs entry_tuple_getitem ?_ (args_tuple_getitem _ _)))
 show wpAny _ _ (Builtin.Tuple.tupleItemsOf (.ref t) >>= _) _ _ s
 refine ae (tupleItemsOf_ ht ?_)
 refine ae (kG hTs ?_)
 rw[ah (by decide)]
 refine ae (qV hs pl pu ?_)
 have hyes:((((sIx items.size 0 lo:Nat):Int) == 0 && (1:Int) == 1 && (sIx items.size items.size hi - sIx items.size 0 lo) == items.size)=true):=by
  rw[hw.1,hw.2];simp
 show wpAny _ _ (if (((sIx items.size 0 lo:Nat):Int) == 0 && (1:Int) == 1 && (sIx items.size items.size hi - sIx items.size 0 lo) == items.size)=true then _ else _) _ _ s
 rw[ah hyes]
 refine ae ?_
 refine ae ?_
 refine kG ht.typeIs (am ?_)
 rw[ah (by decide)]
 exact ae (fU (am ⟨_,rfl,am h⟩))
end
end HT
namespace L2
open PySem PySem.Spec PyProof.Rows
section
variable {X:Cx} {K:W.Frag}
def rSlW (K:W.Frag):V->Option Int->Option Int->Hp->VK->Prop:=fun x lo hi H Q=>∃ a xs,x=.ref a/\SqT K H a xs/\(cutV xs lo hi=xs->Q (.ref a) H)/\∀ p,H p=none->Q (.ref p) (upd H p (.tup (cutV xs lo hi)))
theorem Znf:SlR X (rSlW X.K):=by
 intro pins s Z H x v vl vu lo hi sl Q I rx hs pl pu h
 obtain ⟨a,xs,rfl,hx,q1,q⟩:=h
 by_cases hw:HT.sIx xs.length 0 lo=0/\HT.sIx xs.length xs.length hi=xs.length
 .cases rx
  obtain ⟨its,r,ht,hz⟩:=I.tuple hx
  have hlen:its.toArray.size=xs.length:=by rw[bu];exact r.length.symm
  refine ⟨"tuple",_,jp.lookup,ht.typeIs,?_⟩
  refine HT.getItem_tuple_all ht hs pl pu (by rw[hlen];exact hw) ?_
  refine ⟨.ref a,H,I,rfl,q1 ?_⟩
  unfold cutV
  rw[hw.1,hw.2]
  simp
 .exact sl_tup pins s Z H _ v vl vu lo hi sl Q I rx hs pl pu ⟨a,xs,rfl,hx,hw,q⟩
theorem gm (h:X.K=K):SlR X (rSlW K):=h▸Znf
def kY (K:W.Frag):R2:=fun x y H Q=>∃ a b xs ys,x=.ref a/\y=.ref b/\SqT K H a xs/\SqT K H b ys/\xs.length+ys.length<=sizeLine /\
 (xs=[]->Q (.ref b) H)/\(ys=[]->Q (.ref a) H)/\∀ p,H p=none->Q (.ref p) (upd H p (.tup (xs++ys)))
theorem ZnD:OpR X (binaryOp .Add) (kY X.K):=by
 intro pins s Z H x y v u Q I rx ry h
 obtain ⟨a,b,xs,ys,rfl,rfl,ha,hb,hz,q0,q1,q2⟩:=h
 by_cases hx:xs=[]
 .cases rx
  cases ry
  obtain ⟨its,r1,p1,j⟩:=I.tuple ha
  obtain ⟨its2,r2,p2,j⟩:=I.tuple hb
  exact HT.cat_tup0 p1 p2 (r1.nil_iff.mpr hx) ⟨.ref b,H,I,rfl,q0 hx⟩
 .exact ZnE pins s Z H _ _ v u Q I rx ry ⟨a,b,xs,ys,rfl,rfl,ha,hb,hx,hz,q1,fun j=>q2⟩
theorem gV (h:X.K=K):OpR X (binaryOp .Add) (kY K):=h▸ZnD
end
theorem rd_slW {K:W.Frag} {H:Hp} {a:Addr} {xs:List V} {lo hi:Option Int} {Q:VK} (h:H a=some (.tup xs)) (q:∀ p H',H' p=some (.tup (cutV xs lo hi))->Same H H'->Q (.ref p) H'):rSlW K (.ref a) lo hi H Q :=
 ⟨a,xs,rfl,SqT.of h,fun e=>q a H (by rw[e];exact h) (Same.refl _),fun p hp=>q p _ bC (Same.new hp)⟩
theorem Znq {K:W.Frag} {H:Hp} {a b:Addr} {xs ys:List V} {Q:VK} (h1:H a=some (.tup xs)) (h2:H b=some (.tup ys)) (hz:xs.length+ys.length<=1000000) (q:∀ p H',H' p=some (.tup (xs++ys))->Same H H'->Q (.ref p) H'):kY K (.ref a) (.ref b) H Q :=
 ⟨a,b,xs,ys,rfl,rfl,SqT.of h1,SqT.of h2,iw hz,fun e=>q b H (by rw[e];exact h2) (Same.refl _),fun e=>q a H (by rw[e,gy];exact h1) (Same.refl _),fun p hp=>q p _ bC (Same.new hp)⟩
section
variable {X:Cx} {pos:Pos}
def gLst (K:W.Frag) (n:Nat) (t:TGs):TG:=fun v Z H Q=>∃ a xs,v=.ref a/\SqL K H a xs/\xs.length=n/\t xs Z H Q
theorem Zmp {prog:Program} {w:World} {A:Around} {E:Value->Shared->Prop} {s:Shared} {env:Env} {elts:List Expr} {k:Nat} {t:Addr} {items:Array Value} {Q:Unit->Shared->Prop} (hh:A.handled=none) (ht:s.heap.IsList t items)
  (hn:(assignEach elts env).length=items.size) (hstar:(assignEach elts env).findIdx? (·.1)=none)
  (h:∀ h',Heap.ExtBut s.heap.objs.size s.heap h'->wpAny (model prog w) A (assignInOrder ((assignEach elts env).map (·.2)) items.toList) Q E { s with heap:=h' }) :
  wpAny (model prog w) A (assign (.Tuple elts k pos) env (.ref t)) Q E s:=by
 rw[arm_assign_Tuple]
 refine ae (nq ?_)
 unfold unpack
 rw[hn,hstar]
 exact ae (dm (PySem.W.kun_itemsOf hh ht h))
theorem pg_lst {es:List Expr} {k:Nat} {t:TGs} {n:Nat} (hc:X.calm=true) (h:PGs X es t)
  (hn:(assignEach es X.env).length=n:=by rfl) (hst:(assignEach es X.env).findIdx? (·.1)=none:=by rfl):PG X (.Tuple es k pos) (gLst X.K n t):=by
 intro pins s Z H v u Q I r hw
 obtain ⟨a,xs,e1,hq,hl,hw⟩:=hw
 subst e1
 cases r
 obtain ⟨its,rv,ht,hz⟩:=I.list hq
 refine Zmp (I.ok.hd hc) ht.isList (by simp[hn,<- hl,rv.length]) hst fun h' hx=>?_
 have I1:Inv X pins Z H { s with heap:=h' }:=I.kept (t':=s.toks) fun b o e=>hx b o (bK (aV e)) e
 exact h pins _ Z H xs _ Q I1 (by simpa using rv) hw
theorem oS {K:W.Frag} {es:List Expr} {k:Nat} {t:TGs} {n:Nat} (h:X.K=K) (hc:X.calm=true) (hg:PGs X es t)
  (hn:(assignEach es X.env).length=n:=by rfl) (hst:(assignEach es X.env).findIdx? (·.1)=none:=by rfl):PG X (.Tuple es k pos) (gLst K n t):=h▸pg_lst hc hg hn hst
end
section
variable {X:Cx} {pos:Pos} {es:List Expr} {te:TE} {t:TA}
theorem iy {l:List Expr} (ha:PE X (.List l pos) te) (hr:PA X es t):PA X (.List l pos::es) (a9 te t):=eC ha hr rfl
theorem aT {l:List Expr} {k:Nat} (ha:PE X (.Tuple l k pos) te) (hr:PA X es t):PA X (.Tuple l k pos::es) (a9 te t):=eC ha hr rfl
theorem bG {a b:Expr} {op:Operator} (ha:PE X (.BinOp a op b pos) te) (hr:PA X es t):PA X (.BinOp a op b pos::es) (a9 te t):=eC ha hr rfl
theorem aK {f:Expr} {as:List Expr} {ks} (ha:PE X (.Call f as ks pos) te) (hr:PA X es t):PA X (.Call f as ks pos::es) (a9 te t):=eC ha hr rfl
theorem fh {e:Expr} {gs} {sc} (ha:PE X (.ListComp e gs sc pos) te) (hr:PA X es t):PA X (.ListComp e gs sc pos::es) (a9 te t):=eC ha hr rfl
theorem aL {a b:Expr} (ha:PE X (.Subscript a b pos) te) (hr:PA X es t):PA X (.Subscript a b pos::es) (a9 te t):=eC ha hr rfl
theorem bn {x:Str} (ha:PE X (.Name x pos) te) (hr:PA X es t):PA X (.Name x pos::es) (a9 te t):=eC ha hr rfl
theorem aj {c:Const} {k:Nat} (ha:PE X (.Constant c k pos) te) (hr:PA X es t):PA X (.Constant c k pos::es) (a9 te t):=eC ha hr rfl
theorem rX {a:Expr} {op:UnaryOp} (ha:PE X (.UnaryOp op a pos) te) (hr:PA X es t):PA X (.UnaryOp op a pos::es) (a9 te t):=eC ha hr rfl
theorem oV {a b c:Expr} (ha:PE X (.IfExp a b c pos) te) (hr:PA X es t):PA X (.IfExp a b c pos::es) (a9 te t):=eC ha hr rfl
theorem ZlV {a:Expr} {os:List CmpOp} {cs:List Expr} (ha:PE X (.Compare a os cs pos) te) (hr:PA X es t):PA X (.Compare a os cs pos::es) (a9 te t):=eC ha hr rfl
theorem gK {l:List Expr} {p:Pos} {i:Nat} {x:Str} {pos':Pos} (hN:X.N.Nodup) (hi:X.N[i]?=some x) (hx:Loc X.env.scope x) (he:PE X (.List l p) te) (hf:X.fn x=true\/X.env.scope.names.lookup x=some .local:=by first|exact .inl rfl|exact .inr rfl|assumption):PS X (.Assign [.Name x pos'] (.List l p) pos) (tAsg te (dj i)):=cv hN hi hx he rfl hf
theorem lb {l:List Expr} {k:Nat} {p:Pos} {i:Nat} {x:Str} {pos':Pos} (hN:X.N.Nodup) (hi:X.N[i]?=some x) (hx:Loc X.env.scope x) (he:PE X (.Tuple l k p) te) (hf:X.fn x=true\/X.env.scope.names.lookup x=some .local:=by first|exact .inl rfl|exact .inr rfl|assumption):PS X (.Assign [.Name x pos'] (.Tuple l k p) pos) (tAsg te (dj i)):=cv hN hi hx he rfl hf
theorem dG {a b:Expr} {op:Operator} {p:Pos} {i:Nat} {x:Str} {pos':Pos} (hN:X.N.Nodup) (hi:X.N[i]?=some x) (hx:Loc X.env.scope x) (he:PE X (.BinOp a op b p) te) (hf:X.fn x=true\/X.env.scope.names.lookup x=some .local:=by first|exact .inl rfl|exact .inr rfl|assumption):PS X (.Assign [.Name x pos'] (.BinOp a op b p) pos) (tAsg te (dj i)):=cv hN hi hx he rfl hf
theorem bL {f:Expr} {as:List Expr} {ks} {p:Pos} {i:Nat} {x:Str} {pos':Pos} (hN:X.N.Nodup) (hi:X.N[i]?=some x) (hx:Loc X.env.scope x) (he:PE X (.Call f as ks p) te) (hf:X.fn x=true\/X.env.scope.names.lookup x=some .local:=by first|exact .inl rfl|exact .inr rfl|assumption):PS X (.Assign [.Name x pos'] (.Call f as ks p) pos) (tAsg te (dj i)):=cv hN hi hx he rfl hf
theorem cO {a b:Expr} {p:Pos} {i:Nat} {x:Str} {pos':Pos} (hN:X.N.Nodup) (hi:X.N[i]?=some x) (hx:Loc X.env.scope x) (he:PE X (.Subscript a b p) te) (hf:X.fn x=true\/X.env.scope.names.lookup x=some .local:=by first|exact .inl rfl|exact .inr rfl|assumption):PS X (.Assign [.Name x pos'] (.Subscript a b p) pos) (tAsg te (dj i)):=cv hN hi hx he rfl hf
end
section
variable {prog:Program} {w:World} {K:Type} [DecidableEq K] {knd:KeyKind prog w K} {A:Around} {E:Value->Shared->Prop} {s:Shared}
inductive Its2 (knd:KeyKind prog w K) (h:Heap):List (List K)->List Value->Prop
 | nil:Its2 knd h [] []
 | cons {k:List K} {a:Addr} {ks:List (List K)} {vs:List Value}:IsTupleKey knd h k a->Its2 knd h ks vs->Its2 knd h (k::ks) (.ref a::vs)
def Is2 (knd:KeyKind prog w K) (h:Heap) (ks:List (List K)) (a:Addr):Prop:=∃ o items n,h.get? a=some o/\o.cls=.type "tuple"/\o.data=.seq items n/\Its2 knd h ks items.toList
theorem Its2.inj {h:Heap} {x y:List (List K)} {vs:List Value} (hx:Its2 knd h x vs) (hy:Its2 knd h y vs):x=y:=by
 induction hx generalizing y with
 | nil=>cases hy;rfl
 | cons h1 _ ih =>
  cases hy with
  | cons h2 t2=>rw[h1.inj h2,ih t2]
theorem Is2.typeIs {ks:List (List K)} {a:Addr} (x:Is2 knd s.heap ks a):s.TypeIs (.ref a) "tuple":=let ⟨o,_,_,ho,hc,_⟩:=x;⟨o,ho,hc⟩
theorem Is2.inj {h:Heap} {a:Addr} {x y:List (List K)} (hx:Is2 knd h x a) (hy:Is2 knd h y a):x=y:=by
 obtain ⟨o,items,n,ho,j,hd,hi⟩:=hx
 obtain ⟨o',items',n',ho',j,hd',hi'⟩:=hy
 obtain rfl:o=o':=Option.some.inj (ho.symm.trans ho')
 rw[hd] at hd'
 injection hd' with h1 _
 subst h1
 exact hi.inj hi'
theorem Its2.keeps {h h':Heap} {ks:List (List K)} {vs:List Value} {d:Addr} {o:Obj} {es ep} (x:Its2 knd h ks vs) (ho:h.get? d=some o) (hd:o.data=.dict es ep) (hs:Heap.SameBut d h h'):Its2 knd h' ks vs:=by
 induction x with
 | nil=>exact .nil
 | cons h1 _ ih=>exact .cons (h1.keeps ho hd hs) ih
theorem Is2.keeps {h h':Heap} {ks:List (List K)} {a d:Addr} {o:Obj} {es ep} (x:Is2 knd h ks a) (ho:h.get? d=some o) (hd:o.data=.dict es ep) (hs:Heap.SameBut d h h'):Is2 knd h' ks a:=by
 obtain ⟨o',items,n,ho',hc,hd',hi⟩:=x
 have hne:a≠d:=by
  rintro rfl
  obtain rfl:o'=o:=Option.some.inj (ho'.symm.trans ho)
  rw[hd] at hd';exact nomatch hd'
 exact ⟨o',items,n,(hs.2 a hne).trans ho',hc,hd',hi.keeps ho hd hs⟩
def pi (knd:KeyKind prog w K) (ks:List (List K)):Int:=reduceHash (Builtin.Tuple.tupleHashOf (ks.map (tupleKeyHash knd)))
def iK (ks:List (List K)):Nat:=(ks.map fun k=>k.length+1).sum
theorem ZlM {ks:List (List K)} {a:Addr} {Q:Int->Shared->Prop} (hu:A.units+1 < cLine) (hk:Is2 knd s.heap ks a) (h:Q (pi knd ks) { s with toks:=s.toks+(iK ks+1) }) :
  wpAny (model prog w) A (pyHash (.ref a)) Q E s:=by
 have hT:=hk.typeIs
 obtain ⟨o,items,n,ho,j,hd,hi⟩:=hk
 unfold pyHash
 first|unfold pyHashByItsType|skip
 first|refine ae (wpAny_cRoomFor_or (.inr (by lia)) ?_)|skip
 refine ae (kL hT F.slot_tuple_hash.lookup ?_)
 show wpAny _ _ (if (some (Value.builtin "tuple.__hash__") == some Value.none)=true then _ else _) Q E s
 rw[ai (by rw[beq_builtin_none];exact bA)]
 refine ae (kL hT F.slot_tuple_hash.lookup ?_)
 show wpAny _ _ (callSpecialIfBoundUnlessNone? (.ref a) "__hash__" _ >>= _) Q E s
 refine ae (wpAny_callSpecialIfBoundUnlessNone?_slot hT F.slot_tuple_hash (eT F.slot_tuple_hash hT F.entry_tuple_hash ?_ (F.args_tuple_hash_1 _)))
 show wpAny _ _ (Builtin.Tuple.tupleItemsOf (.ref a) >>= _) _ _ s
 refine ae (kQ ho hd ?_)
 refine ae ?_
 rw[<-qy]
 refine nI _
  (fun rest (b:Array Int) s'=>∃ done left,ks=done++left/\Its2 knd s.heap left rest/\b.toList=done.map (tupleKeyHash knd)/\s'={ s with toks:=s.toks+iK done })
  _ ?_ ?_ _ _ ⟨[],ks,rfl,hi,rfl,rfl⟩
 .rintro x rest b s' ⟨done,left,rfl,hl,hb,rfl⟩
  cases hl with
  | @cons k a' ks' _ h1 hl' =>
   have e:iK (done++[k])=iK done+(k.length+1):=by simp[iK]
   refine ae (wpAny_pyHash_tuple (knd:=knd) (by first|exact hu|(show A.units+1 < cLine;exact hu)) h1 ?_)
   first
    | exact am ⟨done++[k],ks',by simp,hl',by simp[hb],by simp[e,nJ]⟩
    | exact ae (am (am ⟨done++[k],ks',by simp,hl',by simp[hb],by simp[e,nJ]⟩))
 .rintro b s' ⟨done,left,rfl,hl,hb,rfl⟩
  cases hl
  rw[gy] at h
  show wpAny _ _ (retInt (Builtin.Tuple.tupleHashOf b.toList)) _ _ _
  rw[hb]
  refine wpAny_ret_mkInt ?_
  show wpAny _ _ (if (decide (-(2:Int) ^ 63<=Builtin.Tuple.tupleHashOf (done.map (tupleKeyHash knd))) && decide (Builtin.Tuple.tupleHashOf (done.map (tupleKeyHash knd)) < 2 ^ 63))=true then _ else _) Q E _
  unfold pi reduceHash at h
  by_cases hr:(decide (-(2:Int) ^ 63<=Builtin.Tuple.tupleHashOf (done.map (tupleKeyHash knd))) && decide (Builtin.Tuple.tupleHashOf (done.map (tupleKeyHash knd)) < 2 ^ 63))=true
  .rw[ah hr]
   rw[ah hr] at h
   exact am (by simpa [nJ] using h)
  .rw[ai hr]
   rw[ai hr] at h
   exact ae (fU (am (by simpa [nJ] using h)))
theorem Zl8 {x y:List (List K)} {a b:Addr} {P:Fin->Shared->Prop} (hu:A.units < cLine) (hx:Is2 knd s.heap x a) (hy:Is2 knd s.heap y b) (h:P (.done (.ret (.bool (decide (x=y))))) s) :
  wpAny (model prog w) A (Builtin.«tuple.__eq__» ⟨[.ref a,.ref b],[]⟩) P E s:=by
 have hTb:=hy.typeIs
 obtain ⟨oa,xs,na,hoa,j,hda,hia⟩:=hx
 obtain ⟨ob,ys,nb,hob,j,hdb,hib⟩:=hy
 show wpAny _ _ (isInstance (.ref b) (.type "tuple") >>= _) _ _ s
 refine ae (jx hTb nK ?_)
 simp only[fu,cu,bY]
 refine ae (kQ hoa hda ?_)
 refine ae (kQ hob hdb ?_)
 refine ae ?_
 refine nI _
  (fun rest r s'=>r.1=none/\s'=s/\∃ x' y' xs' ys',rest=List.zip xs' ys'/\Its2 knd s.heap x' xs'/\Its2 knd s.heap y' ys'/\decide (x'=y')=decide (x=y)/\(xs'.length == ys'.length)=(xs.size == ys.size))
  _ ?_ ?_ _ _ ⟨rfl,rfl,x,y,xs.toList,ys.toList,rfl,hia,hib,rfl,by simp⟩
 .rintro ⟨u,v⟩ rest r s' ⟨hr,rfl,x',y',xs',ys',hz,hx',hy',hdec,hlen⟩
  cases hx' with
  | nil=>simp at hz
  | @cons k1 u' x'' xs'' h1 hx'' =>
   cases hy' with
   | nil=>simp at hz
   | @cons k2 v' y'' ys'' h2 hy'' =>
    simp only[zip_cons_cons,List.cons.injEq,Prod.mk.injEq] at hz
    obtain ⟨⟨rfl,rfl⟩,rfl⟩:=hz
    refine ae (wpAny_eqBool_tuple (knd:=knd) hu h1 h2 ?_)
    by_cases hk:k1=k2
    .subst hk
     rw[aX rfl]
     simp only[fu,cu,bY]
     refine am ⟨rfl,rfl,x'',y'',xs'',ys'',rfl,hx'',hy'',?_,by simpa using hlen⟩
     rw[<-hdec]
     by_cases hxy:x''=y''
     .simp[hxy]
     .simp[hxy]
    .rw[aQ hk]
     simp only[qz,fR]
     have hf:decide (x=y)=false:=by rw[<-hdec];simp[hk]
     rw[hf] at h
     exact ae (am (am (am h)))
 .rintro ⟨r1,r2⟩ s' ⟨hr,rfl,x',y',xs',ys',hz,hx',hy',hdec,hlen⟩
  simp only at hr
  subst hr
  refine am ?_
  have hfin:(xs.size == ys.size)=decide (x=y):=by
   rw[<-hdec,<- hlen]
   cases hx' with
   | nil =>
    cases hy' with
    | nil=>simp
    | cons _ _=>simp
   | cons _ _ =>
    cases hy' with
    | nil=>simp
    | cons _ _=>simp at hz
  show P (.done (.ret (.bool (xs.size == ys.size)))) s'
  rw[hfin];exact h
theorem Zl9 {x y:List (List K)} {a b:Addr} {Q:Bool->Shared->Prop} (hu:A.units+1 < cLine) (hx:Is2 knd s.heap x a) (hy:Is2 knd s.heap y b) (h:Q (decide (x=y)) s) :
  wpAny (model prog w) A (eqBool (.ref a) (.ref b)) Q E s:=by
 unfold eqBool
 try with_reducible refine dm ?_
 show wpAny _ _ (if (Value.ref a == Value.ref b)=true then _ else _) Q E s
 by_cases hab:(Value.ref a == Value.ref b)=true
 .rw[ah hab]
  have e:a=b:=by have:=eq_of_beq hab;injection this
  subst e
  obtain rfl:=hx.inj hy
  exact ae (fU (am (by simpa using h)))
 .rw[ai hab]
  exact ae (wpAny_richCompare_same_room (op:=.Eq) hx.typeIs hy.typeIs F.slot_tuple_eq
   (eT F.slot_tuple_eq hx.typeIs F.entry_tuple_eq (Zl8 (by exact hu) hx hy ⟨_,rfl,(fun e=>nomatch e),jm h⟩) (F.args_tuple_eq_2 _ _)) (by lia))
theorem Znv {n:Nat} {ks:List K} {a:Addr} {Q:Bool->Shared->Prop} (hk:IsTupleKey knd s.heap ks a) (h:Q true s):wpAny (model prog w) A (eqIsQuiet (n+1) (.ref a)) Q E s:=by
 have hT:=hk.typeIs
 obtain ⟨o,items,m,ho,j,hd,hi⟩:=hk
 unfold eqIsQuiet
 refine ae (kL hT F.slot_tuple_eq.lookup ?_)
 show wpAny _ _ (isInstance (.ref a) (.type "tuple") >>= _) _ _ s
 refine ae (jx hT nK ?_)
 simp only[fu,cu,bY]
 refine ae (wpAny_seqItems ho hd ?_)
 refine ae ?_
 show wpAny _ _ (forIn items _ _) _ _ s
 rw[<-qy]
 refine nI _ (fun rest r s'=>r.1=none/\s'=s/\∀ v∈rest,carriedByValue v=true) _ ?_ ?_ _ _ ⟨rfl,rfl,hi.byValue⟩
 .rintro v rest r s' ⟨hr,rfl,hall⟩
  rw[eqIsQuiet_byValue _ (hall v bi)]
  refine ae (am ?_)
  simp only[fu,cu,bY]
  exact am ⟨rfl,rfl,fun u hu'=>hall u (bH _ hu')⟩
 .rintro ⟨r1,r2⟩ s' ⟨hr,rfl,j⟩
  simp only at hr
  subst hr
  exact am h
theorem Znu {ks:List (List K)} {a:Addr} {Q:Bool->Shared->Prop} (hk:Is2 knd s.heap ks a) (h:Q true s):wpAny (model prog w) A (eqIsQuiet 8 (.ref a)) Q E s:=by
 have hT:=hk.typeIs
 obtain ⟨o,items,m,ho,j,hd,hi⟩:=hk
 unfold eqIsQuiet
 refine ae (kL hT F.slot_tuple_eq.lookup ?_)
 show wpAny _ _ (isInstance (.ref a) (.type "tuple") >>= _) _ _ s
 refine ae (jx hT nK ?_)
 simp only[fu,cu,bY]
 refine ae (wpAny_seqItems ho hd ?_)
 refine ae ?_
 show wpAny _ _ (forIn items _ _) _ _ s
 rw[<-qy]
 refine nI _ (fun rest r s'=>r.1=none/\s'=s/\∃ ks',Its2 knd s.heap ks' rest) _ ?_ ?_ _ _ ⟨rfl,rfl,ks,hi⟩
 .rintro v rest r s' ⟨hr,rfl,ks',hall⟩
  cases hall with
  | cons h1 t1 =>
   refine ae (Znv (knd:=knd) h1 ?_)
   simp only[fu,cu,bY]
   exact am ⟨rfl,rfl,_,t1⟩
 .rintro ⟨r1,r2⟩ s' ⟨hr,rfl,j⟩
  simp only at hr
  subst hr
  exact am h
end
def kind2 {prog:Program} {w:World} {K:Type} [DecidableEq K] (knd:KeyKind prog w K):HeapKind prog w (List (List K)) where
 is:=Is2 knd
 hash:=pi knd
 draws:=fun ks=>iK ks+1
 room:=fun A=>A.units+1 < cLine
 inj:=fun hx hy=>hx.inj hy
 keeps:=fun x ho hd hs=>x.keeps ho hd hs
 pyHash:=fun hu hk h=>ZlM hu hk h
 eqBool:=fun hu hx hy h=>Zl9 hu hx hy h
 quiet:=fun hk h=>Znu hk h
end L2
end
section
namespace L2
open PySem
def aP (t:List (Int×Int)) (w:Int):Int:=match t with
 | []=>0
 | q::r=>if q.1=w then q.2 else aP r w
def addT (t:List (Int×Int)) (w x:Int):List (Int×Int):=match t with
 | []=>[(w,x)]
 | q::r=>if q.1=w then (q.1,q.2+x)::r else q::addT r w x
theorem rR {t:List (Int×Int)} {w:Int} (h:w∉t.map (·.1)):aP t w=0:=by
 induction t with
 | nil=>rfl
 | cons q t ih =>
  have h:w∉q.1::t.map (·.1):=h
  rw[aG,bM] at h
  rw[aP,ai (fun e=>h.1 e.symm)]
  exact ih h.2
theorem ZjR (t:List (Int×Int)) (w:Int):(valV (kvT t) (Sum.inl w:Key)).getD (V.int 0)=V.int (aP t w):=by
 induction t with
 | nil=>rfl
 | cons q t ih =>
  show (valV ((Sum.inl q.1,V.int q.2)::kvT t) (Sum.inl w:Key)).getD _=_
  rw[aP]
  by_cases e:q.1=w
  .rw[kr (by rw[e]),ah e]
   rfl
  .rw[jd (fun z=>e (Sum.inl.inj z)),ai e]
   exact ih
theorem sE {t:List (Int×Int)} {w:Int} (h:w∈t.map (·.1)):valV (kvT t) (Sum.inl w:Key)=some (V.int (aP t w)):=by
 induction t with
 | nil=>cases h
 | cons q t ih =>
  show valV ((Sum.inl q.1,V.int q.2)::kvT t) (Sum.inl w:Key)=_
  rw[aP]
  by_cases e:q.1=w
  .rw[kr (by rw[e]),ah e]
  .rw[jd (fun z=>e (Sum.inl.inj z)),ai e]
   have h:w∈q.1::t.map (·.1):=h
   exact ih ((aG.mp h).resolve_left fun z=>e z.symm)
theorem ph (t:List (Int×Int)) (w x:Int):(addT t w x).map (·.1)=if w∈t.map (·.1) then t.map (·.1) else t.map (·.1)++[w]:=by
 induction t with
 | nil=>simp[addT]
 | cons q t ih =>
  rw[addT]
  by_cases e:q.1=w
  .rw[ah e,ah (show w∈(q::t).map (·.1) by rw[aS,e];exact bi)]
   rfl
  .rw[ai e,aS,ih]
   have hne:¬ w=q.1:=fun z=>e z.symm
   by_cases h:w∈t.map (·.1)
   .rw[ah h,ah (show w∈(q::t).map (·.1) by rw[aS];exact bH _ h)]
    rfl
   .rw[ai h,ai (show ¬ w∈(q::t).map (·.1) by rw[aS,aG,bM];exact ⟨hne,h⟩)]
    rfl
theorem Zlq (t:List (Int×Int)) (w x v:Int):aP (addT t w x) v=aP t v+if v=w then x else 0:=by
 induction t with
 | nil =>
  rw[addT,aP,aP,aP]
  by_cases e:w=v
  .rw[ah e,ah e.symm];lia
  .rw[ai e,ai (fun z=>e z.symm)];lia
 | cons q t ih =>
  rw[addT]
  by_cases e:q.1=w
  .rw[ah e,aP,aP]
   by_cases ev:q.1=v
   .rw[ah ev,ah ev,ah (by lia)]
   .rw[ai ev,ai ev,ai (by lia)];lia
  .rw[ai e,aP,aP]
   by_cases ev:q.1=v
   .rw[ah ev,ah ev,ai (by lia)];lia
   .rw[ai ev,ai ev]
    exact ih
theorem rO {t:List (Int×Int)} {w x:Int} (h:(t.map (·.1)).Nodup):((addT t w x).map (·.1)).Nodup:=by
 rw[ph]
 by_cases e:w∈t.map (·.1)
 .rw[ah e];exact h
 .rw[ai e];exact rP h e
theorem ZlO {t:List (Int×Int)} {w x:Int} (h:(t.map (·.1)).Nodup):putK (kvT t) (Sum.inl w:Key) (V.int (aP t w+x))=kvT (addT t w x):=by
 by_cases e:w∈t.map (·.1)
 .unfold putK
  rw[mY,sE e]
  simp only[Option.isSome_some,fR]
  induction t with
  | nil=>cases e
  | cons q t ih =>
   have h:(q.1::t.map (·.1)).Nodup:=h
   obtain ⟨h1,h2⟩:=cQ.mp h
   rw[addT,aP]
   by_cases eq:q.1=w
   .rw[ah eq,ah eq]
    subst eq
    unfold kvT
    rw[aS,aS,aS,ah rfl]
    congr 1
    rw[map_map]
    refine map_congr_left fun q' hq'=>?_
    have hne:q'.1≠q.1:=fun z=>h1 (by rw[<-z];exact mem_map_of_mem hq')
    show (if (Sum.inl q'.1:Key)=Sum.inl q.1 then _ else _)=_
    rw[ai (fun z=>hne (Sum.inl.inj z))]
   .rw[ai eq,ai eq]
    have e':w∈t.map (·.1):=by
     have e:w∈q.1::t.map (·.1):=e
     exact (aG.mp e).resolve_left fun z=>eq z.symm
    have:=ih h2 e'
    unfold kvT at this ⊢
    rw[aS,aS,aS,this,ai (fun z=>eq (Sum.inl.inj z))]
 .rw[rR e,nL,ZlN (fun q hq z=>e (by rw[<-z];exact mem_map_of_mem hq))]
  congr 1
  clear h
  induction t with
  | nil=>rfl
  | cons q t ih =>
   have e:w∉q.1::t.map (·.1):=e
   rw[aG,bM] at e
   rw[addT,ai (fun z=>e.1 z.symm),<- ih e.2]
   rfl
def aZ (t:List (Int×Int)) (ps:List (Int×Int)) (n:Int):List (Int×Int):=ps.foldl (fun t p=>addT t p.2 (p.1 * n)) t
def atW (ps:List (Int×Int)) (w:Int):Int:=(ps.map fun p=>if p.2=w then p.1 else 0).sum
theorem cZ (ps:List (Int×Int)) (n:Int):∀ {t:List (Int×Int)},(t.map (·.1)).Nodup->((aZ t ps n).map (·.1)).Nodup:=by
 induction ps with
 | nil=>exact fun h=>h
 | cons p ps ih=>exact fun h=>ih (rO h)
theorem fX (ps:List (Int×Int)) (n w:Int):∀ (t:List (Int×Int)),aP (aZ t ps n) w=aP t w+atW ps w * n:=by
 induction ps with
 | nil=>intro t;simp[aZ,atW]
 | cons p ps ih =>
  intro t
  show aP (aZ (addT t p.2 (p.1 * n)) ps n) w=_
  rw[ih,Zlq]
  unfold atW
  rw[aS,ce,nM]
  by_cases e:w=p.2
  .rw[ah e,ah e.symm];lia
  .rw[ai e,ai (fun z=>e z.symm)];lia
end L2
namespace L2
open PySem
theorem Zmq (t:List (Int×Int)) (w x:Int):(addT t w x).length<=t.length+1:=by
 have:=congrArg List.length (ph t w x)
 rw[af] at this
 rw[this]
 split
 .rw[af];lia
 .rw[ax,af];simp
theorem jF (ps:List (Int×Int)) (n:Int):∀ (t:List (Int×Int)),(aZ t ps n).length<=t.length+ps.length:=by
 induction ps with
 | nil=>intro t;exact aA _
 | cons p ps ih =>
  intro t
  have h1:=ih (addT t p.2 (p.1 * n))
  have h2:=Zmq t p.2 (p.1 * n)
  show (aZ (addT t p.2 (p.1 * n)) ps n).length<=_
  rw[cm]
  lia
theorem pA (t ps:List (Int×Int)) (p:Int×Int) (n:Int):aZ t (ps++[p]) n=addT (aZ t ps n) p.2 (p.1 * n):=by
 unfold aZ
 rw[foldl_append]
 rfl
def ci (t:List (Int×Int)) (ms:List Int):List (Int×Int):=(ms.filter fun w=>decide (aP t w≠0)).map fun w=>(aP t w,w)
end L2
end
section
namespace L2
open PySem
structure Canon (ps:List (Int×Int)):Prop where
 up:ps.Pairwise fun p q=>p.2 < q.2
 nz:∀ p∈ps,p.1≠0
theorem gj (p:Int×Int) (ps:List (Int×Int)) (w:Int):atW (p::ps) w=(if p.2=w then p.1 else 0)+atW ps w:=by unfold atW;rw[aS,ce]
theorem ZjE (ps qs:List (Int×Int)) (w:Int):atW (ps++qs) w=atW ps w+atW qs w:=by
 induction ps with
 | nil=>rw[kK];unfold atW;simp
 | cons p ps ih=>rw[cons_append,gj,gj,ih];lia
theorem iF {ps:List (Int×Int)} {w:Int} (h:∀ p∈ps,p.2≠w):atW ps w=0:=by
 induction ps with
 | nil=>rfl
 | cons p ps ih =>
  rw[gj,ai (h p bi),ih fun q hq=>h q (bH _ hq)]
  lia
theorem Canon.tail {p:Int×Int} {ps:List (Int×Int)} (h:Canon (p::ps)):Canon ps:=⟨(nH.mp h.up).2,fun q hq=>h.nz q (bH _ hq)⟩
theorem Canon.head {p:Int×Int} {ps:List (Int×Int)} (h:Canon (p::ps)):atW (p::ps) p.2=p.1/\p.1≠0/\∀ w,w < p.2->atW (p::ps) w=0:=by
 have h1:=(nH.mp h.up).1
 refine ⟨?_,h.nz p bi,fun w hw=>?_⟩
 .rw[gj,ah rfl,iF fun q hq=>by have:=h1 q hq;lia]
  lia
 .refine iF fun q hq=>?_
  rcases aG.mp hq with rfl|hq
  .lia
  .have:=h1 q hq
   lia
theorem canon_one : ∀ {ps qs : List (Int × Int)}, Canon ps -> Canon qs -> (∀ w, atW ps w = atW qs w) -> ps = qs
  | [], [], _, _, _ => rfl
  | [], q :: qs, _, h, e => by
    obtain ⟨h1,h2,j⟩:=h.head
    have:=e q.2
    rw[h1] at this
    exact absurd this.symm h2
  | p :: ps, [], h, _, e => by
    obtain ⟨h1,h2,j⟩:=h.head
    have:=e p.2
    rw[h1] at this
    exact absurd this h2
  | p :: ps, q :: qs, hp, hq, e => by
    obtain ⟨p1,p2,p3⟩:=hp.head
    obtain ⟨q1,q2,q3⟩:=hq.head
    have hw : p.2 = q.2 := by
      rcases Int.lt_trichotomy p.2 q.2 with h|h|h
      . have := e p.2
        rw[p1,q3 _ h] at this
        exact absurd this p2
      . exact h
      . have := e q.2
        rw[q1,p3 _ h] at this
        exact absurd this.symm q2
    have ha:p.1=q.1:=by rw[<-p1,<- q1,e p.2,hw]
    have hpq:p=q:=Prod.ext ha hw
    subst hpq
    rw[canon_one hp.tail hq.tail fun w => by
      have:=e w
      rw[gj,gj] at this
      lia]
theorem ZgW {t:List (Int×Int)} {ms:List Int} (hn:ms.Nodup) (hs:ms.Pairwise (·<=·)):Canon (ci t ms):=by
 refine ⟨?_,fun p hp=>?_⟩
 .unfold ci
  rw[pairwise_map]
  refine List.Pairwise.filter _ ?_
  refine (hs.and hn).imp fun h=>?_
  have h1:=h.1
  have h2:=h.2
  show _ < _
  lia
 .unfold ci at hp
  obtain ⟨w,hw,rfl⟩:=bg.mp hp
  exact nN (mem_filter.mp hw).2
theorem Zkn {t:List (Int×Int)} {ms:List Int} (hn:ms.Nodup) (w:Int):atW (ci t ms) w=if w∈ms then aP t w else 0:=by
 induction ms with
 | nil=>rfl
 | cons m ms ih =>
  obtain ⟨h1,h2⟩:=cQ.mp hn
  have ih:=ih h2
  have e:ci t (m::ms)=(if aP t m≠0 then [(aP t m,m)] else [])++ci t ms:=by
   unfold ci
   by_cases h:aP t m=0 <;> simp[h]
  rw[e,ZjE,ih]
  by_cases hw:m=w
  .subst hw
   rw[ai h1,ah bi]
   by_cases h:aP t m=0
   .rw[ai (by simpa using h),h];rfl
   .rw[ah h,gj,ah rfl]
    show _+atW [] m+0=_
    rw[iF (fun j hq=>by cases hq)]
    lia
  .have e0:atW (if aP t m≠0 then [(aP t m,m)] else []) w=0:=by
    refine iF fun q hq=>?_
    split at hq
    .obtain rfl:=aU.mp hq
     exact hw
    .cases hq
   rw[e0]
   by_cases h:w∈ms
   .rw[ah h,ah (bH _ h)];lia
   .rw[ai h,ai (fun z=>(aG.mp z).elim (fun z=>hw z.symm) h)];lia
theorem ZhM {t:List (Int×Int)} {ms:List Int} (hn:(t.map (·.1)).Nodup) (hp:ms.Perm (t.map (·.1))) (w:Int):atW (ci t ms) w=aP t w:=by
 rw[Zkn (hp.nodup_iff.mpr hn)]
 by_cases h:w∈ms
 .rw[ah h]
 .rw[ai h,rR fun z=>h (hp.mem_iff.mpr z)]
end L2
namespace L2
open PySem
abbrev Frm:=Int×List (Int×Int)
def nthF (fl:List Frm) (w:Int):Frm:=fl.getD w.toNat (0,[])
def putC (c:Int) (ps:List (Int×Int)) (fl:List Frm):Int:=ps.foldl (fun c p=>c+p.1 * (nthF fl p.2).1) c
def dy (ps:List (Int×Int)) (fl:List Frm):List (Int×Int):=ps.foldl (fun t p=>aZ t (nthF fl p.2).2 p.1) []
def putAt (ps:List (Int×Int)) (fl:List Frm) (w:Int):Int:=(ps.map fun p=>atW (nthF fl p.2).2 w * p.1).sum
theorem o7 (ps:List (Int×Int)) (p:Int×Int) (fl:List Frm):dy (ps++[p]) fl=aZ (dy ps fl) (nthF fl p.2).2 p.1:=by unfold dy;rw[foldl_append];rfl
theorem Zi8 (ps:List (Int×Int)) (p:Int×Int) (fl:List Frm) (w:Int):putAt (ps++[p]) fl w=putAt ps fl w+atW (nthF fl p.2).2 w * p.1:=by unfold putAt;simp
theorem pw {α:Type} {C:List α->Prop} (h0:C []) (h1:∀ l a,C l->C (l++[a])) (l:List α):C l:=by
 have key:∀ (m:List α),C m.reverse:=by
  intro m
  induction m with
  | nil=>exact h0
  | cons a m ih=>rw[reverse_cons];exact h1 _ a ih
 have:=key l.reverse
 rwa [reverse_reverse] at this
theorem n9 (ps:List (Int×Int)) (fl:List Frm):((dy ps fl).map (·.1)).Nodup:=by
 refine pw (C:=fun ps=>((dy ps fl).map (·.1)).Nodup) cV (fun l a h=>?_) ps
 show ((dy (l++[a]) fl).map (·.1)).Nodup
 rw[o7]
 exact cZ _ _ h
theorem ZhI (ps:List (Int×Int)) (fl:List Frm) (w:Int):aP (dy ps fl) w=putAt ps fl w:=by
 refine pw (C:=fun ps=>aP (dy ps fl) w=putAt ps fl w) rfl (fun l a h=>?_) ps
 show aP (dy (l++[a]) fl) w=putAt (l++[a]) fl w
 rw[o7,Zi8,fX,h]
end L2
end
section
namespace L2
open PySem PySem.Spec PyProof.Rows
def tu:List V->Hp->VK->Prop:=fun xs H Q=>∃ (a:Addr) (kvs:List (Key×V)) (ns:List Int),xs=[.ref a]/\H a=some (.dK kvs)/\kvs.map (·.1)=ns.map Sum.inl /\
 ns.length < 64/\∀ (ms:List Int) p,ms.Perm ns->ms.Pairwise (·<=·)->H p=none->Q (.ref p) (upd H p (.lst (ms.map V.int)))
theorem qL {X:Cx} (hc:X.calm=true):bF X (.builtin "sorted") tu:=by
 intro pins s Z H xs us Q I r h
 obtain ⟨a,kvs,ns,rfl,ha,hk,hsz,q⟩:=h
 obtain ⟨u,rfl,ru⟩:=vals1 r
 cases ru
 obtain ⟨hz,hS,vs,kv,hd⟩:=(show ObjOk X.prog X.w H s.heap a (.dK kvs) from I.hok a _ ha)
 obtain ⟨ep,hat⟩:=hd.dictAt
 have hlen:kvs.length=vs.length:=Paired.length kv
 refine u7 (id kind_sorted) plain_sorted entry_sorted (args_sorted1 _) ?_
 unfold Builtin.«sorted»
 refine ae (m:=checkCount "sorted" 1 1 _) (am (id ?_))
 refine ae (PySem.W.kdu_collect (A:=X.A.in1) (PySem.W.kdl_dict (knd:=cj X.prog X.w) (kvs:=vs) (ep:=ep) hS) (I.ok.hd hc) hat (by lia) fun h' tk acc keep hacc=>?_)
 have hal:acc.toList.length=vs.length:=by rw[dL];exact hacc.1
 have hints:IntsAre acc.toList ns:=by
  have key:∀ (j:Nat) v,acc.toList[j]?=some v->∃ n t,ns[j]?=some n/\v=Value.int n t:=by
   intro j v e
   obtain ⟨k,x,e1,e2⟩:=hacc.2 j v (by rw[<-kJ];exact e)
   have e3:(kvs.map (·.1))[j]?=some k:=by
    obtain ⟨p,ep1,ep2⟩:=KV.at' kv e1
    rw[aq,ep1]
    exact congrArg some ep2
   rw[hk,aq] at e3
   obtain ⟨n,en,rfl⟩:=bc.mp e3
   obtain ⟨t,rfl⟩:=Value.isInt_shape (k:=n) (v:=v) e2
   exact ⟨n,t,en,rfl⟩
  exact rN (by rw[hal,<- hlen];have:=congrArg List.length hk;simpa using this) key
 have hroom:acc.toList.length<=sizeLine:=by lia
 refine ae (nF (id ?_) hroom)
 have hD:(h'.push (seqObj "list" acc.toList.toArray 0)).get? h'.objs.size=some (seqObj "list" acc.toList.toArray 0):=ck _ rfl
 have hnl:ns.length=acc.toList.length:=hints.length.symm
 refine ae (dm (eT slot_list_sort ⟨_,hD,rfl⟩ entry_list_sort (Zne (z:={ s with heap:=h'.push (seqObj "list" acc.toList.toArray 0),toks:=tk }) hD hints hroom (fun h2 z'=>?_) fun out ms q1 q2 q3=>⟨_,rfl,?_⟩) (args_list_sort _)))
 .exact ZlE hints.intKeys (by rw[gH];exact h2) (by rw[gH,<- hnl];exact hsz)
 .refine am ⟨_,rfl,?_⟩
  generalize hF:sortedHeap (h'.push (seqObj "list" acc.toList.toArray 0)) h'.objs.size acc.toList out=hf
  have keepF:∀ b o,s.heap.get? b=some o->hf.get? b=some o:=fun b o e=>by
   have e1:=keep b o e
   have hlt:=aV e1
   rw[<-hF,sortedHeap_old (bK hlt) (by rw[size_push'];exact qw hlt)]
   exact bt _ e1
  have hne:∀ b o,s.heap.get? b=some o->b≠h'.objs.size:=fun b o e=>bK (aV (keep b o e))
  have hH:H h'.objs.size=none:=by
   cases e:H h'.objs.size with
   | none=>rfl
   | some o =>
    obtain ⟨o',e'⟩:=(I.hok _ o e).there
    exact absurd rfl (hne _ o' e')
  obtain ⟨ep2,hat2⟩:=sortedHeap_at (out:=out) hD
  rw[hF] at hat2
  have hml:ms.length=ns.length:=q2.length_eq
  refine ⟨.ref h'.objs.size,upd H h'.objs.size (.lst (ms.map V.int)),I.un (Un.track' (Un.kept keepF) hne hH) (HOk.track (I.hok.kept keepF) hH ⟨by rw[af];lia,out.toList,ep2,rb q1,?_⟩),rfl,q ms _ q2 q3 hH⟩
  simpa using hat2
inductive T where
 | non|bl (b:Bool)|int (i:Int)|str (x:Str)|tup (ts:List T)|lst (ts:List T)|ptr (a:Addr)|cst (xs:List Str)
inductive Ct where
 | lst (ts:List T)|bag (l:Addr)|ins (C dx:Addr) (fs:List (Str×T))|own (x:Addr)|dn (kvs:List (List (List Key)×T))|tb (t:List (Int×Int))|dt (kvs:List (List Key×T))|dz (o:Obj) (vs:List (List Key×V)) (kvs:List (List Key×T))|dk (kvs:List (Key×T))
abbrev GH:=Addr->Option Ct
def gput (G:GH) (a:Addr) (c:Ct):GH:=fun b=>if b=a then some c else G b
def gdel (G:GH) (a:Addr):GH:=fun b=>if b=a then none else G b
section
variable {G:GH} {a b:Addr} {c c':Ct}
theorem gp_s:gput G a c a=some c:=ah rfl
theorem gp_n (h:b≠a):gput G a c b=G b:=ai h
theorem gp_p:gput (gput G a c) a c'=gput G a c':=by funext b;unfold gput;split <;> rfl
theorem gp_c (h:a≠b):gput (gput G a c) b c'=gput (gput G b c') a c:=by
 funext x;unfold gput;by_cases e:x=b <;> by_cases e':x=a <;> simp[e,e',h,Ne.symm h]
theorem gp_d (h:G a=none):gdel (gput G a c) a=G:=by
 funext b;unfold gdel gput;by_cases e:b=a
 .rw[ah e,e,h]
 .rw[ai e,ai e]
theorem g_ne {a b:Addr} (h:G a=some c) (h':G b=none):a≠b:=fun e=>by rw[e,h'] at h;cases h
theorem fO (h:G a=some c):gput G a c=G:=by
 funext b;unfold gput;by_cases e:b=a
 .rw[ah e,e,h]
 .rw[ai e]
end
def Key2 (H:Hp) (ks:List (List Key)) (b:Addr):Prop:=∃ rs:List Addr,H b=some (.tup (rs.map V.ref))/\Paired (fun (k:List Key) r=>H r=some (.tup (k.map kV))) ks rs
def dnO (P:Program) (w:World) (a:Addr) (kvs:List (List (List Key)×Addr×V)):HO:=.ext fun h=>(a == sysModules)=false/\kvs.length<=sizeLine/\∃ xs:List (List (List Key)×Addr×Value),
 Paired (fun (p:List (List Key)×Addr×V) (q:List (List Key)×Addr×Value)=>p.1=q.1/\p.2.1=q.2.1/\RelV p.2.2 q.2.2) kvs xs /\
 ∃ o es ep,h.get? a=some o/\o.ExactDict/\o.data=.dict es ep/\es.toList=xs.map (entryOfKey (kind2 (cj P w)))/\(xs.map (·.1)).Nodup
section
variable (P:Program) (w:World) (K:W.Frag) (G:GH) (H:Hp)
mutual
inductive RepT:T->V->Prop
 | non:RepT .non .non
 | bl {b}:RepT (.bl b) (.bl b)
 | int {i}:RepT (.int i) (.int i)
 | str {x}:RepT (.str x) (.str x)
 | tup {a xs ts} (h:H a=some (.tup xs)) (r:RepTs ts xs):RepT (.tup ts) (.ref a)
 | lst {a xs ts} (g:G a=none) (h:H a=some (.lst xs)) (r:RepTs ts xs):RepT (.lst ts) (.ref a)
 | ptr {a}:RepT (.ptr a) (.ref a)
 | cst {a xs} (h:∀ H',SqT K H' a (xs.map V.str)):RepT (.cst xs) (.ref a)
inductive RepTs:List T->List V->Prop
 | nil:RepTs [] []
 | cons {t ts v vs} (h:RepT t v) (r:RepTs ts vs):RepTs (t::ts) (v::vs)
end
def COk (a:Addr):Ct->Prop
 | .lst ts=>∃ xs,H a=some (.lst xs)/\RepTs K G H ts xs
 | .bag l=>BagAt H a l/\G l=none
 | .ins C dx fs=>∃ fs',H a=some (.ins C dx fs')/\G dx=some (.own a)/\Paired (fun (p:Str×T) (q:Str×V)=>p.1=q.1/\RepT K G H p.2 q.2) fs fs'
 | .own x=>H a=some (.own x)
 | .tb t=>H a=some (.dK (kvT t))/\(t.map (·.1)).Nodup
 | .dt kvs=>∃ kvs',H a=some (.dT kvs')/\Paired (fun (p:List Key×T) (q:List Key×V)=>p.1=q.1/\RepT K G H p.2 q.2) kvs kvs'
 | .dz o vs kvs=>H a=some (.frz o (.dT vs))/\Paired (fun (p:List Key×T) (q:List Key×V)=>p.1=q.1/\RepT K G H p.2 q.2) kvs vs
 | .dk kvs=>∃ kvs',H a=some (.dK kvs')/\Paired (fun (p:Key×T) (q:Key×V)=>p.1=q.1/\RepT K G H p.2 q.2) kvs kvs'
 | .dn kvs=>∃ kvs',H a=some (dnO P w a kvs')/\Paired (fun (p:List (List Key)×T) (q:List (List Key)×Addr×V)=>p.1=q.1/\Key2 H p.1 q.2.1/\RepT K G H p.2 q.2.2) kvs kvs'
def GOk:Prop:=∀ a c,G a=some c->COk P w K G H a c
end
def Stp (G:GH) (H:Hp) (G':GH) (H':Hp):Prop:=∀ a o,G a=none->H a=some o->H' a=some o/\G' a=none
section
variable {P:Program} {w:World} {K:W.Frag} {G G1 G2 G':GH} {H H1 H2 H':Hp} {t:T} {ts us:List T} {v:V} {xs ys vs:List V} {a b:Addr} {c:Ct}
theorem Stp.refl:Stp G H G H:=fun j j g h=>⟨h,g⟩
theorem Stp.trans (s:Stp G H G1 H1) (t:Stp G1 H1 G2 H2):Stp G H G2 H2:=fun a o g h=>let ⟨h1,g1⟩:=s a o g h;t a o g1 h1
theorem Stp.same (s:Same H H'):Stp G H G H':=fun a o g h=>⟨s a o h,g⟩
theorem COk.ntup (x:COk P w K G H a c):(∃ o,H a=some o)/\∀ ys,H a≠some (.tup ys):=by
 cases c with
 | lst ts=>obtain ⟨xs,h,j⟩:=x;exact ⟨⟨_,h⟩,fun ys e=>by rw[h] at e;cases e⟩
 | bag l=>obtain ⟨xs,h⟩:=x.1.lst;exact ⟨⟨_,h⟩,fun ys e=>by rw[h] at e;cases e⟩
 | ins C dx fs=>obtain ⟨j,h,j⟩:=x;exact ⟨⟨_,h⟩,fun ys e=>by rw[h] at e;cases e⟩
 | tb t=>exact ⟨⟨_,x.1⟩,fun ys e=>by rw[x.1] at e;cases e⟩
 | own y=>have h:H a=some (.own y):=x;exact ⟨⟨_,h⟩,fun ys e=>by rw[h] at e;cases e⟩
 | dn kvs=>obtain ⟨j,h,j⟩:=x;exact ⟨⟨_,h⟩,fun ys e=>by rw[h] at e;cases e⟩
 | dt kvs=>obtain ⟨j,h,j⟩:=x;exact ⟨⟨_,h⟩,fun ys e=>by rw[h] at e;cases e⟩
 | dz o vs kvs=>exact ⟨⟨_,x.1⟩,fun ys e=>by rw[x.1] at e;cases e⟩
 | dk kvs=>obtain ⟨j,h,j⟩:=x;exact ⟨⟨_,h⟩,fun ys e=>by rw[h] at e;cases e⟩
theorem GOk.tup (g:GOk P w K G H) (h:H a=some (.tup xs)):G a=none:=by
 cases e:G a with
 | none=>rfl
 | some c=>exact absurd h ((g a c e).ntup.2 xs)
theorem GOk.free (g:GOk P w K G H) (h:H a=none):G a=none:=by
 cases e:G a with
 | none=>rfl
 | some c=>obtain ⟨o,q⟩:=(g a c e).ntup.1;rw[q] at h;cases h
def Kp (G:GH) (H:Hp) (G':GH) (H':Hp):Prop:=(∀ a xs,H a=some (.tup xs)->H' a=some (.tup xs))/\∀ a xs,G a=none->H a=some (.lst xs)->H' a=some (.lst xs)/\G' a=none
theorem Stp.kp (s:Stp G H G' H') (g:GOk P w K G H):Kp G H G' H':=⟨fun a xs h=>(s a _ (g.tup h) h).1,fun a xs n h=>s a _ n h⟩
mutual
theorem RepT.kp (s : Kp G H G' H') : ∀ {t : T} {v : V}, RepT K G H t v -> RepT K G' H' t v
  | _, _, h => by
    cases h with
    | tup h r => exact .tup (s.1 _ _ h) (RepTs.kp s r)
    | lst g h r => exact .lst (s.2 _ _ g h).2 (s.2 _ _ g h).1 (RepTs.kp s r)
    | cst h => exact .cst h
    | _ => constructor
theorem RepTs.kp (s : Kp G H G' H') : ∀ {t : List T} {v : List V}, RepTs K G H t v -> RepTs K G' H' t v
  | _, _, h => by
    cases h with
    | nil => exact .nil
    | cons h r => exact .cons (RepT.kp s h) (RepTs.kp s r)
end
theorem RepT.mono (r:RepT K G H t v) (g:GOk P w K G H) (s:Stp G H G' H'):RepT K G' H' t v:=r.kp (s.kp g)
theorem RepTs.mono (r:RepTs K G H ts xs) (g:GOk P w K G H) (s:Stp G H G' H'):RepTs K G' H' ts xs:=r.kp (s.kp g)
theorem RepTs.length:∀ {ts:List T} {xs:List V},RepTs K G H ts xs->ts.length=xs.length
 | _,_,.nil=>rfl
 | _,_,.cons _ r=>by rw[cm,cm,r.length]
theorem RepTs.get:∀ {ts:List T} {xs:List V} {i:Nat} {t:T},RepTs K G H ts xs->ts[i]?=some t->∃ v,xs[i]?=some v/\RepT K G H t v
 | _,_,0,_,.cons h _,e=>by cases e;exact ⟨_,rfl,h⟩
 | _,_,i+1,t,.cons _ r,e=>RepTs.get (i:=i) (t:=t) r e
theorem RepTs.app:∀ {ts us:List T} {xs ys:List V},RepTs K G H ts xs->RepTs K G H us ys->RepTs K G H (ts++us) (xs++ys)
 | _,_,_,_,.nil,q=>q
 | _,_,_,_,.cons h r,q=>.cons h (r.app q)
theorem RepTs.take:∀ {ts:List T} {xs:List V} (n:Nat),RepTs K G H ts xs->RepTs K G H (ts.take n) (xs.take n)
 | _,_,0,_=>.nil
 | _,_,n+1,.nil=>.nil
 | _,_,n+1,.cons h r=>.cons h (r.take n)
theorem RepTs.drop:∀ {ts:List T} {xs:List V} (n:Nat),RepTs K G H ts xs->RepTs K G H (ts.drop n) (xs.drop n)
 | _,_,0,r=>r
 | _,_,n+1,.nil=>.nil
 | _,_,n+1,.cons h r=>r.drop n
theorem RepTs.set:∀ {ts:List T} {xs:List V} (n:Nat),RepT K G H t v->RepTs K G H ts xs->RepTs K G H (ts.set n t) (xs.set n v)
 | _,_,_,q,.nil=>.nil
 | _,_,0,q,.cons h r=>.cons q r
 | _,_,n+1,q,.cons h r=>.cons h (r.set n q)
theorem fF {α β:Type} {F F':α->β->Prop} (f:∀ a b,F a b->F' a b) {l:List α} {m:List β} (r:Paired F l m):Paired F' l m:=Paired.mapP r f
theorem ZkH {ks:List (List Key)} (t:pY H H') (k:Key2 H ks b):Key2 H' ks b:=let ⟨rs,h,r⟩:=k;⟨rs,t _ _ h,fF (fun j j q=>t _ _ q) r⟩
theorem COk.kp (x:COk P w K G H a c) (s:Kp G H G' H') (h:∀ o,H a=some o->H' a=some o) (hb:∀ l,c=.bag l->(∀ o,H l=some o->H' l=some o)/\(G l=none->G' l=none)) (ho:∀ C dx fs,c=.ins C dx fs->G dx=some (.own a)->G' dx=some (.own a)):COk P w K G' H' a c:=by
 cases c with
 | lst ts=>obtain ⟨xs,e,r⟩:=x;exact ⟨xs,h _ e,r.kp s⟩
 | bag l =>
  obtain ⟨⟨xs,i,m,st,c,h1,h2,r⟩,g⟩:=x
  exact ⟨⟨xs,i,m,st,c,h _ h1,(hb l rfl).1 _ h2,r⟩,(hb l rfl).2 g⟩
 | ins C dx fs=>obtain ⟨fs',e,g,r⟩:=x;exact ⟨fs',h _ e,ho C dx fs rfl g,fF (fun p q z=>⟨z.1,z.2.kp s⟩) r⟩
 | own y=>exact h _ x
 | tb t=>exact ⟨h _ x.1,x.2⟩
 | dt kvs=>obtain ⟨kvs',e,r⟩:=x;exact ⟨kvs',h _ e,fF (fun p q z=>⟨z.1,z.2.kp s⟩) r⟩
 | dz o vs kvs=>exact ⟨h _ x.1,fF (fun p q z=>⟨z.1,z.2.kp s⟩) x.2⟩
 | dk kvs=>obtain ⟨kvs',e,r⟩:=x;exact ⟨kvs',h _ e,fF (fun p q z=>⟨z.1,z.2.kp s⟩) r⟩
 | dn kvs=>obtain ⟨kvs',e,r⟩:=x;exact ⟨kvs',h _ e,fF (fun p q z=>⟨z.1,ZkH s.1 z.2.1,z.2.2.kp s⟩) r⟩
theorem BagAt.lo {l:Addr} (B:BagAt H a l):∃ o,H l=some o:=let ⟨_,_,_,_,_,_,h,_⟩:=B.ex;⟨_,h⟩
theorem GOk.same (g:GOk P w K G H) (s:Same H H'):GOk P w K G H':=fun a c e=>(g a c e).kp ((Stp.same s).kp g) (fun o=>s a o) (fun l j=>⟨fun o=>s l o,id⟩) fun j j j j=>id
theorem GOk.put {o:HO} (g:GOk P w K G H) (h:(∃ c,G a=some c)\/H a=none) (hc:COk P w K (gput G a c) (upd H a o) a c) (hl:∀ b l,b≠a->G b=some (.bag l)->l≠a) (hd:∀ b C dx fs,b≠a->G b=some (.ins C dx fs)->dx≠a):GOk P w K (gput G a c) (upd H a o)/\Stp G H (gput G a c) (upd H a o):=by
 have ne:∀ b u,G b=none->H b=some u->b≠a:=fun b u gb hb e=>by
  subst e
  rcases h with ⟨c,h⟩|h
  .rw[gb] at h;cases h
  .rw[hb] at h;cases h
 have st:Stp G H (gput G a c) (upd H a o):=fun b u gb hb=>⟨by rw[bh (ne b u gb hb)];exact hb,by rw[gp_n (ne b u gb hb)];exact gb⟩
 refine ⟨fun b c' e=>?_,st⟩
 by_cases hb:b=a
 .subst hb;rw[gp_s] at e;cases e;exact hc
 .rw[gp_n hb] at e
  refine (g b c' e).kp (st.kp g) (fun u q=>by rw[bh hb];exact q) (fun l z=>?_) fun C dx fs z q=>?_
  .subst z
   have:=hl b l hb e
   exact ⟨fun u q=>by rw[bh this];exact q,fun q=>by rw[gp_n this];exact q⟩
  .subst z
   rw[gp_n (hd b C dx fs hb e)];exact q
theorem GOk.putL {ts':List T} {xs':List V} (g:GOk P w K G H) (h:(∃ us,G a=some (.lst us))\/H a=none) (r:RepTs K G H ts' xs'):GOk P w K (gput G a (.lst ts')) (upd H a (.lst xs'))/\Stp G H (gput G a (.lst ts')) (upd H a (.lst xs')):=by
 have h':(∃ c,G a=some c)\/H a=none:=h.imp (fun ⟨us,e⟩=>⟨_,e⟩) id
 have ga:∀ c,G a=some c->∃ us,c=.lst us:=fun c e=>by
  rcases h with ⟨us,h⟩|h
  .rw[h] at e;cases e;exact ⟨us,rfl⟩
  .rw[g.free h] at e;cases e
 have ne:∀ b u,G b=none->H b=some u->b≠a:=fun b u gb hb e=>by
  subst e
  rcases h' with ⟨c,h⟩|h
  .rw[gb] at h;cases h
  .rw[hb] at h;cases h
 have st:Stp G H (gput G a (.lst ts')) (upd H a (.lst xs')):=fun b u gb hb=>⟨by rw[bh (ne b u gb hb)];exact hb,by rw[gp_n (ne b u gb hb)];exact gb⟩
 refine g.put h' ⟨xs',bC,r.mono g st⟩ (fun b l hb e z=>?_) (fun b C dx fs hb e z=>?_)
 .subst z
  obtain ⟨o,q⟩:=(g b _ e).1.lo
  exact ne _ o (g b _ e).2 q rfl
 .subst z
  obtain ⟨j,j,q,j⟩:=g b _ e
  obtain ⟨us,z⟩:=ga _ q
  cases z
end
end L2
end
section
namespace L2
open PySem PySem.Spec PyProof.Rows
abbrev Ev:=List (Option T)
section
variable (P:Program) (w:World) (K:W.Frag)
structure EnvOk (G:GH) (H:Hp) (Z:St) (Γ:Ev):Prop where
 len:Z.length=Γ.length
 at':∀ (i:Nat) (t:T),Γ[i]?=some (some t)->∃ v,Z[i]?=some (some v)/\RepT K G H t v
def Pst (G:GH) (H:Hp) (k:T->GH->Prop) (Q:VK):Prop:=∀ v H' d G',Stp G H G' H'->GOk P w K G' H'->RepT K G' H' d v->k d G'->Q v H'
def We (t:TE) (Γ:Ev) (G:GH) (k:T->GH->Prop):Prop:=∀ H Z,GOk P w K G H->EnvOk K G H Z Γ->∀ Q,Pst P w K G H k Q->t Z H Q
def Wt (t:TT) (Γ:Ev) (G:GH) (k:Bool->GH->Prop):Prop:=∀ H Z,GOk P w K G H->EnvOk K G H Z Γ->∀ Q,(∀ b H' G',Stp G H G' H'->GOk P w K G' H'->k b G'->Q b H')->t Z H Q
def Wa (t:TA) (Γ:Ev) (G:GH) (k:List T->GH->Prop):Prop:=∀ H Z,GOk P w K G H->EnvOk K G H Z Γ->∀ Q,(∀ vs H' ds G',Stp G H G' H'->GOk P w K G' H'->RepTs K G' H' ds vs->k ds G'->Q vs H')->t Z H Q
def Pn (G:GH) (H:Hp) (k:Ev->GH->Prop) (R:St->Hp->Prop):Prop:=∀ σ' H' Γ' G',Stp G H G' H'->GOk P w K G' H'->EnvOk K G' H' σ' Γ'->k Γ' G'->R σ' H'
structure EndT where
 nx:Ev->GH->Prop
 rt:T->GH->Prop
 bk:Ev->GH->Prop:=fun _ _=>False
 ct:Ev->GH->Prop:=fun _ _=>False
structure EOkT (G:GH) (H:Hp) (D:EndT) (D':Ends):Prop where
 nx:Pn P w K G H D.nx D'.nx
 rt:Pst P w K G H D.rt D'.rt
 bk:Pn P w K G H D.bk D'.bk
 ct:Pn P w K G H D.ct D'.ct
def Ws (t:TS) (Γ:Ev) (G:GH) (D:EndT):Prop:=∀ H Z,GOk P w K G H->EnvOk K G H Z Γ->∀ D',EOkT P w K G H D D'->t D' Z H
def Wg (g:TG) (d:T) (Γ:Ev) (G:GH) (k:Ev->GH->Prop):Prop:=∀ H Z v,GOk P w K G H->EnvOk K G H Z Γ->RepT K G H d v->∀ R,Pn P w K G H k R->g v Z H R
def Wgs (g:TGs) (ds:List T) (Γ:Ev) (G:GH) (k:Ev->GH->Prop):Prop:=∀ H Z vs,GOk P w K G H->EnvOk K G H Z Γ->RepTs K G H ds vs->∀ R,Pn P w K G H k R->g vs Z H R
def L2r (r:R2) (x y:T) (G:GH) (k:T->GH->Prop):Prop:=∀ H u v,GOk P w K G H->RepT K G H x u->RepT K G H y v->∀ Q,Pst P w K G H k Q->r u v H Q
def L1r (r:V->Hp->VK->Prop) (x:T) (G:GH) (k:T->GH->Prop):Prop:=∀ H u,GOk P w K G H->RepT K G H x u->∀ Q,Pst P w K G H k Q->r u H Q
def LNr (r:List V->Hp->VK->Prop) (xs:List T) (G:GH) (k:T->GH->Prop):Prop:=∀ H us,GOk P w K G H->RepTs K G H xs us->∀ Q,Pst P w K G H k Q->r us H Q
def IsIt (G:GH) (H:Hp) (J:It) (xs:List T) (kp:GH->Prop):Prop:=∀ G' H',Stp G H G' H'->GOk P w K G' H'->kp G'->(∀ (i:Nat) x,xs[i]?=some x->J.go i H'/\∀ v H2,J.yld i H' v H2->Same H' H2/\RepT K G' H2 x v)/\J.stop xs.length H'
def Wo (t:TO) (Γ:Ev) (G:GH) (k:Option Int->GH->Prop):Prop:=∀ H Z,GOk P w K G H->EnvOk K G H Z Γ->∀ Q,(∀ b H' G',Stp G H G' H'->GOk P w K G' H'->k b G'->Q b H')->t Z H Q
def Wi (t:TI) (Γ:Ev) (G:GH) (k:List T->(GH->Prop)->GH->Prop):Prop:=∀ H Z,GOk P w K G H->EnvOk K G H Z Γ->∀ Q,(∀ J H' xs kp G',Stp G H G' H'->GOk P w K G' H'->IsIt P w K G' H' J xs kp->k xs kp G'->Q J H')->t Z H Q
end
theorem fY {A B:Prop} (h:if true=true then A else B):A:=by simpa using h
theorem gi {A B:Prop} (h:if false=true then A else B):B:=by simpa using h
section
variable {P:Program} {w:World} {K:W.Frag} {G G1 G2 G':GH} {H H1 H2 H':Hp} {a:Addr} {Γ:Ev} {Z:St} {ta tb tc te:TE} {k:T->GH->Prop} {kb:Bool->GH->Prop} {ka:List T->GH->Prop} {kn:Ev->GH->Prop} {Q:VK} {d x y:T} {i:Nat} {D:EndT} {t u:TS} {c c2:TT} {tr:TA} {r r':R2} {g:TG} {gs:TGs} {ds xs:List T}
theorem EnvOk.mono (e:EnvOk K G H Z Γ) (g:GOk P w K G H) (s:Stp G H G' H'):EnvOk K G' H' Z Γ:=⟨e.len,fun i t q=>let ⟨v,h,r⟩:=e.at' i t q;⟨v,h,r.mono g s⟩⟩
theorem EnvOk.set {v:V} (e:EnvOk K G H Z Γ) (r:RepT K G H d v):EnvOk K G H (Z.set i (some v)) (Γ.set i (some d)):=by
 refine ⟨by rw[cr,cr,e.len],fun j t q=>?_⟩
 by_cases h:i=j
 .subst h
  have hi:i < Γ.length:=by have:=(ba.mp q).1;rwa [cr] at this
  rw[jk hi] at q
  cases q
  exact ⟨v,jk (by rw[e.len];exact hi),r⟩
 .rw[nj h] at q ⊢
  exact e.at' j t q
theorem Pst.mono (p:Pst P w K G H k Q) (s:Stp G H G' H'):Pst P w K G' H' k Q:=fun v H2 d G2 s2 g r q=>p v H2 d G2 (s.trans s2) g r q
theorem Pn.mono {R:St->Hp->Prop} (p:Pn P w K G H kn R) (s:Stp G H G' H'):Pn P w K G' H' kn R:=fun v H2 d G2 s2 g r q=>p v H2 d G2 (s.trans s2) g r q
theorem EOkT.mono {D':Ends} (e:EOkT P w K G H D D') (s:Stp G H G' H'):EOkT P w K G' H' D D':=⟨e.nx.mono s,e.rt.mono s,e.bk.mono s,e.ct.mono s⟩
theorem Pst.here {v:V} (p:Pst P w K G H k Q) (g:GOk P w K G H) (r:RepT K G H d v) (q:k d G):Q v H:=p v H d G .refl g r q
theorem Pst.new {p:Addr} {o:HO} (z:Pst P w K G H k Q) (g:GOk P w K G H) (hp:H p=none) (q:k d G) (r:Same H (upd H p o)->GOk P w K G (upd H p o)->G p=none->RepT K G (upd H p o) d (.ref p)):Q (.ref p) (upd H p o) :=
 z _ _ d G (.same (.new hp)) (g.same (.new hp)) (r (.new hp) (g.same (.new hp)) (g.free hp)) q
theorem Pst.tup {p:Addr} {vs:List V} (z:Pst P w K G H k Q) (g:GOk P w K G H) (hp:H p=none) (rs:RepTs K G H ds vs) (q:k (.tup ds) G):Q (.ref p) (upd H p (.tup vs)):=z.new g hp q fun s j j=>.tup bC (rs.mono g (.same s))
theorem Pst.lst {p:Addr} {vs:List V} (z:Pst P w K G H k Q) (g:GOk P w K G H) (hp:H p=none) (rs:RepTs K G H ds vs) (q:k (.lst ds) G):Q (.ref p) (upd H p (.lst vs)):=z.new g hp q fun s j n=>.lst n bC (rs.mono g (.same s))
theorem eR (e:Γ[i]?=some (some d)) (q:k d G):We P w K (tVar i) Γ G k:=fun H Z g ev Q z=>let ⟨v,h,r⟩:=ev.at' i d e;⟨v,h,z.here g r q⟩
theorem fZ {n:Int} (q:k (.int n) G):We P w K (tC (.int n)) Γ G k:=fun H Z g ev Q z=>z.here g .int q
theorem iI {n:Str} (q:k (.str n) G):We P w K (tC (.str n)) Γ G k:=fun H Z g ev Q z=>z.here g .str q
theorem ir {n:Bool} (q:k (.bl n) G):We P w K (tC (.bl n)) Γ G k:=fun H Z g ev Q z=>z.here g .bl q
theorem ix (q:k .non G):We P w K (tC .non) Γ G k:=fun H Z g ev Q z=>z.here g .non q
theorem iD (h:We P w K ta Γ G fun x G1=>We P w K tb Γ G1 fun y G2=>L2r P w K r x y G2 k):We P w K (tOp r ta tb) Γ G k:=fun H Z g ev Q z=>h H Z g ev _ fun v H1 x G1 s1 g1 r1 q1=>q1 H1 Z g1 (ev.mono g s1) _ fun u H2 y G2 s2 g2 r2 q2=>q2 H2 v u g2 (r1.mono g1 s2) r2 Q (z.mono (s1.trans s2))
theorem iR {r:V->Hp->VK->Prop} (h:We P w K ta Γ G fun x G1=>L1r P w K r x G1 k):We P w K (tUn r ta) Γ G k:=fun H Z g ev Q z=>h H Z g ev _ fun v H1 x G1 s1 g1 r1 q1=>q1 H1 v g1 r1 Q (z.mono s1)
theorem d8 (h:ka [] G):Wa P w K tNil Γ G ka:=fun H Z g ev Q z=>z [] H [] G .refl g .nil h
theorem gh (h:We P w K ta Γ G fun x G1=>Wa P w K tr Γ G1 fun xs G2=>ka (x::xs) G2):Wa P w K (a9 ta tr) Γ G ka:=fun H Z g ev Q z=>h H Z g ev _ fun v H1 x G1 s1 g1 r1 q1=>q1 H1 Z g1 (ev.mono g s1) _ fun us H2 xs G2 s2 g2 r2 q2=>z _ H2 _ G2 (s1.trans s2) g2 (.cons (r1.mono g1 s2) r2) q2
theorem iH (h:Wa P w K tr Γ G fun ts G1=>ts.length<=1000/\k (.tup ts) G1):We P w K (tTup tr) Γ G k:=fun H Z g ev Q z=>h H Z g ev _ fun vs H1 ts G1 s1 g1 r1 q1=>⟨gU (by rw[<-r1.length];exact q1.1),fun p hp=>(z.mono s1).tup g1 hp r1 q1.2⟩
theorem iL (h:Wa P w K tr Γ G fun ts G1=>ts.length<=1000/\k (.lst ts) G1):We P w K (tLst tr) Γ G k:=fun H Z g ev Q z=>h H Z g ev _ fun vs H1 ts G1 s1 g1 r1 q1=>⟨gU (by rw[<-r1.length];exact q1.1),fun p hp=>(z.mono s1).lst g1 hp r1 q1.2⟩
theorem fg (h:Wa P w K tr Γ G fun ts G1=>ts.length<=1000/\∀ a,G1 a=none->k (.ptr a) (gput G1 a (.lst ts))):We P w K (tLst tr) Γ G k:=fun H Z g ev Q z=>h H Z g ev _ fun vs H1 ts G1 s1 g1 r1 q1=>⟨gU (by rw[<-r1.length];exact q1.1),fun p hp =>
 let ⟨g2,s2⟩:=g1.putL (.inr hp) r1;z _ _ _ _ (s1.trans s2) g2 .ptr (q1.2 p (g1.free hp))⟩
theorem im {rr:List V->Hp->VK->Prop} (h:Wa P w K tr Γ G fun xs G1=>LNr P w K rr xs G1 k):We P w K (tCB rr tr) Γ G k:=fun H Z g ev Q z=>h H Z g ev _ fun us H1 xs G1 s1 g1 r1 q1=>q1 H1 us g1 r1 Q (z.mono s1)
theorem iU {sp:Sp} {E:XK} (h:Wa P w K tr Γ G fun xs G1=>LNr P w K (fun vs H Q=>sp vs H Q E) xs G1 k):We P w K (fc sp [] E tr) Γ G k:=fun H Z g ev Q z=>h H Z g ev _ fun us H1 xs G1 s1 g1 r1 q1=>by rw[gy];exact q1 H1 us g1 r1 Q (z.mono s1)
theorem je {rr:V->Option Int->Option Int->Hp->VK->Prop} {tl th:TO} (h:We P w K te Γ G fun x G1=>Wo P w K tl Γ G1 fun l G2=>Wo P w K th Γ G2 fun u G3=>L1r P w K (fun v H Q=>rr v l u H Q) x G3 k):We P w K (tSl rr te tl th) Γ G k:=fun H Z g ev Q z =>
 h H Z g ev _ fun v H1 x G1 s1 g1 r1 q1=>q1 H1 Z g1 (ev.mono g s1) _ fun l H2 G2 s2 g2 q2=>q2 H2 Z g2 (ev.mono g (s1.trans s2)) _ fun u H3 G3 s3 g3 q3=>q3 H3 v g3 (r1.mono g1 (s2.trans s3)) Q (z.mono (s1.trans (s2.trans s3)))
theorem ii {ko:Option Int->GH->Prop} (h:ko none G):Wo P w K oI Γ G ko:=fun H Z g ev Q z=>z none H G .refl g h
theorem iO {ko:Option Int->GH->Prop} (h:We P w K te Γ G fun x G1=>∃ i,x=.int i/\ko (some i) G1):Wo P w K (pF te) Γ G ko:=fun H Z g ev Q z=>h H Z g ev _ fun v H1 x G1 s1 g1 r1 ⟨i,e,q⟩=>by subst e;cases r1;exact ⟨i,rfl,z _ _ _ s1 g1 q⟩
theorem ik (h:We P w K te Γ G fun x G1=>∃ b,x=.bl b/\kb b G1):Wt P w K (oE te) Γ G kb:=fun H Z g ev Q z=>h H Z g ev _ fun v H1 x G1 s1 g1 r1 ⟨b,e,q⟩=>by subst e;cases r1;exact ⟨b,rfl,z _ _ _ s1 g1 q⟩
theorem wt_b (h:We P w K te Γ G fun x G1=>∃ b,x=.bl b/\kb b G1):Wt P w K (tB te) Γ G kb:=fun H Z g ev Q z=>h H Z g ev _ fun v H1 x G1 s1 g1 r1 ⟨b,e,q⟩=>by subst e;cases r1;exact ⟨b,rfl,z _ _ _ s1 g1 q⟩
theorem jj (h:Wt P w K c Γ G fun b G1=>if b=true then Wt P w K c2 Γ G1 kb else kb false G1):Wt P w K (tAnd c c2) Γ G kb:=fun H Z g ev Q z=>h H Z g ev _ fun b H1 G1 s1 g1 q1=>by
 cases b with
 | true=>exact iteT ((fY q1) H1 Z g1 (ev.mono g s1) Q fun b H2 G2 s2=>z b H2 G2 (s1.trans s2))
 | false=>exact iteF (z _ _ _ s1 g1 (gi q1))
theorem jb (h:Wt P w K c Γ G fun b G1=>if b=true then kb true G1 else Wt P w K c2 Γ G1 kb):Wt P w K (tOr c c2) Γ G kb:=fun H Z g ev Q z=>h H Z g ev _ fun b H1 G1 s1 g1 q1=>by
 cases b with
 | true=>exact iteT (z _ _ _ s1 g1 (fY q1))
 | false=>exact iteF ((gi q1) H1 Z g1 (ev.mono g s1) Q fun b H2 G2 s2=>z b H2 G2 (s1.trans s2))
theorem jh (h:Wt P w K c Γ G fun b G1=>kb (!b) G1):Wt P w K (tNot c) Γ G kb:=fun H Z g ev Q z=>h H Z g ev _ fun b H1 G1 s1 g1 q1=>z _ _ _ s1 g1 q1
theorem fz (h:kb true G):Wt P w K gN Γ G kb:=fun H Z g ev Q z=>z _ _ _ .refl g h
theorem iz (h:We P w K ta Γ G fun x G1=>∃ b,x=.bl b/\if b=true then We P w K tb Γ G1 k else k (.bl false) G1):We P w K (tAndV ta tb) Γ G k:=fun H Z g ev Q z=>h H Z g ev _ fun v H1 x G1 s1 g1 r1 ⟨b,e,q⟩=>by
 subst e;cases r1
 refine ⟨b,rfl,?_⟩
 cases b with
 | true=>exact iteT ((fY q) H1 Z g1 (ev.mono g s1) Q (z.mono s1))
 | false=>exact iteF ((z.mono s1).here g1 .bl (gi q))
theorem iS (h:Wt P w K c Γ G fun b G1=>if b=true then We P w K ta Γ G1 k else We P w K tb Γ G1 k):We P w K (tIf c ta tb) Γ G k:=fun H Z g ev Q z=>h H Z g ev _ fun b H1 G1 s1 g1 q1=>by
 cases b with
 | true=>exact iteT ((fY q1) H1 Z g1 (ev.mono g s1) Q (z.mono s1))
 | false=>exact iteF ((gi q1) H1 Z g1 (ev.mono g s1) Q (z.mono s1))
theorem eM (h:D.nx Γ G):Ws P w K oQ Γ G D:=fun H Z g ev D' z=>z.nx Z H Γ G .refl g ev h
theorem bE (h:Ws P w K t Γ G { D with nx:=fun Γ' G'=>Ws P w K u Γ' G' D }):Ws P w K (tSeq t u) Γ G D:=fun H Z g ev D' z=>h H Z g ev _ ⟨fun σ' H' Γ' G' s g' e' q=>q H' σ' g' e' D' (z.mono s),z.rt,z.bk,z.ct⟩
theorem b0 (h:We P w K te Γ G fun d G1=>Wg P w K g d Γ G1 D.nx):Ws P w K (tAsg te g) Γ G D:=fun H Z g ev D' z=>h H Z g ev _ fun v H1 x G1 s1 g1 r1 q1=>q1 H1 Z v g1 (ev.mono g s1) r1 _ (z.nx.mono s1)
theorem aW (h:kn (Γ.set i (some d)) G):Wg P w K (dj i) d Γ G kn:=fun H Z v g ev r R z=>z _ H _ G .refl g (ev.set r) h
theorem dU (h:kn Γ G):Wgs P w K gNil [] Γ G kn:=fun H Z v g ev r R z=>by cases r;exact ⟨rfl,z _ H _ G .refl g ev h⟩
theorem b7 (h:Wg P w K g d Γ G fun Γ' G'=>Wgs P w K gs ds Γ' G' kn):Wgs P w K (gCons g gs) (d::ds) Γ G kn:=fun H Z vs g ev r R z=>by
 cases r with
 | cons r1 r2=>exact ⟨_,_,rfl,h H Z _ g ev r1 _ fun σ' H' Γ' G' s g' e' q=>q H' σ' _ g' e' (r2.mono g s) R (z.mono s)⟩
theorem bX {n:Nat} (hl:ds.length=n) (h:Wgs P w K gs ds Γ G kn):Wg P w K (gTup K n gs) (.tup ds) Γ G kn:=fun H Z v g ev r R z=>by
 cases r with
 | tup ha rs=>exact ⟨_,_,rfl,SqT.of ha,by rw[<-rs.length];exact hl,h H Z _ g ev rs R z⟩
theorem dZ (h:Wt P w K c Γ G fun b G1=>if b=true then Ws P w K t Γ G1 D else Ws P w K u Γ G1 D):Ws P w K (tIfS c t u) Γ G D:=fun H Z g ev D' z=>h H Z g ev _ fun b H1 G1 s1 g1 q1=>by
 cases b with
 | true=>exact iteT ((fY q1) H1 Z g1 (ev.mono g s1) D' (z.mono s1))
 | false=>exact iteF ((gi q1) H1 Z g1 (ev.mono g s1) D' (z.mono s1))
theorem fE (h:We P w K te Γ G fun j G1=>D.nx Γ G1):Ws P w K (mW te) Γ G D:=fun H Z g ev D' z=>h H Z g ev _ fun v H1 x G1 s1 g1 r1 q1=>z.nx Z H1 Γ G1 s1 g1 (ev.mono g s1) q1
theorem GOk.del (g:GOk P w K G H) (hl:∀ x,G a≠some (.own x)):GOk P w K (gdel G a) H:=fun b c e=>by
 have hb:b≠a:=fun z=>by subst z;unfold gdel at e;rw[ah rfl] at e;cases e
 have e':G b=some c:=by unfold gdel at e;rwa [ai hb] at e
 have kk:Kp G H (gdel G a) H:=⟨fun j j h=>h,fun c xs n h=>⟨h,by unfold gdel;split <;> first|rfl|exact n⟩⟩
 refine (g b c e').kp kk (fun j h=>h) (fun l j=>⟨fun j h=>h,fun q=>by unfold gdel;split <;> first|rfl|exact q⟩) fun C dx fs z q=>?_
 unfold gdel
 rw[ai]
 .exact q
 .intro z
  subst z
  exact hl _ q
def Cl (k:T->GH->Prop) (d:T) (G:GH):Prop:=∃ d' G',(∀ c,G c=none->G' c=none)/\(∀ P w K H v,GOk P w K G H->RepT K G H d v->GOk P w K G' H/\RepT K G' H d' v)/\k d' G'
theorem aw (h:k d G):Cl k d G:=⟨d,G,fun j h=>h,fun j j j j j g r=>⟨g,r⟩,h⟩
theorem oB {ts:List T}:Kp G H (gdel G a) H:=⟨fun j j h=>h,fun c xs n h=>⟨h,by unfold gdel;split <;> first|rfl|exact n⟩⟩
theorem sU {ts:List T} (n:G a=none) (h:Cl k (.lst ts) G):Cl k (.ptr a) (gput G a (.lst ts)):=by
 obtain ⟨d',G',h1,h2,h3⟩:=h
 refine ⟨d',G',fun c q=>h1 c ?_,fun P w K H v g r=>?_,h3⟩
 .by_cases e:c=a
  .rw[e];exact n
  .rwa [gp_n e] at q
 .cases r
  have gd:=g.del (a:=a) fun x e=>by rw[gp_s] at e;cases e
  obtain ⟨xs,e,rs⟩:=g a _ gp_s
  have rs:=rs.kp (oB (ts:=ts) (a:=a))
  rw[gp_d n] at gd rs
  exact h2 P w K H _ gd (.lst n e rs)
theorem eI {c0:Ct} (n:G a=none) (ho:∀ x,c0≠.own x) (h:Cl k d G):Cl k d (gput G a c0):=by
 obtain ⟨d',G',h1,h2,h3⟩:=h
 refine ⟨d',G',fun c q=>h1 c ?_,fun P w K H v g r=>?_,h3⟩
 .by_cases e:c=a
  .rw[e];exact n
  .rwa [gp_n e] at q
 .have gd:=g.del (a:=a) fun x e=>by rw[gp_s] at e;cases e;exact ho _ rfl
  have rs:=r.kp (oB (ts:=[]) (a:=a))
  rw[gp_d n] at gd rs
  exact h2 P w K H _ gd rs
theorem eX (h:We P w K te Γ G (Cl D.rt)):Ws P w K (tRet te) Γ G D:=fun H Z g ev D' z=>h H Z g ev _ fun v H1 x G1 s1 g1 r1 ⟨d',G',h1,h2,h3⟩ =>
 let ⟨g2,r2⟩:=h2 P w K H1 v g1 r1;z.rt v H1 d' G' (fun a o n e=>⟨(s1 a o n e).1,h1 a (s1 a o n e).2⟩) g2 r2 h3
def Cn (k:Ev->GH->Prop) (Γ:Ev) (G:GH):Prop:=∃ G',(∀ c,G c=none->G' c=none)/\(∀ P w K H,GOk P w K G H->GOk P w K G' H)/\k Γ G'
theorem ca (h:kn Γ G):Cn kn Γ G:=⟨G,fun j h=>h,fun j j j j g=>g,h⟩
theorem Pn.cn {R:St->Hp->Prop} (p:Pn P w K G H kn R):Pn P w K G H (Cn kn) R:=fun σ' H' Γ' G' s g e ⟨G2,h1,h2,h3⟩=>p σ' H' Γ' G2 (fun a o n q=>⟨(s a o n q).1,h1 a (s a o n q).2⟩) (h2 _ _ _ _ g) ⟨e.len,fun i t q=>let ⟨v,hv,r⟩:=e.at' i t q;⟨v,hv,r.kp ⟨fun j j h=>h,fun c xs n h=>⟨h,h1 c n⟩⟩⟩⟩ h3
theorem iN {wi:TI} (h:Wi P w K wi Γ G fun xs kp G1=>∃ I:Nat->Ev->GH->Prop,I 0 Γ G1/\(∀ i Γ' G',I i Γ' G'->kp G')/\(∀ (i:Nat) x Γ' G',xs[i]?=some x->I i Γ' G'->Wg P w K g x Γ' G' fun Γ2 G2=>Ws P w K t Γ2 G2 { D with nx:=Cn (I (i+1)),ct:=Cn (I (i+1)),bk:=D.nx })/\∀ Γ' G',I xs.length Γ' G'->D.nx Γ' G'):Ws P w K (tFor wi g t) Γ G D:=fun H Z g ev D' z =>
 h H Z g ev _ fun J H1 xs kp G1 s1 g1 it z0_=>by
  obtain ⟨I,i0,hk,hs,hd⟩:=z0_
  refine ⟨fun i m Z H=>∃ Γ' G',m=xs.length - i/\i<=xs.length/\Stp G1 H1 G' H/\GOk P w K G' H/\EnvOk K G' H Z Γ'/\I i Γ' G',⟨_,Γ,G1,rfl,bD _,.refl,g1,ev.mono g s1,i0⟩,?_⟩
  rintro i m Z H ⟨Γ',G',rfl,hi,s2,g2,e2,p⟩
  obtain ⟨j1,j2⟩:=it G' H s2 g2 (hk i Γ' G' p)
  by_cases hlt:i < xs.length
  .obtain ⟨jg,jy⟩:=j1 i xs[i] (aC hlt)
   refine .inr ⟨jg,fun σ' H'=>∃ Γ' G',Stp G1 H1 G' H'/\GOk P w K G' H'/\EnvOk K G' H' σ' Γ'/\I (i+1) Γ' G',fun σ' H' z1_=>by obtain ⟨Γ',G',q1,q2,q3,q4⟩:=z1_;exact ⟨_,by lia,Γ',G',rfl,hlt,q1,q2,q3,q4⟩,fun x H' y=>?_⟩
   obtain ⟨sm,rx⟩:=jy x H' y
   have nn:Pn P w K G' H' (I (i+1)) fun σ' H'=>∃ Γ' G',Stp G1 H1 G' H'/\GOk P w K G' H'/\EnvOk K G' H' σ' Γ'/\I (i+1) Γ' G':=fun σ' H3 Γ3 G3 s3 g3 e3 q3=>⟨Γ3,G3,s2.trans ((Stp.same sm).trans s3),g3,e3,q3⟩
   refine hs i _ Γ' G' (aC hlt) p H' Z x (g2.same sm) (e2.mono g2 (.same sm)) rx _ fun σ3 H3 Γ3 G3 s3 g3 e3 q3=>q3 H3 σ3 g3 e3 _ ?_
   have s4:=s1.trans (s2.trans ((Stp.same sm).trans s3))
   exact ⟨(nn.mono s3).cn,z.rt.mono s4,z.nx.mono s4,(nn.mono s3).cn⟩
  .have e:i=xs.length:=by lia
   subst e
   exact .inl ⟨j2,z.nx Z H Γ' G' (s1.trans s2) g2 e2 (hd Γ' G' p)⟩
theorem p9 {LN:List Str} {fr:List Nat} (e:EnvOk K G H Z Γ):EnvOk K G H (fL LN fr Z) (List.replicate LN.length none++fr.map fun j=>(Γ[j]?).getD none):=by
 unfold fL
 refine ⟨by simp,fun i t q=>?_⟩
 by_cases h:i < LN.length
 .rw[cL (by simpa using h)] at q
  simp[kE,h] at q
 .rw[hW (by simpa using h),hX,aq] at q
  rw[hW (by simpa using h),hX,aq]
  cases hf:fr[i - LN.length]? with
  | none=>rw[hf] at q;cases q
  | some j =>
   rw[hf] at q
   simp only[qu,Option.some.injEq] at q ⊢
   cases hg:Γ[j]? with
   | none=>rw[hg] at q;cases q
   | some o =>
    rw[hg] at q
    simp only[Option.getD_some] at q
    subst q
    obtain ⟨v,e1,e2⟩:=e.at' j t hg
    exact ⟨v,by rw[e1];rfl,e2⟩
abbrev bkE (n:Nat) (fr:List Nat) (Γ:Ev):Ev:=List.replicate n none++fr.map fun j=>(Γ[j]?).getD none
theorem jf {LN:List Str} {fr:List Nat} {wi:TI} {tt:TT} (h:Wi P w K wi Γ G fun xs kp G1=>xs.length<=100000/\∃ I:Nat->List T->Ev->GH->Prop,I 0 [] (bkE LN.length fr Γ) G1/\(∀ i acc Γ' G',I i acc Γ' G'->kp G') /\
   (∀ (i:Nat) x acc Γ' G',xs[i]?=some x->I i acc Γ' G'->Wg P w K g x Γ' G' fun Γ2 G2=>Wt P w K tt Γ2 G2 fun b G3=>if b=true then We P w K te Γ2 G3 (fun d G4=>I (i+1) (acc++[d]) Γ2 G4) else I (i+1) acc Γ2 G3) /\
   ∀ acc Γ' G',I xs.length acc Γ' G'->k (.lst acc) G'):We P w K (ff LN fr wi g tt te) Γ G k:=fun H Z g ev Q z =>
 h H Z g ev _ fun J H1 xs kp G1 s1 g1 it z0_=>by
  obtain ⟨hz,I,i0,hk,hs,hd⟩:=z0_
  refine lB xs.length (iw (by lia)) (fun i ys Z H=>∃ acc Γ' G',Stp G1 H1 G' H/\GOk P w K G' H/\EnvOk K G' H Z Γ'/\RepTs K G' H acc ys/\I i acc Γ' G') ⟨[],_,G1,.refl,g1,p9 (ev.mono g s1),.nil,i0⟩ ?_ ?_ ?_ ?_
  .rintro i ys Z H hi ⟨acc,Γ',G',s2,g2,e2,r2,p⟩
   exact ((it G' H s2 g2 (hk _ _ _ _ p)).1 i xs[i] (aC hi)).1
  .rintro ys Z H ⟨acc,Γ',G',s2,g2,e2,r2,p⟩
   exact (it G' H s2 g2 (hk _ _ _ _ p)).2
  .rintro i x ys Z H H' hi hy hy2 ⟨acc,Γ',G',s2,g2,e2,r2,p⟩ y
   obtain ⟨sm,rx⟩:=((it G' H s2 g2 (hk _ _ _ _ p)).1 i xs[i] (aC hi)).2 x H' y
   refine hs i _ acc Γ' G' (aC hi) p H' Z x (g2.same sm) (e2.mono g2 (.same sm)) rx _ fun σ3 H3 Γ3 G3 s3 g3 e3 q3=>q3 H3 σ3 g3 e3 _ fun b H4 G4 s4 g4 q4=>?_
   have r4:=r2.mono g2 ((Stp.same sm).trans (s3.trans s4))
   have st4:=s2.trans ((Stp.same sm).trans (s3.trans s4))
   cases b with
   | true =>
    refine iteT ((fY q4) H4 σ3 g4 (e3.mono g3 s4) _ fun v H5 d G5 s5 g5 r5 q5=>⟨hy2,by rw[ax];simpa using hy,?_⟩)
    exact ⟨acc++[d],Γ3,G5,st4.trans s5,g5,e3.mono g3 (s4.trans s5),(r4.mono g4 s5).app (.cons r5 .nil),q5⟩
   | false=>exact iteF ⟨by lia,acc,Γ3,G4,st4,g4,e3.mono g3 s4,r4,gi q4⟩
  .rintro ys Z H hl ⟨acc,Γ',G',s2,g2,e2,r2,p⟩ q hq
   exact (z.mono (s1.trans s2)).lst g2 hq r2 (hd acc Γ' G' p)
end
section
variable {X:Cx}
def rAll (K:W.Frag):List V->Hp->VK->Prop:=fun xs H Q=>∃ (a:Addr) (bs:List Bool),xs=[.ref a]/\SqL K H a (bs.map V.bl)/\Q (.bl (bs.all id)) H
theorem all_range (bs:List Bool):(List.range bs.length).all (fun i=>bs.getD i false)=bs.all id:=by
 rw[kz,js,js]
 constructor
 .intro h b hb
  obtain ⟨j,hj,rfl⟩:=getElem_of_mem hb
  have:=h j (gx.mpr hj)
  simpa [hj] using this
 .intro h j hj
  have hj:=gx.mp hj
  have:=h bs[j] (getElem_mem hj)
  simpa [hj] using this
theorem Zlg (hc:X.calm=true):bF X (.builtin "all") (rAll X.K):=by
 intro pins s Z H xs us Q I r h
 obtain ⟨a,bs,rfl,ha,q⟩:=h
 obtain ⟨u,rfl,ru⟩:=vals1 r
 cases ru
 obtain ⟨its,vx,ht,j⟩:=I.list ha
 have hlen:=vx.length
 rw[af] at hlen
 have hlt:a < s.heap.objs.size:=by obtain ⟨j,e,j⟩:=ht.isList;exact aV e
 refine call_all_walk (wpAny_pyIter_list ht.isList ?_)
 refine ⟨_,_,_,_,_,_,fun i=>bs.getD i false,rfl,Walks.list (A:=X.A.in1) (I.ok.hd hc) _ a (bK hlt) its.toArray,⟨⟨_,ck _ rfl,rfl,rfl⟩,ht.isList.push _⟩,?_,fun h' tk hk=>?_⟩
 .intro i v s' Q' E' hv hq
  have hv':its[i]?=some v:=by simpa using hv
  have hi:=(ba.mp hv').1
  have hib:i < bs.length:=by lia
  obtain ⟨u',eu,ru⟩:=vx.get (i:=i) (x:=.bl bs[i]) (by rw[aq,aC hib];rfl)
  rw[hv'] at eu
  cases eu
  cases ru
  have e:bs.getD i false=bs[i]:=by simp[hib]
  have hq:Q' (bs.getD i false) s':=hq
  rw[e] at hq
  exact jm hq
 .have hsz:its.toArray.size=bs.length:=by simp;lia
  rw[hsz,all_range]
  refine ⟨.bl _,H,I.kept fun b o e=>?_,rfl,q⟩
  refine hk b o (fun hm=>?_) (bt _ e)
  have:b=s.heap.objs.size:=by simpa using hm
  rw[this] at e
  exact absurd (aV e) (fQ _)
theorem k_all {K:W.Frag} (h:X.K=K) (hc:X.calm=true):bF X (.builtin "all") (rAll K):=h▸Zlg hc
end
def cutT (ts:List T) (lo hi:Option Int):List T:=(ts.drop (HT.sIx ts.length 0 lo)).take (HT.sIx ts.length ts.length hi - HT.sIx ts.length 0 lo)
theorem Zni {α:Type} (n:Nat) (v:α):(List.replicate n [v]).flatten=List.replicate n v:=by
 induction n with
 | zero=>rfl
 | succ n ih=>rw[hZ,gE,ih,hZ];rfl
def SqI (G:GH) (x:T) (ts:List T):Prop:=x=.lst ts\/∃ a,x=.ptr a/\G a=some (.lst ts)
def SqG (G:GH) (x:T) (ts:List T):Prop:=x=.tup ts\/SqI G x ts
section
variable {P:Program} {w:World} {K:W.Frag} {G G1 G2 G':GH} {H H1 H2 H':Hp} {a:Addr} {Γ:Ev} {Z:St} {ta tb tc te to ti:TE} {k:T->GH->Prop} {kb:Bool->GH->Prop} {ka:List T->GH->Prop} {kn:Ev->GH->Prop} {Q:VK} {d x y z:T} {D:EndT} {t u:TS} {c c2:TT} {tr:TA} {r r':R2} {g:TG} {gs:TGs} {ds ts us xs:List T} {i j:Int} {v:V}
theorem RepTs.cut {vs:List V} {lo hi:Option Int} (r:RepTs K G H ts vs):RepTs K G H (cutT ts lo hi) (cutV vs lo hi):=by unfold cutT cutV;rw[r.length];exact (r.drop _).take _
theorem jQ (g:GOk P w K G H) (s:SqG G x ts) (r:RepT K G H x v):∃ a vs,v=.ref a/\RepTs K G H ts vs/\(H a=some (.lst vs)\/H a=some (.tup vs)):=by
 rcases s with rfl|rfl|⟨a,rfl,e⟩
 .cases r with|tup h q=>exact ⟨_,_,rfl,q,.inr h⟩
 .cases r with|lst _ h q=>exact ⟨_,_,rfl,q,.inl h⟩
 .cases r
  obtain ⟨vs,h,q⟩:=g a _ e
  exact ⟨_,vs,rfl,q,.inl h⟩
theorem cY (g:GOk P w K G H) (s:SqI G x ts) (r:RepT K G H x v):∃ a vs,v=.ref a/\RepTs K G H ts vs/\H a=some (.lst vs):=by
 rcases s with rfl|⟨a,rfl,e⟩
 .cases r with|lst _ h q=>exact ⟨_,_,rfl,q,h⟩
 .cases r
  obtain ⟨vs,h,q⟩:=g a _ e
  exact ⟨_,vs,rfl,q,h⟩
theorem si_l:SqI G (.lst ts) ts:=.inl rfl
theorem si_p (h:G a=some (.lst ts)):SqI G (.ptr a) ts:=.inr ⟨a,rfl,h⟩
theorem dC (h:SqI G x ts):SqG G x ts:=.inr h
theorem sg_t:SqG G (.tup ts) ts:=.inl rfl
theorem sg_l:SqG G (.lst ts) ts:=.inr (.inl rfl)
theorem sg_p (h:G a=some (.lst ts)):SqG G (.ptr a) ts:=.inr (.inr ⟨a,rfl,h⟩)
theorem l_II {f:Int->Int->Int} (h:k (.int (f i j)) G):L2r P w K (rI0 fun i j=>V.int (f i j)) (.int i) (.int j) G k:=fun H u v g r1 r2 Q z=>by cases r1;cases r2;exact ⟨i,j,rfl,rfl,z.here g .int h⟩
theorem l_IB {f:Int->Int->Bool} (h:k (.bl (f i j)) G):L2r P w K (rI0 fun i j=>V.bl (f i j)) (.int i) (.int j) G k:=fun H u v g r1 r2 Q z=>by cases r1;cases r2;exact ⟨i,j,rfl,rfl,z.here g .bl h⟩
theorem l_IC {C:Int->Int->Prop} {f:Int->Int->Int} (hc:C i j) (h:k (.int (f i j)) G):L2r P w K (rI C fun i j=>V.int (f i j)) (.int i) (.int j) G k:=fun H u v g r1 r2 Q z=>by cases r1;cases r2;exact ⟨i,j,rfl,rfl,hc,z.here g .int h⟩
theorem l_U {f:Int->Int} (h:k (.int (f i)) G):L1r P w K (rU fun i=>V.int (f i)) (.int i) G k:=fun H u g r1 Q z=>by cases r1;exact ⟨i,rfl,z.here g .int h⟩
theorem i7 (h:k (.bl (decide (i=j))) G):L2r P w K rEq (.int i) (.int j) G k:=fun H u v g r1 r2 Q z=>by cases r1;cases r2;exact tH (z.here g .bl h)
theorem iV (h:k (.bl (!decide (i=j))) G):L2r P w K rNe (.int i) (.int j) G k:=fun H u v g r1 r2 Q z=>by cases r1;cases r2;exact ue (z.here g .bl h)
theorem iW {i j:Str} (h:k (.bl (decide (i=j))) G):L2r P w K rEq (.str i) (.str j) G k:=fun H u v g r1 r2 Q z=>by cases r1;cases r2;exact tw (z.here g .bl h)
theorem gZ {i j:Bool} (h:k (.bl (decide (i=j))) G):L2r P w K rEq (.bl i) (.bl j) G k:=fun H u v g r1 r2 Q z=>by cases r1;cases r2;exact tW (z.here g .bl h)
def T.isN:T->Bool|.non=>true|_=>false
theorem RepT.isN (r:RepT K G H x v):decide (v=.non)=x.isN:=by cases r <;> rfl
theorem iQ (h:k (.bl x.isN) G):L2r P w K rIsN x .non G k:=fun H u v g r1 r2 Q z=>by cases r2;exact ⟨rfl,by rw[r1.isN];exact z.here g .bl h⟩
theorem i8 (h:k (.bl (!x.isN)) G):L2r P w K rNotN x .non G k:=fun H u v g r1 r2 Q z=>by cases r2;exact ⟨rfl,by rw[r1.isN];exact z.here g .bl h⟩
theorem l_ix (s:SqG G x ts) (e:atI ts i=some d) (h:k d G):L2r P w K (rIxA K) x (.int i) G k:=fun H u v g r1 r2 Q z=>by
 cases r2
 obtain ⟨a,vs,rfl,rs,ha⟩:=jQ g s r1
 have:∃ v,atI vs i=some v/\RepT K G H d v:=by
  unfold atI at e ⊢
  rw[rs.length] at e
  cases q:ixN vs.length i with
  | none=>rw[q] at e;cases e
  | some j=>rw[q] at e;exact rs.get e
 obtain ⟨v,e2,rv⟩:=this
 rcases ha with ha|ha
 .exact cF ha e2 (z.here g rv h)
 .exact Znm ha e2 (z.here g rv h)
theorem b9 (s:SqG G x ts) (h:k (.int ts.length) G):LNr P w K (rLen K) [x] G k:=fun H us g r Q z=>by
 cases r with
 | cons r1 r2 =>
  cases r2
  obtain ⟨a,vs,rfl,rs,ha⟩:=jQ g s r1
  rcases ha with ha|ha
  .exact tL (SqL.of ha) (by rw[<-rs.length];exact z.here g .int h)
  .exact ZlH (SqT.of ha) (by rw[<-rs.length];exact z.here g .int h)
theorem gR {lo hi:Option Int} (s:SqI G x ts) (h:k (.lst (cutT ts lo hi)) G):L1r P w K (fun v H Q=>rSlL K v lo hi H Q) x G k:=fun H u g r1 Q z=>by
 obtain ⟨a,vs,rfl,q,e⟩:=cY g s r1
 exact pL (SqL.of e) fun p hp=>z.lst g hp q.cut h
theorem gp {lo hi:Option Int} (h:k (.tup (cutT ts lo hi)) G):L1r P w K (fun v H Q=>rSlW K v lo hi H Q) (.tup ts) G k:=fun H u g r1 Q z=>by
 cases r1 with|tup e q=>exact rd_slW e fun p H' e' s=>z _ _ _ _ (.same s) (g.same s) (.tup e' (q.cut.mono g (.same s))) h
theorem gc (hz:ts.length+us.length<=1000000) (h:k (.tup (ts++us)) G):L2r P w K (kY K) (.tup ts) (.tup us) G k:=fun H u v g r1 r2 Q z=>by
 cases r1 with|tup e q=>cases r2 with|tup e2 q2=>exact Znq e e2 (by rw[<-q.length,<- q2.length];exact hz) fun p H' e' s=>z _ _ _ _ (.same s) (g.same s) (.tup e' ((q.app q2).mono g (.same s))) h
theorem fI (s:SqI G x ts) (s2:SqI G y us) (hz:ts.length+us.length<=1000000) (h:k (.lst (ts++us)) G):L2r P w K rCat x y G k:=fun H u v g r1 r2 Q z=>by
 obtain ⟨a,vs,rfl,q,e⟩:=cY g s r1
 obtain ⟨b,ws,rfl,q2,e2⟩:=cY g s2 r2
 exact ux e e2 (iw (by rw[<-q.length,<- q2.length];exact hz)) fun p hp=>z.lst g hp (q.app q2) h
theorem e8 (s:SqG G x ts) (n:∀ ts,x≠.tup ts) (h:k (.tup ts) G):LNr P w K (jN K) [x] G k:=fun H us g r Q z=>by
 cases r with
 | cons r1 r2 =>
  cases r2
  rcases s with rfl|rfl|⟨a,rfl,e⟩
  .exact absurd rfl (n _)
  .cases r1 with|lst _ e q=>exact uR (SqL.of e) fun p hp=>z.tup g hp q h
  .cases r1
   obtain ⟨vs,e',q⟩:=g a _ e
   exact uR (SqL.of e') fun p hp=>z.tup g hp q h
theorem tT (s:SqG G x ts) (h:k (.lst ts) G):LNr P w K (mQ K) [x] G k:=fun H us g r Q z=>by
 cases r with
 | cons r1 r2 =>
  cases r2
  obtain ⟨a,vs,rfl,rs,ha⟩:=jQ g s r1
  exact ⟨a,vs,rfl,ha.imp SqL.of SqT.of,fun p hp=>z.lst g hp rs h⟩
theorem Zl0 (s:SqG G x ts) (h:∀ a,G a=none->k (.ptr a) (gput G a (.lst ts))):LNr P w K (mQ K) [x] G k:=fun H us g r Q z=>by
 cases r with
 | cons r1 r2 =>
  cases r2
  obtain ⟨a,vs,rfl,rs,ha⟩:=jQ g s r1
  refine ⟨a,vs,rfl,ha.imp SqL.of SqT.of,fun p hp=>?_⟩
  obtain ⟨g2,s2⟩:=g.putL (.inr hp) rs
  exact z _ _ _ _ s2 g2 .ptr (h p (g.free hp))
theorem RepTs.repl:∀ (n:Nat),RepT K G H d v->RepTs K G H (List.replicate n d) (List.replicate n v)
 | 0,_=>.nil
 | n+1,r=>.cons r (RepTs.repl n r)
theorem pI (h1:-1000<=i) (h2:i<=1000) (h:k (.lst (List.replicate i.toNat d)) G):L2r P w K rRep (.lst [d]) (.int i) G k:=fun H u v g r1 r2 Q z=>by
 cases r2
 cases r1 with
 | lst _ e q =>
  cases q with
  | cons q1 q2 =>
   cases q2
   refine ⟨_,i,_,rfl,rfl,e,by lia,by lia,by rw[dq,Nat.one_mul];exact gU (by lia),fun p hp=>?_⟩
   have:True:=trivial
   rw[Zni]
   exact z.lst g hp (RepTs.repl _ q1) h
def TyG (T:String) (G:GH) (x:L2.T):Prop:=T="list"/\∃ ts,(x=.lst ts\/∃ a,x=.ptr a/\G a=some (.lst ts))
theorem tyg (T:String) (g:GOk P w K G H) (s:TyG T G x) (r:RepT K G H x v):tyV K T v H:=by
 obtain ⟨rfl,ts,s⟩:=s
 rcases s with rfl|⟨a,rfl,e⟩
 .cases r with|lst _ h q=>exact .inl ⟨rfl,_,SqL.of h⟩
 .cases r
  obtain ⟨vs,h,q⟩:=g a _ e
  exact .inl ⟨rfl,_,SqL.of h⟩
def LBr (P:Program) (w:World) (K:W.Frag) (r:V->List V->Hp->VK->Prop) (x:T) (ys:List T) (G:GH) (k:T->GH->Prop):Prop:=∀ H u vs,GOk P w K G H->RepT K G H x u->RepTs K G H ys vs->∀ Q,Pst P w K G H k Q->r u vs H Q
theorem gt {T:String} {rr:V->List V->Hp->VK->Prop} (h:We P w K to Γ G fun x G1=>TyG T G1 x/\Wa P w K tr Γ G1 fun ys G2=>LBr P w K rr x ys G2 k):We P w K (tBM K T rr to tr) Γ G k:=fun H Z g ev Q z=>h H Z g ev _ fun v H1 x G1 s1 g1 r1 q1=>⟨tyg T g1 q1.1 r1,q1.2 H1 Z g1 (ev.mono g s1) _ fun us H2 ys G2 s2 g2 r2 q2=>q2 H2 v us g2 (r1.mono g1 s2) r2 Q (z.mono (s1.trans s2))⟩
theorem g8 {T:String} {rr:V->List V->Hp->VK->Prop} (h:We P w K to Γ G fun x G1=>TyG T G1 x/\LBr P w K rr x [] G1 k):We P w K (tBM0 K T rr to) Γ G k:=fun H Z g ev Q z=>h H Z g ev _ fun v H1 x G1 s1 g1 r1 q1=>⟨tyg T g1 q1.1 r1,q1.2 H1 v [] g1 r1 .nil Q (z.mono s1)⟩
theorem ty_p (h:G a=some (.lst ts)):TyG "list" G (.ptr a):=⟨rfl,ts,.inr ⟨a,rfl,h⟩⟩
theorem eJ (e:G a=some (.lst ts)) (hl:ts.length < 1000000) (h:k .non (gput G a (.lst (ts++[y])))):LBr P w K pE (.ptr a) [y] G k:=fun H u vs g r1 r2 Q z=>by
 cases r1
 cases r2 with
 | cons q1 q2 =>
  cases q2
  obtain ⟨xs,h1,rs⟩:=g a _ e
  obtain ⟨g2,s2⟩:=g.putL (.inl ⟨_,e⟩) (rs.app (.cons q1 .nil))
  refine Zkb h1 ?_ (z _ _ _ _ s2 g2 .non h)
  rw[<-rs.length]
  rw[PySem.sizeLine_eq]
  lia
theorem i5 (h:We P w K to Γ G fun o G1=>We P w K ti Γ G1 fun x G2=>∃ a ts i j,o=.ptr a/\x=.int i/\G2 a=some (.lst ts)/\ixN ts.length i=some j/\kn Γ (gput G2 a (.lst (ts.set j d)))):Wg P w K (gSub to ti iZ) d Γ G kn:=fun H Z v g ev rv R z =>
 h H Z g ev _ fun o H1 x G1 s1 g1 r1 q1=>q1 H1 Z g1 (ev.mono g s1) _ fun iv H2 y G2 s2 g2 r2 z0_=>by
  obtain ⟨a,ts,i,j,e1,e2,ea,ej,q⟩:=z0_
  subst e1 e2
  cases r1;cases r2
  obtain ⟨xs,h1,rs⟩:=g2 a _ ea
  have s12:=s1.trans s2
  obtain ⟨g3,s3⟩:=g2.putL (.inl ⟨_,ea⟩) (rs.set j (rv.mono g s12))
  exact ⟨a,xs,i,j,rfl,rfl,h1,by rw[<-rs.length];exact ej,z _ _ _ _ (s12.trans s3) g3 (ev.mono g (s12.trans s3)) q⟩
theorem ra : ∀ {ss : List Str} {vs : List V}, RepTs K G H (ss.map T.str) vs -> vs = ss.map V.str
  | [], _, r => by cases r; rfl
  | s :: ss, _, r => by
    cases r with
    | cons r1 r2 => cases r1; rw[ra r2]; rfl
theorem sr (s:Str) (ss:List Str):inV (.str s) (ss.map V.str)=ss.contains s:=by
 induction ss with
 | nil=>rfl
 | cons x xs ih =>
  unfold inV at ih ⊢
  rw[aS,fT,ih,contains_cons]
  show (x == s || _)=_
  rw[Bool.beq_comm]
theorem tP (ss:List Str):(ss.map V.str).all eU=true:=by induction ss <;> simp_all [eU]
theorem iP {s:Str} {ss:List Str} (h:k (.bl (ss.contains s)) G):L2r P w K (rIn K false) (.str s) (.cst ss) G k:=fun H u v g r1 r2 Q z=>by
 cases r1;cases r2 with|cst e=>exact ⟨_,_,rfl,.inr (e H),rfl,tP _,by rw[sr];exact z.here g .bl h⟩
theorem a7 {neg:Bool} {s:Str} {ss:List Str} (hs:SqG G y (ss.map T.str)) (h:k (.bl (if neg then !ss.contains s else ss.contains s)) G):L2r P w K (rIn K neg) (.str s) y G k:=fun H u v g r1 r2 Q z=>by
 cases r1
 obtain ⟨a,vs,rfl,rs,ha⟩:=jQ g hs r2
 rw[ra rs] at ha
 exact ⟨a,_,rfl,ha.imp SqL.of SqT.of,rfl,tP _,by rw[sr];exact z.here g .bl h⟩
theorem hU {ss:List Str} (h:k (.cst ss) G):We P w K (tCT K (ss.map V.str)) Γ G k:=fun H Z g ev Q z a e=>z.here g (.cst e) h
theorem jc {kx:List T->(GH->Prop)->GH->Prop} (h:We P w K te Γ G fun x G1=>∃ ts,SqI G1 x ts/\kx ts (fun G'=>SqI G' x ts) G1):Wi P w K (mw K te) Γ G kx:=fun H Z g ev Q z=>h H Z g ev _ fun v H1 x G1 s1 g1 r1 ⟨ts,e,q⟩=>by
 obtain ⟨a,vs,rfl,rs,h1⟩:=cY g1 e r1
 refine ⟨a,rfl,⟨vs,SqL.of h1⟩,z _ _ ts _ _ s1 g1 (fun G' H' s' g' kp=>?_) q⟩
 obtain ⟨a',vs',ea,r',l'⟩:=cY g' kp (r1.mono g1 s')
 cases ea
 refine ⟨fun i x e=>?_,⟨vs',SqL.of l',gD r'.length.symm⟩⟩
 obtain ⟨u,eu,ru⟩:=r'.get e
 exact ⟨⟨vs',u,SqL.of l',eu⟩,fun v H2 ⟨e2,y⟩=>by subst e2;have:=y vs' (SqL.of l');rw[eu] at this;cases this;exact ⟨.refl _,ru⟩⟩
theorem iA {kx:List T->(GH->Prop)->GH->Prop} (h:We P w K te Γ G fun x G1=>∃ ts,x=.tup ts/\kx ts (fun j=>True) G1):Wi P w K (iTup K te) Γ G kx:=fun H Z g ev Q z=>h H Z g ev _ fun v H1 x G1 s1 g1 r1 ⟨ts,e,q⟩=>by
 subst e
 cases r1 with
 | @tup a vs _ h1 rs =>
  refine ⟨a,rfl,⟨vs,SqT.of h1⟩,z _ _ ts _ _ s1 g1 (fun G' H' s' g' j=>?_) q⟩
  have l':=(s' a _ (g1.tup h1) h1).1
  have r':=rs.mono g1 s'
  refine ⟨fun i x e=>?_,⟨vs,SqT.of l',gD rs.length.symm⟩⟩
  obtain ⟨u,eu,ru⟩:=r'.get e
  exact ⟨⟨vs,u,SqT.of l',eu⟩,fun v H2 ⟨e2,y⟩=>by subst e2;have:=y vs (SqT.of l');rw[eu] at this;cases this;exact ⟨.refl _,ru⟩⟩
def rngT (n:Nat):List T:=(List.range n).map fun (i:Nat)=>T.int (i:Int)
theorem iY {kx:List T->(GH->Prop)->GH->Prop} (h:Wa P w K tr Γ G fun xs G1=>∃ j:Int,xs=[.int j]/\j<=1000000/\-1000000<=j/\kx (rngT j.toNat) (fun u=>True) G1):Wi P w K (pB tr) Γ G kx:=fun H Z g ev Q z=>h H Z g ev _ fun vs H1 xs G1 s1 g1 r1 ⟨j,e,h1,h2,q⟩=>by
 subst e
 cases r1 with
 | cons r1 r2 =>
  cases r1;cases r2
  refine ⟨j,rfl,by lia,by lia,z _ _ _ _ _ s1 g1 (fun G' H' s' g' u=>⟨fun i x e=>?_,?_⟩) q⟩
  .unfold rngT at e
   rw[aq] at e
   obtain ⟨m,em,rfl⟩:=bc.mp e
   obtain ⟨hi,ei⟩:=ba.mp em
   rw[getElem_range] at ei
   rw[kR] at hi
   subst ei
   exact ⟨hi,fun v H2 ⟨e2,y⟩=>by subst e2 y;rw[nL];exact ⟨.refl _,.int⟩⟩
  .show j.toNat<=(rngT j.toNat).length
   unfold rngT
   rw[af,kR]
   exact aA _
theorem tj (I:Nat->Ev->GH->Prop) (m:Nat) (h0:I m Γ G) (h:∀ m Γ' G',I m Γ' G'->Wt P w K c Γ' G' fun b G1=>if b=true then Ws P w K t Γ' G1 { D with nx:=Cn fun Γ2 G2=>∃ m',m' < m/\I m' Γ2 G2,ct:=Cn fun Γ2 G2=>∃ m',m' < m/\I m' Γ2 G2,bk:=D.nx } else D.nx Γ' G1):Ws P w K (uH c t) Γ G D:=fun H Z g ev D' z=>by
 refine ⟨fun m σ' H'=>∃ Γ' G',Stp G H G' H'/\GOk P w K G' H'/\EnvOk K G' H' σ' Γ'/\I m Γ' G',⟨m,Γ,G,.refl,g,ev,h0⟩,?_⟩
 rintro m σ' H' ⟨Γ',G',s1,g1,e1,p⟩
 refine h m Γ' G' p H' σ' g1 e1 _ fun b H2 G2 s2 g2 q2=>?_
 have s12:=s1.trans s2
 cases b with
 | true =>
  refine iteT ⟨fun σ' H'=>∃ Γ' G',Stp G H G' H'/\GOk P w K G' H'/\EnvOk K G' H' σ' Γ'/\∃ m',m' < m/\I m' Γ' G',fun σ3 H3 z0_=>by obtain ⟨Γ3,G3,q1,q2,q3,m',hm,q4⟩:=z0_;exact ⟨m',hm,Γ3,G3,q1,q2,q3,q4⟩,(fY q2) H2 σ' g2 (e1.mono g1 s2) _ ?_⟩
  have nn:Pn P w K G2 H2 (fun Γ2 G2=>∃ m',m' < m/\I m' Γ2 G2) fun σ' H'=>∃ Γ' G',Stp G H G' H'/\GOk P w K G' H'/\EnvOk K G' H' σ' Γ'/\∃ m',m' < m/\I m' Γ' G':=fun σ3 H3 Γ3 G3 s3 g3 e3 q3=>⟨Γ3,G3,s12.trans s3,g3,e3,q3⟩
  exact ⟨nn.cn,z.rt.mono s12,z.nx.mono s12,nn.cn⟩
 | false=>exact iteF (z.nx σ' H2 Γ' G2 s12 g2 (e1.mono g1 s2) (gi q2))
end
abbrev Pre:=List T->GH->(T->GH->Prop)->Prop
def spG (P:Program) (w:World) (K:W.Frag) (pre:Pre):Sp:=fun vs H Q j=>∃ ts G k,GOk P w K G H/\RepTs K G H ts vs/\pre ts G k/\Pst P w K G H k Q
def startT (N:List Str) (ts:List T):Ev:=ts.map some++List.replicate (N.length - ts.length) none
def oM (P:Program) (w:World) (K:W.Frag) (mg:Str->Option Value) (base:Heap) (N:List Str) (x:Str) (st:Stmt) (f:Addr) (cdv:Value) (A:Around) (outer:List Env) (s:Shared) (H:Hp) (E:XK) (ts:List T) (G:GH) (k:T->GH->Prop):Prop :=
 ∃ t,PSs (cxOf CX0 P w K mg base N x (aD st) f cdv A outer s H E).nox (cH st) t/\Ws P w K t (startT N ts) G { nx:=fun j G'=>k .non G',rt:=k }
section
variable {P:Program} {w:World} {K:W.Frag} {mg:Str->Option Value} {base:Heap} {x m qual:Str} {st:Stmt} {ps N:List Str} {pre:Pre} {kk:Nat} {C:Addr}
theorem ZjY {G:GH} {H:Hp} {ts:List T} {vs:List V} (r:RepTs K G H ts vs):EnvOk K G H (start N vs) (startT N ts):=by
 unfold start startT
 have hl:=r.length
 refine ⟨by simp[hl],fun i t e=>?_⟩
 by_cases h:i < ts.length
 .rw[cL (by simpa using h),aq] at e
  obtain ⟨t',e1,e2⟩:=bc.mp e
  cases e2
  obtain ⟨v,ev,rv⟩:=r.get e1
  exact ⟨v,by rw[cL (by simpa [<-hl] using h),aq,ev];rfl,rv⟩
 .rw[hW (by simpa using h)] at e
  simp[kE] at e
theorem ZkV {f:Addr} {cdv:Value} {A:Around} {outer:List Env} {s:Shared} {H:Hp} {E:XK} {ts:List T} {G:GH} {k:T->GH->Prop} {vs:List V} {Q:VK} (h:oM P w K mg base N x st f cdv A outer s H E ts G k) (g:GOk P w K G H) (r:RepTs K G H ts vs) (z:Pst P w K G H k Q) :
  ∃ t,PSs (cxOf CX0 P w K mg base N x (aD st) f cdv A outer s H E).nox (cH st) t/\t { nx:=fun j H'=>Q .non H',rt:=Q } (start N vs) H:=by
 obtain ⟨t,h1,h2⟩:=h
 exact ⟨t,h1,h2 H _ g (ZjY r) _ ⟨fun σ' H' Γ' G' s' g' e' q=>z _ _ _ _ s' g' .non q,z,fun j j j j j j j q=>q.elim,fun j j j j j j j q=>q.elim⟩⟩
abbrev HdG (P:Program) (w:World) (K:W.Frag) (mg:Str->Option Value) (base:Heap) (N:List Str) (x:Str) (st:Stmt) (kk:Nat) (pre:Pre):Prop:=∀ (f:Addr) (cdv:Value) (A:Around) (outer:List Env) (s:Shared) (H:Hp) (E:XK) (ts:List T) (G:GH) (k:T->GH->Prop),Room kk (A.deeper (envOfC x (aD st) s.heap.objs.size f cdv))->pre ts G k->oM P w K mg base N x st f cdv A outer s H E ts G k
theorem TopFn.okG (T:TopFn K mg x st ps) (S:FnScope N ps (aD st)) (hl:∀ ts G k,pre ts G k->ts.length=ps.length) (h:HdG P w K mg base N x st kk pre):Callee P w K mg base x (kk+1) ps (spG P w K pre) :=
 T.callee fun f fd F=>F.ok S (fun vs H Q E z0_=>by obtain ⟨ts,G,k,g,r,p,z⟩:=z0_;rw[<-r.length];exact hl _ _ _ p) fun cdv A outer s H vs Q E hr z1_=>by obtain ⟨ts,G,k,g,r,p,z⟩:=z1_;exact ZkV (h f cdv A outer s H E ts G k hr p) g r z
theorem go_G {f:Addr} {cdv:Value} {A:Around} {outer:List Env} {s:Shared} {H:Hp} {E:XK} {ts:List T} {G:GH} {k:T->GH->Prop} {t:TS} (Γ:Ev) (hΓ:startT N ts=Γ) (h:PSs (cxOf CX0 P w K mg base N x (aD st) f cdv A outer s H E).nox (cH st) t) (q:Ws P w K t Γ G { nx:=fun j G'=>k .non G',rt:=k }):oM P w K mg base N x st f cdv A outer s H E ts G k:=⟨t,h,by rw[hΓ];exact q⟩
end
section
variable {P:Program} {w:World} {K:W.Frag} {G G1 G2 G':GH} {H H1 H2 H':Hp} {a b l C dx:Addr} {Γ:Ev} {Z:St} {ta tb tc te to ti tv:TE} {k:T->GH->Prop} {kb:Bool->GH->Prop} {ka:List T->GH->Prop} {kn:Ev->GH->Prop} {Q:VK} {d x y z:T} {D:EndT} {t u:TS} {c c2:TT} {tr:TA} {ds ts us xs:List T} {i j:Int} {v:V} {pre:Pre} {E:XK} {f m:Str} {fs:List (Str×T)}
theorem iM (h:pre xs G k):LNr P w K (fun vs H Q=>spG P w K pre vs H Q E) xs G k:=fun H us g r Q z=>⟨xs,G,k,g,r,h,z⟩
theorem sR (g:GOk P w K G H) (e:G b=some (.bag l)) (B:BagAt H' b l) (s:BSame b H H'):GOk P w K G H'/\Stp G H G H':=by
 have st:Stp G H G H':=fun a o n h=>⟨s a o (fun z=>by rw[z,e] at n;cases n) h,n⟩
 refine ⟨fun a c q=>?_,st⟩
 by_cases h:a=b
 .subst h;rw[e] at q;cases q;exact ⟨B,(g a _ e).2⟩
 .refine (g a c q).kp (st.kp g) (fun o=>s a o h) (fun l' z=>⟨fun o ho=>s l' o (fun zz=>?_) ho,id⟩) fun j j j j=>id
  subst z zz
  have:=(g a _ q).2
  rw[e] at this;cases this
theorem bf (e:G b=some (.bag l)) (h:0 < i/\i<=10 ^ 65) (q:∀ r,0<=r->r < i->k (.int r) G):LNr P w K (fun vs H Q=>dH vs H Q E) [.ptr b,.int i] G k:=fun H us g r Q z=>by
 cases r with|cons r1 r2=>cases r2 with|cons r2 r3 =>
 cases r1;cases r2;cases r3
 refine use2 ⟨b,l,i,rfl,rfl,h,(g b _ e).1,fun r H' h1 h2 B s=>?_⟩
 obtain ⟨g2,s2⟩:=sR g e B s
 exact z _ _ _ _ s2 g2 .int (q r h1 h2)
theorem lQ (e:G b=some (.bag l)) (q:∀ r,r.natAbs<=10 ^ 60->k (.int r) G):LNr P w K (fun vs H Q=>j0 vs H Q E) [.ptr b] G k:=fun H us g r Q z=>by
 cases r with|cons r1 r2 =>
 cases r1;cases r2
 refine use1 ⟨b,l,rfl,(g b _ e).1,fun r H' h1 B s=>?_⟩
 obtain ⟨g2,s2⟩:=sR g e B s
 exact z _ _ _ _ s2 g2 .int (q r h1)
end
abbrev K2:=List (List Key)
abbrev Fm:=Int×List (Int×Int)
abbrev SF:=Int×Int×List Fm
def Rw.goes:Rw->Int->Bool
 | .zero _ _,n=>decide (n=0)
 | _,n=>decide (n < 0)
section
variable {P:Program} {w:World} {K:W.Frag} {G G1 G2 G':GH} {H H1 H2 H':Hp} {a b:Addr} {Γ:Ev} {ta te td ty tx tv:TE} {k:T->GH->Prop} {d x y z:T} {v:V} {t:List (Int×Int)} {D:EndT} {i j:Int}
theorem GOk.putB (g:GOk P w K G H) (h:(∃ t,G a=some (.tb t))\/H a=none) (n:(t.map (·.1)).Nodup):GOk P w K (gput G a (.tb t)) (upd H a (.dK (kvT t)))/\Stp G H (gput G a (.tb t)) (upd H a (.dK (kvT t))):=by
 have ga:∀ c,G a=some c->∃ t,c=.tb t:=fun c e=>by
  rcases h with ⟨us,h⟩|h
  .rw[h] at e;cases e;exact ⟨us,rfl⟩
  .rw[g.free h] at e;cases e
 refine g.put (h.imp (fun ⟨us,e⟩=>⟨_,e⟩) id) ⟨bC,n⟩ (fun b l hb e z=>?_) (fun b C dx fs hb e z=>?_)
 .subst z
  obtain ⟨o,q⟩:=(g b _ e).1.lo
  rcases h with ⟨us,h⟩|h
  .have:=(g b _ e).2;rw[h] at this;cases this
  .rw[h] at q;cases q
 .subst z
  obtain ⟨j,j,q,j⟩:=g b _ e
  obtain ⟨t,z⟩:=ga _ q
  cases z
theorem mh (h:∀ p,G p=none->k (.ptr p) (gput G p (.tb []))):We P w K pM Γ G k:=fun H Z g ev Q z p hp=>by
 obtain ⟨g2,s2⟩:=g.putB (t:=[]) (.inr hp) cV
 exact z _ _ _ _ s2 g2 .ptr (h p (g.free hp))
theorem iC (h:We P w K td Γ G fun x G1=>∃ a t0,x=.ptr a/\G1 a=some (.tb t0)/\We P w K ty Γ G1 fun y G2=>We P w K tx Γ G2 fun z G3=>∃ t i,G3 a=some (.tb t)/\y=.int i/\z=.int 0/\k (.int (aP t i)) G3):We P w K (uk td ty tx) Γ G k:=fun H Z g ev Q z=>h H Z g ev _ fun v H1 x G1 s1 g1 r1 z0_=>by
 obtain ⟨a,t0,e,ea,q1⟩:=z0_
 subst e;cases r1
 have h1:=(g1 a _ ea).1
 refine ⟨a,rfl,.inl ⟨_,.inl h1⟩,q1 H1 Z g1 (ev.mono g s1) _ fun v2 H2 y G2 s2 g2 r2 q2=>q2 H2 Z g2 (ev.mono g (s1.trans s2)) _ fun v3 H3 zz G3 s3 g3 r3 z1_=>?_⟩
 obtain ⟨t,i,e3,ey,ez,q3⟩:=z1_
 subst ey ez
 cases r2;cases r3
 refine ⟨_,DGet.k (k:=Sum.inl i) (g3 a _ e3).1,?_⟩
 rw[ZjR]
 exact (z.mono (s1.trans (s2.trans s3))).here g3 .int q3
theorem ow (h:We P w K td Γ G fun x G1=>We P w K ty Γ G1 fun y G2=>∃ a t i,x=.ptr a/\G2 a=some (.tb t)/\y=.int i/\i∈t.map (·.1)/\k (.int (aP t i)) G2):We P w K (o0 td ty) Γ G k:=fun H Z g ev Q z=>h H Z g ev _ fun v H1 x G1 s1 g1 r1 q1=>q1 H1 Z g1 (ev.mono g s1) _ fun v2 H2 y G2 s2 g2 r2 z0_=>by
 obtain ⟨a,t,i,ex,e3,ey,hi,q3⟩:=z0_
 subst ex ey
 cases r1;cases r2
 have:=DGet.k (k:=(Sum.inl i:Key)) (g2 a _ e3).1
 rw[sE hi] at this
 exact ⟨a,_,rfl,this,(z.mono (s1.trans s2)).here g2 .int q3⟩
theorem qd (h:We P w K tv Γ G fun v G1=>We P w K td Γ G1 fun x G2=>We P w K ty Γ G2 fun y G3=>∃ a t i n,v=.int (aP t i+n)/\x=.ptr a/\G3 a=some (.tb t)/\y=.int i/\t.length < 100000/\D.nx Γ (gput G3 a (.tb (addT t i n)))):Ws P w K (mS td ty tv) Γ G D:=fun H Z g ev D' z=>h H Z g ev _ fun v1 H1 vv G1 s1 g1 r1 q1=>q1 H1 Z g1 (ev.mono g s1) _ fun v2 H2 x G2 s2 g2 r2 q2=>q2 H2 Z g2 (ev.mono g (s1.trans s2)) _ fun v3 H3 y G3 s3 g3 r3 z0_=>by
 obtain ⟨a,t,i,n,ev1,ex,e3,ey,hl,q3⟩:=z0_
 subst ev1 ex ey
 cases r1;cases r2;cases r3
 obtain ⟨h3,nd⟩:=g3 a _ e3
 obtain ⟨g4,s4⟩:=g3.putB (.inl ⟨_,e3⟩) (rO (w:=i) (x:=n) nd)
 have st:=s1.trans (s2.trans (s3.trans s4))
 refine ⟨a,_,rfl,DPut.k (k:=Sum.inl i) h3 (by unfold kvT;rw[af,PySem.sizeLine_eq];lia),?_⟩
 rw[ZlO nd]
 exact z.nx _ _ _ _ st g4 (ev.mono g st) q3
def sortI (l:List Int):List Int:=l.mergeSort fun a b=>decide (a<=b)
theorem gW (l:List Int):(sortI l).Perm l:=mergeSort_perm _ _
theorem rS (l:List Int):(sortI l).Pairwise (·<=·):=by
 have:=pairwise_mergeSort (le:=fun a b:Int=>decide (a<=b)) (fun a b c h1 h2=>by simp only[qx] at *;lia) (fun a b=>by simp only[Bool.or_eq_true,qx];lia) l
 exact this.imp fun h=>by simpa using h
theorem repI:∀ {ns:List Int},RepTs K G H (ns.map T.int) (ns.map V.int)
 | []=>.nil
 | n::ns=>.cons .int repI
theorem tR (e:G a=some (.tb t)) (hl:t.length < 64) (h:k (.lst ((sortI (t.map (·.1))).map T.int)) G):LNr P w K tu [.ptr a] G k:=fun H us g r Q z=>by
 cases r with
 | cons r1 r2 =>
  cases r1;cases r2
  refine ⟨a,kvT t,t.map (·.1),rfl,(g a _ e).1,Zl1 t,by rw[af];exact hl,fun ms p h1 h2 hp=>?_⟩
  rw[rj h2 (rS _) (h1.trans (gW _).symm)]
  exact z.lst g hp repI h
end
theorem gT {b:Bool} {R:Bool->Prop} (h:R b):∃ k,T.bl b=T.bl k/\R k:=⟨b,rfl,h⟩
theorem ji {b:Int} {R:Int->Prop} (h:R b):∃ k,T.int b=T.int k/\R k:=⟨b,rfl,h⟩
theorem iT {n:Nat} {p:Prop} (h:Nat.ble n 1000=true) (q:p):n<=1000/\p:=⟨ic h,q⟩
abbrev prT (p:Int×Int):T:=.tup [.int p.1,.int p.2]
abbrev fmT (f:Fm):T:=.tup [.int f.1,.tup (f.2.map prT)]
def ofW (w:Int):Fm:=(0,[(1,w)])
def wnF (c:Int) (t:List (Int×Int)):Fm:=(c,ci t (sortI (t.map (·.1))))
def bO (f g:Fm) (n:Int):Fm:=wnF (f.1+n * g.1) (aZ (aZ [] f.2 1) g.2 n)
def fG (f:Fm) (n:Int):Fm:=wnF (f.1 * n) (aZ [] f.2 n)
def gn (f:Fm) (fl:List Fm):Fm:=wnF (putC f.1 f.2 fl) (dy f.2 fl)
structure Fo (n:Nat) (B:Nat) (f:Fm):Prop where
 c:f.1.natAbs<=B
 a:∀ p∈f.2,p.1.natAbs<=B
 w:∀ p∈f.2,0<=p.2/\p.2 < n
 nd:(f.2.map (·.2)).Nodup
theorem Fo.le {n m B C:Nat} {f:Fm} (h:Fo n B f) (h1:n<=m) (h2:B<=C):Fo m C f:=⟨aR h.c h2,fun p q=>aR (h.a p q) h2,fun p q=>⟨(h.w p q).1,by have:=(h.w p q).2;lia⟩,h.nd⟩
theorem mV {n:Nat}:∀ (l:List Int),l.Nodup->(∀ x∈l,0<=x/\x < n)->l.length<=n:=by
 intro l hn h
 have h1:(l.map Int.toNat).Nodup:=by
  refine List.Pairwise.map _ (fun a b (hab:a≠b/\0<=a/\0<=b)=>by lia) ?_
  exact u8 (fun {a b} ha hb hab=>⟨hab,(h a ha).1,(h b hb).1⟩) hn
 have h2:(l.map Int.toNat) ⊆ List.range n:=fun x hx=>by
  obtain ⟨y,hy,rfl⟩:=bg.mp hx
  have:=h y hy
  exact gx.mpr (by lia)
 have:=List.Nodup.length_le_of_subset h1 h2
 simpa using this
theorem Fo.len {n B:Nat} {f:Fm} (h:Fo n B f):f.2.length<=n:=by
 have:=mV (n:=n) (f.2.map (·.2)) h.nd fun x hx=>by obtain ⟨p,hp,rfl⟩:=bg.mp hx;exact h.w p hp
 simpa using this
theorem kU : ∀ {ps : List (Int × Int)} {B : Nat} (w : Int), (ps.map (·.2)).Nodup -> (∀ p ∈ ps, p.1.natAbs <= B) -> (atW ps w).natAbs <= B
  | [], B, w, _, _ => by unfold atW; simp
  | p :: ps, B, w, hn, h => by
    rw[aS,cQ] at hn
    rw[gj]
    by_cases e:p.2=w
    . rw[ah e, iF fun q hq hw => hn.1 (bg.mpr ⟨q, hq, hw.trans e.symm⟩)]
      have:=h p bi
      simpa using this
    . rw[ai e, nL]
      exact kU w hn.2 fun q hq => h q (bH _ hq)
theorem ng : ∀ (ps t : List (Int × Int)) (n x : Int), x ∈ (aZ t ps n).map (·.1) -> x ∈ t.map (·.1) \/ x ∈ ps.map (·.2)
  | [], t, n, x, h => .inl h
  | p :: ps, t, n, x, h => by
    rcases ng ps (addT t p.2 (p.1 * n)) n x h with h|h
    . rw[ph] at h
      split at h
      . exact .inl h
      . rcases aI.mp h with h | h
        . exact .inl h
        . rw[aU] at h; exact .inr (by rw[h]; exact bi)
    . exact .inr (bH _ h)
theorem ug {n B:Nat} {c:Int} {t:List (Int×Int)} (hn:(t.map (·.1)).Nodup) (hw:∀ x∈t.map Prod.fst,0<=x/\x < n) (hc:c.natAbs<=B) (hb:∀ w,(aP t w).natAbs<=B):Fo n B (wnF c t):=by
 have hp:=gW (t.map (·.1))
 have e:(wnF c t).2.map (·.2)=(sortI (t.map (·.1))).filter fun w=>decide (aP t w≠0):=by unfold wnF ci;rw[map_map];exact map_id _
 refine ⟨hc,fun p h=>?_,fun p h=>?_,?_⟩
 .obtain ⟨w,j,rfl⟩:=bg.mp h;exact hb w
 .have h2:p.2∈(wnF c t).2.map (·.2):=bg.mpr ⟨p,h,rfl⟩
  rw[e] at h2
  exact hw _ (hp.mem_iff.mp (mem_filter.mp h2).1)
 .rw[e];exact (hp.nodup_iff.mpr hn).filter _
theorem pP {n B C:Nat} {f g:Fm} {m:Int} (hf:Fo n B f) (hg:Fo n C g):((aZ (aZ [] f.2 1) g.2 m).map (·.1)).Nodup/\(∀ x∈(aZ (aZ [] f.2 1) g.2 m).map Prod.fst,0<=x/\x < n)/\∀ w,(aP (aZ (aZ [] f.2 1) g.2 m) w).natAbs<=B+m.natAbs * C:=by
 refine ⟨cZ _ _ (cZ _ _ cV),fun x hx=>?_,fun w=>?_⟩
 .rcases ng _ _ _ _ hx with hx|hx
  .rcases ng _ _ _ _ hx with hx|hx
   .cases hx
   .obtain ⟨p,hp,rfl⟩:=bg.mp hx;exact hf.w p hp
  .obtain ⟨p,hp,rfl⟩:=bg.mp hx;exact hg.w p hp
 .rw[fX,fX]
  show ((0:Int)+_ * 1+_).natAbs<=_
  have h1:=kU w hf.nd hf.a
  have h2:=kU w hg.nd hg.a
  have h3:=nO m.natAbs h2
  rw[<-jz,ie] at h3
  rw[nL,nr]
  exact aR (Int.natAbs_add_le _ _) (Nat.add_le_add h1 h3)
theorem jK {n B C:Nat} {f g:Fm} {m:Int} (hf:Fo n B f) (hg:Fo n C g):Fo n (B+m.natAbs * C) (bO f g m):=by
 obtain ⟨h1,h2,h3⟩:=pP (m:=m) hf hg
 refine ug h1 h2 ?_ h3
 have h4:=nO m.natAbs hg.c
 rw[<-jz] at h4
 exact aR (Int.natAbs_add_le _ _) (Nat.add_le_add hf.c h4)
theorem tm {n B:Nat} {f:Fm} {m:Int} (hf:Fo n B f):((aZ [] f.2 m).map (·.1)).Nodup/\(∀ x∈(aZ [] f.2 m).map Prod.fst,0<=x/\x < n)/\∀ w,(aP (aZ [] f.2 m) w).natAbs<=m.natAbs * B:=by
 refine ⟨cZ _ _ cV,fun x hx=>?_,fun w=>?_⟩
 .rcases ng _ _ _ _ hx with hx|hx
  .cases hx
  .obtain ⟨p,hp,rfl⟩:=bg.mp hx;exact hf.w p hp
 .rw[fX]
  show ((0:Int)+_).natAbs<=_
  have h3:=nO m.natAbs (kU w hf.nd hf.a)
  rw[<-jz,ie] at h3
  lia
theorem ZjV {n B:Nat} {f:Fm} {m:Int} (hf:Fo n B f):Fo n (m.natAbs * B) (fG f m):=by
 obtain ⟨h1,h2,h3⟩:=tm (m:=m) hf
 refine ug h1 h2 ?_ h3
 have h4:=nO m.natAbs hf.c
 rw[<-jz,ie] at h4
 exact h4
section
variable {P:Program} {w:World} {K:W.Frag} {G G1 G2 G':GH} {H H1 H2 H':Hp} {a b:Addr} {Γ:Ev} {ta te td ty tx tv:TE} {tr:TA} {k:T->GH->Prop} {d x y z:T} {v:V} {i j n:Int} {ts us:List T}
theorem sK : ∀ {bs : List Bool} {vs : List V}, RepTs K G H (bs.map T.bl) vs -> vs = bs.map V.bl
  | [], _, r => by cases r; rfl
  | s :: ss, _, r => by
    cases r with
    | cons r1 r2 => cases r1; rw[sK r2]; rfl
theorem oX : ∀ {bs : List Int} {vs : List V}, RepTs K G H (bs.map T.int) vs -> vs = bs.map V.int
  | [], _, r => by cases r; rfl
  | s :: ss, _, r => by
    cases r with
    | cons r1 r2 => cases r1; rw[oX r2]; rfl
theorem ja {bs:List Bool} (h:k (.bl (bs.all id)) G):LNr P w K (rAll K) [.lst (bs.map T.bl)] G k:=fun H us g r Q z=>by
 cases r with|cons r1 r2=>cases r2;cases r1 with|lst _ e q=>exact ⟨_,bs,rfl,by rw[<-sK q];exact SqL.of e,z.here g .bl h⟩
theorem iu {bs:List Int} (h:k (.int bs.sum) G):LNr P w K (rSum K) [.lst (bs.map T.int)] G k:=fun H us g r Q z=>by
 cases r with|cons r1 r2=>cases r2;cases r1 with|lst _ e q=>exact ⟨_,bs,rfl,by rw[<-oX q];exact SqL.of e,z.here g .int h⟩
mutual
def emb:D->T
 | .non=>.non
 | .bl b=>.bl b
 | .int i=>.int i
 | .str x=>.str x
 | .tup ds=>.tup (embs ds)
def embs:List D->List T
 | []=>[]
 | d::ds=>emb d::embs ds
end
mutual
theorem oR : ∀ {d : D} {v : V}, RepT K G H (emb d) v -> Rep H d v
  | .non, v, r => by rw[emb] at r; cases r; rw[Rep]
  | .bl b, v, r => by rw[emb] at r; cases r; rw[Rep]
  | .int i, v, r => by rw[emb] at r; cases r; rw[Rep]
  | .str x, v, r => by rw[emb] at r; cases r; rw[Rep]
  | .tup ds, v, r => by
    rw[emb] at r
    cases r with
    | tup h rs => exact Znh h (uy rs)
theorem uy : ∀ {ds : List D} {vs : List V}, RepTs K G H (embs ds) vs -> Reps H ds vs
  | [], vs, r => by rw[embs] at r; cases r; exact jR
  | d :: ds, vs, r => by
    rw[embs] at r
    cases r with
    | cons h rs => exact Zj4 (oR h) (uy rs)
end
theorem l_eqD {ds es:List D} (p1:D.pls ds=true) (p2:D.pls es=true) (hd:D.deps ds<=40) (h:k (.bl (eqD (.tup ds) (.tup es))) G):L2r P w K rEqD (.tup (embs ds)) (.tup (embs es)) G k:=fun H u v g r1 r2 Q z =>
 ⟨ds,es,oR (d:=.tup ds) (by rw[emb];exact r1),oR (d:=.tup es) (by rw[emb];exact r2),p1,p2,hd,z.here g .bl h⟩
end
end L2
end
section
namespace L2
open PySem
abbrev rowT (r:Rw):T:=.tup (.str r.row.1::embs r.row.2)
abbrev dfT (d:Df):T:=.tup [.int d.takes,.int d.boxes,.lst (d.rows.map rowT)]
abbrev pgT (P:List Df):T:=.lst (P.map dfT)
abbrev sfT (s:SF):T:=.tup [.int s.1,.int s.2.1,.tup (s.2.2.map fmT)]
theorem eN {α:Type} (l:List α) (x:α):atI (l++[x]) (-1)=some x:=by
 unfold atI ixN
 rw[ai (by decide),ah (by rw[ax];simp;lia)]
 show (l++[x])[((-1:Int)+(l++[x]).length).toNat]?=_
 have:((-1:Int)+(l++[x]).length).toNat=l.length:=by rw[ax];simp;lia
 rw[this]
 exact bB
theorem Zn7 {α:Type} (l:List α) (x y:α):atI (l++[x,y]) (-2)=some x:=by
 unfold atI ixN
 rw[ai (by decide),ah (by rw[ax];simp;lia)]
 show (l++[x,y])[((-2:Int)+(l++[x,y]).length).toNat]?=_
 have:((-2:Int)+(l++[x,y]).length).toNat=l.length:=by rw[ax];simp;lia
 rw[this,hW (aA _),Nat.sub_self]
 rfl
theorem at_0 {α:Type} {x:α} {l:List α}:atI (x::l) 0=some x:=by
 unfold atI ixN
 rw[ah (by decide),ah (by rw[cm];lia)];rfl
theorem at_1 {α:Type} {x y:α} {l:List α}:atI (x::y::l) 1=some y:=by
 unfold atI ixN
 rw[ah (by decide),ah (by rw[cm,cm];lia)];rfl
theorem at_2 {α:Type} {x y z:α} {l:List α}:atI (x::y::z::l) 2=some z:=by
 unfold atI ixN
 rw[ah (by decide),ah (by rw[cm,cm,cm];lia)];rfl
theorem at_i {α:Type} {l:List α} {i:Int} {x:α} (h:0<=i) (e:l[i.toNat]?=some x):atI l i=some x:=di (n:=i.toNat) (by lia) e
theorem lh (l:List T) (x:T):cutT (l++[x]) none (some (-1))=l:=by
 unfold cutT HT.sIx
 rw[ax,dq]
 dsimp only
 rw[ah (by decide),drop_zero,nP]
 have:((-1:Int)+((l.length+1:Nat):Int)).toNat=l.length:=by lia
 rw[this]
 exact take_left
theorem gM {l:List T} {i:Int} (h:0<=i) (h2:i<=l.length):cutT l none (some i)=l.take i.toNat:=by
 unfold cutT HT.sIx
 dsimp only
 rw[ai (by lia),drop_zero,nP]
 congr 1
 lia
theorem oZ {l:List T} {i:Int} (h:0<=i) (h2:i<=l.length):cutT l (some i) none=l.drop i.toNat:=by
 unfold cutT HT.sIx
 dsimp only
 rw[ai (by lia)]
 have:min i.toNat l.length=i.toNat:=by lia
 rw[this,nE (by rw[gB];exact aA _)]
section
variable {P:Program} {w:World} {K:W.Frag} {G:GH} {k:T->GH->Prop} {d:T} {ts:List T} {i:Int}
theorem cC (e:atI ts i=some d) (h:k d G):L2r P w K (rIxA K) (.tup ts) (.int i) G k:=l_ix sg_t e h
theorem bv (e:atI ts i=some d) (h:k d G):L2r P w K (rIxA K) (.lst ts) (.int i) G k:=l_ix sg_l e h
theorem kj (h:k (.int ts.length) G):LNr P w K (rLen K) [.tup ts] G k:=b9 sg_t h
theorem j4 (h:k (.int ts.length) G):LNr P w K (rLen K) [.lst ts] G k:=b9 sg_l h
end
def rL (vs:List V):List Str:=vs.filterMap fun v=>match v with|.str x=>some x|_=>none
theorem jV {P:Program} {w:World} {K:W.Frag} {G:GH} {k:T->GH->Prop} {Γ:Ev} {vs:List V} (e:(rL vs).map V.str=vs) (h:k (.cst (rL vs)) G):We P w K (tCT K vs) Γ G k:=by
 have:=hU (P:=P) (w:=w) (K:=K) (Γ:=Γ) h
 rwa [e] at this
theorem dF {P:Program} {w:World} {K:W.Frag} {G:GH} {k:T->GH->Prop} {Γ:Ev} {LN:List Str} {fr:List Nat} {wi:TI} {g:TG} {te:TE} (Sh:Ev->Prop)
  (h:Wi P w K wi Γ G fun xs kp G1=>xs.length<=100000/\kp G1/\Sh (bkE LN.length fr Γ)/\∃ ys:List T,ys.length=xs.length/\(∀ (i:Nat) x y Γ',xs[i]?=some x->ys[i]?=some y->Sh Γ'->Wg P w K g x Γ' G1 fun Γ2 G2=>Sh Γ2/\G2=G1/\We P w K te Γ2 G1 fun d G4=>d=y/\G4=G1)/\k (.lst ys) G1):We P w K (ff LN fr wi g gN te) Γ G k:=by
 refine jf fun H Z g ev Q z=>h H Z g ev Q fun J H' xs kp G' s1 g1 it ⟨hl,hk,sh,ys,hy,hs,q⟩=>z J H' xs kp G' s1 g1 it ⟨hl,fun i acc Γ2 G2=>Sh Γ2/\G2=G'/\acc=ys.take i,⟨sh,rfl,rfl⟩,fun i acc Γ2 G2 z0_=>by obtain ⟨j,e,j⟩:=z0_;exact e▸hk,fun i x acc Γ2 G2 hx ⟨sh2,e,ea⟩=>?_,fun acc Γ2 G2 ⟨_,e,ea⟩=>?_⟩
 .subst e ea
  have hi:=(ba.mp hx).1
  have ey:ys[i]?=some (ys[i]'(by lia)):=aC _
  intro H3 σ3 v g3 e3 r3 R z3
  refine hs i x _ Γ2 hx ey sh2 H3 σ3 v g3 e3 r3 R fun σ4 H4 Γ4 G4 s4 g4 e4 ⟨sh4,eG,we⟩=>z3 σ4 H4 Γ4 G4 s4 g4 e4 ?_
  subst eG
  refine fz (iteT fun H5 σ5 g5 e5 Q5 z5=>we H5 σ5 g5 e5 Q5 fun v6 H6 d6 G6 s6 g6 r6 ⟨ed,eg⟩=>z5 v6 H6 d6 G6 s6 g6 r6 ?_)
  subst ed eg
  exact ⟨sh4,rfl,by rw[dw,ey];rfl⟩
 .subst e ea
  rw[<-hy,dO];exact q
theorem kf:∀ qs:List Int,embs (qs.map D.int)=qs.map T.int
 | []=>by rw[map_nil,embs];rfl
 | q::qs=>by rw[aS,embs,kf qs,emb];rfl
def gtF (s:SF) (q:Int):Fm:=s.2.2.getD q.toNat (0,[])
def eV (fr:List SF) (s:SF) (p:Int) (f:Fm):List SF:=fr++[(s.1,s.2.1+1,s.2.2.set p.toNat f)]
def cM (fr:List SF) (s:SF) (t:Int):List SF:=fr++[(s.1,t,s.2.2)]
def dQ (P:List Df) (g:Int):Int:=((P[g.toNat]?).map (·.boxes)).getD 0
def dB (P:List Df) (s:SF) (g:Int) (qs:List Int):SF:=(g,0,qs.map (gtF s)++List.replicate (dQ P g - qs.length).toNat (0,[]))
def bW (s:SF):Rw->Option (Int×Fm)
 | .put p n=>some (p,(n,[]))
 | .copy p q=>some (p,gtF s q)
 | .plus p q r=>some (p,bO (gtF s q) (gtF s r) 1)
 | .less p q r=>some (p,bO (gtF s q) (gtF s r) (-1))
 | .times p q n=>some (p,fG (gtF s q) n)
 | _=>none
def Rw.cbox:Rw->Int
 | .call p _ _=>p
 | _=>0
def cB (P : List Df) (fr : List SF) (s : SF) : Option (List SF) := match cX P s.1 s.2.1 with
  | none => none
  | some r => match bW s r with
    | some (p, f) => some (eV fr s p f)
    | none => match r with
      | .jump t => some (cM fr s t)
      | .zero p t => if (gtF s p).2 = [] then some (cM fr s (if (gtF s p).1 = 0 then t else s.2.1 + 1)) else none
      | .below p t => if (gtF s p).2 = [] then some (cM fr s (if (gtF s p).1 < 0 then t else s.2.1 + 1)) else none
      | .call _ g qs => if fr.length < 3 then some (fr ++ [s, dB P s g qs]) else none
      | .back p => match fr.getLast? with
        | none => none
        | some c => some (eV fr.dropLast c ((cX P c.1 c.2.1).map Rw.cbox |>.getD 0) (gtF s p))
      | _ => none
structure SfOk (P:List Df) (n B:Nat) (s:SF):Prop where
 ex:∃ d r,0<=s.1/\P[s.1.toNat]?=some d/\0<=s.2.1/\d.rows[s.2.1.toNat]?=some r/\(s.2.2.length:Int)=d.boxes
 fm:∀ f∈s.2.2,Fo n B f
theorem SfOk.le {P:List Df} {n m B C:Nat} {s:SF} (h:SfOk P n B s) (h1:n<=m) (h2:B<=C):SfOk P m C s:=⟨h.ex,fun f hf=>(h.fm f hf).le h1 h2⟩
structure FrsOk (P:List Df) (n B:Nat) (fr:List SF) (s:SF):Prop where
 few:fr.length<=3
 all:∀ t∈fr++[s],SfOk P n B t
 call:∀ t∈fr,∃ p g qs,cX P t.1 t.2.1=some (.call p g qs)
structure PgK (P:List Df):Prop where
 ok:PgOk P
 b:∀ d∈P,d.boxes<=8
theorem dX {P:List Df} {n B:Nat} {s:SF} (h:SfOk P n B s):∃ d r,d∈P/\P[s.1.toNat]?=some d/\cX P s.1 s.2.1=some r/\d.rows[s.2.1.toNat]?=some r/\0<=s.1/\0<=s.2.1/\(s.2.2.length:Int)=d.boxes:=by
 obtain ⟨d,r,h1,h2,h3,h4,h5⟩:=h.ex
 exact ⟨d,r,aE h2,h2,by unfold cX;rw[h2];exact h4,h4,h1,h3,h5⟩
theorem qc {P:List Df} {n B:Nat} {s:SF} (h:SfOk P n B s) {q:Int} (h1:0<=q) (h2:q < s.2.2.length):Fo n B (gtF s q)/\s.2.2[q.toNat]?=some (gtF s q):=by
 have e:s.2.2[q.toNat]?=some (gtF s q):=by
  unfold gtF
  rw[eA,aC (by lia)];rfl
 exact ⟨h.fm _ (aE e),e⟩
theorem oO {P:List Df} {n B:Nat} {s:SF} (h:SfOk P n B s) {p:Int} {f:Fm} (hf:Fo n B f) {t:Int} (ht:0<=t) (hr:∀ d,P[s.1.toNat]?=some d->t.toNat < d.rows.length):SfOk P n B (s.1,t,s.2.2.set p.toNat f):=by
 obtain ⟨d,r,h1,h2,h3,h4,h5⟩:=h.ex
 refine ⟨⟨d,_,h1,h2,ht,aC (hr d h2),by rw[cr];exact h5⟩,fun g hg=>?_⟩
 rcases jA hg with hg|hg
 .exact h.fm g hg
 .rw[hg];exact hf
theorem qa {P:List Df} {n B:Nat} {s:SF} (h:SfOk P n B s) {t:Int} (ht:0<=t) (hr:∀ d,P[s.1.toNat]?=some d->t.toNat < d.rows.length):SfOk P n B (s.1,t,s.2.2):=by
 obtain ⟨d,r,h1,h2,h3,h4,h5⟩:=h.ex
 exact ⟨⟨d,_,h1,h2,ht,aC (hr d h2),h5⟩,h.fm⟩
theorem ki {P:List Df} (K:PgK P) {n B:Nat} {s:SF} (h:SfOk P n B s) {r:Rw} (hr:cX P s.1 s.2.1=some r) (hl:¬ r.last):0<=s.2.1+1/\∀ d,P[s.1.toNat]?=some d->(s.2.1+1).toNat < d.rows.length:=by
 obtain ⟨d,r',hd,h2,hr',h4,h0,h3,h5⟩:=dX h
 rw[hr] at hr';cases hr'
 refine ⟨by lia,fun d' hd'=>?_⟩
 rw[h2] at hd';cases hd'
 obtain ⟨rl,el,ll⟩:=(K.ok.2.2 d hd).last
 have hlt:=(ba.mp h4).1
 by_cases e:s.2.1.toNat=d.rows.length - 1
 .rw[<-e,h4] at el;cases el;exact absurd ll hl
 .rw[Int.toNat_add h3 (by decide)]
  exact Nat.lt_of_le_of_ne hlt fun z=>e (by rw[<-z];rfl)
theorem Fo.nil {n B:Nat} {c:Int} (h:c.natAbs<=B):Fo n B (c,[]):=⟨h,fun p hp=>(cp hp).elim,fun p hp=>(cp hp).elim,cV⟩
theorem sf {P:List Df} (K:PgK P) {n B:Nat} (hB:10 ^ 60<=B) {fr:List SF} {s:SF} (h:FrsOk P n B fr s) {fr':List SF} (e:cB P fr s=some fr'):∃ f2 s2,fr'=f2++[s2]/\FrsOk P n (100 * B) f2 s2:=by
 have hs:=h.all s (by simp)
 obtain ⟨d,r,hd,h2,hr,h4,h0,h3,h5⟩:=dX hs
 have ok:=(K.ok.2.2 d hd).rows r (aE h4)
 have BB:B<=100 * B:=Nat.le_mul_of_pos_left B (by decide)
 have B2:B+1 * B<=100 * B:=by rw[Nat.add_comm,<- nA];exact fw B (by decide)
 have hs':=hs.le (aA n) BB
 have fr':∀ t∈fr,SfOk P n (100 * B) t:=fun t ht=>(h.all t (by simp[ht])).le (aA n) BB
 have mk:∀ s2:SF,SfOk P n (100 * B) s2->FrsOk P n (100 * B) fr s2:=fun s2 h2=>⟨h.few,fun t ht=>by rcases aI.mp ht with ht|ht;exact fr' t ht;rw[aU.mp ht];exact h2,h.call⟩
 have bx:∀ {q:Int},In0 q d.boxes->Fo n B (gtF s q):=fun {q} hq=>(qc hs hq.1 (by have:=hq.2;lia)).1
 have rk:∀ {p:Int} {f:Fm},Fo n (100 * B) f->¬ r.last->∃ f2 s2,eV fr s p f=f2++[s2]/\FrsOk P n (100 * B) f2 s2:=fun {p f} hf hl=>by
  obtain ⟨n1,n2⟩:=ki K hs hr hl
  exact ⟨fr,_,rfl,mk _ (oO hs' hf n1 n2)⟩
 unfold cB at e
 rw[hr] at e
 have tr:∀ {t:Int},In0 t d.rows.length->∃ f2 s2,cM fr s t=f2++[s2]/\FrsOk P n (100 * B) f2 s2:=fun {t} ht=>⟨fr,_,rfl,mk _ (qa hs' ht.1 fun d' hd'=>by rw[h2] at hd';cases hd';have:=ht.2;have:=ht.1;lia)⟩
 have nx:¬ r.last->∃ f2 s2,cM fr s (s.2.1+1)=f2++[s2]/\FrsOk P n (100 * B) f2 s2:=fun hl=>by
  obtain ⟨n1,n2⟩:=ki K hs hr hl
  exact ⟨fr,_,rfl,mk _ (qa hs' n1 n2)⟩
 cases r with
 | put p m=>cases e;exact rk (Fo.nil (aR ok.2 (aR hB BB))) (fun h=>h)
 | copy p q=>cases e;exact rk ((bx ok.2).le (aA _) BB) (fun h=>h)
 | plus p q r=>cases e;exact rk ((jK (bx ok.2.1) (bx ok.2.2)).le (aA _) B2) (fun h=>h)
 | less p q r=>cases e;exact rk ((jK (bx ok.2.1) (bx ok.2.2)).le (aA _) B2) (fun h=>h)
 | times p q m=>cases e;exact rk ((ZjV (bx ok.2.1)).le (aA _) (fw _ (Nat.le_succ_of_le ok.2.2))) (fun h=>h)
 | take p=>cases e
 | tell p=>cases e
 | jump t=>cases e;exact tr ok
 | zero p t =>
  dsimp only [bW] at e
  split at e
  .cases e
   split
   .exact tr ok.2
   .exact nx (fun h=>h)
  .cases e
 | below p t =>
  dsimp only [bW] at e
  split at e
  .cases e
   split
   .exact tr ok.2
   .exact nx (fun h=>h)
  .cases e
 | call p g qs =>
  dsimp only [bW] at e
  split at e
  .next hl =>
   cases e
   obtain ⟨d2,g0,hg,hq⟩:=ok.2.1
   have D2:=K.ok.2.2 d2 (aE hg)
   have eb:dQ P g=d2.boxes:=by unfold dQ;rw[hg];rfl
   have hq2:(qs.length:Int)<=d2.boxes:=by rw[hq];exact D2.t.2
   refine ⟨fr++[s],dB P s g qs,by rw[eh];rfl,by rw[ax];simp;lia,fun t ht=>?_,fun t ht=>?_⟩
   .rcases aI.mp ht with ht|ht
    .rcases aI.mp ht with ht|ht
     .exact fr' t ht
     .rw[aU.mp ht];exact hs'
    .rw[aU.mp ht]
     obtain ⟨rl,el,j⟩:=D2.last
     have hpos:0 < d2.rows.length:=ia (bD _) (ba.mp el).1
     refine ⟨⟨d2,_,g0,hg,eo 0,aC hpos,?_⟩,fun f hf=>?_⟩
     .unfold dB
      rw[eb]
      simp
      lia
     .unfold dB at hf
      rcases aI.mp hf with hf|hf
      .obtain ⟨q,hq',rfl⟩:=bg.mp hf
       exact (bx (ok.2.2 q hq')).le (aA _) BB
      .rw[eq_of_mem_replicate hf];exact Fo.nil (bD _)
   .rcases aI.mp ht with ht|ht
    .exact h.call t ht
    .rw[aU.mp ht];exact ⟨p,g,qs,hr⟩
  .cases e
 | back p =>
  dsimp only [bW] at e
  cases hl:fr.getLast? with
  | none=>rw[hl] at e;cases e
  | some c =>
   rw[hl] at e
   cases e
   obtain ⟨ys,rfl⟩:=jB.mp hl
   obtain ⟨p2,g,qs,hc⟩:=h.call c (by simp)
   have hcs:=fr' c (by simp)
   obtain ⟨n1,n2⟩:=ki K hcs hc (fun h=>h)
   rw[fV,hc]
   refine ⟨ys,_,rfl,by have:=h.few;rw[ax] at this;simp at this;lia,fun t ht=>?_,fun t ht=>h.call t (by simp[ht])⟩
   rcases aI.mp ht with ht|ht
   .exact fr' t (by simp[ht])
   .rw[aU.mp ht]
    exact oO hcs ((bx ok).le (aA _) BB) n1 n2
end L2
end
section
namespace L2
open PySem PySem.Spec PyProof.Rows
theorem uu {P:Program} {w:World} {K:W.Frag} {G:GH} {k:T->GH->Prop} {Γ:Ev} {LN:List Str} {fr:List Nat} {wi:TI} {g:TG} {te:TE} (Sh:Ev->Prop)
  (h:Wi P w K wi Γ G fun xs kp G1=>xs.length<=100000/\kp G1/\Sh (bkE LN.length fr Γ)/\∃ ys:List T,ys.length=xs.length/\(∀ (i:Nat) x y Γ',xs[i]?=some x->ys[i]?=some y->Sh Γ'->Wg P w K g x Γ' G1 fun Γ2 G2=>Sh Γ2/\G2=G1/\We P w K te Γ2 G1 fun d G4=>d=y/\G4=G1)/\∀ a,G1 a=none->k (.ptr a) (gput G1 a (.lst ys))):We P w K (ff LN fr wi g gN te) Γ G k:=fun H Z g ev Q z =>
 h H Z g ev _ fun J H1 xs kp G1 s1 g1 it z0_=>by
  obtain ⟨hz,hk,sh,ysT,hy,hs,q⟩:=z0_
  refine lB xs.length (iw (by lia)) (fun i ys Z H=>∃ Γ',Stp G1 H1 G1 H/\GOk P w K G1 H/\EnvOk K G1 H Z Γ'/\RepTs K G1 H (ysT.take i) ys/\Sh Γ') ⟨_,.refl,g1,p9 (ev.mono g s1),.nil,sh⟩ ?_ ?_ ?_ ?_
  .rintro i ys Z H hi ⟨Γ',s2,g2,e2,r2,p⟩
   exact ((it G1 H s2 g2 hk).1 i xs[i] (aC hi)).1
  .rintro ys Z H ⟨Γ',s2,g2,e2,r2,p⟩
   exact (it G1 H s2 g2 hk).2
  .rintro i x ys Z H H' hi hy1 hy2 ⟨Γ',s2,g2,e2,r2,p⟩ y
   have ey:ysT[i]?=some (ysT[i]'(by lia)):=aC _
   obtain ⟨sm,rx⟩:=((it G1 H s2 g2 hk).1 i xs[i] (aC hi)).2 x H' y
   refine hs i _ _ Γ' (aC hi) ey p H' Z x (g2.same sm) (e2.mono g2 (.same sm)) rx _ fun σ3 H3 Γ3 G3 s3 g3 e3 ⟨sh3,eG,we⟩=>?_
   subst eG
   refine uI (iteT ?_)
   refine we H3 σ3 g3 e3 _ fun v H5 d G5 s5 g5 r5 ⟨ed,eg⟩=>⟨hy2,by rw[ax];simpa using hy1,?_⟩
   subst ed eg
   have st:=(Stp.same sm).trans (s3.trans s5)
   refine ⟨Γ3,s2.trans st,g5,e3.mono g3 s5,?_,sh3⟩
   rw[dw,ey]
   exact (r2.mono g2 st).app (.cons r5 .nil)
  .rintro ys Z H hl ⟨Γ',s2,g2,e2,r2,p⟩ c hc
   rw[<-hy,dO] at r2
   obtain ⟨g3,s3⟩:=g2.putL (.inr hc) r2
   exact z _ _ _ _ (s1.trans (s2.trans s3)) g3 .ptr (q c (g2.free hc))
theorem cI {P:Program} {w:World} {K:W.Frag} {G:GH} {Γ:Ev} {t u:TS} {D:EndT} (M:Ev->GH->Prop) (h1:Ws P w K t Γ G { D with nx:=M }) (h2:∀ Γ' G',M Γ' G'->Ws P w K u Γ' G' D):Ws P w K (tSeq t u) Γ G D :=
 bE fun H Z g ev D' z=>h1 H Z g ev D' ⟨fun σ' H' Γ' G' s g' e' q=>z.nx σ' H' Γ' G' s g' e' (h2 Γ' G' q),z.rt,z.bk,z.ct⟩
theorem si_up {G:GH} {x:T} {l:List T} {p:Addr} {c:Ct} (hp:G p=none) (h:SqI G x l):SqI (gput G p c) x l:=by
 rcases h with e|⟨a,e,h⟩
 .exact .inl e
 .exact .inr ⟨a,e,by rw[gp_n (g_ne h hp)];exact h⟩
theorem su:∀ ps:List (Int×Int),embs (ps.map pairD)=ps.map prT
 | []=>by rw[map_nil,embs];rfl
 | p::ps=>by rw[aS,embs,su ps,pairD,emb,embs,embs,embs,emb,emb];rfl
theorem uo : ∀ ps : List (Int × Int), D.pls (ps.map pairD) = true /\ D.deps (ps.map pairD) <= 1
  | [] => by constructor; rfl; exact bD _
  | p :: ps => by
    obtain ⟨h1,h2⟩:=uo ps
    rw[aS,D.pls,D.deps,h1]
    refine ⟨rfl,?_⟩
    show max (D.dep (pairD p)) _<=1
    have:D.dep (pairD p)=1:=rfl
    lia
end L2
end
section
namespace L2
open PySem
def bZ (n:Nat):List Fm:=(List.range n).map fun (i:Nat)=>ofW (i:Int)
end L2
end
section
namespace L2
open PySem
structure Sd where
 many:Nat
 fr:List SF
 word:Str
 rest:List T
structure MS where
 lane:List Sd
 plc:List (K2×List Nat)
 going:Nat
def dD (Q:List Df) (l:List SF):Option (List SF):=match l.getLast? with
 | none=>none
 | some s=>cB Q l.dropLast s
end L2
end
section
namespace L2
open PySem
section
variable {Q:List Df} {S:MS} {n B:Nat} {f:List SF} {s:SF} {most:Nat}
theorem mF {g:Fm} (h:Fo n B g):g.2.length<=n:=by
 have:=mV (n:=n) _ h.nd (fun x hx=>by obtain ⟨p,hp,rfl⟩:=bg.mp hx;exact h.w p hp)
 rwa [af] at this
end
end L2
end
section
namespace L2
open PySem
def dY (fl:List Fm) (s:SF):SF:=(s.1,s.2.1,s.2.2.map fun f=>gn f fl)
end L2
end
section
namespace L2
open PySem PySem.Spec PyProof.Rows
mutual
def dpT:T->Nat
 | .tup ts=>dpTs ts+1
 | .lst ts=>dpTs ts+1
 | .cst _=>1000
 | _=>0
def dpTs:List T->Nat
 | []=>0
 | t::ts=>max (dpT t) (dpTs ts)
end
def Alk (G:GH):Nat->T->T->Prop
 | 0,x,y=>x=y/\dpT x=0
 | n+1,x,y=>(x=y/\dpT x<=n+1)\/∃ ts us,((x=.tup ts/\y=.tup us)\/(SqI G x ts/\SqI G y us))/\ts.length=us.length/\∀ (j:Nat) t u,ts[j]?=some t->us[j]?=some u->Alk G n t u
section
variable {P:Program} {w:World} {K:W.Frag} {G:GH} {H:Hp} {k:T->GH->Prop} {x y:T}
mutual
theorem pG : ∀ {t : T} {u v : V} {n : Nat}, RepT K G H t u -> RepT K G H t v -> dpT t <= n -> n < 1000 -> Alike H n u v
  | t, u, v, n, h1, h2, hd, hn => by
    cases h1 with
    | tup h r =>
      cases h2 with
      | tup h' r' =>
        rw[dpT] at hd
        obtain ⟨m,rfl⟩:∃ m,n=m+1:=⟨n - 1,by lia⟩
        exact .inr ⟨_,_,⟨_,_,rfl,rfl,.inl ⟨h,h'⟩⟩,by rw[<-r.length,<- r'.length],pf r r' (by lia) (by lia)⟩
    | lst g h r =>
      cases h2 with
      | lst g' h' r' =>
        rw[dpT] at hd
        obtain ⟨m,rfl⟩:∃ m,n=m+1:=⟨n - 1,by lia⟩
        exact .inr ⟨_,_,⟨_,_,rfl,rfl,.inr ⟨h,h'⟩⟩,by rw[<-r.length,<- r'.length],pf r r' (by lia) (by lia)⟩
    | cst _ => rw[dpT] at hd; lia
    | _ => cases h2; exact Alike.refl n trivial
theorem pf : ∀ {ts : List T} {us vs : List V} {n : Nat}, RepTs K G H ts us -> RepTs K G H ts vs -> dpTs ts <= n -> n < 1000 -> ∀ (j : Nat) (u v : V), us[j]? = some u -> vs[j]? = some v -> Alike H n u v
  | ts, us, vs, n, h1, h2, hd, hn, j, u, v, e1, e2 => by
    cases h1 with
    | nil => cases e1
    | cons h r =>
      cases h2 with
      | cons h' r' =>
        rw[dpTs] at hd
        cases j with
        | zero => cases e1; cases e2; exact pG h h' (by lia) hn
        | succ j => exact pf r r' (by lia) hn j u v e1 e2
end
theorem uM (g : GOk P w K G H) : ∀ {n : Nat} {x y : T} {u v : V}, n < 1000 -> Alk G n x y -> RepT K G H x u -> RepT K G H y v -> Alike H n u v
  | 0, x, y, u, v, hn, ⟨e, hd⟩, r, r' => by subst e; exact pG r r' (by lia) hn
  | n + 1, x, y, u, v, hn, h, r, r' => by
    rcases h with ⟨e,hd⟩|⟨ts,us,h,hl,hi⟩
    . subst e; exact pG r r' hd hn
    . have key : ∀ {xs ys : List V}, RepTs K G H ts xs -> RepTs K G H us ys -> xs.length = ys.length /\ ∀ (j : Nat) (u v : V), xs[j]? = some u -> ys[j]? = some v -> Alike H n u v := fun {xs ys} rx ry => by
        have l1:=rx.length
        have l2:=ry.length
        refine ⟨by lia,fun j u v e1 e2=>?_⟩
        have j1:=(ba.mp e1).1
        have et:ts[j]?=some (ts[j]'(by lia)):=aC _
        have eu:us[j]?=some (us[j]'(by lia)):=aC _
        obtain ⟨u',q1,r1⟩:=rx.get et
        obtain ⟨v',q2,r2⟩:=ry.get eu
        rw[e1] at q1;rw[e2] at q2;cases q1;cases q2
        exact uM g (by lia) (hi j _ _ et eu) r1 r2
      rcases h with ⟨rfl,rfl⟩|⟨h1,h2⟩
      . cases r with | tup a1 a2 => cases r' with | tup b1 b2 =>
        obtain ⟨k1,k2⟩:=key a2 b2
        exact .inr ⟨_,_,⟨_,_,rfl,rfl,.inl ⟨a1,b1⟩⟩,k1,k2⟩
      . obtain ⟨a, xs, rfl, a2, a1⟩ := cY g h1 r
        obtain ⟨b,ys,rfl,b2,b1⟩:=cY g h2 r'
        obtain ⟨k1,k2⟩:=key a2 b2
        exact .inr ⟨_, _, ⟨_, _, rfl, rfl, .inr ⟨a1, b1⟩⟩, k1, k2⟩
def AlkS (G:GH) (n:Nat) (x y:T):Prop:=∃ ts us,((x=.tup ts/\y=.tup us)\/(SqI G x ts/\SqI G y us))/\ts.length=us.length/\∀ (j:Nat) t u,ts[j]?=some t->us[j]?=some u->Alk G n t u
theorem nX {n:Nat} {x:T} (h:dpT x<=n):Alk G n x x:=by
 cases n with
 | zero=>exact ⟨rfl,by lia⟩
 | succ n=>exact .inl ⟨rfl,h⟩
theorem Zn9 {u v:V} (g:GOk P w K G H) (h:AlkS G 40 x y) (r:RepT K G H x u) (r':RepT K G H y v):uz H 40 u v:=by
 obtain ⟨ts,us,h,hl,hi⟩:=h
 have key:∀ {xs ys:List V},RepTs K G H ts xs->RepTs K G H us ys->xs.length=ys.length/\∀ (j:Nat) (u v:V),xs[j]?=some u->ys[j]?=some v->Alike H 40 u v:=fun {xs ys} rx ry=>by
  have l1:=rx.length
  have l2:=ry.length
  refine ⟨by lia,fun j u v e1 e2=>?_⟩
  have j1:=(ba.mp e1).1
  have et:ts[j]?=some (ts[j]'(by lia)):=aC _
  have eu:us[j]?=some (us[j]'(by lia)):=aC _
  obtain ⟨u',q1,r1⟩:=rx.get et
  obtain ⟨v',q2,r2⟩:=ry.get eu
  rw[e1] at q1;rw[e2] at q2;cases q1;cases q2
  exact uM g (by lia) (hi j _ _ et eu) r1 r2
 rcases h with ⟨rfl,rfl⟩|⟨h1,h2⟩
 .cases r with|tup a1 a2=>cases r' with|tup b1 b2 =>
  obtain ⟨k1,k2⟩:=key a2 b2
  exact ⟨_,_,⟨_,_,rfl,rfl,.inl ⟨a1,b1⟩⟩,k1,k2⟩
 .obtain ⟨a,xs,rfl,a2,a1⟩:=cY g h1 r
  obtain ⟨b,ys,rfl,b2,b1⟩:=cY g h2 r'
  obtain ⟨k1,k2⟩:=key a2 b2
  exact ⟨_,_,⟨_,_,rfl,rfl,.inr ⟨a1,b1⟩⟩,k1,k2⟩
theorem l_eqA (h:AlkS G 40 x y) (q:k (.bl true) G):L2r P w K rEqA x y G k:=fun H u v g r1 r2 Q z=>rd_eqA (Zn9 g h r1 r2) (z.here g .bl q)
abbrev g0:GH:=fun j=>none
theorem bag_ne {b l:Addr} (B:BagAt H b l):l≠b:=fun e=>by
 obtain ⟨xs,i,m,st,c,h1,h2,j⟩:=B.ex
 rw[e,h1] at h2
 injection h2 with h2
 injection h2 with h2
 cases xs with
 | nil=>cases h2
 | cons x xs=>injection h2 with h2 _;cases h2
theorem law_go {rest:TS} {a:Addr} {ns:List Int} {Q:VK} (n:Nat) (hS:SqL K H a (ns.map V.int)) (hl:ns.length<=63) (kq:∀ H',Q (.bl true) H')
  (h:∀ b l,Ws P w K rest (none::some (.ptr b)::List.replicate n none) (gput g0 b (.bag l)) { nx:=fun j j=>False,rt:=fun d j=>d=.bl true }) :
  tSeq (tAsg (fc (sM K) [] E0 (a9 (tVar 0) tNil)) (dj 1)) rest { nx:=fun j H'=>Q .non H',rt:=Q } (some (.ref a)::none::List.replicate n none) H:=by
 refine ⟨.ref a,rfl,?_⟩
 refine use1 (E:=E0) (Pr_bag.mk a ns rfl hS hl fun b l H' nb sm B=>?_)
 have ge:GOk P w K (gput g0 b (.bag l)) H':=fun c x e=>by
  by_cases hc:c=b
  .subst hc;rw[gp_s] at e;cases e
   exact ⟨B,by rw[gp_n (bag_ne B)]⟩
  .rw[gp_n hc] at e;cases e
 refine h b l H' _ ge ⟨by simp,fun i t e=>?_⟩ _ ⟨fun j j j j j j j z=>z.elim,fun v H2 d G' j j r e=>?_,fun j j j j j j j z=>z.elim,fun j j j j j j j z=>z.elim⟩
 .cases i with
  | zero=>cases e
  | succ i =>
   cases i with
   | zero=>cases e;exact ⟨_,rfl,.ptr⟩
   | succ i=>simp[kE] at e
 .subst e;cases r;exact kq H2
end
end L2
end
section
namespace L2
open PySem
abbrev Cano (f:Fm):Prop:=Canon f.2
theorem pU {c:Int} {t:List (Int×Int)} (hn:(t.map (·.1)).Nodup):Cano (wnF c t):=ZgW ((gW _).nodup_iff.mpr hn) (rS _)
theorem og {c:Int} {t:List (Int×Int)} (hn:(t.map (·.1)).Nodup) (w:Int):atW (wnF c t).2 w=aP t w:=ZhM hn (gW _) w
theorem pH {f g:Fm} (hf:Cano f) (hg:Cano g) (h1:f.1=g.1) (h2:∀ w,atW f.2 w=atW g.2 w):f=g:=Prod.ext h1 (canon_one hf hg h2)
theorem jS {c:Int}:Cano (c,[]):=⟨List.Pairwise.nil,fun j h=>(cp h).elim⟩
theorem jZ (f g:Fm) (n:Int):Cano (bO f g n):=pU (cZ _ _ (cZ _ _ cV))
theorem uE (f:Fm) (n:Int):Cano (fG f n):=pU (cZ _ _ cV)
theorem ul (f:Fm) (fl:List Fm):Cano (gn f fl):=pU (n9 _ _)
def bR (l:List SF):Prop:=∀ t∈l,∀ g∈t.2.2,Cano g
theorem pc {s:SF} (h:∀ g∈s.2.2,Cano g) (q:Int):Cano (gtF s q):=by
 unfold gtF
 rw[eA]
 cases e:s.2.2[q.toNat]? with
 | none=>exact jS
 | some g=>exact h g (aE e)
theorem eF {a b:List SF} (h1:bR a) (h2:bR b):bR (a++b):=fun t ht=>by
 rcases aI.mp ht with h|h
 .exact h1 t h
 .exact h2 t h
theorem eP {s:SF} (h:∀ g∈s.2.2,Cano g):bR [s]:=fun t ht=>by rw[aU.mp ht];exact h
theorem iE {fr:List SF} {s:SF} {p:Int} {f:Fm} (h1:bR fr) (h2:∀ g∈s.2.2,Cano g) (hf:Cano f):bR (eV fr s p f):=eF h1 (eP fun g hg=>by
 rcases jA hg with h|rfl
 .exact h2 g h
 .exact hf)
theorem pZ {fr:List SF} {s:SF} {t:Int} (h1:bR fr) (h2:∀ g∈s.2.2,Cano g):bR (cM fr s t):=eF h1 (eP h2)
theorem ZhE {Q:List Df} {l l':List SF} (h:bR l) (e:dD Q l=some l'):bR l':=by
 unfold dD at e
 cases hl:l.getLast? with
 | none=>rw[hl] at e;cases e
 | some s =>
  rw[hl] at e
  dsimp only at e
  obtain ⟨fr,rfl⟩:=jB.mp hl
  rw[fV] at e
  have h1:bR fr:=fun t ht=>h t (by simp[ht])
  have h2:∀ g∈s.2.2,Cano g:=h s (by simp)
  unfold cB at e
  cases hr:cX Q s.1 s.2.1 with
  | none=>rw[hr] at e;cases e
  | some r =>
   rw[hr] at e
   cases r with
   | put p m=>cases e;exact iE h1 h2 jS
   | copy p q=>cases e;exact iE h1 h2 (pc h2 _)
   | plus p q r=>cases e;exact iE h1 h2 (jZ _ _ _)
   | less p q r=>cases e;exact iE h1 h2 (jZ _ _ _)
   | times p q m=>cases e;exact iE h1 h2 (uE _ _)
   | take p=>cases e
   | tell p=>cases e
   | jump t=>cases e;exact pZ h1 h2
   | zero p t =>
    dsimp only [bW] at e
    split at e
    .cases e;exact pZ h1 h2
    .cases e
   | below p t =>
    dsimp only [bW] at e
    split at e
    .cases e;exact pZ h1 h2
    .cases e
   | call p g qs =>
    dsimp only [bW] at e
    split at e
    .cases e
     refine eF h1 (eF (a:=[s]) (eP h2) (eP fun f hf=>?_))
     unfold dB at hf
     rcases aI.mp hf with hf|hf
     .obtain ⟨q,j,rfl⟩:=bg.mp hf;exact pc h2 _
     .rw[eq_of_mem_replicate hf];exact jS
    .cases e
   | back p =>
    dsimp only [bW] at e
    cases hc:fr.getLast? with
    | none=>rw[hc] at e;cases e
    | some c =>
     rw[hc] at e
     cases e
     obtain ⟨ys,rfl⟩:=jB.mp hc
     rw[fV]
     exact iE (fun t ht=>h1 t (by simp[ht])) (h1 c (by simp)) (pc h2 _)
end L2
end
section
namespace L2
open PySem
def lputF (f:Fm) (fl:List Fm):Fm:=f.2.foldl (fun a p=>bO a (nthF fl p.2) p.1) (f.1,[])
theorem o5 (f g:Fm) (n w:Int):atW (bO f g n).2 w=atW f.2 w+atW g.2 w * n:=by
 show atW (wnF _ _).2 w=_
 have hn:((aZ (aZ [] f.2 1) g.2 n).map (·.1)).Nodup:=cZ _ _ (cZ _ _ cV)
 rw[og hn,fX,fX]
 show (0:Int)+_ * 1+_=_
 lia
theorem tJ (fl : List Fm) : ∀ (ps : List (Int × Int)) (a : Fm), Cano a -> Cano (ps.foldl (fun a p => bO a (nthF fl p.2) p.1) a) /\ (ps.foldl (fun a p => bO a (nthF fl p.2) p.1) a).1 = putC a.1 ps fl /\ ∀ w, atW (ps.foldl (fun a p => bO a (nthF fl p.2) p.1) a).2 w = atW a.2 w + putAt ps fl w
  | [], a, h => ⟨h, rfl, fun w => by show _ = _ + (0 : Int); rw[Int.add_zero]; rfl⟩
  | p :: ps, a, h => by
    obtain ⟨h1,h2,h3⟩:=tJ fl ps (bO a (nthF fl p.2) p.1) (jZ _ _ _)
    refine ⟨h1,h2,fun w=>?_⟩
    show atW (ps.foldl _ (bO a (nthF fl p.2) p.1)).2 w=_
    rw[h3,o5]
    unfold putAt
    rw[aS,ce]
    lia
theorem tN (f:Fm) (fl:List Fm):lputF f fl=gn f fl:=by
 obtain ⟨h1,h2,h3⟩:=tJ fl f.2 (f.1,[]) jS
 refine pH h1 (ul _ _) h2 fun w=>?_
 have h4:=h3 w
 have e:atW (gn f fl).2 w=putAt f.2 fl w:=by
  show atW (wnF _ _).2 w=_
  rw[og (n9 _ _),ZhI]
 rw[e]
 refine h4.trans ?_
 show (0:Int)+_=_
 lia
theorem Zn2 {f:Fm} (h:Cano f):bO (0,[]) f 1=f:=pH (jZ _ _ _) h (by show 0+1 * f.1=f.1;lia) fun w=>by rw[o5];show (0:Int)+_=_;lia
theorem Zlw (f:Fm) (n:Int):bO (0,[]) f n=fG f n:=by
 refine pH (jZ _ _ _) (uE _ _) (by show 0+n * f.1=f.1 * n;rw[ie];lia) fun w=>?_
 have hn:((aZ [] f.2 n).map (·.1)).Nodup:=cZ _ _ cV
 have e:atW (fG f n).2 w=atW f.2 w * n:=by
  show atW (wnF _ _).2 w=_
  rw[og hn,fX]
  show (0:Int)+_=_
  lia
 rw[o5,e]
 show (0:Int)+_=_
 lia
theorem qg {fl : List Fm} {m B C : Nat} (hg : ∀ g ∈ fl, Fo m C g) : ∀ (ps : List (Int × Int)) (a : Fm) (A : Nat), (∀ p ∈ ps, p.1.natAbs <= B /\ 0 <= p.2 /\ p.2 < fl.length) -> Fo m A a -> Fo m (A + ps.length * (B * C)) (ps.foldl (fun a p => bO a (nthF fl p.2) p.1) a)
  | [], a, A, _, h => by rw[gF, Nat.zero_mul]; exact h
  | p :: ps, a, A, hp, h => by
    obtain ⟨b1,b2,b3⟩:=hp p bi
    have e : fl[p.2.toNat]? = some (nthF fl p.2) := by
      unfold nthF
      rw[eA,aC (by lia)];rfl
    have hj:=jK (m:=p.1) h (hg _ (aE e))
    have hj2:Fo m (A+B * C) (bO a (nthF fl p.2) p.1):=hj.le (aA _) (jr (fw _ b1) _)
    have:=qg hg ps _ _ (fun q hq=>hp q (bH _ hq)) hj2
    refine this.le (aA _) ?_
    rw[cm,Nat.add_mul]
    lia
end L2
end
section
namespace L2
open PySem PySem.Spec PyProof.Rows
theorem ig {P:Program} {w:World} {K:W.Frag} {G:GH} {x y:T} {ts us:List T} {k:T->GH->Prop} (s:SqI G x ts) (s2:SqI G y us) (hz:ts.length+us.length<=1000000) (h:∀ a,G a=none->k (.ptr a) (gput G a (.lst (ts++us)))):L2r P w K rCat x y G k:=fun H u v g r1 r2 Q z=>by
 obtain ⟨a,vs,rfl,q,e⟩:=cY g s r1
 obtain ⟨b,ws,rfl,q2,e2⟩:=cY g s2 r2
 refine ux e e2 (iw (by rw[<-q.length,<- q2.length];exact hz)) fun p hp=>?_
 obtain ⟨g2,s3⟩:=g.putL (.inr hp) (q.app q2)
 exact z _ _ _ _ s3 g2 .ptr (h p (g.free hp))
theorem oq {P:Program} {w:World} {K:W.Frag} {G:GH} {k:T->GH->Prop} {Γ:Ev} {g:TG} {te:TE} {LN:List Str} {fr:List Nat} {wi:TI} {tt:TT} (h:Wi P w K wi Γ G fun xs kp G1=>xs.length<=100000/\∃ I:Nat->List T->Ev->GH->Prop,I 0 [] (bkE LN.length fr Γ) G1/\(∀ i acc Γ' G',I i acc Γ' G'->kp G') /\
   (∀ (i:Nat) x acc Γ' G',xs[i]?=some x->I i acc Γ' G'->Wg P w K g x Γ' G' fun Γ2 G2=>Wt P w K tt Γ2 G2 fun b G3=>if b=true then We P w K te Γ2 G3 (fun d G4=>I (i+1) (acc++[d]) Γ2 G4) else I (i+1) acc Γ2 G3) /\
   ∀ acc Γ' G',I xs.length acc Γ' G'->∀ a,G' a=none->k (.ptr a) (gput G' a (.lst acc))):We P w K (ff LN fr wi g tt te) Γ G k:=fun H Z g ev Q z =>
 h H Z g ev _ fun J H1 xs kp G1 s1 g1 it z0_=>by
  obtain ⟨hz,I,i0,hk,hs,hd⟩:=z0_
  refine lB xs.length (iw (by lia)) (fun i ys Z H=>∃ acc Γ' G',Stp G1 H1 G' H/\GOk P w K G' H/\EnvOk K G' H Z Γ'/\RepTs K G' H acc ys/\I i acc Γ' G') ⟨[],_,G1,.refl,g1,p9 (ev.mono g s1),.nil,i0⟩ ?_ ?_ ?_ ?_
  .rintro i ys Z H hi ⟨acc,Γ',G',s2,g2,e2,r2,p⟩
   exact ((it G' H s2 g2 (hk _ _ _ _ p)).1 i xs[i] (aC hi)).1
  .rintro ys Z H ⟨acc,Γ',G',s2,g2,e2,r2,p⟩
   exact (it G' H s2 g2 (hk _ _ _ _ p)).2
  .rintro i x ys Z H H' hi hy hy2 ⟨acc,Γ',G',s2,g2,e2,r2,p⟩ y
   obtain ⟨sm,rx⟩:=((it G' H s2 g2 (hk _ _ _ _ p)).1 i xs[i] (aC hi)).2 x H' y
   refine hs i _ acc Γ' G' (aC hi) p H' Z x (g2.same sm) (e2.mono g2 (.same sm)) rx _ fun σ3 H3 Γ3 G3 s3 g3 e3 q3=>q3 H3 σ3 g3 e3 _ fun b H4 G4 s4 g4 q4=>?_
   have r4:=r2.mono g2 ((Stp.same sm).trans (s3.trans s4))
   have st4:=s2.trans ((Stp.same sm).trans (s3.trans s4))
   cases b with
   | true =>
    refine iteT ((fY q4) H4 σ3 g4 (e3.mono g3 s4) _ fun v H5 d G5 s5 g5 r5 q5=>⟨hy2,by rw[ax];simpa using hy,?_⟩)
    exact ⟨acc++[d],Γ3,G5,st4.trans s5,g5,e3.mono g3 (s4.trans s5),(r4.mono g4 s5).app (.cons r5 .nil),q5⟩
   | false=>exact iteF ⟨by lia,acc,Γ3,G4,st4,g4,e3.mono g3 s4,r4,gi q4⟩
  .rintro ys Z H hl ⟨acc,Γ',G',s2,g2,e2,r2,p⟩ q hq
   obtain ⟨g3,s3⟩:=g2.putL (.inr hq) r2
   exact z _ _ _ _ ((s1.trans s2).trans s3) g3 .ptr (hd acc Γ' G' p q (g2.free hq))
theorem oh {P:Program} {w:World} {K:W.Frag} {G:GH} {k:T->GH->Prop} {i j:Int} (hj:0 < j) (h:k (.int (i % j)) G):L2r P w K (rI (fun y j=>0 < j) fun i j=>V.int (i % j)) (.int i) (.int j) G k:=fun H u v g r1 r2 Q z=>by cases r1;cases r2;exact ⟨i,j,rfl,rfl,hj,z.here g .int h⟩
structure FoB (n:Nat) (f:Fm):Prop where
 o:Fo n (10 ^ 900) f
 n:n < 64
theorem kW {n:Nat} {t:List (Int×Int)} (hn:n < 64) (h1:(t.map (·.1)).Nodup) (h2:∀ x∈t.map Prod.fst,0<=x/\x < n):t.length < 64:=by
 have:=mV (n:=n) _ h1 h2
 rw[af] at this
 lia
theorem l9 {x:Nat} (h:x<=10 ^ 900):x<=10 ^ 1000:=aR h (kS (by decide) (by decide))
theorem fA {i j:Int} (h:i.natAbs<=10 ^ 1000) (h2:j.natAbs<=10 ^ 1000):CBig i j:=⟨ia h (by decide +kernel),ia h2 (by decide +kernel)⟩
theorem tZ {P:Program} {w:World} {K:W.Frag} {c:TT} {Γ:Ev} {G:GH} {kb:Bool->GH->Prop} (X:Bool) (h:Wt P w K c Γ G fun b G'=>b=X/\G'=G) (q:kb X G):Wt P w K c Γ G kb:=fun H Z g ev Q z=>h H Z g ev Q fun b H' G' s g' ⟨e1,e2⟩=>z b H' G' s g' (by rw[e1,e2];exact q)
theorem ZlZ {α:Type} (l:List α) (x:α):(l++[x]).getLast?=some x:=by simp
theorem uC {Q:List Df} {f:List SF} {s:SF}:dD Q (f++[s])=cB Q f s:=by unfold dD;rw[ZlZ,fV]
theorem gu {Q:List Df} (K:PgK Q) {n B:Nat} {s:SF} (h:SfOk Q n B s):s.2.2.length<=8:=by
 obtain ⟨d,r,hd,j,j,j,j,j,h5⟩:=dX h
 have:=K.b d hd
 lia
section
variable {P:Program} {w:World} {K:W.Frag} {G G1 G2 G':GH} {H H1 H2 H':Hp} {a:Addr} {Γ:Ev} {ta te:TE} {k:T->GH->Prop} {x y d:T} {ts:List T} {tr:TA} {v:V} {i:Int}
def tyT (G:GH):T->String
 | .non=>"NoneType"
 | .bl _=>"bool"
 | .int _=>"int"
 | .str _=>"str"
 | .tup _=>"tuple"
 | .cst _=>"tuple"
 | .lst _=>"list"
 | .ptr a=>match G a with|some (.lst _)=>"list"|_=>""
theorem ty_ptr (h:G a=some (.lst ts)):tyT G (.ptr a)="list":=by
 show (match G a with|some (.lst _)=>"list"|_=>"")=_
 rw[h]
theorem tyN_T (g:GOk P w K G H) (r:RepT K G H x v) (h:(∃ ts,SqI G x ts)\/(∀ a,x≠.ptr a)/\∀ xs,x≠.cst xs):tyN H v=some (tyT G x):=by
 rcases h with ⟨ts,h⟩|⟨h2,h3⟩
 .obtain ⟨a,vs,rfl,j,ha⟩:=cY g h r
  rw[uw ha]
  rcases h with rfl|⟨b,rfl,hb⟩
  .rfl
  .show _=some (match G b with|some (.lst _)=>"list"|_=>"")
   rw[hb]
 .cases r with
  | non=>rfl
  | bl=>rfl
  | int=>rfl
  | str=>rfl
  | tup h _=>exact Zm7 h
  | lst _ h _=>exact uw h
  | ptr=>exact absurd rfl (h2 _)
  | cst=>exact absurd rfl (h3 _)
theorem lU {Ty:String} (hT:Ty∈["int","bool","str","tuple","list","dict"]) (h:We P w K ta Γ G fun x G1=>((∃ ts,SqI G1 x ts)\/(∀ a,x≠.ptr a)/\∀ xs,x≠.cst xs)/\k (.bl (isi (tyT G1 x) Ty)) G1):We P w K (tCB rIsi (a9 ta (a9 (tC (.ty Ty)) tNil))) Γ G k:=fun H Z g ev Q z=>h H Z g ev _ fun v H1 x G1 s1 g1 r1 ⟨hx,q⟩ =>
 ⟨v,Ty,tyT G1 x,rfl,tyN_T g1 r1 hx,hT,(z.mono s1).here g1 .bl q⟩
def T.plk:T->Bool
 | .non=>true|.bl _=>true|.int _=>true|.str _=>true|.tup _=>true|.lst _=>true|_=>false
theorem tk_d {x:T} {p:Prop} (h:x.plk=true) (q:p):((∃ ts,SqI G x ts)\/(∀ a,x≠.ptr a)/\∀ xs,x≠.cst xs)/\p:=by
 refine ⟨.inr ?_,q⟩
 refine ⟨fun a e=>?_,fun a e=>?_⟩
 .subst e;exact absurd h bA
 .subst e;exact absurd h bA
end
def Sub (G0 G:GH):Prop:=∀ b,G0 b=G b\/(G0 b=none/\∃ ts,G b=some (.lst ts))
theorem Sub.gok {G0 G:GH} (s:Sub G0 G) {P:Program} {w:World} {K:W.Frag} {H:Hp} (g:GOk P w K G H):GOk P w K G0 H/\Kp G H G0 H:=by
 have n0:∀ b,G b=none->G0 b=none:=fun b e=>by
  rcases s b with h|⟨h,j⟩
  .rw[h];exact e
  .exact h
 have kk:Kp G H G0 H:=⟨fun j j h=>h,fun c xs n h=>⟨h,n0 c n⟩⟩
 refine ⟨fun b c e=>?_,kk⟩
 have e':G b=some c:=by
  rcases s b with h|⟨h,j⟩
  .rw[<-h];exact e
  .rw[h] at e;cases e
 refine (g b c e').kp kk (fun j h=>h) (fun l j=>⟨fun j h=>h,n0 l⟩) fun C dx fs z q=>?_
 rcases s dx with h|⟨h,ts,h2⟩
 .rw[h];exact q
 .rw[q] at h2;cases h2
section
variable {G0 G:GH} {k:T->GH->Prop} {kn:Ev->GH->Prop} {d:T} {Γ:Ev}
theorem Sub.none (s:Sub G0 G) {c:Addr} (e:G c=none):G0 c=none:=by
 rcases s c with h|⟨h,j⟩
 .rw[h];exact e
 .exact h
theorem f9 (s:Sub G0 G) (h:Cl k d G0):Cl k d G:=by
 obtain ⟨d',G',h1,h2,h3⟩:=h
 exact ⟨d',G',fun c q=>h1 c (s.none q),fun P w K H v g r=>let ⟨g2,k2⟩:=s.gok g;h2 P w K H v g2 (r.kp k2),h3⟩
end
abbrev FrA (α:Type):=Int×Int×List α
structure FrI {α:Type} (φ:α->T) (G0 G:GH) (xs ys:List Addr) (l:List (FrA α)):Prop where
 lx:xs.length=l.length
 ly:ys.length=l.length
 x:∀ (i:Nat) a b s,xs[i]?=some a->ys[i]?=some b->l[i]?=some s->G a=some (.lst [.int s.1,.int s.2.1,.ptr b])/\G b=some (.lst (s.2.2.map φ))
 nd:(xs++ys).Nodup
 old:∀ b,b∉xs++ys->G b=G0 b
 new:∀ b∈xs++ys,G0 b=none
section
variable {α:Type} {φ:α->T} {G0 G:GH} {xs ys gs:List Addr} {l:List (FrA α)} {fl:Addr}
theorem dW {l:List Addr} {i:Nat} {a:Addr} (h:l[i]?=some a):a∈l:=aE h
theorem FrI.nil:FrI φ G0 G0 [] [] []:=⟨rfl,rfl,(fun i a b s h=>(by cases h)),cV,fun j j=>rfl,(fun b hb=>(by cases hb))⟩
theorem FrI.has (h:FrI φ G0 G xs ys l) {b:Addr} (hb:b∈xs++ys):∃ ts,G b=some (.lst ts):=by
 have h1:=h.lx
 have h2:=h.ly
 rcases aI.mp hb with hb|hb
 .obtain ⟨i,hi⟩:=eB.mp hb
  have:=(ba.mp hi).1
  exact ⟨_,(h.x i b _ _ hi (aC (by lia)) (aC (by lia))).1⟩
 .obtain ⟨i,hi⟩:=eB.mp hb
  have:=(ba.mp hi).1
  exact ⟨_,(h.x i _ b _ (aC (by lia)) hi (aC (by lia))).2⟩
theorem FrI.not (h:FrI φ G0 G xs ys l) {a:Addr} (n:G a=none):a∉xs++ys:=fun hb=>by
 obtain ⟨ts,e⟩:=h.has hb
 rw[n] at e;cases e
theorem cG {α:Type} {l:List α} {x y:α} {i:Nat} (h:(l++[x])[i]?=some y):(i < l.length/\l[i]?=some y)\/(i=l.length/\y=x):=by
 by_cases hi:i < l.length
 .rw[cL hi] at h;exact .inl ⟨hi,h⟩
 .have hl:=(ba.mp h).1
  rw[ax] at hl
  have e:i=l.length:=by simp at hl;lia
  subst e
  rw[bB] at h
  cases h;exact .inr ⟨rfl,rfl⟩
theorem FrI.snoc (h:FrI φ G0 G xs ys l) {x y:Addr} {s:FrA α} (ny:G y=none) (nx:G x=none) (hxy:x≠y):FrI φ G0 (gput (gput G y (.lst (s.2.2.map φ))) x (.lst [.int s.1,.int s.2.1,.ptr y])) (xs++[x]) (ys++[y]) (l++[s]):=by
 have y1:=h.not ny
 have x1:=h.not nx
 have key:∀ b,b∈xs++ys->gput (gput G y (.lst (s.2.2.map φ))) x (.lst [.int s.1,.int s.2.1,.ptr y]) b=G b:=fun b hb=>by rw[gp_n (fun e=>x1 (by rw[<-e];exact hb)),gp_n (fun e=>y1 (by rw[<-e];exact hb))]
 have h1:=h.lx
 have h2:=h.ly
 refine ⟨by simp[h1],by simp[h2],fun i a b s' ea eb es=>?_,?_,fun b hb=>?_,fun b hb=>?_⟩
 .rcases cG ea with ⟨i1,ea⟩|⟨i1,rfl⟩
  .rcases cG eb with ⟨j,eb⟩|⟨i2,j⟩
   .rcases cG es with ⟨j,es⟩|⟨i3,j⟩
    .rw[key a (cU _ (dW ea)),key b (cP _ (dW eb))]
     exact h.x i a b s' ea eb es
    .lia
   .lia
  .rcases cG eb with ⟨i2,eb⟩|⟨j,rfl⟩
   .lia
   .rcases cG es with ⟨i3,es⟩|⟨j,rfl⟩
    .lia
    .exact ⟨gp_s,by rw[gp_n (fun e=>hxy e.symm)];exact gp_s⟩
 .have nd:=dP.mp h.nd
  simp only[aI,bM] at x1 y1
  rw[dP]
  refine ⟨?_,?_,fun a ha b hb e=>?_⟩
  .rw[dP]
   exact ⟨nd.1,by simp,fun a ha b hb e=>x1.1 (by rw[<-aU.mp hb,<- e];exact ha)⟩
  .rw[dP]
   exact ⟨nd.2.1,by simp,fun a ha b hb e=>y1.2 (by rw[<-aU.mp hb,<- e];exact ha)⟩
  .subst e
   rcases aI.mp ha with ha|ha
   .rcases aI.mp hb with hb|hb
    .exact nd.2.2 a ha a hb rfl
    .rw[aU.mp hb] at ha;exact y1.1 ha
   .rw[aU.mp ha] at hb
    rcases aI.mp hb with hb|hb
    .exact x1.2 hb
    .exact hxy (aU.mp hb)
 .simp only[aI,aU,bM] at hb
  rw[gp_n hb.1.2,gp_n hb.2.2]
  exact h.old b (by simp only[aI,bM];exact ⟨hb.1.1,hb.2.1⟩)
 .have bx:∀ c,G c=none->c∉xs++ys->G0 c=none:=fun c e n=>by rw[<-h.old c n];exact e
  simp only[aI,aU] at hb
  rcases hb with (hb|rfl)|(hb|rfl)
  .exact h.new b (cU _ hb)
  .exact bx b nx x1
  .exact h.new b (cP _ hb)
  .exact bx b ny y1
structure FrSt {α:Type} (φ:α->T) (G0 G:GH) (fl:Addr) (xs ys gs:List Addr) (l:List (FrA α)):Prop where
 fr:G fl=some (.lst (xs.map T.ptr))
 lx:xs.length=l.length
 ly:ys.length=l.length
 x:∀ (i:Nat) a b s,xs[i]?=some a->ys[i]?=some b->l[i]?=some s->G a=some (.lst [.int s.1,.int s.2.1,.ptr b])/\G b=some (.lst (s.2.2.map φ))
 g:∀ b∈gs,∃ ts,G b=some (.lst ts)
 nd:(fl::(xs++ys)).Nodup
 old:∀ b,b∉fl::(xs++ys)->b∉gs->G b=G0 b
 new:∀ b,b∈fl::(xs++ys)\/b∈gs->G0 b=none
theorem FrI.fin (h:FrI φ G0 G xs ys l) (n:G fl=none):FrSt φ G0 (gput G fl (.lst (xs.map T.ptr))) fl xs ys [] l:=by
 have f1:=h.not n
 have key:∀ b,b∈xs++ys->gput G fl (.lst (xs.map T.ptr)) b=G b:=fun b hb=>gp_n (fun e=>f1 (e▸hb))
 refine ⟨gp_s,h.lx,h.ly,fun i a b s ea eb es=>?_,fun b hb=>(by cases hb),cQ.mpr ⟨f1,h.nd⟩,fun b hb j=>?_,fun b hb=>?_⟩
 .rw[key a (cU _ (dW ea)),key b (cP _ (dW eb))]
  exact h.x i a b s ea eb es
 .rw[aG,bM] at hb
  rw[gp_n hb.1];exact h.old b hb.2
 .rcases hb with hb|hb
  .rcases aG.mp hb with rfl|hb
   .rw[<-h.old b f1];exact n
   .exact h.new b hb
  .cases hb
theorem FrSt.has (h:FrSt φ G0 G fl xs ys gs l) {b:Addr} (hb:b∈fl::(xs++ys)\/b∈gs):∃ ts,G b=some (.lst ts):=by
 have h1:=h.lx
 have h2:=h.ly
 rcases hb with hb|hb
 .rcases aG.mp hb with rfl|hb
  .exact ⟨_,h.fr⟩
  .rcases aI.mp hb with hb|hb
   .obtain ⟨i,hi⟩:=eB.mp hb
    have:=(ba.mp hi).1
    exact ⟨_,(h.x i b _ _ hi (aC (by lia)) (aC (by lia))).1⟩
   .obtain ⟨i,hi⟩:=eB.mp hb
    have:=(ba.mp hi).1
    exact ⟨_,(h.x i _ b _ (aC (by lia)) hi (aC (by lia))).2⟩
 .exact h.g b hb
theorem FrSt.sub (h:FrSt φ G0 G fl xs ys gs l):Sub G0 G:=fun b=>by
 by_cases hb:b∈fl::(xs++ys)\/b∈gs
 .exact .inr ⟨h.new b hb,h.has hb⟩
 .rw[bM] at hb;exact .inl (h.old b hb.1 hb.2).symm
theorem FrSt.keep (h:FrSt φ G0 G fl xs ys gs l) {b:Addr} {c:Ct} (e:G0 b=some c):G b=some c:=by
 by_cases hb:b∈fl::(xs++ys)\/b∈gs
 .rw[h.new b hb] at e;cases e
 .rw[bM] at hb;rw[h.old b hb.1 hb.2];exact e
theorem FrSt.sq (h:FrSt φ G0 G fl xs ys gs l) {x:T} {ts:List T} (e:SqI G0 x ts):SqI G x ts:=e.imp id fun ⟨a,h1,h2⟩=>⟨a,h1,h.keep h2⟩
theorem FrSt.last {s:FrA α} (h:FrSt φ G0 G fl xs ys gs (l++[s])):∃ xs' ys' a b,xs=xs'++[a]/\ys=ys'++[b]/\xs'.length=l.length/\ys'.length=l.length/\G a=some (.lst [.int s.1,.int s.2.1,.ptr b])/\G b=some (.lst (s.2.2.map φ)):=by
 have h1:=h.lx
 have h2:=h.ly
 rw[ax,dq] at h1 h2
 have n1:xs≠[]:=fun e=>by rw[e] at h1;simp at h1
 have n2:ys≠[]:=fun e=>by rw[e] at h2;simp at h2
 have e1:=(qA n1).symm
 have e2:=(qA n2).symm
 generalize xs.dropLast=xs' at e1
 generalize xs.getLast n1=a at e1
 generalize ys.dropLast=ys' at e2
 generalize ys.getLast n2=b at e2
 subst e1 e2
 rw[ax,dq] at h1 h2
 have q1:xs'.length=l.length:=by lia
 have q2:ys'.length=l.length:=by lia
 obtain ⟨z1,z2⟩:=h.x l.length a b s (by rw[<-q1];exact bB) (by rw[<-q2];exact bB) bB
 exact ⟨xs',ys',a,b,rfl,rfl,q1,q2,z1,z2⟩
theorem kh {xs ys:List Addr} {a b:Addr} (nd:(fl::((xs++[a])++(ys++[b]))).Nodup):a≠b/\fl≠a/\fl≠b/\a∉xs/\a∉ys/\b∉xs/\b∉ys:=by
 simp only[cQ,dP,aI,aU,bM] at nd
 obtain ⟨⟨⟨j,f1⟩,j,f2⟩,⟨⟨j,j,d1⟩,⟨j,j,d2⟩,d3⟩⟩:=nd
 refine ⟨fun e=>d3 a (.inr rfl) b (.inr rfl) e,f1,f2,fun h=>d1 a h a rfl rfl,fun h=>d3 a (.inr rfl) a (.inl h) rfl,fun h=>d3 b (.inl h) b (.inr rfl) rfl,fun h=>d2 b h b rfl rfl⟩
theorem FrSt.setLast {s s':FrA α} {a b:Addr} (h:FrSt φ G0 G fl (xs++[a]) (ys++[b]) gs (l++[s])) (q1:xs.length=l.length) (q2:ys.length=l.length):FrSt φ G0 (gput (gput G b (.lst (s'.2.2.map φ))) a (.lst [.int s'.1,.int s'.2.1,.ptr b])) fl (xs++[a]) (ys++[b]) gs (l++[s']):=by
 obtain ⟨d1,d2,d3,d4,d5,d6,d7⟩:=kh h.nd
 have ks:∀ c,c≠a->c≠b->gput (gput G b (.lst (s'.2.2.map φ))) a (.lst [.int s'.1,.int s'.2.1,.ptr b]) c=G c:=fun c h1 h2=>by rw[gp_n h1,gp_n h2]
 refine ⟨by rw[ks _ d2 d3];exact h.fr,by simp[q1],by simp[q2],fun i x y t ex ey et=>?_,fun c hc=>?_,h.nd,fun c hc hg=>?_,h.new⟩
 .rcases cG et with ⟨i1,et⟩|⟨i1,rfl⟩
  .rcases cG ex with ⟨j,ex⟩|⟨i2,j⟩
   .rcases cG ey with ⟨j,ey⟩|⟨i3,j⟩
    .have mx:=dW ex
     have my:=dW ey
     rw[ks x (fun e=>d4 (e▸mx)) (fun e=>d6 (e▸mx)),ks y (fun e=>d5 (e▸my)) (fun e=>d7 (e▸my))]
     exact h.x i x y t (by rw[cL (by lia)];exact ex) (by rw[cL (by lia)];exact ey) (by rw[cL i1];exact et)
    .lia
   .lia
  .rcases cG ex with ⟨i2,j⟩|⟨j,rfl⟩
   .lia
   .rcases cG ey with ⟨i3,j⟩|⟨j,rfl⟩
    .lia
    .exact ⟨gp_s,by rw[gp_n (fun e=>d1 e.symm)];exact gp_s⟩
 .by_cases ha:c=a
  .rw[ha];exact ⟨_,gp_s⟩
  .by_cases hb:c=b
   .rw[hb,gp_n (fun e=>d1 e.symm)];exact ⟨_,gp_s⟩
   .rw[ks c ha hb];exact h.g c hc
 .have ha:c≠a:=fun e=>hc (by rw[e];simp)
  have hb:c≠b:=fun e=>hc (by rw[e];simp)
  rw[ks c ha hb];exact h.old c hc hg
theorem FrSt.setAt {s:FrA α} {t:Int} {a b:Addr} (h:FrSt φ G0 G fl (xs++[a]) (ys++[b]) gs (l++[s])) (q1:xs.length=l.length) (q2:ys.length=l.length):FrSt φ G0 (gput G a (.lst [.int s.1,.int t,.ptr b])) fl (xs++[a]) (ys++[b]) gs (l++[(s.1,t,s.2.2)]):=by
 have:=h.setLast (s':=(s.1,t,s.2.2)) q1 q2
 have e:G b=some (.lst (s.2.2.map φ)):=(h.x l.length a b s (by rw[<-q1];exact bB) (by rw[<-q2];exact bB) bB).2
 dsimp only at this
 rwa [fO e] at this
theorem FrSt.setBox {s:FrA α} {fm:List α} {a b:Addr} (h:FrSt φ G0 G fl (xs++[a]) (ys++[b]) gs (l++[s])) (q1:xs.length=l.length) (q2:ys.length=l.length):FrSt φ G0 (gput G b (.lst (fm.map φ))) fl (xs++[a]) (ys++[b]) gs (l++[(s.1,s.2.1,fm)]):=by
 have:=h.setLast (s':=(s.1,s.2.1,fm)) q1 q2
 obtain ⟨d1,j⟩:=kh h.nd
 have e:G a=some (.lst [.int s.1,.int s.2.1,.ptr b]):=(h.x l.length a b s (by rw[<-q1];exact bB) (by rw[<-q2];exact bB) bB).1
 dsimp only at this
 rw[gp_c (fun e=>d1 e.symm),fO e] at this
 exact this
theorem FrSt.push {s:FrA α} {a b:Addr} (h:FrSt φ G0 G fl xs ys gs l) (nb:G b=none) (na:G a=none) (hab:a≠b):FrSt φ G0 (gput (gput (gput G b (.lst (s.2.2.map φ))) a (.lst [.int s.1,.int s.2.1,.ptr b])) fl (.lst (xs.map T.ptr++[.ptr a]))) fl (xs++[a]) (ys++[b]) gs (l++[s]):=by
 have nn:∀ c,G c=none->¬ (c∈fl::(xs++ys)\/c∈gs):=fun c e hm=>by
  obtain ⟨ts,z⟩:=h.has hm
  rw[e] at z;cases z
 have na':=nn a na
 have nb':=nn b nb
 simp only[aG,aI,bM] at na' nb'
 obtain ⟨⟨fa,xa,ya⟩,ga⟩:=na'
 obtain ⟨⟨fb,xb,yb⟩,gb⟩:=nb'
 have nd:=cQ.mp h.nd
 have ndx:=dP.mp nd.2
 have hf:=nd.1
 simp only[aI,bM] at hf
 have ks:∀ c,c≠fl->c≠a->c≠b->gput (gput (gput G b (.lst (s.2.2.map φ))) a (.lst [.int s.1,.int s.2.1,.ptr b])) fl (.lst (xs.map T.ptr++[.ptr a])) c=G c:=fun c h0 h1 h2=>by rw[gp_n h0,gp_n h1,gp_n h2]
 have h1:=h.lx
 have h2:=h.ly
 refine ⟨by rw[gp_s,aJ];rfl,by simp[h1],by simp[h2],fun i x y t ex ey et=>?_,fun c hc=>?_,?_,fun c hc hg=>?_,fun c hc=>?_⟩
 .rcases cG et with ⟨i1,et⟩|⟨i1,rfl⟩
  .rcases cG ex with ⟨j,ex⟩|⟨i2,j⟩
   .rcases cG ey with ⟨j,ey⟩|⟨i3,j⟩
    .have mx:=dW ex
     have my:=dW ey
     rw[ks x (fun e=>hf.1 (e▸mx)) (fun e=>xa (e▸mx)) (fun e=>xb (e▸mx)),ks y (fun e=>hf.2 (e▸my)) (fun e=>ya (e▸my)) (fun e=>yb (e▸my))]
     exact h.x i x y t ex ey et
    .lia
   .lia
  .rcases cG ex with ⟨i2,j⟩|⟨j,rfl⟩
   .lia
   .rcases cG ey with ⟨i3,j⟩|⟨j,rfl⟩
    .lia
    .exact ⟨by rw[gp_n fa];exact gp_s,by rw[gp_n fb,gp_n (fun e=>hab e.symm)];exact gp_s⟩
 .by_cases hcf:c=fl
  .rw[hcf];exact ⟨_,gp_s⟩
  .rw[ks c hcf (fun e=>ga (e▸hc)) (fun e=>gb (e▸hc))];exact h.g c hc
 .rw[cQ]
  refine ⟨?_,?_⟩
  .simp only[aI,aU,bM]
   exact ⟨⟨hf.1,fun e=>fa e.symm⟩,hf.2,fun e=>fb e.symm⟩
  .rw[dP,dP,dP]
   refine ⟨⟨ndx.1,by simp,fun c hc d hd e=>xa (by rw[<-aU.mp hd,<- e];exact hc)⟩,⟨ndx.2.1,by simp,fun c hc d hd e=>yb (by rw[<-aU.mp hd,<- e];exact hc)⟩,fun c hc d hd e=>?_⟩
   subst e
   rcases aI.mp hc with hc|hc
   .rcases aI.mp hd with hd|hd
    .exact ndx.2.2 c hc c hd rfl
    .rw[aU.mp hd] at hc;exact xb hc
   .rw[aU.mp hc] at hd
    rcases aI.mp hd with hd|hd
    .exact ya hd
    .exact hab (aU.mp hd)
 .simp only[aG,aI,cp,cW,bM] at hc
  rw[ks c hc.1 hc.2.1.2 hc.2.2.2]
  exact h.old c (by simp only[aG,aI,bM];exact ⟨hc.1,hc.2.1.1,hc.2.2.1⟩) hg
 .have bx:∀ c,G c=none->G0 c=none:=fun c e=>by
   have z:=nn c e
   rw[bM] at z
   rw[<-h.old c z.1 z.2];exact e
  rcases hc with hc|hc
  .simp only[aG,aI,cp,cW] at hc
   rcases hc with rfl|(hc|rfl)|(hc|rfl)
   .exact h.new c (.inl bi)
   .exact h.new c (.inl (bH _ (cU _ hc)))
   .exact bx c na
   .exact h.new c (.inl (bH _ (cP _ hc)))
   .exact bx c nb
  .exact h.new c (.inr hc)
theorem FrSt.pop {s:FrA α} {a b:Addr} (h:FrSt φ G0 G fl (xs++[a]) (ys++[b]) gs (l++[s])) (q1:xs.length=l.length) (q2:ys.length=l.length):FrSt φ G0 (gput G fl (.lst (xs.map T.ptr))) fl xs ys (a::b::gs) l:=by
 obtain ⟨d1,d2,d3,d4,d5,d6,d7⟩:=kh h.nd
 have nd:=cQ.mp h.nd
 have ndx:=dP.mp nd.2
 have hf:=nd.1
 simp only[aI,aU,bM] at hf
 have nx:=dP.mp ndx.1
 have ny:=dP.mp ndx.2.1
 refine ⟨gp_s,q1,q2,fun i x y t ex ey et=>?_,fun c hc=>?_,?_,fun c hc hg=>?_,fun c hc=>?_⟩
 .have mx:=dW ex
  have my:=dW ey
  have li:=(ba.mp et).1
  rw[gp_n (fun e=>hf.1.1 (by rw[<-e];exact mx)),gp_n (fun e=>hf.2.1 (by rw[<-e];exact my))]
  exact h.x i x y t (by rw[cL (by lia)];exact ex) (by rw[cL (by lia)];exact ey) (by rw[cL li];exact et)
 .by_cases hcf:c=fl
  .rw[hcf];exact ⟨_,gp_s⟩
  .rw[gp_n hcf]
   rcases aG.mp hc with rfl|hc
   .exact h.has (.inl (by simp))
   .rcases aG.mp hc with rfl|hc
    .exact h.has (.inl (by simp))
    .exact h.g c hc
 .rw[cQ,dP]
  refine ⟨by simp only[aI,bM];exact ⟨hf.1.1,hf.2.1⟩,nx.1,ny.1,fun c hc d hd e=>ndx.2.2 c (cU _ hc) d (cU _ hd) e⟩
 .simp only[aG,aI,bM] at hc hg
  rw[gp_n hc.1]
  exact h.old c (by simp only[aG,aI,cp,cW,bM];exact ⟨hc.1,⟨hc.2.1,hg.1⟩,hc.2.2,hg.2.1⟩) hg.2.2
 .rcases hc with hc|hc
  .refine h.new c (.inl ?_)
   simp only[aG,aI] at hc ⊢
   rcases hc with hc|hc|hc
   .exact .inl hc
   .exact .inr (.inl (.inl hc))
   .exact .inr (.inr (.inl hc))
  .rcases aG.mp hc with rfl|hc
   .exact h.new c (.inl (by simp))
   .rcases aG.mp hc with rfl|hc
    .exact h.new c (.inl (by simp))
    .exact h.new c (.inr hc)
end
section
variable {P:Program} {w:World} {K:W.Frag} {G:GH} {a:Addr} {Γ:Ev} {k:T->GH->Prop} {kn:Ev->GH->Prop} {ts:List T} {gs:TGs} {y:T}
theorem oY {n:Nat} (e:G a=some (.lst ts)) (hl:ts.length=n) (h:Wgs P w K gs ts Γ G kn):Wg P w K (gLst K n gs) (.ptr a) Γ G kn:=fun H Z v g ev r R z=>by
 cases r
 obtain ⟨xs,h1,rs⟩:=g a _ e
 exact ⟨_,_,rfl,SqL.of h1,by rw[<-rs.length];exact hl,h H Z _ g ev rs R z⟩
theorem RepTs.dropLast {H:Hp} {ts:List T} {xs:List V} (r:RepTs K G H ts xs):RepTs K G H ts.dropLast xs.dropLast:=by
 rw[dropLast_eq_take,dropLast_eq_take,r.length];exact r.take _
theorem l_pop (e:G a=some (.lst (ts++[y]))) (h:k y (gput G a (.lst ts))):LBr P w K rPop (.ptr a) [] G k:=fun H u vs g r1 r2 Q z=>by
 cases r1;cases r2
 obtain ⟨xs,h1,rs⟩:=g a _ e
 have hl:=rs.length
 rw[ax,dq] at hl
 obtain ⟨v,ev,rv⟩:=rs.get (i:=ts.length) bB
 have rd:=rs.dropLast
 rw[fV] at rd
 obtain ⟨g2,s2⟩:=g.putL (.inl ⟨_,e⟩) rd
 refine ⟨a,xs,v,rfl,rfl,h1,by rw[<-hl,Nat.add_sub_cancel];exact ev,z _ _ _ _ s2 g2 (rv.mono g s2) h⟩
end
end L2
namespace L2
open PySem
section
variable {G0 G:GH} {xs ys gs:List Addr} {l:List SF} {fl a b:Addr}
theorem lC {c:Ct} {x y:Addr} (h:gput G y c x=none):G x=none/\x≠y:=by
 have n:x≠y:=fun e=>by rw[e,gp_s] at h;cases h
 rw[gp_n n] at h
 exact ⟨h,n⟩
theorem FrI.sq {α:Type} {φ:α->T} {l:List (FrA α)} (h:FrI φ G0 G xs ys l) {x:T} {ts:List T} (e:SqI G0 x ts):SqI G x ts:=e.imp id fun ⟨a,h1,h2⟩=>⟨a,h1,by
 by_cases hb:a∈xs++ys
 .rw[h.new a hb] at h2;cases h2
 .rw[h.old a hb];exact h2⟩
def optT:Option (List SF)->T
 | none=>.non
 | some l=>.lst (l.map sfT)
theorem ZnY (ps:List (Int×Int)):eqD (.tup (ps.map pairD)) (.tup [])=decide (ps=[]):=by
 cases ps with
 | nil=>exact eqD_same.trans (by simp)
 | cons p ps=>exact (cy (fun z=>by injection z with z;cases z)).trans (by simp)
end
end L2
namespace L2
open PySem
theorem pb {P:Program} {w:World} {K:W.Frag} {G:GH} {k:T->GH->Prop} {ps:List (Int×Int)} (h:k (.bl (decide (ps=[]))) G):L2r P w K rEqD (.tup (ps.map prT)) (.tup []) G k:=by
 obtain ⟨h1,h2⟩:=uo ps
 have:=l_eqD (P:=P) (w:=w) (K:=K) (G:=G) (k:=k) (ds:=ps.map pairD) (es:=[]) h1 rfl (by lia) (by rw[ZnY];exact h)
 rw[su] at this
 exact this
end L2
end
section
namespace L2
open PySem
def wP (v:Int->Int) (ps:List (Int×Int)):Int:=(ps.map fun p=>p.1 * v p.2).sum
def wT (v:Int->Int) (t:List (Int×Int)):Int:=(t.map fun q=>q.2 * v q.1).sum
theorem sv (v : Int -> Int) (w x : Int) : ∀ t, wT v (addT t w x) = wT v t + x * v w
  | [] => by simp[addT, wT]
  | q :: r => by
    have ih:=sv v w x r
    unfold wT at ih ⊢
    rw[addT]
    split
    . rename_i h
      simp only[aS,ce]
      rw[<-h,nM]
      lia
    . simp only[aS, ce]
      rw[ih]
      lia
theorem k9 (v : Int -> Int) (n : Int) : ∀ (ps t : List (Int × Int)), wT v (aZ t ps n) = wT v t + n * wP v ps
  | [], t => by simp[aZ, wP]
  | p :: ps, t => by
    have ih:=k9 v n ps (addT t p.2 (p.1 * n))
    show wT v (aZ (addT t p.2 (p.1 * n)) ps n)=_
    rw[ih,sv]
    unfold wP
    rw[aS,ce,Int.mul_add,ie p.1 n,Int.mul_assoc]
    lia
theorem Zly {l m:List Int} (h:l.Perm m):l.sum=m.sum:=by
 induction h with
 | nil=>rfl
 | cons x _ ih=>rw[ce,ce,ih]
 | swap x y l=>simp only[ce];lia
 | trans _ _ h1 h2=>exact h1.trans h2
theorem rZ (v : Int -> Int) (t : List (Int × Int)) : ∀ ms : List Int, wP v (ci t ms) = (ms.map fun w => aP t w * v w).sum
  | [] => rfl
  | w :: ms => by
    have ih:=rZ v t ms
    unfold ci wP at ih ⊢
    rw[filter_cons]
    split
    . rw[aS, aS, ce, ih, aS, ce]
    . rename_i h
      have h:aP t w=0:=by simpa using h
      rw[ih,aS,ce,h]
      simp
theorem sY (v : Int -> Int) : ∀ t : List (Int × Int), (t.map (·.1)).Nodup -> ((t.map (·.1)).map fun w => aP t w * v w).sum = wT v t
  | [], _ => rfl
  | q :: t, h => by
    rw[aS,cQ] at h
    have ih:=sY v t h.2
    unfold wT at ih ⊢
    rw[aS,aS,ce,aS,ce,<- ih]
    congr 1
    . rw[aP, ah rfl]
    . congr 1
      refine map_congr_left fun w hw=>?_
      rw[aP, ai (fun e : q.1 = w => h.1 (by rw[e]; exact hw))]
theorem wP_wn (v:Int->Int) {t:List (Int×Int)} (h:(t.map (·.1)).Nodup):wP v (ci t (sortI (t.map (·.1))))=wT v t:=by
 rw[rZ,Zly ((gW _).map _),sY v t h]
def undV (ws:List Int) (w:Int):Int:=ws.getD w.toNat 0
def undF (ws:List Int) (g:Fm):Int:=g.1+wP (undV ws) g.2
theorem tq (ws:List Int) (f g:Fm) (n:Int):undF ws (bO f g n)=undF ws f+n * undF ws g:=by
 have n1:((aZ (aZ [] f.2 1) g.2 n).map (·.1)).Nodup:=cZ _ _ (cZ _ _ (t:=[]) cV)
 unfold bO wnF undF
 dsimp only
 rw[wP_wn _ n1,k9,k9,Int.mul_add]
 show _=_
 have:wT (undV ws) []=0:=rfl
 rw[this]
 lia
theorem ZjS (ws:List Int) (f:Fm) (n:Int):undF ws (fG f n)=undF ws f * n:=by
 have n1:((aZ [] f.2 n).map (·.1)).Nodup:=cZ _ _ (t:=[]) cV
 unfold fG wnF undF
 dsimp only
 rw[wP_wn _ n1,k9,nM]
 have:wT (undV ws) []=0:=rfl
 rw[this,ie n]
 lia
def undS (ws:List Int) (s:SF):FrA Int:=(s.1,s.2.1,s.2.2.map (undF ws))
def goI (Q : List Df) (f : List (FrA Int)) (s : FrA Int) (r : Rw) : List (FrA Int) := match r.calc s.2.2 with
  | some (p, v) => f ++ [(s.1, s.2.1 + 1, setAt s.2.2 p v)]
  | none => match r with
    | .jump t => f ++ [(s.1, t, s.2.2)]
    | .zero p t => f ++ [(s.1, if bP s.2.2 p = 0 then t else s.2.1 + 1, s.2.2)]
    | .below p t => f ++ [(s.1, if bP s.2.2 p < 0 then t else s.2.1 + 1, s.2.2)]
    | .call _ g qs => f ++ [s, (g, 0, qs.map (bP s.2.2) ++ List.replicate (dQ Q g - qs.length).toNat 0)]
    | .back p => match f.getLast? with
      | some c => f.dropLast ++ [(c.1, c.2.1 + 1, setAt c.2.2 ((cX Q c.1 c.2.1).map Rw.cbox |>.getD 0) (bP s.2.2 p))]
      | none => f ++ [s]
    | _ => f ++ [s]
theorem fk (ws:List Int) (s:SF) (q:Int):undF ws (gtF s q)=bP (undS ws s).2.2 q:=by
 unfold gtF bP undS
 dsimp only
 rw[eA,eA,aq]
 cases s.2.2[q.toNat]? <;> rfl
theorem iJ (ws:List Int) (f:List SF) (s:SF) (p:Int) (g:Fm):(eV f s p g).map (undS ws)=f.map (undS ws)++[(s.1,s.2.1+1,setAt (undS ws s).2.2 p (undF ws g))]:=by
 unfold eV
 rw[aJ]
 congr 1
 show [(s.1,s.2.1+1,(s.2.2.set p.toNat g).map (undF ws))]=_
 rw[gI]
 rfl
theorem oP (ws:List Int) {g:Fm} (h:g.2=[]):undF ws g=g.1:=by
 unfold undF
 rw[h]
 show g.1+0=g.1
 lia
theorem Zj1 {Q:List Df} {f:List SF} {s:SF} {r:Rw} {l:List SF} (ws:List Int) (hr:cX Q s.1 s.2.1=some r) (h:cB Q f s=some l):l.map (undS ws)=goI Q (f.map (undS ws)) (undS ws s) r:=by
 unfold cB at h
 rw[hr] at h
 cases r with
 | put a b=>cases h;rw[iJ,oP ws (g:=(b,[])) rfl];rfl
 | copy a b=>cases h;rw[iJ,fk];rfl
 | plus a b c=>cases h;rw[iJ,tq,fk,fk,Int.one_mul];rfl
 | less a b c =>
  cases h
  rw[iJ,tq,fk,fk]
  show _=_++[(_,_,setAt _ a (_ - _))]
  rw[Int.sub_eq_add_neg,Int.neg_mul,Int.one_mul]
  rfl
 | times a b c=>cases h;rw[iJ,ZjS,fk];rfl
 | take a=>cases h
 | tell a=>cases h
 | jump t=>cases h;unfold cM;rw[aJ];rfl
 | zero p t =>
  dsimp only [bW] at h
  split at h
  .rename_i e
   cases h
   unfold cM
   rw[aJ,<- oP ws e,fk]
   rfl
  .cases h
 | below p t =>
  dsimp only [bW] at h
  split at h
  .rename_i e
   cases h
   unfold cM
   rw[aJ,<- oP ws e,fk]
   rfl
  .cases h
 | call p g qs =>
  dsimp only [bW] at h
  split at h
  .cases h
   rw[aJ]
   show _++[undS ws s,undS ws (dB Q s g qs)]=_++_
   congr 3
   unfold dB undS
   dsimp only
   rw[aJ,map_map,nQ]
   congr 3
   exact map_congr_left fun q _=>fk ws s q
  .cases h
 | back p =>
  dsimp only [bW] at h
  unfold goI
  dsimp only [Rw.calc]
  rw[getLast?_map]
  cases e:f.getLast? with
  | none=>rw[e] at h;cases h
  | some c =>
   rw[e] at h
   cases h
   rw[iJ,fk,map_dropLast]
   rfl
theorem FrSt.side {α:Type} {φ:α->T} {G0 G:GH} {fl a:Addr} {xs ys gs:List Addr} {l:List (FrA α)} {c:Ct} (h:FrSt φ G0 G fl xs ys gs l) (n:¬ (a∈fl::(xs++ys)\/a∈gs)):FrSt φ (gput G0 a c) (gput G a c) fl xs ys gs l:=by
 rw[bM] at n
 have k:∀ b,b∈fl::(xs++ys)->b≠a:=fun b hb e=>n.1 (e▸hb)
 have k2:∀ b,b∈gs->b≠a:=fun b hb e=>n.2 (e▸hb)
 refine ⟨by rw[gp_n (k fl bi)];exact h.fr,h.lx,h.ly,fun i x y s e1 e2 e3=>?_,fun b hb=>by rw[gp_n (k2 b hb)];exact h.g b hb,h.nd,fun b hb hg=>?_,fun b hb=>?_⟩
 .rw[gp_n (k x (bH _ (cU _ (dW e1)))),gp_n (k y (bH _ (cP _ (dW e2))))]
  exact h.x i x y s e1 e2 e3
 .by_cases e:b=a
  .rw[e,gp_s,gp_s]
  .rw[gp_n e,gp_n e]
   exact h.old b hb hg
 .rw[gp_n (hb.elim (k b) (k2 b))]
  exact h.new b hb
theorem FrSt.noS {α:Type} {φ:α->T} {G0 G:GH} {fl a:Addr} {xs ys gs:List Addr} {l:List (FrA α)} {c:Ct} (h:FrSt φ G0 G fl xs ys gs l) (e:G0 a=some c):¬ (a∈fl::(xs++ys)\/a∈gs):=fun hb=>by
 rw[h.new a hb] at e
 cases e
theorem FrSt.noN {α:Type} {φ:α->T} {G0 G:GH} {fl a:Addr} {xs ys gs:List Addr} {l:List (FrA α)} (h:FrSt φ G0 G fl xs ys gs l) (e:G a=none):¬ (a∈fl::(xs++ys)\/a∈gs):=fun hb=>by
 obtain ⟨ts,z⟩:=h.has hb
 rw[e] at z
 cases z
theorem Sub.trans {G0 G1 G2:GH} (h:Sub G0 G1) (g:Sub G1 G2):Sub G0 G2:=fun b=>by
 rcases h b with e|⟨e,ts,e2⟩
 .rw[e];exact g b
 .rcases g b with e3|⟨e3,j⟩
  .exact .inr ⟨e,ts,by rw[<-e3];exact e2⟩
  .rw[e2] at e3;cases e3
theorem Sub.put {G0 G:GH} {a:Addr} {ts:List T} (h:Sub G0 G) (n:G0 a=Option.none):Sub G0 (gput G a (.lst ts)):=fun b=>by
 by_cases e:b=a
 .subst e;exact .inr ⟨n,ts,gp_s⟩
 .rw[gp_n e];exact h b
theorem Sub.rfl' {G:GH}:Sub G G:=fun j=>.inl rfl
theorem ZnV {G0 G1 G2 G:GH} {fl fl':Addr} {xs ys gs xs' ys' gs':List Addr} {l:List (FrA Int)} (h:FrSt T.int G0 G2 fl xs ys gs l) (kp:∀ b c,G2 b=some c->G b=some c) (h':FrSt T.int G1 G fl' xs' ys' gs' l):AlkS G 40 (.ptr fl') (.ptr fl):=by
 have l1:=h.lx
 have l2:=h.ly
 have l3:=h'.lx
 have l4:=h'.ly
 refine ⟨_,_,.inr ⟨.inr ⟨_,rfl,h'.fr⟩,.inr ⟨_,rfl,kp _ _ h.fr⟩⟩,by rw[af,af,l1,l3],fun j t u e1 e2=>?_⟩
 rw[aq] at e1 e2
 obtain ⟨x',ex',rfl⟩:=bc.mp e1
 obtain ⟨x,ex,rfl⟩:=bc.mp e2
 have hj:=(ba.mp ex).1
 have es:l[j]?=some (l[j]'(by lia)):=aC _
 obtain ⟨a1,a2⟩:=h.x j x _ _ ex (aC (by lia)) es
 obtain ⟨b1,b2⟩:=h'.x j x' _ _ ex' (aC (by lia)) es
 refine .inr ⟨_,_,.inr ⟨.inr ⟨_,rfl,b1⟩,.inr ⟨_,rfl,kp _ _ a1⟩⟩,rfl,fun i t u e1 e2=>?_⟩
 match i,e1,e2 with
 | 0,e1,e2=>cases e1;cases e2;exact nX (bD _)
 | 1,e1,e2=>cases e1;cases e2;exact nX (bD _)
 | 2,e1,e2 =>
  cases e1;cases e2
  refine .inr ⟨_,_,.inr ⟨.inr ⟨_,rfl,b2⟩,.inr ⟨_,rfl,kp _ _ a2⟩⟩,rfl,fun i t u e1 e2=>?_⟩
  rw[e1] at e2
  cases e2
  rw[aq] at e1
  obtain ⟨v,z,rfl⟩:=bc.mp e1
  exact nX (bD _)
 | i+3,e1,_=>cases e1
end L2
end
section
namespace L2
open PySem PySem.Spec PyProof.Rows
def rNeZ (K:W.Frag):R2:=fun x y H Q=>∃ a b xs,x=.ref a/\y=.ref b/\SqL K H a xs/\SqL K H b []/\Q (.bl (!decide (xs=[]))) H
theorem op_neZ {X:Cx} (hu:X.A.units+64 < cLine):OpR X (compareOp .NotEq) (rNeZ X.K):=by
 rintro pins s Z H x y v u Q I rx ry ⟨a,b,xs,rfl,rfl,ha,hb,q⟩
 by_cases hx:xs=[]
 .subst hx
  refine op_neL hu pins s Z H _ _ v u Q I rx ry ⟨a,b,[],[],[],[],rfl,rfl,ha,hb,jR,jR,rfl,rfl,by simp[D.deps],?_⟩
  rw[eqD_same]
  simpa using q
 .cases rx;cases ry
  obtain ⟨its,vx,ht,j⟩:=I.list ha
  obtain ⟨its',vy,ht',j⟩:=I.list hb
  have l1:=vx.length
  have l2:=vy.length
  have hl:its.length≠its'.length:=by
   have:0 < xs.length:=nR.mpr hx
   have l2:0=its'.length:=l2
   lia
  refine uY ht.isList ht'.isList (by simpa using hl) (by lia) _ _ _ _ (bj I q ?_)
  simp[hx]
def rEqE (K:W.Frag):R2:=fun x y H Q=>∃ a b xs,x=.ref a/\y=.ref b/\SqL K H a xs/\SqL K H b []/\xs≠[]/\Q (.bl false) H
theorem op_eqE {X:Cx} (hu:X.A.units+64 < cLine):OpR X (compareOp .Eq) (rEqE X.K):=by
 rintro pins s Z H x y v u Q I rx ry ⟨a,b,xs,rfl,rfl,ha,hb,hx,q⟩
 cases rx;cases ry
 obtain ⟨its,vx,ht,j⟩:=I.list ha
 obtain ⟨its',vy,ht',j⟩:=I.list hb
 have l1:=vx.length
 have l2:=vy.length
 have hl:its.length≠its'.length:=by
  have:0 < xs.length:=nR.mpr hx
  have l2:0=its'.length:=l2
  lia
 exact SeqAt.RcAt.lists_lengths ht.isList ht'.isList (by simpa using hl) (by lia) _ _ _ _ (bj I q rfl)
def rEqZ (K:W.Frag):R2:=fun x y H Q=>∃ a b xs,x=.ref a/\y=.ref b/\SqL K H a xs/\SqL K H b []/\Q (.bl (decide (xs=[]))) H
theorem op_eqZ {X:Cx} (hu:X.A.units+64 < cLine):OpR X (compareOp .Eq) (rEqZ X.K):=by
 rintro pins s Z H x y v u Q I rx ry ⟨a,b,xs,rfl,rfl,ha,hb,q⟩
 by_cases hx:xs=[]
 .subst hx
  refine op_eqL hu pins s Z H _ _ v u Q I rx ry ⟨a,b,[],[],[],[],rfl,rfl,ha,hb,jR,jR,rfl,rfl,by simp[D.deps],?_⟩
  rw[eqD_same]
  simpa using q
 .rw[aQ hx] at q
  exact op_eqE hu pins s Z H _ _ v u Q I rx ry ⟨a,b,xs,rfl,rfl,ha,hb,hx,q⟩
theorem k_eqZ {X:Cx} {K:W.Frag} (h:X.K=K) (hu:X.A.units+64 < cLine):OpR X (compareOp .Eq) (rEqZ K):=h▸op_eqZ hu
section
variable {P:Program} {w:World} {K:W.Frag} {G:GH} {k:T->GH->Prop} {x y:T} {ts:List T}
theorem l_eqZ (h1:SqI G x ts) (h2:SqI G y []) (h:k (.bl (decide (ts=[]))) G):L2r P w K (rEqZ K) x y G k:=fun H u v g r1 r2 Q z=>by
 obtain ⟨a,vs,rfl,rs,ha⟩:=cY g h1 r1
 obtain ⟨b,us,rfl,rs',hb⟩:=cY g h2 r2
 cases rs'
 refine ⟨a,b,vs,rfl,rfl,SqL.of ha,SqL.of hb,?_⟩
 have e:decide (vs=[])=decide (ts=[]):=by
  have:=rs.length
  cases vs <;> cases ts <;> simp_all
 rw[e]
 exact z.here g .bl h
end
def fstV (xs:Array Value):Int:=numOf (xs.getD 0 .none)
def sndV (xs:Array Value):Int:=numOf (xs.getD 1 .none)
def pOf (h : Heap) : Value -> Int × Int
  | .ref a => match h.get? a with
    | some o => match o.data with
      | .seq xs _ => (fstV xs, sndV xs)
      | _ => (0, 0)
    | none => (0, 0)
  | _ => (0, 0)
def IsP (h:Heap) (v:Value) (p:Int×Int):Prop:=∃ a o n t t',v=.ref a/\h.get? a=some o/\o.cls=.type "tuple"/\o.data=.seq #[.int p.1 t,.int p.2 t'] n
theorem IsP.at {h:Heap} {v:Value} {p:Int×Int} (i:IsP h v p):pOf h v=p:=by
 obtain ⟨a,o,n,t,t',rfl,e1,e2,e3⟩:=i
 simp only[pOf,e1,e3]
 rfl
def cd (M:Int) (p:Int×Int):Int:=p.1 * M+p.2
theorem mO {M:Int} {p q:Int×Int} (hp:(2 * p.2.natAbs:Int) < M) (hq:(2 * q.2.natAbs:Int) < M):cd M p < cd M q↔p.1 < q.1\/(p.1=q.1/\p.2 < q.2):=by
 unfold cd
 have key:∀ {x y:Int×Int},(2 * x.2.natAbs:Int) < M->(2 * y.2.natAbs:Int) < M->x.1 < y.1->x.1 * M+x.2 < y.1 * M+y.2:=by
  intro x y hx hy h
  have h1:(x.1+1) * M<=y.1 * M:=Int.mul_le_mul_of_nonneg_right (by lia) (by lia)
  rw[nM,Int.one_mul] at h1
  lia
 constructor
 .intro h
  rcases Int.lt_trichotomy p.1 q.1 with e|e|e
  .exact .inl e
  .rw[e] at h
   exact .inr ⟨e,by lia⟩
  .have:=key hq hp e
   lia
 .rintro (h|⟨e,h⟩)
  .exact key hp hq h
  .rw[e]
   lia
abbrev itO (x:Value) (f:Bool) (d:Addr) (i n ep:Nat) (p q:Value):Obj:={ cls:=.type "dict_itemiterator",data:=.fields #[x,.bool f,.ref d,.int i 0,.int n 0,.int ep 0,p,q] }
abbrev tuO (p q:Value):Obj:={ cls:=.type "tuple",data:=.seq #[p,q] }
def DEs (h:Heap) (d:Addr) (es:Array DictEntry) (ep:Nat):Prop:=∃ o,h.get? d=some o/\o.data=.dict es ep
def ItS (h:Heap) (it d S:Addr) (i n ep:Nat):Prop:=∃ x f p q,h.get? it=some (itO x f d i n ep p q)/\(x=.none\/∃ a o,x=rawInt (a:Nat)/\h.get? a=some o/\a≠it/\a≠S)
section
variable {P:Program} {w:World} {A:Around} {E:Value->Shared->Prop} {s:Shared}
theorem tF {it d S:Addr} {i ep:Nat} {es:Array DictEntry} {Q:Option Value->Shared->Prop} (hh:A.handled=none) (st:ItS s.heap it d S i es.size ep) (hS:S < s.heap.objs.size) (hd:DEs s.heap d es ep)
  (h1:∀ e h',es[i]?=some e->ItS h' it d S (i+1) es.size ep->h'.get? s.heap.objs.size=some (tuO e.key e.val)->h'.objs.size=s.heap.objs.size+1->(∀ b o,b≠it->s.heap.get? b=some o->h'.get? b=some o)->Q (some (.ref s.heap.objs.size)) { s with heap:=h' })
  (h2:es[i]?=none->∀ h',Heap.ExtBut it s.heap h'->Q none { s with heap:=h' }):wpAny (model P w) A (pyNext (.ref it)) Q E s:=by
 obtain ⟨hp,g,dr,tk,os⟩:=s
 obtain ⟨x,f,p,q,hit,hx⟩:=st
 obtain ⟨od,e1,e2⟩:=hd
 have ty:Shared.TypeIs ⟨hp,g,dr,tk,os⟩ (.ref it) "dict_itemiterator":=⟨_,hit,rfl⟩
 have own:Builtin.Dict_items.ownsTuple "dict_itemiterator"=true:=by decide
 have nn:¬ ((Value.ref d == Value.none)=true):=bA
 unfold pyNext
 refine ae (wpAny_attempt (nv (name:=Str.ofString "__next__") ty F.slot_dict_itemiterator_next (eT F.slot_dict_itemiterator_next ty F.entry_dict_itemiterator_next ?_ (F.args_dict_itemiterator_next_1 _))))
 refine ae (am (ae (ae (ae (qB ty (am (ae (wpAny_fieldsOf hit rfl ?_))))))))
 simp only[own,fR]
 show wpAny _ _ (if (Value.ref d == Value.none)=true then _ else _) _ _ _
 rw[ai nn]
 refine ae (am (ae (nS e1 e2 ?_)))
 rw[ai (by simp)]
 refine ae (am (ae (nT e1 e2 ?_)))
 rw[ai (by simp)]
 refine am ?_
 have ni:¬ ((i:Int) < 0):=by lia
 cases ei:es[i]? with
 | none =>
  simp only[ni,bY,cf,ei]
  refine ae (ae (qB ty (am ?_)))
  show wpAny _ _ (setField (.ref it) 2 .none >>= _) _ _ _
  refine ae (wpAny_setField hit rfl (by simp) ?_)
  show wpAny _ _ (newExc (.type "StopIteration") [] >>= _) _ _ _
  simp only[newExc,newTuple]
  refine ae (ae (dN ?_ (by size_fits)))
  refine ae (m:=firstArgMember _ _) (wpAny_of_eq (a:=Value.none) (by first|rfl|(simp only[firstArgMember];rfl)) (dN ?_ (by size_fits)))
  simp only[raiseNew]
  refine ae (wpAny_handled ?_)
  rw[show A.in1.handled=none from hh]
  refine ae (am (wpAny_throw ?_))
  refine ae (jx (T:="StopIteration") (b:=true) ⟨_,ck _ rfl,rfl⟩ isSubtype_stop ?_)
  exact am (h2 ei _ (((Heap.SameBut.update ..).extBut.push _).push _))
 | some e =>
  simp only[ni,bY,cf,ei]
  refine ae (ae (qB ty (am (ae (qC ty ?_)))))
  show wpAny _ _ (setField (.ref it) 3 (rawInt ((i:Int)+1)) >>= _) _ _ _
  refine ae (jC hit (by simp) fun ha a1 a2=>?_)
  replace a2:Heap.SameBut it hp ha:=a2
  replace a1:ha.get? it=some (itO x f d (i+1) es.size ep p q):=by
   have z:((i+1:Nat):Int)=(i:Int)+1:=by lia
   unfold itO;rw[z];simpa [rawInt] using a1
  have tya:Shared.TypeIs ⟨ha,g,dr,tk,os⟩ (.ref it) "dict_itemiterator":=⟨_,a1,rfl⟩
  refine ae (dm (ae (qC tya (ae (qC tya ?_)))))
  show wpAny _ _ (Builtin.Dict_items.pairFromOwner (.ref it) 6 e.key e.val) _ _ ⟨ha,g,dr,tk,os⟩
  unfold Builtin.Dict_items.pairFromOwner
  refine ae (wpAny_newTuple ?_)
  have az:ha.objs.size=hp.objs.size:=a2.1
  have il:it < hp.objs.size:=aV hit
  have il2:hp.objs.size≠it:=eS il
  have kb:∀ b o,b≠it->hp.get? b=some o->(ha.push (tuO e.key e.val)).get? b=some o:=fun b o hb z=>bt _ (a2.extBut b o hb z)
  have tb:(ha.push (tuO e.key e.val)).get? hp.objs.size=some (tuO e.key e.val):=by rw[<-az];exact ck _ rfl
  have sb:(ha.push (tuO e.key e.val)).objs.size=hp.objs.size+1:=by rw[qv,az]
  have ib:(ha.push (tuO e.key e.val)).get? it=some (itO x f d (i+1) es.size ep p q):=bt _ a1
  show wpAny _ _ (Builtin.Dict_items.ownedTupleIsFree (.ref it) >>= _) _ _ ⟨ha.push (tuO e.key e.val),g,dr,tk,os⟩
  rw[az]
  generalize ha.push (tuO e.key e.val)=hb at kb tb sb ib
  have fin:∀ hc x' f' p' q',hc.get? it=some (itO x' f' d (i+1) es.size ep p' q')->Heap.SameBut it hb hc->(x'=.none\/∃ a o,x'=rawInt (a:Nat)/\hc.get? a=some o/\a≠it/\a≠S)->Q (some (.ref hp.objs.size)) ⟨hc,g,dr,tk,os⟩:=fun hc x' f' p' q' c1 c2 c3 =>
   h1 e hc ei ⟨x',f',p',q',c1,c3⟩ (c2.extBut _ _ il2 tb) (c2.1.trans sb) fun b o hb z=>c2.extBut b o hb (kb b o hb z)
  refine ae ?_
  unfold Builtin.Dict_items.ownedTupleIsFree
  rcases hx with rfl|⟨a,oa,rfl,ga,n1,n2⟩
  .refine ae (fS ib rfl (x:=.none) rfl (am ?_))
   simp only[fR]
   refine ae (fS ib rfl (x:=p) rfl (ae (fS ib rfl (x:=q) rfl (ae (jC ib (by simp) fun hc c1 c2=>?_)))))
   replace c1:hc.get? it=some (itO .none f d (i+1) es.size ep e.key q):=c1
   replace c2:Heap.SameBut it hb hc:=c2
   refine ae (jC c1 (by simp) fun hd d1 d2=>?_)
   replace d1:hd.get? it=some (itO .none f d (i+1) es.size ep e.key e.val):=d1
   replace d2:Heap.SameBut it hc hd:=d2
   refine ae (jC d1 (by simp) fun he e1 e2=>?_)
   replace e1:he.get? it=some (itO (rawInt hp.objs.size) f d (i+1) es.size ep e.key e.val):=e1
   replace e2:Heap.SameBut it hd he:=e2
   refine ae (jC e1 (by simp) fun hf f1 f2=>?_)
   replace f1:hf.get? it=some (itO (rawInt hp.objs.size) false d (i+1) es.size ep e.key e.val):=f1
   replace f2:Heap.SameBut it he hf:=f2
   have sm:Heap.SameBut it hb hf:=⟨by rw[f2.1,e2.1,d2.1,c2.1],fun b z=>by rw[f2.2 b z,e2.2 b z,d2.2 b z,c2.2 b z]⟩
   exact ae (wpAny_letGo (am (am ⟨_,rfl,am (fin hf _ _ _ _ f1 sm (.inr ⟨_,_,rfl,sm.extBut _ _ il2 tb,il2,eS hS⟩))⟩)))
  .refine ae (fS ib rfl (x:=rawInt a) rfl ?_)
   show wpAny _ _ (loadIfAlive ((a:Int).toNat) >>= _) _ _ _
   rw[cf]
   have gb:=kb a oa n1 ga
   refine ae (PySem.W.kdx_alive gb ?_)
   simp only[Option.isNone_some,cu,bY]
   refine ae (fS ib rfl (x:=.bool f) rfl ?_)
   cases f with
   | true =>
    rw[ai (show ¬ ((Value.bool true != Value.bool true)=true) from bA)]
    refine am ?_
    simp only[cu,bY]
    exact am (am ⟨_,rfl,am (fin hb _ _ _ _ ib (Heap.SameBut.refl _ _) (.inr ⟨a,oa,rfl,gb,n1,n2⟩))⟩)
   | false =>
    rw[ah (show (Value.bool false != Value.bool true)=true from rfl)]
    refine ae (jC ib (by simp) fun hc c1 c2=>?_)
    replace c1:hc.get? it=some (itO (rawInt a) true d (i+1) es.size ep p q):=c1
    replace c2:Heap.SameBut it hb hc:=c2
    refine am ?_
    simp only[cu,bY]
    exact am (am ⟨_,rfl,am (fin hc _ _ _ _ c1 c2 (.inr ⟨a,oa,rfl,c2.extBut _ _ n1 gb,n1,n2⟩))⟩)
def Got (es:Array DictEntry) (lw:Addr) (h:Heap) (as:List Addr):Prop:=∀ (j:Nat) (a:Addr),as[j]?=some a->lw < a/\∃ e,es[j]?=some e/\h.get? a=some (tuO e.key e.val)
theorem DEs.keep {h h':Heap} {d:Addr} {es:Array DictEntry} {ep:Nat} (x:DEs h d es ep) (k:∀ o,h.get? d=some o->h'.get? d=some o):DEs h' d es ep:=let ⟨o,e,r⟩:=x;⟨o,k o e,r⟩
theorem ZnS {S I d:Addr} {ep:Nat} {es:Array DictEntry} {R:Result->Shared->Prop} (hh:A.handled=none) (hSI:S < I) (hSd:d≠S) (hId:d≠I) (hn:es.size<=sizeLine) (res:Value) {h0:Heap}
  (hR:∀ h' tk acc c as,(∀ b o,b≠S->b≠I->h0.get? b=some o->h'.get? b=some o)->h'.get? S=some { cls:=.type "list",data:=.seq acc c }->as.length=es.size->Got es I h' as->acc.toList=as.map Value.ref->R (.ok (.ret res)) { s with heap:=h',toks:=tk }) :
  ∀ (k:Nat) (h:Heap) (tk c:Nat) (acc:Array Value) (as:List Addr),es.size - as.length=k->as.length<=es.size->ItS h I d S as.length es.size ep->DEs h d es ep->(∀ b o,b≠S->b≠I->h0.get? b=some o->h.get? b=some o) ->
   h.get? S=some { cls:=.type "list",data:=.seq acc c }->acc.toList=as.map Value.ref->Got es I h as->I < h.objs.size->codeAny (model P w) A (.builtin "list.extend.loop" ⟨[.ref S,.ref I,res],[]⟩) R { s with heap:=h,toks:=tk }:=by
 have hne:S≠I:=bK hSI
 intro k
 induction k with
 | zero =>
  intro h tk c acc as hk hi st hd kp hS ha hg hI
  refine nU F.entry_extend_loop ?_
  rw[nV F.plain_extend_loop _]
  show wpAny _ A.in1 (pyNext (.ref I) >>= _) _ _ _
  refine ae (tF (s:={ s with heap:=h,toks:=tk }) (A:=A.in1) hh st (aV hS) hd (fun e y ei=>?_) fun y h' he=>?_)
  .have:=(u9.mp ei).1
   lia
  .exact am (hR h' tk acc c as (fun b o h1 h2 e=>he b o h2 (kp b o h1 h2 e)) (he S _ hne hS) (by lia) (fun j a hj=>let ⟨q,e,e1,e2⟩:=hg j a hj;⟨q,e,e1,he a _ (eS q) e2⟩) ha)
 | succ k ih =>
  intro h tk c acc as hk hi st hd kp hS ha hg hI
  have hsz:acc.size=as.length:=by rw[<-dL,ha,af]
  have hSl:S < h.objs.size:=aV hS
  refine nU F.entry_extend_loop ?_
  rw[nV F.plain_extend_loop _]
  show wpAny _ A.in1 (pyNext (.ref I) >>= _) _ _ _
  refine ae (tF (s:={ s with heap:=h,toks:=tk }) (A:=A.in1) hh st (aV hS) hd (fun e h' ei st' ht hz hk'=>?_) fun ei=>?_)
  .dsimp only at ht hz hk' ⊢
   have hS':=hk' S _ hne hS
   have up:∀ b o,b≠S->h'.get? b=some o->(h'.update S (Obj.mapSeq (·.push (Value.ref h.objs.size)))).get? b=some o:=fun b o hb z=>(kI _ _ (Ne.symm hb)).trans z
   show wpAny _ A.in1 (updateSeq S (·.push (Value.ref h.objs.size)) >>= _) _ _ _
   have hl:(as++[h.objs.size]).length=as.length+1:=by rw[ax];rfl
   refine ae (wpAny_updateSeq hS' rfl (am ⟨nW F.plain_extend_loop _,ih _ tk _ (acc.push (Value.ref h.objs.size)) (as++[h.objs.size]) (by rw[hl];lia) (by rw[hl];lia) ?_ (hd.keep fun o z=>up d o hSd (hk' d o hId z))
    (fun b o n1 n2 z=>up b o n1 (hk' b o n2 (kp b o n1 n2 z))) (kH _ hS' rfl) (by rw[Array.toList_push,ha,aJ];rfl) (fun j a hj=>?_) ?_⟩) (by rw[hsz];lia) (by show (acc.push (Value.ref h.objs.size)).size<=sizeLine+1;rw[Array.size_push,hsz];lia))
   .rw[hl]
    obtain ⟨x,f,p,q,g1,g2⟩:=st'
    refine ⟨x,f,p,q,up _ _ (Ne.symm hne) g1,?_⟩
    rcases g2 with g2|⟨a,o,g2,g3,g4,g5⟩
    .exact .inl g2
    .exact .inr ⟨a,o,g2,up _ _ g5 g3,g4,g5⟩
   .by_cases hj2:j < as.length
    .rw[cL hj2] at hj
     obtain ⟨q,e,e1,e2⟩:=hg j a hj
     exact ⟨q,e,e1,up a _ (eS (dv hSI q)) (hk' a _ (eS q) e2)⟩
    .have hj3:=(ba.mp hj).1
     have ej:j=as.length:=by lia
     subst ej
     rw[bB] at hj
     cases hj
     exact ⟨hI,e,ei,up _ _ (eS hSl) ht⟩
   .have z:(h'.update S (Obj.mapSeq (·.push (Value.ref h.objs.size)))).get? h.objs.size=_:=up _ _ (eS hSl) ht
    exact dv hI (aV z)
  .have:=va.mp ei
   lia
theorem Zjn {r d:Addr} {ep:Nat} {es:Array DictEntry} {R:List Value->Shared->Prop} (hh:A.handled=none) (hv:s.heap.IsItemsView r d) (hd:DEs s.heap d es ep) (hn:es.size<=sizeLine)
  (h:∀ (h':Heap) (tk:Nat) (as:List Addr),(∀ b o,s.heap.get? b=some o->h'.get? b=some o)->as.length=es.size->Got es s.heap.objs.size h' as->R (as.map Value.ref) { s with heap:=h',toks:=tk }):wpAny (model P w) A (collect (.ref r)) R E s:=by
 have hr:r < s.heap.objs.size:=let ⟨_,e,_⟩:=hv;aV e
 have hdl:d < s.heap.objs.size:=let ⟨_,e,_⟩:=hd;aV e
 unfold collect
 refine ae (wpAny_runValue (nU entry_proto_collect' ?_))
 rw[nV F.plain_proto_collect _]
 show wpAny _ A.in1 (newList [] >>= fun l=>again (.builtin "list.__iadd__" ⟨[l,.ref r],[]⟩)) _ _ s
 refine ae (dN ?_)
 refine am ⟨nW F.plain_list_iadd _,nU entry_list_iadd' ?_⟩
 rw[nV F.plain_list_iadd _]
 generalize hh1:s.heap.push { cls:=.type "list",data:=.seq ([]:List Value).toArray }=h1
 have k1:∀ b o,s.heap.get? b=some o->h1.get? b=some o:=fun b o e=>by rw[<-hh1];exact bt _ e
 have hS:h1.get? s.heap.objs.size=some { cls:=.type "list",data:=.seq #[] }:=by rw[<-hh1];exact ck _ rfl
 have hz:h1.objs.size=s.heap.objs.size+1:=by rw[<-hh1,qv]
 have hv1:h1.IsItemsView r d:=let ⟨o,e,q⟩:=hv;⟨o,k1 _ _ e,q⟩
 obtain ⟨od,o1,o2⟩:=hd.keep (k1 d)
 show wpAny _ A.in1 (Builtin.List.listExtendWith (.ref s.heap.objs.size) (.ref r) (.ref s.heap.objs.size)) _ _ { s with heap:=h1 }
 generalize hSS:s.heap.objs.size=S at hS hz hr hdl h
 have hS1:S < h1.objs.size:=aV hS
 have bS:∀ b o,s.heap.get? b=some o->b < S:=fun b o e=>hSS▸aV e
 have fin:∀ (h2:Heap) (c tk:Nat),(∀ b o,b≠S->(h1.push (itO .none false d 0 es.size ep .none .none)).get? b=some o->h2.get? b=some o)->h2.get? S=some { cls:=.type "list",data:=.seq #[] c } ->
   codeAny (model P w) A (.builtin "list.extend.loop" ⟨[.ref S,.ref h1.objs.size,.ref S],[]⟩) (fun q s'=>∃ (h':Heap) (tk':Nat) (acc:Array Value) (c':Nat) (as:List Addr),q=.ok (.ret (.ref S))/\s'={ s with heap:=h',toks:=tk' }/\(∀ b o,s.heap.get? b=some o->h'.get? b=some o)/\h'.get? S=some { cls:=.type "list",data:=.seq acc c' }/\as.length=es.size/\Got es S h' as/\acc.toList=as.map Value.ref) { s with heap:=h2,toks:=tk }:=by
  intro h2 c tk kk hS2
  have hI:=kk h1.objs.size _ (eS hS1) (ck _ rfl)
  refine ZnS (s:=s) (h0:=h1) hh hS1 (bK hdl) (bK (dv hdl hS1)) hn (.ref S) (fun h' tk' acc c' as q1 q2 q3 q4 q5=>⟨h',tk',acc,c',as,rfl,rfl,fun b o e=>q1 b o (bK (bS b o e)) (bK (dv (bS b o e) hS1)) (k1 b o e),q2,q3,fun j a hj=>⟨dv hS1 (q4 j a hj).1,(q4 j a hj).2⟩,q5⟩)
   es.size h2 tk c #[] [] (nP _) (bD _) ⟨.none,false,.none,.none,hI,.inl rfl⟩ ⟨od,kk d od (bK hdl) (bt _ o1),o2⟩ (fun b o n1 z e=>kk b o n1 (bt _ e)) hS2 rfl (fun j a hj=>by cases hj) (aV hI)
 unfold Builtin.List.listExtendWith
 refine ae (kG (T:="dict_items") (s:={ s with heap:=h1 }) hv1.typeIs ?_)
 have x1:Builtin.List.listSameRef (.ref S) (.ref r)=false:=by simp[Builtin.List.listSameRef,eS hr]
 have x2:(Value.type "dict_items" == Value.type "list")=false:=by decide
 have x3:(Value.type "dict_items" == Value.type "tuple")=false:=by decide
 simp only[x1,x2,x3,Bool.or_false,cu,bY]
 refine ae ?_
 obtain ⟨ov,v1,v2,v3⟩:=hv1
 refine wpAny_pyIter_slot (s:={ s with heap:=h1 }) (T:="dict_items") ⟨ov,v1,v2⟩ F.slot_dict_items_iter (eT F.slot_dict_items_iter ⟨ov,v1,v2⟩ F.entry_dict_items_iter ?_ (F.args_dict_items_iter_1 _))
 unfold Builtin.«dict_items.__iter__»
 refine ae (am (ae ?_))
 unfold Builtin.Dict_items.dictOf
 refine ae (fS v1 v3 (x:=.ref d) rfl (am (ae ?_)))
 unfold Builtin.Dict_items.newIterator
 refine ae (nS o1 o2 (ae (nT o1 o2 ?_)))
 have own:Builtin.Dict_items.ownsTuple "dict_itemiterator"=true:=by decide
 simp only[own,fR]
 refine dN (am ⟨_,rfl,"dict_itemiterator",_,⟨_,ck _ rfl,rfl⟩,F.slot_dict_itemiterator_next.lookup,?_⟩) (by simp only[sizeOk,Builtin.Dict_items.ownedTupleFields,bu,ax,cm,gF,sizeLine_eq];lia)
 show wpAny _ _ _ _ _ { s with heap:=h1.push (itO .none false d 0 es.size ep .none .none) }
 have gS:=bt (itO .none false d 0 es.size ep .none .none) hS
 have ld:∀ (h':Heap) (tk':Nat) (acc:Array Value) (c':Nat) (as:List Addr),(∀ b o,s.heap.get? b=some o->h'.get? b=some o)->h'.get? S=some { cls:=.type "list",data:=.seq acc c' }->as.length=es.size->Got es S h' as->acc.toList=as.map Value.ref->R acc.toList { s with heap:=h',toks:=tk' }:=fun h' tk' acc c' as e3 e4 e5 e6 e7=>by
  rw[e7]
  exact h h' tk' as e3 e5 e6
 refine ae (dm (PySem.W.kdx_hint (s:={ s with heap:=h1.push (itO .none false d 0 es.size ep .none .none) }) ⟨ov,bt _ v1,v2⟩ ?_))
 refine wpAny_ite_split (fun z=>?_) (fun z=>am ⟨nW F.plain_extend_loop _,kB (fin _ 0 _ (fun b o z e=>e) gS) ?_⟩)
 .refine ae (fU (ae ?_))
  show wpAny _ _ (updateSeq S (·.push .none) >>= fun z=>updateSeq S (·.pop)) _ _ _
  refine ae (wpAny_updateSeq gS rfl ?_)
  have g2:=kH (Obj.mapSeq (·.push Value.none)) gS rfl
  refine wpAny_updateSeq (hz:=by seq_fits) g2 rfl ?_
  have g3:=kH (Obj.mapSeq (·.pop)) g2 rfl
  refine am ⟨nW F.plain_extend_loop _,kB (fin _ _ _ (fun b o hb e=>(kI _ _ (Ne.symm hb)).trans ((kI _ _ (Ne.symm hb)).trans e)) g3) ?_⟩
  rintro q s' ⟨h',tk',acc,c',as,rfl,rfl,e3,e4,e5,e6,e7⟩
  exact ae (wpAny_load e4 (am (ld h' tk' acc c' as e3 e4 e5 e6 e7)))
 .rintro q s' ⟨h',tk',acc,c',as,rfl,rfl,e3,e4,e5,e6,e7⟩
  exact ae (wpAny_load e4 (am (ld h' tk' acc c' as e3 e4 e5 e6 e7)))
end
end L2
end
section
namespace L2
open PySem PySem.Spec PyProof.Rows PySem.Builtin PySem.Builtin.Str
section
variable {X:Cx}
def rAddS:R2:=fun x y H Q=>∃ i j,x=.str i/\y=.str j/\i.length+j.length<=sizeLine/\Q (.str (i++j)) H
theorem ZnF:OpR X (binaryOp .Add) rAddS:=Zjc
end
end L2
end
section
namespace L2
open PySem PySem.Spec PyProof.Rows PySem.Builtin PySem.Builtin.Str PySem.NumText
abbrev cs (z:Str):List Nat:=z.cps.toList
theorem cs_inj {x y:Str} (h:cs x=cs y):x=y:=by
 obtain ⟨a⟩:=x
 obtain ⟨b⟩:=y
 have:a=b:=Array.toList_inj.mp h
 rw[this]
theorem dJ (x y:Str):cs (x++y)=cs x++cs y:=cps_toList_append x y
theorem gr (x:Str):(cs x).length=x.length:=dL
theorem l7 (x y:Str):(x++y).length=x.length+y.length:=by
 rw[<-gr,<- gr,<- gr,dJ,ax]
theorem ur (s : Str) : ∀ {a b : List Str}, a ≠ [] -> b ≠ [] -> Str.join s (a ++ b) = Str.join s a ++ s ++ Str.join s b
  | [], _, h, _ => absurd rfl h
  | [x], [], _, h => absurd rfl h
  | [x], y :: b, _, _ => rfl
  | x :: y :: a, b, _, hb => by
    show x++s++Str.join s (y::a++b)=x++s++Str.join s (y::a)++s++Str.join s b
    rw[ur s (cons_ne_nil y a) hb]
    apply cs_inj
    simp only[dJ, eh]
def numS (n:Int):Str:=toString n
def figs (m:Nat):List Nat:=(Nat.toDigits 10 m).map Char.toNat
theorem cs_num (m:Nat):cs (numS (m:Int))=figs m:=PySem.W.KIN.signs_num m
theorem cs_neg (m:Nat):cs (numS (-((m+1:Nat):Int)))=45::figs (m+1):=by
 show (Str.ofString (toString (Int.negSucc m))).cps.toList=_
 rw[signs_ofString]
 show (("-"++Nat.repr (m+1):String)).toList.map Char.toNat=_
 rw[String.toList_append,aJ,Nat.toList_repr]
 rfl
theorem lK (m:Nat):AllDigits (figs m):=by
 intro c hc
 obtain ⟨ch,hch,e⟩:=bg.mp hc
 rw[<-e]
 exact digit_range (Nat.isDigit_of_mem_toDigits (by decide) (by decide) hch)
theorem Zl7 {m:Nat} (h:10<=m):figs m=figs (m / 10)++figs (m % 10):=by
 have t:Nat.toDigits 10 (m / 10)++Nat.toDigits 10 (m % 10)=Nat.toDigits 10 (10 * (m / 10)+m % 10):=Nat.toDigits_append_toDigits (by decide) (by lia) (Nat.mod_lt m (by decide))
 rw[Nat.div_add_mod] at t
 unfold figs
 rw[<-t,aJ]
theorem sj:∀ m:Nat,m < 10->figs m=[48+m]:=by decide
theorem sW:∀ (k m:Nat),0 < k->m < 10 ^ k->(figs m).length<=k:=by
 intro k
 induction k with
 | zero=>intro m h;exact absurd h (fQ _)
 | succ k ih =>
  intro m j hm
  by_cases h:m < 10
  .rw[sj m h]
   exact Nat.le_add_left _ _
  .rw[Zl7 (by lia),ax,sj _ (Nat.mod_lt m (by decide))]
   cases k with
   | zero=>lia
   | succ k =>
    have:=ih (m / 10) (Nat.succ_pos _) (by rw[Nat.div_lt_iff_lt_mul (by decide)];rw[Nat.pow_succ] at hm;exact hm)
    show _+1<=_
    lia
theorem mi (m:Nat):digitsVal (figs m)=m:=PySem.W.KIN.val_back m
theorem lO (n:Int):(∃ m:Nat,n=m/\cs (numS n)=figs m)\/∃ m:Nat,0 < m/\n=-(m:Int)/\cs (numS n)=45::figs m:=by
 rcases Int.lt_or_le n 0 with h|h
 .right
  refine ⟨n.natAbs,by lia,by lia,?_⟩
  have e:n=-(((n.natAbs - 1)+1:Nat):Int):=by lia
  have e2:n.natAbs=n.natAbs - 1+1:=by lia
  rw[show cs (numS n)=cs (numS (-(((n.natAbs - 1)+1:Nat):Int))) by rw[<-e],cs_neg,<- e2]
 .left
  obtain ⟨m,rfl⟩:=Int.eq_ofNat_of_zero_le h
  exact ⟨m,rfl,cs_num m⟩
theorem rq (n:Int):∀ c∈cs (numS n),c=45\/(48<=c/\c<=57):=by
 intro c hc
 rcases lO n with ⟨m,j,e⟩|⟨m,j,j,e⟩
 .rw[e] at hc
  exact .inr (lK m c hc)
 .rw[e] at hc
  rcases aG.mp hc with z|z
  .exact .inl z
  .exact .inr (lK m c z)
end L2
end
section
namespace L2
open PySem PySem.Spec PyProof.Rows
mutual
def shT:T->Str
 | .int i=>toString i
 | .tup ts=>tupleText (shTs ts)
 | .lst ts=>listText (shTs ts)
 | _=>"None"
def shTs:List T->List Str
 | []=>[]
 | t::ts=>shT t::shTs ts
end
mutual
def lnT:T->Nat
 | .tup ts=>lnTs ts+4
 | .lst ts=>lnTs ts+4
 | _=>100
def lnTs:List T->Nat
 | []=>0
 | t::ts=>lnT t+2+lnTs ts
end
def PlT:Nat->T->Prop
 | 0,t=>∃ i,t=.int i/\i.natAbs < 10 ^ 90
 | n+1,t=>(∃ i,t=.int i/\i.natAbs < 10 ^ 90)\/∃ ts,(t=.tup ts\/t=.lst ts)/\∀ u∈ts,PlT n u
theorem kt {B : Nat} : ∀ {ts : List T}, (∀ t ∈ ts, lnT t <= B) -> lnTs ts <= ts.length * (B + 2)
  | [], _ => bD _
  | t :: ts, h => by
    have h1:=h t bi
    have h2:=kt (ts:=ts) fun u hu=>h u (bH _ hu)
    rw[lnTs,cm,nA]
    lia
theorem rE : ∀ (ts : List Str) (k : Nat) (acc : Str), cs (textFrom (k + 1) acc ts) = cs acc ++ (ts.map fun t => 44 :: 32 :: cs t).flatten
  | [], _, acc => by rw[textFrom]; simp
  | t :: ts, k, acc => by
    rw[textFrom,rE ts (k+1),ah (Nat.succ_pos k),dJ,dJ,aS,gE]
    show cs acc++[44,32]++cs t++_=_
    simp
theorem qO (ts:List Str):cs (listText ts)=91::(match ts with|[]=>[]|t::r=>cs t++(r.map fun t=>44::32::cs t).flatten)++[93]:=by
 unfold listText
 rw[dJ]
 cases ts with
 | nil=>rfl
 | cons t r =>
  rw[textFrom,rE,ai (fQ 0),dJ,dJ]
  show [91]++[]++cs t++_++[93]=_
  simp
theorem rT : ∀ (ts : List Str), (Str.join ", " ts).length <= (ts.map fun t => t.length + 2).sum
  | [] => bD _
  | [t] => by rw[aS, ce]; show t.length <= _; lia
  | t :: u :: r => by
    have h:=rT (u::r)
    have e:Str.join ", " (t::u::r)=t++", "++Str.join ", " (u::r):=ur _ (a:=[t]) (cons_ne_nil _ _) (cons_ne_nil _ _)
    rw[e,l7,l7,aS,ce]
    have:(", ":Str).length=2:=rfl
    lia
theorem o8 (ts:List Str):(listText ts).length<=(ts.map fun t=>t.length+2).sum+4:=by
 rw[<-gr,qO]
 cases ts with
 | nil=>simp
 | cons t r =>
  have:∀ r:List Str,((r.map fun t=>44::32::cs t).flatten).length=(r.map fun t=>t.length+2).sum:=fun r=>by
   induction r with
   | nil=>rfl
   | cons a r ih=>rw[aS,gE,ax,ih,aS,ce,cm,cm,gr]
  rw[ax,cm,ax,this,gr,aS,ce]
  simp
  lia
theorem mI (ts:List Str):(tupleText ts).length<=(ts.map fun t=>t.length+2).sum+4:=by
 unfold tupleText
 have:=rT ts
 rw[l7,l7]
 have h1:("(":Str).length=1:=rfl
 have h2:((if ts.length == 1 then ",)" else ")":String):Str).length<=2:=by split <;> decide
 lia
theorem jL {i:Int} (h:i.natAbs < 10 ^ 90):(toString i:Str).length<=100:=by
 rcases lO i with ⟨m,rfl,e⟩|⟨m,hm,rfl,e⟩
 .rw[<-gr]
  show (cs (numS _)).length<=_
  rw[e]
  have:=sW 90 m (by decide) (by simpa using h)
  lia
 .rw[<-gr]
  show (cs (numS _)).length<=_
  rw[e,cm]
  have:=sW 90 m (by decide) (by simpa using h)
  lia
theorem mE {i:Int} (h:i.natAbs < 10 ^ 90):i.natAbs.log2 < 1920:=by
 by_cases h0:i.natAbs=0
 .rw[h0];decide
 .exact (Nat.log2_lt h0).mpr (dv h (by decide +kernel))
section
variable {P:Program} {w:World} {K:W.Frag} {G:GH} {H:Hp} {h:Heap}
theorem ZlF (ok:HOk P w H h):∀ (n:Nat) {t:T} {v:V} {u:Value},PlT n t->RepT K G H t v->RelV v u->∃ d as,Reads h u d as/\d.showable=true/\d.hasDict=false/\d.depth<=n/\d.shown=shT t/\d.shown.length<=lnT t:=by
 intro n
 have num:∀ {t:T} {v:V} {u:Value} {i:Int},t=.int i->i.natAbs < 10 ^ 90->RepT K G H t v->RelV v u->∃ d as,Reads h u d as/\d.showable=true/\d.hasDict=false/\d.depth<=0/\d.shown=shT t/\d.shown.length<=lnT t:=by
  rintro t v u i rfl hi r ru
  cases r
  obtain ⟨k,rfl⟩:=ru
  exact ⟨.int i,[],.int i k,by simpa [PyData.showable] using mE hi,by simp[PyData.hasDict],by simp[PyData.depth],by rw[PyData.shown,shT],by rw[PyData.shown];simp only[lnT];exact jL hi⟩
 induction n with
 | zero =>
  rintro t v u ⟨i,e,hi⟩ r ru
  exact num e hi r ru
 | succ n ih =>
  intro t v u pl r ru
  rcases pl with ⟨i,e,hi⟩|⟨ts,e,hp⟩
  .obtain ⟨d,as,h1,h2,h3,h4,h5⟩:=num e hi r ru
   exact ⟨d,as,h1,h2,h3,by lia,h5⟩
  .have all:∀ (ts:List T) (vs:List V) (us:List Value),(∀ t∈ts,PlT n t)->RepTs K G H ts vs->Vals vs us->∃ ds as,ReadsAll h us ds as/\PyData.showableAll ds=true/\PyData.hasDictAll ds=false/\PyData.depthAll ds<=n/\PyData.shownAll ds=shTs ts/\((shTs ts).map fun t=>t.length+2).sum<=lnTs ts:=by
    intro ts
    induction ts with
    | nil =>
     intro vs us j r rv
     cases r;cases rv
     exact ⟨[],[],.nil,by simp[PyData.showableAll],by simp[PyData.hasDictAll],by simp[PyData.depthAll],by rw[PyData.shownAll,shTs],by rw[shTs,lnTs];exact aA _⟩
    | cons t ts ih2 =>
     intro vs us hp r rv
     cases r with
     | cons r1 r2 =>
      cases rv with
      | cons v1 v2 =>
       obtain ⟨d,as,a1,a2,a3,a4,a5,a6⟩:=ih (hp t bi) r1 v1
       obtain ⟨ds,bs,b1,b2,b3,b4,b5,b6⟩:=ih2 _ _ (fun u hu=>hp u (bH _ hu)) r2 v2
       refine ⟨d::ds,as++bs,.cons a1 b1,by simp[PyData.showableAll,a2,b2],by simp[PyData.hasDictAll,a3,b3],by simp only[PyData.depthAll];lia,by rw[PyData.shownAll,shTs,a5,b5],?_⟩
       rw[a5] at a6
       rw[shTs,lnTs,aS,ce]
       lia
   rcases e with rfl|rfl
   .cases r with
    | @tup a xs _ ha rs =>
     obtain ⟨j,its,vs,o,e1,e2,m,e3⟩:=(show ObjOk P w H h a (.tup xs) from ok a _ ha)
     cases ru
     obtain ⟨ds,as,b1,b2,b3,b4,b5,b6⟩:=all ts xs its hp rs vs
     refine ⟨.tuple ds,_,.tuple e1 e2 e3 b1,by simpa [PyData.showable] using b2,by simpa [PyData.hasDict] using b3,by simp only[PyData.depth];lia,by rw[PyData.shown,shT,b5],?_⟩
     rw[PyData.shown,lnT,b5]
     exact aR (mI _) (by lia)
   .cases r with
    | @lst a xs _ ga ha rs =>
     obtain ⟨j,its,m,vs,e1⟩:=(show ObjOk P w H h a (.lst xs) from ok a _ ha)
     cases ru
     obtain ⟨ds,as,b1,b2,b3,b4,b5,b6⟩:=all ts xs its hp rs vs
     refine ⟨.list ds,_,.list e1 rfl rfl b1,by simpa [PyData.showable] using b2,by simpa [PyData.hasDict] using b3,by simp only[PyData.depth];lia,by rw[PyData.shown,shT,b5],?_⟩
     rw[PyData.shown,lnT,b5]
     exact aR (o8 _) (by lia)
def rStrT (K:W.Frag):List V->Hp->VK->Prop:=fun xs H Q=>∃ G t n a,xs=[.ref a]/\RepT K G H t (.ref a)/\PlT n t/\n<=40/\lnT t<=1000000/\Q (.str (shT t)) H
theorem qX {X:Cx} {K:W.Frag} (hg:X.A.guards=some []) (hu:X.A.units+64 < cLine):bF X (.type "str") (rStrT K):=by
 intro pins s Z H xs us Q I r h
 obtain ⟨G,t,n,a,rfl,rt,pl,hn,hl,q⟩:=h
 obtain ⟨u,rfl,ru⟩:=vals1 r
 cases ru
 obtain ⟨d,as,h1,h2,h3,h4,h5,h6⟩:=ZlF I.hok n pl rt (show RelV (.ref a) (.ref a) from rfl)
 refine str_of_reads h1 h2 (PyData.noDict_hsm h3) hg (by lia) (fun j j e=>e) (fun h' u tk hk=>?_) (by rw[PySem.sizeLine_eq];lia)
 exact ⟨.str (shT t),H,I.kept (t':=tk) hk,⟨u,by rw[h5]⟩,q⟩
end
end L2
end
section
namespace L3
open PySem PyProof.Rows
section
variable [KOrd] {P:Program} {W:World} {A:Around} {E:Value->Shared->Prop} {z:Shared} [KLt P W A E z] {a₀:Array Keyed}
structure Fin1 (a₀:Array Keyed) (st:SortSt):Prop where
 perm:(arrOf st).Perm a₀
 failed:failedOf st=none
 pend:(pendingOf st).size<=1
 seg:SegS (arrOf st) 0 a₀.size
theorem Bas.fin1 {st:SortSt} (B:Bas a₀ #[] st) (s:SegS (arrOf st) 0 a₀.size) {t:Nat×Nat×Nat}:Fin1 a₀ (setPending st ((pendingOf st).push t)) :=
 ⟨B.perm,B.failed,by show ((pendingOf st).push t).size<=1;rw[B.pend];exact aA 1,s⟩
theorem wpS_sortFew {st:SortSt} {Q:Unit->SortSt->Prop} (h0:IntKeys a₀) (hp:(arrOf st).Perm a₀) (hk:kindOf st=oneType') (hfl:failedOf st=none) (hpd:pendingOf st=#[]) (h2:2<=a₀.size) (h64:a₀.size < 64)
  (h:∀ v,(arrOf v).Perm a₀->failedOf v=none->SegS (arrOf v) 0 a₀.size->Q () v):wpS (model P W) A E z sortRuns' Q st:=by
 rw[sortRuns'_eq]
 refine aY (wpS_get ?_)
 dsimp only
 have hmr:minRun' a₀.size a₀.size 0=a₀.size:=by
  obtain ⟨f,hf⟩:∃ f,a₀.size=f+1:=⟨a₀.size - 1,by lia⟩
  have:minRun' (f+1) a₀.size 0=a₀.size:=by rw[minRun'_succ,ah h64];rfl
  rwa [<-hf] at this
 simp only[hp.size_eq,hmr]
 refine aY (wpS_mono (ju
  (I:=fun x c v=>(x=0/\c=(none,0)/\Bas a₀ #[] v)\/(1<=x/\c=(none,a₀.size)/\Fin1 a₀ v))
  (Q:=fun c v=>c=(none,a₀.size)/\Fin1 a₀ v) ?step ?fin (.inl ⟨rfl,rfl,hp,hk,hfl,hpd⟩)) ?post)
 case fin =>
  rintro c v (⟨hx,_,_⟩|⟨_,hc,hD⟩)
  .lia
  .exact ⟨hc,hD⟩
 case step =>
  rintro x c v _ hx (⟨rfl,rfl,hB⟩|⟨hx1,rfl,hD⟩)
  .dsimp only
   rw[ai (by lia)]
   simp only[nP,Nat.min_self,Nat.zero_add]
   refine aY (ZiX h0 (by lia) (by lia) hB fun m v1 B1 j m1 m2 s1=>?_)
   dsimp only
   by_cases hlt:m < a₀.size
   .rw[ah hlt]
    refine aY (wpS_lift (fU ⟨rfl,?_⟩))
    refine aY (Zlv h0 (by lia) m2 B1 s1 fun v2 B2 j s2=>?_)
    simp only[fu,cu,bY]
    refine aY (wpS_get ?_)
    have hb:(pendingOf v2).back?=none:=by rw[B2.pend];rfl
    rw[hb]
    dsimp only
    exact aY (wpS_modify (bo (.inr ⟨by lia,rfl,B2.fin1 s2⟩)))
   .rw[ai hlt]
    have hm:m=a₀.size:=by lia
    subst hm
    refine aY (wpS_get ?_)
    have hb:(pendingOf v1).back?=none:=by rw[B1.pend];rfl
    rw[hb]
    dsimp only
    exact aY (wpS_modify (bo (.inr ⟨by lia,rfl,B1.fin1 s1⟩)))
  .dsimp only
   rw[ah (aA _)]
   exact bo ⟨rfl,hD⟩
 case post =>
  rintro c v ⟨rfl,hD⟩
  dsimp only
  refine aY (wpS_mono (ju (I:=fun j c v'=>v'=v/\c=(none,())) (Q:=fun c v'=>v'=v/\c=(none,())) ?_ (fun j j hh=>hh) ⟨rfl,rfl⟩) ?_)
  .rintro x c v' j j ⟨rfl,rfl⟩
   refine aY (wpS_get ?_)
   rw[ah hD.pend]
   exact bo ⟨rfl,rfl⟩
  .rintro c v' ⟨rfl,rfl⟩
   exact bo (h _ hD.perm hD.failed hD.seg)
end
end L3
end
section
namespace L2
open PySem PySem.Spec PyProof.Rows
section
variable {P:Program} {W:World} {A:Around} {E:Value->Shared->Prop} {z:Shared}
theorem ZlB {a:Addr} {us:List Value} {k:Nat} {F:PySem.Fin->Shared->Prop} (O:L3.KOrd) (ho:z.heap.get? a=some (seqObj "list" us.toArray k)) (h64:us.length < 64)
  (hkind:2<=us.length->∀ {z':Shared} {Q:SortKind->Shared->Prop},(∀ b o,z.heap.get? b=some o->o.cls=.type "tuple"->z'.heap.get? b=some o)->Q O.kd z'->wpAny (model P W) A (keyKind' us.toArray) Q E z')
  (hlt:∀ {z':Shared},(∀ b o,z.heap.get? b=some o->o.cls=.type "tuple"->z'.heap.get? b=some o)->@L3.KLt O P W A E z') (hg:∀ v∈us,O.good (v,v))
  (h:∀ out:Array Value,out.toList.Perm us->out.toList.Pairwise (fun v w=>O.kv (v,v)<=O.kv (w,w))->F (.done (.ret .none)) { z with heap:=sortedHeap z.heap a us out }) :
  wpAny (model P W) A (Builtin.«list.sort» ⟨[.ref a],[]⟩) F E z:=by
 have hz:us.length<=sizeLine:=aR (ft h64) (by decide)
 have hlt0:a < z.heap.objs.size:=aV ho
 have hus:us.toArray.size=us.length:=by simp
 obtain ⟨ep,hoE⟩:∃ ep,(z.heap.update a (Obj.mapSeq fun u=>#[])).get? a=some (seqObj "list" #[] ep):=⟨_,get?_update_seq ho fun u=>#[]⟩
 have hoF:(((z.heap.update a (Obj.mapSeq fun u=>#[])).push (seqObj "tuple" us.toArray 0)).push (seqObj "list" #[] 0)).get? a=some (seqObj "list" #[] ep):=bt _ (bt _ hoE)
 have keep:∀ b o,z.heap.get? b=some o->o.cls=.type "tuple"->(((z.heap.update a (Obj.mapSeq fun u=>#[])).push (seqObj "tuple" us.toArray 0)).push (seqObj "list" #[] 0)).get? b=some o:=fun b o e ec=>by
  have hb:b≠a:=fun zz=>by
   rw[zz,ho] at e
   cases e
   injection ec with ec
   exact absurd ec (by decide)
  refine bt _ (bt _ ?_)
  rw[Heap.get?_update_ne _ _ _ _ hb]
  exact e
 have ends:∀ v:SortSt,(arrOf v).Perm (pairsOf us)->@L3.SegS O (arrOf v) 0 (pairsOf us).size->F (.done (.ret .none)) { z with heap:=sortedHeap z.heap a us ((arrOf v).map (·.2)) }:=fun v hp hs=>by
  have hl:(arrOf v).toList.Perm (us.zip us):=by rw[<-pairsOf_toList];exact uZ.mp hp
  have hmem:∀ p,p∈(arrOf v).toList->p.1=p.2/\p.1∈us:=fun p hp'=>mem_zip_self (hl.mem_iff.mp hp')
  refine h _ ?_ ?_
  .rw[Array.toList_map]
   refine (hl.map _).trans ?_
   rw[show (us.zip us).map (·.2)=us by
    rw[map_snd_zip]
    exact aA _]
  .rw[Array.toList_map]
   have hsl:=@L3.SegS.list O _ _ _ hs (by rw[hp.size_eq];lia)
   rw[drop_zero,nE (by rw[dL,hp.size_eq];exact aA _)] at hsl
   rw[pairwise_map]
   refine u8 (fun {x y} hx hy hxy=>?_) hsl
   have ex:x=(x.2,x.2):=Prod.ext (hmem x hx).1 rfl
   have ey:y=(y.2,y.2):=Prod.ext (hmem y hy).1 rfl
   have hxy:O.kv x<=O.kv y:=hxy
   rw[ex,ey] at hxy
   exact hxy
 have hfit:∀ v:SortSt,(arrOf v).Perm (pairsOf us)->((arrOf v).map (·.2)).size<=sizeLine+1:=fun v hp=>by
  rw[Array.size_map,hp.size_eq,gH]
  lia
 rw[list_sort_plain]
 refine ae (listItems_at (o:=seqObj "list" us.toArray k) ho rfl ?_)
 refine ae (jv (hsz:=by rw[hus];exact hz) (hsz2:=bD _) (o:=seqObj "list" us.toArray k) ho rfl ?_)
 refine ae (jw (o:=seqObj "list" #[] ep) hoE rfl ?_)
 refine ae (wpAny_newTuple ?_ (hsz:=by rw[dL,hus];exact hz))
 refine ae (nF ?_ (hsz:=bD _))
 refine dm (id ?_)
 dsimp only
 by_cases hfew:us.toArray.size < 2
 .rw[ah hfew,ah hfew]
  refine ae (am (id ?_))
  rw[StateT.run_pure]
  refine ae (am (id ?_))
  dsimp only
  refine ae (jw (o:=seqObj "list" #[] ep) hoF rfl ?_)
  refine ae (jv (hsz:=bD _) (hsz2:=hfit (SortSt.mk' general' (us.toArray.zip us.toArray) #[] 7 none) (Array.Perm.refl _)) (o:=seqObj "list" #[] ep) hoF rfl ?_)
  simp only[nG,cu,bY]
  refine am (ends (SortSt.mk' general' (us.toArray.zip us.toArray) #[] 7 none) (Array.Perm.refl _) fun i j h1 hij hj=>?_)
  obtain rfl:i=j:=by rw[gH] at hj;lia
  exact eo _
 .rw[ai hfew,ai hfew]
  refine ae (hkind (by lia) keep ?_)
  have hg':@L3.IntKeys O (pairsOf us):=fun q hq=>by
   rw[pairsOf_toList] at hq
   obtain ⟨e1,e2⟩:=mem_zip_self hq
   have:q=(q.1,q.1):=Prod.ext rfl e1.symm
   rw[this]
   exact hg _ e2
  have hrun:=@L3.wpS_sortFew O P W A E { z with heap:=((z.heap.update a (Obj.mapSeq fun u=>#[])).push (seqObj "tuple" us.toArray 0)).push (seqObj "list" #[] 0) } (hlt keep) (pairsOf us) (SortSt.mk' O.kd (us.toArray.zip us.toArray) #[] 7 none) (fun u v=>(arrOf v).Perm (pairsOf us)/\failedOf v=none/\@L3.SegS O (arrOf v) 0 (pairsOf us).size) hg' (Array.Perm.refl _) rfl rfl rfl (by rw[gH];lia) (by rw[gH];exact h64) (fun v q1 q2 q3=>⟨q1,q2,q3⟩)
  refine ae (cD hrun ?_ fun u u q=>q)
  rintro ⟨⟨⟩,v⟩ z' ⟨rfl,hp,hf,hs⟩
  dsimp only
  refine ae (jw (o:=seqObj "list" #[] ep) hoF rfl ?_)
  refine ae (jv (hsz:=bD _) (hsz2:=hfit v hp) (o:=seqObj "list" #[] ep) hoF rfl ?_)
  rw[hf]
  simp only[nG,cu,bY]
  exact am (ends v hp hs)
end
end L2
end
section
namespace L2
open PySem PySem.Spec PyProof.Rows PySem.Calls
abbrev I3:=(Int×Int)×Int
def IsI (h:Heap) (v:Value) (p:I3):Prop:=∃ a b o ob n m t t1 t2,v=.ref a/\h.get? a=some o/\o.cls=.type "tuple"/\o.data=.seq #[.ref b,.int p.2 t] n/\h.get? b=some ob/\ob.cls=.type "tuple"/\ob.data=.seq #[.int p.1.1 t1,.int p.1.2 t2] m
theorem IsI.keep {h h':Heap} {v:Value} {p:I3} (i:IsI h v p) (k:∀ b o,h.get? b=some o->o.cls=.type "tuple"->h'.get? b=some o):IsI h' v p:=by
 obtain ⟨a,b,o,ob,n,m,t,t1,t2,rfl,e1,e2,e3,e4,e5,e6⟩:=i
 exact ⟨a,b,o,ob,n,m,t,t1,t2,rfl,k _ _ e1 e2,e2,e3,k _ _ e4 e5,e5,e6⟩
def iOf (h : Heap) : Value -> I3
  | .ref a => match h.get? a with
    | some o => match o.data with
      | .seq xs _ => (pOf h (xs.getD 0 .none), sndV xs)
      | _ => ((0, 0), 0)
    | none => ((0, 0), 0)
  | _ => ((0, 0), 0)
theorem IsI.at {h:Heap} {v:Value} {p:I3} (i:IsI h v p):iOf h v=p:=by
 obtain ⟨a,b,o,ob,n,m,t,t1,t2,rfl,e1,e2,e3,e4,e5,e6⟩:=i
 have:pOf h (.ref b)=p.1:=IsP.at ⟨b,ob,m,t1,t2,rfl,e4,e5,e6⟩
 simp only[iOf,e1,e3]
 show (pOf h (.ref b),p.2)=p
 rw[this]
def cdI (p:I3):Int:=cd (2 * 10 ^ 9+1) (cd 2001 p.1,p.2)
def BdI (p:I3):Prop:=(2 * p.1.2.natAbs:Int) < 2001/\(2 * p.2.natAbs:Int) < 2 * 10 ^ 9+1
theorem cdI_lt {p q:I3} (hp:BdI p) (hq:BdI q):cdI p < cdI q↔(p.1.1 < q.1.1\/(p.1.1=q.1.1/\p.1.2 < q.1.2))\/(p.1=q.1/\p.2 < q.2):=by
 unfold cdI
 rw[mO (p:=(cd 2001 p.1,p.2)) (q:=(cd 2001 q.1,q.2)) hp.2 hq.2,mO hp.1 hq.1]
 have key:cd 2001 p.1=cd 2001 q.1↔p.1=q.1:=by
  constructor
  .intro e
   have h1:=mO hp.1 hq.1
   have h2:=mO hq.1 hp.1
   refine Prod.ext ?_ ?_ <;> lia
  .intro e;rw[e]
 rw[key]
abbrev jG (h:Heap):L3.KOrd:=⟨tuples' false,fun x=>∃ p,IsI h x.1 p/\BdI p,fun x=>cdI (iOf h x.1)⟩
section
variable {P:Program} {W:World} {A:Around} {E:Value->Shared->Prop} {z:Shared}
theorem isKey {h:Heap} {b:Addr} {ob:Obj} {m:Nat} {i j:Int} {t1 t2:Tok} (e4:h.get? b=some ob) (e5:ob.cls=.type "tuple") (e6:ob.data=.seq #[.int i t1,.int j t2] m):IsTupleKey (cj P W) h [.inl i,.inl j] b :=
 ⟨ob,_,m,e4,e5,e6,.cons (by simp[cj,gk,Value.isInt]) (.cons (by simp[cj,gk,Value.isInt]) .nil)⟩
theorem ZnH {Q:Value->Shared->Prop} {a b:Addr} {oa ob:Obj} {n m:Nat} {i j i' j':Int} {t1 t2 t3 t4:Tok} (hu:A.units+1 < cLine) (e1:z.heap.get? a=some oa) (e2:oa.cls=.type "tuple") (e3:oa.data=.seq #[.int i t1,.int j t2] n) (e4:z.heap.get? b=some ob) (e5:ob.cls=.type "tuple") (e6:ob.data=.seq #[.int i' t3,.int j' t4] m)
  (h:Q (.bool (if i=i' then decide (j < j') else decide (i < i'))) z):wpAny (model P W) A (compareOp .Lt (.ref a) (.ref b)) Q E z:=by
 have ta:z.TypeIs (.ref a) "tuple":=⟨oa,e1,e2⟩
 have tb:z.TypeIs (.ref b) "tuple":=⟨ob,e4,e5⟩
 show wpAny _ _ (richCompare .Lt (.ref a) (.ref b)) _ _ _
 refine wpAny_richCompare_same_room (T:="tuple") ta tb F.slot_tuple_lt (eT F.slot_tuple_lt ta F.entry_tuple_lt ?_ (F.args_tuple_lt_2 _ _)) (by lia)
 show wpAny _ _ (isInstance (.ref b) (.type "tuple") >>= _) _ _ _
 refine ae (jx tb nK ?_)
 simp only[fu,cu,bY]
 refine ae (kQ e1 e3 (ae (kQ e4 e6 ?_)))
 show wpAny _ _ ((forIn [(Value.int i t1,Value.int i' t3),(Value.int j t2,Value.int j' t4)] _ _) >>= _) _ _ _
 rw[forIn_cons]
 refine ae (ae (ae (nh ?_)))
 by_cases e:i=i'
 .rw[ah e] at h
  rw[show (i == i')=true by simp[e]]
  simp only[fu,cu,bY]
  refine am ?_
  dsimp only
  rw[forIn_cons]
  refine ae (ae (nh ?_))
  by_cases e':j=j'
  .rw[show (j == j')=true by simp[e']]
   simp only[fu,cu,bY]
   refine am (am (am ⟨_,rfl,by simp[Builtin.Tuple.tupleCompareSizes],?_⟩))
   rw[aQ (by lia)] at h
   simpa [Builtin.Tuple.tupleCompareSizes] using h
  .rw[show (j == j')=false by simp[e']]
   simp only[qz,fR]
   refine ae (fU (ae ?_))
   show wpAny _ _ (compareOp .Lt (.int j t2) (.int j' t4)) _ _ _
   exact lt_int (ae (am (am (am (am ⟨_,rfl,by simp,h⟩)))))
 .rw[ai e] at h
  rw[show (i == i')=false by simp[e]]
  simp only[qz,fR]
  refine ae (fU (ae ?_))
  show wpAny _ _ (compareOp .Lt (.int i t1) (.int i' t3)) _ _ _
  exact lt_int (ae (am (am (am (am ⟨_,rfl,by simp,h⟩)))))
theorem ltI3 {h:Heap} (hu:A.units+4 < cLine) (keep:∀ b o,h.get? b=some o->o.cls=.type "tuple"->z.heap.get? b=some o):@L3.KLt (jG h) P W A E z:=by
 refine @L3.KLt.mk (jG h) P W A E z ?_
 intro u x y Q hk hx hy hq
 obtain ⟨p,ip,bp⟩:=hx
 obtain ⟨q,iq,bq⟩:=hy
 have e1:=ip.at
 have e2:=iq.at
 obtain ⟨a,b,o,ob,n,m,t,t1,t2,ex,g1,g2,g3,g4,g5,g6⟩:=ip.keep keep
 obtain ⟨a',b',o',ob',n',m',t',t1',t2',ey,k1,k2,k3,k4,k5,k6⟩:=iq.keep keep
 have hv:(some (decide (@L3.kvl (jG h) x < @L3.kvl (jG h) y)):Option Bool)=some (if p.1=q.1 then decide (p.2 < q.2) else if p.1.1=q.1.1 then decide (p.1.2 < q.1.2) else decide (p.1.1 < q.1.1)):=by
  show some (decide (cdI (iOf h x.1) < cdI (iOf h y.1)))=_
  rw[e1,e2]
  congr 1
  have key:=cdI_lt bp bq
  by_cases e:p.1=q.1
  .rw[ah e]
   refine qD.mpr (key.trans ?_)
   rw[e]
   constructor
   .rintro (h|h)
    .lia
    .exact h.2
   .exact fun h=>.inr ⟨rfl,h⟩
  .rw[ai e]
   have key:cdI p < cdI q↔(p.1.1 < q.1.1\/(p.1.1=q.1.1/\p.1.2 < q.1.2)):=key.trans ⟨fun h=>h.resolve_right fun z=>e z.1,.inl⟩
   by_cases e':p.1.1=q.1.1
   .rw[ah e']
    exact qD.mpr (key.trans (by lia))
   .rw[ai e']
    exact qD.mpr (key.trans (by lia))
 rw[hv] at hq
 rw[lt'_eq]
 refine aY (wpS_get ?_)
 rw[hk,ex,ey]
 refine aY (wpS_lift (wpAny_attempt (PySem.W.kat_lt g1 g3 k1 k3 ?_)))
 have fin:∀ c,c=(if p.1=q.1 then decide (p.2 < q.2) else if p.1.1=q.1.1 then decide (p.1.2 < q.1.2) else decide (p.1.1 < q.1.1))->wpS (model P W) A E z (pure (some c):StateT SortSt Sem (Option Bool)) Q u:=fun c e=>by
  subst e
  exact bo hq
 refine PySem.W.kat_cons (wpAny_eqBool_tuple (knd:=cj P W) (by first|lia|(show A.units+1 < cLine;lia)) (isKey g4 g5 g6) (isKey k4 k5 k6) (PySem.W.kat_go (fun e=>?_) (fun e=>?_)))
 .have e:p.1=q.1:=by
   have:=nN e
   injection this with h1 h2
   injection h1 with h1
   injection h2 with h2
   injection h2 with h2
   exact Prod.ext h1 h2
  refine PySem.W.kat_yes (PySem.W.kat_cons (nh (PySem.W.kat_go (fun e'=>?_) (fun e'=>?_))))
  .have e':p.2=q.2:=by simpa using e'
   refine PySem.W.kat_yes (PySem.W.kat_nil ⟨rfl,fin _ ?_⟩)
   rw[ah e,aQ (by simp),aQ (by lia)]
  .refine PySem.W.kat_no (PySem.W.kat_one _ _ (lt_int ⟨rfl,fin _ ?_⟩))
   rw[ah e]
 .have e:¬ p.1=q.1:=fun z=>by
   rw[z,aX rfl] at e
   cases e
  refine PySem.W.kat_no (PySem.W.kat_one _ _ (ZnH (by first|lia|(show A.units+1+1 < cLine;lia)) g4 g5 g6 k4 k5 k6 ⟨rfl,fin _ ?_⟩))
  rw[ai e]
end
def tSis (td:TE):TE:=fun Z H Q=>td Z H fun x H1=>∃ a kvs,x=.ref a/\H1 a=some (.dT kvs)/\kvs.length < 64/\(∀ e∈kvs,∃ p:I3,e=([.inl p.1.1,.inl p.1.2],.int p.2)/\BdI p/\p.1.1.natAbs < 1000)/\∀ z:Str,z.length<=100000->Q (.str z) H1
theorem ZkN {h:Heap} {v:Value} {p:I3} (i:IsI h v p) (b:BdI p) (c:p.1.1.natAbs < 1000):∃ d as,Reads h v d as/\d.showable=true/\d.hasDict=false/\d.depth<=2/\d.shown.length<=500:=by
 obtain ⟨a,b',o,ob,n,m,t,t1,t2,rfl,e1,e2,e3,e4,e5,e6⟩:=i
 have n1:p.1.1.natAbs < 10 ^ 90:=dv c (by decide)
 have n2:p.1.2.natAbs < 10 ^ 90:=dv (show p.1.2.natAbs < 2001 by have:=b.1;lia) (by decide)
 have n3:p.2.natAbs < 10 ^ 90:=dv (show p.2.natAbs < 2 * 10 ^ 9+1 by have:=b.2;lia) (by decide)
 refine ⟨.tuple [.tuple [.int p.1.1,.int p.1.2],.int p.2],_,.tuple e1 e2 e3 (.cons (.tuple e4 e5 e6 (.cons (.int _ _) (.cons (.int _ _) .nil))) (.cons (.int _ _) .nil)),?_,?_,?_,?_⟩
 .simp[PyData.showable,PyData.showableAll,mE n1,mE n2,mE n3]
 .simp[PyData.hasDict,PyData.hasDictAll]
 .simp[PyData.depth,PyData.depthAll]
 .simp only[PyData.shown,PyData.shownAll]
  have h1:=jL n1
  have h2:=jL n2
  have h3:=jL n3
  have k1:=mI [toString p.1.1,toString p.1.2]
  have k2:=mI [tupleText [toString p.1.1,toString p.1.2],toString p.2]
  simp only[aS,map_nil,ce,sum_nil] at k1 k2
  lia
theorem tM {h : Heap} : ∀ (vs : List Value), (∀ v ∈ vs, ∃ p, IsI h v p /\ BdI p /\ p.1.1.natAbs < 1000) -> ∃ ds as, ReadsAll h vs ds as /\ PyData.showableAll ds = true /\ PyData.hasDictAll ds = false /\ PyData.depthAll ds <= 2 /\ ((PyData.shownAll ds).map fun t => t.length + 2).sum <= 502 * vs.length
  | [], _ => ⟨[], [], .nil, by simp[PyData.showableAll], by simp[PyData.hasDictAll], by simp[PyData.depthAll], by simp[PyData.shownAll]⟩
  | v :: vs, hv => by
    obtain ⟨p,i,b,c⟩:=hv v bi
    obtain ⟨d,as,a1,a2,a3,a4,a5⟩:=ZkN i b c
    obtain ⟨ds,bs,b1,b2,b3,b4,b5⟩:=tM vs fun u hu=>hv u (bH _ hu)
    refine ⟨d::ds,as++bs,.cons a1 b1,by simp[PyData.showableAll,a2,b2],by simp[PyData.hasDictAll,a3,b3],by simp only[PyData.depthAll];lia,?_⟩
    rw[PyData.shownAll,aS,ce,cm]
    lia
theorem uA {M : Model} {h : Heap} : ∀ {l : List Value}, (∀ v ∈ l, ∃ p, IsI h v p) -> ∃ fs, PySem.W.KatTups h l fs /\ fs.length = l.length /\ ∀ f ∈ fs, PySem.W.Looks M h (typeOf f) (.type "tuple")
  | [], _ => ⟨[], PySem.W.KatTups.nil, rfl, fun f hf => by cases hf⟩
  | v :: l, h' => by
    obtain ⟨p,a,b,o,ob,n,m,t,t1,t2,rfl,e1,e2,e3,e4,e5,e6⟩:=h' v bi
    obtain ⟨fs,k1,k2,k3⟩:=uA (M:=M) (l:=l) fun w hw=>h' w (bH _ hw)
    refine ⟨.ref b::fs,PySem.W.KatTups.cons e1 e2 e3 rfl k1,by rw[cm,cm,k2],fun f hf=>?_⟩
    rcases aG.mp hf with rfl|hf
    . exact fun A Q E s k q => kG (T := "tuple") ⟨ob, k _ _ e4, e5⟩ q
    . exact k3 f hf
theorem lA {α β:Type} {F:α->β->Prop} {l:List α} {m:List β} (r:Paired F l m):∀ (j:Nat) {a:α} {b:β},l[j]?=some a->m[j]?=some b->F a b:=by
 induction r with
 | nil=>intro j a b h;cases h
 | cons h _ ih =>
  intro j a b e1 e2
  cases j with
  | zero=>cases e1;cases e2;exact h
  | succ j=>exact ih j e1 e2
theorem Zkv {P:Program} {w:World} (d:Addr) (hd:(d == sysModules)=false):MeetsIn P w (Builtin.«dict.items» ⟨[.ref d],[]⟩) fun j R s=>s.TypeIs (.ref d) "dict"/\R (.ok (.ret (.ref s.heap.objs.size))) { s with heap:=s.heap.push { cls:=.type "dict_items",data:=.fields #[.ref d] } } :=
 .of_wp fun A R s z=>by
  obtain ⟨ht,h⟩:=z
  unfold Builtin.«dict.items» Builtin.Dict.noArgs
  refine ae (ae (wpAny_notOrdered_dict ht ?_))
  show wpAny _ _ (pure d) _ _ s
  unfold Builtin.Dict.showsAll
  refine am ?_
  rw[ai (by rw[hd];exact bA)]
  exact ae (am (ae (dN (am ⟨_,rfl,h⟩))))
section
variable {X:Cx} {o:Expr} {td:TE} {apos p1 p2 p3 p4 p5:Pos}
theorem pe_sis (hg:X.A.guards=some []) (hu:X.A.units+64 < cLine) (hc:X.calm=true) (g1:Gl X "str") (m1:X.mg "str"=none) (g2:Gl X "sorted") (m2:X.mg "sorted"=none) (ho:PE X o td)
  (hb:attributeBase o "items" X.env (eval o X.env)=eval o X.env:=by rfl) (hl:(apos.endLine == p3.line)=true:=by rfl)
  (s2:starEach [Expr.Call (.Attribute o "items" apos) [] [] p3] X.env=[(false,eval (Expr.Call (.Attribute o "items" apos) [] [] p3) X.env)]:=by rfl)
  (s1:starEach [Expr.Call (.Name "sorted" p2) [.Call (.Attribute o "items" apos) [] [] p3] [] p4] X.env=[(false,eval (Expr.Call (.Name "sorted" p2) [.Call (.Attribute o "items" apos) [] [] p3] [] p4) X.env)]:=by rfl)
  (l1:(backTo p5 (starEach [] X.env)).any (·.1)=false:=by rfl) (l2:(backTo p4 (starEach [] X.env)).any (·.1)=false:=by rfl) :
  PE X (.Call (.Name "str" p1) [.Call (.Name "sorted" p2) [.Call (.Attribute o "items" apos) [] [] p3] [] p4] [] p5) (tSis td):=by
 intro pins s Z H Q I h
 refine nu (ij I g1 m1 ke ?_)
 refine qk ?_ (by rw[s1];rfl) l1
 rw[s1]
 show wpAny _ _ (spliced [(false,eval (Expr.Call (.Name "sorted" p2) [.Call (.Attribute o "items" apos) [] [] p3] [] p4) X.env)]) _ _ s
 refine kA ?_
 refine Call_ (ij I g2 m2 pD ?_)
 refine uS ?_ (by rw[s2];rfl) l2
 rw[s2]
 show wpAny _ _ (spliced [(false,eval (Expr.Call (.Attribute o "items" apos) [] [] p3) X.env)]) _ _ s
 refine kA ?_
 refine wpAny_Call_method (T:="dict") (id:="dict.items") hb rfl hl F.plainAttrs_dict F.slot_dict_items F.type_dict_items (thn (ho pins s Z H _ I h) fun u s1 z=>?_)
 obtain ⟨x,H1,I1,rx,a,kvs,rfl,ha,hk,he,q⟩:=z
 obtain rfl:u=Value.ref a:=rx
 obtain ⟨ty,nod,hsm⟩:=pX I1 (.inr ⟨kvs,.inl ha⟩)
 refine ⟨ty,nod,?_⟩
 show wpAny _ _ (callWith p3 (.builtin "dict.items") [.ref a] [] []) _ _ _
 refine method_meetsIn F.slot_dict_items F.entry_dict_items rfl (PySem.evalArgs_none ⟨rfl,ty,F.args_dict_items_1 _,_,Zkv a hsm,ty,?_⟩)
 obtain ⟨zl,y,xs,pr,ob,es,ep,h1,h2,h3,h4,y⟩:=(show ObjOk X.prog X.w H1 s1.heap a (.dT kvs) from I1.hok a _ ha)
 have esz:es.size=kvs.length:=by rw[<-dL,h4,af,<- Paired.length pr]
 generalize hh2:s1.heap.push { cls:=.type "dict_items",data:=.fields #[.ref a] }=h2'
 have k2:∀ b o,s1.heap.get? b=some o->h2'.get? b=some o:=fun b o e=>by rw[<-hh2];exact bt _ e
 have vw:h2'.IsItemsView s1.heap.objs.size a:=⟨_,by rw[<-hh2];exact ck _ rfl,rfl,rfl⟩
 refine nt ?_
 refine u7 (id kind_sorted) plain_sorted entry_sorted (args_sorted1 _) ?_
 unfold Builtin.«sorted»
 refine ae (m:=checkCount "sorted" 1 1 _) (am (id ?_))
 refine ae (Zjn (s:={ s1 with heap:=h2' }) (es:=es) (ep:=ep) (I1.ok.hd hc) vw ⟨ob,k2 _ _ h1,h3⟩ (by rw[esz];exact zl) fun h3' tk as k3 hl3 got=>?_)
 have item:∀ v∈as.map Value.ref,∃ p,IsI h3' v p/\BdI p/\p.1.1.natAbs < 1000:=by
  intro v hv
  obtain ⟨b,hb,rfl⟩:=bg.mp hv
  obtain ⟨j,hj⟩:=eB.mp hb
  obtain ⟨y,e,e1,e2⟩:=got j b hj
  rw[<-kJ,h4,aq] at e1
  obtain ⟨x,ex,rfl⟩:=bc.mp e1
  have jl:j < kvs.length:=by rw[Paired.length pr];exact (ba.mp ex).1
  have ek:kvs[j]?=some kvs[j]:=aC jl
  generalize kvs[j]=kv at ek
  obtain ⟨p,rfl,b1,b2⟩:=he kv (aE ek)
  obtain ⟨y,z2,z3⟩:=lA pr j ek ex
  obtain ⟨its,vt,o2,o3,o4,n5,o6⟩:=I1.isTup z2
  obtain ⟨w1,w2,rfl,⟨t,rfl⟩,⟨t',rfl⟩⟩:=vals2 vt
  obtain ⟨t3,e3⟩:=z3
  refine ⟨p,⟨b,x.2.1,_,o2,0,n5,t3,t,t',rfl,e2,rfl,?_,k3 _ _ (k2 _ _ o3),o4,o6⟩,b1,b2⟩
  show Data.seq #[Value.ref x.2.1,x.2.2] _=_
  rw[e3]
 have asl:(as.map Value.ref).length=kvs.length:=by rw[af,hl3,esz]
 generalize as.map Value.ref=its at item asl
 have kk:∀ b o,s1.heap.get? b=some o->h3'.get? b=some o:=fun b o e=>k3 b o (k2 b o e)
 have sz:its.length<=sizeLine:=by rw[asl];exact zl
 refine ae (nF (id ?_) sz)
 have hD:(h3'.push (seqObj "list" its.toArray 0)).get? h3'.objs.size=some (seqObj "list" its.toArray 0):=ck _ rfl
 have kD:∀ b o,h3'.get? b=some o->(h3'.push (seqObj "list" its.toArray 0)).get? b=some o:=fun b o e=>bt _ e
 refine ae (dm (eT slot_list_sort ⟨_,hD,rfl⟩ entry_list_sort (ZlB (z:={ s1 with heap:=h3'.push (seqObj "list" its.toArray 0),toks:=tk }) (jG h3') hD (by rw[asl];exact hk) (fun h2 z' Q' kp hq=>?_) (fun kp=>ltI3 (by first|lia|(show X.A.units+1+1+4 < cLine;lia)|(show X.A.units+1+4 < cLine;lia)) fun b o e ec=>kp b o (kD b o e) ec) (fun v hv=>?_) fun out q1 q2=>⟨_,rfl,?_⟩) (args_list_sort _)))
 .obtain ⟨fs,f1,f2,f3⟩:=uA (M:=model X.prog X.w) (h:=z'.heap) (l:=its) fun v hv=>by
   obtain ⟨p,a1,y⟩:=item v hv
   exact ⟨p,a1.keep fun b o e ec=>kp b o (kD b o e) ec⟩
  exact PySem.W.kat_kind (T:=.type "tuple") f1 (by lia) f3 (by decide) hq
 .obtain ⟨p,a1,a2,y⟩:=item v hv
  exact ⟨p,a1,a2⟩
 .refine am ⟨_,rfl,?_⟩
  generalize hF:sortedHeap (h3'.push (seqObj "list" its.toArray 0)) h3'.objs.size its out=hf
  have kF:∀ b o,h3'.get? b=some o->hf.get? b=some o:=fun b o e=>by
   have hlt:=aV e
   rw[<-hF,sortedHeap_old (bK hlt) (by rw[size_push'];exact qw hlt)]
   exact kD b o e
  obtain ⟨ep2,hat2⟩:=sortedHeap_at (out:=out) hD
  rw[hF] at hat2
  have oi:∀ v∈out.toList,∃ p,IsI hf v p/\BdI p/\p.1.1.natAbs < 1000:=fun v hv=>by
   obtain ⟨p,a1,a2⟩:=item v (q1.mem_iff.mp hv)
   exact ⟨p,a1.keep fun b o e y=>kF b o e,a2⟩
  obtain ⟨ds,bs,r1,r2,r3,r4,r5⟩:=tM out.toList oi
  have ol:out.toList.length=kvs.length:=by rw[<-asl];exact q1.length_eq
  have ln:=o8 (PyData.shownAll ds)
  have rd:Reads hf (.ref h3'.objs.size) (.list ds) (h3'.objs.size::bs):=.list hat2 rfl rfl r1
  have sl:(PyData.list ds).shown.length<=100000:=by rw[PyData.shown];lia
  refine nt ?_
  refine str_of_reads rd (by simpa [PyData.showable] using r2) (PyData.noDict_hsm (by simpa [PyData.hasDict] using r3)) hg (by simp only[PyData.depth];lia) (fun y y e=>e) (fun h' u tk' hk'=>?_) (by rw[PySem.sizeLine_eq];lia)
  exact ⟨.str (PyData.list ds).shown,H1,I1.kept (t':=tk') fun b o e=>hk' b o (kF b o (kk b o e)),⟨u,rfl⟩,q _ sl⟩
end
end L2
end
section
namespace L2
open PySem PySem.Spec PyProof.Rows
section
variable {P:Program} {w:World} {A:Around} {E:Value->Shared->Prop} {s:Shared}
theorem uK {it d:Addr} {i ep:Nat} {es:Array DictEntry} {Q:Option Value->Shared->Prop} (hh:A.handled=none) (hit:s.heap.IsKeyIter it d i es.size ep) (hd:DEs s.heap d es ep)
  (h1:∀ e h',es[i]?=some e->h'.IsKeyIter it d (i+1) es.size ep->Heap.SameBut it s.heap h'->Q (some e.key) { s with heap:=h' })
  (h2:es[i]?=none->∀ h',Heap.ExtBut it s.heap h'->Q none { s with heap:=h' }):wpAny (model P w) A (pyNext (.ref it)) Q E s:=by
 obtain ⟨o,ho,hc,hdt⟩:=id hit
 obtain ⟨od,e1,e2⟩:=hd
 have ty:=hit.typeIs
 have own:Builtin.Dict_items.ownsTuple "dict_keyiterator"=false:=by decide
 have nn:¬ ((Value.ref d == Value.none)=true):=bA
 have ni:¬ ((i:Int) < 0):=by lia
 unfold pyNext
 refine ae (wpAny_attempt (nv (name:=Str.ofString "__next__") ty F.slot_dict_keyiterator_next (eT F.slot_dict_keyiterator_next ty F.entry_dict_keyiterator_next ?_ (F.args_dict_keyiterator_next_1 _))))
 refine ae (am (ae (ae (ae (qE ty (am (ae (wpAny_fieldsOf ho hdt ?_))))))))
 simp only[own,cu,bY]
 show wpAny _ _ (if (Value.ref d == Value.none)=true then _ else _) _ _ _
 rw[ai nn]
 refine ae (am (ae (nS e1 e2 ?_)))
 rw[ai (by simp)]
 refine ae (am (ae (nT e1 e2 ?_)))
 rw[ai (by simp)]
 refine am ?_
 cases ei:es[i]? with
 | none =>
  simp only[ni,bY,cf,ei]
  refine ae (ae (qE ty (am ?_)))
  show wpAny _ _ (setField (.ref it) 0 .none >>= _) _ _ _
  refine ae (wpAny_setField ho hdt (by simp) ?_)
  show wpAny _ _ (newExc (.type "StopIteration") [] >>= _) _ _ _
  simp only[newExc,newTuple]
  refine ae (ae (dN ?_ (by size_fits)))
  refine ae (m:=firstArgMember _ _) (wpAny_of_eq (a:=Value.none) (by first|rfl|(simp only[firstArgMember];rfl)) (dN ?_ (by size_fits)))
  simp only[raiseNew]
  refine ae (wpAny_handled ?_)
  rw[show A.in1.handled=none from hh]
  refine ae (am (wpAny_throw ?_))
  refine ae (jx (T:="StopIteration") (b:=true) ⟨_,ck _ rfl,rfl⟩ isSubtype_stop ?_)
  exact am (h2 ei _ (((Heap.SameBut.update ..).extBut.push _).push _))
 | some e =>
  simp only[ni,bY,cf,ei]
  refine ae (ae (qE ty (am (ae (wpAny_isOneOf_keyiter ty ?_)))))
  show wpAny _ _ (setField (.ref it) 1 (rawInt ((i:Int)+1)) >>= _) _ _ s
  refine ae (wpAny_setField ho hdt (by simp) ?_)
  have st:(s.heap.update it (Obj.mapFields (·.setIfInBounds 1 (rawInt ((i:Int)+1))))).IsKeyIter it d (i+1) es.size ep :=
   ⟨_,kH _ ho (Obj.isFreed_of_fields (Obj.data_mapFields hdt _)),(Obj.cls_mapFields ..).trans hc,by rw[Obj.data_mapFields hdt];simp[rawInt]⟩
  refine ae (dm (ae (wpAny_isOneOf_keyiter (s:={ s with heap:=s.heap.update it (Obj.mapFields (·.setIfInBounds 1 (rawInt ((i:Int)+1)))) }) st.typeIs ?_)))
  show wpAny _ _ (pure e.key) _ _ _
  exact am (am ⟨_,rfl,am (h1 e _ ei st (Heap.SameBut.update ..))⟩)
theorem ZnP {d:Addr} {ep:Nat} {es:Array DictEntry} {Q:Value->Shared->Prop} (hs:(d == sysModules)=false) (ty:s.TypeIs (.ref d) "dict") (hd:DEs s.heap d es ep)
  (hQ:Q (.ref s.heap.objs.size) { s with heap:=s.heap.push { cls:=.type "dict_keyiterator",data:=.fields #[.ref d,.int 0 0,.int es.size 0,.int ep 0] } }):wpAny (model P w) A (pyIter (.ref d)) Q E s:=by
 obtain ⟨o,e1,e2⟩:=hd
 refine wpAny_pyIter_slot ty F.slot_dict_iter (eT F.slot_dict_iter ty F.entry_dict_iter ?_ (F.args_dict_iter_1 _))
 unfold Builtin.«dict.__iter__» Builtin.Dict.dictSlotNone
 refine ae (ae (wpAny_notOrdered_dict ty ?_))
 show wpAny _ _ (pure (Value.ref d)) _ _ s
 unfold Builtin.Dict.showsAll
 refine am ?_
 show wpAny _ _ ((if (d == sysModules)=true then _ else _) >>= _) _ _ s
 rw[ai (by rw[hs];exact bA)]
 refine ae (am (ae (nS e1 e2 (ae (nT e1 e2 ?_)))))
 refine ae (dN (am ⟨_,rfl,"dict_keyiterator",_,⟨_,ck _ rfl,rfl⟩,F.slot_dict_keyiterator_next.lookup,?_⟩))
 simpa [rawInt] using hQ
end
theorem Inv.freeze {X:Cx} {pins:List (Addr×Obj)} {Z:St} {H:Hp} {s:Shared} {a:Addr} {o:Obj} {kvs:List (List Key×V)} (I:Inv X pins Z H s) (ha:H a=some (.dT kvs)) (ho:s.heap.get? a=some o):Inv X pins Z (upd H a (.frz o (.dT kvs))) s:=by
 have ne:∀ {b:Addr} {u:Option HO},H b=u->u≠some (.dT kvs)->b≠a:=fun {b u} e n z=>n (by rw[<-e,z,ha])
 have up:∀ {b:Addr} {u:Option HO},H b=u->u≠some (.dT kvs)->upd H a (.frz o (.dT kvs)) b=u:=fun e n=>by rw[bh (ne e n)];exact e
 refine I.un (s:=s) (h':=s.heap) ⟨fun b ob q j j j=>q,fun b ob q j j j=>⟨ob.slots,q⟩,fun b ob j n j=>up n nofun,fun b ob q j=>⟨ob,q⟩,fun b xs q=>up q nofun,fun b ob u q=>up q nofun,fun b ps q=>⟨#[],by rw[up q nofun];simp⟩⟩ fun b u e=>?_
 have tp:∀ b xs,H b=some (.tup xs)->upd H a (.frz o (.dT kvs)) b=some (.tup xs):=fun b xs q=>up q nofun
 by_cases hb:b=a
 .subst hb
  rw[bC] at e
  cases e
  exact ⟨ho,(I.hok b _ ha).stay (fun j j j q=>q) (fun c q=>up q nofun) tp⟩
 .rw[bh hb] at e
  exact (I.hok b u e).stay (fun j j j q=>q) (fun c q=>up q nofun) tp
def Itd (a:Addr) (o:Obj) (kvs:List (List Key×V)):It :=
 ⟨fun i H=>H a=some (.frz o (.dT kvs))/\i < kvs.length,fun i H v H'=>H'=H/\∃ b k x,kvs[i]?=some (k,x)/\v=.ref b/\H b=some (.tup (k.map kV)),fun i H=>H a=some (.frz o (.dT kvs))/\kvs.length<=i⟩
theorem Zm8 {P:Program} {w:World} {K:W.Frag} {tg:Expr} (a it:Addr) (o:Obj) (kvs:List (List Key×V)) {es:Array DictEntry} {ep:Nat} (hes:o.data=.dict es ep) (hl:es.size=kvs.length):Turn P w K tg (Itd a o kvs) [it] it (fun i h=>h.IsKeyIter it a i es.size ep) where
 mem:=by simp
 obj:=fun i h st b hb=>by
  have e:b=it:=by simpa using hb
  subst e
  obtain ⟨o,e,c,d⟩:=st
  exact ⟨o,e,fun v z=>by rw[d] at z;cases z⟩
 keep:=fun i h h' st k=>by
  obtain ⟨o,e,c,d⟩:=st
  exact ⟨o,k it (by simp) o e,c,d⟩
 item:=by
  intro X hP hw hK hc i pins s Z H E I hf st hg
  subst hP hw hK
  obtain ⟨ha,hi⟩:=hg
  obtain ⟨ho,j,j,xs,pr,ob,es',ep',e1,e2,e3,e4,j⟩:=(show ObjOk X.prog X.w H s.heap a (.frz o (.dT kvs)) from I.hok a _ ha)
  rw[ho] at e1;cases e1
  rw[hes] at e3;cases e3
  obtain ⟨f0,f1,f2,f3,f4,f5⟩:=hf it (by simp)
  refine uK (I.ok.hd hc) st ⟨o,ho,hes⟩ (fun e h' ei st' sb=>?_) fun ei=>?_
  .have I1:Inv X pins Z H { s with heap:=h' }:=I.turned (t':=s.toks) (fun b o hb e=>(sb.2 b hb).trans e) f0 f1 f3 f4 f5
   obtain ⟨o',e',c,d⟩:=id st'
   rw[<-kJ,e4,aq] at ei
   obtain ⟨x,ex,rfl⟩:=bc.mp ei
   have ek:kvs[i]?=some kvs[i]:=aC hi
   obtain ⟨z1,z2,z3⟩:=lA pr i ek ex
   exact ⟨_,rfl,lu (s:={ s with heap:=h' }) e' c d (by decide) ⟨.ref x.2.1,H,I1,rfl,⟨rfl,x.2.1,kvs[i].1,kvs[i].2,ek,rfl,z2⟩,st',fun b hb=>(hf b hb).1⟩⟩
  .have:=va.mp ei
   lia
 done:=by
  intro X hP hw hK hc i pins s Z H E I hf st hg
  subst hP hw hK
  obtain ⟨ha,hi⟩:=hg
  obtain ⟨ho,j⟩:=(show ObjOk X.prog X.w H s.heap a (.frz o (.dT kvs)) from I.hok a _ ha)
  obtain ⟨f0,f1,f2,f3,f4,f5⟩:=hf it (by simp)
  refine uK (I.ok.hd hc) st ⟨o,ho,hes⟩ (fun e h' ei=>?_) fun j h' eb=>⟨rfl,I.turned (t':=s.toks) (fun b o hb e=>eb b o hb e) f0 f1 f3 f4 f5⟩
  have:=(u9.mp ei).1
  lia
 self:=fun j j j j j st h=>wpAny_pyIter_keyiter st h
def iDT (tl:TE):TI:=fun Z H R=>tl Z H fun x H1=>∃ a kvs,x=.ref a/\H1 a=some (.dT kvs)/\∀ o,R (Itd a o kvs) (upd H1 a (.frz o (.dT kvs)))
theorem pi_dt {X:Cx} {tg l:Expr} {tl:TE} (hl:PE X l tl):PI X tg l (iDT tl):=by
 intro pins s Z H R I h
 refine thn (hl pins s Z H _ I h) fun v s1 z=>?_
 obtain ⟨x,H1,I1,r1,a,kvs,rfl,ha,q⟩:=z
 obtain rfl:v=Value.ref a:=r1
 obtain ⟨ty,j,hs⟩:=pX I1 (.inr ⟨kvs,.inl ha⟩)
 obtain ⟨j,j,xs,pr,o,es,ep,e1,e2,e3,e4,j⟩:=(show ObjOk X.prog X.w H1 s1.heap a (.dT kvs) from I1.hok a _ ha)
 have sz:es.size=kvs.length:=by rw[<-dL,e4,af,<- Paired.length pr]
 refine ZnP hs ty ⟨o,e1,e3⟩ ?_
 have I2:=I1.freeze ha e1
 refine ⟨s1.heap.objs.size,[s1.heap.objs.size],_,_,_,rfl,I2.kept (t':=s1.toks) fun b o e=>bt _ e,Zm8 a _ o kvs e3 sz,⟨_,ck _ rfl,rfl,rfl⟩,fun b hb=>?_,q o⟩
 have e:b=s1.heap.objs.size:=by simpa using hb
 subst e
 exact I2.fpOk (aA _) (I2.hok.fresh (aA _))
def k1T:Key->T
 | .inl i=>.int i
 | .inr x=>.str x
abbrev keyT (ks:List Key):T:=.tup (ks.map k1T)
def getA {κ:Type} [DecidableEq κ] (kvs:List (κ×T)) (k:κ):Option T:=(kvs.find? fun x=>decide (x.1=k)).map (·.2)
def putA {κ:Type} [DecidableEq κ] (kvs:List (κ×T)) (k:κ) (v:T):List (κ×T):=if (kvs.any fun kv=>decide (kv.1=k))=true then kvs.map (fun kv=>if kv.1=k then (kv.1,v) else kv) else kvs++[(k,v)]
section
variable {P:Program} {w:World} {K:W.Frag} {G G1 G2 G':GH} {H H1 H2 H':Hp} {a b:Addr} {Γ:Ev} {ta te td ty tv:TE} {k:T->GH->Prop} {kb:Bool->GH->Prop} {d x y z:T} {v:V} {D:EndT} {c:Ct} {o:HO}
theorem qS {ks:List Key} {vs:List V} (r:RepTs K G H (ks.map k1T) vs):vs=ks.map kV:=by
 induction ks generalizing vs with
 | nil=>cases r;rfl
 | cons c l ih =>
  cases r with
  | cons r1 r2 =>
   rw[ih r2]
   cases c with
   | inl i=>cases r1;rfl
   | inr i=>cases r1;rfl
theorem pC:∀ (ks:List Key),RepTs K G H (ks.map k1T) (ks.map kV)
 | []=>.nil
 | .inl _::ks=>.cons .int (pC ks)
 | .inr _::ks=>.cons .str (pC ks)
abbrev PA2 {κ:Type} (K:W.Frag) (G:GH) (H:Hp):List (κ×T)->List (κ×V)->Prop:=Paired fun p q=>p.1=q.1/\RepT K G H p.2 q.2
theorem sd {κ:Type} [DecidableEq κ] {kvs:List (κ×T)} {kvs':List (κ×V)} (r:PA2 K G H kvs kvs') (q:κ):(getA kvs q=none/\valV kvs' q=none)\/∃ d v,getA kvs q=some d/\valV kvs' q=some v/\RepT K G H d v:=by
 induction r with
 | nil=>exact Or.inl ⟨rfl,rfl⟩
 | @cons p s ps ss h t ih =>
  obtain ⟨h1,h3⟩:=h
  unfold getA valV at ih ⊢
  rw[du,du]
  by_cases e:p.1=q
  .rw[aX e,aX (h1.symm.trans e)]
   exact .inr ⟨_,_,rfl,rfl,h3⟩
  .rw[aQ e,aQ (fun z=>e (h1.trans z))]
   exact ih
theorem sC {κ:Type} [DecidableEq κ] {kvs:List (κ×T)} {kvs':List (κ×V)} (r:PA2 K G H kvs kvs') (q:κ) (rd:RepT K G H d v):PA2 K G H (putA kvs q d) (putK kvs' q v):=by
 have any:(kvs.any fun kv=>decide (kv.1=q))=(kvs'.any fun kv=>decide (kv.1=q)):=by
  induction r with
  | nil=>rfl
  | cons h _ ih=>rw[fT,fT,ih,h.1]
 unfold putA putK
 rw[any]
 by_cases hx:(kvs'.any fun kv=>decide (kv.1=q))=true
 .rw[ah hx,ah hx]
  clear any hx
  induction r with
  | nil=>exact .nil
  | @cons p s ps ss h t ih =>
   refine .cons ?_ ih
   dsimp only
   by_cases e:p.1=q
   .rw[ah e,ah (h.1.symm.trans e)];exact ⟨h.1,rd⟩
   .rw[ai e,ai (fun z=>e (h.1.trans z))];exact h
 .rw[ai hx,ai hx]
  exact Paired.snoc r ⟨rfl,rd⟩
theorem uv {κ:Type} [DecidableEq κ] {kvs:List (κ×T)} {q:κ} {d:T}:(putA kvs q d).length<=kvs.length+1:=by
 unfold putA
 split
 .rw[af];lia
 .rw[ax];exact aA _
theorem ZlQ {κ:Type} [DecidableEq κ] {kvs:List (κ×T)} {q:κ} {d:T} (h:getA kvs q=none):putA kvs q d=kvs++[(q,d)]:=by
 unfold putA
 rw[ai]
 intro z
 rw[any_eq_true] at z
 obtain ⟨e,he,hk⟩:=z
 unfold getA at h
 rw[Option.map_eq_none_iff,find?_eq_none] at h
 exact h e he hk
theorem GOk.putD (g:GOk P w K G H) (h:(∃ kvs,G a=some (.dt kvs))\/(∃ kvs,G a=some (.dk kvs))\/H a=none) (hc:Kp G H (gput G a c) (upd H a o)->COk P w K (gput G a c) (upd H a o) a c):GOk P w K (gput G a c) (upd H a o)/\Stp G H (gput G a c) (upd H a o):=by
 have h':(∃ c,G a=some c)\/H a=none:=by
  rcases h with ⟨j,h⟩|⟨j,h⟩|h
  .exact .inl ⟨_,h⟩
  .exact .inl ⟨_,h⟩
  .exact .inr h
 have st:Stp G H (gput G a c) (upd H a o):=fun e u n he=>by
  have:e≠a:=fun z=>by
   subst z
   rcases h' with ⟨j,h⟩|h
   .rw[n] at h;cases h
   .rw[he] at h;cases h
  exact ⟨by rw[bh this];exact he,by rw[gp_n this];exact n⟩
 refine g.put h' (hc (st.kp g)) (fun e l he q z=>?_) fun e C dx fs he q z=>?_
 .subst z
  obtain ⟨u,hu⟩:=(g e _ q).1.lo
  have:=(g e _ q).2
  rcases h with ⟨j,h⟩|⟨j,h⟩|h
  .rw[this] at h;cases h
  .rw[this] at h;cases h
  .rw[hu] at h;cases h
 .subst z
  obtain ⟨j,j,qq,j⟩:=g e _ q
  rcases h with ⟨j,h⟩|⟨j,h⟩|h
  .rw[h] at qq;cases qq
  .rw[h] at qq;cases qq
  .rw[g.free h] at qq;cases qq
theorem qQ (h:∀ p,G p=none->k (.ptr p) (gput G p (.dt []))):We P w K qU Γ G k:=fun H Z g ev Q z p hp=>by
 obtain ⟨g2,s2⟩:=g.putD (c:=.dt []) (o:=.dT []) (.inr (.inr hp)) fun j=>⟨[],bC,.nil⟩
 exact z _ _ _ _ s2 g2 .ptr (h p (g.free hp))
theorem Zm5 (h:∀ p,G p=none->k (.ptr p) (gput G p (.dk []))):We P w K pM Γ G k:=fun H Z g ev Q z p hp=>by
 obtain ⟨g2,s2⟩:=g.putD (c:=.dk []) (o:=.dK []) (.inr (.inr hp)) fun j=>⟨[],bC,.nil⟩
 exact z _ _ _ _ s2 g2 .ptr (h p (g.free hp))
def AtD (G:GH) (x y:T) (r:Option T):Prop:=∃ a,x=.ptr a/\((∃ kvs ks,(G a=some (.dt kvs)\/∃ o vs,G a=some (.dz o vs kvs))/\y=keyT ks/\r=getA kvs ks)\/∃ kvs s,G a=some (.dk kvs)/\y=.str s/\r=getA kvs (.inr s:Key))
theorem AtD.of {u v:V} {r:Option T} (h:AtD G x y r) (g:GOk P w K G H) (rx:RepT K G H x u) (ry:RepT K G H y v):∃ a,u=.ref a/\((r=none/\DGet H a v none)\/∃ d w,r=some d/\RepT K G H d w/\DGet H a v (some w)):=by
 obtain ⟨a,rfl,h⟩:=h
 cases rx
 refine ⟨a,rfl,?_⟩
 rcases h with ⟨kvs,ks,h,rfl,rfl⟩|⟨kvs,s,h,rfl,rfl⟩
 .cases ry with
  | @tup c us _ hc rc =>
   rw[qS rc] at hc
   have:∃ kvs',Rd H a (.dT kvs')/\PA2 K G H kvs kvs':=by
    rcases h with h|⟨o,vs,h⟩
    .obtain ⟨kvs',e,pr⟩:=g a _ h;exact ⟨kvs',.inl e,pr⟩
    .obtain ⟨e,pr⟩:=g a _ h;exact ⟨vs,.inr ⟨o,e⟩,pr⟩
   obtain ⟨kvs',e,pr⟩:=this
   have dg:DGet H a (.ref c) (valV kvs' ks):=.inr ⟨kvs',ks,c,e,rfl,hc,rfl⟩
   rcases sd pr ks with ⟨n1,n2⟩|⟨d,v,n1,n2,rd⟩
   .rw[n2] at dg;exact .inl ⟨n1,dg⟩
   .rw[n2] at dg;exact .inr ⟨d,v,n1,rd,dg⟩
 .cases ry
  obtain ⟨kvs',e,pr⟩:=g a _ h
  have dg:=DGet.k (k:=(.inr s:Key)) e
  rcases sd pr (.inr s:Key) with ⟨n1,n2⟩|⟨d,v,n1,n2,rd⟩
  .rw[n2] at dg;exact .inl ⟨n1,dg⟩
  .rw[n2] at dg;exact .inr ⟨d,v,n1,rd,dg⟩
theorem oj (h:We P w K td Γ G fun x G1=>We P w K ty Γ G1 fun y G2=>∃ d,AtD G2 x y (some d)/\k d G2):We P w K (o0 td ty) Γ G k:=fun H Z g ev Q z=>h H Z g ev _ fun v H1 x G1 s1 g1 r1 q1=>q1 H1 Z g1 (ev.mono g s1) _ fun v2 H2 y G2 s2 g2 r2 z0_=>by
 obtain ⟨d,ad,q⟩:=z0_
 obtain ⟨a,rfl,⟨n,j⟩|⟨d',u,e,rd,dg⟩⟩:=ad.of g2 (r1.mono g1 s2) r2
 .cases n
 .cases e
  exact ⟨a,u,rfl,dg,(z.mono (s1.trans s2)).here g2 rd q⟩
theorem oH (h:We P w K ty Γ G fun y G1=>We P w K td Γ G1 fun x G2=>∃ r,AtD G2 x y r/\k (.bl (!r.isSome)) G2):We P w K (q9 ty td) Γ G k:=fun H Z g ev Q z=>h H Z g ev _ fun v H1 y G1 s1 g1 r1 q1=>q1 H1 Z g1 (ev.mono g s1) _ fun v2 H2 x G2 s2 g2 r2 z0_=>by
 obtain ⟨r,ad,q⟩:=z0_
 obtain ⟨a,rfl,⟨n,dg⟩|⟨d',u,e,rd,dg⟩⟩:=ad.of g2 r2 (r1.mono g1 s2)
 .subst n
  exact ⟨a,none,rfl,dg,(z.mono (s1.trans s2)).here g2 .bl q⟩
 .subst e
  exact ⟨a,_,rfl,dg,(z.mono (s1.trans s2)).here g2 .bl q⟩
theorem o9 (h:We P w K tv Γ G fun d G1=>We P w K td Γ G1 fun x G2=>We P w K ty Γ G2 fun y G3=>∃ a kvs ks,x=.ptr a/\G3 a=some (.dt kvs)/\y=keyT ks/\kvs.length < 100000/\D.nx Γ (gput G3 a (.dt (putA kvs ks d)))):Ws P w K (mS td ty tv) Γ G D:=fun H Z g ev D' z=>h H Z g ev _ fun v1 H1 d G1 s1 g1 r1 q1=>q1 H1 Z g1 (ev.mono g s1) _ fun v2 H2 x G2 s2 g2 r2 q2=>q2 H2 Z g2 (ev.mono g (s1.trans s2)) _ fun v3 H3 y G3 s3 g3 r3 z0_=>by
 obtain ⟨a,kvs,ks,rfl,e3,rfl,hl,q⟩:=z0_
 cases r2
 cases r3 with
 | @tup c us _ hc rc =>
  rw[qS rc] at hc
  obtain ⟨kvs',h3,pr⟩:=g3 a _ e3
  have rd:=r1.mono g1 (s2.trans s3)
  obtain ⟨g4,s4⟩:=g3.putD (c:=.dt (putA kvs ks d)) (o:=.dT (putK kvs' ks v1)) (.inl ⟨_,e3⟩) fun kk=>⟨_,bC,fF (fun p s t=>⟨t.1,t.2.kp kk⟩) (sC pr ks rd)⟩
  have s5:=s1.trans (s2.trans (s3.trans s4))
  exact ⟨a,_,rfl,DPut.t h3 hc (by rw[<-Paired.length pr,PySem.sizeLine_eq];lia),z.nx _ _ Γ _ s5 g4 (ev.mono g s5) q⟩
theorem uQ (h:We P w K tv Γ G fun d G1=>We P w K td Γ G1 fun x G2=>We P w K ty Γ G2 fun y G3=>∃ a kvs s,x=.ptr a/\G3 a=some (.dk kvs)/\y=.str s/\kvs.length < 100000/\D.nx Γ (gput G3 a (.dk (putA kvs (.inr s) d)))):Ws P w K (mS td ty tv) Γ G D:=fun H Z g ev D' z=>h H Z g ev _ fun v1 H1 d G1 s1 g1 r1 q1=>q1 H1 Z g1 (ev.mono g s1) _ fun v2 H2 x G2 s2 g2 r2 q2=>q2 H2 Z g2 (ev.mono g (s1.trans s2)) _ fun v3 H3 y G3 s3 g3 r3 z0_=>by
 obtain ⟨a,kvs,s,rfl,e3,rfl,hl,q⟩:=z0_
 cases r2
 cases r3
 obtain ⟨kvs',h3,pr⟩:=g3 a _ e3
 have rd:=r1.mono g1 (s2.trans s3)
 obtain ⟨g4,s4⟩:=g3.putD (c:=.dk (putA kvs (.inr s) d)) (o:=.dK (putK kvs' (.inr s) v1)) (.inr (.inl ⟨_,e3⟩)) fun kk=>⟨_,bC,fF (fun p s t=>⟨t.1,t.2.kp kk⟩) (sC pr (.inr s:Key) rd)⟩
 have s5:=s1.trans (s2.trans (s3.trans s4))
 exact ⟨a,_,rfl,DPut.k (k:=(.inr s:Key)) h3 (by rw[<-Paired.length pr,PySem.sizeLine_eq];lia),z.nx _ _ Γ _ s5 g4 (ev.mono g s5) q⟩
theorem pQ (h:We P w K td Γ G fun x G1=>∃ a kvs,x=.ptr a/\G1 a=some (.dt kvs)/\kvs.length < 64/\(∀ e∈kvs,∃ p:I3,e=([.inl p.1.1,.inl p.1.2],.int p.2)/\BdI p/\p.1.1.natAbs < 1000)/\∀ z:Str,z.length<=100000->k (.str z) G1):We P w K (tSis td) Γ G k:=fun H Z g ev Q z=>h H Z g ev _ fun v1 H1 x G1 s1 g1 r1 z0_=>by
 obtain ⟨a,kvs,rfl,ea,hl,hk,q⟩:=z0_
 cases r1
 obtain ⟨kvs',h1,pr⟩:=g1 a _ ea
 refine ⟨a,kvs',rfl,h1,by rw[<-Paired.length pr];exact hl,fun e he=>?_,fun y hy=>(z.mono s1).here g1 .str (q y hy)⟩
 obtain ⟨j,hj⟩:=eB.mp he
 have jl:j < kvs.length:=by rw[Paired.length pr];exact (ba.mp hj).1
 have ej:kvs[j]?=some kvs[j]:=aC jl
 obtain ⟨p,ep,b1,b2⟩:=hk _ (aE ej)
 obtain ⟨z1,z2⟩:=lA pr j ej hj
 rw[ep] at z1 z2
 obtain ⟨ek,ev⟩:=e
 dsimp only at z1 z2
 cases z2
 exact ⟨p,by rw[<-z1],b1,b2⟩
theorem oz {kx:List T->(GH->Prop)->GH->Prop} (h:We P w K td Γ G fun x G1=>∃ a kvs,x=.ptr a/\G1 a=some (.dt kvs)/\∀ o vs,kx (kvs.map fun p=>keyT p.1) (fun G'=>G' a=some (.dz o vs kvs)) (gput G1 a (.dz o vs kvs))):Wi P w K (iDT td) Γ G kx:=fun H Z g ev Q z=>h H Z g ev _ fun v1 H1 x G1 s1 g1 r1 z0_=>by
 obtain ⟨a,kvs,rfl,ea,q⟩:=z0_
 cases r1
 obtain ⟨kvs',h1,pr⟩:=g1 a _ ea
 refine ⟨a,kvs',rfl,h1,fun o=>?_⟩
 obtain ⟨g2,s2⟩:=g1.putD (c:=.dz o kvs' kvs) (o:=.frz o (.dT kvs')) (.inl ⟨_,ea⟩) fun kk=>⟨bC,fF (fun p s t=>⟨t.1,t.2.kp kk⟩) pr⟩
 refine z _ _ _ _ _ (s1.trans s2) g2 (fun G3 H3 s3 g3 e3=>?_) (q o kvs')
 obtain ⟨h3,pr3⟩:=g3 a _ e3
 have ln:=Paired.length pr3
 refine ⟨fun i x hx=>?_,h3,by rw[af,ln];exact aA _⟩
 rw[aq] at hx
 obtain ⟨p,ep,rfl⟩:=bc.mp hx
 have il:=(ba.mp ep).1
 refine ⟨⟨h3,by lia⟩,fun v H4 y=>?_⟩
 obtain ⟨rfl,b,ks,u,ek,rfl,hb⟩:=y
 have z1:=(lA pr3 i ep ek).1
 rw[z1]
 exact ⟨fun j j e=>e,.tup hb (pC ks)⟩
theorem ws_frz {t:TS} {i:Nat} {ts:List T} (e:Γ[i]?=some (some (.ptr a))) (n:G a=none) (h:Ws P w K t (Γ.set i (some (.lst ts))) G D):Ws P w K t Γ (gput G a (.lst ts)) D:=fun H Z g ev D' z=>by
 have gd:=g.del (a:=a) fun x e=>by rw[gp_s] at e;cases e
 obtain ⟨xs,ha,rs⟩:=g a _ gp_s
 have kk:Kp (gput G a (.lst ts)) H (gdel (gput G a (.lst ts)) a) H:=oB (ts:=ts) (a:=a)
 have rs:=rs.kp kk
 rw[gp_d n] at gd rs kk
 have st:Stp (gput G a (.lst ts)) H G H:=fun b o nb hb=>⟨hb,by
  by_cases hba:b=a
  .rw[hba];exact n
  .rwa [gp_n hba] at nb⟩
 have hl:i < Γ.length:=(ba.mp e).1
 refine h H Z gd ⟨by rw[cr];exact ev.len,fun j t q=>?_⟩ D' (z.mono st)
 by_cases hij:i=j
 .subst hij
  rw[jk hl] at q
  cases q
  obtain ⟨v,hv,r⟩:=ev.at' i _ e
  cases r
  exact ⟨_,hv,.lst n ha rs⟩
 .rw[nj hij] at q
  obtain ⟨v,hv,r⟩:=ev.at' j t q
  exact ⟨v,hv,r.kp kk⟩
theorem rH {t:T} {n:Nat} (pl:PlT n t) (ht:∃ ts,t=.tup ts\/t=.lst ts) (hn:n<=40) (hl:lnT t<=1000000) (q:k (.str (shT t)) G):LNr P w K (rStrT K) [t] G k:=fun H us g r Q z=>by
 cases r with
 | cons r1 r2 =>
  cases r2
  obtain ⟨ts,rfl|rfl⟩:=ht
  .cases r1 with
   | tup ha rs=>exact ⟨G,_,n,_,rfl,.tup ha rs,pl,hn,hl,z.here g .str q⟩
  .cases r1 with
   | lst ga ha rs=>exact ⟨G,_,n,_,rfl,.lst ga ha rs,pl,hn,hl,z.here g .str q⟩
end
end L2
end
section
namespace L2
open PySem
abbrev plT (p:Int×Int):T:=.tup [.int p.1,.int p.2]
def plS (pl:List (Int×Int)):Str:=shT (.lst (pl.map plT))
abbrev plcs (l:List SF):List (Int×Int):=l.map fun s=>(s.1,s.2.1)
theorem ls (p:Int×Int):cs (shT (plT p))=40::(cs (numS p.1)++44::32::(cs (numS p.2)++[41])):=by
 have:shT (plT p)=(("(":Str)++(toString p.1++", "++toString p.2)++")"):=by
  show tupleText (shTs [.int p.1,.int p.2])=_
  rw[shTs,shTs,shTs,shT,shT]
  rfl
 rw[this,dJ,dJ,dJ,dJ]
 show [40]++(cs (numS p.1)++[44,32]++cs (numS p.2))++[41]=_
 simp
theorem um {m n:Int} {c d:Nat} {x y:List Nat} (hc:c=44\/c=41) (hd:d=44\/d=41) (e:cs (numS m)++c::x=cs (numS n)++d::y):m=n/\x=y:=by
 have key:∀ {p q:List Nat},(∀ a∈p,a=45\/(48<=a/\a<=57))->(∀ a∈q,a=45\/(48<=a/\a<=57))->p++c::x=q++d::y->p=q/\x=y:=by
  intro p
  induction p with
  | nil =>
   intro q j hq e
   cases q with
   | nil=>injection e with _ e;exact ⟨rfl,e⟩
   | cons a q =>
    injection e with e _
    have:=hq a bi
    lia
  | cons b p ih =>
   intro q hp hq e
   cases q with
   | nil =>
    injection e with e _
    have:=hp b bi
    lia
   | cons a q =>
    injection e with e1 e2
    obtain ⟨h1,h2⟩:=ih (fun a ha=>hp a (bH _ ha)) (fun a ha=>hq a (bH _ ha)) e2
    exact ⟨by rw[e1,h1],h2⟩
 obtain ⟨h1,h2⟩:=key (rq m) (rq n) e
 refine ⟨?_,h2⟩
 have val:∀ {a b:Int},cs (numS a)=cs (numS b)->a=b:=by
  intro a b e
  rcases lO a with ⟨p,rfl,e1⟩|⟨p,hp,rfl,e1⟩ <;> rcases lO b with ⟨q,rfl,e2⟩|⟨q,hq,rfl,e2⟩
  .rw[e1,e2] at e
   rw[<-mi p,<- mi q,e]
  .rw[e1,e2] at e
   have:=lK p 45 (by rw[e];exact bi)
   lia
  .rw[e1,e2] at e
   have:=lK q 45 (by rw[<-e];exact bi)
   lia
  .rw[e1,e2] at e
   injection e with _ e
   rw[<-mi p,<- mi q,e]
 exact val h1
theorem t9 {p q:Int×Int} {x y:List Nat} (e:cs (shT (plT p))++x=cs (shT (plT q))++y):p=q/\x=y:=by
 rw[ls,ls] at e
 simp only[cons_append,eh,kK] at e
 injection e with _ e
 obtain ⟨h1,e⟩:=um (.inl rfl) (.inl rfl) e
 injection e with _ e
 obtain ⟨h2,e⟩:=um (.inr rfl) (.inr rfl) e
 exact ⟨Prod.ext h1 h2,e⟩
theorem Znx {pl pm:List (Int×Int)} {x y:Str} (e:plS pl++x=plS pm++y):pl=pm:=by
 have e:=congrArg cs e
 have sh:∀ l:List (Int×Int),shTs (l.map plT)=l.map fun p=>shT (plT p):=fun l=>by
  induction l with
  | nil=>rw[map_nil,shTs];rfl
  | cons a l ih=>rw[aS,shTs,ih];rfl
 have body:∀ l:List (Int×Int),cs (plS l)=91::(match l with|[]=>[]|p::r=>cs (shT (plT p))++(r.map fun p=>44::32::cs (shT (plT p))).flatten)++[93]:=fun l=>by
  unfold plS
  rw[shT,qO,sh]
  cases l with
  | nil=>rfl
  | cons p r=>simp[map_map,Function.comp_def]
 have rest:∀ {l m:List (Int×Int)} {u v:List Nat},(l.map fun p=>44::32::cs (shT (plT p))).flatten++93::u=(m.map fun p=>44::32::cs (shT (plT p))).flatten++93::v->l=m:=by
  intro l
  induction l with
  | nil =>
   intro m u v e
   cases m with
   | nil=>rfl
   | cons a m=>simp at e
  | cons a l ih =>
   intro m u v e
   cases m with
   | nil=>simp at e
   | cons b m =>
    simp only[aS,gE,cons_append,eh] at e
    injection e with _ e
    injection e with _ e
    obtain ⟨h1,e⟩:=t9 e
    rw[h1,ih e]
 rw[dJ,dJ,body,body] at e
 cases pl with
 | nil =>
  cases pm with
  | nil=>rfl
  | cons b m=>simp[ls] at e
 | cons a l =>
  cases pm with
  | nil=>simp[ls] at e
  | cons b m =>
   simp only[cons_append,eh,kK] at e
   injection e with _ e
   obtain ⟨h1,e⟩:=t9 e
   rw[h1,rest e]
structure StL where
 n:Nat
 fr:List SF
 dd:T
abbrev stT (d:StL):T:=.tup [.int d.n,.lst (d.fr.map sfT),d.dd]
structure PpK (Q:List Df) (n:Nat) (fr:List SF):Prop where
 nb:n<=40
 ex:∃ f s,fr=f++[s]/\FrsOk Q n (10 ^ 60) f s
 cn:bR fr
abbrev L3i:=Int×Int×Int
abbrev lyT (x:L3i):T:=.tup [.int x.1,.int x.2.1,.int x.2.2]
def InFr (l:List SF) (i j:Int):Prop:=0<=i/\0<=j/\∃ s,l[i.toNat]?=some s/\j < s.2.2.length
structure LayOk (l:List SF) (lay:List L3i):Prop where
 len:lay.length<=40
 ok:∀ x∈lay,InFr l x.1 x.2.1/\x.2.2.natAbs<=2
def KyE (Q:List Df) (m:Nat) (e:Key×T):Prop:=∃ (s:Str) (k:Nat) (lay:List L3i),e=(.inr s,.tup [.int k,.lst (lay.map lyT)])/\k < m/\(lay=[]\/∃ l n B z,s=plS (plcs l)++z/\(∃ f t,l=f++[t]/\FrsOk Q n B f t)/\LayOk l lay)
theorem KyE.up {Q:List Df} {m n:Nat} {e:Key×T} (h:KyE Q m e) (l:m<=n):KyE Q n e:=let ⟨s,k,lay,h1,h2,h3⟩:=h;⟨s,k,lay,h1,cq h2 l,h3⟩
theorem ZnI {Q:List Df} {l m:List SF} {n n' B B':Nat} (h1:∀ t∈l,SfOk Q n B t) (h2:∀ t∈m,SfOk Q n' B' t) (e:plcs l=plcs m) {i j:Int} (h:InFr l i j):InFr m i j:=by
 obtain ⟨hi,hj,s,es,hl⟩:=h
 refine ⟨hi,hj,?_⟩
 have e1:(plcs l)[i.toNat]?=some (s.1,s.2.1):=by rw[aq,es];rfl
 rw[e,aq] at e1
 obtain ⟨t,et,eq⟩:=bc.mp e1
 refine ⟨t,et,?_⟩
 obtain ⟨d,r,a1,a2,a3,a4,a5⟩:=(h1 s (aE es)).ex
 obtain ⟨d',r',b1,b2,b3,b4,b5⟩:=(h2 t (aE et)).ex
 have:t.1=s.1:=(Prod.mk.inj eq).1
 rw[this,a2] at b2
 cases b2
 lia
theorem jU {κ:Type} [DecidableEq κ] (kvs:List (κ×T)) (q r:κ) (d:T):getA (putA kvs q d) r=if q=r then some d else getA kvs r:=by
 unfold getA putA
 by_cases hx:(kvs.any fun kv=>decide (kv.1=q))=true
 .rw[ah hx]
  induction kvs with
  | nil=>cases hx
  | cons e l ih =>
   rw[aS,du,du]
   by_cases h1:e.1=q
   .rw[ah h1]
    by_cases h2:q=r
    .rw[ah h2,aX (show e.1=r from h1.trans h2)];rfl
    .rw[ai h2,aQ (show ¬ e.1=r from fun z=>h2 (h1.symm.trans z))]
     have ho:∀ l:List (κ×T),(List.find? (fun x=>decide (x.1=r)) (l.map fun kv=>if kv.1=q then (kv.1,d) else kv)).map (·.2)=(List.find? (fun x=>decide (x.1=r)) l).map (·.2):=fun l=>by
      induction l with
      | nil=>rfl
      | cons a l ih =>
       rw[aS,du,du]
       by_cases h3:a.1=q
       .rw[ah h3,aQ (show ¬ a.1=r from fun z=>h2 (h3.symm.trans z))];exact ih
       .rw[ai h3]
        by_cases h4:a.1=r
        .rw[aX h4]
        .rw[aQ h4];exact ih
     exact ho l
   .rw[ai h1]
    have hx:(l.any fun kv=>decide (kv.1=q))=true:=by
     rw[fT,aQ h1,Bool.false_or] at hx;exact hx
    by_cases h4:e.1=r
    .rw[aX h4,ai (fun z=>h1 (h4.trans z.symm))]
    .rw[aQ h4];exact ih hx
 .rw[ai hx,find?_append]
  have hn:∀ e∈kvs,¬ e.1=q:=fun e he z=>hx (any_eq_true.mpr ⟨e,he,aX z⟩)
  by_cases h2:q=r
  .rw[ah h2]
   have:List.find? (fun x=>decide (x.1=r)) kvs=none:=find?_eq_none.mpr fun e he z=>hn e he ((nN z).trans h2.symm)
   rw[this,du,aX h2];rfl
  .rw[ai h2,du,aQ h2,find?_nil,Option.or_none]
end L2
namespace L2
open PySem
structure LdSt (G G':GH) (b l la kd:Addr) (nw:List Addr) (lane:List StL) (kc:Ct):Prop where
 bag:G' b=some (.bag l)
 ln:G' la=some (.lst (lane.map stT))
 kn:G' kd=some kc
 old:∀ x,x∉nw->x≠la->x≠kd->G' x=G x
 fre:∀ x∈nw,G x=none/\∃ c,G' x=some c/\∀ y,c≠.own y
 nb:b∉nw/\la∉nw/\kd∉nw
 ne:la≠kd/\b≠la/\b≠kd
section
variable {G G':GH} {b l la kd:Addr} {nw:List Addr} {lane:List StL} {kc:Ct} {a:Addr} {c:Ct}
theorem LdSt.start (h1:G b=some (.bag l)) (h2:G la=some (.lst (lane.map stT))) (h3:G kd=some kc) (h4:(∃ k,kc=.dt k)\/∃ k,kc=.dk k):LdSt G G b l la kd [] lane kc:=by
 refine ⟨h1,h2,h3,fun j j j j=>rfl,fun x hx=>(by cases hx),⟨cp,cp,cp⟩,fun e=>?_,fun e=>?_,fun e=>?_⟩
 .rw[e,h3] at h2;rcases h4 with ⟨j,rfl⟩|⟨j,rfl⟩ <;> cases h2
 .rw[e,h2] at h1;cases h1
 .rw[e,h3] at h1;rcases h4 with ⟨j,rfl⟩|⟨j,rfl⟩ <;> cases h1
theorem LdSt.put (h:LdSt G G' b l la kd nw lane kc) (ha:a∈nw) (hc:∀ y,c≠.own y):LdSt G (gput G' a c) b l la kd nw lane kc:=by
 have n1:b≠a:=fun e=>h.nb.1 (e▸ha)
 have n2:la≠a:=fun e=>h.nb.2.1 (e▸ha)
 have n3:kd≠a:=fun e=>h.nb.2.2 (e▸ha)
 refine ⟨by rw[gp_n n1];exact h.bag,by rw[gp_n n2];exact h.ln,by rw[gp_n n3];exact h.kn,fun x h1 h2 h3=>?_,fun x hx=>⟨(h.fre x hx).1,?_⟩,h.nb,h.ne⟩
 .rw[gp_n (fun e=>h1 (by rw[e];exact ha))];exact h.old x h1 h2 h3
 .by_cases e':x=a
  .exact ⟨c,by rw[e',gp_s],hc⟩
  .rw[gp_n e'];exact (h.fre x hx).2
theorem LdSt.fresh (h:LdSt G G' b l la kd nw lane kc) (n:G' a=none) (hc:∀ y,c≠.own y):LdSt G (gput G' a c) b l la kd (a::nw) lane kc/\a∉nw/\a≠la/\a≠kd/\a≠b:=by
 have n1:a≠b:=fun e=>by rw[e,h.bag] at n;cases n
 have n2:a≠la:=fun e=>by rw[e,h.ln] at n;cases n
 have n3:a≠kd:=fun e=>by rw[e,h.kn] at n;cases n
 have n4:a∉nw:=fun q=>by
  obtain ⟨j,c,e,j⟩:=h.fre a q
  rw[n] at e;cases e
 have ga:G a=none:=by rw[<-h.old a n4 n2 n3];exact n
 refine ⟨⟨by rw[gp_n n1.symm];exact h.bag,by rw[gp_n n2.symm];exact h.ln,by rw[gp_n n3.symm];exact h.kn,fun x h1 h2 h3=>?_,fun x hx=>?_,⟨?_,?_,?_⟩,h.ne⟩,n4,n2,n3,n1⟩
 .rw[aG,bM] at h1
  rw[gp_n h1.1];exact h.old x h1.2 h2 h3
 .rcases aG.mp hx with rfl|hx
  .exact ⟨ga,c,gp_s,hc⟩
  .rw[gp_n (fun e=>n4 (by rw[<-e];exact hx))];exact h.fre x hx
 .rw[aG,bM];exact ⟨n1.symm,h.nb.1⟩
 .rw[aG,bM];exact ⟨n2.symm,h.nb.2.1⟩
 .rw[aG,bM];exact ⟨n3.symm,h.nb.2.2⟩
theorem LdSt.app (h:LdSt G G' b l la kd nw lane kc) (lane':List StL):LdSt G (gput G' la (.lst (lane'.map stT))) b l la kd nw lane' kc:=by
 refine ⟨by rw[gp_n h.ne.2.1];exact h.bag,gp_s,by rw[gp_n h.ne.1.symm];exact h.kn,fun x h1 h2 h3=>?_,fun x hx=>?_,h.nb,h.ne⟩
 .rw[gp_n h2];exact h.old x h1 h2 h3
 .rw[gp_n (fun e=>h.nb.2.1 (by rw[<-e];exact hx))];exact h.fre x hx
theorem LdSt.kput (h:LdSt G G' b l la kd nw lane kc) (c:Ct):LdSt G (gput G' kd c) b l la kd nw lane c:=by
 refine ⟨by rw[gp_n h.ne.2.2];exact h.bag,by rw[gp_n h.ne.1];exact h.ln,gp_s,fun x h1 h2 h3=>?_,fun x hx=>?_,h.nb,h.ne⟩
 .rw[gp_n h3];exact h.old x h1 h2 h3
 .rw[gp_n (fun e=>h.nb.2.2 (by rw[<-e];exact hx))];exact h.fre x hx
def SubD (G0 G:GH):Prop:=∀ b,G0 b=G b\/(G0 b=none/\∀ x,G b≠some (.own x))
theorem SubD.gok {G0 G:GH} (s:SubD G0 G) {P:Program} {w:World} {K:W.Frag} {H:Hp} (g:GOk P w K G H):GOk P w K G0 H/\Kp G H G0 H/\∀ b,G b=none->G0 b=none:=by
 have n0:∀ b,G b=none->G0 b=none:=fun b e=>by
  rcases s b with h|⟨h,j⟩
  .rw[h];exact e
  .exact h
 have kk:Kp G H G0 H:=⟨fun j j h=>h,fun c xs n h=>⟨h,n0 c n⟩⟩
 refine ⟨fun b c e=>?_,kk,n0⟩
 have e':G b=some c:=by
  rcases s b with h|⟨h,j⟩
  .rw[<-h];exact e
  .rw[h] at e;cases e
 refine (g b c e').kp kk (fun j h=>h) (fun l j=>⟨fun j h=>h,n0 l⟩) fun C dx fs z q=>?_
 rcases s dx with h|⟨h,h2⟩
 .rw[h];exact q
 .exact absurd q (h2 _)
theorem Zn3 {G0 G:GH} {k:T->GH->Prop} {d:T} (s:SubD G0 G) (h:Cl k d G0):Cl k d G:=by
 obtain ⟨d',G',h1,h2,h3⟩:=h
 refine ⟨d',G',fun c q=>h1 c ?_,fun P w K H v g r=>?_,h3⟩
 .rcases s c with e|⟨e,j⟩
  .rw[e];exact q
  .exact e
 .obtain ⟨g2,k2,j⟩:=s.gok g
  exact h2 P w K H v g2 (r.kp k2)
theorem LdSt.fin (h:LdSt G G' b l la kd nw lane kc) {k:T->GH->Prop} {d:T} (q:Cl k d (gput (gput G la (.lst (lane.map stT))) kd kc)):Cl k d G':=by
 refine Zn3 (fun x=>?_) q
 by_cases h3:x=kd
 .subst h3;rw[gp_s,h.kn];exact .inl rfl
 by_cases h2:x=la
 .subst h2;rw[gp_n h3,gp_s,h.ln];exact .inl rfl
 rw[gp_n h3,gp_n h2]
 by_cases h1:x∈nw
 .obtain ⟨e1,c,e2,e3⟩:=h.fre x h1
  exact .inr ⟨e1,fun y e=>by rw[e2] at e;cases e;exact e3 y rfl⟩
 .rw[h.old x h1 h2 h3];exact .inl rfl
end
end L2
namespace L2
open PySem
theorem hJ {m i:Nat} {x:T} (h:(rngT m)[i]?=some x):x=.int (i:Int)/\i < m:=by
 unfold rngT at h
 rw[aq] at h
 obtain ⟨j,ej,rfl⟩:=bc.mp h
 have:=(ba.mp ej).1
 rw[kR] at this
 rw[getElem?_range this] at ej
 cases ej
 exact ⟨rfl,this⟩
theorem gw {m:Nat}:(rngT m).length=m:=by unfold rngT;simp
end L2
namespace L2
open PySem
theorem sk {α : Type} {R : Nat -> α -> Prop} : ∀ (m : Nat), (∀ j, j < m -> ∃ x, R j x) -> ∃ xs : List α, xs.length = m /\ ∀ j x, xs[j]? = some x -> R j x
  | 0, _ => ⟨[], rfl, fun j x h => by cases h⟩
  | m + 1, h => by
    obtain ⟨xs,h1,h2⟩:=sk m fun j hj=>h j (by lia)
    obtain ⟨x,hx⟩:=h m (by lia)
    refine ⟨xs++[x],by rw[ax,h1];rfl,fun j y e=>?_⟩
    rcases cG e with ⟨z,e⟩|⟨e1,e2⟩
    . exact h2 j y e
    . rw[e1, e2, h1]; exact hx
theorem pap_ok {Q:List Df} {n B N:Nat} {f:List SF} {s:SF} (h:FrsOk Q n B f s) (hN:N<=40) {pap:List SF} (hl:pap.length=(f++[s]).length) (ha:∀ (i:Nat) t s',pap[i]?=some t->(f++[s])[i]?=some s'->t.1=s'.1/\t.2.1=s'.2.1/\t.2.2.length=s'.2.2.length/\∀ g∈t.2.2,Fo N (10 ^ 60) g/\Cano g):PpK Q N pap:=by
 have at':∀ (i:Nat) t,pap[i]?=some t->∃ s',(f++[s])[i]?=some s'/\t.1=s'.1/\t.2.1=s'.2.1/\t.2.2.length=s'.2.2.length/\∀ g∈t.2.2,Fo N (10 ^ 60) g/\Cano g:=fun i t e=>by
  have hi:=(ba.mp e).1
  have es:(f++[s])[i]?=some ((f++[s])[i]'(by lia)):=aC _
  exact ⟨_,es,ha i t _ e es⟩
 have sok:∀ t∈pap,SfOk Q N (10 ^ 60) t:=fun t ht=>by
  obtain ⟨i,hi⟩:=eB.mp ht
  obtain ⟨s',es,e1,e2,e3,e4⟩:=at' i t hi
  obtain ⟨d,r,a1,a2,a3,a4,a5⟩:=(h.all s' (aE es)).ex
  exact ⟨⟨d,r,by rw[e1];exact a1,by rw[e1];exact a2,by rw[e2];exact a3,by rw[e2];exact a4,by rw[e3];exact a5⟩,fun g hg=>(e4 g hg).1⟩
 have ne:pap≠[]:=fun e=>by rw[e,ax] at hl;simp at hl
 have sp:pap=pap.dropLast++[pap.getLast ne]:=(qA ne).symm
 have hdl:pap.dropLast.length=f.length:=by rw[length_dropLast,hl,ax];simp
 refine ⟨hN,⟨pap.dropLast,pap.getLast ne,sp,by rw[hdl];exact h.few,fun t ht=>sok t (by rw[sp];exact ht),fun t ht=>?_⟩,fun t ht g hg=>?_⟩
 .obtain ⟨i,hi⟩:=eB.mp ht
  have il:=(ba.mp hi).1
  have hp:pap[i]?=some t:=by rw[sp,cL il];exact hi
  obtain ⟨s',es,e1,e2,j⟩:=at' i t hp
  rw[cL (by lia)] at es
  rw[e1,e2]
  exact h.call s' (aE es)
 .obtain ⟨i,hi⟩:=eB.mp ht
  obtain ⟨s',es,j,j,j,e4⟩:=at' i t hi
  exact (e4 g hg).2
structure FmD (N:Nat) (frm:List (List Key×T)) (m:Nat):Prop where
 len:frm.length<=m
 ok:∀ key t,getA frm key=some t->∃ fm,t=fmT fm/\Fo N (10 ^ 60) fm/\Cano fm
theorem FmD.nil {N:Nat}:FmD N [] 0:=⟨aA _,fun key t e=>by cases e⟩
theorem FmD.put {N m:Nat} {frm:List (List Key×T)} (h:FmD N frm m) {fm:Fm} (h1:Fo N (10 ^ 60) fm) (h2:Cano fm) (ks:List Key):FmD N (putA frm ks (fmT fm)) (m+1):=⟨aR uv (by have:=h.len;lia),fun key t e=>by
 rw[jU] at e
 split at e
 .cases e;exact ⟨fm,rfl,h1,h2⟩
 .exact h.ok key t e⟩
theorem px {frm:List (List Key×T)} {ks key:List Key} {t:T} (h:(getA frm key).isSome=true):(getA (putA frm ks t) key).isSome=true:=by
 rw[jU]
 split
 .rfl
 .exact h
theorem qM {frm:List (List Key×T)} {ks:List Key} {t:T}:(getA (putA frm ks t) ks).isSome=true:=by rw[jU,ah rfl];rfl
theorem pN {κ:Type} [DecidableEq κ] {kvs:List (κ×T)} {q:κ} {t:T} (h:getA kvs q=some t):(q,t)∈kvs:=by
 unfold getA at h
 obtain ⟨e,he,rfl⟩:=bc.mp h
 have:=find?_some he
 have eq:e.1=q:=nN this
 rw[<-eq]
 exact mem_of_find?_eq_some he
theorem Zl5 {κ:Type} [DecidableEq κ] {kvs:List (κ×T)} {e:κ×T} (h:e∈kvs):(getA kvs e.1).isSome=true:=by
 unfold getA
 rw[qt,find?_isSome]
 exact ⟨e,h,aX rfl⟩
theorem lI {N:Nat} {c:Int} {u:Nat} (hc:c.natAbs<=2) (hu:u < N):Fo N (10 ^ 60) (c,[(1,(u:Int))]):=⟨aR hc (by decide),fun p hp=>by rw[aU.mp hp];exact (by decide:(1:Int).natAbs<=10 ^ 60),fun p hp=>by rw[aU.mp hp];exact ⟨by show (0:Int)<=(u:Int);lia,by show (u:Int) < N;lia⟩,by simp⟩
theorem om {c:Int} {u:Int}:Cano (c,[(1,u)]):=⟨pairwise_singleton _ _,fun p hp=>by rw[aU.mp hp];exact (by decide:(1:Int)≠0)⟩
end L2
namespace L2
open PySem
theorem LdSt.del {G G':GH} {b l la kd:Addr} {nw:List Addr} {lane:List StL} {kc:Ct} {a:Addr} (h:LdSt G G' b l la kd (a::nw) lane kc) (na:a∉nw):LdSt G (gdel G' a) b l la kd nw lane kc:=by
 have ne:∀ x,x≠a->gdel G' a x=G' x:=fun x e=>by unfold gdel;rw[ai e]
 obtain ⟨n1,n2,n3⟩:=h.nb
 simp only[aG,bM] at n1 n2 n3
 refine ⟨by rw[ne _ n1.1];exact h.bag,by rw[ne _ n2.1];exact h.ln,by rw[ne _ n3.1];exact h.kn,fun x h1 h2 h3=>?_,fun x hx=>?_,⟨n1.2,n2.2,n3.2⟩,h.ne⟩
 .by_cases e:x=a
  .rw[e,(h.fre a bi).1];unfold gdel;rw[ah rfl]
  .rw[ne x e];exact h.old x (by rw[aG,bM];exact ⟨e,h1⟩) h2 h3
 .rw[ne x (fun e=>na (by rw[<-e];exact hx))];exact h.fre x (bH _ hx)
end L2
namespace L2
open PySem
def PlD:Nat->T->Prop
 | 0,t=>(∃ i,t=.int i)\/∃ x,t=.str x
 | n+1,t=>(∃ i,t=.int i)\/(∃ x,t=.str x)\/∃ ts,t=.tup ts/\ts.length<=1000/\∀ u∈ts,PlD n u
theorem PlD.int {n:Nat} {i:Int}:PlD n (.int i):=by cases n <;> exact .inl ⟨i,rfl⟩
theorem PlD.str {n:Nat} {x:Str}:PlD n (.str x):=by
 cases n
 .exact .inr ⟨x,rfl⟩
 .exact .inr (.inl ⟨x,rfl⟩)
theorem PlD.tup {n:Nat} {ts:List T} (hl:ts.length<=1000) (h:∀ u∈ts,PlD n u):PlD (n+1) (.tup ts):=.inr (.inr ⟨ts,rfl,hl,h⟩)
theorem PlD.up : ∀ {n m : Nat} {t : T}, PlD n t -> n <= m -> PlD m t
  | 0, m, t, h, _ => by rcases h with ⟨i, rfl⟩ | ⟨x, rfl⟩; exact .int; exact .str
  | n + 1, 0, _, _, h => by lia
  | n + 1, m + 1, t, h, hl => by
    rcases h with ⟨i,rfl⟩|⟨x,rfl⟩|⟨ts,rfl,h1,h2⟩
    . exact .int
    . exact .str
    . exact .tup h1 fun u hu => (h2 u hu).up (by lia)
theorem pld_fm {f:Fm} (h:f.2.length<=1000):PlD 3 (fmT f):=.tup (by simp) fun u hu=>by
 simp only[aG,cp,cW] at hu
 rcases hu with rfl|rfl
 .exact .int
 .refine .tup (by rw[af];exact h) fun u hu=>?_
  obtain ⟨p,j,rfl⟩:=bg.mp hu
  refine .tup (by simp) fun u hu=>?_
  simp only[aG,cp,cW] at hu
  rcases hu with rfl|rfl <;> exact .int
theorem tz {fl:List Fm} (hl:fl.length<=1000) (h:∀ f∈fl,f.2.length<=1000):PlD 4 (.tup (fl.map fmT)):=.tup (by rw[af];exact hl) fun u hu=>by
 obtain ⟨f,hf,rfl⟩:=bg.mp hu
 exact pld_fm (h f hf)
structure LnK (Q:List Df) (lane:List StL) (kvs:List (Key×T)):Prop where
 st:∀ d∈lane,PpK Q d.n d.fr/\PlD 8 d.dd
 ky:∀ e∈kvs,KyE Q lane.length e
 kl:kvs.length<=lane.length
theorem LnK.snoc {Q:List Df} {lane:List StL} {kvs:List (Key×T)} (h:LnK Q lane kvs) {d:StL} (h1:PpK Q d.n d.fr) (h2:PlD 8 d.dd) {s:Str} {lay:List L3i} (hs:getA kvs (.inr s:Key)=none) (h3:lay=[]\/∃ l n B z,s=plS (plcs l)++z/\(∃ f t,l=f++[t]/\FrsOk Q n B f t)/\LayOk l lay):LnK Q (lane++[d]) (putA kvs (.inr s) (.tup [.int lane.length,.lst (lay.map lyT)])):=by
 have ll:(lane++[d]).length=lane.length+1:=by rw[ax];rfl
 rw[ZlQ hs]
 refine ⟨fun e he=>?_,fun e he=>?_,by rw[ax,ll];have:=h.kl;simp;lia⟩
 .rcases aI.mp he with he|he
  .exact h.st e he
  .rw[aU.mp he];exact ⟨h1,h2⟩
 .rcases aI.mp he with he|he
  .exact (h.ky e he).up (by lia)
  .rw[aU.mp he];exact ⟨s,lane.length,lay,rfl,by lia,h3⟩
theorem LnK.at {Q:List Df} {lane:List StL} {kvs:List (Key×T)} (h:LnK Q lane kvs) {s:Str} {t:T} (e:getA kvs (.inr s:Key)=some t):∃ (k:Nat) (lay:List L3i),t=.tup [.int k,.lst (lay.map lyT)]/\k < lane.length/\(lay=[]\/∃ l n B z,s=plS (plcs l)++z/\(∃ f t,l=f++[t]/\FrsOk Q n B f t)/\LayOk l lay):=by
 obtain ⟨s',k,lay,e1,e2,e3⟩:=h.ky _ (pN e)
 injection e1 with a1 a2
 injection a1 with a1
 subst a1
 exact ⟨k,lay,a2,e2,e3⟩
end L2
namespace L2
open PySem
theorem sh_len:∀ (n:Nat) {t:T},PlT n t->(shT t).length<=lnT t:=by
 intro n
 have num:∀ {t:T} {i:Int},t=.int i->i.natAbs < 10 ^ 90->(shT t).length<=lnT t:=by
  rintro t i rfl h
  simp only[shT,lnT]
  exact jL h
 induction n with
 | zero=>rintro t ⟨i,e,h⟩;exact num e h
 | succ n ih =>
  rintro t (⟨i,e,h⟩|⟨ts,e,h⟩)
  .exact num e h
  .have all:∀ (ts:List T),(∀ u∈ts,PlT n u)->((shTs ts).map fun t=>t.length+2).sum<=lnTs ts:=fun ts=>by
    induction ts with
    | nil=>intro j;rw[shTs,lnTs];exact aA _
    | cons a ts ih2 =>
     intro h
     have h1:=ih (h a bi)
     have h2:=ih2 fun u hu=>h u (bH _ hu)
     rw[shTs,lnTs,aS,ce]
     lia
   have:=all ts h
   rcases e with rfl|rfl
   .simp only[shT,lnT];exact aR (mI _) (by lia)
   .simp only[shT,lnT];exact aR (o8 _) (by lia)
end L2
namespace L2
open PySem
theorem LnK.set {Q:List Df} {lane:List StL} {kvs:List (Key×T)} (h:LnK Q lane kvs) {i:Nat} {d:StL} (e:lane[i]?=some d) {dd:T} (hd:PlD 8 dd):LnK Q (lane.set i ⟨d.n,d.fr,dd⟩) kvs:=by
 refine ⟨fun x hx=>?_,by rw[cr];exact h.ky,by rw[cr];exact h.kl⟩
 rcases jA hx with hx|rfl
 .exact h.st x hx
 .exact ⟨(h.st d (aE e)).1,hd⟩
end L2
end
section
namespace L2
open PySem PySem.Spec PyProof.Rows
def pT (K:W.Frag):List V->Hp->VK->Prop:=fun xs H Q=>∃ (a:Addr) (ns:List Int),xs=[.ref a]/\SqL K H a (ns.map V.int)/\ns≠[]/\∀ M,M∈ns->(∀ x∈ns,x<=M)->Q (.int M) H
theorem Zk9 {X:Cx} (hc:X.calm=true):bF X (.builtin "max") (pT X.K):=by
 intro pins s Z H xs us Q I r h
 obtain ⟨a,ns,rfl,ha,hne,q⟩:=h
 obtain ⟨u,rfl,ru⟩:=vals1 r
 cases ru
 obtain ⟨its,vx,ht,z⟩:=I.list ha
 have hi:=intsAre_of vx
 obtain ⟨ps,e⟩:=hi.allInts.items
 have hns:ns=ps.toList.map (·.1):=by rw[<-hi.numsOf,<- nums_intItems,<- e]
 have hsz:0 < ps.size:=by
  have:=nR.mpr hne
  rw[hns,af,dL] at this;exact this
 refine max_intList (xs:=ps) (I.ok.hd hc) (by rw[<-e];exact ht.isList) hsz fun v h' tk hv hk=>?_
 obtain ⟨t,rfl⟩:=intItems_at hv
 obtain ⟨h1,h2⟩:=argBest_gt (numAt ps) (ps.size - 1)
 have ln:(ps.toList.map (·.1)).length=ps.size:=by rw[af,dL]
 refine ⟨.int _,H,I.kept hk,⟨t,rfl⟩,q _ ?_ fun y hy=>?_⟩
 .rw[hns,numAt_eq];exact getD_mem (by lia)
 .rw[hns] at hy
  obtain ⟨j,hj,rfl⟩:=mem_getD hy
  rw[<-numAt_eq];exact h2 j (by lia)
theorem uL {X:Cx} {K:W.Frag} (h:X.K=K) (hc:X.calm=true):bF X (.builtin "max") (pT K):=h▸Zk9 hc
section
variable {P:Program} {w:World} {K:W.Frag} {G:GH} {k:T->GH->Prop} {x:T} {ns:List Int} {i j:Int}
theorem rB (hne:ns≠[]) (q:∀ M,M∈ns->(∀ y∈ns,y<=M)->k (.int M) G):LNr P w K (pT K) [.lst (ns.map T.int)] G k:=fun H us g r Q z=>by
 cases r with|cons r1 r2=>cases r2;cases r1 with|lst _ e w=>exact ⟨_,ns,rfl,by rw[<-oX w];exact SqL.of e,hne,fun M h1 h2=>z.here g .int (q M h1 h2)⟩
theorem l_max (h:k (.int (if j > i then j else i)) G):LNr P w K rMax [.int i,.int j] G k:=fun H us g r Q z=>by
 cases r with|cons r1 r2=>cases r2 with|cons r2 r3 =>
 cases r1;cases r2;cases r3
 exact ⟨i,j,rfl,z.here g .int h⟩
end
section
variable {P:Program} {w:World} {K:W.Frag} {G:GH} {a:Addr} {Γ:Ev} {k:T->GH->Prop} {ts:List T} {y:T} {b c:Bool}
theorem l_neB (h:k (.bl (!decide (b=c))) G):L2r P w K rNe (.bl b) (.bl c) G k:=fun H u v g r1 r2 Q z=>by cases r1;cases r2;exact rQ (z.here g .bl h)
theorem l_intB (h:k (.int (if b then 1 else 0)) G):LNr P w K rInt [.bl b] G k:=fun H us g r Q z=>by
 cases r with|cons r1 r2=>cases r2;cases r1;exact .inr ⟨b,rfl,z.here g .int h⟩
end
section
variable {X:Cx} {pins:List (Addr×Obj)} {Z:St} {H:Hp} {s:Shared} {A:Around} {Q:Value->Shared->Prop} {E:Value->Shared->Prop} {b:Bool}
theorem Zjo {x:V} {u t:Value} {tp:Addr} {Ts:List V} {its:List Value} (I:Inv X pins Z H s) (rx:RelV x u) (ty:TyOf X.K H x t) (htp:H tp=some (.tup Ts)) (hv:∀ us,Vals Ts us->us=its) (e:PySem.W.kitAny X.K t its=some b) (h:∀ tk,Q (.bool b) { s with toks:=tk }) :
  wpAny (model X.prog X.w) A (call (.builtin "isinstance") [u,.ref tp]) Q E s:=by
 obtain ⟨j,us,hus,op⟩:=(show ObjOk X.prog X.w H s.heap tp (.tup Ts) from I.hok tp _ htp)
 obtain ⟨o,h1,h2,h3⟩:=op
 obtain rfl:=hv us hus
 have hg:∃ dd n sl,s.heap.get? tp=some ⟨.type "tuple",dd,.seq us.toArray n,sl⟩:=by
  obtain ⟨n,h3⟩:=h3
  obtain ⟨c,dd,da,sl⟩:=o
  obtain rfl:c=.type "tuple":=h2
  obtain rfl:da=.seq us.toArray n:=h3
  exact ⟨dd,n,sl,h1⟩
 obtain ⟨dd,n,sl,hg⟩:=hg
 cases ty with
 | non=>cases (show u=Value.none from rx);exact PySem.W.kia_tup PySem.W.kitx_none I.kIn True.intro hg e (fun z=>nomatch z) h
 | bl y=>cases (show u=Value.bool y from rx);exact PySem.W.kia_tup PySem.W.kitx_bool I.kIn True.intro hg e (fun z=>nomatch z) h
 | int i=>obtain ⟨t,q⟩:=(show ∃ t,u=Value.int i t from rx);cases q;exact PySem.W.kia_tup PySem.W.kitx_int I.kIn True.intro hg e (fun z=>nomatch z) h
 | str y=>obtain ⟨t,q⟩:=(show ∃ t,u=Value.str y t from rx);cases q;exact PySem.W.kia_tup PySem.W.kitx_str I.kIn True.intro hg e (fun z=>nomatch z) h
 | flt y=>obtain ⟨t,q⟩:=(show ∃ t,u=Value.float y t from rx);cases q;exact PySem.W.kia_tup PySem.W.kitx_float I.kIn True.intro hg e (fun z=>nomatch z) h
 | @lst a xs ea =>
  cases (show u=Value.ref a from rx)
  obtain ⟨j,j,n,j,h1⟩:=(show ObjOk X.prog X.w H s.heap a (.lst xs) from I.hok a _ ea)
  exact PySem.W.kia_tup PySem.W.kitx_list I.kIn ⟨_,h1,rfl⟩ hg e (fun z=>nomatch z) h
 | @frz a ob xs ea =>
  cases (show u=Value.ref a from rx)
  obtain ⟨j,j,j,n,j,h1⟩:=(show ObjOk X.prog X.w H s.heap a (.frz ob (.lst xs)) from I.hok a _ ea)
  exact PySem.W.kia_tup PySem.W.kitx_list I.kIn ⟨_,h1,rfl⟩ hg e (fun z=>nomatch z) h
 | @tup a xs ea =>
  cases (show u=Value.ref a from rx)
  obtain ⟨j,j,j,p⟩:=(show ObjOk X.prog X.w H s.heap a (.tup xs) from I.hok a _ ea)
  obtain ⟨o,h1,h2,j⟩:=p
  exact PySem.W.kia_tup PySem.W.kitx_tuple I.kIn ⟨o,h1,h2⟩ hg e (fun z=>nomatch z) h
 | @dK a kvs ea =>
  cases (show u=Value.ref a from rx)
  obtain ⟨j,j,vs,j,p⟩:=(show ObjOk X.prog X.w H s.heap a (.dK kvs) from I.hok a _ ea)
  obtain ⟨o,es,ep,h1,h2,j⟩:=p
  exact PySem.W.kia_tup PySem.W.kitx_dict I.kIn ⟨o,h1,h2.1⟩ hg e (fun z=>nomatch z) h
 | @dT a kvs ea =>
  cases (show u=Value.ref a from rx)
  obtain ⟨j,j,xs,j,o,es,ep,h1,h2,j⟩:=(show ObjOk X.prog X.w H s.heap a (.dT kvs) from I.hok a _ ea)
  exact PySem.W.kia_tup PySem.W.kitx_dict I.kIn ⟨o,h1,h2.1⟩ hg e (fun z=>nomatch z) h
 | @ins a C dx fs ea cl ha hn htk hm =>
  cases (show u=Value.ref a from rx)
  obtain ⟨mA,O,j⟩:=tG I.hok ea
  obtain ⟨od,J,j⟩:=O.look
  exact PySem.W.kia_tup (PySem.W.kitx_own (cl.get _) cl.hd ha hn htk hm) I.kIn J hg e (fun z=>nomatch z) h
end
theorem ZnQ {K:W.Frag} {t:String} (h:t∈["int","bool","str","tuple","list","dict","NoneType"]):PySem.W.kitAny K (.type t) [.type "list",.type "tuple"]=some (t == "list" || t == "tuple"):=by
 simp only[aG,mem_nil_iff,cW] at h
 rcases h with rfl|rfl|rfl|rfl|rfl|rfl|rfl <;> with_unfolding_all rfl
def rIsi2:List V->Hp->VK->Prop:=fun xs H Q=>∃ x tp t,xs=[x,.ref tp]/\tyN H x=some t/\H tp=some (.tup [.ty "list",.ty "tuple"])/\Q (.bl (t == "list" || t == "tuple")) H
theorem rf {X:Cx}:bF X (.builtin "isinstance") rIsi2:=by
 intro pins s Z H xs us Q I r h
 obtain ⟨x,tp,t,rfl,ht,hT,q⟩:=h
 cases r with
 | cons r1 r2 =>
  cases r2 with
  | cons r3 r4 =>
   cases r4
   cases r3
   obtain ⟨ty,hm⟩:=rh (K:=X.K) ht
   refine Zjo (its:=[.type "list",.type "tuple"]) I r1 ty hT (fun us hu=>?_) (ZnQ hm) fun tk=>⟨.bl _,H,I.tok _,rfl,q⟩
   cases hu with
   | cons a b =>
    cases b with
    | cons c d =>
     cases d
     cases a
     cases c
     rfl
section
variable {P:Program} {w:World} {K:W.Frag} {G:GH} {H:Hp} {k:T->GH->Prop} {x y:T} {Γ:Ev} {ta:TE}
theorem qR (h:We P w K ta Γ G fun x G1=>((∃ ts,SqI G1 x ts)\/(∀ a,x≠.ptr a)/\∀ xs,x≠.cst xs)/\k (.bl (tyT G1 x == "list" || tyT G1 x == "tuple")) G1):We P w K (tCB rIsi2 (a9 ta (a9 (tTup (a9 (tC (.ty "list")) (a9 (tC (.ty "tuple")) tNil))) tNil))) Γ G k:=fun H Z g ev Q z=>h H Z g ev _ fun v H1 x G1 s1 g1 r1 ⟨hx,q⟩=>by
 refine ⟨gU (by decide),fun p hp=>?_⟩
 have sm:=Same.new (o:=.tup [V.ty "list",V.ty "tuple"]) hp
 have g2:=g1.same sm
 exact ⟨v,p,tyT G1 x,rfl,tyN_T g2 (r1.mono g1 (Stp.same sm)) hx,bC,((z.mono s1).mono (Stp.same sm)).here g2 .bl q⟩
theorem qY {b:Bool} (h:k (.bl false) G):L2r P w K rNe (.bl b) (.bl b) G k:=l_neB (by rw[aX rfl];exact h)
theorem rg {b:Bool} (h:k (.bl true) G):L2r P w K rEq (.bl b) (.bl b) G k:=gZ (by rw[aX rfl];exact h)
end
section
variable {X:Cx} {a b elt iter tg:Expr} {ifs:List Expr} {ta tb te:TE} {pos:Pos} {wi:TI} {g:TG} {tt:TT} {sc:Scope} {x:Str}
theorem xc (K:W.Frag) (ha:PE X a ta) (hb:PE X b tb) (h:X.K=K:=by rfl) (hs:rV b:=by exact fun j j=>rfl):PE X (.Subscript a b pos) (tOp (rIxA K) ta tb):=f7 (k_ix h) ha hb hs
theorem xl (i:Nat) (hN:X.N.Nodup) (hi:X.N[i]?=some x:=by rfl) (hx:Loc X.env.scope x:=by exact Or.inl rfl) (hf:X.fn x=true\/X.env.scope.names.lookup x=some .local:=by first|exact .inl rfl|exact .inr rfl|assumption):PG X (.Name x pos) (dj i):=gQ hN hi hx hf
theorem xo (LN FN:List Str) (fr:List Nat) (hi:PI X tg iter wi) (ht:∀ cl C fp pins s H,PTs (bkCx X LN FN sc cl C fp pins s H) ifs tt) (he:∀ cl C fp pins s H,PE (bkCx X LN FN sc cl C fp pins s H) elt te)
  (hc:X.calm=true:=by rfl) (S:BkScope X.N sc X.env.scope LN FN fr:=by exact cR (by rfl)) (hg:∀ cl C fp pins s H,PG (bkCx X LN FN sc cl C fp pins s H) tg g:=by exact fun cl C fp pins s H=>gQ (i:=0) (show ((_:List Str)++(_:List Str)).Nodup by decide +kernel) rfl (Or.inl rfl))
  (hs:∀ x,foldedSetIterable iter X.env x=pure x:=by intro j;rfl):PE X (.ListComp elt [⟨tg,iter,ifs,0⟩] sc pos) (ff LN fr wi g tt te):=eY hc S hi hg ht he hs
theorem xm (LN FN:List Str) (fr:List Nat) (hi:PI X tg iter wi) (he:∀ cl C fp pins s H,PE (bkCx X LN FN sc cl C fp pins s H) elt te)
  (hc:X.calm=true:=by rfl) (S:BkScope X.N sc X.env.scope LN FN fr:=by exact cR (by rfl)) (hg:∀ cl C fp pins s H,PG (bkCx X LN FN sc cl C fp pins s H) tg g:=by exact fun cl C fp pins s H=>gQ (i:=0) (show ((_:List Str)++(_:List Str)).Nodup by decide +kernel) rfl (Or.inl rfl))
  (hs:∀ x,foldedSetIterable iter X.env x=pure x:=by intro j;rfl):PE X (.ListComp elt [⟨tg,iter,[],0⟩] sc pos) (ff LN fr wi g gN te):=eY hc S hi hg (fun j j j j j j=>dh) he hs
theorem xg (i:Nat) {es:List Expr} {t:TA} (hr:PA X es t) (hN:X.N[i]?=some x:=by rfl) (hv:Vis X.env.scope x:=by first|exact Or.inl rfl|exact Or.inr (Or.inl rfl)|exact Or.inr (Or.inr rfl)) (hd:(x == ("__debug__":Str))=false:=by decide) (hc:(x == ("__classdict__":Str))=false:=by decide):PA X (.Name x pos::es) (a9 (tVar i) t):=bn (pv i hN hv hd hc) hr
theorem xh (i:Nat) (hN:X.N[i]?=some x:=by rfl) (hv:Vis X.env.scope x:=by first|exact Or.inl rfl|exact Or.inr (Or.inl rfl)|exact Or.inr (Or.inr rfl)) (hd:(x == ("__debug__":Str))=false:=by decide) (hc:(x == ("__classdict__":Str))=false:=by decide):PA X [.Name x pos] (a9 (tVar i) tNil):=bn (pv i hN hv hd hc) ab
theorem xj {k:Nat} {ps:List Str} {sp:Sp} {p:Pos} {e:Expr} {es:List Expr} {t:TA} (C:Callee X.prog X.w X.K X.mg X.base x k ps sp) (hr:Room k X.A) (ha:PA X (e::es) t) (hg:Gl X x:=by rfl) (hdb:(x == ("__debug__":Str))=false:=by decide)
  (he:starEach (e::es) X.env=(false,eval e X.env)::starEach es X.env:=by rfl) (hpl:(backTo pos (starEach es X.env)).any (·.1)=false:=by rfl):PE X (.Call (.Name x p) (e::es) [] pos) (fc sp [] E0 t):=fM C hr hg ha hdb he hpl
end
end L2
end
section
open PySem L2
local macro_rules | `(tactic| walk_at"fs") => `(tactic| exact ⟨rfl,rfl,rfl,by decide +kernel,rfl,by decide +kernel,by decide +kernel⟩)
local macro_rules | `(tactic| walk_at"rd1") => `(tactic| (first | ((with_reducible refine' rd_var ?e ?_); (case e => exact rfl)) | with_reducible (first|refine rd_c ?_|refine rd_op ?_|refine rd_un ?_|refine rd_seq ?_|refine rd_asg ?_|refine ZlJ ?_|refine rd_ret ?_|refine rd_drop ?_|refine Znl ?_|refine rd_if ?_|refine Znj ?_|refine rd_tb ?_|refine rd_and ?_|refine rd_or ?_|refine rd_not ?_|refine uI ?_|refine rd_andV ?_|refine rd_orV ?_|refine rd_notV ?_|refine rd_ifE ?_|refine rd_chain ?_|refine rd_nil ?_|refine Zno ?_|refine rd_cb ?_|refine Znr ?_|refine rd_I0 ?_|refine rd_U ?_|refine tH ?_|refine ue ?_|refine tw ?_|refine rd_neS ?_|refine tW ?_|refine rQ ?_|refine rd_bl ?_|refine rd_int ?_|refine rd_tup ?_|refine rd_lst ?_|refine Znn ?_|refine ZlG ?_|refine Zka ?_|refine Znk ?_|refine rd_bm ?_|refine rd_bm0 ?_|refine Znp ?_|refine rd_itup ?_|refine ZlI ?_|refine rd_irng ?_|refine rd_gcons ?_|refine rd_gnil ?_|refine rd_for ?_|refine rd_abs ?_|refine rd_max ?_|refine rd_min ?_|refine rd_intB ?_|refine rd_dput ?_|refine rd_dget2 ?_|refine rd_dget ?_|refine gJ ?_|refine iteNF ?_|refine iteF ?_|refine iteT ?_)))
local macro_rules | `(tactic| walk_at"rd") => `(tactic| (repeat walk_at"rd1"))
local macro_rules | `(tactic| walk_at"mk") => `(tactic| refine ⟨mk_le rfl, ?_⟩)
local macro_rules | `(tactic| walk_at"w1x") => `(tactic| (first | ((with_reducible refine' eR ?e ?_); (case e => exact rfl)) | with_reducible (first|refine fZ ?_|refine iI ?_|refine ir ?_|refine ix ?_|refine iD ?_|refine iR ?_|refine d8 ?_|refine gh ?_|refine iH ?_|refine iL ?_|refine im ?_|refine iU ?_|refine je ?_|refine ii ?_|refine iO ?_|refine ik ?_|refine wt_b ?_|refine jj ?_|refine jb ?_|refine jh ?_|refine fz ?_|refine iz ?_|refine we_orV ?_|refine we_notV ?_|refine iS ?_|refine we_chain ?_|refine eM ?_|refine bE ?_|refine b0 ?_|refine aW ?_|refine dU ?_|refine b7 ?_|refine dZ ?_|refine eX ?_|refine fE ?_|refine ws_break ?_|refine ws_cont ?_|refine hU ?_|refine we_fld ?_|refine we_bits ?_|refine gt ?_|refine g8 ?_|refine we_meth ?_|refine we_make ?_|refine mh ?_|refine iC ?_|refine ow ?_|refine qd ?_|refine iN ?_|refine jc ?_|refine iA ?_|refine iY ?_|refine wi_enum ?_|refine wi_enumT ?_|refine wi_zip ?_|refine ws_sfld ?_|refine i5 ?_|refine we_nnew ?_|refine we_nget ?_|refine we_nset ?_|refine we_csget ?_|refine we_lzip ?_|refine l_any ?_|refine ja ?_|refine iu ?_|refine l_II ?_|refine l_IB ?_|refine l_U ?_|refine i7 ?_|refine iV ?_|refine iW ?_|refine l_neS ?_|refine gZ ?_|refine iQ ?_|refine i8 ?_|refine iP ?_|refine gT ?_|refine ji ?_|refine iM ?_|refine gJ ?_|refine iteNF ?_|refine iteF ?_|refine iteT ?_) | ((with_reducible refine' iT ?e ?_); (case e => exact rfl)) | ((with_reducible refine' cC ?e ?_); (case e => first | exact rfl | exact at_0 | exact at_1 | exact at_2)) | ((with_reducible refine' jV ?e ?_); (case e => exact rfl)) | with_reducible (first|refine kj ?_|refine j4 ?_) | ((with_reducible refine' jX ?e ?_); (case e => exact rfl)) | ((with_reducible refine' jI ?e ?_); (case e => exact rfl))))
local macro_rules | `(tactic| walk_at"lnx") => `(tactic| (intro _ _ _ h; repeat (first | (rw [h.1]; rfl) | (obtain ⟨_, h⟩ := h))))
local macro_rules | `(tactic| walk_at"wx") => `(tactic| (repeat walk_at"w1x"))
local macro_rules | `(tactic| walk_at"w1y") => `(tactic| (first | ((with_reducible refine' eR ?e ?_); (case e => exact rfl)) | with_reducible (first|refine fZ ?_|refine iI ?_|refine ir ?_|refine ix ?_|refine iD ?_|refine iR ?_|refine d8 ?_|refine gh ?_|refine iH ?_|refine iL ?_|refine im ?_|refine iU ?_|refine je ?_|refine ii ?_|refine iO ?_|refine ik ?_|refine wt_b ?_|refine jj ?_|refine jb ?_|refine jh ?_|refine fz ?_|refine iz ?_|refine we_orV ?_|refine we_notV ?_|refine iS ?_|refine we_chain ?_|refine eM ?_|refine bE ?_|refine b0 ?_|refine aW ?_|refine dU ?_|refine b7 ?_|refine dZ ?_|refine eX ?_|refine fE ?_|refine ws_break ?_|refine ws_cont ?_|refine hU ?_|refine we_fld ?_|refine we_bits ?_|refine gt ?_|refine g8 ?_|refine we_meth ?_|refine we_make ?_|refine mh ?_|refine iC ?_|refine ow ?_|refine qd ?_|refine iN ?_|refine jc ?_|refine iA ?_|refine iY ?_|refine wi_enum ?_|refine wi_zip ?_|refine ws_sfld ?_|refine i5 ?_|refine we_nnew ?_|refine we_nget ?_|refine we_nset ?_|refine we_csget ?_|refine we_lzip ?_|refine l_any ?_|refine ja ?_|refine iu ?_|refine l_II ?_|refine l_IB ?_|refine l_U ?_|refine i7 ?_|refine iV ?_|refine iW ?_|refine l_neS ?_|refine gZ ?_|refine iQ ?_|refine i8 ?_|refine iP ?_|refine gT ?_|refine ji ?_|refine iM ?_|refine gJ ?_|refine iteNF ?_|refine iteF ?_|refine iteT ?_) | ((with_reducible refine' iT ?e ?_); (case e => exact rfl))))
local macro_rules | `(tactic| walk_at"wy") => `(tactic| (repeat walk_at"w1y"))
local macro_rules | `(tactic| walk_at"w1z") => `(tactic| (first | ((with_reducible refine' eR ?e ?_); (case e => exact rfl)) | with_reducible (first|refine fZ ?_|refine iI ?_|refine ir ?_|refine ix ?_|refine iD ?_|refine iR ?_|refine d8 ?_|refine gh ?_|refine iH ?_|refine iL ?_) | ((with_reducible refine' lU ?e ?_); (case e => decide)) | with_reducible (first|refine we_lrng ?_|refine im ?_|refine iU ?_|refine je ?_|refine ii ?_|refine iO ?_|refine ik ?_|refine wt_b ?_|refine jj ?_|refine jb ?_|refine jh ?_|refine fz ?_|refine iz ?_|refine we_orV ?_|refine we_notV ?_|refine iS ?_|refine we_chain ?_|refine eM ?_|refine bE ?_|refine b0 ?_|refine aW ?_|refine dU ?_|refine b7 ?_|refine dZ ?_|refine eX ?_|refine fE ?_|refine ws_break ?_|refine ws_cont ?_|refine hU ?_|refine we_fld ?_|refine we_bits ?_|refine gt ?_|refine g8 ?_|refine we_meth ?_|refine we_make ?_|refine mh ?_|refine iC ?_|refine ow ?_|refine qd ?_|refine iN ?_|refine jc ?_|refine iA ?_|refine iY ?_|refine wi_enum ?_|refine wi_enumT ?_|refine wi_zip ?_|refine ws_sfld ?_|refine i5 ?_|refine we_nnew ?_|refine we_nget ?_|refine we_nset ?_|refine we_csget ?_|refine we_lzip ?_|refine l_any ?_|refine ja ?_|refine iu ?_|refine l_II ?_|refine l_IB ?_|refine l_U ?_|refine i7 ?_|refine iV ?_|refine iW ?_|refine l_neS ?_|refine gZ ?_|refine iQ ?_|refine i8 ?_|refine iP ?_|refine gT ?_|refine ji ?_|refine iM ?_|refine gJ ?_|refine iteNF ?_|refine iteF ?_|refine iteT ?_) | ((with_reducible refine' tk_d ?e ?_); (case e => exact rfl)) | ((with_reducible refine' bX ?e ?_); (case e => exact rfl)) | ((with_reducible refine' iT ?e ?_); (case e => exact rfl)) | ((with_reducible refine' cC ?e ?_); (case e => first | exact rfl | exact at_0 | exact at_1 | exact at_2)) | ((with_reducible refine' jV ?e ?_); (case e => exact rfl)) | with_reducible (first|refine kj ?_|refine j4 ?_) | ((with_reducible refine' jX ?e ?_); (case e => exact rfl)) | ((with_reducible refine' jI ?e ?_); (case e => exact rfl))))
local macro_rules | `(tactic| ext) => `(tactic| (repeat walk_at"w1z"))
local macro_rules | `(tactic| walk_at"w1u") => `(tactic| (first | ((with_reducible refine' eR ?e ?_); (case e => exact rfl)) | with_reducible (first|refine fZ ?_|refine iI ?_|refine ir ?_|refine ix ?_|refine iD ?_|refine iR ?_|refine d8 ?_|refine gh ?_|refine iH ?_|refine iL ?_) | ((with_reducible refine' lU ?e ?_); (case e => decide)) | with_reducible (first|refine we_lrng ?_|refine im ?_|refine iU ?_|refine je ?_|refine ii ?_|refine iO ?_|refine ik ?_|refine wt_b ?_|refine jj ?_|refine jb ?_|refine jh ?_|refine fz ?_|refine iz ?_|refine we_orV ?_|refine we_notV ?_|refine iS ?_|refine we_chain ?_|refine eM ?_|refine bE ?_|refine b0 ?_|refine aW ?_|refine dU ?_|refine b7 ?_|refine dZ ?_|refine eX ?_|refine fE ?_|refine ws_break ?_|refine ws_cont ?_|refine hU ?_|refine we_fld ?_|refine we_bits ?_|refine gt ?_|refine g8 ?_|refine we_meth ?_|refine we_make ?_|refine iC ?_|refine oj ?_|refine iN ?_|refine oz ?_|refine oH ?_|refine pQ ?_|refine wt_dni ?_|refine jc ?_|refine iA ?_|refine iY ?_|refine wi_enum ?_|refine wi_enumT ?_|refine wi_zip ?_|refine ws_sfld ?_|refine i5 ?_|refine we_nnew ?_|refine we_nget ?_|refine we_nset ?_|refine we_csget ?_|refine we_lzip ?_|refine l_any ?_|refine ja ?_|refine iu ?_|refine l_II ?_|refine l_IB ?_|refine l_U ?_|refine i7 ?_|refine iV ?_|refine iW ?_|refine l_neS ?_|refine gZ ?_|refine iQ ?_|refine i8 ?_|refine iP ?_|refine gT ?_|refine ji ?_|refine iM ?_|refine gJ ?_|refine iteNF ?_|refine iteF ?_|refine iteT ?_) | ((with_reducible refine' tk_d ?e ?_); (case e => exact rfl)) | ((with_reducible refine' bX ?e ?_); (case e => exact rfl)) | ((with_reducible refine' iT ?e ?_); (case e => exact rfl)) | ((with_reducible refine' cC ?e ?_); (case e => first | exact rfl | exact at_0 | exact at_1 | exact at_2)) | ((with_reducible refine' jV ?e ?_); (case e => exact rfl)) | with_reducible (first|refine kj ?_|refine j4 ?_) | ((with_reducible refine' jX ?e ?_); (case e => exact rfl)) | ((with_reducible refine' jI ?e ?_); (case e => exact rfl))))
local macro_rules | `(tactic| ac_nf) => `(tactic| (repeat walk_at"w1u"))
local macro_rules | `(tactic| walk_at"w1v") => `(tactic| (first | ((with_reducible refine' eR ?e ?_); (case e => exact rfl)) | with_reducible (first|refine fZ ?_|refine iI ?_|refine ir ?_|refine ix ?_|refine iD ?_|refine iR ?_|refine d8 ?_|refine gh ?_|refine iH ?_|refine iL ?_) | ((with_reducible refine' lU ?e ?_); (case e => decide)) | with_reducible (first|refine we_sortsetA ?_|refine qR ?_|refine we_lrng ?_|refine im ?_|refine iU ?_|refine je ?_|refine ii ?_|refine iO ?_|refine ik ?_|refine wt_b ?_|refine jj ?_|refine jb ?_|refine jh ?_|refine fz ?_|refine iz ?_|refine we_orV ?_|refine we_notV ?_|refine iS ?_|refine we_chain ?_|refine eM ?_|refine bE ?_|refine b0 ?_|refine aW ?_|refine dU ?_|refine b7 ?_|refine dZ ?_|refine eX ?_|refine fE ?_|refine ws_break ?_|refine ws_cont ?_|refine hU ?_|refine we_fld ?_|refine we_bits ?_|refine gt ?_|refine g8 ?_|refine we_meth ?_|refine we_make ?_|refine iC ?_|refine oj ?_|refine iN ?_|refine oz ?_|refine oH ?_|refine pQ ?_|refine wt_dni ?_|refine jc ?_|refine iA ?_|refine iY ?_|refine wi_enum ?_|refine wi_enumT ?_|refine wi_zip ?_|refine ws_sfld ?_|refine i5 ?_|refine we_nnew ?_|refine we_nget ?_|refine we_nset ?_|refine we_csget ?_|refine we_lzip ?_|refine l_any ?_|refine ja ?_|refine iu ?_|refine l_II ?_|refine l_IB ?_|refine l_U ?_|refine qY ?_|refine rg ?_|refine i7 ?_|refine iV ?_|refine iW ?_|refine l_neS ?_|refine gZ ?_|refine iQ ?_|refine i8 ?_|refine iP ?_|refine gT ?_|refine ji ?_|refine iM ?_|refine gJ ?_|refine iteNF ?_|refine iteF ?_|refine iteT ?_) | ((with_reducible refine' tk_d ?e ?_); (case e => exact rfl)) | ((with_reducible refine' bX ?e ?_); (case e => exact rfl)) | ((with_reducible refine' iT ?e ?_); (case e => exact rfl)) | ((with_reducible refine' cC ?e ?_); (case e => first | exact rfl | exact at_0 | exact at_1 | exact at_2)) | ((with_reducible refine' jV ?e ?_); (case e => exact rfl)) | with_reducible (first|refine kj ?_|refine j4 ?_) | ((with_reducible refine' jX ?e ?_); (case e => exact rfl)) | ((with_reducible refine' jI ?e ?_); (case e => exact rfl))))
local macro_rules | `(tactic| walk_at"wv") => `(tactic| (repeat walk_at"w1v"))
section
namespace My
open PySem L2
def top (i:Nat):Stmt:=PySem.Challenge.pw_midlanes_k31_silent_rows.main.body.getD i (.Pass ⟨0,0,0,0⟩)
abbrev ma:Stmt:=top 1
abbrev k8:Stmt:=top 2
abbrev mH:Stmt:=top 3
abbrev mP:Stmt:=top 4
abbrev lH:Stmt:=top 5
abbrev mX:Stmt:=top 6
abbrev l6:Stmt:=top 7
abbrev lS:Stmt:=top 8
abbrev kX:Stmt:=top 11
abbrev mr:Stmt:=top 12
abbrev mC:Stmt:=top 15
abbrev nc:Stmt:=top 16
abbrev lE:Stmt:=top 17
abbrev lT:Stmt:=top 18
abbrev l8:Stmt:=top 19
abbrev lY:Stmt:=top 20
abbrev l0:Stmt:=top 22
abbrev mf:Stmt:=top 23
abbrev lp:Stmt:=top 24
abbrev lW:Stmt:=top 25
abbrev lD:Stmt:=top 26
abbrev me:Stmt:=top 27
abbrev lc:Stmt:=top 29
abbrev lq:Stmt:=top 30
abbrev lP:Stmt:=top 31
abbrev lZ:Stmt:=top 32
abbrev m4:Stmt:=top 33
abbrev mN:Stmt:=top 34
abbrev kZ:Stmt:=top 35
abbrev kT:Stmt:=top 36
abbrev mK:Stmt:=top 37
abbrev ml:Stmt:=top 38
abbrev k7:Stmt:=top 39
abbrev mJ:Stmt:=top 40
abbrev mZ:Stmt:=top 41
abbrev lR:Stmt:=top 42
abbrev l5:Stmt:=top 43
abbrev m6:Stmt:=top 44
abbrev mj:Stmt:=top 45
abbrev g7:Stmt:=top 46
abbrev lN:Stmt:=top 47
abbrev lm:Stmt:=top 48
abbrev mU:Stmt:=top 49
abbrev lV:Stmt:=top 50
section
open PySem.W PyProof.Rows
abbrev LN0:String:="law_midlanes_k31_silent_rows"
def KK (P:Params):Frag:=[
(3,oD #[xe P "__name__" 165 (xs LN0 336),xe P "__doc__" 166 (.none),xe P "__package__" 167 (.none),xe P "__loader__" 168 (.builtin "__main__.__loader__#opaque"),xe P "__spec__" 169 (.none),xf P "__annotations__" 170 6,xf P "__builtins__" 171 4,xe P "__file__" 173 (xs "/claim/cut.py" 172),xe P "__cached__" 174 (.none),xf P "plain" 195 21,xf P "plus" 203 28,xf P "less" 211 35,xf P "times" 220 42,xf P "is_plain" 227 49,xf P "joined" 237 56,xf P "gather" 248 63,xf P "with_numbers" 254 68,xf P "RECKONINGS" 262 69,xf P "row_of" 270 76,xf P "goes_to_row" 278 83,xe P "MOST_SIGN_FRAMES" 282 (xi (4) 281),xf P "silent" 293 90,xf P "reckoned" 301 97,xf P "with_box" 311 104,xf P "at_row" 320 111,xf P "tested" 329 118,xf P "called" 335 123,xf P "_law_bag" 343 128,xf P "_law_draw" 352 135,xf P "_law_number" 359 142,xf P "_law_row" 365 147,xf P "_law_def" 371 152,xf P "_law_program" 377 157,xf P "_law_begun" 385 164,xf P "_law_step" 398 171,xf P "_law_goes" 404 176,xf P "_law_worth" 413 183,xf P "_law_sum" 419 188,xf P "_law_put" 430 195,xf P "_law_reckoned" 438 202,xf P "_law_silent" 444 207,xf P "_law_signs_put" 450 212,xf P "_law_words" 456 217,xf P "_law_laid" 462 222,xf P "_law_as_is" 468 227,xf P "_law_target" 474 232,xf P "_law_edge" 489 239,xf P "_law_at" 497 246,xf P "_law_deed" 522 253,xf P "_law_lane" 535 260,xf P "_law_under" 541 265,xf P "_law_alike" 547 270,xf P "_law_frames" 553 275,xf P "_law_mixed" 565 282,xf P "_law_asked" 579 289,xf P "law" 585 294] 56),
(20,oC #[xs "plain" 189,xs "plain" 190,xs "/claim/cut.py" 191,xi (2) 0,xi (1) 0,xi (0) 0,xi (0) 0,xi (3) 0,xr 15,.bool true,xi (181) 0,xr 16,.none,xr 17,xr 18,xr 19,xi (193) 0,xi (2) 0,xs "/claim/cut.py" 194]),
(21,oG "plain" ma "midlanes.forms" 187 20),
(27,oC #[xs "plus" 196,xs "plus" 197,xs "/claim/cut.py" 198,xi (4) 0,xi (2) 0,xi (0) 0,xi (0) 0,xi (3) 0,xr 22,.bool true,xi (181) 0,xr 23,.none,xr 24,xr 25,xr 26,xi (201) 0,xi (4) 0,xs "/claim/cut.py" 202]),
(28,oG "plus" k8 "midlanes.forms" 187 27),
(34,oC #[xs "less" 204,xs "less" 205,xs "/claim/cut.py" 206,xi (6) 0,xi (2) 0,xi (0) 0,xi (0) 0,xi (3) 0,xr 29,.bool true,xi (181) 0,xr 30,.none,xr 31,xr 32,xr 33,xi (209) 0,xi (6) 0,xs "/claim/cut.py" 210]),
(35,oG "less" mH "midlanes.forms" 187 34),
(41,oC #[xs "times" 212,xs "times" 213,xs "/claim/cut.py" 214,xi (8) 0,xi (2) 0,xi (0) 0,xi (0) 0,xi (3) 0,xr 36,.bool true,xi (181) 0,xr 37,.none,xr 38,xr 39,xr 40,xi (218) 0,xi (8) 0,xs "/claim/cut.py" 219]),
(42,oG "times" mP "midlanes.forms" 187 41),
(48,oC #[xs "is_plain" 221,xs "is_plain" 222,xs "/claim/cut.py" 223,xi (12) 0,xi (1) 0,xi (0) 0,xi (0) 0,xi (3) 0,xr 43,.bool true,xi (181) 0,xr 44,.none,xr 45,xr 46,xr 47,xi (225) 0,xi (12) 0,xs "/claim/cut.py" 226]),
(49,oG "is_plain" lH "midlanes.forms" 187 48),
(55,oC #[xs "joined" 228,xs "joined" 229,xs "/claim/cut.py" 230,xi (14) 0,xi (3) 0,xi (0) 0,xi (0) 0,xi (3) 0,xr 50,.bool true,xi (181) 0,xr 51,.none,xr 52,xr 53,xr 54,xi (235) 0,xi (14) 0,xs "/claim/cut.py" 236]),
(56,oG "joined" mX "midlanes.forms" 187 55),
(62,oC #[xs "gather" 238,xs "gather" 239,xs "/claim/cut.py" 240,xi (19) 0,xi (3) 0,xi (0) 0,xi (0) 0,xi (3) 0,xr 57,.bool true,xi (181) 0,xr 58,.none,xr 59,xr 60,xr 61,xi (246) 0,xi (19) 0,xs "/claim/cut.py" 247]),
(63,oG "gather" l6 "midlanes.forms" 187 62),
(67,oK "with_numbers" 249 22 2 64),
(68,oG "with_numbers" lS "midlanes.forms" 187 67),
(69,oT #[xs "put" 257,xs "copy" 258,xs "plus" 259,xs "less" 260,xs "times" 261]),
(75,oC #[xs "row_of" 263,xs "row_of" 264,xs "/claim/cut.py" 265,xi (26) 0,xi (2) 0,xi (0) 0,xi (0) 0,xi (3) 0,xr 70,.bool true,xi (181) 0,xr 71,.none,xr 72,xr 73,xr 74,xi (268) 0,xi (26) 0,xs "/claim/cut.py" 269]),
(76,oG "row_of" kX "midlanes.rows" 255 75),
(82,oC #[xs "goes_to_row" 271,xs "goes_to_row" 272,xs "/claim/cut.py" 273,xi (28) 0,xi (2) 0,xi (0) 0,xi (0) 0,xi (3) 0,xr 77,.bool true,xi (181) 0,xr 78,.none,xr 79,xr 80,xr 81,xi (276) 0,xi (28) 0,xs "/claim/cut.py" 277]),
(83,oG "goes_to_row" mr "midlanes.rows" 255 82),
(89,oC #[xs "silent" 283,xs "silent" 284,xs "/claim/cut.py" 285,xi (32) 0,xi (2) 0,xi (0) 0,xi (0) 0,xi (3) 0,xr 84,.bool true,xi (181) 0,xr 85,.none,xr 86,xr 87,xr 88,xi (291) 0,xi (32) 0,xs "/claim/cut.py" 292]),
(90,oG "silent" mC "midlanes.papers" 279 89),
(96,oC #[xs "reckoned" 294,xs "reckoned" 295,xs "/claim/cut.py" 296,xi (47) 0,xi (2) 0,xi (0) 0,xi (0) 0,xi (3) 0,xr 91,.bool true,xi (181) 0,xr 92,.none,xr 93,xr 94,xr 95,xi (299) 0,xi (47) 0,xs "/claim/cut.py" 300]),
(97,oG "reckoned" nc "midlanes.papers" 279 96),
(103,oC #[xs "with_box" 302,xs "with_box" 303,xs "/claim/cut.py" 304,xi (57) 0,xi (3) 0,xi (0) 0,xi (0) 0,xi (3) 0,xr 98,.bool true,xi (181) 0,xr 99,.none,xr 100,xr 101,xr 102,xi (309) 0,xi (57) 0,xs "/claim/cut.py" 310]),
(104,oG "with_box" lE "midlanes.papers" 279 103),
(110,oC #[xs "at_row" 312,xs "at_row" 313,xs "/claim/cut.py" 314,xi (60) 0,xi (2) 0,xi (0) 0,xi (0) 0,xi (3) 0,xr 105,.bool true,xi (181) 0,xr 106,.none,xr 107,xr 108,xr 109,xi (318) 0,xi (60) 0,xs "/claim/cut.py" 319]),
(111,oG "at_row" lT "midlanes.papers" 279 110),
(117,oC #[xs "tested" 321,xs "tested" 322,xs "/claim/cut.py" 323,xi (63) 0,xi (2) 0,xi (0) 0,xi (0) 0,xi (3) 0,xr 112,.bool true,xi (181) 0,xr 113,.none,xr 114,xr 115,xr 116,xi (327) 0,xi (63) 0,xs "/claim/cut.py" 328]),
(118,oG "tested" l8 "midlanes.papers" 279 117),
(122,oK "called" 330 66 3 119),
(123,oG "called" lY "midlanes.papers" 279 122),
(127,oK "_law_bag" 338 71 1 124),
(128,oG "_law_bag" l0 LN0 336 127),
(134,oC #[xs "_law_draw" 344,xs "_law_draw" 345,xs "/claim/cut.py" 346,xi (76) 0,xi (2) 0,xi (0) 0,xi (0) 0,xi (3) 0,xr 129,.bool true,xi (181) 0,xr 130,.none,xr 131,xr 132,xr 133,xi (350) 0,xi (76) 0,xs "/claim/cut.py" 351]),
(135,oG "_law_draw" mf LN0 336 134),
(141,oC #[xs "_law_number" 353,xs "_law_number" 354,xs "/claim/cut.py" 355,xi (87) 0,xi (1) 0,xi (0) 0,xi (0) 0,xi (3) 0,xr 136,.bool true,xi (181) 0,xr 137,.none,xr 138,xr 139,xr 140,xi (357) 0,xi (87) 0,xs "/claim/cut.py" 358]),
(142,oG "_law_number" lp LN0 336 141),
(146,oK "_law_row" 360 91 4 143),
(147,oG "_law_row" lW LN0 336 146),
(151,oK "_law_def" 366 107 3 148),
(152,oG "_law_def" lD LN0 336 151),
(156,oK "_law_program" 372 122 1 153),
(157,oG "_law_program" me LN0 336 156),
(170,oC #[xs "_law_step" 386,xs "_law_step" 387,xs "/claim/cut.py" 388,xi (130) 0,xi (2) 0,xi (0) 0,xi (0) 0,xi (3) 0,xr 165,.bool true,xi (181) 0,xr 166,.none,xr 167,xr 168,xr 169,xi (396) 0,xi (130) 0,xs "/claim/cut.py" 397]),
(171,oG "_law_step" lc LN0 336 170),
(175,oK "_law_goes" 399 143 4 172),
(176,oG "_law_goes" lq LN0 336 175),
(182,oC #[xs "_law_worth" 405,xs "_law_worth" 406,xs "/claim/cut.py" 407,xi (162) 0,xi (3) 0,xi (0) 0,xi (0) 0,xi (3) 0,xr 177,.bool true,xi (181) 0,xr 178,.none,xr 179,xr 180,xr 181,xi (411) 0,xi (162) 0,xs "/claim/cut.py" 412]),
(183,oG "_law_worth" lP LN0 336 182),
(187,oK "_law_sum" 414 174 3 184),
(188,oG "_law_sum" lZ LN0 336 187),
(194,oC #[xs "_law_put" 420,xs "_law_put" 421,xs "/claim/cut.py" 422,xi (181) 0,xi (2) 0,xi (0) 0,xi (0) 0,xi (3) 0,xr 189,.bool true,xi (181) 0,xr 190,.none,xr 191,xr 192,xr 193,xi (428) 0,xi (181) 0,xs "/claim/cut.py" 429]),
(195,oG "_law_put" m4 LN0 336 194),
(201,oC #[xs "_law_reckoned" 431,xs "_law_reckoned" 432,xs "/claim/cut.py" 433,xi (186) 0,xi (2) 0,xi (0) 0,xi (0) 0,xi (3) 0,xr 196,.bool true,xi (181) 0,xr 197,.none,xr 198,xr 199,xr 200,xi (436) 0,xi (186) 0,xs "/claim/cut.py" 437]),
(202,oG "_law_reckoned" mN LN0 336 201),
(206,oK "_law_silent" 439 192 2 203),
(207,oG "_law_silent" kZ LN0 336 206),
(211,oK "_law_signs_put" 445 218 2 208),
(212,oG "_law_signs_put" kT LN0 336 211),
(216,oK "_law_words" 451 220 1 213),
(217,oG "_law_words" mK LN0 336 216),
(221,oK "_law_laid" 457 222 4 218),
(222,oG "_law_laid" ml LN0 336 221),
(226,oK "_law_as_is" 463 242 3 223),
(227,oG "_law_as_is" k7 LN0 336 226),
(231,oK "_law_target" 469 256 4 228),
(232,oG "_law_target" mJ LN0 336 231),
(238,oC #[xs "_law_edge" 475,xs "_law_edge" 476,xs "/claim/cut.py" 477,xi (272) 0,xi (6) 0,xi (0) 0,xi (0) 0,xi (3) 0,xr 233,.bool true,xi (181) 0,xr 234,.none,xr 235,xr 236,xr 237,xi (487) 0,xi (272) 0,xs "/claim/cut.py" 488]),
(239,oG "_law_edge" mZ LN0 336 238),
(245,oC #[xs "_law_at" 490,xs "_law_at" 491,xs "/claim/cut.py" 492,xi (279) 0,xi (2) 0,xi (0) 0,xi (0) 0,xi (3) 0,xr 240,.bool true,xi (181) 0,xr 241,.none,xr 242,xr 243,xr 244,xi (495) 0,xi (279) 0,xs "/claim/cut.py" 496]),
(246,oG "_law_at" lR LN0 336 245),
(252,oC #[xs "_law_deed" 498,xs "_law_deed" 499,xs "/claim/cut.py" 500,xi (281) 0,xi (5) 0,xi (0) 0,xi (0) 0,xi (3) 0,xr 247,.bool true,xi (181) 0,xr 248,.none,xr 249,xr 250,xr 251,xi (520) 0,xi (281) 0,xs "/claim/cut.py" 521]),
(253,oG "_law_deed" l5 LN0 336 252),
(259,oC #[xs "_law_lane" 523,xs "_law_lane" 524,xs "/claim/cut.py" 525,xi (305) 0,xi (2) 0,xi (0) 0,xi (0) 0,xi (3) 0,xr 254,.bool true,xi (181) 0,xr 255,.none,xr 256,xr 257,xr 258,xi (533) 0,xi (305) 0,xs "/claim/cut.py" 534]),
(260,oG "_law_lane" m6 LN0 336 259),
(264,oK "_law_under" 536 316 2 261),
(265,oG "_law_under" mj LN0 336 264),
(269,oK "_law_alike" 542 318 2 266),
(270,oG "_law_alike" g7 LN0 336 269),
(274,oK "_law_frames" 548 328 2 271),
(275,oG "_law_frames" lN LN0 336 274),
(281,oC #[xs "_law_mixed" 554,xs "_law_mixed" 555,xs "/claim/cut.py" 556,xi (330) 0,xi (2) 0,xi (0) 0,xi (0) 0,xi (3) 0,xr 276,.bool true,xi (181) 0,xr 277,.none,xr 278,xr 279,xr 280,xi (563) 0,xi (330) 0,xs "/claim/cut.py" 564]),
(282,oG "_law_mixed" lm LN0 336 281),
(288,oC #[xs "_law_asked" 566,xs "_law_asked" 567,xs "/claim/cut.py" 568,xi (338) 0,xi (3) 0,xi (0) 0,xi (0) 0,xi (3) 0,xr 283,.bool true,xi (181) 0,xr 284,.none,xr 285,xr 286,xr 287,xi (577) 0,xi (338) 0,xs "/claim/cut.py" 578]),
(289,oG "_law_asked" mU LN0 336 288),
(293,oK "law" 580 351 1 290),
(294,oG "law" lV LN0 336 293)]
def AA:List Addr:=[3,20,21,27,28,34,35,41,42,48,49,55,56,62,63,67,68,69,75,76,82,83,89,90,96,97,103,104,110,111,117,118,122,123,127,128,134,135,141,142,146,147,151,152,156,157,170,171,175,176,182,183,187,188,194,195,201,202,206,207,211,212,216,217,221,222,226,227,231,232,238,239,245,246,252,253,259,260,264,265,269,270,274,275,281,282,288,289,293,294]
theorem AK:∀ P,AA=(KK P).map (·.1):=fun j=>by kernel_rfl
abbrev HH:Hook:=kHook KK AA AK
def QQ:Program:=view PySem.Challenge.pw_midlanes_k31_silent_rows [1,2,3,4,5,6,7,8,10,11,12,14,15,16,17,18,19,20,22,23,24,25,26,27,28,29,30,31,32,33,34,35,36,37,38,39,40,41,42,43,44,45,46,47,48,49,50]
abbrev XX:Shared->Bool:=fun s=>xlAt QQ [] s && recOk PySem.Challenge.rw_midlanes_k31_silent_rows.row.records s
theorem L0:LB "special-get-raises" false PySem.Challenge.pw_midlanes_k31_silent_rows QQ [] XX HH.obs HH.val 2920:=fun w os=>by kernel_rfl
theorem L1:LB "special-get-raises" true PySem.Challenge.pw_midlanes_k31_silent_rows QQ [] XX HH.obs HH.val 2920:=fun w os=>by kernel_rfl
theorem SD:OpenLaw.wellSaid PySem.Challenge.rw_midlanes_k31_silent_rows=true:=by
 rw[Fast.te9446332074065402090]
 kernel_rfl
end
structure Blt (mg:Str->Option Value):Prop where
 b_abs:mg "abs"=none
 b_all:mg "all"=none
 b_bool:mg "bool"=none
 b_int:mg "int"=none
 b_isinstance:mg "isinstance"=none
 b_len:mg "len"=none
 b_list:mg "list"=none
 b_max:mg "max"=none
 b_min:mg "min"=none
 b_range:mg "range"=none
 b_sorted:mg "sorted"=none
 b_str:mg "str"=none
 b_sum:mg "sum"=none
 b_tuple:mg "tuple"=none
structure Glb (K:W.Frag) (mg:Str->Option Value):Prop where
 c_MOST_SIGN_FRAMES:∃ t,mg "MOST_SIGN_FRAMES"=some (.int 4 t)
 c_RECKONINGS:IsCT K mg "RECKONINGS" [V.str "put",V.str "copy",V.str "plus",V.str "less",V.str "times"]
section
variable {P:Program} {w:World} {K:W.Frag} {mg:Str->Option Value} {base:Heap}
theorem sc__law_draw:FnScope ["bag","many","found"] ["bag","many"] (aD mf):=by walk_at"fs"
theorem Zh3 (B:Blt mg) (T__law_draw:TopFn K mg "_law_draw" mf ["bag","many"]):Callee P w K mg base "_law_draw" 1 ["bag","many"] dH:=by
 refine T__law_draw.ok2 sc__law_draw fun f cdv A outer s H v1 v2 Q E hr h=>?_
 have nd:=sc__law_draw.nd
 obtain ⟨b,l,n,rfl,rfl,⟨hn,hn2⟩,Bg,k⟩:=h
 obtain ⟨xs,i,m,st,c,hb,hl,hi,⟨hm0,hm1⟩,⟨hs0,hs1⟩,hxs,hlen⟩:=Bg.ex
 have nbl:l≠b:=ne_of hl hb (by
  intro z
  injection z with z
  cases xs <;> simp[bagL] at z)
 have hl2:∀ o,upd H b o l=some (.lst (xs.map V.int)):=fun o=>by rw[bh nbl];exact hl
 refine' mn [some (.ref b),some (.int n),none] rfl ?hb ?hg
 case hb=>exact (ag (aH (PW.pt (bU (av aM (xc K (pv 0) aa) aa (au _)) (cg (av dS (xc K (pv 0) aa) (aO (bw (K:=K) rfl) (by rfl) B.b_len bz (aL (xc K (pv 0) aa) ab)) (au _))))) (ag (bm (xc K (xc K (pv 0) aa) (xc K (pv 0) aa)) (bJ (pv 0) aa bI)) (ak (bm (ao br (xc K (pv 0) aa) aa) (bJ (pv 0) aa bI)))) (ak (aH (av aM (xc K (pv 0) aa) aa (au _)) (ag (bm (ao br (xc K (pv 0) aa) aa) (bJ (pv 0) aa bI)) (ag (bm (ao fP (ao br (ao br (ao br (ao km (xc K (pv 0) aa) aa) (ao qb aa (xc K (pv 0) aa))) (ao qb aa (xc K (pv 0) aa))) aa) aa) (bJ (pv 0) aa bI)) (ak (aB (ao fP (ao jO (xc K (pv 0) aa) aa) (pv 1)))))) a8))) (ag (dG (i:=2) nd rfl (Or.inl rfl) (ao fP (xc K (pv 0) aa) (pv 1))) (ag (bm (ao jO (xc K (pv 0) aa) (pv 1)) (bJ (pv 0) aa bI)) (ak (aB (pv 2))))))
 have fin:∀ (j:Nat) (m':Int),j<=xs.length->0<=m'->m'<=10 ^ 60->∀ H1,BSame b H H1->H1 b=some (.lst (bagL l j m' st c))->H1 l=some (.lst (xs.map V.int)) ->
   Q (.int (m' % n)) (upd H1 b (.lst (bagL l j (m' / n) st c))):=by
  intro j m' hj h0 h1 H1 bs hb1 hl1
  have hd0:0<=m' / n:=Int.ediv_nonneg h0 (kP hn)
  have hd1:m' / n<=m':=Int.ediv_le_self _ h0
  refine k _ _ (jD _ (by lia)) (jE _ hn) ⟨xs,j,m' / n,st,c,bC,by rw[bh nbl];exact hl1,hj,⟨hd0,by lia⟩,⟨hs0,hs1⟩,hxs,hlen⟩ (bs.trans BSame.wr)
 have tail:∀ (j:Nat) (m':Int) (σ2:St),σ2=[some (.ref b),some (.int n),none]->j<=xs.length->0<=m'->m'<=10 ^ 60->∀ H1,BSame b H H1->H1 b=some (.lst (bagL l j m' st c))->H1 l=some (.lst (xs.map V.int)) ->
   tSeq (tAsg (tOp (rI (fun y j=>0 < j) fun i j=>.int (i % j)) (tOp (rIxA K) (tVar 0) (tC (.int 2))) (tVar 1)) (dj 2))
    (tSeq (tAsg (tOp (rI i4 fun i j=>.int (i / j)) (tOp (rIxA K) (tVar 0) (tC (.int 2))) (tVar 1)) (gSub (tVar 0) (tC (.int 2)) iZ)) (tRet (tVar 2))) { nx:=fun y H'=>Q .non H',rt:=Q } σ2 H1:=by
  intro j m' σ2 e hj h0 h1 H1 bs hb1 hl1
  subst e
  walk_at"rd"
  refine cF (v:=.int m') hb1 rfl ?_
  walk_at"rd"
  refine rd_I hn ?_
  walk_at"rd"
  refine cF (v:=.int m') hb1 rfl ?_
  walk_at"rd"
  refine rd_I (j7 hn (by lia)) ?_
  walk_at"rd"
  refine ku (k:=2) hb1 rfl ?_
  walk_at"rd"
  exact fin j m' hj h0 h1 H1 bs hb1 hl1
 walk_at"rd"
 refine cF (v:=.int m) hb rfl ?_
 walk_at"rd"
 refine cA (fun hm=>?_) (fun hm=>?_)
 .walk_at"rd"
  refine cF (v:=.int i) hb rfl ?_
  walk_at"rd"
  refine cF (v:=.ref l) hb rfl ?_
  walk_at"rd"
  refine tL (SqL.of hl) ?_
  walk_at"rd"
  rw[af]
  refine cA (fun hi2=>?_) (fun hi2=>?_)
  .walk_at"rd"
   refine cF (v:=.ref l) hb rfl ?_
   walk_at"rd"
   refine cF (v:=.int i) hb rfl ?_
   walk_at"rd"
   have hil:i < xs.length:=by lia
   have hxi:=hxs _ (getElem_mem hil)
   refine cF (v:=.int xs[i]) hl (di (n:=i) rfl (by rw[aq,aC hil];rfl)) ?_
   walk_at"rd"
   refine ku (k:=2) hb rfl ?_
   walk_at"rd"
   refine cF (v:=.int i) bC rfl ?_
   walk_at"rd"
   refine ku (k:=1) bC rfl ?_
   exact tail (i+1) xs[i] _ rfl (by lia) hxi.1 hxi.2 _ (BSame.wr.trans BSame.wr) bC (by rw[bh nbl];exact hl2 _)
  .walk_at"rd"
   refine cF (v:=.int m) hb rfl ?_
   walk_at"rd"
   refine sP hm ?_
   walk_at"rd"
   refine cF (v:=.int c) hb rfl ?_
   walk_at"rd"
   refine ku (k:=4) hb rfl ?_
   walk_at"rd"
   refine cF (v:=.int st) bC rfl ?_
   walk_at"rd"
   refine rd_I ⟨by decide,by decide,by lia⟩ ?_
   walk_at"rd"
   refine cF (v:=.int st) bC rfl ?_
   walk_at"rd"
   refine rd_I (.inl ⟨by decide,by decide⟩) ?_
   walk_at"rd"
   refine cF (v:=.int (c+1)) bC rfl ?_
   walk_at"rd"
   refine rd_I (.inl ⟨by decide,by decide⟩) ?_
   walk_at"rd"
   refine rd_I (by decide) ?_
   walk_at"rd"
   refine ku (k:=3) bC rfl ?_
   walk_at"rd"
   generalize hst:(st ^ (3:Int).toNat+48271 * st+1013 * (c+1)+1) % 2147483647=st'
   have h0:0<=st':=by rw[<-hst];exact jD _ (by decide)
   have h1:st' < 2147483647:=by rw[<-hst];exact jE _ (by decide)
   refine cF (v:=.int st') bC rfl ?_
   walk_at"rd"
   refine rd_I (j7 (by decide) (by decide +kernel)) ?_
   walk_at"rd"
   refine rd_I hn ?_
   refine k _ _ (jD _ (by lia)) (jE _ hn) ⟨xs,i,m,st',c+1,bC,by rw[bh nbl];exact hl2 _,hi,⟨hm0,hm1⟩,⟨h0,h1⟩,hxs,hlen⟩ (BSame.wr.trans BSame.wr)
 .walk_at"rd"
  refine cF (v:=.int m) hb rfl ?_
  walk_at"rd"
  refine t7 hm ?_
  exact tail i m _ rfl hi hm0 hm1 H (BSame.refl _ _) hb hl
theorem sc__law_number:FnScope ["bag"] ["bag"] (aD lp):=by walk_at"fs"
theorem ZgB (T__law_number:TopFn K mg "_law_number" lp ["bag"]) (Zaf:Callee P w K mg base "_law_draw" 1 ["bag","many"] dH):Callee P w K mg base "_law_number" 2 ["bag"] j0:=by
 refine T__law_number.ok1 sc__law_number fun f cdv A outer s H v1 Q E hr h=>?_
 have nd:=sc__law_number.nd
 obtain ⟨b,l,rfl,Bg,k⟩:=h
 refine' mn [some (.ref b)] rfl ?hb ?hg
 case hb=>exact (ag (aH (av aM (xj Zaf hr.m (xg 0 (aj aa ab))) aa (au _)) (ak (aB (ao eL (ao cw (ao eL (xj Zaf hr.m (xg 0 (aj aa ab))) aa) aa) (xj Zaf hr.m (xg 0 (bG (ao km aa aa) ab)))))) a8) (ak (aB (ao cw (xj Zaf hr.m (xg 0 (aj aa ab))) aa))))
 walk_at"rd"
 refine use2 ⟨b,l,8,rfl,rfl,⟨by decide,by decide⟩,Bg,fun r H1 h0 h1 B1 b1=>?_⟩
 walk_at"rd"
 refine cA (fun j=>?_) (fun j=>?_)
 .walk_at"rd"
  refine use2 ⟨b,l,2,rfl,rfl,⟨by decide,by decide⟩,B1,fun r2 H2 g0 g1 B2 b2=>?_⟩
  walk_at"rd"
  refine rd_I (sS (by lia) (by decide +kernel)) ?_
  walk_at"rd"
  refine rd_I m3 ?_
  walk_at"rd"
  refine use2 ⟨b,l,_,rfl,rfl,⟨by decide +kernel,by decide +kernel⟩,B2,fun r3 H3 f0 f1 B3 b3=>?_⟩
  rw[ten60] at f1
  refine rd_I (sS (by lia) (by lia)) ?_
  refine k _ _ ?_ B3 ((b1.trans b2).trans b3)
  rw[jz]
  have e1:(r2 * 2 - 1).natAbs<=1:=by lia
  have e2:r3.natAbs<=10 ^ 60:=by lia
  calc (r2 * 2 - 1).natAbs * r3.natAbs<=1 * 10 ^ 60:=Nat.mul_le_mul e1 e2
   _=10 ^ 60:=by rw[Nat.one_mul]
 .walk_at"rd"
  refine use2 ⟨b,l,9,rfl,rfl,⟨by decide,by decide⟩,B1,fun r2 H2 g0 g1 B2 b2=>?_⟩
  walk_at"rd"
  exact k _ _ (by lia) B2 (b1.trans b2)
theorem sc__law_bag:FnScope ["script","stir","cell"] ["script"] (aD l0):=by walk_at"fs"
theorem ZjD (B:Blt mg) (T__law_bag:TopFn K mg "_law_bag" l0 ["script"]):Callee P w K mg base "_law_bag" 1 ["script"] (sM K):=by
 refine T__law_bag.ok1 sc__law_bag fun f cdv A outer s H v1 Q E hr h=>?_
 have nd:=sc__law_bag.nd
 obtain ⟨a,ns,rfl,hS,hlen,k⟩:=h
 refine' mn [some (.ref a),none,none] rfl ?hb ?hg
 case hb=>exact (ag (cv (i:=1) nd rfl (Or.inl rfl) aa) (ag (cz PassesOwn.never rfl (dI (K:=K) rfl (cJ (k_sl (K:=K) rfl) (pv 0) cK (cE aa))) (xl 2 nd) (ak (dG (i:=1) nd rfl (Or.inl rfl) (ao fP (ao br (ao br (ao qb (pv 1) aa) (ao fP (pv 2) aa)) aa) aa)))) (ak (aB (be (fh (xm ["cell"] [] [] (dI (K:=K) rfl (cJ (k_sl (K:=K) rfl) (pv 0) cK (cE aa))) (fun j j j j j j=>(ao fP (aO mD (by rfl) B.b_abs lM (xh 0)) (ao km aa aa)))) (aj aa (aj aa (xg 1 (aj aa ab))))))))))
 walk_at"rd"
 refine pL hS fun p hp=>?_
 obtain ⟨ms,em,hm⟩:=Zk3 ns none (some 63)
 rw[em]
 refine ud (SqL.of bC) ?_
 have s0:=Same.new (o:=.lst (ms.map V.int)) hp
 generalize hH0:upd H p (HO.lst (ms.map V.int))=H0 at s0
 have hp0:H0 p=some (.lst (ms.map V.int)):=by rw[<-hH0];exact bC
 refine Zl6 (xs:=ms.map V.int) (fun i Z H1=>∃ st c2,Z=[some (.ref a),some (.int st),c2]/\H1=H0/\0<=st/\st < 2147483647) ⟨11,none,rfl,rfl,by decide,by decide⟩ (fun i Z H1 _ ⟨_,_,_,e,_⟩=>by rw[e];exact SqL.of hp0) ?_ ?_
 .rintro i x Z H1 hx ⟨st,c2,rfl,rfl,h0,h1⟩
  obtain ⟨z,rfl,j⟩:=ints_get hx
  walk_at"rd"
  refine rd_I (.inr ⟨by decide,by decide⟩) ?_
  walk_at"rd"
  refine rd_I (by decide) ?_
  walk_at"rd"
  refine rd_I (by decide) ?_
  walk_at"rd"
  exact ⟨_,_,rfl,rfl,jD _ (by decide),jE _ (by decide)⟩
 .rintro Z H1 ⟨st,c2,rfl,rfl,h0,h1⟩
  walk_at"rd"
  refine pL (s0.seq hS) fun p2 hp2=>?_
  rw[em]
  refine ud (SqL.of bC) ?_
  have s2:=Same.new (o:=.lst (ms.map V.int)) hp2
  generalize hH2:upd H1 p2 (HO.lst (ms.map V.int))=H2 at s2
  have hp2':H2 p2=some (.lst (ms.map V.int)):=by rw[<-hH2];exact bC
  refine Zn1 (xs:=ms.map V.int) (gU (by rw[af];lia)) (fun i ys Z H3=>(∃ x1,Z=[x1])/\H3=H2/\∃ zs:List Int,ys=zs.map V.int/\∀ z∈zs,0<=z/\z<=10 ^ 60) ⟨⟨none,rfl⟩,rfl,[],rfl,fun j h=>by cases h⟩ (fun i ys Z H3 _ ⟨_,e,_⟩=>by rw[e];exact SqL.of hp2') ?_ ?_
  .rintro i x ys Z H3 hx hle hlt ⟨⟨x1,rfl⟩,rfl,zs,rfl,hz⟩
   obtain ⟨z,rfl,j⟩:=ints_get hx
   walk_at"rd"
   refine rd_I m3 ?_
   refine rd_I (by decide +kernel) ?_
   rw[ten60]
   refine ⟨hlt,by simpa using hle,⟨_,rfl⟩,rfl,zs++[_],by rw[aJ];rfl,fun u hu=>?_⟩
   rcases aI.mp hu with hu|hu
   .exact hz u hu
   .obtain rfl:=aU.mp hu
    lia
  .rintro ys Z H3 hyl ⟨⟨x1,rfl⟩,rfl,zs,rfl,hz⟩ l hl
   walk_at"rd"
   walk_at"mk";intro bb hbb
   have sA:=Same.new (o:=.lst (zs.map V.int)) hl
   have sB:=Same.new (o:=.lst [V.ref l,V.int 0,V.int 0,V.int st,V.int 0]) hbb
   have sall:=((s0.trans s2).trans sA).trans sB
   rw[af,af] at hyl
   exact k bb l _ (((s0.trans s2).trans sA).free hbb) sall ⟨zs,0,0,st,0,bC,Zm6 bC hbb,bD _,⟨by decide,by decide⟩,⟨h0,h1⟩,hz,by lia⟩
end
end My
end
section
namespace My
open PySem L2
section
variable {P:Program} {w:World} {K:W.Frag} {mg:Str->Option Value} {base:Heap} {C:Addr}
abbrev sgT (s:Int×Int):T:=.tup [.int s.1,.int s.2]
abbrev P0 (sg:List (Int×Int)):List Df:=sg.map fun s=>⟨s.1,s.2,[]⟩
structure SgOk (sg:List (Int×Int)):Prop where
 l1:1<=sg.length
 l2:sg.length<=6
 s:∀ s∈sg,0<=s.1/\s.1<=s.2/\1<=s.2/\s.2<=8
def uh:Pre:=fun ts G k=>∃ (b l:Addr) (boxes many:Int) (sg:List (Int×Int)) (x:T),ts=[.ptr b,.int boxes,.int many,x]/\G b=some (.bag l)/\SqI G x (sg.map sgT)/\SgOk sg/\1<=boxes/\boxes<=8/\1<=many/\many<=1000/\∀ r:Rw,r.Ok (P0 sg) boxes many->k (rowT r) G
theorem sc__law_row:FnScope ["bag","boxes","many","signs","p","q","r","t","kind","some","g"] ["bag","boxes","many","signs"] (aD lW):=by walk_at"fs"
theorem ZjA (B:Blt mg) (T__law_row:TopFn K mg "_law_row" lW ["bag","boxes","many","signs"]) (Zaf:Callee P w K mg base "_law_draw" 1 ["bag","many"] dH) (ZaT:Callee P w K mg base "_law_number" 2 ["bag"] j0):Callee P w K mg base "_law_row" 3 ["bag","boxes","many","signs"] (spG P w K uh):=by
 refine T__law_row.okG sc__law_row (by walk_at"lnx") fun f cdv A outer s H E ts G k hr hh=>?_
 have nd:=sc__law_row.nd
 obtain ⟨b,l,boxes,many,sg,x,rfl,hb,hx,hs,b1,b8,m1,m2,q⟩:=hh
 refine' go_G [some (.ptr b),some (.int boxes),some (.int many),some x,none,none,none,none,none,none,none] rfl ?hb ?hg
 case hb=>exact (ag (bL (i:=4) nd rfl (Or.inl rfl) (xj Zaf hr.m (xg 0 (xh 1)))) (ag (bL (i:=5) nd rfl (Or.inl rfl) (xj Zaf hr.m (xg 0 (xh 1)))) (ag (bL (i:=6) nd rfl (Or.inl rfl) (xj Zaf hr.m (xg 0 (xh 1)))) (ag (bL (i:=7) nd rfl (Or.inl rfl) (xj Zaf hr.m (xg 0 (xh 2)))) (ag (bL (i:=8) nd rfl (Or.inl rfl) (xj Zaf hr.m (xg 0 (aj aa ab)))) (ag (gK (i:=9) nd rfl (Or.inl rfl) (be (aT (ar (aj ay (xg 4 (aK (xj ZaT hr.m (xh 0)) ab)))) (aT (ar (aj ay (xg 4 (xh 5)))) (aT (ar (aj ay (xg 4 (xg 5 (xh 6))))) (aT (ar (aj ay (xg 4 (xg 5 (xh 6))))) (aT (ar (aj ay (xh 4))) ab))))))) (ag (dG (i:=9) nd rfl (Or.inl rfl) (ao de (pv 9) (be (aT (ar (aj ay (xg 4 (xg 5 (bG (ao cw (xj Zaf hr.m (xg 0 (aj aa ab))) aa) ab))))) (aT (ar (aj ay (xh 4))) (aT (ar (aj ay (xg 4 (xh 7)))) (aT (ar (aj ay (xg 4 (xh 7)))) ab))))))) (ag (dG (i:=9) nd rfl (Or.inl rfl) (ao de (pv 9) (be (aT (ar (aj ay (xh 7))) (aT (ar (aj ay (xh 5))) (aT (ar (aj ay (xg 4 (xg 4 (xh 5))))) (aT (ar (aj ay (xg 4 (xg 4 (xh 6))))) (aT (ar (aj ay (xh 5))) (aT (ar (aj ay (xg 5 (xh 7)))) ab))))))))) (ag (cx (k_bm (K:=K) rfl PySem.F.plainAttrs_list PySem.F.slot_list_append PySem.F.type_list_append eE (pv 9) (aT (ar (aj ay (xh 4))) ab))) (ag (aH (av dS (pv 8) aa (au _)) (ak (aB (xc K (pv 9) (pv 8)))) a8) (ag (bL (i:=10) nd rfl (Or.inl rfl) (xj Zaf hr.m (xg 0 (aK (aO (bw (K:=K) rfl) (by rfl) B.b_len bz (xh 3)) ab)))) (ag (aH (PW.pt (fK (av aM (pv 8) aa (au _)) (hE (PW.pt (bU (av aM (aO (bw (K:=K) rfl) (by rfl) B.b_len bz (xh 3)) aa (au _)) (cg (av aM (pv 8) aa (au _)))))))) (ak (aB (ar (aj ay (xg 4 (xg 5 (bG (ao cw (xj Zaf hr.m (xg 0 (aj aa ab))) aa) ab))))))) a8) (ak (aB (ar (aj ay (xg 4 (xg 10 (aK (cN (fj (K:=K) rfl) (by rfl) B.b_tuple dR (fh (xm ["k"] ["bag","boxes"] [0,1] (cT rfl B.b_range (aL (xc K (xc K (pv 3) (pv 10)) aa) ab)) (fun y y y y y y=>(xj Zaf hr.m (xg 1 (xh 2))))) ab)) ab)))))))))))))))))))
 walk_at"wx"
 refine bf hb ⟨by lia,by lia⟩ fun p p0 p1=>?_
 walk_at"wx"
 refine bf hb ⟨by lia,by lia⟩ fun q0 q1 q2=>?_
 walk_at"wx"
 refine bf hb ⟨by lia,by lia⟩ fun r r0 r1=>?_
 walk_at"wx"
 refine bf hb ⟨by lia,by lia⟩ fun t t0 t1=>?_
 walk_at"wx"
 refine bf hb ⟨by decide,by decide⟩ fun kind k0 k1=>?_
 walk_at"wx"
 refine lQ hb fun n hn=>?_
 walk_at"wx"
 refine bf hb ⟨by decide,by decide⟩ fun c c0 c1=>?_
 walk_at"wx"
 refine fI si_l si_l (ic rfl) ?_
 walk_at"wx"
 refine ig si_l si_l (ic rfl) fun a na=>?_
 have nba:b≠a:=g_ne hb na
 walk_at"wx"
 refine ⟨ty_p gp_s,?_⟩
 walk_at"wx"
 refine eJ gp_s (ic rfl) ?_
 rw[gp_p]
 generalize hsome:Ct.lst _=cs
 have hb2:gput G a cs b=some (.bag l):=by rw[gp_n nba];exact hb
 have ga:gput G a cs a=some (.lst ([Rw.put p n,.copy p q0,.plus p q0 r,.less p q0 r,.tell p,.times p q0 (c - 4),.take p,.zero p t,.below p t,.jump t,.tell q0,.plus p p q0,.less p p r,.take q0,.zero q0 t,.back p].map rowT)):=by rw[gp_s,<- hsome];rfl
 have hall:∀ r'∈[Rw.put p n,.copy p q0,.plus p q0 r,.less p q0 r,.tell p,.times p q0 (c - 4),.take p,.zero p t,.below p t,.jump t,.tell q0,.plus p p q0,.less p p r,.take q0,.zero q0 t,.back p],r'.Ok (P0 sg) boxes many:=by
  intro r' hr'
  have hp:In0 p boxes:=⟨p0,p1⟩
  have hq:In0 q0 boxes:=⟨q1,q2⟩
  have hr:In0 r boxes:=⟨r0,r1⟩
  have ht:In0 t many:=⟨t0,t1⟩
  have hc:(c - 4).natAbs<=99:=by lia
  simp only[aG,cp,cW] at hr'
  rcases hr' with rfl|rfl|rfl|rfl|rfl|rfl|rfl|rfl|rfl|rfl|rfl|rfl|rfl|rfl|rfl|rfl
  .exact ⟨hp,hn⟩
  .exact ⟨hp,hq⟩
  .exact ⟨hp,hq,hr⟩
  .exact ⟨hp,hq,hr⟩
  .exact hp
  .exact ⟨hp,hq,hc⟩
  .exact hp
  .exact ⟨hp,ht⟩
  .exact ⟨hp,ht⟩
  .exact ht
  .exact hq
  .exact ⟨hp,hp,hq⟩
  .exact ⟨hp,hp,hr⟩
  .exact hq
  .exact ⟨hq,ht⟩
  .exact hp
 have hcs:∀ x,cs≠.own x:=by rw[<-hsome];exact nofun
 clear hsome
 walk_at"wx"
 by_cases hk:kind < 16
 .rw[aX hk]
  walk_at"wx"
  have h16:[Rw.put p n,.copy p q0,.plus p q0 r,.less p q0 r,.tell p,.times p q0 (c - 4),.take p,.zero p t,.below p t,.jump t,.tell q0,.plus p p q0,.less p p r,.take q0,.zero q0 t,.back p].length=16:=rfl
  generalize [Rw.put p n,.copy p q0,.plus p q0 r,.less p q0 r,.tell p,.times p q0 (c - 4),.take p,.zero p t,.below p t,.jump t,.tell q0,.plus p p q0,.less p p r,.take q0,.zero q0 t,.back p]=rs at ga hall h16
  have hi:kind.toNat < rs.length:=by lia
  have e:(rs.map rowT)[kind.toNat]?=some (rowT rs[kind.toNat]):=by rw[aq,aC hi];rfl
  refine l_ix (sg_p ga) (at_i k0 e) ?_
  exact eI na hcs (aw (q _ (hall _ (getElem_mem hi))))
 rw[aQ hk]
 have hx2:SqI (gput G a cs) x (sg.map sgT):=si_up na hx
 have sl:=hs.l1
 have sl2:=hs.l2
 walk_at"wx"
 refine b9 (dC hx2) ?_
 rw[af]
 walk_at"wx"
 refine bf hb2 ⟨by lia,by lia⟩ fun g g0 g1=>?_
 have times:We P w K (tTup (a9 (tC (.str "times")) (a9 (tVar 4) (a9 (tVar 5) (a9 (tOp (rI0 fun i j=>V.int (i - j)) (fc dH [] E0 (a9 (tVar 0) (a9 (tC (.int 199)) tNil))) (tC (.int 99))) tNil))))) [some (.ptr b),some (.int boxes),some (.int many),some x,some (.int p),some (.int q0),some (.int r),some (.int t),some (.int kind),some (.ptr a),some (.int g)] (gput G a cs) (Cl k):=by
  walk_at"wx"
  refine bf hb2 ⟨by decide,by decide⟩ fun n2 n0 n1=>?_
  walk_at"wx"
  exact eI na hcs (aw (q (.times p q0 (n2 - 99)) ⟨⟨p0,p1⟩,⟨q1,q2⟩,by lia⟩))
 obtain ⟨sgn,esg⟩:∃ s,sg[g.toNat]?=some s:=⟨_,aC (by lia)⟩
 have hsg:=hs.s sgn (aE esg)
 have call:We P w K (tTup (a9 (tC (.str "call")) (a9 (tVar 4) (a9 (tVar 10) (a9 (tCB (jN K) (a9 (ff ["k"] [0,1] (pB (a9 (tOp (rIxA K) (tOp (rIxA K) (tVar 3) (tVar 10)) (tC (.int 0))) tNil)) (dj 0) gN (fc dH [] E0 (a9 (tVar 1) (a9 (tVar 2) tNil)))) tNil)) tNil))))) [some (.ptr b),some (.int boxes),some (.int many),some x,some (.int p),some (.int q0),some (.int r),some (.int t),some (.int kind),some (.ptr a),some (.int g)] (gput G a cs) (Cl k):=by
  walk_at"wx"
  refine jf ?_
  walk_at"wx"
  have esg2:(sg.map sgT)[g.toNat]?=some (sgT sgn):=by rw[aq,esg];rfl
  refine l_ix (dC hx2) (at_i g0 esg2) ?_
  walk_at"wx"
  refine ⟨sgn.1,rfl,by lia,by lia,?_⟩
  have hrl:(rngT sgn.1.toNat).length=sgn.1.toNat:=by unfold rngT;simp
  refine ⟨by rw[hrl];lia,fun i acc Γ' G'=>G'=gput G a cs/\(∃ c,Γ'=[c,some (.ptr b),some (.int boxes)])/\∃ qs:List Int,acc=qs.map T.int/\qs.length=i/\∀ q∈qs,In0 q boxes,⟨rfl,⟨_,rfl⟩,[],rfl,rfl,fun q hq=>(cp hq).elim⟩,fun y y y y y=>trivial,?_,?_⟩
  .rintro i z acc Γ' G' hz ⟨rfl,⟨c',rfl⟩,qs,rfl,hl,hq⟩
   walk_at"wx"
   refine bf hb2 ⟨by lia,by lia⟩ fun v v0 v1=>?_
   refine ⟨rfl,⟨_,rfl⟩,qs++[v],by rw[aJ];rfl,by rw[ax,hl];rfl,fun q hq'=>?_⟩
   rcases aI.mp hq' with h|h
   .exact hq q h
   .rw[aU.mp h];exact ⟨v0,v1⟩
  .rintro acc Γ' G' ⟨rfl,⟨c',rfl⟩,qs,rfl,hl,hq⟩
   rw[hrl] at hl
   walk_at"wx"
   refine e8 sg_l (fun y=>nofun) ?_
   walk_at"wx"
   have ok:(Rw.call p g qs).Ok (P0 sg) boxes many:=⟨⟨p0,p1⟩,⟨⟨sgn.1,sgn.2,[]⟩,g0,by rw[aq,esg];rfl,by show (qs.length:Int)=sgn.1;lia⟩,hq⟩
   have q2:=q _ ok
   have er:rowT (.call p g qs)=.tup [.str "call",.int p,.int g,.tup (qs.map T.int)]:=by rw[<-kf];rfl
   rw[er] at q2
   exact eI na hcs (aw q2)
 refine aW ?_
 refine bE (dZ (tZ (decide (kind=19) || (decide (sg.length=1) && decide (kind=18))) ?_ ?_))
 .walk_at"wx"
  by_cases h19:kind=19
  .rw[aX h19]
   walk_at"wx"
   exact ⟨rfl,rfl⟩
  rw[aQ h19]
  walk_at"wx"
  refine b9 (dC hx2) ?_
  rw[af]
  walk_at"wx"
  by_cases h1:sg.length=1
  .rw[aX (by lia),aX h1]
   walk_at"wx"
   exact ⟨rfl,rfl⟩
  .rw[aQ (by lia),aQ h1]
   walk_at"wx"
   exact ⟨rfl,rfl⟩
 .cases decide (kind=19) || (decide (sg.length=1) && decide (kind=18)) with
  | true=>exact iteT (eX times)
  | false=>exact iteF (eM (eX call))
structure DfS (sg:List (Int×Int)) (s:Int×Int) (d:Df):Prop where
 t:d.takes=s.1
 b:d.boxes=s.2
 n:d.rows.length<=30
 rows:∀ r∈d.rows,r.Ok (P0 sg) d.boxes d.rows.length
 last:∃ r,d.rows[d.rows.length - 1]?=some r/\r.last
def sG:Pre:=fun ts G k=>∃ (b l:Addr) (sg:List (Int×Int)) (s:Int×Int) (x:T),ts=[.ptr b,x,sgT s]/\G b=some (.bag l)/\SqI G x (sg.map sgT)/\SgOk sg/\s∈sg/\∀ d,DfS sg s d->k (dfT d) G
theorem sc__law_def:FnScope ["bag","signs","sign","takes","boxes","many","rows","p","last"] ["bag","signs","sign"] (aD lD):=by walk_at"fs"
theorem ZjC (B:Blt mg) (T__law_def:TopFn K mg "_law_def" lD ["bag","signs","sign"]) (Zaf:Callee P w K mg base "_law_draw" 1 ["bag","many"] dH) (Zfq:Callee P w K mg base "_law_row" 3 ["bag","boxes","many","signs"] (spG P w K uh)):Callee P w K mg base "_law_def" 4 ["bag","signs","sign"] (spG P w K sG):=by
 refine T__law_def.okG sc__law_def (by walk_at"lnx") fun f cdv A outer s H E ts G k hr hh=>?_
 have nd:=sc__law_def.nd
 obtain ⟨b,l,sg,sn,x,rfl,hb,hx,hs,hm,q⟩:=hh
 obtain ⟨t0,t1,b1,b8⟩:=hs.s sn hm
 refine' go_G [some (.ptr b),some x,some (sgT sn),none,none,none,none,none,none] rfl ?hb ?hg
 case hb=>exact (ag (bm (pv 2) (cb (K:=K) (n:=2) rfl rfl (aF (xl 3 nd) (aF (gQ (i:=4) nd rfl (Or.inr rfl)) bQ)))) (ag (cO (i:=5) nd rfl (Or.inr rfl) (xc K (be (aj aa (aj aa (aj aa (aj aa (aj aa (aj aa (bG (ao br aa (xj Zaf hr.m (xg 0 (aj aa ab)))) (aj aa ab))))))))) (xj Zaf hr.m (xg 0 (aj aa ab))))) (ag (jT (i:=6) (LN:=["k"]) (FN:=["bag","boxes","many","signs"]) (fr:=[0,4,5,1]) rfl nd rfl rfl (cR (by rfl)) (cT rfl B.b_range (bG (ao cw (pv 5) aa) ab)) (fun t t t t t t=>(xl 0 (show ((["k"]:List Str)++(["bag","boxes","many","signs"]:List Str)).Nodup by decide +kernel))) (fun t t t t t t=>dh) (fun t t t t t t=>(xj Zfq hr.m (xg 1 (xg 2 (xg 3 (xh 4))))))) (ag (aH (PW.pt (bU (av fi (pv 5) aa (au _)) (cg (av aM (xj Zaf hr.m (xg 0 (aj aa ab))) aa (au _))))) (ag (bL (i:=7) nd rfl (Or.inl rfl) (xj Zaf hr.m (xg 0 (xh 4)))) (ag (bm (ar (aj ay (xg 7 (bG (ao br aa (xj Zaf hr.m (xg 0 (aj aa ab)))) ab)))) (bJ (pv 6) aa bI)) (ag (bm (ar (aj ay (bG (ao fP (ao br (pv 7) aa) (pv 4)) (aj aa ab)))) (bJ (pv 6) (ao cw (pv 5) aa) bI)) (ag (bm (gO (av fi (pv 4) aa (au _)) (ar (aj ay (xg 7 (xg 7 (bG (ao fP (ao br (pv 7) aa) (pv 4)) ab))))) (ar (aj ay (xg 7 (aj aa ab))))) (bJ (pv 6) (ao cw (pv 5) aa) bI)) (ag (bm (ar (aj ay (xg 7 (bG (ao cw (pv 5) aa) ab)))) (bJ (pv 6) (ao cw (pv 5) aa) bI)) (ak (bm (ar (aj ay (aj aa ab))) (bJ (pv 6) (ao cw (pv 5) aa) bI)))))))) a8) (ag (lb (i:=8) nd rfl (Or.inl rfl) (ar (aj ay (aK (xj Zaf hr.m (xg 0 (xh 4))) ab)))) (ag (aH (av aM (xj Zaf hr.m (xg 0 (aj aa ab))) aa (au _)) (ak (lb (i:=8) nd rfl (Or.inl rfl) (ar (aj ay (aK (xj Zaf hr.m (xg 0 (xh 5))) ab))))) a8) (ak (aB (ar (xg 3 (xg 4 (bG (ao de (pv 6) (be (xh 8))) ab))))))))))))
 refine bE (b0 (eR rfl (bX rfl ?_)))
 walk_at"wx"
 refine bf hb ⟨by decide,by decide⟩ fun m1 m10 m11=>?_
 walk_at"wx"
 refine bf hb ⟨by decide,by decide⟩ fun i i0 i1=>?_
 obtain ⟨many,em,mm1,mm2⟩:∃ many:Nat,atI [T.int 3,.int 6,.int 9,.int 4,.int 12,.int 7,.int (1+m1),.int 30] i=some (.int many)/\1<=many/\many<=30:=by
  have:i=0\/i=1\/i=2\/i=3\/i=4\/i=5\/i=6\/i=7:=by lia
  rcases this with rfl|rfl|rfl|rfl|rfl|rfl|rfl|rfl
  .exact ⟨3,rfl,by lia,by lia⟩
  .exact ⟨6,rfl,by lia,by lia⟩
  .exact ⟨9,rfl,by lia,by lia⟩
  .exact ⟨4,rfl,by lia,by lia⟩
  .exact ⟨12,rfl,by lia,by lia⟩
  .exact ⟨7,rfl,by lia,by lia⟩
  .exact ⟨(1+m1).toNat,by rw[Int.toNat_of_nonneg (by lia)];rfl,by lia,by lia⟩
  .exact ⟨30,rfl,by lia,by lia⟩
 refine bv em ?_
 refine aW ?_
 refine bE (b0 (oq ?_))
 walk_at"wx"
 refine ⟨((many - 1:Nat):Int),by congr 2;lia,by lia,by lia,?_⟩
 have hrl:(rngT ((many - 1:Nat):Int).toNat).length=many - 1:=by unfold rngT;simp
 refine ⟨by rw[hrl];lia,fun i acc Γ' G'=>G'=G/\(∃ c,Γ'=[c,some (.ptr b),some (.int sn.2),some (.int many),some x])/\∃ rs:List Rw,acc=rs.map rowT/\rs.length=i/\∀ r∈rs,r.Ok (P0 sg) sn.2 many,⟨rfl,⟨_,rfl⟩,[],rfl,rfl,fun q hq=>(cp hq).elim⟩,fun t t t t t=>trivial,?_,?_⟩
 .rintro i z acc Γ' G' hz ⟨rfl,⟨c',rfl⟩,rs,rfl,hl,hq⟩
  walk_at"wx"
  refine ⟨b,l,sn.2,many,sg,x,rfl,hb,hx,hs,b1,b8,by lia,by lia,fun r hr=>?_⟩
  refine ⟨rfl,⟨_,rfl⟩,rs++[r],by rw[aJ];rfl,by rw[ax,hl];rfl,fun q hq'=>?_⟩
  rcases aI.mp hq' with h|h
  .exact hq q h
  .rw[aU.mp h];exact hr
 rintro acc Γ' G' ⟨rfl,⟨c',rfl⟩,rs,rfl,hl,hok⟩ a na
 rw[hrl] at hl
 have nba:b≠a:=g_ne hb na
 have hb2:∀ {c},gput G' a c b=some (.bag l):=fun {c}=>by rw[gp_n nba];exact hb
 refine aW ?_
 refine cI (fun Γ' G2=>(∃ c1,Γ'=[some (.ptr b),some x,some (sgT sn),some (.int sn.1),some (.int sn.2),some (.int many),some (.ptr a),c1,none])/\∃ rs:List Rw,G2=gput G' a (.lst (rs.map rowT))/\rs.length=many - 1/\∀ r∈rs,r.Ok (P0 sg) sn.2 many) ?_ ?_
 .walk_at"wx"
  by_cases h5:5 < many
  .rw[aX (by lia)]
   walk_at"wx"
   refine bf hb2 ⟨by decide,by decide⟩ fun y y0 y1=>?_
   walk_at"wx"
   by_cases hy:y=1
   .rw[aX hy]
    have stp:∀ {rs:List Rw} {i:Int} {r:Rw} {kn:Ev->GH->Prop} {Γ:Ev},rs.length=many - 1->0<=i->i < many - 1->kn Γ (gput G' a (.lst ((rs.set i.toNat r).map rowT)))->∃ a' ts i' j,T.ptr a=.ptr a'/\T.int i=.int i'/\gput G' a (.lst (rs.map rowT)) a'=some (.lst ts)/\ixN ts.length i'=some j/\kn Γ (gput (gput G' a (.lst (rs.map rowT))) a' (.lst (ts.set j (rowT r)))):=fun {rs i r kn Γ} hl i0 i1 h=>by
     refine ⟨a,_,i,i.toNat,rfl,rfl,gp_s,?_,?_⟩
     .rw[af,hl]
      unfold ixN
      rw[ah i0,ah (by lia)]
     .rw[gp_p,<- gI];exact h
    have keep:∀ {rs:List Rw} {i:Nat} {r:Rw},(∀ r∈rs,r.Ok (P0 sg) sn.2 many)->r.Ok (P0 sg) sn.2 many->∀ r'∈rs.set i r,r'.Ok (P0 sg) sn.2 many:=fun {rs i r} h hr r' hr'=>by
     rcases jA hr' with h'|rfl
     .exact h r' h'
     .exact hr
    walk_at"wx"
    refine bf hb2 ⟨by lia,by lia⟩ fun p p0 p1=>?_
    walk_at"wx"
    refine bf hb2 ⟨by decide,by decide⟩ fun v v0 v1=>?_
    have hp:In0 p sn.2:=⟨p0,p1⟩
    have hp1:In0 ((p+1) % sn.2) sn.2:=⟨jD _ (by lia),jE _ (by lia)⟩
    walk_at"wx"
    refine stp (r:=.put p (3+v)) hl (by lia) (by lia) ?_
    have hl1:(rs.set (0:Int).toNat (.put p (3+v))).length=many - 1:=by rw[cr];exact hl
    have ok1:=keep (i:=(0:Int).toNat) (r:=.put p (3+v)) hok ⟨hp,by lia⟩
    generalize rs.set (0:Int).toNat (.put p (3+v))=rs1 at hl1 ok1
    walk_at"wx"
    refine oh (by lia) ?_
    walk_at"wx"
    refine stp (r:=.put ((p+1) % sn.2) 1) hl1 (by lia) (by lia) ?_
    have hl2:(rs1.set ((many:Int) - 5).toNat (.put ((p+1) % sn.2) 1)).length=many - 1:=by rw[cr];exact hl1
    have ok2:=keep (i:=((many:Int) - 5).toNat) (r:=.put ((p+1) % sn.2) 1) ok1 ⟨hp1,(by decide:(1:Int).natAbs<=10 ^ 60)⟩
    generalize rs1.set ((many:Int) - 5).toNat (.put ((p+1) % sn.2) 1)=rs2 at hl2 ok2
    walk_at"wx"
    by_cases hb1:1 < sn.2
    .rw[aX hb1]
     walk_at"wx"
     refine oh (by lia) ?_
     walk_at"wx"
     refine stp (r:=.less p p ((p+1) % sn.2)) hl2 (by lia) (by lia) ?_
     have ok3:=keep (i:=((many:Int) - 4).toNat) (r:=.less p p ((p+1) % sn.2)) ok2 ⟨hp,hp,hp1⟩
     have hl3:(rs2.set ((many:Int) - 4).toNat (.less p p ((p+1) % sn.2))).length=many - 1:=by rw[cr];exact hl2
     generalize rs2.set ((many:Int) - 4).toNat (.less p p ((p+1) % sn.2))=rs3 at hl3 ok3
     walk_at"wx"
     refine stp (r:=.zero p (many - 1)) hl3 (by lia) (by lia) ?_
     have hl4:(rs3.set ((many:Int) - 3).toNat (.zero p (many - 1))).length=many - 1:=by rw[cr];exact hl3
     have ok4:=keep (i:=((many:Int) - 3).toNat) (r:=.zero p (many - 1)) ok3 ⟨hp,by lia,by lia⟩
     generalize rs3.set ((many:Int) - 3).toNat (.zero p (many - 1))=rs4 at hl4 ok4
     walk_at"wx"
     refine stp (r:=.jump 1) hl4 (by lia) (by lia) ?_
     exact ⟨⟨_,rfl⟩,_,rfl,by rw[cr];exact hl4,keep ok4 ⟨by lia,by lia⟩⟩
    .rw[aQ hb1]
     walk_at"wx"
     refine stp (r:=.put p 0) hl2 (by lia) (by lia) ?_
     have ok3:=keep (i:=((many:Int) - 4).toNat) (r:=.put p 0) ok2 ⟨hp,(by decide:(0:Int).natAbs<=10 ^ 60)⟩
     have hl3:(rs2.set ((many:Int) - 4).toNat (.put p 0)).length=many - 1:=by rw[cr];exact hl2
     generalize rs2.set ((many:Int) - 4).toNat (.put p 0)=rs3 at hl3 ok3
     walk_at"wx"
     refine stp (r:=.zero p (many - 1)) hl3 (by lia) (by lia) ?_
     have hl4:(rs3.set ((many:Int) - 3).toNat (.zero p (many - 1))).length=many - 1:=by rw[cr];exact hl3
     have ok4:=keep (i:=((many:Int) - 3).toNat) (r:=.zero p (many - 1)) ok3 ⟨hp,by lia,by lia⟩
     generalize rs3.set ((many:Int) - 3).toNat (.zero p (many - 1))=rs4 at hl4 ok4
     walk_at"wx"
     refine stp (r:=.jump 1) hl4 (by lia) (by lia) ?_
     exact ⟨⟨_,rfl⟩,_,rfl,by rw[cr];exact hl4,keep ok4 ⟨by lia,by lia⟩⟩
   .rw[aQ hy]
    walk_at"wx"
    exact ⟨⟨_,rfl⟩,rs,rfl,hl,hok⟩
  .rw[aQ (by lia)]
   walk_at"wx"
   exact ⟨⟨_,rfl⟩,rs,rfl,hl,hok⟩
 rintro Γ' G2 ⟨⟨c1,rfl⟩,rs,rfl,hl,hok⟩
 walk_at"wx"
 refine bf hb2 ⟨by lia,by lia⟩ fun z z0 z1=>?_
 walk_at"wx"
 refine bf hb2 ⟨by decide,by decide⟩ fun u u0 u1=>?_
 have fin:∀ r:Rw,r.Ok (P0 sg) sn.2 many->r.last->k (dfT ⟨sn.1,sn.2,rs++[r]⟩) G':=fun r hr hlst=>by
  have hle:(rs++[r]).length=many:=by rw[ax,hl];simp;lia
  refine q _ ⟨rfl,rfl,by rw[hle];exact mm2,fun r' hr'=>?_,r,?_,hlst⟩
  .show r'.Ok (P0 sg) sn.2 (rs++[r]).length
   rw[hle]
   rcases aI.mp hr' with h|h
   .exact hok r' h
   .rw[aU.mp h];exact hr
  .show (rs++[r])[(rs++[r]).length - 1]?=some r
   rw[ax,dq,Nat.add_sub_cancel];exact bB
 walk_at"wx"
 by_cases h5:u=5
 .rw[aX h5]
  walk_at"wx"
  refine bf hb2 ⟨by lia,by lia⟩ fun v v0 v1=>?_
  walk_at"wx"
  refine fI (si_p gp_s) si_l (by rw[af,hl];simp;lia) ?_
  walk_at"wx"
  have:=fin (.jump v) ⟨v0,v1⟩ trivial
  refine eI na nofun (aw ?_)
  unfold dfT at this
  rw[aJ] at this
  exact this
 .rw[aQ h5]
  walk_at"wx"
  refine fI (si_p gp_s) si_l (by rw[af,hl];simp;lia) ?_
  walk_at"wx"
  have:=fin (.back z) ⟨z0,z1⟩ trivial
  refine eI na nofun (aw ?_)
  unfold dfT at this
  rw[aJ] at this
  exact this
theorem ok_of {sg:List (Int×Int)} {Q:List Df} (hq:∀ (i:Nat) s,sg[i]?=some s->∃ d,Q[i]?=some d/\d.takes=s.1) {nb many:Int} {r:Rw} (h:r.Ok (P0 sg) nb many):r.Ok Q nb many:=by
 cases r with
 | call p f qs =>
  obtain ⟨h1,⟨d,h2,h3,h4⟩,h5⟩:=h
  rw[aq] at h3
  obtain ⟨s,es,rfl⟩:=bc.mp h3
  obtain ⟨d',e1,e2⟩:=hq _ s es
  exact ⟨h1,⟨d',h2,e1,by rw[e2];exact h4⟩,h5⟩
 | _=>exact h
theorem pg_of {sg:List (Int×Int)} (hs:SgOk sg) {Q:List Df} (hl:Q.length=sg.length) (h:∀ (i:Nat) s d,sg[i]?=some s->Q[i]?=some d->DfS sg s d):PgK Q:=by
 have l1:=hs.l1
 have l2:=hs.l2
 have at':∀ d∈Q,∃ s∈sg,DfS sg s d:=fun d hd=>by
  obtain ⟨i,hi⟩:=eB.mp hd
  have hlt:=(ba.mp hi).1
  have es:sg[i]?=some (sg[i]'(by lia)):=aC _
  exact ⟨_,aE es,h i _ d es hi⟩
 have hq:∀ (i:Nat) s,sg[i]?=some s->∃ d,Q[i]?=some d/\d.takes=s.1:=fun i s es=>by
  have hlt:=(ba.mp es).1
  have ed:Q[i]?=some (Q[i]'(by lia)):=aC _
  exact ⟨_,ed,(h i s _ es ed).t⟩
 refine ⟨⟨fun e=>by rw[e] at hl;simp at hl;lia,by lia,fun d hd=>?_⟩,fun d hd=>?_⟩
 .obtain ⟨s,hs',D⟩:=at' d hd
  obtain ⟨q1,q2,q3,q4⟩:=hs.s s hs'
  exact ⟨by rw[D.b];lia,by rw[D.b,D.t];lia,by have:=D.n;lia,fun r hr=>ok_of hq (D.rows r hr),D.last⟩
 .obtain ⟨s,hs',D⟩:=at' d hd
  rw[D.b];exact (hs.s s hs').2.2.2
theorem l_min {P:Program} {w:World} {K:W.Frag} {G:GH} {k:T->GH->Prop} {i j:Int} (h:k (.int (if j < i then j else i)) G):LNr P w K rMin [.int i,.int j] G k:=fun H us g r Q z=>by
 cases r with|cons r1 r2=>cases r2 with|cons r2 r3 =>
 cases r1;cases r2;cases r3
 exact ⟨i,j,rfl,z.here g .int h⟩
theorem lF {vs:List Int} {i lo hi:Int} (h0:0<=i) (h1:i < vs.length) (h:∀ v∈vs,lo<=v/\v<=hi):∃ v,atI (vs.map T.int) i=some (.int v)/\lo<=v/\v<=hi:=by
 have hi':i.toNat < vs.length:=by lia
 exact ⟨vs[i.toNat],at_i h0 (by rw[aq,aC hi'];rfl),h _ (getElem_mem hi')⟩
def Zfv:Pre:=fun ts G k=>∃ (b l:Addr),ts=[.ptr b]/\G b=some (.bag l)/\∀ Q,PgK Q->k (pgT Q) G
theorem sc__law_program:FnScope ["bag","signs","k","boxes"] ["bag"] (aD me):=by walk_at"fs"
theorem ZfA (B:Blt mg) (T__law_program:TopFn K mg "_law_program" me ["bag"]) (Zaf:Callee P w K mg base "_law_draw" 1 ["bag","many"] dH) (Zfs:Callee P w K mg base "_law_def" 4 ["bag","signs","sign"] (spG P w K sG)):Callee P w K mg base "_law_program" 5 ["bag"] (spG P w K Zfv):=by
 refine T__law_program.okG sc__law_program (by walk_at"lnx") fun f cdv A outer s H E ts G k hr hh=>?_
 have nd:=sc__law_program.nd
 obtain ⟨b,l,rfl,hb,q⟩:=hh
 refine' go_G [some (.ptr b),none,none,none] rfl ?hb ?hg
 case' hb=>refine' ag ?bab ?bac
 case' bab=>refine' gK (i:=1) ?bad ?bae ?baf ?bag
 case bad=>exact nd
 case bae=>exact rfl
 case baf=>exact (Or.inr rfl)
 case' bag=>refine' be ?bah
 case' bah=>refine' aT ?bai ?baj
 case' bai=>refine' ar ?bak
 case' bak=>refine' aj ?bal ?bam
 case bal=>exact aa
 case' bam=>refine' aL ?ban ?bao
 case' ban=>refine' f7 ?bap ?baq ?bar ?bas
 case bap=>exact (k_ix (K:=K) rfl)
 case' baq=>refine' be ?bat
 case bat=>exact (aj aa (aj aa (aj aa (aj aa (aj aa (aj aa (aj aa (aj aa ab))))))))
 case bar=>exact (xj Zaf hr.m (xg 0 (aj aa ab)))
 case bas=>exact (fun r r=>rfl)
 case bao=>exact ab
 case baj=>exact ab
 case' bac=>refine' ag ?bau ?bav
 case' bau=>refine' cz ?baw ?bax ?bay ?baz ?bba
 case baw=>exact PassesOwn.never
 case bax=>exact rfl
 case' bay=>refine' cT ?bbb ?bbc ?bbd
 case bbb=>exact rfl
 case bbc=>exact B.b_range
 case' bbd=>refine' aL ?bbe ?bbf
 case' bbe=>refine' f7 ?bbg ?bbh ?bbi ?bbj
 case bbg=>exact (k_ix (K:=K) rfl)
 case' bbh=>refine' be ?bbk
 case bbk=>exact (aj aa (aj aa (aj aa (aj aa (aj aa (aj aa (aj aa (aj aa ab))))))))
 case bbi=>exact (xj Zaf hr.m (xg 0 (aj aa ab)))
 case bbj=>exact (fun r r=>rfl)
 case bbf=>exact ab
 case baz=>exact (xl 2 nd)
 case' bba=>refine' ag ?bbl ?bbm
 case' bbl=>refine' dG (i:=3) ?bbn ?bbo ?bbp ?bbq
 case bbn=>exact nd
 case bbo=>exact rfl
 case bbp=>exact (Or.inl rfl)
 case' bbq=>refine' ao ?bbr ?bbs ?bbt
 case bbr=>exact br
 case bbs=>exact aa
 case' bbt=>refine' fM ?bbu ?bbv ?bbw ?bbx
 case bbu=>exact Zaf
 case bbv=>exact hr.m
 case bbw=>exact (by rfl)
 case' bbx=>refine' bn ?bby ?bbz
 case bby=>exact (pv 0)
 case' bbz=>refine' aL ?bca ?bcb
 case' bca=>refine' f7 ?bcc ?bcd ?bce ?bcf
 case bcc=>exact (k_ix (K:=K) rfl)
 case bcd=>exact (be (aj aa (aj aa (aj aa ab))))
 case bce=>exact (xj Zaf hr.m (xg 0 (aj aa ab)))
 case bcf=>exact (fun r r=>rfl)
 case bcb=>exact ab
 case' bbm=>refine' ak ?bcg
 case' bcg=>refine' cx ?bch
 case' bch=>refine' k_bm (K:=K) ?bci ?bcj ?bck ?bcl ?bcm ?bcn ?bco
 case bci=>exact rfl
 case bcj=>exact PySem.F.plainAttrs_list
 case bck=>exact PySem.F.slot_list_append
 case bcl=>exact PySem.F.type_list_append
 case bcm=>exact eE
 case bcn=>exact (pv 1)
 case' bco=>refine' aT ?bcp ?bcq
 case' bcp=>refine' ar ?bcr
 case' bcr=>refine' aK ?bcs ?bct
 case' bcs=>refine' aO ?bcu ?bcv ?bcw ?bcx ?bcy
 case bcu=>exact (Zk8 rfl)
 case bcv=>exact (by rfl)
 case bcw=>exact B.b_min
 case bcx=>exact bt_min
 case' bcy=>refine' bn ?bcz ?bda
 case bcz=>exact (pv 3)
 case' bda=>refine' aL ?bdb ?bdc
 case' bdb=>refine' f7 ?bdd ?bde ?bdf ?bdg
 case bdd=>exact (k_ix (K:=K) rfl)
 case bde=>exact (be (aj aa (aj aa (aj aa (aj aa (aj aa (aj aa ab)))))))
 case bdf=>exact (xj Zaf hr.m (xg 0 (aj aa ab)))
 case bdg=>exact (fun r r=>rfl)
 case bdc=>exact ab
 case bct=>exact (xh 3)
 case bcq=>exact ab
 case' bav=>refine' ak ?bdh
 case' bdh=>refine' aB ?bdi
 case' bdi=>refine' eY (LN:=["sign"]) (FN:=["bag","signs"]) (fr:=[0,1]) ?bdj ?bdk ?bdl ?bdm ?bdn ?bdo
 case bdj=>exact rfl
 case bdk=>exact (cR (by rfl))
 case bdl=>exact (dI (K:=K) rfl (pv 1))
 case' bdm=>intro cl C fp pins s H
 case bdm=>exact (xl 0 (show ((["sign"]:List Str)++(["bag","signs"]:List Str)).Nodup by decide +kernel))
 case' bdn=>intro cl C fp pins s H
 case bdn=>exact dh
 case' bdo=>intro cl C fp pins s H
 case bdo=>exact (xj Zfs hr.m (xg 1 (xg 2 (xh 0))))
 refine bE (b0 (fg ?_))
 walk_at"wx"
 refine bf hb ⟨by decide,by decide⟩ fun i i0 i1=>?_
 walk_at"wx"
 obtain ⟨v,ev,v1,v8⟩:=lF (vs:=[3,2,4,8,1,6,7,5]) (lo:=1) (hi:=8) i0 i1 (by decide)
 refine bv ev ?_
 walk_at"wx"
 intro a na
 have nba:b≠a:=g_ne hb na
 have hb2:∀ {c},gput G a c b=some (.bag l):=fun {c}=>by rw[gp_n nba];exact hb
 refine aW ?_
 walk_at"wx"
 refine bf hb2 ⟨by decide,by decide⟩ fun n n0 n1=>?_
 walk_at"wx"
 obtain ⟨m,em,m0,m5⟩:=lF (vs:=[0,1,2,1,3,4,2,5]) (lo:=0) (hi:=5) n0 n1 (by decide)
 refine bv em ?_
 walk_at"wx"
 refine ⟨m,rfl,by lia,by lia,?_⟩
 have hrl:(rngT m.toNat).length=m.toNat:=by unfold rngT;simp
 refine ⟨fun i Γ' G'=>(∃ c1 c2,Γ'=[some (.ptr b),some (.ptr a),c1,c2])/\∃ sg:List (Int×Int),G'=gput G a (.lst (sg.map sgT))/\sg.length=i+1/\∀ s∈sg,0<=s.1/\s.1<=s.2/\1<=s.2/\s.2<=8,⟨⟨_,_,rfl⟩,[(0,v)],rfl,rfl,fun s hs=>by rw[aU.mp hs];exact ⟨by lia,by lia,v1,v8⟩⟩,fun r r r r=>trivial,?_,?_⟩
 .rintro i z Γ' G' hz ⟨⟨c1,c2,rfl⟩,sg,rfl,hl,hs⟩
  have hi:=(ba.mp hz).1
  walk_at"wx"
  refine bf hb2 ⟨by decide,by decide⟩ fun x x0 x1=>?_
  walk_at"wx"
  obtain ⟨y,ey,y1,y8⟩:=lF (vs:=[3,3,8]) (lo:=1) (hi:=8) x0 x1 (by decide)
  refine bv ey ?_
  walk_at"wx"
  refine bf hb2 ⟨by lia,by lia⟩ fun bx bx0 bx1=>?_
  walk_at"wx"
  refine ⟨ty_p gp_s,?_⟩
  walk_at"wx"
  refine bf hb2 ⟨by decide,by decide⟩ fun u u0 u1=>?_
  walk_at"wx"
  obtain ⟨t,et,t0,t4⟩:=lF (vs:=[1,2,0,1,3,4]) (lo:=0) (hi:=4) u0 u1 (by decide)
  refine bv et ?_
  walk_at"wx"
  refine l_min ?_
  walk_at"wx"
  refine eJ gp_s (by rw[af];lia) ?_
  rw[gp_p]
  dsimp only
  refine ca ⟨⟨_,_,rfl⟩,sg++[(if t < 1+bx then t else 1+bx,1+bx)],by rw[aJ];rfl,by rw[ax,hl];rfl,fun s hs'=>?_⟩
  rcases aI.mp hs' with h|h
  .exact hs s h
  .rw[aU.mp h]
   dsimp only
   split <;> lia
 rintro Γ' G' ⟨⟨c1,c2,rfl⟩,sg,rfl,hl,hs⟩
 rw[hrl] at hl
 have so:SgOk sg:=⟨by lia,by lia,hs⟩
 refine eX (jf ?_)
 walk_at"wx"
 refine ⟨sg.map sgT,si_p gp_s,?_⟩
 refine ⟨by rw[af];lia,fun i acc Γ' G'=>G'=gput G a (.lst (sg.map sgT))/\(∃ c,Γ'=[c,some (.ptr b),some (.ptr a)])/\∃ Q:List Df,acc=Q.map dfT/\Q.length=i/\∀ (j:Nat) s d,sg[j]?=some s->Q[j]?=some d->DfS sg s d,⟨rfl,⟨_,rfl⟩,[],rfl,rfl,fun j s d r h=>by cases h⟩,fun i acc Γ' G' ⟨e,_⟩=>e▸si_p gp_s,?_,?_⟩
 .rintro i z acc Γ' G' hz ⟨rfl,⟨c',rfl⟩,Q,rfl,hl',hq⟩
  rw[aq] at hz
  obtain ⟨s,es,rfl⟩:=bc.mp hz
  walk_at"wx"
  refine ⟨b,l,sg,s,.ptr a,rfl,hb2,si_p gp_s,so,aE es,fun d hd=>?_⟩
  refine ⟨rfl,⟨_,rfl⟩,Q++[d],by rw[aJ];rfl,by rw[ax,hl'];rfl,fun j s' d' e1 e2=>?_⟩
  by_cases hj:j < Q.length
  .rw[cL hj] at e2;exact hq j s' d' e1 e2
  .have h2:=(ba.mp e2).1
   rw[ax] at h2
   have ej:j=Q.length:=by simp at h2;lia
   subst ej
   rw[bB] at e2
   rw[hl',es] at e1
   cases e1;cases e2;exact hd
 .rintro acc Γ' G' ⟨rfl,⟨c',rfl⟩,Q,rfl,hl',hq⟩
  rw[af] at hl'
  exact eI na nofun (aw (q Q (pg_of so hl' hq)))
def pW:Pre:=fun ts G k=>∃ n,ts=[.int n]/\k (fmT (n,[])) G
theorem sc_plain:FnScope ["n"] ["n"] (aD ma):=by walk_at"fs"
theorem Zn5 (T_plain:TopFn K mg "plain" ma ["n"]):Callee P w K mg base "plain" 1 ["n"] (spG P w K pW):=by
 refine T_plain.okG sc_plain (by walk_at"lnx") fun f cdv A outer s H E ts G k hr hh=>?_
 have nd:=sc_plain.nd
 obtain ⟨n,rfl,q⟩:=hh
 refine' go_G [some (.int n)] rfl ?hb ?hg
 case hb=>exact (ak (aB (ar (xg 0 (aT (ar ab) ab)))))
 walk_at"wy"
 exact aw q
def qH:Pre:=fun ts G k=>∃ f:Fm,ts=[fmT f]/\k (.bl (decide (f.2=[]))) G
theorem sc_is_plain:FnScope ["form"] ["form"] (aD lH):=by walk_at"fs"
theorem Zjy (B:Blt mg) (T_is_plain:TopFn K mg "is_plain" lH ["form"]):Callee P w K mg base "is_plain" 1 ["form"] (spG P w K qH):=by
 refine T_is_plain.okG sc_is_plain (by walk_at"lnx") fun f cdv A outer s H E ts G k hr hh=>?_
 have nd:=sc_is_plain.nd
 obtain ⟨f,rfl,q⟩:=hh
 refine' go_G [some (fmT f)] rfl ?hb ?hg
 case hb=>exact (ak (aB (eZ aM (aO (bw (K:=K) rfl) (by rfl) B.b_len bz (aL (xc K (pv 0) aa) ab)) aa (au _))))
 walk_at"wy"
 refine l_ix sg_t rfl ?_
 walk_at"wy"
 refine b9 sg_t ?_
 walk_at"wy"
 have:(decide (((f.2.map prT).length:Int)=0))=decide (f.2=[]):=by rw[af];cases f.2 <;> simp;lia
 rw[this]
 exact aw q
def oU:Pre:=fun ts G k=>∃ d f n t,ts=[.ptr d,fmT f,.int n]/\G d=some (.tb t)/\t.length+f.2.length<=10000/\(∀ p∈f.2,p.1.natAbs<=10 ^ 1000)/\n.natAbs<=10 ^ 1000/\k .non (gput G d (.tb (aZ t f.2 n)))
theorem fA {i j:Int} (h:i.natAbs<=10 ^ 1000) (h2:j.natAbs<=10 ^ 1000):CBig i j:=⟨ia h (by decide +kernel),ia h2 (by decide +kernel)⟩
theorem sc_gather:FnScope ["numbers","form","n","a","w"] ["numbers","form","n"] (aD l6):=by walk_at"fs"
theorem Zml (B:Blt mg) (T_gather:TopFn K mg "gather" l6 ["numbers","form","n"]):Callee P w K mg base "gather" 1 ["numbers","form","n"] (spG P w K oU):=by
 refine T_gather.okG sc_gather (by walk_at"lnx") fun f cdv A outer s H E ts G k hr hh=>?_
 have nd:=sc_gather.nd
 have hu1:=iG hr
 obtain ⟨d,f,n,t,rfl,hd,hl,ha,hn,q⟩:=hh
 refine' go_G [some (.ptr d),some (fmT f),some (.int n),none,none] rfl ?hb ?hg
 case hb=>exact (ak (cz PassesOwn.never rfl (dE (K:=K) rfl (xc K (pv 1) aa)) (cb (K:=K) (n:=2) rfl rfl (aF (xl 3 nd) (aF (xl 4 nd) bQ))) (ak (f6 hu1 (pv 0) (pv 4) (ao br (rK hu1 (pv 0) (pv 4) aa (M2.mk rfl rfl rfl rfl)) (ao eL (pv 3) (pv 2))) rfl))))
 walk_at"wy"
 refine l_ix sg_t rfl ?_
 refine ⟨_,rfl,fun i Γ G'=>(∃ x y,Γ=[some (.ptr d),some (fmT f),some (.int n),x,y])/\G'=gput G d (.tb (aZ t (f.2.take i) n)),⟨⟨none,none,rfl⟩,(fO hd).symm⟩,fun j j j j=>trivial,?_,?_⟩
 .rintro i x Γ G' hx ⟨⟨x1,x2,rfl⟩,rfl⟩
  rw[aq] at hx
  obtain ⟨p,ep,rfl⟩:=bc.mp hx
  refine bX rfl ?_
  walk_at"wy"
  refine ⟨d,_,rfl,gp_s,?_⟩
  walk_at"wy"
  refine ⟨_,_,gp_s,rfl,rfl,?_⟩
  walk_at"wy"
  refine l_IC (fA (ha p (aE ep)) hn) ?_
  walk_at"wy"
  have hg:=jF (f.2.take i) n t
  rw[dM] at hg
  refine ⟨d,_,_,_,rfl,rfl,gp_s,rfl,by lia,?_⟩
  dsimp only
  refine ca ?_
  refine ⟨⟨_,_,rfl⟩,?_⟩
  rw[gp_p,<- pA,dw,ep]
  rfl
 .rintro Γ G' ⟨j,rfl⟩
  rw[af,dO]
  exact q
def oA:Pre:=fun ts G k=>∃ c d t,ts=[.int c,.ptr d]/\G d=some (.tb t)/\t.length < 64/\k (fmT (wnF c t)) G
theorem sc_with_numbers:FnScope ["c","numbers"] ["c","numbers"] (aD lS):=by walk_at"fs"
theorem Zfz (B:Blt mg) (T_with_numbers:TopFn K mg "with_numbers" lS ["c","numbers"]):Callee P w K mg base "with_numbers" 1 ["c","numbers"] (spG P w K oA):=by
 refine T_with_numbers.okG sc_with_numbers (by walk_at"lnx") fun f cdv A outer s H E ts G k hr hh=>?_
 have nd:=sc_with_numbers.nd
 have hu1:=iG hr
 obtain ⟨c,d,t,rfl,hd,hl,q⟩:=hh
 refine' go_G [some (.int c),some (.ptr d)] rfl ?hb ?hg
 case hb=>exact (ak (aB (ar (xg 0 (aK (cN (fj (K:=K) rfl) (by rfl) B.b_tuple dR (fh (xo ["w"] ["numbers"] [1] (dI (K:=K) rfl (aO (qL rfl) (by rfl) B.b_sorted pD (xh 1))) (fun j j j j j j=>(qZ (av i6 (fW hu1 (pv 1) (pv 0) (fun j j=>rfl)) aa (au _)))) (fun j j j j j j=>(ar (aL (fW hu1 (pv 1) (pv 0) (fun j j=>rfl)) (xh 0))))) ab)) ab)))))
 have hp:=gW (t.map (·.1))
 walk_at"wy"
 refine jf ?_
 walk_at"wy"
 refine tR hd hl ?_
 refine ⟨_,si_l,by rw[af,hp.length_eq,af];lia,fun i acc Γ G'=>(∃ x,Γ=[x,some (.ptr d)])/\G'=G/\acc=(ci t ((sortI (t.map (·.1))).take i)).map prT,⟨⟨none,rfl⟩,rfl,rfl⟩,fun j j j j j=>si_l,?_,?_⟩
 .rintro i x acc Γ G' hx ⟨⟨x1,rfl⟩,rfl,rfl⟩
  rw[aq] at hx
  obtain ⟨m,em,rfl⟩:=bc.mp hx
  have hm:m∈t.map (·.1):=hp.mem_iff.mp (aE em)
  have etk:ci t ((sortI (t.map (·.1))).take (i+1))=ci t ((sortI (t.map (·.1))).take i)++(if aP t m≠0 then [(aP t m,m)] else []):=by
   unfold ci
   rw[dw,em,qF,filter_append,aJ]
   by_cases e0:aP t m=0 <;> simp[e0]
  walk_at"wy"
  refine ⟨d,t,m,rfl,hd,rfl,hm,?_⟩
  walk_at"wy"
  refine sQ (fun hz=>?_) (fun hz=>?_)
  .walk_at"wy"
   refine ⟨d,t,m,rfl,hd,rfl,hm,?_⟩
   walk_at"wy"
   refine ⟨⟨_,rfl⟩,rfl,?_⟩
   rw[etk,ah hz,aJ]
   rfl
  .refine ⟨⟨_,rfl⟩,rfl,?_⟩
   rw[etk,ai (by simpa using hz),gy]
 .rintro acc Γ G' ⟨j,rfl,rfl⟩
  walk_at"wy"
  refine e8 sg_l (fun j=>nofun) ?_
  rw[af,dO]
  walk_at"wy"
  exact aw q
structure FoB (n:Nat) (f:Fm):Prop where
 o:Fo n (10 ^ 900) f
 n:n < 64
theorem kW {n:Nat} {t:List (Int×Int)} (hn:n < 64) (h1:(t.map (·.1)).Nodup) (h2:∀ x∈t.map Prod.fst,0<=x/\x < n):t.length < 64:=by
 have:=mV (n:=n) _ h1 h2
 rw[af] at this
 lia
def oW:Pre:=fun ts G k=>∃ n f g m,ts=[fmT f,fmT g,.int m]/\FoB n f/\FoB n g/\m.natAbs<=10 ^ 900/\k (fmT (bO f g m)) G
theorem l9 {x:Nat} (h:x<=10 ^ 900):x<=10 ^ 1000:=aR h (kS (by decide) (by decide))
theorem sc_joined:FnScope ["one","other","n","numbers"] ["one","other","n"] (aD mX):=by walk_at"fs"
theorem Zmk (T_joined:TopFn K mg "joined" mX ["one","other","n"]) (Cgather:Callee P w K mg base "gather" 1 ["numbers","form","n"] (spG P w K oU)) (Cwith_numbers:Callee P w K mg base "with_numbers" 1 ["c","numbers"] (spG P w K oA)):Callee P w K mg base "joined" 2 ["one","other","n"] (spG P w K oW):=by
 refine T_joined.okG sc_joined (by walk_at"lnx") fun f cdv A outer s H E ts G k hr hh=>?_
 have nd:=sc_joined.nd
 obtain ⟨n,f,g,m,rfl,hf,hg,hm,q⟩:=hh
 refine' go_G [some (fmT f),some (fmT g),some (.int m),none] rfl ?hb ?hg
 case hb=>exact (ag (cv (i:=3) nd rfl (Or.inl rfl) lr) (ag (cx (xj Cgather hr.m (xg 3 (xg 0 (aj aa ab))))) (ag (cx (xj Cgather hr.m (xg 3 (xg 1 (xh 2))))) (ak (aB (xj Cwith_numbers hr.m (bG (ao br (xc K (pv 0) aa) (ao eL (pv 2) (xc K (pv 1) aa))) (xh 3))))))))
 obtain ⟨t1,t2,j⟩:=pP (m:=m) hf.o hg.o
 have h1:=hf.o.len
 have h2:=hg.o.len
 have h3:=hf.n
 have h4:=jF f.2 1 []
 rw[gF] at h4
 walk_at"wy"
 intro p hp
 walk_at"wy"
 refine ⟨p,f,1,[],rfl,gp_s,by rw[gF];lia,fun q hq=>l9 (hf.o.a q hq),by decide +kernel,?_⟩
 walk_at"wy"
 refine ⟨p,g,m,_,rfl,gp_s,by lia,fun q hq=>l9 (hg.o.a q hq),l9 hm,?_⟩
 walk_at"wy"
 refine l_ix sg_t rfl ?_
 walk_at"wy"
 refine l_ix sg_t rfl ?_
 walk_at"wy"
 refine l_IC (fA (l9 hm) (l9 hg.o.c)) ?_
 walk_at"wy"
 refine ⟨_,p,_,rfl,gp_s,kW hf.n t1 t2,?_⟩
 rw[gp_p,gp_p]
 exact eI hp (fun j=>nofun) (aw q)
def mL (m:Int):Pre:=fun ts G k=>∃ n f g,ts=[fmT f,fmT g]/\FoB n f/\FoB n g/\k (fmT (bO f g m)) G
theorem sc_plus:FnScope ["one","other"] ["one","other"] (aD k8):=by walk_at"fs"
theorem c_plus (T_plus:TopFn K mg "plus" k8 ["one","other"]) (Cjoined:Callee P w K mg base "joined" 2 ["one","other","n"] (spG P w K oW)):Callee P w K mg base "plus" 3 ["one","other"] (spG P w K (mL 1)):=by
 refine T_plus.okG sc_plus (by walk_at"lnx") fun f cdv A outer s H E ts G k hr hh=>?_
 have nd:=sc_plus.nd
 obtain ⟨n,f,g,rfl,hf,hg,q⟩:=hh
 refine' go_G [some (fmT f),some (fmT g)] rfl ?hb ?hg
 case hb=>exact (ak (aB (xj Cjoined hr.m (xg 0 (xg 1 (aj aa ab))))))
 walk_at"wy"
 exact ⟨n,f,g,1,rfl,hf,hg,by decide +kernel,aw q⟩
theorem sc_less:FnScope ["one","other"] ["one","other"] (aD mH):=by walk_at"fs"
theorem c_less (T_less:TopFn K mg "less" mH ["one","other"]) (Cjoined:Callee P w K mg base "joined" 2 ["one","other","n"] (spG P w K oW)):Callee P w K mg base "less" 3 ["one","other"] (spG P w K (mL (-1))):=by
 refine T_less.okG sc_less (by walk_at"lnx") fun f cdv A outer s H E ts G k hr hh=>?_
 have nd:=sc_less.nd
 obtain ⟨n,f,g,rfl,hf,hg,q⟩:=hh
 refine' go_G [some (fmT f),some (fmT g)] rfl ?hb ?hg
 case hb=>exact (ak (aB (xj Cjoined hr.m (xg 0 (xg 1 (rX (bT bV aa) ab))))))
 walk_at"wy"
 exact ⟨n,f,g,-1,rfl,hf,hg,by decide +kernel,aw q⟩
def tE:Pre:=fun ts G k=>∃ n f m,ts=[fmT f,.int m]/\FoB n f/\m.natAbs<=10 ^ 900/\k (fmT (fG f m)) G
theorem sc_times:FnScope ["form","n","numbers"] ["form","n"] (aD mP):=by walk_at"fs"
theorem Zn4 (T_times:TopFn K mg "times" mP ["form","n"]) (Cgather:Callee P w K mg base "gather" 1 ["numbers","form","n"] (spG P w K oU)) (Cwith_numbers:Callee P w K mg base "with_numbers" 1 ["c","numbers"] (spG P w K oA)):Callee P w K mg base "times" 2 ["form","n"] (spG P w K tE):=by
 refine T_times.okG sc_times (by walk_at"lnx") fun f cdv A outer s H E ts G k hr hh=>?_
 have nd:=sc_times.nd
 obtain ⟨n,f,m,rfl,hf,hm,q⟩:=hh
 refine' go_G [some (fmT f),some (.int m),none] rfl ?hb ?hg
 case hb=>exact (ag (cv (i:=2) nd rfl (Or.inl rfl) lr) (ag (cx (xj Cgather hr.m (xg 2 (xg 0 (xh 1))))) (ak (aB (xj Cwith_numbers hr.m (bG (ao eL (xc K (pv 0) aa) (pv 1)) (xh 2)))))))
 obtain ⟨t1,t2,j⟩:=tm (m:=m) hf.o
 have h1:=hf.o.len
 have h3:=hf.n
 walk_at"wy"
 intro p hp
 walk_at"wy"
 refine ⟨p,f,m,[],rfl,gp_s,by rw[gF];lia,fun q hq=>l9 (hf.o.a q hq),l9 hm,?_⟩
 walk_at"wy"
 refine l_ix sg_t rfl ?_
 walk_at"wy"
 refine l_IC (fA (l9 hf.o.c) (l9 hm)) ?_
 walk_at"wy"
 refine ⟨_,p,_,rfl,gp_s,kW hf.n t1 t2,?_⟩
 rw[gp_p]
 exact eI hp (fun j=>nofun) (aw q)
theorem n9 {fl:List Fm} (ps:List (Int×Int)):((dy ps fl).map (·.1)).Nodup:=by
 refine pw (C:=fun ps=>((dy ps fl).map (·.1)).Nodup) cV (fun l a h=>?_) ps
 show ((dy (l++[a]) fl).map (·.1)).Nodup
 rw[o7]
 exact cZ _ _ h
def sw:Pre:=fun ts G k=>∃ Q s r,ts=[pgT Q,sfT s]/\0<=s.1/\0<=s.2.1/\cX Q s.1 s.2.1=some r/\k (rowT r) G
theorem sc_row_of:FnScope ["program","frame"] ["program","frame"] (aD kX):=by walk_at"fs"
theorem Zmj (T_row_of:TopFn K mg "row_of" kX ["program","frame"]):Callee P w K mg base "row_of" 1 ["program","frame"] (spG P w K sw):=by
 refine T_row_of.okG sc_row_of (by walk_at"lnx") fun f cdv A outer s H E ts G k hr hh=>?_
 have nd:=sc_row_of.nd
 obtain ⟨Q,s,r,rfl,h1,h2,hr,q⟩:=hh
 refine' go_G [some (pgT Q),some (sfT s)] rfl ?hb ?hg
 case hb=>exact (ak (aB (xc K (xc K (xc K (pv 0) (xc K (pv 1) aa)) aa) (xc K (pv 1) aa))))
 unfold cX at hr
 obtain ⟨d,ed,er⟩:=Option.bind_eq_some_iff.mp hr
 walk_at"wx"
 refine bv (at_i h1 (by rw[aq,ed];rfl)) ?_
 walk_at"wx"
 refine bv (at_i h2 (by rw[aq,er];rfl)) ?_
 exact aw q
def sH:Pre:=fun ts G k=>∃ r n,ts=[rowT r,.int n]/\k (.bl (r.goes n)) G
theorem sc_goes_to_row:FnScope ["row","number"] ["row","number"] (aD mr):=by walk_at"fs"
theorem Zgy (T_goes_to_row:TopFn K mg "goes_to_row" mr ["row","number"]):Callee P w K mg base "goes_to_row" 1 ["row","number"] (spG P w K sH):=by
 refine T_goes_to_row.okG sc_goes_to_row (by walk_at"lnx") fun f cdv A outer s H E ts G k hr hh=>?_
 have nd:=sc_goes_to_row.nd
 obtain ⟨r,n,rfl,q⟩:=hh
 refine' go_G [some (rowT r),some (.int n)] rfl ?hb ?hg
 case hb=>exact (ak (aB (gO (av aM (xc K (pv 0) aa) ay (au _)) (eZ aM (pv 1) aa (au _)) (eZ dS (pv 1) aa (au _)))))
 cases r <;> (walk_at"wx";exact aw q)
abbrev SfL (G:GH) (x:T) (fr:List SF) (s:SF):Prop:=SqI G x ((fr++[s]).map sfT)
theorem SfL.last {G:GH} {x:T} {fr:List SF} {s:SF} (h:SfL G x fr s):SqG G x (fr.map sfT++[sfT s]):=.inr (by rw[SfL,aJ] at h;exact h)
theorem SfL.cut {G:GH} {x:T} {fr:List SF} {s:SF} (h:SfL G x fr s):cutT ((fr++[s]).map sfT) none (some (-1))=fr.map sfT:=by rw[aJ];exact lh _ _
def pJ:Pre:=fun ts G k=>∃ fr s p f x,ts=[x,.int p,fmT f]/\SfL G x fr s/\fr.length<=100/\0<=p/\p < s.2.2.length/\s.2.2.length<=1000/\∀ a,G a=none->k (.ptr a) (gput G a (.lst ((eV fr s p f).map sfT)))
theorem sc_with_box:FnScope ["frames","p","form","last"] ["frames","p","form"] (aD lE):=by walk_at"fs"
theorem Zjw (T_with_box:TopFn K mg "with_box" lE ["frames","p","form"]):Callee P w K mg base "with_box" 1 ["frames","p","form"] (spG P w K pJ):=by
 refine T_with_box.okG sc_with_box (by walk_at"lnx") fun f cdv A outer s H E ts G k hr hh=>?_
 have nd:=sc_with_box.nd
 obtain ⟨fr,s,p,f,x,rfl,hx,hl,p0,p1,hs,q⟩:=hh
 refine' go_G [some x,some (.int p),some (fmT f),none] rfl ?hb ?hg
 case hb=>exact (ag (cO (i:=3) nd rfl (Or.inl rfl) (xc K (pv 0) (bT bV aa))) (ak (aB (ao de (cJ (k_sl (K:=K) rfl) (pv 0) cK (cE (bT bV aa))) (be (aT (ar (aL (xc K (pv 3) aa) (bG (ao br (xc K (pv 3) aa) aa) (bG (ao (gV (K:=K) rfl) (ao (gV (K:=K) rfl) (cJ (gm (K:=K) rfl) (xc K (pv 3) aa) cK (cE (pv 1))) (ar (xh 2))) (cJ (gm (K:=K) rfl) (xc K (pv 3) aa) (cE (ao br (pv 1) aa)) cK)) ab)))) ab))))))
 walk_at"wx"
 refine l_ix hx.last (eN _ _) ?_
 walk_at"wx"
 refine gR hx ?_
 rw[hx.cut]
 walk_at"wx"
 refine gp ?_
 rw[gM p0 (by rw[af];lia)]
 walk_at"wx"
 have lt:((s.2.2.map fmT).take p.toNat).length<=s.2.2.length:=by rw[dM,af];exact jn _ _
 have ld:((s.2.2.map fmT).drop (p+1).toNat).length<=s.2.2.length:=by rw[gB,af];exact jo _ _
 refine gc (by rw[dq];lia) ?_
 walk_at"wx"
 refine gp ?_
 rw[oZ (by lia) (by rw[af];lia)]
 refine gc (by rw[ax,dq];lia) ?_
 walk_at"wx"
 refine ig si_l si_l (by rw[af];simp;lia) fun a na=>?_
 replace q:=q a na
 have e:(s.2.2.map fmT).take p.toNat++[fmT f]++(s.2.2.map fmT).drop (p+1).toNat=(s.2.2.set p.toNat f).map fmT:=by
  have hp:p.toNat < s.2.2.length:=by lia
  rw[<-map_take,<- map_drop,vb,ah hp,aJ,aS,eh,show (p+1).toNat=p.toNat+1 by lia]
  rfl
 rw[e]
 unfold eV at q
 rw[aJ] at q
 exact aw q
def oJ:Pre:=fun ts G k=>∃ fr s t x,ts=[x,.int t]/\SfL G x fr s/\fr.length<=100/\∀ a,G a=none->k (.ptr a) (gput G a (.lst ((cM fr s t).map sfT)))
theorem sc_at_row:FnScope ["frames","at","last"] ["frames","at"] (aD lT):=by walk_at"fs"
theorem Zmn (T_at_row:TopFn K mg "at_row" lT ["frames","at"]):Callee P w K mg base "at_row" 1 ["frames","at"] (spG P w K oJ):=by
 refine T_at_row.okG sc_at_row (by walk_at"lnx") fun f cdv A outer s H E ts G k hr hh=>?_
 have nd:=sc_at_row.nd
 obtain ⟨fr,s,t,x,rfl,hx,hl,q⟩:=hh
 refine' go_G [some x,some (.int t),none] rfl ?hb ?hg
 case hb=>exact (ag (cO (i:=2) nd rfl (Or.inl rfl) (xc K (pv 0) (bT bV aa))) (ak (aB (ao de (cJ (k_sl (K:=K) rfl) (pv 0) cK (cE (bT bV aa))) (be (aT (ar (aL (xc K (pv 2) aa) (xg 1 (aL (xc K (pv 2) aa) ab)))) ab))))))
 walk_at"wx"
 refine l_ix hx.last (eN _ _) ?_
 walk_at"wx"
 refine gR hx ?_
 rw[hx.cut]
 walk_at"wx"
 refine ig si_l si_l (by rw[af];simp;lia) fun a na=>?_
 replace q:=q a na
 unfold cM at q
 rw[aJ] at q
 exact aw q
def rD:Pre:=fun ts G k=>∃ Q n B s r m p f,ts=[rowT r,.tup (s.2.2.map fmT)]/\SfOk Q n B s/\B<=10 ^ 900/\n < 64/\r.Ok Q s.2.2.length m/\bW s r=some (p,f)/\k (fmT f) G
theorem sc_reckoned:FnScope ["row","forms"] ["row","forms"] (aD nc):=by walk_at"fs"
theorem Zjx (T_reckoned:TopFn K mg "reckoned" nc ["row","forms"]) (Cplain:Callee P w K mg base "plain" 1 ["n"] (spG P w K pW)) (Cplus:Callee P w K mg base "plus" 3 ["one","other"] (spG P w K (mL 1))) (Cless:Callee P w K mg base "less" 3 ["one","other"] (spG P w K (mL (-1)))) (Ctimes:Callee P w K mg base "times" 2 ["form","n"] (spG P w K tE)):Callee P w K mg base "reckoned" 4 ["row","forms"] (spG P w K rD):=by
 refine T_reckoned.okG sc_reckoned (by walk_at"lnx") fun f cdv A outer s H E ts G k hr hh=>?_
 have nd:=sc_reckoned.nd
 obtain ⟨Q,n,B,s,r,m,p,f,rfl,hs,hB,hn,ok,rk,q⟩:=hh
 refine' go_G [some (rowT r),some (.tup (s.2.2.map fmT))] rfl ?hb ?hg
 case hb=>exact (ag (aH (av aM (xc K (pv 0) aa) ay (au _)) (ak (aB (xj Cplain hr.m (aL (xc K (pv 0) aa) ab)))) a8) (ag (aH (av aM (xc K (pv 0) aa) ay (au _)) (ak (aB (xc K (pv 1) (xc K (pv 0) aa)))) a8) (ag (aH (av aM (xc K (pv 0) aa) ay (au _)) (ak (aB (xj Cplus hr.m (aL (xc K (pv 1) (xc K (pv 0) aa)) (aL (xc K (pv 1) (xc K (pv 0) aa)) ab))))) a8) (ag (aH (av aM (xc K (pv 0) aa) ay (au _)) (ak (aB (xj Cless hr.m (aL (xc K (pv 1) (xc K (pv 0) aa)) (aL (xc K (pv 1) (xc K (pv 0) aa)) ab))))) a8) (ak (aB (xj Ctimes hr.m (aL (xc K (pv 1) (xc K (pv 0) aa)) (aL (xc K (pv 0) aa) ab)))))))))
 have bx:∀ {q:Int},In0 q s.2.2.length->FoB n (gtF s q)/\atI (s.2.2.map fmT) q=some (fmT (gtF s q)):=fun {q} hq=>by
  obtain ⟨h1,h2⟩:=qc hs hq.1 hq.2
  exact ⟨⟨h1.le (aA _) hB,hn⟩,at_i hq.1 (by rw[aq,h2];rfl)⟩
 cases r with
 | put a b=>cases rk;walk_at"wx";exact ⟨_,rfl,aw q⟩
 | copy a b=>cases rk;walk_at"wx";exact cC (bx ok.2).2 (aw q)
 | plus a b c =>
  cases rk;walk_at"wx"
  refine cC (bx ok.2.1).2 ?_
  walk_at"wx"
  refine cC (bx ok.2.2).2 ?_
  walk_at"wx"
  exact ⟨n,_,_,rfl,(bx ok.2.1).1,(bx ok.2.2).1,aw q⟩
 | less a b c =>
  cases rk;walk_at"wx"
  refine cC (bx ok.2.1).2 ?_
  walk_at"wx"
  refine cC (bx ok.2.2).2 ?_
  walk_at"wx"
  exact ⟨n,_,_,rfl,(bx ok.2.1).1,(bx ok.2.2).1,aw q⟩
 | times a b c =>
  cases rk;walk_at"wx"
  refine cC (bx ok.2.1).2 ?_
  walk_at"wx"
  exact ⟨n,_,_,rfl,(bx ok.2.1).1,aR ok.2.2 (by decide +kernel),aw q⟩
 | _=>cases rk
def sX:Pre:=fun ts G k=>∃ fr s r x p t,ts=[x,rowT r]/\SfL G x fr s/\fr.length<=100/\(r=.zero p t\/r=.below p t)/\0<=p/\p < s.2.2.length/\∀ a,G a=none->k (.ptr a) (gput G a (.lst ((cM fr s (if r.goes (gtF s p).1=true then t else s.2.1+1)).map sfT)))
theorem jW {s:SF} {p:Int} (p0:0<=p) (p1:p < s.2.2.length):atI (s.2.2.map fmT) p=some (fmT (gtF s p)):=at_i p0 (by
 rw[aq]
 unfold gtF
 rw[eA,aC (by lia)];rfl)
theorem sc_tested:FnScope ["frames","row","number"] ["frames","row"] (aD l8):=by walk_at"fs"
theorem Zmh (T_tested:TopFn K mg "tested" l8 ["frames","row"]) (Cgoes_to_row:Callee P w K mg base "goes_to_row" 1 ["row","number"] (spG P w K sH)) (Cat_row:Callee P w K mg base "at_row" 1 ["frames","at"] (spG P w K oJ)):Callee P w K mg base "tested" 2 ["frames","row"] (spG P w K sX):=by
 refine T_tested.okG sc_tested (by walk_at"lnx") fun f cdv A outer s H E ts G k hr hh=>?_
 have nd:=sc_tested.nd
 obtain ⟨fr,s,r,x,p,t,rfl,hx,hl,hr2,p0,p1,q⟩:=hh
 refine' go_G [some x,some (rowT r),none] rfl ?hb ?hg
 case hb=>exact (ag (cO (i:=2) nd rfl (Or.inl rfl) (xc K (xc K (xc K (xc K (pv 0) (bT bV aa)) aa) (xc K (pv 1) aa)) aa)) (ak (aB (xj Cat_row hr.m (xg 0 (oV (gO (fB (xj Cgoes_to_row hr.m (xg 1 (xh 2)))) (xc K (pv 1) aa) (ao br (xc K (xc K (pv 0) (bT bV aa)) aa) aa)) ab))))))
 rcases hr2 with rfl|rfl
 all_goals
  walk_at"wx"
  refine l_ix hx.last (eN _ _) ?_
  walk_at"wx"
  refine cC (jW p0 p1) ?_
  walk_at"wx"
  refine ⟨_,_,rfl,?_⟩
  walk_at"wx"
  generalize hb:Rw.goes _ _=b at q ⊢
  cases b with
  | true=>walk_at"wx";exact ⟨fr,s,_,x,rfl,hx,hl,fun a na=>aw (q a na)⟩
  | false =>
   walk_at"wx"
   refine l_ix hx.last (eN _ _) ?_
   walk_at"wx"
   exact ⟨fr,s,_,x,rfl,hx,hl,fun a na=>aw (q a na)⟩
def rp:Pre:=fun ts G k=>∃ Q s p g qs d,ts=[pgT Q,rowT (.call p g qs),.tup (s.2.2.map fmT)]/\0<=g/\Q[g.toNat]?=some d/\(∀ q∈qs,In0 q s.2.2.length)/\(qs.length:Int)<=d.boxes/\d.boxes<=1000/\k (sfT (dB Q s g qs)) G
theorem sc_called:FnScope ["program","row","forms","handed","lacking"] ["program","row","forms"] (aD lY):=by walk_at"fs"
theorem Zmm (B:Blt mg) (T_called:TopFn K mg "called" lY ["program","row","forms"]) (Cplain:Callee P w K mg base "plain" 1 ["n"] (spG P w K pW)):Callee P w K mg base "called" 2 ["program","row","forms"] (spG P w K rp):=by
 refine T_called.okG sc_called (by walk_at"lnx") fun f cdv A outer s H E ts G k hr hh=>?_
 have nd:=sc_called.nd
 obtain ⟨Q,s,p,g,qs,d,rfl,g0,hd,hq,hl,hl2,q⟩:=hh
 refine' go_G [some (pgT Q),some (rowT (.call p g qs)),some (.tup (s.2.2.map fmT)),none,none] rfl ?hb ?hg
 case hb=>exact (ag (jT (i:=3) (LN:=["q"]) (FN:=["forms"]) (fr:=[2]) rfl nd rfl rfl (cR (by rfl)) (dE (K:=K) rfl (xc K (pv 1) aa)) (fun j j j j j j=>(xl 0 (show ((["q"]:List Str)++(["forms"]:List Str)).Nodup by decide +kernel))) (fun j j j j j j=>dh) (fun j j j j j j=>(xc K (pv 1) (pv 0)))) (ag (dG (i:=4) nd rfl (Or.inl rfl) (ao cw (xc K (xc K (pv 0) (xc K (pv 1) aa)) aa) (aO (bw (K:=K) rfl) (by rfl) B.b_len bz (xh 3)))) (ak (aB (ar (aL (xc K (pv 1) aa) (aj aa (aK (cN (fj (K:=K) rfl) (by rfl) B.b_tuple dR (bG (ao de (pv 3) (ao pz (be (aK (xj Cplain hr.m (aj aa ab)) ab)) (pv 4))) ab)) ab))))))))
 walk_at"wx"
 refine dF (fun Γ'=>∃ a,Γ'=[a,some (.tup (s.2.2.map fmT))]) ?_
 walk_at"wx"
 refine ⟨_,rfl,?_⟩
 rw[kf]
 refine ⟨by rw[af];lia,trivial,⟨none,rfl⟩,(qs.map (gtF s)).map fmT,by simp,?_,?_⟩
 .rintro i x y Γ' hx hy ⟨a,rfl⟩
  rw[aq] at hx hy
  rw[aq] at hy
  obtain ⟨z,ez,rfl⟩:=bc.mp hx
  rw[ez] at hy
  cases hy
  have hz:=hq z (aE ez)
  walk_at"wx"
  refine ⟨⟨_,rfl⟩,rfl,?_⟩
  walk_at"wx"
  exact cC (jW hz.1 hz.2) ⟨rfl,rfl⟩
 walk_at"wx"
 refine bv (at_i g0 (by rw[aq,hd];rfl)) ?_
 walk_at"wx"
 refine ⟨_,rfl,?_⟩
 walk_at"wx"
 rw[af,af]
 refine pI (by lia) (by lia) ?_
 walk_at"wx"
 refine fI si_l si_l (by rw[af,af,hX];lia) ?_
 walk_at"wx"
 refine e8 sg_l (fun j=>nofun) ?_
 walk_at"wx"
 have e:(qs.map (gtF s)).map fmT++List.replicate (d.boxes - qs.length).toNat (fmT (0,[]))=(qs.map (gtF s)++List.replicate (dQ Q g - qs.length).toNat (0,[])).map fmT:=by
  have eb:dQ Q g=d.boxes:=by unfold dQ;rw[hd];rfl
  rw[aJ,nQ,eb]
 rw[e]
 exact aw q
def retM (k:T->GH->Prop) (G:GH):Option (List SF)->Prop
 | none=>k .non G
 | some l=>∀ a,G a=none->k (.ptr a) (gput G a (.lst (l.map sfT)))
structure SlOk (Q:List Df) (n B:Nat) (fr:List SF) (s:SF):Prop where
 pk:PgK Q
 f:FrsOk Q n B fr s
 b:B<=10 ^ 900
 n:n < 64
def ui:Pre:=fun ts G k=>∃ Q n B fr s x,ts=[pgT Q,x]/\SfL G x fr s/\SlOk Q n B fr s/\retM k G (cB Q fr s)
theorem sc_silent:FnScope ["program","frames","row","forms","call"] ["program","frames"] (aD mC):=by walk_at"fs"
theorem Zmi (B:Blt mg) (G:Glb K mg) (T_silent:TopFn K mg "silent" mC ["program","frames"]) (Crow_of:Callee P w K mg base "row_of" 1 ["program","frame"] (spG P w K sw)) (Cwith_box:Callee P w K mg base "with_box" 1 ["frames","p","form"] (spG P w K pJ)) (Creckoned:Callee P w K mg base "reckoned" 4 ["row","forms"] (spG P w K rD)) (Cat_row:Callee P w K mg base "at_row" 1 ["frames","at"] (spG P w K oJ))
  (Cis_plain:Callee P w K mg base "is_plain" 1 ["form"] (spG P w K qH)) (Ctested:Callee P w K mg base "tested" 2 ["frames","row"] (spG P w K sX)) (Ccalled:Callee P w K mg base "called" 2 ["program","row","forms"] (spG P w K rp)):Callee P w K mg base "silent" 5 ["program","frames"] (spG P w K ui):=by
 refine T_silent.okG sc_silent (by walk_at"lnx") fun f cdv A outer s H E ts G' k hr hh=>?_
 have nd:=sc_silent.nd
 obtain ⟨Q,n,Bd,fr,s,x,rfl,hx,⟨PK,fo,hB,hn⟩,q⟩:=hh
 refine' go_G [some (pgT Q),some x,none,none,none] rfl ?hb ?hg
 case hb=>exact (ag (bL (i:=2) nd rfl (Or.inl rfl) (xj Crow_of hr.m (xg 0 (aL (xc K (pv 1) (bT bV aa)) ab)))) (ag (cO (i:=3) nd rfl (Or.inl rfl) (xc K (xc K (pv 1) (bT bV aa)) aa)) (ag (aH (av (k_in (K:=K) rfl) (xc K (pv 2) aa) (Znz (K:=K) (by rfl) G.c_RECKONINGS) (by with_unfolding_all rfl)) (ak (aB (xj Cwith_box hr.m (xg 1 (aL (xc K (pv 2) aa) (aK (xj Creckoned hr.m (xg 2 (xh 3))) ab)))))) a8) (ag (aH (av aM (xc K (pv 2) aa) ay (au _)) (ak (aB (xj Cat_row hr.m (xg 1 (aL (xc K (pv 2) aa) ab))))) a8) (ag (aH (PW.pt (bU (av (k_in (K:=K) rfl) (xc K (pv 2) aa) (ar (aj ay (aj ay ab))) (by with_unfolding_all rfl)) (cg (fB (xj Cis_plain hr.m (aL (xc K (pv 3) (xc K (pv 2) aa)) ab)))))) (ak (aB (xj Ctested hr.m (xg 1 (xh 2))))) a8) (ag (aH (PW.pt (bU (av aM (xc K (pv 2) aa) ay (au _)) (cg (av dS (aO (bw (K:=K) rfl) (by rfl) B.b_len bz (xh 1)) (ZnA (by rfl) G.c_MOST_SIGN_FRAMES) (au _))))) (ak (aB (ao de (pv 1) (be (aK (xj Ccalled hr.m (xg 0 (xg 2 (xh 3)))) ab))))) a8) (ag (aH (PW.pt (bU (av aM (xc K (pv 2) aa) ay (au _)) (cg (av fi (aO (bw (K:=K) rfl) (by rfl) B.b_len bz (xh 1)) aa (au _))))) (ag (bL (i:=4) nd rfl (Or.inl rfl) (xj Crow_of hr.m (xg 0 (aL (xc K (pv 1) (bT bV aa)) ab)))) (ak (aB (xj Cwith_box hr.m (aL (cJ (k_sl (K:=K) rfl) (pv 1) cK (cE (bT bV aa))) (aL (xc K (pv 4) aa) (aL (xc K (pv 3) (xc K (pv 2) aa)) ab))))))) a8) (ak (aB fq)))))))))
 have hs:=fo.all s (by simp)
 obtain ⟨d,r,hd,h2,hrow,h4,h0,h3,h5⟩:=dX hs
 have D:=PK.ok.2.2 d hd
 have ok:=D.rows r (aE h4)
 rw[<-h5] at ok
 have few:=fo.few
 have hb8:=PK.b d hd
 have len:SqG G' x (fr.map sfT++[sfT s]):=hx.last
 unfold cB at q
 rw[hrow] at q
 walk_at"wx"
 refine l_ix len (eN _ _) ?_
 walk_at"wx"
 refine ⟨Q,s,r,rfl,h0,h3,hrow,?_⟩
 walk_at"wx"
 refine l_ix len (eN _ _) ?_
 have wb:∀ {p:Int} {f:Fm} {k:T->GH->Prop},In0 p s.2.2.length->(∀ a,G' a=none->k (.ptr a) (gput G' a (.lst ((eV fr s p f).map sfT))))->pJ [x,.int p,fmT f] G' k:=fun {p f k} hp q=>⟨fr,s,p,f,x,rfl,hx,by lia,hp.1,hp.2,by lia,q⟩
 cases r with
 | put a b=>walk_at"wx";refine ⟨Q,n,Bd,s,_,_,_,_,rfl,hs,hB,hn,ok,rfl,?_⟩;walk_at"wx";exact wb ok.1 fun a na=>aw (q a na)
 | copy a b=>walk_at"wx";refine ⟨Q,n,Bd,s,_,_,_,_,rfl,hs,hB,hn,ok,rfl,?_⟩;walk_at"wx";exact wb ok.1 fun a na=>aw (q a na)
 | plus a b c=>walk_at"wx";refine ⟨Q,n,Bd,s,_,_,_,_,rfl,hs,hB,hn,ok,rfl,?_⟩;walk_at"wx";exact wb ok.1 fun a na=>aw (q a na)
 | less a b c=>walk_at"wx";refine ⟨Q,n,Bd,s,_,_,_,_,rfl,hs,hB,hn,ok,rfl,?_⟩;walk_at"wx";exact wb ok.1 fun a na=>aw (q a na)
 | times a b c=>walk_at"wx";refine ⟨Q,n,Bd,s,_,_,_,_,rfl,hs,hB,hn,ok,rfl,?_⟩;walk_at"wx";exact wb ok.1 fun a na=>aw (q a na)
 | take a=>walk_at"wx";refine a7 (ss:=["zero","below"]) sg_t ?_;walk_at"wx";exact aw q
 | tell a=>walk_at"wx";refine a7 (ss:=["zero","below"]) sg_t ?_;walk_at"wx";exact aw q
 | jump t=>walk_at"wx";exact ⟨fr,s,t,x,rfl,hx,by lia,fun a na=>aw (q a na)⟩
 | zero p t =>
  walk_at"wx"
  refine a7 (ss:=["zero","below"]) sg_t ?_
  walk_at"wx"
  refine cC (jW ok.1.1 ok.1.2) ?_
  walk_at"wx"
  refine ⟨_,rfl,?_⟩
  walk_at"wx"
  dsimp only [bW] at q
  refine cA (fun h=>?_) (fun h=>?_)
  .rw[ah h] at q
   walk_at"wx"
   refine ⟨fr,s,_,x,p,t,rfl,hx,by lia,.inl rfl,ok.1.1,ok.1.2,?_⟩
   have e:(if (Rw.zero p t).goes (gtF s p).1=true then t else s.2.1+1)=if (gtF s p).1=0 then t else s.2.1+1:=by
    show (if decide ((gtF s p).1=0)=true then t else _)=_
    by_cases h:(gtF s p).1=0 <;> simp[h]
   rw[e]
   exact fun a na=>aw (q a na)
  .rw[ai h] at q
   walk_at"wx"
   exact aw q
 | below p t =>
  walk_at"wx"
  refine a7 (ss:=["zero","below"]) sg_t ?_
  walk_at"wx"
  refine cC (jW ok.1.1 ok.1.2) ?_
  walk_at"wx"
  refine ⟨_,rfl,?_⟩
  walk_at"wx"
  dsimp only [bW] at q
  refine cA (fun h=>?_) (fun h=>?_)
  .rw[ah h] at q
   walk_at"wx"
   refine ⟨fr,s,_,x,p,t,rfl,hx,by lia,.inr rfl,ok.1.1,ok.1.2,?_⟩
   have e:(if (Rw.below p t).goes (gtF s p).1=true then t else s.2.1+1)=if (gtF s p).1 < 0 then t else s.2.1+1:=by
    show (if decide ((gtF s p).1 < 0)=true then t else _)=_
    by_cases h:(gtF s p).1 < 0 <;> simp[h]
   rw[e]
   exact fun a na=>aw (q a na)
  .rw[ai h] at q
   walk_at"wx"
   exact aw q
 | call p g qs =>
  walk_at"wx"
  refine a7 (ss:=["zero","below"]) sg_t ?_
  walk_at"wx"
  refine b9 len ?_
  walk_at"wx"
  dsimp only [bW] at q
  rw[ax,af,dq]
  refine cA (fun h=>?_) (fun h=>?_)
  .rw[ah (by lia)] at q
   walk_at"wx"
   obtain ⟨d2,g0,hg,hq⟩:=ok.2.1
   have D2:=PK.ok.2.2 d2 (aE hg)
   refine ⟨Q,s,p,g,qs,d2,rfl,g0,hg,ok.2.2,by rw[hq];exact D2.t.2,by have:=PK.b d2 (aE hg);lia,?_⟩
   walk_at"wx"
   refine ig hx si_l (by rw[af,ax];simp;lia) fun a na=>?_
   have e:(fr++[s]).map sfT++[sfT (dB Q s g qs)]=(fr++[s,dB Q s g qs]).map sfT:=by simp
   rw[e]
   exact aw (q a na)
  .rw[ai (by lia)] at q
   walk_at"wx"
   exact aw q
 | back p =>
  walk_at"wx"
  refine a7 (ss:=["zero","below"]) sg_t ?_
  walk_at"wx"
  refine b9 len ?_
  walk_at"wx"
  dsimp only [bW] at q
  rw[ax,af,dq]
  cases hl:fr.getLast? with
  | none =>
   rw[hl] at q
   rw[getLast?_eq_none_iff.mp hl]
   walk_at"wx"
   exact aw q
  | some c =>
   rw[hl] at q
   obtain ⟨ys,rfl⟩:=jB.mp hl
   rw[ax,dq]
   refine cA (fun h=>?_) (fun h=>absurd h (by lia))
   have hc:=fo.all c (by simp)
   obtain ⟨p2,g,qs,hcall⟩:=fo.call c (by simp)
   obtain ⟨dc,rc,hdc,h2c,hrc,h4c,h0c,h3c,h5c⟩:=dX hc
   rw[hcall] at hrc;cases hrc
   have okc:=(PK.ok.2.2 dc hdc).rows _ (aE h4c)
   rw[<-h5c] at okc
   dsimp only at q
   rw[fV,hcall] at q
   have len2:SqG G' x (ys.map sfT++[sfT c,sfT s]):=by
    have:=len
    rw[aJ,eh] at this
    exact this
   walk_at"wx"
   refine l_ix len2 (Zn7 _ _ _) ?_
   walk_at"wx"
   refine ⟨Q,c,_,rfl,h0c,h3c,hcall,?_⟩
   walk_at"wx"
   refine gR hx ?_
   rw[hx.cut]
   walk_at"wx"
   refine cC (jW ok.1 ok.2) ?_
   walk_at"wx"
   have h8:=PK.b dc hdc
   rw[ax] at few
   exact ⟨ys,c,p2,gtF s p,_,rfl,si_l,by lia,okc.1.1,okc.1.2,by lia,fun a na=>aw (q a na)⟩
def UnOk (ws:List Int) (g:Fm):Prop:=g.2.length<=1000/\∀ p∈g.2,0<=p.2/\p.2 < ws.length/\p.1.natAbs<=10 ^ 900
def WsOk (ws:List Int):Prop:=∀ v∈ws,v.natAbs<=10 ^ 900
def sV:Pre:=fun ts G k=>∃ (g:Fm) (ws:List Int) (x:T),ts=[fmT g,x]/\SqI G x (ws.map T.int)/\UnOk ws g/\WsOk ws/\k (.int (undF ws g)) G
theorem sc__law_under:FnScope ["form","words"] ["form","words"] (aD mj):=by walk_at"fs"
theorem Zhn (B:Blt mg) (T__law_under:TopFn K mg "_law_under" mj ["form","words"]):Callee P w K mg base "_law_under" 1 ["form","words"] (spG P w K sV):=by
 refine T__law_under.okG sc__law_under (by walk_at"lnx") fun f cdv A outer s H E ts G k hr hh=>?_
 have nd:=sc__law_under.nd
 obtain ⟨g,ws,x,rfl,hx,⟨hl,hp⟩,hw,q⟩:=hh
 refine' go_G [some (fmT g),some x] rfl ?hb ?hg
 case hb=>exact (ak (aB (ao br (xc K (pv 0) aa) (aO (k_sum (K:=K) rfl rfl) (by rfl) B.b_sum bt_sum (fh (eY (LN:=["a","w"]) (FN:=["words"]) (fr:=[1]) rfl (cR (by rfl)) (dE (K:=K) rfl (xc K (pv 0) aa)) (fun j j j j j j=>(cb (K:=K) (n:=2) rfl rfl (aF (xl 0 (show ((["a","w"]:List Str)++(["words"]:List Str)).Nodup by decide +kernel)) (aF (xl 1 (show ((["a","w"]:List Str)++(["words"]:List Str)).Nodup by decide +kernel)) bQ)))) (fun j j j j j j=>dh) (fun j j j j j j=>(ao eL (pv 0) (xc K (pv 2) (pv 1))))) ab)))))
 ext
 refine dF (fun Γ'=>∃ a b,Γ'=[a,b,some x]) ?_
 ext
 refine ⟨_,rfl,by rw[af];lia,trivial,⟨_,_,rfl⟩,(g.2.map fun p=>p.1 * undV ws p.2).map T.int,by rw[af,af,af],?_,?_⟩
 .rintro i z y Γ' hz hy ⟨a,b,rfl⟩
  rw[aq] at hz
  obtain ⟨p,ep,rfl⟩:=bc.mp hz
  rw[aq,aq,ep] at hy
  cases hy
  obtain ⟨p0,p1,p2⟩:=hp p (aE ep)
  have ew:ws[p.2.toNat]?=some (undV ws p.2):=by
   unfold undV
   rw[eA,aC (by lia)];rfl
  refine bX rfl ?_
  ext
  refine ⟨⟨_,_,rfl⟩,rfl,?_⟩
  ext
  refine l_ix (dC hx) (at_i p0 (by rw[aq,ew];rfl)) ?_
  ext
  refine l_IC (fA (l9 p2) (l9 (hw _ (aE ew)))) ?_
  exact ⟨rfl,rfl⟩
 ext
 exact aw q
def ut:Pre:=fun ts G k=>∃ (l:List SF) (ws:List Int) (x y:T),ts=[x,y]/\SqI G x (l.map sfT)/\SqI G y (ws.map T.int)/\l.length<=100/\(∀ t∈l,t.2.2.length<=100/\∀ g∈t.2.2,UnOk ws g)/\WsOk ws/\∀ G' fl xs ys,FrSt T.int G G' fl xs ys [] (l.map (undS ws))->k (.ptr fl) G'
theorem sc__law_frames:FnScope ["signs","words"] ["signs","words"] (aD lN):=by walk_at"fs"
theorem ZgC (B:Blt mg) (T__law_frames:TopFn K mg "_law_frames" lN ["signs","words"]) (ZdN:Callee P w K mg base "_law_under" 1 ["form","words"] (spG P w K sV)):Callee P w K mg base "_law_frames" 2 ["signs","words"] (spG P w K ut):=by
 refine T__law_frames.okG sc__law_frames (by walk_at"lnx") fun f cdv A outer s H E ts G k hr hh=>?_
 have nd:=sc__law_frames.nd
 obtain ⟨l,ws,x,y,rfl,hx,hy,hl,ht,hw,q⟩:=hh
 refine' go_G [some x,some y] rfl ?hb ?hg
 case hb=>exact (ak (aB (eY (LN:=["f","at","forms"]) (FN:=["words"]) (fr:=[1]) rfl (cR (by rfl)) (dI (K:=K) rfl (pv 0)) (fun u u u u u u=>(cb (K:=K) (n:=3) rfl rfl (aF (xl 0 (show ((["f","at","forms"]:List Str)++(["words"]:List Str)).Nodup by decide +kernel)) (aF (xl 1 (show ((["f","at","forms"]:List Str)++(["words"]:List Str)).Nodup by decide +kernel)) (aF (xl 2 (show ((["f","at","forms"]:List Str)++(["words"]:List Str)).Nodup by decide +kernel)) bQ))))) (fun u u u u u u=>dh) (fun cl C fp pins s H=>(be (xg 0 (xg 1 (fh (xm ["form"] ["words"] [3] (dE (K:=K) rfl (pv 2)) (fun u u u u u u=>(xj ZdN hr.m (xg 0 (xh 1))))) ab))))))))
 refine eX (oq ?_)
 ext
 refine ⟨_,hx,by rw[af];lia,fun i acc Γ' G'=>(∃ c1 c2 c3,Γ'=[c1,c2,c3,some y])/\∃ xs ys,acc=xs.map T.ptr/\FrI T.int G G' xs ys ((l.map (undS ws)).take i),⟨⟨_,_,_,rfl⟩,[],[],rfl,FrI.nil⟩,fun i acc Γ' G' ⟨_,xs,ys,_,FI⟩=>FI.sq hx,?_,?_⟩
 .rintro i z acc Γ' G' hz ⟨⟨c1,c2,c3,rfl⟩,xs,ys,rfl,FI⟩
  rw[aq] at hz
  obtain ⟨t,et,rfl⟩:=bc.mp hz
  obtain ⟨t1,t2⟩:=ht t (aE et)
  refine bX rfl (b7 (aW (b7 (aW (b7 (aW (dU (fz (iteT (fg ?_))))))))))
  ext
  refine uu (fun Γ'=>∃ c,Γ'=[c,some y]) ?_
  ext
  refine ⟨_,rfl,by rw[af];lia,trivial,⟨_,rfl⟩,(t.2.2.map (undF ws)).map T.int,by rw[af,af,af],?_,fun b nb=>?_⟩
  .rintro j z v Γ' hz hv ⟨c,rfl⟩
   rw[aq] at hz
   obtain ⟨g,eg,rfl⟩:=bc.mp hz
   rw[aq,aq,eg] at hv
   cases hv
   ext
   refine ⟨⟨_,rfl⟩,rfl,?_⟩
   ext
   exact ⟨g,ws,y,rfl,FI.sq hy,t2 g (aE eg),hw,rfl,rfl⟩
  ext
  intro x' nx'
  obtain ⟨n1,n2⟩:=lC nx'
  refine ⟨⟨_,_,_,rfl⟩,xs++[x'],ys++[b],by rw[aJ];rfl,?_⟩
  have e:(l.map (undS ws))[i]?=some (undS ws t):=by rw[aq,et];rfl
  rw[dw,e]
  exact FI.snoc (s:=undS ws t) nb n1 n2
 rintro acc Γ' G1 ⟨⟨c1,c2,c3,rfl⟩,xs,ys,rfl,FI⟩ fl nfl
 have e:(l.map (undS ws)).take (l.map sfT).length=l.map (undS ws):=nE (by rw[af,af];exact aA _)
 rw[e] at FI
 exact aw (q _ _ _ _ (FI.fin nfl))
def pR:Pre:=fun ts G k=>∃ (x:T) (r:Rw) (b:Addr) (bx:List Int) (Q:List Df) (m p v:Int),ts=[x,rowT r,.ptr b]/\G b=some (.lst (bx.map T.int))/\r.Ok Q bx.length m/\WsOk bx/\r.calc bx=some (p,v)/\k (.int v) G
theorem eK {bx:List Int} {q:Int} (h:In0 q bx.length):atI (bx.map T.int) q=some (.int (bP bx q))/\bP bx q∈bx:=by
 have h1:=h.1
 have h2:=h.2
 have e:bx[q.toNat]?=some (bP bx q):=by
  unfold bP
  rw[eA,aC (by lia)];rfl
 exact ⟨at_i h1 (by rw[aq,e];rfl),aE e⟩
theorem sc__law_worth:FnScope ["state","row","boxes"] ["state","row","boxes"] (aD lP):=by walk_at"fs"
theorem Zhl (B:Blt mg) (T__law_worth:TopFn K mg "_law_worth" lP ["state","row","boxes"]):Callee P w K mg base "_law_worth" 1 ["state","row","boxes"] (spG P w K pR):=by
 refine T__law_worth.okG sc__law_worth (by walk_at"lnx") fun f cdv A outer s H E ts G k hr hh=>?_
 have nd:=sc__law_worth.nd
 obtain ⟨x,r,b,bx,Q,m,p,v,rfl,gb,ok,hw,hc,q⟩:=hh
 refine' go_G [some x,some (rowT r),some (.ptr b)] rfl ?hb ?hg
 case hb=>exact (ag (aH (av aM (xc K (pv 1) aa) ay (au _)) (ak (aB (xc K (pv 1) aa))) a8) (ag (aH (av aM (xc K (pv 1) aa) ay (au _)) (ak (aB (xc K (pv 2) (xc K (pv 1) aa)))) a8) (ag (aH (av aM (xc K (pv 1) aa) ay (au _)) (ak (aB (ao br (xc K (pv 2) (xc K (pv 1) aa)) (xc K (pv 2) (xc K (pv 1) aa))))) a8) (ag (aH (av aM (xc K (pv 1) aa) ay (au _)) (ak (aB (ao cw (xc K (pv 2) (xc K (pv 1) aa)) (xc K (pv 2) (xc K (pv 1) aa))))) a8) (ag (aH (av aM (xc K (pv 1) aa) ay (au _)) (ak (aB (ao eL (xc K (pv 2) (xc K (pv 1) aa)) (xc K (pv 1) aa)))) a8) (ak (aB (k_bm (K:=K) rfl PySem.F.plainAttrs_list PySem.F.slot_list_pop PySem.F.type_list_pop ZlX (xc K (pv 0) aa) (aj aa ab)))))))))
 cases r with
 | put p n=>cases hc;ext;exact aw q
 | copy p c =>
  cases hc
  ext
  exact l_ix (sg_p gb) (eK ok.2).1 (aw q)
 | plus p c d =>
  cases hc
  ext
  refine l_ix (sg_p gb) (eK ok.2.1).1 ?_
  ext
  refine l_ix (sg_p gb) (eK ok.2.2).1 ?_
  ext
  exact aw q
 | less p c d =>
  cases hc
  ext
  refine l_ix (sg_p gb) (eK ok.2.1).1 ?_
  ext
  refine l_ix (sg_p gb) (eK ok.2.2).1 ?_
  ext
  exact aw q
 | times p c n =>
  cases hc
  ext
  refine l_ix (sg_p gb) (eK ok.2.1).1 ?_
  ext
  refine l_IC (fA (l9 (hw _ (eK ok.2.1).2)) (l9 (aR ok.2.2 (by decide)))) ?_
  exact aw q
 | _=>cases hc
structure GoOk (Q:List Df) (f:List (FrA Int)) (s:FrA Int) (r:Rw):Prop where
 pk:PgK Q
 ok:∃ m,r.Ok Q s.2.2.length m
 no:(∀ p,r≠.take p)/\∀ p,r≠.tell p
 bd:WsOk s.2.2
 bk:∀ p,r=.back p->∃ f' c p2 g2 qs2 dc,f=f'++[c]/\0<=c.1/\Q[c.1.toNat]?=some dc/\0<=c.2.1/\dc.rows[c.2.1.toNat]?=some (.call p2 g2 qs2)/\In0 p2 c.2.2.length
 ln:f.length<=10
def mB:Pre:=fun ts G k=>∃ (Q:List Df) (G0:GH) (st fl a b:Addr) (xs ys:List Addr) (f:List (FrA Int)) (s:FrA Int) (r:Rw) (rest:List T),ts=[pgT Q,.ptr st,rowT r,.ptr b]/\G0 st=some (.lst (.ptr fl::rest))/\FrSt T.int G0 G fl (xs++[a]) (ys++[b]) [] (f++[s])/\xs.length=f.length/\ys.length=f.length/\GoOk Q f s r/\∀ G' xs' ys' gs',FrSt T.int G0 G' fl xs' ys' gs' (goI Q f s r)->k .non G'
theorem sc__law_goes:FnScope ["program","state","row","boxes","frames","frame","takes","many","rows","caller"] ["program","state","row","boxes"] (aD lq):=by walk_at"fs"
theorem Zh1 (B:Blt mg) (T__law_goes:TopFn K mg "_law_goes" lq ["program","state","row","boxes"]) (ZdM:Callee P w K mg base "_law_worth" 1 ["state","row","boxes"] (spG P w K pR)):Callee P w K mg base "_law_goes" 2 ["program","state","row","boxes"] (spG P w K mB):=by
 refine T__law_goes.okG sc__law_goes (by walk_at"lnx") fun f cdv A outer s H E ts G k hr hh=>?_
 have nd:=sc__law_goes.nd
 obtain ⟨Q,G0,st,fl,a,b,xs,ys,f,s,r,rest,rfl,g0s,FS,q1,q2,⟨pk,⟨m,ok⟩,no,bd,bk,ln⟩,q⟩:=hh
 refine' go_G [some (pgT Q),some (.ptr st),some (rowT r),some (.ptr b),none,none,none,none,none,none] rfl ?hb ?hg
 case hb=>exact (ag (cO (i:=4) nd rfl (Or.inl rfl) (xc K (pv 1) aa)) (ag (cO (i:=5) nd rfl (Or.inl rfl) (xc K (pv 4) (bT bV aa))) (ag (bm (ao br (xc K (pv 5) aa) aa) (bJ (pv 5) aa bI)) (ak (aH (av aM (xc K (pv 2) aa) ay (au _)) (ak (cx (k_bm (K:=K) rfl PySem.F.plainAttrs_list PySem.F.slot_list_append PySem.F.type_list_append eE (xc K (pv 1) aa) (aL (xc K (pv 3) (xc K (pv 2) aa)) ab)))) (ak (aH (PW.pt (fK (av aM (xc K (pv 2) aa) ay (au _)) (fK (PW.pt (bU (av aM (xc K (pv 2) aa) ay (au _)) (cg (av aM (xc K (pv 3) (xc K (pv 2) aa)) aa (au _))))) (hE (PW.pt (bU (av aM (xc K (pv 2) aa) ay (au _)) (cg (av dS (xc K (pv 3) (xc K (pv 2) aa)) aa (au _))))))))) (ak (bm (xc K (pv 2) (bT bV aa)) (bJ (pv 5) aa bI))) (ak (aH (av aM (xc K (pv 2) aa) ay (au _)) (ag (bm (ao cw (xc K (pv 5) aa) aa) (bJ (pv 5) aa bI)) (ag (bm (xc K (pv 0) (xc K (pv 2) aa)) (cb (K:=K) (n:=3) rfl rfl (aF (xl 6 nd) (aF (xl 7 nd) (aF (xl 8 nd) bQ))))) (ak (cx (k_bm (K:=K) rfl PySem.F.plainAttrs_list PySem.F.slot_list_append PySem.F.type_list_append eE (pv 4) (iy (be (aL (xc K (pv 2) aa) (aj aa (bG (ao de (xm ["q"] ["boxes"] [3] (dE (K:=K) rfl (xc K (pv 2) aa)) (fun u u u u u u=>(xc K (pv 1) (pv 0)))) (ao pz (be (aj aa ab)) (ao cw (pv 7) (pv 6)))) ab)))) ab)))))) (ak (aH (av aM (xc K (pv 2) aa) ay (au _)) (ag (cx (k_bm0 (K:=K) rfl PySem.F.plainAttrs_list PySem.F.slot_list_pop PySem.F.type_list_pop qK (pv 4))) (ag (cO (i:=9) nd rfl (Or.inl rfl) (xc K (pv 4) (bT bV aa))) (ag (bm (xc K (pv 3) (xc K (pv 2) aa)) (bJ (xc K (pv 9) aa) (xc K (xc K (xc K (xc K (pv 0) (xc K (pv 9) aa)) aa) (xc K (pv 9) aa)) aa) bI)) (ak (bm (ao br (xc K (pv 9) aa) aa) (bJ (pv 9) aa bI)))))) (ak (aH (av (ZnR (K:=K) rfl) (xc K (pv 2) aa) (be (aj ay (aj ay ab))) (by with_unfolding_all rfl)) (ak (bm (xj ZdM hr.m (xg 1 (xg 2 (xh 3)))) (bJ (pv 3) (xc K (pv 2) aa) bI))) a8)))))))))))))
 have ela:∀ {l:List Addr} {x:Addr},atI ((l++[x]).map T.ptr) (-1)=some (.ptr x):=fun {l x}=>by rw[aJ];exact eN _ _
 have gs:=FS.keep g0s
 obtain ⟨ga,gb⟩:=FS.x f.length a b s (by rw[<-q1];exact bB) (by rw[<-q2];exact bB) bB
 ext
 refine l_ix (sg_p gs) at_0 ?_
 ext
 refine l_ix (sg_p FS.fr) ela ?_
 ext
 refine l_ix (sg_p ga) at_1 ?_
 ext
 refine ⟨a,_,1,1,rfl,rfl,ga,rfl,?_⟩
 have F1:=FS.setAt (t:=s.2.1+1) q1 q2
 replace F1:FrSt T.int G0 (gput G a (.lst ([T.int s.1,.int s.2.1,.ptr b].set 1 (.int (s.2.1+1))))) fl (xs++[a]) (ys++[b]) [] (f++[(s.1,s.2.1+1,s.2.2)]):=F1
 generalize gput G a (.lst ([T.int s.1,.int s.2.1,.ptr b].set 1 (.int (s.2.1+1))))=G3 at F1
 clear FS ga gb gs
 have gs:=F1.keep g0s
 obtain ⟨ga,gb⟩:=F1.x f.length a b _ (by rw[<-q1];exact bB) (by rw[<-q2];exact bB) bB
 dsimp only at ga gb
 have setA:∀ {G':GH} {xs ys gs:List Addr} {l:List (FrA Int)} {s:FrA Int} {a b:Addr} {t:Int},FrSt T.int G0 G' fl (xs++[a]) (ys++[b]) gs (l++[s])->xs.length=l.length->ys.length=l.length->FrSt T.int G0 (gput G' a (.lst ([T.int s.1,.int s.2.1,.ptr b].set 1 (.int t)))) fl (xs++[a]) (ys++[b]) gs (l++[(s.1,t,s.2.2)]):=fun h h1 h2=>h.setAt h1 h2
 have reck:∀ {p v:Int},r.calc s.2.2=some (p,v)->In0 p s.2.2.length->(∀ {kk:T->GH->Prop},kk (.int v) G3->pR [.ptr st,rowT r,.ptr b] G3 kk)/\∃ j,ixN (s.2.2.map T.int).length p=some j/\k .non (gput G3 b (.lst ((s.2.2.map T.int).set j (.int v)))):=fun {p v} e e3=>by
  refine ⟨fun {kk} hk=>⟨_,r,b,s.2.2,Q,m,p,v,rfl,gb,ok,bd,e,hk⟩,p.toNat,?_,?_⟩
  .have:=e3.1
   have:=e3.2
   unfold ixN
   rw[ah e3.1,ah (by rw[af];lia)]
  .rw[<-gI]
   refine q _ _ _ _ (?_:FrSt T.int G0 _ fl (xs++[a]) (ys++[b]) [] _)
   unfold goI
   rw[e]
   exact F1.setBox q1 q2
 cases r with
 | put p n =>
  obtain ⟨k1,j,hj,k2⟩:=reck rfl ok.1
  ext
  refine a7 (ss:=["zero","below"]) sg_l ?_
  ext
  refine k1 ?_
  ext
  exact ⟨b,_,p,j,rfl,rfl,gb,hj,k2⟩
 | copy p c =>
  obtain ⟨k1,j,hj,k2⟩:=reck rfl ok.1
  ext
  refine a7 (ss:=["zero","below"]) sg_l ?_
  ext
  refine k1 ?_
  ext
  exact ⟨b,_,p,j,rfl,rfl,gb,hj,k2⟩
 | plus p c d =>
  obtain ⟨k1,j,hj,k2⟩:=reck rfl ok.1
  ext
  refine a7 (ss:=["zero","below"]) sg_l ?_
  ext
  refine k1 ?_
  ext
  exact ⟨b,_,p,j,rfl,rfl,gb,hj,k2⟩
 | less p c d =>
  obtain ⟨k1,j,hj,k2⟩:=reck rfl ok.1
  ext
  refine a7 (ss:=["zero","below"]) sg_l ?_
  ext
  refine k1 ?_
  ext
  exact ⟨b,_,p,j,rfl,rfl,gb,hj,k2⟩
 | times p c n =>
  obtain ⟨k1,j,hj,k2⟩:=reck rfl ok.1
  ext
  refine a7 (ss:=["zero","below"]) sg_l ?_
  ext
  refine k1 ?_
  ext
  exact ⟨b,_,p,j,rfl,rfl,gb,hj,k2⟩
 | take p=>exact absurd rfl (no.1 p)
 | tell p=>exact absurd rfl (no.2 p)
 | jump t =>
  ext
  exact ⟨a,_,1,1,rfl,rfl,ga,rfl,q _ (xs++[a]) (ys++[b]) [] (setA (s:=(s.1,s.2.1+1,s.2.2)) F1 q1 q2)⟩
 | zero p t =>
  ext
  refine l_ix (sg_p gb) (eK ok.1).1 ?_
  ext
  by_cases hz:bP s.2.2 p=0
  .rw[aX hz]
   ext
   refine ⟨a,_,1,1,rfl,rfl,ga,rfl,(q _ (xs++[a]) (ys++[b]) [] ?_)⟩
   unfold goI
   dsimp only [Rw.calc]
   rw[ah hz]
   exact setA (s:=(s.1,s.2.1+1,s.2.2)) F1 q1 q2
  .rw[aQ hz]
   ext
   refine a7 (ss:=["zero","below"]) sg_l ?_
   ext
   refine (q _ (xs++[a]) (ys++[b]) [] ?_)
   unfold goI
   dsimp only [Rw.calc]
   rw[ai hz]
   exact F1
 | below p t =>
  ext
  refine l_ix (sg_p gb) (eK ok.1).1 ?_
  ext
  by_cases hz:bP s.2.2 p < 0
  .rw[aX hz]
   ext
   refine ⟨a,_,1,1,rfl,rfl,ga,rfl,(q _ (xs++[a]) (ys++[b]) [] ?_)⟩
   unfold goI
   dsimp only [Rw.calc]
   rw[ah hz]
   exact setA (s:=(s.1,s.2.1+1,s.2.2)) F1 q1 q2
  .rw[aQ hz]
   ext
   refine a7 (ss:=["zero","below"]) sg_l ?_
   ext
   refine (q _ (xs++[a]) (ys++[b]) [] ?_)
   unfold goI
   dsimp only [Rw.calc]
   rw[ai hz]
   exact F1
 | call p g qs =>
  obtain ⟨d2,g0,hg,hq⟩:=ok.2.1
  have D2:=pk.ok.2.2 d2 (aE hg)
  have eqg:(Q.map dfT)[g.toNat]?=some (dfT d2):=by rw[aq,hg];rfl
  ext
  refine l_ix (sg_p ga) at_1 ?_
  ext
  refine ⟨a,_,1,1,rfl,rfl,ga,rfl,?_⟩
  have F2:=setA (t:=s.2.1+1 - 1) F1 q1 q2
  generalize gput G3 a _=G4 at F2
  have es1:((s.1,s.2.1+1 - 1,s.2.2):FrA Int)=s:=by rw[Int.add_sub_cancel]
  dsimp only at F2
  rw[es1] at F2
  obtain ⟨z1,z2⟩:=F2.x f.length a b s (by rw[<-q1];exact bB) (by rw[<-q2];exact bB) bB
  ext
  refine bv (at_i g0 eqg) ?_
  refine bX rfl ?_
  refine b7 (aW (b7 (aW (b7 (aW (dU ?_))))))
  have D2t:=D2.t
  have D2b:=D2.b
  refine fE (gt (eR rfl ⟨ty_p F2.fr,gh (fg ?_)⟩))
  ext
  refine dF (fun Γ'=>∃ c,Γ'=[c,some (.ptr b)]) ?_
  ext
  refine ⟨qs.map T.int,by show T.tup (embs (qs.map D.int))=_;rw[kf],by rw[af];lia,trivial,⟨_,rfl⟩,qs.map fun q=>T.int (bP s.2.2 q),by rw[af,af],?_,?_⟩
  .rintro i z y Γ' hz hy ⟨c,rfl⟩
   rw[aq] at hz hy
   obtain ⟨v,ev,rfl⟩:=bc.mp hz
   rw[ev] at hy
   cases hy
   ext
   refine ⟨⟨_,rfl⟩,rfl,?_⟩
   ext
   exact l_ix (sg_p z2) (eK (ok.2.2 v (aE ev))).1 ⟨rfl,rfl⟩
  ext
  refine pI (by lia) (by lia) ?_
  refine ig si_l si_l (by rw[af,hX];lia) fun y ny=>?_
  ext
  intro x' nx'
  obtain ⟨n1,n2⟩:=lC nx'
  have ecf:(qs.map fun q=>T.int (bP s.2.2 q))++List.replicate (d2.boxes - d2.takes).toNat (T.int 0)=(qs.map (bP s.2.2)++List.replicate (dQ Q g - qs.length).toNat 0).map T.int:=by
   unfold dQ
   rw[hg,aJ,map_map,nQ,<- hq]
   rfl
  have F3:=F2.push (s:=(g,0,qs.map (bP s.2.2)++List.replicate (dQ Q g - qs.length).toNat 0)) ny n1 n2
  have hfl2:fl≠x'/\fl≠y:=⟨(fun e=>(by rw[<-e,F2.fr] at n1;cases n1)),(fun e=>(by rw[<-e,F2.fr] at ny;cases ny))⟩
  rw[ecf]
  ext
  refine eJ (by rw[gp_n hfl2.1,gp_n hfl2.2];exact F2.fr) (by rw[af,ax];simp;lia) ?_
  have el:goI Q f s (.call p g qs)=f++[s]++[(g,0,qs.map (bP s.2.2)++List.replicate (dQ Q g - qs.length).toNat 0)]:=by rw[eh];rfl
  rw[el] at q
  exact q _ _ _ _ F3
 | back p =>
  obtain ⟨f',c,p2,g2,qs2,dc,rfl,ec0,ec2,ec30,ec4,hp2⟩:=bk p rfl
  have eqc:(Q.map dfT)[c.1.toNat]?=some (dfT dc):=by rw[aq,ec2];rfl
  have eqrc:(dc.rows.map rowT)[c.2.1.toNat]?=some (rowT (.call p2 g2 qs2)):=by rw[aq,ec4];rfl
  have fr':G3 fl=some (.lst (xs.map T.ptr++[.ptr a])):=by rw[F1.fr,aJ];rfl
  obtain ⟨u,u,fb,u⟩:=kh F1.nd
  have F2:=F1.pop q1 q2
  have gb4:gput G3 fl (.lst (xs.map T.ptr)) b=some (.lst (s.2.2.map T.int)):=by rw[gp_n fb.symm];exact gb
  ext
  refine ⟨ty_p fr',l_pop fr' ?_⟩
  generalize gput G3 fl (.lst (xs.map T.ptr))=G4 at F2 gb4
  obtain ⟨xs2,ys2,a2,b2,rfl,rfl,r1,r2,z1,z2⟩:=F2.last
  ext
  refine l_ix (sg_p F2.fr) ela ?_
  ext
  refine l_ix (sg_p gb4) (eK ok).1 ?_
  ext
  refine l_ix (sg_p z1) at_2 ?_
  ext
  refine l_ix (sg_p z1) at_0 ?_
  ext
  refine bv (at_i ec0 eqc) ?_
  ext
  refine l_ix (sg_p z1) at_1 ?_
  ext
  refine bv (at_i ec30 eqrc) ?_
  ext
  refine ⟨b2,_,p2,p2.toNat,rfl,rfl,z2,by unfold ixN;rw[ah hp2.1,ah (by rw[af];have:=hp2.2;lia)],?_⟩
  rw[<-gI]
  have F3:=F2.setBox (fm:=c.2.2.set p2.toNat (bP s.2.2 p)) r1 r2
  generalize gput G4 b2 (.lst ((c.2.2.set p2.toNat (bP s.2.2 p)).map T.int))=G5 at F3
  obtain ⟨y1,y2⟩:=F3.x f'.length a2 b2 _ (by rw[<-r1];exact bB) (by rw[<-r2];exact bB) bB
  ext
  refine l_ix (sg_p y1) at_1 ?_
  ext
  refine ⟨a2,_,1,1,rfl,rfl,y1,rfl,q _ (xs2++[a2]) (ys2++[b2]) [a,b] ?_⟩
  have er:(cX Q c.1 c.2.1).map Rw.cbox=some p2:=by unfold cX;rw[ec2];show (dc.rows[c.2.1.toNat]?).map Rw.cbox=_;rw[ec4];rfl
  unfold goI
  dsimp only [Rw.calc]
  rw[getLast?_concat,fV]
  dsimp only
  rw[er]
  exact setA (s:=(c.1,c.2.1,c.2.2.set p2.toNat (bP s.2.2 p))) F3 r1 r2
def se:Pre:=fun ts G k=>∃ (Q:List Df) (G0:GH) (st fl:Addr) (xs ys:List Addr) (f:List (FrA Int)) (s:FrA Int) (r:Rw) (d:Df) (i o:T) (n:Int),ts=[pgT Q,.ptr st]/\G0 st=some (.lst [.ptr fl,i,o,.int n,.non])/\FrSt T.int G0 G fl xs ys [] (f++[s])/\0<=s.1/\Q[s.1.toNat]?=some d/\0<=s.2.1/\d.rows[s.2.1.toNat]?=some r/\GoOk Q f s r/\∀ G' xs' ys' gs',FrSt T.int (gput G0 st (.lst [.ptr fl,i,o,.int (n+1),.non])) G' fl xs' ys' gs' (goI Q f s r)->k .non G'
theorem sc__law_step:FnScope ["program","state","frames","f","at","boxes","row"] ["program","state"] (aD lc):=by walk_at"fs"
theorem ZhY (B:Blt mg) (T__law_step:TopFn K mg "_law_step" lc ["program","state"]) (Zeo:Callee P w K mg base "_law_goes" 2 ["program","state","row","boxes"] (spG P w K mB)):Callee P w K mg base "_law_step" 3 ["program","state"] (spG P w K se):=by
 refine T__law_step.okG sc__law_step (by walk_at"lnx") fun f cdv A outer s H E ts G k hr hh=>?_
 have nd:=sc__law_step.nd
 have hu:=hr.units
 obtain ⟨Q,G0,st,fl,xs,ys,f,s,r,d,i,o,n,rfl,g0s,FS,h0,hd,h3,h4,go,q⟩:=hh
 have eqf:(Q.map dfT)[s.1.toNat]?=some (dfT d):=by rw[aq,hd];rfl
 have eqr:(d.rows.map rowT)[s.2.1.toNat]?=some (rowT r):=by rw[aq,h4];rfl
 refine' go_G [some (pgT Q),some (.ptr st),none,none,none,none,none] rfl ?hb ?hg
 case hb=>exact (ag (cO (i:=2) nd rfl (Or.inl rfl) (xc K (pv 1) aa)) (ag (bm (xc K (pv 2) (bT bV aa)) (oS (K:=K) (n:=3) rfl rfl (aF (xl 3 nd) (aF (xl 4 nd) (aF (xl 5 nd) bQ))))) (ag (cO (i:=6) nd rfl (Or.inl rfl) (xc K (xc K (xc K (pv 0) (pv 3)) aa) (pv 4))) (ak (aH (PW.pt (bU (av aM (xc K (pv 6) aa) ay (au _)) (cg (av (k_eqZ (K:=K) rfl hu) (xc K (pv 1) aa) (be ab) (au _))))) (ak (bm (ar (aj ay (xg 3 (xh 4)))) (bJ (pv 1) aa bI))) (ak (aH (PW.pt (bU (av aM (xc K (pv 6) aa) ay (au _)) (cg (av aM (aO (bw (K:=K) rfl) (by rfl) B.b_len bz (xh 2)) aa (au _))))) (ak (bm (ar (aj ay (xg 3 (xh 4)))) (bJ (pv 1) aa bI))) (ak (aH (PW.pt (bU (av aM (xc K (pv 6) aa) ay (au _)) (cg (av aM (aO (bw (K:=K) rfl) (by rfl) B.b_len bz (xh 2)) aa (au _))))) (ak (bm (ar (aj ay (aL (xc K (pv 5) (xc K (pv 6) aa)) ab))) (bJ (pv 1) aa bI))) (ag (bm (ao br (xc K (pv 1) aa) aa) (bJ (pv 1) aa bI)) (ak (cx (xj Zeo hr.m (xg 0 (xg 1 (xg 6 (xh 5)))))))))))))))))
 have ela:∀ {l:List Addr} {x:Addr},atI ((l++[x]).map T.ptr) (-1)=some (.ptr x):=fun {l x}=>by rw[aJ];exact eN _ _
 have gs:=FS.keep g0s
 obtain ⟨xs,ys,a,b,rfl,rfl,q1,q2,ga,gb⟩:=FS.last
 have hxl:((xs++[a]).map T.ptr).length=f.length+1:=by rw[af,ax,q1];rfl
 have ln:=go.ln
 have fin:Ws P w K (tSeq (tAsg (tOp (rI0 fun i j=>V.int (i+j)) (tOp (rIxA K) (tVar 1) (tC (.int 3))) (tC (.int 1))) (gSub (tVar 1) (tC (.int 3)) iZ)) (mW (fc (spG P w K mB) [] E0 (a9 (tVar 0) (a9 (tVar 1) (a9 (tVar 6) (a9 (tVar 5) tNil))))))) [some (pgT Q),some (.ptr st),some (.ptr fl),some (.int s.1),some (.int s.2.1),some (.ptr b),some (rowT r)] G { nx:=fun z G'=>k .non G',rt:=k }:=by
  ext
  refine l_ix (sg_p gs) (di (n:=3) rfl rfl) ?_
  ext
  refine ⟨st,_,3,3,rfl,rfl,gs,rfl,?_⟩
  have F1:=FS.side (c:=.lst [.ptr fl,i,o,.int (n+1),.non]) (FS.noS g0s)
  ext
  exact ⟨Q,_,st,fl,a,b,xs,ys,f,s,r,_,rfl,gp_s,F1,q1,q2,go,fun G' xs' ys' gs' h=>q G' xs' ys' gs' h⟩
 generalize (tSeq (tAsg (tOp (rI0 fun i j=>V.int (i+j)) (tOp (rIxA K) (tVar 1) (tC (.int 3))) (tC (.int 1))) (gSub (tVar 1) (tC (.int 3)) iZ)) (mW (fc (spG P w K mB) [] E0 (a9 (tVar 0) (a9 (tVar 1) (a9 (tVar 6) (a9 (tVar 5) tNil)))))))=TT at fin ⊢
 ext
 refine l_ix (sg_p gs) at_0 ?_
 ext
 refine l_ix (sg_p FS.fr) ela ?_
 refine oY ga rfl ?_
 ext
 refine bv (at_i h0 eqf) ?_
 ext
 refine bv (at_i h3 eqr) ?_
 ext
 cases r with
 | take p=>exact absurd rfl (go.no.1 p)
 | tell p=>exact absurd rfl (go.no.2 p)
 | call p g qs =>
  ext
  refine b9 (sg_p FS.fr) ?_
  rw[hxl]
  ext
  rw[aQ (by lia)]
  ext
  exact fin
 | back p =>
  obtain ⟨f',c,z,z,z,z,rfl,z⟩:=go.bk p rfl
  ext
  refine b9 (sg_p FS.fr) ?_
  rw[hxl,ax]
  ext
  exact fin
 | _=>ext;exact fin
theorem Zjq {f:Fm} {n B:Nat} (hf:Fo n B f) {i:Nat} {p:Int×Int} (ep:f.2[i]?=some p):aP (aZ [] (f.2.take i) 1) p.2=0:=by
 rw[fX,iF]
 .rfl
 .intro q hq e
  obtain ⟨j,hj⟩:=eB.mp hq
  have lj:=(ba.mp hj).1
  rw[dM] at lj
  rw[getElem?_take_of_lt (by lia)] at hj
  have nd:=hf.nd
  have e1:(f.2.map (·.2))[j]?=some q.2:=by rw[aq,hj];rfl
  have e2:(f.2.map (·.2))[i]?=some p.2:=by rw[aq,ep];rfl
  rw[e,<- e2] at e1
  have:=(getElem?_inj (by have:=(ba.mp hj).1;rw[af];exact this) nd).mp e1
  lia
def j5:Pre:=fun ts G k=>∃ n f g m,ts=[fmT f,fmT g,.int m]/\FoB n f/\FoB n g/\m.natAbs<=10 ^ 900/\k (fmT (bO f g m)) G
theorem sc__law_sum:FnScope ["one","other","n","parts","a","w"] ["one","other","n"] (aD lZ):=by walk_at"fs"
theorem Zjz (B:Blt mg) (T__law_sum:TopFn K mg "_law_sum" lZ ["one","other","n"]):Callee P w K mg base "_law_sum" 1 ["one","other","n"] (spG P w K j5):=by
 refine T__law_sum.okG sc__law_sum (by walk_at"lnx") fun f cdv A outer s H E ts G k hr hh=>?_
 have nd:=sc__law_sum.nd
 have hu1:=iG hr
 obtain ⟨n,f,g,m,rfl,hf,hg,hm,q⟩:=hh
 refine' go_G [some (fmT f),some (fmT g),some (.int m),none,none,none] rfl ?hb ?hg
 case hb=>exact (ag (cv (i:=3) nd rfl (Or.inr rfl) lr) (ag (cz PassesOwn.never rfl (dE (K:=K) rfl (xc K (pv 0) aa)) (cb (K:=K) (n:=2) rfl rfl (aF (xl 4 nd) (aF (xl 5 nd) bQ))) (ak (f6 hu1 (pv 3) (pv 5) (pv 4) rfl))) (ag (cz PassesOwn.never rfl (dE (K:=K) rfl (xc K (pv 1) aa)) (cb (K:=K) (n:=2) rfl rfl (aF (xl 4 nd) (aF (xl 5 nd) bQ))) (ak (f6 hu1 (pv 3) (pv 5) (ao br (rK hu1 (pv 3) (pv 5) aa (M2.mk rfl rfl rfl rfl)) (ao eL (pv 2) (pv 4))) rfl))) (ak (aB (ar (bG (ao br (xc K (pv 0) aa) (ao eL (pv 2) (xc K (pv 1) aa))) (aK (cN (fj (K:=K) rfl) (by rfl) B.b_tuple dR (fh (xo ["w"] ["parts"] [3] (dI (K:=K) rfl (aO (qL rfl) (by rfl) B.b_sorted pD (xh 3))) (fun j j j j j j=>(qZ (av i6 (fW hu1 (pv 1) (pv 0) (fun j j=>rfl)) aa (au _)))) (fun j j j j j j=>(ar (aL (fW hu1 (pv 1) (pv 0) (fun j j=>rfl)) (xh 0))))) ab)) ab))))))))
 obtain ⟨t1,t2,j⟩:=pP (m:=m) hf.o hg.o
 have h1:=hf.o.len
 have h2:=hg.o.len
 have h3:=hf.n
 have h4:=jF f.2 1 []
 rw[gF] at h4
 refine bE (b0 (mh fun d hd=>aW ?_))
 refine cI (fun Γ' G'=>(∃ x y,Γ'=[some (fmT f),some (fmT g),some (.int m),some (.ptr d),x,y])/\G'=gput G d (.tb (aZ [] f.2 1))) ?_ ?_
 .ext
  refine ⟨_,rfl,fun i Γ' G'=>(∃ x y,Γ'=[some (fmT f),some (fmT g),some (.int m),some (.ptr d),x,y])/\G'=gput G d (.tb (aZ [] (f.2.take i) 1)),⟨⟨_,_,rfl⟩,rfl⟩,fun j j j j=>trivial,?_,?_⟩
  .rintro i x Γ' G' hx ⟨⟨x1,x2,rfl⟩,rfl⟩
   rw[aq] at hx
   obtain ⟨p,ep,rfl⟩:=bc.mp hx
   refine bX rfl ?_
   ext
   have hl:=jF (f.2.take i) 1 []
   rw[dM,gF] at hl
   refine ⟨d,_,_,p.1 * 1,by rw[Zjq hf.o ep];congr 1;lia,rfl,gp_s,rfl,by lia,?_⟩
   dsimp only
   refine ca ⟨⟨_,_,rfl⟩,?_⟩
   rw[gp_p,<- pA,dw,ep]
   rfl
  .rintro Γ' G' ⟨hy,rfl⟩
   rw[af,dO]
   exact ⟨hy,rfl⟩
 rintro Γ' G' ⟨⟨x1,x2,rfl⟩,rfl⟩
 refine cI (fun Γ' G'=>(∃ x y,Γ'=[some (fmT f),some (fmT g),some (.int m),some (.ptr d),x,y])/\G'=gput G d (.tb (aZ (aZ [] f.2 1) g.2 m))) ?_ ?_
 .ext
  refine ⟨_,rfl,fun i Γ' G'=>(∃ x y,Γ'=[some (fmT f),some (fmT g),some (.int m),some (.ptr d),x,y])/\G'=gput G d (.tb (aZ (aZ [] f.2 1) (g.2.take i) m)),⟨⟨_,_,rfl⟩,rfl⟩,fun j j j j=>trivial,?_,?_⟩
  .rintro i x Γ' G' hx ⟨⟨x1,x2,rfl⟩,rfl⟩
   rw[aq] at hx
   obtain ⟨p,ep,rfl⟩:=bc.mp hx
   refine bX rfl ?_
   ext
   refine ⟨d,_,rfl,gp_s,?_⟩
   ext
   refine ⟨_,_,gp_s,rfl,rfl,?_⟩
   ext
   refine l_IC (fA (l9 hm) (l9 (hg.o.a p (aE ep)))) ?_
   ext
   have hl:=jF (g.2.take i) m (aZ [] f.2 1)
   rw[dM] at hl
   refine ⟨d,_,_,p.1 * m,by rw[ie],rfl,gp_s,rfl,by lia,?_⟩
   dsimp only
   refine ca ⟨⟨_,_,rfl⟩,?_⟩
   rw[gp_p,<- pA,dw,ep]
   rfl
  .rintro Γ' G' ⟨hy,rfl⟩
   rw[af,dO]
   exact ⟨hy,rfl⟩
 rintro Γ' G' ⟨⟨x1,x2,rfl⟩,rfl⟩
 have few:=kW hf.n t1 t2
 have fin:k (fmT (wnF (f.1+m * g.1) (aZ (aZ [] f.2 1) g.2 m))) G:=q
 generalize aZ (aZ [] f.2 1) g.2 m=t at few fin
 have hp:=gW (t.map (·.1))
 ext
 refine l_IC (fA (l9 hm) (l9 hg.o.c)) ?_
 ext
 refine jf ?_
 ext
 refine tR gp_s few ?_
 refine ⟨_,si_l,by rw[af,hp.length_eq,af];lia,fun i acc Γ' G'=>(∃ x,Γ'=[x,some (.ptr d)])/\G'=gput G d (.tb t)/\acc=(ci t ((sortI (t.map (·.1))).take i)).map prT,⟨⟨none,rfl⟩,rfl,rfl⟩,fun j j j j j=>si_l,?_,?_⟩
 .rintro i x acc Γ' G' hx ⟨⟨x1,rfl⟩,rfl,rfl⟩
  rw[aq] at hx
  obtain ⟨m,em,rfl⟩:=bc.mp hx
  have hm:m∈t.map (·.1):=hp.mem_iff.mp (aE em)
  have etk:ci t ((sortI (t.map (·.1))).take (i+1))=ci t ((sortI (t.map (·.1))).take i)++(if aP t m≠0 then [(aP t m,m)] else []):=by
   unfold ci
   rw[dw,em,qF,filter_append,aJ]
   by_cases e0:aP t m=0 <;> simp[e0]
  ext
  refine ⟨d,t,m,rfl,gp_s,rfl,hm,?_⟩
  ext
  refine sQ (fun hz=>?_) (fun hz=>?_)
  .ext
   refine ⟨d,t,m,rfl,gp_s,rfl,hm,?_⟩
   ext
   refine ⟨⟨_,rfl⟩,rfl,?_⟩
   rw[etk,ah hz,aJ]
   rfl
  .refine ⟨⟨_,rfl⟩,rfl,?_⟩
   rw[etk,ai (by simpa using hz),gy]
 .rintro acc Γ' G' ⟨j,rfl,rfl⟩
  ext
  refine e8 sg_l (fun j=>nofun) ?_
  rw[af,dO]
  ext
  exact eI hd (fun j=>nofun) (aw fin)
def qJ:Pre:=fun ts G k=>∃ m B D f fl y,ts=[fmT f,y]/\SqI G y (fl.map fmT)/\Fo fl.length B f/\fl.length < 64/\m < 64/\(∀ g∈fl,Fo m D g)/\B+63 * (B * D)<=10 ^ 900/\D<=10 ^ 900/\k (fmT (gn f fl)) G
theorem sc__law_put:FnScope ["form","forms","found","a","w"] ["form","forms"] (aD m4):=by walk_at"fs"
theorem ZjB (B:Blt mg) (T__law_put:TopFn K mg "_law_put" m4 ["form","forms"]) (Za4:Callee P w K mg base "_law_sum" 1 ["one","other","n"] (spG P w K j5)):Callee P w K mg base "_law_put" 2 ["form","forms"] (spG P w K qJ):=by
 refine T__law_put.okG sc__law_put (by walk_at"lnx") fun f cdv A outer s H E ts G k hr hh=>?_
 have nd:=sc__law_put.nd
 obtain ⟨m,B',D,f,fl,y,rfl,sy,hf,hl,hm,hg,hB,hD,q⟩:=hh
 refine' go_G [some (fmT f),some y,none,none,none] rfl ?hb ?hg
 case hb=>exact (ag (lb (i:=2) nd rfl (Or.inl rfl) (ar (aL (xc K (pv 0) aa) (aT (ar ab) ab)))) (ag (cz PassesOwn.never rfl (dE (K:=K) rfl (xc K (pv 0) aa)) (cb (K:=K) (n:=2) rfl rfl (aF (xl 3 nd) (aF (xl 4 nd) bQ))) (ak (bL (i:=2) nd rfl (Or.inl rfl) (xj Za4 hr.m (xg 2 (aL (xc K (pv 1) (pv 4)) (xh 3))))))) (ak (aB (pv 2)))))
 have hlen:=hf.len
 have hb:∀ p∈f.2,p.1.natAbs<=B'/\0<=p.2/\p.2 < fl.length:=fun p hp=>⟨hf.a p hp,(hf.w p hp).1,(hf.w p hp).2⟩
 have pre:∀ i,FoB m ((f.2.take i).foldl (fun a p=>bO a (nthF fl p.2) p.1) (f.1,[])):=fun i=>by
  have:=qg (B:=B') hg (f.2.take i) (f.1,[]) B' (fun p hp=>hb p (mem_of_mem_take hp)) (Fo.nil hf.c)
  refine ⟨this.le (aA _) (aR (jr (fw _ ?_) _) hB),hm⟩
  rw[dM];lia
 have hB9:B'<=10 ^ 900:=aR (Nat.le_add_right _ _) hB
 ext
 refine ⟨_,rfl,fun i Γ' G'=>(∃ x z,Γ'=[some (fmT f),some y,some (fmT ((f.2.take i).foldl (fun a p=>bO a (nthF fl p.2) p.1) (f.1,[]))),x,z])/\G'=G,⟨⟨_,_,rfl⟩,rfl⟩,fun j j j j=>trivial,?_,?_⟩
 .rintro i x Γ' G' hx ⟨⟨x1,x2,rfl⟩,rfl⟩
  rw[aq] at hx
  obtain ⟨p,ep,rfl⟩:=bc.mp hx
  obtain ⟨b1,b2,b3⟩:=hb p (aE ep)
  have e:fl[p.2.toNat]?=some (nthF fl p.2):=by
   unfold nthF
   rw[eA,aC (by lia)];rfl
  have hat:atI (fl.map fmT) p.2=some (fmT (nthF fl p.2)):=di (n:=p.2.toNat) (by lia) (by rw[aq,e];rfl)
  refine bX rfl ?_
  ext
  refine l_ix (dC sy) hat ?_
  ext
  refine ⟨m,_,_,p.1,rfl,pre i,⟨(hg _ (aE e)).le (aA _) hD,hm⟩,aR b1 hB9,?_⟩
  ext
  dsimp only
  refine ca ?_
  show (∃ x z,_=[_,_,some (fmT ((f.2.take (i+1)).foldl (fun a p=>bO a (nthF fl p.2) p.1) (f.1,[]))),x,z])/\_
  rw[dw,ep,qF,foldl_append]
  exact ⟨⟨_,_,rfl⟩,rfl⟩
 .rintro Γ' G' ⟨⟨x1,x2,rfl⟩,rfl⟩
  rw[af,dO]
  ext
  rw[<-tN] at q
  exact aw q
def mR:Pre:=fun ts G k=>∃ n:Nat,ts=[.int n]/\n<=1000/\∀ a,G a=none->k (.ptr a) (gput G a (.lst ((bZ n).map fmT)))
theorem sc__law_words:FnScope ["many"] ["many"] (aD mK):=by walk_at"fs"
theorem Zhm (B:Blt mg) (T__law_words:TopFn K mg "_law_words" mK ["many"]):Callee P w K mg base "_law_words" 1 ["many"] (spG P w K mR):=by
 refine T__law_words.okG sc__law_words (by walk_at"lnx") fun f cdv A outer s H E ts G k hr hh=>?_
 have nd:=sc__law_words.nd
 obtain ⟨n,rfl,hn,q⟩:=hh
 refine' go_G [some (.int n)] rfl ?hb ?hg
 case hb=>exact (ak (aB (xm ["w"] [] [] (cT rfl B.b_range (xh 0)) (fun z z z z z z=>(ar (aj aa (aT (ar (aT (ar (aj aa (xh 0))) ab)) ab)))))))
 ext
 refine uu (fun Γ'=>∃ c,Γ'=[c]) ?_
 ext
 have hrl:(rngT (n:Int).toNat).length=n:=by unfold rngT;simp
 refine ⟨n,rfl,by lia,by lia,by rw[hrl];lia,trivial,⟨_,rfl⟩,(bZ n).map fmT,by rw[af,hrl];unfold bZ;simp,?_,fun a na=>aw (q a na)⟩
 rintro i x y Γ' hx hy ⟨c,rfl⟩
 unfold rngT at hx
 unfold bZ at hy
 rw[cf,aq] at hx
 rw[aq,aq] at hy
 obtain ⟨j,ej,rfl⟩:=bc.mp hx
 rw[ej] at hy
 cases hy
 ext
 refine ⟨⟨_,rfl⟩,rfl,?_⟩
 ext
 exact ⟨rfl,rfl⟩
theorem fo9 {n B:Nat} {f:Fm} (h:Fo n B f) (hn:n < 64) (hB:B<=10 ^ 800):FoB n f:=⟨h.le (aA _) (aR hB (kS (by decide) (by decide))),hn⟩
def ot:Pre:=fun ts G k=>∃ (n:Nat) (s:SF) (r:Rw) (p:Int) (f:Fm) (y:T),ts=[rowT r,y]/\SqI G y (s.2.2.map fmT)/\bW s r=some (p,f)/\(∀ g∈s.2.2,FoB n g/\Cano g)/\n < 64/\r.Ok [] s.2.2.length 1000/\k (fmT f) G
theorem sc__law_reckoned:FnScope ["row","forms"] ["row","forms"] (aD mN):=by walk_at"fs"
theorem Zfl (B:Blt mg) (T__law_reckoned:TopFn K mg "_law_reckoned" mN ["row","forms"]) (Za4:Callee P w K mg base "_law_sum" 1 ["one","other","n"] (spG P w K j5)):Callee P w K mg base "_law_reckoned" 2 ["row","forms"] (spG P w K ot):=by
 refine T__law_reckoned.okG sc__law_reckoned (by walk_at"lnx") fun f cdv A outer s H E ts G k hr hh=>?_
 have nd:=sc__law_reckoned.nd
 obtain ⟨n,s,r,p,f,y,rfl,sy,hre,hg,hn,ok,q⟩:=hh
 refine' go_G [some (rowT r),some y] rfl ?hb ?hg
 case hb=>exact (ag (aH (av aM (xc K (pv 0) aa) ay (au _)) (ak (aB (ar (aL (xc K (pv 0) aa) (aT (ar ab) ab))))) a8) (ag (aH (av (k_in (K:=K) rfl) (xc K (pv 0) aa) (be (aj ay (aj ay ab))) (by with_unfolding_all rfl)) (ak (aB (xj Za4 hr.m (aT (ar (aj aa (aT (ar ab) ab))) (aL (xc K (pv 1) (xc K (pv 0) aa)) (aL (xc K (ao (gV (K:=K) rfl) (pv 0) (ar (aj aa ab))) aa) ab)))))) a8) (ak (aB (xj Za4 hr.m (aL (xc K (pv 1) (xc K (pv 0) aa)) (aL (xc K (pv 1) (xc K (pv 0) aa)) (oV (gO (av aM (xc K (pv 0) aa) ay (au _)) aa (bT bV aa)) ab))))))))
 have at':∀ {q:Int},In0 q s.2.2.length->atI (s.2.2.map fmT) q=some (fmT (gtF s q))/\FoB n (gtF s q)/\Cano (gtF s q):=fun {q} hq=>by
  have h1:=hq.1
  have h2:=hq.2
  have e:s.2.2[q.toNat]?=some (gtF s q):=by
   unfold gtF
   rw[eA,aC (by lia)];rfl
  exact ⟨di (n:=q.toNat) (by lia) (by rw[aq,e];rfl),hg _ (aE e)⟩
 have z0:FoB n (0,[]):=⟨Fo.nil (bD _),hn⟩
 cases r with
 | put p' m=>cases hre;ext;exact aw q
 | copy p' q' =>
  cases hre
  obtain ⟨a1,a2,a3⟩:=at' ok.2
  ext
  refine a7 (ss:=["copy","times"]) sg_l ?_
  ext
  refine l_ix (dC sy) a1 ?_
  ext
  refine gc (ic rfl) ?_
  ext
  refine ⟨n,(0,[]),gtF s q',1,rfl,z0,a2,by decide +kernel,?_⟩
  rw[Zn2 a3];exact aw q
 | times p' q' m =>
  cases hre
  obtain ⟨a1,a2,a3⟩:=at' ok.2.1
  ext
  refine a7 (ss:=["copy","times"]) sg_l ?_
  ext
  refine l_ix (dC sy) a1 ?_
  ext
  refine gc (ic rfl) ?_
  ext
  refine ⟨n,(0,[]),gtF s q',m,rfl,z0,a2,aR ok.2.2 (by decide +kernel),?_⟩
  rw[Zlw];exact aw q
 | plus p' q' r' =>
  cases hre
  obtain ⟨a1,a2,a3⟩:=at' ok.2.1
  obtain ⟨b1,b2,b3⟩:=at' ok.2.2
  ext
  refine a7 (ss:=["copy","times"]) sg_l ?_
  ext
  refine l_ix (dC sy) a1 ?_
  ext
  refine l_ix (dC sy) b1 ?_
  ext
  exact ⟨n,_,_,1,rfl,a2,b2,by decide +kernel,aw q⟩
 | less p' q' r' =>
  cases hre
  obtain ⟨a1,a2,a3⟩:=at' ok.2.1
  obtain ⟨b1,b2,b3⟩:=at' ok.2.2
  ext
  refine a7 (ss:=["copy","times"]) sg_l ?_
  ext
  refine l_ix (dC sy) a1 ?_
  ext
  refine l_ix (dC sy) b1 ?_
  ext
  exact ⟨n,_,_,-1,rfl,a2,b2,by decide +kernel,aw q⟩
 | _=>cases hre
def lL:Pre:=fun ts G k=>∃ (Q:List Df) (f:List SF) (s:SF) (n B:Nat) (x:T),ts=[pgT Q,x]/\SqI G x ((f++[s]).map sfT)/\PgK Q/\FrsOk Q n B f s/\bR (f++[s])/\n < 64/\B<=10 ^ 800/\k (optT (dD Q (f++[s]))) G
theorem sc__law_silent:FnScope ["program","signs","frames","frame","row","forms","n","takes","many","rows","g","here","some"] ["program","signs"] (aD kZ):=by walk_at"fs"
theorem ZgA (B:Blt mg) (T__law_silent:TopFn K mg "_law_silent" kZ ["program","signs"]) (ZcF:Callee P w K mg base "_law_reckoned" 2 ["row","forms"] (spG P w K ot)):Callee P w K mg base "_law_silent" 3 ["program","signs"] (spG P w K lL):=by
 refine T__law_silent.okG sc__law_silent (by walk_at"lnx") fun f cdv A outer s H E ts G k hr hh=>?_
 have nd:=sc__law_silent.nd
 have hu:=hr.units
 obtain ⟨Q,f,s,n,B',x,rfl,hx,pk,F,CN,hn,hB,q⟩:=hh
 obtain ⟨d,r,hd,e2,hrow,h4,h0,h30,h5⟩:=dX (F.all s (by simp))
 have ok:=(pk.ok.2.2 d hd).rows r (aE h4)
 have few:=F.few
 have eqf:(Q.map dfT)[s.1.toNat]?=some (dfT d):=by rw[aq,e2];rfl
 have eqr:(d.rows.map rowT)[s.2.1.toNat]?=some (rowT r):=by rw[aq,h4];rfl
 have hlen:((f++[s]).map sfT).length<=4:=by rw[af,ax];simp;lia
 refine' go_G [some (pgT Q),some x,none,none,none,none,none,none,none,none,none,none,none] rfl ?hb ?hg
 case hb=>exact (ag (jT (i:=2) (LN:=["f","at","forms"]) (FN:=[]) (fr:=[]) rfl nd rfl rfl (cR (by rfl)) (dI (K:=K) rfl (pv 1)) (fun u u u u u u=>(cb (K:=K) (n:=3) rfl rfl (aF (xl 0 (show ((["f","at","forms"]:List Str)++([]:List Str)).Nodup by decide +kernel)) (aF (xl 1 (show ((["f","at","forms"]:List Str)++([]:List Str)).Nodup by decide +kernel)) (aF (xl 2 (show ((["f","at","forms"]:List Str)++([]:List Str)).Nodup by decide +kernel)) bQ))))) (fun u u u u u u=>dh) (fun u u u u u u=>(be (xg 0 (xg 1 (aK (cN (nZ (K:=K) rfl) (by rfl) B.b_list gP (xh 2)) ab)))))) (ag (cO (i:=3) nd rfl (Or.inl rfl) (xc K (pv 2) (bT bV aa))) (ag (cO (i:=4) nd rfl (Or.inl rfl) (xc K (xc K (xc K (pv 0) (xc K (pv 3) aa)) aa) (xc K (pv 3) aa))) (ag (bm (ao br (xc K (pv 3) aa) aa) (bJ (pv 3) aa bI)) (ag (cO (i:=5) nd rfl (Or.inr rfl) (xc K (pv 3) aa)) (ag (aH (PW.pt (bU (av (k_in (K:=K) rfl) (xc K (pv 4) aa) (be (aj ay (aj ay ab))) (by with_unfolding_all rfl)) (cg (av (tU hu) (xc K (xc K (pv 5) (xc K (pv 4) aa)) aa) (ar ab) (au _))))) (ag (cO (i:=6) nd rfl (Or.inl rfl) (xc K (xc K (pv 5) (xc K (pv 4) aa)) aa)) (ak (aH (PW.pt (fK (PW.pt (bU (av aM (pv 6) aa (au _)) (cg (av aM (xc K (pv 4) aa) ay (au _))))) (hE (PW.pt (bU (av dS (pv 6) aa (au _)) (cg (av aM (xc K (pv 4) aa) ay (au _)))))))) (ak (bm (xc K (pv 4) aa) (bJ (pv 3) aa bI))) a8))) (ak (aH (av aM (xc K (pv 4) aa) ay (au _)) (ak (bm (xc K (pv 4) aa) (bJ (pv 3) aa bI))) (ak (aH (PW.pt (bU (av aM (xc K (pv 4) aa) ay (au _)) (cg (av dS (aO (bw (K:=K) rfl) (by rfl) B.b_len bz (xh 2)) aa (au _))))) (ag (bm (ao cw (xc K (pv 3) aa) aa) (bJ (pv 3) aa bI)) (ag (bm (xc K (pv 0) (xc K (pv 4) aa)) (cb (K:=K) (n:=3) rfl rfl (aF (xl 7 nd) (aF (xl 8 nd) (aF (xl 9 nd) bQ))))) (ak (cx (k_bm (K:=K) rfl PySem.F.plainAttrs_list PySem.F.slot_list_append PySem.F.type_list_append eE (pv 2) (iy (be (aL (xc K (pv 4) aa) (aj aa (bG (ao de (xm ["q"] ["forms"] [5] (dE (K:=K) rfl (xc K (pv 4) aa)) (fun u u u u u u=>(xc K (pv 1) (pv 0)))) (ao pz (be (aT (ar (aj aa (aT (ar ab) ab))) ab)) (ao cw (pv 8) (pv 7)))) ab)))) ab)))))) (ak (aH (PW.pt (bU (av aM (xc K (pv 4) aa) ay (au _)) (cg (av fi (aO (bw (K:=K) rfl) (by rfl) B.b_len bz (xh 2)) aa (au _))))) (ag (cx (k_bm0 (K:=K) rfl PySem.F.plainAttrs_list PySem.F.slot_list_pop PySem.F.type_list_pop qK (pv 2))) (ag (bm (xc K (pv 2) (bT bV aa)) (oS (K:=K) (n:=3) rfl rfl (aF (xl 10 nd) (aF (xl 11 nd) (aF (xl 12 nd) bQ))))) (ag (bm (xc K (pv 5) (xc K (pv 4) aa)) (bJ (pv 12) (xc K (xc K (xc K (xc K (pv 0) (pv 10)) aa) (pv 11)) aa) bI)) (ak (bm (ao br (pv 11) aa) (bJ (xc K (pv 2) (bT bV aa)) aa bI)))))) (ak (aH (av (k_in (K:=K) rfl) (xc K (pv 4) aa) (be (aj ay (aj ay (aj ay (aj ay (aj ay ab)))))) (by with_unfolding_all rfl)) (ak (bm (xj ZcF hr.m (xg 4 (xh 5))) (bJ (pv 5) (xc K (pv 4) aa) bI))) (ak (aB fq))))))))))) (ak (aB (eY (LN:=["f","at","some"]) (FN:=[]) (fr:=[]) rfl (cR (by rfl)) (dI (K:=K) rfl (pv 2)) (fun u u u u u u=>(oS (K:=K) (n:=3) rfl rfl (aF (xl 0 (show ((["f","at","some"]:List Str)++([]:List Str)).Nodup by decide +kernel)) (aF (xl 1 (show ((["f","at","some"]:List Str)++([]:List Str)).Nodup by decide +kernel)) (aF (xl 2 (show ((["f","at","some"]:List Str)++([]:List Str)).Nodup by decide +kernel)) bQ))))) (fun u u u u u u=>dh) (fun u u u u u u=>(ar (xg 0 (xg 1 (aK (cN (fj (K:=K) rfl) (by rfl) B.b_tuple dR (xh 2)) ab))))))))))))))
 refine bE (b0 (oq ?_))
 ext
 refine ⟨_,hx,by lia,fun i acc Γ' G'=>(∃ c1 c2 c3,Γ'=[c1,c2,c3])/\∃ xs ys,acc=xs.map T.ptr/\FrI fmT G G' xs ys ((f++[s]).take i),⟨⟨_,_,_,rfl⟩,[],[],rfl,FrI.nil⟩,fun i acc Γ' G' ⟨_,xs,ys,_,FI⟩=>FI.sq hx,?_,?_⟩
 .rintro i z acc Γ' G' hz ⟨⟨c1,c2,c3,rfl⟩,xs,ys,rfl,FI⟩
  rw[aq] at hz
  obtain ⟨t,et,rfl⟩:=bc.mp hz
  refine bX rfl (b7 (aW (b7 (aW (b7 (aW (dU (fz (iteT (fg ?_)))))))))) 
  ext
  refine Zl0 sg_t fun y ny=>?_
  ext
  intro x' nx'
  obtain ⟨n1,n2⟩:=lC nx'
  refine ⟨⟨_,_,_,rfl⟩,xs++[x'],ys++[y],by rw[aJ];rfl,?_⟩
  rw[dw,et]
  exact FI.snoc ny n1 n2
 rintro acc Γ' G1 ⟨⟨c1,c2,c3,rfl⟩,xs,ys,rfl,FI⟩ fl nfl
 rw[af,dO] at FI
 have FS:=FI.fin nfl
 generalize gput G1 fl (.lst (xs.map T.ptr))=G2 at FS
 obtain ⟨xs,ys,a,b,rfl,rfl,q1,q2,ga,gb⟩:=FS.last
 have ela:∀ {l:List Addr} {x:Addr},atI ((l++[x]).map T.ptr) (-1)=some (.ptr x):=fun {l x}=>by rw[aJ];exact eN _ _
 refine aW ?_
 ext
 refine l_ix (sg_p FS.fr) ela ?_
 ext
 refine l_ix (sg_p ga) at_0 ?_
 ext
 refine bv (at_i h0 eqf) ?_
 ext
 refine l_ix (sg_p ga) at_1 ?_
 ext
 refine bv (at_i h30 eqr) ?_
 ext
 refine l_ix (sg_p ga) at_1 ?_
 ext
 refine ⟨a,_,1,1,rfl,rfl,ga,rfl,?_⟩
 have F1:=FS.setAt (t:=s.2.1+1) q1 q2
 replace F1:FrSt fmT G (gput G2 a (.lst ([T.int s.1,.int s.2.1,.ptr b].set 1 (.int (s.2.1+1))))) fl (xs++[a]) (ys++[b]) [] (f++[(s.1,s.2.1+1,s.2.2)]):=F1
 generalize gput G2 a (.lst ([T.int s.1,.int s.2.1,.ptr b].set 1 (.int (s.2.1+1))))=G3 at F1
 clear FS ga gb
 obtain ⟨u,u,a',b',ea,eb,u,u,ga,gb⟩:=F1.last
 obtain ⟨u,ea⟩:=append_inj' ea rfl
 obtain ⟨u,eb⟩:=append_inj' eb rfl
 cases ea;cases eb
 dsimp only at ga gb
 refine bE (b0 ?_)
 ext
 refine l_ix (sg_p ga) at_2 ?_
 refine aW ?_
 have bx:∀ {q:Int},In0 q d.boxes->atI (s.2.2.map fmT) q=some (fmT (gtF s q)):=fun {q} hq=>by
  have h1:=hq.1
  have h2:=hq.2
  obtain ⟨u,e⟩:=qc (F.all s (by simp)) h1 (by lia)
  exact at_i h1 (by rw[aq,e];rfl)
 refine cI (fun Γ' G'=>(∃ (c3 c4 c5 c6 c7 c8 c9 c10 c11 c12:Option T),Γ'=[some (pgT Q),some x,some (.ptr fl),c3,c4,c5,c6,c7,c8,c9,c10,c11,c12])/\∃ xs ys gs l',FrSt fmT G G' fl xs ys gs l'/\dD Q (f++[s])=some l'/\l'.length<=1000) ?_ ?_
 rotate_left 1
 .rintro Γ' G' ⟨⟨c3,c4,c5,c6,c7,c8,c9,c10,c11,c12,rfl⟩,xs,ys,gs,l',F2,es,hl'⟩
  rw[es] at q
  ext
  refine dF (fun Γ'=>∃ c1 c2 c3,Γ'=[c1,c2,c3]) ?_
  ext
  refine ⟨_,si_p F2.fr,by rw[af,F2.lx];lia,si_p F2.fr,⟨_,_,_,rfl⟩,l'.map sfT,by rw[af,af,F2.lx],?_,f9 F2.sub (aw q)⟩
  rintro i z y Γ' hz hy ⟨c1,c2,c3,rfl⟩
  rw[aq] at hz hy
  obtain ⟨x',ex',rfl⟩:=bc.mp hz
  obtain ⟨t,et,rfl⟩:=bc.mp hy
  have li:=(ba.mp et).1
  have ey':ys[i]?=some (ys[i]'(by rw[F2.ly];exact li)):=aC _
  obtain ⟨z1,z2⟩:=F2.x i x' _ t ex' ey' et
  refine oY z1 rfl ?_
  ext
  refine ⟨⟨_,_,_,rfl⟩,rfl,?_⟩
  ext
  refine e8 (sg_p z2) (fun u=>nofun) ?_
  ext
  exact ⟨rfl,rfl⟩
 have esl:dD Q (f++[s])=cB Q f s:=by unfold dD;rw[getLast?_concat,fV]
 have noF:cB Q f s=none->k .non G:=fun e=>by rw[esl,e] at q;exact q
 have setA:∀ {G':GH} {xs ys gs:List Addr} {l:List SF} {s:SF} {a b:Addr} {t:Int},FrSt fmT G G' fl (xs++[a]) (ys++[b]) gs (l++[s])->xs.length=l.length->ys.length=l.length->FrSt fmT G (gput G' a (.lst ([T.int s.1,.int s.2.1,.ptr b].set 1 (.int t)))) fl (xs++[a]) (ys++[b]) gs (l++[(s.1,t,s.2.2)]):=fun h h1 h2=>h.setAt h1 h2
 have l4:(f++[s]).length<=4:=by rw[af] at hlen;exact hlen
 have ll:∀ (t:SF),(f++[t]).length<=1000:=fun t=>by rw[ax] at l4 ⊢;simp at l4 ⊢;lia
 have uf:cB Q f s=cB Q f s:=rfl
 conv at uf=>rhs;unfold cB
 rw[hrow] at uf
 have fob:∀ g∈s.2.2,FoB n g/\Cano g:=fun g hg=>⟨fo9 ((F.all s (by simp)).fm g hg) hn hB,CN s (by simp) g hg⟩
 have reck:∀ {p:Int} {g:Fm},bW s r=some (p,g)->r.Ok [] s.2.2.length 1000->In0 p d.boxes->cB Q f s=some (eV f s p g)->(∀ {kk:T->GH->Prop},kk (fmT g) G3->ot [rowT r,.ptr b] G3 kk)/\∃ j,ixN (s.2.2.map fmT).length p=some j/\∃ xs ys gs l',FrSt fmT G (gput G3 b (.lst ((s.2.2.map fmT).set j (fmT g)))) fl xs ys gs l'/\dD Q (f++[s])=some l'/\l'.length<=1000:=fun {p g} e1 e2 e3 e4=>by
  refine ⟨fun {kk} hk=>⟨n,s,r,p,g,.ptr b,rfl,si_p gb,e1,fob,hn,e2,hk⟩,p.toNat,?_,xs++[a],ys++[b],[],_,?_,esl.trans e4,ll _⟩
  .have:=e3.1
   have:=e3.2
   unfold ixN
   rw[ah e3.1,ah (by rw[af];lia)]
  .rw[<-gI]
   exact F1.setBox q1 q2
 cases r with
 | put p m =>
  obtain ⟨k1,j,hj,k2⟩:=reck (p:=p) (g:=(m,[])) rfl (by rw[h5];exact ok) ok.1 uf
  ext
  refine a7 (ss:=["zero","below"]) sg_l ?_
  ext
  refine a7 (ss:=["put","copy","plus","less","times"]) sg_l ?_
  ext
  refine k1 ?_
  ext
  exact ⟨b,_,p,j,rfl,rfl,gb,hj,⟨_,_,_,_,_,_,_,_,_,_,rfl⟩,k2⟩
 | copy p q' =>
  obtain ⟨k1,j,hj,k2⟩:=reck (p:=p) (g:=gtF s q') rfl (by rw[h5];exact ok) ok.1 uf
  ext
  refine a7 (ss:=["zero","below"]) sg_l ?_
  ext
  refine a7 (ss:=["put","copy","plus","less","times"]) sg_l ?_
  ext
  refine k1 ?_
  ext
  exact ⟨b,_,p,j,rfl,rfl,gb,hj,⟨_,_,_,_,_,_,_,_,_,_,rfl⟩,k2⟩
 | plus p q' r' =>
  obtain ⟨k1,j,hj,k2⟩:=reck (p:=p) (g:=bO (gtF s q') (gtF s r') 1) rfl (by rw[h5];exact ok) ok.1 uf
  ext
  refine a7 (ss:=["zero","below"]) sg_l ?_
  ext
  refine a7 (ss:=["put","copy","plus","less","times"]) sg_l ?_
  ext
  refine k1 ?_
  ext
  exact ⟨b,_,p,j,rfl,rfl,gb,hj,⟨_,_,_,_,_,_,_,_,_,_,rfl⟩,k2⟩
 | less p q' r' =>
  obtain ⟨k1,j,hj,k2⟩:=reck (p:=p) (g:=bO (gtF s q') (gtF s r') (-1)) rfl (by rw[h5];exact ok) ok.1 uf
  ext
  refine a7 (ss:=["zero","below"]) sg_l ?_
  ext
  refine a7 (ss:=["put","copy","plus","less","times"]) sg_l ?_
  ext
  refine k1 ?_
  ext
  exact ⟨b,_,p,j,rfl,rfl,gb,hj,⟨_,_,_,_,_,_,_,_,_,_,rfl⟩,k2⟩
 | times p q' m =>
  obtain ⟨k1,j,hj,k2⟩:=reck (p:=p) (g:=fG (gtF s q') m) rfl (by rw[h5];exact ok) ok.1 uf
  ext
  refine a7 (ss:=["zero","below"]) sg_l ?_
  ext
  refine a7 (ss:=["put","copy","plus","less","times"]) sg_l ?_
  ext
  refine k1 ?_
  ext
  exact ⟨b,_,p,j,rfl,rfl,gb,hj,⟨_,_,_,_,_,_,_,_,_,_,rfl⟩,k2⟩
 | take p =>
  ext
  refine a7 (ss:=["zero","below"]) sg_l ?_
  ext
  refine a7 (ss:=["put","copy","plus","less","times"]) sg_l ?_
  ext
  exact f9 F1.sub (aw (noF uf))
 | tell p =>
  ext
  refine a7 (ss:=["zero","below"]) sg_l ?_
  ext
  refine a7 (ss:=["put","copy","plus","less","times"]) sg_l ?_
  ext
  exact f9 F1.sub (aw (noF uf))
 | jump t =>
  ext
  refine a7 (ss:=["zero","below"]) sg_l ?_
  ext
  exact ⟨a,_,1,1,rfl,rfl,ga,rfl,⟨_,_,_,_,_,_,_,_,_,_,rfl⟩,_,_,_,_,setA (s:=(s.1,s.2.1+1,s.2.2)) F1 q1 q2,esl.trans uf,ll _⟩
 | zero p t =>
  dsimp only [bW] at uf
  ext
  refine a7 (ss:=["zero","below"]) sg_l ?_
  ext
  refine l_ix (sg_p gb) (bx ok.1) ?_
  ext
  refine pb ?_
  by_cases hp:(gtF s p).2=[]
  .rw[ah hp] at uf
   rw[aX hp]
   ext
   refine l_ix (sg_p gb) (bx ok.1) ?_
   ext
   by_cases hz:(gtF s p).1=0
   .rw[ah hz] at uf
    rw[aX hz]
    ext
    exact ⟨a,_,1,1,rfl,rfl,ga,rfl,⟨_,_,_,_,_,_,_,_,_,_,rfl⟩,_,_,_,_,setA (s:=(s.1,s.2.1+1,s.2.2)) F1 q1 q2,esl.trans uf,ll _⟩
   .rw[ai hz] at uf
    rw[aQ hz]
    ext
    by_cases hz2:(gtF s p).1 < 0
    .rw[aX hz2]
     ext
     exact ⟨⟨_,_,_,_,_,_,_,_,_,_,rfl⟩,_,_,_,_,F1,esl.trans uf,ll _⟩
    .rw[aQ hz2]
     ext
     exact ⟨⟨_,_,_,_,_,_,_,_,_,_,rfl⟩,_,_,_,_,F1,esl.trans uf,ll _⟩
  .rw[ai hp] at uf
   rw[aQ hp]
   ext
   refine a7 (ss:=["put","copy","plus","less","times"]) sg_l ?_
   ext
   exact f9 F1.sub (aw (noF uf))
 | below p t =>
  dsimp only [bW] at uf
  ext
  refine a7 (ss:=["zero","below"]) sg_l ?_
  ext
  refine l_ix (sg_p gb) (bx ok.1) ?_
  ext
  refine pb ?_
  by_cases hp:(gtF s p).2=[]
  .rw[ah hp] at uf
   rw[aX hp]
   ext
   refine l_ix (sg_p gb) (bx ok.1) ?_
   ext
   by_cases hz:(gtF s p).1=0
   .rw[ai (by lia)] at uf
    rw[aX hz]
    ext
    rw[aQ (by lia)]
    ext
    exact ⟨⟨_,_,_,_,_,_,_,_,_,_,rfl⟩,_,_,_,_,F1,esl.trans uf,ll _⟩
   .rw[aQ hz]
    ext
    by_cases hz2:(gtF s p).1 < 0
    .rw[ah hz2] at uf
     rw[aX hz2]
     ext
     exact ⟨a,_,1,1,rfl,rfl,ga,rfl,⟨_,_,_,_,_,_,_,_,_,_,rfl⟩,_,_,_,_,setA (s:=(s.1,s.2.1+1,s.2.2)) F1 q1 q2,esl.trans uf,ll _⟩
    .rw[ai hz2] at uf
     rw[aQ hz2]
     ext
     exact ⟨⟨_,_,_,_,_,_,_,_,_,_,rfl⟩,_,_,_,_,F1,esl.trans uf,ll _⟩
  .rw[ai hp] at uf
   rw[aQ hp]
   ext
   refine a7 (ss:=["put","copy","plus","less","times"]) sg_l ?_
   ext
   exact f9 F1.sub (aw (noF uf))
 | call p g qs =>
  dsimp only [bW] at uf
  ext
  refine a7 (ss:=["zero","below"]) sg_l ?_
  ext
  refine b9 (sg_p F1.fr) ?_
  have hxl:((xs++[a]).map T.ptr).length=f.length+1:=by rw[af,ax,q1];rfl
  rw[hxl]
  ext
  by_cases hl:f.length < 3
  .rw[ah hl] at uf
   rw[aX (by lia)]
   obtain ⟨d2,g0,hg,hq⟩:=ok.2.1
   have D2:=pk.ok.2.2 d2 (aE hg)
   have eqg:(Q.map dfT)[g.toNat]?=some (dfT d2):=by rw[aq,hg];rfl
   ext
   refine l_ix (sg_p ga) at_1 ?_
   ext
   refine ⟨a,_,1,1,rfl,rfl,ga,rfl,?_⟩
   have F2:=setA (t:=s.2.1+1 - 1) F1 q1 q2
   generalize gput G3 a _=G4 at F2
   have es1:((s.1,s.2.1+1 - 1,s.2.2):SF)=s:=by rw[Int.add_sub_cancel]
   dsimp only at F2
   rw[es1] at F2
   obtain ⟨z1,z2⟩:=F2.x f.length a b s (by rw[<-q1];exact bB) (by rw[<-q2];exact bB) bB
   ext
   refine bv (at_i g0 eqg) ?_
   refine bX rfl ?_
   refine b7 (aW (b7 (aW (b7 (aW (dU ?_))))))
   have D2t:=D2.t
   have D2b:=D2.b
   refine fE (gt (eR rfl ⟨ty_p F2.fr,gh (fg ?_)⟩))
   ext
   refine dF (fun Γ'=>∃ c,Γ'=[c,some (.ptr b)]) ?_
   ext
   refine ⟨qs.map T.int,by show T.tup (embs (qs.map D.int))=_;rw[kf],by rw[af];lia,trivial,⟨_,rfl⟩,qs.map fun q=>fmT (gtF s q),by rw[af,af],?_,?_⟩
   .rintro i z y Γ' hz hy ⟨c,rfl⟩
    rw[aq] at hz hy
    obtain ⟨v,ev,rfl⟩:=bc.mp hz
    rw[ev] at hy
    cases hy
    ext
    refine ⟨⟨_,rfl⟩,rfl,?_⟩
    ext
    exact l_ix (sg_p z2) (bx (ok.2.2 v (aE ev))) ⟨rfl,rfl⟩
   ext
   refine pI (by lia) (by lia) ?_
   refine ig si_l si_l (by rw[af,hX];lia) fun y ny=>?_
   ext
   intro x' nx'
   obtain ⟨n1,n2⟩:=lC nx'
   have ecf:(qs.map fun q=>fmT (gtF s q))++List.replicate (d2.boxes - d2.takes).toNat (T.tup [.int 0,.tup []])=(dB Q s g qs).2.2.map fmT:=by
    unfold dB dQ
    rw[hg,aJ,map_map,nQ,<- hq]
    rfl
   have F3:=F2.push (s:=dB Q s g qs) ny n1 n2
   have hfl2:fl≠x'/\fl≠y:=⟨(fun e=>(by rw[<-e,F2.fr] at n1;cases n1)),(fun e=>(by rw[<-e,F2.fr] at ny;cases ny))⟩
   rw[ecf]
   ext
   refine eJ (by rw[gp_n hfl2.1,gp_n hfl2.2];exact F2.fr) (by rw[af,ax];simp;lia) ?_
   exact ⟨⟨_,_,_,_,_,_,_,_,_,_,rfl⟩,_,_,_,_,F3,by rw[esl,uf];simp,by rw[ax,ax];simp;lia⟩
  .rw[ai hl] at uf
   rw[aQ (by lia)]
   ext
   refine a7 (ss:=["put","copy","plus","less","times"]) sg_l ?_
   ext
   exact f9 F1.sub (aw (noF uf))
 | back p =>
  dsimp only [bW] at uf
  ext
  refine a7 (ss:=["zero","below"]) sg_l ?_
  ext
  refine b9 (sg_p F1.fr) ?_
  have hxl:((xs++[a]).map T.ptr).length=f.length+1:=by rw[af,ax,q1];rfl
  rw[hxl]
  ext
  cases hc:f.getLast? with
  | none =>
   have f0:=getLast?_eq_none_iff.mp hc
   rw[hc] at uf
   rw[f0,aQ (by simp)]
   ext
   refine a7 (ss:=["put","copy","plus","less","times"]) sg_l ?_
   ext
   exact f9 F1.sub (aw (noF uf))
  | some c =>
   rw[hc] at uf
   obtain ⟨f',rfl⟩:=jB.mp hc
   rw[fV] at uf
   rw[aX (by rw[ax];simp;lia)]
   obtain ⟨p2,g2,qs2,hcr⟩:=F.call c (by simp)
   obtain ⟨dc,rc,hdc,ec2,hrc,ec4,ec0,ec30,ec5⟩:=dX (F.all c (by simp))
   rw[hcr] at hrc
   cases hrc
   dsimp only at uf
   rw[hcr] at uf
   have okc:=(pk.ok.2.2 dc hdc).rows _ (aE ec4)
   have eqc:(Q.map dfT)[c.1.toNat]?=some (dfT dc):=by rw[aq,ec2];rfl
   have eqrc:(dc.rows.map rowT)[c.2.1.toNat]?=some (rowT (.call p2 g2 qs2)):=by rw[aq,ec4];rfl
   have fr':G3 fl=some (.lst (xs.map T.ptr++[.ptr a])):=by rw[F1.fr,aJ];rfl
   obtain ⟨u,u,fb,u⟩:=kh F1.nd
   have F2:=F1.pop q1 q2
   have gb4:gput G3 fl (.lst (xs.map T.ptr)) b=some (.lst (s.2.2.map fmT)):=by rw[gp_n fb.symm];exact gb
   refine iteT (bE (fE (g8 (eR rfl ⟨ty_p fr',l_pop fr' ?_⟩))))
   generalize gput G3 fl (.lst (xs.map T.ptr))=G4 at F2 gb4
   obtain ⟨xs2,ys2,a2,b2,rfl,rfl,r1,r2,z1,z2⟩:=F2.last
   ext
   refine l_ix (sg_p F2.fr) ela ?_
   refine oY z1 rfl ?_
   ext
   refine l_ix (sg_p gb4) (bx ok) ?_
   ext
   refine bv (at_i ec0 eqc) ?_
   ext
   refine bv (at_i ec30 eqrc) ?_
   ext
   have hp2:=okc.1
   refine ⟨b2,_,p2,p2.toNat,rfl,rfl,z2,by unfold ixN;rw[ah hp2.1,ah (by rw[af];have:=hp2.2;lia)],?_⟩
   rw[<-gI]
   have F3:=F2.setBox (fm:=c.2.2.set p2.toNat (gtF s p)) r1 r2
   generalize gput G4 b2 (.lst ((c.2.2.set p2.toNat (gtF s p)).map fmT))=G5 at F3
   obtain ⟨y1,y2⟩:=F3.x f'.length a2 b2 _ (by rw[<-r1];exact bB) (by rw[<-r2];exact bB) bB
   ext
   refine l_ix (sg_p F3.fr) ela ?_
   ext
   exact ⟨a2,_,1,1,rfl,rfl,y1,rfl,⟨_,_,_,_,_,_,_,_,_,_,rfl⟩,_,_,_,_,setA (s:=(c.1,c.2.1,c.2.2.set p2.toNat (gtF s p))) F3 r1 r2,esl.trans uf,by have:=ll s;rw[ax,ax] at this;rw[ax];simp at this ⊢;lia⟩
def uB:Pre:=fun ts G k=>∃ (m B D:Nat) (l:List SF) (fl:List Fm) (x y:T),ts=[x,y]/\SqI G x (l.map sfT)/\SqI G y (fl.map fmT)/\l.length<=1000/\(∀ t∈l,t.2.2.length<=1000/\∀ g∈t.2.2,Fo fl.length B g)/\fl.length < 64/\m < 64/\(∀ g∈fl,Fo m D g)/\B+63 * (B * D)<=10 ^ 900/\D<=10 ^ 900/\k (.lst ((l.map (dY fl)).map sfT)) G
theorem sc__law_signs_put:FnScope ["signs","forms"] ["signs","forms"] (aD kT):=by walk_at"fs"
theorem ZeB (B:Blt mg) (T__law_signs_put:TopFn K mg "_law_signs_put" kT ["signs","forms"]) (Zfr:Callee P w K mg base "_law_put" 2 ["form","forms"] (spG P w K qJ)):Callee P w K mg base "_law_signs_put" 3 ["signs","forms"] (spG P w K uB):=by
 refine T__law_signs_put.okG sc__law_signs_put (by walk_at"lnx") fun f cdv A outer s H E ts G k hr hh=>?_
 have nd:=sc__law_signs_put.nd
 obtain ⟨m,B',D,l,fl,x,y,rfl,hx,hy,hl,ht,hfl,hm,hg,hB,hD,q⟩:=hh
 refine' go_G [some x,some y] rfl ?hb ?hg
 case hb=>exact (ak (aB (eY (LN:=["f","at","some"]) (FN:=["forms"]) (fr:=[1]) rfl (cR (by rfl)) (dI (K:=K) rfl (pv 0)) (fun v v v v v v=>(cb (K:=K) (n:=3) rfl rfl (aF (xl 0 (show ((["f","at","some"]:List Str)++(["forms"]:List Str)).Nodup by decide +kernel)) (aF (xl 1 (show ((["f","at","some"]:List Str)++(["forms"]:List Str)).Nodup by decide +kernel)) (aF (xl 2 (show ((["f","at","some"]:List Str)++(["forms"]:List Str)).Nodup by decide +kernel)) bQ))))) (fun v v v v v v=>dh) (fun cl C fp pins s H=>(ar (xg 0 (xg 1 (aK (cN (fj (K:=K) rfl) (by rfl) B.b_tuple dR (fh (xm ["form"] ["forms"] [3] (dE (K:=K) rfl (pv 2)) (fun v v v v v v=>(xj Zfr hr.m (xg 0 (xh 1))))) ab)) ab))))))))
 ext
 refine dF (fun Γ'=>∃ c1 c2 c3,Γ'=[c1,c2,c3,some y]) ?_
 ext
 refine ⟨_,hx,by rw[af];lia,hx,⟨_,_,_,rfl⟩,(l.map (dY fl)).map sfT,by rw[af,af,af],?_,aw q⟩
 rintro i z w' Γ' hz hw ⟨c1,c2,c3,rfl⟩
 rw[aq] at hz
 obtain ⟨t,et,rfl⟩:=bc.mp hz
 rw[aq,aq,et] at hw
 cases hw
 obtain ⟨t1,t2⟩:=ht t (aE et)
 ext
 refine ⟨⟨_,_,_,rfl⟩,rfl,?_⟩
 ext
 refine dF (fun Γ'=>∃ c,Γ'=[c,some y]) ?_
 ext
 refine ⟨_,rfl,by rw[af];lia,trivial,⟨_,rfl⟩,(t.2.2.map fun f=>gn f fl).map fmT,by rw[af,af,af],?_,?_⟩
 .rintro j z w' Γ' hz hw ⟨c,rfl⟩
  rw[aq] at hz
  obtain ⟨g,eg,rfl⟩:=bc.mp hz
  rw[aq,aq,eg] at hw
  cases hw
  ext
  refine ⟨⟨_,rfl⟩,rfl,?_⟩
  ext
  exact ⟨m,B',D,g,fl,y,rfl,hy,t2 g (aE eg),hfl,hm,hg,hB,hD,rfl,rfl⟩
 ext
 refine e8 sg_l (fun v=>nofun) ?_
 ext
 exact ⟨rfl,rfl⟩
def ox:Pre:=fun ts G k=>∃ (f:List SF) (s:SF) (t:Int) (x:T),ts=[x,.int t]/\SqI G x ((f++[s]).map sfT)/\f.length<=1000/\k (.lst ((cM f s t).map sfT)) G
theorem sc__law_at:FnScope ["signs","at"] ["signs","at"] (aD lR):=by walk_at"fs"
theorem Zlh (B:Blt mg) (T__law_at:TopFn K mg "_law_at" lR ["signs","at"]):Callee P w K mg base "_law_at" 1 ["signs","at"] (spG P w K ox):=by
 refine T__law_at.okG sc__law_at (by walk_at"lnx") fun f cdv A outer s H E ts G k hr hh=>?_
 have nd:=sc__law_at.nd
 obtain ⟨f,s,t,x,rfl,hx,hf,q⟩:=hh
 have ela:atI ((f++[s]).map sfT) (-1)=some (sfT s):=by rw[aJ];exact eN _ _
 refine' go_G [some x,some (.int t)] rfl ?hb ?hg
 case hb=>exact (ak (aB (ao de (cJ (k_sl (K:=K) rfl) (pv 0) cK (cE (bT bV aa))) (be (aT (ar (aL (xc K (xc K (pv 0) (bT bV aa)) aa) (xg 1 (aL (xc K (xc K (pv 0) (bT bV aa)) aa) ab)))) ab)))))
 ext
 refine gR hx ?_
 have ec:cutT ((f++[s]).map sfT) none (some (-1))=f.map sfT:=by rw[aJ];exact lh _ _
 ext
 refine l_ix (dC hx) ela ?_
 ext
 refine l_ix (dC hx) ela ?_
 ext
 have ec:cutT ((f++[s]).map sfT) none (some (-1))=f.map sfT:=by rw[aJ];exact lh _ _
 refine fI si_l si_l (by show (cutT ((f++[s]).map sfT) none (some (-1))).length+_<=_;rw[ec,af];simp;lia) ?_
 have eq2:(cM f s t).map sfT=cutT ((f++[s]).map sfT) none (some (-1))++[sfT (s.1,t,s.2.2)]:=by rw[ec];unfold cM;rw[aJ];rfl
 rw[eq2] at q
 exact aw q
structure KnG (l:List SF) (kvs:List (List Key×T)):Prop where
 len:kvs.length < 64
 ok:∀ e∈kvs,∃ i j c:Int,e=([.inl i,.inl j],.int c)/\c.natAbs < 10 ^ 9/\InFr l i j
def r9:Pre:=fun ts G k=>∃ (b l la kd:Addr) (Q:List Df) (n B:Nat) (f:List SF) (s:SF) (lane:List StL) (kvs:List (List Key×T)),ts=[.ptr b,.ptr la,.lst ((f++[s]).map sfT),.ptr kd]/\G b=some (.bag l)/\G la=some (.lst (lane.map stT))/\G kd=some (.dt kvs)/\PgK Q/\FrsOk Q n B f s/\lane.length<=900/\KnG (f++[s]) kvs/\∀ (lay:List L3i) (d:StL) (c:Ct),LayOk (f++[s]) lay->PpK Q d.n d.fr->PlD 8 d.dd->(∀ x,c≠.own x)->k (.lst (lay.map lyT)) (gput (gput G la (.lst ((lane++[d]).map stT))) kd c)
def Cov (l:List SF) (kvs:List (List Key×T)) (lay:List L3i) (i j:Nat):Prop:=∀ (i' j':Nat) s,l[i']?=some s->j' < s.2.2.length->(i' < i\/(i'=i/\j' < j))->(getA kvs [.inl (i':Int),.inl (j':Int)]).isSome=true\/∃ c,((i':Int),(j':Int),c)∈lay
theorem sc__law_laid:FnScope ["bag","lane","frames","known","layout","way","i","j","turn","forms","u","paper","some"] ["bag","lane","frames","known"] (aD ml):=by walk_at"fs"
theorem Zh0 (B:Blt mg) (T__law_laid:TopFn K mg "_law_laid" ml ["bag","lane","frames","known"]) (Zaf:Callee P w K mg base "_law_draw" 1 ["bag","many"] dH):Callee P w K mg base "_law_laid" 2 ["bag","lane","frames","known"] (spG P w K r9):=by
 refine T__law_laid.okG sc__law_laid (by walk_at"lnx") fun f cdv A outer s H E ts G k hr hh=>?_
 have nd:=sc__law_laid.nd
 have hu1:=iG hr
 obtain ⟨b,l,la,kd,Q,n,B',f,s,lane,kvs,rfl,hb,hla,hkd,pk,fo,hlen,kn,q⟩:=hh
 have L0:=LdSt.start hb hla hkd (.inl ⟨_,rfl⟩)
 generalize hfs:f++[s]=fs at q kn
 have few:fs.length<=4:=by rw[<-hfs,ax];have:=fo.few;simp;lia
 have sok:∀ t∈fs,SfOk Q n B' t:=fun t ht=>fo.all t (by rw[hfs];exact ht)
 have bx:∀ t∈fs,t.2.2.length<=8:=fun t ht=>gu pk (sok t ht)
 refine' go_G [some (.ptr b),some (.ptr la),some (.lst (fs.map sfT)),some (.ptr kd),none,none,none,none,none,none,none,none,none] rfl ?hb ?hg
 case hb=>exact (ag (gK (i:=4) nd rfl (Or.inl rfl) (be ab)) (ag (cv (i:=5) nd rfl (Or.inl rfl) (gO (av fi (aO (bw (K:=K) rfl) (by rfl) B.b_len bz (xh 1)) aa (au _)) (xj Zaf hr.m (xg 0 (aj aa ab))) aa)) (ag (cz PassesOwn.never rfl (cT rfl B.b_range (aK (aO (bw (K:=K) rfl) (by rfl) B.b_len bz (xh 2)) ab)) (gQ (i:=6) nd rfl (Or.inr rfl)) (ak (cz PassesOwn.never rfl (cT rfl B.b_range (aK (aO (bw (K:=K) rfl) (by rfl) B.b_len bz (aL (xc K (xc K (pv 2) (pv 6)) aa) ab)) ab)) (xl 7 nd) (ak (aH (oe (pj hu1 (ar (xg 6 (xh 7))) (pv 3))) (ak (cx (k_bm (K:=K) rfl PySem.F.plainAttrs_list PySem.F.slot_list_append PySem.F.type_list_append eE (pv 4) (aT (ar (xg 6 (xg 7 (oV (gO (av aM (pv 5) aa (au _)) (ao cw (xj Zaf hr.m (xg 0 (aj aa ab))) aa) aa) ab)))) ab)))) a8))))) (ag (cv (i:=8) nd rfl (Or.inl rfl) (gO (av fi (pv 5) aa (au _)) (ao fP (xj Zaf hr.m (xg 0 (aj aa ab))) (aO (Zlb rfl) (by rfl) B.b_max qf (aj aa (aK (aO (bw (K:=K) rfl) (by rfl) B.b_len bz (xh 4)) ab)))) aa)) (ag (dG (i:=4) nd rfl (Or.inl rfl) (ao de (cJ (k_sl (K:=K) rfl) (pv 4) (cE (pv 8)) cK) (cJ (k_sl (K:=K) rfl) (pv 4) cK (cE (pv 8))))) (ag (cv (i:=9) nd rfl (Or.inr rfl) ub) (ag (cz PassesOwn.never rfl (pi_dt (pv 3)) (cb (K:=K) (n:=2) rfl rfl (aF (gQ (i:=6) nd rfl (Or.inr rfl)) (aF (xl 7 nd) bQ))) (ak (f6 hu1 (pv 9) (ar (xg 6 (xh 7))) (ar (aL (fW hu1 (pv 3) (ar (xg 6 (xh 7))) (fun r r=>rfl)) (aT (ar ab) ab))) rfl))) (ag (cz PassesOwn.never rfl (cT rfl B.b_range (aK (aO (bw (K:=K) rfl) (by rfl) B.b_len bz (xh 4)) ab)) (xl 10 nd) (ak (f6 hu1 (pv 9) (cJ (gm (K:=K) rfl) (xc K (pv 4) (pv 10)) cK (cE aa)) (ar (aL (xc K (xc K (pv 4) (pv 10)) aa) (aT (ar (aT (ar (aj aa (xh 10))) ab)) ab))) rfl))) (ag (gK (i:=11) nd rfl (Or.inl rfl) (be ab)) (ag (cz PassesOwn.never rfl (cT rfl B.b_range (aK (aO (bw (K:=K) rfl) (by rfl) B.b_len bz (xh 2)) ab)) (gQ (i:=6) nd rfl (Or.inr rfl)) (ag (jT (i:=12) (LN:=["j"]) (FN:=["forms","i"]) (fr:=[9,6]) rfl nd rfl rfl (cR (by rfl)) (cT rfl B.b_range (aK (aO (bw (K:=K) rfl) (by rfl) B.b_len bz (aL (xc K (xc K (pv 2) (pv 6)) aa) ab)) ab)) (fun r r r r r r=>(xl 0 (show ((["j"]:List Str)++(["forms","i"]:List Str)).Nodup by decide +kernel))) (fun r r r r r r=>dh) (fun r r r r r r=>(fW hu1 (pv 1) (ar (xg 2 (xh 0))) (fun r r=>rfl)))) (ak (cx (k_bm (K:=K) rfl PySem.F.plainAttrs_list PySem.F.slot_list_append PySem.F.type_list_append eE (pv 11) (bG (ao (gV (K:=K) rfl) (cJ (gm (K:=K) rfl) (xc K (pv 2) (pv 6)) cK (cE aa)) (ar (aK (cN (fj (K:=K) rfl) (by rfl) B.b_tuple dR (xh 12)) ab))) ab)))))) (ag (cx (k_bm (K:=K) rfl PySem.F.plainAttrs_list PySem.F.slot_list_append PySem.F.type_list_append eE (pv 1) (aT (ar (aK (aO (bw (K:=K) rfl) (by rfl) B.b_len bz (xh 4)) (xg 11 (aT (ar (aj ay ab)) ab)))) ab))) (ak (aB (pv 4))))))))))))))
 refine bE (b0 (fg ?_))
 ac_nf
 intro ly nly
 obtain ⟨L1,r⟩:=L0.fresh nly (c:=.lst []) (fun r=>nofun)
 refine aW ?_
 refine cI (fun Γ' G'=>(∃ v:Int,0<=v/\v<=2/\Γ'=[some (.ptr b),some (.ptr la),some (.lst (fs.map sfT)),some (.ptr kd),some (.ptr ly),some (.int v),none,none,none,none,none,none,none])/\G'=gput G ly (.lst [])) ?_ ?_
 .ac_nf
  refine b9 (sg_p L1.ln) ?_
  ac_nf
  refine cA (fun r=>?_) fun r=>?_
  .ac_nf
   refine bf L1.bag ⟨by decide,by decide⟩ fun v v0 v1=>?_
   ac_nf
   exact ⟨⟨v,v0,by lia,rfl⟩,rfl⟩
  .ac_nf
   exact ⟨⟨0,by decide,by decide,rfl⟩,rfl⟩
 rintro Γ' G' ⟨⟨v,v0,v2,rfl⟩,rfl⟩
 refine cI (fun Γ' G'=>(∃ c6 c7,Γ'=[some (.ptr b),some (.ptr la),some (.lst (fs.map sfT)),some (.ptr kd),some (.ptr ly),some (.int v),c6,c7,none,none,none,none,none])/\∃ lay,LdSt G G' b l la kd [ly] lane (.dt kvs)/\G' ly=some (.lst (lay.map lyT))/\LayOk fs lay/\Cov fs kvs lay fs.length 0) ?_ ?_
 .ac_nf
  refine ⟨fs.length,by rw[af],by lia,by lia,?_⟩
  refine ⟨fun i Γ' G'=>(∃ c6 c7,Γ'=[some (.ptr b),some (.ptr la),some (.lst (fs.map sfT)),some (.ptr kd),some (.ptr ly),some (.int v),c6,c7,none,none,none,none,none])/\∃ lay,LdSt G G' b l la kd [ly] lane (.dt kvs)/\G' ly=some (.lst (lay.map lyT))/\lay.length<=8 * i/\(∀ x∈lay,InFr fs x.1 x.2.1/\x.2.2.natAbs<=2)/\Cov fs kvs lay i 0,⟨⟨_,_,rfl⟩,[],L1,gp_s,bD _,(fun x hx=>by cases hx),fun i' j' s r r h=>by lia⟩,fun r r r r=>trivial,?_,?_⟩
  .rintro i x Γ' G' hx ⟨⟨c6,c7,rfl⟩,lay,L,hly,hl8,hin,cov⟩
   rw[cf] at hx
   obtain ⟨rfl,hi⟩:=hJ hx
   have es:fs[i]?=some fs[i]:=aC hi
   generalize fs[i]=si at es
   have hb8:=bx si (aE es)
   ac_nf
   refine bv (di (n:=i) rfl (by rw[aq,es];rfl)) ?_
   ac_nf
   refine ⟨si.2.2.length,by rw[af],by lia,by lia,?_⟩
   refine ⟨fun j Γ' G'=>(∃ c7,Γ'=[some (.ptr b),some (.ptr la),some (.lst (fs.map sfT)),some (.ptr kd),some (.ptr ly),some (.int v),some (.int (i:Int)),c7,none,none,none,none,none])/\∃ lay,LdSt G G' b l la kd [ly] lane (.dt kvs)/\G' ly=some (.lst (lay.map lyT))/\lay.length<=8 * i+j/\(∀ x∈lay,InFr fs x.1 x.2.1/\x.2.2.natAbs<=2)/\Cov fs kvs lay i j,⟨⟨_,rfl⟩,lay,L,hly,hl8,hin,cov⟩,fun r r r r=>trivial,?_,?_⟩
   .rintro j x Γ' G' hx ⟨⟨c7,rfl⟩,lay,L,hly,hl8,hin,cov⟩
    rw[cf] at hx
    obtain ⟨rfl,hj⟩:=hJ hx
    ac_nf
    refine ⟨_,⟨kd,rfl,.inl ⟨kvs,[.inl (i:Int),.inl (j:Int)],.inl L.kn,rfl,rfl⟩⟩,?_⟩
    ac_nf
    have here:InFr fs (i:Int) (j:Int):=⟨by lia,by lia,si,by simpa using es,by lia⟩
    cases hg:getA kvs [.inl (i:Int),.inl (j:Int)] with
    | some t =>
     refine iteF ?_
     ac_nf
     dsimp only
     refine ca ⟨⟨_,rfl⟩,lay,L,hly,by lia,hin,fun i' j' s' e1 e2 h=>?_⟩
     by_cases e:i'=i/\j'=j
     .obtain ⟨rfl,rfl⟩:=e
      exact .inl (by rw[hg];rfl)
     .exact cov i' j' s' e1 e2 (by lia)
    | none =>
     refine iteT ?_
     have ap:∀ c:Int,c.natAbs<=2->∃ lay',LdSt G (gput G' ly (.lst (lay.map lyT++[lyT (i,j,c)]))) b l la kd [ly] lane (.dt kvs)/\(gput G' ly (.lst (lay.map lyT++[lyT (i,j,c)]))) ly=some (.lst (lay'.map lyT))/\lay'.length<=8 * i+(j+1)/\(∀ x∈lay',InFr fs x.1 x.2.1/\x.2.2.natAbs<=2)/\Cov fs kvs lay' i (j+1):=fun c hc=>by
      refine ⟨lay++[((i:Int),(j:Int),c)],L.put bi (fun r=>nofun),by rw[gp_s,aJ];rfl,by rw[ax];simp;lia,fun x hx=>?_,fun i' j' s' e1 e2 h=>?_⟩
      .rcases aI.mp hx with hx|hx
       .exact hin x hx
       .rw[aU.mp hx];exact ⟨here,hc⟩
      .by_cases e:i'=i/\j'=j
       .obtain ⟨rfl,rfl⟩:=e
        exact .inr ⟨c,by simp⟩
       .rcases cov i' j' s' e1 e2 (by lia) with h|⟨c,h⟩
        .exact .inl h
        .exact .inr ⟨c,cU _ h⟩
     have hl9:lay.length < 1000:=by lia
     ac_nf
     refine ⟨ty_p hly,?_⟩
     ac_nf
     refine cA (fun r=>?_) fun r=>?_
     .ac_nf
      refine bf L.bag ⟨by decide,by decide⟩ fun c c0 c1=>?_
      ac_nf
      refine eJ hly (by rw[af];lia) ?_
      dsimp only
      exact ca ⟨⟨_,rfl⟩,ap (c - 2) (by lia)⟩
     .ac_nf
      refine eJ hly (by rw[af];lia) ?_
      dsimp only
      exact ca ⟨⟨_,rfl⟩,ap 0 (by decide)⟩
   .rintro Γ' G' ⟨⟨c7,rfl⟩,lay,L,hly,hl8,hin,cov⟩
    rw[cf,gw] at hl8 cov
    dsimp only
    refine ca ⟨⟨_,_,rfl⟩,lay,L,hly,by lia,hin,fun i' j' s' e1 e2 h=>cov i' j' s' e1 e2 ?_⟩
    by_cases e:i'=i
    .subst e
     rw[es] at e1;cases e1
     exact .inr ⟨rfl,e2⟩
    .exact .inl (by lia)
  .rintro Γ' G' ⟨⟨c6,c7,rfl⟩,lay,L,hly,hl8,hin,cov⟩
   rw[cf,gw] at hl8 cov
   exact ⟨⟨_,_,rfl⟩,lay,L,hly,⟨by lia,hin⟩,cov⟩
 rintro Γ' G' ⟨⟨c6,c7,rfl⟩,lay,L,hly,lo,cov⟩
 have hl32:=lo.len
 refine cI (fun Γ' G2=>(∃ t:Int,0<=t/\t<=lay.length/\Γ'=[some (.ptr b),some (.ptr la),some (.lst (fs.map sfT)),some (.ptr kd),some (.ptr ly),some (.int v),c6,c7,some (.int t),none,none,none,none])/\G2=G') ?_ ?_
 .ac_nf
  refine cA (fun r=>?_) fun r=>?_
  .ac_nf
   refine bf L.bag ⟨by decide,by decide⟩ fun c c0 c1=>?_
   ac_nf
   refine b9 (sg_p hly) ?_
   ac_nf
   refine l_max ?_
   rw[af]
   have h1:(0:Int) < if (lay.length:Int) > 1 then (lay.length:Int) else 1:=by split <;> lia
   ac_nf
   refine oh h1 ?_
   ac_nf
   have h2:=jD c (Int.ne_of_gt h1)
   have h3:=jE c h1
   have h4:(if (lay.length:Int) > 1 then (lay.length:Int) else 1)=1\/(if (lay.length:Int) > 1 then (lay.length:Int) else 1)=lay.length:=by split <;> simp
   refine ⟨⟨_,h2,?_,rfl⟩,rfl⟩
   generalize (if (lay.length:Int) > 1 then (lay.length:Int) else 1)=M at h2 h3 h4
   lia
  .ac_nf
   exact ⟨⟨0,by lia,by lia,rfl⟩,rfl⟩
 rintro Γ' G2 ⟨⟨t,t0,t1,rfl⟩,rfl⟩
 obtain ⟨lay2,e2,lo2,cov2⟩:∃ lay2,cutT (lay.map lyT) (some t) none++cutT (lay.map lyT) none (some t)=lay2.map lyT/\LayOk fs lay2/\Cov fs kvs lay2 fs.length 0:=by
  have mm:∀ x,x∈lay.drop t.toNat++lay.take t.toNat↔x∈lay:=fun x=>by
   conv=>rhs;rw[<-take_append_drop t.toNat lay]
   simp only[aI];exact Or.comm
  refine ⟨lay.drop t.toNat++lay.take t.toNat,?_,⟨?_,fun x hx=>lo.ok x ((mm x).mp hx)⟩,fun i' j' s' e1 e2 h=>?_⟩
  .rw[oZ t0 (by rw[af];exact t1),gM t0 (by rw[af];exact t1),aJ,map_drop,map_take]
  .rw[ax,gB,dM];lia
  .rcases cov i' j' s' e1 e2 h with h|⟨c,h⟩
   .exact .inl h
   .exact .inr ⟨c,(mm _).mpr h⟩
 ac_nf
 refine gR (si_p hly) ?_
 ac_nf
 refine gR (si_p hly) ?_
 have h40:=lo2.len
 refine fI si_l si_l (by rw[<-ax,e2,af];lia) ?_
 rw[e2]
 refine aW ?_
 clear cov lo e2
 refine bE (b0 (qQ fun fd nfd=>aW ?_))
 obtain ⟨L2,nf1,r⟩:=L.fresh nfd (c:=.dt []) (fun r=>nofun)
 have nfl:fd≠ly:=fun e=>nf1 (by rw[e];exact bi)
 have gf:gput G2 fd (.dt []) fd=some (.dt []):=gp_s
 generalize gput G2 fd (.dt [])=G3 at L2 gf
 refine cI (fun Γ' G'=>(∃ c6 c7,Γ'=[some (.ptr b),some (.ptr la),some (.lst (fs.map sfT)),some (.ptr kd),some (.lst (lay2.map lyT)),some (.int v),c6,c7,some (.int t),some (.ptr fd),none,none,none])/\∃ frm o vs,LdSt G G' b l la kd [fd,ly] lane (.dz o vs kvs)/\G' fd=some (.dt frm)/\FmD lay2.length frm 100/\∀ e∈kvs,(getA frm e.1).isSome=true) ?_ ?_
 .ac_nf
  refine ⟨kd,kvs,rfl,L2.kn,fun o vs=>?_⟩
  refine ⟨fun i Γ' G'=>(∃ c6 c7,Γ'=[some (.ptr b),some (.ptr la),some (.lst (fs.map sfT)),some (.ptr kd),some (.lst (lay2.map lyT)),some (.int v),c6,c7,some (.int t),some (.ptr fd),none,none,none])/\∃ frm,LdSt G G' b l la kd [fd,ly] lane (.dz o vs kvs)/\G' fd=some (.dt frm)/\FmD lay2.length frm i/\∀ e∈kvs.take i,(getA frm e.1).isSome=true,⟨⟨_,_,rfl⟩,[],L2.kput _,by rw[gp_n (fun e=>L2.nb.2.2 (by rw[<-e];exact bi))];exact gf,FmD.nil,fun e he=>by rw[take_zero] at he;cases he⟩,fun r Γ' G' h=>h.2.choose_spec.1.kn,?_,?_⟩
  .rintro i x Γ' G' hx ⟨⟨c6,c7,rfl⟩,frm,L,hf,fd',hall⟩
   rw[aq] at hx
   obtain ⟨p,ep,rfl⟩:=bc.mp hx
   obtain ⟨i',j',c,rfl,hc,r⟩:=kn.ok p (aE ep)
   have hil:=(ba.mp ep).1
   have kl:=kn.len
   obtain ⟨t2,et⟩:=kC.mp (Zl5 (aE ep))
   obtain ⟨i3,j3,c3,e3,hc3,r⟩:=kn.ok _ (pN et)
   have et2:t2=.int c3:=congrArg Prod.snd e3
   subst et2
   refine bX (ds:=[.int i',.int j']) rfl ?_
   ac_nf
   refine o9 ?_
   ac_nf
   refine ⟨_,⟨kd,rfl,.inl ⟨kvs,[.inl i',.inl j'],.inr ⟨o,vs,L.kn⟩,rfl,et.symm⟩⟩,?_⟩
   ac_nf
   refine ⟨fd,frm,[.inl i',.inl j'],rfl,hf,rfl,by have:=fd'.len;lia,?_⟩
   dsimp only
   refine ca ⟨⟨_,_,rfl⟩,_,L.put bi (fun r=>nofun),gp_s,fd'.put (fm:=(c3,[])) (Fo.nil (aR (ft hc3) (by decide))) jS _,fun e he=>?_⟩
   rw[dw,ep] at he
   rcases aI.mp he with he|he
   .exact px (hall e he)
   .have he:e=([.inl i',.inl j'],.int c):=by simpa using he
    rw[he];exact qM
  .rintro Γ' G' ⟨hy,frm,L,hf,fd',hall⟩
   rw[af] at fd' hall
   have kl:=kn.len
   exact ⟨hy,frm,o,vs,L,hf,⟨by have:=fd'.len;lia,fd'.ok⟩,fun e he=>hall e (by rw[dO];exact he)⟩
 rintro Γ' G' ⟨⟨c6',c7',rfl⟩,frm,o,vs,L,hf,fmd,hall⟩
 refine cI (fun Γ' G'=>(∃ c10,Γ'=[some (.ptr b),some (.ptr la),some (.lst (fs.map sfT)),some (.ptr kd),some (.lst (lay2.map lyT)),some (.int v),c6',c7',some (.int t),some (.ptr fd),c10,none,none])/\∃ frm,LdSt G G' b l la kd [fd,ly] lane (.dz o vs kvs)/\G' fd=some (.dt frm)/\FmD lay2.length frm 200/\(∀ e∈kvs,(getA frm e.1).isSome=true)/\∀ x∈lay2,(getA frm [.inl x.1,.inl x.2.1]).isSome=true) ?_ ?_
 .ac_nf
  refine ⟨lay2.length,by rw[af],by lia,by lia,?_⟩
  refine ⟨fun i Γ' G'=>(∃ c10,Γ'=[some (.ptr b),some (.ptr la),some (.lst (fs.map sfT)),some (.ptr kd),some (.lst (lay2.map lyT)),some (.int v),c6',c7',some (.int t),some (.ptr fd),c10,none,none])/\∃ frm,LdSt G G' b l la kd [fd,ly] lane (.dz o vs kvs)/\G' fd=some (.dt frm)/\FmD lay2.length frm (100+i)/\(∀ e∈kvs,(getA frm e.1).isSome=true)/\∀ x∈lay2.take i,(getA frm [.inl x.1,.inl x.2.1]).isSome=true,⟨⟨_,rfl⟩,frm,L,hf,fmd,hall,fun x hx=>by rw[take_zero] at hx;cases hx⟩,fun r r r r=>trivial,?_,?_⟩
  .rintro u x Γ' G' hx ⟨⟨c10,rfl⟩,frm,L,hf,fmd,hall,hal2⟩
   rw[cf] at hx
   obtain ⟨rfl,hu⟩:=hJ hx
   have ex:lay2[u]?=some lay2[u]:=aC hu
   generalize lay2[u]=y at ex
   have hat:atI (lay2.map lyT) (u:Int)=some (lyT y):=di (n:=u) rfl (by rw[aq,ex];rfl)
   ac_nf
   refine o9 ?_
   ac_nf
   refine bv hat ?_
   ac_nf
   refine bv hat ?_
   ac_nf
   refine gp ?_
   rw[gM (by decide) (by simp)]
   refine ⟨fd,frm,[.inl y.1,.inl y.2.1],rfl,hf,rfl,by have:=fmd.len;lia,?_⟩
   dsimp only
   refine ca ⟨⟨_,rfl⟩,_,L.put bi (fun r=>nofun),gp_s,fmd.put (fm:=(y.2.2,[(1,(u:Int))])) (lI (lo2.ok y (aE ex)).2 hu) om _,fun e he=>px (hall e he),fun z hz=>?_⟩
   rw[dw,ex] at hz
   rcases aI.mp hz with hz|hz
   .exact px (hal2 z hz)
   .have hz:z=y:=by simpa using hz
    rw[hz];exact qM
  .rintro Γ' G' ⟨hy,frm,L,hf,fmd,hall,hal2⟩
   rw[cf,gw] at fmd hal2
   exact ⟨hy,frm,L,hf,⟨by have:=fmd.len;lia,fmd.ok⟩,hall,fun x hx=>hal2 x (by rw[dO];exact hx)⟩
 rintro Γ' G' ⟨⟨c10,rfl⟩,frm,L,hf,fmd,hall,hal2⟩
 have all:∀ (i j:Nat) s',fs[i]?=some s'->j < s'.2.2.length->∃ fm,getA frm [.inl (i:Int),.inl (j:Int)]=some (fmT fm)/\Fo lay2.length (10 ^ 60) fm/\Cano fm:=fun i j s' e1 e2=>by
  have hs:(getA frm [.inl (i:Int),.inl (j:Int)]).isSome=true:=by
   rcases cov2 i j s' e1 e2 (.inl (ba.mp e1).1) with h|⟨c,h⟩
   .obtain ⟨t',ht⟩:=kC.mp h
    exact hall _ (pN ht)
   .exact hal2 _ h
  obtain ⟨t',ht⟩:=kC.mp hs
  obtain ⟨fm,rfl,h1,h2⟩:=fmd.ok _ _ ht
  exact ⟨fm,ht,h1,h2⟩
 refine bE (b0 (fg ?_))
 ac_nf
 intro pd npd
 obtain ⟨L5,np1,r⟩:=L.fresh npd (c:=.lst []) (fun r=>nofun)
 have npf:pd≠fd:=fun e=>np1 (by rw[e];exact bi)
 have gf5:gput G' pd (.lst []) fd=some (.dt frm):=by rw[gp_n npf.symm];exact hf
 have gp5:gput G' pd (.lst []) pd=some (.lst ([].map sfT)):=gp_s
 generalize gput G' pd (.lst [])=G5 at L5 gf5 gp5
 refine aW ?_
 refine cI (fun Γ' G'=>(∃ c6 c12,Γ'=[some (.ptr b),some (.ptr la),some (.lst (fs.map sfT)),some (.ptr kd),some (.lst (lay2.map lyT)),some (.int v),c6,c7',some (.int t),some (.ptr fd),c10,some (.ptr pd),c12])/\∃ pap:List SF,LdSt G G' b l la kd [pd,fd,ly] lane (.dz o vs kvs)/\G' pd=some (.lst (pap.map sfT))/\pap.length=fs.length/\∀ (i:Nat) t s',pap[i]?=some t->fs[i]?=some s'->t.1=s'.1/\t.2.1=s'.2.1/\t.2.2.length=s'.2.2.length/\∀ g∈t.2.2,Fo lay2.length (10 ^ 60) g/\Cano g) ?_ ?_
 .ac_nf
  refine ⟨fs.length,by rw[af],by lia,by lia,?_⟩
  refine ⟨fun i Γ' G'=>(∃ c6 c12,Γ'=[some (.ptr b),some (.ptr la),some (.lst (fs.map sfT)),some (.ptr kd),some (.lst (lay2.map lyT)),some (.int v),c6,c7',some (.int t),some (.ptr fd),c10,some (.ptr pd),c12])/\∃ pap:List SF,LdSt G G' b l la kd [pd,fd,ly] lane (.dz o vs kvs)/\G' fd=some (.dt frm)/\G' pd=some (.lst (pap.map sfT))/\pap.length=i/\∀ (i:Nat) t s',pap[i]?=some t->fs[i]?=some s'->t.1=s'.1/\t.2.1=s'.2.1/\t.2.2.length=s'.2.2.length/\∀ g∈t.2.2,Fo lay2.length (10 ^ 60) g/\Cano g,⟨⟨_,_,rfl⟩,[],L5,gf5,gp5,rfl,fun i t s' e=>by cases e⟩,fun r r r r=>trivial,?_,?_⟩
  .rintro i x Γ' G' hx ⟨⟨c6,c12,rfl⟩,pap,L,hf,hp,hpl,hpa⟩
   rw[cf] at hx
   obtain ⟨rfl,hi⟩:=hJ hx
   have es:fs[i]?=some fs[i]:=aC hi
   generalize fs[i]=si at es
   have hb8:=bx si (aE es)
   have hat:atI (fs.map sfT) (i:Int)=some (sfT si):=di (n:=i) rfl (by rw[aq,es];rfl)
   obtain ⟨fms,fl,fa⟩:=sk (R:=fun j fm=>getA frm [.inl (i:Int),.inl (j:Int)]=some (fmT fm)/\Fo lay2.length (10 ^ 60) fm/\Cano fm) si.2.2.length fun j hj=>all i j si es hj
   ac_nf
   refine dF (fun Γ'=>∃ c,Γ'=[c,some (.ptr fd),some (.int (i:Int))]) ?_
   ac_nf
   refine bv hat ?_
   ac_nf
   refine ⟨si.2.2.length,by rw[af],by lia,by lia,by rw[cf,gw];lia,trivial,⟨none,rfl⟩,fms.map fmT,by rw[af,cf,gw];exact fl,?_,?_⟩
   .rintro j x y Γ' hx hy ⟨c,rfl⟩
    rw[cf] at hx
    obtain ⟨rfl,hj⟩:=hJ hx
    rw[aq] at hy
    obtain ⟨fm,ef,rfl⟩:=bc.mp hy
    ac_nf
    refine ⟨⟨_,rfl⟩,rfl,?_⟩
    ac_nf
    refine ⟨_,⟨fd,rfl,.inl ⟨frm,[.inl (i:Int),.inl (j:Int)],.inl hf,rfl,(fa j fm ef).1.symm⟩⟩,rfl,rfl⟩
   ac_nf
   refine ⟨ty_p hp,?_⟩
   ac_nf
   refine bv hat ?_
   ac_nf
   refine gp ?_
   rw[gM (by decide) (by simp)]
   ac_nf
   refine e8 sg_l (fun r=>nofun) ?_
   ac_nf
   refine gc (by simp) ?_
   ac_nf
   refine eJ hp (by rw[af];lia) ?_
   dsimp only
   refine ca ⟨⟨_,_,rfl⟩,pap++[(si.1,si.2.1,fms)],L.put bi (fun r=>nofun),by rw[gp_n npf.symm];exact hf,by rw[gp_s,aJ];rfl,by rw[ax,hpl];rfl,fun i' t' s' e1 e2=>?_⟩
   rcases cG e1 with ⟨r,e1⟩|⟨e3,e4⟩
   .exact hpa i' t' s' e1 e2
   .rw[e3,hpl,es] at e2
    cases e2
    rw[e4]
    refine ⟨rfl,rfl,fl,fun g hg=>?_⟩
    obtain ⟨j,hj⟩:=eB.mp hg
    exact (fa j g hj).2
  .rintro Γ' G' ⟨hy,pap,L,hf,hp,hpl,hpa⟩
   rw[cf,gw] at hpl
   exact ⟨hy,pap,L,hp,hpl,hpa⟩
 rintro Γ' G' ⟨⟨c6,c12,rfl⟩,pap,L,hp,hpl,hpa⟩
 have ppk:PpK Q lay2.length pap:=pap_ok fo (by lia) (by rw[hpl,hfs]) (by rw[hfs];exact hpa)
 have hG:G'=gput (gdel G' pd) pd (.lst (pap.map sfT)):=by
  funext x;unfold gput gdel
  by_cases e:x=pd
  .rw[ah e,e];exact hp
  .rw[ai e,ai e]
 have ndl:gdel G' pd pd=none:=by unfold gdel;rw[ah rfl]
 have L6:=L.del np1
 rw[hG]
 refine ws_frz (i:=11) rfl ndl ?_
 generalize gdel G' pd=G6 at L6
 ac_nf
 refine ⟨ty_p L6.ln,?_⟩
 ac_nf
 refine eJ L6.ln (by rw[af];lia) ?_
 ac_nf
 have L7:=L6.app (lane++[⟨lay2.length,pap,.tup [.str "leave"]⟩])
 rw[af]
 have e7:(lane++[(⟨lay2.length,pap,.tup [.str "leave"]⟩:StL)]).map stT=lane.map stT++[.tup [.int lay2.length,.lst (pap.map sfT),.tup [.str "leave"]]]:=by rw[aJ];rfl
 rw[<-e7]
 exact L7.fin (aw (q lay2 ⟨lay2.length,pap,.tup [.str "leave"]⟩ (.dz o vs kvs) lo2 ppk (.tup (by simp) fun u hu=>by rw[aU.mp hu];exact .str) (fun r=>nofun)))
def LnG (Q:List Df) (lane:List StL) (kvs:List (Key×T)) (lane':List StL) (kvs':List (Key×T)):Prop:=LnK Q lane' kvs'/\∃ ex:List StL,lane'=lane++ex/\ex.length<=1
def uG:Pre:=fun ts G k=>∃ (la kd:Addr) (Q:List Df) (n B:Nat) (f:List SF) (s:SF) (lane:List StL) (kvs:List (Key×T)),ts=[.ptr la,.ptr kd,.lst ((f++[s]).map sfT)]/\G la=some (.lst (lane.map stT))/\G kd=some (.dk kvs)/\PgK Q/\FrsOk Q n B f s/\bR (f++[s])/\n < 64/\lane.length<=900/\LnK Q lane kvs/\k .non G/\∀ (mv:T) (k':Nat) (lane':List StL) (kvs':List (Key×T)),PlD 4 mv->k' < lane'.length->LnG Q lane kvs lane' kvs'->k (.tup [mv,.int k']) (gput (gput G la (.lst (lane'.map stT))) kd (.dk kvs'))
theorem oN {P:Program} {w:World} {K:W.Frag} {G:GH} {k:T->GH->Prop} {i:Int} (h:k (.int (i.natAbs:Int)) G):LNr P w K rAbs [.int i] G k:=fun H us g r Q z=>by
 cases r with|cons r1 r2=>cases r1;cases r2;exact ⟨i,rfl,by have e:(if i < 0 then -i else i)=(i.natAbs:Int):=(by split <;> lia);rw[e];exact z.here g .int h⟩
theorem m3:CPow 10 60:=⟨by decide,by decide,by decide⟩
def FmL (m:Int) (g:Fm):Prop:=g.1.natAbs < 10 ^ 60/\∀ p∈g.2,p.1.natAbs < 10 ^ 60/\p.2 < m
theorem FmL.up {m m':Int} {g:Fm} (h:FmL m g) (l:m<=m'):FmL m' g:=⟨h.1,fun p hp=>⟨(h.2 p hp).1,Int.lt_of_lt_of_le (h.2 p hp).2 l⟩⟩
theorem c60:(10:Int) ^ (60:Int).toNat=((10 ^ 60:Nat):Int):=by decide
theorem gX {n:Nat} {i:Int} (h:i.natAbs < 10 ^ 90):PlT n (.int i):=by cases n with|zero=>exact ⟨i,rfl,h⟩|succ n=>exact .inl ⟨i,rfl,h⟩
theorem n6 {n:Nat} {x y:T} (h1:PlT n x) (h2:PlT n y):PlT (n+1) (.tup [x,y]):=.inr ⟨_,.inl rfl,fun u hu=>by
 simp only[aG,cp,cW] at hu
 rcases hu with rfl|rfl
 .exact h1
 .exact h2⟩
theorem plt_fm {m:Int} {g:Fm} (h:FmL m g) (hw:∀ p∈g.2,0<=p.2/\p.2 < 64) (hl:g.2.length < 64):PlT 3 (fmT g)/\lnT (fmT g)<=14000:=by
 have lt:∀ {i:Int},i.natAbs < 10 ^ 60->i.natAbs < 10 ^ 90:=fun h=>dv h (by decide)
 refine ⟨n6 (gX (lt h.1)) (.inr ⟨_,.inl rfl,fun u hu=>?_⟩),?_⟩
 .obtain ⟨p,hp,rfl⟩:=bg.mp hu
  have:=hw p hp
  exact n6 (gX (lt (h.2 p hp).1)) (gX (lt (by lia)))
 .have:lnTs (g.2.map prT)<=(g.2.map prT).length * (208+2):=kt fun t ht=>by
   obtain ⟨p,j,rfl⟩:=bg.mp ht
   simp[lnT,lnTs]
  rw[af] at this
  simp only[lnT,lnTs]
  lia
theorem Zi9 {Q:List Df} (pk:PgK Q) {n B:Nat} (hn:n < 64) {m:Int} {fs:List SF} (few:fs.length<=4) (sok:∀ t∈fs,SfOk Q n B t) (hm:∀ t∈fs,∀ g∈t.2.2,FmL m g):PlT 6 (.lst (fs.map sfT))/\lnT (.lst (fs.map sfT))<=1000000:=by
 have one:∀ t∈fs,PlT 5 (sfT t)/\lnT (sfT t)<=113000:=fun t ht=>by
  obtain ⟨d,r,hd,a2,j,a4,a1,a3,a5⟩:=dX (sok t ht)
  have b1:=(ba.mp a2).1
  have b2:=(ba.mp a4).1
  have b3:=pk.ok.2.1
  have b4:=(pk.ok.2.2 d hd).n
  have b5:=pk.b d hd
  have lt:∀ {i:Int},0<=i->i.toNat < 1000->i.natAbs < 10 ^ 90:=fun h1 h2=>dv (show _ < 1000 by lia) (by decide)
  have fm:∀ g∈t.2.2,PlT 3 (fmT g)/\lnT (fmT g)<=14000:=fun g hg=>by
   have hf:=(sok t ht).fm g hg
   have:=mF hf
   exact plt_fm (hm t ht g hg) (fun p hp=>⟨(hf.w p hp).1,by have:=(hf.w p hp).2;lia⟩) (by lia)
  refine ⟨.inr ⟨_,.inl rfl,fun u hu=>?_⟩,?_⟩
  .simp only[aG,cp,cW] at hu
   rcases hu with rfl|rfl|rfl
   .exact gX (lt a1 (by lia))
   .exact gX (lt a3 (by lia))
   .exact .inr ⟨_,.inl rfl,fun u hu=>by obtain ⟨g,hg,rfl⟩:=bg.mp hu;exact (fm g hg).1⟩
  .have:lnTs (t.2.2.map fmT)<=(t.2.2.map fmT).length * (14000+2):=kt fun x hx=>by
    obtain ⟨g,hg,rfl⟩:=bg.mp hx
    exact (fm g hg).2
   rw[af] at this
   simp only[lnT,lnTs]
   lia
 refine ⟨.inr ⟨_,.inr rfl,fun u hu=>by obtain ⟨t,ht,rfl⟩:=bg.mp hu;exact (one t ht).1⟩,?_⟩
 have:lnTs (fs.map sfT)<=(fs.map sfT).length * (113000+2):=kt fun x hx=>by
  obtain ⟨t,ht,rfl⟩:=bg.mp hx
  exact (one t ht).2
 rw[af] at this
 simp only[lnT]
 lia
theorem sc__law_as_is:FnScope ["lane","keys","frames","many","f","at","forms","c","parts","key"] ["lane","keys","frames"] (aD k7):=by walk_at"fs"
theorem Zhq (B:Blt mg) (T__law_as_is:TopFn K mg "_law_as_is" k7 ["lane","keys","frames"]) (Za9:Callee P w K mg base "_law_words" 1 ["many"] (spG P w K mR)):Callee P w K mg base "_law_as_is" 2 ["lane","keys","frames"] (spG P w K uG):=by
 refine T__law_as_is.okG sc__law_as_is (by walk_at"lnx") fun f cdv A outer s H E ts G k hr hh=>?_
 have nd:=sc__law_as_is.nd
 have hu1:=iG hr
 have hu:=hr.units
 obtain ⟨la,kd,Q,n,B',f,s,lane,kvs,rfl,hla,hkd,pk,fo,cn,hn,hlen,lk,q0,q⟩:=hh
 generalize hfs:f++[s]=fs at cn
 have few:fs.length<=4:=by rw[<-hfs,ax];have:=fo.few;simp;lia
 have sok:∀ t∈fs,SfOk Q n B' t:=fun t ht=>fo.all t (by rw[hfs];exact ht)
 have bx:∀ t∈fs,t.2.2.length<=8:=fun t ht=>gu pk (sok t ht)
 refine' go_G [some (.ptr la),some (.ptr kd),some (.lst (fs.map sfT)),none,none,none,none,none,none,none] rfl ?hb ?hg
 case hb=>exact (ag (cv (i:=3) nd rfl (Or.inl rfl) aa) (ag (cz PassesOwn.never rfl (dI (K:=K) rfl (pv 2)) (cb (K:=K) (n:=3) rfl rfl (aF (xl 4 nd) (aF (xl 5 nd) (aF (xl 6 nd) bQ)))) (ak (cz PassesOwn.never rfl (dE (K:=K) rfl (pv 6)) (cb (K:=K) (n:=2) rfl rfl (aF (xl 7 nd) (aF (xl 8 nd) bQ))) (ag (aH (av op_ge (aO (uL (K:=K) rfl rfl) (by rfl) B.b_max qf (bG (ao de (be (aK (aO mD (by rfl) B.b_abs lM (xh 7)) ab)) (eY (LN:=["a","w"]) (FN:=[]) (fr:=[]) rfl (cR (by rfl)) (dE (K:=K) rfl (pv 8)) (fun z z z z z z=>(cb (K:=K) (n:=2) rfl rfl (aF (xl 0 (show ((["a","w"]:List Str)++([]:List Str)).Nodup by decide +kernel)) (aF (xl 1 (show ((["a","w"]:List Str)++([]:List Str)).Nodup by decide +kernel)) bQ)))) (fun z z z z z z=>dh) (fun z z z z z z=>(aO mD (by rfl) B.b_abs lM (xh 0))))) ab)) (ao km aa aa) (au _)) (ak (aB fq)) a8) (ak (bL (i:=3) nd rfl (Or.inl rfl) (aO (uL (K:=K) rfl rfl) (by rfl) B.b_max qf (bG (ao de (be (xh 3)) (eY (LN:=["a","w"]) (FN:=[]) (fr:=[]) rfl (cR (by rfl)) (dE (K:=K) rfl (pv 8)) (fun z z z z z z=>(cb (K:=K) (n:=2) rfl rfl (aF (xl 0 (show ((["a","w"]:List Str)++([]:List Str)).Nodup by decide +kernel)) (aF (xl 1 (show ((["a","w"]:List Str)++([]:List Str)).Nodup by decide +kernel)) bQ)))) (fun z z z z z z=>dh) (fun z z z z z z=>(ao br (pv 1) aa)))) ab)))))))) (ag (aH (av fi (pv 3) aa (au _)) (ak (aB fq)) a8) (ag (bL (i:=9) nd rfl (Or.inl rfl) (cN (qX (K:=K) hr.gd hr.units) (by rfl) B.b_str ke (xh 2))) (ag (aH (oe (pj hu1 (pv 9) (pv 1))) (ag (f6 hu1 (pv 1) (pv 9) (ar (aK (aO (bw (K:=K) rfl) (by rfl) B.b_len bz (xh 0)) (iy (be ab) ab))) rfl) (ak (cx (k_bm (K:=K) rfl PySem.F.plainAttrs_list PySem.F.slot_list_append PySem.F.type_list_append eE (pv 0) (aT (ar (xg 3 (aK (cN (nZ (K:=K) rfl) (by rfl) B.b_list gP (xh 2)) (aT (ar (aj ay ab)) ab)))) ab))))) a8) (ak (aB (ar (aK (cN (fj (K:=K) rfl) (by rfl) B.b_tuple dR (aK (xj Za9 hr.m (xh 3)) ab)) (aL (xc K (fW hu1 (pv 1) (pv 9) (fun z z=>rfl)) aa) ab))))))))))
 refine bE (b0 (fZ (aW ?_)))
 refine cI (fun Γ' G'=>(∃ m c4 c5 c6 c7 c8,(0:Int)<=m/\m<=n/\(∀ t∈fs,∀ g∈t.2.2,FmL m g)/\Γ'=[some (.ptr la),some (.ptr kd),some (.lst (fs.map sfT)),some (.int m),c4,c5,c6,c7,c8,none])/\G'=G) ?_ ?_
 .ac_nf
  refine ⟨_,si_l,fun i Γ' G'=>(∃ m c4 c5 c6 c7 c8,(0:Int)<=m/\m<=n/\(∀ t∈fs.take i,∀ g∈t.2.2,FmL m g)/\Γ'=[some (.ptr la),some (.ptr kd),some (.lst (fs.map sfT)),some (.int m),c4,c5,c6,c7,c8,none])/\G'=G,⟨⟨0,_,_,_,_,_,by decide,by lia,(fun t ht=>by rw[take_zero] at ht;cases ht),rfl⟩,rfl⟩,fun z z z z=>si_l,?_,?_⟩
  .rintro i x Γ' G' hx ⟨⟨m,c4,c5,c6,c7,c8,m0,m1,hm,rfl⟩,rfl⟩
   rw[aq] at hx
   obtain ⟨si,es,rfl⟩:=bc.mp hx
   have hsi:=sok si (aE es)
   refine bX rfl ?_
   ac_nf
   refine ⟨_,rfl,fun j Γ' G2=>(∃ m c7 c8,(0:Int)<=m/\m<=n/\(∀ t∈fs.take i,∀ g∈t.2.2,FmL m g)/\(∀ g∈si.2.2.take j,FmL m g)/\Γ'=[some (.ptr la),some (.ptr kd),some (.lst (fs.map sfT)),some (.int m),some (.int si.1),some (.int si.2.1),some (.tup (si.2.2.map fmT)),c7,c8,none])/\G2=G',⟨⟨m,_,_,m0,m1,hm,(fun g hg=>by rw[take_zero] at hg;cases hg),rfl⟩,rfl⟩,fun z z z z=>trivial,?_,?_⟩
   .rintro j x Γ' G2 hx ⟨⟨m,c7,c8,m0,m1,hm,hm2,rfl⟩,rfl⟩
    rw[aq] at hx
    obtain ⟨g,eg,rfl⟩:=bc.mp hx
    have hg:=hsi.fm g (aE eg)
    have gl:=mF hg
    refine bX rfl ?_
    ac_nf
    refine oN ?_
    ac_nf
    refine dF (fun Γ'=>∃ a b,Γ'=[a,b]) ?_
    ac_nf
    refine ⟨_,rfl,by rw[af];lia,trivial,⟨none,none,rfl⟩,(g.2.map fun p=>(p.1.natAbs:Int)).map T.int,by rw[af,af,af],?_,?_⟩
    .rintro u x y Γ' hx hy ⟨a,b,rfl⟩
     rw[aq] at hx
     obtain ⟨p,ep,rfl⟩:=bc.mp hx
     rw[aq,aq,ep] at hy
     cases hy
     refine bX rfl ?_
     ac_nf
     refine ⟨⟨_,_,rfl⟩,rfl,?_⟩
     ac_nf
     refine oN ?_
     exact ⟨rfl,rfl⟩
    refine fI (ts:=[.int (g.1.natAbs:Int)]) si_l si_l (by simp;lia) ?_
    refine d8 ?_
    refine rB (ns:=(g.1.natAbs:Int)::g.2.map fun p=>(p.1.natAbs:Int)) (by simp) fun M hM hx=>?_
    ac_nf
    refine l_IC m3 ?_
    rw[c60]
    ac_nf
    refine cA (fun z=>?_) fun hlt=>?_
    .ac_nf
     exact aw q0
    have hg1:g.1.natAbs < 10 ^ 60/\∀ p∈g.2,p.1.natAbs < 10 ^ 60:=by
     refine ⟨?_,fun p hp=>?_⟩
     .have:=hx _ bi
      lia
     .have:=hx (p.1.natAbs:Int) (bH _ (bg.mpr ⟨p,hp,rfl⟩))
      lia
    ac_nf
    refine dF (fun Γ'=>∃ a b,Γ'=[a,b]) ?_
    ac_nf
    refine ⟨_,rfl,by rw[af];lia,trivial,⟨none,none,rfl⟩,(g.2.map fun p=>p.2+1).map T.int,by rw[af,af,af],?_,?_⟩
    .rintro u x y Γ' hx hy ⟨a,b,rfl⟩
     rw[aq] at hx
     obtain ⟨p,ep,rfl⟩:=bc.mp hx
     rw[aq,aq,ep] at hy
     cases hy
     refine bX rfl ?_
     ac_nf
     refine ⟨⟨_,_,rfl⟩,rfl,?_⟩
     ac_nf
     exact ⟨rfl,rfl⟩
    refine fI (ts:=[.int m]) si_l si_l (by simp;lia) ?_
    refine d8 ?_
    refine rB (ns:=m::g.2.map fun p=>p.2+1) (by simp) fun M2 hM2 hx2=>?_
    have mM:m<=M2:=hx2 _ bi
    refine aW ?_
    dsimp only
    refine ca ⟨⟨M2,_,_,by lia,?_,fun t ht g' hg'=>(hm t ht g' hg').up mM,fun g' hg'=>?_,rfl⟩,rfl⟩
    .rcases aG.mp hM2 with e|e
     .lia
     .obtain ⟨p,hp,rfl⟩:=bg.mp e
      have:=(hg.w p hp).2
      lia
    .rw[dw,eg] at hg'
     rcases aI.mp hg' with hg'|hg'
     .exact (hm2 g' hg').up mM
     .have hg':g'=g:=by simpa using hg'
      rw[hg']
      refine ⟨hg1.1,fun p hp=>⟨hg1.2 p hp,?_⟩⟩
      have:=hx2 (p.2+1) (bH _ (bg.mpr ⟨p,hp,rfl⟩))
      lia
   .rintro Γ' G2 ⟨⟨m,c7,c8,m0,m1,hm,hm2,rfl⟩,rfl⟩
    rw[af,dO] at hm2
    dsimp only
    refine ca ⟨⟨m,_,_,_,_,_,m0,m1,fun t ht=>?_,rfl⟩,rfl⟩
    rw[dw,es] at ht
    rcases aI.mp ht with ht|ht
    .exact hm t ht
    .have ht:t=si:=by simpa using ht
     rw[ht];exact hm2
  .rintro Γ' G' ⟨⟨m,c4,c5,c6,c7,c8,m0,m1,hm,rfl⟩,rfl⟩
   rw[af,dO] at hm
   exact ⟨⟨m,_,_,_,_,_,m0,m1,hm,rfl⟩,rfl⟩
 rintro Γ' G' ⟨⟨m,c4,c5,c6,c7,c8,m0,m1,hm,rfl⟩,rfl⟩
 obtain ⟨pl1,pl2⟩:=Zi9 pk hn few sok hm
 ac_nf
 refine cA (fun z=>?_) fun h40=>?_
 .ac_nf
  exact aw q0
 obtain ⟨M,rfl⟩:∃ M:Nat,m=M:=⟨m.toNat,by lia⟩
 have ppk:PpK Q M fs:=by
  refine ⟨by lia,⟨f,s,hfs.symm,fo.few,fun t ht=>⟨(fo.all t ht).ex,fun g hg=>?_⟩,fo.call⟩,cn⟩
  have hf:=(fo.all t ht).fm g hg
  have hg':=hm t (by rw[<-hfs];exact ht) g hg
  exact ⟨ft hg'.1,fun p hp=>ft (hg'.2 p hp).1,fun p hp=>⟨(hf.w p hp).1,(hg'.2 p hp).2⟩,hf.nd⟩
 ac_nf
 refine rH pl1 ⟨_,.inr rfl⟩ (by decide) pl2 ?_
 refine aW ?_
 generalize shT (.lst (fs.map sfT))=key
 have nkl:kd≠la:=fun e=>by rw[e,hla] at hkd;cases hkd
 refine cI (fun Γ' G2=>Γ'=[some (.ptr la),some (.ptr kd),some (.lst (fs.map sfT)),some (.int (M:Int)),c4,c5,c6,c7,c8,some (.str key)]/\∃ (lane':List StL) (kvs':List (Key×T)) (k':Nat) (lay:List T),G2=gput (gput G' la (.lst (lane'.map stT))) kd (.dk kvs')/\LnG Q lane kvs lane' kvs'/\getA kvs' (.inr key:Key)=some (.tup [.int k',.lst lay])/\k' < lane'.length) ?_ ?_
 .ac_nf
  refine ⟨_,⟨kd,rfl,.inr ⟨kvs,key,hkd,rfl,rfl⟩⟩,?_⟩
  ac_nf
  cases hg:getA kvs (.inr key:Key) with
  | some t =>
   refine iteF ?_
   ac_nf
   obtain ⟨k',lay,rfl,e2,z⟩:=lk.at hg
   exact ⟨rfl,lane,kvs,k',_,by rw[fO hla,fO hkd],⟨lk,[],by simp,by simp⟩,hg,e2⟩
  | none =>
   refine iteT ?_
   refine bE (uQ ?_)
   ac_nf
   refine b9 (sg_p hla) ?_
   rw[af]
   ac_nf
   refine ⟨kd,kvs,key,rfl,hkd,rfl,by have:=lk.kl;lia,?_⟩
   have hla2:gput G' kd (.dk (putA kvs (.inr key) (.tup [.int lane.length,.lst []]))) la=some (.lst (lane.map stT)):=by rw[gp_n nkl.symm];exact hla
   ac_nf
   refine ⟨ty_p hla2,?_⟩
   ac_nf
   refine tT sg_l ?_
   ac_nf
   refine eJ hla2 (by rw[af];lia) ?_
   have ln:=lk.snoc (d:=⟨M,fs,.tup [.str "leave"]⟩) ppk (.tup (by simp) fun u hu=>by rw[aU.mp hu];exact .str) hg (lay:=[]) (.inl rfl)
   refine ⟨rfl,lane++[⟨M,fs,.tup [.str "leave"]⟩],_,lane.length,[],?_,⟨ln,[_],rfl,by simp⟩,by rw[jU,ah rfl];rfl,by rw[ax];simp⟩
   rw[gp_c nkl,aJ]
   rfl
 rintro Γ' G2 ⟨rfl,lane',kvs',k',lay,rfl,lg,hg,hk⟩
 ac_nf
 refine ⟨M,rfl,by lia,fun a na=>?_⟩
 refine d8 (e8 (sg_p gp_s) (fun z=>nofun) ?_)
 have nak:kd≠a:=g_ne (c:=.dk kvs') gp_s na
 ac_nf
 refine ⟨_,⟨kd,rfl,.inr ⟨kvs',key,by rw[gp_n nak];exact gp_s,rfl,hg.symm⟩⟩,?_⟩
 ac_nf
 refine eI na (fun z=>nofun) (aw (q _ k' lane' kvs' ?_ hk lg))
 refine tz (by unfold bZ;simp;lia) fun g hg=>?_
 unfold bZ at hg
 obtain ⟨j,z,rfl⟩:=bg.mp hg
 simp[ofW]
theorem eD {b:Bool} {A B:Prop} (h1:b=true->A) (h2:b=false->B):if b=true then A else B:=by cases b with|true=>exact iteT (h1 rfl)|false=>exact iteF (h2 rfl)
theorem lG {P:Program} {w:World} {K:W.Frag} {c:TT} {Γ:Ev} {G:GH} {k1 k2:Bool->GH->Prop} (h:Wt P w K c Γ G k1) (m:∀ b G',k1 b G'->k2 b G'):Wt P w K c Γ G k2:=fun H Z g ev Q z=>h H Z g ev Q fun b H' G' s g' q=>z b H' G' s g' (m b G' q)
theorem ZnN {P:Program} {w:World} {K:W.Frag} {G:GH} {k:T->GH->Prop} {x y:Str} (hz:x.length+y.length<=sizeLine) (h:k (.str (x++y)) G):L2r P w K rAddS (.str x) (.str y) G k:=fun H u v g r1 r2 Q z=>by cases r1;cases r2;exact ⟨x,y,rfl,rfl,hz,z.here g .str h⟩
def gA (fs:List SF) (x:L3i):Fm:=((fs[x.1.toNat]?).map fun s=>gtF s x.2.1).getD (0,[])
theorem gA_at {fs:List SF} {x:L3i} (h:InFr fs x.1 x.2.1):∃ s,fs[x.1.toNat]?=some s/\s.2.2[x.2.1.toNat]?=some (gA fs x):=by
 obtain ⟨h0,h1,s,es,hl⟩:=h
 refine ⟨s,es,?_⟩
 unfold gA gtF
 rw[es,qu,Option.getD_some,eA,aC (by lia)];rfl
theorem cpow9:CPow 10 9:=⟨by decide,by decide,by decide⟩
theorem pow9:(10:Int) ^ (9:Int).toNat=((10 ^ 9:Nat):Int):=by decide
def pV:Pre:=fun ts G k=>∃ (b l la kd:Addr) (Q:List Df) (n B:Nat) (f:List SF) (s:SF) (lane:List StL) (kvs:List (Key×T)),ts=[.ptr b,.ptr la,.ptr kd,.lst ((f++[s]).map sfT)]/\G b=some (.bag l)/\G la=some (.lst (lane.map stT))/\G kd=some (.dk kvs)/\PgK Q/\FrsOk Q n B f s/\bR (f++[s])/\n < 64/\B<=10 ^ 800/\lane.length<=890/\LnK Q lane kvs/\∀ (mv:T) (k':Nat) (lane':List StL) (kvs':List (Key×T)),PlD 4 mv->k' < lane'.length->LnG Q lane kvs lane' kvs'->k (.tup [mv,.int k']) (gput (gput G la (.lst (lane'.map stT))) kd (.dk kvs'))
theorem sc__law_target:FnScope ["bag","lane","keys","frames","found","known","i","j","c","parts","key","k","layout"] ["bag","lane","keys","frames"] (aD mJ):=by walk_at"fs"
theorem Zgz (B:Blt mg) (T__law_target:TopFn K mg "_law_target" mJ ["bag","lane","keys","frames"]) (Zaf:Callee P w K mg base "_law_draw" 1 ["bag","many"] dH) (ZdO:Callee P w K mg base "_law_as_is" 2 ["lane","keys","frames"] (spG P w K uG)) (Zen:Callee P w K mg base "_law_laid" 2 ["bag","lane","frames","known"] (spG P w K r9)) (Za4:Callee P w K mg base "_law_sum" 1 ["one","other","n"] (spG P w K j5)):Callee P w K mg base "_law_target" 3 ["bag","lane","keys","frames"] (spG P w K pV):=by
 refine T__law_target.okG sc__law_target (by walk_at"lnx") fun f cdv A outer s H E ts G k hr hh=>?_
 have nd:=sc__law_target.nd
 have hu1:=iG hr
 have hu:=hr.units
 obtain ⟨b,l,la,kd,Q,n,B',f,s,lane,kvs,rfl,hb,hla,hkd,pk,fo,cn,hn,hB,hlen,lk,q⟩:=hh
 generalize hfs:f++[s]=fs
 have few:fs.length<=4:=by rw[<-hfs,ax];have:=fo.few;simp;lia
 have sok:∀ t∈fs,SfOk Q n B' t:=fun t ht=>fo.all t (by rw[hfs];exact ht)
 have bx:∀ t∈fs,t.2.2.length<=8:=fun t ht=>gu pk (sok t ht)
 refine' go_G [some (.ptr b),some (.ptr la),some (.ptr kd),some (.lst (fs.map sfT)),none,none,none,none,none,none,none,none,none] rfl ?hb ?hg
 case hb=>exact (ag (aH (PW.pt (bU (av aM (xj Zaf hr.m (xg 0 (aj aa ab))) aa (au _)) (bU (av fi (aO (bw (K:=K) rfl) (by rfl) B.b_len bz (xh 1)) aa (au _)) (cg (av dS (aO (bw (K:=K) rfl) (by rfl) B.b_len bz (xh 1)) aa (au _)))))) (ag (bL (i:=4) nd rfl (Or.inl rfl) (xj ZdO hr.m (xg 1 (xg 2 (xh 3))))) (ak (aH (av sJ (pv 4) fq (au _)) (ak (aB (pv 4))) a8))) a8) (ag (cv (i:=5) nd rfl (Or.inl rfl) ub) (ag (cz PassesOwn.never rfl (cT rfl B.b_range (aK (aO (bw (K:=K) rfl) (by rfl) B.b_len bz (xh 3)) ab)) (xl 6 nd) (ak (cz PassesOwn.never rfl (cT rfl B.b_range (aK (aO (bw (K:=K) rfl) (by rfl) B.b_len bz (aL (xc K (xc K (pv 3) (pv 6)) aa) ab)) ab)) (xl 7 nd) (ag (bm (xc K (xc K (xc K (pv 3) (pv 6)) aa) (pv 7)) (cb (K:=K) (n:=2) rfl rfl (aF (xl 8 nd) (aF (xl 9 nd) bQ)))) (ak (aH (PW.pt (bU (av (tU hu) (pv 9) (ar ab) (au _)) (bU (av dS (aO mD (by rfl) B.b_abs lM (xh 8)) (ao km aa aa) (au _)) (bU (av dS (aO (bw (K:=K) rfl) (by rfl) B.b_len bz (xh 1)) aa (au _)) (cg (av aM (xj Zaf hr.m (xg 0 (aj aa ab))) aa (au _))))))) (ak (f6 hu1 (pv 5) (ar (xg 6 (xh 7))) (pv 8) rfl)) a8)))))) (ag (dG (i:=10) nd rfl (Or.inl rfl) (ao ZnF (cN (qX (K:=K) hr.gd hr.units) (by rfl) B.b_str ke (fh (xm ["frame"] [] [] (dI (K:=K) rfl (pv 3)) (fun J J J J J J=>(cJ (gm (K:=K) rfl) (pv 0) cK (cE aa)))) ab)) (pe_sis hr.gd hr.units rfl (by rfl) B.b_str (by rfl) B.b_sorted (pv 5)))) (ag (aH (oe (pj hu1 (pv 10) (pv 2))) (ak (f6 hu1 (pv 2) (pv 10) (ar (aK (aO (bw (K:=K) rfl) (by rfl) B.b_len bz (xh 1)) (aK (xj Zen hr.m (xg 0 (xg 1 (xg 3 (xh 5))))) ab))) rfl)) a8) (ag (bm (fW hu1 (pv 2) (pv 10) (fun J J=>rfl)) (cb (K:=K) (n:=2) rfl rfl (aF (xl 11 nd) (aF (xl 12 nd) bQ)))) (ak (aB (ar (aK (cN (fj (K:=K) rfl) (by rfl) B.b_tuple dR (fh (eY (LN:=["i","j","c"]) (FN:=["frames"]) (fr:=[3]) rfl (cR (by rfl)) (dI (K:=K) rfl (pv 12)) (fun J J J J J J=>(cb (K:=K) (n:=3) rfl rfl (aF (xl 0 (show ((["i","j","c"]:List Str)++(["frames"]:List Str)).Nodup by decide +kernel)) (aF (xl 1 (show ((["i","j","c"]:List Str)++(["frames"]:List Str)).Nodup by decide +kernel)) (aF (xl 2 (show ((["i","j","c"]:List Str)++(["frames"]:List Str)).Nodup by decide +kernel)) bQ))))) (fun J J J J J J=>dh) (fun J J J J J J=>(xj Za4 hr.m (aL (xc K (xc K (xc K (pv 3) (pv 0)) aa) (pv 1)) (aT (ar (xg 2 (aT (ar ab) ab))) (rX (bT bV aa) ab)))))) ab)) (xh 11)))))))))))
 refine cI (fun Γ' G'=>(∃ c4,Γ'=[some (.ptr b),some (.ptr la),some (.ptr kd),some (.lst (fs.map sfT)),c4,none,none,none,none,none,none,none,none])/\G'=G) ?_ ?_
 .refine dZ (lG (k1:=fun J G'=>G'=G) ?_ fun bb G' e=>?_)
  .ac_nf
   refine bf hb ⟨by decide,by decide⟩ fun v J J=>?_
   ac_nf
   refine eD (fun J=>?_) fun J=>rfl
   ac_nf
   refine b9 (sg_p hla) ?_
   ac_nf
   refine eD (fun J=>?_) fun J=>rfl
   ac_nf
   refine b9 (sg_p hla) ?_
   ac_nf
   rfl
  .subst e
   refine eD (fun J=>?_) fun J=>?_
   .ac_nf
    refine ⟨la,kd,Q,n,B',f,s,lane,kvs,by rw[hfs],hla,hkd,pk,fo,cn,hn,by lia,lk,?_,fun mv k' lane' kvs' h1 h2 h3=>?_⟩
    .ac_nf
     exact ⟨⟨_,rfl⟩,rfl⟩
    .ac_nf
     exact aw (q mv k' lane' kvs' h1 h2 h3)
   .ac_nf
    exact ⟨⟨_,rfl⟩,rfl⟩
 rintro Γ' G' ⟨⟨c4,rfl⟩,rfl⟩
 have L0:=LdSt.start hb hla hkd (.inr ⟨_,rfl⟩)
 refine bE (b0 (qQ fun nn nnn=>aW ?_))
 obtain ⟨L1,J⟩:=L0.fresh nnn (c:=.dt []) (fun J=>nofun)
 refine cI (fun Γ' G2=>(∃ c6 c7 c8 c9,Γ'=[some (.ptr b),some (.ptr la),some (.ptr kd),some (.lst (fs.map sfT)),c4,some (.ptr nn),c6,c7,c8,c9,none,none,none])/\∃ kn,LdSt G' G2 b l la kd [nn] lane (.dk kvs)/\G2 nn=some (.dt kn)/\KnG fs kn) ?_ ?_
 .ac_nf
  refine ⟨fs.length,by rw[af],by lia,by lia,?_⟩
  refine ⟨fun i Γ' G2=>(∃ c6 c7 c8 c9,Γ'=[some (.ptr b),some (.ptr la),some (.ptr kd),some (.lst (fs.map sfT)),c4,some (.ptr nn),c6,c7,c8,c9,none,none,none])/\∃ kn,LdSt G' G2 b l la kd [nn] lane (.dk kvs)/\G2 nn=some (.dt kn)/\kn.length<=8 * i/\∀ e∈kn,∃ i j c:Int,e=([.inl i,.inl j],.int c)/\c.natAbs < 10 ^ 9/\InFr fs i j,⟨⟨_,_,_,_,rfl⟩,[],L1,gp_s,bD _,fun e he=>by cases he⟩,fun J J J J=>trivial,?_,?_⟩
  .rintro i x Γ' G2 hx ⟨⟨c6,c7,c8,c9,rfl⟩,kn,L,hk,hl8,hin⟩
   rw[cf] at hx
   obtain ⟨rfl,hi⟩:=hJ hx
   have es:fs[i]?=some fs[i]:=aC hi
   generalize fs[i]=si at es
   have hb8:=bx si (aE es)
   have hat:atI (fs.map sfT) (i:Int)=some (sfT si):=di (n:=i) rfl (by rw[aq,es];rfl)
   ac_nf
   refine bv hat ?_
   ac_nf
   refine ⟨si.2.2.length,by rw[af],by lia,by lia,?_⟩
   refine ⟨fun j Γ' G2=>(∃ c7 c8 c9,Γ'=[some (.ptr b),some (.ptr la),some (.ptr kd),some (.lst (fs.map sfT)),c4,some (.ptr nn),some (.int (i:Int)),c7,c8,c9,none,none,none])/\∃ kn,LdSt G' G2 b l la kd [nn] lane (.dk kvs)/\G2 nn=some (.dt kn)/\kn.length<=8 * i+j/\∀ e∈kn,∃ i j c:Int,e=([.inl i,.inl j],.int c)/\c.natAbs < 10 ^ 9/\InFr fs i j,⟨⟨_,_,_,rfl⟩,kn,L,hk,hl8,hin⟩,fun J J J J=>trivial,?_,?_⟩
   .rintro j x Γ' G2 hx ⟨⟨c7,c8,c9,rfl⟩,kn,L,hk,hl8,hin⟩
    rw[cf] at hx
    obtain ⟨rfl,hj⟩:=hJ hx
    have eg:si.2.2[j]?=some si.2.2[j]:=aC hj
    generalize si.2.2[j]=g at eg
    ac_nf
    refine bv hat ?_
    ac_nf
    refine cC (di (n:=j) rfl (by rw[aq,eg];rfl)) ?_
    refine bX rfl (b7 (aW (b7 (aW (dU ?_)))))
    refine dZ (lG (k1:=fun bb G3=>G3=G2/\(bb=true->g.1.natAbs < 10 ^ 9)) ?_ fun bb G3 e=>?_)
    .ac_nf
     refine pb ?_
     ac_nf
     refine eD (fun J=>?_) fun J=>⟨rfl,nofun⟩
     ac_nf
     refine oN ?_
     ac_nf
     refine l_IC cpow9 ?_
     rw[pow9]
     obtain ⟨M9,hM9⟩:∃ M:Int,M=((10 ^ 9:Nat):Int):=⟨_,rfl⟩
     rw[<-hM9]
     ac_nf
     refine cA (fun h9=>?_) fun J=>⟨rfl,nofun⟩
     ac_nf
     refine b9 (sg_p L.ln) ?_
     ac_nf
     refine eD (fun J=>?_) fun J=>⟨rfl,nofun⟩
     ac_nf
     refine bf L.bag ⟨by decide,by decide⟩ fun v J J=>?_
     ac_nf
     exact ⟨rfl,fun J=>by lia⟩
    .obtain ⟨rfl,e9⟩:=e
     refine eD (fun ht=>?_) fun J=>?_
     .refine o9 ?_
      ac_nf
      refine ⟨nn,kn,[.inl (i:Int),.inl (j:Int)],rfl,hk,rfl,by lia,?_⟩
      dsimp only
      refine ca ⟨⟨_,_,_,rfl⟩,_,L.put bi (fun J=>nofun),gp_s,aR uv (by lia),fun e he=>?_⟩
      unfold putA at he
      split at he
      .obtain ⟨e',he',rfl⟩:=bg.mp he
       obtain ⟨i',j',c',rfl,h1,h2⟩:=hin e' he'
       by_cases hq:([Sum.inl i',Sum.inl j']:List Key)=[.inl (i:Int),.inl (j:Int)]
       .rw[ah hq]
        exact ⟨i',j',g.1,rfl,e9 ht,h2⟩
       .rw[ai hq]
        exact ⟨i',j',c',rfl,h1,h2⟩
      .rcases aI.mp he with he|he
       .exact hin e he
       .rw[aU.mp he]
        exact ⟨i,j,g.1,rfl,e9 ht,by lia,by lia,si,by simpa using es,by lia⟩
     .ac_nf
      dsimp only
      exact ca ⟨⟨_,_,_,rfl⟩,kn,L,hk,by lia,hin⟩
   .rintro Γ' G2 ⟨⟨c7,c8,c9,rfl⟩,kn,L,hk,hl8,hin⟩
    rw[cf,gw] at hl8
    dsimp only
    exact ca ⟨⟨_,_,_,_,rfl⟩,kn,L,hk,by lia,hin⟩
  .rintro Γ' G2 ⟨⟨c6,c7,c8,c9,rfl⟩,kn,L,hk,hl8,hin⟩
   rw[cf,gw] at hl8
   exact ⟨⟨_,_,_,_,rfl⟩,kn,L,hk,⟨by lia,hin⟩⟩
 rintro Γ' G2 ⟨⟨c6,c7,c8,c9,rfl⟩,kn,L,hk,kg⟩
 have f1:∀ t∈fs,t.1.natAbs < 1000/\t.2.1.natAbs < 1000:=fun t ht=>by
  obtain ⟨d,r,hd,a2,J,a4,a1,a3,a5⟩:=dX (sok t ht)
  have b1:=(ba.mp a2).1
  have b2:=(ba.mp a4).1
  have b3:=pk.ok.2.1
  have b4:=(pk.ok.2.2 d hd).n
  lia
 ac_nf
 refine dF (fun Γ'=>∃ a,Γ'=[a]) ?_
 ac_nf
 refine ⟨_,si_l,by rw[af];lia,si_l,⟨none,rfl⟩,(plcs fs).map plT,by rw[af,af,af],?_,?_⟩
 .rintro i x y Γ' hx hy ⟨a,rfl⟩
  rw[aq] at hx
  obtain ⟨t,et,rfl⟩:=bc.mp hx
  rw[aq,aq,et] at hy
  cases hy
  ac_nf
  refine ⟨⟨_,rfl⟩,rfl,?_⟩
  ac_nf
  refine gp ?_
  rw[gM (by decide) (by simp)]
  exact ⟨rfl,rfl⟩
 have pl1:∀ p∈plcs fs,PlT 1 (plT p)/\lnT (plT p)<=300:=fun p hp=>by
  obtain ⟨t,ht,rfl⟩:=bg.mp hp
  obtain ⟨h1,h2⟩:=f1 t ht
  exact ⟨n6 (gX (dv h1 (by decide))) (gX (dv h2 (by decide))),by simp[lnT,lnTs]⟩
 have pl2:PlT 2 (.lst ((plcs fs).map plT)):=.inr ⟨_,.inr rfl,fun u hu=>by obtain ⟨p,hp,rfl⟩:=bg.mp hu;exact (pl1 p hp).1⟩
 have pl3:lnT (.lst ((plcs fs).map plT))<=2000:=by
  have:lnTs ((plcs fs).map plT)<=((plcs fs).map plT).length * (300+2):=kt fun x hx=>by
   obtain ⟨p,hp,rfl⟩:=bg.mp hx
   exact (pl1 p hp).2
  rw[af,af] at this
  simp only[lnT]
  lia
 refine d8 (rH pl2 ⟨_,.inr rfl⟩ (by decide) (by lia) ?_)
 ac_nf
 refine ⟨nn,kn,rfl,hk,kg.len,fun e he=>?_,fun z hz=>?_⟩
 .obtain ⟨i,j,c,rfl,h1,h2,h3,s',h4,h5⟩:=kg.ok e he
  have b1:=(ba.mp h4).1
  have b2:=bx s' (aE h4)
  exact ⟨((i,j),c),rfl,⟨by show (2 * j.natAbs:Int) < 2001;lia,by show (2 * c.natAbs:Int) < _;lia⟩,by show i.natAbs < 1000;lia⟩
 refine ZnN (by have:=sh_len 2 pl2;rw[PySem.sizeLine_eq];lia) ?_
 refine aW ?_
 have hkey:shT (.lst ((plcs fs).map plT))++z=plS (plcs fs)++z:=rfl
 generalize hK:shT (.lst ((plcs fs).map plT))++z=key at hkey
 refine cI (fun Γ' G3=>(∃ c,Γ'=[some (.ptr b),some (.ptr la),some (.ptr kd),some (.lst (fs.map sfT)),c4,some (.ptr nn),c6,c7,c8,c9,some (.str key),c,c])/\∃ (lane':List StL) (kvs':List (Key×T)) (k':Nat) (lay:List L3i),LdSt G' G3 b l la kd [nn] lane' (.dk kvs')/\LnG Q lane kvs lane' kvs'/\getA kvs' (.inr key:Key)=some (.tup [.int k',.lst (lay.map lyT)])/\k' < lane'.length/\(lay=[]\/LayOk fs lay)) ?_ ?_
 .ac_nf
  refine ⟨_,⟨kd,rfl,.inr ⟨kvs,key,L.kn,rfl,rfl⟩⟩,?_⟩
  ac_nf
  cases hg:getA kvs (.inr key:Key) with
  | some t =>
   refine iteF ?_
   ac_nf
   obtain ⟨k',lay,rfl,e2,e3⟩:=lk.at hg
   refine ⟨⟨none,rfl⟩,lane,kvs,k',lay,L,⟨lk,[],by simp,by simp⟩,hg,e2,?_⟩
   rcases e3 with e3|⟨l',n',B2,z',e4,⟨f',t',e5,e6⟩,e7⟩
   .exact .inl e3
   .refine .inr ⟨e7.len,fun x hx=>⟨?_,(e7.ok x hx).2⟩⟩
    rw[hkey] at e4
    have ep:=Znx e4
    exact ZnI (fun t ht=>e6.all t (by rw[<-e5];exact ht)) sok ep.symm (e7.ok x hx).1
  | none =>
   refine iteT ?_
   refine uQ ?_
   ac_nf
   refine b9 (sg_p L.ln) ?_
   rw[af]
   ac_nf
   refine ⟨b,l,la,nn,Q,n,B',f,s,lane,kn,by rw[hfs],L.bag,L.ln,hk,pk,fo,by lia,by rw[hfs];exact kg,fun lay d c h1 h2 hd h3=>?_⟩
   rw[hfs] at h1
   have L4:=(L.app (lane++[d])).put (a:=nn) bi h3
   ac_nf
   refine ⟨kd,kvs,key,rfl,L4.kn,rfl,by have:=lk.kl;lia,?_⟩
   exact ⟨⟨none,rfl⟩,lane++[d],_,lane.length,lay,L4.kput _,⟨lk.snoc h2 hd hg (.inr ⟨fs,n,B',z,hkey,⟨f,s,hfs.symm,fo⟩,h1⟩),[d],rfl,by simp⟩,by rw[jU,ah rfl],by rw[ax];simp,.inr h1⟩
 rintro Γ' G3 ⟨⟨c,rfl⟩,lane',kvs',k',lay,L3,lg,hg,hk',hlay⟩
 have hl4:lay.length<=40/\∀ x∈lay,InFr fs x.1 x.2.1/\x.2.2.natAbs<=2:=by
  rcases hlay with rfl|h
  .exact ⟨by simp,fun x hx=>by cases hx⟩
  .exact ⟨h.len,h.ok⟩
 ac_nf
 refine ⟨_,⟨kd,rfl,.inr ⟨kvs',key,L3.kn,rfl,hg.symm⟩⟩,?_⟩
 ac_nf
 refine dF (fun Γ'=>∃ a1 a2 a3,Γ'=[a1,a2,a3,some (.lst (fs.map sfT))]) ?_
 ac_nf
 refine ⟨_,si_l,by rw[af];lia,si_l,⟨none,none,none,rfl⟩,(lay.map fun x=>bO (gA fs x) (x.2.2,[]) (-1)).map fmT,by rw[af,af,af],?_,?_⟩
 .rintro u x y Γ' hx hy ⟨a1,a2,a3,rfl⟩
  rw[aq] at hx
  obtain ⟨v,ev,rfl⟩:=bc.mp hx
  rw[aq,aq,ev] at hy
  cases hy
  obtain ⟨hin,hc⟩:=hl4.2 v (aE ev)
  obtain ⟨s',e1,e2⟩:=gA_at hin
  have hf:=(sok s' (aE e1)).fm _ (aE e2)
  refine bX rfl ?_
  ac_nf
  refine ⟨⟨_,_,_,rfl⟩,rfl,?_⟩
  ac_nf
  refine bv (at_i hin.1 (by rw[aq,e1];rfl)) ?_
  ac_nf
  refine cC (at_i hin.2.1 (by rw[aq,e2];rfl)) ?_
  ac_nf
  exact ⟨n,_,(v.2.2,[]),-1,rfl,fo9 hf hn hB,⟨Fo.nil (aR hc (by decide +kernel)),hn⟩,by decide +kernel,rfl,rfl⟩
 refine d8 (e8 sg_l (fun J=>nofun) ?_)
 ac_nf
 refine L3.fin (aw (q _ k' lane' kvs' ?_ hk' lg))
 refine tz (by rw[af];lia) fun g hg=>?_
 obtain ⟨x,hx,rfl⟩:=bg.mp hg
 obtain ⟨hin,hc⟩:=hl4.2 x hx
 obtain ⟨s',e1,e2⟩:=gA_at hin
 have hf:=(sok s' (aE e1)).fm _ (aE e2)
 have:=mF (jK (m:=-1) hf (Fo.nil (c:=x.2.2) hc))
 lia
def mq:Pre:=fun ts G k=>∃ (b l la kd:Addr) (Q:List Df) (n:Nat) (f:List SF) (s:SF) (rows:Nat) (lane:List StL) (kvs:List (Key×T)),ts=[.ptr b,pgT Q,.ptr la,.ptr kd,.lst ((f++[s]).map sfT),.int rows]/\G b=some (.bag l)/\G la=some (.lst (lane.map stT))/\G kd=some (.dk kvs)/\PgK Q/\FrsOk Q n (10 ^ 600) f s/\bR (f++[s])/\n < 64/\rows<=40/\lane.length<=890/\LnK Q lane kvs/\∀ (ed:T) (lane':List StL) (kvs':List (Key×T)),PlD 5 ed->LnG Q lane kvs lane' kvs'->k ed (gput (gput G la (.lst (lane'.map stT))) kd (.dk kvs'))
theorem sc__law_edge:FnScope ["bag","program","lane","keys","frames","rows","gone","moves","k"] ["bag","program","lane","keys","frames","rows"] (aD mZ):=by walk_at"fs"
theorem Zh2 (B:Blt mg) (T__law_edge:TopFn K mg "_law_edge" mZ ["bag","program","lane","keys","frames","rows"]) (ZaS:Callee P w K mg base "_law_silent" 3 ["program","signs"] (spG P w K lL)) (Zbz:Callee P w K mg base "_law_target" 3 ["bag","lane","keys","frames"] (spG P w K pV)):Callee P w K mg base "_law_edge" 4 ["bag","program","lane","keys","frames","rows"] (spG P w K mq):=by
 refine T__law_edge.okG sc__law_edge (by walk_at"lnx") fun f cdv A outer s H E ts G k hr hh=>?_
 have nd:=sc__law_edge.nd
 obtain ⟨b,l,la,kd,Q,n,f,s,rows,lane,kvs,rfl,hb,hla,hkd,pk,fo,cn,hn,hr40,hlen,lk,q⟩:=hh
 refine' go_G [some (.ptr b),some (pgT Q),some (.ptr la),some (.ptr kd),some (.lst ((f++[s]).map sfT)),some (.int rows),none,none,none] rfl ?hb ?hg
 case hb=>exact (ag (cv (i:=6) nd rfl (Or.inl rfl) aa) (ag (t5 PassesOwn.never (PW.pt (bU (av dS (pv 6) (pv 5) (au _)) (cg (av sJ (xj ZaS hr.m (xg 1 (xh 4))) fq (au _))))) (ag (bL (i:=4) nd rfl (Or.inl rfl) (xj ZaS hr.m (xg 1 (xh 4)))) (ak (dG (i:=6) nd rfl (Or.inl rfl) (ao br (pv 6) aa))))) (ag (bm (xj Zbz hr.m (xg 0 (xg 2 (xg 3 (xh 4))))) (cb (K:=K) (n:=2) rfl rfl (aF (xl 7 nd) (aF (xl 8 nd) bQ)))) (ak (aB (ar (xg 6 (xg 7 (xh 8)))))))))
 refine bE (b0 (fZ (aW ?_)))
 refine cI (fun Γ' G'=>(∃ (f2:List SF) (s2:SF) (g:Nat),FrsOk Q n (100 ^ g * 10 ^ 600) f2 s2/\bR (f2++[s2])/\g<=rows/\Γ'=[some (.ptr b),some (pgT Q),some (.ptr la),some (.ptr kd),some (.lst ((f2++[s2]).map sfT)),some (.int rows),some (.int (g:Int)),none,none])/\G'=G) ?_ ?_
 .refine tj (fun m Γ' G'=>(∃ (f2:List SF) (s2:SF) (g:Nat),FrsOk Q n (100 ^ g * 10 ^ 600) f2 s2/\bR (f2++[s2])/\g+m=rows/\Γ'=[some (.ptr b),some (pgT Q),some (.ptr la),some (.ptr kd),some (.lst ((f2++[s2]).map sfT)),some (.int rows),some (.int (g:Int)),none,none])/\G'=G) rows ⟨⟨f,s,0,by rw[Nat.pow_zero,Nat.one_mul];exact fo,cn,by lia,rfl⟩,rfl⟩ ?_
  rintro m Γ' G' ⟨⟨f2,s2,g,fo2,cn2,hg,rfl⟩,rfl⟩
  have big:100 ^ g * 10 ^ 600<=10 ^ 800:=by
   have:100 ^ g<=100 ^ 40:=kS (by decide) (by lia)
   exact aR (fw _ this) (by decide +kernel)
  have big0:10 ^ 60<=100 ^ g * 10 ^ 600:=aR (show 10 ^ 60<=1 * 10 ^ 600 by decide +kernel) (fw _ (Nat.one_le_pow _ _ (by decide)))
  ac_nf
  refine cA (fun h1=>?_) fun j=>⟨⟨f2,s2,g,fo2,cn2,by lia,rfl⟩,rfl⟩
  ac_nf
  refine ⟨Q,f2,s2,n,_,_,rfl,si_l,pk,fo2,cn2,hn,big,?_⟩
  cases hs:dD Q (f2++[s2]) with
  | none =>
   ac_nf
   exact ⟨⟨f2,s2,g,fo2,cn2,by lia,rfl⟩,rfl⟩
  | some l2 =>
   ac_nf
   obtain ⟨f3,s3,rfl,fo3⟩:=sf pk big0 fo2 (by rw[<-uC];exact hs)
   have cn3:=ZhE cn2 hs
   refine ⟨Q,f2,s2,n,_,_,rfl,si_l,pk,fo2,cn2,hn,big,?_⟩
   rw[hs]
   ac_nf
   dsimp only
   refine ca ⟨m - 1,by lia,⟨f3,s3,g+1,by rw[Nat.pow_succ,Nat.mul_comm (100 ^ g),Nat.mul_assoc];exact fo3,cn3,by lia,rfl⟩,rfl⟩
 rintro Γ' G' ⟨⟨f2,s2,g,fo2,cn2,hg,rfl⟩,rfl⟩
 have big:100 ^ g * 10 ^ 600<=10 ^ 800:=by
  have:100 ^ g<=100 ^ 40:=kS (by decide) (by lia)
  exact aR (fw _ this) (by decide +kernel)
 ac_nf
 refine ⟨b,l,la,kd,Q,n,_,f2,s2,lane,kvs,rfl,hb,hla,hkd,pk,fo2,cn2,hn,big,hlen,lk,fun mv k' lane' kvs' h1 h2 h3=>?_⟩
 refine bX rfl ?_
 ac_nf
 refine aw (q _ lane' kvs' (.tup (by simp) fun u hu=>?_) h3)
 simp only[aG,cp,cW] at hu
 rcases hu with rfl|rfl|rfl
 .exact .int
 .exact h1
 .exact .int
def ua:Pre:=fun ts G k=>∃ (b l la kd:Addr) (Q:List Df) (d:StL) (lane:List StL) (kvs:List (Key×T)),ts=[.ptr b,pgT Q,.ptr la,.ptr kd,stT d]/\G b=some (.bag l)/\G la=some (.lst (lane.map stT))/\G kd=some (.dk kvs)/\PgK Q/\PpK Q d.n d.fr/\lane.length<=800/\LnK Q lane kvs/\∀ (dd:T) (lane':List StL) (kvs':List (Key×T)) (ex:List StL),PlD 6 dd->LnK Q lane' kvs'->lane'=lane++ex->ex.length<=2->(22 < lane.length->ex=[])->k dd (gput (gput G la (.lst (lane'.map stT))) kd (.dk kvs'))
theorem qN {Q:List Df} {n B:Nat} {f:List SF} {s:SF} (h:FrsOk Q n B f s) {t:Int} (ht:0<=t) (hr:∀ d,Q[s.1.toNat]?=some d->t.toNat < d.rows.length):FrsOk Q n B f (s.1,t,s.2.2):=⟨h.few,fun u hu=>by
 rcases aI.mp hu with hu|hu
 .exact h.all u (cU _ hu)
 .rw[aU.mp hu];exact qa (h.all s (by simp)) ht hr,h.call⟩
theorem uJ {Q:List Df} {n m B C:Nat} {f:List SF} {s:SF} (h:FrsOk Q n B f s) (h1:n<=m) (h2:B<=C):FrsOk Q m C f s:=⟨h.few,fun t ht=>(h.all t ht).le h1 h2,h.call⟩
theorem ZnW {N m B D:Nat} {f:Fm} {fl:List Fm} (hf:Fo N B f) (hN:N<=fl.length) (hl:fl.length < 64) (hg:∀ g∈fl,Fo m D g):Fo m (B+63 * (B * D)) (gn f fl):=by
 have h1:=qg (B:=B) hg f.2 (f.1,[]) B (fun p hp=>⟨hf.a p hp,(hf.w p hp).1,by have:=(hf.w p hp).2;lia⟩) (Fo.nil hf.c)
 rw[<-tN]
 have:=mF hf
 exact h1.le (aA _) (jr (fw _ (by lia)) _)
theorem sZ {Q:List Df} {N m B D:Nat} {f:List SF} {s:SF} {fl:List Fm} (h:FrsOk Q N B f s) (hN:N<=fl.length) (hl:fl.length < 64) (hg:∀ g∈fl,Fo m D g):FrsOk Q m (B+63 * (B * D)) (f.map (dY fl)) (dY fl s):=by
 have one:∀ t∈f++[s],SfOk Q m (B+63 * (B * D)) (dY fl t):=fun t ht=>by
  obtain ⟨d,r,a1,a2,a3,a4,a5⟩:=(h.all t ht).ex
  refine ⟨⟨d,r,a1,a2,a3,a4,by show (((t.2.2.map fun f=>gn f fl)).length:Int)=_;rw[af];exact a5⟩,fun g hq=>?_⟩
  obtain ⟨g',hg',rfl⟩:=bg.mp hq
  exact ZnW ((h.all t ht).fm g' hg') hN hl hg
 refine ⟨by rw[af];exact h.few,fun t ht=>?_,fun t ht=>?_⟩
 .rcases aI.mp ht with ht|ht
  .obtain ⟨u,hu,rfl⟩:=bg.mp ht
   exact one u (cU _ hu)
  .rw[aU.mp ht];exact one s (by simp)
 .obtain ⟨u,hu,rfl⟩:=bg.mp ht
  exact h.call u hu
theorem uP {l:List SF} {fl:List Fm}:bR (l.map (dY fl)):=fun t ht g hg=>by
 obtain ⟨u,j,rfl⟩:=bg.mp ht
 obtain ⟨g',j,rfl⟩:=bg.mp hg
 exact ul _ _
theorem cdiv7 {i:Int}:i4 i 7:=j7 (by decide) (by decide)
theorem cdiv3 {i:Int}:i4 i 3:=j7 (by decide) (by decide)
theorem cdiv2 {i:Int}:i4 i 2:=j7 (by decide) (by decide)
theorem gp4 {G:GH} {la kd:Addr} {a b c d:Ct} (h:la≠kd):gput (gput (gput (gput G la a) kd b) la c) kd d=gput (gput G la c) kd d:=by
 funext x
 by_cases h1:x=kd
 .rw[h1,gp_s,gp_s]
 .rw[gp_n h1,gp_n h1]
  by_cases h2:x=la
  .rw[h2,gp_s,gp_s]
  .rw[gp_n h2,gp_n h2,gp_n h1,gp_n h2]
theorem sc__law_deed:FnScope ["bag","program","lane","keys","stand","many","paper","deed","f","at","forms","row","kind","more","still","some","w","edge","yes"] ["bag","program","lane","keys","stand"] (aD l5):=by walk_at"fs"
theorem Zh4 (B:Blt mg) (T__law_deed:TopFn K mg "_law_deed" l5 ["bag","program","lane","keys","stand"]) (Zaf:Callee P w K mg base "_law_draw" 1 ["bag","many"] dH) (ZaT:Callee P w K mg base "_law_number" 2 ["bag"] j0) (ZaS:Callee P w K mg base "_law_silent" 3 ["program","signs"] (spG P w K lL)) (Za9:Callee P w K mg base "_law_words" 1 ["many"] (spG P w K mR)) (ZbH:Callee P w K mg base "_law_signs_put" 3 ["signs","forms"] (spG P w K uB)) (Zec:Callee P w K mg base "_law_at" 1 ["signs","at"] (spG P w K ox)) (ZbA:Callee P w K mg base "_law_edge" 4 ["bag","program","lane","keys","frames","rows"] (spG P w K mq)):Callee P w K mg base "_law_deed" 5 ["bag","program","lane","keys","stand"] (spG P w K ua):=by
 refine T__law_deed.okG sc__law_deed (by walk_at"lnx") fun f cdv A outer s H E ts G k hr hh=>?_
 have nd:=sc__law_deed.nd
 obtain ⟨b,l,la,kd,Q,⟨n,fr,dd⟩,lane,kvs,rfl,hb,hla,hkd,pk,pp,hlen,lk,q⟩:=hh
 obtain ⟨n40,⟨f,s,efr,fo⟩,cn⟩:=pp
 dsimp only at n40 efr fo cn
 subst efr
 have hs:=fo.all s (by simp)
 obtain ⟨df,r,hd,a2,rAt,a4,a1,a3,a5⟩:=dX hs
 refine' go_G [some (.ptr b),some (pgT Q),some (.ptr la),some (.ptr kd),some (.tup [.int n,.lst ((f++[s]).map sfT),dd]),none,none,none,none,none,none,none,none,none,none,none,none,none,none] rfl ?hb ?hg
 case' hb=>refine' ag ?bab ?bac
 case' bab=>refine' bm ?bad ?bae
 case bad=>exact (pv 4)
 case' bae=>refine' cb (K:=K) (n:=3) ?baf ?bag ?bah
 case baf=>exact rfl
 case bag=>exact rfl
 case' bah=>refine' aF ?bai ?baj
 case bai=>exact (xl 5 nd)
 case baj=>exact (aF (xl 6 nd) (aF (xl 7 nd) bQ))
 case' bac=>refine' ag ?bak ?bal
 case' bak=>refine' bm ?bam ?ban
 case bam=>exact (xc K (pv 6) (bT bV aa))
 case' ban=>refine' cb (K:=K) (n:=3) ?bao ?bap ?baq
 case bao=>exact rfl
 case bap=>exact rfl
 case' baq=>refine' aF ?bar ?bas
 case bar=>exact (xl 8 nd)
 case bas=>exact (aF (xl 9 nd) (aF (xl 10 nd) bQ))
 case' bal=>refine' ag ?bat ?bau
 case' bat=>refine' cO (i:=11) ?bav ?baw ?bax ?bay
 case bav=>exact nd
 case baw=>exact rfl
 case bax=>exact (Or.inl rfl)
 case' bay=>refine' f7 ?baz ?bba ?bbb ?bbc
 case baz=>exact (k_ix (K:=K) rfl)
 case bba=>exact (xc K (xc K (pv 1) (pv 8)) aa)
 case bbb=>exact (pv 9)
 case bbc=>exact (fun z z=>rfl)
 case' bau=>refine' ag ?bbd ?bbe
 case bbd=>exact (bL (i:=12) nd rfl (Or.inl rfl) (xj Zaf hr.m (xg 0 (aj aa ab))))
 case' bbe=>refine' ag ?bbf ?bbg
 case' bbf=>refine' cO (i:=13) ?bbh ?bbi ?bbj ?bbk
 case bbh=>exact nd
 case bbi=>exact rfl
 case bbj=>exact (Or.inl rfl)
 case' bbk=>refine' f7 ?bbl ?bbm ?bbn ?bbo
 case bbl=>exact (k_ix (K:=K) rfl)
 case' bbm=>refine' be ?bbp
 case' bbp=>refine' aK ?bbq ?bbr
 case bbq=>exact (xj Zaf hr.m (xg 0 (aj aa ab)))
 case bbr=>exact (aK (xj Zaf hr.m (xg 0 (aj aa ab))) ab)
 case bbn=>exact (ao jO (xj Zaf hr.m (xg 0 (aj aa ab))) aa)
 case bbo=>exact (fun z z=>rfl)
 case' bbg=>refine' ag ?bbs ?bbt
 case' bbs=>refine' cv (i:=14) ?bbu ?bbv ?bbw ?bbx
 case bbu=>exact nd
 case bbv=>exact rfl
 case bbw=>exact (Or.inl rfl)
 case bbx=>exact (eZ uj (xj ZaS hr.m (xg 1 (xh 6))) fq (au _))
 case' bbt=>refine' ag ?bby ?bbz
 case' bby=>refine' aH ?bca ?bcb ?bcc
 case' bca=>refine' PW.pt ?bcd
 case' bcd=>refine' fK ?bce ?bcf
 case bce=>exact (av aM (pv 12) aa (au _))
 case' bcf=>refine' fK ?bcg ?bch
 case bcg=>exact (av fi (aO (bw (K:=K) rfl) (by rfl) B.b_len bz (xh 2)) aa (au _))
 case' bch=>refine' hE ?bci
 case' bci=>refine' PW.pt ?bcj
 case' bcj=>refine' bU ?bck ?bcl
 case bck=>exact (fB (pv 14))
 case' bcl=>refine' cg ?bcm
 case' bcm=>refine' av ?bcn ?bco ?bcp ?bcq
 case bcn=>exact (k_in (K:=K) rfl)
 case bco=>exact (xc K (pv 11) aa)
 case bcp=>exact (be (aj ay (aj ay ab)))
 case bcq=>exact (by with_unfolding_all rfl)
 case bcb=>exact (ak (aB (ar (aj ay ab))))
 case bcc=>exact a8
 case' bbz=>refine' ag ?bcr ?bcs
 case' bcr=>refine' aH ?bct ?bcu ?bcv
 case bct=>exact (PW.pt (bU (av aM (pv 12) aa (au _)) (bU (av fi (pv 5) aa (au _)) (cg (jP (fB (pv 14)))))))
 case' bcu=>refine' ag ?bcw ?bcx
 case bcw=>exact (bL (i:=15) nd rfl (Or.inl rfl) (xj Za9 hr.m (xh 5)))
 case' bcx=>refine' ag ?bcy ?bcz
 case bcy=>exact (bL (i:=16) nd rfl (Or.inl rfl) (xj Zaf hr.m (xg 0 (xh 5))))
 case' bcz=>refine' ag ?bda ?bdb
 case' bda=>refine' bm ?bdc ?bdd
 case' bdc=>refine' ar ?bde
 case' bde=>refine' aL ?bdf ?bdg
 case' bdf=>refine' f7 ?bdh ?bdi ?bdj ?bdk
 case bdh=>exact (k_ix (K:=K) rfl)
 case' bdi=>refine' be ?bdl
 case' bdl=>refine' bG ?bdm ?bdn
 case bdm=>exact (ao cw (xj Zaf hr.m (xg 0 (aj aa ab))) aa)
 case bdn=>exact (aK (xj ZaT hr.m (xh 0)) ab)
 case bdj=>exact (ao jO (xj Zaf hr.m (xg 0 (aj aa ab))) aa)
 case bdk=>exact (fun z z=>rfl)
 case bdg=>exact (aT (ar ab) ab)
 case bdd=>exact (bJ (pv 15) (pv 16) bI)
 case' bdb=>refine' ag ?bdo ?bdp
 case' bdo=>refine' bL (i:=17) ?bdq ?bdr ?bds ?bdt
 case bdq=>exact nd
 case bdr=>exact rfl
 case bds=>exact (Or.inl rfl)
 case' bdt=>refine' fM ?bdu ?bdv ?bdw ?bdx
 case bdu=>exact ZbA
 case bdv=>exact hr.m
 case bdw=>exact (by rfl)
 case' bdx=>refine' bn ?bdy ?bdz
 case bdy=>exact (pv 0)
 case' bdz=>refine' bn ?bea ?beb
 case bea=>exact (pv 1)
 case' beb=>refine' bn ?bec ?bed
 case bec=>exact (pv 2)
 case' bed=>refine' bn ?bee ?bef
 case bee=>exact (pv 3)
 case' bef=>refine' aK ?beg ?beh
 case beg=>exact (xj ZbH hr.m (xg 6 (xh 15)))
 case beh=>exact (bG (ao br aa (pv 13)) ab)
 case' bdp=>refine' ak ?bei
 case' bei=>refine' aB ?bej
 case' bej=>refine' ar ?bek
 case' bek=>refine' aj ?bel ?bem
 case bel=>exact ay
 case' bem=>refine' bn ?ben ?beo
 case ben=>exact (pv 16)
 case beo=>exact (aL (xc K (xc K (pv 15) (pv 16)) aa) (xh 17))
 case bcv=>exact a8
 case' bcs=>refine' ag ?bep ?beq
 case' bep=>refine' aH ?ber ?bes ?bet
 case' ber=>refine' av ?beu ?bev ?bew ?bex
 case beu=>exact (k_in (K:=K) rfl)
 case bev=>exact (xc K (pv 11) aa)
 case bew=>exact (be (aj ay (aj ay ab)))
 case bex=>exact (by with_unfolding_all rfl)
 case' bes=>refine' ag ?bey ?bez
 case' bey=>refine' bL (i:=18) ?bfa ?bfb ?bfc ?bfd
 case bfa=>exact nd
 case bfb=>exact rfl
 case bfc=>exact (Or.inl rfl)
 case' bfd=>refine' fM ?bfe ?bff ?bfg ?bfh
 case bfe=>exact ZbA
 case bff=>exact hr.m
 case bfg=>exact (by rfl)
 case' bfh=>refine' bn ?bfi ?bfj
 case bfi=>exact (pv 0)
 case' bfj=>refine' bn ?bfk ?bfl
 case bfk=>exact (pv 1)
 case' bfl=>refine' bn ?bfm ?bfn
 case bfm=>exact (pv 2)
 case' bfn=>refine' bn ?bfo ?bfp
 case bfo=>exact (pv 3)
 case' bfp=>refine' aK ?bfq ?bfr
 case' bfq=>refine' fM ?bfs ?bft ?bfu ?bfv
 case bfs=>exact Zec
 case bft=>exact hr.m
 case bfu=>exact (by rfl)
 case bfv=>exact (xg 6 (aL (xc K (pv 11) aa) ab))
 case bfr=>exact (xh 13)
 case' bez=>refine' ak ?bfw
 case' bfw=>refine' aB ?bfx
 case' bfx=>refine' ar ?bfy
 case' bfy=>refine' aj ?bfz ?bga
 case bfz=>exact ay
 case' bga=>refine' bn ?bgb ?bgc
 case bgb=>exact (pv 18)
 case' bgc=>refine' aK ?bgd ?bge
 case' bgd=>refine' fM ?bgf ?bgg ?bgh ?bgi
 case bgf=>exact ZbA
 case bgg=>exact hr.m
 case bgh=>exact (by rfl)
 case' bgi=>refine' bn ?bgj ?bgk
 case bgj=>exact (pv 0)
 case' bgk=>refine' bn ?bgl ?bgm
 case bgl=>exact (pv 1)
 case' bgm=>refine' bn ?bgn ?bgo
 case bgn=>exact (pv 2)
 case' bgo=>refine' bn ?bgp ?bgq
 case bgp=>exact (pv 3)
 case' bgq=>refine' aK ?bgr ?bgs
 case bgr=>exact (xj Zec hr.m (xg 6 (bG (ao br (pv 9) aa) ab)))
 case bgs=>exact (bG (ao jO (pv 13) aa) ab)
 case bge=>exact ab
 case bet=>exact a8
 case' beq=>refine' ag ?bgt ?bgu
 case' bgt=>refine' aH ?bgv ?bgw ?bgx
 case bgv=>exact (av aM (xc K (pv 11) aa) ay (au _))
 case' bgw=>refine' ak ?bgy
 case' bgy=>refine' aB ?bgz
 case' bgz=>refine' ar ?bha
 case' bha=>refine' aj ?bhb ?bhc
 case bhb=>exact ay
 case' bhc=>refine' aK ?bhd ?bhe
 case' bhd=>refine' fM ?bhf ?bhg ?bhh ?bhi
 case bhf=>exact ZbA
 case bhg=>exact hr.m
 case bhh=>exact (by rfl)
 case' bhi=>refine' bn ?bhj ?bhk
 case bhj=>exact (pv 0)
 case' bhk=>refine' bn ?bhl ?bhm
 case bhl=>exact (pv 1)
 case' bhm=>refine' bn ?bhn ?bho
 case bhn=>exact (pv 2)
 case' bho=>refine' bn ?bhp ?bhq
 case bhp=>exact (pv 3)
 case' bhq=>refine' aK ?bhr ?bhs
 case bhr=>exact (xj Zec hr.m (xg 6 (bG (ao br (pv 9) aa) ab)))
 case bhs=>exact (xh 13)
 case bhe=>exact ab
 case bgx=>exact a8
 case' bgu=>refine' ag ?bht ?bhu
 case' bht=>refine' aH ?bhv ?bhw ?bhx
 case bhv=>exact (av aM (xc K (pv 11) aa) ay (au _))
 case' bhw=>refine' ag ?bhy ?bhz
 case' bhy=>refine' dG (i:=15) ?bia ?bib ?bic ?bid
 case bia=>exact nd
 case bib=>exact rfl
 case bic=>exact (Or.inl rfl)
 case' bid=>refine' ao ?bie ?big ?bih
 case bie=>exact (gV (K:=K) rfl)
 case' big=>refine' ao ?bii ?bij ?bik
 case bii=>exact (gV (K:=K) rfl)
 case bij=>exact (cJ (gm (K:=K) rfl) (pv 10) cK (cE (xc K (pv 11) aa)))
 case bik=>exact (ar (aT (ar (aj aa (aT (ar (aT (ar (aj aa (xh 5))) ab)) ab))) ab))
 case bih=>exact (cJ (gm (K:=K) rfl) (pv 10) (cE (ao br (xc K (pv 11) aa) aa)) cK)
 case' bhz=>refine' ak ?bil
 case' bil=>refine' aB ?bim
 case' bim=>refine' ar ?bin
 case' bin=>refine' aj ?bio ?bip
 case bio=>exact ay
 case' bip=>refine' aK ?biq ?bir
 case' biq=>refine' fM ?bis ?bit ?biu ?biv
 case bis=>exact ZbA
 case bit=>exact hr.m
 case biu=>exact (by rfl)
 case' biv=>refine' bn ?biw ?bix
 case biw=>exact (pv 0)
 case' bix=>refine' bn ?biy ?biz
 case biy=>exact (pv 1)
 case' biz=>refine' bn ?bja ?bjb
 case bja=>exact (pv 2)
 case' bjb=>refine' bn ?bjc ?bjd
 case bjc=>exact (pv 3)
 case' bjd=>refine' bG ?bje ?bjf
 case' bje=>refine' ao ?bjg ?bjh ?bji
 case bjg=>exact de
 case bjh=>exact (cJ (k_sl (K:=K) rfl) (pv 6) cK (cE (bT bV aa)))
 case bji=>exact (be (aT (ar (xg 8 (bG (ao br (pv 9) aa) (xh 15)))) ab))
 case bjf=>exact (xh 13)
 case bir=>exact ab
 case bhx=>exact a8
 case' bhu=>refine' ak ?bjj
 case' bjj=>refine' aB ?bjk
 case' bjk=>refine' ar ?bjl
 case' bjl=>refine' aj ?bjm ?bjn
 case bjm=>exact ay
 case' bjn=>refine' aK ?bjo ?bjp
 case' bjo=>refine' fM ?bjq ?bjr ?bjs ?bjt
 case bjq=>exact ZbA
 case bjr=>exact hr.m
 case bjs=>exact (by rfl)
 case bjt=>exact (xg 0 (xg 1 (xg 2 (xg 3 (xg 6 (bG (ao br aa (pv 13)) ab))))))
 case bjp=>exact ab
 have lastAt:atI ((f++[s]).map sfT) (-1)=some (sfT s):=by rw[aJ];exact eN _ _
 refine bE (b0 (eR rfl (bX rfl ?_)))
 ac_nf
 refine bv lastAt ?_
 refine bX rfl ?_
 ac_nf
 refine bv (at_i a1 (by rw[aq,a2];rfl)) ?_
 ac_nf
 refine bv (at_i a3 (by rw[aq,a4];rfl)) ?_
 ac_nf
 refine bf hb ⟨by decide,by decide⟩ fun kind z z=>?_
 ac_nf
 refine bf hb ⟨by decide,by decide⟩ fun v5 v50 v51=>?_
 ac_nf
 refine bf hb ⟨by decide,by decide⟩ fun v2 v20 v21=>?_
 ac_nf
 refine bf hb ⟨by decide,by decide⟩ fun v8 v80 v81=>?_
 ac_nf
 refine l_IC cdiv7 ?_
 obtain ⟨mo,hmo,hat⟩:∃ mo:Nat,mo<=20/\atI [T.int v5,T.int v2] (v8 / 7)=some (.int mo):=by
  have h7:v8 / 7=0\/v8 / 7=1:=by lia
  rcases h7 with h7|h7
  .exact ⟨v5.toNat,by lia,by rw[h7,at_0];congr 2;lia⟩
  .exact ⟨v2.toNat,by lia,by rw[h7,at_1];congr 2;lia⟩
 refine bv hat ?_
 refine aW ?_
 refine cI (fun Γ' G'=>Γ'=[some (.ptr b),some (pgT Q),some (.ptr la),some (.ptr kd),some (.tup [.int n,.lst ((f++[s]).map sfT),dd]),some (.int n),some (.lst ((f++[s]).map sfT)),some dd,some (.int s.1),some (.int s.2.1),some (.tup (s.2.2.map fmT)),some (rowT r),some (.int kind),some (.int mo),some (.bl (dD Q (f++[s])).isNone),none,none,none,none]/\G'=G) ?_ ?_
 .ac_nf
  refine ⟨Q,f,s,n,_,_,rfl,si_l,pk,fo,cn,by lia,by decide +kernel,?_⟩
  cases dD Q (f++[s]) with
  | none=>ac_nf;exact ⟨rfl,rfl⟩
  | some l2=>ac_nf;exact ⟨rfl,rfl⟩
 rintro Γ' G' ⟨rfl,rfl⟩
 refine bE (dZ (lG (k1:=fun bb G2=>G2=G'/\(bb=false->lane.length<=22/\((dD Q (f++[s])).isNone=true->(["call","back"]:List Str).contains r.row.1=false))) ?_ fun bb G2 e=>?_))
 .ac_nf
  refine eD (fun z=>⟨rfl,nofun⟩) fun z=>?_
  ac_nf
  refine b9 (sg_p hla) ?_
  rw[af]
  ac_nf
  refine cA (fun z=>⟨rfl,nofun⟩) fun h22=>?_
  ac_nf
  refine eD (fun hst=>?_) fun hst=>⟨rfl,fun z=>⟨by lia,fun e=>by rw[hst] at e;cases e⟩⟩
  ac_nf
  refine a7 (ss:=["call","back"]) sg_l ?_
  ac_nf
  exact ⟨rfl,fun e=>⟨by lia,fun z=>e⟩⟩
 obtain ⟨rfl,hno⟩:=e
 have done:∀ {dd:T},PlD 6 dd->k dd G2:=fun {dd} h=>by
  have:=q dd lane kvs [] h lk (by simp) (by simp) (fun z=>rfl)
  rwa [fO hla,fO hkd] at this
 refine eD (fun z=>?_) fun hf=>?_
 .ac_nf
  exact aw (done (.tup (by simp) fun u hu=>by rw[aU.mp hu];exact .str))
 obtain ⟨h22,hcb⟩:=hno hf
 refine eM ?_
 refine bE (dZ (lG (k1:=fun bb G3=>G3=G2/\(bb=true->0 < n)) ?_ fun bb G3 e=>?_))
 .ac_nf
  refine eD (fun z=>?_) fun z=>⟨rfl,nofun⟩
  ac_nf
  refine cA (fun h0=>?_) fun z=>⟨rfl,nofun⟩
  ac_nf
  exact ⟨rfl,fun z=>by lia⟩
 obtain ⟨rfl,hn0⟩:=e
 have L0:=LdSt.start hb hla hkd (.inr ⟨_,rfl⟩)
 refine eD (fun ht=>?_) fun z=>?_
 .have n0:=hn0 ht
  ac_nf
  refine ⟨n,rfl,by lia,fun sm nsm=>?_⟩
  obtain ⟨L1,z⟩:=L0.fresh nsm (c:=.lst ((bZ n).map fmT)) (fun z=>nofun)
  refine aW ?_
  ac_nf
  refine bf L1.bag ⟨by lia,by lia⟩ fun wv w0 w1=>?_
  ac_nf
  refine bf L1.bag ⟨by decide,by decide⟩ fun x5 x50 x51=>?_
  ac_nf
  refine lQ L1.bag fun xn hxn=>?_
  ac_nf
  refine bf L1.bag ⟨by decide,by decide⟩ fun x4 x40 x41=>?_
  ac_nf
  refine l_IC cdiv3 ?_
  obtain ⟨vv,hvv,hat2⟩:∃ vv:Int,vv.natAbs<=10 ^ 60/\atI [T.int (x5 - 2),T.int xn] (x4 / 3)=some (.int vv):=by
   have h7:x4 / 3=0\/x4 / 3=1:=by lia
   rcases h7 with h7|h7
   .exact ⟨x5 - 2,aR (show (x5 - 2).natAbs<=10 by lia) (by decide),by rw[h7,at_0]⟩
   .exact ⟨xn,hxn,by rw[h7,at_1]⟩
  refine bv hat2 ?_
  ac_nf
  have wl:(bZ n).length=n:=by unfold bZ;simp
  refine ⟨sm,(bZ n).map fmT,wv,wv.toNat,rfl,rfl,gp_s,tS (by lia) (by rw[af,wl];lia),?_⟩
  rw[gp_p]
  obtain ⟨fl,efl,fll,flo,flw⟩:∃ fl:List Fm,((bZ n).map fmT).set wv.toNat (.tup [.int vv,.tup []])=fl.map fmT/\fl.length=n/\(∀ g∈fl,Fo n (10 ^ 60) g)/\fl[wv.toNat]?=some (vv,[]):=by
   refine ⟨(bZ n).set wv.toNat (vv,[]),by rw[gI];rfl,by rw[cr,wl],fun g hg=>?_,jk (by rw[wl];lia)⟩
   rcases jA hg with hg|rfl
   .unfold bZ at hg
    obtain ⟨j,hj,rfl⟩:=bg.mp hg
    exact lI (c:=0) (by decide) (gx.mp hj)
   .exact Fo.nil hvv
  rw[efl]
  obtain ⟨L2,z⟩:=L0.fresh nsm (c:=.lst (fl.map fmT)) (fun z=>nofun)
  have gsm:gput G3 sm (.lst (fl.map fmT)) sm=some (.lst (fl.map fmT)):=gp_s
  ac_nf
  refine ⟨n,10 ^ 60,10 ^ 60,f++[s],fl,_,_,rfl,si_l,si_p gsm,by have:=fo.few;rw[ax];simp;lia,fun t ht=>⟨by have:=gu pk (fo.all t ht);lia,fun g hg=>by rw[fll];exact (fo.all t ht).fm g hg⟩,by lia,by lia,flo,by decide +kernel,by decide +kernel,?_⟩
  ac_nf
  have fr2:=uJ (sZ fo (by lia) (by lia) flo) (aA n) (show _<=10 ^ 600 by decide +kernel)
  refine ⟨b,l,la,kd,Q,n,f.map (dY fl),dY fl s,mo+1,lane,kvs,by rw[aJ,show (1:Int)+(mo:Int)=((mo+1:Nat):Int) by lia];rfl,L2.bag,L2.ln,L2.kn,pk,fr2,?_,by lia,by lia,by lia,lk,fun ed lane' kvs' h1 h2=>?_⟩
  .rw[<-map_singleton (f:=dY fl),<- aJ];exact uP
  have L3:=(L2.app lane').kput (.dk kvs')
  have nl:la≠sm:=fun e=>L2.nb.2.1 (by rw[e];exact bi)
  have nk:kd≠sm:=fun e=>L2.nb.2.2 (by rw[e];exact bi)
  have gs3:gput (gput (gput G3 sm (.lst (fl.map fmT))) la (.lst (lane'.map stT))) kd (.dk kvs') sm=some (.lst (fl.map fmT)):=by rw[gp_n nk.symm,gp_n nl.symm];exact gsm
  ac_nf
  refine l_ix (sg_p gs3) (at_i w0 (by rw[aq,flw];rfl)) ?_
  ac_nf
  obtain ⟨lk',ex,e1,e2⟩:=h2
  refine L3.fin (aw (q _ lane' kvs' ex (.tup (by simp) fun u hu=>?_) lk' e1 (by lia) (fun h=>by lia)))
  simp only[aG,cp,cW] at hu
  rcases hu with rfl|rfl|rfl|rfl
  .exact .str
  .exact .int
  .exact .int
  .exact h1
 refine eM ?_
 have edge:∀ (n':Nat) (f':List SF) (s':SF) (rows:Nat) (lane1:List StL) (kvs1:List (Key×T)) (k1:T->GH->Prop),FrsOk Q n' (10 ^ 600) f' s'->bR (f'++[s'])->n' < 64->rows<=40->lane1.length<=890->LnK Q lane1 kvs1->(∀ (ed:T) (lane':List StL) (kvs':List (Key×T)),PlD 5 ed->LnG Q lane1 kvs1 lane' kvs'->k1 ed (gput (gput (gput (gput G3 la (.lst (lane1.map stT))) kd (.dk kvs1)) la (.lst (lane'.map stT))) kd (.dk kvs')))->mq [.ptr b,pgT Q,.ptr la,.ptr kd,.lst ((f'++[s']).map sfT),.int rows] (gput (gput G3 la (.lst (lane1.map stT))) kd (.dk kvs1)) k1:=fun n' f' s' rows lane1 kvs1 k1 h1 h2 h3 h4 h5 h6 h7=>by
  have L:=(L0.app lane1).kput (.dk kvs1)
  exact ⟨b,l,la,kd,Q,n',f',s',rows,lane1,kvs1,rfl,L.bag,L.ln,L.kn,pk,h1,h2,h3,h4,h5,h6,h7⟩
 have e0:gput (gput G3 la (.lst (lane.map stT))) kd (.dk kvs)=G3:=by rw[fO hla,fO hkd]
 have nlk:la≠kd:=L0.ne.1
 have edge0:∀ (n':Nat) (f':List SF) (s':SF) (rows:Nat) (k1:T->GH->Prop),FrsOk Q n' (10 ^ 600) f' s'->bR (f'++[s'])->n' < 64->rows<=40->(∀ (ed:T) (lane':List StL) (kvs':List (Key×T)),PlD 5 ed->LnG Q lane kvs lane' kvs'->k1 ed (gput (gput G3 la (.lst (lane'.map stT))) kd (.dk kvs')))->mq [.ptr b,pgT Q,.ptr la,.ptr kd,.lst ((f'++[s']).map sfT),.int rows] G3 k1:=fun n' f' s' rows k1 h1 h2 h3 h4 h5=>by
  have:=edge n' f' s' rows lane kvs k1 h1 h2 h3 h4 (by lia) lk fun ed lane' kvs' a1 a2=>by rw[e0];exact h5 ed lane' kvs' a1 a2
  rwa [e0] at this
 have B6:10 ^ 60<=10 ^ 600:=by decide +kernel
 have fo6:=uJ fo (aA n) B6
 have cnf:bR f:=fun t ht=>cn t (cU _ ht)
 have cns:∀ g∈s.2.2,Cano g:=cn s (by simp)
 have ok:=(pk.ok.2.2 df hd).rows r (aE a4)
 have fl4:=fo.few
 have atk:∀ (t:Int) (k1:T->GH->Prop) (G4:GH),k1 (.lst ((cM f s t).map sfT)) G4->ox [.lst ((f++[s]).map sfT),.int t] G4 k1:=fun t k1 G4 h=>⟨f,s,t,_,rfl,si_l,by lia,h⟩
 have inr:∀ {t:Int},In0 t df.rows.length->FrsOk Q n (10 ^ 600) f (s.1,t,s.2.2):=fun {t} ht=>qN fo6 ht.1 fun d' hd'=>by
  rw[a2] at hd';cases hd'
  have:=ht.2;have:=ht.1;lia
 have nxt:¬ r.last->FrsOk Q n (10 ^ 600) f (s.1,s.2.1+1,s.2.2):=fun hl=>by
  obtain ⟨n1,n2⟩:=ki pk hs rAt hl
  exact qN fo6 n1 n2
 have fin2:∀ {w1:Str} {ed:T} {lane':List StL} {kvs':List (Key×T)},PlD 5 ed->LnG Q lane kvs lane' kvs'->Cl k (.tup [.str w1,ed]) (gput (gput G3 la (.lst (lane'.map stT))) kd (.dk kvs')):=fun {w1 ed lane' kvs'} h1 h2=>by
  obtain ⟨lk',ex,e1,e2⟩:=h2
  refine aw (q _ lane' kvs' ex (.tup (by simp) fun u hu=>?_) lk' e1 (by lia) (fun h=>by lia))
  simp only[aG,cp,cW] at hu
  rcases hu with rfl|rfl
  .exact .str
  .exact h1
 cases r with
 | tell p =>
  ac_nf
  refine a7 (ss:=["zero","below"]) sg_l ?_
  ac_nf
  refine atk _ _ _ ?_
  ac_nf
  refine edge0 n f (s.1,s.2.1+1,s.2.2) mo _ (nxt (fun h=>h)) (eF cnf (eP cns)) (by lia) (by lia) fun ed lane' kvs' h1 h2=>?_
  ac_nf
  exact fin2 h1 h2
 | zero p t =>
  ac_nf
  refine a7 (ss:=["zero","below"]) sg_l ?_
  ac_nf
  refine atk _ _ _ ?_
  ac_nf
  refine edge0 n f (s.1,t,s.2.2) mo _ (inr ok.2) (eF cnf (eP cns)) (by lia) (by lia) fun ed1 lane1 kvs1 h1 h2=>?_
  refine aW ?_
  ac_nf
  refine atk _ _ _ ?_
  ac_nf
  refine l_IC cdiv2 ?_
  rw[show (mo:Int) / 2=((mo / 2:Nat):Int) by lia]
  ac_nf
  obtain ⟨lk1,ex1,e1,e1l⟩:=h2
  refine edge n f (s.1,s.2.1+1,s.2.2) (mo / 2) lane1 kvs1 _ (nxt (fun h=>h)) (eF cnf (eP cns)) (by lia) (by lia) (by rw[e1,ax];lia) lk1 fun ed2 lane2 kvs2 h3 h4=>?_
  rw[gp4 nlk]
  ac_nf
  obtain ⟨lk2,ex2,e2,e2l⟩:=h4
  refine aw (q _ lane2 kvs2 (ex1++ex2) (.tup (by simp) fun u hu=>?_) lk2 (by rw[e2,e1,eh]) (by rw[ax];lia) (fun h=>by lia))
  simp only[aG,cp,cW] at hu
  rcases hu with rfl|rfl|rfl
  .exact .str
  .exact h1
  .exact h3
 | below p t =>
  ac_nf
  refine a7 (ss:=["zero","below"]) sg_l ?_
  ac_nf
  refine atk _ _ _ ?_
  ac_nf
  refine edge0 n f (s.1,t,s.2.2) mo _ (inr ok.2) (eF cnf (eP cns)) (by lia) (by lia) fun ed1 lane1 kvs1 h1 h2=>?_
  refine aW ?_
  ac_nf
  refine atk _ _ _ ?_
  ac_nf
  refine l_IC cdiv2 ?_
  rw[show (mo:Int) / 2=((mo / 2:Nat):Int) by lia]
  ac_nf
  obtain ⟨lk1,ex1,e1,e1l⟩:=h2
  refine edge n f (s.1,s.2.1+1,s.2.2) (mo / 2) lane1 kvs1 _ (nxt (fun h=>h)) (eF cnf (eP cns)) (by lia) (by lia) (by rw[e1,ax];lia) lk1 fun ed2 lane2 kvs2 h3 h4=>?_
  rw[gp4 nlk]
  ac_nf
  obtain ⟨lk2,ex2,e2,e2l⟩:=h4
  refine aw (q _ lane2 kvs2 (ex1++ex2) (.tup (by simp) fun u hu=>?_) lk2 (by rw[e2,e1,eh]) (by rw[ax];lia) (fun h=>by lia))
  simp only[aG,cp,cW] at hu
  rcases hu with rfl|rfl|rfl
  .exact .str
  .exact h1
  .exact h3
 | take p =>
  ac_nf
  refine a7 (ss:=["zero","below"]) sg_l ?_
  ac_nf
  have p0:0<=p:=ok.1
  have p1:p < s.2.2.length:=by have:=ok.2;lia
  have p8:=gu pk hs
  refine ⟨p,by rw[emb],?_⟩
  refine gp ?_
  rw[gM p0 (by rw[af];lia)]
  ac_nf
  have lt:((s.2.2.map fmT).take p.toNat).length<=s.2.2.length:=by rw[dM,af];exact jn _ _
  have ld:((s.2.2.map fmT).drop (p+1).toNat).length<=s.2.2.length:=by rw[gB,af];exact jo _ _
  refine gc (by rw[dq];lia) ?_
  ac_nf
  rw[emb]
  ac_nf
  refine gp ?_
  rw[oZ (by lia) (by rw[af];lia)]
  refine gc (by rw[ax,dq];lia) ?_
  have e:(s.2.2.map fmT).take p.toNat++[.tup [.int 0,.tup [.tup [.int 1,.int (n:Int)]]]]++(s.2.2.map fmT).drop (p+1).toNat=(s.2.2.set p.toNat (0,[(1,(n:Int))])).map fmT:=by
   have hp:p.toNat < s.2.2.length:=by lia
   rw[<-map_take,<- map_drop,vb,ah hp,aJ,aS,eh,show (p+1).toNat=p.toNat+1 by lia]
   rfl
  rw[e]
  refine aW ?_
  ac_nf
  refine gR si_l ?_
  rw[aJ,map_singleton,lh]
  ac_nf
  refine fI si_l si_l (by rw[af];simp;lia) ?_
  ac_nf
  have fr3:FrsOk Q (n+1) (10 ^ 600) f (s.1,s.2.1+1,s.2.2.set p.toNat (0,[(1,(n:Int))])):=by
   obtain ⟨n1,n2⟩:=ki pk hs rAt (fun h=>h)
   refine ⟨fo.few,fun t ht=>?_,fo.call⟩
   rcases aI.mp ht with ht|ht
   .exact (fo.all t (cU _ ht)).le (by lia) B6
   .rw[aU.mp ht]
    exact oO (hs.le (by lia) B6) ((lI (N:=n+1) (c:=0) (by decide) (by lia)).le (aA _) B6) n1 n2
  have cn3:bR (f++[(s.1,s.2.1+1,s.2.2.set p.toNat (0,[(1,(n:Int))]))]):=eF cnf (eP fun g hg=>by
   rcases jA hg with hg|rfl
   .exact cns g hg
   .exact om)
  have ee:f.map sfT++[.tup [.int s.1,.int (s.2.1+1),.tup ((s.2.2.set p.toNat (0,[(1,(n:Int))])).map fmT)]]=(f++[(s.1,s.2.1+1,s.2.2.set p.toNat (0,[(1,(n:Int))]))]).map sfT:=by rw[aJ];rfl
  rw[ee]
  refine edge0 (n+1) f _ mo _ fr3 cn3 (by lia) (by lia) fun ed lane' kvs' h1 h2=>?_
  ac_nf
  exact fin2 h1 h2
 | _ =>
  ac_nf
  refine a7 (ss:=["zero","below"]) sg_l ?_
  ac_nf
  rw[show (1:Int)+(mo:Int)=((mo+1:Nat):Int) by lia]
  refine edge0 n f s (mo+1) _ fo6 cn (by lia) (by lia) fun ed lane' kvs' h1 h2=>?_
  ac_nf
  exact fin2 h1 h2
def LaneK (Q:List Df) (lane:List StL):Prop:=∀ d∈lane,PpK Q d.n d.fr/\PlD 8 d.dd
def Znw:Pre:=fun ts G k=>∃ (b l:Addr) (Q:List Df),ts=[.ptr b,pgT Q]/\G b=some (.bag l)/\PgK Q/\∀ lane:List StL,LaneK Q lane->1<=lane.length->lane.length<=24->k (.lst (lane.map stT)) G
theorem sc__law_lane:FnScope ["bag","program","f","at","lane","keys","k"] ["bag","program"] (aD m6):=by walk_at"fs"
theorem ZhZ (B:Blt mg) (T__law_lane:TopFn K mg "_law_lane" m6 ["bag","program"]) (Zaf:Callee P w K mg base "_law_draw" 1 ["bag","many"] dH) (Za9:Callee P w K mg base "_law_words" 1 ["many"] (spG P w K mR)) (Zbz:Callee P w K mg base "_law_target" 3 ["bag","lane","keys","frames"] (spG P w K pV)) (Zep:Callee P w K mg base "_law_deed" 5 ["bag","program","lane","keys","stand"] (spG P w K ua)):Callee P w K mg base "_law_lane" 6 ["bag","program"] (spG P w K Znw):=by
 refine T__law_lane.okG sc__law_lane (by walk_at"lnx") fun f cdv A outer s H E ts G k hr hh=>?_
 have nd:=sc__law_lane.nd
 obtain ⟨b,l,Q,rfl,hb,pk,q⟩:=hh
 refine' go_G [some (.ptr b),some (pgT Q),none,none,none,none,none] rfl ?hb ?hg
 case hb=>exact (ag (dG (i:=2) nd rfl (Or.inl rfl) (ao eL (xj Zaf hr.m (xg 0 (aK (aO (bw (K:=K) rfl) (by rfl) B.b_len bz (xh 1)) ab))) (xj Zaf hr.m (xg 0 (aj aa ab))))) (ag (dG (i:=3) nd rfl (Or.inl rfl) (ao eL (xj Zaf hr.m (xg 0 (aK (aO (bw (K:=K) rfl) (by rfl) B.b_len bz (aL (xc K (xc K (pv 1) (pv 2)) aa) ab)) ab))) (cN Zlf (by rfl) B.b_int p7 (ZlV (eZ aM (xj Zaf hr.m (xg 0 (aj aa ab))) aa (au _)) ab)))) (ag (gK (i:=4) nd rfl (Or.inl rfl) (be ab)) (ag (cv (i:=5) nd rfl (Or.inl rfl) lr) (ag (cx (xj Zbz hr.m (xg 0 (xg 4 (xg 5 (iy (be (aT (ar (xg 2 (xg 3 (aK (cN (fj (K:=K) rfl) (by rfl) B.b_tuple dR (aK (xj Za9 hr.m (aL (xc K (xc K (pv 1) (pv 2)) aa) ab)) ab)) ab)))) ab)) ab)))))) (ag (cv (i:=6) nd rfl (Or.inl rfl) aa) (ag (t5 PassesOwn.never (av dS (pv 6) (aO (bw (K:=K) rfl) (by rfl) B.b_len bz (xh 4)) (au _)) (ag (bm (ao (gV (K:=K) rfl) (cJ (gm (K:=K) rfl) (xc K (pv 4) (pv 6)) cK (cE aa)) (ar (aK (xj Zep hr.m (xg 0 (xg 1 (xg 4 (xg 5 (aL (xc K (pv 4) (pv 6)) ab)))))) ab))) (bJ (pv 4) (pv 6) bI)) (ak (dG (i:=6) nd rfl (Or.inl rfl) (ao br (pv 6) aa))))) (ak (aB (pv 4))))))))))
 have ql:=pk.ok.2.1
 have q0:0 < Q.length:=nR.mpr pk.ok.1
 ac_nf
 rw[af]
 refine bf hb ⟨by lia,by lia⟩ fun v v0 v1=>?_
 ac_nf
 refine bf hb ⟨by decide,by decide⟩ fun v2 v20 v21=>?_
 ac_nf
 have sm:∀ {x y:Int},0<=x->x < 1000->0<=y->y < 1000->CBig x y:=fun h1 h2 h3 h4=>fA (aR (show _<=1000 by lia) (by decide +kernel)) (aR (show _<=1000 by lia) (by decide +kernel))
 refine l_IC (sm v0 (by lia) v20 (by lia)) ?_
 obtain ⟨fN,efN,hfN⟩:∃ fN:Nat,v * v2=fN/\fN < Q.length:=by
  have:v2=0\/v2=1:=by lia
  rcases this with rfl|rfl
  .exact ⟨0,by simp,q0⟩
  .exact ⟨v.toNat,by rw[nr];lia,by lia⟩
 rw[efN]
 have ed:Q[fN]?=some Q[fN]:=aC hfN
 generalize Q[fN]=df at ed
 have hd:=aE ed
 have dok:=pk.ok.2.2 df hd
 have db:=pk.b df hd
 obtain ⟨rl,el,z⟩:=dok.last
 have r0:0 < df.rows.length:=by have:=(ba.mp el).1;lia
 have rn:=dok.n
 have dat:atI (Q.map dfT) (fN:Int)=some (dfT df):=di (n:=fN) rfl (by rw[aq,ed];rfl)
 ac_nf
 refine bv dat ?_
 ac_nf
 rw[af]
 refine bf hb ⟨by lia,by lia⟩ fun a a0 a1=>?_
 ac_nf
 refine bf hb ⟨by decide,by decide⟩ fun a3 z z=>?_
 ac_nf
 refine l_intB ?_
 ac_nf
 refine l_IC (sm a0 (by lia) (by split <;> decide) (by split <;> decide)) ?_
 obtain ⟨aN,eaN,haN⟩:∃ aN:Nat,a * (if decide (a3=0)=true then 1 else 0)=aN/\aN < df.rows.length:=by
  split
  .exact ⟨a.toNat,by rw[nr];lia,by lia⟩
  .exact ⟨0,by simp,r0⟩
 rw[eaN]
 refine aW ?_
 refine bE (b0 (fg ?_))
 ac_nf
 intro la nla
 have nbl:b≠la:=g_ne hb nla
 refine aW ?_
 refine bE (b0 (Zm5 fun kd nkd=>aW ?_))
 have hla:gput G la (.lst ([]:List T)) la=some (.lst (([]:List StL).map stT)):=gp_s
 have hb1:gput G la (.lst ([]:List T)) b=some (.bag l):=by rw[gp_n nbl];exact hb
 have nlk:la≠kd:=g_ne hla nkd
 have nbk:b≠kd:=g_ne hb1 nkd
 have hla2:gput (gput G la (.lst [])) kd (.dk []) la=some (.lst (([]:List StL).map stT)):=by rw[gp_n nlk];exact hla
 have hb2:gput (gput G la (.lst [])) kd (.dk []) b=some (.bag l):=by rw[gp_n nbk];exact hb1
 have hkd2:gput (gput G la (.lst [])) kd (.dk []) kd=some (.dk []):=gp_s
 generalize hG1:gput (gput G la (.lst [])) kd (.dk [])=G1 at hla2 hb2 hkd2
 have L0:=LdSt.start hb2 hla2 hkd2 (.inr ⟨_,rfl⟩)
 obtain ⟨bN,ebN⟩:∃ bN:Nat,df.boxes=bN:=⟨df.boxes.toNat,by have:=dok.b.1;lia⟩
 ac_nf
 refine bv dat ?_
 ac_nf
 refine ⟨bN,by rw[ebN],by lia,fun sm nsm=>?_⟩
 obtain ⟨L1,z⟩:=L0.fresh nsm (c:=.lst ((bZ bN).map fmT)) (fun z=>nofun)
 refine d8 (e8 (sg_p gp_s) (fun z=>nofun) ?_)
 ac_nf
 have fo:FrsOk Q bN (10 ^ 60) [] ((fN:Int),(aN:Int),bZ bN):=by
  refine ⟨by simp,fun t ht=>?_,fun t ht=>by cases ht⟩
  rw[kK] at ht
  rw[aU.mp ht]
  refine ⟨⟨df,_,by lia,ed,by show (0:Int)<=(aN:Int);lia,aC haN,?_⟩,fun g hg=>?_⟩
  .show ((bZ bN).length:Int)=_
   rw[ebN];unfold bZ;simp
  .have hg:g∈bZ bN:=hg
   unfold bZ at hg
   obtain ⟨j,hj,rfl⟩:=bg.mp hg
   exact lI (c:=0) (by decide) (gx.mp hj)
 have cn:bR ([]++[((fN:Int),(aN:Int),bZ bN)]):=eF (fun t ht=>by cases ht) (eP fun g hg=>by
  have hg:g∈bZ bN:=hg
  unfold bZ at hg
  obtain ⟨j,hj,rfl⟩:=bg.mp hg
  exact om)
 refine ⟨b,l,la,kd,Q,bN,10 ^ 60,[],((fN:Int),(aN:Int),bZ bN),[],[],rfl,L1.bag,L1.ln,L1.kn,pk,fo,cn,by lia,by decide +kernel,by simp,⟨(fun d hd=>by cases hd),(fun e he=>by cases he),aA _⟩,fun mv k' lane1 kvs1 z hk1 h3=>?_⟩
 obtain ⟨lk1,ex1,e1,e1l⟩:=h3
 have L2:=(L1.app lane1).kput (.dk kvs1)
 have l1:1<=lane1.length:=by lia
 have l24:lane1.length<=24:=by rw[e1,ax];simp;lia
 generalize gput (gput (gput G1 sm (.lst ((bZ bN).map fmT))) la (.lst (lane1.map stT))) kd (.dk kvs1)=G2 at L2
 ac_nf
 refine tj (fun m Γ' G'=>∃ (lane:List StL) (kvs:List (Key×T)) (kN:Nat),kN+m=24/\LdSt G1 G' b l la kd [sm] lane (.dk kvs)/\LnK Q lane kvs/\1<=lane.length/\lane.length<=24/\kN<=lane.length/\Γ'=[some (.ptr b),some (pgT Q),some (.int fN),some (.int aN),some (.ptr la),some (.ptr kd),some (.int kN)]) 24 ⟨lane1,kvs1,0,rfl,L2,lk1,l1,l24,bD _,rfl⟩ ?_
 rintro m Γ' G' ⟨lane,kvs,kN,hm,L,lk,h1,h24,hk,rfl⟩
 ac_nf
 refine b9 (sg_p L.ln) ?_
 rw[af]
 ac_nf
 refine cA (fun hlt=>?_) fun hge=>?_
 .have hlt:kN < lane.length:=by lia
  have ek:lane[kN]?=some lane[kN]:=aC hlt
  generalize lane[kN]=d at ek
  have hat:atI (lane.map stT) (kN:Int)=some (stT d):=di (n:=kN) rfl (by rw[aq,ek];rfl)
  ac_nf
  refine l_ix (sg_p L.ln) hat ?_
  ac_nf
  refine gp ?_
  rw[gM (by decide) (by simp)]
  ac_nf
  refine l_ix (sg_p L.ln) hat ?_
  ac_nf
  refine ⟨b,l,la,kd,Q,d,lane,kvs,rfl,L.bag,L.ln,L.kn,pk,(lk.st d (aE ek)).1,by lia,lk,fun dd lane' kvs' ex hdd lk' e1 e2 e3=>?_⟩
  have L3:=(L.app lane').kput (.dk kvs')
  have ek':lane'[kN]?=some d:=by rw[e1,cL hlt];exact ek
  have l3:lane'.length<=24/\lane.length<=lane'.length:=by
   rw[e1,ax]
   refine ⟨?_,by lia⟩
   by_cases h22:22 < lane.length
   .rw[e3 h22];simp;lia
   .lia
  generalize gput (gput G' la (.lst (lane'.map stT))) kd (.dk kvs')=G3 at L3
  ac_nf
  refine gc (by simp) ?_
  ac_nf
  refine ⟨la,lane'.map stT,kN,kN,rfl,rfl,L3.ln,tS rfl (by rw[af];lia),?_⟩
  have es:(lane'.map stT).set kN (.tup (List.take (2:Int).toNat [T.int d.n,.lst (d.fr.map sfT),d.dd]++[dd]))=(lane'.set kN ⟨d.n,d.fr,dd⟩).map stT:=by rw[gI];rfl
  rw[es]
  have L4:=L3.app (lane'.set kN ⟨d.n,d.fr,dd⟩)
  ac_nf
  dsimp only
  refine ca ⟨m - 1,by lia,_,kvs',kN+1,by lia,L4,lk'.set ek' (hdd.up (by decide)),by rw[cr];lia,by rw[cr];exact l3.1,by rw[cr];lia,rfl⟩
 .ac_nf
  refine L.fin ?_
  rw[<-hG1,gp4 nlk]
  have nk0:gput G la (.lst (lane.map stT)) kd=none:=by rw[gp_n nlk.symm];rwa [gp_n nlk.symm] at nkd
  exact eI nk0 (fun z=>nofun) (sU nla (aw (q lane lk.st h1 h24)))
def PlA:Nat->T->Prop
 | 0,_=>False
 | m+1,t=>(∃ i,t=.int i)\/(∃ x,t=.str x)\/(∃ b,t=.bl b)\/t=.non\/∃ ts,(t=.tup ts\/t=.lst ts)/\ts.length<=1000/\∀ u∈ts,PlA m u
def LkA (m:Nat) (G:GH) (x y:T):Prop:=(x=y/\PlA m x)\/∃ a us n,m=n+1/\x=.ptr a/\G a=some (.lst us)/\y=.lst us/\us.length<=1000/\∀ u∈us,PlA n u
theorem l_eqNN {P:Program} {w:World} {K:W.Frag} {G:GH} {k:T->GH->Prop} (h:k (.bl true) G):L2r P w K rEq .non .non G k:=fun H u v g r1 r2 Q z=>by
 cases r1;cases r2
 exact ⟨rfl,z.here g .bl h⟩
def io (m:Nat):Pre:=fun ts G k=>∃ x y,ts=[x,y]/\LkA m G x y/\k (.bl true) G
theorem sc__law_alike:FnScope ["found","due"] ["found","due"] (aD g7):=by walk_at"fs"
theorem al_0 (T__law_alike:TopFn K mg "_law_alike" g7 ["found","due"]):Callee P w K mg base "_law_alike" 1 ["found","due"] (spG P w K (io 0)):=by
 refine T__law_alike.okG sc__law_alike (by walk_at"lnx") fun f cdv A outer s H E ts G k hr hh=>?_
 obtain ⟨x,y,j,⟨j,h⟩|⟨a,us,n,h,j⟩,j⟩:=hh
 .exact h.elim
 .cases h
theorem Zlz {m lev:Nat} (B:Blt mg) (T__law_alike:TopFn K mg "_law_alike" g7 ["found","due"]) (Zbx:Callee P w K mg base "_law_alike" lev ["found","due"] (spG P w K (io m))):Callee P w K mg base "_law_alike" (lev+1) ["found","due"] (spG P w K (io (m+1))):=by
 refine T__law_alike.okG sc__law_alike (by walk_at"lnx") fun f cdv A outer s H E ts G k hr hh=>?_
 have nd:=sc__law_alike.nd
 have hu:=hr.units
 obtain ⟨x,y,rfl,h,q⟩:=hh
 refine' go_G [some x,some y] rfl ?hb ?hg
 case hb=>exact (ag (aH (fB (aO rf (by rfl) B.b_isinstance eW (xg 1 (aT (ar (bn (d9 (v:=.ty "list") (by rfl) B.b_list gP rfl) (bn (d9 (v:=.ty "tuple") (by rfl) B.b_tuple dR rfl) ab))) ab)))) (ag (aH (PW.pt (fK (jP (fB (aO rf (by rfl) B.b_isinstance eW (xg 0 (aT (ar (bn (d9 (v:=.ty "list") (by rfl) B.b_list gP rfl) (bn (d9 (v:=.ty "tuple") (by rfl) B.b_tuple dR rfl) ab))) ab))))) (hE (av i6 (aO gq (by rfl) B.b_isinstance eW (xg 0 (bn (d9 (v:=.ty "list") (by rfl) B.b_list gP rfl) ab))) (aO gq (by rfl) B.b_isinstance eW (xg 1 (bn (d9 (v:=.ty "list") (by rfl) B.b_list gP rfl) ab))) (au _))))) (ak (aB gY)) a8) (ag (aH (av i6 (aO (bw (K:=K) rfl) (by rfl) B.b_len bz (xh 0)) (aO (bw (K:=K) rfl) (by rfl) B.b_len bz (xh 1)) (au _)) (ak (aB gY)) a8) (ak (aB (aO (k_all (K:=K) rfl rfl) (by rfl) B.b_all bt_all (fh (xm ["k"] ["found","due"] [0,1] (cT rfl B.b_range (aK (aO (bw (K:=K) rfl) (by rfl) B.b_len bz (xh 1)) ab)) (fun r r r r r r=>(xj Zbx hr.m (aL (xc K (pv 1) (pv 0)) (aL (xc K (pv 2) (pv 0)) ab))))) ab)))))) a8) (ag (aH (PW.pt (fK (av i6 (aO gq (by rfl) B.b_isinstance eW (xg 0 (bn (d9 (v:=.ty "bool") (by rfl) B.b_bool t6 rfl) ab))) (aO gq (by rfl) B.b_isinstance eW (xg 1 (bn (d9 (v:=.ty "bool") (by rfl) B.b_bool t6 rfl) ab))) (au _)) (hE (av i6 (aO gq (by rfl) B.b_isinstance eW (xg 0 (bn (d9 (v:=.ty "int") (by rfl) B.b_int p7 rfl) ab))) (aO gq (by rfl) B.b_isinstance eW (xg 1 (bn (d9 (v:=.ty "int") (by rfl) B.b_int p7 rfl) ab))) (au _))))) (ak (aB gY)) a8) (ak (aB (lX (eZ aM (aO gq (by rfl) B.b_isinstance eW (xg 0 (bn (d9 (v:=.ty "str") (by rfl) B.b_str ke rfl) ab))) (aO gq (by rfl) B.b_isinstance eW (xg 1 (bn (d9 (v:=.ty "str") (by rfl) B.b_str ke rfl) ab))) (au _)) (pS (eZ aM (pv 0) (pv 1) (au _))))))))
 have hc:(x=y/\((∃ i,x=.int i)\/(∃ z,x=.str z)\/(∃ b,x=.bl b)\/x=.non))\/∃ ts,SqG G x ts/\SqG G y ts/\((∃ ts,SqI G x ts)\/(∀ a,x≠.ptr a)/\∀ xs,x≠.cst xs)/\((∃ ts,SqI G y ts)\/(∀ a,y≠.ptr a)/\∀ xs,y≠.cst xs)/\tyT G x=tyT G y/\(tyT G y == "list" || tyT G y == "tuple")=true/\ts.length<=1000/\∀ u∈ts,PlA m u:=by
  rcases h with ⟨rfl,h⟩|⟨a,us,n,e,rfl,ga,rfl,hl,hp⟩
  .rcases h with h|h|h|h|⟨ts,hx,hl,hp⟩
   .exact .inl ⟨rfl,.inl h⟩
   .exact .inl ⟨rfl,.inr (.inl h)⟩
   .exact .inl ⟨rfl,.inr (.inr (.inl h))⟩
   .exact .inl ⟨rfl,.inr (.inr (.inr h))⟩
   .refine .inr ⟨ts,?_⟩
    rcases hx with rfl|rfl
    .exact ⟨sg_t,sg_t,.inr ⟨nofun,nofun⟩,.inr ⟨nofun,nofun⟩,rfl,rfl,hl,hp⟩
    .exact ⟨sg_l,sg_l,.inr ⟨nofun,nofun⟩,.inr ⟨nofun,nofun⟩,rfl,rfl,hl,hp⟩
  .cases e
   exact .inr ⟨us,sg_p ga,sg_l,.inl ⟨us,.inr ⟨a,rfl,ga⟩⟩,.inr ⟨nofun,nofun⟩,ty_ptr ga,rfl,hl,hp⟩
 walk_at"wv"
 rcases hc with ⟨rfl,⟨i,rfl⟩|⟨z,rfl⟩|⟨b,rfl⟩|rfl⟩|⟨ts,sx,sy,kx,ky,ex,ty,hl,hp⟩
 .walk_at"wv"
  rw[aX rfl]
  exact aw q
 .walk_at"wv"
  rw[aX rfl]
  exact aw q
 .walk_at"wv"
  exact aw q
 .walk_at"wv"
  exact l_eqNN (aw q)
 .refine ⟨ky,?_⟩
  rw[ty]
  walk_at"wv"
  refine ⟨kx,?_⟩
  rw[ex,ty]
  walk_at"wv"
  refine ⟨kx,?_⟩
  rw[ex]
  walk_at"wv"
  refine ⟨ky,?_⟩
  walk_at"wv"
  refine b9 sx ?_
  walk_at"wv"
  refine b9 sy ?_
  walk_at"wv"
  rw[aX rfl]
  walk_at"wv"
  refine dF (fun Γ'=>∃ c,Γ'=[c,some x,some y]) ?_
  walk_at"wv"
  refine b9 sy ?_
  walk_at"wv"
  have hrl:(rngT (ts.length:Int).toNat).length=ts.length:=by unfold rngT;simp
  refine ⟨ts.length,rfl,by lia,by lia,by rw[hrl];lia,trivial,⟨_,rfl⟩,(ts.map fun r=>true).map T.bl,by rw[af,af,hrl],?_,?_⟩
  .rintro i z v Γ' hz hv ⟨c,rfl⟩
   unfold rngT at hz
   rw[cf,aq] at hz
   obtain ⟨j,ej,rfl⟩:=bc.mp hz
   rw[aq,aq] at hv
   cases et:ts[i]? with
   | none=>rw[et] at hv;cases hv
   | some t =>
   rw[et] at hv
   cases hv
   obtain ⟨hi,hj⟩:=ba.mp ej
   rw[getElem_range] at hj
   subst hj
   have at_:atI ts (i:Int)=some t:=di (n:=i) rfl et
   walk_at"wv"
   refine ⟨⟨_,rfl⟩,rfl,?_⟩
   walk_at"wv"
   refine l_ix sx at_ ?_
   walk_at"wv"
   refine l_ix sy at_ ?_
   walk_at"wv"
   exact ⟨t,t,rfl,.inl ⟨rfl,hp t (aE et)⟩,rfl,rfl⟩
  walk_at"wv"
  have hal:(ts.map fun r=>true).all id=true:=by rw[js];intro x hx;obtain ⟨r,r,rfl⟩:=bg.mp hx;rfl
  rw[hal]
  exact aw q
theorem uN (B:Blt mg) (T__law_alike:TopFn K mg "_law_alike" g7 ["found","due"]):∀ m,Callee P w K mg base "_law_alike" (m+1) ["found","due"] (spG P w K (io m))
 | 0=>al_0 T__law_alike
 | m+1=>Zlz B T__law_alike (uN B T__law_alike m)
theorem Zhr (B:Blt mg) (T__law_alike:TopFn K mg "_law_alike" g7 ["found","due"]):Callee P w K mg base "_law_alike" 11 ["found","due"] (spG P w K (io 10)):=by exact uN B T__law_alike 10
def ZlR:Pre:=fun ts G k=>∃ (b l:Addr) (m:Nat),ts=[.ptr b,.int m]/\G b=some (.bag l)/\m<=60/\∀ fl:List Fm,fl.length=m->(∀ g∈fl,Fo m (10 ^ 61) g)->k (.lst (fl.map fmT)) G
theorem sc__law_mixed:FnScope ["bag","many","found","w","form","k"] ["bag","many"] (aD lm):=by walk_at"fs"
theorem Zho (B:Blt mg) (T__law_mixed:TopFn K mg "_law_mixed" lm ["bag","many"]) (Zaf:Callee P w K mg base "_law_draw" 1 ["bag","many"] dH) (ZaT:Callee P w K mg base "_law_number" 2 ["bag"] j0) (Za4:Callee P w K mg base "_law_sum" 1 ["one","other","n"] (spG P w K j5)):Callee P w K mg base "_law_mixed" 3 ["bag","many"] (spG P w K ZlR):=by
 refine T__law_mixed.okG sc__law_mixed (by walk_at"lnx") fun f cdv A outer s H E ts G k hr hh=>?_
 have nd:=sc__law_mixed.nd
 obtain ⟨b,l,m,rfl,hb,hm,q⟩:=hh
 refine' go_G [some (.ptr b),some (.int m),none,none,none,none] rfl ?hb ?hg
 case hb=>exact (ag (gK (i:=2) nd rfl (Or.inl rfl) (be ab)) (ag (cz PassesOwn.never rfl (cT rfl B.b_range (xh 1)) (xl 3 nd) (ag (lb (i:=4) nd rfl (Or.inl rfl) (ar (aK (xj ZaT hr.m (xh 0)) (aT (ar ab) ab)))) (ag (cz PassesOwn.never rfl (cT rfl B.b_range (aK (xj Zaf hr.m (xg 0 (aj aa ab))) ab)) (xl 5 nd) (ak (bL (i:=4) nd rfl (Or.inl rfl) (xj Za4 hr.m (xg 4 (aT (ar (aj aa (aT (ar (aT (ar (aj aa (aK (xj Zaf hr.m (xg 0 (xh 1))) ab))) ab)) ab))) (bG (ao cw (xj Zaf hr.m (xg 0 (aj aa ab))) aa) ab))))))) (ak (cx (k_bm (K:=K) rfl PySem.F.plainAttrs_list PySem.F.slot_list_append PySem.F.type_list_append eE (pv 2) (xh 4))))))) (ak (aB (pv 2)))))
 refine bE (b0 (fg ?_))
 walk_at"wv"
 intro fa nfa
 have hrl:∀ n:Nat,(rngT (n:Int).toNat).length=n:=fun n=>by unfold rngT;simp
 have hbf:∀ c,gput G fa c b=some (.bag l):=fun c=>by rw[gp_n (fun e=>by rw[<-e,hb] at nfa;cases nfa)];exact hb
 walk_at"wv"
 refine ⟨m,rfl,by lia,by lia,fun i Γ' G'=>∃ (fl:List Fm) (c1 c2 c3:Option T),Γ'=[some (.ptr b),some (.int m),some (.ptr fa),c1,c2,c3]/\G'=gput G fa (.lst (fl.map fmT))/\fl.length=i/\∀ g∈fl,Fo m (10 ^ 61) g,⟨[],_,_,_,rfl,rfl,rfl,fun g h=>nomatch h⟩,fun z z z z=>trivial,?_,?_⟩
 .rintro i x Γ' G' hx ⟨fl,c1,c2,c3,rfl,rfl,hl,hf⟩
  have hi:i < m:=by have:=(ba.mp hx).1;rwa [hrl] at this
  walk_at"wv"
  refine lQ (hbf _) fun r hr9=>?_
  walk_at"wv"
  refine bf (hbf _) ⟨by decide,by decide⟩ fun n n0 n1=>?_
  walk_at"wv"
  refine ⟨n,rfl,by lia,by lia,fun j Γ' G'=>∃ (g:Fm) (c3:Option T),Γ'=[some (.ptr b),some (.int m),some (.ptr fa),some x,some (fmT g),c3]/\G'=gput G fa (.lst (fl.map fmT))/\Fo m (10 ^ 60+3 * j) g,⟨(r,[]),_,rfl,rfl,⟨hr9,(fun p h=>nomatch h),(fun p h=>nomatch h),cV⟩⟩,fun z z z z=>trivial,?_,?_⟩
  .rintro j y Γ' G' hy ⟨g,c3,rfl,rfl,hg⟩
   have hj:j < 3:=by
    have:=(ba.mp hy).1
    unfold rngT at this
    rw[af,kR] at this
    lia
   walk_at"wv"
   refine bf (hbf _) ⟨by lia,by lia⟩ fun v v0 v1=>?_
   walk_at"wv"
   refine bf (hbf _) ⟨by decide,by decide⟩ fun u u0 u1=>?_
   walk_at"wv"
   have big:10 ^ 60+3 * j<=10 ^ 900:=aR (jr (show 3 * j<=10 ^ 60 by lia) _) (by decide)
   have hw:Fo m 1 ((0,[(1,v)]):Fm):=⟨bD _,fun p hp=>by rw[aU.mp hp];exact aA 1,fun p hp=>by rw[aU.mp hp];exact ⟨v0,v1⟩,by simp⟩
   refine ⟨m,g,(0,[(1,v)]),u - 3,rfl,⟨hg.le (aA _) big,by lia⟩,⟨hw.le (aA _) (by decide),by lia⟩,aR (show (u - 3).natAbs<=3 by lia) (by decide),?_⟩
   walk_at"wv"
   dsimp only
   exact ca ⟨_,_,rfl,rfl,(jK (m:=u - 3) hg hw).le (aA _) (by lia)⟩
  .rintro Γ' G' ⟨g,c3,rfl,rfl,hg⟩
   walk_at"wv"
   refine ⟨ty_p gp_s,?_⟩
   walk_at"wv"
   refine eJ gp_s (by rw[af];lia) ?_
   rw[gp_p]
   dsimp only
   have el:fl.map fmT++[fmT g]=(fl++[g]).map fmT:=by rw[aJ];rfl
   rw[el]
   refine ca ⟨fl++[g],_,_,_,rfl,rfl,by rw[ax,hl];rfl,fun h hh=>?_⟩
   rcases aI.mp hh with hh|hh
   .exact hf h hh
   .rw[aU.mp hh]
    refine hg.le (aA _) ?_
    unfold rngT
    rw[af,kR]
    lia
 .rintro Γ' G' ⟨fl,c1,c2,c3,rfl,rfl,hl,hf⟩
  rw[hrl] at hl
  walk_at"wv"
  exact sU nfa (aw (q fl hl hf))
theorem j6 {m:Nat} (i:Int):PlA (m+1) (.int i):=.inl ⟨i,rfl⟩
theorem i9 {m:Nat} {x:T} {ts:List T} (h:x=.tup ts\/x=.lst ts) (hl:ts.length<=1000) (hp:∀ u∈ts,PlA m u):PlA (m+1) x:=.inr (.inr (.inr (.inr ⟨ts,h,hl,hp⟩)))
theorem m9 {α:Type} {m:Nat} {f:α->T} {l:List α} (h:∀ a∈l,PlA m (f a)):∀ u∈l.map f,PlA m u:=fun u hu=>by
 obtain ⟨a,ha,rfl⟩:=bg.mp hu
 exact h a ha
theorem pa_fm {g:Fm} (h:g.2.length<=1000):PlA 7 (fmT g):=i9 (.inl rfl) (by simp) fun u hu=>by
 rcases aG.mp hu with rfl|hu
 .exact j6 _
 rw[aU.mp hu]
 refine i9 (.inl rfl) (by rw[af];exact h) (m9 fun p j=>i9 (.inl rfl) (by simp) fun u hu=>?_)
 rcases aG.mp hu with rfl|hu
 .exact j6 _
 rw[aU.mp hu]
 exact j6 _
theorem pa_sf {t:SF} (h:t.2.2.length<=1000/\∀ g∈t.2.2,g.2.length<=1000):PlA 9 (sfT t):=i9 (.inl rfl) (by simp) fun u hu=>by
 rcases aG.mp hu with rfl|hu
 .exact j6 _
 rcases aG.mp hu with rfl|hu
 .exact j6 _
 rw[aU.mp hu]
 exact i9 (.inl rfl) (by rw[af];exact h.1) (m9 fun g hg=>pa_fm (h.2 g hg))
theorem wP_le {v : Int -> Int} {B W : Nat} (hv : ∀ w, (v w).natAbs <= W) : ∀ ps : List (Int × Int), (∀ p ∈ ps, p.1.natAbs <= B) -> (wP v ps).natAbs <= ps.length * (B * W)
  | [], _ => bD _
  | p :: ps, h => by
    have ih:=wP_le hv ps fun q hq=>h q (bH _ hq)
    have h1:(p.1 * v p.2).natAbs<=B * W:=by rw[jz];exact Nat.mul_le_mul (h p bi) (hv _)
    unfold wP at ih ⊢
    rw[aS,ce,cm,nA]
    lia
theorem und_le {ws:List Int} {B W n:Nat} {g:Fm} (hg:Fo n B g) (hw:∀ v∈ws,v.natAbs<=W):(undF ws g).natAbs<=B+n * (B * W):=by
 have h:=wP_le (v:=undV ws) (B:=B) (W:=W) (fun w=>by
  unfold undV
  rw[eA]
  cases e:ws[w.toNat]? with
  | none=>exact bD _
  | some v=>exact hw v (aE e)) g.2 hg.a
 have:=fw (B * W) hg.len
 have:=hg.c
 unfold undF
 lia
structure AsK (Q:List Df) (n:Nat) (ws:List Int) (f:List SF) (s:SF):Prop where
 pk:PgK Q
 fr:FrsOk Q n (10 ^ 200) f s
 cn:bR (f++[s])
 n4:n<=40
 wl:ws.length=n
 wb:∀ v∈ws,v.natAbs<=10 ^ 60
theorem un_ok {Q:List Df} {n B:Nat} {ws:List Int} {t:SF} (pk:PgK Q) (h:SfOk Q n B t) (hB:B<=10 ^ 900) (hn:n<=40) (hl:ws.length=n):t.2.2.length<=100/\∀ g∈t.2.2,UnOk ws g :=
 ⟨by have:=gu pk h;lia,fun g hg=>⟨by have:=(h.fm g hg).len;lia,fun p hp=>⟨((h.fm g hg).w p hp).1,by have:=((h.fm g hg).w p hp).2;lia,aR ((h.fm g hg).a p hp) hB⟩⟩⟩
theorem pl_ok {Q:List Df} {n B:Nat} {t:SF} (pk:PgK Q) (h:SfOk Q n B t) (hn:n<=40):PlA 9 (sfT t):=pa_sf ⟨by have:=gu pk h;lia,fun g hg=>by have:=(h.fm g hg).len;lia⟩
theorem AsK.go {Q:List Df} {n:Nat} {ws:List Int} {f:List SF} {s:SF} {l:List SF} (h:AsK Q n ws f s) (e:cB Q f s=some l):∃ r d,cX Q s.1 s.2.1=some r/\0<=s.1/\Q[s.1.toNat]?=some d/\0<=s.2.1/\d.rows[s.2.1.toNat]?=some r/\GoOk Q (f.map (undS ws)) (undS ws s) r:=by
 have hs:=h.fr.all s (by simp)
 obtain ⟨d,r,hd,h2,hrow,h4,h0,h3,h5⟩:=dX hs
 have ok:=(h.pk.ok.2.2 d hd).rows r (aE h4)
 have e':=e
 unfold cB at e'
 rw[hrow] at e'
 refine ⟨r,d,hrow,h0,h2,h3,h4,h.pk,⟨d.rows.length,?_⟩,⟨?_,?_⟩,?_,?_,?_⟩
 .show r.Ok Q ((s.2.2.map (undF ws)).length:Int) _
  rw[af,h5]
  exact ok
 .rintro p rfl;cases e'
 .rintro p rfl;cases e'
 .intro v hv
  obtain ⟨g,hg,rfl⟩:=bg.mp hv
  refine aR (und_le (hs.fm g hg) h.wb) (aR (jr (fw _ h.n4) _) (by decide))
 .rintro p rfl
  dsimp only [bW] at e'
  cases hc:f.getLast? with
  | none=>rw[hc] at e';cases e'
  | some c =>
   obtain ⟨f',rfl⟩:=jB.mp hc
   obtain ⟨p2,g2,qs2,hcr⟩:=h.fr.call c (by simp)
   obtain ⟨dc,rc,hdc,ec2,hrc,ec4,ec0,ec30,ec5⟩:=dX (h.fr.all c (by simp))
   rw[hcr] at hrc
   cases hrc
   have okc:=(h.pk.ok.2.2 dc hdc).rows _ (aE ec4)
   refine ⟨f'.map (undS ws),undS ws c,p2,g2,qs2,dc,by rw[aJ];rfl,ec0,ec2,ec30,ec4,?_⟩
   show In0 p2 ((c.2.2.map (undF ws)).length:Int)
   rw[af,ec5]
   exact okc.1
 .have:=h.fr.few
  rw[af]
  lia
def ZlS:Pre:=fun ts G k=>∃ (Q:List Df) (n:Nat) (ws:List Int) (f:List SF) (s:SF),ts=[pgT Q,.lst ((f++[s]).map sfT),.lst (ws.map T.int)]/\AsK Q n ws f s/\k (.bl true) G
theorem sc__law_asked:FnScope ["program","signs","words","due","handed","found","state","held"] ["program","signs","words"] (aD mU):=by walk_at"fs"
theorem Zhp (B:Blt mg) (T__law_asked:TopFn K mg "_law_asked" mU ["program","signs","words"]) (ZaS:Callee P w K mg base "_law_silent" 3 ["program","signs"] (spG P w K lL)) (Csilent:Callee P w K mg base "silent" 5 ["program","frames"] (spG P w K ui)) (Zbx:Callee P w K mg base "_law_alike" 11 ["found","due"] (spG P w K (io 10))) (Zcx:Callee P w K mg base "_law_frames" 2 ["signs","words"] (spG P w K ut)) (Zem:Callee P w K mg base "_law_step" 3 ["program","state"] (spG P w K se)):Callee P w K mg base "_law_asked" 12 ["program","signs","words"] (spG P w K ZlS):=by
 refine T__law_asked.okG sc__law_asked (by walk_at"lnx") fun f cdv A outer s H E ts G k hr hh=>?_
 have nd:=sc__law_asked.nd
 have hu:=hr.units
 obtain ⟨Q,n,ws,f,s,rfl,h,q⟩:=hh
 refine' go_G [some (pgT Q),some (.lst ((f++[s]).map sfT)),some (.lst (ws.map T.int)),none,none,none,none,none] rfl ?hb ?hg
 case hb=>exact (ag (bL (i:=3) nd rfl (Or.inl rfl) (xj ZaS hr.m (xg 0 (xh 1)))) (ag (bL (i:=4) nd rfl (Or.inl rfl) (cN (nZ (K:=K) rfl) (by rfl) B.b_list gP (xh 1))) (ag (bL (i:=5) nd rfl (Or.inl rfl) (xj Csilent hr.m (xg 0 (xh 4)))) (ag (aH (PW.pt (fK (jP (fB (xj Zbx hr.m (xg 5 (xh 3))))) (hE (jP (fB (xj Zbx hr.m (xg 4 (xh 1)))))))) (ak (aB gY)) a8) (ag (aH (av uj (pv 5) fq (au _)) (ak (aB gY)) a8) (ag (gK (i:=6) nd rfl (Or.inl rfl) (be (aK (xj Zcx hr.m (xg 1 (xh 2))) (iy (be ab) (iy (be ab) (aj aa (aj fq ab))))))) (ag (cx (xj Zem hr.m (xg 0 (xh 6)))) (ag (cv (i:=7) nd rfl (Or.inl rfl) (lX (eZ (op_eqA hu) (xj Zcx hr.m (xg 5 (xh 2))) (xc K (pv 6) aa) (au _)) (lX (eZ (k_eqZ (K:=K) rfl hu) (xc K (pv 6) aa) (be ab) (au _)) (pS (eZ aM (xc K (pv 6) aa) aa (au _)))))) (ag (cx (k_bm (K:=K) rfl PySem.F.plainAttrs_list PySem.F.slot_list_append PySem.F.type_list_append eE (pv 5) (aj fq ab))) (ak (aB (lX (pv 7) (pS (xj Zbx hr.m (aK (xj Csilent hr.m (xg 0 (xh 4))) (xh 3))))))))))))))))
 have n40:=h.n4
 have few:=h.fr.few
 have hl4:(f++[s]).length<=4:=by rw[ax];simp;lia
 have wso:WsOk ws:=fun v hv=>aR (h.wb v hv) (by decide)
 have sl:SlOk Q n (10 ^ 200) f s:=⟨h.pk,h.fr,by decide,by lia⟩
 have pap:LkA 10 G (.lst ((f++[s]).map sfT)) (.lst ((f++[s]).map sfT)):=.inl ⟨rfl,i9 (.inr rfl) (by rw[af];lia) (m9 fun t ht=>pl_ok h.pk (h.fr.all t ht) n40)⟩
 walk_at"wv"
 refine ⟨Q,f,s,n,10 ^ 200,_,rfl,si_l,h.pk,h.fr,h.cn,by lia,by decide,?_⟩
 rw[uC]
 walk_at"wv"
 refine tT sg_l ?_
 walk_at"wv"
 refine ⟨Q,n,10 ^ 200,f,s,_,rfl,si_l,sl,?_⟩
 cases e:cB Q f s with
 | none =>
  show Wg P w K _ _ _ _ _
  walk_at"wv"
  refine ⟨_,_,rfl,.inl ⟨rfl,.inr (.inr (.inr (.inl rfl)))⟩,?_⟩
  walk_at"wv"
  refine ⟨_,_,rfl,pap,?_⟩
  walk_at"wv"
  exact aw q
 | some l =>
  intro a na
  obtain ⟨f2,s2,rfl,F2⟩:=sf h.pk (by decide) h.fr e
  have al:∀ {G':GH} {a':Addr},G' a'=some (.lst ((f2++[s2]).map sfT))->LkA 10 G' (.ptr a') (.lst ((f2++[s2]).map sfT)):=fun {G' a'} ga=>.inr ⟨a',_,9,rfl,rfl,ga,rfl,by have:=F2.few;rw[af,ax];simp;lia,m9 fun t ht=>pl_ok h.pk (F2.all t ht) n40⟩
  show Wg P w K _ _ _ _ _
  walk_at"wv"
  refine ⟨_,_,rfl,al gp_s,?_⟩
  walk_at"wv"
  refine ⟨_,_,rfl,.inl ⟨rfl,?_⟩,?_⟩
  .rcases pap with ⟨j,z⟩|⟨j,j,j,j,z,j⟩
   .exact z
   .cases z
  refine gT (iteF (eM ?_))
  refine bE (dZ (tZ false ?_ (iteF (eM ?_))))
  .walk_at"wv"
   exact ⟨rfl,rfl⟩
  refine bE (b0 (fg ?_))
  walk_at"wv"
  refine ⟨f++[s],ws,_,_,rfl,si_l,si_l,by lia,fun t ht=>un_ok h.pk (h.fr.all t ht) (by decide) n40 h.wl,wso,fun G1 fl xs ys FS=>?_⟩
  walk_at"wv"
  intro st nst
  have F1:=FS.side (c:=.lst [.ptr fl,.lst [],.lst [],.int 0,.non]) (FS.noN nst)
  have ast:a≠st:=fun z=>by rw[<-z,FS.keep gp_s] at nst;cases nst
  have gst0:gput G a (.lst ((f2++[s2]).map sfT)) st=none:=FS.sub.none nst
  obtain ⟨r,d,hrow,h0,h2,h3,h4,go⟩:=h.go e
  rw[show (f++[s]).map (undS ws)=f.map (undS ws)++[undS ws s] by rw[aJ];rfl] at F1
  walk_at"wv"
  refine ⟨Q,_,st,fl,xs,ys,f.map (undS ws),undS ws s,r,d,.lst [],.lst [],0,rfl,gp_s,F1,h0,h2,h3,h4,go,fun G2 xs' ys' gs' F2'=>?_⟩
  rw[<-Zj1 ws hrow e,gp_p] at F2'
  have ga2:G2 a=some (.lst ((f2++[s2]).map sfT)):=F2'.keep (by rw[gp_n ast];exact gp_s)
  have gs2:=F2'.keep gp_s
  have sub2:Sub G G2:=((Sub.rfl'.put na).trans (Sub.rfl'.put gst0)).trans F2'.sub
  walk_at"wv"
  refine ⟨f2++[s2],ws,_,_,rfl,si_p ga2,si_l,by have:=F2.few;rw[ax];simp;lia,fun t ht=>un_ok h.pk (F2.all t ht) (by decide) n40 h.wl,wso,fun G3 fl3 xs3 ys3 FS3=>?_⟩
  have gs3:=FS3.keep gs2
  have ga3:=FS3.keep ga2
  have sub3:Sub G G3:=sub2.trans FS3.sub
  walk_at"wv"
  refine l_ix (sg_p gs3) at_0 ?_
  refine l_eqA (ZnV F2' (fun b c z=>FS3.keep z) FS3) ?_
  walk_at"wv"
  refine l_ix (sg_p gs3) at_2 ?_
  walk_at"wv"
  refine l_eqZ si_l si_l ?_
  walk_at"wv"
  refine l_ix (sg_p gs3) (di (n:=3) rfl rfl) ?_
  walk_at"wv"
  refine ⟨ty_p ga3,?_⟩
  walk_at"wv"
  refine eJ ga3 (by have:=F2.few;rw[af,ax];simp;lia) ?_
  have sub4:Sub G (gput G3 a (.lst ((f2++[s2]).map sfT++[.non]))):=sub3.put na
  walk_at"wv"
  refine ⟨Q,n,10 ^ 200,f,s,_,rfl,si_l,sl,?_⟩
  rw[e]
  intro a2 na2
  walk_at"wv"
  refine ⟨_,_,rfl,al gp_s,?_⟩
  walk_at"wv"
  exact f9 (sub4.put (sub4.none na2)) (aw q)
end
end My
end
end
namespace My
open PySem L2
local macro_rules | `(tactic| walk_at"w1") => `(tactic| (first | ((with_reducible refine' eR ?e ?_); (case e => exact rfl)) | with_reducible (first|refine fZ ?_|refine iI ?_|refine ir ?_|refine ix ?_|refine iD ?_|refine iR ?_|refine d8 ?_|refine gh ?_|refine iH ?_|refine iL ?_) | ((with_reducible refine' lU ?e ?_); (case e => decide)) | with_reducible (first|refine we_sortsetA ?_|refine qR ?_|refine we_lrng ?_|refine im ?_|refine iU ?_|refine je ?_|refine ii ?_|refine iO ?_|refine ik ?_|refine wt_b ?_|refine jj ?_|refine jb ?_|refine jh ?_|refine fz ?_|refine iz ?_|refine we_orV ?_|refine we_notV ?_|refine iS ?_|refine we_chain ?_|refine eM ?_|refine bE ?_|refine b0 ?_|refine aW ?_|refine dU ?_|refine b7 ?_|refine dZ ?_|refine eX ?_|refine fE ?_|refine ws_break ?_|refine ws_cont ?_|refine hU ?_|refine we_fld ?_|refine we_bits ?_|refine gt ?_|refine g8 ?_|refine we_meth ?_|refine we_make ?_|refine iC ?_|refine oj ?_|refine iN ?_|refine oz ?_|refine oH ?_|refine pQ ?_|refine wt_dni ?_|refine jc ?_|refine iA ?_|refine iY ?_|refine wi_enum ?_|refine wi_enumT ?_|refine wi_zip ?_|refine ws_sfld ?_|refine i5 ?_|refine we_nnew ?_|refine we_nget ?_|refine we_nset ?_|refine we_csget ?_|refine we_lzip ?_|refine l_any ?_|refine ja ?_|refine iu ?_|refine l_II ?_|refine l_IB ?_|refine l_U ?_|refine qY ?_|refine rg ?_|refine i7 ?_|refine iV ?_|refine iW ?_|refine l_neS ?_|refine gZ ?_|refine iQ ?_|refine i8 ?_|refine iP ?_|refine gT ?_|refine ji ?_|refine iM ?_|refine gJ ?_|refine iteNF ?_|refine iteF ?_|refine iteT ?_) | ((with_reducible refine' tk_d ?e ?_); (case e => exact rfl)) | ((with_reducible refine' bX ?e ?_); (case e => exact rfl)) | ((with_reducible refine' iT ?e ?_); (case e => exact rfl)) | ((with_reducible refine' cC ?e ?_); (case e => first | exact rfl | exact at_0 | exact at_1 | exact at_2)) | ((with_reducible refine' jV ?e ?_); (case e => exact rfl)) | with_reducible (first|refine kj ?_|refine j4 ?_) | ((with_reducible refine' jX ?e ?_); (case e => exact rfl)) | ((with_reducible refine' jI ?e ?_); (case e => exact rfl))))
local macro_rules | `(tactic| walk_at"ln") => `(tactic| (intro _ _ _ h; repeat (first | (rw [h.1]; rfl) | (obtain ⟨_, h⟩ := h))))
local macro_rules | `(tactic| walk_at"w") => `(tactic| (repeat walk_at"w1"))
section
variable {P:Program} {w:World} {K:W.Frag} {mg:Str->Option Value} {base:Heap} {C:Addr}
theorem sc_law:FnScope ["script","bag","mixed","program","lane","many","paper","deed","words"] ["script"] (aD lV):=⟨rfl,rfl,rfl,by decide +kernel,rfl,by decide +kernel,by decide +kernel⟩
theorem qe {f:Addr} {fd:FuncData} (B:Blt mg) (G:Glb K mg) (T__law_draw:TopFn K mg "_law_draw" mf ["bag","many"]) (T__law_number:TopFn K mg "_law_number" lp ["bag"]) (T__law_bag:TopFn K mg "_law_bag" l0 ["script"]) (T__law_row:TopFn K mg "_law_row" lW ["bag","boxes","many","signs"]) (T__law_def:TopFn K mg "_law_def" lD ["bag","signs","sign"]) (T__law_program:TopFn K mg "_law_program" me ["bag"]) (T__law_sum:TopFn K mg "_law_sum" lZ ["one","other","n"]) (T__law_put:TopFn K mg "_law_put" m4 ["form","forms"]) (T__law_words:TopFn K mg "_law_words" mK ["many"]) (T__law_reckoned:TopFn K mg "_law_reckoned" mN ["row","forms"]) (T__law_silent:TopFn K mg "_law_silent" kZ ["program","signs"]) (T__law_signs_put:TopFn K mg "_law_signs_put" kT ["signs","forms"]) (T__law_at:TopFn K mg "_law_at" lR ["signs","at"]) (T__law_laid:TopFn K mg "_law_laid" ml ["bag","lane","frames","known"]) (T__law_as_is:TopFn K mg "_law_as_is" k7 ["lane","keys","frames"]) (T__law_target:TopFn K mg "_law_target" mJ ["bag","lane","keys","frames"]) (T__law_edge:TopFn K mg "_law_edge" mZ ["bag","program","lane","keys","frames","rows"]) (T__law_deed:TopFn K mg "_law_deed" l5 ["bag","program","lane","keys","stand"]) (T__law_lane:TopFn K mg "_law_lane" m6 ["bag","program"]) (T_plain:TopFn K mg "plain" ma ["n"]) (T_is_plain:TopFn K mg "is_plain" lH ["form"]) (T_gather:TopFn K mg "gather" l6 ["numbers","form","n"]) (T_with_numbers:TopFn K mg "with_numbers" lS ["c","numbers"]) (T_joined:TopFn K mg "joined" mX ["one","other","n"]) (T_plus:TopFn K mg "plus" k8 ["one","other"]) (T_less:TopFn K mg "less" mH ["one","other"]) (T_times:TopFn K mg "times" mP ["form","n"]) (T_row_of:TopFn K mg "row_of" kX ["program","frame"]) (T_goes_to_row:TopFn K mg "goes_to_row" mr ["row","number"]) (T_with_box:TopFn K mg "with_box" lE ["frames","p","form"]) (T_at_row:TopFn K mg "at_row" lT ["frames","at"]) (T_reckoned:TopFn K mg "reckoned" nc ["row","forms"]) (T_tested:TopFn K mg "tested" l8 ["frames","row"]) (T_called:TopFn K mg "called" lY ["program","row","forms"]) (T_silent:TopFn K mg "silent" mC ["program","frames"]) (T__law_under:TopFn K mg "_law_under" mj ["form","words"]) (T__law_frames:TopFn K mg "_law_frames" lN ["signs","words"]) (T__law_worth:TopFn K mg "_law_worth" lP ["state","row","boxes"]) (T__law_goes:TopFn K mg "_law_goes" lq ["program","state","row","boxes"]) (T__law_step:TopFn K mg "_law_step" lc ["program","state"]) (T__law_alike:TopFn K mg "_law_alike" g7 ["found","due"]) (T__law_mixed:TopFn K mg "_law_mixed" lm ["bag","many"]) (T__law_asked:TopFn K mg "_law_asked" mU ["program","signs","words"]) (T_law:Fun K "law" "law" lV f fd):FnOk P w K mg base CX0 14 f fd ["script"] (j8 K):=by
 have Zaf:=Zh3 (P:=P) (w:=w) (base:=base) B T__law_draw
 have ZaT:=ZgB (P:=P) (w:=w) (base:=base) T__law_number Zaf
 have Zlu:=ZjD (P:=P) (w:=w) (base:=base) B T__law_bag
 have Zfq:=ZjA (P:=P) (w:=w) (base:=base) B T__law_row Zaf ZaT
 have Zfs:=ZjC (P:=P) (w:=w) (base:=base) B T__law_def Zaf Zfq
 have ZgE:=ZfA (P:=P) (w:=w) (base:=base) B T__law_program Zaf Zfs
 have Za4:=Zjz (P:=P) (w:=w) (base:=base) B T__law_sum
 have Zfr:=ZjB (P:=P) (w:=w) (base:=base) B T__law_put Za4
 have Za9:=Zhm (P:=P) (w:=w) (base:=base) B T__law_words
 have ZcF:=Zfl (P:=P) (w:=w) (base:=base) B T__law_reckoned Za4
 have ZaS:=ZgA (P:=P) (w:=w) (base:=base) B T__law_silent ZcF
 have ZbH:=ZeB (P:=P) (w:=w) (base:=base) B T__law_signs_put Zfr
 have Zec:=Zlh (P:=P) (w:=w) (base:=base) B T__law_at
 have Zen:=Zh0 (P:=P) (w:=w) (base:=base) B T__law_laid Zaf
 have ZdO:=Zhq (P:=P) (w:=w) (base:=base) B T__law_as_is Za9
 have Zbz:=Zgz (P:=P) (w:=w) (base:=base) B T__law_target Zaf ZdO Zen Za4
 have ZbA:=Zh2 (P:=P) (w:=w) (base:=base) B T__law_edge ZaS Zbz
 have Zep:=Zh4 (P:=P) (w:=w) (base:=base) B T__law_deed Zaf ZaT ZaS Za9 ZbH Zec ZbA
 have ZjG:=ZhZ (P:=P) (w:=w) (base:=base) B T__law_lane Zaf Za9 Zbz Zep
 have Cplain:=Zn5 (P:=P) (w:=w) (base:=base) T_plain
 have Cis_plain:=Zjy (P:=P) (w:=w) (base:=base) B T_is_plain
 have Cgather:=Zml (P:=P) (w:=w) (base:=base) B T_gather
 have Cwith_numbers:=Zfz (P:=P) (w:=w) (base:=base) B T_with_numbers
 have Cjoined:=Zmk (P:=P) (w:=w) (base:=base) T_joined Cgather Cwith_numbers
 have Cplus:=c_plus (P:=P) (w:=w) (base:=base) T_plus Cjoined
 have Cless:=c_less (P:=P) (w:=w) (base:=base) T_less Cjoined
 have Ctimes:=Zn4 (P:=P) (w:=w) (base:=base) T_times Cgather Cwith_numbers
 have Crow_of:=Zmj (P:=P) (w:=w) (base:=base) T_row_of
 have Cgoes_to_row:=Zgy (P:=P) (w:=w) (base:=base) T_goes_to_row
 have Cwith_box:=Zjw (P:=P) (w:=w) (base:=base) T_with_box
 have Cat_row:=Zmn (P:=P) (w:=w) (base:=base) T_at_row
 have Creckoned:=Zjx (P:=P) (w:=w) (base:=base) T_reckoned Cplain Cplus Cless Ctimes
 have Ctested:=Zmh (P:=P) (w:=w) (base:=base) T_tested Cgoes_to_row Cat_row
 have Ccalled:=Zmm (P:=P) (w:=w) (base:=base) B T_called Cplain
 have Csilent:=Zmi (P:=P) (w:=w) (base:=base) B G T_silent Crow_of Cwith_box Creckoned Cat_row Cis_plain Ctested Ccalled
 have ZdN:=Zhn (P:=P) (w:=w) (base:=base) B T__law_under
 have Zcx:=ZgC (P:=P) (w:=w) (base:=base) B T__law_frames ZdN
 have ZdM:=Zhl (P:=P) (w:=w) (base:=base) B T__law_worth
 have Zeo:=Zh1 (P:=P) (w:=w) (base:=base) B T__law_goes ZdM
 have Zem:=ZhY (P:=P) (w:=w) (base:=base) B T__law_step Zeo
 have Zbx:=Zhr (P:=P) (w:=w) (base:=base) B T__law_alike
 have Zh5:=Zho (P:=P) (w:=w) (base:=base) B T__law_mixed Zaf ZaT Za4
 have Zh6:=Zhp (P:=P) (w:=w) (base:=base) B T__law_asked ZaS Csilent Zbx Zcx Zem
 refine T_law.law (k:=13) sc_law fun cdv A outer s H a ns Q E hr hS hlen k=>?_
 have nd:=sc_law.nd
 have hu:=hr.units
 refine' mn [some (.ref a),none,none,none,none,none,none,none,none] rfl ?hb ?hg
 case hb=>exact (ag (bL (i:=1) nd rfl (Or.inr rfl) (xj Zlu hr.m (xh 0))) (ag (bL (i:=2) nd rfl (Or.inl rfl) (xj Zaf hr.m (xg 1 (aj aa ab)))) (ag (bL (i:=3) nd rfl (Or.inl rfl) (xj ZgE hr.m (xh 1))) (ag (bL (i:=4) nd rfl (Or.inl rfl) (xj ZjG hr.m (xg 1 (xh 3)))) (ag (cz PassesOwn.never rfl (dI (K:=K) rfl (pv 4)) (cb (K:=K) (n:=3) rfl rfl (aF (xl 5 nd) (aF (xl 6 nd) (aF (xl 7 nd) bQ)))) (ag (jT (i:=8) (LN:=["k"]) (FN:=["bag"]) (fr:=[1]) rfl nd rfl rfl (cR (by rfl)) (cT rfl B.b_range (xh 5)) (fun j j j j j j=>(xl 0 (show ((["k"]:List Str)++(["bag"]:List Str)).Nodup by decide +kernel))) (fun j j j j j j=>dh) (fun j j j j j j=>(xj ZaT hr.m (xh 1)))) (ag (aH (av aM (pv 2) aa (au _)) (ak (bL (i:=6) nd rfl (Or.inl rfl) (xj ZbH hr.m (xg 6 (aK (xj Zh5 hr.m (xg 1 (xh 5))) ab))))) a8) (ak (aH (jP (fB (xj Zh6 hr.m (xg 3 (xg 6 (xh 8)))))) (ak (aB gY)) a8))))) (ak (aB gY)))))))
 refine law_go (P:=P) (w:=w) 7 hS hlen k fun b l=>?_
 show Ws P w K _ [none,some (.ptr b),none,none,none,none,none,none,none] _ _
 have hb:gput g0 b (.bag l) b=some (.bag l):=gp_s
 generalize gput g0 b (.bag l)=G at hb
 walk_at"w"
 refine bf hb ⟨by decide,by decide⟩ fun v v0 v1=>?_
 walk_at"w"
 refine ⟨b,l,rfl,hb,fun Q pk=>?_⟩
 walk_at"w"
 refine ⟨b,l,Q,rfl,hb,pk,fun lane lk h1 h24=>?_⟩
 walk_at"w"
 refine ⟨_,si_l,fun i Γ' G1=>G1=G/\∃ c1 c2 c3 c4,Γ'=[none,some (.ptr b),some (.int v),some (pgT Q),some (.lst (lane.map stT)),c1,c2,c3,c4],⟨rfl,_,_,_,_,rfl⟩,fun j j j j=>si_l,?_,?_⟩
 .rintro i x Γ' G1 hx ⟨rfl,c1,c2,c3,c4,rfl⟩
  rw[aq] at hx
  obtain ⟨d,ed,rfl⟩:=bc.mp hx
  obtain ⟨pp,j⟩:=lk d (aE ed)
  obtain ⟨f,s,efr,ho⟩:=pp.ex
  have cn:=pp.cn
  have n40:=pp.nb
  rw[efr] at cn
  refine bX rfl (b7 (aW (b7 (aW (b7 (aW (dU ?_)))))))
  walk_at"w"
  refine jf ?_
  walk_at"w"
  refine ⟨d.n,rfl,by lia,by lia,?_⟩
  have hrl:(rngT (d.n:Int).toNat).length=d.n:=by unfold rngT;simp
  refine ⟨by rw[hrl];lia,fun i acc Γ' G'=>G'=G1/\(∃ c,Γ'=[c,some (.ptr b)])/\∃ ws:List Int,acc=ws.map T.int/\ws.length=i/\∀ v∈ws,v.natAbs<=10 ^ 60,⟨rfl,⟨_,rfl⟩,[],rfl,rfl,fun v h=>nomatch h⟩,fun j j j j j=>trivial,?_,?_⟩
  .rintro i z acc Γ' G' hz ⟨rfl,⟨c',rfl⟩,ws,rfl,hl,hw⟩
   walk_at"w"
   refine lQ hb fun u hu9=>?_
   refine ⟨rfl,⟨_,rfl⟩,ws++[u],by rw[aJ];rfl,by rw[ax,hl];rfl,fun v hv=>?_⟩
   rcases aI.mp hv with hv|hv
   .exact hw v hv
   .rw[aU.mp hv];exact hu9
  rintro acc Γ' G' ⟨rfl,⟨c',rfl⟩,ws,rfl,hl,hw⟩
  rw[hrl] at hl
  walk_at"w"
  have b200:10 ^ 60+63 * (10 ^ 60 * 10 ^ 61)<=10 ^ 200:=by decide
  have up:∀ {B:Nat} {f:List SF} {s:SF},B<=10 ^ 200->FrsOk Q d.n B f s->FrsOk Q d.n (10 ^ 200) f s:=fun {B f s} hB h=>⟨h.few,fun t ht=>(h.all t ht).le (aA _) hB,h.call⟩
  refine cA (fun hv=>?_) fun hv=>?_
  .walk_at"w"
   refine ⟨b,l,d.n,rfl,hb,by lia,fun fl hfl hfo=>?_⟩
   walk_at"w"
   refine ⟨d.n,10 ^ 60,10 ^ 61,d.fr,fl,_,_,rfl,si_l,si_l,by have:=ho.few;rw[efr,ax];simp;lia,fun t ht=>?_,by lia,by lia,hfo,by decide,by decide,?_⟩
   .rw[efr] at ht
    have hs:=ho.all t ht
    exact ⟨by have:=gu pk hs;lia,fun g hg=>by rw[hfl];exact hs.fm g hg⟩
   have e2:d.fr.map (dY fl)=f.map (dY fl)++[dY fl s]:=by rw[efr,aJ];rfl
   rw[e2]
   walk_at"w"
   refine ⟨Q,d.n,ws,_,_,rfl,⟨pk,up b200 (sZ ho (by lia) (by lia) hfo),?_,n40,hl,hw⟩,?_⟩
   .rw[<-e2]
    exact uP
   walk_at"w"
   dsimp only
   exact ca ⟨rfl,_,_,_,_,rfl⟩
  .rw[efr]
   walk_at"w"
   refine ⟨Q,d.n,ws,f,s,rfl,⟨pk,up (by decide) ho,cn,n40,hl,hw⟩,?_⟩
   walk_at"w"
   dsimp only
   exact ca ⟨rfl,_,_,_,_,rfl⟩
 .rintro Γ' G1 ⟨rfl,c1,c2,c3,c4,rfl⟩
  walk_at"w"
  exact aw rfl
end
section
open PySem.W PyProof.Rows
theorem ZnK (w:World) {mg:Str->Option Value} {fa:Addr} {h:Heap} (X:(KK w.params).In h) (G:h.Ns mainGlobals mg) (hfa:mg "law"=some (.ref fa)):∃ fd:FuncData,(∀ (s:Shared) (v:Value),BindsTo s fd ⟨[v],[]⟩ [("script",v)])/\∀ base:Heap,(KK w.params).In base->base.Ns mainGlobals mg->FnOk PySem.Challenge.rw_midlanes_k31_silent_rows.prog w (KK w.params) mg base CX0 14 fa fd ["script"] (j8 (KK w.params)):=by
 cases hfa.symm.trans (gv X G (v:=.ref 294))
 have GG:Glb (KK w.params) mg:=⟨⟨281,gv X G⟩,⟨69,gv X G,_,_,_,lo 69 (oT #[xs "put" 257,xs "copy" 258,xs "plus" 259,xs "less" 260,xs "times" 261]),rfl,rfl,mk_le rfl,.cons ⟨_,rfl⟩ (.cons ⟨_,rfl⟩ (.cons ⟨_,rfl⟩ (.cons ⟨_,rfl⟩ (.cons ⟨_,rfl⟩ (.nil)))))⟩⟩
 exact ⟨_,fun s v=>.of_eq rfl,fun base j j=>qe (B:=⟨gz X G,gz X G,gz X G,gz X G,gz X G,gz X G,gz X G,gz X G,gz X G,gz X G,gz X G,gz X G,gz X G,gz X G⟩) (G:=GG) (T_plain:=(tf1 X G 21 "midlanes.forms" 187 20)) (T_plus:=(tf2 X G 28 "midlanes.forms" 187 27)) (T_less:=(tf2 X G 35 "midlanes.forms" 187 34)) (T_times:=(tf2 X G 42 "midlanes.forms" 187 41)) (T_is_plain:=(tf1 X G 49 "midlanes.forms" 187 48)) (T_joined:=(tf3 X G 56 "midlanes.forms" 187 55)) (T_gather:=(tf3 X G 63 "midlanes.forms" 187 62)) (T_with_numbers:=(tf2 X G 68 "midlanes.forms" 187 67)) (T_row_of:=(tf2 X G 76 "midlanes.rows" 255 75)) (T_goes_to_row:=(tf2 X G 83 "midlanes.rows" 255 82)) (T_silent:=(tf2 X G 90 "midlanes.papers" 279 89)) (T_reckoned:=(tf2 X G 97 "midlanes.papers" 279 96)) (T_with_box:=(tf3 X G 104 "midlanes.papers" 279 103)) (T_at_row:=(tf2 X G 111 "midlanes.papers" 279 110)) (T_tested:=(tf2 X G 118 "midlanes.papers" 279 117)) (T_called:=(tf3 X G 123 "midlanes.papers" 279 122)) (T__law_bag:=(tf1 X G 128 LN0 336 127)) (T__law_draw:=(tf2 X G 135 LN0 336 134)) (T__law_number:=(tf1 X G 142 LN0 336 141)) (T__law_row:=(tf4 X G 147 LN0 336 146)) (T__law_def:=(tf3 X G 152 LN0 336 151)) (T__law_program:=(tf1 X G 157 LN0 336 156)) (T__law_step:=(tf2 X G 171 LN0 336 170)) (T__law_goes:=(tf4 X G 176 LN0 336 175)) (T__law_worth:=(tf3 X G 183 LN0 336 182)) (T__law_sum:=(tf3 X G 188 LN0 336 187)) (T__law_put:=(tf2 X G 195 LN0 336 194)) (T__law_reckoned:=(tf2 X G 202 LN0 336 201)) (T__law_silent:=(tf2 X G 207 LN0 336 206)) (T__law_signs_put:=(tf2 X G 212 LN0 336 211)) (T__law_words:=(tf1 X G 217 LN0 336 216)) (T__law_laid:=(tf4 X G 222 LN0 336 221)) (T__law_as_is:=(tf3 X G 227 LN0 336 226)) (T__law_target:=(tf4 X G 232 LN0 336 231)) (T__law_edge:=(tf6 X G 239 LN0 336 238)) (T__law_at:=(tf2 X G 246 LN0 336 245)) (T__law_deed:=(tf5 X G 253 LN0 336 252)) (T__law_lane:=(tf2 X G 260 LN0 336 259)) (T__law_under:=(tf2 X G 265 LN0 336 264)) (T__law_alike:=(tf2 X G 270 LN0 336 269)) (T__law_frames:=(tf2 X G 275 LN0 336 274)) (T__law_mixed:=(tf2 X G 282 LN0 336 281)) (T__law_asked:=(tf3 X G 289 LN0 336 288)) (T_law:=dA (lo 294 (oG "law" lV LN0 336 293)) (by kernel_rfl) (by kernel_rfl))⟩
end
end My
open PySem PySem.W PyProof.Rows
set_option maxHeartbeats 0 in
theorem PySem.Challenge.cw_midlanes_k31_silent_rows_holds : PySem.Challenge.rw_midlanes_k31_silent_rows.Holds := by
 refine holds_law My.SD fun said=>?_
 refine holds_open (XP:=XL My.QQ []) (YP:=My.HH.says) (L2.Zky My.L0 My.L1) My.HH.of My.HH.keeps (fun s e=>xl_of s (Bool.and_eq_true_iff.mp e).1) XL.keeps (by rfl) (by rfl) (by rfl) (fun s e=>recFacts_of (Bool.and_eq_true_iff.mp e).2) (by rfl) said (by decide +kernel) ⟨rfl,rfl,rfl,rfl,rfl,by decide +kernel⟩ ?hw ?hc
 case hw=>w_witness2
 exact L2.qI (l:=PySem.Challenge.rw_midlanes_k31_silent_rows) (n:=63) (k:=14) (x:="script") (CX:=fun j=>L2.CX0) (sp:=fun w=>L2.j8 _) rfl (by decide) rfl ⟨rfl,by decide,by decide,rfl⟩ (fun w h Y=>PySem.W.kIn_of Y) (fun w mg fa h KX G hmg=>My.ZnK w KX G hmg) (fun j j a ns hl j hS=>L2.ZlA hl hS) (fun j j j j j z=>z)
