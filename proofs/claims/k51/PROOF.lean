import PyProof.Rows.All
import Wide.All
import OpenK.AllK
import Wide.FinOn
import Lean
import PyProof.EqAt
import PyProof.EqKinds
import PyProof.TupleCall
import PyProof.NeKinds
import KE.KDictSum
import PyProof.Rows.SortRuns
import PySem.SetOps
import PyProof.Rows.SetFrom
import PyProof.DictWalks
import PyProof.FactsAll.set_1
import PyProof.FactsAll.set_2
import PyProof.MakeMany
import PyProof.CollectWalk
import PyProof.Rows.SortShell
import PyProof.StrWalks
import PyProof.StrLoop
import PyProof.ZipIter
import PyProof.EnumMake
import PyProof.EnumStmt
import PyProof.EnumFor
import PyProof.MeetsDict
import PyProof.DictRoadsH
import KE.KUnpack
import PyProof.TupleIter
import PyProof.Draws
import PyProof.SliceStr2
import PyProof.StrBlockI
import PyProof.Rows.StrWeight2
import PyProof.StrOps2
import PyProof.ConsumeWalk
import KE.KItemsList
import KE.KDictList
import PyProof.ListRange
import PyProof.AttrMissSeq
import KE.KDictOf
import PySem.Challenge.RW_midlanes_k51_holds_come_first
open Array renaming length_toList->jQ,forIn_toList->j6,getElem?_eq_getElem->q9
open Bool renaming false_ne_true->bo,false_eq_true->dE,eq_iff_iff->fL,and_eq_true->fN,not_true->iN,beq_eq_decide_eq->j4
open Int renaming toNat_natCast->dF,zero_add->j8,natAbs_mul->kg,emod_nonneg->kl,emod_lt_of_pos->km,mul_comm->om,natAbs_add_le->oo,toNat_of_nonneg->rp
open List renaming length_map->ai,getElem?_map->aj,mem_of_getElem?->aw,getElem?_eq_getElem->ax,getElem?_eq_some_iff->ay,length_append->aA,map_cons->aF,mem_cons->aG,mem_singleton->aN,map_append->aO,mem_append->aT,size_toArray->bj,not_mem_nil->bv,length_cons->bz,mem_cons_of_mem->bE,mem_cons_self->bG,append_nil->bH,mem_map->bL,getElem?_append_left->bN,length_set->bQ,take_add_one->b9,take_length->ck,getElem?_set_ne->cy,length_take->cz,map_map->cG,length_range->cH,getElem?_concat_length->cI,mem_range->cN,getElem?_set_self->cO,nodup_cons->cP,map_nil->cQ,getElem?_range->cR,mem_append_right->cZ,find?_cons->c9,foldl_cons->dR,getD_eq_getElem?_getD->dU,filter_cons->dW,nodup_nil->eI,length_singleton->fc,getElem?_append_right->fM,any_cons->fO,append_assoc->fP,length_nil->fQ,mem_iff_getElem?->fU,getElem?_zipWith->fV,length_zipWith->fW,length_zip->gy,getElem?_zip_eq_some->gA,mem_or_eq_of_mem_set->gB,mem_append_left->gS,replicate_succ->gY,lookup_cons->hG,zip_cons_cons->hJ,filter_append->hU,filterMap_cons->iy,length_drop->iA,nil_append->iF,forIn_cons->iH,ext_getElem?->iI,nodup_append->iK,sum_cons->iO,getElem_mem->iQ,length_zipIdx->iR,getElem?_zipIdx->iS,dropLast_concat->iT,mem_of_find?_eq_some->iV,mem_filter->jP,getElem?_replicate->jS,getElem?_take_of_lt->jT,length_replicate->jU,flatten_cons->jY,all_eq_true->j3,map_congr_left->j7,foldl_append->j9,range'_succ->kh,getElem?_drop->kj,getElem?_eq_none->nW,take_of_length_le->nY,pairwise_cons->n9,getElem?_inj->oH,getLast?_concat->oI,take_succ_cons->oJ,getElem?_cons_succ->oM,length_pos_iff->oN,drop_eq_getElem_cons->oO,length_eraseIdx_le->oP,getLast?_eq_some_iff->rn,eraseIdx_cons_succ->rq,mem_of_mem_eraseIdx->rA
open Nat renaming le_refl->aq,le_trans->aR,ne_of_lt->bc,zero_le->bg,lt_of_lt_of_le->bD,le_add_right->cj,ne_of_gt->dr,le_succ->du,le_of_eq->eE,le_of_lt->eZ,lt_of_le_of_lt->fe,le_of_ble_eq_true->fS,add_assoc->fT,lt_irrefl->gq,lt_succ_self->gw,lt_trans->iG,min_le_right->jV,sub_le->jW,add_comm->jZ,mul_le_mul_left->kf,add_zero->ki,min_self->kr,log2_lt->nX,zero_add->oj,add_le_add->oq,sub_self->oB,mul_le_mul_right->oE,le_of_not_lt->qX,add_le_add_left->qY,lt_succ_of_lt->qZ,add_lt_add_left->rm
open Option renaming map_eq_some_iff->aH,map_some->ff,getD_some->iP,toList_some->iU,isSome_iff_exists->vP
open PyProof.Rows renaming callWith_type1->gu,slot_tuple_getitem->iB,pairsOf_size->nZ
open PySem renaming wpAny_bind->ab,wpAny_pure->am,wpAny_field->bF,wpAny_mono->cE,wpAny_holding->cY,wpAny_seqItems->dw,wpAny_call_entry->dD,wpAny_setField_rec->dS,wpAny_rule->eF,wpAny_callSpecial?_slot->fb,wpAny_truthy_bool->gt,wpAny_passesOwn->gT,wpAny_pyIter_tuple->gU,wpAny_newObj_type->gW,call_meets->gZ,wpAny_specialOf->g9,wpAny_typeOf->iC,wpAny_attempt->iL,wpAny_isInstance->iM,wpAny_Call_Name_kw->jR,call_meetsIn->j0,wpAny_letGo->j5,wpAny_execs_nil->nR,wpAny_pyIter_list->nT,codeAny_mono->nU,wpAny_Call_method->nV,wpAny_newTuple->n6,wpAny_pyIter_enum->og,wpAny_onRaise->oh,wpAny_forIn_list->oi,codeAny_builtin->ou,wpAny_updateSeq->oy,plainId_quiet->oz,noFill_tuple_add->qT,tupleKind_room_in1->qW,wpAny_pyIter_zip->rb,wpAny_updateSeq_pair->rf,wpAny_tupleItemsOf->rg,isSubtype_tuple_tuple->rh,builtinLookup_eq_fast->rj
open PySem.Around renaming under_plainId->ox
open PySem.Calls renaming spliced_cons->e8,spliced_nil->iz,callWith_builtin->iE,evalArgs_plain->jX
open PySem.Heap renaming get?_push_of_some->aJ,lt_size->aM,get?_push_size->bp,size_push->dQ,get?_update_self->gX,get?_update_other->iD,size_update->oA
open PySem.SeqAt.EqAt renaming int_str->qR,str_int->qS,int_int->qU,str_str->qV,none_int->vQ,none_str->vR,int_none->vS,str_none->vT,of_refs->vU
open PySem.SeqAt.RcNeAt renaming lists_lengths->vV
open PySem.W renaming boot_heap->iJ
def ag:=@if_pos
def ah:=@if_neg
def aL:=@decide_eq_false
def aU:=@decide_eq_true
def ci:=@or_false
def cF:=@not_or
def dv:=@if_false
def e9:=@if_true
def fR:=@decide_eq_true_eq
def gR:=@beq_eq_false_iff_ne
def gV:=@beq_iff_eq
set_option Elab.async false
set_option linter.all false
set_option maxRecDepth 100000
set_option maxHeartbeats 4000000
set_option autoImplicit false
set_option exponentiation.threshold 4000
open List (all_cons any_eq_false any_eq_true any_nil append_inj' cons_append contains_cons contains_iff_mem dropLast_concat_getLast drop_drop drop_length drop_succ_cons drop_zero eq_nil_of_length_eq_zero eq_of_mem_replicate eraseIdxIfInBounds_toArray eraseIdx_eq_take_drop_succ filterMap_append filterMap_eq_map' filterMap_eq_nil_iff filterMap_map filter_eq_nil_iff filter_map filter_nil find?_append find?_some flatMap_append flatMap_cons flatMap_nil forIn_nil getElem?_eraseIdx getElem_inj getElem_of_mem getElem_range getLast?_eq_none_iff getLastD_concat length_eraseIdx length_eraseIdx_of_lt length_filterMap_le length_range' map_drop map_eq_nil_iff map_id map_replicate map_set map_take mem_eraseIdx_iff_getElem? mem_filterMap mem_iff_getElem mem_map_of_mem mem_nil_iff mem_of_mem_take mergeSort_nil mergeSort_perm mergeSort_singleton nil_perm nodup_range of_mem_zip pairwise_map pairwise_mergeSort pairwise_singleton range_eq_range' range_succ range_succ_eq_map reverse_cons reverse_reverse set_append_right set_cons_succ set_cons_zero set_eq_take_append_cons_drop set_getElem_self singleton_append sum_append sum_nil take_append_drop take_append_of_le_length take_left take_sublist take_zero zipIdx_cons zipIdx_map zipIdx_nil zipWith_append zipWith_cons_cons zip_map zip_map_right zip_nil_right)
noncomputable section
section
namespace L2
open PySem PySem.Spec PyProof.Rows
abbrev Key:=Sum Int Str
def iu:Key->Value->Bool
 | .inl k,v=>Value.isInt k v
 | .inr x,v=>Value.isStrOf x v
def keyH (w:World):Key->Int
 | .inl k=>hashInt k
 | .inr x=>hashStr w x
theorem fw : ∀ {k : Key} {v : Value}, iu k v = true -> (∃ i t, k = Sum.inl i /\ v = Value.int i t) \/ (∃ x t, k = Sum.inr x /\ v = Value.str x t)
  | .inl i, v, h => by
    obtain ⟨t,e⟩:=Value.isInt_shape (k:=i) (v:=v) h
    exact .inl ⟨i,t,rfl,e⟩
  | .inr x, v, h => by
    obtain ⟨t,e⟩:=Value.isStrOf_shape (x:=x) (v:=v) h
    exact .inr ⟨x, t, rfl, e⟩
theorem vq (i:Int) (t:Tok):iu (.inl i) (.int i t)=true:=by simp[iu,Value.isInt]
theorem Zlm (x:Str) (t:Tok):iu (.inr x) (.str x t)=true:=by simp[iu,Value.isStrOf]
theorem key_ll (a b:Int):decide ((Sum.inl a:Key)=Sum.inl b)=(a == b):=by
 by_cases e:a=b
 .subst e;simp
 .have h:¬ (Sum.inl a:Key)=Sum.inl b:=fun q=>e (Sum.inl.inj q)
  rw[aL h]
  exact (gR.mpr e).symm
theorem key_rr (a b:Str):decide ((Sum.inr a:Key)=Sum.inr b)=decide (a=b):=by
 by_cases e:a=b
 .subst e;simp
 .have h:¬ (Sum.inr a:Key)=Sum.inr b:=fun q=>e (Sum.inr.inj q)
  rw[aL h,aL e]
theorem key_lr (a:Int) (b:Str):decide ((Sum.inl a:Key)=Sum.inr b)=false:=aL (fun q=>nomatch q)
theorem key_rl (a:Str) (b:Int):decide ((Sum.inr a:Key)=Sum.inl b)=false:=aL (fun q=>nomatch q)
def bC (prog:Program) (w:World):PySem.KeyKind prog w Key where
 is:=iu
 hash:=keyH w
 inj:=fun v a b ha hb=>by
  rcases fw ha with ⟨i,t,rfl,rfl⟩|⟨x,t,rfl,rfl⟩
  .rcases fw hb with ⟨j,u,rfl,e⟩|⟨y,u,rfl,e⟩
   .injection e with e1 _;rw[e1]
   .exact nomatch e
  .rcases fw hb with ⟨j,u,rfl,e⟩|⟨y,u,rfl,e⟩
   .exact nomatch e
   .injection e with e1 _;rw[e1]
 byValue:=fun k v h=>by
  rcases fw h with ⟨i,t,rfl,rfl⟩|⟨x,t,rfl,rfl⟩ <;> rfl
 pyHash:=fun hv h=>by
  rcases fw hv with ⟨i,t,rfl,rfl⟩|⟨x,t,rfl,rfl⟩
  .exact wpAny_pyHash_int h
  .exact wpAny_pyHash_str h
 eqBool:=fun hu hv h=>by
  rcases fw hu with ⟨i,t,rfl,rfl⟩|⟨x,t,rfl,rfl⟩
  .rcases fw hv with ⟨j,u,rfl,rfl⟩|⟨y,u,rfl,rfl⟩
   .rw[key_ll] at h;exact wpAny_eqBool_int h
   .rw[key_lr] at h;exact qR i t y u _ _ _ _ h
  .rcases fw hv with ⟨j,u,rfl,rfl⟩|⟨y,u,rfl,rfl⟩
   .rw[key_rl] at h;exact qS x t j u _ _ _ _ h
   .rw[key_rr] at h;exact wpAny_eqBool_str h
 «strs»:=fun k x t v h=>by
  rcases fw h with ⟨i,u,rfl,e⟩|⟨y,u,rfl,e⟩
  .exact nomatch e
  .injection e with e1 _
   subst e1
   cases v <;> rfl
theorem Zic (prog:Program) (w:World) (i:Int) (t:Tok):(bC prog w).is (.inl i) (.int i t)=true:=vq i t
theorem qH (prog:Program) (w:World) (x:Str) (t:Tok):(bC prog w).is (.inr x) (.str x t)=true:=Zlm x t
end L2
namespace L2
open PySem PySem.Spec PyProof.Rows
inductive V where
 | non|bl (b:Bool)|int (i:Int)|str (x:Str)|byt (b:Array UInt8)|flt (b:UInt64)|ref (a:Addr)|ty (n:String)
 deriving DecidableEq
def RelV:V->Value->Prop
 | .non,u=>u=Value.none
 | .bl b,u=>u=Value.bool b
 | .int i,u=>∃ t,u=Value.int i t
 | .str x,u=>∃ t,u=Value.str x t
 | .byt b,u=>∃ t,u=Value.bytes b t
 | .flt b,u=>∃ t,u=Value.float b t
 | .ref a,u=>u=Value.ref a
 | .ty n,u=>u=Value.type n
abbrev Vals:List V->List Value->Prop:=Paired RelV
theorem Vals.length {xs:List V} {us:List Value} (r:Vals xs us):xs.length=us.length:=Paired.length r
theorem Vals.get : ∀ {xs : List V} {us : List Value} {i : Nat} {x : V}, Vals xs us -> xs[i]? = some x -> ∃ u, us[i]? = some u /\ RelV x u
  | _, _, _, _, .nil, e => by simp at e
  | _, _, 0, _, .cons r _, e => by simp at e; subst e; exact ⟨_, rfl, r⟩
  | _, _, i + 1, x, .cons _ t, e => by
    obtain ⟨u,h1,h2⟩:=Vals.get (i:=i) (x:=x) t (by simpa using e)
    exact ⟨u, by simpa using h1, h2⟩
theorem Vals.set {x:V} {u:Value} (r:RelV x u):∀ {xs:List V} {us:List Value} (i:Nat),Vals xs us->Vals (xs.set i x) (us.set i u)
 | _,_,_,.nil=>.nil
 | _,_,0,.cons _ t=>.cons r t
 | _,_,i+1,.cons q t=>.cons q (Vals.set r i t)
theorem Vals.append {xs ys:List V} {us ws:List Value} (h:Vals xs us) (s:Vals ys ws):Vals (xs++ys) (us++ws):=by
 induction h with
 | nil=>exact s
 | cons r _ ih=>exact .cons r ih
theorem Vals.take:∀ {xs:List V} {us:List Value} (n:Nat),Vals xs us->Vals (xs.take n) (us.take n)
 | _,_,0,_=>.nil
 | _,_,_+1,.nil=>.nil
 | _,_,n+1,.cons r t=>.cons r (Vals.take n t)
theorem Vals.drop:∀ {xs:List V} {us:List Value} (n:Nat),Vals xs us->Vals (xs.drop n) (us.drop n)
 | _,_,0,r=>r
 | _,_,_+1,.nil=>.nil
 | _,_,n+1,.cons _ t=>Vals.drop n t
def RelO:Option V->Option Value->Prop
 | some v,some u=>RelV v u
 | none,none=>True
 | _,_=>False
def KV {κ:Type}:List (κ×V)->List (κ×Value)->Prop:=Paired fun (p:κ×V) (q:κ×Value)=>p.1=q.1/\RelV p.2 q.2
def kV:Key->V
 | .inl i=>.int i
 | .inr x=>.str x
inductive HO where
 | lst (xs:List V)
 | tup (xs:List V)
 | dK (kvs:List (Key×V))|dT (kvs:List (List Key×V))
 | set (S:Int->Bool) (n:Nat)
 | ins (C dx:Addr) (fs:List (Str×V))
 | own (x:Addr)
 | xd (fs:List (Str×V))
 | met (f x:Addr)
 | rng (lo hi:Int)
 | frz (o:Obj) (u:HO)
 | tbl (ps:Array Value)
 | ext (φ:Heap->Prop)
abbrev Hp:=Addr->Option HO
def upd (H:Hp) (a:Addr) (o:HO):Hp:=fun b=>if b=a then some o else H b
theorem bh {H:Hp} {a:Addr} {o:HO}:upd H a o a=some o:=by unfold upd;rw[ag rfl]
theorem aP {H:Hp} {a b:Addr} {o:HO} (h:b≠a):upd H a o b=H b:=by unfold upd;rw[ah h]
theorem ne_of {H:Hp} {a b:Addr} {o u:HO} (h:H a=some o) (h':H b=some u) (d:o≠u):a≠b:=by
 intro e;subst e;rw[h] at h';exact d (Option.some.inj h')
theorem gQ {H:Hp} {a b:Addr} {o:HO} (h:H a=some o) (h':H b=none):a≠b:=by
 intro e;subst e;rw[h] at h';cases h'
section
variable (P:Program) (w:World)
def ObjOk (H:Hp) (h:Heap) (a:Addr):HO->Prop
 | .lst xs=>xs.length<=sizeLine/\∃ (its:List Value) (n:Nat),Vals xs its/\h.get? a=some { cls:=.type "list",data:=.seq its.toArray n }
 | .tup xs=>xs.length<=sizeLine/\∃ its:List Value,Vals xs its/\IsTup h a its.toArray
 | .dK kvs=>kvs.length<=sizeLine/\(a == sysModules)=false/\∃ vs,KV kvs vs/\h.DictOf (bC P w) a vs
 | .dT kvs=>kvs.length<=sizeLine/\(a == sysModules)=false/\∃ xs:List (List Key×Addr×Value),
   Paired (fun (p:List Key×V) (q:List Key×Addr×Value)=>p.1=q.1/\H q.2.1=some (.tup (p.1.map kV))/\RelV p.2 q.2.2) kvs xs /\
   ∃ o es ep,h.get? a=some o/\o.ExactDict/\o.data=.dict es ep/\es.toList=xs.map (entryOfKey (tupleKind (bC P w)))/\(xs.map (·.1)).Nodup
 | .set S n=>h.SetOf (intKind P w) a S n
 | .ins C dx fs=>H dx=some (.own a)/\fs.length<=1000/\dx≠a/\h.get? a=some (PySem.W.instObj C dx) /\
   ∃ mA,h.Ns1 dx mA/\(∀ f,RelO (fs.lookup f) (mA f))/\PySem.Within mA (fs.map (·.1))
 | .own _=>∃ o,h.get? a=some o
 | .xd fs=>∃ mA,h.Ns1 a mA/\∀ f,RelO (fs.lookup f) (mA f)
 | .rng lo hi=>∃ t u v,h.get? a=some { cls:=.type "range",data:=.fields #[.int lo t,.int hi u,.int 1 v] }
 | .frz o u=>h.get? a=some o/\ObjOk H h a u
 | .tbl ps=>h.get? a=some { cls:=.none,data:=.fields ps }
 | .met f x=>h.get? a=some (PySem.W.methodObj (.ref f) (.ref x))
 | .ext φ=>φ h/\(∃ o,h.get? a=some o)/\∀ h1 h2:Heap,φ h1->(∀ o,h1.get? a=some o->h2.get? a=some o)->φ h2
def HOk (H:Hp) (h:Heap):Prop:=∀ a o,H a=some o->ObjOk P w H h a o
end
section
variable {P:Program} {w:World} {H H':Hp} {h h':Heap} {a:Addr} {o:HO}
theorem ObjOk.lt (x:ObjOk P w H h a o):a < h.objs.size:=by
 cases o with
 | lst xs=>obtain ⟨j,j,j,j,e⟩:=x;exact aM e
 | tup xs=>obtain ⟨j,j,j,p⟩:=x;exact p.lt
 | dK kvs=>obtain ⟨j,j,j,j,o,j,j,e,j⟩:=x;exact aM e
 | dT kvs=>obtain ⟨j,j,j,j,o,j,j,e,j⟩:=x;exact aM e
 | set S n=>obtain ⟨o,j,j,j,e,j⟩:=x;exact aM e
 | ins C dx fs=>obtain ⟨j,j,j,e,j⟩:=x;exact aM e
 | own y=>obtain ⟨j,e⟩:=x;exact aM e
 | xd fs=>obtain ⟨j,⟨j,j,j,e,j⟩,j⟩:=x;exact aM e
 | rng lo hi=>obtain ⟨j,j,j,e⟩:=x;exact aM e
 | frz ob u=>obtain ⟨e,j⟩:=x;exact aM e
 | tbl ps=>exact aM (show h.get? a=some _ from x)
 | met f y=>exact aM (show h.get? a=some _ from x)
 | ext φ=>obtain ⟨j,⟨j,e⟩,j⟩:=x;exact aM e
theorem Paired.mapP {α β:Type} {F G:α->β->Prop} {l₁:List α} {l₂:List β} (h:Paired F l₁ l₂) (f:∀ a b,F a b->G a b):Paired G l₁ l₂:=by
 induction h with
 | nil=>exact .nil
 | cons r _ ih=>exact .cons (f _ _ r) ih
theorem ObjOk.stay (x:ObjOk P w H h a o) (k:∀ b u,(b=a\/H b=some (.own a))->h.get? b=some u->h'.get? b=some u)
  (ho:∀ b,H b=some (.own a)->H' b=some (.own a)) (ht:∀ b xs,H b=some (.tup xs)->H' b=some (.tup xs)):ObjOk P w H' h' a o:=by
 induction o with
 | lst xs=>obtain ⟨z,its,n,r,e⟩:=x;exact ⟨z,its,n,r,k _ _ (.inl rfl) e⟩
 | tup xs=>obtain ⟨z,its,r,ob,e,c⟩:=x;exact ⟨z,its,r,ob,k _ _ (.inl rfl) e,c⟩
 | dK kvs=>obtain ⟨z,y,vs,r,ob,es,ep,e,c⟩:=x;exact ⟨z,y,vs,r,ob,es,ep,k _ _ (.inl rfl) e,c⟩
 | dT kvs =>
  obtain ⟨z,y,xs,r,ob,es,ep,e,c⟩:=x
  exact ⟨z,y,xs,Paired.mapP r fun p q z=>⟨z.1,ht _ _ z.2.1,z.2.2⟩,ob,es,ep,k _ _ (.inl rfl) e,c⟩
 | set S n=>obtain ⟨ob,es,ep,t,e,c⟩:=x;exact ⟨ob,es,ep,t,k _ _ (.inl rfl) e,c⟩
 | ins C dx fs =>
  obtain ⟨d,z,ne,e,mA,⟨od,es,ep,e2,c⟩,r⟩:=x
  exact ⟨ho _ d,z,ne,k _ _ (.inl rfl) e,mA,⟨od,es,ep,k _ _ (.inr d) e2,c⟩,r⟩
 | own y=>obtain ⟨ob,e⟩:=x;exact ⟨ob,k _ _ (.inl rfl) e⟩
 | xd fs=>obtain ⟨mA,⟨od,es,ep,e,c⟩,r⟩:=x;exact ⟨mA,⟨od,es,ep,k _ _ (.inl rfl) e,c⟩,r⟩
 | rng lo hi=>obtain ⟨t,u,v,e⟩:=x;exact ⟨t,u,v,k _ _ (.inl rfl) e⟩
 | frz ob u ih=>obtain ⟨e,q⟩:=x;exact ⟨k _ _ (.inl rfl) e,ih q⟩
 | tbl ps =>
  have e:h.get? a=some { cls:=.none,data:=.fields ps }:=x
  show h'.get? a=some { cls:=.none,data:=.fields ps }
  exact k a _ (.inl rfl) e
 | met f y =>
  have e:h.get? a=some (PySem.W.methodObj (.ref f) (.ref y)):=x
  show h'.get? a=some (PySem.W.methodObj (.ref f) (.ref y))
  exact k a _ (.inl rfl) e
 | ext φ=>obtain ⟨p,⟨o,e⟩,st⟩:=x;exact ⟨st _ _ p fun o q=>k _ _ (.inl rfl) q,⟨o,k _ _ (.inl rfl) e⟩,st⟩
theorem HOk.lt (x:HOk P w H h) (e:H a=some o):a < h.objs.size:=(x a o e).lt
theorem HOk.fresh (x:HOk P w H h) (e:h.objs.size<=a):H a=none:=by
 cases q:H a with
 | none=>rfl
 | some u=>exact absurd (bD (x.lt q) e) (gq _)
theorem HOk.kept (x:HOk P w H h) (k:∀ b u,h.get? b=some u->h'.get? b=some u):HOk P w H h':=fun a o e =>
 (x a o e).stay (fun b u j q=>k b u q) (fun j q=>q) fun j j q=>q
theorem HOk.laid (x:HOk P w H h) (k:∀ b u,h.get? b=some u->h'.get? b=some u) (hp:h.objs.size<=a) (new:ObjOk P w (upd H a o) h' a o):HOk P w (upd H a o) h':=fun b u e=>by
 have hn:=x.fresh hp
 by_cases hb:b=a
 .subst hb;rw[bh] at e;cases e;exact new
 .rw[aP hb] at e
  exact (x b u e).stay (fun c v j q=>k c v q) (fun c q=>by rw[aP (gQ q hn)];exact q) fun c xs q=>by rw[aP (gQ q hn)];exact q
end
def Rd (H:Hp) (a:Addr) (u:HO):Prop:=H a=some u\/∃ o,H a=some (.frz o u)
theorem Rd.ok {P:Program} {w:World} {H:Hp} {h:Heap} {a:Addr} {u:HO} (r:Rd H a u) (x:HOk P w H h):ObjOk P w H h a u:=by
 rcases r with r|⟨o,r⟩
 .exact x a u r
 .obtain ⟨j,q⟩:=x a _ r
  exact q
def Mut:Option HO->Prop
 | some (.lst _)=>True
 | some (.dK _)=>True
 | some (.dT _)=>True
 | some (.set _ _)=>True
 | some (.ins _ _ _)=>True
 | some (.ext _)=>True
 | _=>False
section
variable {P:Program} {w:World} {H:Hp} {h h':Heap} {x e:Addr} {o':HO}
theorem HOk.write (ok:HOk P w H h) (mu:Mut (H x)) (he:e=x\/H e=some (.own x)) (k:∀ b u,b≠e->h.get? b=some u->h'.get? b=some u) (heo:∃ u,h'.get? e=some u)
  (new:ObjOk P w (upd H x o') h' x o'):HOk P w (upd H x o') h':=fun b u q=>by
 have nown:∀ c y,H c=some (.own y)->c≠x:=fun c y r z=>by subst z;rw[r] at mu;exact mu
 have ntup:∀ c xs,H c=some (.tup xs)->c≠x:=fun c xs r z=>by subst z;rw[r] at mu;exact mu
 by_cases hb:b=x
 .subst hb;rw[bh] at q;cases q;exact new
 .rw[aP hb] at q
  by_cases hbe:b=e
  .have q':H b=some (.own x):=by
    rcases he with z|z
    .exact absurd (hbe.trans z) hb
    .rw[hbe];exact z
   rw[q] at q';cases q'
   obtain ⟨v,hv⟩:=heo
   exact ⟨v,by rw[hbe];exact hv⟩
  .refine (ok b u q).stay (fun c v hc r=>k c v ?_ r) (fun c r=>by rw[aP (nown c b r)];exact r) fun c xs r=>by rw[aP (ntup c xs r)];exact r
   rcases hc with rfl|hc
   .exact hbe
   .rintro rfl
    rcases he with z|z
    .exact nown c b hc z
    .rw[hc] at z;cases z;exact hb rfl
end
structure Un (fs ex:List Addr) (H H':Hp) (h h':Heap):Prop where
 keep:∀ b o,h.get? b=some o->H b=none->b∉fs->b∉ex->h'.get? b=some o
 slot:∀ b o,h.get? b=some o->H b=none->b∈fs->b∉ex->∃ sl,h'.get? b=some { o with slots:=sl }
 free:∀ b o,h.get? b=some o->H b=none->b∉ex->H' b=none
 there:∀ b o,h.get? b=some o->b∉ex->∃ o',h'.get? b=some o'
 tups:∀ b xs,H b=some (.tup xs)->H' b=some (.tup xs)
 frzs:∀ b o u,H b=some (.frz o u)->H' b=some (.frz o u)
 tbls:∀ b ps,H b=some (.tbl ps)->∃ more,H' b=some (.tbl (ps++more))
section
variable {fs fs' ex ex':List Addr} {H H1 H2:Hp} {h h1 h2 h':Heap} {a x e:Addr} {o:HO}
theorem Un.any (u:Un fs ex H H1 h h1) {b:Addr} {ob:Obj} (q:h.get? b=some ob) (n:H b=none) (hx:b∉ex):∃ sl,h1.get? b=some { ob with slots:=sl }:=by
 by_cases hb:b∈fs
 .exact u.slot b ob q n hb hx
 .exact ⟨ob.slots,u.keep b ob q n hb hx⟩
theorem Un.kept (k:∀ b u,h.get? b=some u->h'.get? b=some u):Un fs ex H H h h' :=
 ⟨fun b ob q j j j=>k b ob q,fun b ob q j j j=>⟨ob.slots,k b ob q⟩,fun j j j n j=>n,fun b ob q j=>⟨ob,k b ob q⟩,fun j j q=>q,fun j j j q=>q,fun j ps q=>⟨#[],by rw[q];simp⟩⟩
theorem Un.refl:Un fs ex H H h h:=Un.kept fun j j q=>q
theorem Un.laid (k:∀ b u,h.get? b=some u->h'.get? b=some u) (hp:h.objs.size<=a) (hn:H a=none):Un fs ex H (upd H a o) h h' where
 keep:=fun b u q j j j=>k b u q
 slot:=fun b u q j j j=>⟨u.slots,k b u q⟩
 free:=fun b u q n j=>by rw[aP (bc (bD (aM q) hp))];exact n
 there:=fun b u q j=>⟨u,k b u q⟩
 tups:=fun b xs q=>by rw[aP (gQ q hn)];exact q
 frzs:=fun b u xs q=>by rw[aP (gQ q hn)];exact q
 tbls:=fun b ps q=>⟨#[],by rw[aP (gQ q hn),q];simp⟩
theorem Un.write (mu:Mut (H x)) (he:e=x\/H e=some (.own x)) (k:∀ b u,b≠e->h.get? b=some u->h'.get? b=some u) (heo:∃ u,h'.get? e=some u):Un fs ex H (upd H x o) h h':=by
 have hx:∀ b,H b=none->b≠x:=fun b n z=>by subst z;rw[n] at mu;exact mu
 have hb:∀ b,H b=none->b≠e:=fun b n z=>by
  subst z
  rcases he with r|r
  .exact hx b n r
  .rw[n] at r;cases r
 have hm:∀ b u,H b=some u->¬ Mut (some u)->b≠x:=fun b u q nm z=>by subst z;rw[q] at mu;exact nm mu
 refine ⟨fun b u q n j j=>k b u (hb b n) q,fun b u q n j j=>⟨u.slots,k b u (hb b n) q⟩,fun b u q n j=>by rw[aP (hx b n)];exact n,fun b u q j=>?_,
  fun b xs q=>by rw[aP (hm b _ q fun z=>z)];exact q,fun b u xs q=>by rw[aP (hm b _ q fun z=>z)];exact q,fun b ps q=>⟨#[],by rw[aP (hm b _ q fun z=>z),q];simp⟩⟩
 by_cases hbe:b=e
 .subst hbe;exact heo
 .exact ⟨u,k b u hbe q⟩
end
def trk (h:Heap) (H:Hp):List Addr:=(List.range h.objs.size).filter fun a=>(H a).isSome
def hidT (h:Heap) (H:Hp):Heap:=PySem.W.hideAll h (trk h H)
theorem ZlA (h:Heap) (H:Hp):(hidT h H).objs.size=h.objs.size:=PySem.W.hideAll_size _ _
theorem Znh {h:Heap} {H:Hp} {b:Addr} {o:Obj} (e:h.get? b=some o) (n:H b=none):(hidT h H).get? b=some o :=
 PySem.W.hideAll_get _ e fun hm=>by
  have q:(H b).isSome=true:=(jP.mp hm).2
  rw[n] at q;simp at q
theorem Zo3 {h:Heap} {H:Hp} {b:Addr} {o:Obj} (e:(hidT h H).get? b=some o):h.get? b=some o/\H b=none:=by
 have e':h.get? b=some o:=PySem.W.of_hideAll (trk h H) e
 refine ⟨e',?_⟩
 cases q:H b with
 | none=>rfl
 | some x =>
  have hm:b∈trk h H:=jP.mpr ⟨cN.mpr (aM e'),by simp[q]⟩
  have z:(hidT h H).get? b=none:=PySem.W.hideAll_none (trk h H) hm
  rw[z] at e;cases e
def ZpH (g h:Heap) (L:Addr):List (Addr×Obj):=(List.range h.objs.size).filterMap fun a=>if a=L\/(g.get? a).isSome=true then none else (h.get? a).map fun o=>(a,o)
def rest (g h:Heap) (L d:Addr):List (Addr×Obj):=(ZpH g h L).filter fun p=>decide (p.1≠d)
end L2
namespace L2
open PySem PySem.Spec PyProof.Rows
structure Mod (K:W.Frag) (mg:Str->Option Value) (base:Heap):Prop where
 kin:K.In base
 glob:base.Ns mainGlobals mg
 blt:∃ mb,base.Ns builtinsNs mb/\∀ x:Str,x≠"__name__"->mb x=bootBuiltins x
 nolimit:base.NoLimit
structure Cx where
 prog:Program
 w:World
 K:W.Frag
 mg:Str->Option Value
 base:Heap
 A:Around
 N:List Str
 s₀:Shared
 H₀:Hp
 env:Env
 outer:List Env
 stack:List Env
 ex:List Addr
 fn:Str->Bool
 calm:Bool
 pn:List (Addr×Obj)
 xe:Value->Shared->Prop
def frs (l:List Env):List Addr:=l.filterMap (·.frame)
abbrev Cx.fs (X:Cx):List Addr:=frs X.outer
def Vis (sc:Scope) (x:Str):Prop:=sc.names.lookup x=some .local\/sc.names.lookup x=some .cell\/sc.names.lookup x=some .free
def Loc (sc:Scope) (x:Str):Prop:=sc.names.lookup x=some .local\/sc.names.lookup x=some .cell
def Look (env:Env) (h:Heap) (m:Str->Option Value) (x:Str) (u:Value):Prop :=
 (env.kindOf x=some .local/\m x=some u)\/((env.kindOf x=some .cell\/env.kindOf x=some .free)/\∃ c,env.cells.lookup x=some c/\h.IsCell c (some u))
structure Cx.Ok (X:Cx):Prop where
 mod:Mod X.K X.mg X.base
 kind:X.env.scope.kind=.function
 glob:X.env.globals=mainGlobals
 blt:X.env.builtins=builtinsNs
 above:X.s₀.heap.objs.size<=X.env.locals
 inj:∀ x y c,X.env.cells.lookup x=some c->X.env.cells.lookup y=some c->x=y
 has:∀ x,(X.env.kindOf x=some .cell\/X.env.kindOf x=some .free)->∃ c,X.env.cells.lookup x=some c
 cab:∀ x c,X.fn x=true->X.env.cells.lookup x=some c->X.s₀.heap.objs.size<=c
 hd:X.calm=true->X.A.handled=none
 frames:X.A.frames=some X.stack
 stk:X.stack=X.outer\/(X.stack=X.env::X.outer/\X.env.frame=some X.env.locals)
 exf:∀ b∈X.ex,b≠X.env.locals/\∀ x c,X.env.cells.lookup x=some c->c≠b
 bs:∀ b o,X.base.get? b=some o->X.s₀.heap.get? b=some o/\X.H₀ b=none
 bsz:X.base.objs.size<=X.s₀.heap.objs.size
 noex:∀ b o,X.base.get? b=some o->b∉X.ex
 exfs:∀ b∈X.ex,b∉X.fs
 funs:X.s₀.heap.FunFrames X.base X.outer
 frf:∀ b∈X.fs,X.H₀ b=none
structure Inv (X:Cx) (pins:List (Addr×Obj)) (Z:List (Option V)) (H:Hp) (s:Shared):Prop where
 ok:X.Ok
 os:s.os=X.s₀.os
 bare:AllBare s.gens
 base:Un X.fs X.ex X.H₀ H X.s₀.heap s.heap
 loc:∃ m,s.heap.Ns X.env.locals m/\∀ (i:Nat) (x:Str) (v:V),X.N[i]?=some x->Z[i]?=some (some v)->Vis X.env.scope x->∃ u,RelV v u/\Look X.env s.heap m x u
 cell:∀ x c,X.env.cells.lookup x=some c->∃ v,s.heap.IsCell c v
 free:H X.env.locals=none
 freeC:∀ x c,X.env.cells.lookup x=some c->H c=none
 pin:∀ p∈X.pn++pins,s.heap.get? p.1=some p.2/\H p.1=none/\p.1≠X.env.locals/\p.1∉X.fs/\∀ v,p.2.data≠.cell v
 hok:HOk X.prog X.w H s.heap
 len:Z.length=X.N.length
section
variable {X:Cx} {pins:List (Addr×Obj)} {Z:List (Option V)} {H H':Hp} {s:Shared} {h':Heap}
theorem Cx.Ok.nofr (ok:X.Ok) {b:Addr} {o:Obj} (e:X.base.get? b=some o):b∉X.fs:=fun hb=>by
 have:=(ok.funs.mem hb).1
 rw[e] at this;cases this
theorem Inv.bs (I:Inv X pins Z H s):∀ b o,X.base.get? b=some o->s.heap.get? b=some o/\H b=none:=fun b o e =>
 ⟨I.base.keep b o (I.ok.bs b o e).1 (I.ok.bs b o e).2 (I.ok.nofr e) (I.ok.noex b o e),I.base.free b o (I.ok.bs b o e).1 (I.ok.bs b o e).2 (I.ok.noex b o e)⟩
theorem Inv.bk (I:Inv X pins Z H s):∀ b o,X.base.get? b=some o->s.heap.get? b=some o:=fun b o e=>(I.bs b o e).1
theorem Inv.mod (I:Inv X pins Z H s):Mod X.K X.mg X.base:=I.ok.mod
theorem Inv.kIn (I:Inv X pins Z H s):X.K.In s.heap:=I.ok.mod.kin.keeps I.bk
theorem Inv.lt (I:Inv X pins Z H s):X.env.locals < s.heap.objs.size:=let ⟨_,hn,_⟩:=I.loc;hn.lt
theorem Inv.sz (I:Inv X pins Z H s):X.s₀.heap.objs.size<=s.heap.objs.size:=aR I.ok.above (eZ I.lt)
theorem Inv.nofs (I:Inv X pins Z H s) {a:Addr} (h:s.heap.objs.size<=a):a∉X.fs:=fun hb=>by
 obtain ⟨j,o,ho,j⟩:=I.ok.funs.mem hb
 exact absurd (bD (aM ho) (aR I.sz h)) (gq _)
theorem Inv.cne (I:Inv X pins Z H s):∀ x c,X.env.cells.lookup x=some c->c≠X.env.locals:=fun x c e z=>by
 obtain ⟨v,o,ho,hd⟩:=I.cell x c e
 obtain ⟨m,⟨o',es,ep,ho',hd',j⟩,j⟩:=I.loc
 rw[z,ho'] at ho;cases ho;rw[hd'] at hd;cases hd
theorem Inv.funs (I:Inv X pins Z H s):s.heap.FunFrames X.base X.outer:=by
 have all:∀ (l:List Env),(∀ b∈frs l,b∈X.fs)->X.s₀.heap.FunFrames X.base l->s.heap.FunFrames X.base l:=by
  intro l
  induction l with
  | nil=>intro j j;trivial
  | cons env r ih =>
   intro hs hl
   obtain ⟨hk,⟨L,o,hf,hn,ho,hd⟩,hr⟩:=hl
   have hL:L∈X.fs:=hs L (by unfold frs;rw[iy,hf];exact bG)
   obtain ⟨sl,e⟩:=I.base.slot L o ho (I.ok.frf L hL) hL fun z=>I.ok.exfs L z hL
   exact ⟨hk,⟨L,_,hf,hn,e,hd⟩,ih (fun b hb=>hs b (by unfold frs;rw[iy,hf];exact bE _ hb)) hr⟩
 exact all X.outer (fun j hb=>hb) I.ok.funs
theorem Inv.stack (I:Inv X pins Z H s):s.heap.FunFrames X.base X.stack:=by
 rcases I.ok.stk with e|⟨e,hf⟩
 .rw[e];exact I.funs
 .rw[e]
  obtain ⟨m,hn,j⟩:=I.loc
  refine .cons (by rw[I.ok.kind];decide) hf hn ?_ I.funs
  exact Heap.get?_none_of_le (aR I.ok.bsz I.ok.above)
theorem Inv.stkSub (I:Inv X pins Z H s):∀ b∈frs X.stack,b∈X.env.locals::X.fs:=fun b hb=>by
 rcases I.ok.stk with e|⟨e,hf⟩
 .rw[e] at hb;exact bE _ hb
 .rw[e] at hb
  unfold frs at hb
  rw[iy,hf] at hb
  exact hb
theorem Inv.stkFree (I:Inv X pins Z H s):∀ b∈frs X.stack,H b=none:=fun b hb=>by
 rcases aG.mp (I.stkSub b hb) with e|hb
 .rw[e];exact I.free
 .obtain ⟨j,o,ho,j⟩:=I.ok.funs.mem hb
  exact I.base.free b o ho (I.ok.frf b hb) fun z=>I.ok.exfs b z hb
theorem Inv.step {g':Array GenState} {t':Nat} {d':Drawn} {ch:List Addr} (I:Inv X pins Z H s)
  (hch:∀ b∈ch,(b∈X.ex\/X.s₀.heap.objs.size<=b)/\b≠X.env.locals/\(∀ x c,X.env.cells.lookup x=some c->c≠b)/\∀ p∈X.pn++pins,p.1≠b)
  (keep:∀ b o,b≠X.env.locals->b∉X.fs->b∉ch->s.heap.get? b=some o->H b=none->h'.get? b=some o)
  (slot:∀ b o,b≠X.env.locals->b∈X.fs->b∉ch->s.heap.get? b=some o->H b=none->∃ sl,h'.get? b=some { o with slots:=sl }) (free:∀ b o,b∉ch->s.heap.get? b=some o->H b=none->H' b=none)
  (there:∀ b o,b∉ch->s.heap.get? b=some o->∃ o',h'.get? b=some o')
  (tups:∀ b xs,H b=some (.tup xs)->H' b=some (.tup xs)) (frzs:∀ b o u,H b=some (.frz o u)->H' b=some (.frz o u)) (tbls:∀ b ps,H b=some (.tbl ps)->∃ more,H' b=some (.tbl (ps++more)))
  (ns:∀ m,s.heap.Ns X.env.locals m->h'.Ns X.env.locals m) (hok:HOk X.prog X.w H' h') (hg:AllBare g') :
  Inv X pins Z H' { s with heap:=h',gens:=g',drawn:=d',toks:=t' }:=by
 have neL:∀ b o,X.s₀.heap.get? b=some o->b≠X.env.locals:=fun b o e=>bc (bD (aM e) I.ok.above)
 have neC:∀ b o,X.s₀.heap.get? b=some o->b∉X.ex->b∉ch:=fun b o e hx hb=>by
  rcases (hch b hb).1 with z|z
  .exact hx z
  .exact absurd (bD (aM e) z) (gq _)
 have cellK:∀ x c,X.env.cells.lookup x=some c->∀ v,s.heap.IsCell c v->h'.IsCell c v:=fun x c e v ⟨o,ho,hd⟩=>by
  have nch:c∉ch:=fun z=>(hch c z).2.2.1 x c e rfl
  by_cases hc:c∈X.fs
  .obtain ⟨sl,q⟩:=slot c o (I.cne x c e) hc nch ho (I.freeC x c e)
   exact ⟨_,q,hd⟩
  .exact ⟨o,keep c o (I.cne x c e) hc nch ho (I.freeC x c e),hd⟩
 refine ⟨I.ok,I.os,hg,⟨fun b o e n hb hx=>?_,fun b o e n hb hx=>?_,fun b o e n hx=>?_,fun b o e hx=>?_,fun b xs e=>tups b xs (I.base.tups b xs e),fun b o xs e=>frzs b o xs (I.base.frzs b o xs e),fun b ps e=>?_⟩,?_,fun x c e=>?_,?_,fun x c e=>?_,fun p hp=>?_,hok,I.len⟩
 .exact keep b o (neL b o e) hb (neC b o e hx) (I.base.keep b o e n hb hx) (I.base.free b o e n hx)
 .obtain ⟨sl,e1⟩:=I.base.slot b o e n hb hx
  obtain ⟨sl',e2⟩:=slot b _ (neL b o e) hb (neC b o e hx) e1 (I.base.free b o e n hx)
  exact ⟨sl',e2⟩
 .obtain ⟨o',e1⟩:=I.base.there b o e hx
  exact free b o' (neC b o e hx) e1 (I.base.free b o e n hx)
 .obtain ⟨o',e1⟩:=I.base.there b o e hx
  exact there b o' (neC b o e hx) e1
 .obtain ⟨m1,e1⟩:=I.base.tbls b ps e
  obtain ⟨m2,e2⟩:=tbls b _ e1
  exact ⟨m1++m2,by rw[e2,Array.append_assoc]⟩
 .obtain ⟨m,hn,hl⟩:=I.loc
  refine ⟨m,ns m hn,fun i x v e1 e2 e3=>?_⟩
  obtain ⟨u,r,l⟩:=hl i x v e1 e2 e3
  refine ⟨u,r,?_⟩
  rcases l with l|⟨k,c,e,z⟩
  .exact .inl l
  .exact .inr ⟨k,c,e,cellK x c e _ z⟩
 .obtain ⟨v,z⟩:=I.cell x c e
  exact ⟨v,cellK x c e v z⟩
 .obtain ⟨m,⟨o,j,j,ho,j⟩,j⟩:=I.loc
  exact free _ o (fun z=>(hch _ z).2.1 rfl) ho I.free
 .obtain ⟨v,o,ho,hd⟩:=I.cell x c e
  exact free c o (fun z=>(hch c z).2.2.1 x c e rfl) ho (I.freeC x c e)
 .obtain ⟨e,n,ne,nf,d⟩:=I.pin p hp
  have nch:p.1∉ch:=fun z=>(hch p.1 z).2.2.2 p hp rfl
  exact ⟨keep p.1 p.2 ne nf nch e n,free p.1 p.2 nch e n,ne,nf,d⟩
theorem Inv.un {t':Nat} (I:Inv X pins Z H s) (u:Un X.fs [] H H' s.heap h') (hok:HOk X.prog X.w H' h'):Inv X pins Z H' { s with heap:=h',toks:=t' }:=by
 obtain ⟨m,⟨o,es,ep,ho,r⟩,j⟩:=id I.loc
 obtain ⟨sl,hL⟩:=u.any ho I.free (by simp)
 exact I.step (g':=s.gens) (d':=s.drawn) (ch:=[]) (fun j z=>nomatch z) (fun b o j hb j e n=>u.keep b o e n hb (by simp)) (fun b o j hb j e n=>u.slot b o e n hb (by simp)) (fun b o j e n=>u.free b o e n (by simp)) (fun b o j e=>u.there b o e (by simp)) u.tups u.frzs u.tbls (fun m' hm=>by
  obtain ⟨o',es',ep',ho',r'⟩:=hm
  rw[ho] at ho';cases ho'
  exact ⟨_,es',ep',hL,r'⟩) hok I.bare
theorem Inv.call {g':Array GenState} {t':Nat} {d':Drawn} {ch:List Addr} (I:Inv X pins Z H s) (u:Un (frs X.stack) ch H H' s.heap h') (hok:HOk X.prog X.w H' h') (hg:AllBare g')
  (hch:∀ b∈ch,(b∈X.ex\/X.s₀.heap.objs.size<=b)/\b≠X.env.locals/\(∀ x c,X.env.cells.lookup x=some c->c≠b)/\∀ p∈X.pn++pins,p.1≠b) :
  Inv X pins Z H' { s with heap:=h',gens:=g',drawn:=d',toks:=t' }:=by
 obtain ⟨m,⟨o,es,ep,ho,r⟩,j⟩:=id I.loc
 obtain ⟨sl,hL⟩:=u.any ho I.free fun z=>(hch _ z).2.1 rfl
 exact I.step (ch:=ch) hch (fun b o hL hb hc e n=>u.keep b o e n (fun z=>(aG.mp (I.stkSub b z)).elim hL hb) hc) (fun b o j j hc e n=>u.any e n hc) (fun b o hc e n=>u.free b o e n hc) (fun b o hc e=>u.there b o e hc) u.tups u.frzs u.tbls (fun m' hm=>by
  obtain ⟨o',es',ep',ho',r'⟩:=hm
  rw[ho] at ho';cases ho'
  exact ⟨_,es',ep',hL,r'⟩) hok hg
theorem Inv.turned {t':Nat} {it:Addr} (I:Inv X pins Z H s) (k:∀ b o,b≠it->s.heap.get? b=some o->h'.get? b=some o) (hn:H it=none) (hL:it≠X.env.locals)
  (h1:it∈X.ex\/X.s₀.heap.objs.size<=it) (h2:∀ x c,X.env.cells.lookup x=some c->c≠it) (h3:∀ p∈X.pn++pins,p.1≠it):Inv X pins Z H { s with heap:=h',toks:=t' }:=by
 have nit:∀ b u,H b=some u->b≠it:=fun b u e z=>by rw[z,hn] at e;cases e
 refine I.step (g':=s.gens) (d':=s.drawn) (ch:=[it]) (fun b hb=>?_) (fun b o j j hc e j=>k b o (fun z=>hc (by simp[z])) e) (fun b o j j hc e j=>⟨o.slots,k b o (fun z=>hc (by simp[z])) e⟩) (fun j j j j n=>n)
  (fun b o hc e=>⟨o,k b o (fun z=>hc (by simp[z])) e⟩) (fun j j e=>e) (fun j j j e=>e) (fun b ps e=>⟨#[],by rw[e];simp⟩) (fun m hm=>?_) (fun b u e=>?_) I.bare
 .have e:b=it:=by simpa using hb
  subst e
  exact ⟨h1,hL,h2,h3⟩
 .obtain ⟨o,es,ep,ho,r⟩:=hm
  exact ⟨o,es,ep,k _ o (Ne.symm hL) ho,r⟩
 .refine (I.hok b u e).stay (fun c v hc q=>k c v ?_ q) (fun j q=>q) fun j j q=>q
  rcases hc with z|z
  .rw[z];exact nit b u e
  .exact nit c _ z
theorem Inv.tok (I:Inv X pins Z H s) (t:Nat):Inv X pins Z H { s with toks:=t }:=I.un (h':=s.heap) (t':=t) Un.refl I.hok
theorem Inv.kept {t':Nat} (I:Inv X pins Z H s) (k:∀ b u,s.heap.get? b=some u->h'.get? b=some u):Inv X pins Z H { s with heap:=h',toks:=t' }:=I.un (Un.kept k) (I.hok.kept k)
theorem Inv.laid {a:Addr} {o:HO} {t':Nat} (I:Inv X pins Z H s) (k:∀ b u,s.heap.get? b=some u->h'.get? b=some u) (hp:s.heap.objs.size<=a) (new:ObjOk X.prog X.w (upd H a o) h' a o) :
  Inv X pins Z (upd H a o) { s with heap:=h',toks:=t' }:=I.un (Un.laid k hp (I.hok.fresh hp)) (I.hok.laid k hp new)
theorem Inv.write {x e:Addr} {o:HO} {t':Nat} (I:Inv X pins Z H s) (mu:Mut (H x)) (he:e=x\/H e=some (.own x)) (k:∀ b u,b≠e->s.heap.get? b=some u->h'.get? b=some u) (heo:∃ u,h'.get? e=some u)
  (new:ObjOk X.prog X.w (upd H x o) h' x o):Inv X pins Z (upd H x o) { s with heap:=h',toks:=t' }:=I.un (Un.write mu he k heo) (I.hok.write mu he k heo new)
theorem Inv.pins_of {pins':List (Addr×Obj)} (I:Inv X pins Z H s) (h:∀ p∈pins',s.heap.get? p.1=some p.2/\H p.1=none/\p.1≠X.env.locals/\p.1∉X.fs/\∀ v,p.2.data≠.cell v):Inv X pins' Z H s :=
 ⟨I.ok,I.os,I.bare,I.base,I.loc,I.cell,I.free,I.freeC,fun p hp=>(aT.mp hp).elim (fun z=>I.pin p (gS _ z)) (h p),I.hok,I.len⟩
theorem uO {N:List Str} (hN:N.Nodup) {i j:Nat} {x:Str} (a:N[i]?=some x) (b:N[j]?=some x):i=j:=by
 obtain ⟨h1,e1⟩:=ay.mp a
 obtain ⟨h2,e2⟩:=ay.mp b
 exact (getElem_inj hN).mp (e1.trans e2.symm)
theorem rT {M:Model} {A:Around} {E:Value->Shared->Prop} {i:Nat} {x:Str} {v:V} {u:Value} {Q:Unit->Shared->Prop} (I:Inv X pins Z H s) (hN:X.N.Nodup) (hi:X.N[i]?=some x) (hx:Loc X.env.scope x) (r:RelV v u)
  (h:∀ s',Inv X pins (Z.set i (some v)) H s'->(∃ a,Heap.SameBut a s.heap s'.heap/\(a=X.env.locals\/X.env.cells.lookup x=some a))->Q () s') (hf:X.fn x=true\/X.env.scope.names.lookup x=some .local:=by first|exact .inl rfl|exact .inr rfl|assumption):wpAny M A (storeName X.env x u) Q E s:=by
 obtain ⟨m,hn,hl⟩:=id I.loc
 have hcls:(X.env.scope.kind == .class || (X.env.scope.kind == .module && X.env.locals != X.env.globals))=false:=by rw[I.ok.kind];rfl
 have hiσ:i < Z.length:=by rw[I.len];exact (ay.mp hi).1
 have cne:=I.cne
 have tracked:∀ {a:Addr} {h':Heap},(∃ o,s.heap.get? a=some o/\H a=none)->Heap.SameBut a s.heap h'->HOk X.prog X.w H h':=fun {a h'} ha hs b ob e=>by
  obtain ⟨t,t,hfree⟩:=ha
  refine (I.hok b ob e).stay (fun c w' hc q=>(hs.2 c ?_).trans q) (fun t q=>q) fun t t q=>q
  rintro rfl
  rcases hc with rfl|hc
  .rw[hfree] at e;cases e
  .rw[hfree] at hc;cases hc
 rcases hx with hk|hk
 .refine wpAny_storeName_local hk hn (fun h' hn' hs=>?_) hcls
  obtain ⟨oL,t,t,hoL,t⟩:=id hn
  refine h _ ⟨I.ok,I.os,I.bare,⟨fun b o e n hb hx=>?_,fun b o e n hb hx=>?_,I.base.free,fun b o e hx=>?_,I.base.tups,I.base.frzs,I.base.tbls⟩,⟨_,hn',fun j y v' e1 e2 e3=>?_⟩,fun y c e=>?_,I.free,I.freeC,fun p hp=>?_,tracked ⟨oL,hoL,I.free⟩ hs,by simpa using I.len⟩ ⟨_,hs,.inl rfl⟩
  .exact (hs.2 b (bc (bD (aM e) I.ok.above))).trans (I.base.keep b o e n hb hx)
  .obtain ⟨sl,e1⟩:=I.base.slot b o e n hb hx
   exact ⟨sl,(hs.2 b (bc (bD (aM e) I.ok.above))).trans e1⟩
  .obtain ⟨o',e1⟩:=I.base.there b o e hx
   exact ⟨o',(hs.2 b (bc (bD (aM e) I.ok.above))).trans e1⟩
  .by_cases hj:j=i
   .subst hj
    rw[hi] at e1;cases e1
    rw[cO hiσ] at e2
    cases e2
    exact ⟨u,r,.inl ⟨hk,by simp⟩⟩
   .rw[cy (Ne.symm hj)] at e2
    obtain ⟨u',r',q⟩:=hl j y v' e1 e2 e3
    refine ⟨u',r',?_⟩
    rcases q with ⟨k,e⟩|⟨k,c,e,z⟩
    .refine .inl ⟨k,?_⟩
     have:y≠x:=fun e=>hj (uO hN e1 (e▸hi))
     simp[this,e]
    .exact .inr ⟨k,c,e,z.sameBut hs (cne y c e)⟩
  .obtain ⟨w',z⟩:=I.cell y c e
   exact ⟨w',z.sameBut hs (cne y c e)⟩
  .obtain ⟨e,n,ne,nf,d⟩:=I.pin p hp
   exact ⟨(hs.2 p.1 ne).trans e,n,ne,nf,d⟩
 .have hfn:X.fn x=true:=by
   rcases hf with z|z
   .exact z
   .rw[z] at hk;cases hk
  obtain ⟨c,hc⟩:=I.ok.has x (.inl hk)
  obtain ⟨w',z⟩:=I.cell x c hc
  refine wpAny_storeName_cell I.ok.kind hk hc z (fun h' hc' hs=>?_)
  obtain ⟨oc,hoc,hocd⟩:=id z
  refine h { s with heap:=h' } ⟨I.ok,I.os,I.bare,⟨fun b o e n hb hx=>?_,fun b o e n hb hx=>?_,I.base.free,fun b o e hx=>?_,I.base.tups,I.base.frzs,I.base.tbls⟩,⟨m,hn.sameBut hs (Ne.symm (cne x c hc)),fun j y v' e1 e2 e3=>?_⟩,fun y c' e=>?_,I.free,I.freeC,fun p hp=>?_,tracked ⟨oc,hoc,I.freeC x c hc⟩ hs,by simpa using I.len⟩ ⟨c,hs,.inr hc⟩
  .exact (hs.2 b (bc (bD (aM e) (I.ok.cab x c hfn hc)))).trans (I.base.keep b o e n hb hx)
  .obtain ⟨sl,e1⟩:=I.base.slot b o e n hb hx
   exact ⟨sl,(hs.2 b (bc (bD (aM e) (I.ok.cab x c hfn hc)))).trans e1⟩
  .obtain ⟨o',e1⟩:=I.base.there b o e hx
   exact ⟨o',(hs.2 b (bc (bD (aM e) (I.ok.cab x c hfn hc)))).trans e1⟩
  .by_cases hj:j=i
   .subst hj
    rw[hi] at e1;cases e1
    rw[cO hiσ] at e2
    cases e2
    exact ⟨u,r,.inr ⟨.inl hk,c,hc,hc'⟩⟩
   .rw[cy (Ne.symm hj)] at e2
    obtain ⟨u',r',q⟩:=hl j y v' e1 e2 e3
    refine ⟨u',r',?_⟩
    rcases q with q|⟨k,c',e,z'⟩
    .exact .inl q
    .refine .inr ⟨k,c',e,z'.sameBut hs ?_⟩
     rintro rfl
     exact hj (uO hN e1 (I.ok.inj _ _ _ e hc▸hi))
  .by_cases hcc:c'=c
   .subst hcc;exact ⟨_,hc'⟩
   .obtain ⟨w2,z2⟩:=I.cell y c' e
    exact ⟨w2,z2.sameBut hs hcc⟩
  .obtain ⟨e,n,ne,nf,d⟩:=I.pin p hp
   refine ⟨(hs.2 p.1 ?_).trans e,n,ne,nf,d⟩
   intro q
   rw[q,hoc] at e
   have q':oc=p.2:=Option.some.inj e
   exact d w' (by rw[<-q'];exact hocd)
theorem uD {M:Model} {A:Around} {E:Value->Shared->Prop} {i:Nat} {x:Str} {v:V} {u:Value} {Q:Unit->Shared->Prop} (I:Inv X pins Z H s) (hN:X.N.Nodup) (hi:X.N[i]?=some x) (hx:Loc X.env.scope x) (r:RelV v u)
  (h:∀ s',Inv X pins (Z.set i (some v)) H s'->Q () s') (hf:X.fn x=true\/X.env.scope.names.lookup x=some .local:=by first|exact .inl rfl|exact .inr rfl|assumption):wpAny M A (storeName X.env x u) Q E s :=
 rT I hN hi hx r (fun s' I' j=>h s' I') hf
theorem Inv.call' {s':Shared} {ch:List Addr} (I:Inv X pins Z H s) (ho:s'.os=s.os) (u:Un (frs X.stack) ch H H' s.heap s'.heap) (hok:HOk X.prog X.w H' s'.heap) (hg:AllBare s'.gens)
  (hch:∀ b∈ch,(b∈X.ex\/X.s₀.heap.objs.size<=b)/\b≠X.env.locals/\(∀ x c,X.env.cells.lookup x=some c->c≠b)/\∀ p∈X.pn++pins,p.1≠b):Inv X pins Z H' s':=by
 obtain ⟨h',g',d',t',o'⟩:=s'
 have e:o'=s.os:=ho
 subst e
 exact I.call (g':=g') (t':=t') (d':=d') u hok hg hch
end
abbrev XK:=Value->Option Addr->Hp->Prop
abbrev St:=List (Option V)
abbrev VK:=V->Hp->Prop
abbrev TE:=St->Hp->VK->Prop
abbrev TT:=St->Hp->(Bool->Hp->Prop)->Prop
abbrev TA:=St->Hp->(List V->Hp->Prop)->Prop
structure Ends where
 nx:St->Hp->Prop
 rt:VK
 bk:St->Hp->Prop:=fun _ _=>False
 ct:St->Hp->Prop:=fun _ _=>False
abbrev TS:=Ends->St->Hp->Prop
def EP (X:Cx) (pins:List (Addr×Obj)) (Z:St) (Q:VK) (u:Value) (s':Shared):Prop:=∃ v H',Inv X pins Z H' s'/\RelV v u/\Q v H'
def TP (X:Cx) (pins:List (Addr×Obj)) (Z:St) (Q:Bool->Hp->Prop) (b:Bool) (s':Shared):Prop:=∃ H',Inv X pins Z H' s'/\Q b H'
def AP (X:Cx) (pins:List (Addr×Obj)) (Z:St) (Q:List V->Hp->Prop) (us:List Value) (s':Shared):Prop:=∃ vs H',Inv X pins Z H' s'/\Vals vs us/\Q vs H'
def SP (X:Cx) (pins:List (Addr×Obj)) (D:Ends) (f:Flow) (s':Shared):Prop :=
 match f with
 | .next=>∃ σ' H',Inv X pins σ' H' s'/\D.nx σ' H'
 | .brk=>∃ σ' H',Inv X pins σ' H' s'/\D.bk σ' H'
 | .cont=>∃ σ' H',Inv X pins σ' H' s'/\D.ct σ' H'
 | .ret u=>∃ v σ' H',Inv X pins σ' H' s'/\RelV v u/\D.rt v H'
def PE (X:Cx) (e:Expr) (t:TE):Prop :=
 ∀ (pins:List (Addr×Obj)) (s:Shared) (Z:St) (H:Hp) (Q:VK),Inv X pins Z H s->t Z H Q->wpAny (model X.prog X.w) X.A (eval e X.env) (EP X pins Z Q) X.xe s
def PT (X:Cx) (e:Expr) (t:TT):Prop :=
 ∀ (pins:List (Addr×Obj)) (s:Shared) (Z:St) (H:Hp) (Q:Bool->Hp->Prop),Inv X pins Z H s->t Z H Q->wpAny (model X.prog X.w) X.A (isTrue e X.env (eval e X.env)) (TP X pins Z Q) X.xe s
def PW (X:Cx) (e:Expr) (t:TT):Prop :=
 ∀ (whole:Sem Value) (pins:List (Addr×Obj)) (s:Shared) (Z:St) (H:Hp) (Q:Bool->Hp->Prop),Inv X pins Z H s->t Z H Q->wpAny (model X.prog X.w) X.A (isTrue e X.env whole) (TP X pins Z Q) X.xe s
theorem PW.pt {X:Cx} {e:Expr} {t:TT} (h:PW X e t):PT X e t:=h _
def PA (X:Cx) (es:List Expr) (t:TA):Prop :=
 ∀ (pos:Pos) (pins:List (Addr×Obj)) (s:Shared) (Z:St) (H:Hp) (Q:List V->Hp->Prop),Inv X pins Z H s->t Z H Q->wpAny (model X.prog X.w) X.A (spliced (backTo pos (starEach es X.env))) (AP X pins Z Q) X.xe s
def PS (X:Cx) (st:Stmt) (t:TS):Prop :=
 ∀ (pins:List (Addr×Obj)) (s:Shared) (Z:St) (H:Hp) (D:Ends),Inv X pins Z H s->t D Z H->wpAny (model X.prog X.w) X.A (exec st X.env) (SP X pins D) X.xe s
def PSs (X:Cx) (st:List Stmt) (t:TS):Prop :=
 ∀ (pins:List (Addr×Obj)) (s:Shared) (Z:St) (H:Hp) (D:Ends),Inv X pins Z H s->t D Z H->wpAny (model X.prog X.w) X.A (execs st X.env) (SP X pins D) X.xe s
theorem thn {α:Type} {t:Sem α} {Q Q':α->Shared->Prop} {M:Model} {A:Around} {E:Value->Shared->Prop} {s:Shared} (h:wpAny M A t Q E s) (hQ:∀ a s,Q a s->Q' a s):wpAny M A t Q' E s:=cE h hQ fun j j x=>x
end L2
namespace L2
open PySem PySem.Spec PyProof.Rows
section
variable {X:Cx}
def tVar (i:Nat):TE:=fun Z H Q=>∃ v,Z[i]?=some (some v)/\Q v H
def tC (v:V):TE:=fun j H Q=>Q v H
theorem pe_var {i:Nat} {x:Str} {pos:Pos} (hN:X.N[i]?=some x) (hv:Vis X.env.scope x) (hd:(x == ("__debug__":Str))=false:=by decide) (hcd:(x == ("__classdict__":Str))=false:=by decide):PE X (.Name x pos) (tVar i):=by
 intro pins s Z H Q I h
 obtain ⟨v,e,h⟩:=h
 obtain ⟨m,hn,hl⟩:=I.loc
 obtain ⟨u,r,l⟩:=hl i x v hN e hv
 have fin:EP X pins Z Q u s:=⟨v,H,I,r,h⟩
 rcases l with ⟨hk,hm⟩|⟨hk,c,hc,hcell⟩
 .exact wpAny_Name (wpAny_loadName_local I.ok.kind hk hn hm fin) hd
 .rcases hk with hk|hk
  .exact wpAny_Name (wpAny_loadName_cell I.ok.kind hk hc hcell fin) hd
  .exact wpAny_Name (wpAny_loadName_free I.ok.kind hk hc hcell fin hcd) hd
theorem aa {i j pos}:PE X (.Constant (.int i) j pos) (tC (.int i)):=fun z z z H z I h=>wpAny_Constant_int ⟨.int i,H,I.tok _,⟨_,rfl⟩,h⟩
theorem di {b j pos}:PE X (.Constant (.bool b) j pos) (tC (.bl b)):=fun z z z H z I h=>Constant_bool ⟨.bl b,H,I,rfl,h⟩
theorem dJ {j pos}:PE X (.Constant .none j pos) (tC .non):=fun z z z H z I h=>Constant_none ⟨.non,H,I,rfl,h⟩
theorem aK {x j pos}:PE X (.Constant (.str x) j pos) (tC (.str x)):=fun z z z H z I h=>Calls.Constant_str ⟨.str x,H,I.tok _,⟨_,rfl⟩,h⟩
def Gl (X:Cx) (x:Str):Prop:=X.env.kindOf x=some .globalImplicit
theorem pP {E:Value->Shared->Prop} {pins:List (Addr×Obj)} {s:Shared} {Z:St} {H:Hp} {x:Str} {u:Value} {pos:Pos} {Q:Value->Shared->Prop} (I:Inv X pins Z H s) (hg:Gl X x) (hm:X.mg x=some u) (h:Q u s)
  (hd:(x == ("__debug__":Str))=false:=by decide):wpAny (model X.prog X.w) X.A (eval (.Name x pos) X.env) Q E s :=
 Calls.Name_function_global I.ok.kind hg (Calls.loadGlobal_global (by rw[I.ok.glob];exact I.mod.glob.keeps I.bk) hm h) hd
theorem eV {E:Value->Shared->Prop} {pins:List (Addr×Obj)} {s:Shared} {Z:St} {H:Hp} {x:Str} {u:Value} {pos:Pos} {Q:Value->Shared->Prop} (I:Inv X pins Z H s) (hg:Gl X x) (hm:X.mg x=none) (hv:bootBuiltins x=some u) (h:Q u s)
  (hn:x≠"__name__":=by decide) (hd:(x == ("__debug__":Str))=false:=by decide):wpAny (model X.prog X.w) X.A (eval (.Name x pos) X.env) Q E s:=by
 obtain ⟨mb,h1,h2⟩:=I.mod.blt
 exact Calls.Name_function_global I.ok.kind hg (Calls.loadGlobal_builtin (by rw[I.ok.glob];exact I.mod.glob.keeps I.bk) hm (by rw[I.ok.blt];exact h1.keeps I.bk) ((h2 x hn).trans hv) h) hd
theorem pV {x:Str} {v:V} {u:Value} {pos:Pos} (hg:Gl X x) (hm:X.mg x=some u) (r:RelV v u) (hd:(x == ("__debug__":Str))=false:=by decide):PE X (.Name x pos) (tC v) :=
 fun j j j H j I h=>pP I hg hm ⟨v,H,I,r,h⟩ hd
theorem vH {x:Str} {v:V} {u:Value} {pos:Pos} (hg:Gl X x) (hm:X.mg x=none) (hv:bootBuiltins x=some u) (r:RelV v u) (hn:x≠"__name__":=by decide) (hd:(x == ("__debug__":Str))=false:=by decide):PE X (.Name x pos) (tC v) :=
 fun j j j H j I h=>eV I hg hm hv ⟨v,H,I,r,h⟩ hn hd
variable {a b:Expr} {ta tb:TE} {pos:Pos}
def tB (t:TE):TT:=fun Z H Q=>t Z H fun x H1=>∃ c,x=.bl c/\Q c H1
theorem dj {e:Expr} {t:TE} (h:PE X e t) (he:∀ whole,isTrue e X.env whole=(do let v <- whole;standAt e.pos;holding [v] (truthy v)):=by intro j;rfl):PT X e (tB t):=by
 intro pins s Z H Q I hw
 refine isTrue_plain (thn (h pins s Z H _ I hw) fun v s1 ⟨x,H1,I1,r1,q1⟩=>?_) (he _)
 obtain ⟨d,rfl,q⟩:=q1
 cases r1
 exact gt ⟨H1,I1,q⟩
variable {tA tB':TT} {rest:List Expr}
def tAnd (t u:TT):TT:=fun Z H Q=>t Z H fun c H1=>if c=true then u Z H1 Q else Q false H1
def tOr (t u:TT):TT:=fun Z H Q=>t Z H fun c H1=>if c=true then Q true H1 else u Z H1 Q
def tNot (t:TT):TT:=fun Z H Q=>t Z H fun c H1=>Q (!c) H1
theorem fk (ha:PT X a tA):PW X (.BoolOp .And [a] pos) tA:=by
 intro wh pins s Z H Q I h
 refine isTrue_and (thn (ha pins s Z H Q I h) fun c s1 e=>?_)
 cases c with
 | true=>exact isTrue_and_nil e
 | false=>exact e
theorem eK (ha:PT X a tA):PW X (.BoolOp .Or [a] pos) tA:=by
 intro wh pins s Z H Q I h
 refine isTrue_or (thn (ha pins s Z H Q I h) fun c s1 e=>?_)
 cases c with
 | false=>exact isTrue_or_nil e
 | true=>exact e
theorem ft (ha:PT X a tA) (hb:PW X (.BoolOp .And (b::rest) pos) tB'):PW X (.BoolOp .And (a::b::rest) pos) (tAnd tA tB'):=by
 intro wh pins s Z H Q I h
 refine isTrue_and (thn (ha pins s Z H _ I h) fun c s1 ⟨H1,I1,q1⟩=>?_)
 cases c with
 | true=>exact hb wh pins s1 Z H1 Q I1 q1
 | false=>exact ⟨H1,I1,q1⟩
theorem dy (ha:PT X a tA) (hb:PW X (.BoolOp .Or (b::rest) pos) tB'):PW X (.BoolOp .Or (a::b::rest) pos) (tOr tA tB'):=by
 intro wh pins s Z H Q I h
 refine isTrue_or (thn (ha pins s Z H _ I h) fun c s1 ⟨H1,I1,q1⟩=>?_)
 cases c with
 | true=>exact ⟨H1,I1,q1⟩
 | false=>exact hb wh pins s1 Z H1 Q I1 q1
theorem jr (ha:PT X a tA):PT X (.UnaryOp .Not a pos) (tNot tA):=by
 intro pins s Z H Q I h
 exact isTrue_not (ha pins s Z H (fun c H1=>Q (!c) H1) I h)
def tAndV (ta tb:TE):TE:=fun Z H Q=>ta Z H fun x H1=>∃ c,x=.bl c/\if c=true then tb Z H1 Q else Q (.bl false) H1
def tOrV (ta tb:TE):TE:=fun Z H Q=>ta Z H fun x H1=>∃ c,x=.bl c/\if c=true then Q (.bl true) H1 else tb Z H1 Q
def tNotV (ta:TE):TE:=fun Z H Q=>ta Z H fun x H1=>∃ c,x=.bl c/\Q (.bl (!c)) H1
theorem nJ {op} {t:TE} (h:PE X a t):PE X (.BoolOp op [a] pos) t:=fun pins s Z H Q I hw=>BoolOp_one (h pins s Z H Q I hw)
theorem pR (ha:PE X a ta) (hb:PE X (.BoolOp .And (b::rest) pos) tb):PE X (.BoolOp .And (a::b::rest) pos) (tAndV ta tb):=by
 intro pins s Z H Q I h
 refine BoolOp_and (thn (ha pins s Z H _ I h) fun v s1 ⟨x,H1,I1,r1,q1⟩=>?_)
 obtain ⟨c,rfl,q1⟩:=q1
 cases r1
 refine gt ?_
 cases c with
 | true=>exact hb pins s1 Z H1 Q I1 q1
 | false=>exact ⟨.bl false,H1,I1,rfl,q1⟩
theorem pe_or (ha:PE X a ta) (hb:PE X (.BoolOp .Or (b::rest) pos) tb):PE X (.BoolOp .Or (a::b::rest) pos) (tOrV ta tb):=by
 intro pins s Z H Q I h
 refine BoolOp_or (thn (ha pins s Z H _ I h) fun v s1 ⟨x,H1,I1,r1,q1⟩=>?_)
 obtain ⟨c,rfl,q1⟩:=q1
 cases r1
 refine gt ?_
 cases c with
 | false=>exact hb pins s1 Z H1 Q I1 q1
 | true=>exact ⟨.bl true,H1,I1,rfl,q1⟩
theorem pe_not (ha:PE X a ta):PE X (.UnaryOp .Not a pos) (tNotV ta):=by
 intro pins s Z H Q I h
 refine UnaryOp_ (thn (ha pins s Z H _ I h) fun v s1 ⟨x,H1,I1,r1,q1⟩=>?_)
 obtain ⟨c,rfl,q1⟩:=q1
 cases r1
 exact not_of (gt ⟨.bl (!c),H1,I1,rfl,q1⟩)
def tIf (t:TT) (ta tb:TE):TE:=fun Z H Q=>t Z H fun c H1=>if c=true then ta Z H1 Q else tb Z H1 Q
theorem fB {c:Expr} (hc:PT X c tA) (ha:PE X a ta) (hb:PE X b tb):PE X (.IfExp c a b pos) (tIf tA ta tb):=by
 intro pins s Z H Q I h
 refine wpAny_IfExp (thn (hc pins s Z H _ I h) fun d s1 ⟨H1,I1,q1⟩=>?_)
 cases d with
 | true=>exact ha pins s1 Z H1 Q I1 q1
 | false=>exact hb pins s1 Z H1 Q I1 q1
end
end L2
namespace L2
open PySem PySem.Spec PyProof.Rows
def SqL (K:W.Frag) (H:Hp) (a:Addr) (xs:List V):Prop :=
 Rd H a (.lst xs) \/
  ∃ (o:Obj) (its:Array Value) (n:Nat),K.lookup a=some o/\o.cls=.type "list"/\o.dict=none/\o.data=.seq its n/\its.size<=sizeLine/\Vals xs its.toList
def SqT (K:W.Frag) (H:Hp) (a:Addr) (xs:List V):Prop :=
 Rd H a (.tup xs) \/
  ∃ (o:Obj) (its:Array Value) (n:Nat),K.lookup a=some o/\o.cls=.type "tuple"/\o.data=.seq its n/\its.size<=sizeLine/\Vals xs its.toList
def absV:Value->Option V
 | .none=>some .non
 | .bool b=>some (.bl b)
 | .int i _=>some (.int i)
 | .str x _=>some (.str x)
 | .bytes b _=>some (.byt b)
 | .float b _=>some (.flt b)
 | .ref a=>some (.ref a)
 | .type n=>some (.ty n)
 | _=>none
theorem RelV.abs {x:V} {u:Value} (r:RelV x u):absV u=some x:=by
 cases x with
 | non=>cases r;rfl
 | bl _=>cases r;rfl
 | int _=>obtain ⟨t,rfl⟩:=r;rfl
 | str _=>obtain ⟨t,rfl⟩:=r;rfl
 | byt _=>obtain ⟨t,rfl⟩:=r;rfl
 | flt _=>obtain ⟨t,rfl⟩:=r;rfl
 | ref _=>cases r;rfl
 | ty _=>cases r;rfl
theorem RelV.inj {x y:V} {u:Value} (r:RelV x u) (q:RelV y u):x=y:=Option.some.inj (r.abs.symm.trans q.abs)
theorem Vals.inj {xs ys:List V} {us:List Value} (h:Vals xs us) (h':Vals ys us):xs=ys:=by
 induction h generalizing ys with
 | nil=>cases h';rfl
 | cons r _ ih =>
  cases h' with
  | cons r' t'=>rw[r.inj r',ih t']
section
variable {X:Cx} {pins:List (Addr×Obj)} {Z:St} {H:Hp} {s:Shared} {a:Addr} {xs ys:List V}
theorem SqL.of {K:W.Frag} (h:H a=some (.lst xs)):SqL K H a xs:=.inl (.inl h)
theorem SqT.of {K:W.Frag} (h:H a=some (.tup xs)):SqT K H a xs:=.inl (.inl h)
theorem Inv.list (I:Inv X pins Z H s) (h:SqL X.K H a xs):∃ its:List Value,Vals xs its/\PlainL s.heap a its.toArray/\xs.length<=sizeLine:=by
 rcases h with h|⟨o,its,n,hk,hc,hd,hs,hz,r⟩
 .obtain ⟨z,its,n,r,e⟩:=h.ok I.hok
  exact ⟨its,r,⟨_,n,e,rfl,rfl,rfl⟩,z⟩
 .refine ⟨its.toList,r,⟨o,n,I.kIn a o hk,hc,hd,by simpa using hs⟩,?_⟩
  have e:=r.length
  simp only[jQ] at e
  lia
theorem Inv.tuple (I:Inv X pins Z H s) (h:SqT X.K H a xs):∃ its:List Value,Vals xs its/\IsTup s.heap a its.toArray/\xs.length<=sizeLine:=by
 rcases h with h|⟨o,its,n,hk,hc,hs,hz,r⟩
 .obtain ⟨z,its,r,p⟩:=h.ok I.hok
  exact ⟨its,r,p,z⟩
 .refine ⟨its.toList,r,⟨o,I.kIn a o hk,hc,n,by simpa using hs⟩,?_⟩
  have e:=r.length
  simp only[jQ] at e
  lia
theorem Inv.list_inj (I:Inv X pins Z H s) (h:SqL X.K H a xs) (h':SqL X.K H a ys):xs=ys:=by
 obtain ⟨its,r,⟨o,n,e,j,j,d⟩,j⟩:=I.list h
 obtain ⟨its',r',⟨o',n',e',j,j,d'⟩,j⟩:=I.list h'
 rw[e] at e';cases e'
 rw[d] at d'
 injection d' with d1 _
 have:its=its':=by simpa using congrArg Array.toList d1
 subst this
 exact r.inj r'
theorem Inv.tuple_inj (I:Inv X pins Z H s) (h:SqT X.K H a xs) (h':SqT X.K H a ys):xs=ys:=by
 obtain ⟨its,r,⟨o,e,j,n,d⟩,j⟩:=I.tuple h
 obtain ⟨its',r',⟨o',e',j,n',d'⟩,j⟩:=I.tuple h'
 rw[e] at e';cases e'
 rw[d] at d'
 injection d' with d1 _
 have:its=its':=by simpa using congrArg Array.toList d1
 subst this
 exact r.inj r'
end
abbrev Cx.wish (X:Cx) (E:Value->Shared->Prop):Cx:={ X with xe:=E }
abbrev Cx.nox (X:Cx):Cx:=X.wish fun j j=>False
theorem Cx.Ok.wish {X:Cx} (ok:X.Ok) (E:Value->Shared->Prop):(X.wish E).Ok :=
 ⟨ok.mod,ok.kind,ok.glob,ok.blt,ok.above,ok.inj,ok.has,ok.cab,ok.hd,ok.frames,ok.stk,ok.exf,ok.bs,ok.bsz,ok.noex,ok.exfs,ok.funs,ok.frf⟩
theorem Cx.Ok.unwish {X:Cx} {E:Value->Shared->Prop} (ok:(X.wish E).Ok):X.Ok :=
 ⟨ok.mod,ok.kind,ok.glob,ok.blt,ok.above,ok.inj,ok.has,ok.cab,ok.hd,ok.frames,ok.stk,ok.exf,ok.bs,ok.bsz,ok.noex,ok.exfs,ok.funs,ok.frf⟩
section
variable {X:Cx} {pins:List (Addr×Obj)} {Z:St} {H:Hp} {s:Shared} {E:Value->Shared->Prop}
theorem Inv.wish (I:Inv X pins Z H s) (E:Value->Shared->Prop):Inv (X.wish E) pins Z H s:=⟨I.ok.wish E,I.os,I.bare,I.base,I.loc,I.cell,I.free,I.freeC,I.pin,I.hok,I.len⟩
theorem Inv.unwish (I:Inv (X.wish E) pins Z H s):Inv X pins Z H s:=⟨I.ok.unwish,I.os,I.bare,I.base,I.loc,I.cell,I.free,I.freeC,I.pin,I.hok,I.len⟩
theorem SP.unwish {D:Ends} {f:Flow} {s':Shared} (h:SP (X.wish E) pins D f s'):SP X pins D f s':=by
 cases f with
 | next=>obtain ⟨σ',H',I,q⟩:=h;exact ⟨σ',H',I.unwish,q⟩
 | brk=>obtain ⟨σ',H',I,q⟩:=h;exact ⟨σ',H',I.unwish,q⟩
 | cont=>obtain ⟨σ',H',I,q⟩:=h;exact ⟨σ',H',I.unwish,q⟩
 | ret u=>obtain ⟨v,σ',H',I,r,q⟩:=h;exact ⟨v,σ',H',I.unwish,r,q⟩
theorem PSs.nox {st:List Stmt} {t:TS} (h:PSs X.nox st t):PSs X st t:=fun pins s Z H D I hw =>
 cE (h pins s Z H D (I.wish _) hw) (fun j j q=>q.unwish) fun j j z=>False.elim z
end
section
variable {X:Cx} {st:Stmt} {rest:List Stmt} {t u:TS} {e:Expr} {te:TE} {pos:Pos}
def qu:TS:=fun D Z H=>D.nx Z H
def tSeq (t u:TS):TS:=fun D Z H=>t { D with nx:=u D } Z H
theorem ba:PSs X [] qu:=fun j j Z H j I h=>nR ⟨Z,H,I,h⟩
theorem af (h1:PS X st t) (h2:PSs X rest u):PSs X (st::rest) (tSeq t u):=by
 intro pins s Z H D I h
 refine wpAny_execs_cons (thn (h1 pins s Z H { D with nx:=u D } I h) fun f s1 q=>?_)
 cases f with
 | next =>
  obtain ⟨σ',H',I',q⟩:=q
  exact h2 pins s1 σ' H' D I' q
 | ret v=>exact q
 | brk=>exact q
 | cont=>exact q
theorem ak (h1:PS X st t):PSs X [st] t:=by
 intro pins s Z H D I h
 refine wpAny_execs_cons (thn (h1 pins s Z H D I h) fun f s1 q=>?_)
 cases f with
 | next=>exact nR q
 | ret v=>exact q
 | brk=>exact q
 | cont=>exact q
def uy:TS:=fun D Z H=>D.bk Z H
theorem ZmJ:PS X (.Break pos) uy:=fun j j Z H j I h=>wpAny_Break ⟨Z,H,I,h⟩
theorem Inv.quiet {pins:List (Addr×Obj)} {Z:St} {H:Hp} {s:Shared} (I:Inv X pins Z H s):interactive X.env=false:=by simp[interactive,I.ok.kind]
def tDrop (te:TE):TS:=fun D Z H=>te Z H fun j H1=>D.nx Z H1
theorem cb (he:PE X e te) (hs:swapsWith e none pos.line X.env=pure false:=by rfl):PS X (.Expr e pos) (tDrop te):=by
 intro pins s Z H D I h
 exact wpAny_Expr_any (thn (he pins s Z H _ I h) fun v s1 ⟨x,H1,I1,r1,q1⟩=>⟨Z,H1,I1,q1⟩) I.quiet hs
def tRet (te:TE):TS:=fun D Z H=>te Z H D.rt
theorem au (he:PE X e te):PS X (.Return (some e) pos) (tRet te):=by
 intro pins s Z H D I h
 exact wpAny_Return_some (thn (he pins s Z H _ I h) fun v s1 ⟨x,H1,I1,r1,q1⟩=>⟨x,Z,H1,I1,r1,q1⟩)
def tIfS (c:TT) (t u:TS):TS:=fun D Z H=>c Z H fun b H1=>if b=true then t D Z H1 else u D Z H1
theorem a8 {c:Expr} {a b:List Stmt} {tc:TT} (hc:PT X c tc) (ha:PSs X a t) (hb:PSs X b u):PS X (.If c a b pos) (tIfS tc t u):=by
 intro pins s Z H D I h
 refine wpAny_If (thn (hc pins s Z H _ I h) fun d s1 ⟨H1,I1,q1⟩=>?_)
 cases d with
 | true=>exact ha pins s1 Z H1 D I1 q1
 | false=>exact hb pins s1 Z H1 D I1 q1
end
abbrev TG:=V->St->Hp->(St->Hp->Prop)->Prop
abbrev TGs:=List V->St->Hp->(St->Hp->Prop)->Prop
def PG (X:Cx) (target:Expr) (t:TG):Prop :=
 ∀ (pins:List (Addr×Obj)) (s:Shared) (Z:St) (H:Hp) (v:V) (u:Value) (Q:St->Hp->Prop),Inv X pins Z H s->RelV v u->t v Z H Q ->
  wpAny (model X.prog X.w) X.A (assign target X.env u) (fun j s'=>∃ σ' H',Inv X pins σ' H' s'/\Q σ' H') X.xe s
def PGs (X:Cx) (ts:List Expr) (t:TGs):Prop :=
 ∀ (pins:List (Addr×Obj)) (s:Shared) (Z:St) (H:Hp) (vs:List V) (us:List Value) (Q:St->Hp->Prop),Inv X pins Z H s->Vals vs us->t vs Z H Q ->
  wpAny (model X.prog X.w) X.A (assignInOrder ((assignEach ts X.env).map (·.2)) us) (fun j s'=>∃ σ' H',Inv X pins σ' H' s'/\Q σ' H') X.xe s
abbrev TSet:=V->V->V->Hp->(Hp->Prop)->Prop
def PSet (X:Cx) (t:TSet):Prop :=
 ∀ (pins:List (Addr×Obj)) (s:Shared) (Z:St) (H:Hp) (o i v:V) (ov iv u:Value) (Q:Hp->Prop),Inv X pins Z H s->RelV o ov->RelV i iv->RelV v u->t o i v H Q ->
  wpAny (model X.prog X.w) X.A (setItem ov iv u) (fun j s'=>∃ H',Inv X pins Z H' s'/\Q H') X.xe s
section
variable {X:Cx} {pos:Pos}
def dg (i:Nat):TG:=fun v Z H Q=>Q (Z.set i (some v)) H
theorem jj {i:Nat} {x:Str} (hN:X.N.Nodup) (hi:X.N[i]?=some x) (hx:Loc X.env.scope x) (hf:X.fn x=true\/X.env.scope.names.lookup x=some .local:=by first|exact .inl rfl|exact .inr rfl|assumption):PG X (.Name x pos) (dg i):=by
 intro pins s Z H v u Q I r h
 exact wpAny_assign_Name (uD I hN hi hx r (fun s' I'=>⟨_,H,I',h⟩) hf)
def gNil:TGs:=fun vs Z H Q=>vs=[]/\Q Z H
def gCons (t:TG) (u:TGs):TGs:=fun vs Z H Q=>∃ v r,vs=v::r/\t v Z H fun σ' H'=>u r σ' H' Q
theorem ce:PGs X [] gNil:=by
 intro pins s Z H vs us Q I r h
 obtain ⟨e,h⟩:=h
 subst e
 cases r
 exact assignInOrder_nil ⟨Z,H,I,h⟩
theorem aW {e:Expr} {es:List Expr} {t:TG} {u:TGs} (h1:PG X e t) (h2:PGs X es u)
  (hs:(assignEach (e::es) X.env).map (·.2)=assign e X.env::(assignEach es X.env).map (·.2):=by rfl):PGs X (e::es) (gCons t u):=by
 intro pins s Z H vs us Q I r h
 obtain ⟨v,vr,e1,h⟩:=h
 subst e1
 cases r with
 | cons r rr =>
  rw[hs]
  refine assignInOrder_cons (thn (h1 pins s Z H _ _ _ I r h) fun _ s1 ⟨σ1,H1,I1,q1⟩=>?_)
  exact h2 pins s1 σ1 H1 _ _ Q I1 rr q1
def gTup (K:W.Frag) (n:Nat) (t:TGs):TG:=fun v Z H Q=>∃ a xs,v=.ref a/\SqT K H a xs/\xs.length=n/\t xs Z H Q
theorem pg_tup {es:List Expr} {k:Nat} {t:TGs} {n:Nat} (hc:X.calm=true) (h:PGs X es t)
  (hn:(assignEach es X.env).length=n:=by rfl) (hst:(assignEach es X.env).findIdx? (·.1)=none:=by rfl):PG X (.Tuple es k pos) (gTup X.K n t):=by
 intro pins s Z H v u Q I r hw
 obtain ⟨a,xs,e1,hq,hl,hw⟩:=hw
 subst e1
 cases r
 obtain ⟨its,rv,ht,hz⟩:=I.tuple hq
 refine assign_Tuple_tuple (I.ok.hd hc) ht (by simp[hn,<- hl,rv.length]) hst fun h' hx=>?_
 have I1:Inv X pins Z H { s with heap:=h' }:=I.kept (t':=s.toks) fun b o e=>hx b o (bc (aM e)) e
 exact h pins _ Z H xs _ Q I1 (by simpa using rv) hw
def gSub (to ti:TE) (t:TSet):TG:=fun v Z H Q=>to Z H fun o H1=>ti Z H1 fun i H2=>t o i v H2 fun H3=>Q Z H3
theorem cV {o i:Expr} {to ti:TE} {t:TSet} (ho:PE X o to) (hi:PE X i ti) (hs:PSet X t)
  (ha:∀ v,assign (.Subscript o i pos) X.env v=(do
   let ov <- holding [v] (eval o X.env)
   let iv <- holding [v,ov] (eval i X.env)
   standAt pos
   holding [v,ov,iv] (setItem ov iv v)
   release [v,ov,iv] []):=by intro j;rfl):PG X (.Subscript o i pos) (gSub to ti t):=by
 intro pins s Z H v u Q I r h
 rw[ha]
 refine ab (cY (thn (ho pins s Z H _ I h) fun ov s1 z0_=>?_))
 obtain ⟨x,H1,I1,r1,q1⟩:=z0_
 refine ab (cY (thn (hi pins s1 Z H1 _ I1 q1) fun iv s2 z1_=>?_))
 obtain ⟨y,H2,I2,r2,q2⟩:=z1_
 refine ab (wpAny_standAt (ab (cY (thn (hs pins s2 Z H2 x y v ov iv u _ I2 r1 r2 r q2) fun j s3 z2_=>?_))))
 obtain ⟨H3,I3,q3⟩:=z2_
 exact wpAny_release ⟨Z,H3,I3,q3⟩
def tAsg (te:TE) (g:TG):TS:=fun D Z H=>te Z H fun x H1=>g x Z H1 D.nx
theorem cr {tg e:Expr} {te:TE} {g:TG} (he:PE X e te) (hg:PG X tg g) (hs:swapsWithSole [tg] e pos.line X.env=pure false:=by rfl) (hw:swappedStores [tg] e X.env=pure none:=by rfl)
  (h1:(assignEach [tg] X.env).map (·.2)=[assign tg X.env]:=by rfl):PS X (.Assign [tg] e pos) (tAsg te g):=by
 intro pins s Z H D I h
 refine wpAny_Assign_stores (thn (he pins s Z H _ I h) fun v s1 ⟨x,H1,I1,r1,q1⟩=>?_) hs hw
 rw[h1]
 exact thn (hg pins s1 Z H1 x v _ I1 r1 q1) fun j s2 q=>q
theorem bJ {i:Nat} {x:Str} {e:Expr} {te:TE} {pos':Pos} (hN:X.N.Nodup) (hi:X.N[i]?=some x) (hx:Loc X.env.scope x) (he:PE X e te) (hs:swapsWith e (some (.Name x pos')) pos.line X.env=pure false:=by rfl) (hf:X.fn x=true\/X.env.scope.names.lookup x=some .local:=by first|exact .inl rfl|exact .inr rfl|assumption) :
  PS X (.Assign [.Name x pos'] e pos) (tAsg te (dg i)):=by
 intro pins s Z H D I h
 refine wpAny_Assign_Name (thn (he pins s Z H _ I h) fun v s1 ⟨y,H1,I1,r1,q1⟩=>?_) hs
 exact uD I1 hN hi hx r1 (fun s2 I2=>⟨_,H1,I2,q1⟩) hf
end
section
variable {X:Cx} {pos:Pos}
def tI (c:TT) (tb:TS):TS:=fun D Z H=>∃ W:Nat->St->Hp->Prop,(∃ m,W m Z H)/\∀ m Z H,W m Z H ->
 c Z H fun b H1=>if b=true then ∃ N:St->Hp->Prop,(∀ σ' H',N σ' H'->∃ m',m' < m/\W m' σ' H')/\tb { D with nx:=N,ct:=N,bk:=D.nx } Z H1 else D.nx Z H1
theorem rW {c:Expr} {body:List Stmt} {tc:TT} {tb:TS} (hp:PassesOwn (model X.prog X.w) X.A X.env X.xe) (hc:PT X c tc) (hb:PSs X body tb):PS X (.While c body [] pos) (tI tc tb):=by
 intro pins s Z H D I h
 obtain ⟨W,⟨m0,w0⟩,turn⟩:=h
 refine wpAny_While (codeAny_whileLoop (fun n s'=>∃ σ' H',Inv X pins σ' H' s'/\W n σ' H') ?_ m0 ⟨Z,H,I,w0⟩)
 rintro n s1 ⟨σ1,H1,I1,w1⟩
 refine gT hp (thn (hc pins s1 σ1 H1 _ I1 (turn n σ1 H1 w1)) fun b s2 ⟨H2,I2,q2⟩=>?_)
 cases b with
 | true =>
  obtain ⟨N,hN,q2⟩:=q2
  rw[ag rfl]
  refine gT hp (thn (hb pins s2 σ1 H2 _ I2 q2) fun f s3 q3=>?_)
  cases f with
  | next =>
   obtain ⟨σ3,H3,I3,n3⟩:=q3
   obtain ⟨m',hm,w3⟩:=hN σ3 H3 n3
   exact ⟨m',hm,σ3,H3,I3,w3⟩
  | cont =>
   obtain ⟨σ3,H3,I3,n3⟩:=q3
   obtain ⟨m',hm,w3⟩:=hN σ3 H3 n3
   exact ⟨m',hm,σ3,H3,I3,w3⟩
  | brk=>exact q3
  | ret v=>exact q3
 | false =>
  rw[ah bo]
  exact nR ⟨σ1,H2,I2,q2⟩
end
structure It where
 go:Nat->Hp->Prop
 yld:Nat->Hp->V->Hp->Prop
 stop:Nat->Hp->Prop
def FpOk (X:Cx) (pins:List (Addr×Obj)) (H:Hp) (b:Addr):Prop :=
 H b=none/\b≠X.env.locals/\b∉X.fs/\(b∈X.ex\/X.s₀.heap.objs.size<=b)/\(∀ x c,X.env.cells.lookup x=some c->c≠b)/\∀ p∈X.pn++pins,p.1≠b
theorem Inv.fpOk {X:Cx} {pins:List (Addr×Obj)} {Z:St} {H H':Hp} {s:Shared} {b:Addr} (I:Inv X pins Z H s) (hb:s.heap.objs.size<=b) (hn:H' b=none):FpOk X pins H' b:=by
 refine ⟨hn,dr (bD I.lt hb),I.nofs hb,.inr (aR I.sz hb),fun x c e z=>?_,fun p hp z=>?_⟩
 .obtain ⟨v,q⟩:=I.cell x c e
  exact absurd (bD q.lt (by rw[z];exact hb)) (gq _)
 .exact absurd (bD (aM (I.pin p hp).1) (by rw[z];exact hb)) (gq _)
structure Turn (P:Program) (w:World) (K:W.Frag) (tg:Expr) (J:It) (fp:List Addr) (it:Addr) (tn:Nat->Heap->Prop):Prop where
 mem:it∈fp
 obj:∀ i h,tn i h->∀ b∈fp,∃ o,h.get? b=some o/\∀ v,o.data≠.cell v
 keep:∀ i h h',tn i h->(∀ b∈fp,∀ o,h.get? b=some o->h'.get? b=some o)->tn i h'
 item:∀ (X:Cx),X.prog=P->X.w=w->X.K=K->X.calm=true->∀ (i:Nat) (pins:List (Addr×Obj)) (s:Shared) (Z:St) (H:Hp) (E:Value->Shared->Prop),Inv X pins Z H s->(∀ b∈fp,FpOk X pins H b)->tn i s.heap->J.go i H ->
  wpAny (model P w) X.A (pyNext (.ref it)) (fun r s1=>∃ u,r=some u /\
   wpAny (model P w) X.A (letOwnedTupleGo tg (.ref it) u) (fun _ s2=>∃ x H',Inv X pins Z H' s2/\RelV x u/\J.yld i H x H'/\tn (i+1) s2.heap/\∀ b∈fp,H' b=none) E s1) E s
 done:∀ (X:Cx),X.prog=P->X.w=w->X.K=K->X.calm=true->∀ (i:Nat) (pins:List (Addr×Obj)) (s:Shared) (Z:St) (H:Hp) (E:Value->Shared->Prop),Inv X pins Z H s->(∀ b∈fp,FpOk X pins H b)->tn i s.heap->J.stop i H ->
  wpAny (model P w) X.A (pyNext (.ref it)) (fun r s1=>r=none/\Inv X pins Z H s1) E s
 self:∀ (A:Around) (i:Nat) (s:Shared) (Q:Value->Shared->Prop) (E:Value->Shared->Prop),tn i s.heap->Q (.ref it) s->wpAny (model P w) A (pyIter (.ref it)) Q E s
abbrev TI:=St->Hp->(It->Hp->Prop)->Prop
def PIE (X:Cx) (pins:List (Addr×Obj)) (Z:St) (tg:Expr) (R:It->Hp->Prop) (itv:Value) (s2:Shared):Prop :=
 ∃ (it:Addr) (fp:List Addr) (tn:Nat->Heap->Prop) (J:It) (H':Hp),itv=.ref it/\Inv X pins Z H' s2/\Turn X.prog X.w X.K tg J fp it tn/\tn 0 s2.heap/\(∀ b∈fp,FpOk X pins H' b)/\R J H'
def PI (X:Cx) (tg iter:Expr) (wi:TI):Prop :=
 ∀ (pins:List (Addr×Obj)) (s:Shared) (Z:St) (H:Hp) (R:It->Hp->Prop),Inv X pins Z H s->wi Z H R ->
  wpAny (model X.prog X.w) X.A (eval iter X.env) (fun v s1=>wpAny (model X.prog X.w) X.A (pyIter v) (PIE X pins Z tg R) X.xe s1) X.xe s
theorem qF {M : Model} {A : Around} {E : Value -> Shared -> Prop} {s : Shared} {tg : Expr} {it : Addr} {u : Value} {o : Obj} {n : String} {vs : Array Value} {Q : Unit -> Shared -> Prop} (ho : s.heap.get? it = some o) (hc : o.cls = .type n) (hd : o.data = .fields vs)
    (hn : ["enumerate", "zip", "dict_itemiterator", "dict_reverseitemiterator", "odict_iterator", "itertools.zip_longest", "itertools.pairwise"].contains n = false) (hQ : Q () s) : wpAny M A (letOwnedTupleGo tg (.ref it) u) Q E s := by
  unfold letOwnedTupleGo
  cases tg <;> first
    | exact am hQ
    | (cases u <;> first
        | exact am hQ
        | (refine ab (wpAny_load ho ?_)
           rw[hc,hd]
           show wpAny M A (if (["enumerate","zip","dict_itemiterator","dict_reverseitemiterator","odict_iterator","itertools.zip_longest","itertools.pairwise"].contains n && vs[0]? == some (rawInt _))=true then _ else _) Q E s
           rw[ah (by intro h;rw[hn,Bool.false_and] at h;cases h)]
           exact am hQ))
def Itl (K:W.Frag) (a:Addr):It :=
 ⟨fun i H=>∃ xs x,SqL K H a xs/\xs[i]?=some x,fun i H x H'=>H'=H/\∀ xs,SqL K H a xs->xs[i]?=some x,fun i H=>∃ xs,SqL K H a xs/\xs.length<=i⟩
def Itt (K:W.Frag) (a:Addr):It :=
 ⟨fun i H=>∃ xs x,SqT K H a xs/\xs[i]?=some x,fun i H x H'=>H'=H/\∀ xs,SqT K H a xs->xs[i]?=some x,fun i H=>∃ xs,SqT K H a xs/\xs.length<=i⟩
def Itr (lo:Int) (n:Nat):It:=⟨fun i j=>i < n,fun i H x H'=>H'=H/\x=.int (lo+i),fun i j=>n<=i⟩
theorem Zkn {P:Program} {w:World} {K:W.Frag} {tg:Expr} (a it:Addr):Turn P w K tg (Itl K a) [it] it (fun i h=>h.IsListIter it a i) where
 mem:=by simp
 obj:=fun i h st b hb=>by
  have e:b=it:=by simpa using hb
  subst e
  obtain ⟨o,e,c,d⟩:=st
  exact ⟨o,e,fun v z=>by rw[d] at z;cases z⟩
 keep:=fun i h h' st k=>st.at fun o e=>k it (by simp) o e
 item:=by
  intro X hP hw hK hc i pins s Z H E I hf st hg
  subst hP hw hK
  obtain ⟨xs,x,hq,hx⟩:=hg
  obtain ⟨its,rv,p,hz⟩:=I.list hq
  obtain ⟨u,hu,ru⟩:=rv.get hx
  obtain ⟨f0,f1,f2,f3,f4,f5⟩:=hf it (by simp)
  refine wpAny_pyNext_list_item st p.isList (x:=u) (by simpa using hu) fun h' st' sb=>?_
  have I1:Inv X pins Z H { s with heap:=h' }:=I.turned (t':=s.toks) (fun b o hb e=>(sb.2 b hb).trans e) f0 f1 f3 f4 f5
  obtain ⟨o,e,c,d⟩:=id st'
  exact ⟨u,rfl,qF (s:={ s with heap:=h' }) e c d (by decide) ⟨x,H,I1,ru,⟨rfl,fun ys hy=>by rw[I.list_inj hy hq];exact hx⟩,st',fun b hb=>(hf b hb).1⟩⟩
 done:=by
  intro X hP hw hK hc i pins s Z H E I hf st hg
  subst hP hw hK
  obtain ⟨xs,hq,hx⟩:=hg
  obtain ⟨its,rv,p,hz⟩:=I.list hq
  obtain ⟨f0,f1,f2,f3,f4,f5⟩:=hf it (by simp)
  have hl:=rv.length
  exact wpAny_pyNext_list_end (I.ok.hd hc) st p.isList (by simp;lia) fun h' eb=>⟨rfl,I.turned (t':=s.toks) (fun b o hb e=>eb b o hb e) f0 f1 f3 f4 f5⟩
 self:=fun j j j j j st h=>wpAny_pyIter_listiter st h
theorem Zju {P:Program} {w:World} {K:W.Frag} {tg:Expr} (a it:Addr):Turn P w K tg (Itt K a) [it] it (fun i h=>h.IsTupleIter it a i) where
 mem:=by simp
 obj:=fun i h st b hb=>by
  have e:b=it:=by simpa using hb
  subst e
  obtain ⟨o,e,c,d⟩:=st
  exact ⟨o,e,fun v z=>by rw[d] at z;cases z⟩
 keep:=fun i h h' st k=>st.at fun o e=>k it (by simp) o e
 item:=by
  intro X hP hw hK hc i pins s Z H E I hf st hg
  subst hP hw hK
  obtain ⟨xs,x,hq,hx⟩:=hg
  obtain ⟨its,rv,p,hz⟩:=I.tuple hq
  obtain ⟨u,hu,ru⟩:=rv.get hx
  obtain ⟨f0,f1,f2,f3,f4,f5⟩:=hf it (by simp)
  refine wpAny_pyNext_tuple_item st (show s.heap.IsTuple a its.toArray from p) (x:=u) (by simpa using hu) fun h' st' sb=>?_
  have I1:Inv X pins Z H { s with heap:=h' }:=I.turned (t':=s.toks) (fun b o hb e=>(sb.2 b hb).trans e) f0 f1 f3 f4 f5
  obtain ⟨o,e,c,d⟩:=id st'
  exact ⟨u,rfl,qF (s:={ s with heap:=h' }) e c d (by decide) ⟨x,H,I1,ru,⟨rfl,fun ys hy=>by rw[I.tuple_inj hy hq];exact hx⟩,st',fun b hb=>(hf b hb).1⟩⟩
 done:=by
  intro X hP hw hK hc i pins s Z H E I hf st hg
  subst hP hw hK
  obtain ⟨xs,hq,hx⟩:=hg
  obtain ⟨its,rv,p,hz⟩:=I.tuple hq
  obtain ⟨f0,f1,f2,f3,f4,f5⟩:=hf it (by simp)
  have hl:=rv.length
  exact wpAny_pyNext_tuple_end (I.ok.hd hc) st (show s.heap.IsTuple a its.toArray from p) (by simp;lia) fun h' eb=>⟨rfl,I.turned (t':=s.toks) (fun b o hb e=>eb b o hb e) f0 f1 f3 f4 f5⟩
 self:=fun j j j j j st h=>wpAny_pyIter_tupleiter st h
theorem Zjv {P:Program} {w:World} {K:W.Frag} {tg:Expr} (it:Addr) (lo:Int) (n:Nat):Turn P w K tg (Itr lo n) [it] it (fun i h=>IsRangeIter h it (lo+(i:Nat) * 1) ((n:Int) - (i:Nat)) 1) where
 mem:=by simp
 obj:=fun i h st b hb=>by
  have e:b=it:=by simpa using hb
  subst e
  exact ⟨_,st,fun v z=>by
   have z':Data.fields _=Data.cell v:=z
   cases z'⟩
 keep:=fun i h h' st k=>k it (by simp) _ st
 item:=by
  intro X hP hw hK hc i pins s Z H E I hf st hg
  subst hP hw hK
  obtain ⟨f0,f1,f2,f3,f4,f5⟩:=hf it (by simp)
  have W:=Walks.range (prog:=X.prog) (w:=X.w) (I.ok.hd hc) it lo 1 n
  refine W.item i s _ _ hg st fun v h' tk hv st' kk=>?_
  obtain ⟨t,rfl⟩:=hv
  have I1:Inv X pins Z H { s with heap:=h',toks:=tk }:=I.turned (fun b o hb e=>kk b o (by simpa using hb) e) f0 f1 f3 f4 f5
  refine ⟨_,rfl,qF (s:={ s with heap:=h',toks:=tk }) (n:="range_iterator") st' rfl rfl (by decide) ⟨.int (lo+i),H,I1,⟨t,?_⟩,⟨rfl,rfl⟩,st',fun b hb=>(hf b hb).1⟩⟩
  rw[Int.mul_one]
 done:=by
  intro X hP hw hK hc i pins s Z H E I hf st hg
  subst hP hw hK
  obtain ⟨f0,f1,f2,f3,f4,f5⟩:=hf it (by simp)
  exact wpAny_pyNext_range_end (I.ok.hd hc) st (by have:n<=i:=hg;lia) fun h' eb=>⟨rfl,I.turned (t':=s.toks) (fun b o hb e=>eb b o hb e) f0 f1 f3 f4 f5⟩
 self:=fun j j j j j st h=>wpAny_pyIter_rangeiter st h
end L2
namespace L2
open PySem PySem.Spec PyProof.Rows
section
variable {X:Cx} {tg:Expr}
def nQ (K:W.Frag) (tl:TE):TI:=fun Z H R=>tl Z H fun x H1=>∃ a,x=.ref a/\(∃ xs,SqL K H1 a xs)/\R (Itl K a) H1
def iTup (K:W.Frag) (tl:TE):TI:=fun Z H R=>tl Z H fun x H1=>∃ a,x=.ref a/\(∃ xs,SqT K H1 a xs)/\R (Itt K a) H1
theorem ZoP {l:Expr} {tl:TE} (hl:PE X l tl):PI X tg l (nQ X.K tl):=by
 intro pins s Z H R I h
 refine thn (hl pins s Z H _ I h) fun v s1 z0_=>?_
 obtain ⟨x,H1,I1,r1,q1⟩:=z0_
 obtain ⟨a,e,⟨xs,hq⟩,q⟩:=q1
 subst e
 cases r1
 obtain ⟨its,rv,p,hz⟩:=I1.list hq
 refine nT p.isList ?_
 refine ⟨s1.heap.objs.size,[s1.heap.objs.size],_,_,H1,rfl,I1.kept (t':=s1.toks) fun b o e=>aJ _ e,Zkn a _,⟨_,bp _ rfl,rfl,rfl⟩,fun b hb=>?_,q⟩
 have e:b=s1.heap.objs.size:=by simpa using hb
 subst e
 exact I1.fpOk (aq _) (I1.hok.fresh (aq _))
theorem pi_tup {l:Expr} {tl:TE} (hl:PE X l tl):PI X tg l (iTup X.K tl):=by
 intro pins s Z H R I h
 refine thn (hl pins s Z H _ I h) fun v s1 ⟨x,H1,I1,r1,q1⟩=>?_
 obtain ⟨a,e,⟨xs,hq⟩,q⟩:=q1
 subst e
 cases r1
 obtain ⟨its,rv,p,hz⟩:=I1.tuple hq
 refine gU (show s1.heap.IsTuple a its.toArray from p) ?_
 refine ⟨s1.heap.objs.size,[s1.heap.objs.size],_,_,H1,rfl,I1.kept (t':=s1.toks) fun b o e=>aJ _ e,Zju a _,⟨_,bp _ rfl,rfl,rfl⟩,fun b hb=>?_,q⟩
 have e:b=s1.heap.objs.size:=by simpa using hb
 subst e
 exact I1.fpOk (aq _) (I1.hok.fresh (aq _))
theorem ua {pins:List (Addr×Obj)} {Z:St} {H:Hp} {s:Shared} {R:It->Hp->Prop} {E:Value->Shared->Prop} {lo hi:Int} {t u v:Tok} {tk:Nat} (I:Inv X pins Z H s) (h1:-(2 ^ 62)<=lo) (h2:lo < 2 ^ 62) (h3:-(2 ^ 62)<=hi) (h4:hi < 2 ^ 62)
  (q:R (Itr lo (hi - lo).toNat) H):wpAny (model X.prog X.w) X.A (pyIter (.ref s.heap.objs.size)) (PIE X pins Z tg R) E { s with heap:=s.heap.push { cls:=.type "range",data:=.fields #[.int lo t,.int hi u,.int 1 v] },toks:=tk }:=by
 refine wpAny_pyIter_range (IsRange.new ..) (small_one h1 h2 h3 h4) ?_
 have I1:Inv X pins Z H { s with heap:=s.heap.push { cls:=.type "range",data:=.fields #[.int lo t,.int hi u,.int 1 v] },toks:=tk }:=I.kept fun b o e=>aJ _ e
 refine ⟨(s.heap.push { cls:=.type "range",data:=.fields #[.int lo t,.int hi u,.int 1 v] }).objs.size,[(s.heap.push { cls:=.type "range",data:=.fields #[.int lo t,.int hi u,.int 1 v] }).objs.size],_,_,H,rfl,
  I1.kept (t':=tk) fun b o e=>aJ _ e,Zjv _ lo (hi - lo).toNat,?_,fun b hb=>?_,q⟩
 .have e1:lo+((0:Nat):Int) * 1=lo:=by simp
  have e2:(((hi - lo).toNat:Nat):Int) - ((0:Nat):Int)=Builtin.Range.rangeSize lo hi 1:=by rw[rangeSize_one];split <;> lia
  show IsRangeIter _ _ (lo+((0:Nat):Int) * 1) ((((hi - lo).toNat:Nat):Int) - ((0:Nat):Int)) 1
  rw[e1,e2]
  exact bp _ rfl
 .have e:b=(s.heap.push { cls:=.type "range",data:=.fields #[.int lo t,.int hi u,.int 1 v] }).objs.size:=by simpa using hb
  subst e
  exact I1.fpOk (aq _) (I1.hok.fresh (aq _))
def pW (ta:TA):TI:=fun Z H R=>ta Z H fun vs H1=>∃ j:Int,vs=[.int j]/\-(2 ^ 62)<=j/\j < 2 ^ 62/\R (Itr 0 j.toNat) H1
def iRng2 (ta:TA):TI:=fun Z H R=>ta Z H fun vs H1=>∃ i j:Int,vs=[.int i,.int j]/\(-(2 ^ 62)<=i/\i < 2 ^ 62/\-(2 ^ 62)<=j/\j < 2 ^ 62)/\R (Itr i (j - i).toNat) H1
theorem de {a:Expr} {ta:TA} {p pos:Pos} (hg:Gl X "range") (hm:X.mg "range"=none) (ha:PA X [a] ta) (hs:starEach [a] X.env=[(false,eval a X.env)]:=by rfl):PI X tg (.Call (.Name "range" p) [a] [] pos) (pW ta):=by
 intro pins s Z H R I h
 refine Call_ (eV I hg hm boot_range (gu (thn (ha pos pins s Z H _ I h) fun us s1 ⟨vs,H1,I1,r1,q1⟩=>?_) hs rfl))
 obtain ⟨j,e,q1,q2,q⟩:=q1
 subst e
 cases r1 with
 | cons r rr =>
  cases rr
  obtain ⟨t,rfl⟩:=r
  exact call_range_1 (ua I1 (by lia) (by lia) q1 q2 (by simpa using q))
theorem uZ {a b:Expr} {ta:TA} {p pos:Pos} (hg:Gl X "range") (hm:X.mg "range"=none) (ha:PA X [a,b] ta) (hs:starEach [a,b] X.env=[(false,eval a X.env),(false,eval b X.env)]:=by rfl) (hs2:starEach [b] X.env=[(false,eval b X.env)]:=by rfl) :
  PI X tg (.Call (.Name "range" p) [a,b] [] pos) (iRng2 ta):=by
 intro pins s Z H R I h
 refine Call_ (eV I hg hm boot_range (gu (thn (ha pos pins s Z H _ I h) fun us s1 ⟨vs,H1,I1,r1,q1⟩=>?_) (by rw[hs,hs2]) (by rw[hs2];rfl)))
 obtain ⟨i,j,e,⟨q1,q2,q3,q4⟩,q⟩:=q1
 subst e
 cases r1 with
 | cons r rr =>
  cases rr with
  | cons r' rr =>
   cases rr
   obtain ⟨t,rfl⟩:=r
   obtain ⟨t',rfl⟩:=r'
   exact call_range_2 (ua I1 q1 q2 q3 q4 q)
def tFor (wi:TI) (g:TG) (tb:TS):TS:=fun D Z H=>wi Z H fun J H1=>∃ W:Nat->Nat->St->Hp->Prop,(∃ m,W 0 m Z H1)/\∀ i m Z H,W i m Z H ->
 (J.stop i H/\D.nx Z H)\/(J.go i H/\∃ N:St->Hp->Prop,(∀ σ' H',N σ' H'->∃ m',m' < m/\W (i+1) m' σ' H')/\∀ x H',J.yld i H x H'->g x Z H' fun σ2 H2=>tb { D with nx:=N,ct:=N,bk:=D.nx } σ2 H2)
def cS (fp:List Addr) (h:Heap):List (Addr×Obj):=fp.filterMap fun b=>(h.get? b).map fun o=>(b,o)
theorem jp {fp:List Addr} {h:Heap} {b:Addr} {o:Obj} (hb:b∈fp) (e:h.get? b=some o):(b,o)∈cS fp h:=mem_filterMap.mpr ⟨b,hb,by rw[e];rfl⟩
theorem uM {fp:List Addr} {h:Heap} {p:Addr×Obj} (hp:p∈cS fp h):p.1∈fp/\h.get? p.1=some p.2:=by
 obtain ⟨b,hb,e⟩:=mem_filterMap.mp hp
 cases q:h.get? b with
 | none=>rw[q] at e;cases e
 | some o =>
  rw[q] at e
  have e':(b,o)=p:=Option.some.inj e
  subst e'
  exact ⟨hb,q⟩
theorem Inv.pinned {pins:List (Addr×Obj)} {Z:St} {H:Hp} {s:Shared} {fp:List Addr} (I:Inv X pins Z H s) (hf:∀ b∈fp,FpOk X pins H b) (ho:∀ b∈fp,∃ o,s.heap.get? b=some o/\∀ v,o.data≠.cell v):Inv X (pins++cS fp s.heap) Z H s :=
 I.pins_of fun p hp=>(aT.mp hp).elim (fun z=>I.pin p (cZ _ z)) fun z=>by
  obtain ⟨hb,e⟩:=uM z
  obtain ⟨f0,f1,f2,j⟩:=hf p.1 hb
  obtain ⟨o,e',d⟩:=ho p.1 hb
  rw[e] at e';cases e'
  exact ⟨e,f0,f1,f2,d⟩
theorem Inv.unpinned {pins pl:List (Addr×Obj)} {Z:St} {H:Hp} {s:Shared} (I:Inv X (pins++pl) Z H s):Inv X pins Z H s:=I.pins_of fun p hp=>I.pin p (cZ _ (gS _ hp))
theorem bX {iter:Expr} {body:List Stmt} {wi:TI} {g:TG} {tb:TS} {pos:Pos} (hp:PassesOwn (model X.prog X.w) X.A X.env X.xe) (hc:X.calm=true) (hi:PI X tg iter wi) (hg:PG X tg g) (hb:PSs X body tb)
  (hs:∀ x,foldedSetIterable iter X.env x=pure x:=by intro j;rfl):PS X (.For tg iter body [] pos) (tFor wi g tb):=by
 intro pins s Z H D I h
 refine wpAny_For (thn (hi pins s Z H _ I h) fun v s1 h1=>thn h1 fun itv s2 h2=>?_) hs
 obtain ⟨it,fp,tn,J,H2,e,I2,T,st2,f2,W,⟨m0,w0⟩,turn⟩:=h2
 subst e
 have stat:∀ {H':Hp},(∀ b∈fp,H' b=none)->∀ b∈fp,FpOk X pins H' b:=fun hn b hb=>⟨hn b hb,(f2 b hb).2⟩
 refine codeAny_forLoop_any (fun n s'=>∃ i σ' H',Inv X pins σ' H' s'/\tn i s'.heap/\(∀ b∈fp,H' b=none)/\W i n σ' H') ?_ m0 ⟨0,Z,H2,I2,st2,fun b hb=>(f2 b hb).1,w0⟩
 rintro n s3 ⟨i,σ3,H3,I3,st3,fr3,w3⟩
 rcases turn i n σ3 H3 w3 with ⟨stop,qn⟩|⟨go,N,hN,step⟩
 .refine gT hp (thn (T.done X rfl rfl rfl hc i pins s3 σ3 H3 X.xe I3 (stat fr3) st3 stop) fun r s4 z0_=>?_)
  obtain ⟨hr,I4⟩:=z0_
  subst hr
  exact nR ⟨σ3,H3,I4,qn⟩
 .refine gT hp (thn (T.item X rfl rfl rfl hc i pins s3 σ3 H3 X.xe I3 (stat fr3) st3 go) fun r s4 z1_=>?_)
  obtain ⟨u,hr,h4⟩:=z1_
  subst hr
  refine gT hp (thn h4 fun j s5 z2_=>?_)
  obtain ⟨x,H5,I5,r5,y5,st5,fr5⟩:=z2_
  have I5':=I5.pinned (stat fr5) (T.obj _ _ st5)
  refine gT hp (thn (hg _ s5 σ3 H5 x u _ I5' r5 (step x H5 y5)) fun j s6 z3_=>?_)
  obtain ⟨σ6,H6,I6,q6⟩:=z3_
  refine gT hp (thn (hb _ s6 σ6 H6 _ I6 q6) fun f s7 q7=>?_)
  have again:∀ {σ7:St} {H7:Hp},Inv X (pins++cS fp s5.heap) σ7 H7 s7->N σ7 H7->∃ m,m < n/\∃ i σ' H',Inv X pins σ' H' s7/\tn i s7.heap/\(∀ b∈fp,H' b=none)/\W i m σ' H':=fun {σ7 H7} I7 n7=>by
   obtain ⟨m',hm,w7⟩:=hN σ7 H7 n7
   refine ⟨m',hm,i+1,σ7,H7,I7.unpinned,T.keep _ _ _ st5 fun b hb o e=>(I7.pin (b,o) (cZ _ (cZ _ (jp hb e)))).1,fun b hb=>?_,w7⟩
   obtain ⟨o,e,d⟩:=T.obj _ _ st5 b hb
   exact (I7.pin (b,o) (cZ _ (cZ _ (jp hb e)))).2.1
  cases f with
  | next=>obtain ⟨σ7,H7,I7,n7⟩:=q7;exact again I7 n7
  | cont=>obtain ⟨σ7,H7,I7,n7⟩:=q7;exact again I7 n7
  | brk=>obtain ⟨σ7,H7,I7,q7⟩:=q7;exact ⟨σ7,H7,I7.unpinned,q7⟩
  | ret v=>obtain ⟨x7,σ7,H7,I7,r7,q7⟩:=q7;exact ⟨x7,σ7,H7,I7.unpinned,r7,q7⟩
end
theorem Znj {K:W.Frag} {a:Addr} {xs:List V} {g:TG} {tb:TS} {D:Ends} {Z:St} {H:Hp} (Pv:Nat->St->Hp->Prop) (h0:Pv 0 Z H) (hl:∀ i Z H,i<=xs.length->Pv i Z H->SqL K H a xs)
  (hs:∀ i x Z H,xs[i]?=some x->Pv i Z H->g x Z H fun σ2 H2=>tb { D with nx:=Pv (i+1),ct:=Pv (i+1),bk:=D.nx } σ2 H2) (hd:∀ Z H,Pv xs.length Z H->D.nx Z H) :
  ∃ W:Nat->Nat->St->Hp->Prop,(∃ m,W 0 m Z H)/\∀ i m Z H,W i m Z H ->
   ((Itl K a).stop i H/\D.nx Z H)\/((Itl K a).go i H/\∃ N:St->Hp->Prop,(∀ σ' H',N σ' H'->∃ m',m' < m/\W (i+1) m' σ' H')/\∀ x H',(Itl K a).yld i H x H'->g x Z H' fun σ2 H2=>tb { D with nx:=N,ct:=N,bk:=D.nx } σ2 H2):=by
 refine ⟨fun i m Z H=>m=xs.length - i/\i<=xs.length/\Pv i Z H,⟨xs.length,by simp,bg _,h0⟩,?_⟩
 rintro i m Z H ⟨rfl,hi,p⟩
 have q:=hl i Z H hi p
 by_cases hlt:i < xs.length
 .refine .inr ⟨⟨xs,xs[i],q,by simp[hlt]⟩,Pv (i+1),fun σ' H' p'=>⟨xs.length - (i+1),by lia,rfl,hlt,p'⟩,fun x H' y=>?_⟩
  obtain ⟨e,y⟩:=y
  subst e
  exact hs i x Z _ (y xs q) p
 .have e:i=xs.length:=by lia
  subst e
  exact .inl ⟨⟨xs,q,aq _⟩,hd Z H p⟩
end L2
namespace L2
open PySem PySem.Spec PyProof.Rows
abbrev R2:=V->V->Hp->VK->Prop
def OpR (X:Cx) (f:Value->Value->Sem Value) (r:R2):Prop :=
 ∀ (pins:List (Addr×Obj)) (s:Shared) (Z:St) (H:Hp) (x y:V) (v u:Value) (Q:VK),Inv X pins Z H s->RelV x v->RelV y u->r x y H Q ->
  wpAny (model X.prog X.w) X.A (f v u) (EP X pins Z Q) X.xe s
def UnR (X:Cx) (f:Value->Sem Value) (r:V->Hp->VK->Prop):Prop :=
 ∀ (pins:List (Addr×Obj)) (s:Shared) (Z:St) (H:Hp) (x:V) (v:Value) (Q:VK),Inv X pins Z H s->RelV x v->r x H Q ->
  wpAny (model X.prog X.w) X.A (f v) (EP X pins Z Q) X.xe s
def bA (X:Cx) (f:Value) (r:List V->Hp->VK->Prop):Prop :=
 ∀ (pins:List (Addr×Obj)) (s:Shared) (Z:St) (H:Hp) (xs:List V) (us:List Value) (Q:VK),Inv X pins Z H s->Vals xs us->r xs H Q ->
  wpAny (model X.prog X.w) X.A (call f us) (EP X pins Z Q) X.xe s
def tOp (r:R2) (ta tb:TE):TE:=fun Z H Q=>ta Z H fun x H1=>tb Z H1 fun y H2=>r x y H2 Q
def tUn (r:V->Hp->VK->Prop) (ta:TE):TE:=fun Z H Q=>ta Z H fun x H1=>r x H1 Q
def rI (C:Int->Int->Prop) (g:Int->Int->V):R2:=fun x y H Q=>∃ i j,x=.int i/\y=.int j/\C i j/\Q (g i j) H
def rI0 (g:Int->Int->V):R2:=fun x y H Q=>∃ i j,x=.int i/\y=.int j/\Q (g i j) H
def rU (g:Int->V):V->Hp->VK->Prop:=fun x H Q=>∃ i,x=.int i/\Q (g i) H
section
variable {X:Cx} {a b c:Expr} {ta tb tc:TE} {pos:Pos}
theorem binT (ha:PE X a ta) (hb:PE X b tb) {pins:List (Addr×Obj)} {s:Shared} {Z:St} {H:Hp} {R:V->V->Hp->Prop} (I:Inv X pins Z H s)
  (h:ta Z H fun x H1=>tb Z H1 fun y H2=>R x y H2) {Q:Value->Shared->Prop} {f:Value->Value->Sem Value}
  (hf:∀ v u s2 x y H2,Inv X pins Z H2 s2->RelV x v->RelV y u->R x y H2->wpAny (model X.prog X.w) X.A (f v u) Q X.xe s2) :
  wpAny (model X.prog X.w) X.A (eval a X.env) (fun v s₁=>wpAny (model X.prog X.w) X.A (eval b X.env) (fun u s₂=>wpAny (model X.prog X.w) X.A (f v u) Q X.xe s₂) X.xe s₁) X.xe s:=by
 refine thn (ha pins s Z H _ I h) fun v s1 ⟨x,H1,I1,r1,q1⟩=>?_
 refine thn (hb pins s1 Z H1 _ I1 q1) fun u s2 ⟨y,H2,I2,r2,q2⟩=>?_
 exact hf v u s2 x y H2 I2 r1 r2 q2
theorem av {op:Operator} {r:R2} (ho:OpR X (binaryOp op) r) (ha:PE X a ta) (hb:PE X b tb):PE X (.BinOp a op b pos) (tOp r ta tb):=by
 intro pins s Z H Q I h
 exact wpAny_BinOp (binT ha hb I h fun v u s2 x y H2 I2 rx ry q=>ho pins s2 Z H2 x y v u Q I2 rx ry q)
theorem cq {op:UnaryOp} {r:V->Hp->VK->Prop} (ho:UnR X (unaryOp op) r) (ha:PE X a ta):PE X (.UnaryOp op a pos) (tUn r ta):=by
 intro pins s Z H Q I h
 exact UnaryOp_ (thn (ha pins s Z H _ I h) fun v s1 ⟨x,H1,I1,r1,q1⟩=>ho pins s1 Z H1 x v Q I1 r1 q1)
theorem opI {f:Value->Value->Sem Value} {C:Int->Int->Prop} {g:Int->Int->Int}
  (rule:∀ (i j:Int) (t u:Tok) (s:Shared) (Q:Value->Shared->Prop) (E:Value->Shared->Prop),C i j->Q (.int (g i j) s.toks) { s with toks:=s.toks+1 }->wpAny (model X.prog X.w) X.A (f (.int i t) (.int j u)) Q E s) :
  OpR X f (rI C fun i j=>.int (g i j)):=by
 intro pins s Z H x y v u Q I rx ry h
 obtain ⟨i,j,rfl,rfl,hc,q⟩:=h
 obtain ⟨t,rfl⟩:=rx
 obtain ⟨t',rfl⟩:=ry
 exact rule i j t t' s _ _ hc ⟨.int (g i j),H,I.tok _,⟨_,rfl⟩,q⟩
theorem opI0 {f:Value->Value->Sem Value} {g:Int->Int->Int}
  (rule:∀ (i j:Int) (t u:Tok) (s:Shared) (Q:Value->Shared->Prop) (E:Value->Shared->Prop),Q (.int (g i j) s.toks) { s with toks:=s.toks+1 }->wpAny (model X.prog X.w) X.A (f (.int i t) (.int j u)) Q E s) :
  OpR X f (rI0 fun i j=>.int (g i j)):=by
 intro pins s Z H x y v u Q I rx ry h
 obtain ⟨i,j,rfl,rfl,q⟩:=h
 obtain ⟨t,rfl⟩:=rx
 obtain ⟨t',rfl⟩:=ry
 exact rule i j t t' s _ _ ⟨.int (g i j),H,I.tok _,⟨_,rfl⟩,q⟩
theorem opB0 {f:Value->Value->Sem Value} {g:Int->Int->Bool}
  (rule:∀ (i j:Int) (t u:Tok) (s:Shared) (Q:Value->Shared->Prop) (E:Value->Shared->Prop),Q (.bool (g i j)) s->wpAny (model X.prog X.w) X.A (f (.int i t) (.int j u)) Q E s) :
  OpR X f (rI0 fun i j=>.bl (g i j)):=by
 intro pins s Z H x y v u Q I rx ry h
 obtain ⟨i,j,rfl,rfl,q⟩:=h
 obtain ⟨t,rfl⟩:=rx
 obtain ⟨t',rfl⟩:=ry
 exact rule i j t t' s _ _ ⟨.bl (g i j),H,I,rfl,q⟩
def CPow (i j:Int):Prop:=0<=j/\j<=1000000/\i.natAbs < 2 ^ 64
def CMul (i j:Int):Prop:=(-(2 ^ 64) < i/\i < 2 ^ 64)\/(-(2 ^ 64) < j/\j < 2 ^ 64)
theorem CMul.ok {i j:Int} (h:CMul i j):IntMulOk i j:=by
 rcases h with ⟨h1,h2⟩|⟨h1,h2⟩
 .exact .of_left (intBits_le_64 h1 h2)
 .exact .of_right (intBits_le_64 h1 h2)
theorem bm:OpR X (binaryOp .Add) (rI0 fun i j=>.int (i+j)):=opI0 fun z z z z z z z q=>add_int q
theorem dO:OpR X (binaryOp .Sub) (rI0 fun i j=>.int (i - j)):=opI0 fun z z z z z z z q=>sub_int q
theorem qC:OpR X (binaryOp .Mult) (rI CMul fun i j=>.int (i * j)):=opI fun z z z z z z z hc q=>mul_int q hc.ok
theorem gk:OpR X (binaryOp .Mod) (rI (fun z j=>0 < j) fun i j=>.int (i % j)):=opI fun i j z z z z z hc q=>by
 have h1:(0:Int) < j:=hc
 exact mod_int' (by lia) (by rw[Int.fmod_eq_emod_of_nonneg i (by lia)];exact q)
theorem qG:OpR X (binaryOp .Pow) (rI CPow fun i j=>.int (i ^ j.toNat)):=opI fun z z z z z z z hc q=>pow_int_small hc.1 hc.2.1 hc.2.2 q
theorem unI {f:Value->Sem Value} {g:Int->Int}
  (rule:∀ (i:Int) (t:Tok) (s:Shared) (Q:Value->Shared->Prop) (E:Value->Shared->Prop),Q (.int (g i) s.toks) { s with toks:=s.toks+1 }->wpAny (model X.prog X.w) X.A (f (.int i t)) Q E s) :
  UnR X f (rU fun i=>.int (g i)):=by
 intro pins s Z H x v Q I rx h
 obtain ⟨i,rfl,q⟩:=h
 obtain ⟨t,rfl⟩:=rx
 exact rule i t s _ _ ⟨.int (g i),H,I.tok _,⟨_,rfl⟩,q⟩
theorem cm:UnR X (unaryOp .USub) (rU fun i=>.int (-i)):=unI fun j j j j j q=>neg_int q
end
def scal:V->V->Bool
 | .non,.non=>true|.non,.int _=>true|.int _,.non=>true|.non,.bl _=>true|.bl _,.non=>true|.non,.str _=>true|.str _,.non=>true
 | .int _,.int _=>true|.bl _,.bl _=>true|.str _,.str _=>true|.byt _,.byt _=>true
 | .int _,.str _=>true|.str _,.int _=>true|.bl _,.str _=>true|.str _,.bl _=>true
 | _,_=>false
def rEq:R2:=fun x y H Q=>scal x y=true/\Q (.bl (decide (x=y))) H
def rNe:R2:=fun x y H Q=>scal x y=true/\Q (.bl (!decide (x=y))) H
theorem kz {i j:Int}:decide (V.int i=V.int j)=(i == j):=by
 rw[fL]
 simp
theorem qN {i j:Bool}:decide (V.bl i=V.bl j)=(i == j):=by
 rw[fL]
 simp
theorem mv {i j:Str}:decide (V.str i=V.str j)=(i == j):=by
 rw[fL]
 simp
theorem vf {i j:Array UInt8}:decide (V.byt i=V.byt j)=(i.toList == j.toList):=by
 rw[fL]
 cases i
 cases j
 simp
section
variable {X:Cx} {a b c:Expr} {ta tb tc:TE} {pos:Pos}
theorem aV {pins:List (Addr×Obj)} {Z:St} {H:Hp} {s:Shared} {Q:VK} {k k':Bool} (I:Inv X pins Z H s) (q:Q (.bl k) H) (e:k=k'):EP X pins Z Q (.bool k') s:=by
 subst e
 exact ⟨.bl k,H,I,rfl,q⟩
theorem bf:OpR X (compareOp .Eq) rEq:=by
 intro pins s Z H x y v u Q I rx ry h
 obtain ⟨hs,q⟩:=h
 cases x with
 | non =>
  cases rx
  cases y with
  | non=>cases ry;exact PySem.EqNone.eq_none_none (aV I q (by simp))
  | bl j=>cases ry;exact PySem.EqNone.eq_none_bool (aV I q (by simp))
  | int j=>obtain ⟨t',rfl⟩:=ry;exact PySem.EqNone.eq_none_int (aV I q (by simp))
  | str j=>obtain ⟨t',rfl⟩:=ry;exact PySem.EqNone.eq_none_str (aV I q (by simp))
  | _=>exact absurd (show false=true from hs) bo
 | bl i =>
  cases rx
  cases y with
  | non=>cases ry;exact PySem.EqNone.eq_bool_none (aV I q (by simp))
  | bl j=>cases ry;exact eq_bool (aV I q qN)
  | str j=>obtain ⟨t',rfl⟩:=ry;exact PySem.EqMixed.eq_bool_str (aV I q (by simp))
  | _=>exact absurd (show false=true from hs) bo
 | int i =>
  obtain ⟨t,rfl⟩:=rx
  cases y with
  | non=>cases ry;exact PySem.EqNone.eq_int_none (aV I q (by simp))
  | int j=>obtain ⟨t',rfl⟩:=ry;exact eq_int (aV I q kz)
  | str j=>obtain ⟨t',rfl⟩:=ry;exact PySem.EqMixed.eq_int_str (aV I q (by simp))
  | _=>exact absurd (show false=true from hs) bo
 | str i =>
  obtain ⟨t,rfl⟩:=rx
  cases y with
  | non=>cases ry;exact PySem.EqNone.eq_str_none (aV I q (by simp))
  | bl j=>cases ry;exact PySem.EqMixed.eq_str_bool (aV I q (by simp))
  | int j=>obtain ⟨t',rfl⟩:=ry;exact PySem.EqMixed.eq_str_int (aV I q (by simp))
  | str j=>obtain ⟨t',rfl⟩:=ry;exact eq_str (aV I q mv)
  | _=>exact absurd (show false=true from hs) bo
 | byt i =>
  obtain ⟨t,rfl⟩:=rx
  cases y with
  | byt j=>obtain ⟨t',rfl⟩:=ry;exact PySem.W.eq_bytes (aV I q vf)
  | _=>exact absurd (show false=true from hs) bo
 | _=>cases y <;> exact absurd (show false=true from hs) bo
theorem eA:OpR X (compareOp .NotEq) rNe:=by
 intro pins s Z H x y v u Q I rx ry h
 obtain ⟨hs,q⟩:=h
 cases x with
 | non =>
  cases rx
  cases y with
  | non=>cases ry;exact PySem.EqNone.ne_none_none (aV I q (by simp))
  | bl j=>cases ry;exact PySem.EqNone.ne_none_bool (aV I q (by simp))
  | int j=>obtain ⟨t',rfl⟩:=ry;exact PySem.EqNone.ne_none_int (aV I q (by simp))
  | str j=>obtain ⟨t',rfl⟩:=ry;exact PySem.EqNone.ne_none_str (aV I q (by simp))
  | _=>exact absurd (show false=true from hs) bo
 | bl i =>
  cases rx
  cases y with
  | non=>cases ry;exact PySem.EqNone.ne_bool_none (aV I q (by simp))
  | bl j=>cases ry;exact ne_bool (aV I q (congrArg not qN))
  | str j=>obtain ⟨t',rfl⟩:=ry;exact PySem.EqMixed.ne_bool_str (aV I q (by simp))
  | _=>exact absurd (show false=true from hs) bo
 | int i =>
  obtain ⟨t,rfl⟩:=rx
  cases y with
  | non=>cases ry;exact PySem.EqNone.ne_int_none (aV I q (by simp))
  | int j=>obtain ⟨t',rfl⟩:=ry;exact ne_int (aV I q (congrArg not kz))
  | str j=>obtain ⟨t',rfl⟩:=ry;exact PySem.EqMixed.ne_int_str (aV I q (by simp))
  | _=>exact absurd (show false=true from hs) bo
 | str i =>
  obtain ⟨t,rfl⟩:=rx
  cases y with
  | non=>cases ry;exact PySem.EqNone.ne_str_none (aV I q (by simp))
  | bl j=>cases ry;exact PySem.EqMixed.ne_str_bool (aV I q (by simp))
  | int j=>obtain ⟨t',rfl⟩:=ry;exact PySem.EqMixed.ne_str_int (aV I q (by simp))
  | str j=>obtain ⟨t',rfl⟩:=ry;exact ne_str (aV I q (congrArg not mv))
  | _=>exact absurd (show false=true from hs) bo
 | byt i =>
  obtain ⟨t,rfl⟩:=rx
  cases y with
  | byt j=>obtain ⟨t',rfl⟩:=ry;exact PySem.W.ne_bytes (aV I q (congrArg not vf))
  | _=>exact absurd (show false=true from hs) bo
 | _=>cases y <;> exact absurd (show false=true from hs) bo
theorem ju:OpR X (compareOp .Lt) (rI0 fun i j=>.bl (decide (i < j))):=opB0 fun z z z z z z z q=>lt_int q
theorem gD:OpR X (compareOp .Gt) (rI0 fun i j=>.bl (decide (j < i))):=opB0 fun z z z z z z z q=>gt_int q
theorem op_ge:OpR X (compareOp .GtE) (rI0 fun i j=>.bl (decide (j<=i))):=opB0 fun z z z z z z z q=>ge_int q
theorem op_isN:OpR X (compareOp .Is) (fun x y H Q=>y=.non/\Q (.bl (decide (x=.non))) H):=by
 intro pins s Z H x y v u Q I rx ry h
 obtain ⟨rfl,q⟩:=h
 cases ry
 refine is_none_gen (aV I q ?_)
 cases x <;> first
  | (cases rx;rfl)
  | (obtain ⟨t,rfl⟩:=rx;rfl)
theorem ZoZ:OpR X (compareOp .IsNot) (fun x y H Q=>y=.non/\Q (.bl (!decide (x=.non))) H):=by
 intro pins s Z H x y v u Q I rx ry h
 obtain ⟨rfl,q⟩:=h
 cases ry
 refine isnot_none_gen (aV I q ?_)
 cases x <;> first
  | (cases rx;rfl)
  | (obtain ⟨t,rfl⟩:=rx;rfl)
theorem az (b:Expr) {op:CmpOp} (h:op≠.In:=by decide) (h2:op≠.NotIn:=by decide):behindInMarks op b=false:=by
 have e1:(op == CmpOp.In)=false:=by cases op <;> first|rfl|exact absurd rfl h
 have e2:(op == CmpOp.NotIn)=false:=by cases op <;> first|rfl|exact absurd rfl h2
 cases b <;> simp[behindInMarks,e1,e2]
theorem db {op:CmpOp} {r:R2} (ho:OpR X (compareOp op) r) (ha:PE X a ta) (hb:PE X b tb) (hm:behindInMarks op b=false):PE X (.Compare a [op] [b] pos) (tOp r ta tb):=by
 intro pins s Z H Q I h
 exact wpAny_Compare1 (binT ha hb I h fun v u s2 x y H2 I2 rx ry q=>ho pins s2 Z H2 x y v u Q I2 rx ry q) hm
def o6 (t:TE):TT:=fun Z H Q=>t Z H fun x H'=>∃ k,x=.bl k/\Q k H'
theorem aB {op:CmpOp} {r:R2} (ho:OpR X (compareOp op) r) (ha:PE X a ta) (hb:PE X b tb) (hm:behindInMarks op b=false):PT X (.Compare a [op] [b] pos) (o6 (tOp r ta tb)):=by
 intro pins s Z H Q I h
 refine wpAny_isTrue_Compare1 (thn (ha pins s Z H _ I h) fun v s1 ⟨x,H1,I1,r1,q1⟩=>thn (hb pins s1 Z H1 _ I1 q1) fun u s2 ⟨y,H2,I2,r2,q2⟩ =>
  thn (ho pins s2 Z H2 x y v u _ I2 r1 r2 q2) fun c s3 ⟨z,H3,I3,r3,k,e,q3⟩=>?_) hm
 subst e
 cases r3
 exact gt ⟨H3,I3,q3⟩
theorem mF:(sizeLine:Nat) < 2 ^ 63:=by rw[sizeLine_eq];decide
theorem vals1 {x:V} {us:List Value} (r:Vals [x] us):∃ u,us=[u]/\RelV x u:=by
 cases r with
 | cons r1 r2=>cases r2;exact ⟨_,rfl,r1⟩
theorem vals2 {x y:V} {us:List Value} (r:Vals [x,y] us):∃ u w',us=[u,w']/\RelV x u/\RelV y w':=by
 cases r with
 | cons r1 r2 =>
  cases r2 with
  | cons r3 r4=>cases r4;exact ⟨_,_,rfl,r1,r3⟩
theorem Znu:bA X (.builtin "abs") (fun xs H Q=>∃ i,xs=[.int i]/\Q (.int (if i < 0 then -i else i)) H):=by
 intro pins s Z H xs us Q I r h
 obtain ⟨i,rfl,q⟩:=h
 obtain ⟨u,rfl,t,rfl⟩:=vals1 r
 exact call_abs_int fun u tk=>⟨.int (if i < 0 then -i else i),H,I.tok _,⟨_,rfl⟩,q⟩
theorem ZlU (hc:X.calm=true):bA X (.builtin "min") (fun xs H Q=>∃ i j,xs=[.int i,.int j]/\Q (.int (if j < i then j else i)) H):=by
 intro pins s Z H xs us Q I r h
 obtain ⟨i,j,rfl,q⟩:=h
 obtain ⟨u,w',rfl,⟨t,rfl⟩,⟨t',rfl⟩⟩:=vals2 r
 refine min_two_ints (I.ok.hd hc) fun h' tk k=>⟨_,H,I.kept k,?_,q⟩
 by_cases hj:j < i
 .rw[ag hj,ag hj];exact ⟨_,rfl⟩
 .rw[ah hj,ah hj];exact ⟨_,rfl⟩
theorem ZlY:bA X (.type "int") (fun xs H Q=>(∃ i,xs=[.int i]/\Q (.int i) H)\/∃ k,xs=[.bl k]/\Q (.int (if k then 1 else 0)) H):=by
 intro pins s Z H xs us Q I r h
 rcases h with ⟨i,rfl,q⟩|⟨k,rfl,q⟩
 .obtain ⟨u,rfl,t,rfl⟩:=vals1 r
  exact call_int_int ⟨.int i,H,I,⟨_,rfl⟩,q⟩
 .obtain ⟨u,rfl,r1⟩:=vals1 r
  cases r1
  exact call_int_bool ⟨.int (if k then 1 else 0),H,I.tok _,⟨_,rfl⟩,q⟩
def LenV (K:W.Frag) (x:V) (H:Hp) (n:Nat):Prop :=
 match x with
 | .str y=>y.length<=sizeLine/\n=y.length
 | .byt y=>y.size<=sizeLine/\n=y.size
 | .ref p=>(∃ xs,SqL K H p xs/\n=xs.length)\/∃ xs,SqT K H p xs/\n=xs.length
 | _=>False
theorem Znt:bA X (.builtin "len") (fun xs H Q=>∃ x n,xs=[x]/\LenV X.K x H n/\Q (.int n) H):=by
 intro pins s Z H xs us Q I r h
 obtain ⟨x,n,rfl,e,q⟩:=h
 obtain ⟨u,rfl,rx⟩:=vals1 r
 have hl:=mF
 have hs:sizeLine=16777216:=sizeLine_eq
 cases x with
 | str y =>
  obtain ⟨t,rfl⟩:=rx
  obtain ⟨hy,e'⟩:y.length<=sizeLine/\n=y.length:=e
  subst e'
  exact len_str (by lia) ⟨.int _,H,I.tok _,⟨_,rfl⟩,q⟩
 | byt y =>
  obtain ⟨t,rfl⟩:=rx
  obtain ⟨hy,e'⟩:y.size<=sizeLine/\n=y.size:=e
  subst e'
  exact PySem.W.len_bytes (by lia) ⟨.int _,H,I.tok _,⟨_,rfl⟩,q⟩
 | ref p =>
  cases rx
  have e':(∃ xs,SqL X.K H p xs/\n=xs.length)\/∃ xs,SqT X.K H p xs/\n=xs.length:=e
  rcases e' with ⟨xs,hx,e'⟩|⟨xs,hx,e'⟩
  .subst e'
   obtain ⟨its,r',pl,hz⟩:=I.list hx
   have hlen:=r'.length
   exact Calls.call_len_list pl.isList (by simp only[bj];lia) ⟨.int xs.length,H,I.tok _,⟨_,by simp only[bj];rw[hlen]⟩,q⟩
  .subst e'
   obtain ⟨its,r',pl,hz⟩:=I.tuple hx
   have hlen:=r'.length
   exact len_tuple pl (by simp only[bj];lia) ⟨.int xs.length,H,I.tok _,⟨_,by simp only[bj];rw[hlen]⟩,q⟩
 | _=>exact (show False from e).elim
end
end L2
namespace L2
open PySem PySem.Spec PyProof.Rows
structure ObjM (h:Heap) (x dx C:Addr) (mA:Str->Option Value):Prop where
 obj:h.get? x=some (PySem.W.instObj C dx)
 ns:h.Ns1 dx mA
 ne:dx≠x
theorem Zle {h:Heap} {dx:Addr} {mA:Str->Option Value} (n:h.Ns1 dx mA):∃ od,h.get? dx=some od/\∀ name,PySem.W.lookIn name od=some (mA name):=by
 obtain ⟨o,es,ep,ho,hd,hk,_,hm⟩:=n
 refine ⟨o,ho,fun name=>?_⟩
 have e:=hm name
 unfold nsFind findBy at e
 rw[<-Array.find?_toList] at e
 unfold PySem.W.lookIn
 rw[hd]
 dsimp only
 split
 .rename_i y q
  rw[q] at e
  exact congrArg some e
 .rename_i q
  rw[q] at e
  have a:es.toList.any (·.refKey)=false:=by
   rw[any_eq_false]
   intro y hy
   obtain ⟨z,t,hkey⟩:=hk y (Array.mem_toList_iff.mp hy)
   simp[DictEntry.refKey,hkey]
  have a':¬ es.toList.any (·.refKey)=true:=by rw[a];exact bo
  rw[ah a']
  exact congrArg some e
theorem ObjM.look {h:Heap} {x dx C:Addr} {mA:Str->Option Value} (I:ObjM h x dx C mA):∃ od,PySem.W.InstAt h x (PySem.W.instObj C dx) C (some od)/\∀ name,PySem.W.lookIn name od=some (mA name) :=
 let ⟨od,ho,hl⟩:=Zle I.ns
 ⟨od,⟨I.obj,rfl,rfl,ho⟩,hl⟩
section
variable {prog:Program} {w:World} {A:Around} {E:Value->Shared->Prop} {s:Shared} {K:W.Frag} {x dx C f:Addr} {mA:Str->Option Value} {name:Str} {v:Value}
theorem Zpp {expr:Bool} {Q:Value->Shared->Prop} (X:K.In s.heap) (I:ObjM s.heap x dx C mA) (hg:PySem.W.plainGet K C name=true) (hh:PySem.W.hasDictIn K C=true)
  (ha:PySem.W.findIn K (.ref C) name=some none) (hv:mA name=some v) (hv':PySem.W.handedIn v=true) (h:Q v { s with toks:=s.toks+1 }) :
  wpAny (model prog w) A (getAttr (.ref x) name expr) Q E s:=by
 obtain ⟨od,J,hl⟩:=I.look
 exact PySem.W.get_value X J (PySem.W.plainGet_of hg).1 (PySem.W.findObj_own hh ha rfl (by rw[hl,hv])) hv' h
theorem Zni {pl:Sem Bool} {Q:Value×List Value->Shared->Prop} (X:K.In s.heap) (I:ObjM s.heap x dx C mA) (hg:PySem.W.plainGet K C name=true)
  (hf:PySem.W.findIn K (.ref C) name=some (some (.ref f))) (ht:PySem.W.isFn K (.ref f)=true) (hv:mA name=none) (h:Q (.ref f,[.ref x]) s) :
  wpAny (model prog w) A (getMethod (.ref x) name pl) Q E s:=by
 obtain ⟨od,J,hl⟩:=I.look
 exact PySem.W.method_fn X J (PySem.W.plainGet_of hg).1 (PySem.W.plainGet_of hg).2 hf (gV.mp ht) (by show (PySem.W.lookIn name od).map (·.isSome)=some false;rw[hl,hv];rfl) h
theorem Zox {ns:List Str} {Q:Unit->Shared->Prop} (X:K.In s.heap) (I:ObjM s.heap x dx C mA)
  (hs:PySem.W.findIn K (.ref C) "__setattr__"=some (some (.builtin "object.__setattr__"))) (hp:PySem.W.plainOver K C=true) (ht:PySem.W.takerIn K C name=some none) (hh:PySem.W.hasDictIn K C=true)
  (hw:PySem.Within mA ns) (hsz:ns.length<=sizeLine)
  (h:∀ h',ObjM h' x dx C (fun y=>if y=name then some v else mA y)->Heap.SameBut dx s.heap h'->Q () { s with heap:=h',toks:=s.toks+2 }) :
  wpAny (model prog w) A (setAttr (.ref x) name v) Q E s:=by
 obtain ⟨od,J,hl⟩:=I.look
 refine PySem.W.set_plain X J hs (PySem.W.osa_open (s:={ s with toks:=s.toks+1 }) (r:=none) X J hp ht fun b=>?_)
 obtain ⟨cd,hc,hd'⟩:=PySem.W.any_some hh
 have hx:s.heap.get? x=some ⟨.ref C,some dx,.plain,#[]⟩:=I.obj
 refine ab (am (ab (ab (wpAny_loadPart hx (ab (PySem.W.Looks.here (s:={ s with toks:=s.toks+1 }) (PySem.W.looks_clsIn X hc) ?_))))))
 rw[hd']
 refine am (a:=some dx) (ab (am (ab ?_)))
 refine wpAny_nsSet1 (s:={ s with toks:=s.toks+1 }) I.ns fun h' hn2 hs2=>?_
 obtain ⟨oD,esD,epD,hoD,hdD,hcD⟩:=hn2.count (PySem.Within.cons name v hw)
 refine ab (wpAny_lookBehind hoD (by rw[hdD];exact pastItsLine_dict (aR hcD (by rw[bz];lia))) ?_)
 exact am (h _ ⟨(hs2.2 _ (Ne.symm I.ne)).trans I.obj,hn2,I.ne⟩ hs2)
theorem ZmV {R:Result->Shared->Prop} {vs:List Value} {kw:List (Str×Value)} (X:K.In s.heap) (hm:PySem.W.makesIn K C=true)
  (hi:PySem.W.findIn K (.ref C) "__init__"=some (some (.ref f))) (hf:PySem.W.typeIn K (.ref f)=some (.type "function"))
  (h:codeAny (model prog w) (A.under (.builtin "type.__call__" ⟨.ref C::vs,kw⟩)) (.call (.ref f) ⟨.ref (s.heap.objs.size+1)::vs,kw⟩) (PySem.W.InitBack (s.heap.objs.size+1) R)
   { s with heap:=(s.heap.push PySem.W.emptyDict).push (PySem.W.instObj C s.heap.objs.size) }) :
  codeAny (model prog w) A (.call (.ref C) ⟨vs,kw⟩) R s:=by
 obtain ⟨hh,g,d,t,os⟩:=s
 exact PySem.W.make_core (PySem.W.makes_of X hm) (PySem.W.looks_findIn X hi) (fun self=>PySem.W.bind_fn X self hf) (.inl rfl) h
end
def putF (f:Str) (v:V):List (Str×V)->List (Str×V)
 | []=>[(f,v)]
 | (g,x)::r=>if g=f then (g,v)::r else (g,x)::putF f v r
theorem uN (f g : Str) (v : V) : ∀ fs : List (Str × V), (putF f v fs).lookup g = if g = f then some v else fs.lookup g
  | [] => by
    show List.lookup g [(f,v)]=_
    by_cases h:g=f
    . have hb : (g == f) = true := gV.mpr h
      simp only[List.lookup,hb,ag h]
    . have hb : (g == f) = false := gR.mpr h
      simp only[List.lookup,hb,ah h]
  | (k, x) :: r => by
    have ih:=uN f g v r
    rw[show putF f v ((k,x)::r)=(if k=f then (k,v)::r else (k,x)::putF f v r) from rfl]
    by_cases hk:k=f
    . rw[ag hk]
      by_cases h:g=k
      . have hb : (g == k) = true := gV.mpr h
        simp only[List.lookup,hb,ag (h.trans hk)]
      . have hb : (g == k) = false := gR.mpr h
        simp only[List.lookup,hb,ah (fun e:g=f=>h (e.trans hk.symm))]
    . rw[ah hk]
      by_cases h:g=k
      . have hb : (g == k) = true := gV.mpr h
        simp only[List.lookup,hb,ah (fun e:g=f=>hk (h.symm.trans e))]
      . have hb : (g == k) = false := gR.mpr h
        simp only[List.lookup,hb]
        exact ih
theorem qj (f : Str) (v : V) : ∀ fs : List (Str × V), f ∈ (putF f v fs).map (·.1) /\ ∀ g, g ∈ fs.map (·.1) -> g ∈ (putF f v fs).map (·.1)
  | [] => ⟨by simp[putF], fun g h => by simp at h⟩
  | (k, x) :: r => by
    obtain ⟨i1,i2⟩:=qj f v r
    rw[show putF f v ((k,x)::r)=(if k=f then (k,v)::r else (k,x)::putF f v r) from rfl]
    by_cases hk:k=f
    . rw[ag hk]
      subst hk
      exact ⟨by simp,fun g h=>by simpa using h⟩
    . rw[ah hk]
      refine ⟨?_,fun g h=>?_⟩
      . rw[aF]
        exact bE _ i1
      . rw[aF] at h ⊢
        rcases aG.mp h with e|e
        . exact aG.mpr (.inl e)
        . exact bE _ (i2 g e)
theorem tY (f : Str) (v : V) : ∀ fs : List (Str × V), (putF f v fs).length <= fs.length + 1
  | [] => by simp[putF]
  | (k, x) :: r => by
    have ih:=tY f v r
    rw[show putF f v ((k,x)::r)=(if k=f then (k,v)::r else (k,x)::putF f v r) from rfl]
    by_cases hk:k=f
    . rw[ag hk, bz, bz]; lia
    . rw[ah hk, bz, bz]; lia
theorem RelO.some_of {v:V} {o:Option Value} (r:RelO (some v) o):∃ u,o=some u/\RelV v u:=by
 cases o with
 | none=>exact (show False from r).elim
 | some u=>exact ⟨u,rfl,r⟩
theorem RelO.none_of {o:Option Value} (r:RelO none o):o=none:=by
 cases o with
 | none=>rfl
 | some u=>exact (show False from r).elim
theorem ZlB {v:V} {u:Value} (r:RelV v u):PySem.W.handedIn u=true:=by
 cases v with
 | non=>cases (show u=Value.none from r);rfl
 | bl b=>cases (show u=Value.bool b from r);rfl
 | int i=>obtain ⟨t,e⟩:=(show ∃ t,u=Value.int i t from r);cases e;rfl
 | str x=>obtain ⟨t,e⟩:=(show ∃ t,u=Value.str x t from r);cases e;rfl
 | byt b=>obtain ⟨t,e⟩:=(show ∃ t,u=Value.bytes b t from r);cases e;rfl
 | flt b=>obtain ⟨t,e⟩:=(show ∃ t,u=Value.float b t from r);cases e;rfl
 | ref a=>cases (show u=Value.ref a from r);rfl
 | ty n=>cases (show u=Value.type n from r);rfl
section
variable {P:Program} {w:World} {H H':Hp} {h h':Heap} {a C dx:Addr} {fs fs':List (Str×V)}
theorem lT (hok:HOk P w H h) (e:H a=some (.ins C dx fs)):∃ mA,ObjM h a dx C mA/\(∀ f,RelO (fs.lookup f) (mA f))/\PySem.Within mA (fs.map (·.1))/\fs.length<=1000/\H dx=some (.own a):=by
 obtain ⟨d,z,ne,ob,mA,n,r,q⟩:=(show ObjOk P w H h a (.ins C dx fs) from hok a _ e)
 exact ⟨mA,⟨ob,n,ne⟩,r,q,z,d⟩
end
structure Cls (K:W.Frag) (C:Addr):Prop where
 pg:PySem.W.plainGet K C Str.empty=true
 hd:PySem.W.hasDictIn K C=true
 po:PySem.W.plainOver K C=true
 sa:PySem.W.findIn K (.ref C) "__setattr__"=some (some (.builtin "object.__setattr__"))
theorem Cls.get {K:W.Frag} {C:Addr} (c:Cls K C) (f:Str):PySem.W.plainGet K C f=true:=c.pg
def NoAttr (K:W.Frag) (C:Addr) (f:Str):Prop:=PySem.W.findIn K (.ref C) f=some none
theorem NoAttr.taker {K:W.Frag} {C:Addr} {f:Str} (n:NoAttr K C f):PySem.W.takerIn K C f=some none:=by
 unfold PySem.W.takerIn
 rw[show PySem.W.findIn K (.ref C) f=some none from n]
 rfl
structure Meth (K:W.Frag) (C:Addr) (m:Str) (f:Addr):Prop where
 at_:PySem.W.findIn K (.ref C) m=some (some (.ref f))
 fn:PySem.W.isFn K (.ref f)=true
 kp:PySem.W.keepIn K (.ref f)=true
section
variable {X:Cx} {pins:List (Addr×Obj)} {Z:St} {H:Hp} {s:Shared} {a C dx:Addr} {fs:List (Str×V)} {f:Str} {v:V} {A:Around} {E:Value->Shared->Prop}
theorem ZjP {b:Bool} {Q:Value->Shared->Prop} (I:Inv X pins Z H s) (e:H a=some (.ins C dx fs)) (c:Cls X.K C) (n:NoAttr X.K C f) (l:fs.lookup f=some v)
  (h:∀ u s',Inv X pins Z H s'->RelV v u->Q u s'):wpAny (model X.prog X.w) A (getAttr (.ref a) f b) Q E s:=by
 obtain ⟨mA,O,r,j,j,j⟩:=lT I.hok e
 obtain ⟨u,hu,ru⟩:=RelO.some_of (v:=v) (o:=mA f) (by rw[<-l];exact r f)
 exact Zpp I.kIn O (c.get f) c.hd n hu (ZlB ru) (h u _ (I.tok _) ru)
theorem oW {m:Str} {g:Addr} {pl:Sem Bool} {Q:Value×List Value->Shared->Prop} (I:Inv X pins Z H s) (e:H a=some (.ins C dx fs)) (c:Cls X.K C) (k:Meth X.K C m g) (l:fs.lookup m=none)
  (h:Q (.ref g,[.ref a]) s):wpAny (model X.prog X.w) A (getMethod (.ref a) m pl) Q E s:=by
 obtain ⟨mA,O,r,j,j,j⟩:=lT I.hok e
 have hn:mA m=none:=RelO.none_of (by rw[<-l];exact r m)
 exact Zni I.kIn O (c.get m) k.at_ k.fn hn h
theorem Zjy {y:V} {u:Value} {Q:Unit->Shared->Prop} (I:Inv X pins Z H s) (e:H a=some (.ins C dx fs)) (c:Cls X.K C) (n:NoAttr X.K C f) (hl:fs.length < 1000) (ry:RelV y u)
  (h:∀ s',Inv X pins Z (upd H a (.ins C dx (putF f y fs))) s'->Q () s'):wpAny (model X.prog X.w) A (setAttr (.ref a) f u) Q E s:=by
 obtain ⟨mA,O,r,wi,j,ho⟩:=lT I.hok e
 have hz:(fs.map (·.1)).length<=sizeLine:=by rw[ai,sizeLine_eq];lia
 refine Zox I.kIn O c.sa c.po n.taker c.hd wi hz fun h' O' sb=>h _ ?_
 have hd:∃ o,h'.get? dx=some o:=let ⟨o,_,_,e',_⟩:=O'.ns;⟨o,e'⟩
 refine I.write (x:=a) (e:=dx) (by rw[e];exact True.intro) (.inr ho) (fun b q hb z=>(sb.2 b hb).trans z) hd ?_
 refine ⟨by rw[aP O.ne];exact ho,?_,O.ne,O'.obj,_,O'.ns,fun g=>?_,fun g hg=>?_⟩
 .have:=tY f y fs;lia
 .show RelO ((putF f y fs).lookup g) (if g=f then some u else mA g)
  rw[uN]
  by_cases q:g=f
  .rw[ag q,ag q];exact ry
  .rw[ah q,ah q];exact r g
 .by_cases q:g=f
  .rw[q];exact (qj f y fs).1
  .refine (qj f y fs).2 g (wi g fun z=>hg ?_)
   show (if g=f then some u else mA g)=none
   rw[ah q];exact z
theorem Inv.made (I:Inv X pins Z H s):Inv X pins Z (upd (upd H s.heap.objs.size (.own (s.heap.objs.size+1))) (s.heap.objs.size+1) (.ins C s.heap.objs.size []))
  { s with heap:=(s.heap.push PySem.W.emptyDict).push (PySem.W.instObj C s.heap.objs.size) }:=by
 have e1:(s.heap.push PySem.W.emptyDict).get? s.heap.objs.size=some PySem.W.emptyDict:=bp s.heap rfl
 have e2:((s.heap.push PySem.W.emptyDict).push (PySem.W.instObj C s.heap.objs.size)).get? (s.heap.objs.size+1)=some (PySem.W.instObj C s.heap.objs.size):=by
  have:=bp (s.heap.push PySem.W.emptyDict) (o:=PySem.W.instObj C s.heap.objs.size) rfl
  rwa [dQ] at this
 have e3:(s.heap.push PySem.W.emptyDict).Ns s.heap.objs.size (fun j=>none):=⟨PySem.W.emptyDict,#[],_,e1,rfl,(fun e he=>absurd he (by simp)),fun j=>rfl⟩
 have I1:=I.laid (a:=s.heap.objs.size) (o:=.own (s.heap.objs.size+1)) (h':=s.heap.push PySem.W.emptyDict) (t':=s.toks) (fun b u q=>aJ _ q) (aq _) ⟨_,e1⟩
 refine I1.laid (a:=s.heap.objs.size+1) (o:=.ins C s.heap.objs.size []) (t':=s.toks) (fun b u q=>aJ _ q) (eE (dQ _ _)) ?_
 have ne:s.heap.objs.size≠s.heap.objs.size+1:=bc (gw _)
 refine ⟨by rw[aP ne,bh],bg _,ne,e2,fun j=>none,(Heap.Ns1.of_empty e3).at fun o q=>aJ _ q,fun j=>True.intro,fun y hy=>absurd rfl hy⟩
theorem ZpE {prog:Program} {w:World} {env:Env} {e:Expr} {f:Str} {pos:Pos} {s:Shared} {Q:Value->Shared->Prop} (hb:attributeBase e f env (eval e env)=eval e env)
  (h:wpAny (model prog w) A (eval e env) (fun o s₁=>wpAny (model prog w) A (getAttr o f true) Q E s₁) E s):wpAny (model prog w) A (eval (.Attribute e f pos) env) Q E s :=
 Attribute_any_ h (by rw[arm_eval_Attribute,hb])
end
def tFld (K:W.Frag) (ta:TE) (f:Str):TE:=fun Z H Q=>ta Z H fun x H1=>∃ a C dx fs v,x=.ref a/\H1 a=some (.ins C dx fs)/\Cls K C/\NoAttr K C f/\fs.lookup f=some v/\Q v H1
def sFld (K:W.Frag) (ta tv:TE) (f:Str):TS:=fun D Z H=>tv Z H fun y H1=>ta Z H1 fun x H2=>∃ a C dx fs,x=.ref a/\H2 a=some (.ins C dx fs)/\Cls K C/\NoAttr K C f/\fs.length < 1000 /\
 D.nx Z (upd H2 a (.ins C dx (putF f y fs)))
section
variable {X:Cx} {o e value:Expr} {f:Str} {pos pos' tpos:Pos} {ta tv:TE}
theorem pe_fld (he:PE X e ta) (hb:attributeBase e f X.env (eval e X.env)=eval e X.env):PE X (.Attribute e f pos) (tFld X.K ta f):=by
 intro pins s Z H Q I h
 refine ZpE hb (thn (he pins s Z H _ I h) fun u s1 z0_=>?_)
 obtain ⟨x,H1,I1,rx,a,C,dx,fs,v,ex,ea,c,n,l,q⟩:=z0_
 subst ex
 obtain rfl:u=Value.ref a:=rx
 exact ZjP I1 ea c n l fun u' s2 I2 ru=>⟨v,H1,I2,ru,q⟩
theorem ps_fld (ha:PE X o ta) (hv:PE X value tv) (hs:swapsWith value (some (.Attribute o f pos')) pos.line X.env=pure false):PS X (.Assign [.Attribute o f pos'] value pos) (sFld X.K ta tv f):=by
 intro pins s Z H D I h
 refine plainObj_wpAny_Assign_Attribute (thn (hv pins s Z H _ I h) fun u s1 ⟨y,H1,I1,ry,q⟩=>thn (ha pins s1 Z H1 _ I1 q) fun ov s2 z0_=>?_) hs
 obtain ⟨x,H2,I2,rx,a,C,dx,fs,ex,ea,c,n,l,q2⟩:=z0_
 subst ex
 obtain rfl:ov=Value.ref a:=rx
 exact Zjy I2 ea c n l ry fun s3 I3=>⟨Z,_,I3,q2⟩
theorem Zo5 {pl:Sem Bool} {m:Str} {apos:Pos} {args:List Expr} {pins:List (Addr×Obj)} {s:Shared} {Z:St} {H:Hp} {Q:Value->Shared->Prop} {te:TE} (he:PE X e te) (I:Inv X pins Z H s)
  (h:te Z H fun x H1=>∃ a C dx fs g,x=.ref a/\H1 a=some (.ins C dx fs)/\Cls X.K C/\Meth X.K C m g/\fs.lookup m=none /\
   ∀ s1,Inv X pins Z H1 s1->wpAny (model X.prog X.w) X.A (callWith pos (.ref g) [.ref a] (backTo pos (starEach args X.env)) (backToKw pos (keywordEach [] X.env))) Q X.xe s1)
  (ht:eval (.Call (.Attribute e m apos) args [] pos) X.env=(do
   let ov <- eval e X.env
   standAt apos.atName
   let (f,first) <- holding [ov] (getMethod ov m pl)
   callWith pos f first (backTo pos (starEach args X.env)) (backToKw pos (keywordEach [] X.env)))) :
  wpAny (model X.prog X.w) X.A (eval (.Call (.Attribute e m apos) args [] pos) X.env) Q X.xe s:=by
 refine PySem.W.methodCall_KW (pl:=pl) (thn (he pins s Z H _ I h) fun u s1 z0_=>?_) ht
 obtain ⟨x,H1,I1,rx,a,C,dx,fs,g,ex,ea,c,k,l,q⟩:=z0_
 subst ex
 obtain rfl:u=Value.ref a:=rx
 exact oW I1 ea c k l (q s1 I1)
end
section
variable {X:Cx} {pins:List (Addr×Obj)} {Z:St} {H:Hp} {s:Shared} {A:Around} {E:Value->Shared->Prop} {Q:Value->Shared->Prop} {c:Value} {b:Bool}
inductive TyOf (K:W.Frag) (H:Hp):V->Value->Prop where
 | non:TyOf K H .non (.type "NoneType")
 | bl (x:Bool):TyOf K H (.bl x) (.type "bool")
 | int (i:Int):TyOf K H (.int i) (.type "int")
 | str (x:Str):TyOf K H (.str x) (.type "str")
 | flt (x:UInt64):TyOf K H (.flt x) (.type "float")
 | lst {a:Addr} {xs:List V} (e:H a=some (.lst xs)):TyOf K H (.ref a) (.type "list")
 | frz {a:Addr} {o:Obj} {xs:List V} (e:H a=some (.frz o (.lst xs))):TyOf K H (.ref a) (.type "list")
 | tup {a:Addr} {xs:List V} (e:H a=some (.tup xs)):TyOf K H (.ref a) (.type "tuple")
 | dK {a:Addr} {kvs:List (Key×V)} (e:H a=some (.dK kvs)):TyOf K H (.ref a) (.type "dict")
 | dT {a:Addr} {kvs:List (List Key×V)} (e:H a=some (.dT kvs)):TyOf K H (.ref a) (.type "dict")
 | ins {a C dx:Addr} {fs:List (Str×V)} (e:H a=some (.ins C dx fs)) (cl:Cls K C) (ha:PySem.W.findIn K (.ref C) "__class__"=some (some (.builtin "object.__class__")))
   (hn:PySem.W.specialIn K (.builtin "object.__class__") "__get__"=some (some (.builtin "getset_descriptor.__get__"))) (htk:PySem.W.takesIn K (.builtin "object.__class__")=some true)
   (hm:PySem.W.mroIn K C (.type "object")=some true):TyOf K H (.ref a) (.ref C)
theorem Zlw {x:V} {u t:Value} (I:Inv X pins Z H s) (rx:RelV x u) (ty:TyOf X.K H x t) (e:PySem.W.kitOne X.K t c=some b) (h:∀ tk,Q (.bool b) { s with toks:=tk }) :
  wpAny (model X.prog X.w) A (call (.builtin "isinstance") [u,c]) Q E s:=by
 cases ty with
 | non=>cases (show u=Value.none from rx);exact PySem.W.kia_one PySem.W.kitx_none I.kIn True.intro e (fun z=>nomatch z) h
 | bl y=>cases (show u=Value.bool y from rx);exact PySem.W.kia_one PySem.W.kitx_bool I.kIn True.intro e (fun z=>nomatch z) h
 | int i=>obtain ⟨t,q⟩:=(show ∃ t,u=Value.int i t from rx);cases q;exact PySem.W.kia_one PySem.W.kitx_int I.kIn True.intro e (fun z=>nomatch z) h
 | str y=>obtain ⟨t,q⟩:=(show ∃ t,u=Value.str y t from rx);cases q;exact PySem.W.kia_one PySem.W.kitx_str I.kIn True.intro e (fun z=>nomatch z) h
 | flt y=>obtain ⟨t,q⟩:=(show ∃ t,u=Value.float y t from rx);cases q;exact PySem.W.kia_one PySem.W.kitx_float I.kIn True.intro e (fun z=>nomatch z) h
 | @lst a xs ea =>
  cases (show u=Value.ref a from rx)
  obtain ⟨j,j,n,j,h1⟩:=(show ObjOk X.prog X.w H s.heap a (.lst xs) from I.hok a _ ea)
  exact PySem.W.kia_one PySem.W.kitx_list I.kIn ⟨_,h1,rfl⟩ e (fun z=>nomatch z) h
 | @frz a ob xs ea =>
  cases (show u=Value.ref a from rx)
  obtain ⟨j,j,j,n,j,h1⟩:=(show ObjOk X.prog X.w H s.heap a (.frz ob (.lst xs)) from I.hok a _ ea)
  exact PySem.W.kia_one PySem.W.kitx_list I.kIn ⟨_,h1,rfl⟩ e (fun z=>nomatch z) h
 | @tup a xs ea =>
  cases (show u=Value.ref a from rx)
  obtain ⟨j,j,j,p⟩:=(show ObjOk X.prog X.w H s.heap a (.tup xs) from I.hok a _ ea)
  obtain ⟨o,h1,h2,j⟩:=p
  exact PySem.W.kia_one PySem.W.kitx_tuple I.kIn ⟨o,h1,h2⟩ e (fun z=>nomatch z) h
 | @dK a kvs ea =>
  cases (show u=Value.ref a from rx)
  obtain ⟨j,j,vs,j,p⟩:=(show ObjOk X.prog X.w H s.heap a (.dK kvs) from I.hok a _ ea)
  obtain ⟨o,es,ep,h1,h2,j⟩:=p
  exact PySem.W.kia_one PySem.W.kitx_dict I.kIn ⟨o,h1,h2.1⟩ e (fun z=>nomatch z) h
 | @dT a kvs ea =>
  cases (show u=Value.ref a from rx)
  obtain ⟨j,j,xs,j,o,es,ep,h1,h2,j⟩:=(show ObjOk X.prog X.w H s.heap a (.dT kvs) from I.hok a _ ea)
  exact PySem.W.kia_one PySem.W.kitx_dict I.kIn ⟨o,h1,h2.1⟩ e (fun z=>nomatch z) h
 | @ins a C dx fs ea cl ha hn htk hm =>
  cases (show u=Value.ref a from rx)
  obtain ⟨mA,O,j⟩:=lT I.hok ea
  obtain ⟨od,J,j⟩:=O.look
  exact PySem.W.kia_one (PySem.W.kitx_own (cl.get _) cl.hd ha hn htk hm) I.kIn J e (fun z=>nomatch z) h
end
end L2
namespace L2
open PySem PySem.Spec PyProof.Rows
structure Room (k:Nat) (A:Around):Prop where
 hd:A.handled=none
 dp:A.depth+3 * k+5 < recursionLimit
 un:A.units+16 * k+200 < cLine
 gd:A.guards=some []
theorem Room.mono {j k:Nat} {A:Around} (r:Room k A) (h:j<=k):Room j A:=⟨r.hd,by have:=r.dp;lia,by have:=r.un;lia,r.gd⟩
theorem Room.m {j k:Nat} {A:Around} (r:Room k A) (h:j<=k:=by first|decide|lia):Room j A:=r.mono h
theorem Room.deeper {k:Nat} {A:Around} (r:Room (k+1) A) (env:Env):Room k (A.deeper env) :=
 ⟨r.hd,by have:=r.dp;show A.depth+1+3 * k+5 < _;lia,by have:=r.un;show A.units+3+16 * k+200 < _;lia,r.gd⟩
theorem ZjH {A:Around} {C:Addr} {us:List Value} {kw:List (Str×Value)}:(A.under (.builtin "type.__call__" ⟨.ref C::us,kw⟩)).depth=A.depth+1:=by
 first|rfl|simp[Around.under,Code.weight,Code.isCreation,Code.isGuard,Code.isCaller,Code.frames,Code.isFrame,guardIds]
theorem ZjG {A:Around} {C:Addr} {us:List Value} {kw:List (Str×Value)}:(A.under (.builtin "type.__call__" ⟨.ref C::us,kw⟩)).units=A.units+1:=by
 first|rfl|simp[Around.under,Code.cUnits,Code.frames,Code.isFrame]
theorem Room.make {k:Nat} {A:Around} (r:Room (k+1) A) (C:Addr) (us:List Value) (kw:List (Str×Value)):Room k (A.under (.builtin "type.__call__" ⟨.ref C::us,kw⟩)) :=
 ⟨r.hd,by have:=r.dp;rw[ZjH];lia,by have:=r.un;rw[ZjG];lia,(show (A.under (.builtin "type.__call__" ⟨.ref C::us,kw⟩)).guards=some [] from by rw[<-r.gd];rfl)⟩
theorem Room.depth {k:Nat} {A:Around} (r:Room k A):A.depth < recursionLimit:=by have:=r.dp;lia
theorem Room.units {k:Nat} {A:Around} (r:Room k A):A.units+64 < cLine:=by have:=r.un;lia
def tNil:TA:=fun j H Q=>Q [] H
def bd (ta:TE) (tr:TA):TA:=fun Z H Q=>ta Z H fun x H1=>tr Z H1 fun xs H2=>Q (x::xs) H2
section
variable {X:Cx} {e:Expr} {es:List Expr} {te:TE} {t:TA} {pos:Pos}
theorem ae:PA X [] tNil:=fun j j j j H Q I h=>iz ⟨[],H,I,.nil,h⟩
theorem dP (ha:PE X e te) (hr:PA X es t) (hs:starEach (e::es) X.env=(false,eval e X.env)::starEach es X.env:=by rfl):PA X (e::es) (bd te t):=by
 intro pos pins s Z H Q I h
 rw[hs]
 show wpAny _ _ (spliced ((false,eval e X.env)::backTo pos (starEach es X.env))) _ _ s
 refine e8 (thn (ha pins s Z H _ I h) fun u s1 ⟨x,H1,I1,r1,q1⟩=>?_)
 exact thn (hr pos pins s1 Z H1 _ I1 q1) fun us s2 ⟨xs,H2,I2,r2,q2⟩=>⟨x::xs,H2,I2,.cons r1 r2,q2⟩
def tTup (t:TA):TE:=fun Z H Q=>t Z H fun xs H1=>xs.length<=sizeLine/\∀ p,H1 p=none->Q (.ref p) (upd H1 p (.tup xs))
def tLst (t:TA):TE:=fun Z H Q=>t Z H fun xs H1=>xs.length<=sizeLine/\∀ p,H1 p=none->Q (.ref p) (upd H1 p (.lst xs))
theorem aD {x1} (h:PA X es t):PE X (.Tuple es x1 pos) (tTup t):=by
 intro pins s Z H Q I hq
 refine wpAny_Tuple_spliced (thn (h pos pins s Z H _ I hq) fun us s1 ⟨xs,H1,I1,r,z,q⟩=>⟨by rw[<-r.length];exact z,?_⟩)
 have hf:H1 s1.heap.objs.size=none:=I1.hok.fresh (aq _)
 refine ⟨.ref s1.heap.objs.size,upd H1 s1.heap.objs.size (.tup xs),I1.laid (t':=s1.toks) (fun b u e=>aJ _ e) (aq _) ?_,rfl,q _ hf⟩
 exact ⟨z,us,r,⟨_,bp _ rfl,rfl,_,rfl⟩⟩
theorem a9 (h:PA X es t):PE X (.List es pos) (tLst t):=by
 intro pins s Z H Q I hq
 refine wpAny_List_spliced (thn (h pos pins s Z H _ I hq) fun us s1 ⟨xs,H1,I1,r,z,q⟩=>⟨by rw[<-r.length];exact z,?_⟩)
 have hf:H1 s1.heap.objs.size=none:=I1.hok.fresh (aq _)
 refine ⟨.ref s1.heap.objs.size,upd H1 s1.heap.objs.size (.lst xs),I1.laid (t':=s1.toks) (fun b u e=>aJ _ e) (aq _) ?_,rfl,q _ hf⟩
 exact ⟨z,us,0,r,bp _ rfl⟩
end
abbrev Sp:=List V->Hp->VK->XK->Prop
abbrev CXT:=List Env->Hp->Shared->XK->Value->Shared->Prop
structure Env0 (P:Program) (w:World) (K:W.Frag) (mg:Str->Option Value) (base:Heap) (A:Around) (outer:List Env) (s:Shared) (H:Hp):Prop where
 frames:A.frames=some outer
 mod:Mod K mg base
 bs:∀ b o,base.get? b=some o->s.heap.get? b=some o/\H b=none
 bsz:base.objs.size<=s.heap.objs.size
 funs:s.heap.FunFrames base outer
 frf:∀ b∈frs outer,H b=none
 hok:HOk P w H s.heap
 bare:AllBare s.gens
def CE (outer:List Env) (P:Program) (w:World) (H:Hp) (s:Shared) (Q:VK) (u:Value) (s':Shared):Prop :=
 ∃ v H',s'.os=s.os/\AllBare s'.gens/\Un (frs outer) [] H H' s.heap s'.heap/\HOk P w H' s'.heap/\RelV v u/\Q v H'
def CR (CX:CXT) (outer:List Env) (P:Program) (w:World) (H:Hp) (s:Shared) (Q:VK) (E:XK) (r:Result) (s':Shared):Prop :=
 match r with
 | .ok (.ret u)=>CE outer P w H s Q u s'
 | .ok _=>False
 | .error e=>CX outer H s E e s'
structure FnOk (P:Program) (w:World) (K:W.Frag) (mg:Str->Option Value) (base:Heap) (CX:CXT) (k:Nat) (f:Addr) (fd:FuncData) (ps:List Str) (sp:Sp):Prop where
 len:∀ vs H Q E,sp vs H Q E->vs.length=ps.length
 run:∀ (A:Around) (outer:List Env) (s:Shared) (H:Hp) (args:Args) (us:List Value) (vs:List V) (Q:VK) (E:XK),Room k A->Env0 P w K mg base A outer s H->BindsTo s fd args (ps.zip us)->Vals vs us->sp vs H Q E ->
  codeAny (model P w) A (.call (.ref f) args) (CR CX outer P w H s Q E) s
theorem Env0.make {P:Program} {w:World} {K:W.Frag} {mg:Str->Option Value} {base:Heap} {A:Around} {outer:List Env} {s:Shared} {H:Hp} (e:Env0 P w K mg base A outer s H) (C:Addr) (us:List Value) (kw:List (Str×Value)) :
  Env0 P w K mg base (A.under (.builtin "type.__call__" ⟨.ref C::us,kw⟩)) outer s H:=⟨by first|exact e.frames|(simpa [Around.under,Code.envs,Code.isFrame,pushEnvs] using e.frames),e.mod,e.bs,e.bsz,e.funs,e.frf,e.hok,e.bare⟩
section
variable {X:Cx} {pins:List (Addr×Obj)} {Z:St} {H:Hp} {s s':Shared}
theorem Inv.env0 (I:Inv X pins Z H s):Env0 X.prog X.w X.K X.mg X.base X.A X.stack s H :=
 ⟨I.ok.frames,I.ok.mod,I.bs,aR I.ok.bsz I.sz,I.stack,I.stkFree,I.hok,I.bare⟩
theorem Inv.after {Q:VK} {u:Value} (I:Inv X pins Z H s) (h:CE X.stack X.prog X.w H s Q u s'):EP X pins Z Q u s':=by
 obtain ⟨v,H',os,bare,un,hok,r,q⟩:=h
 obtain ⟨hh,g,d,t,os'⟩:=s'
 obtain rfl:os'=s.os:=os
 exact ⟨v,H',I.call (h':=hh) (g':=g) (d':=d) (t':=t) (ch:=[]) un hok bare (fun b z=>absurd z (by simp)),r,q⟩
end
def gi (sp:Sp) (dvs:List V) (E:XK) (t:TA):TE:=fun Z H Q=>t Z H fun vs H1=>sp (vs++dvs) H1 Q E
def je (C:Addr) (m:Str) (sp:Sp) (dvs:List V) (E:XK) (ta:TE) (t:TA):TE:=fun Z H Q=>ta Z H fun x H1=>∃ a dx fs,x=.ref a/\H1 a=some (.ins C dx fs)/\fs.lookup m=none /\
 t Z H1 fun vs H2=>sp (x::(vs++dvs)) H2 Q E
def qo (C:Addr) (sp:Sp) (dvs:List V) (E:XK) (t:TA):TE:=fun Z H Q=>t Z H fun vs H1=>∀ x dx,H1 x=none->H1 dx=none->dx≠x ->
 sp (.ref x::(vs++dvs)) (upd (upd H1 dx (.own x)) x (.ins C dx [])) (fun v H2=>v=.non/\Q (.ref x) H2) E
def Binds (K:W.Frag) (fd:FuncData) (ps:List Str) (ds:List Value):Prop :=
 ∀ (s:Shared) (us:List Value),K.In s.heap->(us++ds).length=ps.length->BindsTo s fd ⟨us,[]⟩ (ps.zip (us++ds))
theorem Binds.all {K:W.Frag} {fd:FuncData} {ps:List Str} (h:∀ us:List Value,us.length=ps.length->bindArgs fd ⟨us,[]⟩=pure (ps.zip us)):Binds K fd ps []:=fun s us j hl=>by
 rw[bH] at hl ⊢
 exact .of_eq (h us hl)
def gC (CX:CXT) (X:Cx) (E:XK):Prop:=∀ (pins:List (Addr×Obj)) (Z:St) (H:Hp) (s:Shared) (e:Value) (s':Shared),Inv X pins Z H s->CX X.stack H s E e s'->X.xe e s'
section
variable {X:Cx} {CX:CXT} {k:Nat} {f C:Addr} {fd:FuncData} {ps:List Str} {sp:Sp} {dvs:List V} {ds:List Value} {E:XK} {x m:Str} {p pos apos:Pos} {e o:Expr} {es:List Expr} {ta:TE} {t:TA}
theorem qp {pins:List (Addr×Obj)} {Z:St} {H:Hp} {s:Shared} {Q:VK} {us:List Value} {vs:List V} (F:FnOk X.prog X.w X.K X.mg X.base CX k f fd ps sp) (hr:Room k X.A) (hb:Binds X.K fd ps ds) (hd:Vals dvs ds) (hx:gC CX X E)
  (I:Inv X pins Z H s) (r:Vals vs us) (h:sp (vs++dvs) H Q E):wpAny (model X.prog X.w) X.A (call (.ref f) us) (EP X pins Z Q) X.xe s:=by
 have r2:Vals (vs++dvs) (us++ds):=r.append hd
 have hl:(us++ds).length=ps.length:=by rw[<-r2.length];exact F.len _ _ _ _ h
 refine wpAny_call (nU (F.run X.A X.stack s H ⟨us,[]⟩ (us++ds) (vs++dvs) Q E hr I.env0 (hb s us I.kIn hl) r2 h) fun r s' hq=>?_)
 cases r with
 | error e=>exact hx pins Z H s e s' I hq
 | ok fl =>
  cases fl with
  | ret u=>exact I.after hq
  | next=>exact False.elim hq
  | brk=>exact False.elim hq
  | cont=>exact False.elim hq
theorem ZoY (F:FnOk X.prog X.w X.K X.mg X.base CX k f fd ps sp) (hr:Room k X.A) (hg:Gl X x) (hm:X.mg x=some (.ref f)) (hk:PySem.W.keepIn X.K (.ref f)=true) (hb:Binds X.K fd ps ds) (hd:Vals dvs ds) (hx:gC CX X E)
  (ha:PA X (e::es) t) (hdb:(x == ("__debug__":Str))=false:=by decide) (he:starEach (e::es) X.env=(false,eval e X.env)::starEach es X.env:=by rfl) (hpl:(backTo pos (starEach es X.env)).any (·.1)=false:=by rfl) :
  PE X (.Call (.Name x p) (e::es) [] pos) (gi sp dvs E t):=by
 intro pins s Z H Q I h
 refine jR (pP I hg hm ?_ hdb)
 refine PySem.W.callWith_K (h₀:=X.base) I.ok.mod.kin hk (thn (ha pos pins s Z H _ I h) fun us s1 ⟨vs,H1,I1,r,q⟩=>⟨I1.kIn,?_⟩) he hpl
 exact qp F hr hb hd hx I1 r q
theorem ZoU {pl:Sem Bool} (he:PE X o ta) (c:Cls X.K C) (hm:Meth X.K C m f) (F:FnOk X.prog X.w X.K X.mg X.base CX k f fd ps sp) (hr:Room k X.A) (hb:Binds X.K fd ps ds) (hd:Vals dvs ds) (hx:gC CX X E) (ha:PA X (e::es) t)
  (hst:starEach (e::es) X.env=(false,eval e X.env)::starEach es X.env:=by rfl) (hpl:(backTo pos (starEach es X.env)).any (·.1)=false:=by rfl)
  (ht:eval (.Call (.Attribute o m apos) (e::es) [] pos) X.env=(do
   let ov <- eval o X.env
   standAt apos.atName
   let (f,first) <- holding [ov] (getMethod ov m pl)
   callWith pos f first (backTo pos (starEach (e::es) X.env)) (backToKw pos (keywordEach [] X.env))):=by rfl) :
  PE X (.Call (.Attribute o m apos) (e::es) [] pos) (je C m sp dvs E ta t):=by
 intro pins s Z H Q I h
 refine PySem.W.methodCall_KW (pl:=pl) (thn (he pins s Z H _ I h) fun u s1 z0_=>?_) ht
 obtain ⟨x,H1,I1,rx,a,dx,fs,ex,ea,l,q⟩:=z0_
 subst ex
 obtain rfl:u=Value.ref a:=rx
 refine oW I1 ea c hm l ?_
 refine PySem.W.callWith_K (first:=[.ref a]) (h₀:=X.base) I.ok.mod.kin hm.kp (thn (ha pos pins s1 Z H1 _ I1 q) fun us s2 ⟨vs,H2,I2,r,q2⟩=>⟨I2.kIn,?_⟩) hst hpl
 exact qp (us:=.ref a::us) (vs:=.ref a::vs) F hr hb hd hx I2 (.cons rfl r) q2
theorem ZmP {pl:Sem Bool} (he:PE X o ta) (c:Cls X.K C) (hm:Meth X.K C m f) (F:FnOk X.prog X.w X.K X.mg X.base CX k f fd ps sp) (hr:Room k X.A) (hb:Binds X.K fd ps ds) (hd:Vals dvs ds) (hx:gC CX X E)
  (ht:eval (.Call (.Attribute o m apos) [] [] pos) X.env=(do
   let ov <- eval o X.env
   standAt apos.atName
   let (f,first) <- holding [ov] (getMethod ov m pl)
   callWith pos f first (backTo pos (starEach [] X.env)) (backToKw pos (keywordEach [] X.env))):=by rfl) :
  PE X (.Call (.Attribute o m apos) [] [] pos) (je C m sp dvs E ta tNil):=by
 intro pins s Z H Q I h
 refine PySem.W.methodCall_KW (pl:=pl) (thn (he pins s Z H _ I h) fun u s1 z0_=>?_) ht
 obtain ⟨x,H1,I1,rx,a,dx,fs,ex,ea,l,q⟩:=z0_
 subst ex
 obtain rfl:u=Value.ref a:=rx
 refine oW I1 ea c hm l ?_
 exact PySem.W.callWith_K0 (first:=[.ref a]) I1.kIn hm.kp (qp (us:=[.ref a]) (vs:=[.ref a]) F hr hb hd hx I1 (.cons rfl .nil) q)
structure Mk (K:W.Frag) (C f:Addr):Prop where
 makes:PySem.W.makesIn K C=true
 init:PySem.W.findIn K (.ref C) "__init__"=some (some (.ref f))
 fn:PySem.W.isFn K (.ref f)=true
 kp:PySem.W.keepIn K (.ref C)=true
theorem Zmy {pins:List (Addr×Obj)} {Z:St} {H:Hp} {s:Shared} {Q:VK} {us:List Value} {vs:List V} (M:Mk X.K C f) (F:FnOk X.prog X.w X.K X.mg X.base CX k f fd ps sp) (hr:Room (k+1) X.A) (hb:Binds X.K fd ps ds) (hd:Vals dvs ds)
  (hx:gC CX X E) (I:Inv X pins Z H s) (r:Vals vs us)
  (h:∀ x dx,H x=none->H dx=none->dx≠x->sp (.ref x::(vs++dvs)) (upd (upd H dx (.own x)) x (.ins C dx [])) (fun v H2=>v=.non/\Q (.ref x) H2) E) :
  wpAny (model X.prog X.w) X.A (call (.ref C) us) (EP X pins Z Q) X.xe s:=by
 have hq:=h (s.heap.objs.size+1) s.heap.objs.size (I.hok.fresh (du _)) (I.hok.fresh (aq _)) (bc (gw _))
 have I2:=Inv.made (C:=C) I
 have r2:Vals (V.ref (s.heap.objs.size+1)::(vs++dvs)) (Value.ref (s.heap.objs.size+1)::(us++ds)):=.cons rfl (r.append hd)
 have hl:(Value.ref (s.heap.objs.size+1)::us++ds).length=ps.length:=by
  have e:=r2.length
  rw[F.len _ _ _ _ hq] at e
  exact e.symm
 refine wpAny_call (ZmV (f:=f) I.kIn M.makes M.init (gV.mp M.fn) (nU (F.run _ X.stack _ _ ⟨Value.ref (s.heap.objs.size+1)::us,[]⟩ (Value.ref (s.heap.objs.size+1)::(us++ds)) _ _ E (hr.make C us [])
  (I2.env0.make C us []) (hb _ (Value.ref (s.heap.objs.size+1)::us) I2.kIn hl) r2 hq) fun r s' hq'=>?_))
 cases r with
 | error e=>exact hx pins Z _ _ e s' I2 hq'
 | ok fl =>
  cases fl with
  | ret u =>
   obtain ⟨v,H',I3,rv,ev,q3⟩:=I2.after hq'
   subst ev
   exact ⟨rv,⟨V.ref (s.heap.objs.size+1),H',I3,rfl,q3⟩⟩
  | next=>exact False.elim hq'
  | brk=>exact False.elim hq'
  | cont=>exact False.elim hq'
theorem ZoV (M:Mk X.K C f) (F:FnOk X.prog X.w X.K X.mg X.base CX k f fd ps sp) (hr:Room (k+1) X.A) (hg:Gl X x) (hm:X.mg x=some (.ref C)) (hb:Binds X.K fd ps ds) (hd:Vals dvs ds) (hx:gC CX X E)
  (ha:PA X (e::es) t) (hdb:(x == ("__debug__":Str))=false:=by decide) (he:starEach (e::es) X.env=(false,eval e X.env)::starEach es X.env:=by rfl) (hpl:(backTo pos (starEach es X.env)).any (·.1)=false:=by rfl) :
  PE X (.Call (.Name x p) (e::es) [] pos) (qo C sp dvs E t):=by
 intro pins s Z H Q I h
 refine jR (pP I hg hm ?_ hdb)
 refine PySem.W.callWith_K (h₀:=X.base) I.ok.mod.kin M.kp (thn (ha pos pins s Z H _ I h) fun us s1 ⟨vs,H1,I1,r,q⟩=>⟨I1.kIn,?_⟩) he hpl
 exact Zmy M F hr hb hd hx I1 r q
end
def PK (X:Cx) (kws:List Keyword) (t:TA):Prop :=
 ∀ (pos:Pos) (pins:List (Addr×Obj)) (s:Shared) (Z:St) (H:Hp) (Q:List V->Hp->Prop),Inv X pins Z H s->t Z H Q->wpAny (model X.prog X.w) X.A (evalAll ((backToKw pos (keywordEach kws X.env)).map (·.2))) (AP X pins Z Q) X.xe s
structure FnScope (N P:List Str) (sc:Scope):Prop where
 kind:sc.kind=.function
 co:sc.isCoroutine=false
 gen:sc.isGenerator=false
 nd:N.Nodup
 pre:N.take P.length=P
 par:∀ x∈P,sc.names.lookup x=some .local\/sc.names.lookup x=some .cell
 nofree:∀ y∈sc.names,y.2≠.free
theorem uB {kindOf : Str -> Option NameKind} {x : Str} : ∀ {binds : List (Str × Value)} {m : Str -> Option Value}, (∀ v, (x, v) ∉ binds) -> bindL kindOf binds m x = m x
  | [], _, _ => rfl
  | (n, v) :: r, m, h => by
    unfold bindL
    rw[uB fun w hw=>h w (bE _ hw)]
    split
    . have : x ≠ n := by rintro rfl; exact h v bG
      simp[this]
    . rfl
theorem uS {kindOf : Str -> Option NameKind} {x : Str} : ∀ {binds : List (Str × Value)} {m : Str -> Option Value}, (∀ v, (x, v) ∉ binds) -> bindC kindOf binds m x = m x
  | [], _, _ => rfl
  | (n, v) :: r, m, h => by
    unfold bindC
    rw[uS fun w hw=>h w (bE _ hw)]
    split
    . rfl
    . have : x ≠ n := by rintro rfl; exact h v bG
      simp[this]
theorem sH {kindOf : Str -> Option NameKind} {x : Str} {v : Value} : ∀ {P : List Str} {vs : List Value} {i : Nat} {m : Str -> Option Value}, P.Nodup -> P[i]? = some x -> vs[i]? = some v -> kindOf x = some .local ->
    bindL kindOf (P.zip vs) m x=some v
  | [], _, _, _, _, h, _, _ => by simp at h
  | _ :: _, [], _, _, _, _, h, _ => by simp at h
  | p :: P, w :: vs, 0, m, nd, h1, h2, hk => by
    simp at h1 h2;subst h1;subst h2
    show bindL kindOf ((p,w)::P.zip vs) m p=_
    unfold bindL
    rw[uB fun v hv=>(cP.mp nd).1 (of_mem_zip hv).1,ag hk]
    simp
  | p :: P, w :: vs, i + 1, m, nd, h1, h2, hk => by
    show bindL kindOf ((p,w)::P.zip vs) m x=_
    unfold bindL
    exact sH (i := i) (cP.mp nd).2 (by simpa using h1) (by simpa using h2) hk
theorem u7 {kindOf : Str -> Option NameKind} {x : Str} {v : Value} : ∀ {P : List Str} {vs : List Value} {i : Nat} {m : Str -> Option Value}, P.Nodup -> P[i]? = some x -> vs[i]? = some v -> kindOf x ≠ some .local ->
    bindC kindOf (P.zip vs) m x=some v
  | [], _, _, _, _, h, _, _ => by simp at h
  | _ :: _, [], _, _, _, _, h, _ => by simp at h
  | p :: P, w :: vs, 0, m, nd, h1, h2, hk => by
    simp at h1 h2;subst h1;subst h2
    show bindC kindOf ((p,w)::P.zip vs) m p=_
    unfold bindC
    rw[uS fun v hv=>(cP.mp nd).1 (of_mem_zip hv).1,ah hk]
    simp
  | p :: P, w :: vs, i + 1, m, nd, h1, h2, hk => by
    show bindC kindOf ((p,w)::P.zip vs) m x=_
    unfold bindC
    exact u7 (i := i) (cP.mp nd).2 (by simpa using h1) (by simpa using h2) hk
def start (N:List Str) (vs:List V):St:=vs.map some++List.replicate (N.length - vs.length) none
def cxOf (CX:CXT) (P:Program) (w:World) (K:W.Frag) (mg:Str->Option Value) (base:Heap) (N:List Str) (qual:Str) (scope:Scope) (f:Addr) (cd:Value) (A:Around) (outer:List Env) (s:Shared) (H:Hp) (E:XK):Cx where
 prog:=P
 w:=w
 K:=K
 mg:=mg
 base:=base
 A:=A.deeper (envOfC qual scope s.heap.objs.size f cd)
 N:=N
 s₀:=s
 H₀:=H
 env:=envOfC qual scope s.heap.objs.size f cd
 outer:=outer
 stack:=envOfC qual scope s.heap.objs.size f cd::outer
 ex:=[]
 calm:=true
 fn:=fun j=>true
 pn:=[]
 xe:=fun e s'=>wpAny (model P w) (A.deeper (envOfC qual scope s.heap.objs.size f cd)) (leaving (envOfC qual scope s.heap.objs.size f cd) e) (fun j s''=>CX outer H s E e s'') (fun e' s''=>CX outer H s E e' s'') s'
theorem sC {sc:Scope} {n:Nat} {x:Str} (h:sc.names.lookup x=some .cell):∃ c,(cellsFrom n sc.names []).lookup x=some c:=by
 have q:=PySem.W.cellsFrom_some sc.names n [] (.inl h)
 exact vP.mp q
theorem Zlx {CX:CXT} {P:Program} {w:World} {K:W.Frag} {mg:Str->Option Value} {base:Heap} {N ps:List Str} {qual:Str} {scope:Scope} {f:Addr} {cd:Value} {A:Around} {outer:List Env} {s s1:Shared} {H:Hp} {E:XK} {us:List Value} {vs:List V}
  (S:FnScope N ps scope) (hd:A.handled=none) (e0:Env0 P w K mg base A outer s H) (hl:vs.length=ps.length) (r:Vals vs us)
  (x:InCallC s s.heap.objs.size (bindL (envOfC qual scope s.heap.objs.size f cd).kindOf (ps.zip us) fun j=>none) (cellsFrom (s.heap.objs.size+1) scope.names []) (bindC (envOfC qual scope s.heap.objs.size f cd).kindOf (ps.zip us) fun j=>none) s1) :
  Inv (cxOf CX P w K mg base N qual scope f cd A outer s H E) [] (start N vs) H s1:=by
 have hpl:ps.length<=N.length:=by have:=congrArg List.length S.pre;rw[cz] at this;lia
 obtain ⟨h1,tk,rfl,hk⟩:=x.done
 have noA:∀ b:Addr,b∉(cxOf CX P w K mg base N qual scope f cd A outer s H E).ex:=fun b z=>absurd (show b∈([]:List Addr) from z) (by simp)
 refine ⟨⟨e0.mod,S.kind,rfl,rfl,aq _,fun y z c h1 h2=>?_,fun y hy=>?_,fun y c j h=>?_,fun j=>hd,Around.frames_deeper e0.frames,.inr ⟨rfl,rfl⟩,fun b z=>absurd z (noA b),e0.bs,e0.bsz,fun b j j=>noA b,fun b z=>absurd z (noA b),e0.funs,e0.frf⟩,
  rfl,e0.bare,Un.kept hk,⟨_,x.toInCall.ns,fun i y v h1 h2 h3=>?_⟩,fun y c h=>⟨_,x.cell y c h⟩,e0.hok.fresh (aq _),fun y c h=>?_,fun p hp=>absurd (show p∈([]:List (Addr×Obj)) from hp) (by simp),e0.hok.kept hk,?_⟩
 .exact name_of_addr x.apart (PySem.mem_of_lookup h1) (PySem.mem_of_lookup h2)
 .have hy:scope.names.lookup y=some .cell\/scope.names.lookup y=some .free:=hy
  rcases hy with hy|hy
  .exact sC hy
  .exact absurd rfl (S.nofree _ (PySem.mem_of_lookup hy))
 .exact eZ (x.above y c (PySem.mem_of_lookup h))
 .have hi:i < vs.length:=by
   unfold start at h2
   by_cases hi:i < vs.length
   .exact hi
   .rw[fM (by simpa using hi)] at h2
    rw[jS] at h2
    split at h2 <;> cases h2
  have ha:vs[i]?=some v:=by
   unfold start at h2
   rw[bN (by simpa using hi),aj] at h2
   cases e:vs[i]? with
   | none=>rw[e] at h2;cases h2
   | some a=>rw[e] at h2;cases h2;rfl
  obtain ⟨u,hu,rv⟩:=r.get ha
  have hp:ps[i]?=some y:=by
   rw[<-S.pre,jT (by lia)];exact h1
  have ndP:ps.Nodup:=by rw[<-S.pre];exact S.nd.sublist (take_sublist _ _)
  refine ⟨u,rv,?_⟩
  rcases S.par y (aw hp) with k|k
  .exact .inl ⟨k,sH ndP hp hu k⟩
  .obtain ⟨c,e⟩:=sC (n:=s.heap.objs.size+1) k
   refine .inr ⟨.inl k,c,e,?_⟩
   have q:=x.cell y c e
   rw[u7 ndP hp hu (by show scope.names.lookup y≠_;rw[k];decide)] at q
   exact q
 .exact e0.hok.fresh (eZ (x.above y c (PySem.mem_of_lookup h)))
 .unfold start
  show _=N.length
  rw[aA,ai,jU]
  lia
theorem fn_of {CX:CXT} {P:Program} {w:World} {K:W.Frag} {mg:Str->Option Value} {base:Heap} {k:Nat} {f:Addr} {name qual:Str} {params:Arguments} {body:List Stmt} {scope:Scope} {dV kV doc pm cdv ct oc:Value} {an od:Option Addr}
  {osl:Array (Option Value)} {N ps:List Str} {sp:Sp} (lk:K.lookup f=some ⟨oc,od,.func (PySem.W.fnOf name qual params body scope dV kV doc pm an cdv ct),osl⟩) (hcd:PySem.W.codeIn K cdv qual=true) (S:FnScope N ps scope)
  (len:∀ vs H Q E,sp vs H Q E->vs.length=ps.length)
  (hbody:∀ (A:Around) (outer:List Env) (s:Shared) (H:Hp) (vs:List V) (Q:VK) (E:XK),Room k (A.deeper (envOfC qual scope s.heap.objs.size f cdv))->sp vs H Q E ->
   ∃ t,PSs (cxOf CX P w K mg base N qual scope f cdv A outer s H E) body t/\t { nx:=fun j H'=>Q .non H',rt:=Q } (start N vs) H) :
  FnOk P w K mg base CX (k+1) f (PySem.W.fnOf name qual params body scope dV kV doc pm an cdv ct) ps sp:=by
 refine ⟨len,fun A outer s H args us vs Q E hr e0 hb r hsp=>?_⟩
 have hl:=len _ _ _ _ hsp
 have KX:K.In s.heap:=e0.mod.kin.keeps fun b o e=>(e0.bs b o e).1
 have lim:s.heap.NoLimit:=e0.mod.nolimit.keeps fun b o e=>(e0.bs b o e).1
 have hkind:∀ y∈ps.zip us,scope.names.lookup y.1=some .local\/(scope.names.lookup y.1=some .cell/\((cellsFrom (s.heap.objs.size+1) scope.names []).lookup y.1).isSome=true):=fun ⟨n,v⟩ hy=>by
  rcases S.par n (of_mem_zip hy).1 with q|q
  .exact .inl q
  .exact .inr ⟨q,PySem.W.cellsFrom_some _ _ _ (.inl q)⟩
 refine codeAny_call_function hr.depth (KX _ _ lk) rfl S.co S.gen rfl (PySem.W.codeRec_of KX hcd) (hb _ _ _ _ ?_)
 refine wpAny_newFunctionEnv_cells S.kind hkind fun env he s1 x=>?_
 subst he
 refine ⟨lim.keeps x.toInCall.keep,codeAny_func ?_⟩
 obtain ⟨t,ht,hq⟩:=hbody A outer s H vs Q E (hr.deeper _) hsp
 have I:Inv (cxOf CX P w K mg base N qual scope f cdv A outer s H E) [] (start N vs) H s1:=Zlx S hr.hd e0 hl r x
 refine cE (ht [] s1 (start N vs) H _ I hq) (fun fl s' hs=>?_) fun e s' hs=>hs
 have fin:∀ {σ':St} {H':Hp} {v:V} {u:Value},Inv (cxOf CX P w K mg base N qual scope f cdv A outer s H E) [] σ' H' s'->RelV v u->Q v H'->CE outer P w H s Q u s' :=
  fun {σ' H' v u} J rv q=>⟨v,H',J.os,J.bare,J.base,J.hok,rv,q⟩
 cases fl with
 | ret u =>
  obtain ⟨v,σ',H',J,rv,q⟩:=hs
  exact fin J rv q
 | next =>
  obtain ⟨σ',H',J,q⟩:=hs
  exact fin (v:=V.non) (u:=Value.none) J rfl q
 | brk =>
  obtain ⟨j,j,j,q⟩:=hs
  exact False.elim q
 | cont =>
  obtain ⟨j,j,j,q⟩:=hs
  exact False.elim q
end L2
namespace L2
open PySem PySem.Spec PyProof.Rows
section
variable {X:Cx} {x:Str} {p pos:Pos} {e:Expr} {es:List Expr} {t:TA} {id T:String} {r:List V->Hp->VK->Prop}
def tCB (r:List V->Hp->VK->Prop) (t:TA):TE:=fun Z H Q=>t Z H fun vs H1=>r vs H1 Q
theorem aZ (hc:bA X (.builtin id) r) (hg:Gl X x) (hm:X.mg x=none) (hv:bootBuiltins x=some (.builtin id)) (ha:PA X (e::es) t) (hn:x≠"__name__":=by decide) (hdb:(x == ("__debug__":Str))=false:=by decide)
  (he:starEach (e::es) X.env=(false,eval e X.env)::starEach es X.env:=by rfl) (hpl:(backTo pos (starEach es X.env)).any (·.1)=false:=by rfl):PE X (.Call (.Name x p) (e::es) [] pos) (tCB r t):=by
 intro pins s Z H Q I h
 refine jR (eV I hg hm hv ?_ hn hdb)
 exact PyProof.Rows.callWith_builtin1 (thn (ha pos pins s Z H _ I h) fun us s1 ⟨vs,H1,I1,r1,q1⟩=>hc pins s1 Z H1 vs us Q I1 r1 q1) he hpl
theorem cL (hc:bA X (.type T) r) (hg:Gl X x) (hm:X.mg x=none) (hv:bootBuiltins x=some (.type T)) (ha:PA X (e::es) t) (hn:x≠"__name__":=by decide) (hdb:(x == ("__debug__":Str))=false:=by decide)
  (he:starEach (e::es) X.env=(false,eval e X.env)::starEach es X.env:=by rfl) (hpl:(backTo pos (starEach es X.env)).any (·.1)=false:=by rfl):PE X (.Call (.Name x p) (e::es) [] pos) (tCB r t):=by
 intro pins s Z H Q I h
 refine jR (eV I hg hm hv ?_ hn hdb)
 exact gu (thn (ha pos pins s Z H _ I h) fun us s1 ⟨vs,H1,I1,r1,q1⟩=>hc pins s1 Z H1 vs us Q I1 r1 q1) he hpl
end
end L2
namespace HT
open PySem PyProof.Rows
section
variable {prog:Program} {w:World} {A:Around} {E:Value->Shared->Prop} {s:Shared}
theorem cat_tup {t b:Addr} {vs ws:List Value} {Q:Value->Shared->Prop} (ht:IsTup s.heap t vs.toArray) (hb:IsTup s.heap b ws.toArray) (hv:vs≠[])
  (h1:ws=[]->Q (.ref t) s) (h2:ws≠[]->Q (.ref s.heap.objs.size) { s with heap:=s.heap.push { cls:=.type "tuple",data:=.seq (vs++ws).toArray } })
  (hsz:vs.length+ws.length<=sizeLine):wpAny (model prog w) A (binaryOp .Add (.ref t) (.ref b)) Q E s:=by
 obtain ⟨⟨cls,dd,data,sl⟩,ho,hc,n,hd⟩:=id ht
 obtain ⟨⟨cls2,dd2,data2,sl2⟩,ho2,hc2,n2,hd2⟩:=id hb
 simp only at hc hd hc2 hd2
 subst hc hd hc2 hd2
 have e:vs.toArray++ws.toArray=(vs++ws).toArray:=by simp
 by_cases hw:ws=[]
 .exact concat_meets ⟨_,ho,rfl⟩ ⟨_,ho2,rfl⟩ qT seq_tuple_add PySem.F.slot_tuple_add PySem.F.entry_tuple_add (PySem.F.args_tuple_add_2 _ _)
   (tuple_addW1 t b vs.toArray ws.toArray n n2 dd dd2 sl sl2 (by simpa using hv) (by simp[hw])) ⟨ho,ho2,h1 hw⟩
 .refine concat_meets ⟨_,ho,rfl⟩ ⟨_,ho2,rfl⟩ qT seq_tuple_add PySem.F.slot_tuple_add PySem.F.entry_tuple_add (PySem.F.args_tuple_add_2 _ _)
   (tuple_addW2 t b vs.toArray ws.toArray n n2 dd dd2 sl sl2 (by simpa using hv) (by simpa using hw) (by rw[bj,bj];exact hsz)) ⟨ho,ho2,?_⟩
  rw[e]
  exact h2 hw
def sIx (n d:Nat):Option Int->Nat
 | none=>d
 | some v=>if v < 0 then (v+(n:Int)).toNat else min v.toNat n
theorem sIx_le (n d:Nat) (hd:d<=n) (o:Option Int):sIx n d o<=n:=by
 cases o with
 | none=>exact hd
 | some v =>
  show (if v < 0 then (v+(n:Int)).toNat else min v.toNat n)<=n
  by_cases hv:v < 0
  .rw[ag hv];lia
  .rw[ah hv];exact jV _ _
theorem clip_eq (v:Int) (n d:Nat):(if v < 0 then max (v+(n:Int)) 0 else min v (n:Int))=((sIx n d (some v):Nat):Int):=by
 show (if v < 0 then max (v+(n:Int)) 0 else min v (n:Int))=(((if v < 0 then (v+(n:Int)).toNat else min v.toNat n):Nat):Int)
 by_cases hv:v < 0
 .rw[ag hv,ag hv,Int.toNat_eq_max]
 .obtain ⟨m,rfl⟩:=Int.eq_ofNat_of_zero_le (Int.not_lt.mp hv)
  rw[ah hv,ah hv]
  show min (m:Int) n=((min m n:Nat):Int)
  lia
theorem Zj7 (lo hi:Option Int) (n:Nat):Builtin.Slice.sliceAdjust lo hi 1 (n:Int)=(((sIx n 0 lo:Nat):Int),((sIx n n hi:Nat):Int)):=by
 have h1:¬ ((1:Int) < 0):=by lia
 unfold Builtin.Slice.sliceAdjust
 simp only[h1,dv]
 refine Prod.ext ?_ ?_
 .cases lo with
  | none=>rfl
  | some v=>exact clip_eq v n 0
 .cases hi with
  | none=>rfl
  | some v=>exact clip_eq v n n
theorem ZjC (i j:Nat):Builtin.Slice.slicePlaces (i:Int) (j:Int) 1=j - i:=by
 unfold Builtin.Slice.slicePlaces
 have h1:(1:Int) > 0:=by lia
 simp only[h1,e9,Int.ediv_one]
 split <;> lia
theorem sP {v:Value} {o:Option Int} {Q:Option Int->Shared->Prop} (p:IsPart v o) (h:Q o s):wpAny (model prog w) A (Builtin.Slice.slicePartIndex v) Q E s:=by
 cases p with
 | none=>exact slicePart_none h
 | int i t=>exact slicePart_int h
theorem sM {sl:Addr} {vl vu:Value} {lo hi:Option Int} {n:Nat} {Q:Int×Int×Nat->Shared->Prop} (hs:s.heap.IsSliceOf sl vl vu .none) (pl:IsPart vl lo) (pu:IsPart vu hi)
  (h:Q (((sIx n 0 lo:Nat):Int),1,sIx n n hi - sIx n 0 lo) s):wpAny (model prog w) A (Builtin.Slice.sliceApplied (.ref sl) (pure (n:Int))) Q E s:=by
 obtain ⟨os,hos,hcs,hds⟩:=id hs
 unfold Builtin.Slice.sliceApplied Builtin.Slice.sliceFields
 refine ab (ab (bF hos hds (x:=vl) rfl (ab (bF hos hds (x:=vu) rfl (ab (bF hos hds (x:=.none) rfl (am ?_)))))))
 refine ab (slicePart_none ?_)
 show wpAny _ _ (if ((1:Int) == 0)=true then _ else _) _ _ s
 rw[ah (by decide)]
 refine ab (sP pl (ab (sP pu (ab (am ?_)))))
 show wpAny _ _ (match Builtin.Slice.sliceAdjust lo hi 1 (n:Int) with|(lo,hi)=>pure (lo,(1:Int),Builtin.Slice.slicePlaces lo hi 1)) _ _ s
 rw[Zj7 lo hi n]
 show wpAny _ _ (pure (((sIx n 0 lo:Nat):Int),(1:Int),Builtin.Slice.slicePlaces ((sIx n 0 lo:Nat):Int) ((sIx n n hi:Nat):Int) 1)) _ _ s
 rw[ZjC]
 exact am h
theorem ZmN (xs:Array Value) (i k:Nat):((List.range k).filterMap fun (m:Nat)=>xs[((i:Int)+(m:Int) * 1).toNat]?).toArray=((xs.toList.drop i).take k).toArray:=by
 have e:(fun (m:Nat)=>xs[((i:Int)+(m:Int) * 1).toNat]?)=fun m=>xs[i+m]?:=by
  funext m
  have:((i:Int)+(m:Int) * 1).toNat=i+m:=by lia
  rw[this]
 rw[e]
 have:=pick_run xs i k
 rw[filterMap_map] at this
 have e2:((fun x=>xs[x]?) ∘ fun x=>i+x)=fun m=>xs[i+m]?:=rfl
 rw[e2] at this
 rw[this]
theorem getItem_tuple_cut {t sl:Addr} {items:Array Value} {vl vu:Value} {lo hi:Option Int} {Q:Value->Shared->Prop} (ht:IsTup s.heap t items) (hs:s.heap.IsSliceOf sl vl vu .none) (pl:IsPart vl lo) (pu:IsPart vu hi)
  (hw:¬ (sIx items.size 0 lo=0/\sIx items.size items.size hi=items.size))
  (h:Q (.ref s.heap.objs.size) { s with heap:=s.heap.push { cls:=.type "tuple",data:=.seq ((items.toList.drop (sIx items.size 0 lo)).take (sIx items.size items.size hi - sIx items.size 0 lo)).toArray } })
  (hsz:items.size<=sizeLine):wpAny (model prog w) A (getItem (.ref t) (.ref sl)) Q E s:=by
 have htake:sizeOk (.seq ((items.toList.drop (sIx items.size 0 lo)).take (sIx items.size items.size hi - sIx items.size 0 lo)).toArray):=by
  show ((items.toList.drop (sIx items.size 0 lo)).take (sIx items.size items.size hi - sIx items.size 0 lo)).toArray.size<=sizeLine
  rw[bj,cz,iA,jQ]
  exact aR (jV _ _) (aR (jW _ _) hsz)
 have hj:sIx items.size items.size hi<=items.size:=sIx_le _ _ (aq _) hi
 obtain ⟨os,hos,hcs,hds⟩:=id hs
 have hTs:s.TypeIs (.ref sl) "slice":=⟨os,hos,hcs⟩
 unfold getItem
 try with_reducible refine cY ?_
 first|refine ab (am ?_)|skip
 refine ab (wpAny_sequenceKey ht.typeIs (by decide) ?_)
 refine ab (fb (name:=Str.ofString "__getitem__") ht.typeIs iB
  (dD iB ht.typeIs entry_tuple_getitem ?_ (args_tuple_getitem _ _)))
 show wpAny _ _ (Builtin.Tuple.tupleItemsOf (.ref t) >>= _) _ _ s
 refine ab (tupleItemsOf_ ht ?_)
 refine ab (iC hTs ?_)
 rw[ag (by decide)]
 refine ab (sM hs pl pu ?_)
 have hno:¬ ((((sIx items.size 0 lo:Nat):Int) == 0 && (1:Int) == 1 && (sIx items.size items.size hi - sIx items.size 0 lo) == items.size)=true):=by
  intro q
  rw[fN,fN] at q
  have q1:((sIx items.size 0 lo:Nat):Int)=0:=eq_of_beq q.1.1
  have q2:sIx items.size items.size hi - sIx items.size 0 lo=items.size:=eq_of_beq q.2
  exact hw ⟨Int.ofNat.inj q1,Nat.le_antisymm hj (aR (eE q2.symm) (jW _ _))⟩
 show wpAny _ _ (if (((sIx items.size 0 lo:Nat):Int) == 0 && (1:Int) == 1 && (sIx items.size items.size hi - sIx items.size 0 lo) == items.size)=true then _ else _) _ _ s
 rw[ah hno,ZmN]
 first
  | exact ab (m:=Builtin.Tuple.tupleExact _) (gW (am ⟨_,rfl,am h⟩) htake)
  | exact ab (m:=Builtin.Tuple.tupleExact _) (gW (ab (am (am ⟨_,rfl,am h⟩))) htake)
  | exact ab (ab (m:=Builtin.Tuple.tupleExact _) (gW (am (am ⟨_,rfl,am h⟩)) htake))
  | exact ab (ab (m:=Builtin.Tuple.tupleExact _) (gW (am ⟨_,rfl,am h⟩) htake))
end
end HT
namespace L2
open PySem PySem.Spec PyProof.Rows
abbrev TO:=St->Hp->(Option Int->Hp->Prop)->Prop
def PO (X:Cx) (e:Option Expr) (t:TO):Prop :=
 ∀ (pins:List (Addr×Obj)) (s:Shared) (Z:St) (H:Hp) (Q:Option Int->Hp->Prop),Inv X pins Z H s->t Z H Q ->
  wpAny (model X.prog X.w) X.A (evalPart e X.env) (fun u s'=>∃ o H',Inv X pins Z H' s'/\IsPart u o/\Q o H') X.xe s
def pf:TO:=fun j H Q=>Q none H
def qJ (t:TE):TO:=fun Z H Q=>t Z H fun x H1=>∃ i,x=.int i/\Q (some i) H1
theorem intsAre_of {ns:List Int}:∀ {us:List Value},Vals (ns.map V.int) us->IntsAre us ns:=by
 induction ns with
 | nil=>intro us r;rw[cQ] at r;cases r;exact .nil
 | cons n ns ih =>
  intro us r
  rw[aF] at r
  cases r with
  | cons r1 r2 =>
   obtain ⟨t,e⟩:=r1
   subst e
   exact .cons n t (ih r2)
section
variable {X:Cx} {e:Expr} {te:TE} {lo hi:Option Expr} {tl th:TO} {pos p2:Pos}
theorem fH:PO X none pf:=by
 intro pins s Z H Q I h
 rw[evalPart_none]
 exact am ⟨none,H,I,.none,h⟩
theorem fE (h:PE X e te):PO X (some e) (qJ te):=by
 intro pins s Z H Q I hw
 rw[evalPart_some]
 refine thn (h pins s Z H _ I hw) fun u s1 ⟨x,H1,I1,r1,q1⟩=>?_
 obtain ⟨i,rfl,q⟩:=q1
 obtain ⟨t,rfl⟩:=r1
 exact ⟨some i,H1,I1,.int i t,q⟩
def SlR (X:Cx) (r:V->Option Int->Option Int->Hp->VK->Prop):Prop :=
 ∀ (pins:List (Addr×Obj)) (s:Shared) (Z:St) (H:Hp) (x:V) (v vl vu:Value) (lo hi:Option Int) (sl:Addr) (Q:VK),Inv X pins Z H s->RelV x v->s.heap.IsSliceOf sl vl vu .none->IsPart vl lo->IsPart vu hi->r x lo hi H Q ->
  ∃ T id,typeLookup (.type T) "__getitem__"=pure (some (.builtin id))/\s.TypeIs v T/\wpAny (model X.prog X.w) X.A (getItem v (.ref sl)) (EP X pins Z Q) X.xe s
def tSl (r:V->Option Int->Option Int->Hp->VK->Prop) (te:TE) (tl th:TO):TE:=fun Z H Q=>te Z H fun x H1=>tl Z H1 fun l H2=>th Z H2 fun u H3=>r x l u H3 Q
theorem fi {r:V->Option Int->Option Int->Hp->VK->Prop} (hr:SlR X r) (he:PE X e te) (hl:PO X lo tl) (hu:PO X hi th):PE X (.Subscript e (.Slice lo hi none p2) pos) (tSl r te tl th):=by
 intro pins s Z H Q I h
 refine Subscript_ (thn (he pins s Z H _ I h) fun v s1 z0_=>?_)
 obtain ⟨x,H1,I1,r1,q1⟩:=z0_
 refine wpAny_Slice (thn (hl pins s1 Z H1 _ I1 q1) fun vl s2 ⟨l,H2,I2,pl,q2⟩=>thn (hu pins s2 Z H2 _ I2 q2) fun vu s3 z1_=>?_)
 obtain ⟨u,H3,I3,pu,q3⟩:=z1_
 rw[evalPart_none]
 refine am ?_
 have I4:Inv X pins Z H3 { s3 with heap:=s3.heap.push { cls:=.type "slice",data:=.fields #[vl,vu,.none] } }:=I3.kept (t':=s3.toks) fun b ob q=>aJ _ q
 obtain ⟨T,id,hT,ht,hg⟩:=hr pins { s3 with heap:=s3.heap.push { cls:=.type "slice",data:=.fields #[vl,vu,.none] } } Z H3 x v vl vu l u s3.heap.objs.size Q I4 r1 (Heap.IsSliceOf.new ..) pl pu q3
 show wpAny (model X.prog X.w) X.A (subscriptTail e (.Slice lo hi none p2) v (.ref s3.heap.objs.size)) (EP X pins Z Q) X.xe { s3 with heap:=s3.heap.push { cls:=.type "slice",data:=.fields #[vl,vu,.none] } }
 exact tail_any (ops:=[.ref s3.heap.objs.size,v]) ht hT hg (by with_unfolding_all rfl)
def cutV (xs:List V) (lo hi:Option Int):List V:=(xs.drop (HT.sIx xs.length 0 lo)).take (HT.sIx xs.length xs.length hi - HT.sIx xs.length 0 lo)
theorem sX (xs:List V) (lo hi:Option Int):(cutV xs lo hi).length<=xs.length:=by
 unfold cutV
 rw[cz,iA]
 exact aR (jV _ _) (jW _ _)
def rSlT (K:W.Frag):V->Option Int->Option Int->Hp->VK->Prop:=fun x lo hi H Q=>∃ a xs,x=.ref a/\SqT K H a xs /\
 ¬ (HT.sIx xs.length 0 lo=0/\HT.sIx xs.length xs.length hi=xs.length)/\∀ p,H p=none->Q (.ref p) (upd H p (.tup (cutV xs lo hi)))
theorem sl_tup:SlR X (rSlT X.K):=by
 intro pins s Z H x v vl vu lo hi sl Q I rx hs pl pu h
 obtain ⟨a,xs,rfl,hx,hw,q⟩:=h
 cases rx
 obtain ⟨its,r,ht,hz⟩:=I.tuple hx
 have hlen:its.toArray.size=xs.length:=by rw[bj];exact r.length.symm
 refine ⟨"tuple",_,iB.lookup,ht.typeIs,?_⟩
 refine HT.getItem_tuple_cut ht hs pl pu (by rw[hlen];exact hw) ?_ (by rw[hlen];exact hz)
 rw[hlen]
 refine ⟨.ref s.heap.objs.size,_,I.laid (t':=s.toks) (o:=.tup (cutV xs lo hi)) (fun b ob q=>aJ _ q) (aq _) ?_,rfl,q _ (I.hok.fresh (aq _))⟩
 exact ⟨aR (sX xs lo hi) hz,_,(r.drop (HT.sIx xs.length 0 lo)).take (HT.sIx xs.length xs.length hi - HT.sIx xs.length 0 lo),IsTup.new _ _⟩
def rCatT (K:W.Frag):R2:=fun x y H Q=>∃ a b xs ys,x=.ref a/\y=.ref b/\SqT K H a xs/\SqT K H b ys/\xs≠[]/\xs.length+ys.length<=sizeLine /\
 (ys=[]->Q (.ref a) H)/\(ys≠[]->∀ p,H p=none->Q (.ref p) (upd H p (.tup (xs++ys))))
theorem Vals.nil_iff {xs:List V} {us:List Value} (r:Vals xs us):us=[]↔xs=[]:=by
 cases r with
 | nil=>simp
 | cons _ _=>simp
theorem Zo2:OpR X (binaryOp .Add) (rCatT X.K):=by
 intro pins s Z H x y v u Q I rx ry h
 obtain ⟨a,b,xs,ys,rfl,rfl,ha,hb,hx,hz,q1,q2⟩:=h
 cases rx
 cases ry
 obtain ⟨its,r1,p1,j⟩:=I.tuple ha
 obtain ⟨its2,r2,p2,j⟩:=I.tuple hb
 refine HT.cat_tup p1 p2 (fun z=>hx (r1.nil_iff.mp z)) (fun z=>⟨.ref a,H,I,rfl,q1 (r2.nil_iff.mp z)⟩) (fun z=>?_) (by rw[<-r1.length,<- r2.length];exact hz)
 refine ⟨.ref s.heap.objs.size,_,I.laid (t':=s.toks) (o:=.tup (xs++ys)) (fun b ob q=>aJ _ q) (aq _) ?_,rfl,q2 (fun w=>z (r2.nil_iff.mpr w)) _ (I.hok.fresh (aq _))⟩
 exact ⟨by rw[aA];exact hz,_,r1.append r2,IsTup.new _ _⟩
end
end L2
namespace L2
open PySem PySem.Spec PyProof.Rows
def ixN (n:Nat) (i:Int):Option Nat:=if 0<=i then (if i < n then some i.toNat else none) else if -(n:Int)<=i then some (i+n).toNat else none
def atI {α:Type} (xs:List α) (i:Int):Option α:=(ixN xs.length i).bind fun j=>xs[j]?
theorem qf {n:Nat} {i:Int} {j:Nat} (h:ixN n i=some j):seqIndex? i n=some j/\j < n/\-(n:Int)<=i/\i < n:=by
 unfold ixN at h
 by_cases h0:0<=i
 .rw[ag h0] at h
  by_cases h1:i < n
  .rw[ag h1] at h
   have e:i.toNat=j:=Option.some.inj h
   exact ⟨by rw[seqIndex_of h0 h1,e],by lia,by lia,h1⟩
  .rw[ah h1] at h;cases h
 .rw[ah h0] at h
  by_cases h1:-(n:Int)<=i
  .rw[ag h1] at h
   have e:(i+n).toNat=j:=Option.some.inj h
   exact ⟨by rw[seqIndex_neg (by lia) h1,e],by lia,h1,by lia⟩
  .rw[ah h1] at h;cases h
theorem rG {α:Type} {xs:List α} {i:Int} {v:α} (h:atI xs i=some v):∃ j,seqIndex? i xs.length=some j/\xs[j]?=some v/\j < xs.length/\-(xs.length:Int)<=i/\i < xs.length:=by
 unfold atI at h
 cases e:ixN xs.length i with
 | none=>rw[e] at h;cases h
 | some j =>
  rw[e] at h
  obtain ⟨h1,h2,h3,h4⟩:=qf e
  exact ⟨j,h1,h,h2,h3,h4⟩
def tm (b:Expr):Prop:=∀ o i,subscripted b false o i=operate [o,i] (getItem o i)
def IxR (X:Cx) (r:R2):Prop :=
 ∀ (value slice:Expr) (pins:List (Addr×Obj)) (s:Shared) (Z:St) (H:Hp) (x y:V) (v u:Value) (Q:VK),Inv X pins Z H s->RelV x v->RelV y u->r x y H Q ->
  subscripted slice false v u=operate [v,u] (getItem v u)->wpAny (model X.prog X.w) X.A (subscriptTail value slice v u) (EP X pins Z Q) X.xe s
def MtR (X:Cx) (id:String) (r:V->List V->Hp->VK->Prop):Prop :=
 ∀ (pins:List (Addr×Obj)) (s:Shared) (Z:St) (H:Hp) (x:V) (xs:List V) (v:Value) (us:List Value) (Q:VK),Inv X pins Z H s->RelV x v->Vals xs us->r x xs H Q ->
  wpAny (model X.prog X.w) X.A (call (.builtin id) (v::us)) (EP X pins Z Q) X.xe s
section
variable {X:Cx} {a b:Expr} {ta tb:TE} {pos:Pos}
theorem IxR.or {r r':R2} (h:IxR X r) (h':IxR X r'):IxR X (fun x y H Q=>r x y H Q\/r' x y H Q):=by
 intro value slice pins s Z H x y v u Q I rx ry q hs
 rcases q with q|q
 .exact h value slice pins s Z H x y v u Q I rx ry q hs
 .exact h' value slice pins s Z H x y v u Q I rx ry q hs
theorem jA {r:R2} (hr:IxR X r) (ha:PE X a ta) (hb:PE X b tb) (hs:tm b):PE X (.Subscript a b pos) (tOp r ta tb):=by
 intro pins s Z H Q I h
 exact Subscript_ (binT ha hb I h fun v u s2 x y H2 I2 rx ry q=>hr a b pins s2 Z H2 x y v u Q I2 rx ry q (hs _ _))
def rIxL (K:W.Frag):R2:=fun x y H Q=>∃ p xs i v,x=.ref p/\y=.int i/\SqL K H p xs/\atI xs i=some v/\Q v H
def rIxT (K:W.Frag):R2:=fun x y H Q=>∃ p xs i v,x=.ref p/\y=.int i/\SqT K H p xs/\atI xs i=some v/\Q v H
theorem ix_list:IxR X (rIxL X.K):=by
 intro value slice pins s Z H x y v u Q I rx ry h hs
 obtain ⟨p,xs,i,z,rfl,rfl,hq,he,q⟩:=h
 cases rx
 obtain ⟨t,rfl⟩:=ry
 obtain ⟨its,r,pl,hz⟩:=I.list hq
 obtain ⟨j,h1,h2,h3,h4,h5⟩:=rG he
 obtain ⟨w,ew,rw'⟩:=r.get h2
 have hl:=r.length
 have hn:=mF
 have fin:EP X pins Z Q w s:=⟨z,H,I,rw',q⟩
 by_cases h0:0<=i
 .have hj:i.toNat=j:=by
   rw[seqIndex_of h0 h5] at h1
   exact Option.some.inj h1
  exact item_listR pl.isList h0 (by lia) (by rw[hj];simpa using ew) fin hs
 .have hj:(i+(its.toArray.size:Int)).toNat=j:=by
   rw[seqIndex_neg (by lia) h4] at h1
   rw[bj,<- hl]
   exact Option.some.inj h1
  exact subscriptTail_builtinR (x:=w) pl.isList.typeIs slot_list_getitem.lookup
   (wpAny_getItem_list_neg (Q:=fun r s'=>r=w/\EP X pins Z Q r s') pl.isList (by lia) (by rw[bj] <;> lia) (by lia) (by rw[hj];simpa using ew) ⟨rfl,fin⟩) hs
theorem ix_tup:IxR X (rIxT X.K):=by
 intro value slice pins s Z H x y v u Q I rx ry h hs
 obtain ⟨p,xs,i,z,rfl,rfl,hq,he,q⟩:=h
 cases rx
 obtain ⟨t,rfl⟩:=ry
 obtain ⟨its,r,pl,hz⟩:=I.tuple hq
 obtain ⟨j,h1,h2,h3,h4,h5⟩:=rG he
 obtain ⟨w,ew,rw'⟩:=r.get h2
 have hl:=r.length
 have hn:=mF
 have fin:EP X pins Z Q w s:=⟨z,H,I,rw',q⟩
 exact subscriptTail_builtinR (x:=w) pl.typeIs iB.lookup
  (getItem_tuple (j:=j) (Q:=fun r s'=>r=w/\EP X pins Z Q r s') pl (by lia) (by lia) (by rw[bj,<- hl];exact h1) (by simpa using ew) ⟨rfl,fin⟩) hs
theorem ZjF (its:List Value) (n j:Nat) (u:Value):Obj.mapSeq (·.setIfInBounds j u) { cls:=.type "list",data:=.seq its.toArray n }={ cls:=.type "list",data:=.seq (its.set j u).toArray n }:=by
 simp[Obj.mapSeq]
theorem Inv.lst {pins:List (Addr×Obj)} {Z:St} {H:Hp} {s:Shared} {p:Addr} {xs:List V} (I:Inv X pins Z H s) (h:H p=some (.lst xs)) :
  ∃ (its:List Value) (n:Nat),Vals xs its/\s.heap.get? p=some { cls:=.type "list",data:=.seq its.toArray n }/\xs.length<=sizeLine:=by
 obtain ⟨z,its,n,r,e⟩:=I.hok p _ h
 exact ⟨its,n,r,e,z⟩
theorem Inv.lstUpd {pins:List (Addr×Obj)} {Z:St} {H:Hp} {s:Shared} {p:Addr} {xs ys:List V} {its its':List Value} {n n':Nat} {f:Obj->Obj} (I:Inv X pins Z H s) (h:H p=some (.lst xs))
  (ho:s.heap.get? p=some { cls:=.type "list",data:=.seq its.toArray n }) (hf:f { cls:=.type "list",data:=.seq its.toArray n }={ cls:=.type "list",data:=.seq its'.toArray n' }) (r:Vals ys its') (hz:ys.length<=sizeLine) (t:Nat) :
  Inv X pins Z (upd H p (.lst ys)) { s with heap:=s.heap.update p f,toks:=t }:=by
 have e:(s.heap.update p f).get? p=some { cls:=.type "list",data:=.seq its'.toArray n' }:=by
  rw[gX f ho (by rw[hf] <;> rfl),hf]
 refine I.write (x:=p) (e:=p) (by rw[h];trivial) (.inl rfl) (fun b u hb q=>(iD _ _ (Ne.symm hb)).trans q) ⟨_,e⟩ ?_
 exact ⟨hz,its',n',r,e⟩
def jv:V->V->V->Hp->(Hp->Prop)->Prop:=fun o i v H Q=>∃ p xs k j,o=.ref p/\i=.int k/\H p=some (.lst xs)/\ixN xs.length k=some j/\Q (upd H p (.lst (xs.set j v)))
theorem cT:PSet X jv:=by
 intro pins s Z H o i v ov iv u Q I ro ri rv h
 obtain ⟨p,xs,k,j,rfl,rfl,hp,hj,q⟩:=h
 cases ro
 obtain ⟨t,rfl⟩:=ri
 obtain ⟨its,n,r,ho,hz⟩:=I.lst hp
 obtain ⟨h1,h2,h3,h4⟩:=qf hj
 have hl:=r.length
 have hn:=mF
 have I':Inv X pins Z (upd H p (.lst (xs.set j v))) { s with heap:=s.heap.update p (Obj.mapSeq (·.setIfInBounds j u)) } :=
  I.lstUpd hp ho (ZjF its n j u) (r.set rv j) (by rw[bQ];exact hz) s.toks
 by_cases h0:0<=k
 .have hk:k.toNat=j:=by
   rw[seqIndex_of h0 h4] at h1
   exact Option.some.inj h1
  exact PySem.W.ki_setAt ho h0 (by lia) (by rw[bj,<- hl];exact h4) (by rw[hk];exact ⟨_,I',q⟩)
 .have hk:(k+(its.toArray.size:Int)).toNat=j:=by
   rw[seqIndex_neg (by lia) h3] at h1
   rw[bj,<- hl]
   exact Option.some.inj h1
  exact PySem.W.ki_setBack ho (by lia) (by rw[bj,<- hl];exact h3) (by lia) (by rw[hk];exact ⟨_,I',q⟩)
theorem Zg7 (lo hi:Option Int) (n:Nat):(sliceBounds lo hi none n).1=((HT.sIx n 0 lo:Nat):Int)/\(sliceBounds lo hi none n).2.1=((HT.sIx n n hi:Nat):Int)/\(sliceBounds lo hi none n).2.2=1:=by
 have tb:∀ (i:Int) (n d:Nat),(if (1:Int) > 0 then max 0 (min (if i < 0 then i+n else i) n) else max (-1) (min (if i < 0 then i+n else i) ((n:Int) - 1)))=((HT.sIx n d (some i):Nat):Int):=by
  intro i n d
  rw[ag (by decide),<- HT.clip_eq i n d]
  by_cases h:i < 0
  .rw[ag h,ag h];lia
  .rw[ah h,ah h];lia
 refine ⟨?_,?_,rfl⟩
 .cases lo with
  | none=>rfl
  | some i=>exact tb i n 0
 .cases hi with
  | none=>rfl
  | some i=>exact tb i n n
theorem Zgn (its:List Value) (lo hi:Option Int):slicePick its.toArray lo hi none=((its.drop (HT.sIx its.length 0 lo)).take (HT.sIx its.length its.length hi - HT.sIx its.length 0 lo)).toArray:=by
 obtain ⟨h1,h2,h3⟩:=Zg7 lo hi its.toArray.size
 unfold slicePick
 rw[h1,h2,h3]
 simp only[sliceRange_one,pick_run,bj] <;> rfl
def rSlL (K:W.Frag):V->Option Int->Option Int->Hp->VK->Prop:=fun x lo hi H Q=>∃ a xs,x=.ref a/\SqL K H a xs/\∀ p,H p=none->Q (.ref p) (upd H p (.lst (cutV xs lo hi)))
theorem Zow:SlR X (rSlL X.K):=by
 intro pins s Z H x v vl vu lo hi sl Q I rx hs pl pu h
 obtain ⟨a,xs,rfl,hx,q⟩:=h
 cases rx
 obtain ⟨its,r,ht,hz⟩:=I.list hx
 have hlen:=r.length
 refine ⟨"list",_,slot_list_getitem.lookup,ht.isList.typeIs,?_⟩
 refine wpAny_getItem_list_slice ht.isList hs pl pu .none (by simp) ?_ (by rw[bj] <;> lia)
 rw[Zgn,<- hlen]
 refine ⟨.ref s.heap.objs.size,_,I.laid (t':=s.toks) (o:=.lst (cutV xs lo hi)) (fun b ob q=>aJ _ q) (aq _) ?_,rfl,q _ (I.hok.fresh (aq _))⟩
 exact ⟨aR (sX xs lo hi) hz,_,0,(r.drop (HT.sIx xs.length 0 lo)).take (HT.sIx xs.length xs.length hi - HT.sIx xs.length 0 lo),bp _ rfl⟩
def dL:V->Bool
 | .non=>true
 | .bl _=>true
 | .int _=>true
 | .str _=>true
 | _=>false
def eqV:V->V->Bool
 | .non,.non=>true
 | .bl a,.bl b=>a == b
 | .bl a,.int b=>(if a then 1 else 0) == b
 | .int a,.bl b=>a == (if b then 1 else 0)
 | .int a,.int b=>a == b
 | .str a,.str b=>a == b
 | _,_=>false
theorem eqAt_V {A:Around} {s:Shared} {y x:V} {u v:Value} (ry:RelV y u) (rx:RelV x v) (fy:dL y=true) (fx:dL x=true):SeqAt.EqAt A s u v (eqV y x):=by
 cases y with
 | non =>
  cases ry
  cases x with
  | non=>cases rx;exact SeqAt.EqAt.same _
  | bl b=>cases rx;exact SeqAt.EqAt.none_bool b
  | int b=>obtain ⟨t,rfl⟩:=rx;exact vQ b t
  | str b=>obtain ⟨t,rfl⟩:=rx;exact vR b t
  | _=>exact absurd (show false=true from fx) bo
 | bl a =>
  cases ry
  cases x with
  | non=>cases rx;exact SeqAt.EqAt.bool_none a
  | bl b=>cases rx;exact SeqAt.EqAt.bool_bool a b
  | int b=>obtain ⟨t,rfl⟩:=rx;exact SeqAt.EqAt.bool_int a b t
  | str b=>obtain ⟨t,rfl⟩:=rx;exact SeqAt.EqAt.bool_str a b t
  | _=>exact absurd (show false=true from fx) bo
 | int a =>
  obtain ⟨t',rfl⟩:=ry
  cases x with
  | non=>cases rx;exact vS a t'
  | bl b=>cases rx;exact SeqAt.EqAt.int_bool a t' b
  | int b=>obtain ⟨t,rfl⟩:=rx;exact qU a t' b t
  | str b=>obtain ⟨t,rfl⟩:=rx;exact qR a t' b t
  | _=>exact absurd (show false=true from fx) bo
 | str a =>
  obtain ⟨t',rfl⟩:=ry
  cases x with
  | non=>cases rx;exact vT a t'
  | bl b=>cases rx;exact SeqAt.EqAt.str_bool a t' b
  | int b=>obtain ⟨t,rfl⟩:=rx;exact qS a t' b t
  | str b=>obtain ⟨t,rfl⟩:=rx;exact qV a t' b t
  | _=>exact absurd (show false=true from fx) bo
 | _=>exact absurd (show false=true from fy) bo
def eqU (x:V) (u:Value):Bool:=match u with
 | .none=>eqV .non x
 | .bool b=>eqV (.bl b) x
 | .int i _=>eqV (.int i) x
 | .str z _=>eqV (.str z) x
 | _=>false
theorem tP {x y:V} {u:Value} (r:RelV y u) (f:dL y=true):eqU x u=eqV y x:=by
 cases y with
 | non=>cases r;rfl
 | bl b=>cases r;rfl
 | int i=>obtain ⟨t,rfl⟩:=r;rfl
 | str z=>obtain ⟨t,rfl⟩:=r;rfl
 | _=>exact absurd (show false=true from f) bo
theorem js {x : V} : ∀ {xs : List V} {us : List Value}, Vals xs us -> xs.all dL = true -> us.any (eqU x) = xs.any fun y => eqV y x
  | _, _, .nil, _ => rfl
  | y :: xs, u :: us, .cons r t, f => by
    rw[all_cons,fN] at f
    rw[fO, fO, tP r f.1, js t f.2]
theorem jk {A : Around} {s : Shared} {x : V} {v : Value} (rx : RelV x v) (fx : dL x = true) : ∀ {xs : List V} {us : List Value}, Vals xs us -> xs.all dL = true -> ∀ u ∈ us, SeqAt.EqAt A s u v (eqU x u)
  | _, _, .nil, _ => fun u hu => by cases hu
  | y :: xs, u :: us, .cons r t, f => fun u' hu => by
    rw[all_cons,fN] at f
    rcases aG.mp hu with rfl|hu
    . rw[tP r f.1]; exact eqAt_V r rx f.1 fx
    . exact jk rx fx t f.2 u' hu
def inV (x:V) (xs:List V):Bool:=xs.any fun y=>eqV y x
def rIn (K:W.Frag) (neg:Bool):R2:=fun x y H Q=>∃ p xs,y=.ref p/\(SqL K H p xs\/SqT K H p xs)/\dL x=true/\xs.all dL=true/\Q (.bl (if neg then !inV x xs else inV x xs)) H
theorem Zk3:OpR X (compareOp .In) (rIn X.K false):=by
 intro pins s Z H x y v u Q I rx ry h
 obtain ⟨p,xs,rfl,hq,fx,fs,q⟩:=h
 cases ry
 rcases hq with hq|hq
 .obtain ⟨its,r,pl,hz⟩:=I.list hq
  refine SeqAt.in_listAt (eqU x) pl.isList (fun w hw=>jk rx fx r fs w (by simpa using hw)) ⟨.bl _,H,I,rfl,?_⟩
  rw[show its.toArray.any (eqU x)=its.any (eqU x) by simp,js r fs]
  exact q
 .obtain ⟨its,r,pl,hz⟩:=I.tuple hq
  refine SeqAt.in_tupleAt (eqU x) pl (fun w hw=>jk rx fx r fs w (by simpa using hw)) ⟨.bl _,H,I,rfl,?_⟩
  rw[show its.toArray.any (eqU x)=its.any (eqU x) by simp,js r fs]
  exact q
theorem Zhl:OpR X (compareOp .NotIn) (rIn X.K true):=by
 intro pins s Z H x y v u Q I rx ry h
 obtain ⟨p,xs,rfl,hq,fx,fs,q⟩:=h
 cases ry
 rcases hq with hq|hq
 .obtain ⟨its,r,pl,hz⟩:=I.list hq
  refine SeqAt.notIn_listAt (eqU x) pl.isList (fun w hw=>jk rx fx r fs w (by simpa using hw)) ⟨.bl _,H,I,rfl,?_⟩
  rw[show its.toArray.any (eqU x)=its.any (eqU x) by simp,js r fs]
  exact q
 .obtain ⟨its,r,pl,hz⟩:=I.tuple hq
  refine SeqAt.notIn_tupleAt (eqU x) pl (fun w hw=>jk rx fx r fs w (by simpa using hw)) ⟨.bl _,H,I,rfl,?_⟩
  rw[show its.toArray.any (eqU x)=its.any (eqU x) by simp,js r fs]
  exact q
theorem ZhC:bA X (.type "list") (fun xs H Q=>∃ p ys,xs=[.ref p]/\(SqL X.K H p ys\/SqT X.K H p ys)/\∀ l,H l=none->Q (.ref l) (upd H l (.lst ys))):=by
 intro pins s Z H xs us Q I r h
 obtain ⟨p,ys,rfl,hq,q⟩:=h
 obtain ⟨u,rfl,rx⟩:=vals1 r
 cases rx
 have fin:∀ (its:List Value),Vals ys its->ys.length<=sizeLine->∀ (h':Heap) (c':Nat),(∀ b o',s.heap.get? b=some o'->h'.get? b=some o') ->
   h'.get? s.heap.objs.size=some { cls:=.type "list",dict:=none,data:=.seq its.toArray c',slots:=#[] }->EP X pins Z Q (.ref s.heap.objs.size) { s with heap:=h' }:=fun its r' hz h' c' kp e =>
  ⟨.ref s.heap.objs.size,_,I.laid (t':=s.toks) kp (aq _) (show ObjOk X.prog X.w _ h' _ (.lst ys) from ⟨hz,its,c',r',e⟩),rfl,q _ (I.hok.fresh (aq _))⟩
 rcases hq with hq|hq
 .obtain ⟨its,r',pl,hz⟩:=I.list hq
  have hlen:=r'.length
  obtain ⟨o,ho,hc,n,hd⟩:=pl.isList
  exact call_list_seq p (.inl rfl) ho hc hd (fun h' c' kp e=>fin its r' hz h' c' kp e) (by simp only[bj] <;> lia)
 .obtain ⟨its,r',pl,hz⟩:=I.tuple hq
  have hlen:=r'.length
  obtain ⟨o,ho,hc,n,hd⟩:=pl
  exact call_list_seq p (.inr rfl) ho hc hd (fun h' c' kp e=>fin its r' hz h' c' kp e) (by simp only[bj] <;> lia)
theorem ZgN:bA X (.type "tuple") (fun xs H Q=>∃ p ys,xs=[.ref p]/\((SqL X.K H p ys/\∀ l,H l=none->Q (.ref l) (upd H l (.tup ys)))\/(SqT X.K H p ys/\Q (.ref p) H))):=by
 intro pins s Z H xs us Q I r h
 obtain ⟨p,ys,rfl,h⟩:=h
 obtain ⟨u,rfl,rx⟩:=vals1 r
 cases rx
 rcases h with ⟨hq,q⟩|⟨hq,q⟩
 .obtain ⟨its,r',pl,hz⟩:=I.list hq
  have hlen:=r'.length
  refine call_tuple_list pl.isList (fun h' kp=>?_) (by simp only[bj] <;> lia)
  have I1:Inv X pins Z H { s with heap:=h' }:=I.kept (t':=s.toks) kp
  have I2:Inv X pins Z (upd H h'.objs.size (.tup ys)) { s with heap:=h'.push { cls:=.type "tuple",data:=.seq its.toArray } } :=
   I1.laid (t':=s.toks) (fun b o e=>aJ _ e) (aq _) (show ObjOk X.prog X.w _ _ _ (.tup ys) from ⟨hz,its,r',IsTup.new _ _⟩)
  exact ⟨.ref h'.objs.size,_,I2,rfl,q _ (I1.hok.fresh (aq _))⟩
 .obtain ⟨its,r',pl,hz⟩:=I.tuple hq
  exact call_tuple_same pl ⟨.ref p,H,I,rfl,q⟩
def tyV (K:W.Frag) (T:String) (x:V) (H:Hp):Prop:=match x with
 | .str _=>T="str"
 | .int _=>T="int"
 | .ref p=>(T="list"/\∃ xs,SqL K H p xs)\/(T="tuple"/\∃ o,K.lookup p=some o/\o.cls=.type "tuple"/\o.dict=none) \/
   (T="dict"/\((∃ kvs,H p=some (.dK kvs))\/∃ kvs,H p=some (.dT kvs)))\/(T="set"/\∃ S n,H p=some (.set S n))
 | _=>False
theorem sD {pins:List (Addr×Obj)} {Z:St} {H:Hp} {s:Shared} {T:String} {x:V} {v:Value} (I:Inv X pins Z H s) (r:RelV x v) (ty:tyV X.K T x H) :
  s.TypeIs v T/\∀ a,v=.ref a->∃ ob,s.heap.get? a=some ob/\ob.dict=none:=by
 cases x with
 | str z =>
  obtain ⟨t,rfl⟩:=r
  cases (show T="str" from ty)
  exact ⟨typeIs_str s z t,fun j e=>nomatch e⟩
 | int i =>
  obtain ⟨t,rfl⟩:=r
  cases (show T="int" from ty)
  exact ⟨typeIs_int s i t,fun j e=>nomatch e⟩
 | ref p =>
  cases r
  rcases ty with ⟨rfl,xs,hq⟩|⟨rfl,o,hk,hc,hd⟩|⟨rfl,hk⟩|⟨rfl,S,n,hk⟩
  .obtain ⟨its,j,pl,j⟩:=I.list hq
   refine ⟨pl.isList.typeIs,fun a e=>?_⟩
   cases e
   obtain ⟨o,n,e,c,hd,j⟩:=pl
   exact ⟨o,e,hd⟩
  .refine ⟨⟨o,I.kIn p o hk,hc⟩,fun a e=>?_⟩
   cases e
   exact ⟨o,I.kIn _ o hk,hd⟩
  .have z:∃ o,s.heap.get? p=some o/\o.ExactDict:=by
    rcases hk with ⟨kvs,hk⟩|⟨kvs,hk⟩
    .obtain ⟨j,j,j,j,o,j,j,e,ex,j⟩:=I.hok p _ hk
     exact ⟨o,e,ex⟩
    .obtain ⟨j,j,j,j,o,j,j,e,ex,j⟩:=I.hok p _ hk
     exact ⟨o,e,ex⟩
   obtain ⟨o,e,ex⟩:=z
   refine ⟨⟨o,e,ex.1⟩,fun a e2=>?_⟩
   cases e2
   exact ⟨o,e,ex.2.1⟩
  .obtain ⟨o,j,j,j,e,ex,j⟩:=I.hok p _ hk
   refine ⟨⟨o,e,ex.1⟩,fun a e2=>?_⟩
   cases e2
   exact ⟨o,e,ex.2.1⟩
 | _=>exact False.elim ty
def tBM0 (K:W.Frag) (T:String) (r:V->List V->Hp->VK->Prop) (to:TE):TE:=fun Z H Q=>to Z H fun x H1=>tyV K T x H1/\r x [] H1 Q
def tBM (K:W.Frag) (T:String) (r:V->List V->Hp->VK->Prop) (to:TE) (t:TA):TE:=fun Z H Q=>to Z H fun x H1=>tyV K T x H1/\t Z H1 fun xs H2=>r x xs H2 Q
variable {o e:Expr} {es:List Expr} {to:TE} {t:TA} {name:Str} {apos cpos:Pos} {T id:String} {r:V->List V->Hp->VK->Prop}
theorem pe_bm0 (pa:PlainAttrs T) (slot:Slot T name id) (hty:typeOf (.builtin id)=pure (.type "method_descriptor")) (hm:MtR X id r) (ho:PE X o to)
  (hbase:attributeBase o name X.env (eval o X.env)=eval o X.env:=by rfl) (hline:(apos.endLine == cpos.line)=true:=by rfl):PE X (.Call (.Attribute o name apos) [] [] cpos) (tBM0 X.K T r to):=by
 intro pins s Z H Q I h
 refine wpAny_Call_method0_late hbase hline (thn (ho pins s Z H _ I h) fun v s1 ⟨x,H1,I1,r1,ty,q1⟩=>?_)
 obtain ⟨h1,h2⟩:=sD I1 r1 ty
 exact ⟨T,id,pa,slot,hty,h1,h2,iE rfl (PySem.evalArgs_none (hm pins s1 Z H1 x [] v [] Q I1 r1 .nil q1))⟩
theorem pe_bm (pa:PlainAttrs T) (slot:Slot T name id) (hty:typeOf (.builtin id)=pure (.type "method_descriptor")) (hm:MtR X id r) (ho:PE X o to) (ha:PA X (e::es) t)
  (hbase:attributeBase o name X.env (eval o X.env)=eval o X.env:=by rfl)
  (hfew:((backTo cpos (starEach (e::es) X.env)).all (fun x=>!x.1) && (backToKw cpos (keywordEach [] X.env)).all (fun x=>x.1.isSome)
   && decide ((e::es).length+([]:List Keyword).length+(if ([]:List Keyword).isEmpty then 0 else 1) < 30))=true:=by rfl)
  (hline:(apos.endLine == cpos.line)=true:=by rfl) (hs:starEach (e::es) X.env=(false,eval e X.env)::starEach es X.env:=by rfl) (hplain:(backTo cpos (starEach es X.env)).any (·.1)=false:=by rfl) :
  PE X (.Call (.Attribute o name apos) (e::es) [] cpos) (tBM X.K T r to t):=by
 intro pins s Z H Q I h
 refine wpAny_Call_method_late hbase hfew hline rfl (thn (ho pins s Z H _ I h) fun v s1 z0_=>?_)
 obtain ⟨x,H1,I1,r1,ty,q1⟩:=z0_
 obtain ⟨h1,h2⟩:=sD I1 r1 ty
 refine ⟨T,id,pa,slot,hty,h1,h2,?_⟩
 have hA:=ha cpos pins s1 Z H1 _ I1 q1
 rw[hs] at hA ⊢
 refine iE (by show (false || (backTo cpos (starEach es X.env)).any (·.1))=false;rw[hplain] <;> rfl) (jX ?_)
 exact thn hA fun us s2 z1_=>by obtain ⟨vs,H2,I2,r2,q2⟩:=z1_;exact hm pins s2 Z H2 x vs v us Q I2 r1 r2 q2
/- xs.append(e),list.index on a module's tuple .. are MtR facts of 06m -/
end
end L2
namespace L2
open PySem PySem.Spec PyProof.Rows
def MtM (X:Cx) (id:String) (r:V->List V->Hp->VK->Prop):Prop :=
 ∀ (pins:List (Addr×Obj)) (s:Shared) (Z:St) (H:Hp) (x:V) (xs:List V) (v:Value) (us:List Value) (Q:VK),Inv X pins Z H s->RelV x v->Vals xs us->r x xs H Q ->
  wpAny (model X.prog X.w) X.A (call (.builtin id) (v::us)) (EP X pins Z Q) X.xe s
theorem Vals.consI {x:V} {xs:List V} {us:List Value} (h:Vals (x::xs) us):∃ u ws,us=u::ws/\RelV x u/\Vals xs ws:=by
 cases h with
 | cons r t=>exact ⟨_,_,rfl,r,t⟩
theorem Vals.nilI {us:List Value} (h:Vals [] us):us=[]:=by
 cases h
 rfl
theorem Vals.one {x:V} {us:List Value} (h:Vals [x] us):∃ u,us=[u]/\RelV x u:=by
 obtain ⟨u,ws,rfl,r,t⟩:=h.consI
 exact ⟨u,by rw[t.nilI],r⟩
theorem Vals.two {x y:V} {us:List Value} (h:Vals [x,y] us):∃ u v,us=[u,v]/\RelV x u/\RelV y v:=by
 obtain ⟨u,ws,rfl,r,t⟩:=h.consI
 obtain ⟨v,e,q⟩:=t.one
 exact ⟨u,v,by rw[e],r,q⟩
theorem Vals.eraseIdx:∀ {xs:List V} {us:List Value} (i:Nat),Vals xs us->Vals (xs.eraseIdx i) (us.eraseIdx i)
 | _,_,_,.nil=>.nil
 | _,_,0,.cons _ t=>t
 | _,_,i+1,.cons r t=>.cons r (Vals.eraseIdx i t)
theorem Vals.rep {xs : List V} {us : List Value} (h : Vals xs us) : ∀ k : Nat, Vals (List.replicate k xs).flatten (List.replicate k us).flatten
  | 0 => .nil
  | k + 1 => by
    rw[gY,gY,jY,jY]
    exact Vals.append h (Vals.rep h k)
theorem tf {α:Type}:∀ (l:List α) (i:Nat),(l.eraseIdx i).length<=l.length
 | [],_=>aq _
 | _::_,0=>du _
 | _::r,i+1=>Nat.succ_le_succ (tf r i)
theorem foldl_rep (its : List Value) : ∀ (k : Nat) (acc : List Value),
    List.foldl (fun x1 x2=>x1++x2) acc.toArray (List.replicate k its.toArray)=(acc++(List.replicate k its).flatten).toArray
  | 0, acc => by simp
  | k + 1, acc => by
    have e:acc.toArray++its.toArray=(acc++its).toArray:=by simp
    have e2 : (acc ++ its) ++ (List.replicate k its).flatten = acc ++ (List.replicate (k + 1) its).flatten := by
      rw[gY,jY,fP]
    rw[<- e2, <- foldl_rep its k (acc ++ its), <- e, gY, dR]
section
variable {X:Cx} {pins:List (Addr×Obj)} {Z:St} {H:Hp} {s:Shared} {l b:Addr} {xs ys zs:List V}
theorem Inv.lset {its its':List Value} {n:Nat} {f:Array Value->Array Value} {t':Nat} (I:Inv X pins Z H s) (hH:H l=some (.lst xs))
  (e:s.heap.get? l=some { cls:=.type "list",data:=.seq its.toArray n }) (hf:f its.toArray=its'.toArray) (hv:Vals ys its') (hz:ys.length<=sizeLine) :
  Inv X pins Z (upd H l (.lst ys)) { s with heap:=s.heap.update l (Obj.mapSeq f),toks:=t' }:=by
 have q:=PySem.IsL.update e f
 rw[hf] at q
 refine I.write (x:=l) (e:=l) (by rw[hH];exact trivial) (.inl rfl) (fun b' u hb hu=>(iD s.heap (Obj.mapSeq f) (Ne.symm hb)).trans hu) ⟨_,q⟩ ?_
 exact ⟨hz,its',_,hv,q⟩
theorem Inv.lnew {its:List Value} {t':Nat} (I:Inv X pins Z H s) (hv:Vals ys its) (hz:ys.length<=sizeLine) :
  Inv X pins Z (upd H s.heap.objs.size (.lst ys)) { s with heap:=s.heap.push { cls:=.type "list",data:=.seq its.toArray },toks:=t' } :=
 I.laid (fun j j q=>aJ _ q) (aq _) ⟨hz,its,0,hv,bp _ rfl⟩
theorem Inv.fresh (I:Inv X pins Z H s):H s.heap.objs.size=none:=I.hok.fresh (aq _)
theorem Inv.lstM (I:Inv X pins Z H s) (hH:H l=some (.lst xs)):xs.length<=sizeLine/\∃ (its:List Value) (n:Nat),Vals xs its/\xs.length=its.length/\s.heap.get? l=some { cls:=.type "list",data:=.seq its.toArray n }:=by
 obtain ⟨z,its,n,r,e⟩:=I.hok l _ hH
 exact ⟨z,its,n,r,r.length,e⟩
theorem rZ {n:Nat} (h:n<=sizeLine):Builtin.List.listTooLong n=false:=by
 unfold Builtin.List.listTooLong
 exact aL (by lia)
end
section
variable {X:Cx}
def qv:V->List V->Hp->VK->Prop:=fun x vs H Q=>∃ l xs y,x=.ref l/\vs=[y]/\H l=some (.lst xs)/\xs.length < sizeLine/\Q .non (upd H l (.lst (xs++[y])))
theorem eM:MtM X "list.append" qv:=by
 intro pins s Z H x vs v us Q I rx rv h
 obtain ⟨l,xs,y,rfl,rfl,hH,hz,q⟩:=h
 cases rx
 obtain ⟨u,rfl,ru⟩:=rv.one
 obtain ⟨z,its,n,r,hl,e⟩:=I.lstM hH
 refine gZ F.slot_list_append ⟨_,e,rfl⟩ F.entry_list_append (F.args_list_append_2 _ _) (PySem.list_append l its.toArray n u (by rw[bj];lia)) ⟨e,?_⟩
 refine ⟨.non,_,I.lset (its':=its++[u]) hH e (by simp) (r.append (.cons ru .nil)) ?_,rfl,q⟩
 rw[aA,fc]
 lia
def tT:V->List V->Hp->VK->Prop:=fun x vs H Q=>∃ l b xs zs,x=.ref l/\vs=[.ref b]/\H l=some (.lst xs)/\H b=some (.lst zs)/\xs.length+zs.length<=sizeLine/\Q .non (upd H l (.lst (xs++zs)))
theorem Zk7:MtM X "list.extend" tT:=by
 intro pins s Z H x vs v us Q I rx rv h
 obtain ⟨l,b,xs,zs,rfl,rfl,hH,hB,hz,q⟩:=h
 cases rx
 obtain ⟨u,rfl,ru⟩:=rv.one
 cases ru
 obtain ⟨z,its,n,r,hl,e⟩:=I.lstM hH
 obtain ⟨z2,its2,n2,r2,hl2,e2⟩:=I.lstM hB
 have hsz:its.toArray.size+its2.toArray.size<=sizeLine:=by rw[bj,bj];lia
 have hlong:¬ (!its.toArray.isEmpty && Builtin.List.listTooLong (its.toArray.size+its2.toArray.size))=true:=by
  rw[rZ hsz,Bool.and_false]
  exact bo
 refine gZ F.slot_list_extend ⟨_,e,rfl⟩ F.entry_list_extend (F.args_list_extend_2 _ _)
  (AutoSeq1.list_extend_list_list_0 l its.toArray n b its2.toArray n2 hlong (by rw[bj];lia) (by lia)) ⟨e,e2,?_⟩
 refine ⟨.non,_,I.lset (its':=its++its2) hH e (by simp) (r.append r2) ?_,rfl,q⟩
 rw[aA]
 lia
def t5:V->List V->Hp->VK->Prop:=fun x vs H Q=>∃ l xs i k y,x=.ref l/\vs=[.int i]/\H l=some (.lst xs)/\-(2 ^ 63)<=i/\i < 2 ^ 63/\seqIndex? i xs.length=some k/\xs[k]?=some y/\Q y (upd H l (.lst (xs.eraseIdx k)))
theorem ZmU:MtM X "list.pop" t5:=by
 intro pins s Z H x vs v us Q I rx rv h
 obtain ⟨l,xs,i,k,y,rfl,rfl,hH,h1,h2,hk,hy,q⟩:=h
 cases rx
 obtain ⟨u,rfl,ru⟩:=rv.one
 obtain ⟨t,rfl⟩:=ru
 obtain ⟨z,its,n,r,hl,e⟩:=I.lstM hH
 obtain ⟨w,hw,rw'⟩:=r.get hy
 refine gZ F.slot_list_pop ⟨_,e,rfl⟩ F.entry_list_pop (F.args_list_pop_2 _ _)
  (MeetsSeq.list_pop_at l its.toArray n i t k w (fitsIndex_both h1 h2) (by rw[bj,<- hl];exact hk) (by rw[<-Array.getElem?_toList];exact hw) (by rw[bj];lia)) ⟨e,?_⟩
 refine ⟨y,_,I.lset (its':=its.eraseIdx k) hH e ?_ (r.eraseIdx k) ?_,rw',q⟩
 .show its.toArray.eraseIdxIfInBounds k=(its.eraseIdx k).toArray
  rw[eraseIdxIfInBounds_toArray]
 .have:=tf xs k
  lia
def rCat:R2:=fun x y H Q=>∃ l b xs zs,x=.ref l/\y=.ref b/\H l=some (.lst xs)/\H b=some (.lst zs)/\xs.length+zs.length<=sizeLine/\∀ p,H p=none->Q (.ref p) (upd H p (.lst (xs++zs)))
theorem fg:OpR X (binaryOp .Add) rCat:=by
 intro pins s Z H x y v u Q I rx ry h
 obtain ⟨l,b,xs,zs,rfl,rfl,hH,hB,hz,q⟩:=h
 cases rx
 cases ry
 obtain ⟨z,its,n,r,hl,e⟩:=I.lstM hH
 obtain ⟨z2,its2,n2,r2,hl2,e2⟩:=I.lstM hB
 refine PySem.P.add_list e e2 ?_ (by rw[bj,bj];lia)
 have ea:its.toArray++its2.toArray=(its++its2).toArray:=by simp
 rw[ea]
 exact ⟨.ref _,_,I.lnew (t':=s.toks) (r.append r2) (by rw[aA];lia),rfl,q _ I.fresh⟩
def rRep:R2:=fun x y H Q=>∃ l k xs,x=.ref l/\y=.int k/\H l=some (.lst xs)/\-(2 ^ 63)<=k/\k < 2 ^ 63/\xs.length * k.toNat<=sizeLine /\
 ∀ p,H p=none->Q (.ref p) (upd H p (.lst (List.replicate k.toNat xs).flatten))
theorem Zo8 {α:Type} (xs:List α) (k:Nat):(List.replicate k xs).flatten.length=k * xs.length:=by
 induction k with
 | zero=>simp
 | succ k ih=>rw[gY,jY,aA,ih,Nat.succ_mul,jZ]
theorem op_rep:OpR X (binaryOp .Mult) rRep:=by
 intro pins s Z H x y v u Q I rx ry h
 obtain ⟨l,k,xs,rfl,rfl,hH,h1,h2,hz,q⟩:=h
 cases rx
 obtain ⟨t,rfl⟩:=ry
 obtain ⟨z,its,n,r,hl,e⟩:=I.lstM hH
 have hlen:its.toArray.size * k.toNat<=sizeLine:=by rw[bj,<- hl];exact hz
 have hcap:¬ its.toArray.size * k.toNat > (2 ^ 63 - 1) / 8:=by
  have:(sizeLine:Nat)<=(2 ^ 63 - 1) / 8:=by decide
  lia
 have hfit:¬ (!Builtin.List.listFitsIndex k)=true:=by
  rw[fitsIndex_both h1 h2]
  exact bo
 have hlong:¬ Builtin.List.listTooLong (its.toArray.size * k.toNat)=true:=by
  rw[rZ hlen]
  exact bo
 have hnew:List.foldl (fun x1 x2=>x1++x2) #[] (List.replicate (if its.toArray.isEmpty=true then 0 else k.toNat) its.toArray)=(List.replicate k.toNat its).flatten.toArray:=by
  have f0:∀ m:Nat,List.foldl (fun x1 x2=>x1++x2) #[] (List.replicate m its.toArray)=(List.replicate m its).flatten.toArray:=fun m=>by
   have:=foldl_rep its m []
   rw[iF] at this
   exact this
  rw[f0]
  cases its with
  | nil=>simp
  | cons a r'=>rw[ah (by simp)]
 refine wpAny_binaryOp_repeat_ref (T:="list") (U:="int") (by decide) ⟨_,e,rfl⟩ (fun s'=>typeIs_int s' k t) noFill_list_mul F.fills_int_mul F.slot_int_rmul repeat_list F.slot_int_index.lookup
  (gZ F.slot_int_rmul (typeIs_int s k t) F.entry_int_rmul (F.args_int_rmul_2 _ _) (int___rmul___int_list k t l its.toArray n)
   ⟨e,rfl,⟨_,e,rfl⟩,gZ F.slot_list_mul ⟨_,e,rfl⟩ F.entry_list_mul (F.args_list_mul_2 _ _) (AutoListH.list___mul___list_int_3 l its.toArray n k t hfit hcap hlong) ⟨e,?_⟩⟩)
 rw[hnew]
 exact ⟨.ref _,_,I.lnew (t':=s.toks) (r.rep k.toNat) (by rw[Zo8,Nat.mul_comm];exact hz),rfl,q _ I.fresh⟩
end
end L2
namespace L2
open PySem PySem.Spec PyProof.Rows
section
variable {κ:Type} [DecidableEq κ]
def valV (kvs:List (κ×V)) (k:κ):Option V:=(kvs.find? fun kv=>decide (kv.1=k)).map (·.2)
def putK (kvs:List (κ×V)) (k:κ) (v:V):List (κ×V) :=
 if (kvs.any fun kv=>decide (kv.1=k))=true then kvs.map (fun kv=>if kv.1=k then (kv.1,v) else kv) else kvs++[(k,v)]
theorem jo {p:κ×V} {r:List (κ×V)} {k:κ} (e:p.1=k):valV (p::r) k=some p.2:=by simp[valV,c9,e]
theorem iw {p:κ×V} {r:List (κ×V)} {k:κ} (e:¬ p.1=k):valV (p::r) k=valV r k:=by simp[valV,c9,e]
theorem nL (k : κ) : ∀ kvs : List (κ × V), (kvs.any fun kv => decide (kv.1 = k)) = (valV kvs k).isSome
  | [] => rfl
  | p :: r => by
    rw[fO]
    by_cases e:p.1=k
    . simp only[jo e, aU e, Bool.true_or, Option.isSome_some]
    . rw[iw e, aL e, Bool.false_or]; exact nL k r
theorem vo (kvs:List (κ×V)) (k:κ) (v:V):(putK kvs k v).length<=kvs.length+1:=by
 unfold putK
 split
 .rw[ai];lia
 .rw[aA,bz,fQ];lia
theorem ZmH {kvs:List (κ×V)} {k:κ} (v:V) (h:valV kvs k=none):putK kvs k v=kvs++[(k,v)]:=by
 unfold putK
 rw[nL,h]
 exact ah (by decide)
theorem RelO.isSome_eq {o:Option V} {u:Option Value} (r:RelO o u):o.isSome=u.isSome:=by
  cases o with
  | none => cases u with
    | none => rfl
    | some _ => exact (show False from r).elim
  | some _ => cases u with
    | none => exact (show False from r).elim
    | some _ => rfl
theorem RelO.getD {o:Option V} {u:Option Value} {d:V} {d':Value} (r:RelO o u) (rd:RelV d d'):RelV (o.getD d) (u.getD d'):=by
  cases o with
  | none => cases u with
    | none => exact rd
    | some _ => exact (show False from r).elim
  | some _ => cases u with
    | none => exact (show False from r).elim
    | some _ => exact r
theorem KV.val {kvs:List (κ×V)} {vs:List (κ×Value)} (r:KV kvs vs) (k:κ):RelO (valV kvs k) (valueAt vs k):=by
 unfold KV at r
 induction r with
 | nil=>exact True.intro
 | @cons p q ps qs h t ih =>
  obtain ⟨h1,h2⟩:=h
  by_cases e:p.1=k
  .have e':q.1=k:=h1.symm.trans e
   have b:valueAt (q::qs) k=some q.2:=by simp[valueAt,c9,e']
   rw[jo e,b];exact h2
  .have e':¬ q.1=k:=fun z=>e (h1.trans z)
   have b:valueAt (q::qs) k=valueAt qs k:=by simp[valueAt,c9,e']
   rw[iw e,b];exact ih
theorem KV.any {kvs:List (κ×V)} {vs:List (κ×Value)} (r:KV kvs vs) (k:κ):(kvs.any fun kv=>decide (kv.1=k))=vs.any fun kv=>decide (kv.1=k):=by
 unfold KV at r
 induction r with
 | nil=>rfl
 | cons h t ih=>rw[fO,fO,ih,h.1]
theorem KV.repl {kvs:List (κ×V)} {vs:List (κ×Value)} (r:KV kvs vs) (k:κ) {y:V} {u:Value} (ry:RelV y u) :
  KV (kvs.map fun kv=>if kv.1=k then (kv.1,y) else kv) (vs.map fun kv=>if kv.1=k then (kv.1,u) else kv):=by
 unfold KV at r ⊢
 induction r with
 | nil=>exact .nil
 | @cons p q ps qs h t ih =>
  rw[aF,aF]
  refine .cons ?_ ih
  obtain ⟨h1,h2⟩:=h
  by_cases e:p.1=k
  .rw[ag e,ag (h1.symm.trans e)];exact ⟨h1,ry⟩
  .rw[ah e,ah (fun z=>e (h1.trans z))];exact ⟨h1,h2⟩
theorem KV.put {kvs:List (κ×V)} {vs:List (κ×Value)} (r:KV kvs vs) (k:κ) {y:V} {u:Value} (ry:RelV y u):KV (putK kvs k y) (stored vs k u):=by
 unfold putK stored
 rw[r.any k]
 by_cases e:(vs.any fun kv=>decide (kv.1=k))=true
 .rw[ag e,ag e];exact r.repl k ry
 .rw[ah e,ah e];exact Paired.snoc r ⟨rfl,ry⟩
theorem KV.length {kvs:List (κ×V)} {vs:List (κ×Value)} (r:KV kvs vs):kvs.length=vs.length:=Paired.length r
end
theorem jq {P:Program} {w:World} {k:Key} {u:Value} (r:RelV (kV k) u):(bC P w).is k u=true:=by
 cases k with
 | inl i=>obtain ⟨t,e⟩:=(show ∃ t,u=Value.int i t from r);subst e;exact Zic P w i t
 | inr x=>obtain ⟨t,e⟩:=(show ∃ t,u=Value.str x t from r);subst e;exact qH P w x t
theorem sY {P : Program} {w : World} : ∀ {ks : List Key} {us : List Value}, Vals (ks.map kV) us -> ItemsAre (bC P w) ks us
  | [], _, r => by rw[cQ] at r; cases r; exact .nil
  | k :: ks, _, r => by
    rw[aF] at r
    cases r with
    | cons h t => exact .cons (jq h) (sY t)
abbrev KT (H:Hp):List (List Key×V)->List (List Key×Addr×Value)->Prop:=Paired fun p q=>p.1=q.1/\H q.2.1=some (.tup (p.1.map kV))/\RelV p.2 q.2.2
theorem KT.val {H:Hp} {kvs:List (List Key×V)} {xs:List (List Key×Addr×Value)} (r:KT H kvs xs) (k:List Key):RelO (valV kvs k) ((atKey xs k).map (·.2)):=by
 induction r with
 | nil=>exact True.intro
 | @cons p q ps qs h t ih =>
  obtain ⟨h1,j,h2⟩:=h
  by_cases e:p.1=k
  .have e':q.1=k:=h1.symm.trans e
   have b:atKey (q::qs) k=some q.2:=by simp[atKey,c9,e']
   rw[jo e,b];exact h2
  .have e':¬ q.1=k:=fun z=>e (h1.trans z)
   have b:atKey (q::qs) k=atKey qs k:=by simp[atKey,c9,e']
   rw[iw e,b];exact ih
theorem KT.repl {H:Hp} {kvs:List (List Key×V)} {xs:List (List Key×Addr×Value)} (r:KT H kvs xs) (k:List Key) {y:V} {u:Value} (ry:RelV y u) :
  KT H (kvs.map fun kv=>if kv.1=k then (kv.1,y) else kv) (xs.map (putAt k u)):=by
 induction r with
 | nil=>exact .nil
 | @cons p q ps qs h t ih =>
  rw[aF,aF]
  refine .cons ?_ ih
  obtain ⟨h1,h2,h3⟩:=h
  unfold putAt
  by_cases e:p.1=k
  .rw[ag e,ag (h1.symm.trans e)];exact ⟨h1,h2,ry⟩
  .rw[ah e,ah (fun z=>e (h1.trans z))];exact ⟨h1,h2,h3⟩
theorem KT.put {H:Hp} {kvs:List (List Key×V)} {xs:List (List Key×Addr×Value)} (r:KT H kvs xs) (k:List Key) {b:Addr} {y:V} {u:Value} (hb:H b=some (.tup (k.map kV))) (ry:RelV y u) :
  KT H (putK kvs k y) (storedH xs k b u):=by
 have e:(kvs.any fun kv=>decide (kv.1=k))=(atKey xs k).isSome:=by
  rw[nL,(r.val k).isSome_eq,Option.isSome_map]
 unfold putK storedH
 rw[e]
 by_cases q:(atKey xs k).isSome=true
 .rw[ag q,ag q];exact r.repl k ry
 .rw[ah q,ah q];exact Paired.snoc r ⟨rfl,hb,ry⟩
theorem KT.keeps {H H':Hp} {kvs:List (List Key×V)} {xs:List (List Key×Addr×Value)} (r:KT H kvs xs) (ht:∀ b ys,H b=some (.tup ys)->H' b=some (.tup ys)):KT H' kvs xs :=
 Paired.mapP r fun j j z=>⟨z.1,ht _ _ z.2.1,z.2.2⟩
section
variable {P:Program} {w:World} {H:Hp} {h:Heap} {a:Addr}
theorem rd_of {u:HO} (ok:HOk P w H h) (e:Rd H a u):ObjOk P w H h a u:=e.ok ok
theorem jE {kvs:List (Key×V)} (ok:HOk P w H h) (e:Rd H a (.dK kvs)):kvs.length<=sizeLine/\(a == sysModules)=false/\∃ vs,KV kvs vs/\h.DictOf (bC P w) a vs :=
 show ObjOk P w H h a (.dK kvs) from rd_of ok e
theorem dk_of {kvs:List (Key×V)} (ok:HOk P w H h) (e:H a=some (.dK kvs)):kvs.length<=sizeLine/\(a == sysModules)=false/\∃ vs,KV kvs vs/\h.DictOf (bC P w) a vs:=jE ok (.inl e)
theorem jO {ks:List Key} (ok:HOk P w H h) (e:H a=some (.tup (ks.map kV))):(tupleKind (bC P w)).is h ks a:=by
 obtain ⟨j,its,r,o,h1,h2,n,h3⟩:=(show ObjOk P w H h a (.tup (ks.map kV)) from ok a _ e)
 exact ⟨o,its.toArray,n,h1,h2,h3,by simpa using sY r⟩
theorem i7 {kvs:List (List Key×V)} (ok:HOk P w H h) (e:Rd H a (.dT kvs)):kvs.length<=sizeLine/\(a == sysModules)=false /\
  ∃ xs,KT H kvs xs/\h.DictOfH (tupleKind (bC P w)) a xs:=by
 obtain ⟨z,y,xs,r,o,es,ep,h1,h2,h3,h4,h5⟩:=(show ObjOk P w H h a (.dT kvs) from rd_of ok e)
 refine ⟨z,y,xs,r,o,es,ep,h1,h2,h3,h4,fun x hx=>?_,h5⟩
 have all:∀ {l:List (List Key×V)} {m:List (List Key×Addr×Value)},KT H l m->∀ x∈m,(tupleKind (bC P w)).is h x.1 x.2.1:=by
  intro l m q
  induction q with
  | nil=>intro x hx;exact nomatch hx
  | @cons p q ps qs hq t ih =>
   intro x hx
   rcases aG.mp hx with e|hx
   .subst e
    exact jO ok (by rw[<-hq.1];exact hq.2.1)
   .exact ih x hx
 exact all r x hx
theorem dt_of {kvs:List (List Key×V)} (ok:HOk P w H h) (e:H a=some (.dT kvs)):kvs.length<=sizeLine/\(a == sysModules)=false /\
  ∃ xs,KT H kvs xs/\h.DictOfH (tupleKind (bC P w)) a xs:=i7 ok (.inl e)
end
def DGet (H:Hp) (a:Addr) (y:V) (r:Option V):Prop :=
 (∃ kvs k,Rd H a (.dK kvs)/\y=kV k/\r=valV kvs k)\/∃ kvs k b,Rd H a (.dT kvs)/\y=.ref b/\H b=some (.tup (k.map kV))/\r=valV kvs k
def DPut (H:Hp) (a:Addr) (y v:V) (H':Hp):Prop :=
 (∃ kvs k,H a=some (.dK kvs)/\y=kV k/\kvs.length < sizeLine/\H'=upd H a (.dK (putK kvs k v))) \/
 ∃ kvs k b,H a=some (.dT kvs)/\y=.ref b/\H b=some (.tup (k.map kV))/\kvs.length < sizeLine/\H'=upd H a (.dT (putK kvs k v))
theorem DGet.k {H:Hp} {a:Addr} {kvs:List (Key×V)} {k:Key} (e:H a=some (.dK kvs)):DGet H a (kV k) (valV kvs k):=.inl ⟨kvs,k,.inl e,rfl,rfl⟩
theorem DPut.k {H:Hp} {a:Addr} {kvs:List (Key×V)} {k:Key} {v:V} (e:H a=some (.dK kvs)) (hl:kvs.length < sizeLine):DPut H a (kV k) v (upd H a (.dK (putK kvs k v))):=.inl ⟨kvs,k,e,rfl,hl,rfl⟩
section
variable {X:Cx} {pins:List (Addr×Obj)} {Z:St} {H:Hp} {s:Shared} {a:Addr} {y v:V} {u r:Value} {o:Option V} {A:Around} {E:Value->Shared->Prop}
theorem Inv.big (I:Inv X pins Z H s):sysModules < s.heap.objs.size:=by
 have h:mainGlobals < s.heap.objs.size:=(I.mod.glob.keeps I.bk).lt
 exact iG (by decide) h
theorem ZlO {Q:Value->Shared->Prop} (hu:A.units+1 < cLine) (I:Inv X pins Z H s) (g:DGet H a y (some v)) (ry:RelV y u) (h:∀ w' s',Inv X pins Z H s'->RelV v w'->Q w' s') :
  wpAny (model X.prog X.w) A (getItem (.ref a) u) Q E s:=by
 rcases g with ⟨kvs,k,e,ey,l⟩|⟨kvs,k,b,e,ey,eb,l⟩
 .subst ey
  obtain ⟨z,hd,vs,rel,dd⟩:=jE I.hok e
  obtain ⟨w',hw,rw'⟩:=RelO.some_of (v:=v) (o:=valueAt vs k) (by rw[l];exact rel.val k)
  exact wpAny_getItem_of (jq ry) dd.mapOf hw (h w' _ (I.tok _) rw')
 .subst ey
  cases (show u=Value.ref b from ry)
  obtain ⟨z,hd,xs,rel,dd⟩:=i7 I.hok e
  obtain ⟨w',hw,rw'⟩:=RelO.some_of (v:=v) (o:=(atKey xs k).map (·.2)) (by rw[l];exact rel.val k)
  obtain ⟨p,hp,hp2⟩:=aH.mp hw
  refine wpAny_getItem_heap (qW hu) (jO I.hok eb) dd hp ?_
  rw[hp2]
  exact h w' _ (I.tok _) rw'
theorem oZ {h':Heap} {t':Nat} {ob:HO} (I:Inv X pins Z H s) (mu:Mut (H a)) (hs:Heap.SameBut a s.heap h') (he:∃ q,h'.get? a=some q) (new:ObjOk X.prog X.w (upd H a ob) h' a ob) :
  Inv X pins Z (upd H a ob) { s with heap:=h',toks:=t' } :=
 I.write (x:=a) (e:=a) mu (.inl rfl) (fun b q hb z=>(hs.2 b hb).trans z) he new
theorem dk_new {P:Program} {w:World} {H':Hp} {h':Heap} {kvs:List (Key×V)} {vs:List (Key×Value)} (z:kvs.length<=sizeLine) (hd:(a == sysModules)=false) (rel:KV kvs vs) (dd:h'.DictOf (bC P w) a vs) :
  ObjOk P w H' h' a (.dK kvs):=⟨z,hd,vs,rel,dd⟩
theorem ZlN {H':Hp} {Q:Unit->Shared->Prop} (hu:A.units+1 < cLine) (I:Inv X pins Z H s) (g:DPut H a y v H') (ry:RelV y u) (rv:RelV v r) (h:∀ s',Inv X pins Z H' s'->Q () s') :
  wpAny (model X.prog X.w) A (setItem (.ref a) u r) Q E s:=by
 rcases g with ⟨kvs,k,e,ey,l,eH⟩|⟨kvs,k,b,e,ey,eb,l,eH⟩
 .subst ey eH
  obtain ⟨z,hd,vs,rel,dd⟩:=dk_of I.hok e
  have hz:vs.length<=sizeLine:=by rw[<-rel.length];exact z
  have hl:(putK kvs k v).length<=sizeLine:=by have:=vo kvs k v;lia
  refine wpAny_setItem_pairs (hsz:=hz) (jq ry) dd fun h' dd' hs=>h _ ?_
  have he:∃ q,h'.get? a=some q:=let ⟨q,_,_,hq,_⟩:=dd';⟨q,hq⟩
  exact oZ I (by rw[e];exact True.intro) hs he (dk_new hl hd (rel.put k rv) dd')
 .subst ey eH
  cases (show u=Value.ref b from ry)
  obtain ⟨z,hd,xs,rel,dd⟩:=dt_of I.hok e
  have hz:xs.length<=sizeLine:=by rw[<-Paired.length rel];exact z
  have hl:(putK kvs k v).length<=sizeLine:=by have:=vo kvs k v;lia
  refine wpAny_setItem_heap (hsz:=hz) (qW hu) (jO I.hok eb) dd fun h' dd' hs=>h _ ?_
  obtain ⟨q,es,ep,hq,h2,h3,h4,j,h5⟩:=dd'
  refine oZ I (by rw[e];exact True.intro) hs ⟨q,hq⟩ ⟨hl,hd,_,(rel.put k eb rv).keeps fun c ys ec=>?_,q,es,ep,hq,h2,h3,h4,h5⟩
  rw[aP (ne_of ec e (fun z=>nomatch z))]
  exact ec
end
def NoSl (i:Expr):Prop:=∀ ov iv,subscripted i false ov iv=operate [ov,iv] (getItem ov iv)
theorem Zot {prog:Program} {w:World} {A:Around} {E:Value->Shared->Prop} {s:Shared} {env:Env} {value slice:Expr} {pos:Pos} {T id:String} {Q:Value->Shared->Prop}
  (hl:typeLookup (.type T) "__getitem__"=pure (some (.builtin id))) (hs:NoSl slice)
  (h:wpAny (model prog w) A (eval value env) (fun o s₁=>wpAny (model prog w) A (eval slice env) (fun i s₂=>s₂.TypeIs o T/\wpAny (model prog w) A (getItem o i) Q E s₂) E s₁) E s) :
  wpAny (model prog w) A (eval (.Subscript value slice pos) env) Q E s:=by
 refine Subscript_ (cE h (fun o s₁ h₁=>cE h₁ (fun i s₂ h₂=>?_) fun j j x=>x) fun j j x=>x)
 obtain ⟨hT,h₂⟩:=h₂
 unfold subscriptTail
 refine ab ?_
 rw[getitemInPython_of_ne hT.not_modules]
 refine ab (g9 hT hl ?_)
 have fin:wpAny (model prog w) A (subscripted slice false o i) (fun r s₃=>wpAny (model prog w) A (letTemporaryGo value o r >>= fun j=>pure r) Q E s₃) E s₂:=by
  rw[hs o i]
  exact wpAny_operating (cE h₂ (fun r s₃ h₃=>ab (wpAny_letTemporaryGo (am h₃))) fun j j x=>x)
 first
  | exact am (ab fin)
  | exact ab (am (ab fin))
  | exact ab fin
theorem Zik {X:Cx} {pins:List (Addr×Obj)} {Z:St} {H:Hp} {s:Shared} {a:Addr} {y:V} {o:Option V} (I:Inv X pins Z H s) (g:DGet H a y o):s.TypeIs (.ref a) "dict":=by
 rcases g with ⟨kvs,k,e,j,j⟩|⟨kvs,k,b,e,j,j,j⟩
 .obtain ⟨j,j,vs,j,dd⟩:=jE I.hok e
  exact dd.typeIs
 .obtain ⟨j,j,xs,j,dd⟩:=i7 I.hok e
  exact dd.typeIs
def tDGet (td ty:TE):TE:=fun Z H Q=>td Z H fun x H1=>ty Z H1 fun y H2=>∃ a v,x=.ref a/\DGet H2 a y (some v)/\Q v H2
def sDPut (td ty tv:TE):TS:=fun D Z H=>tv Z H fun v H1=>td Z H1 fun x H2=>ty Z H2 fun y H3=>∃ a H4,x=.ref a/\DPut H3 a y v H4/\D.nx Z H4
section
variable {X:Cx} {o i e value:Expr} {pos pos' tpos:Pos} {td ty tv:TE}
theorem nA (hu:X.A.units+1 < cLine) (ho:PE X o td) (hi:PE X i ty) (hs:NoSl i):PE X (.Subscript o i pos) (tDGet td ty):=by
 intro pins s Z H Q I h
 refine Zot PySem.F.slot_dict_getitem.lookup hs (thn (ho pins s Z H _ I h) fun u s1 ⟨x,H1,I1,rx,q1⟩=>thn (hi pins s1 Z H1 _ I1 q1) fun iv s2 z0_=>?_)
 obtain ⟨y,H2,I2,ry,a,v,ex,g,q2⟩:=z0_
 subst ex
 obtain rfl:u=Value.ref a:=rx
 exact ⟨Zik I2 g,ZlO hu I2 g ry fun w' s3 I3 rw'=>⟨v,H2,I3,rw',q2⟩⟩
theorem p6 (hu:X.A.units+1 < cLine) (ho:PE X o td) (hi:PE X i ty) (hv:PE X value tv) (hs:swapsWith value (some (.Subscript o i pos')) pos.line X.env=pure false) :
  PS X (.Assign [.Subscript o i pos'] value pos) (sDPut td ty tv):=by
 intro pins s Z H D I h
 refine wpAny_Assign_Subscript (thn (hv pins s Z H _ I h) fun r s1 ⟨v,H1,I1,rv,q1⟩=>thn (ho pins s1 Z H1 _ I1 q1) fun u s2 ⟨x,H2,I2,rx,q2⟩=>thn (hi pins s2 Z H2 _ I2 q2) fun iv s3 z0_=>?_) hs
 obtain ⟨y,H3,I3,ry,a,H4,ex,g,q3⟩:=z0_
 subst ex
 obtain rfl:u=Value.ref a:=rx
 exact ZlN hu I3 g ry rv fun s4 I4=>⟨Z,H4,I4,q3⟩
end
theorem Znn {P:Program} {w:World} {H:Hp} (h:Heap) (hb:sysModules < h.objs.size):ObjOk P w H (h.push { cls:=.type "dict",data:=.dict #[] }) h.objs.size (.dK []) :=
 ⟨bg _,gR.mpr (Ne.symm (bc hb)),[],.nil,Heap.DictOf.new h⟩
def vb:TE:=fun j H Q=>∀ p,H p=none->Q (.ref p) (upd H p (.dK []))
section
variable {X:Cx} {pos:Pos}
theorem mz:PE X (.Dict [] [] pos) vb:=fun pins s Z H Q I h =>
 wpAny_Dict_empty ⟨.ref s.heap.objs.size,_,I.laid (a:=s.heap.objs.size) (o:=.dK []) (t':=s.toks) (fun j j q=>aJ _ q) (aq _) (Znn s.heap I.big),rfl,h _ (I.hok.fresh (aq _))⟩
end
structure M1 (X:Cx) (o:Expr) (m:Str) (apos:Pos) (e:Expr) (cpos:Pos):Prop where
 base:attributeBase o m X.env (eval o X.env)=eval o X.env
 few:((backTo cpos (starEach [e] X.env)).all (fun x=>!x.1) && (backToKw cpos (keywordEach [] X.env)).all (fun x=>x.1.isSome)
  && decide (([e]:List Expr).length+([]:List Keyword).length+(if ([]:List Keyword).isEmpty then 0 else 1) < 30))=true
 line:(apos.endLine == cpos.line)=true
 trees:backTo cpos (starEach [e] X.env)=[(false,eval e X.env)]
structure M2 (X:Cx) (o:Expr) (m:Str) (apos:Pos) (e f:Expr) (cpos:Pos):Prop where
 base:attributeBase o m X.env (eval o X.env)=eval o X.env
 few:((backTo cpos (starEach [e,f] X.env)).all (fun x=>!x.1) && (backToKw cpos (keywordEach [] X.env)).all (fun x=>x.1.isSome)
  && decide (([e,f]:List Expr).length+([]:List Keyword).length+(if ([]:List Keyword).isEmpty then 0 else 1) < 30))=true
 line:(apos.endLine == cpos.line)=true
 trees:backTo cpos (starEach [e,f] X.env)=[(false,eval e X.env),(false,eval f X.env)]
def IsD (H:Hp) (a:Addr):Prop:=(∃ kvs,Rd H a (.dK kvs))\/∃ kvs,Rd H a (.dT kvs)
theorem isD_at {X:Cx} {pins:List (Addr×Obj)} {Z:St} {H:Hp} {s:Shared} {a:Addr} (I:Inv X pins Z H s) (d:IsD H a) :
  s.TypeIs (.ref a) "dict"/\(∀ b,Value.ref a=.ref b->∃ ob,s.heap.get? b=some ob/\ob.dict=none)/\(a == sysModules)=false:=by
 rcases d with ⟨kvs,e⟩|⟨kvs,e⟩
 .obtain ⟨j,hd,vs,j,dd⟩:=jE I.hok e
  refine ⟨dd.typeIs,fun b q=>?_,hd⟩
  cases q
  obtain ⟨ob,j,j,h1,h2,j⟩:=dd
  exact ⟨ob,h1,h2.2.1⟩
 .obtain ⟨j,hd,xs,j,dd⟩:=i7 I.hok e
  refine ⟨dd.typeIs,fun b q=>?_,hd⟩
  cases q
  obtain ⟨ob,j,j,h1,h2,j⟩:=dd
  exact ⟨ob,h1,h2.2.1⟩
section
variable {X:Cx} {pins:List (Addr×Obj)} {Z:St} {H:Hp} {s:Shared} {a:Addr} {y d:V} {u r:Value} {o:Option V} {A:Around} {E:Value->Shared->Prop}
theorem d_get2 {Q:Value->Shared->Prop} (hu:A.units+1 < cLine) (I:Inv X pins Z H s) (g:DGet H a y o) (ry:RelV y u) (rd:RelV d r) (h:∀ w' s',Inv X pins Z H s'->RelV (o.getD d) w'->Q w' s') :
  wpAny (model X.prog X.w) A (call (.builtin "dict.get") [.ref a,u,r]) Q E s:=by
 rcases g with ⟨kvs,k,e,ey,l⟩|⟨kvs,k,b,e,ey,eb,l⟩
 .subst ey
  obtain ⟨z,hd,vs,rel,dd⟩:=jE I.hok e
  refine j0 PySem.F.slot_dict_get dd.typeIs PySem.F.entry_dict_get (PySem.F.args_dict_get_3 _ _ _) (meets_dict_get_default (bC X.prog X.w) a (jq ry) hd r) ⟨_,dd.mapOf,h _ _ (I.tok _) ?_⟩
  rw[l]
  exact (rel.val k).getD rd
 .subst ey
  cases (show u=Value.ref b from ry)
  obtain ⟨z,hd,xs,rel,dd⟩:=i7 I.hok e
  refine j0 PySem.F.slot_dict_get dd.typeIs PySem.F.entry_dict_get (PySem.F.args_dict_get_3 _ _ _) (meetsH_dict_get_default (tupleKind (bC X.prog X.w)) a b hd r) ⟨qW hu,k,xs,jO I.hok eb,dd,h _ _ (I.tok _) ?_⟩
  rw[l]
  exact (rel.val k).getD rd
end
def vB (td ty tx:TE):TE:=fun Z H Q=>td Z H fun x H1=>∃ a,x=.ref a/\IsD H1 a/\ty Z H1 fun y H2=>tx Z H2 fun z H3=>∃ o,DGet H3 a y o/\Q (o.getD z) H3
section
variable {X:Cx} {o e f:Expr} {apos cpos:Pos} {td ty tx:TE}
theorem pp (hu:X.A.units+1 < cLine) (ho:PE X o td) (he:PE X e ty) (hf:PE X f tx) (m:M2 X o "get" apos e f cpos):PE X (.Call (.Attribute o "get" apos) [e,f] [] cpos) (vB td ty tx):=by
 intro pins s Z H Q I h
 refine nV m.base m.few m.line PySem.F.plainAttrs_dict PySem.F.slot_dict_get PySem.F.type_dict_get (thn (ho pins s Z H _ I h) fun u s1 z0_=>?_)
 obtain ⟨x,H1,I1,rx,a,ex,d,q1⟩:=z0_
 subst ex
 obtain rfl:u=Value.ref a:=rx
 obtain ⟨t1,t2,j⟩:=isD_at I1 d
 refine ⟨t1,t2,?_⟩
 rw[m.trees]
 refine iE rfl (jX (e8 (thn (he pins s1 Z H1 _ I1 q1) fun iv s2 ⟨y,H2,I2,ry,q2⟩ =>
  e8 (thn (hf pins s2 Z H2 _ I2 q2) fun fv s3 ⟨z,H3,I3,rz,ov,g,q3⟩=>iz ?_))))
 exact d_get2 hu I3 g ry rz fun w' s4 I4 rw'=>⟨_,H3,I4,rw',q3⟩
end
end L2
namespace Att
open PySem PySem.W PySem.Calls PyProof.Rows
theorem Zfl {P:Params} {h:Heap}:∀ (ns:List Int) (vs:List Value),WellAll P h vs (ns.map WData.int)->IntsAre vs ns:=by
 intro ns
 induction ns with
 | nil =>
  intro vs w
  rw[cQ] at w
  cases w
  exact .nil
 | cons n ns ih =>
  intro vs w
  rw[aF] at w
  cases w with
  | cons a b =>
   cases a
   exact .cons _ _ (ih _ b)
theorem ZkB {l:OpenLaw} {n:Nat} (hn:l.most=some n) {P:Params} {h:Heap} {args:List WData} {vals:List Value}
  (hpre:l.row.toRowW.claim.pre args=true) (hwl:WellAll P h vals args) :
  ∃ a vs ns,vals=[Value.ref a]/\args=[WData.list (ns.map WData.int)]/\h.get? a=some { cls:=.type "list",data:=.seq vs.toArray }/\IntsAre vs ns/\ns.length<=n:=by
 have hsh:WShape.hasAll [] args [.list .int]=true:=(pre_splitW hpre).1
 have hc:l.pre.holds [] { args:=args }=true:=(pre_splitW hpre).2
 obtain ⟨d,r,rfl,h1,h2⟩:=hasAllW_cons hsh
 obtain rfl:=hasAllW_nil h2
 obtain ⟨xs,rfl,h3⟩:=hasW_list h1
 obtain ⟨ns,rfl⟩:=items_int h3
 have hlen:ns.length<=n:=by
  unfold OpenLaw.pre at hc
  have h4:(WTm.not (.lt (.lit (.int (n:Int))) (.len (.arg 0)))).holds [] { args:=[.list (ns.map .int)] }=true:=by
   have h4:=(holds_andW hc).1
   rw[hn] at h4
   exact h4
  have h5:=condW_of h4 (w_not (w_lt w_lit (w_len_list (w_arg rfl))))
  rw[ai] at h5
  refine qX fun q=>?_
  have q':(n:Int) < ((ns.length:Nat):Int):=by lia
  first
   | (rw[aU q'] at h5;exact absurd h5 (by decide))
   | (simp at h5;lia)
 cases hwl with
 | cons w1 w2 =>
  cases w2
  cases w1 with
  | list ho hall=>exact ⟨_,_,ns,rfl,rfl,ho,Zfl ns _ hall,hlen⟩
theorem ZkT (l:OpenLaw) (args:List WData):l.row.toRowW.claim.post args (.bool true) args=true :=
 postW_of (r:=l.row.toRowW) (X:=(true == true))
  (show WShape.has [] (.bool true) .bool=true by first|rfl|decide|simp[WShape.has,WShape.arms,WShape.armsAll])
  (show (WTm.eq .res (.lit (.bool true))).value [] { args:=args,res:=some (.bool true),after:=args }=some (.bool (true == true)) from w_eq_bool (w_res rfl) w_lit) rfl
theorem attach_call {l:OpenLaw} {n:Nat} {q:Program} {loose:List Str} {XP:(Str->Option Value)->Heap->Prop} {YP:World->Heap->Prop} {d:DefRec}
  (hn:l.most=some n) (hdf:d.params.defaults=[])
  (call:∀ (w:World) (s₀ s₁:Shared) (mg mb:Str->Option Value) (fa:Addr) (o:Obj) (pm cd doc:Value) (a:Addr) (vs:List Value) (ns:List Int),
   Ground q loose [] XP w s₀ mg mb s₁.heap->YP w s₁.heap ->
   s₁.heap.get? fa=some o->o.data=.func (docDef d.name d.params d.body d.scope pm cd doc)->s₁.heap.CodeRec cd d.name->mg d.name=some (.ref fa) ->
   s₁.heap.get? a=some { cls:=.type "list",data:=.seq vs.toArray }->IntsAre vs ns->ns.length<=n->s₁.gens=#[] ->
   codeAny (model l.prog w) callerA (.call (.ref fa) ⟨[.ref a],[]⟩) (fun r s'=>r=.ok (.ret (.bool true))/\OldK s₁.heap s'.heap/\s'.os=s₁.os/\AllBare s'.gens) s₁) :
  WalkO q loose XP YP l.row.toRowW d [] (fun f vs=>PySem.call f vs):=by
 intro w s₀ s₁ mg mb G Y fa o pm cd doc dV kV ho hd hcd hD hmg hg args vals as hpre hlay hrd hwl hlo
 obtain rfl:dV=.none:=Dflts.none hD hdf
 obtain rfl:kV=.none:=Dflts.noKw hD
 obtain ⟨a,vs,ns,rfl,rfl,hobj,hints,hlen⟩:=ZkB hn hpre hwl
 refine enter_call (nU (call w s₀ s₁ mg mb fa o pm cd doc a vs ns G Y ho (fd_plain hd) hcd hmg hobj hints hlen hg) fun r s' hq=>?_)
 obtain ⟨rfl,h2,h3,h4⟩:=hq
 exact ⟨.inl ⟨.bool true,.bool true,[],rfl,fun j=>rfl,.bool true,ZkT l _,fun j=>⟨List.Pairwise.nil,fun j hm=>(nomatch hm)⟩⟩,h2,h3,h4⟩
section
variable {prog:Program} {w:World} {A:Around} {E:Value->Shared->Prop} {s:Shared} {K:Frag}
def ledger (h:Heap) (L d:Addr):List (Addr×Obj):=(List.range h.objs.size).filterMap fun a=>if a=L\/a=d then none else (h.get? a).map fun o=>(a,o)
end
end Att
namespace L2
open PySem PySem.Spec PyProof.Rows
theorem vG:∀ {vs:List Value} {ns:List Int},IntsAre vs ns->Vals (ns.map V.int) vs
 | _,_,.nil=>.nil
 | _,_,.cons n t h=>.cons ⟨t,rfl⟩ (vG h)
def Only (H:Hp):Prop:=∀ b,H b=none\/∃ o xs,H b=some (.frz o (.lst xs))
theorem ZmY {P:Program} {w:World} {K:W.Frag} {mg mb:Str->Option Value} {CX:CXT} {k:Nat} {fa a:Addr} {fd:FuncData} {x:Str} {sp:Sp} {s₁:Shared} {vs:List Value} {ns:List Int}
  (KX:K.In s₁.heap) (hns:s₁.heap.Ns mainGlobals mg) (hb:s₁.heap.Ns builtinsNs mb) (hbb:∀ x:Str,x≠"__name__"->mb x=bootBuiltins x) (hlim:s₁.heap.NoLimit) (hg:s₁.gens=#[])
  (ha:s₁.heap.get? a=some { cls:=.type "list",data:=.seq vs.toArray }) (hi:IntsAre vs ns) (hl:ns.length<=sizeLine) (hr:Room k callerA)
  (F:∀ base:Heap,K.In base->base.Ns mainGlobals mg->FnOk P w K mg base CX k fa fd [x] sp) (hbind:∀ (s:Shared) (u:Value),BindsTo s fd ⟨[u],[]⟩ [(x,u)])
  (hsp:∀ H:Hp,Only H->SqL K H a (ns.map V.int)->sp [.ref a] H (fun v j=>v=.bl true) fun j j j=>False)
  (hCX:∀ H e s',CX [] H s₁ (fun j j j=>False) e s'->False) :
  codeAny (model P w) callerA (.call (.ref fa) ⟨[.ref a],[]⟩) (fun r s'=>r=.ok (.ret (.bool true))/\OldK s₁.heap s'.heap/\s'.os=s₁.os/\AllBare s'.gens) s₁:=by
 have rv:=vG hi
 have lenV:=hi.length
 have core:∀ H:Hp,Only H->SqL K H a (ns.map V.int)->HOk P w H s₁.heap->(∀ b,H b≠none->b=a)->(H a≠none->K.lookup a=none) ->
   codeAny (model P w) callerA (.call (.ref fa) ⟨[.ref a],[]⟩) (fun r s'=>r=.ok (.ret (.bool true))/\OldK s₁.heap s'.heap/\s'.os=s₁.os/\AllBare s'.gens) s₁:=by
  intro H hO hS hok hA hK
  have base_of:∀ {b:Addr} {o:Obj},s₁.heap.get? b=some o->H b=none->(hidT s₁.heap H).get? b=some o:=fun e n=>Znh e n
  have noA:∀ {b:Addr} {o:Obj} {es:Array DictEntry} {ep:Nat},s₁.heap.get? b=some o->o.data=.dict es ep->H b=none:=fun {b o es ep} e d=>by
   cases q:H b with
   | none=>rfl
   | some u =>
    have e':b=a:=hA b (by rw[q];simp)
    subst e'
    rw[ha] at e;cases e
    have d':Data.seq vs.toArray _=Data.dict es ep:=d
    cases d'
  have nsK:∀ {b:Addr} {m:Str->Option Value},s₁.heap.Ns b m->(hidT s₁.heap H).Ns b m:=fun {b m} ⟨o,es,ep,e,d,r⟩=>⟨o,es,ep,base_of e (noA e d),d,r⟩
  have hKb:K.In (hidT s₁.heap H):=fun b o e=>base_of (KX b o e) (by
   cases q:H b with
   | none=>rfl
   | some u =>
    have e':b=a:=hA b (by rw[q];simp)
    subst e'
    rw[hK (by rw[q];simp)] at e;cases e)
  have hM:Mod K mg (hidT s₁.heap H):=⟨hKb,nsK hns,⟨mb,nsK hb,hbb⟩,let ⟨mc,h1,h2⟩:=hlim;⟨mc,nsK h1,h2⟩⟩
  have e0:Env0 P w K mg (hidT s₁.heap H) callerA [] s₁ H:=⟨rfl,hM,fun b o e=>Zo3 e,eE (ZlA _ _),trivial,fun b hb=>absurd (show b∈([]:List Addr) from hb) (by simp),hok,.of_eq hg⟩
  refine nU ((F _ hKb (nsK hns)).run callerA [] s₁ H ⟨[.ref a],[]⟩ [.ref a] [.ref a] _ _ hr e0 (hbind s₁ (.ref a)) (.cons rfl .nil) (hsp H hO hS)) fun r s' h=>?_
  cases r with
  | error e=>exact (hCX H e s' h).elim
  | ok fl =>
   cases fl with
   | next=>exact False.elim h
   | brk=>exact False.elim h
   | cont=>exact False.elim h
   | ret u =>
    obtain ⟨v,H',os,bare,un,hok',r',q⟩:=h
    have q':v=.bl true:=q
    subst q'
    obtain rfl:u=Value.bool true:=r'
    refine ⟨rfl,OldK.of_keep fun b o e=>?_,os,bare⟩
    cases q:H b with
    | none=>exact un.keep b o e q (by intro z;exact absurd (show b∈([]:List Addr) from z) (by simp)) (by simp)
    | some u =>
     rcases hO b with z|⟨ob,xs,z⟩
     .rw[q] at z;cases z
     .have z2:=un.frzs b ob _ z
      obtain ⟨e1,j⟩:=hok b _ z
      obtain ⟨e2,j⟩:=hok' b _ z2
      rw[e] at e1;cases e1
      exact e2
 cases hk:K.lookup a with
 | some o =>
  have e:=KX a o hk
  rw[ha] at e
  cases e
  refine core (fun j=>none) (fun j=>.inl rfl) (.inr ⟨_,vs.toArray,_,hk,rfl,rfl,rfl,by rw[bj,lenV];exact hl,by simpa using rv⟩) (fun b u z=>by have z':(none:Option HO)=some u:=z;cases z') (fun b z=>absurd rfl z) fun z=>absurd rfl z
 | none =>
  refine core (fun b=>if b=a then some (.frz { cls:=.type "list",data:=.seq vs.toArray } (.lst (ns.map V.int))) else none) (fun b=>?_) (.inl (.inr ⟨{ cls:=.type "list",data:=.seq vs.toArray },ag rfl⟩)) (fun b u z=>?_) (fun b z=>?_) fun j=>hk
  .by_cases hb:b=a
   .exact .inr ⟨_,_,ag hb⟩
   .exact .inl (ah hb)
  .by_cases hb:b=a
   .have z':=(ag hb).symm.trans z
    cases z'
    subst hb
    exact ⟨ha,by rw[ai];exact hl,vs,_,rv,ha⟩
   .have z':=(ah hb).symm.trans z
    cases z'
  .by_cases hb:b=a
   .exact hb
   .exact absurd (ah hb) z
end L2
namespace L2
open PySem PySem.Spec PyProof.Rows
abbrev KOf {K:W.Frag} {h:Heap} (_:K.In h):W.Frag:=K
theorem tj {l:PySem.W.OpenLaw} {n k:Nat} {q:Program} {loose:List Str} {XP:(Str->Option Value)->Heap->Prop} {YP:World->Heap->Prop} {d:DefRec} {K:Params->W.Frag} {CX:World->CXT} {sp:World->Sp} {x:Str}
  (hn:l.most=some n) (hn2:n<=sizeLine) (hdf:d.params.defaults=[]) (hr:Room k callerA)
  (hY:∀ (w:World) (h:Heap),YP w h->(K w.params).In h)
  (F:∀ (w:World) (mg:Str->Option Value) (fa:Addr) (h:Heap),(K w.params).In h->h.Ns mainGlobals mg->mg d.name=some (.ref fa) ->
   ∃ fd:FuncData,(∀ (s:Shared) (u:Value),BindsTo s fd ⟨[u],[]⟩ [(x,u)]) /\
    ∀ base:Heap,(K w.params).In base->base.Ns mainGlobals mg->FnOk l.prog w (K w.params) mg base (CX w) k fa fd [x] (sp w))
  (hsp:∀ (w:World) (H:Hp) (a:Addr) (ns:List Int),ns.length<=n->Only H->SqL (K w.params) H a (ns.map V.int)->sp w [.ref a] H (fun v j=>v=.bl true) fun j j j=>False)
  (hCX:∀ (w:World) (H:Hp) (s:Shared) (e:Value) (s':Shared),CX w [] H s (fun j j j=>False) e s'->False) :
  PySem.W.WalkO q loose XP YP l.row.toRowW d [] (fun f vs=>PySem.call f vs):=by
 refine Att.attach_call hn hdf fun w s₀ s₁ mg mb fa o pm cd doc a vs ns G Y ho hd hcd hmg hobj hints hlen hg=>?_
 have KX:=hY w _ Y
 obtain ⟨fd,hb,hF⟩:=F w mg fa _ KX G.T.g hmg
 exact ZmY KX G.T.g G.T.b G.T.builtins G.T.nolimit hg hobj hints (aR hlen hn2) hr hF hb (fun H hO hS=>hsp w H a ns hlen hO hS) fun H e s'=>hCX w H s₁ e s'
end L2
/- THE LAST THEOREM (shape; LID, My.* are yours):
   My.Adr: a structure of the addresses that your layer names (classes,functions);My.Txt K t: a structure (Prop) of the equations over K;
   My.txt_mk : {K} {implicit addresses ..} (e1 : nsIn K mainGlobals "law" = some (some (.ref f))) (e2 : K.lookup f = some ⟨oc, od, .func (fnOf "law" "law" params body scope dV kV doc pm an cdv ct), sl⟩) (e3 : codeIn K cdv "law" = true) .. : ∃ t, My.Txt K t
set_option maxHeartbeats 0 in
theorem PySem.Challenge.cw_LID_holds : PySem.Challenge.rw_LID.Holds := by
 w_on;o_law;k_head;(case hw=>w_witness2)
 k_fill
 refine L2.tj (l:=PySem.Challenge.rw_LID) (n:=63) (k:=40) (x:="script") (CX:=fun w=>..) (sp:=fun j=>My.sp_law) rfl (by decide) rfl ⟨rfl,by decide,by decide⟩ (fun w h Y=>PySem.W.kIn_of Y) ?F ?S ?C
 case F =>
  intro w mg fa h KX G hmg
  have T:∃ t,My.Txt (L2.KOf KX) t:=by
   dsimp only [L2.KOf]                          -- K must stand as «<heap const> w.params» for k_is
   refine' My.txt_mk ?e1 ?e2 ?e3 ..
   (case e1=>PySem.W.k_is)                    -- in the order: a name -> its address -> its object -> its parts
   (case e2=>PySem.W.k_is)
   ..
  obtain ⟨t,T⟩:=T
  have e0:=hmg.symm.trans (PySem.W.mg_of KX G T.law)
  cases e0                                       -- fa is the law's own address
  exact ⟨_,fun s u=>.of_eq rfl,fun base kb nb=>My.qK T kb nb⟩     -- if «.of_eq rfl» comes too early: refine' ⟨_,?b,fun base kb nb=>My.qK T kb nb⟩;exact fun s u=>.of_eq rfl
 case S=>exact fun w H a ns hl hO hS=>..
 case C=>exact ..
(the tactic k_is has no namespace: write k_is) -/
namespace L2
open PySem PySem.Spec PyProof.Rows
def eX (s:Stmt) (j:Nat):Stmt:=match s with
 | .ClassDef _ _ _ body _ _ _ _ _ _ _=>body.getD j (.Pass ⟨0,0,0,0⟩)
 | _=>.Pass ⟨0,0,0,0⟩
def cX (s:Stmt):Arguments:=match s with
 | .FunctionDef _ a _ _ _ _ _ _ _ _=>a
 | _=>{ posonlyargs:=[],args:=[],vararg:=none,kwonlyargs:=[],kw_defaults:=[],kwarg:=none,defaults:=[] }
def bV (s:Stmt):List Stmt:=match s with
 | .FunctionDef _ _ b _ _ _ _ _ _ _=>b
 | _=>[]
def ap (s:Stmt):Scope:=match s with
 | .FunctionDef _ _ _ _ _ _ sc _ _ _=>sc
 | _=>{ kind:=.function,names:=[],isGenerator:=false,isCoroutine:=false }
abbrev CX0:CXT:=fun j j j j j j=>False
abbrev E0:XK:=fun j j j=>False
theorem nu {X:Cx}:gC CX0 X E0:=fun j j j j j j j h=>h.elim
structure Fun (K:W.Frag) (x qual:Str) (st:Stmt) (f:Addr) (fd:FuncData):Prop where
 ex:∃ (oc:Value) (od:Option Addr) (kV doc pm:Value) (an:Option Addr) (cdv ct:Value) (osl:Array (Option Value)),
  fd=PySem.W.fnOf x qual (cX st) (bV st) (ap st) .none kV doc pm an cdv ct/\K.lookup f=some ⟨oc,od,.func fd,osl⟩/\PySem.W.codeIn K cdv qual=true
 kp:PySem.W.keepIn K (.ref f)=true
section
variable {P:Program} {w:World} {K:W.Frag} {mg:Str->Option Value} {base:Heap}
theorem Fun.ok {x qual:Str} {st:Stmt} {f:Addr} {fd:FuncData} {N ps:List Str} {k:Nat} {sp:Sp} (F:Fun K x qual st f fd) (S:FnScope N ps (ap st)) (len:∀ vs H Q E,sp vs H Q E->vs.length=ps.length)
  (hbody:∀ (cdv:Value) (A:Around) (outer:List Env) (s:Shared) (H:Hp) (vs:List V) (Q:VK) (E:XK),Room k (A.deeper (envOfC qual (ap st) s.heap.objs.size f cdv))->sp vs H Q E ->
   ∃ t,PSs (cxOf CX0 P w K mg base N qual (ap st) f cdv A outer s H E).nox (bV st) t/\t { nx:=fun j H'=>Q .non H',rt:=Q } (start N vs) H):FnOk P w K mg base CX0 (k+1) f fd ps sp:=by
 obtain ⟨oc,od,kV,doc,pm,an,cdv,ct,osl,rfl,lk,hcd⟩:=F.ex
 refine fn_of lk hcd S len fun A outer s H vs Q E hr hsp=>?_
 obtain ⟨t,h,q⟩:=hbody cdv A outer s H vs Q E hr hsp
 exact ⟨t,h.nox,q⟩
theorem Fun.binds {x qual:Str} {st:Stmt} {f:Addr} {fd:FuncData} {ps:List Str} (F:Fun K x qual st f fd)
  (h:∀ (kV doc pm:Value) (an:Option Addr) (cdv ct:Value) (us:List Value),us.length=ps.length->bindArgs (PySem.W.fnOf x qual (cX st) (bV st) (ap st) .none kV doc pm an cdv ct) ⟨us,[]⟩=pure (ps.zip us)):Binds K fd ps []:=by
 obtain ⟨oc,od,kV,doc,pm,an,cdv,ct,osl,rfl,lk,hcd⟩:=F.ex
 exact .all (h kV doc pm an cdv ct)
theorem bS {x qual:Str} {st:Stmt} {f:Addr} {oc:Value} {od an:Option Addr} {osl:Array (Option Value)} {kV doc pm cdv ct:Value} (l:K.lookup f=some ⟨oc,od,.func (PySem.W.fnOf x qual (cX st) (bV st) (ap st) .none kV doc pm an cdv ct),osl⟩)
  (c:PySem.W.codeIn K cdv qual=true) (k:PySem.W.keepIn K (.ref f)=true):Fun K x qual st f (PySem.W.fnOf x qual (cX st) (bV st) (ap st) .none kV doc pm an cdv ct):=⟨⟨oc,od,kV,doc,pm,an,cdv,ct,osl,rfl,l,c⟩,k⟩
end
theorem nK {A:Around} {k:Nat} (hr:Room k A):A.units+1 < cLine:=fe (qY (by decide:1<=64) _) hr.units
section
variable {X:Cx}
theorem pv (i:Nat) {x:Str} {pos:Pos} (hN:X.N[i]?=some x:=by rfl) (hv:Vis X.env.scope x:=by first|exact Or.inl rfl|exact Or.inr (Or.inl rfl)|exact Or.inr (Or.inr rfl)) (hd:(x == ("__debug__":Str))=false:=by decide)
  (hcd:(x == ("__classdict__":Str))=false:=by decide):PE X (.Name x pos) (tVar i):=pe_var hN hv hd hcd
end
theorem iteF {A B:Prop} (h:B):if false=true then A else B:=by
 rw[ah bo]
 exact h
theorem iteT {A B:Prop} (h:A):if true=true then A else B:=by
 rw[ag rfl]
 exact h
theorem iteNS {c A B:Prop} [Decidable c] (hc:c) (h:B):if (!decide c)=true then A else B:=by
 rw[aU hc]
 exact iteF h
def Same (H H':Hp):Prop:=∀ b o,H b=some o->H' b=some o
theorem Same.refl (H:Hp):Same H H:=fun j j h=>h
theorem Same.trans {H H1 H2:Hp} (a:Same H H1) (b:Same H1 H2):Same H H2:=fun c o h=>b c o (a c o h)
theorem Same.free {H H':Hp} (e:Same H H') {l:Addr} (h:H' l=Option.none):H l=Option.none:=by
 cases q:H l with
 | none=>rfl
 | some o =>
  rw[e l o q] at h
  cases h
theorem Same.seq {K:W.Frag} {H H':Hp} {a:Addr} {xs:List V} (e:Same H H') (h:SqL K H a xs):SqL K H' a xs:=by
 rcases h with (h|⟨o,h⟩)|h
 .exact .inl (.inl (e _ _ h))
 .exact .inl (.inr ⟨o,e _ _ h⟩)
 .exact .inr h
section
variable {κ:Type} [DecidableEq κ]
theorem rX : ∀ {l : List κ} {k : κ}, l.Nodup -> ¬ k ∈ l -> (l ++ [k]).Nodup
  | [], k, _, _ => by simp
  | a :: r, k, h, hk => by
    obtain ⟨h1,h2⟩:=cP.mp h
    show (a::(r++[k])).Nodup
    refine cP.mpr ⟨fun m=>?_,rX h2 fun m=>hk (aG.mpr (Or.inr m))⟩
    rcases aT.mp m with q|q
    . exact h1 q
    . exact hk (aG.mpr (Or.inl (aN.mp q).symm))
end
end L2
end
section
namespace L2
theorem opq {p:Prop} (h:let g:Prop:=p;g):p:=h
open PySem PySem.Spec PyProof.Rows
theorem px (env : Env) : ∀ (names : List (Str × NameKind)) (acc : List (Str × Addr)),
    (∀ y∈names,y.2=.free->∃ c,env.cells.lookup y.1=some c) ->
    ∃ cl : List (Str × Addr), (forIn names acc fun (x : Str × NameKind) (r : List (Str × Addr)) => (match x with
        | (name, kind) => if (kind == NameKind.free) = true then do
            let a <- cellOf env name
            pure (ForInStep.yield ((name,a)::r))
          else pure (ForInStep.yield r):Sem (ForInStep (List (Str×Addr)))))=(pure cl:Sem (List (Str×Addr))) /\
      (∀ x c,cl.lookup x=some c->acc.lookup x=some c\/env.cells.lookup x=some c) /\
      (∀ x,(acc.lookup x).isSome=true\/(x,NameKind.free)∈names->(cl.lookup x).isSome=true)
  | [], acc, _ => ⟨acc, by simp, fun x c h => .inl h, fun x h => h.elim id fun z => nomatch z⟩
  | (n, k) :: r, acc, h => by
    by_cases hk:k=.free
    . subst hk
      obtain ⟨c,hc⟩:=h (n,.free) bG rfl
      obtain ⟨cl,e,h1,h2⟩:=px env r ((n,c)::acc) fun y hy=>h y (bE _ hy)
      refine ⟨cl,?_,fun x c' z=>?_,fun x z=>?_⟩
      . rw[iH]
        have q:cellOf env n=pure c:=by unfold cellOf;rw[hc]
        simp only[q,beq_self_eq_true,e9,pure_bind]
        exact e
      . rcases h1 x c' z with z | z
        . rw[hG] at z
          by_cases hx:x=n
          . subst hx
            simp at z
            subst z
            exact .inr hc
          . have hb : (x == n) = false := by simpa using hx
            rw[hb] at z
            exact .inl z
        . exact .inr z
      . refine h2 x ?_
        rw[hG]
        by_cases hx:x=n
        . subst hx
          left
          simp
        . have hb : (x == n) = false := by simpa using hx
          rw[hb]
          rcases z with z|z
          . exact .inl z
          . rcases aG.mp z with z | z
            . cases z
              exact absurd rfl hx
            . exact .inr z
    . obtain ⟨cl, e, h1, h2⟩ := px env r acc fun y hy => h y (bE _ hy)
      refine ⟨cl,?_,h1,fun x z=>h2 x ?_⟩
      . rw[iH]
        have hb:(k == NameKind.free)=false:=by simpa using hk
        simp only[hb,dE,dv,pure_bind]
        exact e
      . rcases z with z | z
        . exact .inl z
        . rcases aG.mp z with z | z
          . cases z
            exact absurd rfl hk
          . exact .inr z
theorem ub {scope:Scope} {env:Env} (h:∀ y∈scope.names,y.2=.free->∃ c,env.cells.lookup y.1=some c) :
  ∃ cl,closureFor scope env=pure cl/\(∀ x c,cl.lookup x=some c->env.cells.lookup x=some c)/\∀ x,(x,NameKind.free)∈scope.names->∃ c,cl.lookup x=some c:=by
 obtain ⟨cl,e,h1,h2⟩:=px env scope.names [] h
 refine ⟨cl,?_,fun x c z=>(h1 x c z).elim (fun q=>by simp at q) id,fun x z=>vP.mp (h2 x (.inr z))⟩
 unfold closureFor
 dsimp only
 rw[e]
 rfl
structure BkScope (N:List Str) (sc osc:Scope) (LN FN:List Str) (fr:List Nat):Prop where
 kind:sc.kind=.function
 nocell:∀ y∈sc.names,y.2≠.cell
 names:∀ x∈sc.names,x.2=.local->sc.names.lookup x.1=some .local
 free:∀ y∈sc.names,y.2=.free->osc.names.lookup y.1=some .cell\/osc.names.lookup y.1=some .free
 fnk:∀ x∈FN,osc.names.lookup x=some .cell\/osc.names.lookup x=some .free
 fnf:∀ x∈FN,sc.names.lookup x=some .free
 at':FN.map some=fr.map fun j=>N[j]?
theorem BkScope.place {N:List Str} {sc osc:Scope} {LN FN:List Str} {fr:List Nat} (S:BkScope N sc osc LN FN fr) {k:Nat} {x:Str} (e:FN[k]?=some x):∃ j:Nat,fr[k]?=some j/\N[j]?=some x:=by
 have h:=congrArg (fun l=>l[k]?) S.at'
 simp only[aj,e,ff] at h
 cases q:fr[k]? with
 | none=>rw[q] at h;cases h
 | some j =>
  rw[q] at h
  exact ⟨j,rfl,(Option.some.inj h).symm⟩
theorem BkScope.frl {N:List Str} {sc osc:Scope} {LN FN:List Str} {fr:List Nat} (S:BkScope N sc osc LN FN fr):fr.length=FN.length:=by
 have h:=congrArg List.length S.at'
 simpa using h.symm
def fj (LN:List Str) (fr:List Nat) (Z:St):St:=List.replicate LN.length none++fr.map fun j=>(Z[j]?).getD none
def bkCx (X:Cx) (LN FN:List Str) (sc:Scope) (cl:List (Str×Addr)) (C:Addr) (fp:List Addr) (pins:List (Addr×Obj)) (s:Shared) (H:Hp):Cx :=
 { X with N:=LN++FN,s₀:=s,H₀:=H,env:=compEnvC sc cl C X.env,outer:=X.stack,ex:=fp,fn:=fun j=>false,pn:=X.pn++pins,xe:=fun j j=>False }
theorem qB {env : Env} : ∀ {names : List (Str × NameKind)} {x : Str} {k : NameKind},
    (names.map fun (n,k)=>if (k == NameKind.free && env.scope.kind == .function && env.kindOf n == some .cell) then (n,NameKind.cell) else (n,k)).lookup x=some k ->
    names.lookup x=some k\/(names.lookup x=some .free/\k=.cell)
  | [], _, _, h => by simp at h
  | (n, j) :: r, x, k, h => by
    have ih:=@qB env r x k
    have h:List.lookup x ((if (j == NameKind.free && env.scope.kind == .function && env.kindOf n == some .cell)=true then (n,NameKind.cell) else (n,j))::_)=some k:=h
    rw[hG]
    by_cases hc:(j == NameKind.free && env.scope.kind == .function && env.kindOf n == some .cell)=true
    . rw[ag hc, hG] at h
      cases hx:x == n with
      | true =>
        rw[hx] at h
        simp only[fN,gV] at hc
        have hk:NameKind.cell=k:=by simpa using h
        exact .inr ⟨by simp[hc.1.1],hk.symm⟩
      | false =>
        rw[hx] at h
        exact ih h
    . rw[ah hc, hG] at h
      cases hx:x == n with
      | true =>
        rw[hx] at h
        exact .inl h
      | false =>
        rw[hx] at h
        exact ih h
theorem ZnE {X:Cx} {pins:List (Addr×Obj)} {Z:St} {H:Hp} {s:Shared} {LN FN:List Str} {fr:List Nat} {sc:Scope} {cl:List (Str×Addr)} {C:Addr} {fp:List Addr} {h':Heap} {tk:Nat} {m:Str->Option Value}
  (I:Inv X pins Z H s) (S:BkScope X.N sc X.env.scope LN FN fr) (hf:∀ b∈fp,FpOk X pins H b) (hfs:∀ b∈fp,∃ o,s.heap.get? b=some o)
  (h1:∀ x c,cl.lookup x=some c->X.env.cells.lookup x=some c) (h2:∀ x,(x,NameKind.free)∈sc.names->∃ c,cl.lookup x=some c)
  (hC:s.heap.objs.size<=C) (hk:∀ b o,s.heap.get? b=some o->h'.get? b=some o) (hn:h'.Ns C m) :
  Inv (bkCx X LN FN sc cl C fp pins s H) [] (fj LN fr Z) H { s with heap:=h',toks:=tk }:=by
 have hsub:∀ b,b∉X.fs->b≠X.env.locals->b∉frs X.stack:=fun b n1 n2 z=>(aG.mp (I.stkSub b z)).elim n2 n1
 have hlk:∀ x k,(relabel sc X.env).names.lookup x=some k->(k=.cell\/k=.free)->sc.names.lookup x=some .free:=fun x k e hk=>by
  rcases qB e with q|⟨q,w⟩
  .rcases hk with rfl|rfl
   .exact absurd rfl (S.nocell _ (PySem.mem_of_lookup q))
   .exact q
  .exact q
 refine ⟨⟨I.ok.mod,?_,I.ok.glob,I.ok.blt,hC,fun x y c e1 e2=>I.ok.inj x y c (h1 x c e1) (h1 y c e2),fun x hx=>?_,(fun x c z=>absurd z (by intro z;cases z)),I.ok.hd,I.ok.frames,.inl rfl,fun b hb=>⟨?_,fun x c e z=>?_⟩,I.bs,aR I.ok.bsz I.sz,fun b o e hb=>?_,fun b hb=>?_,I.stack,I.stkFree⟩,
  rfl,I.bare,Un.kept hk,⟨m,hn,fun i x v e1 e2 e3=>?_⟩,fun x c e=>?_,?_,fun x c e=>I.freeC x c (h1 x c e),fun p hp=>?_,I.hok.kept hk,?_⟩
 .exact S.kind
 .have hx:(relabel sc X.env).names.lookup x=some .cell\/(relabel sc X.env).names.lookup x=some .free:=hx
  rcases hx with hx|hx
  .exact h2 x (PySem.mem_of_lookup (hlk x _ hx (.inl rfl)))
  .exact h2 x (PySem.mem_of_lookup (hlk x _ hx (.inr rfl)))
 .obtain ⟨o,e⟩:=hfs b hb
  exact bc (bD (aM e) hC)
 .exact (hf b hb).2.2.2.2.1 x c (h1 x c e) z
 .obtain ⟨w,w,w,h3,w⟩:=hf b hb
  rcases h3 with z|z
  .exact I.ok.noex b o e z
  .exact absurd (bD (aM (I.ok.bs b o e).1) z) (gq _)
 .obtain ⟨w,n1,n2,w⟩:=hf b hb
  exact hsub b n2 n1
 .-- the free names' values
  have hi:LN.length<=i:=by
   refine qX fun hlt=>?_
   unfold fj at e2
   rw[bN (by simpa using hlt),jS] at e2
   split at e2 <;> cases e2
  have e1:FN[i - LN.length]?=some x:=by
   have e1:(LN++FN)[i]?=some x:=e1
   rwa [fM hi] at e1
  obtain ⟨j,ej,hj⟩:=S.place e1
  have e2:(Z[j]?).getD none=some v:=by
   unfold fj at e2
   rw[fM (by simpa using hi),jU,aj,ej] at e2
   simpa using e2
  have e2:Z[j]?=some (some v):=by
   cases q:Z[j]? with
   | none=>rw[q] at e2;cases e2
   | some z =>
    rw[q] at e2
    exact congrArg some e2
  have hkx:=S.fnk x (aw e1)
  obtain ⟨m0,hm0,hl⟩:=I.loc
  have hv:Vis X.env.scope x:=hkx.elim (fun z=>.inr (.inl z)) fun z=>.inr (.inr z)
  obtain ⟨u,r,l⟩:=hl j x v hj e2 hv
  refine ⟨u,r,?_⟩
  rcases l with ⟨k1,w⟩|⟨w,c,ec,z⟩
  .have k1:X.env.scope.names.lookup x=some .local:=k1
   rcases hkx with q|q <;> rw[q] at k1 <;> cases k1
  .have e3:Vis (relabel sc X.env) x:=e3
   rcases e3 with q|q|q
   .-- a block's own name is none of the free ones,unless it shadows: then the kinds say local
    rcases qB q with q'|⟨w,q'⟩
    .rw[S.fnf x (aw e1)] at q'
     cases q'
    .cases q'
   .obtain ⟨c',ec'⟩:=h2 x (PySem.mem_of_lookup (hlk x _ q (.inl rfl)))
    have:=h1 x c' ec'
    rw[ec] at this;cases this
    exact .inr ⟨.inl q,c,ec',by obtain ⟨o,ho,hd⟩:=z;exact ⟨o,hk _ _ ho,hd⟩⟩
   .obtain ⟨c',ec'⟩:=h2 x (PySem.mem_of_lookup (hlk x _ q (.inr rfl)))
    have:=h1 x c' ec'
    rw[ec] at this;cases this
    exact .inr ⟨.inr q,c,ec',by obtain ⟨o,ho,hd⟩:=z;exact ⟨o,hk _ _ ho,hd⟩⟩
 .obtain ⟨v,o,ho,hd⟩:=I.cell x c (h1 x c e)
  exact ⟨v,o,hk _ _ ho,hd⟩
 .exact I.hok.fresh hC
 .have hp:p∈(X.pn++pins)++[]:=hp
  rw[bH] at hp
  obtain ⟨e,n,ne,nf,d⟩:=I.pin p hp
  exact ⟨hk _ _ e,n,bc (bD (aM e) hC),hsub _ nf ne,d⟩
 .unfold fj
  show _=(LN++FN).length
  simp[S.frl]
end L2
end
section
namespace L2
open PySem PySem.Spec PyProof.Rows
def PTs (X:Cx) (ifs:List Expr) (t:TT):Prop :=
 ∀ (pins:List (Addr×Obj)) (s:Shared) (Z:St) (H:Hp) (Q:Bool->Hp->Prop),Inv X pins Z H s->t Z H Q ->
  wpAny (model X.prog X.w) X.A (forIn ifs true fun c r=>if r=true then do let ok <- isTrue c X.env (eval c X.env);pure (ForInStep.yield ok) else pure (ForInStep.yield r)) (TP X pins Z Q) X.xe s
def gG:TT:=fun j H Q=>Q true H
theorem dI {X:Cx}:PTs X [] gG:=fun j j j H j I h=>wpAny_tests_nil ⟨H,I,h⟩
theorem eD {X:Cx} {c:Expr} {t:TT} (h:PT X c t):PTs X [c] t:=fun pins s Z H Q I q=>wpAny_tests_one (h pins s Z H Q I q)
theorem Un.track {fs ex:List Addr} {H H1:Hp} {h h1:Heap} {a:Addr} {o:HO} (u:Un fs ex H H1 h h1) (hp:h.objs.size<=a) (hn:H a=none):Un fs ex H (upd H1 a o) h h1 where
 keep:=u.keep
 slot:=u.slot
 free:=fun b ob q n hx=>by
  rw[aP (bc (bD (aM q) hp))]
  exact u.free b ob q n hx
 there:=u.there
 tups:=fun b xs q=>by
  rw[aP (fun z=>by rw[z,hn] at q;cases q)]
  exact u.tups b xs q
 frzs:=fun b ob x q=>by
  rw[aP (fun z=>by rw[z,hn] at q;cases q)]
  exact u.frzs b ob x q
 tbls:=fun b ps q=>by
  rw[aP (fun z=>by rw[z,hn] at q;cases q)]
  exact u.tbls b ps q
theorem HOk.track {P:Program} {w:World} {H:Hp} {h:Heap} {a:Addr} {o:HO} (x:HOk P w H h) (hn:H a=none) (new:ObjOk P w (upd H a o) h a o):HOk P w (upd H a o) h:=fun b u e=>by
 by_cases hb:b=a
 .subst hb
  rw[bh] at e
  cases e
  exact new
 .rw[aP hb] at e
  refine (x b u e).stay (fun j j j q=>q) (fun c q=>?_) fun c xs q=>?_
  .rw[aP (fun z=>by rw[z,hn] at q;cases q)]
   exact q
  .rw[aP (fun z=>by rw[z,hn] at q;cases q)]
   exact q
theorem ZjS {EB:Value->Shared->Prop} {prog:Program} {w:World} {A:Around} {R:Result->Shared->Prop} {s:Shared} {elt target iter:Expr} {ifs:List Expr} {scope:Scope} {pos:Pos} {it acc:Value} {env:Env} (I:Nat->Shared->Prop)
  (turn:∀ n s,I n s->wpAny (model prog w) A (pyNext it) (fun r s₁=>match r with
   | none=>R (.ok .next) s₁
   | some v=>wpAny (model prog w) A (letOwnedTupleGo target it v) (fun j s₁'=>wpAny (model prog w) A (assign target env v) (fun j s₂ =>
     wpAny (model prog w) A (forIn ifs true fun c r=>if r=true then do let ok <- isTrue c env (eval c env);pure (ForInStep.yield ok) else pure (ForInStep.yield r)) (fun ok s₃ =>
      if ok=true then wpAny (model prog w) A (eval elt env) (fun x s₄ =>
       wpAny (model prog w) A (call (.builtin "list.append") [acc,x]) (fun j s₅=>∃ m,m < n/\I m s₅) (fun j j=>False) s₄) EB s₃
      else ∃ m,m < n/\I m s₃) (fun j j=>False) s₂) (fun j j=>False) s₁') (fun j j=>False) s₁) (fun j j=>False) s)
  (hEB:∀ e s',EB e s'->notedBy (model prog w) A env (fun e s'=>R (.error e) s') e s') (n:Nat) (h:I n s) :
  codeAny (model prog w) A (.compLoop (.ListComp elt [⟨target,iter,ifs,0⟩] scope pos) 0 it acc env) R s:=by
 refine codeAny_loop rfl I (fun n s hI=>?_) n h
 show wpAny _ A ((compTurn (.ListComp elt [⟨target,iter,ifs,0⟩] scope pos) 0 it acc env).onRaise (fun x=>do noteFrame x env;theTreesLotGoes x)) _ _ s
 refine wpAny_noted ?_
 rw[compTurn_list]
 refine ab (wpAny_standAt (ab (cE (turn n s hI) (fun r s₁ h₁=>?_) fun j j h'=>h'.elim)))
 cases r with
 | none=>exact am h₁
 | some v =>
  refine ab (cE h₁ (fun j s₁' h₁'=>?_) fun j j h'=>h'.elim)
  refine ab (cE h₁' (fun j s₂ h₂=>ab (cE h₂ (fun ok s₃ h₃=>?_) fun j j h'=>h'.elim)) fun j j h'=>h'.elim)
  cases ok with
  | false=>exact am ⟨rfl,h₃⟩
  | true =>
   exact ab (ab (cE h₃ (fun x s₄ h₄=>ab (cE h₄ (fun j s₅ h₅=>am (am ⟨rfl,h₅⟩)) fun j j h'=>h'.elim)) fun e s' h'=>hEB e s' h'))
def tu (X:Cx) (C:Addr) (e:Value) (s':Shared):Prop:=∃ m,s'.heap.Ns C m/\∀ h',Heap.SameBut C s'.heap h'->∀ cenv:Env,cenv.locals=C->wpAny (model X.prog X.w) X.A (PySem.passOn "comprehension.variables-let-go" e cenv:Sem Value) (fun j j=>False) X.xe { s' with heap:=h' }
def bkXe (X:Cx) (sc:Scope) (cl:List (Str×Addr)) (C:Addr):Value->Shared->Prop:=notedBy (model X.prog X.w) X.A (compEnvC sc cl C X.env) (tu X C)
def BkIn (X:Cx) (C:Addr) (fp:List Addr) (pins:List (Addr×Obj)) (s:Shared) (H:Hp):Prop:=(∃ Z,Inv X pins Z H s)/\(∀ b∈fp,FpOk X pins H b)/\s.heap.objs.size<=C
def bkX (X:Cx) (LN FN:List Str) (sc:Scope) (cl:List (Str×Addr)) (C:Addr) (fp:List Addr) (pins:List (Addr×Obj)) (s:Shared) (H:Hp):Cx:=(bkCx X LN FN sc cl C fp pins s H).wish (bkXe X sc cl C)
section
variable {X:Cx} {tg elt iter:Expr} {ifs:List Expr} {sc:Scope} {pos:Pos} {LN FN:List Str} {fr:List Nat} {wi:TI} {g:TG} {tt:TT} {te:TE}
def CW (J:It) (g:TG) (tt:TT) (te:TE) (W:Nat->Nat->List V->St->Hp->Prop) (Q:VK):Prop :=
 ∀ i m ys Z H,W i m ys Z H ->
  (J.stop i H/\ys.length<=sizeLine/\∀ p,H p=none->Q (.ref p) (upd H p (.lst ys))) \/
  (J.go i H/\∃ N:List V->St->Hp->Prop,(∀ ys' σ' H',N ys' σ' H'->∃ m',m' < m/\W (i+1) m' ys' σ' H') /\
   ∀ x H2,J.yld i H x H2->g x Z H2 fun σ2 H3=>tt σ2 H3 fun ok H4=>if ok=true then te σ2 H4 fun y H5=>ys.length < sizeLine/\N (ys++[y]) σ2 H5 else N ys σ2 H4)
def ee (LN:List Str) (fr:List Nat) (wi:TI) (g:TG) (tt:TT) (te:TE):TE:=fun Z H Q=>wi Z H fun J H1 =>
 ∃ W:Nat->Nat->List V->St->Hp->Prop,(∃ m,W 0 m [] (fj LN fr Z) H1)/\CW J g tt te W Q
theorem ut {pins:List (Addr×Obj)} {Z:St} {H2:Hp} {s2:Shared} {it:Addr} {fp:List Addr} {tn:Nat->Heap->Prop} {J:It} {cl:List (Str×Addr)} {W:Nat->Nat->List V->St->Hp->Prop} {Q:VK} {m0:Nat}
  {R:Value->Addr->Result->Shared->Prop} {E:Value->Shared->Prop}
  (hc:X.calm=true) (S:BkScope X.N sc X.env.scope LN FN fr)
  (hg:∀ cl C fp pins s H,PG (bkCx X LN FN sc cl C fp pins s H) tg g) (ht:∀ cl C fp pins s H,PTs (bkCx X LN FN sc cl C fp pins s H) ifs tt) (he:∀ cl C fp pins s H,BkIn X C fp pins s H->PE (bkX X LN FN sc cl C fp pins s H) elt te)
  (h1:∀ x c,cl.lookup x=some c->X.env.cells.lookup x=some c) (h2:∀ x,(x,NameKind.free)∈sc.names->∃ c,cl.lookup x=some c)
  (I2:Inv X pins Z H2 s2) (T:Turn X.prog X.w X.K tg J fp it tn) (st2:tn 0 s2.heap) (f2:∀ b∈fp,FpOk X pins H2 b) (w0:W 0 m0 [] (fj LN fr Z) H2) (turn:CW J g tt te W Q)
  (hR:∀ D C s' H' ys m,s'.heap.Ns C m->Inv X pins Z (upd H' D (.lst ys)) s'->FpOk X pins (upd H' D (.lst ys)) C->Q (.ref D) (upd H' D (.lst ys))->R (.ref D) C (.ok .next) s') (hRE:∀ D C e s',tu X C e s'->R (.ref D) C (.error e) s') :
  wpAny (model X.prog X.w) X.A (newList []) (fun acc s₃=>wpAny (model X.prog X.w) X.A (newFunctionEnv sc X.env.globals cl [] X.env.qual none .none (some X.env)) (fun cenv s₄ =>
   codeAny (model X.prog X.w) X.A (.compStart (.ListComp elt [⟨tg,iter,ifs,0⟩] sc pos) 0 (.ref it) acc { cenv with scope:=relabel sc X.env }) (R acc cenv.locals) s₄) E s₃) E s2:=by
 refine gW (wpAny_newFunctionEnv S.nocell (by intro y hy;simp at hy) (fun h₁ hns hsb=>?_) S.kind)
 dsimp only at hns hsb ⊢
 generalize hH2:s2.heap.push { cls:=.type "list",dict:=none,data:=.seq ([]:List Value).toArray }=G at hns hsb ⊢
 have hC:G.objs.size=s2.heap.objs.size+1:=by rw[<-hH2,dQ]
 have hDC:s2.heap.objs.size≠G.objs.size:=by rw[hC];exact bc (gw _)
 have hCle:s2.heap.objs.size<=G.objs.size:=by rw[hC];exact du _
 have old:∀ b o,s2.heap.get? b=some o->h₁.get? b=some o:=fun b o e =>
  hsb.extBut b o (by rw[hC];exact bc (qZ (aM e))) (aJ _ (hH2▸aJ _ e))
 have hacc:h₁.PlainList s2.heap.objs.size #[]:=⟨_,hsb.extBut _ _ hDC (aJ _ (hH2▸bp _ rfl))⟩
 have hfs:∀ b∈fp,∃ o,s2.heap.get? b=some o:=fun b hb=>let ⟨o,e,_⟩:=T.obj 0 _ st2 b hb;⟨o,e⟩
 have hflt:∀ b∈fp,b < s2.heap.objs.size:=fun b hb=>let ⟨o,e⟩:=hfs b hb;aM e
 generalize hD:s2.heap.objs.size=D at *
 generalize hCC:G.objs.size=C at *
 have I0:=ZnE (LN:=LN) (cl:=cl) (C:=C) (tk:=s2.toks+([]:List (Str×Value)).length) I2 S f2 hfs h1 h2 (by rw[hD];exact hCle) old hns
 have hin:BkIn X C fp pins s2 H2:=⟨⟨Z,I2⟩,f2,by rw[hD];exact hCle⟩
 have fD:FpOk X pins H2 D:=I2.fpOk (eE hD) (I2.hok.fresh (eE hD))
 have stD:∀ {pl:List (Addr×Obj)} {H':Hp},H' D=none->(∀ p∈pl,p.1≠D)->FpOk (bkCx X LN FN sc cl C fp pins s2 H2) pl H' D:=fun {pl H'} hn hp=>by
  refine ⟨hn,hDC,fun z=>?_,.inr (eE hD),fun x c e=>fD.2.2.2.2.1 x c (h1 x c e),fun p hp'=>?_⟩
  .exact (aG.mp (I2.stkSub D z)).elim fD.2.1 fD.2.2.1
  .have hp':p∈(X.pn++pins)++pl:=hp'
   rcases aT.mp hp' with q|q
   .exact fD.2.2.2.2.2 p q
   .exact hp p q
 have stat:∀ {pl:List (Addr×Obj)} {H':Hp},(∀ b∈fp,H' b=none)->(∀ p∈pl,p.1=D)->∀ b∈fp,FpOk (bkCx X LN FN sc cl C fp pins s2 H2) pl H' b:=fun {pl H'} hn hp b hb=>by
  obtain ⟨j,n1,n2,n3,n4,n5⟩:=f2 b hb
  refine ⟨hn b hb,bc (bD (hflt b hb) hCle),fun z=>?_,.inl hb,fun x c e=>n4 x c (h1 x c e),fun p hp'=>?_⟩
  .exact (aG.mp (I2.stkSub b z)).elim n1 n2
  .have hp':p∈(X.pn++pins)++pl:=hp'
   rcases aT.mp hp' with q|q
   .exact n5 p q
   .rw[hp p q]
    exact dr (hflt b hb)
 have pinD:∀ {s':Shared},∀ p∈cS [D] s'.heap,p.1=D:=fun p hp=>by simpa using (uM hp).1
 have key:∀ s₄:Shared,s₄={ s2 with heap:=h₁,toks:=s2.toks+([]:List (Str×Value)).length } ->
   codeAny (model X.prog X.w) X.A (.compLoop (.ListComp elt [⟨tg,iter,ifs,0⟩] sc pos) 0 (.ref it) (.ref D) (compEnvC sc cl C X.env)) (R (.ref D) C) s₄:=by
  rintro s₄ rfl
  refine ZjS (EB:=bkXe X sc cl C) (fun n s'=>∃ i ys σ' H' its,Inv (bkCx X LN FN sc cl C fp pins s2 H2) [] σ' H' s'/\tn i s'.heap/\(∀ b∈fp,H' b=none)/\W i n ys σ' H'/\Vals ys its/\s'.heap.PlainList D its.toArray/\H' D=none) ?_ (fun e s' h'=>cE h' (fun j s'' q=>hRE D C e s'' q) fun e' s'' q=>hRE D C e' s'' q) m0
   ⟨0,[],_,H2,[],I0,T.keep _ _ _ st2 (fun b j o e=>old b o e),fun b hb=>(f2 b hb).1,w0,.nil,hacc,fD.1⟩
  rintro n s3 hh
  refine opq ?_
  intro gg
  obtain ⟨i,ys,σ3,H3,its,I3,st3,fr3,w3,rv,pl,nD⟩:=hh
  have plo:∃ o,s3.heap.get? D=some o/\∀ v,o.data≠.cell v:=by
   obtain ⟨k,e⟩:=pl
   exact ⟨_,e,fun v z=>by cases z⟩
  have I3':Inv (bkCx X LN FN sc cl C fp pins s2 H2) ([]++cS [D] s3.heap) σ3 H3 s3:=I3.pinned (fp:=[D]) (fun b hb=>by
   obtain rfl:b=D:=by simpa using hb
   exact stD nD (fun j z=>nomatch z)) (fun b hb=>by
   obtain rfl:b=D:=by simpa using hb
   exact plo)
  have I3':Inv (bkCx X LN FN sc cl C fp pins s2 H2) (cS [D] s3.heap) σ3 H3 s3:=I3'
  have keepD:∀ {pl':List (Addr×Obj)} {σ':St} {H':Hp} {s':Shared},Inv (bkCx X LN FN sc cl C fp pins s2 H2) (cS [D] s3.heap++pl') σ' H' s'->s'.heap.PlainList D its.toArray/\H' D=none:=fun {pl' σ' H' s'} J=>by
   obtain ⟨k,e⟩:=pl
   have:=J.pin (D,_) (cZ _ (gS _ (jp (by simp) e)))
   exact ⟨⟨k,this.1⟩,this.2.1⟩
  have keepD0:∀ {σ':St} {H':Hp} {s':Shared},Inv (bkCx X LN FN sc cl C fp pins s2 H2) (cS [D] s3.heap) σ' H' s'->s'.heap.PlainList D its.toArray/\H' D=none:=fun {σ' H' s'} J=>by
   refine keepD (pl':=[]) (σ':=σ') ?_
   rw[bH]
   exact J
  rcases turn i n ys σ3 H3 w3 with ⟨stop,hlen,q⟩|⟨go,N,hN,step⟩
  .refine thn (T.done (bkCx X LN FN sc cl C fp pins s2 H2) rfl rfl rfl hc i (cS [D] s3.heap) s3 σ3 H3 _ I3' (stat fr3 (fun p hp=>pinD (s':=s3) p hp)) st3 stop) fun r s4 hh1=>?_
   refine opq ?_
   intro gg1
   obtain ⟨hr,I4⟩:=hh1
   subst hr
   obtain ⟨pl4,n4⟩:=keepD0 I4
   have u4:Un (frs X.stack) fp H2 (upd H3 D (.lst ys)) s2.heap s4.heap:=Un.track I4.base (eE hD) fD.1
   have nC:H3 C=none:=I4.free
   have o4:HOk X.prog X.w (upd H3 D (.lst ys)) s4.heap:=HOk.track I4.hok n4 (by
    obtain ⟨k,e⟩:=pl4
    exact ⟨hlen,its,k,rv,e⟩)
   have J:Inv X pins Z (upd H3 D (.lst ys)) s4:=I2.call' (s':=s4) (ch:=fp) I4.os u4 o4 I4.bare fun b hb=>by
    obtain ⟨j,n1,n2,n3,n4,n5⟩:=f2 b hb
    exact ⟨n3,n1,n4,n5⟩
   obtain ⟨m,hm,j⟩:=I4.loc
   exact hR D C s4 H3 ys m hm J (I2.fpOk (by rw[hD];exact hCle) (by rw[aP (Ne.symm hDC)];exact nC)) (q D n4)
  .refine thn (T.item (bkCx X LN FN sc cl C fp pins s2 H2) rfl rfl rfl hc i (cS [D] s3.heap) s3 σ3 H3 _ I3' (stat fr3 (fun p hp=>pinD (s':=s3) p hp)) st3 go) fun r s4 hh2=>?_
   refine opq ?_
   intro gg2
   obtain ⟨u,hr,h4⟩:=hh2
   subst hr
   refine thn h4 fun j s5 hh3=>?_
   refine opq ?_
   intro gg3
   obtain ⟨x,H5,I5,r5,y5,st5,fr5⟩:=hh3
   have I5':=I5.pinned (stat fr5 (fun p hp=>pinD (s':=s3) p hp)) (T.obj _ _ st5)
   refine thn (hg cl C fp pins s2 H2 _ s5 σ3 H5 x u _ I5' r5 (step x H5 y5)) fun j s6 hh4=>?_
   refine opq ?_
   intro gg4
   obtain ⟨σ6,H6,I6,q6⟩:=hh4
   refine thn (ht cl C fp pins s2 H2 _ s6 σ6 H6 _ I6 q6) fun ok s7 hh5=>?_
   obtain ⟨H7,I7,q7⟩:=hh5
   have again:∀ {s':Shared} {H':Hp},Inv (bkCx X LN FN sc cl C fp pins s2 H2) (cS [D] s3.heap++cS fp s5.heap) σ6 H' s'->tn (i+1) s'.heap/\∀ b∈fp,H' b=none:=fun {s' H'} J=>by
    refine ⟨T.keep _ _ _ st5 fun b hb o e=>(J.pin (b,o) (cZ _ (cZ _ (jp hb e)))).1,fun b hb=>?_⟩
    obtain ⟨o,e,d⟩:=T.obj _ _ st5 b hb
    exact (J.pin (b,o) (cZ _ (cZ _ (jp hb e)))).2.1
   have bare:∀ {s':Shared} {H':Hp},Inv (bkCx X LN FN sc cl C fp pins s2 H2) (cS [D] s3.heap++cS fp s5.heap) σ6 H' s'->Inv (bkCx X LN FN sc cl C fp pins s2 H2) [] σ6 H' s':=fun J=>J.pins_of fun p hp=>nomatch hp
   cases ok with
   | false =>
    rw[ah bo] at q7 ⊢
    obtain ⟨m',hm,w7⟩:=hN ys σ6 H7 q7
    obtain ⟨pl7,n7⟩:=keepD I7
    exact ⟨m',hm,i+1,ys,σ6,H7,its,bare I7,(again I7).1,(again I7).2,w7,rv,pl7,n7⟩
   | true =>
    rw[ag rfl] at q7 ⊢
    refine cE (he cl C fp pins s2 H2 hin _ s7 σ6 H7 _ (I7.wish _) q7) (fun v s8 hz8=>?_) fun j j z=>z
    obtain ⟨y,H8,I8,r8,hl8,q8⟩:=hz8
    have I8:=I8.unwish
    obtain ⟨m',hm,w8⟩:=hN _ σ6 H8 q8
    obtain ⟨pl8,n8⟩:=keepD I8
    obtain ⟨t8,f8⟩:=again I8
    have hsz:its.toArray.size<=sizeLine:=by
     have:=rv.length
     rw[bj,<- this]
     exact eZ hl8
    refine wpAny_list_append_plain pl8 (fun h' pl' sb=>?_) hsz
    refine ⟨m',hm,i+1,ys++[y],σ6,H8,its++[v],?_,?_,f8,w8,rv.append (.cons r8 .nil),?_,n8⟩
    .obtain ⟨d0,d1,d2,d3,d4,d5⟩:=stD (pl:=[]) n8 (fun j z=>nomatch z)
     exact (bare I8).turned (t':=s8.toks) (fun b o hb e=>(sb.2 b hb).trans e) d0 d1 d3 d4 d5
    .exact T.keep _ _ _ t8 fun b hb o e=>(sb.2 b (bc (hflt b hb))).trans e
    .simpa using pl'
 exact codeAny_compStart_list (key _ rfl) (T.self _ 0 _ _ _ (T.keep _ _ _ st2 fun b j o e=>old b o e) (key _ rfl))
theorem PE.any {E:Value->Shared->Prop} {e:Expr} {t:TE} (h:PE X e t) (hx:X.xe=fun j j=>False):PE (X.wish E) e t:=by
 intro pins s Z H Q I q
 refine cE (h pins s Z H Q I.unwish q) (fun v s1 h1=>?_) (fun j j z=>by rw[hx] at z;exact z.elim)
 obtain ⟨y,H1,I1,r1,q1⟩:=h1
 exact ⟨y,H1,I1.wish E,r1,q1⟩
theorem eL (hc:X.calm=true) (S:BkScope X.N sc X.env.scope LN FN fr) (hi:PI X tg iter wi)
  (hg:∀ cl C fp pins s H,PG (bkCx X LN FN sc cl C fp pins s H) tg g) (ht:∀ cl C fp pins s H,PTs (bkCx X LN FN sc cl C fp pins s H) ifs tt) (he:∀ cl C fp pins s H,PE (bkCx X LN FN sc cl C fp pins s H) elt te)
  (hs:∀ x,foldedSetIterable iter X.env x=pure x:=by intro j;rfl):PE X (.ListComp elt [⟨tg,iter,ifs,0⟩] sc pos) (ee LN fr wi g tt te):=by
 intro pins s Z H Q I h
 rw[eval_ListComp]
 obtain ⟨cl,ecl,h1,h2⟩:=ub (scope:=sc) (env:=X.env) fun y hy hk=>I.ok.has y.1 (S.free y hy hk)
 refine wpAny_comprehension_free (use:=none) rfl hs ecl S.kind S.names (thn (hi pins s Z H _ I h) fun v s1 q1=>thn q1 fun itv s2 q2=>?_)
 obtain ⟨it,fp,tn,J,H2,e,I2,T,st2,f2,W,⟨m0,w0⟩,turn⟩:=q2
 subst e
 refine ut (R:=fun acc C=>compPost (model X.prog X.w) X.A X.xe none (EP X pins Z Q) acc C) hc S hg ht (fun cl C fp pins s H j=>(he cl C fp pins s H).any rfl) h1 h2 I2 T st2 f2 w0 turn (fun D C s' H' ys m hn J fC q=>?_) (fun j j j j z=>z)
 refine ⟨m,hn,fun h' sb=>⟨.ref D,_,J.turned (t':=s'.toks) (fun b o hb e=>(sb.2 b hb).trans e) fC.1 fC.2.1 fC.2.2.2.1 fC.2.2.2.2.1 fC.2.2.2.2.2,rfl,q⟩⟩
theorem gp {i:Nat} {x:Str} {pos' pos2:Pos} (hc:X.calm=true) (hN:X.N.Nodup) (hix:X.N[i]?=some x) (hx:X.env.scope.names.lookup x=some .local) (S:BkScope X.N sc X.env.scope LN FN fr) (hi:PI X tg iter wi)
  (hg:∀ cl C fp pins s H,PG (bkCx X LN FN sc cl C fp pins s H) tg g) (ht:∀ cl C fp pins s H,PTs (bkCx X LN FN sc cl C fp pins s H) ifs tt) (he:∀ cl C fp pins s H,PE (bkCx X LN FN sc cl C fp pins s H) elt te)
  (hsw:swapsWith (.ListComp elt [⟨tg,iter,ifs,0⟩] sc pos) (some (.Name x pos')) pos2.line X.env=pure true:=by rfl)
  (hs:∀ x,foldedSetIterable iter X.env x=pure x:=by intro j;rfl):PS X (.Assign [.Name x pos'] (.ListComp elt [⟨tg,iter,ifs,0⟩] sc pos) pos2) (tAsg (ee LN fr wi g tt te) (dg i)):=by
 intro pins s Z H D0 I h
 rw[exec_Assign_Name_used _ _ _ _ hsw]
 refine ab (wpAny_standAt (ab ?_))
 show wpAny _ X.A (do let _ <- comprehension (.ListComp elt [⟨tg,iter,ifs,0⟩] sc pos) sc X.env _ (newList []) false (eval iter X.env) (some (assign (.Name x pos') X.env))) _ _ s
 obtain ⟨cl,ecl,h1,h2⟩:=ub (scope:=sc) (env:=X.env) fun y hy hk=>I.ok.has y.1 (S.free y hy hk)
 refine ab (cE (wpAny_comprehension_free (use:=some (assign (.Name x pos') X.env)) (Q:=fun j s'=>SP X pins D0 .next s') rfl hs ecl S.kind S.names (thn (hi pins s Z H _ I h) fun v s1 q1=>thn q1 fun itv s2 q2=>?_))
  (fun j s' hq=>am (am hq)) fun j j e=>e)
 obtain ⟨it,fp,tn,J,H2,e,I2,T,st2,f2,W,⟨m0,w0⟩,turn⟩:=q2
 subst e
 refine ut (R:=fun acc C=>compPost (model X.prog X.w) X.A X.xe (some (assign (.Name x pos') X.env)) (fun j s'=>SP X pins D0 .next s') acc C) hc S hg ht (fun cl C fp pins s H j=>(he cl C fp pins s H).any rfl) h1 h2 I2 T st2 f2 w0 turn (fun D C s' H' ys m hn J fC q=>?_) (fun j j j j z=>z)
 show wpAny _ X.A (assign (.Name x pos') X.env (.ref D)) _ _ s'
 refine wpAny_assign_Name (rT J hN hix (.inl hx) (show RelV (.ref D) (.ref D) from rfl) (fun s'' J2 ⟨a,sb2,ha⟩=>?_) (.inr hx))
 have nCa:C≠a:=by
  rcases ha with z|z
  .rw[z];exact fC.2.1
  .exact fun q=>fC.2.2.2.2.1 x a z q.symm
 refine ⟨m,hn.sameBut sb2 nCa,fun h' sb=>⟨_,_,J2.turned (t':=s''.toks) (fun b o hb e=>(sb.2 b hb).trans e) fC.1 fC.2.1 fC.2.2.2.1 fC.2.2.2.2.1 fC.2.2.2.2.2,q⟩⟩
end
inductive D where
 | non|bl (b:Bool)|int (i:Int)|str (x:Str)|tup (ds:List D)
mutual
def Rep (H:Hp):D->V->Prop
 | .non,v=>v=.non
 | .bl b,v=>v=.bl b
 | .int i,v=>v=.int i
 | .str x,v=>v=.str x
 | .tup ds,v=>∃ a xs,v=.ref a/\H a=some (.tup xs)/\Reps H ds xs
def Reps (H:Hp):List D->List V->Prop
 | [],vs=>vs=[]
 | d::ds,vs=>∃ v r,vs=v::r/\Rep H d v/\Reps H ds r
end
def pi (H H':Hp):Prop:=∀ a xs,H a=some (.tup xs)->H' a=some (.tup xs)
theorem Same.new {H:Hp} {a:Addr} {o:HO} (h:H a=none):Same H (upd H a o):=fun b u e=>by rw[aP (gQ e h)];exact e
mutual
theorem Rep.mono {H H' : Hp} (t : pi H H') : ∀ {d : D} {v : V}, Rep H d v -> Rep H' d v
  | .non, _, h => by simpa [Rep] using h
  | .bl _, _, h => by simpa [Rep] using h
  | .int _, _, h => by simpa [Rep] using h
  | .str _, _, h => by simpa [Rep] using h
  | .tup ds, v, h => by
    rw[Rep] at h ⊢
    obtain ⟨a,xs,e,ha,r⟩:=h
    exact ⟨a, xs, e, t a xs ha, Reps.mono t r⟩
theorem Reps.mono {H H' : Hp} (t : pi H H') : ∀ {ds : List D} {vs : List V}, Reps H ds vs -> Reps H' ds vs
  | [], _, h => by simpa [Reps] using h
  | d :: ds, vs, h => by
    rw[Reps] at h ⊢
    obtain ⟨v,r,e,h1,h2⟩:=h
    exact ⟨v, r, e, Rep.mono t h1, Reps.mono t h2⟩
end
theorem Zoz {H:Hp} {a:Addr} {xs:List V} {ds:List D} (h:H a=some (.tup xs)) (r:Reps H ds xs):Rep H (.tup ds) (.ref a):=by rw[Rep];exact ⟨a,xs,rfl,h,r⟩
theorem jM {H:Hp}:Reps H [] []:=by rw[Reps]
theorem ZkD {H:Hp} {d:D} {ds:List D} {v:V} {vs:List V} (h:Rep H d v) (r:Reps H ds vs):Reps H (d::ds) (v::vs):=by rw[Reps];exact ⟨v,vs,rfl,h,r⟩
theorem nk {H:Hp} {v:V} {ds:List D} (h:Rep H (.tup ds) v):∃ a xs,v=.ref a/\H a=some (.tup xs)/\Reps H ds xs:=by rwa [Rep] at h
theorem p9 {H:Hp} {vs:List V} (h:Reps H [] vs):vs=[]:=by rwa [Reps] at h
theorem gN {H:Hp} {d:D} {ds:List D} {vs:List V} (h:Reps H (d::ds) vs):∃ v r,vs=v::r/\Rep H d v/\Reps H ds r:=by rwa [Reps] at h
theorem Reps.length {H : Hp} : ∀ {ds : List D} {vs : List V}, Reps H ds vs -> ds.length = vs.length
  | [], vs, h => by rw[p9 h]; rfl
  | d :: ds, vs, h => by
    obtain ⟨v,r,rfl,j,h2⟩:=gN h
    simp[Reps.length h2]
theorem Reps.get {H : Hp} : ∀ {ds : List D} {vs : List V} {i : Nat} {d : D}, Reps H ds vs -> ds[i]? = some d -> ∃ v, vs[i]? = some v /\ Rep H d v
  | [], vs, i, d, h, e => by simp at e
  | d :: ds, vs, 0, d', h, e => by
    obtain ⟨v,r,rfl,h1,h2⟩:=gN h
    simp at e;subst e
    exact ⟨v,rfl,h1⟩
  | d :: ds, vs, i + 1, d', h, e => by
    obtain ⟨v,r,rfl,h1,h2⟩:=gN h
    obtain ⟨u,e1,e2⟩:=Reps.get (i:=i) (d:=d') h2 (by simpa using e)
    exact ⟨u, by simpa using e1, e2⟩
mutual
def D.pl:D->Bool
 | .bl _=>false
 | .tup ds=>D.pls ds
 | _=>true
def D.pls:List D->Bool
 | []=>true
 | d::ds=>d.pl && D.pls ds
end
mutual
def D.dep:D->Nat
 | .tup ds=>D.deps ds+1
 | _=>0
def D.deps:List D->Nat
 | []=>0
 | d::ds=>max d.dep (D.deps ds)
end
theorem D.pls_get : ∀ {ds : List D} {i : Nat} {d : D}, D.pls ds = true -> ds[i]? = some d -> d.pl = true
  | [], i, d, _, e => by simp at e
  | d :: ds, 0, d', h, e => by
    simp at e;subst e
    rw[D.pls,fN] at h
    exact h.1
  | d :: ds, i + 1, d', h, e => by
    rw[D.pls,fN] at h
    exact D.pls_get (i := i) h.2 (by simpa using e)
theorem D.deps_get : ∀ {ds : List D} {i : Nat} {d : D}, ds[i]? = some d -> d.dep <= D.deps ds
  | [], i, d, e => by simp at e
  | d :: ds, 0, d', e => by
    simp at e;subst e
    rw[D.deps];lia
  | d :: ds, i + 1, d', e => by
    have:=D.deps_get (ds:=ds) (i:=i) (d:=d') (by simpa using e)
    rw[D.deps]; lia
open Classical in
def eqD (d e:D):Bool:=decide (d=e)
theorem eqD_true {d e:D}:eqD d e=true↔d=e:=by unfold eqD;simp
theorem fu {d:D}:eqD d d=true:=eqD_true.mpr rfl
theorem cp {d e:D} (h:d≠e):eqD d e=false:=by unfold eqD;simp[h]
theorem Zpv {i j:Int}:eqD (.int i) (.int j)=(i == j):=by
 by_cases h:i=j
 .subst h;rw[fu];simp
 .rw[cp (by intro z;cases z;exact h rfl)];simp[h]
theorem Zpu {i j:Str}:eqD (.str i) (.str j)=(i == j):=by
 by_cases h:i=j
 .subst h;rw[fu];simp
 .rw[cp (by intro z;cases z;exact h rfl)];simp[h]
def eN (ds es:List D) (f:D->D->Bool) (j:Nat):Bool:=match ds[j]?,es[j]? with|some a,some b=>f a b|_,_=>false
theorem l0 {ds es:List D}:((List.range (min ds.length es.length)).all (eN ds es eqD) && ds.length == es.length)=eqD (.tup ds) (.tup es):=by
 by_cases h:ds=es
 .subst h
  rw[fu]
  simp only[beq_self_eq_true,Bool.and_true,j3,cN]
  intro j hj
  have hj:j < ds.length:=by lia
  unfold eN
  rw[ax hj]
  exact fu
 .rw[cp (by intro z;cases z;exact h rfl)]
  by_cases hl:ds.length=es.length
  .rw[Bool.and_eq_false_iff]
   left
   rw[<-Bool.not_eq_true]
   intro hall
   apply h
   refine iI fun j=>?_
   by_cases hj:j < ds.length
   .have hj':j < es.length:=by lia
    have:=j3.mp hall j (cN.mpr (by lia))
    unfold eN at this
    rw[ax hj,ax hj'] at this
    rw[ax hj,ax hj',eqD_true.mp this]
   .rw[nW (by lia),nW (by lia)]
  .rw[Bool.and_eq_false_iff]
   right
   simpa using hl
section
variable {X:Cx} {pins:List (Addr×Obj)} {Z:St} {H:Hp} {s:Shared}
theorem Inv.isTup (I:Inv X pins Z H s) {a:Addr} {xs:List V} (h:H a=some (.tup xs)):∃ its:List Value,Vals xs its/\s.heap.IsTuple a its.toArray:=by
 obtain ⟨j,its,r,p⟩:=(show ObjOk X.prog X.w H s.heap a (.tup xs) from I.hok a _ h)
 exact ⟨its,r,p⟩
theorem uj (I:Inv X pins Z H s) {d e:D} {x y:V} {u v:Value} {A:Around} (hd:d.dep=0) (pd:d.pl=true) (pe:e.pl=true) (rd:Rep H d x) (re:Rep H e y) (ru:RelV x u) (rv:RelV y v) (hu:A.units < cLine):SeqAt.EqAt A s u v (eqD d e):=by
 cases d with
 | tup ds=>rw[D.dep] at hd;lia
 | bl b=>simp[D.pl] at pd
 | non =>
  rw[Rep] at rd;subst rd;cases ru
  cases e with
  | bl b=>simp[D.pl] at pe
  | non=>rw[Rep] at re;subst re;cases rv;rw[fu];exact SeqAt.EqAt.same _
  | int b=>rw[Rep] at re;subst re;obtain ⟨t,rfl⟩:=rv;rw[cp (by intro z;cases z)];exact vQ b t
  | str b=>rw[Rep] at re;subst re;obtain ⟨t,rfl⟩:=rv;rw[cp (by intro z;cases z)];exact vR b t
  | tup es =>
   rw[Rep] at re
   obtain ⟨a,xs,rfl,ha,j⟩:=re
   cases rv
   obtain ⟨its,j,ht⟩:=I.isTup ha
   rw[cp (by intro z;cases z)]
   exact SeqAt.EqAt.none_tuple ht hu
 | int i =>
  rw[Rep] at rd;subst rd;obtain ⟨t,rfl⟩:=ru
  cases e with
  | bl b=>simp[D.pl] at pe
  | non=>rw[Rep] at re;subst re;cases rv;rw[cp (by intro z;cases z)];exact vS i t
  | int b=>rw[Rep] at re;subst re;obtain ⟨t',rfl⟩:=rv;rw[Zpv];exact qU i t b t'
  | str b=>rw[Rep] at re;subst re;obtain ⟨t',rfl⟩:=rv;rw[cp (by intro z;cases z)];exact qR i t b t'
  | tup es =>
   rw[Rep] at re
   obtain ⟨a,xs,rfl,ha,j⟩:=re
   cases rv
   obtain ⟨its,j,ht⟩:=I.isTup ha
   rw[cp (by intro z;cases z)]
   exact SeqAt.EqAt.int_tuple i t ht hu
 | str i =>
  rw[Rep] at rd;subst rd;obtain ⟨t,rfl⟩:=ru
  cases e with
  | bl b=>simp[D.pl] at pe
  | non=>rw[Rep] at re;subst re;cases rv;rw[cp (by intro z;cases z)];exact vT i t
  | int b=>rw[Rep] at re;subst re;obtain ⟨t',rfl⟩:=rv;rw[cp (by intro z;cases z)];exact qS i t b t'
  | str b=>rw[Rep] at re;subst re;obtain ⟨t',rfl⟩:=rv;rw[Zpu];exact qV i t b t'
  | tup es =>
   rw[Rep] at re
   obtain ⟨a,xs,rfl,ha,j⟩:=re
   cases rv
   obtain ⟨its,j,ht⟩:=I.isTup ha
   rw[cp (by intro z;cases z)]
   exact SeqAt.EqAt.str_tuple i t ht hu
mutual
theorem Rep.inj {H : Hp} : ∀ {d e : D} {v : V}, Rep H d v -> Rep H e v -> d = e
  | .non, .non, _, _, _ => rfl
  | .bl a, .bl b, v, h, h' => by simp only[Rep] at h h'; rw[h] at h'; cases h'; rfl
  | .int a, .int b, v, h, h' => by simp only[Rep] at h h'; rw[h] at h'; cases h'; rfl
  | .str a, .str b, v, h, h' => by simp only[Rep] at h h'; rw[h] at h'; cases h'; rfl
  | .tup ds, .tup es, v, h, h' => by
    rw[Rep] at h h'
    obtain ⟨a,xs,rfl,ha,r⟩:=h
    obtain ⟨b,ys,e,hb,r'⟩:=h'
    cases e
    rw[ha] at hb;cases hb
    rw[Reps.inj r r']
  | .non, .bl _, v, h, h' => by simp only[Rep] at h h'; rw[h] at h'; cases h'
  | .non, .int _, v, h, h' => by simp only[Rep] at h h'; rw[h] at h'; cases h'
  | .non, .str _, v, h, h' => by simp only[Rep] at h h'; rw[h] at h'; cases h'
  | .non, .tup _, v, h, h' => by simp only[Rep] at h h'; obtain ⟨j, j, e, j⟩ := h'; rw[h] at e; cases e
  | .bl _, .non, v, h, h' => by simp only[Rep] at h h'; rw[h] at h'; cases h'
  | .bl _, .int _, v, h, h' => by simp only[Rep] at h h'; rw[h] at h'; cases h'
  | .bl _, .str _, v, h, h' => by simp only[Rep] at h h'; rw[h] at h'; cases h'
  | .bl _, .tup _, v, h, h' => by simp only[Rep] at h h'; obtain ⟨j, j, e, j⟩ := h'; rw[h] at e; cases e
  | .int _, .non, v, h, h' => by simp only[Rep] at h h'; rw[h] at h'; cases h'
  | .int _, .bl _, v, h, h' => by simp only[Rep] at h h'; rw[h] at h'; cases h'
  | .int _, .str _, v, h, h' => by simp only[Rep] at h h'; rw[h] at h'; cases h'
  | .int _, .tup _, v, h, h' => by simp only[Rep] at h h'; obtain ⟨j, j, e, j⟩ := h'; rw[h] at e; cases e
  | .str _, .non, v, h, h' => by simp only[Rep] at h h'; rw[h] at h'; cases h'
  | .str _, .bl _, v, h, h' => by simp only[Rep] at h h'; rw[h] at h'; cases h'
  | .str _, .int _, v, h, h' => by simp only[Rep] at h h'; rw[h] at h'; cases h'
  | .str _, .tup _, v, h, h' => by simp only[Rep] at h h'; obtain ⟨j, j, e, j⟩ := h'; rw[h] at e; cases e
  | .tup _, .non, v, h, h' => by simp only[Rep] at h h'; obtain ⟨j, j, e, j⟩ := h; rw[h'] at e; cases e
  | .tup _, .bl _, v, h, h' => by simp only[Rep] at h h'; obtain ⟨j, j, e, j⟩ := h; rw[h'] at e; cases e
  | .tup _, .int _, v, h, h' => by simp only[Rep] at h h'; obtain ⟨j, j, e, j⟩ := h; rw[h'] at e; cases e
  | .tup _, .str _, v, h, h' => by simp only[Rep] at h h'; obtain ⟨j, j, e, j⟩ := h; rw[h'] at e; cases e
theorem Reps.inj {H : Hp} : ∀ {ds es : List D} {vs : List V}, Reps H ds vs -> Reps H es vs -> ds = es
  | [], [], _, _, _ => rfl
  | [], e :: es, vs, h, h' => by rw[p9 h] at h'; obtain ⟨j, j, z, j⟩ := gN h'; cases z
  | d :: ds, [], vs, h, h' => by rw[p9 h'] at h; obtain ⟨j, j, z, j⟩ := gN h; cases z
  | d :: ds, e :: es, vs, h, h' => by
    obtain ⟨v,r,rfl,h1,h2⟩:=gN h
    obtain ⟨v',r',z,h1',h2'⟩:=gN h'
    cases z
    rw[Rep.inj h1 h1', Reps.inj h2 h2']
end
theorem eqAt_D (I:Inv X pins Z H s):∀ (n:Nat) {d e:D} {x y:V} {u v:Value} {A:Around},d.dep<=n->d.pl=true->e.pl=true->Rep H d x->Rep H e y->RelV x u->RelV y v->A.units+n < cLine->SeqAt.EqAt A s u v (eqD d e):=by
 intro n
 induction n with
 | zero =>
  intro d e x y u v A hn pd pe rd re ru rv hu
  exact uj I (by lia) pd pe rd re ru rv (by lia)
 | succ n ih =>
  intro d e x y u v A hn pd pe rd re ru rv hu
  by_cases h0:d.dep=0
  .exact uj I h0 pd pe rd re ru rv (by lia)
  .cases d with
   | non=>simp[D.dep] at h0
   | bl _=>simp[D.dep] at h0
   | int _=>simp[D.dep] at h0
   | str _=>simp[D.dep] at h0
   | tup ds =>
    obtain ⟨a,xs,rfl,ha,r⟩:=nk rd
    cases ru
    obtain ⟨its,vx,ht⟩:=I.isTup ha
    cases e with
    | bl b=>simp[D.pl] at pe
    | non=>rw[Rep] at re;subst re;cases rv;rw[cp (by intro z;cases z)];exact SeqAt.EqAt.tuple_none ht (by lia)
    | int b=>rw[Rep] at re;subst re;obtain ⟨t,rfl⟩:=rv;rw[cp (by intro z;cases z)];exact SeqAt.EqAt.tuple_int b t ht (by lia)
    | str b=>rw[Rep] at re;subst re;obtain ⟨t,rfl⟩:=rv;rw[cp (by intro z;cases z)];exact SeqAt.EqAt.tuple_str b t ht (by lia)
    | tup es =>
     obtain ⟨b,ys,rfl,hb,r'⟩:=nk re
     cases rv
     by_cases hab:a=b
     .subst hab
      rw[Rep.inj rd re,fu]
      exact SeqAt.EqAt.same _
     .obtain ⟨its',vy,ht'⟩:=I.isTup hb
      refine vU hab ?_
      have l1:=vx.length
      have l2:=vy.length
      have l3:=r.length
      have l4:=r'.length
      have key:=SeqAt.RcAt.tuples (A:=A) (e:=eN ds es eqD) ht ht' (by lia) fun j h1 h2=>?_
      .rw[<-l0,l3,l4,l1,l2]
       simpa using key
      .have h1':j < its.length:=by simpa using h1
       have h2':j < its'.length:=by simpa using h2
       have e1:ds[j]?=some (ds[j]'(by lia)):=ax _
       have e2:es[j]?=some (es[j]'(by lia)):=ax _
       obtain ⟨v1,q1,p1⟩:=r.get e1
       obtain ⟨v2,q2,p2⟩:=r'.get e2
       obtain ⟨u1,z1,w1⟩:=vx.get q1
       obtain ⟨u2,z2,w2⟩:=vy.get q2
       have y1:its.toArray[j]=u1:=by
        have:its[j]?=some its[j]:=ax h1'
        rw[z1] at this
        simpa using (Option.some.inj this).symm
       have y2:its'.toArray[j]=u2:=by
        have:its'[j]?=some its'[j]:=ax h2'
        rw[z2] at this
        simpa using (Option.some.inj this).symm
       rw[y1,y2]
       unfold eN
       rw[e1,e2]
       rw[D.dep] at hn
       have hdep:=D.deps_get e1
       rw[D.pl] at pd pe
       exact ih (by lia) (D.pls_get pd e1) (D.pls_get pe e2) p1 p2 w1 w2 (by show A.units+1+n < cLine;lia)
end
end L2
end
section
namespace L2
open PySem PySem.Spec PyProof.Rows
section
variable {X:Cx}
def rEqD:R2:=fun x y H Q=>∃ ds es,Rep H (.tup ds) x/\Rep H (.tup es) y/\D.pls ds=true/\D.pls es=true/\D.deps ds<=40/\Q (.bl (eqD (.tup ds) (.tup es))) H
theorem pX {X:Cx} {pins:List (Addr×Obj)} {Z:St} {H:Hp} {s:Shared} {A:Around} (I:Inv X pins Z H s) {ds es:List D} {xs ys:List V} {its its':List Value} (vx:Vals xs its) (vy:Vals ys its') (r:Reps H ds xs) (r':Reps H es ys) (pd:D.pls ds=true) (pe:D.pls es=true)
  (hd:D.deps ds<=40) (hu:A.units+40 < cLine):∀ j (h1:j < its.toArray.size) (h2:j < its'.toArray.size),SeqAt.EqAt A s its.toArray[j] its'.toArray[j] (eN ds es eqD j):=by
 intro j h1 h2
 have l1:=vx.length
 have l2:=vy.length
 have l3:=r.length
 have l4:=r'.length
 have h1':j < its.length:=by simpa using h1
 have h2':j < its'.length:=by simpa using h2
 have e1:ds[j]?=some (ds[j]'(by lia)):=ax _
 have e2:es[j]?=some (es[j]'(by lia)):=ax _
 obtain ⟨v1,q1,p1⟩:=r.get e1
 obtain ⟨v2,q2,p2⟩:=r'.get e2
 obtain ⟨u1,z1,w1⟩:=vx.get q1
 obtain ⟨u2,z2,w2⟩:=vy.get q2
 have y1:its.toArray[j]=u1:=by
  have:its[j]?=some its[j]:=ax h1'
  rw[z1] at this
  simpa using (Option.some.inj this).symm
 have y2:its'.toArray[j]=u2:=by
  have:its'[j]?=some its'[j]:=ax h2'
  rw[z2] at this
  simpa using (Option.some.inj this).symm
 rw[y1,y2]
 unfold eN
 rw[e1,e2]
 have hdep:=D.deps_get e1
 exact eqAt_D I 40 (by lia) (D.pls_get pd e1) (D.pls_get pe e2) p1 p2 w1 w2 hu
theorem uF (hu:X.A.units+64 < cLine):OpR X (compareOp .Eq) rEqD:=by
 rintro pins s Z H x y v u Q I rx ry ⟨ds,es,h1,h2,pd,pe,hd,q⟩
 obtain ⟨a,xs,rfl,ha,r⟩:=nk h1
 obtain ⟨b,ys,rfl,hb,r'⟩:=nk h2
 cases rx;cases ry
 obtain ⟨its,vx,ht⟩:=I.isTup ha
 obtain ⟨its',vy,ht'⟩:=I.isTup hb
 refine SeqAt.eq_tupleAt (e:=eN ds es eqD) ht ht' (by lia) (pX (A:=X.A.in1) I vx vy r r' pd pe hd (by show X.A.units+1+40 < cLine;lia)) ?_
 refine aV I q ?_
 rw[<-l0,r.length,r'.length,vx.length,vy.length]
 simp
def rEqL (K:W.Frag):R2:=fun x y H Q=>∃ a b xs ys ds es,x=.ref a/\y=.ref b/\SqL K H a xs/\SqL K H b ys/\Reps H ds xs/\Reps H es ys/\D.pls ds=true/\D.pls es=true/\D.deps ds<=40/\Q (.bl (eqD (.tup ds) (.tup es))) H
def rNeL (K:W.Frag):R2:=fun x y H Q=>∃ a b xs ys ds es,x=.ref a/\y=.ref b/\SqL K H a xs/\SqL K H b ys/\Reps H ds xs/\Reps H es ys/\D.pls ds=true/\D.pls es=true/\D.deps ds<=40/\Q (.bl (!eqD (.tup ds) (.tup es))) H
theorem op_eqL (hu:X.A.units+64 < cLine):OpR X (compareOp .Eq) (rEqL X.K):=by
 rintro pins s Z H x y v u Q I rx ry ⟨a,b,xs,ys,ds,es,rfl,rfl,ha,hb,r,r',pd,pe,hd,q⟩
 cases rx;cases ry
 obtain ⟨its,vx,ht,j⟩:=I.list ha
 obtain ⟨its',vy,ht',j⟩:=I.list hb
 by_cases hl:its.length=its'.length
 .refine SeqAt.eq_listAt (e:=eN ds es eqD) ht.isList ht'.isList (by simpa using hl) (by lia) (pX (A:=X.A.in1) I vx vy r r' pd pe hd (by show X.A.units+1+40 < cLine;lia)) ?_
  refine aV I q ?_
  rw[<-l0,r.length,r'.length,vx.length,vy.length,hl]
  simp[hl]
 .refine SeqAt.eq_list_lengthsAt ht.isList ht'.isList (by simpa using hl) (by lia) (aV I q ?_)
  refine cp fun z=>hl ?_
  cases z
  rw[<-vx.length,<- vy.length,<- r.length,<- r'.length]
theorem op_neL (hu:X.A.units+64 < cLine):OpR X (compareOp .NotEq) (rNeL X.K):=by
 rintro pins s Z H x y v u Q I rx ry ⟨a,b,xs,ys,ds,es,rfl,rfl,ha,hb,r,r',pd,pe,hd,q⟩
 cases rx;cases ry
 obtain ⟨its,vx,ht,j⟩:=I.list ha
 obtain ⟨its',vy,ht',j⟩:=I.list hb
 by_cases hl:its.length=its'.length
 .refine SeqAt.RcNeAt.lists (e:=eN ds es eqD) ht.isList ht'.isList (by simpa using hl) (by lia) (pX (A:=X.A.in1) I vx vy r r' pd pe hd (by show X.A.units+1+40 < cLine;lia)) _ _ _ _ ?_
  refine aV I q ?_
  rw[<-l0,r.length,r'.length,vx.length,vy.length,hl]
  simp[hl]
 .refine vV ht.isList ht'.isList (by simpa using hl) (by lia) _ _ _ _ (aV I q ?_)
  rw[cp fun z=>hl ?_]
  .rfl
  .cases z
   rw[<-vx.length,<- vy.length,<- r.length,<- r'.length]
theorem op_isB:OpR X (compareOp .Is) (fun x y H Q=>∃ a b,x=.bl a/\y=.bl b/\Q (.bl (a == b)) H):=by
 rintro pins s Z H x y v u Q I rx ry ⟨a,b,rfl,rfl,q⟩
 cases rx;cases ry
 exact is_bool ⟨.bl _,H,I,rfl,q⟩
theorem Zk2:OpR X (compareOp .IsNot) (fun x y H Q=>∃ a b,x=.bl a/\y=.bl b/\Q (.bl (a != b)) H):=by
 rintro pins s Z H x y v u Q I rx ry ⟨a,b,rfl,rfl,q⟩
 cases rx;cases ry
 exact isnot_bool ⟨.bl _,H,I,rfl,q⟩
def CBig (i j:Int):Prop:=i.natAbs < 2 ^ 8000/\j.natAbs < 2 ^ 8000
theorem rP {i:Int} (h:i.natAbs < 2 ^ 8000):Builtin.Int.intBits i<=8000:=by
 unfold Builtin.Int.intBits
 by_cases h0:i=0
 .simp[h0]
 .have:(i == 0)=false:=by simpa using h0
  rw[this]
  have:=(nX (show i.natAbs≠0 by lia)).mpr h
  simp
  lia
theorem CBig.ok {i j:Int} (h:CBig i j):IntMulOk i j:=by
 unfold IntMulOk
 have h1:=rP h.1
 have h2:=rP h.2
 have hb:Builtin.Int.intTooBig (Builtin.Int.intBits i+Builtin.Int.intBits j)=false:=by
  unfold Builtin.Int.intTooBig
  rw[aL]
  have:(16000:Int)<=bitsLine:=by decide
  lia
 rw[hb]
 simp
theorem dY:OpR X (binaryOp .Mult) (rI CBig fun i j=>.int (i * j)):=opI fun z z z z z z z hc q=>mul_int q hc.ok
def qy (i j:Int):Prop:=0 < j/\j.natAbs < 2 ^ 8000
theorem uJ:OpR X (binaryOp .FloorDiv) (rI qy fun i j=>.int (i / j)):=opI fun i j z z z z z hc q=>by
 have hj:j≠0:=by have:=hc.1;lia
 refine floordiv_int hj ?_ (.inl (PyProof.noPylong_of_log2 ?_))
 .rw[Int.fdiv_eq_ediv_of_nonneg _ (by have:=hc.1;lia)]
  exact q
 .have:=(nX (show j.natAbs≠0 by lia)).mpr hc.2
  lia
theorem Zns (hc:X.calm=true):bA X (.builtin "sum") (fun xs H Q=>∃ (a:Addr) (ns:List Int),xs=[.ref a]/\SqL X.K H a (ns.map V.int)/\Q (.int ns.sum) H):=by
 intro pins s Z H xs us Q I r h
 obtain ⟨a,ns,rfl,ha,q⟩:=h
 obtain ⟨u,rfl,ru⟩:=vals1 r
 cases ru
 obtain ⟨its,vx,ht,j⟩:=I.list ha
 have hi:=intsAre_of vx
 obtain ⟨ps,e⟩:=hi.allInts.items
 refine sum_intListG (xs:=ps) (I.ok.hd hc) (by rw[<-e];exact ht.isList) fun h' tk t' hk=>⟨.int ns.sum,H,I.kept hk,⟨t',?_⟩,q⟩
 congr 1
 rw[preSum_eq,nY (by simp)]
 have e2:=hi.numsOf
 have e3:numsOf (intItems ps).toList=ns:=by rw[<-e];exact e2
 rw[nums_intItems] at e3
 rw[<-e3]
def isi (t T:String):Bool:=t == T || (t == "bool" && T == "int")
theorem kit_of {K:W.Frag}:∀ {t T:String},t∈["int","bool","str","tuple","list","dict","NoneType"]->T∈["int","bool","str","tuple","list","dict"]->PySem.W.kitOne K (.type t) (.type T)=some (isi t T):=by
 intro t T ht hT
 simp only[aG,mem_nil_iff,ci] at ht hT
 rcases ht with rfl|rfl|rfl|rfl|rfl|rfl|rfl <;> rcases hT with rfl|rfl|rfl|rfl|rfl|rfl <;> with_unfolding_all rfl
def tyO:Option HO->Option String
 | some (.lst _)=>some "list"
 | some (.frz _ (.lst _))=>some "list"
 | some (.tup _)=>some "tuple"
 | some (.dK _)=>some "dict"
 | some (.dT _)=>some "dict"
 | _=>none
def tyN (H:Hp):V->Option String
 | .non=>some "NoneType"
 | .bl _=>some "bool"
 | .int _=>some "int"
 | .str _=>some "str"
 | .ref a=>tyO (H a)
 | _=>none
theorem tyN_of {K:W.Frag} {H:Hp} {x:V} {t:String} (h:tyN H x=some t):TyOf K H x (.type t)/\t∈["int","bool","str","tuple","list","dict","NoneType"]:=by
 cases x with
 | non=>cases h;exact ⟨.non,by decide⟩
 | bl b=>cases h;exact ⟨.bl b,by decide⟩
 | int i=>cases h;exact ⟨.int i,by decide⟩
 | str y=>cases h;exact ⟨.str y,by decide⟩
 | ref a =>
  have h:tyO (H a)=some t:=h
  cases e:H a with
  | none=>rw[e] at h;cases h
  | some o =>
   rw[e] at h
   cases o with
   | lst _=>cases h;exact ⟨.lst e,by decide⟩
   | frz _ o =>
    cases o with
    | lst _=>cases h;exact ⟨.frz e,by decide⟩
    | _=>cases h
   | tup _=>cases h;exact ⟨.tup e,by decide⟩
   | dK _=>cases h;exact ⟨.dK e,by decide⟩
   | dT _=>cases h;exact ⟨.dT e,by decide⟩
   | _=>cases h
 | byt _=>cases h
 | flt _=>cases h
 | ty _=>cases h
def rIsi:List V->Hp->VK->Prop:=fun xs H Q=>∃ x T t,xs=[x,.ty T]/\tyN H x=some t/\T∈["int","bool","str","tuple","list","dict"]/\Q (.bl (isi t T)) H
theorem vM:bA X (.builtin "isinstance") rIsi:=by
 intro pins s Z H xs us Q I r h
 obtain ⟨x,T,t,rfl,ht,hT,q⟩:=h
 cases r with
 | cons r1 r2 =>
  cases r2 with
  | cons r3 r4 =>
   cases r4
   cases r3
   obtain ⟨ty,hm⟩:=tyN_of (K:=X.K) ht
   exact Zlw I r1 ty (kit_of hm hT) fun tk=>⟨.bl _,H,I.tok _,rfl,q⟩
end
structure Callee (P:Program) (w:World) (K:W.Frag) (mg:Str->Option Value) (base:Heap) (x:Str) (k:Nat) (ps:List Str) (sp:Sp):Prop where
 ex:∃ f fd,FnOk P w K mg base CX0 k f fd ps sp/\mg x=some (.ref f)/\PySem.W.keepIn K (.ref f)=true/\Binds K fd ps []
theorem pe_fn {X:Cx} {x:Str} {k:Nat} {ps:List Str} {sp:Sp} {p pos:Pos} {e:Expr} {es:List Expr} {t:TA} (C:Callee X.prog X.w X.K X.mg X.base x k ps sp) (hr:Room k X.A) (hg:Gl X x) (ha:PA X (e::es) t) (hdb:(x == ("__debug__":Str))=false:=by decide)
  (he:starEach (e::es) X.env=(false,eval e X.env)::starEach es X.env:=by rfl) (hpl:(backTo pos (starEach es X.env)).any (·.1)=false:=by rfl) :
  PE X (.Call (.Name x p) (e::es) [] pos) (gi sp [] E0 t):=by
 obtain ⟨f,fd,F,hm,hk,hb⟩:=C.ex
 exact ZoY F hr hg hm hk hb .nil nu ha hdb he hpl
section
variable {K:W.Frag} {a:Addr} {xs:List V} {g:TG} {tt:TT} {te:TE} {Q:VK} {Z:St} {H:Hp}
def CN (Pv:Nat->List V->St->Hp->Prop) (i:Nat) (ys':List V) (σ':St) (H':Hp):Prop:=ys'.length<=i+1/\Pv (i+1) ys' σ' H'
theorem lK {J:It} (n:Nat) (hz:n<=sizeLine) (Pv:Nat->List V->St->Hp->Prop) (h0:Pv 0 [] Z H) (hgo:∀ i ys Z H,i < n->Pv i ys Z H->J.go i H) (hstop:∀ ys Z H,Pv n ys Z H->J.stop n H)
  (hs:∀ i x ys Z H H2,i < n->ys.length<=i->ys.length < sizeLine->Pv i ys Z H->J.yld i H x H2->g x Z H2 fun σ2 H3=>tt σ2 H3 fun ok H4=>if ok=true then te σ2 H4 fun y H5=>ys.length < sizeLine/\CN Pv i (ys++[y]) σ2 H5 else CN Pv i ys σ2 H4)
  (hd:∀ ys Z H,ys.length<=n->Pv n ys Z H->∀ p,H p=none->Q (.ref p) (upd H p (.lst ys))) :
  ∃ W:Nat->Nat->List V->St->Hp->Prop,(∃ m,W 0 m [] Z H)/\CW J g tt te W Q:=by
 refine ⟨fun i m ys Z H=>m=n - i/\i<=n/\ys.length<=i/\Pv i ys Z H,⟨n,by simp,bg _,aq _,h0⟩,?_⟩
 rintro i m ys Z H ⟨rfl,hi,hy,p⟩
 by_cases hlt:i < n
 .exact .inr ⟨hgo i ys Z H hlt p,CN Pv i,fun ys' σ' H' p'=>⟨n - (i+1),by lia,rfl,hlt,p'.1,p'.2⟩,fun x H2 y=>hs i x ys Z H H2 hlt hy (by lia) p y⟩
 .have e:i=n:=by lia
  subst e
  exact .inl ⟨hstop ys Z H p,by lia,hd ys Z H hy p⟩
theorem Zpx (hz:xs.length<=sizeLine) (Pv:Nat->List V->St->Hp->Prop) (h0:Pv 0 [] Z H) (hl:∀ i ys Z H,i<=xs.length->Pv i ys Z H->SqL K H a xs)
  (hs:∀ i x ys Z H,xs[i]?=some x->ys.length<=i->ys.length < sizeLine->Pv i ys Z H->g x Z H fun σ2 H3=>tt σ2 H3 fun ok H4=>if ok=true then te σ2 H4 fun y H5=>ys.length < sizeLine/\CN Pv i (ys++[y]) σ2 H5 else CN Pv i ys σ2 H4)
  (hd:∀ ys Z H,ys.length<=xs.length->Pv xs.length ys Z H->∀ p,H p=none->Q (.ref p) (upd H p (.lst ys))) :
  ∃ W:Nat->Nat->List V->St->Hp->Prop,(∃ m,W 0 m [] Z H)/\CW (Itl K a) g tt te W Q:=by
 refine lK xs.length hz Pv h0 (fun i ys Z H hi p=>⟨xs,xs[i],hl i ys Z H (eZ hi) p,by simp[hi]⟩) (fun ys Z H p=>⟨xs,hl _ ys Z H (aq _) p,aq _⟩) (fun i x ys Z H H2 hi h1 h2 p y=>?_) hd
 obtain ⟨rfl,y⟩:=y
 exact hs i x ys Z _ (y xs (hl i ys Z _ (eZ hi) p)) h1 h2 p
end
section
variable {Z:St} {H:Hp} {Q:VK} {v x y:V} {ta tb tc te:TE} {t u:TS} {c d:TT} {D':Ends} {r:R2} {g:TG} {i j:Int} {n:Nat} {K:W.Frag}
theorem rd_var (e:Z[n]?=some (some v)) (h:Q v H):tVar n Z H Q:=⟨v,e,h⟩
theorem rd_c (h:Q v H):tC v Z H Q:=h
theorem rd_op (h:ta Z H fun x H1=>tb Z H1 fun y H2=>r x y H2 Q):tOp r ta tb Z H Q:=h
theorem rd_seq (h:t { D' with nx:=u D' } Z H):tSeq t u D' Z H:=h
theorem rd_asg (h:te Z H fun x H1=>g x Z H1 D'.nx):tAsg te g D' Z H:=h
theorem ZmC {R:St->Hp->Prop} (h:R (Z.set n (some v)) H):dg n v Z H R:=h
theorem rd_ret (h:te Z H D'.rt):tRet te D' Z H:=h
theorem ZoE (h:D'.nx Z H):qu D' Z H:=h
theorem rd_if (h:c Z H fun b H1=>if b=true then t D' Z H1 else u D' Z H1):tIfS c t u D' Z H:=h
theorem ZoC {R:Bool->Hp->Prop} (h:ta Z H fun x H'=>∃ k,x=.bl k/\R k H'):o6 ta Z H R:=h
theorem rd_and {R:Bool->Hp->Prop} (h:c Z H fun b H1=>if b=true then d Z H1 R else R false H1):tAnd c d Z H R:=h
theorem rK {R:Bool->Hp->Prop} (h:R true H):gG Z H R:=h
theorem rd_nil {R:List V->Hp->Prop} (h:R [] H):tNil Z H R:=h
theorem ZoH {tr:TA} {R:List V->Hp->Prop} (h:ta Z H fun x H1=>tr Z H1 fun xs H2=>R (x::xs) H2):bd ta tr Z H R:=h
theorem rd_cb {rr:List V->Hp->VK->Prop} {ta:TA} (h:ta Z H fun vs H1=>rr vs H1 Q):tCB rr ta Z H Q:=h
theorem ZoK {sp:Sp} {E:XK} {ta:TA} (h:ta Z H fun vs H1=>sp (vs++[]) H1 Q E):gi sp [] E ta Z H Q:=h
theorem rd_I0 {f:Int->Int->V} (h:Q (f i j) H):rI0 f (.int i) (.int j) H Q:=⟨i,j,rfl,rfl,h⟩
theorem rd_I {C:Int->Int->Prop} {f:Int->Int->V} (hc:C i j) (h:Q (f i j) H):rI C f (.int i) (.int j) H Q:=⟨i,j,rfl,rfl,hc,h⟩
theorem sI (h:Q (.bl (decide (i=j))) H):rEq (.int i) (.int j) H Q:=⟨rfl,by rw[kz,j4];exact h⟩
theorem rE (h:Q (.bl (!decide (i=j))) H):rNe (.int i) (.int j) H Q:=⟨rfl,by rw[kz,j4];exact h⟩
theorem sv {a b:Str} (h:Q (.bl (decide (a=b))) H):rEq (.str a) (.str b) H Q:=⟨rfl,by rw[mv,j4];exact h⟩
theorem tL {a b:Str} (h:Q (.bl (!decide (a=b))) H):rNe (.str a) (.str b) H Q:=⟨rfl,by rw[mv,j4];exact h⟩
theorem uU {a b:Bool} (h:Q (.bl (!decide (a=b))) H):rNe (.bl a) (.bl b) H Q:=⟨rfl,by rw[qN,j4];exact h⟩
theorem rd_bl {b:Bool} {R:Bool->Prop} (h:R b):∃ k,V.bl b=V.bl k/\R k:=⟨b,rfl,h⟩
theorem rd_lst {ta:TA} (h:ta Z H fun xs H1=>xs.length<=sizeLine/\∀ p,H1 p=none->Q (.ref p) (upd H1 p (.lst xs))):tLst ta Z H Q:=h
theorem iq {n:Nat} (h:n<=1000):n<=sizeLine:=aR h (by decide)
theorem rd_ixT {p:Addr} {xs:List V} (h:H p=some (.tup xs)) (e:atI xs i=some v) (q:Q v H):rIxT K (.ref p) (.int i) H Q:=⟨p,xs,i,v,rfl,rfl,SqT.of h,e,q⟩
theorem rd_ixL {p:Addr} {xs:List V} (h:H p=some (.lst xs)) (e:atI xs i=some v) (q:Q v H):rIxL K (.ref p) (.int i) H Q:=⟨p,xs,i,v,rfl,rfl,SqL.of h,e,q⟩
theorem iZ {p:Addr} {xs:List V} {k:Nat} {R:Hp->Prop} (h:H p=some (.lst xs)) (e:ixN xs.length i=some k) (q:R (upd H p (.lst (xs.set k v)))):jv (.ref p) (.int i) v H R:=⟨p,xs,i,k,rfl,rfl,h,e,q⟩
theorem ZoG {to ti:TE} {ts:TSet} {R:St->Hp->Prop} (h:to Z H fun o H1=>ti Z H1 fun i H2=>ts o i v H2 fun H3=>R Z H3):gSub to ti ts v Z H R:=h
theorem Zoo {a:Addr} {xs:List V} (h:H a=some (.tup xs)):tyN H (.ref a)=some "tuple":=by show tyO (H a)=_;rw[h];rfl
theorem tz {a:Addr} {xs:List V} (h:H a=some (.lst xs)):tyN H (.ref a)=some "list":=by show tyO (H a)=_;rw[h];rfl
theorem Zmz {rr:V->Option Int->Option Int->Hp->VK->Prop} {tl th:TO} (h:te Z H fun x H1=>tl Z H1 fun l H2=>th Z H2 fun u H3=>rr x l u H3 Q):tSl rr te tl th Z H Q:=h
theorem ZkJ {R:Option Int->Hp->Prop} (h:R none H):pf Z H R:=h
theorem ZoD {R:Option Int->Hp->Prop} (h:ta Z H fun x H1=>∃ i,x=.int i/\R (some i) H1):qJ ta Z H R:=h
theorem rd_int {R:Int->Prop} (h:R i):∃ k,V.int i=V.int k/\R k:=⟨i,rfl,h⟩
theorem ZkK {l:Addr} {xs:List V} (h:H l=some (.lst xs)) (hz:xs.length < sizeLine) (q:Q .non (upd H l (.lst (xs++[y])))):qv (.ref l) [y] H Q:=⟨l,xs,y,rfl,rfl,h,hz,q⟩
theorem ZoI {LN:List Str} {fr:List Nat} {wi:TI} (h:wi Z H fun J H1=>∃ W:Nat->Nat->List V->St->Hp->Prop,(∃ m,W 0 m [] (fj LN fr Z) H1)/\CW J g c te W Q):ee LN fr wi g c te Z H Q:=h
def ilK (K:W.Frag) (R:It->Hp->Prop) (x:V) (H1:Hp):Prop:=∃ a,x=.ref a/\(∃ xs,SqL K H1 a xs)/\R (Itl K a) H1
theorem ZmB {R:It->Hp->Prop} {tl:TE} (h:tl Z H (ilK K R)):nQ K tl Z H R:=h
theorem vI {R:It->Hp->Prop} {a:Addr} {xs:List V} (h:SqL K H a xs) (q:R (Itl K a) H):ilK K R (.ref a) H:=⟨a,rfl,⟨xs,h⟩,q⟩
theorem rd_for {wi:TI} (h:wi Z H fun J H1=>∃ W:Nat->Nat->St->Hp->Prop,(∃ m,W 0 m Z H1)/\∀ i m Z H,W i m Z H ->
 (J.stop i H/\D'.nx Z H)\/(J.go i H/\∃ N:St->Hp->Prop,(∀ σ' H',N σ' H'->∃ m',m' < m/\W (i+1) m' σ' H')/\∀ x H',J.yld i H x H'->g x Z H' fun σ2 H2=>t { D' with nx:=N,ct:=N,bk:=D'.nx } σ2 H2)):tFor wi g t D' Z H:=h
end
theorem bt_abs:bootBuiltins "abs"=some (.builtin "abs"):=by decide +kernel
theorem bu:bootBuiltins "len"=some (.builtin "len"):=by decide +kernel
theorem sw:bootBuiltins "sum"=some (.builtin "sum"):=by decide +kernel
theorem sF:bootBuiltins "isinstance"=some (.builtin "isinstance"):=by decide +kernel
theorem bt_min:bootBuiltins "min"=some (.builtin "min"):=by decide +kernel
theorem uw:bootBuiltins "sorted"=some (.builtin "sorted"):=by decide +kernel
theorem bt_all:bootBuiltins "all"=some (.builtin "all"):=by decide +kernel
theorem uH:bootBuiltins "any"=some (.builtin "any"):=by decide +kernel
theorem bt_int:bootBuiltins "int"=some (.type "int"):=by decide +kernel
theorem dB:bootBuiltins "tuple"=some (.type "tuple"):=by decide +kernel
theorem m9:bootBuiltins "list"=some (.type "list"):=by decide +kernel
theorem ZpD:bootBuiltins "dict"=some (.type "dict"):=by decide +kernel
theorem u8:bootBuiltins "zip"=some (.type "zip"):=by decide +kernel
theorem rF:bootBuiltins "enumerate"=some (.type "enumerate"):=by decide +kernel
def bkOk (N:List Str) (sc osc:Scope) (FN:List Str) (fr:List Nat):Bool :=
 decide (sc.kind=.function) && sc.names.all (fun y=>decide (y.2≠.cell)) && sc.names.all (fun y=>decide (y.2=.local->sc.names.lookup y.1=some .local)) &&
 sc.names.all (fun y=>decide (y.2=.free->osc.names.lookup y.1=some .cell\/osc.names.lookup y.1=some .free)) &&
 FN.all (fun x=>decide (osc.names.lookup x=some .cell\/osc.names.lookup x=some .free)) && FN.all (fun x=>decide (sc.names.lookup x=some .free)) && decide (FN.map some=fr.map fun j=>N[j]?)
theorem cv {N:List Str} {sc osc:Scope} {LN FN:List Str} {fr:List Nat} (h:bkOk N sc osc FN fr=true):BkScope N sc osc LN FN fr:=by
 unfold bkOk at h
 simp only[fN,j3,fR] at h
 obtain ⟨⟨⟨⟨⟨⟨h1,h2⟩,h3⟩,h4⟩,h5⟩,h6⟩,h7⟩:=h
 exact ⟨h1,h2,h3,h4,h5,h6,h7⟩
section
variable {X:Cx}
def rIxA (K:W.Frag):R2:=fun x y H Q=>rIxL K x y H Q\/rIxT K x y H Q
theorem ix_any:IxR X (rIxA X.K):=ix_list.or ix_tup
theorem ZoF {K:W.Frag} {H:Hp} {p:Addr} {xs:List V} {i:Int} {v:V} {Q:VK} (h:H p=some (.tup xs)) (e:atI xs i=some v) (q:Q v H):rIxA K (.ref p) (.int i) H Q:=.inr (rd_ixT h e q)
theorem cC {K:W.Frag} {H:Hp} {p:Addr} {xs:List V} {i:Int} {v:V} {Q:VK} (h:H p=some (.lst xs)) (e:atI xs i=some v) (q:Q v H):rIxA K (.ref p) (.int i) H Q:=.inl (rd_ixL h e q)
theorem bw {α:Type} {xs:List α} {i:Int} {n:Nat} {v:α} (hi:i=(n:Int)) (h:xs[n]?=some v):atI xs i=some v:=by
 subst hi
 have hl:n < xs.length:=(ay.mp h).1
 unfold atI ixN
 rw[ag (by lia),ag (by lia)]
 simpa using h
theorem qI {m:Nat} {i:Int} {n:Nat} (hi:i=(n:Int)) (h:n < m):ixN m i=some n:=by
 subst hi
 unfold ixN
 rw[ag (by lia),ag (by lia)]
 simp
def rLen (K:W.Frag):List V->Hp->VK->Prop:=fun xs H Q=>∃ x n,xs=[x]/\LenV K x H n/\Q (.int n) H
theorem ZlX:bA X (.builtin "len") (rLen X.K):=Znt
theorem vj {K:W.Frag} {H:Hp} {p:Addr} {ys:List V} {Q:VK} (h:SqL K H p ys) (q:Q (.int ys.length) H):rLen K [.ref p] H Q:=⟨_,_,rfl,.inl ⟨ys,h,rfl⟩,q⟩
def rAbs:List V->Hp->VK->Prop:=fun xs H Q=>∃ i,xs=[.int i]/\Q (.int (if i < 0 then -i else i)) H
theorem Zl2:bA X (.builtin "abs") rAbs:=Znu
theorem rd_abs {H:Hp} {i:Int} {Q:VK} (q:Q (.int (if i < 0 then -i else i)) H):rAbs [.int i] H Q:=⟨i,rfl,q⟩
def rMin:List V->Hp->VK->Prop:=fun xs H Q=>∃ i j,xs=[.int i,.int j]/\Q (.int (if j < i then j else i)) H
theorem ZlV (hc:X.calm=true):bA X (.builtin "min") rMin:=ZlU hc
def rSum (K:W.Frag):List V->Hp->VK->Prop:=fun xs H Q=>∃ (a:Addr) (ns:List Int),xs=[.ref a]/\SqL K H a (ns.map V.int)/\Q (.int ns.sum) H
theorem ZlT (hc:X.calm=true):bA X (.builtin "sum") (rSum X.K):=Zns hc
def rInt:List V->Hp->VK->Prop:=fun xs H Q=>(∃ i,xs=[.int i]/\Q (.int i) H)\/∃ k,xs=[.bl k]/\Q (.int (if k then 1 else 0)) H
theorem ZlZ:bA X (.type "int") rInt:=ZlY
def jl (K:W.Frag):List V->Hp->VK->Prop:=fun xs H Q=>∃ p ys,xs=[.ref p]/\((SqL K H p ys/\∀ l,H l=none->Q (.ref l) (upd H l (.tup ys)))\/(SqT K H p ys/\Q (.ref p) H))
theorem ZlS:bA X (.type "tuple") (jl X.K):=ZgN
theorem uh {K:W.Frag} {H:Hp} {p:Addr} {ys:List V} {Q:VK} (h:SqL K H p ys) (q:∀ l,H l=none->Q (.ref l) (upd H l (.tup ys))):jl K [.ref p] H Q:=⟨p,ys,rfl,.inl ⟨h,q⟩⟩
def nG (K:W.Frag):List V->Hp->VK->Prop:=fun xs H Q=>∃ p ys,xs=[.ref p]/\(SqL K H p ys\/SqT K H p ys)/\∀ l,H l=none->Q (.ref l) (upd H l (.lst ys))
theorem ZlW:bA X (.type "list") (nG X.K):=ZhC
def rIsB:R2:=fun x y H Q=>∃ a b,x=.bl a/\y=.bl b/\Q (.bl (a == b)) H
def vA:R2:=fun x y H Q=>∃ a b,x=.bl a/\y=.bl b/\Q (.bl (a != b)) H
theorem Zo0:OpR X (compareOp .Is) rIsB:=op_isB
theorem ZjD:OpR X (compareOp .IsNot) vA:=Zk2
theorem rd_isB {a b:Bool} {H:Hp} {Q:VK} (q:Q (.bl (a == b)) H):rIsB (.bl a) (.bl b) H Q:=⟨a,b,rfl,rfl,q⟩
theorem mk_le {n:Nat} (h:Nat.ble n 1000=true):n<=sizeLine:=iq (fS h)
end
section
variable {X:Cx} {K:W.Frag} {pos:Pos}
theorem k_ix (h:X.K=K):IxR X (rIxA K):=h▸ix_any
theorem bt (h:X.K=K):bA X (.builtin "len") (rLen K):=h▸ZlX
theorem k_sum (h:X.K=K) (hc:X.calm=true):bA X (.builtin "sum") (rSum K):=h▸ZlT hc
theorem dN (h:X.K=K):bA X (.type "tuple") (jl K):=h▸ZlS
theorem tG (h:X.K=K):bA X (.type "list") (nG K):=h▸ZlW
theorem k_sl (h:X.K=K):SlR X (rSlL K):=h▸Zow
theorem k_in (h:X.K=K):OpR X (compareOp .In) (rIn K false):=h▸Zk3
theorem uL (h:X.K=K):OpR X (compareOp .NotIn) (rIn K true):=h▸Zhl
theorem bT {tg l:Expr} {tl:TE} (h:X.K=K) (hl:PE X l tl):PI X tg l (nQ K tl):=h▸ZoP hl
theorem cJ {tg l:Expr} {tl:TE} (h:X.K=K) (hl:PE X l tl):PI X tg l (iTup K tl):=h▸pi_tup hl
theorem ca {es:List Expr} {k:Nat} {t:TGs} {n:Nat} (h:X.K=K) (hc:X.calm=true) (hg:PGs X es t)
  (hn:(assignEach es X.env).length=n:=by rfl) (hst:(assignEach es X.env).findIdx? (·.1)=none:=by rfl):PG X (.Tuple es k pos) (gTup K n t):=h▸pg_tup hc hg hn hst
variable {o e:Expr} {es:List Expr} {to:TE} {t:TA} {name:Str} {apos cpos:Pos} {T id:String} {r:V->List V->Hp->VK->Prop}
theorem k_bm (h:X.K=K) (pa:PlainAttrs T) (slot:Slot T name id) (hty:typeOf (.builtin id)=pure (.type "method_descriptor")) (hm:MtR X id r) (ho:PE X o to) (ha:PA X (e::es) t)
  (hbase:attributeBase o name X.env (eval o X.env)=eval o X.env:=by rfl)
  (hfew:((backTo cpos (starEach (e::es) X.env)).all (fun x=>!x.1) && (backToKw cpos (keywordEach [] X.env)).all (fun x=>x.1.isSome)
   && decide ((e::es).length+([]:List Keyword).length+(if ([]:List Keyword).isEmpty then 0 else 1) < 30))=true:=by rfl)
  (hline:(apos.endLine == cpos.line)=true:=by rfl) (hs:starEach (e::es) X.env=(false,eval e X.env)::starEach es X.env:=by rfl) (hplain:(backTo cpos (starEach es X.env)).any (·.1)=false:=by rfl) :
  PE X (.Call (.Attribute o name apos) (e::es) [] cpos) (tBM K T r to t):=h▸pe_bm pa slot hty hm ho ha hbase hfew hline hs hplain
theorem k_bm0 (h:X.K=K) (pa:PlainAttrs T) (slot:Slot T name id) (hty:typeOf (.builtin id)=pure (.type "method_descriptor")) (hm:MtR X id r) (ho:PE X o to)
  (hbase:attributeBase o name X.env (eval o X.env)=eval o X.env:=by rfl) (hline:(apos.endLine == cpos.line)=true:=by rfl):PE X (.Call (.Attribute o name apos) [] [] cpos) (tBM0 K T r to):=h▸pe_bm0 pa slot hty hm ho hbase hline
end
structure TopFn (K:W.Frag) (mg:Str->Option Value) (x:Str) (st:Stmt) (ps:List Str):Prop where
 ex:∃ f fd,Fun K x x st f fd/\mg x=some (.ref f)/\Binds K fd ps []
section
variable {P:Program} {w:World} {K:W.Frag} {mg:Str->Option Value} {base:Heap} {x:Str} {st:Stmt} {ps N:List Str} {sp:Sp} {k:Nat}
theorem TopFn.callee (T:TopFn K mg x st ps) (h:∀ f fd,Fun K x x st f fd->FnOk P w K mg base CX0 k f fd ps sp):Callee P w K mg base x k ps sp:=by
 obtain ⟨f,fd,F,hm,hb⟩:=T.ex
 exact ⟨f,fd,h f fd F,hm,F.kp,hb⟩
def sp1 (b:V->Hp->VK->Prop):Sp:=fun vs H Q j=>∃ x,vs=[x]/\b x H Q
def sp2 (b:V->V->Hp->VK->Prop):Sp:=fun vs H Q j=>∃ x y,vs=[x,y]/\b x y H Q
theorem use1 {b:V->Hp->VK->Prop} {x:V} {H:Hp} {Q:VK} {E:XK} (h:b x H Q):sp1 b [x] H Q E:=⟨x,rfl,h⟩
theorem use2 {b:V->V->Hp->VK->Prop} {x y:V} {H:Hp} {Q:VK} {E:XK} (h:b x y H Q):sp2 b [x,y] H Q E:=⟨x,y,rfl,h⟩
def ml (P:Program) (w:World) (K:W.Frag) (mg:Str->Option Value) (base:Heap) (N:List Str) (x:Str) (st:Stmt) (f:Addr) (cdv:Value) (A:Around) (outer:List Env) (s:Shared) (H:Hp) (vs:List V) (Q:VK) (E:XK):Prop :=
 ∃ t,PSs (cxOf CX0 P w K mg base N x (ap st) f cdv A outer s H E).nox (bV st) t/\t { nx:=fun j H'=>Q .non H',rt:=Q } (start N vs) H
theorem TopFn.ok1 {a1:Str} {b:V->Hp->VK->Prop} (T:TopFn K mg x st [a1]) (S:FnScope N [a1] (ap st))
  (h:∀ (f:Addr) (cdv:Value) (A:Around) (outer:List Env) (s:Shared) (H:Hp) (v1:V) (Q:VK) (E:XK),Room k (A.deeper (envOfC x (ap st) s.heap.objs.size f cdv))->b v1 H Q->ml P w K mg base N x st f cdv A outer s H [v1] Q E):Callee P w K mg base x (k+1) [a1] (sp1 b) :=
 T.callee fun f fd F=>F.ok S (fun vs H Q E ⟨_,e,_⟩=>by rw[e];rfl) fun cdv A outer s H vs Q E hr hsp=>by
  obtain ⟨v1,rfl,hb⟩:=hsp
  exact h f cdv A outer s H v1 Q E hr hb
theorem TopFn.ok2 {a1 a2:Str} {b:V->V->Hp->VK->Prop} (T:TopFn K mg x st [a1,a2]) (S:FnScope N [a1,a2] (ap st))
  (h:∀ (f:Addr) (cdv:Value) (A:Around) (outer:List Env) (s:Shared) (H:Hp) (v1 v2:V) (Q:VK) (E:XK),Room k (A.deeper (envOfC x (ap st) s.heap.objs.size f cdv))->b v1 v2 H Q->ml P w K mg base N x st f cdv A outer s H [v1,v2] Q E):Callee P w K mg base x (k+1) [a1,a2] (sp2 b) :=
 T.callee fun f fd F=>F.ok S (fun vs H Q E ⟨_,_,e,_⟩=>by rw[e];rfl) fun cdv A outer s H vs Q E hr hsp=>by
  obtain ⟨v1,v2,rfl,hb⟩:=hsp
  exact h f cdv A outer s H v1 v2 Q E hr hb
theorem nj {f:Addr} {cdv:Value} {A:Around} {outer:List Env} {s:Shared} {H:Hp} {vs:List V} {Q:VK} {E:XK} {t:TS} (Z:St) (hσ:start N vs=Z) (h:PSs (cxOf CX0 P w K mg base N x (ap st) f cdv A outer s H E).nox (bV st) t)
  (q:t { nx:=fun j H'=>Q .non H',rt:=Q } Z H):ml P w K mg base N x st f cdv A outer s H vs Q E:=⟨t,h,by rw[hσ];exact q⟩
end
end L2
namespace L2
open PySem PySem.Spec PyProof.Rows
theorem p7 {b:Bool} {A B:Prop} (h:b=false) (q:B):if b=true then A else B:=by subst h;exact iteF q
theorem pG {b:Bool} {A B:Prop} (h:b=true) (q:A):if b=true then A else B:=by subst h;exact iteT q
theorem gI {c A B:Prop} [Decidable c] (h:¬ c) (q:B):if decide c=true then A else B:=by rw[aL h];exact iteF q
theorem vJ {c A B:Prop} [Decidable c] (h:c) (q:A):if decide c=true then A else B:=by rw[aU h];exact iteT q
theorem ite_ny {c A B:Prop} [Decidable c] (h:¬ c) (q:A):if (!decide c)=true then A else B:=by rw[aL h];exact iteT q
theorem gj {c A B:Prop} [Decidable c] (h:c->A) (q:¬ c->B):if decide c=true then A else B:=by
 by_cases e:c
 .exact vJ e (h e)
 .exact gI e (q e)
theorem nN {c A B:Prop} [Decidable c] (h:¬ c->A) (q:c->B):if (!decide c)=true then A else B:=by
 by_cases e:c
 .exact iteNS e (q e)
 .exact ite_ny e (h e)
def pairD (p:Int×Int):D:=.tup [.int p.1,.int p.2]
def formD (c:Int) (ps:List (Int×Int)):D:=.tup [.int c,.tup (ps.map pairD)]
end L2
namespace L2
theorem gF {n:Nat} (h:n<=1000000):n<=PySem.sizeLine:=aR h (by rw[PySem.sizeLine_eq];decide)
end L2
namespace L2
theorem jH {A B:Prop} (h:B):if (!true)=true then A else B:=iteF h
theorem jz {A B:Prop} (h:A):if (!false)=true then A else B:=iteT h
end L2
namespace L2
open PySem
theorem ZlP (ns:List Int) (lo hi:Option Int):∃ ms:List Int,cutV (ns.map V.int) lo hi=ms.map V.int/\ms.length<=ns.length:=by
 refine ⟨(ns.drop (HT.sIx (ns.map V.int).length 0 lo)).take (HT.sIx (ns.map V.int).length (ns.map V.int).length hi - HT.sIx (ns.map V.int).length 0 lo),?_,?_⟩
 .unfold cutV
  rw[map_take,map_drop]
 .rw[cz,iA]
  exact aR (jV _ _) (jW _ _)
theorem o8 {K:W.Frag} {H:Hp} {a:Addr} {xs:List V} {lo hi:Option Int} {Q:VK} (h:SqL K H a xs) (q:∀ p,H p=none->Q (.ref p) (upd H p (.lst (cutV xs lo hi)))):rSlL K (.ref a) lo hi H Q:=⟨a,xs,rfl,h,q⟩
theorem uV {H:Hp} {l b:Addr} {xs zs:List V} {Q:VK} (h1:H l=some (.lst xs)) (h2:H b=some (.lst zs)) (hl:xs.length+zs.length<=sizeLine) (q:∀ p,H p=none->Q (.ref p) (upd H p (.lst (xs++zs)))):rCat (.ref l) (.ref b) H Q:=⟨l,b,xs,zs,rfl,rfl,h1,h2,hl,q⟩
theorem ints_get {ns:List Int} {i:Nat} {x:V} (h:(ns.map V.int)[i]?=some x):∃ z,x=.int z/\ns[i]?=some z:=by
 rw[aj] at h
 obtain ⟨z,e,rfl⟩:=aH.mp h
 exact ⟨z,rfl,e⟩
theorem Zon {H:Hp} {a b:Addr} {o u:HO} (h:H b=some u) (hn:H a=none):upd H a o b=some u:=by rw[aP (gQ h hn)];exact h
def jI (K:W.Frag):Sp:=sp1 fun x H Q=>∃ (a:Addr) (ns:List Int),x=.ref a/\SqL K H a (ns.map V.int)/\ns.length<=63/\∀ H',Q (.bl true) H'
theorem Zmu {K:W.Frag} {H:Hp} {a:Addr} {ns:List Int} {E:XK} (hl:ns.length<=63) (hS:SqL K H a (ns.map V.int)):jI K [.ref a] H (fun v j=>v=.bl true) E:=⟨_,rfl,a,ns,rfl,hS,hl,fun j=>rfl⟩
theorem Fun.law {P:Program} {w:World} {K:W.Frag} {mg:Str->Option Value} {base:Heap} {st:Stmt} {f:Addr} {fd:FuncData} {N:List Str} {k:Nat} (F:Fun K "law" "law" st f fd) (S:FnScope N ["script"] (ap st))
  (h:∀ (cdv:Value) (A:Around) (outer:List Env) (s:Shared) (H:Hp) (a:Addr) (ns:List Int) (Q:VK) (E:XK),Room k (A.deeper (PyProof.Rows.envOfC "law" (ap st) s.heap.objs.size f cdv))->SqL K H a (ns.map V.int)->ns.length<=63->(∀ H',Q (.bl true) H') ->
   ml P w K mg base N "law" st f cdv A outer s H [.ref a] Q E):FnOk P w K mg base CX0 (k+1) f fd ["script"] (jI K) :=
 F.ok S (fun vs H Q E ⟨_,e,_⟩=>by rw[e];rfl) fun cdv A outer s H vs Q E hr hsp=>by
  obtain ⟨j,rfl,a,ns,rfl,h1,h2,h3⟩:=hsp
  exact h cdv A outer s H a ns Q E hr h1 h2 h3
end L2
namespace L2
theorem ten60:(10:Int) ^ (60:Int).toNat=1000000000000000000000000000000000000000000000000000000000000:=by decide +kernel
theorem s9:CPow 10 60:=⟨by decide,by decide,by decide⟩
theorem qc {x:Int} (h:x.natAbs<=10 ^ 70):x.natAbs < 2 ^ 8000:=fe h (by decide +kernel)
theorem tJ {x y:Int} (h:x.natAbs<=10 ^ 70) (h2:y.natAbs<=10 ^ 70):CBig x y:=⟨qc h,qc h2⟩
theorem uP {x y:Int} (h:0 < y) (h2:y.natAbs<=10 ^ 70):qy x y:=⟨h,qc h2⟩
end L2
end
section
namespace L2
open PySem PySem.W PyProof.Rows
abbrev xs (n:String) (t:Tok):Value:=.str (Str.ofString n) t
abbrev xi (n:Int) (t:Tok):Value:=.int n t
abbrev xr (a:Addr):Value:=.ref a
abbrev xe (P:Params) (n:String) (t:Tok) (v:Value):DictEntry:=⟨PyData.keyHash P (Str.ofString n),.str (Str.ofString n) t,v⟩
abbrev oD (es:Array DictEntry) (n:Nat):Obj:={ cls:=.type "dict",data:=.dict es n }
abbrev oT (vs:Array Value):Obj:={ cls:=.type "tuple",data:=.seq vs }
abbrev oC (vs:Array Value):Obj:={ cls:=.type "code",data:=.fields vs }
abbrev oF (n q:Str) (st:Stmt) (m:String) (t:Tok) (c:Addr):Obj:={ cls:=.type "function",data:=.func (fnOf n q (cX st) (bV st) (ap st) .none .none .none (xs m t) none (xr c) .none) }
abbrev oG (n:Str) (st:Stmt) (m:String) (t:Tok) (c:Addr):Obj:=oF n n st m t c
abbrev xf (P:Params) (n:String) (t:Tok) (a:Addr):DictEntry:=xe P n t (xr a)
abbrev oK (n:String) (t l a r:Nat):Obj:=oC #[xs n t,xs n (t+1),xs "/claim/cut.py" (t+2),xi l 0,xi a 0,xi 0 0,xi 0 0,xi 3 0,xr r,.bool true,xi 181 0,xr (r+1),.none,.none,.none,xr (r+2),xi (t+3) 0,xi l 0,xs "/claim/cut.py" (t+4)]
theorem ZjJ {p q:Program} {loose:List Str} {Xt:Shared->Bool} {α:Type} {Yf:Shared->α} {Ya:World->α} {N:Nat} (row:String)
  (e:opening p=plainProg p.main.scope.names) (hN:Nat.ble 600 N=true) (f:∀ s,fenceModules? p s=some s)
  (h:∀ (b:Bool) (w:World) (os:OsState),(topFrom treeTable p (w.withFollow row b) N ⟨iJ (w.withFollow row b).params,Array.mk [],boot_drawn,boot_toks,os⟩).map (fun s=>(openSeen q loose (importedModules p.main.body) Xt true s,Yf s))=some (openGood q loose,Ya (w.withFollow row b))) :
  LeftO p q loose Xt Yf Ya N:=fun w=>by
 have h':=byRow2 row (P:=fun w=>∀ os,(topFrom treeTable p w N ⟨iJ w.params,Array.mk [],boot_drawn,boot_toks,os⟩).map (fun s=>(openSeen q loose (importedModules p.main.body) Xt true s,Yf s))=some (openGood q loose,Ya w)) (fun w=>h false w) (fun w=>h true w) w
 obtain ⟨⟨hp,gs,d,k,os⟩,e1,e2⟩:=aH.mp (boot_open e hN f w)
 obtain ⟨rfl,rfl,rfl,rfl⟩:hp=iJ w.params/\gs=Array.mk []/\d=boot_drawn/\k=boot_toks:=by simpa using e2
 unfold openEnds
 rw[e1]
 exact h' os
theorem top_tw {p:Program} {w:World} {N:Nat} {s₀:Shared} {β:Type} {F:Shared->β} {r:β} {m:Nat} {ann:Option Value}
  (z1:(s₀.heap.isNs mainGlobals && s₀.gens.size == 0)=true) (z2:s₀.heap.objs.size=m) (z3:s₀.heap.nsMap mainGlobals "__annotations__"=ann)
  (h:((PySem.W.Fast.tw14082659384304107361 PySem.W.Fast.tw14364793385576792824 p w m ann N s₀ (topStub p)).bind fun s₁=>match staticsOk (importedModules p.main.body) s₀.heap s₁.heap && namesBound p s₁.heap && gensDone s₁ && laidKept s₀.heap s₁.heap with|true=>some s₁|false=>none).map F=some r) :
  (topFrom treeTable p w N s₀).map F=some r:=by
 unfold topFrom
 rw[z1,z2,z3,PySem.W.Fast.te14082659384304107361,PySem.W.Fast.te14364793385576792824]
 exact h
abbrev LB (row:String) (b:Bool) (p q:Program) (loose:List Str) (Xt:Shared->Bool) {α:Type} (Yf:Shared->α) (Ya:World->α) (N:Nat):Prop :=
 ∀ (w:World) (os:OsState),((PySem.W.Fast.tw14082659384304107361 PySem.W.Fast.tw14364793385576792824 p (w.withFollow row b) 11 (some (.ref 6)) N ⟨iJ (w.withFollow row b).params,Array.mk [],boot_drawn,boot_toks,os⟩ (topStub p)).bind fun s=>match staticsOk (importedModules p.main.body) (iJ (w.withFollow row b).params) s.heap && namesBound p s.heap && gensDone s && laidKept (iJ (w.withFollow row b).params) s.heap with|true=>some s|false=>none).map (fun s=>(PySem.W.Fast.tw4187177175401517315 q loose (importedModules p.main.body) Xt true s,Yf s))=some (openGood q loose,Ya (w.withFollow row b))
theorem Zlg {p q:Program} {loose:List Str} {Xt:Shared->Bool} {α:Type} {Yf:Shared->α} {Ya:World->α} {N:Nat} {row:String} (h0:LB row false p q loose Xt Yf Ya N) (h1:LB row true p q loose Xt Yf Ya N)
  (e:opening p=plainProg p.main.scope.names:=by kernel_rfl) (hN:Nat.ble 600 N=true:=by kernel_rfl) (f:∀ s,fenceModules? p s=some s:=by intro s;kernel_rfl):LeftO p q loose Xt Yf Ya N:=by
 refine ZjJ row e hN f fun b w os=>?_
 refine top_tw (m:=11) (ann:=some (.ref 6)) (by kernel_rfl) (by kernel_rfl) (by kernel_rfl) ?_
 rw[PySem.W.Fast.te4187177175401517315]
 cases b
 .exact h0 w os
 .exact h1 w os
theorem uc {M:List Value->Prop} {n:Nat} (h:∀ a us,us.length=n->M (a::us)) (us:List Value) (hl:us.length=n+1):M us:=by
 cases us with
 | nil=>cases hl
 | cons a us=>exact h a us (Nat.succ.inj hl)
theorem un0 {M:List Value->Prop} (h:M []) (us:List Value) (hl:us.length=0):M us:=by
 cases us with
 | nil=>exact h
 | cons a us=>cases hl
section
variable {K:Frag} {h:Heap} {mg:Str->Option Value} {x m qual:Str} {st:Stmt}
theorem gv {v:Value} (X:K.In h) (G:h.Ns mainGlobals mg) (e:nsIn K mainGlobals x=some (some v):=by kernel_rfl):mg x=some v:=mg_of X G e
theorem gz (X:K.In h) (G:h.Ns mainGlobals mg) (e:nsIn K mainGlobals x=some none:=by kernel_rfl):mg x=none:=mg_none_of X G e
theorem lo (a:Addr) (o:Obj) (e:K.lookup a=some o:=by kernel_rfl):K.lookup a=some o:=e
theorem tf1 {p1:Str} (X:K.In h) (G:h.Ns mainGlobals mg) (f:Addr) (md:String) (t:Tok) (c:Addr) (a:nsIn K mainGlobals x=some (some (.ref f)):=by kernel_rfl) (l:K.lookup f=some (oF x x st md t c):=by kernel_rfl) (cc:codeIn K (xr c) x=true:=by kernel_rfl) (k:keepIn K (.ref f)=true:=by kernel_rfl)
  (b:∀ (kV doc pm:Value) (an:Option Addr) (cdv ct:Value) (u1:Value),bindArgs (fnOf x x (cX st) (bV st) (ap st) .none kV doc pm an cdv ct) ⟨[u1],[]⟩=pure [(p1,u1)]:=by intros;kernel_rfl):TopFn K mg x st [p1] :=
 ⟨_,_,bS l cc k,mg_of X G a,(bS l cc k).binds fun j j j j j j=>uc fun j=>un0 (b ..)⟩
theorem tf2 {p1 p2:Str} (X:K.In h) (G:h.Ns mainGlobals mg) (f:Addr) (md:String) (t:Tok) (c:Addr) (a:nsIn K mainGlobals x=some (some (.ref f)):=by kernel_rfl) (l:K.lookup f=some (oF x x st md t c):=by kernel_rfl) (cc:codeIn K (xr c) x=true:=by kernel_rfl) (k:keepIn K (.ref f)=true:=by kernel_rfl)
  (b:∀ (kV doc pm:Value) (an:Option Addr) (cdv ct:Value) (u1 u2:Value),bindArgs (fnOf x x (cX st) (bV st) (ap st) .none kV doc pm an cdv ct) ⟨[u1,u2],[]⟩=pure [(p1,u1),(p2,u2)]:=by intros;kernel_rfl):TopFn K mg x st [p1,p2] :=
 ⟨_,_,bS l cc k,mg_of X G a,(bS l cc k).binds fun j j j j j j=>uc fun j=>uc fun j=>un0 (b ..)⟩
theorem tf3 {p1 p2 p3:Str} (X:K.In h) (G:h.Ns mainGlobals mg) (f:Addr) (md:String) (t:Tok) (c:Addr) (a:nsIn K mainGlobals x=some (some (.ref f)):=by kernel_rfl) (l:K.lookup f=some (oF x x st md t c):=by kernel_rfl) (cc:codeIn K (xr c) x=true:=by kernel_rfl) (k:keepIn K (.ref f)=true:=by kernel_rfl)
  (b:∀ (kV doc pm:Value) (an:Option Addr) (cdv ct:Value) (u1 u2 u3:Value),bindArgs (fnOf x x (cX st) (bV st) (ap st) .none kV doc pm an cdv ct) ⟨[u1,u2,u3],[]⟩=pure [(p1,u1),(p2,u2),(p3,u3)]:=by intros;kernel_rfl):TopFn K mg x st [p1,p2,p3] :=
 ⟨_,_,bS l cc k,mg_of X G a,(bS l cc k).binds fun j j j j j j=>uc fun j=>uc fun j=>uc fun j=>un0 (b ..)⟩
theorem tf4 {p1 p2 p3 p4:Str} (X:K.In h) (G:h.Ns mainGlobals mg) (f:Addr) (md:String) (t:Tok) (c:Addr) (a:nsIn K mainGlobals x=some (some (.ref f)):=by kernel_rfl) (l:K.lookup f=some (oF x x st md t c):=by kernel_rfl) (cc:codeIn K (xr c) x=true:=by kernel_rfl) (k:keepIn K (.ref f)=true:=by kernel_rfl)
  (b:∀ (kV doc pm:Value) (an:Option Addr) (cdv ct:Value) (u1 u2 u3 u4:Value),bindArgs (fnOf x x (cX st) (bV st) (ap st) .none kV doc pm an cdv ct) ⟨[u1,u2,u3,u4],[]⟩=pure [(p1,u1),(p2,u2),(p3,u3),(p4,u4)]:=by intros;kernel_rfl):TopFn K mg x st [p1,p2,p3,p4] :=
 ⟨_,_,bS l cc k,mg_of X G a,(bS l cc k).binds fun j j j j j j=>uc fun j=>uc fun j=>uc fun j=>uc fun j=>un0 (b ..)⟩
theorem tf5 {p1 p2 p3 p4 p5:Str} (X:K.In h) (G:h.Ns mainGlobals mg) (f:Addr) (md:String) (t:Tok) (c:Addr) (a:nsIn K mainGlobals x=some (some (.ref f)):=by kernel_rfl) (l:K.lookup f=some (oF x x st md t c):=by kernel_rfl) (cc:codeIn K (xr c) x=true:=by kernel_rfl) (k:keepIn K (.ref f)=true:=by kernel_rfl)
  (b:∀ (kV doc pm:Value) (an:Option Addr) (cdv ct:Value) (u1 u2 u3 u4 u5:Value),bindArgs (fnOf x x (cX st) (bV st) (ap st) .none kV doc pm an cdv ct) ⟨[u1,u2,u3,u4,u5],[]⟩=pure [(p1,u1),(p2,u2),(p3,u3),(p4,u4),(p5,u5)]:=by intros;kernel_rfl):TopFn K mg x st [p1,p2,p3,p4,p5] :=
 ⟨_,_,bS l cc k,mg_of X G a,(bS l cc k).binds fun j j j j j j=>uc fun j=>uc fun j=>uc fun j=>uc fun j=>uc fun j=>un0 (b ..)⟩
end
end L2
end
section
namespace L2
open PySem
def bagL (l:Addr) (i m st c:Int):List V:=[.ref l,.int i,.int m,.int st,.int c]
structure BagAt (H:Hp) (b l:Addr):Prop where
 ex:∃ (xs:List Int) (i:Nat) (m st c:Int),H b=some (.lst (bagL l i m st c))/\H l=some (.lst (xs.map V.int))/\i<=xs.length/\(0<=m/\m<=10 ^ 60)/\(0<=st/\st < 2147483647)/\(∀ x∈xs,0<=x/\x<=10 ^ 60)/\xs.length<=63
def BSame (b:Addr) (H H':Hp):Prop:=∀ a o,a≠b->H a=some o->H' a=some o
theorem BSame.refl (b:Addr) (H:Hp):BSame b H H:=fun j j j h=>h
theorem BSame.trans {b:Addr} {H H1 H2:Hp} (x:BSame b H H1) (y:BSame b H1 H2):BSame b H H2:=fun a o n h=>y a o n (x a o n h)
theorem BSame.wr {b:Addr} {H:Hp} {o:HO}:BSame b H (upd H b o):=fun a u n h=>by rw[aP n];exact h
theorem BagAt.lst {H:Hp} {b l:Addr} (B:BagAt H b l):∃ xs,H b=some (.lst xs):=let ⟨_,_,_,_,_,h,_⟩:=B.ex;⟨_,h⟩
inductive drawB (x y:V) (H:Hp) (Q:VK):Prop
 | mk (b l n) (_:x=.ref b) (_:y=.int n) (_:0 < n/\n<=10 ^ 65) (_:BagAt H b l) (_:∀ r H',0<=r->r < n->BagAt H' b l->BSame b H H'->Q (.int r) H'):drawB x y H Q
def eY:Sp:=sp2 drawB
inductive Pr_number (x:V) (H:Hp) (Q:VK):Prop
 | mk (b l) (_:x=.ref b) (_:BagAt H b l) (_:∀ r H',r.natAbs<=10 ^ 60->BagAt H' b l->BSame b H H'->Q (.int r) H'):Pr_number x H Q
def jc:Sp:=sp1 (Pr_number)
inductive Pr_bag (K:W.Frag) (x:V) (H:Hp) (Q:VK):Prop
 | mk (a:Addr) (ns:List Int) (_:x=.ref a) (_:SqL K H a (ns.map V.int)) (_:ns.length<=63) (_:∀ b l H',H b=none->Same H H'->BagAt H' b l->Q (.ref b) H'):Pr_bag K x H Q
def vc (K:W.Frag):Sp:=sp1 (Pr_bag K)
end L2
end
section
namespace L3
open PySem PyProof.Rows
class KOrd where
 kd:SortKind
 good:Keyed->Prop
 kv:Keyed->Int
abbrev oneType' [KOrd]:SortKind:=KOrd.kd
def IntK [KOrd] (x:Keyed):Prop:=KOrd.good x
def kvl [KOrd] (x:Keyed):Int:=KOrd.kv x
def IntKeys [KOrd] (xs:Array Keyed):Prop:=∀ q,q∈xs.toList->IntK q
def K [KOrd] (xs:Array Keyed) (i:Nat):Int:=match xs[i]? with
 | some q=>kvl q
 | none=>0
class KLt [KOrd] (P:Program) (W:World) (A:Around) (E:Value->Shared->Prop) (z:Shared):Prop where
 lt:∀ {u:SortSt} {x y:Keyed} {Q:Option Bool->SortSt->Prop},kindOf u=oneType'->IntK x->IntK y->Q (some (decide (kvl x < kvl y))) u->wpS (model P W) A E z (lt' x y) Q u
end L3
end
section
namespace L3
open PySem PyProof.Rows
variable [KOrd]
section
variable {P:Program} {W:World} {A:Around} {E:Value->Shared->Prop} {z:Shared} [KLt P W A E z]
structure Fr (u v:SortSt):Prop where
 kind:kindOf v=kindOf u
 arr:arrOf v=arrOf u
 pend:pendingOf v=pendingOf u
 failed:failedOf v=failedOf u
end
end L3
end
section
namespace L2
open PySem PySem.Spec PyProof.Rows
section
variable {P:Program} {W:World} {A:Around} {E:Value->Shared->Prop} {z:Shared}
def uY (P:Program) (W:World) (A:Around) (E:Value->Shared->Prop) (z:Shared) (b:Array Keyed):Prop :=
 ∀ u:SortSt,SBase b u->arrOf u=b->wpS (model P W) A E z sortRuns' (fun j v=>(arrOf v).Perm b/\failedOf v=none/\SortedTo (arrOf v) b.size) u
theorem Zmx {b:Array Keyed} (hk:IntKeys b) (h2:2<=b.size) (h:b.size < 64):uY P W A E z b:=fun u hu j=>wpS_sortRuns hk hu h2 h fun v a c d=>⟨a,c,d⟩
theorem Zou {a:Addr} {us:List Value} {ns:List Int} {k:Nat} {F:PySem.Fin->Shared->Prop} (ho:z.heap.get? a=some (seqObj "list" us.toArray k)) (hi:IntsAre us ns) (hz:us.length<=sizeLine)
  (hr:2<=us.length->∀ z',uY P W A E z' (pairsOf us))
  (h:∀ (out:Array Value) (ms:List Int),IntsAre out.toList ms->ms.Perm ns->ms.Pairwise (·<=·)->F (.done (.ret .none)) { z with heap:=sortedHeap z.heap a us out }) :
  wpAny (model P W) A (Builtin.«list.sort» ⟨[.ref a],[]⟩) F E z:=by
 have hlt:a < z.heap.objs.size:=aM ho
 have hus:us.toArray.size=us.length:=by simp
 obtain ⟨ep,hoE⟩:∃ ep,(z.heap.update a (Obj.mapSeq fun y=>#[])).get? a=some (seqObj "list" #[] ep):=⟨_,get?_update_seq ho fun y=>#[]⟩
 have hoF:(((z.heap.update a (Obj.mapSeq fun y=>#[])).push (seqObj "tuple" us.toArray 0)).push (seqObj "list" #[] 0)).get? a=some (seqObj "list" #[] ep):=aJ _ (aJ _ hoE)
 have ends:∀ v:SortSt,(arrOf v).Perm (pairsOf us)->SortedTo (arrOf v) (pairsOf us).size->F (.done (.ret .none)) { z with heap:=sortedHeap z.heap a us ((arrOf v).map (·.2)) }:=fun v hp hs=>by
  obtain ⟨ms,q1,q2,q3⟩:=sorted_out hi hp hs
  exact h _ ms q1 q2 q3
 have hfit:∀ v:SortSt,(arrOf v).Perm (pairsOf us)->((arrOf v).map (·.2)).size<=sizeLine+1:=fun v hp=>by
  rw[Array.size_map,hp.size_eq,nZ]
  lia
 rw[list_sort_plain]
 refine ab (listItems_at (o:=seqObj "list" us.toArray k) ho rfl ?_)
 refine ab (listUpdate_at (hsz:=by rw[hus];exact hz) (hsz2:=bg _) (o:=seqObj "list" us.toArray k) ho rfl ?_)
 refine ab (seqEpoch_at (o:=seqObj "list" #[] ep) hoE rfl ?_)
 refine ab (n6 ?_ (hsz:=by rw[jQ,hus];exact hz))
 refine ab (wpAny_newList ?_ (hsz:=bg _))
 refine cY (id ?_)
 dsimp only
 by_cases hfew:us.toArray.size < 2
 .rw[ag hfew,ag hfew]
  refine ab (am (id ?_))
  rw[StateT.run_pure]
  refine ab (am (id ?_))
  dsimp only
  refine ab (seqEpoch_at (o:=seqObj "list" #[] ep) hoF rfl ?_)
  refine ab (listUpdate_at (hsz:=bg _) (hsz2:=hfit (SortSt.mk' general' (us.toArray.zip us.toArray) #[] 7 none) (Array.Perm.refl _)) (o:=seqObj "list" #[] ep) hoF rfl ?_)
  simp only[bne_self_eq_false,dE,dv]
  refine am (ends (SortSt.mk' general' (us.toArray.zip us.toArray) #[] 7 none) (Array.Perm.refl _) fun i j hij hj=>?_)
  obtain rfl:i=j:=by rw[nZ] at hj;lia
  exact Int.le_refl _
 .rw[ah hfew,ah hfew]
  have hkind:keyKind' us.toArray=pure oneType':=by
   match us,hi,hus,hfew with
   | [],_,_,hf=>simp at hf
   | [_],_,_,hf=>simp at hf
   | _::_::_,hi,_,_=>exact keyKind_ints hi
  rw[hkind]
  refine ab (am (id ?_))
  refine ab (cE (hr (by lia) _ (SortSt.mk' oneType' (us.toArray.zip us.toArray) #[] 7 none) ⟨Array.Perm.refl _,rfl,rfl,rfl⟩ rfl) ?_ fun y y q=>q)
  rintro ⟨⟨⟩,v⟩ z' ⟨rfl,hp,hf,hs⟩
  dsimp only
  refine ab (seqEpoch_at (o:=seqObj "list" #[] ep) hoF rfl ?_)
  refine ab (listUpdate_at (hsz:=bg _) (hsz2:=hfit v hp) (o:=seqObj "list" #[] ep) hoF rfl ?_)
  rw[hf]
  simp only[bne_self_eq_false,dE,dv]
  exact am (ends v hp hs)
end
theorem Un.track' {fs ex:List Addr} {H H1:Hp} {h h1:Heap} {a:Addr} {o:HO} (u:Un fs ex H H1 h h1) (hne:∀ b o,h.get? b=some o->b≠a) (hn:H a=none):Un fs ex H (upd H1 a o) h h1 where
 keep:=u.keep
 slot:=u.slot
 free:=fun b ob q n hx=>by
  rw[aP (hne b ob q)]
  exact u.free b ob q n hx
 there:=u.there
 tups:=fun b xs q=>by
  rw[aP (fun z=>by rw[z,hn] at q;cases q)]
  exact u.tups b xs q
 frzs:=fun b ob x q=>by
  rw[aP (fun z=>by rw[z,hn] at q;cases q)]
  exact u.frzs b ob x q
 tbls:=fun b ps q=>by
  rw[aP (fun z=>by rw[z,hn] at q;cases q)]
  exact u.tbls b ps q
theorem ObjOk.there {P:Program} {w:World} {H:Hp} {h:Heap} {a:Addr} {o:HO} (x:ObjOk P w H h a o):∃ ob,h.get? a=some ob:=by
 cases o with
 | lst xs=>obtain ⟨j,j,j,j,e⟩:=x;exact ⟨_,e⟩
 | tup xs=>obtain ⟨j,j,j,ob,e,j⟩:=x;exact ⟨_,e⟩
 | dK kvs=>obtain ⟨j,j,j,j,o,j,j,e,j⟩:=x;exact ⟨_,e⟩
 | dT kvs=>obtain ⟨j,j,j,j,o,j,j,e,j⟩:=x;exact ⟨_,e⟩
 | set S n=>obtain ⟨o,j,j,j,e,j⟩:=x;exact ⟨_,e⟩
 | ins C dx fs=>obtain ⟨j,j,j,e,j⟩:=x;exact ⟨_,e⟩
 | own y=>exact x
 | xd fs=>obtain ⟨j,⟨o,j,j,e,j⟩,j⟩:=x;exact ⟨_,e⟩
 | rng lo hi=>obtain ⟨j,j,j,e⟩:=x;exact ⟨_,e⟩
 | frz ob u=>obtain ⟨e,j⟩:=x;exact ⟨_,e⟩
 | tbl ps=>exact ⟨_,x⟩
 | met f y=>exact ⟨_,x⟩
 | ext φ=>obtain ⟨j,e,j⟩:=x;exact e
theorem sS:∀ {us:List Value} {ns:List Int},IntsAre us ns->Vals (ns.map V.int) us
 | _,_,.nil=>.nil
 | _,_,.cons n t h=>.cons ⟨t,rfl⟩ (sS h)
theorem KV.at' {κ : Type} : ∀ {kvs : List (κ × V)} {vs : List (κ × Value)} {j : Nat} {k : κ} {x : Value}, KV kvs vs -> vs[j]? = some (k, x) -> ∃ p, kvs[j]? = some p /\ p.1 = k
  | _, _, j, k, x, .nil, e => by simp at e
  | p :: _, q :: _, 0, k, x, .cons r _, e => by
    simp at e
    subst e
    exact ⟨p,rfl,r.1⟩
  | p :: ps, q :: qs, j + 1, k, x, .cons _ t, e => by
    obtain ⟨p',e1,e2⟩:=KV.at' (j:=j) (kvs:=ps) (vs:=qs) t (by simpa using e)
    exact ⟨p', by simpa using e1, e2⟩
theorem tK : ∀ {us : List Value} {ns : List Int}, us.length = ns.length -> (∀ (j : Nat) v, us[j]? = some v -> ∃ n t, ns[j]? = some n /\ v = Value.int n t) -> IntsAre us ns
  | [], [], _, _ => .nil
  | [], _ :: _, h, _ => by simp at h
  | _ :: _, [], h, _ => by simp at h
  | u :: us, n :: ns, h, k => by
    obtain ⟨n',t,e1,e2⟩:=k 0 u rfl
    simp at e1
    subst e1;subst e2
    exact .cons n t (tK (by simpa using h) fun j v e => k (j + 1) v (by simpa using e))
end L2
namespace L2
open PySem
def kvT (t:List (Int×Int)):List (Key×V):=t.map fun q=>(Sum.inl q.1,V.int q.2)
theorem Znb (t:List (Int×Int)):(kvT t).map (·.1)=(t.map (·.1)).map Sum.inl:=by unfold kvT;simp
theorem Zkj {t:List (Int×Int)} {w:Int} (h:∀ q∈t,q.1≠w):valV (kvT t) (Sum.inl w:Key)=none:=by
 induction t with
 | nil=>rfl
 | cons q t ih =>
  show valV ((Sum.inl q.1,V.int q.2)::kvT t) (Sum.inl w:Key)=none
  rw[iw (fun e=>h q bG (Sum.inl.inj e))]
  exact ih fun q' hq=>h q' (bE _ hq)
theorem ZmF {t:List (Int×Int)} {w x:Int} (h:∀ q∈t,q.1≠w):putK (kvT t) (Sum.inl w:Key) (V.int x)=kvT (t++[(w,x)]):=by
 rw[ZmH _ (Zkj h)]
 unfold kvT
 simp
end L2
end
section
namespace L3
open PySem PyProof.Rows
section
variable {P:Program} {w:World} {A:Around} {E:Value->Shared->Prop} {s:Shared}
def dd (ns:List Int):List Int:=firstMet (fun i=>ns.getD i 0) ns.length
end
end L3
end
section
namespace L2
open PySem PySem.Spec PyProof.Rows
def rIsN:R2:=fun x y H Q=>y=.non/\Q (.bl (decide (x=.non))) H
def rNotN:R2:=fun x y H Q=>y=.non/\Q (.bl (!decide (x=.non))) H
theorem pE {X:Cx}:OpR X (compareOp .Is) rIsN:=op_isN
theorem qw {X:Cx}:OpR X (compareOp .IsNot) rNotN:=ZoZ
theorem uG : ∀ {l m : List Int}, l.Pairwise (· <= ·) -> m.Pairwise (· <= ·) -> l.Perm m -> l = m
  | [], m, _, _, p => by rw[nil_perm.mp p]
  | a :: l, [], _, _, p => by simp at p
  | a :: l, b :: m, h1, h2, p => by
    obtain ⟨p1,p2⟩:=n9.mp h1
    obtain ⟨q1,q2⟩:=n9.mp h2
    have hab : a = b := by
      have ha:a∈b::m:=p.mem_iff.mp bG
      have hb:b∈a::l:=p.mem_iff.mpr bG
      rcases aG.mp ha with e|ha
      . exact e
      . rcases aG.mp hb with e | hb
        . exact e.symm
        . have := q1 a ha
          have:=p1 b hb
          lia
    subst hab
    rw[uG p2 q2 (List.Perm.cons_inv p)]
structure SgOk (sg:List (Int×Int)):Prop where
 pos:0 < sg.length
 few:sg.length<=6
 first:∃ bx,sg[0]?=some (0,bx)
 all:∀ q∈sg,0<=q.1/\q.1<=4/\q.1<=q.2/\1<=q.2/\q.2<=8
structure MCal (P:Program) (w:World) (K:W.Frag) (mg:Str->Option Value) (base:Heap) (C:Addr) (m:Str) (k:Nat) (ps:List Str) (sp:Sp):Prop where
 ex:∃ f fd,FnOk P w K mg base CX0 k f fd ps sp/\Meth K C m f/\Binds K fd ps []
structure CCal (P:Program) (w:World) (K:W.Frag) (mg:Str->Option Value) (base:Heap) (C:Addr) (x:Str) (k:Nat) (ps:List Str) (sp:Sp):Prop where
 ex:∃ f fd,FnOk P w K mg base CX0 k f fd ps sp/\Mk K C f/\Binds K fd ps []/\mg x=some (.ref C)
section
variable {X:Cx} {C:Addr} {x m:Str} {k:Nat} {ps:List Str} {sp:Sp} {o e:Expr} {es:List Expr} {ta:TE} {t:TA} {apos pos p:Pos}
theorem pe_m {pl:Sem Bool} (M:MCal X.prog X.w X.K X.mg X.base C m k ps sp) (c:Cls X.K C) (hr:Room k X.A) (ho:PE X o ta) (ha:PA X (e::es) t)
  (hst:starEach (e::es) X.env=(false,eval e X.env)::starEach es X.env:=by rfl) (hpl:(backTo pos (starEach es X.env)).any (·.1)=false:=by rfl)
  (ht:eval (.Call (.Attribute o m apos) (e::es) [] pos) X.env=(do
   let ov <- eval o X.env;standAt apos.atName
   let (f,first) <- holding [ov] (getMethod ov m pl)
   callWith pos f first (backTo pos (starEach (e::es) X.env)) (backToKw pos (keywordEach [] X.env))):=by rfl) :
  PE X (.Call (.Attribute o m apos) (e::es) [] pos) (je C m sp [] E0 ta t):=by
 obtain ⟨f,fd,F,hm,hb⟩:=M.ex
 exact ZoU (pl:=pl) ho c hm F hr hb .nil nu ha hst hpl ht
theorem pe_m0 {pl:Sem Bool} (M:MCal X.prog X.w X.K X.mg X.base C m k ps sp) (c:Cls X.K C) (hr:Room k X.A) (ho:PE X o ta)
  (ht:eval (.Call (.Attribute o m apos) [] [] pos) X.env=(do
   let ov <- eval o X.env;standAt apos.atName
   let (f,first) <- holding [ov] (getMethod ov m pl)
   callWith pos f first (backTo pos (starEach [] X.env)) (backToKw pos (keywordEach [] X.env))):=by rfl) :
  PE X (.Call (.Attribute o m apos) [] [] pos) (je C m sp [] E0 ta tNil):=by
 obtain ⟨f,fd,F,hm,hb⟩:=M.ex
 exact ZmP (pl:=pl) ho c hm F hr hb .nil nu ht
theorem pe_new (M:CCal X.prog X.w X.K X.mg X.base C x k ps sp) (hr:Room (k+1) X.A) (hg:Gl X x) (ha:PA X (e::es) t) (hdb:(x == ("__debug__":Str))=false:=by decide)
  (he:starEach (e::es) X.env=(false,eval e X.env)::starEach es X.env:=by rfl) (hpl:(backTo pos (starEach es X.env)).any (·.1)=false:=by rfl) :
  PE X (.Call (.Name x p) (e::es) [] pos) (qo C sp [] E0 t):=by
 obtain ⟨f,fd,F,hM,hb,hm⟩:=M.ex
 exact ZoV hM F hr hg hm hb .nil nu ha hdb he hpl
theorem bU {K:W.Frag} {f:Str} (h:X.K=K) (he:PE X e ta) (hb:attributeBase e f X.env (eval e X.env)=eval e X.env):PE X (.Attribute e f pos) (tFld K ta f):=h▸pe_fld he hb
theorem ir {K:W.Frag} {f:Str} {value:Expr} {tv:TE} {pos':Pos} (h:X.K=K) (ha:PE X o ta) (hv:PE X value tv) (hs:swapsWith value (some (.Attribute o f pos')) pos.line X.env=pure false):PS X (.Assign [.Attribute o f pos'] value pos) (sFld K ta tv f):=h▸ps_fld ha hv hs
theorem oS {n:Int} (hg:Gl X x) (h:∃ t,X.mg x=some (.int n t)) (hd:(x == ("__debug__":Str))=false:=by decide):PE X (.Name x pos) (tC (.int n)):=by
 obtain ⟨t,h⟩:=h
 exact pV hg h ⟨t,rfl⟩ hd
def tCT (K:W.Frag) (xs:List V):TE:=fun j H Q=>∀ a,(∀ H',SqT K H' a xs)->Q (.ref a) H
def IsCT (K:W.Frag) (mg:Str->Option Value) (x:Str) (xs:List V):Prop:=∃ a,mg x=some (.ref a)/\∃ (o:Obj) (its:Array Value) (n:Nat),K.lookup a=some o/\o.cls=.type "tuple"/\o.data=.seq its n/\its.size<=sizeLine/\Vals xs its.toList
theorem ZoX {K:W.Frag} {xs:List V} (hg:Gl X x) (h:IsCT K X.mg x xs) (hd:(x == ("__debug__":Str))=false:=by decide):PE X (.Name x pos) (tCT K xs):=by
 obtain ⟨a,h,r⟩:=h
 intro pins s Z H Q I q
 exact pV (v:=.ref a) hg h rfl hd pins s Z H Q I (q a fun H'=>.inr r)
end
structure TopM (K:W.Frag) (C:Addr) (m qual:Str) (st:Stmt) (ps:List Str):Prop where
 ex:∃ f fd,Fun K m qual st f fd/\Meth K C m f/\Binds K fd ps []
structure TopI (K:W.Frag) (mg:Str->Option Value) (C:Addr) (x qual:Str) (st:Stmt) (ps:List Str):Prop where
 ex:∃ f fd,Fun K "__init__" qual st f fd/\Mk K C f/\Binds K fd ps []/\mg x=some (.ref C)
section
variable {P:Program} {w:World} {K:W.Frag} {mg:Str->Option Value} {base:Heap} {x m qual:Str} {st:Stmt} {ps N:List Str} {sp:Sp} {k:Nat} {C:Addr}
theorem TopM.cal (T:TopM K C m qual st ps) (h:∀ f fd,Fun K m qual st f fd->FnOk P w K mg base CX0 k f fd ps sp):MCal P w K mg base C m k ps sp:=by
 obtain ⟨f,fd,F,hm,hb⟩:=T.ex
 exact ⟨f,fd,h f fd F,hm,hb⟩
end
end L2
end
section
namespace L2
open PySem PySem.W PyProof.Rows
section
variable {K:Frag} {h:Heap} {mg:Str->Option Value} {x m qual:Str} {st:Stmt} {C:Addr}
theorem na {f:Str} (e:findIn K (.ref C) f=some none:=by kernel_rfl):NoAttr K C f:=e
theorem nc (a:plainGet K C Str.empty=true:=by kernel_rfl) (b:hasDictIn K C=true:=by kernel_rfl) (c:plainOver K C=true:=by kernel_rfl) (d:findIn K (.ref C) "__setattr__"=some (some (.builtin "object.__setattr__")):=by kernel_rfl):Cls K C:=⟨a,b,c,d⟩
theorem tm1 {p1:Str} (f:Addr) (md:String) (t:Tok) (c:Addr) (a:findIn K (.ref C) m=some (some (.ref f)):=by kernel_rfl) (i:isFn K (.ref f)=true:=by kernel_rfl) (l:K.lookup f=some (oF m qual st md t c):=by kernel_rfl) (cc:codeIn K (xr c) qual=true:=by kernel_rfl) (k:keepIn K (.ref f)=true:=by kernel_rfl)
  (b:∀ (kV doc pm:Value) (an:Option Addr) (cdv ct:Value) (u1:Value),bindArgs (fnOf m qual (cX st) (bV st) (ap st) .none kV doc pm an cdv ct) ⟨[u1],[]⟩=pure [(p1,u1)]:=by intros;kernel_rfl):TopM K C m qual st [p1] :=
 ⟨_,_,bS l cc k,⟨a,i,k⟩,(bS l cc k).binds fun j j j j j j=>uc fun j=>un0 (b ..)⟩
theorem tm2 {p1 p2:Str} (f:Addr) (md:String) (t:Tok) (c:Addr) (a:findIn K (.ref C) m=some (some (.ref f)):=by kernel_rfl) (i:isFn K (.ref f)=true:=by kernel_rfl) (l:K.lookup f=some (oF m qual st md t c):=by kernel_rfl) (cc:codeIn K (xr c) qual=true:=by kernel_rfl) (k:keepIn K (.ref f)=true:=by kernel_rfl)
  (b:∀ (kV doc pm:Value) (an:Option Addr) (cdv ct:Value) (u1 u2:Value),bindArgs (fnOf m qual (cX st) (bV st) (ap st) .none kV doc pm an cdv ct) ⟨[u1,u2],[]⟩=pure [(p1,u1),(p2,u2)]:=by intros;kernel_rfl):TopM K C m qual st [p1,p2] :=
 ⟨_,_,bS l cc k,⟨a,i,k⟩,(bS l cc k).binds fun j j j j j j=>uc fun j=>uc fun j=>un0 (b ..)⟩
theorem tm3 {p1 p2 p3:Str} (f:Addr) (md:String) (t:Tok) (c:Addr) (a:findIn K (.ref C) m=some (some (.ref f)):=by kernel_rfl) (i:isFn K (.ref f)=true:=by kernel_rfl) (l:K.lookup f=some (oF m qual st md t c):=by kernel_rfl) (cc:codeIn K (xr c) qual=true:=by kernel_rfl) (k:keepIn K (.ref f)=true:=by kernel_rfl)
  (b:∀ (kV doc pm:Value) (an:Option Addr) (cdv ct:Value) (u1 u2 u3:Value),bindArgs (fnOf m qual (cX st) (bV st) (ap st) .none kV doc pm an cdv ct) ⟨[u1,u2,u3],[]⟩=pure [(p1,u1),(p2,u2),(p3,u3)]:=by intros;kernel_rfl):TopM K C m qual st [p1,p2,p3] :=
 ⟨_,_,bS l cc k,⟨a,i,k⟩,(bS l cc k).binds fun j j j j j j=>uc fun j=>uc fun j=>uc fun j=>un0 (b ..)⟩
theorem ti3 {p1 p2 p3:Str} (X:K.In h) (G:h.Ns mainGlobals mg) (f:Addr) (md:String) (t:Tok) (c:Addr) (a:findIn K (.ref C) "__init__"=some (some (.ref f)):=by kernel_rfl) (i:isFn K (.ref f)=true:=by kernel_rfl) (l:K.lookup f=some (oF "__init__" qual st md t c):=by kernel_rfl) (cc:codeIn K (xr c) qual=true:=by kernel_rfl) (k:keepIn K (.ref f)=true:=by kernel_rfl) (mk:makesIn K C=true:=by kernel_rfl) (kc:keepIn K (.ref C)=true:=by kernel_rfl) (aC:nsIn K mainGlobals x=some (some (.ref C)):=by kernel_rfl)
  (b:∀ (kV doc pm:Value) (an:Option Addr) (cdv ct:Value) (u1 u2 u3:Value),bindArgs (fnOf "__init__" qual (cX st) (bV st) (ap st) .none kV doc pm an cdv ct) ⟨[u1,u2,u3],[]⟩=pure [(p1,u1),(p2,u2),(p3,u3)]:=by intros;kernel_rfl):TopI K mg C x qual st [p1,p2,p3] :=
 ⟨_,_,bS l cc k,⟨mk,a,i,kc⟩,(bS l cc k).binds fun j j j j j j=>uc fun j=>uc fun j=>uc fun j=>un0 (b ..),mg_of X G aC⟩
theorem tm4 {p1 p2 p3 p4:Str} (f:Addr) (md:String) (t:Tok) (c:Addr) (a:findIn K (.ref C) m=some (some (.ref f)):=by kernel_rfl) (i:isFn K (.ref f)=true:=by kernel_rfl) (l:K.lookup f=some (oF m qual st md t c):=by kernel_rfl) (cc:codeIn K (xr c) qual=true:=by kernel_rfl) (k:keepIn K (.ref f)=true:=by kernel_rfl)
  (b:∀ (kV doc pm:Value) (an:Option Addr) (cdv ct:Value) (u1 u2 u3 u4:Value),bindArgs (fnOf m qual (cX st) (bV st) (ap st) .none kV doc pm an cdv ct) ⟨[u1,u2,u3,u4],[]⟩=pure [(p1,u1),(p2,u2),(p3,u3),(p4,u4)]:=by intros;kernel_rfl):TopM K C m qual st [p1,p2,p3,p4] :=
 ⟨_,_,bS l cc k,⟨a,i,k⟩,(bS l cc k).binds fun j j j j j j=>uc fun j=>uc fun j=>uc fun j=>uc fun j=>un0 (b ..)⟩
end
end L2
end
section
namespace L2
open PySem PySem.Spec PyProof.Rows
section
variable {X:Cx} {pins:List (Addr×Obj)} {Z:St} {H:Hp} {s:Shared} {h':Heap}
theorem Inv.turnedL {t':Nat} {fp:List Addr} (I:Inv X pins Z H s) (k:∀ b o,b∉fp->s.heap.get? b=some o->h'.get? b=some o) (hf:∀ b∈fp,FpOk X pins H b):Inv X pins Z H { s with heap:=h',toks:=t' }:=by
 have nit:∀ b u,H b=some u->b∉fp:=fun b u e z=>by rw[(hf b z).1] at e;cases e
 refine I.step (g':=s.gens) (d':=s.drawn) (ch:=fp) (fun b hb=>?_) (fun b o j j hc e j=>k b o hc e) (fun b o j j hc e j=>⟨o.slots,k b o hc e⟩) (fun j j j j n=>n)
  (fun b o hc e=>⟨o,k b o hc e⟩) (fun j j e=>e) (fun j j j e=>e) (fun b ps e=>⟨#[],by rw[e];simp⟩) (fun m hm=>?_) (fun b u e=>?_) I.bare
 .obtain ⟨f0,f1,f2,f3,f4,f5⟩:=hf b hb
  exact ⟨f3,f1,f4,f5⟩
 .obtain ⟨o,es,ep,ho,r⟩:=hm
  exact ⟨o,es,ep,k _ o (fun z=>(hf _ z).2.1 rfl) ho,r⟩
 .refine (I.hok b u e).stay (fun c v hc q=>k c v ?_ q) (fun j q=>q) fun j j q=>q
  rcases hc with z|z
  .rw[z];exact nit b u e
  .exact nit c _ z
theorem pI {h:Heap} {o u:Obj} {b:Addr} (ho:o.isFreed=false) (e:(h.push o).get? b=some u):h.get? b=some u\/(b=h.objs.size/\u=o):=by
 have hb:=aM e
 rw[dQ] at hb
 by_cases hbe:b=h.objs.size
 .subst hbe
  rw[bp h ho] at e
  exact .inr ⟨rfl,(Option.some.inj e).symm⟩
 .have hlt:b < h.objs.size:=Nat.lt_of_le_of_ne (Nat.le_of_lt_succ hb) hbe
  left
  rw[<-e]
  unfold Heap.get? Heap.push
  simp[Array.getElem?_push_lt,hlt,q9 hlt]
end
def Itz (K:W.Frag) (l1 l2:Addr):It:=⟨fun i H=>∃ xs ys x y,SqL K H l1 xs/\SqL K H l2 ys/\xs[i]?=some x/\ys[i]?=some y,
 fun i H v H'=>∃ T x y,(∀ xs,SqL K H l1 xs->xs[i]?=some x)/\(∀ ys,SqL K H l2 ys->ys[i]?=some y)/\H T=none/\v=.ref T/\H'=upd H T (.tup [x,y]),
 fun i H=>∃ xs ys,SqL K H l1 xs/\SqL K H l2 ys/\(xs.length<=i\/ys.length<=i)⟩
theorem Zms {P:Program} {w:World} {K:W.Frag} {elts:List Expr} {x1} {pos:Pos} {z TI TO i1 i2 l1 l2:Addr} (D:ZipApart z TI TO i1 i2 l1 l2) :
  Turn P w K (.Tuple elts x1 pos) (Itz K l1 l2) [z,TI,TO,i1,i2] z (fun i h=>IsZip h z TI TO .none/\IsPair h TI (.ref i1) (.ref i2)/\(∃ a b,IsPair h TO a b)/\h.IsListIter i1 l1 i/\h.IsListIter i2 l2 i) where
 mem:=by simp
 obj:=fun i h st b hb=>by
  obtain ⟨a1,a2,⟨a,b',a3⟩,⟨o1,e1,c1,d1⟩,⟨o2,e2,c2,d2⟩⟩:=st
  simp only[aG,bv,ci] at hb
  rcases hb with rfl|rfl|rfl|rfl|rfl
  .exact ⟨_,a1,fun v z=>by cases z⟩
  .exact ⟨_,a2,fun v z=>by cases z⟩
  .exact ⟨_,a3,fun v z=>by cases z⟩
  .exact ⟨_,e1,fun v z=>by rw[d1] at z;cases z⟩
  .exact ⟨_,e2,fun v z=>by rw[d2] at z;cases z⟩
 keep:=fun i h h' st k=>by
  obtain ⟨a1,a2,⟨a,b',a3⟩,a4,a5⟩:=st
  exact ⟨k z (by simp) _ a1,k TI (by simp) _ a2,⟨a,b',k TO (by simp) _ a3⟩,a4.at fun o e=>k i1 (by simp) o e,a5.at fun o e=>k i2 (by simp) o e⟩
 item:=by
  intro X hP hw hK hc i pins s Z H E I hf st hg
  subst hP hw hK
  obtain ⟨xs,ys,x,y,hq1,hq2,hx,hy⟩:=hg
  obtain ⟨its1,rv1,p1,hz1⟩:=I.list hq1
  obtain ⟨its2,rv2,p2,hz2⟩:=I.list hq2
  obtain ⟨u1,hu1,ru1⟩:=rv1.get hx
  obtain ⟨u2,hu2,ru2⟩:=rv2.get hy
  obtain ⟨a1,a2,⟨a,b',a3⟩,a4,a5⟩:=st
  refine wpAny_pyNext_zip_item D a1 a2 a3 a4 a5 p1.isList p2.isList (x:=u1) (y:=u2) (by simpa using hu1) (by simpa using hu2) fun h' b1 b2 b3 b4 b5 b6 b7=>?_
  refine ⟨_,rfl,wpAny_letOwnedTupleGo_zip (s:={ s with heap:=h' }) b1 fun h2 c1 c2=>?_⟩
  have hT:H s.heap.objs.size=none:=I.hok.fresh (aq _)
  have I1:Inv X pins Z (upd H s.heap.objs.size (.tup [x,y])) { s with heap:=s.heap.push { cls:=.type "tuple",data:=.seq #[u1,u2] },toks:=s.toks } :=
   I.laid (t':=s.toks) (fun b u e=>aJ _ e) (aq _) ⟨by show 2<=sizeLine;decide,[u1,u2],.cons ru1 (.cons ru2 .nil),⟨_,bp _ rfl,rfl,_,rfl⟩⟩
  have lt:∀ {c o},s.heap.get? c=some o->c≠s.heap.objs.size:=fun e=>bc (aM e)
  have ne:∀ b∈[z,TI,TO,i1,i2],b≠s.heap.objs.size:=fun b hb=>by
   obtain ⟨o1,e1,j⟩:=a4
   obtain ⟨o2,e2,j⟩:=a5
   simp only[aG,bv,ci] at hb
   rcases hb with rfl|rfl|rfl|rfl|rfl
   .exact lt a1
   .exact lt a2
   .exact lt a3
   .exact lt e1
   .exact lt e2
  have f1:∀ b∈[z,TI,TO,i1,i2],upd H s.heap.objs.size (.tup [x,y]) b=none:=fun b hb=>by rw[aP (ne b hb)];exact (hf b hb).1
  have hTz:s.heap.objs.size≠z:=(ne z (by simp)).symm
  have I2:=I1.turnedL (h':=h2) (t':=s.toks) (fp:=[z,TI,TO,i1,i2]) (fun b o hb e=>by
   simp only[aG,bv,ci,cF] at hb
   obtain ⟨n1,n2,n3,n4,n5⟩:=hb
   rcases pI rfl e with e|⟨rfl,rfl⟩
   .exact c2.extBut _ _ n1 (b7 b o n1 n3 n4 n5 e)
   .exact c2.extBut _ _ hTz b5) fun b hb=>⟨f1 b hb,(hf b hb).2⟩
  refine ⟨.ref s.heap.objs.size,_,I2,rfl,⟨_,x,y,fun xs' h=>by rw[I.list_inj h hq1];exact hx,fun ys' h=>by rw[I.list_inj h hq2];exact hy,hT,rfl,rfl⟩,?_,f1⟩
  exact ⟨c1,c2.extBut _ _ D.TIz (b7 _ _ D.TIz D.TITO D.TIi1 D.TIi2 a2),⟨_,_,c2.extBut _ _ D.TOz b2⟩,b3.extBut c2.extBut D.i1z,b4.extBut c2.extBut D.i2z⟩
 done:=by
  intro X hP hw hK hc i pins s Z H E I hf st hg
  subst hP hw hK
  obtain ⟨xs,ys,hq1,hq2,hend⟩:=hg
  obtain ⟨its1,rv1,p1,hz1⟩:=I.list hq1
  obtain ⟨its2,rv2,p2,hz2⟩:=I.list hq2
  have hl1:=rv1.length
  have hl2:=rv2.length
  obtain ⟨a1,a2,⟨a,b',a3⟩,a4,a5⟩:=st
  refine wpAny_pyNext_zip_end (I.ok.hd hc) D a1 a2 a3 a4 a5 p1.isList p2.isList (by simp;lia) fun h' hk=>⟨rfl,I.turnedL (t':=s.toks) (fp:=[z,TI,TO,i1,i2]) (fun b o hb e=>?_) hf⟩
  simp only[aG,bv,ci,cF] at hb
  exact hk b o hb.1 hb.2.2.1 hb.2.2.2.1 hb.2.2.2.2 e
 self:=fun j j j j j st h=>rb st.1 h
theorem vd (n l1 l2:Nat) (h1:l1 < n) (h2:l2 < n):ZipApart (n+4) (n+2) (n+3) n (n+1) l1 l2:=by
 constructor <;> exact fun z=>by
  have z':=congrArg (fun x:Nat=>x) z
  lia
section
variable {X:Cx} {tg:Expr}
def iZip (K:W.Frag) (ta:TA):TI:=fun Z H R=>ta Z H fun vs H1=>∃ l1 l2,vs=[.ref l1,.ref l2]/\(∃ xs,SqL K H1 l1 xs)/\(∃ ys,SqL K H1 l2 ys)/\R (Itz K l1 l2) H1
theorem pi_zip {a b:Expr} {ta:TA} {p pos pos':Pos} {elts:List Expr} {x1} (hg:Gl X "zip") (hm:X.mg "zip"=none) (ha:PA X [a,b] ta) (hs:starEach [a,b] X.env=[(false,eval a X.env),(false,eval b X.env)]:=by rfl) (hs2:starEach [b] X.env=[(false,eval b X.env)]:=by rfl) :
  PI X (.Tuple elts x1 pos') (.Call (.Name "zip" p) [a,b] [] pos) (iZip X.K ta):=by
 intro pins s Z H R I h
 refine Call_ (eV I hg hm u8 (gu (thn (ha pos pins s Z H _ I h) fun us s1 ⟨vs,H1,I1,r1,q1⟩=>?_) (by rw[hs,hs2]) (by rw[hs2];rfl)))
 obtain ⟨l1,l2,e,⟨xs,q1⟩,⟨ys,q2⟩,q⟩:=q1
 subst e
 cases r1 with
 | cons r rr =>
  cases rr with
  | cons r' rr =>
   cases rr
   cases r
   cases r'
   obtain ⟨its1,rv1,p1,hz1⟩:=I1.list q1
   obtain ⟨its2,rv2,p2,hz2⟩:=I1.list q2
   have hl1:l1 < s1.heap.objs.size:=by obtain ⟨o,n,e,j⟩:=p1;exact aM e
   have hl2:l2 < s1.heap.objs.size:=by obtain ⟨o,n,e,j⟩:=p2;exact aM e
   refine call_zip_2 p1.isList p2.isList fun h' a1 a2 a3 a4 a5 a6 a7=>?_
   have I2:Inv X pins Z H1 { s1 with heap:=h' }:=I1.kept (t':=s1.toks) a7
   refine rb (s:={ s1 with heap:=h' }) a1 ?_
   refine ⟨s1.heap.objs.size+4,[s1.heap.objs.size+4,s1.heap.objs.size+2,s1.heap.objs.size+3,s1.heap.objs.size,s1.heap.objs.size+1],_,_,H1,rfl,I2,Zms (l1:=l1) (l2:=l2) ?_,⟨a1,a2,⟨_,_,a3⟩,a4,a5⟩,fun b hb=>?_,q⟩
   .exact vd _ l1 l2 hl1 hl2
   .have hb':s1.heap.objs.size<=b:=by
     simp only[aG,bv,ci] at hb
     rcases hb with rfl|rfl|rfl|rfl|rfl
     .exact cj _ _
     .exact cj _ _
     .exact cj _ _
     .exact aq _
     .exact cj _ _
    exact I1.fpOk hb' (I1.hok.fresh hb')
end
theorem uW {X:Cx} {K:W.Frag} {a b:Expr} {ta:TA} {p pos pos':Pos} {elts:List Expr} {x1} (h:X.K=K) (hg:Gl X "zip") (hm:X.mg "zip"=none) (ha:PA X [a,b] ta) (hs:starEach [a,b] X.env=[(false,eval a X.env),(false,eval b X.env)]:=by rfl) (hs2:starEach [b] X.env=[(false,eval b X.env)]:=by rfl) :
  PI X (.Tuple elts x1 pos') (.Call (.Name "zip" p) [a,b] [] pos) (iZip K ta):=h▸pi_zip hg hm ha hs hs2
def Ite (K:W.Frag) (l:Addr):It:=⟨fun i H=>∃ xs x,SqL K H l xs/\xs[i]?=some x,
 fun i H v H'=>∃ T x,(∀ xs,SqL K H l xs->xs[i]?=some x)/\H T=none/\v=.ref T/\H'=upd H T (.tup [.int i,x]),
 fun i H=>∃ xs,SqL K H l xs/\xs.length<=i⟩
theorem Zko {P:Program} {w:World} {K:W.Frag} {elts:List Expr} {x1} {pos:Pos} {e it l:Addr} (nei:e≠it) :
  Turn P w K (.Tuple elts x1 pos) (Ite K l) [e,it] e (fun i h=>(∃ old,IsEnum h e it i old)/\h.IsListIter it l i) where
 mem:=by simp
 obj:=fun i h st b hb=>by
  obtain ⟨⟨old,a1⟩,⟨o1,e1,c1,d1⟩⟩:=st
  simp only[aG,bv,ci] at hb
  rcases hb with rfl|rfl
  .exact ⟨_,a1,fun v z=>by cases z⟩
  .exact ⟨_,e1,fun v z=>by rw[d1] at z;cases z⟩
 keep:=fun i h h' st k=>by
  obtain ⟨⟨old,a1⟩,a4⟩:=st
  exact ⟨⟨old,k e (by simp) _ a1⟩,a4.at fun o q=>k it (by simp) o q⟩
 item:=by
  intro X hP hw hK hc i pins s Z H E I hf st hg
  subst hP hw hK
  obtain ⟨xs,x,hq1,hx⟩:=hg
  obtain ⟨its1,rv1,p1,hz1⟩:=I.list hq1
  obtain ⟨u1,hu1,ru1⟩:=rv1.get hx
  obtain ⟨⟨old,a1⟩,a4⟩:=st
  refine wpAny_pyNext_enum_item a1 a4 p1.isList (x:=u1) (by simpa using hu1) nei fun h' b1 b2 b3 b4 b5=>?_
  refine ⟨_,rfl,wpAny_letOwnedTupleGo_enum (s:={ s with heap:=h',toks:=s.toks+1 }) b1 fun h2 c1 c2=>?_⟩
  have hT:H s.heap.objs.size=none:=I.hok.fresh (aq _)
  have I1:Inv X pins Z (upd H s.heap.objs.size (.tup [.int i,x])) { s with heap:=s.heap.push { cls:=.type "tuple",data:=.seq #[.int i s.toks,u1] },toks:=s.toks } :=
   I.laid (t':=s.toks) (fun b u e=>aJ _ e) (aq _) ⟨by show 2<=sizeLine;decide,[.int i s.toks,u1],.cons ⟨_,rfl⟩ (.cons ru1 .nil),⟨_,bp _ rfl,rfl,_,rfl⟩⟩
  have lt:∀ {c o},s.heap.get? c=some o->c≠s.heap.objs.size:=fun e=>bc (aM e)
  have ne:∀ b∈[e,it],b≠s.heap.objs.size:=fun b hb=>by
   obtain ⟨o1,e1,j⟩:=a4
   simp only[aG,bv,ci] at hb
   rcases hb with rfl|rfl
   .exact lt a1
   .exact lt e1
  have f1:∀ b∈[e,it],upd H s.heap.objs.size (.tup [.int i,x]) b=none:=fun b hb=>by rw[aP (ne b hb)];exact (hf b hb).1
  have hTe:s.heap.objs.size≠e:=(ne e (by simp)).symm
  have I2:=I1.turnedL (h':=h2) (t':=s.toks+1) (fp:=[e,it]) (fun b o hb q=>by
   simp only[aG,bv,ci,cF] at hb
   obtain ⟨n1,n2⟩:=hb
   rcases pI rfl q with q|⟨rfl,rfl⟩
   .exact c2.extBut _ _ n1 (b5 b o n1 n2 q)
   .exact c2.extBut _ _ hTe b3) fun b hb=>⟨f1 b hb,(hf b hb).2⟩
  refine ⟨.ref s.heap.objs.size,_,I2,rfl,⟨_,x,fun xs' h=>by rw[I.list_inj h hq1];exact hx,hT,rfl,rfl⟩,?_,f1⟩
  exact ⟨⟨_,c1⟩,b2.extBut c2.extBut (Ne.symm nei)⟩
 done:=by
  intro X hP hw hK hc i pins s Z H E I hf st hg
  subst hP hw hK
  obtain ⟨xs,hq1,hend⟩:=hg
  obtain ⟨its1,rv1,p1,hz1⟩:=I.list hq1
  have hl1:=rv1.length
  obtain ⟨⟨old,a1⟩,a4⟩:=st
  refine wpAny_pyNext_enum_end (I.ok.hd hc) a1 a4 p1.isList (by simp;lia) fun h' hk=>⟨rfl,I.turnedL (t':=s.toks) (fp:=[e,it]) (fun b o hb q=>?_) hf⟩
  simp only[aG,bv,ci,cF] at hb
  exact hk b o hb.2 q
 self:=fun j j j j j st h=>og st.1.choose_spec h
def qE (K:W.Frag) (ta:TA):TI:=fun Z H R=>ta Z H fun vs H1=>∃ l1,vs=[.ref l1]/\(∃ xs,SqL K H1 l1 xs)/\R (Ite K l1) H1
theorem ZoQ {X:Cx} {a:Expr} {ta:TA} {p pos pos':Pos} {elts:List Expr} {x1} (hg:Gl X "enumerate") (hm:X.mg "enumerate"=none) (ha:PA X [a] ta) (hs:starEach [a] X.env=[(false,eval a X.env)]:=by rfl) :
  PI X (.Tuple elts x1 pos') (.Call (.Name "enumerate" p) [a] [] pos) (qE X.K ta):=by
 intro pins s Z H R I h
 refine Call_ (eV I hg hm rF (gu (thn (ha pos pins s Z H _ I h) fun us s1 ⟨vs,H1,I1,r1,q1⟩=>?_) (by rw[hs];rfl) (by rfl)))
 obtain ⟨l1,e,⟨xs,q1⟩,q⟩:=q1
 subst e
 cases r1 with
 | cons r rr =>
  cases rr
  cases r
  obtain ⟨its1,rv1,p1,hz1⟩:=I1.list q1
  refine call_enumerate_list p1.isList fun h' a1 a4 a6 a7=>?_
  have I2:Inv X pins Z H1 { s1 with heap:=h' }:=I1.kept (t':=s1.toks) a7
  refine og (s:={ s1 with heap:=h' }) a1 ?_
  refine ⟨s1.heap.objs.size+1,[s1.heap.objs.size+1,s1.heap.objs.size],_,_,H1,rfl,I2,Zko (l:=l1) (Nat.succ_ne_self _),⟨⟨_,a1⟩,a4⟩,fun b hb=>?_,q⟩
  have hb':s1.heap.objs.size<=b:=by
   simp only[aG,bv,ci] at hb
   rcases hb with rfl|rfl
   .exact cj _ _
   .exact aq _
  exact I1.fpOk hb' (I1.hok.fresh hb')
theorem Zln {X:Cx} {K:W.Frag} {a:Expr} {ta:TA} {p pos pos':Pos} {elts:List Expr} {x1} (h:X.K=K) (hg:Gl X "enumerate") (hm:X.mg "enumerate"=none) (ha:PA X [a] ta) (hs:starEach [a] X.env=[(false,eval a X.env)]:=by rfl) :
  PI X (.Tuple elts x1 pos') (.Call (.Name "enumerate" p) [a] [] pos) (qE K ta):=h▸ZoQ hg hm ha hs
section
variable {prog:Program} {w:World} {K:Type} [DecidableEq K] {knd:HeapKind prog w K}
theorem ZhX {A:Around} {E:Value->Shared->Prop} {s:Shared} {d a:Addr} {k:K} {xs:List (K×Addr×Value)} {dflt:Value} {Q:Value->Shared->Prop} (room:knd.room A) (is:knd.is s.heap k a) (dd:Heap.DictOfH knd s.heap d xs) (hz:xs.length<=sizeLine)
  (h1:∀ p,atKey xs k=some p->Q p.2 { s with toks:=s.toks+knd.draws k })
  (h2:atKey xs k=none->∀ h',Heap.DictOfH knd h' d (xs++[(k,a,dflt)])->Heap.SameBut d s.heap h'->Q dflt { s with heap:=h',toks:=s.toks+knd.draws k }) :
  wpAny (model prog w) A (dictSetDefault d (.ref a) dflt) Q E s:=by
 obtain ⟨o,es,ep,ho,hx,hd,hes,hk,hn⟩:=dd
 unfold dictSetDefault
 refine cY (ab (knd.pyHash room is ?_))
 refine ab (wpAny_dictFind_heap (s:={ s with toks:=s.toks+knd.draws k }) room is ho hd hes hk hn (fun hno=>?_) (fun j p hj=>?_))
 .have hsz:es.size=xs.length:=size_of_entries hes
  refine ab (eF (ab (wpAny_updateDictKeys (s:={ s with toks:=s.toks+knd.draws k }) ho hd (am ?_) (by rw[hsz];exact hz) (by simp))))
  refine h2 (atKey_none_of_get hno) _ ⟨_,_,_,gX _ ho (Obj.isFreed_of_dict (Obj.data_mapDictKeys hd _)),Obj.ExactDict.mapDictKeys hx _,Obj.data_mapDictKeys hd _,?_,?_,?_⟩ (Heap.SameBut.update ..)
  .rw[Array.toList_push,hes,aO]
   rfl
  .intro x hx'
   rcases aT.mp hx' with hx'|hx'
   .exact knd.keeps (hk x hx') ho hd (Heap.SameBut.update ..)
   .rw[aN.mp hx']
    exact knd.keeps is ho hd (Heap.SameBut.update ..)
  .rw[aO]
   refine iK.mpr ⟨hn,by simp,fun x hx' y hy=>?_⟩
   rw[aN.mp hy]
   intro e
   have e':x=k:=e
   exact not_mem_keys_of_get hno (e'▸hx')
 .refine ab (wpAny_dictEntries (s:={ s with toks:=s.toks+knd.draws k }) ho hd ?_)
  have he:=entry_at hes j
  rw[hj] at he
  simp only[he,ff]
  refine ab (eF (am ?_))
  exact h1 p (atKey_of_get hn hj)
theorem Zgy (knd:HeapKind prog w K) (d a:Addr) (hd:(d == sysModules)=false) (dflt:Value) :
  MeetsIn prog w (Builtin.«dict.setdefault» { pos:=[.ref d,.ref a,dflt] }) fun A R s =>
   knd.room A.in1/\∃ k xs,knd.is s.heap k a/\Heap.DictOfH knd s.heap d xs/\xs.length<=sizeLine /\
    (∀ p,atKey xs k=some p->R (.ok (.ret p.2)) { s with toks:=s.toks+knd.draws k }) /\
    (atKey xs k=none->∀ h',Heap.DictOfH knd h' d (xs++[(k,a,dflt)])->Heap.SameBut d s.heap h'->R (.ok (.ret dflt)) { s with heap:=h',toks:=s.toks+knd.draws k }):=by
 rintro A R s ⟨room,k,xs,is,dd,hz,h1,h2⟩
 have key:wpAny (model prog w) A.in1 (dictSetDefault d (.ref a) dflt >>= fun v=>ret v) (fun fin s' =>
     match fin with
     | Fin.done f=>R (Except.ok f) s'
     | Fin.again c'=>c'.quiet=true/\codeAny (model prog w) A c' R s') (fun e s'=>R (Except.error e) s') s :=
  ab (ZhX room is dd hz (fun p hp=>am (h1 p hp)) (fun hn h' a b=>am (h2 hn h' a b)))
 unfold Builtin.«dict.setdefault»
 refine ab (ab (wpAny_notOrdered_dict dd.typeIs ?_))
 refine wpAny_of_eq (a:=(d,Value.ref a,some dflt)) rfl ?_
 show wpAny _ _ (if (d == sysModules)=true then _ else _) _ _ _
 rw[hd]
 exact key
end
end L2
end
section
namespace L2
open PySem
inductive Rw where
 | put (p n:Int)|copy (p q:Int)|plus (p q r:Int)|less (p q r:Int)|times (p q n:Int)|take (p:Int)|tell (p:Int)|jump (t:Int)|zero (p t:Int)|below (p t:Int)|call (p f:Int) (qs:List Int)|back (p:Int)
def Rw.row:Rw->Str×List D
 | .put p n=>("put",[.int p,.int n])
 | .copy p q=>("copy",[.int p,.int q])
 | .plus p q r=>("plus",[.int p,.int q,.int r])
 | .less p q r=>("less",[.int p,.int q,.int r])
 | .times p q n=>("times",[.int p,.int q,.int n])
 | .take p=>("take",[.int p])
 | .tell p=>("tell",[.int p])
 | .jump t=>("jump",[.int t])
 | .zero p t=>("zero",[.int p,.int t])
 | .below p t=>("below",[.int p,.int t])
 | .call p f qs=>("call",[.int p,.int f,.tup (qs.map D.int)])
 | .back p=>("back",[.int p])
structure Df where
 takes:Int
 boxes:Int
 rows:List Rw
def In0 (n m:Int):Prop:=0<=n/\n < m
def Rw.Ok (P:List Df) (nb many:Int):Rw->Prop
 | .put p n=>In0 p nb/\n.natAbs<=10 ^ 60
 | .copy p q=>In0 p nb/\In0 q nb
 | .plus p q r=>In0 p nb/\In0 q nb/\In0 r nb
 | .less p q r=>In0 p nb/\In0 q nb/\In0 r nb
 | .times p q n=>In0 p nb/\In0 q nb/\n.natAbs<=99
 | .take p=>In0 p nb
 | .tell p=>In0 p nb
 | .jump t=>In0 t many
 | .zero p t=>In0 p nb/\In0 t many
 | .below p t=>In0 p nb/\In0 t many
 | .call p f qs=>In0 p nb/\(∃ d,0<=f/\P[f.toNat]?=some d/\(qs.length:Int)=d.takes)/\∀ q∈qs,In0 q nb
 | .back p=>In0 p nb
def Rw.last:Rw->Prop
 | .jump _=>True
 | .back _=>True
 | _=>False
structure DfOk (P:List Df) (d:Df):Prop where
 b:1<=d.boxes/\d.boxes<=1000
 t:0<=d.takes/\d.takes<=d.boxes
 n:d.rows.length<=1000
 rows:∀ r∈d.rows,r.Ok P d.boxes d.rows.length
 last:∃ r,d.rows[d.rows.length - 1]?=some r/\r.last
def PgOk (P:List Df):Prop:=P≠[]/\P.length<=1000/\∀ d∈P,DfOk P d
inductive En where
 | back (n:Int)|dry (f at':Int)|deep (f at':Int)
abbrev Fr:=Int×Int×List Int
structure HS where
 frames:List Fr
 left:List Int
 news:List Int
 gone:Int
 fin:Option En
def cx (P:List Df) (f at':Int):Option Rw:=(P[f.toNat]?).bind fun d=>d.rows[at'.toNat]?
end L2
end
section
namespace L2
open PySem
abbrev FZ:=(Addr×Addr)×Fr
end L2
end
section
namespace L2
open PySem
section
variable {kp own:List Addr} {H0 H H':Hp}
theorem apart {own own' oth:List Addr} (new:∀ x∈own',x∈own\/H x=none) (d:∀ x∈oth,x∉own) (al:∀ x∈oth,H x≠none):∀ x∈oth,x∉own':=fun x hx m=>by
 rcases new x m with h|h
 .exact d x hx h
 .exact al x hx h
end
end L2
end
section
namespace L2
open PySem PySem.Spec PyProof.Rows
def Seqs (H:Hp) (x y:V) (xs ys:List V):Prop:=∃ a b,x=.ref a/\y=.ref b/\((H a=some (.tup xs)/\H b=some (.tup ys))\/(H a=some (.lst xs)/\H b=some (.lst ys)))
def simV:V->Prop
 | .byt _=>False
 | .flt _=>False
 | .ty _=>False
 | _=>True
def Alike (H:Hp):Nat->V->V->Prop
 | 0,x,y=>x=y/\simV x
 | n+1,x,y=>(x=y/\simV x)\/∃ xs ys,Seqs H x y xs ys/\xs.length=ys.length/\∀ (j:Nat) (u v:V),xs[j]?=some u->ys[j]?=some v->Alike H n u v
theorem Alike.up {H : Hp} : ∀ {n : Nat} {x y : V}, Alike H n x y -> Alike H (n + 1) x y
  | 0, x, y, h => .inl h
  | n + 1, x, y, h => by
    rcases h with h|⟨xs,ys,s,l,k⟩
    . exact .inl h
    . exact .inr ⟨xs, ys, s, l, fun j u v e1 e2 => (k j u v e1 e2).up⟩
theorem Alike.le {H:Hp} {n m:Nat} {x y:V} (h:Alike H n x y) (l:n<=m):Alike H m x y:=by
  induction m with
  | zero => obtain rfl : n = 0 := by lia
            exact h
  | succ m ih =>
    by_cases e:n=m+1
    . subst e; exact h
    . exact (ih (by lia)).up
theorem Alike.refl {H:Hp} (n:Nat) {x:V} (f:simV x):Alike H n x x:=Alike.le (n:=0) ⟨rfl,f⟩ (bg _)
section
variable {X:Cx} {pins:List (Addr×Obj)} {Z:St} {H:Hp} {s:Shared}
theorem gn {xs:List V} {its:List Value} (vx:Vals xs its) {j:Nat} (h:j < its.toArray.size):∃ x,xs[j]?=some x/\RelV x its.toArray[j]:=by
 have l1:=vx.length
 have h':j < its.length:=by simpa using h
 have e1:xs[j]?=some (xs[j]'(by lia)):=ax _
 obtain ⟨u1,z1,w1⟩:=vx.get e1
 have y1:its.toArray[j]=u1:=by
  have:its[j]?=some its[j]:=ax h'
  rw[z1] at this
  simpa using (Option.some.inj this).symm
 exact ⟨_,e1,by rw[y1];exact w1⟩
theorem vK (I:Inv X pins Z H s) {A:Around} {a b:Addr} {xs ys:List V} (h:(H a=some (.tup xs)/\H b=some (.tup ys))\/(H a=some (.lst xs)/\H b=some (.lst ys))) (hl:xs.length=ys.length) (hu:A.units < cLine)
  (k:∀ (j:Nat) (u v:V) (u' v':Value),xs[j]?=some u->ys[j]?=some v->RelV u u'->RelV v v'->SeqAt.EqAt A.in1 s u' v' true):SeqAt.RcAt A s (.ref a) (.ref b) true:=by
 rcases h with ⟨ha,hb⟩|⟨ha,hb⟩
 .obtain ⟨its,vx,ht⟩:=I.isTup ha
  obtain ⟨its',vy,ht'⟩:=I.isTup hb
  have l1:=vx.length
  have l2:=vy.length
  have key:=SeqAt.RcAt.tuples (A:=A) (e:=fun z=>true) ht ht' hu fun j j1 j2=>by
   obtain ⟨x,e1,r1⟩:=gn vx j1
   obtain ⟨y,e2,r2⟩:=gn vy j2
   exact k j x y _ _ e1 e2 r1 r2
  have e:((List.range (min its.toArray.size its'.toArray.size)).all (fun z=>true) && its.toArray.size == its'.toArray.size)=true:=by
   simp;lia
  rw[e] at key
  exact key
 .obtain ⟨its,vx,ht,z⟩:=I.list (SqL.of ha)
  obtain ⟨its',vy,ht',z⟩:=I.list (SqL.of hb)
  have l1:=vx.length
  have l2:=vy.length
  have key:=SeqAt.RcAt.lists (A:=A) (e:=fun z=>true) ht.isList ht'.isList (by simp;lia) hu fun j j1 j2=>by
   obtain ⟨x,e1,r1⟩:=gn vx j1
   obtain ⟨y,e2,r2⟩:=gn vy j2
   exact k j x y _ _ e1 e2 r1 r2
  have e:(List.range its.toArray.size).all (fun z=>true)=true:=by simp
  rw[e] at key
  exact key
theorem sk (I:Inv X pins Z H s):∀ (n:Nat) {x y:V} {u v:Value} {A:Around},Alike H n x y->RelV x u->RelV y v->A.units+n < cLine->SeqAt.EqAt A s u v true:=by
 have flat:∀ {x:V} {u v:Value} {A:Around},simV x->RelV x u->RelV x v->SeqAt.EqAt A s u v true:=by
  intro x u v A f ru rv
  cases x with
  | non=>cases ru;cases rv;exact SeqAt.EqAt.same _
  | bl b=>cases ru;cases rv;exact SeqAt.EqAt.same _
  | int i =>
   obtain ⟨t,rfl⟩:=ru;obtain ⟨t',rfl⟩:=rv
   have:=qU (A:=A) (s:=s) i t i t'
   simpa using this
  | str i =>
   obtain ⟨t,rfl⟩:=ru;obtain ⟨t',rfl⟩:=rv
   have:=qV (A:=A) (s:=s) i t i t'
   simpa using this
  | ref a=>cases ru;cases rv;exact SeqAt.EqAt.same _
  | _=>cases f
 intro n
 induction n with
 | zero =>
  rintro x y u v A ⟨rfl,f⟩ ru rv hu
  exact flat f ru rv
 | succ n ih =>
  rintro x y u v A h ru rv hu
  rcases h with ⟨rfl,f⟩|⟨xs,ys,⟨a,b,rfl,rfl,h⟩,hl,k⟩
  .exact flat f ru rv
  .cases ru;cases rv
   by_cases hab:a=b
   .subst hab;exact SeqAt.EqAt.same _
   .exact vU hab (vK I h hl (by lia) fun j u v u' v' e1 e2 r1 r2=>ih (k j u v e1 e2) r1 r2 (by show A.units+1+n < cLine;lia))
def rEqA:R2:=fun x y H Q=>∃ xs ys,Seqs H x y xs ys/\xs.length=ys.length/\(∀ (j:Nat) (u v:V),xs[j]?=some u->ys[j]?=some v->Alike H 40 u v)/\Q (.bl true) H
def rNeA:R2:=fun x y H Q=>∃ xs ys,Seqs H x y xs ys/\xs.length=ys.length/\(∀ (j:Nat) (u v:V),xs[j]?=some u->ys[j]?=some v->Alike H 40 u v)/\Q (.bl false) H
theorem op_eqA (hu:X.A.units+64 < cLine):OpR X (compareOp .Eq) rEqA:=by
 rintro pins s Z H x y v u Q I rx ry ⟨xs,ys,⟨a,b,rfl,rfl,h⟩,hl,k,q⟩
 cases rx;cases ry
 have key:=vK (A:=X.A) I h hl (by lia) fun j u v u' v' e1 e2 r1 r2=>sk I 40 (k j u v e1 e2) r1 r2 (by show X.A.units+1+40 < cLine;lia)
 exact key _ _ _ _ (aV I q rfl)
theorem tU (hu:X.A.units+64 < cLine):OpR X (compareOp .NotEq) rNeA:=by
 rintro pins s Z H x y v u Q I rx ry ⟨xs,ys,⟨a,b,rfl,rfl,h⟩,hl,k,q⟩
 cases rx;cases ry
 have kk:∀ (j:Nat) (u v:V) (u' v':Value),xs[j]?=some u->ys[j]?=some v->RelV u u'->RelV v v'->SeqAt.EqAt X.A.in1 s u' v' true:=fun j u v u' v' e1 e2 r1 r2=>sk I 40 (k j u v e1 e2) r1 r2 (by show X.A.units+1+40 < cLine;lia)
 rcases h with ⟨ha,hb⟩|⟨ha,hb⟩
 .obtain ⟨its,vx,ht⟩:=I.isTup ha
  obtain ⟨its',vy,ht'⟩:=I.isTup hb
  have l1:=vx.length
  have l2:=vy.length
  refine SeqAt.RcNeAt.tuples (e:=fun z=>true) ht ht' (by lia) (fun j j1 j2=>?_) _ _ _ _ (aV I q ?_)
  .obtain ⟨x,e1,r1⟩:=gn vx j1
   obtain ⟨y,e2,r2⟩:=gn vy j2
   exact kk j x y _ _ e1 e2 r1 r2
  .simp;lia
 .obtain ⟨its,vx,ht,z⟩:=I.list (SqL.of ha)
  obtain ⟨its',vy,ht',z⟩:=I.list (SqL.of hb)
  have l1:=vx.length
  have l2:=vy.length
  refine SeqAt.RcNeAt.lists (e:=fun z=>true) ht.isList ht'.isList (by simp;lia) (by lia) (fun j j1 j2=>?_) _ _ _ _ (aV I q ?_)
  .obtain ⟨x,e1,r1⟩:=gn vx j1
   obtain ⟨y,e2,r2⟩:=gn vy j2
   exact kk j x y _ _ e1 e2 r1 r2
  .simp
end
section
variable {H:Hp}
def t9 (H:Hp) (n:Nat) (x y:V):Prop:=∃ xs ys,Seqs H x y xs ys/\xs.length=ys.length/\∀ (j:Nat) (u v:V),xs[j]?=some u->ys[j]?=some v->Alike H n u v
theorem rd_neA {x y:V} {Q:VK} (h:t9 H 40 x y) (q:Q (.bl false) H):rNeA x y H Q:=by
 obtain ⟨xs,ys,s,l,k⟩:=h
 exact ⟨xs,ys,s,l,k,q⟩
end
end L2
end
section
namespace L2
open PySem
theorem ZmA {K:W.Frag} {H:Hp} {p:Addr} {ys:List V} {Q:VK} (h:SqT K H p ys) (q:Q (.int ys.length) H):rLen K [.ref p] H Q:=⟨_,_,rfl,.inr ⟨ys,h,rfl⟩,q⟩
end L2
end
section
namespace HT
open PySem PySem.Spec PyProof.Rows L2
section
variable {prog:Program} {w:World} {A:Around} {E:Value->Shared->Prop} {s:Shared}
theorem cat_tup0 {t b:Addr} {vs ws:List Value} {Q:Value->Shared->Prop} (ht:IsTup s.heap t vs.toArray) (hb:IsTup s.heap b ws.toArray) (hv:vs=[]) (h1:Q (.ref b) s):wpAny (model prog w) A (binaryOp .Add (.ref t) (.ref b)) Q E s:=by
 obtain ⟨⟨cls,dd,data,sl⟩,ho,hc,n,hd⟩:=id ht
 obtain ⟨⟨cls2,dd2,data2,sl2⟩,ho2,hc2,n2,hd2⟩:=id hb
 simp only at hc hd hc2 hd2
 subst hc hd hc2 hd2
 exact concat_meets ⟨_,ho,rfl⟩ ⟨_,ho2,rfl⟩ qT seq_tuple_add PySem.F.slot_tuple_add PySem.F.entry_tuple_add (PySem.F.args_tuple_add_2 _ _) (tuple_addW0 t b vs.toArray ws.toArray n n2 dd dd2 sl sl2 (by simp[hv])) ⟨ho,ho2,h1⟩
theorem getItem_tuple_all {t sl:Addr} {items:Array Value} {vl vu:Value} {lo hi:Option Int} {Q:Value->Shared->Prop} (ht:IsTup s.heap t items) (hs:s.heap.IsSliceOf sl vl vu .none) (pl:IsPart vl lo) (pu:IsPart vu hi)
  (hw:sIx items.size 0 lo=0/\sIx items.size items.size hi=items.size) (h:Q (.ref t) s):wpAny (model prog w) A (getItem (.ref t) (.ref sl)) Q E s:=by
 obtain ⟨os,hos,hcs,hds⟩:=id hs
 have hTs:s.TypeIs (.ref sl) "slice":=⟨os,hos,hcs⟩
 unfold getItem
 try with_reducible refine cY ?_
 first|refine ab (am ?_)|skip
 refine ab (wpAny_sequenceKey ht.typeIs (by decide) ?_)
 refine ab (fb (name:=Str.ofString "__getitem__") ht.typeIs iB
  (dD iB ht.typeIs entry_tuple_getitem ?_ (args_tuple_getitem _ _)))
 show wpAny _ _ (Builtin.Tuple.tupleItemsOf (.ref t) >>= _) _ _ s
 refine ab (tupleItemsOf_ ht ?_)
 refine ab (iC hTs ?_)
 rw[ag (by decide)]
 refine ab (sM hs pl pu ?_)
 have hyes:((((sIx items.size 0 lo:Nat):Int) == 0 && (1:Int) == 1 && (sIx items.size items.size hi - sIx items.size 0 lo) == items.size)=true):=by
  rw[hw.1,hw.2];simp
 show wpAny _ _ (if (((sIx items.size 0 lo:Nat):Int) == 0 && (1:Int) == 1 && (sIx items.size items.size hi - sIx items.size 0 lo) == items.size)=true then _ else _) _ _ s
 rw[ag hyes]
 refine ab ?_
 refine ab ?_
 refine iC ht.typeIs (am ?_)
 rw[ag (by decide)]
 exact ab (eF (am ⟨_,rfl,am h⟩))
end
end HT
namespace L2
open PySem PySem.Spec PyProof.Rows
section
variable {X:Cx} {K:W.Frag}
def rSlW (K:W.Frag):V->Option Int->Option Int->Hp->VK->Prop:=fun x lo hi H Q=>∃ a xs,x=.ref a/\SqT K H a xs/\(cutV xs lo hi=xs->Q (.ref a) H)/\∀ p,H p=none->Q (.ref p) (upd H p (.tup (cutV xs lo hi)))
theorem Zov:SlR X (rSlW X.K):=by
 intro pins s Z H x v vl vu lo hi sl Q I rx hs pl pu h
 obtain ⟨a,xs,rfl,hx,q1,q⟩:=h
 by_cases hw:HT.sIx xs.length 0 lo=0/\HT.sIx xs.length xs.length hi=xs.length
 .cases rx
  obtain ⟨its,r,ht,hz⟩:=I.tuple hx
  have hlen:its.toArray.size=xs.length:=by rw[bj];exact r.length.symm
  refine ⟨"tuple",_,iB.lookup,ht.typeIs,?_⟩
  refine HT.getItem_tuple_all ht hs pl pu (by rw[hlen];exact hw) ?_
  refine ⟨.ref a,H,I,rfl,q1 ?_⟩
  unfold cutV
  rw[hw.1,hw.2]
  simp
 .exact sl_tup pins s Z H _ v vl vu lo hi sl Q I rx hs pl pu ⟨a,xs,rfl,hx,hw,q⟩
theorem lQ (h:X.K=K):SlR X (rSlW K):=h▸Zov
def lU (K:W.Frag):R2:=fun x y H Q=>∃ a b xs ys,x=.ref a/\y=.ref b/\SqT K H a xs/\SqT K H b ys/\xs.length+ys.length<=sizeLine /\
 (xs=[]->Q (.ref b) H)/\(ys=[]->Q (.ref a) H)/\∀ p,H p=none->Q (.ref p) (upd H p (.tup (xs++ys)))
theorem Zo1:OpR X (binaryOp .Add) (lU X.K):=by
 intro pins s Z H x y v u Q I rx ry h
 obtain ⟨a,b,xs,ys,rfl,rfl,ha,hb,hz,q0,q1,q2⟩:=h
 by_cases hx:xs=[]
 .cases rx
  cases ry
  obtain ⟨its,r1,p1,j⟩:=I.tuple ha
  obtain ⟨its2,r2,p2,j⟩:=I.tuple hb
  exact HT.cat_tup0 p1 p2 (r1.nil_iff.mpr hx) ⟨.ref b,H,I,rfl,q0 hx⟩
 .exact Zo2 pins s Z H _ _ v u Q I rx ry ⟨a,b,xs,ys,rfl,rfl,ha,hb,hx,hz,q1,fun j=>q2⟩
theorem qA (h:X.K=K):OpR X (binaryOp .Add) (lU K):=h▸Zo1
end
theorem rd_slW {K:W.Frag} {H:Hp} {a:Addr} {xs:List V} {lo hi:Option Int} {Q:VK} (h:H a=some (.tup xs)) (q:∀ p H',H' p=some (.tup (cutV xs lo hi))->Same H H'->Q (.ref p) H'):rSlW K (.ref a) lo hi H Q :=
 ⟨a,xs,rfl,SqT.of h,fun e=>q a H (by rw[e];exact h) (Same.refl _),fun p hp=>q p _ bh (Same.new hp)⟩
theorem ZoJ {K:W.Frag} {H:Hp} {a b:Addr} {xs ys:List V} {Q:VK} (h1:H a=some (.tup xs)) (h2:H b=some (.tup ys)) (hz:xs.length+ys.length<=1000000) (q:∀ p H',H' p=some (.tup (xs++ys))->Same H H'->Q (.ref p) H'):lU K (.ref a) (.ref b) H Q :=
 ⟨a,b,xs,ys,rfl,rfl,SqT.of h1,SqT.of h2,gF hz,fun e=>q b H (by rw[e];exact h2) (Same.refl _),fun e=>q a H (by rw[e,bH];exact h1) (Same.refl _),fun p hp=>q p _ bh (Same.new hp)⟩
section
variable {X:Cx} {pos:Pos} {es:List Expr} {te:TE} {t:TA}
theorem rN {l:List Expr} (ha:PE X (.List l pos) te) (hr:PA X es t):PA X (.List l pos::es) (bd te t):=dP ha hr rfl
theorem be {l:List Expr} {k:Nat} (ha:PE X (.Tuple l k pos) te) (hr:PA X es t):PA X (.Tuple l k pos::es) (bd te t):=dP ha hr rfl
theorem bZ {a b:Expr} {op:Operator} (ha:PE X (.BinOp a op b pos) te) (hr:PA X es t):PA X (.BinOp a op b pos::es) (bd te t):=dP ha hr rfl
theorem aS {f:Expr} {as:List Expr} {ks} (ha:PE X (.Call f as ks pos) te) (hr:PA X es t):PA X (.Call f as ks pos::es) (bd te t):=dP ha hr rfl
theorem cU {e:Expr} {gs} {sc} (ha:PE X (.ListComp e gs sc pos) te) (hr:PA X es t):PA X (.ListComp e gs sc pos::es) (bd te t):=dP ha hr rfl
theorem aI {a b:Expr} (ha:PE X (.Subscript a b pos) te) (hr:PA X es t):PA X (.Subscript a b pos::es) (bd te t):=dP ha hr rfl
theorem il {x:Str} (ha:PE X (.Name x pos) te) (hr:PA X es t):PA X (.Name x pos::es) (bd te t):=dP ha hr rfl
theorem ao {c:Const} {k:Nat} (ha:PE X (.Constant c k pos) te) (hr:PA X es t):PA X (.Constant c k pos::es) (bd te t):=dP ha hr rfl
theorem ZmS {a:Expr} {op:UnaryOp} (ha:PE X (.UnaryOp op a pos) te) (hr:PA X es t):PA X (.UnaryOp op a pos::es) (bd te t):=dP ha hr rfl
theorem ig {a:Expr} {x:Str} (ha:PE X (.Attribute a x pos) te) (hr:PA X es t):PA X (.Attribute a x pos::es) (bd te t):=dP ha hr rfl
theorem i9 {a b c:Expr} (ha:PE X (.IfExp a b c pos) te) (hr:PA X es t):PA X (.IfExp a b c pos::es) (bd te t):=dP ha hr rfl
theorem ZmT {a:Expr} {os:List CmpOp} {cs:List Expr} (ha:PE X (.Compare a os cs pos) te) (hr:PA X es t):PA X (.Compare a os cs pos::es) (bd te t):=dP ha hr rfl
theorem f6 {l:List Expr} {p:Pos} {i:Nat} {x:Str} {pos':Pos} (hN:X.N.Nodup) (hi:X.N[i]?=some x) (hx:Loc X.env.scope x) (he:PE X (.List l p) te) (hf:X.fn x=true\/X.env.scope.names.lookup x=some .local:=by first|exact .inl rfl|exact .inr rfl|assumption):PS X (.Assign [.Name x pos'] (.List l p) pos) (tAsg te (dg i)):=bJ hN hi hx he rfl hf
theorem qh {l:List Expr} {k:Nat} {p:Pos} {i:Nat} {x:Str} {pos':Pos} (hN:X.N.Nodup) (hi:X.N[i]?=some x) (hx:Loc X.env.scope x) (he:PE X (.Tuple l k p) te) (hf:X.fn x=true\/X.env.scope.names.lookup x=some .local:=by first|exact .inl rfl|exact .inr rfl|assumption):PS X (.Assign [.Name x pos'] (.Tuple l k p) pos) (tAsg te (dg i)):=bJ hN hi hx he rfl hf
theorem d9 {a b:Expr} {op:Operator} {p:Pos} {i:Nat} {x:Str} {pos':Pos} (hN:X.N.Nodup) (hi:X.N[i]?=some x) (hx:Loc X.env.scope x) (he:PE X (.BinOp a op b p) te) (hf:X.fn x=true\/X.env.scope.names.lookup x=some .local:=by first|exact .inl rfl|exact .inr rfl|assumption):PS X (.Assign [.Name x pos'] (.BinOp a op b p) pos) (tAsg te (dg i)):=bJ hN hi hx he rfl hf
theorem bi {f:Expr} {as:List Expr} {ks} {p:Pos} {i:Nat} {x:Str} {pos':Pos} (hN:X.N.Nodup) (hi:X.N[i]?=some x) (hx:Loc X.env.scope x) (he:PE X (.Call f as ks p) te) (hf:X.fn x=true\/X.env.scope.names.lookup x=some .local:=by first|exact .inl rfl|exact .inr rfl|assumption):PS X (.Assign [.Name x pos'] (.Call f as ks p) pos) (tAsg te (dg i)):=bJ hN hi hx he rfl hf
theorem cf {a b:Expr} {p:Pos} {i:Nat} {x:Str} {pos':Pos} (hN:X.N.Nodup) (hi:X.N[i]?=some x) (hx:Loc X.env.scope x) (he:PE X (.Subscript a b p) te) (hf:X.fn x=true\/X.env.scope.names.lookup x=some .local:=by first|exact .inl rfl|exact .inr rfl|assumption):PS X (.Assign [.Name x pos'] (.Subscript a b p) pos) (tAsg te (dg i)):=bJ hN hi hx he rfl hf
end
end L2
end
section
namespace L3
open PySem Builtin Builtin.Str
theorem tupIter_at {h h':Heap} {a l:Addr} {i:Nat} (x:h.IsTupleIter a l i) (e:∀ o,h.get? a=some o->h'.get? a=some o):h'.IsTupleIter a l i:=let ⟨o,ho,r⟩:=x;⟨o,e _ ho,r⟩
section
variable {prog:Program} {w:World} {A:Around} {E:Value->Shared->Prop} {s:Shared}
theorem nextT {it t:Addr} {i:Nat} {items:Array Value} {x:Value} {Q:Value->Shared->Prop} (hit:s.heap.IsTupleIter it t i) (ht:s.heap.IsTuple t items) (hx:items[i]?=some x)
  (hQ:∀ h',h'.IsTupleIter it t (i+1)->Heap.SameBut it s.heap h'->Q x { s with heap:=h' }):wpAny (model prog w) A (Builtin.SmallTypes.nextOf (.ref it)) Q E s:=by
 obtain ⟨o,ho,hc,hd⟩:=id hit
 obtain ⟨ol,hol,j,nl,hdl⟩:=ht
 unfold Builtin.SmallTypes.nextOf
 refine ab (fb (name:=Str.ofString "__next__") hit.typeIs F.slot_tuple_iterator_next (dD F.slot_tuple_iterator_next hit.typeIs F.entry_tuple_iterator_next ?_ (F.args_tuple_iterator_next_1 _)))
 show wpAny _ _ (field (.ref it) 0 >>= _) _ _ s
 refine ab (bF ho hd (x:=.ref t) rfl ?_)
 show wpAny _ _ (if (Value.ref t == Value.none)=true then _ else _) _ _ s
 rw[ah (show ¬ ((Value.ref t == Value.none)=true) from bo)]
 show wpAny _ _ (field (.ref it) 1 >>= _) _ _ s
 refine ab (bF ho hd (x:=.int i 0) rfl ?_)
 show wpAny _ _ (seqItems? (.ref t) >>= _) _ _ s
 refine ab (dw hol hdl ?_)
 simp only[dF,hx]
 refine ab (wpAny_setField ho hd (by simp) (am ⟨x,rfl,am (hQ _ ?_ (Heap.SameBut.update ..))⟩))
 exact ⟨_,gX _ ho (Obj.isFreed_of_fields (Obj.data_mapFields hd _)),(Obj.cls_mapFields ..).trans hc,by rw[Obj.data_mapFields hd];simp[rawInt]⟩
theorem kO {it t:Addr} {i:Nat} {items:Array Value} {Q:Value->Shared->Prop} (hh:A.handled=none) (hit:s.heap.IsTupleIter it t i) (ht:s.heap.IsTuple t items) (hx:items[i]?=none)
  (hE:∀ h' e,Heap.ExtBut it s.heap h'->(∃ o,h'.get? e=some o/\o.cls=.type "StopIteration")->E (.ref e) { s with heap:=h' }):wpAny (model prog w) A (Builtin.SmallTypes.nextOf (.ref it)) Q E s:=by
 obtain ⟨o,ho,hc,hd⟩:=id hit
 obtain ⟨ol,hol,j,nl,hdl⟩:=ht
 unfold Builtin.SmallTypes.nextOf
 refine ab (fb (name:=Str.ofString "__next__") hit.typeIs F.slot_tuple_iterator_next (dD F.slot_tuple_iterator_next hit.typeIs F.entry_tuple_iterator_next ?_ (F.args_tuple_iterator_next_1 _)))
 show wpAny _ _ (field (.ref it) 0 >>= _) _ _ s
 refine ab (bF ho hd (x:=.ref t) rfl ?_)
 show wpAny _ _ (if (Value.ref t == Value.none)=true then _ else _) _ _ s
 rw[ah (show ¬ ((Value.ref t == Value.none)=true) from bo)]
 show wpAny _ _ (field (.ref it) 1 >>= _) _ _ s
 refine ab (bF ho hd (x:=.int i 0) rfl ?_)
 show wpAny _ _ (seqItems? (.ref t) >>= _) _ _ s
 refine ab (dw hol hdl ?_)
 simp only[dF,hx]
 refine ab (eF (ab (wpAny_setField ho hd (by simp) ?_)))
 show wpAny _ _ (newExc (.type "StopIteration") [] >>= _) _ _ _
 refine ab ?_
 simp only[newExc,newTuple]
 refine ab (gW ?_ (by size_fits))
 refine ab (m:=firstArgMember _ _) (wpAny_of_eq (a:=Value.none) (by first|rfl|(simp only[firstArgMember];rfl)) ?_)
 refine gW ?_ (by size_fits)
 simp only[raiseNew]
 refine ab (wpAny_handled ?_)
 first|rw[show A.in1.handled=none from hh]|rw[hh]
 refine ab (am (wpAny_throw ?_))
 exact hE _ _ (((Heap.SameBut.update ..).extBut.push _).push _) ⟨_,bp _ rfl,rfl⟩
theorem Zj9 {z TI TO i1 i2 l1 l2:Addr} {k1 k2:Nat} {xs ys:Array Value} {x y a b:Value} {Q:Value->Shared->Prop} (D:ZipApart z TI TO i1 i2 l1 l2)
  (hz:IsZip s.heap z TI TO .none) (hTI:IsPair s.heap TI (.ref i1) (.ref i2)) (hTO:IsPair s.heap TO a b)
  (h1:s.heap.IsTupleIter i1 l1 k1) (h2:s.heap.IsTupleIter i2 l2 k2) (hl1:s.heap.IsTuple l1 xs) (hl2:s.heap.IsTuple l2 ys) (hx:xs[k1]?=some x) (hy:ys[k2]?=some y)
  (hQ:∀ h',IsZip h' z TI TO (rawInt s.heap.objs.size)->IsPair h' TO x y->h'.IsTupleIter i1 l1 (k1+1)->h'.IsTupleIter i2 l2 (k2+1)->IsPair h' s.heap.objs.size x y->h'.objs.size=s.heap.objs.size+1 ->
   (∀ c o,c≠z->c≠TO->c≠i1->c≠i2->s.heap.get? c=some o->h'.get? c=some o)->Q (.ref s.heap.objs.size) { s with heap:=h' }) :
  wpAny (model prog w) A (Builtin.«zip.__next__» ⟨[.ref z],[]⟩) (fun fin s'=>∃ v,fin=.done (.ret v)/\Q v s') E s:=by
 show wpAny _ _ (field (.ref z) 2 >>= _) _ _ _
 refine ab (bF hz rfl (x:=.bool false) rfl ?_)
 show wpAny _ _ (field (.ref z) 3 >>= _) _ _ _
 refine ab (bF hz rfl (x:=.ref TI) rfl ?_)
 refine ab (dw hTI rfl ?_)
 show wpAny _ _ (Builtin.SmallTypes.ownedTupleIsFree (.ref z) >>= _) _ _ _
 refine ab ?_
 unfold Builtin.SmallTypes.ownedTupleIsFree
 refine ab (bF hz rfl (x:=.none) rfl (am ?_))
 simp only[e9]
 refine ab (eF ?_)
 refine ab (bF hz rfl (x:=.ref TO) rfl ?_)
 refine ab (dS hz (by simp) fun ha hza hsa=>?_)
 replace hza:IsZip ha z TI TO .ellipsis:=hza
 refine ab ?_
 simp only[zipIdx_cons,zipIdx_nil,iH,forIn_nil]
 refine ab (ab (oh ?_))
 show wpAny _ _ (Builtin.SmallTypes.nextOf (.ref i1) >>= _) _ _ _
 refine ab (nextT (h1.extBut hsa.extBut D.i1z) (hl1.extBut hsa.extBut D.l1z) hx fun hb h1b hsb=>am ?_)
 have tb:IsPair hb TO a b:=hsb.extBut _ _ D.TOi1 (hsa.extBut _ _ D.TOz hTO)
 refine ab (dw tb rfl ?_)
 refine ab (rf tb fun hc tc hsc=>?_)
 replace tc:IsPair hc TO x b:=tc
 refine ab (j5 (am ?_))
 refine ab (ab (oh ?_))
 show wpAny _ _ (Builtin.SmallTypes.nextOf (.ref i2) >>= _) _ _ _
 refine ab (nextT (((h2.extBut hsa.extBut D.i2z).extBut hsb.extBut D.i12.symm).extBut hsc.extBut D.TOi2.symm) (((hl2.extBut hsa.extBut D.l2z).extBut hsb.extBut D.l2i1).extBut hsc.extBut D.l2TO) hy fun hd h2d hsd=>am ?_)
 have td:IsPair hd TO x b:=hsd.extBut _ _ D.TOi2 tc
 refine ab (dw td rfl ?_)
 refine ab (rf td fun he te hse=>?_)
 replace te:IsPair he TO x y:=te
 refine ab (j5 (am (am ?_)))
 refine ab (dw te rfl ?_)
 refine ab (n6 ?_)
 have hsz:he.objs.size=s.heap.objs.size:=by rw[hse.1,hsd.1,hsc.1,hsb.1,hsa.1]
 have ze:IsZip he z TI TO .ellipsis:=hse.extBut _ _ D.TOz.symm (hsd.extBut _ _ D.i2z.symm (hsc.extBut _ _ D.TOz.symm (hsb.extBut _ _ D.i1z.symm hza)))
 have ke:∀ c o,c≠z->c≠TO->c≠i1->c≠i2->s.heap.get? c=some o->he.get? c=some o:=fun c o c1 c2 c3 c4 e =>
  hse.extBut _ _ c2 (hsd.extBut _ _ c4 (hsc.extBut _ _ c2 (hsb.extBut _ _ c3 (hsa.extBut _ _ c1 e))))
 have h1e:he.IsTupleIter i1 l1 (k1+1):=((h1b.extBut hsc.extBut D.TOi1.symm).extBut hsd.extBut D.i12).extBut hse.extBut D.TOi1.symm
 have h2e:he.IsTupleIter i2 l2 (k2+1):=h2d.extBut hse.extBut D.TOi2.symm
 have hzlt:z < he.objs.size:=aM ze
 show wpAny _ _ (Builtin.SmallTypes.ownedTupleHandOut (.ref z) (.ref he.objs.size) >>= _) _ _ _
 refine ab ?_
 unfold Builtin.SmallTypes.ownedTupleHandOut
 have zf:IsZip (he.push { cls:=.type "tuple",data:=.seq #[x,y] }) z TI TO .ellipsis:=aJ _ ze
 refine ab (dS zf (by simp) fun hg zg hsg=>?_)
 replace zg:IsZip hg z TI TO (rawInt he.objs.size):=zg
 refine dS zg (by simp) fun hi zi hsi=>?_
 replace zi:IsZip hi z TI TO (rawInt he.objs.size):=zi
 have up:∀ c o,c≠z->he.get? c=some o->hi.get? c=some o:=fun c o c1 e=>hsi.extBut _ _ c1 (hsg.extBut _ _ c1 (aJ _ e))
 have hT:IsPair hi he.objs.size x y:=hsi.extBut _ _ (dr hzlt) (hsg.extBut _ _ (dr hzlt) (bp _ rfl))
 have hz8:hi.objs.size=he.objs.size+1:=by rw[hsi.1,hsg.1,dQ]
 rw[hsz] at zi hT hz8
 refine am ⟨_,rfl,?_⟩
 show Q (.ref he.objs.size) _
 rw[hsz]
 exact hQ hi zi (up _ _ D.TOz te) (tupIter_at h1e fun o e=>up _ o D.i1z e) (tupIter_at h2e fun o e=>up _ o D.i2z e) hT hz8 fun c o c1 c2 c3 c4 e=>up c o c1 (ke c o c1 c2 c3 c4 e)
theorem Zmh {z TI TO i1 i2 l1 l2:Addr} {k1 k2:Nat} {xs ys:Array Value} {a b:Value} {Q:Fin->Shared->Prop} (hh:A.handled=none) (D:ZipApart z TI TO i1 i2 l1 l2)
  (hz:IsZip s.heap z TI TO .none) (hTI:IsPair s.heap TI (.ref i1) (.ref i2)) (hTO:IsPair s.heap TO a b)
  (h1:s.heap.IsTupleIter i1 l1 k1) (h2:s.heap.IsTupleIter i2 l2 k2) (hl1:s.heap.IsTuple l1 xs) (hl2:s.heap.IsTuple l2 ys) (hend:xs[k1]?=none\/ys[k2]?=none)
  (hE:∀ h' e,(∀ c o,c≠z->c≠TO->c≠i1->c≠i2->s.heap.get? c=some o->h'.get? c=some o)->(∃ o,h'.get? e=some o/\o.cls=.type "StopIteration")->E (.ref e) { s with heap:=h' }) :
  wpAny (model prog w) A (Builtin.«zip.__next__» ⟨[.ref z],[]⟩) Q E s:=by
 show wpAny _ _ (field (.ref z) 2 >>= _) _ _ _
 refine ab (bF hz rfl (x:=.bool false) rfl ?_)
 show wpAny _ _ (field (.ref z) 3 >>= _) _ _ _
 refine ab (bF hz rfl (x:=.ref TI) rfl ?_)
 refine ab (dw hTI rfl ?_)
 show wpAny _ _ (Builtin.SmallTypes.ownedTupleIsFree (.ref z) >>= _) _ _ _
 refine ab ?_
 unfold Builtin.SmallTypes.ownedTupleIsFree
 refine ab (bF hz rfl (x:=.none) rfl (am ?_))
 simp only[e9]
 refine ab (eF ?_)
 refine ab (bF hz rfl (x:=.ref TO) rfl ?_)
 refine ab (dS hz (by simp) fun ha hza hsa=>?_)
 replace hza:IsZip ha z TI TO .ellipsis:=hza
 refine ab ?_
 simp only[zipIdx_cons,zipIdx_nil,iH,forIn_nil]
 refine ab (ab (oh ?_))
 show wpAny _ _ (Builtin.SmallTypes.nextOf (.ref i1) >>= _) _ _ _
 cases hx:xs[k1]? with
 | none =>
  refine ab (kO hh (h1.extBut hsa.extBut D.i1z) (hl1.extBut hsa.extBut D.l1z) hx fun hb e hsb he=>?_)
  obtain ⟨oe,hoe,hce⟩:=he
  have zb:IsZip hb z TI TO .ellipsis:=hsb _ _ D.i1z.symm hza
  have hez:e≠z:=fun x=>by subst x;rw[zb] at hoe;cases hoe;simp at hce
  refine dS zb (by simp) fun hc j hsc=>hE hc e (fun c o c1 j c3 j x=>hsc.extBut _ _ c1 (hsb _ _ c3 (hsa.extBut _ _ c1 x))) ⟨oe,hsc.extBut _ _ hez hoe,hce⟩
 | some x =>
  have hy:ys[k2]?=none:=by rcases hend with h|h;rw[hx] at h;cases h;exact h
  refine ab (nextT (h1.extBut hsa.extBut D.i1z) (hl1.extBut hsa.extBut D.l1z) hx fun hb h1b hsb=>am ?_)
  have tb:IsPair hb TO a b:=hsb.extBut _ _ D.TOi1 (hsa.extBut _ _ D.TOz hTO)
  refine ab (dw tb rfl ?_)
  refine ab (rf tb fun hc tc hsc=>?_)
  refine ab (j5 (am ?_))
  refine ab (ab (oh ?_))
  show wpAny _ _ (Builtin.SmallTypes.nextOf (.ref i2) >>= _) _ _ _
  refine ab (kO hh (((h2.extBut hsa.extBut D.i2z).extBut hsb.extBut D.i12.symm).extBut hsc.extBut D.TOi2.symm) (((hl2.extBut hsa.extBut D.l2z).extBut hsb.extBut D.l2i1).extBut hsc.extBut D.l2TO) hy fun hd e hsd he=>?_)
  obtain ⟨oe,hoe,hce⟩:=he
  have zd:IsZip hd z TI TO .ellipsis:=hsd _ _ D.i2z.symm (hsc.extBut _ _ D.TOz.symm (hsb.extBut _ _ D.i1z.symm hza))
  have hez:e≠z:=fun x=>by subst x;rw[zd] at hoe;cases hoe;simp at hce
  refine dS zd (by simp) fun he j hse=>hE he e (fun c o c1 c2 c3 c4 x=>hse.extBut _ _ c1 (hsd _ _ c4 (hsc.extBut _ _ c2 (hsb.extBut _ _ c3 (hsa.extBut _ _ c1 x))))) ⟨oe,hse.extBut _ _ hez hoe,hce⟩
theorem Zk4 {z TI TO i1 i2 l1 l2:Addr} {k1 k2:Nat} {xs ys:Array Value} {x y a b:Value} {Q:Option Value->Shared->Prop} (D:ZipApart z TI TO i1 i2 l1 l2)
  (hz:IsZip s.heap z TI TO .none) (hTI:IsPair s.heap TI (.ref i1) (.ref i2)) (hTO:IsPair s.heap TO a b)
  (h1:s.heap.IsTupleIter i1 l1 k1) (h2:s.heap.IsTupleIter i2 l2 k2) (hl1:s.heap.IsTuple l1 xs) (hl2:s.heap.IsTuple l2 ys) (hx:xs[k1]?=some x) (hy:ys[k2]?=some y)
  (hQ:∀ h',IsZip h' z TI TO (rawInt s.heap.objs.size)->IsPair h' TO x y->h'.IsTupleIter i1 l1 (k1+1)->h'.IsTupleIter i2 l2 (k2+1)->IsPair h' s.heap.objs.size x y->h'.objs.size=s.heap.objs.size+1 ->
   (∀ c o,c≠z->c≠TO->c≠i1->c≠i2->s.heap.get? c=some o->h'.get? c=some o)->Q (some (.ref s.heap.objs.size)) { s with heap:=h' }) :
  wpAny (model prog w) A (pyNext (.ref z)) Q E s:=by
 have hT:s.TypeIs (.ref z) "zip":=⟨_,hz,rfl⟩
 unfold pyNext
 exact ab (iL (fb (name:=Str.ofString "__next__") hT F.slot_zip_next (dD F.slot_zip_next hT F.entry_zip_next
   (Zj9 D hz hTI hTO h1 h2 hl1 hl2 hx hy fun h' a1 a2 a3 a4 a5 a6 a7=>am (hQ h' a1 a2 a3 a4 a5 a6 a7)) (F.args_zip_next_1 _))))
theorem Zgx {z TI TO i1 i2 l1 l2:Addr} {k1 k2:Nat} {xs ys:Array Value} {a b:Value} {Q:Option Value->Shared->Prop} (hh:A.handled=none) (D:ZipApart z TI TO i1 i2 l1 l2)
  (hz:IsZip s.heap z TI TO .none) (hTI:IsPair s.heap TI (.ref i1) (.ref i2)) (hTO:IsPair s.heap TO a b)
  (h1:s.heap.IsTupleIter i1 l1 k1) (h2:s.heap.IsTupleIter i2 l2 k2) (hl1:s.heap.IsTuple l1 xs) (hl2:s.heap.IsTuple l2 ys) (hend:xs[k1]?=none\/ys[k2]?=none)
  (hQ:∀ h',(∀ c o,c≠z->c≠TO->c≠i1->c≠i2->s.heap.get? c=some o->h'.get? c=some o)->Q none { s with heap:=h' }):wpAny (model prog w) A (pyNext (.ref z)) Q E s:=by
 have hT:s.TypeIs (.ref z) "zip":=⟨_,hz,rfl⟩
 unfold pyNext
 refine ab (iL (fb (name:=Str.ofString "__next__") hT F.slot_zip_next (dD F.slot_zip_next hT F.entry_zip_next (Zmh hh D hz hTI hTO h1 h2 hl1 hl2 hend fun h' e hk he=>?_) (F.args_zip_next_1 _))))
 obtain ⟨o,ho,hc⟩:=he
 refine ab (iM (T:="StopIteration") (b:=true) ⟨o,ho,hc⟩ isSubtype_stop ?_)
 exact am (hQ _ hk)
end
abbrev zT1 (h:Heap) (l1:Addr):Heap:=h.push { cls:=.type "tuple_iterator",data:=.fields #[.ref l1,.int 0 0] }
abbrev zT2 (h:Heap) (l1 l2:Addr):Heap:=(zT1 h l1).push { cls:=.type "tuple_iterator",data:=.fields #[.ref l2,.int 0 0] }
abbrev zT3 (h:Heap) (l1 l2:Addr):Heap:=(zT2 h l1 l2).push { cls:=.type "tuple",data:=.seq #[.ref h.objs.size,.ref (zT1 h l1).objs.size] }
abbrev zT4 (h:Heap) (l1 l2:Addr):Heap:=(zT3 h l1 l2).push { cls:=.type "tuple",data:=.seq #[.none,.none] }
abbrev zT5 (h:Heap) (l1 l2:Addr):Heap:=(zT4 h l1 l2).push { cls:=.type "zip",data:=.fields #[.none,.bool false,.bool false,.ref (zT2 h l1 l2).objs.size,.ref (zT3 h l1 l2).objs.size] }
theorem Zmg (l1 l2:Addr) (xs ys:Array Value) :
  Meets (Builtin.«zip.__new__» ⟨[.type "zip",.ref l1,.ref l2],[]⟩) (fun j R s=>s.heap.IsTuple l1 xs/\s.heap.IsTuple l2 ys/\R (.ok (.ret (.ref (zT4 s.heap l1 l2).objs.size))) { s with heap:=zT5 s.heap l1 l2 }) :=
 .of_wp fun prog w A R s h=>by
  obtain ⟨hp,g,d,tk,os⟩:=s;obtain ⟨hl1,hl2,h⟩:=h
  have hsub:isSubtype (.type "zip") (.type "zip")=pure true:=by rw[isSubtype_type];kernel_rfl
  have hL1:Heap.IsTuple (Shared.heap ⟨hp,g,d,tk,os⟩) l1 xs:=hl1
  have hL2:Heap.IsTuple (Shared.heap ⟨hp.push { cls:=.type "tuple_iterator",data:=.fields #[.ref l1,.int 0 0] },g,d,tk,os⟩) l2 ys:=Heap.IsTuple.push hl2 _
  wp_walk using gU hL1,gU hL2
  exact ⟨_,rfl,h⟩
theorem call_zipT {prog:Program} {w:World} {A:Around} {E:Value->Shared->Prop} {s:Shared} {l1 l2:Addr} {xs ys:Array Value} {Q:Value->Shared->Prop} (hl1:s.heap.IsTuple l1 xs) (hl2:s.heap.IsTuple l2 ys)
  (h:∀ h',IsZip h' (s.heap.objs.size+4) (s.heap.objs.size+2) (s.heap.objs.size+3) .none->IsPair h' (s.heap.objs.size+2) (.ref s.heap.objs.size) (.ref (s.heap.objs.size+1)) ->
   IsPair h' (s.heap.objs.size+3) .none .none->h'.IsTupleIter s.heap.objs.size l1 0->h'.IsTupleIter (s.heap.objs.size+1) l2 0 ->
   (∀ c o,s.heap.get? c=some o->h'.get? c=some o)->Q (.ref (s.heap.objs.size+4)) { s with heap:=h' }) :
  wpAny (model prog w) A (call (.type "zip") [.ref l1,.ref l2]) Q E s:=by
 refine callType_new F.called_zip (by decide) (F.typeCall_zip_2 _ _) (F.newCall_zip_2 _ _) (fun obj=>F.args_object_init_3 obj _ _) F.entry_zip_new (Zmg l1 l2 xs ys) ⟨hl1,hl2,?_⟩
 have z1:(zT1 s.heap l1).objs.size=s.heap.objs.size+1:=dQ ..
 have z2:(zT2 s.heap l1 l2).objs.size=s.heap.objs.size+2:=by rw[dQ,z1]
 have z3:(zT3 s.heap l1 l2).objs.size=s.heap.objs.size+3:=by rw[dQ,z2]
 have z4:(zT4 s.heap l1 l2).objs.size=s.heap.objs.size+4:=by rw[dQ,z3]
 have g5:(zT5 s.heap l1 l2).get? (zT4 s.heap l1 l2).objs.size=some _:=bp _ rfl
 have g4:(zT5 s.heap l1 l2).get? (zT3 s.heap l1 l2).objs.size=some _:=aJ _ (bp _ rfl)
 have g3:(zT5 s.heap l1 l2).get? (zT2 s.heap l1 l2).objs.size=some _:=aJ _ (aJ _ (bp _ rfl))
 have g2:(zT5 s.heap l1 l2).get? (zT1 s.heap l1).objs.size=some _:=aJ _ (aJ _ (aJ _ (bp _ rfl)))
 have g1:(zT5 s.heap l1 l2).get? s.heap.objs.size=some _:=aJ _ (aJ _ (aJ _ (aJ _ (bp _ rfl))))
 show _/\_
 rw[z2,z3,z4] at g5
 rw[z1,z2] at g3
 rw[z3] at g4
 rw[z1] at g2
 rw[z4]
 exact ⟨⟨_,g5,rfl⟩,h _ g5 g3 g4 ⟨_,g1,rfl,rfl⟩ ⟨_,g2,rfl,rfl⟩ fun c o x=>aJ _ (aJ _ (aJ _ (aJ _ (aJ _ x))))⟩
end L3
end
section
namespace L2
open PySem PySem.Spec PyProof.Rows
section
variable {prog:Program} {w:World} {K:Type} [DecidableEq K] {knd:KeyKind prog w K} {A:Around} {E:Value->Shared->Prop} {s:Shared}
inductive Its2 (knd:KeyKind prog w K) (h:Heap):List (List K)->List Value->Prop
 | nil:Its2 knd h [] []
 | cons {k:List K} {a:Addr} {ks:List (List K)} {vs:List Value}:IsTupleKey knd h k a->Its2 knd h ks vs->Its2 knd h (k::ks) (.ref a::vs)
def Is2 (knd:KeyKind prog w K) (h:Heap) (ks:List (List K)) (a:Addr):Prop:=∃ o items n,h.get? a=some o/\o.cls=.type "tuple"/\o.data=.seq items n/\Its2 knd h ks items.toList
theorem Its2.inj {h:Heap} {x y:List (List K)} {vs:List Value} (hx:Its2 knd h x vs) (hy:Its2 knd h y vs):x=y:=by
 induction hx generalizing y with
 | nil=>cases hy;rfl
 | cons h1 _ ih =>
  cases hy with
  | cons h2 t2=>rw[h1.inj h2,ih t2]
theorem Is2.typeIs {ks:List (List K)} {a:Addr} (x:Is2 knd s.heap ks a):s.TypeIs (.ref a) "tuple":=let ⟨o,_,_,ho,hc,_⟩:=x;⟨o,ho,hc⟩
theorem Is2.inj {h:Heap} {a:Addr} {x y:List (List K)} (hx:Is2 knd h x a) (hy:Is2 knd h y a):x=y:=by
 obtain ⟨o,items,n,ho,j,hd,hi⟩:=hx
 obtain ⟨o',items',n',ho',j,hd',hi'⟩:=hy
 obtain rfl:o=o':=Option.some.inj (ho.symm.trans ho')
 rw[hd] at hd'
 injection hd' with h1 _
 subst h1
 exact hi.inj hi'
theorem Its2.keeps {h h':Heap} {ks:List (List K)} {vs:List Value} {d:Addr} {o:Obj} {es ep} (x:Its2 knd h ks vs) (ho:h.get? d=some o) (hd:o.data=.dict es ep) (hs:Heap.SameBut d h h'):Its2 knd h' ks vs:=by
 induction x with
 | nil=>exact .nil
 | cons h1 _ ih=>exact .cons (h1.keeps ho hd hs) ih
theorem Is2.keeps {h h':Heap} {ks:List (List K)} {a d:Addr} {o:Obj} {es ep} (x:Is2 knd h ks a) (ho:h.get? d=some o) (hd:o.data=.dict es ep) (hs:Heap.SameBut d h h'):Is2 knd h' ks a:=by
 obtain ⟨o',items,n,ho',hc,hd',hi⟩:=x
 have hne:a≠d:=by
  rintro rfl
  obtain rfl:o'=o:=Option.some.inj (ho'.symm.trans ho)
  rw[hd] at hd';exact nomatch hd'
 exact ⟨o',items,n,(hs.2 a hne).trans ho',hc,hd',hi.keeps ho hd hs⟩
def o7 (knd:KeyKind prog w K) (ks:List (List K)):Int:=reduceHash (Builtin.Tuple.tupleHashOf (ks.map (tupleKeyHash knd)))
def ij (ks:List (List K)):Nat:=(ks.map fun k=>k.length+1).sum
theorem ZmE {ks:List (List K)} {a:Addr} {Q:Int->Shared->Prop} (hu:A.units+1 < cLine) (hk:Is2 knd s.heap ks a) (h:Q (o7 knd ks) { s with toks:=s.toks+(ij ks+1) }) :
  wpAny (model prog w) A (pyHash (.ref a)) Q E s:=by
 have hT:=hk.typeIs
 obtain ⟨o,items,n,ho,j,hd,hi⟩:=hk
 unfold pyHash
 first|unfold pyHashByItsType|skip
 first|refine ab (wpAny_cRoomFor_or (.inr (by lia)) ?_)|skip
 refine ab (g9 hT F.slot_tuple_hash.lookup ?_)
 show wpAny _ _ (if (some (Value.builtin "tuple.__hash__") == some Value.none)=true then _ else _) Q E s
 rw[ah (by rw[beq_builtin_none];exact bo)]
 refine ab (g9 hT F.slot_tuple_hash.lookup ?_)
 show wpAny _ _ (callSpecialIfBoundUnlessNone? (.ref a) "__hash__" _ >>= _) Q E s
 refine ab (wpAny_callSpecialIfBoundUnlessNone?_slot hT F.slot_tuple_hash (dD F.slot_tuple_hash hT F.entry_tuple_hash ?_ (F.args_tuple_hash_1 _)))
 show wpAny _ _ (Builtin.Tuple.tupleItemsOf (.ref a) >>= _) _ _ s
 refine ab (rg ho hd ?_)
 refine ab ?_
 rw[<-j6]
 refine oi _
  (fun rest (b:Array Int) s'=>∃ done left,ks=done++left/\Its2 knd s.heap left rest/\b.toList=done.map (tupleKeyHash knd)/\s'={ s with toks:=s.toks+ij done })
  _ ?_ ?_ _ _ ⟨[],ks,rfl,hi,rfl,rfl⟩
 .rintro x rest b s' ⟨done,left,rfl,hl,hb,rfl⟩
  cases hl with
  | @cons k a' ks' _ h1 hl' =>
   have e:ij (done++[k])=ij done+(k.length+1):=by simp[ij]
   refine ab (wpAny_pyHash_tuple (knd:=knd) (by first|exact hu|(show A.units+1 < cLine;exact hu)) h1 ?_)
   first
    | exact am ⟨done++[k],ks',by simp,hl',by simp[hb],by simp[e,fT]⟩
    | exact ab (am (am ⟨done++[k],ks',by simp,hl',by simp[hb],by simp[e,fT]⟩))
 .rintro b s' ⟨done,left,rfl,hl,hb,rfl⟩
  cases hl
  rw[bH] at h
  show wpAny _ _ (retInt (Builtin.Tuple.tupleHashOf b.toList)) _ _ _
  rw[hb]
  refine wpAny_ret_mkInt ?_
  show wpAny _ _ (if (decide (-(2:Int) ^ 63<=Builtin.Tuple.tupleHashOf (done.map (tupleKeyHash knd))) && decide (Builtin.Tuple.tupleHashOf (done.map (tupleKeyHash knd)) < 2 ^ 63))=true then _ else _) Q E _
  unfold o7 reduceHash at h
  by_cases hr:(decide (-(2:Int) ^ 63<=Builtin.Tuple.tupleHashOf (done.map (tupleKeyHash knd))) && decide (Builtin.Tuple.tupleHashOf (done.map (tupleKeyHash knd)) < 2 ^ 63))=true
  .rw[ag hr]
   rw[ag hr] at h
   exact am (by simpa [fT] using h)
  .rw[ah hr]
   rw[ah hr] at h
   exact ab (eF (am (by simpa [fT] using h)))
theorem Znl {x y:List (List K)} {a b:Addr} {P:Fin->Shared->Prop} (hu:A.units < cLine) (hx:Is2 knd s.heap x a) (hy:Is2 knd s.heap y b) (h:P (.done (.ret (.bool (decide (x=y))))) s) :
  wpAny (model prog w) A (Builtin.«tuple.__eq__» ⟨[.ref a,.ref b],[]⟩) P E s:=by
 have hTb:=hy.typeIs
 obtain ⟨oa,xs,na,hoa,j,hda,hia⟩:=hx
 obtain ⟨ob,ys,nb,hob,j,hdb,hib⟩:=hy
 show wpAny _ _ (isInstance (.ref b) (.type "tuple") >>= _) _ _ s
 refine ab (iM hTb rh ?_)
 simp only[iN,dE,dv]
 refine ab (rg hoa hda ?_)
 refine ab (rg hob hdb ?_)
 refine ab ?_
 refine oi _
  (fun rest r s'=>r.1=none/\s'=s/\∃ x' y' xs' ys',rest=List.zip xs' ys'/\Its2 knd s.heap x' xs'/\Its2 knd s.heap y' ys'/\decide (x'=y')=decide (x=y)/\(xs'.length == ys'.length)=(xs.size == ys.size))
  _ ?_ ?_ _ _ ⟨rfl,rfl,x,y,xs.toList,ys.toList,rfl,hia,hib,rfl,by simp⟩
 .rintro ⟨u,v⟩ rest r s' ⟨hr,rfl,x',y',xs',ys',hz,hx',hy',hdec,hlen⟩
  cases hx' with
  | nil=>simp at hz
  | @cons k1 u' x'' xs'' h1 hx'' =>
   cases hy' with
   | nil=>simp at hz
   | @cons k2 v' y'' ys'' h2 hy'' =>
    simp only[hJ,List.cons.injEq,Prod.mk.injEq] at hz
    obtain ⟨⟨rfl,rfl⟩,rfl⟩:=hz
    refine ab (wpAny_eqBool_tuple (knd:=knd) hu h1 h2 ?_)
    by_cases hk:k1=k2
    .subst hk
     rw[aU rfl]
     simp only[iN,dE,dv]
     refine am ⟨rfl,rfl,x'',y'',xs'',ys'',rfl,hx'',hy'',?_,by simpa using hlen⟩
     rw[<-hdec]
     by_cases hxy:x''=y''
     .simp[hxy]
     .simp[hxy]
    .rw[aL hk]
     simp only[Bool.not_false,e9]
     have hf:decide (x=y)=false:=by rw[<-hdec];simp[hk]
     rw[hf] at h
     exact ab (am (am (am h)))
 .rintro ⟨r1,r2⟩ s' ⟨hr,rfl,x',y',xs',ys',hz,hx',hy',hdec,hlen⟩
  simp only at hr
  subst hr
  refine am ?_
  have hfin:(xs.size == ys.size)=decide (x=y):=by
   rw[<-hdec,<- hlen]
   cases hx' with
   | nil =>
    cases hy' with
    | nil=>simp
    | cons _ _=>simp
   | cons _ _ =>
    cases hy' with
    | nil=>simp
    | cons _ _=>simp at hz
  show P (.done (.ret (.bool (xs.size == ys.size)))) s'
  rw[hfin];exact h
theorem Znm {x y:List (List K)} {a b:Addr} {Q:Bool->Shared->Prop} (hu:A.units+1 < cLine) (hx:Is2 knd s.heap x a) (hy:Is2 knd s.heap y b) (h:Q (decide (x=y)) s) :
  wpAny (model prog w) A (eqBool (.ref a) (.ref b)) Q E s:=by
 unfold eqBool
 try with_reducible refine cY ?_
 show wpAny _ _ (if (Value.ref a == Value.ref b)=true then _ else _) Q E s
 by_cases hab:(Value.ref a == Value.ref b)=true
 .rw[ag hab]
  have e:a=b:=by have:=eq_of_beq hab;injection this
  subst e
  obtain rfl:=hx.inj hy
  exact ab (eF (am (by simpa using h)))
 .rw[ah hab]
  exact ab (wpAny_richCompare_same_room (op:=.Eq) hx.typeIs hy.typeIs F.slot_tuple_eq
   (dD F.slot_tuple_eq hx.typeIs F.entry_tuple_eq (Znl (by exact hu) hx hy ⟨_,rfl,(fun e=>nomatch e),gt h⟩) (F.args_tuple_eq_2 _ _)) (by lia))
theorem ZoM {n:Nat} {ks:List K} {a:Addr} {Q:Bool->Shared->Prop} (hk:IsTupleKey knd s.heap ks a) (h:Q true s):wpAny (model prog w) A (eqIsQuiet (n+1) (.ref a)) Q E s:=by
 have hT:=hk.typeIs
 obtain ⟨o,items,m,ho,j,hd,hi⟩:=hk
 unfold eqIsQuiet
 refine ab (g9 hT F.slot_tuple_eq.lookup ?_)
 show wpAny _ _ (isInstance (.ref a) (.type "tuple") >>= _) _ _ s
 refine ab (iM hT rh ?_)
 simp only[iN,dE,dv]
 refine ab (dw ho hd ?_)
 refine ab ?_
 show wpAny _ _ (forIn items _ _) _ _ s
 rw[<-j6]
 refine oi _ (fun rest r s'=>r.1=none/\s'=s/\∀ v∈rest,carriedByValue v=true) _ ?_ ?_ _ _ ⟨rfl,rfl,hi.byValue⟩
 .rintro v rest r s' ⟨hr,rfl,hall⟩
  rw[eqIsQuiet_byValue _ (hall v bG)]
  refine ab (am ?_)
  simp only[iN,dE,dv]
  exact am ⟨rfl,rfl,fun u hu'=>hall u (bE _ hu')⟩
 .rintro ⟨r1,r2⟩ s' ⟨hr,rfl,j⟩
  simp only at hr
  subst hr
  exact am h
theorem ZoL {ks:List (List K)} {a:Addr} {Q:Bool->Shared->Prop} (hk:Is2 knd s.heap ks a) (h:Q true s):wpAny (model prog w) A (eqIsQuiet 8 (.ref a)) Q E s:=by
 have hT:=hk.typeIs
 obtain ⟨o,items,m,ho,j,hd,hi⟩:=hk
 unfold eqIsQuiet
 refine ab (g9 hT F.slot_tuple_eq.lookup ?_)
 show wpAny _ _ (isInstance (.ref a) (.type "tuple") >>= _) _ _ s
 refine ab (iM hT rh ?_)
 simp only[iN,dE,dv]
 refine ab (dw ho hd ?_)
 refine ab ?_
 show wpAny _ _ (forIn items _ _) _ _ s
 rw[<-j6]
 refine oi _ (fun rest r s'=>r.1=none/\s'=s/\∃ ks',Its2 knd s.heap ks' rest) _ ?_ ?_ _ _ ⟨rfl,rfl,ks,hi⟩
 .rintro v rest r s' ⟨hr,rfl,ks',hall⟩
  cases hall with
  | cons h1 t1 =>
   refine ab (ZoM (knd:=knd) h1 ?_)
   simp only[iN,dE,dv]
   exact am ⟨rfl,rfl,_,t1⟩
 .rintro ⟨r1,r2⟩ s' ⟨hr,rfl,j⟩
  simp only at hr
  subst hr
  exact am h
end
def io {prog:Program} {w:World} {K:Type} [DecidableEq K] (knd:KeyKind prog w K):HeapKind prog w (List (List K)) where
 is:=Is2 knd
 hash:=o7 knd
 draws:=fun ks=>ij ks+1
 room:=fun A=>A.units+1 < cLine
 inj:=fun hx hy=>hx.inj hy
 keeps:=fun x ho hd hs=>x.keeps ho hd hs
 pyHash:=fun hu hk h=>ZmE hu hk h
 eqBool:=fun hu hx hy h=>Znm hu hx hy h
 quiet:=fun hk h=>ZoL hk h
end L2
end
section
namespace L2
open PySem
def aQ (t:List (Int×Int)) (w:Int):Int:=match t with
 | []=>0
 | q::r=>if q.1=w then q.2 else aQ r w
def addT (t:List (Int×Int)) (w x:Int):List (Int×Int):=match t with
 | []=>[(w,x)]
 | q::r=>if q.1=w then (q.1,q.2+x)::r else q::addT r w x
theorem ve {t:List (Int×Int)} {w:Int} (h:w∉t.map (·.1)):aQ t w=0:=by
 induction t with
 | nil=>rfl
 | cons q t ih =>
  have h:w∉q.1::t.map (·.1):=h
  rw[aG,cF] at h
  rw[aQ,ah (fun e=>h.1 e.symm)]
  exact ih h.2
theorem Zkk (t:List (Int×Int)) (w:Int):(valV (kvT t) (Sum.inl w:Key)).getD (V.int 0)=V.int (aQ t w):=by
 induction t with
 | nil=>rfl
 | cons q t ih =>
  show (valV ((Sum.inl q.1,V.int q.2)::kvT t) (Sum.inl w:Key)).getD _=_
  rw[aQ]
  by_cases e:q.1=w
  .rw[jo (by rw[e]),ag e]
   rfl
  .rw[iw (fun z=>e (Sum.inl.inj z)),ah e]
   exact ih
theorem tF {t:List (Int×Int)} {w:Int} (h:w∈t.map (·.1)):valV (kvT t) (Sum.inl w:Key)=some (V.int (aQ t w)):=by
 induction t with
 | nil=>cases h
 | cons q t ih =>
  show valV ((Sum.inl q.1,V.int q.2)::kvT t) (Sum.inl w:Key)=_
  rw[aQ]
  by_cases e:q.1=w
  .rw[jo (by rw[e]),ag e]
  .rw[iw (fun z=>e (Sum.inl.inj z)),ah e]
   have h:w∈q.1::t.map (·.1):=h
   exact ih ((aG.mp h).resolve_left fun z=>e z.symm)
theorem pD (t:List (Int×Int)) (w x:Int):(addT t w x).map (·.1)=if w∈t.map (·.1) then t.map (·.1) else t.map (·.1)++[w]:=by
 induction t with
 | nil=>simp[addT]
 | cons q t ih =>
  rw[addT]
  by_cases e:q.1=w
  .rw[ag e,ag (show w∈(q::t).map (·.1) by rw[aF,e];exact bG)]
   rfl
  .rw[ah e,aF,ih]
   have hne:¬ w=q.1:=fun z=>e z.symm
   by_cases h:w∈t.map (·.1)
   .rw[ag h,ag (show w∈(q::t).map (·.1) by rw[aF];exact bE _ h)]
    rfl
   .rw[ah h,ah (show ¬ w∈(q::t).map (·.1) by rw[aF,aG,cF];exact ⟨hne,h⟩)]
    rfl
theorem Zmb (t:List (Int×Int)) (w x v:Int):aQ (addT t w x) v=aQ t v+if v=w then x else 0:=by
 induction t with
 | nil =>
  rw[addT,aQ,aQ,aQ]
  by_cases e:w=v
  .rw[ag e,ag e.symm];lia
  .rw[ah e,ah (fun z=>e z.symm)];lia
 | cons q t ih =>
  rw[addT]
  by_cases e:q.1=w
  .rw[ag e,aQ,aQ]
   by_cases ev:q.1=v
   .rw[ag ev,ag ev,ag (by lia)]
   .rw[ah ev,ah ev,ah (by lia)];lia
  .rw[ah e,aQ,aQ]
   by_cases ev:q.1=v
   .rw[ag ev,ag ev,ah (by lia)];lia
   .rw[ah ev,ah ev]
    exact ih
theorem uq {t:List (Int×Int)} {w x:Int} (h:(t.map (·.1)).Nodup):((addT t w x).map (·.1)).Nodup:=by
 rw[pD]
 by_cases e:w∈t.map (·.1)
 .rw[ag e];exact h
 .rw[ah e];exact rX h e
theorem ZmG {t:List (Int×Int)} {w x:Int} (h:(t.map (·.1)).Nodup):putK (kvT t) (Sum.inl w:Key) (V.int (aQ t w+x))=kvT (addT t w x):=by
 by_cases e:w∈t.map (·.1)
 .unfold putK
  rw[nL,tF e]
  simp only[Option.isSome_some,e9]
  induction t with
  | nil=>cases e
  | cons q t ih =>
   have h:(q.1::t.map (·.1)).Nodup:=h
   obtain ⟨h1,h2⟩:=cP.mp h
   rw[addT,aQ]
   by_cases eq:q.1=w
   .rw[ag eq,ag eq]
    subst eq
    unfold kvT
    rw[aF,aF,aF,ag rfl]
    congr 1
    rw[cG]
    refine j7 fun q' hq'=>?_
    have hne:q'.1≠q.1:=fun z=>h1 (by rw[<-z];exact mem_map_of_mem hq')
    show (if (Sum.inl q'.1:Key)=Sum.inl q.1 then _ else _)=_
    rw[ah (fun z=>hne (Sum.inl.inj z))]
   .rw[ah eq,ah eq]
    have e':w∈t.map (·.1):=by
     have e:w∈q.1::t.map (·.1):=e
     exact (aG.mp e).resolve_left fun z=>eq z.symm
    have:=ih h2 e'
    unfold kvT at this ⊢
    rw[aF,aF,aF,this,ah (fun z=>eq (Sum.inl.inj z))]
 .rw[ve e,j8,ZmF (fun q hq z=>e (by rw[<-z];exact mem_map_of_mem hq))]
  congr 1
  clear h
  induction t with
  | nil=>rfl
  | cons q t ih =>
   have e:w∉q.1::t.map (·.1):=e
   rw[aG,cF] at e
   rw[addT,ah (fun z=>e.1 z.symm),<- ih e.2]
   rfl
def aX (t:List (Int×Int)) (ps:List (Int×Int)) (n:Int):List (Int×Int):=ps.foldl (fun t p=>addT t p.2 (p.1 * n)) t
def atW (ps:List (Int×Int)) (w:Int):Int:=(ps.map fun p=>if p.2=w then p.1 else 0).sum
theorem fK (ps:List (Int×Int)) (n:Int):∀ {t:List (Int×Int)},(t.map (·.1)).Nodup->((aX t ps n).map (·.1)).Nodup:=by
 induction ps with
 | nil=>exact fun h=>h
 | cons p ps ih=>exact fun h=>ih (uq h)
theorem gO (ps:List (Int×Int)) (n w:Int):∀ (t:List (Int×Int)),aQ (aX t ps n) w=aQ t w+atW ps w * n:=by
 induction ps with
 | nil=>intro t;simp[aX,atW]
 | cons p ps ih =>
  intro t
  show aQ (aX (addT t p.2 (p.1 * n)) ps n) w=_
  rw[ih,Zmb]
  unfold atW
  rw[aF,iO,Int.add_mul]
  by_cases e:w=p.2
  .rw[ag e,ag e.symm];lia
  .rw[ah e,ah (fun z=>e z.symm)];lia
end L2
namespace L2
open PySem
theorem ZnH (t:List (Int×Int)) (w x:Int):(addT t w x).length<=t.length+1:=by
 have:=congrArg List.length (pD t w x)
 rw[ai] at this
 rw[this]
 split
 .rw[ai];lia
 .rw[aA,ai];simp
theorem i6 (ps:List (Int×Int)) (n:Int):∀ (t:List (Int×Int)),(aX t ps n).length<=t.length+ps.length:=by
 induction ps with
 | nil=>intro t;exact aq _
 | cons p ps ih =>
  intro t
  have h1:=ih (addT t p.2 (p.1 * n))
  have h2:=ZnH t p.2 (p.1 * n)
  show (aX (addT t p.2 (p.1 * n)) ps n).length<=_
  rw[bz]
  lia
theorem pY (t ps:List (Int×Int)) (p:Int×Int) (n:Int):aX t (ps++[p]) n=addT (aX t ps n) p.2 (p.1 * n):=by
 unfold aX
 rw[j9]
 rfl
def bO (t:List (Int×Int)) (ms:List Int):List (Int×Int):=(ms.filter fun w=>decide (aQ t w≠0)).map fun w=>(aQ t w,w)
end L2
end
section
namespace L2
open PySem
structure Canon (ps:List (Int×Int)):Prop where
 up:ps.Pairwise fun p q=>p.2 < q.2
 nz:∀ p∈ps,p.1≠0
theorem gf (p:Int×Int) (ps:List (Int×Int)) (w:Int):atW (p::ps) w=(if p.2=w then p.1 else 0)+atW ps w:=by unfold atW;rw[aF,iO]
theorem Zj6 (ps qs:List (Int×Int)) (w:Int):atW (ps++qs) w=atW ps w+atW qs w:=by
 induction ps with
 | nil=>rw[iF];unfold atW;simp
 | cons p ps ih=>rw[cons_append,gf,gf,ih];lia
theorem ie {ps:List (Int×Int)} {w:Int} (h:∀ p∈ps,p.2≠w):atW ps w=0:=by
 induction ps with
 | nil=>rfl
 | cons p ps ih =>
  rw[gf,ah (h p bG),ih fun q hq=>h q (bE _ hq)]
  lia
theorem Canon.tail {p:Int×Int} {ps:List (Int×Int)} (h:Canon (p::ps)):Canon ps:=⟨(n9.mp h.up).2,fun q hq=>h.nz q (bE _ hq)⟩
theorem Canon.head {p:Int×Int} {ps:List (Int×Int)} (h:Canon (p::ps)):atW (p::ps) p.2=p.1/\p.1≠0/\∀ w,w < p.2->atW (p::ps) w=0:=by
 have h1:=(n9.mp h.up).1
 refine ⟨?_,h.nz p bG,fun w hw=>?_⟩
 .rw[gf,ag rfl,ie fun q hq=>by have:=h1 q hq;lia]
  lia
 .refine ie fun q hq=>?_
  rcases aG.mp hq with rfl|hq
  .lia
  .have:=h1 q hq
   lia
theorem canon_one : ∀ {ps qs : List (Int × Int)}, Canon ps -> Canon qs -> (∀ w, atW ps w = atW qs w) -> ps = qs
  | [], [], _, _, _ => rfl
  | [], q :: qs, _, h, e => by
    obtain ⟨h1,h2,j⟩:=h.head
    have:=e q.2
    rw[h1] at this
    exact absurd this.symm h2
  | p :: ps, [], h, _, e => by
    obtain ⟨h1,h2,j⟩:=h.head
    have:=e p.2
    rw[h1] at this
    exact absurd this h2
  | p :: ps, q :: qs, hp, hq, e => by
    obtain ⟨p1,p2,p3⟩:=hp.head
    obtain ⟨q1,q2,q3⟩:=hq.head
    have hw : p.2 = q.2 := by
      rcases Int.lt_trichotomy p.2 q.2 with h|h|h
      . have := e p.2
        rw[p1,q3 _ h] at this
        exact absurd this p2
      . exact h
      . have := e q.2
        rw[q1,p3 _ h] at this
        exact absurd this.symm q2
    have ha:p.1=q.1:=by rw[<-p1,<- q1,e p.2,hw]
    have hpq:p=q:=Prod.ext ha hw
    subst hpq
    rw[canon_one hp.tail hq.tail fun w => by
      have:=e w
      rw[gf,gf] at this
      lia]
theorem Zhk {t:List (Int×Int)} {ms:List Int} (hn:ms.Nodup) (hs:ms.Pairwise (·<=·)):Canon (bO t ms):=by
 refine ⟨?_,fun p hp=>?_⟩
 .unfold bO
  rw[pairwise_map]
  refine List.Pairwise.filter _ ?_
  refine (hs.and hn).imp fun h=>?_
  have h1:=h.1
  have h2:=h.2
  show _ < _
  lia
 .unfold bO at hp
  obtain ⟨w,hw,rfl⟩:=bL.mp hp
  exact of_decide_eq_true (jP.mp hw).2
theorem ZkY {t:List (Int×Int)} {ms:List Int} (hn:ms.Nodup) (w:Int):atW (bO t ms) w=if w∈ms then aQ t w else 0:=by
 induction ms with
 | nil=>rfl
 | cons m ms ih =>
  obtain ⟨h1,h2⟩:=cP.mp hn
  have ih:=ih h2
  have e:bO t (m::ms)=(if aQ t m≠0 then [(aQ t m,m)] else [])++bO t ms:=by
   unfold bO
   by_cases h:aQ t m=0 <;> simp[h]
  rw[e,Zj6,ih]
  by_cases hw:m=w
  .subst hw
   rw[ah h1,ag bG]
   by_cases h:aQ t m=0
   .rw[ah (by simpa using h),h];rfl
   .rw[ag h,gf,ag rfl]
    show _+atW [] m+0=_
    rw[ie (fun j hq=>by cases hq)]
    lia
  .have e0:atW (if aQ t m≠0 then [(aQ t m,m)] else []) w=0:=by
    refine ie fun q hq=>?_
    split at hq
    .obtain rfl:=aN.mp hq
     exact hw
    .cases hq
   rw[e0]
   by_cases h:w∈ms
   .rw[ag h,ag (bE _ h)];lia
   .rw[ah h,ah (fun z=>(aG.mp z).elim (fun z=>hw z.symm) h)];lia
theorem Zh9 {t:List (Int×Int)} {ms:List Int} (hn:(t.map (·.1)).Nodup) (hp:ms.Perm (t.map (·.1))) (w:Int):atW (bO t ms) w=aQ t w:=by
 rw[ZkY (hp.nodup_iff.mpr hn)]
 by_cases h:w∈ms
 .rw[ag h]
 .rw[ah h,ve fun z=>h (hp.mem_iff.mpr z)]
end L2
namespace L2
open PySem
abbrev Frm:=Int×List (Int×Int)
def nthF (fl:List Frm) (w:Int):Frm:=fl.getD w.toNat (0,[])
def putC (c:Int) (ps:List (Int×Int)) (fl:List Frm):Int:=ps.foldl (fun c p=>c+p.1 * (nthF fl p.2).1) c
def cu (ps:List (Int×Int)) (fl:List Frm):List (Int×Int):=ps.foldl (fun t p=>aX t (nthF fl p.2).2 p.1) []
def putAt (ps:List (Int×Int)) (fl:List Frm) (w:Int):Int:=(ps.map fun p=>atW (nthF fl p.2).2 w * p.1).sum
theorem ZkP (c:Int) (ps:List (Int×Int)) (p:Int×Int) (fl:List Frm):putC c (ps++[p]) fl=putC c ps fl+p.1 * (nthF fl p.2).1:=by unfold putC;rw[j9];rfl
theorem jJ (ps:List (Int×Int)) (p:Int×Int) (fl:List Frm):cu (ps++[p]) fl=aX (cu ps fl) (nthF fl p.2).2 p.1:=by unfold cu;rw[j9];rfl
theorem ZjA (ps:List (Int×Int)) (p:Int×Int) (fl:List Frm) (w:Int):putAt (ps++[p]) fl w=putAt ps fl w+atW (nthF fl p.2).2 w * p.1:=by unfold putAt;simp
theorem k6 {α:Type} {C:List α->Prop} (h0:C []) (h1:∀ l a,C l->C (l++[a])) (l:List α):C l:=by
 have key:∀ (m:List α),C m.reverse:=by
  intro m
  induction m with
  | nil=>exact h0
  | cons a m ih=>rw[reverse_cons];exact h1 _ a ih
 have:=key l.reverse
 rwa [reverse_reverse] at this
theorem jd (ps:List (Int×Int)) (fl:List Frm):((cu ps fl).map (·.1)).Nodup:=by
 refine k6 (C:=fun ps=>((cu ps fl).map (·.1)).Nodup) eI (fun l a h=>?_) ps
 show ((cu (l++[a]) fl).map (·.1)).Nodup
 rw[jJ]
 exact fK _ _ h
theorem uK (ps:List (Int×Int)) (fl:List Frm) (w:Int):aQ (cu ps fl) w=putAt ps fl w:=by
 refine k6 (C:=fun ps=>aQ (cu ps fl) w=putAt ps fl w) rfl (fun l a h=>?_) ps
 show aQ (cu (l++[a]) fl) w=putAt (l++[a]) fl w
 rw[jJ,ZjA,gO,h]
end L2
end
section
namespace L2
open PySem PySem.Spec PyProof.Rows
def um:List V->Hp->VK->Prop:=fun xs H Q=>∃ (a:Addr) (kvs:List (Key×V)) (ns:List Int),xs=[.ref a]/\H a=some (.dK kvs)/\kvs.map (·.1)=ns.map Sum.inl /\
 ns.length < 64/\∀ (ms:List Int) p,ms.Perm ns->ms.Pairwise (·<=·)->H p=none->Q (.ref p) (upd H p (.lst (ms.map V.int)))
theorem uz {X:Cx} (hc:X.calm=true):bA X (.builtin "sorted") um:=by
 intro pins s Z H xs us Q I r h
 obtain ⟨a,kvs,ns,rfl,ha,hk,hsz,q⟩:=h
 obtain ⟨u,rfl,ru⟩:=vals1 r
 cases ru
 obtain ⟨hz,hS,vs,kv,hd⟩:=(show ObjOk X.prog X.w H s.heap a (.dK kvs) from I.hok a _ ha)
 obtain ⟨ep,hat⟩:=hd.dictAt
 have hlen:kvs.length=vs.length:=Paired.length kv
 refine Calls.call_function_entry (id kind_sorted) plain_sorted entry_sorted (args_sorted1 _) ?_
 unfold Builtin.«sorted»
 refine ab (m:=checkCount "sorted" 1 1 _) (am (id ?_))
 refine ab (PySem.W.kdu_collect (A:=X.A.in1) (PySem.W.kdl_dict (knd:=bC X.prog X.w) (kvs:=vs) (ep:=ep) hS) (I.ok.hd hc) hat (by lia) fun h' tk acc keep hacc=>?_)
 have hal:acc.toList.length=vs.length:=by rw[jQ];exact hacc.1
 have hints:IntsAre acc.toList ns:=by
  have key:∀ (j:Nat) v,acc.toList[j]?=some v->∃ n t,ns[j]?=some n/\v=Value.int n t:=by
   intro j v e
   obtain ⟨k,x,e1,e2⟩:=hacc.2 j v (by rw[<-Array.getElem?_toList];exact e)
   have e3:(kvs.map (·.1))[j]?=some k:=by
    obtain ⟨p,ep1,ep2⟩:=KV.at' kv e1
    rw[aj,ep1]
    exact congrArg some ep2
   rw[hk,aj] at e3
   obtain ⟨n,en,rfl⟩:=aH.mp e3
   obtain ⟨t,rfl⟩:=Value.isInt_shape (k:=n) (v:=v) e2
   exact ⟨n,t,en,rfl⟩
  exact tK (by rw[hal,<- hlen];have:=congrArg List.length hk;simpa using this) key
 have hroom:acc.toList.length<=sizeLine:=by lia
 refine ab (wpAny_newList (id ?_) hroom)
 have hD:(h'.push (seqObj "list" acc.toList.toArray 0)).get? h'.objs.size=some (seqObj "list" acc.toList.toArray 0):=bp _ rfl
 have hnl:ns.length=acc.toList.length:=hints.length.symm
 refine ab (cY (dD slot_list_sort ⟨_,hD,rfl⟩ entry_list_sort (Zou (z:={ s with heap:=h'.push (seqObj "list" acc.toList.toArray 0),toks:=tk }) hD hints hroom (fun h2 z'=>?_) fun out ms q1 q2 q3=>⟨_,rfl,?_⟩) (args_list_sort _)))
 .exact Zmx hints.intKeys (by rw[nZ];exact h2) (by rw[nZ,<- hnl];exact hsz)
 .refine am ⟨_,rfl,?_⟩
  generalize hF:sortedHeap (h'.push (seqObj "list" acc.toList.toArray 0)) h'.objs.size acc.toList out=hf
  have keepF:∀ b o,s.heap.get? b=some o->hf.get? b=some o:=fun b o e=>by
   have e1:=keep b o e
   have hlt:=aM e1
   rw[<-hF,sortedHeap_old (bc hlt) (by rw[size_push'];exact qZ hlt)]
   exact aJ _ e1
  have hne:∀ b o,s.heap.get? b=some o->b≠h'.objs.size:=fun b o e=>bc (aM (keep b o e))
  have hH:H h'.objs.size=none:=by
   cases e:H h'.objs.size with
   | none=>rfl
   | some o =>
    obtain ⟨o',e'⟩:=(I.hok _ o e).there
    exact absurd rfl (hne _ o' e')
  obtain ⟨ep2,hat2⟩:=sortedHeap_at (out:=out) hD
  rw[hF] at hat2
  have hml:ms.length=ns.length:=q2.length_eq
  refine ⟨.ref h'.objs.size,upd H h'.objs.size (.lst (ms.map V.int)),I.un (Un.track' (Un.kept keepF) hne hH) (HOk.track (I.hok.kept keepF) hH ⟨by rw[ai];lia,out.toList,ep2,sS q1,?_⟩),rfl,q ms _ q2 q3 hH⟩
  simpa using hat2
inductive T where
 | non|bl (b:Bool)|int (i:Int)|str (x:Str)|tup (ts:List T)|lst (ts:List T)|ptr (a:Addr)|cst (xs:List Str)
inductive Ct where
 | lst (ts:List T)|bag (l:Addr)|ins (C dx:Addr) (fs:List (Str×T))|own (x:Addr)|dn (kvs:List (List (List Key)×T))|tb (t:List (Int×Int))|dt (kvs:List (List Key×T))|dz (o:Obj) (vs:List (List Key×V)) (kvs:List (List Key×T))|dk (kvs:List (Key×T))
abbrev GH:=Addr->Option Ct
def gput (G:GH) (a:Addr) (c:Ct):GH:=fun b=>if b=a then some c else G b
def gdel (G:GH) (a:Addr):GH:=fun b=>if b=a then none else G b
section
variable {G:GH} {a b:Addr} {c c':Ct}
theorem gp_s:gput G a c a=some c:=ag rfl
theorem gp_n (h:b≠a):gput G a c b=G b:=ah h
theorem gp_p:gput (gput G a c) a c'=gput G a c':=by funext b;unfold gput;split <;> rfl
theorem gp_c (h:a≠b):gput (gput G a c) b c'=gput (gput G b c') a c:=by
 funext x;unfold gput;by_cases e:x=b <;> by_cases e':x=a <;> simp[e,e',h,Ne.symm h]
theorem gp_d (h:G a=none):gdel (gput G a c) a=G:=by
 funext b;unfold gdel gput;by_cases e:b=a
 .rw[ag e,e,h]
 .rw[ah e,ah e]
theorem g_ne {a b:Addr} (h:G a=some c) (h':G b=none):a≠b:=fun e=>by rw[e,h'] at h;cases h
theorem gp_id (h:G a=some c):gput G a c=G:=by
 funext b;unfold gput;by_cases e:b=a
 .rw[ag e,e,h]
 .rw[ah e]
end
def Key2 (H:Hp) (ks:List (List Key)) (b:Addr):Prop:=∃ rs:List Addr,H b=some (.tup (rs.map V.ref))/\Paired (fun (k:List Key) r=>H r=some (.tup (k.map kV))) ks rs
def dnO (P:Program) (w:World) (a:Addr) (kvs:List (List (List Key)×Addr×V)):HO:=.ext fun h=>(a == sysModules)=false/\kvs.length<=sizeLine/\∃ xs:List (List (List Key)×Addr×Value),
 Paired (fun (p:List (List Key)×Addr×V) (q:List (List Key)×Addr×Value)=>p.1=q.1/\p.2.1=q.2.1/\RelV p.2.2 q.2.2) kvs xs /\
 ∃ o es ep,h.get? a=some o/\o.ExactDict/\o.data=.dict es ep/\es.toList=xs.map (entryOfKey (io (bC P w)))/\(xs.map (·.1)).Nodup
section
variable (P:Program) (w:World) (K:W.Frag) (G:GH) (H:Hp)
mutual
inductive RepT:T->V->Prop
 | non:RepT .non .non
 | bl {b}:RepT (.bl b) (.bl b)
 | int {i}:RepT (.int i) (.int i)
 | str {x}:RepT (.str x) (.str x)
 | tup {a xs ts} (h:H a=some (.tup xs)) (r:RepTs ts xs):RepT (.tup ts) (.ref a)
 | lst {a xs ts} (g:G a=none) (h:H a=some (.lst xs)) (r:RepTs ts xs):RepT (.lst ts) (.ref a)
 | ptr {a}:RepT (.ptr a) (.ref a)
 | cst {a xs} (h:∀ H',SqT K H' a (xs.map V.str)):RepT (.cst xs) (.ref a)
inductive RepTs:List T->List V->Prop
 | nil:RepTs [] []
 | cons {t ts v vs} (h:RepT t v) (r:RepTs ts vs):RepTs (t::ts) (v::vs)
end
def COk (a:Addr):Ct->Prop
 | .lst ts=>∃ xs,H a=some (.lst xs)/\RepTs K G H ts xs
 | .bag l=>BagAt H a l/\G l=none
 | .ins C dx fs=>∃ fs',H a=some (.ins C dx fs')/\G dx=some (.own a)/\Paired (fun (p:Str×T) (q:Str×V)=>p.1=q.1/\RepT K G H p.2 q.2) fs fs'
 | .own x=>H a=some (.own x)
 | .tb t=>H a=some (.dK (kvT t))/\(t.map (·.1)).Nodup
 | .dt kvs=>∃ kvs',H a=some (.dT kvs')/\Paired (fun (p:List Key×T) (q:List Key×V)=>p.1=q.1/\RepT K G H p.2 q.2) kvs kvs'
 | .dz o vs kvs=>H a=some (.frz o (.dT vs))/\Paired (fun (p:List Key×T) (q:List Key×V)=>p.1=q.1/\RepT K G H p.2 q.2) kvs vs
 | .dk kvs=>∃ kvs',H a=some (.dK kvs')/\Paired (fun (p:Key×T) (q:Key×V)=>p.1=q.1/\RepT K G H p.2 q.2) kvs kvs'
 | .dn kvs=>∃ kvs',H a=some (dnO P w a kvs')/\Paired (fun (p:List (List Key)×T) (q:List (List Key)×Addr×V)=>p.1=q.1/\Key2 H p.1 q.2.1/\RepT K G H p.2 q.2.2) kvs kvs'
def GOk:Prop:=∀ a c,G a=some c->COk P w K G H a c
end
def Stp (G:GH) (H:Hp) (G':GH) (H':Hp):Prop:=∀ a o,G a=none->H a=some o->H' a=some o/\G' a=none
section
variable {P:Program} {w:World} {K:W.Frag} {G G1 G2 G':GH} {H H1 H2 H':Hp} {t:T} {ts us:List T} {v:V} {xs ys vs:List V} {a b:Addr} {c:Ct}
theorem Stp.refl:Stp G H G H:=fun j j g h=>⟨h,g⟩
theorem Stp.trans (s:Stp G H G1 H1) (t:Stp G1 H1 G2 H2):Stp G H G2 H2:=fun a o g h=>let ⟨h1,g1⟩:=s a o g h;t a o g1 h1
theorem Stp.same (s:Same H H'):Stp G H G H':=fun a o g h=>⟨s a o h,g⟩
theorem COk.ntup (x:COk P w K G H a c):(∃ o,H a=some o)/\∀ ys,H a≠some (.tup ys):=by
 cases c with
 | lst ts=>obtain ⟨xs,h,j⟩:=x;exact ⟨⟨_,h⟩,fun ys e=>by rw[h] at e;cases e⟩
 | bag l=>obtain ⟨xs,h⟩:=x.1.lst;exact ⟨⟨_,h⟩,fun ys e=>by rw[h] at e;cases e⟩
 | ins C dx fs=>obtain ⟨j,h,j⟩:=x;exact ⟨⟨_,h⟩,fun ys e=>by rw[h] at e;cases e⟩
 | tb t=>exact ⟨⟨_,x.1⟩,fun ys e=>by rw[x.1] at e;cases e⟩
 | own y=>have h:H a=some (.own y):=x;exact ⟨⟨_,h⟩,fun ys e=>by rw[h] at e;cases e⟩
 | dn kvs=>obtain ⟨j,h,j⟩:=x;exact ⟨⟨_,h⟩,fun ys e=>by rw[h] at e;cases e⟩
 | dt kvs=>obtain ⟨j,h,j⟩:=x;exact ⟨⟨_,h⟩,fun ys e=>by rw[h] at e;cases e⟩
 | dz o vs kvs=>exact ⟨⟨_,x.1⟩,fun ys e=>by rw[x.1] at e;cases e⟩
 | dk kvs=>obtain ⟨j,h,j⟩:=x;exact ⟨⟨_,h⟩,fun ys e=>by rw[h] at e;cases e⟩
theorem GOk.tup (g:GOk P w K G H) (h:H a=some (.tup xs)):G a=none:=by
 cases e:G a with
 | none=>rfl
 | some c=>exact absurd h ((g a c e).ntup.2 xs)
theorem GOk.free (g:GOk P w K G H) (h:H a=none):G a=none:=by
 cases e:G a with
 | none=>rfl
 | some c=>obtain ⟨o,q⟩:=(g a c e).ntup.1;rw[q] at h;cases h
def Kp (G:GH) (H:Hp) (G':GH) (H':Hp):Prop:=(∀ a xs,H a=some (.tup xs)->H' a=some (.tup xs))/\∀ a xs,G a=none->H a=some (.lst xs)->H' a=some (.lst xs)/\G' a=none
theorem Stp.kp (s:Stp G H G' H') (g:GOk P w K G H):Kp G H G' H':=⟨fun a xs h=>(s a _ (g.tup h) h).1,fun a xs n h=>s a _ n h⟩
mutual
theorem RepT.kp (s : Kp G H G' H') : ∀ {t : T} {v : V}, RepT K G H t v -> RepT K G' H' t v
  | _, _, h => by
    cases h with
    | tup h r => exact .tup (s.1 _ _ h) (RepTs.kp s r)
    | lst g h r => exact .lst (s.2 _ _ g h).2 (s.2 _ _ g h).1 (RepTs.kp s r)
    | cst h => exact .cst h
    | _ => constructor
theorem RepTs.kp (s : Kp G H G' H') : ∀ {t : List T} {v : List V}, RepTs K G H t v -> RepTs K G' H' t v
  | _, _, h => by
    cases h with
    | nil => exact .nil
    | cons h r => exact .cons (RepT.kp s h) (RepTs.kp s r)
end
theorem RepT.mono (r:RepT K G H t v) (g:GOk P w K G H) (s:Stp G H G' H'):RepT K G' H' t v:=r.kp (s.kp g)
theorem RepTs.mono (r:RepTs K G H ts xs) (g:GOk P w K G H) (s:Stp G H G' H'):RepTs K G' H' ts xs:=r.kp (s.kp g)
theorem RepTs.length:∀ {ts:List T} {xs:List V},RepTs K G H ts xs->ts.length=xs.length
 | _,_,.nil=>rfl
 | _,_,.cons _ r=>by rw[bz,bz,r.length]
theorem RepTs.get:∀ {ts:List T} {xs:List V} {i:Nat} {t:T},RepTs K G H ts xs->ts[i]?=some t->∃ v,xs[i]?=some v/\RepT K G H t v
 | _,_,0,_,.cons h _,e=>by cases e;exact ⟨_,rfl,h⟩
 | _,_,i+1,t,.cons _ r,e=>RepTs.get (i:=i) (t:=t) r e
theorem RepTs.app:∀ {ts us:List T} {xs ys:List V},RepTs K G H ts xs->RepTs K G H us ys->RepTs K G H (ts++us) (xs++ys)
 | _,_,_,_,.nil,q=>q
 | _,_,_,_,.cons h r,q=>.cons h (r.app q)
theorem RepTs.take:∀ {ts:List T} {xs:List V} (n:Nat),RepTs K G H ts xs->RepTs K G H (ts.take n) (xs.take n)
 | _,_,0,_=>.nil
 | _,_,n+1,.nil=>.nil
 | _,_,n+1,.cons h r=>.cons h (r.take n)
theorem RepTs.drop:∀ {ts:List T} {xs:List V} (n:Nat),RepTs K G H ts xs->RepTs K G H (ts.drop n) (xs.drop n)
 | _,_,0,r=>r
 | _,_,n+1,.nil=>.nil
 | _,_,n+1,.cons h r=>r.drop n
theorem RepTs.set:∀ {ts:List T} {xs:List V} (n:Nat),RepT K G H t v->RepTs K G H ts xs->RepTs K G H (ts.set n t) (xs.set n v)
 | _,_,_,q,.nil=>.nil
 | _,_,0,q,.cons h r=>.cons q r
 | _,_,n+1,q,.cons h r=>.cons h (r.set n q)
theorem f9 {α β:Type} {F F':α->β->Prop} (f:∀ a b,F a b->F' a b) {l:List α} {m:List β} (r:Paired F l m):Paired F' l m:=Paired.mapP r f
theorem vk {ks:List (List Key)} (t:pi H H') (k:Key2 H ks b):Key2 H' ks b:=let ⟨rs,h,r⟩:=k;⟨rs,t _ _ h,f9 (fun j j q=>t _ _ q) r⟩
theorem COk.kp (x:COk P w K G H a c) (s:Kp G H G' H') (h:∀ o,H a=some o->H' a=some o) (hb:∀ l,c=.bag l->(∀ o,H l=some o->H' l=some o)/\(G l=none->G' l=none)) (ho:∀ C dx fs,c=.ins C dx fs->G dx=some (.own a)->G' dx=some (.own a)):COk P w K G' H' a c:=by
 cases c with
 | lst ts=>obtain ⟨xs,e,r⟩:=x;exact ⟨xs,h _ e,r.kp s⟩
 | bag l =>
  obtain ⟨⟨xs,i,m,st,c,h1,h2,r⟩,g⟩:=x
  exact ⟨⟨xs,i,m,st,c,h _ h1,(hb l rfl).1 _ h2,r⟩,(hb l rfl).2 g⟩
 | ins C dx fs=>obtain ⟨fs',e,g,r⟩:=x;exact ⟨fs',h _ e,ho C dx fs rfl g,f9 (fun p q z=>⟨z.1,z.2.kp s⟩) r⟩
 | own y=>exact h _ x
 | tb t=>exact ⟨h _ x.1,x.2⟩
 | dt kvs=>obtain ⟨kvs',e,r⟩:=x;exact ⟨kvs',h _ e,f9 (fun p q z=>⟨z.1,z.2.kp s⟩) r⟩
 | dz o vs kvs=>exact ⟨h _ x.1,f9 (fun p q z=>⟨z.1,z.2.kp s⟩) x.2⟩
 | dk kvs=>obtain ⟨kvs',e,r⟩:=x;exact ⟨kvs',h _ e,f9 (fun p q z=>⟨z.1,z.2.kp s⟩) r⟩
 | dn kvs=>obtain ⟨kvs',e,r⟩:=x;exact ⟨kvs',h _ e,f9 (fun p q z=>⟨z.1,vk s.1 z.2.1,z.2.2.kp s⟩) r⟩
theorem BagAt.lo {l:Addr} (B:BagAt H a l):∃ o,H l=some o:=let ⟨_,_,_,_,_,_,h,_⟩:=B.ex;⟨_,h⟩
theorem GOk.same (g:GOk P w K G H) (s:Same H H'):GOk P w K G H':=fun a c e=>(g a c e).kp ((Stp.same s).kp g) (fun o=>s a o) (fun l j=>⟨fun o=>s l o,id⟩) fun j j j j=>id
theorem GOk.put {o:HO} (g:GOk P w K G H) (h:(∃ c,G a=some c)\/H a=none) (hc:COk P w K (gput G a c) (upd H a o) a c) (hl:∀ b l,b≠a->G b=some (.bag l)->l≠a) (hd:∀ b C dx fs,b≠a->G b=some (.ins C dx fs)->dx≠a):GOk P w K (gput G a c) (upd H a o)/\Stp G H (gput G a c) (upd H a o):=by
 have ne:∀ b u,G b=none->H b=some u->b≠a:=fun b u gb hb e=>by
  subst e
  rcases h with ⟨c,h⟩|h
  .rw[gb] at h;cases h
  .rw[hb] at h;cases h
 have st:Stp G H (gput G a c) (upd H a o):=fun b u gb hb=>⟨by rw[aP (ne b u gb hb)];exact hb,by rw[gp_n (ne b u gb hb)];exact gb⟩
 refine ⟨fun b c' e=>?_,st⟩
 by_cases hb:b=a
 .subst hb;rw[gp_s] at e;cases e;exact hc
 .rw[gp_n hb] at e
  refine (g b c' e).kp (st.kp g) (fun u q=>by rw[aP hb];exact q) (fun l z=>?_) fun C dx fs z q=>?_
  .subst z
   have:=hl b l hb e
   exact ⟨fun u q=>by rw[aP this];exact q,fun q=>by rw[gp_n this];exact q⟩
  .subst z
   rw[gp_n (hd b C dx fs hb e)];exact q
theorem GOk.putL {ts':List T} {xs':List V} (g:GOk P w K G H) (h:(∃ us,G a=some (.lst us))\/H a=none) (r:RepTs K G H ts' xs'):GOk P w K (gput G a (.lst ts')) (upd H a (.lst xs'))/\Stp G H (gput G a (.lst ts')) (upd H a (.lst xs')):=by
 have h':(∃ c,G a=some c)\/H a=none:=h.imp (fun ⟨us,e⟩=>⟨_,e⟩) id
 have ga:∀ c,G a=some c->∃ us,c=.lst us:=fun c e=>by
  rcases h with ⟨us,h⟩|h
  .rw[h] at e;cases e;exact ⟨us,rfl⟩
  .rw[g.free h] at e;cases e
 have ne:∀ b u,G b=none->H b=some u->b≠a:=fun b u gb hb e=>by
  subst e
  rcases h' with ⟨c,h⟩|h
  .rw[gb] at h;cases h
  .rw[hb] at h;cases h
 have st:Stp G H (gput G a (.lst ts')) (upd H a (.lst xs')):=fun b u gb hb=>⟨by rw[aP (ne b u gb hb)];exact hb,by rw[gp_n (ne b u gb hb)];exact gb⟩
 refine g.put h' ⟨xs',bh,r.mono g st⟩ (fun b l hb e z=>?_) (fun b C dx fs hb e z=>?_)
 .subst z
  obtain ⟨o,q⟩:=(g b _ e).1.lo
  exact ne _ o (g b _ e).2 q rfl
 .subst z
  obtain ⟨j,j,q,j⟩:=g b _ e
  obtain ⟨us,z⟩:=ga _ q
  cases z
end
end L2
end
section
namespace L2
open PySem PySem.Spec PyProof.Rows
abbrev Ev:=List (Option T)
section
variable (P:Program) (w:World) (K:W.Frag)
structure EnvOk (G:GH) (H:Hp) (Z:St) (Γ:Ev):Prop where
 len:Z.length=Γ.length
 at':∀ (i:Nat) (t:T),Γ[i]?=some (some t)->∃ v,Z[i]?=some (some v)/\RepT K G H t v
def Pst (G:GH) (H:Hp) (k:T->GH->Prop) (Q:VK):Prop:=∀ v H' d G',Stp G H G' H'->GOk P w K G' H'->RepT K G' H' d v->k d G'->Q v H'
def We (t:TE) (Γ:Ev) (G:GH) (k:T->GH->Prop):Prop:=∀ H Z,GOk P w K G H->EnvOk K G H Z Γ->∀ Q,Pst P w K G H k Q->t Z H Q
def Wt (t:TT) (Γ:Ev) (G:GH) (k:Bool->GH->Prop):Prop:=∀ H Z,GOk P w K G H->EnvOk K G H Z Γ->∀ Q,(∀ b H' G',Stp G H G' H'->GOk P w K G' H'->k b G'->Q b H')->t Z H Q
def Wa (t:TA) (Γ:Ev) (G:GH) (k:List T->GH->Prop):Prop:=∀ H Z,GOk P w K G H->EnvOk K G H Z Γ->∀ Q,(∀ vs H' ds G',Stp G H G' H'->GOk P w K G' H'->RepTs K G' H' ds vs->k ds G'->Q vs H')->t Z H Q
def Pn (G:GH) (H:Hp) (k:Ev->GH->Prop) (R:St->Hp->Prop):Prop:=∀ σ' H' Γ' G',Stp G H G' H'->GOk P w K G' H'->EnvOk K G' H' σ' Γ'->k Γ' G'->R σ' H'
structure EndT where
 nx:Ev->GH->Prop
 rt:T->GH->Prop
 bk:Ev->GH->Prop:=fun _ _=>False
 ct:Ev->GH->Prop:=fun _ _=>False
structure EOkT (G:GH) (H:Hp) (D:EndT) (D':Ends):Prop where
 nx:Pn P w K G H D.nx D'.nx
 rt:Pst P w K G H D.rt D'.rt
 bk:Pn P w K G H D.bk D'.bk
 ct:Pn P w K G H D.ct D'.ct
def Ws (t:TS) (Γ:Ev) (G:GH) (D:EndT):Prop:=∀ H Z,GOk P w K G H->EnvOk K G H Z Γ->∀ D',EOkT P w K G H D D'->t D' Z H
def Wg (g:TG) (d:T) (Γ:Ev) (G:GH) (k:Ev->GH->Prop):Prop:=∀ H Z v,GOk P w K G H->EnvOk K G H Z Γ->RepT K G H d v->∀ R,Pn P w K G H k R->g v Z H R
def Wgs (g:TGs) (ds:List T) (Γ:Ev) (G:GH) (k:Ev->GH->Prop):Prop:=∀ H Z vs,GOk P w K G H->EnvOk K G H Z Γ->RepTs K G H ds vs->∀ R,Pn P w K G H k R->g vs Z H R
def L2r (r:R2) (x y:T) (G:GH) (k:T->GH->Prop):Prop:=∀ H u v,GOk P w K G H->RepT K G H x u->RepT K G H y v->∀ Q,Pst P w K G H k Q->r u v H Q
def L1r (r:V->Hp->VK->Prop) (x:T) (G:GH) (k:T->GH->Prop):Prop:=∀ H u,GOk P w K G H->RepT K G H x u->∀ Q,Pst P w K G H k Q->r u H Q
def LNr (r:List V->Hp->VK->Prop) (xs:List T) (G:GH) (k:T->GH->Prop):Prop:=∀ H us,GOk P w K G H->RepTs K G H xs us->∀ Q,Pst P w K G H k Q->r us H Q
def IsIt (G:GH) (H:Hp) (J:It) (xs:List T) (kp:GH->Prop):Prop:=∀ G' H',Stp G H G' H'->GOk P w K G' H'->kp G'->(∀ (i:Nat) x,xs[i]?=some x->J.go i H'/\∀ v H2,J.yld i H' v H2->Same H' H2/\RepT K G' H2 x v)/\J.stop xs.length H'
def Wo (t:TO) (Γ:Ev) (G:GH) (k:Option Int->GH->Prop):Prop:=∀ H Z,GOk P w K G H->EnvOk K G H Z Γ->∀ Q,(∀ b H' G',Stp G H G' H'->GOk P w K G' H'->k b G'->Q b H')->t Z H Q
def Wi (t:TI) (Γ:Ev) (G:GH) (k:List T->(GH->Prop)->GH->Prop):Prop:=∀ H Z,GOk P w K G H->EnvOk K G H Z Γ->∀ Q,(∀ J H' xs kp G',Stp G H G' H'->GOk P w K G' H'->IsIt P w K G' H' J xs kp->k xs kp G'->Q J H')->t Z H Q
end
theorem eT {A B:Prop} (h:if true=true then A else B):A:=by simpa using h
theorem eO {A B:Prop} (h:if false=true then A else B):B:=by simpa using h
section
variable {P:Program} {w:World} {K:W.Frag} {G G1 G2 G':GH} {H H1 H2 H':Hp} {a:Addr} {Γ:Ev} {Z:St} {ta tb tc te:TE} {k:T->GH->Prop} {kb:Bool->GH->Prop} {ka:List T->GH->Prop} {kn:Ev->GH->Prop} {Q:VK} {d x y:T} {i:Nat} {D:EndT} {t u:TS} {c c2:TT} {tr:TA} {r r':R2} {g:TG} {gs:TGs} {ds xs:List T}
theorem EnvOk.mono (e:EnvOk K G H Z Γ) (g:GOk P w K G H) (s:Stp G H G' H'):EnvOk K G' H' Z Γ:=⟨e.len,fun i t q=>let ⟨v,h,r⟩:=e.at' i t q;⟨v,h,r.mono g s⟩⟩
theorem EnvOk.set {v:V} (e:EnvOk K G H Z Γ) (r:RepT K G H d v):EnvOk K G H (Z.set i (some v)) (Γ.set i (some d)):=by
 refine ⟨by rw[bQ,bQ,e.len],fun j t q=>?_⟩
 by_cases h:i=j
 .subst h
  have hi:i < Γ.length:=by have:=(ay.mp q).1;rwa [bQ] at this
  rw[cO hi] at q
  cases q
  exact ⟨v,cO (by rw[e.len];exact hi),r⟩
 .rw[cy h] at q ⊢
  exact e.at' j t q
theorem Pst.mono (p:Pst P w K G H k Q) (s:Stp G H G' H'):Pst P w K G' H' k Q:=fun v H2 d G2 s2 g r q=>p v H2 d G2 (s.trans s2) g r q
theorem Pn.mono {R:St->Hp->Prop} (p:Pn P w K G H kn R) (s:Stp G H G' H'):Pn P w K G' H' kn R:=fun v H2 d G2 s2 g r q=>p v H2 d G2 (s.trans s2) g r q
theorem EOkT.mono {D':Ends} (e:EOkT P w K G H D D') (s:Stp G H G' H'):EOkT P w K G' H' D D':=⟨e.nx.mono s,e.rt.mono s,e.bk.mono s,e.ct.mono s⟩
theorem Pst.here {v:V} (p:Pst P w K G H k Q) (g:GOk P w K G H) (r:RepT K G H d v) (q:k d G):Q v H:=p v H d G .refl g r q
theorem Pst.new {p:Addr} {o:HO} (z:Pst P w K G H k Q) (g:GOk P w K G H) (hp:H p=none) (q:k d G) (r:Same H (upd H p o)->GOk P w K G (upd H p o)->G p=none->RepT K G (upd H p o) d (.ref p)):Q (.ref p) (upd H p o) :=
 z _ _ d G (.same (.new hp)) (g.same (.new hp)) (r (.new hp) (g.same (.new hp)) (g.free hp)) q
theorem Pst.tup {p:Addr} {vs:List V} (z:Pst P w K G H k Q) (g:GOk P w K G H) (hp:H p=none) (rs:RepTs K G H ds vs) (q:k (.tup ds) G):Q (.ref p) (upd H p (.tup vs)):=z.new g hp q fun s j j=>.tup bh (rs.mono g (.same s))
theorem Pst.lst {p:Addr} {vs:List V} (z:Pst P w K G H k Q) (g:GOk P w K G H) (hp:H p=none) (rs:RepTs K G H ds vs) (q:k (.lst ds) G):Q (.ref p) (upd H p (.lst vs)):=z.new g hp q fun s j n=>.lst n bh (rs.mono g (.same s))
theorem eU (e:Γ[i]?=some (some d)) (q:k d G):We P w K (tVar i) Γ G k:=fun H Z g ev Q z=>let ⟨v,h,r⟩:=ev.at' i d e;⟨v,h,z.here g r q⟩
theorem ii {n:Int} (q:k (.int n) G):We P w K (tC (.int n)) Γ G k:=fun H Z g ev Q z=>z.here g .int q
theorem jC {n:Str} (q:k (.str n) G):We P w K (tC (.str n)) Γ G k:=fun H Z g ev Q z=>z.here g .str q
theorem mR {n:Bool} (q:k (.bl n) G):We P w K (tC (.bl n)) Γ G k:=fun H Z g ev Q z=>z.here g .bl q
theorem jD (q:k .non G):We P w K (tC .non) Γ G k:=fun H Z g ev Q z=>z.here g .non q
theorem jm (h:We P w K ta Γ G fun x G1=>We P w K tb Γ G1 fun y G2=>L2r P w K r x y G2 k):We P w K (tOp r ta tb) Γ G k:=fun H Z g ev Q z=>h H Z g ev _ fun v H1 x G1 s1 g1 r1 q1=>q1 H1 Z g1 (ev.mono g s1) _ fun u H2 y G2 s2 g2 r2 q2=>q2 H2 v u g2 (r1.mono g1 s2) r2 Q (z.mono (s1.trans s2))
theorem mI {r:V->Hp->VK->Prop} (h:We P w K ta Γ G fun x G1=>L1r P w K r x G1 k):We P w K (tUn r ta) Γ G k:=fun H Z g ev Q z=>h H Z g ev _ fun v H1 x G1 s1 g1 r1 q1=>q1 H1 v g1 r1 Q (z.mono s1)
theorem fI (h:ka [] G):Wa P w K tNil Γ G ka:=fun H Z g ev Q z=>z [] H [] G .refl g .nil h
theorem jw (h:We P w K ta Γ G fun x G1=>Wa P w K tr Γ G1 fun xs G2=>ka (x::xs) G2):Wa P w K (bd ta tr) Γ G ka:=fun H Z g ev Q z=>h H Z g ev _ fun v H1 x G1 s1 g1 r1 q1=>q1 H1 Z g1 (ev.mono g s1) _ fun us H2 xs G2 s2 g2 r2 q2=>z _ H2 _ G2 (s1.trans s2) g2 (.cons (r1.mono g1 s2) r2) q2
theorem lR (h:Wa P w K tr Γ G fun ts G1=>ts.length<=1000/\k (.tup ts) G1):We P w K (tTup tr) Γ G k:=fun H Z g ev Q z=>h H Z g ev _ fun vs H1 ts G1 s1 g1 r1 q1=>⟨iq (by rw[<-r1.length];exact q1.1),fun p hp=>(z.mono s1).tup g1 hp r1 q1.2⟩
theorem mn (h:Wa P w K tr Γ G fun ts G1=>ts.length<=1000/\k (.lst ts) G1):We P w K (tLst tr) Γ G k:=fun H Z g ev Q z=>h H Z g ev _ fun vs H1 ts G1 s1 g1 r1 q1=>⟨iq (by rw[<-r1.length];exact q1.1),fun p hp=>(z.mono s1).lst g1 hp r1 q1.2⟩
theorem gm (h:Wa P w K tr Γ G fun ts G1=>ts.length<=1000/\∀ a,G1 a=none->k (.ptr a) (gput G1 a (.lst ts))):We P w K (tLst tr) Γ G k:=fun H Z g ev Q z=>h H Z g ev _ fun vs H1 ts G1 s1 g1 r1 q1=>⟨iq (by rw[<-r1.length];exact q1.1),fun p hp =>
 let ⟨g2,s2⟩:=g1.putL (.inr hp) r1;z _ _ _ _ (s1.trans s2) g2 .ptr (q1.2 p (g1.free hp))⟩
theorem k7 {rr:List V->Hp->VK->Prop} (h:Wa P w K tr Γ G fun xs G1=>LNr P w K rr xs G1 k):We P w K (tCB rr tr) Γ G k:=fun H Z g ev Q z=>h H Z g ev _ fun us H1 xs G1 s1 g1 r1 q1=>q1 H1 us g1 r1 Q (z.mono s1)
theorem mS {sp:Sp} {E:XK} (h:Wa P w K tr Γ G fun xs G1=>LNr P w K (fun vs H Q=>sp vs H Q E) xs G1 k):We P w K (gi sp [] E tr) Γ G k:=fun H Z g ev Q z=>h H Z g ev _ fun us H1 xs G1 s1 g1 r1 q1=>by rw[bH];exact q1 H1 us g1 r1 Q (z.mono s1)
theorem lq {rr:V->Option Int->Option Int->Hp->VK->Prop} {tl th:TO} (h:We P w K te Γ G fun x G1=>Wo P w K tl Γ G1 fun l G2=>Wo P w K th Γ G2 fun u G3=>L1r P w K (fun v H Q=>rr v l u H Q) x G3 k):We P w K (tSl rr te tl th) Γ G k:=fun H Z g ev Q z =>
 h H Z g ev _ fun v H1 x G1 s1 g1 r1 q1=>q1 H1 Z g1 (ev.mono g s1) _ fun l H2 G2 s2 g2 q2=>q2 H2 Z g2 (ev.mono g (s1.trans s2)) _ fun u H3 G3 s3 g3 q3=>q3 H3 v g3 (r1.mono g1 (s2.trans s3)) Q (z.mono (s1.trans (s2.trans s3)))
theorem ny {ko:Option Int->GH->Prop} (h:ko none G):Wo P w K pf Γ G ko:=fun H Z g ev Q z=>z none H G .refl g h
theorem ni {ko:Option Int->GH->Prop} (h:We P w K te Γ G fun x G1=>∃ i,x=.int i/\ko (some i) G1):Wo P w K (qJ te) Γ G ko:=fun H Z g ev Q z=>h H Z g ev _ fun v H1 x G1 s1 g1 r1 ⟨i,e,q⟩=>by subst e;cases r1;exact ⟨i,rfl,z _ _ _ s1 g1 q⟩
theorem iY (h:We P w K te Γ G fun x G1=>∃ b,x=.bl b/\kb b G1):Wt P w K (o6 te) Γ G kb:=fun H Z g ev Q z=>h H Z g ev _ fun v H1 x G1 s1 g1 r1 ⟨b,e,q⟩=>by subst e;cases r1;exact ⟨b,rfl,z _ _ _ s1 g1 q⟩
theorem wt_b (h:We P w K te Γ G fun x G1=>∃ b,x=.bl b/\kb b G1):Wt P w K (tB te) Γ G kb:=fun H Z g ev Q z=>h H Z g ev _ fun v H1 x G1 s1 g1 r1 ⟨b,e,q⟩=>by subst e;cases r1;exact ⟨b,rfl,z _ _ _ s1 g1 q⟩
theorem me (h:Wt P w K c Γ G fun b G1=>if b=true then Wt P w K c2 Γ G1 kb else kb false G1):Wt P w K (tAnd c c2) Γ G kb:=fun H Z g ev Q z=>h H Z g ev _ fun b H1 G1 s1 g1 q1=>by
 cases b with
 | true=>exact iteT ((eT q1) H1 Z g1 (ev.mono g s1) Q fun b H2 G2 s2=>z b H2 G2 (s1.trans s2))
 | false=>exact iteF (z _ _ _ s1 g1 (eO q1))
theorem nH (h:Wt P w K c Γ G fun b G1=>if b=true then kb true G1 else Wt P w K c2 Γ G1 kb):Wt P w K (tOr c c2) Γ G kb:=fun H Z g ev Q z=>h H Z g ev _ fun b H1 G1 s1 g1 q1=>by
 cases b with
 | true=>exact iteT (z _ _ _ s1 g1 (eT q1))
 | false=>exact iteF ((eO q1) H1 Z g1 (ev.mono g s1) Q fun b H2 G2 s2=>z b H2 G2 (s1.trans s2))
theorem lL (h:Wt P w K c Γ G fun b G1=>kb (!b) G1):Wt P w K (tNot c) Γ G kb:=fun H Z g ev Q z=>h H Z g ev _ fun b H1 G1 s1 g1 q1=>z _ _ _ s1 g1 q1
theorem i3 (h:kb true G):Wt P w K gG Γ G kb:=fun H Z g ev Q z=>z _ _ _ .refl g h
theorem lF (h:We P w K ta Γ G fun x G1=>∃ b,x=.bl b/\if b=true then We P w K tb Γ G1 k else k (.bl false) G1):We P w K (tAndV ta tb) Γ G k:=fun H Z g ev Q z=>h H Z g ev _ fun v H1 x G1 s1 g1 r1 ⟨b,e,q⟩=>by
 subst e;cases r1
 refine ⟨b,rfl,?_⟩
 cases b with
 | true=>exact iteT ((eT q) H1 Z g1 (ev.mono g s1) Q (z.mono s1))
 | false=>exact iteF ((z.mono s1).here g1 .bl (eO q))
theorem l6 (h:We P w K ta Γ G fun x G1=>∃ b,x=.bl b/\if b=true then k (.bl true) G1 else We P w K tb Γ G1 k):We P w K (tOrV ta tb) Γ G k:=fun H Z g ev Q z=>h H Z g ev _ fun v H1 x G1 s1 g1 r1 ⟨b,e,q⟩=>by
 subst e;cases r1
 refine ⟨b,rfl,?_⟩
 cases b with
 | true=>exact iteT ((z.mono s1).here g1 .bl (eT q))
 | false=>exact iteF ((eO q) H1 Z g1 (ev.mono g s1) Q (z.mono s1))
theorem k5 (h:We P w K ta Γ G fun x G1=>∃ b,x=.bl b/\k (.bl (!b)) G1):We P w K (tNotV ta) Γ G k:=fun H Z g ev Q z=>h H Z g ev _ fun v H1 x G1 s1 g1 r1 ⟨b,e,q⟩=>by subst e;cases r1;exact ⟨b,rfl,(z.mono s1).here g1 .bl q⟩
theorem lM (h:Wt P w K c Γ G fun b G1=>if b=true then We P w K ta Γ G1 k else We P w K tb Γ G1 k):We P w K (tIf c ta tb) Γ G k:=fun H Z g ev Q z=>h H Z g ev _ fun b H1 G1 s1 g1 q1=>by
 cases b with
 | true=>exact iteT ((eT q1) H1 Z g1 (ev.mono g s1) Q (z.mono s1))
 | false=>exact iteF ((eO q1) H1 Z g1 (ev.mono g s1) Q (z.mono s1))
theorem jK (h:D.nx Γ G):Ws P w K qu Γ G D:=fun H Z g ev D' z=>z.nx Z H Γ G .refl g ev h
theorem bI (h:Ws P w K t Γ G { D with nx:=fun Γ' G'=>Ws P w K u Γ' G' D }):Ws P w K (tSeq t u) Γ G D:=fun H Z g ev D' z=>h H Z g ev _ ⟨fun σ' H' Γ' G' s g' e' q=>q H' σ' g' e' D' (z.mono s),z.rt,z.bk,z.ct⟩
theorem bR (h:We P w K te Γ G fun d G1=>Wg P w K g d Γ G1 D.nx):Ws P w K (tAsg te g) Γ G D:=fun H Z g ev D' z=>h H Z g ev _ fun v H1 x G1 s1 g1 r1 q1=>q1 H1 Z v g1 (ev.mono g s1) r1 _ (z.nx.mono s1)
theorem br (h:kn (Γ.set i (some d)) G):Wg P w K (dg i) d Γ G kn:=fun H Z v g ev r R z=>z _ H _ G .refl g (ev.set r) h
theorem im (h:kn Γ G):Wgs P w K gNil [] Γ G kn:=fun H Z v g ev r R z=>by cases r;exact ⟨rfl,z _ H _ G .refl g ev h⟩
theorem fY (h:Wg P w K g d Γ G fun Γ' G'=>Wgs P w K gs ds Γ' G' kn):Wgs P w K (gCons g gs) (d::ds) Γ G kn:=fun H Z vs g ev r R z=>by
 cases r with
 | cons r1 r2=>exact ⟨_,_,rfl,h H Z _ g ev r1 _ fun σ' H' Γ' G' s g' e' q=>q H' σ' _ g' e' (r2.mono g s) R (z.mono s)⟩
theorem bW {n:Nat} (hl:ds.length=n) (h:Wgs P w K gs ds Γ G kn):Wg P w K (gTup K n gs) (.tup ds) Γ G kn:=fun H Z v g ev r R z=>by
 cases r with
 | tup ha rs=>exact ⟨_,_,rfl,SqT.of ha,by rw[<-rs.length];exact hl,h H Z _ g ev rs R z⟩
theorem ic (h:Wt P w K c Γ G fun b G1=>if b=true then Ws P w K t Γ G1 D else Ws P w K u Γ G1 D):Ws P w K (tIfS c t u) Γ G D:=fun H Z g ev D' z=>h H Z g ev _ fun b H1 G1 s1 g1 q1=>by
 cases b with
 | true=>exact iteT ((eT q1) H1 Z g1 (ev.mono g s1) D' (z.mono s1))
 | false=>exact iteF ((eO q1) H1 Z g1 (ev.mono g s1) D' (z.mono s1))
theorem lv (h:We P w K te Γ G fun j G1=>D.nx Γ G1):Ws P w K (tDrop te) Γ G D:=fun H Z g ev D' z=>h H Z g ev _ fun v H1 x G1 s1 g1 r1 q1=>z.nx Z H1 Γ G1 s1 g1 (ev.mono g s1) q1
theorem lI (h:D.bk Γ G):Ws P w K uy Γ G D:=fun H Z g ev D' z=>z.bk Z H Γ G .refl g ev h
theorem GOk.del (g:GOk P w K G H) (hl:∀ x,G a≠some (.own x)):GOk P w K (gdel G a) H:=fun b c e=>by
 have hb:b≠a:=fun z=>by subst z;unfold gdel at e;rw[ag rfl] at e;cases e
 have e':G b=some c:=by unfold gdel at e;rwa [ah hb] at e
 have kk:Kp G H (gdel G a) H:=⟨fun j j h=>h,fun c xs n h=>⟨h,by unfold gdel;split <;> first|rfl|exact n⟩⟩
 refine (g b c e').kp kk (fun j h=>h) (fun l j=>⟨fun j h=>h,fun q=>by unfold gdel;split <;> first|rfl|exact q⟩) fun C dx fs z q=>?_
 unfold gdel
 rw[ah]
 .exact q
 .intro z
  subst z
  exact hl _ q
def Cl (k:T->GH->Prop) (d:T) (G:GH):Prop:=∃ d' G',(∀ c,G c=none->G' c=none)/\(∀ P w K H v,GOk P w K G H->RepT K G H d v->GOk P w K G' H/\RepT K G' H d' v)/\k d' G'
theorem ar (h:k d G):Cl k d G:=⟨d,G,fun j h=>h,fun j j j j j g r=>⟨g,r⟩,h⟩
theorem tM {ts:List T}:Kp G H (gdel G a) H:=⟨fun j j h=>h,fun c xs n h=>⟨h,by unfold gdel;split <;> first|rfl|exact n⟩⟩
theorem ix {ts:List T} (n:G a=none) (h:Cl k (.lst ts) G):Cl k (.ptr a) (gput G a (.lst ts)):=by
 obtain ⟨d',G',h1,h2,h3⟩:=h
 refine ⟨d',G',fun c q=>h1 c ?_,fun P w K H v g r=>?_,h3⟩
 .by_cases e:c=a
  .rw[e];exact n
  .rwa [gp_n e] at q
 .cases r
  have gd:=g.del (a:=a) fun x e=>by rw[gp_s] at e;cases e
  obtain ⟨xs,e,rs⟩:=g a _ gp_s
  have rs:=rs.kp (tM (ts:=ts) (a:=a))
  rw[gp_d n] at gd rs
  exact h2 P w K H _ gd (.lst n e rs)
theorem da {c0:Ct} (n:G a=none) (ho:∀ x,c0≠.own x) (h:Cl k d G):Cl k d (gput G a c0):=by
 obtain ⟨d',G',h1,h2,h3⟩:=h
 refine ⟨d',G',fun c q=>h1 c ?_,fun P w K H v g r=>?_,h3⟩
 .by_cases e:c=a
  .rw[e];exact n
  .rwa [gp_n e] at q
 .have gd:=g.del (a:=a) fun x e=>by rw[gp_s] at e;cases e;exact ho _ rfl
  have rs:=r.kp (tM (ts:=[]) (a:=a))
  rw[gp_d n] at gd rs
  exact h2 P w K H _ gd rs
theorem fz (h:We P w K te Γ G (Cl D.rt)):Ws P w K (tRet te) Γ G D:=fun H Z g ev D' z=>h H Z g ev _ fun v H1 x G1 s1 g1 r1 ⟨d',G',h1,h2,h3⟩ =>
 let ⟨g2,r2⟩:=h2 P w K H1 v g1 r1;z.rt v H1 d' G' (fun a o n e=>⟨(s1 a o n e).1,h1 a (s1 a o n e).2⟩) g2 r2 h3
def Cn (k:Ev->GH->Prop) (Γ:Ev) (G:GH):Prop:=∃ G',(∀ c,G c=none->G' c=none)/\(∀ P w K H,GOk P w K G H->GOk P w K G' H)/\k Γ G'
theorem bB (h:kn Γ G):Cn kn Γ G:=⟨G,fun j h=>h,fun j j j j g=>g,h⟩
theorem ZpA {c0:Ct} (n:G a=none) (ho:∀ x,c0≠.own x) (h:Cn kn Γ G):Cn kn Γ (gput G a c0):=by
 obtain ⟨G',h1,h2,h3⟩:=h
 refine ⟨G',fun c q=>h1 c ?_,fun P w K H g=>h2 P w K H ?_,h3⟩
 .by_cases e:c=a
  .rw[e];exact n
  .rwa [gp_n e] at q
 .have gd:=g.del (a:=a) fun x e=>by rw[gp_s] at e;cases e;exact ho _ rfl
  rwa [gp_d n] at gd
theorem Pn.cn {R:St->Hp->Prop} (p:Pn P w K G H kn R):Pn P w K G H (Cn kn) R:=fun σ' H' Γ' G' s g e ⟨G2,h1,h2,h3⟩=>p σ' H' Γ' G2 (fun a o n q=>⟨(s a o n q).1,h1 a (s a o n q).2⟩) (h2 _ _ _ _ g) ⟨e.len,fun i t q=>let ⟨v,hv,r⟩:=e.at' i t q;⟨v,hv,r.kp ⟨fun j j h=>h,fun c xs n h=>⟨h,h1 c n⟩⟩⟩⟩ h3
theorem hV {wi:TI} (h:Wi P w K wi Γ G fun xs kp G1=>∃ I:Nat->Ev->GH->Prop,I 0 Γ G1/\(∀ i Γ' G',I i Γ' G'->kp G')/\(∀ (i:Nat) x Γ' G',xs[i]?=some x->I i Γ' G'->Wg P w K g x Γ' G' fun Γ2 G2=>Ws P w K t Γ2 G2 { D with nx:=Cn (I (i+1)),ct:=Cn (I (i+1)),bk:=D.nx })/\∀ Γ' G',I xs.length Γ' G'->D.nx Γ' G'):Ws P w K (tFor wi g t) Γ G D:=fun H Z g ev D' z =>
 h H Z g ev _ fun J H1 xs kp G1 s1 g1 it z0_=>by
  obtain ⟨I,i0,hk,hs,hd⟩:=z0_
  refine ⟨fun i m Z H=>∃ Γ' G',m=xs.length - i/\i<=xs.length/\Stp G1 H1 G' H/\GOk P w K G' H/\EnvOk K G' H Z Γ'/\I i Γ' G',⟨_,Γ,G1,rfl,bg _,.refl,g1,ev.mono g s1,i0⟩,?_⟩
  rintro i m Z H ⟨Γ',G',rfl,hi,s2,g2,e2,p⟩
  obtain ⟨j1,j2⟩:=it G' H s2 g2 (hk i Γ' G' p)
  by_cases hlt:i < xs.length
  .obtain ⟨jg,jy⟩:=j1 i xs[i] (ax hlt)
   refine .inr ⟨jg,fun σ' H'=>∃ Γ' G',Stp G1 H1 G' H'/\GOk P w K G' H'/\EnvOk K G' H' σ' Γ'/\I (i+1) Γ' G',fun σ' H' z1_=>by obtain ⟨Γ',G',q1,q2,q3,q4⟩:=z1_;exact ⟨_,by lia,Γ',G',rfl,hlt,q1,q2,q3,q4⟩,fun x H' y=>?_⟩
   obtain ⟨sm,rx⟩:=jy x H' y
   have nn:Pn P w K G' H' (I (i+1)) fun σ' H'=>∃ Γ' G',Stp G1 H1 G' H'/\GOk P w K G' H'/\EnvOk K G' H' σ' Γ'/\I (i+1) Γ' G':=fun σ' H3 Γ3 G3 s3 g3 e3 q3=>⟨Γ3,G3,s2.trans ((Stp.same sm).trans s3),g3,e3,q3⟩
   refine hs i _ Γ' G' (ax hlt) p H' Z x (g2.same sm) (e2.mono g2 (.same sm)) rx _ fun σ3 H3 Γ3 G3 s3 g3 e3 q3=>q3 H3 σ3 g3 e3 _ ?_
   have s4:=s1.trans (s2.trans ((Stp.same sm).trans s3))
   exact ⟨(nn.mono s3).cn,z.rt.mono s4,z.nx.mono s4,(nn.mono s3).cn⟩
  .have e:i=xs.length:=by lia
   subst e
   exact .inl ⟨j2,z.nx Z H Γ' G' (s1.trans s2) g2 e2 (hd Γ' G' p)⟩
theorem oV {LN:List Str} {fr:List Nat} (e:EnvOk K G H Z Γ):EnvOk K G H (fj LN fr Z) (List.replicate LN.length none++fr.map fun j=>(Γ[j]?).getD none):=by
 unfold fj
 refine ⟨by simp,fun i t q=>?_⟩
 by_cases h:i < LN.length
 .rw[bN (by simpa using h)] at q
  simp[jS,h] at q
 .rw[fM (by simpa using h),jU,aj] at q
  rw[fM (by simpa using h),jU,aj]
  cases hf:fr[i - LN.length]? with
  | none=>rw[hf] at q;cases q
  | some j =>
   rw[hf] at q
   simp only[ff,Option.some.injEq] at q ⊢
   cases hg:Γ[j]? with
   | none=>rw[hg] at q;cases q
   | some o =>
    rw[hg] at q
    simp only[iP] at q
    subst q
    obtain ⟨v,e1,e2⟩:=e.at' j t hg
    exact ⟨v,by rw[e1];rfl,e2⟩
abbrev bkE (n:Nat) (fr:List Nat) (Γ:Ev):Ev:=List.replicate n none++fr.map fun j=>(Γ[j]?).getD none
theorem fJ {LN:List Str} {fr:List Nat} {wi:TI} {tt:TT} (h:Wi P w K wi Γ G fun xs kp G1=>xs.length<=100000/\∃ I:Nat->List T->Ev->GH->Prop,I 0 [] (bkE LN.length fr Γ) G1/\(∀ i acc Γ' G',I i acc Γ' G'->kp G') /\
   (∀ (i:Nat) x acc Γ' G',xs[i]?=some x->I i acc Γ' G'->Wg P w K g x Γ' G' fun Γ2 G2=>Wt P w K tt Γ2 G2 fun b G3=>if b=true then We P w K te Γ2 G3 (fun d G4=>I (i+1) (acc++[d]) Γ2 G4) else I (i+1) acc Γ2 G3) /\
   ∀ acc Γ' G',I xs.length acc Γ' G'->k (.lst acc) G'):We P w K (ee LN fr wi g tt te) Γ G k:=fun H Z g ev Q z =>
 h H Z g ev _ fun J H1 xs kp G1 s1 g1 it z0_=>by
  obtain ⟨hz,I,i0,hk,hs,hd⟩:=z0_
  refine lK xs.length (gF (by lia)) (fun i ys Z H=>∃ acc Γ' G',Stp G1 H1 G' H/\GOk P w K G' H/\EnvOk K G' H Z Γ'/\RepTs K G' H acc ys/\I i acc Γ' G') ⟨[],_,G1,.refl,g1,oV (ev.mono g s1),.nil,i0⟩ ?_ ?_ ?_ ?_
  .rintro i ys Z H hi ⟨acc,Γ',G',s2,g2,e2,r2,p⟩
   exact ((it G' H s2 g2 (hk _ _ _ _ p)).1 i xs[i] (ax hi)).1
  .rintro ys Z H ⟨acc,Γ',G',s2,g2,e2,r2,p⟩
   exact (it G' H s2 g2 (hk _ _ _ _ p)).2
  .rintro i x ys Z H H' hi hy hy2 ⟨acc,Γ',G',s2,g2,e2,r2,p⟩ y
   obtain ⟨sm,rx⟩:=((it G' H s2 g2 (hk _ _ _ _ p)).1 i xs[i] (ax hi)).2 x H' y
   refine hs i _ acc Γ' G' (ax hi) p H' Z x (g2.same sm) (e2.mono g2 (.same sm)) rx _ fun σ3 H3 Γ3 G3 s3 g3 e3 q3=>q3 H3 σ3 g3 e3 _ fun b H4 G4 s4 g4 q4=>?_
   have r4:=r2.mono g2 ((Stp.same sm).trans (s3.trans s4))
   have st4:=s2.trans ((Stp.same sm).trans (s3.trans s4))
   cases b with
   | true =>
    refine iteT ((eT q4) H4 σ3 g4 (e3.mono g3 s4) _ fun v H5 d G5 s5 g5 r5 q5=>⟨hy2,by rw[aA];simpa using hy,?_⟩)
    exact ⟨acc++[d],Γ3,G5,st4.trans s5,g5,e3.mono g3 (s4.trans s5),(r4.mono g4 s5).app (.cons r5 .nil),q5⟩
   | false=>exact iteF ⟨by lia,acc,Γ3,G4,st4,g4,e3.mono g3 s4,r4,eO q4⟩
  .rintro ys Z H hl ⟨acc,Γ',G',s2,g2,e2,r2,p⟩ q hq
   exact (z.mono (s1.trans s2)).lst g2 hq r2 (hd acc Γ' G' p)
end
section
variable {X:Cx}
def rAll (K:W.Frag):List V->Hp->VK->Prop:=fun xs H Q=>∃ (a:Addr) (bs:List Bool),xs=[.ref a]/\SqL K H a (bs.map V.bl)/\Q (.bl (bs.all id)) H
theorem all_range (bs:List Bool):(List.range bs.length).all (fun i=>bs.getD i false)=bs.all id:=by
 rw[fL,j3,j3]
 constructor
 .intro h b hb
  obtain ⟨j,hj,rfl⟩:=getElem_of_mem hb
  have:=h j (cN.mpr hj)
  simpa [hj] using this
 .intro h j hj
  have hj:=cN.mp hj
  have:=h bs[j] (iQ hj)
  simpa [hj] using this
theorem Zl1 (hc:X.calm=true):bA X (.builtin "all") (rAll X.K):=by
 intro pins s Z H xs us Q I r h
 obtain ⟨a,bs,rfl,ha,q⟩:=h
 obtain ⟨u,rfl,ru⟩:=vals1 r
 cases ru
 obtain ⟨its,vx,ht,j⟩:=I.list ha
 have hlen:=vx.length
 rw[ai] at hlen
 have hlt:a < s.heap.objs.size:=by obtain ⟨j,e,j⟩:=ht.isList;exact aM e
 refine call_all_walk (nT ht.isList ?_)
 refine ⟨_,_,_,_,_,_,fun i=>bs.getD i false,rfl,Walks.list (A:=X.A.in1) (I.ok.hd hc) _ a (bc hlt) its.toArray,⟨⟨_,bp _ rfl,rfl,rfl⟩,ht.isList.push _⟩,?_,fun h' tk hk=>?_⟩
 .intro i v s' Q' E' hv hq
  have hv':its[i]?=some v:=by simpa using hv
  have hi:=(ay.mp hv').1
  have hib:i < bs.length:=by lia
  obtain ⟨u',eu,ru⟩:=vx.get (i:=i) (x:=.bl bs[i]) (by rw[aj,ax hib];rfl)
  rw[hv'] at eu
  cases eu
  cases ru
  have e:bs.getD i false=bs[i]:=by simp[hib]
  have hq:Q' (bs.getD i false) s':=hq
  rw[e] at hq
  exact gt hq
 .have hsz:its.toArray.size=bs.length:=by simp;lia
  rw[hsz,all_range]
  refine ⟨.bl _,H,I.kept fun b o e=>?_,rfl,q⟩
  refine hk b o (fun hm=>?_) (aJ _ e)
  have:b=s.heap.objs.size:=by simpa using hm
  rw[this] at e
  exact absurd (aM e) (gq _)
theorem k_all {K:W.Frag} (h:X.K=K) (hc:X.calm=true):bA X (.builtin "all") (rAll K):=h▸Zl1 hc
end
def cutT (ts:List T) (lo hi:Option Int):List T:=(ts.drop (HT.sIx ts.length 0 lo)).take (HT.sIx ts.length ts.length hi - HT.sIx ts.length 0 lo)
theorem ZoA {α:Type} (n:Nat) (v:α):(List.replicate n [v]).flatten=List.replicate n v:=by
 induction n with
 | zero=>rfl
 | succ n ih=>rw[gY,jY,ih,gY];rfl
def SqI (G:GH) (x:T) (ts:List T):Prop:=x=.lst ts\/∃ a,x=.ptr a/\G a=some (.lst ts)
def SqG (G:GH) (x:T) (ts:List T):Prop:=x=.tup ts\/SqI G x ts
section
variable {P:Program} {w:World} {K:W.Frag} {G G1 G2 G':GH} {H H1 H2 H':Hp} {a:Addr} {Γ:Ev} {Z:St} {ta tb tc te to ti:TE} {k:T->GH->Prop} {kb:Bool->GH->Prop} {ka:List T->GH->Prop} {kn:Ev->GH->Prop} {Q:VK} {d x y z:T} {D:EndT} {t u:TS} {c c2:TT} {tr:TA} {r r':R2} {g:TG} {gs:TGs} {ds ts us xs:List T} {i j:Int} {v:V}
theorem RepTs.cut {vs:List V} {lo hi:Option Int} (r:RepTs K G H ts vs):RepTs K G H (cutT ts lo hi) (cutV vs lo hi):=by unfold cutT cutV;rw[r.length];exact (r.drop _).take _
theorem hZ (g:GOk P w K G H) (s:SqG G x ts) (r:RepT K G H x v):∃ a vs,v=.ref a/\RepTs K G H ts vs/\(H a=some (.lst vs)\/H a=some (.tup vs)):=by
 rcases s with rfl|rfl|⟨a,rfl,e⟩
 .cases r with|tup h q=>exact ⟨_,_,rfl,q,.inr h⟩
 .cases r with|lst _ h q=>exact ⟨_,_,rfl,q,.inl h⟩
 .cases r
  obtain ⟨vs,h,q⟩:=g a _ e
  exact ⟨_,vs,rfl,q,.inl h⟩
theorem bK (g:GOk P w K G H) (s:SqI G x ts) (r:RepT K G H x v):∃ a vs,v=.ref a/\RepTs K G H ts vs/\H a=some (.lst vs):=by
 rcases s with rfl|⟨a,rfl,e⟩
 .cases r with|lst _ h q=>exact ⟨_,_,rfl,q,h⟩
 .cases r
  obtain ⟨vs,h,q⟩:=g a _ e
  exact ⟨_,vs,rfl,q,h⟩
theorem si_l:SqI G (.lst ts) ts:=.inl rfl
theorem si_p (h:G a=some (.lst ts)):SqI G (.ptr a) ts:=.inr ⟨a,rfl,h⟩
theorem iX (h:SqI G x ts):SqG G x ts:=.inr h
theorem sg_t:SqG G (.tup ts) ts:=.inl rfl
theorem sg_l:SqG G (.lst ts) ts:=.inr (.inl rfl)
theorem sg_p (h:G a=some (.lst ts)):SqG G (.ptr a) ts:=.inr (.inr ⟨a,rfl,h⟩)
theorem l_II {f:Int->Int->Int} (h:k (.int (f i j)) G):L2r P w K (rI0 fun i j=>V.int (f i j)) (.int i) (.int j) G k:=fun H u v g r1 r2 Q z=>by cases r1;cases r2;exact ⟨i,j,rfl,rfl,z.here g .int h⟩
theorem l_IB {f:Int->Int->Bool} (h:k (.bl (f i j)) G):L2r P w K (rI0 fun i j=>V.bl (f i j)) (.int i) (.int j) G k:=fun H u v g r1 r2 Q z=>by cases r1;cases r2;exact ⟨i,j,rfl,rfl,z.here g .bl h⟩
theorem l_IC {C:Int->Int->Prop} {f:Int->Int->Int} (hc:C i j) (h:k (.int (f i j)) G):L2r P w K (rI C fun i j=>V.int (f i j)) (.int i) (.int j) G k:=fun H u v g r1 r2 Q z=>by cases r1;cases r2;exact ⟨i,j,rfl,rfl,hc,z.here g .int h⟩
theorem l_U {f:Int->Int} (h:k (.int (f i)) G):L1r P w K (rU fun i=>V.int (f i)) (.int i) G k:=fun H u g r1 Q z=>by cases r1;exact ⟨i,rfl,z.here g .int h⟩
theorem my (h:k (.bl (decide (i=j))) G):L2r P w K rEq (.int i) (.int j) G k:=fun H u v g r1 r2 Q z=>by cases r1;cases r2;exact sI (z.here g .bl h)
theorem m4 (h:k (.bl (!decide (i=j))) G):L2r P w K rNe (.int i) (.int j) G k:=fun H u v g r1 r2 Q z=>by cases r1;cases r2;exact rE (z.here g .bl h)
theorem lO {i j:Str} (h:k (.bl (decide (i=j))) G):L2r P w K rEq (.str i) (.str j) G k:=fun H u v g r1 r2 Q z=>by cases r1;cases r2;exact sv (z.here g .bl h)
theorem ly {i j:Str} (h:k (.bl (!decide (i=j))) G):L2r P w K rNe (.str i) (.str j) G k:=fun H u v g r1 r2 Q z=>by cases r1;cases r2;exact tL (z.here g .bl h)
def T.isN:T->Bool|.non=>true|_=>false
theorem RepT.isN (r:RepT K G H x v):decide (v=.non)=x.isN:=by cases r <;> rfl
theorem kA (h:k (.bl x.isN) G):L2r P w K rIsN x .non G k:=fun H u v g r1 r2 Q z=>by cases r2;exact ⟨rfl,by rw[r1.isN];exact z.here g .bl h⟩
theorem i5 (h:k (.bl (!x.isN)) G):L2r P w K rNotN x .non G k:=fun H u v g r1 r2 Q z=>by cases r2;exact ⟨rfl,by rw[r1.isN];exact z.here g .bl h⟩
theorem l_ix (s:SqG G x ts) (e:atI ts i=some d) (h:k d G):L2r P w K (rIxA K) x (.int i) G k:=fun H u v g r1 r2 Q z=>by
 cases r2
 obtain ⟨a,vs,rfl,rs,ha⟩:=hZ g s r1
 have:∃ v,atI vs i=some v/\RepT K G H d v:=by
  unfold atI at e ⊢
  rw[rs.length] at e
  cases q:ixN vs.length i with
  | none=>rw[q] at e;cases e
  | some j=>rw[q] at e;exact rs.get e
 obtain ⟨v,e2,rv⟩:=this
 rcases ha with ha|ha
 .exact cC ha e2 (z.here g rv h)
 .exact ZoF ha e2 (z.here g rv h)
theorem dh (s:SqG G x ts) (h:k (.int ts.length) G):LNr P w K (rLen K) [x] G k:=fun H us g r Q z=>by
 cases r with
 | cons r1 r2 =>
  cases r2
  obtain ⟨a,vs,rfl,rs,ha⟩:=hZ g s r1
  rcases ha with ha|ha
  .exact vj (SqL.of ha) (by rw[<-rs.length];exact z.here g .int h)
  .exact ZmA (SqT.of ha) (by rw[<-rs.length];exact z.here g .int h)
theorem oY {lo hi:Option Int} (s:SqI G x ts) (h:k (.lst (cutT ts lo hi)) G):L1r P w K (fun v H Q=>rSlL K v lo hi H Q) x G k:=fun H u g r1 Q z=>by
 obtain ⟨a,vs,rfl,q,e⟩:=bK g s r1
 exact o8 (SqL.of e) fun p hp=>z.lst g hp q.cut h
theorem kI {lo hi:Option Int} (h:k (.tup (cutT ts lo hi)) G):L1r P w K (fun v H Q=>rSlW K v lo hi H Q) (.tup ts) G k:=fun H u g r1 Q z=>by
 cases r1 with|tup e q=>exact rd_slW e fun p H' e' s=>z _ _ _ _ (.same s) (g.same s) (.tup e' (q.cut.mono g (.same s))) h
theorem qt (hz:ts.length+us.length<=1000000) (h:k (.tup (ts++us)) G):L2r P w K (lU K) (.tup ts) (.tup us) G k:=fun H u v g r1 r2 Q z=>by
 cases r1 with|tup e q=>cases r2 with|tup e2 q2=>exact ZoJ e e2 (by rw[<-q.length,<- q2.length];exact hz) fun p H' e' s=>z _ _ _ _ (.same s) (g.same s) (.tup e' ((q.app q2).mono g (.same s))) h
theorem fG (s:SqI G x ts) (s2:SqI G y us) (hz:ts.length+us.length<=1000000) (h:k (.lst (ts++us)) G):L2r P w K rCat x y G k:=fun H u v g r1 r2 Q z=>by
 obtain ⟨a,vs,rfl,q,e⟩:=bK g s r1
 obtain ⟨b,ws,rfl,q2,e2⟩:=bK g s2 r2
 exact uV e e2 (gF (by rw[<-q.length,<- q2.length];exact hz)) fun p hp=>z.lst g hp (q.app q2) h
theorem dM (s:SqG G x ts) (n:∀ ts,x≠.tup ts) (h:k (.tup ts) G):LNr P w K (jl K) [x] G k:=fun H us g r Q z=>by
 cases r with
 | cons r1 r2 =>
  cases r2
  rcases s with rfl|rfl|⟨a,rfl,e⟩
  .exact absurd rfl (n _)
  .cases r1 with|lst _ e q=>exact uh (SqL.of e) fun p hp=>z.tup g hp q h
  .cases r1
   obtain ⟨vs,e',q⟩:=g a _ e
   exact uh (SqL.of e') fun p hp=>z.tup g hp q h
theorem Zpc (s:SqG G x ts) (h:k (.lst ts) G):LNr P w K (nG K) [x] G k:=fun H us g r Q z=>by
 cases r with
 | cons r1 r2 =>
  cases r2
  obtain ⟨a,vs,rfl,rs,ha⟩:=hZ g s r1
  exact ⟨a,vs,rfl,ha.imp SqL.of SqT.of,fun p hp=>z.lst g hp rs h⟩
theorem Zm3 (s:SqG G x ts) (h:∀ a,G a=none->k (.ptr a) (gput G a (.lst ts))):LNr P w K (nG K) [x] G k:=fun H us g r Q z=>by
 cases r with
 | cons r1 r2 =>
  cases r2
  obtain ⟨a,vs,rfl,rs,ha⟩:=hZ g s r1
  refine ⟨a,vs,rfl,ha.imp SqL.of SqT.of,fun p hp=>?_⟩
  obtain ⟨g2,s2⟩:=g.putL (.inr hp) rs
  exact z _ _ _ _ s2 g2 .ptr (h p (g.free hp))
theorem RepTs.repl:∀ (n:Nat),RepT K G H d v->RepTs K G H (List.replicate n d) (List.replicate n v)
 | 0,_=>.nil
 | n+1,r=>.cons r (RepTs.repl n r)
theorem l_rep (h1:-1000<=i) (h2:i<=1000) (h:k (.lst (List.replicate i.toNat d)) G):L2r P w K rRep (.lst [d]) (.int i) G k:=fun H u v g r1 r2 Q z=>by
 cases r2
 cases r1 with
 | lst _ e q =>
  cases q with
  | cons q1 q2 =>
   cases q2
   refine ⟨_,i,_,rfl,rfl,e,by lia,by lia,by rw[fc,Nat.one_mul];exact iq (by lia),fun p hp=>?_⟩
   have:True:=trivial
   rw[ZoA]
   exact z.lst g hp (RepTs.repl _ q1) h
def TyG (T:String) (G:GH) (x:L2.T):Prop:=T="list"/\∃ ts,(x=.lst ts\/∃ a,x=.ptr a/\G a=some (.lst ts))
theorem tyg (T:String) (g:GOk P w K G H) (s:TyG T G x) (r:RepT K G H x v):tyV K T v H:=by
 obtain ⟨rfl,ts,s⟩:=s
 rcases s with rfl|⟨a,rfl,e⟩
 .cases r with|lst _ h q=>exact .inl ⟨rfl,_,SqL.of h⟩
 .cases r
  obtain ⟨vs,h,q⟩:=g a _ e
  exact .inl ⟨rfl,_,SqL.of h⟩
def LBr (P:Program) (w:World) (K:W.Frag) (r:V->List V->Hp->VK->Prop) (x:T) (ys:List T) (G:GH) (k:T->GH->Prop):Prop:=∀ H u vs,GOk P w K G H->RepT K G H x u->RepTs K G H ys vs->∀ Q,Pst P w K G H k Q->r u vs H Q
theorem mV {T:String} {rr:V->List V->Hp->VK->Prop} (h:We P w K to Γ G fun x G1=>TyG T G1 x/\Wa P w K tr Γ G1 fun ys G2=>LBr P w K rr x ys G2 k):We P w K (tBM K T rr to tr) Γ G k:=fun H Z g ev Q z=>h H Z g ev _ fun v H1 x G1 s1 g1 r1 q1=>⟨tyg T g1 q1.1 r1,q1.2 H1 Z g1 (ev.mono g s1) _ fun us H2 ys G2 s2 g2 r2 q2=>q2 H2 v us g2 (r1.mono g1 s2) r2 Q (z.mono (s1.trans s2))⟩
theorem ty_p (h:G a=some (.lst ts)):TyG "list" G (.ptr a):=⟨rfl,ts,.inr ⟨a,rfl,h⟩⟩
theorem d7 (e:G a=some (.lst ts)) (hl:ts.length < 1000000) (h:k .non (gput G a (.lst (ts++[y])))):LBr P w K qv (.ptr a) [y] G k:=fun H u vs g r1 r2 Q z=>by
 cases r1
 cases r2 with
 | cons q1 q2 =>
  cases q2
  obtain ⟨xs,h1,rs⟩:=g a _ e
  obtain ⟨g2,s2⟩:=g.putL (.inl ⟨_,e⟩) (rs.app (.cons q1 .nil))
  refine ZkK h1 ?_ (z _ _ _ _ s2 g2 .non h)
  rw[<-rs.length]
  rw[PySem.sizeLine_eq]
  lia
theorem l_ext (e:G a=some (.lst ts)) (hl:ts.length+us.length<=1000000) (h:k .non (gput G a (.lst (ts++us)))):LBr P w K tT (.ptr a) [.lst us] G k:=fun H u vs g r1 r2 Q z=>by
 cases r1
 cases r2 with
 | cons q1 q2 =>
  cases q2
  cases q1 with
  | lst _ h2 r2 =>
   obtain ⟨xs,h1,rs⟩:=g a _ e
   obtain ⟨g2,s2⟩:=g.putL (.inl ⟨_,e⟩) (rs.app r2)
   exact ⟨a,_,xs,_,rfl,rfl,h1,h2,gF (by rw[<-rs.length,<- r2.length];exact hl),z _ _ _ _ s2 g2 .non h⟩
theorem jf (h:We P w K to Γ G fun o G1=>We P w K ti Γ G1 fun x G2=>∃ a ts i j,o=.ptr a/\x=.int i/\G2 a=some (.lst ts)/\ixN ts.length i=some j/\kn Γ (gput G2 a (.lst (ts.set j d)))):Wg P w K (gSub to ti jv) d Γ G kn:=fun H Z v g ev rv R z =>
 h H Z g ev _ fun o H1 x G1 s1 g1 r1 q1=>q1 H1 Z g1 (ev.mono g s1) _ fun iv H2 y G2 s2 g2 r2 z0_=>by
  obtain ⟨a,ts,i,j,e1,e2,ea,ej,q⟩:=z0_
  subst e1 e2
  cases r1;cases r2
  obtain ⟨xs,h1,rs⟩:=g2 a _ ea
  have s12:=s1.trans s2
  obtain ⟨g3,s3⟩:=g2.putL (.inl ⟨_,ea⟩) (rs.set j (rv.mono g s12))
  exact ⟨a,xs,i,j,rfl,rfl,h1,by rw[<-rs.length];exact ej,z _ _ _ _ (s12.trans s3) g3 (ev.mono g (s12.trans s3)) q⟩
theorem rR : ∀ {ss : List Str} {vs : List V}, RepTs K G H (ss.map T.str) vs -> vs = ss.map V.str
  | [], _, r => by cases r; rfl
  | s :: ss, _, r => by
    cases r with
    | cons r1 r2 => cases r1; rw[rR r2]; rfl
theorem vO (s:Str) (ss:List Str):inV (.str s) (ss.map V.str)=ss.contains s:=by
 induction ss with
 | nil=>rfl
 | cons x xs ih =>
  unfold inV at ih ⊢
  rw[aF,fO,ih,contains_cons]
  show (x == s || _)=_
  rw[Bool.beq_comm]
theorem vE (ss:List Str):(ss.map V.str).all dL=true:=by induction ss <;> simp_all [dL]
theorem mC {s:Str} {ss:List Str} (h:k (.bl (ss.contains s)) G):L2r P w K (rIn K false) (.str s) (.cst ss) G k:=fun H u v g r1 r2 Q z=>by
 cases r1;cases r2 with|cst e=>exact ⟨_,_,rfl,.inr (e H),rfl,vE _,by rw[vO];exact z.here g .bl h⟩
theorem gH {neg:Bool} {s:Str} {ss:List Str} (hs:SqG G y (ss.map T.str)) (h:k (.bl (if neg then !ss.contains s else ss.contains s)) G):L2r P w K (rIn K neg) (.str s) y G k:=fun H u v g r1 r2 Q z=>by
 cases r1
 obtain ⟨a,vs,rfl,rs,ha⟩:=hZ g hs r2
 rw[rR rs] at ha
 exact ⟨a,_,rfl,ha.imp SqL.of SqT.of,rfl,vE _,by rw[vO];exact z.here g .bl h⟩
theorem jt {ss:List Str} (h:k (.cst ss) G):We P w K (tCT K (ss.map V.str)) Γ G k:=fun H Z g ev Q z a e=>z.here g (.cst e) h
theorem ia {kx:List T->(GH->Prop)->GH->Prop} (h:We P w K te Γ G fun x G1=>∃ ts,SqI G1 x ts/\kx ts (fun G'=>SqI G' x ts) G1):Wi P w K (nQ K te) Γ G kx:=fun H Z g ev Q z=>h H Z g ev _ fun v H1 x G1 s1 g1 r1 ⟨ts,e,q⟩=>by
 obtain ⟨a,vs,rfl,rs,h1⟩:=bK g1 e r1
 refine ⟨a,rfl,⟨vs,SqL.of h1⟩,z _ _ ts _ _ s1 g1 (fun G' H' s' g' kp=>?_) q⟩
 obtain ⟨a',vs',ea,r',l'⟩:=bK g' kp (r1.mono g1 s')
 cases ea
 refine ⟨fun i x e=>?_,⟨vs',SqL.of l',eE r'.length.symm⟩⟩
 obtain ⟨u,eu,ru⟩:=r'.get e
 exact ⟨⟨vs',u,SqL.of l',eu⟩,fun v H2 ⟨e2,y⟩=>by subst e2;have:=y vs' (SqL.of l');rw[eu] at this;cases this;exact ⟨.refl _,ru⟩⟩
theorem mQ {kx:List T->(GH->Prop)->GH->Prop} (h:We P w K te Γ G fun x G1=>∃ ts,x=.tup ts/\kx ts (fun j=>True) G1):Wi P w K (iTup K te) Γ G kx:=fun H Z g ev Q z=>h H Z g ev _ fun v H1 x G1 s1 g1 r1 ⟨ts,e,q⟩=>by
 subst e
 cases r1 with
 | @tup a vs _ h1 rs =>
  refine ⟨a,rfl,⟨vs,SqT.of h1⟩,z _ _ ts _ _ s1 g1 (fun G' H' s' g' j=>?_) q⟩
  have l':=(s' a _ (g1.tup h1) h1).1
  have r':=rs.mono g1 s'
  refine ⟨fun i x e=>?_,⟨vs,SqT.of l',eE rs.length.symm⟩⟩
  obtain ⟨u,eu,ru⟩:=r'.get e
  exact ⟨⟨vs,u,SqT.of l',eu⟩,fun v H2 ⟨e2,y⟩=>by subst e2;have:=y vs (SqT.of l');rw[eu] at this;cases this;exact ⟨.refl _,ru⟩⟩
def rngT (n:Nat):List T:=(List.range n).map fun (i:Nat)=>T.int (i:Int)
theorem kS {kx:List T->(GH->Prop)->GH->Prop} (h:Wa P w K tr Γ G fun xs G1=>∃ j:Int,xs=[.int j]/\j<=1000000/\-1000000<=j/\kx (rngT j.toNat) (fun u=>True) G1):Wi P w K (pW tr) Γ G kx:=fun H Z g ev Q z=>h H Z g ev _ fun vs H1 xs G1 s1 g1 r1 ⟨j,e,h1,h2,q⟩=>by
 subst e
 cases r1 with
 | cons r1 r2 =>
  cases r1;cases r2
  refine ⟨j,rfl,by lia,by lia,z _ _ _ _ _ s1 g1 (fun G' H' s' g' u=>⟨fun i x e=>?_,?_⟩) q⟩
  .unfold rngT at e
   rw[aj] at e
   obtain ⟨m,em,rfl⟩:=aH.mp e
   obtain ⟨hi,ei⟩:=ay.mp em
   rw[getElem_range] at ei
   rw[cH] at hi
   subst ei
   exact ⟨hi,fun v H2 ⟨e2,y⟩=>by subst e2 y;rw[j8];exact ⟨.refl _,.int⟩⟩
  .show j.toNat<=(rngT j.toNat).length
   unfold rngT
   rw[ai,cH]
   exact aq _
theorem kD {kx:List T->(GH->Prop)->GH->Prop} (h:Wa P w K tr Γ G fun xs G1=>∃ x ts,xs=[x]/\SqI G1 x ts/\kx (ts.zipIdx.map fun p=>.tup [.int p.2,p.1]) (fun G'=>SqI G' x ts) G1):Wi P w K (qE K tr) Γ G kx:=fun H Z g ev Q z=>h H Z g ev _ fun vs H1 xs G1 s1 g1 r1 z0_=>by
 obtain ⟨x,ts,e,e1,q⟩:=z0_
 subst e
 cases r1 with
 | cons r1 r2 =>
  cases r2
  obtain ⟨a,vs,rfl,rs,h1⟩:=bK g1 e1 r1
  refine ⟨a,rfl,⟨vs,SqL.of h1⟩,z _ _ _ _ _ s1 g1 (fun G' H' s' g' kp=>?_) q⟩
  obtain ⟨a',vs',ea,r',l'⟩:=bK g' kp (r1.mono g1 s')
  cases ea
  refine ⟨fun i x e=>?_,⟨vs',SqL.of l',by rw[ai,iR];exact eE r'.length.symm⟩⟩
  rw[aj] at e
  obtain ⟨⟨d,m⟩,em,rfl⟩:=aH.mp e
  rw[iS] at em
  obtain ⟨d',ed,e3⟩:=aH.mp em
  cases e3
  obtain ⟨u,eu,ru⟩:=r'.get ed
  refine ⟨⟨vs',u,SqL.of l',eu⟩,fun v H2 z1_=>?_⟩
  obtain ⟨T,y,e1,e2,e3,e4⟩:=z1_
  subst e3 e4
  have:=e1 vs' (SqL.of l')
  rw[eu] at this
  cases this
  have sm:=Same.new (o:=.tup [.int i,u]) e2
  refine ⟨sm,.tup bh (.cons ?_ (.cons (ru.mono g' (.same sm)) .nil))⟩
  rw[oj]
  exact .int
theorem m3 {kx:List T->(GH->Prop)->GH->Prop} (h:Wa P w K tr Γ G fun xs G1=>∃ x y ts us,xs=[x,y]/\SqI G1 x ts/\SqI G1 y us/\kx ((ts.zip us).map fun p=>.tup [p.1,p.2]) (fun G'=>SqI G' x ts/\SqI G' y us) G1):Wi P w K (iZip K tr) Γ G kx:=fun H Z g ev Q z=>h H Z g ev _ fun vs H1 xs G1 s1 g1 r1 z0_=>by
 obtain ⟨x,y,ts,us,e,e1,e2,q⟩:=z0_
 subst e
 cases r1 with
 | cons r1 r2 =>
  cases r2 with
  | cons r2 r3 =>
  cases r3
  obtain ⟨a,vs,rfl,rs,h1⟩:=bK g1 e1 r1
  obtain ⟨b,ws,rfl,rs2,h2⟩:=bK g1 e2 r2
  refine ⟨a,b,rfl,⟨vs,SqL.of h1⟩,⟨ws,SqL.of h2⟩,z _ _ _ _ _ s1 g1 (fun G' H' s' g' kp=>?_) q⟩
  obtain ⟨a',vs',ea,q1,l1⟩:=bK g' kp.1 (r1.mono g1 s')
  cases ea
  obtain ⟨b',ws',eb,q2,l2⟩:=bK g' kp.2 (r2.mono g1 s')
  cases eb
  refine ⟨fun i x e=>?_,⟨vs',ws',SqL.of l1,SqL.of l2,by rw[ai,gy,q1.length,q2.length];lia⟩⟩
  rw[aj] at e
  obtain ⟨⟨d,m⟩,em,rfl⟩:=aH.mp e
  obtain ⟨ed,em⟩:=gA.mp em
  obtain ⟨u,eu,ru⟩:=q1.get ed
  obtain ⟨u2,eu2,ru2⟩:=q2.get em
  refine ⟨⟨vs',ws',u,u2,SqL.of l1,SqL.of l2,eu,eu2⟩,fun v H2 z1_=>?_⟩
  obtain ⟨T,y,y2,e1,e2,e3,e4,e5⟩:=z1_
  subst e4 e5
  have:=e1 vs' (SqL.of l1)
  rw[eu] at this
  cases this
  have:=e2 ws' (SqL.of l2)
  rw[eu2] at this
  cases this
  have sm:=Same.new (o:=.tup [u,u2]) e3
  exact ⟨sm,.tup bh (.cons (ru.mono g' (.same sm)) (.cons (ru2.mono g' (.same sm)) .nil))⟩
theorem tO (I:Nat->Ev->GH->Prop) (m:Nat) (h0:I m Γ G) (h:∀ m Γ' G',I m Γ' G'->Wt P w K c Γ' G' fun b G1=>if b=true then Ws P w K t Γ' G1 { D with nx:=Cn fun Γ2 G2=>∃ m',m' < m/\I m' Γ2 G2,ct:=Cn fun Γ2 G2=>∃ m',m' < m/\I m' Γ2 G2,bk:=D.nx } else D.nx Γ' G1):Ws P w K (tI c t) Γ G D:=fun H Z g ev D' z=>by
 refine ⟨fun m σ' H'=>∃ Γ' G',Stp G H G' H'/\GOk P w K G' H'/\EnvOk K G' H' σ' Γ'/\I m Γ' G',⟨m,Γ,G,.refl,g,ev,h0⟩,?_⟩
 rintro m σ' H' ⟨Γ',G',s1,g1,e1,p⟩
 refine h m Γ' G' p H' σ' g1 e1 _ fun b H2 G2 s2 g2 q2=>?_
 have s12:=s1.trans s2
 cases b with
 | true =>
  refine iteT ⟨fun σ' H'=>∃ Γ' G',Stp G H G' H'/\GOk P w K G' H'/\EnvOk K G' H' σ' Γ'/\∃ m',m' < m/\I m' Γ' G',fun σ3 H3 z0_=>by obtain ⟨Γ3,G3,q1,q2,q3,m',hm,q4⟩:=z0_;exact ⟨m',hm,Γ3,G3,q1,q2,q3,q4⟩,(eT q2) H2 σ' g2 (e1.mono g1 s2) _ ?_⟩
  have nn:Pn P w K G2 H2 (fun Γ2 G2=>∃ m',m' < m/\I m' Γ2 G2) fun σ' H'=>∃ Γ' G',Stp G H G' H'/\GOk P w K G' H'/\EnvOk K G' H' σ' Γ'/\∃ m',m' < m/\I m' Γ' G':=fun σ3 H3 Γ3 G3 s3 g3 e3 q3=>⟨Γ3,G3,s12.trans s3,g3,e3,q3⟩
  exact ⟨nn.cn,z.rt.mono s12,z.nx.mono s12,nn.cn⟩
 | false=>exact iteF (z.nx σ' H2 Γ' G2 s12 g2 (e1.mono g1 s2) (eO q2))
end
abbrev Pre:=List T->GH->(T->GH->Prop)->Prop
def spG (P:Program) (w:World) (K:W.Frag) (pre:Pre):Sp:=fun vs H Q j=>∃ ts G k,GOk P w K G H/\RepTs K G H ts vs/\pre ts G k/\Pst P w K G H k Q
def startT (N:List Str) (ts:List T):Ev:=ts.map some++List.replicate (N.length - ts.length) none
def p8 (P:Program) (w:World) (K:W.Frag) (mg:Str->Option Value) (base:Heap) (N:List Str) (x:Str) (st:Stmt) (f:Addr) (cdv:Value) (A:Around) (outer:List Env) (s:Shared) (H:Hp) (E:XK) (ts:List T) (G:GH) (k:T->GH->Prop):Prop :=
 ∃ t,PSs (cxOf CX0 P w K mg base N x (ap st) f cdv A outer s H E).nox (bV st) t/\Ws P w K t (startT N ts) G { nx:=fun j G'=>k .non G',rt:=k }
section
variable {P:Program} {w:World} {K:W.Frag} {mg:Str->Option Value} {base:Heap} {x m qual:Str} {st:Stmt} {ps N:List Str} {pre:Pre} {kk:Nat} {C:Addr}
theorem Zku {G:GH} {H:Hp} {ts:List T} {vs:List V} (r:RepTs K G H ts vs):EnvOk K G H (start N vs) (startT N ts):=by
 unfold start startT
 have hl:=r.length
 refine ⟨by simp[hl],fun i t e=>?_⟩
 by_cases h:i < ts.length
 .rw[bN (by simpa using h),aj] at e
  obtain ⟨t',e1,e2⟩:=aH.mp e
  cases e2
  obtain ⟨v,ev,rv⟩:=r.get e1
  exact ⟨v,by rw[bN (by simpa [<-hl] using h),aj,ev];rfl,rv⟩
 .rw[fM (by simpa using h)] at e
  simp[jS] at e
theorem o9 {f:Addr} {cdv:Value} {A:Around} {outer:List Env} {s:Shared} {H:Hp} {E:XK} {ts:List T} {G:GH} {k:T->GH->Prop} {vs:List V} {Q:VK} (h:p8 P w K mg base N x st f cdv A outer s H E ts G k) (g:GOk P w K G H) (r:RepTs K G H ts vs) (z:Pst P w K G H k Q) :
  ∃ t,PSs (cxOf CX0 P w K mg base N x (ap st) f cdv A outer s H E).nox (bV st) t/\t { nx:=fun j H'=>Q .non H',rt:=Q } (start N vs) H:=by
 obtain ⟨t,h1,h2⟩:=h
 exact ⟨t,h1,h2 H _ g (Zku r) _ ⟨fun σ' H' Γ' G' s' g' e' q=>z _ _ _ _ s' g' .non q,z,fun j j j j j j j q=>q.elim,fun j j j j j j j q=>q.elim⟩⟩
abbrev HdG (P:Program) (w:World) (K:W.Frag) (mg:Str->Option Value) (base:Heap) (N:List Str) (x:Str) (st:Stmt) (kk:Nat) (pre:Pre):Prop:=∀ (f:Addr) (cdv:Value) (A:Around) (outer:List Env) (s:Shared) (H:Hp) (E:XK) (ts:List T) (G:GH) (k:T->GH->Prop),Room kk (A.deeper (envOfC x (ap st) s.heap.objs.size f cdv))->pre ts G k->p8 P w K mg base N x st f cdv A outer s H E ts G k
theorem TopFn.okG (T:TopFn K mg x st ps) (S:FnScope N ps (ap st)) (hl:∀ ts G k,pre ts G k->ts.length=ps.length) (h:HdG P w K mg base N x st kk pre):Callee P w K mg base x (kk+1) ps (spG P w K pre) :=
 T.callee fun f fd F=>F.ok S (fun vs H Q E z0_=>by obtain ⟨ts,G,k,g,r,p,z⟩:=z0_;rw[<-r.length];exact hl _ _ _ p) fun cdv A outer s H vs Q E hr z1_=>by obtain ⟨ts,G,k,g,r,p,z⟩:=z1_;exact o9 (h f cdv A outer s H E ts G k hr p) g r z
theorem TopM.okG (T:TopM K C m qual st ps) (S:FnScope N ps (ap st)) (hl:∀ ts G k,pre ts G k->ts.length=ps.length) (h:HdG P w K mg base N qual st kk pre):MCal P w K mg base C m (kk+1) ps (spG P w K pre) :=
 T.cal fun f fd F=>F.ok S (fun vs H Q E z=>by obtain ⟨ts,G,k,g,r,p,z⟩:=z;rw[<-r.length];exact hl _ _ _ p) fun cdv A outer s H vs Q E hr z=>by obtain ⟨ts,G,k,g,r,p,z⟩:=z;exact o9 (h f cdv A outer s H E ts G k hr p) g r z
theorem TopI.okG (T:TopI K mg C x qual st ps) (S:FnScope N ps (ap st)) (hl:∀ ts G k,pre ts G k->ts.length=ps.length) (h:HdG P w K mg base N qual st kk pre):CCal P w K mg base C x (kk+1) ps (spG P w K pre):=by
 obtain ⟨f,fd,F,hm,hb,hx⟩:=T.ex
 exact ⟨f,fd,F.ok S (fun vs H Q E z=>by obtain ⟨ts,G,k,g,r,p,z⟩:=z;rw[<-r.length];exact hl _ _ _ p) (fun cdv A outer s H vs Q E hr z=>by obtain ⟨ts,G,k,g,r,p,z⟩:=z;exact o9 (h f cdv A outer s H E ts G k hr p) g r z),hm,hb,hx⟩
theorem go_G {f:Addr} {cdv:Value} {A:Around} {outer:List Env} {s:Shared} {H:Hp} {E:XK} {ts:List T} {G:GH} {k:T->GH->Prop} {t:TS} (Γ:Ev) (hΓ:startT N ts=Γ) (h:PSs (cxOf CX0 P w K mg base N x (ap st) f cdv A outer s H E).nox (bV st) t) (q:Ws P w K t Γ G { nx:=fun j G'=>k .non G',rt:=k }):p8 P w K mg base N x st f cdv A outer s H E ts G k:=⟨t,h,by rw[hΓ];exact q⟩
end
section
variable {P:Program} {w:World} {K:W.Frag} {G G1 G2 G':GH} {H H1 H2 H':Hp} {a b l C dx:Addr} {Γ:Ev} {Z:St} {ta tb tc te to ti tv:TE} {k:T->GH->Prop} {kb:Bool->GH->Prop} {ka:List T->GH->Prop} {kn:Ev->GH->Prop} {Q:VK} {d x y z:T} {D:EndT} {t u:TS} {c c2:TT} {tr:TA} {ds ts us xs:List T} {i j:Int} {v:V} {pre:Pre} {E:XK} {f m:Str} {fs:List (Str×T)}
theorem jG (h:pre xs G k):LNr P w K (fun vs H Q=>spG P w K pre vs H Q E) xs G k:=fun H us g r Q z=>⟨xs,G,k,g,r,h,z⟩
theorem u9 (g:GOk P w K G H) (e:G b=some (.bag l)) (B:BagAt H' b l) (s:BSame b H H'):GOk P w K G H'/\Stp G H G H':=by
 have st:Stp G H G H':=fun a o n h=>⟨s a o (fun z=>by rw[z,e] at n;cases n) h,n⟩
 refine ⟨fun a c q=>?_,st⟩
 by_cases h:a=b
 .subst h;rw[e] at q;cases q;exact ⟨B,(g a _ e).2⟩
 .refine (g a c q).kp (st.kp g) (fun o=>s a o h) (fun l' z=>⟨fun o ho=>s l' o (fun zz=>?_) ho,id⟩) fun j j j j=>id
  subst z zz
  have:=(g a _ q).2
  rw[e] at this;cases this
theorem bn (e:G b=some (.bag l)) (h:0 < i/\i<=10 ^ 65) (q:∀ r,0<=r->r < i->k (.int r) G):LNr P w K (fun vs H Q=>eY vs H Q E) [.ptr b,.int i] G k:=fun H us g r Q z=>by
 cases r with|cons r1 r2=>cases r2 with|cons r2 r3 =>
 cases r1;cases r2;cases r3
 refine use2 ⟨b,l,i,rfl,rfl,h,(g b _ e).1,fun r H' h1 h2 B s=>?_⟩
 obtain ⟨g2,s2⟩:=u9 g e B s
 exact z _ _ _ _ s2 g2 .int (q r h1 h2)
theorem pN (e:G b=some (.bag l)) (q:∀ r,r.natAbs<=10 ^ 60->k (.int r) G):LNr P w K (fun vs H Q=>jc vs H Q E) [.ptr b] G k:=fun H us g r Q z=>by
 cases r with|cons r1 r2 =>
 cases r1;cases r2
 refine use1 ⟨b,l,rfl,(g b _ e).1,fun r H' h1 B s=>?_⟩
 obtain ⟨g2,s2⟩:=u9 g e B s
 exact z _ _ _ _ s2 g2 .int (q r h1)
theorem fs_get {fs:List (Str×T)} {fs':List (Str×V)} (r:Paired (fun (p:Str×T) (q:Str×V)=>p.1=q.1/\RepT K G H p.2 q.2) fs fs') (e:fs.lookup f=some d):∃ v,fs'.lookup f=some v/\RepT K G H d v:=by
 induction r with
 | nil=>cases e
 | @cons p q ps qs h _ ih =>
  obtain ⟨x,t⟩:=p;obtain ⟨y,v⟩:=q
  obtain ⟨h1,h2⟩:=h
  dsimp only at h1 h2
  subst h1
  rw[hG] at e ⊢
  cases hb:f == x with
  | true=>rw[hb] at e;cases e;exact ⟨v,rfl,h2⟩
  | false=>rw[hb] at e;exact ih e
theorem Zpq {fs:List (Str×T)} {fs':List (Str×V)} (r:Paired (fun (p:Str×T) (q:Str×V)=>p.1=q.1/\RepT K G H p.2 q.2) fs fs') (e:fs.lookup f=none):fs'.lookup f=none:=by
 induction r with
 | nil=>rfl
 | @cons p q ps qs h _ ih =>
  obtain ⟨x,t⟩:=p;obtain ⟨y,v⟩:=q
  obtain ⟨h1,h2⟩:=h
  dsimp only at h1 h2
  subst h1
  rw[hG] at e ⊢
  cases hb:f == x with
  | true=>rw[hb] at e;cases e
  | false=>rw[hb] at e;exact ih e
def putT (f:Str) (d:T):List (Str×T)->List (Str×T)
 | []=>[(f,d)]
 | (g,x)::r=>if g=f then (g,d)::r else (g,x)::putT f d r
theorem fs_put {fs:List (Str×T)} {fs':List (Str×V)} (r:Paired (fun (p:Str×T) (q:Str×V)=>p.1=q.1/\RepT K G H p.2 q.2) fs fs') (rd:RepT K G H d v):Paired (fun (p:Str×T) (q:Str×V)=>p.1=q.1/\RepT K G H p.2 q.2) (putT f d fs) (putF f v fs'):=by
 induction r with
 | nil=>exact .cons ⟨rfl,rd⟩ .nil
 | @cons p q ps qs h t ih =>
  obtain ⟨x,tt⟩:=p;obtain ⟨y,vv⟩:=q
  obtain ⟨h1,h2⟩:=h
  dsimp only at h1 h2
  subst h1
  unfold putT putF
  by_cases e:x=f
  .rw[ag e,ag e];exact .cons ⟨rfl,rd⟩ t
  .rw[ah e,ah e];exact .cons ⟨rfl,h2⟩ ih
theorem mw (h:We P w K ta Γ G fun x G1=>∃ a C dx fs d,x=.ptr a/\G1 a=some (.ins C dx fs)/\Cls K C/\NoAttr K C f/\fs.lookup f=some d/\k d G1):We P w K (tFld K ta f) Γ G k:=fun H Z g ev Q z=>h H Z g ev _ fun v H1 x G1 s1 g1 r1 z0_=>by
 obtain ⟨a,C,dx,fs,d,e,ea,c,n,l,q⟩:=z0_
 subst e;cases r1
 obtain ⟨fs',h1,j,r⟩:=g1 a _ ea
 obtain ⟨v,ev,rv⟩:=fs_get r l
 exact ⟨a,C,dx,fs',v,rfl,h1,c,n,ev,(z.mono s1).here g1 rv q⟩
theorem GOk.putI {fs fs':List (Str×T)} {vs:List (Str×V)} (g:GOk P w K G H) (ea:G a=some (.ins C dx fs)) (r:Paired (fun (p:Str×T) (q:Str×V)=>p.1=q.1/\RepT K G H p.2 q.2) fs' vs):GOk P w K (gput G a (.ins C dx fs')) (upd H a (.ins C dx vs))/\Stp G H (gput G a (.ins C dx fs')) (upd H a (.ins C dx vs)):=by
 have ne:∀ b u,G b=none->H b=some u->b≠a:=fun b u gb hb e=>by subst e;rw[gb] at ea;cases ea
 have st:Stp G H (gput G a (.ins C dx fs')) (upd H a (.ins C dx vs)):=fun b u gb hb=>⟨by rw[aP (ne b u gb hb)];exact hb,by rw[gp_n (ne b u gb hb)];exact gb⟩
 obtain ⟨j,ha,gd,j⟩:=g a _ ea
 have nd:dx≠a:=fun z=>by rw[z,ea] at gd;cases gd
 refine g.put (.inl ⟨_,ea⟩) ⟨vs,bh,by rw[gp_n nd];exact gd,f9 (fun p q h=>⟨h.1,h.2.mono g st⟩) r⟩ (fun b l hb e z=>?_) (fun b C' dx' fs hb e z=>?_)
 .subst z
  have:=(g b _ e).2
  rw[ea] at this;cases this
 .subst z
  obtain ⟨j,j,q,j⟩:=g b _ e
  rw[ea] at q;cases q
theorem jx (h:We P w K tv Γ G fun y G1=>We P w K ta Γ G1 fun x G2=>∃ a C dx fs,x=.ptr a/\G2 a=some (.ins C dx fs)/\Cls K C/\NoAttr K C f/\fs.length < 1000/\D.nx Γ (gput G2 a (.ins C dx (putT f y fs)))):Ws P w K (sFld K ta tv f) Γ G D:=fun H Z g ev D' z=>h H Z g ev _ fun v H1 y G1 s1 g1 r1 q1=>q1 H1 Z g1 (ev.mono g s1) _ fun v2 H2 x G2 s2 g2 r2 z0_=>by
 obtain ⟨a,C,dx,fs,e,ea,c,n,l,q⟩:=z0_
 subst e;cases r2
 obtain ⟨fs',h1,j,r⟩:=g2 a _ ea
 obtain ⟨g3,s3⟩:=g2.putI ea (fs_put (f:=f) r (r1.mono g1 s2))
 have st:=s1.trans (s2.trans s3)
 exact ⟨a,C,dx,fs',rfl,h1,c,n,by rw[<-Paired.length r];exact l,z.nx _ _ _ _ st g3 (ev.mono g st) q⟩
theorem kP {sp:Sp} (h:We P w K ta Γ G fun x G1=>∃ a dx fs,x=.ptr a/\G1 a=some (.ins C dx fs)/\fs.lookup m=none/\Wa P w K tr Γ G1 fun ys G2=>LNr P w K (fun vs H Q=>sp vs H Q E0) (x::ys) G2 k):We P w K (je C m sp [] E0 ta tr) Γ G k:=fun H Z g ev Q z=>h H Z g ev _ fun v H1 x G1 s1 g1 r1 z0_=>by
 obtain ⟨a,dx,fs,e,ea,l,q⟩:=z0_
 subst e;cases r1
 obtain ⟨fs',h1,j,r⟩:=g1 a _ ea
 exact ⟨a,dx,fs',rfl,h1,Zpq r l,q H1 Z g1 (ev.mono g s1) _ fun vs H2 ys G2 s2 g2 r2 q2=>by rw[bH];exact q2 H2 _ g2 (.cons .ptr r2) Q (z.mono (s1.trans s2))⟩
theorem GOk.new2 {x dx:Addr} (g:GOk P w K G H) (h1:H x=none) (h2:H dx=none) (n:dx≠x):GOk P w K (gput (gput G dx (.own x)) x (.ins C dx [])) (upd (upd H dx (.own x)) x (.ins C dx []))/\Stp G H (gput (gput G dx (.own x)) x (.ins C dx [])) (upd (upd H dx (.own x)) x (.ins C dx [])):=by
 have hx1:∀ b u,H b=some u->b≠x:=fun b u e z=>by rw[z,h1] at e;cases e
 have hx2:∀ b u,H b=some u->b≠dx:=fun b u e z=>by rw[z,h2] at e;cases e
 have gx:∀ b u,G b=some u->b≠x:=fun b u e z=>by rw[z,g.free h1] at e;cases e
 have gd:∀ b u,G b=some u->b≠dx:=fun b u e z=>by rw[z,g.free h2] at e;cases e
 have st:Stp G H (gput (gput G dx (.own x)) x (.ins C dx [])) (upd (upd H dx (.own x)) x (.ins C dx [])):=fun b u gb hb=>⟨by rw[aP (hx1 b u hb),aP (hx2 b u hb)];exact hb,by rw[gp_n (hx1 b u hb),gp_n (hx2 b u hb)];exact gb⟩
 refine ⟨fun b c e=>?_,st⟩
 by_cases hb:b=x
 .subst hb;rw[gp_s] at e;cases e
  exact ⟨[],bh,by rw[gp_n n];exact gp_s,.nil⟩
 .rw[gp_n hb] at e
  by_cases hb2:b=dx
  .subst hb2;rw[gp_s] at e;cases e
   show upd (upd H b (.own x)) x (.ins C b []) b=some (.own x)
   rw[aP hb];exact bh
  .rw[gp_n hb2] at e
   refine (g b c e).kp (st.kp g) (fun u q=>by rw[aP hb,aP hb2];exact q) (fun l z=>?_) fun C' dx' fs z q=>by rw[gp_n (gx _ _ q),gp_n (gd _ _ q)];exact q
   subst z
   obtain ⟨o,ho⟩:=(g b _ e).1.lo
   exact ⟨fun u q=>by rw[aP (hx1 _ _ ho),aP (hx2 _ _ ho)];exact q,fun q=>by rw[gp_n (hx1 _ _ ho),gp_n (hx2 _ _ ho)];exact q⟩
theorem kB {sp:Sp} (h:Wa P w K tr Γ G fun ys G1=>∀ x dx,G1 x=none->G1 dx=none->dx≠x->LNr P w K (fun vs H Q=>sp vs H Q E0) (.ptr x::ys) (gput (gput G1 dx (.own x)) x (.ins C dx [])) fun d G2=>d=.non/\k (.ptr x) G2):We P w K (qo C sp [] E0 tr) Γ G k:=fun H Z g ev Q z=>h H Z g ev _ fun vs H1 ys G1 s1 g1 r1 q1 x dx h1 h2 n=>by
 obtain ⟨g2,s2⟩:=g1.new2 (C:=C) h1 h2 n
 rw[bH]
 refine q1 x dx (g1.free h1) (g1.free h2) n _ _ g2 (.cons .ptr (r1.mono g1 s2)) _ fun v H3 d G3 s3 g3 r3 q3=>?_
 obtain ⟨rfl,q3⟩:=q3
 cases r3
 exact ⟨rfl,z _ _ _ _ (s1.trans (s2.trans s3)) g3 .ptr q3⟩
end
abbrev K2:=List (List Key)
def valN (kvs:List (K2×Addr×V)) (k:K2):Option V:=(kvs.find? fun x=>decide (x.1=k)).map (·.2.2)
def tNNew (P:Program) (w:World):TE:=fun j H Q=>∀ p,H p=none->Q (.ref p) (upd H p (dnO P w p []))
def tNGet (P:Program) (w:World) (td ty tx:TE):TE:=fun Z H Q=>td Z H fun x H1=>∃ a kvs0,x=.ref a/\H1 a=some (dnO P w a kvs0)/\ty Z H1 fun y H2=>tx Z H2 fun z H3=>∃ kvs k b,H3 a=some (dnO P w a kvs)/\y=.ref b/\Key2 H3 k b/\(∀ e∈kvs,Key2 H3 e.1 e.2.1)/\Q ((valN kvs k).getD z) H3
def tNSet (P:Program) (w:World) (td ty tx:TE):TE:=fun Z H Q=>td Z H fun x H1=>∃ a kvs0,x=.ref a/\H1 a=some (dnO P w a kvs0)/\ty Z H1 fun y H2=>tx Z H2 fun z H3=>∃ kvs k b,H3 a=some (dnO P w a kvs)/\y=.ref b/\Key2 H3 k b/\(∀ e∈kvs,Key2 H3 e.1 e.2.1)/\kvs.length < 1000000/\(∀ v,valN kvs k=some v->Q v H3)/\(valN kvs k=none->Q z (upd H3 a (dnO P w a (kvs++[(k,b,z)]))))
abbrev PN:List (K2×Addr×V)->List (K2×Addr×Value)->Prop:=Paired fun p q=>p.1=q.1/\p.2.1=q.2.1/\RelV p.2.2 q.2.2
theorem PN.val {kvs:List (K2×Addr×V)} {xs:List (K2×Addr×Value)} (r:PN kvs xs) (k:K2):RelO (valN kvs k) ((atKey xs k).map (·.2)):=by
 induction r with
 | nil=>exact True.intro
 | @cons p q ps qs h t ih =>
  obtain ⟨h1,j,h2⟩:=h
  unfold valN atKey at ih ⊢
  rw[c9,c9]
  by_cases e:p.1=k
  .have e':q.1=k:=h1.symm.trans e
   rw[aU e,aU e'];exact h2
  .have e':¬ q.1=k:=fun z=>e (h1.trans z)
   rw[aL e,aL e'];exact ih
section
variable {P:Program} {w:World} {H:Hp} {h h':Heap} {a b:Addr}
theorem dn_ok {kvs:List (K2×Addr×V)} {xs:List (K2×Addr×Value)} (hd:(a == sysModules)=false) (hl:kvs.length<=sizeLine) (r:PN kvs xs) {o:Obj} {es:Array DictEntry} {ep:_} (h1:h.get? a=some o) (h2:o.ExactDict) (h3:o.data=.dict es ep) (h4:es.toList=xs.map (entryOfKey (io (bC P w)))) (h5:(xs.map (·.1)).Nodup):ObjOk P w H h a (dnO P w a kvs) :=
 ⟨⟨hd,hl,xs,r,o,es,ep,h1,h2,h3,h4,h5⟩,⟨o,h1⟩,fun g1 g2 z k=>by obtain ⟨hd,hl,xs,r,o,es,ep,h1,h2,h3,h4,h5⟩:=z;exact ⟨hd,hl,xs,r,o,es,ep,k o h1,h2,h3,h4,h5⟩⟩
theorem qk {ks:K2} (ok:HOk P w H h) (e:Key2 H ks b):(io (bC P w)).is h ks b:=by
 obtain ⟨rs,hb,pr⟩:=e
 obtain ⟨hz,its,r,o,h1,h2,n,h3⟩:=(show ObjOk P w H h b (.tup (rs.map V.ref)) from ok b _ hb)
 refine ⟨o,its.toArray,n,h1,h2,h3,?_⟩
 show Its2 (bC P w) h ks its
 clear h1 h2 h3 hb hz
 induction pr generalizing its with
 | nil=>cases r;exact .nil
 | cons hk _ ih =>
  cases r with
  | cons r1 r2 =>
   cases r1
   exact .cons (jO ok hk) (ih _ r2)
theorem dn_of {kvs:List (K2×Addr×V)} (ok:HOk P w H h) (e:H a=some (dnO P w a kvs)) (hk:∀ e∈kvs,Key2 H e.1 e.2.1):(a == sysModules)=false/\kvs.length<=sizeLine/\∃ xs,PN kvs xs/\h.DictOfH (io (bC P w)) a xs:=by
 obtain ⟨⟨hd,hl,xs,r,o,es,ep,h1,h2,h3,h4,h5⟩,_⟩:=(show ObjOk P w H h a (dnO P w a kvs) from ok a _ e)
 rename_i ex
 refine ⟨hd,hl,xs,r,o,es,ep,h1,h2,h3,h4,fun x hx=>?_,h5⟩
 clear h4 h5 hl e ex
 induction r with
 | nil=>cases hx
 | @cons p q ps qs hq t ih =>
  rcases aG.mp hx with e|hx
  .subst e
   have:=qk ok (hk p bG)
   rw[<-hq.1,<- hq.2.1];exact this
  .exact ih (fun e he=>hk e (bE _ he)) hx
end
section
variable {X:Cx} {o e f:Expr} {apos cpos pos:Pos} {td ty tx:TE}
theorem dn_at {pins:List (Addr×Obj)} {Z:St} {H:Hp} {s:Shared} {a:Addr} {kvs:List (K2×Addr×V)} (I:Inv X pins Z H s) (e:H a=some (dnO X.prog X.w a kvs)):s.TypeIs (.ref a) "dict"/\∀ b,Value.ref a=.ref b->∃ ob,s.heap.get? b=some ob/\ob.dict=none:=by
 obtain ⟨⟨hd,hl,xs,r,o,es,ep,h1,h2,h3,h4,h5⟩,j⟩:=(show ObjOk X.prog X.w H s.heap a (dnO X.prog X.w a kvs) from I.hok a _ e)
 exact ⟨⟨o,h1,h2.1⟩,fun b q=>by cases q;exact ⟨o,h1,h2.2.1⟩⟩
theorem ZoS {P:Program} {w:World} (hP:X.prog=P) (hw:X.w=w):PE X (.Dict [] [] pos) (tNNew P w):=fun pins s Z H Q I h=>by
 subst hP hw
 exact wpAny_Dict_empty ⟨.ref s.heap.objs.size,_,I.laid (a:=s.heap.objs.size) (o:=dnO X.prog X.w s.heap.objs.size []) (t':=s.toks) (fun j j q=>aJ _ q) (aq _)
  (dn_ok (gR.mpr (Ne.symm (bc I.big))) (bg _) .nil (bp _ rfl) ⟨rfl,rfl,rfl⟩ rfl rfl eI),rfl,h _ (I.hok.fresh (aq _))⟩
theorem ZoT {P:Program} {w:World} (hP:X.prog=P) (hw:X.w=w) (hu:X.A.units+64 < cLine) (ho:PE X o td) (he:PE X e ty) (hf:PE X f tx) (m:M2 X o "get" apos e f cpos):PE X (.Call (.Attribute o "get" apos) [e,f] [] cpos) (tNGet P w td ty tx):=by
 intro pins s Z H Q I h
 subst hP hw
 refine nV m.base m.few m.line PySem.F.plainAttrs_dict PySem.F.slot_dict_get PySem.F.type_dict_get (thn (ho pins s Z H _ I h) fun u s1 z0_=>?_)
 obtain ⟨x,H1,I1,rx,a,kvs0,ex,d,q1⟩:=z0_
 subst ex
 obtain rfl:u=Value.ref a:=rx
 obtain ⟨t1,t2⟩:=dn_at I1 d
 refine ⟨t1,t2,?_⟩
 rw[m.trees]
 refine iE rfl (jX (e8 (thn (he pins s1 Z H1 _ I1 q1) fun iv s2 z=>?_)))
 obtain ⟨y,H2,I2,ry,q2⟩:=z
 refine e8 (thn (hf pins s2 Z H2 _ I2 q2) fun fv s3 z=>?_)
 obtain ⟨z,H3,I3,rz,kvs,k,b,e3,ey,kb,ka,q3⟩:=z
 refine iz ?_
 subst ey
 obtain rfl:iv=Value.ref b:=ry
 obtain ⟨hd,hl,xs,rel,dd⟩:=dn_of I3.hok e3 ka
 exact j0 PySem.F.slot_dict_get dd.typeIs PySem.F.entry_dict_get (PySem.F.args_dict_get_3 _ _ _) (meetsH_dict_get_default (io (bC X.prog X.w)) a b hd fv) ⟨by show X.A.units+1+1 < cLine;lia,k,xs,qk I3.hok kb,dd,⟨_,H3,I3.tok _,(rel.val k).getD rz,q3⟩⟩
theorem ZoR {P:Program} {w:World} (hP:X.prog=P) (hw:X.w=w) (hu:X.A.units+64 < cLine) (ho:PE X o td) (he:PE X e ty) (hf:PE X f tx) (m:M2 X o "setdefault" apos e f cpos):PE X (.Call (.Attribute o "setdefault" apos) [e,f] [] cpos) (tNSet P w td ty tx):=by
 intro pins s Z H Q I h
 subst hP hw
 refine nV m.base m.few m.line PySem.F.plainAttrs_dict PySem.F.slot_dict_setdefault PySem.F.type_dict_setdefault (thn (ho pins s Z H _ I h) fun u s1 z0_=>?_)
 obtain ⟨x,H1,I1,rx,a,kvs0,ex,d,q1⟩:=z0_
 subst ex
 obtain rfl:u=Value.ref a:=rx
 obtain ⟨t1,t2⟩:=dn_at I1 d
 refine ⟨t1,t2,?_⟩
 rw[m.trees]
 refine iE rfl (jX (e8 (thn (he pins s1 Z H1 _ I1 q1) fun iv s2 z=>?_)))
 obtain ⟨y,H2,I2,ry,q2⟩:=z
 refine e8 (thn (hf pins s2 Z H2 _ I2 q2) fun r s3 z=>?_)
 obtain ⟨z,H3,I3,rz,kvs,k,b,e3,ey,kb,ka,hlt,q3,q4⟩:=z
 refine iz ?_
 subst ey
 obtain rfl:iv=Value.ref b:=ry
 obtain ⟨hd,hl,xs,rel,dd⟩:=dn_of I3.hok e3 ka
 refine j0 PySem.F.slot_dict_setdefault dd.typeIs PySem.F.entry_dict_setdefault (PySem.F.args_dict_setdefault_3 _ _ _) (Zgy (io (bC X.prog X.w)) a b hd r) ⟨by show X.A.units+1+1 < cLine;lia,k,xs,qk I3.hok kb,dd,by rw[<-Paired.length rel];exact hl,fun p hp=>?_,fun hn h' dd' hs=>?_⟩
 .have q:=rel.val k
  rw[hp] at q
  cases hv:valN kvs k with
  | none=>rw[hv] at q;cases q
  | some v=>rw[hv] at q;exact ⟨v,H3,I3.tok _,q,q3 v hv⟩
 .have q:=rel.val k
  rw[hn] at q
  cases hv:valN kvs k with
  | some v=>rw[hv] at q;cases q
  | none =>
   obtain ⟨ob,es,ep,hq,h2,h3,h4,j,h5⟩:=dd'
   have hz:(kvs++[(k,b,z)]).length<=sizeLine:=by rw[PySem.sizeLine_eq,aA,fc];lia
   exact ⟨z,_,oZ I3 (by rw[e3];exact True.intro) hs ⟨ob,hq⟩ (dn_ok hd hz (Paired.snoc rel ⟨rfl,rfl,rz⟩) hq h2 h3 h4 h5),rz,q4 hv⟩
end
def k2T (k:K2):T:=.tup (k.map fun l=>.tup (l.map fun c=>match c with|.inl i=>.int i|.inr x=>.str x))
def getN (kvs:List (K2×T)) (k:K2):Option T:=(kvs.find? fun x=>decide (x.1=k)).map (·.2)
section
variable {P:Program} {w:World} {K:W.Frag} {G G1 G2 G':GH} {H H1 H2 H':Hp} {a b:Addr} {Γ:Ev} {ta te td ty tx:TE} {k:T->GH->Prop} {d x y z:T} {v:V} {kvs:List (K2×T)} {q:K2}
theorem ZoB {l:List Key} {vs:List V} (r:RepTs K G H (l.map fun c=>match c with|.inl i=>T.int i|.inr x=>T.str x) vs):vs=l.map kV:=by
 induction l generalizing vs with
 | nil=>cases r;rfl
 | cons c l ih =>
  cases r with
  | cons r1 r2 =>
   rw[ih r2]
   cases c with
   | inl i=>cases r1;rfl
   | inr i=>cases r1;rfl
theorem rM (r:RepT K G H (k2T q) v):∃ b,v=.ref b/\Key2 H q b:=by
 unfold k2T at r
 cases r with
 | @tup a vs _ h rs =>
  refine ⟨a,rfl,?_⟩
  have:∃ rs:List Addr,vs=rs.map V.ref/\Paired (fun (k:List Key) r=>H r=some (.tup (k.map kV))) q rs:=by
   clear h
   induction q generalizing vs with
   | nil=>cases rs;exact ⟨[],rfl,.nil⟩
   | cons l q ih =>
    cases rs with
    | cons r1 r2 =>
     obtain ⟨as,rfl,pr⟩:=ih r2
     cases r1 with
     | @tup c us _ hc rc=>exact ⟨c::as,rfl,.cons (by rw[hc,ZoB rc]) pr⟩
  obtain ⟨as,rfl,pr⟩:=this
  exact ⟨as,h,pr⟩
theorem ui {kvs:List (K2×T)} {kvs':List (K2×Addr×V)} (r:Paired (fun (p:K2×T) (q:K2×Addr×V)=>p.1=q.1/\Key2 H p.1 q.2.1/\RepT K G H p.2 q.2.2) kvs kvs') (q:K2):(∀ e∈kvs',Key2 H e.1 e.2.1)/\((getN kvs q=none/\valN kvs' q=none)\/∃ d v,getN kvs q=some d/\valN kvs' q=some v/\RepT K G H d v):=by
 induction r with
 | nil=>exact And.intro (fun e h=>absurd h bv) (Or.inl ⟨rfl,rfl⟩)
 | @cons p s ps ss h t ih =>
  obtain ⟨h1,h2,h3⟩:=h
  refine ⟨fun e he=>?_,?_⟩
  .rcases aG.mp he with e1|he
   .rw[e1,<- h1];exact h2
   .exact ih.1 e he
  .unfold getN valN at ih ⊢
   rw[c9,c9]
   by_cases e:p.1=q
   .rw[aU e,aU (h1.symm.trans e)]
    exact .inr ⟨_,_,rfl,rfl,h3⟩
   .rw[aL e,aL (fun z=>e (h1.trans z))]
    exact ih.2
theorem nt (h:∀ p,G p=none->k (.ptr p) (gput G p (.dn []))):We P w K (tNNew P w) Γ G k:=fun H Z g ev Q z p hp=>by
 have gx:∀ b u,G b=some u->b≠p:=fun b u e z=>by rw[z,g.free hp] at e;cases e
 obtain ⟨g2,s2⟩:=g.put (c:=.dn []) (o:=dnO P w p []) (.inr hp) ⟨[],bh,.nil⟩ (fun b l hb e z=>by
  subst z
  obtain ⟨o,ho⟩:=(g b _ e).1.lo
  rw[hp] at ho;cases ho) (fun b C dx fs hb e z=>by
  subst z
  obtain ⟨j,j,q,j⟩:=g b _ e
  exact gx _ _ q rfl)
 exact z _ _ _ _ s2 g2 .ptr (h p (g.free hp))
theorem lN (h:We P w K td Γ G fun x G1=>∃ a kv0,x=.ptr a/\G1 a=some (.dn kv0)/\We P w K ty Γ G1 fun y G2=>We P w K tx Γ G2 fun z G3=>∃ kvs q,G3 a=some (.dn kvs)/\y=k2T q/\k ((getN kvs q).getD z) G3):We P w K (tNGet P w td ty tx) Γ G k:=fun H Z g ev Q z=>h H Z g ev _ fun v H1 x G1 s1 g1 r1 z0_=>by
 obtain ⟨a,kv0,e,ea,q1⟩:=z0_
 subst e;cases r1
 obtain ⟨kvs',h1,j⟩:=g1 a _ ea
 refine ⟨a,kvs',rfl,h1,q1 H1 Z g1 (ev.mono g s1) _ fun v2 H2 y G2 s2 g2 r2 q2=>q2 H2 Z g2 (ev.mono g (s1.trans s2)) _ fun v3 H3 zz G3 s3 g3 r3 z1_=>?_⟩
 obtain ⟨kvs,q,e3,ey,q3⟩:=z1_
 subst ey
 obtain ⟨b,rfl,kb⟩:=rM (r2.mono g2 s3)
 obtain ⟨kv3,h3,pr⟩:=g3 a _ e3
 obtain ⟨ka,ha⟩:=ui pr q
 refine ⟨kv3,q,b,h3,rfl,kb,ka,?_⟩
 have zz:=z.mono (s1.trans (s2.trans s3))
 rcases ha with ⟨n1,n2⟩|⟨d,v,n1,n2,rd⟩
 .rw[n1] at q3;rw[n2];exact zz.here g3 r3 q3
 .rw[n1] at q3;rw[n2];exact zz.here g3 rd q3
theorem kK (h:We P w K td Γ G fun x G1=>∃ a kv0,x=.ptr a/\G1 a=some (.dn kv0)/\We P w K ty Γ G1 fun y G2=>We P w K tx Γ G2 fun z G3=>∃ kvs q,G3 a=some (.dn kvs)/\y=k2T q/\kvs.length < 1000000/\(∀ d,getN kvs q=some d->k d G3)/\(getN kvs q=none->k z (gput G3 a (.dn (kvs++[(q,z)]))))):We P w K (tNSet P w td ty tx) Γ G k:=fun H Z g ev Q z=>h H Z g ev _ fun v H1 x G1 s1 g1 r1 z0_=>by
 obtain ⟨a,kv0,e,ea,q1⟩:=z0_
 subst e;cases r1
 obtain ⟨kvs',h1,j⟩:=g1 a _ ea
 refine ⟨a,kvs',rfl,h1,q1 H1 Z g1 (ev.mono g s1) _ fun v2 H2 y G2 s2 g2 r2 q2=>q2 H2 Z g2 (ev.mono g (s1.trans s2)) _ fun v3 H3 zz G3 s3 g3 r3 z1_=>?_⟩
 obtain ⟨kvs,q,e3,ey,hl,q3,q4⟩:=z1_
 subst ey
 obtain ⟨b,rfl,kb⟩:=rM (r2.mono g2 s3)
 obtain ⟨kv3,h3,pr⟩:=g3 a _ e3
 obtain ⟨ka,ha⟩:=ui pr q
 refine ⟨kv3,q,b,h3,rfl,kb,ka,by rw[<-Paired.length pr];exact hl,fun v hv=>?_,fun hv=>?_⟩
 .rcases ha with ⟨n1,n2⟩|⟨d,v',n1,n2,rd⟩
  .rw[n2] at hv;cases hv
  .rw[n2] at hv;cases hv
   exact (z.mono (s1.trans (s2.trans s3))).here g3 rd (q3 d n1)
 .rcases ha with ⟨n1,n2⟩|⟨d,v',n1,n2,rd⟩
  .have st:Stp G3 H3 (gput G3 a (.dn (kvs++[(q,zz)]))) (upd H3 a (dnO P w a (kv3++[(q,b,v3)]))):=fun c o n hc=>by
    have:c≠a:=fun z=>by rw[z,e3] at n;cases n
    exact ⟨by rw[aP this];exact hc,by rw[gp_n this];exact n⟩
   have kk:=st.kp g3
   obtain ⟨g4,s4⟩:=g3.put (c:=.dn (kvs++[(q,zz)])) (o:=dnO P w a (kv3++[(q,b,v3)])) (.inl ⟨_,e3⟩) ⟨_,bh,f9 (fun p s t=>⟨t.1,vk kk.1 t.2.1,t.2.2.kp kk⟩) (Paired.snoc pr ⟨rfl,kb,r3⟩)⟩ (fun c l hc e zc=>by
    subst zc
    have:=(g3 c _ e).2
    rw[e3] at this;cases this) (fun c C dx fs hc e zc=>by
    subst zc
    obtain ⟨j,j,qq,j⟩:=g3 c _ e
    rw[e3] at qq;cases qq)
   exact z _ _ _ _ (s1.trans (s2.trans (s3.trans s4))) g4 (r3.mono g3 s4) (q4 n1)
  .rw[n2] at hv;cases hv
end
abbrev Fm:=Int×List (Int×Int)
abbrev SF:=Int×Int×List Fm
def fmD (f:Fm):D:=formD f.1 f.2
def Rw.goes:Rw->Int->Bool
 | .zero _ _,n=>decide (n=0)
 | _,n=>decide (n < 0)
section
variable {P:Program} {w:World} {K:W.Frag} {G G1 G2 G':GH} {H H1 H2 H':Hp} {a b:Addr} {Γ:Ev} {ta te td ty tx tv:TE} {k:T->GH->Prop} {d x y z:T} {v:V} {t:List (Int×Int)} {D:EndT} {i j:Int}
theorem GOk.putB (g:GOk P w K G H) (h:(∃ t,G a=some (.tb t))\/H a=none) (n:(t.map (·.1)).Nodup):GOk P w K (gput G a (.tb t)) (upd H a (.dK (kvT t)))/\Stp G H (gput G a (.tb t)) (upd H a (.dK (kvT t))):=by
 have ga:∀ c,G a=some c->∃ t,c=.tb t:=fun c e=>by
  rcases h with ⟨us,h⟩|h
  .rw[h] at e;cases e;exact ⟨us,rfl⟩
  .rw[g.free h] at e;cases e
 refine g.put (h.imp (fun ⟨us,e⟩=>⟨_,e⟩) id) ⟨bh,n⟩ (fun b l hb e z=>?_) (fun b C dx fs hb e z=>?_)
 .subst z
  obtain ⟨o,q⟩:=(g b _ e).1.lo
  rcases h with ⟨us,h⟩|h
  .have:=(g b _ e).2;rw[h] at this;cases this
  .rw[h] at q;cases q
 .subst z
  obtain ⟨j,j,q,j⟩:=g b _ e
  obtain ⟨t,z⟩:=ga _ q
  cases z
theorem jL (h:∀ p,G p=none->k (.ptr p) (gput G p (.tb []))):We P w K vb Γ G k:=fun H Z g ev Q z p hp=>by
 obtain ⟨g2,s2⟩:=g.putB (t:=[]) (.inr hp) eI
 exact z _ _ _ _ s2 g2 .ptr (h p (g.free hp))
theorem kL (h:We P w K td Γ G fun x G1=>∃ a t0,x=.ptr a/\G1 a=some (.tb t0)/\We P w K ty Γ G1 fun y G2=>We P w K tx Γ G2 fun z G3=>∃ t i,G3 a=some (.tb t)/\y=.int i/\z=.int 0/\k (.int (aQ t i)) G3):We P w K (vB td ty tx) Γ G k:=fun H Z g ev Q z=>h H Z g ev _ fun v H1 x G1 s1 g1 r1 z0_=>by
 obtain ⟨a,t0,e,ea,q1⟩:=z0_
 subst e;cases r1
 have h1:=(g1 a _ ea).1
 refine ⟨a,rfl,.inl ⟨_,.inl h1⟩,q1 H1 Z g1 (ev.mono g s1) _ fun v2 H2 y G2 s2 g2 r2 q2=>q2 H2 Z g2 (ev.mono g (s1.trans s2)) _ fun v3 H3 zz G3 s3 g3 r3 z1_=>?_⟩
 obtain ⟨t,i,e3,ey,ez,q3⟩:=z1_
 subst ey ez
 cases r2;cases r3
 refine ⟨_,DGet.k (k:=Sum.inl i) (g3 a _ e3).1,?_⟩
 rw[Zkk]
 exact (z.mono (s1.trans (s2.trans s3))).here g3 .int q3
theorem nq (h:We P w K td Γ G fun x G1=>We P w K ty Γ G1 fun y G2=>∃ a t i,x=.ptr a/\G2 a=some (.tb t)/\y=.int i/\i∈t.map (·.1)/\k (.int (aQ t i)) G2):We P w K (tDGet td ty) Γ G k:=fun H Z g ev Q z=>h H Z g ev _ fun v H1 x G1 s1 g1 r1 q1=>q1 H1 Z g1 (ev.mono g s1) _ fun v2 H2 y G2 s2 g2 r2 z0_=>by
 obtain ⟨a,t,i,ex,e3,ey,hi,q3⟩:=z0_
 subst ex ey
 cases r1;cases r2
 have:=DGet.k (k:=(Sum.inl i:Key)) (g2 a _ e3).1
 rw[tF hi] at this
 exact ⟨a,_,rfl,this,(z.mono (s1.trans s2)).here g2 .int q3⟩
theorem kQ (h:We P w K tv Γ G fun v G1=>We P w K td Γ G1 fun x G2=>We P w K ty Γ G2 fun y G3=>∃ a t i n,v=.int (aQ t i+n)/\x=.ptr a/\G3 a=some (.tb t)/\y=.int i/\t.length < 100000/\D.nx Γ (gput G3 a (.tb (addT t i n)))):Ws P w K (sDPut td ty tv) Γ G D:=fun H Z g ev D' z=>h H Z g ev _ fun v1 H1 vv G1 s1 g1 r1 q1=>q1 H1 Z g1 (ev.mono g s1) _ fun v2 H2 x G2 s2 g2 r2 q2=>q2 H2 Z g2 (ev.mono g (s1.trans s2)) _ fun v3 H3 y G3 s3 g3 r3 z0_=>by
 obtain ⟨a,t,i,n,ev1,ex,e3,ey,hl,q3⟩:=z0_
 subst ev1 ex ey
 cases r1;cases r2;cases r3
 obtain ⟨h3,nd⟩:=g3 a _ e3
 obtain ⟨g4,s4⟩:=g3.putB (.inl ⟨_,e3⟩) (uq (w:=i) (x:=n) nd)
 have st:=s1.trans (s2.trans (s3.trans s4))
 refine ⟨a,_,rfl,DPut.k (k:=Sum.inl i) h3 (by unfold kvT;rw[ai,PySem.sizeLine_eq];lia),?_⟩
 rw[ZmG nd]
 exact z.nx _ _ _ _ st g4 (ev.mono g st) q3
def sortI (l:List Int):List Int:=l.mergeSort fun a b=>decide (a<=b)
theorem ip (l:List Int):(sortI l).Perm l:=mergeSort_perm _ _
theorem su (l:List Int):(sortI l).Pairwise (·<=·):=by
 have:=pairwise_mergeSort (le:=fun a b:Int=>decide (a<=b)) (fun a b c h1 h2=>by simp only[fR] at *;lia) (fun a b=>by simp only[Bool.or_eq_true,fR];lia) l
 exact this.imp fun h=>by simpa using h
theorem repI:∀ {ns:List Int},RepTs K G H (ns.map T.int) (ns.map V.int)
 | []=>.nil
 | n::ns=>.cons .int repI
theorem vL (e:G a=some (.tb t)) (hl:t.length < 64) (h:k (.lst ((sortI (t.map (·.1))).map T.int)) G):LNr P w K um [.ptr a] G k:=fun H us g r Q z=>by
 cases r with
 | cons r1 r2 =>
  cases r1;cases r2
  refine ⟨a,kvT t,t.map (·.1),rfl,(g a _ e).1,Znb t,by rw[ai];exact hl,fun ms p h1 h2 hp=>?_⟩
  rw[uG h2 (su _) (h1.trans (ip _).symm)]
  exact z.lst g hp repI h
end
theorem lC {b:Bool} {R:Bool->Prop} (h:R b):∃ k,T.bl b=T.bl k/\R k:=⟨b,rfl,h⟩
theorem mK {b:Int} {R:Int->Prop} (h:R b):∃ k,T.int b=T.int k/\R k:=⟨b,rfl,h⟩
theorem nM {n:Nat} {p:Prop} (h:Nat.ble n 1000=true) (q:p):n<=1000/\p:=⟨fS h,q⟩
abbrev prT (p:Int×Int):T:=.tup [.int p.1,.int p.2]
abbrev fmT (f:Fm):T:=.tup [.int f.1,.tup (f.2.map prT)]
def ofW (w:Int):Fm:=(0,[(1,w)])
def wnF (c:Int) (t:List (Int×Int)):Fm:=(c,bO t (sortI (t.map (·.1))))
def cg (f g:Fm) (n:Int):Fm:=wnF (f.1+n * g.1) (aX (aX [] f.2 1) g.2 n)
def pK (f:Fm) (n:Int):Fm:=wnF (f.1 * n) (aX [] f.2 n)
def dA (f:Fm) (fl:List Fm):Fm:=wnF (putC f.1 f.2 fl) (cu f.2 fl)
structure Fo (n:Nat) (B:Nat) (f:Fm):Prop where
 c:f.1.natAbs<=B
 a:∀ p∈f.2,p.1.natAbs<=B
 w:∀ p∈f.2,0<=p.2/\p.2 < n
 nd:(f.2.map (·.2)).Nodup
theorem Fo.le {n m B C:Nat} {f:Fm} (h:Fo n B f) (h1:n<=m) (h2:B<=C):Fo m C f:=⟨aR h.c h2,fun p q=>aR (h.a p q) h2,fun p q=>⟨(h.w p q).1,by have:=(h.w p q).2;lia⟩,h.nd⟩
theorem mX {n:Nat}:∀ (l:List Int),l.Nodup->(∀ x∈l,0<=x/\x < n)->l.length<=n:=by
 intro l hn h
 have h1:(l.map Int.toNat).Nodup:=by
  refine List.Pairwise.map _ (fun a b (hab:a≠b/\0<=a/\0<=b)=>by lia) ?_
  exact List.Pairwise.imp_of_mem (fun {a b} ha hb hab=>⟨hab,(h a ha).1,(h b hb).1⟩) hn
 have h2:(l.map Int.toNat) ⊆ List.range n:=fun x hx=>by
  obtain ⟨y,hy,rfl⟩:=bL.mp hx
  have:=h y hy
  exact cN.mpr (by lia)
 have:=List.Nodup.length_le_of_subset h1 h2
 simpa using this
theorem Fo.len {n B:Nat} {f:Fm} (h:Fo n B f):f.2.length<=n:=by
 have:=mX (n:=n) (f.2.map (·.2)) h.nd fun x hx=>by obtain ⟨p,hp,rfl⟩:=bL.mp hx;exact h.w p hp
 simpa using this
theorem nI : ∀ {ps : List (Int × Int)} {B : Nat} (w : Int), (ps.map (·.2)).Nodup -> (∀ p ∈ ps, p.1.natAbs <= B) -> (atW ps w).natAbs <= B
  | [], B, w, _, _ => by unfold atW; simp
  | p :: ps, B, w, hn, h => by
    rw[aF,cP] at hn
    rw[gf]
    by_cases e:p.2=w
    . rw[ag e, ie fun q hq hw => hn.1 (bL.mpr ⟨q, hq, hw.trans e.symm⟩)]
      have:=h p bG
      simpa using this
    . rw[ah e, j8]
      exact nI w hn.2 fun q hq => h q (bE _ hq)
theorem jb : ∀ (ps t : List (Int × Int)) (n x : Int), x ∈ (aX t ps n).map (·.1) -> x ∈ t.map (·.1) \/ x ∈ ps.map (·.2)
  | [], t, n, x, h => .inl h
  | p :: ps, t, n, x, h => by
    rcases jb ps (addT t p.2 (p.1 * n)) n x h with h|h
    . rw[pD] at h
      split at h
      . exact .inl h
      . rcases aT.mp h with h | h
        . exact .inl h
        . rw[aN] at h; exact .inr (by rw[h]; exact bG)
    . exact .inr (bE _ h)
theorem tW {n B:Nat} {c:Int} {t:List (Int×Int)} (hn:(t.map (·.1)).Nodup) (hw:∀ x∈t.map Prod.fst,0<=x/\x < n) (hc:c.natAbs<=B) (hb:∀ w,(aQ t w).natAbs<=B):Fo n B (wnF c t):=by
 have hp:=ip (t.map (·.1))
 have e:(wnF c t).2.map (·.2)=(sortI (t.map (·.1))).filter fun w=>decide (aQ t w≠0):=by unfold wnF bO;rw[cG];exact map_id _
 refine ⟨hc,fun p h=>?_,fun p h=>?_,?_⟩
 .obtain ⟨w,j,rfl⟩:=bL.mp h;exact hb w
 .have h2:p.2∈(wnF c t).2.map (·.2):=bL.mpr ⟨p,h,rfl⟩
  rw[e] at h2
  exact hw _ (hp.mem_iff.mp (jP.mp h2).1)
 .rw[e];exact (hp.nodup_iff.mpr hn).filter _
theorem qb {n B C:Nat} {f g:Fm} {m:Int} (hf:Fo n B f) (hg:Fo n C g):((aX (aX [] f.2 1) g.2 m).map (·.1)).Nodup/\(∀ x∈(aX (aX [] f.2 1) g.2 m).map Prod.fst,0<=x/\x < n)/\∀ w,(aQ (aX (aX [] f.2 1) g.2 m) w).natAbs<=B+m.natAbs * C:=by
 refine ⟨fK _ _ (fK _ _ eI),fun x hx=>?_,fun w=>?_⟩
 .rcases jb _ _ _ _ hx with hx|hx
  .rcases jb _ _ _ _ hx with hx|hx
   .cases hx
   .obtain ⟨p,hp,rfl⟩:=bL.mp hx;exact hf.w p hp
  .obtain ⟨p,hp,rfl⟩:=bL.mp hx;exact hg.w p hp
 .rw[gO,gO]
  show ((0:Int)+_ * 1+_).natAbs<=_
  have h1:=nI w hf.nd hf.a
  have h2:=nI w hg.nd hg.a
  have h3:=kf m.natAbs h2
  rw[<-kg,om] at h3
  rw[j8,Int.mul_one]
  exact aR (oo _ _) (oq h1 h3)
theorem qi {n B C:Nat} {f g:Fm} {m:Int} (hf:Fo n B f) (hg:Fo n C g):Fo n (B+m.natAbs * C) (cg f g m):=by
 obtain ⟨h1,h2,h3⟩:=qb (m:=m) hf hg
 refine tW h1 h2 ?_ h3
 have h4:=kf m.natAbs hg.c
 rw[<-kg] at h4
 exact aR (oo _ _) (oq hf.c h4)
theorem vN {n B:Nat} {f:Fm} {m:Int} (hf:Fo n B f):((aX [] f.2 m).map (·.1)).Nodup/\(∀ x∈(aX [] f.2 m).map Prod.fst,0<=x/\x < n)/\∀ w,(aQ (aX [] f.2 m) w).natAbs<=m.natAbs * B:=by
 refine ⟨fK _ _ eI,fun x hx=>?_,fun w=>?_⟩
 .rcases jb _ _ _ _ hx with hx|hx
  .cases hx
  .obtain ⟨p,hp,rfl⟩:=bL.mp hx;exact hf.w p hp
 .rw[gO]
  show ((0:Int)+_).natAbs<=_
  have h3:=kf m.natAbs (nI w hf.nd hf.a)
  rw[<-kg,om] at h3
  lia
theorem Zkp {n B:Nat} {f:Fm} {m:Int} (hf:Fo n B f):Fo n (m.natAbs * B) (pK f m):=by
 obtain ⟨h1,h2,h3⟩:=vN (m:=m) hf
 refine tW h1 h2 ?_ h3
 have h4:=kf m.natAbs hf.c
 rw[<-kg,om] at h4
 exact h4
end L2
end
section
namespace L3
open PySem Builtin Builtin.Str
theorem Zjs:typeLookup (.type "zip") "__len__"=pure none:=by rw[typeLookup_type,rj];kernel_rfl
theorem ZhS:typeLookup (.type "zip") "__length_hint__"=pure none:=by rw[typeLookup_type,rj];kernel_rfl
abbrev ZI (h:Heap) (z TI TO a:Addr) (f:Bool):Prop :=
 h.get? z=some { cls:=.type "zip",dict:=none,data:=.fields #[rawInt a,.bool f,.bool false,.ref TI,.ref TO],slots:=#[] }
section
variable {prog:Program} {w:World} {A:Around} {E:Value->Shared->Prop} {s:Shared}
theorem rJ {z TI TO a:Addr} {f:Bool} {oa:Obj} {Q:Bool->Shared->Prop} (hz:ZI s.heap z TI TO a f) (ha:s.heap.get? a=some oa) (hQ:∀ h',ZI h' z TI TO a true->Heap.SameBut z s.heap h'->Q false { s with heap:=h' }) :
  wpAny (model prog w) A (Builtin.SmallTypes.ownedTupleIsFree (.ref z)) Q E s:=by
 unfold Builtin.SmallTypes.ownedTupleIsFree
 refine ab (bF hz rfl (x:=rawInt a) rfl ?_)
 show wpAny _ _ (loadIfAlive ((a:Int).toNat) >>= _) _ _ _
 rw[dF]
 refine ab (PySem.W.kdx_alive ha ?_)
 simp only[Option.isNone_some,dE,dv]
 refine ab (bF hz rfl (x:=.bool f) rfl ?_)
 cases f with
 | true =>
  rw[ah (show ¬ ((Value.bool true != Value.bool true)=true) from bo)]
  exact am (hQ s.heap hz (Heap.SameBut.refl _ _))
 | false =>
  rw[ag (show (Value.bool false != Value.bool true)=true from rfl)]
  exact ab (dS hz (by simp) fun h₃ he₃ hs₃=>am (hQ h₃ he₃ hs₃))
theorem Zkb {z TI TO a i1 i2 l1 l2:Addr} {f:Bool} {oa:Obj} {k1 k2:Nat} {xs ys:Array Value} {x y:Value} {Q:Option Value->Shared->Prop} (D:ZipApart z TI TO i1 i2 l1 l2)
  (hz:ZI s.heap z TI TO a f) (ha:s.heap.get? a=some oa) (hTI:IsPair s.heap TI (.ref i1) (.ref i2))
  (h1:s.heap.IsTupleIter i1 l1 k1) (h2:s.heap.IsTupleIter i2 l2 k2) (hl1:s.heap.IsTuple l1 xs) (hl2:s.heap.IsTuple l2 ys) (hx:xs[k1]?=some x) (hy:ys[k2]?=some y)
  (hQ:∀ h',ZI h' z TI TO a true->h'.IsTupleIter i1 l1 (k1+1)->h'.IsTupleIter i2 l2 (k2+1)->IsPair h' s.heap.objs.size x y->h'.objs.size=s.heap.objs.size+1 ->
   (∀ c o,c≠z->c≠i1->c≠i2->s.heap.get? c=some o->h'.get? c=some o)->Q (some (.ref s.heap.objs.size)) { s with heap:=h' }) :
  wpAny (model prog w) A (pyNext (.ref z)) Q E s:=by
 have hT:s.TypeIs (.ref z) "zip":=⟨_,hz,rfl⟩
 unfold pyNext
 refine ab (iL (fb (name:=Str.ofString "__next__") hT F.slot_zip_next (dD F.slot_zip_next hT F.entry_zip_next ?_ (F.args_zip_next_1 _))))
 show wpAny _ _ (field (.ref z) 2 >>= _) _ _ _
 refine ab (bF hz rfl (x:=.bool false) rfl ?_)
 show wpAny _ _ (field (.ref z) 3 >>= _) _ _ _
 refine ab (bF hz rfl (x:=.ref TI) rfl ?_)
 refine ab (dw hTI rfl ?_)
 show wpAny _ _ (Builtin.SmallTypes.ownedTupleIsFree (.ref z) >>= _) _ _ _
 refine ab (rJ hz ha fun ha' hza hsa=>?_)
 simp only[dE,dv]
 refine ab ?_
 rw[<-j6]
 simp only[iH,forIn_nil]
 refine ab (ab (cY ?_))
 show wpAny _ _ (Builtin.SmallTypes.nextOf (.ref i1) >>= _) _ _ _
 refine ab (nextT (h1.extBut hsa.extBut D.i1z) (hl1.extBut hsa.extBut D.l1z) hx fun hb h1b hsb=>am (am ?_))
 refine ab (ab (cY ?_))
 show wpAny _ _ (Builtin.SmallTypes.nextOf (.ref i2) >>= _) _ _ _
 refine ab (nextT ((h2.extBut hsa.extBut D.i2z).extBut hsb.extBut D.i12.symm) ((hl2.extBut hsa.extBut D.l2z).extBut hsb.extBut D.l2i1) hy fun hc h2c hsc=>am (am (am ?_)))
 refine ab (n6 (hsz:=by show 2<=sizeLine;decide) ?_)
 have hsz:hc.objs.size=s.heap.objs.size:=by rw[hsc.1,hsb.1,hsa.1]
 have zc:ZI hc z TI TO a true:=hsc.extBut _ _ D.i2z.symm (hsb.extBut _ _ D.i1z.symm hza)
 refine am ⟨_,rfl,?_⟩
 refine am ?_
 rw[hsz]
 refine hQ _ (aJ _ zc) (tupIter_at (h1b.extBut hsc.extBut D.i12) fun o e=>aJ _ e) (tupIter_at h2c fun o e=>aJ _ e) ?_ (by rw[dQ,hsz]) fun c o c1 c3 c4 e=>aJ _ (hsc.extBut _ _ c4 (hsb.extBut _ _ c3 (hsa.extBut _ _ c1 e)))
 rw[<-hsz];exact bp _ rfl
theorem Zmi {z TI TO a i1 i2 l1 l2:Addr} {f:Bool} {oa:Obj} {k1 k2:Nat} {xs ys:Array Value} {Q:Option Value->Shared->Prop} (hh:A.handled=none) (D:ZipApart z TI TO i1 i2 l1 l2)
  (hz:ZI s.heap z TI TO a f) (ha:s.heap.get? a=some oa) (hTI:IsPair s.heap TI (.ref i1) (.ref i2))
  (h1:s.heap.IsTupleIter i1 l1 k1) (h2:s.heap.IsTupleIter i2 l2 k2) (hl1:s.heap.IsTuple l1 xs) (hl2:s.heap.IsTuple l2 ys) (hend:xs[k1]?=none)
  (hQ:∀ h',(∀ c o,c≠z->c≠i1->c≠i2->s.heap.get? c=some o->h'.get? c=some o)->Q none { s with heap:=h' }):wpAny (model prog w) A (pyNext (.ref z)) Q E s:=by
 have hT:s.TypeIs (.ref z) "zip":=⟨_,hz,rfl⟩
 unfold pyNext
 refine ab (iL (fb (name:=Str.ofString "__next__") hT F.slot_zip_next (dD F.slot_zip_next hT F.entry_zip_next ?_ (F.args_zip_next_1 _))))
 show wpAny _ _ (field (.ref z) 2 >>= _) _ _ _
 refine ab (bF hz rfl (x:=.bool false) rfl ?_)
 show wpAny _ _ (field (.ref z) 3 >>= _) _ _ _
 refine ab (bF hz rfl (x:=.ref TI) rfl ?_)
 refine ab (dw hTI rfl ?_)
 show wpAny _ _ (Builtin.SmallTypes.ownedTupleIsFree (.ref z) >>= _) _ _ _
 refine ab (rJ hz ha fun ha' hza hsa=>?_)
 simp only[dE,dv]
 refine ab ?_
 rw[<-j6]
 simp only[iH,forIn_nil]
 refine ab (ab (cY ?_))
 show wpAny _ _ (Builtin.SmallTypes.nextOf (.ref i1) >>= _) _ _ _
 refine ab (kO hh (h1.extBut hsa.extBut D.i1z) (hl1.extBut hsa.extBut D.l1z) hend fun hb e hsb he=>?_)
 obtain ⟨o,ho,hc⟩:=he
 refine ab (iM (T:="StopIteration") (b:=true) ⟨o,ho,hc⟩ isSubtype_stop ?_)
 exact am (hQ _ fun c o c1 c3 c4 x=>hsb _ _ c3 (hsa.extBut _ _ c1 x))
end
def Made (h:Heap) (m:Nat) (ps:List (Value×Value)):Prop:=∀ (j:Nat) p,ps[j]?=some p->IsPair h (m+j) p.1 p.2
def refs (m n:Nat):Array Value:=((List.range n).map fun j=>Value.ref (m+j)).toArray
theorem ZkF (m n:Nat):refs m (n+1)=(refs m n).push (.ref (m+n)):=by unfold refs;rw[range_succ,aO];simp
section
variable {prog:Program} {w:World} {A:Around} {R:Result->Shared->Prop}
def ZSt (h:Heap) (z TI TO:Addr) (m i:Nat):Prop:=(i=0/\IsZip h z TI TO .none/\∃ a b,IsPair h TO a b)\/(0 < i/\∃ f,ZI h z TI TO m f)
theorem Zka {z TI TO i1 i2 l1 l2 S m:Addr} {xs ys:Array Value} (hh:A.handled=none) (D:ZipApart z TI TO i1 i2 l1 l2) (hxy:xs.size=ys.size) (hn:xs.size<=1000) (hlt:∀ c,c=z\/c=TI\/c=TO\/c=i1\/c=i2\/c=l1\/c=l2\/c=S->c < m) (hS:S≠z/\S≠TI/\S≠TO/\S≠i1/\S≠i2/\S≠l1/\S≠l2) :
  ∀ (k i:Nat) (s:Shared) (c:Nat),xs.size - i=k->i<=xs.size->s.heap.objs.size=m+i->ZSt s.heap z TI TO m i->IsPair s.heap TI (.ref i1) (.ref i2)->s.heap.IsTupleIter i1 l1 i->s.heap.IsTupleIter i2 l2 i->s.heap.IsTuple l1 xs->s.heap.IsTuple l2 ys ->
  Made s.heap m ((xs.toList.zip ys.toList).take i)->s.heap.get? S=some { cls:=.type "list",dict:=none,data:=.seq (refs m i) c,slots:=#[] } ->
  (∀ h' c',(∀ b o,b≠S->b≠z->b≠TO->b≠i1->b≠i2->s.heap.get? b=some o->h'.get? b=some o)->Made h' m (xs.toList.zip ys.toList)->h'.get? S=some { cls:=.type "list",dict:=none,data:=.seq (refs m xs.size) c',slots:=#[] }->R (.ok (.ret .none)) { s with heap:=h' }) ->
  codeAny (model prog w) A (.builtin "list.extend.loop" ⟨[.ref S,.ref z,.none],[]⟩) R s:=by
 intro k
 induction k with
 | zero =>
  intro i s c hk hi hm zs hTI h1 h2 hl1 hl2 md hSl hR
  have hin:i=xs.size:=by lia
  refine ou F.entry_extend_loop ?_
  rw[ox F.plain_extend_loop _]
  show wpAny _ A.in1 (pyNext (.ref z) >>= _) _ _ s
  have hend:xs[i]?=none:=by simp[hin]
  have fin:∀ h',(∀ b o,b≠z->b≠TO->b≠i1->b≠i2->s.heap.get? b=some o->h'.get? b=some o)->R (.ok (.ret .none)) { s with heap:=h' }:=fun h' kp=>by
   refine hR h' c (fun b o u n1 n2 n3 n4 e=>kp b o n1 n2 n3 n4 e) (fun j p e=>?_) (by rw[<-hin];exact kp _ _ hS.1 hS.2.2.1 hS.2.2.2.1 hS.2.2.2.2.1 hSl)
   have hj:j < i:=by have:=(ay.mp e).1;simp at this;lia
   refine kp _ _ ?_ ?_ ?_ ?_ (md j p (by rw[jT hj];exact e))
   .have:=hlt z (by simp);exact dr (bD this (cj _ _))
   .have:=hlt TO (by simp);exact dr (bD this (cj _ _))
   .have:=hlt i1 (by simp);exact dr (bD this (cj _ _))
   .have:=hlt i2 (by simp);exact dr (bD this (cj _ _))
  rcases zs with ⟨u,hz,a,b,hTO⟩|⟨hp,f,hz⟩
  .exact ab (Zgx hh D hz hTI hTO h1 h2 hl1 hl2 (.inl hend) fun h' kp=>am (fin h' kp))
  .have hp0:∃ p,((xs.toList.zip ys.toList).take i)[0]?=some p:=by
    rw[jT hp]
    exact ⟨_,ax (by simp;lia)⟩
   obtain ⟨p,ep⟩:=hp0
   exact ab (Zmi hh D hz (md 0 p ep) hTI h1 h2 hl1 hl2 hend fun h' kp=>am (fin h' fun b o n1 u n3 n4 e=>kp b o n1 n3 n4 e))
 | succ k ih =>
  intro i s c hk hi hm zs hTI h1 h2 hl1 hl2 md hSl hR
  have hlt':i < xs.size:=by lia
  have hx:xs[i]?=some xs[i]:=q9 hlt'
  have hy:ys[i]?=some (ys[i]'(by lia)):=q9 _
  generalize xs[i]=x at hx
  generalize ys[i]'(by lia)=y at hy
  refine ou F.entry_extend_loop ?_
  rw[ox F.plain_extend_loop _]
  show wpAny _ A.in1 (pyNext (.ref z) >>= _) _ _ s
  have lm:∀ c,c=z\/c=TI\/c=TO\/c=i1\/c=i2\/c=l1\/c=l2\/c=S->∀ j,m+j≠c:=fun c hc j=>by have:=hlt c hc;exact dr (bD this (cj _ _))
  have fin:∀ h':Heap,ZI h' z TI TO m (decide (0 < i))\/ZI h' z TI TO m true->h'.IsTupleIter i1 l1 (i+1)->h'.IsTupleIter i2 l2 (i+1)->IsPair h' (m+i) x y->h'.objs.size=m+i+1 ->
    (∀ c o,c≠z->c≠TO->c≠i1->c≠i2->s.heap.get? c=some o->h'.get? c=some o) ->
    wpAny (model prog w) A.in1 (updateSeq S (·.push (.ref (m+i))) >>= fun u=>again (.builtin "list.extend.loop" ⟨[.ref S,.ref z,.none],[]⟩)) (fun fin s'=>match fin with|.done f=>R (.ok f) s'|.again c'=>c'.quiet=true/\codeAny (model prog w) A c' R s') (fun e s'=>R (.error e) s') { s with heap:=h' }:=by
   intro h' zz g1 g2 g5 g6 kp
   have hS':=kp _ _ hS.1 hS.2.2.1 hS.2.2.2.1 hS.2.2.2.2.1 hSl
   have hrs:(refs m i).size=i:=by unfold refs;simp
   refine ab (oy (s:={ s with heap:=h' }) hS' rfl (am ⟨oz F.plain_extend_loop _,?_⟩) (by rw[hrs,PySem.sizeLine_eq];lia) (by show ((refs m i).push _).size<=sizeLine+1;rw[Array.size_push,hrs,PySem.sizeLine_eq];lia))
   have hS2:=gX (Obj.mapSeq (·.push (Value.ref (m+i)))) hS' rfl
   obtain ⟨c3,hS3⟩:∃ c3,(h'.update S (Obj.mapSeq (·.push (Value.ref (m+i))))).get? S=some { cls:=.type "list",dict:=none,data:=.seq (refs m (i+1)) c3,slots:=#[] }:=⟨_,by rw[ZkF];exact hS2⟩
   have oth:∀ b o,b≠S->h'.get? b=some o->(h'.update S (Obj.mapSeq (·.push (Value.ref (m+i))))).get? b=some o:=fun b o hb e=>(iD _ _ (Ne.symm hb)).trans e
   have lS:S≠l1/\S≠l2:=⟨hS.2.2.2.2.2.1,hS.2.2.2.2.2.2⟩
   have pL:∀ {l:Addr} {v:Array Value},s.heap.IsTuple l v->l≠z->l≠TO->l≠i1->l≠i2->l≠S->(h'.update S (Obj.mapSeq (·.push (Value.ref (m+i))))).IsTuple l v:=fun {l v} ⟨o,ho,r⟩ n1 n2 n3 n4 n5=>⟨o,oth _ _ n5 (kp _ _ n1 n2 n3 n4 ho),r⟩
   refine ih (i+1) _ c3 (by lia) hlt' (by show (h'.update S _).objs.size=_;rw[oA,g6];rfl) (.inr ⟨Nat.succ_pos _,?_⟩) (oth _ _ hS.2.1.symm (kp _ _ D.TIz D.TITO D.TIi1 D.TIi2 hTI)) (tupIter_at g1 fun o e=>oth _ o hS.2.2.2.1.symm e) (tupIter_at g2 fun o e=>oth _ o hS.2.2.2.2.1.symm e)
    (pL hl1 D.l1z D.l1TO D.l1i1 D.l1i2 lS.1.symm) (pL hl2 D.l2z D.l2TO D.l2i1 D.l2i2 lS.2.symm) ?_ ?_ ?_
   .rcases zz with zz|zz
    .exact ⟨_,oth _ _ hS.1.symm zz⟩
    .exact ⟨_,oth _ _ hS.1.symm zz⟩
   .intro j p e
    rw[b9] at e
    have hzl:((xs.toList.zip ys.toList).take i).length=i:=by simp;lia
    by_cases hj:j < i
    .rw[bN (by rw[hzl];exact hj)] at e
     exact oth _ _ (lm S (by simp) j) (kp _ _ (lm z (by simp) j) (lm TO (by simp) j) (lm i1 (by simp) j) (lm i2 (by simp) j) (md j p e))
    .rw[fM (by rw[hzl];lia),hzl] at e
     have ez:(xs.toList.zip ys.toList)[i]?=some (x,y):=gA.mpr ⟨by simpa using hx,by simpa using hy⟩
     rw[ez] at e
     have hj2:j=i:=by have:=(ay.mp e).1;simp at this;lia
     subst hj2
     simp at e
     subst e
     exact oth _ _ (lm S (by simp) j) g5
   .exact hS3
   .intro h2 c2 kp2 md2 hS4
    exact hR h2 c2 (fun b o nS n1 n2 n3 n4 e=>kp2 b o nS n1 n2 n3 n4 (oth b o nS (kp b o n1 n2 n3 n4 e))) md2 hS4
  rcases zs with ⟨h0,hz,a,b,hTO⟩|⟨hp,f,hz⟩
  .subst h0
   refine ab (Zk4 D hz hTI hTO h1 h2 hl1 hl2 hx hy fun h' a1 a2 a3 a4 a5 a6 a7=>?_)
   rw[hm] at a1 a5 a6 ⊢
   exact fin h' (.inl a1) a3 a4 a5 a6 a7
  .have hp0:∃ p,((xs.toList.zip ys.toList).take i)[0]?=some p:=by
    rw[jT hp]
    exact ⟨_,ax (by simp;lia)⟩
   obtain ⟨p,ep⟩:=hp0
   refine ab (Zkb D hz (md 0 p ep) hTI h1 h2 hl1 hl2 hx hy fun h' a1 a3 a4 a5 a6 a7=>?_)
   rw[hm] at a5 a6 ⊢
   exact fin h' (.inr a1) a3 a4 a5 a6 fun c o n1 u n3 n4 e=>a7 c o n1 n3 n4 e
end
section
variable {prog:Program} {w:World} {A:Around} {E:Value->Shared->Prop} {s:Shared}
theorem ZhT {R:Result->Shared->Prop} {z TI TO i1 i2 l1 l2 S:Addr} {a b:Value} {c0:Nat} {xs ys:Array Value} (hh:A.handled=none) (D:ZipApart z TI TO i1 i2 l1 l2) (hxy:xs.size=ys.size) (hn:xs.size<=1000)
  (hlt:∀ c,c=z\/c=TI\/c=TO\/c=i1\/c=i2\/c=l1\/c=l2\/c=S->c < s.heap.objs.size) (hS:S≠z/\S≠TI/\S≠TO/\S≠i1/\S≠i2/\S≠l1/\S≠l2)
  (hz:IsZip s.heap z TI TO .none) (hTI:IsPair s.heap TI (.ref i1) (.ref i2)) (hTO:IsPair s.heap TO a b) (h1:s.heap.IsTupleIter i1 l1 0) (h2:s.heap.IsTupleIter i2 l2 0) (hl1:s.heap.IsTuple l1 xs) (hl2:s.heap.IsTuple l2 ys)
  (hSl:s.heap.get? S=some { cls:=.type "list",data:=.seq #[] c0 })
  (hR:∀ h' c',(∀ b o,b≠S->b≠z->b≠TO->b≠i1->b≠i2->s.heap.get? b=some o->h'.get? b=some o)->Made h' s.heap.objs.size (xs.toList.zip ys.toList)->h'.get? S=some { cls:=.type "list",dict:=none,data:=.seq (refs s.heap.objs.size xs.size) c',slots:=#[] }->R (.ok (.ret .none)) { s with heap:=h' }) :
  wpAny (model prog w) A.in1 (Builtin.List.listExtendWith (.ref S) (.ref z) .none)
   (fun fin s'=>match fin with|.done f=>R (.ok f) s'|.again c'=>c'.quiet=true/\codeAny (model prog w) A c' R s') (fun e s'=>R (.error e) s') s:=by
 have hT:s.TypeIs (.ref z) "zip":=⟨_,hz,rfl⟩
 unfold Builtin.List.listExtendWith
 refine ab (iC hT ?_)
 have e1:Builtin.List.listSameRef (.ref S) (.ref z)=false:=by simp[Builtin.List.listSameRef,hS.1]
 have e2:(Value.type "zip" == Value.type "list")=false:=by decide
 have e3:(Value.type "zip" == Value.type "tuple")=false:=by decide
 simp only[e1,e2,e3,Bool.or_false,dE,dv]
 refine ab (rb hz ?_)
 refine ab (cY ?_)
 unfold Builtin.List.listLengthHint
 refine ab (g9 hT Zjs ?_)
 show wpAny _ A.in1 (specialOf (Value.ref z) (Str.ofString "__length_hint__") >>= _) _ _ _
 refine ab (g9 hT ZhS ?_)
 refine am ?_
 show wpAny _ A.in1 (rule "list.extend.makes-room" >>= fun y=>Builtin.List.listTouch (.ref S) >>= fun y=>again (.builtin "list.extend.loop" ⟨[.ref S,.ref z,.none],[]⟩)) _ _ _
 refine ab (eF ?_)
 refine ab ?_
 show wpAny _ A.in1 (updateSeq S (·.push .none) >>= fun y=>updateSeq S (·.pop)) _ _ _
 refine ab (oy hSl rfl ?_)
 have hS₂:=gX (Obj.mapSeq (·.push Value.none)) hSl rfl
 refine oy hS₂ rfl ?_
 have hS₃:=gX (Obj.mapSeq (·.pop)) hS₂ rfl
 have oth:∀ b o,b≠S->s.heap.get? b=some o->((s.heap.update S (Obj.mapSeq (·.push Value.none))).update S (Obj.mapSeq (·.pop))).get? b=some o :=
  fun b o hb e=>(iD _ _ (Ne.symm hb)).trans ((iD _ _ (Ne.symm hb)).trans e)
 have pL:∀ {l:Addr} {v:Array Value},s.heap.IsTuple l v->l≠S->((s.heap.update S (Obj.mapSeq (·.push Value.none))).update S (Obj.mapSeq (·.pop))).IsTuple l v:=fun {l v} ⟨o,ho,r⟩ n=>⟨o,oth _ _ n ho,r⟩
 refine am ⟨oz F.plain_extend_loop _,Zka (m:=s.heap.objs.size) hh D hxy hn hlt hS xs.size 0 _ _ rfl (bg _) (by show ((s.heap.update S _).update S _).objs.size=_;rw[oA,oA];rfl) (.inl ⟨rfl,oth _ _ hS.1.symm hz,a,b,oth _ _ hS.2.2.1.symm hTO⟩)
  (oth _ _ hS.2.1.symm hTI) (tupIter_at h1 fun o e=>oth _ o hS.2.2.2.1.symm e) (tupIter_at h2 fun o e=>oth _ o hS.2.2.2.2.1.symm e) (pL hl1 hS.2.2.2.2.2.1.symm) (pL hl2 hS.2.2.2.2.2.2.symm) (fun j p e=>by simp at e) hS₃ fun h' c' kp md hS'=>?_⟩
 exact hR h' c' (fun b o n0 n1 n2 n3 n4 e=>kp b o n0 n1 n2 n3 n4 (oth b o n0 e)) md hS'
theorem zipL_call {z TI TO i1 i2 l1 l2:Addr} {a b:Value} {xs ys:Array Value} {Q:Value->Shared->Prop} (hh:A.handled=none) (D:ZipApart z TI TO i1 i2 l1 l2) (hxy:xs.size=ys.size) (hn:xs.size<=1000)
  (hlt:∀ c,c=z\/c=TI\/c=TO\/c=i1\/c=i2\/c=l1\/c=l2->c < s.heap.objs.size)
  (hz:IsZip s.heap z TI TO .none) (hTI:IsPair s.heap TI (.ref i1) (.ref i2)) (hTO:IsPair s.heap TO a b) (h1:s.heap.IsTupleIter i1 l1 0) (h2:s.heap.IsTupleIter i2 l2 0) (hl1:s.heap.IsTuple l1 xs) (hl2:s.heap.IsTuple l2 ys)
  (hQ:∀ h' c',(∀ b o,b≠z->b≠TO->b≠i1->b≠i2->s.heap.get? b=some o->h'.get? b=some o)->Made h' (s.heap.objs.size+1) (xs.toList.zip ys.toList)->h'.get? s.heap.objs.size=some { cls:=.type "list",dict:=none,data:=.seq (refs (s.heap.objs.size+1) xs.size) c',slots:=#[] }->Q (.ref s.heap.objs.size) { s with heap:=h' }) :
  wpAny (model prog w) A (call (.type "list") [.ref z]) Q E s:=by
 refine callType_codes (Q₁:=fun obj s₁=>obj=.ref s.heap.objs.size/\s₁={ s with heap:=s.heap.push { cls:=.type "list",data:=.seq #[] } }) PySem.F.called_list (PySem.F.typeCall_list_1 _) PySem.F.entry_list_init
  (code_list_new _ ⟨rfl,rfl⟩) fun obj s₁ h₁=>?_
 obtain ⟨rfl,rfl⟩:=h₁
 have hS:(s.heap.push { cls:=.type "list",data:=.seq #[] }).get? s.heap.objs.size=some { cls:=.type "list",data:=.seq #[] }:=bp _ rfl
 have ne:∀ c,c=z\/c=TI\/c=TO\/c=i1\/c=i2\/c=l1\/c=l2->s.heap.objs.size≠c:=fun c hc=>dr (hlt c hc)
 refine ⟨⟨_,hS,rfl⟩,PySem.F.args_list_init_2 _ _,?_⟩
 show wpAny _ _ (do let old <- Builtin.List.listItems (.ref s.heap.objs.size);Builtin.List.listUpdate (.ref s.heap.objs.size) (fun j=>#[]);letGo old.toList.reverse;Builtin.List.listExtendWith (.ref s.heap.objs.size) (.ref z) .none) _ _ _
 refine ab ?_
 unfold Builtin.List.listItems
 refine ab (dw hS rfl (am ?_))
 show wpAny _ _ (updateSeq s.heap.objs.size (fun j=>#[]) >>= fun j=>letGo (#[]:Array Value).toList.reverse >>= fun j=>Builtin.List.listExtendWith (.ref s.heap.objs.size) (.ref z) .none) _ _ _
 refine ab (oy hS rfl ?_)
 have hS₂:=gX (Obj.mapSeq (fun j=>(#[]:Array Value))) hS rfl
 generalize hh2:(s.heap.push { cls:=.type "list",data:=.seq #[] }).update s.heap.objs.size (Obj.mapSeq fun j=>#[])=g at hS₂
 have hg:g.objs.size=s.heap.objs.size+1:=by rw[<-hh2,oA,dQ]
 have oth:∀ b o,s.heap.get? b=some o->g.get? b=some o:=fun b o e=>by
  rw[<-hh2]
  exact (iD _ _ (dr (aM e))).trans (aJ _ e)
 refine ab (j5 ?_)
 have pL:∀ {l:Addr} {v:Array Value},s.heap.IsTuple l v->g.IsTuple l v:=fun {l v} ⟨o,ho,r⟩=>⟨o,oth _ _ ho,r⟩
 refine ZhT (A:=A.in1) hh D hxy hn (fun c hc=>?_) ⟨ne z (by simp),ne TI (by simp),ne TO (by simp),ne i1 (by simp),ne i2 (by simp),ne l1 (by simp),ne l2 (by simp)⟩ (oth _ _ hz) (oth _ _ hTI) (oth _ _ hTO) (tupIter_at h1 fun o e=>oth _ o e) (tupIter_at h2 fun o e=>oth _ o e) (pL hl1) (pL hl2) hS₂ fun h' c' kp md hS'=>?_
 .show c < g.objs.size
  rw[hg]
  by_cases h:c=s.heap.objs.size
  .rw[h];exact gw _
  .exact qZ (hlt c (by rcases hc with hc|hc|hc|hc|hc|hc|hc|hc <;> first|(exact absurd hc h)|simp[hc]))
 .refine ⟨rfl,hQ h' c' (fun b o n1 n2 n3 n4 e=>kp b o (bc (aM e)) n1 n2 n3 n4 (oth b o e)) ?_ ?_⟩
  .have:(Made h' g.objs.size _):=md
   rwa [hg] at this
  .have:h'.get? s.heap.objs.size=some { cls:=.type "list",dict:=none,data:=.seq (refs g.objs.size xs.size) c',slots:=#[] }:=hS'
   rwa [hg] at this
end
end L3
end
section
namespace L2
open PySem PySem.Spec PyProof.Rows
section
variable {X:Cx} {pins:List (Addr×Obj)} {Z:St} {H H':Hp} {s:Shared} {h':Heap}
theorem Inv.laidS {t':Nat} (I:Inv X pins Z H s) (k:∀ b u,s.heap.get? b=some u->h'.get? b=some u) (sm:Same H H') (new:∀ b o,H' b=some o->H b=none->s.heap.objs.size<=b/\ObjOk X.prog X.w H' h' b o):Inv X pins Z H' { s with heap:=h',toks:=t' }:=by
 refine I.step (g':=s.gens) (d':=s.drawn) (ch:=[]) (fun b hb=>nomatch hb) (fun b o j j j e j=>k b o e) (fun b o j j j e j=>⟨o.slots,k b o e⟩) (fun b o j e n=>?_) (fun b o j e=>⟨o,k b o e⟩) (fun b xs e=>sm b _ e) (fun b o u e=>sm b _ e) (fun b ps e=>⟨#[],by rw[sm b _ e];simp⟩) (fun m hm=>?_) (fun b u e=>?_) I.bare
 .cases q:H' b with
  | none=>rfl
  | some u=>exact absurd (aM e) (Nat.not_lt_of_le (new b u q n).1)
 .obtain ⟨o,es,ep,ho,r⟩:=hm
  exact ⟨o,es,ep,k _ o ho,r⟩
 .cases q:H b with
  | none=>exact (new b u e q).2
  | some v =>
   have:u=v:=by rw[sm b v q] at e;exact (Option.some.inj e).symm
   subst this
   exact (I.hok b u q).stay (fun c v j z=>k c v z) (fun c z=>sm c _ z) fun c xs z=>sm c _ z
end
def tLZip (K:W.Frag) (ta:TA):TE:=fun Z H Q=>ta Z H fun vs H1=>∃ p q xs ys,vs=[.ref p,.ref q]/\SqT K H1 p xs/\SqT K H1 q ys/\xs.length=ys.length/\xs.length<=1000 /\
 ∀ (l m:Addr) H',Same H1 H'->H1 l=none->H' l=some (.lst ((List.range xs.length).map fun j=>V.ref (m+j)))->(∀ (j:Nat) x y,xs[j]?=some x->ys[j]?=some y->H' (m+j)=some (.tup [x,y]))->Q (.ref l) H'
section
variable {X:Cx} {a b:Expr} {ta:TA} {p pos pos2 p2:Pos}
theorem ZoW {K:W.Frag} (hK:X.K=K) (hc:X.calm=true) (hg:Gl X "list") (hm:X.mg "list"=none) (hg2:Gl X "zip") (hm2:X.mg "zip"=none) (ha:PA X [a,b] ta)
  (hs:starEach [a,b] X.env=[(false,eval a X.env),(false,eval b X.env)]:=by rfl) (hs2:starEach [b] X.env=[(false,eval b X.env)]:=by rfl)
  (he:starEach [Expr.Call (.Name "zip" p) [a,b] [] pos] X.env=[(false,eval (Expr.Call (.Name "zip" p) [a,b] [] pos) X.env)]:=by rfl) (hpl:(backTo pos2 (starEach [] X.env)).any (·.1)=false:=by rfl) :
  PE X (.Call (.Name "list" p2) [.Call (.Name "zip" p) [a,b] [] pos] [] pos2) (tLZip K ta):=by
 subst hK
 intro pins s Z H Q I h
 refine jR (eV I hg hm m9 ?_)
 refine gu ?_ (by rw[he];rfl) hpl
 rw[he]
 show wpAny _ _ (spliced [(false,eval (Expr.Call (.Name "zip" p) [a,b] [] pos) X.env)]) _ _ s
 refine e8 ?_
 refine Call_ (eV I hg2 hm2 u8 (gu (thn (ha pos pins s Z H _ I h) fun us s1 z0_=>?_) (by rw[hs,hs2]) (by rw[hs2];rfl)))
 obtain ⟨vs,H1,I1,r1,q1⟩:=z0_
 obtain ⟨l1,l2,xs,ys,e,q1,q2,hxy,hn,q⟩:=q1
 subst e
 cases r1 with
 | cons r rr =>
  cases rr with
  | cons r' rr =>
   cases rr
   cases r
   cases r'
   obtain ⟨its1,rv1,p1,hz1⟩:=I1.tuple q1
   obtain ⟨its2,rv2,p2,hz2⟩:=I1.tuple q2
   have e1:=rv1.length
   have e2:=rv2.length
   have hl1:l1 < s1.heap.objs.size:=by obtain ⟨o,e,k⟩:=p1;exact aM e
   have hl2:l2 < s1.heap.objs.size:=by obtain ⟨o,e,k⟩:=p2;exact aM e
   refine L3.call_zipT p1 p2 fun h2 a1 a2 a3 a4 a5 a7=>iz ?_
   have pL:∀ {l:Addr} {v:Array Value},s1.heap.IsTuple l v->h2.IsTuple l v:=fun {l v} ⟨o,ho,r⟩=>⟨o,a7 _ _ ho,r⟩
   have hsz:s1.heap.objs.size+4 < h2.objs.size:=aM a1
   refine L3.zipL_call (s:={ s1 with heap:=h2 }) (I1.ok.hd hc) (vd _ l1 l2 hl1 hl2) (xs:=its1.toArray) (ys:=its2.toArray) (by simp;lia) (by simp;lia) (fun c hc=>?_) a1 a2 a3 a4 a5 (pL p1) (pL p2) fun h3 c3 kp md hS=>?_
   .show c < h2.objs.size
    rcases hc with rfl|rfl|rfl|rfl|rfl|rfl|rfl
    .exact hsz
    .exact iG (rm (by decide) _) hsz
    .exact iG (rm (by decide) _) hsz
    .exact fe (cj _ _) hsz
    .exact iG (rm (by decide) _) hsz
    .exact iG hl1 (fe (cj _ _) hsz)
    .exact iG hl2 (fe (cj _ _) hsz)
   .have md:L3.Made h3 (h2.objs.size+1) _:=md
    have hS:h3.get? h2.objs.size=some { cls:=.type "list",dict:=none,data:=.seq (L3.refs (h2.objs.size+1) its1.toArray.size) c3,slots:=#[] }:=hS
    have big:s1.heap.objs.size<=h2.objs.size:=eZ (fe (cj _ _) hsz)
    have keep:∀ b u,s1.heap.get? b=some u->h3.get? b=some u:=fun b u e=>by
     have lt:=aM e
     have ne:∀ d,b≠s1.heap.objs.size+d:=fun d=>bc (bD lt (cj _ _))
     exact kp b u (ne 4) (ne 3) (bc lt) (ne 1) (a7 b u e)
    let H':Hp:=fun b=>if b=h2.objs.size then some (.lst ((List.range xs.length).map fun j=>V.ref (h2.objs.size+1+j))) else
     if h2.objs.size < b then (match xs[b - (h2.objs.size+1)]?,ys[b - (h2.objs.size+1)]? with|some x,some y=>some (.tup [x,y])|_,_=>H1 b) else H1 b
    have old:∀ b,b < h2.objs.size->H' b=H1 b:=fun b hb=>by
     show (if b=h2.objs.size then _ else _)=_
     rw[ah (bc hb),ah (Nat.not_lt_of_lt hb)]
    have at':∀ (j:Nat) x y,xs[j]?=some x->ys[j]?=some y->H' (h2.objs.size+1+j)=some (.tup [x,y]):=fun j x y ex ey=>by
     have h1:h2.objs.size < h2.objs.size+1+j:=bD (gw _) (cj _ _)
     show (if _=h2.objs.size then _ else _)=_
     rw[ah (dr h1),ag h1,Nat.add_sub_cancel_left,ex,ey]
    have lAt:H' h2.objs.size=some (.lst ((List.range xs.length).map fun j=>V.ref (h2.objs.size+1+j))):=ag rfl
    have lt1:∀ b u,H1 b=some u->b < h2.objs.size:=fun b u e=>bD (I1.hok b u e).lt big
    have sm:Same H1 H':=fun b u e=>by rw[old b (lt1 b u e)];exact e
    have hn1:H1 h2.objs.size=none:=I1.hok.fresh big
    refine ⟨.ref h2.objs.size,H',I1.laidS (t':=s1.toks) keep sm (fun b o e n=>?_),rfl,q h2.objs.size (h2.objs.size+1) H' sm hn1 lAt at'⟩
    have hb:h2.objs.size<=b:=qX fun z=>by rw[old b z,n] at e;cases e
    refine ⟨aR big hb,?_⟩
    rcases Nat.lt_or_eq_of_le hb with hlt|heq
    .obtain ⟨j,rfl⟩:∃ j,b=h2.objs.size+1+j:=⟨b - (h2.objs.size+1),(Nat.add_sub_of_le hlt).symm⟩
     cases ex:xs[j]? with
     | none =>
      have e:(if _=h2.objs.size then _ else _)=some o:=e
      rw[ah (dr hlt),ag hlt,Nat.add_sub_cancel_left,ex] at e
      dsimp only at e
      rw[n] at e;cases e
     | some x =>
      have hj:=(ay.mp ex).1
      have ey:ys[j]?=some (ys[j]'(by lia)):=ax _
      rw[at' j _ _ ex ey] at e
      cases e
      obtain ⟨u1,z1,w1⟩:=rv1.get ex
      obtain ⟨u2,z2,w2⟩:=rv2.get ey
      have:=md j (u1,u2) (gA.mpr ⟨by simpa using z1,by simpa using z2⟩)
      exact ⟨by show 2<=sizeLine;decide,[u1,u2],.cons w1 (.cons w2 .nil),⟨_,this,rfl,_,rfl⟩⟩
    .subst heq
     rw[lAt] at e
     cases e
     have es:its1.toArray.size=xs.length:=by rw[bj];exact e1.symm
     rw[es] at hS
     refine ⟨by rw[ai,cH,PySem.sizeLine_eq];lia,(L3.refs (h2.objs.size+1) xs.length).toList,c3,?_,hS⟩
     unfold L3.refs
     have:∀ l:List Nat,Vals (l.map fun j=>V.ref (h2.objs.size+1+j)) (l.map fun j=>Value.ref (h2.objs.size+1+j)):=fun l=>by
      induction l with
      | nil=>exact .nil
      | cons a l ih=>exact .cons rfl ih
     simpa using this (List.range xs.length)
end
def rAny (K:W.Frag):List V->Hp->VK->Prop:=fun xs H Q=>∃ (a:Addr) (bs:List Bool),xs=[.ref a]/\SqL K H a (bs.map V.bl)/\Q (.bl (bs.any id)) H
theorem any_range (bs:List Bool):(List.range bs.length).any (fun i=>bs.getD i false)=bs.any id:=by
 rw[fL,any_eq_true,any_eq_true]
 constructor
 .rintro ⟨i,hi,h⟩
  have hi:=cN.mp hi
  refine ⟨bs[i],iQ hi,?_⟩
  simpa [hi] using h
 .rintro ⟨b,hb,h⟩
  obtain ⟨i,hi,rfl⟩:=mem_iff_getElem.mp hb
  exact ⟨i,cN.mpr hi,by simpa [hi] using h⟩
section
variable {X:Cx}
theorem Zl0 (hc:X.calm=true):bA X (.builtin "any") (rAny X.K):=by
 intro pins s Z H xs us Q I r h
 obtain ⟨a,bs,rfl,ha,q⟩:=h
 obtain ⟨u,rfl,ru⟩:=vals1 r
 cases ru
 obtain ⟨its,vx,ht,j⟩:=I.list ha
 have hlen:=vx.length
 rw[ai] at hlen
 have hlt:a < s.heap.objs.size:=by obtain ⟨j,e,j⟩:=ht.isList;exact aM e
 refine call_any_walk (nT ht.isList ?_)
 refine ⟨_,_,_,_,_,_,fun i=>bs.getD i false,rfl,Walks.list (A:=X.A.in1) (I.ok.hd hc) _ a (bc hlt) its.toArray,⟨⟨_,bp _ rfl,rfl,rfl⟩,ht.isList.push _⟩,?_,fun h' tk hk=>?_⟩
 .intro i v s' Q' E' hv hq
  have hv':its[i]?=some v:=by simpa using hv
  have hi:=(ay.mp hv').1
  have hib:i < bs.length:=by lia
  obtain ⟨u',eu,ru⟩:=vx.get (i:=i) (x:=.bl bs[i]) (by rw[aj,ax hib];rfl)
  rw[hv'] at eu
  cases eu
  cases ru
  have e:bs.getD i false=bs[i]:=by simp[hib]
  have hq:Q' (bs.getD i false) s':=hq
  rw[e] at hq
  exact gt hq
 .have hsz:its.toArray.size=bs.length:=by simp;lia
  rw[hsz,any_range]
  refine ⟨.bl _,H,I.kept fun b o e=>?_,rfl,q⟩
  refine hk b o (fun hm=>?_) (aJ _ e)
  have:b=s.heap.objs.size:=by simpa using hm
  rw[this] at e
  exact absurd (aM e) (gq _)
theorem k_any {K:W.Frag} (h:X.K=K) (hc:X.calm=true):bA X (.builtin "any") (rAny K):=h▸Zl0 hc
def rBits:V->List V->Hp->VK->Prop:=fun x vs H Q=>∃ n,x=.int n/\vs=[]/\Q (.int (Builtin.Int.intBits n)) H
theorem Zo4:MtR X "int.bit_length" rBits:=by
 intro pins s Z H x xs v us Q I rx r h
 obtain ⟨z,rfl,rfl,q⟩:=h
 obtain ⟨t,rfl⟩:=rx
 cases r
 exact call_int_bit_length ⟨.int _,H,I.tok _,⟨_,rfl⟩,q⟩
end
def entS (w:World) (q:Str×Tok×Str×Tok):DictEntry:=⟨hashStr w q.1,.str q.1 q.2.1,.str q.2.2.1 q.2.2.2⟩
def CSat (K:W.Frag) (w:World) (a:Addr) (tb:List (Str×Str)):Prop :=
 (a == sysModules)=false/\(tb.map (·.1)).Nodup/\∃ (rows:List (Str×Tok×Str×Tok)) (ep:Nat),K.lookup a=some { cls:=.type "dict",data:=.dict (rows.map (entS w)).toArray ep }/\rows.map (fun q=>(q.1,q.2.2.1))=tb
theorem uo {P : Program} {w : World} : ∀ (rows : List (Str × Tok × Str × Tok)), Pairs (bC P w) (rows.map (entS w)) (rows.map fun q => ((Sum.inr q.1 : Key), Value.str q.2.2.1 q.2.2.2))
  | [] => .nil
  | q :: rows => by
    rw[aF,aF]
    exact .cons (qH P w q.1 q.2.1) rfl (uo rows)
theorem Zpz (rows:List (Str×Tok×Str×Tok)) (x:Str):(((rows.map fun q=>(q.1,q.2.2.1)).lookup x=none/\valueAt (rows.map fun q=>((Sum.inr q.1:Key),Value.str q.2.2.1 q.2.2.2)) (Sum.inr x)=none))\/∃ y t,(rows.map fun q=>(q.1,q.2.2.1)).lookup x=some y/\valueAt (rows.map fun q=>((Sum.inr q.1:Key),Value.str q.2.2.1 q.2.2.2)) (Sum.inr x)=some (.str y t):=by
 induction rows with
 | nil=>exact .inl ⟨rfl,rfl⟩
 | cons q qs ih =>
  obtain ⟨p1,t1,y1,t2⟩:=q
  by_cases z:x=p1
  .subst z
   exact .inr ⟨y1,t2,by simp[List.lookup],by simp[valueAt]⟩
  .have z1:(x == p1)=false:=by simpa using z
   have z2:¬ p1=x:=fun w=>z w.symm
   have e1:(((p1,t1,y1,t2)::qs).map fun q:Str×Tok×Str×Tok=>(q.1,q.2.2.1)).lookup x=(qs.map fun q=>(q.1,q.2.2.1)).lookup x:=by simp[List.lookup,z1]
   have e2:valueAt (((p1,t1,y1,t2)::qs).map fun q:Str×Tok×Str×Tok=>((Sum.inr q.1:Key),Value.str q.2.2.1 q.2.2.2)) (Sum.inr x)=valueAt (qs.map fun q=>((Sum.inr q.1:Key),Value.str q.2.2.1 q.2.2.2)) (Sum.inr x):=by
    simp[valueAt,z2]
   rw[e1,e2]
   exact ih
theorem CSat.dict {P:Program} {w:World} {K:W.Frag} {h:Heap} {a:Addr} {tb:List (Str×Str)} (c:CSat K w a tb) (hk:K.In h):∃ vs,h.DictOf (bC P w) a vs /\
  ∀ x,(tb.lookup x=none/\valueAt vs (Sum.inr x)=none)\/∃ y t,tb.lookup x=some y/\valueAt vs (Sum.inr x)=some (.str y t):=by
 obtain ⟨hs,nd,rows,ep,hl,rfl⟩:=c
 refine ⟨rows.map fun q=>((Sum.inr q.1:Key),Value.str q.2.2.1 q.2.2.2),⟨_,_,ep,hk a _ hl,⟨rfl,rfl,rfl⟩,rfl,?_,by simpa using uo rows,?_⟩,Zpz rows⟩
 .intro e he
  have he:e∈rows.map (entS w):=by simpa using he
  obtain ⟨q,hq,rfl⟩:=bL.mp he
  exact ⟨.inr q.1,qH P w q.1 q.2.1,rfl⟩
 .rw[cG] at nd ⊢
  have e2:rows.map ((fun x:Key×Value=>x.1) ∘ fun q:Str×Tok×Str×Tok=>((Sum.inr q.1:Key),Value.str q.2.2.1 q.2.2.2))=(rows.map ((fun x:Str×Str=>x.1) ∘ fun q:Str×Tok×Str×Tok=>(q.1,q.2.2.1))).map Sum.inr:=by rw[cG];rfl
  rw[e2]
  exact List.Pairwise.map _ (fun a b z z'=>z (Sum.inr.inj z')) nd
def IsCS (K:W.Frag) (w:World) (mg:Str->Option Value) (x:Str) (tb:List (Str×Str)):Prop:=∃ a,mg x=some (.ref a)/\CSat K w a tb
def tQ (tb:List (Str×Str)) (ty tx:TE):TE:=fun Z H Q=>ty Z H fun y H1=>tx Z H1 fun z H2=>∃ k,y=.str k/\Q (((tb.lookup k).map V.str).getD z) H2
theorem ZmQ {X:Cx} {K:W.Frag} {w:World} {x:Str} {tb:List (Str×Str)} {e f:Expr} {pos apos cpos:Pos} {ty tx:TE} (hK:X.K=K) (hw:X.w=w) (hg:Gl X x) (hx:IsCS K w X.mg x tb) (he:PE X e ty) (hf:PE X f tx) (m:M2 X (.Name x pos) "get" apos e f cpos) (hd:(x == ("__debug__":Str))=false:=by decide) :
  PE X (.Call (.Attribute (.Name x pos) "get" apos) [e,f] [] cpos) (tQ tb ty tx):=by
 subst hK hw
 obtain ⟨a,hx,c⟩:=hx
 intro pins s Z H Q I h
 refine nV m.base m.few m.line PySem.F.plainAttrs_dict PySem.F.slot_dict_get PySem.F.type_dict_get (thn (pV (v:=.ref a) hg hx rfl hd pins s Z H (fun v H1=>v=.ref a/\H1=H) I ⟨rfl,rfl⟩) fun u s1 z0_=>?_)
 obtain ⟨v,H1,I1,rx,e1,e2⟩:=z0_
 subst e1 e2
 obtain rfl:u=Value.ref a:=rx
 obtain ⟨vs,dd,hfd⟩:=c.dict (P:=X.prog) I1.kIn
 refine ⟨dd.typeIs,fun b q=>?_,?_⟩
 .cases q
  obtain ⟨ob,j,j,h1,h2,j⟩:=dd
  exact ⟨ob,h1,h2.2.1⟩
 rw[m.trees]
 refine iE rfl (jX (e8 (thn (he pins s1 Z _ _ I1 h) fun iv s2 ⟨y,H2,I2,ry,q2⟩ =>
  e8 (thn (hf pins s2 Z H2 _ I2 q2) fun fv s3 ⟨z,H3,I3,rz,k,ey,q3⟩=>iz ?_))))
 subst ey
 obtain ⟨vs,dd,hfd⟩:=c.dict (P:=X.prog) I3.kIn
 refine j0 PySem.F.slot_dict_get dd.typeIs PySem.F.entry_dict_get (PySem.F.args_dict_get_3 _ _ _) (meets_dict_get_default (bC X.prog X.w) a (jq (k:=Sum.inr k) ry) c.1 fv) ⟨_,dd.mapOf,⟨_,H3,I3.tok _,?_,q3⟩⟩
 rcases hfd k with ⟨e1,e2⟩|⟨y,t,e1,e2⟩
 .rw[e1,e2];exact rz
 .rw[e1,e2];exact ⟨t,rfl⟩
def rowDeedsT:List (Str×Str):=[("zero","test"),("below","test"),("tell","tell"),("take","take")]
section
variable {P:Program} {w:World} {K:W.Frag} {G G1 G2 G':GH} {H H1 H2 H':Hp} {a b:Addr} {Γ:Ev} {ta te td ty tx tv:TE} {tr:TA} {k:T->GH->Prop} {d x y z:T} {v:V} {i j n:Int} {ts us:List T}
theorem qm : ∀ {bs : List Bool} {vs : List V}, RepTs K G H (bs.map T.bl) vs -> vs = bs.map V.bl
  | [], _, r => by cases r; rfl
  | s :: ss, _, r => by
    cases r with
    | cons r1 r2 => cases r1; rw[qm r2]; rfl
theorem uA : ∀ {bs : List Int} {vs : List V}, RepTs K G H (bs.map T.int) vs -> vs = bs.map V.int
  | [], _, r => by cases r; rfl
  | s :: ss, _, r => by
    cases r with
    | cons r1 r2 => cases r1; rw[uA r2]; rfl
theorem mW {bs:List Bool} (h:k (.bl (bs.any id)) G):LNr P w K (rAny K) [.lst (bs.map T.bl)] G k:=fun H us g r Q z=>by
 cases r with|cons r1 r2=>cases r2;cases r1 with|lst _ e q=>exact ⟨_,bs,rfl,by rw[<-qm q];exact SqL.of e,z.here g .bl h⟩
theorem kG {bs:List Bool} (h:k (.bl (bs.all id)) G):LNr P w K (rAll K) [.lst (bs.map T.bl)] G k:=fun H us g r Q z=>by
 cases r with|cons r1 r2=>cases r2;cases r1 with|lst _ e q=>exact ⟨_,bs,rfl,by rw[<-qm q];exact SqL.of e,z.here g .bl h⟩
theorem lJ {bs:List Int} (h:k (.int bs.sum) G):LNr P w K (rSum K) [.lst (bs.map T.int)] G k:=fun H us g r Q z=>by
 cases r with|cons r1 r2=>cases r2;cases r1 with|lst _ e q=>exact ⟨_,bs,rfl,by rw[<-uA q];exact SqL.of e,z.here g .int h⟩
theorem mf (h:We P w K te Γ G fun x G1=>∃ n,x=.int n/\k (.int (Builtin.Int.intBits n)) G1):We P w K (tBM0 K "int" rBits te) Γ G k:=fun H Z g ev Q z=>h H Z g ev _ fun v H1 x G1 s1 g1 r1 ⟨n,e,q⟩=>by
 subst e;cases r1
 exact ⟨rfl,n,rfl,rfl,(z.mono s1).here g1 .int q⟩
theorem mD {tb:List (Str×Str)} (h:We P w K ty Γ G fun y G1=>We P w K tx Γ G1 fun z G2=>∃ s,y=.str s/\k (((tb.lookup s).map T.str).getD z) G2):We P w K (tQ tb ty tx) Γ G k:=fun H Z g ev Q z=>h H Z g ev _ fun v H1 y G1 s1 g1 r1 q1=>q1 H1 Z g1 (ev.mono g s1) _ fun v2 H2 zz G2 s2 g2 r2 ⟨s,e,q⟩=>by
 subst e;cases r1
 refine ⟨s,rfl,?_⟩
 have zz:=z.mono (s1.trans s2)
 cases hl:tb.lookup s with
 | none=>rw[hl] at q;exact zz.here g2 r2 q
 | some y=>rw[hl] at q;exact zz.here g2 .str q
theorem mE (h:Wa P w K tr Γ G fun xs G1=>∃ ts us,xs=[.tup ts,.tup us]/\ts.length=us.length/\ts.length<=1000/\k (.lst ((ts.zip us).map fun p=>.tup [p.1,p.2])) G1):We P w K (tLZip K tr) Γ G k:=fun H Z g ev Q z=>h H Z g ev _ fun vs H1 xs G1 s1 g1 r1 ⟨ts,us,e,hl,hn,q⟩=>by
 subst e
 cases r1 with
 | cons r1 r2 =>
 cases r2 with
 | cons r2 r3 =>
 cases r3
 cases r1 with
 | @tup p xs _ hp rx =>
 cases r2 with
 | @tup q' ys _ hq ry =>
 have e1:=rx.length
 have e2:=ry.length
 refine ⟨p,q',xs,ys,rfl,SqT.of hp,SqT.of hq,by lia,by lia,fun l m H' sm hl' hL hT=>?_⟩
 have g2:=g1.same sm
 refine z _ _ _ _ (s1.trans (.same sm)) g2 (.lst (g1.free hl') hL ?_) q
 have rx':=rx.mono g1 (.same sm)
 have ry':=ry.mono g1 (.same sm)
 clear hp hq hL sm hl'
 clear rx ry
 generalize hxl:xs.length=n
 have key:∀ (n:Nat) (ts us:List T) (xs ys:List V) (m:Addr),xs.length=n->ys.length=n->RepTs K G1 H' ts xs->RepTs K G1 H' us ys->(∀ (j:Nat) x y,xs[j]?=some x->ys[j]?=some y->H' (m+j)=some (.tup [x,y])) ->
   RepTs K G1 H' ((ts.zip us).map fun p=>T.tup [p.1,p.2]) ((List.range n).map fun j=>V.ref (m+j)):=by
  intro n
  induction n with
  | zero =>
   intro ts us xs ys m h1 h2 r1 r2 hT
   cases r1 with
   | nil=>exact .nil
   | cons _ _=>simp at h1
  | succ n ih =>
   intro ts us xs ys m h1 h2 r1 r2 hT
   cases r1 with
   | nil=>simp at h1
   | cons a1 b1 =>
    cases r2 with
    | nil=>simp at h2
    | cons a2 b2 =>
     rw[range_succ_eq_map,aF,cG,hJ,aF]
     refine .cons (.tup (hT 0 _ _ rfl rfl) (.cons a1 (.cons a2 .nil))) ?_
     have:=ih _ _ _ _ (m+1) (by simpa using h1) (by simpa using h2) b1 b2 fun j x y ex ey=>by
      have:=hT (j+1) x y (by simpa using ex) (by simpa using ey)
      rw[show m+1+j=m+(j+1) from Nat.add_right_comm m 1 j]
      exact this
     refine (?_:RepTs K G1 H' _ _)
     have e:(List.range n).map ((fun j=>V.ref (m+j)) ∘ Nat.succ)=(List.range n).map fun j=>V.ref (m+1+j):=by
      refine j7 fun j v=>?_
      show V.ref (m+(j+1))=_
      rw[show m+1+j=m+(j+1) from Nat.add_right_comm m 1 j]
     rw[e]
     exact this
 exact key n ts us xs ys m hxl (by lia) rx' ry' hT
mutual
def emb:D->T
 | .non=>.non
 | .bl b=>.bl b
 | .int i=>.int i
 | .str x=>.str x
 | .tup ds=>.tup (embs ds)
def embs:List D->List T
 | []=>[]
 | d::ds=>emb d::embs ds
end
mutual
theorem pF : ∀ {d : D} {v : V}, RepT K G H (emb d) v -> Rep H d v
  | .non, v, r => by rw[emb] at r; cases r; rw[Rep]
  | .bl b, v, r => by rw[emb] at r; cases r; rw[Rep]
  | .int i, v, r => by rw[emb] at r; cases r; rw[Rep]
  | .str x, v, r => by rw[emb] at r; cases r; rw[Rep]
  | .tup ds, v, r => by
    rw[emb] at r
    cases r with
    | tup h rs => exact Zoz h (rS rs)
theorem rS : ∀ {ds : List D} {vs : List V}, RepTs K G H (embs ds) vs -> Reps H ds vs
  | [], vs, r => by rw[embs] at r; cases r; exact jM
  | d :: ds, vs, r => by
    rw[embs] at r
    cases r with
    | cons h rs => exact ZkD (pF h) (rS rs)
end
theorem l_eqD {ds es:List D} (p1:D.pls ds=true) (p2:D.pls es=true) (hd:D.deps ds<=40) (h:k (.bl (eqD (.tup ds) (.tup es))) G):L2r P w K rEqD (.tup (embs ds)) (.tup (embs es)) G k:=fun H u v g r1 r2 Q z =>
 ⟨ds,es,pF (d:=.tup ds) (by rw[emb];exact r1),pF (d:=.tup es) (by rw[emb];exact r2),p1,p2,hd,z.here g .bl h⟩
end
end L2
end
section
namespace L2
open PySem
abbrev rowT (r:Rw):T:=.tup (.str r.row.1::embs r.row.2)
abbrev dfT (d:Df):T:=.tup [.int d.takes,.int d.boxes,.lst (d.rows.map rowT)]
abbrev pgT (P:List Df):T:=.lst (P.map dfT)
abbrev sfT (s:SF):T:=.tup [.int s.1,.int s.2.1,.tup (s.2.2.map fmT)]
theorem dG {α:Type} (l:List α) (x:α):atI (l++[x]) (-1)=some x:=by
 unfold atI ixN
 rw[ah (by decide),ag (by rw[aA];simp;lia)]
 show (l++[x])[((-1:Int)+(l++[x]).length).toNat]?=_
 have:((-1:Int)+(l++[x]).length).toNat=l.length:=by rw[aA];simp;lia
 rw[this]
 exact cI
theorem ZpF {α:Type} (l:List α) (x y:α):atI (l++[x,y]) (-2)=some x:=by
 unfold atI ixN
 rw[ah (by decide),ag (by rw[aA];simp;lia)]
 show (l++[x,y])[((-2:Int)+(l++[x,y]).length).toNat]?=_
 have:((-2:Int)+(l++[x,y]).length).toNat=l.length:=by rw[aA];simp;lia
 rw[this,fM (aq _),oB]
 rfl
theorem at_0 {α:Type} {x:α} {l:List α}:atI (x::l) 0=some x:=by
 unfold atI ixN
 rw[ag (by decide),ag (by rw[bz];lia)];rfl
theorem at_1 {α:Type} {x y:α} {l:List α}:atI (x::y::l) 1=some y:=by
 unfold atI ixN
 rw[ag (by decide),ag (by rw[bz,bz];lia)];rfl
theorem at_2 {α:Type} {x y z:α} {l:List α}:atI (x::y::z::l) 2=some z:=by
 unfold atI ixN
 rw[ag (by decide),ag (by rw[bz,bz,bz];lia)];rfl
theorem at_i {α:Type} {l:List α} {i:Int} {x:α} (h:0<=i) (e:l[i.toNat]?=some x):atI l i=some x:=bw (n:=i.toNat) (by lia) e
theorem ZlQ (l:List T) (x:T):cutT (l++[x]) none (some (-1))=l:=by
 unfold cutT HT.sIx
 rw[aA,fc]
 dsimp only
 rw[ag (by decide),drop_zero,Nat.sub_zero]
 have:((-1:Int)+((l.length+1:Nat):Int)).toNat=l.length:=by lia
 rw[this]
 exact take_left
theorem Zpy {l:List T} {i:Int} (h:0<=i) (h2:i<=l.length):cutT l none (some i)=l.take i.toNat:=by
 unfold cutT HT.sIx
 dsimp only
 rw[ah (by lia),drop_zero,Nat.sub_zero]
 congr 1
 lia
theorem rH {l:List T} {i:Int} (h:0<=i) (h2:i<=l.length):cutT l (some i) none=l.drop i.toNat:=by
 unfold cutT HT.sIx
 dsimp only
 rw[ah (by lia)]
 have:min i.toNat l.length=i.toNat:=by lia
 rw[this,nY (by rw[iA];exact aq _)]
section
variable {P:Program} {w:World} {K:W.Frag} {G:GH} {k:T->GH->Prop} {d:T} {ts:List T} {i:Int}
theorem cM (e:atI ts i=some d) (h:k d G):L2r P w K (rIxA K) (.tup ts) (.int i) G k:=l_ix sg_t e h
theorem bM (e:atI ts i=some d) (h:k d G):L2r P w K (rIxA K) (.lst ts) (.int i) G k:=l_ix sg_l e h
theorem pS (h:k (.int ts.length) G):LNr P w K (rLen K) [.lst ts] G k:=dh sg_l h
end
def sZ (vs:List V):List Str:=vs.filterMap fun v=>match v with|.str x=>some x|_=>none
theorem qO {P:Program} {w:World} {K:W.Frag} {G:GH} {k:T->GH->Prop} {Γ:Ev} {vs:List V} (e:(sZ vs).map V.str=vs) (h:k (.cst (sZ vs)) G):We P w K (tCT K vs) Γ G k:=by
 have:=jt (P:=P) (w:=w) (K:=K) (Γ:=Γ) h
 rwa [e] at this
theorem cD {P:Program} {w:World} {K:W.Frag} {G:GH} {k:T->GH->Prop} {Γ:Ev} {LN:List Str} {fr:List Nat} {wi:TI} {g:TG} {te:TE} (Sh:Ev->Prop)
  (h:Wi P w K wi Γ G fun xs kp G1=>xs.length<=100000/\kp G1/\Sh (bkE LN.length fr Γ)/\∃ ys:List T,ys.length=xs.length/\(∀ (i:Nat) x y Γ',xs[i]?=some x->ys[i]?=some y->Sh Γ'->Wg P w K g x Γ' G1 fun Γ2 G2=>Sh Γ2/\G2=G1/\We P w K te Γ2 G1 fun d G4=>d=y/\G4=G1)/\k (.lst ys) G1):We P w K (ee LN fr wi g gG te) Γ G k:=by
 refine fJ fun H Z g ev Q z=>h H Z g ev Q fun J H' xs kp G' s1 g1 it ⟨hl,hk,sh,ys,hy,hs,q⟩=>z J H' xs kp G' s1 g1 it ⟨hl,fun i acc Γ2 G2=>Sh Γ2/\G2=G'/\acc=ys.take i,⟨sh,rfl,rfl⟩,fun i acc Γ2 G2 z0_=>by obtain ⟨j,e,j⟩:=z0_;exact e▸hk,fun i x acc Γ2 G2 hx ⟨sh2,e,ea⟩=>?_,fun acc Γ2 G2 ⟨_,e,ea⟩=>?_⟩
 .subst e ea
  have hi:=(ay.mp hx).1
  have ey:ys[i]?=some (ys[i]'(by lia)):=ax _
  intro H3 σ3 v g3 e3 r3 R z3
  refine hs i x _ Γ2 hx ey sh2 H3 σ3 v g3 e3 r3 R fun σ4 H4 Γ4 G4 s4 g4 e4 ⟨sh4,eG,we⟩=>z3 σ4 H4 Γ4 G4 s4 g4 e4 ?_
  subst eG
  refine i3 (iteT fun H5 σ5 g5 e5 Q5 z5=>we H5 σ5 g5 e5 Q5 fun v6 H6 d6 G6 s6 g6 r6 ⟨ed,eg⟩=>z5 v6 H6 d6 G6 s6 g6 r6 ?_)
  subst ed eg
  exact ⟨sh4,rfl,by rw[b9,ey];rfl⟩
 .subst e ea
  rw[<-hy,ck];exact q
theorem oQ:∀ qs:List Int,embs (qs.map D.int)=qs.map T.int
 | []=>by rw[cQ,embs];rfl
 | q::qs=>by rw[aF,embs,oQ qs,emb];rfl
def gtF (s:SF) (q:Int):Fm:=s.2.2.getD q.toNat (0,[])
def gM (fr:List SF) (s:SF) (p:Int) (f:Fm):List SF:=fr++[(s.1,s.2.1+1,s.2.2.set p.toNat f)]
def dC (fr:List SF) (s:SF) (t:Int):List SF:=fr++[(s.1,t,s.2.2)]
def hX (P:List Df) (g:Int):Int:=((P[g.toNat]?).map (·.boxes)).getD 0
def gP (P:List Df) (s:SF) (g:Int) (qs:List Int):SF:=(g,0,qs.map (gtF s)++List.replicate (hX P g - qs.length).toNat (0,[]))
def eQ (s:SF):Rw->Option (Int×Fm)
 | .put p n=>some (p,(n,[]))
 | .copy p q=>some (p,gtF s q)
 | .plus p q r=>some (p,cg (gtF s q) (gtF s r) 1)
 | .less p q r=>some (p,cg (gtF s q) (gtF s r) (-1))
 | .times p q n=>some (p,pK (gtF s q) n)
 | _=>none
def Rw.cbox:Rw->Int
 | .call p _ _=>p
 | _=>0
def fF (P : List Df) (fr : List SF) (s : SF) : Option (List SF) := match cx P s.1 s.2.1 with
  | none => none
  | some r => match eQ s r with
    | some (p, f) => some (gM fr s p f)
    | none => match r with
      | .jump t => some (dC fr s t)
      | .zero p t => if (gtF s p).2 = [] then some (dC fr s (if (gtF s p).1 = 0 then t else s.2.1 + 1)) else none
      | .below p t => if (gtF s p).2 = [] then some (dC fr s (if (gtF s p).1 < 0 then t else s.2.1 + 1)) else none
      | .call _ g qs => if fr.length < 3 then some (fr ++ [s, gP P s g qs]) else none
      | .back p => match fr.getLast? with
        | none => none
        | some c => some (gM fr.dropLast c ((cx P c.1 c.2.1).map Rw.cbox |>.getD 0) (gtF s p))
      | _ => none
structure SfOk (P:List Df) (n B:Nat) (s:SF):Prop where
 ex:∃ d r,0<=s.1/\P[s.1.toNat]?=some d/\0<=s.2.1/\d.rows[s.2.1.toNat]?=some r/\(s.2.2.length:Int)=d.boxes
 fm:∀ f∈s.2.2,Fo n B f
theorem SfOk.le {P:List Df} {n m B C:Nat} {s:SF} (h:SfOk P n B s) (h1:n<=m) (h2:B<=C):SfOk P m C s:=⟨h.ex,fun f hf=>(h.fm f hf).le h1 h2⟩
structure FrsOk (P:List Df) (n B:Nat) (fr:List SF) (s:SF):Prop where
 few:fr.length<=3
 all:∀ t∈fr++[s],SfOk P n B t
 call:∀ t∈fr,∃ p g qs,cx P t.1 t.2.1=some (.call p g qs)
structure PgK (P:List Df):Prop where
 ok:PgOk P
 b:∀ d∈P,d.boxes<=8
theorem cW {P:List Df} {n B:Nat} {s:SF} (h:SfOk P n B s):∃ d r,d∈P/\P[s.1.toNat]?=some d/\cx P s.1 s.2.1=some r/\d.rows[s.2.1.toNat]?=some r/\0<=s.1/\0<=s.2.1/\(s.2.2.length:Int)=d.boxes:=by
 obtain ⟨d,r,h1,h2,h3,h4,h5⟩:=h.ex
 exact ⟨d,r,aw h2,h2,by unfold cx;rw[h2];exact h4,h4,h1,h3,h5⟩
theorem uu {P:List Df} {n B:Nat} {s:SF} (h:SfOk P n B s) {q:Int} (h1:0<=q) (h2:q < s.2.2.length):Fo n B (gtF s q)/\s.2.2[q.toNat]?=some (gtF s q):=by
 have e:s.2.2[q.toNat]?=some (gtF s q):=by
  unfold gtF
  rw[dU,ax (by lia)];rfl
 exact ⟨h.fm _ (aw e),e⟩
theorem oR {P:List Df} {n B:Nat} {s:SF} (h:SfOk P n B s) {p:Int} {f:Fm} (hf:Fo n B f) {t:Int} (ht:0<=t) (hr:∀ d,P[s.1.toNat]?=some d->t.toNat < d.rows.length):SfOk P n B (s.1,t,s.2.2.set p.toNat f):=by
 obtain ⟨d,r,h1,h2,h3,h4,h5⟩:=h.ex
 refine ⟨⟨d,_,h1,h2,ht,ax (hr d h2),by rw[bQ];exact h5⟩,fun g hg=>?_⟩
 rcases gB hg with hg|hg
 .exact h.fm g hg
 .rw[hg];exact hf
theorem kX {P:List Df} {n B:Nat} {s:SF} (h:SfOk P n B s) {t:Int} (ht:0<=t) (hr:∀ d,P[s.1.toNat]?=some d->t.toNat < d.rows.length):SfOk P n B (s.1,t,s.2.2):=by
 obtain ⟨d,r,h1,h2,h3,h4,h5⟩:=h.ex
 exact ⟨⟨d,_,h1,h2,ht,ax (hr d h2),h5⟩,h.fm⟩
theorem ja {P:List Df} (K:PgK P) {n B:Nat} {s:SF} (h:SfOk P n B s) {r:Rw} (hr:cx P s.1 s.2.1=some r) (hl:¬ r.last):0<=s.2.1+1/\∀ d,P[s.1.toNat]?=some d->(s.2.1+1).toNat < d.rows.length:=by
 obtain ⟨d,r',hd,h2,hr',h4,h0,h3,h5⟩:=cW h
 rw[hr] at hr';cases hr'
 refine ⟨by lia,fun d' hd'=>?_⟩
 rw[h2] at hd';cases hd'
 obtain ⟨rl,el,ll⟩:=(K.ok.2.2 d hd).last
 have hlt:=(ay.mp h4).1
 by_cases e:s.2.1.toNat=d.rows.length - 1
 .rw[<-e,h4] at el;cases el;exact absurd ll hl
 .rw[Int.toNat_add h3 (by decide)]
  exact Nat.lt_of_le_of_ne hlt fun z=>e (by rw[<-z];rfl)
theorem Fo.nil {n B:Nat} {c:Int} (h:c.natAbs<=B):Fo n B (c,[]):=⟨h,fun p hp=>(bv hp).elim,fun p hp=>(bv hp).elim,eI⟩
theorem Zky {P:List Df} (K:PgK P) {n B:Nat} (hB:10 ^ 60<=B) {fr:List SF} {s:SF} (h:FrsOk P n B fr s) {fr':List SF} (e:fF P fr s=some fr'):∃ f2 s2,fr'=f2++[s2]/\FrsOk P n (100 * B) f2 s2:=by
 have hs:=h.all s (by simp)
 obtain ⟨d,r,hd,h2,hr,h4,h0,h3,h5⟩:=cW hs
 have ok:=(K.ok.2.2 d hd).rows r (aw h4)
 have BB:B<=100 * B:=Nat.le_mul_of_pos_left B (by decide)
 have B2:B+1 * B<=100 * B:=by rw[jZ,<- Nat.succ_mul];exact oE B (by decide)
 have hs':=hs.le (aq n) BB
 have fr':∀ t∈fr,SfOk P n (100 * B) t:=fun t ht=>(h.all t (by simp[ht])).le (aq n) BB
 have mk:∀ s2:SF,SfOk P n (100 * B) s2->FrsOk P n (100 * B) fr s2:=fun s2 h2=>⟨h.few,fun t ht=>by rcases aT.mp ht with ht|ht;exact fr' t ht;rw[aN.mp ht];exact h2,h.call⟩
 have bx:∀ {q:Int},In0 q d.boxes->Fo n B (gtF s q):=fun {q} hq=>(uu hs hq.1 (by have:=hq.2;lia)).1
 have rk:∀ {p:Int} {f:Fm},Fo n (100 * B) f->¬ r.last->∃ f2 s2,gM fr s p f=f2++[s2]/\FrsOk P n (100 * B) f2 s2:=fun {p f} hf hl=>by
  obtain ⟨n1,n2⟩:=ja K hs hr hl
  exact ⟨fr,_,rfl,mk _ (oR hs' hf n1 n2)⟩
 unfold fF at e
 rw[hr] at e
 have tr:∀ {t:Int},In0 t d.rows.length->∃ f2 s2,dC fr s t=f2++[s2]/\FrsOk P n (100 * B) f2 s2:=fun {t} ht=>⟨fr,_,rfl,mk _ (kX hs' ht.1 fun d' hd'=>by rw[h2] at hd';cases hd';have:=ht.2;have:=ht.1;lia)⟩
 have nx:¬ r.last->∃ f2 s2,dC fr s (s.2.1+1)=f2++[s2]/\FrsOk P n (100 * B) f2 s2:=fun hl=>by
  obtain ⟨n1,n2⟩:=ja K hs hr hl
  exact ⟨fr,_,rfl,mk _ (kX hs' n1 n2)⟩
 cases r with
 | put p m=>cases e;exact rk (Fo.nil (aR ok.2 (aR hB BB))) (fun h=>h)
 | copy p q=>cases e;exact rk ((bx ok.2).le (aq _) BB) (fun h=>h)
 | plus p q r=>cases e;exact rk ((qi (bx ok.2.1) (bx ok.2.2)).le (aq _) B2) (fun h=>h)
 | less p q r=>cases e;exact rk ((qi (bx ok.2.1) (bx ok.2.2)).le (aq _) B2) (fun h=>h)
 | times p q m=>cases e;exact rk ((Zkp (bx ok.2.1)).le (aq _) (oE _ (Nat.le_succ_of_le ok.2.2))) (fun h=>h)
 | take p=>cases e
 | tell p=>cases e
 | jump t=>cases e;exact tr ok
 | zero p t =>
  dsimp only [eQ] at e
  split at e
  .cases e
   split
   .exact tr ok.2
   .exact nx (fun h=>h)
  .cases e
 | below p t =>
  dsimp only [eQ] at e
  split at e
  .cases e
   split
   .exact tr ok.2
   .exact nx (fun h=>h)
  .cases e
 | call p g qs =>
  dsimp only [eQ] at e
  split at e
  .next hl =>
   cases e
   obtain ⟨d2,g0,hg,hq⟩:=ok.2.1
   have D2:=K.ok.2.2 d2 (aw hg)
   have eb:hX P g=d2.boxes:=by unfold hX;rw[hg];rfl
   have hq2:(qs.length:Int)<=d2.boxes:=by rw[hq];exact D2.t.2
   refine ⟨fr++[s],gP P s g qs,by rw[fP];rfl,by rw[aA];simp;lia,fun t ht=>?_,fun t ht=>?_⟩
   .rcases aT.mp ht with ht|ht
    .rcases aT.mp ht with ht|ht
     .exact fr' t ht
     .rw[aN.mp ht];exact hs'
    .rw[aN.mp ht]
     obtain ⟨rl,el,j⟩:=D2.last
     have hpos:0 < d2.rows.length:=fe (bg _) (ay.mp el).1
     refine ⟨⟨d2,_,g0,hg,Int.le_refl 0,ax hpos,?_⟩,fun f hf=>?_⟩
     .unfold gP
      rw[eb]
      simp
      lia
     .unfold gP at hf
      rcases aT.mp hf with hf|hf
      .obtain ⟨q,hq',rfl⟩:=bL.mp hf
       exact (bx (ok.2.2 q hq')).le (aq _) BB
      .rw[eq_of_mem_replicate hf];exact Fo.nil (bg _)
   .rcases aT.mp ht with ht|ht
    .exact h.call t ht
    .rw[aN.mp ht];exact ⟨p,g,qs,hr⟩
  .cases e
 | back p =>
  dsimp only [eQ] at e
  cases hl:fr.getLast? with
  | none=>rw[hl] at e;cases e
  | some c =>
   rw[hl] at e
   cases e
   obtain ⟨ys,rfl⟩:=rn.mp hl
   obtain ⟨p2,g,qs,hc⟩:=h.call c (by simp)
   have hcs:=fr' c (by simp)
   obtain ⟨n1,n2⟩:=ja K hcs hc (fun h=>h)
   rw[iT,hc]
   refine ⟨ys,_,rfl,by have:=h.few;rw[aA] at this;simp at this;lia,fun t ht=>?_,fun t ht=>h.call t (by simp[ht])⟩
   rcases aT.mp ht with ht|ht
   .exact fr' t (by simp[ht])
   .rw[aN.mp ht]
    exact oR hcs ((bx ok).le (aq _) BB) n1 n2
end L2
end
section
namespace L3
open PySem Builtin Builtin.Str
section
variable {prog:Program} {w:World} {A:Around} {E:Value->Shared->Prop} {s:Shared}
theorem enT_item {e it l:Addr} {i:Nat} {items:Array Value} {x old:Value} {Q:Option Value->Shared->Prop} (he:IsEnum s.heap e it i old) (hit:s.heap.IsTupleIter it l i) (hl:s.heap.IsTuple l items) (hx:items[i]?=some x) (hne:e≠it)
  (hQ:∀ h',IsEnumOut h' e it ((i:Int)+1) x s.heap.objs.size->h'.IsTupleIter it l (i+1)->h'.get? s.heap.objs.size=some { cls:=.type "tuple",data:=.seq #[.int i s.toks,x] }->(∀ b o,b≠e->b≠it->s.heap.get? b=some o->h'.get? b=some o)->Q (some (.ref s.heap.objs.size)) { s with heap:=h',toks:=s.toks+1 }) :
  wpAny (model prog w) A (pyNext (.ref e)) Q E s:=by
 have hT:s.TypeIs (.ref e) "enumerate":=⟨_,he,rfl⟩
 unfold pyNext
 refine ab (iL (fb (name:=Str.ofString "__next__") hT F.slot_enumerate_next (dD F.slot_enumerate_next hT F.entry_enumerate_next ?_ (F.args_enumerate_next_1 _))))
 show wpAny _ _ (field (.ref e) 2 >>= _) _ _ _
 refine ab (bF he rfl (x:=.ref it) rfl (ab (nextT hit hl hx fun g1 it1 s1=>?_)))
 have e1:IsEnum g1 e it i old:=(s1.2 e hne).trans he
 show wpAny _ _ (field (.ref e) 3 >>= _) _ _ { s with heap:=g1 }
 refine ab (bF e1 rfl (x:=rawInt i) rfl ?_)
 show wpAny _ _ (field (.ref e) 4 >>= _) _ _ { s with heap:=g1 }
 refine ab (bF e1 rfl (x:=.none) rfl ?_)
 show wpAny _ _ (mkInt i >>= _) _ _ { s with heap:=g1 }
 refine ab (wpAny_mkInt ?_)
 show wpAny _ _ (setField (.ref e) 3 (rawInt ((i:Int)+1)) >>= _) _ _ _
 refine ab (dS e1 (by simp) fun g2 e2 s2=>?_)
 have e2:IsEnum g2 e it ((i:Int)+1) old:=e2
 show wpAny _ _ (setField (.ref e) 4 .none >>= _) _ _ _
 refine ab (dS e2 (by simp) fun g3 e3 s3=>?_)
 have e3:IsEnum g3 e it ((i:Int)+1) old:=e3
 have hsz:g3.objs.size=s.heap.objs.size:=by rw[s3.1,s2.1,s1.1]
 show wpAny _ _ (newTuple [.int i s.toks,x] >>= _) _ _ _
 refine ab (n6 ?_)
 have e4:IsEnum (g3.push { cls:=.type "tuple",data:=.seq #[.int i s.toks,x] }) e it ((i:Int)+1) old:=aJ _ e3
 have t4:(g3.push { cls:=.type "tuple",data:=.seq #[.int i s.toks,x] }).get? s.heap.objs.size=some { cls:=.type "tuple",data:=.seq #[.int i s.toks,x] }:=by rw[<-hsz];exact bp _ rfl
 have i4:(g3.push { cls:=.type "tuple",data:=.seq #[.int i s.toks,x] }).IsTupleIter it l (i+1):=tupIter_at ((it1.extBut s2.extBut (Ne.symm hne)).extBut s3.extBut (Ne.symm hne)) fun o q=>aJ _ q
 have k4:∀ b o,b≠e->b≠it->s.heap.get? b=some o->(g3.push { cls:=.type "tuple",data:=.seq #[.int i s.toks,x] }).get? b=some o:=fun b o n1 n2 q=>aJ _ (s3.extBut b o n1 (s2.extBut b o n1 (s1.extBut b o n2 q)))
 have hel:s.heap.objs.size≠e:=dr (aM he)
 show wpAny _ _ (Builtin.SmallTypes.ownedTupleIsFree (.ref e) >>= _) _ _ _
 rw[hsz]
 generalize g3.push { cls:=.type "tuple",data:=.seq #[.int i s.toks,x] }=g4 at e4 t4 i4 k4
 refine ab ?_
 unfold Builtin.SmallTypes.ownedTupleIsFree
 refine ab (bF e4 rfl (x:=.none) rfl (am ?_))
 simp only[e9]
 refine ab (eF (ab (bF e4 rfl (x:=old) rfl ?_)))
 refine ab (dS e4 (by simp) fun g5 e5 s5=>?_)
 have e5:IsEnum g5 e it ((i:Int)+1) x:=e5
 show wpAny _ _ (Builtin.SmallTypes.ownedTupleHandOut (.ref e) (.ref s.heap.objs.size) >>= _) _ _ _
 refine ab ?_
 unfold Builtin.SmallTypes.ownedTupleHandOut
 refine ab (dS e5 (by simp) fun g6 e6 s6=>?_)
 have e6:IsEnumOut g6 e it ((i:Int)+1) x s.heap.objs.size:=e6
 refine dS e6 (by simp) fun g7 e7 s7=>?_
 have up:∀ b o,b≠e->g4.get? b=some o->g7.get? b=some o:=fun b o n q=>s7.extBut b o n (s6.extBut b o n (s5.extBut b o n q))
 exact ab (j5 (am ⟨_,rfl,am (hQ g7 e7 (tupIter_at i4 fun o q=>up _ o (Ne.symm hne) q) (up _ _ hel t4) fun b o n1 n2 q=>up b o n1 (k4 b o n1 n2 q))⟩))
theorem enT_end {e it l:Addr} {i:Nat} {items:Array Value} {old:Value} {Q:Option Value->Shared->Prop} (hh:A.handled=none) (he:IsEnum s.heap e it i old) (hit:s.heap.IsTupleIter it l i) (hl:s.heap.IsTuple l items) (hx:items[i]?=none)
  (hQ:∀ h',Heap.ExtBut it s.heap h'->Q none { s with heap:=h' }):wpAny (model prog w) A (pyNext (.ref e)) Q E s:=by
 have hT:s.TypeIs (.ref e) "enumerate":=⟨_,he,rfl⟩
 unfold pyNext
 refine ab (iL (fb (name:=Str.ofString "__next__") hT F.slot_enumerate_next (dD F.slot_enumerate_next hT F.entry_enumerate_next ?_ (F.args_enumerate_next_1 _))))
 show wpAny _ _ (field (.ref e) 2 >>= _) _ _ _
 refine ab (bF he rfl (x:=.ref it) rfl (ab (kO hh hit hl hx fun h' x he' hx'=>?_)))
 obtain ⟨o,ho,hc⟩:=hx'
 exact ab (iM (T:="StopIteration") (b:=true) ⟨o,ho,hc⟩ isSubtype_stop (am (hQ _ he')))
end
theorem Zpw (l:Addr) (items:Array Value) :
  Meets (Builtin.«enumerate.__new__» ⟨[.type "enumerate",.ref l],[]⟩) (fun _ R s=>s.heap.IsTuple l items /\
   R (.ok (.ret (.ref (s.heap.push { cls:=.type "tuple_iterator",data:=.fields #[.ref l,.int 0 0] }).objs.size)))
    { s with heap:=(s.heap.push { cls:=.type "tuple_iterator",data:=.fields #[.ref l,.int 0 0] }).push { cls:=.type "enumerate",data:=.fields #[.none,.bool false,.ref s.heap.objs.size,rawInt 0,.none,.none] } }) :=
 .of_wp fun prog w A R s h=>by
  obtain ⟨hp,g,d,tk,os⟩:=s;obtain ⟨hl,h⟩:=h
  have hsub:=sub_enumerate
  have hL:Heap.IsTuple (Shared.heap ⟨hp,g,d,tk,os⟩) l items:=hl
  obtain ⟨ol,hol,hcl,nl,hdl⟩:=id hl
  wp_walk using gU hL
  refine wpAny_stack_any fun st=>am ?_
  split
  .rename_i c _ _ _ _ _
   cases (c == Value.type "enumerate")
   .wp_walk using gU hL
    exact ⟨_,rfl,h⟩
   .wp_walk using gU hL
    exact ⟨_,rfl,h⟩
  .wp_walk using gU hL
   exact ⟨_,rfl,h⟩
end L3
end
section
namespace L3
open PySem
theorem call_enT {prog:Program} {w:World} {A:Around} {E:Value->Shared->Prop} {s:Shared} {l:Addr} {items:Array Value} {Q:Value->Shared->Prop} (hL:s.heap.IsTuple l items)
  (h:∀ h',IsEnum h' (s.heap.objs.size+1) s.heap.objs.size 0 .none->h'.IsTupleIter s.heap.objs.size l 0->(∀ b o,s.heap.get? b=some o->h'.get? b=some o)->Q (.ref (s.heap.objs.size+1)) { s with heap:=h' }) :
  wpAny (model prog w) A (call (.type "enumerate") [.ref l]) Q E s:=by
 refine callType_new F.called_enumerate (by decide) (F.typeCall_enumerate_1 _) (F.newCall_enumerate_1 _) (fun obj=>F.args_object_init_2 obj _) F.entry_enumerate_new (Zpw l items) ⟨hL,?_⟩
 have hz:(s.heap.push { cls:=.type "tuple_iterator",data:=.fields #[.ref l,.int 0 0] }).objs.size=s.heap.objs.size+1:=dQ ..
 show _/\_
 rw[hz]
 have he:IsEnum ((s.heap.push { cls:=.type "tuple_iterator",data:=.fields #[.ref l,.int 0 0] }).push { cls:=.type "enumerate",data:=.fields #[.none,.bool false,.ref s.heap.objs.size,rawInt 0,.none,.none] }) (s.heap.objs.size+1) s.heap.objs.size 0 .none:=by
  have:=bp (s.heap.push { cls:=.type "tuple_iterator",data:=.fields #[.ref l,.int 0 0] }) (o:={ cls:=.type "enumerate",data:=.fields #[.none,.bool false,.ref s.heap.objs.size,rawInt 0,.none,.none] }) rfl
  rw[hz] at this;exact this
 exact ⟨⟨_,he,rfl⟩,h _ he ⟨_,aJ _ (bp _ rfl),rfl,rfl⟩ fun b o x=>aJ _ (aJ _ x)⟩
end L3
namespace L2
open PySem PySem.Spec PyProof.Rows
def IteT (K:W.Frag) (l:Addr):It:=⟨fun i H=>∃ xs x,SqT K H l xs/\xs[i]?=some x,
 fun i H v H'=>∃ T x,(∀ xs,SqT K H l xs->xs[i]?=some x)/\H T=none/\v=.ref T/\H'=upd H T (.tup [.int i,x]),
 fun i H=>∃ xs,SqT K H l xs/\xs.length<=i⟩
theorem Zjw {P:Program} {w:World} {K:W.Frag} {elts:List Expr} {x1} {pos:Pos} {e it l:Addr} (nei:e≠it) :
  Turn P w K (.Tuple elts x1 pos) (IteT K l) [e,it] e (fun i h=>(∃ old,IsEnum h e it i old)/\h.IsTupleIter it l i) where
 mem:=by simp
 obj:=fun i h st b hb=>by
  obtain ⟨⟨old,a1⟩,⟨o1,e1,c1,d1⟩⟩:=st
  simp only[aG,bv,ci] at hb
  rcases hb with rfl|rfl
  .exact ⟨_,a1,fun v z=>by cases z⟩
  .exact ⟨_,e1,fun v z=>by rw[d1] at z;cases z⟩
 keep:=fun i h h' st k=>by
  obtain ⟨⟨old,a1⟩,a4⟩:=st
  exact ⟨⟨old,k e (by simp) _ a1⟩,L3.tupIter_at a4 fun o q=>k it (by simp) o q⟩
 item:=by
  intro X hP hw hK hc i pins s Z H E I hf st hg
  subst hP hw hK
  obtain ⟨xs,x,hq1,hx⟩:=hg
  obtain ⟨its1,rv1,p1,hz1⟩:=I.tuple hq1
  obtain ⟨u1,hu1,ru1⟩:=rv1.get hx
  obtain ⟨⟨old,a1⟩,a4⟩:=st
  refine L3.enT_item a1 a4 p1 (x:=u1) (by simpa using hu1) nei fun h' b1 b2 b3 b5=>?_
  refine ⟨_,rfl,wpAny_letOwnedTupleGo_enum (s:={ s with heap:=h',toks:=s.toks+1 }) b1 fun h2 c1 c2=>?_⟩
  have hT:H s.heap.objs.size=none:=I.hok.fresh (aq _)
  have I1:Inv X pins Z (upd H s.heap.objs.size (.tup [.int i,x])) { s with heap:=s.heap.push { cls:=.type "tuple",data:=.seq #[.int i s.toks,u1] },toks:=s.toks } :=
   I.laid (t':=s.toks) (fun b u e=>aJ _ e) (aq _) ⟨by show 2<=sizeLine;decide,[.int i s.toks,u1],.cons ⟨_,rfl⟩ (.cons ru1 .nil),⟨_,bp _ rfl,rfl,_,rfl⟩⟩
  have lt:∀ {c o},s.heap.get? c=some o->c≠s.heap.objs.size:=fun e=>bc (aM e)
  have ne:∀ b∈[e,it],b≠s.heap.objs.size:=fun b hb=>by
   obtain ⟨o1,e1,j⟩:=a4
   simp only[aG,bv,ci] at hb
   rcases hb with rfl|rfl
   .exact lt a1
   .exact lt e1
  have f1:∀ b∈[e,it],upd H s.heap.objs.size (.tup [.int i,x]) b=none:=fun b hb=>by rw[aP (ne b hb)];exact (hf b hb).1
  have hTe:s.heap.objs.size≠e:=(ne e (by simp)).symm
  have I2:=I1.turnedL (h':=h2) (t':=s.toks+1) (fp:=[e,it]) (fun b o hb q=>by
   simp only[aG,bv,ci,cF] at hb
   obtain ⟨n1,n2⟩:=hb
   rcases pI rfl q with q|⟨rfl,rfl⟩
   .exact c2.extBut _ _ n1 (b5 b o n1 n2 q)
   .exact c2.extBut _ _ hTe b3) fun b hb=>⟨f1 b hb,(hf b hb).2⟩
  refine ⟨.ref s.heap.objs.size,_,I2,rfl,⟨_,x,fun xs' h=>by rw[I.tuple_inj h hq1];exact hx,hT,rfl,rfl⟩,?_,f1⟩
  exact ⟨⟨_,c1⟩,b2.extBut c2.extBut (Ne.symm nei)⟩
 done:=by
  intro X hP hw hK hc i pins s Z H E I hf st hg
  subst hP hw hK
  obtain ⟨xs,hq1,hend⟩:=hg
  obtain ⟨its1,rv1,p1,hz1⟩:=I.tuple hq1
  have hl1:=rv1.length
  obtain ⟨⟨old,a1⟩,a4⟩:=st
  refine L3.enT_end (I.ok.hd hc) a1 a4 p1 (by simp;lia) fun h' hk=>⟨rfl,I.turnedL (t':=s.toks) (fp:=[e,it]) (fun b o hb q=>?_) hf⟩
  simp only[aG,bv,ci,cF] at hb
  exact hk b o hb.2 q
 self:=fun j j j j j st h=>og st.1.choose_spec h
def pz (K:W.Frag) (ta:TA):TI:=fun Z H R=>ta Z H fun vs H1=>∃ l1,vs=[.ref l1]/\(∃ xs,SqT K H1 l1 xs)/\R (IteT K l1) H1
theorem ZmO {X:Cx} {a:Expr} {ta:TA} {p pos pos':Pos} {elts:List Expr} {x1} (hg:Gl X "enumerate") (hm:X.mg "enumerate"=none) (ha:PA X [a] ta) (hs:starEach [a] X.env=[(false,eval a X.env)]:=by rfl) :
  PI X (.Tuple elts x1 pos') (.Call (.Name "enumerate" p) [a] [] pos) (pz X.K ta):=by
 intro pins s Z H R I h
 refine Call_ (eV I hg hm rF (gu (thn (ha pos pins s Z H _ I h) fun us s1 ⟨vs,H1,I1,r1,q1⟩=>?_) (by rw[hs];rfl) (by rfl)))
 obtain ⟨l1,e,⟨xs,q1⟩,q⟩:=q1
 subst e
 cases r1 with
 | cons r rr =>
  cases rr
  cases r
  obtain ⟨its1,rv1,p1,hz1⟩:=I1.tuple q1
  refine L3.call_enT p1 fun h' a1 a4 a7=>?_
  have I2:Inv X pins Z H1 { s1 with heap:=h' }:=I1.kept (t':=s1.toks) a7
  refine og (s:={ s1 with heap:=h' }) a1 ?_
  refine ⟨s1.heap.objs.size+1,[s1.heap.objs.size+1,s1.heap.objs.size],_,_,H1,rfl,I2,Zjw (l:=l1) (Nat.succ_ne_self _),⟨⟨_,a1⟩,a4⟩,fun b hb=>?_,q⟩
  have hb':s1.heap.objs.size<=b:=by
   simp only[aG,bv,ci] at hb
   rcases hb with rfl|rfl
   .exact cj _ _
   .exact aq _
  exact I1.fpOk hb' (I1.hok.fresh hb')
theorem ZjM {X:Cx} {K:W.Frag} {a:Expr} {ta:TA} {p pos pos':Pos} {elts:List Expr} {x1} (h:X.K=K) (hg:Gl X "enumerate") (hm:X.mg "enumerate"=none) (ha:PA X [a] ta) (hs:starEach [a] X.env=[(false,eval a X.env)]:=by rfl) :
  PI X (.Tuple elts x1 pos') (.Call (.Name "enumerate" p) [a] [] pos) (pz K ta):=h▸ZmO hg hm ha hs
theorem pB {P:Program} {w:World} {K:W.Frag} {G:GH} {Γ:Ev} {tr:TA} {kx:List T->(GH->Prop)->GH->Prop} (h:Wa P w K tr Γ G fun xs G1=>∃ ts,xs=[.tup ts]/\kx (ts.zipIdx.map fun p=>.tup [.int p.2,p.1]) (fun j=>True) G1):Wi P w K (pz K tr) Γ G kx:=fun H Z g ev Q z=>h H Z g ev _ fun vs H1 xs G1 s1 g1 r1 ⟨ts,e,q⟩=>by
 subst e
 cases r1 with
 | cons r1 r2 =>
  cases r2
  cases r1 with
  | @tup a vs _ h1 rs =>
  refine ⟨a,rfl,⟨vs,SqT.of h1⟩,z _ _ _ _ _ s1 g1 (fun G' H' s' g' kp=>?_) q⟩
  have l':=(s' a _ (g1.tup h1) h1).1
  have r':=rs.mono g1 s'
  refine ⟨fun i x e=>?_,⟨vs,SqT.of l',by rw[ai,iR];exact eE r'.length.symm⟩⟩
  rw[aj] at e
  obtain ⟨⟨d,m⟩,em,rfl⟩:=aH.mp e
  rw[iS] at em
  obtain ⟨d',ed,e3⟩:=aH.mp em
  cases e3
  obtain ⟨u,eu,ru⟩:=r'.get ed
  refine ⟨⟨vs,u,SqT.of l',eu⟩,fun v H2 ⟨T,y,e1,e2,e3,e4⟩=>?_⟩
  subst e3 e4
  have:=e1 vs (SqT.of l')
  rw[eu] at this
  cases this
  have sm:=Same.new (o:=.tup [.int i,u]) e2
  refine ⟨sm,.tup bh (.cons ?_ (.cons (ru.mono g' (.same sm)) .nil))⟩
  rw[oj]
  exact .int
theorem qg {P:Program} {w:World} {K:W.Frag} {G:GH} {k:T->GH->Prop} {Γ:Ev} {LN:List Str} {fr:List Nat} {wi:TI} {g:TG} {te:TE} (Sh:Ev->Prop)
  (h:Wi P w K wi Γ G fun xs kp G1=>xs.length<=100000/\kp G1/\Sh (bkE LN.length fr Γ)/\∃ ys:List T,ys.length=xs.length/\(∀ (i:Nat) x y Γ',xs[i]?=some x->ys[i]?=some y->Sh Γ'->Wg P w K g x Γ' G1 fun Γ2 G2=>Sh Γ2/\G2=G1/\We P w K te Γ2 G1 fun d G4=>d=y/\G4=G1)/\∀ a,G1 a=none->k (.ptr a) (gput G1 a (.lst ys))):We P w K (ee LN fr wi g gG te) Γ G k:=fun H Z g ev Q z =>
 h H Z g ev _ fun J H1 xs kp G1 s1 g1 it z0_=>by
  obtain ⟨hz,hk,sh,ysT,hy,hs,q⟩:=z0_
  refine lK xs.length (gF (by lia)) (fun i ys Z H=>∃ Γ',Stp G1 H1 G1 H/\GOk P w K G1 H/\EnvOk K G1 H Z Γ'/\RepTs K G1 H (ysT.take i) ys/\Sh Γ') ⟨_,.refl,g1,oV (ev.mono g s1),.nil,sh⟩ ?_ ?_ ?_ ?_
  .rintro i ys Z H hi ⟨Γ',s2,g2,e2,r2,p⟩
   exact ((it G1 H s2 g2 hk).1 i xs[i] (ax hi)).1
  .rintro ys Z H ⟨Γ',s2,g2,e2,r2,p⟩
   exact (it G1 H s2 g2 hk).2
  .rintro i x ys Z H H' hi hy1 hy2 ⟨Γ',s2,g2,e2,r2,p⟩ y
   have ey:ysT[i]?=some (ysT[i]'(by lia)):=ax _
   obtain ⟨sm,rx⟩:=((it G1 H s2 g2 hk).1 i xs[i] (ax hi)).2 x H' y
   refine hs i _ _ Γ' (ax hi) ey p H' Z x (g2.same sm) (e2.mono g2 (.same sm)) rx _ fun σ3 H3 Γ3 G3 s3 g3 e3 ⟨sh3,eG,we⟩=>?_
   subst eG
   refine rK (iteT ?_)
   refine we H3 σ3 g3 e3 _ fun v H5 d G5 s5 g5 r5 ⟨ed,eg⟩=>⟨hy2,by rw[aA];simpa using hy1,?_⟩
   subst ed eg
   have st:=(Stp.same sm).trans (s3.trans s5)
   refine ⟨Γ3,s2.trans st,g5,e3.mono g3 s5,?_,sh3⟩
   rw[b9,ey]
   exact (r2.mono g2 st).app (.cons r5 .nil)
  .rintro ys Z H hl ⟨Γ',s2,g2,e2,r2,p⟩ c hc
   rw[<-hy,ck] at r2
   obtain ⟨g3,s3⟩:=g2.putL (.inr hc) r2
   exact z _ _ _ _ (s1.trans (s2.trans s3)) g3 .ptr (q c (g2.free hc))
theorem fZ {P:Program} {w:World} {K:W.Frag} {G:GH} {k:T->GH->Prop} {Γ:Ev} {LN:List Str} {fr:List Nat} {wi:TI} {g:TG} {te:TE} {tt:TT} (Sh:Ev->Prop)
  (h:Wi P w K wi Γ G fun xs kp G1=>xs.length<=100000/\kp G1/\Sh (bkE LN.length fr Γ)/\∃ zs:List (Option T),zs.length=xs.length/\(∀ (i:Nat) x z Γ',xs[i]?=some x->zs[i]?=some z->Sh Γ'->Wg P w K g x Γ' G1 fun Γ2 G2=>Sh Γ2/\G2=G1/\Wt P w K tt Γ2 G1 fun b G3=>G3=G1/\if b=true then (∃ y,z=some y/\We P w K te Γ2 G1 fun d G4=>d=y/\G4=G1) else z=none)/\k (.lst (zs.filterMap id)) G1):We P w K (ee LN fr wi g tt te) Γ G k:=by
 refine fJ fun H Z g ev Q z=>h H Z g ev Q fun J H' xs kp G' s1 g1 it ⟨hl,hk,sh,zs,hy,hs,q⟩=>z J H' xs kp G' s1 g1 it ⟨hl,fun i acc Γ2 G2=>Sh Γ2/\G2=G'/\acc=(zs.take i).filterMap id,⟨sh,rfl,rfl⟩,fun i acc Γ2 G2 z0_=>by obtain ⟨j,e,j⟩:=z0_;exact e▸hk,fun i x acc Γ2 G2 hx ⟨sh2,e,ea⟩=>?_,fun acc Γ2 G2 ⟨_,e,ea⟩=>?_⟩
 .subst e ea
  have hi:=(ay.mp hx).1
  have ez:zs[i]?=some (zs[i]'(by lia)):=ax _
  generalize zs[i]'(by lia)=zi at ez
  intro H3 σ3 v g3 e3 r3 R z3
  refine hs i x _ Γ2 hx ez sh2 H3 σ3 v g3 e3 r3 R fun σ4 H4 Γ4 G4 s4 g4 e4 ⟨sh4,eG,wt⟩=>z3 σ4 H4 Γ4 G4 s4 g4 e4 ?_
  subst eG
  have et:(zs.take (i+1)).filterMap id=(zs.take i).filterMap id++[zi].filterMap id:=by rw[b9,ez,iU,filterMap_append]
  intro H5 σ5 g5 e5 Q5 z5
  refine wt H5 σ5 g5 e5 Q5 fun b H6 G6 s6 g6 ⟨eg,hb⟩=>z5 b H6 G6 s6 g6 ?_
  subst eg
  cases b with
  | true =>
   obtain ⟨y,rfl,we⟩:=eT hb
   refine iteT fun H7 σ7 g7 e7 Q7 z7=>we H7 σ7 g7 e7 Q7 fun v8 H8 d8 G8 s8 g8 r8 ⟨ed,eg⟩=>z7 v8 H8 d8 G8 s8 g8 r8 ?_
   subst ed eg
   exact ⟨sh4,rfl,by rw[et];rfl⟩
  | false =>
   rw[eO hb] at et
   exact iteF ⟨sh4,rfl,by rw[et];exact (bH _).symm⟩
 .subst e ea
  rw[<-hy,ck];exact q
theorem eB {P:Program} {w:World} {K:W.Frag} {G:GH} {Γ:Ev} {t u:TS} {D:EndT} (M:Ev->GH->Prop) (h1:Ws P w K t Γ G { D with nx:=M }) (h2:∀ Γ' G',M Γ' G'->Ws P w K u Γ' G' D):Ws P w K (tSeq t u) Γ G D :=
 bI fun H Z g ev D' z=>h1 H Z g ev D' ⟨fun σ' H' Γ' G' s g' e' q=>z.nx σ' H' Γ' G' s g' e' (h2 Γ' G' q),z.rt,z.bk,z.ct⟩
theorem jB {G:GH} {x:T} {l:List T} {p:Addr} {c:Ct} (hp:G p=none) (h:SqI G x l):SqI (gput G p c) x l:=by
 rcases h with e|⟨a,e,h⟩
 .exact .inl e
 .exact .inr ⟨a,e,by rw[gp_n (g_ne h hp)];exact h⟩
theorem se:∀ ps:List (Int×Int),embs (ps.map pairD)=ps.map prT
 | []=>by rw[cQ,embs];rfl
 | p::ps=>by rw[aF,embs,se ps,pairD,emb,embs,embs,embs,emb,emb];rfl
theorem vw (f:Fm):embs [.int f.1,.tup (f.2.map pairD)]=[.int f.1,.tup (f.2.map prT)]:=by
 rw[embs,embs,embs,emb,emb,se]
theorem tZ : ∀ ps : List (Int × Int), D.pls (ps.map pairD) = true /\ D.deps (ps.map pairD) <= 1
  | [] => by constructor; rfl; exact bg _
  | p :: ps => by
    obtain ⟨h1,h2⟩:=tZ ps
    rw[aF,D.pls,D.deps,h1]
    refine ⟨rfl,?_⟩
    show max (D.dep (pairD p)) _<=1
    have:D.dep (pairD p)=1:=rfl
    lia
theorem Zpr {f g:Fm} (h:fmD f=fmD g):f=g:=by
 unfold fmD formD at h
 injection h with h
 injection h with h1 h2
 injection h1 with h1
 injection h2 with h2
 injection h2 with h2
 have:∀ {a b:List (Int×Int)},a.map pairD=b.map pairD->a=b:=by
  intro a
  induction a with
  | nil=>intro b h;cases b with|nil=>rfl|cons _ _=>cases h
  | cons x a ih =>
   intro b h
   cases b with
   | nil=>cases h
   | cons y b =>
    rw[aF,aF] at h
    injection h with h1 h2
    rw[ih h2]
    unfold pairD at h1
    injection h1 with h1
    injection h1 with ha hb
    injection hb with hb
    injection ha with ha
    injection hb with hb
    rw[show x=y from Prod.ext ha hb]
 exact Prod.ext h1 (this h2)
theorem eqF_eq {f g:Fm}:eqD (fmD f) (fmD g)=decide (f=g):=by
 by_cases h:f=g
 .rw[h,fu];simp
 .rw[cp (fun z=>h (Zpr z))];simp[h]
theorem l_eqF {P:Program} {w:World} {K:W.Frag} {G:GH} {k:T->GH->Prop} {f g:Fm} (h:k (.bl (decide (f=g))) G):L2r P w K rEqD (fmT f) (fmT g) G k:=by
 have pl:∀ f:Fm,D.pls [.int f.1,.tup (f.2.map pairD)]=true/\D.deps [.int f.1,.tup (f.2.map pairD)]<=40:=fun f=>by
  obtain ⟨h1,h2⟩:=tZ f.2
  refine ⟨?_,?_⟩
  .show (true && (D.pls (f.2.map pairD) && true))=true
   rw[h1];rfl
  .show max 0 (max (D.deps (f.2.map pairD)+1) 0)<=40
   lia
 have:=l_eqD (P:=P) (w:=w) (K:=K) (G:=G) (k:=k) (pl f).1 (pl g).1 (pl f).2 (by show k (.bl (eqD (fmD f) (fmD g))) G;rw[eqF_eq];exact h)
 rwa [vw,vw] at this
end L2
end
section
namespace L2
open PySem
def aE (n:Nat):List Fm:=(List.range n).map fun (i:Nat)=>ofW (i:Int)
def ownF (many:Nat) (word:Str) (nums:List Int):List Fm :=
 if word="take" then aE many++[ofW many] else if word="hold" then (aE many).set (nums.getD 0 0).toNat (nums.getD 1 0,[]) else aE many
def Rw.tgt:Rw->Int
 | .zero _ t=>t|.below _ t=>t|_=>0
def Rw.tbox:Rw->Int
 | .take p=>p|_=>0
def eC (P:List Df) (fr:List SF) (s:SF) (word:Str) (own:List Fm):List (List SF) :=
 if word="test" then [dC fr s (((cx P s.1 s.2.1).map Rw.tgt).getD 0),dC fr s (s.2.1+1)]
 else if word="tell" then [dC fr s (s.2.1+1)]
 else if word="take" then [gM fr s (((cx P s.1 s.2.1).map Rw.tbox).getD 0) (own.getLastD (0,[]))]
 else [fr++[s]]
def eW (f:Fm):Bool:=((f.1::f.2.map (·.1)).map fun n=>decide (300 < (Builtin.Int.intBits n:Int))).any id
def gK (s:SF):Bool:=(s.2.2.map eW).any id
def fX (other:Option (List SF)) (d p:Nat) (f:Fm):Bool:=decide (f.2=[]) && (!eW f && (match other with|none=>true|some o=>decide ((o.getD d (0,0,[])).2.2.getD p (0,[])=f)))
def aY (other:Option (List SF)) (d:Nat) (acc:List Fm×Nat) (x:Fm×Nat):List Fm×Nat:=if fX other d x.2 x.1=true then (acc.1++[x.1],acc.2) else (acc.1++[ofW (acc.2:Int)],acc.2+1)
def cB (other:Option (List SF)) (acc:List SF×Nat) (x:SF×Nat):List SF×Nat :=
 (acc.1++[(x.1.1,x.1.2.1,(x.1.2.2.zipIdx.foldl (aY other x.2) ([],acc.2)).1)],(x.1.2.2.zipIdx.foldl (aY other x.2) ([],acc.2)).2)
def ji (frames:List SF) (other:Option (List SF)):List SF×Nat:=frames.zipIdx.foldl (cB other) ([],0)
def bP (frames:List SF) (other:Option (List SF)):List SF:=(ji frames other).1
def bq (paper:List SF):Int:=(paper.map fun s=>(((s.2.2.filter fun f=>!decide (f.2=[])).length:Nat):Int)).sum
def eR (frames paper:List SF):List (Fm×Fm):=(frames.zip paper).flatMap fun p=>p.1.2.2.zip p.2.2.2
def mZ (frames paper:List SF):Bool:=(((eR frames paper).filter fun p=>decide (p.2.2=[])).map fun p=>decide (p.1=p.2)).all id
def f7 (paper frames:List SF):List Fm:=((eR frames paper).filter fun p=>!decide (p.2.2=[])).map (·.1)
def plcF (frames:List SF):List (Int×Int):=frames.map fun s=>(s.1,s.2.1)
def k2P (l:List (Int×Int)):K2:=l.map fun p=>[.inl p.1,.inl p.2]
end L2
end
section
namespace L2
open PySem
structure Sd where
 many:Nat
 fr:List SF
 word:Str
 rest:List T
structure MS where
 lane:List Sd
 plc:List (K2×List Nat)
 going:Nat
abbrev sdT (p:Addr) (d:Sd):T:=.tup [.int d.many,.ptr p,.tup (.str d.word::d.rest)]
def MS.oth (S:MS) (l:List SF):List Nat:=((S.plc.find? fun e=>decide (e.1=k2P (plcF l))).map (·.2)).getD []
def MS.frAt (S:MS) (k:Nat):List SF:=((S.lane[k]?).map (·.fr)).getD []
def MS.wordAt (S:MS) (k:Nat):Str:=((S.lane[k]?).map (·.word)).getD "leave"
def MS.standFor (S:MS) (l:List SF):Option Nat:=(S.oth l).find? fun k=>mZ l (S.frAt k)
def MS.goesOn (S:MS) (l:List SF):Bool:=match S.standFor l with
 | none=>false
 | some k=>!decide (S.wordAt k="leave")
def fA (Q:List Df) (l:List SF):Option (List SF):=match l.getLast? with
 | none=>none
 | some s=>fF Q l.dropLast s
def o5:Rw->Str
 | .zero _ _=>"test"|.below _ _=>"test"|.tell _=>"tell"|.take _=>"take"|_=>"leave"
def dH (Q:List Df) (l:List SF):Str:=if (fA Q l).isNone=true then (((l.getLast?).bind fun s=>cx Q s.1 s.2.1).map o5).getD "leave" else "go"
def cA (Q:List Df) (most going:Nat) (l:List SF):Str×Nat:=if dH Q l="leave"\/most<=going then ("leave",going) else (dH Q l,going+1)
def dq (key:K2) (k:Nat):List (K2×List Nat)->List (K2×List Nat)
 | []=>[(key,[k])]
 | e::r=>if e.1=key then (e.1,e.2++[k])::r else e::dq key k r
def MS.paper (S:MS) (l:List SF):List SF:=bP l ((S.oth l).getLast?.map S.frAt)
def MS.add (Q:List Df) (most:Nat) (S:MS) (l:List SF):MS :=
 ⟨S.lane++[⟨(bq (S.paper l)).toNat,S.paper l,(cA Q most S.going (S.paper l)).1,[]⟩],dq (k2P (plcF l)) S.lane.length S.plc,(cA Q most S.going (S.paper l)).2⟩
def MS.hold (S:MS) (l:List SF) (w:Nat) (n:Int):MS:=⟨S.lane++[⟨(bq (bP l none)).toNat,bP l none,"hold",[.int w,.int n]⟩],S.plc,S.going⟩
def cK (Q : List Df) (S : MS) (least : Nat) : Nat -> Nat -> List SF -> List SF × Nat
  | 0, rows, l => (l, rows)
  | f + 1, rows, l => if least <= rows /\ (rows = 200 \/ (l.getLast?.map gK).getD false = true \/ S.goesOn l = true) then (l, rows) else match fA Q l with
    | none => (l, rows)
    | some l' => cK Q S least f (rows + 1) l'
def ik (S:MS) (k:Nat) (l:List SF) (rows:Nat):T:=.tup [.int rows,.tup ((f7 (S.frAt k) l).map fmT),.int k]
def MS.edgeFrom (Q:List Df) (most:Nat) (S:MS) (l:List SF) (least:Nat):MS×T :=
 match S.standFor (cK Q S least 201 0 l).1 with
 | some k=>(S,ik S k (cK Q S least 201 0 l).1 (cK Q S least 201 0 l).2)
 | none=>(S.add Q most (cK Q S least 201 0 l).1,ik (S.add Q most (cK Q S least 201 0 l).1) S.lane.length (cK Q S least 201 0 l).1 (cK Q S least 201 0 l).2)
structure MkSt (C:Addr) (Q:List Df) (most:Nat) (G0 G:GH) (S:MS) (m dx la pl:Addr) (ps qs:List Addr):Prop where
 ins:G m=some (.ins C dx [("program",pgT Q),("most",.int most),("lane",.ptr la),("places",.ptr pl),("going",.int S.going)])
 ow:G dx=some (.own m)
 lane:G la=some (.lst (List.zipWith sdT ps S.lane))
 plen:ps.length=S.lane.length
 pap:∀ (i:Nat) p d,ps[i]?=some p->S.lane[i]?=some d->G p=some (.lst (d.fr.map sfT))
 plc:G pl=some (.dn (List.zipWith (fun q (e:K2×List Nat)=>(e.1,T.ptr q)) qs S.plc))
 qlen:qs.length=S.plc.length
 oth:∀ (i:Nat) q e,qs[i]?=some q->S.plc[i]?=some e->G q=some (.lst (e.2.map fun (k:Nat)=>.int k))
 nd:(la::(ps++qs)).Nodup
 old:∀ b,b∉m::dx::la::pl::(ps++qs)->G b=G0 b
 new:∀ b∈m::dx::la::pl::(ps++qs),G0 b=none
section
variable {C:Addr} {Q:List Df} {most:Nat} {G0 G:GH} {S:MS} {m dx la pl:Addr} {ps qs:List Addr} {a:Addr}
theorem MkSt.has (h:MkSt C Q most G0 G S m dx la pl ps qs) {b:Addr} (hb:b∈m::dx::la::pl::(ps++qs)):∃ c,G b=some c:=by
 simp only[aG,aT] at hb
 rcases hb with rfl|rfl|rfl|rfl|hb|hb
 .exact ⟨_,h.ins⟩
 .exact ⟨_,h.ow⟩
 .exact ⟨_,h.lane⟩
 .exact ⟨_,h.plc⟩
 .obtain ⟨i,hi⟩:=fU.mp hb
  have:=(ay.mp hi).1
  exact ⟨_,h.pap i b _ hi (ax (by have:=h.plen;lia))⟩
 .obtain ⟨i,hi⟩:=fU.mp hb
  have:=(ay.mp hi).1
  exact ⟨_,h.oth i b _ hi (ax (by have:=h.qlen;lia))⟩
theorem MkSt.at (h:MkSt C Q most G0 G S m dx la pl ps qs) {k:Nat} {d:Sd} (e:S.lane[k]?=some d):∃ p,ps[k]?=some p/\(List.zipWith sdT ps S.lane)[k]?=some (sdT p d)/\G p=some (.lst (d.fr.map sfT)):=by
 have hk:=(ay.mp e).1
 have hp:ps[k]?=some (ps[k]'(by have:=h.plen;lia)):=ax _
 exact ⟨_,hp,by rw[fV,hp,e],h.pap k _ d hp e⟩
theorem qL (key : K2) : ∀ (qs : List Addr) (l : List (K2 × List Nat)), qs.length = l.length -> (getN (List.zipWith (fun q (e : K2 × List Nat) => (e.1, T.ptr q)) qs l) key = none /\ l.find? (fun e => decide (e.1 = key)) = none) \/ ∃ (i : Nat) (q : Addr) (e : K2 × List Nat), qs[i]? = some q /\ l[i]? = some e /\ e.1 = key /\ getN (List.zipWith (fun q (e : K2 × List Nat) => (e.1, T.ptr q)) qs l) key = some (.ptr q) /\ l.find? (fun e => decide (e.1 = key)) = some e /\ ∀ k, dq key k l = l.set i (e.1, e.2 ++ [k])
  | [], [], _ => .inl ⟨rfl, rfl⟩
  | q :: qs, e :: l, h => by
    unfold getN
    rw[zipWith_cons_cons,c9,c9]
    by_cases he:e.1=key
    . right
      refine ⟨0,q,e,rfl,rfl,he,?_,?_,fun k=>by unfold dq;rw[ag he];rfl⟩ <;> simp[he]
    . rcases qL key qs l (by simpa using h) with ⟨h1, h2⟩ | ⟨i, q', e', h1, h2, h3, h4, h5, h6⟩
      . left
        unfold getN at h1
        simp only[he,decide_false]
        exact ⟨h1,h2⟩
      . right
        unfold getN at h4
        refine ⟨i+1,q',e',h1,h2,h3,?_,?_,fun k=>by unfold dq;rw[ah he,h6];rfl⟩ <;> simp only[he,decide_false]
        . exact h4
        . exact h5
  | [], _ :: _, h => by simp at h
  | _ :: _, [], h => by simp at h
theorem MkSt.others (h:MkSt C Q most G0 G S m dx la pl ps qs) (l:List SF):(getN (List.zipWith (fun q (e:K2×List Nat)=>(e.1,T.ptr q)) qs S.plc) (k2P (plcF l))=none/\S.oth l=[])\/∃ q,q∈qs/\getN (List.zipWith (fun q (e:K2×List Nat)=>(e.1,T.ptr q)) qs S.plc) (k2P (plcF l))=some (.ptr q)/\G q=some (.lst ((S.oth l).map fun (k:Nat)=>.int k)):=by
 unfold MS.oth
 rcases qL (k2P (plcF l)) qs S.plc h.qlen with ⟨h1,h2⟩|⟨i,q,e,h1,h2,j,h4,h5,j⟩
 .left;rw[h2];exact ⟨h1,rfl⟩
 .right;rw[h5];exact ⟨q,aw h1,h4,h.oth i q e h1 h2⟩
theorem vt {key : K2} (k : Nat) : ∀ {l : List (K2 × List Nat)}, l.find? (fun e => decide (e.1 = key)) = none -> dq key k l = l ++ [(key, [k])]
  | [], _ => rfl
  | e :: l, h => by
    rw[c9] at h
    by_cases he:e.1=key
    . simp[he] at h
    . simp only[he, decide_false] at h
      unfold dq
      rw[ah he, vt k h]; rfl
theorem get_ne {l:List Addr} (nd:l.Nodup) {i j:Nat} {a b:Addr} (h1:l[i]?=some a) (h2:l[j]?=some b) (n:i≠j):a≠b:=fun e=>by
 subst e
 have hi:=(ay.mp h1).1
 exact n ((oH hi nd).mp (by rw[h1,h2]))
theorem MkSt.more (h:MkSt C Q most G0 G S m dx la pl ps qs) {c:Ct} (n:G a=none):MkSt C Q most (gput G0 a c) (gput G a c) S m dx la pl ps qs:=by
 have ne:∀ {b c},G b=some c->b≠a:=fun {b c} e z=>by rw[z,n] at e;cases e
 have k:∀ {b c'},G b=some c'->gput G a c b=some c':=fun {b c'} e=>by rw[gp_n (ne e)];exact e
 refine ⟨k h.ins,k h.ow,k h.lane,h.plen,fun i p d h1 h2=>k (h.pap i p d h1 h2),k h.plc,h.qlen,fun i q e h1 h2=>k (h.oth i q e h1 h2),h.nd,fun b hb=>?_,fun b hb=>?_⟩
 .by_cases e:b=a
  .rw[e,gp_s,gp_s]
  .rw[gp_n e,gp_n e];exact h.old b hb
 .obtain ⟨c',hc⟩:=h.has hb
  rw[gp_n (ne hc)];exact h.new b hb
theorem MkSt.not (h:MkSt C Q most G0 G S m dx la pl ps qs) (n:G a=none):a∉m::dx::la::pl::(ps++qs):=fun hb=>by
 obtain ⟨c,hc⟩:=h.has hb
 rw[n] at hc;cases hc
theorem MkSt.base (h:MkSt C Q most G0 G S m dx la pl ps qs) (n:G a=none):G0 a=none:=by rw[<-h.old a (h.not n)];exact n
theorem MkSt.not0 (h:MkSt C Q most G0 G S m dx la pl ps qs) {c:Ct} (n:G0 a=some c):a∉m::dx::la::pl::(ps++qs):=fun hb=>by
 have:=h.new a hb
 rw[n] at this;cases this
theorem MkSt.addPap {d:Sd} (h:MkSt C Q most (gput G0 a (.lst (d.fr.map sfT))) G S m dx la pl ps qs) (n:G0 a=none):MkSt C Q most G0 (gput G la (.lst (List.zipWith sdT ps S.lane++[sdT a d]))) { S with lane:=S.lane++[d] } m dx la pl (ps++[a]) qs:=by
 have na:=h.not0 gp_s
 have ga:G a=some (.lst (d.fr.map sfT)):=by rw[h.old a na,gp_s]
 simp only[aG,aT,cF] at na
 obtain ⟨a1,a2,a3,a4,a5,a6⟩:=na
 have hnd:=h.nd
 rw[cP] at hnd
 have k:∀ {b c'},b≠la->G b=some c'->gput G la (.lst (List.zipWith sdT ps S.lane++[sdT a d])) b=some c':=fun {b c'} n e=>by rw[gp_n n];exact e
 have nl:∀ {b c'},G b=some c'->(∀ ts,c'≠.lst ts)->b≠la:=fun {b c'} e n z=>by rw[z,h.lane] at e;cases e;exact n _ rfl
 refine ⟨k (nl h.ins nofun) h.ins,k (nl h.ow nofun) h.ow,?_,by rw[aA,aA,h.plen];rfl,fun i p d' h1 h2=>?_,k (nl h.plc nofun) h.plc,h.qlen,fun i q e h1 h2=>k (fun z=>hnd.1 (by rw[<-z];exact cZ _ (aw h1))) (h.oth i q e h1 h2),?_,fun b hb=>?_,fun b hb=>?_⟩
 .rw[gp_s,zipWith_append h.plen];rfl
 .by_cases hi:i < ps.length
  .rw[bN hi] at h1
   rw[bN (by rw[<-h.plen];exact hi)] at h2
   exact k (fun z=>hnd.1 (by rw[<-z];exact gS _ (aw h1))) (h.pap i p d' h1 h2)
  .have hi2:=(ay.mp h1).1
   rw[aA] at hi2
   have e:i=ps.length:=by simp at hi2;lia
   subst e
   rw[cI] at h1
   rw[h.plen,cI] at h2
   cases h1;cases h2
   exact k a3 ga
 .rw[fP]
  refine cP.mpr ⟨fun hm=>?_,?_⟩
  .simp only[aT,aN] at hm
   rcases hm with hm|hm|hm
   .exact hnd.1 (gS _ hm)
   .exact a3 hm.symm
   .exact hnd.1 (cZ _ hm)
  .have:=hnd.2
   rw[iK] at this ⊢
   refine ⟨this.1,cP.mpr ⟨a6,this.2.1⟩,fun x hx y hy=>?_⟩
   rcases aG.mp hy with hy|hy
   .exact fun e=>a5 (by rw[<-hy,<- e];exact hx)
   .exact this.2.2 x hx y hy
 .simp only[aG,aT,aN,cF] at hb
  obtain ⟨b1,b2,b3,b4,⟨b5,b6⟩,b7⟩:=hb
  rw[gp_n b3,h.old b (by simp only[aG,aT,cF];exact ⟨b1,b2,b3,b4,b5,b7⟩),gp_n (by simpa using b6)]
 .by_cases e:b=a
  .rw[e];exact n
  .have:=h.new b (by
    simp only[aG,aT] at hb ⊢
    rcases hb with hb|hb|hb|hb|(hb|hb)|hb
    .exact .inl hb
    .exact .inr (.inl hb)
    .exact .inr (.inr (.inl hb))
    .exact .inr (.inr (.inr (.inl hb)))
    .exact .inr (.inr (.inr (.inr (.inl hb))))
    .exact absurd (by simpa using hb) e
    .exact .inr (.inr (.inr (.inr (.inr hb)))))
   rwa [gp_n e] at this
theorem MkSt.newPlc {key:K2} (h:MkSt C Q most (gput G0 a (.lst [])) G S m dx la pl ps qs) (n:G0 a=none):MkSt C Q most G0 (gput G pl (.dn (List.zipWith (fun q (e:K2×List Nat)=>(e.1,T.ptr q)) qs S.plc++[(key,.ptr a)]))) { S with plc:=S.plc++[(key,[])] } m dx la pl ps (qs++[a]):=by
 have na:=h.not0 gp_s
 have ga:G a=some (.lst []):=by rw[h.old a na,gp_s]
 simp only[aG,aT,cF] at na
 obtain ⟨a1,a2,a3,a4,a5,a6⟩:=na
 have hnd:=h.nd
 have nl:∀ {b c'},G b=some c'->(∀ ts,c'≠.dn ts)->b≠pl:=fun {b c'} e n z=>by rw[z,h.plc] at e;cases e;exact n _ rfl
 have k:∀ {b c'},G b=some c'->(∀ ts,c'≠.dn ts)->gput G pl (.dn (List.zipWith (fun q (e:K2×List Nat)=>(e.1,T.ptr q)) qs S.plc++[(key,.ptr a)])) b=some c':=fun {b c'} e n=>by rw[gp_n (nl e n)];exact e
 refine ⟨k h.ins nofun,k h.ow nofun,k h.lane nofun,h.plen,fun i p d h1 h2=>k (h.pap i p d h1 h2) nofun,?_,by rw[aA,aA,h.qlen];rfl,fun i q e h1 h2=>?_,?_,fun b hb=>?_,fun b hb=>?_⟩
 .rw[gp_s,zipWith_append h.qlen];rfl
 .by_cases hi:i < qs.length
  .rw[bN hi] at h1
   rw[bN (by rw[<-h.qlen];exact hi)] at h2
   exact k (h.oth i q e h1 h2) nofun
  .have hi2:=(ay.mp h1).1
   rw[aA] at hi2
   have e:i=qs.length:=by simp at hi2;lia
   subst e
   rw[cI] at h1
   rw[h.qlen,cI] at h2
   cases h1;cases h2
   exact k ga nofun
 .have e:la::(ps++(qs++[a]))=(la::(ps++qs))++[a]:=by simp
  rw[e,iK]
  refine ⟨hnd,cP.mpr ⟨bv,eI⟩,fun x hx y hy=>?_⟩
  rw[aN.mp hy]
  rintro rfl
  rcases aG.mp hx with hx|hx
  .exact a3 hx
  .rcases aT.mp hx with hx|hx
   .exact a5 hx
   .exact a6 hx
 .simp only[aG,aT,aN,cF] at hb
  obtain ⟨b1,b2,b3,b4,b5,b6,b7⟩:=hb
  rw[gp_n b4,h.old b (by simp only[aG,aT,cF];exact ⟨b1,b2,b3,b4,b5,b6⟩),gp_n (by simpa using b7)]
 .by_cases e:b=a
  .rw[e];exact n
  .have:=h.new b (by
    simp only[aG,aT] at hb ⊢
    rcases hb with hb|hb|hb|hb|hb|hb|hb
    .exact .inl hb
    .exact .inr (.inl hb)
    .exact .inr (.inr (.inl hb))
    .exact .inr (.inr (.inr (.inl hb)))
    .exact .inr (.inr (.inr (.inr (.inl hb))))
    .exact .inr (.inr (.inr (.inr (.inr hb))))
    .exact absurd (by simpa using hb) e)
   rwa [gp_n e] at this
theorem MkSt.appOth (h:MkSt C Q most G0 G S m dx la pl ps qs) {i:Nat} {q:Addr} {e:K2×List Nat} {k:Nat} (h1:qs[i]?=some q) (h2:S.plc[i]?=some e):MkSt C Q most G0 (gput G q (.lst ((e.2.map fun (k:Nat)=>.int k)++[.int k]))) { S with plc:=S.plc.set i (e.1,e.2++[k]) } m dx la pl ps qs:=by
 have hq:=h.oth i q e h1 h2
 have hnd:=h.nd
 rw[cP] at hnd
 obtain ⟨n1,n2,n3⟩:=iK.mp hnd.2
 have mq:=aw h1
 have nl:∀ {b c'},G b=some c'->(∀ ts,c'≠.lst ts)->b≠q:=fun {b c'} e n z=>by rw[z,hq] at e;cases e;exact n _ rfl
 have kk:∀ {b c'},b≠q->G b=some c'->gput G q (.lst ((e.2.map fun (k:Nat)=>.int k)++[.int k])) b=some c':=fun {b c'} n e=>by rw[gp_n n];exact e
 have hi:=(ay.mp h2).1
 refine ⟨kk (nl h.ins nofun) h.ins,kk (nl h.ow nofun) h.ow,kk (fun z=>hnd.1 (by rw[z];exact cZ _ mq)) h.lane,h.plen,fun j p d h1 h2=>kk (n3 p (aw h1) q mq) (h.pap j p d h1 h2),?_,by rw[bQ];exact h.qlen,fun j q' e' g1 g2=>?_,h.nd,fun b hb=>?_,h.new⟩
 .rw[gp_n (nl h.plc nofun),h.plc]
  congr 2
  refine iI fun j=>?_
  rw[fV,fV]
  by_cases hj:i=j
  .subst hj
   rw[cO hi,h2,h1]
  .rw[cy hj]
 .by_cases hj:i=j
  .subst hj
   dsimp only at g2
   rw[cO hi] at g2
   rw[h1] at g1
   cases g1;cases g2
   rw[gp_s,aO];rfl
  .dsimp only at g2
   rw[cy hj] at g2
   exact kk (get_ne n2 g1 h1 (Ne.symm hj)) (h.oth j q' e' g1 g2)
 .rw[gp_n (fun z=>hb (by rw[z];simp[mq]))];exact h.old b hb
theorem MkSt.setSt (h:MkSt C Q most G0 G S m dx la pl ps qs) {i:Nat} {p:Addr} {d:Sd} {r:List T} (h1:ps[i]?=some p) (h2:S.lane[i]?=some d):MkSt C Q most G0 (gput G la (.lst ((List.zipWith sdT ps S.lane).set i (sdT p { d with rest:=r })))) { S with lane:=S.lane.set i { d with rest:=r } } m dx la pl ps qs:=by
 have hnd:=h.nd
 rw[cP] at hnd
 have nl:∀ {b c'},G b=some c'->(∀ ts,c'≠.lst ts)->b≠la:=fun {b c'} e n z=>by rw[z,h.lane] at e;cases e;exact n _ rfl
 have kk:∀ {b c'},b≠la->G b=some c'->gput G la (.lst ((List.zipWith sdT ps S.lane).set i (sdT p { d with rest:=r }))) b=some c':=fun {b c'} n e=>by rw[gp_n n];exact e
 have hi:=(ay.mp h2).1
 refine ⟨kk (nl h.ins nofun) h.ins,kk (nl h.ow nofun) h.ow,?_,by rw[bQ];exact h.plen,fun j p' d' g1 g2=>?_,kk (nl h.plc nofun) h.plc,h.qlen,fun j q e g1 g2=>kk (fun z=>hnd.1 (by rw[<-z];exact cZ _ (aw g1))) (h.oth j q e g1 g2),h.nd,fun b hb=>?_,h.new⟩
 .rw[gp_s]
  congr 2
  refine iI fun j=>?_
  rw[fV]
  by_cases hj:i=j
  .subst hj
   rw[cO (by rw[fW,h.plen];lia),cO hi,h1]
  .rw[cy hj,cy hj,fV]
 .have n':p'≠la:=fun z=>hnd.1 (by rw[<-z];exact gS _ (aw g1))
  dsimp only at g2
  by_cases hj:i=j
  .subst hj
   rw[cO hi] at g2
   cases g2
   exact kk n' (h.pap i p' d g1 h2)
  .rw[cy hj] at g2
   exact kk n' (h.pap j p' d' g1 g2)
 .rw[gp_n (fun z=>hb (by rw[z];simp))];exact h.old b hb
theorem MkSt.go (h:MkSt C Q most G0 G S m dx la pl ps qs) {g:Nat}:MkSt C Q most G0 (gput G m (.ins C dx [("program",pgT Q),("most",.int most),("lane",.ptr la),("places",.ptr pl),("going",.int g)])) { S with going:=g } m dx la pl ps qs:=by
 have ne:∀ {b c},G b=some c->(∀ C dx fs,c≠.ins C dx fs)->b≠m:=fun {b c} e n z=>by subst z;rw[h.ins] at e;cases e;exact n _ _ _ rfl
 have k:∀ {b c},G b=some c->(∀ C dx fs,c≠.ins C dx fs)->gput G m (.ins C dx [("program",pgT Q),("most",.int most),("lane",.ptr la),("places",.ptr pl),("going",.int g)]) b=some c:=fun {b c} e n=>by rw[gp_n (ne e n)];exact e
 exact ⟨gp_s,k h.ow nofun,k h.lane nofun,h.plen,fun i p d h1 h2=>k (h.pap i p d h1 h2) nofun,k h.plc nofun,h.qlen,fun i q e h1 h2=>k (h.oth i q e h1 h2) nofun,h.nd,fun b hb=>by rw[gp_n (fun z=>hb (by rw[z];exact bG))];exact h.old b hb,h.new⟩
end
end L2
end
section
namespace L2
open PySem
abbrev shp (s:SF):Int×Int×Nat:=(s.1,s.2.1,s.2.2.length)
theorem lH {l l':List SF} (h:l'.map shp=l.map shp):plcF l'=plcF l:=by
 have:=congrArg (List.map fun p:Int×Int×Nat=>(p.1,p.2.1)) h
 rw[cG,cG] at this
 exact this
theorem Zmv {Q:List Df} {n n' B B':Nat} {s s':SF} (h:SfOk Q n B s) (e:shp s'=shp s) (hf:∀ g∈s'.2.2,Fo n' B' g):SfOk Q n' B' s':=by
 obtain ⟨d,r,h1,h2,h3,h4,h5⟩:=h.ex
 simp only[shp,Prod.mk.injEq] at e
 obtain ⟨e1,e2,e3⟩:=e
 exact ⟨⟨d,r,by rw[e1];exact h1,by rw[e1];exact h2,by rw[e2];exact h3,by rw[e2];exact h4,by rw[e3];exact h5⟩,hf⟩
theorem ud {Q:List Df} {n n' B B':Nat} {f l':List SF} {s:SF} (h:FrsOk Q n B f s) (e:l'.map shp=(f++[s]).map shp) (hf:∀ t∈l',∀ g∈t.2.2,Fo n' B' g):∃ f' s',l'=f'++[s']/\f'.map shp=f.map shp/\shp s'=shp s/\FrsOk Q n' B' f' s':=by
 have hl:l'≠[]:=fun z=>by rw[z] at e;simp at e
 obtain ⟨f',s',rfl⟩:∃ f' s',l'=f'++[s']:=⟨_,_,(dropLast_concat_getLast hl).symm⟩
 rw[aO,aO] at e
 obtain ⟨e1,e2⟩:=append_inj' e rfl
 have e2:shp s'=shp s:=by simpa using e2
 refine ⟨f',s',rfl,e1,e2,?_,fun t ht=>?_,fun t ht=>?_⟩
 .have:=congrArg List.length e1
  rw[ai,ai] at this
  rw[this];exact h.few
 .obtain ⟨i,hi⟩:=fU.mp ht
  have e':(f'++[s']).map shp=(f++[s]).map shp:=by rw[aO,aO,e1];simp only[aF,cQ,e2]
  have:=congrArg (·[i]?) e'
  simp only[aj,hi,ff] at this
  obtain ⟨t0,e0,e3⟩:=aH.mp this.symm
  exact Zmv (h.all t0 (aw e0)) e3.symm (hf t ht)
 .obtain ⟨i,hi⟩:=fU.mp ht
  have:=congrArg (·[i]?) e1
  simp only[aj,hi,ff] at this
  obtain ⟨t0,e0,e3⟩:=aH.mp this.symm
  obtain ⟨p,g,qs,hc⟩:=h.call t0 (aw e0)
  simp only[shp,Prod.mk.injEq] at e3
  exact ⟨p,g,qs,by rw[<-e3.1,<- e3.2.1];exact hc⟩
def PlW (n:Nat) (f:Fm):Prop:=(f.2=[]/\f.1.natAbs<=10 ^ 91)\/∃ i:Nat,i < n/\f=ofW i
theorem PlW.le {n m:Nat} {f:Fm} (h:PlW n f) (l:n<=m):PlW m f:=h.imp id fun ⟨i,h1,h2⟩=>⟨i,by lia,h2⟩
theorem PlW.fo {n:Nat} {f:Fm} (h:PlW n f):Fo n (10 ^ 91) f:=by
 rcases h with ⟨h1,h2⟩|⟨i,hi,rfl⟩
 .obtain ⟨c,t⟩:=f
  dsimp only at h1 h2
  subst h1
  exact Fo.nil h2
 .exact ⟨bg _,fun p hp=>by rw[aN.mp hp];exact (by decide:(1:Int).natAbs<=10 ^ 91),fun p hp=>by rw[aN.mp hp];exact ⟨Int.natCast_nonneg _,Int.ofNat_lt.mpr hi⟩,by simp[ofW]⟩
theorem Zj5 {f:Fm} (h:eW f=false):f.1.natAbs<=10 ^ 91:=by
 unfold eW at h
 rw[aF,fO,Bool.or_eq_false_iff] at h
 have h1:¬ 300 < (Builtin.Int.intBits f.1:Int):=by simpa using h.1
 unfold Builtin.Int.intBits at h1
 split at h1
 .next e=>rw[gV.mp e];decide
 .next e =>
  have h2:f.1.natAbs.log2 < 300:=by lia
  have:f.1.natAbs < 2 ^ 300:=by
   by_cases z:f.1.natAbs=0
   .rw[z];exact Nat.two_pow_pos _
   .exact (nX z).mp h2
  exact aR (eZ this) (by decide)
def cntW (l:List Fm):Nat:=(l.filter fun f=>!decide (f.2=[])).length
theorem rO (o : Option (List SF)) (d : Nat) : ∀ (l : List (Fm × Nat)) (a : List Fm × Nat), (∀ f ∈ a.1, PlW a.2 f) -> (∀ f ∈ (l.foldl (aY o d) a).1, PlW (l.foldl (aY o d) a).2 f) /\ a.2 <= (l.foldl (aY o d) a).2 /\ (l.foldl (aY o d) a).2 <= a.2 + l.length /\ (l.foldl (aY o d) a).1.length = a.1.length + l.length /\ cntW (l.foldl (aY o d) a).1 + a.2 = cntW a.1 + (l.foldl (aY o d) a).2
  | [], a, h => ⟨h, aq _, aq _, rfl, rfl⟩
  | x :: l, a, h => by
    rw[dR]
    have step : (∀ f ∈ (aY o d a x).1, PlW (aY o d a x).2 f) /\ a.2 <= (aY o d a x).2 /\ (aY o d a x).2 <= a.2 + 1 /\ (aY o d a x).1.length = a.1.length + 1 /\ cntW (aY o d a x).1 + a.2 = cntW a.1 + (aY o d a x).2 := by
      unfold aY
      split
      . next hs =>
        unfold fX at hs
        simp only[fN,fR,Bool.not_eq_true'] at hs
        refine ⟨fun f hf=>?_,aq _,du _,by simp,by unfold cntW;rw[hU];simp[hs.1]⟩
        rcases aT.mp hf with hf|hf
        . exact h f hf
        . rw[aN.mp hf]; exact .inl ⟨hs.1, Zj5 hs.2.1⟩
      . refine ⟨fun f hf => ?_, du _, aq _, by simp, by unfold cntW; rw[hU]; simp[ofW]; lia⟩
        rcases aT.mp hf with hf|hf
        . exact (h f hf).le (du _)
        . rw[aN.mp hf]; exact .inr ⟨a.2, gw _, rfl⟩
    obtain ⟨s1,s2,s3,s4,s5⟩:=step
    obtain ⟨r1,r2,r3,r4,r5⟩:=rO o d l _ s1
    rw[bz]
    exact ⟨r1, by lia, by lia, by lia, by lia⟩
theorem vn (o : Option (List SF)) : ∀ (l : List (SF × Nat)) (a : List SF × Nat), (∀ s ∈ a.1, ∀ f ∈ s.2.2, PlW a.2 f) -> (∀ x ∈ l, x.1.2.2.length <= 8) -> (∀ s ∈ (l.foldl (cB o) a).1, ∀ f ∈ s.2.2, PlW (l.foldl (cB o) a).2 f) /\ a.2 <= (l.foldl (cB o) a).2 /\ (l.foldl (cB o) a).2 <= a.2 + 8 * l.length /\ (l.foldl (cB o) a).1.map shp = a.1.map shp ++ l.map (fun x => shp x.1) /\ bq (l.foldl (cB o) a).1 + a.2 = bq a.1 + (l.foldl (cB o) a).2
  | [], a, h, _ => ⟨h, aq _, aq _, by simp, rfl⟩
  | x :: l, a, h, h8 => by
    rw[dR]
    obtain ⟨b1,b2,b3,b4,b5⟩:=rO o x.2 x.1.2.2.zipIdx ([],a.2) (fun f hf=>(bv hf).elim)
    have e:cB o a x=(a.1++[(x.1.1,x.1.2.1,(x.1.2.2.zipIdx.foldl (aY o x.2) ([],a.2)).1)],(x.1.2.2.zipIdx.foldl (aY o x.2) ([],a.2)).2):=rfl
    generalize x.1.2.2.zipIdx.foldl (aY o x.2) ([],a.2)=r at b1 b2 b3 b4 b5 e
    rw[iR] at b3 b4
    have x8:=h8 x bG
    dsimp only at b2 b3 b4 b5
    have cn:cntW ([]:List Fm)=0:=rfl
    rw[cn] at b5
    rw[e]
    obtain ⟨r1, r2, r3, r4, r5⟩ := vn o l (a.1 ++ [(x.1.1, x.1.2.1, r.1)], r.2) (fun s hs f hf => by
      rcases aT.mp hs with hs|hs
      . exact (h s hs f hf).le b2
      . rw[aN.mp hs] at hf; exact b1 f hf) (fun y hy => h8 y (bE _ hy))
    dsimp only at r2 r3 r4 r5
    refine ⟨r1,by lia,by rw[bz];lia,?_,?_⟩
    . rw[r4, aO, fP]
      simp only[aF,cQ,singleton_append,shp]
      rw[b4];simp
    . have ew : bq (a.1 ++ [(x.1.1, x.1.2.1, r.1)]) = bq a.1 + (cntW r.1 : Int) := by
        unfold bq cntW;rw[aO,sum_append];simp
      rw[ew] at r5
      lia
theorem sE {Q:List Df} (K:PgK Q) {n B:Nat} {f:List SF} {s:SF} (h:FrsOk Q n B f s) (o:Option (List SF)):∃ (N:Nat) (f':List SF) (s':SF),N<=32/\bq (bP (f++[s]) o)=(N:Int)/\bP (f++[s]) o=f'++[s']/\f'.map shp=f.map shp/\shp s'=shp s/\FrsOk Q N (10 ^ 91) f' s'/\∀ t∈f'++[s'],∀ g∈t.2.2,PlW N g:=by
 have h8:∀ x∈(f++[s]).zipIdx,x.1.2.2.length<=8:=fun x hx=>by
  obtain ⟨d,r,hd,j,j,j,j,j,h5⟩:=cW (h.all x.1 (by
   obtain ⟨i,hi⟩:=fU.mp hx
   rw[iS] at hi
   obtain ⟨y,ey,rfl⟩:=aH.mp hi
   exact aw ey))
  have:=K.b d hd
  lia
 obtain ⟨r1,r2,r3,r4,r5⟩:=vn o (f++[s]).zipIdx ([],0) (fun s hs=>(bv hs).elim) h8
 have e:(f++[s]).zipIdx.map (fun x=>shp x.1)=(f++[s]).map shp:=by
  refine iI fun i=>?_
  rw[aj,aj,iS,Option.map_map];rfl
 rw[e] at r4
 have r4:(bP (f++[s]) o).map shp=(f++[s]).map shp:=r4
 have r1:∀ t∈bP (f++[s]) o,∀ g∈t.2.2,PlW (ji (f++[s]) o).2 g:=r1
 obtain ⟨f',s',e1,e2,e3,e4⟩:=ud (n':=(ji (f++[s]) o).2) (B':=10 ^ 91) h r4 (fun t ht g hg=>(r1 t ht g hg).fo)
 refine ⟨(ji (f++[s]) o).2,f',s',?_,?_,e1,e2,e3,e4,by rw[<-e1];exact r1⟩
 .have:=h.few
  rw[iR,aA] at r3
  simp at r3
  show (List.foldl (cB o) ([],0) (f++[s]).zipIdx).2<=32
  lia
 .have:bq (bP (f++[s]) o)+(0:Nat)=bq []+((ji (f++[s]) o).2:Int):=r5
  have w0:bq []=0:=rfl
  lia
end L2
end
section
namespace L2
open PySem
structure SdOk (Q:List Df) (d:Sd):Prop where
 ex:∃ f s r,d.fr=f++[s]/\FrsOk Q d.many (10 ^ 91) f s/\(∀ t∈f++[s],∀ g∈t.2.2,PlW d.many g)/\cx Q s.1 s.2.1=some r/\(d.word="test"->∃ p t,r=.zero p t\/r=.below p t)/\(d.word="take"->∃ p,r=.take p)/\(d.word="tell"->∃ p,r=.tell p)
 m:d.many<=32
 hold:d.word="hold"->∃ (w:Nat) (n:Int) (r:List T),d.rest=.int w::.int n::r/\w < d.many/\n.natAbs<=10 ^ 60
structure LdOk (Q:List Df) (S:MS):Prop where
 pk:PgK Q
 st:∀ d∈S.lane,SdOk Q d
 plc:∀ e∈S.plc,∀ k∈e.2,∃ d,S.lane[k]?=some d/\k2P (plcF d.fr)=e.1
 l2:S.plc.length<=S.lane.length
 l3:∀ e∈S.plc,e.2.length<=S.lane.length
theorem Zpg {a b:List (Int×Int)} (h:k2P a=k2P b):a=b:=by
  induction a generalizing b with
  | nil => cases b with
    | nil => rfl
    | cons y b => cases h
  | cons x a ih => cases b with
    | nil => cases h
    | cons y b =>
      unfold k2P at h
      simp only[aF,List.cons.injEq] at h
      obtain ⟨⟨h1,h2,j⟩,h3⟩:=h
      obtain ⟨x1,x2⟩:=x
      obtain ⟨y1,y2⟩:=y
      cases h1;cases h2
      rw[ih h3]
theorem pO {Q:List Df} (K:PgK Q) {l l':List SF} (e:plcF l'=plcF l) (h:∀ t∈l,∃ n B,SfOk Q n B t) (h':∀ t∈l',∃ n B,SfOk Q n B t):(∀ (i:Nat) s t,l[i]?=some s->l'[i]?=some t->s.2.2.length=t.2.2.length/\s.2.2.length<=8)/\l'.length=l.length:=by
 refine ⟨fun i s t es et=>?_,by have:=congrArg List.length e;unfold plcF at this;rwa [ai,ai] at this⟩
 obtain ⟨n,B,hs⟩:=h s (aw es)
 obtain ⟨n',B',ht⟩:=h' t (aw et)
 have:=congrArg (·[i]?) e
 unfold plcF at this
 simp only[aj,es,et,ff,Option.some.injEq,Prod.mk.injEq] at this
 obtain ⟨d,r,hd,h2,j,j,j,j,h5⟩:=cW hs
 obtain ⟨d',r',hd',h2',j,j,j,j,h5'⟩:=cW ht
 rw[this.1,h2] at h2'
 cases h2'
 have:=K.b d hd
 exact ⟨by lia,by lia⟩
section
variable {Q:List Df} {S:MS} {n B:Nat} {f:List SF} {s:SF} {most:Nat}
theorem LdOk.fit (h:LdOk Q S) (hf:FrsOk Q n B f s):∀ k∈S.oth (f++[s]),∃ d,S.lane[k]?=some d/\(∀ (i:Nat) a t,(f++[s])[i]?=some a->d.fr[i]?=some t->a.2.2.length=t.2.2.length/\a.2.2.length<=8)/\d.fr.length=(f++[s]).length:=fun k hk=>by
 unfold MS.oth at hk
 cases hfi:S.plc.find? fun e=>decide (e.1=k2P (plcF (f++[s]))) with
 | none=>rw[hfi] at hk;cases hk
 | some e =>
  rw[hfi] at hk
  obtain ⟨d,ed,ek⟩:=h.plc e (iV hfi) k hk
  have e1:e.1=k2P (plcF (f++[s])):=by simpa using find?_some hfi
  obtain ⟨f',s',r,e2,e3,j⟩:=(h.st d (aw ed)).ex
  refine ⟨d,ed,pO h.pk (Zpg (ek.trans e1)) (fun t ht=>⟨n,B,hf.all t ht⟩) fun t ht=>⟨_,_,e3.all t (by rw[<-e2];exact ht)⟩⟩
theorem LdOk.few (h:LdOk Q S) (l:List SF):(S.oth l).length<=S.lane.length:=by
 unfold MS.oth
 cases hfi:S.plc.find? fun e=>decide (e.1=k2P (plcF l)) with
 | none=>exact bg _
 | some e=>exact h.l3 e (iV hfi)
theorem kN {key : K2} {k : Nat} : ∀ {l : List (K2 × List Nat)} {e'}, e' ∈ dq key k l -> e' ∈ l \/ (∃ e ∈ l, e.1 = key /\ e' = (e.1, e.2 ++ [k])) \/ e' = (key, [k])
  | [], e', h => .inr (.inr (aN.mp h))
  | e :: l, e', h => by
    unfold dq at h
    split at h
    . next he =>
      rcases aG.mp h with h|h
      . exact .inr (.inl ⟨e, bG, he, h⟩)
      . exact .inl (bE _ h)
    . rcases aG.mp h with h | h
      . exact .inl (h ▸ bG)
      . rcases kN h with h | ⟨x, hx, h⟩ | h
        . exact .inl (bE _ h)
        . exact .inr (.inl ⟨x, bE _ hx, h⟩)
        . exact .inr (.inr h)
theorem pZ {key : K2} {k : Nat} : ∀ (l : List (K2 × List Nat)), (dq key k l).length <= l.length + 1
  | [] => aq _
  | e :: l => by
    unfold dq
    split
    . exact du _
    . rw[bz, bz]; have := pZ (key := key) (k := k) l; lia
theorem LdOk.paper (h:LdOk Q S) (hf:FrsOk Q n B f s):∃ (N:Nat) (f':List SF) (s':SF),N<=32/\bq (S.paper (f++[s]))=(N:Int)/\S.paper (f++[s])=f'++[s']/\f'.map shp=f.map shp/\shp s'=shp s/\FrsOk Q N (10 ^ 91) f' s'/\∀ t∈f'++[s'],∀ g∈t.2.2,PlW N g:=sE h.pk hf _
theorem qD {r:Rw} (f':List SF) {s':SF} (hr:cx Q s'.1 s'.2.1=some r) (g:Nat):((cA Q most g (f'++[s'])).1="test"->∃ p t,r=.zero p t\/r=.below p t)/\((cA Q most g (f'++[s'])).1="take"->∃ p,r=.take p)/\((cA Q most g (f'++[s'])).1="tell"->∃ p,r=.tell p)/\(cA Q most g (f'++[s'])).1≠"hold":=by
 unfold cA
 split
 .dsimp only
  exact ⟨fun e=>absurd e (by decide),fun e=>absurd e (by decide),fun e=>absurd e (by decide),by decide⟩
 .unfold dH
  split
  .rw[oI,Option.bind_some,hr]
   cases r <;> simp only[ff,iP,o5] <;> refine ⟨fun e=>?_,fun e=>?_,fun e=>?_,by decide⟩ <;> first|exact ⟨_,_,.inl rfl⟩|exact ⟨_,_,.inr rfl⟩|exact ⟨_,rfl⟩|exact absurd e (by decide)
  .dsimp only
   exact ⟨fun e=>absurd e (by decide),fun e=>absurd e (by decide),fun e=>absurd e (by decide),by decide⟩
theorem r9 {S:MS} {d:Sd} (h:LdOk Q S):∀ e∈S.plc,∀ k∈e.2,∃ d',(S.lane++[d])[k]?=some d'/\k2P (plcF d'.fr)=e.1:=fun e he k hk=>by
 obtain ⟨d',h1,h2⟩:=h.plc e he k hk
 exact ⟨d',by rw[bN (ay.mp h1).1];exact h1,h2⟩
theorem LdOk.add (h:LdOk Q S) (hf:FrsOk Q n B f s):LdOk Q (S.add Q most (f++[s])):=by
 obtain ⟨N,f',s',h1,h2,h3,h4,h5,h6,h7⟩:=h.paper hf
 have hsh:(S.paper (f++[s])).map shp=(f++[s]).map shp:=by rw[h3,aO,aO,h4];simp only[aF,cQ,h5]
 obtain ⟨d,r,hd,j,hr,j⟩:=cW (h6.all s' (by simp))
 unfold MS.add
 rw[h2,dF]
 refine ⟨h.pk,fun d hd=>?_,fun e he k hk=>?_,?_,fun e he=>?_⟩
 .rcases aT.mp hd with hd|hd
  .exact h.st d hd
  .rw[aN.mp hd,h3]
   obtain ⟨r1,r2,r3,r4⟩:=qD (most:=most) f' hr S.going
   exact ⟨⟨f',s',r,rfl,h6,h7,hr,r1,r2,r3⟩,h1,fun e=>absurd e r4⟩
 .rcases kN he with he|⟨x,hx,ex,rfl⟩|rfl
  .exact r9 h e he k hk
  .rcases aT.mp hk with hk|hk
   .exact r9 h x hx k hk
   .rw[aN.mp hk]
    exact ⟨_,cI,by rw[ex,lH hsh]⟩
  .rw[aN.mp hk]
   exact ⟨_,cI,by rw[lH hsh]⟩
 .rw[aA]
  have:=pZ (key:=k2P (plcF (f++[s]))) (k:=S.lane.length) S.plc
  have:=h.l2
  exact aR (pZ _) (by simp;lia)
 .rw[aA]
  rcases kN he with he|⟨x,hx,ex,rfl⟩|rfl
  .have:=h.l3 e he;lia
  .have:=h.l3 x hx;rw[aA];simp;lia
  .simp
theorem LdOk.set (h:LdOk Q S) {k:Nat} {d:Sd} {r:List T} (ed:S.lane[k]?=some d) (hr:d.word="hold"->∃ x,r=d.rest++x):LdOk Q { S with lane:=S.lane.set k { d with rest:=r } }:=by
 have hk:=(ay.mp ed).1
 have D:=h.st d (aw ed)
 refine ⟨h.pk,fun d' hd=>?_,fun e he j hj=>?_,by rw[bQ];exact h.l2,fun e he=>by rw[bQ];exact h.l3 e he⟩
 .rcases gB hd with hd|rfl
  .exact h.st d' hd
  .refine ⟨D.ex,D.m,fun e=>?_⟩
   obtain ⟨w,n,r',e1,e2,e3⟩:=D.hold e
   obtain ⟨x,rfl⟩:=hr e
   exact ⟨w,n,r'++x,by rw[e1];rfl,e2,e3⟩
 .obtain ⟨d',h1,h2⟩:=h.plc e he j hj
  by_cases hj:k=j
  .subst hj
   rw[ed] at h1;cases h1
   exact ⟨_,cO hk,h2⟩
  .exact ⟨d',by rw[cy hj];exact h1,h2⟩
theorem LdOk.addAt (h:LdOk Q S) (hf:FrsOk Q n B f s):∃ d,(S.add Q most (f++[s])).lane[S.lane.length]?=some d/\(∀ (i:Nat) a t,(f++[s])[i]?=some a->d.fr[i]?=some t->a.2.2.length=t.2.2.length/\a.2.2.length<=8):=by
 obtain ⟨N,f',s',h1,h2,h3,h4,h5,h6,h7⟩:=h.paper hf
 have hsh:(S.paper (f++[s])).map shp=(f++[s]).map shp:=by rw[h3,aO,aO,h4];simp only[aF,cQ,h5]
 refine ⟨_,cI,(pO h.pk (lH hsh) (fun t ht=>⟨n,B,hf.all t ht⟩) fun t ht=>⟨_,_,h6.all t (by rw[<-h3];exact ht)⟩).1⟩
theorem rL {g:Fm} (h:Fo n B g):g.2.length<=n:=by
 have:=mX (n:=n) _ h.nd (fun x hx=>by obtain ⟨p,hp,rfl⟩:=bL.mp hx;exact h.w p hp)
 rwa [ai] at this
theorem sr (K:PgK Q) {rows:Nat} (h:FrsOk Q n (10 ^ 91 * 100 ^ rows) f s) {l':List SF} (e:fA Q (f++[s])=some l'):∃ f' s',l'=f'++[s']/\FrsOk Q n (10 ^ 91 * 100 ^ (rows+1)) f' s':=by
 unfold fA at e
 rw[oI,iT] at e
 have hb:10 ^ 60<=10 ^ 91 * 100 ^ rows:=aR (by decide) (Nat.le_mul_of_pos_right _ (Nat.pow_pos (by decide)))
 obtain ⟨f',s',h1,h2⟩:=Zky K hb h e
 exact ⟨f',s',h1,by rwa [Nat.mul_left_comm,Nat.mul_comm 100 (100 ^ rows),<- Nat.pow_succ] at h2⟩
theorem Zjz {rows:Nat} (h:rows<=200):10 ^ 91 * 100 ^ rows<=10 ^ 900:=aR (kf _ (Nat.pow_le_pow_right (by decide) h)) (by decide)
end
end L2
end
section
namespace L2
open PySem
def cw (fl:List Fm) (s:SF):SF:=(s.1,s.2.1,s.2.2.map fun f=>dA f fl)
section
variable {Q:List Df} {S:MS} {n B:Nat} {f:List SF} {s:SF} {most R:Nat}
theorem t7 (K : PgK Q) {least : Nat} : ∀ (fuel rows : Nat) (f : List SF) (s : SF), FrsOk Q n (10 ^ 91 * 100 ^ rows) f s -> ∃ f1 s1 r, cK Q S least fuel rows (f ++ [s]) = (f1 ++ [s1], r) /\ FrsOk Q n (10 ^ 91 * 100 ^ r) f1 s1
  | 0, rows, f, s, h => ⟨f, s, rows, rfl, h⟩
  | fuel + 1, rows, f, s, h => by
    rw[cK]
    split
    . exact ⟨f, s, rows, rfl, h⟩
    . cases e : fA Q (f ++ [s]) with
      | none => exact ⟨f, s, rows, rfl, h⟩
      | some l' =>
        obtain ⟨f',s',rfl,h'⟩:=sr K h e
        exact t7 K fuel (rows + 1) f' s' h'
def isGo (d:Sd):Bool:=!(decide (d.word="leave") || decide (d.word="hold"))
def cntG (l:List Sd):Nat:=(l.filter isGo).length
structure CtOk (most R:Nat) (S:MS):Prop where
 c:cntG S.lane=S.going
 m:S.going<=most
 hd:∀ (k:Nat) d,S.lane[k]?=some d->d.word="hold"->∃ d2,S.lane[k+1]?=some d2/\plcF d2.fr=plcF d.fr
 rl:∀ d∈S.lane,d.rest.length<=R
theorem CtOk.add (h:CtOk most R S) (L:LdOk Q S) (hf:FrsOk Q n B f s):CtOk most R (S.add Q most (f++[s])):=by
 obtain ⟨N,f',s',h1,h2,h3,h4,h5,h6,h7⟩:=L.paper hf
 obtain ⟨d,r,hd,j,hr,j⟩:=cW (h6.all s' (by simp))
 have hw:=(qD (most:=most) f' hr S.going).2.2.2
 unfold MS.add
 rw[h3]
 refine ⟨?_,?_,fun k d ek ew=>?_,fun d hd=>?_⟩
 .dsimp only
  unfold cntG
  rw[hU,aA]
  have:=h.c
  unfold cntG at this
  rw[this]
  unfold cA at hw ⊢
  split
  .rfl
  .next hn =>
   rw[ah hn] at hw
   have hn1:¬ dH Q (f'++[s'])="leave":=fun e=>hn (.inl e)
   have e:isGo ⟨(bq (f'++[s'])).toNat,f'++[s'],dH Q (f'++[s']),[]⟩=true:=by
    unfold isGo
    rw[aL hn1,aL hw];rfl
   rw[dW,ag e];rfl
 .dsimp only
  unfold cA
  split
  .exact h.m
  .next hn=>show S.going+1<=most;have:¬ most<=S.going:=fun e=>hn (.inr e);lia
 .dsimp only at ek ⊢
  by_cases hk:k < S.lane.length
  .rw[bN hk] at ek
   obtain ⟨d2,e2,e3⟩:=h.hd k d ek ew
   exact ⟨d2,by rw[bN (ay.mp e2).1];exact e2,e3⟩
  .have hk2:=(ay.mp ek).1
   rw[aA] at hk2
   have e:k=S.lane.length:=by simp at hk2;lia
   subst e
   rw[cI] at ek
   cases ek
   exact absurd ew hw
 .rcases aT.mp hd with hd|hd
  .exact h.rl d hd
  .rw[aN.mp hd];exact bg _
theorem LdOk.edgeFrom (h:LdOk Q S) (c:CtOk most R S) (hf:FrsOk Q n (10 ^ 91) f s) (least:Nat):LdOk Q (S.edgeFrom Q most (f++[s]) least).1/\CtOk most R (S.edgeFrom Q most (f++[s]) least).1/\∃ x:List Sd,(S.edgeFrom Q most (f++[s]) least).1.lane=S.lane++x/\x.length<=1:=by
 obtain ⟨f1,s1,r,e,h1⟩:=t7 (S:=S) h.pk (least:=least) 201 0 f s (by rw[Nat.pow_zero,Nat.mul_one];exact hf)
 unfold MS.edgeFrom
 rw[e]
 dsimp only
 split
 .exact ⟨h,c,[],(bH _).symm,bg _⟩
 .exact ⟨h.add h1,c.add h h1,_,rfl,aq _⟩
theorem ZmI {own:List Fm} {N:Nat} {g:Fm} (h:PlW n g) (ho:∀ g∈own,PlW N g) (hl:n<=own.length):PlW N (dA g own):=by
 rcases h with ⟨h1,h2⟩|⟨i,hi,rfl⟩
 .obtain ⟨c,t⟩:=g
  dsimp only at h1 h2
  subst h1
  exact .inl ⟨by show bO [] (sortI [])=[];unfold sortI;rw[mergeSort_nil];rfl,h2⟩
 .have hi:i < own.length:=by lia
  have en:nthF own (i:Int)=own[i]:=by unfold nthF;rw[dF,dU,ax hi];rfl
  have e:dA (ofW i) own=wnF (0+1 * (own[i]).1) (aX [] (own[i]).2 1):=by rw[<-en];rfl
  rw[e]
  rcases ho _ (iQ hi) with ⟨h1,h2⟩|⟨j,hj,e2⟩
  .rw[h1]
   refine .inl ⟨by show bO [] (sortI [])=[];unfold sortI;rw[mergeSort_nil];rfl,?_⟩
   show (0+1 * (own[i]).1).natAbs<=_
   rw[j8,Int.one_mul];exact h2
  .rw[e2]
   refine .inr ⟨j,hj,?_⟩
   show ((0:Int)+1 * 0,bO [((j:Int),1 * 1)] (sortI [(j:Int)]))=_
   unfold sortI
   rw[mergeSort_singleton]
   have:aQ [((j:Int),1 * 1)] j=1:=by unfold aQ;simp
   unfold bO
   rw[dW,ag (by rw[this];rfl),filter_nil,aF,this]
   rfl
theorem own_pw {many:Nat} {word:Str} {nums:List Int} (hn:word="hold"->∃ (w:Nat) (m:Int),nums=[(w:Int),m]/\m.natAbs<=10 ^ 60):(∀ g∈ownF many word nums,PlW (many+1) g)/\many<=(ownF many word nums).length/\(ownF many word nums).length<=many+1:=by
 have wn:∀ g∈aE many,PlW (many+1) g:=fun g hg=>by
  unfold aE at hg
  obtain ⟨i,hi,rfl⟩:=bL.mp hg
  have:=cN.mp hi
  exact .inr ⟨i,by lia,rfl⟩
 have wl:(aE many).length=many:=by unfold aE;rw[ai,cH]
 unfold ownF
 split
 .refine ⟨fun g hg=>?_,by rw[aA,wl];exact du _,by rw[aA,wl];exact aq _⟩
  rcases aT.mp hg with hg|hg
  .exact wn g hg
  .rw[aN.mp hg];exact .inr ⟨many,gw _,rfl⟩
 .split
  .next hw =>
   obtain ⟨w,m,rfl,hm⟩:=hn hw
   refine ⟨fun g hg=>?_,by rw[bQ,wl];exact aq _,by rw[bQ,wl];exact du _⟩
   rcases gB hg with hg|rfl
   .exact wn g hg
   .exact .inl ⟨rfl,aR hm (by decide)⟩
  .exact ⟨wn,by rw[wl];exact aq _,by rw[wl];exact du _⟩
theorem Zps {own:List Fm} {N:Nat} (h:FrsOk Q n B f s) (hp:∀ t∈f++[s],∀ g∈t.2.2,PlW n g) (ho:∀ g∈own,PlW N g) (hl:n<=own.length):FrsOk Q N (10 ^ 91) (f.map (cw own)) (cw own s):=by
 obtain ⟨f',s',e1,j,j,e4⟩:=ud (n':=N) (B':=10 ^ 91) h (l':=(f++[s]).map (cw own)) (by
  rw[cG]
  refine j7 fun t j=>?_
  simp[cw,shp]) (fun t ht g hg=>by
  obtain ⟨t',ht',rfl⟩:=bL.mp ht
  obtain ⟨g',hg',rfl⟩:=bL.mp hg
  exact (ZmI (hp t' ht' g' hg') ho hl).fo)
 rw[aO,aF,cQ] at e1
 obtain ⟨e5,e6⟩:=append_inj' e1 rfl
 cases e6
 rw[e5];exact e4
theorem Zkt (K:PgK Q) {word:Str} {own:List Fm} {r:Rw} (h:FrsOk Q n (10 ^ 91) f s) (hr:cx Q s.1 s.2.1=some r) (h1:word="test"->∃ p t,r=.zero p t\/r=.below p t) (h2:word="take"->∃ p,r=.take p) (h3:word="tell"->∃ p,r=.tell p) (ho:word="take"->∃ ys y,own=ys++[y]/\Fo n (10 ^ 91) y):∀ l∈eC Q f s word own,∃ f' s',l=f'++[s']/\FrsOk Q n (10 ^ 91) f' s':=by
 have hs:=h.all s (by simp)
 obtain ⟨d,r',hd,e2,hr',h4,h0,h30,h5⟩:=cW hs
 rw[hr] at hr';cases hr'
 have ok:=(K.ok.2.2 d hd).rows r (aw h4)
 have mk:∀ s2:SF,SfOk Q n (10 ^ 91) s2->FrsOk Q n (10 ^ 91) f s2:=fun s2 h2=>⟨h.few,fun t ht=>by rcases aT.mp ht with ht|ht;exact h.all t (by simp[ht]);rw[aN.mp ht];exact h2,h.call⟩
 have tr:∀ {t:Int},In0 t d.rows.length->∃ f2 s2,dC f s t=f2++[s2]/\FrsOk Q n (10 ^ 91) f2 s2:=fun {t} ht=>⟨f,_,rfl,mk _ (kX hs ht.1 fun d' hd'=>by rw[e2] at hd';cases hd';have:=ht.2;have:=ht.1;lia)⟩
 have nx:¬ r.last->∃ f2 s2,dC f s (s.2.1+1)=f2++[s2]/\FrsOk Q n (10 ^ 91) f2 s2:=fun hl=>by
  obtain ⟨n1,n2⟩:=ja K hs hr hl
  exact ⟨f,_,rfl,mk _ (kX hs n1 n2)⟩
 intro l hl
 unfold eC at hl
 split at hl
 .next hw =>
  rw[hr] at hl
  obtain ⟨p,t,rfl|rfl⟩:=h1 hw
  .rcases aG.mp hl with rfl|hl
   .exact tr ok.2
   .rw[aN.mp hl];exact nx (fun h=>h)
  .rcases aG.mp hl with rfl|hl
   .exact tr ok.2
   .rw[aN.mp hl];exact nx (fun h=>h)
 .split at hl
  .next hw =>
   obtain ⟨p,rfl⟩:=h3 hw
   rw[aN.mp hl];exact nx (fun h=>h)
  .split at hl
   .next hw =>
    obtain ⟨p,rfl⟩:=h2 hw
    obtain ⟨ys,y,rfl,hy⟩:=ho hw
    rw[aN.mp hl,getLastD_concat]
    obtain ⟨n1,n2⟩:=ja K hs hr (fun h=>h)
    exact ⟨f,_,rfl,mk _ (oR hs hy n1 n2)⟩
   .rw[aN.mp hl];exact ⟨f,s,rfl,h⟩
theorem pH {word:Str} {own:List Fm}:(eC Q f s word own).length<=2:=by
 unfold eC;split
 .exact aq _
 .split
  .exact du _
  .split <;> exact du _
end
end L2
end
section
namespace L2
open PySem
def Sd.nums (d:Sd):List Int:=match d.rest with
 | .int w::.int n::_=>[w,n]
 | _=>[]
def Sd.own (d:Sd):List Fm:=ownF d.many d.word d.nums
def Sd.starts (Q:List Df) (d:Sd):List (List SF):=eC Q (d.fr.dropLast.map (cw d.own)) (cw d.own (d.fr.getLast?.getD (0,0,[]))) d.word d.own
def bY (Q:List Df) (most least:Nat) (a:MS×List T) (l:List SF):MS×List T:=((a.1.edgeFrom Q most l least).1,a.2++[(a.1.edgeFrom Q most l least).2])
def MS.edges (Q:List Df) (most:Nat) (S:MS) (k:Nat):MS×List T:=match S.lane[k]? with
 | none=>(S,[])
 | some d=>if d.word="leave" then (S,[]) else if d.word="hold" then (S,[ik S (k+1) ((d.starts Q).headD []) 0]) else (d.starts Q).foldl (bY Q most (if d.word="go" then 1 else 0)) (S,[])
def MS.step (Q:List Df) (most:Nat) (S:MS) (k:Nat):MS:=match S.lane[k]? with
 | none=>S
 | some d=>{ (S.edges Q most k).1 with lane:=(S.edges Q most k).1.lane.set k { d with rest:=d.rest++(S.edges Q most k).2 } }
section
variable {Q:List Df} {S:MS} {most R:Nat} {d:Sd} {k:Nat}
theorem rV (h:SdOk Q d) (e:d.word="hold"):∃ (w:Nat) (n:Int) (r:List T),d.nums=[(w:Int),n]/\d.rest=.int w::.int n::r/\w < d.many/\n.natAbs<=10 ^ 60:=by
 obtain ⟨w,n,r,h1,h2,h3⟩:=h.hold e
 exact ⟨w,n,r,by unfold Sd.nums;rw[h1],h1,h2,h3⟩
theorem sT (h:SdOk Q d):(∀ g∈d.own,PlW (d.many+1) g)/\d.many<=d.own.length/\d.own.length<=d.many+1:=own_pw fun e=>let ⟨w,n,_,h1,_,_,h4⟩:=rV h e;⟨w,n,h1,h4⟩
theorem sV (K:PgK Q) (h:SdOk Q d):∃ f s r,d.fr=f++[s]/\d.starts Q=eC Q (f.map (cw d.own)) (cw d.own s) d.word d.own/\FrsOk Q d.many (10 ^ 91) f s/\(∀ t∈f++[s],∀ g∈t.2.2,PlW d.many g)/\cx Q s.1 s.2.1=some r/\(d.word="test"->∃ p t,r=.zero p t\/r=.below p t)/\(d.word="take"->∃ p,r=.take p)/\FrsOk Q (d.many+1) (10 ^ 91) (f.map (cw d.own)) (cw d.own s)/\∀ l∈d.starts Q,∃ f' s',l=f'++[s']/\FrsOk Q (d.many+1) (10 ^ 91) f' s':=by
 obtain ⟨f,s,r,e,h1,h2,h3,h4,h5,h6⟩:=h.ex
 obtain ⟨o1,o2,o3⟩:=sT h
 have es:d.starts Q=eC Q (f.map (cw d.own)) (cw d.own s) d.word d.own:=by unfold Sd.starts;rw[e,oI,iT];rfl
 have hf:=Zps h1 h2 o1 o2
 refine ⟨f,s,r,e,es,h1,h2,h3,h4,h5,hf,?_⟩
 rw[es]
 refine Zkt K hf h3 h4 h5 h6 fun ew=>?_
 refine ⟨aE d.many,ofW d.many,by unfold Sd.own ownF;rw[ag ew],PlW.fo (.inr ⟨d.many,gw _,rfl⟩)⟩
theorem qr (L : LdOk Q S) (c : CtOk most R S) {n least : Nat} : ∀ (ls : List (List SF)) (a : MS × List T), LdOk Q a.1 -> CtOk most R a.1 -> (∀ l ∈ ls, ∃ f' s', l = f' ++ [s'] /\ FrsOk Q n (10 ^ 91) f' s') -> LdOk Q (ls.foldl (bY Q most least) a).1 /\ CtOk most R (ls.foldl (bY Q most least) a).1 /\ (∃ x : List Sd, (ls.foldl (bY Q most least) a).1.lane = a.1.lane ++ x /\ x.length <= ls.length) /\ (ls.foldl (bY Q most least) a).2.length = a.2.length + ls.length
  | [], a, h1, h2, _ => ⟨h1, h2, ⟨[], (bH _).symm, aq _⟩, rfl⟩
  | l :: ls, a, h1, h2, h3 => by
    obtain ⟨f',s',rfl,hf⟩:=h3 l bG
    obtain ⟨g1,g2,x,g3,g4⟩:=h1.edgeFrom h2 hf least
    rw[dR]
    obtain ⟨r1,r2,⟨y,r3,r4⟩,r5⟩:=qr L c (least:=least) ls (bY Q most least a (f'++[s'])) g1 g2 fun l hl=>h3 l (bE _ hl)
    refine ⟨r1,r2,⟨x++y,by rw[r3,<- fP,<- g3];rfl,by rw[aA,bz];lia⟩,?_⟩
    rw[r5]
    unfold bY
    simp
    lia
theorem sJ (L:LdOk Q S) (c:CtOk most R S) (ed:S.lane[k]?=some d):LdOk Q (S.edges Q most k).1/\CtOk most R (S.edges Q most k).1/\(∃ x:List Sd,(S.edges Q most k).1.lane=S.lane++x/\x.length<=if isGo d=true then 2 else 0)/\(S.edges Q most k).2.length<=2:=by
 unfold MS.edges
 rw[ed]
 dsimp only
 have D:=L.st d (aw ed)
 split
 .exact ⟨L,c,⟨[],(bH _).symm,bg _⟩,bg _⟩
 .next hl =>
  split
  .exact ⟨L,c,⟨[],(bH _).symm,bg _⟩,du _⟩
  .next hh =>
   obtain ⟨f,s,r,j,es,j,j,j,j,j,j,hs⟩:=sV L.pk D
   have few:(d.starts Q).length<=2:=by rw[es];exact pH
   obtain ⟨r1,r2,⟨x,r3,r4⟩,r5⟩:=qr L c (least:=if d.word="go" then 1 else 0) (d.starts Q) (S,[]) L c hs
   have hg:isGo d=true:=by unfold isGo;rw[aL hl,aL hh];rfl
   refine ⟨r1,r2,⟨x,r3,by rw[ag hg];lia⟩,by rw[r5];simp;lia⟩
end
end L2
end
section
namespace L2
open PySem
def MS.run (Q:List Df) (most:Nat):Nat->Nat->MS->MS
 | 0,_,S=>S
 | f+1,k,S=>if k < S.lane.length then MS.run Q most f (k+1) (S.step Q most k) else S
section
variable {Q:List Df} {S:MS} {most R:Nat} {d:Sd} {k:Nat}
def goW (x:Str):Bool:=!(decide (x="leave") || decide (x="hold"))
theorem kR (l:List Sd):cntG l=((l.map (·.word)).filter goW).length:=by
 unfold cntG
 rw[filter_map,ai];rfl
theorem si {l:List Sd} {r:List T} (h:l[k]?=some d):(l.set k { d with rest:=r }).map (·.word)=l.map (·.word):=by
 refine iI fun j=>?_
 rw[aj,aj]
 by_cases e:k=j
 .subst e
  rw[cO (ay.mp h).1,h];rfl
 .rw[cy e]
theorem CtOk.set {R':Nat} (c:CtOk most R S) {r:List T} (h:S.lane[k]?=some d) (hR:R<=R') (hr:r.length<=R'):CtOk most R' { S with lane:=S.lane.set k { d with rest:=r } }:=by
 have hk:=(ay.mp h).1
 have at':∀ (j:Nat) x,(S.lane.set k { d with rest:=r })[j]?=some x->∃ y,S.lane[j]?=some y/\y.word=x.word/\y.fr=x.fr:=fun j x e=>by
  by_cases hj:k=j
  .subst hj
   rw[cO hk] at e
   cases e
   exact ⟨d,h,rfl,rfl⟩
  .rw[cy hj] at e
   exact ⟨x,e,rfl,rfl⟩
 refine ⟨?_,c.m,fun j x e ew=>?_,fun x hx=>by rcases gB hx with hx|rfl;exact aR (c.rl x hx) hR;exact hr⟩
 .rw[kR]
  dsimp only
  rw[si h,<- kR];exact c.c
 .obtain ⟨y,e1,e2,e3⟩:=at' j x e
  obtain ⟨d2,e4,e5⟩:=c.hd j y e1 (e2.trans ew)
  dsimp only
  by_cases hj:k=j+1
  .subst hj
   rw[h] at e4;cases e4
   exact ⟨_,cO hk,by rw[<-e3];exact e5⟩
  .exact ⟨d2,by rw[cy hj];exact e4,by rw[<-e3];exact e5⟩
theorem Zmt (L:LdOk Q S) (c:CtOk most R S) (ed:S.lane[k]?=some d):LdOk Q (S.step Q most k)/\CtOk most (R+2) (S.step Q most k)/\(S.edges Q most k).1.lane[k]?=some d/\(S.step Q most k).lane.length<=S.lane.length+2 * (cntG ((S.step Q most k).lane.take (k+1)) - cntG (S.lane.take k))/\cntG (S.lane.take k)<=cntG ((S.step Q most k).lane.take (k+1)):=by
 obtain ⟨h1,h2,⟨x,h3,h4⟩,h5⟩:=sJ L c ed
 have hk:=(ay.mp ed).1
 have ed2:(S.edges Q most k).1.lane[k]?=some d:=by rw[h3,bN hk];exact ed
 unfold MS.step
 rw[ed]
 dsimp only
 have ec:cntG (((S.edges Q most k).1.lane.set k { d with rest:=d.rest++(S.edges Q most k).2 }).take (k+1))=cntG (S.lane.take k)+if isGo d=true then 1 else 0:=by
  rw[kR,map_take,si ed2,h3,aO,take_append_of_le_length (by rw[ai];exact hk),b9,aj,ed,hU,aA,<- map_take,<- kR]
  congr 1
  show (List.filter goW [d.word]).length=_
  have:isGo d=goW d.word:=rfl
  rw[this,dW]
  split <;> rfl
 refine ⟨h1.set ed2 fun j=>⟨_,rfl⟩,h2.set ed2 (by lia) (by rw[aA];have:=c.rl d (aw ed);lia),ed2,?_,by rw[ec];lia⟩
 rw[ec,bQ,h3,aA]
 by_cases hg:isGo d=true
 .rw[ag hg] at h4 ⊢;lia
 .rw[ah hg] at h4 ⊢;lia
theorem Znp (l:List Sd) (k:Nat):cntG (l.take k)<=cntG l:=by
 unfold cntG
 exact (List.Sublist.filter _ (take_sublist k l)).length_le
end
end L2
end
section
namespace L2
open PySem
def wdF (l:List SF) (box:Int):Nat:=match (((bP l none).getD 0 (0,0,[])).2.2.getD box.toNat (0,[])).2 with
 | []=>0
 | p::_=>p.2.toNat
def dX (f at':Int) (a:MS×List Fm) (p:Int×Int):MS×List Fm:=(a.1.hold [(f,at',a.2)] (wdF [(f,at',a.2)] p.1) p.2,a.2.set p.1.toNat (p.2,[]))
def fh (f at':Int) (boxes:Nat) (known:List (Int×Int)):MS×List Fm:=known.foldl (dX f at') (⟨[],[],0⟩,aE boxes)
def dZ (Q:List Df) (f at':Int) (boxes:Nat) (known:List (Int×Int)) (most:Nat):MS:=((fh f at' boxes known).1.add Q most [(f,at',(fh f at' boxes known).2)]).run Q most 100 0
section
variable {C:Addr} {Q:List Df} {most:Nat} {G0 G:GH} {S:MS} {m dx la pl:Addr} {ps qs:List Addr} {a:Addr} {c c':Ct}
theorem MkSt.upd (h:MkSt C Q most (gput G0 a c) G S m dx la pl ps qs):MkSt C Q most (gput G0 a c') (gput G a c') S m dx la pl ps qs:=by
 have na:=h.not0 gp_s
 have ne:∀ {b},b∈m::dx::la::pl::(ps++qs)->b≠a:=fun {b} hb e=>na (e▸hb)
 have k:∀ {b c2},b∈m::dx::la::pl::(ps++qs)->G b=some c2->gput G a c' b=some c2:=fun {b c2} hb e=>by rw[gp_n (ne hb)];exact e
 refine ⟨k (by simp) h.ins,k (by simp) h.ow,k (by simp) h.lane,h.plen,fun i p d h1 h2=>k (by simp[aw h1]) (h.pap i p d h1 h2),k (by simp) h.plc,h.qlen,fun i q e h1 h2=>k (by simp[aw h1]) (h.oth i q e h1 h2),h.nd,fun b hb=>?_,fun b hb=>?_⟩
 .by_cases e:b=a
  .rw[e,gp_s,gp_s]
  .rw[gp_n e,gp_n e,h.old b hb,gp_n e]
 .have:=h.new b hb
  rw[gp_n (ne hb)] at this ⊢;exact this
theorem MkSt.less (h:MkSt C Q most (gput G0 a c) G S m dx la pl ps qs) (n:G0 a=none):MkSt C Q most G0 (gdel G a) S m dx la pl ps qs/\gput (gdel G a) a c=G:=by
 have na:=h.not0 gp_s
 have ga:G a=some c:=by rw[h.old a na,gp_s]
 have ne:∀ {b},b∈m::dx::la::pl::(ps++qs)->b≠a:=fun {b} hb e=>na (e▸hb)
 have dn:∀ {b},b≠a->gdel G a b=G b:=fun {b} e=>ah e
 have k:∀ {b c2},b∈m::dx::la::pl::(ps++qs)->G b=some c2->gdel G a b=some c2:=fun {b c2} hb e=>by rw[dn (ne hb)];exact e
 refine ⟨⟨k (by simp) h.ins,k (by simp) h.ow,k (by simp) h.lane,h.plen,fun i p d h1 h2=>k (by simp[aw h1]) (h.pap i p d h1 h2),k (by simp) h.plc,h.qlen,fun i q e h1 h2=>k (by simp[aw h1]) (h.oth i q e h1 h2),h.nd,fun b hb=>?_,fun b hb=>?_⟩,?_⟩
 .by_cases e:b=a
  .rw[e,n];exact ag rfl
  .rw[dn e,h.old b hb,gp_n e]
 .have:=h.new b hb
  rwa [gp_n (ne hb)] at this
 .funext b
  by_cases e:b=a
  .rw[e,gp_s,ga]
  .rw[gp_n e,dn e]
end
theorem uQ (o : Option (List SF)) (d : Nat) : ∀ (l : List (Fm × Nat)) (a : List Fm × Nat) (i : Nat) x g, l[i]? = some x -> x.1.2 ≠ [] -> (l.foldl (aY o d) a).1[a.1.length + i]? = some g -> g.2 ≠ []
  | [], _, _, _, _, h, _, _ => by cases h
  | y :: l, a, 0, x, g, h, hx, hg => by
    cases h
    rw[dR] at hg
    have keep : ∀ (l : List (Fm × Nat)) (a : List Fm × Nat) (j : Nat), j < a.1.length -> (l.foldl (aY o d) a).1[j]? = a.1[j]? := by
      intro l
      induction l with
      | nil => intro a j v; rfl
      | cons z l ih =>
        intro a j hj
        rw[dR,ih _ j (by unfold aY;split <;> rw[aA] <;> lia)]
        unfold aY;split <;> rw[bN hj]
    have hs:¬ fX o d y.2 y.1=true:=fun e=>by unfold fX at e;rw[aL hx] at e;cases e
    rw[keep l _ _ (by unfold aY;rw[ah hs,aA];simp)] at hg
    unfold aY at hg
    rw[ah hs] at hg
    have hg:(a.1++[ofW a.2])[a.1.length]?=some g:=hg
    rw[cI] at hg
    cases hg
    simp[ofW]
  | y :: l, a, i + 1, x, g, h, hx, hg => by
    rw[dR] at hg
    refine uQ o d l (aY o d a y) i x g h hx ?_
    have:(aY o d a y).1.length=a.1.length+1:=by unfold aY;split <;> rw[aA] <;> rfl
    rw[this, fT, jZ 1 i]; exact hg
structure FmsOk (boxes:Nat) (done:List Int) (fm:List Fm):Prop where
 l:fm.length=boxes
 pw:∀ g∈fm,PlW boxes g
 w:∀ (i:Nat),i < boxes->(i:Int)∉done->fm[i]?=some (ofW i)
section
variable {Q:List Df} {S:MS} {df:Df} {f at':Int} {boxes:Nat} {fm:List Fm} {done:List Int} {r:Rw}
structure PlOk (Q:List Df) (f at':Int) (boxes:Nat) (df:Df) (r:Rw):Prop where
 pk:PgK Q
 f0:0<=f
 f1:Q[f.toNat]?=some df
 a0:0<=at'
 a1:df.rows[at'.toNat]?=some r
 b:(boxes:Int)=df.boxes
theorem qx (P:PlOk Q f at' boxes df r) (h:FmsOk boxes done fm):FrsOk Q boxes (10 ^ 91) [] (f,at',fm) :=
 ⟨bg _,fun t ht=>by rw[aN.mp ht];exact ⟨⟨df,r,P.f0,P.f1,P.a0,P.a1,by rw[h.l];exact P.b⟩,fun g hg=>(h.pw g hg).fo⟩,fun t ht=>(bv ht).elim⟩
theorem b8 (P:PlOk Q f at' boxes df r):boxes<=8:=by have:=P.pk.b df (aw P.f1);have:=P.b;lia
structure HdsOk (Q:List Df) (f at':Int) (S:MS):Prop where
 st:∀ d∈S.lane,SdOk Q d/\plcF d.fr=[(f,at')]/\d.word="hold"/\d.rest.length<=2
 pl:S.plc=[]
 g:S.going=0
theorem Zpl (P:PlOk Q f at' boxes df r) (h:FmsOk boxes done fm) {box n:Int} (b0:0<=box) (b1:box < boxes) (nb:box∉done) (hn:n.natAbs<=10 ^ 60) (H:HdsOk Q f at' S):(∃ s1,bP [(f,at',fm)] none=[s1]/\s1.2.2.length=boxes/\s1.2.2[box.toNat]?=some (ofW (wdF [(f,at',fm)] box:Nat)))/\HdsOk Q f at' (S.hold [(f,at',fm)] (wdF [(f,at',fm)] box) n)/\FmsOk boxes (box::done) (fm.set box.toNat (n,[])):=by
 obtain ⟨N,f',s',h1,h2,h3,h4,h5,h6,h7⟩:=sE P.pk (qx P h) none
 have f0:f'=[]:=by simpa using h4
 subst f0
 rw[iF] at h2 h3
 have hlen:s'.2.2.length=boxes:=by simp only[shp,Prod.mk.injEq] at h5;rw[h5.2.2];exact h.l
 have hbn:box.toNat < s'.2.2.length:=by lia
 have eg:s'.2.2[box.toNat]?=some s'.2.2[box.toNat]:=ax hbn
 have hw:∃ i:Nat,i < N/\s'.2.2[box.toNat]=ofW i:=by
  rcases h7 s' (by simp) _ (aw eg) with ⟨z,y⟩|z
  .exfalso
   have e0:=h.w box.toNat (by lia) (by rw[rp b0];exact nb)
   have ez:fm.zipIdx[box.toNat]?=some (ofW (box.toNat:Int),box.toNat):=by rw[iS,e0];simp
   have es:(fm.zipIdx.foldl (aY none 0) ([],0)).1=s'.2.2:=by
    have h3':[((f,at',(fm.zipIdx.foldl (aY none 0) ([],0)).1):SF)]=[s']:=h3
    cases h3';rfl
   refine uQ none 0 fm.zipIdx ([],0) box.toNat _ s'.2.2[box.toNat] ez (by simp[ofW]) ?_ z
   rw[es]
   simp only[fQ,oj]
   exact eg
  .exact z
 obtain ⟨i,hi,ei⟩:=hw
 have ew:wdF [(f,at',fm)] box=i:=by
  unfold wdF
  rw[h3]
  show (match (s'.2.2.getD box.toNat (0,[])).2 with|[]=>0|p::_=>p.2.toNat)=i
  rw[dU,eg,iP,ei]
  exact dF i
 refine ⟨⟨s',h3,hlen,by rw[eg,ei,ew]⟩,?_,?_⟩
 .unfold MS.hold
  rw[h2,h3,ew,dF]
  refine ⟨fun d hd=>?_,H.pl,H.g⟩
  rcases aT.mp hd with hd|hd
  .exact H.st d hd
  .rw[aN.mp hd]
   obtain ⟨d0,r0,y,y,hr0,y⟩:=cW (h6.all s' (by simp))
   refine ⟨⟨⟨[],s',r0,rfl,h6,h7,hr0,fun e=>absurd e (show ¬ ("hold":Str)="test" by decide),fun e=>absurd e (show ¬ ("hold":Str)="take" by decide),fun e=>absurd e (show ¬ ("hold":Str)="tell" by decide)⟩,h1,fun y=>⟨i,n,[],rfl,hi,hn⟩⟩,?_,rfl,aq _⟩
   simp only[shp,Prod.mk.injEq] at h5
   unfold plcF
   simp[h5.1,h5.2.1]
 .refine ⟨by rw[bQ];exact h.l,fun g hg=>?_,fun j hj hd=>?_⟩
  .rcases gB hg with hg|rfl
   .exact h.pw g hg
   .exact .inl ⟨rfl,aR hn (by decide)⟩
  .rw[aG,cF] at hd
   rw[cy (by lia)]
   exact h.w j hj hd.2
theorem HdsOk.ld (P:PlOk Q f at' boxes df r) (H:HdsOk Q f at' S):LdOk Q S:=⟨P.pk,fun d hd=>(H.st d hd).1,fun e he=>(by rw[H.pl] at he;cases he),(by rw[H.pl];exact bg _),fun e he=>(by rw[H.pl] at he;cases he)⟩
theorem HdsOk.cnt (H:HdsOk Q f at' S):cntG S.lane=0:=by
 unfold cntG
 rw[filter_eq_nil_iff.mpr]
 .rfl
 .intro d hd
  unfold isGo
  rw[(H.st d hd).2.2.1]
  decide
theorem HdsOk.add {most:Nat} (P:PlOk Q f at' boxes df r) (h:FmsOk boxes done fm) (H:HdsOk Q f at' S):CtOk most 2 (S.add Q most [(f,at',fm)]):=by
 have hf:=qx P h
 obtain ⟨N,f',s',h1,h2,h3,h4,h5,h6,h7⟩:=(H.ld P).paper hf
 rw[iF] at h3
 obtain ⟨d,r,hd,j,hr,j⟩:=cW (h6.all s' (by simp))
 have hw:=(qD (most:=most) f' hr S.going).2.2.2
 have hsh:(f'++[s']).map shp=[((f,at',fm):SF)].map shp:=by rw[aO,h4];simp only[aF,cQ,h5];rfl
 unfold MS.add
 rw[h3]
 refine ⟨?_,?_,fun k d ek ew=>?_,fun d hd=>?_⟩
 .dsimp only
  unfold cntG
  rw[hU,aA]
  have:=H.cnt
  unfold cntG at this
  rw[this,H.g]
  rw[H.g] at hw
  unfold cA at hw ⊢
  split
  .rfl
  .next hn =>
   rw[ah hn] at hw
   have hn1:¬ dH Q (f'++[s'])="leave":=fun e=>hn (.inl e)
   have e:isGo ⟨(bq (f'++[s'])).toNat,f'++[s'],dH Q (f'++[s']),[]⟩=true:=by
    unfold isGo
    rw[aL hn1,aL hw];rfl
   rw[dW,ag e];rfl
 .dsimp only
  rw[H.g]
  unfold cA
  split
  .exact bg _
  .next hn=>show 0+1<=most;have:¬ most<=0:=fun e=>hn (.inr e);lia
 .dsimp only at ek ⊢
  by_cases hk:k < S.lane.length
  .rw[bN hk] at ek
   have hp:=(H.st d (aw ek)).2.1
   by_cases hk2:k+1 < S.lane.length
   .have e2:S.lane[k+1]?=some S.lane[k+1]:=ax hk2
    exact ⟨_,by rw[bN hk2];exact e2,by rw[hp];exact (H.st _ (aw e2)).2.1⟩
   .have e:k+1=S.lane.length:=by lia
    rw[e]
    exact ⟨_,cI,by rw[hp,lH hsh];rfl⟩
  .have hk2:=(ay.mp ek).1
   rw[aA] at hk2
   have e:k=S.lane.length:=by simp at hk2;lia
   subst e
   rw[cI] at ek
   cases ek
   exact absurd ew hw
 .rcases aT.mp hd with hd|hd
  .exact (H.st d hd).2.2.2
  .rw[aN.mp hd];exact bg _
end
end L2
end
section
namespace L2
open PySem PySem.Spec PyProof.Rows
mutual
def dpT:T->Nat
 | .tup ts=>dpTs ts+1
 | .lst ts=>dpTs ts+1
 | .cst _=>1000
 | _=>0
def dpTs:List T->Nat
 | []=>0
 | t::ts=>max (dpT t) (dpTs ts)
end
def Alk (G:GH):Nat->T->T->Prop
 | 0,x,y=>x=y/\dpT x=0
 | n+1,x,y=>(x=y/\dpT x<=n+1)\/∃ ts us,((x=.tup ts/\y=.tup us)\/(SqI G x ts/\SqI G y us))/\ts.length=us.length/\∀ (j:Nat) t u,ts[j]?=some t->us[j]?=some u->Alk G n t u
section
variable {P:Program} {w:World} {K:W.Frag} {G:GH} {H:Hp} {k:T->GH->Prop} {x y:T}
theorem sd : ∀ {ts : List T} {t : T}, t ∈ ts -> dpT t <= dpTs ts
  | s :: ts, t, h => by
    rw[dpTs]
    rcases aG.mp h with rfl|h
    . lia
    . have := sd h; lia
mutual
theorem o0 : ∀ {t : T} {u v : V} {n : Nat}, RepT K G H t u -> RepT K G H t v -> dpT t <= n -> n < 1000 -> Alike H n u v
  | t, u, v, n, h1, h2, hd, hn => by
    cases h1 with
    | tup h r =>
      cases h2 with
      | tup h' r' =>
        rw[dpT] at hd
        obtain ⟨m,rfl⟩:∃ m,n=m+1:=⟨n - 1,by lia⟩
        exact .inr ⟨_,_,⟨_,_,rfl,rfl,.inl ⟨h,h'⟩⟩,by rw[<-r.length,<- r'.length],pc r r' (by lia) (by lia)⟩
    | lst g h r =>
      cases h2 with
      | lst g' h' r' =>
        rw[dpT] at hd
        obtain ⟨m,rfl⟩:∃ m,n=m+1:=⟨n - 1,by lia⟩
        exact .inr ⟨_,_,⟨_,_,rfl,rfl,.inr ⟨h,h'⟩⟩,by rw[<-r.length,<- r'.length],pc r r' (by lia) (by lia)⟩
    | cst _ => rw[dpT] at hd; lia
    | _ => cases h2; exact Alike.refl n trivial
theorem pc : ∀ {ts : List T} {us vs : List V} {n : Nat}, RepTs K G H ts us -> RepTs K G H ts vs -> dpTs ts <= n -> n < 1000 -> ∀ (j : Nat) (u v : V), us[j]? = some u -> vs[j]? = some v -> Alike H n u v
  | ts, us, vs, n, h1, h2, hd, hn, j, u, v, e1, e2 => by
    cases h1 with
    | nil => cases e1
    | cons h r =>
      cases h2 with
      | cons h' r' =>
        rw[dpTs] at hd
        cases j with
        | zero => cases e1; cases e2; exact o0 h h' (by lia) hn
        | succ j => exact pc r r' (by lia) hn j u v e1 e2
end
theorem tp (g : GOk P w K G H) : ∀ {n : Nat} {x y : T} {u v : V}, n < 1000 -> Alk G n x y -> RepT K G H x u -> RepT K G H y v -> Alike H n u v
  | 0, x, y, u, v, hn, ⟨e, hd⟩, r, r' => by subst e; exact o0 r r' (by lia) hn
  | n + 1, x, y, u, v, hn, h, r, r' => by
    rcases h with ⟨e,hd⟩|⟨ts,us,h,hl,hi⟩
    . subst e; exact o0 r r' hd hn
    . have key : ∀ {xs ys : List V}, RepTs K G H ts xs -> RepTs K G H us ys -> xs.length = ys.length /\ ∀ (j : Nat) (u v : V), xs[j]? = some u -> ys[j]? = some v -> Alike H n u v := fun {xs ys} rx ry => by
        have l1:=rx.length
        have l2:=ry.length
        refine ⟨by lia,fun j u v e1 e2=>?_⟩
        have j1:=(ay.mp e1).1
        have et:ts[j]?=some (ts[j]'(by lia)):=ax _
        have eu:us[j]?=some (us[j]'(by lia)):=ax _
        obtain ⟨u',q1,r1⟩:=rx.get et
        obtain ⟨v',q2,r2⟩:=ry.get eu
        rw[e1] at q1;rw[e2] at q2;cases q1;cases q2
        exact tp g (by lia) (hi j _ _ et eu) r1 r2
      rcases h with ⟨rfl,rfl⟩|⟨h1,h2⟩
      . cases r with | tup a1 a2 => cases r' with | tup b1 b2 =>
        obtain ⟨k1,k2⟩:=key a2 b2
        exact .inr ⟨_,_,⟨_,_,rfl,rfl,.inl ⟨a1,b1⟩⟩,k1,k2⟩
      . obtain ⟨a, xs, rfl, a2, a1⟩ := bK g h1 r
        obtain ⟨b,ys,rfl,b2,b1⟩:=bK g h2 r'
        obtain ⟨k1,k2⟩:=key a2 b2
        exact .inr ⟨_, _, ⟨_, _, rfl, rfl, .inr ⟨a1, b1⟩⟩, k1, k2⟩
def AlkS (G:GH) (n:Nat) (x y:T):Prop:=∃ ts us,((x=.tup ts/\y=.tup us)\/(SqI G x ts/\SqI G y us))/\ts.length=us.length/\∀ (j:Nat) t u,ts[j]?=some t->us[j]?=some u->Alk G n t u
theorem ZnG {n:Nat} {x:T} (h:dpT x<=n):Alk G n x x:=by
 cases n with
 | zero=>exact ⟨rfl,by lia⟩
 | succ n=>exact .inl ⟨rfl,h⟩
theorem vg {n:Nat} {ts:List T} (h1:SqI G x ts) (h2:SqI G y ts) (hd:dpTs ts<=n):AlkS G n x y:=⟨ts,ts,.inr ⟨h1,h2⟩,rfl,fun j t u e1 e2=>by
 rw[e1] at e2;cases e2
 exact ZnG (aR (sd (aw e1)) hd)⟩
theorem ZpI {u v:V} (g:GOk P w K G H) (h:AlkS G 40 x y) (r:RepT K G H x u) (r':RepT K G H y v):t9 H 40 u v:=by
 obtain ⟨ts,us,h,hl,hi⟩:=h
 have key:∀ {xs ys:List V},RepTs K G H ts xs->RepTs K G H us ys->xs.length=ys.length/\∀ (j:Nat) (u v:V),xs[j]?=some u->ys[j]?=some v->Alike H 40 u v:=fun {xs ys} rx ry=>by
  have l1:=rx.length
  have l2:=ry.length
  refine ⟨by lia,fun j u v e1 e2=>?_⟩
  have j1:=(ay.mp e1).1
  have et:ts[j]?=some (ts[j]'(by lia)):=ax _
  have eu:us[j]?=some (us[j]'(by lia)):=ax _
  obtain ⟨u',q1,r1⟩:=rx.get et
  obtain ⟨v',q2,r2⟩:=ry.get eu
  rw[e1] at q1;rw[e2] at q2;cases q1;cases q2
  exact tp g (by lia) (hi j _ _ et eu) r1 r2
 rcases h with ⟨rfl,rfl⟩|⟨h1,h2⟩
 .cases r with|tup a1 a2=>cases r' with|tup b1 b2 =>
  obtain ⟨k1,k2⟩:=key a2 b2
  exact ⟨_,_,⟨_,_,rfl,rfl,.inl ⟨a1,b1⟩⟩,k1,k2⟩
 .obtain ⟨a,xs,rfl,a2,a1⟩:=bK g h1 r
  obtain ⟨b,ys,rfl,b2,b1⟩:=bK g h2 r'
  obtain ⟨k1,k2⟩:=key a2 b2
  exact ⟨_,_,⟨_,_,rfl,rfl,.inr ⟨a1,b1⟩⟩,k1,k2⟩
theorem l_neA (h:AlkS G 40 x y) (q:k (.bl false) G):L2r P w K rNeA x y G k:=fun H u v g r1 r2 Q z=>rd_neA (ZpI g h r1 r2) (z.here g .bl q)
abbrev g0:GH:=fun j=>none
theorem bag_ne {b l:Addr} (B:BagAt H b l):l≠b:=fun e=>by
 obtain ⟨xs,i,m,st,c,h1,h2,j⟩:=B.ex
 rw[e,h1] at h2
 injection h2 with h2
 injection h2 with h2
 cases xs with
 | nil=>cases h2
 | cons x xs=>injection h2 with h2 _;cases h2
theorem law_go {rest:TS} {a:Addr} {ns:List Int} {Q:VK} (n:Nat) (hS:SqL K H a (ns.map V.int)) (hl:ns.length<=63) (kq:∀ H',Q (.bl true) H')
  (h:∀ b l,Ws P w K rest (none::some (.ptr b)::List.replicate n none) (gput g0 b (.bag l)) { nx:=fun j j=>False,rt:=fun d j=>d=.bl true }) :
  tSeq (tAsg (gi (vc K) [] E0 (bd (tVar 0) tNil)) (dg 1)) rest { nx:=fun j H'=>Q .non H',rt:=Q } (some (.ref a)::none::List.replicate n none) H:=by
 refine ⟨.ref a,rfl,?_⟩
 refine use1 (E:=E0) (Pr_bag.mk a ns rfl hS hl fun b l H' nb sm B=>?_)
 have ge:GOk P w K (gput g0 b (.bag l)) H':=fun c x e=>by
  by_cases hc:c=b
  .subst hc;rw[gp_s] at e;cases e
   exact ⟨B,by rw[gp_n (bag_ne B)]⟩
  .rw[gp_n hc] at e;cases e
 refine h b l H' _ ge ⟨by simp,fun i t e=>?_⟩ _ ⟨fun j j j j j j j z=>z.elim,fun v H2 d G' j j r e=>?_,fun j j j j j j j z=>z.elim,fun j j j j j j j z=>z.elim⟩
 .cases i with
  | zero=>cases e
  | succ i =>
   cases i with
   | zero=>cases e;exact ⟨_,rfl,.ptr⟩
   | succ i=>simp[jS] at e
 .subst e;cases r;exact kq H2
end
end L2
end
section
namespace L2
open PySem
theorem jn {α : Type} {f : α -> T} {n : Nat} : ∀ {l : List α}, (∀ x ∈ l, dpT (f x) <= n) -> dpTs (l.map f) <= n
  | [], _ => by rw[cQ, dpTs]; lia
  | x :: l, h => by
    rw[aF,dpTs]
    have:=h x (by simp)
    have:=jn (l:=l) (f:=f) (n:=n) fun y hy=>h y (by simp[hy])
    lia
theorem dp_fm (f:Fm):dpT (fmT f)<=3:=by
 have:dpTs (f.2.map prT)<=1:=jn fun p j=>by simp only[prT,dpT,dpTs];lia
 simp only[fmT,dpT,dpTs];lia
theorem dp_sf (s:SF):dpT (sfT s)<=5:=by
 have:dpTs (s.2.2.map fmT)<=3:=jn fun f j=>dp_fm f
 simp only[sfT,dpT,dpTs];lia
end L2
end
section
namespace L2
open PySem
abbrev Cano (f:Fm):Prop:=Canon f.2
theorem tX {c:Int} {t:List (Int×Int)} (hn:(t.map (·.1)).Nodup):Cano (wnF c t):=Zhk ((ip _).nodup_iff.mpr hn) (su _)
theorem qd {c:Int} {t:List (Int×Int)} (hn:(t.map (·.1)).Nodup) (w:Int):atW (wnF c t).2 w=aQ t w:=Zh9 hn (ip _) w
theorem uE {f g:Fm} (hf:Cano f) (hg:Cano g) (h1:f.1=g.1) (h2:∀ w,atW f.2 w=atW g.2 w):f=g:=Prod.ext h1 (canon_one hf hg h2)
theorem ue {c:Int}:Cano (c,[]):=⟨List.Pairwise.nil,fun j h=>(bv h).elim⟩
theorem Znr (w:Int):Cano (ofW w):=⟨pairwise_singleton _ _,fun p hp=>by rw[aN.mp hp];exact (by decide:(1:Int)≠0)⟩
theorem ZjN (f g:Fm) (n:Int):Cano (cg f g n):=tX (fK _ _ (fK _ _ eI))
theorem rC (f:Fm) (fl:List Fm):Cano (dA f fl):=tX (jd _ _)
theorem u6 {fl:List Fm} {i:Nat} {g:Fm} (e:fl[i]?=some g) (hg:Cano g):dA (ofW i) fl=g:=by
 have en:nthF fl (i:Int)=g:=by unfold nthF;rw[dF,dU,e];rfl
 refine uE (rC _ _) hg ?_ fun w=>?_
 .show 0+1 * (nthF fl (i:Int)).1=_
  rw[en];lia
 .show atW (wnF _ _).2 w=_
  rw[qd (jd _ _),uK]
  unfold putAt ofW
  simp only[aF,cQ,iO,sum_nil]
  rw[en];lia
theorem PlW.cano {n:Nat} {f:Fm} (h:PlW n f):Cano f:=by
 rcases h with ⟨h1,j⟩|⟨i,j,rfl⟩
 .obtain ⟨c,t⟩:=f;dsimp only at h1;subst h1;exact ue
 .exact Znr _
end L2
end
section
namespace L2
open PySem PySem.Spec PyProof.Rows
section
variable {P:Program} {w:World} {K:W.Frag} {G G1 G2 G':GH} {H H1 H2 H':Hp} {a:Addr} {Γ:Ev} {ta te:TE} {k:T->GH->Prop} {x y d:T} {ts:List T} {tr:TA} {v:V} {i:Int}
theorem uC : ∀ {ns : List Int} {vs : List V}, RepTs K G H (ns.map T.int) vs -> vs = ns.map V.int
  | [], _, r => by cases r; rfl
  | n :: ns, _, r => by
    cases r with
    | cons r1 r2 => cases r1; rw[uC r2]; rfl
theorem Zpi (i:Int) (ns:List Int):inV (.int i) (ns.map V.int)=ns.contains i:=by
 induction ns with
 | nil=>rfl
 | cons x xs ih =>
  unfold inV at ih ⊢
  rw[aF,fO,ih,contains_cons]
  show (x == i || _)=_
  rw[Bool.beq_comm]
theorem ZlE (ns:List Int):(ns.map V.int).all dL=true:=by induction ns <;> simp_all [dL]
theorem nr {neg:Bool} {ns:List Int} (hs:SqG G y (ns.map T.int)) (h:k (.bl (if neg then !ns.contains i else ns.contains i)) G):L2r P w K (rIn K neg) (.int i) y G k:=fun H u v g r1 r2 Q z=>by
 cases r1
 obtain ⟨a,vs,rfl,rs,ha⟩:=hZ g hs r2
 rw[uC rs] at ha
 exact ⟨a,_,rfl,ha.imp SqL.of SqT.of,rfl,ZlE _,by rw[Zpi];exact z.here g .bl h⟩
def tyT (G:GH):T->String
 | .non=>"NoneType"
 | .bl _=>"bool"
 | .int _=>"int"
 | .str _=>"str"
 | .tup _=>"tuple"
 | .cst _=>"tuple"
 | .lst _=>"list"
 | .ptr a=>match G a with|some (.lst _)=>"list"|_=>""
theorem ty_ptr (h:G a=some (.lst ts)):tyT G (.ptr a)="list":=by
 show (match G a with|some (.lst _)=>"list"|_=>"")=_
 rw[h]
theorem tyN_T (g:GOk P w K G H) (r:RepT K G H x v) (h:(∃ ts,SqI G x ts)\/(∀ a,x≠.ptr a)/\∀ xs,x≠.cst xs):tyN H v=some (tyT G x):=by
 rcases h with ⟨ts,h⟩|⟨h2,h3⟩
 .obtain ⟨a,vs,rfl,j,ha⟩:=bK g h r
  rw[tz ha]
  rcases h with rfl|⟨b,rfl,hb⟩
  .rfl
  .show _=some (match G b with|some (.lst _)=>"list"|_=>"")
   rw[hb]
 .cases r with
  | non=>rfl
  | bl=>rfl
  | int=>rfl
  | str=>rfl
  | tup h _=>exact Zoo h
  | lst _ h _=>exact tz h
  | ptr=>exact absurd rfl (h2 _)
  | cst=>exact absurd rfl (h3 _)
theorem sf {Ty:String} (hT:Ty∈["int","bool","str","tuple","list","dict"]) (h:We P w K ta Γ G fun x G1=>((∃ ts,SqI G1 x ts)\/(∀ a,x≠.ptr a)/\∀ xs,x≠.cst xs)/\k (.bl (isi (tyT G1 x) Ty)) G1):We P w K (tCB rIsi (bd ta (bd (tC (.ty Ty)) tNil))) Γ G k:=fun H Z g ev Q z=>h H Z g ev _ fun v H1 x G1 s1 g1 r1 ⟨hx,q⟩ =>
 ⟨v,Ty,tyT G1 x,rfl,tyN_T g1 r1 hx,hT,(z.mono s1).here g1 .bl q⟩
def T.plk:T->Bool
 | .non=>true|.bl _=>true|.int _=>true|.str _=>true|.tup _=>true|.lst _=>true|_=>false
theorem tk_d {x:T} {p:Prop} (h:x.plk=true) (q:p):((∃ ts,SqI G x ts)\/(∀ a,x≠.ptr a)/\∀ xs,x≠.cst xs)/\p:=by
 refine ⟨.inr ?_,q⟩
 refine ⟨fun a e=>?_,fun a e=>?_⟩
 .subst e;exact absurd h bo
 .subst e;exact absurd h bo
theorem tk_l {x:T} {ts:List T} {p:Prop} (h:SqI G x ts) (q:p):((∃ ts,SqI G x ts)\/(∀ a,x≠.ptr a)/\∀ xs,x≠.cst xs)/\p:=⟨.inl ⟨ts,h⟩,q⟩
end
def Sub (G0 G:GH):Prop:=∀ b,G0 b=G b\/(G0 b=none/\∃ ts,G b=some (.lst ts))
abbrev FrA (α:Type):=Int×Int×List α
end L2
namespace L2
open PySem
section
variable {G0 G:GH} {xs ys gs:List Addr} {l:List SF} {fl a b:Addr}
theorem Zpn {c:Ct} {x y:Addr} (h:gput G y c x=none):G x=none/\x≠y:=by
 have n:x≠y:=fun e=>by rw[e,gp_s] at h;cases h
 rw[gp_n n] at h
 exact ⟨h,n⟩
def optT:Option (List SF)->T
 | none=>.non
 | some l=>.lst (l.map sfT)
end
end L2
end
section
namespace L2
open PySem
def lputF (f:Fm) (fl:List Fm):Fm:=f.2.foldl (fun a p=>cg a (nthF fl p.2) p.1) (f.1,[])
theorem Znd (f g:Fm) (n w:Int):atW (cg f g n).2 w=atW f.2 w+atW g.2 w * n:=by
 show atW (wnF _ _).2 w=_
 have hn:((aX (aX [] f.2 1) g.2 n).map (·.1)).Nodup:=fK _ _ (fK _ _ eI)
 rw[qd hn,gO,gO]
 show (0:Int)+_ * 1+_=_
 lia
theorem sW (fl : List Fm) : ∀ (ps : List (Int × Int)) (a : Fm), Cano a -> Cano (ps.foldl (fun a p => cg a (nthF fl p.2) p.1) a) /\ (ps.foldl (fun a p => cg a (nthF fl p.2) p.1) a).1 = putC a.1 ps fl /\ ∀ w, atW (ps.foldl (fun a p => cg a (nthF fl p.2) p.1) a).2 w = atW a.2 w + putAt ps fl w
  | [], a, h => ⟨h, rfl, fun w => by show _ = _ + (0 : Int); rw[Int.add_zero]; rfl⟩
  | p :: ps, a, h => by
    obtain ⟨h1,h2,h3⟩:=sW fl ps (cg a (nthF fl p.2) p.1) (ZjN _ _ _)
    refine ⟨h1,h2,fun w=>?_⟩
    show atW (ps.foldl _ (cg a (nthF fl p.2) p.1)).2 w=_
    rw[h3,Znd]
    unfold putAt
    rw[aF,iO]
    lia
theorem ZmW (f:Fm) (fl:List Fm):lputF f fl=dA f fl:=by
 obtain ⟨h1,h2,h3⟩:=sW fl f.2 (f.1,[]) ue
 refine uE h1 (rC _ _) h2 fun w=>?_
 have h4:=h3 w
 have e:atW (dA f fl).2 w=putAt f.2 fl w:=by
  show atW (wnF _ _).2 w=_
  rw[qd (jd _ _),uK]
 rw[e]
 refine h4.trans ?_
 show (0:Int)+_=_
 lia
theorem sO {fl : List Fm} {m B C : Nat} (hg : ∀ g ∈ fl, Fo m C g) : ∀ (ps : List (Int × Int)) (a : Fm) (A : Nat), (∀ p ∈ ps, p.1.natAbs <= B /\ 0 <= p.2 /\ p.2 < fl.length) -> Fo m A a -> Fo m (A + ps.length * (B * C)) (ps.foldl (fun a p => cg a (nthF fl p.2) p.1) a)
  | [], a, A, _, h => by rw[fQ, Nat.zero_mul]; exact h
  | p :: ps, a, A, hp, h => by
    obtain ⟨b1,b2,b3⟩:=hp p bG
    have e : fl[p.2.toNat]? = some (nthF fl p.2) := by
      unfold nthF
      rw[dU,ax (by lia)];rfl
    have hj:=qi (m:=p.1) h (hg _ (aw e))
    have hj2:Fo m (A+B * C) (cg a (nthF fl p.2) p.1):=hj.le (aq _) (qY (oE _ b1) _)
    have:=sO hg ps _ _ (fun q hq=>hp q (bE _ hq)) hj2
    refine this.le (aq _) ?_
    rw[bz,Nat.add_mul]
    lia
end L2
end
section
namespace L2
open PySem
def np (x:Fm):Bool:=!decide (x.2=[])
def loH:Nat->List Fm->List Fm
 | _,[]=>[]
 | c,x::l=>if np x=true then ofW c::loH (c+1) l else x::loH c l
theorem Zo6 (c:Nat) (x:Fm) (l:List Fm):loH c (x::l)=if np x=true then ofW c::loH (c+1) l else x::loH c l:=by rw[loH]
def un (l:List Fm):Nat:=(l.filter np).length
def uns:Nat->List Fm->List Nat
 | _,[]=>[]
 | c,x::l=>if np x=true then c::uns (c+1) l else uns (c+1) l
def SmP (l:List Fm):Prop:=∀ x∈l,np x=false->eW x=false
theorem gc (x:Fm) (l:List Fm):un (x::l)=if np x=true then un l+1 else un l:=by
 unfold un;rw[dW];split <;> rfl
theorem gE : ∀ (c : Nat) (l : List Fm), (uns c l).length = un l
  | _, [] => rfl
  | c, x :: l => by
    rw[gc];unfold uns
    split
    . rw[bz, gE]
    . exact gE _ l
theorem m8 : ∀ (c : Nat) (l : List Fm), (loH c l).map np = l.map np
  | _, [] => rfl
  | c, x :: l => by
    unfold loH
    split
    . next h => rw[aF, aF, m8, h]; rfl
    . rw[aF, aF, m8]
theorem rQ (d : Nat) : ∀ (l : List Fm) (k : Nat) (a : List Fm × Nat), SmP l -> (l.zipIdx k).foldl (aY none d) a = (a.1 ++ loH a.2 l, a.2 + un l)
  | [], _, a, _ => by simp[loH, un]
  | x :: l, k, a, h => by
    rw[zipIdx_cons,dR,rQ d l (k+1) _ fun y hy=>h y (bE _ hy),gc,Zo6]
    unfold aY fX
    dsimp only
    cases hx:np x with
    | true =>
      have:decide (x.2=[])=false:=by unfold np at hx;simpa using hx
      rw[this]
      simp[fT,jZ 1]
    | false =>
      have e:decide (x.2=[])=true:=by unfold np at hx;simpa using hx
      rw[e,h x bG hx]
      simp
theorem gJ (f at':Int) {l:List Fm} (h:SmP l):bP [(f,at',l)] none=[(f,at',loH 0 l)]:=by
 have:=rQ 0 l 0 ([],0) h
 show [((f,at',(l.zipIdx.foldl (aY none 0) ([],0)).1):SF)]=_
 rw[this];rfl
theorem pM (f at':Int) (l:List Fm):(bq [(f,at',loH 0 l)]).toNat=un l:=by
 have:((loH 0 l).filter fun f=>!decide (f.2=[])).length=un l:=by
  have e:∀ m:List Fm,(m.filter np).length=((m.map np).filter id).length:=fun m=>by rw[filter_map,ai];rfl
  show ((loH 0 l).filter np).length=(l.filter np).length
  rw[e,m8,<- e]
 unfold bq
 simp only[aF,cQ,iO,sum_nil,this]
 lia
theorem pT : ∀ (c : Nat) (l : List Fm) (b : Nat) x, l[b]? = some x -> np x = true -> (loH c l)[b]? = some (ofW (c + un (l.take b) : Nat))
  | _, [], _, _, h, _ => by cases h
  | c, y :: l, 0, x, h, hx => by
    cases h
    unfold loH
    rw[ag hx];rfl
  | c, y :: l, b + 1, x, h, hx => by
    rw[oJ,gc]
    unfold loH
    split
    . rw[oM, pT (c + 1) l b x h hx, fT, jZ 1]
    . rw[oM, pT c l b x h hx]
theorem oX : ∀ (c : Nat) (l : List Fm) (b : Nat) x, l[b]? = some x -> np x = true -> (uns c l)[un (l.take b)]? = some (c + b) /\ ∀ n, uns c (l.set b (n, [])) = (uns c l).eraseIdx (un (l.take b))
  | _, [], _, _, h, _ => by cases h
  | c, y :: l, 0, x, h, hx => by
    cases h
    unfold uns
    rw[ag hx]
    exact ⟨rfl,fun n=>rfl⟩
  | c, y :: l, b + 1, x, h, hx => by
    obtain ⟨h1,h2⟩:=oX (c+1) l b x h hx
    rw[oJ,gc]
    unfold uns
    split
    . next hy =>
      refine ⟨by rw[oM,h1];congr 1;lia,fun n=>?_⟩
      rw[set_cons_succ]
      dsimp only
      rw[ag hy,h2,rq]
    . next hy =>
      refine ⟨by rw[h1];congr 1;lia,fun n=>?_⟩
      rw[set_cons_succ]
      dsimp only
      rw[ah hy, h2]
def msk {α:Type} (a:List α) (m:List Bool):List α:=((a.zip m).filter (·.2)).map (·.1)
theorem tN (g : Fm -> Fm) : ∀ (c : Nat) (l : List Fm), msk ((loH c l).map g) (l.map np) = (List.range' c (un l)).map fun (j : Nat) => g (ofW (j : Int))
  | _, [] => rfl
  | c, x :: l => by
    have ih:=fun c=>tN g c l
    rw[gc]
    unfold loH
    unfold msk at ih ⊢
    cases hx:np x with
    | true => simp only[e9, aF, hx, hJ, dW, ih, kh]
    | false => simp[hx, dW, ih]
theorem sQ (g : Fm -> Fm) : ∀ (c : Nat) (l : List Fm) (b : Nat) x n, l[b]? = some x -> np x = true -> msk ((loH c l).map g) ((l.set b (n, [])).map np) = ((List.range' c (un l)).eraseIdx (un (l.take b))).map fun (j : Nat) => g (ofW (j : Int))
  | _, [], _, _, _, h, _ => by cases h
  | c, y :: l, 0, x, n, h, hx => by
    cases h
    have ih:=tN g (c+1) l
    rw[gc,ag hx,set_cons_zero]
    unfold loH
    unfold msk at ih ⊢
    rw[ag hx]
    have:np (n,[])=false:=by simp[np]
    simp only[aF,this,hJ,dW,kh]
    exact ih
  | c, y :: l, b + 1, x, n, h, hx => by
    have ih:=fun c=>sQ g c l b x n h hx
    rw[oJ,gc,gc,set_cons_succ]
    unfold loH
    unfold msk at ih ⊢
    cases hy:np y with
    | true => simp only[e9, aF, hy, hJ, dW, ih, kh, rq]
    | false =>
      rw[ah (by decide),ah (by decide),ah (by decide),<- ih c]
      simp only[aF,hJ,dW,hy]
      rfl
theorem Zla (f at':Int) (a b:List Fm):f7 [(f,at',b)] [(f,at',a)]=msk a (b.map np):=by
 unfold f7 eR msk
 simp only[hJ,zip_nil_right,flatMap_cons,flatMap_nil,bH]
 rw[zip_map_right,filter_map,cG];rfl
theorem ZjE {l:List Nat} (hn:l.Nodup) {i j v:Nat} (h:j∈l.eraseIdx i) (hv:l[i]?=some v):j∈l/\j≠v:=by
 refine ⟨rA h,fun e=>?_⟩
 subst e
 obtain ⟨k,hk,e2⟩:=mem_eraseIdx_iff_getElem?.mp h
 have:=(oH (ay.mp hv).1 hn).mp (hv.trans e2.symm)
 lia
theorem mU (i:Int):np (ofW i)=true:=by simp[np,ofW]
theorem ZjO {Q:List Df} (f at':Int) {l:List Fm} {b:Nat} {x:Fm} {n:Int} (eb:l[b]?=some x) (hx:np x=true):f7 [(f,at',loH 0 (l.set b (n,[])))] ((Sd.starts Q ⟨un l,[(f,at',loH 0 l)],"hold",[.int (un (l.take b):Nat),.int n]⟩).headD [])=((List.range (un l)).eraseIdx (un (l.take b))).map fun (j:Nat)=>ofW (j:Int):=by
 have hw:un (l.take b) < un l:=by
  have:=(oX 0 l b x eb hx).1
  have:=(ay.mp this).1
  rwa [gE] at this
 generalize hm:un (l.take b)=w at hw
 have own:Sd.own ⟨un l,[(f,at',loH 0 l)],"hold",[.int (w:Nat),.int n]⟩=(aE (un l)).set w (n,[]):=by
  unfold Sd.own ownF Sd.nums
  dsimp only
  rw[ah (by decide),ag rfl]
  simp
 have st:Sd.starts Q ⟨un l,[(f,at',loH 0 l)],"hold",[.int (w:Nat),.int n]⟩=[[cw ((aE (un l)).set w (n,[])) (f,at',loH 0 l)]]:=by
  unfold Sd.starts
  rw[own]
  unfold eC
  dsimp only
  rw[ah (by decide),ah (by decide),ah (by decide)]
  rfl
 rw[st]
 show f7 _ [(f,at',(loH 0 l).map fun g=>dA g ((aE (un l)).set w (n,[])))]=_
 rw[Zla,m8,sQ _ 0 l b x n eb hx,hm,<- range_eq_range']
 refine j7 fun j hj=>?_
 obtain ⟨h1,h2⟩:=ZjE nodup_range hj (cR hw)
 have hj':=cN.mp h1
 refine u6 ?_ (PlW.cano (n:=un l) (.inr ⟨j,hj',rfl⟩))
 rw[cy (fun e=>h2 e.symm)]
 unfold aE
 rw[aj,cR hj'];rfl
theorem bits60 {n:Int} (h:n.natAbs<=10 ^ 60):eW (n,[])=false:=by
 have:¬ 300 < (Builtin.Int.intBits n:Int):=by
  unfold Builtin.Int.intBits
  split
  .decide
  .next h0 =>
   have h1:n.natAbs≠0:=fun e=>h0 (by simpa using e)
   have:n.natAbs.log2 < 200:=(nX h1).mpr (fe h (by decide))
   lia
 unfold eW
 simp only[aF,cQ,fO,any_nil]
 simpa using this
def hdsL (f at':Int):List Fm->List (Int×Int)->List Sd
 | _,[]=>[]
 | fm,(p,n)::kn=>⟨(bq (bP [(f,at',fm)] none)).toNat,bP [(f,at',fm)] none,"hold",[.int (wdF [(f,at',fm)] p:Nat),.int n]⟩::hdsL f at' (fm.set p.toNat (n,[])) kn
def setK (fm:List Fm) (kn:List (Int×Int)):List Fm:=kn.foldl (fun fm p=>fm.set p.1.toNat (p.2,[])) fm
theorem va (f at' : Int) : ∀ (kn : List (Int × Int)) (S : MS) (fm : List Fm), kn.foldl (dX f at') (S, fm) = (⟨S.lane ++ hdsL f at' fm kn, S.plc, S.going⟩, setK fm kn)
  | [], S, fm => by simp[hdsL, setK]
  | (p, n) :: kn, S, fm => by
    rw[dR,dX,va f at' kn]
    simp[hdsL, setK, MS.hold]
theorem jF (f at':Int):∀ (kn:List (Int×Int)) (fm:List Fm),(hdsL f at' fm kn).length=kn.length
 | [],_=>rfl
 | (p,n)::kn,fm=>by unfold hdsL;rw[bz,bz,jF]
theorem vm (f at' : Int) : ∀ (kn : List (Int × Int)) (fm : List Fm), ∀ d ∈ hdsL f at' fm kn, d.word = "hold" /\ (∀ t ∈ d.rest, ∃ n, t = .int n) /\ d.rest.length <= 2
  | [], _, _, h => by cases h
  | (p, n) :: kn, fm, d, h => by
    unfold hdsL at h
    rcases aG.mp h with rfl|h
    . exact ⟨rfl, fun t ht => by simp at ht; rcases ht with rfl | rfl <;> exact ⟨_, rfl⟩, aq _⟩
    . exact vm f at' kn _ d h
end L2
end
section
namespace L2
open PySem
def EdH (h j:Nat) (t:T):Prop:=(∃ n,t=.int n)\/∃ (rows:Nat) (as:List T) (tg:Nat),t=.tup [.int rows,.tup as,.int tg]/\(j < h/\rows=0\/h<=tg)
def jh (Q:List Df) (L:List Sd) (j:Nat) (d:Sd):T:=.tup [.int (0:Nat),.tup ((f7 (((L[j+1]?).map (·.fr)).getD []) ((d.starts Q).headD [])).map fmT),.int (j+1:Nat)]
structure RI (Q:List Df) (L:List Sd) (h:Nat) (S:MS) (k:Nat):Prop where
 a:∀ (j:Nat) d0,L[j]?=some d0->∃ d,S.lane[j]?=some d/\d.many=d0.many/\d.fr=d0.fr/\d.word=d0.word/\(k<=j->d=d0)/\(j < k->d0.word="hold"->d.rest=d0.rest++[jh Q L j d0])
 b:∀ (j:Nat) d,S.lane[j]?=some d->(d.word="hold"↔j < h)/\(∀ t∈d.rest,EdH h j t)/\d.rest.length<=4/\(k<=j->d.rest.length<=2)
 c:∀ e∈S.plc,∀ x∈e.2,h<=x
 d:h < L.length
section
variable {Q:List Df} {L:List Sd} {h k most:Nat} {S:MS}
theorem RI.len (I:RI Q L h S k):h < S.lane.length:=by
 obtain ⟨d,e,j⟩:=I.a h _ (ax I.d)
 exact (ay.mp e).1
theorem sq (l:List SF) (g:Nat):(cA Q most g l).1≠"hold":=by
 have:dH Q l≠"hold":=by
  unfold dH
  split
  .cases (l.getLast?.bind fun s=>cx Q s.1 s.2.1) with
   | none=>exact (show ("leave":Str)≠"hold" by decide)
   | some r=>cases r <;> first|exact (show ("leave":Str)≠"hold" by decide)|exact (show ("test":Str)≠"hold" by decide)|exact (show ("tell":Str)≠"hold" by decide)|exact (show ("take":Str)≠"hold" by decide)
  .decide
 unfold cA
 split
 .exact (show ("leave":Str)≠"hold" by decide)
 .exact this
theorem RI.add (I:RI Q L h S k) (l:List SF):RI Q L h (S.add Q most l) k:=by
 have:=I.len
 refine ⟨fun j d0 e=>?_,fun j d e=>?_,fun e he x hx=>?_,I.d⟩
 .obtain ⟨d,e1,e2⟩:=I.a j d0 e
  exact ⟨d,by unfold MS.add;dsimp only;rw[bN (ay.mp e1).1];exact e1,e2⟩
 .unfold MS.add at e
  dsimp only at e
  by_cases hj:j < S.lane.length
  .rw[bN hj] at e
   exact I.b j d e
  .have hj2:=(ay.mp e).1
   rw[aA] at hj2
   have ej:j=S.lane.length:=by simp at hj2;lia
   subst ej
   rw[cI] at e
   cases e
   exact ⟨⟨fun e=>absurd e (sq _ _),fun e=>by lia⟩,fun t ht=>(by cases ht),bg _,fun z=>bg _⟩
 .rcases kN he with he|⟨e',he',z,rfl⟩|rfl
  .exact I.c e he x hx
  .rcases aT.mp hx with hx|hx
   .exact I.c e' he' x hx
   .rw[aN.mp hx];lia
  .rw[aN.mp hx];lia
theorem RI.edgeFrom (I:RI Q L h S k) (l:List SF) (least:Nat):RI Q L h (S.edgeFrom Q most l least).1 k/\(∃ x:List Sd,(S.edgeFrom Q most l least).1.lane=S.lane++x)/\∀ j,EdH h j (S.edgeFrom Q most l least).2:=by
 unfold MS.edgeFrom
 split
 .next k' e =>
  refine ⟨I,⟨[],(bH _).symm⟩,fun j=>.inr ⟨_,_,_,rfl,.inr ?_⟩⟩
  unfold MS.standFor MS.oth at e
  have hm:=iV e
  cases hf:(S.plc.find? fun e=>decide (e.1=k2P (plcF (cK Q S least 201 0 l).1))) with
  | none=>rw[hf] at hm;cases hm
  | some e' =>
   rw[hf] at hm
   exact I.c e' (iV hf) k' hm
 .exact ⟨I.add _,⟨_,rfl⟩,fun j=>.inr ⟨_,_,_,rfl,.inr (eZ I.len)⟩⟩
theorem RI.fold {least : Nat} : ∀ (ls : List (List SF)) (a : MS × List T), RI Q L h a.1 k -> (∀ t ∈ a.2, ∀ j, EdH h j t) -> RI Q L h (ls.foldl (bY Q most least) a).1 k /\ (∃ x : List Sd, (ls.foldl (bY Q most least) a).1.lane = a.1.lane ++ x) /\ (∀ t ∈ (ls.foldl (bY Q most least) a).2, ∀ j, EdH h j t) /\ (ls.foldl (bY Q most least) a).2.length = a.2.length + ls.length
  | [], a, I, ha => ⟨I, ⟨[], (bH _).symm⟩, ha, rfl⟩
  | l :: ls, a, I, ha => by
    obtain ⟨g1,⟨x,g2⟩,g3⟩:=I.edgeFrom (most:=most) l least
    rw[dR]
    obtain ⟨r1, ⟨y, r2⟩, r3, r4⟩ := RI.fold ls (bY Q most least a l) g1 fun t ht => by
      rcases aT.mp ht with ht|ht
      . exact ha t ht
      . rw[aN.mp ht]; exact g3
    exact ⟨r1, ⟨x ++ y, by rw[r2, <- fP, <- g2]; rfl⟩, r3, by rw[r4]; unfold bY; simp; lia⟩
theorem RI.edges (I:RI Q L h S k) (hL:∀ (j:Nat) d,L[j]?=some d->d.word="hold"->j+1 < L.length) {d:Sd} (ed:S.lane[k]?=some d):RI Q L h (S.edges Q most k).1 k/\(∃ x:List Sd,(S.edges Q most k).1.lane=S.lane++x)/\(∀ t∈(S.edges Q most k).2,EdH h k t)/\(d.word="hold"->∀ d0,L[k]?=some d0->(S.edges Q most k).2=[jh Q L k d0])/\(S.edges Q most k).2.length<=2:=by
 unfold MS.edges
 rw[ed]
 dsimp only
 split
 .next hw=>exact ⟨I,⟨[],(bH _).symm⟩,fun t ht=>(by cases ht),fun e=>(by rw[hw] at e;exact absurd e (by decide)),bg _⟩
 .split
  .next hw =>
   have hk:=((I.b k d ed).1.mp hw)
   refine ⟨I,⟨[],(bH _).symm⟩,fun t ht=>?_,fun z d0 e0=>?_,du _⟩
   .rw[aN.mp ht]
    exact .inr ⟨_,_,_,rfl,.inl ⟨hk,rfl⟩⟩
   .obtain ⟨d',e1,z,z,ew,e2,z⟩:=I.a k d0 e0
    rw[ed] at e1
    cases e1
    have:=e2 (aq _)
    subst this
    have hk1:=hL k d e0 hw
    obtain ⟨d2,g1,z,g3,z⟩:=I.a (k+1) _ (ax hk1)
    unfold ik jh MS.frAt
    rw[g1,ax hk1]
    simp only[ff,iP,g3]
  .next hw =>
   obtain ⟨r1,r2,r3,r4⟩:=RI.fold (most:=most) (least:=if d.word="go" then 1 else 0) (d.starts Q) (S,[]) I fun t ht=>by cases ht
   exact ⟨r1,r2,fun t ht=>r3 t ht k,fun e=>absurd e hw,by rw[r4];have:(d.starts Q).length<=2:=pH;simpa using this⟩
theorem RI.step (I:RI Q L h S k) (hL:∀ (j:Nat) d,L[j]?=some d->d.word="hold"->j+1 < L.length) (hk:k < S.lane.length):RI Q L h (S.step Q most k) (k+1):=by
 have ed:=ax hk
 generalize S.lane[k]=d at ed
 obtain ⟨J,⟨x,hx⟩,h2,h3,h4⟩:=I.edges (most:=most) hL ed
 have ed2:(S.edges Q most k).1.lane[k]?=some d:=by rw[hx,bN hk];exact ed
 unfold MS.step
 rw[ed]
 dsimp only
 have hk2:=(ay.mp ed2).1
 refine ⟨fun j d0 e0=>?_,fun j y e=>?_,J.c,J.d⟩
 .obtain ⟨y,e1,e2,e3,e4,e5,e6⟩:=J.a j d0 e0
  dsimp only
  by_cases hj:k=j
  .subst hj
   rw[ed2] at e1
   cases e1
   have:=e5 (aq _)
   subst this
   exact ⟨_,cO hk2,rfl,rfl,rfl,fun z=>by lia,fun v hw=>by rw[h3 hw d e0]⟩
  .exact ⟨y,by rw[cy hj];exact e1,e2,e3,e4,fun z=>e5 (by lia),fun z=>e6 (by lia)⟩
 .dsimp only at e
  by_cases hj:k=j
  .subst hj
   rw[cO hk2] at e
   cases e
   obtain ⟨b1,b2,b3,b4⟩:=J.b k d ed2
   have:=b4 (aq _)
   refine ⟨b1,fun t ht=>?_,by rw[aA];lia,fun z=>by lia⟩
   rcases aT.mp ht with ht|ht
   .exact b2 t ht
   .exact h2 t ht
  .rw[cy hj] at e
   obtain ⟨b1,b2,b3,b4⟩:=J.b j y e
   exact ⟨b1,b2,b3,fun z=>b4 (by lia)⟩
theorem RI.run (hL : ∀ (j : Nat) d, L[j]? = some d -> d.word = "hold" -> j + 1 < L.length) : ∀ (f k : Nat) {S : MS}, RI Q L h S k -> (S.run Q most f k).lane.length <= k + f -> ∃ k', (S.run Q most f k).lane.length <= k' /\ RI Q L h (S.run Q most f k) k'
  | 0, k, S, I, hl => ⟨k, hl, I⟩
  | f + 1, k, S, I, hl => by
    unfold MS.run at hl ⊢
    split at hl
    . next hk =>
      rw[ag hk]
      exact RI.run hL f (k+1) (I.step hL hk) (by lia)
    . next hk =>
      rw[ah hk]
      exact ⟨k, by lia, I⟩
end
inductive HdL:Nat->List Nat->List (Int×Int)->List Sd->Prop
 | nil {k:Nat} {rs:List Nat} {d:Sd} {l:List Sd} (a:d.word≠"hold") (b:d.many=rs.length):HdL k rs [] (d::l)
 | cons {k r:Nat} {rs:List Nat} {p n:Int} {kn:List (Int×Int)} {d:Sd} {l:List Sd} (a:d.word="hold") (b:d.many=rs.length) (c:rs[r]?=some p.toNat) (e:d.rest=[.int r,.int n,.tup [.int (0:Nat),.tup ((((List.range rs.length).eraseIdx r).map fun (j:Nat)=>ofW (j:Int)).map fmT),.int (k+1:Nat)]]) (t:HdL (k+1) (rs.eraseIdx r) kn l):HdL k rs ((p,n)::kn) (d::l)
theorem HdL.len {k:Nat} {rs:List Nat} {kn:List (Int×Int)} {l:List Sd} (h:HdL k rs kn l):kn.length < l.length:=by
 induction h with
 | nil=>simp
 | cons _ _ _ _ _ ih=>simpa using ih
theorem SmP.set {l:List Fm} (h:SmP l) {b:Nat} {n:Int} (hn:n.natAbs<=10 ^ 60):SmP (l.set b (n,[])):=fun x hx e=>by
 rcases gB hx with hx|rfl
 .exact h x hx e
 .exact bits60 hn
theorem hd_ok {Q : List Df} {f at' : Int} {d1 : Sd} : ∀ (kn : List (Int × Int)) (fm : List Fm) (k : Nat) (L l : List Sd), SmP fm -> (∀ p ∈ kn, 0 <= p.1 /\ p.2.natAbs <= 10 ^ 60 /\ ∃ x, fm[p.1.toNat]? = some x /\ np x = true) -> (kn.map (·.1)).Nodup -> d1.fr = bP [(f, at', setK fm kn)] none -> d1.many = (bq d1.fr).toNat -> d1.word ≠ "hold" -> L.drop k = hdsL f at' fm kn ++ [d1] -> (∀ (j : Nat) d0, L[j]? = some d0 -> k <= j -> ∃ d, l[j - k]? = some d /\ d.many = d0.many /\ d.fr = d0.fr /\ d.word = d0.word /\ (d0.word = "hold" -> d.rest = d0.rest ++ [jh Q L j d0])) -> HdL k (uns 0 fm) kn l
  | [], fm, k, L, l, hs, _, _, h1, h2, h3, hL, hl => by
    have e0:L[k]?=some d1:=by rw[<-ki k,<- kj,hL];rfl
    obtain ⟨d,e1,e2,e3,e4,v⟩:=hl k d1 e0 (aq _)
    rw[oB] at e1
    cases l with
    | nil => cases e1
    | cons y l =>
      cases e1
      refine .nil (by rw[e4];exact h3) ?_
      rw[e2,h2,h1]
      show (bq (bP [(f,at',fm)] none)).toNat=_
      rw[gJ f at' hs,pM,gE]
  | (p, n) :: kn, fm, k, L, l, hs, hk, hnd, h1, h2, h3, hL, hl => by
    obtain ⟨p0,hn,x,ex,hx⟩:=hk (p,n) bG
    dsimp only at p0 hn ex
    have ehd : hdsL f at' fm ((p, n) :: kn) = ⟨un fm, [(f, at', loH 0 fm)], "hold", [.int (un (fm.take p.toNat) : Nat), .int n]⟩ :: hdsL f at' (fm.set p.toNat (n, [])) kn := by
      rw[hdsL]
      congr 1
      have ew : wdF [(f, at', fm)] p = un (fm.take p.toNat) := by
        unfold wdF
        rw[gJ f at' hs]
        show (match ((loH 0 fm).getD p.toNat (0,[])).2 with|[]=>0|q::_=>q.2.toNat)=_
        rw[dU,pT 0 fm p.toNat x ex hx]
        show ((0+un (fm.take p.toNat):Nat):Int).toNat=_
        lia
      rw[ew,gJ f at' hs,pM]
    rw[ehd,cons_append] at hL
    have e0:L[k]?=some ⟨un fm,[(f,at',loH 0 fm)],"hold",[.int (un (fm.take p.toNat):Nat),.int n]⟩:=by rw[<-ki k,<- kj,hL];rfl
    have hL2 : L.drop (k + 1) = hdsL f at' (fm.set p.toNat (n, [])) kn ++ [d1] := by
      rw[<-drop_drop,hL];rfl
    have hs2:SmP (fm.set p.toNat (n,[])):=hs.set hn
    have enx : ((L[k + 1]?).map (·.fr)).getD [] = [(f, at', loH 0 (fm.set p.toNat (n, [])))] := by
      rw[<-ki (k+1),<- kj,hL2]
      cases kn with
      | nil => show d1.fr = _; rw[h1]; exact gJ f at' hs2
      | cons q kn => show bP _ none = _; exact gJ f at' hs2
    obtain ⟨d,e1,e2,e3,e4,e5⟩:=hl k _ e0 (aq _)
    rw[oB] at e1
    cases l with
    | nil => cases e1
    | cons y l =>
      cases e1
      obtain ⟨u1,u2⟩:=oX 0 fm p.toNat x ex hx
      refine .cons (r:=un (fm.take p.toNat)) e4 (by rw[e2,gE]) (by rw[u1];congr 1;lia) ?_ ?_
      . rw[e5 rfl]
        unfold jh
        rw[enx,ZjO f at' ex hx,gE];rfl
      . rw[<- u2 n]
        rw[aF,cP] at hnd
        refine hd_ok (Q:=Q) kn (fm.set p.toNat (n,[])) (k+1) L l hs2 (fun q hq=>?_) hnd.2 h1 h2 h3 hL2 fun j d0 ej hj=>?_
        . obtain ⟨q0, qn, z, ez, hz⟩ := hk q (bE _ hq)
          have:p.toNat≠q.1.toNat:=fun e=>hnd.1 (bL.mpr ⟨q,hq,by lia⟩)
          exact ⟨q0,qn,z,by rw[cy this];exact ez,hz⟩
        . obtain ⟨d', g1, g2⟩ := hl j d0 ej (by lia)
          refine ⟨d',?_,g2⟩
          have:j - k=(j - (k+1))+1:=by lia
          rw[this,oM] at g1
          exact g1
theorem oU:∀ (n c:Nat),uns c ((List.range' c n).map fun (i:Nat)=>ofW (i:Int))=List.range' c n
 | 0,_=>rfl
 | n+1,c=>by rw[kh,aF,uns,ag (mU _),oU n (c+1)]
theorem ur:∀ (n c:Nat),loH c ((List.range' c n).map fun (i:Nat)=>ofW (i:Int))=(List.range' c n).map fun (i:Nat)=>ofW (i:Int)
 | 0,_=>rfl
 | n+1,c=>by rw[kh,aF,loH,ag (mU _),ur n (c+1)]
theorem ZjI {Q:List Df} {f at':Int} {boxes most:Nat} {known:List (Int×Int)} (hnd:(known.map (·.1)).Nodup) (hkn:∀ p∈known,0<=p.1/\p.1 < boxes/\p.2.natAbs<=10 ^ 60) (hl:(dZ Q f at' boxes known most).lane.length<=100):HdL 0 (List.range boxes) known (dZ Q f at' boxes known most).lane/\(∀ (j:Nat) d,(dZ Q f at' boxes known most).lane[j]?=some d->(d.word="hold"↔j < known.length)/\(∀ t∈d.rest,EdH known.length j t)/\d.rest.length<=4)/\∃ d,(dZ Q f at' boxes known most).lane[0]?=some d/\d.many=boxes/\d.fr=[(f,at',aE boxes)]:=by
 have hw:aE boxes=(List.range' 0 boxes).map fun (i:Nat)=>ofW (i:Int):=by unfold aE;rw[range_eq_range']
 have hsm:SmP (aE boxes):=fun x hx e=>by
  unfold aE at hx
  obtain ⟨i,y,rfl⟩:=bL.mp hx
  rw[mU] at e;cases e
 have eh:=va f at' known ⟨[],[],0⟩ (aE boxes)
 unfold dZ fh at hl ⊢
 rw[eh] at hl ⊢
 dsimp only at hl ⊢
 rw[iF] at hl ⊢
 generalize hS:MS.add Q most ⟨hdsL f at' (aE boxes) known,[],0⟩ [(f,at',setK (aE boxes) known)]=S at hl ⊢
 obtain ⟨d1,hd1,hd2,hd3,hd4⟩:∃ d1:Sd,S.lane=hdsL f at' (aE boxes) known++[d1]/\d1.fr=bP [(f,at',setK (aE boxes) known)] none/\d1.many=(bq d1.fr).toNat/\(d1.word≠"hold"/\d1.rest=[]):=by
  rw[<-hS]
  exact ⟨_,rfl,rfl,rfl,sq _ _,rfl⟩
 have hlen:S.lane.length=known.length+1:=by rw[hd1,aA,jF];rfl
 have hwd:∀ (j:Nat) d,S.lane[j]?=some d->(d.word="hold"↔j < known.length)/\(∀ t∈d.rest,∃ n,t=.int n)/\d.rest.length<=2:=fun j d e=>by
  rw[hd1] at e
  by_cases hj:j < known.length
  .rw[bN (by rw[jF];exact hj)] at e
   obtain ⟨g1,g2⟩:=vm f at' known _ d (aw e)
   exact ⟨⟨fun y=>hj,fun y=>g1⟩,g2⟩
  .rw[fM (by rw[jF];lia)] at e
   have:=aw e
   rw[aN] at this
   subst this
   exact ⟨⟨fun z=>absurd z hd4.1,fun z=>absurd z hj⟩,fun t ht=>(by rw[hd4.2] at ht;cases ht),by rw[hd4.2];exact bg _⟩
 have I0:RI Q S.lane known.length S 0:=⟨fun j d0 e=>⟨d0,e,rfl,rfl,rfl,fun y=>rfl,fun z=>by lia⟩,fun j d e=>⟨(hwd j d e).1,fun t ht=>.inl ((hwd j d e).2.1 t ht),aR (hwd j d e).2.2 (by decide),fun y=>(hwd j d e).2.2⟩,fun e he x hx=>?_,by lia⟩
 .obtain ⟨k',hk',I⟩:=RI.run (most:=most) (fun j d e ew=>by have:=(hwd j d e).1.mp ew;lia) 100 0 I0 (by lia)
  have hle:=I.len
  refine ⟨?_,fun j d e=>⟨(I.b j d e).1,(I.b j d e).2.1,(I.b j d e).2.2.1⟩,?_⟩
  .have:=hd_ok (Q:=Q) (f:=f) (at':=at') (d1:=d1) known (aE boxes) 0 S.lane (S.run Q most 100 0).lane hsm (fun p hp=>?_) hnd hd2 hd3 hd4.1 hd1 fun j d0 ej y=>?_
   .rw[hw,oU,<- range_eq_range'] at this
    exact this
   .obtain ⟨g1,g2,g3⟩:=hkn p hp
    refine ⟨g1,g3,ofW (p.1.toNat:Nat),?_,mU _⟩
    unfold aE
    rw[aj,cR (by lia)];rfl
   .obtain ⟨d,e1,e2,e3,e4,e5,e6⟩:=I.a j d0 ej
    refine ⟨d,e1,e2,e3,e4,fun ew=>e6 ?_ ew⟩
    have:=(hwd j d0 ej).1.mp ew
    lia
  .have e0:∃ d0,S.lane[0]?=some d0/\d0.many=boxes/\d0.fr=[(f,at',aE boxes)]:=by
    have el:bP [(f,at',aE boxes)] none=[(f,at',aE boxes)]:=by
     rw[gJ f at' hsm]
     conv=>lhs;rw[hw,ur,<- hw]
    have em:(bq [(f,at',aE boxes)]).toNat=boxes:=by
     have:=pM f at' (aE boxes)
     rw[<-gJ f at' hsm,el] at this
     rw[this,<- gE 0,hw,oU,length_range']
    rw[hd1]
    cases known with
    | nil =>
     refine ⟨d1,rfl,?_,?_⟩
     .rw[hd3,hd2];show (bq (bP [(f,at',aE boxes)] none)).toNat=_;rw[el,em]
     .rw[hd2];exact el
    | cons p kn=>exact ⟨_,rfl,by show (bq (bP [(f,at',aE boxes)] none)).toNat=_;rw[el,em],el⟩
   obtain ⟨d0,e0,e1,e2⟩:=e0
   obtain ⟨d,g1,g2,g3,y⟩:=I.a 0 d0 e0
   exact ⟨d,g1,g2.trans e1,g3.trans e2⟩
 .rw[<-hS] at he
  have he:e∈dq (k2P (plcF [(f,at',setK (aE boxes) known)])) (hdsL f at' (aE boxes) known).length []:=he
  rw[dq,aN] at he
  subst he
  rw[aN.mp hx,jF];exact aq _
end L2
end
section
namespace L2
open PySem PySem.Spec PyProof.Rows
section
variable {X:Cx}
def rIns:V->List V->Hp->VK->Prop:=fun x vs H Q=>∃ l xs y,∃ i:Nat,x=.ref l/\vs=[.int i,y]/\H l=some (.lst xs)/\i<=xs.length/\xs.length < sizeLine/\i < 1000000/\Q .non (upd H l (.lst (xs.take i++y::xs.drop i)))
theorem Zk6:MtM X "list.insert" rIns:=by
 intro pins s Z H x vs v us Q I rx rv h
 obtain ⟨l,xs,y,i,rfl,rfl,hH,hi,hz,h6,q⟩:=h
 cases rx
 obtain ⟨u1,u,rfl,ru1,ru⟩:=rv.two
 obtain ⟨t,rfl⟩:=ru1
 obtain ⟨z,its,n,r,hl,e⟩:=I.lstM hH
 have hk:(if (i:Int) < 0 then ((i:Int)+(its.toArray.size:Int)).toNat else min (i:Int).toNat its.toArray.size)=i:=by
  rw[ah (by lia),bj];lia
 have hf:Builtin.List.listFitsIndex (i:Int)=true:=fitsIndex_both (by lia) (by lia)
 have hc:¬ (!Builtin.List.listFitsIndex (i:Int))=true:=by rw[hf];decide
 have hsz:its.toArray.size<=sizeLine:=by rw[bj];lia
 generalize hx:(i:Int)=x at hc hk hf
 have M:=PySem.AutoSeq1.list_insert_list_int_val_1 l its.toArray n x t u hc hsz
 refine gZ F.slot_list_insert ⟨_,e,rfl⟩ F.entry_list_insert (F.args_list_insert_3 _ _ _) M ?_
 refine ⟨e,?_⟩
 refine ⟨.non,_,I.lset (its':=its.take i++u::its.drop i) hH e ?_ ((r.take i).append (.cons ru (r.drop i))) ?_,rfl,q⟩
 .show (its.toArray.extract 0 (if x < 0 then (x+(its.toArray.size:Int)).toNat else min x.toNat its.toArray.size)).push u++its.toArray.extract (if x < 0 then (x+(its.toArray.size:Int)).toNat else min x.toNat its.toArray.size)=_
  rw[hk]
  apply Array.toList_inj.mp
  simp
  exact nY (by simp)
 .rw[aA,bz,cz,iA]
  lia
end
section
variable {P:Program} {w:World} {K:W.Frag} {G:GH} {a:Addr} {Γ:Ev} {k:T->GH->Prop} {ts:List T} {y:T} {b c:Bool}
theorem l_isB (h:k (.bl (b == c)) G):L2r P w K rIsB (.bl b) (.bl c) G k:=fun H u v g r1 r2 Q z=>by cases r1;cases r2;exact rd_isB (z.here g .bl h)
theorem l_isnB (h:k (.bl (b != c)) G):L2r P w K vA (.bl b) (.bl c) G k:=fun H u v g r1 r2 Q z=>by cases r1;cases r2;exact ⟨b,c,rfl,rfl,z.here g .bl h⟩
theorem l_neB (h:k (.bl (!decide (b=c))) G):L2r P w K rNe (.bl b) (.bl c) G k:=fun H u v g r1 r2 Q z=>by cases r1;cases r2;exact uU (z.here g .bl h)
theorem l_intB (h:k (.int (if b then 1 else 0)) G):LNr P w K rInt [.bl b] G k:=fun H us g r Q z=>by
 cases r with|cons r1 r2=>cases r2;cases r1;exact .inr ⟨b,rfl,z.here g .int h⟩
theorem RepTs.erase {H:Hp} {ts:List T} {xs:List V} (r:RepTs K G H ts xs) (i:Nat):RepTs K G H (ts.eraseIdx i) (xs.eraseIdx i):=by
 rw[eraseIdx_eq_take_drop_succ,eraseIdx_eq_take_drop_succ];exact (r.take _).app (r.drop _)
theorem Zpb {i:Nat} (e:G a=some (.lst ts)) (hi:ts[i]?=some y) (h6:i < 1000000) (h:k y (gput G a (.lst (ts.eraseIdx i)))):LBr P w K t5 (.ptr a) [.int i] G k:=fun H u vs g r1 r2 Q z=>by
 cases r1
 cases r2 with
 | cons q1 q2 =>
  cases q1;cases q2
  obtain ⟨xs,h1,rs⟩:=g a _ e
  have hl:=rs.length
  obtain ⟨v,ev,rv⟩:=rs.get hi
  obtain ⟨g2,s2⟩:=g.putL (.inl ⟨_,e⟩) (rs.erase i)
  have hil:=(ay.mp ev).1
  refine ⟨a,xs,i,i,v,rfl,rfl,h1,by lia,by lia,(qf (qI rfl hil)).1,ev,z _ _ _ _ s2 g2 (rv.mono g s2) h⟩
theorem l_ins {i:Nat} (e:G a=some (.lst ts)) (hi:i<=ts.length) (hl:ts.length < 1000000) (h:k .non (gput G a (.lst (ts.take i++y::ts.drop i)))):LBr P w K rIns (.ptr a) [.int i,y] G k:=fun H u vs g r1 r2 Q z=>by
 cases r1
 cases r2 with
 | cons q1 q2 =>
  cases q1
  cases q2 with
  | cons q2 q3 =>
   cases q3
   obtain ⟨xs,h1,rs⟩:=g a _ e
   have hl':=rs.length
   obtain ⟨g2,s2⟩:=g.putL (.inl ⟨_,e⟩) ((rs.take i).app (.cons q2 (rs.drop i)))
   refine ⟨a,xs,_,i,rfl,rfl,h1,by lia,by rw[PySem.sizeLine_eq];lia,by lia,z _ _ _ _ s2 g2 .non h⟩
end
theorem l_catM {P:Program} {w:World} {K:W.Frag} {G:GH} {x y:T} {ts us:List T} {k:T->GH->Prop} (s:SqI G x ts) (s2:SqI G y us) (hz:ts.length+us.length<=1000000) (h:∀ a,G a=none->k (.ptr a) (gput G a (.lst (ts++us)))):L2r P w K rCat x y G k:=fun H u v g r1 r2 Q z=>by
 obtain ⟨a,vs,rfl,q,e⟩:=bK g s r1
 obtain ⟨b,ws,rfl,q2,e2⟩:=bK g s2 r2
 refine uV e e2 (gF (by rw[<-q.length,<- q2.length];exact hz)) fun p hp=>?_
 obtain ⟨g2,s3⟩:=g.putL (.inr hp) (q.app q2)
 exact z _ _ _ _ s3 g2 .ptr (h p (g.free hp))
theorem Zmo {P:Program} {w:World} {K:W.Frag} {G:GH} {k:T->GH->Prop} {Γ:Ev} {g:TG} {te:TE} {LN:List Str} {fr:List Nat} {wi:TI} {tt:TT} (h:Wi P w K wi Γ G fun xs kp G1=>xs.length<=100000/\∃ I:Nat->List T->Ev->GH->Prop,I 0 [] (bkE LN.length fr Γ) G1/\(∀ i acc Γ' G',I i acc Γ' G'->kp G') /\
   (∀ (i:Nat) x acc Γ' G',xs[i]?=some x->I i acc Γ' G'->Wg P w K g x Γ' G' fun Γ2 G2=>Wt P w K tt Γ2 G2 fun b G3=>if b=true then We P w K te Γ2 G3 (fun d G4=>I (i+1) (acc++[d]) Γ2 G4) else I (i+1) acc Γ2 G3) /\
   ∀ acc Γ' G',I xs.length acc Γ' G'->∀ a,G' a=none->k (.ptr a) (gput G' a (.lst acc))):We P w K (ee LN fr wi g tt te) Γ G k:=fun H Z g ev Q z =>
 h H Z g ev _ fun J H1 xs kp G1 s1 g1 it z0_=>by
  obtain ⟨hz,I,i0,hk,hs,hd⟩:=z0_
  refine lK xs.length (gF (by lia)) (fun i ys Z H=>∃ acc Γ' G',Stp G1 H1 G' H/\GOk P w K G' H/\EnvOk K G' H Z Γ'/\RepTs K G' H acc ys/\I i acc Γ' G') ⟨[],_,G1,.refl,g1,oV (ev.mono g s1),.nil,i0⟩ ?_ ?_ ?_ ?_
  .rintro i ys Z H hi ⟨acc,Γ',G',s2,g2,e2,r2,p⟩
   exact ((it G' H s2 g2 (hk _ _ _ _ p)).1 i xs[i] (ax hi)).1
  .rintro ys Z H ⟨acc,Γ',G',s2,g2,e2,r2,p⟩
   exact (it G' H s2 g2 (hk _ _ _ _ p)).2
  .rintro i x ys Z H H' hi hy hy2 ⟨acc,Γ',G',s2,g2,e2,r2,p⟩ y
   obtain ⟨sm,rx⟩:=((it G' H s2 g2 (hk _ _ _ _ p)).1 i xs[i] (ax hi)).2 x H' y
   refine hs i _ acc Γ' G' (ax hi) p H' Z x (g2.same sm) (e2.mono g2 (.same sm)) rx _ fun σ3 H3 Γ3 G3 s3 g3 e3 q3=>q3 H3 σ3 g3 e3 _ fun b H4 G4 s4 g4 q4=>?_
   have r4:=r2.mono g2 ((Stp.same sm).trans (s3.trans s4))
   have st4:=s2.trans ((Stp.same sm).trans (s3.trans s4))
   cases b with
   | true =>
    refine iteT ((eT q4) H4 σ3 g4 (e3.mono g3 s4) _ fun v H5 d G5 s5 g5 r5 q5=>⟨hy2,by rw[aA];simpa using hy,?_⟩)
    exact ⟨acc++[d],Γ3,G5,st4.trans s5,g5,e3.mono g3 (s4.trans s5),(r4.mono g4 s5).app (.cons r5 .nil),q5⟩
   | false=>exact iteF ⟨by lia,acc,Γ3,G4,st4,g4,e3.mono g3 s4,r4,eO q4⟩
  .rintro ys Z H hl ⟨acc,Γ',G',s2,g2,e2,r2,p⟩ q hq
   obtain ⟨g3,s3⟩:=g2.putL (.inr hq) r2
   exact z _ _ _ _ ((s1.trans s2).trans s3) g3 .ptr (hd acc Γ' G' p q (g2.free hq))
theorem l_mod {P:Program} {w:World} {K:W.Frag} {G:GH} {k:T->GH->Prop} {i j:Int} (hj:0 < j) (h:k (.int (i % j)) G):L2r P w K (rI (fun y j=>0 < j) fun i j=>V.int (i % j)) (.int i) (.int j) G k:=fun H u v g r1 r2 Q z=>by cases r1;cases r2;exact ⟨i,j,rfl,rfl,hj,z.here g .int h⟩
theorem ZhQ {prog:Program} {w:World} {A:Around} {E:Value->Shared->Prop} {s:Shared} {a:Addr} {o:Obj} {xs:Array Value} {k:Nat} {name:Str} {Q:Option Value->Shared->Prop}
  (hx:s.heap.get? a=some o) (hc:o.cls=.type "list") (hdat:o.data=.seq xs k) (hd:o.dict=none) (hmiss:typeLookup (.type "list") name=pure none) (hname:(["__module__","__name__","__qualname__","__doc__","__annotations__"]:List Str).contains name=false) (hA:A.handled=none)
  (h:∀ h' tk e,Heap.NewExcOf s.heap h' e "AttributeError"->Q none { s with heap:=h',toks:=tk }) (hsz:name.length+100<=sizeLine:=by size_fits) :
  wpAny (model prog w) A (getAttr? (.ref a) name) Q E s:=by
 obtain ⟨c,dct,dat,sl⟩:=o
 simp only at hc hdat hd
 subst hc hdat hd
 obtain ⟨hp,g,d,tk,os⟩:=s
 have hT:∀ tk',(⟨hp,g,d,tk',os⟩:Shared).TypeIs (.ref a) "list":=fun j=>⟨_,hx,rfl⟩
 have f1:=sub_AttributeError
 have f3:=F.slot_list_getattribute.lookup
 have f4:=F.slot_list_getattribute.bind (.ref a)
 have f5:=am_list_getattr_none
 unfold getAttr? getAttrBy? getAttrBy
 repeat (any_goals (first|assumption|exact hT _|((with_reducible show wpAny _ _ (call (Value.builtin "list.__getattribute__") _ _) _ _ _);refine gZ F.slot_list_getattribute (hT _) am_entry_list_getattribute (F.args_list_getattribute_2 _ _) (meets_getattribute_miss_list a xs k sl name _ hmiss hname hsz) ⟨hx,hA,fun h' tk' e hx'=>?_⟩)|wp_step))
 obtain ⟨t',u',he⟩:=hx'.there
 show wpAny _ _ (getattributeRaised _ _ _ _ _ _ _) _ _ _
 unfold getattributeRaised
 repeat (any_goals (first|assumption|wp_step))
 exact h _ _ _ hx'.of
theorem Zpe:typeLookup (.type "list") "keys"=pure none:=by rw[typeLookup_type,rj];kernel_rfl
theorem vC:entryFor table "dict.update.loop"=some Builtin.«dict.update.loop»:=entryFor_of_tree (by kernel_rfl)
theorem lb:plainId "dict.update.loop"=true:=by decide +kernel
section
variable {prog:Program} {w:World} {K:Type} [DecidableEq K] {knd:KeyKind prog w K} {A:Around} {E:Value->Shared->Prop} {s:Shared}
theorem ZlJ {d it l t:Addr} {n2:Nat} {k:K} {kv vv:Value} {R:Result->Shared->Prop} (hh:A.handled=none) (hit:s.heap.IsListIter it l 0) (hl:s.heap.IsList l #[.ref t]) {ot:Obj} (ht:s.heap.get? t=some ot) (htc:ot.cls=.type "tuple") (htd:ot.data=.seq #[kv,vv] n2) (hd:s.heap.DictOf knd d []) (hkey:knd.is k kv=true)
  (ne1:d≠it) (ne2:l≠it) (ne3:l≠d) (ne4:t≠it) (ne5:t≠d) (h:∀ h' tk,h'.DictOf knd d [(k,vv)]->(∀ b o,b≠d->b≠it->s.heap.get? b=some o->h'.get? b=some o)->R (.ok (.ret .none)) { s with heap:=h',toks:=tk }) :
  codeAny (model prog w) A (.builtin "dict.update.loop" ⟨[.ref d,.ref it,rawInt 0,.none],[]⟩) R s:=by
 refine ou vC ?_
 rw[ox lb _]
 unfold Builtin.«dict.update.loop»
 show wpAny _ _ (pyNext (.ref it) >>= _) _ _ _
 refine ab (wpAny_pyNext_list_item hit hl rfl fun h3 hit3 sb3=>?_)
 have ht3:h3.get? t=some ot:=(sb3.2 t ne4).trans ht
 have hd3:h3.DictOf knd d []:=hd.sameBut sb3 ne1
 have hl3:h3.IsList l #[.ref t]:=by obtain ⟨o,ho,r⟩:=hl;exact ⟨o,(sb3.2 l ne2).trans ho,r⟩
 show wpAny _ _ (holding [.ref t] _ >>= _) _ _ _
 refine ab (cY (ab (wpAny_tryCatch ?_)))
 unfold Builtin.Dict.pairItems
 refine ab (iC (show _ from (⟨_,ht3,htc⟩:Shared.TypeIs { s with heap:=h3 } (.ref t) "tuple")) ?_)
 rw[ag (by decide)]
 refine ab (dw ht3 htd (am ?_))
 show wpAny _ _ (holding [kv,vv] (dictSet d kv vv)) _ _ _
 refine cY (wpAny_dictSet_pairs hkey hd3 (fun h4 hd4 sb4=>?_) (bg _))
 refine am ⟨oz lb _,ou vC ?_⟩
 rw[ox lb _]
 unfold Builtin.«dict.update.loop»
 show wpAny _ _ (pyNext (.ref it) >>= _) _ _ _
 have hit4:h4.IsListIter it l 1:=by obtain ⟨o,ho,r⟩:=hit3;exact ⟨o,(sb4.2 it (Ne.symm ne1)).trans ho,r⟩
 have hl4:h4.IsList l #[.ref t]:=by obtain ⟨o,ho,r⟩:=hl3;exact ⟨o,(sb4.2 l ne3).trans ho,r⟩
 refine ab (wpAny_pyNext_list_end (show A.in1.handled=none from hh) hit4 hl4 rfl fun h5 eb5=>?_)
 show wpAny _ _ (Builtin.Dict.addKeywords d [] >>= _) _ _ _
 refine ab (am (am ?_))
 exact h h5 _ (hd4.extBut eb5 ne1) fun b o n1 n2 e=>eb5 b o n2 ((sb4.2 b n1).trans ((sb3.2 b n2).trans e))
theorem ZfH {l t:Addr} {k:K} {kv vv:Value} {Q:Value->Shared->Prop} (hh:A.handled=none) (PL:PlainL s.heap l #[.ref t]) (PT:IsTup s.heap t #[kv,vv]) (hkey:knd.is k kv=true)
  (h:∀ h' tk,h'.DictOf knd s.heap.objs.size [(k,vv)]->(∀ b o,s.heap.get? b=some o->h'.get? b=some o)->Q (.ref s.heap.objs.size) { s with heap:=h',toks:=tk }) :
  wpAny (model prog w) A (call (.type "dict") [.ref l]) Q E s:=by
 obtain ⟨ol,n,hl,hlc,hln,hld⟩:=PL
 obtain ⟨ot,ht,htc,n2,htd⟩:=PT
 refine callType_codes (Q₁:=fun obj s₁=>obj=.ref s.heap.objs.size/\s₁={ s with heap:=s.heap.push { cls:=.type "dict",data:=.dict #[] } }) F.kt_called_dict (F.kt_typeCall_dict_1 _) F.entry_dict_init (kt_code_dict_new _ ⟨rfl,rfl⟩) ?_
 rintro obj s₁ ⟨rfl,rfl⟩
 have hnew:(s.heap.push { cls:=.type "dict",data:=.dict #[] }).DictOf knd s.heap.objs.size []:=Heap.DictOf.new s.heap
 have kp:∀ b o,s.heap.get? b=some o->(s.heap.push { cls:=.type "dict",data:=.dict #[] }).get? b=some o:=fun b o e=>aJ _ e
 have hlt:∀ {b o},s.heap.get? b=some o->b < s.heap.objs.size:=fun e=>aM e
 refine ⟨hnew.typeIs,F.args_dict_init_2 _ _,?_⟩
 unfold Builtin.«dict.__init__»
 refine ab ?_
 unfold Builtin.Dict.selfAndRest
 refine ab (wpAny_notOrdered_dict hnew.typeIs ?_)
 show wpAny _ _ (pure (s.heap.objs.size,[Value.ref l])) _ _ _
 refine am ?_
 show wpAny _ _ (Builtin.Dict.updateFrom "dict.__init__" s.heap.objs.size (.ref l) [] .none) _ _ _
 unfold Builtin.Dict.updateFrom
 have hl1:=kp _ _ hl
 refine ab (iC (show _ from (⟨_,hl1,hlc⟩:Shared.TypeIs { s with heap:=s.heap.push { cls:=.type "dict",data:=.dict #[] } } (.ref l) "list")) ?_)
 rw[ag (by decide)]
 refine ab (ZhQ hl1 hlc hld hln Zpe (by decide) (show A.in1.in1.handled=none from hh) fun h1 tk1 e1 x1=>?_)
 simp only[Option.isNone_none,e9]
 refine ab (eF ?_)
 have hl2:h1.IsList l #[.ref t]:=⟨_,x1.keeps _ _ hl1,hlc,n,hld⟩
 refine ab (nT hl2 ?_)
 refine am ⟨oz lb _,?_⟩
 have szl:∀ {b o},h1.get? b=some o->b < h1.objs.size:=fun e=>aM e
 obtain ⟨od,hod,j⟩:=Heap.dictOf_iff.mp hnew
 have hd1:h1.DictOf knd s.heap.objs.size []:=by
  obtain ⟨o,es,ep,ho,r⟩:=hnew
  exact ⟨o,es,ep,x1.keeps _ _ ho,r⟩
 have dsz:s.heap.objs.size < h1.objs.size:=szl (x1.keeps _ _ hod)
 refine ZlJ (l:=l) (t:=t) (n2:=n2) (k:=k) (kv:=kv) (vv:=vv) (knd:=knd) hh ⟨_,bp _ rfl,rfl,rfl⟩ (hl2.push _) (aJ _ (x1.keeps _ _ (kp _ _ ht))) htc htd (hd1.push _) hkey (bc dsz) (bc (szl (x1.keeps _ _ hl1))) (bc (hlt hl)) (bc (szl (x1.keeps _ _ (kp _ _ ht)))) (bc (hlt ht)) fun h' tk hd' hk'=>?_
 refine ⟨rfl,h h' tk hd' fun b o e=>?_⟩
 exact hk' b o (bc (hlt e)) (bc (szl (x1.keeps _ _ (kp _ _ e)))) (aJ _ (x1.keeps _ _ (kp _ _ e)))
end
end L2
namespace L2
open PySem PySem.Spec PyProof.Rows
section
variable {X:Cx}
def qQ (K:W.Frag):List V->Hp->VK->Prop:=fun xs H Q=>∃ l t i v,xs=[.ref l]/\SqL K H l [.ref t]/\SqT K H t [.int i,v]/\∀ p,H p=none->Q (.ref p) (upd H p (.dK [(.inl i,v)]))
theorem ZjT (hc:X.calm=true):bA X (.type "dict") (qQ X.K):=by
 intro pins s Z H xs us Q I r h
 obtain ⟨l,t,i,v,rfl,hl,ht,q⟩:=h
 obtain ⟨u,rfl,ru⟩:=vals1 r
 cases ru
 obtain ⟨its,vx,pl,j⟩:=I.list hl
 obtain ⟨it2,vx2,pt,j⟩:=I.tuple ht
 obtain ⟨u1,rfl,r1⟩:=vx.one
 cases r1
 obtain ⟨ku,vu,rfl,rk,rv⟩:=vx2.two
 obtain ⟨tk,rfl⟩:=rk
 refine ZfH (knd:=bC X.prog X.w) (k:=.inl i) (I.ok.hd hc) pl pt (vq i tk) fun h' tk' hd hk=>?_
 exact ⟨.ref s.heap.objs.size,_,I.laid (a:=s.heap.objs.size) (o:=.dK [(.inl i,v)]) hk (aq _) ⟨by rw[PySem.sizeLine_eq];show 1<=_;decide,gR.mpr (Ne.symm (bc I.big)),_,.cons ⟨rfl,rv⟩ .nil,hd⟩,rfl,q _ I.fresh⟩
theorem Zpf {K:W.Frag} (h:X.K=K) (hc:X.calm=true):bA X (.type "dict") (qQ K):=h▸ZjT hc
end
section
variable {P:Program} {w:World} {K:W.Frag} {G:GH} {k:T->GH->Prop} {i v:Int}
theorem Zpd (h:∀ p,G p=none->k (.ptr p) (gput G p (.tb [(i,v)]))):LNr P w K (qQ K) [.lst [.tup [.int i,.int v]]] G k:=fun H us g r Q z=>by
 cases r with
 | cons r1 r2 =>
  cases r2
  cases r1 with
  | lst _ e q =>
   cases q with
   | cons q1 q2 =>
    cases q2
    cases q1 with
    | tup e2 q3 =>
     cases q3 with
     | cons q4 q5 =>
      cases q4
      cases q5 with
      | cons q6 q7 =>
       cases q6;cases q7
       refine ⟨_,_,i,.int v,rfl,SqL.of e,?_,fun p hp=>?_⟩
       .exact SqT.of e2
       .obtain ⟨g2,s2⟩:=g.putB (t:=[(i,v)]) (.inr hp) (by simp)
        exact z _ _ _ _ s2 g2 .ptr (h p (g.free hp))
theorem vz {Γ:Ev} {tr:TA} {kx:List T->(GH->Prop)->GH->Prop} (h:Wa P w K tr Γ G fun xs G1=>∃ a j:Int,xs=[.int a,.int j]/\(0<=a/\a<=1000000/\0<=j/\j<=1000000)/\kx ((List.range (j - a).toNat).map fun (m:Nat)=>T.int (a+m)) (fun u=>True) G1):Wi P w K (iRng2 tr) Γ G kx:=fun H Z g ev Q z=>h H Z g ev _ fun vs H1 xs G1 s1 g1 r1 ⟨a,j,e,h1,q⟩=>by
 subst e
 cases r1 with
 | cons r1 r2 =>
  cases r1
  cases r2 with
  | cons r2 r3 =>
  cases r2;cases r3
  refine ⟨a,j,rfl,⟨Int.le_trans (by decide) h1.1,Int.lt_of_le_of_lt h1.2.1 (by decide),Int.le_trans (by decide) h1.2.2.1,Int.lt_of_le_of_lt h1.2.2.2 (by decide)⟩,z _ _ _ _ _ s1 g1 (fun G' H' s' g' u=>⟨fun i x e=>?_,?_⟩) q⟩
  .rw[aj] at e
   obtain ⟨m,em,rfl⟩:=aH.mp e
   obtain ⟨hi,ei⟩:=ay.mp em
   rw[getElem_range] at ei
   rw[cH] at hi
   subst ei
   exact ⟨hi,fun v H2 ⟨e2,y⟩=>by subst e2 y;exact ⟨.refl _,.int⟩⟩
  .show (j - a).toNat<=_
   rw[ai,cH]
   exact aq _
end
def rNeZ (K:W.Frag):R2:=fun x y H Q=>∃ a b xs,x=.ref a/\y=.ref b/\SqL K H a xs/\SqL K H b []/\Q (.bl (!decide (xs=[]))) H
theorem op_neZ {X:Cx} (hu:X.A.units+64 < cLine):OpR X (compareOp .NotEq) (rNeZ X.K):=by
 rintro pins s Z H x y v u Q I rx ry ⟨a,b,xs,rfl,rfl,ha,hb,q⟩
 by_cases hx:xs=[]
 .subst hx
  refine op_neL hu pins s Z H _ _ v u Q I rx ry ⟨a,b,[],[],[],[],rfl,rfl,ha,hb,jM,jM,rfl,rfl,by simp[D.deps],?_⟩
  rw[fu]
  simpa using q
 .cases rx;cases ry
  obtain ⟨its,vx,ht,j⟩:=I.list ha
  obtain ⟨its',vy,ht',j⟩:=I.list hb
  have l1:=vx.length
  have l2:=vy.length
  have hl:its.length≠its'.length:=by
   have:0 < xs.length:=oN.mpr hx
   have l2:0=its'.length:=l2
   lia
  refine vV ht.isList ht'.isList (by simpa using hl) (by lia) _ _ _ _ (aV I q ?_)
  simp[hx]
theorem k_neZ {X:Cx} {K:W.Frag} (h:X.K=K) (hu:X.A.units+64 < cLine):OpR X (compareOp .NotEq) (rNeZ K):=h▸op_neZ hu
def rEqE (K:W.Frag):R2:=fun x y H Q=>∃ a b xs,x=.ref a/\y=.ref b/\SqL K H a xs/\SqL K H b []/\xs≠[]/\Q (.bl false) H
theorem vh {X:Cx} (hu:X.A.units+64 < cLine):OpR X (compareOp .Eq) (rEqE X.K):=by
 rintro pins s Z H x y v u Q I rx ry ⟨a,b,xs,rfl,rfl,ha,hb,hx,q⟩
 cases rx;cases ry
 obtain ⟨its,vx,ht,j⟩:=I.list ha
 obtain ⟨its',vy,ht',j⟩:=I.list hb
 have l1:=vx.length
 have l2:=vy.length
 have hl:its.length≠its'.length:=by
  have:0 < xs.length:=oN.mpr hx
  have l2:0=its'.length:=l2
  lia
 exact SeqAt.RcAt.lists_lengths ht.isList ht'.isList (by simpa using hl) (by lia) _ _ _ _ (aV I q rfl)
theorem k_eqE {X:Cx} {K:W.Frag} (h:X.K=K) (hu:X.A.units+64 < cLine):OpR X (compareOp .Eq) (rEqE K):=h▸vh hu
section
variable {P:Program} {w:World} {K:W.Frag} {G:GH} {k:T->GH->Prop} {x y:T} {ts:List T}
theorem l_eqE (h1:SqI G x ts) (h2:SqI G y []) (hn:ts≠[]) (h:k (.bl false) G):L2r P w K (rEqE K) x y G k:=fun H u v g r1 r2 Q z=>by
 obtain ⟨a,vs,rfl,rs,ha⟩:=bK g h1 r1
 obtain ⟨b,us,rfl,rs',hb⟩:=bK g h2 r2
 cases rs'
 refine ⟨a,b,vs,rfl,rfl,SqL.of ha,SqL.of hb,fun e=>hn ?_,z.here g .bl h⟩
 have:=rs.length
 rw[e] at this
 exact eq_nil_of_length_eq_zero this
theorem l_neE (h1:SqI G x ts) (h2:SqI G y []) (h:k (.bl (!decide (ts=[]))) G):L2r P w K (rNeZ K) x y G k:=fun H u v g r1 r2 Q z=>by
 obtain ⟨a,vs,rfl,rs,ha⟩:=bK g h1 r1
 obtain ⟨b,us,rfl,rs',hb⟩:=bK g h2 r2
 cases rs'
 refine ⟨a,b,vs,rfl,rfl,SqL.of ha,SqL.of hb,?_⟩
 have e:decide (vs=[])=decide (ts=[]):=by
  have:=rs.length
  cases ts <;> cases vs <;> simp at this ⊢
 rw[e]
 exact z.here g .bl h
end
def rEqZ (K:W.Frag):R2:=fun x y H Q=>∃ a b xs,x=.ref a/\y=.ref b/\SqL K H a xs/\SqL K H b []/\Q (.bl (decide (xs=[]))) H
theorem op_eqZ {X:Cx} (hu:X.A.units+64 < cLine):OpR X (compareOp .Eq) (rEqZ X.K):=by
 rintro pins s Z H x y v u Q I rx ry ⟨a,b,xs,rfl,rfl,ha,hb,q⟩
 by_cases hx:xs=[]
 .subst hx
  refine op_eqL hu pins s Z H _ _ v u Q I rx ry ⟨a,b,[],[],[],[],rfl,rfl,ha,hb,jM,jM,rfl,rfl,by simp[D.deps],?_⟩
  rw[fu]
  simpa using q
 .rw[aL hx] at q
  exact vh hu pins s Z H _ _ v u Q I rx ry ⟨a,b,xs,rfl,rfl,ha,hb,hx,q⟩
theorem k_eqZ {X:Cx} {K:W.Frag} (h:X.K=K) (hu:X.A.units+64 < cLine):OpR X (compareOp .Eq) (rEqZ K):=h▸op_eqZ hu
section
variable {P:Program} {w:World} {K:W.Frag} {G:GH} {k:T->GH->Prop} {x y:T} {ts:List T}
theorem l_eqZ (h1:SqI G x ts) (h2:SqI G y []) (h:k (.bl (decide (ts=[]))) G):L2r P w K (rEqZ K) x y G k:=fun H u v g r1 r2 Q z=>by
 obtain ⟨a,vs,rfl,rs,ha⟩:=bK g h1 r1
 obtain ⟨b,us,rfl,rs',hb⟩:=bK g h2 r2
 cases rs'
 refine ⟨a,b,vs,rfl,rfl,SqL.of ha,SqL.of hb,?_⟩
 have e:decide (vs=[])=decide (ts=[]):=by
  have:=rs.length
  cases vs <;> cases ts <;> simp_all
 rw[e]
 exact z.here g .bl h
end
section
variable {X:Cx} {a b elt iter tg:Expr} {ifs:List Expr} {ta tb te:TE} {pos:Pos} {wi:TI} {g:TG} {tt:TT} {sc:Scope} {x:Str}
theorem xa (K:W.Frag) (ha:PE X a ta) (hb:PE X b tb) (h:X.K=K:=by rfl) (hs:tm b:=by exact fun j j=>rfl):PE X (.Subscript a b pos) (tOp (rIxA K) ta tb):=jA (k_ix h) ha hb hs
theorem xj (i:Nat) (hN:X.N.Nodup) (hi:X.N[i]?=some x:=by rfl) (hx:Loc X.env.scope x:=by exact Or.inl rfl) (hf:X.fn x=true\/X.env.scope.names.lookup x=some .local:=by first|exact .inl rfl|exact .inr rfl|assumption):PG X (.Name x pos) (dg i):=jj hN hi hx hf
theorem xl (LN FN:List Str) (fr:List Nat) (hi:PI X tg iter wi) (ht:∀ cl C fp pins s H,PTs (bkCx X LN FN sc cl C fp pins s H) ifs tt) (he:∀ cl C fp pins s H,PE (bkCx X LN FN sc cl C fp pins s H) elt te)
  (hc:X.calm=true:=by rfl) (S:BkScope X.N sc X.env.scope LN FN fr:=by exact cv (by rfl)) (hg:∀ cl C fp pins s H,PG (bkCx X LN FN sc cl C fp pins s H) tg g:=by exact fun cl C fp pins s H=>jj (i:=0) (show ((_:List Str)++(_:List Str)).Nodup by decide +kernel) rfl (Or.inl rfl))
  (hs:∀ x,foldedSetIterable iter X.env x=pure x:=by intro j;rfl):PE X (.ListComp elt [⟨tg,iter,ifs,0⟩] sc pos) (ee LN fr wi g tt te):=eL hc S hi hg ht he hs
theorem xk (LN FN:List Str) (fr:List Nat) (hi:PI X tg iter wi) (he:∀ cl C fp pins s H,PE (bkCx X LN FN sc cl C fp pins s H) elt te)
  (hc:X.calm=true:=by rfl) (S:BkScope X.N sc X.env.scope LN FN fr:=by exact cv (by rfl)) (hg:∀ cl C fp pins s H,PG (bkCx X LN FN sc cl C fp pins s H) tg g:=by exact fun cl C fp pins s H=>jj (i:=0) (show ((_:List Str)++(_:List Str)).Nodup by decide +kernel) rfl (Or.inl rfl))
  (hs:∀ x,foldedSetIterable iter X.env x=pure x:=by intro j;rfl):PE X (.ListComp elt [⟨tg,iter,[],0⟩] sc pos) (ee LN fr wi g gG te):=eL hc S hi hg (fun j j j j j j=>dI) he hs
theorem xb (i:Nat) {es:List Expr} {t:TA} (hr:PA X es t) (hN:X.N[i]?=some x:=by rfl) (hv:Vis X.env.scope x:=by first|exact Or.inl rfl|exact Or.inr (Or.inl rfl)|exact Or.inr (Or.inr rfl)) (hd:(x == ("__debug__":Str))=false:=by decide) (hc:(x == ("__classdict__":Str))=false:=by decide):PA X (.Name x pos::es) (bd (tVar i) t):=il (pv i hN hv hd hc) hr
theorem xc (i:Nat) (hN:X.N[i]?=some x:=by rfl) (hv:Vis X.env.scope x:=by first|exact Or.inl rfl|exact Or.inr (Or.inl rfl)|exact Or.inr (Or.inr rfl)) (hd:(x == ("__debug__":Str))=false:=by decide) (hc:(x == ("__classdict__":Str))=false:=by decide):PA X [.Name x pos] (bd (tVar i) tNil):=il (pv i hN hv hd hc) ae
theorem xg {k:Nat} {ps:List Str} {sp:Sp} {p:Pos} {e:Expr} {es:List Expr} {t:TA} (C:Callee X.prog X.w X.K X.mg X.base x k ps sp) (hr:Room k X.A) (ha:PA X (e::es) t) (hg:Gl X x:=by rfl) (hdb:(x == ("__debug__":Str))=false:=by decide)
  (he:starEach (e::es) X.env=(false,eval e X.env)::starEach es X.env:=by rfl) (hpl:(backTo pos (starEach es X.env)).any (·.1)=false:=by rfl):PE X (.Call (.Name x p) (e::es) [] pos) (gi sp [] E0 t):=pe_fn C hr hg ha hdb he hpl
end
end L2
end
section
open PySem L2
local macro_rules | `(tactic| walk_at"fs") => `(tactic| exact ⟨rfl,rfl,rfl,by decide +kernel,rfl,by decide +kernel,by decide +kernel⟩)
local macro_rules | `(tactic| walk_at"rd1") => `(tactic| (first | ((with_reducible refine' rd_var ?e ?_); (case e => exact rfl)) | with_reducible (first|refine rd_c ?_|refine rd_op ?_|refine rd_un ?_|refine rd_seq ?_|refine rd_asg ?_|refine ZmC ?_|refine rd_ret ?_|refine rd_drop ?_|refine ZoE ?_|refine rd_if ?_|refine ZoC ?_|refine rd_tb ?_|refine rd_and ?_|refine rd_or ?_|refine rd_not ?_|refine rK ?_|refine rd_andV ?_|refine rd_orV ?_|refine rd_notV ?_|refine rd_ifE ?_|refine rd_chain ?_|refine rd_nil ?_|refine ZoH ?_|refine rd_cb ?_|refine ZoK ?_|refine rd_I0 ?_|refine rd_U ?_|refine sI ?_|refine rE ?_|refine sv ?_|refine tL ?_|refine rd_eqB ?_|refine uU ?_|refine rd_bl ?_|refine rd_int ?_|refine rd_tup ?_|refine rd_lst ?_|refine ZoG ?_|refine Zmz ?_|refine ZkJ ?_|refine ZoD ?_|refine rd_bm ?_|refine rd_bm0 ?_|refine ZoI ?_|refine rd_itup ?_|refine ZmB ?_|refine rd_irng ?_|refine rd_gcons ?_|refine rd_gnil ?_|refine rd_for ?_|refine rd_abs ?_|refine rd_max ?_|refine rd_min ?_|refine rd_intB ?_|refine rd_dput ?_|refine rd_dget2 ?_|refine rd_dget ?_|refine jH ?_|refine jz ?_|refine iteF ?_|refine iteT ?_)))
local macro_rules | `(tactic| walk_at"rd") => `(tactic| (repeat walk_at"rd1"))
local macro_rules | `(tactic| walk_at"mk") => `(tactic| refine ⟨mk_le rfl, ?_⟩)
local macro_rules | `(tactic| walk_at"w1x") => `(tactic| (first | ((with_reducible refine' eU ?e ?_); (case e => exact rfl)) | with_reducible (first|refine ii ?_|refine jC ?_|refine mR ?_|refine jD ?_|refine jm ?_|refine mI ?_|refine fI ?_|refine jw ?_|refine lR ?_|refine mn ?_|refine k7 ?_|refine mS ?_|refine lq ?_|refine ny ?_|refine ni ?_|refine iY ?_|refine wt_b ?_|refine me ?_|refine nH ?_|refine lL ?_|refine i3 ?_|refine lF ?_|refine l6 ?_|refine k5 ?_|refine lM ?_|refine we_chain ?_|refine jK ?_|refine bI ?_|refine bR ?_|refine br ?_|refine im ?_|refine fY ?_|refine ic ?_|refine fz ?_|refine lv ?_|refine lI ?_|refine ws_cont ?_|refine jt ?_|refine mw ?_|refine mf ?_|refine mV ?_|refine we_bm0 ?_|refine kP ?_|refine kB ?_|refine jL ?_|refine kL ?_|refine nq ?_|refine kQ ?_|refine hV ?_|refine ia ?_|refine mQ ?_|refine kS ?_|refine kD ?_|refine m3 ?_|refine jx ?_|refine jf ?_|refine nt ?_|refine lN ?_|refine kK ?_|refine mD ?_|refine mE ?_|refine mW ?_|refine kG ?_|refine lJ ?_|refine l_II ?_|refine l_IB ?_|refine l_U ?_|refine my ?_|refine m4 ?_|refine lO ?_|refine ly ?_|refine l_eqB ?_|refine kA ?_|refine i5 ?_|refine mC ?_|refine lC ?_|refine mK ?_|refine jG ?_|refine jH ?_|refine jz ?_|refine iteF ?_|refine iteT ?_) | ((with_reducible refine' nM ?e ?_); (case e => exact rfl))))
local macro_rules | `(tactic| walk_at"lnx") => `(tactic| (intro _ _ _ h; repeat (first | (rw [h.1]; rfl) | (obtain ⟨_, h⟩ := h))))
local macro_rules | `(tactic| walk_at"wx") => `(tactic| (repeat walk_at"w1x"))
local macro_rules | `(tactic| walk_at"w1y") => `(tactic| (first | ((with_reducible refine' eU ?e ?_); (case e => exact rfl)) | with_reducible (first|refine ii ?_|refine jC ?_|refine mR ?_|refine jD ?_|refine jm ?_|refine mI ?_|refine fI ?_|refine jw ?_|refine lR ?_|refine mn ?_) | ((with_reducible refine' sf ?e ?_); (case e => decide)) | with_reducible (first|refine we_lrng ?_|refine k7 ?_|refine mS ?_|refine lq ?_|refine ny ?_|refine ni ?_|refine iY ?_|refine wt_b ?_|refine me ?_|refine nH ?_|refine lL ?_|refine i3 ?_|refine lF ?_|refine l6 ?_|refine k5 ?_|refine lM ?_|refine we_chain ?_|refine jK ?_|refine bI ?_|refine bR ?_|refine br ?_|refine im ?_|refine fY ?_|refine ic ?_|refine fz ?_|refine lv ?_|refine lI ?_|refine ws_cont ?_|refine jt ?_|refine mw ?_|refine mf ?_|refine mV ?_|refine we_bm0 ?_|refine kP ?_|refine kB ?_|refine jL ?_|refine kL ?_|refine nq ?_|refine kQ ?_|refine hV ?_|refine ia ?_|refine mQ ?_|refine kS ?_|refine kD ?_|refine pB ?_|refine m3 ?_|refine jx ?_|refine jf ?_|refine nt ?_|refine lN ?_|refine kK ?_|refine mD ?_|refine mE ?_|refine mW ?_|refine kG ?_|refine lJ ?_|refine l_II ?_|refine l_IB ?_|refine l_U ?_|refine my ?_|refine m4 ?_|refine lO ?_|refine ly ?_|refine l_eqB ?_|refine kA ?_|refine i5 ?_|refine mC ?_|refine lC ?_|refine mK ?_|refine jG ?_|refine jH ?_|refine jz ?_|refine iteF ?_|refine iteT ?_) | ((with_reducible refine' tk_d ?e ?_); (case e => exact rfl)) | ((with_reducible refine' bW ?e ?_); (case e => exact rfl)) | ((with_reducible refine' nM ?e ?_); (case e => exact rfl)) | ((with_reducible refine' cM ?e ?_); (case e => first | exact rfl | exact at_0 | exact at_1 | exact at_2)) | ((with_reducible refine' qO ?e ?_); (case e => exact rfl)) | with_reducible (first|refine l_lenT ?_|refine pS ?_) | ((with_reducible refine' pG ?e ?_); (case e => exact rfl)) | ((with_reducible refine' p7 ?e ?_); (case e => exact rfl))))
local macro_rules | `(tactic| ac_nf) => `(tactic| (repeat walk_at"w1y"))
local macro_rules | `(tactic| walk_at"w1z") => `(tactic| (first | ((with_reducible refine' eU ?e ?_); (case e => exact rfl)) | with_reducible (first|refine ii ?_|refine jC ?_|refine mR ?_|refine jD ?_|refine jm ?_|refine mI ?_|refine fI ?_|refine jw ?_|refine lR ?_|refine mn ?_|refine k7 ?_|refine mS ?_|refine lq ?_|refine ny ?_|refine ni ?_|refine iY ?_|refine wt_b ?_|refine me ?_|refine nH ?_|refine lL ?_|refine i3 ?_|refine lF ?_|refine l6 ?_|refine k5 ?_|refine lM ?_|refine we_chain ?_|refine jK ?_|refine bI ?_|refine bR ?_|refine br ?_|refine im ?_|refine fY ?_|refine ic ?_|refine fz ?_|refine lv ?_|refine lI ?_|refine ws_cont ?_|refine jt ?_|refine mw ?_|refine mf ?_|refine mV ?_|refine we_bm0 ?_|refine kP ?_|refine kB ?_|refine jL ?_|refine kL ?_|refine nq ?_|refine kQ ?_|refine hV ?_|refine ia ?_|refine mQ ?_|refine kS ?_|refine kD ?_|refine pB ?_|refine m3 ?_|refine jx ?_|refine jf ?_|refine nt ?_|refine lN ?_|refine kK ?_|refine mD ?_|refine mE ?_|refine mW ?_|refine kG ?_|refine lJ ?_|refine l_II ?_|refine l_IB ?_|refine l_U ?_|refine my ?_|refine m4 ?_|refine lO ?_|refine ly ?_|refine l_eqB ?_|refine kA ?_|refine i5 ?_|refine mC ?_|refine lC ?_|refine mK ?_|refine jG ?_|refine jH ?_|refine jz ?_|refine iteF ?_|refine iteT ?_) | ((with_reducible refine' nM ?e ?_); (case e => exact rfl)) | ((with_reducible refine' cM ?e ?_); (case e => first | exact rfl | exact at_0 | exact at_1 | exact at_2)) | ((with_reducible refine' qO ?e ?_); (case e => exact rfl)) | with_reducible (first|refine l_lenT ?_|refine pS ?_) | ((with_reducible refine' pG ?e ?_); (case e => exact rfl)) | ((with_reducible refine' p7 ?e ?_); (case e => exact rfl))))
local macro_rules | `(tactic| ext) => `(tactic| (repeat walk_at"w1z"))
section
namespace My
open PySem L2
def top (i:Nat):Stmt:=PySem.Challenge.pw_midlanes_k51_holds_come_first.main.body.getD i (.Pass ⟨0,0,0,0⟩)
abbrev kt:Stmt:=top 1
abbrev kJ:Stmt:=top 2
abbrev lW:Stmt:=top 3
abbrev mT:Stmt:=top 4
abbrev l8:Stmt:=top 5
abbrev mi:Stmt:=top 6
abbrev m7:Stmt:=top 7
abbrev l5:Stmt:=top 8
abbrev kH:Stmt:=top 9
abbrev kM:Stmt:=top 10
abbrev lf:Stmt:=top 13
abbrev mx:Stmt:=top 14
abbrev ng:Stmt:=top 17
abbrev nP:Stmt:=top 18
abbrev lE:Stmt:=top 19
abbrev mj:Stmt:=top 20
abbrev kZ:Stmt:=top 21
abbrev mh:Stmt:=top 22
abbrev lp:Stmt:=top 23
abbrev k3:Stmt:=top 26
abbrev ky:Stmt:=top 27
abbrev lY:Stmt:=top 31
abbrev nw:Stmt:=top 33
abbrev mO:Stmt:=top 34
abbrev lD:Stmt:=top 35
abbrev mP:Stmt:=top 36
abbrev k9:Stmt:=top 37
abbrev kC:Stmt:=top 38
abbrev kF:Stmt:=top 39
abbrev mr:Stmt:=top 40
abbrev mJ:Stmt:=top 42
abbrev kU:Stmt:=top 43
abbrev lw:Stmt:=top 44
abbrev lP:Stmt:=top 45
abbrev mB:Stmt:=top 46
abbrev nv:Stmt:=top 47
abbrev lr:Stmt:=top 48
abbrev lg:Stmt:=top 49
abbrev nF:Stmt:=top 50
abbrev mG:Stmt:=top 51
abbrev li:Stmt:=top 52
abbrev k8:Stmt:=top 53
abbrev lx:Stmt:=top 54
abbrev lV:Stmt:=top 55
abbrev mm:Stmt:=top 56
abbrev kE:Stmt:=top 57
abbrev kT:Stmt:=top 58
abbrev lA:Stmt:=top 59
abbrev mY:Stmt:=eX (top 32) 0
abbrev lG:Stmt:=eX (top 32) 1
abbrev nE:Stmt:=eX (top 32) 2
abbrev mL:Stmt:=eX (top 32) 3
abbrev lX:Stmt:=eX (top 32) 4
abbrev mM:Stmt:=eX (top 32) 5
abbrev lZ:Stmt:=eX (top 32) 6
abbrev mN:Stmt:=eX (top 32) 7
abbrev mH:Stmt:=eX (top 32) 8
abbrev nh:Stmt:=eX (top 32) 9
section
open PySem.W PyProof.Rows
abbrev LN0:String:="law_midlanes_k51_holds_come_first"
def KK (P:Params):Frag:=[
(3,oD #[xe P "__name__" 165 (xs LN0 591),xe P "__doc__" 166 (.none),xe P "__package__" 167 (.none),xe P "__loader__" 168 (.builtin "__main__.__loader__#opaque"),xe P "__spec__" 169 (.none),xf P "__annotations__" 170 6,xf P "__builtins__" 171 4,xe P "__file__" 173 (xs "/claim/cut.py" 172),xe P "__cached__" 174 (.none),xf P "plain" 195 21,xf P "of_word" 202 28,xf P "plus" 210 35,xf P "less" 218 42,xf P "times" 227 49,xf P "put_in" 239 56,xf P "is_plain" 246 63,xf P "joined" 256 70,xf P "gather" 267 77,xf P "with_numbers" 273 82,xf P "RECKONINGS" 281 83,xf P "row_of" 289 90,xf P "goes_to_row" 297 97,xe P "MOST_SIGN_FRAMES" 301 (xi (4) 300),xf P "silent" 312 104,xf P "reckoned" 320 111,xf P "with_box" 330 118,xf P "at_row" 339 125,xf P "tested" 348 132,xf P "called" 354 137,xf P "filled" 360 142,xe P "MOST_EDGE_ROWS" 364 (xi (200) 363),xf P "own_words" 370 147,xf P "starts_of" 383 154,xe P "MOST_BITS" 387 (xi (300) 386),xf P "ROW_DEEDS" 400 155,xf P "made" 406 160,xf P "Making" 527 238,xf P "places_of" 533 247,xf P "is_great" 539 252,xf P "is_great_form" 545 257,xf P "loosened" 561 264,xf P "words_of" 567 269,xf P "is_case" 573 274,xf P "moves_into" 579 279,xf P "box_pairs" 590 286,xf P "_law_bag" 598 291,xf P "_law_draw" 607 298,xf P "_law_number" 614 305,xf P "_law_row" 620 310,xf P "_law_def" 626 315,xf P "_law_program" 632 320,xf P "_law_sum" 638 325,xf P "_law_put" 649 332,xf P "_law_words" 655 337,xf P "_law_under" 661 342,xf P "_law_place" 667 347,xf P "_law_edges" 673 352,xf P "_law_held" 679 357,xf P "_law_falls" 685 362,xf P "_law_changed" 691 367,xf P "_law_asked" 697 372,xf P "_law_apart" 703 377,xf P "law" 709 382] 63),
(20,oC #[xs "plain" 189,xs "plain" 190,xs "/claim/cut.py" 191,xi (2) 0,xi (1) 0,xi (0) 0,xi (0) 0,xi (3) 0,xr 15,.bool true,xi (181) 0,xr 16,.none,xr 17,xr 18,xr 19,xi (193) 0,xi (2) 0,xs "/claim/cut.py" 194]),
(21,oG "plain" kt "midlanes.forms" 187 20),
(27,oC #[xs "of_word" 196,xs "of_word" 197,xs "/claim/cut.py" 198,xi (4) 0,xi (1) 0,xi (0) 0,xi (0) 0,xi (3) 0,xr 22,.bool true,xi (181) 0,xr 23,.none,xr 24,xr 25,xr 26,xi (200) 0,xi (4) 0,xs "/claim/cut.py" 201]),
(28,oG "of_word" kJ "midlanes.forms" 187 27),
(34,oC #[xs "plus" 203,xs "plus" 204,xs "/claim/cut.py" 205,xi (6) 0,xi (2) 0,xi (0) 0,xi (0) 0,xi (3) 0,xr 29,.bool true,xi (181) 0,xr 30,.none,xr 31,xr 32,xr 33,xi (208) 0,xi (6) 0,xs "/claim/cut.py" 209]),
(35,oG "plus" lW "midlanes.forms" 187 34),
(41,oC #[xs "less" 211,xs "less" 212,xs "/claim/cut.py" 213,xi (8) 0,xi (2) 0,xi (0) 0,xi (0) 0,xi (3) 0,xr 36,.bool true,xi (181) 0,xr 37,.none,xr 38,xr 39,xr 40,xi (216) 0,xi (8) 0,xs "/claim/cut.py" 217]),
(42,oG "less" mT "midlanes.forms" 187 41),
(48,oC #[xs "times" 219,xs "times" 220,xs "/claim/cut.py" 221,xi (10) 0,xi (2) 0,xi (0) 0,xi (0) 0,xi (3) 0,xr 43,.bool true,xi (181) 0,xr 44,.none,xr 45,xr 46,xr 47,xi (225) 0,xi (10) 0,xs "/claim/cut.py" 226]),
(49,oG "times" l8 "midlanes.forms" 187 48),
(55,oC #[xs "put_in" 228,xs "put_in" 229,xs "/claim/cut.py" 230,xi (14) 0,xi (2) 0,xi (0) 0,xi (0) 0,xi (3) 0,xr 50,.bool true,xi (181) 0,xr 51,.none,xr 52,xr 53,xr 54,xi (237) 0,xi (14) 0,xs "/claim/cut.py" 238]),
(56,oG "put_in" mi "midlanes.forms" 187 55),
(62,oC #[xs "is_plain" 240,xs "is_plain" 241,xs "/claim/cut.py" 242,xi (21) 0,xi (1) 0,xi (0) 0,xi (0) 0,xi (3) 0,xr 57,.bool true,xi (181) 0,xr 58,.none,xr 59,xr 60,xr 61,xi (244) 0,xi (21) 0,xs "/claim/cut.py" 245]),
(63,oG "is_plain" m7 "midlanes.forms" 187 62),
(69,oC #[xs "joined" 247,xs "joined" 248,xs "/claim/cut.py" 249,xi (23) 0,xi (3) 0,xi (0) 0,xi (0) 0,xi (3) 0,xr 64,.bool true,xi (181) 0,xr 65,.none,xr 66,xr 67,xr 68,xi (254) 0,xi (23) 0,xs "/claim/cut.py" 255]),
(70,oG "joined" l5 "midlanes.forms" 187 69),
(76,oC #[xs "gather" 257,xs "gather" 258,xs "/claim/cut.py" 259,xi (28) 0,xi (3) 0,xi (0) 0,xi (0) 0,xi (3) 0,xr 71,.bool true,xi (181) 0,xr 72,.none,xr 73,xr 74,xr 75,xi (265) 0,xi (28) 0,xs "/claim/cut.py" 266]),
(77,oG "gather" kH "midlanes.forms" 187 76),
(81,oK "with_numbers" 268 31 2 78),
(82,oG "with_numbers" kM "midlanes.forms" 187 81),
(83,oT #[xs "put" 276,xs "copy" 277,xs "plus" 278,xs "less" 279,xs "times" 280]),
(89,oC #[xs "row_of" 282,xs "row_of" 283,xs "/claim/cut.py" 284,xi (35) 0,xi (2) 0,xi (0) 0,xi (0) 0,xi (3) 0,xr 84,.bool true,xi (181) 0,xr 85,.none,xr 86,xr 87,xr 88,xi (287) 0,xi (35) 0,xs "/claim/cut.py" 288]),
(90,oG "row_of" lf "midlanes.rows" 274 89),
(96,oC #[xs "goes_to_row" 290,xs "goes_to_row" 291,xs "/claim/cut.py" 292,xi (37) 0,xi (2) 0,xi (0) 0,xi (0) 0,xi (3) 0,xr 91,.bool true,xi (181) 0,xr 92,.none,xr 93,xr 94,xr 95,xi (295) 0,xi (37) 0,xs "/claim/cut.py" 296]),
(97,oG "goes_to_row" mx "midlanes.rows" 274 96),
(103,oC #[xs "silent" 302,xs "silent" 303,xs "/claim/cut.py" 304,xi (41) 0,xi (2) 0,xi (0) 0,xi (0) 0,xi (3) 0,xr 98,.bool true,xi (181) 0,xr 99,.none,xr 100,xr 101,xr 102,xi (310) 0,xi (41) 0,xs "/claim/cut.py" 311]),
(104,oG "silent" ng "midlanes.papers" 298 103),
(110,oC #[xs "reckoned" 313,xs "reckoned" 314,xs "/claim/cut.py" 315,xi (56) 0,xi (2) 0,xi (0) 0,xi (0) 0,xi (3) 0,xr 105,.bool true,xi (181) 0,xr 106,.none,xr 107,xr 108,xr 109,xi (318) 0,xi (56) 0,xs "/claim/cut.py" 319]),
(111,oG "reckoned" nP "midlanes.papers" 298 110),
(117,oC #[xs "with_box" 321,xs "with_box" 322,xs "/claim/cut.py" 323,xi (66) 0,xi (3) 0,xi (0) 0,xi (0) 0,xi (3) 0,xr 112,.bool true,xi (181) 0,xr 113,.none,xr 114,xr 115,xr 116,xi (328) 0,xi (66) 0,xs "/claim/cut.py" 329]),
(118,oG "with_box" lE "midlanes.papers" 298 117),
(124,oC #[xs "at_row" 331,xs "at_row" 332,xs "/claim/cut.py" 333,xi (69) 0,xi (2) 0,xi (0) 0,xi (0) 0,xi (3) 0,xr 119,.bool true,xi (181) 0,xr 120,.none,xr 121,xr 122,xr 123,xi (337) 0,xi (69) 0,xs "/claim/cut.py" 338]),
(125,oG "at_row" mj "midlanes.papers" 298 124),
(131,oC #[xs "tested" 340,xs "tested" 341,xs "/claim/cut.py" 342,xi (72) 0,xi (2) 0,xi (0) 0,xi (0) 0,xi (3) 0,xr 126,.bool true,xi (181) 0,xr 127,.none,xr 128,xr 129,xr 130,xi (346) 0,xi (72) 0,xs "/claim/cut.py" 347]),
(132,oG "tested" kZ "midlanes.papers" 298 131),
(136,oK "called" 349 75 3 133),
(137,oG "called" mh "midlanes.papers" 298 136),
(141,oK "filled" 355 79 2 138),
(142,oG "filled" lp "midlanes.papers" 298 141),
(146,oK "own_words" 365 83 1 143),
(147,oG "own_words" k3 "midlanes.judge" 361 146),
(153,oC #[xs "starts_of" 371,xs "starts_of" 372,xs "/claim/cut.py" 373,xi (91) 0,xi (3) 0,xi (0) 0,xi (0) 0,xi (3) 0,xr 148,.bool true,xi (181) 0,xr 149,.none,xr 150,xr 151,xr 152,xi (381) 0,xi (91) 0,xs "/claim/cut.py" 382]),
(154,oG "starts_of" ky "midlanes.judge" 361 153),
(155,oD #[xe P "zero" 388 (xs "test" 389),xe P "below" 390 (xs "test" 391),xe P "tell" 392 (xs "tell" 393),xe P "take" 394 (xs "take" 395)] 4),
(159,oK "made" 401 106 5 156),
(160,oG "made" lY "midlanes.maker" 384 159),
(173,oC #[xs "__init__" 419,xs "Making.__init__" 420,xs "/claim/cut.py" 421,xi (117) 0,xi (3) 0,xi (0) 0,xi (0) 0,xi (3) 0,xr 168,.bool true,xi (181) 0,xr 169,.none,xr 170,xr 171,xr 172,xi (425) 0,xi (117) 0,xs "/claim/cut.py" 426]),
(174,oF "__init__" "Making.__init__" mY "midlanes.maker" 384 173),
(180,oC #[xs "add_hold" 428,xs "Making.add_hold" 429,xs "/claim/cut.py" 430,xi (124) 0,xi (4) 0,xi (0) 0,xi (0) 0,xi (3) 0,xr 175,.bool true,xi (181) 0,xr 176,.none,xr 177,xr 178,xr 179,xi (437) 0,xi (124) 0,xs "/claim/cut.py" 438]),
(181,oF "add_hold" "Making.add_hold" lG "midlanes.maker" 384 180),
(187,oC #[xs "add_stand" 440,xs "Making.add_stand" 441,xs "/claim/cut.py" 442,xi (129) 0,xi (2) 0,xi (0) 0,xi (0) 0,xi (3) 0,xr 182,.bool true,xi (181) 0,xr 183,.none,xr 184,xr 185,xr 186,xi (448) 0,xi (129) 0,xs "/claim/cut.py" 449]),
(188,oF "add_stand" "Making.add_stand" nE "midlanes.maker" 384 187),
(194,oC #[xs "deed_word" 451,xs "Making.deed_word" 452,xs "/claim/cut.py" 453,xi (137) 0,xi (2) 0,xi (0) 0,xi (0) 0,xi (3) 0,xr 189,.bool true,xi (181) 0,xr 190,.none,xr 191,xr 192,xr 193,xi (457) 0,xi (137) 0,xs "/claim/cut.py" 458]),
(195,oF "deed_word" "Making.deed_word" mL "midlanes.maker" 384 194),
(201,oC #[xs "add_edges" 460,xs "Making.add_edges" 461,xs "/claim/cut.py" 462,xi (146) 0,xi (1) 0,xi (0) 0,xi (0) 0,xi (3) 0,xr 196,.bool true,xi (181) 0,xr 197,.none,xr 198,xr 199,xr 200,xi (466) 0,xi (146) 0,xs "/claim/cut.py" 467]),
(202,oF "add_edges" "Making.add_edges" lX "midlanes.maker" 384 201),
(206,oC #[xs "edges_from" 469,xs "Making.edges_from" 470,xs "/claim/cut.py" 471,xi (153) 0,xi (2) 0,xi (0) 0,xi (0) 0,xi (3) 0,xr 203,.bool true,xi (181) 0,xr 204,.none,.none,.none,xr 205,xi (472) 0,xi (153) 0,xs "/claim/cut.py" 473]),
(207,oF "edges_from" "Making.edges_from" mM "midlanes.maker" 384 206),
(213,oC #[xs "edge_from" 475,xs "Making.edge_from" 476,xs "/claim/cut.py" 477,xi (163) 0,xi (3) 0,xi (0) 0,xi (0) 0,xi (3) 0,xr 208,.bool true,xi (181) 0,xr 209,.none,xr 210,xr 211,xr 212,xi (484) 0,xi (163) 0,xs "/claim/cut.py" 485]),
(214,oF "edge_from" "Making.edge_from" lZ "midlanes.maker" 384 213),
(220,oC #[xs "edge_to" 487,xs "Making.edge_to" 488,xs "/claim/cut.py" 489,xi (175) 0,xi (4) 0,xi (0) 0,xi (0) 0,xi (3) 0,xr 215,.bool true,xi (181) 0,xr 216,.none,xr 217,xr 218,xr 219,xi (494) 0,xi (175) 0,xs "/claim/cut.py" 495]),
(221,oF "edge_to" "Making.edge_to" mN "midlanes.maker" 384 220),
(227,oC #[xs "goes_on_at" 497,xs "Making.goes_on_at" 498,xs "/claim/cut.py" 499,xi (178) 0,xi (2) 0,xi (0) 0,xi (0) 0,xi (3) 0,xr 222,.bool true,xi (181) 0,xr 223,.none,xr 224,xr 225,xr 226,xi (503) 0,xi (178) 0,xs "/claim/cut.py" 504]),
(228,oF "goes_on_at" "Making.goes_on_at" mH "midlanes.maker" 384 227),
(234,oC #[xs "stand_for" 506,xs "Making.stand_for" 507,xs "/claim/cut.py" 508,xi (182) 0,xi (2) 0,xi (0) 0,xi (0) 0,xi (3) 0,xr 229,.bool true,xi (181) 0,xr 230,.none,xr 231,xr 232,xr 233,xi (512) 0,xi (182) 0,xs "/claim/cut.py" 513]),
(235,oF "stand_for" "Making.stand_for" nh "midlanes.maker" 384 234),
(236,oT #[xs "going" 515,xs "lane" 516,xs "most" 517,xs "places" 518,xs "program" 519]),
(237,oD #[xe P "__module__" 414 (xs "midlanes.maker" 384),xe P "__firstlineno__" 418 (xi (115) 417),xf P "__init__" 427 174,xf P "add_hold" 439 181,xf P "add_stand" 450 188,xf P "deed_word" 459 195,xf P "add_edges" 468 202,xf P "edges_from" 474 207,xf P "edge_from" 486 214,xf P "edge_to" 496 221,xf P "goes_on_at" 505 228,xf P "stand_for" 514 235,xf P "__static_attributes__" 520 236,xf P "__dict__" 522 239,xf P "__weakref__" 524 240,xe P "__doc__" 525 (.none)] 4),
(238,⟨.type "type",none,.cls { name:=Str.ofString "Making",bases:=[.type "object"],mro:=[xr 238,.type "object"],ns:=237,qualname:=Str.ofString "Making",hasDict:=true,subclasses:=[],abstract:=false,hasDel:=false },#[none,none,some (xs "Making" 407),some (xs "Making" 415),some (.builtin "object.__new__"),some (.bool true)]⟩),
(246,oK "places_of" 528 187 1 243),
(247,oG "places_of" nw "midlanes.maker" 384 246),
(251,oK "is_great" 534 189 1 248),
(252,oG "is_great" mO "midlanes.maker" 384 251),
(256,oK "is_great_form" 540 191 1 253),
(257,oG "is_great_form" lD "midlanes.maker" 384 256),
(263,oC #[xs "loosened" 546,xs "loosened" 547,xs "/claim/cut.py" 548,xi (194) 0,xi (2) 0,xi (0) 0,xi (0) 0,xi (3) 0,xr 258,.bool true,xi (181) 0,xr 259,.none,xr 260,xr 261,xr 262,xi (559) 0,xi (194) 0,xs "/claim/cut.py" 560]),
(264,oG "loosened" mP "midlanes.maker" 384 263),
(268,oK "words_of" 562 205 1 265),
(269,oG "words_of" k9 "midlanes.maker" 384 268),
(273,oK "is_case" 568 207 2 270),
(274,oG "is_case" kC "midlanes.maker" 384 273),
(278,oK "moves_into" 574 209 2 275),
(279,oG "moves_into" kF "midlanes.maker" 384 278),
(285,oC #[xs "box_pairs" 580,xs "box_pairs" 581,xs "/claim/cut.py" 582,xi (211) 0,xi (2) 0,xi (0) 0,xi (0) 0,xi (3) 0,xr 280,.bool true,xi (181) 0,xr 281,.none,xr 282,xr 283,xr 284,xi (588) 0,xi (211) 0,xs "/claim/cut.py" 589]),
(286,oG "box_pairs" mr "midlanes.maker" 384 285),
(290,oK "_law_bag" 593 217 1 287),
(291,oG "_law_bag" mJ LN0 591 290),
(297,oC #[xs "_law_draw" 599,xs "_law_draw" 600,xs "/claim/cut.py" 601,xi (222) 0,xi (2) 0,xi (0) 0,xi (0) 0,xi (3) 0,xr 292,.bool true,xi (181) 0,xr 293,.none,xr 294,xr 295,xr 296,xi (605) 0,xi (222) 0,xs "/claim/cut.py" 606]),
(298,oG "_law_draw" kU LN0 591 297),
(304,oC #[xs "_law_number" 608,xs "_law_number" 609,xs "/claim/cut.py" 610,xi (233) 0,xi (1) 0,xi (0) 0,xi (0) 0,xi (3) 0,xr 299,.bool true,xi (181) 0,xr 300,.none,xr 301,xr 302,xr 303,xi (612) 0,xi (233) 0,xs "/claim/cut.py" 613]),
(305,oG "_law_number" lw LN0 591 304),
(309,oK "_law_row" 615 237 4 306),
(310,oG "_law_row" lP LN0 591 309),
(314,oK "_law_def" 621 253 3 311),
(315,oG "_law_def" mB LN0 591 314),
(319,oK "_law_program" 627 268 1 316),
(320,oG "_law_program" nv LN0 591 319),
(324,oK "_law_sum" 633 274 3 321),
(325,oG "_law_sum" lr LN0 591 324),
(331,oC #[xs "_law_put" 639,xs "_law_put" 640,xs "/claim/cut.py" 641,xi (281) 0,xi (2) 0,xi (0) 0,xi (0) 0,xi (3) 0,xr 326,.bool true,xi (181) 0,xr 327,.none,xr 328,xr 329,xr 330,xi (647) 0,xi (281) 0,xs "/claim/cut.py" 648]),
(332,oG "_law_put" lg LN0 591 331),
(336,oK "_law_words" 650 286 1 333),
(337,oG "_law_words" nF LN0 591 336),
(341,oK "_law_under" 656 288 2 338),
(342,oG "_law_under" mG LN0 591 341),
(346,oK "_law_place" 662 290 2 343),
(347,oG "_law_place" li LN0 591 346),
(351,oK "_law_edges" 668 300 1 348),
(352,oG "_law_edges" k8 LN0 591 351),
(356,oK "_law_held" 674 302 2 353),
(357,oG "_law_held" lx LN0 591 356),
(361,oK "_law_falls" 680 311 3 358),
(362,oG "_law_falls" lV LN0 591 361),
(366,oK "_law_changed" 686 324 3 363),
(367,oG "_law_changed" mm LN0 591 366),
(371,oK "_law_asked" 692 332 3 368),
(372,oG "_law_asked" kE LN0 591 371),
(376,oK "_law_apart" 698 342 2 373),
(377,oG "_law_apart" kT LN0 591 376),
(381,oK "law" 704 361 1 378),
(382,oG "law" lA LN0 591 381)]
def AA:List Addr:=[3,20,21,27,28,34,35,41,42,48,49,55,56,62,63,69,70,76,77,81,82,83,89,90,96,97,103,104,110,111,117,118,124,125,131,132,136,137,141,142,146,147,153,154,155,159,160,173,174,180,181,187,188,194,195,201,202,206,207,213,214,220,221,227,228,234,235,236,237,238,246,247,251,252,256,257,263,264,268,269,273,274,278,279,285,286,290,291,297,298,304,305,309,310,314,315,319,320,324,325,331,332,336,337,341,342,346,347,351,352,356,357,361,362,366,367,371,372,376,377,381,382]
theorem AK:∀ P,AA=(KK P).map (·.1):=fun j=>by kernel_rfl
abbrev HH:Hook:=kHook KK AA AK
def QQ:Program:=view PySem.Challenge.pw_midlanes_k51_holds_come_first [1,2,3,4,5,6,7,8,9,10,12,13,14,16,17,18,19,20,21,22,23,25,26,27,29,30,31,32,33,34,35,36,37,38,39,40,42,43,44,45,46,47,48,49,50,51,52,53,54,55,56,57,58,59]
abbrev XX:Shared->Bool:=fun s=>xlAt QQ [] s && recOk PySem.Challenge.rw_midlanes_k51_holds_come_first.row.records s
theorem L0:LB "special-get-raises" false PySem.Challenge.pw_midlanes_k51_holds_come_first QQ ["ROW_DEEDS"] XX HH.obs HH.val 4252:=fun w os=>by kernel_rfl
theorem L1:LB "special-get-raises" true PySem.Challenge.pw_midlanes_k51_holds_come_first QQ ["ROW_DEEDS"] XX HH.obs HH.val 4252:=fun w os=>by kernel_rfl
theorem SD:OpenLaw.wellSaid PySem.Challenge.rw_midlanes_k51_holds_come_first=true:=by
 rw[Fast.te9446332074065402090]
 kernel_rfl
end
structure Blt (mg:Str->Option Value):Prop where
 b_abs:mg "abs"=none
 b_all:mg "all"=none
 b_any:mg "any"=none
 b_bool:mg "bool"=none
 b_dict:mg "dict"=none
 b_enumerate:mg "enumerate"=none
 b_int:mg "int"=none
 b_isinstance:mg "isinstance"=none
 b_len:mg "len"=none
 b_list:mg "list"=none
 b_min:mg "min"=none
 b_range:mg "range"=none
 b_sorted:mg "sorted"=none
 b_sum:mg "sum"=none
 b_tuple:mg "tuple"=none
 b_zip:mg "zip"=none
structure Glb (K:W.Frag) (w:World) (mg:Str->Option Value):Prop where
 c_MOST_BITS:∃ t,mg "MOST_BITS"=some (.int 300 t)
 c_MOST_EDGE_ROWS:∃ t,mg "MOST_EDGE_ROWS"=some (.int 200 t)
 c_MOST_SIGN_FRAMES:∃ t,mg "MOST_SIGN_FRAMES"=some (.int 4 t)
 c_RECKONINGS:IsCT K mg "RECKONINGS" [V.str "put",V.str "copy",V.str "plus",V.str "less",V.str "times"]
 c_ROW_DEEDS:IsCS K w mg "ROW_DEEDS" rowDeedsT
structure CMaking (K:W.Frag) (C:Addr):Prop where
 cl:Cls K C
 n_program:NoAttr K C "program"
 n_most:NoAttr K C "most"
 n_lane:NoAttr K C "lane"
 n_places:NoAttr K C "places"
 n_going:NoAttr K C "going"
section
variable {P:Program} {w:World} {K:W.Frag} {mg:Str->Option Value} {base:Heap}
theorem sc__law_draw:FnScope ["bag","many","found"] ["bag","many"] (ap kU):=by walk_at"fs"
theorem Zir (B:Blt mg) (T__law_draw:TopFn K mg "_law_draw" kU ["bag","many"]):Callee P w K mg base "_law_draw" 1 ["bag","many"] eY:=by
 refine T__law_draw.ok2 sc__law_draw fun f cdv A outer s H v1 v2 Q E hr h=>?_
 have nd:=sc__law_draw.nd
 obtain ⟨b,l,n,rfl,rfl,⟨hn,hn2⟩,Bg,k⟩:=h
 obtain ⟨xs,i,m,st,c,hb,hl,hi,⟨hm0,hm1⟩,⟨hs0,hs1⟩,hxs,hlen⟩:=Bg.ex
 have nbl:l≠b:=ne_of hl hb (by
  intro z
  injection z with z
  cases xs <;> simp[bagL] at z)
 have hl2:∀ o,upd H b o l=some (.lst (xs.map V.int)):=fun o=>by rw[aP nbl];exact hl
 refine' nj [some (.ref b),some (.int n),none] rfl ?hb ?hg
 case hb=>exact (af (a8 (PW.pt (ft (aB bf (xa K (pv 0) aa) aa (az _)) (fk (aB ju (xa K (pv 0) aa) (aZ (bt (K:=K) rfl) (by rfl) B.b_len bu (aI (xa K (pv 0) aa) ae)) (az _))))) (af (cr (xa K (xa K (pv 0) aa) (xa K (pv 0) aa)) (cV (pv 0) aa cT)) (ak (cr (av bm (xa K (pv 0) aa) aa) (cV (pv 0) aa cT)))) (ak (a8 (aB bf (xa K (pv 0) aa) aa (az _)) (af (cr (av bm (xa K (pv 0) aa) aa) (cV (pv 0) aa cT)) (af (cr (av gk (av bm (av bm (av bm (av qG (xa K (pv 0) aa) aa) (av qC aa (xa K (pv 0) aa))) (av qC aa (xa K (pv 0) aa))) aa) aa) (cV (pv 0) aa cT)) (ak (au (av gk (av uJ (xa K (pv 0) aa) aa) (pv 1)))))) ba))) (af (d9 (i:=2) nd rfl (Or.inl rfl) (av gk (xa K (pv 0) aa) (pv 1))) (af (cr (av uJ (xa K (pv 0) aa) (pv 1)) (cV (pv 0) aa cT)) (ak (au (pv 2))))))
 have fin:∀ (j:Nat) (m':Int),j<=xs.length->0<=m'->m'<=10 ^ 60->∀ H1,BSame b H H1->H1 b=some (.lst (bagL l j m' st c))->H1 l=some (.lst (xs.map V.int)) ->
   Q (.int (m' % n)) (upd H1 b (.lst (bagL l j (m' / n) st c))):=by
  intro j m' hj h0 h1 H1 bs hb1 hl1
  have hd0:0<=m' / n:=Int.ediv_nonneg h0 (Int.le_of_lt hn)
  have hd1:m' / n<=m':=Int.ediv_le_self _ h0
  refine k _ _ (kl _ (by lia)) (km _ hn) ⟨xs,j,m' / n,st,c,bh,by rw[aP nbl];exact hl1,hj,⟨hd0,by lia⟩,⟨hs0,hs1⟩,hxs,hlen⟩ (bs.trans BSame.wr)
 have tail:∀ (j:Nat) (m':Int) (σ2:St),σ2=[some (.ref b),some (.int n),none]->j<=xs.length->0<=m'->m'<=10 ^ 60->∀ H1,BSame b H H1->H1 b=some (.lst (bagL l j m' st c))->H1 l=some (.lst (xs.map V.int)) ->
   tSeq (tAsg (tOp (rI (fun y j=>0 < j) fun i j=>.int (i % j)) (tOp (rIxA K) (tVar 0) (tC (.int 2))) (tVar 1)) (dg 2))
    (tSeq (tAsg (tOp (rI qy fun i j=>.int (i / j)) (tOp (rIxA K) (tVar 0) (tC (.int 2))) (tVar 1)) (gSub (tVar 0) (tC (.int 2)) jv)) (tRet (tVar 2))) { nx:=fun y H'=>Q .non H',rt:=Q } σ2 H1:=by
  intro j m' σ2 e hj h0 h1 H1 bs hb1 hl1
  subst e
  walk_at"rd"
  refine cC (v:=.int m') hb1 rfl ?_
  walk_at"rd"
  refine rd_I hn ?_
  walk_at"rd"
  refine cC (v:=.int m') hb1 rfl ?_
  walk_at"rd"
  refine rd_I (uP hn (by lia)) ?_
  walk_at"rd"
  refine iZ (k:=2) hb1 rfl ?_
  walk_at"rd"
  exact fin j m' hj h0 h1 H1 bs hb1 hl1
 walk_at"rd"
 refine cC (v:=.int m) hb rfl ?_
 walk_at"rd"
 refine gj (fun hm=>?_) (fun hm=>?_)
 .walk_at"rd"
  refine cC (v:=.int i) hb rfl ?_
  walk_at"rd"
  refine cC (v:=.ref l) hb rfl ?_
  walk_at"rd"
  refine vj (SqL.of hl) ?_
  walk_at"rd"
  rw[ai]
  refine gj (fun hi2=>?_) (fun hi2=>?_)
  .walk_at"rd"
   refine cC (v:=.ref l) hb rfl ?_
   walk_at"rd"
   refine cC (v:=.int i) hb rfl ?_
   walk_at"rd"
   have hil:i < xs.length:=by lia
   have hxi:=hxs _ (iQ hil)
   refine cC (v:=.int xs[i]) hl (bw (n:=i) rfl (by rw[aj,ax hil];rfl)) ?_
   walk_at"rd"
   refine iZ (k:=2) hb rfl ?_
   walk_at"rd"
   refine cC (v:=.int i) bh rfl ?_
   walk_at"rd"
   refine iZ (k:=1) bh rfl ?_
   exact tail (i+1) xs[i] _ rfl (by lia) hxi.1 hxi.2 _ (BSame.wr.trans BSame.wr) bh (by rw[aP nbl];exact hl2 _)
  .walk_at"rd"
   refine cC (v:=.int m) hb rfl ?_
   walk_at"rd"
   refine vJ hm ?_
   walk_at"rd"
   refine cC (v:=.int c) hb rfl ?_
   walk_at"rd"
   refine iZ (k:=4) hb rfl ?_
   walk_at"rd"
   refine cC (v:=.int st) bh rfl ?_
   walk_at"rd"
   refine rd_I ⟨by decide,by decide,by lia⟩ ?_
   walk_at"rd"
   refine cC (v:=.int st) bh rfl ?_
   walk_at"rd"
   refine rd_I (.inl ⟨by decide,by decide⟩) ?_
   walk_at"rd"
   refine cC (v:=.int (c+1)) bh rfl ?_
   walk_at"rd"
   refine rd_I (.inl ⟨by decide,by decide⟩) ?_
   walk_at"rd"
   refine rd_I (by decide) ?_
   walk_at"rd"
   refine iZ (k:=3) bh rfl ?_
   walk_at"rd"
   generalize hst:(st ^ (3:Int).toNat+48271 * st+1013 * (c+1)+1) % 2147483647=st'
   have h0:0<=st':=by rw[<-hst];exact kl _ (by decide)
   have h1:st' < 2147483647:=by rw[<-hst];exact km _ (by decide)
   refine cC (v:=.int st') bh rfl ?_
   walk_at"rd"
   refine rd_I (uP (by decide) (by decide +kernel)) ?_
   walk_at"rd"
   refine rd_I hn ?_
   refine k _ _ (kl _ (by lia)) (km _ hn) ⟨xs,i,m,st',c+1,bh,by rw[aP nbl];exact hl2 _,hi,⟨hm0,hm1⟩,⟨h0,h1⟩,hxs,hlen⟩ (BSame.wr.trans BSame.wr)
 .walk_at"rd"
  refine cC (v:=.int m) hb rfl ?_
  walk_at"rd"
  refine gI hm ?_
  exact tail i m _ rfl hi hm0 hm1 H (BSame.refl _ _) hb hl
theorem sc__law_number:FnScope ["bag"] ["bag"] (ap lw):=by walk_at"fs"
theorem ZgP (T__law_number:TopFn K mg "_law_number" lw ["bag"]) (Zag:Callee P w K mg base "_law_draw" 1 ["bag","many"] eY):Callee P w K mg base "_law_number" 2 ["bag"] jc:=by
 refine T__law_number.ok1 sc__law_number fun f cdv A outer s H v1 Q E hr h=>?_
 have nd:=sc__law_number.nd
 obtain ⟨b,l,rfl,Bg,k⟩:=h
 refine' nj [some (.ref b)] rfl ?hb ?hg
 case hb=>exact (af (a8 (aB bf (xg Zag hr.m (xb 0 (ao aa ae))) aa (az _)) (ak (au (av dY (av dO (av dY (xg Zag hr.m (xb 0 (ao aa ae))) aa) aa) (xg Zag hr.m (xb 0 (bZ (av qG aa aa) ae)))))) ba) (ak (au (av dO (xg Zag hr.m (xb 0 (ao aa ae))) aa))))
 walk_at"rd"
 refine use2 ⟨b,l,8,rfl,rfl,⟨by decide,by decide⟩,Bg,fun r H1 h0 h1 B1 b1=>?_⟩
 walk_at"rd"
 refine gj (fun j=>?_) (fun j=>?_)
 .walk_at"rd"
  refine use2 ⟨b,l,2,rfl,rfl,⟨by decide,by decide⟩,B1,fun r2 H2 g0 g1 B2 b2=>?_⟩
  walk_at"rd"
  refine rd_I (tJ (by lia) (by decide +kernel)) ?_
  walk_at"rd"
  refine rd_I s9 ?_
  walk_at"rd"
  refine use2 ⟨b,l,_,rfl,rfl,⟨by decide +kernel,by decide +kernel⟩,B2,fun r3 H3 f0 f1 B3 b3=>?_⟩
  rw[ten60] at f1
  refine rd_I (tJ (by lia) (by lia)) ?_
  refine k _ _ ?_ B3 ((b1.trans b2).trans b3)
  rw[kg]
  have e1:(r2 * 2 - 1).natAbs<=1:=by lia
  have e2:r3.natAbs<=10 ^ 60:=by lia
  calc (r2 * 2 - 1).natAbs * r3.natAbs<=1 * 10 ^ 60:=Nat.mul_le_mul e1 e2
   _=10 ^ 60:=by rw[Nat.one_mul]
 .walk_at"rd"
  refine use2 ⟨b,l,9,rfl,rfl,⟨by decide,by decide⟩,B1,fun r2 H2 g0 g1 B2 b2=>?_⟩
  walk_at"rd"
  exact k _ _ (by lia) B2 (b1.trans b2)
theorem sc__law_bag:FnScope ["script","stir","cell"] ["script"] (ap mJ):=by walk_at"fs"
theorem Zj4 (B:Blt mg) (T__law_bag:TopFn K mg "_law_bag" mJ ["script"]):Callee P w K mg base "_law_bag" 1 ["script"] (vc K):=by
 refine T__law_bag.ok1 sc__law_bag fun f cdv A outer s H v1 Q E hr h=>?_
 have nd:=sc__law_bag.nd
 obtain ⟨a,ns,rfl,hS,hlen,k⟩:=h
 refine' nj [some (.ref a),none,none] rfl ?hb ?hg
 case hb=>exact (af (bJ (i:=1) nd rfl (Or.inl rfl) aa) (af (bX PassesOwn.never rfl (bT (K:=K) rfl (fi (k_sl (K:=K) rfl) (pv 0) fH (fE aa))) (xj 2 nd) (ak (d9 (i:=1) nd rfl (Or.inl rfl) (av gk (av bm (av bm (av qC (pv 1) aa) (av gk (pv 2) aa)) aa) aa)))) (ak (au (a9 (cU (xk ["cell"] [] [] (bT (K:=K) rfl (fi (k_sl (K:=K) rfl) (pv 0) fH (fE aa))) (fun j j j j j j=>(av gk (aZ Zl2 (by rfl) B.b_abs bt_abs (xc 0)) (av qG aa aa)))) (ao aa (ao aa (xb 1 (ao aa ae))))))))))
 walk_at"rd"
 refine o8 hS fun p hp=>?_
 obtain ⟨ms,em,hm⟩:=ZlP ns none (some 63)
 rw[em]
 refine vI (SqL.of bh) ?_
 have s0:=Same.new (o:=.lst (ms.map V.int)) hp
 generalize hH0:upd H p (HO.lst (ms.map V.int))=H0 at s0
 have hp0:H0 p=some (.lst (ms.map V.int)):=by rw[<-hH0];exact bh
 refine Znj (xs:=ms.map V.int) (fun i Z H1=>∃ st c2,Z=[some (.ref a),some (.int st),c2]/\H1=H0/\0<=st/\st < 2147483647) ⟨11,none,rfl,rfl,by decide,by decide⟩ (fun i Z H1 _ ⟨_,_,_,e,_⟩=>by rw[e];exact SqL.of hp0) ?_ ?_
 .rintro i x Z H1 hx ⟨st,c2,rfl,rfl,h0,h1⟩
  obtain ⟨z,rfl,j⟩:=ints_get hx
  walk_at"rd"
  refine rd_I (.inr ⟨by decide,by decide⟩) ?_
  walk_at"rd"
  refine rd_I (by decide) ?_
  walk_at"rd"
  refine rd_I (by decide) ?_
  walk_at"rd"
  exact ⟨_,_,rfl,rfl,kl _ (by decide),km _ (by decide)⟩
 .rintro Z H1 ⟨st,c2,rfl,rfl,h0,h1⟩
  walk_at"rd"
  refine o8 (s0.seq hS) fun p2 hp2=>?_
  rw[em]
  refine vI (SqL.of bh) ?_
  have s2:=Same.new (o:=.lst (ms.map V.int)) hp2
  generalize hH2:upd H1 p2 (HO.lst (ms.map V.int))=H2 at s2
  have hp2':H2 p2=some (.lst (ms.map V.int)):=by rw[<-hH2];exact bh
  refine Zpx (xs:=ms.map V.int) (iq (by rw[ai];lia)) (fun i ys Z H3=>(∃ x1,Z=[x1])/\H3=H2/\∃ zs:List Int,ys=zs.map V.int/\∀ z∈zs,0<=z/\z<=10 ^ 60) ⟨⟨none,rfl⟩,rfl,[],rfl,fun j h=>by cases h⟩ (fun i ys Z H3 _ ⟨_,e,_⟩=>by rw[e];exact SqL.of hp2') ?_ ?_
  .rintro i x ys Z H3 hx hle hlt ⟨⟨x1,rfl⟩,rfl,zs,rfl,hz⟩
   obtain ⟨z,rfl,j⟩:=ints_get hx
   walk_at"rd"
   refine rd_I s9 ?_
   refine rd_I (by decide +kernel) ?_
   rw[ten60]
   refine ⟨hlt,by simpa using hle,⟨_,rfl⟩,rfl,zs++[_],by rw[aO];rfl,fun u hu=>?_⟩
   rcases aT.mp hu with hu|hu
   .exact hz u hu
   .obtain rfl:=aN.mp hu
    lia
  .rintro ys Z H3 hyl ⟨⟨x1,rfl⟩,rfl,zs,rfl,hz⟩ l hl
   walk_at"rd"
   walk_at"mk";intro bb hbb
   have sA:=Same.new (o:=.lst (zs.map V.int)) hl
   have sB:=Same.new (o:=.lst [V.ref l,V.int 0,V.int 0,V.int st,V.int 0]) hbb
   have sall:=((s0.trans s2).trans sA).trans sB
   rw[ai,ai] at hyl
   exact k bb l _ (((s0.trans s2).trans sA).free hbb) sall ⟨zs,0,0,st,0,bh,Zon bh hbb,bg _,⟨by decide,by decide⟩,⟨h0,h1⟩,hz,by lia⟩
def i8:Pre:=fun ts G k=>∃ n,ts=[.int n]/\k (fmT (n,[])) G
theorem sc_plain:FnScope ["n"] ["n"] (ap kt):=by walk_at"fs"
theorem ZpC (T_plain:TopFn K mg "plain" kt ["n"]):Callee P w K mg base "plain" 1 ["n"] (spG P w K i8):=by
 refine T_plain.okG sc_plain (by walk_at"lnx") fun f cdv A outer s H E ts G k hr hh=>?_
 have nd:=sc_plain.nd
 obtain ⟨n,rfl,q⟩:=hh
 refine' go_G [some (.int n)] rfl ?hb ?hg
 case hb=>exact (ak (au (aD (xb 0 (be (aD ae) ae)))))
 walk_at"wx"
 exact ar q
def ma:Pre:=fun ts G k=>∃ n,ts=[.int n]/\k (fmT (ofW n)) G
theorem sc_of_word:FnScope ["w"] ["w"] (ap kJ):=by walk_at"fs"
theorem Zl3 (T_of_word:TopFn K mg "of_word" kJ ["w"]):Callee P w K mg base "of_word" 1 ["w"] (spG P w K ma):=by
 refine T_of_word.okG sc_of_word (by walk_at"lnx") fun f cdv A outer s H E ts G k hr hh=>?_
 have nd:=sc_of_word.nd
 obtain ⟨n,rfl,q⟩:=hh
 refine' go_G [some (.int n)] rfl ?hb ?hg
 case hb=>exact (ak (au (aD (ao aa (be (aD (be (aD (ao aa (xc 0))) ae)) ae)))))
 walk_at"wx"
 exact ar q
def h9:Pre:=fun ts G k=>∃ f:Fm,ts=[fmT f]/\k (.bl (decide (f.2=[]))) G
theorem sc_is_plain:FnScope ["form"] ["form"] (ap m7):=by walk_at"fs"
theorem ZjY (B:Blt mg) (T_is_plain:TopFn K mg "is_plain" m7 ["form"]):Callee P w K mg base "is_plain" 1 ["form"] (spG P w K h9):=by
 refine T_is_plain.okG sc_is_plain (by walk_at"lnx") fun f cdv A outer s H E ts G k hr hh=>?_
 have nd:=sc_is_plain.nd
 obtain ⟨f,rfl,q⟩:=hh
 refine' go_G [some (fmT f)] rfl ?hb ?hg
 case hb=>exact (ak (au (db bf (aZ (bt (K:=K) rfl) (by rfl) B.b_len bu (aI (xa K (pv 0) aa) ae)) aa (az _))))
 walk_at"wx"
 refine l_ix sg_t rfl ?_
 walk_at"wx"
 refine dh sg_t ?_
 walk_at"wx"
 have:(decide (((f.2.map prT).length:Int)=0))=decide (f.2=[]):=by rw[ai];cases f.2 <;> simp;lia
 rw[this]
 exact ar q
def lh:Pre:=fun ts G k=>∃ d f n t,ts=[.ptr d,fmT f,.int n]/\G d=some (.tb t)/\t.length+f.2.length<=10000/\(∀ p∈f.2,p.1.natAbs<=10 ^ 1000)/\n.natAbs<=10 ^ 1000/\k .non (gput G d (.tb (aX t f.2 n)))
theorem fq {i j:Int} (h:i.natAbs<=10 ^ 1000) (h2:j.natAbs<=10 ^ 1000):CBig i j:=⟨fe h (by decide +kernel),fe h2 (by decide +kernel)⟩
theorem sc_gather:FnScope ["numbers","form","n","a","w"] ["numbers","form","n"] (ap kH):=by walk_at"fs"
theorem ZnA (B:Blt mg) (T_gather:TopFn K mg "gather" kH ["numbers","form","n"]):Callee P w K mg base "gather" 1 ["numbers","form","n"] (spG P w K lh):=by
 refine T_gather.okG sc_gather (by walk_at"lnx") fun f cdv A outer s H E ts G k hr hh=>?_
 have nd:=sc_gather.nd
 have hu1:=nK hr
 obtain ⟨d,f,n,t,rfl,hd,hl,ha,hn,q⟩:=hh
 refine' go_G [some (.ptr d),some (fmT f),some (.int n),none,none] rfl ?hb ?hg
 case hb=>exact (ak (bX PassesOwn.never rfl (cJ (K:=K) rfl (xa K (pv 1) aa)) (ca (K:=K) (n:=2) rfl rfl (aW (xj 3 nd) (aW (xj 4 nd) ce))) (ak (p6 hu1 (pv 0) (pv 4) (av bm (pp hu1 (pv 0) (pv 4) aa (M2.mk rfl rfl rfl rfl)) (av dY (pv 3) (pv 2))) rfl))))
 walk_at"wx"
 refine l_ix sg_t rfl ?_
 refine ⟨_,rfl,fun i Γ G'=>(∃ x y,Γ=[some (.ptr d),some (fmT f),some (.int n),x,y])/\G'=gput G d (.tb (aX t (f.2.take i) n)),⟨⟨none,none,rfl⟩,(gp_id hd).symm⟩,fun j j j j=>trivial,?_,?_⟩
 .rintro i x Γ G' hx ⟨⟨x1,x2,rfl⟩,rfl⟩
  rw[aj] at hx
  obtain ⟨p,ep,rfl⟩:=aH.mp hx
  refine bW rfl ?_
  walk_at"wx"
  refine ⟨d,_,rfl,gp_s,?_⟩
  walk_at"wx"
  refine ⟨_,_,gp_s,rfl,rfl,?_⟩
  walk_at"wx"
  refine l_IC (fq (ha p (aw ep)) hn) ?_
  walk_at"wx"
  have hg:=i6 (f.2.take i) n t
  rw[cz] at hg
  refine ⟨d,_,_,_,rfl,rfl,gp_s,rfl,by lia,?_⟩
  dsimp only
  refine bB ?_
  refine ⟨⟨_,_,rfl⟩,?_⟩
  rw[gp_p,<- pY,b9,ep]
  rfl
 .rintro Γ G' ⟨j,rfl⟩
  rw[ai,ck]
  exact q
def m6:Pre:=fun ts G k=>∃ c d t,ts=[.int c,.ptr d]/\G d=some (.tb t)/\t.length < 64/\k (fmT (wnF c t)) G
theorem sc_with_numbers:FnScope ["c","numbers"] ["c","numbers"] (ap kM):=by walk_at"fs"
theorem ZfI (B:Blt mg) (T_with_numbers:TopFn K mg "with_numbers" kM ["c","numbers"]):Callee P w K mg base "with_numbers" 1 ["c","numbers"] (spG P w K m6):=by
 refine T_with_numbers.okG sc_with_numbers (by walk_at"lnx") fun f cdv A outer s H E ts G k hr hh=>?_
 have nd:=sc_with_numbers.nd
 have hu1:=nK hr
 obtain ⟨c,d,t,rfl,hd,hl,q⟩:=hh
 refine' go_G [some (.int c),some (.ptr d)] rfl ?hb ?hg
 case hb=>exact (ak (au (aD (xb 0 (aS (cL (dN (K:=K) rfl) (by rfl) B.b_tuple dB (cU (xl ["w"] ["numbers"] [1] (bT (K:=K) rfl (aZ (uz rfl) (by rfl) B.b_sorted uw (xc 1))) (fun j j j j j j=>(eD (aB eA (nA hu1 (pv 1) (pv 0) (fun j j=>rfl)) aa (az _)))) (fun j j j j j j=>(aD (aI (nA hu1 (pv 1) (pv 0) (fun j j=>rfl)) (xc 0))))) ae)) ae)))))
 have hp:=ip (t.map (·.1))
 walk_at"wx"
 refine fJ ?_
 walk_at"wx"
 refine vL hd hl ?_
 refine ⟨_,si_l,by rw[ai,hp.length_eq,ai];lia,fun i acc Γ G'=>(∃ x,Γ=[x,some (.ptr d)])/\G'=G/\acc=(bO t ((sortI (t.map (·.1))).take i)).map prT,⟨⟨none,rfl⟩,rfl,rfl⟩,fun j j j j j=>si_l,?_,?_⟩
 .rintro i x acc Γ G' hx ⟨⟨x1,rfl⟩,rfl,rfl⟩
  rw[aj] at hx
  obtain ⟨m,em,rfl⟩:=aH.mp hx
  have hm:m∈t.map (·.1):=hp.mem_iff.mp (aw em)
  have etk:bO t ((sortI (t.map (·.1))).take (i+1))=bO t ((sortI (t.map (·.1))).take i)++(if aQ t m≠0 then [(aQ t m,m)] else []):=by
   unfold bO
   rw[b9,em,iU,hU,aO]
   by_cases e0:aQ t m=0 <;> simp[e0]
  walk_at"wx"
  refine ⟨d,t,m,rfl,hd,rfl,hm,?_⟩
  walk_at"wx"
  refine nN (fun hz=>?_) (fun hz=>?_)
  .walk_at"wx"
   refine ⟨d,t,m,rfl,hd,rfl,hm,?_⟩
   walk_at"wx"
   refine ⟨⟨_,rfl⟩,rfl,?_⟩
   rw[etk,ag hz,aO]
   rfl
  .refine ⟨⟨_,rfl⟩,rfl,?_⟩
   rw[etk,ah (by simpa using hz),bH]
 .rintro acc Γ G' ⟨j,rfl,rfl⟩
  walk_at"wx"
  refine dM sg_l (fun j=>nofun) ?_
  rw[ai,ck]
  walk_at"wx"
  exact ar q
structure FoB (n:Nat) (f:Fm):Prop where
 o:Fo n (10 ^ 900) f
 n:n < 64
theorem nB {n:Nat} {t:List (Int×Int)} (hn:n < 64) (h1:(t.map (·.1)).Nodup) (h2:∀ x∈t.map Prod.fst,0<=x/\x < n):t.length < 64:=by
 have:=mX (n:=n) _ h1 h2
 rw[ai] at this
 lia
def pJ:Pre:=fun ts G k=>∃ n f g m,ts=[fmT f,fmT g,.int m]/\FoB n f/\FoB n g/\m.natAbs<=10 ^ 900/\k (fmT (cg f g m)) G
theorem l9 {x:Nat} (h:x<=10 ^ 900):x<=10 ^ 1000:=aR h (Nat.pow_le_pow_right (by decide) (by decide))
theorem sc_joined:FnScope ["one","other","n","numbers"] ["one","other","n"] (ap l5):=by walk_at"fs"
theorem Znz (T_joined:TopFn K mg "joined" l5 ["one","other","n"]) (Cgather:Callee P w K mg base "gather" 1 ["numbers","form","n"] (spG P w K lh)) (Cwith_numbers:Callee P w K mg base "with_numbers" 1 ["c","numbers"] (spG P w K m6)):Callee P w K mg base "joined" 2 ["one","other","n"] (spG P w K pJ):=by
 refine T_joined.okG sc_joined (by walk_at"lnx") fun f cdv A outer s H E ts G k hr hh=>?_
 have nd:=sc_joined.nd
 obtain ⟨n,f,g,m,rfl,hf,hg,hm,q⟩:=hh
 refine' go_G [some (fmT f),some (fmT g),some (.int m),none] rfl ?hb ?hg
 case hb=>exact (af (bJ (i:=3) nd rfl (Or.inl rfl) mz) (af (cb (xg Cgather hr.m (xb 3 (xb 0 (ao aa ae))))) (af (cb (xg Cgather hr.m (xb 3 (xb 1 (xc 2))))) (ak (au (xg Cwith_numbers hr.m (bZ (av bm (xa K (pv 0) aa) (av dY (pv 2) (xa K (pv 1) aa))) (xc 3))))))))
 obtain ⟨t1,t2,j⟩:=qb (m:=m) hf.o hg.o
 have h1:=hf.o.len
 have h2:=hg.o.len
 have h3:=hf.n
 have h4:=i6 f.2 1 []
 rw[fQ] at h4
 walk_at"wx"
 intro p hp
 walk_at"wx"
 refine ⟨p,f,1,[],rfl,gp_s,by rw[fQ];lia,fun q hq=>l9 (hf.o.a q hq),by decide +kernel,?_⟩
 walk_at"wx"
 refine ⟨p,g,m,_,rfl,gp_s,by lia,fun q hq=>l9 (hg.o.a q hq),l9 hm,?_⟩
 walk_at"wx"
 refine l_ix sg_t rfl ?_
 walk_at"wx"
 refine l_ix sg_t rfl ?_
 walk_at"wx"
 refine l_IC (fq (l9 hm) (l9 hg.o.c)) ?_
 walk_at"wx"
 refine ⟨_,p,_,rfl,gp_s,nB hf.n t1 t2,?_⟩
 rw[gp_p,gp_p]
 exact da hp (fun j=>nofun) (ar q)
def lu (m:Int):Pre:=fun ts G k=>∃ n f g,ts=[fmT f,fmT g]/\FoB n f/\FoB n g/\k (fmT (cg f g m)) G
theorem sc_plus:FnScope ["one","other"] ["one","other"] (ap lW):=by walk_at"fs"
theorem c_plus (T_plus:TopFn K mg "plus" lW ["one","other"]) (Cjoined:Callee P w K mg base "joined" 2 ["one","other","n"] (spG P w K pJ)):Callee P w K mg base "plus" 3 ["one","other"] (spG P w K (lu 1)):=by
 refine T_plus.okG sc_plus (by walk_at"lnx") fun f cdv A outer s H E ts G k hr hh=>?_
 have nd:=sc_plus.nd
 obtain ⟨n,f,g,rfl,hf,hg,q⟩:=hh
 refine' go_G [some (fmT f),some (fmT g)] rfl ?hb ?hg
 case hb=>exact (ak (au (xg Cjoined hr.m (xb 0 (xb 1 (ao aa ae))))))
 walk_at"wx"
 exact ⟨n,f,g,1,rfl,hf,hg,by decide +kernel,ar q⟩
theorem sc_less:FnScope ["one","other"] ["one","other"] (ap mT):=by walk_at"fs"
theorem c_less (T_less:TopFn K mg "less" mT ["one","other"]) (Cjoined:Callee P w K mg base "joined" 2 ["one","other","n"] (spG P w K pJ)):Callee P w K mg base "less" 3 ["one","other"] (spG P w K (lu (-1))):=by
 refine T_less.okG sc_less (by walk_at"lnx") fun f cdv A outer s H E ts G k hr hh=>?_
 have nd:=sc_less.nd
 obtain ⟨n,f,g,rfl,hf,hg,q⟩:=hh
 refine' go_G [some (fmT f),some (fmT g)] rfl ?hb ?hg
 case hb=>exact (ak (au (xg Cjoined hr.m (xb 0 (xb 1 (ZmS (cq cm aa) ae))))))
 walk_at"wx"
 exact ⟨n,f,g,-1,rfl,hf,hg,by decide +kernel,ar q⟩
def tV:Pre:=fun ts G k=>∃ n f m,ts=[fmT f,.int m]/\FoB n f/\m.natAbs<=10 ^ 900/\k (fmT (pK f m)) G
theorem sc_times:FnScope ["form","n","numbers"] ["form","n"] (ap l8):=by walk_at"fs"
theorem ZpB (T_times:TopFn K mg "times" l8 ["form","n"]) (Cgather:Callee P w K mg base "gather" 1 ["numbers","form","n"] (spG P w K lh)) (Cwith_numbers:Callee P w K mg base "with_numbers" 1 ["c","numbers"] (spG P w K m6)):Callee P w K mg base "times" 2 ["form","n"] (spG P w K tV):=by
 refine T_times.okG sc_times (by walk_at"lnx") fun f cdv A outer s H E ts G k hr hh=>?_
 have nd:=sc_times.nd
 obtain ⟨n,f,m,rfl,hf,hm,q⟩:=hh
 refine' go_G [some (fmT f),some (.int m),none] rfl ?hb ?hg
 case hb=>exact (af (bJ (i:=2) nd rfl (Or.inl rfl) mz) (af (cb (xg Cgather hr.m (xb 2 (xb 0 (xc 1))))) (ak (au (xg Cwith_numbers hr.m (bZ (av dY (xa K (pv 0) aa) (pv 1)) (xc 2)))))))
 obtain ⟨t1,t2,j⟩:=vN (m:=m) hf.o
 have h1:=hf.o.len
 have h3:=hf.n
 walk_at"wx"
 intro p hp
 walk_at"wx"
 refine ⟨p,f,m,[],rfl,gp_s,by rw[fQ];lia,fun q hq=>l9 (hf.o.a q hq),l9 hm,?_⟩
 walk_at"wx"
 refine l_ix sg_t rfl ?_
 walk_at"wx"
 refine l_IC (fq (l9 hf.o.c) (l9 hm)) ?_
 walk_at"wx"
 refine ⟨_,p,_,rfl,gp_s,nB hf.n t1 t2,?_⟩
 rw[gp_p]
 exact da hp (fun j=>nofun) (ar q)
theorem Zh3 {fl:List Fm} {n:Nat} (hg:∀ g∈fl,∀ p∈g.2,0<=p.2/\p.2 < (n:Int)):∀ (ps:List (Int×Int)),∀ x∈(cu ps fl).map Prod.fst,0<=x/\x < (n:Int):=by
 intro ps
 refine k6 (C:=fun ps=>∀ x∈(cu ps fl).map Prod.fst,0<=x/\x < (n:Int)) (fun x hx=>nomatch hx) (fun l a h x hx=>?_) ps
 rw[jJ] at hx
 rcases jb _ _ _ _ hx with hx|hx
 .exact h x hx
 .obtain ⟨p,hp,rfl⟩:=bL.mp hx
  unfold nthF at hp
  rw[dU] at hp
  cases e:fl[a.2.toNat]? with
  | none=>rw[e] at hp;cases hp
  | some g=>rw[e] at hp;exact hg g (aw e) p hp
theorem jd {fl:List Fm} (ps:List (Int×Int)):((cu ps fl).map (·.1)).Nodup:=by
 refine k6 (C:=fun ps=>((cu ps fl).map (·.1)).Nodup) eI (fun l a h=>?_) ps
 show ((cu (l++[a]) fl).map (·.1)).Nodup
 rw[jJ]
 exact fK _ _ h
def tE:Pre:=fun ts G k=>∃ n m f fl y,ts=[fmT f,y]/\SqI G y (fl.map fmT)/\FoB n f/\n=fl.length/\m < 64/\(∀ g∈fl,FoB m g)/\k (fmT (dA f fl)) G
theorem sc_put_in:FnScope ["form","forms","c","numbers","a","w"] ["form","forms"] (ap mi):=by walk_at"fs"
theorem Zny (T_put_in:TopFn K mg "put_in" mi ["form","forms"]) (Cgather:Callee P w K mg base "gather" 1 ["numbers","form","n"] (spG P w K lh)) (Cwith_numbers:Callee P w K mg base "with_numbers" 1 ["c","numbers"] (spG P w K m6)):Callee P w K mg base "put_in" 2 ["form","forms"] (spG P w K tE):=by
 refine T_put_in.okG sc_put_in (by walk_at"lnx") fun f cdv A outer s H E ts G k hr hh=>?_
 have nd:=sc_put_in.nd
 obtain ⟨n,m,f,fl,y,rfl,sy,hf,rfl,hm,hg,q⟩:=hh
 refine' go_G [some (fmT f),some y,none,none,none,none] rfl ?hb ?hg
 case hb=>exact (af (cf (i:=2) nd rfl (Or.inl rfl) (xa K (pv 0) aa)) (af (bJ (i:=3) nd rfl (Or.inl rfl) mz) (af (bX PassesOwn.never rfl (cJ (K:=K) rfl (xa K (pv 0) aa)) (ca (K:=K) (n:=2) rfl rfl (aW (xj 4 nd) (aW (xj 5 nd) ce))) (af (d9 (i:=2) nd rfl (Or.inl rfl) (av bm (pv 2) (av dY (pv 4) (xa K (xa K (pv 1) (pv 5)) aa)))) (ak (cb (xg Cgather hr.m (xb 3 (aI (xa K (pv 1) (pv 5)) (xc 4)))))))) (ak (au (xg Cwith_numbers hr.m (xb 2 (xc 3))))))))
 have keys:=Zh3 (n:=m) (fun g h=>(hg g h).o.w)
 have few:∀ ps,(cu ps fl).length < 64:=fun ps=>nB hm (jd ps) (keys ps)
 walk_at"wx"
 refine l_ix sg_t rfl ?_
 walk_at"wx"
 intro p hp
 have sy':∀ c,SqI (gput G p c) y (fl.map fmT):=fun c=>by
  rcases sy with e|⟨a,e,h⟩
  .exact .inl e
  .exact .inr ⟨a,e,by rw[gp_n (g_ne h hp)];exact h⟩
 walk_at"wx"
 refine l_ix sg_t rfl ?_
 refine ⟨_,rfl,fun i Γ G'=>(∃ a b,Γ=[some (fmT f),some y,some (.int (putC f.1 (f.2.take i) fl)),some (.ptr p),a,b])/\G'=gput G p (.tb (cu (f.2.take i) fl)),⟨⟨none,none,rfl⟩,rfl⟩,fun j j j j=>trivial,?_,?_⟩
 .rintro i x Γ G' hx ⟨⟨x1,x2,rfl⟩,rfl⟩
  rw[aj] at hx
  obtain ⟨r,er,rfl⟩:=aH.mp hx
  have hrm:=aw er
  obtain ⟨w0,w1⟩:=hf.o.w r hrm
  have hl:fl[r.2.toNat]?=some (nthF fl r.2):=by
   unfold nthF
   rw[dU,ax (by lia)]
   rfl
  have hgm:=hg _ (aw hl)
  have hat:atI (fl.map fmT) r.2=some (fmT (nthF fl r.2)):=bw (n:=r.2.toNat) (by lia) (by rw[aj,hl];rfl)
  refine bW rfl ?_
  walk_at"wx"
  refine l_ix (.inr (sy' _)) hat ?_
  walk_at"wx"
  refine l_ix sg_t rfl ?_
  walk_at"wx"
  refine l_IC (fq (l9 (hf.o.a r hrm)) (l9 hgm.o.c)) ?_
  walk_at"wx"
  refine l_ix (.inr (sy' _)) hat ?_
  walk_at"wx"
  have h1:=hgm.o.len
  have h2:=few (f.2.take i)
  refine ⟨p,_,_,_,rfl,gp_s,by lia,fun q hq=>l9 (hgm.o.a q hq),l9 (hf.o.a r hrm),?_⟩
  have et:f.2.take (i+1)=f.2.take i++[r]:=by rw[b9,er];rfl
  rw[gp_p]
  dsimp only
  refine bB ?_
  show (∃ a b,_=[_,_,some (T.int (putC f.1 (f.2.take (i+1)) fl)),_,a,b])/\_=gput G p (.tb (cu (f.2.take (i+1)) fl))
  rw[et,ZkP,jJ]
  exact ⟨⟨_,_,rfl⟩,rfl⟩
 .rintro Γ G' ⟨⟨x1,x2,rfl⟩,rfl⟩
  walk_at"wx"
  rw[ai,ck]
  refine ⟨_,p,_,rfl,gp_s,few _,?_⟩
  exact da hp (fun j=>nofun) (ar q)
end
end My
end
section
namespace My
open PySem L2
section
variable {P:Program} {w:World} {K:W.Frag} {mg:Str->Option Value} {base:Heap} {C:Addr}
theorem ZjQ {f:Fm} {n B:Nat} (hf:Fo n B f) {i:Nat} {p:Int×Int} (ep:f.2[i]?=some p):aQ (aX [] (f.2.take i) 1) p.2=0:=by
 rw[gO,ie]
 .rfl
 .intro q hq e
  obtain ⟨j,hj⟩:=fU.mp hq
  have lj:=(ay.mp hj).1
  rw[cz] at lj
  rw[jT (by lia)] at hj
  have nd:=hf.nd
  have e1:(f.2.map (·.2))[j]?=some q.2:=by rw[aj,hj];rfl
  have e2:(f.2.map (·.2))[i]?=some p.2:=by rw[aj,ep];rfl
  rw[e,<- e2] at e1
  have:=(oH (by have:=(ay.mp hj).1;rw[ai];exact this) nd).mp e1
  lia
def uI:Pre:=fun ts G k=>∃ n f g m,ts=[fmT f,fmT g,.int m]/\FoB n f/\FoB n g/\m.natAbs<=10 ^ 900/\k (fmT (cg f g m)) G
theorem sc__law_sum:FnScope ["one","other","n","parts","a","w"] ["one","other","n"] (ap lr):=by walk_at"fs"
theorem Zj0 (B:Blt mg) (T__law_sum:TopFn K mg "_law_sum" lr ["one","other","n"]):Callee P w K mg base "_law_sum" 1 ["one","other","n"] (spG P w K uI):=by
 refine T__law_sum.okG sc__law_sum (by walk_at"lnx") fun f cdv A outer s H E ts G k hr hh=>?_
 have nd:=sc__law_sum.nd
 have hu1:=nK hr
 obtain ⟨n,f,g,m,rfl,hf,hg,hm,q⟩:=hh
 refine' go_G [some (fmT f),some (fmT g),some (.int m),none,none,none] rfl ?hb ?hg
 case hb=>exact (af (bJ (i:=3) nd rfl (Or.inr rfl) mz) (af (bX PassesOwn.never rfl (cJ (K:=K) rfl (xa K (pv 0) aa)) (ca (K:=K) (n:=2) rfl rfl (aW (xj 4 nd) (aW (xj 5 nd) ce))) (ak (p6 hu1 (pv 3) (pv 5) (pv 4) rfl))) (af (bX PassesOwn.never rfl (cJ (K:=K) rfl (xa K (pv 1) aa)) (ca (K:=K) (n:=2) rfl rfl (aW (xj 4 nd) (aW (xj 5 nd) ce))) (ak (p6 hu1 (pv 3) (pv 5) (av bm (pp hu1 (pv 3) (pv 5) aa (M2.mk rfl rfl rfl rfl)) (av dY (pv 2) (pv 4))) rfl))) (ak (au (aD (bZ (av bm (xa K (pv 0) aa) (av dY (pv 2) (xa K (pv 1) aa))) (aS (cL (dN (K:=K) rfl) (by rfl) B.b_tuple dB (cU (xl ["w"] ["parts"] [3] (bT (K:=K) rfl (aZ (uz rfl) (by rfl) B.b_sorted uw (xc 3))) (fun j j j j j j=>(eD (aB eA (nA hu1 (pv 1) (pv 0) (fun j j=>rfl)) aa (az _)))) (fun j j j j j j=>(aD (aI (nA hu1 (pv 1) (pv 0) (fun j j=>rfl)) (xc 0))))) ae)) ae))))))))
 obtain ⟨t1,t2,j⟩:=qb (m:=m) hf.o hg.o
 have h1:=hf.o.len
 have h2:=hg.o.len
 have h3:=hf.n
 have h4:=i6 f.2 1 []
 rw[fQ] at h4
 refine bI (bR (jL fun d hd=>br ?_))
 refine eB (fun Γ' G'=>(∃ x y,Γ'=[some (fmT f),some (fmT g),some (.int m),some (.ptr d),x,y])/\G'=gput G d (.tb (aX [] f.2 1))) ?_ ?_
 .ac_nf
  refine ⟨_,rfl,fun i Γ' G'=>(∃ x y,Γ'=[some (fmT f),some (fmT g),some (.int m),some (.ptr d),x,y])/\G'=gput G d (.tb (aX [] (f.2.take i) 1)),⟨⟨_,_,rfl⟩,rfl⟩,fun j j j j=>trivial,?_,?_⟩
  .rintro i x Γ' G' hx ⟨⟨x1,x2,rfl⟩,rfl⟩
   rw[aj] at hx
   obtain ⟨p,ep,rfl⟩:=aH.mp hx
   refine bW rfl ?_
   ac_nf
   have hl:=i6 (f.2.take i) 1 []
   rw[cz,fQ] at hl
   refine ⟨d,_,_,p.1 * 1,by rw[ZjQ hf.o ep];congr 1;lia,rfl,gp_s,rfl,by lia,?_⟩
   dsimp only
   refine bB ⟨⟨_,_,rfl⟩,?_⟩
   rw[gp_p,<- pY,b9,ep]
   rfl
  .rintro Γ' G' ⟨hy,rfl⟩
   rw[ai,ck]
   exact ⟨hy,rfl⟩
 rintro Γ' G' ⟨⟨x1,x2,rfl⟩,rfl⟩
 refine eB (fun Γ' G'=>(∃ x y,Γ'=[some (fmT f),some (fmT g),some (.int m),some (.ptr d),x,y])/\G'=gput G d (.tb (aX (aX [] f.2 1) g.2 m))) ?_ ?_
 .ac_nf
  refine ⟨_,rfl,fun i Γ' G'=>(∃ x y,Γ'=[some (fmT f),some (fmT g),some (.int m),some (.ptr d),x,y])/\G'=gput G d (.tb (aX (aX [] f.2 1) (g.2.take i) m)),⟨⟨_,_,rfl⟩,rfl⟩,fun j j j j=>trivial,?_,?_⟩
  .rintro i x Γ' G' hx ⟨⟨x1,x2,rfl⟩,rfl⟩
   rw[aj] at hx
   obtain ⟨p,ep,rfl⟩:=aH.mp hx
   refine bW rfl ?_
   ac_nf
   refine ⟨d,_,rfl,gp_s,?_⟩
   ac_nf
   refine ⟨_,_,gp_s,rfl,rfl,?_⟩
   ac_nf
   refine l_IC (fq (l9 hm) (l9 (hg.o.a p (aw ep)))) ?_
   ac_nf
   have hl:=i6 (g.2.take i) m (aX [] f.2 1)
   rw[cz] at hl
   refine ⟨d,_,_,p.1 * m,by rw[om],rfl,gp_s,rfl,by lia,?_⟩
   dsimp only
   refine bB ⟨⟨_,_,rfl⟩,?_⟩
   rw[gp_p,<- pY,b9,ep]
   rfl
  .rintro Γ' G' ⟨hy,rfl⟩
   rw[ai,ck]
   exact ⟨hy,rfl⟩
 rintro Γ' G' ⟨⟨x1,x2,rfl⟩,rfl⟩
 have few:=nB hf.n t1 t2
 have fin:k (fmT (wnF (f.1+m * g.1) (aX (aX [] f.2 1) g.2 m))) G:=q
 generalize aX (aX [] f.2 1) g.2 m=t at few fin
 have hp:=ip (t.map (·.1))
 ac_nf
 refine l_IC (fq (l9 hm) (l9 hg.o.c)) ?_
 ac_nf
 refine fJ ?_
 ac_nf
 refine vL gp_s few ?_
 refine ⟨_,si_l,by rw[ai,hp.length_eq,ai];lia,fun i acc Γ' G'=>(∃ x,Γ'=[x,some (.ptr d)])/\G'=gput G d (.tb t)/\acc=(bO t ((sortI (t.map (·.1))).take i)).map prT,⟨⟨none,rfl⟩,rfl,rfl⟩,fun j j j j j=>si_l,?_,?_⟩
 .rintro i x acc Γ' G' hx ⟨⟨x1,rfl⟩,rfl,rfl⟩
  rw[aj] at hx
  obtain ⟨m,em,rfl⟩:=aH.mp hx
  have hm:m∈t.map (·.1):=hp.mem_iff.mp (aw em)
  have etk:bO t ((sortI (t.map (·.1))).take (i+1))=bO t ((sortI (t.map (·.1))).take i)++(if aQ t m≠0 then [(aQ t m,m)] else []):=by
   unfold bO
   rw[b9,em,iU,hU,aO]
   by_cases e0:aQ t m=0 <;> simp[e0]
  ac_nf
  refine ⟨d,t,m,rfl,gp_s,rfl,hm,?_⟩
  ac_nf
  refine nN (fun hz=>?_) (fun hz=>?_)
  .ac_nf
   refine ⟨d,t,m,rfl,gp_s,rfl,hm,?_⟩
   ac_nf
   refine ⟨⟨_,rfl⟩,rfl,?_⟩
   rw[etk,ag hz,aO]
   rfl
  .refine ⟨⟨_,rfl⟩,rfl,?_⟩
   rw[etk,ah (by simpa using hz),bH]
 .rintro acc Γ' G' ⟨j,rfl,rfl⟩
  ac_nf
  refine dM sg_l (fun j=>nofun) ?_
  rw[ai,ck]
  ac_nf
  exact da hd (fun j=>nofun) (ar fin)
def ug:Pre:=fun ts G k=>∃ m B D f fl y,ts=[fmT f,y]/\SqI G y (fl.map fmT)/\Fo fl.length B f/\fl.length < 64/\m < 64/\(∀ g∈fl,Fo m D g)/\B+63 * (B * D)<=10 ^ 900/\D<=10 ^ 900/\k (fmT (dA f fl)) G
theorem sc__law_put:FnScope ["form","forms","found","a","w"] ["form","forms"] (ap lg):=by walk_at"fs"
theorem Zj2 (B:Blt mg) (T__law_put:TopFn K mg "_law_put" lg ["form","forms"]) (Zfy:Callee P w K mg base "_law_sum" 1 ["one","other","n"] (spG P w K uI)):Callee P w K mg base "_law_put" 2 ["form","forms"] (spG P w K ug):=by
 refine T__law_put.okG sc__law_put (by walk_at"lnx") fun f cdv A outer s H E ts G k hr hh=>?_
 have nd:=sc__law_put.nd
 obtain ⟨m,B',D,f,fl,y,rfl,sy,hf,hl,hm,hg,hB,hD,q⟩:=hh
 refine' go_G [some (fmT f),some y,none,none,none] rfl ?hb ?hg
 case hb=>exact (af (qh (i:=2) nd rfl (Or.inl rfl) (aD (aI (xa K (pv 0) aa) (be (aD ae) ae)))) (af (bX PassesOwn.never rfl (cJ (K:=K) rfl (xa K (pv 0) aa)) (ca (K:=K) (n:=2) rfl rfl (aW (xj 3 nd) (aW (xj 4 nd) ce))) (ak (bi (i:=2) nd rfl (Or.inl rfl) (xg Zfy hr.m (xb 2 (aI (xa K (pv 1) (pv 4)) (xc 3))))))) (ak (au (pv 2)))))
 have hlen:=hf.len
 have hb:∀ p∈f.2,p.1.natAbs<=B'/\0<=p.2/\p.2 < fl.length:=fun p hp=>⟨hf.a p hp,(hf.w p hp).1,(hf.w p hp).2⟩
 have pre:∀ i,FoB m ((f.2.take i).foldl (fun a p=>cg a (nthF fl p.2) p.1) (f.1,[])):=fun i=>by
  have:=sO (B:=B') hg (f.2.take i) (f.1,[]) B' (fun p hp=>hb p (mem_of_mem_take hp)) (Fo.nil hf.c)
  refine ⟨this.le (aq _) (aR (qY (oE _ ?_) _) hB),hm⟩
  rw[cz];lia
 have hB9:B'<=10 ^ 900:=aR (cj _ _) hB
 ac_nf
 refine ⟨_,rfl,fun i Γ' G'=>(∃ x z,Γ'=[some (fmT f),some y,some (fmT ((f.2.take i).foldl (fun a p=>cg a (nthF fl p.2) p.1) (f.1,[]))),x,z])/\G'=G,⟨⟨_,_,rfl⟩,rfl⟩,fun j j j j=>trivial,?_,?_⟩
 .rintro i x Γ' G' hx ⟨⟨x1,x2,rfl⟩,rfl⟩
  rw[aj] at hx
  obtain ⟨p,ep,rfl⟩:=aH.mp hx
  obtain ⟨b1,b2,b3⟩:=hb p (aw ep)
  have e:fl[p.2.toNat]?=some (nthF fl p.2):=by
   unfold nthF
   rw[dU,ax (by lia)];rfl
  have hat:atI (fl.map fmT) p.2=some (fmT (nthF fl p.2)):=bw (n:=p.2.toNat) (by lia) (by rw[aj,e];rfl)
  refine bW rfl ?_
  ac_nf
  refine l_ix (iX sy) hat ?_
  ac_nf
  refine ⟨m,_,_,p.1,rfl,pre i,⟨(hg _ (aw e)).le (aq _) hD,hm⟩,aR b1 hB9,?_⟩
  ac_nf
  dsimp only
  refine bB ?_
  show (∃ x z,_=[_,_,some (fmT ((f.2.take (i+1)).foldl (fun a p=>cg a (nthF fl p.2) p.1) (f.1,[]))),x,z])/\_
  rw[b9,ep,iU,j9]
  exact ⟨⟨_,_,rfl⟩,rfl⟩
 .rintro Γ' G' ⟨⟨x1,x2,rfl⟩,rfl⟩
  rw[ai,ck]
  ac_nf
  rw[<-ZmW] at q
  exact ar q
def tS:Pre:=fun ts G k=>∃ n:Nat,ts=[.int n]/\n<=1000/\∀ a,G a=none->k (.ptr a) (gput G a (.lst ((aE n).map fmT)))
theorem sc__law_words:FnScope ["many"] ["many"] (ap nF):=by walk_at"fs"
theorem ZhE (B:Blt mg) (T__law_words:TopFn K mg "_law_words" nF ["many"]):Callee P w K mg base "_law_words" 1 ["many"] (spG P w K tS):=by
 refine T__law_words.okG sc__law_words (by walk_at"lnx") fun f cdv A outer s H E ts G k hr hh=>?_
 have nd:=sc__law_words.nd
 obtain ⟨n,rfl,hn,q⟩:=hh
 refine' go_G [some (.int n)] rfl ?hb ?hg
 case hb=>exact (ak (au (xk ["w"] [] [] (de rfl B.b_range (xc 0)) (fun z z z z z z=>(aD (ao aa (be (aD (be (aD (ao aa (xc 0))) ae)) ae)))))))
 ac_nf
 refine qg (fun Γ'=>∃ c,Γ'=[c]) ?_
 ac_nf
 have hrl:(rngT (n:Int).toNat).length=n:=by unfold rngT;simp
 refine ⟨n,rfl,by lia,by lia,by rw[hrl];lia,trivial,⟨_,rfl⟩,(aE n).map fmT,by rw[ai,hrl];unfold aE;simp,?_,fun a na=>ar (q a na)⟩
 rintro i x y Γ' hx hy ⟨c,rfl⟩
 unfold rngT at hx
 unfold aE at hy
 rw[dF,aj] at hx
 rw[aj,aj] at hy
 obtain ⟨j,ej,rfl⟩:=aH.mp hx
 rw[ej] at hy
 cases hy
 ac_nf
 refine ⟨⟨_,rfl⟩,rfl,?_⟩
 ac_nf
 exact ⟨rfl,rfl⟩
def pA:Pre:=fun ts G k=>∃ (j:Nat) (xs:List Int) (v:Int),ts=[fmT (ofW j),.lst (xs.map T.int)]/\xs[j]?=some v/\v.natAbs<=10 ^ 900/\k (.int v) G
theorem sc__law_under:FnScope ["form","words"] ["form","words"] (ap mG):=by walk_at"fs"
theorem ZhF (B:Blt mg) (T__law_under:TopFn K mg "_law_under" mG ["form","words"]):Callee P w K mg base "_law_under" 1 ["form","words"] (spG P w K pA):=by
 refine T__law_under.okG sc__law_under (by walk_at"lnx") fun f cdv A outer s H E ts G k hr hh=>?_
 have nd:=sc__law_under.nd
 obtain ⟨j,xs,v,rfl,hj,hv,q⟩:=hh
 refine' go_G [some (fmT (ofW j)),some (.lst (xs.map T.int))] rfl ?hb ?hg
 case hb=>exact (ak (au (av bm (xa K (pv 0) aa) (aZ (k_sum (K:=K) rfl rfl) (by rfl) B.b_sum sw (cU (eL (LN:=["a","w"]) (FN:=["words"]) (fr:=[1]) rfl (cv (by rfl)) (cJ (K:=K) rfl (xa K (pv 0) aa)) (fun z z z z z z=>(ca (K:=K) (n:=2) rfl rfl (aW (xj 0 (show ((["a","w"]:List Str)++(["words"]:List Str)).Nodup by decide +kernel)) (aW (xj 1 (show ((["a","w"]:List Str)++(["words"]:List Str)).Nodup by decide +kernel)) ce)))) (fun z z z z z z=>dI) (fun z z z z z z=>(av dY (pv 0) (xa K (pv 2) (pv 1))))) ae)))))
 ac_nf
 refine cD (fun Γ'=>∃ a b,Γ'=[a,b,some (.lst (xs.map T.int))]) ?_
 ac_nf
 refine ⟨_,rfl,by simp[ofW],trivial,⟨none,none,rfl⟩,[v].map T.int,rfl,?_,?_⟩
 .rintro i x y Γ' hx hy ⟨a,b,rfl⟩
  have hi:i=0:=by have:=(ay.mp hy).1;simp at this;exact this
  subst hi
  cases hx
  cases hy
  refine bW rfl ?_
  ac_nf
  refine ⟨⟨_,_,rfl⟩,rfl,?_⟩
  ac_nf
  refine bM (bw (n:=j) rfl (by rw[aj,hj];rfl)) ?_
  ac_nf
  refine l_IC (fq (show (1:Int).natAbs<=_ by decide) (l9 hv)) ?_
  rw[Int.one_mul]
  exact ⟨rfl,rfl⟩
 ac_nf
 have e:(0:Int)+[v].sum=v:=by simp
 show Cl k (.int (0+[v].sum)) G
 rw[e]
 exact ar q
def isTup:T->Bool
 | .tup _=>true
 | _=>false
theorem Zpt (rest:List T):(rest.map fun t=>if isTup t=true then some t else none).filterMap id=rest.filter isTup:=by
 induction rest with
 | nil=>rfl
 | cons t r ih=>rw[aF,iy,dW];cases ht:isTup t <;> simp[ht] <;> simpa using ih
def ul:Pre:=fun ts G k=>∃ (x:Str) (rest:List T),ts=[.tup (.str x::rest)]/\rest.length<=1000/\(∀ t∈rest,(∃ n,t=.int n)\/∃ xs,t=.tup xs)/\k (.lst (rest.filter isTup)) G
theorem sc__law_edges:FnScope ["deed"] ["deed"] (ap k8):=by walk_at"fs"
theorem ZhI (B:Blt mg) (T__law_edges:TopFn K mg "_law_edges" k8 ["deed"]):Callee P w K mg base "_law_edges" 1 ["deed"] (spG P w K ul):=by
 refine T__law_edges.okG sc__law_edges (by walk_at"lnx") fun f cdv A outer s H E ts G k hr hh=>?_
 have nd:=sc__law_edges.nd
 obtain ⟨x,rest,rfl,hl,hk,q⟩:=hh
 refine' go_G [some (.tup (.str x::rest))] rfl ?hb ?hg
 case hb=>exact (ak (au (xl ["part"] [] [] (cJ (K:=K) rfl (fi (lQ (K:=K) rfl) (pv 0) (fE aa) fH)) (fun j j j j j j=>(eD (dj (aZ vM (by rfl) B.b_isinstance sF (xb 0 (il (vH (v:=.ty "tuple") (by rfl) B.b_tuple dB rfl) ae)))))) (fun j j j j j j=>(pv 0)))))
 ac_nf
 refine fZ (fun Γ'=>∃ a,Γ'=[a]) ?_
 ac_nf
 refine kI ?_
 ac_nf
 have ecut:cutT (T.str x::rest) (some 1) none=rest:=by rw[rH (by lia) (by rw[bz];lia)];rfl
 rw[ecut]
 refine ⟨rest,rfl,by lia,trivial,⟨none,rfl⟩,rest.map fun t=>if isTup t=true then some t else none,by rw[ai],?_,?_⟩
 .rintro i t z Γ' ht hz ⟨a,rfl⟩
  rw[aj,ht] at hz
  cases hz
  ac_nf
  refine ⟨⟨_,rfl⟩,rfl,?_⟩
  rcases hk t (aw ht) with ⟨n,rfl⟩|⟨xs,rfl⟩
  .ac_nf
   exact ⟨rfl,iteF rfl⟩
  .ac_nf
   exact ⟨rfl,iteT ⟨_,rfl,by ac_nf;exact ⟨rfl,rfl⟩⟩⟩
 rw[Zpt]
 exact ar q
theorem Zoy (c t:Nat):((List.range c).map fun (i:Nat)=>(i:Int)).contains (t:Int)=decide (t < c):=by
 rw[fL,contains_iff_mem,fR]
 constructor
 .intro h
  obtain ⟨i,hi,e⟩:=bL.mp h
  have:=cN.mp hi
  lia
 .intro h
  exact bL.mpr ⟨t,cN.mpr h,rfl⟩
theorem Zng (h n:Nat) (hn:h<=n):((List.range n).map fun (i:Nat)=>if decide (i < h)=true then some (T.int (i:Int)) else none).filterMap id=((List.range h).map fun (i:Nat)=>(i:Int)).map T.int:=by
 obtain ⟨m,rfl⟩:=Nat.exists_eq_add_of_le hn
 induction m with
 | zero =>
  have:(List.range (h+0)).map (fun (i:Nat)=>if decide (i < h)=true then some (T.int (i:Int)) else none)=(List.range h).map fun (i:Nat)=>some (T.int (i:Int)):=j7 fun i hi=>ag (by simpa using hi)
  rw[this,filterMap_map,cG]
  exact congrFun filterMap_eq_map' _
 | succ m ih =>
  rw[<-fT,range_succ,aO,filterMap_append,ih (by lia)]
  simp
def ZoO:Pre:=fun ts G k=>∃ (la:Addr) (ps:List Addr) (lane:List Sd) (h:Nat),ts=[.ptr la,.int h]/\G la=some (.lst (List.zipWith sdT ps lane))/\ps.length=lane.length/\lane.length<=100/\h<=lane.length/\(∀ (j:Nat) d,lane[j]?=some d->(d.word="hold"↔j < h)/\(∀ t∈d.rest,EdH h j t)/\d.rest.length<=4)/\k (.bl true) G
theorem sc__law_held:FnScope ["lane","many","holds","k","edge"] ["lane","many"] (ap lx):=by walk_at"fs"
theorem Ziq (B:Blt mg) (T__law_held:TopFn K mg "_law_held" lx ["lane","many"]) (ZdG:Callee P w K mg base "_law_edges" 1 ["deed"] (spG P w K ul)):Callee P w K mg base "_law_held" 2 ["lane","many"] (spG P w K ZoO):=by
 refine T__law_held.okG sc__law_held (by walk_at"lnx") fun f cdv A outer s H E ts G k hr hh=>?_
 have nd:=sc__law_held.nd
 obtain ⟨la,ps,lane,h,rfl,gl,hpl,h100,hh',hst,q⟩:=hh
 refine' go_G [some (.ptr la),some (.int h),none,none,none] rfl ?hb ?hg
 case hb=>exact (af (gp (i:=2) (LN:=["k"]) (FN:=["lane"]) (fr:=[0]) rfl nd rfl rfl (cv (by rfl)) (de rfl B.b_range (aS (aZ (bt (K:=K) rfl) (by rfl) B.b_len bu (xc 0)) ae)) (fun y y y y y y=>(xj 0 (show ((["k"]:List Str)++(["lane"]:List Str)).Nodup by decide +kernel))) (fun y y y y y y=>(eD (aB bf (xa K (xa K (xa K (pv 1) (pv 0)) aa) aa) aK (az _)))) (fun y y y y y y=>(pv 0))) (af (a8 (PW.pt (dy (aB eA (aZ (bt (K:=K) rfl) (by rfl) B.b_len bu (xc 2)) (pv 1) (az _)) (eK (aB eA (db gD (pv 1) aa (az _)) (db (k_in (K:=K) rfl) aa (pv 2) (by with_unfolding_all rfl)) (az _))))) (ak (au di)) ba) (af (bX PassesOwn.never rfl (de rfl B.b_range (aS (aZ (bt (K:=K) rfl) (by rfl) B.b_len bu (xc 0)) ae)) (xj 3 nd) (ak (bX PassesOwn.never rfl (bT (K:=K) rfl (xg ZdG hr.m (aI (xa K (xa K (pv 0) (pv 3)) aa) ae))) (xj 4 nd) (ak (a8 (PW.pt (ft (aB (k_in (K:=K) rfl) (xa K (pv 4) aa) (pv 2) (by with_unfolding_all rfl)) (fk (PW.pt (dy (aB eA (xa K (pv 4) aa) aa (az _)) (eK (aB (uL (K:=K) rfl) (pv 3) (pv 2) (by with_unfolding_all rfl)))))))) (ak (au di)) ba))))) (ak (au di)))))
 have hz:(List.zipWith sdT ps lane).length=lane.length:=by rw[fW,hpl,kr]
 have hat:∀ {i:Nat},i < lane.length->∃ p d,lane[i]?=some d/\(List.zipWith sdT ps lane)[i]?=some (sdT p d):=fun {i} hi=>⟨ps[i]'(by lia),lane[i],ax hi,by rw[fV,ax hi,ax (by lia)]⟩
 ac_nf
 refine fZ (fun Γ'=>∃ a,Γ'=[a,some (.ptr la)]) ?_
 ac_nf
 refine dh (sg_p gl) ?_
 rw[hz]
 ac_nf
 refine ⟨lane.length,rfl,by lia,by lia,?_⟩
 have hrl:(rngT (lane.length:Int).toNat).length=lane.length:=by unfold rngT;simp
 refine ⟨by rw[hrl];lia,trivial,⟨_,rfl⟩,(List.range lane.length).map fun (i:Nat)=>if decide (i < h)=true then some (T.int (i:Int)) else none,by rw[hrl];simp,?_,?_⟩
 .rintro i x z Γ' hx hy ⟨a,rfl⟩
  have hi:i < lane.length:=by have:=(ay.mp hx).1;rwa [hrl] at this
  have ex:x=.int (i:Int):=by
   unfold rngT at hx
   rw[aj,cR (by simpa using hi)] at hx
   cases hx;rfl
  subst ex
  rw[aj,cR hi] at hy
  cases hy
  obtain ⟨p,d,ed,ez⟩:=hat hi
  ac_nf
  refine ⟨⟨_,rfl⟩,rfl,?_⟩
  ac_nf
  refine l_ix (sg_p gl) (bw (n:=i) rfl ez) ?_
  ac_nf
  have e:decide (d.word="hold")=decide (i < h):=by rw[fL,fR,fR];exact (hst i d ed).1
  rw[e]
  refine ⟨rfl,?_⟩
  by_cases hih:i < h
  .rw[aU hih]
   exact iteT ⟨_,ag (aU hih),by ac_nf;exact ⟨rfl,rfl⟩⟩
  .rw[aL hih]
   exact iteF (ah (by rw[aL hih];decide))
 rw[Zng h lane.length hh']
 generalize hhs:((List.range h).map fun (i:Nat)=>(i:Int))=hs
 have hsl:(hs.map T.int).length=h:=by rw[<-hhs];simp
 have hsc:∀ t:Nat,hs.contains (t:Int)=decide (t < h):=fun t=>by rw[<-hhs];exact Zoy h t
 ac_nf
 rw[hsl,aU rfl]
 ac_nf
 refine nr (ns:=hs) sg_l ?_
 have h0:=hsc 0
 rw[show ((0:Nat):Int)=0 from rfl] at h0
 rw[ah (by decide),h0]
 refine l_neB ?_
 have e0:(!decide (decide ((0:Int) < (h:Int))=decide (0 < h)))=false:=by
  have:decide ((0:Int) < (h:Int))=decide (0 < h):=by rw[fL,fR,fR];lia
  rw[this,aU rfl];rfl
 refine ⟨_,rfl,?_⟩
 rw[e0]
 ac_nf
 refine dh (sg_p gl) ?_
 rw[hz]
 ac_nf
 refine ⟨lane.length,rfl,by lia,by lia,?_⟩
 refine ⟨fun j Γ' G'=>(∃ c3 c4,Γ'=[some (.ptr la),some (.int h),some (.lst (hs.map T.int)),c3,c4])/\G'=G,⟨⟨_,_,rfl⟩,rfl⟩,fun y y y y=>trivial,?_,?_⟩
 .rintro i x Γ' G1 hx ⟨⟨c3,c4,rfl⟩,rfl⟩
  have hi:i < lane.length:=by have:=(ay.mp hx).1;rwa [hrl] at this
  have ex:x=.int (i:Int):=by
   unfold rngT at hx
   rw[aj,cR (by simpa using hi)] at hx
   cases hx;rfl
  subst ex
  obtain ⟨p,d,ed,ez⟩:=hat hi
  obtain ⟨hw,hed,h4⟩:=hst i d ed
  ac_nf
  refine l_ix (sg_p gl) (bw (n:=i) rfl ez) ?_
  ac_nf
  refine ⟨d.word,d.rest,rfl,by lia,fun t ht=>?_,?_⟩
  .rcases hed t ht with hn|⟨y,y,y,e,y⟩
   .exact .inl hn
   .exact .inr ⟨_,e⟩
  refine ⟨_,si_l,fun j Γ' G'=>(∃ c4,Γ'=[some (.ptr la),some (.int h),some (.lst (hs.map T.int)),some (.int (i:Int)),c4])/\G'=G1,⟨⟨_,rfl⟩,rfl⟩,fun y y y y=>si_l,?_,?_⟩
  .rintro j t Γ' G' ht ⟨⟨c4,rfl⟩,rfl⟩
   have hm:=jP.mp (aw ht)
   rcases hed t hm.1 with ⟨n,rfl⟩|⟨rows,as,tg,rfl,hor⟩
   .cases hm.2
   ac_nf
   refine nr (ns:=hs) sg_l ?_
   rw[ah (by decide),hsc tg]
   rcases hor with ⟨h1,rfl⟩|h1
   .refine ⟨_,rfl,?_⟩
    by_cases htg:tg < h
    .rw[aU htg]
     ac_nf
     refine nr (ns:=hs) sg_l ?_
     rw[ag rfl,hsc i,aU h1]
     ac_nf
     dsimp only
     exact bB ⟨⟨_,rfl⟩,rfl⟩
    .rw[aL htg]
     ac_nf
     dsimp only
     exact bB ⟨⟨_,rfl⟩,rfl⟩
   .refine ⟨_,rfl,?_⟩
    rw[aL (by lia)]
    ac_nf
    dsimp only
    exact bB ⟨⟨_,rfl⟩,rfl⟩
  .rintro Γ' G' ⟨⟨c4,rfl⟩,rfl⟩
   dsimp only
   exact bB ⟨⟨_,_,rfl⟩,rfl⟩
 .rintro Γ' G' ⟨⟨c3,c4,rfl⟩,rfl⟩
  ac_nf
  exact ar q
theorem sN {α:Type} {l:List α} {r i j:Nat} (h:((List.range l.length).eraseIdx r)[i]?=some j):(l.eraseIdx r)[i]?=l[j]?:=by
 rw[getElem?_eraseIdx] at h ⊢
 split at h
 .next hi =>
  rw[ag hi]
  obtain ⟨z,e⟩:=ay.mp h
  simp at e
  rw[e]
 .next hi =>
  rw[ah hi]
  obtain ⟨z,e⟩:=ay.mp h
  simp at e
  rw[e]
def ZmK:Pre:=fun ts G k=>∃ (la:Addr) (ps:List Addr) (lane:List Sd) (rs:List Nat) (vals:Nat->Int) (kn:List (Int×Int)),ts=[.ptr la,.lst ((rs.map vals).map T.int),.int kn.length]/\G la=some (.lst (List.zipWith sdT ps lane))/\ps.length=lane.length/\kn.length<=100/\rs.length<=100/\HdL 0 rs kn lane/\(∀ x∈rs,(vals x).natAbs<=10 ^ 900)/\k (.bl (kn.any fun p=>!decide (vals p.1.toNat=p.2))) G
theorem sc__law_falls:FnScope ["lane","words","many","k","turn","many_words","paper","deed"] ["lane","words","many"] (ap lV):=by walk_at"fs"
theorem ZhH (B:Blt mg) (T__law_falls:TopFn K mg "_law_falls" lV ["lane","words","many"]) (ZdF:Callee P w K mg base "_law_under" 1 ["form","words"] (spG P w K pA)):Callee P w K mg base "_law_falls" 2 ["lane","words","many"] (spG P w K ZmK):=by
 refine T__law_falls.okG sc__law_falls (by walk_at"lnx") fun f cdv A outer s H E ts G k hr hh=>?_
 have nd:=sc__law_falls.nd
 obtain ⟨la,ps,lane,rs,vals,kn,rfl,gl,hpl,h100,hr100,hd,hv,q⟩:=hh
 refine' go_G [some (.ptr la),some (.lst ((rs.map vals).map T.int)),some (.int kn.length),none,none,none,none,none] rfl ?hb ?hg
 case hb=>exact (af (bJ (i:=3) nd rfl (Or.inl rfl) aa) (af (bX PassesOwn.never rfl (de rfl B.b_range (xc 2)) (xj 4 nd) (af (cr (xa K (pv 0) (pv 3)) (ca (K:=K) (n:=3) rfl rfl (aW (xj 5 nd) (aW (xj 6 nd) (aW (xj 7 nd) ce))))) (af (a8 (PW.pt (dy (aB eA (xa K (pv 7) aa) aK (az _)) (eK (aB eA (aZ (bt (K:=K) rfl) (by rfl) B.b_len bu (xc 1)) (pv 5) (az _))))) (ak (au dJ)) ba) (af (a8 (aB eA (xa K (pv 1) (xa K (pv 7) aa)) (xa K (pv 7) aa) (az _)) (ak (au di)) ba) (af (bJ (i:=1) nd rfl (Or.inr rfl) (xk ["form"] ["words"] [1] (cJ (K:=K) rfl (xa K (xa K (pv 7) aa) aa)) (fun y y y y y y=>(xg ZdF hr.m (xb 0 (xc 1)))))) (ak (cf (i:=3) nd rfl (Or.inl rfl) (xa K (xa K (pv 7) aa) aa)))))))) (af (a8 (aB bf (xa K (xa K (xa K (pv 0) (pv 3)) aa) aa) aK (az _)) (ak (au dJ)) ba) (ak (au di)))))
 have hat:∀ {i:Nat} {d:Sd} {l:List Sd},lane.drop i=d::l->∃ p,(List.zipWith sdT ps lane)[i]?=some (sdT p d):=fun {i d l} e=>by
  have ed:lane[i]?=some d:=by rw[<-ki i,<- kj,e];rfl
  have hi:=(ay.mp ed).1
  exact ⟨ps[i]'(by lia),by rw[fV,ed,ax (by lia)]⟩
 have hrl:(rngT (kn.length:Int).toNat).length=kn.length:=by unfold rngT;simp
 ac_nf
 refine ⟨kn.length,rfl,by lia,by lia,?_⟩
 refine ⟨fun i Γ' G'=>(∃ rs' c1 c2 c3 c4,Γ'=[some (.ptr la),some (.lst ((rs'.map vals).map T.int)),some (.int kn.length),some (.int (i:Int)),c1,c2,c3,c4]/\HdL i rs' (kn.drop i) (lane.drop i)/\(∀ p∈kn.take i,vals p.1.toNat=p.2)/\(∀ x∈rs',(vals x).natAbs<=10 ^ 900)/\rs'.length<=100)/\G'=G,⟨⟨rs,_,_,_,_,rfl,hd,fun p hp=>(by simp at hp),hv,hr100⟩,rfl⟩,fun y y y y=>trivial,?_,?_⟩
 .rintro i x Γ' G1 hx ⟨⟨rs',c1,c2,c3,c4,rfl,D,hall,hv',hl'⟩,rfl⟩
  have hi:i < kn.length:=by have:=(ay.mp hx).1;rwa [hrl] at this
  rw[oO hi] at D
  have eki:kn[i]?=some kn[i]:=ax hi
  generalize kn[i]=pn at D eki
  generalize hkd:kn.drop (i+1)=kd at D
  generalize hld:lane.drop i=ld at D
  cases D with
  | @cons _ r _ p n _ d l a b c e t =>
  obtain ⟨pa,ez⟩:=hat hld
  have hw:((rs'.map vals).map T.int)[r]?=some (.int (vals p.toNat)):=by rw[aj,aj,c];rfl
  obtain ⟨many,fr,word,rest⟩:=d
  dsimp only at a b e
  subst a e b
  ac_nf
  refine l_ix (sg_p gl) (bw (n:=i) rfl ez) ?_
  refine bW rfl ?_
  ac_nf
  have hln:((rs'.map vals).map T.int).length=rs'.length:=by rw[ai,ai]
  dsimp only
  rw[hln,aU rfl]
  ac_nf
  refine bM (bw (n:=r) rfl hw) ?_
  ac_nf
  by_cases hn:vals p.toNat=n
  .rw[aU hn]
   ac_nf
   refine cD (fun Γ'=>∃ c,Γ'=[c,some (.lst ((rs'.map vals).map T.int))]) ?_
   ac_nf
   refine ⟨_,rfl,by simp;have:=oP (List.range rs'.length) r;rw[cH] at this;lia,trivial,⟨none,rfl⟩,(((rs'.eraseIdx r).map vals).map T.int),by simp[length_eraseIdx],?_,?_⟩
   .rintro i2 x2 y2 Γ' hx2 hy2 ⟨c,rfl⟩
    rw[aj,aj] at hx2 hy2
    obtain ⟨g,eg,rfl⟩:=aH.mp hx2
    obtain ⟨j,ej,rfl⟩:=aH.mp eg
    rw[sN ej] at hy2
    obtain ⟨v,ev,rfl⟩:=aH.mp hy2
    obtain ⟨u,eu,rfl⟩:=aH.mp ev
    ac_nf
    refine ⟨⟨_,rfl⟩,rfl,?_⟩
    ac_nf
    unfold pA
    exact ⟨j,rs'.map vals,vals u,rfl,by rw[aj,eu];rfl,hv' u (aw eu),rfl,rfl⟩
   ac_nf
   dsimp only
   refine bB ⟨⟨rs'.eraseIdx r,_,_,_,_,rfl,?_,fun z hz=>?_,fun z hz=>hv' z (rA hz),aR (oP _ _) hl'⟩,rfl⟩
   .rw[hkd,<- drop_drop,hld];exact t
   .rw[b9,eki] at hz
    rcases aT.mp hz with hz|hz
    .exact hall z hz
    .have hz:z=(p,n):=by simpa using hz
     subst hz;exact hn
  .rw[aL hn]
   ac_nf
   have e:(kn.any fun p=>!decide (vals p.1.toNat=p.2))=true:=by
    rw[any_eq_true]
    exact ⟨(p,n),aw eki,by rw[aL hn];rfl⟩
   rw[e] at q
   exact ar q
 .rintro Γ' G1 ⟨⟨rs',c1,c2,c3,c4,rfl,D,hall,hv',hl'⟩,rfl⟩
  rw[hrl] at D hall
  rw[drop_length] at D
  rw[ck] at hall
  generalize hld:lane.drop kn.length=ld at D
  cases D with
  | @nil _ _ d l a b =>
  obtain ⟨pa,ez⟩:=hat hld
  rw[hrl]
  ac_nf
  refine l_ix (sg_p gl) (bw (n:=kn.length) rfl ez) ?_
  ac_nf
  rw[aL a]
  ac_nf
  have e:(kn.any fun p=>!decide (vals p.1.toNat=p.2))=false:=by
   rw[any_eq_false]
   intro p hp
   rw[aU (hall p hp)];decide
  rw[e] at q
  exact ar q
def ZmL:Pre:=fun ts G k=>∃ (la:Addr) (ps:List Addr) (lane:List Sd) (boxes:Nat) (kn:List (Int×Int)),ts=[.ptr la,.int boxes,.int kn.length]/\G la=some (.lst (List.zipWith sdT ps lane))/\ps.length=lane.length/\kn.length<=60/\boxes<=60/\HdL 0 (List.range boxes) kn lane/\(∀ p∈kn,0<=p.1)/\k (.lst (kn.map fun p=>fmT (ofW p.1))) G
theorem sc__law_asked:FnScope ["lane","many","holds","forms","found","k","turn","deed"] ["lane","many","holds"] (ap kE):=by walk_at"fs"
theorem ZhJ (B:Blt mg) (T__law_asked:TopFn K mg "_law_asked" kE ["lane","many","holds"]) (ZfA:Callee P w K mg base "_law_put" 2 ["form","forms"] (spG P w K ug)) (ZdE:Callee P w K mg base "_law_words" 1 ["many"] (spG P w K tS)):Callee P w K mg base "_law_asked" 3 ["lane","many","holds"] (spG P w K ZmL):=by
 refine T__law_asked.okG sc__law_asked (by walk_at"lnx") fun f cdv A outer s H E ts G k hr hh=>?_
 have nd:=sc__law_asked.nd
 obtain ⟨la,ps,lane,boxes,kn,rfl,gl,hpl,h100,hb60,hd,hp0,q⟩:=hh
 refine' go_G [some (.ptr la),some (.int boxes),some (.int kn.length),none,none,none,none,none] rfl ?hb ?hg
 case hb=>exact (af (bi (i:=3) nd rfl (Or.inr rfl) (xg ZdE hr.m (xc 1))) (af (f6 (i:=4) nd rfl (Or.inl rfl) (a9 ae)) (af (bJ (i:=5) nd rfl (Or.inl rfl) aa) (af (bX PassesOwn.never rfl (de rfl B.b_range (xc 2)) (xj 6 nd) (af (cf (i:=7) nd rfl (Or.inl rfl) (xa K (xa K (pv 0) (pv 5)) aa)) (af (cb (k_bm (K:=K) rfl PySem.F.plainAttrs_list PySem.F.slot_list_append PySem.F.type_list_append eM (pv 4) (aI (xa K (pv 3) (xa K (pv 7) aa)) ae))) (af (bJ (i:=3) nd rfl (Or.inr rfl) (xk ["form"] ["forms"] [3] (cJ (K:=K) rfl (xa K (xa K (pv 7) aa) aa)) (fun h h h h h h=>(xg ZfA hr.m (xb 0 (xc 1)))))) (ak (cf (i:=5) nd rfl (Or.inl rfl) (xa K (xa K (pv 7) aa) aa))))))) (ak (au (pv 4)))))))
 have hat:∀ {i:Nat} {d:Sd} {l:List Sd},lane.drop i=d::l->∃ p,(List.zipWith sdT ps lane)[i]?=some (sdT p d):=fun {i d l} e=>by
  have ed:lane[i]?=some d:=by rw[<-ki i,<- kj,e];rfl
  have hi:=(ay.mp ed).1
  exact ⟨ps[i]'(by lia),by rw[fV,ed,ax (by lia)]⟩
 have hrl:(rngT (kn.length:Int).toNat).length=kn.length:=by unfold rngT;simp
 ac_nf
 refine ⟨boxes,rfl,by lia,fun fa nfa=>?_⟩
 refine br ?_
 generalize hW:(aE boxes).map fmT=W
 have nla:la≠fa:=g_ne gl nfa
 have gl1:gput G fa (.lst W) la=some (.lst (List.zipWith sdT ps lane)):=by rw[gp_n nla];exact gl
 have gf1:gput G fa (.lst W) fa=some (.lst W):=gp_s
 refine bI (bR (gm ?_))
 ac_nf
 intro fo nfo
 have hcl:∀ {t:T},k t G->Cl k t (gput G fa (.lst W)):=fun {t} z=>da nfa nofun (ar z)
 generalize gput G fa (.lst W)=G1 at gl1 gf1 nfo hcl
 have gl2:∀ {c},gput G1 fo c la=some (.lst (List.zipWith sdT ps lane)):=fun {c}=>by rw[gp_n (g_ne gl1 nfo)];exact gl1
 have gf2:∀ {c},gput G1 fo c fa=some (.lst W):=fun {c}=>by rw[gp_n (g_ne gf1 nfo)];exact gf1
 refine br ?_
 ac_nf
 refine ⟨kn.length,rfl,by lia,by lia,?_⟩
 refine ⟨fun i Γ' G'=>(∃ rs' y c1 c2,Γ'=[some (.ptr la),some (.int boxes),some (.int kn.length),some y,some (.ptr fo),some (.int (i:Int)),c1,c2]/\HdL i rs' (kn.drop i) (lane.drop i)/\(∀ x∈rs',x < 60)/\rs'.length<=60/\((y=.ptr fa/\(rs'.map fun (j:Nat)=>ofW (j:Int)).map fmT=W)\/y=.lst ((rs'.map fun (j:Nat)=>ofW (j:Int)).map fmT)))/\G'=gput G1 fo (.lst ((kn.take i).map fun p=>fmT (ofW p.1))),⟨⟨_,_,_,_,rfl,hd,fun x hx=>by have:=cN.mp hx;lia,by rw[cH];exact hb60,.inl ⟨rfl,hW⟩⟩,rfl⟩,fun h h h h=>trivial,?_,?_⟩
 .rintro i x Γ' G2 hx ⟨⟨rs',y,c1,c2,rfl,D,hv',hl',hy⟩,rfl⟩
  have hi:i < kn.length:=by have:=(ay.mp hx).1;rwa [hrl] at this
  rw[oO hi] at D
  have eki:kn[i]?=some kn[i]:=ax hi
  generalize kn[i]=pn at D eki
  generalize hkd:kn.drop (i+1)=kd at D
  generalize hld:lane.drop i=ld at D
  cases D with
  | @cons _ r _ p n _ d l a b c e t =>
  obtain ⟨pa,ez⟩:=hat hld
  have hp:=hp0 (p,n) (aw eki)
  have hw:((rs'.map fun (j:Nat)=>ofW (j:Int)).map fmT)[r]?=some (fmT (ofW p)):=by rw[aj,aj,c];show some (fmT (ofW (p.toNat:Int)))=_;rw[rp hp]
  obtain ⟨many,fr,word,rest⟩:=d
  dsimp only at a b e
  subst a e b
  have sy:∀ {c},SqI (gput G1 fo c) y ((rs'.map fun (j:Nat)=>ofW (j:Int)).map fmT):=fun {c}=>by
   rcases hy with ⟨rfl,e⟩|rfl
   .exact si_p (by rw[e];exact gf2)
   .exact si_l
  ac_nf
  refine l_ix (sg_p gl2) (bw (n:=i) rfl ez) ?_
  ac_nf
  refine ⟨ty_p gp_s,?_⟩
  ac_nf
  refine l_ix (iX sy) (bw (n:=r) rfl hw) ?_
  ac_nf
  refine d7 gp_s (by rw[ai,cz];lia) ?_
  rw[gp_p]
  ac_nf
  refine cD (fun Γ'=>∃ c,Γ'=[c,some y]) ?_
  ac_nf
  refine ⟨_,rfl,by simp;have:=oP (List.range rs'.length) r;rw[cH] at this;lia,trivial,⟨none,rfl⟩,((rs'.eraseIdx r).map fun (j:Nat)=>ofW (j:Int)).map fmT,by simp[length_eraseIdx],?_,?_⟩
  .rintro i2 x2 y2 Γ' hx2 hy2 ⟨c,rfl⟩
   rw[aj,aj] at hx2 hy2
   obtain ⟨g,eg,rfl⟩:=aH.mp hx2
   obtain ⟨j,ej,rfl⟩:=aH.mp eg
   rw[sN ej] at hy2
   obtain ⟨v,ev,rfl⟩:=aH.mp hy2
   obtain ⟨u,eu,rfl⟩:=aH.mp ev
   have hj:j < rs'.length:=(ay.mp eu).1
   have hu60:=hv' u (aw eu)
   ac_nf
   refine ⟨⟨_,rfl⟩,rfl,?_⟩
   ac_nf
   have ep:dA (ofW (j:Int)) (rs'.map fun (j:Nat)=>ofW (j:Int))=ofW (u:Int):=u6 (by rw[aj,eu];rfl) (PlW.cano (n:=60) (.inr ⟨u,hu60,rfl⟩))
   refine ⟨60,10 ^ 91,10 ^ 91,ofW (j:Int),rs'.map fun (j:Nat)=>ofW (j:Int),y,rfl,sy,by rw[ai];exact PlW.fo (.inr ⟨j,hj,rfl⟩),by rw[ai];lia,by decide,fun g hg=>?_,by decide,by decide,?_⟩
   .obtain ⟨z,hz,rfl⟩:=bL.mp hg
    exact PlW.fo (.inr ⟨z,hv' z hz,rfl⟩)
   .rw[ep];exact ⟨rfl,rfl⟩
  ac_nf
  dsimp only
  refine bB ⟨⟨rs'.eraseIdx r,_,_,_,rfl,?_,fun z hz=>hv' z (rA hz),aR (oP _ _) hl',.inr rfl⟩,?_⟩
  .rw[hkd,<- drop_drop,hld];exact t
  .rw[b9,eki,aO];rfl
 .rintro Γ' G2 ⟨⟨rs',y,c1,c2,rfl,D,hv',hl',hy⟩,rfl⟩
  rw[hrl,ck]
  ac_nf
  exact ix nfo (hcl q)
end
end My
end
section
namespace My
open PySem L2
section
variable {P:Program} {w:World} {K:W.Frag} {mg:Str->Option Value} {base:Heap}
def kW:Pre:=fun ts G k=>∃ Q s r,ts=[pgT Q,sfT s]/\0<=s.1/\0<=s.2.1/\cx Q s.1 s.2.1=some r/\k (rowT r) G
theorem sc_row_of:FnScope ["program","frame"] ["program","frame"] (ap lf):=by walk_at"fs"
theorem Znx (T_row_of:TopFn K mg "row_of" lf ["program","frame"]):Callee P w K mg base "row_of" 1 ["program","frame"] (spG P w K kW):=by
 refine T_row_of.okG sc_row_of (by walk_at"lnx") fun f cdv A outer s H E ts G k hr hh=>?_
 have nd:=sc_row_of.nd
 obtain ⟨Q,s,r,rfl,h1,h2,hr,q⟩:=hh
 refine' go_G [some (pgT Q),some (sfT s)] rfl ?hb ?hg
 case hb=>exact (ak (au (xa K (xa K (xa K (pv 0) (xa K (pv 1) aa)) aa) (xa K (pv 1) aa))))
 unfold cx at hr
 obtain ⟨d,ed,er⟩:=Option.bind_eq_some_iff.mp hr
 ext
 refine bM (at_i h1 (by rw[aj,ed];rfl)) ?_
 ext
 refine bM (at_i h2 (by rw[aj,er];rfl)) ?_
 exact ar q
def rY:Pre:=fun ts G k=>∃ r n,ts=[rowT r,.int n]/\k (.bl (r.goes n)) G
theorem sc_goes_to_row:FnScope ["row","number"] ["row","number"] (ap mx):=by walk_at"fs"
theorem ZgO (T_goes_to_row:TopFn K mg "goes_to_row" mx ["row","number"]):Callee P w K mg base "goes_to_row" 1 ["row","number"] (spG P w K rY):=by
 refine T_goes_to_row.okG sc_goes_to_row (by walk_at"lnx") fun f cdv A outer s H E ts G k hr hh=>?_
 have nd:=sc_goes_to_row.nd
 obtain ⟨r,n,rfl,q⟩:=hh
 refine' go_G [some (rowT r),some (.int n)] rfl ?hb ?hg
 case hb=>exact (ak (au (fB (aB bf (xa K (pv 0) aa) aK (az _)) (db bf (pv 1) aa (az _)) (db ju (pv 1) aa (az _)))))
 cases r <;> (ext;exact ar q)
abbrev SfL (G:GH) (x:T) (fr:List SF) (s:SF):Prop:=SqI G x ((fr++[s]).map sfT)
theorem SfL.last {G:GH} {x:T} {fr:List SF} {s:SF} (h:SfL G x fr s):SqG G x (fr.map sfT++[sfT s]):=.inr (by rw[SfL,aO] at h;exact h)
theorem SfL.cut {G:GH} {x:T} {fr:List SF} {s:SF} (h:SfL G x fr s):cutT ((fr++[s]).map sfT) none (some (-1))=fr.map sfT:=by rw[aO];exact ZlQ _ _
def nO:Pre:=fun ts G k=>∃ fr s p f x,ts=[x,.int p,fmT f]/\SfL G x fr s/\fr.length<=100/\0<=p/\p < s.2.2.length/\s.2.2.length<=1000/\k (.lst ((gM fr s p f).map sfT)) G
theorem sc_with_box:FnScope ["frames","p","form","last"] ["frames","p","form"] (ap lE):=by walk_at"fs"
theorem ZjV (T_with_box:TopFn K mg "with_box" lE ["frames","p","form"]):Callee P w K mg base "with_box" 1 ["frames","p","form"] (spG P w K nO):=by
 refine T_with_box.okG sc_with_box (by walk_at"lnx") fun f cdv A outer s H E ts G k hr hh=>?_
 have nd:=sc_with_box.nd
 obtain ⟨fr,s,p,f,x,rfl,hx,hl,p0,p1,hs,q⟩:=hh
 refine' go_G [some x,some (.int p),some (fmT f),none] rfl ?hb ?hg
 case hb=>exact (af (cf (i:=3) nd rfl (Or.inl rfl) (xa K (pv 0) (cq cm aa))) (ak (au (av fg (fi (k_sl (K:=K) rfl) (pv 0) fH (fE (cq cm aa))) (a9 (be (aD (aI (xa K (pv 3) aa) (bZ (av bm (xa K (pv 3) aa) aa) (bZ (av (qA (K:=K) rfl) (av (qA (K:=K) rfl) (fi (lQ (K:=K) rfl) (xa K (pv 3) aa) fH (fE (pv 1))) (aD (xc 2))) (fi (lQ (K:=K) rfl) (xa K (pv 3) aa) (fE (av bm (pv 1) aa)) fH)) ae)))) ae))))))
 ext
 refine l_ix hx.last (dG _ _) ?_
 ext
 refine oY hx ?_
 rw[hx.cut]
 ext
 refine kI ?_
 rw[Zpy p0 (by rw[ai];lia)]
 ext
 have lt:((s.2.2.map fmT).take p.toNat).length<=s.2.2.length:=by rw[cz,ai];exact jV _ _
 have ld:((s.2.2.map fmT).drop (p+1).toNat).length<=s.2.2.length:=by rw[iA,ai];exact jW _ _
 refine qt (by rw[fc];lia) ?_
 ext
 refine kI ?_
 rw[rH (by lia) (by rw[ai];lia)]
 refine qt (by rw[aA,fc];lia) ?_
 ext
 refine fG si_l si_l (by rw[ai];simp;lia) ?_
 have e:(s.2.2.map fmT).take p.toNat++[fmT f]++(s.2.2.map fmT).drop (p+1).toNat=(s.2.2.set p.toNat f).map fmT:=by
  have hp:p.toNat < s.2.2.length:=by lia
  rw[<-map_take,<- map_drop,set_eq_take_append_cons_drop,ag hp,aO,aF,fP,show (p+1).toNat=p.toNat+1 by lia]
  rfl
 rw[e]
 unfold gM at q
 rw[aO] at q
 exact ar q
def lz:Pre:=fun ts G k=>∃ fr s t x,ts=[x,.int t]/\SfL G x fr s/\fr.length<=100/\k (.lst ((dC fr s t).map sfT)) G
theorem sc_at_row:FnScope ["frames","at","last"] ["frames","at"] (ap mj):=by walk_at"fs"
theorem ZnD (T_at_row:TopFn K mg "at_row" mj ["frames","at"]):Callee P w K mg base "at_row" 1 ["frames","at"] (spG P w K lz):=by
 refine T_at_row.okG sc_at_row (by walk_at"lnx") fun f cdv A outer s H E ts G k hr hh=>?_
 have nd:=sc_at_row.nd
 obtain ⟨fr,s,t,x,rfl,hx,hl,q⟩:=hh
 refine' go_G [some x,some (.int t),none] rfl ?hb ?hg
 case hb=>exact (af (cf (i:=2) nd rfl (Or.inl rfl) (xa K (pv 0) (cq cm aa))) (ak (au (av fg (fi (k_sl (K:=K) rfl) (pv 0) fH (fE (cq cm aa))) (a9 (be (aD (aI (xa K (pv 2) aa) (xb 1 (aI (xa K (pv 2) aa) ae)))) ae))))))
 ext
 refine l_ix hx.last (dG _ _) ?_
 ext
 refine oY hx ?_
 rw[hx.cut]
 ext
 refine fG si_l si_l (by rw[ai];simp;lia) ?_
 unfold dC at q
 rw[aO] at q
 exact ar q
def sj:Pre:=fun ts G k=>∃ Q n B s r m p f,ts=[rowT r,.tup (s.2.2.map fmT)]/\SfOk Q n B s/\B<=10 ^ 900/\n < 64/\r.Ok Q s.2.2.length m/\eQ s r=some (p,f)/\k (fmT f) G
theorem sc_reckoned:FnScope ["row","forms"] ["row","forms"] (ap nP):=by walk_at"fs"
theorem ZjW (T_reckoned:TopFn K mg "reckoned" nP ["row","forms"]) (Cplain:Callee P w K mg base "plain" 1 ["n"] (spG P w K i8)) (Cplus:Callee P w K mg base "plus" 3 ["one","other"] (spG P w K (lu 1))) (Cless:Callee P w K mg base "less" 3 ["one","other"] (spG P w K (lu (-1)))) (Ctimes:Callee P w K mg base "times" 2 ["form","n"] (spG P w K tV)):Callee P w K mg base "reckoned" 4 ["row","forms"] (spG P w K sj):=by
 refine T_reckoned.okG sc_reckoned (by walk_at"lnx") fun f cdv A outer s H E ts G k hr hh=>?_
 have nd:=sc_reckoned.nd
 obtain ⟨Q,n,B,s,r,m,p,f,rfl,hs,hB,hn,ok,rk,q⟩:=hh
 refine' go_G [some (rowT r),some (.tup (s.2.2.map fmT))] rfl ?hb ?hg
 case hb=>exact (af (a8 (aB bf (xa K (pv 0) aa) aK (az _)) (ak (au (xg Cplain hr.m (aI (xa K (pv 0) aa) ae)))) ba) (af (a8 (aB bf (xa K (pv 0) aa) aK (az _)) (ak (au (xa K (pv 1) (xa K (pv 0) aa)))) ba) (af (a8 (aB bf (xa K (pv 0) aa) aK (az _)) (ak (au (xg Cplus hr.m (aI (xa K (pv 1) (xa K (pv 0) aa)) (aI (xa K (pv 1) (xa K (pv 0) aa)) ae))))) ba) (af (a8 (aB bf (xa K (pv 0) aa) aK (az _)) (ak (au (xg Cless hr.m (aI (xa K (pv 1) (xa K (pv 0) aa)) (aI (xa K (pv 1) (xa K (pv 0) aa)) ae))))) ba) (ak (au (xg Ctimes hr.m (aI (xa K (pv 1) (xa K (pv 0) aa)) (aI (xa K (pv 0) aa) ae)))))))))
 have bx:∀ {q:Int},In0 q s.2.2.length->FoB n (gtF s q)/\atI (s.2.2.map fmT) q=some (fmT (gtF s q)):=fun {q} hq=>by
  obtain ⟨h1,h2⟩:=uu hs hq.1 hq.2
  exact ⟨⟨h1.le (aq _) hB,hn⟩,at_i hq.1 (by rw[aj,h2];rfl)⟩
 cases r with
 | put a b=>cases rk;ext;exact ⟨_,rfl,ar q⟩
 | copy a b=>cases rk;ext;exact cM (bx ok.2).2 (ar q)
 | plus a b c =>
  cases rk;ext
  refine cM (bx ok.2.1).2 ?_
  ext
  refine cM (bx ok.2.2).2 ?_
  ext
  exact ⟨n,_,_,rfl,(bx ok.2.1).1,(bx ok.2.2).1,ar q⟩
 | less a b c =>
  cases rk;ext
  refine cM (bx ok.2.1).2 ?_
  ext
  refine cM (bx ok.2.2).2 ?_
  ext
  exact ⟨n,_,_,rfl,(bx ok.2.1).1,(bx ok.2.2).1,ar q⟩
 | times a b c =>
  cases rk;ext
  refine cM (bx ok.2.1).2 ?_
  ext
  exact ⟨n,_,_,rfl,(bx ok.2.1).1,aR ok.2.2 (by decide +kernel),ar q⟩
 | _=>cases rk
def t3:Pre:=fun ts G k=>∃ fr s r x p t,ts=[x,rowT r]/\SfL G x fr s/\fr.length<=100/\(r=.zero p t\/r=.below p t)/\0<=p/\p < s.2.2.length/\k (.lst ((dC fr s (if r.goes (gtF s p).1=true then t else s.2.1+1)).map sfT)) G
theorem jN {s:SF} {p:Int} (p0:0<=p) (p1:p < s.2.2.length):atI (s.2.2.map fmT) p=some (fmT (gtF s p)):=at_i p0 (by
 rw[aj]
 unfold gtF
 rw[dU,ax (by lia)];rfl)
theorem sc_tested:FnScope ["frames","row","number"] ["frames","row"] (ap kZ):=by walk_at"fs"
theorem Znv (T_tested:TopFn K mg "tested" kZ ["frames","row"]) (Cgoes_to_row:Callee P w K mg base "goes_to_row" 1 ["row","number"] (spG P w K rY)) (Cat_row:Callee P w K mg base "at_row" 1 ["frames","at"] (spG P w K lz)):Callee P w K mg base "tested" 2 ["frames","row"] (spG P w K t3):=by
 refine T_tested.okG sc_tested (by walk_at"lnx") fun f cdv A outer s H E ts G k hr hh=>?_
 have nd:=sc_tested.nd
 obtain ⟨fr,s,r,x,p,t,rfl,hx,hl,hr2,p0,p1,q⟩:=hh
 refine' go_G [some x,some (rowT r),none] rfl ?hb ?hg
 case hb=>exact (af (cf (i:=2) nd rfl (Or.inl rfl) (xa K (xa K (xa K (xa K (pv 0) (cq cm aa)) aa) (xa K (pv 1) aa)) aa)) (ak (au (xg Cat_row hr.m (xb 0 (i9 (fB (dj (xg Cgoes_to_row hr.m (xb 1 (xc 2)))) (xa K (pv 1) aa) (av bm (xa K (xa K (pv 0) (cq cm aa)) aa) aa)) ae))))))
 rcases hr2 with rfl|rfl
 all_goals
  ext
  refine l_ix hx.last (dG _ _) ?_
  ext
  refine cM (jN p0 p1) ?_
  ext
  refine ⟨_,_,rfl,?_⟩
  ext
  generalize hb:Rw.goes _ _=b at q ⊢
  cases b with
  | true=>ext;exact ⟨fr,s,_,x,rfl,hx,hl,ar q⟩
  | false =>
   ext
   refine l_ix hx.last (dG _ _) ?_
   ext
   exact ⟨fr,s,_,x,rfl,hx,hl,ar q⟩
def t6:Pre:=fun ts G k=>∃ Q s p g qs d,ts=[pgT Q,rowT (.call p g qs),.tup (s.2.2.map fmT)]/\0<=g/\Q[g.toNat]?=some d/\(∀ q∈qs,In0 q s.2.2.length)/\(qs.length:Int)<=d.boxes/\d.boxes<=1000/\k (sfT (gP Q s g qs)) G
theorem sc_called:FnScope ["program","row","forms","handed","lacking"] ["program","row","forms"] (ap mh):=by walk_at"fs"
theorem ZnC (B:Blt mg) (T_called:TopFn K mg "called" mh ["program","row","forms"]) (Cplain:Callee P w K mg base "plain" 1 ["n"] (spG P w K i8)):Callee P w K mg base "called" 2 ["program","row","forms"] (spG P w K t6):=by
 refine T_called.okG sc_called (by walk_at"lnx") fun f cdv A outer s H E ts G k hr hh=>?_
 have nd:=sc_called.nd
 obtain ⟨Q,s,p,g,qs,d,rfl,g0,hd,hq,hl,hl2,q⟩:=hh
 refine' go_G [some (pgT Q),some (rowT (.call p g qs)),some (.tup (s.2.2.map fmT)),none,none] rfl ?hb ?hg
 case hb=>exact (af (gp (i:=3) (LN:=["q"]) (FN:=["forms"]) (fr:=[2]) rfl nd rfl rfl (cv (by rfl)) (cJ (K:=K) rfl (xa K (pv 1) aa)) (fun j j j j j j=>(xj 0 (show ((["q"]:List Str)++(["forms"]:List Str)).Nodup by decide +kernel))) (fun j j j j j j=>dI) (fun j j j j j j=>(xa K (pv 1) (pv 0)))) (af (d9 (i:=4) nd rfl (Or.inl rfl) (av dO (xa K (xa K (pv 0) (xa K (pv 1) aa)) aa) (aZ (bt (K:=K) rfl) (by rfl) B.b_len bu (xc 3)))) (ak (au (aD (aI (xa K (pv 1) aa) (ao aa (aS (cL (dN (K:=K) rfl) (by rfl) B.b_tuple dB (bZ (av fg (pv 3) (av op_rep (a9 (aS (xg Cplain hr.m (ao aa ae)) ae)) (pv 4))) ae)) ae))))))))
 ext
 refine cD (fun Γ'=>∃ a,Γ'=[a,some (.tup (s.2.2.map fmT))]) ?_
 ext
 refine ⟨_,rfl,?_⟩
 rw[oQ]
 refine ⟨by rw[ai];lia,trivial,⟨none,rfl⟩,(qs.map (gtF s)).map fmT,by simp,?_,?_⟩
 .rintro i x y Γ' hx hy ⟨a,rfl⟩
  rw[aj] at hx hy
  rw[aj] at hy
  obtain ⟨z,ez,rfl⟩:=aH.mp hx
  rw[ez] at hy
  cases hy
  have hz:=hq z (aw ez)
  ext
  refine ⟨⟨_,rfl⟩,rfl,?_⟩
  ext
  exact cM (jN hz.1 hz.2) ⟨rfl,rfl⟩
 ext
 refine bM (at_i g0 (by rw[aj,hd];rfl)) ?_
 ext
 refine ⟨_,rfl,?_⟩
 ext
 rw[ai,ai]
 refine l_rep (by lia) (by lia) ?_
 ext
 refine fG si_l si_l (by rw[ai,ai,jU];lia) ?_
 ext
 refine dM sg_l (fun j=>nofun) ?_
 ext
 have e:(qs.map (gtF s)).map fmT++List.replicate (d.boxes - qs.length).toNat (fmT (0,[]))=(qs.map (gtF s)++List.replicate (hX Q g - qs.length).toNat (0,[])).map fmT:=by
  have eb:hX Q g=d.boxes:=by unfold hX;rw[hd];rfl
  rw[aO,map_replicate,eb]
 rw[e]
 exact ar q
abbrev optT:Option (List SF)->T
 | none=>.non
 | some fr=>.lst (fr.map sfT)
structure SlOk (Q:List Df) (n B:Nat) (fr:List SF) (s:SF):Prop where
 pk:PgK Q
 f:FrsOk Q n B fr s
 b:B<=10 ^ 900
 n:n < 64
def qM:Pre:=fun ts G k=>∃ Q n B fr s x,ts=[pgT Q,x]/\SfL G x fr s/\SlOk Q n B fr s/\k (optT (fF Q fr s)) G
theorem sc_silent:FnScope ["program","frames","row","forms","call"] ["program","frames"] (ap ng):=by walk_at"fs"
theorem Znw (B:Blt mg) (G:Glb K w mg) (T_silent:TopFn K mg "silent" ng ["program","frames"]) (Crow_of:Callee P w K mg base "row_of" 1 ["program","frame"] (spG P w K kW)) (Cwith_box:Callee P w K mg base "with_box" 1 ["frames","p","form"] (spG P w K nO)) (Creckoned:Callee P w K mg base "reckoned" 4 ["row","forms"] (spG P w K sj)) (Cat_row:Callee P w K mg base "at_row" 1 ["frames","at"] (spG P w K lz))
  (Cis_plain:Callee P w K mg base "is_plain" 1 ["form"] (spG P w K h9)) (Ctested:Callee P w K mg base "tested" 2 ["frames","row"] (spG P w K t3)) (Ccalled:Callee P w K mg base "called" 2 ["program","row","forms"] (spG P w K t6)):Callee P w K mg base "silent" 5 ["program","frames"] (spG P w K qM):=by
 refine T_silent.okG sc_silent (by walk_at"lnx") fun f cdv A outer s H E ts G' k hr hh=>?_
 have nd:=sc_silent.nd
 obtain ⟨Q,n,Bd,fr,s,x,rfl,hx,⟨PK,fo,hB,hn⟩,q⟩:=hh
 refine' go_G [some (pgT Q),some x,none,none,none] rfl ?hb ?hg
 case hb=>exact (af (bi (i:=2) nd rfl (Or.inl rfl) (xg Crow_of hr.m (xb 0 (aI (xa K (pv 1) (cq cm aa)) ae)))) (af (cf (i:=3) nd rfl (Or.inl rfl) (xa K (xa K (pv 1) (cq cm aa)) aa)) (af (a8 (aB (k_in (K:=K) rfl) (xa K (pv 2) aa) (ZoX (K:=K) (by rfl) G.c_RECKONINGS) (by with_unfolding_all rfl)) (ak (au (xg Cwith_box hr.m (xb 1 (aI (xa K (pv 2) aa) (aS (xg Creckoned hr.m (xb 2 (xc 3))) ae)))))) ba) (af (a8 (aB bf (xa K (pv 2) aa) aK (az _)) (ak (au (xg Cat_row hr.m (xb 1 (aI (xa K (pv 2) aa) ae))))) ba) (af (a8 (PW.pt (ft (aB (k_in (K:=K) rfl) (xa K (pv 2) aa) (aD (ao aK (ao aK ae))) (by with_unfolding_all rfl)) (fk (dj (xg Cis_plain hr.m (aI (xa K (pv 3) (xa K (pv 2) aa)) ae)))))) (ak (au (xg Ctested hr.m (xb 1 (xc 2))))) ba) (af (a8 (PW.pt (ft (aB bf (xa K (pv 2) aa) aK (az _)) (fk (aB ju (aZ (bt (K:=K) rfl) (by rfl) B.b_len bu (xc 1)) (oS (by rfl) G.c_MOST_SIGN_FRAMES) (az _))))) (ak (au (av fg (pv 1) (a9 (aS (xg Ccalled hr.m (xb 0 (xb 2 (xc 3)))) ae))))) ba) (af (a8 (PW.pt (ft (aB bf (xa K (pv 2) aa) aK (az _)) (fk (aB gD (aZ (bt (K:=K) rfl) (by rfl) B.b_len bu (xc 1)) aa (az _))))) (af (bi (i:=4) nd rfl (Or.inl rfl) (xg Crow_of hr.m (xb 0 (aI (xa K (pv 1) (cq cm aa)) ae)))) (ak (au (xg Cwith_box hr.m (aI (fi (k_sl (K:=K) rfl) (pv 1) fH (fE (cq cm aa))) (aI (xa K (pv 4) aa) (aI (xa K (pv 3) (xa K (pv 2) aa)) ae))))))) ba) (ak (au dJ)))))))))
 have hs:=fo.all s (by simp)
 obtain ⟨d,r,hd,h2,hrow,h4,h0,h3,h5⟩:=cW hs
 have D:=PK.ok.2.2 d hd
 have ok:=D.rows r (aw h4)
 rw[<-h5] at ok
 have few:=fo.few
 have hb8:=PK.b d hd
 have len:SqG G' x (fr.map sfT++[sfT s]):=hx.last
 unfold fF at q
 rw[hrow] at q
 ext
 refine l_ix len (dG _ _) ?_
 ext
 refine ⟨Q,s,r,rfl,h0,h3,hrow,?_⟩
 ext
 refine l_ix len (dG _ _) ?_
 have wb:∀ {p:Int} {f:Fm} {k:T->GH->Prop},In0 p s.2.2.length->k (.lst ((gM fr s p f).map sfT)) G'->nO [x,.int p,fmT f] G' k:=fun {p f k} hp q=>⟨fr,s,p,f,x,rfl,hx,by lia,hp.1,hp.2,by lia,q⟩
 cases r with
 | put a b=>ext;refine ⟨Q,n,Bd,s,_,_,_,_,rfl,hs,hB,hn,ok,rfl,?_⟩;ext;exact wb ok.1 (ar q)
 | copy a b=>ext;refine ⟨Q,n,Bd,s,_,_,_,_,rfl,hs,hB,hn,ok,rfl,?_⟩;ext;exact wb ok.1 (ar q)
 | plus a b c=>ext;refine ⟨Q,n,Bd,s,_,_,_,_,rfl,hs,hB,hn,ok,rfl,?_⟩;ext;exact wb ok.1 (ar q)
 | less a b c=>ext;refine ⟨Q,n,Bd,s,_,_,_,_,rfl,hs,hB,hn,ok,rfl,?_⟩;ext;exact wb ok.1 (ar q)
 | times a b c=>ext;refine ⟨Q,n,Bd,s,_,_,_,_,rfl,hs,hB,hn,ok,rfl,?_⟩;ext;exact wb ok.1 (ar q)
 | take a=>ext;refine gH (ss:=["zero","below"]) sg_t ?_;ext;exact ar q
 | tell a=>ext;refine gH (ss:=["zero","below"]) sg_t ?_;ext;exact ar q
 | jump t=>ext;exact ⟨fr,s,t,x,rfl,hx,by lia,ar q⟩
 | zero p t =>
  ext
  refine gH (ss:=["zero","below"]) sg_t ?_
  ext
  refine cM (jN ok.1.1 ok.1.2) ?_
  ext
  refine ⟨_,rfl,?_⟩
  ext
  dsimp only [eQ] at q
  refine gj (fun h=>?_) (fun h=>?_)
  .rw[ag h] at q
   ext
   refine ⟨fr,s,_,x,p,t,rfl,hx,by lia,.inl rfl,ok.1.1,ok.1.2,?_⟩
   have e:(if (Rw.zero p t).goes (gtF s p).1=true then t else s.2.1+1)=if (gtF s p).1=0 then t else s.2.1+1:=by
    show (if decide ((gtF s p).1=0)=true then t else _)=_
    by_cases h:(gtF s p).1=0 <;> simp[h]
   rw[e]
   exact ar q
  .rw[ah h] at q
   ext
   exact ar q
 | below p t =>
  ext
  refine gH (ss:=["zero","below"]) sg_t ?_
  ext
  refine cM (jN ok.1.1 ok.1.2) ?_
  ext
  refine ⟨_,rfl,?_⟩
  ext
  dsimp only [eQ] at q
  refine gj (fun h=>?_) (fun h=>?_)
  .rw[ag h] at q
   ext
   refine ⟨fr,s,_,x,p,t,rfl,hx,by lia,.inr rfl,ok.1.1,ok.1.2,?_⟩
   have e:(if (Rw.below p t).goes (gtF s p).1=true then t else s.2.1+1)=if (gtF s p).1 < 0 then t else s.2.1+1:=by
    show (if decide ((gtF s p).1 < 0)=true then t else _)=_
    by_cases h:(gtF s p).1 < 0 <;> simp[h]
   rw[e]
   exact ar q
  .rw[ah h] at q
   ext
   exact ar q
 | call p g qs =>
  ext
  refine gH (ss:=["zero","below"]) sg_t ?_
  ext
  refine dh len ?_
  ext
  dsimp only [eQ] at q
  rw[aA,ai,fc]
  refine gj (fun h=>?_) (fun h=>?_)
  .rw[ag (by lia)] at q
   ext
   obtain ⟨d2,g0,hg,hq⟩:=ok.2.1
   have D2:=PK.ok.2.2 d2 (aw hg)
   refine ⟨Q,s,p,g,qs,d2,rfl,g0,hg,ok.2.2,by rw[hq];exact D2.t.2,by have:=PK.b d2 (aw hg);lia,?_⟩
   ext
   refine fG hx si_l (by rw[ai,aA];simp;lia) ?_
   have e:(fr++[s]).map sfT++[sfT (gP Q s g qs)]=(fr++[s,gP Q s g qs]).map sfT:=by simp
   rw[e]
   exact ar q
  .rw[ah (by lia)] at q
   ext
   exact ar q
 | back p =>
  ext
  refine gH (ss:=["zero","below"]) sg_t ?_
  ext
  refine dh len ?_
  ext
  dsimp only [eQ] at q
  rw[aA,ai,fc]
  cases hl:fr.getLast? with
  | none =>
   rw[hl] at q
   rw[getLast?_eq_none_iff.mp hl]
   ext
   exact ar q
  | some c =>
   rw[hl] at q
   obtain ⟨ys,rfl⟩:=rn.mp hl
   rw[aA,fc]
   refine gj (fun h=>?_) (fun h=>absurd h (by lia))
   have hc:=fo.all c (by simp)
   obtain ⟨p2,g,qs,hcall⟩:=fo.call c (by simp)
   obtain ⟨dc,rc,hdc,h2c,hrc,h4c,h0c,h3c,h5c⟩:=cW hc
   rw[hcall] at hrc;cases hrc
   have okc:=(PK.ok.2.2 dc hdc).rows _ (aw h4c)
   rw[<-h5c] at okc
   dsimp only at q
   rw[iT,hcall] at q
   have len2:SqG G' x (ys.map sfT++[sfT c,sfT s]):=by
    have:=len
    rw[aO,fP] at this
    exact this
   ext
   refine l_ix len2 (ZpF _ _ _) ?_
   ext
   refine ⟨Q,c,_,rfl,h0c,h3c,hcall,?_⟩
   ext
   refine oY hx ?_
   rw[hx.cut]
   ext
   refine cM (jN ok.1 ok.2) ?_
   ext
   have h8:=PK.b dc hdc
   rw[aA] at few
   exact ⟨ys,c,p2,gtF s p,_,rfl,si_l,by lia,okc.1.1,okc.1.2,by lia,ar q⟩
def eJ (fl:List Fm) (s:SF):SF:=(s.1,s.2.1,s.2.2.map fun f=>dA f fl)
def tD:Pre:=fun ts G k=>∃ (fr:List SF) (fl:List Fm) (x y:T) (m:Nat),ts=[x,y]/\SqI G x (fr.map sfT)/\SqI G y (fl.map fmT)/\fr.length<=1000/\(∀ s∈fr,s.2.2.length<=1000/\∀ f∈s.2.2,FoB fl.length f)/\m < 64/\(∀ g∈fl,FoB m g)/\k (.lst ((fr.map (eJ fl)).map sfT)) G
theorem sc_filled:FnScope ["frames","forms"] ["frames","forms"] (ap lp):=by walk_at"fs"
theorem ZnB (B:Blt mg) (T_filled:TopFn K mg "filled" lp ["frames","forms"]) (Cput_in:Callee P w K mg base "put_in" 2 ["form","forms"] (spG P w K tE)):Callee P w K mg base "filled" 3 ["frames","forms"] (spG P w K tD):=by
 refine T_filled.okG sc_filled (by walk_at"lnx") fun f cdv A outer s H E ts G k hr hh=>?_
 have nd:=sc_filled.nd
 obtain ⟨fr,fl,x,y,m,rfl,hx,hy,hl,hf,hm,hg,q⟩:=hh
 refine' go_G [some x,some y] rfl ?hb ?hg
 case hb=>exact (ak (au (eL (LN:=["f","at","boxes"]) (FN:=["forms"]) (fr:=[1]) rfl (cv (by rfl)) (bT (K:=K) rfl (pv 0)) (fun v v v v v v=>(ca (K:=K) (n:=3) rfl rfl (aW (xj 0 (show ((["f","at","boxes"]:List Str)++(["forms"]:List Str)).Nodup by decide +kernel)) (aW (xj 1 (show ((["f","at","boxes"]:List Str)++(["forms"]:List Str)).Nodup by decide +kernel)) (aW (xj 2 (show ((["f","at","boxes"]:List Str)++(["forms"]:List Str)).Nodup by decide +kernel)) ce))))) (fun v v v v v v=>dI) (fun cl C fp pins s H=>(aD (xb 0 (xb 1 (aS (cL (dN (K:=K) rfl) (by rfl) B.b_tuple dB (cU (xk ["form"] ["forms"] [3] (cJ (K:=K) rfl (pv 2)) (fun v v v v v v=>(xg Cput_in hr.m (xb 0 (xc 1))))) ae)) ae))))))))
 refine fz ?_
 refine cD (fun Γ'=>∃ a b c,Γ'=[a,b,c,some y]) ?_
 ext
 refine ⟨_,hx,by rw[ai];lia,hx,⟨none,none,none,rfl⟩,(fr.map (eJ fl)).map sfT,by simp,?_,ar q⟩
 rintro i z y2 Γ' hz hy2 ⟨a,b,c,rfl⟩
 rw[aj] at hz hy2
 rw[aj] at hy2
 obtain ⟨s,es,rfl⟩:=aH.mp hz
 rw[es] at hy2
 cases hy2
 obtain ⟨hl2,hfs⟩:=hf s (aw es)
 refine bW rfl ?_
 ext
 refine ⟨⟨_,_,_,rfl⟩,rfl,?_⟩
 ext
 refine cD (fun Γ'=>∃ a,Γ'=[a,some y]) ?_
 ext
 refine ⟨_,rfl,by rw[ai];lia,trivial,⟨none,rfl⟩,(s.2.2.map fun f=>dA f fl).map fmT,by simp,?_,?_⟩
 .rintro j z2 y3 Γ2 hz2 hy3 ⟨a2,rfl⟩
  rw[aj] at hz2 hy3
  rw[aj] at hy3
  obtain ⟨f,ef,rfl⟩:=aH.mp hz2
  rw[ef] at hy3
  cases hy3
  ext
  refine ⟨⟨_,rfl⟩,rfl,?_⟩
  ext
  exact ⟨_,m,f,fl,y,rfl,hy,hfs f (aw ef),rfl,hm,hg,rfl,rfl⟩
 .ext
  refine dM sg_l (fun v=>nofun) ?_
  ext
  exact ⟨rfl,rfl⟩
def pb:Pre:=fun ts G k=>∃ f:Fm,ts=[fmT f]/\f.2.length<=1000/\k (.bl (eW f)) G
theorem sc_is_great_form:FnScope ["form","numbers"] ["form"] (ap lD):=by walk_at"fs"
theorem Zfu (B:Blt mg) (G:Glb K w mg) (T_is_great_form:TopFn K mg "is_great_form" lD ["form"]):Callee P w K mg base "is_great_form" 1 ["form"] (spG P w K pb):=by
 refine T_is_great_form.okG sc_is_great_form (by walk_at"lnx") fun f cdv A outer s H E ts G' k hr hh=>?_
 have nd:=sc_is_great_form.nd
 obtain ⟨f,rfl,hl,q⟩:=hh
 refine' go_G [some (fmT f),none] rfl ?hb ?hg
 case hb=>exact (af (d9 (i:=1) nd rfl (Or.inl rfl) (av fg (a9 (aI (xa K (pv 0) aa) ae)) (eL (LN:=["a","w"]) (FN:=[]) (fr:=[]) rfl (cv (by rfl)) (cJ (K:=K) rfl (xa K (pv 0) aa)) (fun j j j j j j=>(ca (K:=K) (n:=2) rfl rfl (aW (xj 0 (show ((["a","w"]:List Str)++([]:List Str)).Nodup by decide +kernel)) (aW (xj 1 (show ((["a","w"]:List Str)++([]:List Str)).Nodup by decide +kernel)) ce)))) (fun j j j j j j=>dI) (fun j j j j j j=>(pv 0))))) (ak (au (aZ (k_any (K:=K) rfl rfl) (by rfl) B.b_any uH (cU (xk ["n"] [] [] (bT (K:=K) rfl (pv 1)) (fun j j j j j j=>(db gD (k_bm0 (K:=K) rfl PySem.F.plainAttrs_int PySem.F.slot_int_bit_length PySem.F.type_int_bit_length Zo4 (pv 0)) (oS (by rfl) G.c_MOST_BITS) (az _)))) ae)))))
 ext
 refine cD (fun Γ'=>∃ a b,Γ'=[a,b]) ?_
 ext
 refine ⟨_,rfl,by rw[ai];lia,trivial,⟨none,none,rfl⟩,(f.2.map (·.1)).map T.int,by simp,?_,?_⟩
 .rintro i x y Γ' hx hy ⟨a,b,rfl⟩
  rw[aj] at hx hy
  rw[aj] at hy
  obtain ⟨p,ep,rfl⟩:=aH.mp hx
  rw[ep] at hy
  cases hy
  refine bW rfl ?_
  ext
  refine ⟨⟨_,_,rfl⟩,rfl,?_⟩
  ext
  exact ⟨rfl,rfl⟩
 refine fG si_l si_l (by simp;lia) ?_
 ext
 refine cD (fun Γ'=>∃ a,Γ'=[a]) ?_
 ext
 refine ⟨_,si_l,by simp;lia,si_l,⟨none,rfl⟩,((f.1::f.2.map (·.1)).map fun n=>decide (300 < (Builtin.Int.intBits n:Int))).map T.bl,by simp,?_,?_⟩
 .rintro i x y Γ' hx hy ⟨a,rfl⟩
  have ex:[T.int f.1]++(f.2.map (·.1)).map T.int=(f.1::f.2.map (·.1)).map T.int:=rfl
  rw[ex,aj] at hx
  rw[aj,aj] at hy
  obtain ⟨n,en,rfl⟩:=aH.mp hx
  rw[en] at hy
  cases hy
  ext
  refine ⟨⟨_,rfl⟩,rfl,?_⟩
  ext
  exact ⟨rfl,rfl⟩
 ext
 exact ar q
def sx:Pre:=fun ts G k=>∃ fr s x,ts=[x]/\SfL G x fr s/\s.2.2.length<=1000/\(∀ f∈s.2.2,f.2.length<=1000)/\k (.bl (gK s)) G
theorem sc_is_great:FnScope ["frames"] ["frames"] (ap mO):=by walk_at"fs"
theorem ZjZ (B:Blt mg) (T_is_great:TopFn K mg "is_great" mO ["frames"]) (Cis_great_form:Callee P w K mg base "is_great_form" 1 ["form"] (spG P w K pb)):Callee P w K mg base "is_great" 2 ["frames"] (spG P w K sx):=by
 refine T_is_great.okG sc_is_great (by walk_at"lnx") fun f cdv A outer s H E ts G k hr hh=>?_
 have nd:=sc_is_great.nd
 obtain ⟨fr,s,x,rfl,hx,hl,hf,q⟩:=hh
 refine' go_G [some x] rfl ?hb ?hg
 case hb=>exact (ak (au (aZ (k_any (K:=K) rfl rfl) (by rfl) B.b_any uH (cU (xk ["form"] [] [] (cJ (K:=K) rfl (xa K (xa K (pv 0) (cq cm aa)) aa)) (fun j j j j j j=>(xg Cis_great_form hr.m (xc 0)))) ae))))
 ext
 refine cD (fun Γ'=>∃ a,Γ'=[a]) ?_
 ext
 refine l_ix hx.last (dG _ _) ?_
 ext
 refine ⟨_,rfl,by rw[ai];lia,trivial,⟨none,rfl⟩,(s.2.2.map eW).map T.bl,by simp,?_,?_⟩
 .rintro i z y Γ' hz hy ⟨a,rfl⟩
  rw[aj] at hz hy
  rw[aj] at hy
  obtain ⟨f,ef,rfl⟩:=aH.mp hz
  rw[ef] at hy
  cases hy
  ext
  refine ⟨⟨_,rfl⟩,rfl,?_⟩
  ext
  exact ⟨f,rfl,hf f (aw ef),rfl,rfl⟩
 ext
 exact ar q
def pU:Pre:=fun ts G k=>∃ (fr:List SF) (x:T),ts=[x]/\SqI G x (fr.map sfT)/\fr.length<=1000/\k (k2T (k2P (plcF fr))) G
theorem sc_places_of:FnScope ["frames"] ["frames"] (ap nw):=by walk_at"fs"
theorem Zin (B:Blt mg) (T_places_of:TopFn K mg "places_of" nw ["frames"]):Callee P w K mg base "places_of" 1 ["frames"] (spG P w K pU):=by
 refine T_places_of.okG sc_places_of (by walk_at"lnx") fun f cdv A outer s H E ts G k hr hh=>?_
 have nd:=sc_places_of.nd
 obtain ⟨fr,x,rfl,hx,hl,q⟩:=hh
 refine' go_G [some x] rfl ?hb ?hg
 case hb=>exact (ak (au (cL (dN (K:=K) rfl) (by rfl) B.b_tuple dB (cU (xk ["frame"] [] [] (bT (K:=K) rfl (pv 0)) (fun j j j j j j=>(fi (lQ (K:=K) rfl) (pv 0) fH (fE aa)))) ae))))
 ext
 refine cD (fun Γ'=>∃ a,Γ'=[a]) ?_
 ext
 refine ⟨_,hx,by rw[ai];lia,hx,⟨none,rfl⟩,fr.map fun s=>.tup [.int s.1,.int s.2.1],by simp,?_,?_⟩
 .rintro i z y Γ' hz hy ⟨a,rfl⟩
  rw[aj] at hz hy
  obtain ⟨s,es,rfl⟩:=aH.mp hz
  rw[es] at hy
  cases hy
  ext
  refine ⟨⟨_,rfl⟩,rfl,?_⟩
  ext
  refine kI ?_
  exact ⟨rfl,rfl⟩
 ext
 refine dM sg_l (fun j=>nofun) ?_
 have e:T.tup (fr.map fun s=>.tup [.int s.1,.int s.2.1])=k2T (k2P (plcF fr)):=by
  unfold k2T k2P plcF
  simp[Function.comp_def]
 rw[e]
 exact ar q
def qP:Pre:=fun ts G k=>∃ (fr:List SF) (x:T),ts=[x]/\SqI G x (fr.map sfT)/\fr.length<=1000/\(∀ s∈fr,s.2.2.length<=1000)/\k (.int (bq fr)) G
theorem kY {α β : Type} (p : α -> Bool) (f : α -> β) : ∀ l : List α, (l.map fun a => if p a = true then some (f a) else none).filterMap id = (l.filter p).map f
  | [] => rfl
  | a :: l => by
    have ih:=kY p f l
    rw[aF,iy,dW,ih]
    by_cases h : p a = true <;> simp[h]
theorem sc_words_of:FnScope ["paper"] ["paper"] (ap k9):=by walk_at"fs"
theorem ZjU (B:Blt mg) (T_words_of:TopFn K mg "words_of" k9 ["paper"]) (Cis_plain:Callee P w K mg base "is_plain" 1 ["form"] (spG P w K h9)):Callee P w K mg base "words_of" 2 ["paper"] (spG P w K qP):=by
 refine T_words_of.okG sc_words_of (by walk_at"lnx") fun f cdv A outer s H E ts G k hr hh=>?_
 have nd:=sc_words_of.nd
 obtain ⟨fr,x,rfl,hx,hl,hf,q⟩:=hh
 refine' go_G [some x] rfl ?hb ?hg
 case hb=>exact (ak (au (aZ (k_sum (K:=K) rfl rfl) (by rfl) B.b_sum sw (cU (xk ["frame"] [] [] (bT (K:=K) rfl (pv 0)) (fun cl C fp pins s H=>(aZ (bt (K:=K) rfl) (by rfl) B.b_len bu (cU (xl ["form"] [] [] (cJ (K:=K) rfl (xa K (pv 0) aa)) (fun v v v v v v=>(eD (jr (dj (xg Cis_plain hr.m (xc 0)))))) (fun v v v v v v=>(pv 0))) ae)))) ae))))
 ext
 refine cD (fun Γ'=>∃ a,Γ'=[a]) ?_
 ext
 refine ⟨_,hx,by rw[ai];lia,hx,⟨none,rfl⟩,(fr.map fun s=>(((s.2.2.filter fun f=>!decide (f.2=[])).length:Nat):Int)).map T.int,by simp,?_,?_⟩
 .rintro i z y Γ' hz hy ⟨a,rfl⟩
  rw[aj] at hz hy
  rw[aj] at hy
  obtain ⟨s,es,rfl⟩:=aH.mp hz
  rw[es] at hy
  cases hy
  have hs:=hf s (aw es)
  ext
  refine ⟨⟨_,rfl⟩,rfl,?_⟩
  ext
  refine fZ (fun Γ'=>∃ a,Γ'=[a]) ?_
  ext
  refine ⟨_,rfl,by rw[ai];lia,trivial,⟨none,rfl⟩,s.2.2.map (fun f=>if (!decide (f.2=[]))=true then some (fmT f) else none),by simp,?_,?_⟩
  .rintro j z2 y2 Γ2 hz2 hy2 ⟨a2,rfl⟩
   rw[aj] at hz2 hy2
   obtain ⟨f,ef,rfl⟩:=aH.mp hz2
   rw[ef] at hy2
   cases hy2
   ext
   refine ⟨⟨_,rfl⟩,rfl,?_⟩
   ext
   refine ⟨f,rfl,?_⟩
   ext
   refine ⟨rfl,?_⟩
   refine nN (fun h=>?_) (fun h=>?_)
   .refine ⟨fmT f,by simp[h],?_⟩
    ext
    exact ⟨rfl,rfl⟩
   .simp[h]
  .rw[kY (fun f:Fm=>!decide (f.2=[])) fmT]
   ext
   rw[ai]
   exact ⟨rfl,rfl⟩
 ext
 exact ar q
abbrev fpT (p:Fm×Fm):T:=.tup [fmT p.1,fmT p.2]
def qz:Pre:=fun ts G k=>∃ (fr pa:List SF) (x y:T),ts=[x,y]/\SqI G x (fr.map sfT)/\SqI G y (pa.map sfT)/\fr.length<=1000/\(∀ (i:Nat) s t,fr[i]?=some s->pa[i]?=some t->s.2.2.length=t.2.2.length/\s.2.2.length<=8)/\k (.lst ((eR fr pa).map fpT)) G
theorem Zmf {α β γ:Type} (f:α->β->List γ) (l:List (α×β)) (i:Nat) (p:α×β) (h:l[i]?=some p):(l.take (i+1)).flatMap (fun p=>f p.1 p.2)=(l.take i).flatMap (fun p=>f p.1 p.2)++f p.1 p.2:=by
 rw[b9,h,iU,flatMap_append]
 simp
theorem sc_box_pairs:FnScope ["frames","paper","pairs","frame","own"] ["frames","paper"] (ap mr):=by walk_at"fs"
theorem Zip (B:Blt mg) (T_box_pairs:TopFn K mg "box_pairs" mr ["frames","paper"]):Callee P w K mg base "box_pairs" 1 ["frames","paper"] (spG P w K qz):=by
 refine T_box_pairs.okG sc_box_pairs (by walk_at"lnx") fun f cdv A outer s H E ts G k hr hh=>?_
 have nd:=sc_box_pairs.nd
 obtain ⟨fr,pa,x,y,rfl,hx,hy,hl,hf,q⟩:=hh
 refine' go_G [some x,some y,none,none,none] rfl ?hb ?hg
 case hb=>exact (af (f6 (i:=2) nd rfl (Or.inl rfl) (a9 ae)) (af (bX PassesOwn.never rfl (uW (K:=K) rfl (by rfl) B.b_zip (xb 0 (xc 1))) (ca (K:=K) (n:=2) rfl rfl (aW (xj 3 nd) (aW (xj 4 nd) ce))) (ak (cb (k_bm (K:=K) rfl PySem.F.plainAttrs_list PySem.F.slot_list_extend PySem.F.type_list_extend Zk7 (pv 2) (aS (ZoW (K:=K) rfl rfl (by rfl) B.b_list (by rfl) B.b_zip (aI (xa K (pv 3) aa) (aI (xa K (pv 4) aa) ae))) ae))))) (ak (au (pv 2)))))
 refine bI (bR (gm ?_))
 ext
 intro p hp
 have up:∀ {x:T} {l:List T} (c:Ct),SqI G x l->SqI (gput G p c) x l:=fun {x l} c h=>by
  rcases h with e|⟨a,e,h⟩
  .exact .inl e
  .exact .inr ⟨a,e,by rw[gp_n (g_ne h hp)];exact h⟩
 ext
 refine ⟨_,_,_,_,rfl,up _ hx,up _ hy,fun i Γ G'=>(∃ a b,Γ=[some x,some y,some (.ptr p),a,b])/\G'=gput G p (.lst ((((fr.zip pa).take i).flatMap fun p=>p.1.2.2.zip p.2.2.2).map fpT)),⟨⟨none,none,rfl⟩,rfl⟩,?_,?_,?_⟩
 .rintro i Γ G' ⟨v,rfl⟩
  exact ⟨up _ hx,up _ hy⟩
 .rintro i z Γ G' hz ⟨⟨a,b,rfl⟩,rfl⟩
  rw[aj] at hz
  obtain ⟨⟨z1,z2⟩,ez,rfl⟩:=aH.mp hz
  obtain ⟨e1,e2⟩:=gA.mp ez
  rw[aj] at e1 e2
  obtain ⟨s,es,rfl⟩:=aH.mp e1
  obtain ⟨t,et,rfl⟩:=aH.mp e2
  obtain ⟨h1,h2⟩:=hf i s t es et
  have hfl:=(ay.mp es).1
  refine bW rfl ?_
  ext
  refine ⟨ty_p gp_s,?_⟩
  ext
  refine ⟨_,_,rfl,by rw[ai,ai];exact h1,by rw[ai];lia,?_⟩
  ext
  have few:∀ l:List (SF×SF),(∀ p∈l,p.1.2.2.length<=8)->(l.flatMap fun p=>p.1.2.2.zip p.2.2.2).length<=l.length * 8:=by
   intro l
   induction l with
   | nil=>intro v;exact aq _
   | cons p l ih =>
    intro h
    rw[flatMap_cons,aA,bz,gy]
    have:=ih fun q hq=>h q (bE _ hq)
    have:=h p bG
    lia
  have hfew:=few ((fr.zip pa).take i) fun p hp=>by
   obtain ⟨j,hj⟩:=fU.mp (mem_of_mem_take hp)
   obtain ⟨j1,j2⟩:=gA.mp hj
   exact (hf j _ _ j1 j2).2
  have htl:((fr.zip pa).take i).length<=1000:=by rw[cz,gy];lia
  refine l_ext gp_s (by rw[ai,ai,gy,ai,ai];lia) ?_
  dsimp only
  refine bB ?_
  refine ⟨⟨_,_,rfl⟩,?_⟩
  rw[gp_p,Zmf (fun (a b:SF)=>a.2.2.zip b.2.2) _ i (s,t) (gA.mpr ⟨es,et⟩),aO]
  congr 3
  rw[zip_map,cG]
  rfl
 .rintro Γ G' ⟨⟨a,b,rfl⟩,rfl⟩
  ext
  have e:((fr.map sfT).zip (pa.map sfT)).length=(fr.zip pa).length:=by simp
  rw[ai,e,ck]
  exact ix hp (ar q)
def Fit (fr pa:List SF):Prop:=∀ (i:Nat) s t,fr[i]?=some s->pa[i]?=some t->s.2.2.length=t.2.2.length/\s.2.2.length<=8
theorem sG {fr pa:List SF} (h:Fit fr pa) (hl:fr.length<=1000):(eR fr pa).length<=8000:=by
 unfold eR
 have few:∀ l:List (SF×SF),(∀ p∈l,p.1.2.2.length<=8)->(l.flatMap fun p=>p.1.2.2.zip p.2.2.2).length<=l.length * 8:=by
  intro l
  induction l with
  | nil=>intro z;exact aq _
  | cons p l ih =>
   intro h
   rw[flatMap_cons,aA,bz,gy]
   have:=ih fun q hq=>h q (bE _ hq)
   have:=h p bG
   lia
 have:=few (fr.zip pa) fun p hp=>by
  obtain ⟨j,hj⟩:=fU.mp hp
  obtain ⟨j1,j2⟩:=gA.mp hj
  exact (h j _ _ j1 j2).2
 rw[gy] at this
 lia
def uR:Pre:=fun ts G k=>∃ (fr pa:List SF) (x y:T),ts=[x,y]/\SqI G x (fr.map sfT)/\SqI G y (pa.map sfT)/\fr.length<=1000/\Fit fr pa/\k (.bl (mZ fr pa)) G
theorem sc_is_case:FnScope ["frames","paper"] ["frames","paper"] (ap kC):=by walk_at"fs"
theorem Zl4 (B:Blt mg) (T_is_case:TopFn K mg "is_case" kC ["frames","paper"]) (Cbox_pairs:Callee P w K mg base "box_pairs" 1 ["frames","paper"] (spG P w K qz)) (Cis_plain:Callee P w K mg base "is_plain" 1 ["form"] (spG P w K h9)):Callee P w K mg base "is_case" 2 ["frames","paper"] (spG P w K uR):=by
 refine T_is_case.okG sc_is_case (by walk_at"lnx") fun f cdv A outer s H E ts G k hr hh=>?_
 have nd:=sc_is_case.nd
 have hu:=hr.units
 obtain ⟨fr,pa,x,y,rfl,hx,hy,hl,hf,q⟩:=hh
 refine' go_G [some x,some y] rfl ?hb ?hg
 case hb=>exact (ak (au (aZ (k_all (K:=K) rfl rfl) (by rfl) B.b_all bt_all (cU (xl ["pair"] [] [] (bT (K:=K) rfl (xg Cbox_pairs hr.m (xb 0 (xc 1)))) (fun z z z z z z=>(eD (dj (xg Cis_plain hr.m (aI (xa K (pv 0) aa) ae))))) (fun z z z z z z=>(db (uF hu) (xa K (pv 0) aa) (xa K (pv 0) aa) (az _)))) ae))))
 have few:=sG hf hl
 ext
 refine fZ (fun Γ'=>∃ a,Γ'=[a]) ?_
 ext
 refine ⟨fr,pa,x,y,rfl,hx,hy,hl,hf,?_⟩
 refine ⟨_,si_l,by rw[ai];lia,si_l,⟨none,rfl⟩,(eR fr pa).map (fun p=>if (decide (p.2.2=[]))=true then some (T.bl (decide (p.1=p.2))) else none),by simp,?_,?_⟩
 .rintro j z2 y2 Γ2 hz2 hy2 ⟨a2,rfl⟩
  rw[aj] at hz2 hy2
  obtain ⟨f,ef,rfl⟩:=aH.mp hz2
  rw[ef] at hy2
  cases hy2
  ext
  refine ⟨⟨_,rfl⟩,rfl,?_⟩
  ext
  refine ⟨f.2,rfl,?_⟩
  ext
  refine ⟨rfl,?_⟩
  refine gj (fun h=>?_) (fun h=>?_)
  .refine ⟨_,ag (aU h),?_⟩
   ext
   exact l_eqF ⟨rfl,rfl⟩
  .exact ah (by simpa using h)
 .rw[kY (fun p:Fm×Fm=>decide (p.2.2=[])) fun p=>T.bl (decide (p.1=p.2))]
  have e:((eR fr pa).filter fun p=>decide (p.2.2=[])).map (fun p=>T.bl (decide (p.1=p.2)))=(((eR fr pa).filter fun p=>decide (p.2.2=[])).map fun p=>decide (p.1=p.2)).map T.bl:=by rw[cG];rfl
  rw[e]
  ext
  exact ar q
def rD:Pre:=fun ts G k=>∃ (fr pa:List SF) (x y:T),ts=[y,x]/\SqI G x (fr.map sfT)/\SqI G y (pa.map sfT)/\fr.length<=1000/\Fit fr pa/\k (.lst ((f7 pa fr).map fmT)) G
theorem sc_moves_into:FnScope ["paper","frames"] ["paper","frames"] (ap kF):=by walk_at"fs"
theorem ZhD (B:Blt mg) (T_moves_into:TopFn K mg "moves_into" kF ["paper","frames"]) (Cbox_pairs:Callee P w K mg base "box_pairs" 1 ["frames","paper"] (spG P w K qz)) (Cis_plain:Callee P w K mg base "is_plain" 1 ["form"] (spG P w K h9)):Callee P w K mg base "moves_into" 2 ["paper","frames"] (spG P w K rD):=by
 refine T_moves_into.okG sc_moves_into (by walk_at"lnx") fun f cdv A outer s H E ts G k hr hh=>?_
 have nd:=sc_moves_into.nd
 obtain ⟨fr,pa,x,y,rfl,hx,hy,hl,hf,q⟩:=hh
 refine' go_G [some y,some x] rfl ?hb ?hg
 case hb=>exact (ak (au (xl ["pair"] [] [] (bT (K:=K) rfl (xg Cbox_pairs hr.m (xb 1 (xc 0)))) (fun z z z z z z=>(eD (jr (dj (xg Cis_plain hr.m (aI (xa K (pv 0) aa) ae)))))) (fun z z z z z z=>(xa K (pv 0) aa)))))
 have few:=sG hf hl
 refine fz ?_
 refine fZ (fun Γ'=>∃ a,Γ'=[a]) ?_
 ext
 refine ⟨fr,pa,x,y,rfl,hx,hy,hl,hf,?_⟩
 refine ⟨_,si_l,by rw[ai];lia,si_l,⟨none,rfl⟩,(eR fr pa).map (fun p=>if (!decide (p.2.2=[]))=true then some (fmT p.1) else none),by simp,?_,?_⟩
 .rintro j z2 y2 Γ2 hz2 hy2 ⟨a2,rfl⟩
  rw[aj] at hz2 hy2
  obtain ⟨f,ef,rfl⟩:=aH.mp hz2
  rw[ef] at hy2
  cases hy2
  ext
  refine ⟨⟨_,rfl⟩,rfl,?_⟩
  ext
  refine ⟨f.2,rfl,?_⟩
  ext
  refine ⟨rfl,?_⟩
  refine nN (fun h=>?_) (fun h=>?_)
  .refine ⟨_,ag (by simpa using h),?_⟩
   ext
   exact ⟨rfl,rfl⟩
  .exact ah (by simpa using h)
 .rw[kY (fun p:Fm×Fm=>!decide (p.2.2=[])) fun p=>fmT p.1]
  unfold f7 at q
  rw[cG] at q
  exact ar q
abbrev stT (many:Int) (pap:T) (word:Str) (rest:List T):T:=.tup [.int many,pap,.tup (.str word::rest)]
def ux:Pre:=fun ts G k=>∃ (many:Nat) (word:Str) (nums:List Int) (pap:T) (rest:List T),ts=[stT many pap word rest]/\many<=1000/\(word=Str.ofString "hold"->∃ w n r,nums=[w,n]/\rest=.int w::.int n::r/\0<=w/\w < many)/\k (.lst ((ownF many word nums).map fmT)) G
theorem sc_own_words:FnScope ["stand","deed","words"] ["stand"] (ap k3):=by walk_at"fs"
theorem Zio (B:Blt mg) (T_own_words:TopFn K mg "own_words" k3 ["stand"]) (Cof_word:Callee P w K mg base "of_word" 1 ["w"] (spG P w K ma)) (Cplain:Callee P w K mg base "plain" 1 ["n"] (spG P w K i8)):Callee P w K mg base "own_words" 2 ["stand"] (spG P w K ux):=by
 refine T_own_words.okG sc_own_words (by walk_at"lnx") fun f cdv A outer s H E ts G k hr hh=>?_
 have nd:=sc_own_words.nd
 obtain ⟨many,word,nums,pap,rest,rfl,hm,hh,q⟩:=hh
 refine' go_G [some (stT many pap word rest),none,none] rfl ?hb ?hg
 case hb=>exact (af (cf (i:=1) nd rfl (Or.inl rfl) (xa K (pv 0) aa)) (af (gp (i:=2) (LN:=["w"]) (FN:=[]) (fr:=[]) rfl nd rfl rfl (cv (by rfl)) (de rfl B.b_range (aI (xa K (pv 0) aa) ae)) (fun j j j j j j=>(xj 0 (show ((["w"]:List Str)++([]:List Str)).Nodup by decide +kernel))) (fun j j j j j j=>dI) (fun j j j j j j=>(xg Cof_word hr.m (xc 0)))) (af (a8 (aB bf (xa K (pv 1) aa) aK (az _)) (ak (cb (k_bm (K:=K) rfl PySem.F.plainAttrs_list PySem.F.slot_list_append PySem.F.type_list_append eM (pv 2) (aS (xg Cof_word hr.m (aI (xa K (pv 0) aa) ae)) ae)))) ba) (af (a8 (aB bf (xa K (pv 1) aa) aK (az _)) (ak (cr (xg Cplain hr.m (aI (xa K (pv 1) aa) ae)) (cV (pv 2) (xa K (pv 1) aa) cT))) ba) (ak (au (pv 2)))))))
 have hlen:(aE many).length=many:=by unfold aE;simp
 ext
 refine qg (fun Γ'=>∃ a,Γ'=[a]) ?_
 ext
 refine ⟨many,rfl,by lia,by lia,?_⟩
 have hrl:(rngT (many:Int).toNat).length=many:=by unfold rngT;simp
 refine ⟨by rw[hrl];lia,trivial,⟨none,rfl⟩,(aE many).map fmT,by rw[ai,hlen,hrl],?_,?_⟩
 .rintro i x y Γ' hx hy ⟨a,rfl⟩
  unfold rngT at hx
  unfold aE at hy
  rw[dF,aj] at hx
  rw[aj,aj] at hy
  obtain ⟨n,en,rfl⟩:=aH.mp hx
  rw[en] at hy
  cases hy
  ext
  refine ⟨⟨_,rfl⟩,rfl,?_⟩
  ext
  exact ⟨n,rfl,rfl,rfl⟩
 intro p hp
 unfold ownF at q
 ext
 by_cases h1:word=Str.ofString "take"
 .subst h1
  rw[ag rfl] at q
  ext
  refine ⟨ty_p gp_s,?_⟩
  ext
  refine ⟨many,rfl,?_⟩
  ext
  refine d7 gp_s (by rw[ai,hlen];lia) ?_
  rw[gp_p]
  ext
  rw[aO] at q
  exact ix hp (ar q)
 rw[ah h1] at q
 refine gI h1 ?_
 ext
 by_cases h2:word=Str.ofString "hold"
 .subst h2
  rw[ag rfl] at q
  obtain ⟨wd,n,r,rfl,rfl,w0,w1⟩:=hh rfl
  ext
  refine ⟨n,rfl,?_⟩
  ext
  refine ⟨p,_,wd,wd.toNat,rfl,rfl,gp_s,?_,?_⟩
  .rw[ai,hlen]
   unfold ixN
   rw[ag w0,ag w1]
  rw[gp_p]
  ext
  rw[<-map_set]
  exact ix hp (ar q)
 rw[ah h2] at q
 refine gI h2 ?_
 ext
 exact ix hp (ar q)
structure StOkF (Q:List Df) (fr:List SF) (s:SF) (word:Str) (own:List Fm) (r:Rw) (m:Nat):Prop where
 few:fr.length<=100
 fm:∀ t∈fr++[s],t.2.2.length<=1000/\∀ f∈t.2.2,FoB own.length f
 hm:m < 64
 hown:∀ g∈own,FoB m g
 row:cx Q s.1 s.2.1=some r
 p0:0<=s.1/\0<=s.2.1
 test:word=Str.ofString "test"->∃ p t,r=.zero p t\/r=.below p t
 take:word=Str.ofString "take"->∃ p ys y,r=.take p/\0<=p/\p < s.2.2.length/\own=ys++[y]
def vi:Pre:=fun ts G k=>∃ (Q:List Df) (fr:List SF) (s:SF) (own:List Fm) (y:T) (pap:T) (many:Int) (word:Str) (rest:List T) (r:Rw) (m:Nat),ts=[pgT Q,stT many pap word rest,y]/\SfL G pap fr s/\SqI G y (own.map fmT)/\StOkF Q fr s word own r m/\k (.lst ((eC Q (fr.map (eJ own)) (eJ own s) word own).map fun f=>.lst (f.map sfT))) G
theorem sc_starts_of:FnScope ["program","stand","own","frames","word","row","behind"] ["program","stand","own"] (ap ky):=by walk_at"fs"
theorem Zim (B:Blt mg) (T_starts_of:TopFn K mg "starts_of" ky ["program","stand","own"]) (Cfilled:Callee P w K mg base "filled" 3 ["frames","forms"] (spG P w K tD)) (Crow_of:Callee P w K mg base "row_of" 1 ["program","frame"] (spG P w K kW)) (Cat_row:Callee P w K mg base "at_row" 1 ["frames","at"] (spG P w K lz)) (Cwith_box:Callee P w K mg base "with_box" 1 ["frames","p","form"] (spG P w K nO)):Callee P w K mg base "starts_of" 4 ["program","stand","own"] (spG P w K vi):=by
 refine T_starts_of.okG sc_starts_of (by walk_at"lnx") fun f cdv A outer s H E ts G k hr hh=>?_
 have nd:=sc_starts_of.nd
 obtain ⟨Q,fr,s,own,y,pap,many,word,rest,r,m,rfl,hx,hy,⟨few,fm,hm,ho,hrow,hp0,htest,htake⟩,q⟩:=hh
 refine' go_G [some (pgT Q),some (stT many pap word rest),some y,none,none,none,none] rfl ?hb ?hg
 case hb=>exact (af (bi (i:=3) nd rfl (Or.inl rfl) (xg Cfilled hr.m (aI (xa K (pv 1) aa) (xc 2)))) (af (cf (i:=4) nd rfl (Or.inl rfl) (xa K (xa K (pv 1) aa) aa)) (af (bi (i:=5) nd rfl (Or.inl rfl) (xg Crow_of hr.m (xb 0 (aI (xa K (pv 3) (cq cm aa)) ae)))) (af (d9 (i:=6) nd rfl (Or.inl rfl) (av bm (xa K (xa K (pv 3) (cq cm aa)) aa) aa)) (af (a8 (aB bf (pv 4) aK (az _)) (ak (au (a9 (aS (xg Cat_row hr.m (xb 3 (aI (xa K (pv 5) aa) ae))) (aS (xg Cat_row hr.m (xb 3 (xc 6))) ae))))) ba) (af (a8 (aB bf (pv 4) aK (az _)) (ak (au (a9 (aS (xg Cat_row hr.m (xb 3 (xc 6))) ae)))) ba) (af (a8 (aB bf (pv 4) aK (az _)) (ak (au (a9 (aS (xg Cwith_box hr.m (xb 3 (aI (xa K (pv 5) aa) (aI (xa K (pv 2) (cq cm aa)) ae)))) ae)))) ba) (ak (au (a9 (xc 3)))))))))))
 have hrow2:cx Q (eJ own s).1 (eJ own s).2.1=some r:=hrow
 ext
 refine ⟨fr++[s],own,pap,y,m,rfl,hx,hy,by rw[aA];simp;lia,fm,hm,ho,?_⟩
 rw[aO,aF,cQ]
 generalize hF:fr.map (eJ own)=F at q
 generalize hS:eJ own s=S at q hrow2
 have hSb:S.2.2.length=s.2.2.length:=by rw[<-hS];unfold eJ;simp
 have fewF:F.length<=100:=by rw[<-hF,ai];exact few
 have hsl:=(fm s (by simp)).1
 have last:SqG G (.lst ((F++[S]).map sfT)) (F.map sfT++[sfT S]):=by rw[aO];exact sg_l
 have hs0:S.1=s.1/\S.2.1=s.2.1:=by rw[<-hS];exact ⟨rfl,rfl⟩
 ext
 refine l_ix last (dG _ _) ?_
 ext
 refine ⟨Q,S,r,rfl,by rw[hs0.1];exact hp0.1,by rw[hs0.2];exact hp0.2,hrow2,?_⟩
 ext
 refine l_ix last (dG _ _) ?_
 ext
 unfold eC at q
 by_cases h1:word=Str.ofString "test"
 .subst h1
  rw[ag rfl,hrow2] at q
  obtain ⟨p,t,hr2⟩:=htest rfl
  rcases hr2 with rfl|rfl
  all_goals
   ext
   refine ⟨F,S,t,_,rfl,si_l,fewF,?_⟩
   ext
   refine ⟨F,S,_,_,rfl,si_l,fewF,?_⟩
   ext
   exact ar q
 rw[ah h1] at q
 refine gI h1 ?_
 ext
 by_cases h2:word=Str.ofString "tell"
 .subst h2
  rw[ag rfl] at q
  ext
  refine ⟨F,S,_,_,rfl,si_l,fewF,?_⟩
  ext
  exact ar q
 rw[ah h2] at q
 refine gI h2 ?_
 ext
 by_cases h3:word=Str.ofString "take"
 .subst h3
  rw[ag rfl,hrow2] at q
  obtain ⟨p,ys,z,rfl,p0,p1,rfl⟩:=htake rfl
  ext
  refine l_ix (ts:=(ys.map fmT)++[fmT z]) (.inr (by rw[aO] at hy;exact hy)) (dG _ _) ?_
  ext
  refine ⟨F,S,p,z,_,rfl,si_l,fewF,p0,by rw[hSb];exact p1,by rw[hSb];exact hsl,?_⟩
  ext
  rw[getLastD_concat] at q
  exact ar q
 rw[ah h3] at q
 refine gI h3 ?_
 ext
 exact ar q
def OthOk (G:GH) (y:T) (o:Option (List SF)) (fr:List SF):Prop:=match o with
 | none=>y=.non
 | some o'=>SqI G y (o'.map sfT)/\∀ (i:Nat) s,fr[i]?=some s->∃ t,o'[i]?=some t/\t.2.2.length=s.2.2.length
def qe:Pre:=fun ts G k=>∃ (fr:List SF) (x y:T) (o:Option (List SF)),ts=[x,y]/\SqI G x (fr.map sfT)/\OthOk G y o fr/\fr.length<=1000/\(∀ s∈fr,s.2.2.length<=1000/\∀ f∈s.2.2,f.2.length<=1000)/\∀ a,G a=none->k (.ptr a) (gput G a (.lst ((bP fr o).map sfT)))
theorem lB {α β:Type} (f:β->α->β) (b:β) (l:List α) (i:Nat) (x:α) (h:l[i]?=some x):(l.take (i+1)).foldl f b=f ((l.take i).foldl f b) x:=by
 rw[b9,h,iU,j9];rfl
theorem zipIdx_get {α:Type} {l:List α} {i:Nat} {x:α×Nat} (h:l.zipIdx[i]?=some x):l[i]?=some x.1/\x.2=i:=by
 rw[iS] at h
 obtain ⟨a,e,rfl⟩:=aH.mp h
 exact ⟨e,oj i⟩
theorem uk (l:List SF):(l.map sfT).zipIdx.map (fun p=>T.tup [.int p.2,p.1])=l.zipIdx.map fun p=>.tup [.int p.2,sfT p.1]:=by
 rw[zipIdx_map,cG];rfl
theorem vp (l:List Fm):(l.map fmT).zipIdx.map (fun p=>T.tup [.int p.2,p.1])=l.zipIdx.map fun p=>.tup [.int p.2,fmT p.1]:=by
 rw[zipIdx_map,cG];rfl
theorem sR (o : Option (List SF)) (d : Nat) : ∀ (l : List (Fm × Nat)) (a : List Fm × Nat), (l.foldl (aY o d) a).1.length = a.1.length + l.length
  | [], a => rfl
  | x :: l, a => by
    rw[dR,sR o d l]
    unfold aY
    split <;> simp <;> lia
theorem sU (o : Option (List SF)) : ∀ (l : List (SF × Nat)) (a : List SF × Nat), (l.foldl (cB o) a).1.length = a.1.length + l.length
  | [], a => rfl
  | x :: l, a => by
    rw[dR,sU o l]
    unfold cB
    simp; lia
theorem sc_loosened:FnScope ["frames","other","paper","many","d","frame","forms","p","form","stays"] ["frames","other"] (ap mP):=by walk_at"fs"
theorem ZjX (B:Blt mg) (T_loosened:TopFn K mg "loosened" mP ["frames","other"]) (Cis_plain:Callee P w K mg base "is_plain" 1 ["form"] (spG P w K h9)) (Cis_great_form:Callee P w K mg base "is_great_form" 1 ["form"] (spG P w K pb)) (Cof_word:Callee P w K mg base "of_word" 1 ["w"] (spG P w K ma)):Callee P w K mg base "loosened" 2 ["frames","other"] (spG P w K qe):=by
 refine T_loosened.okG sc_loosened (by walk_at"lnx") fun f cdv A outer s H E ts G k hr hh=>?_
 have nd:=sc_loosened.nd
 have hu:=hr.units
 obtain ⟨fr,x,y,o,rfl,hx,ho,hl,hf,q⟩:=hh
 refine' go_G [some x,some y,none,none,none,none,none,none,none,none] rfl ?hb ?hg
 case hb=>exact (af (f6 (i:=2) nd rfl (Or.inl rfl) (a9 ae)) (af (bJ (i:=3) nd rfl (Or.inl rfl) aa) (af (bX PassesOwn.never rfl (Zln (K:=K) rfl (by rfl) B.b_enumerate (xc 0)) (ca (K:=K) (n:=2) rfl rfl (aW (xj 4 nd) (aW (xj 5 nd) ce))) (af (f6 (i:=6) nd rfl (Or.inl rfl) (a9 ae)) (af (bX PassesOwn.never rfl (ZjM (K:=K) rfl (by rfl) B.b_enumerate (aI (xa K (pv 5) aa) ae)) (ca (K:=K) (n:=2) rfl rfl (aW (xj 7 nd) (aW (xj 8 nd) ce))) (af (bJ (i:=9) nd rfl (Or.inl rfl) (pR (xg Cis_plain hr.m (xc 8)) (pR (pe_not (xg Cis_great_form hr.m (xc 8))) (nJ (pe_or (db pE (pv 1) dJ (az _)) (nJ (db (uF hu) (xa K (xa K (xa K (pv 1) (pv 4)) aa) (pv 7)) (pv 8) (az _)))))))) (af (cb (k_bm (K:=K) rfl PySem.F.plainAttrs_list PySem.F.slot_list_append PySem.F.type_list_append eM (pv 6) (i9 (fB (dj (pv 9)) (pv 8) (xg Cof_word hr.m (xc 3))) ae))) (ak (bJ (i:=3) nd rfl (Or.inl rfl) (fB (dj (pv 9)) (pv 3) (av bm (pv 3) aa))))))) (ak (cb (k_bm (K:=K) rfl PySem.F.plainAttrs_list PySem.F.slot_list_append PySem.F.type_list_append eM (pv 2) (be (aD (aI (xa K (pv 5) aa) (aI (xa K (pv 5) aa) (aS (cL (dN (K:=K) rfl) (by rfl) B.b_tuple dB (xc 6)) ae)))) ae))))))) (ak (au (pv 2))))))
 refine bI (bR (gm ?_))
 ext
 intro p hp
 ext
 refine ⟨x,_,rfl,jB hp hx,fun i Γ G'=>(∃ a b c d e f,Γ=[some x,some y,some (.ptr p),some (.int (((fr.zipIdx.take i).foldl (cB o) ([],0)).2:Int)),a,b,c,d,e,f])/\G'=gput G p (.lst (((fr.zipIdx.take i).foldl (cB o) ([],0)).1.map sfT)),⟨⟨none,none,none,none,none,none,rfl⟩,rfl⟩,?_,?_,?_⟩
 .rintro i Γ G' ⟨v,rfl⟩
  exact jB hp hx
 .rintro i z Γ G' hz ⟨⟨c1,c2,c3,c4,c5,c6,rfl⟩,rfl⟩
  rw[uk,aj] at hz
  obtain ⟨⟨s,i'⟩,es,rfl⟩:=aH.mp hz
  obtain ⟨es1,rfl⟩:=zipIdx_get es
  obtain ⟨hs8,hsf⟩:=hf s (aw es1)
  have hlen:(fr.zipIdx.take i').length<=1000:=by rw[cz,iR];lia
  have hF:=lB (cB o) ([],0) _ _ _ es
  have hpl:=sU o (fr.zipIdx.take i') ([],0)
  dsimp only at hF hpl ⊢
  generalize (fr.zipIdx.take i').foldl (cB o) ([],0)=acc at hF hpl ⊢
  refine bW rfl ?_
  refine fY (br (fY (br (im ?_))))
  refine bI (bR (gm ?_))
  ext
  intro p2 hp2
  have np:p2≠p:=fun e=>by rw[e,gp_s] at hp2;cases hp2
  have hp2':G p2=none:=by rwa [gp_n np] at hp2
  ext
  refine ⟨_,rfl,?_⟩
  refine ⟨fun j Γ G'=>(∃ a b c,Γ=[some x,some y,some (.ptr p),some (.int (((s.2.2.zipIdx.take j).foldl (aY o i') ([],acc.2)).2:Int)),some (.int i'),some (sfT s),some (.ptr p2),a,b,c])/\G'=gput (gput G p (.lst (acc.1.map sfT))) p2 (.lst (((s.2.2.zipIdx.take j).foldl (aY o i') ([],acc.2)).1.map fmT)),⟨⟨_,_,_,rfl⟩,rfl⟩,fun v v v v=>trivial,?_,?_⟩
  .rintro j z Γ G' hz ⟨⟨d1,d2,d3,rfl⟩,rfl⟩
   rw[vp,aj] at hz
   obtain ⟨⟨f,j'⟩,ef,rfl⟩:=aH.mp hz
   obtain ⟨ef1,rfl⟩:=zipIdx_get ef
   have hff:=hsf f (aw ef1)
   have hjl:=(ay.mp ef1).1
   have hbl:=sR o i' (s.2.2.zipIdx.take j') ([],acc.2)
   rw[cz,iR,fQ] at hbl
   have hF2:=lB (aY o i') ([],acc.2) _ _ _ ef
   dsimp only at hF2 ⊢
   generalize (s.2.2.zipIdx.take j').foldl (aY o i') ([],acc.2)=ac2 at hbl hF2 ⊢
   refine bW rfl ?_
   refine fY (br (fY (br (im ?_))))
   refine eB (fun Γ' G'=>Γ'=[some x,some y,some (.ptr p),some (.int (ac2.2:Int)),some (.int i'),some (sfT s),some (.ptr p2),some (.int j'),some (fmT f),some (.bl (fX o i' j' f))]/\G'=gput (gput G p (.lst (acc.1.map sfT))) p2 (.lst (ac2.1.map fmT))) ?_ ?_
   .unfold fX
    ext
    refine ⟨f,rfl,?_⟩
    ext
    by_cases h1:f.2=[]
    .rw[aU h1]
     ext
     refine ⟨f,rfl,hff,?_⟩
     ext
     generalize eW f=b
     cases b with
     | true=>ext;exact ⟨rfl,rfl⟩
     | false =>
      ext
      cases o with
      | none =>
       have ho:y=.non:=ho
       subst ho
       ext
       exact ⟨rfl,rfl⟩
      | some o' =>
       obtain ⟨hy,hfit⟩:=ho
       obtain ⟨t,et,htl⟩:=hfit i' s es1
       have hyN:y.isN=false:=by rcases hy with e|⟨a,e,v⟩ <;> rw[e] <;> rfl
       have hy2:SqI (gput (gput G p (.lst (acc.1.map sfT))) p2 (.lst (ac2.1.map fmT))) y (o'.map sfT):=jB hp2 (jB hp hy)
       rw[hyN]
       ext
       refine l_ix (.inr hy2) (bw (n:=i') rfl (by rw[aj,et];rfl)) ?_
       ext
       have etj:t.2.2[j']?=some (t.2.2.getD j' (0,[])):=by rw[dU,ax (by lia)];rfl
       refine cM (bw (n:=j') rfl (by rw[aj,etj];rfl)) ?_
       ext
       refine l_eqF ?_
       ext
       have e:o'.getD i' (0,0,[])=t:=by rw[dU,et];rfl
       dsimp only
       rw[e]
       refine ⟨?_,rfl⟩
       generalize decide (t.2.2.getD j' (0,[])=f)=b
       rfl
    .rw[aL h1]
     ext
     exact ⟨rfl,rfl⟩
   .rintro Γ' G' ⟨rfl,rfl⟩
    rw[hF2]
    unfold aY
    dsimp only
    generalize fX o i' j' f=b
    ext
    refine ⟨ty_p gp_s,?_⟩
    cases b with
    | true =>
     ext
     refine d7 gp_s (by rw[ai];lia) ?_
     ext
     dsimp only
     refine bB ?_
     refine ⟨⟨_,_,_,rfl⟩,?_⟩
     rw[gp_p,ag rfl,aO]
     rfl
    | false =>
     ext
     refine ⟨_,rfl,?_⟩
     ext
     refine d7 gp_s (by rw[ai];lia) ?_
     ext
     dsimp only
     refine bB ?_
     refine ⟨⟨some (.int j'),some (fmT f),some (.bl false),?_⟩,?_⟩
     .rw[ah (by decide)];rfl
     .rw[gp_p,ah (by decide),aO]
      rfl
  .rintro Γ' G' ⟨⟨d1,d2,d3,rfl⟩,rfl⟩
   rw[vp,ai,ck]
   ext
   refine ⟨ty_p (by rw[gp_n (Ne.symm np)];exact gp_s),?_⟩
   ext
   refine dM (sg_p gp_s) (fun v=>nofun) ?_
   ext
   refine d7 (ts:=acc.1.map sfT) (by rw[gp_n (Ne.symm np)];exact gp_s) (by rw[ai,hpl];simp;lia) ?_
   dsimp only
   rw[gp_c np,gp_p]
   refine ZpA (by rw[gp_n np];exact hp2') nofun ?_
   refine bB ⟨⟨some (.int i'),some (sfT s),some (.ptr p2),d1,d2,d3,?_⟩,?_⟩
   .rw[hF];rfl
   .rw[hF];unfold cB;rw[aO];rfl
 .rintro Γ' G' ⟨⟨c1,c2,c3,c4,c5,c6,rfl⟩,rfl⟩
  ext
  rw[uk,ai,ck]
  exact ar (q p hp)
end
end My
end
section
namespace My
open PySem L2
section
variable {P:Program} {w:World} {K:W.Frag} {mg:Str->Option Value} {base:Heap} {C:Addr}
def qa (C:Addr):Pre:=fun ts G k=>∃ (Q:List Df) (most:Nat) (G0:GH) (S:MS) (m dx la pl:Addr) (ps qs:List Addr) (l:List SF),ts=[.ptr m,.lst (l.map sfT)]/\MkSt C Q most G0 G S m dx la pl ps qs/\l.length<=1000/\(∀ k∈S.oth l,∃ d,S.lane[k]?=some d/\Fit l d.fr)/\k (match S.standFor l with|none=>.non|some k=>.int (k:Int)) G
theorem sc_Making_stand_for:FnScope ["self","frames","k"] ["self","frames"] (ap nh):=by walk_at"fs"
theorem Zd7 (B:Blt mg) (HMaking:CMaking K C) (T_Making_stand_for:TopM K C "stand_for" "Making.stand_for" nh ["self","frames"]) (Cplaces_of:Callee P w K mg base "places_of" 1 ["frames"] (spG P w K pU)) (Cis_case:Callee P w K mg base "is_case" 2 ["frames","paper"] (spG P w K uR)):MCal P w K mg base C "stand_for" 3 ["self","frames"] (spG P w K (qa C)):=by
 refine T_Making_stand_for.okG sc_Making_stand_for (by walk_at"lnx") fun f cdv A outer s H E ts G k hr hh=>?_
 have nd:=sc_Making_stand_for.nd
 have hu:=hr.units
 obtain ⟨Q,most,G0,S,m,dx,la,pl,ps,qs,l,rfl,M,hl,ho,q⟩:=hh
 refine' go_G [some (.ptr m),some (.lst (l.map sfT)),none] rfl ?hb ?hg
 case hb=>exact (af (bX PassesOwn.never rfl (bT (K:=K) rfl (ZoT (P:=P) (w:=w) rfl rfl hu (bU (K:=K) rfl (pv 0) rfl) (xg Cplaces_of hr.m (xc 1)) (a9 ae) (M2.mk rfl rfl rfl rfl))) (xj 2 nd) (ak (a8 (dj (xg Cis_case hr.m (xb 1 (aI (xa K (xa K (bU (K:=K) rfl (pv 0) rfl) (pv 2)) aa) ae)))) (ak (au (pv 2))) ba))) (ak (au dJ)))
 ext
 refine ⟨m,C,dx,_,.ptr pl,rfl,M.ins,HMaking.cl,HMaking.n_places,rfl,pl,_,rfl,M.plc,?_⟩
 ext
 refine ⟨l,_,rfl,si_l,hl,?_⟩
 ext
 refine ⟨_,_,M.plc,rfl,(S.oth l).map fun (k:Nat)=>.int k,?_,?_⟩
 .rcases M.others l with ⟨h1,h2⟩|⟨r,z,h1,h2⟩
  .rw[h1,h2];exact si_l
  .rw[h1];exact .inr ⟨r,rfl,h2⟩
 refine ⟨fun i Γ' G'=>G'=G/\(∃ c,Γ'=[some (.ptr m),some (.lst (l.map sfT)),c])/\((S.oth l).take i).find? (fun k=>mZ l (S.frAt k))=none,⟨rfl,⟨_,rfl⟩,rfl⟩,?_,?_,?_⟩
 .rintro i Γ' G' ⟨rfl,z⟩
  rcases M.others l with ⟨h1,h2⟩|⟨r,z,h1,h2⟩
  .rw[h1,h2];exact si_l
  .rw[h1];exact .inr ⟨r,rfl,h2⟩
 .rintro i x Γ' G' hx ⟨rfl,⟨c,rfl⟩,hn⟩
  rw[aj] at hx
  obtain ⟨j,ej,rfl⟩:=aH.mp hx
  obtain ⟨d,ed,hf⟩:=ho j (aw ej)
  obtain ⟨p,z,e2,e3⟩:=M.at ed
  have ef:S.frAt j=d.fr:=by unfold MS.frAt;rw[ed];rfl
  ext
  refine ⟨m,C,dx,_,.ptr la,rfl,M.ins,HMaking.cl,HMaking.n_lane,rfl,?_⟩
  ext
  refine l_ix (sg_p M.lane) (bw (n:=j) rfl e2) ?_
  ext
  refine ⟨l,d.fr,_,_,rfl,si_l,.inr ⟨p,rfl,e3⟩,hl,hf,?_⟩
  ext
  cases hc:mZ l d.fr with
  | true =>
   ext
   refine ar ?_
   have es:S.standFor l=some j:=by
    unfold MS.standFor
    have e:S.oth l=(S.oth l).take i++j::(S.oth l).drop (i+1):=by
     have hi:=(ay.mp ej)
     obtain ⟨hi,e⟩:=hi
     rw[<-e,<- oO hi,take_append_drop]
    rw[e,find?_append,hn,c9,ef,hc]
    rfl
   rw[es] at q
   exact q
  | false =>
   ext
   dsimp only
   refine bB ⟨rfl,⟨_,rfl⟩,?_⟩
   rw[b9,ej,find?_append,hn]
   show Option.or none (List.find? _ [j])=none
   rw[c9,ef,hc]
   rfl
 .rintro Γ' G' ⟨rfl,⟨c,rfl⟩,hn⟩
  rw[ai,ck] at hn
  ext
  refine ar ?_
  have es:S.standFor l=none:=hn
  rw[es] at q
  exact q
def sL (C:Addr):Pre:=fun ts G k=>∃ (Q:List Df) (most:Nat) (G0:GH) (S:MS) (m dx la pl:Addr) (ps qs:List Addr) (l:List SF),ts=[.ptr m,.lst (l.map sfT)]/\MkSt C Q most G0 G S m dx la pl ps qs/\l.length<=1000/\(∀ k∈S.oth l,∃ d,S.lane[k]?=some d/\Fit l d.fr)/\k (.bl (S.goesOn l)) G
theorem sc_Making_goes_on_at:FnScope ["self","frames","k"] ["self","frames"] (ap mH):=by walk_at"fs"
theorem ZdC (B:Blt mg) (HMaking:CMaking K C) (T_Making_goes_on_at:TopM K C "goes_on_at" "Making.goes_on_at" mH ["self","frames"]) (MMaking_stand_for:MCal P w K mg base C "stand_for" 3 ["self","frames"] (spG P w K (qa C))):MCal P w K mg base C "goes_on_at" 4 ["self","frames"] (spG P w K (sL C)):=by
 refine T_Making_goes_on_at.okG sc_Making_goes_on_at (by walk_at"lnx") fun f cdv A outer s H E ts G k hr hh=>?_
 have nd:=sc_Making_goes_on_at.nd
 have hu:=hr.units
 obtain ⟨Q,most,G0,S,m,dx,la,pl,ps,qs,l,rfl,M,hl,ho,q⟩:=hh
 refine' go_G [some (.ptr m),some (.lst (l.map sfT)),none] rfl ?hb ?hg
 case hb=>exact (af (bi (i:=2) nd rfl (Or.inl rfl) (pe_m MMaking_stand_for HMaking.cl hr.m (pv 0) (xc 1))) (ak (au (pR (db qw (pv 2) dJ (az _)) (nJ (db eA (xa K (xa K (xa K (bU (K:=K) rfl (pv 0) rfl) (pv 2)) aa) aa) aK (az _)))))))
 ext
 refine ⟨m,dx,_,rfl,M.ins,rfl,?_⟩
 ext
 refine ⟨Q,most,G0,S,m,dx,la,pl,ps,qs,l,rfl,M,hl,ho,?_⟩
 unfold MS.goesOn at q
 cases hs:S.standFor l with
 | none =>
  rw[hs] at q
  ext
  exact ar q
 | some j =>
  rw[hs] at q
  have hj:j∈S.oth l:=by unfold MS.standFor at hs;exact iV hs
  obtain ⟨d,ed,z⟩:=ho j hj
  obtain ⟨p,z,e2,e3⟩:=M.at ed
  have ew:S.wordAt j=d.word:=by unfold MS.wordAt;rw[ed];rfl
  ext
  refine ⟨m,C,dx,_,.ptr la,rfl,M.ins,HMaking.cl,HMaking.n_lane,rfl,?_⟩
  ext
  refine l_ix (sg_p M.lane) (bw (n:=j) rfl e2) ?_
  ext
  dsimp only at q
  rw[ew] at q
  exact ar q
def pC (C:Addr):Pre:=fun ts G k=>∃ (Q:List Df) (most:Nat) (G0:GH) (S:MS) (m dx la pl:Addr) (ps qs:List Addr) (j rows:Nat) (l:List SF) (d:Sd),ts=[.ptr m,.int j,.lst (l.map sfT),.int rows]/\MkSt C Q most G0 G S m dx la pl ps qs/\l.length<=1000/\S.lane[j]?=some d/\Fit l d.fr/\k (ik S j l rows) G
theorem sc_Making_edge_to:FnScope ["self","k","frames","rows"] ["self","k","frames","rows"] (ap mN):=by walk_at"fs"
theorem Zez (B:Blt mg) (HMaking:CMaking K C) (T_Making_edge_to:TopM K C "edge_to" "Making.edge_to" mN ["self","k","frames","rows"]) (Cmoves_into:Callee P w K mg base "moves_into" 2 ["paper","frames"] (spG P w K rD)):MCal P w K mg base C "edge_to" 3 ["self","k","frames","rows"] (spG P w K (pC C)):=by
 refine T_Making_edge_to.okG sc_Making_edge_to (by walk_at"lnx") fun f cdv A outer s H E ts G k hr hh=>?_
 have nd:=sc_Making_edge_to.nd
 obtain ⟨Q,most,G0,S,m,dx,la,pl,ps,qs,j,rows,l,d,rfl,M,hl,ed,hf,q⟩:=hh
 obtain ⟨p,z,e2,e3⟩:=M.at ed
 have ef:S.frAt j=d.fr:=by unfold MS.frAt;rw[ed];rfl
 refine' go_G [some (.ptr m),some (.int j),some (.lst (l.map sfT)),some (.int rows)] rfl ?hb ?hg
 case hb=>exact (ak (au (aD (xb 3 (aS (cL (dN (K:=K) rfl) (by rfl) B.b_tuple dB (aS (xg Cmoves_into hr.m (aI (xa K (xa K (bU (K:=K) rfl (pv 0) rfl) (pv 1)) aa) (xc 2))) ae)) (xc 1))))))
 ext
 refine ⟨m,C,dx,_,.ptr la,rfl,M.ins,HMaking.cl,HMaking.n_lane,rfl,?_⟩
 ext
 refine l_ix (sg_p M.lane) (bw (n:=j) rfl e2) ?_
 ext
 refine ⟨l,d.fr,_,_,rfl,si_l,.inr ⟨p,rfl,e3⟩,hl,hf,?_⟩
 ext
 refine dM sg_l (fun z=>nofun) ?_
 ext
 unfold ik at q
 rw[ef] at q
 exact ar q
theorem Zid (r:Rw):((rowDeedsT.lookup r.row.1).map T.str).getD (.str "leave")=.str (o5 r):=by cases r <;> rfl
theorem l7 {α:Type} (l:List α) (x:α):(l++[x]).getLast?=some x:=oI
def tw (C:Addr):Pre:=fun ts G k=>∃ (Q:List Df) (most:Nat) (G0:GH) (S:MS) (m dx la pl:Addr) (ps qs:List Addr) (n B:Nat) (f:List SF) (s:SF) (x:T),ts=[.ptr m,x]/\MkSt C Q most G0 G S m dx la pl ps qs/\SfL G x f s/\SlOk Q n B f s/\∀ G',MkSt C Q most G0 G' { S with going:=(cA Q most S.going (f++[s])).2 } m dx la pl ps qs->k (.str (cA Q most S.going (f++[s])).1) G'
theorem sc_Making_deed_word:FnScope ["self","paper","word"] ["self","paper"] (ap mL):=by walk_at"fs"
theorem Zd9 (B:Blt mg) (G:Glb K w mg) (HMaking:CMaking K C) (T_Making_deed_word:TopM K C "deed_word" "Making.deed_word" mL ["self","paper"]) (Csilent:Callee P w K mg base "silent" 5 ["program","frames"] (spG P w K qM)) (Crow_of:Callee P w K mg base "row_of" 1 ["program","frame"] (spG P w K kW)):MCal P w K mg base C "deed_word" 6 ["self","paper"] (spG P w K (tw C)):=by
 refine T_Making_deed_word.okG sc_Making_deed_word (by walk_at"lnx") fun f cdv A outer s H E ts G1 k hr hh=>?_
 have nd:=sc_Making_deed_word.nd
 have hu:=hr.units
 obtain ⟨Q,most,G0,S,m,dx,la,pl,ps,qs,n,Bb,f,s,x,rfl,M,hx,hs,q⟩:=hh
 refine' go_G [some (.ptr m),some x,none] rfl ?hb ?hg
 case hb=>exact (af (bJ (i:=2) nd rfl (Or.inl rfl) aK) (af (a8 (aB pE (xg Csilent hr.m (ig (bU (K:=K) rfl (pv 0) rfl) (xc 1))) dJ (az _)) (ak (bi (i:=2) nd rfl (Or.inl rfl) (ZmQ (K:=K) (w:=w) rfl rfl (by rfl) G.c_ROW_DEEDS (xa K (xg Crow_of hr.m (ig (bU (K:=K) rfl (pv 0) rfl) (aI (xa K (pv 1) (cq cm aa)) ae))) aa) aK (M2.mk rfl rfl rfl rfl)))) ba) (af (a8 (PW.pt (dy (aB bf (pv 2) aK (az _)) (eK (aB op_ge (bU (K:=K) rfl (pv 0) rfl) (bU (K:=K) rfl (pv 0) rfl) (az _))))) (ak (au aK)) ba) (af (ir (K:=K) rfl (pv 0) (av bm (bU (K:=K) rfl (pv 0) rfl) aa) rfl) (ak (au (pv 2)))))))
 have hsf:=hs.f.all s (by simp)
 obtain ⟨d,r,hd,h2,hrow,h4,h0,h3,h5⟩:=cW hsf
 have eS:fA Q (f++[s])=fF Q f s:=by unfold fA;rw[l7,iT]
 refine bI (bR (jC (br ?_)))
 refine eB (fun Γ' G'=>Γ'=[some (.ptr m),some x,some (.str (dH Q (f++[s])))]/\G'=G1) ?_ ?_
 .ext
  refine ⟨m,C,dx,_,pgT Q,rfl,M.ins,HMaking.cl,HMaking.n_program,rfl,?_⟩
  ext
  refine ⟨Q,n,Bb,f,s,x,rfl,hx,hs,?_⟩
  ext
  unfold dH
  rw[eS]
  cases hsl:fF Q f s with
  | some l' =>
   ext
   exact ⟨rfl,rfl⟩
  | none =>
   ext
   refine ⟨m,C,dx,_,pgT Q,rfl,M.ins,HMaking.cl,HMaking.n_program,rfl,?_⟩
   ext
   refine l_ix hx.last (dG _ _) ?_
   ext
   refine ⟨Q,s,r,rfl,h0,h3,hrow,?_⟩
   ext
   refine ⟨r.row.1,rfl,?_⟩
   rw[Zid]
   ext
   rw[l7,Option.bind_some,hrow]
   exact ⟨rfl,rfl⟩
 rintro Γ' G' ⟨rfl,rfl⟩
 unfold cA at q
 generalize dH Q (f++[s])=wd at q ⊢
 ext
 by_cases hw:wd="leave"
 .subst hw
  ext
  rw[ag (.inl rfl)] at q
  exact ar (q _ M)
 rw[aL hw]
 ext
 refine ⟨m,C,dx,_,.int S.going,rfl,M.ins,HMaking.cl,HMaking.n_going,rfl,?_⟩
 ext
 refine ⟨m,C,dx,_,.int most,rfl,M.ins,HMaking.cl,HMaking.n_most,rfl,?_⟩
 ext
 by_cases hg:most<=S.going
 .rw[aU (by lia)]
  ext
  rw[ag (.inr hg)] at q
  exact ar (q _ M)
 rw[aL (by lia)]
 ext
 refine ⟨m,C,dx,_,.int S.going,rfl,M.ins,HMaking.cl,HMaking.n_going,rfl,?_⟩
 ext
 refine ⟨m,C,dx,_,rfl,M.ins,HMaking.cl,HMaking.n_going,by simp,?_⟩
 ext
 rw[ah (fun h=>h.elim hw hg)] at q
 exact ar (q _ (M.go (g:=S.going+1)))
theorem uT (l:List SF):((bq l).toNat:Int)=bq l:=by
 have:∀ l:List SF,0<=bq l:=fun l=>by
  unfold bq
  induction l with
  | nil=>exact Int.le_refl 0
  | cons s l ih=>rw[aF,iO];lia
 have:=this l
 lia
theorem ph {Q:List Df} (K:PgK Q) {n B:Nat} {s:SF} (h:SfOk Q n B s):s.2.2.length<=8:=by
 obtain ⟨d,r,hd,j,j,j,j,j,h5⟩:=cW h
 have:=K.b d hd
 lia
structure AddOk (Q:List Df) (S:MS) (l:List SF) (n B:Nat) (f:List SF) (s:SF):Prop where
 few:l.length<=1000
 fm:∀ s∈l,s.2.2.length<=1000/\∀ f∈s.2.2,f.2.length<=1000
 oth:∀ k∈S.oth l,∃ d,S.lane[k]?=some d/\Fit l d.fr/\d.fr.length=l.length
 ep:S.paper l=f++[s]
 ok:SlOk Q n B f s
 l1:S.lane.length < 1000
 l2:S.plc.length < 1000
 l3:(S.oth l).length < 1000
def pQ (C:Addr):Pre:=fun ts G k=>∃ (Q:List Df) (most:Nat) (G0:GH) (S:MS) (m dx la pl:Addr) (ps qs:List Addr) (l:List SF) (n B:Nat) (f:List SF) (s:SF),ts=[.ptr m,.lst (l.map sfT)]/\MkSt C Q most G0 G S m dx la pl ps qs/\AddOk Q S l n B f s/\∀ G' a qs',MkSt C Q most G0 G' (S.add Q most l) m dx la pl (ps++[a]) qs'->k (.int S.lane.length) G'
theorem sc_Making_add_stand:FnScope ["self","frames","k","others","paper"] ["self","frames"] (ap nE):=by walk_at"fs"
theorem Zea (B:Blt mg) (HMaking:CMaking K C) (T_Making_add_stand:TopM K C "add_stand" "Making.add_stand" nE ["self","frames"]) (Cplaces_of:Callee P w K mg base "places_of" 1 ["frames"] (spG P w K pU)) (Cloosened:Callee P w K mg base "loosened" 2 ["frames","other"] (spG P w K qe)) (Cwords_of:Callee P w K mg base "words_of" 2 ["paper"] (spG P w K qP)) (MMaking_deed_word:MCal P w K mg base C "deed_word" 6 ["self","paper"] (spG P w K (tw C))):MCal P w K mg base C "add_stand" 7 ["self","frames"] (spG P w K (pQ C)):=by
 refine T_Making_add_stand.okG sc_Making_add_stand (by walk_at"lnx") fun f cdv A outer s H E ts G1 k hr hh=>?_
 have nd:=sc_Making_add_stand.nd
 have hu:=hr.units
 obtain ⟨Q,most,G0,S,m,dx,la,pl,ps,qs,l,n,Bb,f,s,rfl,M,A,q⟩:=hh
 refine' go_G [some (.ptr m),some (.lst (l.map sfT)),none,none,none] rfl ?hb ?hg
 case hb=>exact (af (bi (i:=2) nd rfl (Or.inl rfl) (aZ (bt (K:=K) rfl) (by rfl) B.b_len bu (ig (bU (K:=K) rfl (pv 0) rfl) ae))) (af (bi (i:=3) nd rfl (Or.inl rfl) (ZoR (P:=P) (w:=w) rfl rfl hu (bU (K:=K) rfl (pv 0) rfl) (xg Cplaces_of hr.m (xc 1)) (a9 ae) (M2.mk rfl rfl rfl rfl))) (af (bi (i:=4) nd rfl (Or.inl rfl) (xg Cloosened hr.m (xb 1 (i9 (fB (aB gD (aZ (bt (K:=K) rfl) (by rfl) B.b_len bu (xc 3)) aa (az _)) (xa K (xa K (bU (K:=K) rfl (pv 0) rfl) (xa K (pv 3) (cq cm aa))) aa) dJ) ae)))) (af (cb (k_bm (K:=K) rfl PySem.F.plainAttrs_list PySem.F.slot_list_append PySem.F.type_list_append eM (bU (K:=K) rfl (pv 0) rfl) (be (aD (aS (xg Cwords_of hr.m (xc 4)) (xb 4 (be (aD (aS (pe_m MMaking_deed_word HMaking.cl hr.m (pv 0) (xc 4)) ae)) ae)))) ae))) (af (cb (k_bm (K:=K) rfl PySem.F.plainAttrs_list PySem.F.slot_list_append PySem.F.type_list_append eM (pv 3) (xc 2))) (ak (au (pv 2))))))))
 ext
 refine ⟨m,C,dx,_,.ptr la,rfl,M.ins,HMaking.cl,HMaking.n_lane,rfl,?_⟩
 refine fI (dh (sg_p M.lane) ?_)
 rw[fW,M.plen,kr]
 refine br ?_
 refine eB (fun Γ' G'=>∃ qs1 plc i r e,Γ'=[some (.ptr m),some (.lst (l.map sfT)),some (.int S.lane.length),some (.ptr r),none]/\MkSt C Q most G0 G' { S with plc:=plc } m dx la pl ps qs1/\qs1[i]?=some r/\plc[i]?=some e/\e.2=S.oth l/\dq (k2P (plcF l)) S.lane.length S.plc=plc.set i (e.1,e.2++[S.lane.length])) ?_ ?_
 .ext
  refine ⟨m,C,dx,_,.ptr pl,rfl,M.ins,HMaking.cl,HMaking.n_places,rfl,pl,_,rfl,M.plc,?_⟩
  ext
  refine ⟨l,_,rfl,si_l,A.few,?_⟩
  have hpl:(List.zipWith (fun q (e:K2×List Nat)=>(e.1,T.ptr q)) qs S.plc).length < 1000000:=by rw[fW];have:=A.l2;lia
  rcases qL (k2P (plcF l)) qs S.plc M.qlen with ⟨h1,h2⟩|⟨i,r,e,h1,h2,h3,h4,h5,h6⟩
  .refine gm (fI ⟨by simp,fun a na=>?_⟩)
   have M1:=M.more (c:=.lst []) na
   refine ⟨_,_,M1.plc,rfl,hpl,fun d hd=>(by rw[h1] at hd;cases hd),fun j=>?_⟩
   ext
   refine ⟨_,_,S.plc.length,a,(k2P (plcF l),[]),rfl,M1.newPlc (M.base na),?_,?_,?_,?_⟩
   .rw[<-M.qlen];exact cI
   .exact cI
   .unfold MS.oth;rw[h2];rfl
   .rw[vt _ h2,set_append_right _ _ (aq _),oB];rfl
  .ext
   refine ⟨_,_,M.plc,rfl,hpl,fun d hd=>?_,fun hd=>by rw[h4] at hd;cases hd⟩
   rw[h4] at hd
   cases hd
   ext
   exact ⟨qs,S.plc,i,r,e,rfl,M,h1,h2,by unfold MS.oth;rw[h5];rfl,h6 _⟩
 rintro Γ' G' ⟨qs1,plc,i,r,e,rfl,M1,hr1,he1,eo,ek⟩
 have gr:=M1.oth i r e hr1 he1
 rw[eo] at gr
 refine eB (fun Γ' G2=>∃ a,Γ'=[some (.ptr m),some (.lst (l.map sfT)),some (.int S.lane.length),some (.ptr r),some (.ptr a)]/\G0 a=none/\MkSt C Q most (gput G0 a (.lst ((S.paper l).map sfT))) G2 { S with plc:=plc } m dx la pl ps qs1) ?_ ?_
 .ext
  refine dh (sg_p gr) ?_
  rw[ai]
  ext
  cases hl:(S.oth l).getLast? with
  | none =>
   have e0:S.oth l=[]:=getLast?_eq_none_iff.mp hl
   rw[e0]
   ext
   refine ⟨l,_,_,none,rfl,si_l,rfl,A.few,A.fm,fun a na=>?_⟩
   ext
   refine ⟨a,rfl,M1.base na,?_⟩
   have:=M1.more (c:=.lst ((S.paper l).map sfT)) na
   unfold MS.paper at this ⊢
   rw[hl] at this ⊢
   exact this
  | some k0 =>
   obtain ⟨ys,ey⟩:=rn.mp hl
   obtain ⟨d,ed,hf,hfl⟩:=A.oth k0 (by rw[ey];simp)
   obtain ⟨p,j,e2,e3⟩:=M1.at (S:={ S with plc:=plc }) ed
   have ef:S.frAt k0=d.fr:=by unfold MS.frAt;rw[ed];rfl
   rw[aU (by rw[ey,aA];simp)]
   ext
   refine ⟨m,C,dx,_,.ptr la,rfl,M1.ins,HMaking.cl,HMaking.n_lane,rfl,?_⟩
   ext
   rw[ey,aO] at gr
   refine l_ix (sg_p gr) (dG _ _) ?_
   refine l_ix (sg_p M1.lane) (bw (n:=k0) rfl e2) ?_
   ext
   refine ⟨l,_,_,some d.fr,rfl,si_l,⟨.inr ⟨p,rfl,e3⟩,fun i s es=>?_⟩,A.few,A.fm,fun a na=>?_⟩
   .have hi:=(ay.mp es).1
    have et:d.fr[i]?=some (d.fr[i]'(by lia)):=ax _
    exact ⟨_,et,(hf i s _ es et).1.symm⟩
   ext
   refine ⟨a,rfl,M1.base na,?_⟩
   have:=M1.more (c:=.lst ((S.paper l).map sfT)) na
   unfold MS.paper at this ⊢
   rw[hl,ff,ef] at this ⊢
   exact this
 rintro Γ' G2 ⟨a,rfl,na,M2⟩
 have ga:G2 a=some (.lst ((S.paper l).map sfT)):=by rw[M2.old a (M2.not0 gp_s),gp_s]
 ext
 refine ⟨m,C,dx,_,.ptr la,rfl,M2.ins,HMaking.cl,HMaking.n_lane,rfl,ty_p M2.lane,?_⟩
 ext
 refine ⟨S.paper l,_,rfl,.inr ⟨a,rfl,ga⟩,?_,fun t ht=>?_,?_⟩
 .rw[A.ep,aA];have:=A.ok.f.few;simp;lia
 .rw[A.ep] at ht
  have:=ph A.ok.pk (A.ok.f.all t ht)
  lia
 ext
 refine ⟨m,dx,_,rfl,M2.ins,rfl,?_⟩
 ext
 refine ⟨Q,most,_,{ S with plc:=plc },m,dx,la,pl,ps,qs1,n,Bb,f,s,.ptr a,rfl,M2,.inr ⟨a,rfl,by rw[<-A.ep];exact ga⟩,A.ok,fun G3 M3=>?_⟩
 rw[<-A.ep] at M3 ⊢
 ext
 refine d7 M3.lane (by rw[fW];have:=A.l1;show min _ S.lane.length < _;lia) ?_
 ext
 have M4:=M3.addPap (d:=⟨(bq (S.paper l)).toNat,S.paper l,(cA Q most S.going (S.paper l)).1,[]⟩) na
 dsimp only [sdT] at M4
 rw[uT] at M4
 refine ⟨ty_p (M4.oth i r e hr1 he1),?_⟩
 ext
 refine d7 (M4.oth i r e hr1 he1) (by rw[ai,eo];have:=A.l3;lia) ?_
 ext
 have M5:=M4.appOth (k:=S.lane.length) hr1 he1
 refine ar (q _ a qs1 ?_)
 unfold MS.add
 rw[ek]
 exact M5
def sK (C:Addr):Pre:=fun ts G k=>∃ (Q:List Df) (most:Nat) (G0:GH) (m dx:Addr),ts=[.ptr m,pgT Q,.int most]/\G=gput (gput G0 dx (.own m)) m (.ins C dx [])/\G0 m=none/\G0 dx=none/\dx≠m/\∀ G' la pl,MkSt C Q most G0 G' ⟨[],[],0⟩ m dx la pl [] []->k .non G'
theorem sc_Making___init__:FnScope ["self","program","most"] ["self","program","most"] (ap mY):=by walk_at"fs"
theorem Zem (B:Blt mg) (HMaking:CMaking K C) (T_Making___init__:TopI K mg C "Making" "Making.__init__" mY ["self","program","most"]):CCal P w K mg base C "Making" 1 ["self","program","most"] (spG P w K (sK C)):=by
 refine T_Making___init__.okG sc_Making___init__ (by walk_at"lnx") fun f cdv A outer s H E ts G k hr hh=>?_
 have nd:=sc_Making___init__.nd
 have hu:=hr.units
 obtain ⟨Q,most,G0,m,dx,rfl,rfl,g1,g2,hne,q⟩:=hh
 refine' go_G [some (.ptr m),some (pgT Q),some (.int most)] rfl ?hb ?hg
 case hb=>exact (af (ir (K:=K) rfl (pv 0) (pv 1) rfl) (af (ir (K:=K) rfl (pv 0) (pv 2) rfl) (af (ir (K:=K) rfl (pv 0) (a9 ae) rfl) (af (ir (K:=K) rfl (pv 0) (ZoS (P:=P) (w:=w) rfl rfl) rfl) (ak (ir (K:=K) rfl (pv 0) aa rfl))))))
 ext
 refine ⟨m,C,dx,_,rfl,gp_s,HMaking.cl,HMaking.n_program,by simp,?_⟩
 ext
 refine ⟨m,C,dx,_,rfl,gp_s,HMaking.cl,HMaking.n_most,fS rfl,?_⟩
 rw[gp_p,gp_p]
 refine bI (jx (gm (fI ⟨by simp,fun la nl=>?_⟩)))
 have l1:la≠m:=fun e=>by rw[e,gp_s] at nl;cases nl
 rw[gp_n l1] at nl
 have l2:la≠dx:=fun e=>by rw[e,gp_s] at nl;cases nl
 rw[gp_n l2] at nl
 ext
 refine ⟨m,C,dx,_,rfl,by rw[gp_n (Ne.symm l1)];exact gp_s,HMaking.cl,HMaking.n_lane,fS rfl,?_⟩
 ext
 intro pl np
 have p1:pl≠m:=fun e=>by rw[e,gp_s] at np;cases np
 rw[gp_n p1] at np
 have p2:pl≠la:=fun e=>by rw[e,gp_s] at np;cases np
 rw[gp_n p2,gp_n p1] at np
 have p3:pl≠dx:=fun e=>by rw[e,gp_s] at np;cases np
 rw[gp_n p3] at np
 ext
 refine ⟨m,C,dx,_,rfl,by rw[gp_n (Ne.symm p1)];exact gp_s,HMaking.cl,HMaking.n_places,fS rfl,?_⟩
 ext
 refine ⟨m,C,dx,_,rfl,gp_s,HMaking.cl,HMaking.n_going,fS rfl,?_⟩
 ext
 refine q _ la pl ⟨gp_s,?_,?_,rfl,fun i p d h=>(by cases h),?_,rfl,fun i p d h=>(by cases h),by simp,fun b hb=>?_,fun b hb=>?_⟩
 .rw[gp_p,gp_n hne,gp_n (Ne.symm p3),gp_n hne,gp_n (Ne.symm l2),gp_n hne];exact gp_s
 .rw[gp_p,gp_n l1,gp_n (Ne.symm p2),gp_n l1];exact gp_s
 .rw[gp_p,gp_n p1];exact gp_s
 .simp only[bH,aG,bv,ci,cF] at hb
  obtain ⟨b1,b2,b3,b4⟩:=hb
  rw[gp_p,gp_n b1,gp_n b4,gp_n b1,gp_n b3,gp_n b1,gp_n b2]
 .simp only[bH,aG,bv,ci] at hb
  rcases hb with rfl|rfl|rfl|rfl
  .exact g1
  .exact g2
  .exact nl
  .exact np
def tR (C:Addr):Pre:=fun ts G k=>∃ (Q:List Df) (most:Nat) (G0:GH) (S:MS) (m dx la pl:Addr) (ps qs:List Addr) (s s1:SF) (box n:Int) (wd:Nat),ts=[.ptr m,.lst [sfT s],.int box,.int n]/\MkSt C Q most G0 G S m dx la pl ps qs/\s.2.2.length<=1000/\(∀ f∈s.2.2,f.2.length<=1000)/\bP [s] none=[s1]/\s1.2.2.length<=1000/\0<=box/\s1.2.2[box.toNat]?=some (ofW (wd:Int))/\S.lane.length < 1000/\∀ G' ps',MkSt C Q most G0 G' (S.hold [s] wd n) m dx la pl ps' qs->k .non G'
theorem sc_Making_add_hold:FnScope ["self","frames","box","n","paper","w"] ["self","frames","box","n"] (ap lG):=by walk_at"fs"
theorem Zel (B:Blt mg) (HMaking:CMaking K C) (T_Making_add_hold:TopM K C "add_hold" "Making.add_hold" lG ["self","frames","box","n"]) (Cloosened:Callee P w K mg base "loosened" 2 ["frames","other"] (spG P w K qe)) (Cwords_of:Callee P w K mg base "words_of" 2 ["paper"] (spG P w K qP)):MCal P w K mg base C "add_hold" 3 ["self","frames","box","n"] (spG P w K (tR C)):=by
 refine T_Making_add_hold.okG sc_Making_add_hold (by walk_at"lnx") fun f cdv A outer s H E ts G1 k hr hh=>?_
 have nd:=sc_Making_add_hold.nd
 have hu:=hr.units
 obtain ⟨Q,most,G0,S,m,dx,la,pl,ps,qs,s,s1,box,n,wd,rfl,M,h1,h2,h3,h4,h5,h6,h7,q⟩:=hh
 refine' go_G [some (.ptr m),some (.lst [sfT s]),some (.int box),some (.int n),none,none] rfl ?hb ?hg
 case hb=>exact (af (bi (i:=4) nd rfl (Or.inl rfl) (xg Cloosened hr.m (xb 1 (ao dJ ae)))) (af (cf (i:=5) nd rfl (Or.inl rfl) (xa K (xa K (xa K (xa K (xa K (xa K (pv 4) aa) aa) (pv 2)) aa) aa) aa)) (ak (cb (k_bm (K:=K) rfl PySem.F.plainAttrs_list PySem.F.slot_list_append PySem.F.type_list_append eM (bU (K:=K) rfl (pv 0) rfl) (be (aD (aS (xg Cwords_of hr.m (xc 4)) (xb 4 (be (aD (ao aK (xb 5 (xc 3)))) ae)))) ae))))))
 ext
 refine ⟨[s],_,_,none,rfl,si_l,rfl,by simp,fun t ht=>by rw[aN.mp ht];exact ⟨h1,h2⟩,fun a na=>?_⟩
 rw[h3]
 have M2:=M.more (c:=.lst ([s1].map sfT)) na
 have ga:=gp_s (G:=G1) (a:=a) (c:=.lst ([s1].map sfT))
 generalize gput G1 a (.lst ([s1].map sfT))=G2 at M2 ga ⊢
 ext
 refine l_ix (sg_p ga) at_0 ?_
 ext
 refine cM (at_i h5 (by rw[aj,h6];rfl)) ?_
 ext
 refine ⟨m,C,dx,_,.ptr la,rfl,M2.ins,HMaking.cl,HMaking.n_lane,rfl,ty_p M2.lane,?_⟩
 ext
 refine ⟨[s1],_,rfl,.inr ⟨a,rfl,ga⟩,by simp,fun t ht=>by rw[aN.mp ht];exact h4,?_⟩
 ext
 refine d7 M2.lane (by rw[fW];lia) ?_
 ext
 have M4:=M2.addPap (d:=⟨(bq [s1]).toNat,[s1],"hold",[.int wd,.int n]⟩) (M.base na)
 dsimp only [sdT] at M4
 rw[uT] at M4
 refine q _ (ps++[a]) ?_
 unfold MS.hold
 rw[h3]
 exact M4
theorem pq {Q:List Df} (pk:PgK Q) {n B:Nat} (hn:n < 64) {f:List SF} {s:SF} (h:FrsOk Q n B f s):(f++[s]).length<=4/\∀ t∈f++[s],t.2.2.length<=8/\∀ g∈t.2.2,g.2.length<=1000:=by
 refine ⟨by have:=h.few;rw[aA];simp;lia,fun t ht=>⟨ph pk (h.all t ht),fun g hg=>?_⟩⟩
 have:=rL ((h.all t ht).fm g hg)
 lia
theorem rB {Q:List Df} {S:MS} (L:LdOk Q S) {n B:Nat} (hn:n < 64) {f:List SF} {s:SF} (h:FrsOk Q n B f s) (hl:S.lane.length < 900):∃ N f' s',AddOk Q S (f++[s]) N (10 ^ 91) f' s':=by
 obtain ⟨N,f',s',h1,h2,h3,h4,h5,h6,h7⟩:=L.paper h
 obtain ⟨q1,q2⟩:=pq L.pk hn h
 refine ⟨N,f',s',by lia,fun t ht=>⟨by have:=(q2 t ht).1;lia,(q2 t ht).2⟩,L.fit h,h3,⟨L.pk,h6,by decide,by lia⟩,by lia,by have:=L.l2;lia,by have:=L.few (f++[s]);lia⟩
theorem vF {P:Program} {w:World} {K:W.Frag} {c:TT} {Γ:Ev} {G:GH} {kb:Bool->GH->Prop} (X:Bool) (h:Wt P w K c Γ G fun b G'=>b=X/\G'=G) (q:kb X G):Wt P w K c Γ G kb:=fun H Z g ev Q z=>h H Z g ev Q fun b H' G' s g' ⟨e1,e2⟩=>z b H' G' s g' (by rw[e1,e2];exact q)
theorem silentL_app {Q:List Df} {f:List SF} {s:SF}:fA Q (f++[s])=fF Q f s:=by unfold fA;rw[l7,iT]
def ql (C:Addr):Pre:=fun ts G k=>∃ (Q:List Df) (most:Nat) (G0:GH) (S:MS) (m dx la pl:Addr) (ps qs:List Addr) (n:Nat) (f:List SF) (s:SF) (least:Nat),ts=[.ptr m,.lst ((f++[s]).map sfT),.int least]/\MkSt C Q most G0 G S m dx la pl ps qs/\LdOk Q S/\n < 64/\FrsOk Q n (10 ^ 91) f s/\least<=1/\S.lane.length < 900/\∀ G' y qs',MkSt C Q most G0 G' (S.edgeFrom Q most (f++[s]) least).1 m dx la pl (ps++y) qs'->k (S.edgeFrom Q most (f++[s]) least).2 G'
theorem sc_Making_edge_from:FnScope ["self","frames","least","rows","behind","k"] ["self","frames","least"] (ap lZ):=by walk_at"fs"
theorem Zd8 (B:Blt mg) (G:Glb K w mg) (HMaking:CMaking K C) (T_Making_edge_from:TopM K C "edge_from" "Making.edge_from" lZ ["self","frames","least"]) (Cis_great:Callee P w K mg base "is_great" 2 ["frames"] (spG P w K sx)) (Csilent:Callee P w K mg base "silent" 5 ["program","frames"] (spG P w K qM)) (MMaking_goes_on_at:MCal P w K mg base C "goes_on_at" 4 ["self","frames"] (spG P w K (sL C))) (MMaking_stand_for:MCal P w K mg base C "stand_for" 3 ["self","frames"] (spG P w K (qa C))) (MMaking_edge_to:MCal P w K mg base C "edge_to" 3 ["self","k","frames","rows"] (spG P w K (pC C))) (MMaking_add_stand:MCal P w K mg base C "add_stand" 7 ["self","frames"] (spG P w K (pQ C))):MCal P w K mg base C "edge_from" 8 ["self","frames","least"] (spG P w K (ql C)):=by
 refine T_Making_edge_from.okG sc_Making_edge_from (by walk_at"lnx") fun f cdv A outer s H E ts G1 k hr hh=>?_
 have nd:=sc_Making_edge_from.nd
 have hu:=hr.units
 obtain ⟨Q,most,G0,S,m,dx,la,pl,ps,qs,n,f,s,least,rfl,M,L,hn,hf,hle,hl,q⟩:=hh
 refine' go_G [some (.ptr m),some (.lst ((f++[s]).map sfT)),some (.int least),none,none,none] rfl ?hb ?hg
 case hb=>exact (af (bJ (i:=3) nd rfl (Or.inl rfl) aa) (af (bJ (i:=4) nd rfl (Or.inl rfl) (pv 1)) (af (rW PassesOwn.never (aB qw (pv 4) dJ (az _)) (af (bJ (i:=1) nd rfl (Or.inl rfl) (pv 4)) (af (a8 (PW.pt (ft (aB op_ge (pv 3) (pv 2) (az _)) (fk (PW.pt (dy (aB bf (pv 3) (oS (by rfl) G.c_MOST_EDGE_ROWS) (az _)) (dy (dj (xg Cis_great hr.m (xc 1))) (eK (dj (pe_m MMaking_goes_on_at HMaking.cl hr.m (pv 0) (xc 1)))))))))) (ak ZmJ) ba) (af (bi (i:=4) nd rfl (Or.inl rfl) (xg Csilent hr.m (ig (bU (K:=K) rfl (pv 0) rfl) (xc 1)))) (ak (bJ (i:=3) nd rfl (Or.inl rfl) (fB (aB qw (pv 4) dJ (az _)) (av bm (pv 3) aa) (pv 3)))))))) (af (bi (i:=5) nd rfl (Or.inl rfl) (pe_m MMaking_stand_for HMaking.cl hr.m (pv 0) (xc 1))) (ak (au (pe_m MMaking_edge_to HMaking.cl hr.m (pv 0) (i9 (fB (aB pE (pv 5) dJ (az _)) (pe_m MMaking_add_stand HMaking.cl hr.m (pv 0) (xc 1)) (pv 5)) (xb 1 (xc 3))))))))))
 refine bI (bR (ii (br ?_)))
 refine bI (bR (eU rfl (br ?_)))
 refine eB (fun Γ' G'=>G'=G1/\∃ rows f1 s1 b,Γ'=[some (.ptr m),some (.lst ((f1++[s1]).map sfT)),some (.int least),some (.int (rows:Nat)),b,none]/\FrsOk Q n (10 ^ 91 * 100 ^ rows) f1 s1/\rows<=200/\cK Q S least 201 0 (f++[s])=(f1++[s1],rows)) ?_ ?_
 .refine tO (fun j Γ' G'=>G'=G1/\((∃ rows f1 s1 x,Γ'=[some (.ptr m),x,some (.int least),some (.int (rows:Nat)),some (.lst ((f1++[s1]).map sfT)),none]/\FrsOk Q n (10 ^ 91 * 100 ^ rows) f1 s1/\rows<=200/\rows+j=201/\cK Q S least j rows (f1++[s1])=cK Q S least 201 0 (f++[s]))\/(∃ rows f1 s1,Γ'=[some (.ptr m),some (.lst ((f1++[s1]).map sfT)),some (.int least),some (.int (rows:Nat)),some .non,none]/\FrsOk Q n (10 ^ 91 * 100 ^ rows) f1 s1/\rows<=200/\cK Q S least 201 0 (f++[s])=(f1++[s1],rows)))) 201 ⟨rfl,.inl ⟨0,f,s,_,rfl,by rw[Nat.pow_zero,Nat.mul_one];exact hf,by lia,by lia,rfl⟩⟩ ?_
  rintro j Γ' G' ⟨rfl,⟨rows,f1,s1,x,rfl,h1,h2,h3,h4⟩|⟨rows,f1,s1,rfl,h1,h2,h3⟩⟩
  .obtain ⟨j,rfl⟩:∃ j',j=j'+1:=⟨j - 1,by lia⟩
   have sm:=pq L.pk hn h1
   have sml:=sm.2 s1 (by simp)
   have gl:((f1++[s1]).getLast?.map gK).getD false=gK s1:=by rw[l7];rfl
   refine iY (jm (eU rfl (jD (i5 ?_))))
   refine ⟨true,rfl,iteT ?_⟩
   refine bI (bR (eU rfl (br ?_)))
   refine bI (ic (vF (decide (least<=rows/\(rows=200\/((f1++[s1]).getLast?.map gK).getD false=true\/S.goesOn (f1++[s1])=true))) ?_ ?_))
   .rw[gl]
    ext
    by_cases c1:least<=rows
    .rw[aU (by lia)]
     ext
     by_cases c2:rows=200
     .rw[aU (by lia)]
      ext
      exact ⟨(aU ⟨c1,.inl c2⟩).symm,rfl⟩
     .rw[aL (by lia)]
      ext
      refine ⟨f1,s1,_,rfl,si_l,by lia,sml.2,?_⟩
      ext
      cases c3:gK s1 with
      | true =>
       ext
       exact ⟨by simp[c1],rfl⟩
      | false =>
       ext
       refine ⟨m,dx,_,rfl,M.ins,rfl,?_⟩
       ext
       refine ⟨Q,most,G0,S,m,dx,la,pl,ps,qs,f1++[s1],rfl,M,by lia,fun k hk=>let ⟨d,e1,e2,_⟩:=L.fit h1 k hk;⟨d,e1,e2⟩,?_⟩
       ext
       exact ⟨by simp[c1,c2],rfl⟩
    .rw[aL (by lia)]
     ext
     exact ⟨by simp[c1],rfl⟩
   rw[cK] at h4
   by_cases hc:least<=rows/\(rows=200\/((f1++[s1]).getLast?.map gK).getD false=true\/S.goesOn (f1++[s1])=true)
   .rw[ag hc] at h4
    rw[aU hc]
    ext
    exact ⟨rfl,rows,f1,s1,_,rfl,h1,h2,h4.symm⟩
   .rw[ah hc,silentL_app] at h4
    rw[aL hc]
    ext
    refine ⟨m,C,dx,_,pgT Q,rfl,M.ins,HMaking.cl,HMaking.n_program,rfl,?_⟩
    ext
    refine ⟨Q,n,_,f1,s1,_,rfl,si_l,⟨L.pk,h1,Zjz h2,hn⟩,?_⟩
    cases hs:fF Q f1 s1 with
    | none =>
     rw[hs] at h4
     ext
     dsimp only
     refine bB ⟨0,by lia,rfl,.inr ⟨rows,f1,s1,rfl,h1,h2,h4.symm⟩⟩
    | some l' =>
     rw[hs] at h4
     obtain ⟨f2,s2,rfl,h5⟩:=sr L.pk h1 (silentL_app.trans hs)
     have r2:rows≠200:=fun e=>hc ⟨by lia,.inl e⟩
     ext
     dsimp only
     refine bB ⟨j,by lia,rfl,.inl ⟨rows+1,f2,s2,some (.lst ((f1++[s1]).map sfT)),rfl,h5,by lia,by lia,h4⟩⟩
  .ext
   exact ⟨rfl,rows,f1,s1,_,rfl,h1,h2,h3⟩
 .rintro Γ' G' ⟨rfl,rows,f1,s1,b,rfl,h1,h2,h3⟩
  have sm:=pq L.pk hn h1
  unfold MS.edgeFrom at q
  rw[h3] at q
  dsimp only at q
  ext
  refine ⟨m,dx,_,rfl,M.ins,rfl,?_⟩
  ext
  refine ⟨Q,most,G0,S,m,dx,la,pl,ps,qs,f1++[s1],rfl,M,by lia,fun k hk=>let ⟨d,e1,e2,_⟩:=L.fit h1 k hk;⟨d,e1,e2⟩,?_⟩
  cases hs:S.standFor (f1++[s1]) with
  | some j =>
   rw[hs] at q
   have hj:j∈S.oth (f1++[s1]):=by unfold MS.standFor at hs;exact iV hs
   obtain ⟨d,ed,hfit,z⟩:=L.fit h1 j hj
   ext
   refine ⟨m,dx,_,rfl,M.ins,rfl,?_⟩
   ext
   refine ⟨Q,most,G0,S,m,dx,la,pl,ps,qs,j,rows,f1++[s1],d,rfl,M,by lia,ed,hfit,?_⟩
   exact ar (q _ [] _ (by rw[bH];exact M))
  | none =>
   rw[hs] at q
   obtain ⟨N,f',s',A⟩:=rB L hn h1 hl
   ext
   refine ⟨m,dx,_,rfl,M.ins,rfl,?_⟩
   ext
   refine ⟨m,dx,_,rfl,M.ins,rfl,?_⟩
   ext
   refine ⟨Q,most,G0,S,m,dx,la,pl,ps,qs,f1++[s1],N,_,f',s',rfl,M,A,fun G3 a qs3 M3=>?_⟩
   obtain ⟨d,ed,hfit⟩:=L.addAt (most:=most) h1
   ext
   refine ⟨Q,most,G0,_,m,dx,la,pl,ps++[a],qs3,S.lane.length,rows,f1++[s1],d,rfl,M3,by lia,ed,hfit,?_⟩
   exact ar (q _ [a] _ M3)
def uX (C:Addr):Pre:=fun ts G k=>∃ (Q:List Df) (most:Nat) (G0:GH) (S:MS) (m dx la pl:Addr) (ps qs:List Addr) (j R:Nat) (d:Sd),ts=[.ptr m,.int j]/\MkSt C Q most G0 G S m dx la pl ps qs/\LdOk Q S/\CtOk most R S/\S.lane[j]?=some d/\S.lane.length < 800/\∀ G' y qs',MkSt C Q most G0 G' (S.edges Q most j).1 m dx la pl (ps++y) qs'->k (.lst (S.edges Q most j).2) G'
theorem sc_Making_edges_from:FnScope ["self","k","stand","word","starts"] ["self","k"] (ap mM):=by walk_at"fs"
theorem ZdD (B:Blt mg) (HMaking:CMaking K C) (T_Making_edges_from:TopM K C "edges_from" "Making.edges_from" mM ["self","k"]) (Cstarts_of:Callee P w K mg base "starts_of" 4 ["program","stand","own"] (spG P w K vi)) (Cown_words:Callee P w K mg base "own_words" 2 ["stand"] (spG P w K ux)) (MMaking_edge_to:MCal P w K mg base C "edge_to" 3 ["self","k","frames","rows"] (spG P w K (pC C))) (MMaking_edge_from:MCal P w K mg base C "edge_from" 8 ["self","frames","least"] (spG P w K (ql C))):MCal P w K mg base C "edges_from" 9 ["self","k"] (spG P w K (uX C)):=by
 refine T_Making_edges_from.okG sc_Making_edges_from (by walk_at"lnx") fun f cdv A outer s H E ts G1 k hr hh=>?_
 have nd:=sc_Making_edges_from.nd
 have hu:=hr.units
 obtain ⟨Q,most,G0,S,m,dx,la,pl,ps,qs,j,R,d,rfl,M,L,c,ed,hl,q⟩:=hh
 refine' go_G [some (.ptr m),some (.int j),none,none,none] rfl ?hb ?hg
 case hb=>exact (af (cf (i:=2) nd rfl (Or.inl rfl) (xa K (bU (K:=K) rfl (pv 0) rfl) (pv 1))) (af (cf (i:=3) nd rfl (Or.inr rfl) (xa K (xa K (pv 2) aa) aa)) (af (a8 (aB bf (pv 3) aK (az _)) (ak (au (a9 ae))) ba) (af (bi (i:=4) nd rfl (Or.inl rfl) (xg Cstarts_of hr.m (ig (bU (K:=K) rfl (pv 0) rfl) (xb 2 (aS (xg Cown_words hr.m (xc 2)) ae))))) (af (a8 (aB bf (pv 3) aK (az _)) (ak (au (a9 (aS (pe_m MMaking_edge_to HMaking.cl hr.m (pv 0) (bZ (av bm (pv 1) aa) (aI (xa K (pv 4) aa) (ao aa ae)))) ae)))) ba) (ak (au (xk ["start"] ["self","word"] [0,3] (bT (K:=K) rfl (pv 4)) (fun cl C fp pins s H=>(pe_m MMaking_edge_from HMaking.cl hr.m (pv 1) (xb 0 (i9 (fB (aB bf (pv 2) aK (az _)) aa aa) ae))))))))))))
 have D:=L.st d (aw ed)
 obtain ⟨f,s,r,e1,es,h1,h2,h3,h4,h5,h6,hs⟩:=sV L.pk D
 obtain ⟨o1,o2,o3⟩:=sT D
 have dm:=D.m
 obtain ⟨p,v,e2,e3⟩:=M.at ed
 unfold MS.edges at q
 rw[ed] at q
 dsimp only at q
 ext
 refine ⟨m,C,dx,_,.ptr la,rfl,M.ins,HMaking.cl,HMaking.n_lane,rfl,?_⟩
 ext
 refine l_ix (sg_p M.lane) (bw (n:=j) rfl e2) ?_
 ext
 by_cases hw:d.word="leave"
 .rw[ag hw] at q
  rw[aU hw]
  ext
  exact ar (q _ [] _ (by rw[bH];exact M))
 rw[ah hw] at q
 rw[aL hw]
 ext
 refine ⟨m,C,dx,_,pgT Q,rfl,M.ins,HMaking.cl,HMaking.n_program,rfl,?_⟩
 ext
 refine ⟨d.many,d.word,d.nums,.ptr p,d.rest,rfl,by lia,fun e=>?_,?_⟩
 .obtain ⟨w',n',r',q1,q2,q3,v⟩:=rV D e
  exact ⟨w',n',r',q1,q2,Int.natCast_nonneg _,by lia⟩
 ext
 obtain ⟨dd,rr,hd,hr2,hrow,hr4,hr0,hr3,hr5⟩:=cW (h1.all s (by simp))
 rw[h3] at hrow
 cases hrow
 have foB:∀ {nn:Nat},nn < 64->∀ g,PlW nn g->FoB nn g:=fun {nn} hn g hg=>⟨hg.fo.le (aq _) (by decide),hn⟩
 refine ⟨Q,f,s,d.own,_,.ptr p,d.many,d.word,d.rest,r,d.many+1,rfl,.inr ⟨p,rfl,by rw[e3,e1]⟩,si_l,⟨by have:=h1.few;lia,fun t ht=>⟨by have:=ph L.pk (h1.all t ht);lia,fun g hg=>foB (by lia) g ((h2 t ht g hg).le o2)⟩,by lia,fun g hg=>foB (by lia) g (o1 g hg),h3,⟨hr0,hr3⟩,h4,fun e=>?_⟩,?_⟩
 .obtain ⟨p',rfl⟩:=h5 e
  have ok:=(L.pk.ok.2.2 dd hd).rows _ (aw hr4)
  exact ⟨p',aE d.many,ofW d.many,rfl,ok.1,by have:=ok.2;lia,by unfold Sd.own ownF;rw[ag e]⟩
 have ef:eJ=cw:=rfl
 rw[ef,<- es]
 have hh:d.word="hold"->d.starts Q=[f.map (cw d.own)++[cw d.own s]]:=fun e=>by rw[es];unfold eC;rw[e,ah (by decide),ah (by decide),ah (by decide)]
 have few:(d.starts Q).length<=2:=by rw[es];exact pH
 generalize d.starts Q=st at q hs hh few ⊢
 ext
 by_cases hw2:d.word="hold"
 .rw[ag hw2] at q
  rw[aU hw2]
  have hst:=hh hw2
  subst hst
  obtain ⟨d2,ed2,ep2⟩:=c.hd j d ed hw2
  obtain ⟨f2,s2,r2,g1,g2,v⟩:=(L.st d2 (aw ed2)).ex
  have epl:plcF d2.fr=plcF (f.map (cw d.own)++[cw d.own s]):=by
   rw[ep2,e1]
   unfold plcF
   rw[aO,aO,cG];rfl
  have fit:=(pO L.pk epl (fun t ht=>⟨_,_,h6.all t ht⟩) fun t ht=>⟨_,_,g2.all t (by rw[<-g1];exact ht)⟩).1
  ext
  refine ⟨m,dx,_,rfl,M.ins,rfl,?_⟩
  ext
  refine bM at_0 ?_
  ext
  refine ⟨Q,most,G0,S,m,dx,la,pl,ps,qs,j+1,0,_,d2,rfl,M,(by have:=h6.few;rw[aA];simp at this ⊢;lia),ed2,fit,?_⟩
  ext
  exact ar (q _ [] _ (by rw[bH];exact M))
 rw[ah hw2] at q
 rw[aL hw2]
 ext
 generalize hle:(if d.word=Str.ofString "go" then 1 else 0)=least at q
 have hl1:least<=1:=by rw[<-hle];split <;> lia
 refine fJ (ia (eU rfl ⟨st.map (fun f=>.lst (f.map sfT)),si_l,by rw[ai];lia,fun i acc Γ' G'=>(∃ x,Γ'=[x,some (.ptr m),some (.str d.word)])/\∃ y qs',MkSt C Q most G0 G' ((st.take i).foldl (bY Q most least) (S,[])).1 m dx la pl (ps++y) qs'/\acc=((st.take i).foldl (bY Q most least) (S,[])).2,⟨⟨none,rfl⟩,[],qs,by rw[bH];exact M,rfl⟩,fun v v v v v=>si_l,?_,?_⟩))
 .rintro i x acc Γ' G' hx ⟨⟨y,rfl⟩,z,qs',M',rfl⟩
  rw[aj] at hx
  obtain ⟨l,el,rfl⟩:=aH.mp hx
  obtain ⟨f',s',rfl,hf⟩:=hs l (aw el)
  obtain ⟨L',c',⟨x,ex,hx2⟩,v⟩:=qr L c (least:=least) (st.take i) (S,[]) L c fun l hl=>hs l (mem_of_mem_take hl)
  have hF:=lB (bY Q most least) (S,[]) _ _ _ el
  have hlen:((st.take i).foldl (bY Q most least) (S,[])).1.lane.length < 900:=by
   rw[ex,aA]
   rw[cz] at hx2
   show S.lane.length+_ < _
   lia
  generalize (st.take i).foldl (bY Q most least) (S,[])=a at M' L' c' hF hlen ⊢
  ext
  refine ⟨m,dx,_,rfl,M'.ins,rfl,?_⟩
  have fin:ql C [.ptr m,.lst ((f'++[s']).map sfT),.int least] G' fun e G2=>(∃ x,[some (.lst ((f'++[s']).map sfT)),some (.ptr m),some (.str d.word)]=[x,some (T.ptr m),some (T.str d.word)])/\∃ y qs',MkSt C Q most G0 G2 ((st.take (i+1)).foldl (bY Q most least) (S,[])).1 m dx la pl (ps++y) qs'/\a.2++[e]=((st.take (i+1)).foldl (bY Q most least) (S,[])).2:=by
   refine ⟨Q,most,G0,a.1,m,dx,la,pl,ps++z,qs',d.many+1,f',s',least,rfl,M',L',by lia,hf,hl1,hlen,fun G3 y3 qs3 M3=>?_⟩
   rw[hF]
   exact ⟨⟨_,rfl⟩,z++y3,qs3,by rw[<-fP];exact M3,rfl⟩
  ext
  by_cases hg:d.word="go"
  .rw[ag hg] at hle
   subst hle
   rw[aU hg]
   ext
   exact fin
  .rw[ah hg] at hle
   subst hle
   rw[aL hg]
   ext
   exact fin
 .rintro acc Γ' G' ⟨⟨y,rfl⟩,z,qs',M',rfl⟩
  rw[ai,ck] at M' ⊢
  exact ar (q _ _ _ M')
def tH (C:Addr):Pre:=fun ts G k=>∃ (Q:List Df) (most:Nat) (G0:GH) (S:MS) (m dx la pl:Addr) (ps qs:List Addr),ts=[.ptr m]/\MkSt C Q most G0 G S m dx la pl ps qs/\LdOk Q S/\CtOk most 2 S/\S.lane.length<=9/\most<=30/\∀ G' ps' qs',MkSt C Q most G0 G' (S.run Q most 100 0) m dx la pl ps' qs'->LdOk Q (S.run Q most 100 0)->(S.run Q most 100 0).lane.length<=69->(∃ R,CtOk most R (S.run Q most 100 0))->k .non G'
theorem sc_Making_add_edges:FnScope ["self","k","stand"] ["self"] (ap lX):=by walk_at"fs"
theorem Zeb (B:Blt mg) (HMaking:CMaking K C) (T_Making_add_edges:TopM K C "add_edges" "Making.add_edges" lX ["self"]) (MMaking_edges_from:MCal P w K mg base C "edges_from" 9 ["self","k"] (spG P w K (uX C))):MCal P w K mg base C "add_edges" 10 ["self"] (spG P w K (tH C)):=by
 refine T_Making_add_edges.okG sc_Making_add_edges (by walk_at"lnx") fun f cdv A outer s H E ts G1 k hr hh=>?_
 have nd:=sc_Making_add_edges.nd
 have hu:=hr.units
 obtain ⟨Q,most,G0,S0,m,dx,la,pl,ps,qs,rfl,M,L,c,hl,hm,q⟩:=hh
 refine' go_G [some (.ptr m),none,none] rfl ?hb ?hg
 case hb=>exact (af (bJ (i:=1) nd rfl (Or.inl rfl) aa) (ak (rW PassesOwn.never (aB ju (pv 1) (aZ (bt (K:=K) rfl) (by rfl) B.b_len bu (ig (bU (K:=K) rfl (pv 0) rfl) ae)) (az _)) (af (cf (i:=2) nd rfl (Or.inl rfl) (xa K (bU (K:=K) rfl (pv 0) rfl) (pv 1))) (af (cr (aD (aI (xa K (pv 2) aa) (aI (xa K (pv 2) aa) (bZ (av (qA (K:=K) rfl) (xa K (pv 2) aa) (cL (dN (K:=K) rfl) (by rfl) B.b_tuple dB (aS (pe_m MMaking_edges_from HMaking.cl hr.m (pv 0) (xc 1)) ae))) ae)))) (cV (bU (K:=K) rfl (pv 0) rfl) (pv 1) cT)) (ak (d9 (i:=1) nd rfl (Or.inl rfl) (av bm (pv 1) aa))))))))
 refine bI (bR (ii (br ?_)))
 refine tO (fun j Γ' G'=>∃ (i:Nat) (S:MS) (ps qs:List Addr) (x:Option T),Γ'=[some (.ptr m),some (.int i),x]/\MkSt C Q most G0 G' S m dx la pl ps qs/\LdOk Q S/\CtOk most (2+2 * i) S/\S.lane.length<=9+2 * cntG (S.lane.take i)/\i+j=100/\S.run Q most j i=S0.run Q most 100 0) 100 ⟨0,S0,ps,qs,_,rfl,M,L,c,by rw[take_zero];exact aR hl (cj _ _),rfl,rfl⟩ ?_
 rintro j Γ' G' ⟨i,S,ps,qs,x,rfl,M,L,c,h1,h2,h3⟩
 have h70:S.lane.length<=69:=by
  have:=Znp S.lane i
  have:=c.c
  have:=c.m
  lia
 ext
 refine ⟨m,C,dx,_,.ptr la,rfl,M.ins,HMaking.cl,HMaking.n_lane,rfl,?_⟩
 refine fI (dh (sg_p M.lane) ?_)
 rw[fW,M.plen,kr]
 ext
 by_cases hi:i < S.lane.length
 .rw[aU (by lia)]
  obtain ⟨j,rfl⟩:∃ j',j=j'+1:=⟨j - 1,by lia⟩
  rw[MS.run,ag hi] at h3
  have ed:S.lane[i]?=some S.lane[i]:=ax hi
  generalize S.lane[i]=d at ed
  obtain ⟨p,ep,e2,e3⟩:=M.at ed
  obtain ⟨s1,s2,s3,s4,s5⟩:=Zmt L c ed
  obtain ⟨z,z,z,e5⟩:=sJ L c ed
  have hrl:=c.rl d (aw ed)
  ext
  refine ⟨m,C,dx,_,.ptr la,rfl,M.ins,HMaking.cl,HMaking.n_lane,rfl,?_⟩
  ext
  refine l_ix (sg_p M.lane) (bw (n:=i) rfl e2) ?_
  ext
  refine ⟨m,dx,_,rfl,M.ins,rfl,?_⟩
  ext
  refine ⟨Q,most,G0,S,m,dx,la,pl,ps,qs,i,_,d,rfl,M,L,c,ed,by lia,fun G2 y2 qs2 M2=>?_⟩
  ext
  refine dM sg_l (fun z=>nofun) ?_
  refine qt (by rw[bz];lia) ?_
  ext
  refine ⟨m,C,dx,_,.ptr la,rfl,M2.ins,HMaking.cl,HMaking.n_lane,rfl,?_⟩
  ext
  have ep2:(ps++y2)[i]?=some p:=by rw[bN (ay.mp ep).1];exact ep
  refine ⟨la,_,i,i,rfl,rfl,M2.lane,?_,?_⟩
  .have hlt:=(ay.mp s3).1
   have hpl:=M2.plen
   unfold ixN
   rw[ag (by lia),ag (by rw[fW];lia),dF]
  have M3:=M2.setSt (r:=d.rest++(S.edges Q most i).2) ep2 s3
  ext
  dsimp only
  refine bB ⟨j,by lia,i+1,S.step Q most i,ps++y2,qs2,_,rfl,?_,s1,by rw[Nat.mul_add,Nat.mul_one,<- fT];exact s2,by lia,by lia,h3⟩
  unfold MS.step
  rw[ed]
  exact M3
 .rw[aL (by lia)]
  ext
  have:S.run Q most j i=S:=by
   cases j with
   | zero=>rfl
   | succ j=>rw[MS.run,ah hi]
  rw[this] at h3
  subst h3
  exact q _ _ _ M L h70 ⟨_,c⟩
abbrev knT (p:Int×Int):T:=.tup [.int p.1,.int p.2]
def ZoN (C:Addr):Pre:=fun ts G k=>∃ (Q:List Df) (f at':Int) (boxes:Nat) (df:Df) (r:Rw) (most:Nat) (known:List (Int×Int)) (x:T),ts=[pgT Q,.int f,.int at',x,.int most]/\SqI G x (known.map knT)/\PlOk Q f at' boxes df r/\(known.map (·.1)).Nodup/\(∀ p∈known,0<=p.1/\p.1 < boxes/\p.2.natAbs<=10 ^ 60)/\most<=30/\∀ G' m dx la pl ps qs,MkSt C Q most G G' (dZ Q f at' boxes known most) m dx la pl ps qs->LdOk Q (dZ Q f at' boxes known most)->(dZ Q f at' boxes known most).lane.length<=69->(∃ R,CtOk most R (dZ Q f at' boxes known most))->k (.ptr la) G'
theorem tq {C:Addr} {Q:List Df} {most:Nat} {G G':GH} {S:MS} {m dx la pl a:Addr} {ps qs:List Addr} {c:Ct} {x:T} {ts:List T} (h:SqI G x ts) (n:G a=none) (M:MkSt C Q most (gput G a c) G' S m dx la pl ps qs):SqI G' x ts:=by
 rcases h with h|⟨b,h1,h2⟩
 .exact .inl h
 .have hb:b≠a:=fun e=>by rw[e,n] at h2;cases h2
  have e:gput G a c b=some (.lst ts):=by rw[gp_n hb];exact h2
  exact .inr ⟨b,h1,by rw[M.old b (M.not0 e)];exact e⟩
theorem sc_made:FnScope ["program","f","at","known","most","making","forms","box","n"] ["program","f","at","known","most"] (ap lY):=by walk_at"fs"
theorem c_made (B:Blt mg) (HMaking:CMaking K C) (T_made:TopFn K mg "made" lY ["program","f","at","known","most"]) (Cof_word:Callee P w K mg base "of_word" 1 ["w"] (spG P w K ma)) (Cplain:Callee P w K mg base "plain" 1 ["n"] (spG P w K i8)) (NMaking:CCal P w K mg base C "Making" 1 ["self","program","most"] (spG P w K (sK C))) (MMaking_add_hold:MCal P w K mg base C "add_hold" 3 ["self","frames","box","n"] (spG P w K (tR C))) (MMaking_add_stand:MCal P w K mg base C "add_stand" 7 ["self","frames"] (spG P w K (pQ C))) (MMaking_add_edges:MCal P w K mg base C "add_edges" 10 ["self"] (spG P w K (tH C))):Callee P w K mg base "made" 11 ["program","f","at","known","most"] (spG P w K (ZoN C)):=by
 refine T_made.okG sc_made (by walk_at"lnx") fun f cdv A outer s H E ts G k hr hh=>?_
 have nd:=sc_made.nd
 have hu:=hr.units
 obtain ⟨Q,f,at',boxes,df,r,most,known,x,rfl,hx,P0,hnd,hkn,hm,q⟩:=hh
 refine' go_G [some (pgT Q),some (.int f),some (.int at'),some x,some (.int most),none,none,none,none] rfl ?hb ?hg
 case hb=>exact (af (bi (i:=5) nd rfl (Or.inl rfl) (pe_new NMaking hr.m (by rfl) (xb 0 (xc 4)))) (af (gp (i:=6) (LN:=["w"]) (FN:=[]) (fr:=[]) rfl nd rfl rfl (cv (by rfl)) (de rfl B.b_range (aI (xa K (xa K (pv 0) (pv 1)) aa) ae)) (fun v v v v v v=>(xj 0 (show ((["w"]:List Str)++([]:List Str)).Nodup by decide +kernel))) (fun v v v v v v=>dI) (fun v v v v v v=>(xg Cof_word hr.m (xc 0)))) (af (bX PassesOwn.never rfl (bT (K:=K) rfl (pv 3)) (ca (K:=K) (n:=2) rfl rfl (aW (xj 7 nd) (aW (xj 8 nd) ce))) (af (cb (pe_m MMaking_add_hold HMaking.cl hr.m (pv 5) (rN (a9 (be (aD (xb 1 (xb 2 (aS (cL (dN (K:=K) rfl) (by rfl) B.b_tuple dB (xc 6)) ae)))) ae)) (xb 7 (xc 8))))) (ak (cr (xg Cplain hr.m (xc 8)) (cV (pv 6) (pv 7) cT))))) (af (cb (pe_m MMaking_add_stand HMaking.cl hr.m (pv 5) (rN (a9 (be (aD (xb 1 (xb 2 (aS (cL (dN (K:=K) rfl) (by rfl) B.b_tuple dB (xc 6)) ae)))) ae)) ae))) (af (cb (pe_m0 MMaking_add_edges HMaking.cl hr.m (pv 5))) (ak (au (bU (K:=K) rfl (pv 5) rfl))))))))
 have hlen:(aE boxes).length=boxes:=by unfold aE;simp
 have hb8:=b8 P0
 ext
 intro m dx nm ndx hne
 refine jG ⟨Q,most,G,m,dx,rfl,rfl,nm,ndx,hne,fun G1 la pl M=>⟨rfl,?_⟩⟩
 ext
 refine qg (fun Γ'=>∃ a,Γ'=[a]) ?_
 ext
 have eqf:(Q.map dfT)[f.toNat]?=some (dfT df):=by rw[aj,P0.f1];rfl
 refine bM (at_i P0.f0 eqf) ?_
 ext
 refine ⟨(boxes:Int),by rw[P0.b],by lia,by lia,?_⟩
 have hrl:(rngT (boxes:Int).toNat).length=boxes:=by unfold rngT;simp
 refine ⟨by rw[hrl];lia,trivial,⟨none,rfl⟩,(aE boxes).map fmT,by rw[ai,hlen,hrl],?_,?_⟩
 .rintro i x y Γ' hx hy ⟨a,rfl⟩
  unfold rngT at hx
  unfold aE at hy
  rw[dF,aj] at hx
  rw[aj,aj] at hy
  obtain ⟨n,en,rfl⟩:=aH.mp hx
  rw[en] at hy
  cases hy
  ext
  refine ⟨⟨_,rfl⟩,rfl,?_⟩
  ext
  exact ⟨n,rfl,rfl,rfl⟩
 intro a na1
 have na:G a=none:=M.base na1
 have M1:=M.more (c:=.lst ((aE boxes).map fmT)) na1
 have fm0:FmsOk boxes [] (aE boxes):=by
  refine ⟨hlen,fun g hg=>?_,fun i hi v=>?_⟩
  .unfold aE at hg
   obtain ⟨i,hi,rfl⟩:=bL.mp hg
   exact .inr ⟨i,cN.mp hi,rfl⟩
  .unfold aE
   rw[aj,cR hi];rfl
 have hkl:known.length<=8:=by
  have:=mX (n:=boxes) _ hnd (fun z hz=>by obtain ⟨p,hp,rfl⟩:=bL.mp hz;exact ⟨(hkn p hp).1,(hkn p hp).2.1⟩)
  rw[ai] at this
  lia
 refine br ?_
 refine eB (fun Γ' G'=>(∃ c1 c2,Γ'=[some (pgT Q),some (.int f),some (.int at'),some x,some (.int most),some (.ptr m),some (.ptr a),c1,c2])/\∃ ps,MkSt C Q most (gput G a (.lst ((fh f at' boxes known).2.map fmT))) G' (fh f at' boxes known).1 m dx la pl ps []/\HdsOk Q f at' (fh f at' boxes known).1/\FmsOk boxes (known.map (·.1)) (fh f at' boxes known).2/\(fh f at' boxes known).1.lane.length=known.length) ?_ ?_
 .refine hV (ia (eU rfl ⟨known.map knT,tq hx na M1,fun i Γ' G'=>(∃ c1 c2,Γ'=[some (pgT Q),some (.int f),some (.int at'),some x,some (.int most),some (.ptr m),some (.ptr a),c1,c2])/\∃ ps,MkSt C Q most (gput G a (.lst (((known.take i).foldl (dX f at') (⟨[],[],0⟩,aE boxes)).2.map fmT))) G' ((known.take i).foldl (dX f at') (⟨[],[],0⟩,aE boxes)).1 m dx la pl ps []/\HdsOk Q f at' ((known.take i).foldl (dX f at') (⟨[],[],0⟩,aE boxes)).1/\FmsOk boxes ((known.take i).map (·.1)) ((known.take i).foldl (dX f at') (⟨[],[],0⟩,aE boxes)).2/\((known.take i).foldl (dX f at') (⟨[],[],0⟩,aE boxes)).1.lane.length=(known.take i).length,⟨⟨none,none,rfl⟩,[],M1,⟨fun d hd=>(by cases hd),rfl,rfl⟩,fm0,rfl⟩,?_,?_,?_⟩))
  .rintro i Γ' G' ⟨v,ps,M',v⟩
   exact tq hx na M'
  .rintro i z Γ' G' hz ⟨⟨c1,c2,rfl⟩,ps,M',H',F',hl'⟩
   rw[aj] at hz
   obtain ⟨⟨box,n⟩,ep,rfl⟩:=aH.mp hz
   obtain ⟨b0,b1,hn⟩:=hkn _ (aw ep)
   dsimp only at b0 b1 hn
   have hF:=lB (dX f at') (⟨[],[],0⟩,aE boxes) _ _ _ ep
   have hT:known.take (i+1)=known.take i++[(box,n)]:=by rw[b9,ep];rfl
   have nb:box∉(known.take i).map (·.1):=fun hb=>by
    have e:known.map (·.1)=(known.take i).map (·.1)++box::(known.drop (i+1)).map (·.1):=by
     obtain ⟨hi,e⟩:=ay.mp ep
     have:known=known.take i++(box,n)::known.drop (i+1):=by rw[<-e,<- oO hi,take_append_drop]
     rw[congrArg (List.map (·.1)) this,aO];rfl
    rw[e,iK] at hnd
    exact hnd.2.2 box hb box bG rfl
   have hil:(known.take i).length<=8:=by rw[cz];lia
   dsimp only
   generalize (known.take (i+1)).foldl (dX f at') (⟨[],[],0⟩,aE boxes)=st2 at hF ⊢
   generalize (known.take i).foldl (dX f at') (⟨[],[],0⟩,aE boxes)=st at M' H' F' hl' hF ⊢
   subst hF
   rw[hT]
   obtain ⟨⟨s1,g1,g2,g3⟩,H2,F2⟩:=Zpl P0 F' b0 b1 nb hn H'
   have ga:G' a=some (.lst (st.2.map fmT)):=by rw[M'.old a (M'.not0 gp_s),gp_s]
   refine bW rfl ?_
   ext
   refine ⟨m,dx,_,rfl,M'.ins,rfl,?_⟩
   ext
   refine dM (sg_p ga) (fun v=>nofun) ?_
   ext
   refine ⟨Q,most,_,st.1,m,dx,la,pl,ps,[],(f,at',st.2),s1,box,n,_,rfl,M',by have:=F'.l;show st.2.length<=1000;lia,fun g hg=>?_,g1,by lia,b0,g3,by lia,fun G2 ps2 M2=>?_⟩
   .have:=rL (F'.pw g hg).fo
    lia
   ext
   refine ⟨n,rfl,?_⟩
   ext
   have ga2:G2 a=some (.lst (st.2.map fmT)):=by rw[M2.old a (M2.not0 gp_s),gp_s]
   refine ⟨a,_,box,box.toNat,rfl,rfl,ga2,?_,?_⟩
   .rw[ai,F'.l]
    unfold ixN
    rw[ag b0,ag b1]
   have M3:=M2.upd (c':=.lst ((st.2.set box.toNat (n,[])).map fmT))
   rw[map_set] at M3
   dsimp only
   refine bB ⟨⟨_,_,rfl⟩,ps2,?_,H2,⟨F2.l,F2.pw,fun j hj hd=>F2.w j hj fun hm=>hd ?_⟩,?_⟩
   .show MkSt C Q most (gput G a (.lst ((st.2.set box.toNat (n,[])).map fmT))) _ _ _ _ _ _ _ _
    rw[map_set];exact M3
   .rw[aO]
    rcases aG.mp hm with hm|hm
    .rw[hm];simp
    .exact gS _ hm
   .show (st.1.lane++[_]).length=_
    rw[aA,aA,hl'];rfl
  .rintro Γ' G' ⟨h1,ps,M',H',F',hl'⟩
   rw[ai,ck] at M' H' F' hl'
   exact ⟨h1,ps,M',H',F',hl'⟩
 rintro Γ' G' ⟨⟨c1,c2,rfl⟩,ps,M',H',F',hl'⟩
 unfold dZ at q
 generalize fh f at' boxes known=st at q M' H' F' hl'
 generalize hend:(st.1.add Q most [(f,at',st.2)]).run Q most 100 0=Send at q
 have ga:G' a=some (.lst (st.2.map fmT)):=by rw[M'.old a (M'.not0 gp_s),gp_s]
 have L:=H'.ld P0
 have hf:=qx P0 F'
 obtain ⟨N,f',s',A⟩:∃ N f' s',AddOk Q st.1 [(f,at',st.2)] N (10 ^ 91) f' s':=rB L (by lia) hf (by lia)
 have L2:=L.add (most:=most) hf
 rw[iF] at L2
 ext
 refine ⟨m,dx,_,rfl,M'.ins,rfl,?_⟩
 ext
 refine dM (sg_p ga) (fun v=>nofun) ?_
 ext
 refine ⟨Q,most,_,st.1,m,dx,la,pl,ps,[],[(f,at',st.2)],N,_,f',s',rfl,M',A,fun G2 p2 qs2 M2=>?_⟩
 ext
 refine ⟨m,dx,_,rfl,M2.ins,rfl,?_⟩
 ext
 refine ⟨Q,most,_,_,m,dx,la,pl,ps++[p2],qs2,rfl,M2,L2,H'.add P0 F',?_,hm,fun G3 ps3 qs3 M3 L3 l3 c3=>?_⟩
 rotate_left 1
 .rw[hend] at M3 L3 l3 c3
  ext
  refine ⟨m,C,dx,_,.ptr la,rfl,M3.ins,HMaking.cl,HMaking.n_lane,rfl,?_⟩
  obtain ⟨M4,e4⟩:=M3.less na
  rw[<-e4]
  refine da ?_ nofun (ar (q _ _ _ _ _ _ _ M4 L3 l3 c3))
  exact ag rfl
 .show (st.1.lane++[_]).length<=9
  rw[aA,hl'];simp;lia
abbrev sgT (s:Int×Int):T:=.tup [.int s.1,.int s.2]
abbrev P0 (sg:List (Int×Int)):List Df:=sg.map fun s=>⟨s.1,s.2,[]⟩
structure SgOk (sg:List (Int×Int)):Prop where
 l1:1<=sg.length
 l2:sg.length<=6
 s:∀ s∈sg,0<=s.1/\s.1<=s.2/\1<=s.2/\s.2<=8
def vD:Pre:=fun ts G k=>∃ (b l:Addr) (boxes many:Int) (sg:List (Int×Int)) (x:T),ts=[.ptr b,.int boxes,.int many,x]/\G b=some (.bag l)/\SqI G x (sg.map sgT)/\SgOk sg/\1<=boxes/\boxes<=8/\1<=many/\many<=1000/\∀ r:Rw,r.Ok (P0 sg) boxes many->k (rowT r) G
theorem sc__law_row:FnScope ["bag","boxes","many","signs","p","q","r","t","kind","some","g"] ["bag","boxes","many","signs"] (ap lP):=by walk_at"fs"
theorem Zj1 (B:Blt mg) (T__law_row:TopFn K mg "_law_row" lP ["bag","boxes","many","signs"]) (Zag:Callee P w K mg base "_law_draw" 1 ["bag","many"] eY) (ZaQ:Callee P w K mg base "_law_number" 2 ["bag"] jc):Callee P w K mg base "_law_row" 3 ["bag","boxes","many","signs"] (spG P w K vD):=by
 refine T__law_row.okG sc__law_row (by walk_at"lnx") fun f cdv A outer s H E ts G k hr hh=>?_
 have nd:=sc__law_row.nd
 obtain ⟨b,l,boxes,many,sg,x,rfl,hb,hx,hs,b1,b8,m1,m2,q⟩:=hh
 refine' go_G [some (.ptr b),some (.int boxes),some (.int many),some x,none,none,none,none,none,none,none] rfl ?hb ?hg
 case hb=>exact (af (bi (i:=4) nd rfl (Or.inl rfl) (xg Zag hr.m (xb 0 (xc 1)))) (af (bi (i:=5) nd rfl (Or.inl rfl) (xg Zag hr.m (xb 0 (xc 1)))) (af (bi (i:=6) nd rfl (Or.inl rfl) (xg Zag hr.m (xb 0 (xc 1)))) (af (bi (i:=7) nd rfl (Or.inl rfl) (xg Zag hr.m (xb 0 (xc 2)))) (af (bi (i:=8) nd rfl (Or.inl rfl) (xg Zag hr.m (xb 0 (ao aa ae)))) (af (f6 (i:=9) nd rfl (Or.inl rfl) (a9 (be (aD (ao aK (xb 4 (aS (xg ZaQ hr.m (xc 0)) ae)))) (be (aD (ao aK (xb 4 (xc 5)))) (be (aD (ao aK (xb 4 (xb 5 (xc 6))))) (be (aD (ao aK (xb 4 (xb 5 (xc 6))))) (be (aD (ao aK (xc 4))) ae))))))) (af (d9 (i:=9) nd rfl (Or.inl rfl) (av fg (pv 9) (a9 (be (aD (ao aK (xb 4 (xb 5 (bZ (av dO (xg Zag hr.m (xb 0 (ao aa ae))) aa) ae))))) (be (aD (ao aK (xc 4))) (be (aD (ao aK (xb 4 (xc 7)))) (be (aD (ao aK (xb 4 (xc 7)))) ae))))))) (af (d9 (i:=9) nd rfl (Or.inl rfl) (av fg (pv 9) (a9 (be (aD (ao aK (xc 7))) (be (aD (ao aK (xc 5))) (be (aD (ao aK (xb 4 (xb 4 (xc 5))))) (be (aD (ao aK (xb 4 (xb 4 (xc 6))))) (be (aD (ao aK (xc 5))) (be (aD (ao aK (xb 5 (xc 7)))) ae))))))))) (af (cb (k_bm (K:=K) rfl PySem.F.plainAttrs_list PySem.F.slot_list_append PySem.F.type_list_append eM (pv 9) (be (aD (ao aK (xc 4))) ae))) (af (a8 (aB ju (pv 8) aa (az _)) (ak (au (xa K (pv 9) (pv 8)))) ba) (af (bi (i:=10) nd rfl (Or.inl rfl) (xg Zag hr.m (xb 0 (aS (aZ (bt (K:=K) rfl) (by rfl) B.b_len bu (xc 3)) ae)))) (af (a8 (PW.pt (dy (aB bf (pv 8) aa (az _)) (eK (PW.pt (ft (aB bf (aZ (bt (K:=K) rfl) (by rfl) B.b_len bu (xc 3)) aa (az _)) (fk (aB bf (pv 8) aa (az _)))))))) (ak (au (aD (ao aK (xb 4 (xb 5 (bZ (av dO (xg Zag hr.m (xb 0 (ao aa ae))) aa) ae))))))) ba) (ak (au (aD (ao aK (xb 4 (xb 10 (aS (cL (dN (K:=K) rfl) (by rfl) B.b_tuple dB (cU (xk ["k"] ["bag","boxes"] [0,1] (de rfl B.b_range (aI (xa K (xa K (pv 3) (pv 10)) aa) ae)) (fun y y y y y y=>(xg Zag hr.m (xb 1 (xc 2))))) ae)) ae)))))))))))))))))))
 ext
 refine bn hb ⟨by lia,by lia⟩ fun p p0 p1=>?_
 ext
 refine bn hb ⟨by lia,by lia⟩ fun q0 q1 q2=>?_
 ext
 refine bn hb ⟨by lia,by lia⟩ fun r r0 r1=>?_
 ext
 refine bn hb ⟨by lia,by lia⟩ fun t t0 t1=>?_
 ext
 refine bn hb ⟨by decide,by decide⟩ fun kind k0 k1=>?_
 ext
 refine pN hb fun n hn=>?_
 ext
 refine bn hb ⟨by decide,by decide⟩ fun c c0 c1=>?_
 ext
 refine fG si_l si_l (fS rfl) ?_
 ext
 refine l_catM si_l si_l (fS rfl) fun a na=>?_
 have nba:b≠a:=g_ne hb na
 ext
 refine ⟨ty_p gp_s,?_⟩
 ext
 refine d7 gp_s (fS rfl) ?_
 rw[gp_p]
 generalize hsome:Ct.lst _=cs
 have hb2:gput G a cs b=some (.bag l):=by rw[gp_n nba];exact hb
 have ga:gput G a cs a=some (.lst ([Rw.put p n,.copy p q0,.plus p q0 r,.less p q0 r,.tell p,.times p q0 (c - 4),.take p,.zero p t,.below p t,.jump t,.tell q0,.plus p p q0,.less p p r,.take q0,.zero q0 t,.back p].map rowT)):=by rw[gp_s,<- hsome];rfl
 have hall:∀ r'∈[Rw.put p n,.copy p q0,.plus p q0 r,.less p q0 r,.tell p,.times p q0 (c - 4),.take p,.zero p t,.below p t,.jump t,.tell q0,.plus p p q0,.less p p r,.take q0,.zero q0 t,.back p],r'.Ok (P0 sg) boxes many:=by
  intro r' hr'
  have hp:In0 p boxes:=⟨p0,p1⟩
  have hq:In0 q0 boxes:=⟨q1,q2⟩
  have hr:In0 r boxes:=⟨r0,r1⟩
  have ht:In0 t many:=⟨t0,t1⟩
  have hc:(c - 4).natAbs<=99:=by lia
  simp only[aG,bv,ci] at hr'
  rcases hr' with rfl|rfl|rfl|rfl|rfl|rfl|rfl|rfl|rfl|rfl|rfl|rfl|rfl|rfl|rfl|rfl
  .exact ⟨hp,hn⟩
  .exact ⟨hp,hq⟩
  .exact ⟨hp,hq,hr⟩
  .exact ⟨hp,hq,hr⟩
  .exact hp
  .exact ⟨hp,hq,hc⟩
  .exact hp
  .exact ⟨hp,ht⟩
  .exact ⟨hp,ht⟩
  .exact ht
  .exact hq
  .exact ⟨hp,hp,hq⟩
  .exact ⟨hp,hp,hr⟩
  .exact hq
  .exact ⟨hq,ht⟩
  .exact hp
 have hcs:∀ x,cs≠.own x:=by rw[<-hsome];exact nofun
 clear hsome
 ext
 by_cases hk:kind < 16
 .rw[aU hk]
  ext
  have h16:[Rw.put p n,.copy p q0,.plus p q0 r,.less p q0 r,.tell p,.times p q0 (c - 4),.take p,.zero p t,.below p t,.jump t,.tell q0,.plus p p q0,.less p p r,.take q0,.zero q0 t,.back p].length=16:=rfl
  generalize [Rw.put p n,.copy p q0,.plus p q0 r,.less p q0 r,.tell p,.times p q0 (c - 4),.take p,.zero p t,.below p t,.jump t,.tell q0,.plus p p q0,.less p p r,.take q0,.zero q0 t,.back p]=rs at ga hall h16
  have hi:kind.toNat < rs.length:=by lia
  have e:(rs.map rowT)[kind.toNat]?=some (rowT rs[kind.toNat]):=by rw[aj,ax hi];rfl
  refine l_ix (sg_p ga) (at_i k0 e) ?_
  exact da na hcs (ar (q _ (hall _ (iQ hi))))
 rw[aL hk]
 have hx2:SqI (gput G a cs) x (sg.map sgT):=jB na hx
 have sl:=hs.l1
 have sl2:=hs.l2
 ext
 refine dh (iX hx2) ?_
 rw[ai]
 ext
 refine bn hb2 ⟨by lia,by lia⟩ fun g g0 g1=>?_
 have times:We P w K (tTup (bd (tC (.str "times")) (bd (tVar 4) (bd (tVar 5) (bd (tOp (rI0 fun i j=>V.int (i - j)) (gi eY [] E0 (bd (tVar 0) (bd (tC (.int 199)) tNil))) (tC (.int 99))) tNil))))) [some (.ptr b),some (.int boxes),some (.int many),some x,some (.int p),some (.int q0),some (.int r),some (.int t),some (.int kind),some (.ptr a),some (.int g)] (gput G a cs) (Cl k):=by
  ext
  refine bn hb2 ⟨by decide,by decide⟩ fun n2 n0 n1=>?_
  ext
  exact da na hcs (ar (q (.times p q0 (n2 - 99)) ⟨⟨p0,p1⟩,⟨q1,q2⟩,by lia⟩))
 obtain ⟨sgn,esg⟩:∃ s,sg[g.toNat]?=some s:=⟨_,ax (by lia)⟩
 have hsg:=hs.s sgn (aw esg)
 have call:We P w K (tTup (bd (tC (.str "call")) (bd (tVar 4) (bd (tVar 10) (bd (tCB (jl K) (bd (ee ["k"] [0,1] (pW (bd (tOp (rIxA K) (tOp (rIxA K) (tVar 3) (tVar 10)) (tC (.int 0))) tNil)) (dg 0) gG (gi eY [] E0 (bd (tVar 1) (bd (tVar 2) tNil)))) tNil)) tNil))))) [some (.ptr b),some (.int boxes),some (.int many),some x,some (.int p),some (.int q0),some (.int r),some (.int t),some (.int kind),some (.ptr a),some (.int g)] (gput G a cs) (Cl k):=by
  ext
  refine fJ ?_
  ext
  have esg2:(sg.map sgT)[g.toNat]?=some (sgT sgn):=by rw[aj,esg];rfl
  refine l_ix (iX hx2) (at_i g0 esg2) ?_
  ext
  refine ⟨sgn.1,rfl,by lia,by lia,?_⟩
  have hrl:(rngT sgn.1.toNat).length=sgn.1.toNat:=by unfold rngT;simp
  refine ⟨by rw[hrl];lia,fun i acc Γ' G'=>G'=gput G a cs/\(∃ c,Γ'=[c,some (.ptr b),some (.int boxes)])/\∃ qs:List Int,acc=qs.map T.int/\qs.length=i/\∀ q∈qs,In0 q boxes,⟨rfl,⟨_,rfl⟩,[],rfl,rfl,fun q hq=>(bv hq).elim⟩,fun y y y y y=>trivial,?_,?_⟩
  .rintro i z acc Γ' G' hz ⟨rfl,⟨c',rfl⟩,qs,rfl,hl,hq⟩
   ext
   refine bn hb2 ⟨by lia,by lia⟩ fun v v0 v1=>?_
   refine ⟨rfl,⟨_,rfl⟩,qs++[v],by rw[aO];rfl,by rw[aA,hl];rfl,fun q hq'=>?_⟩
   rcases aT.mp hq' with h|h
   .exact hq q h
   .rw[aN.mp h];exact ⟨v0,v1⟩
  .rintro acc Γ' G' ⟨rfl,⟨c',rfl⟩,qs,rfl,hl,hq⟩
   rw[hrl] at hl
   ext
   refine dM sg_l (fun y=>nofun) ?_
   ext
   have ok:(Rw.call p g qs).Ok (P0 sg) boxes many:=⟨⟨p0,p1⟩,⟨⟨sgn.1,sgn.2,[]⟩,g0,by rw[aj,esg];rfl,by show (qs.length:Int)=sgn.1;lia⟩,hq⟩
   have q2:=q _ ok
   have er:rowT (.call p g qs)=.tup [.str "call",.int p,.int g,.tup (qs.map T.int)]:=by rw[<-oQ];rfl
   rw[er] at q2
   exact da na hcs (ar q2)
 refine br ?_
 refine bI (ic (vF (decide (kind=19) || (decide (sg.length=1) && decide (kind=18))) ?_ ?_))
 .ext
  by_cases h19:kind=19
  .rw[aU h19]
   ext
   exact ⟨rfl,rfl⟩
  rw[aL h19]
  ext
  refine dh (iX hx2) ?_
  rw[ai]
  ext
  by_cases h1:sg.length=1
  .rw[aU (by lia),aU h1]
   ext
   exact ⟨rfl,rfl⟩
  .rw[aL (by lia),aL h1]
   ext
   exact ⟨rfl,rfl⟩
 .cases decide (kind=19) || (decide (sg.length=1) && decide (kind=18)) with
  | true=>exact iteT (fz times)
  | false=>exact iteF (jK (fz call))
structure DfS (sg:List (Int×Int)) (s:Int×Int) (d:Df):Prop where
 t:d.takes=s.1
 b:d.boxes=s.2
 n:d.rows.length<=30
 rows:∀ r∈d.rows,r.Ok (P0 sg) d.boxes d.rows.length
 last:∃ r,d.rows[d.rows.length - 1]?=some r/\r.last
def uf:Pre:=fun ts G k=>∃ (b l:Addr) (sg:List (Int×Int)) (s:Int×Int) (x:T),ts=[.ptr b,x,sgT s]/\G b=some (.bag l)/\SqI G x (sg.map sgT)/\SgOk sg/\s∈sg/\∀ d,DfS sg s d->k (dfT d) G
theorem sc__law_def:FnScope ["bag","signs","sign","takes","boxes","many","rows","p","last"] ["bag","signs","sign"] (ap mB):=by walk_at"fs"
theorem Zj3 (B:Blt mg) (T__law_def:TopFn K mg "_law_def" mB ["bag","signs","sign"]) (Zag:Callee P w K mg base "_law_draw" 1 ["bag","many"] eY) (Zfz:Callee P w K mg base "_law_row" 3 ["bag","boxes","many","signs"] (spG P w K vD)):Callee P w K mg base "_law_def" 4 ["bag","signs","sign"] (spG P w K uf):=by
 refine T__law_def.okG sc__law_def (by walk_at"lnx") fun f cdv A outer s H E ts G k hr hh=>?_
 have nd:=sc__law_def.nd
 obtain ⟨b,l,sg,sn,x,rfl,hb,hx,hs,hm,q⟩:=hh
 obtain ⟨t0,t1,b1,b8⟩:=hs.s sn hm
 refine' go_G [some (.ptr b),some x,some (sgT sn),none,none,none,none,none,none] rfl ?hb ?hg
 case hb=>exact (af (cr (pv 2) (ca (K:=K) (n:=2) rfl rfl (aW (xj 3 nd) (aW (jj (i:=4) nd rfl (Or.inr rfl)) ce)))) (af (cf (i:=5) nd rfl (Or.inr rfl) (xa K (a9 (ao aa (ao aa (ao aa (ao aa (ao aa (ao aa (bZ (av bm aa (xg Zag hr.m (xb 0 (ao aa ae)))) (ao aa ae))))))))) (xg Zag hr.m (xb 0 (ao aa ae))))) (af (gp (i:=6) (LN:=["k"]) (FN:=["bag","boxes","many","signs"]) (fr:=[0,4,5,1]) rfl nd rfl rfl (cv (by rfl)) (de rfl B.b_range (bZ (av dO (pv 5) aa) ae)) (fun t t t t t t=>(xj 0 (show ((["k"]:List Str)++(["bag","boxes","many","signs"]:List Str)).Nodup by decide +kernel))) (fun t t t t t t=>dI) (fun t t t t t t=>(xg Zfz hr.m (xb 1 (xb 2 (xb 3 (xc 4))))))) (af (a8 (PW.pt (ft (aB gD (pv 5) aa (az _)) (fk (aB bf (xg Zag hr.m (xb 0 (ao aa ae))) aa (az _))))) (af (bi (i:=7) nd rfl (Or.inl rfl) (xg Zag hr.m (xb 0 (xc 4)))) (af (cr (aD (ao aK (xb 7 (bZ (av bm aa (xg Zag hr.m (xb 0 (ao aa ae)))) ae)))) (cV (pv 6) aa cT)) (af (cr (aD (ao aK (bZ (av gk (av bm (pv 7) aa) (pv 4)) (ao aa ae)))) (cV (pv 6) (av dO (pv 5) aa) cT)) (af (cr (fB (aB gD (pv 4) aa (az _)) (aD (ao aK (xb 7 (xb 7 (bZ (av gk (av bm (pv 7) aa) (pv 4)) ae))))) (aD (ao aK (xb 7 (ao aa ae))))) (cV (pv 6) (av dO (pv 5) aa) cT)) (af (cr (aD (ao aK (xb 7 (bZ (av dO (pv 5) aa) ae)))) (cV (pv 6) (av dO (pv 5) aa) cT)) (ak (cr (aD (ao aK (ao aa ae))) (cV (pv 6) (av dO (pv 5) aa) cT)))))))) ba) (af (qh (i:=8) nd rfl (Or.inl rfl) (aD (ao aK (aS (xg Zag hr.m (xb 0 (xc 4))) ae)))) (af (a8 (aB bf (xg Zag hr.m (xb 0 (ao aa ae))) aa (az _)) (ak (qh (i:=8) nd rfl (Or.inl rfl) (aD (ao aK (aS (xg Zag hr.m (xb 0 (xc 5))) ae))))) ba) (ak (au (aD (xb 3 (xb 4 (bZ (av fg (pv 6) (a9 (xc 8))) ae))))))))))))
 refine bI (bR (eU rfl (bW rfl ?_)))
 ext
 refine bn hb ⟨by decide,by decide⟩ fun m1 m10 m11=>?_
 ext
 refine bn hb ⟨by decide,by decide⟩ fun i i0 i1=>?_
 obtain ⟨many,em,mm1,mm2⟩:∃ many:Nat,atI [T.int 3,.int 6,.int 9,.int 4,.int 12,.int 7,.int (1+m1),.int 30] i=some (.int many)/\1<=many/\many<=30:=by
  have:i=0\/i=1\/i=2\/i=3\/i=4\/i=5\/i=6\/i=7:=by lia
  rcases this with rfl|rfl|rfl|rfl|rfl|rfl|rfl|rfl
  .exact ⟨3,rfl,by lia,by lia⟩
  .exact ⟨6,rfl,by lia,by lia⟩
  .exact ⟨9,rfl,by lia,by lia⟩
  .exact ⟨4,rfl,by lia,by lia⟩
  .exact ⟨12,rfl,by lia,by lia⟩
  .exact ⟨7,rfl,by lia,by lia⟩
  .exact ⟨(1+m1).toNat,by rw[rp (by lia)];rfl,by lia,by lia⟩
  .exact ⟨30,rfl,by lia,by lia⟩
 refine bM em ?_
 refine br ?_
 refine bI (bR (Zmo ?_))
 ext
 refine ⟨((many - 1:Nat):Int),by congr 2;lia,by lia,by lia,?_⟩
 have hrl:(rngT ((many - 1:Nat):Int).toNat).length=many - 1:=by unfold rngT;simp
 refine ⟨by rw[hrl];lia,fun i acc Γ' G'=>G'=G/\(∃ c,Γ'=[c,some (.ptr b),some (.int sn.2),some (.int many),some x])/\∃ rs:List Rw,acc=rs.map rowT/\rs.length=i/\∀ r∈rs,r.Ok (P0 sg) sn.2 many,⟨rfl,⟨_,rfl⟩,[],rfl,rfl,fun q hq=>(bv hq).elim⟩,fun t t t t t=>trivial,?_,?_⟩
 .rintro i z acc Γ' G' hz ⟨rfl,⟨c',rfl⟩,rs,rfl,hl,hq⟩
  ext
  refine ⟨b,l,sn.2,many,sg,x,rfl,hb,hx,hs,b1,b8,by lia,by lia,fun r hr=>?_⟩
  refine ⟨rfl,⟨_,rfl⟩,rs++[r],by rw[aO];rfl,by rw[aA,hl];rfl,fun q hq'=>?_⟩
  rcases aT.mp hq' with h|h
  .exact hq q h
  .rw[aN.mp h];exact hr
 rintro acc Γ' G' ⟨rfl,⟨c',rfl⟩,rs,rfl,hl,hok⟩ a na
 rw[hrl] at hl
 have nba:b≠a:=g_ne hb na
 have hb2:∀ {c},gput G' a c b=some (.bag l):=fun {c}=>by rw[gp_n nba];exact hb
 refine br ?_
 refine eB (fun Γ' G2=>(∃ c1,Γ'=[some (.ptr b),some x,some (sgT sn),some (.int sn.1),some (.int sn.2),some (.int many),some (.ptr a),c1,none])/\∃ rs:List Rw,G2=gput G' a (.lst (rs.map rowT))/\rs.length=many - 1/\∀ r∈rs,r.Ok (P0 sg) sn.2 many) ?_ ?_
 .ext
  by_cases h5:5 < many
  .rw[aU (by lia)]
   ext
   refine bn hb2 ⟨by decide,by decide⟩ fun y y0 y1=>?_
   ext
   by_cases hy:y=1
   .rw[aU hy]
    have stp:∀ {rs:List Rw} {i:Int} {r:Rw} {kn:Ev->GH->Prop} {Γ:Ev},rs.length=many - 1->0<=i->i < many - 1->kn Γ (gput G' a (.lst ((rs.set i.toNat r).map rowT)))->∃ a' ts i' j,T.ptr a=.ptr a'/\T.int i=.int i'/\gput G' a (.lst (rs.map rowT)) a'=some (.lst ts)/\ixN ts.length i'=some j/\kn Γ (gput (gput G' a (.lst (rs.map rowT))) a' (.lst (ts.set j (rowT r)))):=fun {rs i r kn Γ} hl i0 i1 h=>by
     refine ⟨a,_,i,i.toNat,rfl,rfl,gp_s,?_,?_⟩
     .rw[ai,hl]
      unfold ixN
      rw[ag i0,ag (by lia)]
     .rw[gp_p,<- map_set];exact h
    have keep:∀ {rs:List Rw} {i:Nat} {r:Rw},(∀ r∈rs,r.Ok (P0 sg) sn.2 many)->r.Ok (P0 sg) sn.2 many->∀ r'∈rs.set i r,r'.Ok (P0 sg) sn.2 many:=fun {rs i r} h hr r' hr'=>by
     rcases gB hr' with h'|rfl
     .exact h r' h'
     .exact hr
    ext
    refine bn hb2 ⟨by lia,by lia⟩ fun p p0 p1=>?_
    ext
    refine bn hb2 ⟨by decide,by decide⟩ fun v v0 v1=>?_
    have hp:In0 p sn.2:=⟨p0,p1⟩
    have hp1:In0 ((p+1) % sn.2) sn.2:=⟨kl _ (by lia),km _ (by lia)⟩
    ext
    refine stp (r:=.put p (3+v)) hl (by lia) (by lia) ?_
    have hl1:(rs.set (0:Int).toNat (.put p (3+v))).length=many - 1:=by rw[bQ];exact hl
    have ok1:=keep (i:=(0:Int).toNat) (r:=.put p (3+v)) hok ⟨hp,by lia⟩
    generalize rs.set (0:Int).toNat (.put p (3+v))=rs1 at hl1 ok1
    ext
    refine l_mod (by lia) ?_
    ext
    refine stp (r:=.put ((p+1) % sn.2) 1) hl1 (by lia) (by lia) ?_
    have hl2:(rs1.set ((many:Int) - 5).toNat (.put ((p+1) % sn.2) 1)).length=many - 1:=by rw[bQ];exact hl1
    have ok2:=keep (i:=((many:Int) - 5).toNat) (r:=.put ((p+1) % sn.2) 1) ok1 ⟨hp1,(by decide:(1:Int).natAbs<=10 ^ 60)⟩
    generalize rs1.set ((many:Int) - 5).toNat (.put ((p+1) % sn.2) 1)=rs2 at hl2 ok2
    ext
    by_cases hb1:1 < sn.2
    .rw[aU hb1]
     ext
     refine l_mod (by lia) ?_
     ext
     refine stp (r:=.less p p ((p+1) % sn.2)) hl2 (by lia) (by lia) ?_
     have ok3:=keep (i:=((many:Int) - 4).toNat) (r:=.less p p ((p+1) % sn.2)) ok2 ⟨hp,hp,hp1⟩
     have hl3:(rs2.set ((many:Int) - 4).toNat (.less p p ((p+1) % sn.2))).length=many - 1:=by rw[bQ];exact hl2
     generalize rs2.set ((many:Int) - 4).toNat (.less p p ((p+1) % sn.2))=rs3 at hl3 ok3
     ext
     refine stp (r:=.zero p (many - 1)) hl3 (by lia) (by lia) ?_
     have hl4:(rs3.set ((many:Int) - 3).toNat (.zero p (many - 1))).length=many - 1:=by rw[bQ];exact hl3
     have ok4:=keep (i:=((many:Int) - 3).toNat) (r:=.zero p (many - 1)) ok3 ⟨hp,by lia,by lia⟩
     generalize rs3.set ((many:Int) - 3).toNat (.zero p (many - 1))=rs4 at hl4 ok4
     ext
     refine stp (r:=.jump 1) hl4 (by lia) (by lia) ?_
     exact ⟨⟨_,rfl⟩,_,rfl,by rw[bQ];exact hl4,keep ok4 ⟨by lia,by lia⟩⟩
    .rw[aL hb1]
     ext
     refine stp (r:=.put p 0) hl2 (by lia) (by lia) ?_
     have ok3:=keep (i:=((many:Int) - 4).toNat) (r:=.put p 0) ok2 ⟨hp,(by decide:(0:Int).natAbs<=10 ^ 60)⟩
     have hl3:(rs2.set ((many:Int) - 4).toNat (.put p 0)).length=many - 1:=by rw[bQ];exact hl2
     generalize rs2.set ((many:Int) - 4).toNat (.put p 0)=rs3 at hl3 ok3
     ext
     refine stp (r:=.zero p (many - 1)) hl3 (by lia) (by lia) ?_
     have hl4:(rs3.set ((many:Int) - 3).toNat (.zero p (many - 1))).length=many - 1:=by rw[bQ];exact hl3
     have ok4:=keep (i:=((many:Int) - 3).toNat) (r:=.zero p (many - 1)) ok3 ⟨hp,by lia,by lia⟩
     generalize rs3.set ((many:Int) - 3).toNat (.zero p (many - 1))=rs4 at hl4 ok4
     ext
     refine stp (r:=.jump 1) hl4 (by lia) (by lia) ?_
     exact ⟨⟨_,rfl⟩,_,rfl,by rw[bQ];exact hl4,keep ok4 ⟨by lia,by lia⟩⟩
   .rw[aL hy]
    ext
    exact ⟨⟨_,rfl⟩,rs,rfl,hl,hok⟩
  .rw[aL (by lia)]
   ext
   exact ⟨⟨_,rfl⟩,rs,rfl,hl,hok⟩
 rintro Γ' G2 ⟨⟨c1,rfl⟩,rs,rfl,hl,hok⟩
 ext
 refine bn hb2 ⟨by lia,by lia⟩ fun z z0 z1=>?_
 ext
 refine bn hb2 ⟨by decide,by decide⟩ fun u u0 u1=>?_
 have fin:∀ r:Rw,r.Ok (P0 sg) sn.2 many->r.last->k (dfT ⟨sn.1,sn.2,rs++[r]⟩) G':=fun r hr hlst=>by
  have hle:(rs++[r]).length=many:=by rw[aA,hl];simp;lia
  refine q _ ⟨rfl,rfl,by rw[hle];exact mm2,fun r' hr'=>?_,r,?_,hlst⟩
  .show r'.Ok (P0 sg) sn.2 (rs++[r]).length
   rw[hle]
   rcases aT.mp hr' with h|h
   .exact hok r' h
   .rw[aN.mp h];exact hr
  .show (rs++[r])[(rs++[r]).length - 1]?=some r
   rw[aA,fc,Nat.add_sub_cancel];exact cI
 ext
 by_cases h5:u=5
 .rw[aU h5]
  ext
  refine bn hb2 ⟨by lia,by lia⟩ fun v v0 v1=>?_
  ext
  refine fG (si_p gp_s) si_l (by rw[ai,hl];simp;lia) ?_
  ext
  have:=fin (.jump v) ⟨v0,v1⟩ trivial
  refine da na nofun (ar ?_)
  unfold dfT at this
  rw[aO] at this
  exact this
 .rw[aL h5]
  ext
  refine fG (si_p gp_s) si_l (by rw[ai,hl];simp;lia) ?_
  ext
  have:=fin (.back z) ⟨z0,z1⟩ trivial
  refine da na nofun (ar ?_)
  unfold dfT at this
  rw[aO] at this
  exact this
theorem ok_of {sg:List (Int×Int)} {Q:List Df} (hq:∀ (i:Nat) s,sg[i]?=some s->∃ d,Q[i]?=some d/\d.takes=s.1) {nb many:Int} {r:Rw} (h:r.Ok (P0 sg) nb many):r.Ok Q nb many:=by
 cases r with
 | call p f qs =>
  obtain ⟨h1,⟨d,h2,h3,h4⟩,h5⟩:=h
  rw[aj] at h3
  obtain ⟨s,es,rfl⟩:=aH.mp h3
  obtain ⟨d',e1,e2⟩:=hq _ s es
  exact ⟨h1,⟨d',h2,e1,by rw[e2];exact h4⟩,h5⟩
 | _=>exact h
theorem pg_of {sg:List (Int×Int)} (hs:SgOk sg) {Q:List Df} (hl:Q.length=sg.length) (h:∀ (i:Nat) s d,sg[i]?=some s->Q[i]?=some d->DfS sg s d):PgK Q:=by
 have l1:=hs.l1
 have l2:=hs.l2
 have at':∀ d∈Q,∃ s∈sg,DfS sg s d:=fun d hd=>by
  obtain ⟨i,hi⟩:=fU.mp hd
  have hlt:=(ay.mp hi).1
  have es:sg[i]?=some (sg[i]'(by lia)):=ax _
  exact ⟨_,aw es,h i _ d es hi⟩
 have hq:∀ (i:Nat) s,sg[i]?=some s->∃ d,Q[i]?=some d/\d.takes=s.1:=fun i s es=>by
  have hlt:=(ay.mp es).1
  have ed:Q[i]?=some (Q[i]'(by lia)):=ax _
  exact ⟨_,ed,(h i s _ es ed).t⟩
 refine ⟨⟨fun e=>by rw[e] at hl;simp at hl;lia,by lia,fun d hd=>?_⟩,fun d hd=>?_⟩
 .obtain ⟨s,hs',D⟩:=at' d hd
  obtain ⟨q1,q2,q3,q4⟩:=hs.s s hs'
  exact ⟨by rw[D.b];lia,by rw[D.b,D.t];lia,by have:=D.n;lia,fun r hr=>ok_of hq (D.rows r hr),D.last⟩
 .obtain ⟨s,hs',D⟩:=at' d hd
  rw[D.b];exact (hs.s s hs').2.2.2
theorem l_min {P:Program} {w:World} {K:W.Frag} {G:GH} {k:T->GH->Prop} {i j:Int} (h:k (.int (if j < i then j else i)) G):LNr P w K rMin [.int i,.int j] G k:=fun H us g r Q z=>by
 cases r with|cons r1 r2=>cases r2 with|cons r2 r3 =>
 cases r1;cases r2;cases r3
 exact ⟨i,j,rfl,z.here g .int h⟩
theorem iW {vs:List Int} {i lo hi:Int} (h0:0<=i) (h1:i < vs.length) (h:∀ v∈vs,lo<=v/\v<=hi):∃ v,atI (vs.map T.int) i=some (.int v)/\lo<=v/\v<=hi:=by
 have hi':i.toNat < vs.length:=by lia
 exact ⟨vs[i.toNat],at_i h0 (by rw[aj,ax hi'];rfl),h _ (iQ hi')⟩
def ZfE:Pre:=fun ts G k=>∃ (b l:Addr),ts=[.ptr b]/\G b=some (.bag l)/\∀ Q,PgK Q->k (pgT Q) G
theorem sc__law_program:FnScope ["bag","signs","k","boxes"] ["bag"] (ap nv):=by walk_at"fs"
theorem ZfJ (B:Blt mg) (T__law_program:TopFn K mg "_law_program" nv ["bag"]) (Zag:Callee P w K mg base "_law_draw" 1 ["bag","many"] eY) (ZfC:Callee P w K mg base "_law_def" 4 ["bag","signs","sign"] (spG P w K uf)):Callee P w K mg base "_law_program" 5 ["bag"] (spG P w K ZfE):=by
 refine T__law_program.okG sc__law_program (by walk_at"lnx") fun f cdv A outer s H E ts G k hr hh=>?_
 have nd:=sc__law_program.nd
 obtain ⟨b,l,rfl,hb,q⟩:=hh
 refine' go_G [some (.ptr b),none,none,none] rfl ?hb ?hg
 case' hb=>refine' af ?bab ?bac
 case' bab=>refine' f6 (i:=1) ?bad ?bae ?baf ?bag
 case bad=>exact nd
 case bae=>exact rfl
 case baf=>exact (Or.inr rfl)
 case' bag=>refine' a9 ?bah
 case' bah=>refine' be ?bai ?baj
 case' bai=>refine' aD ?bak
 case' bak=>refine' ao ?bal ?bam
 case bal=>exact aa
 case' bam=>refine' aI ?ban ?bao
 case' ban=>refine' jA ?bap ?baq ?bar ?bas
 case bap=>exact (k_ix (K:=K) rfl)
 case' baq=>refine' a9 ?bat
 case bat=>exact (ao aa (ao aa (ao aa (ao aa (ao aa (ao aa (ao aa (ao aa ae))))))))
 case bar=>exact (xg Zag hr.m (xb 0 (ao aa ae)))
 case bas=>exact (fun r r=>rfl)
 case bao=>exact ae
 case baj=>exact ae
 case' bac=>refine' af ?bau ?bav
 case' bau=>refine' bX ?baw ?bax ?bay ?baz ?bba
 case baw=>exact PassesOwn.never
 case bax=>exact rfl
 case' bay=>refine' de ?bbb ?bbc ?bbd
 case bbb=>exact rfl
 case bbc=>exact B.b_range
 case' bbd=>refine' aI ?bbe ?bbf
 case' bbe=>refine' jA ?bbg ?bbh ?bbi ?bbj
 case bbg=>exact (k_ix (K:=K) rfl)
 case' bbh=>refine' a9 ?bbk
 case bbk=>exact (ao aa (ao aa (ao aa (ao aa (ao aa (ao aa (ao aa (ao aa ae))))))))
 case bbi=>exact (xg Zag hr.m (xb 0 (ao aa ae)))
 case bbj=>exact (fun r r=>rfl)
 case bbf=>exact ae
 case baz=>exact (xj 2 nd)
 case' bba=>refine' af ?bbl ?bbm
 case' bbl=>refine' d9 (i:=3) ?bbn ?bbo ?bbp ?bbq
 case bbn=>exact nd
 case bbo=>exact rfl
 case bbp=>exact (Or.inl rfl)
 case' bbq=>refine' av ?bbr ?bbs ?bbt
 case bbr=>exact bm
 case bbs=>exact aa
 case' bbt=>refine' pe_fn ?bbu ?bbv ?bbw ?bbx
 case bbu=>exact Zag
 case bbv=>exact hr.m
 case bbw=>exact (by rfl)
 case' bbx=>refine' il ?bby ?bbz
 case bby=>exact (pv 0)
 case' bbz=>refine' aI ?bca ?bcb
 case' bca=>refine' jA ?bcc ?bcd ?bce ?bcf
 case bcc=>exact (k_ix (K:=K) rfl)
 case bcd=>exact (a9 (ao aa (ao aa (ao aa ae))))
 case bce=>exact (xg Zag hr.m (xb 0 (ao aa ae)))
 case bcf=>exact (fun r r=>rfl)
 case bcb=>exact ae
 case' bbm=>refine' ak ?bcg
 case' bcg=>refine' cb ?bch
 case' bch=>refine' k_bm (K:=K) ?bci ?bcj ?bck ?bcl ?bcm ?bcn ?bco
 case bci=>exact rfl
 case bcj=>exact PySem.F.plainAttrs_list
 case bck=>exact PySem.F.slot_list_append
 case bcl=>exact PySem.F.type_list_append
 case bcm=>exact eM
 case bcn=>exact (pv 1)
 case' bco=>refine' be ?bcp ?bcq
 case' bcp=>refine' aD ?bcr
 case' bcr=>refine' aS ?bcs ?bct
 case' bcs=>refine' aZ ?bcu ?bcv ?bcw ?bcx ?bcy
 case bcu=>exact (ZlV rfl)
 case bcv=>exact (by rfl)
 case bcw=>exact B.b_min
 case bcx=>exact bt_min
 case' bcy=>refine' il ?bcz ?bda
 case bcz=>exact (pv 3)
 case' bda=>refine' aI ?bdb ?bdc
 case' bdb=>refine' jA ?bdd ?bde ?bdf ?bdg
 case bdd=>exact (k_ix (K:=K) rfl)
 case bde=>exact (a9 (ao aa (ao aa (ao aa (ao aa (ao aa (ao aa ae)))))))
 case bdf=>exact (xg Zag hr.m (xb 0 (ao aa ae)))
 case bdg=>exact (fun r r=>rfl)
 case bdc=>exact ae
 case bct=>exact (xc 3)
 case bcq=>exact ae
 case' bav=>refine' ak ?bdh
 case' bdh=>refine' au ?bdi
 case' bdi=>refine' eL (LN:=["sign"]) (FN:=["bag","signs"]) (fr:=[0,1]) ?bdj ?bdk ?bdl ?bdm ?bdn ?bdo
 case bdj=>exact rfl
 case bdk=>exact (cv (by rfl))
 case bdl=>exact (bT (K:=K) rfl (pv 1))
 case' bdm=>intro cl C fp pins s H
 case bdm=>exact (xj 0 (show ((["sign"]:List Str)++(["bag","signs"]:List Str)).Nodup by decide +kernel))
 case' bdn=>intro cl C fp pins s H
 case bdn=>exact dI
 case' bdo=>intro cl C fp pins s H
 case bdo=>exact (xg ZfC hr.m (xb 1 (xb 2 (xc 0))))
 refine bI (bR (gm ?_))
 ext
 refine bn hb ⟨by decide,by decide⟩ fun i i0 i1=>?_
 ext
 obtain ⟨v,ev,v1,v8⟩:=iW (vs:=[3,2,4,8,1,6,7,5]) (lo:=1) (hi:=8) i0 i1 (by decide)
 refine bM ev ?_
 ext
 intro a na
 have nba:b≠a:=g_ne hb na
 have hb2:∀ {c},gput G a c b=some (.bag l):=fun {c}=>by rw[gp_n nba];exact hb
 refine br ?_
 ext
 refine bn hb2 ⟨by decide,by decide⟩ fun n n0 n1=>?_
 ext
 obtain ⟨m,em,m0,m5⟩:=iW (vs:=[0,1,2,1,3,4,2,5]) (lo:=0) (hi:=5) n0 n1 (by decide)
 refine bM em ?_
 ext
 refine ⟨m,rfl,by lia,by lia,?_⟩
 have hrl:(rngT m.toNat).length=m.toNat:=by unfold rngT;simp
 refine ⟨fun i Γ' G'=>(∃ c1 c2,Γ'=[some (.ptr b),some (.ptr a),c1,c2])/\∃ sg:List (Int×Int),G'=gput G a (.lst (sg.map sgT))/\sg.length=i+1/\∀ s∈sg,0<=s.1/\s.1<=s.2/\1<=s.2/\s.2<=8,⟨⟨_,_,rfl⟩,[(0,v)],rfl,rfl,fun s hs=>by rw[aN.mp hs];exact ⟨by lia,by lia,v1,v8⟩⟩,fun r r r r=>trivial,?_,?_⟩
 .rintro i z Γ' G' hz ⟨⟨c1,c2,rfl⟩,sg,rfl,hl,hs⟩
  have hi:=(ay.mp hz).1
  ext
  refine bn hb2 ⟨by decide,by decide⟩ fun x x0 x1=>?_
  ext
  obtain ⟨y,ey,y1,y8⟩:=iW (vs:=[3,3,8]) (lo:=1) (hi:=8) x0 x1 (by decide)
  refine bM ey ?_
  ext
  refine bn hb2 ⟨by lia,by lia⟩ fun bx bx0 bx1=>?_
  ext
  refine ⟨ty_p gp_s,?_⟩
  ext
  refine bn hb2 ⟨by decide,by decide⟩ fun u u0 u1=>?_
  ext
  obtain ⟨t,et,t0,t4⟩:=iW (vs:=[1,2,0,1,3,4]) (lo:=0) (hi:=4) u0 u1 (by decide)
  refine bM et ?_
  ext
  refine l_min ?_
  ext
  refine d7 gp_s (by rw[ai];lia) ?_
  rw[gp_p]
  dsimp only
  refine bB ⟨⟨_,_,rfl⟩,sg++[(if t < 1+bx then t else 1+bx,1+bx)],by rw[aO];rfl,by rw[aA,hl];rfl,fun s hs'=>?_⟩
  rcases aT.mp hs' with h|h
  .exact hs s h
  .rw[aN.mp h]
   dsimp only
   split <;> lia
 rintro Γ' G' ⟨⟨c1,c2,rfl⟩,sg,rfl,hl,hs⟩
 rw[hrl] at hl
 have so:SgOk sg:=⟨by lia,by lia,hs⟩
 refine fz (fJ ?_)
 ext
 refine ⟨sg.map sgT,si_p gp_s,?_⟩
 refine ⟨by rw[ai];lia,fun i acc Γ' G'=>G'=gput G a (.lst (sg.map sgT))/\(∃ c,Γ'=[c,some (.ptr b),some (.ptr a)])/\∃ Q:List Df,acc=Q.map dfT/\Q.length=i/\∀ (j:Nat) s d,sg[j]?=some s->Q[j]?=some d->DfS sg s d,⟨rfl,⟨_,rfl⟩,[],rfl,rfl,fun j s d r h=>by cases h⟩,fun i acc Γ' G' ⟨e,_⟩=>e▸si_p gp_s,?_,?_⟩
 .rintro i z acc Γ' G' hz ⟨rfl,⟨c',rfl⟩,Q,rfl,hl',hq⟩
  rw[aj] at hz
  obtain ⟨s,es,rfl⟩:=aH.mp hz
  ext
  refine ⟨b,l,sg,s,.ptr a,rfl,hb2,si_p gp_s,so,aw es,fun d hd=>?_⟩
  refine ⟨rfl,⟨_,rfl⟩,Q++[d],by rw[aO];rfl,by rw[aA,hl'];rfl,fun j s' d' e1 e2=>?_⟩
  by_cases hj:j < Q.length
  .rw[bN hj] at e2;exact hq j s' d' e1 e2
  .have h2:=(ay.mp e2).1
   rw[aA] at h2
   have ej:j=Q.length:=by simp at h2;lia
   subst ej
   rw[cI] at e2
   rw[hl',es] at e1
   cases e1;cases e2;exact hd
 .rintro acc Γ' G' ⟨rfl,⟨c',rfl⟩,Q,rfl,hl',hq⟩
  rw[ai] at hl'
  exact da na nofun (ar (q Q (pg_of so hl' hq)))
def jmpI:Rw->Option Int
 | .jump t=>some t
 | .zero _ t=>some t
 | .below _ t=>some t
 | _=>none
theorem Zph (rs:List Rw):(rs.map fun r=>(jmpI r).map T.int).filterMap id=(rs.filterMap jmpI).map T.int:=by
 induction rs with
 | nil=>rfl
 | cons r rs ih=>cases e:jmpI r <;> simp[e,ih]
theorem jmp_in {Q:List Df} {nb many:Int} {r:Rw} {t:Int} (h:r.Ok Q nb many) (e:jmpI r=some t):In0 t many:=by
 cases r <;> cases e
 .exact h
 .exact h.2
 .exact h.2
def Zhf:Pre:=fun ts G k=>∃ (b l:Addr) (Q:List Df),ts=[.ptr b,pgT Q]/\G b=some (.bag l)/\PgK Q/\∀ (f at':Int) (boxes:Nat) (df:Df) (r:Rw) (bx:List Int) (known:List (Int×Int)),PlOk Q f at' boxes df r->(known.map (·.1)).Nodup->(∀ p∈known,0<=p.1/\p.1 < boxes/\p.2.natAbs<=10 ^ 60/\bx[p.1.toNat]?=some p.2)->known.length<=boxes->bx.length=boxes->(∀ n∈bx,n.natAbs<=10 ^ 60)->k (.tup [.int f,.int at',.lst (bx.map T.int),.lst (known.map knT)]) G
theorem sc__law_place:FnScope ["bag","program","f","at","jumps","boxes","way","known"] ["bag","program"] (ap li):=by walk_at"fs"
theorem ZhG (B:Blt mg) (T__law_place:TopFn K mg "_law_place" li ["bag","program"]) (Zag:Callee P w K mg base "_law_draw" 1 ["bag","many"] eY) (ZaQ:Callee P w K mg base "_law_number" 2 ["bag"] jc):Callee P w K mg base "_law_place" 3 ["bag","program"] (spG P w K Zhf):=by
 refine T__law_place.okG sc__law_place (by walk_at"lnx") fun f cdv A outer s H E ts G k hr hh=>?_
 have nd:=sc__law_place.nd
 obtain ⟨b,l,Q,rfl,hb,pk,q⟩:=hh
 refine' go_G [some (.ptr b),some (pgT Q),none,none,none,none,none,none] rfl ?hb ?hg
 case hb=>exact (af (bi (i:=2) nd rfl (Or.inl rfl) (xg Zag hr.m (xb 0 (aS (aZ (bt (K:=K) rfl) (by rfl) B.b_len bu (xc 1)) ae)))) (af (bi (i:=3) nd rfl (Or.inl rfl) (xg Zag hr.m (xb 0 (aS (aZ (bt (K:=K) rfl) (by rfl) B.b_len bu (aI (xa K (xa K (pv 1) (pv 2)) aa) ae)) ae)))) (af (a8 (aB bf (xg Zag hr.m (xb 0 (ao aa ae))) aa (az _)) (af (gp (i:=4) (LN:=["row"]) (FN:=[]) (fr:=[]) rfl nd rfl rfl (cv (by rfl)) (bT (K:=K) rfl (xa K (xa K (pv 1) (pv 2)) aa)) (fun j j j j j j=>(xj 0 (show ((["row"]:List Str)++([]:List Str)).Nodup by decide +kernel))) (fun j j j j j j=>(eD (aB (k_in (K:=K) rfl) (xa K (pv 0) aa) (a9 (ao aK (ao aK (ao aK ae)))) (by with_unfolding_all rfl)))) (fun j j j j j j=>(xa K (pv 0) (cq cm aa)))) (ak (cf (i:=3) nd rfl (Or.inl rfl) (xa K (av fg (pv 4) (a9 (xc 3))) (xg Zag hr.m (xb 0 (bZ (av bm (aZ (bt (K:=K) rfl) (by rfl) B.b_len bu (xc 4)) aa) ae))))))) ba) (af (bJ (i:=5) nd rfl (Or.inr rfl) (xk ["k"] ["bag"] [0] (de rfl B.b_range (aI (xa K (xa K (pv 1) (pv 2)) aa) ae)) (fun j j j j j j=>(xg ZaQ hr.m (xc 1))))) (af (bi (i:=6) nd rfl (Or.inr rfl) (xg Zag hr.m (xb 0 (ao aa ae)))) (af (gp (i:=7) (LN:=["p"]) (FN:=["boxes","way","bag"]) (fr:=[5,6,0]) rfl nd rfl rfl (cv (by rfl)) (de rfl B.b_range (aS (aZ (bt (K:=K) rfl) (by rfl) B.b_len bu (xc 5)) ae)) (fun j j j j j j=>(xj 0 (show ((["p"]:List Str)++(["boxes","way","bag"]:List Str)).Nodup by decide +kernel))) (fun j j j j j j=>(eD (PW.pt (dy (aB bf (pv 2) aa (az _)) (eK (PW.pt (ft (aB gD (pv 2) aa (az _)) (fk (aB bf (xg Zag hr.m (xb 3 (ao aa ae))) aa (az _)))))))))) (fun j j j j j j=>(aD (xb 0 (aI (xa K (pv 1) (pv 0)) ae))))) (ak (au (aD (xb 2 (xb 3 (xb 5 (xc 7)))))))))))))
 have hq0:0 < Q.length:=oN.mpr pk.ok.1
 have hq1:=pk.ok.2.1
 ext
 rw[ai]
 refine bn hb ⟨by lia,by lia⟩ fun f f0 f1=>?_
 ext
 obtain ⟨df,ef⟩:∃ d,Q[f.toNat]?=some d:=⟨_,ax (by lia)⟩
 have eqf:(Q.map dfT)[f.toNat]?=some (dfT df):=by rw[aj,ef];rfl
 have D:=pk.ok.2.2 df (aw ef)
 have db8:=pk.b df (aw ef)
 have db1:=D.b.1
 have dn:=D.n
 have dr0:0 < df.rows.length:=by obtain ⟨j,e,j⟩:=D.last;have:=(ay.mp e).1;lia
 refine bM (at_i f0 eqf) ?_
 ext
 rw[ai]
 refine bn hb ⟨by lia,by lia⟩ fun a a0 a1=>?_
 refine br ?_
 refine eB (fun Γ' G'=>G'=G/\∃ a2 c1,Γ'=[some (.ptr b),some (pgT Q),some (.int f),some (.int a2),c1,none,none,none]/\0<=a2/\a2 < df.rows.length) ?_ ?_
 .ext
  refine bn hb ⟨by decide,by decide⟩ fun v v0 v1=>?_
  ext
  by_cases hv:v=2
  .rw[aU hv]
   ext
   refine fZ (fun Γ'=>∃ c,Γ'=[c]) ?_
   ext
   refine bM (at_i f0 eqf) ?_
   ext
   refine ⟨df.rows.map rowT,si_l,by rw[ai];lia,si_l,⟨_,rfl⟩,df.rows.map fun r=>(jmpI r).map T.int,by rw[ai,ai],?_,?_⟩
   .rintro i x z Γ' hx hz ⟨c,rfl⟩
    rw[aj] at hx hz
    obtain ⟨r,er,rfl⟩:=aH.mp hx
    rw[er] at hz
    cases hz
    ext
    refine ⟨⟨_,rfl⟩,rfl,?_⟩
    ext
    refine gH (ss:=["jump","zero","below"]) sg_l ?_
    ext
    cases r
    case jump=>exact ⟨rfl,iteT ⟨_,rfl,by ext;exact ⟨rfl,rfl⟩⟩⟩
    case zero=>exact ⟨rfl,iteT ⟨_,rfl,by ext;exact ⟨rfl,rfl⟩⟩⟩
    case below=>exact ⟨rfl,iteT ⟨_,rfl,by ext;exact ⟨rfl,rfl⟩⟩⟩
    all_goals exact ⟨rfl,iteF rfl⟩
   .rw[Zph]
    have hjl:(df.rows.filterMap jmpI).length<=df.rows.length:=length_filterMap_le _ _
    ext
    refine fG si_l si_l (by rw[ai];simp;lia) ?_
    ext
    rw[ai]
    refine bn hb ⟨by lia,by lia⟩ fun i i0 i1=>?_
    ext
    obtain ⟨a2,ea,l1,l2⟩:=iW (vs:=df.rows.filterMap jmpI++[a]) (lo:=0) (hi:=(df.rows.length:Int) - 1) i0 (by rw[aA];simpa using i1) (fun x hx=>by
     rcases aT.mp hx with h|h
     .obtain ⟨r,hr,e⟩:=mem_filterMap.mp h
      have:=jmp_in (D.rows r hr) e
      exact ⟨this.1,by have:=this.2;lia⟩
     .rw[aN.mp h];lia)
    rw[aO] at ea
    refine bM ea ?_
    ext
    exact ⟨rfl,a2,_,rfl,l1,by lia⟩
  .rw[aL hv]
   ext
   exact ⟨rfl,a,_,rfl,a0,a1⟩
 rintro Γ' G' ⟨rfl,a2,c1,rfl,a20,a21⟩
 refine bI (bR (fJ ?_))
 ext
 refine bM (at_i f0 eqf) ?_
 ext
 refine ⟨df.boxes,rfl,by lia,by lia,?_⟩
 have hrl:(rngT df.boxes.toNat).length=df.boxes.toNat:=by unfold rngT;simp
 refine ⟨by rw[hrl];lia,fun i acc Γ' G2=>G2=G'/\(∃ c,Γ'=[c,some (.ptr b)])/\∃ bx:List Int,acc=bx.map T.int/\bx.length=i/\∀ n∈bx,n.natAbs<=10 ^ 60,⟨rfl,⟨_,rfl⟩,[],rfl,rfl,fun q hq=>(bv hq).elim⟩,fun j j j j j=>trivial,?_,?_⟩
 .rintro i z acc Γ' G2 hz ⟨rfl,⟨c',rfl⟩,bx,rfl,hl,hn⟩
  ext
  refine pN hb fun n hn'=>?_
  refine ⟨rfl,⟨_,rfl⟩,bx++[n],by rw[aO];rfl,by rw[aA,hl];rfl,fun m hm=>?_⟩
  rcases aT.mp hm with h|h
  .exact hn m h
  .rw[aN.mp h];exact hn'
 rintro acc Γ' G2 ⟨rfl,⟨c',rfl⟩,bx,rfl,hbl,hbn⟩
 rw[hrl] at hbl
 ext
 refine bn hb ⟨by decide,by decide⟩ fun way w0 w1=>?_
 refine br ?_
 refine bI (bR (fJ ?_))
 ext
 refine ⟨bx.length,by rw[ai],by lia,by lia,?_⟩
 have hrl2:(rngT (bx.length:Int).toNat).length=bx.length:=by unfold rngT;simp
 refine ⟨by rw[hrl2];lia,fun i acc Γ' G3=>G3=G2/\(∃ c,Γ'=[c,some (.lst (bx.map T.int)),some (.int way),some (.ptr b)])/\∃ kn:List (Int×Int),acc=kn.map knT/\(kn.map (·.1)).Nodup/\kn.length<=i/\∀ p∈kn,0<=p.1/\p.1 < i/\p.2.natAbs<=10 ^ 60/\bx[p.1.toNat]?=some p.2,⟨rfl,⟨_,rfl⟩,[],rfl,eI,bg _,fun q hq=>(bv hq).elim⟩,fun j j j j j=>trivial,?_,?_⟩
 .rintro i z acc Γ' G3 hz ⟨rfl,⟨c',rfl⟩,kn,rfl,hnd,hlk,hk⟩
  have hi:=(ay.mp hz).1
  rw[hrl2] at hi
  have ez:z=.int (i:Int):=by
   unfold rngT at hz
   rw[aj,cR (by simpa using hi)] at hz
   cases hz;rfl
  subst ez
  obtain ⟨n,en⟩:∃ n,bx[i]?=some n:=⟨_,ax hi⟩
  have enT:(bx.map T.int)[i]?=some (.int n):=by rw[aj,en];rfl
  have hno:∀ p∈kn,0<=p.1/\p.1 < ((i+1:Nat):Int)/\p.2.natAbs<=10 ^ 60/\bx[p.1.toNat]?=some p.2:=fun p hp=>by obtain ⟨x1,x2,x3⟩:=hk p hp;exact ⟨x1,by lia,x3⟩
  have hyes:∀ p∈kn++[((i:Int),n)],0<=p.1/\p.1 < ((i+1:Nat):Int)/\p.2.natAbs<=10 ^ 60/\bx[p.1.toNat]?=some p.2:=fun p hp=>by
   rcases aT.mp hp with h|h
   .exact hno p h
   .rw[aN.mp h];exact ⟨by show (0:Int)<=i;lia,by show (i:Int) < _;lia,hbn n (aw en),by show bx[((i:Int)).toNat]?=some n;rw[dF];exact en⟩
  have hnd2:((kn++[((i:Int),n)]).map (·.1)).Nodup:=by
   rw[aO,iK]
   refine ⟨hnd,by simp,fun x hx y hy e=>?_⟩
   obtain ⟨p,hp,rfl⟩:=bL.mp hx
   have hy:=aN.mp hy
   have:=(hk p hp).2.1
   dsimp only at hy
   lia
  refine br ?_
  have yes:We P w K (tTup (bd (tVar 0) (bd (tOp (rIxA K) (tVar 1) (tVar 0)) tNil))) [some (.int (i:Int)),some (.lst (bx.map T.int)),some (.int way),some (.ptr b)] G3 (fun d G4=>G4=G3/\(∃ c:Option T,([some (T.int (i:Int)),some (T.lst (bx.map T.int)),some (T.int way),some (T.ptr b)]:Ev)=[c,some (T.lst (bx.map T.int)),some (T.int way),some (T.ptr b)])/\∃ kn':List (Int×Int),kn.map knT++[d]=kn'.map knT/\(kn'.map (·.1)).Nodup/\kn'.length<=i+1/\∀ p∈kn',0<=p.1/\p.1 < ((i+1:Nat):Int)/\p.2.natAbs<=10 ^ 60/\bx[p.1.toNat]?=some p.2):=by
   ext
   refine bM (bw (n:=i) rfl enT) ?_
   ext
   exact ⟨rfl,⟨_,rfl⟩,kn++[((i:Int),n)],by rw[aO];rfl,hnd2,by rw[aA];exact Nat.succ_le_succ hlk,hyes⟩
  ext
  by_cases h3:way=3
  .rw[aU h3]
   exact iteT (iteT yes)
  rw[aL h3]
  ext
  by_cases h0:0 < way
  .rw[aU h0]
   ext
   refine bn hb ⟨by decide,by decide⟩ fun v v0 v1=>?_
   ext
   by_cases hv:v=1
   .rw[aU hv]
    exact iteT yes
   .rw[aL hv]
    exact iteF ⟨rfl,⟨_,rfl⟩,kn,rfl,hnd,by lia,hno⟩
  .rw[aL h0]
   ext
   exact ⟨rfl,⟨_,rfl⟩,kn,rfl,hnd,by lia,hno⟩
 rintro acc Γ' G3 ⟨rfl,⟨c2,rfl⟩,kn,rfl,hnd,hlk,hk⟩
 rw[hrl2] at hk hlk
 ext
 obtain ⟨r,er⟩:∃ r,df.rows[a2.toNat]?=some r:=⟨_,ax (by lia)⟩
 exact ar (q f a2 bx.length df r bx kn ⟨pk,f0,ef,a20,er,by lia⟩ hnd hk hlk rfl hbn)
def ZjB:Pre:=fun ts G k=>∃ (b l:Addr) (bx:List Int) (kn:List (Int×Int)),ts=[.ptr b,.lst (bx.map T.int),.lst (kn.map knT)]/\G b=some (.bag l)/\bx.length<=60/\kn≠[]/\kn.length<=60/\(∀ n∈bx,n.natAbs<=10 ^ 60)/\(∀ p∈kn,0<=p.1/\bx[p.1.toNat]?=some p.2)/\∀ xs:List Int,xs.length=bx.length->(∀ n∈xs,n.natAbs<=10 ^ 62)->(∃ p∈kn,∃ v,xs[p.1.toNat]?=some v/\v≠p.2)->k (.lst (xs.map T.int)) G
theorem ch_ne {a n:Int}:a+n+(if decide (n=0)=true then 1 else 0)≠a:=by
 by_cases h:n=0
 .subst h;simp;lia
 .rw[ah (by simpa using h)];lia
theorem sc__law_changed:FnScope ["bag","boxes","known","other","p","q","n"] ["bag","boxes","known"] (ap mm):=by walk_at"fs"
theorem ZfK (B:Blt mg) (T__law_changed:TopFn K mg "_law_changed" mm ["bag","boxes","known"]) (Zag:Callee P w K mg base "_law_draw" 1 ["bag","many"] eY) (ZaQ:Callee P w K mg base "_law_number" 2 ["bag"] jc):Callee P w K mg base "_law_changed" 3 ["bag","boxes","known"] (spG P w K ZjB):=by
 refine T__law_changed.okG sc__law_changed (by walk_at"lnx") fun f cdv A outer s H E ts G k hr hh=>?_
 have nd:=sc__law_changed.nd
 obtain ⟨b,l,bx,kn,rfl,hb,hbl,hne,hkl,hbn,hk,q⟩:=hh
 refine' go_G [some (.ptr b),some (.lst (bx.map T.int)),some (.lst (kn.map knT)),none,none,none,none] rfl ?hb ?hg
 case hb=>exact (af (bi (i:=3) nd rfl (Or.inl rfl) (cL (tG (K:=K) rfl) (by rfl) B.b_list m9 (xc 1))) (af (cf (i:=4) nd rfl (Or.inl rfl) (xa K (xa K (pv 2) (xg Zag hr.m (xb 0 (aS (aZ (bt (K:=K) rfl) (by rfl) B.b_len bu (xc 2)) ae)))) aa)) (af (bX PassesOwn.never rfl (bT (K:=K) rfl (xk ["one"] [] [] (bT (K:=K) rfl (pv 2)) (fun u u u u u u=>(xa K (pv 0) aa)))) (xj 5 nd) (af (bi (i:=6) nd rfl (Or.inl rfl) (xg ZaQ hr.m (xc 0))) (ak (a8 (PW.pt (dy (aB bf (pv 5) (pv 4) (az _)) (eK (aB bf (xg Zag hr.m (xb 0 (ao aa ae))) aa (az _))))) (ak (cr (av bm (av bm (xa K (pv 1) (pv 5)) (pv 6)) (cL ZlZ (by rfl) B.b_int bt_int (ZmT (db bf (pv 6) aa (az _)) ae))) (cV (pv 3) (pv 5) cT))) ba)))) (ak (au (pv 3))))))
 have hk0:0 < kn.length:=oN.mpr hne
 refine bI (bR ?_)
 ac_nf
 refine Zm3 sg_l fun a na=>?_
 refine br ?_
 have nba:b≠a:=g_ne hb na
 have hb2:∀ {c},gput G a c b=some (.bag l):=fun {c}=>by rw[gp_n nba];exact hb
 ac_nf
 rw[ai]
 refine bn hb2 ⟨by lia,by lia⟩ fun i0 i00 i01=>?_
 ac_nf
 obtain ⟨p0,ep0⟩:∃ p,kn[i0.toNat]?=some p:=⟨_,ax (by lia)⟩
 refine bM (at_i i00 (by rw[aj,ep0];rfl)) ?_
 ac_nf
 have hkd:∀ p∈kn,p.1.toNat < bx.length:=fun p hp=>(ay.mp (hk p hp).2).1
 refine cD (fun Γ'=>∃ c,Γ'=[c]) ?_
 ac_nf
 refine ⟨_,si_l,by rw[ai];lia,si_l,⟨none,rfl⟩,(kn.map fun p=>T.int p.1),by rw[ai,ai],?_,?_⟩
 .rintro i x y Γ' hx hy ⟨c,rfl⟩
  rw[aj] at hx hy
  obtain ⟨p,ep,rfl⟩:=aH.mp hx
  rw[ep] at hy
  cases hy
  ac_nf
  refine ⟨⟨_,rfl⟩,rfl,?_⟩
  ac_nf
  exact ⟨rfl,rfl⟩
 refine ⟨_,si_l,fun i Γ' G'=>(∃ c1 c2,Γ'=[some (.ptr b),some (.lst (bx.map T.int)),some (.lst (kn.map knT)),some (.ptr a),some (.int p0.1),c1,c2])/\∃ xs:List Int,G'=gput G a (.lst (xs.map T.int))/\xs.length=bx.length/\(∀ n∈xs,n.natAbs<=10 ^ 62)/\((∃ p∈kn.take i,p.1=p0.1)->∃ v,xs[p0.1.toNat]?=some v/\v≠p0.2),⟨⟨_,_,rfl⟩,bx,rfl,rfl,fun n hn=>aR (hbn n hn) (by decide),fun ⟨p,hp,_⟩=>by simp at hp⟩,fun u u u u=>si_l,?_,?_⟩
 .rintro i x Γ' G2 hx ⟨⟨c1,c2,rfl⟩,xs,rfl,hxl,hxn,hxp⟩
  rw[aj] at hx
  obtain ⟨p,ep,rfl⟩:=aH.mp hx
  have hpm:=aw ep
  obtain ⟨hp0,hpb⟩:=hk p hpm
  have hpl:=hkd p hpm
  have h0:=hk p0 (aw ep0)
  have tk:∀ {v:Int->Prop},(∃ z∈kn.take (i+1),z.1=p0.1)->p.1≠p0.1->∃ z∈kn.take i,z.1=p0.1:=fun {v} ⟨z,hz,e⟩ hn=>by
   rw[b9,ep] at hz
   rcases aT.mp hz with hz|hz
   .exact ⟨z,hz,e⟩
   .have hz:z=p:=by simpa using hz
    subst hz;exact absurd e hn
  ac_nf
  refine pN hb2 fun n hn=>?_
  have put:∀ kk:EndT,(∀ ys:List Int,ys.length=bx.length->(∀ n∈ys,n.natAbs<=10 ^ 62)->((∃ p∈kn.take (i+1),p.1=p0.1)->∃ v,ys[p0.1.toNat]?=some v/\v≠p0.2)->kk.nx [some (.ptr b),some (.lst (bx.map T.int)),some (.lst (kn.map knT)),some (.ptr a),some (.int p0.1),some (.int p.1),some (.int n)] (gput G a (.lst (ys.map T.int))))->Ws P w K (tAsg (tOp (rI0 fun i j=>V.int (i+j)) (tOp (rI0 fun i j=>V.int (i+j)) (tOp (rIxA K) (tVar 1) (tVar 5)) (tVar 6)) (tCB rInt (bd (tOp rEq (tVar 6) (tC (V.int 0))) tNil))) (gSub (tVar 3) (tVar 5) jv)) [some (.ptr b),some (.lst (bx.map T.int)),some (.lst (kn.map knT)),some (.ptr a),some (.int p0.1),some (.int p.1),some (.int n)] (gput G a (.lst (xs.map T.int))) kk:=fun kk z=>by
   ac_nf
   refine bM (at_i hp0 (by rw[aj,hpb];rfl)) ?_
   ac_nf
   refine l_intB ?_
   ac_nf
   refine ⟨a,_,p.1,p.1.toNat,rfl,rfl,gp_s,qI (by lia) (by rw[ai];lia),?_⟩
   have ev:=hbn p.2 (aw hpb)
   have e62:(10:Nat) ^ 62=100 * 10 ^ 60:=by decide
   generalize hv:p.2+n+(if decide (n=0)=true then 1 else 0)=v
   have c1:(if decide (n=0)=true then (1:Int) else 0).natAbs<=10 ^ 60:=by
    split
    .exact (by decide:1<=10 ^ 60)
    .exact bg _
   have v1:v.natAbs<=10 ^ 62:=by
    rw[<-hv,e62]
    exact aR (oo _ _) (aR (oq (aR (oo _ _) (oq ev hn)) c1) (by decide))
   have v2:v≠p.2:=hv▸ch_ne
   rw[gp_p,<- map_set]
   refine z (xs.set p.1.toNat v) (by rw[bQ];exact hxl) (fun m hm=>?_) fun hz=>?_
   .rcases gB hm with hm|rfl
    .exact hxn m hm
    .exact v1
   .by_cases hq:p.1=p0.1
    .have e2:p0.2=p.2:=by
      have:=h0.2
      rw[<-hq,hpb] at this
      exact (Option.some.inj this).symm
     exact ⟨v,by rw[<-hq,cO (by lia)],by rw[e2];exact v2⟩
    .rw[cy (by lia)]
     exact hxp (tk (v:=fun u=>True) hz hq)
  refine br ?_
  ac_nf
  by_cases hq:p.1=p0.1
  .rw[aU hq]
   refine iteT (iteT (put _ fun ys y1 y2 y3=>?_))
   dsimp only
   exact bB ⟨⟨_,_,rfl⟩,ys,rfl,y1,y2,y3⟩
  rw[aL hq]
  ac_nf
  refine bn hb2 ⟨by decide,by decide⟩ fun v v0 v1=>?_
  ac_nf
  by_cases h1:v=1
  .rw[aU h1]
   refine iteT (put _ fun ys y1 y2 y3=>?_)
   dsimp only
   exact bB ⟨⟨_,_,rfl⟩,ys,rfl,y1,y2,y3⟩
  rw[aL h1]
  ac_nf
  dsimp only
  exact bB ⟨⟨_,_,rfl⟩,xs,rfl,hxl,hxn,fun hz=>hxp (tk (v:=fun u=>True) hz hq)⟩
 .rintro Γ' G2 ⟨⟨c1,c2,rfl⟩,xs,rfl,hxl,hxn,hxp⟩
  ac_nf
  refine ix na (ar (q xs hxl hxn ⟨p0,aw ep0,hxp ⟨p0,?_,rfl⟩⟩))
  rw[ai,ck]
  exact aw ep0
def idR (m i:Nat):List Int:=(List.range m).map fun c=>if c=i then 1 else 0
def idM (m:Nat):List T:=(List.range m).map fun i=>.lst ((idR m i).map T.int)
theorem lc (m i:Nat):(idR m i).length=m:=by unfold idR;rw[ai,cH]
theorem idR_at {m i c:Nat} (h:c < m):(idR m i)[c]?=some (if c=i then 1 else 0):=by unfold idR;rw[aj,cR h];rfl
theorem gh (m:Nat):(idM m).length=m:=by unfold idM;rw[ai,cH]
theorem ib {m i:Nat} (h:i < m):(idM m)[i]?=some (.lst ((idR m i).map T.int)):=by unfold idM;rw[aj,cR h];rfl
theorem gL {m i c:Nat} (h:c < m):((idR m i).map T.int)[c]?=some (.int (if c=i then 1 else 0)):=by rw[aj,idR_at h];rfl
theorem uv {α : Type} : ∀ (l : List α) (k : Nat) (x : α), l[k]? = some x -> (l.eraseIdx k).take k ++ x :: (l.eraseIdx k).drop k = l
  | [], _, _, h => by cases h
  | _ :: _, 0, _, h => by cases h; rfl
  | y :: l, k + 1, x, h => by
    rw[rq, oJ, drop_succ_cons, cons_append, uv l k x h]
theorem ZpG {m i:Nat} (hi:i < m):((List.range ((m:Int) - (i:Int)).toNat).map fun t=>if t=0 then some (T.int (i:Int)) else none).filterMap id=[.int (i:Int)]:=by
 obtain ⟨u,hu'⟩:∃ u,((m:Int) - (i:Int)).toNat=u+1:=⟨m - i - 1,by lia⟩
 rw[hu',range_succ_eq_map,aF,iy,ag rfl]
 dsimp only [id]
 rw[cG,filterMap_map]
 congr 1
 rw[filterMap_eq_nil_iff]
 intro a j
 show (if a+1=0 then some (T.int (i:Int)) else none)=none
 exact ah (Nat.succ_ne_zero a)
theorem ap_set {m j:Nat} (ht:j < m):(idM m).set j (.lst ((idR m j).map T.int))=idM m:=by
 obtain ⟨h1,h2⟩:=ay.mp (ib ht)
 rw[<-h2];exact set_getElem_self h1
theorem ap_b1 (p:Prop) [Decidable p]:(if p then (1:Int) else 0).natAbs<=10 ^ 1000:=by
 split
 .exact (show (1:Int).natAbs<=10 ^ 1000 by decide)
 .exact bg _
theorem ap_e {PL:List Int} (hnd:PL.Nodup) {i j:Nat} {p q:Int} (eP:PL[i]?=some p) (ej:PL[j]?=some q):T.int (if p=q then 1 else 0)=.int (if j=i then 1 else 0):=by
 by_cases hji:j=i
 .subst hji;rw[eP] at ej;cases ej;rw[ag rfl,ag rfl]
 .rw[ah hji,ah fun e=>hji ?_]
  subst e
  exact ((oH (ay.mp ej).1 hnd).mp (ej.trans eP.symm))
def ZmM:Pre:=fun ts G k=>∃ kn:List (Int×Int),ts=[.lst (kn.map fun p=>fmT (ofW p.1)),.lst (kn.map knT)]/\kn.length<=60/\(kn.map (·.1)).Nodup/\k (.bl true) G
theorem sc__law_apart:FnScope ["found","known","places","rows","form","parts","k","here","one","j","row","often"] ["found","known"] (ap kT):=by walk_at"fs"
theorem ZhK (B:Blt mg) (T__law_apart:TopFn K mg "_law_apart" kT ["found","known"]):Callee P w K mg base "_law_apart" 1 ["found","known"] (spG P w K ZmM):=by
 refine T__law_apart.okG sc__law_apart (by walk_at"lnx") fun f cdv A outer s H E ts G k hr hh=>?_
 have nd:=sc__law_apart.nd
 have hu:=hr.units
 have hu1:=nK hr
 obtain ⟨kn,rfl,hl,hnd,q⟩:=hh
 generalize hfo:(kn.map fun p=>fmT (ofW p.1))=FO
 generalize hKN:(kn.map knT)=KN
 refine' go_G [some (.lst FO),some (.lst KN),none,none,none,none,none,none,none,none,none,none] rfl ?hb ?hg
 case hb=>exact (af (bJ (i:=2) nd rfl (Or.inr rfl) (eL (LN:=["p","n"]) (FN:=[]) (fr:=[]) rfl (cv (by rfl)) (bT (K:=K) rfl (pv 1)) (fun v v v v v v=>(ca (K:=K) (n:=2) rfl rfl (aW (xj 0 (show ((["p","n"]:List Str)++([]:List Str)).Nodup by decide +kernel)) (aW (xj 1 (show ((["p","n"]:List Str)++([]:List Str)).Nodup by decide +kernel)) ce)))) (fun v v v v v v=>dI) (fun v v v v v v=>(pv 0)))) (af (f6 (i:=3) nd rfl (Or.inr rfl) (a9 ae)) (af (bX PassesOwn.never rfl (bT (K:=K) rfl (pv 0)) (xj 4 nd) (af (a8 (aB (k_neZ (K:=K) rfl hu) (eL (LN:=["a","w"]) (FN:=["places"]) (fr:=[2]) rfl (cv (by rfl)) (cJ (K:=K) rfl (xa K (pv 4) aa)) (fun v v v v v v=>(ca (K:=K) (n:=2) rfl rfl (aW (xj 0 (show ((["a","w"]:List Str)++(["places"]:List Str)).Nodup by decide +kernel)) (aW (xj 1 (show ((["a","w"]:List Str)++(["places"]:List Str)).Nodup by decide +kernel)) ce)))) (fun v v v v v v=>(eD (aB (uL (K:=K) rfl) (pv 1) (pv 2) (by with_unfolding_all rfl)))) (fun v v v v v v=>(pv 1))) (a9 ae) (az _)) (ak (au di)) ba) (af (bi (i:=5) nd rfl (Or.inr rfl) (cL (Zpf (K:=K) rfl rfl) (by rfl) B.b_dict ZpD (cU (eL (LN:=["a","w"]) (FN:=[]) (fr:=[]) rfl (cv (by rfl)) (cJ (K:=K) rfl (xa K (pv 4) aa)) (fun v v v v v v=>(ca (K:=K) (n:=2) rfl rfl (aW (xj 0 (show ((["a","w"]:List Str)++([]:List Str)).Nodup by decide +kernel)) (aW (xj 1 (show ((["a","w"]:List Str)++([]:List Str)).Nodup by decide +kernel)) ce)))) (fun v v v v v v=>dI) (fun v v v v v v=>(aD (xb 1 (xc 0))))) ae))) (ak (cb (k_bm (K:=K) rfl PySem.F.plainAttrs_list PySem.F.slot_list_append PySem.F.type_list_append eM (pv 3) (cU (xk ["p"] ["parts"] [5] (bT (K:=K) rfl (pv 2)) (fun v v v v v v=>(pp hu1 (pv 1) (pv 0) aa (M2.mk rfl rfl rfl rfl)))) ae))))))) (af (bX PassesOwn.never rfl (de rfl B.b_range (aS (aZ (bt (K:=K) rfl) (by rfl) B.b_len bu (xc 3)) ae)) (jj (i:=6) nd rfl (Or.inr rfl)) (af (gp (i:=7) (LN:=["j"]) (FN:=["rows","k"]) (fr:=[3,6]) rfl nd rfl rfl (cv (by rfl)) (uZ rfl B.b_range (xb 6 (aS (aZ (bt (K:=K) rfl) (by rfl) B.b_len bu (xc 3)) ae))) (fun v v v v v v=>(xj 0 (show ((["j"]:List Str)++(["rows","k"]:List Str)).Nodup by decide +kernel))) (fun v v v v v v=>(eD (aB eA (xa K (xa K (pv 1) (pv 0)) (pv 2)) aa (az _)))) (fun v v v v v v=>(pv 0))) (af (a8 (aB (k_eqE (K:=K) rfl hu) (pv 7) (a9 ae) (az _)) (ak (au di)) ba) (af (bi (i:=8) nd rfl (Or.inr rfl) (k_bm (K:=K) rfl PySem.F.plainAttrs_list PySem.F.slot_list_pop PySem.F.type_list_pop ZmU (pv 3) (aI (xa K (pv 7) aa) ae))) (af (cb (k_bm (K:=K) rfl PySem.F.plainAttrs_list PySem.F.slot_list_insert PySem.F.type_list_insert Zk6 (pv 3) (xb 6 (xc 8)))) (ak (bX PassesOwn.never rfl (uZ rfl B.b_range (bZ (av bm (pv 6) aa) (aS (aZ (bt (K:=K) rfl) (by rfl) B.b_len bu (xc 3)) ae))) (xj 9 nd) (af (cf (i:=10) nd rfl (Or.inl rfl) (xa K (pv 3) (pv 9))) (af (cf (i:=11) nd rfl (Or.inr rfl) (xa K (pv 10) (pv 6))) (ak (cr (eL (LN:=["a","b"]) (FN:=["one","k","often"]) (fr:=[8,6,11]) rfl (cv (by rfl)) (uW (K:=K) rfl (by rfl) B.b_zip (xb 10 (xc 8))) (fun v v v v v v=>(ca (K:=K) (n:=2) rfl rfl (aW (xj 0 (show ((["a","b"]:List Str)++(["one","k","often"]:List Str)).Nodup by decide +kernel)) (aW (xj 1 (show ((["a","b"]:List Str)++(["one","k","often"]:List Str)).Nodup by decide +kernel)) ce)))) (fun v v v v v v=>dI) (fun v v v v v v=>(av dO (av dY (pv 0) (xa K (pv 2) (pv 3))) (av dY (pv 4) (pv 1))))) (cV (pv 3) (pv 9) cT)))))))))))) (ak (au di))))))
 have hFl:FO.length=kn.length:=by rw[<-hfo,ai]
 have hKl:KN.length=kn.length:=by rw[<-hKN,ai]
 ac_nf
 refine cD (fun Γ'=>∃ a b,Γ'=[a,b]) ?_
 ac_nf
 refine ⟨_,si_l,by lia,si_l,⟨none,none,rfl⟩,(kn.map (·.1)).map T.int,by rw[ai,ai,hKl],?_,?_⟩
 .rintro i x y Γ' hx hy ⟨a,b,rfl⟩
  rw[<-hKN,aj] at hx
  rw[aj,aj] at hy
  obtain ⟨p,ep,rfl⟩:=aH.mp hx
  rw[ep] at hy
  cases hy
  refine bW rfl ?_
  ac_nf
  refine ⟨⟨_,_,rfl⟩,rfl,?_⟩
  ac_nf
  exact ⟨rfl,rfl⟩
 generalize hPL:kn.map (·.1)=PL at hnd
 have hPl:PL.length=kn.length:=by rw[<-hPL,ai]
 refine br ?_
 refine bI (bR (gm ?_))
 ac_nf
 intro ra nra
 refine br ?_
 refine eB (fun Γ' G'=>(∃ c1 c2,Γ'=[some (.lst FO),some (.lst KN),some (.lst (PL.map T.int)),some (.ptr ra),c1,c2,none,none,none,none,none,none])/\∃ G0,G'=gput G0 ra (.lst (idM kn.length))/\G0 ra=none/\∀ {t:T},k t G->Cl k t G0) ?_ ?_
 .ac_nf
  refine ⟨_,si_l,fun i Γ' G'=>(∃ c1 c2,Γ'=[some (.lst FO),some (.lst KN),some (.lst (PL.map T.int)),some (.ptr ra),c1,c2,none,none,none,none,none,none])/\∃ G0,G'=gput G0 ra (.lst ((idM kn.length).take i))/\G0 ra=none/\∀ {t:T},k t G->Cl k t G0,⟨⟨_,_,rfl⟩,G,rfl,nra,fun {t} z=>ar z⟩,fun v v v v=>si_l,?_,?_⟩
  .rintro i x Γ' G1 hx ⟨⟨c1,c2,rfl⟩,G0,rfl,n0,hcl⟩
   have hi:i < kn.length:=by have:=(ay.mp hx).1;lia
   rw[<-hfo,aj] at hx
   obtain ⟨p,ep,rfl⟩:=aH.mp hx
   have eP:PL[i]?=some p.1:=by rw[<-hPL,aj,ep];rfl
   have hpc:PL.contains p.1=true:=by rw[contains_iff_mem];exact aw eP
   ac_nf
   refine fZ (fun Γ'=>∃ a b,Γ'=[a,b,some (.lst (PL.map T.int))]) ?_
   ac_nf
   refine ⟨_,rfl,by simp[ofW],trivial,⟨none,none,rfl⟩,[none],rfl,?_,?_⟩
   .rintro j y z Γ' hy hz ⟨a,b,rfl⟩
    have hj:j=0:=by have:=(ay.mp hz).1;simp at this;exact this
    subst hj
    cases hy
    cases hz
    refine bW rfl ?_
    ac_nf
    refine ⟨⟨_,_,rfl⟩,rfl,?_⟩
    ac_nf
    refine nr (ns:=PL) sg_l ?_
    rw[ag rfl,hpc]
    exact ⟨_,rfl,rfl,iteF rfl⟩
   ac_nf
   refine l_neE si_l si_l ?_
   ac_nf
   refine cD (fun Γ'=>∃ a b,Γ'=[a,b]) ?_
   ac_nf
   refine ⟨_,rfl,by simp[ofW],trivial,⟨none,none,rfl⟩,[.tup [.int p.1,.int 1]],rfl,?_,?_⟩
   .rintro j y z Γ' hy hz ⟨a,b,rfl⟩
    have hj:j=0:=by have:=(ay.mp hz).1;simp at this;exact this
    subst hj
    cases hy
    cases hz
    refine bW rfl ?_
    ac_nf
    refine ⟨⟨_,_,rfl⟩,rfl,?_⟩
    ac_nf
    exact ⟨rfl,rfl⟩
   refine fI (Zpd fun d nd2=>?_)
   obtain ⟨nd0,ndra⟩:=Zpn nd2
   rw[gp_c (fun e=>ndra e.symm)]
   have n1:gput G0 d (.tb [(p.1,1)]) ra=none:=by rw[gp_n (fun e=>ndra e.symm)];exact n0
   have gd:∀ {c},gput (gput G0 d (.tb [(p.1,1)])) ra c d=some (.tb [(p.1,1)]):=fun {c}=>by rw[gp_n ndra,gp_s]
   have hcl1:∀ {t:T},k t G->Cl k t (gput G0 d (.tb [(p.1,1)])):=fun {t} z=>da nd0 nofun (hcl z)
   generalize gput G0 d (.tb [(p.1,1)])=G2 at n1 gd hcl1
   refine br ?_
   ac_nf
   refine ⟨ty_p gp_s,?_⟩
   refine jw (cD (fun Γ'=>∃ c,Γ'=[c,some (.ptr d)]) ?_)
   ac_nf
   refine ⟨_,si_l,by rw[ai];lia,si_l,⟨none,rfl⟩,(idR kn.length i).map T.int,by rw[ai,ai,lc,hPl],?_,?_⟩
   .rintro j y z Γ' hy hz ⟨c,rfl⟩
    rw[aj] at hy
    obtain ⟨pj,ej,rfl⟩:=aH.mp hy
    have hj:=(ay.mp ej).1
    rw[gL (by lia)] at hz
    cases hz
    ac_nf
    refine ⟨⟨_,rfl⟩,rfl,?_⟩
    ac_nf
    refine ⟨d,_,rfl,gd,?_⟩
    ac_nf
    refine ⟨_,_,gd,rfl,rfl,?_⟩
    refine ⟨?_,rfl⟩
    exact ap_e hnd eP ej
   ac_nf
   refine d7 gp_s (by rw[cz,gh];lia) ?_
   rw[gp_p]
   dsimp only
   refine bB ⟨⟨_,_,rfl⟩,G2,?_,n1,hcl1⟩
   rw[b9,ib hi];rfl
  .rintro Γ' G1 ⟨hy,G0,rfl,n0,hcl⟩
   refine ⟨hy,G0,?_,n0,hcl⟩
   rw[hFl,nY (by rw[gh];exact aq _)]
 rintro Γ' G' ⟨⟨c1,c2,rfl⟩,G0,rfl,n0,hcl⟩
 generalize hm:kn.length=m at *
 ac_nf
 refine dh (sg_p gp_s) ?_
 rw[gh]
 ac_nf
 refine ⟨m,rfl,by lia,by lia,?_⟩
 have hrl:(rngT (m:Int).toNat).length=m:=by unfold rngT;simp
 refine ⟨fun i Γ' G'=>(∃ c1 c2 c3 c4 c5 c6 c7 c8,Γ'=[some (.lst FO),some (.lst KN),some (.lst (PL.map T.int)),some (.ptr ra),c1,c2,c3,c4,c5,c6,c7,c8])/\G'=gput G0 ra (.lst (idM m)),⟨⟨_,_,_,_,_,_,_,_,rfl⟩,rfl⟩,fun v v v v=>trivial,?_,?_⟩
 .rintro i x Γ' G1 hx ⟨⟨c1,c2,c3,c4,c5,c6,c7,c8,rfl⟩,rfl⟩
  have hi:i < m:=by have:=(ay.mp hx).1;rwa [hrl] at this
  have ex:x=.int (i:Int):=by
   unfold rngT at hx
   rw[aj,cR (by simpa using hi)] at hx
   cases hx;rfl
  subst ex
  ac_nf
  refine fZ (fun Γ'=>∃ a,Γ'=[a,some (.ptr ra),some (.int (i:Int))]) ?_
  refine vz ?_
  ac_nf
  refine dh (sg_p gp_s) ?_
  rw[gh]
  ac_nf
  refine ⟨i,m,rfl,by lia,?_⟩
  refine ⟨by rw[ai,cH];lia,trivial,⟨none,rfl⟩,(List.range ((m:Int) - (i:Int)).toNat).map fun t=>if t=0 then some (.int (i:Int)) else none,by rw[ai,ai],?_,?_⟩
  .rintro j y z Γ' hy hz ⟨a,rfl⟩
   have hj:j < m - i:=by have:=(ay.mp hz).1;rw[ai,cH] at this;lia
   rw[aj,cR (by lia)] at hy hz
   cases hy
   cases hz
   ac_nf
   refine ⟨⟨_,rfl⟩,rfl,?_⟩
   ac_nf
   refine l_ix (sg_p gp_s) (bw (n:=i+j) (by lia) (ib (by lia))) ?_
   ac_nf
   refine bM (bw (n:=i) rfl (gL hi)) ?_
   ac_nf
   refine ⟨rfl,?_⟩
   by_cases hj0:j=0
   .subst hj0
    rw[ag (show i=i+0 from rfl)]
    refine iteT ⟨_,ag rfl,?_⟩
    ac_nf
    refine ⟨?_,rfl⟩
    exact congrArg T.int (show (i:Int)+((0:Nat):Int)=i by lia)
   .rw[ah (show ¬ i=i+j by lia)]
    exact iteF (ah hj0)
  rw[ZpG hi]
  ac_nf
  refine l_eqE si_l si_l (by simp) ?_
  ac_nf
  refine ⟨ty_p gp_s,?_⟩
  ac_nf
  refine bM (bw (n:=0) rfl rfl) ?_
  ac_nf
  refine Zpb gp_s (ib hi) (by lia) ?_
  rw[gp_p]
  ac_nf
  refine ⟨ty_p gp_s,?_⟩
  ac_nf
  have hel:((idM m).eraseIdx i).length=m - 1:=by rw[length_eraseIdx_of_lt (by rw[gh];exact hi),gh]
  refine l_ins gp_s (by lia) (by lia) ?_
  rw[gp_p,uv _ _ _ (ib hi)]
  refine hV (vz ?_)
  ac_nf
  refine dh (sg_p gp_s) ?_
  rw[gh]
  ac_nf
  refine ⟨(i:Int)+1,m,rfl,by lia,?_⟩
  refine ⟨fun t Γ' G'=>(∃ c6 c7 c8,Γ'=[some (.lst FO),some (.lst KN),some (.lst (PL.map T.int)),some (.ptr ra),c1,c2,some (.int (i:Int)),some (.lst [.int (i:Int)]),some (.lst ((idR m i).map T.int)),c6,c7,c8])/\G'=gput G0 ra (.lst (idM m)),⟨⟨_,_,_,rfl⟩,rfl⟩,fun v v v v=>trivial,?_,?_⟩
  .rintro t y Γ' G1 hy ⟨⟨c6,c7,c8,rfl⟩,rfl⟩
   have ht:i+1+t < m:=by have:=(ay.mp hy).1;rw[ai,cH] at this;lia
   rw[aj,cR (by lia)] at hy
   cases hy
   have ej:(i:Int)+1+(t:Int)=((i+1+t:Nat):Int):=by lia
   dsimp only
   rw[ej]
   generalize hj:i+1+t=j at ht
   ac_nf
   refine l_ix (sg_p gp_s) (bw (n:=j) rfl (ib ht)) ?_
   ac_nf
   refine bM (bw (n:=i) rfl (gL hi)) ?_
   rw[ah (by lia)]
   ac_nf
   refine cD (fun Γ'=>∃ a b,Γ'=[a,b,some (.lst ((idR m i).map T.int)),some (.int (i:Int)),some (.int 0)]) ?_
   ac_nf
   refine ⟨_,_,_,_,rfl,si_l,si_l,?_⟩
   refine ⟨by rw[ai,gy,ai,lc];lia,⟨si_l,si_l⟩,⟨none,none,rfl⟩,(idR m j).map T.int,by simp only[ai,gy,lc,kr],?_,?_⟩
   .rintro c y z Γ' hy hz ⟨a,b,rfl⟩
    have hc:c < m:=by have:=(ay.mp hz).1;rwa [ai,lc] at this
    rw[aj,gA (z:=(_,_)) |>.mpr ⟨gL hc,gL hc⟩] at hy
    rw[gL hc] at hz
    cases hy
    cases hz
    refine bW rfl ?_
    ac_nf
    refine ⟨⟨_,_,rfl⟩,rfl,?_⟩
    ac_nf
    refine bM (bw (n:=i) rfl (gL hi)) ?_
    rw[ag rfl]
    ac_nf
    refine l_IC (fq (ap_b1 _) (show (1:Int).natAbs<=_ by decide)) ?_
    ac_nf
    refine l_IC (fq (show (0:Int).natAbs<=_ by decide) (ap_b1 _)) ?_
    ac_nf
    refine ⟨?_,rfl⟩
    exact congrArg T.int (by rw[Int.mul_one,Int.zero_mul,Int.sub_zero])
   refine jf ?_
   ac_nf
   refine ⟨ra,_,_,j,rfl,rfl,gp_s,qI rfl (by rw[gh];exact ht),?_⟩
   rw[gp_p,ap_set ht]
   dsimp only
   exact bB ⟨⟨_,_,_,rfl⟩,rfl⟩
  .rintro Γ' G1 ⟨⟨c6,c7,c8,rfl⟩,rfl⟩
   dsimp only
   exact bB ⟨⟨_,_,_,_,_,_,_,_,rfl⟩,rfl⟩
 .rintro Γ' G1 ⟨⟨c1,c2,c3,c4,c5,c6,c7,c8,rfl⟩,rfl⟩
  ac_nf
  exact da n0 nofun (hcl q)
end
end My
end
end
namespace My
open PySem L2
local macro_rules | `(tactic| walk_at"w1") => `(tactic| (first | ((with_reducible refine' eU ?e ?_); (case e => exact rfl)) | with_reducible (first|refine ii ?_|refine jC ?_|refine mR ?_|refine jD ?_|refine jm ?_|refine mI ?_|refine fI ?_|refine jw ?_|refine lR ?_|refine mn ?_) | ((with_reducible refine' sf ?e ?_); (case e => decide)) | with_reducible (first|refine we_lrng ?_|refine k7 ?_|refine mS ?_|refine lq ?_|refine ny ?_|refine ni ?_|refine iY ?_|refine wt_b ?_|refine me ?_|refine nH ?_|refine lL ?_|refine i3 ?_|refine lF ?_|refine l6 ?_|refine k5 ?_|refine lM ?_|refine we_chain ?_|refine jK ?_|refine bI ?_|refine bR ?_|refine br ?_|refine im ?_|refine fY ?_|refine ic ?_|refine fz ?_|refine lv ?_|refine lI ?_|refine ws_cont ?_|refine jt ?_|refine mw ?_|refine mf ?_|refine mV ?_|refine we_bm0 ?_|refine kP ?_|refine kB ?_|refine jL ?_|refine kL ?_|refine nq ?_|refine kQ ?_|refine hV ?_|refine ia ?_|refine mQ ?_|refine kS ?_|refine kD ?_|refine pB ?_|refine m3 ?_|refine jx ?_|refine jf ?_|refine nt ?_|refine lN ?_|refine kK ?_|refine mD ?_|refine mE ?_|refine mW ?_|refine kG ?_|refine lJ ?_|refine l_II ?_|refine l_IB ?_|refine l_U ?_|refine my ?_|refine m4 ?_|refine lO ?_|refine ly ?_|refine l_eqB ?_|refine kA ?_|refine i5 ?_|refine mC ?_|refine lC ?_|refine mK ?_|refine jG ?_|refine jH ?_|refine jz ?_|refine iteF ?_|refine iteT ?_) | ((with_reducible refine' tk_d ?e ?_); (case e => exact rfl)) | ((with_reducible refine' bW ?e ?_); (case e => exact rfl)) | ((with_reducible refine' nM ?e ?_); (case e => exact rfl)) | ((with_reducible refine' cM ?e ?_); (case e => first | exact rfl | exact at_0 | exact at_1 | exact at_2)) | ((with_reducible refine' qO ?e ?_); (case e => exact rfl)) | with_reducible (first|refine l_lenT ?_|refine pS ?_) | ((with_reducible refine' pG ?e ?_); (case e => exact rfl)) | ((with_reducible refine' p7 ?e ?_); (case e => exact rfl))))
local macro_rules | `(tactic| walk_at"ln") => `(tactic| (intro _ _ _ h; repeat (first | (rw [h.1]; rfl) | (obtain ⟨_, h⟩ := h))))
local macro_rules | `(tactic| walk_at"w") => `(tactic| (repeat walk_at"w1"))
section
variable {P:Program} {w:World} {K:W.Frag} {mg:Str->Option Value} {base:Heap} {C:Addr}
theorem sc_law:FnScope ["script","bag","most","program","f","at","boxes","known","handed","lane","door"] ["script"] (ap lA):=⟨rfl,rfl,rfl,by decide +kernel,rfl,by decide +kernel,by decide +kernel⟩
theorem qK {f:Addr} {fd:FuncData} (B:Blt mg) (G:Glb K w mg) (HMaking:CMaking K C) (T__law_draw:TopFn K mg "_law_draw" kU ["bag","many"]) (T__law_number:TopFn K mg "_law_number" lw ["bag"]) (T__law_bag:TopFn K mg "_law_bag" mJ ["script"]) (T_plain:TopFn K mg "plain" kt ["n"]) (T_of_word:TopFn K mg "of_word" kJ ["w"]) (T_is_plain:TopFn K mg "is_plain" m7 ["form"]) (T_gather:TopFn K mg "gather" kH ["numbers","form","n"]) (T_with_numbers:TopFn K mg "with_numbers" kM ["c","numbers"]) (T_joined:TopFn K mg "joined" l5 ["one","other","n"]) (T_plus:TopFn K mg "plus" lW ["one","other"]) (T_less:TopFn K mg "less" mT ["one","other"]) (T_times:TopFn K mg "times" l8 ["form","n"]) (T_put_in:TopFn K mg "put_in" mi ["form","forms"]) (T_row_of:TopFn K mg "row_of" lf ["program","frame"]) (T_goes_to_row:TopFn K mg "goes_to_row" mx ["row","number"]) (T_with_box:TopFn K mg "with_box" lE ["frames","p","form"]) (T_at_row:TopFn K mg "at_row" mj ["frames","at"]) (T_reckoned:TopFn K mg "reckoned" nP ["row","forms"]) (T_tested:TopFn K mg "tested" kZ ["frames","row"]) (T_called:TopFn K mg "called" mh ["program","row","forms"]) (T_silent:TopFn K mg "silent" ng ["program","frames"]) (T_filled:TopFn K mg "filled" lp ["frames","forms"]) (T_is_great_form:TopFn K mg "is_great_form" lD ["form"]) (T_is_great:TopFn K mg "is_great" mO ["frames"]) (T_places_of:TopFn K mg "places_of" nw ["frames"]) (T_words_of:TopFn K mg "words_of" k9 ["paper"]) (T_box_pairs:TopFn K mg "box_pairs" mr ["frames","paper"]) (T_is_case:TopFn K mg "is_case" kC ["frames","paper"]) (T_moves_into:TopFn K mg "moves_into" kF ["paper","frames"]) (T_own_words:TopFn K mg "own_words" k3 ["stand"]) (T_starts_of:TopFn K mg "starts_of" ky ["program","stand","own"]) (T_loosened:TopFn K mg "loosened" mP ["frames","other"]) (T_Making_stand_for:TopM K C "stand_for" "Making.stand_for" nh ["self","frames"]) (T_Making_goes_on_at:TopM K C "goes_on_at" "Making.goes_on_at" mH ["self","frames"]) (T_Making_edge_to:TopM K C "edge_to" "Making.edge_to" mN ["self","k","frames","rows"]) (T_Making_deed_word:TopM K C "deed_word" "Making.deed_word" mL ["self","paper"]) (T_Making_add_stand:TopM K C "add_stand" "Making.add_stand" nE ["self","frames"]) (T_Making___init__:TopI K mg C "Making" "Making.__init__" mY ["self","program","most"]) (T_Making_add_hold:TopM K C "add_hold" "Making.add_hold" lG ["self","frames","box","n"]) (T_Making_edge_from:TopM K C "edge_from" "Making.edge_from" lZ ["self","frames","least"]) (T_Making_edges_from:TopM K C "edges_from" "Making.edges_from" mM ["self","k"]) (T_Making_add_edges:TopM K C "add_edges" "Making.add_edges" lX ["self"]) (T_made:TopFn K mg "made" lY ["program","f","at","known","most"]) (T__law_row:TopFn K mg "_law_row" lP ["bag","boxes","many","signs"]) (T__law_def:TopFn K mg "_law_def" mB ["bag","signs","sign"]) (T__law_program:TopFn K mg "_law_program" nv ["bag"]) (T__law_place:TopFn K mg "_law_place" li ["bag","program"]) (T__law_sum:TopFn K mg "_law_sum" lr ["one","other","n"]) (T__law_put:TopFn K mg "_law_put" lg ["form","forms"]) (T__law_words:TopFn K mg "_law_words" nF ["many"]) (T__law_under:TopFn K mg "_law_under" mG ["form","words"]) (T__law_edges:TopFn K mg "_law_edges" k8 ["deed"]) (T__law_held:TopFn K mg "_law_held" lx ["lane","many"]) (T__law_falls:TopFn K mg "_law_falls" lV ["lane","words","many"]) (T__law_asked:TopFn K mg "_law_asked" kE ["lane","many","holds"]) (T__law_changed:TopFn K mg "_law_changed" mm ["bag","boxes","known"]) (T__law_apart:TopFn K mg "_law_apart" kT ["found","known"]) (T_law:Fun K "law" "law" lA f fd):FnOk P w K mg base CX0 14 f fd ["script"] (jI K):=by
 have Zag:=Zir (P:=P) (w:=w) (base:=base) B T__law_draw
 have ZaQ:=ZgP (P:=P) (w:=w) (base:=base) T__law_number Zag
 have Zme:=Zj4 (P:=P) (w:=w) (base:=base) B T__law_bag
 have Cplain:=ZpC (P:=P) (w:=w) (base:=base) T_plain
 have Cof_word:=Zl3 (P:=P) (w:=w) (base:=base) T_of_word
 have Cis_plain:=ZjY (P:=P) (w:=w) (base:=base) B T_is_plain
 have Cgather:=ZnA (P:=P) (w:=w) (base:=base) B T_gather
 have Cwith_numbers:=ZfI (P:=P) (w:=w) (base:=base) B T_with_numbers
 have Cjoined:=Znz (P:=P) (w:=w) (base:=base) T_joined Cgather Cwith_numbers
 have Cplus:=c_plus (P:=P) (w:=w) (base:=base) T_plus Cjoined
 have Cless:=c_less (P:=P) (w:=w) (base:=base) T_less Cjoined
 have Ctimes:=ZpB (P:=P) (w:=w) (base:=base) T_times Cgather Cwith_numbers
 have Cput_in:=Zny (P:=P) (w:=w) (base:=base) T_put_in Cgather Cwith_numbers
 have Crow_of:=Znx (P:=P) (w:=w) (base:=base) T_row_of
 have Cgoes_to_row:=ZgO (P:=P) (w:=w) (base:=base) T_goes_to_row
 have Cwith_box:=ZjV (P:=P) (w:=w) (base:=base) T_with_box
 have Cat_row:=ZnD (P:=P) (w:=w) (base:=base) T_at_row
 have Creckoned:=ZjW (P:=P) (w:=w) (base:=base) T_reckoned Cplain Cplus Cless Ctimes
 have Ctested:=Znv (P:=P) (w:=w) (base:=base) T_tested Cgoes_to_row Cat_row
 have Ccalled:=ZnC (P:=P) (w:=w) (base:=base) B T_called Cplain
 have Csilent:=Znw (P:=P) (w:=w) (base:=base) B G T_silent Crow_of Cwith_box Creckoned Cat_row Cis_plain Ctested Ccalled
 have Cfilled:=ZnB (P:=P) (w:=w) (base:=base) B T_filled Cput_in
 have Cis_great_form:=Zfu (P:=P) (w:=w) (base:=base) B G T_is_great_form
 have Cis_great:=ZjZ (P:=P) (w:=w) (base:=base) B T_is_great Cis_great_form
 have Cplaces_of:=Zin (P:=P) (w:=w) (base:=base) B T_places_of
 have Cwords_of:=ZjU (P:=P) (w:=w) (base:=base) B T_words_of Cis_plain
 have Cbox_pairs:=Zip (P:=P) (w:=w) (base:=base) B T_box_pairs
 have Cis_case:=Zl4 (P:=P) (w:=w) (base:=base) B T_is_case Cbox_pairs Cis_plain
 have Cmoves_into:=ZhD (P:=P) (w:=w) (base:=base) B T_moves_into Cbox_pairs Cis_plain
 have Cown_words:=Zio (P:=P) (w:=w) (base:=base) B T_own_words Cof_word Cplain
 have Cstarts_of:=Zim (P:=P) (w:=w) (base:=base) B T_starts_of Cfilled Crow_of Cat_row Cwith_box
 have Cloosened:=ZjX (P:=P) (w:=w) (base:=base) B T_loosened Cis_plain Cis_great_form Cof_word
 have MMaking_stand_for:=Zd7 (P:=P) (w:=w) (base:=base) B HMaking T_Making_stand_for Cplaces_of Cis_case
 have MMaking_goes_on_at:=ZdC (P:=P) (w:=w) (base:=base) B HMaking T_Making_goes_on_at MMaking_stand_for
 have MMaking_edge_to:=Zez (P:=P) (w:=w) (base:=base) B HMaking T_Making_edge_to Cmoves_into
 have MMaking_deed_word:=Zd9 (P:=P) (w:=w) (base:=base) B G HMaking T_Making_deed_word Csilent Crow_of
 have MMaking_add_stand:=Zea (P:=P) (w:=w) (base:=base) B HMaking T_Making_add_stand Cplaces_of Cloosened Cwords_of MMaking_deed_word
 have NMaking:=Zem (P:=P) (w:=w) (base:=base) B HMaking T_Making___init__
 have MMaking_add_hold:=Zel (P:=P) (w:=w) (base:=base) B HMaking T_Making_add_hold Cloosened Cwords_of
 have MMaking_edge_from:=Zd8 (P:=P) (w:=w) (base:=base) B G HMaking T_Making_edge_from Cis_great Csilent MMaking_goes_on_at MMaking_stand_for MMaking_edge_to MMaking_add_stand
 have MMaking_edges_from:=ZdD (P:=P) (w:=w) (base:=base) B HMaking T_Making_edges_from Cstarts_of Cown_words MMaking_edge_to MMaking_edge_from
 have MMaking_add_edges:=Zeb (P:=P) (w:=w) (base:=base) B HMaking T_Making_add_edges MMaking_edges_from
 have Cmade:=c_made (P:=P) (w:=w) (base:=base) B HMaking T_made Cof_word Cplain NMaking MMaking_add_hold MMaking_add_stand MMaking_add_edges
 have Zfz:=Zj1 (P:=P) (w:=w) (base:=base) B T__law_row Zag ZaQ
 have ZfC:=Zj3 (P:=P) (w:=w) (base:=base) B T__law_def Zag Zfz
 have ZgR:=ZfJ (P:=P) (w:=w) (base:=base) B T__law_program Zag ZfC
 have Zis:=ZhG (P:=P) (w:=w) (base:=base) B T__law_place Zag ZaQ
 have Zfy:=Zj0 (P:=P) (w:=w) (base:=base) B T__law_sum
 have ZfA:=Zj2 (P:=P) (w:=w) (base:=base) B T__law_put Zfy
 have ZdE:=ZhE (P:=P) (w:=w) (base:=base) B T__law_words
 have ZdF:=ZhF (P:=P) (w:=w) (base:=base) B T__law_under
 have ZdG:=ZhI (P:=P) (w:=w) (base:=base) B T__law_edges
 have Zj8:=Ziq (P:=P) (w:=w) (base:=base) B T__law_held ZdG
 have ZfB:=ZhH (P:=P) (w:=w) (base:=base) B T__law_falls ZdF
 have Zit:=ZhJ (P:=P) (w:=w) (base:=base) B T__law_asked ZfA ZdE
 have ZgS:=ZfK (P:=P) (w:=w) (base:=base) B T__law_changed Zag ZaQ
 have Ziu:=ZhK (P:=P) (w:=w) (base:=base) B T__law_apart
 refine T_law.law (k:=13) sc_law fun cdv A outer s H a ns Q E hr hS hlen k=>?_
 have nd:=sc_law.nd
 have hu:=hr.units
 refine' nj [some (.ref a),none,none,none,none,none,none,none,none,none,none] rfl ?hb ?hg
 case hb=>exact (af (bi (i:=1) nd rfl (Or.inl rfl) (xg Zme hr.m (xc 0))) (af (d9 (i:=2) nd rfl (Or.inl rfl) (av bm aa (xg Zag hr.m (xb 1 (ao aa ae))))) (af (bi (i:=3) nd rfl (Or.inl rfl) (xg ZgR hr.m (xc 1))) (af (cr (xg Zis hr.m (xb 1 (xc 3))) (ca (K:=K) (n:=4) rfl rfl (aW (xj 4 nd) (aW (xj 5 nd) (aW (xj 6 nd) (aW (xj 7 nd) ce)))))) (af (bi (i:=8) nd rfl (Or.inl rfl) (cL (tG (K:=K) rfl) (by rfl) B.b_list m9 (xc 7))) (af (bi (i:=9) nd rfl (Or.inl rfl) (xg Cmade hr.m (xb 3 (xb 4 (xb 5 (xb 8 (xc 2))))))) (af (a8 (PW.pt (dy (jr (dj (aZ vM (by rfl) B.b_isinstance sF (xb 9 (il (vH (v:=.ty "list") (by rfl) B.b_list m9 rfl) ae))))) (dy (aB (k_eqE (K:=K) rfl hu) (pv 9) (a9 ae) (az _)) (eK (aB (tU hu) (pv 8) (pv 7) (az _)))))) (ak (au di)) ba) (af (f6 (i:=10) nd rfl (Or.inl rfl) (a9 (be (aD (xb 4 (xb 5 (aS (cL (dN (K:=K) rfl) (by rfl) B.b_tuple dB (cU (xk ["w"] [] [] (de rfl B.b_range (aS (aZ (bt (K:=K) rfl) (by rfl) B.b_len bu (xc 6)) ae)) (fun j j j j j j=>(aD (ao aa (be (aD (be (aD (ao aa (xc 0))) ae)) ae))))) ae)) ae)))) ae))) (af (a8 (PW.pt (dy (aB eA (xa K (xa K (pv 9) aa) aa) (aZ (bt (K:=K) rfl) (by rfl) B.b_len bu (xc 6)) (az _)) (dy (aB (tU hu) (xa K (xa K (pv 9) aa) aa) (pv 10) (az _)) (eK (jr (dj (xg Zj8 hr.m (xb 9 (aS (aZ (bt (K:=K) rfl) (by rfl) B.b_len bu (xc 7)) ae))))))))) (ak (au di)) ba) (af (a8 (aB ZjD (xg ZfB hr.m (xb 9 (xb 6 (aS (aZ (bt (K:=K) rfl) (by rfl) B.b_len bu (xc 7)) ae)))) di (az _)) (ak (au di)) ba) (af (a8 (jr (dj (xg Ziu hr.m (aS (xg Zit hr.m (xb 9 (aS (aZ (bt (K:=K) rfl) (by rfl) B.b_len bu (xc 6)) (aS (aZ (bt (K:=K) rfl) (by rfl) B.b_len bu (xc 7)) ae)))) (xc 7))))) (ak (au di)) ba) (ak (au (pe_or (db (k_eqZ (K:=K) rfl hu) (pv 7) (a9 ae) (az _)) (nJ (db Zo0 (xg ZfB hr.m (xb 9 (aS (xg ZgS hr.m (xb 1 (xb 6 (xc 7)))) (aS (aZ (bt (K:=K) rfl) (by rfl) B.b_len bu (xc 7)) ae)))) di (az _)))))))))))))))))
 refine law_go (P:=P) (w:=w) 9 hS hlen k fun b l=>?_
 show Ws P w K _ [none,some (.ptr b),none,none,none,none,none,none,none,none,none] _ _
 have hb:gput g0 b (.bag l) b=some (.bag l):=gp_s
 generalize gput g0 b (.bag l)=G at hb
 walk_at"w"
 refine bn hb ⟨by decide,by decide⟩ fun v v0 v1=>?_
 walk_at"w"
 obtain ⟨mo,hmo,m2⟩:∃ mo:Nat,1+v=(mo:Int)/\mo<=30:=⟨(1+v).toNat,by lia,by lia⟩
 rw[hmo]
 refine ⟨b,l,rfl,hb,fun Q pk=>?_⟩
 walk_at"w"
 refine ⟨b,l,Q,rfl,hb,pk,fun f at' boxes df r bx known PL hnd hkn hkl hbl hbn=>?_⟩
 have hkn3:∀ p∈known,0<=p.1/\p.1 < boxes/\p.2.natAbs<=10 ^ 60:=fun p hp=>⟨(hkn p hp).1,(hkn p hp).2.1,(hkn p hp).2.2.1⟩
 have hb8:=b8 PL
 walk_at"w"
 refine Zpc sg_l ?_
 walk_at"w"
 refine ⟨Q,f,at',boxes,df,r,mo,known,_,rfl,si_l,PL,hnd,hkn3,m2,fun G2 m dx la pl ps qs M L h69 j=>?_⟩
 obtain ⟨D0,E0',d0,ed0,hd1,hd2⟩:=ZjI (Q:=Q) (f:=f) (at':=at') (most:=mo) hnd hkn3 (by lia)
 generalize hS':dZ Q f at' boxes known mo=S at M L h69 D0 E0' ed0
 have hll:=M.plen
 have hzl:(List.zipWith sdT ps S.lane).length=S.lane.length:=by rw[fW,hll,kr]
 have hl1:0 < S.lane.length:=(ay.mp ed0).1
 walk_at"w"
 refine tk_l (si_p M.lane) ?_
 rw[ty_ptr M.lane]
 walk_at"w"
 refine l_eqE (si_p M.lane) si_l (fun e=>by rw[e] at hzl;simp at hzl;lia) ?_
 walk_at"w"
 refine l_neA (vg si_l si_l (aR (jn (f:=knT) (n:=1) fun p j=>by simp only[dpT,dpTs];lia) (by lia))) ?_
 walk_at"w"
 have hbl':(bx.map T.int).length=boxes:=by rw[ai];exact hbl
 refine cD (fun Γ'=>∃ c,Γ'=[c]) ?_
 walk_at"w"
 rw[hbl']
 refine ⟨boxes,rfl,by lia,by lia,?_⟩
 refine ⟨by unfold rngT;simp;lia,trivial,⟨none,rfl⟩,(aE boxes).map fmT,by unfold rngT aE;simp,?_,?_⟩
 .rintro i x y Γ' hx hy ⟨c,rfl⟩
  have hi:i < boxes:=by have:=(ay.mp hy).1;unfold aE at this;simpa using this
  unfold rngT at hx
  unfold aE at hy
  rw[aj,cR (by simpa using hi)] at hx
  rw[aj,aj,cR hi] at hy
  cases hx
  cases hy
  walk_at"w"
  refine ⟨⟨_,rfl⟩,rfl,?_⟩
  walk_at"w"
  exact ⟨rfl,rfl⟩
 walk_at"w"
 refine dM sg_l nofun ?_
 walk_at"w"
 have hp0:0 < ps.length:=by lia
 have ep0:ps[0]?=some ps[0]:=ax hp0
 generalize ps[0]=p0 at ep0
 have ez0:(List.zipWith sdT ps S.lane)[0]?=some (sdT p0 d0):=by rw[fV,ep0,ed0]
 have gp0:=M.pap 0 p0 d0 ep0 ed0
 rw[hd2] at gp0
 refine l_ix (sg_p M.lane) (bw (n:=0) rfl ez0) ?_
 walk_at"w"
 rw[hbl',hd1,aU rfl]
 walk_at"w"
 refine l_ix (sg_p M.lane) (bw (n:=0) rfl ez0) ?_
 walk_at"w"
 refine l_neA (vg (si_p gp0) si_l (aR (jn (f:=sfT) (n:=5) fun s j=>dp_sf s) (by lia))) ?_
 walk_at"w"
 rw[ai]
 refine ⟨la,ps,S.lane,known.length,rfl,M.lane,hll,by lia,eZ D0.len,E0',?_⟩
 walk_at"w"
 have hvals:∀ xs:List Int,xs.length=boxes->xs=(List.range boxes).map fun i=>(xs[i]?).getD 0:=fun xs hx=>by
  refine iI fun i=>?_
  rw[aj]
  by_cases hi:i < boxes
  .rw[cR hi,ff,ax (show i < xs.length by lia)];rfl
  .rw[nW (by lia),nW (by rw[cH];lia)];rfl
 rw[ai]
 refine ⟨la,ps,S.lane,List.range boxes,fun i=>(bx[i]?).getD 0,known,by rw[<-hvals bx hbl],M.lane,hll,by lia,by rw[cH];lia,D0,fun x hx=>?_,?_⟩
 .have hx':=cN.mp hx
  have ex:bx[x]?=some (bx[x]'(by lia)):=ax _
  dsimp only
  rw[ex]
  exact aR (hbn _ (aw ex)) (by decide)
 have ef:(known.any fun p=>!decide ((bx[p.1.toNat]?).getD 0=p.2))=false:=by
  rw[any_eq_false]
  intro p hp
  rw[(hkn p hp).2.2.2,iP,aU rfl];decide
 rw[ef]
 walk_at"w"
 refine l_isnB ?_
 walk_at"w"
 rw[hbl',ai]
 refine ⟨la,ps,S.lane,boxes,known,rfl,M.lane,hll,by lia,by lia,D0,fun p hp=>(hkn p hp).1,?_⟩
 walk_at"w"
 refine ⟨known,rfl,by lia,hnd,?_⟩
 walk_at"w"
 refine l_eqZ si_l si_l ?_
 walk_at"w"
 by_cases hke:known=[]
 .rw[aU (by rw[hke];rfl)]
  exact iteT (ar rfl)
 rw[aL (fun e=>hke (map_eq_nil_iff.mp e))]
 have hb2:G2 b=some (.bag l):=by rw[M.old b (M.not0 hb)];exact hb
 walk_at"w"
 refine ⟨b,l,bx,known,rfl,hb2,by lia,hke,by lia,hbn,fun p hp=>⟨(hkn p hp).1,(hkn p hp).2.2.2⟩,fun xs hxl hxn hxp=>?_⟩
 walk_at"w"
 rw[ai]
 have hxl':xs.length=boxes:=hxl.trans hbl
 refine ⟨la,ps,S.lane,List.range boxes,fun i=>(xs[i]?).getD 0,known,by rw[<-hvals xs hxl'],M.lane,hll,by lia,by rw[cH];lia,D0,fun x hx=>?_,?_⟩
 .have hx':=cN.mp hx
  have ex:xs[x]?=some (xs[x]'(by lia)):=ax _
  dsimp only
  rw[ex]
  exact aR (hxn _ (aw ex)) (by decide)
 have et:(known.any fun p=>!decide ((xs[p.1.toNat]?).getD 0=p.2))=true:=by
  rw[any_eq_true]
  obtain ⟨p,hp,v,ev,hv⟩:=hxp
  refine ⟨p,hp,?_⟩
  rw[ev,iP,aL hv];rfl
 rw[et]
 walk_at"w"
 refine l_isB ?_
 walk_at"w"
 exact ar rfl
end
section
open PySem.W PyProof.Rows
theorem Zo9 (w:World) {mg:Str->Option Value} {fa:Addr} {h:Heap} (X:(KK w.params).In h) (G:h.Ns mainGlobals mg) (hfa:mg "law"=some (.ref fa)):∃ fd:FuncData,(∀ (s:Shared) (v:Value),BindsTo s fd ⟨[v],[]⟩ [("script",v)])/\∀ base:Heap,(KK w.params).In base->base.Ns mainGlobals mg->FnOk PySem.Challenge.rw_midlanes_k51_holds_come_first.prog w (KK w.params) mg base CX0 14 fa fd ["script"] (jI (KK w.params)):=by
 cases hfa.symm.trans (gv X G (v:=.ref 382))
 have GG:Glb (KK w.params) w mg:=⟨⟨386,gv X G⟩,⟨363,gv X G⟩,⟨300,gv X G⟩,⟨83,gv X G,_,_,_,lo 83 (oT #[xs "put" 276,xs "copy" 277,xs "plus" 278,xs "less" 279,xs "times" 280]),rfl,rfl,mk_le rfl,.cons ⟨_,rfl⟩ (.cons ⟨_,rfl⟩ (.cons ⟨_,rfl⟩ (.cons ⟨_,rfl⟩ (.cons ⟨_,rfl⟩ (.nil)))))⟩,⟨155,gv X G,by kernel_rfl,by decide +kernel,[("zero",388,"test",389),("below",390,"test",391),("tell",392,"tell",393),("take",394,"take",395)],4,by kernel_rfl,rfl⟩⟩
 have HMaking:CMaking (KK w.params) 238:=⟨nc,na,na,na,na,na⟩
 exact ⟨_,fun s v=>.of_eq rfl,fun base j j=>qK (B:=⟨gz X G,gz X G,gz X G,gz X G,gz X G,gz X G,gz X G,gz X G,gz X G,gz X G,gz X G,gz X G,gz X G,gz X G,gz X G,gz X G⟩) (G:=GG) (HMaking:=HMaking) (T_plain:=(tf1 X G 21 "midlanes.forms" 187 20)) (T_of_word:=(tf1 X G 28 "midlanes.forms" 187 27)) (T_plus:=(tf2 X G 35 "midlanes.forms" 187 34)) (T_less:=(tf2 X G 42 "midlanes.forms" 187 41)) (T_times:=(tf2 X G 49 "midlanes.forms" 187 48)) (T_put_in:=(tf2 X G 56 "midlanes.forms" 187 55)) (T_is_plain:=(tf1 X G 63 "midlanes.forms" 187 62)) (T_joined:=(tf3 X G 70 "midlanes.forms" 187 69)) (T_gather:=(tf3 X G 77 "midlanes.forms" 187 76)) (T_with_numbers:=(tf2 X G 82 "midlanes.forms" 187 81)) (T_row_of:=(tf2 X G 90 "midlanes.rows" 274 89)) (T_goes_to_row:=(tf2 X G 97 "midlanes.rows" 274 96)) (T_silent:=(tf2 X G 104 "midlanes.papers" 298 103)) (T_reckoned:=(tf2 X G 111 "midlanes.papers" 298 110)) (T_with_box:=(tf3 X G 118 "midlanes.papers" 298 117)) (T_at_row:=(tf2 X G 125 "midlanes.papers" 298 124)) (T_tested:=(tf2 X G 132 "midlanes.papers" 298 131)) (T_called:=(tf3 X G 137 "midlanes.papers" 298 136)) (T_filled:=(tf2 X G 142 "midlanes.papers" 298 141)) (T_own_words:=(tf1 X G 147 "midlanes.judge" 361 146)) (T_starts_of:=(tf3 X G 154 "midlanes.judge" 361 153)) (T_made:=(tf5 X G 160 "midlanes.maker" 384 159)) (T_places_of:=(tf1 X G 247 "midlanes.maker" 384 246)) (T_is_great:=(tf1 X G 252 "midlanes.maker" 384 251)) (T_is_great_form:=(tf1 X G 257 "midlanes.maker" 384 256)) (T_loosened:=(tf2 X G 264 "midlanes.maker" 384 263)) (T_words_of:=(tf1 X G 269 "midlanes.maker" 384 268)) (T_is_case:=(tf2 X G 274 "midlanes.maker" 384 273)) (T_moves_into:=(tf2 X G 279 "midlanes.maker" 384 278)) (T_box_pairs:=(tf2 X G 286 "midlanes.maker" 384 285)) (T__law_bag:=(tf1 X G 291 LN0 591 290)) (T__law_draw:=(tf2 X G 298 LN0 591 297)) (T__law_number:=(tf1 X G 305 LN0 591 304)) (T__law_row:=(tf4 X G 310 LN0 591 309)) (T__law_def:=(tf3 X G 315 LN0 591 314)) (T__law_program:=(tf1 X G 320 LN0 591 319)) (T__law_sum:=(tf3 X G 325 LN0 591 324)) (T__law_put:=(tf2 X G 332 LN0 591 331)) (T__law_words:=(tf1 X G 337 LN0 591 336)) (T__law_under:=(tf2 X G 342 LN0 591 341)) (T__law_place:=(tf2 X G 347 LN0 591 346)) (T__law_edges:=(tf1 X G 352 LN0 591 351)) (T__law_held:=(tf2 X G 357 LN0 591 356)) (T__law_falls:=(tf3 X G 362 LN0 591 361)) (T__law_changed:=(tf3 X G 367 LN0 591 366)) (T__law_asked:=(tf3 X G 372 LN0 591 371)) (T__law_apart:=(tf2 X G 377 LN0 591 376)) (T_Making___init__:=(ti3 X G 174 "midlanes.maker" 384 173)) (T_Making_add_hold:=(tm4 181 "midlanes.maker" 384 180)) (T_Making_add_stand:=(tm2 188 "midlanes.maker" 384 187)) (T_Making_deed_word:=(tm2 195 "midlanes.maker" 384 194)) (T_Making_add_edges:=(tm1 202 "midlanes.maker" 384 201)) (T_Making_edges_from:=(tm2 207 "midlanes.maker" 384 206)) (T_Making_edge_from:=(tm3 214 "midlanes.maker" 384 213)) (T_Making_edge_to:=(tm4 221 "midlanes.maker" 384 220)) (T_Making_goes_on_at:=(tm2 228 "midlanes.maker" 384 227)) (T_Making_stand_for:=(tm2 235 "midlanes.maker" 384 234)) (T_law:=bS (lo 382 (oG "law" lA LN0 591 381)) (by kernel_rfl) (by kernel_rfl))⟩
end
end My
open PySem PySem.W PyProof.Rows
set_option maxHeartbeats 0 in
theorem PySem.Challenge.cw_midlanes_k51_holds_come_first_holds : PySem.Challenge.rw_midlanes_k51_holds_come_first.Holds := by
 refine holds_law My.SD fun said=>?_
 refine holds_open (XP:=XL My.QQ []) (YP:=My.HH.says) (L2.Zlg My.L0 My.L1) My.HH.of My.HH.keeps (fun s e=>xl_of s (Bool.and_eq_true_iff.mp e).1) XL.keeps (by rfl) (by rfl) (by rfl) (fun s e=>recFacts_of (Bool.and_eq_true_iff.mp e).2) (by rfl) said (by decide +kernel) ⟨rfl,rfl,rfl,rfl,rfl,by decide +kernel⟩ ?hw ?hc
 case hw=>w_witness2
 exact L2.tj (l:=PySem.Challenge.rw_midlanes_k51_holds_come_first) (n:=63) (k:=14) (x:="script") (CX:=fun j=>L2.CX0) (sp:=fun w=>L2.jI _) rfl (by decide) rfl ⟨rfl,by decide,by decide,rfl⟩ (fun w h Y=>PySem.W.kIn_of Y) (fun w mg fa h KX G hmg=>My.Zo9 w KX G hmg) (fun j j a ns hl j hS=>L2.Zmu hl hS) (fun j j j j j z=>z)
