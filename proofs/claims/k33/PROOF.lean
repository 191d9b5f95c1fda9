import PyProof.Rows.All
import Wide.FinOn
import KE.KIsAll
import PyProof.EqAt
import PyProof.EqKinds
import PyProof.TupleCall
import PyProof.NeKinds
import KE.KDictSum
import PyProof.Rows.SortRuns
import PySem.SetOps
import PyProof.Rows.SetFrom
import PyProof.DictWalks
import PyProof.FactsAll.set_1
import PyProof.FactsAll.set_2
import PyProof.MakeMany
import PyProof.CollectWalk
import PyProof.Rows.SortShell
import PyProof.StrWalks
import PyProof.StrLoop
import PyProof.ZipIter
import PyProof.EnumMake
import PyProof.EnumStmt
import PyProof.EnumFor
import PyProof.MeetsDict
import PyProof.DictRoadsH
import KE.KUnpack
import PyProof.TupleIter
import PyProof.Draws
import PyProof.SliceStr2
import PyProof.StrBlockI
import PyProof.Rows.StrWeight2
import PyProof.StrOps2
import PyProof.ConsumeWalk
import KE.KItemsList
import KE.KDictList
import PyProof.ListRange
import KE.KSortTup
import KE.KIntText
import PyProof.StrBlockG
import PyProof.StrLawsTight
import PyProof.StrLawsChain
import KE.IntTextLaws
import PyProof.Rows.CatFin
import PyProof.ReprRoads
import PyProof.FitsInt
import PyProof.Rows.MinMaxN
import PySem.Challenge.RW_midlanes_k33_whole_no_fault
open Array renaming length_toList->ft,getElem?_toList->lh,forIn_toList->sk,getElem?_eq_some_iff->yy,getElem?_eq_none_iff->yz
open Bool renaming false_ne_true->bF,false_eq_true->de,not_true->gO,and_eq_true->iw,beq_eq_decide_eq->jL,eq_iff_iff->kZ,not_false->sr
open Int renaming toNat_natCast->bB,mul_comm->jP,emod_nonneg->jR,emod_lt_of_pos->jS,le_refl->ls,natAbs_mul->lC,mul_one->ng,zero_add->nH,eq_ofNat_of_zero_le->rW,toNat_of_nonneg->sI
open List renaming length_map->af,getElem?_map->ah,getElem?_eq_getElem->ay,mem_of_getElem?->aD,length_append->aH,mem_cons->aJ,map_cons->aL,mem_singleton->aM,mem_cons_self->aO,mem_append->aS,mem_map->aT,map_append->aW,getElem?_eq_some_iff->aX,mem_cons_of_mem->bw,size_toArray->bL,sum_cons->bR,not_mem_nil->bX,getElem?_append_left->cm,append_assoc->cp,getElem?_concat_length->cq,length_cons->cz,getD_eq_getElem?_getD->cA,length_set->cQ,cons_append->dh,mem_append_left->dJ,nil_append->dL,append_nil->dW,nodup_cons->dX,length_singleton->dY,mem_append_right->eB,length_range->eE,find?_cons->eM,getElem?_eq_none->eN,take_add_one->eP,take_length->eQ,nodup_append->eY,length_take->fu,nodup_nil->fz,map_map->fA,map_congr_left->fS,dropLast_concat->fU,mem_iff_getElem?->fV,mem_range->gr,getElem?_append_right->gu,map_nil->gw,getLast?_eq_some_iff->gy,any_cons->gK,mem_or_eq_of_mem_set->gP,getElem?_set_self->io,length_replicate->ir,replicate_succ->iy,flatten_cons->iz,length_nil->iA,length_drop->iX,all_eq_true->iZ,ext_getElem?->i4,getElem?_set_ne->jD,getElem?_replicate->jF,forIn_cons->jK,length_zip->jQ,mem_filter->kX,lookup_cons->lr,pairwise_cons->lu,getElem?_range->lE,getElem?_zip_eq_some->lF,map_singleton->lH,foldl_append->nI,eq_of_mem_replicate->sw,pairwise_singleton->sx,dropLast_concat_getLast->sC,set_eq_take_append_cons_drop->yA
open List.Pairwise renaming imp_of_mem->yw
open Nat renaming le_refl->aE,le_trans->bh,ne_of_lt->bP,zero_le->cb,lt_of_lt_of_le->cZ,lt_trans->dM,ne_of_gt->eX,mul_le_mul_right->fT,lt_irrefl->gq,le_of_lt->gt,mod_eq_of_lt->gQ,le_of_eq->ix,pow_le_pow_right->iB,lt_of_le_of_lt->iY,le_of_ble_eq_true->i5,mod_lt->i8,min_le_right->jG,sub_le->jH,one_mul->lB,le_add_right->lG,add_le_add_left->nr,le_succ->nt,add_assoc->nF,mul_le_mul_left->nJ,sub_zero->nK,le_of_not_lt->se,lt_succ_of_lt->sf,add_sub_cancel->sD
open Option renaming map_eq_some_iff->aV,map_some->fR,isSome_iff_exists->k9,isSome_map->sd,getD_some->su,toList_some->sK,bind_eq_some_iff->yx
open PyProof.Rows renaming wpS_bind->eO,wpS_pure->gM,pairsOf_size->i6,slot_tuple_getitem->jI,listUpdate_at->jN,seqEpoch_at->jO,callWith_type1->nh,callWith_builtin1->yo
open PySem renaming wpAny_bind->ab,wpAny_pure->am,wpAny_field->cP,wpAny_mono->dw,wpAny_call_entry->eC,wpAny_newObj_type->eD,wpAny_holding->eL,wpAny_setField_rec->fB,wpAny_truthy_bool->fP,wpAny_seqItems->gx,wpAny_rule->gN,wpAny_callSpecial?_slot->iu,wpAny_passesOwn->iW,wpAny_isInstance->i7,wpAny_pyIter_list->jE,wpAny_pyIter_tuple->kY,codeAny_mono->k8,wpAny_typeOf->lb,call_meets->lf,wpAny_specialOf->lq,wpAny_setField->lv,wpAny_tupleItemsOf->lz,wpAny_attempt->lD,wpAny_eqBool_int->m8,wpAny_execs_nil->m9,wpAny_standAt->nc,wpAny_Call_Name_kw->np,tupleKind_room_in1->nq,wpAny_newTuple->nu,wpAny_newList->nv,wpAny_forIn_list->nE,isSubtype_tuple_tuple->nG,wpAny_dictEntries->nL,wpAny_dictEpoch->nM,codeAny_builtin->nN,plainId_quiet->nP,wpAny_onRaise->nQ,noFill_tuple_add->rV,wpAny_typeNameOfWhole_itemiter->sE,wpAny_isOneOf_itemiter->sF,wpAny_typeNameOfWhole_keyiter->sH,wpAny_updateSeq_pair->sJ
open PySem.Around renaming under_plainId->nO
open PySem.Calls renaming spliced_cons->k7,spliced_nil->nj,callWith_builtin->rZ,call_function_entry->yv
open PySem.Heap renaming lt_size->ba,get?_push_of_some->be,get?_push_size->bQ,size_push->gL,get?_update_self->jJ,get?_update_other->lc
open PySem.Obj renaming data_mapFields->nB
open PySem.SeqAt.EqAt renaming int_str->rS,str_int->rT,int_int->rX,str_str->rY,none_int->yp,none_str->yq,int_none->yr,str_none->yt,of_refs->yu
open PySem.W renaming boot_heap->jM
noncomputable def ak:=@if_pos
noncomputable def ao:=@if_neg
noncomputable def aY:=@decide_eq_true
noncomputable def bo:=@decide_eq_false
noncomputable def bW:=@not_or
noncomputable def cv:=@if_false
noncomputable def cG:=@or_false
noncomputable def eR:=@true_and
noncomputable def fQ:=@if_true
noncomputable def lA:=@of_decide_eq_true
noncomputable def nA:=@bne_self_eq_false
noncomputable def rR:=@beq_eq_false_iff_ne
noncomputable def sj:=@decide_eq_true_eq
noncomputable def sG:=@decide_eq_decide
set_option Elab.async false
set_option genSizeOf false
set_option linter.all false
set_option maxRecDepth 100000
set_option maxHeartbeats 4000000
set_option autoImplicit false
set_option exponentiation.threshold 4000
set_option compiler.extract_closed false
open List (all_cons any_eq_false any_eq_true append_inj' cons_ne_nil contains_cons dropLast_eq_take drop_eq_getElem_cons drop_sublist drop_zero eraseIdxIfInBounds_toArray eraseIdx_cons_succ filterMap_cons filterMap_map filter_append filter_cons find?_append find?_eq_none find?_isSome find?_nil find?_some foldl_cons forIn_nil getElem?_inj getElem?_take_of_lt getElem_inj getElem_map getElem_mem getElem_of_mem getElem_range getLast?_concat getLast?_eq_getElem? getLast?_eq_none_iff getLast?_map length_dropLast length_pos_iff map_drop map_eq_nil_iff map_id map_replicate map_set map_snd_zip map_take mem_filterMap mem_map_of_mem mem_nil_iff mem_of_find?_eq_some mem_of_mem_drop mem_of_mem_take mergeSort_nil mergeSort_perm nil_perm of_mem_zip pairwise_append pairwise_iff_getElem pairwise_map pairwise_mergeSort range_succ reverse_cons reverse_reverse set_getElem_self sum_nil take_append_drop take_left take_of_length_le take_sublist take_zero zipIdx_cons zipIdx_nil zip_cons_cons)
noncomputable section
section
namespace L2
open PySem PySem.Spec PyProof.Rows
noncomputable abbrev Key:=Sum Int Str
noncomputable def gZ:Key->Value->Bool
 | .inl k,v=>Value.isInt k v
 | .inr x,v=>Value.isStrOf x v
noncomputable def keyH(w:World):Key->Int
 | .inl k=>hashInt k
 | .inr x=>hashStr w x
theorem gC : ∀ {k : Key} {v : Value}, gZ k v=true->(∃ i t, k=Sum.inl i/\v=Value.int i t)\/(∃ x t, k=Sum.inr x/\v=Value.str x t)
  | .inl i, v, h => by
    obtain⟨t,e⟩:=Value.isInt_shape (k:=i) (v:=v) h;exact .inl ⟨i,t,rfl,e⟩
  | .inr x, v, h => by
    obtain⟨t,e⟩:=Value.isStrOf_shape (x:=x) (v:=v) h;exact .inr ⟨x, t, rfl, e⟩
theorem ZlV(i:Int)(t:Tok):gZ (.inl i) (.int i t)=true:=by simp[gZ,Value.isInt]
theorem ZlU(x:Str)(t:Tok):gZ (.inr x) (.str x t)=true:=by simp[gZ,Value.isStrOf]
theorem key_ll(a b:Int):decide ((Sum.inl a:Key)=Sum.inl b)=(a == b):=by
 by_cases e:a=b
 .subst e;simp
 .have h:¬ (Sum.inl a:Key)=Sum.inl b:=fun q=>e (Sum.inl.inj q);rw[bo h];exact(rR.mpr e).symm
theorem key_rr(a b:Str):decide ((Sum.inr a:Key)=Sum.inr b)=decide (a=b):=by
 by_cases e:a=b
 .subst e;simp
 .have h:¬ (Sum.inr a:Key)=Sum.inr b:=fun q=>e (Sum.inr.inj q);rw[bo h,bo e]
theorem key_lr(a:Int)(b:Str):decide ((Sum.inl a:Key)=Sum.inr b)=false:=bo (fun q=>nomatch q)
theorem key_rl(a:Str)(b:Int):decide ((Sum.inr a:Key)=Sum.inl b)=false:=bo (fun q=>nomatch q)
noncomputable def cx(prog:Program)(w:World):PySem.KeyKind prog w Key where
 is:=gZ
 hash:=keyH w
 inj:=fun v a b ha hb=>by
  rcases gC ha with ⟨i,t,rfl,rfl⟩|⟨x,t,rfl,rfl⟩
  .rcases gC hb with ⟨j,u,rfl,e⟩|⟨y,u,rfl,e⟩
   .injection e with e1 _;rw[e1]
   .exact nomatch e
  .rcases gC hb with ⟨j,u,rfl,e⟩|⟨y,u,rfl,e⟩
   .exact nomatch e
   .injection e with e1 _;rw[e1]
 byValue:=fun k v h=>by
  rcases gC h with ⟨i,t,rfl,rfl⟩|⟨x,t,rfl,rfl⟩ <;> rfl
 pyHash:=fun hv h=>by
  rcases gC hv with ⟨i,t,rfl,rfl⟩|⟨x,t,rfl,rfl⟩
  .exact wpAny_pyHash_int h
  .exact wpAny_pyHash_str h
 eqBool:=fun hu hv h=>by
  rcases gC hu with ⟨i,t,rfl,rfl⟩|⟨x,t,rfl,rfl⟩
  .rcases gC hv with ⟨j,u,rfl,rfl⟩|⟨y,u,rfl,rfl⟩
   .rw[key_ll] at h;exact m8 h
   .rw[key_lr] at h;exact rS i t y u _ _ _ _ h
  .rcases gC hv with ⟨j,u,rfl,rfl⟩|⟨y,u,rfl,rfl⟩
   .rw[key_rl] at h;exact rT x t j u _ _ _ _ h
   .rw[key_rr] at h;exact wpAny_eqBool_str h
 «strs»:=fun k x t v h=>by
  rcases gC h with ⟨i,u,rfl,e⟩|⟨y,u,rfl,e⟩
  .exact nomatch e
  .injection e with e1 _
   subst e1;cases v <;> rfl
theorem Zip(prog:Program)(w:World)(i:Int)(t:Tok):(cx prog w).is (.inl i) (.int i t)=true:=ZlV i t
theorem oH(prog:Program)(w:World)(x:Str)(t:Tok):(cx prog w).is (.inr x) (.str x t)=true:=ZlU x t
end L2
namespace L2
open PySem PySem.Spec PyProof.Rows
inductive V where
 | non|bl (b:Bool)|int (i:Int)|str (x:Str)|byt (b:Array UInt8)|flt (b:UInt64)|ref (a:Addr)|ty (n:String)
 deriving DecidableEq
noncomputable def RelV:V->Value->Prop
 | .non,u=>u=Value.none
 | .bl b,u=>u=Value.bool b
 | .int i,u=>∃ t,u=Value.int i t
 | .str x,u=>∃ t,u=Value.str x t
 | .byt b,u=>∃ t,u=Value.bytes b t
 | .flt b,u=>∃ t,u=Value.float b t
 | .ref a,u=>u=Value.ref a
 | .ty n,u=>u=Value.type n
noncomputable abbrev Vals:List V->List Value->Prop:=Paired RelV
theorem Vals.length{xs:List V}{us:List Value}(r:Vals xs us):xs.length=us.length:=Paired.length r
theorem Vals.get : ∀ {xs : List V} {us : List Value} {i : Nat} {x : V}, Vals xs us->xs[i]?=some x->∃ u, us[i]?=some u/\RelV x u
  | _, _, _, _, .nil, e=>by simp at e
  | _, _, 0, _, .cons r _, e=>by simp at e; subst e; exact⟨_, rfl, r⟩
  | _, _, i + 1, x, .cons _ t, e => by
    obtain⟨u,h1,h2⟩:=Vals.get (i:=i) (x:=x) t (by simpa using e);exact⟨u, by simpa using h1, h2⟩
theorem Vals.set{x:V}{u:Value}(r:RelV x u):∀ {xs:List V} {us:List Value} (i:Nat),Vals xs us->Vals (xs.set i x) (us.set i u)
 | _,_,_,.nil=>.nil
 | _,_,0,.cons _ t=>.cons r t
 | _,_,i+1,.cons q t=>.cons q (Vals.set r i t)
theorem Vals.append{xs ys:List V}{us ws:List Value}(h:Vals xs us)(s:Vals ys ws):Vals (xs++ys) (us++ws):=by
 induction h with
 | nil=>exact s
 | cons r _ ih=>exact .cons r ih
theorem Vals.take:∀ {xs:List V} {us:List Value} (n:Nat),Vals xs us->Vals (xs.take n) (us.take n)
 | _,_,0,_=>.nil
 | _,_,_+1,.nil=>.nil
 | _,_,n+1,.cons r t=>.cons r (Vals.take n t)
theorem Vals.drop:∀ {xs:List V} {us:List Value} (n:Nat),Vals xs us->Vals (xs.drop n) (us.drop n)
 | _,_,0,r=>r
 | _,_,_+1,.nil=>.nil
 | _,_,n+1,.cons _ t=>Vals.drop n t
noncomputable def RelO:Option V->Option Value->Prop
 | some v,some u=>RelV v u
 | none,none=>True
 | _,_=>False
noncomputable def KV{κ:Type}:List (κ×V)->List (κ×Value)->Prop:=Paired fun(p:κ×V) (q:κ×Value)=>p.1=q.1/\RelV p.2 q.2
noncomputable def kV:Key->V
 | .inl i=>.int i
 | .inr x=>.str x
inductive HO where
 | lst (xs:List V)
 | tup (xs:List V)
 | dK (kvs:List (Key×V))|dT (kvs:List (List Key×V))
 | set (S:Int->Bool) (n:Nat)
 | ins (C dx:Addr) (fs:List (Str×V))
 | own (x:Addr)
 | xd (fs:List (Str×V))
 | met (f x:Addr)
 | rng (lo hi:Int)
 | frz (o:Obj) (u:HO)
 | tbl (ps:Array Value)
 | ext (φ:Heap->Prop)
noncomputable abbrev Hp:=Addr->Option HO
noncomputable def upd(H:Hp)(a:Addr)(o:HO):Hp:=fun b=>if b=a then some o else H b
theorem bJ{H:Hp}{a:Addr}{o:HO}:upd H a o a=some o:=by unfold upd;rw[ak rfl]
theorem bv{H:Hp}{a b:Addr}{o:HO}(h:b≠a):upd H a o b=H b:=by unfold upd;rw[ao h]
theorem ne_of{H:Hp}{a b:Addr}{o u:HO}(h:H a=some o)(h':H b=some u)(d:o≠u):a≠b:=by
 intro e;subst e;rw[h] at h';exact d (Option.some.inj h')
theorem iN{H:Hp}{a b:Addr}{o:HO}(h:H a=some o)(h':H b=none):a≠b:=by
 intro e;subst e;rw[h] at h';cases h'
section
variable(P:Program)(w:World)
noncomputable def ObjOk(H:Hp)(h:Heap)(a:Addr):HO->Prop
 | .lst xs=>xs.length<=sizeLine/\∃ (its:List Value) (n:Nat),Vals xs its/\h.get? a=some { cls:=.type "list",data:=.seq its.toArray n }
 | .tup xs=>xs.length<=sizeLine/\∃ its:List Value,Vals xs its/\IsTup h a its.toArray
 | .dK kvs=>kvs.length<=sizeLine/\(a == sysModules)=false/\∃ vs,KV kvs vs/\h.DictOf (cx P w) a vs
 | .dT kvs=>kvs.length<=sizeLine/\(a == sysModules)=false/\∃ xs:List (List Key×Addr×Value),
   Paired (fun(p:List Key×V) (q:List Key×Addr×Value)=>p.1=q.1/\H q.2.1=some (.tup (p.1.map kV))/\RelV p.2 q.2.2) kvs xs /\
   ∃ o es ep,h.get? a=some o/\o.ExactDict/\o.data=.dict es ep/\es.toList=xs.map (entryOfKey (tupleKind (cx P w)))/\(xs.map (·.1)).Nodup
 | .set S n=>h.SetOf (intKind P w) a S n
 | .ins C dx fs=>H dx=some (.own a)/\fs.length<=1000/\dx≠a/\h.get? a=some (PySem.W.instObj C dx) /\
   ∃ mA,h.Ns1 dx mA/\(∀ f,RelO (fs.lookup f) (mA f))/\PySem.Within mA (fs.map (·.1))
 | .own _=>∃ o,h.get? a=some o
 | .xd fs=>∃ mA,h.Ns1 a mA/\∀ f,RelO (fs.lookup f) (mA f)
 | .rng lo hi=>∃ t u v,h.get? a=some { cls:=.type "range",data:=.fields #[.int lo t,.int hi u,.int 1 v] }
 | .frz o u=>h.get? a=some o/\ObjOk H h a u
 | .tbl ps=>h.get? a=some { cls:=.none,data:=.fields ps }
 | .met f x=>h.get? a=some (PySem.W.methodObj (.ref f) (.ref x))
 | .ext φ=>φ h/\(∃ o,h.get? a=some o)/\∀ h1 h2:Heap,φ h1->(∀ o,h1.get? a=some o->h2.get? a=some o)->φ h2
def HOk(H:Hp)(h:Heap):Prop:=∀ a o,H a=some o->ObjOk P w H h a o
end
section
variable{P:Program}{w:World}{H H':Hp}{h h':Heap}{a:Addr}{o:HO}
theorem ObjOk.lt(x:ObjOk P w H h a o):a<h.objs.size:=by
 cases o with
 | lst xs=>obtain⟨_,_,_,_,e⟩:=x;exact ba e
 | tup xs=>obtain⟨_,_,_,p⟩:=x;exact p.lt
 | dK kvs=>obtain⟨_,_,_,_,o,_,_,e,_⟩:=x;exact ba e
 | dT kvs=>obtain⟨_,_,_,_,o,_,_,e,_⟩:=x;exact ba e
 | set S n=>obtain⟨o,_,_,_,e,_⟩:=x;exact ba e
 | ins C dx fs=>obtain⟨_,_,_,e,_⟩:=x;exact ba e
 | own y=>obtain⟨_,e⟩:=x;exact ba e
 | xd fs=>obtain⟨_,⟨_,_,_,e,_⟩,_⟩:=x;exact ba e
 | rng lo hi=>obtain⟨_,_,_,e⟩:=x;exact ba e
 | frz ob u=>obtain⟨e,_⟩:=x;exact ba e
 | tbl ps=>exact ba (show h.get? a=some _ from x)
 | met f y=>exact ba (show h.get? a=some _ from x)
 | ext φ=>obtain⟨_,⟨_,e⟩,_⟩:=x;exact ba e
theorem Paired.mapP{α β:Type}{F G:α->β->Prop}{l₁:List α}{l₂:List β}(h:Paired F l₁ l₂)(f:∀ a b,F a b->G a b):Paired G l₁ l₂:=by
 induction h with
 | nil=>exact .nil
 | cons r _ ih=>exact .cons (f _ _ r) ih
theorem ObjOk.stay(x:ObjOk P w H h a o)(k:∀ b u,(b=a\/H b=some (.own a))->h.get? b=some u->h'.get? b=some u)
  (ho:∀ b,H b=some (.own a)->H' b=some (.own a)) (ht:∀ b xs,H b=some (.tup xs)->H' b=some (.tup xs)):ObjOk P w H' h' a o:=by
 induction o with
 | lst xs=>obtain⟨z,its,n,r,e⟩:=x;exact⟨z,its,n,r,k _ _ (.inl rfl) e⟩
 | tup xs=>obtain⟨z,its,r,ob,e,c⟩:=x;exact⟨z,its,r,ob,k _ _ (.inl rfl) e,c⟩
 | dK kvs=>obtain⟨z,y,vs,r,ob,es,ep,e,c⟩:=x;exact⟨z,y,vs,r,ob,es,ep,k _ _ (.inl rfl) e,c⟩
 | dT kvs =>
  obtain⟨z,y,xs,r,ob,es,ep,e,c⟩:=x;exact⟨z,y,xs,Paired.mapP r fun p q z=>⟨z.1,ht _ _ z.2.1,z.2.2⟩,ob,es,ep,k _ _ (.inl rfl) e,c⟩
 | set S n=>obtain⟨ob,es,ep,t,e,c⟩:=x;exact⟨ob,es,ep,t,k _ _ (.inl rfl) e,c⟩
 | ins C dx fs =>
  obtain⟨d,z,ne,e,mA,⟨od,es,ep,e2,c⟩,r⟩:=x;exact⟨ho _ d,z,ne,k _ _ (.inl rfl) e,mA,⟨od,es,ep,k _ _ (.inr d) e2,c⟩,r⟩
 | own y=>obtain⟨ob,e⟩:=x;exact⟨ob,k _ _ (.inl rfl) e⟩
 | xd fs=>obtain⟨mA,⟨od,es,ep,e,c⟩,r⟩:=x;exact⟨mA,⟨od,es,ep,k _ _ (.inl rfl) e,c⟩,r⟩
 | rng lo hi=>obtain⟨t,u,v,e⟩:=x;exact⟨t,u,v,k _ _ (.inl rfl) e⟩
 | frz ob u ih=>obtain⟨e,q⟩:=x;exact⟨k _ _ (.inl rfl) e,ih q⟩
 | tbl ps =>
  have e:h.get? a=some { cls:=.none,data:=.fields ps }:=x;show h'.get? a=some { cls:=.none,data:=.fields ps };exact k a _ (.inl rfl) e
 | met f y =>
  have e:h.get? a=some (PySem.W.methodObj (.ref f) (.ref y)):=x;show h'.get? a=some (PySem.W.methodObj (.ref f) (.ref y));exact k a _ (.inl rfl) e
 | ext φ=>obtain⟨p,⟨o,e⟩,st⟩:=x;exact⟨st _ _ p fun o q=>k _ _ (.inl rfl) q,⟨o,k _ _ (.inl rfl) e⟩,st⟩
theorem HOk.lt(x:HOk P w H h)(e:H a=some o):a<h.objs.size:=(x a o e).lt
theorem HOk.fresh(x:HOk P w H h)(e:h.objs.size<=a):H a=none:=by
 cases q:H a with
 | none=>rfl
 | some u=>exact absurd (cZ (x.lt q) e) (gq _)
theorem HOk.kept(x:HOk P w H h)(k:∀ b u,h.get? b=some u->h'.get? b=some u):HOk P w H h':=fun a o e =>
 (x a o e).stay (fun b u _ q=>k b u q) (fun _ q=>q) fun _ _ q=>q
theorem HOk.laid(x:HOk P w H h)(k:∀ b u,h.get? b=some u->h'.get? b=some u)(hp:h.objs.size<=a)(new:ObjOk P w (upd H a o) h' a o):HOk P w (upd H a o) h':=fun b u e=>by
 have hn:=x.fresh hp;by_cases hb:b=a
 .subst hb;rw[bJ] at e;cases e;exact new
 .rw[bv hb] at e;exact(x b u e).stay (fun c v _ q=>k c v q) (fun c q=>by rw[bv (iN q hn)];exact q) fun c xs q=>by rw[bv (iN q hn)];exact q
end
def Rd(H:Hp)(a:Addr)(u:HO):Prop:=H a=some u\/∃ o,H a=some (.frz o u)
theorem Rd.ok{P:Program}{w:World}{H:Hp}{h:Heap}{a:Addr}{u:HO}(r:Rd H a u)(x:HOk P w H h):ObjOk P w H h a u:=by
 rcases r with r|⟨o,r⟩
 .exact x a u r
 .obtain ⟨_,q⟩:=x a _ r;exact q
noncomputable def Mut:Option HO->Prop
 | some (.lst _)=>True
 | some (.dK _)=>True
 | some (.dT _)=>True
 | some (.set _ _)=>True
 | some (.ins _ _ _)=>True
 | some (.ext _)=>True
 | _=>False
section
variable{P:Program}{w:World}{H:Hp}{h h':Heap}{x e:Addr}{o':HO}
theorem HOk.write(ok:HOk P w H h)(mu:Mut (H x))(he:e=x\/H e=some (.own x))(k:∀ b u,b≠e->h.get? b=some u->h'.get? b=some u)(heo:∃ u,h'.get? e=some u)
  (new:ObjOk P w (upd H x o') h' x o'):HOk P w (upd H x o') h':=fun b u q=>by
 have nown:∀ c y,H c=some (.own y)->c≠x:=fun c y r z=>by subst z;rw[r] at mu;exact mu
 have ntup:∀ c xs,H c=some (.tup xs)->c≠x:=fun c xs r z=>by subst z;rw[r] at mu;exact mu
 by_cases hb:b=x
 .subst hb;rw[bJ] at q;cases q;exact new
 .rw[bv hb] at q;by_cases hbe:b=e
  .have q':H b=some (.own x):=by
    rcases he with z|z
    .exact absurd (hbe.trans z) hb
    .rw[hbe];exact z
   rw[q] at q';cases q';obtain⟨v,hv⟩:=heo;exact⟨v,by rw[hbe];exact hv⟩
  .refine (ok b u q).stay (fun c v hc r=>k c v ?_ r) (fun c r=>by rw[bv (nown c b r)];exact r) fun c xs r=>by rw[bv (ntup c xs r)];exact r
   rcases hc with rfl|hc
   .exact hbe
   .rintro rfl;rcases he with z|z
    .exact nown c b hc z
    .rw[hc] at z;cases z;exact hb rfl
end
structure Un(fs ex:List Addr)(H H':Hp)(h h':Heap):Prop where
 keep:∀ b o,h.get? b=some o->H b=none->b∉fs->b∉ex->h'.get? b=some o
 slot:∀ b o,h.get? b=some o->H b=none->b∈fs->b∉ex->∃ sl,h'.get? b=some { o with slots:=sl }
 free:∀ b o,h.get? b=some o->H b=none->b∉ex->H' b=none
 there:∀ b o,h.get? b=some o->b∉ex->∃ o',h'.get? b=some o'
 tups:∀ b xs,H b=some (.tup xs)->H' b=some (.tup xs)
 frzs:∀ b o u,H b=some (.frz o u)->H' b=some (.frz o u)
 tbls:∀ b ps,H b=some (.tbl ps)->∃ more,H' b=some (.tbl (ps++more))
section
variable{fs fs' ex ex':List Addr}{H H1 H2:Hp}{h h1 h2 h':Heap}{a x e:Addr}{o:HO}
theorem Un.any(u:Un fs ex H H1 h h1){b:Addr}{ob:Obj}(q:h.get? b=some ob)(n:H b=none)(hx:b∉ex):∃ sl,h1.get? b=some { ob with slots:=sl }:=by
 by_cases hb:b∈fs
 .exact u.slot b ob q n hb hx
 .exact ⟨ob.slots,u.keep b ob q n hb hx⟩
theorem Un.kept(k:∀ b u,h.get? b=some u->h'.get? b=some u):Un fs ex H H h h' :=
 ⟨fun b ob q _ _ _=>k b ob q,fun b ob q _ _ _=>⟨ob.slots,k b ob q⟩,fun _ _ _ n _=>n,fun b ob q _=>⟨ob,k b ob q⟩,fun _ _ q=>q,fun _ _ _ q=>q,fun _ ps q=>⟨#[],by rw[q];simp⟩⟩
theorem Un.refl:Un fs ex H H h h:=Un.kept fun _ _ q=>q
theorem Un.laid(k:∀ b u,h.get? b=some u->h'.get? b=some u)(hp:h.objs.size<=a)(hn:H a=none):Un fs ex H (upd H a o) h h' where
 keep:=fun b u q _ _ _=>k b u q
 slot:=fun b u q _ _ _=>⟨u.slots,k b u q⟩
 free:=fun b u q n _=>by rw[bv (bP (cZ (ba q) hp))];exact n
 there:=fun b u q _=>⟨u,k b u q⟩
 tups:=fun b xs q=>by rw[bv (iN q hn)];exact q
 frzs:=fun b u xs q=>by rw[bv (iN q hn)];exact q
 tbls:=fun b ps q=>⟨#[],by rw[bv (iN q hn),q];simp⟩
theorem Un.write(mu:Mut (H x))(he:e=x\/H e=some (.own x))(k:∀ b u,b≠e->h.get? b=some u->h'.get? b=some u)(heo:∃ u,h'.get? e=some u):Un fs ex H (upd H x o) h h':=by
 have hx:∀ b,H b=none->b≠x:=fun b n z=>by subst z;rw[n] at mu;exact mu
 have hb:∀ b,H b=none->b≠e:=fun b n z=>by
  subst z;rcases he with r|r
  .exact hx b n r
  .rw[n] at r;cases r
 have hm:∀ b u,H b=some u->¬ Mut (some u)->b≠x:=fun b u q nm z=>by subst z;rw[q] at mu;exact nm mu
 refine⟨fun b u q n _ _=>k b u (hb b n) q,fun b u q n _ _=>⟨u.slots,k b u (hb b n) q⟩,fun b u q n _=>by rw[bv (hx b n)];exact n,fun b u q _=>?_,
  fun b xs q=>by rw[bv (hm b _ q fun z=>z)];exact q,fun b u xs q=>by rw[bv (hm b _ q fun z=>z)];exact q,fun b ps q=>⟨#[],by rw[bv (hm b _ q fun z=>z),q];simp⟩⟩
 by_cases hbe:b=e
 .subst hbe;exact heo
 .exact ⟨u,k b u hbe q⟩
end
noncomputable def trk(h:Heap)(H:Hp):List Addr:=(List.range h.objs.size).filter fun a=>(H a).isSome
noncomputable def hidT(h:Heap)(H:Hp):Heap:=PySem.W.hideAll h (trk h H)
theorem Zma(h:Heap)(H:Hp):(hidT h H).objs.size=h.objs.size:=PySem.W.hideAll_size _ _
theorem ZnI{h:Heap}{H:Hp}{b:Addr}{o:Obj}(e:h.get? b=some o)(n:H b=none):(hidT h H).get? b=some o :=
 PySem.W.hideAll_get _ e fun hm=>by
  have q:(H b).isSome=true:=(kX.mp hm).2;rw[n] at q;simp at q
theorem ZpJ{h:Heap}{H:Hp}{b:Addr}{o:Obj}(e:(hidT h H).get? b=some o):h.get? b=some o/\H b=none:=by
 have e':h.get? b=some o:=PySem.W.of_hideAll (trk h H) e;refine⟨e',?_⟩;cases q:H b with
 | none=>rfl
 | some x =>
  have hm:b∈trk h H:=kX.mpr ⟨gr.mpr (ba e'),by simp[q]⟩;have z:(hidT h H).get? b=none:=PySem.W.hideAll_none (trk h H) hm;rw[z] at e;cases e
noncomputable def Zqo(g h:Heap)(L:Addr):List (Addr×Obj):=(List.range h.objs.size).filterMap fun a=>if a=L\/(g.get? a).isSome=true then none else (h.get? a).map fun o=>(a,o)
noncomputable def rest(g h:Heap)(L d:Addr):List (Addr×Obj):=(Zqo g h L).filter fun p=>decide (p.1≠d)
end L2
namespace L2
open PySem PySem.Spec PyProof.Rows
structure Mod(K:W.Frag)(mg:Str->Option Value)(base:Heap):Prop where
 kin:K.In base
 glob:base.Ns mainGlobals mg
 blt:∃ mb,base.Ns builtinsNs mb/\∀ x:Str,x≠"__name__"->mb x=bootBuiltins x
 nolimit:base.NoLimit
structure Cx where
 prog:Program
 w:World
 K:W.Frag
 mg:Str->Option Value
 base:Heap
 A:Around
 N:List Str
 s₀:Shared
 H₀:Hp
 env:Env
 outer:List Env
 stack:List Env
 ex:List Addr
 fn:Str->Bool
 calm:Bool
 pn:List (Addr×Obj)
 xe:Value->Shared->Prop
noncomputable def frs(l:List Env):List Addr:=l.filterMap (·.frame)
noncomputable abbrev Cx.fs(X:Cx):List Addr:=frs X.outer
def Vis(sc:Scope)(x:Str):Prop:=sc.names.lookup x=some .local\/sc.names.lookup x=some .cell\/sc.names.lookup x=some .free
def Loc(sc:Scope)(x:Str):Prop:=sc.names.lookup x=some .local\/sc.names.lookup x=some .cell
noncomputable def Look(env:Env)(h:Heap)(m:Str->Option Value)(x:Str)(u:Value):Prop :=
 (env.kindOf x=some .local/\m x=some u)\/((env.kindOf x=some .cell\/env.kindOf x=some .free)/\∃ c,env.cells.lookup x=some c/\h.IsCell c (some u))
structure Cx.Ok(X:Cx):Prop where
 mod:Mod X.K X.mg X.base
 kind:X.env.scope.kind=.function
 glob:X.env.globals=mainGlobals
 blt:X.env.builtins=builtinsNs
 above:X.s₀.heap.objs.size<=X.env.locals
 inj:∀ x y c,X.env.cells.lookup x=some c->X.env.cells.lookup y=some c->x=y
 has:∀ x,(X.env.kindOf x=some .cell\/X.env.kindOf x=some .free)->∃ c,X.env.cells.lookup x=some c
 cab:∀ x c,X.fn x=true->X.env.cells.lookup x=some c->X.s₀.heap.objs.size<=c
 hd:X.calm=true->X.A.handled=none
 frames:X.A.frames=some X.stack
 stk:X.stack=X.outer\/(X.stack=X.env::X.outer/\X.env.frame=some X.env.locals)
 exf:∀ b∈X.ex,b≠X.env.locals/\∀ x c,X.env.cells.lookup x=some c->c≠b
 bs:∀ b o,X.base.get? b=some o->X.s₀.heap.get? b=some o/\X.H₀ b=none
 bsz:X.base.objs.size<=X.s₀.heap.objs.size
 noex:∀ b o,X.base.get? b=some o->b∉X.ex
 exfs:∀ b∈X.ex,b∉X.fs
 funs:X.s₀.heap.FunFrames X.base X.outer
 frf:∀ b∈X.fs,X.H₀ b=none
structure Inv(X:Cx)(pins:List (Addr×Obj))(Z:List (Option V))(H:Hp)(s:Shared):Prop where
 ok:X.Ok
 os:s.os=X.s₀.os
 bare:AllBare s.gens
 base:Un X.fs X.ex X.H₀ H X.s₀.heap s.heap
 loc:∃ m,s.heap.Ns X.env.locals m/\∀ (i:Nat) (x:Str) (v:V),X.N[i]?=some x->Z[i]?=some (some v)->Vis X.env.scope x->∃ u,RelV v u/\Look X.env s.heap m x u
 cell:∀ x c,X.env.cells.lookup x=some c->∃ v,s.heap.IsCell c v
 free:H X.env.locals=none
 freeC:∀ x c,X.env.cells.lookup x=some c->H c=none
 pin:∀ p∈X.pn++pins,s.heap.get? p.1=some p.2/\H p.1=none/\p.1≠X.env.locals/\p.1∉X.fs/\∀ v,p.2.data≠.cell v
 hok:HOk X.prog X.w H s.heap
 len:Z.length=X.N.length
section
variable{X:Cx}{pins:List (Addr×Obj)}{Z:List (Option V)}{H H':Hp}{s:Shared}{h':Heap}
theorem Cx.Ok.nofr(ok:X.Ok){b:Addr}{o:Obj}(e:X.base.get? b=some o):b∉X.fs:=fun hb=>by
 have:=(ok.funs.mem hb).1;rw[e] at this;cases this
theorem Inv.bs(I:Inv X pins Z H s):∀ b o,X.base.get? b=some o->s.heap.get? b=some o/\H b=none:=fun b o e =>
 ⟨I.base.keep b o (I.ok.bs b o e).1 (I.ok.bs b o e).2 (I.ok.nofr e) (I.ok.noex b o e),I.base.free b o (I.ok.bs b o e).1 (I.ok.bs b o e).2 (I.ok.noex b o e)⟩
theorem Inv.bk(I:Inv X pins Z H s):∀ b o,X.base.get? b=some o->s.heap.get? b=some o:=fun b o e=>(I.bs b o e).1
theorem Inv.mod(I:Inv X pins Z H s):Mod X.K X.mg X.base:=I.ok.mod
theorem Inv.kIn(I:Inv X pins Z H s):X.K.In s.heap:=I.ok.mod.kin.keeps I.bk
theorem Inv.lt(I:Inv X pins Z H s):X.env.locals<s.heap.objs.size:=let ⟨_,hn,_⟩:=I.loc;hn.lt
theorem Inv.sz(I:Inv X pins Z H s):X.s₀.heap.objs.size<=s.heap.objs.size:=bh I.ok.above (gt I.lt)
theorem Inv.nofs(I:Inv X pins Z H s){a:Addr}(h:s.heap.objs.size<=a):a∉X.fs:=fun hb=>by
 obtain⟨_,o,ho,_⟩:=I.ok.funs.mem hb;exact absurd (cZ (ba ho) (bh I.sz h)) (gq _)
theorem Inv.cne(I:Inv X pins Z H s):∀ x c,X.env.cells.lookup x=some c->c≠X.env.locals:=fun x c e z=>by
 obtain⟨v,o,ho,hd⟩:=I.cell x c e;obtain⟨m,⟨o',es,ep,ho',hd',_⟩,_⟩:=I.loc;rw[z,ho'] at ho;cases ho;rw[hd'] at hd;cases hd
theorem Inv.funs(I:Inv X pins Z H s):s.heap.FunFrames X.base X.outer:=by
 have all:∀ (l:List Env),(∀ b∈frs l,b∈X.fs)->X.s₀.heap.FunFrames X.base l->s.heap.FunFrames X.base l:=by
  intro l
  induction l with
  | nil=>intro _ _;trivial
  | cons env r ih =>
   intro hs hl;obtain⟨hk,⟨L,o,hf,hn,ho,hd⟩,hr⟩:=hl;have hL:L∈X.fs:=hs L (by unfold frs;rw[filterMap_cons,hf];exact aO);obtain⟨sl,e⟩:=I.base.slot L o ho (I.ok.frf L hL) hL fun z=>I.ok.exfs L z hL;exact⟨hk,⟨L,_,hf,hn,e,hd⟩,ih (fun b hb=>hs b (by unfold frs;rw[filterMap_cons,hf];exact bw _ hb)) hr⟩
 exact all X.outer (fun _ hb=>hb) I.ok.funs
theorem Inv.stack(I:Inv X pins Z H s):s.heap.FunFrames X.base X.stack:=by
 rcases I.ok.stk with e|⟨e,hf⟩
 .rw[e];exact I.funs
 .rw[e];obtain⟨m,hn,_⟩:=I.loc;refine .cons (by rw[I.ok.kind];decide) hf hn ?_ I.funs;exact Heap.get?_none_of_le (bh I.ok.bsz I.ok.above)
theorem Inv.stkSub(I:Inv X pins Z H s):∀ b∈frs X.stack,b∈X.env.locals::X.fs:=fun b hb=>by
 rcases I.ok.stk with e|⟨e,hf⟩
 .rw[e] at hb;exact bw _ hb
 .rw[e] at hb;unfold frs at hb;rw[filterMap_cons,hf] at hb;exact hb
theorem Inv.stkFree(I:Inv X pins Z H s):∀ b∈frs X.stack,H b=none:=fun b hb=>by
 rcases aJ.mp (I.stkSub b hb) with e|hb
 .rw[e];exact I.free
 .obtain ⟨_,o,ho,_⟩:=I.ok.funs.mem hb;exact I.base.free b o ho (I.ok.frf b hb) fun z=>I.ok.exfs b z hb
theorem Inv.step{g':Array GenState}{t':Nat}{d':Drawn}{ch:List Addr}(I:Inv X pins Z H s)
  (hch:∀ b∈ch,(b∈X.ex\/X.s₀.heap.objs.size<=b)/\b≠X.env.locals/\(∀ x c,X.env.cells.lookup x=some c->c≠b)/\∀ p∈X.pn++pins,p.1≠b)
  (keep:∀ b o,b≠X.env.locals->b∉X.fs->b∉ch->s.heap.get? b=some o->H b=none->h'.get? b=some o)
  (slot:∀ b o,b≠X.env.locals->b∈X.fs->b∉ch->s.heap.get? b=some o->H b=none->∃ sl,h'.get? b=some { o with slots:=sl }) (free:∀ b o,b∉ch->s.heap.get? b=some o->H b=none->H' b=none)
  (there:∀ b o,b∉ch->s.heap.get? b=some o->∃ o',h'.get? b=some o')
  (tups:∀ b xs,H b=some (.tup xs)->H' b=some (.tup xs)) (frzs:∀ b o u,H b=some (.frz o u)->H' b=some (.frz o u)) (tbls:∀ b ps,H b=some (.tbl ps)->∃ more,H' b=some (.tbl (ps++more)))
  (ns:∀ m,s.heap.Ns X.env.locals m->h'.Ns X.env.locals m) (hok:HOk X.prog X.w H' h') (hg:AllBare g') :
  Inv X pins Z H' { s with heap:=h',gens:=g',drawn:=d',toks:=t' }:=by
 have neL:∀ b o,X.s₀.heap.get? b=some o->b≠X.env.locals:=fun b o e=>bP (cZ (ba e) I.ok.above);have neC:∀ b o,X.s₀.heap.get? b=some o->b∉X.ex->b∉ch:=fun b o e hx hb=>by
  rcases(hch b hb).1 with z|z
  .exact hx z
  .exact absurd (cZ (ba e) z) (gq _)
 have cellK:∀ x c,X.env.cells.lookup x=some c->∀ v,s.heap.IsCell c v->h'.IsCell c v:=fun x c e v ⟨o,ho,hd⟩=>by
  have nch:c∉ch:=fun z=>(hch c z).2.2.1 x c e rfl;by_cases hc:c∈X.fs
  .obtain ⟨sl,q⟩:=slot c o (I.cne x c e) hc nch ho (I.freeC x c e);exact⟨_,q,hd⟩
  .exact ⟨o,keep c o (I.cne x c e) hc nch ho (I.freeC x c e),hd⟩
 refine⟨I.ok,I.os,hg,⟨fun b o e n hb hx=>?_,fun b o e n hb hx=>?_,fun b o e n hx=>?_,fun b o e hx=>?_,fun b xs e=>tups b xs (I.base.tups b xs e),fun b o xs e=>frzs b o xs (I.base.frzs b o xs e),fun b ps e=>?_⟩,?_,fun x c e=>?_,?_,fun x c e=>?_,fun p hp=>?_,hok,I.len⟩
 .exact keep b o (neL b o e) hb (neC b o e hx) (I.base.keep b o e n hb hx) (I.base.free b o e n hx)
 .obtain ⟨sl,e1⟩:=I.base.slot b o e n hb hx;obtain⟨sl',e2⟩:=slot b _ (neL b o e) hb (neC b o e hx) e1 (I.base.free b o e n hx);exact⟨sl',e2⟩
 .obtain ⟨o',e1⟩:=I.base.there b o e hx;exact free b o' (neC b o e hx) e1 (I.base.free b o e n hx)
 .obtain ⟨o',e1⟩:=I.base.there b o e hx;exact there b o' (neC b o e hx) e1
 .obtain ⟨m1,e1⟩:=I.base.tbls b ps e;obtain⟨m2,e2⟩:=tbls b _ e1;exact⟨m1++m2,by rw[e2,Array.append_assoc]⟩
 .obtain ⟨m,hn,hl⟩:=I.loc;refine ⟨m,ns m hn,fun i x v e1 e2 e3=>?_⟩;obtain ⟨u,r,l⟩:=hl i x v e1 e2 e3;refine ⟨u,r,?_⟩;rcases l with l|⟨k,c,e,z⟩
  .exact .inl l
  .exact .inr ⟨k,c,e,cellK x c e _ z⟩
 .obtain ⟨v,z⟩:=I.cell x c e;exact⟨v,cellK x c e v z⟩
 .obtain ⟨m,⟨o,_,_,ho,_⟩,_⟩:=I.loc;exact free _ o (fun z=>(hch _ z).2.1 rfl) ho I.free
 .obtain ⟨v,o,ho,hd⟩:=I.cell x c e;exact free c o (fun z=>(hch c z).2.2.1 x c e rfl) ho (I.freeC x c e)
 .obtain ⟨e,n,ne,nf,d⟩:=I.pin p hp;have nch:p.1∉ch:=fun z=>(hch p.1 z).2.2.2 p hp rfl;exact⟨keep p.1 p.2 ne nf nch e n,free p.1 p.2 nch e n,ne,nf,d⟩
theorem Inv.un{t':Nat}(I:Inv X pins Z H s)(u:Un X.fs [] H H' s.heap h')(hok:HOk X.prog X.w H' h'):Inv X pins Z H' { s with heap:=h',toks:=t' }:=by
 obtain⟨m,⟨o,es,ep,ho,r⟩,_⟩:=id I.loc;obtain⟨sl,hL⟩:=u.any ho I.free (by simp);exact I.step (g':=s.gens) (d':=s.drawn) (ch:=[]) (fun _ z=>nomatch z) (fun b o _ hb _ e n=>u.keep b o e n hb (by simp)) (fun b o _ hb _ e n=>u.slot b o e n hb (by simp)) (fun b o _ e n=>u.free b o e n (by simp)) (fun b o _ e=>u.there b o e (by simp)) u.tups u.frzs u.tbls (fun m' hm=>by
  obtain⟨o',es',ep',ho',r'⟩:=hm;rw[ho] at ho';cases ho';exact⟨_,es',ep',hL,r'⟩) hok I.bare
theorem Inv.call{g':Array GenState}{t':Nat}{d':Drawn}{ch:List Addr}(I:Inv X pins Z H s)(u:Un (frs X.stack) ch H H' s.heap h')(hok:HOk X.prog X.w H' h')(hg:AllBare g')
  (hch:∀ b∈ch,(b∈X.ex\/X.s₀.heap.objs.size<=b)/\b≠X.env.locals/\(∀ x c,X.env.cells.lookup x=some c->c≠b)/\∀ p∈X.pn++pins,p.1≠b) :
  Inv X pins Z H' { s with heap:=h',gens:=g',drawn:=d',toks:=t' }:=by
 obtain⟨m,⟨o,es,ep,ho,r⟩,_⟩:=id I.loc;obtain⟨sl,hL⟩:=u.any ho I.free fun z=>(hch _ z).2.1 rfl;exact I.step (ch:=ch) hch (fun b o hL hb hc e n=>u.keep b o e n (fun z=>(aJ.mp (I.stkSub b z)).elim hL hb) hc) (fun b o _ _ hc e n=>u.any e n hc) (fun b o hc e n=>u.free b o e n hc) (fun b o hc e=>u.there b o e hc) u.tups u.frzs u.tbls (fun m' hm=>by
  obtain⟨o',es',ep',ho',r'⟩:=hm;rw[ho] at ho';cases ho';exact⟨_,es',ep',hL,r'⟩) hok hg
theorem Inv.turned{t':Nat}{it:Addr}(I:Inv X pins Z H s)(k:∀ b o,b≠it->s.heap.get? b=some o->h'.get? b=some o)(hn:H it=none)(hL:it≠X.env.locals)
  (h1:it∈X.ex\/X.s₀.heap.objs.size<=it) (h2:∀ x c,X.env.cells.lookup x=some c->c≠it) (h3:∀ p∈X.pn++pins,p.1≠it):Inv X pins Z H { s with heap:=h',toks:=t' }:=by
 have nit:∀ b u,H b=some u->b≠it:=fun b u e z=>by rw[z,hn] at e;cases e
 refine I.step (g':=s.gens) (d':=s.drawn) (ch:=[it]) (fun b hb=>?_) (fun b o _ _ hc e _=>k b o (fun z=>hc (by simp[z])) e) (fun b o _ _ hc e _=>⟨o.slots,k b o (fun z=>hc (by simp[z])) e⟩) (fun _ _ _ _ n=>n)
  (fun b o hc e=>⟨o,k b o (fun z=>hc (by simp[z])) e⟩) (fun _ _ e=>e) (fun _ _ _ e=>e) (fun b ps e=>⟨#[],by rw[e];simp⟩) (fun m hm=>?_) (fun b u e=>?_) I.bare
 .have e:b=it:=by simpa using hb
  subst e;exact⟨h1,hL,h2,h3⟩
 .obtain ⟨o,es,ep,ho,r⟩:=hm;exact⟨o,es,ep,k _ o (Ne.symm hL) ho,r⟩
 .refine (I.hok b u e).stay (fun c v hc q=>k c v ?_ q) (fun _ q=>q) fun _ _ q=>q;rcases hc with z|z
  .rw[z];exact nit b u e
  .exact nit c _ z
theorem Inv.tok(I:Inv X pins Z H s)(t:Nat):Inv X pins Z H { s with toks:=t }:=I.un (h':=s.heap) (t':=t) Un.refl I.hok
theorem Inv.kept{t':Nat}(I:Inv X pins Z H s)(k:∀ b u,s.heap.get? b=some u->h'.get? b=some u):Inv X pins Z H { s with heap:=h',toks:=t' }:=I.un (Un.kept k) (I.hok.kept k)
theorem Inv.laid{a:Addr}{o:HO}{t':Nat}(I:Inv X pins Z H s)(k:∀ b u,s.heap.get? b=some u->h'.get? b=some u)(hp:s.heap.objs.size<=a)(new:ObjOk X.prog X.w (upd H a o) h' a o) :
  Inv X pins Z (upd H a o) { s with heap:=h',toks:=t' }:=I.un (Un.laid k hp (I.hok.fresh hp)) (I.hok.laid k hp new)
theorem Inv.write{x e:Addr}{o:HO}{t':Nat}(I:Inv X pins Z H s)(mu:Mut (H x))(he:e=x\/H e=some (.own x))(k:∀ b u,b≠e->s.heap.get? b=some u->h'.get? b=some u)(heo:∃ u,h'.get? e=some u)
  (new:ObjOk X.prog X.w (upd H x o) h' x o):Inv X pins Z (upd H x o) { s with heap:=h',toks:=t' }:=I.un (Un.write mu he k heo) (I.hok.write mu he k heo new)
theorem Inv.pins_of{pins':List (Addr×Obj)}(I:Inv X pins Z H s)(h:∀ p∈pins',s.heap.get? p.1=some p.2/\H p.1=none/\p.1≠X.env.locals/\p.1∉X.fs/\∀ v,p.2.data≠.cell v):Inv X pins' Z H s :=
 ⟨I.ok,I.os,I.bare,I.base,I.loc,I.cell,I.free,I.freeC,fun p hp=>(aS.mp hp).elim (fun z=>I.pin p (dJ _ z)) (h p),I.hok,I.len⟩
theorem vL{N:List Str}(hN:N.Nodup){i j:Nat}{x:Str}(a:N[i]?=some x)(b:N[j]?=some x):i=j:=by
 obtain⟨h1,e1⟩:=aX.mp a;obtain⟨h2,e2⟩:=aX.mp b;exact(getElem_inj hN).mp (e1.trans e2.symm)
theorem xx{M:Model}{A:Around}{E:Value->Shared->Prop}{i:Nat}{x:Str}{v:V}{u:Value}{Q:Unit->Shared->Prop}(I:Inv X pins Z H s)(hN:X.N.Nodup)(hi:X.N[i]?=some x)(hx:Loc X.env.scope x)(r:RelV v u)
  (h:∀ s',Inv X pins (Z.set i (some v)) H s'->(∃ a,Heap.SameBut a s.heap s'.heap/\(a=X.env.locals\/X.env.cells.lookup x=some a))->Q () s') (hf:X.fn x=true\/X.env.scope.names.lookup x=some .local:=by first|exact .inl rfl|exact .inr rfl|assumption):wpAny M A (storeName X.env x u) Q E s:=by
 obtain⟨m,hn,hl⟩:=id I.loc;have hcls:(X.env.scope.kind == .class || (X.env.scope.kind == .module&&X.env.locals != X.env.globals))=false:=by rw[I.ok.kind];rfl
 have hiσ:i<Z.length:=by rw[I.len];exact(aX.mp hi).1
 have cne:=I.cne;have tracked:∀ {a:Addr} {h':Heap},(∃ o,s.heap.get? a=some o/\H a=none)->Heap.SameBut a s.heap h'->HOk X.prog X.w H h':=fun {a h'} ha hs b ob e=>by
  obtain⟨_,_,hfree⟩:=ha;refine(I.hok b ob e).stay (fun c w' hc q=>(hs.2 c ?_).trans q) (fun _ q=>q) fun _ _ q=>q;rintro rfl;rcases hc with rfl|hc
  .rw[hfree] at e;cases e
  .rw[hfree] at hc;cases hc
 rcases hx with hk|hk
 .refine wpAny_storeName_local hk hn (fun h' hn' hs=>?_) hcls;obtain ⟨oL,_,_,hoL,_⟩:=id hn;refine h _ ⟨I.ok,I.os,I.bare,⟨fun b o e n hb hx=>?_,fun b o e n hb hx=>?_,I.base.free,fun b o e hx=>?_,I.base.tups,I.base.frzs,I.base.tbls⟩,⟨_,hn',fun j y v' e1 e2 e3=>?_⟩,fun y c e=>?_,I.free,I.freeC,fun p hp=>?_,tracked ⟨oL,hoL,I.free⟩ hs,by simpa using I.len⟩ ⟨_,hs,.inl rfl⟩
  .exact (hs.2 b (bP (cZ (ba e) I.ok.above))).trans (I.base.keep b o e n hb hx)
  .obtain ⟨sl,e1⟩:=I.base.slot b o e n hb hx;exact⟨sl,(hs.2 b (bP (cZ (ba e) I.ok.above))).trans e1⟩
  .obtain ⟨o',e1⟩:=I.base.there b o e hx;exact⟨o',(hs.2 b (bP (cZ (ba e) I.ok.above))).trans e1⟩
  .by_cases hj:j=i
   .subst hj;rw[hi] at e1;cases e1;rw[io hiσ] at e2;cases e2;exact⟨u,r,.inl ⟨hk,by simp⟩⟩
   .rw[jD (Ne.symm hj)] at e2;obtain ⟨u',r',q⟩:=hl j y v' e1 e2 e3;refine ⟨u',r',?_⟩;rcases q with ⟨k,e⟩|⟨k,c,e,z⟩
    .refine .inl ⟨k,?_⟩;have:y≠x:=fun e=>hj (vL hN e1 (e▸hi));simp[this,e]
    .exact .inr ⟨k,c,e,z.sameBut hs (cne y c e)⟩
  .obtain ⟨w',z⟩:=I.cell y c e;exact⟨w',z.sameBut hs (cne y c e)⟩
  .obtain ⟨e,n,ne,nf,d⟩:=I.pin p hp;exact⟨(hs.2 p.1 ne).trans e,n,ne,nf,d⟩
 .have hfn:X.fn x=true:=by
   rcases hf with z|z
   .exact z
   .rw[z] at hk;cases hk
  obtain⟨c,hc⟩:=I.ok.has x (.inl hk);obtain⟨w',z⟩:=I.cell x c hc;refine wpAny_storeName_cell I.ok.kind hk hc z (fun h' hc' hs=>?_);obtain⟨oc,hoc,hocd⟩:=id z;refine h { s with heap:=h' } ⟨I.ok,I.os,I.bare,⟨fun b o e n hb hx=>?_,fun b o e n hb hx=>?_,I.base.free,fun b o e hx=>?_,I.base.tups,I.base.frzs,I.base.tbls⟩,⟨m,hn.sameBut hs (Ne.symm (cne x c hc)),fun j y v' e1 e2 e3=>?_⟩,fun y c' e=>?_,I.free,I.freeC,fun p hp=>?_,tracked ⟨oc,hoc,I.freeC x c hc⟩ hs,by simpa using I.len⟩ ⟨c,hs,.inr hc⟩
  .exact (hs.2 b (bP (cZ (ba e) (I.ok.cab x c hfn hc)))).trans (I.base.keep b o e n hb hx)
  .obtain ⟨sl,e1⟩:=I.base.slot b o e n hb hx;exact⟨sl,(hs.2 b (bP (cZ (ba e) (I.ok.cab x c hfn hc)))).trans e1⟩
  .obtain ⟨o',e1⟩:=I.base.there b o e hx;exact⟨o',(hs.2 b (bP (cZ (ba e) (I.ok.cab x c hfn hc)))).trans e1⟩
  .by_cases hj:j=i
   .subst hj;rw[hi] at e1;cases e1;rw[io hiσ] at e2;cases e2;exact⟨u,r,.inr ⟨.inl hk,c,hc,hc'⟩⟩
   .rw[jD (Ne.symm hj)] at e2;obtain ⟨u',r',q⟩:=hl j y v' e1 e2 e3;refine ⟨u',r',?_⟩;rcases q with q|⟨k,c',e,z'⟩
    .exact .inl q
    .refine .inr ⟨k,c',e,z'.sameBut hs ?_⟩;rintro rfl;exact hj (vL hN e1 (I.ok.inj _ _ _ e hc▸hi))
  .by_cases hcc:c'=c
   .subst hcc;exact⟨_,hc'⟩
   .obtain ⟨w2,z2⟩:=I.cell y c' e;exact⟨w2,z2.sameBut hs hcc⟩
  .obtain ⟨e,n,ne,nf,d⟩:=I.pin p hp;refine⟨(hs.2 p.1 ?_).trans e,n,ne,nf,d⟩;intro q;rw[q,hoc] at e;have q':oc=p.2:=Option.some.inj e;exact d w' (by rw[<-q'];exact hocd)
theorem xY{M:Model}{A:Around}{E:Value->Shared->Prop}{i:Nat}{x:Str}{v:V}{u:Value}{Q:Unit->Shared->Prop}(I:Inv X pins Z H s)(hN:X.N.Nodup)(hi:X.N[i]?=some x)(hx:Loc X.env.scope x)(r:RelV v u)
  (h:∀ s',Inv X pins (Z.set i (some v)) H s'->Q () s') (hf:X.fn x=true\/X.env.scope.names.lookup x=some .local:=by first|exact .inl rfl|exact .inr rfl|assumption):wpAny M A (storeName X.env x u) Q E s :=
 xx I hN hi hx r (fun s' I' _=>h s' I') hf
theorem Inv.call'{s':Shared}{ch:List Addr}(I:Inv X pins Z H s)(ho:s'.os=s.os)(u:Un (frs X.stack) ch H H' s.heap s'.heap)(hok:HOk X.prog X.w H' s'.heap)(hg:AllBare s'.gens)
  (hch:∀ b∈ch,(b∈X.ex\/X.s₀.heap.objs.size<=b)/\b≠X.env.locals/\(∀ x c,X.env.cells.lookup x=some c->c≠b)/\∀ p∈X.pn++pins,p.1≠b):Inv X pins Z H' s':=by
 obtain⟨h',g',d',t',o'⟩:=s';have e:o'=s.os:=ho;subst e;exact I.call (g':=g') (t':=t') (d':=d') u hok hg hch
end
noncomputable abbrev XK:=Value->Option Addr->Hp->Prop
noncomputable abbrev St:=List (Option V)
noncomputable abbrev VK:=V->Hp->Prop
noncomputable abbrev TE:=St->Hp->VK->Prop
noncomputable abbrev TT:=St->Hp->(Bool->Hp->Prop)->Prop
noncomputable abbrev TA:=St->Hp->(List V->Hp->Prop)->Prop
structure Ends where
 nx:St->Hp->Prop
 rt:VK
 bk:St->Hp->Prop:=fun _ _=>False
 ct:St->Hp->Prop:=fun _ _=>False
noncomputable abbrev TS:=Ends->St->Hp->Prop
def EP(X:Cx)(pins:List (Addr×Obj))(Z:St)(Q:VK)(u:Value)(s':Shared):Prop:=∃ v H',Inv X pins Z H' s'/\RelV v u/\Q v H'
def TP(X:Cx)(pins:List (Addr×Obj))(Z:St)(Q:Bool->Hp->Prop)(b:Bool)(s':Shared):Prop:=∃ H',Inv X pins Z H' s'/\Q b H'
def AP(X:Cx)(pins:List (Addr×Obj))(Z:St)(Q:List V->Hp->Prop)(us:List Value)(s':Shared):Prop:=∃ vs H',Inv X pins Z H' s'/\Vals vs us/\Q vs H'
noncomputable def SP(X:Cx)(pins:List (Addr×Obj))(D:Ends)(f:Flow)(s':Shared):Prop :=
 match f with
 | .next=>∃ σ' H',Inv X pins σ' H' s'/\D.nx σ' H'
 | .brk=>∃ σ' H',Inv X pins σ' H' s'/\D.bk σ' H'
 | .cont=>∃ σ' H',Inv X pins σ' H' s'/\D.ct σ' H'
 | .ret u=>∃ v σ' H',Inv X pins σ' H' s'/\RelV v u/\D.rt v H'
noncomputable def PE(X:Cx)(e:Expr)(t:TE):Prop :=
 ∀ (pins:List (Addr×Obj)) (s:Shared) (Z:St) (H:Hp) (Q:VK),Inv X pins Z H s->t Z H Q->wpAny (model X.prog X.w) X.A (eval e X.env) (EP X pins Z Q) X.xe s
noncomputable def PT(X:Cx)(e:Expr)(t:TT):Prop :=
 ∀ (pins:List (Addr×Obj)) (s:Shared) (Z:St) (H:Hp) (Q:Bool->Hp->Prop),Inv X pins Z H s->t Z H Q->wpAny (model X.prog X.w) X.A (isTrue e X.env (eval e X.env)) (TP X pins Z Q) X.xe s
noncomputable def PW(X:Cx)(e:Expr)(t:TT):Prop :=
 ∀ (whole:Sem Value) (pins:List (Addr×Obj)) (s:Shared) (Z:St) (H:Hp) (Q:Bool->Hp->Prop),Inv X pins Z H s->t Z H Q->wpAny (model X.prog X.w) X.A (isTrue e X.env whole) (TP X pins Z Q) X.xe s
theorem PW.pt{X:Cx}{e:Expr}{t:TT}(h:PW X e t):PT X e t:=h _
noncomputable def PA(X:Cx)(es:List Expr)(t:TA):Prop :=
 ∀ (pos:Pos) (pins:List (Addr×Obj)) (s:Shared) (Z:St) (H:Hp) (Q:List V->Hp->Prop),Inv X pins Z H s->t Z H Q->wpAny (model X.prog X.w) X.A (spliced (backTo pos (starEach es X.env))) (AP X pins Z Q) X.xe s
noncomputable def PS(X:Cx)(st:Stmt)(t:TS):Prop :=
 ∀ (pins:List (Addr×Obj)) (s:Shared) (Z:St) (H:Hp) (D:Ends),Inv X pins Z H s->t D Z H->wpAny (model X.prog X.w) X.A (exec st X.env) (SP X pins D) X.xe s
noncomputable def PSs(X:Cx)(st:List Stmt)(t:TS):Prop :=
 ∀ (pins:List (Addr×Obj)) (s:Shared) (Z:St) (H:Hp) (D:Ends),Inv X pins Z H s->t D Z H->wpAny (model X.prog X.w) X.A (execs st X.env) (SP X pins D) X.xe s
theorem thn{α:Type}{t:Sem α}{Q Q':α->Shared->Prop}{M:Model}{A:Around}{E:Value->Shared->Prop}{s:Shared}(h:wpAny M A t Q E s)(hQ:∀ a s,Q a s->Q' a s):wpAny M A t Q' E s:=dw h hQ fun _ _ x=>x
end L2
namespace L2
open PySem PySem.Spec PyProof.Rows
section
variable{X:Cx}
def tVar(i:Nat):TE:=fun Z H Q=>∃ v,Z[i]?=some (some v)/\Q v H
def tC(v:V):TE:=fun _ H Q=>Q v H
theorem pe_var{i:Nat}{x:Str}{pos:Pos}(hN:X.N[i]?=some x)(hv:Vis X.env.scope x)(hd:(x == ("__debug__":Str))=false:=by decide)(hcd:(x == ("__classdict__":Str))=false:=by decide):PE X (.Name x pos) (tVar i):=by
 intro pins s Z H Q I h;obtain⟨v,e,h⟩:=h;obtain⟨m,hn,hl⟩:=I.loc;obtain⟨u,r,l⟩:=hl i x v hN e hv;have fin:EP X pins Z Q u s:=⟨v,H,I,r,h⟩;rcases l with ⟨hk,hm⟩|⟨hk,c,hc,hcell⟩
 .exact wpAny_Name (wpAny_loadName_local I.ok.kind hk hn hm fin) hd
 .rcases hk with hk|hk
  .exact wpAny_Name (wpAny_loadName_cell I.ok.kind hk hc hcell fin) hd
  .exact wpAny_Name (wpAny_loadName_free I.ok.kind hk hc hcell fin hcd) hd
theorem aa{i j pos}:PE X (.Constant (.int i) j pos) (tC (.int i)):=fun _ _ _ H _ I h=>wpAny_Constant_int ⟨.int i,H,I.tok _,⟨_,rfl⟩,h⟩
theorem cW{b j pos}:PE X (.Constant (.bool b) j pos) (tC (.bl b)):=fun _ _ _ H _ I h=>Constant_bool ⟨.bl b,H,I,rfl,h⟩
theorem cU{j pos}:PE X (.Constant .none j pos) (tC .non):=fun _ _ _ H _ I h=>Constant_none ⟨.non,H,I,rfl,h⟩
theorem aF{x j pos}:PE X (.Constant (.str x) j pos) (tC (.str x)):=fun _ _ _ H _ I h=>Calls.Constant_str ⟨.str x,H,I.tok _,⟨_,rfl⟩,h⟩
def Gl(X:Cx)(x:Str):Prop:=X.env.kindOf x=some .globalImplicit
theorem v9{E:Value->Shared->Prop}{pins:List (Addr×Obj)}{s:Shared}{Z:St}{H:Hp}{x:Str}{u:Value}{pos:Pos}{Q:Value->Shared->Prop}(I:Inv X pins Z H s)(hg:Gl X x)(hm:X.mg x=some u)(h:Q u s)
  (hd:(x == ("__debug__":Str))=false:=by decide):wpAny (model X.prog X.w) X.A (eval (.Name x pos) X.env) Q E s :=
 Calls.Name_function_global I.ok.kind hg (Calls.loadGlobal_global (by rw[I.ok.glob];exact I.mod.glob.keeps I.bk) hm h) hd
theorem iE{E:Value->Shared->Prop}{pins:List (Addr×Obj)}{s:Shared}{Z:St}{H:Hp}{x:Str}{u:Value}{pos:Pos}{Q:Value->Shared->Prop}(I:Inv X pins Z H s)(hg:Gl X x)(hm:X.mg x=none)(hv:bootBuiltins x=some u)(h:Q u s)
  (hn:x≠"__name__":=by decide) (hd:(x == ("__debug__":Str))=false:=by decide):wpAny (model X.prog X.w) X.A (eval (.Name x pos) X.env) Q E s:=by
 obtain⟨mb,h1,h2⟩:=I.mod.blt;exact Calls.Name_function_global I.ok.kind hg (Calls.loadGlobal_builtin (by rw[I.ok.glob];exact I.mod.glob.keeps I.bk) hm (by rw[I.ok.blt];exact h1.keeps I.bk) ((h2 x hn).trans hv) h) hd
theorem pi{x:Str}{v:V}{u:Value}{pos:Pos}(hg:Gl X x)(hm:X.mg x=some u)(r:RelV v u)(hd:(x == ("__debug__":Str))=false:=by decide):PE X (.Name x pos) (tC v) :=
 fun _ _ _ H _ I h=>v9 I hg hm ⟨v,H,I,r,h⟩ hd
theorem dq{x:Str}{v:V}{u:Value}{pos:Pos}(hg:Gl X x)(hm:X.mg x=none)(hv:bootBuiltins x=some u)(r:RelV v u)(hn:x≠"__name__":=by decide)(hd:(x == ("__debug__":Str))=false:=by decide):PE X (.Name x pos) (tC v) :=
 fun _ _ _ H _ I h=>iE I hg hm hv ⟨v,H,I,r,h⟩ hn hd
variable{a b:Expr}{ta tb:TE}{pos:Pos}
noncomputable def PC(X:Cx)(op:CmpOp)(a b:Expr)(t:TE):Prop :=
 ∀ (pins:List (Addr×Obj)) (s:Shared) (Z:St) (H:Hp) (Q:VK),Inv X pins Z H s->t Z H Q ->
  wpAny (model X.prog X.w) X.A (eval a X.env) (fun v s₁=>wpAny (model X.prog X.w) X.A (eval b X.env) (fun u s₂=>wpAny (model X.prog X.w) X.A (compareOp op v u) (EP X pins Z Q) X.xe s₂) X.xe s₁) X.xe s
theorem Znx(b:Expr){op:CmpOp}(h:op≠.In)(h2:op≠.NotIn):behindInMarks op b=false:=by
 have e1:(op == CmpOp.In)=false:=by cases op <;> first|rfl|exact absurd rfl h
 have e2:(op == CmpOp.NotIn)=false:=by cases op <;> first|rfl|exact absurd rfl h2
 cases b <;> simp[behindInMarks,e1,e2]
def tB(t:TE):TT:=fun Z H Q=>t Z H fun x H1=>∃ c,x=.bl c/\Q c H1
theorem q9{op:CmpOp}{t:TE}(h:PC X op a b t)(h1:behindInMarks op b=false:=by first|exact Znx _ (by decide) (by decide)|rfl):PT X (.Compare a [op] [b] pos) (tB t):=by
 intro pins s Z H Q I hw;refine wpAny_isTrue_Compare1 (thn (h pins s Z H _ I hw) fun v s1 h1=>thn h1 fun u s2 h2=>thn h2 fun c s3 ⟨x,H1,I1,r1,q1⟩=>?_) h1;obtain⟨d,rfl,q⟩:=q1;cases r1;exact fP ⟨H1,I1,q⟩
theorem cy{e:Expr}{t:TE}(h:PE X e t)(he:∀ whole,isTrue e X.env whole=(do let v <- whole;standAt e.pos;holding [v] (truthy v)):=by intro _;rfl):PT X e (tB t):=by
 intro pins s Z H Q I hw;refine isTrue_plain (thn (h pins s Z H _ I hw) fun v s1 ⟨x,H1,I1,r1,q1⟩=>?_) (he _);obtain⟨d,rfl,q⟩:=q1;cases r1;exact fP ⟨H1,I1,q⟩
variable{tA tB':TT}{rest:List Expr}
def tAnd(t u:TT):TT:=fun Z H Q=>t Z H fun c H1=>if c=true then u Z H1 Q else Q false H1
def tOr(t u:TT):TT:=fun Z H Q=>t Z H fun c H1=>if c=true then Q true H1 else u Z H1 Q
def tNot(t:TT):TT:=fun Z H Q=>t Z H fun c H1=>Q (!c) H1
theorem cC(ha:PT X a tA):PW X (.BoolOp .And [a] pos) tA:=by
 intro wh pins s Z H Q I h;refine isTrue_and (thn (ha pins s Z H Q I h) fun c s1 e=>?_);cases c with
 | true=>exact isTrue_and_nil e
 | false=>exact e
theorem gh(ha:PT X a tA):PW X (.BoolOp .Or [a] pos) tA:=by
 intro wh pins s Z H Q I h;refine isTrue_or (thn (ha pins s Z H Q I h) fun c s1 e=>?_);cases c with
 | false=>exact isTrue_or_nil e
 | true=>exact e
theorem bT(ha:PT X a tA)(hb:PW X (.BoolOp .And (b::rest) pos) tB'):PW X (.BoolOp .And (a::b::rest) pos) (tAnd tA tB'):=by
 intro wh pins s Z H Q I h;refine isTrue_and (thn (ha pins s Z H _ I h) fun c s1 ⟨H1,I1,q1⟩=>?_);cases c with
 | true=>exact hb wh pins s1 Z H1 Q I1 q1
 | false=>exact⟨H1,I1,q1⟩
theorem fe(ha:PT X a tA)(hb:PW X (.BoolOp .Or (b::rest) pos) tB'):PW X (.BoolOp .Or (a::b::rest) pos) (tOr tA tB'):=by
 intro wh pins s Z H Q I h;refine isTrue_or (thn (ha pins s Z H _ I h) fun c s1 ⟨H1,I1,q1⟩=>?_);cases c with
 | true=>exact⟨H1,I1,q1⟩
 | false=>exact hb wh pins s1 Z H1 Q I1 q1
theorem dj(ha:PT X a tA):PT X (.UnaryOp .Not a pos) (tNot tA):=by
 intro pins s Z H Q I h;exact isTrue_not (ha pins s Z H (fun c H1=>Q (!c) H1) I h)
def tAndV(ta tb:TE):TE:=fun Z H Q=>ta Z H fun x H1=>∃ c,x=.bl c/\if c=true then tb Z H1 Q else Q (.bl false) H1
def tOrV(ta tb:TE):TE:=fun Z H Q=>ta Z H fun x H1=>∃ c,x=.bl c/\if c=true then Q (.bl true) H1 else tb Z H1 Q
def tNotV(ta:TE):TE:=fun Z H Q=>ta Z H fun x H1=>∃ c,x=.bl c/\Q (.bl (!c)) H1
theorem iQ{op}{t:TE}(h:PE X a t):PE X (.BoolOp op [a] pos) t:=fun pins s Z H Q I hw=>BoolOp_one (h pins s Z H Q I hw)
theorem ju(ha:PE X a ta)(hb:PE X (.BoolOp .And (b::rest) pos) tb):PE X (.BoolOp .And (a::b::rest) pos) (tAndV ta tb):=by
 intro pins s Z H Q I h;refine BoolOp_and (thn (ha pins s Z H _ I h) fun v s1 ⟨x,H1,I1,r1,q1⟩=>?_);obtain⟨c,rfl,q1⟩:=q1;cases r1;refine fP ?_;cases c with
 | true=>exact hb pins s1 Z H1 Q I1 q1
 | false=>exact⟨.bl false,H1,I1,rfl,q1⟩
theorem pe_or(ha:PE X a ta)(hb:PE X (.BoolOp .Or (b::rest) pos) tb):PE X (.BoolOp .Or (a::b::rest) pos) (tOrV ta tb):=by
 intro pins s Z H Q I h;refine BoolOp_or (thn (ha pins s Z H _ I h) fun v s1 ⟨x,H1,I1,r1,q1⟩=>?_);obtain⟨c,rfl,q1⟩:=q1;cases r1;refine fP ?_;cases c with
 | false=>exact hb pins s1 Z H1 Q I1 q1
 | true=>exact⟨.bl true,H1,I1,rfl,q1⟩
theorem pe_not(ha:PE X a ta):PE X (.UnaryOp .Not a pos) (tNotV ta):=by
 intro pins s Z H Q I h;refine UnaryOp_ (thn (ha pins s Z H _ I h) fun v s1 ⟨x,H1,I1,r1,q1⟩=>?_);obtain⟨c,rfl,q1⟩:=q1;cases r1;exact not_of (fP ⟨.bl (!c),H1,I1,rfl,q1⟩)
def tIf(t:TT)(ta tb:TE):TE:=fun Z H Q=>t Z H fun c H1=>if c=true then ta Z H1 Q else tb Z H1 Q
theorem gG{c:Expr}(hc:PT X c tA)(ha:PE X a ta)(hb:PE X b tb):PE X (.IfExp c a b pos) (tIf tA ta tb):=by
 intro pins s Z H Q I h;refine wpAny_IfExp (thn (hc pins s Z H _ I h) fun d s1 ⟨H1,I1,q1⟩=>?_);cases d with
 | true=>exact ha pins s1 Z H1 Q I1 q1
 | false=>exact hb pins s1 Z H1 Q I1 q1
end
end L2
namespace L2
open PySem PySem.Spec PyProof.Rows
noncomputable def SqL(K:W.Frag)(H:Hp)(a:Addr)(xs:List V):Prop :=
 Rd H a (.lst xs) \/
  ∃ (o:Obj) (its:Array Value) (n:Nat),K.lookup a=some o/\o.cls=.type "list"/\o.dict=none/\o.data=.seq its n/\its.size<=sizeLine/\Vals xs its.toList
noncomputable def SqT(K:W.Frag)(H:Hp)(a:Addr)(xs:List V):Prop :=
 Rd H a (.tup xs) \/
  ∃ (o:Obj) (its:Array Value) (n:Nat),K.lookup a=some o/\o.cls=.type "tuple"/\o.data=.seq its n/\its.size<=sizeLine/\Vals xs its.toList
noncomputable def absV:Value->Option V
 | .none=>some .non
 | .bool b=>some (.bl b)
 | .int i _=>some (.int i)
 | .str x _=>some (.str x)
 | .bytes b _=>some (.byt b)
 | .float b _=>some (.flt b)
 | .ref a=>some (.ref a)
 | .type n=>some (.ty n)
 | _=>none
theorem RelV.abs{x:V}{u:Value}(r:RelV x u):absV u=some x:=by
 cases x with
 | non=>cases r;rfl
 | bl _=>cases r;rfl
 | int _=>obtain⟨t,rfl⟩:=r;rfl
 | str _=>obtain⟨t,rfl⟩:=r;rfl
 | byt _=>obtain⟨t,rfl⟩:=r;rfl
 | flt _=>obtain⟨t,rfl⟩:=r;rfl
 | ref _=>cases r;rfl
 | ty _=>cases r;rfl
theorem RelV.inj{x y:V}{u:Value}(r:RelV x u)(q:RelV y u):x=y:=Option.some.inj (r.abs.symm.trans q.abs)
theorem Vals.inj{xs ys:List V}{us:List Value}(h:Vals xs us)(h':Vals ys us):xs=ys:=by
 induction h generalizing ys with
 | nil=>cases h';rfl
 | cons r _ ih =>
  cases h' with
  | cons r' t'=>rw[r.inj r',ih t']
section
variable{X:Cx}{pins:List (Addr×Obj)}{Z:St}{H:Hp}{s:Shared}{a:Addr}{xs ys:List V}
theorem SqL.of{K:W.Frag}(h:H a=some (.lst xs)):SqL K H a xs:=.inl (.inl h)
theorem SqT.of{K:W.Frag}(h:H a=some (.tup xs)):SqT K H a xs:=.inl (.inl h)
theorem Inv.list(I:Inv X pins Z H s)(h:SqL X.K H a xs):∃ its:List Value,Vals xs its/\PlainL s.heap a its.toArray/\xs.length<=sizeLine:=by
 rcases h with h|⟨o,its,n,hk,hc,hd,hs,hz,r⟩
 .obtain ⟨z,its,n,r,e⟩:=h.ok I.hok;exact⟨its,r,⟨_,n,e,rfl,rfl,rfl⟩,z⟩
 .refine ⟨its.toList,r,⟨o,n,I.kIn a o hk,hc,hd,by simpa using hs⟩,?_⟩;have e:=r.length;simp only[ft] at e;lia
theorem Inv.tuple(I:Inv X pins Z H s)(h:SqT X.K H a xs):∃ its:List Value,Vals xs its/\IsTup s.heap a its.toArray/\xs.length<=sizeLine:=by
 rcases h with h|⟨o,its,n,hk,hc,hs,hz,r⟩
 .obtain ⟨z,its,r,p⟩:=h.ok I.hok;exact⟨its,r,p,z⟩
 .refine ⟨its.toList,r,⟨o,I.kIn a o hk,hc,n,by simpa using hs⟩,?_⟩;have e:=r.length;simp only[ft] at e;lia
theorem Inv.list_inj(I:Inv X pins Z H s)(h:SqL X.K H a xs)(h':SqL X.K H a ys):xs=ys:=by
 obtain⟨its,r,⟨o,n,e,_,_,d⟩,_⟩:=I.list h;obtain⟨its',r',⟨o',n',e',_,_,d'⟩,_⟩:=I.list h';rw[e] at e';cases e';rw[d] at d';injection d' with d1 _
 have:its=its':=by simpa using congrArg Array.toList d1
 subst this;exact r.inj r'
theorem Inv.tuple_inj(I:Inv X pins Z H s)(h:SqT X.K H a xs)(h':SqT X.K H a ys):xs=ys:=by
 obtain⟨its,r,⟨o,e,_,n,d⟩,_⟩:=I.tuple h;obtain⟨its',r',⟨o',e',_,n',d'⟩,_⟩:=I.tuple h';rw[e] at e';cases e';rw[d] at d';injection d' with d1 _
 have:its=its':=by simpa using congrArg Array.toList d1
 subst this;exact r.inj r'
end
noncomputable abbrev Cx.wish(X:Cx)(E:Value->Shared->Prop):Cx:={ X with xe:=E }
noncomputable abbrev Cx.nox(X:Cx):Cx:=X.wish fun _ _=>False
theorem Cx.Ok.wish{X:Cx}(ok:X.Ok)(E:Value->Shared->Prop):(X.wish E).Ok :=
 ⟨ok.mod,ok.kind,ok.glob,ok.blt,ok.above,ok.inj,ok.has,ok.cab,ok.hd,ok.frames,ok.stk,ok.exf,ok.bs,ok.bsz,ok.noex,ok.exfs,ok.funs,ok.frf⟩
theorem Cx.Ok.unwish{X:Cx}{E:Value->Shared->Prop}(ok:(X.wish E).Ok):X.Ok :=
 ⟨ok.mod,ok.kind,ok.glob,ok.blt,ok.above,ok.inj,ok.has,ok.cab,ok.hd,ok.frames,ok.stk,ok.exf,ok.bs,ok.bsz,ok.noex,ok.exfs,ok.funs,ok.frf⟩
section
variable{X:Cx}{pins:List (Addr×Obj)}{Z:St}{H:Hp}{s:Shared}{E:Value->Shared->Prop}
theorem Inv.wish(I:Inv X pins Z H s)(E:Value->Shared->Prop):Inv (X.wish E) pins Z H s:=⟨I.ok.wish E,I.os,I.bare,I.base,I.loc,I.cell,I.free,I.freeC,I.pin,I.hok,I.len⟩
theorem Inv.unwish(I:Inv (X.wish E) pins Z H s):Inv X pins Z H s:=⟨I.ok.unwish,I.os,I.bare,I.base,I.loc,I.cell,I.free,I.freeC,I.pin,I.hok,I.len⟩
theorem SP.unwish{D:Ends}{f:Flow}{s':Shared}(h:SP (X.wish E) pins D f s'):SP X pins D f s':=by
 cases f with
 | next=>obtain⟨σ',H',I,q⟩:=h;exact⟨σ',H',I.unwish,q⟩
 | brk=>obtain⟨σ',H',I,q⟩:=h;exact⟨σ',H',I.unwish,q⟩
 | cont=>obtain⟨σ',H',I,q⟩:=h;exact⟨σ',H',I.unwish,q⟩
 | ret u=>obtain⟨v,σ',H',I,r,q⟩:=h;exact⟨v,σ',H',I.unwish,r,q⟩
theorem PSs.nox{st:List Stmt}{t:TS}(h:PSs X.nox st t):PSs X st t:=fun pins s Z H D I hw =>
 dw (h pins s Z H D (I.wish _) hw) (fun _ _ q=>q.unwish) fun _ _ z=>False.elim z
end
section
variable{X:Cx}{st:Stmt}{rest:List Stmt}{t u:TS}{e:Expr}{te:TE}{pos:Pos}
def rE:TS:=fun D Z H=>D.nx Z H
def tSeq(t u:TS):TS:=fun D Z H=>t { D with nx:=u D } Z H
theorem aQ:PSs X [] rE:=fun _ _ Z H _ I h=>m9 ⟨Z,H,I,h⟩
theorem ag(h1:PS X st t)(h2:PSs X rest u):PSs X (st::rest) (tSeq t u):=by
 intro pins s Z H D I h;refine wpAny_execs_cons (thn (h1 pins s Z H { D with nx:=u D } I h) fun f s1 q=>?_);cases f with
 | next =>
  obtain⟨σ',H',I',q⟩:=q;exact h2 pins s1 σ' H' D I' q
 | ret v=>exact q
 | brk=>exact q
 | cont=>exact q
theorem ai(h1:PS X st t):PSs X [st] t:=by
 intro pins s Z H D I h;refine wpAny_execs_cons (thn (h1 pins s Z H D I h) fun f s1 q=>?_);cases f with
 | next=>exact m9 q
 | ret v=>exact q
 | brk=>exact q
 | cont=>exact q
theorem Inv.quiet{pins:List (Addr×Obj)}{Z:St}{H:Hp}{s:Shared}(I:Inv X pins Z H s):interactive X.env=false:=by simp[interactive,I.ok.kind]
def tDrop(te:TE):TS:=fun D Z H=>te Z H fun _ H1=>D.nx Z H1
theorem eI(he:PE X e te)(hs:swapsWith e none pos.line X.env=pure false:=by rfl):PS X (.Expr e pos) (tDrop te):=by
 intro pins s Z H D I h;exact wpAny_Expr_any (thn (he pins s Z H _ I h) fun v s1 ⟨x,H1,I1,r1,q1⟩=>⟨Z,H1,I1,q1⟩) I.quiet hs
def tRet(te:TE):TS:=fun D Z H=>te Z H D.rt
theorem aq(he:PE X e te):PS X (.Return (some e) pos) (tRet te):=by
 intro pins s Z H D I h;exact wpAny_Return_some (thn (he pins s Z H _ I h) fun v s1 ⟨x,H1,I1,r1,q1⟩=>⟨x,Z,H1,I1,r1,q1⟩)
def tIfS(c:TT)(t u:TS):TS:=fun D Z H=>c Z H fun b H1=>if b=true then t D Z H1 else u D Z H1
theorem aK{c:Expr}{a b:List Stmt}{tc:TT}(hc:PT X c tc)(ha:PSs X a t)(hb:PSs X b u):PS X (.If c a b pos) (tIfS tc t u):=by
 intro pins s Z H D I h;refine wpAny_If (thn (hc pins s Z H _ I h) fun d s1 ⟨H1,I1,q1⟩=>?_);cases d with
 | true=>exact ha pins s1 Z H1 D I1 q1
 | false=>exact hb pins s1 Z H1 D I1 q1
end
noncomputable abbrev TG:=V->St->Hp->(St->Hp->Prop)->Prop
noncomputable abbrev TGs:=List V->St->Hp->(St->Hp->Prop)->Prop
noncomputable def PG(X:Cx)(target:Expr)(t:TG):Prop :=
 ∀ (pins:List (Addr×Obj)) (s:Shared) (Z:St) (H:Hp) (v:V) (u:Value) (Q:St->Hp->Prop),Inv X pins Z H s->RelV v u->t v Z H Q ->
  wpAny (model X.prog X.w) X.A (assign target X.env u) (fun _ s'=>∃ σ' H',Inv X pins σ' H' s'/\Q σ' H') X.xe s
noncomputable def PGs(X:Cx)(ts:List Expr)(t:TGs):Prop :=
 ∀ (pins:List (Addr×Obj)) (s:Shared) (Z:St) (H:Hp) (vs:List V) (us:List Value) (Q:St->Hp->Prop),Inv X pins Z H s->Vals vs us->t vs Z H Q ->
  wpAny (model X.prog X.w) X.A (assignInOrder ((assignEach ts X.env).map (·.2)) us) (fun _ s'=>∃ σ' H',Inv X pins σ' H' s'/\Q σ' H') X.xe s
noncomputable abbrev TSet:=V->V->V->Hp->(Hp->Prop)->Prop
noncomputable def PSet(X:Cx)(t:TSet):Prop :=
 ∀ (pins:List (Addr×Obj)) (s:Shared) (Z:St) (H:Hp) (o i v:V) (ov iv u:Value) (Q:Hp->Prop),Inv X pins Z H s->RelV o ov->RelV i iv->RelV v u->t o i v H Q ->
  wpAny (model X.prog X.w) X.A (setItem ov iv u) (fun _ s'=>∃ H',Inv X pins Z H' s'/\Q H') X.xe s
section
variable{X:Cx}{pos:Pos}
def eK(i:Nat):TG:=fun v Z H Q=>Q (Z.set i (some v)) H
theorem iM{i:Nat}{x:Str}(hN:X.N.Nodup)(hi:X.N[i]?=some x)(hx:Loc X.env.scope x)(hf:X.fn x=true\/X.env.scope.names.lookup x=some .local:=by first|exact .inl rfl|exact .inr rfl|assumption):PG X (.Name x pos) (eK i):=by
 intro pins s Z H v u Q I r h;exact wpAny_assign_Name (xY I hN hi hx r (fun s' I'=>⟨_,H,I',h⟩) hf)
def gNil:TGs:=fun vs Z H Q=>vs=[]/\Q Z H
def gCons(t:TG)(u:TGs):TGs:=fun vs Z H Q=>∃ v r,vs=v::r/\t v Z H fun σ' H'=>u r σ' H' Q
theorem bY:PGs X [] gNil:=by
 intro pins s Z H vs us Q I r h;obtain⟨e,h⟩:=h;subst e;cases r;exact assignInOrder_nil ⟨Z,H,I,h⟩
theorem aP{e:Expr}{es:List Expr}{t:TG}{u:TGs}(h1:PG X e t)(h2:PGs X es u)
  (hs:(assignEach (e::es) X.env).map (·.2)=assign e X.env::(assignEach es X.env).map (·.2):=by rfl):PGs X (e::es) (gCons t u):=by
 intro pins s Z H vs us Q I r h;obtain⟨v,vr,e1,h⟩:=h;subst e1;cases r with
 | cons r rr =>
  rw[hs];refine assignInOrder_cons (thn (h1 pins s Z H _ _ _ I r h) fun _ s1 ⟨σ1,H1,I1,q1⟩=>?_);exact h2 pins s1 σ1 H1 _ _ Q I1 rr q1
def gTup(K:W.Frag)(n:Nat)(t:TGs):TG:=fun v Z H Q=>∃ a xs,v=.ref a/\SqT K H a xs/\xs.length=n/\t xs Z H Q
theorem pg_tup{es:List Expr}{k:Nat}{t:TGs}{n:Nat}(hc:X.calm=true)(h:PGs X es t)
  (hn:(assignEach es X.env).length=n:=by rfl) (hst:(assignEach es X.env).findIdx? (·.1)=none:=by rfl):PG X (.Tuple es k pos) (gTup X.K n t):=by
 intro pins s Z H v u Q I r hw;obtain⟨a,xs,e1,hq,hl,hw⟩:=hw;subst e1;cases r;obtain⟨its,rv,ht,hz⟩:=I.tuple hq;refine assign_Tuple_tuple (I.ok.hd hc) ht (by simp[hn,<- hl,rv.length]) hst fun h' hx=>?_;have I1:Inv X pins Z H { s with heap:=h' }:=I.kept (t':=s.toks) fun b o e=>hx b o (bP (ba e)) e;exact h pins _ Z H xs _ Q I1 (by simpa using rv) hw
def gSub(to ti:TE)(t:TSet):TG:=fun v Z H Q=>to Z H fun o H1=>ti Z H1 fun i H2=>t o i v H2 fun H3=>Q Z H3
theorem cH{o i:Expr}{to ti:TE}{t:TSet}(ho:PE X o to)(hi:PE X i ti)(hs:PSet X t)
  (ha:∀ v,assign (.Subscript o i pos) X.env v=(do
   let ov <- holding [v] (eval o X.env)
   let iv <- holding [v,ov] (eval i X.env)
   standAt pos
   holding [v,ov,iv] (setItem ov iv v)
   release [v,ov,iv] []):=by intro _;rfl):PG X (.Subscript o i pos) (gSub to ti t):=by
 intro pins s Z H v u Q I r h;rw[ha];refine ab (eL (thn (ho pins s Z H _ I h) fun ov s1 z0_=>?_));obtain⟨x,H1,I1,r1,q1⟩:=z0_;refine ab (eL (thn (hi pins s1 Z H1 _ I1 q1) fun iv s2 z1_=>?_));obtain⟨y,H2,I2,r2,q2⟩:=z1_;refine ab (nc (ab (eL (thn (hs pins s2 Z H2 x y v ov iv u _ I2 r1 r2 r q2) fun _ s3 z2_=>?_))));obtain⟨H3,I3,q3⟩:=z2_;exact wpAny_release ⟨Z,H3,I3,q3⟩
def tAsg(te:TE)(g:TG):TS:=fun D Z H=>te Z H fun x H1=>g x Z H1 D.nx
theorem bV{tg e:Expr}{te:TE}{g:TG}(he:PE X e te)(hg:PG X tg g)(hs:swapsWithSole [tg] e pos.line X.env=pure false:=by rfl)(hw:swappedStores [tg] e X.env=pure none:=by rfl)
  (h1:(assignEach [tg] X.env).map (·.2)=[assign tg X.env]:=by rfl):PS X (.Assign [tg] e pos) (tAsg te g):=by
 intro pins s Z H D I h;refine wpAny_Assign_stores (thn (he pins s Z H _ I h) fun v s1 ⟨x,H1,I1,r1,q1⟩=>?_) hs hw;rw[h1];exact thn (hg pins s1 Z H1 x v _ I1 r1 q1) fun _ s2 q=>q
theorem cO{i:Nat}{x:Str}{e:Expr}{te:TE}{pos':Pos}(hN:X.N.Nodup)(hi:X.N[i]?=some x)(hx:Loc X.env.scope x)(he:PE X e te)(hs:swapsWith e (some (.Name x pos')) pos.line X.env=pure false:=by rfl)(hf:X.fn x=true\/X.env.scope.names.lookup x=some .local:=by first|exact .inl rfl|exact .inr rfl|assumption) :
  PS X (.Assign [.Name x pos'] e pos) (tAsg te (eK i)):=by
 intro pins s Z H D I h;refine wpAny_Assign_Name (thn (he pins s Z H _ I h) fun v s1 ⟨y,H1,I1,r1,q1⟩=>?_) hs;exact xY I1 hN hi hx r1 (fun s2 I2=>⟨_,H1,I2,q1⟩) hf
end
section
variable{X:Cx}{pos:Pos}
def yc(c:TT)(tb:TS):TS:=fun D Z H=>∃ W:Nat->St->Hp->Prop,(∃ m,W m Z H)/\∀ m Z H,W m Z H ->
 c Z H fun b H1=>if b=true then ∃ N:St->Hp->Prop,(∀ σ' H',N σ' H'->∃ m',m'<m/\W m' σ' H')/\tb { D with nx:=N,ct:=N,bk:=D.nx } Z H1 else D.nx Z H1
theorem uS{c:Expr}{body:List Stmt}{tc:TT}{tb:TS}(hp:PassesOwn (model X.prog X.w) X.A X.env X.xe)(hc:PT X c tc)(hb:PSs X body tb):PS X (.While c body [] pos) (yc tc tb):=by
 intro pins s Z H D I h;obtain⟨W,⟨m0,w0⟩,turn⟩:=h;refine wpAny_While (codeAny_whileLoop (fun n s'=>∃ σ' H',Inv X pins σ' H' s'/\W n σ' H') ?_ m0 ⟨Z,H,I,w0⟩);rintro n s1 ⟨σ1,H1,I1,w1⟩;refine iW hp (thn (hc pins s1 σ1 H1 _ I1 (turn n σ1 H1 w1)) fun b s2 ⟨H2,I2,q2⟩=>?_);cases b with
 | true =>
  obtain⟨N,hN,q2⟩:=q2;rw[ak rfl];refine iW hp (thn (hb pins s2 σ1 H2 _ I2 q2) fun f s3 q3=>?_);cases f with
  | next =>
   obtain⟨σ3,H3,I3,n3⟩:=q3;obtain⟨m',hm,w3⟩:=hN σ3 H3 n3;exact⟨m',hm,σ3,H3,I3,w3⟩
  | cont =>
   obtain⟨σ3,H3,I3,n3⟩:=q3;obtain⟨m',hm,w3⟩:=hN σ3 H3 n3;exact⟨m',hm,σ3,H3,I3,w3⟩
  | brk=>exact q3
  | ret v=>exact q3
 | false =>
  rw[ao bF];exact m9 ⟨σ1,H2,I2,q2⟩
end
structure It where
 go:Nat->Hp->Prop
 yld:Nat->Hp->V->Hp->Prop
 stop:Nat->Hp->Prop
noncomputable def FpOk(X:Cx)(pins:List (Addr×Obj))(H:Hp)(b:Addr):Prop :=
 H b=none/\b≠X.env.locals/\b∉X.fs/\(b∈X.ex\/X.s₀.heap.objs.size<=b)/\(∀ x c,X.env.cells.lookup x=some c->c≠b)/\∀ p∈X.pn++pins,p.1≠b
theorem Inv.fpOk{X:Cx}{pins:List (Addr×Obj)}{Z:St}{H H':Hp}{s:Shared}{b:Addr}(I:Inv X pins Z H s)(hb:s.heap.objs.size<=b)(hn:H' b=none):FpOk X pins H' b:=by
 refine⟨hn,eX (cZ I.lt hb),I.nofs hb,.inr (bh I.sz hb),fun x c e z=>?_,fun p hp z=>?_⟩
 .obtain ⟨v,q⟩:=I.cell x c e;exact absurd (cZ q.lt (by rw[z];exact hb)) (gq _)
 .exact absurd (cZ (ba (I.pin p hp).1) (by rw[z];exact hb)) (gq _)
structure Turn(P:Program)(w:World)(K:W.Frag)(tg:Expr)(J:It)(fp:List Addr)(it:Addr)(tn:Nat->Heap->Prop):Prop where
 mem:it∈fp
 obj:∀ i h,tn i h->∀ b∈fp,∃ o,h.get? b=some o/\∀ v,o.data≠.cell v
 keep:∀ i h h',tn i h->(∀ b∈fp,∀ o,h.get? b=some o->h'.get? b=some o)->tn i h'
 item:∀ (X:Cx),X.prog=P->X.w=w->X.K=K->X.calm=true->∀ (i:Nat) (pins:List (Addr×Obj)) (s:Shared) (Z:St) (H:Hp) (E:Value->Shared->Prop),Inv X pins Z H s->(∀ b∈fp,FpOk X pins H b)->tn i s.heap->J.go i H ->
  wpAny (model P w) X.A (pyNext (.ref it)) (fun r s1=>∃ u,r=some u /\
   wpAny (model P w) X.A (letOwnedTupleGo tg (.ref it) u) (fun _ s2=>∃ x H',Inv X pins Z H' s2/\RelV x u/\J.yld i H x H'/\tn (i+1) s2.heap/\∀ b∈fp,H' b=none) E s1) E s
 done:∀ (X:Cx),X.prog=P->X.w=w->X.K=K->X.calm=true->∀ (i:Nat) (pins:List (Addr×Obj)) (s:Shared) (Z:St) (H:Hp) (E:Value->Shared->Prop),Inv X pins Z H s->(∀ b∈fp,FpOk X pins H b)->tn i s.heap->J.stop i H ->
  wpAny (model P w) X.A (pyNext (.ref it)) (fun r s1=>r=none/\Inv X pins Z H s1) E s
 self:∀ (A:Around) (i:Nat) (s:Shared) (Q:Value->Shared->Prop) (E:Value->Shared->Prop),tn i s.heap->Q (.ref it) s->wpAny (model P w) A (pyIter (.ref it)) Q E s
noncomputable abbrev TI:=St->Hp->(It->Hp->Prop)->Prop
noncomputable def PIE(X:Cx)(pins:List (Addr×Obj))(Z:St)(tg:Expr)(R:It->Hp->Prop)(itv:Value)(s2:Shared):Prop :=
 ∃ (it:Addr) (fp:List Addr) (tn:Nat->Heap->Prop) (J:It) (H':Hp),itv=.ref it/\Inv X pins Z H' s2/\Turn X.prog X.w X.K tg J fp it tn/\tn 0 s2.heap/\(∀ b∈fp,FpOk X pins H' b)/\R J H'
noncomputable def PI(X:Cx)(tg iter:Expr)(wi:TI):Prop :=
 ∀ (pins:List (Addr×Obj)) (s:Shared) (Z:St) (H:Hp) (R:It->Hp->Prop),Inv X pins Z H s->wi Z H R ->
  wpAny (model X.prog X.w) X.A (eval iter X.env) (fun v s1=>wpAny (model X.prog X.w) X.A (pyIter v) (PIE X pins Z tg R) X.xe s1) X.xe s
theorem mi{M : Model}{A : Around}{E : Value->Shared->Prop}{s : Shared}{tg : Expr}{it : Addr}{u : Value}{o : Obj}{n : String}{vs : Array Value}{Q : Unit->Shared->Prop}(ho : s.heap.get? it=some o)(hc : o.cls=.type n)(hd : o.data=.fields vs)
    (hn : ["enumerate", "zip", "dict_itemiterator", "dict_reverseitemiterator", "odict_iterator", "itertools.zip_longest", "itertools.pairwise"].contains n=false) (hQ : Q () s) : wpAny M A (letOwnedTupleGo tg (.ref it) u) Q E s:=by
  unfold letOwnedTupleGo;cases tg <;> first
    | exact am hQ
    | (cases u <;> first
        | exact am hQ
        | (refine ab (wpAny_load ho ?_)
           rw[hc,hd];show wpAny M A (if (["enumerate","zip","dict_itemiterator","dict_reverseitemiterator","odict_iterator","itertools.zip_longest","itertools.pairwise"].contains n&&vs[0]? == some (rawInt _))=true then _ else _) Q E s;rw[ao (by intro h;rw[hn,Bool.false_and] at h;cases h)];exact am hQ))
noncomputable def Itl(K:W.Frag)(a:Addr):It :=
 ⟨fun i H=>∃ xs x,SqL K H a xs/\xs[i]?=some x,fun i H x H'=>H'=H/\∀ xs,SqL K H a xs->xs[i]?=some x,fun i H=>∃ xs,SqL K H a xs/\xs.length<=i⟩
noncomputable def Itt(K:W.Frag)(a:Addr):It :=
 ⟨fun i H=>∃ xs x,SqT K H a xs/\xs[i]?=some x,fun i H x H'=>H'=H/\∀ xs,SqT K H a xs->xs[i]?=some x,fun i H=>∃ xs,SqT K H a xs/\xs.length<=i⟩
noncomputable def Itr(lo:Int)(n:Nat):It:=⟨fun i _=>i<n,fun i H x H'=>H'=H/\x=.int (lo+i),fun i _=>n<=i⟩
theorem ZkR{P:Program}{w:World}{K:W.Frag}{tg:Expr}(a it:Addr):Turn P w K tg (Itl K a) [it] it (fun i h=>h.IsListIter it a i) where
 mem:=by simp
 obj:=fun i h st b hb=>by
  have e:b=it:=by simpa using hb
  subst e;obtain⟨o,e,c,d⟩:=st;exact⟨o,e,fun v z=>by rw[d] at z;cases z⟩
 keep:=fun i h h' st k=>st.at fun o e=>k it (by simp) o e
 item:=by
  intro X hP hw hK hc i pins s Z H E I hf st hg;subst hP hw hK;obtain⟨xs,x,hq,hx⟩:=hg;obtain⟨its,rv,p,hz⟩:=I.list hq;obtain⟨u,hu,ru⟩:=rv.get hx;obtain⟨f0,f1,f2,f3,f4,f5⟩:=hf it (by simp);refine wpAny_pyNext_list_item st p.isList (x:=u) (by simpa using hu) fun h' st' sb=>?_;have I1:Inv X pins Z H { s with heap:=h' }:=I.turned (t':=s.toks) (fun b o hb e=>(sb.2 b hb).trans e) f0 f1 f3 f4 f5;obtain⟨o,e,c,d⟩:=id st';exact⟨u,rfl,mi (s:={ s with heap:=h' }) e c d (by decide) ⟨x,H,I1,ru,⟨rfl,fun ys hy=>by rw[I.list_inj hy hq];exact hx⟩,st',fun b hb=>(hf b hb).1⟩⟩
 done:=by
  intro X hP hw hK hc i pins s Z H E I hf st hg;subst hP hw hK;obtain⟨xs,hq,hx⟩:=hg;obtain⟨its,rv,p,hz⟩:=I.list hq;obtain⟨f0,f1,f2,f3,f4,f5⟩:=hf it (by simp);have hl:=rv.length;exact wpAny_pyNext_list_end (I.ok.hd hc) st p.isList (by simp;lia) fun h' eb=>⟨rfl,I.turned (t':=s.toks) (fun b o hb e=>eb b o hb e) f0 f1 f3 f4 f5⟩
 self:=fun _ _ _ _ _ st h=>wpAny_pyIter_listiter st h
theorem ZjL{P:Program}{w:World}{K:W.Frag}{tg:Expr}(a it:Addr):Turn P w K tg (Itt K a) [it] it (fun i h=>h.IsTupleIter it a i) where
 mem:=by simp
 obj:=fun i h st b hb=>by
  have e:b=it:=by simpa using hb
  subst e;obtain⟨o,e,c,d⟩:=st;exact⟨o,e,fun v z=>by rw[d] at z;cases z⟩
 keep:=fun i h h' st k=>st.at fun o e=>k it (by simp) o e
 item:=by
  intro X hP hw hK hc i pins s Z H E I hf st hg;subst hP hw hK;obtain⟨xs,x,hq,hx⟩:=hg;obtain⟨its,rv,p,hz⟩:=I.tuple hq;obtain⟨u,hu,ru⟩:=rv.get hx;obtain⟨f0,f1,f2,f3,f4,f5⟩:=hf it (by simp);refine wpAny_pyNext_tuple_item st (show s.heap.IsTuple a its.toArray from p) (x:=u) (by simpa using hu) fun h' st' sb=>?_;have I1:Inv X pins Z H { s with heap:=h' }:=I.turned (t':=s.toks) (fun b o hb e=>(sb.2 b hb).trans e) f0 f1 f3 f4 f5;obtain⟨o,e,c,d⟩:=id st';exact⟨u,rfl,mi (s:={ s with heap:=h' }) e c d (by decide) ⟨x,H,I1,ru,⟨rfl,fun ys hy=>by rw[I.tuple_inj hy hq];exact hx⟩,st',fun b hb=>(hf b hb).1⟩⟩
 done:=by
  intro X hP hw hK hc i pins s Z H E I hf st hg;subst hP hw hK;obtain⟨xs,hq,hx⟩:=hg;obtain⟨its,rv,p,hz⟩:=I.tuple hq;obtain⟨f0,f1,f2,f3,f4,f5⟩:=hf it (by simp);have hl:=rv.length;exact wpAny_pyNext_tuple_end (I.ok.hd hc) st (show s.heap.IsTuple a its.toArray from p) (by simp;lia) fun h' eb=>⟨rfl,I.turned (t':=s.toks) (fun b o hb e=>eb b o hb e) f0 f1 f3 f4 f5⟩
 self:=fun _ _ _ _ _ st h=>wpAny_pyIter_tupleiter st h
theorem ZjM{P:Program}{w:World}{K:W.Frag}{tg:Expr}(it:Addr)(lo:Int)(n:Nat):Turn P w K tg (Itr lo n) [it] it (fun i h=>IsRangeIter h it (lo+(i:Nat)*1) ((n:Int)-(i:Nat)) 1) where
 mem:=by simp
 obj:=fun i h st b hb=>by
  have e:b=it:=by simpa using hb
  subst e;exact⟨_,st,fun v z=>by
   have z':Data.fields _=Data.cell v:=z;cases z'⟩
 keep:=fun i h h' st k=>k it (by simp) _ st
 item:=by
  intro X hP hw hK hc i pins s Z H E I hf st hg;subst hP hw hK;obtain⟨f0,f1,f2,f3,f4,f5⟩:=hf it (by simp);have W:=Walks.range (prog:=X.prog) (w:=X.w) (I.ok.hd hc) it lo 1 n;refine W.item i s _ _ hg st fun v h' tk hv st' kk=>?_;obtain⟨t,rfl⟩:=hv;have I1:Inv X pins Z H { s with heap:=h',toks:=tk }:=I.turned (fun b o hb e=>kk b o (by simpa using hb) e) f0 f1 f3 f4 f5;refine⟨_,rfl,mi (s:={ s with heap:=h',toks:=tk }) (n:="range_iterator") st' rfl rfl (by decide) ⟨.int (lo+i),H,I1,⟨t,?_⟩,⟨rfl,rfl⟩,st',fun b hb=>(hf b hb).1⟩⟩;rw[ng]
 done:=by
  intro X hP hw hK hc i pins s Z H E I hf st hg;subst hP hw hK;obtain⟨f0,f1,f2,f3,f4,f5⟩:=hf it (by simp);exact wpAny_pyNext_range_end (I.ok.hd hc) st (by have:n<=i:=hg;lia) fun h' eb=>⟨rfl,I.turned (t':=s.toks) (fun b o hb e=>eb b o hb e) f0 f1 f3 f4 f5⟩
 self:=fun _ _ _ _ _ st h=>wpAny_pyIter_rangeiter st h
end L2
namespace L2
open PySem PySem.Spec PyProof.Rows
section
variable{X:Cx}{tg:Expr}
def mE(K:W.Frag)(tl:TE):TI:=fun Z H R=>tl Z H fun x H1=>∃ a,x=.ref a/\(∃ xs,SqL K H1 a xs)/\R (Itl K a) H1
def iTup(K:W.Frag)(tl:TE):TI:=fun Z H R=>tl Z H fun x H1=>∃ a,x=.ref a/\(∃ xs,SqT K H1 a xs)/\R (Itt K a) H1
theorem Zpx{l:Expr}{tl:TE}(hl:PE X l tl):PI X tg l (mE X.K tl):=by
 intro pins s Z H R I h;refine thn (hl pins s Z H _ I h) fun v s1 z0_=>?_;obtain⟨x,H1,I1,r1,q1⟩:=z0_;obtain⟨a,e,⟨xs,hq⟩,q⟩:=q1;subst e;cases r1;obtain⟨its,rv,p,hz⟩:=I1.list hq;refine jE p.isList ?_;refine⟨s1.heap.objs.size,[s1.heap.objs.size],_,_,H1,rfl,I1.kept (t':=s1.toks) fun b o e=>be _ e,ZkR a _,⟨_,bQ _ rfl,rfl,rfl⟩,fun b hb=>?_,q⟩;have e:b=s1.heap.objs.size:=by simpa using hb
 subst e;exact I1.fpOk (aE _) (I1.hok.fresh (aE _))
theorem pi_tup{l:Expr}{tl:TE}(hl:PE X l tl):PI X tg l (iTup X.K tl):=by
 intro pins s Z H R I h;refine thn (hl pins s Z H _ I h) fun v s1 ⟨x,H1,I1,r1,q1⟩=>?_;obtain⟨a,e,⟨xs,hq⟩,q⟩:=q1;subst e;cases r1;obtain⟨its,rv,p,hz⟩:=I1.tuple hq;refine kY (show s1.heap.IsTuple a its.toArray from p) ?_;refine⟨s1.heap.objs.size,[s1.heap.objs.size],_,_,H1,rfl,I1.kept (t':=s1.toks) fun b o e=>be _ e,ZjL a _,⟨_,bQ _ rfl,rfl,rfl⟩,fun b hb=>?_,q⟩;have e:b=s1.heap.objs.size:=by simpa using hb
 subst e;exact I1.fpOk (aE _) (I1.hok.fresh (aE _))
theorem Znd{pins:List (Addr×Obj)}{Z:St}{H:Hp}{s:Shared}{R:It->Hp->Prop}{E:Value->Shared->Prop}{lo hi:Int}{t u v:Tok}{tk:Nat}(I:Inv X pins Z H s)(h1:-(2^62)<=lo)(h2:lo<2^62)(h3:-(2^62)<=hi)(h4:hi<2^62)
  (q:R (Itr lo (hi-lo).toNat) H):wpAny (model X.prog X.w) X.A (pyIter (.ref s.heap.objs.size)) (PIE X pins Z tg R) E { s with heap:=s.heap.push { cls:=.type "range",data:=.fields #[.int lo t,.int hi u,.int 1 v] },toks:=tk }:=by
 refine wpAny_pyIter_range (IsRange.new ..) (small_one h1 h2 h3 h4) ?_;have I1:Inv X pins Z H { s with heap:=s.heap.push { cls:=.type "range",data:=.fields #[.int lo t,.int hi u,.int 1 v] },toks:=tk }:=I.kept fun b o e=>be _ e;refine⟨(s.heap.push { cls:=.type "range",data:=.fields #[.int lo t,.int hi u,.int 1 v] }).objs.size,[(s.heap.push { cls:=.type "range",data:=.fields #[.int lo t,.int hi u,.int 1 v] }).objs.size],_,_,H,rfl,
  I1.kept (t':=tk) fun b o e=>be _ e,ZjM _ lo (hi-lo).toNat,?_,fun b hb=>?_,q⟩
 .have e1:lo+((0:Nat):Int) * 1=lo:=by simp
  have e2:(((hi-lo).toNat:Nat):Int)-((0:Nat):Int)=Builtin.Range.rangeSize lo hi 1:=by rw[rangeSize_one];split <;> lia
  show IsRangeIter _ _ (lo+((0:Nat):Int)*1) ((((hi-lo).toNat:Nat):Int)-((0:Nat):Int)) 1;rw[e1,e2];exact bQ _ rfl
 .have e:b=(s.heap.push { cls:=.type "range",data:=.fields #[.int lo t,.int hi u,.int 1 v] }).objs.size:=by simpa using hb
  subst e;exact I1.fpOk (aE _) (I1.hok.fresh (aE _))
def om(ta:TA):TI:=fun Z H R=>ta Z H fun vs H1=>∃ j:Int,vs=[.int j]/\-(2^62)<=j/\j<2^62/\R (Itr 0 j.toNat) H1
theorem cX{a:Expr}{ta:TA}{p pos:Pos}(hg:Gl X "range")(hm:X.mg "range"=none)(ha:PA X [a] ta)(hs:starEach [a] X.env=[(false,eval a X.env)]:=by rfl):PI X tg (.Call (.Name "range" p) [a] [] pos) (om ta):=by
 intro pins s Z H R I h;refine Call_ (iE I hg hm boot_range (nh (thn (ha pos pins s Z H _ I h) fun us s1 ⟨vs,H1,I1,r1,q1⟩=>?_) hs rfl));obtain⟨j,e,q1,q2,q⟩:=q1;subst e;cases r1 with
 | cons r rr =>
  cases rr;obtain⟨t,rfl⟩:=r;exact call_range_1 (Znd I1 (by lia) (by lia) q1 q2 (by simpa using q))
def tFor(wi:TI)(g:TG)(tb:TS):TS:=fun D Z H=>wi Z H fun J H1=>∃ W:Nat->Nat->St->Hp->Prop,(∃ m,W 0 m Z H1)/\∀ i m Z H,W i m Z H ->
 (J.stop i H/\D.nx Z H)\/(J.go i H/\∃ N:St->Hp->Prop,(∀ σ' H',N σ' H'->∃ m',m'<m/\W (i+1) m' σ' H')/\∀ x H',J.yld i H x H'->g x Z H' fun σ2 H2=>tb { D with nx:=N,ct:=N,bk:=D.nx } σ2 H2)
noncomputable def eh(fp:List Addr)(h:Heap):List (Addr×Obj):=fp.filterMap fun b=>(h.get? b).map fun o=>(b,o)
theorem jX{fp:List Addr}{h:Heap}{b:Addr}{o:Obj}(hb:b∈fp)(e:h.get? b=some o):(b,o)∈eh fp h:=mem_filterMap.mpr ⟨b,hb,by rw[e];rfl⟩
theorem vp{fp:List Addr}{h:Heap}{p:Addr×Obj}(hp:p∈eh fp h):p.1∈fp/\h.get? p.1=some p.2:=by
 obtain⟨b,hb,e⟩:=mem_filterMap.mp hp;cases q:h.get? b with
 | none=>rw[q] at e;cases e
 | some o =>
  rw[q] at e;have e':(b,o)=p:=Option.some.inj e;subst e';exact⟨hb,q⟩
theorem Inv.pinned{pins:List (Addr×Obj)}{Z:St}{H:Hp}{s:Shared}{fp:List Addr}(I:Inv X pins Z H s)(hf:∀ b∈fp,FpOk X pins H b)(ho:∀ b∈fp,∃ o,s.heap.get? b=some o/\∀ v,o.data≠.cell v):Inv X (pins++eh fp s.heap) Z H s :=
 I.pins_of fun p hp=>(aS.mp hp).elim (fun z=>I.pin p (eB _ z)) fun z=>by
  obtain⟨hb,e⟩:=vp z;obtain⟨f0,f1,f2,_⟩:=hf p.1 hb;obtain⟨o,e',d⟩:=ho p.1 hb;rw[e] at e';cases e';exact⟨e,f0,f1,f2,d⟩
theorem Inv.unpinned{pins pl:List (Addr×Obj)}{Z:St}{H:Hp}{s:Shared}(I:Inv X (pins++pl) Z H s):Inv X pins Z H s:=I.pins_of fun p hp=>I.pin p (eB _ (dJ _ hp))
theorem cE{iter:Expr}{body:List Stmt}{wi:TI}{g:TG}{tb:TS}{pos:Pos}(hp:PassesOwn (model X.prog X.w) X.A X.env X.xe)(hc:X.calm=true)(hi:PI X tg iter wi)(hg:PG X tg g)(hb:PSs X body tb)
  (hs:∀ x,foldedSetIterable iter X.env x=pure x:=by intro _;rfl):PS X (.For tg iter body [] pos) (tFor wi g tb):=by
 intro pins s Z H D I h;refine wpAny_For (thn (hi pins s Z H _ I h) fun v s1 h1=>thn h1 fun itv s2 h2=>?_) hs;obtain⟨it,fp,tn,J,H2,e,I2,T,st2,f2,W,⟨m0,w0⟩,turn⟩:=h2;subst e;have stat:∀ {H':Hp},(∀ b∈fp,H' b=none)->∀ b∈fp,FpOk X pins H' b:=fun hn b hb=>⟨hn b hb,(f2 b hb).2⟩;refine codeAny_forLoop_any (fun n s'=>∃ i σ' H',Inv X pins σ' H' s'/\tn i s'.heap/\(∀ b∈fp,H' b=none)/\W i n σ' H') ?_ m0 ⟨0,Z,H2,I2,st2,fun b hb=>(f2 b hb).1,w0⟩;rintro n s3 ⟨i,σ3,H3,I3,st3,fr3,w3⟩;rcases turn i n σ3 H3 w3 with ⟨stop,qn⟩|⟨go,N,hN,step⟩
 .refine iW hp (thn (T.done X rfl rfl rfl hc i pins s3 σ3 H3 X.xe I3 (stat fr3) st3 stop) fun r s4 z0_=>?_);obtain⟨hr,I4⟩:=z0_;subst hr;exact m9 ⟨σ3,H3,I4,qn⟩
 .refine iW hp (thn (T.item X rfl rfl rfl hc i pins s3 σ3 H3 X.xe I3 (stat fr3) st3 go) fun r s4 z1_=>?_);obtain ⟨u,hr,h4⟩:=z1_;subst hr;refine iW hp (thn h4 fun _ s5 z2_=>?_);obtain ⟨x,H5,I5,r5,y5,st5,fr5⟩:=z2_;have I5':=I5.pinned (stat fr5) (T.obj _ _ st5);refine iW hp (thn (hg _ s5 σ3 H5 x u _ I5' r5 (step x H5 y5)) fun _ s6 z3_=>?_);obtain ⟨σ6,H6,I6,q6⟩:=z3_;refine iW hp (thn (hb _ s6 σ6 H6 _ I6 q6) fun f s7 q7=>?_);have again:∀ {σ7:St} {H7:Hp},Inv X (pins++eh fp s5.heap) σ7 H7 s7->N σ7 H7->∃ m,m < n/\∃ i σ' H',Inv X pins σ' H' s7/\tn i s7.heap/\(∀ b∈fp,H' b=none)/\W i m σ' H':=fun {σ7 H7} I7 n7=>by
   obtain⟨m',hm,w7⟩:=hN σ7 H7 n7;refine⟨m',hm,i+1,σ7,H7,I7.unpinned,T.keep _ _ _ st5 fun b hb o e=>(I7.pin (b,o) (eB _ (eB _ (jX hb e)))).1,fun b hb=>?_,w7⟩;obtain⟨o,e,d⟩:=T.obj _ _ st5 b hb;exact(I7.pin (b,o) (eB _ (eB _ (jX hb e)))).2.1
  cases f with
  | next=>obtain⟨σ7,H7,I7,n7⟩:=q7;exact again I7 n7
  | cont=>obtain⟨σ7,H7,I7,n7⟩:=q7;exact again I7 n7
  | brk=>obtain⟨σ7,H7,I7,q7⟩:=q7;exact⟨σ7,H7,I7.unpinned,q7⟩
  | ret v=>obtain⟨x7,σ7,H7,I7,r7,q7⟩:=q7;exact⟨x7,σ7,H7,I7.unpinned,r7,q7⟩
end
theorem ZnM{K:W.Frag}{a:Addr}{xs:List V}{g:TG}{tb:TS}{D:Ends}{Z:St}{H:Hp}(Pv:Nat->St->Hp->Prop)(h0:Pv 0 Z H)(hl:∀ i Z H,i<=xs.length->Pv i Z H->SqL K H a xs)
  (hs:∀ i x Z H,xs[i]?=some x->Pv i Z H->g x Z H fun σ2 H2=>tb { D with nx:=Pv (i+1),ct:=Pv (i+1),bk:=D.nx } σ2 H2) (hd:∀ Z H,Pv xs.length Z H->D.nx Z H) :
  ∃ W:Nat->Nat->St->Hp->Prop,(∃ m,W 0 m Z H)/\∀ i m Z H,W i m Z H ->
   ((Itl K a).stop i H/\D.nx Z H)\/((Itl K a).go i H/\∃ N:St->Hp->Prop,(∀ σ' H',N σ' H'->∃ m',m'<m/\W (i+1) m' σ' H')/\∀ x H',(Itl K a).yld i H x H'->g x Z H' fun σ2 H2=>tb { D with nx:=N,ct:=N,bk:=D.nx } σ2 H2):=by
 refine⟨fun i m Z H=>m=xs.length-i/\i<=xs.length/\Pv i Z H,⟨xs.length,by simp,cb _,h0⟩,?_⟩;rintro i m Z H ⟨rfl,hi,p⟩;have q:=hl i Z H hi p;by_cases hlt:i<xs.length
 .refine .inr ⟨⟨xs,xs[i],q,by simp[hlt]⟩,Pv (i+1),fun σ' H' p'=>⟨xs.length-(i+1),by lia,rfl,hlt,p'⟩,fun x H' y=>?_⟩;obtain⟨e,y⟩:=y;subst e;exact hs i x Z _ (y xs q) p
 .have e:i=xs.length:=by lia
  subst e;exact .inl ⟨⟨xs,q,aE _⟩,hd Z H p⟩
end L2
namespace L2
open PySem PySem.Spec PyProof.Rows
noncomputable abbrev R2:=V->V->Hp->VK->Prop
noncomputable def OpR(X:Cx)(f:Value->Value->Sem Value)(r:R2):Prop :=
 ∀ (pins:List (Addr×Obj)) (s:Shared) (Z:St) (H:Hp) (x y:V) (v u:Value) (Q:VK),Inv X pins Z H s->RelV x v->RelV y u->r x y H Q ->
  wpAny (model X.prog X.w) X.A (f v u) (EP X pins Z Q) X.xe s
noncomputable def UnR(X:Cx)(f:Value->Sem Value)(r:V->Hp->VK->Prop):Prop :=
 ∀ (pins:List (Addr×Obj)) (s:Shared) (Z:St) (H:Hp) (x:V) (v:Value) (Q:VK),Inv X pins Z H s->RelV x v->r x H Q ->
  wpAny (model X.prog X.w) X.A (f v) (EP X pins Z Q) X.xe s
noncomputable def ca(X:Cx)(f:Value)(r:List V->Hp->VK->Prop):Prop :=
 ∀ (pins:List (Addr×Obj)) (s:Shared) (Z:St) (H:Hp) (xs:List V) (us:List Value) (Q:VK),Inv X pins Z H s->Vals xs us->r xs H Q ->
  wpAny (model X.prog X.w) X.A (call f us) (EP X pins Z Q) X.xe s
def tOp(r:R2)(ta tb:TE):TE:=fun Z H Q=>ta Z H fun x H1=>tb Z H1 fun y H2=>r x y H2 Q
def tUn(r:V->Hp->VK->Prop)(ta:TE):TE:=fun Z H Q=>ta Z H fun x H1=>r x H1 Q
def rI(C:Int->Int->Prop)(g:Int->Int->V):R2:=fun x y H Q=>∃ i j,x=.int i/\y=.int j/\C i j/\Q (g i j) H
def rI0(g:Int->Int->V):R2:=fun x y H Q=>∃ i j,x=.int i/\y=.int j/\Q (g i j) H
noncomputable def rU(g:Int->V):V->Hp->VK->Prop:=fun x H Q=>∃ i,x=.int i/\Q (g i) H
section
variable{X:Cx}{a b c:Expr}{ta tb tc:TE}{pos:Pos}
theorem binT(ha:PE X a ta)(hb:PE X b tb){pins:List (Addr×Obj)}{s:Shared}{Z:St}{H:Hp}{R:V->V->Hp->Prop}(I:Inv X pins Z H s)
  (h:ta Z H fun x H1=>tb Z H1 fun y H2=>R x y H2) {Q:Value->Shared->Prop} {f:Value->Value->Sem Value}
  (hf:∀ v u s2 x y H2,Inv X pins Z H2 s2->RelV x v->RelV y u->R x y H2->wpAny (model X.prog X.w) X.A (f v u) Q X.xe s2) :
  wpAny (model X.prog X.w) X.A (eval a X.env) (fun v s₁=>wpAny (model X.prog X.w) X.A (eval b X.env) (fun u s₂=>wpAny (model X.prog X.w) X.A (f v u) Q X.xe s₂) X.xe s₁) X.xe s:=by
 refine thn (ha pins s Z H _ I h) fun v s1 ⟨x,H1,I1,r1,q1⟩=>?_;refine thn (hb pins s1 Z H1 _ I1 q1) fun u s2 ⟨y,H2,I2,r2,q2⟩=>?_;exact hf v u s2 x y H2 I2 r1 r2 q2
theorem au{op:Operator}{r:R2}(ho:OpR X (binaryOp op) r)(ha:PE X a ta)(hb:PE X b tb):PE X (.BinOp a op b pos) (tOp r ta tb):=by
 intro pins s Z H Q I h;exact wpAny_BinOp (binT ha hb I h fun v u s2 x y H2 I2 rx ry q=>ho pins s2 Z H2 x y v u Q I2 rx ry q)
theorem cg{op:UnaryOp}{r:V->Hp->VK->Prop}(ho:UnR X (unaryOp op) r)(ha:PE X a ta):PE X (.UnaryOp op a pos) (tUn r ta):=by
 intro pins s Z H Q I h;exact UnaryOp_ (thn (ha pins s Z H _ I h) fun v s1 ⟨x,H1,I1,r1,q1⟩=>ho pins s1 Z H1 x v Q I1 r1 q1)
theorem opI{f:Value->Value->Sem Value}{C:Int->Int->Prop}{g:Int->Int->Int}
  (rule:∀ (i j:Int) (t u:Tok) (s:Shared) (Q:Value->Shared->Prop) (E:Value->Shared->Prop),C i j->Q (.int (g i j) s.toks) { s with toks:=s.toks+1 }->wpAny (model X.prog X.w) X.A (f (.int i t) (.int j u)) Q E s) :
  OpR X f (rI C fun i j=>.int (g i j)):=by
 intro pins s Z H x y v u Q I rx ry h;obtain⟨i,j,rfl,rfl,hc,q⟩:=h;obtain⟨t,rfl⟩:=rx;obtain⟨t',rfl⟩:=ry;exact rule i j t t' s _ _ hc ⟨.int (g i j),H,I.tok _,⟨_,rfl⟩,q⟩
theorem opI0{f:Value->Value->Sem Value}{g:Int->Int->Int}
  (rule:∀ (i j:Int) (t u:Tok) (s:Shared) (Q:Value->Shared->Prop) (E:Value->Shared->Prop),Q (.int (g i j) s.toks) { s with toks:=s.toks+1 }->wpAny (model X.prog X.w) X.A (f (.int i t) (.int j u)) Q E s) :
  OpR X f (rI0 fun i j=>.int (g i j)):=by
 intro pins s Z H x y v u Q I rx ry h;obtain⟨i,j,rfl,rfl,q⟩:=h;obtain⟨t,rfl⟩:=rx;obtain⟨t',rfl⟩:=ry;exact rule i j t t' s _ _ ⟨.int (g i j),H,I.tok _,⟨_,rfl⟩,q⟩
theorem opB0{f:Value->Value->Sem Value}{g:Int->Int->Bool}
  (rule:∀ (i j:Int) (t u:Tok) (s:Shared) (Q:Value->Shared->Prop) (E:Value->Shared->Prop),Q (.bool (g i j)) s->wpAny (model X.prog X.w) X.A (f (.int i t) (.int j u)) Q E s) :
  OpR X f (rI0 fun i j=>.bl (g i j)):=by
 intro pins s Z H x y v u Q I rx ry h;obtain⟨i,j,rfl,rfl,q⟩:=h;obtain⟨t,rfl⟩:=rx;obtain⟨t',rfl⟩:=ry;exact rule i j t t' s _ _ ⟨.bl (g i j),H,I,rfl,q⟩
def CPow(i j:Int):Prop:=0<=j/\j<=1000000/\i.natAbs<2^64
def CMul(i j:Int):Prop:=(-(2^64)<i/\i<2^64)\/(-(2^64)<j/\j<2^64)
theorem CMul.ok{i j:Int}(h:CMul i j):IntMulOk i j:=by
 rcases h with ⟨h1,h2⟩|⟨h1,h2⟩
 .exact .of_left (intBits_le_64 h1 h2)
 .exact .of_right (intBits_le_64 h1 h2)
theorem bD:OpR X (binaryOp .Add) (rI0 fun i j=>.int (i+j)):=opI0 fun _ _ _ _ _ _ _ q=>add_int q
theorem dQ:OpR X (binaryOp .Sub) (rI0 fun i j=>.int (i-j)):=opI0 fun _ _ _ _ _ _ _ q=>sub_int q
theorem o8:OpR X (binaryOp .Mult) (rI CMul fun i j=>.int (i*j)):=opI fun _ _ _ _ _ _ _ hc q=>mul_int q hc.ok
theorem fL:OpR X (binaryOp .Mod) (rI (fun _ j=>0<j) fun i j=>.int (i % j)):=opI fun i j _ _ _ _ _ hc q=>by
 have h1:(0:Int)<j:=hc;exact mod_int' (by lia) (by rw[Int.fmod_eq_emod_of_nonneg i (by lia)];exact q)
theorem kC:OpR X (binaryOp .Pow) (rI CPow fun i j=>.int (i^j.toNat)):=opI fun _ _ _ _ _ _ _ hc q=>pow_int_small hc.1 hc.2.1 hc.2.2 q
theorem unI{f:Value->Sem Value}{g:Int->Int}
  (rule:∀ (i:Int) (t:Tok) (s:Shared) (Q:Value->Shared->Prop) (E:Value->Shared->Prop),Q (.int (g i) s.toks) { s with toks:=s.toks+1 }->wpAny (model X.prog X.w) X.A (f (.int i t)) Q E s) :
  UnR X f (rU fun i=>.int (g i)):=by
 intro pins s Z H x v Q I rx h;obtain⟨i,rfl,q⟩:=h;obtain⟨t,rfl⟩:=rx;exact rule i t s _ _ ⟨.int (g i),H,I.tok _,⟨_,rfl⟩,q⟩
theorem ce:UnR X (unaryOp .USub) (rU fun i=>.int (-i)):=unI fun _ _ _ _ _ q=>neg_int q
end
noncomputable def scal:V->V->Bool
 | .non,.non=>true|.non,.int _=>true|.int _,.non=>true|.non,.bl _=>true|.bl _,.non=>true|.non,.str _=>true|.str _,.non=>true
 | .int _,.int _=>true|.bl _,.bl _=>true|.str _,.str _=>true|.byt _,.byt _=>true
 | .int _,.str _=>true|.str _,.int _=>true|.bl _,.str _=>true|.str _,.bl _=>true
 | _,_=>false
def rEq:R2:=fun x y H Q=>scal x y=true/\Q (.bl (decide (x=y))) H
def rNe:R2:=fun x y H Q=>scal x y=true/\Q (.bl (!decide (x=y))) H
theorem lO{i j:Int}:decide (V.int i=V.int j)=(i == j):=by
 rw[kZ];simp
theorem mW{i j:Bool}:decide (V.bl i=V.bl j)=(i == j):=by
 rw[kZ];simp
theorem mH{i j:Str}:decide (V.str i=V.str j)=(i == j):=by
 rw[kZ];simp
theorem yf{i j:Array UInt8}:decide (V.byt i=V.byt j)=(i.toList == j.toList):=by
 rw[kZ];cases i;cases j;simp
section
variable{X:Cx}{a b c:Expr}{ta tb tc:TE}{pos:Pos}
theorem bH{pins:List (Addr×Obj)}{Z:St}{H:Hp}{s:Shared}{Q:VK}{k k':Bool}(I:Inv X pins Z H s)(q:Q (.bl k) H)(e:k=k'):EP X pins Z Q (.bool k') s:=by
 subst e;exact⟨.bl k,H,I,rfl,q⟩
theorem bc:OpR X (compareOp .Eq) rEq:=by
 intro pins s Z H x y v u Q I rx ry h;obtain⟨hs,q⟩:=h;cases x with
 | non =>
  cases rx;cases y with
  | non=>cases ry;exact PySem.EqNone.eq_none_none (bH I q (by simp))
  | bl j=>cases ry;exact PySem.EqNone.eq_none_bool (bH I q (by simp))
  | int j=>obtain⟨t',rfl⟩:=ry;exact PySem.EqNone.eq_none_int (bH I q (by simp))
  | str j=>obtain⟨t',rfl⟩:=ry;exact PySem.EqNone.eq_none_str (bH I q (by simp))
  | _=>exact absurd (show false=true from hs) bF
 | bl i =>
  cases rx;cases y with
  | non=>cases ry;exact PySem.EqNone.eq_bool_none (bH I q (by simp))
  | bl j=>cases ry;exact eq_bool (bH I q mW)
  | str j=>obtain⟨t',rfl⟩:=ry;exact PySem.EqMixed.eq_bool_str (bH I q (by simp))
  | _=>exact absurd (show false=true from hs) bF
 | int i =>
  obtain⟨t,rfl⟩:=rx;cases y with
  | non=>cases ry;exact PySem.EqNone.eq_int_none (bH I q (by simp))
  | int j=>obtain⟨t',rfl⟩:=ry;exact eq_int (bH I q lO)
  | str j=>obtain⟨t',rfl⟩:=ry;exact PySem.EqMixed.eq_int_str (bH I q (by simp))
  | _=>exact absurd (show false=true from hs) bF
 | str i =>
  obtain⟨t,rfl⟩:=rx;cases y with
  | non=>cases ry;exact PySem.EqNone.eq_str_none (bH I q (by simp))
  | bl j=>cases ry;exact PySem.EqMixed.eq_str_bool (bH I q (by simp))
  | int j=>obtain⟨t',rfl⟩:=ry;exact PySem.EqMixed.eq_str_int (bH I q (by simp))
  | str j=>obtain⟨t',rfl⟩:=ry;exact eq_str (bH I q mH)
  | _=>exact absurd (show false=true from hs) bF
 | byt i =>
  obtain⟨t,rfl⟩:=rx;cases y with
  | byt j=>obtain⟨t',rfl⟩:=ry;exact PySem.W.eq_bytes (bH I q yf)
  | _=>exact absurd (show false=true from hs) bF
 | _=>cases y <;> exact absurd (show false=true from hs) bF
theorem gI:OpR X (compareOp .NotEq) rNe:=by
 intro pins s Z H x y v u Q I rx ry h;obtain⟨hs,q⟩:=h;cases x with
 | non =>
  cases rx;cases y with
  | non=>cases ry;exact PySem.EqNone.ne_none_none (bH I q (by simp))
  | bl j=>cases ry;exact PySem.EqNone.ne_none_bool (bH I q (by simp))
  | int j=>obtain⟨t',rfl⟩:=ry;exact PySem.EqNone.ne_none_int (bH I q (by simp))
  | str j=>obtain⟨t',rfl⟩:=ry;exact PySem.EqNone.ne_none_str (bH I q (by simp))
  | _=>exact absurd (show false=true from hs) bF
 | bl i =>
  cases rx;cases y with
  | non=>cases ry;exact PySem.EqNone.ne_bool_none (bH I q (by simp))
  | bl j=>cases ry;exact ne_bool (bH I q (congrArg not mW))
  | str j=>obtain⟨t',rfl⟩:=ry;exact PySem.EqMixed.ne_bool_str (bH I q (by simp))
  | _=>exact absurd (show false=true from hs) bF
 | int i =>
  obtain⟨t,rfl⟩:=rx;cases y with
  | non=>cases ry;exact PySem.EqNone.ne_int_none (bH I q (by simp))
  | int j=>obtain⟨t',rfl⟩:=ry;exact ne_int (bH I q (congrArg not lO))
  | str j=>obtain⟨t',rfl⟩:=ry;exact PySem.EqMixed.ne_int_str (bH I q (by simp))
  | _=>exact absurd (show false=true from hs) bF
 | str i =>
  obtain⟨t,rfl⟩:=rx;cases y with
  | non=>cases ry;exact PySem.EqNone.ne_str_none (bH I q (by simp))
  | bl j=>cases ry;exact PySem.EqMixed.ne_str_bool (bH I q (by simp))
  | int j=>obtain⟨t',rfl⟩:=ry;exact PySem.EqMixed.ne_str_int (bH I q (by simp))
  | str j=>obtain⟨t',rfl⟩:=ry;exact ne_str (bH I q (congrArg not mH))
  | _=>exact absurd (show false=true from hs) bF
 | byt i =>
  obtain⟨t,rfl⟩:=rx;cases y with
  | byt j=>obtain⟨t',rfl⟩:=ry;exact PySem.W.ne_bytes (bH I q (congrArg not yf))
  | _=>exact absurd (show false=true from hs) bF
 | _=>cases y <;> exact absurd (show false=true from hs) bF
theorem dO:OpR X (compareOp .Lt) (rI0 fun i j=>.bl (decide (i<j))):=opB0 fun _ _ _ _ _ _ _ q=>lt_int q
theorem eT:OpR X (compareOp .LtE) (rI0 fun i j=>.bl (decide (i<=j))):=opB0 fun _ _ _ _ _ _ _ q=>le_int q
theorem gn:OpR X (compareOp .Gt) (rI0 fun i j=>.bl (decide (j<i))):=opB0 fun _ _ _ _ _ _ _ q=>gt_int q
theorem op_ge:OpR X (compareOp .GtE) (rI0 fun i j=>.bl (decide (j<=i))):=opB0 fun _ _ _ _ _ _ _ q=>ge_int q
theorem op_isN:OpR X (compareOp .Is) (fun x y H Q=>y=.non/\Q (.bl (decide (x=.non))) H):=by
 intro pins s Z H x y v u Q I rx ry h;obtain⟨rfl,q⟩:=h;cases ry;refine is_none_gen (bH I q ?_);cases x <;> first
  | (cases rx;rfl)
  | (obtain⟨t,rfl⟩:=rx;rfl)
theorem ZpE:OpR X (compareOp .IsNot) (fun x y H Q=>y=.non/\Q (.bl (!decide (x=.non))) H):=by
 intro pins s Z H x y v u Q I rx ry h;obtain⟨rfl,q⟩:=h;cases ry;refine isnot_none_gen (bH I q ?_);cases x <;> first
  | (cases rx;rfl)
  | (obtain⟨t,rfl⟩:=rx;rfl)
theorem ax(b:Expr){op:CmpOp}(h:op≠.In:=by decide)(h2:op≠.NotIn:=by decide):behindInMarks op b=false:=by
 have e1:(op == CmpOp.In)=false:=by cases op <;> first|rfl|exact absurd rfl h
 have e2:(op == CmpOp.NotIn)=false:=by cases op <;> first|rfl|exact absurd rfl h2
 cases b <;> simp[behindInMarks,e1,e2]
theorem dP{op:CmpOp}{r:R2}(ho:OpR X (compareOp op) r)(ha:PE X a ta)(hb:PE X b tb)(hm:behindInMarks op b=false):PE X (.Compare a [op] [b] pos) (tOp r ta tb):=by
 intro pins s Z H Q I h;exact wpAny_Compare1 (binT ha hb I h fun v u s2 x y H2 I2 rx ry q=>ho pins s2 Z H2 x y v u Q I2 rx ry q) hm
def mL(t:TE):TT:=fun Z H Q=>t Z H fun x H'=>∃ k,x=.bl k/\Q k H'
theorem aA{op:CmpOp}{r:R2}(ho:OpR X (compareOp op) r)(ha:PE X a ta)(hb:PE X b tb)(hm:behindInMarks op b=false):PT X (.Compare a [op] [b] pos) (mL (tOp r ta tb)):=by
 intro pins s Z H Q I h;refine wpAny_isTrue_Compare1 (thn (ha pins s Z H _ I h) fun v s1 ⟨x,H1,I1,r1,q1⟩=>thn (hb pins s1 Z H1 _ I1 q1) fun u s2 ⟨y,H2,I2,r2,q2⟩ =>
  thn (ho pins s2 Z H2 x y v u _ I2 r1 r2 q2) fun c s3 ⟨z,H3,I3,r3,k,e,q3⟩=>?_) hm
 subst e;cases r3;exact fP ⟨H3,I3,q3⟩
def mh(r r':R2)(ta tb tc:TE):TE:=fun Z H Q=>ta Z H fun x H1=>tb Z H1 fun y H2=>r x y H2 fun z H3=>∃ k,z=.bl k /\
 (if k=true then tc Z H3 fun w' H4=>r' y w' H4 Q else Q (.bl false) H3)
theorem Znu{op op':CmpOp}{r r':R2}(ho:OpR X (compareOp op) r)(ho':OpR X (compareOp op') r')(ha:PE X a ta)(hb:PE X b tb)(hc:PE X c tc)
  (hm:lastMarks [op,op'] [b,c]=false:=by with_unfolding_all rfl):PE X (.Compare a [op,op'] [b,c] pos) (mh r r' ta tb tc):=by
 intro pins s Z H Q I h;refine Compare_chain (thn (ha pins s Z H _ I h) fun v s1 ⟨x,H1,I1,r1,q1⟩=>chain_link (thn (hb pins s1 Z H1 _ I1 q1) fun u s2 ⟨y,H2,I2,r2,q2⟩ =>
  thn (ho pins s2 Z H2 x y v u _ I2 r1 r2 q2) fun d s3 ⟨z,H3,I3,r3,k,e,q3⟩=>?_)) hm
 subst e;cases r3;refine fP ?_;cases k with
 | false=>exact ite_ff ⟨.bl false,H3,I3,rfl,q3⟩
 | true=>exact ite_tt (chain_last (thn (hc pins s3 Z H3 _ I3 q3) fun w' s4 ⟨z',H4,I4,r4,q4⟩=>ho' pins s4 Z H4 y z' u w' Q I4 r2 r4 q4))
theorem g8{op op':CmpOp}{r r':R2}(ho:OpR X (compareOp op) r)(ho':OpR X (compareOp op') r')(ha:PE X a ta)(hb:PE X b tb)(hc:PE X c tc)
  (hm:lastMarks [op,op'] [b,c]=false:=by with_unfolding_all rfl):PT X (.Compare a [op,op'] [b,c] pos) (mL (mh r r' ta tb tc)):=by
 intro pins s Z H Q I h;refine isTrue_chain (thn (ha pins s Z H _ I h) fun v s1 ⟨x,H1,I1,r1,q1⟩=>test_link (thn (hb pins s1 Z H1 _ I1 q1) fun u s2 ⟨y,H2,I2,r2,q2⟩ =>
  thn (ho pins s2 Z H2 x y v u _ I2 r1 r2 q2) fun d s3 ⟨z,H3,I3,r3,k,e,q3⟩=>?_)) hm
 subst e;cases r3;refine fP ?_;cases k with
 | false =>
  obtain⟨k',e',q'⟩:=q3;cases e';exact ite_ff ⟨H3,I3,q'⟩
 | true =>
  refine ite_tt (test_last (thn (hc pins s3 Z H3 _ I3 q3) fun w' s4 ⟨z',H4,I4,r4,q4⟩=>thn (ho' pins s4 Z H4 y z' u w' _ I4 r2 r4 q4) fun d' s5 ⟨z2,H5,I5,r5,k2,e2,q5⟩=>?_));subst e2;cases r5;exact fP ⟨H5,I5,q5⟩
theorem lJ:(sizeLine:Nat)<2^63:=by rw[sizeLine_eq];decide
theorem ZjZ:OpR X (binaryOp .Add) (fun x y H Q=>∃ i j,x=.str i/\y=.str j/\i.length+j.length<=sizeLine/\Q (.str (i++j)) H):=by
 intro pins s Z H x y v u Q I rx ry h;obtain⟨i,j,rfl,rfl,hz,q⟩:=h;obtain⟨t,rfl⟩:=rx;obtain⟨t',rfl⟩:=ry;exact add_str (fun t' tk=>⟨.str (i++j),H,I.tok _,⟨_,rfl⟩,q⟩) hz
theorem vals1{x:V}{us:List Value}(r:Vals [x] us):∃ u,us=[u]/\RelV x u:=by
 cases r with
 | cons r1 r2=>cases r2;exact⟨_,rfl,r1⟩
theorem vals2{x y:V}{us:List Value}(r:Vals [x,y] us):∃ u w',us=[u,w']/\RelV x u/\RelV y w':=by
 cases r with
 | cons r1 r2 =>
  cases r2 with
  | cons r3 r4=>cases r4;exact⟨_,_,rfl,r1,r3⟩
theorem ZnW:ca X (.builtin "abs") (fun xs H Q=>∃ i,xs=[.int i]/\Q (.int (if i<0 then -i else i)) H):=by
 intro pins s Z H xs us Q I r h;obtain⟨i,rfl,q⟩:=h;obtain⟨u,rfl,t,rfl⟩:=vals1 r;exact call_abs_int fun u tk=>⟨.int (if i<0 then -i else i),H,I.tok _,⟨_,rfl⟩,q⟩
theorem Zmz(hc:X.calm=true):ca X (.builtin "max") (fun xs H Q=>∃ i j,xs=[.int i,.int j]/\Q (.int (if j>i then j else i)) H):=by
 intro pins s Z H xs us Q I r h;obtain⟨i,j,rfl,q⟩:=h;obtain⟨u,w',rfl,⟨t,rfl⟩,⟨t',rfl⟩⟩:=vals2 r;refine max_two_ints (I.ok.hd hc) fun h' tk k=>⟨_,H,I.kept k,?_,q⟩;by_cases hj:j>i
 .rw[ak hj,ak hj];exact⟨_,rfl⟩
 .rw[ao hj,ao hj];exact⟨_,rfl⟩
theorem Zmw(hc:X.calm=true):ca X (.builtin "min") (fun xs H Q=>∃ i j,xs=[.int i,.int j]/\Q (.int (if j<i then j else i)) H):=by
 intro pins s Z H xs us Q I r h;obtain⟨i,j,rfl,q⟩:=h;obtain⟨u,w',rfl,⟨t,rfl⟩,⟨t',rfl⟩⟩:=vals2 r;refine min_two_ints (I.ok.hd hc) fun h' tk k=>⟨_,H,I.kept k,?_,q⟩;by_cases hj:j<i
 .rw[ak hj,ak hj];exact⟨_,rfl⟩
 .rw[ao hj,ao hj];exact⟨_,rfl⟩
theorem ZmD:ca X (.type "int") (fun xs H Q=>(∃ i,xs=[.int i]/\Q (.int i) H)\/∃ k,xs=[.bl k]/\Q (.int (if k then 1 else 0)) H):=by
 intro pins s Z H xs us Q I r h;rcases h with ⟨i,rfl,q⟩|⟨k,rfl,q⟩
 .obtain ⟨u,rfl,t,rfl⟩:=vals1 r;exact call_int_int ⟨.int i,H,I,⟨_,rfl⟩,q⟩
 .obtain ⟨u,rfl,r1⟩:=vals1 r;cases r1;exact call_int_bool ⟨.int (if k then 1 else 0),H,I.tok _,⟨_,rfl⟩,q⟩
noncomputable def LenV(K:W.Frag)(x:V)(H:Hp)(n:Nat):Prop :=
 match x with
 | .str y=>y.length<=sizeLine/\n=y.length
 | .byt y=>y.size<=sizeLine/\n=y.size
 | .ref p=>(∃ xs,SqL K H p xs/\n=xs.length)\/∃ xs,SqT K H p xs/\n=xs.length
 | _=>False
theorem ZnV:ca X (.builtin "len") (fun xs H Q=>∃ x n,xs=[x]/\LenV X.K x H n/\Q (.int n) H):=by
 intro pins s Z H xs us Q I r h;obtain⟨x,n,rfl,e,q⟩:=h;obtain⟨u,rfl,rx⟩:=vals1 r;have hl:=lJ;have hs:sizeLine=16777216:=sizeLine_eq;cases x with
 | str y =>
  obtain⟨t,rfl⟩:=rx;obtain⟨hy,e'⟩:y.length<=sizeLine/\n=y.length:=e;subst e';exact len_str (by lia) ⟨.int _,H,I.tok _,⟨_,rfl⟩,q⟩
 | byt y =>
  obtain⟨t,rfl⟩:=rx;obtain⟨hy,e'⟩:y.size<=sizeLine/\n=y.size:=e;subst e';exact PySem.W.len_bytes (by lia) ⟨.int _,H,I.tok _,⟨_,rfl⟩,q⟩
 | ref p =>
  cases rx;have e':(∃ xs,SqL X.K H p xs/\n=xs.length)\/∃ xs,SqT X.K H p xs/\n=xs.length:=e;rcases e' with ⟨xs,hx,e'⟩|⟨xs,hx,e'⟩
  .subst e';obtain⟨its,r',pl,hz⟩:=I.list hx;have hlen:=r'.length;exact Calls.call_len_list pl.isList (by simp only[bL];lia) ⟨.int xs.length,H,I.tok _,⟨_,by simp only[bL];rw[hlen]⟩,q⟩
  .subst e';obtain⟨its,r',pl,hz⟩:=I.tuple hx;have hlen:=r'.length;exact len_tuple pl (by simp only[bL];lia) ⟨.int xs.length,H,I.tok _,⟨_,by simp only[bL];rw[hlen]⟩,q⟩
 | _=>exact(show False from e).elim
end
end L2
namespace L2
open PySem PySem.Spec PyProof.Rows
structure ObjM(h:Heap)(x dx C:Addr)(mA:Str->Option Value):Prop where
 obj:h.get? x=some (PySem.W.instObj C dx)
 ns:h.Ns1 dx mA
 ne:dx≠x
theorem ZlF{h:Heap}{dx:Addr}{mA:Str->Option Value}(n:h.Ns1 dx mA):∃ od,h.get? dx=some od/\∀ name,PySem.W.lookIn name od=some (mA name):=by
 obtain⟨o,es,ep,ho,hd,hk,_,hm⟩:=n;refine⟨o,ho,fun name=>?_⟩;have e:=hm name;unfold nsFind findBy at e;rw[<-Array.find?_toList] at e;unfold PySem.W.lookIn;rw[hd];dsimp only;split
 .rename_i y q;rw[q] at e;exact congrArg some e
 .rename_i q;rw[q] at e;have a:es.toList.any (·.refKey)=false:=by
   rw[any_eq_false];intro y hy;obtain⟨z,t,hkey⟩:=hk y (Array.mem_toList_iff.mp hy);simp[DictEntry.refKey,hkey]
  have a':¬ es.toList.any (·.refKey)=true:=by rw[a];exact bF
  rw[ao a'];exact congrArg some e
theorem ObjM.look{h:Heap}{x dx C:Addr}{mA:Str->Option Value}(I:ObjM h x dx C mA):∃ od,PySem.W.InstAt h x (PySem.W.instObj C dx) C (some od)/\∀ name,PySem.W.lookIn name od=some (mA name) :=
 let ⟨od,ho,hl⟩:=ZlF I.ns
 ⟨od,⟨I.obj,rfl,rfl,ho⟩,hl⟩
theorem RelO.some_of{v:V}{o:Option Value}(r:RelO (some v) o):∃ u,o=some u/\RelV v u:=by
 cases o with
 | none=>exact(show False from r).elim
 | some u=>exact⟨u,rfl,r⟩
section
variable{P:Program}{w:World}{H H':Hp}{h h':Heap}{a C dx:Addr}{fs fs':List (Str×V)}
theorem yh(hok:HOk P w H h)(e:H a=some (.ins C dx fs)):∃ mA,ObjM h a dx C mA/\(∀ f,RelO (fs.lookup f) (mA f))/\PySem.Within mA (fs.map (·.1))/\fs.length<=1000/\H dx=some (.own a):=by
 obtain⟨d,z,ne,ob,mA,n,r,q⟩:=(show ObjOk P w H h a (.ins C dx fs) from hok a _ e);exact⟨mA,⟨ob,n,ne⟩,r,q,z,d⟩
end
structure Cls(K:W.Frag)(C:Addr):Prop where
 pg:PySem.W.plainGet K C Str.empty=true
 hd:PySem.W.hasDictIn K C=true
 po:PySem.W.plainOver K C=true
 sa:PySem.W.findIn K (.ref C) "__setattr__"=some (some (.builtin "object.__setattr__"))
theorem Cls.get{K:W.Frag}{C:Addr}(c:Cls K C)(f:Str):PySem.W.plainGet K C f=true:=c.pg
section
variable{X:Cx}{pins:List (Addr×Obj)}{Z:St}{H:Hp}{s:Shared}{A:Around}{E:Value->Shared->Prop}{Q:Value->Shared->Prop}{c:Value}{b:Bool}
inductive TyOf(K:W.Frag)(H:Hp):V->Value->Prop where
 | non:TyOf K H .non (.type "NoneType")
 | bl (x:Bool):TyOf K H (.bl x) (.type "bool")
 | int (i:Int):TyOf K H (.int i) (.type "int")
 | str (x:Str):TyOf K H (.str x) (.type "str")
 | flt (x:UInt64):TyOf K H (.flt x) (.type "float")
 | lst {a:Addr} {xs:List V} (e:H a=some (.lst xs)):TyOf K H (.ref a) (.type "list")
 | frz {a:Addr} {o:Obj} {xs:List V} (e:H a=some (.frz o (.lst xs))):TyOf K H (.ref a) (.type "list")
 | tup {a:Addr} {xs:List V} (e:H a=some (.tup xs)):TyOf K H (.ref a) (.type "tuple")
 | dK {a:Addr} {kvs:List (Key×V)} (e:H a=some (.dK kvs)):TyOf K H (.ref a) (.type "dict")
 | dT {a:Addr} {kvs:List (List Key×V)} (e:H a=some (.dT kvs)):TyOf K H (.ref a) (.type "dict")
 | ins {a C dx:Addr} {fs:List (Str×V)} (e:H a=some (.ins C dx fs)) (cl:Cls K C) (ha:PySem.W.findIn K (.ref C) "__class__"=some (some (.builtin "object.__class__")))
   (hn:PySem.W.specialIn K (.builtin "object.__class__") "__get__"=some (some (.builtin "getset_descriptor.__get__"))) (htk:PySem.W.takesIn K (.builtin "object.__class__")=some true)
   (hm:PySem.W.mroIn K C (.type "object")=some true):TyOf K H (.ref a) (.ref C)
theorem Zl2{x:V}{u t:Value}(I:Inv X pins Z H s)(rx:RelV x u)(ty:TyOf X.K H x t)(e:PySem.W.kitOne X.K t c=some b)(h:∀ tk,Q (.bool b) { s with toks:=tk }) :
  wpAny (model X.prog X.w) A (call (.builtin "isinstance") [u,c]) Q E s:=by
 cases ty with
 | non=>cases (show u=Value.none from rx);exact PySem.W.kia_one PySem.W.kitx_none I.kIn True.intro e (fun z=>nomatch z) h
 | bl y=>cases (show u=Value.bool y from rx);exact PySem.W.kia_one PySem.W.kitx_bool I.kIn True.intro e (fun z=>nomatch z) h
 | int i=>obtain⟨t,q⟩:=(show ∃ t,u=Value.int i t from rx);cases q;exact PySem.W.kia_one PySem.W.kitx_int I.kIn True.intro e (fun z=>nomatch z) h
 | str y=>obtain⟨t,q⟩:=(show ∃ t,u=Value.str y t from rx);cases q;exact PySem.W.kia_one PySem.W.kitx_str I.kIn True.intro e (fun z=>nomatch z) h
 | flt y=>obtain⟨t,q⟩:=(show ∃ t,u=Value.float y t from rx);cases q;exact PySem.W.kia_one PySem.W.kitx_float I.kIn True.intro e (fun z=>nomatch z) h
 | @lst a xs ea =>
  cases (show u=Value.ref a from rx);obtain⟨_,_,n,_,h1⟩:=(show ObjOk X.prog X.w H s.heap a (.lst xs) from I.hok a _ ea);exact PySem.W.kia_one PySem.W.kitx_list I.kIn ⟨_,h1,rfl⟩ e (fun z=>nomatch z) h
 | @frz a ob xs ea =>
  cases (show u=Value.ref a from rx);obtain⟨_,_,_,n,_,h1⟩:=(show ObjOk X.prog X.w H s.heap a (.frz ob (.lst xs)) from I.hok a _ ea);exact PySem.W.kia_one PySem.W.kitx_list I.kIn ⟨_,h1,rfl⟩ e (fun z=>nomatch z) h
 | @tup a xs ea =>
  cases (show u=Value.ref a from rx);obtain⟨_,_,_,p⟩:=(show ObjOk X.prog X.w H s.heap a (.tup xs) from I.hok a _ ea);obtain⟨o,h1,h2,_⟩:=p;exact PySem.W.kia_one PySem.W.kitx_tuple I.kIn ⟨o,h1,h2⟩ e (fun z=>nomatch z) h
 | @dK a kvs ea =>
  cases (show u=Value.ref a from rx);obtain⟨_,_,vs,_,p⟩:=(show ObjOk X.prog X.w H s.heap a (.dK kvs) from I.hok a _ ea);obtain⟨o,es,ep,h1,h2,_⟩:=p;exact PySem.W.kia_one PySem.W.kitx_dict I.kIn ⟨o,h1,h2.1⟩ e (fun z=>nomatch z) h
 | @dT a kvs ea =>
  cases (show u=Value.ref a from rx);obtain⟨_,_,xs,_,o,es,ep,h1,h2,_⟩:=(show ObjOk X.prog X.w H s.heap a (.dT kvs) from I.hok a _ ea);exact PySem.W.kia_one PySem.W.kitx_dict I.kIn ⟨o,h1,h2.1⟩ e (fun z=>nomatch z) h
 | @ins a C dx fs ea cl ha hn htk hm =>
  cases (show u=Value.ref a from rx);obtain⟨mA,O,_⟩:=yh I.hok ea;obtain⟨od,J,_⟩:=O.look;exact PySem.W.kia_one (PySem.W.kitx_own (cl.get _) cl.hd ha hn htk hm) I.kIn J e (fun z=>nomatch z) h
end
end L2
namespace L2
open PySem PySem.Spec PyProof.Rows
structure Room(k:Nat)(A:Around):Prop where
 hd:A.handled=none
 dp:A.depth+3*k+5<recursionLimit
 un:A.units+16*k+200<cLine
 gd:A.guards=some []
theorem Room.mono{j k:Nat}{A:Around}(r:Room k A)(h:j<=k):Room j A:=⟨r.hd,by have:=r.dp;lia,by have:=r.un;lia,r.gd⟩
theorem Room.m{j k:Nat}{A:Around}(r:Room k A)(h:j<=k:=by first|decide|lia):Room j A:=r.mono h
theorem Room.deeper{k:Nat}{A:Around}(r:Room (k+1) A)(env:Env):Room k (A.deeper env) :=
 ⟨r.hd,by have:=r.dp;show A.depth+1+3*k+5<_;lia,by have:=r.un;show A.units+3+16*k+200<_;lia,r.gd⟩
theorem Room.depth{k:Nat}{A:Around}(r:Room k A):A.depth<recursionLimit:=by have:=r.dp;lia
theorem Room.units{k:Nat}{A:Around}(r:Room k A):A.units+64<cLine:=by have:=r.un;lia
def tNil:TA:=fun _ H Q=>Q [] H
def bC(ta:TE)(tr:TA):TA:=fun Z H Q=>ta Z H fun x H1=>tr Z H1 fun xs H2=>Q (x::xs) H2
section
variable{X:Cx}{e:Expr}{es:List Expr}{te:TE}{t:TA}{pos:Pos}
theorem ae:PA X [] tNil:=fun _ _ _ _ H Q I h=>nj ⟨[],H,I,.nil,h⟩
theorem fM(ha:PE X e te)(hr:PA X es t)(hs:starEach (e::es) X.env=(false,eval e X.env)::starEach es X.env:=by rfl):PA X (e::es) (bC te t):=by
 intro pos pins s Z H Q I h;rw[hs];show wpAny _ _ (spliced ((false,eval e X.env)::backTo pos (starEach es X.env))) _ _ s;refine k7 (thn (ha pins s Z H _ I h) fun u s1 ⟨x,H1,I1,r1,q1⟩=>?_);exact thn (hr pos pins s1 Z H1 _ I1 q1) fun us s2 ⟨xs,H2,I2,r2,q2⟩=>⟨x::xs,H2,I2,.cons r1 r2,q2⟩
def tTup(t:TA):TE:=fun Z H Q=>t Z H fun xs H1=>xs.length<=sizeLine/\∀ p,H1 p=none->Q (.ref p) (upd H1 p (.tup xs))
def tLst(t:TA):TE:=fun Z H Q=>t Z H fun xs H1=>xs.length<=sizeLine/\∀ p,H1 p=none->Q (.ref p) (upd H1 p (.lst xs))
theorem aw{x1}(h:PA X es t):PE X (.Tuple es x1 pos) (tTup t):=by
 intro pins s Z H Q I hq;refine wpAny_Tuple_spliced (thn (h pos pins s Z H _ I hq) fun us s1 ⟨xs,H1,I1,r,z,q⟩=>⟨by rw[<-r.length];exact z,?_⟩);have hf:H1 s1.heap.objs.size=none:=I1.hok.fresh (aE _);refine⟨.ref s1.heap.objs.size,upd H1 s1.heap.objs.size (.tup xs),I1.laid (t':=s1.toks) (fun b u e=>be _ e) (aE _) ?_,rfl,q _ hf⟩;exact⟨z,us,r,⟨_,bQ _ rfl,rfl,_,rfl⟩⟩
theorem bz(h:PA X es t):PE X (.List es pos) (tLst t):=by
 intro pins s Z H Q I hq;refine wpAny_List_spliced (thn (h pos pins s Z H _ I hq) fun us s1 ⟨xs,H1,I1,r,z,q⟩=>⟨by rw[<-r.length];exact z,?_⟩);have hf:H1 s1.heap.objs.size=none:=I1.hok.fresh (aE _);refine⟨.ref s1.heap.objs.size,upd H1 s1.heap.objs.size (.lst xs),I1.laid (t':=s1.toks) (fun b u e=>be _ e) (aE _) ?_,rfl,q _ hf⟩;exact⟨z,us,0,r,bQ _ rfl⟩
end
noncomputable abbrev Sp:=List V->Hp->VK->XK->Prop
noncomputable abbrev CXT:=List Env->Hp->Shared->XK->Value->Shared->Prop
structure Env0(P:Program)(w:World)(K:W.Frag)(mg:Str->Option Value)(base:Heap)(A:Around)(outer:List Env)(s:Shared)(H:Hp):Prop where
 frames:A.frames=some outer
 mod:Mod K mg base
 bs:∀ b o,base.get? b=some o->s.heap.get? b=some o/\H b=none
 bsz:base.objs.size<=s.heap.objs.size
 funs:s.heap.FunFrames base outer
 frf:∀ b∈frs outer,H b=none
 hok:HOk P w H s.heap
 bare:AllBare s.gens
noncomputable def CE(outer:List Env)(P:Program)(w:World)(H:Hp)(s:Shared)(Q:VK)(u:Value)(s':Shared):Prop :=
 ∃ v H',s'.os=s.os/\AllBare s'.gens/\Un (frs outer) [] H H' s.heap s'.heap/\HOk P w H' s'.heap/\RelV v u/\Q v H'
noncomputable def CR(CX:CXT)(outer:List Env)(P:Program)(w:World)(H:Hp)(s:Shared)(Q:VK)(E:XK)(r:Result)(s':Shared):Prop :=
 match r with
 | .ok (.ret u)=>CE outer P w H s Q u s'
 | .ok _=>False
 | .error e=>CX outer H s E e s'
structure FnOk(P:Program)(w:World)(K:W.Frag)(mg:Str->Option Value)(base:Heap)(CX:CXT)(k:Nat)(f:Addr)(fd:FuncData)(ps:List Str)(sp:Sp):Prop where
 len:∀ vs H Q E,sp vs H Q E->vs.length=ps.length
 run:∀ (A:Around) (outer:List Env) (s:Shared) (H:Hp) (args:Args) (us:List Value) (vs:List V) (Q:VK) (E:XK),Room k A->Env0 P w K mg base A outer s H->BindsTo s fd args (ps.zip us)->Vals vs us->sp vs H Q E ->
  codeAny (model P w) A (.call (.ref f) args) (CR CX outer P w H s Q E) s
section
variable{X:Cx}{pins:List (Addr×Obj)}{Z:St}{H:Hp}{s s':Shared}
theorem Inv.env0(I:Inv X pins Z H s):Env0 X.prog X.w X.K X.mg X.base X.A X.stack s H :=
 ⟨I.ok.frames,I.ok.mod,I.bs,bh I.ok.bsz I.sz,I.stack,I.stkFree,I.hok,I.bare⟩
theorem Inv.after{Q:VK}{u:Value}(I:Inv X pins Z H s)(h:CE X.stack X.prog X.w H s Q u s'):EP X pins Z Q u s':=by
 obtain⟨v,H',os,bare,un,hok,r,q⟩:=h;obtain⟨hh,g,d,t,os'⟩:=s';obtain rfl:os'=s.os:=os;exact⟨v,H',I.call (h':=hh) (g':=g) (d':=d) (t':=t) (ch:=[]) un hok bare (fun b z=>absurd z (by simp)),r,q⟩
end
def ij(sp:Sp)(dvs:List V)(E:XK)(t:TA):TE:=fun Z H Q=>t Z H fun vs H1=>sp (vs++dvs) H1 Q E
noncomputable def Binds(K:W.Frag)(fd:FuncData)(ps:List Str)(ds:List Value):Prop :=
 ∀ (s:Shared) (us:List Value),K.In s.heap->(us++ds).length=ps.length->BindsTo s fd ⟨us,[]⟩ (ps.zip (us++ds))
theorem Binds.all{K:W.Frag}{fd:FuncData}{ps:List Str}(h:∀ us:List Value,us.length=ps.length->bindArgs fd ⟨us,[]⟩=pure (ps.zip us)):Binds K fd ps []:=fun s us _ hl=>by
 rw[dW] at hl ⊢;exact .of_eq (h us hl)
def qb(CX:CXT)(X:Cx)(E:XK):Prop:=∀ (pins:List (Addr×Obj)) (Z:St) (H:Hp) (s:Shared) (e:Value) (s':Shared),Inv X pins Z H s->CX X.stack H s E e s'->X.xe e s'
section
variable{X:Cx}{CX:CXT}{k:Nat}{f C:Addr}{fd:FuncData}{ps:List Str}{sp:Sp}{dvs:List V}{ds:List Value}{E:XK}{x m:Str}{p pos apos:Pos}{e o:Expr}{es:List Expr}{ta:TE}{t:TA}
theorem run_fn{pins:List (Addr×Obj)}{Z:St}{H:Hp}{s:Shared}{Q:VK}{us:List Value}{vs:List V}(F:FnOk X.prog X.w X.K X.mg X.base CX k f fd ps sp)(hr:Room k X.A)(hb:Binds X.K fd ps ds)(hd:Vals dvs ds)(hx:qb CX X E)
  (I:Inv X pins Z H s) (r:Vals vs us) (h:sp (vs++dvs) H Q E):wpAny (model X.prog X.w) X.A (call (.ref f) us) (EP X pins Z Q) X.xe s:=by
 have r2:Vals (vs++dvs) (us++ds):=r.append hd;have hl:(us++ds).length=ps.length:=by rw[<-r2.length];exact F.len _ _ _ _ h
 refine wpAny_call (k8 (F.run X.A X.stack s H ⟨us,[]⟩ (us++ds) (vs++dvs) Q E hr I.env0 (hb s us I.kIn hl) r2 h) fun r s' hq=>?_);cases r with
 | error e=>exact hx pins Z H s e s' I hq
 | ok fl =>
  cases fl with
  | ret u=>exact I.after hq
  | next=>exact False.elim hq
  | brk=>exact False.elim hq
  | cont=>exact False.elim hq
theorem ZpA(F:FnOk X.prog X.w X.K X.mg X.base CX k f fd ps sp)(hr:Room k X.A)(hg:Gl X x)(hm:X.mg x=some (.ref f))(hk:PySem.W.keepIn X.K (.ref f)=true)(hb:Binds X.K fd ps ds)(hd:Vals dvs ds)(hx:qb CX X E)
  (ha:PA X (e::es) t) (hdb:(x == ("__debug__":Str))=false:=by decide) (he:starEach (e::es) X.env=(false,eval e X.env)::starEach es X.env:=by rfl) (hpl:(backTo pos (starEach es X.env)).any (·.1)=false:=by rfl) :
  PE X (.Call (.Name x p) (e::es) [] pos) (ij sp dvs E t):=by
 intro pins s Z H Q I h;refine np (v9 I hg hm ?_ hdb);refine PySem.W.callWith_K (h₀:=X.base) I.ok.mod.kin hk (thn (ha pos pins s Z H _ I h) fun us s1 ⟨vs,H1,I1,r,q⟩=>⟨I1.kIn,?_⟩) he hpl;exact run_fn F hr hb hd hx I1 r q
end
noncomputable def PK(X:Cx)(kws:List Keyword)(t:TA):Prop :=
 ∀ (pos:Pos) (pins:List (Addr×Obj)) (s:Shared) (Z:St) (H:Hp) (Q:List V->Hp->Prop),Inv X pins Z H s->t Z H Q->wpAny (model X.prog X.w) X.A (evalAll ((backToKw pos (keywordEach kws X.env)).map (·.2))) (AP X pins Z Q) X.xe s
structure FnScope(N P:List Str)(sc:Scope):Prop where
 kind:sc.kind=.function
 co:sc.isCoroutine=false
 gen:sc.isGenerator=false
 nd:N.Nodup
 pre:N.take P.length=P
 par:∀ x∈P,sc.names.lookup x=some .local\/sc.names.lookup x=some .cell
 nofree:∀ y∈sc.names,y.2≠.free
theorem wH{kindOf : Str->Option NameKind}{x : Str} : ∀ {binds : List (Str×Value)} {m : Str->Option Value}, (∀ v, (x, v)∉binds)->bindL kindOf binds m x=m x
  | [], _, _=>rfl
  | (n, v) :: r, m, h => by
    unfold bindL;rw[wH fun w hw=>h w (bw _ hw)];split
    . have : x ≠ n := by rintro rfl; exact h v aO
      simp[this]
    . rfl
theorem xK{kindOf : Str->Option NameKind}{x : Str} : ∀ {binds : List (Str×Value)} {m : Str->Option Value}, (∀ v, (x, v)∉binds)->bindC kindOf binds m x=m x
  | [], _, _=>rfl
  | (n, v) :: r, m, h => by
    unfold bindC;rw[xK fun w hw=>h w (bw _ hw)];split
    . rfl
    . have : x ≠ n := by rintro rfl; exact h v aO
      simp[this]
theorem uK{kindOf : Str->Option NameKind}{x : Str}{v : Value} : ∀ {P : List Str} {vs : List Value} {i : Nat} {m : Str->Option Value}, P.Nodup->P[i]?=some x->vs[i]?=some v->kindOf x=some .local ->
    bindL kindOf (P.zip vs) m x=some v
  | [], _, _, _, _, h, _, _=>by simp at h
  | _::_, [], _, _, _, _, h, _=>by simp at h
  | p :: P, w :: vs, 0, m, nd, h1, h2, hk => by
    simp at h1 h2;subst h1;subst h2;show bindL kindOf ((p,w)::P.zip vs) m p=_;unfold bindL;rw[wH fun v hv=>(dX.mp nd).1 (of_mem_zip hv).1,ak hk];simp
  | p :: P, w :: vs, i + 1, m, nd, h1, h2, hk => by
    show bindL kindOf ((p,w)::P.zip vs) m x=_;unfold bindL;exact uK (i:=i) (dX.mp nd).2 (by simpa using h1) (by simpa using h2) hk
theorem sS{kindOf : Str->Option NameKind}{x : Str}{v : Value} : ∀ {P : List Str} {vs : List Value} {i : Nat} {m : Str->Option Value}, P.Nodup->P[i]?=some x->vs[i]?=some v->kindOf x≠some .local ->
    bindC kindOf (P.zip vs) m x=some v
  | [], _, _, _, _, h, _, _=>by simp at h
  | _::_, [], _, _, _, _, h, _=>by simp at h
  | p :: P, w :: vs, 0, m, nd, h1, h2, hk => by
    simp at h1 h2;subst h1;subst h2;show bindC kindOf ((p,w)::P.zip vs) m p=_;unfold bindC;rw[xK fun v hv=>(dX.mp nd).1 (of_mem_zip hv).1,ao hk];simp
  | p :: P, w :: vs, i + 1, m, nd, h1, h2, hk => by
    show bindC kindOf ((p,w)::P.zip vs) m x=_;unfold bindC;exact sS (i:=i) (dX.mp nd).2 (by simpa using h1) (by simpa using h2) hk
noncomputable def start(N:List Str)(vs:List V):St:=vs.map some++List.replicate (N.length-vs.length) none
noncomputable def cxOf(CX:CXT)(P:Program)(w:World)(K:W.Frag)(mg:Str->Option Value)(base:Heap)(N:List Str)(qual:Str)(scope:Scope)(f:Addr)(cd:Value)(A:Around)(outer:List Env)(s:Shared)(H:Hp)(E:XK):Cx where
 prog:=P
 w:=w
 K:=K
 mg:=mg
 base:=base
 A:=A.deeper (envOfC qual scope s.heap.objs.size f cd)
 N:=N
 s₀:=s
 H₀:=H
 env:=envOfC qual scope s.heap.objs.size f cd
 outer:=outer
 stack:=envOfC qual scope s.heap.objs.size f cd::outer
 ex:=[]
 calm:=true
 fn:=fun _=>true
 pn:=[]
 xe:=fun e s'=>wpAny (model P w) (A.deeper (envOfC qual scope s.heap.objs.size f cd)) (leaving (envOfC qual scope s.heap.objs.size f cd) e) (fun _ s''=>CX outer H s E e s'') (fun e' s''=>CX outer H s E e' s'') s'
theorem wg{sc:Scope}{n:Nat}{x:Str}(h:sc.names.lookup x=some .cell):∃ c,(cellsFrom n sc.names []).lookup x=some c:=by
 have q:=PySem.W.cellsFrom_some sc.names n [] (.inl h);exact k9.mp q
theorem Zl5{CX:CXT}{P:Program}{w:World}{K:W.Frag}{mg:Str->Option Value}{base:Heap}{N ps:List Str}{qual:Str}{scope:Scope}{f:Addr}{cd:Value}{A:Around}{outer:List Env}{s s1:Shared}{H:Hp}{E:XK}{us:List Value}{vs:List V}
  (S:FnScope N ps scope) (hd:A.handled=none) (e0:Env0 P w K mg base A outer s H) (hl:vs.length=ps.length) (r:Vals vs us)
  (x:InCallC s s.heap.objs.size (bindL (envOfC qual scope s.heap.objs.size f cd).kindOf (ps.zip us) fun _=>none) (cellsFrom (s.heap.objs.size+1) scope.names []) (bindC (envOfC qual scope s.heap.objs.size f cd).kindOf (ps.zip us) fun _=>none) s1) :
  Inv (cxOf CX P w K mg base N qual scope f cd A outer s H E) [] (start N vs) H s1:=by
 have hpl:ps.length<=N.length:=by have:=congrArg List.length S.pre;rw[fu] at this;lia
 obtain⟨h1,tk,rfl,hk⟩:=x.done;have noA:∀ b:Addr,b∉(cxOf CX P w K mg base N qual scope f cd A outer s H E).ex:=fun b z=>absurd (show b∈([]:List Addr) from z) (by simp);refine⟨⟨e0.mod,S.kind,rfl,rfl,aE _,fun y z c h1 h2=>?_,fun y hy=>?_,fun y c _ h=>?_,fun _=>hd,Around.frames_deeper e0.frames,.inr ⟨rfl,rfl⟩,fun b z=>absurd z (noA b),e0.bs,e0.bsz,fun b _ _=>noA b,fun b z=>absurd z (noA b),e0.funs,e0.frf⟩,
  rfl,e0.bare,Un.kept hk,⟨_,x.toInCall.ns,fun i y v h1 h2 h3=>?_⟩,fun y c h=>⟨_,x.cell y c h⟩,e0.hok.fresh (aE _),fun y c h=>?_,fun p hp=>absurd (show p∈([]:List (Addr×Obj)) from hp) (by simp),e0.hok.kept hk,?_⟩
 .exact name_of_addr x.apart (PySem.mem_of_lookup h1) (PySem.mem_of_lookup h2)
 .have hy:scope.names.lookup y=some .cell\/scope.names.lookup y=some .free:=hy;rcases hy with hy|hy
  .exact wg hy
  .exact absurd rfl (S.nofree _ (PySem.mem_of_lookup hy))
 .exact gt (x.above y c (PySem.mem_of_lookup h))
 .have hi:i < vs.length:=by
   unfold start at h2;by_cases hi:i<vs.length
   .exact hi
   .rw[gu (by simpa using hi)] at h2;rw[jF] at h2;split at h2 <;> cases h2
  have ha:vs[i]?=some v:=by
   unfold start at h2;rw[cm (by simpa using hi),ah] at h2;cases e:vs[i]? with
   | none=>rw[e] at h2;cases h2
   | some a=>rw[e] at h2;cases h2;rfl
  obtain⟨u,hu,rv⟩:=r.get ha;have hp:ps[i]?=some y:=by
   rw[<-S.pre,getElem?_take_of_lt (by lia)];exact h1
  have ndP:ps.Nodup:=by rw[<-S.pre];exact S.nd.sublist (take_sublist _ _)
  refine⟨u,rv,?_⟩;rcases S.par y (aD hp) with k|k
  .exact .inl ⟨k,uK ndP hp hu k⟩
  .obtain ⟨c,e⟩:=wg (n:=s.heap.objs.size+1) k;refine .inr ⟨.inl k,c,e,?_⟩;have q:=x.cell y c e;rw[sS ndP hp hu (by show scope.names.lookup y≠_;rw[k];decide)] at q;exact q
 .exact e0.hok.fresh (gt (x.above y c (PySem.mem_of_lookup h)))
 .unfold start;show _=N.length;rw[aH,af,ir];lia
theorem fn_of{CX:CXT}{P:Program}{w:World}{K:W.Frag}{mg:Str->Option Value}{base:Heap}{k:Nat}{f:Addr}{name qual:Str}{params:Arguments}{body:List Stmt}{scope:Scope}{dV kV doc pm cdv ct oc:Value}{an od:Option Addr}
  {osl:Array (Option Value)} {N ps:List Str} {sp:Sp} (lk:K.lookup f=some ⟨oc,od,.func (PySem.W.fnOf name qual params body scope dV kV doc pm an cdv ct),osl⟩) (hcd:PySem.W.codeIn K cdv qual=true) (S:FnScope N ps scope)
  (len:∀ vs H Q E,sp vs H Q E->vs.length=ps.length)
  (hbody:∀ (A:Around) (outer:List Env) (s:Shared) (H:Hp) (vs:List V) (Q:VK) (E:XK),Room k (A.deeper (envOfC qual scope s.heap.objs.size f cdv))->sp vs H Q E ->
   ∃ t,PSs (cxOf CX P w K mg base N qual scope f cdv A outer s H E) body t/\t { nx:=fun _ H'=>Q .non H',rt:=Q } (start N vs) H) :
  FnOk P w K mg base CX (k+1) f (PySem.W.fnOf name qual params body scope dV kV doc pm an cdv ct) ps sp:=by
 refine⟨len,fun A outer s H args us vs Q E hr e0 hb r hsp=>?_⟩;have hl:=len _ _ _ _ hsp;have KX:K.In s.heap:=e0.mod.kin.keeps fun b o e=>(e0.bs b o e).1;have lim:s.heap.NoLimit:=e0.mod.nolimit.keeps fun b o e=>(e0.bs b o e).1;have hkind:∀ y∈ps.zip us,scope.names.lookup y.1=some .local\/(scope.names.lookup y.1=some .cell/\((cellsFrom (s.heap.objs.size+1) scope.names []).lookup y.1).isSome=true):=fun⟨n,v⟩ hy=>by
  rcases S.par n (of_mem_zip hy).1 with q|q
  .exact .inl q
  .exact .inr ⟨q,PySem.W.cellsFrom_some _ _ _ (.inl q)⟩
 refine codeAny_call_function hr.depth (KX _ _ lk) rfl S.co S.gen rfl (PySem.W.codeRec_of KX hcd) (hb _ _ _ _ ?_);refine wpAny_newFunctionEnv_cells S.kind hkind fun env he s1 x=>?_;subst he;refine⟨lim.keeps x.toInCall.keep,codeAny_func ?_⟩;obtain⟨t,ht,hq⟩:=hbody A outer s H vs Q E (hr.deeper _) hsp;have I:Inv (cxOf CX P w K mg base N qual scope f cdv A outer s H E) [] (start N vs) H s1:=Zl5 S hr.hd e0 hl r x;refine dw (ht [] s1 (start N vs) H _ I hq) (fun fl s' hs=>?_) fun e s' hs=>hs;have fin:∀ {σ':St} {H':Hp} {v:V} {u:Value},Inv (cxOf CX P w K mg base N qual scope f cdv A outer s H E) [] σ' H' s'->RelV v u->Q v H'->CE outer P w H s Q u s' :=
  fun {σ' H' v u} J rv q=>⟨v,H',J.os,J.bare,J.base,J.hok,rv,q⟩
 cases fl with
 | ret u =>
  obtain⟨v,σ',H',J,rv,q⟩:=hs;exact fin J rv q
 | next =>
  obtain⟨σ',H',J,q⟩:=hs;exact fin (v:=V.non) (u:=Value.none) J rfl q
 | brk =>
  obtain⟨_,_,_,q⟩:=hs;exact False.elim q
 | cont =>
  obtain⟨_,_,_,q⟩:=hs;exact False.elim q
end L2
namespace L2
open PySem PySem.Spec PyProof.Rows
section
variable{X:Cx}{x:Str}{p pos:Pos}{e:Expr}{es:List Expr}{t:TA}{id T:String}{r:List V->Hp->VK->Prop}
def tCB(r:List V->Hp->VK->Prop)(t:TA):TE:=fun Z H Q=>t Z H fun vs H1=>r vs H1 Q
theorem aG(hc:ca X (.builtin id) r)(hg:Gl X x)(hm:X.mg x=none)(hv:bootBuiltins x=some (.builtin id))(ha:PA X (e::es) t)(hn:x≠"__name__":=by decide)(hdb:(x == ("__debug__":Str))=false:=by decide)
  (he:starEach (e::es) X.env=(false,eval e X.env)::starEach es X.env:=by rfl) (hpl:(backTo pos (starEach es X.env)).any (·.1)=false:=by rfl):PE X (.Call (.Name x p) (e::es) [] pos) (tCB r t):=by
 intro pins s Z H Q I h;refine np (iE I hg hm hv ?_ hn hdb);exact yo (thn (ha pos pins s Z H _ I h) fun us s1 ⟨vs,H1,I1,r1,q1⟩=>hc pins s1 Z H1 vs us Q I1 r1 q1) he hpl
theorem cY(hc:ca X (.type T) r)(hg:Gl X x)(hm:X.mg x=none)(hv:bootBuiltins x=some (.type T))(ha:PA X (e::es) t)(hn:x≠"__name__":=by decide)(hdb:(x == ("__debug__":Str))=false:=by decide)
  (he:starEach (e::es) X.env=(false,eval e X.env)::starEach es X.env:=by rfl) (hpl:(backTo pos (starEach es X.env)).any (·.1)=false:=by rfl):PE X (.Call (.Name x p) (e::es) [] pos) (tCB r t):=by
 intro pins s Z H Q I h;refine np (iE I hg hm hv ?_ hn hdb);exact nh (thn (ha pos pins s Z H _ I h) fun us s1 ⟨vs,H1,I1,r1,q1⟩=>hc pins s1 Z H1 vs us Q I1 r1 q1) he hpl
end
end L2
namespace HT
open PySem PyProof.Rows
section
variable{prog:Program}{w:World}{A:Around}{E:Value->Shared->Prop}{s:Shared}
theorem cat_tup{t b:Addr}{vs ws:List Value}{Q:Value->Shared->Prop}(ht:IsTup s.heap t vs.toArray)(hb:IsTup s.heap b ws.toArray)(hv:vs≠[])
  (h1:ws=[]->Q (.ref t) s) (h2:ws≠[]->Q (.ref s.heap.objs.size) { s with heap:=s.heap.push { cls:=.type "tuple",data:=.seq (vs++ws).toArray } })
  (hsz:vs.length+ws.length<=sizeLine):wpAny (model prog w) A (binaryOp .Add (.ref t) (.ref b)) Q E s:=by
 obtain⟨⟨cls,dd,data,sl⟩,ho,hc,n,hd⟩:=id ht;obtain⟨⟨cls2,dd2,data2,sl2⟩,ho2,hc2,n2,hd2⟩:=id hb;simp only at hc hd hc2 hd2;subst hc hd hc2 hd2;have e:vs.toArray++ws.toArray=(vs++ws).toArray:=by simp
 by_cases hw:ws=[]
 .exact concat_meets ⟨_,ho,rfl⟩ ⟨_,ho2,rfl⟩ rV seq_tuple_add PySem.F.slot_tuple_add PySem.F.entry_tuple_add (PySem.F.args_tuple_add_2 _ _)
   (tuple_addW1 t b vs.toArray ws.toArray n n2 dd dd2 sl sl2 (by simpa using hv) (by simp[hw])) ⟨ho,ho2,h1 hw⟩
 .refine concat_meets ⟨_,ho,rfl⟩ ⟨_,ho2,rfl⟩ rV seq_tuple_add PySem.F.slot_tuple_add PySem.F.entry_tuple_add (PySem.F.args_tuple_add_2 _ _)
   (tuple_addW2 t b vs.toArray ws.toArray n n2 dd dd2 sl sl2 (by simpa using hv) (by simpa using hw) (by rw[bL,bL];exact hsz)) ⟨ho,ho2,?_⟩
  rw[e];exact h2 hw
noncomputable def sIx(n d:Nat):Option Int->Nat
 | none=>d
 | some v=>if v<0 then (v+(n:Int)).toNat else min v.toNat n
theorem sIx_le(n d:Nat)(hd:d<=n)(o:Option Int):sIx n d o<=n:=by
 cases o with
 | none=>exact hd
 | some v =>
  show (if v<0 then (v+(n:Int)).toNat else min v.toNat n)<=n;by_cases hv:v<0
  .rw[ak hv];lia
  .rw[ao hv];exact jG _ _
theorem clip_eq(v:Int)(n d:Nat):(if v<0 then max (v+(n:Int)) 0 else min v (n:Int))=((sIx n d (some v):Nat):Int):=by
 show (if v<0 then max (v+(n:Int)) 0 else min v (n:Int))=(((if v<0 then (v+(n:Int)).toNat else min v.toNat n):Nat):Int);by_cases hv:v<0
 .rw[ak hv,ak hv,Int.toNat_eq_max]
 .obtain ⟨m,rfl⟩:=rW (Int.not_lt.mp hv);rw[ao hv,ao hv];show min (m:Int) n=((min m n:Nat):Int);lia
theorem Zkl(lo hi:Option Int)(n:Nat):Builtin.Slice.sliceAdjust lo hi 1 (n:Int)=(((sIx n 0 lo:Nat):Int),((sIx n n hi:Nat):Int)):=by
 have h1:¬ ((1:Int)<0):=by lia
 unfold Builtin.Slice.sliceAdjust;simp only[h1,cv];refine Prod.ext ?_ ?_
 .cases lo with
  | none=>rfl
  | some v=>exact clip_eq v n 0
 .cases hi with
  | none=>rfl
  | some v=>exact clip_eq v n n
theorem ZjY(i j:Nat):Builtin.Slice.slicePlaces (i:Int) (j:Int) 1=j-i:=by
 unfold Builtin.Slice.slicePlaces;have h1:(1:Int)>0:=by lia
 simp only[h1,fQ,Int.ediv_one];split <;> lia
theorem xX{v:Value}{o:Option Int}{Q:Option Int->Shared->Prop}(p:IsPart v o)(h:Q o s):wpAny (model prog w) A (Builtin.Slice.slicePartIndex v) Q E s:=by
 cases p with
 | none=>exact slicePart_none h
 | int i t=>exact slicePart_int h
theorem yk{sl:Addr}{vl vu:Value}{lo hi:Option Int}{n:Nat}{Q:Int×Int×Nat->Shared->Prop}(hs:s.heap.IsSliceOf sl vl vu .none)(pl:IsPart vl lo)(pu:IsPart vu hi)
  (h:Q (((sIx n 0 lo:Nat):Int),1,sIx n n hi-sIx n 0 lo) s):wpAny (model prog w) A (Builtin.Slice.sliceApplied (.ref sl) (pure (n:Int))) Q E s:=by
 obtain⟨os,hos,hcs,hds⟩:=id hs;unfold Builtin.Slice.sliceApplied Builtin.Slice.sliceFields;refine ab (ab (cP hos hds (x:=vl) rfl (ab (cP hos hds (x:=vu) rfl (ab (cP hos hds (x:=.none) rfl (am ?_)))))));refine ab (slicePart_none ?_);show wpAny _ _ (if ((1:Int) == 0)=true then _ else _) _ _ s;rw[ao (by decide)];refine ab (xX pl (ab (xX pu (ab (am ?_)))));show wpAny _ _ (match Builtin.Slice.sliceAdjust lo hi 1 (n:Int) with|(lo,hi)=>pure (lo,(1:Int),Builtin.Slice.slicePlaces lo hi 1)) _ _ s;rw[Zkl lo hi n];show wpAny _ _ (pure (((sIx n 0 lo:Nat):Int),(1:Int),Builtin.Slice.slicePlaces ((sIx n 0 lo:Nat):Int) ((sIx n n hi:Nat):Int) 1)) _ _ s;rw[ZjY];exact am h
theorem Znt(xs:Array Value)(i k:Nat):((List.range k).filterMap fun(m:Nat)=>xs[((i:Int)+(m:Int)*1).toNat]?).toArray=((xs.toList.drop i).take k).toArray:=by
 have e:(fun(m:Nat)=>xs[((i:Int)+(m:Int)*1).toNat]?)=fun m=>xs[i+m]?:=by
  funext m
  have:((i:Int)+(m:Int)*1).toNat=i+m:=by lia
  rw[this]
 rw[e];have:=pick_run xs i k;rw[filterMap_map] at this;have e2:((fun x=>xs[x]?) ∘ fun x=>i+x)=fun m=>xs[i+m]?:=rfl;rw[e2] at this;rw[this]
theorem getItem_tuple_cut{t sl:Addr}{items:Array Value}{vl vu:Value}{lo hi:Option Int}{Q:Value->Shared->Prop}(ht:IsTup s.heap t items)(hs:s.heap.IsSliceOf sl vl vu .none)(pl:IsPart vl lo)(pu:IsPart vu hi)
  (hw:¬ (sIx items.size 0 lo=0/\sIx items.size items.size hi=items.size))
  (h:Q (.ref s.heap.objs.size) { s with heap:=s.heap.push { cls:=.type "tuple",data:=.seq ((items.toList.drop (sIx items.size 0 lo)).take (sIx items.size items.size hi-sIx items.size 0 lo)).toArray } })
  (hsz:items.size<=sizeLine):wpAny (model prog w) A (getItem (.ref t) (.ref sl)) Q E s:=by
 have htake:sizeOk (.seq ((items.toList.drop (sIx items.size 0 lo)).take (sIx items.size items.size hi-sIx items.size 0 lo)).toArray):=by
  show ((items.toList.drop (sIx items.size 0 lo)).take (sIx items.size items.size hi-sIx items.size 0 lo)).toArray.size<=sizeLine;rw[bL,fu,iX,ft];exact bh (jG _ _) (bh (jH _ _) hsz)
 have hj:sIx items.size items.size hi<=items.size:=sIx_le _ _ (aE _) hi;obtain⟨os,hos,hcs,hds⟩:=id hs;have hTs:s.TypeIs (.ref sl) "slice":=⟨os,hos,hcs⟩;unfold getItem
 try with_reducible refine eL ?_
 first|refine ab (am ?_)|skip
 refine ab (wpAny_sequenceKey ht.typeIs (by decide) ?_);refine ab (iu (name:=Str.ofString "__getitem__") ht.typeIs jI
  (eC jI ht.typeIs entry_tuple_getitem ?_ (args_tuple_getitem _ _)))
 show wpAny _ _ (Builtin.Tuple.tupleItemsOf (.ref t) >>= _) _ _ s;refine ab (tupleItemsOf_ ht ?_);refine ab (lb hTs ?_);rw[ak (by decide)];refine ab (yk hs pl pu ?_);have hno:¬ ((((sIx items.size 0 lo:Nat):Int) == 0&&(1:Int) == 1&&(sIx items.size items.size hi-sIx items.size 0 lo) == items.size)=true):=by
  intro q;rw[iw,iw] at q;have q1:((sIx items.size 0 lo:Nat):Int)=0:=eq_of_beq q.1.1;have q2:sIx items.size items.size hi-sIx items.size 0 lo=items.size:=eq_of_beq q.2;exact hw ⟨Int.ofNat.inj q1,Nat.le_antisymm hj (bh (ix q2.symm) (jH _ _))⟩
 show wpAny _ _ (if (((sIx items.size 0 lo:Nat):Int) == 0&&(1:Int) == 1&&(sIx items.size items.size hi-sIx items.size 0 lo) == items.size)=true then _ else _) _ _ s;rw[ao hno,Znt]
 first
  | exact ab (m:=Builtin.Tuple.tupleExact _) (eD (am ⟨_,rfl,am h⟩) htake)
  | exact ab (m:=Builtin.Tuple.tupleExact _) (eD (ab (am (am ⟨_,rfl,am h⟩))) htake)
  | exact ab (ab (m:=Builtin.Tuple.tupleExact _) (eD (am (am ⟨_,rfl,am h⟩)) htake))
  | exact ab (ab (m:=Builtin.Tuple.tupleExact _) (eD (am ⟨_,rfl,am h⟩) htake))
end
end HT
namespace L2
open PySem PySem.Spec PyProof.Rows
noncomputable abbrev TO:=St->Hp->(Option Int->Hp->Prop)->Prop
noncomputable def PO(X:Cx)(e:Option Expr)(t:TO):Prop :=
 ∀ (pins:List (Addr×Obj)) (s:Shared) (Z:St) (H:Hp) (Q:Option Int->Hp->Prop),Inv X pins Z H s->t Z H Q ->
  wpAny (model X.prog X.w) X.A (evalPart e X.env) (fun u s'=>∃ o H',Inv X pins Z H' s'/\IsPart u o/\Q o H') X.xe s
def ph:TO:=fun _ H Q=>Q none H
def qY(t:TE):TO:=fun Z H Q=>t Z H fun x H1=>∃ i,x=.int i/\Q (some i) H1
theorem intsAre_of{ns:List Int}:∀ {us:List Value},Vals (ns.map V.int) us->IntsAre us ns:=by
 induction ns with
 | nil=>intro us r;rw[gw] at r;cases r;exact .nil
 | cons n ns ih =>
  intro us r;rw[aL] at r;cases r with
  | cons r1 r2 =>
   obtain⟨t,e⟩:=r1;subst e;exact .cons n t (ih r2)
section
variable{X:Cx}{e:Expr}{te:TE}{lo hi:Option Expr}{tl th:TO}{pos p2:Pos}
theorem cM:PO X none ph:=by
 intro pins s Z H Q I h;rw[evalPart_none];exact am ⟨none,H,I,.none,h⟩
theorem cN(h:PE X e te):PO X (some e) (qY te):=by
 intro pins s Z H Q I hw;rw[evalPart_some];refine thn (h pins s Z H _ I hw) fun u s1 ⟨x,H1,I1,r1,q1⟩=>?_;obtain⟨i,rfl,q⟩:=q1;obtain⟨t,rfl⟩:=r1;exact⟨some i,H1,I1,.int i t,q⟩
noncomputable def SlR(X:Cx)(r:V->Option Int->Option Int->Hp->VK->Prop):Prop :=
 ∀ (pins:List (Addr×Obj)) (s:Shared) (Z:St) (H:Hp) (x:V) (v vl vu:Value) (lo hi:Option Int) (sl:Addr) (Q:VK),Inv X pins Z H s->RelV x v->s.heap.IsSliceOf sl vl vu .none->IsPart vl lo->IsPart vu hi->r x lo hi H Q ->
  ∃ T id,typeLookup (.type T) "__getitem__"=pure (some (.builtin id))/\s.TypeIs v T/\wpAny (model X.prog X.w) X.A (getItem v (.ref sl)) (EP X pins Z Q) X.xe s
def tSl(r:V->Option Int->Option Int->Hp->VK->Prop)(te:TE)(tl th:TO):TE:=fun Z H Q=>te Z H fun x H1=>tl Z H1 fun l H2=>th Z H2 fun u H3=>r x l u H3 Q
theorem cI{r:V->Option Int->Option Int->Hp->VK->Prop}(hr:SlR X r)(he:PE X e te)(hl:PO X lo tl)(hu:PO X hi th):PE X (.Subscript e (.Slice lo hi none p2) pos) (tSl r te tl th):=by
 intro pins s Z H Q I h;refine Subscript_ (thn (he pins s Z H _ I h) fun v s1 z0_=>?_);obtain⟨x,H1,I1,r1,q1⟩:=z0_;refine wpAny_Slice (thn (hl pins s1 Z H1 _ I1 q1) fun vl s2 ⟨l,H2,I2,pl,q2⟩=>thn (hu pins s2 Z H2 _ I2 q2) fun vu s3 z1_=>?_);obtain⟨u,H3,I3,pu,q3⟩:=z1_;rw[evalPart_none];refine am ?_;have I4:Inv X pins Z H3 { s3 with heap:=s3.heap.push { cls:=.type "slice",data:=.fields #[vl,vu,.none] } }:=I3.kept (t':=s3.toks) fun b ob q=>be _ q;obtain⟨T,id,hT,ht,hg⟩:=hr pins { s3 with heap:=s3.heap.push { cls:=.type "slice",data:=.fields #[vl,vu,.none] } } Z H3 x v vl vu l u s3.heap.objs.size Q I4 r1 (Heap.IsSliceOf.new ..) pl pu q3;show wpAny (model X.prog X.w) X.A (subscriptTail e (.Slice lo hi none p2) v (.ref s3.heap.objs.size)) (EP X pins Z Q) X.xe { s3 with heap:=s3.heap.push { cls:=.type "slice",data:=.fields #[vl,vu,.none] } };exact tail_any (ops:=[.ref s3.heap.objs.size,v]) ht hT hg (by with_unfolding_all rfl)
noncomputable def cutV(xs:List V)(lo hi:Option Int):List V:=(xs.drop (HT.sIx xs.length 0 lo)).take (HT.sIx xs.length xs.length hi-HT.sIx xs.length 0 lo)
theorem uU(xs:List V)(lo hi:Option Int):(cutV xs lo hi).length<=xs.length:=by
 unfold cutV;rw[fu,iX];exact bh (jG _ _) (jH _ _)
noncomputable def rSlT(K:W.Frag):V->Option Int->Option Int->Hp->VK->Prop:=fun x lo hi H Q=>∃ a xs,x=.ref a/\SqT K H a xs /\
 ¬ (HT.sIx xs.length 0 lo=0/\HT.sIx xs.length xs.length hi=xs.length)/\∀ p,H p=none->Q (.ref p) (upd H p (.tup (cutV xs lo hi)))
theorem sl_tup:SlR X (rSlT X.K):=by
 intro pins s Z H x v vl vu lo hi sl Q I rx hs pl pu h;obtain⟨a,xs,rfl,hx,hw,q⟩:=h;cases rx;obtain⟨its,r,ht,hz⟩:=I.tuple hx;have hlen:its.toArray.size=xs.length:=by rw[bL];exact r.length.symm
 refine⟨"tuple",_,jI.lookup,ht.typeIs,?_⟩;refine HT.getItem_tuple_cut ht hs pl pu (by rw[hlen];exact hw) ?_ (by rw[hlen];exact hz);rw[hlen];refine⟨.ref s.heap.objs.size,_,I.laid (t':=s.toks) (o:=.tup (cutV xs lo hi)) (fun b ob q=>be _ q) (aE _) ?_,rfl,q _ (I.hok.fresh (aE _))⟩;exact⟨bh (uU xs lo hi) hz,_,(r.drop (HT.sIx xs.length 0 lo)).take (HT.sIx xs.length xs.length hi-HT.sIx xs.length 0 lo),IsTup.new _ _⟩
def rCatT(K:W.Frag):R2:=fun x y H Q=>∃ a b xs ys,x=.ref a/\y=.ref b/\SqT K H a xs/\SqT K H b ys/\xs≠[]/\xs.length+ys.length<=sizeLine /\
 (ys=[]->Q (.ref a) H)/\(ys≠[]->∀ p,H p=none->Q (.ref p) (upd H p (.tup (xs++ys))))
theorem Vals.nil_iff{xs:List V}{us:List Value}(r:Vals xs us):us=[]↔xs=[]:=by
 cases r with
 | nil=>simp
 | cons _ _=>simp
theorem ZpH:OpR X (binaryOp .Add) (rCatT X.K):=by
 intro pins s Z H x y v u Q I rx ry h;obtain⟨a,b,xs,ys,rfl,rfl,ha,hb,hx,hz,q1,q2⟩:=h;cases rx;cases ry;obtain⟨its,r1,p1,_⟩:=I.tuple ha;obtain⟨its2,r2,p2,_⟩:=I.tuple hb;refine HT.cat_tup p1 p2 (fun z=>hx (r1.nil_iff.mp z)) (fun z=>⟨.ref a,H,I,rfl,q1 (r2.nil_iff.mp z)⟩) (fun z=>?_) (by rw[<-r1.length,<- r2.length];exact hz);refine⟨.ref s.heap.objs.size,_,I.laid (t':=s.toks) (o:=.tup (xs++ys)) (fun b ob q=>be _ q) (aE _) ?_,rfl,q2 (fun w=>z (r2.nil_iff.mpr w)) _ (I.hok.fresh (aE _))⟩;exact⟨by rw[aH];exact hz,_,r1.append r2,IsTup.new _ _⟩
end
end L2
namespace L2
open PySem PySem.Spec PyProof.Rows
noncomputable def ixN(n:Nat)(i:Int):Option Nat:=if 0<=i then (if i<n then some i.toNat else none) else if -(n:Int)<=i then some (i+n).toNat else none
noncomputable def atI{α:Type}(xs:List α)(i:Int):Option α:=(ixN xs.length i).bind fun j=>xs[j]?
theorem xA{n:Nat}{i:Int}{j:Nat}(h:ixN n i=some j):seqIndex? i n=some j/\j<n/\-(n:Int)<=i/\i<n:=by
 unfold ixN at h;by_cases h0:0<=i
 .rw[ak h0] at h;by_cases h1:i < n
  .rw[ak h1] at h;have e:i.toNat=j:=Option.some.inj h;exact⟨by rw[seqIndex_of h0 h1,e],by lia,by lia,h1⟩
  .rw[ao h1] at h;cases h
 .rw[ao h0] at h;by_cases h1:-(n:Int)<=i
  .rw[ak h1] at h;have e:(i+n).toNat=j:=Option.some.inj h;exact⟨by rw[seqIndex_neg (by lia) h1,e],by lia,h1,by lia⟩
  .rw[ao h1] at h;cases h
theorem vG{α:Type}{xs:List α}{i:Int}{v:α}(h:atI xs i=some v):∃ j,seqIndex? i xs.length=some j/\xs[j]?=some v/\j<xs.length/\-(xs.length:Int)<=i/\i<xs.length:=by
 unfold atI at h;cases e:ixN xs.length i with
 | none=>rw[e] at h;cases h
 | some j =>
  rw[e] at h;obtain⟨h1,h2,h3,h4⟩:=xA e;exact⟨j,h1,h,h2,h3,h4⟩
def xk(b:Expr):Prop:=∀ o i,subscripted b false o i=operate [o,i] (getItem o i)
noncomputable def IxR(X:Cx)(r:R2):Prop :=
 ∀ (value slice:Expr) (pins:List (Addr×Obj)) (s:Shared) (Z:St) (H:Hp) (x y:V) (v u:Value) (Q:VK),Inv X pins Z H s->RelV x v->RelV y u->r x y H Q ->
  subscripted slice false v u=operate [v,u] (getItem v u)->wpAny (model X.prog X.w) X.A (subscriptTail value slice v u) (EP X pins Z Q) X.xe s
noncomputable def MtR(X:Cx)(id:String)(r:V->List V->Hp->VK->Prop):Prop :=
 ∀ (pins:List (Addr×Obj)) (s:Shared) (Z:St) (H:Hp) (x:V) (xs:List V) (v:Value) (us:List Value) (Q:VK),Inv X pins Z H s->RelV x v->Vals xs us->r x xs H Q ->
  wpAny (model X.prog X.w) X.A (call (.builtin id) (v::us)) (EP X pins Z Q) X.xe s
section
variable{X:Cx}{a b:Expr}{ta tb:TE}{pos:Pos}
theorem IxR.or{r r':R2}(h:IxR X r)(h':IxR X r'):IxR X (fun x y H Q=>r x y H Q\/r' x y H Q):=by
 intro value slice pins s Z H x y v u Q I rx ry q hs;rcases q with q|q
 .exact h value slice pins s Z H x y v u Q I rx ry q hs
 .exact h' value slice pins s Z H x y v u Q I rx ry q hs
theorem hV{r:R2}(hr:IxR X r)(ha:PE X a ta)(hb:PE X b tb)(hs:xk b):PE X (.Subscript a b pos) (tOp r ta tb):=by
 intro pins s Z H Q I h;exact Subscript_ (binT ha hb I h fun v u s2 x y H2 I2 rx ry q=>hr a b pins s2 Z H2 x y v u Q I2 rx ry q (hs _ _))
def rIxL(K:W.Frag):R2:=fun x y H Q=>∃ p xs i v,x=.ref p/\y=.int i/\SqL K H p xs/\atI xs i=some v/\Q v H
def rIxT(K:W.Frag):R2:=fun x y H Q=>∃ p xs i v,x=.ref p/\y=.int i/\SqT K H p xs/\atI xs i=some v/\Q v H
theorem ix_list:IxR X (rIxL X.K):=by
 intro value slice pins s Z H x y v u Q I rx ry h hs;obtain⟨p,xs,i,z,rfl,rfl,hq,he,q⟩:=h;cases rx;obtain⟨t,rfl⟩:=ry;obtain⟨its,r,pl,hz⟩:=I.list hq;obtain⟨j,h1,h2,h3,h4,h5⟩:=vG he;obtain⟨w,ew,rw'⟩:=r.get h2;have hl:=r.length;have hn:=lJ;have fin:EP X pins Z Q w s:=⟨z,H,I,rw',q⟩;by_cases h0:0<=i
 .have hj:i.toNat=j:=by
   rw[seqIndex_of h0 h5] at h1;exact Option.some.inj h1
  exact item_listR pl.isList h0 (by lia) (by rw[hj];simpa using ew) fin hs
 .have hj:(i+(its.toArray.size:Int)).toNat=j:=by
   rw[seqIndex_neg (by lia) h4] at h1;rw[bL,<- hl];exact Option.some.inj h1
  exact subscriptTail_builtinR (x:=w) pl.isList.typeIs slot_list_getitem.lookup
   (wpAny_getItem_list_neg (Q:=fun r s'=>r=w/\EP X pins Z Q r s') pl.isList (by lia) (by rw[bL] <;> lia) (by lia) (by rw[hj];simpa using ew) ⟨rfl,fin⟩) hs
theorem ix_tup:IxR X (rIxT X.K):=by
 intro value slice pins s Z H x y v u Q I rx ry h hs;obtain⟨p,xs,i,z,rfl,rfl,hq,he,q⟩:=h;cases rx;obtain⟨t,rfl⟩:=ry;obtain⟨its,r,pl,hz⟩:=I.tuple hq;obtain⟨j,h1,h2,h3,h4,h5⟩:=vG he;obtain⟨w,ew,rw'⟩:=r.get h2;have hl:=r.length;have hn:=lJ;have fin:EP X pins Z Q w s:=⟨z,H,I,rw',q⟩;exact subscriptTail_builtinR (x:=w) pl.typeIs jI.lookup
  (getItem_tuple (j:=j) (Q:=fun r s'=>r=w/\EP X pins Z Q r s') pl (by lia) (by lia) (by rw[bL,<- hl];exact h1) (by simpa using ew) ⟨rfl,fin⟩) hs
theorem Zj0(its:List Value)(n j:Nat)(u:Value):Obj.mapSeq (·.setIfInBounds j u) { cls:=.type "list",data:=.seq its.toArray n }={ cls:=.type "list",data:=.seq (its.set j u).toArray n }:=by
 simp[Obj.mapSeq]
theorem Inv.lst{pins:List (Addr×Obj)}{Z:St}{H:Hp}{s:Shared}{p:Addr}{xs:List V}(I:Inv X pins Z H s)(h:H p=some (.lst xs)) :
  ∃ (its:List Value) (n:Nat),Vals xs its/\s.heap.get? p=some { cls:=.type "list",data:=.seq its.toArray n }/\xs.length<=sizeLine:=by
 obtain⟨z,its,n,r,e⟩:=I.hok p _ h;exact⟨its,n,r,e,z⟩
theorem Inv.lstUpd{pins:List (Addr×Obj)}{Z:St}{H:Hp}{s:Shared}{p:Addr}{xs ys:List V}{its its':List Value}{n n':Nat}{f:Obj->Obj}(I:Inv X pins Z H s)(h:H p=some (.lst xs))
  (ho:s.heap.get? p=some { cls:=.type "list",data:=.seq its.toArray n }) (hf:f { cls:=.type "list",data:=.seq its.toArray n }={ cls:=.type "list",data:=.seq its'.toArray n' }) (r:Vals ys its') (hz:ys.length<=sizeLine) (t:Nat) :
  Inv X pins Z (upd H p (.lst ys)) { s with heap:=s.heap.update p f,toks:=t }:=by
 have e:(s.heap.update p f).get? p=some { cls:=.type "list",data:=.seq its'.toArray n' }:=by
  rw[jJ f ho (by rw[hf] <;> rfl),hf]
 refine I.write (x:=p) (e:=p) (by rw[h];trivial) (.inl rfl) (fun b u hb q=>(lc _ _ (Ne.symm hb)).trans q) ⟨_,e⟩ ?_;exact⟨hz,its',n',r,e⟩
noncomputable def lP:V->V->V->Hp->(Hp->Prop)->Prop:=fun o i v H Q=>∃ p xs k j,o=.ref p/\i=.int k/\H p=some (.lst xs)/\ixN xs.length k=some j/\Q (upd H p (.lst (xs.set j v)))
theorem cK:PSet X lP:=by
 intro pins s Z H o i v ov iv u Q I ro ri rv h;obtain⟨p,xs,k,j,rfl,rfl,hp,hj,q⟩:=h;cases ro;obtain⟨t,rfl⟩:=ri;obtain⟨its,n,r,ho,hz⟩:=I.lst hp;obtain⟨h1,h2,h3,h4⟩:=xA hj;have hl:=r.length;have hn:=lJ;have I':Inv X pins Z (upd H p (.lst (xs.set j v))) { s with heap:=s.heap.update p (Obj.mapSeq (·.setIfInBounds j u)) } :=
  I.lstUpd hp ho (Zj0 its n j u) (r.set rv j) (by rw[cQ];exact hz) s.toks
 by_cases h0:0<=k
 .have hk:k.toNat=j:=by
   rw[seqIndex_of h0 h4] at h1;exact Option.some.inj h1
  exact PySem.W.ki_setAt ho h0 (by lia) (by rw[bL,<- hl];exact h4) (by rw[hk];exact⟨_,I',q⟩)
 .have hk:(k+(its.toArray.size:Int)).toNat=j:=by
   rw[seqIndex_neg (by lia) h3] at h1;rw[bL,<- hl];exact Option.some.inj h1
  exact PySem.W.ki_setBack ho (by lia) (by rw[bL,<- hl];exact h3) (by lia) (by rw[hk];exact⟨_,I',q⟩)
theorem ZgY(lo hi:Option Int)(n:Nat):(sliceBounds lo hi none n).1=((HT.sIx n 0 lo:Nat):Int)/\(sliceBounds lo hi none n).2.1=((HT.sIx n n hi:Nat):Int)/\(sliceBounds lo hi none n).2.2=1:=by
 have tb:∀ (i:Int) (n d:Nat),(if (1:Int)>0 then max 0 (min (if i<0 then i+n else i) n) else max (-1) (min (if i<0 then i+n else i) ((n:Int)-1)))=((HT.sIx n d (some i):Nat):Int):=by
  intro i n d;rw[ak (by decide),<- HT.clip_eq i n d];by_cases h:i<0
  .rw[ak h,ak h];lia
  .rw[ao h,ao h];lia
 refine⟨?_,?_,rfl⟩
 .cases lo with
  | none=>rfl
  | some i=>exact tb i n 0
 .cases hi with
  | none=>rfl
  | some i=>exact tb i n n
theorem Zf7(its:List Value)(lo hi:Option Int):slicePick its.toArray lo hi none=((its.drop (HT.sIx its.length 0 lo)).take (HT.sIx its.length its.length hi-HT.sIx its.length 0 lo)).toArray:=by
 obtain⟨h1,h2,h3⟩:=ZgY lo hi its.toArray.size;unfold slicePick;rw[h1,h2,h3];simp only[sliceRange_one,pick_run,bL] <;> rfl
noncomputable def rSlL(K:W.Frag):V->Option Int->Option Int->Hp->VK->Prop:=fun x lo hi H Q=>∃ a xs,x=.ref a/\SqL K H a xs/\∀ p,H p=none->Q (.ref p) (upd H p (.lst (cutV xs lo hi)))
theorem Zo9:SlR X (rSlL X.K):=by
 intro pins s Z H x v vl vu lo hi sl Q I rx hs pl pu h;obtain⟨a,xs,rfl,hx,q⟩:=h;cases rx;obtain⟨its,r,ht,hz⟩:=I.list hx;have hlen:=r.length;refine⟨"list",_,slot_list_getitem.lookup,ht.isList.typeIs,?_⟩;refine wpAny_getItem_list_slice ht.isList hs pl pu .none (by simp) ?_ (by rw[bL] <;> lia);rw[Zf7,<- hlen];refine⟨.ref s.heap.objs.size,_,I.laid (t':=s.toks) (o:=.lst (cutV xs lo hi)) (fun b ob q=>be _ q) (aE _) ?_,rfl,q _ (I.hok.fresh (aE _))⟩;exact⟨bh (uU xs lo hi) hz,_,0,(r.drop (HT.sIx xs.length 0 lo)).take (HT.sIx xs.length xs.length hi-HT.sIx xs.length 0 lo),bQ _ rfl⟩
noncomputable def fZ:V->Bool
 | .non=>true
 | .bl _=>true
 | .int _=>true
 | .str _=>true
 | _=>false
noncomputable def eqV:V->V->Bool
 | .non,.non=>true
 | .bl a,.bl b=>a == b
 | .bl a,.int b=>(if a then 1 else 0) == b
 | .int a,.bl b=>a == (if b then 1 else 0)
 | .int a,.int b=>a == b
 | .str a,.str b=>a == b
 | _,_=>false
theorem eqAt_V{A:Around}{s:Shared}{y x:V}{u v:Value}(ry:RelV y u)(rx:RelV x v)(fy:fZ y=true)(fx:fZ x=true):SeqAt.EqAt A s u v (eqV y x):=by
 cases y with
 | non =>
  cases ry;cases x with
  | non=>cases rx;exact SeqAt.EqAt.same _
  | bl b=>cases rx;exact SeqAt.EqAt.none_bool b
  | int b=>obtain⟨t,rfl⟩:=rx;exact yp b t
  | str b=>obtain⟨t,rfl⟩:=rx;exact yq b t
  | _=>exact absurd (show false=true from fx) bF
 | bl a =>
  cases ry;cases x with
  | non=>cases rx;exact SeqAt.EqAt.bool_none a
  | bl b=>cases rx;exact SeqAt.EqAt.bool_bool a b
  | int b=>obtain⟨t,rfl⟩:=rx;exact SeqAt.EqAt.bool_int a b t
  | str b=>obtain⟨t,rfl⟩:=rx;exact SeqAt.EqAt.bool_str a b t
  | _=>exact absurd (show false=true from fx) bF
 | int a =>
  obtain⟨t',rfl⟩:=ry;cases x with
  | non=>cases rx;exact yr a t'
  | bl b=>cases rx;exact SeqAt.EqAt.int_bool a t' b
  | int b=>obtain⟨t,rfl⟩:=rx;exact rX a t' b t
  | str b=>obtain⟨t,rfl⟩:=rx;exact rS a t' b t
  | _=>exact absurd (show false=true from fx) bF
 | str a =>
  obtain⟨t',rfl⟩:=ry;cases x with
  | non=>cases rx;exact yt a t'
  | bl b=>cases rx;exact SeqAt.EqAt.str_bool a t' b
  | int b=>obtain⟨t,rfl⟩:=rx;exact rT a t' b t
  | str b=>obtain⟨t,rfl⟩:=rx;exact rY a t' b t
  | _=>exact absurd (show false=true from fx) bF
 | _=>exact absurd (show false=true from fy) bF
noncomputable def eqU(x:V)(u:Value):Bool:=match u with
 | .none=>eqV .non x
 | .bool b=>eqV (.bl b) x
 | .int i _=>eqV (.int i) x
 | .str z _=>eqV (.str z) x
 | _=>false
theorem xy{x y:V}{u:Value}(r:RelV y u)(f:fZ y=true):eqU x u=eqV y x:=by
 cases y with
 | non=>cases r;rfl
 | bl b=>cases r;rfl
 | int i=>obtain⟨t,rfl⟩:=r;rfl
 | str z=>obtain⟨t,rfl⟩:=r;rfl
 | _=>exact absurd (show false=true from f) bF
theorem km{x : V} : ∀ {xs : List V} {us : List Value}, Vals xs us->xs.all fZ=true->us.any (eqU x)=xs.any fun y=>eqV y x
  | _, _, .nil, _=>rfl
  | y :: xs, u :: us, .cons r t, f => by
    rw[all_cons,iw] at f;rw[gK, gK, xy r f.1, km t f.2]
theorem jU{A : Around}{s : Shared}{x : V}{v : Value}(rx : RelV x v)(fx : fZ x=true) : ∀ {xs : List V} {us : List Value}, Vals xs us->xs.all fZ=true->∀ u∈us, SeqAt.EqAt A s u v (eqU x u)
  | _, _, .nil, _=>fun u hu=>by cases hu
  | y :: xs, u :: us, .cons r t, f => fun u' hu => by
    rw[all_cons,iw] at f;rcases aJ.mp hu with rfl|hu
    . rw[xy r f.1]; exact eqAt_V r rx f.1 fx
    . exact jU rx fx t f.2 u' hu
noncomputable def inV(x:V)(xs:List V):Bool:=xs.any fun y=>eqV y x
def rIn(K:W.Frag)(neg:Bool):R2:=fun x y H Q=>∃ p xs,y=.ref p/\(SqL K H p xs\/SqT K H p xs)/\fZ x=true/\xs.all fZ=true/\Q (.bl (if neg then !inV x xs else inV x xs)) H
theorem Zlz:OpR X (compareOp .In) (rIn X.K false):=by
 intro pins s Z H x y v u Q I rx ry h;obtain⟨p,xs,rfl,hq,fx,fs,q⟩:=h;cases ry;rcases hq with hq|hq
 .obtain ⟨its,r,pl,hz⟩:=I.list hq;refine SeqAt.in_listAt (eqU x) pl.isList (fun w hw=>jU rx fx r fs w (by simpa using hw)) ⟨.bl _,H,I,rfl,?_⟩;rw[show its.toArray.any (eqU x)=its.any (eqU x) by simp,km r fs];exact q
 .obtain ⟨its,r,pl,hz⟩:=I.tuple hq;refine SeqAt.in_tupleAt (eqU x) pl (fun w hw=>jU rx fx r fs w (by simpa using hw)) ⟨.bl _,H,I,rfl,?_⟩;rw[show its.toArray.any (eqU x)=its.any (eqU x) by simp,km r fs];exact q
theorem Zhj:OpR X (compareOp .NotIn) (rIn X.K true):=by
 intro pins s Z H x y v u Q I rx ry h;obtain⟨p,xs,rfl,hq,fx,fs,q⟩:=h;cases ry;rcases hq with hq|hq
 .obtain ⟨its,r,pl,hz⟩:=I.list hq;refine SeqAt.notIn_listAt (eqU x) pl.isList (fun w hw=>jU rx fx r fs w (by simpa using hw)) ⟨.bl _,H,I,rfl,?_⟩;rw[show its.toArray.any (eqU x)=its.any (eqU x) by simp,km r fs];exact q
 .obtain ⟨its,r,pl,hz⟩:=I.tuple hq;refine SeqAt.notIn_tupleAt (eqU x) pl (fun w hw=>jU rx fx r fs w (by simpa using hw)) ⟨.bl _,H,I,rfl,?_⟩;rw[show its.toArray.any (eqU x)=its.any (eqU x) by simp,km r fs];exact q
theorem ZhD:ca X (.type "list") (fun xs H Q=>∃ p ys,xs=[.ref p]/\(SqL X.K H p ys\/SqT X.K H p ys)/\∀ l,H l=none->Q (.ref l) (upd H l (.lst ys))):=by
 intro pins s Z H xs us Q I r h;obtain⟨p,ys,rfl,hq,q⟩:=h;obtain⟨u,rfl,rx⟩:=vals1 r;cases rx;have fin:∀ (its:List Value),Vals ys its->ys.length<=sizeLine->∀ (h':Heap) (c':Nat),(∀ b o',s.heap.get? b=some o'->h'.get? b=some o') ->
   h'.get? s.heap.objs.size=some { cls:=.type "list",dict:=none,data:=.seq its.toArray c',slots:=#[] }->EP X pins Z Q (.ref s.heap.objs.size) { s with heap:=h' }:=fun its r' hz h' c' kp e =>
  ⟨.ref s.heap.objs.size,_,I.laid (t':=s.toks) kp (aE _) (show ObjOk X.prog X.w _ h' _ (.lst ys) from ⟨hz,its,c',r',e⟩),rfl,q _ (I.hok.fresh (aE _))⟩
 rcases hq with hq|hq
 .obtain ⟨its,r',pl,hz⟩:=I.list hq;have hlen:=r'.length;obtain⟨o,ho,hc,n,hd⟩:=pl.isList;exact call_list_seq p (.inl rfl) ho hc hd (fun h' c' kp e=>fin its r' hz h' c' kp e) (by simp only[bL] <;> lia)
 .obtain ⟨its,r',pl,hz⟩:=I.tuple hq;have hlen:=r'.length;obtain⟨o,ho,hc,n,hd⟩:=pl;exact call_list_seq p (.inr rfl) ho hc hd (fun h' c' kp e=>fin its r' hz h' c' kp e) (by simp only[bL] <;> lia)
theorem ZgG:ca X (.type "tuple") (fun xs H Q=>∃ p ys,xs=[.ref p]/\((SqL X.K H p ys/\∀ l,H l=none->Q (.ref l) (upd H l (.tup ys)))\/(SqT X.K H p ys/\Q (.ref p) H))):=by
 intro pins s Z H xs us Q I r h;obtain⟨p,ys,rfl,h⟩:=h;obtain⟨u,rfl,rx⟩:=vals1 r;cases rx;rcases h with ⟨hq,q⟩|⟨hq,q⟩
 .obtain ⟨its,r',pl,hz⟩:=I.list hq;have hlen:=r'.length;refine call_tuple_list pl.isList (fun h' kp=>?_) (by simp only[bL] <;> lia);have I1:Inv X pins Z H { s with heap:=h' }:=I.kept (t':=s.toks) kp;have I2:Inv X pins Z (upd H h'.objs.size (.tup ys)) { s with heap:=h'.push { cls:=.type "tuple",data:=.seq its.toArray } } :=
   I1.laid (t':=s.toks) (fun b o e=>be _ e) (aE _) (show ObjOk X.prog X.w _ _ _ (.tup ys) from ⟨hz,its,r',IsTup.new _ _⟩)
  exact⟨.ref h'.objs.size,_,I2,rfl,q _ (I1.hok.fresh (aE _))⟩
 .obtain ⟨its,r',pl,hz⟩:=I.tuple hq;exact call_tuple_same pl ⟨.ref p,H,I,rfl,q⟩
def tyV(K:W.Frag)(T:String)(x:V)(H:Hp):Prop:=match x with
 | .str _=>T="str"
 | .int _=>T="int"
 | .ref p=>(T="list"/\∃ xs,SqL K H p xs)\/(T="tuple"/\∃ o,K.lookup p=some o/\o.cls=.type "tuple"/\o.dict=none) \/
   (T="dict"/\((∃ kvs,H p=some (.dK kvs))\/∃ kvs,H p=some (.dT kvs)))\/(T="set"/\∃ S n,H p=some (.set S n))
 | _=>False
theorem xP{pins:List (Addr×Obj)}{Z:St}{H:Hp}{s:Shared}{T:String}{x:V}{v:Value}(I:Inv X pins Z H s)(r:RelV x v)(ty:tyV X.K T x H) :
  s.TypeIs v T/\∀ a,v=.ref a->∃ ob,s.heap.get? a=some ob/\ob.dict=none:=by
 cases x with
 | str z =>
  obtain⟨t,rfl⟩:=r;cases (show T="str" from ty);exact⟨typeIs_str s z t,fun _ e=>nomatch e⟩
 | int i =>
  obtain⟨t,rfl⟩:=r;cases (show T="int" from ty);exact⟨typeIs_int s i t,fun _ e=>nomatch e⟩
 | ref p =>
  cases r;rcases ty with ⟨rfl,xs,hq⟩|⟨rfl,o,hk,hc,hd⟩|⟨rfl,hk⟩|⟨rfl,S,n,hk⟩
  .obtain ⟨its,_,pl,_⟩:=I.list hq;refine⟨pl.isList.typeIs,fun a e=>?_⟩;cases e;obtain⟨o,n,e,c,hd,_⟩:=pl;exact⟨o,e,hd⟩
  .refine ⟨⟨o,I.kIn p o hk,hc⟩,fun a e=>?_⟩;cases e;exact⟨o,I.kIn _ o hk,hd⟩
  .have z:∃ o,s.heap.get? p=some o/\o.ExactDict:=by
    rcases hk with ⟨kvs,hk⟩|⟨kvs,hk⟩
    .obtain ⟨_,_,_,_,o,_,_,e,ex,_⟩:=I.hok p _ hk;exact⟨o,e,ex⟩
    .obtain ⟨_,_,_,_,o,_,_,e,ex,_⟩:=I.hok p _ hk;exact⟨o,e,ex⟩
   obtain⟨o,e,ex⟩:=z;refine⟨⟨o,e,ex.1⟩,fun a e2=>?_⟩;cases e2;exact⟨o,e,ex.2.1⟩
  .obtain ⟨o,_,_,_,e,ex,_⟩:=I.hok p _ hk;refine⟨⟨o,e,ex.1⟩,fun a e2=>?_⟩;cases e2;exact⟨o,e,ex.2.1⟩
 | _=>exact False.elim ty
def tBM0(K:W.Frag)(T:String)(r:V->List V->Hp->VK->Prop)(to:TE):TE:=fun Z H Q=>to Z H fun x H1=>tyV K T x H1/\r x [] H1 Q
def tBM(K:W.Frag)(T:String)(r:V->List V->Hp->VK->Prop)(to:TE)(t:TA):TE:=fun Z H Q=>to Z H fun x H1=>tyV K T x H1/\t Z H1 fun xs H2=>r x xs H2 Q
variable{o e:Expr}{es:List Expr}{to:TE}{t:TA}{name:Str}{apos cpos:Pos}{T id:String}{r:V->List V->Hp->VK->Prop}
theorem pe_bm0(pa:PlainAttrs T)(slot:Slot T name id)(hty:typeOf (.builtin id)=pure (.type "method_descriptor"))(hm:MtR X id r)(ho:PE X o to)
  (hbase:attributeBase o name X.env (eval o X.env)=eval o X.env:=by rfl) (hline:(apos.endLine == cpos.line)=true:=by rfl):PE X (.Call (.Attribute o name apos) [] [] cpos) (tBM0 X.K T r to):=by
 intro pins s Z H Q I h;refine wpAny_Call_method0_late hbase hline (thn (ho pins s Z H _ I h) fun v s1 ⟨x,H1,I1,r1,ty,q1⟩=>?_);obtain⟨h1,h2⟩:=xP I1 r1 ty;exact⟨T,id,pa,slot,hty,h1,h2,rZ rfl (PySem.evalArgs_none (hm pins s1 Z H1 x [] v [] Q I1 r1 .nil q1))⟩
theorem pe_bm(pa:PlainAttrs T)(slot:Slot T name id)(hty:typeOf (.builtin id)=pure (.type "method_descriptor"))(hm:MtR X id r)(ho:PE X o to)(ha:PA X (e::es) t)
  (hbase:attributeBase o name X.env (eval o X.env)=eval o X.env:=by rfl)
  (hfew:((backTo cpos (starEach (e::es) X.env)).all (fun x=>!x.1) && (backToKw cpos (keywordEach [] X.env)).all (fun x=>x.1.isSome)
  &&decide ((e::es).length+([]:List Keyword).length+(if ([]:List Keyword).isEmpty then 0 else 1)<30))=true:=by rfl)
  (hline:(apos.endLine == cpos.line)=true:=by rfl) (hs:starEach (e::es) X.env=(false,eval e X.env)::starEach es X.env:=by rfl) (hplain:(backTo cpos (starEach es X.env)).any (·.1)=false:=by rfl) :
  PE X (.Call (.Attribute o name apos) (e::es) [] cpos) (tBM X.K T r to t):=by
 intro pins s Z H Q I h;refine wpAny_Call_method_late hbase hfew hline rfl (thn (ho pins s Z H _ I h) fun v s1 z0_=>?_);obtain⟨x,H1,I1,r1,ty,q1⟩:=z0_;obtain⟨h1,h2⟩:=xP I1 r1 ty;refine⟨T,id,pa,slot,hty,h1,h2,?_⟩;have hA:=ha cpos pins s1 Z H1 _ I1 q1;rw[hs] at hA ⊢;refine rZ (by show (false || (backTo cpos (starEach es X.env)).any (·.1))=false;rw[hplain] <;> rfl) (Calls.evalArgs_plain ?_);exact thn hA fun us s2 z1_=>by obtain⟨vs,H2,I2,r2,q2⟩:=z1_;exact hm pins s2 Z H2 x vs v us Q I2 r1 r2 q2
/- xs.append(e),list.index on a module's tuple .. are MtR facts of 06m -/
end
end L2
namespace L2
open PySem PySem.Spec PyProof.Rows
noncomputable def MtM(X:Cx)(id:String)(r:V->List V->Hp->VK->Prop):Prop :=
 ∀ (pins:List (Addr×Obj)) (s:Shared) (Z:St) (H:Hp) (x:V) (xs:List V) (v:Value) (us:List Value) (Q:VK),Inv X pins Z H s->RelV x v->Vals xs us->r x xs H Q ->
  wpAny (model X.prog X.w) X.A (call (.builtin id) (v::us)) (EP X pins Z Q) X.xe s
theorem Vals.consI{x:V}{xs:List V}{us:List Value}(h:Vals (x::xs) us):∃ u ws,us=u::ws/\RelV x u/\Vals xs ws:=by
 cases h with
 | cons r t=>exact⟨_,_,rfl,r,t⟩
theorem Vals.nilI{us:List Value}(h:Vals [] us):us=[]:=by
 cases h;rfl
theorem Vals.one{x:V}{us:List Value}(h:Vals [x] us):∃ u,us=[u]/\RelV x u:=by
 obtain⟨u,ws,rfl,r,t⟩:=h.consI;exact⟨u,by rw[t.nilI],r⟩
theorem Vals.zero:∀ {us:List Value},Vals [] us->us=[]
 | _,.nil=>rfl
theorem Vals.dropLast{xs:List V}{us:List Value}(h:Vals xs us):Vals xs.dropLast us.dropLast:=by
 induction h with
 | nil=>exact .nil
 | cons r t ih =>
  cases t with
  | nil=>exact .nil
  | cons q t'=>exact .cons r ih
theorem Vals.rep{xs : List V}{us : List Value}(h : Vals xs us) : ∀ k : Nat, Vals (List.replicate k xs).flatten (List.replicate k us).flatten
  | 0=>.nil
  | k + 1 => by
    rw[iy,iy,iz,iz];exact Vals.append h (Vals.rep h k)
theorem Zj9{α:Type}(l:List α):l.eraseIdx (l.length-1)=l.dropLast:=by
 induction l with
 | nil=>rfl
 | cons a r ih =>
  cases r with
  | nil=>rfl
  | cons b r =>
   have e:(a::b::r).length-1=((b::r).length-1)+1:=by
    have h1:(a::b::r).length=r.length+2:=rfl;have h2:(b::r).length=r.length+1:=rfl;lia
   rw[e,eraseIdx_cons_succ,ih]
   all_goals rfl
theorem foldl_rep(its : List Value) : ∀ (k : Nat) (acc : List Value),
    List.foldl (fun x1 x2=>x1++x2) acc.toArray (List.replicate k its.toArray)=(acc++(List.replicate k its).flatten).toArray
  | 0, acc=>by simp
  | k + 1, acc => by
    have e:acc.toArray++its.toArray=(acc++its).toArray:=by simp
    have e2 : (acc++its)++(List.replicate k its).flatten=acc++(List.replicate (k+1) its).flatten:=by
      rw[iy,iz,cp]
    rw[<- e2, <- foldl_rep its k (acc++its), <- e, iy, foldl_cons]
section
variable{X:Cx}{pins:List (Addr×Obj)}{Z:St}{H:Hp}{s:Shared}{l b:Addr}{xs ys zs:List V}
theorem Inv.lset{its its':List Value}{n:Nat}{f:Array Value->Array Value}{t':Nat}(I:Inv X pins Z H s)(hH:H l=some (.lst xs))
  (e:s.heap.get? l=some { cls:=.type "list",data:=.seq its.toArray n }) (hf:f its.toArray=its'.toArray) (hv:Vals ys its') (hz:ys.length<=sizeLine) :
  Inv X pins Z (upd H l (.lst ys)) { s with heap:=s.heap.update l (Obj.mapSeq f),toks:=t' }:=by
 have q:=PySem.IsL.update e f;rw[hf] at q;refine I.write (x:=l) (e:=l) (by rw[hH];exact trivial) (.inl rfl) (fun b' u hb hu=>(lc s.heap (Obj.mapSeq f) (Ne.symm hb)).trans hu) ⟨_,q⟩ ?_;exact⟨hz,its',_,hv,q⟩
theorem Inv.lnew{its:List Value}{t':Nat}(I:Inv X pins Z H s)(hv:Vals ys its)(hz:ys.length<=sizeLine) :
  Inv X pins Z (upd H s.heap.objs.size (.lst ys)) { s with heap:=s.heap.push { cls:=.type "list",data:=.seq its.toArray },toks:=t' } :=
 I.laid (fun _ _ q=>be _ q) (aE _) ⟨hz,its,0,hv,bQ _ rfl⟩
theorem Inv.fresh(I:Inv X pins Z H s):H s.heap.objs.size=none:=I.hok.fresh (aE _)
theorem Inv.lstM(I:Inv X pins Z H s)(hH:H l=some (.lst xs)):xs.length<=sizeLine/\∃ (its:List Value) (n:Nat),Vals xs its/\xs.length=its.length/\s.heap.get? l=some { cls:=.type "list",data:=.seq its.toArray n }:=by
 obtain⟨z,its,n,r,e⟩:=I.hok l _ hH;exact⟨z,its,n,r,r.length,e⟩
theorem yn{n:Nat}(h:n<=sizeLine):Builtin.List.listTooLong n=false:=by
 unfold Builtin.List.listTooLong;exact bo (by lia)
end
section
variable{X:Cx}
noncomputable def qu:V->List V->Hp->VK->Prop:=fun x vs H Q=>∃ l xs y,x=.ref l/\vs=[y]/\H l=some (.lst xs)/\xs.length<sizeLine/\Q .non (upd H l (.lst (xs++[y])))
theorem gW:MtM X "list.append" qu:=by
 intro pins s Z H x vs v us Q I rx rv h;obtain⟨l,xs,y,rfl,rfl,hH,hz,q⟩:=h;cases rx;obtain⟨u,rfl,ru⟩:=rv.one;obtain⟨z,its,n,r,hl,e⟩:=I.lstM hH;refine lf F.slot_list_append ⟨_,e,rfl⟩ F.entry_list_append (F.args_list_append_2 _ _) (PySem.list_append l its.toArray n u (by rw[bL];lia)) ⟨e,?_⟩;refine⟨.non,_,I.lset (its':=its++[u]) hH e (by simp) (r.append (.cons ru .nil)) ?_,rfl,q⟩;rw[aH,dY];lia
noncomputable def Zpn:V->List V->Hp->VK->Prop:=fun x vs H Q=>∃ l b xs zs,x=.ref l/\vs=[.ref b]/\H l=some (.lst xs)/\H b=some (.lst zs)/\xs.length+zs.length<=sizeLine/\Q .non (upd H l (.lst (xs++zs)))
theorem mt_extend:MtM X "list.extend" Zpn:=by
 intro pins s Z H x vs v us Q I rx rv h;obtain⟨l,b,xs,zs,rfl,rfl,hH,hB,hz,q⟩:=h;cases rx;obtain⟨u,rfl,ru⟩:=rv.one;cases ru;obtain⟨z,its,n,r,hl,e⟩:=I.lstM hH;obtain⟨z2,its2,n2,r2,hl2,e2⟩:=I.lstM hB;have hsz:its.toArray.size+its2.toArray.size<=sizeLine:=by rw[bL,bL];lia
 have hlong:¬ (!its.toArray.isEmpty&&Builtin.List.listTooLong (its.toArray.size+its2.toArray.size))=true:=by
  rw[yn hsz,Bool.and_false];exact bF
 refine lf F.slot_list_extend ⟨_,e,rfl⟩ F.entry_list_extend (F.args_list_extend_2 _ _)
  (AutoSeq1.list_extend_list_list_0 l its.toArray n b its2.toArray n2 hlong (by rw[bL];lia) (by lia)) ⟨e,e2,?_⟩
 refine⟨.non,_,I.lset (its':=its++its2) hH e (by simp) (r.append r2) ?_,rfl,q⟩;rw[aH];lia
noncomputable def rPop:V->List V->Hp->VK->Prop:=fun x vs H Q=>∃ l xs y,x=.ref l/\vs=[]/\H l=some (.lst xs)/\xs[xs.length-1]?=some y/\Q y (upd H l (.lst xs.dropLast))
theorem mt_pop:MtM X "list.pop" rPop:=by
 intro pins s Z H x vs v us Q I rx rv h;obtain⟨l,xs,y,rfl,rfl,hH,hy,q⟩:=h;cases rx;have hus:=rv.zero;subst hus;obtain⟨z,its,n,r,hl,e⟩:=I.lstM hH;obtain⟨u,hu,ru⟩:=r.get hy;have hy':its.toArray[its.toArray.size-1]?=some u:=by
  show its.toArray[its.length-1]?=some u;rw[<-lh,<- hl];exact hu
 refine lf F.slot_list_pop ⟨_,e,rfl⟩ F.entry_list_pop (F.args_list_pop_1 _) (MeetsSeq.list_pop_last l its.toArray n u hy' (by rw[bL];lia)) ⟨e,?_⟩;refine⟨y,_,I.lset (its':=its.dropLast) hH e ?_ r.dropLast ?_,ru,q⟩
 .show its.toArray.eraseIdxIfInBounds (its.toArray.size-1)=its.dropLast.toArray;rw[bL,eraseIdxIfInBounds_toArray,Zj9]
 .rw[length_dropLast];lia
def rCat:R2:=fun x y H Q=>∃ l b xs zs,x=.ref l/\y=.ref b/\H l=some (.lst xs)/\H b=some (.lst zs)/\xs.length+zs.length<=sizeLine/\∀ p,H p=none->Q (.ref p) (upd H p (.lst (xs++zs)))
theorem eU:OpR X (binaryOp .Add) rCat:=by
 intro pins s Z H x y v u Q I rx ry h;obtain⟨l,b,xs,zs,rfl,rfl,hH,hB,hz,q⟩:=h;cases rx;cases ry;obtain⟨z,its,n,r,hl,e⟩:=I.lstM hH;obtain⟨z2,its2,n2,r2,hl2,e2⟩:=I.lstM hB;refine PySem.P.add_list e e2 ?_ (by rw[bL,bL];lia);have ea:its.toArray++its2.toArray=(its++its2).toArray:=by simp
 rw[ea];exact⟨.ref _,_,I.lnew (t':=s.toks) (r.append r2) (by rw[aH];lia),rfl,q _ I.fresh⟩
def rRep:R2:=fun x y H Q=>∃ l k xs,x=.ref l/\y=.int k/\H l=some (.lst xs)/\-(2^63)<=k/\k<2^63/\xs.length*k.toNat<=sizeLine /\
 ∀ p,H p=none->Q (.ref p) (upd H p (.lst (List.replicate k.toNat xs).flatten))
theorem ZpO{α:Type}(xs:List α)(k:Nat):(List.replicate k xs).flatten.length=k*xs.length:=by
 induction k with
 | zero=>simp
 | succ k ih=>rw[iy,iz,aH,ih,Nat.succ_mul,Nat.add_comm]
theorem qX:OpR X (binaryOp .Mult) rRep:=by
 intro pins s Z H x y v u Q I rx ry h;obtain⟨l,k,xs,rfl,rfl,hH,h1,h2,hz,q⟩:=h;cases rx;obtain⟨t,rfl⟩:=ry;obtain⟨z,its,n,r,hl,e⟩:=I.lstM hH;have hlen:its.toArray.size*k.toNat<=sizeLine:=by rw[bL,<- hl];exact hz
 have hcap:¬ its.toArray.size*k.toNat>(2^63-1) / 8:=by
  have:(sizeLine:Nat)<=(2^63-1) / 8:=by decide
  lia
 have hfit:¬ (!Builtin.List.listFitsIndex k)=true:=by
  rw[fitsIndex_both h1 h2];exact bF
 have hlong:¬ Builtin.List.listTooLong (its.toArray.size*k.toNat)=true:=by
  rw[yn hlen];exact bF
 have hnew:List.foldl (fun x1 x2=>x1++x2) #[] (List.replicate (if its.toArray.isEmpty=true then 0 else k.toNat) its.toArray)=(List.replicate k.toNat its).flatten.toArray:=by
  have f0:∀ m:Nat,List.foldl (fun x1 x2=>x1++x2) #[] (List.replicate m its.toArray)=(List.replicate m its).flatten.toArray:=fun m=>by
   have:=foldl_rep its m [];rw[dL] at this;exact this
  rw[f0];cases its with
  | nil=>simp
  | cons a r'=>rw[ao (by simp)]
 refine wpAny_binaryOp_repeat_ref (T:="list") (U:="int") (by decide) ⟨_,e,rfl⟩ (fun s'=>typeIs_int s' k t) noFill_list_mul F.fills_int_mul F.slot_int_rmul repeat_list F.slot_int_index.lookup
  (lf F.slot_int_rmul (typeIs_int s k t) F.entry_int_rmul (F.args_int_rmul_2 _ _) (int___rmul___int_list k t l its.toArray n)
   ⟨e,rfl,⟨_,e,rfl⟩,lf F.slot_list_mul ⟨_,e,rfl⟩ F.entry_list_mul (F.args_list_mul_2 _ _) (AutoListH.list___mul___list_int_3 l its.toArray n k t hfit hcap hlong) ⟨e,?_⟩⟩)
 rw[hnew];exact⟨.ref _,_,I.lnew (t':=s.toks) (r.rep k.toNat) (by rw[ZpO,Nat.mul_comm];exact hz),rfl,q _ I.fresh⟩
end
end L2
namespace L2
open PySem PySem.Spec PyProof.Rows
section
variable{κ:Type}[DecidableEq κ]
noncomputable def valV(kvs:List (κ×V))(k:κ):Option V:=(kvs.find? fun kv=>decide (kv.1=k)).map (·.2)
noncomputable def putK(kvs:List (κ×V))(k:κ)(v:V):List (κ×V) :=
 if (kvs.any fun kv=>decide (kv.1=k))=true then kvs.map (fun kv=>if kv.1=k then (kv.1,v) else kv) else kvs++[(k,v)]
theorem ku{p:κ×V}{r:List (κ×V)}{k:κ}(e:p.1=k):valV (p::r) k=some p.2:=by simp[valV,eM,e]
theorem ji{p:κ×V}{r:List (κ×V)}{k:κ}(e:¬ p.1=k):valV (p::r) k=valV r k:=by simp[valV,eM,e]
theorem mJ(k : κ) : ∀ kvs : List (κ×V), (kvs.any fun kv=>decide (kv.1=k))=(valV kvs k).isSome
  | []=>rfl
  | p :: r => by
    rw[gK];by_cases e:p.1=k
    . simp only[ku e, aY e, Bool.true_or, Option.isSome_some]
    . rw[ji e, bo e, Bool.false_or]; exact mJ k r
theorem wZ(kvs:List (κ×V))(k:κ)(v:V):(putK kvs k v).length<=kvs.length+1:=by
 unfold putK;split
 .rw[af];lia
 .rw[aH,cz,iA];lia
theorem Znl{kvs:List (κ×V)}{k:κ}(v:V)(h:valV kvs k=none):putK kvs k v=kvs++[(k,v)]:=by
 unfold putK;rw[mJ,h];exact ao (by decide)
theorem RelO.isSome_eq{o:Option V}{u:Option Value}(r:RelO o u):o.isSome=u.isSome:=by
  cases o with
  | none => cases u with
    | none=>rfl
    | some _=>exact(show False from r).elim
  | some _ => cases u with
    | none=>exact(show False from r).elim
    | some _=>rfl
theorem RelO.getD{o:Option V}{u:Option Value}{d:V}{d':Value}(r:RelO o u)(rd:RelV d d'):RelV (o.getD d) (u.getD d'):=by
  cases o with
  | none => cases u with
    | none=>exact rd
    | some _=>exact(show False from r).elim
  | some _ => cases u with
    | none=>exact(show False from r).elim
    | some _=>exact r
theorem KV.val{kvs:List (κ×V)}{vs:List (κ×Value)}(r:KV kvs vs)(k:κ):RelO (valV kvs k) (valueAt vs k):=by
 unfold KV at r
 induction r with
 | nil=>exact True.intro
 | @cons p q ps qs h t ih =>
  obtain⟨h1,h2⟩:=h;by_cases e:p.1=k
  .have e':q.1=k:=h1.symm.trans e;have b:valueAt (q::qs) k=some q.2:=by simp[valueAt,eM,e']
   rw[ku e,b];exact h2
  .have e':¬ q.1=k:=fun z=>e (h1.trans z);have b:valueAt (q::qs) k=valueAt qs k:=by simp[valueAt,eM,e']
   rw[ji e,b];exact ih
theorem KV.any{kvs:List (κ×V)}{vs:List (κ×Value)}(r:KV kvs vs)(k:κ):(kvs.any fun kv=>decide (kv.1=k))=vs.any fun kv=>decide (kv.1=k):=by
 unfold KV at r
 induction r with
 | nil=>rfl
 | cons h t ih=>rw[gK,gK,ih,h.1]
theorem KV.repl{kvs:List (κ×V)}{vs:List (κ×Value)}(r:KV kvs vs)(k:κ){y:V}{u:Value}(ry:RelV y u) :
  KV (kvs.map fun kv=>if kv.1=k then (kv.1,y) else kv) (vs.map fun kv=>if kv.1=k then (kv.1,u) else kv):=by
 unfold KV at r ⊢
 induction r with
 | nil=>exact .nil
 | @cons p q ps qs h t ih =>
  rw[aL,aL];refine .cons ?_ ih;obtain⟨h1,h2⟩:=h;by_cases e:p.1=k
  .rw[ak e,ak (h1.symm.trans e)];exact⟨h1,ry⟩
  .rw[ao e,ao (fun z=>e (h1.trans z))];exact⟨h1,h2⟩
theorem KV.put{kvs:List (κ×V)}{vs:List (κ×Value)}(r:KV kvs vs)(k:κ){y:V}{u:Value}(ry:RelV y u):KV (putK kvs k y) (stored vs k u):=by
 unfold putK stored;rw[r.any k];by_cases e:(vs.any fun kv=>decide (kv.1=k))=true
 .rw[ak e,ak e];exact r.repl k ry
 .rw[ao e,ao e];exact Paired.snoc r ⟨rfl,ry⟩
theorem KV.length{kvs:List (κ×V)}{vs:List (κ×Value)}(r:KV kvs vs):kvs.length=vs.length:=Paired.length r
end
theorem gU{P:Program}{w:World}{k:Key}{u:Value}(r:RelV (kV k) u):(cx P w).is k u=true:=by
 cases k with
 | inl i=>obtain⟨t,e⟩:=(show ∃ t,u=Value.int i t from r);subst e;exact Zip P w i t
 | inr x=>obtain⟨t,e⟩:=(show ∃ t,u=Value.str x t from r);subst e;exact oH P w x t
theorem vq{P : Program}{w : World} : ∀ {ks : List Key} {us : List Value}, Vals (ks.map kV) us->ItemsAre (cx P w) ks us
  | [], _, r=>by rw[gw] at r; cases r; exact .nil
  | k :: ks, _, r => by
    rw[aL] at r;cases r with
    | cons h t=>exact .cons (gU h) (vq t)
noncomputable abbrev KT(H:Hp):List (List Key×V)->List (List Key×Addr×Value)->Prop:=Paired fun p q=>p.1=q.1/\H q.2.1=some (.tup (p.1.map kV))/\RelV p.2 q.2.2
theorem KT.val{H:Hp}{kvs:List (List Key×V)}{xs:List (List Key×Addr×Value)}(r:KT H kvs xs)(k:List Key):RelO (valV kvs k) ((atKey xs k).map (·.2)):=by
 induction r with
 | nil=>exact True.intro
 | @cons p q ps qs h t ih =>
  obtain⟨h1,_,h2⟩:=h;by_cases e:p.1=k
  .have e':q.1=k:=h1.symm.trans e;have b:atKey (q::qs) k=some q.2:=by simp[atKey,eM,e']
   rw[ku e,b];exact h2
  .have e':¬ q.1=k:=fun z=>e (h1.trans z);have b:atKey (q::qs) k=atKey qs k:=by simp[atKey,eM,e']
   rw[ji e,b];exact ih
theorem KT.repl{H:Hp}{kvs:List (List Key×V)}{xs:List (List Key×Addr×Value)}(r:KT H kvs xs)(k:List Key){y:V}{u:Value}(ry:RelV y u) :
  KT H (kvs.map fun kv=>if kv.1=k then (kv.1,y) else kv) (xs.map (putAt k u)):=by
 induction r with
 | nil=>exact .nil
 | @cons p q ps qs h t ih =>
  rw[aL,aL];refine .cons ?_ ih;obtain⟨h1,h2,h3⟩:=h;unfold putAt;by_cases e:p.1=k
  .rw[ak e,ak (h1.symm.trans e)];exact⟨h1,h2,ry⟩
  .rw[ao e,ao (fun z=>e (h1.trans z))];exact⟨h1,h2,h3⟩
theorem KT.put{H:Hp}{kvs:List (List Key×V)}{xs:List (List Key×Addr×Value)}(r:KT H kvs xs)(k:List Key){b:Addr}{y:V}{u:Value}(hb:H b=some (.tup (k.map kV)))(ry:RelV y u) :
  KT H (putK kvs k y) (storedH xs k b u):=by
 have e:(kvs.any fun kv=>decide (kv.1=k))=(atKey xs k).isSome:=by
  rw[mJ,(r.val k).isSome_eq,sd]
 unfold putK storedH;rw[e];by_cases q:(atKey xs k).isSome=true
 .rw[ak q,ak q];exact r.repl k ry
 .rw[ao q,ao q];exact Paired.snoc r ⟨rfl,hb,ry⟩
theorem KT.keeps{H H':Hp}{kvs:List (List Key×V)}{xs:List (List Key×Addr×Value)}(r:KT H kvs xs)(ht:∀ b ys,H b=some (.tup ys)->H' b=some (.tup ys)):KT H' kvs xs :=
 Paired.mapP r fun _ _ z=>⟨z.1,ht _ _ z.2.1,z.2.2⟩
section
variable{P:Program}{w:World}{H:Hp}{h:Heap}{a:Addr}
theorem rd_of{u:HO}(ok:HOk P w H h)(e:Rd H a u):ObjOk P w H h a u:=e.ok ok
theorem jp{kvs:List (Key×V)}(ok:HOk P w H h)(e:Rd H a (.dK kvs)):kvs.length<=sizeLine/\(a == sysModules)=false/\∃ vs,KV kvs vs/\h.DictOf (cx P w) a vs :=
 show ObjOk P w H h a (.dK kvs) from rd_of ok e
theorem dk_of{kvs:List (Key×V)}(ok:HOk P w H h)(e:H a=some (.dK kvs)):kvs.length<=sizeLine/\(a == sysModules)=false/\∃ vs,KV kvs vs/\h.DictOf (cx P w) a vs:=jp ok (.inl e)
theorem kS{ks:List Key}(ok:HOk P w H h)(e:H a=some (.tup (ks.map kV))):(tupleKind (cx P w)).is h ks a:=by
 obtain⟨_,its,r,o,h1,h2,n,h3⟩:=(show ObjOk P w H h a (.tup (ks.map kV)) from ok a _ e);exact⟨o,its.toArray,n,h1,h2,h3,by simpa using vq r⟩
theorem i9{kvs:List (List Key×V)}(ok:HOk P w H h)(e:Rd H a (.dT kvs)):kvs.length<=sizeLine/\(a == sysModules)=false /\
  ∃ xs,KT H kvs xs/\h.DictOfH (tupleKind (cx P w)) a xs:=by
 obtain⟨z,y,xs,r,o,es,ep,h1,h2,h3,h4,h5⟩:=(show ObjOk P w H h a (.dT kvs) from rd_of ok e);refine⟨z,y,xs,r,o,es,ep,h1,h2,h3,h4,fun x hx=>?_,h5⟩;have all:∀ {l:List (List Key×V)} {m:List (List Key×Addr×Value)},KT H l m->∀ x∈m,(tupleKind (cx P w)).is h x.1 x.2.1:=by
  intro l m q
  induction q with
  | nil=>intro x hx;exact nomatch hx
  | @cons p q ps qs hq t ih =>
   intro x hx;rcases aJ.mp hx with e|hx
   .subst e;exact kS ok (by rw[<-hq.1];exact hq.2.1)
   .exact ih x hx
 exact all r x hx
theorem dt_of{kvs:List (List Key×V)}(ok:HOk P w H h)(e:H a=some (.dT kvs)):kvs.length<=sizeLine/\(a == sysModules)=false /\
  ∃ xs,KT H kvs xs/\h.DictOfH (tupleKind (cx P w)) a xs:=i9 ok (.inl e)
end
noncomputable def DGet(H:Hp)(a:Addr)(y:V)(r:Option V):Prop :=
 (∃ kvs k,Rd H a (.dK kvs)/\y=kV k/\r=valV kvs k)\/∃ kvs k b,Rd H a (.dT kvs)/\y=.ref b/\H b=some (.tup (k.map kV))/\r=valV kvs k
noncomputable def DPut(H:Hp)(a:Addr)(y v:V)(H':Hp):Prop :=
 (∃ kvs k,H a=some (.dK kvs)/\y=kV k/\kvs.length<sizeLine/\H'=upd H a (.dK (putK kvs k v))) \/
 ∃ kvs k b,H a=some (.dT kvs)/\y=.ref b/\H b=some (.tup (k.map kV))/\kvs.length<sizeLine/\H'=upd H a (.dT (putK kvs k v))
theorem DGet.k{H:Hp}{a:Addr}{kvs:List (Key×V)}{k:Key}(e:H a=some (.dK kvs)):DGet H a (kV k) (valV kvs k):=.inl ⟨kvs,k,.inl e,rfl,rfl⟩
theorem DPut.k{H:Hp}{a:Addr}{kvs:List (Key×V)}{k:Key}{v:V}(e:H a=some (.dK kvs))(hl:kvs.length<sizeLine):DPut H a (kV k) v (upd H a (.dK (putK kvs k v))):=.inl ⟨kvs,k,e,rfl,hl,rfl⟩
theorem DPut.t{H:Hp}{a b:Addr}{kvs:List (List Key×V)}{k:List Key}{v:V}(e:H a=some (.dT kvs))(eb:H b=some (.tup (k.map kV)))(hl:kvs.length<sizeLine) :
  DPut H a (.ref b) v (upd H a (.dT (putK kvs k v))):=.inr ⟨kvs,k,b,e,rfl,eb,hl,rfl⟩
section
variable{X:Cx}{pins:List (Addr×Obj)}{Z:St}{H:Hp}{s:Shared}{a:Addr}{y v:V}{u r:Value}{o:Option V}{A:Around}{E:Value->Shared->Prop}
theorem Inv.big(I:Inv X pins Z H s):sysModules<s.heap.objs.size:=by
 have h:mainGlobals<s.heap.objs.size:=(I.mod.glob.keeps I.bk).lt;exact dM (by decide) h
theorem Zms{Q:Value->Shared->Prop}(hu:A.units+1<cLine)(I:Inv X pins Z H s)(g:DGet H a y (some v))(ry:RelV y u)(h:∀ w' s',Inv X pins Z H s'->RelV v w'->Q w' s') :
  wpAny (model X.prog X.w) A (getItem (.ref a) u) Q E s:=by
 rcases g with ⟨kvs,k,e,ey,l⟩|⟨kvs,k,b,e,ey,eb,l⟩
 .subst ey;obtain⟨z,hd,vs,rel,dd⟩:=jp I.hok e;obtain⟨w',hw,rw'⟩:=RelO.some_of (v:=v) (o:=valueAt vs k) (by rw[l];exact rel.val k);exact wpAny_getItem_of (gU ry) dd.mapOf hw (h w' _ (I.tok _) rw')
 .subst ey;cases (show u=Value.ref b from ry);obtain⟨z,hd,xs,rel,dd⟩:=i9 I.hok e;obtain⟨w',hw,rw'⟩:=RelO.some_of (v:=v) (o:=(atKey xs k).map (·.2)) (by rw[l];exact rel.val k);obtain⟨p,hp,hp2⟩:=aV.mp hw;refine wpAny_getItem_heap (nq hu) (kS I.hok eb) dd hp ?_;rw[hp2];exact h w' _ (I.tok _) rw'
theorem Zqe{Q:Value->Shared->Prop}(hu:A.units+1<cLine)(I:Inv X pins Z H s)(g:DGet H a y o)(ry:RelV y u)(h:∀ s',Inv X pins Z H s'->Q (.bool (!o.isSome)) s') :
  wpAny (model X.prog X.w) A (compareOp .NotIn u (.ref a)) Q E s:=by
 rcases g with ⟨kvs,k,e,ey,l⟩|⟨kvs,k,b,e,ey,eb,l⟩
 .subst ey;obtain⟨z,hd,vs,rel,dd⟩:=jp I.hok e;refine wpAny_notIn_of (gU ry) hd dd.mapOf ?_;rw[<-(rel.val k).isSome_eq,<- l];exact h _ (I.tok _)
 .subst ey;cases (show u=Value.ref b from ry);obtain⟨z,hd,xs,rel,dd⟩:=i9 I.hok e;refine wpAny_notIn_heap (nq hu) (kS I.hok eb) hd dd ?_;have q:=(rel.val k).isSome_eq;rw[sd] at q;rw[<-q,<- l];exact h _ (I.tok _)
theorem vi{h':Heap}{t':Nat}{ob:HO}(I:Inv X pins Z H s)(mu:Mut (H a))(hs:Heap.SameBut a s.heap h')(he:∃ q,h'.get? a=some q)(new:ObjOk X.prog X.w (upd H a ob) h' a ob) :
  Inv X pins Z (upd H a ob) { s with heap:=h',toks:=t' } :=
 I.write (x:=a) (e:=a) mu (.inl rfl) (fun b q hb z=>(hs.2 b hb).trans z) he new
theorem dk_new{P:Program}{w:World}{H':Hp}{h':Heap}{kvs:List (Key×V)}{vs:List (Key×Value)}(z:kvs.length<=sizeLine)(hd:(a == sysModules)=false)(rel:KV kvs vs)(dd:h'.DictOf (cx P w) a vs) :
  ObjOk P w H' h' a (.dK kvs):=⟨z,hd,vs,rel,dd⟩
theorem Zmr{H':Hp}{Q:Unit->Shared->Prop}(hu:A.units+1<cLine)(I:Inv X pins Z H s)(g:DPut H a y v H')(ry:RelV y u)(rv:RelV v r)(h:∀ s',Inv X pins Z H' s'->Q () s') :
  wpAny (model X.prog X.w) A (setItem (.ref a) u r) Q E s:=by
 rcases g with ⟨kvs,k,e,ey,l,eH⟩|⟨kvs,k,b,e,ey,eb,l,eH⟩
 .subst ey eH;obtain ⟨z,hd,vs,rel,dd⟩:=dk_of I.hok e;have hz:vs.length<=sizeLine:=by rw[<-rel.length];exact z
  have hl:(putK kvs k v).length<=sizeLine:=by have:=wZ kvs k v;lia
  refine wpAny_setItem_pairs (hsz:=hz) (gU ry) dd fun h' dd' hs=>h _ ?_;have he:∃ q,h'.get? a=some q:=let ⟨q,_,_,hq,_⟩:=dd';⟨q,hq⟩;exact vi I (by rw[e];exact True.intro) hs he (dk_new hl hd (rel.put k rv) dd')
 .subst ey eH;cases (show u=Value.ref b from ry);obtain ⟨z,hd,xs,rel,dd⟩:=dt_of I.hok e;have hz:xs.length<=sizeLine:=by rw[<-Paired.length rel];exact z
  have hl:(putK kvs k v).length<=sizeLine:=by have:=wZ kvs k v;lia
  refine wpAny_setItem_heap (hsz:=hz) (nq hu) (kS I.hok eb) dd fun h' dd' hs=>h _ ?_;obtain⟨q,es,ep,hq,h2,h3,h4,_,h5⟩:=dd';refine vi I (by rw[e];exact True.intro) hs ⟨q,hq⟩ ⟨hl,hd,_,(rel.put k eb rv).keeps fun c ys ec=>?_,q,es,ep,hq,h2,h3,h4,h5⟩;rw[bv (ne_of ec e (fun z=>nomatch z))];exact ec
end
def NoSl(i:Expr):Prop:=∀ ov iv,subscripted i false ov iv=operate [ov,iv] (getItem ov iv)
theorem xg{prog:Program}{w:World}{A:Around}{E:Value->Shared->Prop}{s:Shared}{env:Env}{value slice:Expr}{pos:Pos}{T id:String}{Q:Value->Shared->Prop}
  (hl:typeLookup (.type T) "__getitem__"=pure (some (.builtin id))) (hs:NoSl slice)
  (h:wpAny (model prog w) A (eval value env) (fun o s₁=>wpAny (model prog w) A (eval slice env) (fun i s₂=>s₂.TypeIs o T/\wpAny (model prog w) A (getItem o i) Q E s₂) E s₁) E s) :
  wpAny (model prog w) A (eval (.Subscript value slice pos) env) Q E s:=by
 refine Subscript_ (dw h (fun o s₁ h₁=>dw h₁ (fun i s₂ h₂=>?_) fun _ _ x=>x) fun _ _ x=>x);obtain⟨hT,h₂⟩:=h₂;unfold subscriptTail;refine ab ?_;rw[getitemInPython_of_ne hT.not_modules];refine ab (lq hT hl ?_);have fin:wpAny (model prog w) A (subscripted slice false o i) (fun r s₃=>wpAny (model prog w) A (letTemporaryGo value o r >>= fun _=>pure r) Q E s₃) E s₂:=by
  rw[hs o i];exact wpAny_operating (dw h₂ (fun r s₃ h₃=>ab (wpAny_letTemporaryGo (am h₃))) fun _ _ x=>x)
 first
  | exact am (ab fin)
  | exact ab (am (ab fin))
  | exact ab fin
theorem Zix{X:Cx}{pins:List (Addr×Obj)}{Z:St}{H:Hp}{s:Shared}{a:Addr}{y:V}{o:Option V}(I:Inv X pins Z H s)(g:DGet H a y o):s.TypeIs (.ref a) "dict":=by
 rcases g with ⟨kvs,k,e,_,_⟩|⟨kvs,k,b,e,_,_,_⟩
 .obtain ⟨_,_,vs,_,dd⟩:=jp I.hok e;exact dd.typeIs
 .obtain ⟨_,_,xs,_,dd⟩:=i9 I.hok e;exact dd.typeIs
def pP(td ty:TE):TE:=fun Z H Q=>td Z H fun x H1=>ty Z H1 fun y H2=>∃ a v,x=.ref a/\DGet H2 a y (some v)/\Q v H2
def wK(ty td:TE):TE:=fun Z H Q=>ty Z H fun y H1=>td Z H1 fun x H2=>∃ a o,x=.ref a/\DGet H2 a y o/\Q (.bl (!o.isSome)) H2
def mQ(td ty tv:TE):TS:=fun D Z H=>tv Z H fun v H1=>td Z H1 fun x H2=>ty Z H2 fun y H3=>∃ a H4,x=.ref a/\DPut H3 a y v H4/\D.nx Z H4
section
variable{X:Cx}{o i e value:Expr}{pos pos' tpos:Pos}{td ty tv:TE}
theorem ig(hu:X.A.units+1<cLine)(ho:PE X o td)(hi:PE X i ty)(hs:NoSl i):PE X (.Subscript o i pos) (pP td ty):=by
 intro pins s Z H Q I h;refine xg PySem.F.slot_dict_getitem.lookup hs (thn (ho pins s Z H _ I h) fun u s1 ⟨x,H1,I1,rx,q1⟩=>thn (hi pins s1 Z H1 _ I1 q1) fun iv s2 z0_=>?_);obtain⟨y,H2,I2,ry,a,v,ex,g,q2⟩:=z0_;subst ex;obtain rfl:u=Value.ref a:=rx;exact⟨Zix I2 g,Zms hu I2 g ry fun w' s3 I3 rw'=>⟨v,H2,I3,rw',q2⟩⟩
theorem rB(hu:X.A.units+1<cLine)(hi:PE X i ty)(ho:PE X o td):PC X .NotIn i o (wK ty td):=by
 intro pins s Z H Q I h;refine thn (hi pins s Z H _ I h) fun iv s1 ⟨y,H1,I1,ry,q1⟩=>thn (ho pins s1 Z H1 _ I1 q1) fun u s2 ⟨x,H2,I2,rx,a,ov,ex,g,q2⟩=>?_;subst ex;obtain rfl:u=Value.ref a:=rx;exact Zqe hu I2 g ry fun s3 I3=>⟨.bl (!ov.isSome),H2,I3,rfl,q2⟩
theorem hW(hu:X.A.units+1<cLine)(ho:PE X o td)(hi:PE X i ty)(hv:PE X value tv)(hs:swapsWith value (some (.Subscript o i pos')) pos.line X.env=pure false) :
  PS X (.Assign [.Subscript o i pos'] value pos) (mQ td ty tv):=by
 intro pins s Z H D I h;refine wpAny_Assign_Subscript (thn (hv pins s Z H _ I h) fun r s1 ⟨v,H1,I1,rv,q1⟩=>thn (ho pins s1 Z H1 _ I1 q1) fun u s2 ⟨x,H2,I2,rx,q2⟩=>thn (hi pins s2 Z H2 _ I2 q2) fun iv s3 z0_=>?_) hs;obtain⟨y,H3,I3,ry,a,H4,ex,g,q3⟩:=z0_;subst ex;obtain rfl:u=Value.ref a:=rx;exact Zmr hu I3 g ry rv fun s4 I4=>⟨Z,H4,I4,q3⟩
end
theorem ZnR{P:Program}{w:World}{H:Hp}(h:Heap)(hb:sysModules<h.objs.size):ObjOk P w H (h.push { cls:=.type "dict",data:=.dict #[] }) h.objs.size (.dK []) :=
 ⟨cb _,rR.mpr (Ne.symm (bP hb)),[],.nil,Heap.DictOf.new h⟩
theorem ZnQ{P:Program}{w:World}{H:Hp}(h:Heap)(hb:sysModules<h.objs.size):ObjOk P w H (h.push { cls:=.type "dict",data:=.dict #[] }) h.objs.size (.dT []) :=
 ⟨cb _,rR.mpr (Ne.symm (bP hb)),[],.nil,_,#[],0,bQ _ rfl,⟨rfl,rfl,rfl⟩,rfl,rfl,fz⟩
def pX:TE:=fun _ H Q=>∀ p,H p=none->Q (.ref p) (upd H p (.dK []))
def sZ:TE:=fun _ H Q=>∀ p,H p=none->Q (.ref p) (upd H p (.dT []))
section
variable{X:Cx}{pos:Pos}
theorem kP:PE X (.Dict [] [] pos) pX:=fun pins s Z H Q I h =>
 wpAny_Dict_empty ⟨.ref s.heap.objs.size,_,I.laid (a:=s.heap.objs.size) (o:=.dK []) (t':=s.toks) (fun _ _ q=>be _ q) (aE _) (ZnR s.heap I.big),rfl,h _ (I.hok.fresh (aE _))⟩
theorem uH:PE X (.Dict [] [] pos) sZ:=fun pins s Z H Q I h =>
 wpAny_Dict_empty ⟨.ref s.heap.objs.size,_,I.laid (a:=s.heap.objs.size) (o:=.dT []) (t':=s.toks) (fun _ _ q=>be _ q) (aE _) (ZnQ s.heap I.big),rfl,h _ (I.hok.fresh (aE _))⟩
end
structure M2(X:Cx)(o:Expr)(m:Str)(apos:Pos)(e f:Expr)(cpos:Pos):Prop where
 base:attributeBase o m X.env (eval o X.env)=eval o X.env
 few:((backTo cpos (starEach [e,f] X.env)).all (fun x=>!x.1)&&(backToKw cpos (keywordEach [] X.env)).all (fun x=>x.1.isSome)
 &&decide (([e,f]:List Expr).length+([]:List Keyword).length+(if ([]:List Keyword).isEmpty then 0 else 1)<30))=true
 line:(apos.endLine == cpos.line)=true
 trees:backTo cpos (starEach [e,f] X.env)=[(false,eval e X.env),(false,eval f X.env)]
def IsD(H:Hp)(a:Addr):Prop:=(∃ kvs,Rd H a (.dK kvs))\/∃ kvs,Rd H a (.dT kvs)
theorem qS{X:Cx}{pins:List (Addr×Obj)}{Z:St}{H:Hp}{s:Shared}{a:Addr}(I:Inv X pins Z H s)(d:IsD H a) :
  s.TypeIs (.ref a) "dict"/\(∀ b,Value.ref a=.ref b->∃ ob,s.heap.get? b=some ob/\ob.dict=none)/\(a == sysModules)=false:=by
 rcases d with ⟨kvs,e⟩|⟨kvs,e⟩
 .obtain ⟨_,hd,vs,_,dd⟩:=jp I.hok e;refine⟨dd.typeIs,fun b q=>?_,hd⟩;cases q;obtain⟨ob,_,_,h1,h2,_⟩:=dd;exact⟨ob,h1,h2.2.1⟩
 .obtain ⟨_,hd,xs,_,dd⟩:=i9 I.hok e;refine⟨dd.typeIs,fun b q=>?_,hd⟩;cases q;obtain⟨ob,_,_,h1,h2,_⟩:=dd;exact⟨ob,h1,h2.2.1⟩
section
variable{X:Cx}{pins:List (Addr×Obj)}{Z:St}{H:Hp}{s:Shared}{a:Addr}{y d:V}{u r:Value}{o:Option V}{A:Around}{E:Value->Shared->Prop}
theorem d_get2{Q:Value->Shared->Prop}(hu:A.units+1<cLine)(I:Inv X pins Z H s)(g:DGet H a y o)(ry:RelV y u)(rd:RelV d r)(h:∀ w' s',Inv X pins Z H s'->RelV (o.getD d) w'->Q w' s') :
  wpAny (model X.prog X.w) A (call (.builtin "dict.get") [.ref a,u,r]) Q E s:=by
 rcases g with ⟨kvs,k,e,ey,l⟩|⟨kvs,k,b,e,ey,eb,l⟩
 .subst ey;obtain⟨z,hd,vs,rel,dd⟩:=jp I.hok e;refine call_meetsIn PySem.F.slot_dict_get dd.typeIs PySem.F.entry_dict_get (PySem.F.args_dict_get_3 _ _ _) (meets_dict_get_default (cx X.prog X.w) a (gU ry) hd r) ⟨_,dd.mapOf,h _ _ (I.tok _) ?_⟩;rw[l];exact(rel.val k).getD rd
 .subst ey;cases (show u=Value.ref b from ry);obtain⟨z,hd,xs,rel,dd⟩:=i9 I.hok e;refine call_meetsIn PySem.F.slot_dict_get dd.typeIs PySem.F.entry_dict_get (PySem.F.args_dict_get_3 _ _ _) (meetsH_dict_get_default (tupleKind (cx X.prog X.w)) a b hd r) ⟨nq hu,k,xs,kS I.hok eb,dd,h _ _ (I.tok _) ?_⟩;rw[l];exact(rel.val k).getD rd
end
def yl(td ty tx:TE):TE:=fun Z H Q=>td Z H fun x H1=>∃ a,x=.ref a/\IsD H1 a/\ty Z H1 fun y H2=>tx Z H2 fun z H3=>∃ o,DGet H3 a y o/\Q (o.getD z) H3
section
variable{X:Cx}{o e f:Expr}{apos cpos:Pos}{td ty tx:TE}
theorem wL(hu:X.A.units+1<cLine)(ho:PE X o td)(he:PE X e ty)(hf:PE X f tx)(m:M2 X o "get" apos e f cpos):PE X (.Call (.Attribute o "get" apos) [e,f] [] cpos) (yl td ty tx):=by
 intro pins s Z H Q I h;refine wpAny_Call_method m.base m.few m.line PySem.F.plainAttrs_dict PySem.F.slot_dict_get PySem.F.type_dict_get (thn (ho pins s Z H _ I h) fun u s1 z0_=>?_);obtain⟨x,H1,I1,rx,a,ex,d,q1⟩:=z0_;subst ex;obtain rfl:u=Value.ref a:=rx;obtain⟨t1,t2,_⟩:=qS I1 d;refine⟨t1,t2,?_⟩;rw[m.trees];refine rZ rfl (Calls.evalArgs_plain (k7 (thn (he pins s1 Z H1 _ I1 q1) fun iv s2 ⟨y,H2,I2,ry,q2⟩ =>
  k7 (thn (hf pins s2 Z H2 _ I2 q2) fun fv s3 ⟨z,H3,I3,rz,ov,g,q3⟩=>nj ?_))))
 exact d_get2 hu I3 g ry rz fun w' s4 I4 rw'=>⟨_,H3,I4,rw',q3⟩
end
end L2
namespace Att
open PySem PySem.W PySem.Calls PyProof.Rows
theorem Zfg{P:Params}{h:Heap}:∀ (ns:List Int) (vs:List Value),WellAll P h vs (ns.map WData.int)->IntsAre vs ns:=by
 intro ns
 induction ns with
 | nil =>
  intro vs w;rw[gw] at w;cases w;exact .nil
 | cons n ns ih =>
  intro vs w;rw[aL] at w;cases w with
  | cons a b =>
   cases a;exact .cons _ _ (ih _ b)
theorem Zk1{l:OpenLaw}{n:Nat}(hn:l.most=some n){P:Params}{h:Heap}{args:List WData}{vals:List Value}
  (hpre:l.row.toRowW.claim.pre args=true) (hwl:WellAll P h vals args) :
  ∃ a vs ns,vals=[Value.ref a]/\args=[WData.list (ns.map WData.int)]/\h.get? a=some { cls:=.type "list",data:=.seq vs.toArray }/\IntsAre vs ns/\ns.length<=n:=by
 have hsh:WShape.hasAll [] args [.list .int]=true:=(pre_splitW hpre).1;have hc:l.pre.holds [] { args:=args }=true:=(pre_splitW hpre).2;obtain⟨d,r,rfl,h1,h2⟩:=hasAllW_cons hsh;obtain rfl:=hasAllW_nil h2;obtain⟨xs,rfl,h3⟩:=hasW_list h1;obtain⟨ns,rfl⟩:=items_int h3;have hlen:ns.length<=n:=by
  unfold OpenLaw.pre at hc;have h4:(WTm.not (.lt (.lit (.int (n:Int))) (.len (.arg 0)))).holds [] { args:=[.list (ns.map .int)] }=true:=by
   have h4:=(holds_andW hc).1;rw[hn] at h4;exact h4
  have h5:=condW_of h4 (w_not (w_lt w_lit (w_len_list (w_arg rfl))));rw[af] at h5;refine se fun q=>?_;have q':(n:Int)<((ns.length:Nat):Int):=by lia
  first
   | (rw[aY q'] at h5;exact absurd h5 (by decide))
   | (simp at h5;lia)
 cases hwl with
 | cons w1 w2 =>
  cases w2;cases w1 with
  | list ho hall=>exact⟨_,_,ns,rfl,rfl,ho,Zfg ns _ hall,hlen⟩
theorem Zlr(l:OpenLaw)(args:List WData):l.row.toRowW.claim.post args (.bool true) args=true :=
 postW_of (r:=l.row.toRowW) (X:=(true == true))
  (show WShape.has [] (.bool true) .bool=true by first|rfl|decide|simp[WShape.has,WShape.arms,WShape.armsAll])
  (show (WTm.eq .res (.lit (.bool true))).value [] { args:=args,res:=some (.bool true),after:=args }=some (.bool (true == true)) from w_eq_bool (w_res rfl) w_lit) rfl
theorem attach_call{l:OpenLaw}{n:Nat}{q:Program}{loose:List Str}{XP:(Str->Option Value)->Heap->Prop}{YP:World->Heap->Prop}{d:DefRec}
  (hn:l.most=some n) (hdf:d.params.defaults=[])
  (call:∀ (w:World) (s₀ s₁:Shared) (mg mb:Str->Option Value) (fa:Addr) (o:Obj) (pm cd doc:Value) (a:Addr) (vs:List Value) (ns:List Int),
   Ground q loose [] XP w s₀ mg mb s₁.heap->YP w s₁.heap ->
   s₁.heap.get? fa=some o->o.data=.func (docDef d.name d.params d.body d.scope pm cd doc)->s₁.heap.CodeRec cd d.name->mg d.name=some (.ref fa) ->
   s₁.heap.get? a=some { cls:=.type "list",data:=.seq vs.toArray }->IntsAre vs ns->ns.length<=n->s₁.gens=#[] ->
   codeAny (model l.prog w) callerA (.call (.ref fa) ⟨[.ref a],[]⟩) (fun r s'=>r=.ok (.ret (.bool true))/\OldK s₁.heap s'.heap/\s'.os=s₁.os/\AllBare s'.gens) s₁) :
  WalkO q loose XP YP l.row.toRowW d [] (fun f vs=>PySem.call f vs):=by
 intro w s₀ s₁ mg mb G Y fa o pm cd doc dV kV ho hd hcd hD hmg hg args vals as hpre hlay hrd hwl hlo;obtain rfl:dV=.none:=Dflts.none hD hdf;obtain rfl:kV=.none:=Dflts.noKw hD;obtain⟨a,vs,ns,rfl,rfl,hobj,hints,hlen⟩:=Zk1 hn hpre hwl;refine enter_call (k8 (call w s₀ s₁ mg mb fa o pm cd doc a vs ns G Y ho (fd_plain hd) hcd hmg hobj hints hlen hg) fun r s' hq=>?_);obtain⟨rfl,h2,h3,h4⟩:=hq;exact⟨.inl ⟨.bool true,.bool true,[],rfl,fun _=>rfl,.bool true,Zlr l _,fun _=>⟨List.Pairwise.nil,fun _ hm=>(nomatch hm)⟩⟩,h2,h3,h4⟩
section
variable{prog:Program}{w:World}{A:Around}{E:Value->Shared->Prop}{s:Shared}{K:Frag}
noncomputable def ledger(h:Heap)(L d:Addr):List (Addr×Obj):=(List.range h.objs.size).filterMap fun a=>if a=L\/a=d then none else (h.get? a).map fun o=>(a,o)
end
end Att
namespace L2
open PySem PySem.Spec PyProof.Rows
theorem uV:∀ {vs:List Value} {ns:List Int},IntsAre vs ns->Vals (ns.map V.int) vs
 | _,_,.nil=>.nil
 | _,_,.cons n t h=>.cons ⟨t,rfl⟩ (uV h)
def Only(H:Hp):Prop:=∀ b,H b=none\/∃ o xs,H b=some (.frz o (.lst xs))
theorem Znz{P:Program}{w:World}{K:W.Frag}{mg mb:Str->Option Value}{CX:CXT}{k:Nat}{fa a:Addr}{fd:FuncData}{x:Str}{sp:Sp}{s₁:Shared}{vs:List Value}{ns:List Int}
  (KX:K.In s₁.heap) (hns:s₁.heap.Ns mainGlobals mg) (hb:s₁.heap.Ns builtinsNs mb) (hbb:∀ x:Str,x≠"__name__"->mb x=bootBuiltins x) (hlim:s₁.heap.NoLimit) (hg:s₁.gens=#[])
  (ha:s₁.heap.get? a=some { cls:=.type "list",data:=.seq vs.toArray }) (hi:IntsAre vs ns) (hl:ns.length<=sizeLine) (hr:Room k callerA)
  (F:∀ base:Heap,K.In base->base.Ns mainGlobals mg->FnOk P w K mg base CX k fa fd [x] sp) (hbind:∀ (s:Shared) (u:Value),BindsTo s fd ⟨[u],[]⟩ [(x,u)])
  (hsp:∀ H:Hp,Only H->SqL K H a (ns.map V.int)->sp [.ref a] H (fun v _=>v=.bl true) fun _ _ _=>False)
  (hCX:∀ H e s',CX [] H s₁ (fun _ _ _=>False) e s'->False) :
  codeAny (model P w) callerA (.call (.ref fa) ⟨[.ref a],[]⟩) (fun r s'=>r=.ok (.ret (.bool true))/\OldK s₁.heap s'.heap/\s'.os=s₁.os/\AllBare s'.gens) s₁:=by
 have rv:=uV hi;have lenV:=hi.length;have core:∀ H:Hp,Only H->SqL K H a (ns.map V.int)->HOk P w H s₁.heap->(∀ b,H b≠none->b=a)->(H a≠none->K.lookup a=none) ->
   codeAny (model P w) callerA (.call (.ref fa) ⟨[.ref a],[]⟩) (fun r s'=>r=.ok (.ret (.bool true))/\OldK s₁.heap s'.heap/\s'.os=s₁.os/\AllBare s'.gens) s₁:=by
  intro H hO hS hok hA hK;have base_of:∀ {b:Addr} {o:Obj},s₁.heap.get? b=some o->H b=none->(hidT s₁.heap H).get? b=some o:=fun e n=>ZnI e n;have noA:∀ {b:Addr} {o:Obj} {es:Array DictEntry} {ep:Nat},s₁.heap.get? b=some o->o.data=.dict es ep->H b=none:=fun {b o es ep} e d=>by
   cases q:H b with
   | none=>rfl
   | some u =>
    have e':b=a:=hA b (by rw[q];simp);subst e';rw[ha] at e;cases e;have d':Data.seq vs.toArray _=Data.dict es ep:=d;cases d'
  have nsK:∀ {b:Addr} {m:Str->Option Value},s₁.heap.Ns b m->(hidT s₁.heap H).Ns b m:=fun {b m} ⟨o,es,ep,e,d,r⟩=>⟨o,es,ep,base_of e (noA e d),d,r⟩;have hKb:K.In (hidT s₁.heap H):=fun b o e=>base_of (KX b o e) (by
   cases q:H b with
   | none=>rfl
   | some u =>
    have e':b=a:=hA b (by rw[q];simp);subst e';rw[hK (by rw[q];simp)] at e;cases e)
  have hM:Mod K mg (hidT s₁.heap H):=⟨hKb,nsK hns,⟨mb,nsK hb,hbb⟩,let ⟨mc,h1,h2⟩:=hlim;⟨mc,nsK h1,h2⟩⟩;have e0:Env0 P w K mg (hidT s₁.heap H) callerA [] s₁ H:=⟨rfl,hM,fun b o e=>ZpJ e,ix (Zma _ _),trivial,fun b hb=>absurd (show b∈([]:List Addr) from hb) (by simp),hok,.of_eq hg⟩;refine k8 ((F _ hKb (nsK hns)).run callerA [] s₁ H ⟨[.ref a],[]⟩ [.ref a] [.ref a] _ _ hr e0 (hbind s₁ (.ref a)) (.cons rfl .nil) (hsp H hO hS)) fun r s' h=>?_;cases r with
  | error e=>exact(hCX H e s' h).elim
  | ok fl =>
   cases fl with
   | next=>exact False.elim h
   | brk=>exact False.elim h
   | cont=>exact False.elim h
   | ret u =>
    obtain⟨v,H',os,bare,un,hok',r',q⟩:=h;have q':v=.bl true:=q;subst q';obtain rfl:u=Value.bool true:=r';refine⟨rfl,OldK.of_keep fun b o e=>?_,os,bare⟩;cases q:H b with
    | none=>exact un.keep b o e q (by intro z;exact absurd (show b∈([]:List Addr) from z) (by simp)) (by simp)
    | some u =>
     rcases hO b with z|⟨ob,xs,z⟩
     .rw[q] at z;cases z
     .have z2:=un.frzs b ob _ z;obtain⟨e1,_⟩:=hok b _ z;obtain⟨e2,_⟩:=hok' b _ z2;rw[e] at e1;cases e1;exact e2
 cases hk:K.lookup a with
 | some o =>
  have e:=KX a o hk;rw[ha] at e;cases e;refine core (fun _=>none) (fun _=>.inl rfl) (.inr ⟨_,vs.toArray,_,hk,rfl,rfl,rfl,by rw[bL,lenV];exact hl,by simpa using rv⟩) (fun b u z=>by have z':(none:Option HO)=some u:=z;cases z') (fun b z=>absurd rfl z) fun z=>absurd rfl z
 | none =>
  refine core (fun b=>if b=a then some (.frz { cls:=.type "list",data:=.seq vs.toArray } (.lst (ns.map V.int))) else none) (fun b=>?_) (.inl (.inr ⟨{ cls:=.type "list",data:=.seq vs.toArray },ak rfl⟩)) (fun b u z=>?_) (fun b z=>?_) fun _=>hk
  .by_cases hb:b=a
   .exact .inr ⟨_,_,ak hb⟩
   .exact .inl (ao hb)
  .by_cases hb:b=a
   .have z':=(ak hb).symm.trans z;cases z';subst hb;exact⟨ha,by rw[af];exact hl,vs,_,rv,ha⟩
   .have z':=(ao hb).symm.trans z;cases z'
  .by_cases hb:b=a
   .exact hb
   .exact absurd (ao hb) z
end L2
namespace L2
open PySem PySem.Spec PyProof.Rows
noncomputable abbrev KOf{K:W.Frag}{h:Heap}(_:K.In h):W.Frag:=K
theorem ZoZ{l:PySem.W.OpenLaw}{n k:Nat}{q:Program}{loose:List Str}{XP:(Str->Option Value)->Heap->Prop}{YP:World->Heap->Prop}{d:DefRec}{K:Params->W.Frag}{CX:World->CXT}{sp:World->Sp}{x:Str}
  (hn:l.most=some n) (hn2:n<=sizeLine) (hdf:d.params.defaults=[]) (hr:Room k callerA)
  (hY:∀ (w:World) (h:Heap),YP w h->(K w.params).In h)
  (F:∀ (w:World) (mg:Str->Option Value) (fa:Addr) (h:Heap),(K w.params).In h->h.Ns mainGlobals mg->mg d.name=some (.ref fa) ->
   ∃ fd:FuncData,(∀ (s:Shared) (u:Value),BindsTo s fd ⟨[u],[]⟩ [(x,u)]) /\
    ∀ base:Heap,(K w.params).In base->base.Ns mainGlobals mg->FnOk l.prog w (K w.params) mg base (CX w) k fa fd [x] (sp w))
  (hsp:∀ (w:World) (H:Hp) (a:Addr) (ns:List Int),ns.length<=n->Only H->SqL (K w.params) H a (ns.map V.int)->sp w [.ref a] H (fun v _=>v=.bl true) fun _ _ _=>False)
  (hCX:∀ (w:World) (H:Hp) (s:Shared) (e:Value) (s':Shared),CX w [] H s (fun _ _ _=>False) e s'->False) :
  PySem.W.WalkO q loose XP YP l.row.toRowW d [] (fun f vs=>PySem.call f vs):=by
 refine Att.attach_call hn hdf fun w s₀ s₁ mg mb fa o pm cd doc a vs ns G Y ho hd hcd hmg hobj hints hlen hg=>?_;have KX:=hY w _ Y;obtain⟨fd,hb,hF⟩:=F w mg fa _ KX G.T.g hmg;exact Znz KX G.T.g G.T.b G.T.builtins G.T.nolimit hg hobj hints (bh hlen hn2) hr hF hb (fun H hO hS=>hsp w H a ns hlen hO hS) fun H e s'=>hCX w H s₁ e s'
end L2
namespace L2
open PySem PySem.Spec PyProof.Rows
noncomputable def fG(s:Stmt):Arguments:=match s with
 | .FunctionDef _ a _ _ _ _ _ _ _ _=>a
 | _=>{ posonlyargs:=[],args:=[],vararg:=none,kwonlyargs:=[],kw_defaults:=[],kwarg:=none,defaults:=[] }
noncomputable def dH(s:Stmt):List Stmt:=match s with
 | .FunctionDef _ _ b _ _ _ _ _ _ _=>b
 | _=>[]
noncomputable def aC(s:Stmt):Scope:=match s with
 | .FunctionDef _ _ _ _ _ _ sc _ _ _=>sc
 | _=>{ kind:=.function,names:=[],isGenerator:=false,isCoroutine:=false }
noncomputable abbrev CX0:CXT:=fun _ _ _ _ _ _=>False
noncomputable abbrev E0:XK:=fun _ _ _=>False
theorem pass0{X:Cx}:qb CX0 X E0:=fun _ _ _ _ _ _ _ h=>h.elim
structure Fun(K:W.Frag)(x qual:Str)(st:Stmt)(f:Addr)(fd:FuncData):Prop where
 ex:∃ (oc:Value) (od:Option Addr) (kV doc pm:Value) (an:Option Addr) (cdv ct:Value) (osl:Array (Option Value)),
  fd=PySem.W.fnOf x qual (fG st) (dH st) (aC st) .none kV doc pm an cdv ct/\K.lookup f=some ⟨oc,od,.func fd,osl⟩/\PySem.W.codeIn K cdv qual=true
 kp:PySem.W.keepIn K (.ref f)=true
section
variable{P:Program}{w:World}{K:W.Frag}{mg:Str->Option Value}{base:Heap}
theorem Fun.ok{x qual:Str}{st:Stmt}{f:Addr}{fd:FuncData}{N ps:List Str}{k:Nat}{sp:Sp}(F:Fun K x qual st f fd)(S:FnScope N ps (aC st))(len:∀ vs H Q E,sp vs H Q E->vs.length=ps.length)
  (hbody:∀ (cdv:Value) (A:Around) (outer:List Env) (s:Shared) (H:Hp) (vs:List V) (Q:VK) (E:XK),Room k (A.deeper (envOfC qual (aC st) s.heap.objs.size f cdv))->sp vs H Q E ->
   ∃ t,PSs (cxOf CX0 P w K mg base N qual (aC st) f cdv A outer s H E).nox (dH st) t/\t { nx:=fun _ H'=>Q .non H',rt:=Q } (start N vs) H):FnOk P w K mg base CX0 (k+1) f fd ps sp:=by
 obtain⟨oc,od,kV,doc,pm,an,cdv,ct,osl,rfl,lk,hcd⟩:=F.ex;refine fn_of lk hcd S len fun A outer s H vs Q E hr hsp=>?_;obtain⟨t,h,q⟩:=hbody cdv A outer s H vs Q E hr hsp;exact⟨t,h.nox,q⟩
theorem Fun.binds{x qual:Str}{st:Stmt}{f:Addr}{fd:FuncData}{ps:List Str}(F:Fun K x qual st f fd)
  (h:∀ (kV doc pm:Value) (an:Option Addr) (cdv ct:Value) (us:List Value),us.length=ps.length->bindArgs (PySem.W.fnOf x qual (fG st) (dH st) (aC st) .none kV doc pm an cdv ct) ⟨us,[]⟩=pure (ps.zip us)):Binds K fd ps []:=by
 obtain⟨oc,od,kV,doc,pm,an,cdv,ct,osl,rfl,lk,hcd⟩:=F.ex;exact .all (h kV doc pm an cdv ct)
theorem eV{x qual:Str}{st:Stmt}{f:Addr}{oc:Value}{od an:Option Addr}{osl:Array (Option Value)}{kV doc pm cdv ct:Value}(l:K.lookup f=some ⟨oc,od,.func (PySem.W.fnOf x qual (fG st) (dH st) (aC st) .none kV doc pm an cdv ct),osl⟩)
  (c:PySem.W.codeIn K cdv qual=true) (k:PySem.W.keepIn K (.ref f)=true):Fun K x qual st f (PySem.W.fnOf x qual (fG st) (dH st) (aC st) .none kV doc pm an cdv ct):=⟨⟨oc,od,kV,doc,pm,an,cdv,ct,osl,rfl,l,c⟩,k⟩
end
theorem jw{A:Around}{k:Nat}(hr:Room k A):A.units+1<cLine:=iY (nr (by decide:1<=64) _) hr.units
section
variable{X:Cx}
theorem pv(i:Nat){x:Str}{pos:Pos}(hN:X.N[i]?=some x:=by rfl)(hv:Vis X.env.scope x:=by first|exact Or.inl rfl|exact Or.inr (Or.inl rfl)|exact Or.inr (Or.inr rfl))(hd:(x == ("__debug__":Str))=false:=by decide)
  (hcd:(x == ("__classdict__":Str))=false:=by decide):PE X (.Name x pos) (tVar i):=pe_var hN hv hd hcd
end
theorem iteF{A B:Prop}(h:B):if false=true then A else B:=by
 rw[ao bF];exact h
theorem iteT{A B:Prop}(h:A):if true=true then A else B:=by
 rw[ak rfl];exact h
theorem iteNS{c A B:Prop}[Decidable c](hc:c)(h:B):if (!decide c)=true then A else B:=by
 rw[aY hc];exact iteF h
def Same(H H':Hp):Prop:=∀ b o,H b=some o->H' b=some o
theorem Same.refl(H:Hp):Same H H:=fun _ _ h=>h
theorem Same.trans{H H1 H2:Hp}(a:Same H H1)(b:Same H1 H2):Same H H2:=fun c o h=>b c o (a c o h)
theorem Same.free{H H':Hp}(e:Same H H'){l:Addr}(h:H' l=Option.none):H l=Option.none:=by
 cases q:H l with
 | none=>rfl
 | some o =>
  rw[e l o q] at h;cases h
theorem Same.seq{K:W.Frag}{H H':Hp}{a:Addr}{xs:List V}(e:Same H H')(h:SqL K H a xs):SqL K H' a xs:=by
 rcases h with (h|⟨o,h⟩)|h
 .exact .inl (.inl (e _ _ h))
 .exact .inl (.inr ⟨o,e _ _ h⟩)
 .exact .inr h
section
variable{κ:Type}[DecidableEq κ]
theorem ua : ∀ {l : List κ} {k : κ}, l.Nodup->¬ k∈l->(l++[k]).Nodup
  | [], k, _, _=>by simp
  | a :: r, k, h, hk => by
    obtain⟨h1,h2⟩:=dX.mp h;show (a::(r++[k])).Nodup;refine dX.mpr ⟨fun m=>?_,ua h2 fun m=>hk (aJ.mpr (Or.inr m))⟩;rcases aS.mp m with q|q
    . exact h1 q
    . exact hk (aJ.mpr (Or.inl (aM.mp q).symm))
end
end L2
end
section
namespace L2
theorem opq{p:Prop}(h:let g:Prop:=p;g):p:=h
open PySem PySem.Spec PyProof.Rows
theorem qr(env : Env) : ∀ (names : List (Str×NameKind)) (acc : List (Str×Addr)),
    (∀ y∈names,y.2=.free->∃ c,env.cells.lookup y.1=some c) ->
    ∃ cl : List (Str × Addr), (forIn names acc fun (x : Str × NameKind) (r : List (Str × Addr)) => (match x with
        | (name, kind) => if (kind == NameKind.free) = true then do
            let a <- cellOf env name
            pure (ForInStep.yield ((name,a)::r))
          else pure (ForInStep.yield r):Sem (ForInStep (List (Str×Addr)))))=(pure cl:Sem (List (Str×Addr))) /\
      (∀ x c,cl.lookup x=some c->acc.lookup x=some c\/env.cells.lookup x=some c) /\
      (∀ x,(acc.lookup x).isSome=true\/(x,NameKind.free)∈names->(cl.lookup x).isSome=true)
  | [], acc, _=>⟨acc, by simp, fun x c h=>.inl h, fun x h=>h.elim id fun z=>nomatch z⟩
  | (n, k) :: r, acc, h => by
    by_cases hk:k=.free
    . subst hk
      obtain⟨c,hc⟩:=h (n,.free) aO rfl;obtain⟨cl,e,h1,h2⟩:=qr env r ((n,c)::acc) fun y hy=>h y (bw _ hy);refine⟨cl,?_,fun x c' z=>?_,fun x z=>?_⟩
      . rw[jK]
        have q:cellOf env n=pure c:=by unfold cellOf;rw[hc]
        simp only[q,beq_self_eq_true,fQ,pure_bind];exact e
      . rcases h1 x c' z with z | z
        . rw[lr] at z
          by_cases hx:x=n
          . subst hx
            simp at z;subst z;exact .inr hc
          . have hb : (x == n) = false := by simpa using hx
            rw[hb] at z;exact .inl z
        . exact .inr z
      . refine h2 x ?_
        rw[lr];by_cases hx:x=n
        . subst hx
          left;simp
        . have hb : (x == n) = false := by simpa using hx
          rw[hb];rcases z with z|z
          . exact .inl z
          . rcases aJ.mp z with z | z
            . cases z
              exact absurd rfl hx
            . exact .inr z
    . obtain ⟨cl, e, h1, h2⟩ := qr env r acc fun y hy => h y (bw _ hy)
      refine⟨cl,?_,h1,fun x z=>h2 x ?_⟩
      . rw[jK]
        have hb:(k == NameKind.free)=false:=by simpa using hk
        simp only[hb,de,cv,pure_bind];exact e
      . rcases z with z | z
        . exact .inl z
        . rcases aJ.mp z with z | z
          . cases z
            exact absurd rfl hk
          . exact .inr z
theorem tX{scope:Scope}{env:Env}(h:∀ y∈scope.names,y.2=.free->∃ c,env.cells.lookup y.1=some c) :
  ∃ cl,closureFor scope env=pure cl/\(∀ x c,cl.lookup x=some c->env.cells.lookup x=some c)/\∀ x,(x,NameKind.free)∈scope.names->∃ c,cl.lookup x=some c:=by
 obtain⟨cl,e,h1,h2⟩:=qr env scope.names [] h;refine⟨cl,?_,fun x c z=>(h1 x c z).elim (fun q=>by simp at q) id,fun x z=>k9.mp (h2 x (.inr z))⟩;unfold closureFor;dsimp only;rw[e];rfl
structure BkScope(N:List Str)(sc osc:Scope)(LN FN:List Str)(fr:List Nat):Prop where
 kind:sc.kind=.function
 nocell:∀ y∈sc.names,y.2≠.cell
 names:∀ x∈sc.names,x.2=.local->sc.names.lookup x.1=some .local
 free:∀ y∈sc.names,y.2=.free->osc.names.lookup y.1=some .cell\/osc.names.lookup y.1=some .free
 fnk:∀ x∈FN,osc.names.lookup x=some .cell\/osc.names.lookup x=some .free
 fnf:∀ x∈FN,sc.names.lookup x=some .free
 at':FN.map some=fr.map fun j=>N[j]?
theorem BkScope.place{N:List Str}{sc osc:Scope}{LN FN:List Str}{fr:List Nat}(S:BkScope N sc osc LN FN fr){k:Nat}{x:Str}(e:FN[k]?=some x):∃ j:Nat,fr[k]?=some j/\N[j]?=some x:=by
 have h:=congrArg (fun l=>l[k]?) S.at';simp only[ah,e,fR] at h;cases q:fr[k]? with
 | none=>rw[q] at h;cases h
 | some j =>
  rw[q] at h;exact⟨j,rfl,(Option.some.inj h).symm⟩
theorem BkScope.frl{N:List Str}{sc osc:Scope}{LN FN:List Str}{fr:List Nat}(S:BkScope N sc osc LN FN fr):fr.length=FN.length:=by
 have h:=congrArg List.length S.at';simpa using h.symm
noncomputable def gB(LN:List Str)(fr:List Nat)(Z:St):St:=List.replicate LN.length none++fr.map fun j=>(Z[j]?).getD none
noncomputable def bkCx(X:Cx)(LN FN:List Str)(sc:Scope)(cl:List (Str×Addr))(C:Addr)(fp:List Addr)(pins:List (Addr×Obj))(s:Shared)(H:Hp):Cx :=
 { X with N:=LN++FN,s₀:=s,H₀:=H,env:=compEnvC sc cl C X.env,outer:=X.stack,ex:=fp,fn:=fun _=>false,pn:=X.pn++pins,xe:=fun _ _=>False }
theorem pM{env : Env} : ∀ {names : List (Str×NameKind)} {x : Str} {k : NameKind},
    (names.map fun(n,k)=>if (k == NameKind.free&&env.scope.kind == .function&&env.kindOf n == some .cell) then (n,NameKind.cell) else (n,k)).lookup x=some k ->
    names.lookup x=some k\/(names.lookup x=some .free/\k=.cell)
  | [], _, _, h=>by simp at h
  | (n, j) :: r, x, k, h => by
    have ih:=@pM env r x k;have h:List.lookup x ((if (j == NameKind.free&&env.scope.kind == .function&&env.kindOf n == some .cell)=true then (n,NameKind.cell) else (n,j))::_)=some k:=h;rw[lr];by_cases hc:(j == NameKind.free&&env.scope.kind == .function&&env.kindOf n == some .cell)=true
    . rw[ak hc, lr] at h
      cases hx:x == n with
      | true =>
        rw[hx] at h;simp only[iw,beq_iff_eq] at hc;have hk:NameKind.cell=k:=by simpa using h
        exact .inr ⟨by simp[hc.1.1],hk.symm⟩
      | false =>
        rw[hx] at h;exact ih h
    . rw[ao hc, lr] at h
      cases hx:x == n with
      | true =>
        rw[hx] at h;exact .inl h
      | false =>
        rw[hx] at h;exact ih h
theorem Zn0{X:Cx}{pins:List (Addr×Obj)}{Z:St}{H:Hp}{s:Shared}{LN FN:List Str}{fr:List Nat}{sc:Scope}{cl:List (Str×Addr)}{C:Addr}{fp:List Addr}{h':Heap}{tk:Nat}{m:Str->Option Value}
  (I:Inv X pins Z H s) (S:BkScope X.N sc X.env.scope LN FN fr) (hf:∀ b∈fp,FpOk X pins H b) (hfs:∀ b∈fp,∃ o,s.heap.get? b=some o)
  (h1:∀ x c,cl.lookup x=some c->X.env.cells.lookup x=some c) (h2:∀ x,(x,NameKind.free)∈sc.names->∃ c,cl.lookup x=some c)
  (hC:s.heap.objs.size<=C) (hk:∀ b o,s.heap.get? b=some o->h'.get? b=some o) (hn:h'.Ns C m) :
  Inv (bkCx X LN FN sc cl C fp pins s H) [] (gB LN fr Z) H { s with heap:=h',toks:=tk }:=by
 have hsub:∀ b,b∉X.fs->b≠X.env.locals->b∉frs X.stack:=fun b n1 n2 z=>(aJ.mp (I.stkSub b z)).elim n2 n1;have hlk:∀ x k,(relabel sc X.env).names.lookup x=some k->(k=.cell\/k=.free)->sc.names.lookup x=some .free:=fun x k e hk=>by
  rcases pM e with q|⟨q,_⟩
  .rcases hk with rfl|rfl
   .exact absurd rfl (S.nocell _ (PySem.mem_of_lookup q))
   .exact q
  .exact q
 refine⟨⟨I.ok.mod,?_,I.ok.glob,I.ok.blt,hC,fun x y c e1 e2=>I.ok.inj x y c (h1 x c e1) (h1 y c e2),fun x hx=>?_,(fun x c z=>absurd z (by intro z;cases z)),I.ok.hd,I.ok.frames,.inl rfl,fun b hb=>⟨?_,fun x c e z=>?_⟩,I.bs,bh I.ok.bsz I.sz,fun b o e hb=>?_,fun b hb=>?_,I.stack,I.stkFree⟩,
  rfl,I.bare,Un.kept hk,⟨m,hn,fun i x v e1 e2 e3=>?_⟩,fun x c e=>?_,?_,fun x c e=>I.freeC x c (h1 x c e),fun p hp=>?_,I.hok.kept hk,?_⟩
 .exact S.kind
 .have hx:(relabel sc X.env).names.lookup x=some .cell\/(relabel sc X.env).names.lookup x=some .free:=hx;rcases hx with hx|hx
  .exact h2 x (PySem.mem_of_lookup (hlk x _ hx (.inl rfl)))
  .exact h2 x (PySem.mem_of_lookup (hlk x _ hx (.inr rfl)))
 .obtain ⟨o,e⟩:=hfs b hb;exact bP (cZ (ba e) hC)
 .exact (hf b hb).2.2.2.2.1 x c (h1 x c e) z
 .obtain ⟨_,_,_,h3,_⟩:=hf b hb;rcases h3 with z|z
  .exact I.ok.noex b o e z
  .exact absurd (cZ (ba (I.ok.bs b o e).1) z) (gq _)
 .obtain ⟨_,n1,n2,_⟩:=hf b hb;exact hsub b n2 n1
 .-- the free names' values
  have hi:LN.length<=i:=by
   refine se fun hlt=>?_;unfold gB at e2;rw[cm (by simpa using hlt),jF] at e2;split at e2 <;> cases e2
  have e1:FN[i-LN.length]?=some x:=by
   have e1:(LN++FN)[i]?=some x:=e1
   rwa [gu hi] at e1
  obtain⟨j,ej,hj⟩:=S.place e1;have e2:(Z[j]?).getD none=some v:=by
   unfold gB at e2;rw[gu (by simpa using hi),ir,ah,ej] at e2;simpa using e2
  have e2:Z[j]?=some (some v):=by
   cases q:Z[j]? with
   | none=>rw[q] at e2;cases e2
   | some z =>
    rw[q] at e2;exact congrArg some e2
  have hkx:=S.fnk x (aD e1);obtain⟨m0,hm0,hl⟩:=I.loc;have hv:Vis X.env.scope x:=hkx.elim (fun z=>.inr (.inl z)) fun z=>.inr (.inr z);obtain⟨u,r,l⟩:=hl j x v hj e2 hv;refine⟨u,r,?_⟩;rcases l with ⟨k1,_⟩|⟨_,c,ec,z⟩
  .have k1:X.env.scope.names.lookup x=some .local:=k1;rcases hkx with q|q <;> rw[q] at k1 <;> cases k1
  .have e3:Vis (relabel sc X.env) x:=e3;rcases e3 with q|q|q
   .-- a block's own name is none of the free ones,unless it shadows: then the kinds say local
    rcases pM q with q'|⟨_,q'⟩
    .rw[S.fnf x (aD e1)] at q';cases q'
    .cases q'
   .obtain ⟨c',ec'⟩:=h2 x (PySem.mem_of_lookup (hlk x _ q (.inl rfl)));have:=h1 x c' ec';rw[ec] at this;cases this;exact .inr ⟨.inl q,c,ec',by obtain⟨o,ho,hd⟩:=z;exact⟨o,hk _ _ ho,hd⟩⟩
   .obtain ⟨c',ec'⟩:=h2 x (PySem.mem_of_lookup (hlk x _ q (.inr rfl)));have:=h1 x c' ec';rw[ec] at this;cases this;exact .inr ⟨.inr q,c,ec',by obtain⟨o,ho,hd⟩:=z;exact⟨o,hk _ _ ho,hd⟩⟩
 .obtain ⟨v,o,ho,hd⟩:=I.cell x c (h1 x c e);exact⟨v,o,hk _ _ ho,hd⟩
 .exact I.hok.fresh hC
 .have hp:p∈(X.pn++pins)++[]:=hp;rw[dW] at hp;obtain⟨e,n,ne,nf,d⟩:=I.pin p hp;exact⟨hk _ _ e,n,bP (cZ (ba e) hC),hsub _ nf ne,d⟩
 .unfold gB;show _=(LN++FN).length;simp[S.frl]
end L2
end
section
namespace L2
open PySem PySem.Spec PyProof.Rows
noncomputable def PTs(X:Cx)(ifs:List Expr)(t:TT):Prop :=
 ∀ (pins:List (Addr×Obj)) (s:Shared) (Z:St) (H:Hp) (Q:Bool->Hp->Prop),Inv X pins Z H s->t Z H Q ->
  wpAny (model X.prog X.w) X.A (forIn ifs true fun c r=>if r=true then do let ok <- isTrue c X.env (eval c X.env);pure (ForInStep.yield ok) else pure (ForInStep.yield r)) (TP X pins Z Q) X.xe s
def iK:TT:=fun _ H Q=>Q true H
theorem di{X:Cx}:PTs X [] iK:=fun _ _ _ H _ I h=>wpAny_tests_nil ⟨H,I,h⟩
theorem vj{X:Cx}{c:Expr}{t:TT}(h:PT X c t):PTs X [c] t:=fun pins s Z H Q I q=>wpAny_tests_one (h pins s Z H Q I q)
theorem Un.track{fs ex:List Addr}{H H1:Hp}{h h1:Heap}{a:Addr}{o:HO}(u:Un fs ex H H1 h h1)(hp:h.objs.size<=a)(hn:H a=none):Un fs ex H (upd H1 a o) h h1 where
 keep:=u.keep
 slot:=u.slot
 free:=fun b ob q n hx=>by
  rw[bv (bP (cZ (ba q) hp))];exact u.free b ob q n hx
 there:=u.there
 tups:=fun b xs q=>by
  rw[bv (fun z=>by rw[z,hn] at q;cases q)];exact u.tups b xs q
 frzs:=fun b ob x q=>by
  rw[bv (fun z=>by rw[z,hn] at q;cases q)];exact u.frzs b ob x q
 tbls:=fun b ps q=>by
  rw[bv (fun z=>by rw[z,hn] at q;cases q)];exact u.tbls b ps q
theorem HOk.track{P:Program}{w:World}{H:Hp}{h:Heap}{a:Addr}{o:HO}(x:HOk P w H h)(hn:H a=none)(new:ObjOk P w (upd H a o) h a o):HOk P w (upd H a o) h:=fun b u e=>by
 by_cases hb:b=a
 .subst hb;rw[bJ] at e;cases e;exact new
 .rw[bv hb] at e;refine (x b u e).stay (fun _ _ _ q=>q) (fun c q=>?_) fun c xs q=>?_
  .rw[bv (fun z=>by rw[z,hn] at q;cases q)];exact q
  .rw[bv (fun z=>by rw[z,hn] at q;cases q)];exact q
theorem Zkd{EB:Value->Shared->Prop}{prog:Program}{w:World}{A:Around}{R:Result->Shared->Prop}{s:Shared}{elt target iter:Expr}{ifs:List Expr}{scope:Scope}{pos:Pos}{it acc:Value}{env:Env}(I:Nat->Shared->Prop)
  (turn:∀ n s,I n s->wpAny (model prog w) A (pyNext it) (fun r s₁=>match r with
   | none=>R (.ok .next) s₁
   | some v=>wpAny (model prog w) A (letOwnedTupleGo target it v) (fun _ s₁'=>wpAny (model prog w) A (assign target env v) (fun _ s₂ =>
     wpAny (model prog w) A (forIn ifs true fun c r=>if r=true then do let ok <- isTrue c env (eval c env);pure (ForInStep.yield ok) else pure (ForInStep.yield r)) (fun ok s₃ =>
      if ok=true then wpAny (model prog w) A (eval elt env) (fun x s₄ =>
       wpAny (model prog w) A (call (.builtin "list.append") [acc,x]) (fun _ s₅=>∃ m,m<n/\I m s₅) (fun _ _=>False) s₄) EB s₃
      else ∃ m,m<n/\I m s₃) (fun _ _=>False) s₂) (fun _ _=>False) s₁') (fun _ _=>False) s₁) (fun _ _=>False) s)
  (hEB:∀ e s',EB e s'->notedBy (model prog w) A env (fun e s'=>R (.error e) s') e s') (n:Nat) (h:I n s) :
  codeAny (model prog w) A (.compLoop (.ListComp elt [⟨target,iter,ifs,0⟩] scope pos) 0 it acc env) R s:=by
 refine codeAny_loop rfl I (fun n s hI=>?_) n h;show wpAny _ A ((compTurn (.ListComp elt [⟨target,iter,ifs,0⟩] scope pos) 0 it acc env).onRaise (fun x=>do noteFrame x env;theTreesLotGoes x)) _ _ s;refine wpAny_noted ?_;rw[compTurn_list];refine ab (nc (ab (dw (turn n s hI) (fun r s₁ h₁=>?_) fun _ _ h'=>h'.elim)));cases r with
 | none=>exact am h₁
 | some v =>
  refine ab (dw h₁ (fun _ s₁' h₁'=>?_) fun _ _ h'=>h'.elim);refine ab (dw h₁' (fun _ s₂ h₂=>ab (dw h₂ (fun ok s₃ h₃=>?_) fun _ _ h'=>h'.elim)) fun _ _ h'=>h'.elim);cases ok with
  | false=>exact am ⟨rfl,h₃⟩
  | true =>
   exact ab (ab (dw h₃ (fun x s₄ h₄=>ab (dw h₄ (fun _ s₅ h₅=>am (am ⟨rfl,h₅⟩)) fun _ _ h'=>h'.elim)) fun e s' h'=>hEB e s' h'))
def xo(X:Cx)(C:Addr)(e:Value)(s':Shared):Prop:=∃ m,s'.heap.Ns C m/\∀ h',Heap.SameBut C s'.heap h'->∀ cenv:Env,cenv.locals=C->wpAny (model X.prog X.w) X.A (PySem.passOn "comprehension.variables-let-go" e cenv:Sem Value) (fun _ _=>False) X.xe { s' with heap:=h' }
noncomputable def bkXe(X:Cx)(sc:Scope)(cl:List (Str×Addr))(C:Addr):Value->Shared->Prop:=notedBy (model X.prog X.w) X.A (compEnvC sc cl C X.env) (xo X C)
def BkIn(X:Cx)(C:Addr)(fp:List Addr)(pins:List (Addr×Obj))(s:Shared)(H:Hp):Prop:=(∃ Z,Inv X pins Z H s)/\(∀ b∈fp,FpOk X pins H b)/\s.heap.objs.size<=C
noncomputable def bkX(X:Cx)(LN FN:List Str)(sc:Scope)(cl:List (Str×Addr))(C:Addr)(fp:List Addr)(pins:List (Addr×Obj))(s:Shared)(H:Hp):Cx:=(bkCx X LN FN sc cl C fp pins s H).wish (bkXe X sc cl C)
section
variable{X:Cx}{tg elt iter:Expr}{ifs:List Expr}{sc:Scope}{pos:Pos}{LN FN:List Str}{fr:List Nat}{wi:TI}{g:TG}{tt:TT}{te:TE}
noncomputable def CW(J:It)(g:TG)(tt:TT)(te:TE)(W:Nat->Nat->List V->St->Hp->Prop)(Q:VK):Prop :=
 ∀ i m ys Z H,W i m ys Z H ->
  (J.stop i H/\ys.length<=sizeLine/\∀ p,H p=none->Q (.ref p) (upd H p (.lst ys))) \/
  (J.go i H/\∃ N:List V->St->Hp->Prop,(∀ ys' σ' H',N ys' σ' H'->∃ m',m' < m/\W (i+1) m' ys' σ' H') /\
   ∀ x H2,J.yld i H x H2->g x Z H2 fun σ2 H3=>tt σ2 H3 fun ok H4=>if ok=true then te σ2 H4 fun y H5=>ys.length<sizeLine/\N (ys++[y]) σ2 H5 else N ys σ2 H4)
def fW(LN:List Str)(fr:List Nat)(wi:TI)(g:TG)(tt:TT)(te:TE):TE:=fun Z H Q=>wi Z H fun J H1 =>
 ∃ W:Nat->Nat->List V->St->Hp->Prop,(∃ m,W 0 m [] (gB LN fr Z) H1)/\CW J g tt te W Q
theorem tS{pins:List (Addr×Obj)}{Z:St}{H2:Hp}{s2:Shared}{it:Addr}{fp:List Addr}{tn:Nat->Heap->Prop}{J:It}{cl:List (Str×Addr)}{W:Nat->Nat->List V->St->Hp->Prop}{Q:VK}{m0:Nat}
  {R:Value->Addr->Result->Shared->Prop} {E:Value->Shared->Prop}
  (hc:X.calm=true) (S:BkScope X.N sc X.env.scope LN FN fr)
  (hg:∀ cl C fp pins s H,PG (bkCx X LN FN sc cl C fp pins s H) tg g) (ht:∀ cl C fp pins s H,PTs (bkCx X LN FN sc cl C fp pins s H) ifs tt) (he:∀ cl C fp pins s H,BkIn X C fp pins s H->PE (bkX X LN FN sc cl C fp pins s H) elt te)
  (h1:∀ x c,cl.lookup x=some c->X.env.cells.lookup x=some c) (h2:∀ x,(x,NameKind.free)∈sc.names->∃ c,cl.lookup x=some c)
  (I2:Inv X pins Z H2 s2) (T:Turn X.prog X.w X.K tg J fp it tn) (st2:tn 0 s2.heap) (f2:∀ b∈fp,FpOk X pins H2 b) (w0:W 0 m0 [] (gB LN fr Z) H2) (turn:CW J g tt te W Q)
  (hR:∀ D C s' H' ys m,s'.heap.Ns C m->Inv X pins Z (upd H' D (.lst ys)) s'->FpOk X pins (upd H' D (.lst ys)) C->Q (.ref D) (upd H' D (.lst ys))->R (.ref D) C (.ok .next) s') (hRE:∀ D C e s',xo X C e s'->R (.ref D) C (.error e) s') :
  wpAny (model X.prog X.w) X.A (newList []) (fun acc s₃=>wpAny (model X.prog X.w) X.A (newFunctionEnv sc X.env.globals cl [] X.env.qual none .none (some X.env)) (fun cenv s₄ =>
   codeAny (model X.prog X.w) X.A (.compStart (.ListComp elt [⟨tg,iter,ifs,0⟩] sc pos) 0 (.ref it) acc { cenv with scope:=relabel sc X.env }) (R acc cenv.locals) s₄) E s₃) E s2:=by
 refine eD (wpAny_newFunctionEnv S.nocell (by intro y hy;simp at hy) (fun h₁ hns hsb=>?_) S.kind);dsimp only at hns hsb ⊢;generalize hH2:s2.heap.push { cls:=.type "list",dict:=none,data:=.seq ([]:List Value).toArray }=G at hns hsb ⊢;have hC:G.objs.size=s2.heap.objs.size+1:=by rw[<-hH2,gL]
 have hDC:s2.heap.objs.size≠G.objs.size:=by rw[hC];exact bP (Nat.lt_succ_self _)
 have hCle:s2.heap.objs.size<=G.objs.size:=by rw[hC];exact nt _
 have old:∀ b o,s2.heap.get? b=some o->h₁.get? b=some o:=fun b o e =>
  hsb.extBut b o (by rw[hC];exact bP (sf (ba e))) (be _ (hH2▸be _ e))
 have hacc:h₁.PlainList s2.heap.objs.size #[]:=⟨_,hsb.extBut _ _ hDC (be _ (hH2▸bQ _ rfl))⟩;have hfs:∀ b∈fp,∃ o,s2.heap.get? b=some o:=fun b hb=>let ⟨o,e,_⟩:=T.obj 0 _ st2 b hb;⟨o,e⟩;have hflt:∀ b∈fp,b<s2.heap.objs.size:=fun b hb=>let ⟨o,e⟩:=hfs b hb;ba e;generalize hD:s2.heap.objs.size=D at *;generalize hCC:G.objs.size=C at *;have I0:=Zn0 (LN:=LN) (cl:=cl) (C:=C) (tk:=s2.toks+([]:List (Str×Value)).length) I2 S f2 hfs h1 h2 (by rw[hD];exact hCle) old hns;have hin:BkIn X C fp pins s2 H2:=⟨⟨Z,I2⟩,f2,by rw[hD];exact hCle⟩;have fD:FpOk X pins H2 D:=I2.fpOk (ix hD) (I2.hok.fresh (ix hD));have stD:∀ {pl:List (Addr×Obj)} {H':Hp},H' D=none->(∀ p∈pl,p.1≠D)->FpOk (bkCx X LN FN sc cl C fp pins s2 H2) pl H' D:=fun {pl H'} hn hp=>by
  refine⟨hn,hDC,fun z=>?_,.inr (ix hD),fun x c e=>fD.2.2.2.2.1 x c (h1 x c e),fun p hp'=>?_⟩
  .exact (aJ.mp (I2.stkSub D z)).elim fD.2.1 fD.2.2.1
  .have hp':p∈(X.pn++pins)++pl:=hp';rcases aS.mp hp' with q|q
   .exact fD.2.2.2.2.2 p q
   .exact hp p q
 have stat:∀ {pl:List (Addr×Obj)} {H':Hp},(∀ b∈fp,H' b=none)->(∀ p∈pl,p.1=D)->∀ b∈fp,FpOk (bkCx X LN FN sc cl C fp pins s2 H2) pl H' b:=fun {pl H'} hn hp b hb=>by
  obtain⟨_,n1,n2,n3,n4,n5⟩:=f2 b hb;refine⟨hn b hb,bP (cZ (hflt b hb) hCle),fun z=>?_,.inl hb,fun x c e=>n4 x c (h1 x c e),fun p hp'=>?_⟩
  .exact (aJ.mp (I2.stkSub b z)).elim n1 n2
  .have hp':p∈(X.pn++pins)++pl:=hp';rcases aS.mp hp' with q|q
   .exact n5 p q
   .rw[hp p q];exact eX (hflt b hb)
 have pinD:∀ {s':Shared},∀ p∈eh [D] s'.heap,p.1=D:=fun p hp=>by simpa using (vp hp).1
 have key:∀ s₄:Shared,s₄={ s2 with heap:=h₁,toks:=s2.toks+([]:List (Str×Value)).length } ->
   codeAny (model X.prog X.w) X.A (.compLoop (.ListComp elt [⟨tg,iter,ifs,0⟩] sc pos) 0 (.ref it) (.ref D) (compEnvC sc cl C X.env)) (R (.ref D) C) s₄:=by
  rintro s₄ rfl;refine Zkd (EB:=bkXe X sc cl C) (fun n s'=>∃ i ys σ' H' its,Inv (bkCx X LN FN sc cl C fp pins s2 H2) [] σ' H' s'/\tn i s'.heap/\(∀ b∈fp,H' b=none)/\W i n ys σ' H'/\Vals ys its/\s'.heap.PlainList D its.toArray/\H' D=none) ?_ (fun e s' h'=>dw h' (fun _ s'' q=>hRE D C e s'' q) fun e' s'' q=>hRE D C e' s'' q) m0
   ⟨0,[],_,H2,[],I0,T.keep _ _ _ st2 (fun b _ o e=>old b o e),fun b hb=>(f2 b hb).1,w0,.nil,hacc,fD.1⟩
  rintro n s3 hh;refine opq ?_;intro gg;obtain⟨i,ys,σ3,H3,its,I3,st3,fr3,w3,rv,pl,nD⟩:=hh;have plo:∃ o,s3.heap.get? D=some o/\∀ v,o.data≠.cell v:=by
   obtain⟨k,e⟩:=pl;exact⟨_,e,fun v z=>by cases z⟩
  have I3':Inv (bkCx X LN FN sc cl C fp pins s2 H2) ([]++eh [D] s3.heap) σ3 H3 s3:=I3.pinned (fp:=[D]) (fun b hb=>by
   obtain rfl:b=D:=by simpa using hb
   exact stD nD (fun _ z=>nomatch z)) (fun b hb=>by
   obtain rfl:b=D:=by simpa using hb
   exact plo)
  have I3':Inv (bkCx X LN FN sc cl C fp pins s2 H2) (eh [D] s3.heap) σ3 H3 s3:=I3';have keepD:∀ {pl':List (Addr×Obj)} {σ':St} {H':Hp} {s':Shared},Inv (bkCx X LN FN sc cl C fp pins s2 H2) (eh [D] s3.heap++pl') σ' H' s'->s'.heap.PlainList D its.toArray/\H' D=none:=fun {pl' σ' H' s'} J=>by
   obtain⟨k,e⟩:=pl;have:=J.pin (D,_) (eB _ (dJ _ (jX (by simp) e)));exact⟨⟨k,this.1⟩,this.2.1⟩
  have keepD0:∀ {σ':St} {H':Hp} {s':Shared},Inv (bkCx X LN FN sc cl C fp pins s2 H2) (eh [D] s3.heap) σ' H' s'->s'.heap.PlainList D its.toArray/\H' D=none:=fun {σ' H' s'} J=>by
   refine keepD (pl':=[]) (σ':=σ') ?_;rw[dW];exact J
  rcases turn i n ys σ3 H3 w3 with ⟨stop,hlen,q⟩|⟨go,N,hN,step⟩
  .refine thn (T.done (bkCx X LN FN sc cl C fp pins s2 H2) rfl rfl rfl hc i (eh [D] s3.heap) s3 σ3 H3 _ I3' (stat fr3 (fun p hp=>pinD (s':=s3) p hp)) st3 stop) fun r s4 hh1=>?_;refine opq ?_;intro gg1;obtain ⟨hr,I4⟩:=hh1;subst hr;obtain ⟨pl4,n4⟩:=keepD0 I4;have u4:Un (frs X.stack) fp H2 (upd H3 D (.lst ys)) s2.heap s4.heap:=Un.track I4.base (ix hD) fD.1;have nC:H3 C=none:=I4.free;have o4:HOk X.prog X.w (upd H3 D (.lst ys)) s4.heap:=HOk.track I4.hok n4 (by
    obtain⟨k,e⟩:=pl4;exact⟨hlen,its,k,rv,e⟩)
   have J:Inv X pins Z (upd H3 D (.lst ys)) s4:=I2.call' (s':=s4) (ch:=fp) I4.os u4 o4 I4.bare fun b hb=>by
    obtain⟨_,n1,n2,n3,n4,n5⟩:=f2 b hb;exact⟨n3,n1,n4,n5⟩
   obtain⟨m,hm,_⟩:=I4.loc;exact hR D C s4 H3 ys m hm J (I2.fpOk (by rw[hD];exact hCle) (by rw[bv (Ne.symm hDC)];exact nC)) (q D n4)
  .refine thn (T.item (bkCx X LN FN sc cl C fp pins s2 H2) rfl rfl rfl hc i (eh [D] s3.heap) s3 σ3 H3 _ I3' (stat fr3 (fun p hp=>pinD (s':=s3) p hp)) st3 go) fun r s4 hh2=>?_;refine opq ?_;intro gg2;obtain ⟨u,hr,h4⟩:=hh2;subst hr;refine thn h4 fun _ s5 hh3=>?_;refine opq ?_;intro gg3;obtain ⟨x,H5,I5,r5,y5,st5,fr5⟩:=hh3;have I5':=I5.pinned (stat fr5 (fun p hp=>pinD (s':=s3) p hp)) (T.obj _ _ st5);refine thn (hg cl C fp pins s2 H2 _ s5 σ3 H5 x u _ I5' r5 (step x H5 y5)) fun _ s6 hh4=>?_;refine opq ?_;intro gg4;obtain ⟨σ6,H6,I6,q6⟩:=hh4;refine thn (ht cl C fp pins s2 H2 _ s6 σ6 H6 _ I6 q6) fun ok s7 hh5=>?_;obtain ⟨H7,I7,q7⟩:=hh5;have again:∀ {s':Shared} {H':Hp},Inv (bkCx X LN FN sc cl C fp pins s2 H2) (eh [D] s3.heap++eh fp s5.heap) σ6 H' s'->tn (i+1) s'.heap/\∀ b∈fp,H' b=none:=fun {s' H'} J=>by
    refine⟨T.keep _ _ _ st5 fun b hb o e=>(J.pin (b,o) (eB _ (eB _ (jX hb e)))).1,fun b hb=>?_⟩;obtain⟨o,e,d⟩:=T.obj _ _ st5 b hb;exact(J.pin (b,o) (eB _ (eB _ (jX hb e)))).2.1
   have bare:∀ {s':Shared} {H':Hp},Inv (bkCx X LN FN sc cl C fp pins s2 H2) (eh [D] s3.heap++eh fp s5.heap) σ6 H' s'->Inv (bkCx X LN FN sc cl C fp pins s2 H2) [] σ6 H' s':=fun J=>J.pins_of fun p hp=>nomatch hp;cases ok with
   | false =>
    rw[ao bF] at q7 ⊢;obtain⟨m',hm,w7⟩:=hN ys σ6 H7 q7;obtain⟨pl7,n7⟩:=keepD I7;exact⟨m',hm,i+1,ys,σ6,H7,its,bare I7,(again I7).1,(again I7).2,w7,rv,pl7,n7⟩
   | true =>
    rw[ak rfl] at q7 ⊢;refine dw (he cl C fp pins s2 H2 hin _ s7 σ6 H7 _ (I7.wish _) q7) (fun v s8 hz8=>?_) fun _ _ z=>z;obtain⟨y,H8,I8,r8,hl8,q8⟩:=hz8;have I8:=I8.unwish;obtain⟨m',hm,w8⟩:=hN _ σ6 H8 q8;obtain⟨pl8,n8⟩:=keepD I8;obtain⟨t8,f8⟩:=again I8;have hsz:its.toArray.size<=sizeLine:=by
     have:=rv.length;rw[bL,<- this];exact gt hl8
    refine wpAny_list_append_plain pl8 (fun h' pl' sb=>?_) hsz;refine⟨m',hm,i+1,ys++[y],σ6,H8,its++[v],?_,?_,f8,w8,rv.append (.cons r8 .nil),?_,n8⟩
    .obtain ⟨d0,d1,d2,d3,d4,d5⟩:=stD (pl:=[]) n8 (fun _ z=>nomatch z);exact(bare I8).turned (t':=s8.toks) (fun b o hb e=>(sb.2 b hb).trans e) d0 d1 d3 d4 d5
    .exact T.keep _ _ _ t8 fun b hb o e=>(sb.2 b (bP (hflt b hb))).trans e
    .simpa using pl'
 exact codeAny_compStart_list (key _ rfl) (T.self _ 0 _ _ _ (T.keep _ _ _ st2 fun b _ o e=>old b o e) (key _ rfl))
theorem PE.any{E:Value->Shared->Prop}{e:Expr}{t:TE}(h:PE X e t)(hx:X.xe=fun _ _=>False):PE (X.wish E) e t:=by
 intro pins s Z H Q I q;refine dw (h pins s Z H Q I.unwish q) (fun v s1 h1=>?_) (fun _ _ z=>by rw[hx] at z;exact z.elim);obtain⟨y,H1,I1,r1,q1⟩:=h1;exact⟨y,H1,I1.wish E,r1,q1⟩
theorem fO(hc:X.calm=true)(S:BkScope X.N sc X.env.scope LN FN fr)(hi:PI X tg iter wi)
  (hg:∀ cl C fp pins s H,PG (bkCx X LN FN sc cl C fp pins s H) tg g) (ht:∀ cl C fp pins s H,PTs (bkCx X LN FN sc cl C fp pins s H) ifs tt) (he:∀ cl C fp pins s H,PE (bkCx X LN FN sc cl C fp pins s H) elt te)
  (hs:∀ x,foldedSetIterable iter X.env x=pure x:=by intro _;rfl):PE X (.ListComp elt [⟨tg,iter,ifs,0⟩] sc pos) (fW LN fr wi g tt te):=by
 intro pins s Z H Q I h;rw[eval_ListComp];obtain⟨cl,ecl,h1,h2⟩:=tX (scope:=sc) (env:=X.env) fun y hy hk=>I.ok.has y.1 (S.free y hy hk);refine wpAny_comprehension_free (use:=none) rfl hs ecl S.kind S.names (thn (hi pins s Z H _ I h) fun v s1 q1=>thn q1 fun itv s2 q2=>?_);obtain⟨it,fp,tn,J,H2,e,I2,T,st2,f2,W,⟨m0,w0⟩,turn⟩:=q2;subst e;refine tS (R:=fun acc C=>compPost (model X.prog X.w) X.A X.xe none (EP X pins Z Q) acc C) hc S hg ht (fun cl C fp pins s H _=>(he cl C fp pins s H).any rfl) h1 h2 I2 T st2 f2 w0 turn (fun D C s' H' ys m hn J fC q=>?_) (fun _ _ _ _ z=>z);refine⟨m,hn,fun h' sb=>⟨.ref D,_,J.turned (t':=s'.toks) (fun b o hb e=>(sb.2 b hb).trans e) fC.1 fC.2.1 fC.2.2.2.1 fC.2.2.2.2.1 fC.2.2.2.2.2,rfl,q⟩⟩
theorem hU{i:Nat}{x:Str}{pos' pos2:Pos}(hc:X.calm=true)(hN:X.N.Nodup)(hix:X.N[i]?=some x)(hx:X.env.scope.names.lookup x=some .local)(S:BkScope X.N sc X.env.scope LN FN fr)(hi:PI X tg iter wi)
  (hg:∀ cl C fp pins s H,PG (bkCx X LN FN sc cl C fp pins s H) tg g) (ht:∀ cl C fp pins s H,PTs (bkCx X LN FN sc cl C fp pins s H) ifs tt) (he:∀ cl C fp pins s H,PE (bkCx X LN FN sc cl C fp pins s H) elt te)
  (hsw:swapsWith (.ListComp elt [⟨tg,iter,ifs,0⟩] sc pos) (some (.Name x pos')) pos2.line X.env=pure true:=by rfl)
  (hs:∀ x,foldedSetIterable iter X.env x=pure x:=by intro _;rfl):PS X (.Assign [.Name x pos'] (.ListComp elt [⟨tg,iter,ifs,0⟩] sc pos) pos2) (tAsg (fW LN fr wi g tt te) (eK i)):=by
 intro pins s Z H D0 I h;rw[exec_Assign_Name_used _ _ _ _ hsw];refine ab (nc (ab ?_));show wpAny _ X.A (do let _ <- comprehension (.ListComp elt [⟨tg,iter,ifs,0⟩] sc pos) sc X.env _ (newList []) false (eval iter X.env) (some (assign (.Name x pos') X.env))) _ _ s;obtain⟨cl,ecl,h1,h2⟩:=tX (scope:=sc) (env:=X.env) fun y hy hk=>I.ok.has y.1 (S.free y hy hk);refine ab (dw (wpAny_comprehension_free (use:=some (assign (.Name x pos') X.env)) (Q:=fun _ s'=>SP X pins D0 .next s') rfl hs ecl S.kind S.names (thn (hi pins s Z H _ I h) fun v s1 q1=>thn q1 fun itv s2 q2=>?_))
  (fun _ s' hq=>am (am hq)) fun _ _ e=>e)
 obtain⟨it,fp,tn,J,H2,e,I2,T,st2,f2,W,⟨m0,w0⟩,turn⟩:=q2;subst e;refine tS (R:=fun acc C=>compPost (model X.prog X.w) X.A X.xe (some (assign (.Name x pos') X.env)) (fun _ s'=>SP X pins D0 .next s') acc C) hc S hg ht (fun cl C fp pins s H _=>(he cl C fp pins s H).any rfl) h1 h2 I2 T st2 f2 w0 turn (fun D C s' H' ys m hn J fC q=>?_) (fun _ _ _ _ z=>z);show wpAny _ X.A (assign (.Name x pos') X.env (.ref D)) _ _ s';refine wpAny_assign_Name (xx J hN hix (.inl hx) (show RelV (.ref D) (.ref D) from rfl) (fun s'' J2 ⟨a,sb2,ha⟩=>?_) (.inr hx));have nCa:C≠a:=by
  rcases ha with z|z
  .rw[z];exact fC.2.1
  .exact fun q=>fC.2.2.2.2.1 x a z q.symm
 refine⟨m,hn.sameBut sb2 nCa,fun h' sb=>⟨_,_,J2.turned (t':=s''.toks) (fun b o hb e=>(sb.2 b hb).trans e) fC.1 fC.2.1 fC.2.2.2.1 fC.2.2.2.2.1 fC.2.2.2.2.2,q⟩⟩
end
inductive D where
 | non|bl (b:Bool)|int (i:Int)|str (x:Str)|tup (ds:List D)
mutual
noncomputable def Rep(H:Hp):D->V->Prop
 | .non,v=>v=.non
 | .bl b,v=>v=.bl b
 | .int i,v=>v=.int i
 | .str x,v=>v=.str x
 | .tup ds,v=>∃ a xs,v=.ref a/\H a=some (.tup xs)/\Reps H ds xs
noncomputable def Reps(H:Hp):List D->List V->Prop
 | [],vs=>vs=[]
 | d::ds,vs=>∃ v r,vs=v::r/\Rep H d v/\Reps H ds r
end
def oX(H H':Hp):Prop:=∀ a xs,H a=some (.tup xs)->H' a=some (.tup xs)
theorem Same.new{H:Hp}{a:Addr}{o:HO}(h:H a=none):Same H (upd H a o):=fun b u e=>by rw[bv (iN e h)];exact e
mutual
theorem Rep.mono{H H' : Hp}(t : oX H H') : ∀ {d : D} {v : V}, Rep H d v->Rep H' d v
  | .non, _, h=>by simpa [Rep] using h
  | .bl _, _, h=>by simpa [Rep] using h
  | .int _, _, h=>by simpa [Rep] using h
  | .str _, _, h=>by simpa [Rep] using h
  | .tup ds, v, h => by
    rw[Rep] at h ⊢;obtain⟨a,xs,e,ha,r⟩:=h;exact⟨a, xs, e, t a xs ha, Reps.mono t r⟩
theorem Reps.mono{H H' : Hp}(t : oX H H') : ∀ {ds : List D} {vs : List V}, Reps H ds vs->Reps H' ds vs
  | [], _, h=>by simpa [Reps] using h
  | d :: ds, vs, h => by
    rw[Reps] at h ⊢;obtain⟨v,r,e,h1,h2⟩:=h;exact⟨v, r, e, Rep.mono t h1, Reps.mono t h2⟩
end
theorem Zpb{H:Hp}{a:Addr}{xs:List V}{ds:List D}(h:H a=some (.tup xs))(r:Reps H ds xs):Rep H (.tup ds) (.ref a):=by rw[Rep];exact⟨a,xs,rfl,h,r⟩
theorem Zm7{H:Hp}:Reps H [] []:=by rw[Reps]
theorem Zk4{H:Hp}{d:D}{ds:List D}{v:V}{vs:List V}(h:Rep H d v)(r:Reps H ds vs):Reps H (d::ds) (v::vs):=by rw[Reps];exact⟨v,vs,rfl,h,r⟩
theorem lN{H:Hp}{v:V}{ds:List D}(h:Rep H (.tup ds) v):∃ a xs,v=.ref a/\H a=some (.tup xs)/\Reps H ds xs:=by rwa [Rep] at h
theorem rN{H:Hp}{vs:List V}(h:Reps H [] vs):vs=[]:=by rwa [Reps] at h
theorem iS{H:Hp}{d:D}{ds:List D}{vs:List V}(h:Reps H (d::ds) vs):∃ v r,vs=v::r/\Rep H d v/\Reps H ds r:=by rwa [Reps] at h
theorem Reps.length{H : Hp} : ∀ {ds : List D} {vs : List V}, Reps H ds vs->ds.length=vs.length
  | [], vs, h=>by rw[rN h]; rfl
  | d :: ds, vs, h => by
    obtain⟨v,r,rfl,_,h2⟩:=iS h;simp[Reps.length h2]
theorem Reps.get{H : Hp} : ∀ {ds : List D} {vs : List V} {i : Nat} {d : D}, Reps H ds vs->ds[i]?=some d->∃ v, vs[i]?=some v/\Rep H d v
  | [], vs, i, d, h, e=>by simp at e
  | d :: ds, vs, 0, d', h, e => by
    obtain⟨v,r,rfl,h1,h2⟩:=iS h;simp at e;subst e;exact⟨v,rfl,h1⟩
  | d :: ds, vs, i + 1, d', h, e => by
    obtain⟨v,r,rfl,h1,h2⟩:=iS h;obtain⟨u,e1,e2⟩:=Reps.get (i:=i) (d:=d') h2 (by simpa using e);exact⟨u, by simpa using e1, e2⟩
mutual
noncomputable def D.pl:D->Bool
 | .bl _=>false
 | .tup ds=>D.pls ds
 | _=>true
noncomputable def D.pls:List D->Bool
 | []=>true
 | d::ds=>d.pl&&D.pls ds
end
mutual
noncomputable def D.dep:D->Nat
 | .tup ds=>D.deps ds+1
 | _=>0
noncomputable def D.deps:List D->Nat
 | []=>0
 | d::ds=>max d.dep (D.deps ds)
end
theorem D.pls_get : ∀ {ds : List D} {i : Nat} {d : D}, D.pls ds=true->ds[i]?=some d->d.pl=true
  | [], i, d, _, e=>by simp at e
  | d :: ds, 0, d', h, e => by
    simp at e;subst e;rw[D.pls,iw] at h;exact h.1
  | d :: ds, i + 1, d', h, e => by
    rw[D.pls,iw] at h;exact D.pls_get (i:=i) h.2 (by simpa using e)
theorem D.deps_get : ∀ {ds : List D} {i : Nat} {d : D}, ds[i]?=some d->d.dep<=D.deps ds
  | [], i, d, e=>by simp at e
  | d :: ds, 0, d', e => by
    simp at e;subst e;rw[D.deps];lia
  | d :: ds, i + 1, d', e => by
    have:=D.deps_get (ds:=ds) (i:=i) (d:=d') (by simpa using e);rw[D.deps]; lia
open Classical in
noncomputable def eqD(d e:D):Bool:=decide (d=e)
theorem eqD_true{d e:D}:eqD d e=true↔d=e:=by unfold eqD;simp
theorem eqD_same{d:D}:eqD d d=true:=eqD_true.mpr rfl
theorem dU{d e:D}(h:d≠e):eqD d e=false:=by unfold eqD;simp[h]
theorem Zqd{i j:Int}:eqD (.int i) (.int j)=(i == j):=by
 by_cases h:i=j
 .subst h;rw[eqD_same];simp
 .rw[dU (by intro z;cases z;exact h rfl)];simp[h]
theorem Zqb{i j:Str}:eqD (.str i) (.str j)=(i == j):=by
 by_cases h:i=j
 .subst h;rw[eqD_same];simp
 .rw[dU (by intro z;cases z;exact h rfl)];simp[h]
noncomputable def hZ(ds es:List D)(f:D->D->Bool)(j:Nat):Bool:=match ds[j]?,es[j]? with|some a,some b=>f a b|_,_=>false
theorem uZ{ds es:List D}:((List.range (min ds.length es.length)).all (hZ ds es eqD)&&ds.length == es.length)=eqD (.tup ds) (.tup es):=by
 by_cases h:ds=es
 .subst h;rw[eqD_same];simp only[beq_self_eq_true,Bool.and_true,iZ,gr];intro j hj;have hj:j < ds.length:=by lia
  unfold hZ;rw[ay hj];exact eqD_same
 .rw[dU (by intro z;cases z;exact h rfl)];by_cases hl:ds.length=es.length
  .rw[Bool.and_eq_false_iff];left;rw[<-Bool.not_eq_true];intro hall;apply h;refine i4 fun j=>?_;by_cases hj:j < ds.length
   .have hj':j < es.length:=by lia
    have:=iZ.mp hall j (gr.mpr (by lia));unfold hZ at this;rw[ay hj,ay hj'] at this;rw[ay hj,ay hj',eqD_true.mp this]
   .rw[eN (by lia),eN (by lia)]
  .rw[Bool.and_eq_false_iff];right;simpa using hl
section
variable{X:Cx}{pins:List (Addr×Obj)}{Z:St}{H:Hp}{s:Shared}
theorem Inv.isTup(I:Inv X pins Z H s){a:Addr}{xs:List V}(h:H a=some (.tup xs)):∃ its:List Value,Vals xs its/\s.heap.IsTuple a its.toArray:=by
 obtain⟨_,its,r,p⟩:=(show ObjOk X.prog X.w H s.heap a (.tup xs) from I.hok a _ h);exact⟨its,r,p⟩
theorem uL(I:Inv X pins Z H s){d e:D}{x y:V}{u v:Value}{A:Around}(hd:d.dep=0)(pd:d.pl=true)(pe:e.pl=true)(rd:Rep H d x)(re:Rep H e y)(ru:RelV x u)(rv:RelV y v)(hu:A.units<cLine):SeqAt.EqAt A s u v (eqD d e):=by
 cases d with
 | tup ds=>rw[D.dep] at hd;lia
 | bl b=>simp[D.pl] at pd
 | non =>
  rw[Rep] at rd;subst rd;cases ru;cases e with
  | bl b=>simp[D.pl] at pe
  | non=>rw[Rep] at re;subst re;cases rv;rw[eqD_same];exact SeqAt.EqAt.same _
  | int b=>rw[Rep] at re;subst re;obtain⟨t,rfl⟩:=rv;rw[dU (by intro z;cases z)];exact yp b t
  | str b=>rw[Rep] at re;subst re;obtain⟨t,rfl⟩:=rv;rw[dU (by intro z;cases z)];exact yq b t
  | tup es =>
   rw[Rep] at re;obtain⟨a,xs,rfl,ha,_⟩:=re;cases rv;obtain⟨its,_,ht⟩:=I.isTup ha;rw[dU (by intro z;cases z)];exact SeqAt.EqAt.none_tuple ht hu
 | int i =>
  rw[Rep] at rd;subst rd;obtain⟨t,rfl⟩:=ru;cases e with
  | bl b=>simp[D.pl] at pe
  | non=>rw[Rep] at re;subst re;cases rv;rw[dU (by intro z;cases z)];exact yr i t
  | int b=>rw[Rep] at re;subst re;obtain⟨t',rfl⟩:=rv;rw[Zqd];exact rX i t b t'
  | str b=>rw[Rep] at re;subst re;obtain⟨t',rfl⟩:=rv;rw[dU (by intro z;cases z)];exact rS i t b t'
  | tup es =>
   rw[Rep] at re;obtain⟨a,xs,rfl,ha,_⟩:=re;cases rv;obtain⟨its,_,ht⟩:=I.isTup ha;rw[dU (by intro z;cases z)];exact SeqAt.EqAt.int_tuple i t ht hu
 | str i =>
  rw[Rep] at rd;subst rd;obtain⟨t,rfl⟩:=ru;cases e with
  | bl b=>simp[D.pl] at pe
  | non=>rw[Rep] at re;subst re;cases rv;rw[dU (by intro z;cases z)];exact yt i t
  | int b=>rw[Rep] at re;subst re;obtain⟨t',rfl⟩:=rv;rw[dU (by intro z;cases z)];exact rT i t b t'
  | str b=>rw[Rep] at re;subst re;obtain⟨t',rfl⟩:=rv;rw[Zqb];exact rY i t b t'
  | tup es =>
   rw[Rep] at re;obtain⟨a,xs,rfl,ha,_⟩:=re;cases rv;obtain⟨its,_,ht⟩:=I.isTup ha;rw[dU (by intro z;cases z)];exact SeqAt.EqAt.str_tuple i t ht hu
mutual
theorem Rep.inj{H : Hp} : ∀ {d e : D} {v : V}, Rep H d v->Rep H e v->d=e
  | .non, .non, _, _, _=>rfl
  | .bl a, .bl b, v, h, h'=>by simp only[Rep] at h h'; rw[h] at h'; cases h'; rfl
  | .int a, .int b, v, h, h'=>by simp only[Rep] at h h'; rw[h] at h'; cases h'; rfl
  | .str a, .str b, v, h, h'=>by simp only[Rep] at h h'; rw[h] at h'; cases h'; rfl
  | .tup ds, .tup es, v, h, h' => by
    rw[Rep] at h h';obtain⟨a,xs,rfl,ha,r⟩:=h;obtain⟨b,ys,e,hb,r'⟩:=h';cases e;rw[ha] at hb;cases hb;rw[Reps.inj r r']
  | .non, .bl _, v, h, h'=>by simp only[Rep] at h h'; rw[h] at h'; cases h'
  | .non, .int _, v, h, h'=>by simp only[Rep] at h h'; rw[h] at h'; cases h'
  | .non, .str _, v, h, h'=>by simp only[Rep] at h h'; rw[h] at h'; cases h'
  | .non, .tup _, v, h, h'=>by simp only[Rep] at h h'; obtain⟨_, _, e, _⟩:=h'; rw[h] at e; cases e
  | .bl _, .non, v, h, h'=>by simp only[Rep] at h h'; rw[h] at h'; cases h'
  | .bl _, .int _, v, h, h'=>by simp only[Rep] at h h'; rw[h] at h'; cases h'
  | .bl _, .str _, v, h, h'=>by simp only[Rep] at h h'; rw[h] at h'; cases h'
  | .bl _, .tup _, v, h, h'=>by simp only[Rep] at h h'; obtain⟨_, _, e, _⟩:=h'; rw[h] at e; cases e
  | .int _, .non, v, h, h'=>by simp only[Rep] at h h'; rw[h] at h'; cases h'
  | .int _, .bl _, v, h, h'=>by simp only[Rep] at h h'; rw[h] at h'; cases h'
  | .int _, .str _, v, h, h'=>by simp only[Rep] at h h'; rw[h] at h'; cases h'
  | .int _, .tup _, v, h, h'=>by simp only[Rep] at h h'; obtain⟨_, _, e, _⟩:=h'; rw[h] at e; cases e
  | .str _, .non, v, h, h'=>by simp only[Rep] at h h'; rw[h] at h'; cases h'
  | .str _, .bl _, v, h, h'=>by simp only[Rep] at h h'; rw[h] at h'; cases h'
  | .str _, .int _, v, h, h'=>by simp only[Rep] at h h'; rw[h] at h'; cases h'
  | .str _, .tup _, v, h, h'=>by simp only[Rep] at h h'; obtain⟨_, _, e, _⟩:=h'; rw[h] at e; cases e
  | .tup _, .non, v, h, h'=>by simp only[Rep] at h h'; obtain⟨_, _, e, _⟩:=h; rw[h'] at e; cases e
  | .tup _, .bl _, v, h, h'=>by simp only[Rep] at h h'; obtain⟨_, _, e, _⟩:=h; rw[h'] at e; cases e
  | .tup _, .int _, v, h, h'=>by simp only[Rep] at h h'; obtain⟨_, _, e, _⟩:=h; rw[h'] at e; cases e
  | .tup _, .str _, v, h, h'=>by simp only[Rep] at h h'; obtain⟨_, _, e, _⟩:=h; rw[h'] at e; cases e
theorem Reps.inj{H : Hp} : ∀ {ds es : List D} {vs : List V}, Reps H ds vs->Reps H es vs->ds=es
  | [], [], _, _, _=>rfl
  | [], e::es, vs, h, h'=>by rw[rN h] at h'; obtain⟨_, _, z, _⟩:=iS h'; cases z
  | d::ds, [], vs, h, h'=>by rw[rN h'] at h; obtain⟨_, _, z, _⟩:=iS h; cases z
  | d :: ds, e :: es, vs, h, h' => by
    obtain⟨v,r,rfl,h1,h2⟩:=iS h;obtain⟨v',r',z,h1',h2'⟩:=iS h';cases z;rw[Rep.inj h1 h1', Reps.inj h2 h2']
end
theorem eqAt_D (I:Inv X pins Z H s):∀ (n:Nat) {d e:D} {x y:V} {u v:Value} {A:Around},d.dep<=n->d.pl=true->e.pl=true->Rep H d x->Rep H e y->RelV x u->RelV y v->A.units+n < cLine->SeqAt.EqAt A s u v (eqD d e):=by
 intro n
 induction n with
 | zero =>
  intro d e x y u v A hn pd pe rd re ru rv hu;exact uL I (by lia) pd pe rd re ru rv (by lia)
 | succ n ih =>
  intro d e x y u v A hn pd pe rd re ru rv hu;by_cases h0:d.dep=0
  .exact uL I h0 pd pe rd re ru rv (by lia)
  .cases d with
   | non=>simp[D.dep] at h0
   | bl _=>simp[D.dep] at h0
   | int _=>simp[D.dep] at h0
   | str _=>simp[D.dep] at h0
   | tup ds =>
    obtain⟨a,xs,rfl,ha,r⟩:=lN rd;cases ru;obtain⟨its,vx,ht⟩:=I.isTup ha;cases e with
    | bl b=>simp[D.pl] at pe
    | non=>rw[Rep] at re;subst re;cases rv;rw[dU (by intro z;cases z)];exact SeqAt.EqAt.tuple_none ht (by lia)
    | int b=>rw[Rep] at re;subst re;obtain⟨t,rfl⟩:=rv;rw[dU (by intro z;cases z)];exact SeqAt.EqAt.tuple_int b t ht (by lia)
    | str b=>rw[Rep] at re;subst re;obtain⟨t,rfl⟩:=rv;rw[dU (by intro z;cases z)];exact SeqAt.EqAt.tuple_str b t ht (by lia)
    | tup es =>
     obtain⟨b,ys,rfl,hb,r'⟩:=lN re;cases rv;by_cases hab:a=b
     .subst hab;rw[Rep.inj rd re,eqD_same];exact SeqAt.EqAt.same _
     .obtain ⟨its',vy,ht'⟩:=I.isTup hb;refine yu hab ?_;have l1:=vx.length;have l2:=vy.length;have l3:=r.length;have l4:=r'.length;have key:=SeqAt.RcAt.tuples (A:=A) (e:=hZ ds es eqD) ht ht' (by lia) fun j h1 h2=>?_
      .rw[<-uZ,l3,l4,l1,l2];simpa using key
      .have h1':j < its.length:=by simpa using h1
       have h2':j<its'.length:=by simpa using h2
       have e1:ds[j]?=some (ds[j]'(by lia)):=ay _;have e2:es[j]?=some (es[j]'(by lia)):=ay _;obtain⟨v1,q1,p1⟩:=r.get e1;obtain⟨v2,q2,p2⟩:=r'.get e2;obtain⟨u1,z1,w1⟩:=vx.get q1;obtain⟨u2,z2,w2⟩:=vy.get q2;have y1:its.toArray[j]=u1:=by
        have:its[j]?=some its[j]:=ay h1';rw[z1] at this;simpa using (Option.some.inj this).symm
       have y2:its'.toArray[j]=u2:=by
        have:its'[j]?=some its'[j]:=ay h2';rw[z2] at this;simpa using (Option.some.inj this).symm
       rw[y1,y2];unfold hZ;rw[e1,e2];rw[D.dep] at hn;have hdep:=D.deps_get e1;rw[D.pl] at pd pe;exact ih (by lia) (D.pls_get pd e1) (D.pls_get pe e2) p1 p2 w1 w2 (by show A.units+1+n<cLine;lia)
end
end L2
end
section
namespace L2
open PySem PySem.Spec PyProof.Rows
section
variable{X:Cx}
def rEqD:R2:=fun x y H Q=>∃ ds es,Rep H (.tup ds) x/\Rep H (.tup es) y/\D.pls ds=true/\D.pls es=true/\D.deps ds<=40/\Q (.bl (eqD (.tup ds) (.tup es))) H
theorem ZnE{X:Cx}{pins:List (Addr×Obj)}{Z:St}{H:Hp}{s:Shared}{A:Around}(I:Inv X pins Z H s){ds es:List D}{xs ys:List V}{its its':List Value}(vx:Vals xs its)(vy:Vals ys its')(r:Reps H ds xs)(r':Reps H es ys)(pd:D.pls ds=true)(pe:D.pls es=true)
  (hd:D.deps ds<=40) (hu:A.units+40<cLine):∀ j (h1:j<its.toArray.size) (h2:j<its'.toArray.size),SeqAt.EqAt A s its.toArray[j] its'.toArray[j] (hZ ds es eqD j):=by
 intro j h1 h2;have l1:=vx.length;have l2:=vy.length;have l3:=r.length;have l4:=r'.length;have h1':j<its.length:=by simpa using h1
 have h2':j<its'.length:=by simpa using h2
 have e1:ds[j]?=some (ds[j]'(by lia)):=ay _;have e2:es[j]?=some (es[j]'(by lia)):=ay _;obtain⟨v1,q1,p1⟩:=r.get e1;obtain⟨v2,q2,p2⟩:=r'.get e2;obtain⟨u1,z1,w1⟩:=vx.get q1;obtain⟨u2,z2,w2⟩:=vy.get q2;have y1:its.toArray[j]=u1:=by
  have:its[j]?=some its[j]:=ay h1';rw[z1] at this;simpa using (Option.some.inj this).symm
 have y2:its'.toArray[j]=u2:=by
  have:its'[j]?=some its'[j]:=ay h2';rw[z2] at this;simpa using (Option.some.inj this).symm
 rw[y1,y2];unfold hZ;rw[e1,e2];have hdep:=D.deps_get e1;exact eqAt_D I 40 (by lia) (D.pls_get pd e1) (D.pls_get pe e2) p1 p2 w1 w2 hu
theorem sX(hu:X.A.units+64<cLine):OpR X (compareOp .Eq) rEqD:=by
 rintro pins s Z H x y v u Q I rx ry ⟨ds,es,h1,h2,pd,pe,hd,q⟩;obtain⟨a,xs,rfl,ha,r⟩:=lN h1;obtain⟨b,ys,rfl,hb,r'⟩:=lN h2;cases rx;cases ry;obtain⟨its,vx,ht⟩:=I.isTup ha;obtain⟨its',vy,ht'⟩:=I.isTup hb;refine SeqAt.eq_tupleAt (e:=hZ ds es eqD) ht ht' (by lia) (ZnE (A:=X.A.in1) I vx vy r r' pd pe hd (by show X.A.units+1+40<cLine;lia)) ?_;refine bH I q ?_;rw[<-uZ,r.length,r'.length,vx.length,vy.length];simp
def CBig(i j:Int):Prop:=i.natAbs<2^8000/\j.natAbs<2^8000
theorem uI{i:Int}(h:i.natAbs<2^8000):Builtin.Int.intBits i<=8000:=by
 unfold Builtin.Int.intBits;by_cases h0:i=0
 .simp[h0]
 .have:(i == 0)=false:=by simpa using h0
  rw[this];have:=(Nat.log2_lt (show i.natAbs≠0 by lia)).mpr h;simp;lia
theorem CBig.ok{i j:Int}(h:CBig i j):IntMulOk i j:=by
 unfold IntMulOk;have h1:=uI h.1;have h2:=uI h.2;have hb:Builtin.Int.intTooBig (Builtin.Int.intBits i+Builtin.Int.intBits j)=false:=by
  unfold Builtin.Int.intTooBig;rw[bo];have:(16000:Int)<=bitsLine:=by decide
  lia
 rw[hb];simp
theorem gj:OpR X (binaryOp .Mult) (rI CBig fun i j=>.int (i*j)):=opI fun _ _ _ _ _ _ _ hc q=>mul_int q hc.ok
def jx(i j:Int):Prop:=0<j/\j.natAbs<2^8000
theorem kM:OpR X (binaryOp .FloorDiv) (rI jx fun i j=>.int (i / j)):=opI fun i j _ _ _ _ _ hc q=>by
 have hj:j≠0:=by have:=hc.1;lia
 refine floordiv_int hj ?_ (.inl (PyProof.noPylong_of_log2 ?_))
 .rw[Int.fdiv_eq_ediv_of_nonneg _ (by have:=hc.1;lia)];exact q
 .have:=(Nat.log2_lt (show j.natAbs≠0 by lia)).mpr hc.2;lia
noncomputable def isi(t T:String):Bool:=t == T || (t == "bool" && T == "int")
theorem kit_of{K:W.Frag}:∀ {t T:String},t∈["int","bool","str","tuple","list","dict","NoneType"]->T∈["int","bool","str","tuple","list","dict"]->PySem.W.kitOne K (.type t) (.type T)=some (isi t T):=by
 intro t T ht hT;simp only[aJ,mem_nil_iff,cG] at ht hT;rcases ht with rfl|rfl|rfl|rfl|rfl|rfl|rfl <;> rcases hT with rfl|rfl|rfl|rfl|rfl|rfl <;> with_unfolding_all rfl
noncomputable def tyO:Option HO->Option String
 | some (.lst _)=>some "list"
 | some (.frz _ (.lst _))=>some "list"
 | some (.tup _)=>some "tuple"
 | some (.dK _)=>some "dict"
 | some (.dT _)=>some "dict"
 | _=>none
noncomputable def tyN(H:Hp):V->Option String
 | .non=>some "NoneType"
 | .bl _=>some "bool"
 | .int _=>some "int"
 | .str _=>some "str"
 | .ref a=>tyO (H a)
 | _=>none
theorem xv{K:W.Frag}{H:Hp}{x:V}{t:String}(h:tyN H x=some t):TyOf K H x (.type t)/\t∈["int","bool","str","tuple","list","dict","NoneType"]:=by
 cases x with
 | non=>cases h;exact⟨.non,by decide⟩
 | bl b=>cases h;exact⟨.bl b,by decide⟩
 | int i=>cases h;exact⟨.int i,by decide⟩
 | str y=>cases h;exact⟨.str y,by decide⟩
 | ref a =>
  have h:tyO (H a)=some t:=h;cases e:H a with
  | none=>rw[e] at h;cases h
  | some o =>
   rw[e] at h;cases o with
   | lst _=>cases h;exact⟨.lst e,by decide⟩
   | frz _ o =>
    cases o with
    | lst _=>cases h;exact⟨.frz e,by decide⟩
    | _=>cases h
   | tup _=>cases h;exact⟨.tup e,by decide⟩
   | dK _=>cases h;exact⟨.dK e,by decide⟩
   | dT _=>cases h;exact⟨.dT e,by decide⟩
   | _=>cases h
 | byt _=>cases h
 | flt _=>cases h
 | ty _=>cases h
noncomputable def rIsi:List V->Hp->VK->Prop:=fun xs H Q=>∃ x T t,xs=[x,.ty T]/\tyN H x=some t/\T∈["int","bool","str","tuple","list","dict"]/\Q (.bl (isi t T)) H
theorem eF:ca X (.builtin "isinstance") rIsi:=by
 intro pins s Z H xs us Q I r h;obtain⟨x,T,t,rfl,ht,hT,q⟩:=h;cases r with
 | cons r1 r2 =>
  cases r2 with
  | cons r3 r4 =>
   cases r4;cases r3;obtain⟨ty,hm⟩:=xv (K:=X.K) ht;exact Zl2 I r1 ty (kit_of hm hT) fun tk=>⟨.bl _,H,I.tok _,rfl,q⟩
end
structure Callee(P:Program)(w:World)(K:W.Frag)(mg:Str->Option Value)(base:Heap)(x:Str)(k:Nat)(ps:List Str)(sp:Sp):Prop where
 ex:∃ f fd,FnOk P w K mg base CX0 k f fd ps sp/\mg x=some (.ref f)/\PySem.W.keepIn K (.ref f)=true/\Binds K fd ps []
theorem gF{X:Cx}{x:Str}{k:Nat}{ps:List Str}{sp:Sp}{p pos:Pos}{e:Expr}{es:List Expr}{t:TA}(C:Callee X.prog X.w X.K X.mg X.base x k ps sp)(hr:Room k X.A)(hg:Gl X x)(ha:PA X (e::es) t)(hdb:(x == ("__debug__":Str))=false:=by decide)
  (he:starEach (e::es) X.env=(false,eval e X.env)::starEach es X.env:=by rfl) (hpl:(backTo pos (starEach es X.env)).any (·.1)=false:=by rfl) :
  PE X (.Call (.Name x p) (e::es) [] pos) (ij sp [] E0 t):=by
 obtain⟨f,fd,F,hm,hk,hb⟩:=C.ex;exact ZpA F hr hg hm hk hb .nil pass0 ha hdb he hpl
section
variable{K:W.Frag}{a:Addr}{xs:List V}{g:TG}{tt:TT}{te:TE}{Q:VK}{Z:St}{H:Hp}
def CN(Pv:Nat->List V->St->Hp->Prop)(i:Nat)(ys':List V)(σ':St)(H':Hp):Prop:=ys'.length<=i+1/\Pv (i+1) ys' σ' H'
theorem mT{J:It}(n:Nat)(hz:n<=sizeLine)(Pv:Nat->List V->St->Hp->Prop)(h0:Pv 0 [] Z H)(hgo:∀ i ys Z H,i<n->Pv i ys Z H->J.go i H)(hstop:∀ ys Z H,Pv n ys Z H->J.stop n H)
  (hs:∀ i x ys Z H H2,i<n->ys.length<=i->ys.length<sizeLine->Pv i ys Z H->J.yld i H x H2->g x Z H2 fun σ2 H3=>tt σ2 H3 fun ok H4=>if ok=true then te σ2 H4 fun y H5=>ys.length<sizeLine/\CN Pv i (ys++[y]) σ2 H5 else CN Pv i ys σ2 H4)
  (hd:∀ ys Z H,ys.length<=n->Pv n ys Z H->∀ p,H p=none->Q (.ref p) (upd H p (.lst ys))) :
  ∃ W:Nat->Nat->List V->St->Hp->Prop,(∃ m,W 0 m [] Z H)/\CW J g tt te W Q:=by
 refine⟨fun i m ys Z H=>m=n-i/\i<=n/\ys.length<=i/\Pv i ys Z H,⟨n,by simp,cb _,aE _,h0⟩,?_⟩;rintro i m ys Z H ⟨rfl,hi,hy,p⟩;by_cases hlt:i<n
 .exact .inr ⟨hgo i ys Z H hlt p,CN Pv i,fun ys' σ' H' p'=>⟨n-(i+1),by lia,rfl,hlt,p'.1,p'.2⟩,fun x H2 y=>hs i x ys Z H H2 hlt hy (by lia) p y⟩
 .have e:i=n:=by lia
  subst e;exact .inl ⟨hstop ys Z H p,by lia,hd ys Z H hy p⟩
theorem Zqf(hz:xs.length<=sizeLine)(Pv:Nat->List V->St->Hp->Prop)(h0:Pv 0 [] Z H)(hl:∀ i ys Z H,i<=xs.length->Pv i ys Z H->SqL K H a xs)
  (hs:∀ i x ys Z H,xs[i]?=some x->ys.length<=i->ys.length<sizeLine->Pv i ys Z H->g x Z H fun σ2 H3=>tt σ2 H3 fun ok H4=>if ok=true then te σ2 H4 fun y H5=>ys.length<sizeLine/\CN Pv i (ys++[y]) σ2 H5 else CN Pv i ys σ2 H4)
  (hd:∀ ys Z H,ys.length<=xs.length->Pv xs.length ys Z H->∀ p,H p=none->Q (.ref p) (upd H p (.lst ys))) :
  ∃ W:Nat->Nat->List V->St->Hp->Prop,(∃ m,W 0 m [] Z H)/\CW (Itl K a) g tt te W Q:=by
 refine mT xs.length hz Pv h0 (fun i ys Z H hi p=>⟨xs,xs[i],hl i ys Z H (gt hi) p,by simp[hi]⟩) (fun ys Z H p=>⟨xs,hl _ ys Z H (aE _) p,aE _⟩) (fun i x ys Z H H2 hi h1 h2 p y=>?_) hd;obtain⟨rfl,y⟩:=y;exact hs i x ys Z _ (y xs (hl i ys Z _ (gt hi) p)) h1 h2 p
end
section
variable{Z:St}{H:Hp}{Q:VK}{v x y:V}{ta tb tc te:TE}{t u:TS}{c d:TT}{D':Ends}{r:R2}{g:TG}{i j:Int}{n:Nat}{K:W.Frag}
theorem rd_var(e:Z[n]?=some (some v))(h:Q v H):tVar n Z H Q:=⟨v,e,h⟩
theorem rd_c(h:Q v H):tC v Z H Q:=h
theorem rd_op(h:ta Z H fun x H1=>tb Z H1 fun y H2=>r x y H2 Q):tOp r ta tb Z H Q:=h
theorem rd_seq(h:t { D' with nx:=u D' } Z H):tSeq t u D' Z H:=h
theorem rd_asg(h:te Z H fun x H1=>g x Z H1 D'.nx):tAsg te g D' Z H:=h
theorem Znc{R:St->Hp->Prop}(h:R (Z.set n (some v)) H):eK n v Z H R:=h
theorem rd_ret(h:te Z H D'.rt):tRet te D' Z H:=h
theorem Zpf(h:D'.nx Z H):rE D' Z H:=h
theorem rd_if(h:c Z H fun b H1=>if b=true then t D' Z H1 else u D' Z H1):tIfS c t u D' Z H:=h
theorem Zpd{R:Bool->Hp->Prop}(h:ta Z H fun x H'=>∃ k,x=.bl k/\R k H'):mL ta Z H R:=h
theorem rd_and{R:Bool->Hp->Prop}(h:c Z H fun b H1=>if b=true then d Z H1 R else R false H1):tAnd c d Z H R:=h
theorem xu{R:Bool->Hp->Prop}(h:R true H):iK Z H R:=h
theorem rd_nil{R:List V->Hp->Prop}(h:R [] H):tNil Z H R:=h
theorem Zpi{tr:TA}{R:List V->Hp->Prop}(h:ta Z H fun x H1=>tr Z H1 fun xs H2=>R (x::xs) H2):bC ta tr Z H R:=h
theorem rd_cb{rr:List V->Hp->VK->Prop}{ta:TA}(h:ta Z H fun vs H1=>rr vs H1 Q):tCB rr ta Z H Q:=h
theorem Zpl{sp:Sp}{E:XK}{ta:TA}(h:ta Z H fun vs H1=>sp (vs++[]) H1 Q E):ij sp [] E ta Z H Q:=h
theorem rd_I0{f:Int->Int->V}(h:Q (f i j) H):rI0 f (.int i) (.int j) H Q:=⟨i,j,rfl,rfl,h⟩
theorem rd_I{C:Int->Int->Prop}{f:Int->Int->V}(hc:C i j)(h:Q (f i j) H):rI C f (.int i) (.int j) H Q:=⟨i,j,rfl,rfl,hc,h⟩
theorem uD(h:Q (.bl (decide (i=j))) H):rEq (.int i) (.int j) H Q:=⟨rfl,by rw[lO,jL];exact h⟩
theorem wo(h:Q (.bl (!decide (i=j))) H):rNe (.int i) (.int j) H Q:=⟨rfl,by rw[lO,jL];exact h⟩
theorem yg{a b:Str}(h:Q (.bl (decide (a=b))) H):rEq (.str a) (.str b) H Q:=⟨rfl,by rw[mH,jL];exact h⟩
theorem tV{a b:Str}(h:Q (.bl (!decide (a=b))) H):rNe (.str a) (.str b) H Q:=⟨rfl,by rw[mH,jL];exact h⟩
theorem uw{a b:Bool}(h:Q (.bl (decide (a=b))) H):rEq (.bl a) (.bl b) H Q:=⟨rfl,by rw[mW,jL];exact h⟩
theorem u9{a b:Bool}(h:Q (.bl (!decide (a=b))) H):rNe (.bl a) (.bl b) H Q:=⟨rfl,by rw[mW,jL];exact h⟩
theorem rd_bl{b:Bool}{R:Bool->Prop}(h:R b):∃ k,V.bl b=V.bl k/\R k:=⟨b,rfl,h⟩
theorem rd_lst{ta:TA}(h:ta Z H fun xs H1=>xs.length<=sizeLine/\∀ p,H1 p=none->Q (.ref p) (upd H1 p (.lst xs))):tLst ta Z H Q:=h
theorem ik{n:Nat}(h:n<=1000):n<=sizeLine:=bh h (by decide)
theorem rd_ixT{p:Addr}{xs:List V}(h:H p=some (.tup xs))(e:atI xs i=some v)(q:Q v H):rIxT K (.ref p) (.int i) H Q:=⟨p,xs,i,v,rfl,rfl,SqT.of h,e,q⟩
theorem rd_ixL{p:Addr}{xs:List V}(h:H p=some (.lst xs))(e:atI xs i=some v)(q:Q v H):rIxL K (.ref p) (.int i) H Q:=⟨p,xs,i,v,rfl,rfl,SqL.of h,e,q⟩
theorem kh{p:Addr}{xs:List V}{k:Nat}{R:Hp->Prop}(h:H p=some (.lst xs))(e:ixN xs.length i=some k)(q:R (upd H p (.lst (xs.set k v)))):lP (.ref p) (.int i) v H R:=⟨p,xs,i,k,rfl,rfl,h,e,q⟩
theorem Zph{to ti:TE}{ts:TSet}{R:St->Hp->Prop}(h:to Z H fun o H1=>ti Z H1 fun i H2=>ts o i v H2 fun H3=>R Z H3):gSub to ti ts v Z H R:=h
theorem Zo1{a:Addr}{xs:List V}(h:H a=some (.tup xs)):tyN H (.ref a)=some "tuple":=by show tyO (H a)=_;rw[h];rfl
theorem ut{a:Addr}{xs:List V}(h:H a=some (.lst xs)):tyN H (.ref a)=some "list":=by show tyO (H a)=_;rw[h];rfl
theorem Zm9{rr:V->Option Int->Option Int->Hp->VK->Prop}{tl th:TO}(h:te Z H fun x H1=>tl Z H1 fun l H2=>th Z H2 fun u H3=>rr x l u H3 Q):tSl rr te tl th Z H Q:=h
theorem Zla{R:Option Int->Hp->Prop}(h:R none H):ph Z H R:=h
theorem Zpe{R:Option Int->Hp->Prop}(h:ta Z H fun x H1=>∃ i,x=.int i/\R (some i) H1):qY ta Z H R:=h
theorem rd_int{R:Int->Prop}(h:R i):∃ k,V.int i=V.int k/\R k:=⟨i,rfl,h⟩
theorem Zlb{l:Addr}{xs:List V}(h:H l=some (.lst xs))(hz:xs.length<sizeLine)(q:Q .non (upd H l (.lst (xs++[y])))):qu (.ref l) [y] H Q:=⟨l,xs,y,rfl,rfl,h,hz,q⟩
theorem Zpj{LN:List Str}{fr:List Nat}{wi:TI}(h:wi Z H fun J H1=>∃ W:Nat->Nat->List V->St->Hp->Prop,(∃ m,W 0 m [] (gB LN fr Z) H1)/\CW J g c te W Q):fW LN fr wi g c te Z H Q:=h
def ilK(K:W.Frag)(R:It->Hp->Prop)(x:V)(H1:Hp):Prop:=∃ a,x=.ref a/\(∃ xs,SqL K H1 a xs)/\R (Itl K a) H1
theorem Znb{R:It->Hp->Prop}{tl:TE}(h:tl Z H (ilK K R)):mE K tl Z H R:=h
theorem vP{R:It->Hp->Prop}{a:Addr}{xs:List V}(h:SqL K H a xs)(q:R (Itl K a) H):ilK K R (.ref a) H:=⟨a,rfl,⟨xs,h⟩,q⟩
theorem rd_for {wi:TI} (h:wi Z H fun J H1=>∃ W:Nat->Nat->St->Hp->Prop,(∃ m,W 0 m Z H1)/\∀ i m Z H,W i m Z H ->
 (J.stop i H/\D'.nx Z H)\/(J.go i H/\∃ N:St->Hp->Prop,(∀ σ' H',N σ' H'->∃ m',m'<m/\W (i+1) m' σ' H')/\∀ x H',J.yld i H x H'->g x Z H' fun σ2 H2=>t { D' with nx:=N,ct:=N,bk:=D'.nx } σ2 H2)):tFor wi g t D' Z H:=h
end
theorem mY:bootBuiltins "abs"=some (.builtin "abs"):=by decide +kernel
theorem bi:bootBuiltins "len"=some (.builtin "len"):=by decide +kernel
theorem dN:bootBuiltins "isinstance"=some (.builtin "isinstance"):=by decide +kernel
theorem qD:bootBuiltins "max"=some (.builtin "max"):=by decide +kernel
theorem bt_min:bootBuiltins "min"=some (.builtin "min"):=by decide +kernel
theorem pW:bootBuiltins "sorted"=some (.builtin "sorted"):=by decide +kernel
theorem iL:bootBuiltins "all"=some (.builtin "all"):=by decide +kernel
theorem m3:bootBuiltins "int"=some (.type "int"):=by decide +kernel
theorem nS:bootBuiltins "bool"=some (.type "bool"):=by decide +kernel
theorem du:bootBuiltins "tuple"=some (.type "tuple"):=by decide +kernel
theorem ic:bootBuiltins "list"=some (.type "list"):=by decide +kernel
theorem kw:bootBuiltins "str"=some (.type "str"):=by decide +kernel
theorem bt_zip:bootBuiltins "zip"=some (.type "zip"):=by decide +kernel
noncomputable def bkOk(N:List Str)(sc osc:Scope)(FN:List Str)(fr:List Nat):Bool :=
 decide (sc.kind=.function)&&sc.names.all (fun y=>decide (y.2≠.cell))&&sc.names.all (fun y=>decide (y.2=.local->sc.names.lookup y.1=some .local)) &&
 sc.names.all (fun y=>decide (y.2=.free->osc.names.lookup y.1=some .cell\/osc.names.lookup y.1=some .free)) &&
 FN.all (fun x=>decide (osc.names.lookup x=some .cell\/osc.names.lookup x=some .free))&&FN.all (fun x=>decide (sc.names.lookup x=some .free))&&decide (FN.map some=fr.map fun j=>N[j]?)
theorem cV{N:List Str}{sc osc:Scope}{LN FN:List Str}{fr:List Nat}(h:bkOk N sc osc FN fr=true):BkScope N sc osc LN FN fr:=by
 unfold bkOk at h;simp only[iw,iZ,sj] at h;obtain⟨⟨⟨⟨⟨⟨h1,h2⟩,h3⟩,h4⟩,h5⟩,h6⟩,h7⟩:=h;exact⟨h1,h2,h3,h4,h5,h6,h7⟩
section
variable{X:Cx}
def rIxA(K:W.Frag):R2:=fun x y H Q=>rIxL K x y H Q\/rIxT K x y H Q
theorem ix_any:IxR X (rIxA X.K):=ix_list.or ix_tup
theorem Zpg{K:W.Frag}{H:Hp}{p:Addr}{xs:List V}{i:Int}{v:V}{Q:VK}(h:H p=some (.tup xs))(e:atI xs i=some v)(q:Q v H):rIxA K (.ref p) (.int i) H Q:=.inr (rd_ixT h e q)
theorem dA{K:W.Frag}{H:Hp}{p:Addr}{xs:List V}{i:Int}{v:V}{Q:VK}(h:H p=some (.lst xs))(e:atI xs i=some v)(q:Q v H):rIxA K (.ref p) (.int i) H Q:=.inl (rd_ixL h e q)
theorem cD{α:Type}{xs:List α}{i:Int}{n:Nat}{v:α}(hi:i=(n:Int))(h:xs[n]?=some v):atI xs i=some v:=by
 subst hi;have hl:n<xs.length:=(aX.mp h).1;unfold atI ixN;rw[ak (by lia),ak (by lia)];simpa using h
theorem lK{m:Nat}{i:Int}{n:Nat}(hi:i=(n:Int))(h:n<m):ixN m i=some n:=by
 subst hi;unfold ixN;rw[ak (by lia),ak (by lia)];simp
noncomputable def rLen(K:W.Frag):List V->Hp->VK->Prop:=fun xs H Q=>∃ x n,xs=[x]/\LenV K x H n/\Q (.int n) H
theorem ZmC:ca X (.builtin "len") (rLen X.K):=ZnV
theorem xV{K:W.Frag}{H:Hp}{p:Addr}{ys:List V}{Q:VK}(h:SqL K H p ys)(q:Q (.int ys.length) H):rLen K [.ref p] H Q:=⟨_,_,rfl,.inl ⟨ys,h,rfl⟩,q⟩
noncomputable def rAbs:List V->Hp->VK->Prop:=fun xs H Q=>∃ i,xs=[.int i]/\Q (.int (if i<0 then -i else i)) H
theorem mn:ca X (.builtin "abs") rAbs:=ZnW
theorem rd_abs{H:Hp}{i:Int}{Q:VK}(q:Q (.int (if i<0 then -i else i)) H):rAbs [.int i] H Q:=⟨i,rfl,q⟩
noncomputable def rMax:List V->Hp->VK->Prop:=fun xs H Q=>∃ i j,xs=[.int i,.int j]/\Q (.int (if j>i then j else i)) H
theorem ZmA(hc:X.calm=true):ca X (.builtin "max") rMax:=Zmz hc
noncomputable def rMin:List V->Hp->VK->Prop:=fun xs H Q=>∃ i j,xs=[.int i,.int j]/\Q (.int (if j<i then j else i)) H
theorem Zmx(hc:X.calm=true):ca X (.builtin "min") rMin:=Zmw hc
noncomputable def rInt:List V->Hp->VK->Prop:=fun xs H Q=>(∃ i,xs=[.int i]/\Q (.int i) H)\/∃ k,xs=[.bl k]/\Q (.int (if k then 1 else 0)) H
theorem ZmE:ca X (.type "int") rInt:=ZmD
noncomputable def kG(K:W.Frag):List V->Hp->VK->Prop:=fun xs H Q=>∃ p ys,xs=[.ref p]/\((SqL K H p ys/\∀ l,H l=none->Q (.ref l) (upd H l (.tup ys)))\/(SqT K H p ys/\Q (.ref p) H))
theorem Zmv:ca X (.type "tuple") (kG X.K):=ZgG
theorem v4{K:W.Frag}{H:Hp}{p:Addr}{ys:List V}{Q:VK}(h:SqL K H p ys)(q:∀ l,H l=none->Q (.ref l) (upd H l (.tup ys))):kG K [.ref p] H Q:=⟨p,ys,rfl,.inl ⟨h,q⟩⟩
noncomputable def lW(K:W.Frag):List V->Hp->VK->Prop:=fun xs H Q=>∃ p ys,xs=[.ref p]/\(SqL K H p ys\/SqT K H p ys)/\∀ l,H l=none->Q (.ref l) (upd H l (.lst ys))
theorem ZmB:ca X (.type "list") (lW X.K):=ZhD
theorem fH{n:Nat}(h:Nat.ble n 1000=true):n<=sizeLine:=ik (i5 h)
end
section
variable{X:Cx}{K:W.Frag}{pos:Pos}
theorem k_ix(h:X.K=K):IxR X (rIxA K):=h▸ix_any
theorem bj(h:X.K=K):ca X (.builtin "len") (rLen K):=h▸ZmC
theorem ff(h:X.K=K):ca X (.type "tuple") (kG K):=h▸Zmv
theorem lV(h:X.K=K):ca X (.type "list") (lW K):=h▸ZmB
theorem k_sl(h:X.K=K):SlR X (rSlL K):=h▸Zo9
theorem k_in(h:X.K=K):OpR X (compareOp .In) (rIn K false):=h▸Zlz
theorem xU(h:X.K=K):OpR X (compareOp .NotIn) (rIn K true):=h▸Zhj
theorem dS{tg l:Expr}{tl:TE}(h:X.K=K)(hl:PE X l tl):PI X tg l (mE K tl):=h▸Zpx hl
theorem dD{tg l:Expr}{tl:TE}(h:X.K=K)(hl:PE X l tl):PI X tg l (iTup K tl):=h▸pi_tup hl
theorem cj{es:List Expr}{k:Nat}{t:TGs}{n:Nat}(h:X.K=K)(hc:X.calm=true)(hg:PGs X es t)
  (hn:(assignEach es X.env).length=n:=by rfl) (hst:(assignEach es X.env).findIdx? (·.1)=none:=by rfl):PG X (.Tuple es k pos) (gTup K n t):=h▸pg_tup hc hg hn hst
variable{o e:Expr}{es:List Expr}{to:TE}{t:TA}{name:Str}{apos cpos:Pos}{T id:String}{r:V->List V->Hp->VK->Prop}
theorem k_bm(h:X.K=K)(pa:PlainAttrs T)(slot:Slot T name id)(hty:typeOf (.builtin id)=pure (.type "method_descriptor"))(hm:MtR X id r)(ho:PE X o to)(ha:PA X (e::es) t)
  (hbase:attributeBase o name X.env (eval o X.env)=eval o X.env:=by rfl)
  (hfew:((backTo cpos (starEach (e::es) X.env)).all (fun x=>!x.1) && (backToKw cpos (keywordEach [] X.env)).all (fun x=>x.1.isSome)
  &&decide ((e::es).length+([]:List Keyword).length+(if ([]:List Keyword).isEmpty then 0 else 1)<30))=true:=by rfl)
  (hline:(apos.endLine == cpos.line)=true:=by rfl) (hs:starEach (e::es) X.env=(false,eval e X.env)::starEach es X.env:=by rfl) (hplain:(backTo cpos (starEach es X.env)).any (·.1)=false:=by rfl) :
  PE X (.Call (.Attribute o name apos) (e::es) [] cpos) (tBM K T r to t):=h▸pe_bm pa slot hty hm ho ha hbase hfew hline hs hplain
theorem k_bm0(h:X.K=K)(pa:PlainAttrs T)(slot:Slot T name id)(hty:typeOf (.builtin id)=pure (.type "method_descriptor"))(hm:MtR X id r)(ho:PE X o to)
  (hbase:attributeBase o name X.env (eval o X.env)=eval o X.env:=by rfl) (hline:(apos.endLine == cpos.line)=true:=by rfl):PE X (.Call (.Attribute o name apos) [] [] cpos) (tBM0 K T r to):=h▸pe_bm0 pa slot hty hm ho hbase hline
end
structure TopFn(K:W.Frag)(mg:Str->Option Value)(x:Str)(st:Stmt)(ps:List Str):Prop where
 ex:∃ f fd,Fun K x x st f fd/\mg x=some (.ref f)/\Binds K fd ps []
section
variable{P:Program}{w:World}{K:W.Frag}{mg:Str->Option Value}{base:Heap}{x:Str}{st:Stmt}{ps N:List Str}{sp:Sp}{k:Nat}
theorem TopFn.callee(T:TopFn K mg x st ps)(h:∀ f fd,Fun K x x st f fd->FnOk P w K mg base CX0 k f fd ps sp):Callee P w K mg base x k ps sp:=by
 obtain⟨f,fd,F,hm,hb⟩:=T.ex;exact⟨f,fd,h f fd F,hm,F.kp,hb⟩
def sp1(b:V->Hp->VK->Prop):Sp:=fun vs H Q _=>∃ x,vs=[x]/\b x H Q
def sp2(b:V->V->Hp->VK->Prop):Sp:=fun vs H Q _=>∃ x y,vs=[x,y]/\b x y H Q
theorem use1{b:V->Hp->VK->Prop}{x:V}{H:Hp}{Q:VK}{E:XK}(h:b x H Q):sp1 b [x] H Q E:=⟨x,rfl,h⟩
theorem use2{b:V->V->Hp->VK->Prop}{x y:V}{H:Hp}{Q:VK}{E:XK}(h:b x y H Q):sp2 b [x,y] H Q E:=⟨x,y,rfl,h⟩
noncomputable def mC(P:Program)(w:World)(K:W.Frag)(mg:Str->Option Value)(base:Heap)(N:List Str)(x:Str)(st:Stmt)(f:Addr)(cdv:Value)(A:Around)(outer:List Env)(s:Shared)(H:Hp)(vs:List V)(Q:VK)(E:XK):Prop :=
 ∃ t,PSs (cxOf CX0 P w K mg base N x (aC st) f cdv A outer s H E).nox (dH st) t/\t { nx:=fun _ H'=>Q .non H',rt:=Q } (start N vs) H
theorem TopFn.ok1{a1:Str}{b:V->Hp->VK->Prop}(T:TopFn K mg x st [a1])(S:FnScope N [a1] (aC st))
  (h:∀ (f:Addr) (cdv:Value) (A:Around) (outer:List Env) (s:Shared) (H:Hp) (v1:V) (Q:VK) (E:XK),Room k (A.deeper (envOfC x (aC st) s.heap.objs.size f cdv))->b v1 H Q->mC P w K mg base N x st f cdv A outer s H [v1] Q E):Callee P w K mg base x (k+1) [a1] (sp1 b) :=
 T.callee fun f fd F=>F.ok S (fun vs H Q E ⟨_,e,_⟩=>by rw[e];rfl) fun cdv A outer s H vs Q E hr hsp=>by
  obtain⟨v1,rfl,hb⟩:=hsp;exact h f cdv A outer s H v1 Q E hr hb
theorem TopFn.ok2{a1 a2:Str}{b:V->V->Hp->VK->Prop}(T:TopFn K mg x st [a1,a2])(S:FnScope N [a1,a2] (aC st))
  (h:∀ (f:Addr) (cdv:Value) (A:Around) (outer:List Env) (s:Shared) (H:Hp) (v1 v2:V) (Q:VK) (E:XK),Room k (A.deeper (envOfC x (aC st) s.heap.objs.size f cdv))->b v1 v2 H Q->mC P w K mg base N x st f cdv A outer s H [v1,v2] Q E):Callee P w K mg base x (k+1) [a1,a2] (sp2 b) :=
 T.callee fun f fd F=>F.ok S (fun vs H Q E ⟨_,_,e,_⟩=>by rw[e];rfl) fun cdv A outer s H vs Q E hr hsp=>by
  obtain⟨v1,v2,rfl,hb⟩:=hsp;exact h f cdv A outer s H v1 v2 Q E hr hb
theorem m6{f:Addr}{cdv:Value}{A:Around}{outer:List Env}{s:Shared}{H:Hp}{vs:List V}{Q:VK}{E:XK}{t:TS}(Z:St)(hσ:start N vs=Z)(h:PSs (cxOf CX0 P w K mg base N x (aC st) f cdv A outer s H E).nox (dH st) t)
  (q:t { nx:=fun _ H'=>Q .non H',rt:=Q } Z H):mC P w K mg base N x st f cdv A outer s H vs Q E:=⟨t,h,by rw[hσ];exact q⟩
end
end L2
namespace L2
open PySem PySem.Spec PyProof.Rows
theorem w4{b:Bool}{A B:Prop}(h:b=false)(q:B):if b=true then A else B:=by subst h;exact iteF q
theorem uG{b:Bool}{A B:Prop}(h:b=true)(q:A):if b=true then A else B:=by subst h;exact iteT q
theorem xl{c A B:Prop}[Decidable c](h:¬ c)(q:B):if decide c=true then A else B:=by rw[bo h];exact iteF q
theorem wF{c A B:Prop}[Decidable c](h:c)(q:A):if decide c=true then A else B:=by rw[aY h];exact iteT q
theorem ite_ny{c A B:Prop}[Decidable c](h:¬ c)(q:A):if (!decide c)=true then A else B:=by rw[bo h];exact iteT q
theorem dF{c A B:Prop}[Decidable c](h:c->A)(q:¬ c->B):if decide c=true then A else B:=by
 by_cases e:c
 .exact wF e (h e)
 .exact xl e (q e)
theorem vg{c A B:Prop}[Decidable c](h:¬ c->A)(q:c->B):if (!decide c)=true then A else B:=by
 by_cases e:c
 .exact iteNS e (q e)
 .exact ite_ny e (h e)
noncomputable def pairD(p:Int×Int):D:=.tup [.int p.1,.int p.2]
end L2
namespace L2
theorem ja{n:Nat}(h:n<=1000000):n<=PySem.sizeLine:=bh h (by rw[PySem.sizeLine_eq];decide)
end L2
namespace L2
theorem rA{A B:Prop}(h:B):if (!true)=true then A else B:=iteF h
theorem qF{A B:Prop}(h:A):if (!false)=true then A else B:=iteT h
end L2
namespace L2
open PySem
theorem Zmt(ns:List Int)(lo hi:Option Int):∃ ms:List Int,cutV (ns.map V.int) lo hi=ms.map V.int/\ms.length<=ns.length:=by
 refine⟨(ns.drop (HT.sIx (ns.map V.int).length 0 lo)).take (HT.sIx (ns.map V.int).length (ns.map V.int).length hi-HT.sIx (ns.map V.int).length 0 lo),?_,?_⟩
 .unfold cutV;rw[map_take,map_drop]
 .rw[fu,iX];exact bh (jG _ _) (jH _ _)
theorem qP{K:W.Frag}{H:Hp}{a:Addr}{xs:List V}{lo hi:Option Int}{Q:VK}(h:SqL K H a xs)(q:∀ p,H p=none->Q (.ref p) (upd H p (.lst (cutV xs lo hi)))):rSlL K (.ref a) lo hi H Q:=⟨a,xs,rfl,h,q⟩
theorem wO{H:Hp}{l b:Addr}{xs zs:List V}{Q:VK}(h1:H l=some (.lst xs))(h2:H b=some (.lst zs))(hl:xs.length+zs.length<=sizeLine)(q:∀ p,H p=none->Q (.ref p) (upd H p (.lst (xs++zs)))):rCat (.ref l) (.ref b) H Q:=⟨l,b,xs,zs,rfl,rfl,h1,h2,hl,q⟩
theorem ints_get{ns:List Int}{i:Nat}{x:V}(h:(ns.map V.int)[i]?=some x):∃ z,x=.int z/\ns[i]?=some z:=by
 rw[ah] at h;obtain⟨z,e,rfl⟩:=aV.mp h;exact⟨z,rfl,e⟩
theorem Zo0{H:Hp}{a b:Addr}{o u:HO}(h:H b=some u)(hn:H a=none):upd H a o b=some u:=by rw[bv (iN h hn)];exact h
def kH(K:W.Frag):Sp:=sp1 fun x H Q=>∃ (a:Addr) (ns:List Int),x=.ref a/\SqL K H a (ns.map V.int)/\ns.length<=63/\∀ H',Q (.bl true) H'
theorem Zm2{K:W.Frag}{H:Hp}{a:Addr}{ns:List Int}{E:XK}(hl:ns.length<=63)(hS:SqL K H a (ns.map V.int)):kH K [.ref a] H (fun v _=>v=.bl true) E:=⟨_,rfl,a,ns,rfl,hS,hl,fun _=>rfl⟩
theorem Fun.law{P:Program}{w:World}{K:W.Frag}{mg:Str->Option Value}{base:Heap}{st:Stmt}{f:Addr}{fd:FuncData}{N:List Str}{k:Nat}(F:Fun K "law" "law" st f fd)(S:FnScope N ["script"] (aC st))
  (h:∀ (cdv:Value) (A:Around) (outer:List Env) (s:Shared) (H:Hp) (a:Addr) (ns:List Int) (Q:VK) (E:XK),Room k (A.deeper (PyProof.Rows.envOfC "law" (aC st) s.heap.objs.size f cdv))->SqL K H a (ns.map V.int)->ns.length<=63->(∀ H',Q (.bl true) H') ->
   mC P w K mg base N "law" st f cdv A outer s H [.ref a] Q E):FnOk P w K mg base CX0 (k+1) f fd ["script"] (kH K) :=
 F.ok S (fun vs H Q E ⟨_,e,_⟩=>by rw[e];rfl) fun cdv A outer s H vs Q E hr hsp=>by
  obtain⟨_,rfl,a,ns,rfl,h1,h2,h3⟩:=hsp;exact h cdv A outer s H a ns Q E hr h1 h2 h3
end L2
namespace L2
theorem ten60:(10:Int)^(60:Int).toNat=1000000000000000000000000000000000000000000000000000000000000:=by decide +kernel
theorem lX:CPow 10 60:=⟨by decide,by decide,by decide⟩
theorem qV{x:Int}(h:x.natAbs<=10^70):x.natAbs<2^8000:=iY h (by decide +kernel)
theorem tM{x y:Int}(h:x.natAbs<=10^70)(h2:y.natAbs<=10^70):CBig x y:=⟨qV h,qV h2⟩
theorem kU{x y:Int}(h:0<y)(h2:y.natAbs<=10^70):jx x y:=⟨h,qV h2⟩
end L2
end
section
namespace L2
open PySem PySem.W PyProof.Rows
noncomputable abbrev xs(n:String)(t:Tok):Value:=.str (Str.ofString n) t
noncomputable abbrev xi(n:Int)(t:Tok):Value:=.int n t
noncomputable abbrev xr(a:Addr):Value:=.ref a
noncomputable abbrev xe(P:Params)(n:String)(t:Tok)(v:Value):DictEntry:=⟨PyData.keyHash P (Str.ofString n),.str (Str.ofString n) t,v⟩
noncomputable abbrev oD(es:Array DictEntry)(n:Nat):Obj:={ cls:=.type "dict",data:=.dict es n }
noncomputable abbrev oT(vs:Array Value):Obj:={ cls:=.type "tuple",data:=.seq vs }
noncomputable abbrev oC(vs:Array Value):Obj:={ cls:=.type "code",data:=.fields vs }
noncomputable abbrev oF(n q:Str)(st:Stmt)(m:String)(t:Tok)(c:Addr):Obj:={ cls:=.type "function",data:=.func (fnOf n q (fG st) (dH st) (aC st) .none .none .none (xs m t) none (xr c) .none) }
noncomputable abbrev oG(n:Str)(st:Stmt)(m:String)(t:Tok)(c:Addr):Obj:=oF n n st m t c
noncomputable abbrev xf(P:Params)(n:String)(t:Tok)(a:Addr):DictEntry:=xe P n t (xr a)
noncomputable abbrev oK(n:String)(t l a r:Nat):Obj:=oC #[xs n t,xs n (t+1),xs "/claim/cut.py" (t+2),xi l 0,xi a 0,xi 0 0,xi 0 0,xi 3 0,xr r,.bool true,xi 181 0,xr (r+1),.none,.none,.none,xr (r+2),xi (t+3) 0,xi l 0,xs "/claim/cut.py" (t+4)]
theorem Zj1{p q:Program}{loose:List Str}{Xt:Shared->Bool}{α:Type}{Yf:Shared->α}{Ya:World->α}{N:Nat}(row:String)
  (e:opening p=plainProg p.main.scope.names) (hN:Nat.ble 600 N=true) (f:∀ s,fenceModules? p s=some s)
  (h:∀ (b:Bool) (w:World) (os:OsState),(topFrom treeTable p (w.withFollow row b) N ⟨jM (w.withFollow row b).params,Array.mk [],boot_drawn,boot_toks,os⟩).map (fun s=>(openSeen q loose (importedModules p.main.body) Xt true s,Yf s))=some (openGood q loose,Ya (w.withFollow row b))) :
  LeftO p q loose Xt Yf Ya N:=fun w=>by
 have h':=byRow2 row (P:=fun w=>∀ os,(topFrom treeTable p w N ⟨jM w.params,Array.mk [],boot_drawn,boot_toks,os⟩).map (fun s=>(openSeen q loose (importedModules p.main.body) Xt true s,Yf s))=some (openGood q loose,Ya w)) (fun w=>h false w) (fun w=>h true w) w;obtain⟨⟨hp,gs,d,k,os⟩,e1,e2⟩:=aV.mp (boot_open e hN f w);obtain⟨rfl,rfl,rfl,rfl⟩:hp=jM w.params/\gs=Array.mk []/\d=boot_drawn/\k=boot_toks:=by simpa using e2
 unfold openEnds;rw[e1];exact h' os
theorem top_tw{p:Program}{w:World}{N:Nat}{s₀:Shared}{β:Type}{F:Shared->β}{r:β}{m:Nat}{ann:Option Value}
  (z1:(s₀.heap.isNs mainGlobals&&s₀.gens.size == 0)=true) (z2:s₀.heap.objs.size=m) (z3:s₀.heap.nsMap mainGlobals "__annotations__"=ann)
  (h:((PySem.W.Fast.tw14082659384304107361 PySem.W.Fast.tw14364793385576792824 p w m ann N s₀ (topStub p)).bind fun s₁=>match staticsOk (importedModules p.main.body) s₀.heap s₁.heap&&namesBound p s₁.heap&&gensDone s₁&&laidKept s₀.heap s₁.heap with|true=>some s₁|false=>none).map F=some r) :
  (topFrom treeTable p w N s₀).map F=some r:=by
 unfold topFrom;rw[z1,z2,z3,PySem.W.Fast.te14082659384304107361,PySem.W.Fast.te14364793385576792824];exact h
noncomputable abbrev LB(row:String)(b:Bool)(p q:Program)(loose:List Str)(Xt:Shared->Bool){α:Type}(Yf:Shared->α)(Ya:World->α)(N:Nat):Prop :=
 ∀ (w:World) (os:OsState),((PySem.W.Fast.tw14082659384304107361 PySem.W.Fast.tw14364793385576792824 p (w.withFollow row b) 11 (some (.ref 6)) N ⟨jM (w.withFollow row b).params,Array.mk [],boot_drawn,boot_toks,os⟩ (topStub p)).bind fun s=>match staticsOk (importedModules p.main.body) (jM (w.withFollow row b).params) s.heap&&namesBound p s.heap&&gensDone s&&laidKept (jM (w.withFollow row b).params) s.heap with|true=>some s|false=>none).map (fun s=>(PySem.W.Fast.tw4187177175401517315 q loose (importedModules p.main.body) Xt true s,Yf s))=some (openGood q loose,Ya (w.withFollow row b))
theorem ZlH{p q:Program}{loose:List Str}{Xt:Shared->Bool}{α:Type}{Yf:Shared->α}{Ya:World->α}{N:Nat}{row:String}(h0:LB row false p q loose Xt Yf Ya N)(h1:LB row true p q loose Xt Yf Ya N)
  (e:opening p=plainProg p.main.scope.names:=by kernel_rfl) (hN:Nat.ble 600 N=true:=by kernel_rfl) (f:∀ s,fenceModules? p s=some s:=by intro s;kernel_rfl):LeftO p q loose Xt Yf Ya N:=by
 refine Zj1 row e hN f fun b w os=>?_;refine top_tw (m:=11) (ann:=some (.ref 6)) (by kernel_rfl) (by kernel_rfl) (by kernel_rfl) ?_;rw[PySem.W.Fast.te4187177175401517315];cases b
 .exact h0 w os
 .exact h1 w os
theorem uc{M:List Value->Prop}{n:Nat}(h:∀ a us,us.length=n->M (a::us))(us:List Value)(hl:us.length=n+1):M us:=by
 cases us with
 | nil=>cases hl
 | cons a us=>exact h a us (Nat.succ.inj hl)
theorem un0{M:List Value->Prop}(h:M [])(us:List Value)(hl:us.length=0):M us:=by
 cases us with
 | nil=>exact h
 | cons a us=>cases hl
section
variable{K:Frag}{h:Heap}{mg:Str->Option Value}{x m qual:Str}{st:Stmt}
theorem gv{v:Value}(X:K.In h)(G:h.Ns mainGlobals mg)(e:nsIn K mainGlobals x=some (some v):=by kernel_rfl):mg x=some v:=mg_of X G e
theorem gz(X:K.In h)(G:h.Ns mainGlobals mg)(e:nsIn K mainGlobals x=some none:=by kernel_rfl):mg x=none:=mg_none_of X G e
theorem lo(a:Addr)(o:Obj)(e:K.lookup a=some o:=by kernel_rfl):K.lookup a=some o:=e
theorem tf1{p1:Str}(X:K.In h)(G:h.Ns mainGlobals mg)(f:Addr)(md:String)(t:Tok)(c:Addr)(a:nsIn K mainGlobals x=some (some (.ref f)):=by kernel_rfl)(l:K.lookup f=some (oF x x st md t c):=by kernel_rfl)(cc:codeIn K (xr c) x=true:=by kernel_rfl)(k:keepIn K (.ref f)=true:=by kernel_rfl)
  (b:∀ (kV doc pm:Value) (an:Option Addr) (cdv ct:Value) (u1:Value),bindArgs (fnOf x x (fG st) (dH st) (aC st) .none kV doc pm an cdv ct) ⟨[u1],[]⟩=pure [(p1,u1)]:=by intros;kernel_rfl):TopFn K mg x st [p1] :=
 ⟨_,_,eV l cc k,mg_of X G a,(eV l cc k).binds fun _ _ _ _ _ _=>uc fun _=>un0 (b ..)⟩
theorem tf2{p1 p2:Str}(X:K.In h)(G:h.Ns mainGlobals mg)(f:Addr)(md:String)(t:Tok)(c:Addr)(a:nsIn K mainGlobals x=some (some (.ref f)):=by kernel_rfl)(l:K.lookup f=some (oF x x st md t c):=by kernel_rfl)(cc:codeIn K (xr c) x=true:=by kernel_rfl)(k:keepIn K (.ref f)=true:=by kernel_rfl)
  (b:∀ (kV doc pm:Value) (an:Option Addr) (cdv ct:Value) (u1 u2:Value),bindArgs (fnOf x x (fG st) (dH st) (aC st) .none kV doc pm an cdv ct) ⟨[u1,u2],[]⟩=pure [(p1,u1),(p2,u2)]:=by intros;kernel_rfl):TopFn K mg x st [p1,p2] :=
 ⟨_,_,eV l cc k,mg_of X G a,(eV l cc k).binds fun _ _ _ _ _ _=>uc fun _=>uc fun _=>un0 (b ..)⟩
theorem tf3{p1 p2 p3:Str}(X:K.In h)(G:h.Ns mainGlobals mg)(f:Addr)(md:String)(t:Tok)(c:Addr)(a:nsIn K mainGlobals x=some (some (.ref f)):=by kernel_rfl)(l:K.lookup f=some (oF x x st md t c):=by kernel_rfl)(cc:codeIn K (xr c) x=true:=by kernel_rfl)(k:keepIn K (.ref f)=true:=by kernel_rfl)
  (b:∀ (kV doc pm:Value) (an:Option Addr) (cdv ct:Value) (u1 u2 u3:Value),bindArgs (fnOf x x (fG st) (dH st) (aC st) .none kV doc pm an cdv ct) ⟨[u1,u2,u3],[]⟩=pure [(p1,u1),(p2,u2),(p3,u3)]:=by intros;kernel_rfl):TopFn K mg x st [p1,p2,p3] :=
 ⟨_,_,eV l cc k,mg_of X G a,(eV l cc k).binds fun _ _ _ _ _ _=>uc fun _=>uc fun _=>uc fun _=>un0 (b ..)⟩
theorem tf4{p1 p2 p3 p4:Str}(X:K.In h)(G:h.Ns mainGlobals mg)(f:Addr)(md:String)(t:Tok)(c:Addr)(a:nsIn K mainGlobals x=some (some (.ref f)):=by kernel_rfl)(l:K.lookup f=some (oF x x st md t c):=by kernel_rfl)(cc:codeIn K (xr c) x=true:=by kernel_rfl)(k:keepIn K (.ref f)=true:=by kernel_rfl)
  (b:∀ (kV doc pm:Value) (an:Option Addr) (cdv ct:Value) (u1 u2 u3 u4:Value),bindArgs (fnOf x x (fG st) (dH st) (aC st) .none kV doc pm an cdv ct) ⟨[u1,u2,u3,u4],[]⟩=pure [(p1,u1),(p2,u2),(p3,u3),(p4,u4)]:=by intros;kernel_rfl):TopFn K mg x st [p1,p2,p3,p4] :=
 ⟨_,_,eV l cc k,mg_of X G a,(eV l cc k).binds fun _ _ _ _ _ _=>uc fun _=>uc fun _=>uc fun _=>uc fun _=>un0 (b ..)⟩
theorem tf5{p1 p2 p3 p4 p5:Str}(X:K.In h)(G:h.Ns mainGlobals mg)(f:Addr)(md:String)(t:Tok)(c:Addr)(a:nsIn K mainGlobals x=some (some (.ref f)):=by kernel_rfl)(l:K.lookup f=some (oF x x st md t c):=by kernel_rfl)(cc:codeIn K (xr c) x=true:=by kernel_rfl)(k:keepIn K (.ref f)=true:=by kernel_rfl)
  (b:∀ (kV doc pm:Value) (an:Option Addr) (cdv ct:Value) (u1 u2 u3 u4 u5:Value),bindArgs (fnOf x x (fG st) (dH st) (aC st) .none kV doc pm an cdv ct) ⟨[u1,u2,u3,u4,u5],[]⟩=pure [(p1,u1),(p2,u2),(p3,u3),(p4,u4),(p5,u5)]:=by intros;kernel_rfl):TopFn K mg x st [p1,p2,p3,p4,p5] :=
 ⟨_,_,eV l cc k,mg_of X G a,(eV l cc k).binds fun _ _ _ _ _ _=>uc fun _=>uc fun _=>uc fun _=>uc fun _=>uc fun _=>un0 (b ..)⟩
theorem tf6{p1 p2 p3 p4 p5 p6:Str}(X:K.In h)(G:h.Ns mainGlobals mg)(f:Addr)(md:String)(t:Tok)(c:Addr)(a:nsIn K mainGlobals x=some (some (.ref f)):=by kernel_rfl)(l:K.lookup f=some (oF x x st md t c):=by kernel_rfl)(cc:codeIn K (xr c) x=true:=by kernel_rfl)(k:keepIn K (.ref f)=true:=by kernel_rfl)
  (b:∀ (kV doc pm:Value) (an:Option Addr) (cdv ct:Value) (u1 u2 u3 u4 u5 u6:Value),bindArgs (fnOf x x (fG st) (dH st) (aC st) .none kV doc pm an cdv ct) ⟨[u1,u2,u3,u4,u5,u6],[]⟩=pure [(p1,u1),(p2,u2),(p3,u3),(p4,u4),(p5,u5),(p6,u6)]:=by intros;kernel_rfl):TopFn K mg x st [p1,p2,p3,p4,p5,p6] :=
 ⟨_,_,eV l cc k,mg_of X G a,(eV l cc k).binds fun _ _ _ _ _ _=>uc fun _=>uc fun _=>uc fun _=>uc fun _=>uc fun _=>uc fun _=>un0 (b ..)⟩
end
end L2
end
section
namespace L2
open PySem
noncomputable def bagL(l:Addr)(i m st c:Int):List V:=[.ref l,.int i,.int m,.int st,.int c]
structure BagAt(H:Hp)(b l:Addr):Prop where
 ex:∃ (xs:List Int) (i:Nat) (m st c:Int),H b=some (.lst (bagL l i m st c))/\H l=some (.lst (xs.map V.int))/\i<=xs.length/\(0<=m/\m<=10^60)/\(0<=st/\st<2147483647)/\(∀ x∈xs,0<=x/\x<=10^60)/\xs.length<=63
def BSame(b:Addr)(H H':Hp):Prop:=∀ a o,a≠b->H a=some o->H' a=some o
theorem BSame.refl(b:Addr)(H:Hp):BSame b H H:=fun _ _ _ h=>h
theorem BSame.trans{b:Addr}{H H1 H2:Hp}(x:BSame b H H1)(y:BSame b H1 H2):BSame b H H2:=fun a o n h=>y a o n (x a o n h)
theorem BSame.wr{b:Addr}{H:Hp}{o:HO}:BSame b H (upd H b o):=fun a u n h=>by rw[bv n];exact h
theorem BagAt.lst{H:Hp}{b l:Addr}(B:BagAt H b l):∃ xs,H b=some (.lst xs):=let ⟨_,_,_,_,_,h,_⟩:=B.ex;⟨_,h⟩
inductive drawB(x y:V)(H:Hp)(Q:VK):Prop
 | mk (b l n) (_:x=.ref b) (_:y=.int n) (_:0<n/\n<=10^65) (_:BagAt H b l) (_:∀ r H',0<=r->r<n->BagAt H' b l->BSame b H H'->Q (.int r) H'):drawB x y H Q
def m4:Sp:=sp2 drawB
inductive Pr_number(x:V)(H:Hp)(Q:VK):Prop
 | mk (b l) (_:x=.ref b) (_:BagAt H b l) (_:∀ r H',r.natAbs<=10^60->BagAt H' b l->BSame b H H'->Q (.int r) H'):Pr_number x H Q
def wS:Sp:=sp1 (Pr_number)
inductive Pr_bag(K:W.Frag)(x:V)(H:Hp)(Q:VK):Prop
 | mk (a:Addr) (ns:List Int) (_:x=.ref a) (_:SqL K H a (ns.map V.int)) (_:ns.length<=63) (_:∀ b l H',H b=none->Same H H'->BagAt H' b l->Q (.ref b) H'):Pr_bag K x H Q
def tw(K:W.Frag):Sp:=sp1 (Pr_bag K)
end L2
end
section
namespace L3
open PySem PyProof.Rows
class KOrd where
 kd:SortKind
 good:Keyed->Prop
 kv:Keyed->Int
noncomputable abbrev oneType'[KOrd]:SortKind:=KOrd.kd
def IntK[KOrd](x:Keyed):Prop:=KOrd.good x
noncomputable def kvl[KOrd](x:Keyed):Int:=KOrd.kv x
def IntKeys[KOrd](xs:Array Keyed):Prop:=∀ q,q∈xs.toList->IntK q
noncomputable def K[KOrd](xs:Array Keyed)(i:Nat):Int:=match xs[i]? with
 | some q=>kvl q
 | none=>0
class KLt[KOrd](P:Program)(W:World)(A:Around)(E:Value->Shared->Prop)(z:Shared):Prop where
 lt:∀ {u:SortSt} {x y:Keyed} {Q:Option Bool->SortSt->Prop},kindOf u=oneType'->IntK x->IntK y->Q (some (decide (kvl x<kvl y))) u->wpS (model P W) A E z (lt' x y) Q u
section
variable[KOrd]
theorem K_eq'{arr:Array Keyed}{i:Nat}(h:i<arr.size):K arr i=kvl arr[i]:=by
 unfold K;rw[getElem?_pos arr i h]
end
section
variable[KOrd]{P:Program}{W:World}{A:Around}{E:Value->Shared->Prop}{z:Shared}[KLt P W A E z]
theorem ZoM{u:SortSt}{x y:Keyed}{Q:Option Bool->SortSt->Prop}(hk:kindOf u=oneType')(hx:IntK x)(hy:IntK y)(h:Q (some (decide (kvl x<kvl y))) u):wpS (model P W) A E z (lt' x y) Q u:=KLt.lt hk hx hy h
noncomputable def bey(left:Bool)(kv:Int)(arr:Array Keyed)(base i:Nat):Bool:=if left then decide (K arr (base+i)<kv) else !decide (kv<K arr (base+i))
end
end L3
end
section
namespace L3
open PySem PyProof.Rows
variable[KOrd]
def Zqr(xs:List Keyed):Prop:=xs.Pairwise fun p q=>kvl p<=kvl q
structure Laid(a b r:List Keyed):Prop where
 perm:r.Perm (a++b)
 up:Zqr r
section
variable{P:Program}{W:World}{A:Around}{E:Value->Shared->Prop}{z:Shared}[KLt P W A E z]
theorem xq{u:SortSt}{arr:Array Keyed}{i:Nat}{Q:Keyed->SortSt->Prop}(h:i<arr.size)(q:Q arr[i] u):wpS (model P W) A E z (elem' arr i) Q u:=by
 rw[elem'_eq,getElem?_pos arr i h];exact gM q
structure Fr(u v:SortSt):Prop where
 kind:kindOf v=kindOf u
 arr:arrOf v=arrOf u
 pend:pendingOf v=pendingOf u
 failed:failedOf v=failedOf u
end
theorem K_kvl{a:Array Keyed}{i:Nat}(h:i<a.size):K a i=kvl a[i]:=K_eq' h
theorem uz{a:Array Keyed}(h:IntKeys a){i:Nat}(hi:i<a.size):IntK a[i]:=h _ (Array.getElem_mem_toList hi)
end L3
end
section
namespace L3
open PySem PyProof.Rows
variable[KOrd]
def SegS(xs:Array Keyed)(lo n:Nat):Prop:=∀ i j,lo<=i->i<=j->j<lo+n->K xs i<=K xs j
end L3
end
section
namespace L3
open PySem PyProof.Rows
variable[KOrd]
structure Bas(a₀:Array Keyed)(p:Array (Nat×Nat×Nat))(st:SortSt):Prop where
 perm:(arrOf st).Perm a₀
 kind:kindOf st=oneType'
 failed:failedOf st=none
 pend:pendingOf st=p
section
variable{P:Program}{W:World}{A:Around}{E:Value->Shared->Prop}{z:Shared}[KLt P W A E z]{a₀:Array Keyed}{p:Array (Nat×Nat×Nat)}
theorem Bas.size{st:SortSt}(h:Bas a₀ p st):(arrOf st).size=a₀.size:=h.perm.size_eq
theorem Zhv{xs:Array Keyed}(h0:IntKeys a₀)(h:xs.Perm a₀):IntKeys xs:=fun q hq=>h0 q ((Array.perm_iff_toList_perm.mp h).mem_iff.mp hq)
theorem ZoN{st:SortSt}{i j:Nat}{Q:Option Bool->SortSt->Prop}(hB:Bas a₀ p st)(h0:IntKeys a₀)(hi:i<a₀.size)(hj:j<a₀.size)(h:Q (some (decide (K (arrOf st) i<K (arrOf st) j))) st):wpS (model P W) A E z (ltAt' i j) Q st:=by
 have hI:=Zhv h0 hB.perm;have e1:i<(arrOf st).size:=by rw[hB.size];exact hi
 have e2:j<(arrOf st).size:=by rw[hB.size];exact hj
 rw[ltAt'_eq];refine eO (wpS_get ?_);refine eO (xq e1 ?_);refine eO (xq e2 ?_);rw[K_kvl e1,K_kvl e2] at h;exact ZoM hB.kind (uz hI e1) (uz hI e2) h
theorem ZmU{st:SortSt}{lo a nrem:Nat}{β:Type}{o:Option β}{f:Nat->Option β×Nat->StateT SortSt Sem (ForInStep (Option β×Nat))}{Q:Option β×Nat->SortSt->Prop}(ha:1<=a)(han:a<=nrem)(hs:SegS (arrOf st) lo a)
  (hf:∀ x n (R:ForInStep (Option β×Nat)->SortSt->Prop),1<=n->n<nrem->(K (arrOf st) (lo+n)<K (arrOf st) (lo+n-1)->R (.done (o,n)) st)->(¬ K (arrOf st) (lo+n)<K (arrOf st) (lo+n-1)->R (.yield (o,n+1)) st)->wpS (model P W) A E z (f x (o,n)) R st)
  (h:∀ n,a<=n->n<=nrem->SegS (arrOf st) lo n->(n=nrem\/K (arrOf st) (lo+n)<K (arrOf st) (lo+n-1))->Q (o,n) st):wpS (model P W) A E z (forIn [a:nrem] (o,a) f) Q st:=by
 refine wpS_forRange (I:=fun x c st'=>st'=st/\c=(o,x)/\SegS (arrOf st) lo x) ?step ?fin ⟨rfl,rfl,hs⟩
 case fin =>
  rintro c st' ⟨rfl,rfl,hs'⟩;rw[show max a nrem=nrem by lia] at hs' ⊢;exact h nrem han (aE _) hs' (.inl rfl)
 case step =>
  rintro x c st' hax hxn ⟨rfl,rfl,hs'⟩;refine hf x x _ (by lia) hxn (fun hl=>h x hax (by lia) hs' (.inr hl)) fun hl=>⟨rfl,rfl,fun i j h1 hij hj=>?_⟩;by_cases hjx:j<lo+x
  .exact hs' i j h1 hij hjx
  .have hj':j=lo+x:=by lia
   subst hj';by_cases hi':i=lo+x
   .subst hi';exact ls _
   .exact Int.le_trans (hs' i (lo+x-1) h1 (by lia) (by lia)) (Int.not_lt.mp hl)
end
end L3
end
section
namespace L2
open PySem PySem.Spec PyProof.Rows
section
variable{P:Program}{W:World}{A:Around}{E:Value->Shared->Prop}{z:Shared}
noncomputable def wQ(P:Program)(W:World)(A:Around)(E:Value->Shared->Prop)(z:Shared)(b:Array Keyed):Prop :=
 ∀ u:SortSt,SBase b u->arrOf u=b->wpS (model P W) A E z sortRuns' (fun _ v=>(arrOf v).Perm b/\failedOf v=none/\SortedTo (arrOf v) b.size) u
theorem Zm6{b:Array Keyed}(hk:IntKeys b)(h2:2<=b.size)(h:b.size<64):wQ P W A E z b:=fun u hu _=>wpS_sortRuns hk hu h2 h fun v a c d=>⟨a,c,d⟩
theorem Zo7{a:Addr}{us:List Value}{ns:List Int}{k:Nat}{F:PySem.Fin->Shared->Prop}(ho:z.heap.get? a=some (seqObj "list" us.toArray k))(hi:IntsAre us ns)(hz:us.length<=sizeLine)
  (hr:2<=us.length->∀ z',wQ P W A E z' (pairsOf us))
  (h:∀ (out:Array Value) (ms:List Int),IntsAre out.toList ms->ms.Perm ns->ms.Pairwise (·<=·)->F (.done (.ret .none)) { z with heap:=sortedHeap z.heap a us out }) :
  wpAny (model P W) A (Builtin.«list.sort» ⟨[.ref a],[]⟩) F E z:=by
 have hlt:a<z.heap.objs.size:=ba ho;have hus:us.toArray.size=us.length:=by simp
 obtain⟨ep,hoE⟩:∃ ep,(z.heap.update a (Obj.mapSeq fun _=>#[])).get? a=some (seqObj "list" #[] ep):=⟨_,get?_update_seq ho fun _=>#[]⟩;have hoF:(((z.heap.update a (Obj.mapSeq fun _=>#[])).push (seqObj "tuple" us.toArray 0)).push (seqObj "list" #[] 0)).get? a=some (seqObj "list" #[] ep):=be _ (be _ hoE);have ends:∀ v:SortSt,(arrOf v).Perm (pairsOf us)->SortedTo (arrOf v) (pairsOf us).size->F (.done (.ret .none)) { z with heap:=sortedHeap z.heap a us ((arrOf v).map (·.2)) }:=fun v hp hs=>by
  obtain⟨ms,q1,q2,q3⟩:=sorted_out hi hp hs;exact h _ ms q1 q2 q3
 have hfit:∀ v:SortSt,(arrOf v).Perm (pairsOf us)->((arrOf v).map (·.2)).size<=sizeLine+1:=fun v hp=>by
  rw[Array.size_map,hp.size_eq,i6];lia
 rw[list_sort_plain];refine ab (listItems_at (o:=seqObj "list" us.toArray k) ho rfl ?_);refine ab (jN (hsz:=by rw[hus];exact hz) (hsz2:=cb _) (o:=seqObj "list" us.toArray k) ho rfl ?_);refine ab (jO (o:=seqObj "list" #[] ep) hoE rfl ?_);refine ab (nu ?_ (hsz:=by rw[ft,hus];exact hz));refine ab (nv ?_ (hsz:=cb _));refine eL (id ?_);dsimp only;by_cases hfew:us.toArray.size<2
 .rw[ak hfew,ak hfew];refine ab (am (id ?_));rw[StateT.run_pure];refine ab (am (id ?_));dsimp only;refine ab (jO (o:=seqObj "list" #[] ep) hoF rfl ?_);refine ab (jN (hsz:=cb _) (hsz2:=hfit (SortSt.mk' general' (us.toArray.zip us.toArray) #[] 7 none) (Array.Perm.refl _)) (o:=seqObj "list" #[] ep) hoF rfl ?_);simp only[nA,de,cv];refine am (ends (SortSt.mk' general' (us.toArray.zip us.toArray) #[] 7 none) (Array.Perm.refl _) fun i j hij hj=>?_);obtain rfl:i=j:=by rw[i6] at hj;lia
  exact ls _
 .rw[ao hfew,ao hfew];have hkind:keyKind' us.toArray=pure oneType':=by
   match us,hi,hus,hfew with
   | [],_,_,hf=>simp at hf
   | [_],_,_,hf=>simp at hf
   | _::_::_,hi,_,_=>exact keyKind_ints hi
  rw[hkind];refine ab (am (id ?_));refine ab (dw (hr (by lia) _ (SortSt.mk' oneType' (us.toArray.zip us.toArray) #[] 7 none) ⟨Array.Perm.refl _,rfl,rfl,rfl⟩ rfl) ?_ fun _ _ q=>q);rintro⟨⟨⟩,v⟩ z' ⟨rfl,hp,hf,hs⟩;dsimp only;refine ab (jO (o:=seqObj "list" #[] ep) hoF rfl ?_);refine ab (jN (hsz:=cb _) (hsz2:=hfit v hp) (o:=seqObj "list" #[] ep) hoF rfl ?_);rw[hf];simp only[nA,de,cv];exact am (ends v hp hs)
end
theorem Un.track'{fs ex:List Addr}{H H1:Hp}{h h1:Heap}{a:Addr}{o:HO}(u:Un fs ex H H1 h h1)(hne:∀ b o,h.get? b=some o->b≠a)(hn:H a=none):Un fs ex H (upd H1 a o) h h1 where
 keep:=u.keep
 slot:=u.slot
 free:=fun b ob q n hx=>by
  rw[bv (hne b ob q)];exact u.free b ob q n hx
 there:=u.there
 tups:=fun b xs q=>by
  rw[bv (fun z=>by rw[z,hn] at q;cases q)];exact u.tups b xs q
 frzs:=fun b ob x q=>by
  rw[bv (fun z=>by rw[z,hn] at q;cases q)];exact u.frzs b ob x q
 tbls:=fun b ps q=>by
  rw[bv (fun z=>by rw[z,hn] at q;cases q)];exact u.tbls b ps q
theorem ObjOk.there{P:Program}{w:World}{H:Hp}{h:Heap}{a:Addr}{o:HO}(x:ObjOk P w H h a o):∃ ob,h.get? a=some ob:=by
 cases o with
 | lst xs=>obtain⟨_,_,_,_,e⟩:=x;exact⟨_,e⟩
 | tup xs=>obtain⟨_,_,_,ob,e,_⟩:=x;exact⟨_,e⟩
 | dK kvs=>obtain⟨_,_,_,_,o,_,_,e,_⟩:=x;exact⟨_,e⟩
 | dT kvs=>obtain⟨_,_,_,_,o,_,_,e,_⟩:=x;exact⟨_,e⟩
 | set S n=>obtain⟨o,_,_,_,e,_⟩:=x;exact⟨_,e⟩
 | ins C dx fs=>obtain⟨_,_,_,e,_⟩:=x;exact⟨_,e⟩
 | own y=>exact x
 | xd fs=>obtain⟨_,⟨o,_,_,e,_⟩,_⟩:=x;exact⟨_,e⟩
 | rng lo hi=>obtain⟨_,_,_,e⟩:=x;exact⟨_,e⟩
 | frz ob u=>obtain⟨e,_⟩:=x;exact⟨_,e⟩
 | tbl ps=>exact⟨_,x⟩
 | met f y=>exact⟨_,x⟩
 | ext φ=>obtain⟨_,e,_⟩:=x;exact e
theorem uT:∀ {us:List Value} {ns:List Int},IntsAre us ns->Vals (ns.map V.int) us
 | _,_,.nil=>.nil
 | _,_,.cons n t h=>.cons ⟨t,rfl⟩ (uT h)
theorem KV.at'{κ : Type} : ∀ {kvs : List (κ×V)} {vs : List (κ×Value)} {j : Nat} {k : κ} {x : Value}, KV kvs vs->vs[j]?=some (k, x)->∃ p, kvs[j]?=some p/\p.1=k
  | _, _, j, k, x, .nil, e=>by simp at e
  | p :: _, q :: _, 0, k, x, .cons r _, e => by
    simp at e;subst e;exact⟨p,rfl,r.1⟩
  | p :: ps, q :: qs, j + 1, k, x, .cons _ t, e => by
    obtain⟨p',e1,e2⟩:=KV.at' (j:=j) (kvs:=ps) (vs:=qs) t (by simpa using e);exact⟨p', by simpa using e1, e2⟩
theorem vO : ∀ {us : List Value} {ns : List Int}, us.length=ns.length->(∀ (j : Nat) v, us[j]?=some v->∃ n t, ns[j]?=some n/\v=Value.int n t)->IntsAre us ns
  | [], [], _, _=>.nil
  | [], _::_, h, _=>by simp at h
  | _::_, [], h, _=>by simp at h
  | u :: us, n :: ns, h, k => by
    obtain⟨n',t,e1,e2⟩:=k 0 u rfl;simp at e1;subst e1;subst e2;exact .cons n t (vO (by simpa using h) fun j v e=>k (j+1) v (by simpa using e))
end L2
namespace L2
open PySem
noncomputable def kvT(t:List (Int×Int)):List (Key×V):=t.map fun q=>(Sum.inl q.1,V.int q.2)
theorem ZnD(t:List (Int×Int)):(kvT t).map (·.1)=(t.map (·.1)).map Sum.inl:=by unfold kvT;simp
theorem ZkK{t:List (Int×Int)}{w:Int}(h:∀ q∈t,q.1≠w):valV (kvT t) (Sum.inl w:Key)=none:=by
 induction t with
 | nil=>rfl
 | cons q t ih =>
  show valV ((Sum.inl q.1,V.int q.2)::kvT t) (Sum.inl w:Key)=none;rw[ji (fun e=>h q aO (Sum.inl.inj e))];exact ih fun q' hq=>h q' (bw _ hq)
theorem Znj{t:List (Int×Int)}{w x:Int}(h:∀ q∈t,q.1≠w):putK (kvT t) (Sum.inl w:Key) (V.int x)=kvT (t++[(w,x)]):=by
 rw[Znl _ (ZkK h)];unfold kvT;simp
end L2
end
section
namespace L3
open PySem PyProof.Rows
section
variable{P:Program}{w:World}{A:Around}{E:Value->Shared->Prop}{s:Shared}
noncomputable def dd(ns:List Int):List Int:=firstMet (fun i=>ns.getD i 0) ns.length
end
end L3
end
section
namespace L2
open PySem PySem.Spec PyProof.Rows
def rIsN:R2:=fun x y H Q=>y=.non/\Q (.bl (decide (x=.non))) H
def rNotN:R2:=fun x y H Q=>y=.non/\Q (.bl (!decide (x=.non))) H
theorem mN{X:Cx}:OpR X (compareOp .Is) rIsN:=op_isN
theorem kt{X:Cx}:OpR X (compareOp .IsNot) rNotN:=ZpE
theorem tG : ∀ {l m : List Int}, l.Pairwise (·<=·)->m.Pairwise (·<=·)->l.Perm m->l=m
  | [], m, _, _, p=>by rw[nil_perm.mp p]
  | a::l, [], _, _, p=>by simp at p
  | a :: l, b :: m, h1, h2, p => by
    obtain⟨p1,p2⟩:=lu.mp h1;obtain⟨q1,q2⟩:=lu.mp h2;have hab : a=b:=by
      have ha:a∈b::m:=p.mem_iff.mp aO;have hb:b∈a::l:=p.mem_iff.mpr aO;rcases aJ.mp ha with e|ha
      . exact e
      . rcases aJ.mp hb with e | hb
        . exact e.symm
        . have := q1 a ha
          have:=p1 b hb;lia
    subst hab;rw[tG p2 q2 (List.Perm.cons_inv p)]
structure SgOk(sg:List (Int×Int)):Prop where
 pos:0<sg.length
 few:sg.length<=6
 first:∃ bx,sg[0]?=some (0,bx)
 all:∀ q∈sg,0<=q.1/\q.1<=4/\q.1<=q.2/\1<=q.2/\q.2<=8
section
variable{X:Cx}{C:Addr}{x m:Str}{k:Nat}{ps:List Str}{sp:Sp}{o e:Expr}{es:List Expr}{ta:TE}{t:TA}{apos pos p:Pos}
theorem ki{n:Int}(hg:Gl X x)(h:∃ t,X.mg x=some (.int n t))(hd:(x == ("__debug__":Str))=false:=by decide):PE X (.Name x pos) (tC (.int n)):=by
 obtain⟨t,h⟩:=h;exact pi hg h ⟨t,rfl⟩ hd
def tCT(K:W.Frag)(xs:List V):TE:=fun _ H Q=>∀ a,(∀ H',SqT K H' a xs)->Q (.ref a) H
def IsCT(K:W.Frag)(mg:Str->Option Value)(x:Str)(xs:List V):Prop:=∃ a,mg x=some (.ref a)/\∃ (o:Obj) (its:Array Value) (n:Nat),K.lookup a=some o/\o.cls=.type "tuple"/\o.data=.seq its n/\its.size<=sizeLine/\Vals xs its.toList
theorem Zpz{K:W.Frag}{xs:List V}(hg:Gl X x)(h:IsCT K X.mg x xs)(hd:(x == ("__debug__":Str))=false:=by decide):PE X (.Name x pos) (tCT K xs):=by
 obtain⟨a,h,r⟩:=h;intro pins s Z H Q I q;exact pi (v:=.ref a) hg h rfl hd pins s Z H Q I (q a fun H'=>.inr r)
end
end L2
end
section
namespace L2
inductive Ex2{α0 α1:Type}(p:α0->α1->Prop):Prop
 | mk (a:α0) (b:α1) (h:p a b):Ex2 p
inductive Ex3{α0 α1 α2:Type}(p:α0->α1->α2->Prop):Prop
 | mk (a:α0) (b:α1) (c:α2) (h:p a b c):Ex3 p
inductive Ex4{α0 α1 α2 α3:Type}(p:α0->α1->α2->α3->Prop):Prop
 | mk (a:α0) (b:α1) (c:α2) (d:α3) (h:p a b c d):Ex4 p
inductive Ex6{α0 α1 α2 α3 α4 α5:Type}(p:α0->α1->α2->α3->α4->α5->Prop):Prop
 | mk (a:α0) (b:α1) (c:α2) (d:α3) (e:α4) (f:α5) (h:p a b c d e f):Ex6 p
inductive Ex10{α0 α1 α2 α3 α4 α5 α6 α7 α8 α9:Type}(p:α0->α1->α2->α3->α4->α5->α6->α7->α8->α9->Prop):Prop
 | mk (a:α0) (b:α1) (c:α2) (d:α3) (e:α4) (f:α5) (g:α6) (h:α7) (i:α8) (j:α9) (h:p a b c d e f g h i j):Ex10 p
inductive An3(a b c:Prop):Prop
 | mk (h0:a) (h1:b) (h2:c):An3 a b c
inductive An4(a b c d:Prop):Prop
 | mk (h0:a) (h1:b) (h2:c) (h3:d):An4 a b c d
inductive An5(a b c d e:Prop):Prop
 | mk (h0:a) (h1:b) (h2:c) (h3:d) (h4:e):An5 a b c d e
inductive An7(a b c d e f g:Prop):Prop
 | mk (h0:a) (h1:b) (h2:c) (h3:d) (h4:e) (h5:f) (h6:g):An7 a b c d e f g
inductive An8(a b c d e f g h:Prop):Prop
 | mk (h0:a) (h1:b) (h2:c) (h3:d) (h4:e) (h5:f) (h6:g) (h7:h):An8 a b c d e f g h
end L2
end
section
namespace L2
open PySem PySem.Spec PyProof.Rows
section
variable{X:Cx}{pins:List (Addr×Obj)}{Z:St}{H:Hp}{s:Shared}{h':Heap}
theorem Inv.turnedL{t':Nat}{fp:List Addr}(I:Inv X pins Z H s)(k:∀ b o,b∉fp->s.heap.get? b=some o->h'.get? b=some o)(hf:∀ b∈fp,FpOk X pins H b):Inv X pins Z H { s with heap:=h',toks:=t' }:=by
 have nit:∀ b u,H b=some u->b∉fp:=fun b u e z=>by rw[(hf b z).1] at e;cases e
 refine I.step (g':=s.gens) (d':=s.drawn) (ch:=fp) (fun b hb=>?_) (fun b o _ _ hc e _=>k b o hc e) (fun b o _ _ hc e _=>⟨o.slots,k b o hc e⟩) (fun _ _ _ _ n=>n)
  (fun b o hc e=>⟨o,k b o hc e⟩) (fun _ _ e=>e) (fun _ _ _ e=>e) (fun b ps e=>⟨#[],by rw[e];simp⟩) (fun m hm=>?_) (fun b u e=>?_) I.bare
 .obtain ⟨f0,f1,f2,f3,f4,f5⟩:=hf b hb;exact⟨f3,f1,f4,f5⟩
 .obtain ⟨o,es,ep,ho,r⟩:=hm;exact⟨o,es,ep,k _ o (fun z=>(hf _ z).2.1 rfl) ho,r⟩
 .refine (I.hok b u e).stay (fun c v hc q=>k c v ?_ q) (fun _ q=>q) fun _ _ q=>q;rcases hc with z|z
  .rw[z];exact nit b u e
  .exact nit c _ z
theorem ZnK{h:Heap}{o u:Obj}{b:Addr}(ho:o.isFreed=false)(e:(h.push o).get? b=some u):h.get? b=some u\/(b=h.objs.size/\u=o):=by
 have hb:=ba e;rw[gL] at hb;by_cases hbe:b=h.objs.size
 .subst hbe;rw[bQ h ho] at e;exact .inr ⟨rfl,(Option.some.inj e).symm⟩
 .have hlt:b<h.objs.size:=Nat.lt_of_le_of_ne (Nat.le_of_lt_succ hb) hbe;left;rw[<-e];unfold Heap.get? Heap.push;simp[Array.getElem?_push_lt,hlt,Array.getElem?_eq_getElem hlt]
end
theorem Zkn(n l1 l2:Nat)(h1:l1<n)(h2:l2<n):ZipApart (n+4) (n+2) (n+3) n (n+1) l1 l2:=by
 constructor <;> exact fun z=>by
  have z':=congrArg (fun x:Nat=>x) z;lia
def CTup(K:W.Frag)(a:Addr)(xs:List V):Prop:=∃ (o:Obj) (its:Array Value) (n:Nat),K.lookup a=some o/\o.cls=.type "tuple"/\o.data=.seq its n/\its.size<=sizeLine/\Vals xs its.toList
theorem CTup.sq{K:W.Frag}{a:Addr}{xs:List V}(h:CTup K a xs)(H:Hp):SqT K H a xs:=.inr h
noncomputable def entC(w:World)(q:Str×Tok×Addr):DictEntry:=⟨hashStr w q.1,.str q.1 q.2.1,.ref q.2.2⟩
noncomputable def CDat(K:W.Frag)(w:World)(a:Addr)(tb:List (Str×List Str)):Prop :=
 (a == sysModules)=false/\(tb.map (·.1)).Nodup/\∃ (rows:List (Str×Tok×Addr)) (ep:Nat),K.lookup a=some { cls:=.type "dict",data:=.dict (rows.map (entC w)).toArray ep } /\
  Paired (fun(p:Str×List Str) (q:Str×Tok×Addr)=>p.1=q.1/\CTup K q.2.2 (p.2.map V.str)) tb rows
theorem Zqj{K:W.Frag}{tb:List (Str×List Str)}{rows:List (Str×Tok×Addr)}(h:Paired (fun(p:Str×List Str) (q:Str×Tok×Addr)=>p.1=q.1/\CTup K q.2.2 (p.2.map V.str)) tb rows)(x:Str) :
  (tb.lookup x=none/\valueAt (rows.map fun q=>((Sum.inr q.1:Key),Value.ref q.2.2)) (Sum.inr x)=none)\/∃ ks a,tb.lookup x=some ks/\CTup K a (ks.map V.str)/\valueAt (rows.map fun q=>((Sum.inr q.1:Key),Value.ref q.2.2)) (Sum.inr x)=some (.ref a):=by
 induction h with
 | nil=>exact .inl ⟨rfl,rfl⟩
 | @cons p q ps qs hq t ih =>
  obtain⟨p1,p2⟩:=p;obtain⟨q1,qt,qa⟩:=q;obtain⟨e,c⟩:=hq;dsimp only at e c;subst e;by_cases z:x=p1
  .subst z;refine .inr ⟨p2,qa,by simp[List.lookup],c,?_⟩;simp[valueAt]
  .have z1:(x == p1)=false:=by simpa using z
   have z2:¬ p1=x:=fun w=>z w.symm;have e1:List.lookup x ((p1,p2)::ps)=List.lookup x ps:=by simp[List.lookup,z1]
   have e2:valueAt (((p1,qt,qa)::qs).map fun q=>((Sum.inr q.1:Key),Value.ref q.2.2)) (Sum.inr x)=valueAt (qs.map fun q=>((Sum.inr q.1:Key),Value.ref q.2.2)) (Sum.inr x):=by
    simp[valueAt,z2]
   rw[e1,e2];exact ih
theorem tN{P : Program}{w : World} : ∀ (rows : List (Str×Tok×Addr)), Pairs (cx P w) (rows.map (entC w)) (rows.map fun q=>((Sum.inr q.1 : Key), Value.ref q.2.2))
  | []=>.nil
  | q :: rows => by
    rw[aL,aL];exact .cons (oH P w q.1 q.2.1) rfl (tN rows)
theorem CDat.dict{P:Program}{w:World}{K:W.Frag}{h:Heap}{a:Addr}{tb:List (Str×List Str)}(c:CDat K w a tb)(hk:K.In h):∃ vs,h.DictOf (cx P w) a vs /\
  ∀ x,(tb.lookup x=none/\valueAt vs (Sum.inr x)=none)\/∃ ks b,tb.lookup x=some ks/\CTup K b (ks.map V.str)/\valueAt vs (Sum.inr x)=some (.ref b):=by
 obtain⟨hs,nd,rows,ep,hl,pr⟩:=c;refine⟨rows.map fun q=>((Sum.inr q.1:Key),Value.ref q.2.2),⟨_,_,ep,hk a _ hl,⟨rfl,rfl,rfl⟩,rfl,?_,by simpa using tN rows,?_⟩,Zqj pr⟩
 .intro e he;have he:e∈rows.map (entC w):=by simpa using he
  obtain⟨q,hq,rfl⟩:=aT.mp he;exact⟨.inr q.1,oH P w q.1 q.2.1,rfl⟩
 .have e:rows.map (·.1)=tb.map (·.1):=by
   clear hl nd
   induction pr with
   | nil=>rfl
   | cons hq t ih=>rw[aL,aL,ih,hq.1]
  rw[fA];have:(rows.map (·.1)).Nodup:=e▸nd;have e2:rows.map ((fun x:Key×Value=>x.1) ∘ fun q:Str×Tok×Addr=>((Sum.inr q.1:Key),Value.ref q.2.2))=(rows.map (·.1)).map Sum.inr:=by rw[fA];rfl
  rw[e2];exact List.Pairwise.map _ (fun a b z z'=>z (Sum.inr.inj z')) this
def IsCD(K:W.Frag)(w:World)(mg:Str->Option Value)(x:Str)(tb:List (Str×List Str)):Prop:=∃ a,mg x=some (.ref a)/\CDat K w a tb
def tCD(K:W.Frag)(w:World)(tb:List (Str×List Str)):TE:=fun _ H Q=>∀ a,CDat K w a tb->Q (.ref a) H
def rInCD(K:W.Frag)(w:World)(tb:List (Str×List Str)):R2:=fun x y H Q=>∃ a k,x=.str k/\y=.ref a/\CDat K w a tb/\Q (.bl (tb.lookup k).isSome) H
def vh(K:W.Frag)(w:World)(tb:List (Str×List Str)):R2:=fun x y H Q=>∃ a k,x=.str k/\y=.ref a/\CDat K w a tb/\Q (.bl (!(tb.lookup k).isSome)) H
def tL(K:W.Frag)(w:World)(tb:List (Str×List Str))(td ty:TE):TE:=fun Z H Q=>td Z H fun x H1=>ty Z H1 fun y H2=>∃ a k ks,x=.ref a/\CDat K w a tb/\y=.str k/\tb.lookup k=some ks/\∀ b,(∀ H',SqT K H' b (ks.map V.str))->Q (.ref b) H2
section
variable{X:Cx}{o i e value:Expr}{pos pos' tpos:Pos}{td ty tv:TE}{x:Str}{K:W.Frag}{w:World}{tb:List (Str×List Str)}
theorem j4(hg:Gl X x)(h:IsCD K w X.mg x tb)(hd:(x == ("__debug__":Str))=false:=by decide):PE X (.Name x pos) (tCD K w tb):=by
 obtain⟨a,h,r⟩:=h;intro pins s Z H Q I q;exact pi (v:=.ref a) hg h rfl hd pins s Z H Q I (q a r)
theorem ZpF(hK:X.K=K)(hw:X.w=w):OpR X (compareOp .In) (rInCD K w tb):=by
 subst hK;subst hw;intro pins s Z H x y v u Q I rx ry h;obtain⟨a,k,rfl,rfl,c,q⟩:=h;obtain rfl:u=Value.ref a:=ry;obtain⟨vs,dd,hf⟩:=c.dict (P:=X.prog) I.kIn;refine wpAny_in_of (gU (k:=Sum.inr k) rx) c.1 dd.mapOf ?_;refine⟨.bl (tb.lookup k).isSome,H,I.tok _,?_,q⟩;rcases hf k with ⟨e1,e2⟩|⟨ks,b,e1,_,e2⟩
 .rw[e1,e2];rfl
 .rw[e1,e2];rfl
theorem Znw(hK:X.K=K)(hw:X.w=w):OpR X (compareOp .NotIn) (vh K w tb):=by
 subst hK;subst hw;intro pins s Z H x y v u Q I rx ry h;obtain⟨a,k,rfl,rfl,c,q⟩:=h;obtain rfl:u=Value.ref a:=ry;obtain⟨vs,dd,hf⟩:=c.dict (P:=X.prog) I.kIn;refine wpAny_notIn_of (gU (k:=Sum.inr k) rx) c.1 dd.mapOf ?_;refine⟨.bl (!(tb.lookup k).isSome),H,I.tok _,?_,q⟩;rcases hf k with ⟨e1,e2⟩|⟨ks,b,e1,_,e2⟩
 .rw[e1,e2];rfl
 .rw[e1,e2];rfl
theorem rm(hK:X.K=K)(hw:X.w=w)(ho:PE X o td)(hi:PE X i ty)(hs:NoSl i):PE X (.Subscript o i pos) (tL K w tb td ty):=by
 subst hK;subst hw;intro pins s Z H Q I h;refine xg PySem.F.slot_dict_getitem.lookup hs (thn (ho pins s Z H _ I h) fun u s1 ⟨x,H1,I1,rx,q1⟩=>thn (hi pins s1 Z H1 _ I1 q1) fun iv s2 ⟨y,H2,I2,ry,a,k,ks,ex,c,ey,l,q2⟩=>?_);subst ex;subst ey;obtain rfl:u=Value.ref a:=rx;obtain⟨vs,dd,hf⟩:=c.dict (P:=X.prog) I2.kIn;refine⟨dd.typeIs,?_⟩;rcases hf k with ⟨e1,e2⟩|⟨ks',b,e1,ct,e2⟩
 .rw[l] at e1;cases e1
 .rw[l] at e1;cases e1;exact wpAny_getItem_of (gU (k:=Sum.inr k) ry) dd.mapOf e2 ⟨.ref b,H2,I2.tok _,rfl,q2 b fun H'=>ct.sq H'⟩
end
end L2
end
section
namespace L2
open PySem
inductive Rw where
 | put (p n:Int)|copy (p q:Int)|plus (p q r:Int)|less (p q r:Int)|times (p q n:Int)|take (p:Int)|tell (p:Int)|jump (t:Int)|zero (p t:Int)|below (p t:Int)|call (p f:Int) (qs:List Int)|back (p:Int)
noncomputable def Rw.row:Rw->Str×List D
 | .put p n=>("put",[.int p,.int n])
 | .copy p q=>("copy",[.int p,.int q])
 | .plus p q r=>("plus",[.int p,.int q,.int r])
 | .less p q r=>("less",[.int p,.int q,.int r])
 | .times p q n=>("times",[.int p,.int q,.int n])
 | .take p=>("take",[.int p])
 | .tell p=>("tell",[.int p])
 | .jump t=>("jump",[.int t])
 | .zero p t=>("zero",[.int p,.int t])
 | .below p t=>("below",[.int p,.int t])
 | .call p f qs=>("call",[.int p,.int f,.tup (qs.map D.int)])
 | .back p=>("back",[.int p])
structure Df where
 takes:Int
 boxes:Int
 rows:List Rw
def In0(n m:Int):Prop:=0<=n/\n<m
noncomputable def Rw.Ok(P:List Df)(nb many:Int):Rw->Prop
 | .put p n=>In0 p nb/\n.natAbs<=10^60
 | .copy p q=>In0 p nb/\In0 q nb
 | .plus p q r=>In0 p nb/\In0 q nb/\In0 r nb
 | .less p q r=>In0 p nb/\In0 q nb/\In0 r nb
 | .times p q n=>In0 p nb/\In0 q nb/\n.natAbs<=99
 | .take p=>In0 p nb
 | .tell p=>In0 p nb
 | .jump t=>In0 t many
 | .zero p t=>In0 p nb/\In0 t many
 | .below p t=>In0 p nb/\In0 t many
 | .call p f qs=>In0 p nb/\(∃ d,0<=f/\P[f.toNat]?=some d/\(qs.length:Int)=d.takes)/\∀ q∈qs,In0 q nb
 | .back p=>In0 p nb
noncomputable def Rw.last:Rw->Prop
 | .jump _=>True
 | .back _=>True
 | _=>False
structure DfOk(P:List Df)(d:Df):Prop where
 b:1<=d.boxes/\d.boxes<=1000
 t:0<=d.takes/\d.takes<=d.boxes
 n:d.rows.length<=1000
 rows:∀ r∈d.rows,r.Ok P d.boxes d.rows.length
 last:∃ r,d.rows[d.rows.length-1]?=some r/\r.last
def PgOk(P:List Df):Prop:=P≠[]/\P.length<=1000/\∀ d∈P,DfOk P d
inductive En where
 | back (n:Int)|dry (f at':Int)|deep (f at':Int)
noncomputable abbrev Fr:=Int×Int×List Int
structure HS where
 frames:List Fr
 left:List Int
 news:List Int
 gone:Int
 fin:Option En
noncomputable def cr(P:List Df)(f at':Int):Option Rw:=(P[f.toNat]?).bind fun d=>d.rows[at'.toNat]?
noncomputable def setAt(bx:List Int)(p v:Int):List Int:=bx.set p.toNat v
end L2
end
section
namespace L2
open PySem
noncomputable abbrev FZ:=(Addr×Addr)×Fr
end L2
end
section
namespace L2
open PySem
section
variable{kp own:List Addr}{H0 H H':Hp}
theorem apart{own own' oth:List Addr}(new:∀ x∈own',x∈own\/H x=none)(d:∀ x∈oth,x∉own)(al:∀ x∈oth,H x≠none):∀ x∈oth,x∉own':=fun x hx m=>by
 rcases new x m with h|h
 .exact d x hx h
 .exact al x hx h
end
end L2
end
section
namespace L2
open PySem PySem.Spec PyProof.Rows
def Seqs(H:Hp)(x y:V)(xs ys:List V):Prop:=∃ a b,x=.ref a/\y=.ref b/\((H a=some (.tup xs)/\H b=some (.tup ys))\/(H a=some (.lst xs)/\H b=some (.lst ys)))
noncomputable def simV:V->Prop
 | .byt _=>False
 | .flt _=>False
 | .ty _=>False
 | _=>True
noncomputable def Alike(H:Hp):Nat->V->V->Prop
 | 0,x,y=>x=y/\simV x
 | n+1,x,y=>(x=y/\simV x)\/∃ xs ys,Seqs H x y xs ys/\xs.length=ys.length/\∀ (j:Nat) (u v:V),xs[j]?=some u->ys[j]?=some v->Alike H n u v
theorem Alike.up{H : Hp} : ∀ {n : Nat} {x y : V}, Alike H n x y->Alike H (n+1) x y
  | 0, x, y, h=>.inl h
  | n + 1, x, y, h => by
    rcases h with h|⟨xs,ys,s,l,k⟩
    . exact .inl h
    . exact .inr ⟨xs, ys, s, l, fun j u v e1 e2=>(k j u v e1 e2).up⟩
theorem Alike.le{H:Hp}{n m:Nat}{x y:V}(h:Alike H n x y)(l:n<=m):Alike H m x y:=by
  induction m with
  | zero => obtain rfl : n = 0 := by lia
            exact h
  | succ m ih =>
    by_cases e:n=m+1
    . subst e; exact h
    . exact(ih (by lia)).up
theorem Alike.refl{H:Hp}(n:Nat){x:V}(f:simV x):Alike H n x x:=Alike.le (n:=0) ⟨rfl,f⟩ (cb _)
section
variable{X:Cx}{pins:List (Addr×Obj)}{Z:St}{H:Hp}{s:Shared}
theorem lS{xs:List V}{its:List Value}(vx:Vals xs its){j:Nat}(h:j<its.toArray.size):∃ x,xs[j]?=some x/\RelV x its.toArray[j]:=by
 have l1:=vx.length;have h':j<its.length:=by simpa using h
 have e1:xs[j]?=some (xs[j]'(by lia)):=ay _;obtain⟨u1,z1,w1⟩:=vx.get e1;have y1:its.toArray[j]=u1:=by
  have:its[j]?=some its[j]:=ay h';rw[z1] at this;simpa using (Option.some.inj this).symm
 exact⟨_,e1,by rw[y1];exact w1⟩
theorem xM(I:Inv X pins Z H s){A:Around}{a b:Addr}{xs ys:List V}(h:(H a=some (.tup xs)/\H b=some (.tup ys))\/(H a=some (.lst xs)/\H b=some (.lst ys)))(hl:xs.length=ys.length)(hu:A.units<cLine)
  (k:∀ (j:Nat) (u v:V) (u' v':Value),xs[j]?=some u->ys[j]?=some v->RelV u u'->RelV v v'->SeqAt.EqAt A.in1 s u' v' true):SeqAt.RcAt A s (.ref a) (.ref b) true:=by
 rcases h with ⟨ha,hb⟩|⟨ha,hb⟩
 .obtain ⟨its,vx,ht⟩:=I.isTup ha;obtain ⟨its',vy,ht'⟩:=I.isTup hb;have l1:=vx.length;have l2:=vy.length;have key:=SeqAt.RcAt.tuples (A:=A) (e:=fun _=>true) ht ht' hu fun j j1 j2=>by
   obtain⟨x,e1,r1⟩:=lS vx j1;obtain⟨y,e2,r2⟩:=lS vy j2;exact k j x y _ _ e1 e2 r1 r2
  have e:((List.range (min its.toArray.size its'.toArray.size)).all (fun _=>true)&&its.toArray.size == its'.toArray.size)=true:=by
   simp;lia
  rw[e] at key;exact key
 .obtain ⟨its,vx,ht,_⟩:=I.list (SqL.of ha);obtain ⟨its',vy,ht',_⟩:=I.list (SqL.of hb);have l1:=vx.length;have l2:=vy.length;have key:=SeqAt.RcAt.lists (A:=A) (e:=fun _=>true) ht.isList ht'.isList (by simp;lia) hu fun j j1 j2=>by
   obtain⟨x,e1,r1⟩:=lS vx j1;obtain⟨y,e2,r2⟩:=lS vy j2;exact k j x y _ _ e1 e2 r1 r2
  have e:(List.range its.toArray.size).all (fun _=>true)=true:=by simp
  rw[e] at key;exact key
theorem Zka(I:Inv X pins Z H s):∀ (n:Nat) {x y:V} {u v:Value} {A:Around},Alike H n x y->RelV x u->RelV y v->A.units+n<cLine->SeqAt.EqAt A s u v true:=by
 have flat:∀ {x:V} {u v:Value} {A:Around},simV x->RelV x u->RelV x v->SeqAt.EqAt A s u v true:=by
  intro x u v A f ru rv;cases x with
  | non=>cases ru;cases rv;exact SeqAt.EqAt.same _
  | bl b=>cases ru;cases rv;exact SeqAt.EqAt.same _
  | int i =>
   obtain⟨t,rfl⟩:=ru;obtain⟨t',rfl⟩:=rv;have:=rX (A:=A) (s:=s) i t i t';simpa using this
  | str i =>
   obtain⟨t,rfl⟩:=ru;obtain⟨t',rfl⟩:=rv;have:=rY (A:=A) (s:=s) i t i t';simpa using this
  | ref a=>cases ru;cases rv;exact SeqAt.EqAt.same _
  | _=>cases f
 intro n
 induction n with
 | zero =>
  rintro x y u v A ⟨rfl,f⟩ ru rv hu;exact flat f ru rv
 | succ n ih =>
  rintro x y u v A h ru rv hu;rcases h with ⟨rfl,f⟩|⟨xs,ys,⟨a,b,rfl,rfl,h⟩,hl,k⟩
  .exact flat f ru rv
  .cases ru;cases rv;by_cases hab:a=b
   .subst hab;exact SeqAt.EqAt.same _
   .exact yu hab (xM I h hl (by lia) fun j u v u' v' e1 e2 r1 r2=>ih (k j u v e1 e2) r1 r2 (by show A.units+1+n<cLine;lia))
def rEqA:R2:=fun x y H Q=>∃ xs ys,Seqs H x y xs ys/\xs.length=ys.length/\(∀ (j:Nat) (u v:V),xs[j]?=some u->ys[j]?=some v->Alike H 40 u v)/\Q (.bl true) H
theorem op_eqA(hu:X.A.units+64<cLine):OpR X (compareOp .Eq) rEqA:=by
 rintro pins s Z H x y v u Q I rx ry ⟨xs,ys,⟨a,b,rfl,rfl,h⟩,hl,k,q⟩;cases rx;cases ry;have key:=xM (A:=X.A) I h hl (by lia) fun j u v u' v' e1 e2 r1 r2=>Zka I 40 (k j u v e1 e2) r1 r2 (by show X.A.units+1+40<cLine;lia);exact key _ _ _ _ (bH I q rfl)
end
section
variable{H:Hp}
def tf(H:Hp)(n:Nat)(x y:V):Prop:=∃ xs ys,Seqs H x y xs ys/\xs.length=ys.length/\∀ (j:Nat) (u v:V),xs[j]?=some u->ys[j]?=some v->Alike H n u v
theorem rd_eqA{x y:V}{Q:VK}(h:tf H 40 x y)(q:Q (.bl true) H):rEqA x y H Q:=by
 obtain⟨xs,ys,s,l,k⟩:=h;exact⟨xs,ys,s,l,k,q⟩
end
end L2
end
section
namespace L2
open PySem
theorem Zna{K:W.Frag}{H:Hp}{p:Addr}{ys:List V}{Q:VK}(h:SqT K H p ys)(q:Q (.int ys.length) H):rLen K [.ref p] H Q:=⟨_,_,rfl,.inr ⟨ys,h,rfl⟩,q⟩
end L2
end
section
namespace HT
open PySem PySem.Spec PyProof.Rows L2
section
variable{prog:Program}{w:World}{A:Around}{E:Value->Shared->Prop}{s:Shared}
theorem cat_tup0{t b:Addr}{vs ws:List Value}{Q:Value->Shared->Prop}(ht:IsTup s.heap t vs.toArray)(hb:IsTup s.heap b ws.toArray)(hv:vs=[])(h1:Q (.ref b) s):wpAny (model prog w) A (binaryOp .Add (.ref t) (.ref b)) Q E s:=by
 obtain⟨⟨cls,dd,data,sl⟩,ho,hc,n,hd⟩:=id ht;obtain⟨⟨cls2,dd2,data2,sl2⟩,ho2,hc2,n2,hd2⟩:=id hb;simp only at hc hd hc2 hd2;subst hc hd hc2 hd2;exact concat_meets ⟨_,ho,rfl⟩ ⟨_,ho2,rfl⟩ rV seq_tuple_add PySem.F.slot_tuple_add PySem.F.entry_tuple_add (PySem.F.args_tuple_add_2 _ _) (tuple_addW0 t b vs.toArray ws.toArray n n2 dd dd2 sl sl2 (by simp[hv])) ⟨ho,ho2,h1⟩
theorem getItem_tuple_all{t sl:Addr}{items:Array Value}{vl vu:Value}{lo hi:Option Int}{Q:Value->Shared->Prop}(ht:IsTup s.heap t items)(hs:s.heap.IsSliceOf sl vl vu .none)(pl:IsPart vl lo)(pu:IsPart vu hi)
  (hw:sIx items.size 0 lo=0/\sIx items.size items.size hi=items.size) (h:Q (.ref t) s):wpAny (model prog w) A (getItem (.ref t) (.ref sl)) Q E s:=by
 obtain⟨os,hos,hcs,hds⟩:=id hs;have hTs:s.TypeIs (.ref sl) "slice":=⟨os,hos,hcs⟩;unfold getItem
 try with_reducible refine eL ?_
 first|refine ab (am ?_)|skip
 refine ab (wpAny_sequenceKey ht.typeIs (by decide) ?_);refine ab (iu (name:=Str.ofString "__getitem__") ht.typeIs jI
  (eC jI ht.typeIs entry_tuple_getitem ?_ (args_tuple_getitem _ _)))
 show wpAny _ _ (Builtin.Tuple.tupleItemsOf (.ref t) >>= _) _ _ s;refine ab (tupleItemsOf_ ht ?_);refine ab (lb hTs ?_);rw[ak (by decide)];refine ab (yk hs pl pu ?_);have hyes:((((sIx items.size 0 lo:Nat):Int) == 0&&(1:Int) == 1&&(sIx items.size items.size hi-sIx items.size 0 lo) == items.size)=true):=by
  rw[hw.1,hw.2];simp
 show wpAny _ _ (if (((sIx items.size 0 lo:Nat):Int) == 0&&(1:Int) == 1&&(sIx items.size items.size hi-sIx items.size 0 lo) == items.size)=true then _ else _) _ _ s;rw[ak hyes];refine ab ?_;refine ab ?_;refine lb ht.typeIs (am ?_);rw[ak (by decide)];exact ab (gN (am ⟨_,rfl,am h⟩))
end
end HT
namespace L2
open PySem PySem.Spec PyProof.Rows
section
variable{X:Cx}{K:W.Frag}
noncomputable def rSlW(K:W.Frag):V->Option Int->Option Int->Hp->VK->Prop:=fun x lo hi H Q=>∃ a xs,x=.ref a/\SqT K H a xs/\(cutV xs lo hi=xs->Q (.ref a) H)/\∀ p,H p=none->Q (.ref p) (upd H p (.tup (cutV xs lo hi)))
theorem Zo8:SlR X (rSlW X.K):=by
 intro pins s Z H x v vl vu lo hi sl Q I rx hs pl pu h;obtain⟨a,xs,rfl,hx,q1,q⟩:=h;by_cases hw:HT.sIx xs.length 0 lo=0/\HT.sIx xs.length xs.length hi=xs.length
 .cases rx;obtain ⟨its,r,ht,hz⟩:=I.tuple hx;have hlen:its.toArray.size=xs.length:=by rw[bL];exact r.length.symm
  refine⟨"tuple",_,jI.lookup,ht.typeIs,?_⟩;refine HT.getItem_tuple_all ht hs pl pu (by rw[hlen];exact hw) ?_;refine⟨.ref a,H,I,rfl,q1 ?_⟩;unfold cutV;rw[hw.1,hw.2];simp
 .exact sl_tup pins s Z H _ v vl vu lo hi sl Q I rx hs pl pu ⟨a,xs,rfl,hx,hw,q⟩
theorem fq(h:X.K=K):SlR X (rSlW K):=h▸Zo8
def lQ(K:W.Frag):R2:=fun x y H Q=>∃ a b xs ys,x=.ref a/\y=.ref b/\SqT K H a xs/\SqT K H b ys/\xs.length+ys.length<=sizeLine /\
 (xs=[]->Q (.ref b) H)/\(ys=[]->Q (.ref a) H)/\∀ p,H p=none->Q (.ref p) (upd H p (.tup (xs++ys)))
theorem ZpG:OpR X (binaryOp .Add) (lQ X.K):=by
 intro pins s Z H x y v u Q I rx ry h;obtain⟨a,b,xs,ys,rfl,rfl,ha,hb,hz,q0,q1,q2⟩:=h;by_cases hx:xs=[]
 .cases rx;cases ry;obtain⟨its,r1,p1,_⟩:=I.tuple ha;obtain⟨its2,r2,p2,_⟩:=I.tuple hb;exact HT.cat_tup0 p1 p2 (r1.nil_iff.mpr hx) ⟨.ref b,H,I,rfl,q0 hx⟩
 .exact ZpH pins s Z H _ _ v u Q I rx ry ⟨a,b,xs,ys,rfl,rfl,ha,hb,hx,hz,q1,fun _=>q2⟩
theorem gR(h:X.K=K):OpR X (binaryOp .Add) (lQ K):=h▸ZpG
end
theorem rd_slW{K:W.Frag}{H:Hp}{a:Addr}{xs:List V}{lo hi:Option Int}{Q:VK}(h:H a=some (.tup xs))(q:∀ p H',H' p=some (.tup (cutV xs lo hi))->Same H H'->Q (.ref p) H'):rSlW K (.ref a) lo hi H Q :=
 ⟨a,xs,rfl,SqT.of h,fun e=>q a H (by rw[e];exact h) (Same.refl _),fun p hp=>q p _ bJ (Same.new hp)⟩
theorem Zpk{K:W.Frag}{H:Hp}{a b:Addr}{xs ys:List V}{Q:VK}(h1:H a=some (.tup xs))(h2:H b=some (.tup ys))(hz:xs.length+ys.length<=1000000)(q:∀ p H',H' p=some (.tup (xs++ys))->Same H H'->Q (.ref p) H'):lQ K (.ref a) (.ref b) H Q :=
 ⟨a,b,xs,ys,rfl,rfl,SqT.of h1,SqT.of h2,ja hz,fun e=>q b H (by rw[e];exact h2) (Same.refl _),fun e=>q a H (by rw[e,dW];exact h1) (Same.refl _),fun p hp=>q p _ bJ (Same.new hp)⟩
section
variable{X:Cx}{pos:Pos}
def gLst(K:W.Frag)(n:Nat)(t:TGs):TG:=fun v Z H Q=>∃ a xs,v=.ref a/\SqL K H a xs/\xs.length=n/\t xs Z H Q
theorem Zn1{prog:Program}{w:World}{A:Around}{E:Value->Shared->Prop}{s:Shared}{env:Env}{elts:List Expr}{k:Nat}{t:Addr}{items:Array Value}{Q:Unit->Shared->Prop}(hh:A.handled=none)(ht:s.heap.IsList t items)
  (hn:(assignEach elts env).length=items.size) (hstar:(assignEach elts env).findIdx? (·.1)=none)
  (h:∀ h',Heap.ExtBut s.heap.objs.size s.heap h'->wpAny (model prog w) A (assignInOrder ((assignEach elts env).map (·.2)) items.toList) Q E { s with heap:=h' }) :
  wpAny (model prog w) A (assign (.Tuple elts k pos) env (.ref t)) Q E s:=by
 rw[arm_assign_Tuple];refine ab (nc ?_);unfold unpack;rw[hn,hstar];exact ab (eL (PySem.W.kun_itemsOf hh ht h))
theorem pg_lst{es:List Expr}{k:Nat}{t:TGs}{n:Nat}(hc:X.calm=true)(h:PGs X es t)
  (hn:(assignEach es X.env).length=n:=by rfl) (hst:(assignEach es X.env).findIdx? (·.1)=none:=by rfl):PG X (.Tuple es k pos) (gLst X.K n t):=by
 intro pins s Z H v u Q I r hw;obtain⟨a,xs,e1,hq,hl,hw⟩:=hw;subst e1;cases r;obtain⟨its,rv,ht,hz⟩:=I.list hq;refine Zn1 (I.ok.hd hc) ht.isList (by simp[hn,<- hl,rv.length]) hst fun h' hx=>?_;have I1:Inv X pins Z H { s with heap:=h' }:=I.kept (t':=s.toks) fun b o e=>hx b o (bP (ba e)) e;exact h pins _ Z H xs _ Q I1 (by simpa using rv) hw
theorem wk{K:W.Frag}{es:List Expr}{k:Nat}{t:TGs}{n:Nat}(h:X.K=K)(hc:X.calm=true)(hg:PGs X es t)
  (hn:(assignEach es X.env).length=n:=by rfl) (hst:(assignEach es X.env).findIdx? (·.1)=none:=by rfl):PG X (.Tuple es k pos) (gLst K n t):=h▸pg_lst hc hg hn hst
end
section
variable{X:Cx}{pos:Pos}{es:List Expr}{te:TE}{t:TA}
theorem ma{l:List Expr}(ha:PE X (.List l pos) te)(hr:PA X es t):PA X (.List l pos::es) (bC te t):=fM ha hr rfl
theorem bf{l:List Expr}{k:Nat}(ha:PE X (.Tuple l k pos) te)(hr:PA X es t):PA X (.Tuple l k pos::es) (bC te t):=fM ha hr rfl
theorem bM{a b:Expr}{op:Operator}(ha:PE X (.BinOp a op b pos) te)(hr:PA X es t):PA X (.BinOp a op b pos::es) (bC te t):=fM ha hr rfl
theorem aR{f:Expr}{as:List Expr}{ks}(ha:PE X (.Call f as ks pos) te)(hr:PA X es t):PA X (.Call f as ks pos::es) (bC te t):=fM ha hr rfl
theorem dy{e:Expr}{gs}{sc}(ha:PE X (.ListComp e gs sc pos) te)(hr:PA X es t):PA X (.ListComp e gs sc pos::es) (bC te t):=fM ha hr rfl
theorem aB{a b:Expr}(ha:PE X (.Subscript a b pos) te)(hr:PA X es t):PA X (.Subscript a b pos::es) (bC te t):=fM ha hr rfl
theorem bn{x:Str}(ha:PE X (.Name x pos) te)(hr:PA X es t):PA X (.Name x pos::es) (bC te t):=fM ha hr rfl
theorem aj{c:Const}{k:Nat}(ha:PE X (.Constant c k pos) te)(hr:PA X es t):PA X (.Constant c k pos::es) (bC te t):=fM ha hr rfl
theorem wV{a:Expr}{op:UnaryOp}(ha:PE X (.UnaryOp op a pos) te)(hr:PA X es t):PA X (.UnaryOp op a pos::es) (bC te t):=fM ha hr rfl
theorem qk{a b c:Expr}(ha:PE X (.IfExp a b c pos) te)(hr:PA X es t):PA X (.IfExp a b c pos::es) (bC te t):=fM ha hr rfl
theorem Znv{a:Expr}{os:List CmpOp}{cs:List Expr}(ha:PE X (.Compare a os cs pos) te)(hr:PA X es t):PA X (.Compare a os cs pos::es) (bC te t):=fM ha hr rfl
theorem kz{l:List Expr}{p:Pos}{i:Nat}{x:Str}{pos':Pos}(hN:X.N.Nodup)(hi:X.N[i]?=some x)(hx:Loc X.env.scope x)(he:PE X (.List l p) te)(hf:X.fn x=true\/X.env.scope.names.lookup x=some .local:=by first|exact .inl rfl|exact .inr rfl|assumption):PS X (.Assign [.Name x pos'] (.List l p) pos) (tAsg te (eK i)):=cO hN hi hx he rfl hf
theorem rb{l:List Expr}{k:Nat}{p:Pos}{i:Nat}{x:Str}{pos':Pos}(hN:X.N.Nodup)(hi:X.N[i]?=some x)(hx:Loc X.env.scope x)(he:PE X (.Tuple l k p) te)(hf:X.fn x=true\/X.env.scope.names.lookup x=some .local:=by first|exact .inl rfl|exact .inr rfl|assumption):PS X (.Assign [.Name x pos'] (.Tuple l k p) pos) (tAsg te (eK i)):=cO hN hi hx he rfl hf
theorem dB{a b:Expr}{op:Operator}{p:Pos}{i:Nat}{x:Str}{pos':Pos}(hN:X.N.Nodup)(hi:X.N[i]?=some x)(hx:Loc X.env.scope x)(he:PE X (.BinOp a op b p) te)(hf:X.fn x=true\/X.env.scope.names.lookup x=some .local:=by first|exact .inl rfl|exact .inr rfl|assumption):PS X (.Assign [.Name x pos'] (.BinOp a op b p) pos) (tAsg te (eK i)):=cO hN hi hx he rfl hf
theorem bI{f:Expr}{as:List Expr}{ks}{p:Pos}{i:Nat}{x:Str}{pos':Pos}(hN:X.N.Nodup)(hi:X.N[i]?=some x)(hx:Loc X.env.scope x)(he:PE X (.Call f as ks p) te)(hf:X.fn x=true\/X.env.scope.names.lookup x=some .local:=by first|exact .inl rfl|exact .inr rfl|assumption):PS X (.Assign [.Name x pos'] (.Call f as ks p) pos) (tAsg te (eK i)):=cO hN hi hx he rfl hf
theorem cL{a b:Expr}{p:Pos}{i:Nat}{x:Str}{pos':Pos}(hN:X.N.Nodup)(hi:X.N[i]?=some x)(hx:Loc X.env.scope x)(he:PE X (.Subscript a b p) te)(hf:X.fn x=true\/X.env.scope.names.lookup x=some .local:=by first|exact .inl rfl|exact .inr rfl|assumption):PS X (.Assign [.Name x pos'] (.Subscript a b p) pos) (tAsg te (eK i)):=cO hN hi hx he rfl hf
end
end L2
end
section
namespace L3
open PySem Builtin Builtin.Str
section
variable{prog:Program}{w:World}{A:Around}{E:Value->Shared->Prop}{s:Shared}
theorem nextT{it t:Addr}{i:Nat}{items:Array Value}{x:Value}{Q:Value->Shared->Prop}(hit:s.heap.IsTupleIter it t i)(ht:s.heap.IsTuple t items)(hx:items[i]?=some x)
  (hQ:∀ h',h'.IsTupleIter it t (i+1)->Heap.SameBut it s.heap h'->Q x { s with heap:=h' }):wpAny (model prog w) A (Builtin.SmallTypes.nextOf (.ref it)) Q E s:=by
 obtain⟨o,ho,hc,hd⟩:=id hit;obtain⟨ol,hol,_,nl,hdl⟩:=ht;unfold Builtin.SmallTypes.nextOf;refine ab (iu (name:=Str.ofString "__next__") hit.typeIs F.slot_tuple_iterator_next (eC F.slot_tuple_iterator_next hit.typeIs F.entry_tuple_iterator_next ?_ (F.args_tuple_iterator_next_1 _)));show wpAny _ _ (field (.ref it) 0 >>= _) _ _ s;refine ab (cP ho hd (x:=.ref t) rfl ?_);show wpAny _ _ (if (Value.ref t == Value.none)=true then _ else _) _ _ s;rw[ao (show ¬ ((Value.ref t == Value.none)=true) from bF)];show wpAny _ _ (field (.ref it) 1 >>= _) _ _ s;refine ab (cP ho hd (x:=.int i 0) rfl ?_);show wpAny _ _ (seqItems? (.ref t) >>= _) _ _ s;refine ab (gx hol hdl ?_);simp only[bB,hx];refine ab (lv ho hd (by simp) (am ⟨x,rfl,am (hQ _ ?_ (Heap.SameBut.update ..))⟩));exact⟨_,jJ _ ho (Obj.isFreed_of_fields (nB hd _)),(Obj.cls_mapFields ..).trans hc,by rw[nB hd];simp[rawInt]⟩
theorem ZlC{it t:Addr}{i:Nat}{items:Array Value}{Q:Value->Shared->Prop}(hh:A.handled=none)(hit:s.heap.IsTupleIter it t i)(ht:s.heap.IsTuple t items)(hx:items[i]?=none)
  (hE:∀ h' e,Heap.ExtBut it s.heap h'->(∃ o,h'.get? e=some o/\o.cls=.type "StopIteration")->E (.ref e) { s with heap:=h' }):wpAny (model prog w) A (Builtin.SmallTypes.nextOf (.ref it)) Q E s:=by
 obtain⟨o,ho,hc,hd⟩:=id hit;obtain⟨ol,hol,_,nl,hdl⟩:=ht;unfold Builtin.SmallTypes.nextOf;refine ab (iu (name:=Str.ofString "__next__") hit.typeIs F.slot_tuple_iterator_next (eC F.slot_tuple_iterator_next hit.typeIs F.entry_tuple_iterator_next ?_ (F.args_tuple_iterator_next_1 _)));show wpAny _ _ (field (.ref it) 0 >>= _) _ _ s;refine ab (cP ho hd (x:=.ref t) rfl ?_);show wpAny _ _ (if (Value.ref t == Value.none)=true then _ else _) _ _ s;rw[ao (show ¬ ((Value.ref t == Value.none)=true) from bF)];show wpAny _ _ (field (.ref it) 1 >>= _) _ _ s;refine ab (cP ho hd (x:=.int i 0) rfl ?_);show wpAny _ _ (seqItems? (.ref t) >>= _) _ _ s;refine ab (gx hol hdl ?_);simp only[bB,hx];refine ab (gN (ab (lv ho hd (by simp) ?_)));show wpAny _ _ (newExc (.type "StopIteration") [] >>= _) _ _ _;refine ab ?_;simp only[newExc,newTuple];refine ab (eD ?_ (by size_fits));refine ab (m:=firstArgMember _ _) (wpAny_of_eq (a:=Value.none) (by first|rfl|(simp only[firstArgMember];rfl)) ?_);refine eD ?_ (by size_fits);simp only[raiseNew];refine ab (wpAny_handled ?_)
 first|rw[show A.in1.handled=none from hh]|rw[hh]
 refine ab (am (wpAny_throw ?_));exact hE _ _ (((Heap.SameBut.update ..).extBut.push _).push _) ⟨_,bQ _ rfl,rfl⟩
end
end L3
end
section
namespace L2
open PySem PySem.Spec PyProof.Rows
section
variable{prog:Program}{w:World}{K:Type}[DecidableEq K]{knd:KeyKind prog w K}{A:Around}{E:Value->Shared->Prop}{s:Shared}
inductive Its2(knd:KeyKind prog w K)(h:Heap):List (List K)->List Value->Prop
 | nil:Its2 knd h [] []
 | cons {k:List K} {a:Addr} {ks:List (List K)} {vs:List Value}:IsTupleKey knd h k a->Its2 knd h ks vs->Its2 knd h (k::ks) (.ref a::vs)
def Is2(knd:KeyKind prog w K)(h:Heap)(ks:List (List K))(a:Addr):Prop:=∃ o items n,h.get? a=some o/\o.cls=.type "tuple"/\o.data=.seq items n/\Its2 knd h ks items.toList
theorem Its2.inj{h:Heap}{x y:List (List K)}{vs:List Value}(hx:Its2 knd h x vs)(hy:Its2 knd h y vs):x=y:=by
 induction hx generalizing y with
 | nil=>cases hy;rfl
 | cons h1 _ ih =>
  cases hy with
  | cons h2 t2=>rw[h1.inj h2,ih t2]
theorem Is2.typeIs{ks:List (List K)}{a:Addr}(x:Is2 knd s.heap ks a):s.TypeIs (.ref a) "tuple":=let ⟨o,_,_,ho,hc,_⟩:=x;⟨o,ho,hc⟩
theorem Is2.inj{h:Heap}{a:Addr}{x y:List (List K)}(hx:Is2 knd h x a)(hy:Is2 knd h y a):x=y:=by
 obtain⟨o,items,n,ho,_,hd,hi⟩:=hx;obtain⟨o',items',n',ho',_,hd',hi'⟩:=hy;obtain rfl:o=o':=Option.some.inj (ho.symm.trans ho');rw[hd] at hd';injection hd' with h1 _
 subst h1;exact hi.inj hi'
theorem Its2.keeps{h h':Heap}{ks:List (List K)}{vs:List Value}{d:Addr}{o:Obj}{es ep}(x:Its2 knd h ks vs)(ho:h.get? d=some o)(hd:o.data=.dict es ep)(hs:Heap.SameBut d h h'):Its2 knd h' ks vs:=by
 induction x with
 | nil=>exact .nil
 | cons h1 _ ih=>exact .cons (h1.keeps ho hd hs) ih
theorem Is2.keeps{h h':Heap}{ks:List (List K)}{a d:Addr}{o:Obj}{es ep}(x:Is2 knd h ks a)(ho:h.get? d=some o)(hd:o.data=.dict es ep)(hs:Heap.SameBut d h h'):Is2 knd h' ks a:=by
 obtain⟨o',items,n,ho',hc,hd',hi⟩:=x;have hne:a≠d:=by
  rintro rfl;obtain rfl:o'=o:=Option.some.inj (ho'.symm.trans ho);rw[hd] at hd';exact nomatch hd'
 exact⟨o',items,n,(hs.2 a hne).trans ho',hc,hd',hi.keeps ho hd hs⟩
noncomputable def oo(knd:KeyKind prog w K)(ks:List (List K)):Int:=reduceHash (Builtin.Tuple.tupleHashOf (ks.map (tupleKeyHash knd)))
noncomputable def jo(ks:List (List K)):Nat:=(ks.map fun k=>k.length+1).sum
theorem Zng{ks:List (List K)}{a:Addr}{Q:Int->Shared->Prop}(hu:A.units+1<cLine)(hk:Is2 knd s.heap ks a)(h:Q (oo knd ks) { s with toks:=s.toks+(jo ks+1) }) :
  wpAny (model prog w) A (pyHash (.ref a)) Q E s:=by
 have hT:=hk.typeIs;obtain⟨o,items,n,ho,_,hd,hi⟩:=hk;unfold pyHash
 first|unfold pyHashByItsType|skip
 first|refine ab (wpAny_cRoomFor_or (.inr (by lia)) ?_)|skip
 refine ab (lq hT F.slot_tuple_hash.lookup ?_);show wpAny _ _ (if (some (Value.builtin "tuple.__hash__") == some Value.none)=true then _ else _) Q E s;rw[ao (by rw[beq_builtin_none];exact bF)];refine ab (lq hT F.slot_tuple_hash.lookup ?_);show wpAny _ _ (callSpecialIfBoundUnlessNone? (.ref a) "__hash__" _ >>= _) Q E s;refine ab (wpAny_callSpecialIfBoundUnlessNone?_slot hT F.slot_tuple_hash (eC F.slot_tuple_hash hT F.entry_tuple_hash ?_ (F.args_tuple_hash_1 _)));show wpAny _ _ (Builtin.Tuple.tupleItemsOf (.ref a) >>= _) _ _ s;refine ab (lz ho hd ?_);refine ab ?_;rw[<-sk];refine nE _
  (fun rest (b:Array Int) s'=>∃ done left,ks=done++left/\Its2 knd s.heap left rest/\b.toList=done.map (tupleKeyHash knd)/\s'={ s with toks:=s.toks+jo done })
  _ ?_ ?_ _ _ ⟨[],ks,rfl,hi,rfl,rfl⟩
 .rintro x rest b s' ⟨done,left,rfl,hl,hb,rfl⟩;cases hl with
  | @cons k a' ks' _ h1 hl' =>
   have e:jo (done++[k])=jo done+(k.length+1):=by simp[jo]
   refine ab (wpAny_pyHash_tuple (knd:=knd) (by first|exact hu|(show A.units+1<cLine;exact hu)) h1 ?_)
   first
    | exact am ⟨done++[k],ks',by simp,hl',by simp[hb],by simp[e,nF]⟩
    | exact ab (am (am ⟨done++[k],ks',by simp,hl',by simp[hb],by simp[e,nF]⟩))
 .rintro b s' ⟨done,left,rfl,hl,hb,rfl⟩;cases hl;rw[dW] at h;show wpAny _ _ (retInt (Builtin.Tuple.tupleHashOf b.toList)) _ _ _;rw[hb];refine wpAny_ret_mkInt ?_;show wpAny _ _ (if (decide (-(2:Int) ^ 63<=Builtin.Tuple.tupleHashOf (done.map (tupleKeyHash knd))) && decide (Builtin.Tuple.tupleHashOf (done.map (tupleKeyHash knd)) < 2 ^ 63))=true then _ else _) Q E _;unfold oo reduceHash at h;by_cases hr:(decide (-(2:Int) ^ 63<=Builtin.Tuple.tupleHashOf (done.map (tupleKeyHash knd))) && decide (Builtin.Tuple.tupleHashOf (done.map (tupleKeyHash knd)) < 2 ^ 63))=true
  .rw[ak hr];rw[ak hr] at h;exact am (by simpa [nF] using h)
  .rw[ao hr];rw[ao hr] at h;exact ab (gN (am (by simpa [nF] using h)))
theorem ZnO{x y:List (List K)}{a b:Addr}{P:Fin->Shared->Prop}(hu:A.units<cLine)(hx:Is2 knd s.heap x a)(hy:Is2 knd s.heap y b)(h:P (.done (.ret (.bool (decide (x=y))))) s) :
  wpAny (model prog w) A (Builtin.«tuple.__eq__» ⟨[.ref a,.ref b],[]⟩) P E s:=by
 have hTb:=hy.typeIs;obtain⟨oa,xs,na,hoa,_,hda,hia⟩:=hx;obtain⟨ob,ys,nb,hob,_,hdb,hib⟩:=hy;show wpAny _ _ (isInstance (.ref b) (.type "tuple") >>= _) _ _ s;refine ab (i7 hTb nG ?_);simp only[gO,de,cv];refine ab (lz hoa hda ?_);refine ab (lz hob hdb ?_);refine ab ?_;refine nE _
  (fun rest r s'=>r.1=none/\s'=s/\∃ x' y' xs' ys',rest=List.zip xs' ys'/\Its2 knd s.heap x' xs'/\Its2 knd s.heap y' ys'/\decide (x'=y')=decide (x=y)/\(xs'.length == ys'.length)=(xs.size == ys.size))
  _ ?_ ?_ _ _ ⟨rfl,rfl,x,y,xs.toList,ys.toList,rfl,hia,hib,rfl,by simp⟩
 .rintro ⟨u,v⟩ rest r s' ⟨hr,rfl,x',y',xs',ys',hz,hx',hy',hdec,hlen⟩;cases hx' with
  | nil=>simp at hz
  | @cons k1 u' x'' xs'' h1 hx'' =>
   cases hy' with
   | nil=>simp at hz
   | @cons k2 v' y'' ys'' h2 hy'' =>
    simp only[zip_cons_cons,List.cons.injEq,Prod.mk.injEq] at hz;obtain⟨⟨rfl,rfl⟩,rfl⟩:=hz;refine ab (wpAny_eqBool_tuple (knd:=knd) hu h1 h2 ?_);by_cases hk:k1=k2
    .subst hk;rw[aY rfl];simp only[gO,de,cv];refine am ⟨rfl,rfl,x'',y'',xs'',ys'',rfl,hx'',hy'',?_,by simpa using hlen⟩;rw[<-hdec];by_cases hxy:x''=y''
     .simp[hxy]
     .simp[hxy]
    .rw[bo hk];simp only[sr,fQ];have hf:decide (x=y)=false:=by rw[<-hdec];simp[hk]
     rw[hf] at h;exact ab (am (am (am h)))
 .rintro ⟨r1,r2⟩ s' ⟨hr,rfl,x',y',xs',ys',hz,hx',hy',hdec,hlen⟩;simp only at hr;subst hr;refine am ?_;have hfin:(xs.size == ys.size)=decide (x=y):=by
   rw[<-hdec,<- hlen];cases hx' with
   | nil =>
    cases hy' with
    | nil=>simp
    | cons _ _=>simp
   | cons _ _ =>
    cases hy' with
    | nil=>simp
    | cons _ _=>simp at hz
  show P (.done (.ret (.bool (xs.size == ys.size)))) s';rw[hfin];exact h
theorem ZnP{x y:List (List K)}{a b:Addr}{Q:Bool->Shared->Prop}(hu:A.units+1<cLine)(hx:Is2 knd s.heap x a)(hy:Is2 knd s.heap y b)(h:Q (decide (x=y)) s) :
  wpAny (model prog w) A (eqBool (.ref a) (.ref b)) Q E s:=by
 unfold eqBool
 try with_reducible refine eL ?_
 show wpAny _ _ (if (Value.ref a == Value.ref b)=true then _ else _) Q E s;by_cases hab:(Value.ref a == Value.ref b)=true
 .rw[ak hab];have e:a=b:=by have:=eq_of_beq hab;injection this
  subst e;obtain rfl:=hx.inj hy;exact ab (gN (am (by simpa using h)))
 .rw[ao hab];exact ab (wpAny_richCompare_same_room (op:=.Eq) hx.typeIs hy.typeIs F.slot_tuple_eq
   (eC F.slot_tuple_eq hx.typeIs F.entry_tuple_eq (ZnO (by exact hu) hx hy ⟨_,rfl,(fun e=>nomatch e),fP h⟩) (F.args_tuple_eq_2 _ _)) (by lia))
theorem Zpp{n:Nat}{ks:List K}{a:Addr}{Q:Bool->Shared->Prop}(hk:IsTupleKey knd s.heap ks a)(h:Q true s):wpAny (model prog w) A (eqIsQuiet (n+1) (.ref a)) Q E s:=by
 have hT:=hk.typeIs;obtain⟨o,items,m,ho,_,hd,hi⟩:=hk;unfold eqIsQuiet;refine ab (lq hT F.slot_tuple_eq.lookup ?_);show wpAny _ _ (isInstance (.ref a) (.type "tuple") >>= _) _ _ s;refine ab (i7 hT nG ?_);simp only[gO,de,cv];refine ab (gx ho hd ?_);refine ab ?_;show wpAny _ _ (forIn items _ _) _ _ s;rw[<-sk];refine nE _ (fun rest r s'=>r.1=none/\s'=s/\∀ v∈rest,carriedByValue v=true) _ ?_ ?_ _ _ ⟨rfl,rfl,hi.byValue⟩
 .rintro v rest r s' ⟨hr,rfl,hall⟩;rw[eqIsQuiet_byValue _ (hall v aO)];refine ab (am ?_);simp only[gO,de,cv];exact am ⟨rfl,rfl,fun u hu'=>hall u (bw _ hu')⟩
 .rintro ⟨r1,r2⟩ s' ⟨hr,rfl,_⟩;simp only at hr;subst hr;exact am h
theorem Zpo{ks:List (List K)}{a:Addr}{Q:Bool->Shared->Prop}(hk:Is2 knd s.heap ks a)(h:Q true s):wpAny (model prog w) A (eqIsQuiet 8 (.ref a)) Q E s:=by
 have hT:=hk.typeIs;obtain⟨o,items,m,ho,_,hd,hi⟩:=hk;unfold eqIsQuiet;refine ab (lq hT F.slot_tuple_eq.lookup ?_);show wpAny _ _ (isInstance (.ref a) (.type "tuple") >>= _) _ _ s;refine ab (i7 hT nG ?_);simp only[gO,de,cv];refine ab (gx ho hd ?_);refine ab ?_;show wpAny _ _ (forIn items _ _) _ _ s;rw[<-sk];refine nE _ (fun rest r s'=>r.1=none/\s'=s/\∃ ks',Its2 knd s.heap ks' rest) _ ?_ ?_ _ _ ⟨rfl,rfl,ks,hi⟩
 .rintro v rest r s' ⟨hr,rfl,ks',hall⟩;cases hall with
  | cons h1 t1 =>
   refine ab (Zpp (knd:=knd) h1 ?_);simp only[gO,de,cv];exact am ⟨rfl,rfl,_,t1⟩
 .rintro ⟨r1,r2⟩ s' ⟨hr,rfl,_⟩;simp only at hr;subst hr;exact am h
end
noncomputable def kind2{prog:Program}{w:World}{K:Type}[DecidableEq K](knd:KeyKind prog w K):HeapKind prog w (List (List K)) where
 is:=Is2 knd
 hash:=oo knd
 draws:=fun ks=>jo ks+1
 room:=fun A=>A.units+1<cLine
 inj:=fun hx hy=>hx.inj hy
 keeps:=fun x ho hd hs=>x.keeps ho hd hs
 pyHash:=fun hu hk h=>Zng hu hk h
 eqBool:=fun hu hx hy h=>ZnP hu hx hy h
 quiet:=fun hk h=>Zpo hk h
end L2
end
section
namespace L2
open PySem
noncomputable def aZ(t:List (Int×Int))(w:Int):Int:=match t with
 | []=>0
 | q::r=>if q.1=w then q.2 else aZ r w
noncomputable def addT(t:List (Int×Int))(w x:Int):List (Int×Int):=match t with
 | []=>[(w,x)]
 | q::r=>if q.1=w then (q.1,q.2+x)::r else q::addT r w x
theorem vo{t:List (Int×Int)}{w:Int}(h:w∉t.map (·.1)):aZ t w=0:=by
 induction t with
 | nil=>rfl
 | cons q t ih =>
  have h:w∉q.1::t.map (·.1):=h;rw[aJ,bW] at h;rw[aZ,ao (fun e=>h.1 e.symm)];exact ih h.2
theorem ZkL(t:List (Int×Int))(w:Int):(valV (kvT t) (Sum.inl w:Key)).getD (V.int 0)=V.int (aZ t w):=by
 induction t with
 | nil=>rfl
 | cons q t ih =>
  show (valV ((Sum.inl q.1,V.int q.2)::kvT t) (Sum.inl w:Key)).getD _=_;rw[aZ];by_cases e:q.1=w
  .rw[ku (by rw[e]),ak e];rfl
  .rw[ji (fun z=>e (Sum.inl.inj z)),ao e];exact ih
theorem tQ{t:List (Int×Int)}{w:Int}(h:w∈t.map (·.1)):valV (kvT t) (Sum.inl w:Key)=some (V.int (aZ t w)):=by
 induction t with
 | nil=>cases h
 | cons q t ih =>
  show valV ((Sum.inl q.1,V.int q.2)::kvT t) (Sum.inl w:Key)=_;rw[aZ];by_cases e:q.1=w
  .rw[ku (by rw[e]),ak e]
  .rw[ji (fun z=>e (Sum.inl.inj z)),ao e];have h:w∈q.1::t.map (·.1):=h;exact ih ((aJ.mp h).resolve_left fun z=>e z.symm)
theorem qM(t:List (Int×Int))(w x:Int):(addT t w x).map (·.1)=if w∈t.map (·.1) then t.map (·.1) else t.map (·.1)++[w]:=by
 induction t with
 | nil=>simp[addT]
 | cons q t ih =>
  rw[addT];by_cases e:q.1=w
  .rw[ak e,ak (show w∈(q::t).map (·.1) by rw[aL,e];exact aO)];rfl
  .rw[ao e,aL,ih];have hne:¬ w=q.1:=fun z=>e z.symm;by_cases h:w∈t.map (·.1)
   .rw[ak h,ak (show w∈(q::t).map (·.1) by rw[aL];exact bw _ h)];rfl
   .rw[ao h,ao (show ¬ w∈(q::t).map (·.1) by rw[aL,aJ,bW];exact⟨hne,h⟩)];rfl
theorem ZmO(t:List (Int×Int))(w x v:Int):aZ (addT t w x) v=aZ t v+if v=w then x else 0:=by
 induction t with
 | nil =>
  rw[addT,aZ,aZ,aZ];by_cases e:w=v
  .rw[ak e,ak e.symm];lia
  .rw[ao e,ao (fun z=>e z.symm)];lia
 | cons q t ih =>
  rw[addT];by_cases e:q.1=w
  .rw[ak e,aZ,aZ];by_cases ev:q.1=v
   .rw[ak ev,ak ev,ak (by lia)]
   .rw[ao ev,ao ev,ao (by lia)];lia
  .rw[ao e,aZ,aZ];by_cases ev:q.1=v
   .rw[ak ev,ak ev,ao (by lia)];lia
   .rw[ao ev,ao ev];exact ih
theorem x8{t:List (Int×Int)}{w x:Int}(h:(t.map (·.1)).Nodup):((addT t w x).map (·.1)).Nodup:=by
 rw[qM];by_cases e:w∈t.map (·.1)
 .rw[ak e];exact h
 .rw[ao e];exact ua h e
theorem Znk{t:List (Int×Int)}{w x:Int}(h:(t.map (·.1)).Nodup):putK (kvT t) (Sum.inl w:Key) (V.int (aZ t w+x))=kvT (addT t w x):=by
 by_cases e:w∈t.map (·.1)
 .unfold putK;rw[mJ,tQ e];simp only[Option.isSome_some,fQ]
  induction t with
  | nil=>cases e
  | cons q t ih =>
   have h:(q.1::t.map (·.1)).Nodup:=h;obtain⟨h1,h2⟩:=dX.mp h;rw[addT,aZ];by_cases eq:q.1=w
   .rw[ak eq,ak eq];subst eq;unfold kvT;rw[aL,aL,aL,ak rfl]
    congr 1
    rw[fA];refine fS fun q' hq'=>?_;have hne:q'.1≠q.1:=fun z=>h1 (by rw[<-z];exact mem_map_of_mem hq');show (if (Sum.inl q'.1:Key)=Sum.inl q.1 then _ else _)=_;rw[ao (fun z=>hne (Sum.inl.inj z))]
   .rw[ao eq,ao eq];have e':w∈t.map (·.1):=by
     have e:w∈q.1::t.map (·.1):=e;exact(aJ.mp e).resolve_left fun z=>eq z.symm
    have:=ih h2 e';unfold kvT at this ⊢;rw[aL,aL,aL,this,ao (fun z=>eq (Sum.inl.inj z))]
 .rw[vo e,nH,Znj (fun q hq z=>e (by rw[<-z];exact mem_map_of_mem hq))]
  congr 1
  clear h
  induction t with
  | nil=>rfl
  | cons q t ih =>
   have e:w∉q.1::t.map (·.1):=e;rw[aJ,bW] at e;rw[addT,ao (fun z=>e.1 z.symm),<- ih e.2];rfl
noncomputable def bm(t:List (Int×Int))(ps:List (Int×Int))(n:Int):List (Int×Int):=ps.foldl (fun t p=>addT t p.2 (p.1*n)) t
noncomputable def atW(ps:List (Int×Int))(w:Int):Int:=(ps.map fun p=>if p.2=w then p.1 else 0).sum
theorem fJ(ps:List (Int×Int))(n:Int):∀ {t:List (Int×Int)},(t.map (·.1)).Nodup->((bm t ps n).map (·.1)).Nodup:=by
 induction ps with
 | nil=>exact fun h=>h
 | cons p ps ih=>exact fun h=>ih (x8 h)
theorem hX(ps:List (Int×Int))(n w:Int):∀ (t:List (Int×Int)),aZ (bm t ps n) w=aZ t w+atW ps w*n:=by
 induction ps with
 | nil=>intro t;simp[bm,atW]
 | cons p ps ih =>
  intro t;show aZ (bm (addT t p.2 (p.1*n)) ps n) w=_;rw[ih,ZmO];unfold atW;rw[aL,bR,Int.add_mul];by_cases e:w=p.2
  .rw[ak e,ak e.symm];lia
  .rw[ao e,ao (fun z=>e z.symm)];lia
end L2
namespace L2
open PySem
theorem Zn3(t:List (Int×Int))(w x:Int):(addT t w x).length<=t.length+1:=by
 have:=congrArg List.length (qM t w x);rw[af] at this;rw[this];split
 .rw[af];lia
 .rw[aH,af];simp
theorem j0(ps:List (Int×Int))(n:Int):∀ (t:List (Int×Int)),(bm t ps n).length<=t.length+ps.length:=by
 induction ps with
 | nil=>intro t;exact aE _
 | cons p ps ih =>
  intro t;have h1:=ih (addT t p.2 (p.1*n));have h2:=Zn3 t p.2 (p.1*n);show (bm (addT t p.2 (p.1*n)) ps n).length<=_;rw[cz];lia
theorem oY(t ps:List (Int×Int))(p:Int×Int)(n:Int):bm t (ps++[p]) n=addT (bm t ps n) p.2 (p.1*n):=by
 unfold bm;rw[nI];rfl
noncomputable def ci(t:List (Int×Int))(ms:List Int):List (Int×Int):=(ms.filter fun w=>decide (aZ t w≠0)).map fun w=>(aZ t w,w)
end L2
end
section
namespace L2
open PySem
structure Canon(ps:List (Int×Int)):Prop where
 up:ps.Pairwise fun p q=>p.2<q.2
 nz:∀ p∈ps,p.1≠0
theorem gT(p:Int×Int)(ps:List (Int×Int))(w:Int):atW (p::ps) w=(if p.2=w then p.1 else 0)+atW ps w:=by unfold atW;rw[aL,bR]
theorem Zkk(ps qs:List (Int×Int))(w:Int):atW (ps++qs) w=atW ps w+atW qs w:=by
 induction ps with
 | nil=>rw[dL];unfold atW;simp
 | cons p ps ih=>rw[dh,gT,gT,ih];lia
theorem jC{ps:List (Int×Int)}{w:Int}(h:∀ p∈ps,p.2≠w):atW ps w=0:=by
 induction ps with
 | nil=>rfl
 | cons p ps ih =>
  rw[gT,ao (h p aO),ih fun q hq=>h q (bw _ hq)];lia
theorem Canon.tail{p:Int×Int}{ps:List (Int×Int)}(h:Canon (p::ps)):Canon ps:=⟨(lu.mp h.up).2,fun q hq=>h.nz q (bw _ hq)⟩
theorem Canon.head{p:Int×Int}{ps:List (Int×Int)}(h:Canon (p::ps)):atW (p::ps) p.2=p.1/\p.1≠0/\∀ w,w<p.2->atW (p::ps) w=0:=by
 have h1:=(lu.mp h.up).1;refine⟨?_,h.nz p aO,fun w hw=>?_⟩
 .rw[gT,ak rfl,jC fun q hq=>by have:=h1 q hq;lia];lia
 .refine jC fun q hq=>?_;rcases aJ.mp hq with rfl|hq
  .lia
  .have:=h1 q hq;lia
theorem canon_one : ∀ {ps qs : List (Int×Int)}, Canon ps->Canon qs->(∀ w, atW ps w=atW qs w)->ps=qs
  | [], [], _, _, _=>rfl
  | [], q :: qs, _, h, e => by
    obtain⟨h1,h2,_⟩:=h.head;have:=e q.2;rw[h1] at this;exact absurd this.symm h2
  | p :: ps, [], h, _, e => by
    obtain⟨h1,h2,_⟩:=h.head;have:=e p.2;rw[h1] at this;exact absurd this h2
  | p :: ps, q :: qs, hp, hq, e => by
    obtain⟨p1,p2,p3⟩:=hp.head;obtain⟨q1,q2,q3⟩:=hq.head;have hw : p.2=q.2:=by
      rcases Int.lt_trichotomy p.2 q.2 with h|h|h
      . have := e p.2
        rw[p1,q3 _ h] at this;exact absurd this p2
      . exact h
      . have := e q.2
        rw[q1,p3 _ h] at this;exact absurd this.symm q2
    have ha:p.1=q.1:=by rw[<-p1,<- q1,e p.2,hw]
    have hpq:p=q:=Prod.ext ha hw;subst hpq;rw[canon_one hp.tail hq.tail fun w=>by
      have:=e w;rw[gT,gT] at this;lia]
theorem Zhh{t:List (Int×Int)}{ms:List Int}(hn:ms.Nodup)(hs:ms.Pairwise (·<=·)):Canon (ci t ms):=by
 refine⟨?_,fun p hp=>?_⟩
 .unfold ci;rw[pairwise_map];refine List.Pairwise.filter _ ?_;refine(hs.and hn).imp fun h=>?_;have h1:=h.1;have h2:=h.2;show _<_;lia
 .unfold ci at hp;obtain⟨w,hw,rfl⟩:=aT.mp hp;exact lA (kX.mp hw).2
theorem Zlv{t:List (Int×Int)}{ms:List Int}(hn:ms.Nodup)(w:Int):atW (ci t ms) w=if w∈ms then aZ t w else 0:=by
 induction ms with
 | nil=>rfl
 | cons m ms ih =>
  obtain⟨h1,h2⟩:=dX.mp hn;have ih:=ih h2;have e:ci t (m::ms)=(if aZ t m≠0 then [(aZ t m,m)] else [])++ci t ms:=by
   unfold ci;by_cases h:aZ t m=0 <;> simp[h]
  rw[e,Zkk,ih];by_cases hw:m=w
  .subst hw;rw[ao h1,ak aO];by_cases h:aZ t m=0
   .rw[ao (by simpa using h),h];rfl
   .rw[ak h,gT,ak rfl];show _+atW [] m+0=_;rw[jC (fun _ hq=>by cases hq)];lia
  .have e0:atW (if aZ t m≠0 then [(aZ t m,m)] else []) w=0:=by
    refine jC fun q hq=>?_;split at hq
    .obtain rfl:=aM.mp hq;exact hw
    .cases hq
   rw[e0];by_cases h:w∈ms
   .rw[ak h,ak (bw _ h)];lia
   .rw[ao h,ao (fun z=>(aJ.mp z).elim (fun z=>hw z.symm) h)];lia
theorem Zio{t:List (Int×Int)}{ms:List Int}(hn:(t.map (·.1)).Nodup)(hp:ms.Perm (t.map (·.1)))(w:Int):atW (ci t ms) w=aZ t w:=by
 rw[Zlv (hp.nodup_iff.mpr hn)];by_cases h:w∈ms
 .rw[ak h]
 .rw[ao h,vo fun z=>h (hp.mem_iff.mpr z)]
end L2
namespace L2
open PySem
noncomputable abbrev Frm:=Int×List (Int×Int)
noncomputable def nthF(fl:List Frm)(w:Int):Frm:=fl.getD w.toNat (0,[])
noncomputable def putC(c:Int)(ps:List (Int×Int))(fl:List Frm):Int:=ps.foldl (fun c p=>c+p.1*(nthF fl p.2).1) c
noncomputable def cT(ps:List (Int×Int))(fl:List Frm):List (Int×Int):=ps.foldl (fun t p=>bm t (nthF fl p.2).2 p.1) []
noncomputable def putAt(ps:List (Int×Int))(fl:List Frm)(w:Int):Int:=(ps.map fun p=>atW (nthF fl p.2).2 w*p.1).sum
theorem Zlc(c:Int)(ps:List (Int×Int))(p:Int×Int)(fl:List Frm):putC c (ps++[p]) fl=putC c ps fl+p.1*(nthF fl p.2).1:=by unfold putC;rw[nI];rfl
theorem j5(ps:List (Int×Int))(p:Int×Int)(fl:List Frm):cT (ps++[p]) fl=bm (cT ps fl) (nthF fl p.2).2 p.1:=by unfold cT;rw[nI];rfl
theorem ZjQ(ps:List (Int×Int))(p:Int×Int)(fl:List Frm)(w:Int):putAt (ps++[p]) fl w=putAt ps fl w+atW (nthF fl p.2).2 w*p.1:=by unfold putAt;simp
theorem mq{α:Type}{C:List α->Prop}(h0:C [])(h1:∀ l a,C l->C (l++[a]))(l:List α):C l:=by
 have key:∀ (m:List α),C m.reverse:=by
  intro m
  induction m with
  | nil=>exact h0
  | cons a m ih=>rw[reverse_cons];exact h1 _ a ih
 have:=key l.reverse
 rwa [reverse_reverse] at this
theorem jt(ps:List (Int×Int))(fl:List Frm):((cT ps fl).map (·.1)).Nodup:=by
 refine mq (C:=fun ps=>((cT ps fl).map (·.1)).Nodup) fz (fun l a h=>?_) ps;show ((cT (l++[a]) fl).map (·.1)).Nodup;rw[j5];exact fJ _ _ h
theorem ue(ps:List (Int×Int))(fl:List Frm)(w:Int):aZ (cT ps fl) w=putAt ps fl w:=by
 refine mq (C:=fun ps=>aZ (cT ps fl) w=putAt ps fl w) rfl (fun l a h=>?_) ps;show aZ (cT (l++[a]) fl) w=putAt (l++[a]) fl w;rw[j5,ZjQ,hX,h]
end L2
end
section
namespace L2
open PySem PySem.Spec PyProof.Rows
noncomputable def vC:List V->Hp->VK->Prop:=fun xs H Q=>∃ (a:Addr) (kvs:List (Key×V)) (ns:List Int),xs=[.ref a]/\H a=some (.dK kvs)/\kvs.map (·.1)=ns.map Sum.inl /\
 ns.length<64/\∀ (ms:List Int) p,ms.Perm ns->ms.Pairwise (·<=·)->H p=none->Q (.ref p) (upd H p (.lst (ms.map V.int)))
theorem wN{X:Cx}(hc:X.calm=true):ca X (.builtin "sorted") vC:=by
 intro pins s Z H xs us Q I r h;obtain⟨a,kvs,ns,rfl,ha,hk,hsz,q⟩:=h;obtain⟨u,rfl,ru⟩:=vals1 r;cases ru;obtain⟨hz,hS,vs,kv,hd⟩:=(show ObjOk X.prog X.w H s.heap a (.dK kvs) from I.hok a _ ha);obtain⟨ep,hat⟩:=hd.dictAt;have hlen:kvs.length=vs.length:=Paired.length kv;refine yv (id kind_sorted) plain_sorted entry_sorted (args_sorted1 _) ?_;unfold Builtin.«sorted»;refine ab (m:=checkCount "sorted" 1 1 _) (am (id ?_));refine ab (PySem.W.kdu_collect (A:=X.A.in1) (PySem.W.kdl_dict (knd:=cx X.prog X.w) (kvs:=vs) (ep:=ep) hS) (I.ok.hd hc) hat (by lia) fun h' tk acc keep hacc=>?_);have hal:acc.toList.length=vs.length:=by rw[ft];exact hacc.1
 have hints:IntsAre acc.toList ns:=by
  have key:∀ (j:Nat) v,acc.toList[j]?=some v->∃ n t,ns[j]?=some n/\v=Value.int n t:=by
   intro j v e;obtain⟨k,x,e1,e2⟩:=hacc.2 j v (by rw[<-lh];exact e);have e3:(kvs.map (·.1))[j]?=some k:=by
    obtain⟨p,ep1,ep2⟩:=KV.at' kv e1;rw[ah,ep1];exact congrArg some ep2
   rw[hk,ah] at e3;obtain⟨n,en,rfl⟩:=aV.mp e3;obtain⟨t,rfl⟩:=Value.isInt_shape (k:=n) (v:=v) e2;exact⟨n,t,en,rfl⟩
  exact vO (by rw[hal,<- hlen];have:=congrArg List.length hk;simpa using this) key
 have hroom:acc.toList.length<=sizeLine:=by lia
 refine ab (nv (id ?_) hroom);have hD:(h'.push (seqObj "list" acc.toList.toArray 0)).get? h'.objs.size=some (seqObj "list" acc.toList.toArray 0):=bQ _ rfl;have hnl:ns.length=acc.toList.length:=hints.length.symm;refine ab (eL (eC slot_list_sort ⟨_,hD,rfl⟩ entry_list_sort (Zo7 (z:={ s with heap:=h'.push (seqObj "list" acc.toList.toArray 0),toks:=tk }) hD hints hroom (fun h2 z'=>?_) fun out ms q1 q2 q3=>⟨_,rfl,?_⟩) (args_list_sort _)))
 .exact Zm6 hints.intKeys (by rw[i6];exact h2) (by rw[i6,<- hnl];exact hsz)
 .refine am ⟨_,rfl,?_⟩;generalize hF:sortedHeap (h'.push (seqObj "list" acc.toList.toArray 0)) h'.objs.size acc.toList out=hf;have keepF:∀ b o,s.heap.get? b=some o->hf.get? b=some o:=fun b o e=>by
   have e1:=keep b o e;have hlt:=ba e1;rw[<-hF,sortedHeap_old (bP hlt) (by rw[size_push'];exact sf hlt)];exact be _ e1
  have hne:∀ b o,s.heap.get? b=some o->b≠h'.objs.size:=fun b o e=>bP (ba (keep b o e));have hH:H h'.objs.size=none:=by
   cases e:H h'.objs.size with
   | none=>rfl
   | some o =>
    obtain⟨o',e'⟩:=(I.hok _ o e).there;exact absurd rfl (hne _ o' e')
  obtain⟨ep2,hat2⟩:=sortedHeap_at (out:=out) hD;rw[hF] at hat2;have hml:ms.length=ns.length:=q2.length_eq;refine⟨.ref h'.objs.size,upd H h'.objs.size (.lst (ms.map V.int)),I.un (Un.track' (Un.kept keepF) hne hH) (HOk.track (I.hok.kept keepF) hH ⟨by rw[af];lia,out.toList,ep2,uT q1,?_⟩),rfl,q ms _ q2 q3 hH⟩;simpa using hat2
inductive T where
 | non|bl (b:Bool)|int (i:Int)|str (x:Str)|tup (ts:List T)|lst (ts:List T)|ptr (a:Addr)|cst (xs:List Str)
inductive Ct where
 | lst (ts:List T)|bag (l:Addr)|ins (C dx:Addr) (fs:List (Str×T))|own (x:Addr)|dn (kvs:List (List (List Key)×T))|tb (t:List (Int×Int))|dt (kvs:List (List Key×T))|dz (o:Obj) (vs:List (List Key×V)) (kvs:List (List Key×T))|dk (kvs:List (Key×T))
noncomputable abbrev GH:=Addr->Option Ct
noncomputable def gput(G:GH)(a:Addr)(c:Ct):GH:=fun b=>if b=a then some c else G b
noncomputable def gdel(G:GH)(a:Addr):GH:=fun b=>if b=a then none else G b
section
variable{G:GH}{a b:Addr}{c c':Ct}
theorem gp_s:gput G a c a=some c:=ak rfl
theorem gp_n(h:b≠a):gput G a c b=G b:=ao h
theorem gp_p:gput (gput G a c) a c'=gput G a c':=by funext b;unfold gput;split <;> rfl
theorem gp_c(h:a≠b):gput (gput G a c) b c'=gput (gput G b c') a c:=by
 funext x;unfold gput;by_cases e:x=b <;> by_cases e':x=a <;> simp[e,e',h,Ne.symm h]
theorem gp_d(h:G a=none):gdel (gput G a c) a=G:=by
 funext b;unfold gdel gput;by_cases e:b=a
 .rw[ak e,e,h]
 .rw[ao e,ao e]
theorem g_ne{a b:Addr}(h:G a=some c)(h':G b=none):a≠b:=fun e=>by rw[e,h'] at h;cases h
theorem gD(h:G a=some c):gput G a c=G:=by
 funext b;unfold gput;by_cases e:b=a
 .rw[ak e,e,h]
 .rw[ao e]
end
def Key2(H:Hp)(ks:List (List Key))(b:Addr):Prop:=∃ rs:List Addr,H b=some (.tup (rs.map V.ref))/\Paired (fun(k:List Key) r=>H r=some (.tup (k.map kV))) ks rs
noncomputable def dnO(P:Program)(w:World)(a:Addr)(kvs:List (List (List Key)×Addr×V)):HO:=.ext fun h=>(a == sysModules)=false/\kvs.length<=sizeLine/\∃ xs:List (List (List Key)×Addr×Value),
 Paired (fun(p:List (List Key)×Addr×V) (q:List (List Key)×Addr×Value)=>p.1=q.1/\p.2.1=q.2.1/\RelV p.2.2 q.2.2) kvs xs /\
 ∃ o es ep,h.get? a=some o/\o.ExactDict/\o.data=.dict es ep/\es.toList=xs.map (entryOfKey (kind2 (cx P w)))/\(xs.map (·.1)).Nodup
section
variable(P:Program)(w:World)(K:W.Frag)(G:GH)(H:Hp)
mutual
inductive RepT:T->V->Prop
 | non:RepT .non .non
 | bl {b}:RepT (.bl b) (.bl b)
 | int {i}:RepT (.int i) (.int i)
 | str {x}:RepT (.str x) (.str x)
 | tup {a xs ts} (h:H a=some (.tup xs)) (r:RepTs ts xs):RepT (.tup ts) (.ref a)
 | lst {a xs ts} (g:G a=none) (h:H a=some (.lst xs)) (r:RepTs ts xs):RepT (.lst ts) (.ref a)
 | ptr {a}:RepT (.ptr a) (.ref a)
 | cst {a xs} (h:∀ H',SqT K H' a (xs.map V.str)):RepT (.cst xs) (.ref a)
inductive RepTs:List T->List V->Prop
 | nil:RepTs [] []
 | cons {t ts v vs} (h:RepT t v) (r:RepTs ts vs):RepTs (t::ts) (v::vs)
end
noncomputable def COk(a:Addr):Ct->Prop
 | .lst ts=>∃ xs,H a=some (.lst xs)/\RepTs K G H ts xs
 | .bag l=>BagAt H a l/\G l=none
 | .ins C dx fs=>∃ fs',H a=some (.ins C dx fs')/\G dx=some (.own a)/\Paired (fun(p:Str×T) (q:Str×V)=>p.1=q.1/\RepT K G H p.2 q.2) fs fs'
 | .own x=>H a=some (.own x)
 | .tb t=>H a=some (.dK (kvT t))/\(t.map (·.1)).Nodup
 | .dt kvs=>∃ kvs',H a=some (.dT kvs')/\Paired (fun(p:List Key×T) (q:List Key×V)=>p.1=q.1/\RepT K G H p.2 q.2) kvs kvs'
 | .dz o vs kvs=>H a=some (.frz o (.dT vs))/\Paired (fun(p:List Key×T) (q:List Key×V)=>p.1=q.1/\RepT K G H p.2 q.2) kvs vs
 | .dk kvs=>∃ kvs',H a=some (.dK kvs')/\Paired (fun(p:Key×T) (q:Key×V)=>p.1=q.1/\RepT K G H p.2 q.2) kvs kvs'
 | .dn kvs=>∃ kvs',H a=some (dnO P w a kvs')/\Paired (fun(p:List (List Key)×T) (q:List (List Key)×Addr×V)=>p.1=q.1/\Key2 H p.1 q.2.1/\RepT K G H p.2 q.2.2) kvs kvs'
def GOk:Prop:=∀ a c,G a=some c->COk P w K G H a c
end
def Stp(G:GH)(H:Hp)(G':GH)(H':Hp):Prop:=∀ a o,G a=none->H a=some o->H' a=some o/\G' a=none
section
variable{P:Program}{w:World}{K:W.Frag}{G G1 G2 G':GH}{H H1 H2 H':Hp}{t:T}{ts us:List T}{v:V}{xs ys vs:List V}{a b:Addr}{c:Ct}
theorem Stp.refl:Stp G H G H:=fun _ _ g h=>⟨h,g⟩
theorem Stp.trans(s:Stp G H G1 H1)(t:Stp G1 H1 G2 H2):Stp G H G2 H2:=fun a o g h=>let ⟨h1,g1⟩:=s a o g h;t a o g1 h1
theorem Stp.same(s:Same H H'):Stp G H G H':=fun a o g h=>⟨s a o h,g⟩
theorem COk.ntup(x:COk P w K G H a c):(∃ o,H a=some o)/\∀ ys,H a≠some (.tup ys):=by
 cases c with
 | lst ts=>obtain⟨xs,h,_⟩:=x;exact⟨⟨_,h⟩,fun ys e=>by rw[h] at e;cases e⟩
 | bag l=>obtain⟨xs,h⟩:=x.1.lst;exact⟨⟨_,h⟩,fun ys e=>by rw[h] at e;cases e⟩
 | ins C dx fs=>obtain⟨_,h,_⟩:=x;exact⟨⟨_,h⟩,fun ys e=>by rw[h] at e;cases e⟩
 | tb t=>exact⟨⟨_,x.1⟩,fun ys e=>by rw[x.1] at e;cases e⟩
 | own y=>have h:H a=some (.own y):=x;exact⟨⟨_,h⟩,fun ys e=>by rw[h] at e;cases e⟩
 | dn kvs=>obtain⟨_,h,_⟩:=x;exact⟨⟨_,h⟩,fun ys e=>by rw[h] at e;cases e⟩
 | dt kvs=>obtain⟨_,h,_⟩:=x;exact⟨⟨_,h⟩,fun ys e=>by rw[h] at e;cases e⟩
 | dz o vs kvs=>exact⟨⟨_,x.1⟩,fun ys e=>by rw[x.1] at e;cases e⟩
 | dk kvs=>obtain⟨_,h,_⟩:=x;exact⟨⟨_,h⟩,fun ys e=>by rw[h] at e;cases e⟩
theorem GOk.tup(g:GOk P w K G H)(h:H a=some (.tup xs)):G a=none:=by
 cases e:G a with
 | none=>rfl
 | some c=>exact absurd h ((g a c e).ntup.2 xs)
theorem GOk.free(g:GOk P w K G H)(h:H a=none):G a=none:=by
 cases e:G a with
 | none=>rfl
 | some c=>obtain⟨o,q⟩:=(g a c e).ntup.1;rw[q] at h;cases h
def Kp(G:GH)(H:Hp)(G':GH)(H':Hp):Prop:=(∀ a xs,H a=some (.tup xs)->H' a=some (.tup xs))/\∀ a xs,G a=none->H a=some (.lst xs)->H' a=some (.lst xs)/\G' a=none
theorem Stp.kp(s:Stp G H G' H')(g:GOk P w K G H):Kp G H G' H':=⟨fun a xs h=>(s a _ (g.tup h) h).1,fun a xs n h=>s a _ n h⟩
mutual
theorem RepT.kp(s : Kp G H G' H') : ∀ {t : T} {v : V}, RepT K G H t v->RepT K G' H' t v
  | _, _, h => by
    cases h with
    | tup h r=>exact .tup (s.1 _ _ h) (RepTs.kp s r)
    | lst g h r=>exact .lst (s.2 _ _ g h).2 (s.2 _ _ g h).1 (RepTs.kp s r)
    | cst h=>exact .cst h
    | _=>constructor
theorem RepTs.kp(s : Kp G H G' H') : ∀ {t : List T} {v : List V}, RepTs K G H t v->RepTs K G' H' t v
  | _, _, h => by
    cases h with
    | nil=>exact .nil
    | cons h r=>exact .cons (RepT.kp s h) (RepTs.kp s r)
end
theorem RepT.mono(r:RepT K G H t v)(g:GOk P w K G H)(s:Stp G H G' H'):RepT K G' H' t v:=r.kp (s.kp g)
theorem RepTs.mono(r:RepTs K G H ts xs)(g:GOk P w K G H)(s:Stp G H G' H'):RepTs K G' H' ts xs:=r.kp (s.kp g)
theorem RepTs.length:∀ {ts:List T} {xs:List V},RepTs K G H ts xs->ts.length=xs.length
 | _,_,.nil=>rfl
 | _,_,.cons _ r=>by rw[cz,cz,r.length]
theorem RepTs.get:∀ {ts:List T} {xs:List V} {i:Nat} {t:T},RepTs K G H ts xs->ts[i]?=some t->∃ v,xs[i]?=some v/\RepT K G H t v
 | _,_,0,_,.cons h _,e=>by cases e;exact⟨_,rfl,h⟩
 | _,_,i+1,t,.cons _ r,e=>RepTs.get (i:=i) (t:=t) r e
theorem RepTs.app:∀ {ts us:List T} {xs ys:List V},RepTs K G H ts xs->RepTs K G H us ys->RepTs K G H (ts++us) (xs++ys)
 | _,_,_,_,.nil,q=>q
 | _,_,_,_,.cons h r,q=>.cons h (r.app q)
theorem RepTs.take:∀ {ts:List T} {xs:List V} (n:Nat),RepTs K G H ts xs->RepTs K G H (ts.take n) (xs.take n)
 | _,_,0,_=>.nil
 | _,_,n+1,.nil=>.nil
 | _,_,n+1,.cons h r=>.cons h (r.take n)
theorem RepTs.drop:∀ {ts:List T} {xs:List V} (n:Nat),RepTs K G H ts xs->RepTs K G H (ts.drop n) (xs.drop n)
 | _,_,0,r=>r
 | _,_,n+1,.nil=>.nil
 | _,_,n+1,.cons h r=>r.drop n
theorem RepTs.set:∀ {ts:List T} {xs:List V} (n:Nat),RepT K G H t v->RepTs K G H ts xs->RepTs K G H (ts.set n t) (xs.set n v)
 | _,_,_,q,.nil=>.nil
 | _,_,0,q,.cons h r=>.cons q r
 | _,_,n+1,q,.cons h r=>.cons h (r.set n q)
theorem gA{α β:Type}{F F':α->β->Prop}(f:∀ a b,F a b->F' a b){l:List α}{m:List β}(r:Paired F l m):Paired F' l m:=Paired.mapP r f
theorem ZlW{ks:List (List Key)}(t:oX H H')(k:Key2 H ks b):Key2 H' ks b:=let ⟨rs,h,r⟩:=k;⟨rs,t _ _ h,gA (fun _ _ q=>t _ _ q) r⟩
theorem COk.kp(x:COk P w K G H a c)(s:Kp G H G' H')(h:∀ o,H a=some o->H' a=some o)(hb:∀ l,c=.bag l->(∀ o,H l=some o->H' l=some o)/\(G l=none->G' l=none))(ho:∀ C dx fs,c=.ins C dx fs->G dx=some (.own a)->G' dx=some (.own a)):COk P w K G' H' a c:=by
 cases c with
 | lst ts=>obtain⟨xs,e,r⟩:=x;exact⟨xs,h _ e,r.kp s⟩
 | bag l =>
  obtain⟨⟨xs,i,m,st,c,h1,h2,r⟩,g⟩:=x;exact⟨⟨xs,i,m,st,c,h _ h1,(hb l rfl).1 _ h2,r⟩,(hb l rfl).2 g⟩
 | ins C dx fs=>obtain⟨fs',e,g,r⟩:=x;exact⟨fs',h _ e,ho C dx fs rfl g,gA (fun p q z=>⟨z.1,z.2.kp s⟩) r⟩
 | own y=>exact h _ x
 | tb t=>exact⟨h _ x.1,x.2⟩
 | dt kvs=>obtain⟨kvs',e,r⟩:=x;exact⟨kvs',h _ e,gA (fun p q z=>⟨z.1,z.2.kp s⟩) r⟩
 | dz o vs kvs=>exact⟨h _ x.1,gA (fun p q z=>⟨z.1,z.2.kp s⟩) x.2⟩
 | dk kvs=>obtain⟨kvs',e,r⟩:=x;exact⟨kvs',h _ e,gA (fun p q z=>⟨z.1,z.2.kp s⟩) r⟩
 | dn kvs=>obtain⟨kvs',e,r⟩:=x;exact⟨kvs',h _ e,gA (fun p q z=>⟨z.1,ZlW s.1 z.2.1,z.2.2.kp s⟩) r⟩
theorem BagAt.lo{l:Addr}(B:BagAt H a l):∃ o,H l=some o:=let ⟨_,_,_,_,_,_,h,_⟩:=B.ex;⟨_,h⟩
theorem GOk.same(g:GOk P w K G H)(s:Same H H'):GOk P w K G H':=fun a c e=>(g a c e).kp ((Stp.same s).kp g) (fun o=>s a o) (fun l _=>⟨fun o=>s l o,id⟩) fun _ _ _ _=>id
theorem GOk.put{o:HO}(g:GOk P w K G H)(h:(∃ c,G a=some c)\/H a=none)(hc:COk P w K (gput G a c) (upd H a o) a c)(hl:∀ b l,b≠a->G b=some (.bag l)->l≠a)(hd:∀ b C dx fs,b≠a->G b=some (.ins C dx fs)->dx≠a):GOk P w K (gput G a c) (upd H a o)/\Stp G H (gput G a c) (upd H a o):=by
 have ne:∀ b u,G b=none->H b=some u->b≠a:=fun b u gb hb e=>by
  subst e;rcases h with ⟨c,h⟩|h
  .rw[gb] at h;cases h
  .rw[hb] at h;cases h
 have st:Stp G H (gput G a c) (upd H a o):=fun b u gb hb=>⟨by rw[bv (ne b u gb hb)];exact hb,by rw[gp_n (ne b u gb hb)];exact gb⟩;refine⟨fun b c' e=>?_,st⟩;by_cases hb:b=a
 .subst hb;rw[gp_s] at e;cases e;exact hc
 .rw[gp_n hb] at e;refine (g b c' e).kp (st.kp g) (fun u q=>by rw[bv hb];exact q) (fun l z=>?_) fun C dx fs z q=>?_
  .subst z;have:=hl b l hb e;exact⟨fun u q=>by rw[bv this];exact q,fun q=>by rw[gp_n this];exact q⟩
  .subst z;rw[gp_n (hd b C dx fs hb e)];exact q
theorem GOk.putL{ts':List T}{xs':List V}(g:GOk P w K G H)(h:(∃ us,G a=some (.lst us))\/H a=none)(r:RepTs K G H ts' xs'):GOk P w K (gput G a (.lst ts')) (upd H a (.lst xs'))/\Stp G H (gput G a (.lst ts')) (upd H a (.lst xs')):=by
 have h':(∃ c,G a=some c)\/H a=none:=h.imp (fun⟨us,e⟩=>⟨_,e⟩) id;have ga:∀ c,G a=some c->∃ us,c=.lst us:=fun c e=>by
  rcases h with ⟨us,h⟩|h
  .rw[h] at e;cases e;exact⟨us,rfl⟩
  .rw[g.free h] at e;cases e
 have ne:∀ b u,G b=none->H b=some u->b≠a:=fun b u gb hb e=>by
  subst e;rcases h' with ⟨c,h⟩|h
  .rw[gb] at h;cases h
  .rw[hb] at h;cases h
 have st:Stp G H (gput G a (.lst ts')) (upd H a (.lst xs')):=fun b u gb hb=>⟨by rw[bv (ne b u gb hb)];exact hb,by rw[gp_n (ne b u gb hb)];exact gb⟩;refine g.put h' ⟨xs',bJ,r.mono g st⟩ (fun b l hb e z=>?_) (fun b C dx fs hb e z=>?_)
 .subst z;obtain⟨o,q⟩:=(g b _ e).1.lo;exact ne _ o (g b _ e).2 q rfl
 .subst z;obtain⟨_,_,q,_⟩:=g b _ e;obtain⟨us,z⟩:=ga _ q;cases z
end
end L2
end
section
namespace L2
open PySem PySem.Spec PyProof.Rows
noncomputable abbrev Ev:=List (Option T)
section
variable(P:Program)(w:World)(K:W.Frag)
structure EnvOk(G:GH)(H:Hp)(Z:St)(Γ:Ev):Prop where
 len:Z.length=Γ.length
 at':∀ (i:Nat) (t:T),Γ[i]?=some (some t)->∃ v,Z[i]?=some (some v)/\RepT K G H t v
def Pst(G:GH)(H:Hp)(k:T->GH->Prop)(Q:VK):Prop:=∀ v H' d G',Stp G H G' H'->GOk P w K G' H'->RepT K G' H' d v->k d G'->Q v H'
def We(t:TE)(Γ:Ev)(G:GH)(k:T->GH->Prop):Prop:=∀ H Z,GOk P w K G H->EnvOk K G H Z Γ->∀ Q,Pst P w K G H k Q->t Z H Q
def Wt(t:TT)(Γ:Ev)(G:GH)(k:Bool->GH->Prop):Prop:=∀ H Z,GOk P w K G H->EnvOk K G H Z Γ->∀ Q,(∀ b H' G',Stp G H G' H'->GOk P w K G' H'->k b G'->Q b H')->t Z H Q
def Wa(t:TA)(Γ:Ev)(G:GH)(k:List T->GH->Prop):Prop:=∀ H Z,GOk P w K G H->EnvOk K G H Z Γ->∀ Q,(∀ vs H' ds G',Stp G H G' H'->GOk P w K G' H'->RepTs K G' H' ds vs->k ds G'->Q vs H')->t Z H Q
def Pn(G:GH)(H:Hp)(k:Ev->GH->Prop)(R:St->Hp->Prop):Prop:=∀ σ' H' Γ' G',Stp G H G' H'->GOk P w K G' H'->EnvOk K G' H' σ' Γ'->k Γ' G'->R σ' H'
structure EndT where
 nx:Ev->GH->Prop
 rt:T->GH->Prop
 bk:Ev->GH->Prop:=fun _ _=>False
 ct:Ev->GH->Prop:=fun _ _=>False
structure EOkT(G:GH)(H:Hp)(D:EndT)(D':Ends):Prop where
 nx:Pn P w K G H D.nx D'.nx
 rt:Pst P w K G H D.rt D'.rt
 bk:Pn P w K G H D.bk D'.bk
 ct:Pn P w K G H D.ct D'.ct
def Ws(t:TS)(Γ:Ev)(G:GH)(D:EndT):Prop:=∀ H Z,GOk P w K G H->EnvOk K G H Z Γ->∀ D',EOkT P w K G H D D'->t D' Z H
def Wg(g:TG)(d:T)(Γ:Ev)(G:GH)(k:Ev->GH->Prop):Prop:=∀ H Z v,GOk P w K G H->EnvOk K G H Z Γ->RepT K G H d v->∀ R,Pn P w K G H k R->g v Z H R
def Wgs(g:TGs)(ds:List T)(Γ:Ev)(G:GH)(k:Ev->GH->Prop):Prop:=∀ H Z vs,GOk P w K G H->EnvOk K G H Z Γ->RepTs K G H ds vs->∀ R,Pn P w K G H k R->g vs Z H R
def L2r(r:R2)(x y:T)(G:GH)(k:T->GH->Prop):Prop:=∀ H u v,GOk P w K G H->RepT K G H x u->RepT K G H y v->∀ Q,Pst P w K G H k Q->r u v H Q
def L1r(r:V->Hp->VK->Prop)(x:T)(G:GH)(k:T->GH->Prop):Prop:=∀ H u,GOk P w K G H->RepT K G H x u->∀ Q,Pst P w K G H k Q->r u H Q
def LNr(r:List V->Hp->VK->Prop)(xs:List T)(G:GH)(k:T->GH->Prop):Prop:=∀ H us,GOk P w K G H->RepTs K G H xs us->∀ Q,Pst P w K G H k Q->r us H Q
def IsIt(G:GH)(H:Hp)(J:It)(xs:List T)(kp:GH->Prop):Prop:=∀ G' H',Stp G H G' H'->GOk P w K G' H'->kp G'->(∀ (i:Nat) x,xs[i]?=some x->J.go i H'/\∀ v H2,J.yld i H' v H2->Same H' H2/\RepT K G' H2 x v)/\J.stop xs.length H'
def Wo(t:TO)(Γ:Ev)(G:GH)(k:Option Int->GH->Prop):Prop:=∀ H Z,GOk P w K G H->EnvOk K G H Z Γ->∀ Q,(∀ b H' G',Stp G H G' H'->GOk P w K G' H'->k b G'->Q b H')->t Z H Q
def Wi(t:TI)(Γ:Ev)(G:GH)(k:List T->(GH->Prop)->GH->Prop):Prop:=∀ H Z,GOk P w K G H->EnvOk K G H Z Γ->∀ Q,(∀ J H' xs kp G',Stp G H G' H'->GOk P w K G' H'->IsIt P w K G' H' J xs kp->k xs kp G'->Q J H')->t Z H Q
end
theorem gp{A B:Prop}(h:if true=true then A else B):A:=by simpa using h
theorem gc{A B:Prop}(h:if false=true then A else B):B:=by simpa using h
section
variable{P:Program}{w:World}{K:W.Frag}{G G1 G2 G':GH}{H H1 H2 H':Hp}{a:Addr}{Γ:Ev}{Z:St}{ta tb tc te:TE}{k:T->GH->Prop}{kb:Bool->GH->Prop}{ka:List T->GH->Prop}{kn:Ev->GH->Prop}{Q:VK}{d x y:T}{i:Nat}{D:EndT}{t u:TS}{c c2:TT}{tr:TA}{r r':R2}{g:TG}{gs:TGs}{ds xs:List T}
theorem EnvOk.mono(e:EnvOk K G H Z Γ)(g:GOk P w K G H)(s:Stp G H G' H'):EnvOk K G' H' Z Γ:=⟨e.len,fun i t q=>let ⟨v,h,r⟩:=e.at' i t q;⟨v,h,r.mono g s⟩⟩
theorem EnvOk.set{v:V}(e:EnvOk K G H Z Γ)(r:RepT K G H d v):EnvOk K G H (Z.set i (some v)) (Γ.set i (some d)):=by
 refine⟨by rw[cQ,cQ,e.len],fun j t q=>?_⟩;by_cases h:i=j
 .subst h;have hi:i < Γ.length:=by have:=(aX.mp q).1;rwa [cQ] at this
  rw[io hi] at q;cases q;exact⟨v,io (by rw[e.len];exact hi),r⟩
 .rw[jD h] at q ⊢;exact e.at' j t q
theorem Pst.mono(p:Pst P w K G H k Q)(s:Stp G H G' H'):Pst P w K G' H' k Q:=fun v H2 d G2 s2 g r q=>p v H2 d G2 (s.trans s2) g r q
theorem Pn.mono{R:St->Hp->Prop}(p:Pn P w K G H kn R)(s:Stp G H G' H'):Pn P w K G' H' kn R:=fun v H2 d G2 s2 g r q=>p v H2 d G2 (s.trans s2) g r q
theorem EOkT.mono{D':Ends}(e:EOkT P w K G H D D')(s:Stp G H G' H'):EOkT P w K G' H' D D':=⟨e.nx.mono s,e.rt.mono s,e.bk.mono s,e.ct.mono s⟩
theorem Pst.here{v:V}(p:Pst P w K G H k Q)(g:GOk P w K G H)(r:RepT K G H d v)(q:k d G):Q v H:=p v H d G .refl g r q
theorem Pst.new{p:Addr}{o:HO}(z:Pst P w K G H k Q)(g:GOk P w K G H)(hp:H p=none)(q:k d G)(r:Same H (upd H p o)->GOk P w K G (upd H p o)->G p=none->RepT K G (upd H p o) d (.ref p)):Q (.ref p) (upd H p o) :=
 z _ _ d G (.same (.new hp)) (g.same (.new hp)) (r (.new hp) (g.same (.new hp)) (g.free hp)) q
theorem Pst.tup{p:Addr}{vs:List V}(z:Pst P w K G H k Q)(g:GOk P w K G H)(hp:H p=none)(rs:RepTs K G H ds vs)(q:k (.tup ds) G):Q (.ref p) (upd H p (.tup vs)):=z.new g hp q fun s _ _=>.tup bJ (rs.mono g (.same s))
theorem Pst.lst{p:Addr}{vs:List V}(z:Pst P w K G H k Q)(g:GOk P w K G H)(hp:H p=none)(rs:RepTs K G H ds vs)(q:k (.lst ds) G):Q (.ref p) (upd H p (.lst vs)):=z.new g hp q fun s _ n=>.lst n bJ (rs.mono g (.same s))
theorem jd(e:Γ[i]?=some (some d))(q:k d G):We P w K (tVar i) Γ G k:=fun H Z g ev Q z=>let ⟨v,h,r⟩:=ev.at' i d e;⟨v,h,z.here g r q⟩
theorem mz{n:Int}(q:k (.int n) G):We P w K (tC (.int n)) Γ G k:=fun H Z g ev Q z=>z.here g .int q
theorem xT{n:Str}(q:k (.str n) G):We P w K (tC (.str n)) Γ G k:=fun H Z g ev Q z=>z.here g .str q
theorem wJ{n:Bool}(q:k (.bl n) G):We P w K (tC (.bl n)) Γ G k:=fun H Z g ev Q z=>z.here g .bl q
theorem t9(q:k .non G):We P w K (tC .non) Γ G k:=fun H Z g ev Q z=>z.here g .non q
theorem tZ(h:We P w K ta Γ G fun x G1=>We P w K tb Γ G1 fun y G2=>L2r P w K r x y G2 k):We P w K (tOp r ta tb) Γ G k:=fun H Z g ev Q z=>h H Z g ev _ fun v H1 x G1 s1 g1 r1 q1=>q1 H1 Z g1 (ev.mono g s1) _ fun u H2 y G2 s2 g2 r2 q2=>q2 H2 v u g2 (r1.mono g1 s2) r2 Q (z.mono (s1.trans s2))
theorem sR{r:V->Hp->VK->Prop}(h:We P w K ta Γ G fun x G1=>L1r P w K r x G1 k):We P w K (tUn r ta) Γ G k:=fun H Z g ev Q z=>h H Z g ev _ fun v H1 x G1 s1 g1 r1 q1=>q1 H1 v g1 r1 Q (z.mono s1)
theorem gE(h:ka [] G):Wa P w K tNil Γ G ka:=fun H Z g ev Q z=>z [] H [] G .refl g .nil h
theorem oV(h:We P w K ta Γ G fun x G1=>Wa P w K tr Γ G1 fun xs G2=>ka (x::xs) G2):Wa P w K (bC ta tr) Γ G ka:=fun H Z g ev Q z=>h H Z g ev _ fun v H1 x G1 s1 g1 r1 q1=>q1 H1 Z g1 (ev.mono g s1) _ fun us H2 xs G2 s2 g2 r2 q2=>z _ H2 _ G2 (s1.trans s2) g2 (.cons (r1.mono g1 s2) r2) q2
theorem wq(h:Wa P w K tr Γ G fun ts G1=>ts.length<=1000/\k (.tup ts) G1):We P w K (tTup tr) Γ G k:=fun H Z g ev Q z=>h H Z g ev _ fun vs H1 ts G1 s1 g1 r1 q1=>⟨ik (by rw[<-r1.length];exact q1.1),fun p hp=>(z.mono s1).tup g1 hp r1 q1.2⟩
theorem wm(h:Wa P w K tr Γ G fun ts G1=>ts.length<=1000/\k (.lst ts) G1):We P w K (tLst tr) Γ G k:=fun H Z g ev Q z=>h H Z g ev _ fun vs H1 ts G1 s1 g1 r1 q1=>⟨ik (by rw[<-r1.length];exact q1.1),fun p hp=>(z.mono s1).lst g1 hp r1 q1.2⟩
theorem jr(h:Wa P w K tr Γ G fun ts G1=>ts.length<=1000/\∀ a,G1 a=none->k (.ptr a) (gput G1 a (.lst ts))):We P w K (tLst tr) Γ G k:=fun H Z g ev Q z=>h H Z g ev _ fun vs H1 ts G1 s1 g1 r1 q1=>⟨ik (by rw[<-r1.length];exact q1.1),fun p hp =>
 let ⟨g2,s2⟩:=g1.putL (.inr hp) r1;z _ _ _ _ (s1.trans s2) g2 .ptr (q1.2 p (g1.free hp))⟩
theorem wW{rr:List V->Hp->VK->Prop}(h:Wa P w K tr Γ G fun xs G1=>LNr P w K rr xs G1 k):We P w K (tCB rr tr) Γ G k:=fun H Z g ev Q z=>h H Z g ev _ fun us H1 xs G1 s1 g1 r1 q1=>q1 H1 us g1 r1 Q (z.mono s1)
theorem xE{sp:Sp}{E:XK}(h:Wa P w K tr Γ G fun xs G1=>LNr P w K (fun vs H Q=>sp vs H Q E) xs G1 k):We P w K (ij sp [] E tr) Γ G k:=fun H Z g ev Q z=>h H Z g ev _ fun us H1 xs G1 s1 g1 r1 q1=>by rw[dW];exact q1 H1 us g1 r1 Q (z.mono s1)
theorem xc{rr:V->Option Int->Option Int->Hp->VK->Prop}{tl th:TO}(h:We P w K te Γ G fun x G1=>Wo P w K tl Γ G1 fun l G2=>Wo P w K th Γ G2 fun u G3=>L1r P w K (fun v H Q=>rr v l u H Q) x G3 k):We P w K (tSl rr te tl th) Γ G k:=fun H Z g ev Q z =>
 h H Z g ev _ fun v H1 x G1 s1 g1 r1 q1=>q1 H1 Z g1 (ev.mono g s1) _ fun l H2 G2 s2 g2 q2=>q2 H2 Z g2 (ev.mono g (s1.trans s2)) _ fun u H3 G3 s3 g3 q3=>q3 H3 v g3 (r1.mono g1 (s2.trans s3)) Q (z.mono (s1.trans (s2.trans s3)))
theorem tD{ko:Option Int->GH->Prop}(h:ko none G):Wo P w K ph Γ G ko:=fun H Z g ev Q z=>z none H G .refl g h
theorem u8{ko:Option Int->GH->Prop}(h:We P w K te Γ G fun x G1=>∃ i,x=.int i/\ko (some i) G1):Wo P w K (qY te) Γ G ko:=fun H Z g ev Q z=>h H Z g ev _ fun v H1 x G1 s1 g1 r1 ⟨i,e,q⟩=>by subst e;cases r1;exact⟨i,rfl,z _ _ _ s1 g1 q⟩
theorem xm(h:We P w K te Γ G fun x G1=>∃ b,x=.bl b/\kb b G1):Wt P w K (mL te) Γ G kb:=fun H Z g ev Q z=>h H Z g ev _ fun v H1 x G1 s1 g1 r1 ⟨b,e,q⟩=>by subst e;cases r1;exact⟨b,rfl,z _ _ _ s1 g1 q⟩
theorem wt_b(h:We P w K te Γ G fun x G1=>∃ b,x=.bl b/\kb b G1):Wt P w K (tB te) Γ G kb:=fun H Z g ev Q z=>h H Z g ev _ fun v H1 x G1 s1 g1 r1 ⟨b,e,q⟩=>by subst e;cases r1;exact⟨b,rfl,z _ _ _ s1 g1 q⟩
theorem vD(h:Wt P w K c Γ G fun b G1=>if b=true then Wt P w K c2 Γ G1 kb else kb false G1):Wt P w K (tAnd c c2) Γ G kb:=fun H Z g ev Q z=>h H Z g ev _ fun b H1 G1 s1 g1 q1=>by
 cases b with
 | true=>exact iteT ((gp q1) H1 Z g1 (ev.mono g s1) Q fun b H2 G2 s2=>z b H2 G2 (s1.trans s2))
 | false=>exact iteF (z _ _ _ s1 g1 (gc q1))
theorem vI(h:Wt P w K c Γ G fun b G1=>if b=true then kb true G1 else Wt P w K c2 Γ G1 kb):Wt P w K (tOr c c2) Γ G kb:=fun H Z g ev Q z=>h H Z g ev _ fun b H1 G1 s1 g1 q1=>by
 cases b with
 | true=>exact iteT (z _ _ _ s1 g1 (gp q1))
 | false=>exact iteF ((gc q1) H1 Z g1 (ev.mono g s1) Q fun b H2 G2 s2=>z b H2 G2 (s1.trans s2))
theorem wp(h:Wt P w K c Γ G fun b G1=>kb (!b) G1):Wt P w K (tNot c) Γ G kb:=fun H Z g ev Q z=>h H Z g ev _ fun b H1 G1 s1 g1 q1=>z _ _ _ s1 g1 q1
theorem mD(h:kb true G):Wt P w K iK Γ G kb:=fun H Z g ev Q z=>z _ _ _ .refl g h
theorem xD(h:We P w K ta Γ G fun x G1=>∃ b,x=.bl b/\if b=true then We P w K tb Γ G1 k else k (.bl false) G1):We P w K (tAndV ta tb) Γ G k:=fun H Z g ev Q z=>h H Z g ev _ fun v H1 x G1 s1 g1 r1 ⟨b,e,q⟩=>by
 subst e;cases r1;refine⟨b,rfl,?_⟩;cases b with
 | true=>exact iteT ((gp q) H1 Z g1 (ev.mono g s1) Q (z.mono s1))
 | false=>exact iteF ((z.mono s1).here g1 .bl (gc q))
theorem tO(h:We P w K ta Γ G fun x G1=>∃ b,x=.bl b/\if b=true then k (.bl true) G1 else We P w K tb Γ G1 k):We P w K (tOrV ta tb) Γ G k:=fun H Z g ev Q z=>h H Z g ev _ fun v H1 x G1 s1 g1 r1 ⟨b,e,q⟩=>by
 subst e;cases r1;refine⟨b,rfl,?_⟩;cases b with
 | true=>exact iteT ((z.mono s1).here g1 .bl (gp q))
 | false=>exact iteF ((gc q) H1 Z g1 (ev.mono g s1) Q (z.mono s1))
theorem vB(h:We P w K ta Γ G fun x G1=>∃ b,x=.bl b/\k (.bl (!b)) G1):We P w K (tNotV ta) Γ G k:=fun H Z g ev Q z=>h H Z g ev _ fun v H1 x G1 s1 g1 r1 ⟨b,e,q⟩=>by subst e;cases r1;exact⟨b,rfl,(z.mono s1).here g1 .bl q⟩
theorem tH(h:Wt P w K c Γ G fun b G1=>if b=true then We P w K ta Γ G1 k else We P w K tb Γ G1 k):We P w K (tIf c ta tb) Γ G k:=fun H Z g ev Q z=>h H Z g ev _ fun b H1 G1 s1 g1 q1=>by
 cases b with
 | true=>exact iteT ((gp q1) H1 Z g1 (ev.mono g s1) Q (z.mono s1))
 | false=>exact iteF ((gc q1) H1 Z g1 (ev.mono g s1) Q (z.mono s1))
theorem wG(h:We P w K ta Γ G fun x G1=>We P w K tb Γ G1 fun y G2=>L2r P w K r x y G2 fun z G3=>∃ b,z=.bl b/\if b=true then We P w K tc Γ G3 (fun u G4=>L2r P w K r' y u G4 k) else k (.bl false) G3):We P w K (mh r r' ta tb tc) Γ G k:=fun H Z g ev Q z =>
 h H Z g ev _ fun v H1 x G1 s1 g1 r1 q1=>q1 H1 Z g1 (ev.mono g s1) _ fun u H2 y G2 s2 g2 r2 q2=>q2 H2 v u g2 (r1.mono g1 s2) r2 _ fun o H3 zz G3 s3 g3 r3 ⟨b,e,q3⟩=>by
  subst e;cases r3;refine⟨b,rfl,?_⟩;cases b with
  | true=>exact iteT ((gp q3) H3 Z g3 (ev.mono g (s1.trans (s2.trans s3))) _ fun m H4 mm G4 s4 g4 r4 q4=>q4 H4 u m g4 (r2.mono g2 (s3.trans s4)) r4 Q (z.mono (s1.trans (s2.trans (s3.trans s4)))))
  | false=>exact iteF ((z.mono (s1.trans (s2.trans s3))).here g3 .bl (gc q3))
theorem jZ(h:D.nx Γ G):Ws P w K rE Γ G D:=fun H Z g ev D' z=>z.nx Z H Γ G .refl g ev h
theorem cw(h:Ws P w K t Γ G { D with nx:=fun Γ' G'=>Ws P w K u Γ' G' D }):Ws P w K (tSeq t u) Γ G D:=fun H Z g ev D' z=>h H Z g ev _ ⟨fun σ' H' Γ' G' s g' e' q=>q H' σ' g' e' D' (z.mono s),z.rt,z.bk,z.ct⟩
theorem dC(h:We P w K te Γ G fun d G1=>Wg P w K g d Γ G1 D.nx):Ws P w K (tAsg te g) Γ G D:=fun H Z g ev D' z=>h H Z g ev _ fun v H1 x G1 s1 g1 r1 q1=>q1 H1 Z v g1 (ev.mono g s1) r1 _ (z.nx.mono s1)
theorem bt(h:kn (Γ.set i (some d)) G):Wg P w K (eK i) d Γ G kn:=fun H Z v g ev r R z=>z _ H _ G .refl g (ev.set r) h
theorem iT(h:kn Γ G):Wgs P w K gNil [] Γ G kn:=fun H Z v g ev r R z=>by cases r;exact⟨rfl,z _ H _ G .refl g ev h⟩
theorem dR(h:Wg P w K g d Γ G fun Γ' G'=>Wgs P w K gs ds Γ' G' kn):Wgs P w K (gCons g gs) (d::ds) Γ G kn:=fun H Z vs g ev r R z=>by
 cases r with
 | cons r1 r2=>exact⟨_,_,rfl,h H Z _ g ev r1 _ fun σ' H' Γ' G' s g' e' q=>q H' σ' _ g' e' (r2.mono g s) R (z.mono s)⟩
theorem cf{n:Nat}(hl:ds.length=n)(h:Wgs P w K gs ds Γ G kn):Wg P w K (gTup K n gs) (.tup ds) Γ G kn:=fun H Z v g ev r R z=>by
 cases r with
 | tup ha rs=>exact⟨_,_,rfl,SqT.of ha,by rw[<-rs.length];exact hl,h H Z _ g ev rs R z⟩
theorem iF(h:Wt P w K c Γ G fun b G1=>if b=true then Ws P w K t Γ G1 D else Ws P w K u Γ G1 D):Ws P w K (tIfS c t u) Γ G D:=fun H Z g ev D' z=>h H Z g ev _ fun b H1 G1 s1 g1 q1=>by
 cases b with
 | true=>exact iteT ((gp q1) H1 Z g1 (ev.mono g s1) D' (z.mono s1))
 | false=>exact iteF ((gc q1) H1 Z g1 (ev.mono g s1) D' (z.mono s1))
theorem lU(h:We P w K te Γ G fun _ G1=>D.nx Γ G1):Ws P w K (tDrop te) Γ G D:=fun H Z g ev D' z=>h H Z g ev _ fun v H1 x G1 s1 g1 r1 q1=>z.nx Z H1 Γ G1 s1 g1 (ev.mono g s1) q1
theorem GOk.del(g:GOk P w K G H)(hl:∀ x,G a≠some (.own x)):GOk P w K (gdel G a) H:=fun b c e=>by
 have hb:b≠a:=fun z=>by subst z;unfold gdel at e;rw[ak rfl] at e;cases e
 have e':G b=some c:=by unfold gdel at e;rwa [ao hb] at e
 have kk:Kp G H (gdel G a) H:=⟨fun _ _ h=>h,fun c xs n h=>⟨h,by unfold gdel;split <;> first|rfl|exact n⟩⟩;refine(g b c e').kp kk (fun _ h=>h) (fun l _=>⟨fun _ h=>h,fun q=>by unfold gdel;split <;> first|rfl|exact q⟩) fun C dx fs z q=>?_;unfold gdel;rw[ao]
 .exact q
 .intro z;subst z;exact hl _ q
def Cl(k:T->GH->Prop)(d:T)(G:GH):Prop:=∃ d' G',(∀ c,G c=none->G' c=none)/\(∀ P w K H v,GOk P w K G H->RepT K G H d v->GOk P w K G' H/\RepT K G' H d' v)/\k d' G'
theorem av(h:k d G):Cl k d G:=⟨d,G,fun _ h=>h,fun _ _ _ _ _ g r=>⟨g,r⟩,h⟩
theorem pU{ts:List T}:Kp G H (gdel G a) H:=⟨fun _ _ h=>h,fun c xs n h=>⟨h,by unfold gdel;split <;> first|rfl|exact n⟩⟩
theorem kf{ts:List T}(n:G a=none)(h:Cl k (.lst ts) G):Cl k (.ptr a) (gput G a (.lst ts)):=by
 obtain⟨d',G',h1,h2,h3⟩:=h;refine⟨d',G',fun c q=>h1 c ?_,fun P w K H v g r=>?_,h3⟩
 .by_cases e:c=a
  .rw[e];exact n
  .rwa [gp_n e] at q
 .cases r;have gd:=g.del (a:=a) fun x e=>by rw[gp_s] at e;cases e
  obtain⟨xs,e,rs⟩:=g a _ gp_s;have rs:=rs.kp (pU (ts:=ts) (a:=a));rw[gp_d n] at gd rs;exact h2 P w K H _ gd (.lst n e rs)
theorem fk{c0:Ct}(n:G a=none)(ho:∀ x,c0≠.own x)(h:Cl k d G):Cl k d (gput G a c0):=by
 obtain⟨d',G',h1,h2,h3⟩:=h;refine⟨d',G',fun c q=>h1 c ?_,fun P w K H v g r=>?_,h3⟩
 .by_cases e:c=a
  .rw[e];exact n
  .rwa [gp_n e] at q
 .have gd:=g.del (a:=a) fun x e=>by rw[gp_s] at e;cases e;exact ho _ rfl
  have rs:=r.kp (pU (ts:=[]) (a:=a));rw[gp_d n] at gd rs;exact h2 P w K H _ gd rs
theorem jv(h:We P w K te Γ G (Cl D.rt)):Ws P w K (tRet te) Γ G D:=fun H Z g ev D' z=>h H Z g ev _ fun v H1 x G1 s1 g1 r1 ⟨d',G',h1,h2,h3⟩ =>
 let ⟨g2,r2⟩:=h2 P w K H1 v g1 r1;z.rt v H1 d' G' (fun a o n e=>⟨(s1 a o n e).1,h1 a (s1 a o n e).2⟩) g2 r2 h3
def Cn(k:Ev->GH->Prop)(Γ:Ev)(G:GH):Prop:=∃ G',(∀ c,G c=none->G' c=none)/\(∀ P w K H,GOk P w K G H->GOk P w K G' H)/\k Γ G'
theorem ck(h:kn Γ G):Cn kn Γ G:=⟨G,fun _ h=>h,fun _ _ _ _ g=>g,h⟩
theorem Pn.cn{R:St->Hp->Prop}(p:Pn P w K G H kn R):Pn P w K G H (Cn kn) R:=fun σ' H' Γ' G' s g e ⟨G2,h1,h2,h3⟩=>p σ' H' Γ' G2 (fun a o n q=>⟨(s a o n q).1,h1 a (s a o n q).2⟩) (h2 _ _ _ _ g) ⟨e.len,fun i t q=>let ⟨v,hv,r⟩:=e.at' i t q;⟨v,hv,r.kp ⟨fun _ _ h=>h,fun c xs n h=>⟨h,h1 c n⟩⟩⟩⟩ h3
theorem tz{wi:TI}(h:Wi P w K wi Γ G fun xs kp G1=>∃ I:Nat->Ev->GH->Prop,I 0 Γ G1/\(∀ i Γ' G',I i Γ' G'->kp G')/\(∀ (i:Nat) x Γ' G',xs[i]?=some x->I i Γ' G'->Wg P w K g x Γ' G' fun Γ2 G2=>Ws P w K t Γ2 G2 { D with nx:=Cn (I (i+1)),ct:=Cn (I (i+1)),bk:=D.nx })/\∀ Γ' G',I xs.length Γ' G'->D.nx Γ' G'):Ws P w K (tFor wi g t) Γ G D:=fun H Z g ev D' z =>
 h H Z g ev _ fun J H1 xs kp G1 s1 g1 it z0_=>by
  obtain⟨I,i0,hk,hs,hd⟩:=z0_;refine⟨fun i m Z H=>∃ Γ' G',m=xs.length-i/\i<=xs.length/\Stp G1 H1 G' H/\GOk P w K G' H/\EnvOk K G' H Z Γ'/\I i Γ' G',⟨_,Γ,G1,rfl,cb _,.refl,g1,ev.mono g s1,i0⟩,?_⟩;rintro i m Z H ⟨Γ',G',rfl,hi,s2,g2,e2,p⟩;obtain⟨j1,j2⟩:=it G' H s2 g2 (hk i Γ' G' p);by_cases hlt:i<xs.length
  .obtain ⟨jg,jy⟩:=j1 i xs[i] (ay hlt);refine .inr ⟨jg,fun σ' H'=>∃ Γ' G',Stp G1 H1 G' H'/\GOk P w K G' H'/\EnvOk K G' H' σ' Γ'/\I (i+1) Γ' G',fun σ' H' z1_=>by obtain⟨Γ',G',q1,q2,q3,q4⟩:=z1_;exact⟨_,by lia,Γ',G',rfl,hlt,q1,q2,q3,q4⟩,fun x H' y=>?_⟩;obtain⟨sm,rx⟩:=jy x H' y;have nn:Pn P w K G' H' (I (i+1)) fun σ' H'=>∃ Γ' G',Stp G1 H1 G' H'/\GOk P w K G' H'/\EnvOk K G' H' σ' Γ'/\I (i+1) Γ' G':=fun σ' H3 Γ3 G3 s3 g3 e3 q3=>⟨Γ3,G3,s2.trans ((Stp.same sm).trans s3),g3,e3,q3⟩;refine hs i _ Γ' G' (ay hlt) p H' Z x (g2.same sm) (e2.mono g2 (.same sm)) rx _ fun σ3 H3 Γ3 G3 s3 g3 e3 q3=>q3 H3 σ3 g3 e3 _ ?_;have s4:=s1.trans (s2.trans ((Stp.same sm).trans s3));exact⟨(nn.mono s3).cn,z.rt.mono s4,z.nx.mono s4,(nn.mono s3).cn⟩
  .have e:i=xs.length:=by lia
   subst e;exact .inl ⟨j2,z.nx Z H Γ' G' (s1.trans s2) g2 e2 (hd Γ' G' p)⟩
theorem qe{LN:List Str}{fr:List Nat}(e:EnvOk K G H Z Γ):EnvOk K G H (gB LN fr Z) (List.replicate LN.length none++fr.map fun j=>(Γ[j]?).getD none):=by
 unfold gB;refine⟨by simp,fun i t q=>?_⟩;by_cases h:i<LN.length
 .rw[cm (by simpa using h)] at q;simp[jF,h] at q
 .rw[gu (by simpa using h),ir,ah] at q;rw[gu (by simpa using h),ir,ah];cases hf:fr[i - LN.length]? with
  | none=>rw[hf] at q;cases q
  | some j =>
   rw[hf] at q;simp only[fR,Option.some.injEq] at q ⊢;cases hg:Γ[j]? with
   | none=>rw[hg] at q;cases q
   | some o =>
    rw[hg] at q;simp only[su] at q;subst q;obtain⟨v,e1,e2⟩:=e.at' j t hg;exact⟨v,by rw[e1];rfl,e2⟩
noncomputable abbrev bkE(n:Nat)(fr:List Nat)(Γ:Ev):Ev:=List.replicate n none++fr.map fun j=>(Γ[j]?).getD none
theorem jV {LN:List Str} {fr:List Nat} {wi:TI} {tt:TT} (h:Wi P w K wi Γ G fun xs kp G1=>xs.length<=100000/\∃ I:Nat->List T->Ev->GH->Prop,I 0 [] (bkE LN.length fr Γ) G1/\(∀ i acc Γ' G',I i acc Γ' G'->kp G') /\
   (∀ (i:Nat) x acc Γ' G',xs[i]?=some x->I i acc Γ' G'->Wg P w K g x Γ' G' fun Γ2 G2=>Wt P w K tt Γ2 G2 fun b G3=>if b=true then We P w K te Γ2 G3 (fun d G4=>I (i+1) (acc++[d]) Γ2 G4) else I (i+1) acc Γ2 G3) /\
   ∀ acc Γ' G',I xs.length acc Γ' G'->k (.lst acc) G'):We P w K (fW LN fr wi g tt te) Γ G k:=fun H Z g ev Q z =>
 h H Z g ev _ fun J H1 xs kp G1 s1 g1 it z0_=>by
  obtain⟨hz,I,i0,hk,hs,hd⟩:=z0_;refine mT xs.length (ja (by lia)) (fun i ys Z H=>∃ acc Γ' G',Stp G1 H1 G' H/\GOk P w K G' H/\EnvOk K G' H Z Γ'/\RepTs K G' H acc ys/\I i acc Γ' G') ⟨[],_,G1,.refl,g1,qe (ev.mono g s1),.nil,i0⟩ ?_ ?_ ?_ ?_
  .rintro i ys Z H hi ⟨acc,Γ',G',s2,g2,e2,r2,p⟩;exact((it G' H s2 g2 (hk _ _ _ _ p)).1 i xs[i] (ay hi)).1
  .rintro ys Z H ⟨acc,Γ',G',s2,g2,e2,r2,p⟩;exact(it G' H s2 g2 (hk _ _ _ _ p)).2
  .rintro i x ys Z H H' hi hy hy2 ⟨acc,Γ',G',s2,g2,e2,r2,p⟩ y;obtain ⟨sm,rx⟩:=((it G' H s2 g2 (hk _ _ _ _ p)).1 i xs[i] (ay hi)).2 x H' y;refine hs i _ acc Γ' G' (ay hi) p H' Z x (g2.same sm) (e2.mono g2 (.same sm)) rx _ fun σ3 H3 Γ3 G3 s3 g3 e3 q3=>q3 H3 σ3 g3 e3 _ fun b H4 G4 s4 g4 q4=>?_;have r4:=r2.mono g2 ((Stp.same sm).trans (s3.trans s4));have st4:=s2.trans ((Stp.same sm).trans (s3.trans s4));cases b with
   | true =>
    refine iteT ((gp q4) H4 σ3 g4 (e3.mono g3 s4) _ fun v H5 d G5 s5 g5 r5 q5=>⟨hy2,by rw[aH];simpa using hy,?_⟩);exact⟨acc++[d],Γ3,G5,st4.trans s5,g5,e3.mono g3 (s4.trans s5),(r4.mono g4 s5).app (.cons r5 .nil),q5⟩
   | false=>exact iteF ⟨by lia,acc,Γ3,G4,st4,g4,e3.mono g3 s4,r4,gc q4⟩
  .rintro ys Z H hl ⟨acc,Γ',G',s2,g2,e2,r2,p⟩ q hq;exact(z.mono (s1.trans s2)).lst g2 hq r2 (hd acc Γ' G' p)
end
section
variable{X:Cx}
noncomputable def rAll(K:W.Frag):List V->Hp->VK->Prop:=fun xs H Q=>∃ (a:Addr) (bs:List Bool),xs=[.ref a]/\SqL K H a (bs.map V.bl)/\Q (.bl (bs.all id)) H
theorem all_range(bs:List Bool):(List.range bs.length).all (fun i=>bs.getD i false)=bs.all id:=by
 rw[kZ,iZ,iZ];constructor
 .intro h b hb;obtain⟨j,hj,rfl⟩:=getElem_of_mem hb;have:=h j (gr.mpr hj);simpa [hj] using this
 .intro h j hj;have hj:=gr.mp hj;have:=h bs[j] (getElem_mem hj);simpa [hj] using this
theorem ZmF(hc:X.calm=true):ca X (.builtin "all") (rAll X.K):=by
 intro pins s Z H xs us Q I r h;obtain⟨a,bs,rfl,ha,q⟩:=h;obtain⟨u,rfl,ru⟩:=vals1 r;cases ru;obtain⟨its,vx,ht,_⟩:=I.list ha;have hlen:=vx.length;rw[af] at hlen;have hlt:a<s.heap.objs.size:=by obtain⟨_,e,_⟩:=ht.isList;exact ba e
 refine call_all_walk (jE ht.isList ?_);refine⟨_,_,_,_,_,_,fun i=>bs.getD i false,rfl,Walks.list (A:=X.A.in1) (I.ok.hd hc) _ a (bP hlt) its.toArray,⟨⟨_,bQ _ rfl,rfl,rfl⟩,ht.isList.push _⟩,?_,fun h' tk hk=>?_⟩
 .intro i v s' Q' E' hv hq;have hv':its[i]?=some v:=by simpa using hv
  have hi:=(aX.mp hv').1;have hib:i<bs.length:=by lia
  obtain⟨u',eu,ru⟩:=vx.get (i:=i) (x:=.bl bs[i]) (by rw[ah,ay hib];rfl);rw[hv'] at eu;cases eu;cases ru;have e:bs.getD i false=bs[i]:=by simp[hib]
  have hq:Q' (bs.getD i false) s':=hq;rw[e] at hq;exact fP hq
 .have hsz:its.toArray.size=bs.length:=by simp;lia
  rw[hsz,all_range];refine⟨.bl _,H,I.kept fun b o e=>?_,rfl,q⟩;refine hk b o (fun hm=>?_) (be _ e);have:b=s.heap.objs.size:=by simpa using hm
  rw[this] at e;exact absurd (ba e) (gq _)
theorem iC{K:W.Frag}(h:X.K=K)(hc:X.calm=true):ca X (.builtin "all") (rAll K):=h▸ZmF hc
end
noncomputable def cutT(ts:List T)(lo hi:Option Int):List T:=(ts.drop (HT.sIx ts.length 0 lo)).take (HT.sIx ts.length ts.length hi-HT.sIx ts.length 0 lo)
theorem Zpc{α:Type}(n:Nat)(v:α):(List.replicate n [v]).flatten=List.replicate n v:=by
 induction n with
 | zero=>rfl
 | succ n ih=>rw[iy,iz,ih,iy];rfl
def SqI(G:GH)(x:T)(ts:List T):Prop:=x=.lst ts\/∃ a,x=.ptr a/\G a=some (.lst ts)
def SqG(G:GH)(x:T)(ts:List T):Prop:=x=.tup ts\/SqI G x ts
section
variable{P:Program}{w:World}{K:W.Frag}{G G1 G2 G':GH}{H H1 H2 H':Hp}{a:Addr}{Γ:Ev}{Z:St}{ta tb tc te to ti:TE}{k:T->GH->Prop}{kb:Bool->GH->Prop}{ka:List T->GH->Prop}{kn:Ev->GH->Prop}{Q:VK}{d x y z:T}{D:EndT}{t u:TS}{c c2:TT}{tr:TA}{r r':R2}{g:TG}{gs:TGs}{ds ts us xs:List T}{i j:Int}{v:V}
theorem RepTs.cut{vs:List V}{lo hi:Option Int}(r:RepTs K G H ts vs):RepTs K G H (cutT ts lo hi) (cutV vs lo hi):=by unfold cutT cutV;rw[r.length];exact(r.drop _).take _
theorem kW(g:GOk P w K G H)(s:SqG G x ts)(r:RepT K G H x v):∃ a vs,v=.ref a/\RepTs K G H ts vs/\(H a=some (.lst vs)\/H a=some (.tup vs)):=by
 rcases s with rfl|rfl|⟨a,rfl,e⟩
 .cases r with|tup h q=>exact⟨_,_,rfl,q,.inr h⟩
 .cases r with|lst _ h q=>exact⟨_,_,rfl,q,.inl h⟩
 .cases r;obtain⟨vs,h,q⟩:=g a _ e;exact⟨_,vs,rfl,q,.inl h⟩
theorem eS(g:GOk P w K G H)(s:SqI G x ts)(r:RepT K G H x v):∃ a vs,v=.ref a/\RepTs K G H ts vs/\H a=some (.lst vs):=by
 rcases s with rfl|⟨a,rfl,e⟩
 .cases r with|lst _ h q=>exact⟨_,_,rfl,q,h⟩
 .cases r;obtain⟨vs,h,q⟩:=g a _ e;exact⟨_,vs,rfl,q,h⟩
theorem si_l:SqI G (.lst ts) ts:=.inl rfl
theorem si_p(h:G a=some (.lst ts)):SqI G (.ptr a) ts:=.inr ⟨a,rfl,h⟩
theorem fj(h:SqI G x ts):SqG G x ts:=.inr h
theorem sg_t:SqG G (.tup ts) ts:=.inl rfl
theorem sg_l:SqG G (.lst ts) ts:=.inr (.inl rfl)
theorem sg_p(h:G a=some (.lst ts)):SqG G (.ptr a) ts:=.inr (.inr ⟨a,rfl,h⟩)
theorem l_II{f:Int->Int->Int}(h:k (.int (f i j)) G):L2r P w K (rI0 fun i j=>V.int (f i j)) (.int i) (.int j) G k:=fun H u v g r1 r2 Q z=>by cases r1;cases r2;exact⟨i,j,rfl,rfl,z.here g .int h⟩
theorem l_IB{f:Int->Int->Bool}(h:k (.bl (f i j)) G):L2r P w K (rI0 fun i j=>V.bl (f i j)) (.int i) (.int j) G k:=fun H u v g r1 r2 Q z=>by cases r1;cases r2;exact⟨i,j,rfl,rfl,z.here g .bl h⟩
theorem l_IC{C:Int->Int->Prop}{f:Int->Int->Int}(hc:C i j)(h:k (.int (f i j)) G):L2r P w K (rI C fun i j=>V.int (f i j)) (.int i) (.int j) G k:=fun H u v g r1 r2 Q z=>by cases r1;cases r2;exact⟨i,j,rfl,rfl,hc,z.here g .int h⟩
theorem l_U{f:Int->Int}(h:k (.int (f i)) G):L1r P w K (rU fun i=>V.int (f i)) (.int i) G k:=fun H u g r1 Q z=>by cases r1;exact⟨i,rfl,z.here g .int h⟩
theorem sL(h:k (.bl (decide (i=j))) G):L2r P w K rEq (.int i) (.int j) G k:=fun H u v g r1 r2 Q z=>by cases r1;cases r2;exact uD (z.here g .bl h)
theorem vS(h:k (.bl (!decide (i=j))) G):L2r P w K rNe (.int i) (.int j) G k:=fun H u v g r1 r2 Q z=>by cases r1;cases r2;exact wo (z.here g .bl h)
theorem uX{i j:Str}(h:k (.bl (decide (i=j))) G):L2r P w K rEq (.str i) (.str j) G k:=fun H u v g r1 r2 Q z=>by cases r1;cases r2;exact yg (z.here g .bl h)
theorem xC{i j:Str}(h:k (.bl (!decide (i=j))) G):L2r P w K rNe (.str i) (.str j) G k:=fun H u v g r1 r2 Q z=>by cases r1;cases r2;exact tV (z.here g .bl h)
theorem pA{i j:Bool}(h:k (.bl (decide (i=j))) G):L2r P w K rEq (.bl i) (.bl j) G k:=fun H u v g r1 r2 Q z=>by cases r1;cases r2;exact uw (z.here g .bl h)
noncomputable def T.isN:T->Bool|.non=>true|_=>false
theorem RepT.isN(r:RepT K G H x v):decide (v=.non)=x.isN:=by cases r <;> rfl
theorem xO(h:k (.bl x.isN) G):L2r P w K rIsN x .non G k:=fun H u v g r1 r2 Q z=>by cases r2;exact⟨rfl,by rw[r1.isN];exact z.here g .bl h⟩
theorem vK(h:k (.bl (!x.isN)) G):L2r P w K rNotN x .non G k:=fun H u v g r1 r2 Q z=>by cases r2;exact⟨rfl,by rw[r1.isN];exact z.here g .bl h⟩
theorem l_ix(s:SqG G x ts)(e:atI ts i=some d)(h:k d G):L2r P w K (rIxA K) x (.int i) G k:=fun H u v g r1 r2 Q z=>by
 cases r2;obtain⟨a,vs,rfl,rs,ha⟩:=kW g s r1;have:∃ v,atI vs i=some v/\RepT K G H d v:=by
  unfold atI at e ⊢;rw[rs.length] at e;cases q:ixN vs.length i with
  | none=>rw[q] at e;cases e
  | some j=>rw[q] at e;exact rs.get e
 obtain⟨v,e2,rv⟩:=this;rcases ha with ha|ha
 .exact dA ha e2 (z.here g rv h)
 .exact Zpg ha e2 (z.here g rv h)
theorem cS(s:SqG G x ts)(h:k (.int ts.length) G):LNr P w K (rLen K) [x] G k:=fun H us g r Q z=>by
 cases r with
 | cons r1 r2 =>
  cases r2;obtain⟨a,vs,rfl,rs,ha⟩:=kW g s r1;rcases ha with ha|ha
  .exact xV (SqL.of ha) (by rw[<-rs.length];exact z.here g .int h)
  .exact Zna (SqT.of ha) (by rw[<-rs.length];exact z.here g .int h)
theorem iU{lo hi:Option Int}(s:SqI G x ts)(h:k (.lst (cutT ts lo hi)) G):L1r P w K (fun v H Q=>rSlL K v lo hi H Q) x G k:=fun H u g r1 Q z=>by
 obtain⟨a,vs,rfl,q,e⟩:=eS g s r1;exact qP (SqL.of e) fun p hp=>z.lst g hp q.cut h
theorem fi{lo hi:Option Int}(h:k (.tup (cutT ts lo hi)) G):L1r P w K (fun v H Q=>rSlW K v lo hi H Q) (.tup ts) G k:=fun H u g r1 Q z=>by
 cases r1 with|tup e q=>exact rd_slW e fun p H' e' s=>z _ _ _ _ (.same s) (g.same s) (.tup e' (q.cut.mono g (.same s))) h
theorem gH(hz:ts.length+us.length<=1000000)(h:k (.tup (ts++us)) G):L2r P w K (lQ K) (.tup ts) (.tup us) G k:=fun H u v g r1 r2 Q z=>by
 cases r1 with|tup e q=>cases r2 with|tup e2 q2=>exact Zpk e e2 (by rw[<-q.length,<- q2.length];exact hz) fun p H' e' s=>z _ _ _ _ (.same s) (g.same s) (.tup e' ((q.app q2).mono g (.same s))) h
theorem fg(s:SqI G x ts)(s2:SqI G y us)(hz:ts.length+us.length<=1000000)(h:k (.lst (ts++us)) G):L2r P w K rCat x y G k:=fun H u v g r1 r2 Q z=>by
 obtain⟨a,vs,rfl,q,e⟩:=eS g s r1;obtain⟨b,ws,rfl,q2,e2⟩:=eS g s2 r2;exact wO e e2 (ja (by rw[<-q.length,<- q2.length];exact hz)) fun p hp=>z.lst g hp (q.app q2) h
theorem eZ(s:SqG G x ts)(n:∀ ts,x≠.tup ts)(h:k (.tup ts) G):LNr P w K (kG K) [x] G k:=fun H us g r Q z=>by
 cases r with
 | cons r1 r2 =>
  cases r2;rcases s with rfl|rfl|⟨a,rfl,e⟩
  .exact absurd rfl (n _)
  .cases r1 with|lst _ e q=>exact v4 (SqL.of e) fun p hp=>z.tup g hp q h
  .cases r1;obtain⟨vs,e',q⟩:=g a _ e;exact v4 (SqL.of e') fun p hp=>z.tup g hp q h
theorem qQ(s:SqG G x ts)(h:k (.lst ts) G):LNr P w K (lW K) [x] G k:=fun H us g r Q z=>by
 cases r with
 | cons r1 r2 =>
  cases r2;obtain⟨a,vs,rfl,rs,ha⟩:=kW g s r1;exact⟨a,vs,rfl,ha.imp SqL.of SqT.of,fun p hp=>z.lst g hp rs h⟩
theorem ZnB(s:SqG G x ts)(h:∀ a,G a=none->k (.ptr a) (gput G a (.lst ts))):LNr P w K (lW K) [x] G k:=fun H us g r Q z=>by
 cases r with
 | cons r1 r2 =>
  cases r2;obtain⟨a,vs,rfl,rs,ha⟩:=kW g s r1;refine⟨a,vs,rfl,ha.imp SqL.of SqT.of,fun p hp=>?_⟩;obtain⟨g2,s2⟩:=g.putL (.inr hp) rs;exact z _ _ _ _ s2 g2 .ptr (h p (g.free hp))
theorem RepTs.repl:∀ (n:Nat),RepT K G H d v->RepTs K G H (List.replicate n d) (List.replicate n v)
 | 0,_=>.nil
 | n+1,r=>.cons r (RepTs.repl n r)
theorem l_rep(h1:-1000<=i)(h2:i<=1000)(h:k (.lst (List.replicate i.toNat d)) G):L2r P w K rRep (.lst [d]) (.int i) G k:=fun H u v g r1 r2 Q z=>by
 cases r2;cases r1 with
 | lst _ e q =>
  cases q with
  | cons q1 q2 =>
   cases q2;refine⟨_,i,_,rfl,rfl,e,by lia,by lia,by rw[dY,lB];exact ik (by lia),fun p hp=>?_⟩;have:True:=trivial;rw[Zpc];exact z.lst g hp (RepTs.repl _ q1) h
def TyG(T:String)(G:GH)(x:L2.T):Prop:=T="list"/\∃ ts,(x=.lst ts\/∃ a,x=.ptr a/\G a=some (.lst ts))
theorem tyg(T:String)(g:GOk P w K G H)(s:TyG T G x)(r:RepT K G H x v):tyV K T v H:=by
 obtain⟨rfl,ts,s⟩:=s;rcases s with rfl|⟨a,rfl,e⟩
 .cases r with|lst _ h q=>exact .inl ⟨rfl,_,SqL.of h⟩
 .cases r;obtain⟨vs,h,q⟩:=g a _ e;exact .inl ⟨rfl,_,SqL.of h⟩
def LBr(P:Program)(w:World)(K:W.Frag)(r:V->List V->Hp->VK->Prop)(x:T)(ys:List T)(G:GH)(k:T->GH->Prop):Prop:=∀ H u vs,GOk P w K G H->RepT K G H x u->RepTs K G H ys vs->∀ Q,Pst P w K G H k Q->r u vs H Q
theorem qg{T:String}{rr:V->List V->Hp->VK->Prop}(h:We P w K to Γ G fun x G1=>TyG T G1 x/\Wa P w K tr Γ G1 fun ys G2=>LBr P w K rr x ys G2 k):We P w K (tBM K T rr to tr) Γ G k:=fun H Z g ev Q z=>h H Z g ev _ fun v H1 x G1 s1 g1 r1 q1=>⟨tyg T g1 q1.1 r1,q1.2 H1 Z g1 (ev.mono g s1) _ fun us H2 ys G2 s2 g2 r2 q2=>q2 H2 v us g2 (r1.mono g1 s2) r2 Q (z.mono (s1.trans s2))⟩
theorem pj{T:String}{rr:V->List V->Hp->VK->Prop}(h:We P w K to Γ G fun x G1=>TyG T G1 x/\LBr P w K rr x [] G1 k):We P w K (tBM0 K T rr to) Γ G k:=fun H Z g ev Q z=>h H Z g ev _ fun v H1 x G1 s1 g1 r1 q1=>⟨tyg T g1 q1.1 r1,q1.2 H1 v [] g1 r1 .nil Q (z.mono s1)⟩
theorem ty_p(h:G a=some (.lst ts)):TyG "list" G (.ptr a):=⟨rfl,ts,.inr ⟨a,rfl,h⟩⟩
theorem gJ(e:G a=some (.lst ts))(hl:ts.length<1000000)(h:k .non (gput G a (.lst (ts++[y])))):LBr P w K qu (.ptr a) [y] G k:=fun H u vs g r1 r2 Q z=>by
 cases r1;cases r2 with
 | cons q1 q2 =>
  cases q2;obtain⟨xs,h1,rs⟩:=g a _ e;obtain⟨g2,s2⟩:=g.putL (.inl ⟨_,e⟩) (rs.app (.cons q1 .nil));refine Zlb h1 ?_ (z _ _ _ _ s2 g2 .non h);rw[<-rs.length];rw[PySem.sizeLine_eq];lia
theorem tU(h:We P w K to Γ G fun o G1=>We P w K ti Γ G1 fun x G2=>∃ a ts i j,o=.ptr a/\x=.int i/\G2 a=some (.lst ts)/\ixN ts.length i=some j/\kn Γ (gput G2 a (.lst (ts.set j d)))):Wg P w K (gSub to ti lP) d Γ G kn:=fun H Z v g ev rv R z =>
 h H Z g ev _ fun o H1 x G1 s1 g1 r1 q1=>q1 H1 Z g1 (ev.mono g s1) _ fun iv H2 y G2 s2 g2 r2 z0_=>by
  obtain⟨a,ts,i,j,e1,e2,ea,ej,q⟩:=z0_;subst e1 e2;cases r1;cases r2;obtain⟨xs,h1,rs⟩:=g2 a _ ea;have s12:=s1.trans s2;obtain⟨g3,s3⟩:=g2.putL (.inl ⟨_,ea⟩) (rs.set j (rv.mono g s12));exact⟨a,xs,i,j,rfl,rfl,h1,by rw[<-rs.length];exact ej,z _ _ _ _ (s12.trans s3) g3 (ev.mono g (s12.trans s3)) q⟩
theorem va : ∀ {ss : List Str} {vs : List V}, RepTs K G H (ss.map T.str) vs->vs=ss.map V.str
  | [], _, r=>by cases r; rfl
  | s :: ss, _, r => by
    cases r with
    | cons r1 r2=>cases r1; rw[va r2]; rfl
theorem qL(s:Str)(ss:List Str):inV (.str s) (ss.map V.str)=ss.contains s:=by
 induction ss with
 | nil=>rfl
 | cons x xs ih =>
  unfold inV at ih ⊢;rw[aL,gK,ih,contains_cons];show (x == s || _)=_;rw[Bool.beq_comm]
theorem rK(ss:List Str):(ss.map V.str).all fZ=true:=by induction ss <;> simp_all [fZ]
theorem sM{s:Str}{ss:List Str}(h:k (.bl (ss.contains s)) G):L2r P w K (rIn K false) (.str s) (.cst ss) G k:=fun H u v g r1 r2 Q z=>by
 cases r1;cases r2 with|cst e=>exact⟨_,_,rfl,.inr (e H),rfl,rK _,by rw[qL];exact z.here g .bl h⟩
theorem bu{neg:Bool}{s:Str}{ss:List Str}(hs:SqG G y (ss.map T.str))(h:k (.bl (if neg then !ss.contains s else ss.contains s)) G):L2r P w K (rIn K neg) (.str s) y G k:=fun H u v g r1 r2 Q z=>by
 cases r1;obtain⟨a,vs,rfl,rs,ha⟩:=kW g hs r2;rw[va rs] at ha;exact⟨a,_,rfl,ha.imp SqL.of SqT.of,rfl,rK _,by rw[qL];exact z.here g .bl h⟩
theorem pR{ss:List Str}(h:k (.cst ss) G):We P w K (tCT K (ss.map V.str)) Γ G k:=fun H Z g ev Q z a e=>z.here g (.cst e) h
theorem wY{kx:List T->(GH->Prop)->GH->Prop}(h:We P w K te Γ G fun x G1=>∃ ts,SqI G1 x ts/\kx ts (fun G'=>SqI G' x ts) G1):Wi P w K (mE K te) Γ G kx:=fun H Z g ev Q z=>h H Z g ev _ fun v H1 x G1 s1 g1 r1 ⟨ts,e,q⟩=>by
 obtain⟨a,vs,rfl,rs,h1⟩:=eS g1 e r1;refine⟨a,rfl,⟨vs,SqL.of h1⟩,z _ _ ts _ _ s1 g1 (fun G' H' s' g' kp=>?_) q⟩;obtain⟨a',vs',ea,r',l'⟩:=eS g' kp (r1.mono g1 s');cases ea;refine⟨fun i x e=>?_,⟨vs',SqL.of l',ix r'.length.symm⟩⟩;obtain⟨u,eu,ru⟩:=r'.get e;exact⟨⟨vs',u,SqL.of l',eu⟩,fun v H2 ⟨e2,y⟩=>by subst e2;have:=y vs' (SqL.of l');rw[eu] at this;cases this;exact⟨.refl _,ru⟩⟩
theorem uP{kx:List T->(GH->Prop)->GH->Prop}(h:We P w K te Γ G fun x G1=>∃ ts,x=.tup ts/\kx ts (fun _=>True) G1):Wi P w K (iTup K te) Γ G kx:=fun H Z g ev Q z=>h H Z g ev _ fun v H1 x G1 s1 g1 r1 ⟨ts,e,q⟩=>by
 subst e;cases r1 with
 | @tup a vs _ h1 rs =>
  refine⟨a,rfl,⟨vs,SqT.of h1⟩,z _ _ ts _ _ s1 g1 (fun G' H' s' g' _=>?_) q⟩;have l':=(s' a _ (g1.tup h1) h1).1;have r':=rs.mono g1 s';refine⟨fun i x e=>?_,⟨vs,SqT.of l',ix rs.length.symm⟩⟩;obtain⟨u,eu,ru⟩:=r'.get e;exact⟨⟨vs,u,SqT.of l',eu⟩,fun v H2 ⟨e2,y⟩=>by subst e2;have:=y vs (SqT.of l');rw[eu] at this;cases this;exact⟨.refl _,ru⟩⟩
noncomputable def rngT(n:Nat):List T:=(List.range n).map fun(i:Nat)=>T.int (i:Int)
theorem wX{kx:List T->(GH->Prop)->GH->Prop}(h:Wa P w K tr Γ G fun xs G1=>∃ j:Int,xs=[.int j]/\j<=1000000/\-1000000<=j/\kx (rngT j.toNat) (fun _=>True) G1):Wi P w K (om tr) Γ G kx:=fun H Z g ev Q z=>h H Z g ev _ fun vs H1 xs G1 s1 g1 r1 ⟨j,e,h1,h2,q⟩=>by
 subst e;cases r1 with
 | cons r1 r2 =>
  cases r1;cases r2;refine⟨j,rfl,by lia,by lia,z _ _ _ _ _ s1 g1 (fun G' H' s' g' _=>⟨fun i x e=>?_,?_⟩) q⟩
  .unfold rngT at e;rw[ah] at e;obtain⟨m,em,rfl⟩:=aV.mp e;obtain⟨hi,ei⟩:=aX.mp em;rw[getElem_range] at ei;rw[eE] at hi;subst ei;exact⟨hi,fun v H2 ⟨e2,y⟩=>by subst e2 y;rw[nH];exact⟨.refl _,.int⟩⟩
  .show j.toNat<=(rngT j.toNat).length;unfold rngT;rw[af,eE];exact aE _
theorem wD(I:Nat->Ev->GH->Prop)(m:Nat)(h0:I m Γ G)(h:∀ m Γ' G',I m Γ' G'->Wt P w K c Γ' G' fun b G1=>if b=true then Ws P w K t Γ' G1 { D with nx:=Cn fun Γ2 G2=>∃ m',m'<m/\I m' Γ2 G2,ct:=Cn fun Γ2 G2=>∃ m',m'<m/\I m' Γ2 G2,bk:=D.nx } else D.nx Γ' G1):Ws P w K (yc c t) Γ G D:=fun H Z g ev D' z=>by
 refine⟨fun m σ' H'=>∃ Γ' G',Stp G H G' H'/\GOk P w K G' H'/\EnvOk K G' H' σ' Γ'/\I m Γ' G',⟨m,Γ,G,.refl,g,ev,h0⟩,?_⟩;rintro m σ' H' ⟨Γ',G',s1,g1,e1,p⟩;refine h m Γ' G' p H' σ' g1 e1 _ fun b H2 G2 s2 g2 q2=>?_;have s12:=s1.trans s2;cases b with
 | true =>
  refine iteT ⟨fun σ' H'=>∃ Γ' G',Stp G H G' H'/\GOk P w K G' H'/\EnvOk K G' H' σ' Γ'/\∃ m',m'<m/\I m' Γ' G',fun σ3 H3 z0_=>by obtain⟨Γ3,G3,q1,q2,q3,m',hm,q4⟩:=z0_;exact⟨m',hm,Γ3,G3,q1,q2,q3,q4⟩,(gp q2) H2 σ' g2 (e1.mono g1 s2) _ ?_⟩;have nn:Pn P w K G2 H2 (fun Γ2 G2=>∃ m',m'<m/\I m' Γ2 G2) fun σ' H'=>∃ Γ' G',Stp G H G' H'/\GOk P w K G' H'/\EnvOk K G' H' σ' Γ'/\∃ m',m'<m/\I m' Γ' G':=fun σ3 H3 Γ3 G3 s3 g3 e3 q3=>⟨Γ3,G3,s12.trans s3,g3,e3,q3⟩;exact⟨nn.cn,z.rt.mono s12,z.nx.mono s12,nn.cn⟩
 | false=>exact iteF (z.nx σ' H2 Γ' G2 s12 g2 (e1.mono g1 s2) (gc q2))
end
noncomputable abbrev Pre:=List T->GH->(T->GH->Prop)->Prop
def spG(P:Program)(w:World)(K:W.Frag)(pre:Pre):Sp:=fun vs H Q _=>∃ ts G k,GOk P w K G H/\RepTs K G H ts vs/\pre ts G k/\Pst P w K G H k Q
noncomputable def startT(N:List Str)(ts:List T):Ev:=ts.map some++List.replicate (N.length-ts.length) none
noncomputable def qy(P:Program)(w:World)(K:W.Frag)(mg:Str->Option Value)(base:Heap)(N:List Str)(x:Str)(st:Stmt)(f:Addr)(cdv:Value)(A:Around)(outer:List Env)(s:Shared)(H:Hp)(E:XK)(ts:List T)(G:GH)(k:T->GH->Prop):Prop :=
 ∃ t,PSs (cxOf CX0 P w K mg base N x (aC st) f cdv A outer s H E).nox (dH st) t/\Ws P w K t (startT N ts) G { nx:=fun _ G'=>k .non G',rt:=k }
section
variable{P:Program}{w:World}{K:W.Frag}{mg:Str->Option Value}{base:Heap}{x m qual:Str}{st:Stmt}{ps N:List Str}{pre:Pre}{kk:Nat}{C:Addr}
theorem ZkW{G:GH}{H:Hp}{ts:List T}{vs:List V}(r:RepTs K G H ts vs):EnvOk K G H (start N vs) (startT N ts):=by
 unfold start startT;have hl:=r.length;refine⟨by simp[hl],fun i t e=>?_⟩;by_cases h:i<ts.length
 .rw[cm (by simpa using h),ah] at e;obtain⟨t',e1,e2⟩:=aV.mp e;cases e2;obtain⟨v,ev,rv⟩:=r.get e1;exact⟨v,by rw[cm (by simpa [<-hl] using h),ah,ev];rfl,rv⟩
 .rw[gu (by simpa using h)] at e;simp[jF] at e
theorem Zme{f:Addr}{cdv:Value}{A:Around}{outer:List Env}{s:Shared}{H:Hp}{E:XK}{ts:List T}{G:GH}{k:T->GH->Prop}{vs:List V}{Q:VK}(h:qy P w K mg base N x st f cdv A outer s H E ts G k)(g:GOk P w K G H)(r:RepTs K G H ts vs)(z:Pst P w K G H k Q) :
  ∃ t,PSs (cxOf CX0 P w K mg base N x (aC st) f cdv A outer s H E).nox (dH st) t/\t { nx:=fun _ H'=>Q .non H',rt:=Q } (start N vs) H:=by
 obtain⟨t,h1,h2⟩:=h;exact⟨t,h1,h2 H _ g (ZkW r) _ ⟨fun σ' H' Γ' G' s' g' e' q=>z _ _ _ _ s' g' .non q,z,fun _ _ _ _ _ _ _ q=>q.elim,fun _ _ _ _ _ _ _ q=>q.elim⟩⟩
abbrev HdG(P:Program)(w:World)(K:W.Frag)(mg:Str->Option Value)(base:Heap)(N:List Str)(x:Str)(st:Stmt)(kk:Nat)(pre:Pre):Prop:=∀ (f:Addr) (cdv:Value) (A:Around) (outer:List Env) (s:Shared) (H:Hp) (E:XK) (ts:List T) (G:GH) (k:T->GH->Prop),Room kk (A.deeper (envOfC x (aC st) s.heap.objs.size f cdv))->pre ts G k->qy P w K mg base N x st f cdv A outer s H E ts G k
theorem TopFn.okG(T:TopFn K mg x st ps)(S:FnScope N ps (aC st))(hl:∀ ts G k,pre ts G k->ts.length=ps.length)(h:HdG P w K mg base N x st kk pre):Callee P w K mg base x (kk+1) ps (spG P w K pre) :=
 T.callee fun f fd F=>F.ok S (fun vs H Q E z0_=>by obtain⟨ts,G,k,g,r,p,z⟩:=z0_;rw[<-r.length];exact hl _ _ _ p) fun cdv A outer s H vs Q E hr z1_=>by obtain⟨ts,G,k,g,r,p,z⟩:=z1_;exact Zme (h f cdv A outer s H E ts G k hr p) g r z
theorem go_G{f:Addr}{cdv:Value}{A:Around}{outer:List Env}{s:Shared}{H:Hp}{E:XK}{ts:List T}{G:GH}{k:T->GH->Prop}{t:TS}(Γ:Ev)(hΓ:startT N ts=Γ)(h:PSs (cxOf CX0 P w K mg base N x (aC st) f cdv A outer s H E).nox (dH st) t)(q:Ws P w K t Γ G { nx:=fun _ G'=>k .non G',rt:=k }):qy P w K mg base N x st f cdv A outer s H E ts G k:=⟨t,h,by rw[hΓ];exact q⟩
end
section
variable{P:Program}{w:World}{K:W.Frag}{G G1 G2 G':GH}{H H1 H2 H':Hp}{a b l C dx:Addr}{Γ:Ev}{Z:St}{ta tb tc te to ti tv:TE}{k:T->GH->Prop}{kb:Bool->GH->Prop}{ka:List T->GH->Prop}{kn:Ev->GH->Prop}{Q:VK}{d x y z:T}{D:EndT}{t u:TS}{c c2:TT}{tr:TA}{ds ts us xs:List T}{i j:Int}{v:V}{pre:Pre}{E:XK}{f m:Str}{fs:List (Str×T)}
theorem wI(h:pre xs G k):LNr P w K (fun vs H Q=>spG P w K pre vs H Q E) xs G k:=fun H us g r Q z=>⟨xs,G,k,g,r,h,z⟩
theorem s9(g:GOk P w K G H)(e:G b=some (.bag l))(B:BagAt H' b l)(s:BSame b H H'):GOk P w K G H'/\Stp G H G H':=by
 have st:Stp G H G H':=fun a o n h=>⟨s a o (fun z=>by rw[z,e] at n;cases n) h,n⟩;refine⟨fun a c q=>?_,st⟩;by_cases h:a=b
 .subst h;rw[e] at q;cases q;exact⟨B,(g a _ e).2⟩
 .refine (g a c q).kp (st.kp g) (fun o=>s a o h) (fun l' z=>⟨fun o ho=>s l' o (fun zz=>?_) ho,id⟩) fun _ _ _ _=>id;subst z zz;have:=(g a _ q).2;rw[e] at this;cases this
theorem bA(e:G b=some (.bag l))(h:0<i/\i<=10^65)(q:∀ r,0<=r->r<i->k (.int r) G):LNr P w K (fun vs H Q=>m4 vs H Q E) [.ptr b,.int i] G k:=fun H us g r Q z=>by
 cases r with|cons r1 r2=>cases r2 with|cons r2 r3 =>
 cases r1;cases r2;cases r3;refine use2 ⟨b,l,i,rfl,rfl,h,(g b _ e).1,fun r H' h1 h2 B s=>?_⟩;obtain⟨g2,s2⟩:=s9 g e B s;exact z _ _ _ _ s2 g2 .int (q r h1 h2)
theorem uh(e:G b=some (.bag l))(q:∀ r,r.natAbs<=10^60->k (.int r) G):LNr P w K (fun vs H Q=>wS vs H Q E) [.ptr b] G k:=fun H us g r Q z=>by
 cases r with|cons r1 r2 =>
 cases r1;cases r2;refine use1 ⟨b,l,rfl,(g b _ e).1,fun r H' h1 B s=>?_⟩;obtain⟨g2,s2⟩:=s9 g e B s;exact z _ _ _ _ s2 g2 .int (q r h1)
end
noncomputable abbrev K2:=List (List Key)
noncomputable def deedRowsT:List (Str×List Str):=[("test",["zero","below"]),("tell",["tell"]),("take",["take"])]
noncomputable abbrev Fm:=Int×List (Int×Int)
noncomputable abbrev SF:=Int×Int×List Fm
noncomputable def Rw.goes:Rw->Int->Bool
 | .zero _ _,n=>decide (n=0)
 | _,n=>decide (n<0)
section
variable{P:Program}{w:World}{K:W.Frag}{G G1 G2 G':GH}{H H1 H2 H':Hp}{a b:Addr}{Γ:Ev}{ta te td ty tx tv:TE}{k:T->GH->Prop}{d x y z:T}{v:V}{t:List (Int×Int)}{D:EndT}{i j:Int}
theorem GOk.putB(g:GOk P w K G H)(h:(∃ t,G a=some (.tb t))\/H a=none)(n:(t.map (·.1)).Nodup):GOk P w K (gput G a (.tb t)) (upd H a (.dK (kvT t)))/\Stp G H (gput G a (.tb t)) (upd H a (.dK (kvT t))):=by
 have ga:∀ c,G a=some c->∃ t,c=.tb t:=fun c e=>by
  rcases h with ⟨us,h⟩|h
  .rw[h] at e;cases e;exact⟨us,rfl⟩
  .rw[g.free h] at e;cases e
 refine g.put (h.imp (fun⟨us,e⟩=>⟨_,e⟩) id) ⟨bJ,n⟩ (fun b l hb e z=>?_) (fun b C dx fs hb e z=>?_)
 .subst z;obtain ⟨o,q⟩:=(g b _ e).1.lo;rcases h with ⟨us,h⟩|h
  .have:=(g b _ e).2;rw[h] at this;cases this
  .rw[h] at q;cases q
 .subst z;obtain⟨_,_,q,_⟩:=g b _ e;obtain⟨t,z⟩:=ga _ q;cases z
theorem vd(h:∀ p,G p=none->k (.ptr p) (gput G p (.tb []))):We P w K pX Γ G k:=fun H Z g ev Q z p hp=>by
 obtain⟨g2,s2⟩:=g.putB (t:=[]) (.inr hp) fz;exact z _ _ _ _ s2 g2 .ptr (h p (g.free hp))
theorem ux(h:We P w K td Γ G fun x G1=>∃ a t0,x=.ptr a/\G1 a=some (.tb t0)/\We P w K ty Γ G1 fun y G2=>We P w K tx Γ G2 fun z G3=>∃ t i,G3 a=some (.tb t)/\y=.int i/\z=.int 0/\k (.int (aZ t i)) G3):We P w K (yl td ty tx) Γ G k:=fun H Z g ev Q z=>h H Z g ev _ fun v H1 x G1 s1 g1 r1 z0_=>by
 obtain⟨a,t0,e,ea,q1⟩:=z0_;subst e;cases r1;have h1:=(g1 a _ ea).1;refine⟨a,rfl,.inl ⟨_,.inl h1⟩,q1 H1 Z g1 (ev.mono g s1) _ fun v2 H2 y G2 s2 g2 r2 q2=>q2 H2 Z g2 (ev.mono g (s1.trans s2)) _ fun v3 H3 zz G3 s3 g3 r3 z1_=>?_⟩;obtain⟨t,i,e3,ey,ez,q3⟩:=z1_;subst ey ez;cases r2;cases r3;refine⟨_,DGet.k (k:=Sum.inl i) (g3 a _ e3).1,?_⟩;rw[ZkL];exact(z.mono (s1.trans (s2.trans s3))).here g3 .int q3
theorem ZoY(h:We P w K td Γ G fun x G1=>We P w K ty Γ G1 fun y G2=>∃ a t i,x=.ptr a/\G2 a=some (.tb t)/\y=.int i/\i∈t.map (·.1)/\k (.int (aZ t i)) G2):We P w K (pP td ty) Γ G k:=fun H Z g ev Q z=>h H Z g ev _ fun v H1 x G1 s1 g1 r1 q1=>q1 H1 Z g1 (ev.mono g s1) _ fun v2 H2 y G2 s2 g2 r2 z0_=>by
 obtain⟨a,t,i,ex,e3,ey,hi,q3⟩:=z0_;subst ex ey;cases r1;cases r2;have:=DGet.k (k:=(Sum.inl i:Key)) (g2 a _ e3).1;rw[tQ hi] at this;exact⟨a,_,rfl,this,(z.mono (s1.trans s2)).here g2 .int q3⟩
theorem ZoL(h:We P w K tv Γ G fun v G1=>We P w K td Γ G1 fun x G2=>We P w K ty Γ G2 fun y G3=>∃ a t i n,v=.int (aZ t i+n)/\x=.ptr a/\G3 a=some (.tb t)/\y=.int i/\t.length<100000/\D.nx Γ (gput G3 a (.tb (addT t i n)))):Ws P w K (mQ td ty tv) Γ G D:=fun H Z g ev D' z=>h H Z g ev _ fun v1 H1 vv G1 s1 g1 r1 q1=>q1 H1 Z g1 (ev.mono g s1) _ fun v2 H2 x G2 s2 g2 r2 q2=>q2 H2 Z g2 (ev.mono g (s1.trans s2)) _ fun v3 H3 y G3 s3 g3 r3 z0_=>by
 obtain⟨a,t,i,n,ev1,ex,e3,ey,hl,q3⟩:=z0_;subst ev1 ex ey;cases r1;cases r2;cases r3;obtain⟨h3,nd⟩:=g3 a _ e3;obtain⟨g4,s4⟩:=g3.putB (.inl ⟨_,e3⟩) (x8 (w:=i) (x:=n) nd);have st:=s1.trans (s2.trans (s3.trans s4));refine⟨a,_,rfl,DPut.k (k:=Sum.inl i) h3 (by unfold kvT;rw[af,PySem.sizeLine_eq];lia),?_⟩;rw[Znk nd];exact z.nx _ _ _ _ st g4 (ev.mono g st) q3
noncomputable def sortI(l:List Int):List Int:=l.mergeSort fun a b=>decide (a<=b)
theorem gX(l:List Int):(sortI l).Perm l:=mergeSort_perm _ _
theorem ul(l:List Int):(sortI l).Pairwise (·<=·):=by
 have:=pairwise_mergeSort (le:=fun a b:Int=>decide (a<=b)) (fun a b c h1 h2=>by simp only[sj] at *;lia) (fun a b=>by simp only[Bool.or_eq_true,sj];lia) l;exact this.imp fun h=>by simpa using h
theorem repI:∀ {ns:List Int},RepTs K G H (ns.map T.int) (ns.map V.int)
 | []=>.nil
 | n::ns=>.cons .int repI
theorem xw(e:G a=some (.tb t))(hl:t.length<64)(h:k (.lst ((sortI (t.map (·.1))).map T.int)) G):LNr P w K vC [.ptr a] G k:=fun H us g r Q z=>by
 cases r with
 | cons r1 r2 =>
  cases r1;cases r2;refine⟨a,kvT t,t.map (·.1),rfl,(g a _ e).1,ZnD t,by rw[af];exact hl,fun ms p h1 h2 hp=>?_⟩;rw[tG h2 (ul _) (h1.trans (gX _).symm)];exact z.lst g hp repI h
end
theorem yj{b:Bool}{R:Bool->Prop}(h:R b):∃ k,T.bl b=T.bl k/\R k:=⟨b,rfl,h⟩
theorem xh{b:Int}{R:Int->Prop}(h:R b):∃ k,T.int b=T.int k/\R k:=⟨b,rfl,h⟩
theorem vb{n:Nat}{p:Prop}(h:Nat.ble n 1000=true)(q:p):n<=1000/\p:=⟨i5 h,q⟩
noncomputable abbrev prT(p:Int×Int):T:=.tup [.int p.1,.int p.2]
noncomputable abbrev fmT(f:Fm):T:=.tup [.int f.1,.tup (f.2.map prT)]
noncomputable def ofW(w:Int):Fm:=(0,[(1,w)])
noncomputable def wnF(c:Int)(t:List (Int×Int)):Fm:=(c,ci t (sortI (t.map (·.1))))
noncomputable def bU(f g:Fm)(n:Int):Fm:=wnF (f.1+n*g.1) (bm (bm [] f.2 1) g.2 n)
noncomputable def ii(f:Fm)(n:Int):Fm:=wnF (f.1*n) (bm [] f.2 n)
noncomputable def bG(f:Fm)(fl:List Fm):Fm:=wnF (putC f.1 f.2 fl) (cT f.2 fl)
structure Fo(n:Nat)(B:Nat)(f:Fm):Prop where
 c:f.1.natAbs<=B
 a:∀ p∈f.2,p.1.natAbs<=B
 w:∀ p∈f.2,0<=p.2/\p.2<n
 nd:(f.2.map (·.2)).Nodup
theorem Fo.le{n m B C:Nat}{f:Fm}(h:Fo n B f)(h1:n<=m)(h2:B<=C):Fo m C f:=⟨bh h.c h2,fun p q=>bh (h.a p q) h2,fun p q=>⟨(h.w p q).1,by have:=(h.w p q).2;lia⟩,h.nd⟩
theorem mI{n:Nat}:∀ (l:List Int),l.Nodup->(∀ x∈l,0<=x/\x<n)->l.length<=n:=by
 intro l hn h;have h1:(l.map Int.toNat).Nodup:=by
  refine List.Pairwise.map _ (fun a b (hab:a≠b/\0<=a/\0<=b)=>by lia) ?_;exact yw (fun {a b} ha hb hab=>⟨hab,(h a ha).1,(h b hb).1⟩) hn
 have h2:(l.map Int.toNat) ⊆ List.range n:=fun x hx=>by
  obtain⟨y,hy,rfl⟩:=aT.mp hx;have:=h y hy;exact gr.mpr (by lia)
 have:=List.Nodup.length_le_of_subset h1 h2;simpa using this
theorem Fo.len{n B:Nat}{f:Fm}(h:Fo n B f):f.2.length<=n:=by
 have:=mI (n:=n) (f.2.map (·.2)) h.nd fun x hx=>by obtain⟨p,hp,rfl⟩:=aT.mp hx;exact h.w p hp
 simpa using this
theorem mR : ∀ {ps : List (Int×Int)} {B : Nat} (w : Int), (ps.map (·.2)).Nodup->(∀ p∈ps, p.1.natAbs<=B)->(atW ps w).natAbs<=B
  | [], B, w, _, _=>by unfold atW; simp
  | p :: ps, B, w, hn, h => by
    rw[aL,dX] at hn;rw[gT];by_cases e:p.2=w
    . rw[ak e, jC fun q hq hw => hn.1 (aT.mpr ⟨q, hq, hw.trans e.symm⟩)]
      have:=h p aO;simpa using this
    . rw[ao e, nH]
      exact mR w hn.2 fun q hq=>h q (bw _ hq)
theorem kE : ∀ (ps t : List (Int×Int)) (n x : Int), x∈(bm t ps n).map (·.1)->x∈t.map (·.1)\/x∈ps.map (·.2)
  | [], t, n, x, h=>.inl h
  | p :: ps, t, n, x, h => by
    rcases kE ps (addT t p.2 (p.1*n)) n x h with h|h
    . rw[qM] at h
      split at h
      . exact .inl h
      . rcases aS.mp h with h | h
        . exact .inl h
        . rw[aM] at h; exact .inr (by rw[h]; exact aO)
    . exact .inr (bw _ h)
theorem sV{n B:Nat}{c:Int}{t:List (Int×Int)}(hn:(t.map (·.1)).Nodup)(hw:∀ x∈t.map Prod.fst,0<=x/\x<n)(hc:c.natAbs<=B)(hb:∀ w,(aZ t w).natAbs<=B):Fo n B (wnF c t):=by
 have hp:=gX (t.map (·.1));have e:(wnF c t).2.map (·.2)=(sortI (t.map (·.1))).filter fun w=>decide (aZ t w≠0):=by unfold wnF ci;rw[fA];exact map_id _
 refine⟨hc,fun p h=>?_,fun p h=>?_,?_⟩
 .obtain ⟨w,_,rfl⟩:=aT.mp h;exact hb w
 .have h2:p.2∈(wnF c t).2.map (·.2):=aT.mpr ⟨p,h,rfl⟩;rw[e] at h2;exact hw _ (hp.mem_iff.mp (kX.mp h2).1)
 .rw[e];exact(hp.nodup_iff.mpr hn).filter _
theorem rG{n B C:Nat}{f g:Fm}{m:Int}(hf:Fo n B f)(hg:Fo n C g):((bm (bm [] f.2 1) g.2 m).map (·.1)).Nodup/\(∀ x∈(bm (bm [] f.2 1) g.2 m).map Prod.fst,0<=x/\x<n)/\∀ w,(aZ (bm (bm [] f.2 1) g.2 m) w).natAbs<=B+m.natAbs*C:=by
 refine⟨fJ _ _ (fJ _ _ fz),fun x hx=>?_,fun w=>?_⟩
 .rcases kE _ _ _ _ hx with hx|hx
  .rcases kE _ _ _ _ hx with hx|hx
   .cases hx
   .obtain ⟨p,hp,rfl⟩:=aT.mp hx;exact hf.w p hp
  .obtain ⟨p,hp,rfl⟩:=aT.mp hx;exact hg.w p hp
 .rw[hX,hX];show ((0:Int)+_*1+_).natAbs<=_;have h1:=mR w hf.nd hf.a;have h2:=mR w hg.nd hg.a;have h3:=nJ m.natAbs h2;rw[<-lC,jP] at h3;rw[nH,ng];exact bh (Int.natAbs_add_le _ _) (Nat.add_le_add h1 h3)
theorem mS{n B C:Nat}{f g:Fm}{m:Int}(hf:Fo n B f)(hg:Fo n C g):Fo n (B+m.natAbs*C) (bU f g m):=by
 obtain⟨h1,h2,h3⟩:=rG (m:=m) hf hg;refine sV h1 h2 ?_ h3;have h4:=nJ m.natAbs hg.c;rw[<-lC] at h4;exact bh (Int.natAbs_add_le _ _) (Nat.add_le_add hf.c h4)
theorem um{n B:Nat}{f:Fm}{m:Int}(hf:Fo n B f):((bm [] f.2 m).map (·.1)).Nodup/\(∀ x∈(bm [] f.2 m).map Prod.fst,0<=x/\x<n)/\∀ w,(aZ (bm [] f.2 m) w).natAbs<=m.natAbs*B:=by
 refine⟨fJ _ _ fz,fun x hx=>?_,fun w=>?_⟩
 .rcases kE _ _ _ _ hx with hx|hx
  .cases hx
  .obtain ⟨p,hp,rfl⟩:=aT.mp hx;exact hf.w p hp
 .rw[hX];show ((0:Int)+_).natAbs<=_;have h3:=nJ m.natAbs (mR w hf.nd hf.a);rw[<-lC,jP] at h3;lia
theorem ZkS{n B:Nat}{f:Fm}{m:Int}(hf:Fo n B f):Fo n (m.natAbs*B) (ii f m):=by
 obtain⟨h1,h2,h3⟩:=um (m:=m) hf;refine sV h1 h2 ?_ h3;have h4:=nJ m.natAbs hf.c;rw[<-lC,jP] at h4;exact h4
section
variable{P:Program}{w:World}{K:W.Frag}{G G1 G2 G':GH}{H H1 H2 H':Hp}{a b:Addr}{Γ:Ev}{ta te td ty tx tv:TE}{tr:TA}{k:T->GH->Prop}{d x y z:T}{v:V}{i j n:Int}{ts us:List T}
theorem uB : ∀ {bs : List Bool} {vs : List V}, RepTs K G H (bs.map T.bl) vs->vs=bs.map V.bl
  | [], _, r=>by cases r; rfl
  | s :: ss, _, r => by
    cases r with
    | cons r1 r2=>cases r1; rw[uB r2]; rfl
theorem xB : ∀ {bs : List Int} {vs : List V}, RepTs K G H (bs.map T.int) vs->vs=bs.map V.int
  | [], _, r=>by cases r; rfl
  | s :: ss, _, r => by
    cases r with
    | cons r1 r2=>cases r1; rw[xB r2]; rfl
theorem sU{bs:List Bool}(h:k (.bl (bs.all id)) G):LNr P w K (rAll K) [.lst (bs.map T.bl)] G k:=fun H us g r Q z=>by
 cases r with|cons r1 r2=>cases r2;cases r1 with|lst _ e q=>exact⟨_,bs,rfl,by rw[<-uB q];exact SqL.of e,z.here g .bl h⟩
mutual
noncomputable def emb:D->T
 | .non=>.non
 | .bl b=>.bl b
 | .int i=>.int i
 | .str x=>.str x
 | .tup ds=>.tup (embs ds)
noncomputable def embs:List D->List T
 | []=>[]
 | d::ds=>emb d::embs ds
end
mutual
theorem rJ : ∀ {d : D} {v : V}, RepT K G H (emb d) v->Rep H d v
  | .non, v, r=>by rw[emb] at r; cases r; rw[Rep]
  | .bl b, v, r=>by rw[emb] at r; cases r; rw[Rep]
  | .int i, v, r=>by rw[emb] at r; cases r; rw[Rep]
  | .str x, v, r=>by rw[emb] at r; cases r; rw[Rep]
  | .tup ds, v, r => by
    rw[emb] at r;cases r with
    | tup h rs=>exact Zpb h (u7 rs)
theorem u7 : ∀ {ds : List D} {vs : List V}, RepTs K G H (embs ds) vs->Reps H ds vs
  | [], vs, r=>by rw[embs] at r; cases r; exact Zm7
  | d :: ds, vs, r => by
    rw[embs] at r;cases r with
    | cons h rs=>exact Zk4 (rJ h) (u7 rs)
end
theorem l_eqD{ds es:List D}(p1:D.pls ds=true)(p2:D.pls es=true)(hd:D.deps ds<=40)(h:k (.bl (eqD (.tup ds) (.tup es))) G):L2r P w K rEqD (.tup (embs ds)) (.tup (embs es)) G k:=fun H u v g r1 r2 Q z =>
 ⟨ds,es,rJ (d:=.tup ds) (by rw[emb];exact r1),rJ (d:=.tup es) (by rw[emb];exact r2),p1,p2,hd,z.here g .bl h⟩
end
end L2
end
section
namespace L2
open PySem
noncomputable abbrev rowT(r:Rw):T:=.tup (.str r.row.1::embs r.row.2)
noncomputable abbrev dfT(d:Df):T:=.tup [.int d.takes,.int d.boxes,.lst (d.rows.map rowT)]
noncomputable abbrev pgT(P:List Df):T:=.lst (P.map dfT)
noncomputable abbrev sfT(s:SF):T:=.tup [.int s.1,.int s.2.1,.tup (s.2.2.map fmT)]
theorem fc{α:Type}(l:List α)(x:α):atI (l++[x]) (-1)=some x:=by
 unfold atI ixN;rw[ao (by decide),ak (by rw[aH];simp;lia)];show (l++[x])[((-1:Int)+(l++[x]).length).toNat]?=_;have:((-1:Int)+(l++[x]).length).toNat=l.length:=by rw[aH];simp;lia
 rw[this];exact cq
theorem Zqn{α:Type}(l:List α)(x y:α):atI (l++[x,y]) (-2)=some x:=by
 unfold atI ixN;rw[ao (by decide),ak (by rw[aH];simp;lia)];show (l++[x,y])[((-2:Int)+(l++[x,y]).length).toNat]?=_;have:((-2:Int)+(l++[x,y]).length).toNat=l.length:=by rw[aH];simp;lia
 rw[this,gu (aE _),Nat.sub_self];rfl
theorem at_0{α:Type}{x:α}{l:List α}:atI (x::l) 0=some x:=by
 unfold atI ixN;rw[ak (by decide),ak (by rw[cz];lia)];rfl
theorem at_1{α:Type}{x y:α}{l:List α}:atI (x::y::l) 1=some y:=by
 unfold atI ixN;rw[ak (by decide),ak (by rw[cz,cz];lia)];rfl
theorem at_2{α:Type}{x y z:α}{l:List α}:atI (x::y::z::l) 2=some z:=by
 unfold atI ixN;rw[ak (by decide),ak (by rw[cz,cz,cz];lia)];rfl
theorem at_i{α:Type}{l:List α}{i:Int}{x:α}(h:0<=i)(e:l[i.toNat]?=some x):atI l i=some x:=cD (n:=i.toNat) (by lia) e
theorem mK(l:List T)(x:T):cutT (l++[x]) none (some (-1))=l:=by
 unfold cutT HT.sIx;rw[aH,dY];dsimp only;rw[ak (by decide),drop_zero,nK];have:((-1:Int)+((l.length+1:Nat):Int)).toNat=l.length:=by lia
 rw[this];exact take_left
theorem iG{l:List T}{i:Int}(h:0<=i)(h2:i<=l.length):cutT l none (some i)=l.take i.toNat:=by
 unfold cutT HT.sIx;dsimp only;rw[ao (by lia),drop_zero,nK]
 congr 1
 lia
theorem iV{l:List T}{i:Int}(h:0<=i)(h2:i<=l.length):cutT l (some i) none=l.drop i.toNat:=by
 unfold cutT HT.sIx;dsimp only;rw[ao (by lia)];have:min i.toNat l.length=i.toNat:=by lia
 rw[this,take_of_length_le (by rw[iX];exact aE _)]
section
variable{P:Program}{w:World}{K:W.Frag}{G:GH}{k:T->GH->Prop}{d:T}{ts:List T}{i:Int}
theorem eA(e:atI ts i=some d)(h:k d G):L2r P w K (rIxA K) (.tup ts) (.int i) G k:=l_ix sg_t e h
theorem aU(e:atI ts i=some d)(h:k d G):L2r P w K (rIxA K) (.lst ts) (.int i) G k:=l_ix sg_l e h
theorem vX(h:k (.int ts.length) G):LNr P w K (rLen K) [.tup ts] G k:=cS sg_t h
theorem uA(h:k (.int ts.length) G):LNr P w K (rLen K) [.lst ts] G k:=cS sg_l h
end
noncomputable def xR(vs:List V):List Str:=vs.filterMap fun v=>match v with|.str x=>some x|_=>none
theorem uM{P:Program}{w:World}{K:W.Frag}{G:GH}{k:T->GH->Prop}{Γ:Ev}{vs:List V}(e:(xR vs).map V.str=vs)(h:k (.cst (xR vs)) G):We P w K (tCT K vs) Γ G k:=by
 have:=pR (P:=P) (w:=w) (K:=K) (Γ:=Γ) h
 rwa [e] at this
theorem cu{P:Program}{w:World}{K:W.Frag}{G:GH}{k:T->GH->Prop}{Γ:Ev}{LN:List Str}{fr:List Nat}{wi:TI}{g:TG}{te:TE}(Sh:Ev->Prop)
  (h:Wi P w K wi Γ G fun xs kp G1=>xs.length<=100000/\kp G1/\Sh (bkE LN.length fr Γ)/\∃ ys:List T,ys.length=xs.length/\(∀ (i:Nat) x y Γ',xs[i]?=some x->ys[i]?=some y->Sh Γ'->Wg P w K g x Γ' G1 fun Γ2 G2=>Sh Γ2/\G2=G1/\We P w K te Γ2 G1 fun d G4=>d=y/\G4=G1)/\k (.lst ys) G1):We P w K (fW LN fr wi g iK te) Γ G k:=by
 refine jV fun H Z g ev Q z=>h H Z g ev Q fun J H' xs kp G' s1 g1 it ⟨hl,hk,sh,ys,hy,hs,q⟩=>z J H' xs kp G' s1 g1 it ⟨hl,fun i acc Γ2 G2=>Sh Γ2/\G2=G'/\acc=ys.take i,⟨sh,rfl,rfl⟩,fun i acc Γ2 G2 z0_=>by obtain⟨_,e,_⟩:=z0_;exact e▸hk,fun i x acc Γ2 G2 hx ⟨sh2,e,ea⟩=>?_,fun acc Γ2 G2 ⟨_,e,ea⟩=>?_⟩
 .subst e ea;have hi:=(aX.mp hx).1;have ey:ys[i]?=some (ys[i]'(by lia)):=ay _;intro H3 σ3 v g3 e3 r3 R z3;refine hs i x _ Γ2 hx ey sh2 H3 σ3 v g3 e3 r3 R fun σ4 H4 Γ4 G4 s4 g4 e4 ⟨sh4,eG,we⟩=>z3 σ4 H4 Γ4 G4 s4 g4 e4 ?_;subst eG;refine mD (iteT fun H5 σ5 g5 e5 Q5 z5=>we H5 σ5 g5 e5 Q5 fun v6 H6 d6 G6 s6 g6 r6 ⟨ed,eg⟩=>z5 v6 H6 d6 G6 s6 g6 r6 ?_);subst ed eg;exact⟨sh4,rfl,by rw[eP,ey];rfl⟩
 .subst e ea;rw[<-hy,eQ];exact q
theorem jY:∀ qs:List Int,embs (qs.map D.int)=qs.map T.int
 | []=>by rw[gw,embs];rfl
 | q::qs=>by rw[aL,embs,jY qs,emb];rfl
noncomputable def gtF(s:SF)(q:Int):Fm:=s.2.2.getD q.toNat (0,[])
noncomputable def fE(fr:List SF)(s:SF)(p:Int)(f:Fm):List SF:=fr++[(s.1,s.2.1+1,s.2.2.set p.toNat f)]
noncomputable def cJ(fr:List SF)(s:SF)(t:Int):List SF:=fr++[(s.1,t,s.2.2)]
noncomputable def iD(P:List Df)(g:Int):Int:=((P[g.toNat]?).map (·.boxes)).getD 0
noncomputable def eJ(P:List Df)(s:SF)(g:Int)(qs:List Int):SF:=(g,0,qs.map (gtF s)++List.replicate (iD P g-qs.length).toNat (0,[]))
noncomputable def bK(s:SF):Rw->Option (Int×Fm)
 | .put p n=>some (p,(n,[]))
 | .copy p q=>some (p,gtF s q)
 | .plus p q r=>some (p,bU (gtF s q) (gtF s r) 1)
 | .less p q r=>some (p,bU (gtF s q) (gtF s r) (-1))
 | .times p q n=>some (p,ii (gtF s q) n)
 | _=>none
noncomputable def Rw.cbox:Rw->Int
 | .call p _ _=>p
 | _=>0
noncomputable def cF (P : List Df) (fr : List SF) (s : SF) : Option (List SF) := match cr P s.1 s.2.1 with
  | none=>none
  | some r => match bK s r with
    | some (p, f)=>some (fE fr s p f)
    | none => match r with
      | .jump t=>some (cJ fr s t)
      | .zero p t=>if (gtF s p).2=[] then some (cJ fr s (if (gtF s p).1=0 then t else s.2.1+1)) else none
      | .below p t=>if (gtF s p).2=[] then some (cJ fr s (if (gtF s p).1<0 then t else s.2.1+1)) else none
      | .call _ g qs=>if fr.length<3 then some (fr++[s, eJ P s g qs]) else none
      | .back p => match fr.getLast? with
        | none=>none
        | some c=>some (fE fr.dropLast c ((cr P c.1 c.2.1).map Rw.cbox |>.getD 0) (gtF s p))
      | _=>none
structure SfOk(P:List Df)(n B:Nat)(s:SF):Prop where
 ex:∃ d r,0<=s.1/\P[s.1.toNat]?=some d/\0<=s.2.1/\d.rows[s.2.1.toNat]?=some r/\(s.2.2.length:Int)=d.boxes
 fm:∀ f∈s.2.2,Fo n B f
theorem SfOk.le{P:List Df}{n m B C:Nat}{s:SF}(h:SfOk P n B s)(h1:n<=m)(h2:B<=C):SfOk P m C s:=⟨h.ex,fun f hf=>(h.fm f hf).le h1 h2⟩
structure FrsOk(P:List Df)(n B:Nat)(fr:List SF)(s:SF):Prop where
 few:fr.length<=3
 all:∀ t∈fr++[s],SfOk P n B t
 call:∀ t∈fr,∃ p g qs,cr P t.1 t.2.1=some (.call p g qs)
structure PgK(P:List Df):Prop where
 ok:PgOk P
 b:∀ d∈P,d.boxes<=8
theorem dZ{P:List Df}{n B:Nat}{s:SF}(h:SfOk P n B s):∃ d r,d∈P/\P[s.1.toNat]?=some d/\cr P s.1 s.2.1=some r/\d.rows[s.2.1.toNat]?=some r/\0<=s.1/\0<=s.2.1/\(s.2.2.length:Int)=d.boxes:=by
 obtain⟨d,r,h1,h2,h3,h4,h5⟩:=h.ex;exact⟨d,r,aD h2,h2,by unfold cr;rw[h2];exact h4,h4,h1,h3,h5⟩
theorem rM{P:List Df}{n B:Nat}{s:SF}(h:SfOk P n B s){q:Int}(h1:0<=q)(h2:q<s.2.2.length):Fo n B (gtF s q)/\s.2.2[q.toNat]?=some (gtF s q):=by
 have e:s.2.2[q.toNat]?=some (gtF s q):=by
  unfold gtF;rw[cA,ay (by lia)];rfl
 exact⟨h.fm _ (aD e),e⟩
theorem mf{P:List Df}{n B:Nat}{s:SF}(h:SfOk P n B s){p:Int}{f:Fm}(hf:Fo n B f){t:Int}(ht:0<=t)(hr:∀ d,P[s.1.toNat]?=some d->t.toNat<d.rows.length):SfOk P n B (s.1,t,s.2.2.set p.toNat f):=by
 obtain⟨d,r,h1,h2,h3,h4,h5⟩:=h.ex;refine⟨⟨d,_,h1,h2,ht,ay (hr d h2),by rw[cQ];exact h5⟩,fun g hg=>?_⟩;rcases gP hg with hg|hg
 .exact h.fm g hg
 .rw[hg];exact hf
theorem nX{P:List Df}{n B:Nat}{s:SF}(h:SfOk P n B s){t:Int}(ht:0<=t)(hr:∀ d,P[s.1.toNat]?=some d->t.toNat<d.rows.length):SfOk P n B (s.1,t,s.2.2):=by
 obtain⟨d,r,h1,h2,h3,h4,h5⟩:=h.ex;exact⟨⟨d,_,h1,h2,ht,ay (hr d h2),h5⟩,h.fm⟩
theorem iH{P:List Df}(K:PgK P){n B:Nat}{s:SF}(h:SfOk P n B s){r:Rw}(hr:cr P s.1 s.2.1=some r)(hl:¬ r.last):0<=s.2.1+1/\∀ d,P[s.1.toNat]?=some d->(s.2.1+1).toNat<d.rows.length:=by
 obtain⟨d,r',hd,h2,hr',h4,h0,h3,h5⟩:=dZ h;rw[hr] at hr';cases hr';refine⟨by lia,fun d' hd'=>?_⟩;rw[h2] at hd';cases hd';obtain⟨rl,el,ll⟩:=(K.ok.2.2 d hd).last;have hlt:=(aX.mp h4).1;by_cases e:s.2.1.toNat=d.rows.length-1
 .rw[<-e,h4] at el;cases el;exact absurd ll hl
 .rw[Int.toNat_add h3 (by decide)];exact Nat.lt_of_le_of_ne hlt fun z=>e (by rw[<-z];rfl)
theorem Fo.nil{n B:Nat}{c:Int}(h:c.natAbs<=B):Fo n B (c,[]):=⟨h,fun p hp=>(bX hp).elim,fun p hp=>(bX hp).elim,fz⟩
theorem t5{P:List Df}(K:PgK P){n B:Nat}(hB:10^60<=B){fr:List SF}{s:SF}(h:FrsOk P n B fr s){fr':List SF}(e:cF P fr s=some fr'):∃ f2 s2,fr'=f2++[s2]/\FrsOk P n (100*B) f2 s2:=by
 have hs:=h.all s (by simp);obtain⟨d,r,hd,h2,hr,h4,h0,h3,h5⟩:=dZ hs;have ok:=(K.ok.2.2 d hd).rows r (aD h4);have BB:B<=100*B:=Nat.le_mul_of_pos_left B (by decide);have B2:B+1*B<=100*B:=by rw[Nat.add_comm,<- Nat.succ_mul];exact fT B (by decide)
 have hs':=hs.le (aE n) BB;have fr':∀ t∈fr,SfOk P n (100*B) t:=fun t ht=>(h.all t (by simp[ht])).le (aE n) BB;have mk:∀ s2:SF,SfOk P n (100*B) s2->FrsOk P n (100*B) fr s2:=fun s2 h2=>⟨h.few,fun t ht=>by rcases aS.mp ht with ht|ht;exact fr' t ht;rw[aM.mp ht];exact h2,h.call⟩;have bx:∀ {q:Int},In0 q d.boxes->Fo n B (gtF s q):=fun {q} hq=>(rM hs hq.1 (by have:=hq.2;lia)).1;have rk:∀ {p:Int} {f:Fm},Fo n (100*B) f->¬ r.last->∃ f2 s2,fE fr s p f=f2++[s2]/\FrsOk P n (100*B) f2 s2:=fun {p f} hf hl=>by
  obtain⟨n1,n2⟩:=iH K hs hr hl;exact⟨fr,_,rfl,mk _ (mf hs' hf n1 n2)⟩
 unfold cF at e;rw[hr] at e;have tr:∀ {t:Int},In0 t d.rows.length->∃ f2 s2,cJ fr s t=f2++[s2]/\FrsOk P n (100*B) f2 s2:=fun {t} ht=>⟨fr,_,rfl,mk _ (nX hs' ht.1 fun d' hd'=>by rw[h2] at hd';cases hd';have:=ht.2;have:=ht.1;lia)⟩;have nx:¬ r.last->∃ f2 s2,cJ fr s (s.2.1+1)=f2++[s2]/\FrsOk P n (100*B) f2 s2:=fun hl=>by
  obtain⟨n1,n2⟩:=iH K hs hr hl;exact⟨fr,_,rfl,mk _ (nX hs' n1 n2)⟩
 cases r with
 | put p m=>cases e;exact rk (Fo.nil (bh ok.2 (bh hB BB))) (fun h=>h)
 | copy p q=>cases e;exact rk ((bx ok.2).le (aE _) BB) (fun h=>h)
 | plus p q r=>cases e;exact rk ((mS (bx ok.2.1) (bx ok.2.2)).le (aE _) B2) (fun h=>h)
 | less p q r=>cases e;exact rk ((mS (bx ok.2.1) (bx ok.2.2)).le (aE _) B2) (fun h=>h)
 | times p q m=>cases e;exact rk ((ZkS (bx ok.2.1)).le (aE _) (fT _ (Nat.le_succ_of_le ok.2.2))) (fun h=>h)
 | take p=>cases e
 | tell p=>cases e
 | jump t=>cases e;exact tr ok
 | zero p t =>
  dsimp only [bK] at e;split at e
  .cases e;split
   .exact tr ok.2
   .exact nx (fun h=>h)
  .cases e
 | below p t =>
  dsimp only [bK] at e;split at e
  .cases e;split
   .exact tr ok.2
   .exact nx (fun h=>h)
  .cases e
 | call p g qs =>
  dsimp only [bK] at e;split at e
  .next hl =>
   cases e;obtain⟨d2,g0,hg,hq⟩:=ok.2.1;have D2:=K.ok.2.2 d2 (aD hg);have eb:iD P g=d2.boxes:=by unfold iD;rw[hg];rfl
   have hq2:(qs.length:Int)<=d2.boxes:=by rw[hq];exact D2.t.2
   refine⟨fr++[s],eJ P s g qs,by rw[cp];rfl,by rw[aH];simp;lia,fun t ht=>?_,fun t ht=>?_⟩
   .rcases aS.mp ht with ht|ht
    .rcases aS.mp ht with ht|ht
     .exact fr' t ht
     .rw[aM.mp ht];exact hs'
    .rw[aM.mp ht];obtain ⟨rl,el,_⟩:=D2.last;have hpos:0 < d2.rows.length:=iY (cb _) (aX.mp el).1;refine ⟨⟨d2,_,g0,hg,ls 0,ay hpos,?_⟩,fun f hf=>?_⟩
     .unfold eJ;rw[eb];simp;lia
     .unfold eJ at hf;rcases aS.mp hf with hf|hf
      .obtain ⟨q,hq',rfl⟩:=aT.mp hf;exact(bx (ok.2.2 q hq')).le (aE _) BB
      .rw[sw hf];exact Fo.nil (cb _)
   .rcases aS.mp ht with ht|ht
    .exact h.call t ht
    .rw[aM.mp ht];exact⟨p,g,qs,hr⟩
  .cases e
 | back p =>
  dsimp only [bK] at e;cases hl:fr.getLast? with
  | none=>rw[hl] at e;cases e
  | some c =>
   rw[hl] at e;cases e;obtain⟨ys,rfl⟩:=gy.mp hl;obtain⟨p2,g,qs,hc⟩:=h.call c (by simp);have hcs:=fr' c (by simp);obtain⟨n1,n2⟩:=iH K hcs hc (fun h=>h);rw[fU,hc];refine⟨ys,_,rfl,by have:=h.few;rw[aH] at this;simp at this;lia,fun t ht=>?_,fun t ht=>h.call t (by simp[ht])⟩;rcases aS.mp ht with ht|ht
   .exact fr' t (by simp[ht])
   .rw[aM.mp ht];exact mf hcs ((bx ok).le (aE _) BB) n1 n2
end L2
end
section
namespace L2
open PySem PySem.Spec PyProof.Rows
theorem vW{P:Program}{w:World}{K:W.Frag}{G:GH}{k:T->GH->Prop}{Γ:Ev}{LN:List Str}{fr:List Nat}{wi:TI}{g:TG}{te:TE}(Sh:Ev->Prop)
  (h:Wi P w K wi Γ G fun xs kp G1=>xs.length<=100000/\kp G1/\Sh (bkE LN.length fr Γ)/\∃ ys:List T,ys.length=xs.length/\(∀ (i:Nat) x y Γ',xs[i]?=some x->ys[i]?=some y->Sh Γ'->Wg P w K g x Γ' G1 fun Γ2 G2=>Sh Γ2/\G2=G1/\We P w K te Γ2 G1 fun d G4=>d=y/\G4=G1)/\∀ a,G1 a=none->k (.ptr a) (gput G1 a (.lst ys))):We P w K (fW LN fr wi g iK te) Γ G k:=fun H Z g ev Q z =>
 h H Z g ev _ fun J H1 xs kp G1 s1 g1 it z0_=>by
  obtain⟨hz,hk,sh,ysT,hy,hs,q⟩:=z0_;refine mT xs.length (ja (by lia)) (fun i ys Z H=>∃ Γ',Stp G1 H1 G1 H/\GOk P w K G1 H/\EnvOk K G1 H Z Γ'/\RepTs K G1 H (ysT.take i) ys/\Sh Γ') ⟨_,.refl,g1,qe (ev.mono g s1),.nil,sh⟩ ?_ ?_ ?_ ?_
  .rintro i ys Z H hi ⟨Γ',s2,g2,e2,r2,p⟩;exact((it G1 H s2 g2 hk).1 i xs[i] (ay hi)).1
  .rintro ys Z H ⟨Γ',s2,g2,e2,r2,p⟩;exact(it G1 H s2 g2 hk).2
  .rintro i x ys Z H H' hi hy1 hy2 ⟨Γ',s2,g2,e2,r2,p⟩ y;have ey:ysT[i]?=some (ysT[i]'(by lia)):=ay _;obtain⟨sm,rx⟩:=((it G1 H s2 g2 hk).1 i xs[i] (ay hi)).2 x H' y;refine hs i _ _ Γ' (ay hi) ey p H' Z x (g2.same sm) (e2.mono g2 (.same sm)) rx _ fun σ3 H3 Γ3 G3 s3 g3 e3 ⟨sh3,eG,we⟩=>?_;subst eG;refine xu (iteT ?_);refine we H3 σ3 g3 e3 _ fun v H5 d G5 s5 g5 r5 ⟨ed,eg⟩=>⟨hy2,by rw[aH];simpa using hy1,?_⟩;subst ed eg;have st:=(Stp.same sm).trans (s3.trans s5);refine⟨Γ3,s2.trans st,g5,e3.mono g3 s5,?_,sh3⟩;rw[eP,ey];exact(r2.mono g2 st).app (.cons r5 .nil)
  .rintro ys Z H hl ⟨Γ',s2,g2,e2,r2,p⟩ c hc;rw[<-hy,eQ] at r2;obtain⟨g3,s3⟩:=g2.putL (.inr hc) r2;exact z _ _ _ _ (s1.trans (s2.trans s3)) g3 .ptr (q c (g2.free hc))
theorem dG{P:Program}{w:World}{K:W.Frag}{G:GH}{Γ:Ev}{t u:TS}{D:EndT}(M:Ev->GH->Prop)(h1:Ws P w K t Γ G { D with nx:=M })(h2:∀ Γ' G',M Γ' G'->Ws P w K u Γ' G' D):Ws P w K (tSeq t u) Γ G D :=
 cw fun H Z g ev D' z=>h1 H Z g ev D' ⟨fun σ' H' Γ' G' s g' e' q=>z.nx σ' H' Γ' G' s g' e' (h2 Γ' G' q),z.rt,z.bk,z.ct⟩
theorem si_up{G:GH}{x:T}{l:List T}{p:Addr}{c:Ct}(hp:G p=none)(h:SqI G x l):SqI (gput G p c) x l:=by
 rcases h with e|⟨a,e,h⟩
 .exact .inl e
 .exact .inr ⟨a,e,by rw[gp_n (g_ne h hp)];exact h⟩
theorem w6:∀ ps:List (Int×Int),embs (ps.map pairD)=ps.map prT
 | []=>by rw[gw,embs];rfl
 | p::ps=>by rw[aL,embs,w6 ps,pairD,emb,embs,embs,embs,emb,emb];rfl
theorem uq : ∀ ps : List (Int×Int), D.pls (ps.map pairD)=true/\D.deps (ps.map pairD)<=1
  | []=>by constructor; rfl; exact cb _
  | p :: ps => by
    obtain⟨h1,h2⟩:=uq ps;rw[aL,D.pls,D.deps,h1];refine⟨rfl,?_⟩;show max (D.dep (pairD p)) _<=1;have:D.dep (pairD p)=1:=rfl;lia
section
variable{P:Program}{w:World}{K:W.Frag}{G G1 G2 G':GH}{H H1 H2 H':Hp}{a:Addr}{Γ:Ev}{ta te:TE}{k:T->GH->Prop}{x y d:T}{ts:List T}{tr:TA}{v:V}{i:Int}
noncomputable def tyT(G:GH):T->String
 | .non=>"NoneType"
 | .bl _=>"bool"
 | .int _=>"int"
 | .str _=>"str"
 | .tup _=>"tuple"
 | .cst _=>"tuple"
 | .lst _=>"list"
 | .ptr a=>match G a with|some (.lst _)=>"list"|_=>""
theorem tyN_T(g:GOk P w K G H)(r:RepT K G H x v)(h:(∃ ts,SqI G x ts)\/(∀ a,x≠.ptr a)/\∀ xs,x≠.cst xs):tyN H v=some (tyT G x):=by
 rcases h with ⟨ts,h⟩|⟨h2,h3⟩
 .obtain ⟨a,vs,rfl,_,ha⟩:=eS g h r;rw[ut ha];rcases h with rfl|⟨b,rfl,hb⟩
  .rfl
  .show _=some (match G b with|some (.lst _)=>"list"|_=>"");rw[hb]
 .cases r with
  | non=>rfl
  | bl=>rfl
  | int=>rfl
  | str=>rfl
  | tup h _=>exact Zo1 h
  | lst _ h _=>exact ut h
  | ptr=>exact absurd rfl (h2 _)
  | cst=>exact absurd rfl (h3 _)
theorem vH{Ty:String}(hT:Ty∈["int","bool","str","tuple","list","dict"])(h:We P w K ta Γ G fun x G1=>((∃ ts,SqI G1 x ts)\/(∀ a,x≠.ptr a)/\∀ xs,x≠.cst xs)/\k (.bl (isi (tyT G1 x) Ty)) G1):We P w K (tCB rIsi (bC ta (bC (tC (.ty Ty)) tNil))) Γ G k:=fun H Z g ev Q z=>h H Z g ev _ fun v H1 x G1 s1 g1 r1 ⟨hx,q⟩ =>
 ⟨v,Ty,tyT G1 x,rfl,tyN_T g1 r1 hx,hT,(z.mono s1).here g1 .bl q⟩
noncomputable def T.plk:T->Bool
 | .non=>true|.bl _=>true|.int _=>true|.str _=>true|.tup _=>true|.lst _=>true|_=>false
theorem tk_d{x:T}{p:Prop}(h:x.plk=true)(q:p):((∃ ts,SqI G x ts)\/(∀ a,x≠.ptr a)/\∀ xs,x≠.cst xs)/\p:=by
 refine⟨.inr ?_,q⟩;refine⟨fun a e=>?_,fun a e=>?_⟩
 .subst e;exact absurd h bF
 .subst e;exact absurd h bF
end
end L2
end
section
namespace L2
open PySem
noncomputable def deedT:List (Str×List Str):=[("go",["edge"]),("test",["edge","edge"]),("tell",["edge"]),("take",["edge"]),("hold",["number","number","edge"]),("leave",[])]
section
variable{P:Program}{w:World}{K:W.Frag}{G:GH}{k:T->GH->Prop}{Γ:Ev}{tb:List (Str×List Str)}{ty:TE}
theorem w5(h:We P w K ty Γ G fun y G1=>∃ x ks,y=.str x/\tb.lookup x=some ks/\k (.cst ks) G1):We P w K (tL K w tb (tCD K w tb) ty) Γ G k:=fun H Z g ev Q z a c=>h H Z g ev _ fun v1 H1 y G1 s1 g1 r1 ⟨x,ks,e,hl,q⟩=>by
 subst e;cases r1;exact⟨a,x,ks,rfl,c,rfl,hl,fun b hb=>(z.mono s1).here g1 (.cst hb) q⟩
theorem xF(h:We P w K ty Γ G fun y G1=>∃ x,y=.str x/\k (.bl (tb.lookup x).isSome) G1):We P w K (tOp (rInCD K w tb) ty (tCD K w tb)) Γ G k:=fun H Z g ev Q z=>h H Z g ev _ fun v1 H1 y G1 s1 g1 r1 ⟨x,e,q⟩ a c=>by
 subst e;cases r1;exact⟨a,x,rfl,rfl,c,(z.mono s1).here g1 .bl q⟩
theorem xz(h:We P w K ty Γ G fun y G1=>∃ x,y=.str x/\k (.bl (!(tb.lookup x).isSome)) G1):We P w K (tOp (vh K w tb) ty (tCD K w tb)) Γ G k:=fun H Z g ev Q z=>h H Z g ev _ fun v1 H1 y G1 s1 g1 r1 ⟨x,e,q⟩ a c=>by
 subst e;cases r1;exact⟨a,x,rfl,rfl,c,(z.mono s1).here g1 .bl q⟩
theorem vm{ss:List Str}(h:k (.int ss.length) G):LNr P w K (rLen K) [.cst ss] G k:=fun H us g r Q z=>by
 cases r with
 | cons r1 r2 =>
  cases r2;cases r1 with
  | cst e=>exact⟨_,ss.length,rfl,.inr ⟨_,e H,by rw[af]⟩,z.here g .int h⟩
theorem l_notC{s:Str}{ss:List Str}(h:k (.bl (!ss.contains s)) G):L2r P w K (rIn K true) (.str s) (.cst ss) G k:=fun H u v g r1 r2 Q z=>by
 cases r1;cases r2 with|cst e=>exact⟨_,_,rfl,.inr (e H),rfl,rK _,by rw[qL];exact z.here g .bl h⟩
end
end L2
end
section
namespace L2
open PySem
noncomputable def aI(n:Nat):List Fm:=(List.range n).map fun(i:Nat)=>ofW (i:Int)
noncomputable def plcF(frames:List SF):List (Int×Int):=frames.map fun s=>(s.1,s.2.1)
end L2
end
section
namespace L2
open PySem
structure Sd where
 many:Nat
 fr:List SF
 word:Str
 rest:List T
structure MS where
 lane:List Sd
 plc:List (K2×List Nat)
 going:Nat
noncomputable def bZ(Q:List Df)(l:List SF):Option (List SF):=match l.getLast? with
 | none=>none
 | some s=>cF Q l.dropLast s
end L2
end
section
namespace L2
open PySem
section
variable{Q:List Df}{S:MS}{n B:Nat}{f:List SF}{s:SF}{most:Nat}
theorem lI{g:Fm}(h:Fo n B g):g.2.length<=n:=by
 have:=mI (n:=n) _ h.nd (fun x hx=>by obtain⟨p,hp,rfl⟩:=aT.mp hx;exact h.w p hp)
 rwa [af] at this
end
end L2
end
section
namespace L2
open PySem
noncomputable def bE(fl:List Fm)(s:SF):SF:=(s.1,s.2.1,s.2.2.map fun f=>bG f fl)
end L2
end
section
namespace L2
open PySem PySem.Spec PyProof.Rows
mutual
noncomputable def dpT:T->Nat
 | .tup ts=>dpTs ts+1
 | .lst ts=>dpTs ts+1
 | .cst _=>1000
 | _=>0
noncomputable def dpTs:List T->Nat
 | []=>0
 | t::ts=>max (dpT t) (dpTs ts)
end
noncomputable def Alk(G:GH):Nat->T->T->Prop
 | 0,x,y=>x=y/\dpT x=0
 | n+1,x,y=>(x=y/\dpT x<=n+1)\/∃ ts us,((x=.tup ts/\y=.tup us)\/(SqI G x ts/\SqI G y us))/\ts.length=us.length/\∀ (j:Nat) t u,ts[j]?=some t->us[j]?=some u->Alk G n t u
section
variable{P:Program}{w:World}{K:W.Frag}{G:GH}{H:Hp}{k:T->GH->Prop}{x y:T}
theorem vN : ∀ {ts : List T} {t : T}, t∈ts->dpT t<=dpTs ts
  | s :: ts, t, h => by
    rw[dpTs];rcases aJ.mp h with rfl|h
    . lia
    . have:=vN h; lia
mutual
theorem rh : ∀ {t : T} {u v : V} {n : Nat}, RepT K G H t u->RepT K G H t v->dpT t<=n->n<1000->Alike H n u v
  | t, u, v, n, h1, h2, hd, hn => by
    cases h1 with
    | tup h r =>
      cases h2 with
      | tup h' r' =>
        rw[dpT] at hd;obtain⟨m,rfl⟩:∃ m,n=m+1:=⟨n-1,by lia⟩;exact .inr ⟨_,_,⟨_,_,rfl,rfl,.inl ⟨h,h'⟩⟩,by rw[<-r.length,<- r'.length],nY r r' (by lia) (by lia)⟩
    | lst g h r =>
      cases h2 with
      | lst g' h' r' =>
        rw[dpT] at hd;obtain⟨m,rfl⟩:∃ m,n=m+1:=⟨n-1,by lia⟩;exact .inr ⟨_,_,⟨_,_,rfl,rfl,.inr ⟨h,h'⟩⟩,by rw[<-r.length,<- r'.length],nY r r' (by lia) (by lia)⟩
    | cst _=>rw[dpT] at hd; lia
    | _=>cases h2; exact Alike.refl n trivial
theorem nY : ∀ {ts : List T} {us vs : List V} {n : Nat}, RepTs K G H ts us->RepTs K G H ts vs->dpTs ts<=n->n<1000->∀ (j : Nat) (u v : V), us[j]?=some u->vs[j]?=some v->Alike H n u v
  | ts, us, vs, n, h1, h2, hd, hn, j, u, v, e1, e2 => by
    cases h1 with
    | nil=>cases e1
    | cons h r =>
      cases h2 with
      | cons h' r' =>
        rw[dpTs] at hd;cases j with
        | zero=>cases e1; cases e2; exact rh h h' (by lia) hn
        | succ j=>exact nY r r' (by lia) hn j u v e1 e2
end
theorem vJ(g : GOk P w K G H) : ∀ {n : Nat} {x y : T} {u v : V}, n<1000->Alk G n x y->RepT K G H x u->RepT K G H y v->Alike H n u v
  | 0, x, y, u, v, hn, ⟨e, hd⟩, r, r'=>by subst e; exact rh r r' (by lia) hn
  | n + 1, x, y, u, v, hn, h, r, r' => by
    rcases h with ⟨e,hd⟩|⟨ts,us,h,hl,hi⟩
    . subst e; exact rh r r' hd hn
    . have key : ∀ {xs ys : List V}, RepTs K G H ts xs -> RepTs K G H us ys -> xs.length = ys.length /\ ∀ (j : Nat) (u v : V), xs[j]? = some u -> ys[j]? = some v -> Alike H n u v := fun {xs ys} rx ry => by
        have l1:=rx.length;have l2:=ry.length;refine⟨by lia,fun j u v e1 e2=>?_⟩;have j1:=(aX.mp e1).1;have et:ts[j]?=some (ts[j]'(by lia)):=ay _;have eu:us[j]?=some (us[j]'(by lia)):=ay _;obtain⟨u',q1,r1⟩:=rx.get et;obtain⟨v',q2,r2⟩:=ry.get eu;rw[e1] at q1;rw[e2] at q2;cases q1;cases q2;exact vJ g (by lia) (hi j _ _ et eu) r1 r2
      rcases h with ⟨rfl,rfl⟩|⟨h1,h2⟩
      . cases r with | tup a1 a2 => cases r' with | tup b1 b2 =>
        obtain⟨k1,k2⟩:=key a2 b2;exact .inr ⟨_,_,⟨_,_,rfl,rfl,.inl ⟨a1,b1⟩⟩,k1,k2⟩
      . obtain ⟨a, xs, rfl, a2, a1⟩ := eS g h1 r
        obtain⟨b,ys,rfl,b2,b1⟩:=eS g h2 r';obtain⟨k1,k2⟩:=key a2 b2;exact .inr ⟨_, _, ⟨_, _, rfl, rfl, .inr ⟨a1, b1⟩⟩, k1, k2⟩
def AlkS(G:GH)(n:Nat)(x y:T):Prop:=∃ ts us,((x=.tup ts/\y=.tup us)\/(SqI G x ts/\SqI G y us))/\ts.length=us.length/\∀ (j:Nat) t u,ts[j]?=some t->us[j]?=some u->Alk G n t u
theorem Zn2{n:Nat}{x:T}(h:dpT x<=n):Alk G n x x:=by
 cases n with
 | zero=>exact⟨rfl,by lia⟩
 | succ n=>exact .inl ⟨rfl,h⟩
theorem ZmM{n:Nat}{ts:List T}(h1:SqI G x ts)(h2:SqI G y ts)(hd:dpTs ts<=n):AlkS G n x y:=⟨ts,ts,.inr ⟨h1,h2⟩,rfl,fun j t u e1 e2=>by
 rw[e1] at e2;cases e2;exact Zn2 (bh (vN (aD e1)) hd)⟩
theorem Zqp{u v:V}(g:GOk P w K G H)(h:AlkS G 40 x y)(r:RepT K G H x u)(r':RepT K G H y v):tf H 40 u v:=by
 obtain⟨ts,us,h,hl,hi⟩:=h;have key:∀ {xs ys:List V},RepTs K G H ts xs->RepTs K G H us ys->xs.length=ys.length/\∀ (j:Nat) (u v:V),xs[j]?=some u->ys[j]?=some v->Alike H 40 u v:=fun {xs ys} rx ry=>by
  have l1:=rx.length;have l2:=ry.length;refine⟨by lia,fun j u v e1 e2=>?_⟩;have j1:=(aX.mp e1).1;have et:ts[j]?=some (ts[j]'(by lia)):=ay _;have eu:us[j]?=some (us[j]'(by lia)):=ay _;obtain⟨u',q1,r1⟩:=rx.get et;obtain⟨v',q2,r2⟩:=ry.get eu;rw[e1] at q1;rw[e2] at q2;cases q1;cases q2;exact vJ g (by lia) (hi j _ _ et eu) r1 r2
 rcases h with ⟨rfl,rfl⟩|⟨h1,h2⟩
 .cases r with|tup a1 a2=>cases r' with|tup b1 b2 =>
  obtain⟨k1,k2⟩:=key a2 b2;exact⟨_,_,⟨_,_,rfl,rfl,.inl ⟨a1,b1⟩⟩,k1,k2⟩
 .obtain ⟨a,xs,rfl,a2,a1⟩:=eS g h1 r;obtain⟨b,ys,rfl,b2,b1⟩:=eS g h2 r';obtain⟨k1,k2⟩:=key a2 b2;exact⟨_,_,⟨_,_,rfl,rfl,.inr ⟨a1,b1⟩⟩,k1,k2⟩
theorem l_eqA(h:AlkS G 40 x y)(q:k (.bl true) G):L2r P w K rEqA x y G k:=fun H u v g r1 r2 Q z=>rd_eqA (Zqp g h r1 r2) (z.here g .bl q)
noncomputable abbrev g0:GH:=fun _=>none
theorem bag_ne{b l:Addr}(B:BagAt H b l):l≠b:=fun e=>by
 obtain⟨xs,i,m,st,c,h1,h2,_⟩:=B.ex;rw[e,h1] at h2;injection h2 with h2
 injection h2 with h2
 cases xs with
 | nil=>cases h2
 | cons x xs=>injection h2 with h2 _;cases h2
theorem law_go{rest:TS}{a:Addr}{ns:List Int}{Q:VK}(n:Nat)(hS:SqL K H a (ns.map V.int))(hl:ns.length<=63)(kq:∀ H',Q (.bl true) H')
  (h:∀ b l,Ws P w K rest (none::some (.ptr b)::List.replicate n none) (gput g0 b (.bag l)) { nx:=fun _ _=>False,rt:=fun d _=>d=.bl true }) :
  tSeq (tAsg (ij (tw K) [] E0 (bC (tVar 0) tNil)) (eK 1)) rest { nx:=fun _ H'=>Q .non H',rt:=Q } (some (.ref a)::none::List.replicate n none) H:=by
 refine⟨.ref a,rfl,?_⟩;refine use1 (E:=E0) (Pr_bag.mk a ns rfl hS hl fun b l H' nb sm B=>?_);have ge:GOk P w K (gput g0 b (.bag l)) H':=fun c x e=>by
  by_cases hc:c=b
  .subst hc;rw[gp_s] at e;cases e;exact⟨B,by rw[gp_n (bag_ne B)]⟩
  .rw[gp_n hc] at e;cases e
 refine h b l H' _ ge ⟨by simp,fun i t e=>?_⟩ _ ⟨fun _ _ _ _ _ _ _ z=>z.elim,fun v H2 d G' _ _ r e=>?_,fun _ _ _ _ _ _ _ z=>z.elim,fun _ _ _ _ _ _ _ z=>z.elim⟩
 .cases i with
  | zero=>cases e
  | succ i =>
   cases i with
   | zero=>cases e;exact⟨_,rfl,.ptr⟩
   | succ i=>simp[jF] at e
 .subst e;cases r;exact kq H2
end
end L2
end
section
namespace L2
open PySem
theorem mP{α : Type}{f : α->T}{n : Nat} : ∀ {l : List α}, (∀ x∈l, dpT (f x)<=n)->dpTs (l.map f)<=n
  | [], _=>by rw[gw, dpTs]; lia
  | x :: l, h => by
    rw[aL,dpTs];have:=h x (by simp);have:=mP (l:=l) (f:=f) (n:=n) fun y hy=>h y (by simp[hy]);lia
theorem dp_fm(f:Fm):dpT (fmT f)<=3:=by
 have:dpTs (f.2.map prT)<=1:=mP fun p _=>by simp only[prT,dpT,dpTs];lia
 simp only[fmT,dpT,dpTs];lia
theorem dp_sf(s:SF):dpT (sfT s)<=5:=by
 have:dpTs (s.2.2.map fmT)<=3:=mP fun f _=>dp_fm f;simp only[sfT,dpT,dpTs];lia
end L2
end
section
namespace L2
open PySem
abbrev Cano(f:Fm):Prop:=Canon f.2
theorem ra{c:Int}{t:List (Int×Int)}(hn:(t.map (·.1)).Nodup):Cano (wnF c t):=Zhh ((gX _).nodup_iff.mpr hn) (ul _)
theorem lM{c:Int}{t:List (Int×Int)}(hn:(t.map (·.1)).Nodup)(w:Int):atW (wnF c t).2 w=aZ t w:=Zio hn (gX _) w
theorem jh{f g:Fm}(hf:Cano f)(hg:Cano g)(h1:f.1=g.1)(h2:∀ w,atW f.2 w=atW g.2 w):f=g:=Prod.ext h1 (canon_one hf hg h2)
theorem kr{c:Int}:Cano (c,[]):=⟨List.Pairwise.nil,fun _ h=>(bX h).elim⟩
theorem ZnU(w:Int):Cano (ofW w):=⟨sx _ _,fun p hp=>by rw[aM.mp hp];exact(by decide:(1:Int)≠0)⟩
theorem ie(f g:Fm)(n:Int):Cano (bU f g n):=ra (fJ _ _ (fJ _ _ fz))
theorem vz(f:Fm)(n:Int):Cano (ii f n):=ra (fJ _ _ fz)
theorem js(f:Fm)(fl:List Fm):Cano (bG f fl):=ra (jt _ _)
theorem vQ(c:Int)(fl:List Fm):bG (c,[]) fl=(c,[]):=by
 show (c,ci [] (sortI []))=_;unfold sortI;rw[mergeSort_nil];rfl
theorem Zg5{f:Fm}(h:f.2=[])(fl:List Fm):bG f fl=f:=by
 obtain⟨c,t⟩:=f;dsimp only at h;subst h;exact vQ c fl
def bO(l:List SF):Prop:=∀ t∈l,∀ g∈t.2.2,Cano g
theorem nW{s:SF}(h:∀ g∈s.2.2,Cano g)(q:Int):Cano (gtF s q):=by
 unfold gtF;rw[cA];cases e:s.2.2[q.toNat]? with
 | none=>exact kr
 | some g=>exact h g (aD e)
theorem fI{a b:List SF}(h1:bO a)(h2:bO b):bO (a++b):=fun t ht=>by
 rcases aS.mp ht with h|h
 .exact h1 t h
 .exact h2 t h
theorem fK{s:SF}(h:∀ g∈s.2.2,Cano g):bO [s]:=fun t ht=>by rw[aM.mp ht];exact h
theorem jf{fr:List SF}{s:SF}{p:Int}{f:Fm}(h1:bO fr)(h2:∀ g∈s.2.2,Cano g)(hf:Cano f):bO (fE fr s p f):=fI h1 (fK fun g hg=>by
 rcases gP hg with h|rfl
 .exact h2 g h
 .exact hf)
theorem oO{fr:List SF}{s:SF}{t:Int}(h1:bO fr)(h2:∀ g∈s.2.2,Cano g):bO (cJ fr s t):=fI h1 (fK h2)
theorem Zh5{Q:List Df}{l l':List SF}(h:bO l)(e:bZ Q l=some l'):bO l':=by
 unfold bZ at e;cases hl:l.getLast? with
 | none=>rw[hl] at e;cases e
 | some s =>
  rw[hl] at e;dsimp only at e;obtain⟨fr,rfl⟩:=gy.mp hl;rw[fU] at e;have h1:bO fr:=fun t ht=>h t (by simp[ht]);have h2:∀ g∈s.2.2,Cano g:=h s (by simp);unfold cF at e;cases hr:cr Q s.1 s.2.1 with
  | none=>rw[hr] at e;cases e
  | some r =>
   rw[hr] at e;cases r with
   | put p m=>cases e;exact jf h1 h2 kr
   | copy p q=>cases e;exact jf h1 h2 (nW h2 _)
   | plus p q r=>cases e;exact jf h1 h2 (ie _ _ _)
   | less p q r=>cases e;exact jf h1 h2 (ie _ _ _)
   | times p q m=>cases e;exact jf h1 h2 (vz _ _)
   | take p=>cases e
   | tell p=>cases e
   | jump t=>cases e;exact oO h1 h2
   | zero p t =>
    dsimp only [bK] at e;split at e
    .cases e;exact oO h1 h2
    .cases e
   | below p t =>
    dsimp only [bK] at e;split at e
    .cases e;exact oO h1 h2
    .cases e
   | call p g qs =>
    dsimp only [bK] at e;split at e
    .cases e;refine fI h1 (fI (a:=[s]) (fK h2) (fK fun f hf=>?_));unfold eJ at hf;rcases aS.mp hf with hf|hf
     .obtain ⟨q,_,rfl⟩:=aT.mp hf;exact nW h2 _
     .rw[sw hf];exact kr
    .cases e
   | back p =>
    dsimp only [bK] at e;cases hc:fr.getLast? with
    | none=>rw[hc] at e;cases e
    | some c =>
     rw[hc] at e;cases e;obtain⟨ys,rfl⟩:=gy.mp hc;rw[fU];exact jf (fun t ht=>h1 t (by simp[ht])) (h1 c (by simp)) (nW h2 _)
noncomputable def cB(Q:List Df):Nat->List SF->Option (List SF)
 | 0,l=>some l
 | n+1,l=>(bZ Q l).bind (cB Q n)
end L2
end
section
namespace L2
open PySem
noncomputable def lputF(f:Fm)(fl:List Fm):Fm:=f.2.foldl (fun a p=>bU a (nthF fl p.2) p.1) (f.1,[])
theorem l0(f g:Fm)(n w:Int):atW (bU f g n).2 w=atW f.2 w+atW g.2 w*n:=by
 show atW (wnF _ _).2 w=_;have hn:((bm (bm [] f.2 1) g.2 n).map (·.1)).Nodup:=fJ _ _ (fJ _ _ fz);rw[lM hn,hX,hX];show (0:Int)+_*1+_=_;lia
theorem uW(fl : List Fm) : ∀ (ps : List (Int×Int)) (a : Fm), Cano a->Cano (ps.foldl (fun a p=>bU a (nthF fl p.2) p.1) a)/\(ps.foldl (fun a p=>bU a (nthF fl p.2) p.1) a).1=putC a.1 ps fl/\∀ w, atW (ps.foldl (fun a p=>bU a (nthF fl p.2) p.1) a).2 w=atW a.2 w+putAt ps fl w
  | [], a, h=>⟨h, rfl, fun w=>by show _=_+(0 : Int); rw[Int.add_zero]; rfl⟩
  | p :: ps, a, h => by
    obtain⟨h1,h2,h3⟩:=uW fl ps (bU a (nthF fl p.2) p.1) (ie _ _ _);refine⟨h1,h2,fun w=>?_⟩;show atW (ps.foldl _ (bU a (nthF fl p.2) p.1)).2 w=_;rw[h3,l0];unfold putAt;rw[aL,bR];lia
theorem sN(f:Fm)(fl:List Fm):lputF f fl=bG f fl:=by
 obtain⟨h1,h2,h3⟩:=uW fl f.2 (f.1,[]) kr;refine jh h1 (js _ _) h2 fun w=>?_;have h4:=h3 w;have e:atW (bG f fl).2 w=putAt f.2 fl w:=by
  show atW (wnF _ _).2 w=_;rw[lM (jt _ _),ue]
 rw[e];refine h4.trans ?_;show (0:Int)+_=_;lia
theorem Zqg{f:Fm}(h:Cano f):bU (0,[]) f 1=f:=jh (ie _ _ _) h (by show 0+1*f.1=f.1;lia) fun w=>by rw[l0];show (0:Int)+_=_;lia
theorem ZmX(f:Fm)(n:Int):bU (0,[]) f n=ii f n:=by
 refine jh (ie _ _ _) (vz _ _) (by show 0+n*f.1=f.1*n;rw[jP];lia) fun w=>?_;have hn:((bm [] f.2 n).map (·.1)).Nodup:=fJ _ _ fz;have e:atW (ii f n).2 w=atW f.2 w*n:=by
  show atW (wnF _ _).2 w=_;rw[lM hn,hX];show (0:Int)+_=_;lia
 rw[l0,e];show (0:Int)+_=_;lia
theorem qA{fl : List Fm}{m B C : Nat}(hg : ∀ g∈fl, Fo m C g) : ∀ (ps : List (Int×Int)) (a : Fm) (A : Nat), (∀ p∈ps, p.1.natAbs<=B/\0<=p.2/\p.2<fl.length)->Fo m A a->Fo m (A+ps.length*(B*C)) (ps.foldl (fun a p=>bU a (nthF fl p.2) p.1) a)
  | [], a, A, _, h=>by rw[iA, Nat.zero_mul]; exact h
  | p :: ps, a, A, hp, h => by
    obtain⟨b1,b2,b3⟩:=hp p aO;have e : fl[p.2.toNat]?=some (nthF fl p.2):=by
      unfold nthF;rw[cA,ay (by lia)];rfl
    have hj:=mS (m:=p.1) h (hg _ (aD e));have hj2:Fo m (A+B*C) (bU a (nthF fl p.2) p.1):=hj.le (aE _) (nr (fT _ b1) _);have:=qA hg ps _ _ (fun q hq=>hp q (bw _ hq)) hj2;refine this.le (aE _) ?_;rw[cz,Nat.add_mul];lia
end L2
end
section
namespace L2
open PySem PySem.Spec PyProof.Rows
theorem xI{P:Program}{w:World}{K:W.Frag}{G:GH}{x y:T}{ts us:List T}{k:T->GH->Prop}(s:SqI G x ts)(s2:SqI G y us)(hz:ts.length+us.length<=1000000)(h:∀ a,G a=none->k (.ptr a) (gput G a (.lst (ts++us)))):L2r P w K rCat x y G k:=fun H u v g r1 r2 Q z=>by
 obtain⟨a,vs,rfl,q,e⟩:=eS g s r1;obtain⟨b,ws,rfl,q2,e2⟩:=eS g s2 r2;refine wO e e2 (ja (by rw[<-q.length,<- q2.length];exact hz)) fun p hp=>?_;obtain⟨g2,s3⟩:=g.putL (.inr hp) (q.app q2);exact z _ _ _ _ s3 g2 .ptr (h p (g.free hp))
theorem xL {P:Program} {w:World} {K:W.Frag} {G:GH} {k:T->GH->Prop} {Γ:Ev} {g:TG} {te:TE} {LN:List Str} {fr:List Nat} {wi:TI} {tt:TT} (h:Wi P w K wi Γ G fun xs kp G1=>xs.length<=100000/\∃ I:Nat->List T->Ev->GH->Prop,I 0 [] (bkE LN.length fr Γ) G1/\(∀ i acc Γ' G',I i acc Γ' G'->kp G') /\
   (∀ (i:Nat) x acc Γ' G',xs[i]?=some x->I i acc Γ' G'->Wg P w K g x Γ' G' fun Γ2 G2=>Wt P w K tt Γ2 G2 fun b G3=>if b=true then We P w K te Γ2 G3 (fun d G4=>I (i+1) (acc++[d]) Γ2 G4) else I (i+1) acc Γ2 G3) /\
   ∀ acc Γ' G',I xs.length acc Γ' G'->∀ a,G' a=none->k (.ptr a) (gput G' a (.lst acc))):We P w K (fW LN fr wi g tt te) Γ G k:=fun H Z g ev Q z =>
 h H Z g ev _ fun J H1 xs kp G1 s1 g1 it z0_=>by
  obtain⟨hz,I,i0,hk,hs,hd⟩:=z0_;refine mT xs.length (ja (by lia)) (fun i ys Z H=>∃ acc Γ' G',Stp G1 H1 G' H/\GOk P w K G' H/\EnvOk K G' H Z Γ'/\RepTs K G' H acc ys/\I i acc Γ' G') ⟨[],_,G1,.refl,g1,qe (ev.mono g s1),.nil,i0⟩ ?_ ?_ ?_ ?_
  .rintro i ys Z H hi ⟨acc,Γ',G',s2,g2,e2,r2,p⟩;exact((it G' H s2 g2 (hk _ _ _ _ p)).1 i xs[i] (ay hi)).1
  .rintro ys Z H ⟨acc,Γ',G',s2,g2,e2,r2,p⟩;exact(it G' H s2 g2 (hk _ _ _ _ p)).2
  .rintro i x ys Z H H' hi hy hy2 ⟨acc,Γ',G',s2,g2,e2,r2,p⟩ y;obtain ⟨sm,rx⟩:=((it G' H s2 g2 (hk _ _ _ _ p)).1 i xs[i] (ay hi)).2 x H' y;refine hs i _ acc Γ' G' (ay hi) p H' Z x (g2.same sm) (e2.mono g2 (.same sm)) rx _ fun σ3 H3 Γ3 G3 s3 g3 e3 q3=>q3 H3 σ3 g3 e3 _ fun b H4 G4 s4 g4 q4=>?_;have r4:=r2.mono g2 ((Stp.same sm).trans (s3.trans s4));have st4:=s2.trans ((Stp.same sm).trans (s3.trans s4));cases b with
   | true =>
    refine iteT ((gp q4) H4 σ3 g4 (e3.mono g3 s4) _ fun v H5 d G5 s5 g5 r5 q5=>⟨hy2,by rw[aH];simpa using hy,?_⟩);exact⟨acc++[d],Γ3,G5,st4.trans s5,g5,e3.mono g3 (s4.trans s5),(r4.mono g4 s5).app (.cons r5 .nil),q5⟩
   | false=>exact iteF ⟨by lia,acc,Γ3,G4,st4,g4,e3.mono g3 s4,r4,gc q4⟩
  .rintro ys Z H hl ⟨acc,Γ',G',s2,g2,e2,r2,p⟩ q hq;obtain⟨g3,s3⟩:=g2.putL (.inr hq) r2;exact z _ _ _ _ ((s1.trans s2).trans s3) g3 .ptr (hd acc Γ' G' p q (g2.free hq))
theorem j6{P:Program}{w:World}{K:W.Frag}{G:GH}{k:T->GH->Prop}{i j:Int}(hj:0<j)(h:k (.int (i % j)) G):L2r P w K (rI (fun _ j=>0<j) fun i j=>V.int (i % j)) (.int i) (.int j) G k:=fun H u v g r1 r2 Q z=>by cases r1;cases r2;exact⟨i,j,rfl,rfl,hj,z.here g .int h⟩
structure FoB(n:Nat)(f:Fm):Prop where
 o:Fo n (10^900) f
 n:n<64
theorem kA{n:Nat}{t:List (Int×Int)}(hn:n<64)(h1:(t.map (·.1)).Nodup)(h2:∀ x∈t.map Prod.fst,0<=x/\x<n):t.length<64:=by
 have:=mI (n:=n) _ h1 h2;rw[af] at this;lia
theorem l9{x:Nat}(h:x<=10^900):x<=10^1000:=bh h (iB (by decide) (by decide))
theorem ia{i j:Int}(h:i.natAbs<=10^1000)(h2:j.natAbs<=10^1000):CBig i j:=⟨iY h (by decide +kernel),iY h2 (by decide +kernel)⟩
theorem wt_cut{P:Program}{w:World}{K:W.Frag}{c:TT}{Γ:Ev}{G:GH}{kb:Bool->GH->Prop}(X:Bool)(h:Wt P w K c Γ G fun b G'=>b=X/\G'=G)(q:kb X G):Wt P w K c Γ G kb:=fun H Z g ev Q z=>h H Z g ev Q fun b H' G' s g' ⟨e1,e2⟩=>z b H' G' s g' (by rw[e1,e2];exact q)
theorem ZnA{α:Type}(l:List α)(x:α):(l++[x]).getLast?=some x:=by simp
theorem iR{Q:List Df}{f:List SF}{s:SF}:bZ Q (f++[s])=cF Q f s:=by unfold bZ;rw[ZnA,fU]
theorem gk{Q:List Df}(K:PgK Q){n B:Nat}{s:SF}(h:SfOk Q n B s):s.2.2.length<=8:=by
 obtain⟨d,r,hd,_,_,_,_,_,h5⟩:=dZ h;have:=K.b d hd;lia
def Sub(G0 G:GH):Prop:=∀ b,G0 b=G b\/(G0 b=none/\∃ ts,G b=some (.lst ts))
theorem Sub.gok{G0 G:GH}(s:Sub G0 G){P:Program}{w:World}{K:W.Frag}{H:Hp}(g:GOk P w K G H):GOk P w K G0 H/\Kp G H G0 H:=by
 have n0:∀ b,G b=none->G0 b=none:=fun b e=>by
  rcases s b with h|⟨h,_⟩
  .rw[h];exact e
  .exact h
 have kk:Kp G H G0 H:=⟨fun _ _ h=>h,fun c xs n h=>⟨h,n0 c n⟩⟩;refine⟨fun b c e=>?_,kk⟩;have e':G b=some c:=by
  rcases s b with h|⟨h,_⟩
  .rw[<-h];exact e
  .rw[h] at e;cases e
 refine(g b c e').kp kk (fun _ h=>h) (fun l _=>⟨fun _ h=>h,n0 l⟩) fun C dx fs z q=>?_;rcases s dx with h|⟨h,ts,h2⟩
 .rw[h];exact q
 .rw[q] at h2;cases h2
section
variable{G0 G:GH}{k:T->GH->Prop}{kn:Ev->GH->Prop}{d:T}{Γ:Ev}
theorem Sub.none(s:Sub G0 G){c:Addr}(e:G c=none):G0 c=none:=by
 rcases s c with h|⟨h,_⟩
 .rw[h];exact e
 .exact h
theorem iI(s:Sub G0 G)(h:Cl k d G0):Cl k d G:=by
 obtain⟨d',G',h1,h2,h3⟩:=h;exact⟨d',G',fun c q=>h1 c (s.none q),fun P w K H v g r=>let ⟨g2,k2⟩:=s.gok g;h2 P w K H v g2 (r.kp k2),h3⟩
end
noncomputable abbrev FrA(α:Type):=Int×Int×List α
structure FrI{α:Type}(φ:α->T)(G0 G:GH)(xs ys:List Addr)(l:List (FrA α)):Prop where
 lx:xs.length=l.length
 ly:ys.length=l.length
 x:∀ (i:Nat) a b s,xs[i]?=some a->ys[i]?=some b->l[i]?=some s->G a=some (.lst [.int s.1,.int s.2.1,.ptr b])/\G b=some (.lst (s.2.2.map φ))
 nd:(xs++ys).Nodup
 old:∀ b,b∉xs++ys->G b=G0 b
 new:∀ b∈xs++ys,G0 b=none
section
variable{α:Type}{φ:α->T}{G0 G:GH}{xs ys gs:List Addr}{l:List (FrA α)}{fl:Addr}
theorem fX{l:List Addr}{i:Nat}{a:Addr}(h:l[i]?=some a):a∈l:=aD h
theorem FrI.nil:FrI φ G0 G0 [] [] []:=⟨rfl,rfl,(fun i a b s h=>(by cases h)),fz,fun _ _=>rfl,(fun b hb=>(by cases hb))⟩
theorem FrI.has(h:FrI φ G0 G xs ys l){b:Addr}(hb:b∈xs++ys):∃ ts,G b=some (.lst ts):=by
 have h1:=h.lx;have h2:=h.ly;rcases aS.mp hb with hb|hb
 .obtain ⟨i,hi⟩:=fV.mp hb;have:=(aX.mp hi).1;exact⟨_,(h.x i b _ _ hi (ay (by lia)) (ay (by lia))).1⟩
 .obtain ⟨i,hi⟩:=fV.mp hb;have:=(aX.mp hi).1;exact⟨_,(h.x i _ b _ (ay (by lia)) hi (ay (by lia))).2⟩
theorem FrI.not(h:FrI φ G0 G xs ys l){a:Addr}(n:G a=none):a∉xs++ys:=fun hb=>by
 obtain⟨ts,e⟩:=h.has hb;rw[n] at e;cases e
theorem dE{α:Type}{l:List α}{x y:α}{i:Nat}(h:(l++[x])[i]?=some y):(i<l.length/\l[i]?=some y)\/(i=l.length/\y=x):=by
 by_cases hi:i<l.length
 .rw[cm hi] at h;exact .inl ⟨hi,h⟩
 .have hl:=(aX.mp h).1;rw[aH] at hl;have e:i=l.length:=by simp at hl;lia
  subst e;rw[cq] at h;cases h;exact .inr ⟨rfl,rfl⟩
theorem FrI.snoc(h:FrI φ G0 G xs ys l){x y:Addr}{s:FrA α}(ny:G y=none)(nx:G x=none)(hxy:x≠y):FrI φ G0 (gput (gput G y (.lst (s.2.2.map φ))) x (.lst [.int s.1,.int s.2.1,.ptr y])) (xs++[x]) (ys++[y]) (l++[s]):=by
 have y1:=h.not ny;have x1:=h.not nx;have key:∀ b,b∈xs++ys->gput (gput G y (.lst (s.2.2.map φ))) x (.lst [.int s.1,.int s.2.1,.ptr y]) b=G b:=fun b hb=>by rw[gp_n (fun e=>x1 (by rw[<-e];exact hb)),gp_n (fun e=>y1 (by rw[<-e];exact hb))]
 have h1:=h.lx;have h2:=h.ly;refine⟨by simp[h1],by simp[h2],fun i a b s' ea eb es=>?_,?_,fun b hb=>?_,fun b hb=>?_⟩
 .rcases dE ea with ⟨i1,ea⟩|⟨i1,rfl⟩
  .rcases dE eb with ⟨_,eb⟩|⟨i2,_⟩
   .rcases dE es with ⟨_,es⟩|⟨i3,_⟩
    .rw[key a (dJ _ (fX ea)),key b (eB _ (fX eb))];exact h.x i a b s' ea eb es
    .lia
   .lia
  .rcases dE eb with ⟨i2,eb⟩|⟨_,rfl⟩
   .lia
   .rcases dE es with ⟨i3,es⟩|⟨_,rfl⟩
    .lia
    .exact ⟨gp_s,by rw[gp_n (fun e=>hxy e.symm)];exact gp_s⟩
 .have nd:=eY.mp h.nd;simp only[aS,bW] at x1 y1;rw[eY];refine ⟨?_,?_,fun a ha b hb e=>?_⟩
  .rw[eY];exact⟨nd.1,by simp,fun a ha b hb e=>x1.1 (by rw[<-aM.mp hb,<- e];exact ha)⟩
  .rw[eY];exact⟨nd.2.1,by simp,fun a ha b hb e=>y1.2 (by rw[<-aM.mp hb,<- e];exact ha)⟩
  .subst e;rcases aS.mp ha with ha|ha
   .rcases aS.mp hb with hb|hb
    .exact nd.2.2 a ha a hb rfl
    .rw[aM.mp hb] at ha;exact y1.1 ha
   .rw[aM.mp ha] at hb;rcases aS.mp hb with hb|hb
    .exact x1.2 hb
    .exact hxy (aM.mp hb)
 .simp only[aS,aM,bW] at hb;rw[gp_n hb.1.2,gp_n hb.2.2];exact h.old b (by simp only[aS,bW];exact⟨hb.1.1,hb.2.1⟩)
 .have bx:∀ c,G c=none->c∉xs++ys->G0 c=none:=fun c e n=>by rw[<-h.old c n];exact e
  simp only[aS,aM] at hb;rcases hb with (hb|rfl)|(hb|rfl)
  .exact h.new b (dJ _ hb)
  .exact bx b nx x1
  .exact h.new b (eB _ hb)
  .exact bx b ny y1
structure FrSt{α:Type}(φ:α->T)(G0 G:GH)(fl:Addr)(xs ys gs:List Addr)(l:List (FrA α)):Prop where
 fr:G fl=some (.lst (xs.map T.ptr))
 lx:xs.length=l.length
 ly:ys.length=l.length
 x:∀ (i:Nat) a b s,xs[i]?=some a->ys[i]?=some b->l[i]?=some s->G a=some (.lst [.int s.1,.int s.2.1,.ptr b])/\G b=some (.lst (s.2.2.map φ))
 g:∀ b∈gs,∃ ts,G b=some (.lst ts)
 nd:(fl::(xs++ys)).Nodup
 old:∀ b,b∉fl::(xs++ys)->b∉gs->G b=G0 b
 new:∀ b,b∈fl::(xs++ys)\/b∈gs->G0 b=none
theorem FrI.fin(h:FrI φ G0 G xs ys l)(n:G fl=none):FrSt φ G0 (gput G fl (.lst (xs.map T.ptr))) fl xs ys [] l:=by
 have f1:=h.not n;have key:∀ b,b∈xs++ys->gput G fl (.lst (xs.map T.ptr)) b=G b:=fun b hb=>gp_n (fun e=>f1 (e▸hb));refine⟨gp_s,h.lx,h.ly,fun i a b s ea eb es=>?_,fun b hb=>(by cases hb),dX.mpr ⟨f1,h.nd⟩,fun b hb _=>?_,fun b hb=>?_⟩
 .rw[key a (dJ _ (fX ea)),key b (eB _ (fX eb))];exact h.x i a b s ea eb es
 .rw[aJ,bW] at hb;rw[gp_n hb.1];exact h.old b hb.2
 .rcases hb with hb|hb
  .rcases aJ.mp hb with rfl|hb
   .rw[<-h.old b f1];exact n
   .exact h.new b hb
  .cases hb
theorem FrSt.has(h:FrSt φ G0 G fl xs ys gs l){b:Addr}(hb:b∈fl::(xs++ys)\/b∈gs):∃ ts,G b=some (.lst ts):=by
 have h1:=h.lx;have h2:=h.ly;rcases hb with hb|hb
 .rcases aJ.mp hb with rfl|hb
  .exact ⟨_,h.fr⟩
  .rcases aS.mp hb with hb|hb
   .obtain ⟨i,hi⟩:=fV.mp hb;have:=(aX.mp hi).1;exact⟨_,(h.x i b _ _ hi (ay (by lia)) (ay (by lia))).1⟩
   .obtain ⟨i,hi⟩:=fV.mp hb;have:=(aX.mp hi).1;exact⟨_,(h.x i _ b _ (ay (by lia)) hi (ay (by lia))).2⟩
 .exact h.g b hb
theorem FrSt.sub(h:FrSt φ G0 G fl xs ys gs l):Sub G0 G:=fun b=>by
 by_cases hb:b∈fl::(xs++ys)\/b∈gs
 .exact .inr ⟨h.new b hb,h.has hb⟩
 .rw[bW] at hb;exact .inl (h.old b hb.1 hb.2).symm
theorem FrSt.keep(h:FrSt φ G0 G fl xs ys gs l){b:Addr}{c:Ct}(e:G0 b=some c):G b=some c:=by
 by_cases hb:b∈fl::(xs++ys)\/b∈gs
 .rw[h.new b hb] at e;cases e
 .rw[bW] at hb;rw[h.old b hb.1 hb.2];exact e
theorem FrSt.sq(h:FrSt φ G0 G fl xs ys gs l){x:T}{ts:List T}(e:SqI G0 x ts):SqI G x ts:=e.imp id fun⟨a,h1,h2⟩=>⟨a,h1,h.keep h2⟩
theorem FrSt.last{s:FrA α}(h:FrSt φ G0 G fl xs ys gs (l++[s])):∃ xs' ys' a b,xs=xs'++[a]/\ys=ys'++[b]/\xs'.length=l.length/\ys'.length=l.length/\G a=some (.lst [.int s.1,.int s.2.1,.ptr b])/\G b=some (.lst (s.2.2.map φ)):=by
 have h1:=h.lx;have h2:=h.ly;rw[aH,dY] at h1 h2;have n1:xs≠[]:=fun e=>by rw[e] at h1;simp at h1
 have n2:ys≠[]:=fun e=>by rw[e] at h2;simp at h2
 have e1:=(sC n1).symm;have e2:=(sC n2).symm;generalize xs.dropLast=xs' at e1;generalize xs.getLast n1=a at e1;generalize ys.dropLast=ys' at e2;generalize ys.getLast n2=b at e2;subst e1 e2;rw[aH,dY] at h1 h2;have q1:xs'.length=l.length:=by lia
 have q2:ys'.length=l.length:=by lia
 obtain⟨z1,z2⟩:=h.x l.length a b s (by rw[<-q1];exact cq) (by rw[<-q2];exact cq) cq;exact⟨xs',ys',a,b,rfl,rfl,q1,q2,z1,z2⟩
theorem me{xs ys:List Addr}{a b:Addr}(nd:(fl::((xs++[a])++(ys++[b]))).Nodup):a≠b/\fl≠a/\fl≠b/\a∉xs/\a∉ys/\b∉xs/\b∉ys:=by
 simp only[dX,eY,aS,aM,bW] at nd;obtain⟨⟨⟨_,f1⟩,_,f2⟩,⟨⟨_,_,d1⟩,⟨_,_,d2⟩,d3⟩⟩:=nd;refine⟨fun e=>d3 a (.inr rfl) b (.inr rfl) e,f1,f2,fun h=>d1 a h a rfl rfl,fun h=>d3 a (.inr rfl) a (.inl h) rfl,fun h=>d3 b (.inl h) b (.inr rfl) rfl,fun h=>d2 b h b rfl rfl⟩
theorem FrSt.setLast{s s':FrA α}{a b:Addr}(h:FrSt φ G0 G fl (xs++[a]) (ys++[b]) gs (l++[s]))(q1:xs.length=l.length)(q2:ys.length=l.length):FrSt φ G0 (gput (gput G b (.lst (s'.2.2.map φ))) a (.lst [.int s'.1,.int s'.2.1,.ptr b])) fl (xs++[a]) (ys++[b]) gs (l++[s']):=by
 obtain⟨d1,d2,d3,d4,d5,d6,d7⟩:=me h.nd;have ks:∀ c,c≠a->c≠b->gput (gput G b (.lst (s'.2.2.map φ))) a (.lst [.int s'.1,.int s'.2.1,.ptr b]) c=G c:=fun c h1 h2=>by rw[gp_n h1,gp_n h2]
 refine⟨by rw[ks _ d2 d3];exact h.fr,by simp[q1],by simp[q2],fun i x y t ex ey et=>?_,fun c hc=>?_,h.nd,fun c hc hg=>?_,h.new⟩
 .rcases dE et with ⟨i1,et⟩|⟨i1,rfl⟩
  .rcases dE ex with ⟨_,ex⟩|⟨i2,_⟩
   .rcases dE ey with ⟨_,ey⟩|⟨i3,_⟩
    .have mx:=fX ex;have my:=fX ey;rw[ks x (fun e=>d4 (e▸mx)) (fun e=>d6 (e▸mx)),ks y (fun e=>d5 (e▸my)) (fun e=>d7 (e▸my))];exact h.x i x y t (by rw[cm (by lia)];exact ex) (by rw[cm (by lia)];exact ey) (by rw[cm i1];exact et)
    .lia
   .lia
  .rcases dE ex with ⟨i2,_⟩|⟨_,rfl⟩
   .lia
   .rcases dE ey with ⟨i3,_⟩|⟨_,rfl⟩
    .lia
    .exact ⟨gp_s,by rw[gp_n (fun e=>d1 e.symm)];exact gp_s⟩
 .by_cases ha:c=a
  .rw[ha];exact⟨_,gp_s⟩
  .by_cases hb:c=b
   .rw[hb,gp_n (fun e=>d1 e.symm)];exact⟨_,gp_s⟩
   .rw[ks c ha hb];exact h.g c hc
 .have ha:c≠a:=fun e=>hc (by rw[e];simp);have hb:c≠b:=fun e=>hc (by rw[e];simp);rw[ks c ha hb];exact h.old c hc hg
theorem FrSt.setAt{s:FrA α}{t:Int}{a b:Addr}(h:FrSt φ G0 G fl (xs++[a]) (ys++[b]) gs (l++[s]))(q1:xs.length=l.length)(q2:ys.length=l.length):FrSt φ G0 (gput G a (.lst [.int s.1,.int t,.ptr b])) fl (xs++[a]) (ys++[b]) gs (l++[(s.1,t,s.2.2)]):=by
 have:=h.setLast (s':=(s.1,t,s.2.2)) q1 q2;have e:G b=some (.lst (s.2.2.map φ)):=(h.x l.length a b s (by rw[<-q1];exact cq) (by rw[<-q2];exact cq) cq).2;dsimp only at this
 rwa [gD e] at this
theorem FrSt.setBox{s:FrA α}{fm:List α}{a b:Addr}(h:FrSt φ G0 G fl (xs++[a]) (ys++[b]) gs (l++[s]))(q1:xs.length=l.length)(q2:ys.length=l.length):FrSt φ G0 (gput G b (.lst (fm.map φ))) fl (xs++[a]) (ys++[b]) gs (l++[(s.1,s.2.1,fm)]):=by
 have:=h.setLast (s':=(s.1,s.2.1,fm)) q1 q2;obtain⟨d1,_⟩:=me h.nd;have e:G a=some (.lst [.int s.1,.int s.2.1,.ptr b]):=(h.x l.length a b s (by rw[<-q1];exact cq) (by rw[<-q2];exact cq) cq).1;dsimp only at this;rw[gp_c (fun e=>d1 e.symm),gD e] at this;exact this
theorem FrSt.push{s:FrA α}{a b:Addr}(h:FrSt φ G0 G fl xs ys gs l)(nb:G b=none)(na:G a=none)(hab:a≠b):FrSt φ G0 (gput (gput (gput G b (.lst (s.2.2.map φ))) a (.lst [.int s.1,.int s.2.1,.ptr b])) fl (.lst (xs.map T.ptr++[.ptr a]))) fl (xs++[a]) (ys++[b]) gs (l++[s]):=by
 have nn:∀ c,G c=none->¬ (c∈fl::(xs++ys)\/c∈gs):=fun c e hm=>by
  obtain⟨ts,z⟩:=h.has hm;rw[e] at z;cases z
 have na':=nn a na;have nb':=nn b nb;simp only[aJ,aS,bW] at na' nb';obtain⟨⟨fa,xa,ya⟩,ga⟩:=na';obtain⟨⟨fb,xb,yb⟩,gb⟩:=nb';have nd:=dX.mp h.nd;have ndx:=eY.mp nd.2;have hf:=nd.1;simp only[aS,bW] at hf;have ks:∀ c,c≠fl->c≠a->c≠b->gput (gput (gput G b (.lst (s.2.2.map φ))) a (.lst [.int s.1,.int s.2.1,.ptr b])) fl (.lst (xs.map T.ptr++[.ptr a])) c=G c:=fun c h0 h1 h2=>by rw[gp_n h0,gp_n h1,gp_n h2]
 have h1:=h.lx;have h2:=h.ly;refine⟨by rw[gp_s,aW];rfl,by simp[h1],by simp[h2],fun i x y t ex ey et=>?_,fun c hc=>?_,?_,fun c hc hg=>?_,fun c hc=>?_⟩
 .rcases dE et with ⟨i1,et⟩|⟨i1,rfl⟩
  .rcases dE ex with ⟨_,ex⟩|⟨i2,_⟩
   .rcases dE ey with ⟨_,ey⟩|⟨i3,_⟩
    .have mx:=fX ex;have my:=fX ey;rw[ks x (fun e=>hf.1 (e▸mx)) (fun e=>xa (e▸mx)) (fun e=>xb (e▸mx)),ks y (fun e=>hf.2 (e▸my)) (fun e=>ya (e▸my)) (fun e=>yb (e▸my))];exact h.x i x y t ex ey et
    .lia
   .lia
  .rcases dE ex with ⟨i2,_⟩|⟨_,rfl⟩
   .lia
   .rcases dE ey with ⟨i3,_⟩|⟨_,rfl⟩
    .lia
    .exact ⟨by rw[gp_n fa];exact gp_s,by rw[gp_n fb,gp_n (fun e=>hab e.symm)];exact gp_s⟩
 .by_cases hcf:c=fl
  .rw[hcf];exact⟨_,gp_s⟩
  .rw[ks c hcf (fun e=>ga (e▸hc)) (fun e=>gb (e▸hc))];exact h.g c hc
 .rw[dX];refine ⟨?_,?_⟩
  .simp only[aS,aM,bW];exact⟨⟨hf.1,fun e=>fa e.symm⟩,hf.2,fun e=>fb e.symm⟩
  .rw[eY,eY,eY];refine ⟨⟨ndx.1,by simp,fun c hc d hd e=>xa (by rw[<-aM.mp hd,<- e];exact hc)⟩,⟨ndx.2.1,by simp,fun c hc d hd e=>yb (by rw[<-aM.mp hd,<- e];exact hc)⟩,fun c hc d hd e=>?_⟩;subst e;rcases aS.mp hc with hc|hc
   .rcases aS.mp hd with hd|hd
    .exact ndx.2.2 c hc c hd rfl
    .rw[aM.mp hd] at hc;exact xb hc
   .rw[aM.mp hc] at hd;rcases aS.mp hd with hd|hd
    .exact ya hd
    .exact hab (aM.mp hd)
 .simp only[aJ,aS,bX,cG,bW] at hc;rw[ks c hc.1 hc.2.1.2 hc.2.2.2];exact h.old c (by simp only[aJ,aS,bW];exact⟨hc.1,hc.2.1.1,hc.2.2.1⟩) hg
 .have bx:∀ c,G c=none->G0 c=none:=fun c e=>by
   have z:=nn c e;rw[bW] at z;rw[<-h.old c z.1 z.2];exact e
  rcases hc with hc|hc
  .simp only[aJ,aS,bX,cG] at hc;rcases hc with rfl|(hc|rfl)|(hc|rfl)
   .exact h.new c (.inl aO)
   .exact h.new c (.inl (bw _ (dJ _ hc)))
   .exact bx c na
   .exact h.new c (.inl (bw _ (eB _ hc)))
   .exact bx c nb
  .exact h.new c (.inr hc)
theorem FrSt.pop{s:FrA α}{a b:Addr}(h:FrSt φ G0 G fl (xs++[a]) (ys++[b]) gs (l++[s]))(q1:xs.length=l.length)(q2:ys.length=l.length):FrSt φ G0 (gput G fl (.lst (xs.map T.ptr))) fl xs ys (a::b::gs) l:=by
 obtain⟨d1,d2,d3,d4,d5,d6,d7⟩:=me h.nd;have nd:=dX.mp h.nd;have ndx:=eY.mp nd.2;have hf:=nd.1;simp only[aS,aM,bW] at hf;have nx:=eY.mp ndx.1;have ny:=eY.mp ndx.2.1;refine⟨gp_s,q1,q2,fun i x y t ex ey et=>?_,fun c hc=>?_,?_,fun c hc hg=>?_,fun c hc=>?_⟩
 .have mx:=fX ex;have my:=fX ey;have li:=(aX.mp et).1;rw[gp_n (fun e=>hf.1.1 (by rw[<-e];exact mx)),gp_n (fun e=>hf.2.1 (by rw[<-e];exact my))];exact h.x i x y t (by rw[cm (by lia)];exact ex) (by rw[cm (by lia)];exact ey) (by rw[cm li];exact et)
 .by_cases hcf:c=fl
  .rw[hcf];exact⟨_,gp_s⟩
  .rw[gp_n hcf];rcases aJ.mp hc with rfl|hc
   .exact h.has (.inl (by simp))
   .rcases aJ.mp hc with rfl|hc
    .exact h.has (.inl (by simp))
    .exact h.g c hc
 .rw[dX,eY];refine⟨by simp only[aS,bW];exact⟨hf.1.1,hf.2.1⟩,nx.1,ny.1,fun c hc d hd e=>ndx.2.2 c (dJ _ hc) d (dJ _ hd) e⟩
 .simp only[aJ,aS,bW] at hc hg;rw[gp_n hc.1];exact h.old c (by simp only[aJ,aS,bX,cG,bW];exact⟨hc.1,⟨hc.2.1,hg.1⟩,hc.2.2,hg.2.1⟩) hg.2.2
 .rcases hc with hc|hc
  .refine h.new c (.inl ?_);simp only[aJ,aS] at hc ⊢;rcases hc with hc|hc|hc
   .exact .inl hc
   .exact .inr (.inl (.inl hc))
   .exact .inr (.inr (.inl hc))
  .rcases aJ.mp hc with rfl|hc
   .exact h.new c (.inl (by simp))
   .rcases aJ.mp hc with rfl|hc
    .exact h.new c (.inl (by simp))
    .exact h.new c (.inr hc)
end
section
variable{P:Program}{w:World}{K:W.Frag}{G:GH}{a:Addr}{Γ:Ev}{k:T->GH->Prop}{kn:Ev->GH->Prop}{ts:List T}{gs:TGs}{y:T}
theorem tJ{n:Nat}(e:G a=some (.lst ts))(hl:ts.length=n)(h:Wgs P w K gs ts Γ G kn):Wg P w K (gLst K n gs) (.ptr a) Γ G kn:=fun H Z v g ev r R z=>by
 cases r;obtain⟨xs,h1,rs⟩:=g a _ e;exact⟨_,_,rfl,SqL.of h1,by rw[<-rs.length];exact hl,h H Z _ g ev rs R z⟩
theorem RepTs.dropLast{H:Hp}{ts:List T}{xs:List V}(r:RepTs K G H ts xs):RepTs K G H ts.dropLast xs.dropLast:=by
 rw[dropLast_eq_take,dropLast_eq_take,r.length];exact r.take _
theorem l_pop(e:G a=some (.lst (ts++[y])))(h:k y (gput G a (.lst ts))):LBr P w K rPop (.ptr a) [] G k:=fun H u vs g r1 r2 Q z=>by
 cases r1;cases r2;obtain⟨xs,h1,rs⟩:=g a _ e;have hl:=rs.length;rw[aH,dY] at hl;obtain⟨v,ev,rv⟩:=rs.get (i:=ts.length) cq;have rd:=rs.dropLast;rw[fU] at rd;obtain⟨g2,s2⟩:=g.putL (.inl ⟨_,e⟩) rd;refine⟨a,xs,v,rfl,rfl,h1,by rw[<-hl,sD];exact ev,z _ _ _ _ s2 g2 (rv.mono g s2) h⟩
end
end L2
namespace L2
open PySem
section
variable{G0 G:GH}{xs ys gs:List Addr}{l:List SF}{fl a b:Addr}
theorem uR{c:Ct}{x y:Addr}(h:gput G y c x=none):G x=none/\x≠y:=by
 have n:x≠y:=fun e=>by rw[e,gp_s] at h;cases h
 rw[gp_n n] at h;exact⟨h,n⟩
theorem FrI.sq{α:Type}{φ:α->T}{l:List (FrA α)}(h:FrI φ G0 G xs ys l){x:T}{ts:List T}(e:SqI G0 x ts):SqI G x ts:=e.imp id fun⟨a,h1,h2⟩=>⟨a,h1,by
 by_cases hb:a∈xs++ys
 .rw[h.new a hb] at h2;cases h2
 .rw[h.old a hb];exact h2⟩
noncomputable def optT:Option (List SF)->T
 | none=>.non
 | some l=>.lst (l.map sfT)
theorem Zqc(ps:List (Int×Int)):eqD (.tup (ps.map pairD)) (.tup [])=decide (ps=[]):=by
 cases ps with
 | nil=>exact eqD_same.trans (by simp)
 | cons p ps=>exact(dU (fun z=>by injection z with z;cases z)).trans (by simp)
end
end L2
namespace L2
open PySem
theorem pB{P:Program}{w:World}{K:W.Frag}{G:GH}{k:T->GH->Prop}{ps:List (Int×Int)}(h:k (.bl (decide (ps=[]))) G):L2r P w K rEqD (.tup (ps.map prT)) (.tup []) G k:=by
 obtain⟨h1,h2⟩:=uq ps;have:=l_eqD (P:=P) (w:=w) (K:=K) (G:=G) (k:=k) (ds:=ps.map pairD) (es:=[]) h1 rfl (by lia) (by rw[Zqc];exact h);rw[w6] at this;exact this
end L2
end
section
namespace L2
open PySem
def Chn(Q:List Df)(ps:List (Int×Int)):Prop:=∀ (i:Nat) a b,ps[i]?=some a->ps[i+1]?=some b->∃ p qs,cr Q a.1 a.2=some (.call p b.1 qs)
theorem Zqi{Q:List Df}{x:Int×Int}:Chn Q [x]:=fun i a b h h2=>by cases h2
theorem chn_snoc{Q:List Df}{ps:List (Int×Int)}{x:Int×Int}:Chn Q (ps++[x])↔Chn Q ps/\∀ a,ps.getLast?=some a->∃ p qs,cr Q a.1 a.2=some (.call p x.1 qs):=by
 refine⟨fun h=>⟨fun i a b h1 h2=>?_,fun a ha=>?_⟩,fun⟨h,hx⟩ i a b h1 h2=>?_⟩
 .have l2:=(aX.mp h2).1;exact h i a b (by rw[cm (by lia)];exact h1) (by rw[cm l2];exact h2)
 .obtain ⟨ys,rfl⟩:=gy.mp ha;refine h ys.length a x ?_ ?_
  .rw[cp,gu (aE _),Nat.sub_self];rfl
  .rw[cp,gu (nt _)];simp
 .by_cases l2:i+1 < ps.length
  .exact h i a b (by rw[cm (by lia)] at h1;exact h1) (by rw[cm l2] at h2;exact h2)
  .have hlt:=(aX.mp h2).1;rw[aH] at hlt;have e:i+1=ps.length:=by simp at hlt;lia
   rw[e,cq] at h2;cases h2;refine hx a ?_;rw[cm (by lia)] at h1;rw[getLast?_eq_getElem?,<- e,sD];exact h1
theorem lY(a b:List SF):plcF (a++b)=plcF a++plcF b:=aW
theorem hJ{Q:List Df}{fr:List SF}{s s':SF}(h:Chn Q (plcF (fr++[s])))(e:s'.1=s.1):Chn Q (plcF (fr++[s'])):=by
 rw[lY] at h ⊢;obtain⟨h1,h2⟩:=chn_snoc.mp h;exact chn_snoc.mpr ⟨h1,fun a ha=>by
  obtain⟨p,qs,e2⟩:=h2 a ha;exact⟨p,qs,by rw[e2];show _=some (Rw.call p s'.1 qs);rw[e]⟩⟩
theorem ZjP{Q:List Df}{l l':List SF}(h:Chn Q (plcF l))(e:bZ Q l=some l'):Chn Q (plcF l'):=by
 unfold bZ at e;cases hl:l.getLast? with
 | none=>rw[hl] at e;cases e
 | some s =>
  rw[hl] at e;dsimp only at e;obtain⟨fr,rfl⟩:=gy.mp hl;rw[fU] at e;have at':∀ {s':SF},s'.1=s.1->Chn Q (plcF (fr++[s'])):=fun {s'} e=>hJ h e;unfold cF at e;cases hr:cr Q s.1 s.2.1 with
  | none=>rw[hr] at e;cases e
  | some r =>
   rw[hr] at e;cases r with
   | put p m=>cases e;exact at' rfl
   | copy p q=>cases e;exact at' rfl
   | plus p q r=>cases e;exact at' rfl
   | less p q r=>cases e;exact at' rfl
   | times p q m=>cases e;exact at' rfl
   | take p=>cases e
   | tell p=>cases e
   | jump t=>cases e;exact at' rfl
   | zero p t =>
    dsimp only [bK] at e;split at e
    .cases e;exact at' rfl
    .cases e
   | below p t =>
    dsimp only [bK] at e;split at e
    .cases e;exact at' rfl
    .cases e
   | call p g qs =>
    dsimp only [bK] at e;split at e
    .cases e;have e2:fr++[s,eJ Q s g qs]=(fr++[s])++[eJ Q s g qs]:=by simp
     rw[e2,lY];refine chn_snoc.mpr ⟨h,fun a ha=>?_⟩;rw[lY] at ha;have:a=(s.1,s.2.1):=by
      have:(plcF fr++plcF [s]).getLast?=some (s.1,s.2.1):=getLast?_concat;rw[this] at ha;cases ha;rfl
     rw[this];exact⟨p,qs,hr⟩
    .cases e
   | back p =>
    dsimp only [bK] at e;cases hc:fr.getLast? with
    | none=>rw[hc] at e;cases e
    | some c =>
     rw[hc] at e;cases e;obtain⟨ys,rfl⟩:=gy.mp hc;rw[fU];rw[lY] at h;exact hJ (chn_snoc.mp h).1 rfl
theorem vZ{Q : List Df} : ∀ {n : Nat} {l l' : List SF}, Chn Q (plcF l)->cB Q n l=some l'->Chn Q (plcF l')
  | 0, l, l', h, e=>by cases e; exact h
  | n + 1, l, l', h, e => by
    rw[cB] at e;obtain⟨l1,e1,e2⟩:=yx.mp e;exact vZ (ZjP h e1) e2
theorem Zns(fl:List Fm)(l:List SF):plcF (l.map (bE fl))=plcF l:=by unfold plcF;rw[fA];rfl
end L2
end
section
namespace L2
open PySem PySem.Spec PyProof.Rows
noncomputable def fstV(xs:Array Value):Int:=numOf (xs.getD 0 .none)
noncomputable def sndV(xs:Array Value):Int:=numOf (xs.getD 1 .none)
noncomputable def pOf(h : Heap) : Value->Int×Int
  | .ref a => match h.get? a with
    | some o => match o.data with
      | .seq xs _=>(fstV xs, sndV xs)
      | _=>(0, 0)
    | none=>(0, 0)
  | _=>(0, 0)
def IsP(h:Heap)(v:Value)(p:Int×Int):Prop:=∃ a o n t t',v=.ref a/\h.get? a=some o/\o.cls=.type "tuple"/\o.data=.seq #[.int p.1 t,.int p.2 t'] n
theorem IsP.at{h:Heap}{v:Value}{p:Int×Int}(i:IsP h v p):pOf h v=p:=by
 obtain⟨a,o,n,t,t',rfl,e1,e2,e3⟩:=i;simp only[pOf,e1,e3];rfl
noncomputable def cd(M:Int)(p:Int×Int):Int:=p.1*M+p.2
theorem mr{M:Int}{p q:Int×Int}(hp:(2*p.2.natAbs:Int)<M)(hq:(2*q.2.natAbs:Int)<M):cd M p<cd M q↔p.1<q.1\/(p.1=q.1/\p.2<q.2):=by
 unfold cd;have key:∀ {x y:Int×Int},(2*x.2.natAbs:Int)<M->(2*y.2.natAbs:Int)<M->x.1<y.1->x.1*M+x.2<y.1*M+y.2:=by
  intro x y hx hy h;have h1:(x.1+1)*M<=y.1*M:=Int.mul_le_mul_of_nonneg_right (by lia) (by lia);rw[Int.add_mul,Int.one_mul] at h1;lia
 constructor
 .intro h;rcases Int.lt_trichotomy p.1 q.1 with e|e|e
  .exact .inl e
  .rw[e] at h;exact .inr ⟨e,by lia⟩
  .have:=key hq hp e;lia
 .rintro (h|⟨e,h⟩)
  .exact key hp hq h
  .rw[e];lia
noncomputable abbrev itO(x:Value)(f:Bool)(d:Addr)(i n ep:Nat)(p q:Value):Obj:={ cls:=.type "dict_itemiterator",data:=.fields #[x,.bool f,.ref d,.int i 0,.int n 0,.int ep 0,p,q] }
noncomputable abbrev tuO(p q:Value):Obj:={ cls:=.type "tuple",data:=.seq #[p,q] }
def DEs(h:Heap)(d:Addr)(es:Array DictEntry)(ep:Nat):Prop:=∃ o,h.get? d=some o/\o.data=.dict es ep
def ItS(h:Heap)(it d S:Addr)(i n ep:Nat):Prop:=∃ x f p q,h.get? it=some (itO x f d i n ep p q)/\(x=.none\/∃ a o,x=rawInt (a:Nat)/\h.get? a=some o/\a≠it/\a≠S)
section
variable{P:Program}{w:World}{A:Around}{E:Value->Shared->Prop}{s:Shared}
theorem ww{it d S:Addr}{i ep:Nat}{es:Array DictEntry}{Q:Option Value->Shared->Prop}(hh:A.handled=none)(st:ItS s.heap it d S i es.size ep)(hS:S<s.heap.objs.size)(hd:DEs s.heap d es ep)
  (h1:∀ e h',es[i]?=some e->ItS h' it d S (i+1) es.size ep->h'.get? s.heap.objs.size=some (tuO e.key e.val)->h'.objs.size=s.heap.objs.size+1->(∀ b o,b≠it->s.heap.get? b=some o->h'.get? b=some o)->Q (some (.ref s.heap.objs.size)) { s with heap:=h' })
  (h2:es[i]?=none->∀ h',Heap.ExtBut it s.heap h'->Q none { s with heap:=h' }):wpAny (model P w) A (pyNext (.ref it)) Q E s:=by
 obtain⟨hp,g,dr,tk,os⟩:=s;obtain⟨x,f,p,q,hit,hx⟩:=st;obtain⟨od,e1,e2⟩:=hd;have ty:Shared.TypeIs ⟨hp,g,dr,tk,os⟩ (.ref it) "dict_itemiterator":=⟨_,hit,rfl⟩;have own:Builtin.Dict_items.ownsTuple "dict_itemiterator"=true:=by decide
 have nn:¬ ((Value.ref d == Value.none)=true):=bF;unfold pyNext;refine ab (lD (iu (name:=Str.ofString "__next__") ty F.slot_dict_itemiterator_next (eC F.slot_dict_itemiterator_next ty F.entry_dict_itemiterator_next ?_ (F.args_dict_itemiterator_next_1 _))));refine ab (am (ab (ab (ab (sE ty (am (ab (wpAny_fieldsOf hit rfl ?_))))))));simp only[own,fQ];show wpAny _ _ (if (Value.ref d == Value.none)=true then _ else _) _ _ _;rw[ao nn];refine ab (am (ab (nL e1 e2 ?_)));rw[ao (by simp)];refine ab (am (ab (nM e1 e2 ?_)));rw[ao (by simp)];refine am ?_;have ni:¬ ((i:Int)<0):=by lia
 cases ei:es[i]? with
 | none =>
  simp only[ni,cv,bB,ei];refine ab (ab (sE ty (am ?_)));show wpAny _ _ (setField (.ref it) 2 .none >>= _) _ _ _;refine ab (lv hit rfl (by simp) ?_);show wpAny _ _ (newExc (.type "StopIteration") [] >>= _) _ _ _;simp only[newExc,newTuple];refine ab (ab (eD ?_ (by size_fits)));refine ab (m:=firstArgMember _ _) (wpAny_of_eq (a:=Value.none) (by first|rfl|(simp only[firstArgMember];rfl)) (eD ?_ (by size_fits)));simp only[raiseNew];refine ab (wpAny_handled ?_);rw[show A.in1.handled=none from hh];refine ab (am (wpAny_throw ?_));refine ab (i7 (T:="StopIteration") (b:=true) ⟨_,bQ _ rfl,rfl⟩ isSubtype_stop ?_);exact am (h2 ei _ (((Heap.SameBut.update ..).extBut.push _).push _))
 | some e =>
  simp only[ni,cv,bB,ei];refine ab (ab (sE ty (am (ab (sF ty ?_)))));show wpAny _ _ (setField (.ref it) 3 (rawInt ((i:Int)+1)) >>= _) _ _ _;refine ab (fB hit (by simp) fun ha a1 a2=>?_);replace a2:Heap.SameBut it hp ha:=a2;replace a1:ha.get? it=some (itO x f d (i+1) es.size ep p q):=by
   have z:((i+1:Nat):Int)=(i:Int)+1:=by lia
   unfold itO;rw[z];simpa [rawInt] using a1
  have tya:Shared.TypeIs ⟨ha,g,dr,tk,os⟩ (.ref it) "dict_itemiterator":=⟨_,a1,rfl⟩;refine ab (eL (ab (sF tya (ab (sF tya ?_)))));show wpAny _ _ (Builtin.Dict_items.pairFromOwner (.ref it) 6 e.key e.val) _ _ ⟨ha,g,dr,tk,os⟩;unfold Builtin.Dict_items.pairFromOwner;refine ab (nu ?_);have az:ha.objs.size=hp.objs.size:=a2.1;have il:it<hp.objs.size:=ba hit;have il2:hp.objs.size≠it:=eX il;have kb:∀ b o,b≠it->hp.get? b=some o->(ha.push (tuO e.key e.val)).get? b=some o:=fun b o hb z=>be _ (a2.extBut b o hb z);have tb:(ha.push (tuO e.key e.val)).get? hp.objs.size=some (tuO e.key e.val):=by rw[<-az];exact bQ _ rfl
  have sb:(ha.push (tuO e.key e.val)).objs.size=hp.objs.size+1:=by rw[gL,az]
  have ib:(ha.push (tuO e.key e.val)).get? it=some (itO x f d (i+1) es.size ep p q):=be _ a1;show wpAny _ _ (Builtin.Dict_items.ownedTupleIsFree (.ref it) >>= _) _ _ ⟨ha.push (tuO e.key e.val),g,dr,tk,os⟩;rw[az];generalize ha.push (tuO e.key e.val)=hb at kb tb sb ib;have fin:∀ hc x' f' p' q',hc.get? it=some (itO x' f' d (i+1) es.size ep p' q')->Heap.SameBut it hb hc->(x'=.none\/∃ a o,x'=rawInt (a:Nat)/\hc.get? a=some o/\a≠it/\a≠S)->Q (some (.ref hp.objs.size)) ⟨hc,g,dr,tk,os⟩:=fun hc x' f' p' q' c1 c2 c3 =>
   h1 e hc ei ⟨x',f',p',q',c1,c3⟩ (c2.extBut _ _ il2 tb) (c2.1.trans sb) fun b o hb z=>c2.extBut b o hb (kb b o hb z)
  refine ab ?_;unfold Builtin.Dict_items.ownedTupleIsFree;rcases hx with rfl|⟨a,oa,rfl,ga,n1,n2⟩
  .refine ab (cP ib rfl (x:=.none) rfl (am ?_));simp only[fQ];refine ab (cP ib rfl (x:=p) rfl (ab (cP ib rfl (x:=q) rfl (ab (fB ib (by simp) fun hc c1 c2=>?_)))));replace c1:hc.get? it=some (itO .none f d (i+1) es.size ep e.key q):=c1;replace c2:Heap.SameBut it hb hc:=c2;refine ab (fB c1 (by simp) fun hd d1 d2=>?_);replace d1:hd.get? it=some (itO .none f d (i+1) es.size ep e.key e.val):=d1;replace d2:Heap.SameBut it hc hd:=d2;refine ab (fB d1 (by simp) fun he e1 e2=>?_);replace e1:he.get? it=some (itO (rawInt hp.objs.size) f d (i+1) es.size ep e.key e.val):=e1;replace e2:Heap.SameBut it hd he:=e2;refine ab (fB e1 (by simp) fun hf f1 f2=>?_);replace f1:hf.get? it=some (itO (rawInt hp.objs.size) false d (i+1) es.size ep e.key e.val):=f1;replace f2:Heap.SameBut it he hf:=f2;have sm:Heap.SameBut it hb hf:=⟨by rw[f2.1,e2.1,d2.1,c2.1],fun b z=>by rw[f2.2 b z,e2.2 b z,d2.2 b z,c2.2 b z]⟩;exact ab (wpAny_letGo (am (am ⟨_,rfl,am (fin hf _ _ _ _ f1 sm (.inr ⟨_,_,rfl,sm.extBut _ _ il2 tb,il2,eX hS⟩))⟩)))
  .refine ab (cP ib rfl (x:=rawInt a) rfl ?_);show wpAny _ _ (loadIfAlive ((a:Int).toNat) >>= _) _ _ _;rw[bB];have gb:=kb a oa n1 ga;refine ab (PySem.W.kdx_alive gb ?_);simp only[Option.isNone_some,de,cv];refine ab (cP ib rfl (x:=.bool f) rfl ?_);cases f with
   | true =>
    rw[ao (show ¬ ((Value.bool true != Value.bool true)=true) from bF)];refine am ?_;simp only[de,cv];exact am (am ⟨_,rfl,am (fin hb _ _ _ _ ib (Heap.SameBut.refl _ _) (.inr ⟨a,oa,rfl,gb,n1,n2⟩))⟩)
   | false =>
    rw[ak (show (Value.bool false != Value.bool true)=true from rfl)];refine ab (fB ib (by simp) fun hc c1 c2=>?_);replace c1:hc.get? it=some (itO (rawInt a) true d (i+1) es.size ep p q):=c1;replace c2:Heap.SameBut it hb hc:=c2;refine am ?_;simp only[de,cv];exact am (am ⟨_,rfl,am (fin hc _ _ _ _ c1 c2 (.inr ⟨a,oa,rfl,c2.extBut _ _ n1 gb,n1,n2⟩))⟩)
def Got(es:Array DictEntry)(lw:Addr)(h:Heap)(as:List Addr):Prop:=∀ (j:Nat) (a:Addr),as[j]?=some a->lw<a/\∃ e,es[j]?=some e/\h.get? a=some (tuO e.key e.val)
theorem DEs.keep{h h':Heap}{d:Addr}{es:Array DictEntry}{ep:Nat}(x:DEs h d es ep)(k:∀ o,h.get? d=some o->h'.get? d=some o):DEs h' d es ep:=let ⟨o,e,r⟩:=x;⟨o,k o e,r⟩
theorem Zp3{S I d:Addr}{ep:Nat}{es:Array DictEntry}{R:Result->Shared->Prop}(hh:A.handled=none)(hSI:S<I)(hSd:d≠S)(hId:d≠I)(hn:es.size<=sizeLine)(res:Value){h0:Heap}
  (hR:∀ h' tk acc c as,(∀ b o,b≠S->b≠I->h0.get? b=some o->h'.get? b=some o)->h'.get? S=some { cls:=.type "list",data:=.seq acc c }->as.length=es.size->Got es I h' as->acc.toList=as.map Value.ref->R (.ok (.ret res)) { s with heap:=h',toks:=tk }) :
  ∀ (k:Nat) (h:Heap) (tk c:Nat) (acc:Array Value) (as:List Addr),es.size-as.length=k->as.length<=es.size->ItS h I d S as.length es.size ep->DEs h d es ep->(∀ b o,b≠S->b≠I->h0.get? b=some o->h.get? b=some o) ->
   h.get? S=some { cls:=.type "list",data:=.seq acc c }->acc.toList=as.map Value.ref->Got es I h as->I<h.objs.size->codeAny (model P w) A (.builtin "list.extend.loop" ⟨[.ref S,.ref I,res],[]⟩) R { s with heap:=h,toks:=tk }:=by
 have hne:S≠I:=bP hSI;intro k
 induction k with
 | zero =>
  intro h tk c acc as hk hi st hd kp hS ha hg hI;refine nN F.entry_extend_loop ?_;rw[nO F.plain_extend_loop _];show wpAny _ A.in1 (pyNext (.ref I) >>= _) _ _ _;refine ab (ww (s:={ s with heap:=h,toks:=tk }) (A:=A.in1) hh st (ba hS) hd (fun e _ ei=>?_) fun _ h' he=>?_)
  .have:=(yy.mp ei).1;lia
  .exact am (hR h' tk acc c as (fun b o h1 h2 e=>he b o h2 (kp b o h1 h2 e)) (he S _ hne hS) (by lia) (fun j a hj=>let ⟨q,e,e1,e2⟩:=hg j a hj;⟨q,e,e1,he a _ (eX q) e2⟩) ha)
 | succ k ih =>
  intro h tk c acc as hk hi st hd kp hS ha hg hI;have hsz:acc.size=as.length:=by rw[<-ft,ha,af]
  have hSl:S<h.objs.size:=ba hS;refine nN F.entry_extend_loop ?_;rw[nO F.plain_extend_loop _];show wpAny _ A.in1 (pyNext (.ref I) >>= _) _ _ _;refine ab (ww (s:={ s with heap:=h,toks:=tk }) (A:=A.in1) hh st (ba hS) hd (fun e h' ei st' ht hz hk'=>?_) fun ei=>?_)
  .dsimp only at ht hz hk' ⊢;have hS':=hk' S _ hne hS;have up:∀ b o,b≠S->h'.get? b=some o->(h'.update S (Obj.mapSeq (·.push (Value.ref h.objs.size)))).get? b=some o:=fun b o hb z=>(lc _ _ (Ne.symm hb)).trans z;show wpAny _ A.in1 (updateSeq S (·.push (Value.ref h.objs.size)) >>= _) _ _ _;have hl:(as++[h.objs.size]).length=as.length+1:=by rw[aH];rfl
   refine ab (wpAny_updateSeq hS' rfl (am ⟨nP F.plain_extend_loop _,ih _ tk _ (acc.push (Value.ref h.objs.size)) (as++[h.objs.size]) (by rw[hl];lia) (by rw[hl];lia) ?_ (hd.keep fun o z=>up d o hSd (hk' d o hId z))
    (fun b o n1 n2 z=>up b o n1 (hk' b o n2 (kp b o n1 n2 z))) (jJ _ hS' rfl) (by rw[Array.toList_push,ha,aW];rfl) (fun j a hj=>?_) ?_⟩) (by rw[hsz];lia) (by show (acc.push (Value.ref h.objs.size)).size<=sizeLine+1;rw[Array.size_push,hsz];lia))
   .rw[hl];obtain ⟨x,f,p,q,g1,g2⟩:=st';refine ⟨x,f,p,q,up _ _ (Ne.symm hne) g1,?_⟩;rcases g2 with g2|⟨a,o,g2,g3,g4,g5⟩
    .exact .inl g2
    .exact .inr ⟨a,o,g2,up _ _ g5 g3,g4,g5⟩
   .by_cases hj2:j < as.length
    .rw[cm hj2] at hj;obtain⟨q,e,e1,e2⟩:=hg j a hj;exact⟨q,e,e1,up a _ (eX (dM hSI q)) (hk' a _ (eX q) e2)⟩
    .have hj3:=(aX.mp hj).1;have ej:j=as.length:=by lia
     subst ej;rw[cq] at hj;cases hj;exact⟨hI,e,ei,up _ _ (eX hSl) ht⟩
   .have z:(h'.update S (Obj.mapSeq (·.push (Value.ref h.objs.size)))).get? h.objs.size=_:=up _ _ (eX hSl) ht;exact dM hI (ba z)
  .have:=yz.mp ei;lia
theorem Zj3{r d:Addr}{ep:Nat}{es:Array DictEntry}{R:List Value->Shared->Prop}(hh:A.handled=none)(hv:s.heap.IsItemsView r d)(hd:DEs s.heap d es ep)(hn:es.size<=sizeLine)
  (h:∀ (h':Heap) (tk:Nat) (as:List Addr),(∀ b o,s.heap.get? b=some o->h'.get? b=some o)->as.length=es.size->Got es s.heap.objs.size h' as->R (as.map Value.ref) { s with heap:=h',toks:=tk }):wpAny (model P w) A (collect (.ref r)) R E s:=by
 have hr:r<s.heap.objs.size:=let ⟨_,e,_⟩:=hv;ba e;have hdl:d<s.heap.objs.size:=let ⟨_,e,_⟩:=hd;ba e;unfold collect;refine ab (wpAny_runValue (nN entry_proto_collect' ?_));rw[nO F.plain_proto_collect _];show wpAny _ A.in1 (newList [] >>= fun l=>again (.builtin "list.__iadd__" ⟨[l,.ref r],[]⟩)) _ _ s;refine ab (eD ?_);refine am ⟨nP F.plain_list_iadd _,nN entry_list_iadd' ?_⟩;rw[nO F.plain_list_iadd _];generalize hh1:s.heap.push { cls:=.type "list",data:=.seq ([]:List Value).toArray }=h1;have k1:∀ b o,s.heap.get? b=some o->h1.get? b=some o:=fun b o e=>by rw[<-hh1];exact be _ e
 have hS:h1.get? s.heap.objs.size=some { cls:=.type "list",data:=.seq #[] }:=by rw[<-hh1];exact bQ _ rfl
 have hz:h1.objs.size=s.heap.objs.size+1:=by rw[<-hh1,gL]
 have hv1:h1.IsItemsView r d:=let ⟨o,e,q⟩:=hv;⟨o,k1 _ _ e,q⟩;obtain⟨od,o1,o2⟩:=hd.keep (k1 d);show wpAny _ A.in1 (Builtin.List.listExtendWith (.ref s.heap.objs.size) (.ref r) (.ref s.heap.objs.size)) _ _ { s with heap:=h1 };generalize hSS:s.heap.objs.size=S at hS hz hr hdl h;have hS1:S<h1.objs.size:=ba hS;have bS:∀ b o,s.heap.get? b=some o->b<S:=fun b o e=>hSS▸ba e;have fin:∀ (h2:Heap) (c tk:Nat),(∀ b o,b≠S->(h1.push (itO .none false d 0 es.size ep .none .none)).get? b=some o->h2.get? b=some o)->h2.get? S=some { cls:=.type "list",data:=.seq #[] c } ->
   codeAny (model P w) A (.builtin "list.extend.loop" ⟨[.ref S,.ref h1.objs.size,.ref S],[]⟩) (fun q s'=>∃ (h':Heap) (tk':Nat) (acc:Array Value) (c':Nat) (as:List Addr),q=.ok (.ret (.ref S))/\s'={ s with heap:=h',toks:=tk' }/\(∀ b o,s.heap.get? b=some o->h'.get? b=some o)/\h'.get? S=some { cls:=.type "list",data:=.seq acc c' }/\as.length=es.size/\Got es S h' as/\acc.toList=as.map Value.ref) { s with heap:=h2,toks:=tk }:=by
  intro h2 c tk kk hS2;have hI:=kk h1.objs.size _ (eX hS1) (bQ _ rfl);refine Zp3 (s:=s) (h0:=h1) hh hS1 (bP hdl) (bP (dM hdl hS1)) hn (.ref S) (fun h' tk' acc c' as q1 q2 q3 q4 q5=>⟨h',tk',acc,c',as,rfl,rfl,fun b o e=>q1 b o (bP (bS b o e)) (bP (dM (bS b o e) hS1)) (k1 b o e),q2,q3,fun j a hj=>⟨dM hS1 (q4 j a hj).1,(q4 j a hj).2⟩,q5⟩)
   es.size h2 tk c #[] [] (nK _) (cb _) ⟨.none,false,.none,.none,hI,.inl rfl⟩ ⟨od,kk d od (bP hdl) (be _ o1),o2⟩ (fun b o n1 _ e=>kk b o n1 (be _ e)) hS2 rfl (fun j a hj=>by cases hj) (ba hI)
 unfold Builtin.List.listExtendWith;refine ab (lb (T:="dict_items") (s:={ s with heap:=h1 }) hv1.typeIs ?_);have x1:Builtin.List.listSameRef (.ref S) (.ref r)=false:=by simp[Builtin.List.listSameRef,eX hr]
 have x2:(Value.type "dict_items" == Value.type "list")=false:=by decide
 have x3:(Value.type "dict_items" == Value.type "tuple")=false:=by decide
 simp only[x1,x2,x3,Bool.or_false,de,cv];refine ab ?_;obtain⟨ov,v1,v2,v3⟩:=hv1;refine wpAny_pyIter_slot (s:={ s with heap:=h1 }) (T:="dict_items") ⟨ov,v1,v2⟩ F.slot_dict_items_iter (eC F.slot_dict_items_iter ⟨ov,v1,v2⟩ F.entry_dict_items_iter ?_ (F.args_dict_items_iter_1 _));unfold Builtin.«dict_items.__iter__»;refine ab (am (ab ?_));unfold Builtin.Dict_items.dictOf;refine ab (cP v1 v3 (x:=.ref d) rfl (am (ab ?_)));unfold Builtin.Dict_items.newIterator;refine ab (nL o1 o2 (ab (nM o1 o2 ?_)));have own:Builtin.Dict_items.ownsTuple "dict_itemiterator"=true:=by decide
 simp only[own,fQ];refine eD (am ⟨_,rfl,"dict_itemiterator",_,⟨_,bQ _ rfl,rfl⟩,F.slot_dict_itemiterator_next.lookup,?_⟩) (by simp only[sizeOk,Builtin.Dict_items.ownedTupleFields,bL,aH,cz,iA,sizeLine_eq];lia);show wpAny _ _ _ _ _ { s with heap:=h1.push (itO .none false d 0 es.size ep .none .none) };have gS:=be (itO .none false d 0 es.size ep .none .none) hS;have ld:∀ (h':Heap) (tk':Nat) (acc:Array Value) (c':Nat) (as:List Addr),(∀ b o,s.heap.get? b=some o->h'.get? b=some o)->h'.get? S=some { cls:=.type "list",data:=.seq acc c' }->as.length=es.size->Got es S h' as->acc.toList=as.map Value.ref->R acc.toList { s with heap:=h',toks:=tk' }:=fun h' tk' acc c' as e3 e4 e5 e6 e7=>by
  rw[e7];exact h h' tk' as e3 e5 e6
 refine ab (eL (PySem.W.kdx_hint (s:={ s with heap:=h1.push (itO .none false d 0 es.size ep .none .none) }) ⟨ov,be _ v1,v2⟩ ?_));refine wpAny_ite_split (fun _=>?_) (fun _=>am ⟨nP F.plain_extend_loop _,k8 (fin _ 0 _ (fun b o _ e=>e) gS) ?_⟩)
 .refine ab (gN (ab ?_));show wpAny _ _ (updateSeq S (·.push .none) >>= fun _=>updateSeq S (·.pop)) _ _ _;refine ab (wpAny_updateSeq gS rfl ?_);have g2:=jJ (Obj.mapSeq (·.push Value.none)) gS rfl;refine wpAny_updateSeq (hz:=by seq_fits) g2 rfl ?_;have g3:=jJ (Obj.mapSeq (·.pop)) g2 rfl;refine am ⟨nP F.plain_extend_loop _,k8 (fin _ _ _ (fun b o hb e=>(lc _ _ (Ne.symm hb)).trans ((lc _ _ (Ne.symm hb)).trans e)) g3) ?_⟩;rintro q s' ⟨h',tk',acc,c',as,rfl,rfl,e3,e4,e5,e6,e7⟩;exact ab (wpAny_load e4 (am (ld h' tk' acc c' as e3 e4 e5 e6 e7)))
 .rintro q s' ⟨h',tk',acc,c',as,rfl,rfl,e3,e4,e5,e6,e7⟩;exact ab (wpAny_load e4 (am (ld h' tk' acc c' as e3 e4 e5 e6 e7)))
end
end L2
end
section
namespace L2
open PySem PySem.Spec PyProof.Rows PySem.Builtin PySem.Builtin.Str
section
variable{X:Cx}
def rAddS:R2:=fun x y H Q=>∃ i j,x=.str i/\y=.str j/\i.length+j.length<=sizeLine/\Q (.str (i++j)) H
theorem ZpI:OpR X (binaryOp .Add) rAddS:=ZjZ
end
end L2
end
section
namespace L2
open PySem PySem.Spec PyProof.Rows PySem.Builtin PySem.Builtin.Str PySem.NumText
noncomputable abbrev cs(z:Str):List Nat:=z.cps.toList
theorem cs_inj{x y:Str}(h:cs x=cs y):x=y:=by
 obtain⟨a⟩:=x;obtain⟨b⟩:=y;have:a=b:=Array.toList_inj.mp h;rw[this]
theorem dI(x y:Str):cs (x++y)=cs x++cs y:=cps_toList_append x y
theorem gV(x:Str):(cs x).length=x.length:=ft
theorem mU(x y:Str):(x++y).length=x.length+y.length:=by
 rw[<-gV,<- gV,<- gV,dI,aH]
theorem wn(s : Str) : ∀ {a b : List Str}, a≠[]->b≠[]->Str.join s (a++b)=Str.join s a++s++Str.join s b
  | [], _, h, _=>absurd rfl h
  | [x], [], _, h=>absurd rfl h
  | [x], y::b, _, _=>rfl
  | x :: y :: a, b, _, hb => by
    show x++s++Str.join s (y::a++b)=x++s++Str.join s (y::a)++s++Str.join s b;rw[wn s (cons_ne_nil y a) hb];apply cs_inj;simp only[dI, cp]
noncomputable def numS(n:Int):Str:=toString n
noncomputable def figs(m:Nat):List Nat:=(Nat.toDigits 10 m).map Char.toNat
theorem cs_num(m:Nat):cs (numS (m:Int))=figs m:=PySem.W.KIN.signs_num m
theorem cs_neg(m:Nat):cs (numS (-((m+1:Nat):Int)))=45::figs (m+1):=by
 show (Str.ofString (toString (Int.negSucc m))).cps.toList=_;rw[signs_ofString];show (("-"++Nat.repr (m+1):String)).toList.map Char.toNat=_;rw[String.toList_append,aW,Nat.toList_repr];rfl
theorem mX(m:Nat):AllDigits (figs m):=by
 intro c hc;obtain⟨ch,hch,e⟩:=aT.mp hc;rw[<-e];exact digit_range (Nat.isDigit_of_mem_toDigits (by decide) (by decide) hch)
theorem Zp9(m:Nat):figs m≠[]:=by
 intro e;have h:=toDigits_len_ge 10 m;rw[map_eq_nil_iff.mp e] at h;exact absurd h (by decide)
theorem ZnN{m:Nat}(h:10<=m):figs m=figs (m / 10)++figs (m % 10):=by
 have t:Nat.toDigits 10 (m / 10)++Nat.toDigits 10 (m % 10)=Nat.toDigits 10 (10*(m / 10)+m % 10):=Nat.toDigits_append_toDigits (by decide) (by lia) (i8 m (by decide));rw[Nat.div_add_mod] at t;unfold figs;rw[<-t,aW]
theorem uj:∀ m:Nat,m<10->figs m=[48+m]:=by decide
theorem vM:∀ (k m:Nat),0<k->m<10^k->(figs m).length<=k:=by
 intro k
 induction k with
 | zero=>intro m h;exact absurd h (gq _)
 | succ k ih =>
  intro m _ hm;by_cases h:m<10
  .rw[uj m h];exact Nat.le_add_left _ _
  .rw[ZnN (by lia),aH,uj _ (i8 m (by decide))];cases k with
   | zero=>lia
   | succ k =>
    have:=ih (m / 10) (Nat.succ_pos _) (by rw[Nat.div_lt_iff_lt_mul (by decide)];rw[Nat.pow_succ] at hm;exact hm);show _+1<=_;lia
theorem mV(m:Nat):digitsVal (figs m)=m:=PySem.W.KIN.val_back m
theorem kI(n:Int):(∃ m:Nat,n=m/\cs (numS n)=figs m)\/∃ m:Nat,0<m/\n=-(m:Int)/\cs (numS n)=45::figs m:=by
 rcases Int.lt_or_le n 0 with h|h
 .right;refine ⟨n.natAbs,by lia,by lia,?_⟩;have e:n=-(((n.natAbs - 1)+1:Nat):Int):=by lia
  have e2:n.natAbs=n.natAbs-1+1:=by lia
  rw[show cs (numS n)=cs (numS (-(((n.natAbs-1)+1:Nat):Int))) by rw[<-e],cs_neg,<- e2]
 .left;obtain⟨m,rfl⟩:=rW h;exact⟨m,rfl,cs_num m⟩
theorem jT(n:Int):∀ c∈cs (numS n),c=45\/(48<=c/\c<=57):=by
 intro c hc;rcases kI n with ⟨m,_,e⟩|⟨m,_,_,e⟩
 .rw[e] at hc;exact .inr (mX m c hc)
 .rw[e] at hc;rcases aJ.mp hc with z|z
  .exact .inl z
  .exact .inr (mX m c z)
end L2
end
section
namespace L2
open PySem PySem.Spec PyProof.Rows
mutual
noncomputable def shT:T->Str
 | .int i=>toString i
 | .tup ts=>tupleText (shTs ts)
 | .lst ts=>listText (shTs ts)
 | _=>"None"
noncomputable def shTs:List T->List Str
 | []=>[]
 | t::ts=>shT t::shTs ts
end
mutual
noncomputable def lnT:T->Nat
 | .tup ts=>lnTs ts+4
 | .lst ts=>lnTs ts+4
 | _=>100
noncomputable def lnTs:List T->Nat
 | []=>0
 | t::ts=>lnT t+2+lnTs ts
end
noncomputable def PlT:Nat->T->Prop
 | 0,t=>∃ i,t=.int i/\i.natAbs<10^90
 | n+1,t=>(∃ i,t=.int i/\i.natAbs<10^90)\/∃ ts,(t=.tup ts\/t=.lst ts)/\∀ u∈ts,PlT n u
theorem jk{B : Nat} : ∀ {ts : List T}, (∀ t∈ts, lnT t<=B)->lnTs ts<=ts.length*(B+2)
  | [], _=>cb _
  | t :: ts, h => by
    have h1:=h t aO;have h2:=jk (ts:=ts) fun u hu=>h u (bw _ hu);rw[lnTs,cz,Nat.succ_mul];lia
theorem wj : ∀ (ts : List Str) (k : Nat) (acc : Str), cs (textFrom (k+1) acc ts)=cs acc++(ts.map fun t=>44::32::cs t).flatten
  | [], _, acc=>by rw[textFrom]; simp
  | t :: ts, k, acc => by
    rw[textFrom,wj ts (k+1),ak (Nat.succ_pos k),dI,dI,aL,iz];show cs acc++[44,32]++cs t++_=_;simp
theorem ur(ts:List Str):cs (listText ts)=91::(match ts with|[]=>[]|t::r=>cs t++(r.map fun t=>44::32::cs t).flatten)++[93]:=by
 unfold listText;rw[dI];cases ts with
 | nil=>rfl
 | cons t r =>
  rw[textFrom,wj,ao (gq 0),dI,dI];show [91]++[]++cs t++_++[93]=_;simp
theorem ui : ∀ (ts : List Str), (Str.join ", " ts).length<=(ts.map fun t=>t.length+2).sum
  | []=>cb _
  | [t]=>by rw[aL, bR]; show t.length<=_; lia
  | t :: u :: r => by
    have h:=ui (u::r);have e:Str.join ", " (t::u::r)=t++", "++Str.join ", " (u::r):=wn _ (a:=[t]) (cons_ne_nil _ _) (cons_ne_nil _ _);rw[e,mU,mU,aL,bR];have:(", ":Str).length=2:=rfl;lia
theorem pc(ts:List Str):(listText ts).length<=(ts.map fun t=>t.length+2).sum+4:=by
 rw[<-gV,ur];cases ts with
 | nil=>simp
 | cons t r =>
  have:∀ r:List Str,((r.map fun t=>44::32::cs t).flatten).length=(r.map fun t=>t.length+2).sum:=fun r=>by
   induction r with
   | nil=>rfl
   | cons a r ih=>rw[aL,iz,aH,ih,aL,bR,cz,cz,gV]
  rw[aH,cz,aH,this,gV,aL,bR];simp;lia
theorem mO(ts:List Str):(tupleText ts).length<=(ts.map fun t=>t.length+2).sum+4:=by
 unfold tupleText;have:=ui ts;rw[mU,mU];have h1:("(":Str).length=1:=rfl;have h2:((if ts.length == 1 then ",)" else ")":String):Str).length<=2:=by split <;> decide
 lia
theorem kB{i:Int}(h:i.natAbs<10^90):(toString i:Str).length<=100:=by
 rcases kI i with ⟨m,rfl,e⟩|⟨m,hm,rfl,e⟩
 .rw[<-gV];show (cs (numS _)).length<=_;rw[e];have:=vM 90 m (by decide) (by simpa using h);lia
 .rw[<-gV];show (cs (numS _)).length<=_;rw[e,cz];have:=vM 90 m (by decide) (by simpa using h);lia
theorem mw{i:Int}(h:i.natAbs<10^90):i.natAbs.log2<1920:=by
 by_cases h0:i.natAbs=0
 .rw[h0];decide
 .exact (Nat.log2_lt h0).mpr (dM h (by decide +kernel))
section
variable{P:Program}{w:World}{K:W.Frag}{G:GH}{H:Hp}{h:Heap}
theorem Zm8(ok:HOk P w H h):∀ (n:Nat) {t:T} {v:V} {u:Value},PlT n t->RepT K G H t v->RelV v u->∃ d as,Reads h u d as/\d.showable=true/\d.hasDict=false/\d.depth<=n/\d.shown=shT t/\d.shown.length<=lnT t:=by
 intro n;have num:∀ {t:T} {v:V} {u:Value} {i:Int},t=.int i->i.natAbs<10^90->RepT K G H t v->RelV v u->∃ d as,Reads h u d as/\d.showable=true/\d.hasDict=false/\d.depth<=0/\d.shown=shT t/\d.shown.length<=lnT t:=by
  rintro t v u i rfl hi r ru;cases r;obtain⟨k,rfl⟩:=ru;exact⟨.int i,[],.int i k,by simpa [PyData.showable] using mw hi,by simp[PyData.hasDict],by simp[PyData.depth],by rw[PyData.shown,shT],by rw[PyData.shown];simp only[lnT];exact kB hi⟩
 induction n with
 | zero =>
  rintro t v u ⟨i,e,hi⟩ r ru;exact num e hi r ru
 | succ n ih =>
  intro t v u pl r ru;rcases pl with ⟨i,e,hi⟩|⟨ts,e,hp⟩
  .obtain ⟨d,as,h1,h2,h3,h4,h5⟩:=num e hi r ru;exact⟨d,as,h1,h2,h3,by lia,h5⟩
  .have all:∀ (ts:List T) (vs:List V) (us:List Value),(∀ t∈ts,PlT n t)->RepTs K G H ts vs->Vals vs us->∃ ds as,ReadsAll h us ds as/\PyData.showableAll ds=true/\PyData.hasDictAll ds=false/\PyData.depthAll ds<=n/\PyData.shownAll ds=shTs ts/\((shTs ts).map fun t=>t.length+2).sum<=lnTs ts:=by
    intro ts
    induction ts with
    | nil =>
     intro vs us _ r rv;cases r;cases rv;exact⟨[],[],.nil,by simp[PyData.showableAll],by simp[PyData.hasDictAll],by simp[PyData.depthAll],by rw[PyData.shownAll,shTs],by rw[shTs,lnTs];exact aE _⟩
    | cons t ts ih2 =>
     intro vs us hp r rv;cases r with
     | cons r1 r2 =>
      cases rv with
      | cons v1 v2 =>
       obtain⟨d,as,a1,a2,a3,a4,a5,a6⟩:=ih (hp t aO) r1 v1;obtain⟨ds,bs,b1,b2,b3,b4,b5,b6⟩:=ih2 _ _ (fun u hu=>hp u (bw _ hu)) r2 v2;refine⟨d::ds,as++bs,.cons a1 b1,by simp[PyData.showableAll,a2,b2],by simp[PyData.hasDictAll,a3,b3],by simp only[PyData.depthAll];lia,by rw[PyData.shownAll,shTs,a5,b5],?_⟩;rw[a5] at a6;rw[shTs,lnTs,aL,bR];lia
   rcases e with rfl|rfl
   .cases r with
    | @tup a xs _ ha rs =>
     obtain⟨_,its,vs,o,e1,e2,m,e3⟩:=(show ObjOk P w H h a (.tup xs) from ok a _ ha);cases ru;obtain⟨ds,as,b1,b2,b3,b4,b5,b6⟩:=all ts xs its hp rs vs;refine⟨.tuple ds,_,.tuple e1 e2 e3 b1,by simpa [PyData.showable] using b2,by simpa [PyData.hasDict] using b3,by simp only[PyData.depth];lia,by rw[PyData.shown,shT,b5],?_⟩;rw[PyData.shown,lnT,b5];exact bh (mO _) (by lia)
   .cases r with
    | @lst a xs _ ga ha rs =>
     obtain⟨_,its,m,vs,e1⟩:=(show ObjOk P w H h a (.lst xs) from ok a _ ha);cases ru;obtain⟨ds,as,b1,b2,b3,b4,b5,b6⟩:=all ts xs its hp rs vs;refine⟨.list ds,_,.list e1 rfl rfl b1,by simpa [PyData.showable] using b2,by simpa [PyData.hasDict] using b3,by simp only[PyData.depth];lia,by rw[PyData.shown,shT,b5],?_⟩;rw[PyData.shown,lnT,b5];exact bh (pc _) (by lia)
noncomputable def rStrT(K:W.Frag):List V->Hp->VK->Prop:=fun xs H Q=>∃ G t n a,xs=[.ref a]/\RepT K G H t (.ref a)/\PlT n t/\n<=40/\lnT t<=1000000/\Q (.str (shT t)) H
theorem t7{X:Cx}{K:W.Frag}(hg:X.A.guards=some [])(hu:X.A.units+64<cLine):ca X (.type "str") (rStrT K):=by
 intro pins s Z H xs us Q I r h;obtain⟨G,t,n,a,rfl,rt,pl,hn,hl,q⟩:=h;obtain⟨u,rfl,ru⟩:=vals1 r;cases ru;obtain⟨d,as,h1,h2,h3,h4,h5,h6⟩:=Zm8 I.hok n pl rt (show RelV (.ref a) (.ref a) from rfl);refine str_of_reads h1 h2 (PyData.noDict_hsm h3) hg (by lia) (fun _ _ e=>e) (fun h' u tk hk=>?_) (by rw[PySem.sizeLine_eq];lia);exact⟨.str (shT t),H,I.kept (t':=tk) hk,⟨u,by rw[h5]⟩,q⟩
end
end L2
end
section
namespace L2
open PySem PySem.Spec PyProof.Rows PySem.Calls
noncomputable abbrev I3:=(Int×Int)×Int
def IsI(h:Heap)(v:Value)(p:I3):Prop:=∃ a b o ob n m t t1 t2,v=.ref a/\h.get? a=some o/\o.cls=.type "tuple"/\o.data=.seq #[.ref b,.int p.2 t] n/\h.get? b=some ob/\ob.cls=.type "tuple"/\ob.data=.seq #[.int p.1.1 t1,.int p.1.2 t2] m
theorem IsI.keep{h h':Heap}{v:Value}{p:I3}(i:IsI h v p)(k:∀ b o,h.get? b=some o->o.cls=.type "tuple"->h'.get? b=some o):IsI h' v p:=by
 obtain⟨a,b,o,ob,n,m,t,t1,t2,rfl,e1,e2,e3,e4,e5,e6⟩:=i;exact⟨a,b,o,ob,n,m,t,t1,t2,rfl,k _ _ e1 e2,e2,e3,k _ _ e4 e5,e5,e6⟩
noncomputable def iOf(h : Heap) : Value->I3
  | .ref a => match h.get? a with
    | some o => match o.data with
      | .seq xs _=>(pOf h (xs.getD 0 .none), sndV xs)
      | _=>((0, 0), 0)
    | none=>((0, 0), 0)
  | _=>((0, 0), 0)
theorem IsI.at{h:Heap}{v:Value}{p:I3}(i:IsI h v p):iOf h v=p:=by
 obtain⟨a,b,o,ob,n,m,t,t1,t2,rfl,e1,e2,e3,e4,e5,e6⟩:=i;have:pOf h (.ref b)=p.1:=IsP.at ⟨b,ob,m,t1,t2,rfl,e4,e5,e6⟩;simp only[iOf,e1,e3];show (pOf h (.ref b),p.2)=p;rw[this]
noncomputable def cdI(p:I3):Int:=cd (2*10^9+1) (cd 2001 p.1,p.2)
def BdI(p:I3):Prop:=(2*p.1.2.natAbs:Int)<2001/\(2*p.2.natAbs:Int)<2*10^9+1
theorem tP{p q:I3}(hp:BdI p)(hq:BdI q):cdI p<cdI q↔(p.1.1<q.1.1\/(p.1.1=q.1.1/\p.1.2<q.1.2))\/(p.1=q.1/\p.2<q.2):=by
 unfold cdI;rw[mr (p:=(cd 2001 p.1,p.2)) (q:=(cd 2001 q.1,q.2)) hp.2 hq.2,mr hp.1 hq.1];have key:cd 2001 p.1=cd 2001 q.1↔p.1=q.1:=by
  constructor
  .intro e;have h1:=mr hp.1 hq.1;have h2:=mr hq.1 hp.1;refine Prod.ext ?_ ?_ <;> lia
  .intro e;rw[e]
 rw[key]
noncomputable abbrev kT(h:Heap):L3.KOrd:=⟨tuples' false,fun x=>∃ p,IsI h x.1 p/\BdI p,fun x=>cdI (iOf h x.1)⟩
section
variable{P:Program}{W:World}{A:Around}{E:Value->Shared->Prop}{z:Shared}
theorem isKey{h:Heap}{b:Addr}{ob:Obj}{m:Nat}{i j:Int}{t1 t2:Tok}(e4:h.get? b=some ob)(e5:ob.cls=.type "tuple")(e6:ob.data=.seq #[.int i t1,.int j t2] m):IsTupleKey (cx P W) h [.inl i,.inl j] b :=
 ⟨ob,_,m,e4,e5,e6,.cons (by simp[cx,gZ,Value.isInt]) (.cons (by simp[cx,gZ,Value.isInt]) .nil)⟩
theorem ZpM{Q:Value->Shared->Prop}{a b:Addr}{oa ob:Obj}{n m:Nat}{i j i' j':Int}{t1 t2 t3 t4:Tok}(hu:A.units+1<cLine)(e1:z.heap.get? a=some oa)(e2:oa.cls=.type "tuple")(e3:oa.data=.seq #[.int i t1,.int j t2] n)(e4:z.heap.get? b=some ob)(e5:ob.cls=.type "tuple")(e6:ob.data=.seq #[.int i' t3,.int j' t4] m)
  (h:Q (.bool (if i=i' then decide (j<j') else decide (i<i'))) z):wpAny (model P W) A (compareOp .Lt (.ref a) (.ref b)) Q E z:=by
 have ta:z.TypeIs (.ref a) "tuple":=⟨oa,e1,e2⟩;have tb:z.TypeIs (.ref b) "tuple":=⟨ob,e4,e5⟩;show wpAny _ _ (richCompare .Lt (.ref a) (.ref b)) _ _ _;refine wpAny_richCompare_same_room (T:="tuple") ta tb F.slot_tuple_lt (eC F.slot_tuple_lt ta F.entry_tuple_lt ?_ (F.args_tuple_lt_2 _ _)) (by lia);show wpAny _ _ (isInstance (.ref b) (.type "tuple") >>= _) _ _ _;refine ab (i7 tb nG ?_);simp only[gO,de,cv];refine ab (lz e1 e3 (ab (lz e4 e6 ?_)));show wpAny _ _ ((forIn [(Value.int i t1,Value.int i' t3),(Value.int j t2,Value.int j' t4)] _ _) >>= _) _ _ _;rw[jK];refine ab (ab (ab (m8 ?_)));by_cases e:i=i'
 .rw[ak e] at h;rw[show (i == i')=true by simp[e]];simp only[gO,de,cv];refine am ?_;dsimp only;rw[jK];refine ab (ab (m8 ?_));by_cases e':j=j'
  .rw[show (j == j')=true by simp[e']];simp only[gO,de,cv];refine am (am (am ⟨_,rfl,by simp[Builtin.Tuple.tupleCompareSizes],?_⟩));rw[bo (by lia)] at h;simpa [Builtin.Tuple.tupleCompareSizes] using h
  .rw[show (j == j')=false by simp[e']];simp only[sr,fQ];refine ab (gN (ab ?_));show wpAny _ _ (compareOp .Lt (.int j t2) (.int j' t4)) _ _ _;exact lt_int (ab (am (am (am (am ⟨_,rfl,by simp,h⟩)))))
 .rw[ao e] at h;rw[show (i == i')=false by simp[e]];simp only[sr,fQ];refine ab (gN (ab ?_));show wpAny _ _ (compareOp .Lt (.int i t1) (.int i' t3)) _ _ _;exact lt_int (ab (am (am (am (am ⟨_,rfl,by simp,h⟩)))))
theorem ltI3{h:Heap}(hu:A.units+4<cLine)(keep:∀ b o,h.get? b=some o->o.cls=.type "tuple"->z.heap.get? b=some o):@L3.KLt (kT h) P W A E z:=by
 refine @L3.KLt.mk (kT h) P W A E z ?_;intro u x y Q hk hx hy hq;obtain⟨p,ip,bp⟩:=hx;obtain⟨q,iq,bq⟩:=hy;have e1:=ip.at
 have e2:=iq.at
 obtain⟨a,b,o,ob,n,m,t,t1,t2,ex,g1,g2,g3,g4,g5,g6⟩:=ip.keep keep;obtain⟨a',b',o',ob',n',m',t',t1',t2',ey,k1,k2,k3,k4,k5,k6⟩:=iq.keep keep;have hv:(some (decide (@L3.kvl (kT h) x<@L3.kvl (kT h) y)):Option Bool)=some (if p.1=q.1 then decide (p.2<q.2) else if p.1.1=q.1.1 then decide (p.1.2<q.1.2) else decide (p.1.1<q.1.1)):=by
  show some (decide (cdI (iOf h x.1)<cdI (iOf h y.1)))=_;rw[e1,e2]
  congr 1
  have key:=tP bp bq;by_cases e:p.1=q.1
  .rw[ak e];refine sG.mpr (key.trans ?_);rw[e];constructor
   .rintro (h|h)
    .lia
    .exact h.2
   .exact fun h=>.inr ⟨rfl,h⟩
  .rw[ao e];have key:cdI p < cdI q↔(p.1.1 < q.1.1\/(p.1.1=q.1.1/\p.1.2 < q.1.2)):=key.trans ⟨fun h=>h.resolve_right fun z=>e z.1,.inl⟩;by_cases e':p.1.1=q.1.1
   .rw[ak e'];exact sG.mpr (key.trans (by lia))
   .rw[ao e'];exact sG.mpr (key.trans (by lia))
 rw[hv] at hq;rw[lt'_eq];refine eO (wpS_get ?_);rw[hk,ex,ey];refine eO (wpS_lift (lD (PySem.W.kat_lt g1 g3 k1 k3 ?_)));have fin:∀ c,c=(if p.1=q.1 then decide (p.2<q.2) else if p.1.1=q.1.1 then decide (p.1.2<q.1.2) else decide (p.1.1<q.1.1))->wpS (model P W) A E z (pure (some c):StateT SortSt Sem (Option Bool)) Q u:=fun c e=>by
  subst e;exact gM hq
 refine PySem.W.kat_cons (wpAny_eqBool_tuple (knd:=cx P W) (by first|lia|(show A.units+1<cLine;lia)) (isKey g4 g5 g6) (isKey k4 k5 k6) (PySem.W.kat_go (fun e=>?_) (fun e=>?_)))
 .have e:p.1=q.1:=by
   have:=lA e;injection this with h1 h2
   injection h1 with h1
   injection h2 with h2
   injection h2 with h2
   exact Prod.ext h1 h2
  refine PySem.W.kat_yes (PySem.W.kat_cons (m8 (PySem.W.kat_go (fun e'=>?_) (fun e'=>?_))))
  .have e':p.2=q.2:=by simpa using e'
   refine PySem.W.kat_yes (PySem.W.kat_nil ⟨rfl,fin _ ?_⟩);rw[ak e,bo (by simp),bo (by lia)]
  .refine PySem.W.kat_no (PySem.W.kat_one _ _ (lt_int ⟨rfl,fin _ ?_⟩));rw[ak e]
 .have e:¬ p.1=q.1:=fun z=>by
   rw[z,aY rfl] at e;cases e
  refine PySem.W.kat_no (PySem.W.kat_one _ _ (ZpM (by first|lia|(show A.units+1+1<cLine;lia)) g4 g5 g6 k4 k5 k6 ⟨rfl,fin _ ?_⟩));rw[ao e]
end
noncomputable abbrev itT(p:I3):T:=.tup [.tup [.int p.1.1,.int p.1.2],.int p.2]
noncomputable abbrev kvI(p:I3):List Key×V:=([.inl p.1.1,.inl p.1.2],.int p.2)
noncomputable def itD(p:I3):PyData:=.tuple [.tuple [.int p.1.1,.int p.1.2],.int p.2]
theorem Zl3{h:Heap}{v:Value}{p:I3}(i:IsI h v p)(b:BdI p)(c:p.1.1.natAbs<1000):∃ as,Reads h v (itD p) as/\(itD p).showable=true/\(itD p).hasDict=false/\(itD p).depth<=2/\(itD p).shown.length<=500:=by
 obtain⟨a,b',o,ob,n,m,t,t1,t2,rfl,e1,e2,e3,e4,e5,e6⟩:=i;have n1:p.1.1.natAbs<10^90:=dM c (by decide);have n2:p.1.2.natAbs<10^90:=dM (show p.1.2.natAbs<2001 by have:=b.1;lia) (by decide);have n3:p.2.natAbs<10^90:=dM (show p.2.natAbs<2*10^9+1 by have:=b.2;lia) (by decide);unfold itD;refine⟨_,.tuple e1 e2 e3 (.cons (.tuple e4 e5 e6 (.cons (.int _ _) (.cons (.int _ _) .nil))) (.cons (.int _ _) .nil)),?_,?_,?_,?_⟩
 .simp[PyData.showable,PyData.showableAll,mw n1,mw n2,mw n3]
 .simp[PyData.hasDict,PyData.hasDictAll]
 .simp[PyData.depth,PyData.depthAll]
 .simp only[PyData.shown,PyData.shownAll];have h1:=kB n1;have h2:=kB n2;have h3:=kB n3;have k1:=mO [toString p.1.1,toString p.1.2];have k2:=mO [tupleText [toString p.1.1,toString p.1.2],toString p.2];simp only[aL,gw,bR,sum_nil] at k1 k2;lia
theorem wt{h : Heap} : ∀ (vs : List Value), (∀ v∈vs, ∃ p, IsI h v p/\BdI p/\p.1.1.natAbs<1000)->∃ as, ReadsAll h vs (vs.map fun v=>itD (iOf h v)) as/\PyData.showableAll (vs.map fun v=>itD (iOf h v))=true/\PyData.hasDictAll (vs.map fun v=>itD (iOf h v))=false/\PyData.depthAll (vs.map fun v=>itD (iOf h v))<=2/\((PyData.shownAll (vs.map fun v=>itD (iOf h v))).map fun t=>t.length+2).sum<=502*vs.length
  | [], _=>⟨[], .nil, by simp[PyData.showableAll], by simp[PyData.hasDictAll], by simp[PyData.depthAll], by simp[PyData.shownAll]⟩
  | v :: vs, hv => by
    obtain⟨p,i,b,c⟩:=hv v aO;obtain⟨as,a1,a2,a3,a4,a5⟩:=Zl3 i b c;obtain⟨bs,b1,b2,b3,b4,b5⟩:=wt vs fun u hu=>hv u (bw _ hu);rw[<-i.at] at a1 a2 a3 a4 a5;rw[aL];refine⟨as++bs,.cons a1 b1,by simp only[PyData.showableAll];rw[a2,b2];rfl,by simp only[PyData.hasDictAll];rw[a3,b3];rfl,by simp only[PyData.depthAll];lia,?_⟩;rw[PyData.shownAll,aL,bR,cz];lia
theorem uo : ∀ ps : List I3, PyData.shownAll (ps.map itD)=shTs (ps.map itT)
  | []=>by rw[gw, PyData.shownAll, gw, shTs]
  | p :: ps => by
    rw[aL,PyData.shownAll,aL,shTs,uo ps]
    congr 1
theorem t6{M : Model}{h : Heap} : ∀ {l : List Value}, (∀ v∈l, ∃ p, IsI h v p)->∃ fs, PySem.W.KatTups h l fs/\fs.length=l.length/\∀ f∈fs, PySem.W.Looks M h (typeOf f) (.type "tuple")
  | [], _=>⟨[], PySem.W.KatTups.nil, rfl, fun f hf=>by cases hf⟩
  | v :: l, h' => by
    obtain⟨p,a,b,o,ob,n,m,t,t1,t2,rfl,e1,e2,e3,e4,e5,e6⟩:=h' v aO;obtain⟨fs,k1,k2,k3⟩:=t6 (M:=M) (l:=l) fun w hw=>h' w (bw _ hw);refine⟨.ref b::fs,PySem.W.KatTups.cons e1 e2 e3 rfl k1,by rw[cz,cz,k2],fun f hf=>?_⟩;rcases aJ.mp hf with rfl|hf
    . exact fun A Q E s k q=>lb (T := "tuple") ⟨ob, k _ _ e4, e5⟩ q
    . exact k3 f hf
theorem lT{α β:Type}{F:α->β->Prop}{l:List α}{m:List β}(r:Paired F l m):∀ (j:Nat) {a:α} {b:β},l[j]?=some a->m[j]?=some b->F a b:=by
 induction r with
 | nil=>intro j a b h;cases h
 | cons h _ ih =>
  intro j a b e1 e2;cases j with
  | zero=>cases e1;cases e2;exact h
  | succ j=>exact ih j e1 e2
theorem ZlE{P:Program}{w:World}(d:Addr)(hd:(d == sysModules)=false):MeetsIn P w (Builtin.«dict.items» ⟨[.ref d],[]⟩) fun _ R s=>s.TypeIs (.ref d) "dict"/\R (.ok (.ret (.ref s.heap.objs.size))) { s with heap:=s.heap.push { cls:=.type "dict_items",data:=.fields #[.ref d] } } :=
 .of_wp fun A R s z=>by
  obtain⟨ht,h⟩:=z;unfold Builtin.«dict.items» Builtin.Dict.noArgs;refine ab (ab (wpAny_notOrdered_dict ht ?_));show wpAny _ _ (pure d) _ _ s;unfold Builtin.Dict.showsAll;refine am ?_;rw[ao (by rw[hd];exact bF)];exact ab (am (ab (eD (am ⟨_,rfl,h⟩))))
end L2
end
section
namespace L2
open PySem PySem.Spec PyProof.Rows
section
variable{P:Program}{w:World}{A:Around}{E:Value->Shared->Prop}{s:Shared}
theorem xp{it d:Addr}{i ep:Nat}{es:Array DictEntry}{Q:Option Value->Shared->Prop}(hh:A.handled=none)(hit:s.heap.IsKeyIter it d i es.size ep)(hd:DEs s.heap d es ep)
  (h1:∀ e h',es[i]?=some e->h'.IsKeyIter it d (i+1) es.size ep->Heap.SameBut it s.heap h'->Q (some e.key) { s with heap:=h' })
  (h2:es[i]?=none->∀ h',Heap.ExtBut it s.heap h'->Q none { s with heap:=h' }):wpAny (model P w) A (pyNext (.ref it)) Q E s:=by
 obtain⟨o,ho,hc,hdt⟩:=id hit;obtain⟨od,e1,e2⟩:=hd;have ty:=hit.typeIs;have own:Builtin.Dict_items.ownsTuple "dict_keyiterator"=false:=by decide
 have nn:¬ ((Value.ref d == Value.none)=true):=bF;have ni:¬ ((i:Int)<0):=by lia
 unfold pyNext;refine ab (lD (iu (name:=Str.ofString "__next__") ty F.slot_dict_keyiterator_next (eC F.slot_dict_keyiterator_next ty F.entry_dict_keyiterator_next ?_ (F.args_dict_keyiterator_next_1 _))));refine ab (am (ab (ab (ab (sH ty (am (ab (wpAny_fieldsOf ho hdt ?_))))))));simp only[own,de,cv];show wpAny _ _ (if (Value.ref d == Value.none)=true then _ else _) _ _ _;rw[ao nn];refine ab (am (ab (nL e1 e2 ?_)));rw[ao (by simp)];refine ab (am (ab (nM e1 e2 ?_)));rw[ao (by simp)];refine am ?_;cases ei:es[i]? with
 | none =>
  simp only[ni,cv,bB,ei];refine ab (ab (sH ty (am ?_)));show wpAny _ _ (setField (.ref it) 0 .none >>= _) _ _ _;refine ab (lv ho hdt (by simp) ?_);show wpAny _ _ (newExc (.type "StopIteration") [] >>= _) _ _ _;simp only[newExc,newTuple];refine ab (ab (eD ?_ (by size_fits)));refine ab (m:=firstArgMember _ _) (wpAny_of_eq (a:=Value.none) (by first|rfl|(simp only[firstArgMember];rfl)) (eD ?_ (by size_fits)));simp only[raiseNew];refine ab (wpAny_handled ?_);rw[show A.in1.handled=none from hh];refine ab (am (wpAny_throw ?_));refine ab (i7 (T:="StopIteration") (b:=true) ⟨_,bQ _ rfl,rfl⟩ isSubtype_stop ?_);exact am (h2 ei _ (((Heap.SameBut.update ..).extBut.push _).push _))
 | some e =>
  simp only[ni,cv,bB,ei];refine ab (ab (sH ty (am (ab (wpAny_isOneOf_keyiter ty ?_)))));show wpAny _ _ (setField (.ref it) 1 (rawInt ((i:Int)+1)) >>= _) _ _ s;refine ab (lv ho hdt (by simp) ?_);have st:(s.heap.update it (Obj.mapFields (·.setIfInBounds 1 (rawInt ((i:Int)+1))))).IsKeyIter it d (i+1) es.size ep :=
   ⟨_,jJ _ ho (Obj.isFreed_of_fields (nB hdt _)),(Obj.cls_mapFields ..).trans hc,by rw[nB hdt];simp[rawInt]⟩
  refine ab (eL (ab (wpAny_isOneOf_keyiter (s:={ s with heap:=s.heap.update it (Obj.mapFields (·.setIfInBounds 1 (rawInt ((i:Int)+1)))) }) st.typeIs ?_)));show wpAny _ _ (pure e.key) _ _ _;exact am (am ⟨_,rfl,am (h1 e _ ei st (Heap.SameBut.update ..))⟩)
theorem Zp0{d:Addr}{ep:Nat}{es:Array DictEntry}{Q:Value->Shared->Prop}(hs:(d == sysModules)=false)(ty:s.TypeIs (.ref d) "dict")(hd:DEs s.heap d es ep)
  (hQ:Q (.ref s.heap.objs.size) { s with heap:=s.heap.push { cls:=.type "dict_keyiterator",data:=.fields #[.ref d,.int 0 0,.int es.size 0,.int ep 0] } }):wpAny (model P w) A (pyIter (.ref d)) Q E s:=by
 obtain⟨o,e1,e2⟩:=hd;refine wpAny_pyIter_slot ty F.slot_dict_iter (eC F.slot_dict_iter ty F.entry_dict_iter ?_ (F.args_dict_iter_1 _));unfold Builtin.«dict.__iter__» Builtin.Dict.dictSlotNone;refine ab (ab (wpAny_notOrdered_dict ty ?_));show wpAny _ _ (pure (Value.ref d)) _ _ s;unfold Builtin.Dict.showsAll;refine am ?_;show wpAny _ _ ((if (d == sysModules)=true then _ else _) >>= _) _ _ s;rw[ao (by rw[hs];exact bF)];refine ab (am (ab (nL e1 e2 (ab (nM e1 e2 ?_)))));refine ab (eD (am ⟨_,rfl,"dict_keyiterator",_,⟨_,bQ _ rfl,rfl⟩,F.slot_dict_keyiterator_next.lookup,?_⟩));simpa [rawInt] using hQ
end
theorem Inv.freeze{X:Cx}{pins:List (Addr×Obj)}{Z:St}{H:Hp}{s:Shared}{a:Addr}{o:Obj}{kvs:List (List Key×V)}(I:Inv X pins Z H s)(ha:H a=some (.dT kvs))(ho:s.heap.get? a=some o):Inv X pins Z (upd H a (.frz o (.dT kvs))) s:=by
 have ne:∀ {b:Addr} {u:Option HO},H b=u->u≠some (.dT kvs)->b≠a:=fun {b u} e n z=>n (by rw[<-e,z,ha]);have up:∀ {b:Addr} {u:Option HO},H b=u->u≠some (.dT kvs)->upd H a (.frz o (.dT kvs)) b=u:=fun e n=>by rw[bv (ne e n)];exact e
 refine I.un (s:=s) (h':=s.heap) ⟨fun b ob q _ _ _=>q,fun b ob q _ _ _=>⟨ob.slots,q⟩,fun b ob _ n _=>up n nofun,fun b ob q _=>⟨ob,q⟩,fun b xs q=>up q nofun,fun b ob u q=>up q nofun,fun b ps q=>⟨#[],by rw[up q nofun];simp⟩⟩ fun b u e=>?_;have tp:∀ b xs,H b=some (.tup xs)->upd H a (.frz o (.dT kvs)) b=some (.tup xs):=fun b xs q=>up q nofun;by_cases hb:b=a
 .subst hb;rw[bJ] at e;cases e;exact⟨ho,(I.hok b _ ha).stay (fun _ _ _ q=>q) (fun c q=>up q nofun) tp⟩
 .rw[bv hb] at e;exact(I.hok b u e).stay (fun _ _ _ q=>q) (fun c q=>up q nofun) tp
noncomputable def Itd(a:Addr)(o:Obj)(kvs:List (List Key×V)):It :=
 ⟨fun i H=>H a=some (.frz o (.dT kvs))/\i<kvs.length,fun i H v H'=>H'=H/\∃ b k x,kvs[i]?=some (k,x)/\v=.ref b/\H b=some (.tup (k.map kV)),fun i H=>H a=some (.frz o (.dT kvs))/\kvs.length<=i⟩
theorem Zo3{P:Program}{w:World}{K:W.Frag}{tg:Expr}(a it:Addr)(o:Obj)(kvs:List (List Key×V)){es:Array DictEntry}{ep:Nat}(hes:o.data=.dict es ep)(hl:es.size=kvs.length):Turn P w K tg (Itd a o kvs) [it] it (fun i h=>h.IsKeyIter it a i es.size ep) where
 mem:=by simp
 obj:=fun i h st b hb=>by
  have e:b=it:=by simpa using hb
  subst e;obtain⟨o,e,c,d⟩:=st;exact⟨o,e,fun v z=>by rw[d] at z;cases z⟩
 keep:=fun i h h' st k=>by
  obtain⟨o,e,c,d⟩:=st;exact⟨o,k it (by simp) o e,c,d⟩
 item:=by
  intro X hP hw hK hc i pins s Z H E I hf st hg;subst hP hw hK;obtain⟨ha,hi⟩:=hg;obtain⟨ho,_,_,xs,pr,ob,es',ep',e1,e2,e3,e4,_⟩:=(show ObjOk X.prog X.w H s.heap a (.frz o (.dT kvs)) from I.hok a _ ha);rw[ho] at e1;cases e1;rw[hes] at e3;cases e3;obtain⟨f0,f1,f2,f3,f4,f5⟩:=hf it (by simp);refine xp (I.ok.hd hc) st ⟨o,ho,hes⟩ (fun e h' ei st' sb=>?_) fun ei=>?_
  .have I1:Inv X pins Z H { s with heap:=h' }:=I.turned (t':=s.toks) (fun b o hb e=>(sb.2 b hb).trans e) f0 f1 f3 f4 f5;obtain⟨o',e',c,d⟩:=id st';rw[<-lh,e4,ah] at ei;obtain⟨x,ex,rfl⟩:=aV.mp ei;have ek:kvs[i]?=some kvs[i]:=ay hi;obtain⟨z1,z2,z3⟩:=lT pr i ek ex;exact⟨_,rfl,mi (s:={ s with heap:=h' }) e' c d (by decide) ⟨.ref x.2.1,H,I1,rfl,⟨rfl,x.2.1,kvs[i].1,kvs[i].2,ek,rfl,z2⟩,st',fun b hb=>(hf b hb).1⟩⟩
  .have:=yz.mp ei;lia
 done:=by
  intro X hP hw hK hc i pins s Z H E I hf st hg;subst hP hw hK;obtain⟨ha,hi⟩:=hg;obtain⟨ho,_⟩:=(show ObjOk X.prog X.w H s.heap a (.frz o (.dT kvs)) from I.hok a _ ha);obtain⟨f0,f1,f2,f3,f4,f5⟩:=hf it (by simp);refine xp (I.ok.hd hc) st ⟨o,ho,hes⟩ (fun e h' ei=>?_) fun _ h' eb=>⟨rfl,I.turned (t':=s.toks) (fun b o hb e=>eb b o hb e) f0 f1 f3 f4 f5⟩;have:=(yy.mp ei).1;lia
 self:=fun _ _ _ _ _ st h=>wpAny_pyIter_keyiter st h
def iDT(tl:TE):TI:=fun Z H R=>tl Z H fun x H1=>∃ a kvs,x=.ref a/\H1 a=some (.dT kvs)/\∀ o,R (Itd a o kvs) (upd H1 a (.frz o (.dT kvs)))
theorem pi_dt{X:Cx}{tg l:Expr}{tl:TE}(hl:PE X l tl):PI X tg l (iDT tl):=by
 intro pins s Z H R I h;refine thn (hl pins s Z H _ I h) fun v s1 z=>?_;obtain⟨x,H1,I1,r1,a,kvs,rfl,ha,q⟩:=z;obtain rfl:v=Value.ref a:=r1;obtain⟨ty,_,hs⟩:=qS I1 (.inr ⟨kvs,.inl ha⟩);obtain⟨_,_,xs,pr,o,es,ep,e1,e2,e3,e4,_⟩:=(show ObjOk X.prog X.w H1 s1.heap a (.dT kvs) from I1.hok a _ ha);have sz:es.size=kvs.length:=by rw[<-ft,e4,af,<- Paired.length pr]
 refine Zp0 hs ty ⟨o,e1,e3⟩ ?_;have I2:=I1.freeze ha e1;refine⟨s1.heap.objs.size,[s1.heap.objs.size],_,_,_,rfl,I2.kept (t':=s1.toks) fun b o e=>be _ e,Zo3 a _ o kvs e3 sz,⟨_,bQ _ rfl,rfl,rfl⟩,fun b hb=>?_,q o⟩;have e:b=s1.heap.objs.size:=by simpa using hb
 subst e;exact I2.fpOk (aE _) (I2.hok.fresh (aE _))
noncomputable def k1T:Key->T
 | .inl i=>.int i
 | .inr x=>.str x
noncomputable abbrev keyT(ks:List Key):T:=.tup (ks.map k1T)
noncomputable def getA{κ:Type}[DecidableEq κ](kvs:List (κ×T))(k:κ):Option T:=(kvs.find? fun x=>decide (x.1=k)).map (·.2)
noncomputable def putA{κ:Type}[DecidableEq κ](kvs:List (κ×T))(k:κ)(v:T):List (κ×T):=if (kvs.any fun kv=>decide (kv.1=k))=true then kvs.map (fun kv=>if kv.1=k then (kv.1,v) else kv) else kvs++[(k,v)]
section
variable{P:Program}{w:World}{K:W.Frag}{G G1 G2 G':GH}{H H1 H2 H':Hp}{a b:Addr}{Γ:Ev}{ta te td ty tv:TE}{k:T->GH->Prop}{kb:Bool->GH->Prop}{d x y z:T}{v:V}{D:EndT}{c:Ct}{o:HO}
theorem wR{ks:List Key}{vs:List V}(r:RepTs K G H (ks.map k1T) vs):vs=ks.map kV:=by
 induction ks generalizing vs with
 | nil=>cases r;rfl
 | cons c l ih =>
  cases r with
  | cons r1 r2 =>
   rw[ih r2];cases c with
   | inl i=>cases r1;rfl
   | inr i=>cases r1;rfl
theorem rp:∀ (ks:List Key),RepTs K G H (ks.map k1T) (ks.map kV)
 | []=>.nil
 | .inl _::ks=>.cons .int (rp ks)
 | .inr _::ks=>.cons .str (rp ks)
noncomputable abbrev PA2{κ:Type}(K:W.Frag)(G:GH)(H:Hp):List (κ×T)->List (κ×V)->Prop:=Paired fun p q=>p.1=q.1/\RepT K G H p.2 q.2
theorem vV{κ:Type}[DecidableEq κ]{kvs:List (κ×T)}{kvs':List (κ×V)}(r:PA2 K G H kvs kvs')(q:κ):(getA kvs q=none/\valV kvs' q=none)\/∃ d v,getA kvs q=some d/\valV kvs' q=some v/\RepT K G H d v:=by
 induction r with
 | nil=>exact Or.inl ⟨rfl,rfl⟩
 | @cons p s ps ss h t ih =>
  obtain⟨h1,h3⟩:=h;unfold getA valV at ih ⊢;rw[eM,eM];by_cases e:p.1=q
  .rw[aY e,aY (h1.symm.trans e)];exact .inr ⟨_,_,rfl,rfl,h3⟩
  .rw[bo e,bo (fun z=>e (h1.trans z))];exact ih
theorem wE{κ:Type}[DecidableEq κ]{kvs:List (κ×T)}{kvs':List (κ×V)}(r:PA2 K G H kvs kvs')(q:κ)(rd:RepT K G H d v):PA2 K G H (putA kvs q d) (putK kvs' q v):=by
 have any:(kvs.any fun kv=>decide (kv.1=q))=(kvs'.any fun kv=>decide (kv.1=q)):=by
  induction r with
  | nil=>rfl
  | cons h _ ih=>rw[gK,gK,ih,h.1]
 unfold putA putK;rw[any];by_cases hx:(kvs'.any fun kv=>decide (kv.1=q))=true
 .rw[ak hx,ak hx];clear any hx
  induction r with
  | nil=>exact .nil
  | @cons p s ps ss h t ih =>
   refine .cons ?_ ih;dsimp only;by_cases e:p.1=q
   .rw[ak e,ak (h.1.symm.trans e)];exact⟨h.1,rd⟩
   .rw[ao e,ao (fun z=>e (h.1.trans z))];exact h
 .rw[ao hx,ao hx];exact Paired.snoc r ⟨rfl,rd⟩
theorem Znm{κ:Type}[DecidableEq κ]{kvs:List (κ×T)}{q:κ}{d:T}:(putA kvs q d).length<=kvs.length+1:=by
 unfold putA;split
 .rw[af];lia
 .rw[aH];exact aE _
theorem sT{κ:Type}[DecidableEq κ]{kvs:List (κ×T)}{q:κ}{d:T}(h:getA kvs q=none):putA kvs q d=kvs++[(q,d)]:=by
 unfold putA;rw[ao];intro z;rw[any_eq_true] at z;obtain⟨e,he,hk⟩:=z;unfold getA at h;rw[Option.map_eq_none_iff,find?_eq_none] at h;exact h e he hk
theorem GOk.putD(g:GOk P w K G H)(h:(∃ kvs,G a=some (.dt kvs))\/(∃ kvs,G a=some (.dk kvs))\/H a=none)(hc:Kp G H (gput G a c) (upd H a o)->COk P w K (gput G a c) (upd H a o) a c):GOk P w K (gput G a c) (upd H a o)/\Stp G H (gput G a c) (upd H a o):=by
 have h':(∃ c,G a=some c)\/H a=none:=by
  rcases h with ⟨_,h⟩|⟨_,h⟩|h
  .exact .inl ⟨_,h⟩
  .exact .inl ⟨_,h⟩
  .exact .inr h
 have st:Stp G H (gput G a c) (upd H a o):=fun e u n he=>by
  have:e≠a:=fun z=>by
   subst z;rcases h' with ⟨_,h⟩|h
   .rw[n] at h;cases h
   .rw[he] at h;cases h
  exact⟨by rw[bv this];exact he,by rw[gp_n this];exact n⟩
 refine g.put h' (hc (st.kp g)) (fun e l he q z=>?_) fun e C dx fs he q z=>?_
 .subst z;obtain ⟨u,hu⟩:=(g e _ q).1.lo;have:=(g e _ q).2;rcases h with ⟨_,h⟩|⟨_,h⟩|h
  .rw[this] at h;cases h
  .rw[this] at h;cases h
  .rw[hu] at h;cases h
 .subst z;obtain ⟨_,_,qq,_⟩:=g e _ q;rcases h with ⟨_,h⟩|⟨_,h⟩|h
  .rw[h] at qq;cases qq
  .rw[h] at qq;cases qq
  .rw[g.free h] at qq;cases qq
theorem tT(h:∀ p,G p=none->k (.ptr p) (gput G p (.dt []))):We P w K sZ Γ G k:=fun H Z g ev Q z p hp=>by
 obtain⟨g2,s2⟩:=g.putD (c:=.dt []) (o:=.dT []) (.inr (.inr hp)) fun _=>⟨[],bJ,.nil⟩;exact z _ _ _ _ s2 g2 .ptr (h p (g.free hp))
theorem ZoU(h:∀ p,G p=none->k (.ptr p) (gput G p (.dk []))):We P w K pX Γ G k:=fun H Z g ev Q z p hp=>by
 obtain⟨g2,s2⟩:=g.putD (c:=.dk []) (o:=.dK []) (.inr (.inr hp)) fun _=>⟨[],bJ,.nil⟩;exact z _ _ _ _ s2 g2 .ptr (h p (g.free hp))
def AtD(G:GH)(x y:T)(r:Option T):Prop:=∃ a,x=.ptr a/\((∃ kvs ks,(G a=some (.dt kvs)\/∃ o vs,G a=some (.dz o vs kvs))/\y=keyT ks/\r=getA kvs ks)\/∃ kvs s,G a=some (.dk kvs)/\y=.str s/\r=getA kvs (.inr s:Key))
theorem AtD.of{u v:V}{r:Option T}(h:AtD G x y r)(g:GOk P w K G H)(rx:RepT K G H x u)(ry:RepT K G H y v):∃ a,u=.ref a/\((r=none/\DGet H a v none)\/∃ d w,r=some d/\RepT K G H d w/\DGet H a v (some w)):=by
 obtain⟨a,rfl,h⟩:=h;cases rx;refine⟨a,rfl,?_⟩;rcases h with ⟨kvs,ks,h,rfl,rfl⟩|⟨kvs,s,h,rfl,rfl⟩
 .cases ry with
  | @tup c us _ hc rc =>
   rw[wR rc] at hc;have:∃ kvs',Rd H a (.dT kvs')/\PA2 K G H kvs kvs':=by
    rcases h with h|⟨o,vs,h⟩
    .obtain ⟨kvs',e,pr⟩:=g a _ h;exact⟨kvs',.inl e,pr⟩
    .obtain ⟨e,pr⟩:=g a _ h;exact⟨vs,.inr ⟨o,e⟩,pr⟩
   obtain⟨kvs',e,pr⟩:=this;have dg:DGet H a (.ref c) (valV kvs' ks):=.inr ⟨kvs',ks,c,e,rfl,hc,rfl⟩;rcases vV pr ks with ⟨n1,n2⟩|⟨d,v,n1,n2,rd⟩
   .rw[n2] at dg;exact .inl ⟨n1,dg⟩
   .rw[n2] at dg;exact .inr ⟨d,v,n1,rd,dg⟩
 .cases ry;obtain ⟨kvs',e,pr⟩:=g a _ h;have dg:=DGet.k (k:=(.inr s:Key)) e;rcases vV pr (.inr s:Key) with ⟨n1,n2⟩|⟨d,v,n1,n2,rd⟩
  .rw[n2] at dg;exact .inl ⟨n1,dg⟩
  .rw[n2] at dg;exact .inr ⟨d,v,n1,rd,dg⟩
theorem vU(h:We P w K td Γ G fun x G1=>We P w K ty Γ G1 fun y G2=>∃ d,AtD G2 x y (some d)/\k d G2):We P w K (pP td ty) Γ G k:=fun H Z g ev Q z=>h H Z g ev _ fun v H1 x G1 s1 g1 r1 q1=>q1 H1 Z g1 (ev.mono g s1) _ fun v2 H2 y G2 s2 g2 r2 z0_=>by
 obtain⟨d,ad,q⟩:=z0_;obtain⟨a,rfl,⟨n,_⟩|⟨d',u,e,rd,dg⟩⟩:=ad.of g2 (r1.mono g1 s2) r2
 .cases n
 .cases e;exact⟨a,u,rfl,dg,(z.mono (s1.trans s2)).here g2 rd q⟩
theorem tK(h:We P w K ty Γ G fun y G1=>We P w K td Γ G1 fun x G2=>∃ r,AtD G2 x y r/\k (.bl (!r.isSome)) G2):We P w K (wK ty td) Γ G k:=fun H Z g ev Q z=>h H Z g ev _ fun v H1 y G1 s1 g1 r1 q1=>q1 H1 Z g1 (ev.mono g s1) _ fun v2 H2 x G2 s2 g2 r2 z0_=>by
 obtain⟨r,ad,q⟩:=z0_;obtain⟨a,rfl,⟨n,dg⟩|⟨d',u,e,rd,dg⟩⟩:=ad.of g2 r2 (r1.mono g1 s2)
 .subst n;exact⟨a,none,rfl,dg,(z.mono (s1.trans s2)).here g2 .bl q⟩
 .subst e;exact⟨a,_,rfl,dg,(z.mono (s1.trans s2)).here g2 .bl q⟩
theorem qO(h:We P w K tv Γ G fun d G1=>We P w K td Γ G1 fun x G2=>We P w K ty Γ G2 fun y G3=>∃ a kvs ks,x=.ptr a/\G3 a=some (.dt kvs)/\y=keyT ks/\kvs.length<100000/\D.nx Γ (gput G3 a (.dt (putA kvs ks d)))):Ws P w K (mQ td ty tv) Γ G D:=fun H Z g ev D' z=>h H Z g ev _ fun v1 H1 d G1 s1 g1 r1 q1=>q1 H1 Z g1 (ev.mono g s1) _ fun v2 H2 x G2 s2 g2 r2 q2=>q2 H2 Z g2 (ev.mono g (s1.trans s2)) _ fun v3 H3 y G3 s3 g3 r3 z0_=>by
 obtain⟨a,kvs,ks,rfl,e3,rfl,hl,q⟩:=z0_;cases r2;cases r3 with
 | @tup c us _ hc rc =>
  rw[wR rc] at hc;obtain⟨kvs',h3,pr⟩:=g3 a _ e3;have rd:=r1.mono g1 (s2.trans s3);obtain⟨g4,s4⟩:=g3.putD (c:=.dt (putA kvs ks d)) (o:=.dT (putK kvs' ks v1)) (.inl ⟨_,e3⟩) fun kk=>⟨_,bJ,gA (fun p s t=>⟨t.1,t.2.kp kk⟩) (wE pr ks rd)⟩;have s5:=s1.trans (s2.trans (s3.trans s4));exact⟨a,_,rfl,DPut.t h3 hc (by rw[<-Paired.length pr,PySem.sizeLine_eq];lia),z.nx _ _ Γ _ s5 g4 (ev.mono g s5) q⟩
theorem v7(h:We P w K tv Γ G fun d G1=>We P w K td Γ G1 fun x G2=>We P w K ty Γ G2 fun y G3=>∃ a kvs s,x=.ptr a/\G3 a=some (.dk kvs)/\y=.str s/\kvs.length<100000/\D.nx Γ (gput G3 a (.dk (putA kvs (.inr s) d)))):Ws P w K (mQ td ty tv) Γ G D:=fun H Z g ev D' z=>h H Z g ev _ fun v1 H1 d G1 s1 g1 r1 q1=>q1 H1 Z g1 (ev.mono g s1) _ fun v2 H2 x G2 s2 g2 r2 q2=>q2 H2 Z g2 (ev.mono g (s1.trans s2)) _ fun v3 H3 y G3 s3 g3 r3 z0_=>by
 obtain⟨a,kvs,s,rfl,e3,rfl,hl,q⟩:=z0_;cases r2;cases r3;obtain⟨kvs',h3,pr⟩:=g3 a _ e3;have rd:=r1.mono g1 (s2.trans s3);obtain⟨g4,s4⟩:=g3.putD (c:=.dk (putA kvs (.inr s) d)) (o:=.dK (putK kvs' (.inr s) v1)) (.inr (.inl ⟨_,e3⟩)) fun kk=>⟨_,bJ,gA (fun p s t=>⟨t.1,t.2.kp kk⟩) (wE pr (.inr s:Key) rd)⟩;have s5:=s1.trans (s2.trans (s3.trans s4));exact⟨a,_,rfl,DPut.k (k:=(.inr s:Key)) h3 (by rw[<-Paired.length pr,PySem.sizeLine_eq];lia),z.nx _ _ Γ _ s5 g4 (ev.mono g s5) q⟩
theorem uE{kx:List T->(GH->Prop)->GH->Prop}(h:We P w K td Γ G fun x G1=>∃ a kvs,x=.ptr a/\G1 a=some (.dt kvs)/\∀ o vs,kx (kvs.map fun p=>keyT p.1) (fun G'=>G' a=some (.dz o vs kvs)) (gput G1 a (.dz o vs kvs))):Wi P w K (iDT td) Γ G kx:=fun H Z g ev Q z=>h H Z g ev _ fun v1 H1 x G1 s1 g1 r1 z0_=>by
 obtain⟨a,kvs,rfl,ea,q⟩:=z0_;cases r1;obtain⟨kvs',h1,pr⟩:=g1 a _ ea;refine⟨a,kvs',rfl,h1,fun o=>?_⟩;obtain⟨g2,s2⟩:=g1.putD (c:=.dz o kvs' kvs) (o:=.frz o (.dT kvs')) (.inl ⟨_,ea⟩) fun kk=>⟨bJ,gA (fun p s t=>⟨t.1,t.2.kp kk⟩) pr⟩;refine z _ _ _ _ _ (s1.trans s2) g2 (fun G3 H3 s3 g3 e3=>?_) (q o kvs');obtain⟨h3,pr3⟩:=g3 a _ e3;have ln:=Paired.length pr3;refine⟨fun i x hx=>?_,h3,by rw[af,ln];exact aE _⟩;rw[ah] at hx;obtain⟨p,ep,rfl⟩:=aV.mp hx;have il:=(aX.mp ep).1;refine⟨⟨h3,by lia⟩,fun v H4 y=>?_⟩;obtain⟨rfl,b,ks,u,ek,rfl,hb⟩:=y;have z1:=(lT pr3 i ep ek).1;rw[z1];exact⟨fun _ _ e=>e,.tup hb (rp ks)⟩
theorem ws_frz{t:TS}{i:Nat}{ts:List T}(e:Γ[i]?=some (some (.ptr a)))(n:G a=none)(h:Ws P w K t (Γ.set i (some (.lst ts))) G D):Ws P w K t Γ (gput G a (.lst ts)) D:=fun H Z g ev D' z=>by
 have gd:=g.del (a:=a) fun x e=>by rw[gp_s] at e;cases e
 obtain⟨xs,ha,rs⟩:=g a _ gp_s;have kk:Kp (gput G a (.lst ts)) H (gdel (gput G a (.lst ts)) a) H:=pU (ts:=ts) (a:=a);have rs:=rs.kp kk;rw[gp_d n] at gd rs kk;have st:Stp (gput G a (.lst ts)) H G H:=fun b o nb hb=>⟨hb,by
  by_cases hba:b=a
  .rw[hba];exact n
  .rwa [gp_n hba] at nb⟩
 have hl:i<Γ.length:=(aX.mp e).1;refine h H Z gd ⟨by rw[cQ];exact ev.len,fun j t q=>?_⟩ D' (z.mono st);by_cases hij:i=j
 .subst hij;rw[io hl] at q;cases q;obtain⟨v,hv,r⟩:=ev.at' i _ e;cases r;exact⟨_,hv,.lst n ha rs⟩
 .rw[jD hij] at q;obtain⟨v,hv,r⟩:=ev.at' j t q;exact⟨v,hv,r.kp kk⟩
theorem tY{t:T}{n:Nat}(pl:PlT n t)(ht:∃ ts,t=.tup ts\/t=.lst ts)(hn:n<=40)(hl:lnT t<=1000000)(q:k (.str (shT t)) G):LNr P w K (rStrT K) [t] G k:=fun H us g r Q z=>by
 cases r with
 | cons r1 r2 =>
  cases r2;obtain⟨ts,rfl|rfl⟩:=ht
  .cases r1 with
   | tup ha rs=>exact⟨G,_,n,_,rfl,.tup ha rs,pl,hn,hl,z.here g .str q⟩
  .cases r1 with
   | lst ga ha rs=>exact⟨G,_,n,_,rfl,.lst ga ha rs,pl,hn,hl,z.here g .str q⟩
end
end L2
end
section
namespace L2
open PySem
noncomputable abbrev plT(p:Int×Int):T:=.tup [.int p.1,.int p.2]
noncomputable def plS(pl:List (Int×Int)):Str:=shT (.lst (pl.map plT))
noncomputable abbrev plcs(l:List SF):List (Int×Int):=l.map fun s=>(s.1,s.2.1)
theorem ZlB{m n:Int}{c d:Nat}{x y:List Nat}(hc:c=44\/c=41)(hd:d=44\/d=41)(e:cs (numS m)++c::x=cs (numS n)++d::y):m=n/\x=y:=by
 have key:∀ {p q:List Nat},(∀ a∈p,a=45\/(48<=a/\a<=57))->(∀ a∈q,a=45\/(48<=a/\a<=57))->p++c::x=q++d::y->p=q/\x=y:=by
  intro p
  induction p with
  | nil =>
   intro q _ hq e;cases q with
   | nil=>injection e with _ e;exact⟨rfl,e⟩
   | cons a q =>
    injection e with e _
    have:=hq a aO;lia
  | cons b p ih =>
   intro q hp hq e;cases q with
   | nil =>
    injection e with e _
    have:=hp b aO;lia
   | cons a q =>
    injection e with e1 e2
    obtain⟨h1,h2⟩:=ih (fun a ha=>hp a (bw _ ha)) (fun a ha=>hq a (bw _ ha)) e2;exact⟨by rw[e1,h1],h2⟩
 obtain⟨h1,h2⟩:=key (jT m) (jT n) e;refine⟨?_,h2⟩;have val:∀ {a b:Int},cs (numS a)=cs (numS b)->a=b:=by
  intro a b e;rcases kI a with ⟨p,rfl,e1⟩|⟨p,hp,rfl,e1⟩ <;> rcases kI b with ⟨q,rfl,e2⟩|⟨q,hq,rfl,e2⟩
  .rw[e1,e2] at e;rw[<-mV p,<- mV q,e]
  .rw[e1,e2] at e;have:=mX p 45 (by rw[e];exact aO);lia
  .rw[e1,e2] at e;have:=mX q 45 (by rw[<-e];exact aO);lia
  .rw[e1,e2] at e;injection e with _ e
   rw[<-mV p,<- mV q,e]
 exact val h1
structure StL where
 n:Nat
 fr:List SF
 dd:T
noncomputable abbrev stT(d:StL):T:=.tup [.int d.n,.lst (d.fr.map sfT),d.dd]
structure PpK(Q:List Df)(n:Nat)(fr:List SF):Prop where
 nb:n<=40
 ex:∃ f s,fr=f++[s]/\FrsOk Q n (10^60) f s
 cn:bO fr
noncomputable abbrev L3i:=Int×Int×Int
noncomputable abbrev lyT(x:L3i):T:=.tup [.int x.1,.int x.2.1,.int x.2.2]
def InFr(l:List SF)(i j:Int):Prop:=0<=i/\0<=j/\∃ s,l[i.toNat]?=some s/\j<s.2.2.length
structure LayOk(l:List SF)(lay:List L3i):Prop where
 len:lay.length<=40
 ok:∀ x∈lay,InFr l x.1 x.2.1/\x.2.2.natAbs<=2
theorem ZpN{Q:List Df}{l m:List SF}{n n' B B':Nat}(h1:∀ t∈l,SfOk Q n B t)(h2:∀ t∈m,SfOk Q n' B' t)(e:plcs l=plcs m){i j:Int}(h:InFr l i j):InFr m i j:=by
 obtain⟨hi,hj,s,es,hl⟩:=h;refine⟨hi,hj,?_⟩;have e1:(plcs l)[i.toNat]?=some (s.1,s.2.1):=by rw[ah,es];rfl
 rw[e,ah] at e1;obtain⟨t,et,eq⟩:=aV.mp e1;refine⟨t,et,?_⟩;obtain⟨d,r,a1,a2,a3,a4,a5⟩:=(h1 s (aD es)).ex;obtain⟨d',r',b1,b2,b3,b4,b5⟩:=(h2 t (aD et)).ex;have:t.1=s.1:=(Prod.mk.inj eq).1;rw[this,a2] at b2;cases b2;lia
theorem kJ {κ:Type} [DecidableEq κ] (kvs:List (κ×T)) (q r:κ) (d:T):getA (putA kvs q d) r=if q=r then some d else getA kvs r:=by
 unfold getA putA;by_cases hx:(kvs.any fun kv=>decide (kv.1=q))=true
 .rw[ak hx]
  induction kvs with
  | nil=>cases hx
  | cons e l ih =>
   rw[aL,eM,eM];by_cases h1:e.1=q
   .rw[ak h1];by_cases h2:q=r
    .rw[ak h2,aY (show e.1=r from h1.trans h2)];rfl
    .rw[ao h2,bo (show ¬ e.1=r from fun z=>h2 (h1.symm.trans z))];have ho:∀ l:List (κ×T),(List.find? (fun x=>decide (x.1=r)) (l.map fun kv=>if kv.1=q then (kv.1,d) else kv)).map (·.2)=(List.find? (fun x=>decide (x.1=r)) l).map (·.2):=fun l=>by
      induction l with
      | nil=>rfl
      | cons a l ih =>
       rw[aL,eM,eM];by_cases h3:a.1=q
       .rw[ak h3,bo (show ¬ a.1=r from fun z=>h2 (h3.symm.trans z))];exact ih
       .rw[ao h3];by_cases h4:a.1=r
        .rw[aY h4]
        .rw[bo h4];exact ih
     exact ho l
   .rw[ao h1];have hx:(l.any fun kv=>decide (kv.1=q))=true:=by
     rw[gK,bo h1,Bool.false_or] at hx;exact hx
    by_cases h4:e.1=r
    .rw[aY h4,ao (fun z=>h1 (h4.trans z.symm))]
    .rw[bo h4];exact ih hx
 .rw[ao hx,find?_append];have hn:∀ e∈kvs,¬ e.1=q:=fun e he z=>hx (any_eq_true.mpr ⟨e,he,aY z⟩);by_cases h2:q=r
  .rw[ak h2];have:List.find? (fun x=>decide (x.1=r)) kvs=none:=find?_eq_none.mpr fun e he z=>hn e he ((lA z).trans h2.symm);rw[this,eM,aY h2];rfl
  .rw[ao h2,eM,bo h2,find?_nil,Option.or_none]
end L2
namespace L2
open PySem
structure LdSt(G G':GH)(b l la kd:Addr)(nw:List Addr)(lane:List StL)(kc:Ct):Prop where
 bag:G' b=some (.bag l)
 ln:G' la=some (.lst (lane.map stT))
 kn:G' kd=some kc
 old:∀ x,x∉nw->x≠la->x≠kd->G' x=G x
 fre:∀ x∈nw,G x=none/\∃ c,G' x=some c/\∀ y,c≠.own y
 nb:b∉nw/\la∉nw/\kd∉nw
 ne:la≠kd/\b≠la/\b≠kd
section
variable{G G':GH}{b l la kd:Addr}{nw:List Addr}{lane:List StL}{kc:Ct}{a:Addr}{c:Ct}
theorem LdSt.start(h1:G b=some (.bag l))(h2:G la=some (.lst (lane.map stT)))(h3:G kd=some kc)(h4:(∃ k,kc=.dt k)\/∃ k,kc=.dk k):LdSt G G b l la kd [] lane kc:=by
 refine⟨h1,h2,h3,fun _ _ _ _=>rfl,fun x hx=>(by cases hx),⟨bX,bX,bX⟩,fun e=>?_,fun e=>?_,fun e=>?_⟩
 .rw[e,h3] at h2;rcases h4 with ⟨_,rfl⟩|⟨_,rfl⟩ <;> cases h2
 .rw[e,h2] at h1;cases h1
 .rw[e,h3] at h1;rcases h4 with ⟨_,rfl⟩|⟨_,rfl⟩ <;> cases h1
theorem LdSt.put(h:LdSt G G' b l la kd nw lane kc)(ha:a∈nw)(hc:∀ y,c≠.own y):LdSt G (gput G' a c) b l la kd nw lane kc:=by
 have n1:b≠a:=fun e=>h.nb.1 (e▸ha);have n2:la≠a:=fun e=>h.nb.2.1 (e▸ha);have n3:kd≠a:=fun e=>h.nb.2.2 (e▸ha);refine⟨by rw[gp_n n1];exact h.bag,by rw[gp_n n2];exact h.ln,by rw[gp_n n3];exact h.kn,fun x h1 h2 h3=>?_,fun x hx=>⟨(h.fre x hx).1,?_⟩,h.nb,h.ne⟩
 .rw[gp_n (fun e=>h1 (by rw[e];exact ha))];exact h.old x h1 h2 h3
 .by_cases e':x=a
  .exact ⟨c,by rw[e',gp_s],hc⟩
  .rw[gp_n e'];exact(h.fre x hx).2
theorem LdSt.fresh(h:LdSt G G' b l la kd nw lane kc)(n:G' a=none)(hc:∀ y,c≠.own y):LdSt G (gput G' a c) b l la kd (a::nw) lane kc/\a∉nw/\a≠la/\a≠kd/\a≠b:=by
 have n1:a≠b:=fun e=>by rw[e,h.bag] at n;cases n
 have n2:a≠la:=fun e=>by rw[e,h.ln] at n;cases n
 have n3:a≠kd:=fun e=>by rw[e,h.kn] at n;cases n
 have n4:a∉nw:=fun q=>by
  obtain⟨_,c,e,_⟩:=h.fre a q;rw[n] at e;cases e
 have ga:G a=none:=by rw[<-h.old a n4 n2 n3];exact n
 refine⟨⟨by rw[gp_n n1.symm];exact h.bag,by rw[gp_n n2.symm];exact h.ln,by rw[gp_n n3.symm];exact h.kn,fun x h1 h2 h3=>?_,fun x hx=>?_,⟨?_,?_,?_⟩,h.ne⟩,n4,n2,n3,n1⟩
 .rw[aJ,bW] at h1;rw[gp_n h1.1];exact h.old x h1.2 h2 h3
 .rcases aJ.mp hx with rfl|hx
  .exact ⟨ga,c,gp_s,hc⟩
  .rw[gp_n (fun e=>n4 (by rw[<-e];exact hx))];exact h.fre x hx
 .rw[aJ,bW];exact⟨n1.symm,h.nb.1⟩
 .rw[aJ,bW];exact⟨n2.symm,h.nb.2.1⟩
 .rw[aJ,bW];exact⟨n3.symm,h.nb.2.2⟩
theorem LdSt.app(h:LdSt G G' b l la kd nw lane kc)(lane':List StL):LdSt G (gput G' la (.lst (lane'.map stT))) b l la kd nw lane' kc:=by
 refine⟨by rw[gp_n h.ne.2.1];exact h.bag,gp_s,by rw[gp_n h.ne.1.symm];exact h.kn,fun x h1 h2 h3=>?_,fun x hx=>?_,h.nb,h.ne⟩
 .rw[gp_n h2];exact h.old x h1 h2 h3
 .rw[gp_n (fun e=>h.nb.2.1 (by rw[<-e];exact hx))];exact h.fre x hx
theorem LdSt.kput(h:LdSt G G' b l la kd nw lane kc)(c:Ct):LdSt G (gput G' kd c) b l la kd nw lane c:=by
 refine⟨by rw[gp_n h.ne.2.2];exact h.bag,by rw[gp_n h.ne.1];exact h.ln,gp_s,fun x h1 h2 h3=>?_,fun x hx=>?_,h.nb,h.ne⟩
 .rw[gp_n h3];exact h.old x h1 h2 h3
 .rw[gp_n (fun e=>h.nb.2.2 (by rw[<-e];exact hx))];exact h.fre x hx
def SubD(G0 G:GH):Prop:=∀ b,G0 b=G b\/(G0 b=none/\∀ x,G b≠some (.own x))
theorem SubD.gok{G0 G:GH}(s:SubD G0 G){P:Program}{w:World}{K:W.Frag}{H:Hp}(g:GOk P w K G H):GOk P w K G0 H/\Kp G H G0 H/\∀ b,G b=none->G0 b=none:=by
 have n0:∀ b,G b=none->G0 b=none:=fun b e=>by
  rcases s b with h|⟨h,_⟩
  .rw[h];exact e
  .exact h
 have kk:Kp G H G0 H:=⟨fun _ _ h=>h,fun c xs n h=>⟨h,n0 c n⟩⟩;refine⟨fun b c e=>?_,kk,n0⟩;have e':G b=some c:=by
  rcases s b with h|⟨h,_⟩
  .rw[<-h];exact e
  .rw[h] at e;cases e
 refine(g b c e').kp kk (fun _ h=>h) (fun l _=>⟨fun _ h=>h,n0 l⟩) fun C dx fs z q=>?_;rcases s dx with h|⟨h,h2⟩
 .rw[h];exact q
 .exact absurd q (h2 _)
theorem Zqh{G0 G:GH}{k:T->GH->Prop}{d:T}(s:SubD G0 G)(h:Cl k d G0):Cl k d G:=by
 obtain⟨d',G',h1,h2,h3⟩:=h;refine⟨d',G',fun c q=>h1 c ?_,fun P w K H v g r=>?_,h3⟩
 .rcases s c with e|⟨e,_⟩
  .rw[e];exact q
  .exact e
 .obtain ⟨g2,k2,_⟩:=s.gok g;exact h2 P w K H v g2 (r.kp k2)
theorem LdSt.fin(h:LdSt G G' b l la kd nw lane kc){k:T->GH->Prop}{d:T}(q:Cl k d (gput (gput G la (.lst (lane.map stT))) kd kc)):Cl k d G':=by
 refine Zqh (fun x=>?_) q;by_cases h3:x=kd
 .subst h3;rw[gp_s,h.kn];exact .inl rfl
 by_cases h2:x=la
 .subst h2;rw[gp_n h3,gp_s,h.ln];exact .inl rfl
 rw[gp_n h3,gp_n h2];by_cases h1:x∈nw
 .obtain ⟨e1,c,e2,e3⟩:=h.fre x h1;exact .inr ⟨e1,fun y e=>by rw[e2] at e;cases e;exact e3 y rfl⟩
 .rw[h.old x h1 h2 h3];exact .inl rfl
end
end L2
namespace L2
open PySem
theorem fY{m i:Nat}{x:T}(h:(rngT m)[i]?=some x):x=.int (i:Int)/\i<m:=by
 unfold rngT at h;rw[ah] at h;obtain⟨j,ej,rfl⟩:=aV.mp h;have:=(aX.mp ej).1;rw[eE] at this;rw[lE this] at ej;cases ej;exact⟨rfl,this⟩
theorem g7{m:Nat}:(rngT m).length=m:=by unfold rngT;simp
end L2
namespace L2
open PySem
theorem tu{α : Type}{R : Nat->α->Prop} : ∀ (m : Nat), (∀ j, j<m->∃ x, R j x)->∃ xs : List α, xs.length=m/\∀ j x, xs[j]?=some x->R j x
  | 0, _=>⟨[], rfl, fun j x h=>by cases h⟩
  | m + 1, h => by
    obtain⟨xs,h1,h2⟩:=tu m fun j hj=>h j (by lia);obtain⟨x,hx⟩:=h m (by lia);refine⟨xs++[x],by rw[aH,h1];rfl,fun j y e=>?_⟩;rcases dE e with ⟨_,e⟩|⟨e1,e2⟩
    . exact h2 j y e
    . rw[e1, e2, h1]; exact hx
theorem pap_ok{Q:List Df}{n B N:Nat}{f:List SF}{s:SF}(h:FrsOk Q n B f s)(hN:N<=40){pap:List SF}(hl:pap.length=(f++[s]).length)(ha:∀ (i:Nat) t s',pap[i]?=some t->(f++[s])[i]?=some s'->t.1=s'.1/\t.2.1=s'.2.1/\t.2.2.length=s'.2.2.length/\∀ g∈t.2.2,Fo N (10^60) g/\Cano g):PpK Q N pap:=by
 have at':∀ (i:Nat) t,pap[i]?=some t->∃ s',(f++[s])[i]?=some s'/\t.1=s'.1/\t.2.1=s'.2.1/\t.2.2.length=s'.2.2.length/\∀ g∈t.2.2,Fo N (10^60) g/\Cano g:=fun i t e=>by
  have hi:=(aX.mp e).1;have es:(f++[s])[i]?=some ((f++[s])[i]'(by lia)):=ay _;exact⟨_,es,ha i t _ e es⟩
 have sok:∀ t∈pap,SfOk Q N (10^60) t:=fun t ht=>by
  obtain⟨i,hi⟩:=fV.mp ht;obtain⟨s',es,e1,e2,e3,e4⟩:=at' i t hi;obtain⟨d,r,a1,a2,a3,a4,a5⟩:=(h.all s' (aD es)).ex;exact⟨⟨d,r,by rw[e1];exact a1,by rw[e1];exact a2,by rw[e2];exact a3,by rw[e2];exact a4,by rw[e3];exact a5⟩,fun g hg=>(e4 g hg).1⟩
 have ne:pap≠[]:=fun e=>by rw[e,aH] at hl;simp at hl
 have sp:pap=pap.dropLast++[pap.getLast ne]:=(sC ne).symm;have hdl:pap.dropLast.length=f.length:=by rw[length_dropLast,hl,aH];simp
 refine⟨hN,⟨pap.dropLast,pap.getLast ne,sp,by rw[hdl];exact h.few,fun t ht=>sok t (by rw[sp];exact ht),fun t ht=>?_⟩,fun t ht g hg=>?_⟩
 .obtain ⟨i,hi⟩:=fV.mp ht;have il:=(aX.mp hi).1;have hp:pap[i]?=some t:=by rw[sp,cm il];exact hi
  obtain⟨s',es,e1,e2,_⟩:=at' i t hp;rw[cm (by lia)] at es;rw[e1,e2];exact h.call s' (aD es)
 .obtain ⟨i,hi⟩:=fV.mp ht;obtain⟨s',es,_,_,_,e4⟩:=at' i t hi;exact(e4 g hg).2
theorem qW{frm:List (List Key×T)}{ks key:List Key}{t:T}(h:(getA frm key).isSome=true):(getA (putA frm ks t) key).isSome=true:=by
 rw[kJ];split
 .rfl
 .exact h
theorem vF{frm:List (List Key×T)}{ks:List Key}{t:T}:(getA (putA frm ks t) ks).isSome=true:=by rw[kJ,ak rfl];rfl
theorem kj{κ:Type}[DecidableEq κ]{kvs:List (κ×T)}{q:κ}{t:T}(h:getA kvs q=some t):(q,t)∈kvs:=by
 unfold getA at h;obtain⟨e,he,rfl⟩:=aV.mp h;have:=find?_some he;have eq:e.1=q:=lA this;rw[<-eq];exact mem_of_find?_eq_some he
theorem ZnL{κ:Type}[DecidableEq κ]{kvs:List (κ×T)}{e:κ×T}(h:e∈kvs):(getA kvs e.1).isSome=true:=by
 unfold getA;rw[sd,find?_isSome];exact⟨e,h,aY rfl⟩
theorem jm{N:Nat}{c:Int}{u:Nat}(hc:c.natAbs<=2)(hu:u<N):Fo N (10^60) (c,[(1,(u:Int))]):=⟨bh hc (by decide),fun p hp=>by rw[aM.mp hp];exact(by decide:(1:Int).natAbs<=10^60),fun p hp=>by rw[aM.mp hp];exact⟨by show (0:Int)<=(u:Int);lia,by show (u:Int)<N;lia⟩,by simp⟩
theorem nV{c:Int}{u:Int}:Cano (c,[(1,u)]):=⟨sx _ _,fun p hp=>by rw[aM.mp hp];exact(by decide:(1:Int)≠0)⟩
end L2
namespace L2
open PySem
theorem LdSt.del{G G':GH}{b l la kd:Addr}{nw:List Addr}{lane:List StL}{kc:Ct}{a:Addr}(h:LdSt G G' b l la kd (a::nw) lane kc)(na:a∉nw):LdSt G (gdel G' a) b l la kd nw lane kc:=by
 have ne:∀ x,x≠a->gdel G' a x=G' x:=fun x e=>by unfold gdel;rw[ao e]
 obtain⟨n1,n2,n3⟩:=h.nb;simp only[aJ,bW] at n1 n2 n3;refine⟨by rw[ne _ n1.1];exact h.bag,by rw[ne _ n2.1];exact h.ln,by rw[ne _ n3.1];exact h.kn,fun x h1 h2 h3=>?_,fun x hx=>?_,⟨n1.2,n2.2,n3.2⟩,h.ne⟩
 .by_cases e:x=a
  .rw[e,(h.fre a aO).1];unfold gdel;rw[ak rfl]
  .rw[ne x e];exact h.old x (by rw[aJ,bW];exact⟨e,h1⟩) h2 h3
 .rw[ne x (fun e=>na (by rw[<-e];exact hx))];exact h.fre x (bw _ hx)
end L2
namespace L2
open PySem
noncomputable def PlD:Nat->T->Prop
 | 0,t=>(∃ i,t=.int i)\/∃ x,t=.str x
 | n+1,t=>(∃ i,t=.int i)\/(∃ x,t=.str x)\/∃ ts,t=.tup ts/\ts.length<=1000/\∀ u∈ts,PlD n u
theorem PlD.int{n:Nat}{i:Int}:PlD n (.int i):=by cases n <;> exact .inl ⟨i,rfl⟩
theorem PlD.str{n:Nat}{x:Str}:PlD n (.str x):=by
 cases n
 .exact .inr ⟨x,rfl⟩
 .exact .inr (.inl ⟨x,rfl⟩)
theorem PlD.tup{n:Nat}{ts:List T}(hl:ts.length<=1000)(h:∀ u∈ts,PlD n u):PlD (n+1) (.tup ts):=.inr (.inr ⟨ts,rfl,hl,h⟩)
theorem PlD.up : ∀ {n m : Nat} {t : T}, PlD n t->n<=m->PlD m t
  | 0, m, t, h, _=>by rcases h with ⟨i, rfl⟩ | ⟨x, rfl⟩; exact .int; exact .str
  | n+1, 0, _, _, h=>by lia
  | n + 1, m + 1, t, h, hl => by
    rcases h with ⟨i,rfl⟩|⟨x,rfl⟩|⟨ts,rfl,h1,h2⟩
    . exact .int
    . exact .str
    . exact .tup h1 fun u hu=>(h2 u hu).up (by lia)
theorem pld_fm{f:Fm}(h:f.2.length<=1000):PlD 3 (fmT f):=.tup (by simp) fun u hu=>by
 simp only[aJ,bX,cG] at hu;rcases hu with rfl|rfl
 .exact .int
 .refine .tup (by rw[af];exact h) fun u hu=>?_;obtain⟨p,_,rfl⟩:=aT.mp hu;refine .tup (by simp) fun u hu=>?_;simp only[aJ,bX,cG] at hu;rcases hu with rfl|rfl <;> exact .int
theorem uJ{fl:List Fm}(hl:fl.length<=1000)(h:∀ f∈fl,f.2.length<=1000):PlD 4 (.tup (fl.map fmT)):=.tup (by rw[af];exact hl) fun u hu=>by
 obtain⟨f,hf,rfl⟩:=aT.mp hu;exact pld_fm (h f hf)
end L2
namespace L2
open PySem
theorem uY:∀ (n:Nat) {t:T},PlT n t->(shT t).length<=lnT t:=by
 intro n;have num:∀ {t:T} {i:Int},t=.int i->i.natAbs<10^90->(shT t).length<=lnT t:=by
  rintro t i rfl h;simp only[shT,lnT];exact kB h
 induction n with
 | zero=>rintro t ⟨i,e,h⟩;exact num e h
 | succ n ih =>
  rintro t (⟨i,e,h⟩|⟨ts,e,h⟩)
  .exact num e h
  .have all:∀ (ts:List T),(∀ u∈ts,PlT n u)->((shTs ts).map fun t=>t.length+2).sum<=lnTs ts:=fun ts=>by
    induction ts with
    | nil=>intro _;rw[shTs,lnTs];exact aE _
    | cons a ts ih2 =>
     intro h;have h1:=ih (h a aO);have h2:=ih2 fun u hu=>h u (bw _ hu);rw[shTs,lnTs,aL,bR];lia
   have:=all ts h;rcases e with rfl|rfl
   .simp only[shT,lnT];exact bh (mO _) (by lia)
   .simp only[shT,lnT];exact bh (pc _) (by lia)
end L2
namespace L2
open PySem
theorem un_kv{α β : Type}{f : α->β}{S : α->Prop} : ∀ us : List β, (∀ u∈us, ∃ b, u=f b/\S b)->∃ l : List α, us=l.map f/\∀ b∈l, S b
  | [], _=>⟨[], rfl, fun b h=>nomatch h⟩
  | u :: us, h => by
    obtain⟨b,rfl,hb⟩:=h u aO;obtain⟨l,rfl,hl⟩:=un_kv us fun u hu=>h u (bw _ hu);refine⟨b::l,rfl,fun c hc=>?_⟩;rcases aJ.mp hc with rfl|hc
    . exact hb
    . exact hl c hc
theorem its_ok{its:List I3}(hl:its.length<64)(h:∀ p∈its,BdI p/\p.1.1.natAbs<1000):PlT 3 (.lst (its.map itT))/\(shT (.lst (its.map itT))).length<=100000:=by
 have one:∀ p∈its,PlT 2 (itT p)/\lnT (itT p)<=400:=fun p hp=>by
  obtain⟨b,c⟩:=h p hp;have n1:p.1.1.natAbs<10^90:=dM c (by decide);have n2:p.1.2.natAbs<10^90:=dM (show p.1.2.natAbs<2001 by have:=b.1;lia) (by decide);have n3:p.2.natAbs<10^90:=dM (show p.2.natAbs<2*10^9+1 by have:=b.2;lia) (by decide);refine⟨.inr ⟨_,.inl rfl,fun u hu=>?_⟩,by simp only[lnT,lnTs];lia⟩;rcases aJ.mp hu with rfl|hu
  .refine .inr ⟨_,.inl rfl,fun u hu=>?_⟩;rcases aJ.mp hu with rfl|hu
   .exact ⟨_,rfl,n1⟩
   .rw[aM.mp hu];exact⟨_,rfl,n2⟩
  .rw[aM.mp hu];exact .inl ⟨_,rfl,n3⟩
 have pl:PlT 3 (.lst (its.map itT)):=.inr ⟨_,.inr rfl,fun u hu=>by obtain⟨p,hp,rfl⟩:=aT.mp hu;exact(one p hp).1⟩;refine⟨pl,bh (uY 3 pl) ?_⟩;have:lnTs (its.map itT)<=(its.map itT).length*(400+2):=jk fun x hx=>by
  obtain⟨p,hp,rfl⟩:=aT.mp hx;exact(one p hp).2
 rw[af] at this;simp only[lnT];lia
end L2
end
section
namespace L2
open PySem
noncomputable def wP(v:Int->Int)(ps:List (Int×Int)):Int:=(ps.map fun p=>p.1*v p.2).sum
noncomputable def wT(v:Int->Int)(t:List (Int×Int)):Int:=(t.map fun q=>q.2*v q.1).sum
theorem yd(v : Int->Int)(w x : Int) : ∀ t, wT v (addT t w x)=wT v t+x*v w
  | []=>by simp[addT, wT]
  | q :: r => by
    have ih:=yd v w x r;unfold wT at ih ⊢;rw[addT];split
    . rename_i h
      simp only[aL,bR];rw[<-h,Int.add_mul];lia
    . simp only[aL, bR]
      rw[ih];lia
theorem uu(v : Int->Int)(n : Int) : ∀ (ps t : List (Int×Int)), wT v (bm t ps n)=wT v t+n*wP v ps
  | [], t=>by simp[bm, wP]
  | p :: ps, t => by
    have ih:=uu v n ps (addT t p.2 (p.1*n));show wT v (bm (addT t p.2 (p.1*n)) ps n)=_;rw[ih,yd];unfold wP;rw[aL,bR,Int.mul_add,jP p.1 n,Int.mul_assoc];lia
theorem ZmZ{l m:List Int}(h:l.Perm m):l.sum=m.sum:=by
 induction h with
 | nil=>rfl
 | cons x _ ih=>rw[bR,bR,ih]
 | swap x y l=>simp only[bR];lia
 | trans _ _ h1 h2=>exact h1.trans h2
theorem xW(v : Int->Int)(t : List (Int×Int)) : ∀ ms : List Int, wP v (ci t ms)=(ms.map fun w=>aZ t w*v w).sum
  | []=>rfl
  | w :: ms => by
    have ih:=xW v t ms;unfold ci wP at ih ⊢;rw[filter_cons];split
    . rw[aL, aL, bR, ih, aL, bR]
    . rename_i h
      have h:aZ t w=0:=by simpa using h
      rw[ih,aL,bR,h];simp
theorem ub(v : Int->Int) : ∀ t : List (Int×Int), (t.map (·.1)).Nodup->((t.map (·.1)).map fun w=>aZ t w*v w).sum=wT v t
  | [], _=>rfl
  | q :: t, h => by
    rw[aL,dX] at h;have ih:=ub v t h.2;unfold wT at ih ⊢;rw[aL,aL,bR,aL,bR,<- ih]
    congr 1
    . rw[aZ, ak rfl]
    . congr 1
      refine fS fun w hw=>?_;rw[aZ, ao (fun e : q.1=w=>h.1 (by rw[e]; exact hw))]
theorem wP_wn(v:Int->Int){t:List (Int×Int)}(h:(t.map (·.1)).Nodup):wP v (ci t (sortI (t.map (·.1))))=wT v t:=by
 rw[xW,ZmZ ((gX _).map _),ub v t h]
noncomputable def undV(ws:List Int)(w:Int):Int:=ws.getD w.toNat 0
noncomputable def undF(ws:List Int)(g:Fm):Int:=g.1+wP (undV ws) g.2
end L2
end
section
namespace L2
open PySem
noncomputable abbrev flC(r:List T):List Nat:=(r.map fun t=>44::32::cs (shT t)).flatten
theorem qp:∀ l:List T,shTs l=l.map shT
 | []=>by rw[shTs];rfl
 | a::l=>by rw[shTs,qp l];rfl
theorem gY(ts:List T):cs (shT (.lst ts))=91::(match ts with|[]=>[]|t::r=>cs (shT t)++flC r)++[93]:=by
 rw[shT,ur,qp];cases ts with
 | nil=>rfl
 | cons t r=>simp[fA,Function.comp_def]
theorem iJ : ∀ ts : List T, cs (shT (.tup ts)) = match ts with | [] => [40, 41] | [t] => 40 :: (cs (shT t) ++ [44, 41]) | t :: r => 40 :: (cs (shT t) ++ flC r ++ [41])
  | []=>by rw[shT, shTs]; rfl
  | [t] => by
    rw[shT,shTs,shTs];show cs (("(":Str)++Str.join ", " [shT t]++",)")=_;rw[dI,dI];show [40]++cs (shT t)++[44,41]=_;simp
  | t :: u :: r => by
    have key : ∀ (l : List Str) (a : Str), cs (Str.join ", " (a::l))=cs a++(l.map fun t=>44::32::cs t).flatten:=by
      intro l
      induction l with
      | nil=>intro a; show cs a=_; simp
      | cons b l ih =>
        intro a;show cs (a++", "++Str.join ", " (b::l))=_;rw[dI,dI,ih];show cs a++[44,32]++_=_;simp
    rw[shT,qp];show cs (("(":Str)++Str.join ", " ((t::u::r).map shT)++")")=_;rw[dI,dI,aL,key];show [40]++_++[41]=_;rw[fA];show [40]++(cs (shT t)++flC (u::r))++[41]=_;simp only[dh, dL]
def fh(x:List Nat):Prop:=∀ c r,x=c::r->c≠45/\¬ (48<=c/\c<=57)
theorem iO{c:Nat}{r:List Nat}(h:c≠45/\¬ (48<=c/\c<=57)):fh (c::r):=fun _ _ e=>by injection e with e _;rw[<-e];exact h
theorem jB:fh []:=fun _ _ e=>by cases e
theorem im{l:List T}{e:Nat}{u:List Nat}(he:e=41\/e=93):fh (flC l++e::u):=by
 cases l with
 | nil=>exact iO (by lia)
 | cons t l=>exact iO (by lia)
theorem ZpK{m n:Int}{x y:List Nat}(hx:fh x)(hy:fh y)(e:cs (numS m)++x=cs (numS n)++y):m=n/\x=y:=by
 have key:∀ {p q:List Nat},(∀ a∈p,a=45\/(48<=a/\a<=57))->(∀ a∈q,a=45\/(48<=a/\a<=57))->p++x=q++y->p=q/\x=y:=by
  intro p
  induction p with
  | nil =>
   intro q _ hq e;cases q with
   | nil=>exact⟨rfl,e⟩
   | cons a q =>
    have:=hx a _ e;have:=hq a aO;lia
  | cons b p ih =>
   intro q hp hq e;cases q with
   | nil =>
    have:=hy b _ e.symm;have:=hp b aO;lia
   | cons a q =>
    injection e with e1 e2
    obtain⟨h1,h2⟩:=ih (fun a ha=>hp a (bw _ ha)) (fun a ha=>hq a (bw _ ha)) e2;exact⟨by rw[e1,h1],h2⟩
 obtain⟨h1,h2⟩:=key (jT m) (jT n) e;refine⟨(ZlB (c:=44) (d:=44) (x:=[]) (y:=[]) (.inl rfl) (.inl rfl) (by rw[h1])).1,h2⟩
theorem sQ(i:Int):∃ c r,cs (numS i)=c::r/\(c=45\/(48<=c/\c<=57)):=by
 have h:=jT i;cases e:cs (numS i) with
 | nil =>
  exfalso;rcases kI i with ⟨m,_,e1⟩|⟨m,_,_,e1⟩
  .rw[e] at e1;exact Zp9 m e1.symm
  .rw[e] at e1;cases e1
 | cons c r=>exact⟨c,r,rfl,h c (by rw[e];exact aO)⟩
theorem qh{n : Nat}(ih : ∀ {t t' : T} {x y : List Nat}, PlT n t->PlT n t'->fh x->fh y->cs (shT t)++x=cs (shT t')++y->t=t'/\x=y){e : Nat}(he : e=41\/e=93) : ∀ {l m : List T} {u v : List Nat}, (∀ t∈l, PlT n t)->(∀ t∈m, PlT n t)->flC l++e::u=flC m++e::v->l=m/\u=v
  | [], [], u, v, _, _, z=>by injection z with _ z; exact⟨rfl, z⟩
  | [], t :: m, u, v, _, _, z => by
    have z:e::u=44::_:=z;injection z with z _
    lia
  | t :: l, [], u, v, _, _, z => by
    have z:44::_=e::v:=z;injection z with z _
    lia
  | t :: l, t' :: m, u, v, hl, hm, z => by
    have z:44::32::(cs (shT t)++flC l)++e::u=44::32::(cs (shT t')++flC m)++e::v:=z;rw[dh,dh,dh,dh,cp,cp] at z;injection z with _ z
    injection z with _ z
    obtain⟨h1,h2⟩:=ih (hl t aO) (hm t' aO) (im he) (im he) z;obtain⟨h3,h4⟩:=qh ih he (fun t ht=>hl t (bw _ ht)) (fun t ht=>hm t (bw _ ht)) h2;exact⟨by rw[h1, h3], h4⟩
theorem hd_pl{n:Nat}{t:T}(h:PlT n t):(∃ i,t=.int i)\/(∃ ts,t=.tup ts/\∃ r,cs (shT t)=40::r)\/∃ ts,t=.lst ts/\∃ r,cs (shT t)=91::r:=by
 have key:(∃ i,t=.int i)\/∃ ts,t=.tup ts\/t=.lst ts:=by
  cases n with
  | zero=>obtain⟨i,e,_⟩:=h;exact .inl ⟨i,e⟩
  | succ n =>
   rcases h with ⟨i,e,_⟩|⟨ts,e,_⟩
   .exact .inl ⟨i,e⟩
   .exact .inr ⟨ts,e⟩
 rcases key with h|⟨ts,rfl|rfl⟩
 .exact .inl h
 .refine .inr (.inl ⟨ts,rfl,?_⟩);rw[iJ]
  match ts with
  | []=>exact⟨_,rfl⟩
  | [_]=>exact⟨_,rfl⟩
  | _::_::_=>exact⟨_,rfl⟩
 .refine .inr (.inr ⟨ts,rfl,?_⟩);rw[gY];exact⟨_,rfl⟩
theorem jz{n:Nat}{t:T}(h:PlT n t){x y:List Nat}{c:Nat}(hc:c=41\/c=93):cs (shT t)++x≠c::y:=fun e=>by
 rcases hd_pl h with ⟨i,rfl⟩|⟨ts,rfl,r,e2⟩|⟨ts,rfl,r,e2⟩
 .obtain ⟨d,r,e2,hd⟩:=sQ i;have e:cs (numS i)++x=c::y:=e;rw[e2] at e;injection e with e _
  lia
 .rw[e2] at e;injection e with e _;lia
 .rw[e2] at e;injection e with e _;lia
theorem j9:∀ {n:Nat} {t t':T} {x y:List Nat},PlT n t->PlT n t'->fh x->fh y->cs (shT t)++x=cs (shT t')++y->t=t'/\x=y:=by
 have two:∀ {i j:Int} {x y:List Nat},fh x->fh y->cs (shT (.int i))++x=cs (shT (.int j))++y->T.int i=.int j/\x=y:=fun {i j x y} hx hy e=>by
  have e:cs (numS i)++x=cs (numS j)++y:=e;obtain⟨h1,h2⟩:=ZpK hx hy e;exact⟨by rw[h1],h2⟩
 have hd:∀ {i:Int} {c:Nat} {x r y:List Nat},(c=40\/c=91)->cs (shT (.int i))++x=c::r++y->False:=fun {i c x r y} hc e=>by
  have e:cs (numS i)++x=c::r++y:=e;obtain⟨d,r2,e2,hd⟩:=sQ i;rw[e2] at e;injection e with e _
  lia
 intro n
 induction n with
 | zero =>
  intro t t' x y h h' hx hy e;obtain⟨i,rfl,_⟩:=h;obtain⟨j,rfl,_⟩:=h';exact two hx hy e
 | succ n ih =>
  intro t t' x y h h' hx hy e;rcases h with ⟨i,rfl,_⟩|⟨ts,rfl|rfl,hp⟩
  .rcases h' with ⟨j,rfl,_⟩|⟨us,rfl|rfl,hq⟩
   .exact two hx hy e
   .obtain ⟨r,er⟩:∃ r,cs (shT (.tup us))=40::r:=by
     rw[iJ]
     match us with
     | []=>exact⟨_,rfl⟩
     | [_]=>exact⟨_,rfl⟩
     | _::_::_=>exact⟨_,rfl⟩
    rw[er] at e;exact(hd (.inl rfl) e).elim
   .rw[gY us] at e;exact(hd (.inr rfl) e).elim
  .rcases h' with ⟨j,rfl,_⟩|⟨us,rfl|rfl,hq⟩
   .obtain ⟨r,er⟩:∃ r,cs (shT (.tup ts))=40::r:=by
     rw[iJ]
     match ts with
     | []=>exact⟨_,rfl⟩
     | [_]=>exact⟨_,rfl⟩
     | _::_::_=>exact⟨_,rfl⟩
    rw[er] at e;exact(hd (.inl rfl) e.symm).elim
   .rw[iJ,iJ] at e
    match ts,us,hp,hq with
    | [],[],_,_ =>
     simp only[dh,cp,dL,List.cons.injEq,eR] at e;exact⟨rfl,e⟩
    | [],[a],_,hq =>
     simp only[dh,cp,dL,List.cons.injEq,eR] at e;exact(jz (hq a aO) (.inl rfl) e.symm).elim
    | [],a::b::r,_,hq =>
     simp only[dh,cp,dL,List.cons.injEq,eR] at e;exact(jz (hq a aO) (.inl rfl) e.symm).elim
    | [a],[],hp,_ =>
     simp only[dh,cp,dL,List.cons.injEq,eR] at e;exact(jz (hp a aO) (.inl rfl) e).elim
    | a::b::r,[],hp,_ =>
     simp only[dh,cp,dL,List.cons.injEq,eR] at e;exact(jz (hp a aO) (.inl rfl) e).elim
    | [a],[c],hp,hq =>
     simp only[dh,cp,dL,List.cons.injEq,eR] at e;obtain⟨h1,h2⟩:=ih (hp a aO) (hq c aO) (iO (by lia)) (iO (by lia)) e;simp only[List.cons.injEq,eR] at h2;exact⟨by rw[h1],h2⟩
    | [a],c::d::r,hp,hq =>
     simp only[dh,cp,dL,List.cons.injEq,eR] at e;obtain⟨_,h2⟩:=ih (hp a aO) (hq c aO) (iO (by lia)) (im (.inl rfl)) e;injection h2 with _ h2
     injection h2 with h2 _
     lia
    | a::b::r,[c],hp,hq =>
     simp only[dh,cp,dL,List.cons.injEq,eR] at e;obtain⟨_,h2⟩:=ih (hp a aO) (hq c aO) (im (.inl rfl)) (iO (by lia)) e;injection h2 with _ h2
     injection h2 with h2 _
     lia
    | a::b::r,c::d::r',hp,hq =>
     simp only[dh,cp,dL,List.cons.injEq,eR] at e;obtain⟨h1,h2⟩:=ih (hp a aO) (hq c aO) (im (.inl rfl)) (im (.inl rfl)) e;obtain⟨h3,h4⟩:=qh ih (.inl rfl) (fun t ht=>hp t (bw _ ht)) (fun t ht=>hq t (bw _ ht)) h2;exact⟨by rw[h1,h3],h4⟩
   .obtain ⟨r,er⟩:∃ r,cs (shT (.tup ts))=40::r:=by
     rw[iJ]
     match ts with
     | []=>exact⟨_,rfl⟩
     | [_]=>exact⟨_,rfl⟩
     | _::_::_=>exact⟨_,rfl⟩
    rw[er,gY] at e;injection e with e _
    lia
  .rcases h' with ⟨j,rfl,_⟩|⟨us,rfl|rfl,hq⟩
   .rw[gY ts] at e;exact(hd (.inr rfl) e.symm).elim
   .obtain ⟨r,er⟩:∃ r,cs (shT (.tup us))=40::r:=by
     rw[iJ]
     match us with
     | []=>exact⟨_,rfl⟩
     | [_]=>exact⟨_,rfl⟩
     | _::_::_=>exact⟨_,rfl⟩
    rw[er,gY] at e;injection e with e _
    lia
   .rw[gY,gY] at e
    match ts,us,hp,hq with
    | [],[],_,_ =>
     simp only[dh,cp,dL,List.cons.injEq,eR] at e;exact⟨rfl,e⟩
    | [],a::r,_,hq =>
     simp only[dh,cp,dL,List.cons.injEq,eR] at e;exact(jz (hq a aO) (.inr rfl) e.symm).elim
    | a::r,[],hp,_ =>
     simp only[dh,cp,dL,List.cons.injEq,eR] at e;exact(jz (hp a aO) (.inr rfl) e).elim
    | a::r,c::r',hp,hq =>
     simp only[dh,cp,dL,List.cons.injEq,eR] at e;obtain⟨h1,h2⟩:=ih (hp a aO) (hq c aO) (im (.inr rfl)) (im (.inr rfl)) e;obtain⟨h3,h4⟩:=qh ih (.inr rfl) (fun t ht=>hp t (bw _ ht)) (fun t ht=>hq t (bw _ ht)) h2;exact⟨by rw[h1,h3],h4⟩
theorem Zpq{fl:List Fm}{u:Nat}{g:Fm}{c:Int}(e:fl[u]?=some g)(hg:Cano g):bG (c,[(1,(u:Int))]) fl=(c+g.1,g.2):=by
 have en:nthF fl (u:Int)=g:=by unfold nthF;rw[bB,cA,e];rfl
 refine jh (js _ _) (show Cano (c+g.1,g.2) from hg) ?_ fun w=>?_
 .show c+1*(nthF fl (u:Int)).1=_;rw[en];lia
 .show atW (wnF _ _).2 w=_;rw[lM (jt _ _),ue];unfold putAt;simp only[aL,gw,bR,sum_nil];rw[en];lia
theorem Zj2{f:Fm}{c m:Int}(hf:Cano f):bU f (c,[]) m=(f.1+m*c,f.2):=jh (ie _ _ _) (show Cano (f.1+m*c,f.2) from hf) rfl fun w=>by
 rw[l0];show atW f.2 w+0*m=atW f.2 w;lia
theorem Zni{fl:List Fm}{u:Nat}{f:Fm}{c:Int}(e:fl[u]?=some (bU f (c,[]) (-1)))(hf:Cano f):bG (c,[(1,(u:Int))]) fl=f:=by
 rw[Zpq e (ie _ _ _),Zj2 hf];exact Prod.ext (show c+(f.1+-1*c)=f.1 by lia) rfl
theorem x6(v : Int->Int)(fl : List Fm) : ∀ (ps : List (Int×Int)) (t : List (Int×Int)), wT v (ps.foldl (fun t p=>bm t (nthF fl p.2).2 p.1) t)=wT v t+(ps.map fun p=>p.1*wP v (nthF fl p.2).2).sum
  | [], t=>by simp
  | p :: ps, t => by
    rw[foldl_cons,x6 v fl ps,uu,aL,bR];lia
theorem sW(fl : List Fm) : ∀ (ps : List (Int×Int)) (c : Int), putC c ps fl=c+(ps.map fun p=>p.1*(nthF fl p.2).1).sum
  | [], c=>by simp[putC]
  | p :: ps, c => by
    have:=sW fl ps (c+p.1*(nthF fl p.2).1);unfold putC at this ⊢;rw[foldl_cons,this,aL,bR];lia
theorem wB(ws:List Int)(fl:List Fm)(w:Int):undV (fl.map (undF ws)) w=undF ws (nthF fl w):=by
 unfold undV nthF;rw[cA,cA,ah];cases fl[w.toNat]? <;> rfl
theorem kQ(ws:List Int)(f:Fm)(fl:List Fm):undF ws (bG f fl)=undF (fl.map (undF ws)) f:=by
 have h1:undF ws (bG f fl)=putC f.1 f.2 fl+wT (undV ws) (cT f.2 fl):=by
  show putC f.1 f.2 fl+wP (undV ws) (ci _ (sortI _))=_;rw[wP_wn _ (jt _ _)]
 rw[h1,sW];unfold cT;rw[x6];have h0:wT (undV ws) []=0:=rfl;rw[h0];unfold undF wP;have:∀ ps:List (Int×Int),(ps.map fun p=>p.1*(nthF fl p.2).1).sum+(ps.map fun p=>p.1*wP (undV ws) (nthF fl p.2).2).sum=(ps.map fun p=>p.1*undV (fl.map (undF ws)) p.2).sum:=by
  intro ps
  induction ps with
  | nil=>rfl
  | cons p ps ih =>
   simp only[aL,bR];rw[<-ih,wB];unfold undF;rw[Int.mul_add];lia
 have:=this f.2;unfold undF at this;unfold wP at this;lia
theorem oh{w : Nat} : ∀ {ps : List (Int×Int)}, (∀ p∈ps, 0<=p.2)->wP (undV (List.replicate w 0++[1])) ps=atW ps (w : Int)
  | [], _=>rfl
  | p :: ps, h => by
    have ih:=oh (w:=w) (ps:=ps) fun q hq=>h q (bw _ hq);have hp:=h p aO;unfold wP atW at ih ⊢;rw[aL,bR,aL,bR,ih]
    congr 1
    have : undV (List.replicate w 0 ++ [1]) p.2 = if p.2 = (w : Int) then 1 else 0 := by
      unfold undV;rw[cA];by_cases e:p.2=(w:Int)
      . rw[ak e, e, bB]
        simp
      . rw[ao e]
        by_cases hlt:p.2.toNat<w
        . rw[cm (by simpa using hlt), jF, ak hlt]; rfl
        . rw[gu (by simpa using se hlt)]
          have:p.2.toNat-(List.replicate w (0:Int)).length≠0:=by rw[ir];lia
          obtain⟨k,hk⟩:=Nat.exists_eq_succ_of_ne_zero this;rw[hk];rfl
    rw[this];split <;> simp
theorem xH(ps:List (Int×Int)):wP (undV []) ps=0:=by
 induction ps with
 | nil=>rfl
 | cons p ps ih =>
  unfold wP at ih ⊢;rw[aL,bR,ih];show p.1*0+0=0;lia
theorem vf{ps:List (Int×Int)}{w:Int}(hw:w<0)(h:∀ p∈ps,0<=p.2):atW ps w=0:=by
 induction ps with
 | nil=>rfl
 | cons p ps ih =>
  have ih:=ih fun q hq=>h q (bw _ hq);have:=h p aO;unfold atW at ih ⊢;rw[aL,bR,ih,ao (by lia)];rfl
theorem vk{f g:Fm}(hf:Cano f)(hg:Cano g)(pf:∀ p∈f.2,0<=p.2)(pg:∀ p∈g.2,0<=p.2)(h:∀ ws,undF ws f=undF ws g):f=g:=by
 have h0:f.1=g.1:=by
  have:=h [];unfold undF at this;rw[xH,xH] at this;lia
 refine jh hf hg h0 fun w=>?_;by_cases hw:w<0
 .rw[vf hw pf,vf hw pg]
 .obtain ⟨n,rfl⟩:=rW (Int.not_lt.mp hw);have:=h (List.replicate n 0++[1]);unfold undF at this;rw[oh pf,oh pg,h0] at this;exact Int.add_left_cancel this
theorem Zn4{t:List (Int×Int)}{w x k:Int}(h:k∈(addT t w x).map (·.1)):k∈t.map (·.1)\/k=w:=by
 induction t with
 | nil=>simp[addT] at h;exact .inr h
 | cons q t ih =>
  rw[addT] at h;split at h
  .exact .inl h
  .rw[aL] at h ⊢;rcases aJ.mp h with h|h
   .exact .inl (by rw[h];exact aO)
   .exact (ih h).imp (bw _) id
theorem kR{n k : Int} : ∀ {ps t : List (Int×Int)}, k∈(bm t ps n).map (·.1)->k∈t.map (·.1)\/k∈ps.map (·.2)
  | [], t, h=>.inl h
  | p :: ps, t, h => by
    rcases kR (ps:=ps) (t:=addT t p.2 (p.1*n)) h with h|h
    . rcases Zn4 h with h | h
      . exact .inl h
      . exact .inr (by rw[h, aL]; exact aO)
    . exact .inr (by rw[aL]; exact bw _ h)
theorem oR{c:Int}{t:List (Int×Int)}{p:Int×Int}(h:p∈(wnF c t).2):p.2∈t.map (·.1):=by
 have h:p∈ci t (sortI (t.map (·.1))):=h;unfold ci at h;obtain⟨w,hw,rfl⟩:=aT.mp h;exact(gX _).mem_iff.mp (kX.mp hw).1
theorem wc{f:Fm}{fl:List Fm}{p:Int×Int}(h:p∈(bG f fl).2):∃ q∈f.2,∃ r∈(nthF fl q.2).2,r.2=p.2:=by
 have key:∀ (ps t:List (Int×Int)) (k:Int),k∈(ps.foldl (fun t p=>bm t (nthF fl p.2).2 p.1) t).map (·.1)->k∈t.map (·.1)\/∃ q∈ps,∃ r∈(nthF fl q.2).2,r.2=k:=by
  intro ps
  induction ps with
  | nil=>exact fun t k h=>.inl h
  | cons q ps ih =>
   intro t k h;rw[foldl_cons] at h;rcases ih _ k h with h|⟨q',h1,h2⟩
   .rcases kR h with h|h
    .exact .inl h
    .obtain ⟨r,h1,h2⟩:=aT.mp h;exact .inr ⟨q,aO,r,h1,h2⟩
   .exact .inr ⟨q',bw _ h1,h2⟩
 rcases key f.2 [] p.2 (oR h) with h|h
 .cases h
 .exact h
def PsW(f:Fm):Prop:=∀ p∈f.2,0<=p.2
theorem nth_in{fl:List Fm}{w:Int}:nthF fl w∈fl\/nthF fl w=(0,[]):=by
 unfold nthF;rw[cA];cases e:fl[w.toNat]? with
 | none=>exact .inr rfl
 | some g=>exact .inl (aD e)
theorem mB{f:Fm}{fl:List Fm}(h:∀ g∈fl,PsW g):PsW (bG f fl):=fun p hp=>by
 obtain⟨q,_,r,hr,e⟩:=wc hp;rw[<-e];rcases nth_in (fl:=fl) (w:=q.2) with hm|hm
 .exact h _ hm r hr
 .rw[hm] at hr;cases hr
theorem Znh{f:Fm}{moves own:List Fm}(ho:∀ g∈own,PsW g):bG f (moves.map fun g=>bG g own)=bG (bG f moves) own:=by
 refine vk (js _ _) (js _ _) (mB fun g hg=>?_) (mB ho) fun ws=>?_
 .obtain ⟨g',_,rfl⟩:=aT.mp hg;exact mB ho
 .rw[kQ,kQ,kQ,fA]
  congr 1
  exact fS fun g _=>kQ ws g own
theorem kO(n:Nat):∀ g∈aI n,PsW g:=fun g hg p hp=>by
 unfold aI at hg;obtain⟨i,_,rfl⟩:=aT.mp hg;rw[aM.mp hp];exact Int.natCast_nonneg i
theorem ZkO{ws vs:List Int}{f:Fm}(h:∀ p∈f.2,undV ws p.2=undV vs p.2):undF ws f=undF vs f:=by
 unfold undF wP
 congr 2
 exact fS fun p hp=>by rw[h p hp]
theorem xG{f:Fm}{own:List Fm}(hf:Cano f)(hp:PsW f)(ho:∀ g∈own,PsW g)(h:∀ p∈f.2,nthF own p.2=ofW p.2):bG f own=f:=by
 refine vk (js _ _) hf (mB ho) hp fun ws=>?_;rw[kQ];refine ZkO fun p hp=>?_;rw[wB,h p hp];show 0+(1*undV ws p.2+0)=_;lia
theorem Zmk{l:List SF}{moves own:List Fm}(ho:∀ g∈own,PsW g):l.map (bE (moves.map fun g=>bG g own))=(l.map (bE moves)).map (bE own):=by
 rw[fA];refine fS fun t _=>?_;show (t.1,t.2.1,_)=(t.1,t.2.1,_)
 congr 2
 show _=(t.2.2.map _).map _;rw[fA];exact fS fun f _=>Znh ho
noncomputable def gAt(fs:List SF)(x:L3i):Fm:=((fs[x.1.toNat]?).map fun s=>gtF s x.2.1).getD (0,[])
theorem gAt_at{fs:List SF}{i j:Nat}{c:Int}{s:SF}{g:Fm}(e:fs[i]?=some s)(e2:s.2.2[j]?=some g):gAt fs ((i:Int),(j:Int),c)=g:=by
 unfold gAt gtF;simp only[bB];rw[e,fR,su,cA,e2];rfl
structure Laid(l:List SF)(its:List I3)(lay:List L3i)(fr:List SF):Prop where
 pl:plcs fr=plcs l
 len:∀ (i:Nat) s t,l[i]?=some s->fr[i]?=some t->t.2.2.length=s.2.2.length
 bx:∀ (i j:Nat) t g,fr[i]?=some t->t.2.2[j]?=some g->(∃ c,(((i:Int),(j:Int)),c)∈its/\g=(c,[]))\/∃ (u:Nat) (c:Int),lay[u]?=some ((i:Int),(j:Int),c)/\g=(c,[(1,(u:Int))])
noncomputable def mvF(l:List SF)(lay:List L3i):List Fm:=lay.map fun x=>bU (gAt l x) (x.2.2,[]) (-1)
theorem ud{l l':List SF}{its:List I3}{lay:List L3i}{fr:List SF}(L:Laid l its lay fr)(e:plcs l'=plcs l)(hl:∀ (i:Nat) s t,l[i]?=some s->l'[i]?=some t->t.2.2.length=s.2.2.length)(kn:∀ (i j:Nat) c s g,(((i:Int),(j:Int)),c)∈its->l'[i]?=some s->s.2.2[j]?=some g->g=(c,[]))(cn:bO l'):fr.map (bE (mvF l' lay))=l':=by
 have e1:fr.length=l'.length:=by
  have:=congrArg List.length (L.pl.trans e.symm)
  rwa [af,af] at this
 have e0:l.length=l'.length:=by
  have:=congrArg List.length e;rw[af,af] at this;exact this.symm
 refine i4 fun i=>?_;rw[ah];by_cases hi:i<l'.length
 .have a1:fr[i]?=some (fr[i]'(by lia)):=ay _;have a2:l'[i]?=some l'[i]:=ay hi;have a3:l[i]?=some (l[i]'(by lia)):=ay _;generalize fr[i]'(by lia)=t at a1;generalize l'[i]=s at a2;generalize l[i]'(by lia)=s0 at a3;have ep:(t.1,t.2.1)=(s.1,s.2.1):=by
   have h1:(plcs fr)[i]?=some (t.1,t.2.1):=by rw[ah,a1];rfl
   have h2:(plcs l')[i]?=some (s.1,s.2.1):=by rw[ah,a2];rfl
   rw[L.pl,<- e,h2] at h1;injection h1 with h1
   exact h1.symm
  injection ep with p1 p2
  have el:t.2.2.length=s.2.2.length:=by rw[L.len i s0 t a3 a1,hl i s0 s a3 a2]
  rw[a1,a2,fR]
  congr 1
  refine Prod.ext p1 (Prod.ext p2 ?_);show t.2.2.map (fun f=>bG f (mvF l' lay))=s.2.2;refine i4 fun j=>?_;rw[ah];by_cases hj:j<s.2.2.length
  .have b1:t.2.2[j]?=some (t.2.2[j]'(by lia)):=ay _;have b2:s.2.2[j]?=some s.2.2[j]:=ay hj;generalize t.2.2[j]'(by lia)=g at b1;generalize s.2.2[j]=g' at b2;rw[b1,b2,fR]
   congr 1
   rcases L.bx i j t g a1 b1 with ⟨c,hc,rfl⟩|⟨u,c,hu,rfl⟩
   .rw[vQ,kn i j c s g' hc a2 b2]
   .refine Zni ?_ (cn s (aD a2) g' (aD b2));show (lay.map _)[u]?=_;rw[ah,hu,fR];show some (bU (gAt l' ((i:Int),(j:Int),c)) (c,[]) (-1))=_;rw[gAt_at a2 b2]
  .rw[eN (by lia),eN (by lia)];rfl
 .rw[eN (by lia),eN (by lia)];rfl
theorem je{α β : Type}{f : α->β}(hf : ∀ a b, f a=f b->a=b) : ∀ {l m : List α}, l.map f=m.map f->l=m
  | [], [], _=>rfl
  | [], _::_, h=>by cases h
  | _::_, [], h=>by cases h
  | a :: l, b :: m, h => by
    injection h with h1 h2
    rw[hf a b h1, je hf h2]
theorem rQ(a b:Int×Int)(h:prT a=prT b):a=b:=by
 injection h with h
 injection h with h1 h2
 injection h2 with h2 _
 injection h1 with h1
 injection h2 with h2
 exact Prod.ext h1 h2
theorem Zp8(a b:Fm)(h:fmT a=fmT b):a=b:=by
 injection h with h
 injection h with h1 h2
 injection h2 with h2 _
 injection h1 with h1
 injection h2 with h2
 exact Prod.ext h1 (je rQ h2)
theorem Zpa(a b:SF)(h:sfT a=sfT b):a=b:=by
 injection h with h
 injection h with h1 h
 injection h with h2 h
 injection h with h3 _
 injection h1 with h1
 injection h2 with h2
 injection h3 with h3
 exact Prod.ext h1 (Prod.ext h2 (je Zp8 h3))
theorem Zp4(a b:I3)(h:itT a=itT b):a=b:=by
 injection h with h
 injection h with h1 h
 injection h with h2 _
 injection h2 with h2
 exact Prod.ext (rQ a.1 b.1 h1) h2
theorem ve : ∀ {n : Nat} {t : T}, PlT n t->PlT (n+1) t
  | 0, _, h=>.inl h
  | n + 1, t, h => by
    rcases h with h|⟨ts,e,hp⟩
    . exact .inl h
    . exact .inr ⟨ts, e, fun u hu=>ve (hp u hu)⟩
theorem jj{n m:Nat}{t:T}(h:PlT n t)(l:n<=m):PlT m t:=by
 induction l with
 | refl=>exact h
 | step _ ih=>exact ve ih
def IsMany(fs:List SF)(m:Int):Prop:=0<=m/\(∀ t∈fs,∀ g∈t.2.2,∀ p∈g.2,p.2<m)/\(m=0\/∃ t∈fs,∃ g∈t.2.2,∃ p∈g.2,p.2+1=m)
theorem IsMany.one{fs:List SF}{m m':Int}(h:IsMany fs m)(h':IsMany fs m'):m=m':=by
 have key:∀ {m m':Int},IsMany fs m->IsMany fs m'->m<=m':=fun {m m'} h h'=>by
  rcases h.2.2 with e|⟨t,ht,g,hg,p,hp,e⟩
  .have:=h'.1;lia
  .have:=h'.2.1 t ht g hg p hp;lia
 exact Int.le_antisymm (key h h') (key h' h)
noncomputable abbrev pnL(lane:List StL):List (Nat×List SF):=lane.map fun d=>(d.n,d.fr)
structure KyA(n:Nat)(fr:List SF)(s:Str):Prop where
 ne:fr≠[]
 m:IsMany fr n
 s:s=shT (.lst (fr.map sfT))
 p:PlT 8 (.lst (fr.map sfT))
structure KyB(Q:List Df)(n:Nat)(fr:List SF)(s:Str)(l:List SF)(its:List I3)(lay:List L3i):Prop where
 s:s=plS (plcs l)++shT (.lst (its.map itT))
 p1:PlT 8 (.lst ((plcs l).map plT))
 p2:PlT 8 (.lst (its.map itT))
 ld:Laid l its lay fr
 n:n=lay.length
 ok:∃ n' B',∀ t∈l,SfOk Q n' B' t
 ly:LayOk l lay
def KyS(Q:List Df)(P:List (Nat×List SF))(e:Key×T):Prop:=∃ (s:Str) (k:Nat) (lay:List L3i) (n:Nat) (fr:List SF),e=(.inr s,.tup [.int k,.lst (lay.map lyT)])/\P[k]?=some (n,fr)/\((lay=[]/\KyA n fr s)\/∃ l its,KyB Q n fr s l its lay)
theorem KyS.up{Q:List Df}{P P':List (Nat×List SF)}{e:Key×T}(h:KyS Q P e):KyS Q (P++P') e:=by
 obtain⟨s,k,lay,n,fr,h1,h2,h3⟩:=h;exact⟨s,k,lay,n,fr,h1,by rw[cm (aX.mp h2).1];exact h2,h3⟩
structure LnS(Q:List Df)(lane:List StL)(kvs:List (Key×T)):Prop where
 st:∀ d∈lane,PpK Q d.n d.fr/\PlD 8 d.dd
 ky:∀ e∈kvs,KyS Q (pnL lane) e
 kl:kvs.length<=lane.length
 ch:∀ d∈lane,Chn Q (plcF d.fr)
theorem LnS.snoc{Q:List Df}{lane:List StL}{kvs:List (Key×T)}(h:LnS Q lane kvs){d:StL}(h1:PpK Q d.n d.fr)(h2:PlD 8 d.dd)(h4:Chn Q (plcF d.fr)){s:Str}{lay:List L3i}(hs:getA kvs (.inr s:Key)=none)(h3:(lay=[]/\KyA d.n d.fr s)\/∃ l its,KyB Q d.n d.fr s l its lay):LnS Q (lane++[d]) (putA kvs (.inr s:Key) (.tup [.int lane.length,.lst (lay.map lyT)])):=by
 have ll:(lane++[d]).length=lane.length+1:=by rw[aH];rfl
 have lp:pnL (lane++[d])=pnL lane++[(d.n,d.fr)]:=aW;rw[sT hs];refine⟨fun e he=>?_,fun e he=>?_,by rw[aH,ll];have:=h.kl;simp;lia,fun e he=>(aS.mp he).elim (h.ch e) fun he=>by rw[aM.mp he];exact h4⟩
 .rcases aS.mp he with he|he
  .exact h.st e he
  .rw[aM.mp he];exact⟨h1,h2⟩
 .rw[lp];rcases aS.mp he with he|he
  .exact (h.ky e he).up
  .rw[aM.mp he];refine⟨s,lane.length,lay,d.n,d.fr,rfl,?_,h3⟩;have:(pnL lane).length=lane.length:=af _;rw[<-this];exact cq
theorem LnS.at{Q:List Df}{lane:List StL}{kvs:List (Key×T)}(h:LnS Q lane kvs){s:Str}{t:T}(e:getA kvs (.inr s:Key)=some t):∃ (k:Nat) (lay:List L3i) (n:Nat) (fr:List SF),t=.tup [.int k,.lst (lay.map lyT)]/\(pnL lane)[k]?=some (n,fr)/\((lay=[]/\KyA n fr s)\/∃ l its,KyB Q n fr s l its lay):=by
 obtain⟨s',k,lay,n,fr,e1,e2,e3⟩:=h.ky _ (kj e);injection e1 with a1 a2
 injection a1 with a1
 subst a1;exact⟨k,lay,n,fr,a2,e2,e3⟩
theorem mG{ts:List T}{x:List Nat}:fh (cs (shT (.lst ts))++x):=by
 rw[gY];exact iO (by lia)
theorem key_ab{n n':Nat}{fr fr':List SF}{s:Str}{Q:List Df}{l:List SF}{its:List I3}{lay:List L3i}(a:KyA n fr s)(b:KyB Q n' fr' s l its lay):False:=by
 have e:=congrArg cs (a.s.symm.trans b.s);rw[dI,<- dW (cs (shT (.lst (fr.map sfT))))] at e;have e2:cs (shT (.lst (fr.map sfT)))++[]=cs (shT (.lst ((plcs l).map plT)))++(cs (shT (.lst (its.map itT)))++[]):=by rw[dW (cs (shT (.lst (its.map itT))))];exact e
 obtain⟨h1,_⟩:=j9 a.p b.p1 jB mG e2;injection h1 with h1
 cases hf:fr with
 | nil=>exact a.ne hf
 | cons t fr2 =>
  rw[hf] at h1;cases hl:plcs l with
  | nil=>rw[hl] at h1;cases h1
  | cons q l2 =>
   rw[hl] at h1;injection h1 with h1 _
   injection h1 with h1
   injection h1 with _ h1
   injection h1 with _ h1
   cases h1
theorem key_aa{n n':Nat}{fr fr':List SF}{s:Str}(a:KyA n fr s)(b:KyA n' fr' s):fr=fr'/\n=n':=by
 have e:=congrArg cs (a.s.symm.trans b.s);rw[<-dW (cs (shT (.lst (fr.map sfT)))),<- dW (cs (shT (.lst (fr'.map sfT))))] at e;obtain⟨h1,_⟩:=j9 a.p b.p jB jB e;injection h1 with h1
 have h1:=je Zpa h1;subst h1;exact⟨rfl,by have:=a.m.one b.m;lia⟩
theorem key_bb{Q Q':List Df}{n n':Nat}{fr fr':List SF}{s:Str}{l l':List SF}{its its':List I3}{lay lay':List L3i}(a:KyB Q n fr s l its lay)(s':s=plS (plcs l')++shT (.lst (its'.map itT)))(p1:PlT 8 (.lst ((plcs l').map plT)))(p2:PlT 8 (.lst (its'.map itT))):plcs l=plcs l'/\its=its':=by
 have e:=congrArg cs (a.s.symm.trans s');rw[dI,dI,<- dW (cs (shT (.lst (its.map itT)))),<- dW (cs (shT (.lst (its'.map itT))))] at e;obtain⟨h1,h2⟩:=j9 a.p1 p1 mG mG e;obtain⟨h3,_⟩:=j9 a.p2 p2 jB jB h2;injection h1 with h1
 injection h3 with h3
 exact⟨je rQ h1,je Zp4 h3⟩
structure FmS(S:List Key->Fm->Prop)(N:Nat)(frm:List (List Key×T))(m:Nat):Prop where
 len:frm.length<=m
 ok:∀ key t,getA frm key=some t->∃ fm,t=fmT fm/\Fo N (10^60) fm/\Cano fm/\S key fm
theorem FmS.nil{S:List Key->Fm->Prop}{N:Nat}:FmS S N [] 0:=⟨aE _,fun key t e=>by cases e⟩
theorem FmS.put{S:List Key->Fm->Prop}{N m:Nat}{frm:List (List Key×T)}(h:FmS S N frm m){fm:Fm}(h1:Fo N (10^60) fm)(h2:Cano fm){ks:List Key}(h3:S ks fm):FmS S N (putA frm ks (fmT fm)) (m+1):=⟨bh Znm (by have:=h.len;lia),fun key t e=>by
 rw[kJ] at e;split at e
 .rename_i hk;cases e;exact⟨fm,rfl,h1,h2,hk▸h3⟩
 .exact h.ok key t e⟩
def SrcF(kvs:List (List Key×T))(lay:List L3i)(key:List Key)(g:Fm):Prop:=∃ i j:Int,key=[.inl i,.inl j]/\((∃ c,(([.inl i,.inl j]:List Key),T.int c)∈kvs/\g=(c,[]))\/∃ (u:Nat) (c:Int),lay[u]?=some (i,j,c)/\g=(c,[(1,(u:Int))]))
structure LaidK(l:List SF)(kvs:List (List Key×T))(lay:List L3i)(fr:List SF):Prop where
 len:fr.length=l.length
 bx:∀ (i:Nat) t s,fr[i]?=some t->l[i]?=some s->t.1=s.1/\t.2.1=s.2.1/\t.2.2.length=s.2.2.length/\∀ (j:Nat) g,t.2.2[j]?=some g->SrcF kvs lay [.inl (i:Int),.inl (j:Int)] g
theorem LaidK.laid{l fr:List SF}{kvs:List (List Key×T)}{lay:List L3i}{ps its:List I3}(h:LaidK l kvs lay fr)(e:kvs=ps.map fun p:I3=>(([.inl p.1.1,.inl p.1.2]:List Key),T.int p.2))(pm:its.Perm ps):Laid l its lay fr:=by
 have at_:∀ (i:Nat) (hi:i<fr.length),∃ t s,fr[i]?=some t/\l[i]?=some s:=fun i hi=>⟨_,_,ay hi,ay (by rw[<-h.len];exact hi)⟩;refine⟨?_,fun i s t e1 e2=>(h.bx i t s e2 e1).2.2.1,fun i j t g e1 e2=>?_⟩
 .refine i4 fun i=>?_;rw[ah,ah];by_cases hi:i < fr.length
  .obtain ⟨t,s,e1,e2⟩:=at_ i hi;obtain⟨h1,h2,_⟩:=h.bx i t s e1 e2;rw[e1,e2,fR,fR,h1,h2]
  .rw[eN (by lia),eN (by rw[<-h.len];lia)]
 .obtain ⟨t',s,e3,e4⟩:=at_ i (aX.mp e1).1;rw[e1] at e3;cases e3;obtain ⟨i',j',ek,hc⟩:=(h.bx i t s e1 e4).2.2.2 j g e2;injection ek with k1 k2
  injection k2 with k2 _
  injection k1 with k1
  injection k2 with k2
  subst k1 k2;rcases hc with ⟨c,hm,rfl⟩|h
  .refine .inl ⟨c,?_,rfl⟩;rw[e] at hm;obtain ⟨p,hp,ep⟩:=aT.mp hm;injection ep with p1 p2
   injection p1 with p1 p3
   injection p3 with p3 _
   injection p1 with p1
   injection p3 with p3
   injection p2 with p2
   have:p=(((i:Int),(j:Int)),c):=Prod.ext (Prod.ext p1 p3) p2;rw[<-this];exact pm.mem_iff.mpr hp
  .exact .inr h
theorem Zp2{n:Nat}{fr l:List SF}{its:List I3}{s:Str}(a:KyA n fr s)(e0:s=plS (plcs l)++shT (.lst (its.map itT)))(p1:PlT 8 (.lst ((plcs l).map plT))):False:=by
 have e:=congrArg cs (a.s.symm.trans e0);rw[dI,<- dW (cs (shT (.lst (fr.map sfT))))] at e;have e2:cs (shT (.lst (fr.map sfT)))++[]=cs (shT (.lst ((plcs l).map plT)))++(cs (shT (.lst (its.map itT)))++[]):=by rw[dW (cs (shT (.lst (its.map itT))))];exact e
 obtain⟨h1,_⟩:=j9 a.p p1 jB mG e2;injection h1 with h1
 cases hf:fr with
 | nil=>exact a.ne hf
 | cons t fr2 =>
  rw[hf] at h1;cases hl:plcs l with
  | nil=>rw[hl] at h1;cases h1
  | cons q l2 =>
   rw[hl] at h1;injection h1 with h1 _
   injection h1 with h1
   injection h1 with _ h1
   injection h1 with _ h1
   cases h1
theorem sP{Q:List Df}{l m:List SF}{n n' B B':Nat}(h1:∀ t∈l,SfOk Q n B t)(h2:∀ t∈m,SfOk Q n' B' t)(e:plcs l=plcs m)(i:Nat)(s t:SF)(e1:l[i]?=some s)(e2:m[i]?=some t):t.2.2.length=s.2.2.length:=by
 have a1:(plcs l)[i]?=some (s.1,s.2.1):=by rw[ah,e1];rfl
 have a2:(plcs m)[i]?=some (t.1,t.2.1):=by rw[ah,e2];rfl
 rw[e,a2] at a1;injection a1 with a1
 injection a1 with a1 _
 obtain⟨d,r,_,b2,_,_,b5⟩:=(h1 s (aD e1)).ex;obtain⟨d',r',_,c2,_,_,c5⟩:=(h2 t (aD e2)).ex;rw[a1,b2] at c2;cases c2;lia
def KnI(fs:List SF)(i j c:Int):Prop:=∃ s,fs[i.toNat]?=some s/\s.2.2[j.toNat]?=some (c,[])
theorem Zmi{l:List SF}{M:Nat}(cn:bO l)(hp:∀ t∈l,∀ g∈t.2.2,∀ p∈g.2,0<=p.2/\p.2<M):l.map (bE (aI M))=l:=by
 have key:∀ t∈l,bE (aI M) t=t:=fun t ht=>by
  refine Prod.ext rfl (Prod.ext rfl ?_);show t.2.2.map (fun f=>bG f (aI M))=t.2.2;have:∀ g∈t.2.2,bG g (aI M)=g:=fun g hg=>xG (cn t ht g hg) (fun p hq=>(hp t ht g hg p hq).1) (kO M) fun p hq=>by
   obtain⟨h0,h1⟩:=hp t ht g hg p hq;unfold nthF aI;rw[cA,ah,lE (by lia)];show ofW ((p.2.toNat:Nat):Int)=ofW p.2;rw[sI h0]
  conv=>rhs;rw[<-map_id t.2.2]
  exact fS this
 conv=>rhs;rw[<-map_id l]
 exact fS key
def StaF(own:List Fm)(g:Fm):Prop:=∀ p∈g.2,nthF own p.2=ofW p.2
def Sta(own:List Fm)(l:List SF):Prop:=∀ t∈l,∀ g∈t.2.2,StaF own g
theorem px{own:List Fm}{c:Int}:StaF own (c,[]):=fun p hp=>nomatch hp
theorem wA{own:List Fm}{f g:Fm}{n:Int}(hf:StaF own f)(hg:StaF own g):StaF own (bU f g n):=fun p hp=>by
 rcases kR (oR hp) with h|h
 .rcases kR h with h|h
  .cases h
  .obtain ⟨q,hq,e⟩:=aT.mp h;rw[<-e];exact hf q hq
 .obtain ⟨q,hq,e⟩:=aT.mp h;rw[<-e];exact hg q hq
theorem ZjN{own:List Fm}{f:Fm}{n:Int}(hf:StaF own f):StaF own (ii f n):=fun p hp=>by
 rcases kR (oR hp) with h|h
 .cases h
 .obtain ⟨q,hq,e⟩:=aT.mp h;rw[<-e];exact hf q hq
theorem g9{own:List Fm}{s:SF}{q:Int}(h:∀ g∈s.2.2,StaF own g):StaF own (gtF s q):=by
 unfold gtF;rw[cA];cases e:s.2.2[q.toNat]? with
 | none=>exact px
 | some g=>exact h g (aD e)
theorem rf{own:List Fm}{a b:List SF}(h1:Sta own a)(h2:Sta own b):Sta own (a++b):=fun t ht=>by
 rcases aS.mp ht with ht|ht
 .exact h1 t ht
 .exact h2 t ht
theorem sY{own:List Fm}{s:SF}(h:∀ g∈s.2.2,StaF own g):Sta own [s]:=fun t ht=>by rw[aM.mp ht];exact h
theorem qv{α:Type}{l:List α}{i:Nat}{x y:α}(h:y∈l.set i x):y∈l\/y=x:=gP h
theorem ZjO{own:List Fm}{Q:List Df}{f:List SF}{s:SF}{l:List SF}(h:Sta own (f++[s]))(e:cF Q f s=some l):Sta own l:=by
 have hf:Sta own f:=fun t ht=>h t (dJ _ ht);have hs:∀ g∈s.2.2,StaF own g:=h s (by simp);have wb:∀ {f:List SF} {s:SF} {p:Int} {g:Fm},Sta own f->(∀ g∈s.2.2,StaF own g)->StaF own g->Sta own (fE f s p g):=fun {f s p g} h1 h2 h3=>rf h1 (sY fun g' hg'=>by
  rcases qv hg' with hg'|rfl
  .exact h2 g' hg'
  .exact h3)
 have ar:∀ {t:Int},Sta own (cJ f s t):=fun {t}=>rf hf (sY hs);unfold cF at e;cases hr:cr Q s.1 s.2.1 with
 | none=>rw[hr] at e;cases e
 | some r =>
  rw[hr] at e;cases r with
  | put a b=>cases e;exact wb hf hs px
  | copy a b=>cases e;exact wb hf hs (g9 hs)
  | plus a b c=>cases e;exact wb hf hs (wA (g9 hs) (g9 hs))
  | less a b c=>cases e;exact wb hf hs (wA (g9 hs) (g9 hs))
  | times a b c=>cases e;exact wb hf hs (ZjN (g9 hs))
  | take a=>cases e
  | tell a=>cases e
  | jump t=>cases e;exact ar
  | zero p t =>
   dsimp only [bK] at e;split at e
   .cases e;exact ar
   .cases e
  | below p t =>
   dsimp only [bK] at e;split at e
   .cases e;exact ar
   .cases e
  | call p g qs =>
   dsimp only [bK] at e;split at e
   .cases e;refine rf hf fun t ht=>?_;rcases aJ.mp ht with rfl|ht
    .exact hs
    .rw[aM.mp ht];intro g' hg';unfold eJ at hg';rcases aS.mp hg' with hg'|hg'
     .obtain ⟨q,_,rfl⟩:=aT.mp hg';exact g9 hs
     .rw[sw hg'];exact px
   .cases e
  | back p =>
   dsimp only [bK] at e;cases hc:f.getLast? with
   | none=>rw[hc] at e;cases e
   | some c =>
    rw[hc] at e;cases e;obtain⟨f',rfl⟩:=gy.mp hc;rw[fU];exact wb (fun t ht=>hf t (dJ _ ht)) (hf c (by simp)) (g9 hs)
theorem pS{own:List Fm}{l:List SF}(h:Sta own l)(cn:bO l)(ps:∀ t∈l,∀ g∈t.2.2,PsW g)(ho:∀ g∈own,PsW g):l.map (bE own)=l:=by
 have key:∀ t∈l,bE own t=t:=fun t ht=>by
  refine Prod.ext rfl (Prod.ext rfl ?_);show t.2.2.map (fun f=>bG f own)=t.2.2
  conv=>rhs;rw[<-map_id t.2.2]
  exact fS fun g hg=>xG (cn t ht g hg) (ps t ht g hg) ho (h t ht g hg)
 conv=>rhs;rw[<-map_id l]
 exact fS key
theorem qz{Q : List Df} : ∀ {n : Nat} {l l1 l2 : List SF}, cB Q n l=some l1->bZ Q l1=some l2->cB Q (n+1) l=some l2
  | 0, l, l1, l2, h1, h2=>by cases h1; rw[cB, h2]; rfl
  | n + 1, l, l1, l2, h1, h2 => by
    rw[cB] at h1;cases e:bZ Q l with
    | none=>rw[e] at h1; cases h1
    | some l3 =>
      rw[e] at h1;rw[cB,e];exact qz (n:=n) h1 h2
def EdS(Q:List Df)(P:List (Nat×List SF))(own:List Fm)(least:Nat)(start:List SF)(e:T):Prop:=∃ (rows:Nat) (moves:List Fm) (k n:Nat) (fr:List SF),e=.tup [.int rows,.tup (moves.map fmT),.int k]/\least<=rows/\rows<=200/\P[k]?=some (n,fr)/\moves.length=n/\(∀ g∈moves,Cano g/\Fo own.length (10^800) g)/\cB Q rows start=some (fr.map (bE (moves.map fun g=>bG g own)))
theorem EdS.up{Q:List Df}{P P':List (Nat×List SF)}{own:List Fm}{least:Nat}{start:List SF}{e:T}(h:EdS Q P own least start e):EdS Q (P++P') own least start e:=by
 obtain⟨rows,moves,k,n,fr,h1,h2,h3,h4,h5⟩:=h;exact⟨rows,moves,k,n,fr,h1,h2,h3,by rw[cm (aX.mp h4).1];exact h4,h5⟩
theorem uQ{n:Nat}{w:Int}(h0:0<=w)(h1:w<n):nthF (aI n) w=ofW w:=by
 unfold nthF aI;rw[cA,ah,lE (by lia)];show ofW ((w.toNat:Nat):Int)=ofW w;rw[sI h0]
theorem qT{Q:List Df}{n B:Nat}{f:List SF}{s:SF}(h:FrsOk Q n B f s):Sta (aI n) (f++[s]):=fun t ht g hg p hp=>uQ (((h.all t ht).fm g hg).w p hp).1 (((h.all t ht).fm g hg).w p hp).2
noncomputable def cR(n w:Nat)(c:Int):List Fm:=(aI n).set w (c,[])
theorem ug(n w:Nat)(c:Int):(cR n w c).length=n:=by unfold cR aI;rw[cQ,af,eE]
theorem Zl9{n w:Nat}{c:Int}:∀ g∈cR n w c,PsW g:=fun g hg=>by
 rcases qv hg with hg|rfl
 .exact kO n g hg
 .exact fun p hp=>nomatch hp
theorem uF{n w:Nat}{c v:Int}(h0:0<=v)(h1:v<n):nthF (cR n w c) v=if v=(w:Int) then (c,[]) else ofW v:=by
 have wl:(aI n).length=n:=by unfold aI;rw[af,eE]
 unfold cR;by_cases e:v=(w:Int)
 .rw[ak e];unfold nthF;rw[e,bB,cA,io (by lia)];rfl
 .rw[ao e,<- uQ h0 h1];unfold nthF;rw[cA,jD (by lia),<- cA]
theorem Zm0{Q:List Df}{n B w:Nat}{c:Int}{f:List SF}{s:SF}(h:FrsOk Q n B f s):Sta (cR n w c) ((f++[s]).map (bE (cR n w c))):=fun t ht g hg p hp=>by
 obtain⟨t',ht',rfl⟩:=aT.mp ht;obtain⟨g',hg',rfl⟩:=aT.mp hg;obtain⟨q,hq,r,hr,e⟩:=wc hp;obtain⟨h0,h1⟩:=((h.all t' ht').fm g' hg').w q hq;rw[uF h0 h1] at hr;split at hr
 .cases hr
 .rename_i hne;rw[aM.mp hr] at e;have e:q.2=p.2:=e;rw[<-e,uF h0 h1,ao hne]
theorem yi{own:List Fm}{s:SF}{q:Int}(h:(gtF s q).2=[]):(gtF (bE own s) q).2=[]:=by
 unfold gtF at h ⊢;rw[cA] at h ⊢;show (((s.2.2.map fun f=>bG f own)[q.toNat]?).getD (0,[])).2=[];rw[ah];cases e:s.2.2[q.toNat]? with
 | none=>rfl
 | some g =>
  rw[e] at h;have h:g.2=[]:=h;show (bG g own).2=[];rw[Zg5 h];exact h
theorem Zh4{Q:List Df}{own:List Fm}{f:List SF}{s:SF}(h:(cF Q f s).isSome=true):(cF Q (f.map (bE own)) (bE own s)).isSome=true:=by
 unfold cF at h ⊢;show (match cr Q s.1 s.2.1 with|none=>none|some r=>_:Option (List SF)).isSome=true;cases hr:cr Q s.1 s.2.1 with
 | none=>rw[hr] at h;cases h
 | some r =>
  rw[hr] at h;cases r with
  | zero p t =>
   dsimp only [bK] at h ⊢;split at h
   .rename_i e;rw[ak (yi e)];rfl
   .cases h
  | below p t =>
   dsimp only [bK] at h ⊢;split at h
   .rename_i e;rw[ak (yi e)];rfl
   .cases h
  | call p g qs =>
   dsimp only [bK] at h ⊢;split at h
   .rename_i e;rw[ak (by rw[af];exact e)];rfl
   .cases h
  | back p =>
   dsimp only [bK] at h ⊢;rw[getLast?_map];cases e:f.getLast? with
   | none=>rw[e] at h;cases h
   | some c=>rfl
  | take p=>cases h
  | tell p=>cases h
  | _=>rfl
inductive DdS(Q:List Df)(P:List (Nat×List SF))(n:Nat)(f:List SF)(s:SF):T->Prop
 | leave:DdS Q P n f s (.tup [.str "leave"])
 | go {e:T} (h:EdS Q P (aI n) 1 (f++[s]) e):DdS Q P n f s (.tup [.str "go",e])
 | hold {w:Nat} {c:Int} {e:T} (hw:w<n) (hc:c.natAbs<=10^60) (h:EdS Q P (cR n w c) 1 ((f++[s]).map (bE (cR n w c))) e):DdS Q P n f s (.tup [.str "hold",.int w,.int c,e])
 | test {p t:Int} {a b:T} (hr:cr Q s.1 s.2.1=some (.zero p t)\/cr Q s.1 s.2.1=some (.below p t)) (h1:EdS Q P (aI n) 0 (cJ f s t) a) (h2:EdS Q P (aI n) 0 (cJ f s (s.2.1+1)) b):DdS Q P n f s (.tup [.str "test",a,b])
 | tell {p:Int} {e:T} (hr:cr Q s.1 s.2.1=some (.tell p)) (h:EdS Q P (aI n) 0 (cJ f s (s.2.1+1)) e):DdS Q P n f s (.tup [.str "tell",e])
 | take {p:Int} {e:T} (hr:cr Q s.1 s.2.1=some (.take p)) (h:EdS Q P (aI (n+1)) 0 (fE f s p (ofW n)) e):DdS Q P n f s (.tup [.str "take",e])
theorem DdS.up{Q:List Df}{P P':List (Nat×List SF)}{n:Nat}{f:List SF}{s:SF}{dd:T}(h:DdS Q P n f s dd):DdS Q (P++P') n f s dd:=by
 cases h with
 | leave=>exact .leave
 | go h=>exact .go h.up
 | hold hw hc h=>exact .hold hw hc h.up
 | test hr h1 h2=>exact .test hr h1.up h2.up
 | tell hr h=>exact .tell hr h.up
 | take hr h=>exact .take hr h.up
theorem ye{lane:List StL}{i:Nat}{d:StL}(e:lane[i]?=some d){dd:T}:pnL (lane.set i ⟨d.n,d.fr,dd⟩)=pnL lane:=by
 obtain⟨hi,e⟩:=aX.mp e;unfold pnL;rw[map_set];have hi':i<(lane.map fun d=>(d.n,d.fr)).length:=by rw[af];exact hi
 have:((d.n,d.fr):Nat×List SF)=(lane.map fun d=>(d.n,d.fr))[i]:=by rw[getElem_map,e]
 show (lane.map fun d=>(d.n,d.fr)).set i (d.n,d.fr)=_;rw[this];exact set_getElem_self hi'
theorem LnS.set{Q:List Df}{lane:List StL}{kvs:List (Key×T)}(h:LnS Q lane kvs){i:Nat}{d:StL}(e:lane[i]?=some d){dd:T}(hd:PlD 8 dd):LnS Q (lane.set i ⟨d.n,d.fr,dd⟩) kvs:=by
 refine⟨fun x hx=>?_,by rw[ye e];exact h.ky,by rw[cQ];exact h.kl,fun x hx=>(gP hx).elim (h.ch x) fun hx=>by rw[hx];exact h.ch d (aD e)⟩;rcases gP hx with hx|rfl
 .exact h.st x hx
 .exact ⟨(h.st d (aD e)).1,hd⟩
def DdL(Q:List Df)(lane:List StL):Prop:=∀ d∈lane,∀ f s,d.fr=f++[s]->DdS Q (pnL lane) d.n f s d.dd
theorem DdL.app{Q:List Df}{lane ex:List StL}(h:DdL Q lane)(he:∀ d∈ex,d.dd=.tup [.str "leave"]):DdL Q (lane++ex):=fun d hd f s e=>by
 rw[show pnL (lane++ex)=pnL lane++pnL ex from aW];rcases aS.mp hd with hd|hd
 .exact (h d hd f s e).up
 .rw[he d hd];exact .leave
theorem DdL.set{Q:List Df}{lane:List StL}(h:DdL Q lane){i:Nat}{d:StL}(e:lane[i]?=some d){dd:T}(hd:∀ f s,d.fr=f++[s]->DdS Q (pnL lane) d.n f s dd):DdL Q (lane.set i ⟨d.n,d.fr,dd⟩):=fun x hx f s ex=>by
 rw[ye e];rcases gP hx with hx|rfl
 .exact h x hx f s ex
 .exact hd f s ex
end L2
end
section
namespace L3
open PySem PyProof.Rows
section
variable[KOrd]{P:Program}{W:World}{A:Around}{E:Value->Shared->Prop}{z:Shared}[KLt P W A E z]{a₀:Array Keyed}
theorem ZgP{p:Array (Nat×Nat×Nat)}{st:SortSt}{nrem:Nat}{Q:Option Nat->SortSt->Prop}(h0:IntKeys a₀)(hn:nrem<=a₀.size)(h1:1<=nrem)(hB:Bas a₀ p st)(hs:SegS (arrOf st) 0 nrem)(h:Q (some nrem) st):wpS (model P W) A E z (countRun' 0 nrem) Q st:=by
 refine eO (ZmU (lo:=0) (aE 1) h1 (fun i j q1 q2 q3=>by
  have:i=j:=by lia
  subst this;exact ls _) ?_ fun n hn1 hn2 hsn hor=>?_)
 .intro x k R k1 k2 y1 y2;dsimp only;refine eO (ZoN hB h0 (by lia) (by lia) ?_);dsimp only;by_cases hl:K (arrOf st) (0+k) < K (arrOf st) (0+k - 1)
  .rw[aY hl,ak rfl];exact gM (y1 hl)
  .rw[bo hl,ao (by decide)];exact gM (y2 hl)
 dsimp only;have hnn:n=nrem:=hor.elim id fun e=>by
  by_cases z:n=nrem
  .exact z
  .exact absurd (hs (0+n-1) (0+n) (by lia) (by lia) (by lia)) (by lia)
 rw[ak (by simpa using hnn)];exact gM (hnn▸h)
theorem wpS_sortAsc{st:SortSt}{Q:Unit->SortSt->Prop}(h0:IntKeys a₀)(hB:Bas a₀ #[] st)(h2:2<=a₀.size)(h64:a₀.size<64)(hs:SegS (arrOf st) 0 a₀.size)
  (h:∀ v,arrOf v=arrOf st->failedOf v=none->Q () v):wpS (model P W) A E z sortRuns' Q st:=by
 rw[sortRuns'_eq];refine eO (wpS_get ?_);dsimp only;have hmr:minRun' a₀.size a₀.size 0=a₀.size:=by
  obtain⟨f,hf⟩:∃ f,a₀.size=f+1:=⟨a₀.size-1,by lia⟩;have:minRun' (f+1) a₀.size 0=a₀.size:=by rw[minRun'_succ,ak h64];rfl
  rwa [<-hf] at this
 simp only[hB.perm.size_eq,hmr];refine eO (wpS_mono (wpS_forRange
  (I:=fun x c v=>(x=0/\c=(none,0)/\v=st)\/(1<=x/\c=(none,a₀.size)/\arrOf v=arrOf st/\failedOf v=none/\(pendingOf v).size<=1))
  (Q:=fun c v=>c=(none,a₀.size)/\arrOf v=arrOf st/\failedOf v=none/\(pendingOf v).size<=1) ?step ?fin (.inl ⟨rfl,rfl,rfl⟩)) ?post)
 case fin =>
  rintro c v (⟨hx,_,_⟩|⟨_,hc,hD⟩)
  .lia
  .exact ⟨hc,hD⟩
 case step =>
  rintro x c v _ hx (⟨rfl,rfl,rfl⟩|⟨hx1,rfl,hD⟩)
  .dsimp only;rw[ao (by lia)];simp only[nK,Nat.min_self,Nat.zero_add];refine eO (ZgP h0 (by lia) (by lia) hB hs ?_);dsimp only;rw[ao (gq _)];refine eO (wpS_get ?_);have hb:(pendingOf v).back?=none:=by rw[hB.pend];rfl
   rw[hb];dsimp only;exact eO (wpS_modify (gM (.inr ⟨by lia,rfl,rfl,hB.failed,by show ((pendingOf v).push _).size<=1;rw[hB.pend];exact aE 1⟩)))
  .dsimp only;rw[ak (aE _)];exact gM ⟨rfl,hD⟩
 case post =>
  rintro c v ⟨rfl,ha,hf,hp⟩;dsimp only;refine eO (wpS_mono (wpS_forRange (I:=fun _ c v'=>v'=v/\c=(none,())) (Q:=fun c v'=>v'=v/\c=(none,())) ?_ (fun _ _ hh=>hh) ⟨rfl,rfl⟩) ?_)
  .rintro x c v' _ _ ⟨rfl,rfl⟩;refine eO (wpS_get ?_);rw[ak hp];exact gM ⟨rfl,rfl⟩
  .rintro c v' ⟨rfl,rfl⟩;exact gM (h _ ha hf)
end
end L3
end
section
namespace L2
open PySem PySem.Spec PyProof.Rows
section
variable{P:Program}{W:World}{A:Around}{E:Value->Shared->Prop}{z:Shared}
theorem Zm3{a:Addr}{us:List Value}{k:Nat}{F:PySem.Fin->Shared->Prop}(O:L3.KOrd)(ho:z.heap.get? a=some (seqObj "list" us.toArray k))(h64:us.length<64)
  (hkind:2<=us.length->∀ {z':Shared} {Q:SortKind->Shared->Prop},(∀ b o,z.heap.get? b=some o->o.cls=.type "tuple"->z'.heap.get? b=some o)->Q O.kd z'->wpAny (model P W) A (keyKind' us.toArray) Q E z')
  (hlt:∀ {z':Shared},(∀ b o,z.heap.get? b=some o->o.cls=.type "tuple"->z'.heap.get? b=some o)->@L3.KLt O P W A E z') (hg:∀ v∈us,O.good (v,v))
  (hr:us.Pairwise fun v w=>O.kv (v,v)<=O.kv (w,w))
  (h:F (.done (.ret .none)) { z with heap:=sortedHeap z.heap a us us.toArray }) :
  wpAny (model P W) A (Builtin.«list.sort» ⟨[.ref a],[]⟩) F E z:=by
 have hz:us.length<=sizeLine:=bh (gt h64) (by decide);have hlt0:a<z.heap.objs.size:=ba ho;have hus:us.toArray.size=us.length:=by simp
 obtain⟨ep,hoE⟩:∃ ep,(z.heap.update a (Obj.mapSeq fun _=>#[])).get? a=some (seqObj "list" #[] ep):=⟨_,get?_update_seq ho fun _=>#[]⟩;have hoF:(((z.heap.update a (Obj.mapSeq fun _=>#[])).push (seqObj "tuple" us.toArray 0)).push (seqObj "list" #[] 0)).get? a=some (seqObj "list" #[] ep):=be _ (be _ hoE);have keep:∀ b o,z.heap.get? b=some o->o.cls=.type "tuple"->(((z.heap.update a (Obj.mapSeq fun _=>#[])).push (seqObj "tuple" us.toArray 0)).push (seqObj "list" #[] 0)).get? b=some o:=fun b o e ec=>by
  have hb:b≠a:=fun zz=>by
   rw[zz,ho] at e;cases e;injection ec with ec
   exact absurd ec (by decide)
  refine be _ (be _ ?_);rw[Heap.get?_update_ne _ _ _ _ hb];exact e
 have em:(pairsOf us).map (·.2)=us.toArray:=by
  refine Array.ext' ?_;rw[Array.toList_map,pairsOf_toList,map_snd_zip (aE _)]
 have seg:@L3.SegS O (pairsOf us) 0 (pairsOf us).size:=fun i j _ hij hj=>by
  rw[Nat.zero_add] at hj;rw[i6] at hj;have gi:∀ k (hk:k<us.length),@L3.K O (pairsOf us) k=O.kv (us[k],us[k]):=fun k hk=>by
   have e:(pairsOf us)[k]?=some (us[k],us[k]):=by
    rw[<-lh,pairsOf_toList];exact lF.mpr ⟨ay _,ay _⟩
   unfold L3.K;rw[e];rfl
  rw[gi i (by lia),gi j hj];rcases Nat.lt_or_eq_of_le hij with e|e
  .exact pairwise_iff_getElem.mp hr i j _ _ e
  .subst e;exact ls _
 have ends:∀ v:SortSt,arrOf v=pairsOf us->F (.done (.ret .none)) { z with heap:=sortedHeap z.heap a us ((arrOf v).map (·.2)) }:=fun v e=>by rw[e,em];exact h
 have hfit:∀ v:SortSt,arrOf v=pairsOf us->((arrOf v).map (·.2)).size<=sizeLine+1:=fun v e=>by
  rw[e,em,hus];lia
 rw[list_sort_plain];refine ab (listItems_at (o:=seqObj "list" us.toArray k) ho rfl ?_);refine ab (jN (hsz:=by rw[hus];exact hz) (hsz2:=cb _) (o:=seqObj "list" us.toArray k) ho rfl ?_);refine ab (jO (o:=seqObj "list" #[] ep) hoE rfl ?_);refine ab (nu ?_ (hsz:=by rw[ft,hus];exact hz));refine ab (nv ?_ (hsz:=cb _));refine eL (id ?_);dsimp only;by_cases hfew:us.toArray.size<2
 .rw[ak hfew,ak hfew];refine ab (am (id ?_));rw[StateT.run_pure];refine ab (am (id ?_));dsimp only;refine ab (jO (o:=seqObj "list" #[] ep) hoF rfl ?_);refine ab (jN (hsz:=cb _) (hsz2:=hfit (SortSt.mk' general' (us.toArray.zip us.toArray) #[] 7 none) rfl) (o:=seqObj "list" #[] ep) hoF rfl ?_);simp only[nA,de,cv];exact am (ends (SortSt.mk' general' (us.toArray.zip us.toArray) #[] 7 none) rfl)
 .rw[ao hfew,ao hfew];refine ab (hkind (by lia) keep ?_);have hg':@L3.IntKeys O (pairsOf us):=fun q hq=>by
   rw[pairsOf_toList] at hq;obtain⟨e1,e2⟩:=mem_zip_self hq;have:q=(q.1,q.1):=Prod.ext rfl e1.symm;rw[this];exact hg _ e2
  have hrun:=@L3.wpS_sortAsc O P W A E { z with heap:=((z.heap.update a (Obj.mapSeq fun _=>#[])).push (seqObj "tuple" us.toArray 0)).push (seqObj "list" #[] 0) } (hlt keep) (pairsOf us) (SortSt.mk' O.kd (us.toArray.zip us.toArray) #[] 7 none) (fun _ v=>arrOf v=pairsOf us/\failedOf v=none) hg' ⟨Array.Perm.refl _,rfl,rfl,rfl⟩ (by rw[i6];lia) (by rw[i6];exact h64) seg fun v e f=>⟨e,f⟩;refine ab (dw hrun ?_ fun _ _ q=>q);rintro⟨⟨⟩,v⟩ z' ⟨rfl,hp,hf⟩;dsimp only;refine ab (jO (o:=seqObj "list" #[] ep) hoF rfl ?_);refine ab (jN (hsz:=cb _) (hsz2:=hfit v hp) (o:=seqObj "list" #[] ep) hoF rfl ?_);rw[hf];simp only[nA,de,cv];exact am (ends v hp)
end
end L2
end
section
namespace L2
open PySem PySem.Spec PyProof.Rows PySem.Calls
def tSisA(td:TE):TE:=fun Z H Q=>td Z H fun x H1=>∃ (a:Addr) (ps:List I3),x=.ref a/\H1 a=some (.dT (ps.map kvI))/\ps.length<64/\(∀ p∈ps,BdI p/\p.1.1.natAbs<1000)/\ps.Pairwise (fun p q=>cdI p<=cdI q)/\Q (.str (shT (.lst (ps.map itT)))) H1
section
variable{X:Cx}{o:Expr}{td:TE}{apos p1 p2 p3 p4 p5:Pos}
theorem Zpy(hg:X.A.guards=some [])(hu:X.A.units+64<cLine)(hc:X.calm=true)(g1:Gl X "str")(m1:X.mg "str"=none)(g2:Gl X "sorted")(m2:X.mg "sorted"=none)(ho:PE X o td)
  (hb:attributeBase o "items" X.env (eval o X.env)=eval o X.env:=by rfl) (hl:(apos.endLine == p3.line)=true:=by rfl)
  (s2:starEach [Expr.Call (.Attribute o "items" apos) [] [] p3] X.env=[(false,eval (Expr.Call (.Attribute o "items" apos) [] [] p3) X.env)]:=by rfl)
  (s1:starEach [Expr.Call (.Name "sorted" p2) [.Call (.Attribute o "items" apos) [] [] p3] [] p4] X.env=[(false,eval (Expr.Call (.Name "sorted" p2) [.Call (.Attribute o "items" apos) [] [] p3] [] p4) X.env)]:=by rfl)
  (l1:(backTo p5 (starEach [] X.env)).any (·.1)=false:=by rfl) (l2:(backTo p4 (starEach [] X.env)).any (·.1)=false:=by rfl) :
  PE X (.Call (.Name "str" p1) [.Call (.Name "sorted" p2) [.Call (.Attribute o "items" apos) [] [] p3] [] p4] [] p5) (tSisA td):=by
 intro pins s Z H Q I h;refine np (iE I g1 m1 kw ?_);refine nh ?_ (by rw[s1];rfl) l1;rw[s1];show wpAny _ _ (spliced [(false,eval (Expr.Call (.Name "sorted" p2) [.Call (.Attribute o "items" apos) [] [] p3] [] p4) X.env)]) _ _ s;refine k7 ?_;refine Call_ (iE I g2 m2 pW ?_);refine yo ?_ (by rw[s2];rfl) l2;rw[s2];show wpAny _ _ (spliced [(false,eval (Expr.Call (.Attribute o "items" apos) [] [] p3) X.env)]) _ _ s;refine k7 ?_;refine wpAny_Call_method (T:="dict") (id:="dict.items") hb rfl hl F.plainAttrs_dict F.slot_dict_items F.type_dict_items (thn (ho pins s Z H _ I h) fun u s1 z=>?_);obtain⟨x,H1,I1,rx,a,ps,rfl,ha,hk,he,hrs,q⟩:=z;generalize hkvs:ps.map kvI=kvs at ha;have hkl:kvs.length=ps.length:=by rw[<-hkvs,af]
 obtain rfl:u=Value.ref a:=rx;obtain⟨ty,nod,hsm⟩:=qS I1 (.inr ⟨kvs,.inl ha⟩);refine⟨ty,nod,?_⟩;show wpAny _ _ (callWith p3 (.builtin "dict.items") [.ref a] [] []) _ _ _;refine method_meetsIn F.slot_dict_items F.entry_dict_items rfl (PySem.evalArgs_none ⟨rfl,ty,F.args_dict_items_1 _,_,ZlE a hsm,ty,?_⟩);obtain⟨zl,_,xs,pr,ob,es,ep,h1,h2,h3,h4,_⟩:=(show ObjOk X.prog X.w H1 s1.heap a (.dT kvs) from I1.hok a _ ha);have esz:es.size=kvs.length:=by rw[<-ft,h4,af,<- Paired.length pr]
 generalize hh2:s1.heap.push { cls:=.type "dict_items",data:=.fields #[.ref a] }=h2';have k2:∀ b o,s1.heap.get? b=some o->h2'.get? b=some o:=fun b o e=>by rw[<-hh2];exact be _ e
 have vw:h2'.IsItemsView s1.heap.objs.size a:=⟨_,by rw[<-hh2];exact bQ _ rfl,rfl,rfl⟩;refine nj ?_;refine yv (id kind_sorted) plain_sorted entry_sorted (args_sorted1 _) ?_;unfold Builtin.«sorted»;refine ab (m:=checkCount "sorted" 1 1 _) (am (id ?_));refine ab (Zj3 (s:={ s1 with heap:=h2' }) (es:=es) (ep:=ep) (I1.ok.hd hc) vw ⟨ob,k2 _ _ h1,h3⟩ (by rw[esz];exact zl) fun h3' tk as k3 hl3 got=>?_);have itemA:∀ (j:Nat) v p,(as.map Value.ref)[j]?=some v->ps[j]?=some p->IsI h3' v p:=by
  intro j v p hv hp;rw[ah] at hv;obtain⟨b,hj,rfl⟩:=aV.mp hv;obtain⟨_,e,e1,e2⟩:=got j b hj;rw[<-lh,h4,ah] at e1;obtain⟨x,ex,rfl⟩:=aV.mp e1;have ek:kvs[j]?=some (kvI p):=by rw[<-hkvs,ah,hp];rfl
  obtain⟨_,z2,z3⟩:=lT pr j ek ex;obtain⟨its,vt,o2,o3,o4,n5,o6⟩:=I1.isTup z2;obtain⟨w1,w2,rfl,⟨t,rfl⟩,⟨t',rfl⟩⟩:=vals2 vt;obtain⟨t3,e3⟩:=z3;refine⟨b,x.2.1,_,o2,0,n5,t3,t,t',rfl,e2,rfl,?_,k3 _ _ (k2 _ _ o3),o4,o6⟩;show Data.seq #[Value.ref x.2.1,x.2.2] _=_;rw[e3]
 have asp:(as.map Value.ref).length=ps.length:=by rw[af,hl3,esz,hkl]
 have hmap:(as.map Value.ref).map (iOf h3')=ps:=by
  refine i4 fun j=>?_;rw[ah];by_cases hj:j<ps.length
  .have e1:(as.map Value.ref)[j]?=some ((as.map Value.ref)[j]'(by lia)):=ay _;have e2:ps[j]?=some ps[j]:=ay hj;rw[e1,e2,fR,(itemA j _ _ e1 e2).at]
  .rw[eN (by lia),eN (by lia)];rfl
 have item:∀ v∈as.map Value.ref,∃ p,IsI h3' v p/\BdI p/\p.1.1.natAbs<1000:=by
  intro v hv;obtain⟨j,hj⟩:=fV.mp hv;have jl:j<ps.length:=by rw[<-asp];exact(aX.mp hj).1
  have e2:ps[j]?=some ps[j]:=ay jl;obtain⟨b1,b2⟩:=he _ (aD e2);exact⟨_,itemA j v _ hj e2,b1,b2⟩
 have asl:(as.map Value.ref).length=kvs.length:=by rw[af,hl3,esz]
 generalize as.map Value.ref=its at item asl hmap;have kk:∀ b o,s1.heap.get? b=some o->h3'.get? b=some o:=fun b o e=>k3 b o (k2 b o e);have sz:its.length<=sizeLine:=by rw[asl];exact zl
 refine ab (nv (id ?_) sz);have hD:(h3'.push (seqObj "list" its.toArray 0)).get? h3'.objs.size=some (seqObj "list" its.toArray 0):=bQ _ rfl;have kD:∀ b o,h3'.get? b=some o->(h3'.push (seqObj "list" its.toArray 0)).get? b=some o:=fun b o e=>be _ e;refine ab (eL (eC slot_list_sort ⟨_,hD,rfl⟩ entry_list_sort (Zm3 (z:={ s1 with heap:=h3'.push (seqObj "list" its.toArray 0),toks:=tk }) (kT h3') hD (by rw[asl,hkl];exact hk) (fun h2 z' Q' kp hq=>?_) (fun kp=>ltI3 (by first|lia|(show X.A.units+1+1+4<cLine;lia)|(show X.A.units+1+4<cLine;lia)) fun b o e ec=>kp b o (kD b o e) ec) (fun v hv=>?_) (show its.Pairwise fun v w=>cdI (iOf h3' v)<=cdI (iOf h3' w) by rw[<-hmap] at hrs;exact(pairwise_map (f:=iOf h3') (R:=fun p q=>cdI p<=cdI q)).mp hrs) ⟨_,rfl,?_⟩) (args_list_sort _)))
 .obtain ⟨fs,f1,f2,f3⟩:=t6 (M:=model X.prog X.w) (h:=z'.heap) (l:=its) fun v hv=>by
   obtain⟨p,a1,_⟩:=item v hv;exact⟨p,a1.keep fun b o e ec=>kp b o (kD b o e) ec⟩
  exact PySem.W.kat_kind (T:=.type "tuple") f1 (by lia) f3 (by decide) hq
 .obtain ⟨p,a1,a2,_⟩:=item v hv;exact⟨p,a1,a2⟩
 .refine am ⟨_,rfl,?_⟩;generalize hF:sortedHeap (h3'.push (seqObj "list" its.toArray 0)) h3'.objs.size its its.toArray=hf;have kF:∀ b o,h3'.get? b=some o->hf.get? b=some o:=fun b o e=>by
   have hlt:=ba e;rw[<-hF,sortedHeap_old (bP hlt) (by rw[size_push'];exact sf hlt)];exact kD b o e
  obtain⟨ep2,hat2⟩:=sortedHeap_at (out:=its.toArray) hD;rw[hF] at hat2;have oi:∀ v∈its,∃ p,IsI hf v p/\BdI p/\p.1.1.natAbs<1000:=fun v hv=>by
   obtain⟨p,a1,a2⟩:=item v hv;exact⟨p,a1.keep fun b o e _=>kF b o e,a2⟩
  obtain⟨bs,r1,r2,r3,r4,r5⟩:=wt its oi;have em:its.map (iOf hf)=ps:=by
   rw[<-hmap];refine fS fun v hv=>?_;obtain⟨p,a1,_⟩:=item v hv;rw[a1.at,(a1.keep fun b o e _=>kF b o e).at]
  have ed:(its.map fun v=>itD (iOf hf v))=(its.map (iOf hf)).map itD:=by rw[fA];rfl
  have ol:its.length=kvs.length:=asl;rw[ed] at r1 r2 r3 r4 r5;rw[em] at r1 r2 r3 r4 r5;have ln:=pc (PyData.shownAll (ps.map itD));have rd:Reads hf (.ref h3'.objs.size) (.list (ps.map itD)) (h3'.objs.size::bs):=.list hat2 rfl rfl r1;have sl:(PyData.list (ps.map itD)).shown.length<=100000:=by rw[PyData.shown];lia
  have es:(PyData.list (ps.map itD)).shown=shT (.lst (ps.map itT)):=by rw[PyData.shown,shT,uo]
  refine nj ?_;refine str_of_reads rd (by simpa [PyData.showable] using r2) (PyData.noDict_hsm (by simpa [PyData.hasDict] using r3)) hg (by simp only[PyData.depth];lia) (fun _ _ e=>e) (fun h' u tk' hk'=>?_) (by rw[PySem.sizeLine_eq];lia);exact⟨.str (PyData.list (ps.map itD)).shown,H1,I1.kept (t':=tk') fun b o e=>hk' b o (kF b o (kk b o e)),⟨u,rfl⟩,by rw[es];exact q⟩
end
end L2
end
section
namespace L2
open PySem PySem.Spec PyProof.Rows
section
variable{P:Program}{w:World}{K:W.Frag}{G G1 G2 G':GH}{H H1 H2 H':Hp}{a b:Addr}{Γ:Ev}{ta te td ty tv:TE}{k:T->GH->Prop}{kb:Bool->GH->Prop}{d x y z:T}{v:V}{D:EndT}{c:Ct}{o:HO}
theorem ZoS(h:We P w K td Γ G fun x G1=>∃ (a:Addr) (ps:List I3),x=.ptr a/\G1 a=some (.dt (ps.map fun p:I3=>([.inl p.1.1,.inl p.1.2],.int p.2)))/\ps.length<64/\(∀ p∈ps,BdI p/\p.1.1.natAbs<1000)/\ps.Pairwise (fun p q=>cdI p<=cdI q)/\k (.str (shT (.lst (ps.map itT)))) G1):We P w K (tSisA td) Γ G k:=fun H Z g ev Q z=>h H Z g ev _ fun v1 H1 x G1 s1 g1 r1 z0_=>by
 obtain⟨a,ps,rfl,ea,hl,hk,hr,q⟩:=z0_;cases r1;obtain⟨kvs',h1,pr⟩:=g1 a _ ea;have ek:kvs'=ps.map kvI:=by
  refine i4 fun j=>?_;have pl:=Paired.length pr;rw[af] at pl;rw[ah];by_cases hj:j<ps.length
  .have e2:ps[j]?=some ps[j]:=ay hj;have e1:kvs'[j]?=some (kvs'[j]'(by lia)):=ay _;obtain⟨z1,z2⟩:=lT pr j (by rw[ah,e2];rfl) e1;rw[e1,e2,fR];generalize kvs'[j]'(by lia)=e at z1 z2;obtain⟨ek,ev⟩:=e;dsimp only at z1 z2;cases z2;rw[<-z1]
  .rw[eN (by lia),eN (by lia)];rfl
 rw[ek] at h1;exact⟨a,ps,rfl,h1,hl,hk,hr,(z.mono s1).here g1 .str q⟩
end
noncomputable def kyN:List Key->Int
 | [.inl i,.inl j]=>1000*i+j
 | _=>0
structure Rs(kn:List (List Key×T))(m:Int):Prop where
 up:kn.Pairwise fun a b=>kyN a.1<kyN b.1
 lt:∀ a∈kn,kyN a.1<m
theorem Rs.nil{m:Int}:Rs [] m:=⟨.nil,nofun⟩
theorem Rs.mono{kn:List (List Key×T)}{m n:Int}(r:Rs kn m)(h:m<=n):Rs kn n:=⟨r.up,fun a ha=>Int.lt_of_lt_of_le (r.lt a ha) h⟩
theorem Rs.put{kn:List (List Key×T)}{i j:Int}{v:T}(r:Rs kn (1000*i+j)):putA kn [.inl i,.inl j] v=kn++[([.inl i,.inl j],v)]/\Rs (kn++[([.inl i,.inl j],v)]) (1000*i+(j+1)):=by
 refine⟨sT ?_,pairwise_append.mpr ⟨r.up,sx _ _,fun a ha b hb=>?_⟩,fun a ha=>?_⟩
 .cases e:getA kn [.inl i,.inl j] with
  | none=>rfl
  | some t=>exact absurd (r.lt _ (kj e)) (Int.lt_irrefl _)
 .rw[aM.mp hb];exact r.lt a ha
 .rcases aS.mp ha with h|h
  .have:=r.lt a h;lia
  .rw[aM.mp h];show 1000*i+j<_;lia
theorem Rs.cd{ps:List I3}{m:Int}(r:Rs (ps.map fun p:I3=>(([.inl p.1.1,.inl p.1.2]:List Key),T.int p.2)) m)(h:∀ p∈ps,BdI p/\0<=p.1.2/\p.1.2<1000):ps.Pairwise fun p q=>cdI p<=cdI q:=by
 refine yw (fun {p q} hp hq e=>?_) (pairwise_map.mp r.up);obtain⟨h1,h2,h3⟩:=h p hp;obtain⟨k1,k2,k3⟩:=h q hq;have e:1000*p.1.1+p.1.2<1000*q.1.1+q.1.2:=e;exact Int.le_of_lt ((tP h1 k1).mpr (.inl (by lia)))
noncomputable def qo(K:W.Frag):List V->Hp->VK->Prop:=fun xs H Q=>∃ (a:Addr) (ns:List Int),xs=[.ref a]/\SqL K H a (ns.map V.int)/\ns≠[]/\∀ M,M∈ns->(∀ x∈ns,x<=M)->Q (.int M) H
theorem Zmy{X:Cx}(hc:X.calm=true):ca X (.builtin "max") (qo X.K):=by
 intro pins s Z H xs us Q I r h;obtain⟨a,ns,rfl,ha,hne,q⟩:=h;obtain⟨u,rfl,ru⟩:=vals1 r;cases ru;obtain⟨its,vx,ht,_⟩:=I.list ha;have hi:=intsAre_of vx;obtain⟨ps,e⟩:=hi.allInts.items;have hns:ns=ps.toList.map (·.1):=by rw[<-hi.numsOf,<- nums_intItems,<- e]
 have hsz:0<ps.size:=by
  have:=length_pos_iff.mpr hne;rw[hns,af,ft] at this;exact this
 refine max_intList (xs:=ps) (I.ok.hd hc) (by rw[<-e];exact ht.isList) hsz fun v h' tk hv hk=>?_;obtain⟨t,rfl⟩:=intItems_at hv;obtain⟨h1,h2⟩:=argBest_gt (numAt ps) (ps.size-1);have ln:(ps.toList.map (·.1)).length=ps.size:=by rw[af,ft]
 refine⟨.int _,H,I.kept hk,⟨t,rfl⟩,q _ ?_ fun y hy=>?_⟩
 .rw[hns,numAt_eq];exact getD_mem (by lia)
 .rw[hns] at hy;obtain⟨j,hj,rfl⟩:=mem_getD hy;rw[<-numAt_eq];exact h2 j (by lia)
theorem vn{X:Cx}{K:W.Frag}(h:X.K=K)(hc:X.calm=true):ca X (.builtin "max") (qo K):=h▸Zmy hc
section
variable{P:Program}{w:World}{K:W.Frag}{G:GH}{k:T->GH->Prop}{x:T}{ns:List Int}{i j:Int}
theorem xt(hne:ns≠[])(q:∀ M,M∈ns->(∀ y∈ns,y<=M)->k (.int M) G):LNr P w K (qo K) [.lst (ns.map T.int)] G k:=fun H us g r Q z=>by
 cases r with|cons r1 r2=>cases r2;cases r1 with|lst _ e w=>exact⟨_,ns,rfl,by rw[<-xB w];exact SqL.of e,hne,fun M h1 h2=>z.here g .int (q M h1 h2)⟩
theorem l_max(h:k (.int (if j>i then j else i)) G):LNr P w K rMax [.int i,.int j] G k:=fun H us g r Q z=>by
 cases r with|cons r1 r2=>cases r2 with|cons r2 r3 =>
 cases r1;cases r2;cases r3;exact⟨i,j,rfl,z.here g .int h⟩
end
section
variable{P:Program}{w:World}{K:W.Frag}{G:GH}{a:Addr}{Γ:Ev}{k:T->GH->Prop}{ts:List T}{y:T}{b c:Bool}
theorem l_neB(h:k (.bl (!decide (b=c))) G):L2r P w K rNe (.bl b) (.bl c) G k:=fun H u v g r1 r2 Q z=>by cases r1;cases r2;exact u9 (z.here g .bl h)
theorem l_intB(h:k (.int (if b then 1 else 0)) G):LNr P w K rInt [.bl b] G k:=fun H us g r Q z=>by
 cases r with|cons r1 r2=>cases r2;cases r1;exact .inr ⟨b,rfl,z.here g .int h⟩
end
end L2
end
section
namespace L3
open PySem Builtin Builtin.Str
noncomputable def IsIt:Bool->Heap->Addr->Addr->Nat->Prop
 | true,h,a,l,i=>h.IsTupleIter a l i
 | false,h,a,l,i=>h.IsListIter a l i
noncomputable def IsSq:Bool->Heap->Addr->Array Value->Prop
 | true,h,l,xs=>h.IsTuple l xs
 | false,h,l,xs=>h.IsList l xs
noncomputable def itN:Bool->String
 | true=>"tuple_iterator"
 | false=>"list_iterator"
theorem IsIt.extBut{t:Bool}{h h':Heap}{a l x:Addr}{i:Nat}(hi:IsIt t h a l i)(e:Heap.ExtBut x h h')(n:a≠x):IsIt t h' a l i:=by
 cases t with
 | true=>exact Heap.IsTupleIter.extBut hi e n
 | false=>exact Heap.IsListIter.extBut hi e n
theorem IsSq.extBut{t:Bool}{h h':Heap}{l x:Addr}{xs:Array Value}(hi:IsSq t h l xs)(e:Heap.ExtBut x h h')(n:l≠x):IsSq t h' l xs:=by
 cases t with
 | true=>exact Heap.IsTuple.extBut hi e n
 | false=>exact Heap.IsList.extBut hi e n
theorem IsIt.at{t:Bool}{h h':Heap}{a l:Addr}{i:Nat}(x:IsIt t h a l i)(e:∀ o,h.get? a=some o->h'.get? a=some o):IsIt t h' a l i:=by
 cases t with
 | true=>obtain⟨o,ho,r⟩:=x;exact⟨o,e _ ho,r⟩
 | false=>obtain⟨o,ho,r⟩:=x;exact⟨o,e _ ho,r⟩
section
variable{prog:Program}{w:World}{A:Around}{E:Value->Shared->Prop}{s:Shared}
theorem qI{b:Bool}{it t:Addr}{i:Nat}{items:Array Value}{x:Value}{Q:Value->Shared->Prop}(hit:IsIt b s.heap it t i)(ht:IsSq b s.heap t items)(hx:items[i]?=some x)
  (hQ:∀ h',IsIt b h' it t (i+1)->Heap.SameBut it s.heap h'->Q x { s with heap:=h' }):wpAny (model prog w) A (Builtin.SmallTypes.nextOf (.ref it)) Q E s:=by
 cases b with
 | true=>exact nextT hit ht hx hQ
 | false=>exact wpAny_nextOf_list_item hit ht hx hQ
theorem ym{b:Bool}{it t:Addr}{i:Nat}{items:Array Value}{Q:Value->Shared->Prop}(hh:A.handled=none)(hit:IsIt b s.heap it t i)(ht:IsSq b s.heap t items)(hx:items[i]?=none)
  (hE:∀ h' e,Heap.ExtBut it s.heap h'->(∃ o,h'.get? e=some o/\o.cls=.type "StopIteration")->E (.ref e) { s with heap:=h' }):wpAny (model prog w) A (Builtin.SmallTypes.nextOf (.ref it)) Q E s:=by
 cases b with
 | true=>exact ZlC hh hit ht hx hE
 | false=>exact wpAny_nextOf_list_end hh hit ht hx hE
theorem Zko{t1 t2:Bool}{z TI TO i1 i2 l1 l2:Addr}{k1 k2:Nat}{xs ys:Array Value}{x y a b:Value}{Q:Value->Shared->Prop}(D:ZipApart z TI TO i1 i2 l1 l2)
  (hz:IsZip s.heap z TI TO .none) (hTI:IsPair s.heap TI (.ref i1) (.ref i2)) (hTO:IsPair s.heap TO a b)
  (h1:IsIt t1 s.heap i1 l1 k1) (h2:IsIt t2 s.heap i2 l2 k2) (hl1:IsSq t1 s.heap l1 xs) (hl2:IsSq t2 s.heap l2 ys) (hx:xs[k1]?=some x) (hy:ys[k2]?=some y)
  (hQ:∀ h',IsZip h' z TI TO (rawInt s.heap.objs.size)->IsPair h' TO x y->IsIt t1 h' i1 l1 (k1+1)->IsIt t2 h' i2 l2 (k2+1)->IsPair h' s.heap.objs.size x y->h'.objs.size=s.heap.objs.size+1 ->
   (∀ c o,c≠z->c≠TO->c≠i1->c≠i2->s.heap.get? c=some o->h'.get? c=some o)->Q (.ref s.heap.objs.size) { s with heap:=h' }) :
  wpAny (model prog w) A (Builtin.«zip.__next__» ⟨[.ref z],[]⟩) (fun fin s'=>∃ v,fin=.done (.ret v)/\Q v s') E s:=by
 show wpAny _ _ (field (.ref z) 2 >>= _) _ _ _;refine ab (cP hz rfl (x:=.bool false) rfl ?_);show wpAny _ _ (field (.ref z) 3 >>= _) _ _ _;refine ab (cP hz rfl (x:=.ref TI) rfl ?_);refine ab (gx hTI rfl ?_);show wpAny _ _ (Builtin.SmallTypes.ownedTupleIsFree (.ref z) >>= _) _ _ _;refine ab ?_;unfold Builtin.SmallTypes.ownedTupleIsFree;refine ab (cP hz rfl (x:=.none) rfl (am ?_));simp only[fQ];refine ab (gN ?_);refine ab (cP hz rfl (x:=.ref TO) rfl ?_);refine ab (fB hz (by simp) fun ha hza hsa=>?_);replace hza:IsZip ha z TI TO .ellipsis:=hza;refine ab ?_;simp only[zipIdx_cons,zipIdx_nil,jK,forIn_nil];refine ab (ab (nQ ?_));show wpAny _ _ (Builtin.SmallTypes.nextOf (.ref i1) >>= _) _ _ _;refine ab (qI (h1.extBut hsa.extBut D.i1z) (hl1.extBut hsa.extBut D.l1z) hx fun hb h1b hsb=>am ?_);have tb:IsPair hb TO a b:=hsb.extBut _ _ D.TOi1 (hsa.extBut _ _ D.TOz hTO);refine ab (gx tb rfl ?_);refine ab (sJ tb fun hc tc hsc=>?_);replace tc:IsPair hc TO x b:=tc;refine ab (wpAny_letGo (am ?_));refine ab (ab (nQ ?_));show wpAny _ _ (Builtin.SmallTypes.nextOf (.ref i2) >>= _) _ _ _;refine ab (qI (((h2.extBut hsa.extBut D.i2z).extBut hsb.extBut D.i12.symm).extBut hsc.extBut D.TOi2.symm) (((hl2.extBut hsa.extBut D.l2z).extBut hsb.extBut D.l2i1).extBut hsc.extBut D.l2TO) hy fun hd h2d hsd=>am ?_);have td:IsPair hd TO x b:=hsd.extBut _ _ D.TOi2 tc;refine ab (gx td rfl ?_);refine ab (sJ td fun he te hse=>?_);replace te:IsPair he TO x y:=te;refine ab (wpAny_letGo (am (am ?_)));refine ab (gx te rfl ?_);refine ab (nu ?_);have hsz:he.objs.size=s.heap.objs.size:=by rw[hse.1,hsd.1,hsc.1,hsb.1,hsa.1]
 have ze:IsZip he z TI TO .ellipsis:=hse.extBut _ _ D.TOz.symm (hsd.extBut _ _ D.i2z.symm (hsc.extBut _ _ D.TOz.symm (hsb.extBut _ _ D.i1z.symm hza)));have ke:∀ c o,c≠z->c≠TO->c≠i1->c≠i2->s.heap.get? c=some o->he.get? c=some o:=fun c o c1 c2 c3 c4 e =>
  hse.extBut _ _ c2 (hsd.extBut _ _ c4 (hsc.extBut _ _ c2 (hsb.extBut _ _ c3 (hsa.extBut _ _ c1 e))))
 have h1e:IsIt t1 he i1 l1 (k1+1):=((h1b.extBut hsc.extBut D.TOi1.symm).extBut hsd.extBut D.i12).extBut hse.extBut D.TOi1.symm;have h2e:IsIt t2 he i2 l2 (k2+1):=h2d.extBut hse.extBut D.TOi2.symm;have hzlt:z<he.objs.size:=ba ze;show wpAny _ _ (Builtin.SmallTypes.ownedTupleHandOut (.ref z) (.ref he.objs.size) >>= _) _ _ _;refine ab ?_;unfold Builtin.SmallTypes.ownedTupleHandOut;have zf:IsZip (he.push { cls:=.type "tuple",data:=.seq #[x,y] }) z TI TO .ellipsis:=be _ ze;refine ab (fB zf (by simp) fun hg zg hsg=>?_);replace zg:IsZip hg z TI TO (rawInt he.objs.size):=zg;refine fB zg (by simp) fun hi zi hsi=>?_;replace zi:IsZip hi z TI TO (rawInt he.objs.size):=zi;have up:∀ c o,c≠z->he.get? c=some o->hi.get? c=some o:=fun c o c1 e=>hsi.extBut _ _ c1 (hsg.extBut _ _ c1 (be _ e));have hT:IsPair hi he.objs.size x y:=hsi.extBut _ _ (eX hzlt) (hsg.extBut _ _ (eX hzlt) (bQ _ rfl));have hz8:hi.objs.size=he.objs.size+1:=by rw[hsi.1,hsg.1,gL]
 rw[hsz] at zi hT hz8;refine am ⟨_,rfl,?_⟩;show Q (.ref he.objs.size) _;rw[hsz];exact hQ hi zi (up _ _ D.TOz te) (IsIt.at h1e fun o e=>up _ o D.i1z e) (IsIt.at h2e fun o e=>up _ o D.i2z e) hT hz8 fun c o c1 c2 c3 c4 e=>up c o c1 (ke c o c1 c2 c3 c4 e)
theorem ZmT{t1 t2:Bool}{z TI TO i1 i2 l1 l2:Addr}{k1 k2:Nat}{xs ys:Array Value}{a b:Value}{Q:Fin->Shared->Prop}(hh:A.handled=none)(D:ZipApart z TI TO i1 i2 l1 l2)
  (hz:IsZip s.heap z TI TO .none) (hTI:IsPair s.heap TI (.ref i1) (.ref i2)) (hTO:IsPair s.heap TO a b)
  (h1:IsIt t1 s.heap i1 l1 k1) (h2:IsIt t2 s.heap i2 l2 k2) (hl1:IsSq t1 s.heap l1 xs) (hl2:IsSq t2 s.heap l2 ys) (hend:xs[k1]?=none\/ys[k2]?=none)
  (hE:∀ h' e,(∀ c o,c≠z->c≠TO->c≠i1->c≠i2->s.heap.get? c=some o->h'.get? c=some o)->(∃ o,h'.get? e=some o/\o.cls=.type "StopIteration")->E (.ref e) { s with heap:=h' }) :
  wpAny (model prog w) A (Builtin.«zip.__next__» ⟨[.ref z],[]⟩) Q E s:=by
 show wpAny _ _ (field (.ref z) 2 >>= _) _ _ _;refine ab (cP hz rfl (x:=.bool false) rfl ?_);show wpAny _ _ (field (.ref z) 3 >>= _) _ _ _;refine ab (cP hz rfl (x:=.ref TI) rfl ?_);refine ab (gx hTI rfl ?_);show wpAny _ _ (Builtin.SmallTypes.ownedTupleIsFree (.ref z) >>= _) _ _ _;refine ab ?_;unfold Builtin.SmallTypes.ownedTupleIsFree;refine ab (cP hz rfl (x:=.none) rfl (am ?_));simp only[fQ];refine ab (gN ?_);refine ab (cP hz rfl (x:=.ref TO) rfl ?_);refine ab (fB hz (by simp) fun ha hza hsa=>?_);replace hza:IsZip ha z TI TO .ellipsis:=hza;refine ab ?_;simp only[zipIdx_cons,zipIdx_nil,jK,forIn_nil];refine ab (ab (nQ ?_));show wpAny _ _ (Builtin.SmallTypes.nextOf (.ref i1) >>= _) _ _ _;cases hx:xs[k1]? with
 | none =>
  refine ab (ym hh (h1.extBut hsa.extBut D.i1z) (hl1.extBut hsa.extBut D.l1z) hx fun hb e hsb he=>?_);obtain⟨oe,hoe,hce⟩:=he;have zb:IsZip hb z TI TO .ellipsis:=hsb _ _ D.i1z.symm hza;have hez:e≠z:=fun x=>by subst x;rw[zb] at hoe;cases hoe;simp at hce
  refine fB zb (by simp) fun hc _ hsc=>hE hc e (fun c o c1 _ c3 _ x=>hsc.extBut _ _ c1 (hsb _ _ c3 (hsa.extBut _ _ c1 x))) ⟨oe,hsc.extBut _ _ hez hoe,hce⟩
 | some x =>
  have hy:ys[k2]?=none:=by rcases hend with h|h;rw[hx] at h;cases h;exact h
  refine ab (qI (h1.extBut hsa.extBut D.i1z) (hl1.extBut hsa.extBut D.l1z) hx fun hb h1b hsb=>am ?_);have tb:IsPair hb TO a b:=hsb.extBut _ _ D.TOi1 (hsa.extBut _ _ D.TOz hTO);refine ab (gx tb rfl ?_);refine ab (sJ tb fun hc tc hsc=>?_);refine ab (wpAny_letGo (am ?_));refine ab (ab (nQ ?_));show wpAny _ _ (Builtin.SmallTypes.nextOf (.ref i2) >>= _) _ _ _;refine ab (ym hh (((h2.extBut hsa.extBut D.i2z).extBut hsb.extBut D.i12.symm).extBut hsc.extBut D.TOi2.symm) (((hl2.extBut hsa.extBut D.l2z).extBut hsb.extBut D.l2i1).extBut hsc.extBut D.l2TO) hy fun hd e hsd he=>?_);obtain⟨oe,hoe,hce⟩:=he;have zd:IsZip hd z TI TO .ellipsis:=hsd _ _ D.i2z.symm (hsc.extBut _ _ D.TOz.symm (hsb.extBut _ _ D.i1z.symm hza));have hez:e≠z:=fun x=>by subst x;rw[zd] at hoe;cases hoe;simp at hce
  refine fB zd (by simp) fun he _ hse=>hE he e (fun c o c1 c2 c3 c4 x=>hse.extBut _ _ c1 (hsd _ _ c4 (hsc.extBut _ _ c2 (hsb.extBut _ _ c3 (hsa.extBut _ _ c1 x))))) ⟨oe,hse.extBut _ _ hez hoe,hce⟩
theorem next_zipA{t1 t2:Bool}{z TI TO i1 i2 l1 l2:Addr}{k1 k2:Nat}{xs ys:Array Value}{x y a b:Value}{Q:Option Value->Shared->Prop}(D:ZipApart z TI TO i1 i2 l1 l2)
  (hz:IsZip s.heap z TI TO .none) (hTI:IsPair s.heap TI (.ref i1) (.ref i2)) (hTO:IsPair s.heap TO a b)
  (h1:IsIt t1 s.heap i1 l1 k1) (h2:IsIt t2 s.heap i2 l2 k2) (hl1:IsSq t1 s.heap l1 xs) (hl2:IsSq t2 s.heap l2 ys) (hx:xs[k1]?=some x) (hy:ys[k2]?=some y)
  (hQ:∀ h',IsZip h' z TI TO (rawInt s.heap.objs.size)->IsPair h' TO x y->IsIt t1 h' i1 l1 (k1+1)->IsIt t2 h' i2 l2 (k2+1)->IsPair h' s.heap.objs.size x y->h'.objs.size=s.heap.objs.size+1 ->
   (∀ c o,c≠z->c≠TO->c≠i1->c≠i2->s.heap.get? c=some o->h'.get? c=some o)->Q (some (.ref s.heap.objs.size)) { s with heap:=h' }) :
  wpAny (model prog w) A (pyNext (.ref z)) Q E s:=by
 have hT:s.TypeIs (.ref z) "zip":=⟨_,hz,rfl⟩;unfold pyNext;exact ab (lD (iu (name:=Str.ofString "__next__") hT F.slot_zip_next (eC F.slot_zip_next hT F.entry_zip_next
   (Zko D hz hTI hTO h1 h2 hl1 hl2 hx hy fun h' a1 a2 a3 a4 a5 a6 a7=>am (hQ h' a1 a2 a3 a4 a5 a6 a7)) (F.args_zip_next_1 _))))
theorem next_zipA_end{t1 t2:Bool}{z TI TO i1 i2 l1 l2:Addr}{k1 k2:Nat}{xs ys:Array Value}{a b:Value}{Q:Option Value->Shared->Prop}(hh:A.handled=none)(D:ZipApart z TI TO i1 i2 l1 l2)
  (hz:IsZip s.heap z TI TO .none) (hTI:IsPair s.heap TI (.ref i1) (.ref i2)) (hTO:IsPair s.heap TO a b)
  (h1:IsIt t1 s.heap i1 l1 k1) (h2:IsIt t2 s.heap i2 l2 k2) (hl1:IsSq t1 s.heap l1 xs) (hl2:IsSq t2 s.heap l2 ys) (hend:xs[k1]?=none\/ys[k2]?=none)
  (hQ:∀ h',(∀ c o,c≠z->c≠TO->c≠i1->c≠i2->s.heap.get? c=some o->h'.get? c=some o)->Q none { s with heap:=h' }):wpAny (model prog w) A (pyNext (.ref z)) Q E s:=by
 have hT:s.TypeIs (.ref z) "zip":=⟨_,hz,rfl⟩;unfold pyNext;refine ab (lD (iu (name:=Str.ofString "__next__") hT F.slot_zip_next (eC F.slot_zip_next hT F.entry_zip_next (ZmT hh D hz hTI hTO h1 h2 hl1 hl2 hend fun h' e hk he=>?_) (F.args_zip_next_1 _))));obtain⟨o,ho,hc⟩:=he;refine ab (i7 (T:="StopIteration") (b:=true) ⟨o,ho,hc⟩ isSubtype_stop ?_);exact am (hQ _ hk)
end
noncomputable abbrev zA1(t1:Bool)(h:Heap)(l1:Addr):Heap:=h.push { cls:=.type (itN t1),data:=.fields #[.ref l1,.int 0 0] }
noncomputable abbrev zA2(t1 t2:Bool)(h:Heap)(l1 l2:Addr):Heap:=(zA1 t1 h l1).push { cls:=.type (itN t2),data:=.fields #[.ref l2,.int 0 0] }
noncomputable abbrev zA3(t1 t2:Bool)(h:Heap)(l1 l2:Addr):Heap:=(zA2 t1 t2 h l1 l2).push { cls:=.type "tuple",data:=.seq #[.ref h.objs.size,.ref (zA1 t1 h l1).objs.size] }
noncomputable abbrev zA4(t1 t2:Bool)(h:Heap)(l1 l2:Addr):Heap:=(zA3 t1 t2 h l1 l2).push { cls:=.type "tuple",data:=.seq #[.none,.none] }
noncomputable abbrev zA5(t1 t2:Bool)(h:Heap)(l1 l2:Addr):Heap:=(zA4 t1 t2 h l1 l2).push { cls:=.type "zip",data:=.fields #[.none,.bool false,.bool false,.ref (zA2 t1 t2 h l1 l2).objs.size,.ref (zA3 t1 t2 h l1 l2).objs.size] }
theorem ZmS(t1 t2:Bool)(l1 l2:Addr)(xs ys:Array Value) :
  Meets (Builtin.«zip.__new__» ⟨[.type "zip",.ref l1,.ref l2],[]⟩) (fun _ R s=>IsSq t1 s.heap l1 xs/\IsSq t2 s.heap l2 ys/\R (.ok (.ret (.ref (zA4 t1 t2 s.heap l1 l2).objs.size))) { s with heap:=zA5 t1 t2 s.heap l1 l2 }) :=
 .of_wp fun prog w A R s h=>by
  obtain⟨hp,g,d,tk,os⟩:=s;obtain⟨hl1,hl2,h⟩:=h;have hsub:isSubtype (.type "zip") (.type "zip")=pure true:=by rw[isSubtype_type];kernel_rfl
  cases t1 with
  | true =>
   have hL1:Heap.IsTuple (Shared.heap ⟨hp,g,d,tk,os⟩) l1 xs:=hl1;cases t2 with
   | true =>
    have hL2:Heap.IsTuple (Shared.heap ⟨hp.push { cls:=.type "tuple_iterator",data:=.fields #[.ref l1,.int 0 0] },g,d,tk,os⟩) l2 ys:=Heap.IsTuple.push hl2 _
    wp_walk using kY hL1,kY hL2
    exact⟨_,rfl,h⟩
   | false =>
    have hL2:Heap.IsList (Shared.heap ⟨hp.push { cls:=.type "tuple_iterator",data:=.fields #[.ref l1,.int 0 0] },g,d,tk,os⟩) l2 ys:=Heap.IsList.push hl2 _
    wp_walk using kY hL1,jE hL2
    exact⟨_,rfl,h⟩
  | false =>
   have hL1:Heap.IsList (Shared.heap ⟨hp,g,d,tk,os⟩) l1 xs:=hl1;cases t2 with
   | true =>
    have hL2:Heap.IsTuple (Shared.heap ⟨hp.push { cls:=.type "list_iterator",data:=.fields #[.ref l1,.int 0 0] },g,d,tk,os⟩) l2 ys:=Heap.IsTuple.push hl2 _
    wp_walk using jE hL1,kY hL2
    exact⟨_,rfl,h⟩
   | false =>
    have hL2:Heap.IsList (Shared.heap ⟨hp.push { cls:=.type "list_iterator",data:=.fields #[.ref l1,.int 0 0] },g,d,tk,os⟩) l2 ys:=Heap.IsList.push hl2 _
    wp_walk using jE hL1,jE hL2
    exact⟨_,rfl,h⟩
theorem call_zipA{prog:Program}{w:World}{A:Around}{E:Value->Shared->Prop}{s:Shared}{t1 t2:Bool}{l1 l2:Addr}{xs ys:Array Value}{Q:Value->Shared->Prop}(hl1:IsSq t1 s.heap l1 xs)(hl2:IsSq t2 s.heap l2 ys)
  (h:∀ h',IsZip h' (s.heap.objs.size+4) (s.heap.objs.size+2) (s.heap.objs.size+3) .none->IsPair h' (s.heap.objs.size+2) (.ref s.heap.objs.size) (.ref (s.heap.objs.size+1)) ->
   IsPair h' (s.heap.objs.size+3) .none .none->IsIt t1 h' s.heap.objs.size l1 0->IsIt t2 h' (s.heap.objs.size+1) l2 0 ->
   (∀ c o,s.heap.get? c=some o->h'.get? c=some o)->Q (.ref (s.heap.objs.size+4)) { s with heap:=h' }) :
  wpAny (model prog w) A (call (.type "zip") [.ref l1,.ref l2]) Q E s:=by
 refine callType_new F.called_zip (by decide) (F.typeCall_zip_2 _ _) (F.newCall_zip_2 _ _) (fun obj=>F.args_object_init_3 obj _ _) F.entry_zip_new (ZmS t1 t2 l1 l2 xs ys) ⟨hl1,hl2,?_⟩;have z1:(zA1 t1 s.heap l1).objs.size=s.heap.objs.size+1:=gL ..;have z2:(zA2 t1 t2 s.heap l1 l2).objs.size=s.heap.objs.size+2:=by rw[gL,z1]
 have z3:(zA3 t1 t2 s.heap l1 l2).objs.size=s.heap.objs.size+3:=by rw[gL,z2]
 have z4:(zA4 t1 t2 s.heap l1 l2).objs.size=s.heap.objs.size+4:=by rw[gL,z3]
 have g5:(zA5 t1 t2 s.heap l1 l2).get? (zA4 t1 t2 s.heap l1 l2).objs.size=some _:=bQ _ rfl;have g4:(zA5 t1 t2 s.heap l1 l2).get? (zA3 t1 t2 s.heap l1 l2).objs.size=some _:=be _ (bQ _ rfl);have g3:(zA5 t1 t2 s.heap l1 l2).get? (zA2 t1 t2 s.heap l1 l2).objs.size=some _:=be _ (be _ (bQ _ rfl));have g2:(zA5 t1 t2 s.heap l1 l2).get? (zA1 t1 s.heap l1).objs.size=some _:=be _ (be _ (be _ (bQ _ rfl)));have g1:(zA5 t1 t2 s.heap l1 l2).get? s.heap.objs.size=some _:=be _ (be _ (be _ (be _ (bQ _ rfl))));show _/\_;rw[z2,z3,z4] at g5;rw[z1,z2] at g3;rw[z3] at g4;rw[z1] at g2;rw[z4];exact⟨⟨_,g5,rfl⟩,h _ g5 g3 g4 (by cases t1 <;> exact⟨_,g1,rfl,rfl⟩) (by cases t2 <;> exact⟨_,g2,rfl,rfl⟩) fun c o x=>be _ (be _ (be _ (be _ (be _ x))))⟩
end L3
end
section
namespace L3
open PySem
theorem IsIt.ex{t:Bool}{h:Heap}{a l:Addr}{i:Nat}(x:IsIt t h a l i):∃ o n,h.get? a=some o/\o.data=.fields n:=by
 cases t with
 | true=>obtain⟨o,h1,_,h2⟩:=x;exact⟨o,_,h1,h2⟩
 | false=>obtain⟨o,h1,_,h2⟩:=x;exact⟨o,_,h1,h2⟩
theorem IsSq.lt{t:Bool}{h:Heap}{l:Addr}{xs:Array Value}(x:IsSq t h l xs):l<h.objs.size:=by
 cases t with
 | true=>obtain⟨o,e,_⟩:=x;exact ba e
 | false=>obtain⟨o,e,_⟩:=x;exact ba e
end L3
namespace L2
open PySem PySem.Spec PyProof.Rows
def SqB(t:Bool)(K:W.Frag)(H:Hp)(l:Addr)(xs:List V):Prop:=match t with
 | true=>SqT K H l xs
 | false=>SqL K H l xs
theorem Inv.seqB{X:Cx}{pins:List (Addr×Obj)}{Z:St}{H:Hp}{s:Shared}{t:Bool}{l:Addr}{xs:List V}(I:Inv X pins Z H s)(h:SqB t X.K H l xs):∃ its,Vals xs its/\L3.IsSq t s.heap l its.toArray/\True:=by
 cases t with
 | true=>obtain⟨its,a,b,_⟩:=I.tuple h;exact⟨its,a,b,trivial⟩
 | false=>obtain⟨its,a,b,_⟩:=I.list h;exact⟨its,a,b.isList,trivial⟩
theorem Inv.seqB_inj{X:Cx}{pins:List (Addr×Obj)}{Z:St}{H:Hp}{s:Shared}{t:Bool}{l:Addr}{xs ys:List V}(I:Inv X pins Z H s)(h:SqB t X.K H l xs)(h':SqB t X.K H l ys):xs=ys:=by
 cases t with
 | true=>exact I.tuple_inj h h'
 | false=>exact I.list_inj h h'
noncomputable def ItzA(t1 t2:Bool)(K:W.Frag)(l1 l2:Addr):It:=⟨fun i H=>∃ xs ys x y,SqB t1 K H l1 xs/\SqB t2 K H l2 ys/\xs[i]?=some x/\ys[i]?=some y,
 fun i H v H'=>∃ T x y,(∀ xs,SqB t1 K H l1 xs->xs[i]?=some x)/\(∀ ys,SqB t2 K H l2 ys->ys[i]?=some y)/\H T=none/\v=.ref T/\H'=upd H T (.tup [x,y]),
 fun i H=>∃ xs ys,SqB t1 K H l1 xs/\SqB t2 K H l2 ys/\(xs.length<=i\/ys.length<=i)⟩
theorem ZkQ{P:Program}{w:World}{K:W.Frag}{elts:List Expr}{x1}{pos:Pos}{t1 t2:Bool}{z TI TO i1 i2 l1 l2:Addr}(D:ZipApart z TI TO i1 i2 l1 l2) :
  Turn P w K (.Tuple elts x1 pos) (ItzA t1 t2 K l1 l2) [z,TI,TO,i1,i2] z (fun i h=>IsZip h z TI TO .none/\IsPair h TI (.ref i1) (.ref i2)/\(∃ a b,IsPair h TO a b)/\L3.IsIt t1 h i1 l1 i/\L3.IsIt t2 h i2 l2 i) where
 mem:=by simp
 obj:=fun i h st b hb=>by
  obtain⟨a1,a2,⟨a,b',a3⟩,st1,st2⟩:=st;obtain⟨o1,c1,e1,d1⟩:=st1.ex;obtain⟨o2,c2,e2,d2⟩:=st2.ex;simp only[aJ,bX,cG] at hb;rcases hb with rfl|rfl|rfl|rfl|rfl
  .exact ⟨_,a1,fun v z=>by cases z⟩
  .exact ⟨_,a2,fun v z=>by cases z⟩
  .exact ⟨_,a3,fun v z=>by cases z⟩
  .exact ⟨_,e1,fun v z=>by rw[d1] at z;cases z⟩
  .exact ⟨_,e2,fun v z=>by rw[d2] at z;cases z⟩
 keep:=fun i h h' st k=>by
  obtain⟨a1,a2,⟨a,b',a3⟩,a4,a5⟩:=st;exact⟨k z (by simp) _ a1,k TI (by simp) _ a2,⟨a,b',k TO (by simp) _ a3⟩,L3.IsIt.at a4 fun o e=>k i1 (by simp) o e,L3.IsIt.at a5 fun o e=>k i2 (by simp) o e⟩
 item:=by
  intro X hP hw hK hc i pins s Z H E I hf st hg;subst hP hw hK;obtain⟨xs,ys,x,y,hq1,hq2,hx,hy⟩:=hg;obtain⟨its1,rv1,p1,hz1⟩:=I.seqB hq1;obtain⟨its2,rv2,p2,hz2⟩:=I.seqB hq2;obtain⟨u1,hu1,ru1⟩:=rv1.get hx;obtain⟨u2,hu2,ru2⟩:=rv2.get hy;obtain⟨a1,a2,⟨a,b',a3⟩,a4,a5⟩:=st;refine L3.next_zipA D a1 a2 a3 a4 a5 p1 p2 (x:=u1) (y:=u2) (by simpa using hu1) (by simpa using hu2) fun h' b1 b2 b3 b4 b5 b6 b7=>?_;refine⟨_,rfl,wpAny_letOwnedTupleGo_zip (s:={ s with heap:=h' }) b1 fun h2 c1 c2=>?_⟩;have hT:H s.heap.objs.size=none:=I.hok.fresh (aE _);have I1:Inv X pins Z (upd H s.heap.objs.size (.tup [x,y])) { s with heap:=s.heap.push { cls:=.type "tuple",data:=.seq #[u1,u2] },toks:=s.toks } :=
   I.laid (t':=s.toks) (fun b u e=>be _ e) (aE _) ⟨by show 2<=sizeLine;decide,[u1,u2],.cons ru1 (.cons ru2 .nil),⟨_,bQ _ rfl,rfl,_,rfl⟩⟩
  have lt:∀ {c o},s.heap.get? c=some o->c≠s.heap.objs.size:=fun e=>bP (ba e);have ne:∀ b∈[z,TI,TO,i1,i2],b≠s.heap.objs.size:=fun b hb=>by
   obtain⟨o1,_,e1,_⟩:=a4.ex;obtain⟨o2,_,e2,_⟩:=a5.ex;simp only[aJ,bX,cG] at hb;rcases hb with rfl|rfl|rfl|rfl|rfl
   .exact lt a1
   .exact lt a2
   .exact lt a3
   .exact lt e1
   .exact lt e2
  have f1:∀ b∈[z,TI,TO,i1,i2],upd H s.heap.objs.size (.tup [x,y]) b=none:=fun b hb=>by rw[bv (ne b hb)];exact(hf b hb).1
  have hTz:s.heap.objs.size≠z:=(ne z (by simp)).symm;have I2:=I1.turnedL (h':=h2) (t':=s.toks) (fp:=[z,TI,TO,i1,i2]) (fun b o hb e=>by
   simp only[aJ,bX,cG,bW] at hb;obtain⟨n1,n2,n3,n4,n5⟩:=hb;rcases ZnK rfl e with e|⟨rfl,rfl⟩
   .exact c2.extBut _ _ n1 (b7 b o n1 n3 n4 n5 e)
   .exact c2.extBut _ _ hTz b5) fun b hb=>⟨f1 b hb,(hf b hb).2⟩
  refine⟨.ref s.heap.objs.size,_,I2,rfl,⟨_,x,y,fun xs' h=>by rw[I.seqB_inj h hq1];exact hx,fun ys' h=>by rw[I.seqB_inj h hq2];exact hy,hT,rfl,rfl⟩,?_,f1⟩;exact⟨c1,c2.extBut _ _ D.TIz (b7 _ _ D.TIz D.TITO D.TIi1 D.TIi2 a2),⟨_,_,c2.extBut _ _ D.TOz b2⟩,b3.extBut c2.extBut D.i1z,b4.extBut c2.extBut D.i2z⟩
 done:=by
  intro X hP hw hK hc i pins s Z H E I hf st hg;subst hP hw hK;obtain⟨xs,ys,hq1,hq2,hend⟩:=hg;obtain⟨its1,rv1,p1,hz1⟩:=I.seqB hq1;obtain⟨its2,rv2,p2,hz2⟩:=I.seqB hq2;have hl1:=rv1.length;have hl2:=rv2.length;obtain⟨a1,a2,⟨a,b',a3⟩,a4,a5⟩:=st;refine L3.next_zipA_end (I.ok.hd hc) D a1 a2 a3 a4 a5 p1 p2 (by simp;lia) fun h' hk=>⟨rfl,I.turnedL (t':=s.toks) (fp:=[z,TI,TO,i1,i2]) (fun b o hb e=>?_) hf⟩;simp only[aJ,bX,cG,bW] at hb;exact hk b o hb.1 hb.2.2.1 hb.2.2.2.1 hb.2.2.2.2 e
 self:=fun _ _ _ _ _ st h=>wpAny_pyIter_zip st.1 h
section
variable{X:Cx}{tg:Expr}
def rq(t1 t2:Bool)(K:W.Frag)(ta:TA):TI:=fun Z H R=>ta Z H fun vs H1=>∃ l1 l2,vs=[.ref l1,.ref l2]/\(∃ xs,SqB t1 K H1 l1 xs)/\(∃ ys,SqB t2 K H1 l2 ys)/\R (ItzA t1 t2 K l1 l2) H1
theorem Zpw{t1 t2:Bool}{a b:Expr}{ta:TA}{p pos pos':Pos}{elts:List Expr}{x1}(hg:Gl X "zip")(hm:X.mg "zip"=none)(ha:PA X [a,b] ta)(hs:starEach [a,b] X.env=[(false,eval a X.env),(false,eval b X.env)]:=by rfl)(hs2:starEach [b] X.env=[(false,eval b X.env)]:=by rfl) :
  PI X (.Tuple elts x1 pos') (.Call (.Name "zip" p) [a,b] [] pos) (rq t1 t2 X.K ta):=by
 intro pins s Z H R I h;refine Call_ (iE I hg hm bt_zip (nh (thn (ha pos pins s Z H _ I h) fun us s1 ⟨vs,H1,I1,r1,q1⟩=>?_) (by rw[hs,hs2]) (by rw[hs2];rfl)));obtain⟨l1,l2,e,⟨xs,q1⟩,⟨ys,q2⟩,q⟩:=q1;subst e;cases r1 with
 | cons r rr =>
  cases rr with
  | cons r' rr =>
   cases rr;cases r;cases r';obtain⟨its1,rv1,p1,hz1⟩:=I1.seqB q1;obtain⟨its2,rv2,p2,hz2⟩:=I1.seqB q2;have hl1:l1<s1.heap.objs.size:=L3.IsSq.lt p1;have hl2:l2<s1.heap.objs.size:=L3.IsSq.lt p2;refine L3.call_zipA p1 p2 fun h' a1 a2 a3 a4 a5 a7=>?_;have I2:Inv X pins Z H1 { s1 with heap:=h' }:=I1.kept (t':=s1.toks) a7;refine wpAny_pyIter_zip (s:={ s1 with heap:=h' }) a1 ?_;refine⟨s1.heap.objs.size+4,[s1.heap.objs.size+4,s1.heap.objs.size+2,s1.heap.objs.size+3,s1.heap.objs.size,s1.heap.objs.size+1],_,_,H1,rfl,I2,ZkQ (l1:=l1) (l2:=l2) ?_,⟨a1,a2,⟨_,_,a3⟩,a4,a5⟩,fun b hb=>?_,q⟩
   .exact Zkn _ l1 l2 hl1 hl2
   .have hb':s1.heap.objs.size<=b:=by
     simp only[aJ,bX,cG] at hb;rcases hb with rfl|rfl|rfl|rfl|rfl
     .exact lG _ _
     .exact lG _ _
     .exact lG _ _
     .exact aE _
     .exact lG _ _
    exact I1.fpOk hb' (I1.hok.fresh hb')
end
theorem xS{t1 t2:Bool}{X:Cx}{K:W.Frag}{a b:Expr}{ta:TA}{p pos pos':Pos}{elts:List Expr}{x1}(h:X.K=K)(hg:Gl X "zip")(hm:X.mg "zip"=none)(ha:PA X [a,b] ta)(hs:starEach [a,b] X.env=[(false,eval a X.env),(false,eval b X.env)]:=by rfl)(hs2:starEach [b] X.env=[(false,eval b X.env)]:=by rfl) :
  PI X (.Tuple elts x1 pos') (.Call (.Name "zip" p) [a,b] [] pos) (rq t1 t2 K ta):=h▸Zpw (t1:=t1) (t2:=t2) hg hm ha hs hs2
end L2
end
section
namespace L2
open PySem
def SqZ(t:Bool)(G:GH)(x:T)(ts:List T):Prop:=match t with
 | true=>x=.tup ts\/∃ ss:List Str,x=.cst ss/\ts=ss.map T.str
 | false=>SqI G x ts
section
variable{P:Program}{w:World}{K:W.Frag}{G:GH}{H:Hp}{Γ:Ev}{tr:TA}{t1 t2:Bool}
theorem vY:∀ ss:List Str,RepTs K G H (ss.map T.str) (ss.map V.str)
 | []=>.nil
 | s::ss=>.cons .str (vY ss)
theorem lZ{t:Bool}{x:T}{ts:List T}{v:V}(g:GOk P w K G H)(h:SqZ t G x ts)(r:RepT K G H x v):∃ a vs,v=.ref a/\RepTs K G H ts vs/\SqB t K H a vs:=by
 cases t with
 | true =>
  rcases h with rfl|⟨ss,rfl,rfl⟩
  .cases r with
   | tup e rs=>exact⟨_,_,rfl,rs,SqT.of e⟩
  .cases r with
   | cst e=>exact⟨_,_,rfl,vY ss,e H⟩
 | false =>
  obtain⟨a,vs,rfl,rs,e⟩:=eS g h r;exact⟨a,vs,rfl,rs,SqL.of e⟩
theorem vc{kx:List T->(GH->Prop)->GH->Prop}(h:Wa P w K tr Γ G fun xs G1=>∃ x y ts us,xs=[x,y]/\SqZ t1 G1 x ts/\SqZ t2 G1 y us/\kx ((ts.zip us).map fun p=>.tup [p.1,p.2]) (fun G'=>SqZ t1 G' x ts/\SqZ t2 G' y us) G1):Wi P w K (rq t1 t2 K tr) Γ G kx:=fun H Z g ev Q z=>h H Z g ev _ fun vs H1 xs G1 s1 g1 r1 z0_=>by
 obtain⟨x,y,ts,us,e,e1,e2,q⟩:=z0_;subst e;cases r1 with
 | cons r1 r2 =>
  cases r2 with
  | cons r2 r3 =>
  cases r3;obtain⟨a,vs,rfl,rs,h1⟩:=lZ g1 e1 r1;obtain⟨b,ws,rfl,rs2,h2⟩:=lZ g1 e2 r2;refine⟨a,b,rfl,⟨vs,h1⟩,⟨ws,h2⟩,z _ _ _ _ _ s1 g1 (fun G' H' s' g' kp=>?_) q⟩;obtain⟨a',vs',ea,q1,l1⟩:=lZ g' kp.1 (r1.mono g1 s');cases ea;obtain⟨b',ws',eb,q2,l2⟩:=lZ g' kp.2 (r2.mono g1 s');cases eb;refine⟨fun i x e=>?_,⟨vs',ws',l1,l2,by rw[af,jQ,q1.length,q2.length];lia⟩⟩;rw[ah] at e;obtain⟨⟨d,m⟩,em,rfl⟩:=aV.mp e;obtain⟨ed,em⟩:=lF.mp em;obtain⟨u,eu,ru⟩:=q1.get ed;obtain⟨u2,eu2,ru2⟩:=q2.get em;refine⟨⟨vs',ws',u,u2,l1,l2,eu,eu2⟩,fun v H2 z1_=>?_⟩;obtain⟨T,y,y2,e1,e2,e3,e4,e5⟩:=z1_;subst e4 e5;have:=e1 vs' l1;rw[eu] at this;cases this;have:=e2 ws' l2;rw[eu2] at this;cases this;have sm:=Same.new (o:=.tup [u,u2]) e3;exact⟨sm,.tup bJ (.cons (ru.mono g' (.same sm)) (.cons (ru2.mono g' (.same sm)) .nil))⟩
end
end L2
end
section
namespace L2
open PySem PySem.Spec PyProof.Rows
section
variable{X:Cx}{pins:List (Addr×Obj)}{Z:St}{H:Hp}{s:Shared}{A:Around}{Q:Value->Shared->Prop}{E:Value->Shared->Prop}{b:Bool}
theorem Zj4{x:V}{u t:Value}{tp:Addr}{Ts:List V}{its:List Value}(I:Inv X pins Z H s)(rx:RelV x u)(ty:TyOf X.K H x t)(htp:H tp=some (.tup Ts))(hv:∀ us,Vals Ts us->us=its)(e:PySem.W.kitAny X.K t its=some b)(h:∀ tk,Q (.bool b) { s with toks:=tk }) :
  wpAny (model X.prog X.w) A (call (.builtin "isinstance") [u,.ref tp]) Q E s:=by
 obtain⟨_,us,hus,op⟩:=(show ObjOk X.prog X.w H s.heap tp (.tup Ts) from I.hok tp _ htp);obtain⟨o,h1,h2,h3⟩:=op;obtain rfl:=hv us hus;have hg:∃ dd n sl,s.heap.get? tp=some ⟨.type "tuple",dd,.seq us.toArray n,sl⟩:=by
  obtain⟨n,h3⟩:=h3;obtain⟨c,dd,da,sl⟩:=o;obtain rfl:c=.type "tuple":=h2;obtain rfl:da=.seq us.toArray n:=h3;exact⟨dd,n,sl,h1⟩
 obtain⟨dd,n,sl,hg⟩:=hg;cases ty with
 | non=>cases (show u=Value.none from rx);exact PySem.W.kia_tup PySem.W.kitx_none I.kIn True.intro hg e (fun z=>nomatch z) h
 | bl y=>cases (show u=Value.bool y from rx);exact PySem.W.kia_tup PySem.W.kitx_bool I.kIn True.intro hg e (fun z=>nomatch z) h
 | int i=>obtain⟨t,q⟩:=(show ∃ t,u=Value.int i t from rx);cases q;exact PySem.W.kia_tup PySem.W.kitx_int I.kIn True.intro hg e (fun z=>nomatch z) h
 | str y=>obtain⟨t,q⟩:=(show ∃ t,u=Value.str y t from rx);cases q;exact PySem.W.kia_tup PySem.W.kitx_str I.kIn True.intro hg e (fun z=>nomatch z) h
 | flt y=>obtain⟨t,q⟩:=(show ∃ t,u=Value.float y t from rx);cases q;exact PySem.W.kia_tup PySem.W.kitx_float I.kIn True.intro hg e (fun z=>nomatch z) h
 | @lst a xs ea =>
  cases (show u=Value.ref a from rx);obtain⟨_,_,n,_,h1⟩:=(show ObjOk X.prog X.w H s.heap a (.lst xs) from I.hok a _ ea);exact PySem.W.kia_tup PySem.W.kitx_list I.kIn ⟨_,h1,rfl⟩ hg e (fun z=>nomatch z) h
 | @frz a ob xs ea =>
  cases (show u=Value.ref a from rx);obtain⟨_,_,_,n,_,h1⟩:=(show ObjOk X.prog X.w H s.heap a (.frz ob (.lst xs)) from I.hok a _ ea);exact PySem.W.kia_tup PySem.W.kitx_list I.kIn ⟨_,h1,rfl⟩ hg e (fun z=>nomatch z) h
 | @tup a xs ea =>
  cases (show u=Value.ref a from rx);obtain⟨_,_,_,p⟩:=(show ObjOk X.prog X.w H s.heap a (.tup xs) from I.hok a _ ea);obtain⟨o,h1,h2,_⟩:=p;exact PySem.W.kia_tup PySem.W.kitx_tuple I.kIn ⟨o,h1,h2⟩ hg e (fun z=>nomatch z) h
 | @dK a kvs ea =>
  cases (show u=Value.ref a from rx);obtain⟨_,_,vs,_,p⟩:=(show ObjOk X.prog X.w H s.heap a (.dK kvs) from I.hok a _ ea);obtain⟨o,es,ep,h1,h2,_⟩:=p;exact PySem.W.kia_tup PySem.W.kitx_dict I.kIn ⟨o,h1,h2.1⟩ hg e (fun z=>nomatch z) h
 | @dT a kvs ea =>
  cases (show u=Value.ref a from rx);obtain⟨_,_,xs,_,o,es,ep,h1,h2,_⟩:=(show ObjOk X.prog X.w H s.heap a (.dT kvs) from I.hok a _ ea);exact PySem.W.kia_tup PySem.W.kitx_dict I.kIn ⟨o,h1,h2.1⟩ hg e (fun z=>nomatch z) h
 | @ins a C dx fs ea cl ha hn htk hm =>
  cases (show u=Value.ref a from rx);obtain⟨mA,O,_⟩:=yh I.hok ea;obtain⟨od,J,_⟩:=O.look;exact PySem.W.kia_tup (PySem.W.kitx_own (cl.get _) cl.hd ha hn htk hm) I.kIn J hg e (fun z=>nomatch z) h
end
theorem Zp1{K:W.Frag}{t:String}(h:t∈["int","bool","str","tuple","list","dict","NoneType"]):PySem.W.kitAny K (.type t) [.type "list",.type "tuple"]=some (t == "list" || t == "tuple"):=by
 simp only[aJ,mem_nil_iff,cG] at h;rcases h with rfl|rfl|rfl|rfl|rfl|rfl|rfl <;> with_unfolding_all rfl
noncomputable def rIsi2:List V->Hp->VK->Prop:=fun xs H Q=>∃ x tp t,xs=[x,.ref tp]/\tyN H x=some t/\H tp=some (.tup [.ty "list",.ty "tuple"])/\Q (.bl (t == "list" || t == "tuple")) H
theorem sO{X:Cx}:ca X (.builtin "isinstance") rIsi2:=by
 intro pins s Z H xs us Q I r h;obtain⟨x,tp,t,rfl,ht,hT,q⟩:=h;cases r with
 | cons r1 r2 =>
  cases r2 with
  | cons r3 r4 =>
   cases r4;cases r3;obtain⟨ty,hm⟩:=xv (K:=X.K) ht;refine Zj4 (its:=[.type "list",.type "tuple"]) I r1 ty hT (fun us hu=>?_) (Zp1 hm) fun tk=>⟨.bl _,H,I.tok _,rfl,q⟩;cases hu with
   | cons a b =>
    cases b with
    | cons c d =>
     cases d;cases a;cases c;rfl
section
variable{P:Program}{w:World}{K:W.Frag}{G:GH}{H:Hp}{k:T->GH->Prop}{x y:T}{Γ:Ev}{ta:TE}
theorem vR(h:We P w K ta Γ G fun x G1=>((∃ ts,SqI G1 x ts)\/(∀ a,x≠.ptr a)/\∀ xs,x≠.cst xs)/\k (.bl (tyT G1 x == "list" || tyT G1 x == "tuple")) G1):We P w K (tCB rIsi2 (bC ta (bC (tTup (bC (tC (.ty "list")) (bC (tC (.ty "tuple")) tNil))) tNil))) Γ G k:=fun H Z g ev Q z=>h H Z g ev _ fun v H1 x G1 s1 g1 r1 ⟨hx,q⟩=>by
 refine⟨ik (by decide),fun p hp=>?_⟩;have sm:=Same.new (o:=.tup [V.ty "list",V.ty "tuple"]) hp;have g2:=g1.same sm;exact⟨v,p,tyT G1 x,rfl,tyN_T g2 (r1.mono g1 (Stp.same sm)) hx,bJ,((z.mono s1).mono (Stp.same sm)).here g2 .bl q⟩
theorem uk{b:Bool}(h:k (.bl false) G):L2r P w K rNe (.bl b) (.bl b) G k:=l_neB (by rw[aY rfl];exact h)
theorem uN{b:Bool}(h:k (.bl true) G):L2r P w K rEq (.bl b) (.bl b) G k:=pA (by rw[aY rfl];exact h)
end
section
variable{X:Cx}{a b elt iter tg:Expr}{ifs:List Expr}{ta tb te:TE}{pos:Pos}{wi:TI}{g:TG}{tt:TT}{sc:Scope}{x:Str}
theorem wx(K:W.Frag)(ha:PE X a ta)(hb:PE X b tb)(h:X.K=K:=by rfl)(hs:xk b:=by exact fun _ _=>rfl):PE X (.Subscript a b pos) (tOp (rIxA K) ta tb):=hV (k_ix h) ha hb hs
theorem pyn(i:Nat)(hN:X.N.Nodup)(hi:X.N[i]?=some x:=by rfl)(hx:Loc X.env.scope x:=by exact Or.inl rfl)(hf:X.fn x=true\/X.env.scope.names.lookup x=some .local:=by first|exact .inl rfl|exact .inr rfl|assumption):PG X (.Name x pos) (eK i):=iM hN hi hx hf
theorem pyf(LN FN:List Str)(fr:List Nat)(hi:PI X tg iter wi)(ht:∀ cl C fp pins s H,PTs (bkCx X LN FN sc cl C fp pins s H) ifs tt)(he:∀ cl C fp pins s H,PE (bkCx X LN FN sc cl C fp pins s H) elt te)
  (hc:X.calm=true:=by rfl) (S:BkScope X.N sc X.env.scope LN FN fr:=by exact cV (by rfl)) (hg:∀ cl C fp pins s H,PG (bkCx X LN FN sc cl C fp pins s H) tg g:=by exact fun cl C fp pins s H=>iM (i:=0) (show ((_:List Str)++(_:List Str)).Nodup by decide +kernel) rfl (Or.inl rfl))
  (hs:∀ x,foldedSetIterable iter X.env x=pure x:=by intro _;rfl):PE X (.ListComp elt [⟨tg,iter,ifs,0⟩] sc pos) (fW LN fr wi g tt te):=fO hc S hi hg ht he hs
theorem pyc(LN FN:List Str)(fr:List Nat)(hi:PI X tg iter wi)(he:∀ cl C fp pins s H,PE (bkCx X LN FN sc cl C fp pins s H) elt te)
  (hc:X.calm=true:=by rfl) (S:BkScope X.N sc X.env.scope LN FN fr:=by exact cV (by rfl)) (hg:∀ cl C fp pins s H,PG (bkCx X LN FN sc cl C fp pins s H) tg g:=by exact fun cl C fp pins s H=>iM (i:=0) (show ((_:List Str)++(_:List Str)).Nodup by decide +kernel) rfl (Or.inl rfl))
  (hs:∀ x,foldedSetIterable iter X.env x=pure x:=by intro _;rfl):PE X (.ListComp elt [⟨tg,iter,[],0⟩] sc pos) (fW LN fr wi g iK te):=fO hc S hi hg (fun _ _ _ _ _ _=>di) he hs
theorem pyw(i:Nat){es:List Expr}{t:TA}(hr:PA X es t)(hN:X.N[i]?=some x:=by rfl)(hv:Vis X.env.scope x:=by first|exact Or.inl rfl|exact Or.inr (Or.inl rfl)|exact Or.inr (Or.inr rfl))(hd:(x == ("__debug__":Str))=false:=by decide)(hc:(x == ("__classdict__":Str))=false:=by decide):PA X (.Name x pos::es) (bC (tVar i) t):=bn (pv i hN hv hd hc) hr
theorem pyv(i:Nat)(hN:X.N[i]?=some x:=by rfl)(hv:Vis X.env.scope x:=by first|exact Or.inl rfl|exact Or.inr (Or.inl rfl)|exact Or.inr (Or.inr rfl))(hd:(x == ("__debug__":Str))=false:=by decide)(hc:(x == ("__classdict__":Str))=false:=by decide):PA X [.Name x pos] (bC (tVar i) tNil):=bn (pv i hN hv hd hc) ae
theorem pyk{k:Nat}{ps:List Str}{sp:Sp}{p:Pos}{e:Expr}{es:List Expr}{t:TA}(C:Callee X.prog X.w X.K X.mg X.base x k ps sp)(hr:Room k X.A)(ha:PA X (e::es) t)(hg:Gl X x:=by rfl)(hdb:(x == ("__debug__":Str))=false:=by decide)
  (he:starEach (e::es) X.env=(false,eval e X.env)::starEach es X.env:=by rfl) (hpl:(backTo pos (starEach es X.env)).any (·.1)=false:=by rfl):PE X (.Call (.Name x p) (e::es) [] pos) (ij sp [] E0 t):=gF C hr hg ha hdb he hpl
end
end L2
end
section
open PySem L2
local macro_rules|`(tactic| ac_nf)=>`(tactic| exact ⟨rfl,rfl,rfl,by decide +kernel,rfl,by decide +kernel,by decide +kernel⟩)
local macro_rules|`(tactic| walk_at"rd1")=>`(tactic| (first|((with_reducible refine' rd_var ?e ?_); (case e => exact rfl))|with_reducible (first|refine rd_c ?_|refine rd_op ?_|refine rd_seq ?_|refine rd_asg ?_|refine Znc ?_|refine rd_ret ?_|refine Zpf ?_|refine rd_if ?_|refine Zpd ?_|refine rd_and ?_|refine xu ?_|refine rd_nil ?_|refine Zpi ?_|refine rd_cb ?_|refine Zpl ?_|refine rd_I0 ?_|refine uD ?_|refine wo ?_|refine yg ?_|refine tV ?_|refine uw ?_|refine u9 ?_|refine rd_bl ?_|refine rd_int ?_|refine rd_lst ?_|refine Zph ?_|refine Zm9 ?_|refine Zla ?_|refine Zpe ?_|refine Zpj ?_|refine Znb ?_|refine rd_for ?_|refine rd_abs ?_|refine rA ?_|refine qF ?_|refine iteF ?_|refine iteT ?_)))
local macro_rules|`(tactic| walk_at"rd")=>`(tactic| (repeat walk_at"rd1"))
local macro_rules|`(tactic| walk_at"mk")=>`(tactic| refine ⟨fH rfl, ?_⟩)
local macro_rules|`(tactic| walk_at"w1x")=>`(tactic| (first|((with_reducible guard_target =~ We _ _ _ _ _ _ _); (first|((with_reducible refine' jd ?e ?_); (case e => exact rfl))|with_reducible (first|refine w5 ?_|refine xF ?_|refine xz ?_)|with_reducible (first|refine mz ?_|refine xT ?_|refine wJ ?_|refine t9 ?_|refine tZ ?_|refine sR ?_|refine wq ?_|refine wm ?_)|((with_reducible refine' vH ?e ?_); (case e => decide))|with_reducible (first|refine vR ?_|refine wW ?_|refine xE ?_|refine xc ?_|refine xD ?_|refine tO ?_|refine vB ?_|refine tH ?_|refine wG ?_|refine pR ?_|refine qg ?_|refine pj ?_|refine ux ?_|refine vU ?_|refine tK ?_)|((with_reducible refine' uM ?e ?_); (case e => exact rfl))))|with_reducible (first|refine gE ?_|refine oV ?_)|((with_reducible guard_target =~ L2r _ _ _ _ _ _ _ _); (first|with_reducible (first|refine l_II ?_|refine l_IB ?_|refine uk ?_|refine uN ?_|refine sL ?_|refine vS ?_|refine uX ?_|refine xC ?_|refine pA ?_|refine xO ?_|refine vK ?_|refine sM ?_)|((with_reducible refine' eA ?e ?_); (case e => first|exact rfl|exact at_0|exact at_1|exact at_2))))|((with_reducible guard_target =~ Ws _ _ _ _ _ _ _); (first|with_reducible (first|refine jZ ?_|refine cw ?_|refine dC ?_|refine iF ?_|refine jv ?_|refine lU ?_|refine tz ?_)))|with_reducible (first|refine bt ?_|refine tU ?_)|((with_reducible refine' cf ?e ?_); (case e => exact rfl))|with_reducible (first|refine iT ?_|refine dR ?_)|((with_reducible guard_target =~ Wt _ _ _ _ _ _ _); (first|with_reducible (first|refine xm ?_|refine wt_b ?_|refine vD ?_|refine vI ?_|refine wp ?_|refine mD ?_)))|((with_reducible guard_target =~ LNr _ _ _ _ _ _ _); (first|with_reducible (first|refine vm ?_|refine sU ?_|refine wI ?_|refine vX ?_|refine uA ?_)))|((with_reducible guard_target =~ Wi _ _ _ _ _ _ _); (first|with_reducible (first|refine vc ?_|refine uE ?_|refine wY ?_|refine uP ?_|refine wX ?_)))|with_reducible (first|refine tD ?_|refine u8 ?_)|with_reducible refine l_U ?_|with_reducible (first|refine rA ?_|refine qF ?_|refine iteF ?_|refine iteT ?_)|((with_reducible refine' uG ?e ?_); (case e => exact rfl))|((with_reducible refine' w4 ?e ?_); (case e => exact rfl))|with_reducible (first|refine yj ?_|refine xh ?_)|((with_reducible refine' tk_d ?e ?_); (case e => exact rfl))|((with_reducible refine' vb ?e ?_); (case e => exact rfl))))
local macro_rules|`(tactic| walk_at"lnx")=>`(tactic| (intro _ _ _ h; repeat (first|(rw [h.1]; rfl)|(obtain ⟨_, h⟩ := h))))
local macro_rules|`(tactic| ext)=>`(tactic| (repeat walk_at"w1x"))
local macro_rules|`(tactic| walk_at"wy")=>`(tactic| (repeat first|with_reducible (first|refine vd ?_|refine ZoY ?_|refine ZoL ?_)|walk_at"w1x"))
local macro_rules|`(tactic| walk_at"w1z")=>`(tactic| (first|((with_reducible guard_target =~ We _ _ _ _ _ _ _); (first|((with_reducible refine' jd ?e ?_); (case e => exact rfl))|with_reducible (first|refine w5 ?_|refine xF ?_|refine xz ?_)|with_reducible (first|refine mz ?_|refine xT ?_|refine wJ ?_|refine t9 ?_|refine tZ ?_|refine sR ?_|refine wq ?_|refine wm ?_)|((with_reducible refine' vH ?e ?_); (case e => decide))|with_reducible (first|refine vR ?_|refine wW ?_|refine xE ?_|refine xc ?_|refine xD ?_|refine tO ?_|refine vB ?_|refine tH ?_|refine wG ?_|refine pR ?_|refine qg ?_|refine pj ?_|refine ux ?_|refine vU ?_|refine tK ?_|refine ZoS ?_)|((with_reducible refine' uM ?e ?_); (case e => exact rfl))))|with_reducible (first|refine gE ?_|refine oV ?_)|((with_reducible guard_target =~ L2r _ _ _ _ _ _ _ _); (first|with_reducible (first|refine l_II ?_|refine l_IB ?_|refine uk ?_|refine uN ?_|refine sL ?_|refine vS ?_|refine uX ?_|refine xC ?_|refine pA ?_|refine xO ?_|refine vK ?_|refine sM ?_)|((with_reducible refine' eA ?e ?_); (case e => first|exact rfl|exact at_0|exact at_1|exact at_2))))|((with_reducible guard_target =~ Ws _ _ _ _ _ _ _); (first|with_reducible (first|refine jZ ?_|refine cw ?_|refine dC ?_|refine iF ?_|refine jv ?_|refine lU ?_|refine tz ?_)))|with_reducible (first|refine bt ?_|refine tU ?_)|((with_reducible refine' cf ?e ?_); (case e => exact rfl))|with_reducible (first|refine iT ?_|refine dR ?_)|((with_reducible guard_target =~ Wt _ _ _ _ _ _ _); (first|with_reducible (first|refine xm ?_|refine wt_b ?_|refine vD ?_|refine vI ?_|refine wp ?_|refine mD ?_)))|((with_reducible guard_target =~ LNr _ _ _ _ _ _ _); (first|with_reducible (first|refine vm ?_|refine sU ?_|refine wI ?_|refine vX ?_|refine uA ?_)))|((with_reducible guard_target =~ Wi _ _ _ _ _ _ _); (first|with_reducible (first|refine vc ?_|refine uE ?_|refine wY ?_|refine uP ?_|refine wX ?_)))|with_reducible (first|refine tD ?_|refine u8 ?_)|with_reducible refine l_U ?_|with_reducible (first|refine rA ?_|refine qF ?_|refine iteF ?_|refine iteT ?_)|((with_reducible refine' uG ?e ?_); (case e => exact rfl))|((with_reducible refine' w4 ?e ?_); (case e => exact rfl))|with_reducible (first|refine yj ?_|refine xh ?_)|((with_reducible refine' tk_d ?e ?_); (case e => exact rfl))|((with_reducible refine' vb ?e ?_); (case e => exact rfl))))
local macro_rules|`(tactic| walk_at"wz")=>`(tactic| (repeat walk_at"w1z"))
section
namespace My
open PySem L2
noncomputable def top(i:Nat):Stmt:=PySem.Challenge.pw_midlanes_k33_whole_no_fault.main.body.getD i (.Pass ⟨0,0,0,0⟩)
noncomputable abbrev qi:Stmt:=top 1
noncomputable abbrev pE:Stmt:=top 3
noncomputable abbrev pF:Stmt:=top 4
noncomputable abbrev rL:Stmt:=top 5
noncomputable abbrev pC:Stmt:=top 6
noncomputable abbrev rC:Stmt:=top 7
noncomputable abbrev pQ:Stmt:=top 8
noncomputable abbrev qU:Stmt:=top 9
noncomputable abbrev o5:Stmt:=top 10
noncomputable abbrev ox:Stmt:=top 11
noncomputable abbrev qN:Stmt:=top 12
noncomputable abbrev o0:Stmt:=top 13
noncomputable abbrev pZ:Stmt:=top 14
noncomputable abbrev qm:Stmt:=top 17
noncomputable abbrev o9:Stmt:=top 18
noncomputable abbrev pV:Stmt:=top 21
noncomputable abbrev qJ:Stmt:=top 22
noncomputable abbrev rD:Stmt:=top 23
noncomputable abbrev pI:Stmt:=top 24
noncomputable abbrev pL:Stmt:=top 25
noncomputable abbrev nU:Stmt:=top 26
noncomputable abbrev pT:Stmt:=top 27
noncomputable abbrev rO:Stmt:=top 34
noncomputable abbrev rF:Stmt:=top 35
noncomputable abbrev oy:Stmt:=top 36
noncomputable abbrev pz:Stmt:=top 37
noncomputable abbrev qw:Stmt:=top 38
noncomputable abbrev oz:Stmt:=top 39
noncomputable abbrev pb:Stmt:=top 40
noncomputable abbrev qE:Stmt:=top 41
noncomputable abbrev pN:Stmt:=top 42
noncomputable abbrev oB:Stmt:=top 43
noncomputable abbrev qK:Stmt:=top 44
noncomputable abbrev rj:Stmt:=top 45
noncomputable abbrev qB:Stmt:=top 46
noncomputable abbrev qx:Stmt:=top 47
noncomputable abbrev og:Stmt:=top 48
noncomputable abbrev p7:Stmt:=top 49
noncomputable abbrev qG:Stmt:=top 51
noncomputable abbrev oE:Stmt:=top 52
noncomputable abbrev oU:Stmt:=top 53
noncomputable abbrev qc:Stmt:=top 54
noncomputable abbrev qR:Stmt:=top 55
noncomputable abbrev rg:Stmt:=top 56
noncomputable abbrev qj:Stmt:=top 57
noncomputable abbrev oj:Stmt:=top 58
noncomputable abbrev oI:Stmt:=top 59
noncomputable abbrev ot:Stmt:=top 60
noncomputable abbrev rH:Stmt:=top 61
noncomputable abbrev pG:Stmt:=top 62
noncomputable abbrev oN:Stmt:=top 63
noncomputable abbrev nZ:Stmt:=top 64
noncomputable abbrev n9:Stmt:=top 65
noncomputable abbrev n6:Stmt:=top 66
noncomputable abbrev p9:Stmt:=top 67
noncomputable abbrev pD:Stmt:=top 68
noncomputable abbrev nT:Stmt:=top 69
noncomputable abbrev o7:Stmt:=top 70
noncomputable abbrev oW:Stmt:=top 71
noncomputable abbrev pH:Stmt:=top 72
noncomputable abbrev mF:Stmt:=top 73
section
open PySem.W PyProof.Rows
noncomputable def oJ(n:String)(t l a r u:Nat):Obj:=oC #[xs n t,xs n (t+1),xs "/claim/cut.py" (t+2),xi l 0,xi a 0,xi 0 0,xi 0 0,xi 3 0,xr r,.bool true,xi 181 0,xr (r+1),.none,xr (r+2),xr (r+3),xr (r+4),xi u 0,xi l 0,xs "/claim/cut.py" (u+1)]
noncomputable def pK(c:Nat)(n:String)(st:Stmt)(m:String)(z t l a:Nat)(R:Frag):Frag:=(c,oK n t l a (c-3))::(c+1,oG (Str.ofString n) st m z c)::R
noncomputable def pJ(c:Nat)(n:String)(st:Stmt)(m:String)(z t l a u:Nat)(R:Frag):Frag:=(c,oJ n t l a (c-5) u)::(c+1,oG (Str.ofString n) st m z c)::R
noncomputable abbrev LN0:String:="law_midlanes_k33_whole_no_fault"
noncomputable def KK(P:Params):Frag:=
.cons (3,oD #[xe P "__name__" 165 (xs LN0 553),xe P "__doc__" 166 (.none),xe P "__package__" 167 (.none),xe P "__loader__" 168 (.builtin "__main__.__loader__#opaque"),xe P "__spec__" 169 (.none),xf P "__annotations__" 170 6,xf P "__builtins__" 171 4,xe P "__file__" 173 (xs "/claim/cut.py" 172),xe P "__cached__" 174 (.none),xf P "is_whole" 195 21,xf P "plain" 204 28,xf P "of_word" 211 35,xf P "plus" 219 42,xf P "less" 227 49,xf P "times" 236 56,xf P "put_in" 248 63,xf P "is_plain" 255 70,xf P "is_form" 265 77,xf P "is_two" 272 84,xf P "joined" 282 91,xf P "gather" 293 98,xf P "with_numbers" 299 103,xf P "RECKONINGS" 307 104,xf P "row_of" 315 111,xf P "goes_to_row" 323 118,xe P "MOST_SIGN_FRAMES" 327 (xi (4) 326),xf P "silent" 338 125,xf P "reckoned" 346 132,xf P "with_box" 356 139,xf P "at_row" 365 146,xf P "tested" 374 153,xf P "called" 380 158,xf P "filled" 386 163,xe P "MOST_STANDS" 390 (xi (100) 389),xe P "MOST_WORDS" 392 (xi (40) 391),xe P "MOST_EDGE_ROWS" 394 (xi (200) 393),xf P "DEED_PARTS" 415 164,xf P "DEED_ROWS" 426 171,xf P "fault" 432 179,xf P "stand_fault" 442 186,xf P "paper_fits" 448 191,xf P "frame_fits" 454 196,xf P "calls" 464 203,xf P "deed_fits" 470 208,xf P "part_fits" 478 215,xf P "edges_fit" 484 220,xf P "edges_of" 491 227,xf P "own_words" 497 232,xf P "starts_of" 510 239,xf P "edge_fits" 516 244,xf P "behind_rows" 526 251,xf P "round_fault" 534 258,xf P "is_on_round" 544 265,xf P "led_rowless" 552 272,xf P "_law_bag" 560 277,xf P "_law_draw" 569 284,xf P "_law_number" 576 291,xf P "_law_row" 582 296,xf P "_law_def" 588 301,xf P "_law_program" 594 306,xf P "_law_sum" 600 311,xf P "_law_put" 611 318,xf P "_law_reckoned" 619 325,xf P "_law_silent" 625 330,xf P "_law_signs_put" 631 335,xf P "_law_words" 637 340,xf P "_law_laid" 643 345,xf P "_law_as_is" 649 350,xf P "_law_target" 655 355,xf P "_law_edge" 670 362,xf P "_law_at" 678 369,xf P "_law_deed" 703 376,xf P "_law_lane" 716 383,xf P "_law_alike" 722 388,xf P "_law_moved_edge" 731 395,xf P "_law_turned" 737 400,xf P "law" 743 405] 77) <|
pJ 20 "is_whole" qi "midlanes.wholes" 187 189 2 1 193 <|
pJ 27 "plain" pE "midlanes.forms" 196 198 5 1 202 <|
pJ 34 "of_word" pF "midlanes.forms" 196 205 7 1 209 <|
pJ 41 "plus" rL "midlanes.forms" 196 212 9 2 217 <|
pJ 48 "less" pC "midlanes.forms" 196 220 11 2 225 <|
pJ 55 "times" rC "midlanes.forms" 196 228 13 2 234 <|
pJ 62 "put_in" pQ "midlanes.forms" 196 237 17 2 246 <|
pJ 69 "is_plain" qU "midlanes.forms" 196 249 24 1 253 <|
pJ 76 "is_form" o5 "midlanes.forms" 196 256 26 2 263 <|
pJ 83 "is_two" ox "midlanes.forms" 196 266 37 1 270 <|
pJ 90 "joined" qN "midlanes.forms" 196 273 39 3 280 <|
pJ 97 "gather" o0 "midlanes.forms" 196 283 44 3 291 <|
pK 102 "with_numbers" pZ "midlanes.forms" 196 294 47 2 <|
.cons (104,oT #[xs "put" 302,xs "copy" 303,xs "plus" 304,xs "less" 305,xs "times" 306]) <|
pJ 110 "row_of" qm "midlanes.rows" 300 308 51 2 313 <|
pJ 117 "goes_to_row" o9 "midlanes.rows" 300 316 53 2 321 <|
pJ 124 "silent" pV "midlanes.papers" 324 328 57 2 336 <|
pJ 131 "reckoned" qJ "midlanes.papers" 324 339 72 2 344 <|
pJ 138 "with_box" rD "midlanes.papers" 324 347 82 3 354 <|
pJ 145 "at_row" pI "midlanes.papers" 324 357 85 2 363 <|
pJ 152 "tested" pL "midlanes.papers" 324 366 88 2 372 <|
pK 157 "called" nU "midlanes.papers" 324 375 91 3 <|
pK 162 "filled" pT "midlanes.papers" 324 381 95 2 <|
.cons (164,oD #[xf P "go" 395 165,xf P "test" 397 166,xf P "tell" 400 167,xf P "take" 402 168,xf P "hold" 404 169,xf P "leave" 408 170] 6) <|
.cons (165,oT #[xs "edge" 396]) <|
.cons (166,oT #[xs "edge" 398,xs "edge" 399]) <|
.cons (167,oT #[xs "edge" 401]) <|
.cons (168,oT #[xs "edge" 403]) <|
.cons (169,oT #[xs "number" 405,xs "number" 406,xs "edge" 407]) <|
.cons (170,oT #[]) <|
.cons (171,oD #[xf P "test" 416 172,xf P "tell" 419 173,xf P "take" 421 174] 3) <|
.cons (172,oT #[xs "zero" 417,xs "below" 418]) <|
.cons (173,oT #[xs "tell" 420]) <|
.cons (174,oT #[xs "take" 422]) <|
pK 178 "fault" rO "midlanes.judge" 387 427 103 2 <|
pJ 185 "stand_fault" rF "midlanes.judge" 387 433 112 4 440 <|
pK 190 "paper_fits" oy "midlanes.judge" 387 443 120 3 <|
pK 195 "frame_fits" pz "midlanes.judge" 387 449 126 3 <|
pJ 202 "calls" qw "midlanes.judge" 387 455 132 3 462 <|
pK 207 "deed_fits" oz "midlanes.judge" 387 465 135 2 <|
pJ 214 "part_fits" pb "midlanes.judge" 387 471 145 2 476 <|
pK 219 "edges_fit" qE "midlanes.judge" 387 479 149 4 <|
pJ 226 "edges_of" pN "midlanes.judge" 387 485 153 1 489 <|
pK 231 "own_words" oB "midlanes.judge" 387 492 157 1 <|
pJ 238 "starts_of" qK "midlanes.judge" 387 498 165 3 508 <|
pK 243 "edge_fits" rj "midlanes.judge" 387 511 177 6 <|
pJ 250 "behind_rows" qB "midlanes.judge" 387 517 186 3 524 <|
pJ 257 "round_fault" qx "midlanes.judge" 387 527 192 1 532 <|
pJ 264 "is_on_round" og "midlanes.judge" 387 535 197 2 542 <|
pJ 271 "led_rowless" p7 "midlanes.judge" 387 545 204 1 550 <|
pK 276 "_law_bag" qG LN0 553 555 210 1 <|
pJ 283 "_law_draw" oE LN0 553 561 215 2 567 <|
pJ 290 "_law_number" oU LN0 553 570 226 1 574 <|
pK 295 "_law_row" qc LN0 553 577 230 4 <|
pK 300 "_law_def" qR LN0 553 583 246 3 <|
pK 305 "_law_program" rg LN0 553 589 261 1 <|
pK 310 "_law_sum" qj LN0 553 595 267 3 <|
pJ 317 "_law_put" oj LN0 553 601 274 2 609 <|
pJ 324 "_law_reckoned" oI LN0 553 612 279 2 617 <|
pK 329 "_law_silent" ot LN0 553 620 285 2 <|
pK 334 "_law_signs_put" rH LN0 553 626 311 2 <|
pK 339 "_law_words" pG LN0 553 632 313 1 <|
pK 344 "_law_laid" oN LN0 553 638 315 4 <|
pK 349 "_law_as_is" nZ LN0 553 644 335 3 <|
pK 354 "_law_target" n9 LN0 553 650 349 4 <|
pJ 361 "_law_edge" n6 LN0 553 656 365 6 668 <|
pJ 368 "_law_at" p9 LN0 553 671 372 2 676 <|
pJ 375 "_law_deed" pD LN0 553 679 374 5 701 <|
pJ 382 "_law_lane" nT LN0 553 704 398 2 714 <|
pK 387 "_law_alike" o7 LN0 553 717 409 2 <|
pJ 394 "_law_moved_edge" oW LN0 553 723 419 3 729 <|
pK 399 "_law_turned" pH LN0 553 732 421 2 <|
pK 404 "law" mF LN0 553 738 429 1 <| []
noncomputable def AA:List Addr:=[3,20,21,27,28,34,35,41,42,48,49,55,56,62,63,69,70,76,77,83,84,90,91,97,98,102,103,104,110,111,117,118,124,125,131,132,138,139,145,146,152,153,157,158,162,163,164,165,166,167,168,169,170,171,172,173,174,178,179,185,186,190,191,195,196,202,203,207,208,214,215,219,220,226,227,231,232,238,239,243,244,250,251,257,258,264,265,271,272,276,277,283,284,290,291,295,296,300,301,305,306,310,311,317,318,324,325,329,330,334,335,339,340,344,345,349,350,354,355,361,362,368,369,375,376,382,383,387,388,394,395,399,400,404,405]
theorem AK:∀ P,AA=(KK P).map (·.1):=fun _=>by kernel_rfl
noncomputable abbrev HH:Hook:=kHook KK AA AK
noncomputable def QQ:Program:=view PySem.Challenge.pw_midlanes_k33_whole_no_fault [1,3,4,5,6,7,8,9,10,11,12,13,14,16,17,18,20,21,22,23,24,25,26,27,29,30,31,32,33,34,35,36,37,38,39,40,41,42,43,44,45,46,47,48,49,51,52,53,54,55,56,57,58,59,60,61,62,63,64,65,66,67,68,69,70,71,72,73]
noncomputable abbrev XX:Shared->Bool:=fun s=>xlAt QQ [] s&&recOk PySem.Challenge.rw_midlanes_k33_whole_no_fault.row.records s
theorem L0:LB "special-get-raises" false PySem.Challenge.pw_midlanes_k33_whole_no_fault QQ ["DEED_PARTS","DEED_ROWS"] XX HH.obs HH.val 4274:=fun w os=>by kernel_rfl
theorem L1:LB "special-get-raises" true PySem.Challenge.pw_midlanes_k33_whole_no_fault QQ ["DEED_PARTS","DEED_ROWS"] XX HH.obs HH.val 4274:=fun w os=>by kernel_rfl
theorem SD:OpenLaw.wellSaid PySem.Challenge.rw_midlanes_k33_whole_no_fault=true:=by
 rw[Fast.te9446332074065402090]
 kernel_rfl
end
structure Tq(P:Program)(w:World)(K:W.Frag)(mg:Str->Option Value)(base:Heap):Prop where
 b_abs:mg "abs"=none
 b_all:mg "all"=none
 b_bool:mg "bool"=none
 b_int:mg "int"=none
 b_isinstance:mg "isinstance"=none
 b_len:mg "len"=none
 b_list:mg "list"=none
 b_max:mg "max"=none
 b_min:mg "min"=none
 b_range:mg "range"=none
 b_sorted:mg "sorted"=none
 b_str:mg "str"=none
 b_sum:mg "sum"=none
 b_tuple:mg "tuple"=none
 b_zip:mg "zip"=none
 c_DEED_PARTS:IsCD K w mg "DEED_PARTS" deedT
 c_DEED_ROWS:IsCD K w mg "DEED_ROWS" deedRowsT
 c_MOST_EDGE_ROWS:∃ t,mg "MOST_EDGE_ROWS"=some (.int 200 t)
 c_MOST_SIGN_FRAMES:∃ t,mg "MOST_SIGN_FRAMES"=some (.int 4 t)
 c_MOST_STANDS:∃ t,mg "MOST_STANDS"=some (.int 100 t)
 c_MOST_WORDS:∃ t,mg "MOST_WORDS"=some (.int 40 t)
 c_RECKONINGS:IsCT K mg "RECKONINGS" [V.str "put",V.str "copy",V.str "plus",V.str "less",V.str "times"]
 a0:TopFn K mg "_law_draw" oE ["bag","many"]
 a1:TopFn K mg "_law_number" oU ["bag"]
 a2:TopFn K mg "_law_bag" qG ["script"]
 a3:TopFn K mg "_law_row" qc ["bag","boxes","many","signs"]
 a4:TopFn K mg "_law_def" qR ["bag","signs","sign"]
 a5:TopFn K mg "_law_program" rg ["bag"]
 a6:TopFn K mg "plain" pE ["n"]
 a7:TopFn K mg "of_word" pF ["w"]
 a8:TopFn K mg "is_plain" qU ["form"]
 a9:TopFn K mg "gather" o0 ["numbers","form","n"]
 b0:TopFn K mg "with_numbers" pZ ["c","numbers"]
 b1:TopFn K mg "joined" qN ["one","other","n"]
 b2:TopFn K mg "plus" rL ["one","other"]
 b3:TopFn K mg "less" pC ["one","other"]
 b4:TopFn K mg "times" rC ["form","n"]
 b5:TopFn K mg "put_in" pQ ["form","forms"]
 b6:TopFn K mg "row_of" qm ["program","frame"]
 b7:TopFn K mg "goes_to_row" o9 ["row","number"]
 b8:TopFn K mg "with_box" rD ["frames","p","form"]
 b9:TopFn K mg "at_row" pI ["frames","at"]
 c0:TopFn K mg "reckoned" qJ ["row","forms"]
 c1:TopFn K mg "tested" pL ["frames","row"]
 c2:TopFn K mg "called" nU ["program","row","forms"]
 c3:TopFn K mg "silent" pV ["program","frames"]
 c4:TopFn K mg "filled" pT ["frames","forms"]
 c5:TopFn K mg "is_whole" qi ["thing"]
 c6:TopFn K mg "is_two" ox ["thing"]
 c7:TopFn K mg "is_form" o5 ["thing","many"]
 c8:TopFn K mg "calls" qw ["program","frame","after"]
 c9:TopFn K mg "frame_fits" pz ["program","many","frame"]
 d0:TopFn K mg "paper_fits" oy ["program","many","paper"]
 d1:TopFn K mg "part_fits" pb ["part","kind"]
 d2:TopFn K mg "edges_of" pN ["deed"]
 d3:TopFn K mg "own_words" oB ["stand"]
 d4:TopFn K mg "starts_of" qK ["program","stand","own"]
 d5:TopFn K mg "behind_rows" qB ["program","frames","rows"]
 d6:TopFn K mg "led_rowless" p7 ["deed"]
 d7:TopFn K mg "is_on_round" og ["lane","k"]
 d8:TopFn K mg "round_fault" qx ["lane"]
 d9:TopFn K mg "_law_sum" qj ["one","other","n"]
 e0:TopFn K mg "_law_put" oj ["form","forms"]
 e1:TopFn K mg "_law_words" pG ["many"]
 e2:TopFn K mg "_law_reckoned" oI ["row","forms"]
 e3:TopFn K mg "_law_silent" ot ["program","signs"]
 e4:TopFn K mg "_law_signs_put" rH ["signs","forms"]
 e5:TopFn K mg "_law_at" p9 ["signs","at"]
 e6:TopFn K mg "_law_laid" oN ["bag","lane","frames","known"]
 e7:TopFn K mg "_law_as_is" nZ ["lane","keys","frames"]
 e8:TopFn K mg "_law_target" n9 ["bag","lane","keys","frames"]
 e9:TopFn K mg "_law_edge" n6 ["bag","program","lane","keys","frames","rows"]
 f0:TopFn K mg "_law_deed" pD ["bag","program","lane","keys","stand"]
 f1:TopFn K mg "_law_lane" nT ["bag","program"]
 f2:TopFn K mg "edge_fits" rj ["program","lane","fits","own","start","edge"]
 f3:TopFn K mg "deed_fits" oz ["program","stand"]
 f4:TopFn K mg "edges_fit" qE ["program","lane","fits","stand"]
 f5:TopFn K mg "stand_fault" rF ["program","lane","fits","k"]
 f6:TopFn K mg "fault" rO ["program","lane"]
 f7:TopFn K mg "_law_alike" o7 ["found","due"]
 f8:TopFn K mg "_law_moved_edge" oW ["edge","turn","many"]
 f9:TopFn K mg "_law_turned" pH ["lane","turn"]
section
variable{P:Program}{w:World}{K:W.Frag}{mg:Str->Option Value}{base:Heap}
theorem sc__law_draw:FnScope ["bag","many","found"] ["bag","many"] (aC oE):=by ac_nf
theorem br(tq:Tq P w K mg base):Callee P w K mg base "_law_draw" 1 ["bag","many"] m4:=by
 refine tq.a0.ok2 sc__law_draw fun f cdv A outer s H v1 v2 Q E hr h=>?_;have nd:=sc__law_draw.nd;obtain⟨b,l,n,rfl,rfl,⟨hn,hn2⟩,Bg,k⟩:=h;obtain⟨xs,i,m,st,c,hb,hl,hi,⟨hm0,hm1⟩,⟨hs0,hs1⟩,hxs,hlen⟩:=Bg.ex;have nbl:l≠b:=ne_of hl hb (by
  intro z;injection z with z
  cases xs <;> simp[bagL] at z)
 have hl2:∀ o,upd H b o l=some (.lst (xs.map V.int)):=fun o=>by rw[bv nbl];exact hl
 refine' m6 [some (.ref b),some (.int n),none] rfl ?hb ?hg
 case hb=>exact(ag (aK (PW.pt (bT (aA bc (wx K (pv 0) aa) aa (ax _)) (cC (aA dO (wx K (pv 0) aa) (aG (bj (K:=K) rfl) (by rfl) tq.b_len bi (aB (wx K (pv 0) aa) ae)) (ax _))))) (ag (bV (wx K (wx K (pv 0) aa) (wx K (pv 0) aa)) (cH (pv 0) aa cK)) (ai (bV (au bD (wx K (pv 0) aa) aa) (cH (pv 0) aa cK)))) (ai (aK (aA bc (wx K (pv 0) aa) aa (ax _)) (ag (bV (au bD (wx K (pv 0) aa) aa) (cH (pv 0) aa cK)) (ag (bV (au fL (au bD (au bD (au bD (au kC (wx K (pv 0) aa) aa) (au o8 aa (wx K (pv 0) aa))) (au o8 aa (wx K (pv 0) aa))) aa) aa) (cH (pv 0) aa cK)) (ai (aq (au fL (au kM (wx K (pv 0) aa) aa) (pv 1)))))) aQ))) (ag (dB (i:=2) nd rfl (Or.inl rfl) (au fL (wx K (pv 0) aa) (pv 1))) (ag (bV (au kM (wx K (pv 0) aa) (pv 1)) (cH (pv 0) aa cK)) (ai (aq (pv 2))))))
 have fin:∀ (j:Nat) (m':Int),j<=xs.length->0<=m'->m'<=10^60->∀ H1,BSame b H H1->H1 b=some (.lst (bagL l j m' st c))->H1 l=some (.lst (xs.map V.int)) ->
   Q (.int (m' % n)) (upd H1 b (.lst (bagL l j (m' / n) st c))):=by
  intro j m' hj h0 h1 H1 bs hb1 hl1;have hd0:0<=m' / n:=Int.ediv_nonneg h0 (Int.le_of_lt hn);have hd1:m' / n<=m':=Int.ediv_le_self _ h0;refine k _ _ (jR _ (by lia)) (jS _ hn) ⟨xs,j,m' / n,st,c,bJ,by rw[bv nbl];exact hl1,hj,⟨hd0,by lia⟩,⟨hs0,hs1⟩,hxs,hlen⟩ (bs.trans BSame.wr)
 have tail:∀ (j:Nat) (m':Int) (σ2:St),σ2=[some (.ref b),some (.int n),none]->j<=xs.length->0<=m'->m'<=10^60->∀ H1,BSame b H H1->H1 b=some (.lst (bagL l j m' st c))->H1 l=some (.lst (xs.map V.int)) ->
   tSeq (tAsg (tOp (rI (fun _ j=>0<j) fun i j=>.int (i % j)) (tOp (rIxA K) (tVar 0) (tC (.int 2))) (tVar 1)) (eK 2))
    (tSeq (tAsg (tOp (rI jx fun i j=>.int (i / j)) (tOp (rIxA K) (tVar 0) (tC (.int 2))) (tVar 1)) (gSub (tVar 0) (tC (.int 2)) lP)) (tRet (tVar 2))) { nx:=fun _ H'=>Q .non H',rt:=Q } σ2 H1:=by
  intro j m' σ2 e hj h0 h1 H1 bs hb1 hl1;subst e;walk_at"rd";refine dA (v:=.int m') hb1 rfl ?_;walk_at"rd";refine rd_I hn ?_;walk_at"rd";refine dA (v:=.int m') hb1 rfl ?_;walk_at"rd";refine rd_I (kU hn (by lia)) ?_;walk_at"rd";refine kh (k:=2) hb1 rfl ?_;walk_at"rd";exact fin j m' hj h0 h1 H1 bs hb1 hl1
 walk_at"rd";refine dA (v:=.int m) hb rfl ?_;walk_at"rd";refine dF (fun hm=>?_) (fun hm=>?_)
 .walk_at"rd";refine dA (v:=.int i) hb rfl ?_;walk_at"rd";refine dA (v:=.ref l) hb rfl ?_;walk_at"rd";refine xV (SqL.of hl) ?_;walk_at"rd";rw[af];refine dF (fun hi2=>?_) (fun hi2=>?_)
  .walk_at"rd";refine dA (v:=.ref l) hb rfl ?_;walk_at"rd";refine dA (v:=.int i) hb rfl ?_;walk_at"rd";have hil:i < xs.length:=by lia
   have hxi:=hxs _ (getElem_mem hil);refine dA (v:=.int xs[i]) hl (cD (n:=i) rfl (by rw[ah,ay hil];rfl)) ?_;walk_at"rd";refine kh (k:=2) hb rfl ?_;walk_at"rd";refine dA (v:=.int i) bJ rfl ?_;walk_at"rd";refine kh (k:=1) bJ rfl ?_;exact tail (i+1) xs[i] _ rfl (by lia) hxi.1 hxi.2 _ (BSame.wr.trans BSame.wr) bJ (by rw[bv nbl];exact hl2 _)
  .walk_at"rd";refine dA (v:=.int m) hb rfl ?_;walk_at"rd";refine wF hm ?_;walk_at"rd";refine dA (v:=.int c) hb rfl ?_;walk_at"rd";refine kh (k:=4) hb rfl ?_;walk_at"rd";refine dA (v:=.int st) bJ rfl ?_;walk_at"rd";refine rd_I ⟨by decide,by decide,by lia⟩ ?_;walk_at"rd";refine dA (v:=.int st) bJ rfl ?_;walk_at"rd";refine rd_I (.inl ⟨by decide,by decide⟩) ?_;walk_at"rd";refine dA (v:=.int (c+1)) bJ rfl ?_;walk_at"rd";refine rd_I (.inl ⟨by decide,by decide⟩) ?_;walk_at"rd";refine rd_I (by decide) ?_;walk_at"rd";refine kh (k:=3) bJ rfl ?_;walk_at"rd";generalize hst:(st ^ (3:Int).toNat+48271 * st+1013 * (c+1)+1) % 2147483647=st';have h0:0<=st':=by rw[<-hst];exact jR _ (by decide)
   have h1:st'<2147483647:=by rw[<-hst];exact jS _ (by decide)
   refine dA (v:=.int st') bJ rfl ?_;walk_at"rd";refine rd_I (kU (by decide) (by decide +kernel)) ?_;walk_at"rd";refine rd_I hn ?_;refine k _ _ (jR _ (by lia)) (jS _ hn) ⟨xs,i,m,st',c+1,bJ,by rw[bv nbl];exact hl2 _,hi,⟨hm0,hm1⟩,⟨h0,h1⟩,hxs,hlen⟩ (BSame.wr.trans BSame.wr)
 .walk_at"rd";refine dA (v:=.int m) hb rfl ?_;walk_at"rd";refine xl hm ?_;exact tail i m _ rfl hi hm0 hm1 H (BSame.refl _ _) hb hl
theorem sc__law_number:FnScope ["bag"] ["bag"] (aC oU):=by ac_nf
theorem tj(tq:Tq P w K mg base):Callee P w K mg base "_law_number" 2 ["bag"] wS:=by
 refine tq.a1.ok1 sc__law_number fun f cdv A outer s H v1 Q E hr h=>?_;have nd:=sc__law_number.nd;obtain⟨b,l,rfl,Bg,k⟩:=h;refine' m6 [some (.ref b)] rfl ?hb ?hg
 case hb=>exact(ag (aK (aA bc (pyk (br tq :) hr.m (pyw 0 (aj aa ae))) aa (ax _)) (ai (aq (au gj (au dQ (au gj (pyk (br tq :) hr.m (pyw 0 (aj aa ae))) aa) aa) (pyk (br tq :) hr.m (pyw 0 (bM (au kC aa aa) ae)))))) aQ) (ai (aq (au dQ (pyk (br tq :) hr.m (pyw 0 (aj aa ae))) aa))))
 walk_at"rd";refine use2 ⟨b,l,8,rfl,rfl,⟨by decide,by decide⟩,Bg,fun r H1 h0 h1 B1 b1=>?_⟩;walk_at"rd";refine dF (fun _=>?_) (fun _=>?_)
 .walk_at"rd";refine use2 ⟨b,l,2,rfl,rfl,⟨by decide,by decide⟩,B1,fun r2 H2 g0 g1 B2 b2=>?_⟩;walk_at"rd";refine rd_I (tM (by lia) (by decide +kernel)) ?_;walk_at"rd";refine rd_I lX ?_;walk_at"rd";refine use2 ⟨b,l,_,rfl,rfl,⟨by decide +kernel,by decide +kernel⟩,B2,fun r3 H3 f0 f1 B3 b3=>?_⟩;rw[ten60] at f1;refine rd_I (tM (by lia) (by lia)) ?_;refine k _ _ ?_ B3 ((b1.trans b2).trans b3);rw[lC];have e1:(r2 * 2 - 1).natAbs<=1:=by lia
  have e2:r3.natAbs<=10^60:=by lia
  calc (r2*2-1).natAbs*r3.natAbs<=1*10^60:=Nat.mul_le_mul e1 e2
   _=10^60:=by rw[lB]
 .walk_at"rd";refine use2 ⟨b,l,9,rfl,rfl,⟨by decide,by decide⟩,B1,fun r2 H2 g0 g1 B2 b2=>?_⟩;walk_at"rd";exact k _ _ (by lia) B2 (b1.trans b2)
theorem sc__law_bag:FnScope ["script","stir","cell"] ["script"] (aC qG):=by ac_nf
theorem Zkj(tq:Tq P w K mg base):Callee P w K mg base "_law_bag" 1 ["script"] (tw K):=by
 refine tq.a2.ok1 sc__law_bag fun f cdv A outer s H v1 Q E hr h=>?_;have nd:=sc__law_bag.nd;obtain⟨a,ns,rfl,hS,hlen,k⟩:=h;refine' m6 [some (.ref a),none,none] rfl ?hb ?hg
 case hb=>exact(ag (cO (i:=1) nd rfl (Or.inl rfl) aa) (ag (cE PassesOwn.never rfl (dS (K:=K) rfl (cI (k_sl (K:=K) rfl) (pv 0) cM (cN aa))) (pyn 2 nd) (ai (dB (i:=1) nd rfl (Or.inl rfl) (au fL (au bD (au bD (au o8 (pv 1) aa) (au fL (pv 2) aa)) aa) aa)))) (ai (aq (bz (dy (pyc ["cell"] [] [] (dS (K:=K) rfl (cI (k_sl (K:=K) rfl) (pv 0) cM (cN aa))) (fun _ _ _ _ _ _=>(au fL (aG mn (by rfl) tq.b_abs mY (pyv 0)) (au kC aa aa)))) (aj aa (aj aa (pyw 1 (aj aa ae))))))))))
 walk_at"rd";refine qP hS fun p hp=>?_;obtain⟨ms,em,hm⟩:=Zmt ns none (some 63);rw[em];refine vP (SqL.of bJ) ?_;have s0:=Same.new (o:=.lst (ms.map V.int)) hp;generalize hH0:upd H p (HO.lst (ms.map V.int))=H0 at s0;have hp0:H0 p=some (.lst (ms.map V.int)):=by rw[<-hH0];exact bJ
 refine ZnM (xs:=ms.map V.int) (fun i Z H1=>Ex2 fun st c2=>An4 (Z=[some (.ref a),some (.int st),c2]) (H1=H0) (0<=st) (st<2147483647)) ⟨11,none,rfl,rfl,by decide,by decide⟩ (fun i Z H1 _ z_=>by obtain⟨_,_,_,e,_⟩:=z_;rw[e];exact SqL.of hp0) ?_ ?_
 .rintro i x Z H1 hx ⟨st,c2,rfl,rfl,h0,h1⟩;obtain⟨z,rfl,_⟩:=ints_get hx;walk_at"rd";refine rd_I (.inr ⟨by decide,by decide⟩) ?_;walk_at"rd";refine rd_I (by decide) ?_;walk_at"rd";refine rd_I (by decide) ?_;walk_at"rd";exact⟨_,_,rfl,rfl,jR _ (by decide),jS _ (by decide)⟩
 .rintro Z H1 ⟨st,c2,rfl,rfl,h0,h1⟩;walk_at"rd";refine qP (s0.seq hS) fun p2 hp2=>?_;rw[em];refine vP (SqL.of bJ) ?_;have s2:=Same.new (o:=.lst (ms.map V.int)) hp2;generalize hH2:upd H1 p2 (HO.lst (ms.map V.int))=H2 at s2;have hp2':H2 p2=some (.lst (ms.map V.int)):=by rw[<-hH2];exact bJ
  refine Zqf (xs:=ms.map V.int) (ik (by rw[af];lia)) (fun i ys Z H3=>An3 (∃ x1,Z=[x1]) (H3=H2) (∃ zs:List Int,ys=zs.map V.int/\∀ z∈zs,0<=z/\z<=10^60)) ⟨⟨none,rfl⟩,rfl,[],rfl,fun _ h=>by cases h⟩ (fun i ys Z H3 _ z_=>by obtain⟨_,e,_⟩:=z_;rw[e];exact SqL.of hp2') ?_ ?_
  .rintro i x ys Z H3 hx hle hlt ⟨⟨x1,rfl⟩,rfl,zs,rfl,hz⟩;obtain ⟨z,rfl,_⟩:=ints_get hx;walk_at"rd";refine rd_I lX ?_;refine rd_I (by decide +kernel) ?_;rw[ten60];refine ⟨hlt,by simpa using hle,⟨_,rfl⟩,rfl,zs++[_],by rw[aW];rfl,fun u hu=>?_⟩;rcases aS.mp hu with hu|hu
   .exact hz u hu
   .obtain rfl:=aM.mp hu;lia
  .rintro ys Z H3 hyl ⟨⟨x1,rfl⟩,rfl,zs,rfl,hz⟩ l hl;walk_at"rd";walk_at"mk";intro bb hbb;have sA:=Same.new (o:=.lst (zs.map V.int)) hl;have sB:=Same.new (o:=.lst [V.ref l,V.int 0,V.int 0,V.int st,V.int 0]) hbb;have sall:=((s0.trans s2).trans sA).trans sB;rw[af,af] at hyl;exact k bb l _ (((s0.trans s2).trans sA).free hbb) sall ⟨zs,0,0,st,0,bJ,Zo0 bJ hbb,cb _,⟨by decide,by decide⟩,⟨h0,h1⟩,hz,by lia⟩
end
end My
end
section
namespace My
open PySem L2
section
variable{P:Program}{w:World}{K:W.Frag}{mg:Str->Option Value}{base:Heap}{C:Addr}
noncomputable abbrev sgT(s:Int×Int):T:=.tup [.int s.1,.int s.2]
noncomputable abbrev P0(sg:List (Int×Int)):List Df:=sg.map fun s=>⟨s.1,s.2,[]⟩
structure SgOk(sg:List (Int×Int)):Prop where
 l1:1<=sg.length
 l2:sg.length<=6
 s:∀ s∈sg,0<=s.1/\s.1<=s.2/\1<=s.2/\s.2<=8
def ZjT:Pre:=fun ts G k=>∃ (b l:Addr) (boxes many:Int) (sg:List (Int×Int)) (x:T),ts=[.ptr b,.int boxes,.int many,x]/\G b=some (.bag l)/\SqI G x (sg.map sgT)/\SgOk sg/\1<=boxes/\boxes<=8/\1<=many/\many<=1000/\∀ r:Rw,r.Ok (P0 sg) boxes many->k (rowT r) G
theorem sc__law_row:FnScope ["bag","boxes","many","signs","p","q","r","t","kind","some","g"] ["bag","boxes","many","signs"] (aC qc):=by ac_nf
theorem Zkg(tq:Tq P w K mg base):Callee P w K mg base "_law_row" 3 ["bag","boxes","many","signs"] (spG P w K ZjT):=by
 refine tq.a3.okG sc__law_row (by walk_at"lnx") fun f cdv A outer s H E ts G k hr hh=>?_;have nd:=sc__law_row.nd;obtain⟨b,l,boxes,many,sg,x,rfl,hb,hx,hs,b1,b8,m1,m2,q⟩:=hh;refine' go_G [some (.ptr b),some (.int boxes),some (.int many),some x,none,none,none,none,none,none,none] rfl ?hb ?hg
 case hb=>exact(ag (bI (i:=4) nd rfl (Or.inl rfl) (pyk (br tq :) hr.m (pyw 0 (pyv 1)))) (ag (bI (i:=5) nd rfl (Or.inl rfl) (pyk (br tq :) hr.m (pyw 0 (pyv 1)))) (ag (bI (i:=6) nd rfl (Or.inl rfl) (pyk (br tq :) hr.m (pyw 0 (pyv 1)))) (ag (bI (i:=7) nd rfl (Or.inl rfl) (pyk (br tq :) hr.m (pyw 0 (pyv 2)))) (ag (bI (i:=8) nd rfl (Or.inl rfl) (pyk (br tq :) hr.m (pyw 0 (aj aa ae)))) (ag (kz (i:=9) nd rfl (Or.inl rfl) (bz (bf (aw (aj aF (pyw 4 (aR (pyk (tj tq :) hr.m (pyv 0)) ae)))) (bf (aw (aj aF (pyw 4 (pyv 5)))) (bf (aw (aj aF (pyw 4 (pyw 5 (pyv 6))))) (bf (aw (aj aF (pyw 4 (pyw 5 (pyv 6))))) (bf (aw (aj aF (pyv 4))) ae))))))) (ag (dB (i:=9) nd rfl (Or.inl rfl) (au eU (pv 9) (bz (bf (aw (aj aF (pyw 4 (pyw 5 (bM (au dQ (pyk (br tq :) hr.m (pyw 0 (aj aa ae))) aa) ae))))) (bf (aw (aj aF (pyv 4))) (bf (aw (aj aF (pyw 4 (pyv 7)))) (bf (aw (aj aF (pyw 4 (pyv 7)))) ae))))))) (ag (dB (i:=9) nd rfl (Or.inl rfl) (au eU (pv 9) (bz (bf (aw (aj aF (pyv 7))) (bf (aw (aj aF (pyv 5))) (bf (aw (aj aF (pyw 4 (pyw 4 (pyv 5))))) (bf (aw (aj aF (pyw 4 (pyw 4 (pyv 6))))) (bf (aw (aj aF (pyv 5))) (bf (aw (aj aF (pyw 5 (pyv 7)))) ae))))))))) (ag (eI (k_bm (K:=K) rfl PySem.F.plainAttrs_list PySem.F.slot_list_append PySem.F.type_list_append gW (pv 9) (bf (aw (aj aF (pyv 4))) ae))) (ag (aK (aA dO (pv 8) aa (ax _)) (ai (aq (wx K (pv 9) (pv 8)))) aQ) (ag (bI (i:=10) nd rfl (Or.inl rfl) (pyk (br tq :) hr.m (pyw 0 (aR (aG (bj (K:=K) rfl) (by rfl) tq.b_len bi (pyv 3)) ae)))) (ag (aK (PW.pt (fe (aA bc (pv 8) aa (ax _)) (gh (PW.pt (bT (aA bc (aG (bj (K:=K) rfl) (by rfl) tq.b_len bi (pyv 3)) aa (ax _)) (cC (aA bc (pv 8) aa (ax _)))))))) (ai (aq (aw (aj aF (pyw 4 (pyw 5 (bM (au dQ (pyk (br tq :) hr.m (pyw 0 (aj aa ae))) aa) ae))))))) aQ) (ai (aq (aw (aj aF (pyw 4 (pyw 10 (aR (cY (ff (K:=K) rfl) (by rfl) tq.b_tuple du (dy (pyc ["k"] ["bag","boxes"] [0,1] (cX rfl tq.b_range (aB (wx K (wx K (pv 3) (pv 10)) aa) ae)) (fun _ _ _ _ _ _=>(pyk (br tq :) hr.m (pyw 1 (pyv 2))))) ae)) ae)))))))))))))))))))
 ext;refine bA hb ⟨by lia,by lia⟩ fun p p0 p1=>?_;ext;refine bA hb ⟨by lia,by lia⟩ fun q0 q1 q2=>?_;ext;refine bA hb ⟨by lia,by lia⟩ fun r r0 r1=>?_;ext;refine bA hb ⟨by lia,by lia⟩ fun t t0 t1=>?_;ext;refine bA hb ⟨by decide,by decide⟩ fun kind k0 k1=>?_;ext;refine uh hb fun n hn=>?_;ext;refine bA hb ⟨by decide,by decide⟩ fun c c0 c1=>?_;ext;refine fg si_l si_l (i5 rfl) ?_;ext;refine xI si_l si_l (i5 rfl) fun a na=>?_;have nba:b≠a:=g_ne hb na;ext;refine⟨ty_p gp_s,?_⟩;ext;refine gJ gp_s (i5 rfl) ?_;rw[gp_p];generalize hsome:Ct.lst _=cs;have hb2:gput G a cs b=some (.bag l):=by rw[gp_n nba];exact hb
 have ga:gput G a cs a=some (.lst ([Rw.put p n,.copy p q0,.plus p q0 r,.less p q0 r,.tell p,.times p q0 (c-4),.take p,.zero p t,.below p t,.jump t,.tell q0,.plus p p q0,.less p p r,.take q0,.zero q0 t,.back p].map rowT)):=by rw[gp_s,<- hsome];rfl
 have hall:∀ r'∈[Rw.put p n,.copy p q0,.plus p q0 r,.less p q0 r,.tell p,.times p q0 (c-4),.take p,.zero p t,.below p t,.jump t,.tell q0,.plus p p q0,.less p p r,.take q0,.zero q0 t,.back p],r'.Ok (P0 sg) boxes many:=by
  intro r' hr';have hp:In0 p boxes:=⟨p0,p1⟩;have hq:In0 q0 boxes:=⟨q1,q2⟩;have hr:In0 r boxes:=⟨r0,r1⟩;have ht:In0 t many:=⟨t0,t1⟩;have hc:(c-4).natAbs<=99:=by lia
  simp only[aJ,bX,cG] at hr';rcases hr' with rfl|rfl|rfl|rfl|rfl|rfl|rfl|rfl|rfl|rfl|rfl|rfl|rfl|rfl|rfl|rfl
  .exact ⟨hp,hn⟩
  .exact ⟨hp,hq⟩
  .exact ⟨hp,hq,hr⟩
  .exact ⟨hp,hq,hr⟩
  .exact hp
  .exact ⟨hp,hq,hc⟩
  .exact hp
  .exact ⟨hp,ht⟩
  .exact ⟨hp,ht⟩
  .exact ht
  .exact hq
  .exact ⟨hp,hp,hq⟩
  .exact ⟨hp,hp,hr⟩
  .exact hq
  .exact ⟨hq,ht⟩
  .exact hp
 have hcs:∀ x,cs≠.own x:=by rw[<-hsome];exact nofun
 clear hsome;ext;by_cases hk:kind<16
 .rw[aY hk];ext;have h16:[Rw.put p n,.copy p q0,.plus p q0 r,.less p q0 r,.tell p,.times p q0 (c - 4),.take p,.zero p t,.below p t,.jump t,.tell q0,.plus p p q0,.less p p r,.take q0,.zero q0 t,.back p].length=16:=rfl;generalize [Rw.put p n,.copy p q0,.plus p q0 r,.less p q0 r,.tell p,.times p q0 (c - 4),.take p,.zero p t,.below p t,.jump t,.tell q0,.plus p p q0,.less p p r,.take q0,.zero q0 t,.back p]=rs at ga hall h16;have hi:kind.toNat < rs.length:=by lia
  have e:(rs.map rowT)[kind.toNat]?=some (rowT rs[kind.toNat]):=by rw[ah,ay hi];rfl
  refine l_ix (sg_p ga) (at_i k0 e) ?_;exact fk na hcs (av (q _ (hall _ (getElem_mem hi))))
 rw[bo hk];have hx2:SqI (gput G a cs) x (sg.map sgT):=si_up na hx;have sl:=hs.l1;have sl2:=hs.l2;ext;refine cS (fj hx2) ?_;rw[af];ext;refine bA hb2 ⟨by lia,by lia⟩ fun g g0 g1=>?_;have times:We P w K (tTup (bC (tC (.str "times")) (bC (tVar 4) (bC (tVar 5) (bC (tOp (rI0 fun i j=>V.int (i-j)) (ij m4 [] E0 (bC (tVar 0) (bC (tC (.int 199)) tNil))) (tC (.int 99))) tNil))))) [some (.ptr b),some (.int boxes),some (.int many),some x,some (.int p),some (.int q0),some (.int r),some (.int t),some (.int kind),some (.ptr a),some (.int g)] (gput G a cs) (Cl k):=by
  ext;refine bA hb2 ⟨by decide,by decide⟩ fun n2 n0 n1=>?_;ext;exact fk na hcs (av (q (.times p q0 (n2-99)) ⟨⟨p0,p1⟩,⟨q1,q2⟩,by lia⟩))
 obtain⟨sgn,esg⟩:∃ s,sg[g.toNat]?=some s:=⟨_,ay (by lia)⟩;have hsg:=hs.s sgn (aD esg);have call:We P w K (tTup (bC (tC (.str "call")) (bC (tVar 4) (bC (tVar 10) (bC (tCB (kG K) (bC (fW ["k"] [0,1] (om (bC (tOp (rIxA K) (tOp (rIxA K) (tVar 3) (tVar 10)) (tC (.int 0))) tNil)) (eK 0) iK (ij m4 [] E0 (bC (tVar 1) (bC (tVar 2) tNil)))) tNil)) tNil))))) [some (.ptr b),some (.int boxes),some (.int many),some x,some (.int p),some (.int q0),some (.int r),some (.int t),some (.int kind),some (.ptr a),some (.int g)] (gput G a cs) (Cl k):=by
  ext;refine jV ?_;ext;have esg2:(sg.map sgT)[g.toNat]?=some (sgT sgn):=by rw[ah,esg];rfl
  refine l_ix (fj hx2) (at_i g0 esg2) ?_;ext;refine⟨sgn.1,rfl,by lia,by lia,?_⟩;have hrl:(rngT sgn.1.toNat).length=sgn.1.toNat:=by unfold rngT;simp
  refine⟨by rw[hrl];lia,fun i acc Γ' G'=>G'=gput G a cs/\(∃ c,Γ'=[c,some (.ptr b),some (.int boxes)])/\∃ qs:List Int,acc=qs.map T.int/\qs.length=i/\∀ q∈qs,In0 q boxes,⟨rfl,⟨_,rfl⟩,[],rfl,rfl,fun q hq=>(bX hq).elim⟩,fun _ _ _ _ _=>trivial,?_,?_⟩
  .rintro i z acc Γ' G' hz ⟨rfl,⟨c',rfl⟩,qs,rfl,hl,hq⟩;ext;refine bA hb2 ⟨by lia,by lia⟩ fun v v0 v1=>?_;refine ⟨rfl,⟨_,rfl⟩,qs++[v],by rw[aW];rfl,by rw[aH,hl];rfl,fun q hq'=>?_⟩;rcases aS.mp hq' with h|h
   .exact hq q h
   .rw[aM.mp h];exact⟨v0,v1⟩
  .rintro acc Γ' G' ⟨rfl,⟨c',rfl⟩,qs,rfl,hl,hq⟩;rw[hrl] at hl;ext;refine eZ sg_l (fun _=>nofun) ?_;ext;have ok:(Rw.call p g qs).Ok (P0 sg) boxes many:=⟨⟨p0,p1⟩,⟨⟨sgn.1,sgn.2,[]⟩,g0,by rw[ah,esg];rfl,by show (qs.length:Int)=sgn.1;lia⟩,hq⟩;have q2:=q _ ok;have er:rowT (.call p g qs)=.tup [.str "call",.int p,.int g,.tup (qs.map T.int)]:=by rw[<-jY];rfl
   rw[er] at q2;exact fk na hcs (av q2)
 refine bt ?_;refine cw (iF (wt_cut (decide (kind=19) || (decide (sg.length=1)&&decide (kind=18))) ?_ ?_))
 .ext;by_cases h19:kind=19
  .rw[aY h19];ext;exact⟨rfl,rfl⟩
  rw[bo h19];ext;refine cS (fj hx2) ?_;rw[af];ext;by_cases h1:sg.length=1
  .rw[aY (by lia),aY h1];ext;exact⟨rfl,rfl⟩
  .rw[bo (by lia),bo h1];ext;exact⟨rfl,rfl⟩
 .cases decide (kind=19) || (decide (sg.length=1) && decide (kind=18)) with
  | true=>exact iteT (jv times)
  | false=>exact iteF (jZ (jv call))
structure DfS(sg:List (Int×Int))(s:Int×Int)(d:Df):Prop where
 t:d.takes=s.1
 b:d.boxes=s.2
 n:d.rows.length<=30
 rows:∀ r∈d.rows,r.Ok (P0 sg) d.boxes d.rows.length
 last:∃ r,d.rows[d.rows.length-1]?=some r/\r.last
def ZjV:Pre:=fun ts G k=>∃ (b l:Addr) (sg:List (Int×Int)) (s:Int×Int) (x:T),ts=[.ptr b,x,sgT s]/\G b=some (.bag l)/\SqI G x (sg.map sgT)/\SgOk sg/\s∈sg/\∀ d,DfS sg s d->k (dfT d) G
theorem sc__law_def:FnScope ["bag","signs","sign","takes","boxes","many","rows","p","last"] ["bag","signs","sign"] (aC qR):=by ac_nf
theorem Zki(tq:Tq P w K mg base):Callee P w K mg base "_law_def" 4 ["bag","signs","sign"] (spG P w K ZjV):=by
 refine tq.a4.okG sc__law_def (by walk_at"lnx") fun f cdv A outer s H E ts G k hr hh=>?_;have nd:=sc__law_def.nd;obtain⟨b,l,sg,sn,x,rfl,hb,hx,hs,hm,q⟩:=hh;obtain⟨t0,t1,b1,b8⟩:=hs.s sn hm;refine' go_G [some (.ptr b),some x,some (sgT sn),none,none,none,none,none,none] rfl ?hb ?hg
 case hb=>exact(ag (bV (pv 2) (cj (K:=K) (n:=2) rfl rfl (aP (pyn 3 nd) (aP (iM (i:=4) nd rfl (Or.inr rfl)) bY)))) (ag (cL (i:=5) nd rfl (Or.inr rfl) (wx K (bz (aj aa (aj aa (aj aa (aj aa (aj aa (aj aa (bM (au bD aa (pyk (br tq :) hr.m (pyw 0 (aj aa ae)))) (aj aa ae))))))))) (pyk (br tq :) hr.m (pyw 0 (aj aa ae))))) (ag (hU (i:=6) (LN:=["k"]) (FN:=["bag","boxes","many","signs"]) (fr:=[0,4,5,1]) rfl nd rfl rfl (cV (by rfl)) (cX rfl tq.b_range (bM (au dQ (pv 5) aa) ae)) (fun _ _ _ _ _ _=>(pyn 0 (show ((["k"]:List Str)++(["bag","boxes","many","signs"]:List Str)).Nodup by decide +kernel))) (fun _ _ _ _ _ _=>di) (fun _ _ _ _ _ _=>(pyk (Zkg tq :) hr.m (pyw 1 (pyw 2 (pyw 3 (pyv 4))))))) (ag (aK (PW.pt (bT (aA gn (pv 5) aa (ax _)) (cC (aA bc (pyk (br tq :) hr.m (pyw 0 (aj aa ae))) aa (ax _))))) (ag (bI (i:=7) nd rfl (Or.inl rfl) (pyk (br tq :) hr.m (pyw 0 (pyv 4)))) (ag (bV (aw (aj aF (pyw 7 (bM (au bD aa (pyk (br tq :) hr.m (pyw 0 (aj aa ae)))) ae)))) (cH (pv 6) aa cK)) (ag (bV (aw (aj aF (bM (au fL (au bD (pv 7) aa) (pv 4)) (aj aa ae)))) (cH (pv 6) (au dQ (pv 5) aa) cK)) (ag (bV (gG (aA gn (pv 4) aa (ax _)) (aw (aj aF (pyw 7 (pyw 7 (bM (au fL (au bD (pv 7) aa) (pv 4)) ae))))) (aw (aj aF (pyw 7 (aj aa ae))))) (cH (pv 6) (au dQ (pv 5) aa) cK)) (ag (bV (aw (aj aF (pyw 7 (bM (au dQ (pv 5) aa) ae)))) (cH (pv 6) (au dQ (pv 5) aa) cK)) (ai (bV (aw (aj aF (aj aa ae))) (cH (pv 6) (au dQ (pv 5) aa) cK)))))))) aQ) (ag (rb (i:=8) nd rfl (Or.inl rfl) (aw (aj aF (aR (pyk (br tq :) hr.m (pyw 0 (pyv 4))) ae)))) (ag (aK (aA bc (pyk (br tq :) hr.m (pyw 0 (aj aa ae))) aa (ax _)) (ai (rb (i:=8) nd rfl (Or.inl rfl) (aw (aj aF (aR (pyk (br tq :) hr.m (pyw 0 (pyv 5))) ae))))) aQ) (ai (aq (aw (pyw 3 (pyw 4 (bM (au eU (pv 6) (bz (pyv 8))) ae))))))))))))
 refine cw (dC (jd rfl (cf rfl ?_)));ext;refine bA hb ⟨by decide,by decide⟩ fun m1 m10 m11=>?_;ext;refine bA hb ⟨by decide,by decide⟩ fun i i0 i1=>?_;obtain⟨many,em,mm1,mm2⟩:∃ many:Nat,atI [T.int 3,.int 6,.int 9,.int 4,.int 12,.int 7,.int (1+m1),.int 30] i=some (.int many)/\1<=many/\many<=30:=by
  have:i=0\/i=1\/i=2\/i=3\/i=4\/i=5\/i=6\/i=7:=by lia
  rcases this with rfl|rfl|rfl|rfl|rfl|rfl|rfl|rfl
  .exact ⟨3,rfl,by lia,by lia⟩
  .exact ⟨6,rfl,by lia,by lia⟩
  .exact ⟨9,rfl,by lia,by lia⟩
  .exact ⟨4,rfl,by lia,by lia⟩
  .exact ⟨12,rfl,by lia,by lia⟩
  .exact ⟨7,rfl,by lia,by lia⟩
  .exact ⟨(1+m1).toNat,by rw[sI (by lia)];rfl,by lia,by lia⟩
  .exact ⟨30,rfl,by lia,by lia⟩
 refine aU em ?_;refine bt ?_;refine cw (dC (xL ?_));ext;refine⟨((many-1:Nat):Int),by congr 2;lia,by lia,by lia,?_⟩;have hrl:(rngT ((many-1:Nat):Int).toNat).length=many-1:=by unfold rngT;simp
 refine⟨by rw[hrl];lia,fun i acc Γ' G'=>G'=G/\(∃ c,Γ'=[c,some (.ptr b),some (.int sn.2),some (.int many),some x])/\∃ rs:List Rw,acc=rs.map rowT/\rs.length=i/\∀ r∈rs,r.Ok (P0 sg) sn.2 many,⟨rfl,⟨_,rfl⟩,[],rfl,rfl,fun q hq=>(bX hq).elim⟩,fun _ _ _ _ _=>trivial,?_,?_⟩
 .rintro i z acc Γ' G' hz ⟨rfl,⟨c',rfl⟩,rs,rfl,hl,hq⟩;ext;refine ⟨b,l,sn.2,many,sg,x,rfl,hb,hx,hs,b1,b8,by lia,by lia,fun r hr=>?_⟩;refine ⟨rfl,⟨_,rfl⟩,rs++[r],by rw[aW];rfl,by rw[aH,hl];rfl,fun q hq'=>?_⟩;rcases aS.mp hq' with h|h
  .exact hq q h
  .rw[aM.mp h];exact hr
 rintro acc Γ' G' ⟨rfl,⟨c',rfl⟩,rs,rfl,hl,hok⟩ a na;rw[hrl] at hl;have nba:b≠a:=g_ne hb na;have hb2:∀ {c},gput G' a c b=some (.bag l):=fun {c}=>by rw[gp_n nba];exact hb
 refine bt ?_;refine dG (fun Γ' G2=>(∃ c1,Γ'=[some (.ptr b),some x,some (sgT sn),some (.int sn.1),some (.int sn.2),some (.int many),some (.ptr a),c1,none])/\∃ rs:List Rw,An3 (G2=gput G' a (.lst (rs.map rowT))) (rs.length=many-1) (∀ r∈rs,r.Ok (P0 sg) sn.2 many)) ?_ ?_
 .ext;by_cases h5:5 < many
  .rw[aY (by lia)];ext;refine bA hb2 ⟨by decide,by decide⟩ fun y y0 y1=>?_;ext;by_cases hy:y=1
   .rw[aY hy];have stp:∀ {rs:List Rw} {i:Int} {r:Rw} {kn:Ev->GH->Prop} {Γ:Ev},rs.length=many - 1->0<=i->i < many - 1->kn Γ (gput G' a (.lst ((rs.set i.toNat r).map rowT)))->∃ a' ts i' j,T.ptr a=.ptr a'/\T.int i=.int i'/\gput G' a (.lst (rs.map rowT)) a'=some (.lst ts)/\ixN ts.length i'=some j/\kn Γ (gput (gput G' a (.lst (rs.map rowT))) a' (.lst (ts.set j (rowT r)))):=fun {rs i r kn Γ} hl i0 i1 h=>by
     refine⟨a,_,i,i.toNat,rfl,rfl,gp_s,?_,?_⟩
     .rw[af,hl];unfold ixN;rw[ak i0,ak (by lia)]
     .rw[gp_p,<- map_set];exact h
    have keep:∀ {rs:List Rw} {i:Nat} {r:Rw},(∀ r∈rs,r.Ok (P0 sg) sn.2 many)->r.Ok (P0 sg) sn.2 many->∀ r'∈rs.set i r,r'.Ok (P0 sg) sn.2 many:=fun {rs i r} h hr r' hr'=>by
     rcases gP hr' with h'|rfl
     .exact h r' h'
     .exact hr
    ext;refine bA hb2 ⟨by lia,by lia⟩ fun p p0 p1=>?_;ext;refine bA hb2 ⟨by decide,by decide⟩ fun v v0 v1=>?_;have hp:In0 p sn.2:=⟨p0,p1⟩;have hp1:In0 ((p+1) % sn.2) sn.2:=⟨jR _ (by lia),jS _ (by lia)⟩;ext;refine stp (r:=.put p (3+v)) hl (by lia) (by lia) ?_;have hl1:(rs.set (0:Int).toNat (.put p (3+v))).length=many-1:=by rw[cQ];exact hl
    have ok1:=keep (i:=(0:Int).toNat) (r:=.put p (3+v)) hok ⟨hp,by lia⟩;generalize rs.set (0:Int).toNat (.put p (3+v))=rs1 at hl1 ok1;ext;refine j6 (by lia) ?_;ext;refine stp (r:=.put ((p+1) % sn.2) 1) hl1 (by lia) (by lia) ?_;have hl2:(rs1.set ((many:Int)-5).toNat (.put ((p+1) % sn.2) 1)).length=many-1:=by rw[cQ];exact hl1
    have ok2:=keep (i:=((many:Int)-5).toNat) (r:=.put ((p+1) % sn.2) 1) ok1 ⟨hp1,(by decide:(1:Int).natAbs<=10^60)⟩;generalize rs1.set ((many:Int)-5).toNat (.put ((p+1) % sn.2) 1)=rs2 at hl2 ok2;ext;by_cases hb1:1<sn.2
    .rw[aY hb1];ext;refine j6 (by lia) ?_;ext;refine stp (r:=.less p p ((p+1) % sn.2)) hl2 (by lia) (by lia) ?_;have ok3:=keep (i:=((many:Int) - 4).toNat) (r:=.less p p ((p+1) % sn.2)) ok2 ⟨hp,hp,hp1⟩;have hl3:(rs2.set ((many:Int) - 4).toNat (.less p p ((p+1) % sn.2))).length=many - 1:=by rw[cQ];exact hl2
     generalize rs2.set ((many:Int)-4).toNat (.less p p ((p+1) % sn.2))=rs3 at hl3 ok3;ext;refine stp (r:=.zero p (many-1)) hl3 (by lia) (by lia) ?_;have hl4:(rs3.set ((many:Int)-3).toNat (.zero p (many-1))).length=many-1:=by rw[cQ];exact hl3
     have ok4:=keep (i:=((many:Int)-3).toNat) (r:=.zero p (many-1)) ok3 ⟨hp,by lia,by lia⟩;generalize rs3.set ((many:Int)-3).toNat (.zero p (many-1))=rs4 at hl4 ok4;ext;refine stp (r:=.jump 1) hl4 (by lia) (by lia) ?_;exact⟨⟨_,rfl⟩,_,rfl,by rw[cQ];exact hl4,keep ok4 ⟨by lia,by lia⟩⟩
    .rw[bo hb1];ext;refine stp (r:=.put p 0) hl2 (by lia) (by lia) ?_;have ok3:=keep (i:=((many:Int) - 4).toNat) (r:=.put p 0) ok2 ⟨hp,(by decide:(0:Int).natAbs<=10 ^ 60)⟩;have hl3:(rs2.set ((many:Int) - 4).toNat (.put p 0)).length=many - 1:=by rw[cQ];exact hl2
     generalize rs2.set ((many:Int)-4).toNat (.put p 0)=rs3 at hl3 ok3;ext;refine stp (r:=.zero p (many-1)) hl3 (by lia) (by lia) ?_;have hl4:(rs3.set ((many:Int)-3).toNat (.zero p (many-1))).length=many-1:=by rw[cQ];exact hl3
     have ok4:=keep (i:=((many:Int)-3).toNat) (r:=.zero p (many-1)) ok3 ⟨hp,by lia,by lia⟩;generalize rs3.set ((many:Int)-3).toNat (.zero p (many-1))=rs4 at hl4 ok4;ext;refine stp (r:=.jump 1) hl4 (by lia) (by lia) ?_;exact⟨⟨_,rfl⟩,_,rfl,by rw[cQ];exact hl4,keep ok4 ⟨by lia,by lia⟩⟩
   .rw[bo hy];ext;exact⟨⟨_,rfl⟩,rs,rfl,hl,hok⟩
  .rw[bo (by lia)];ext;exact⟨⟨_,rfl⟩,rs,rfl,hl,hok⟩
 rintro Γ' G2 ⟨⟨c1,rfl⟩,rs,rfl,hl,hok⟩;ext;refine bA hb2 ⟨by lia,by lia⟩ fun z z0 z1=>?_;ext;refine bA hb2 ⟨by decide,by decide⟩ fun u u0 u1=>?_;have fin:∀ r:Rw,r.Ok (P0 sg) sn.2 many->r.last->k (dfT ⟨sn.1,sn.2,rs++[r]⟩) G':=fun r hr hlst=>by
  have hle:(rs++[r]).length=many:=by rw[aH,hl];simp;lia
  refine q _ ⟨rfl,rfl,by rw[hle];exact mm2,fun r' hr'=>?_,r,?_,hlst⟩
  .show r'.Ok (P0 sg) sn.2 (rs++[r]).length;rw[hle];rcases aS.mp hr' with h|h
   .exact hok r' h
   .rw[aM.mp h];exact hr
  .show (rs++[r])[(rs++[r]).length-1]?=some r;rw[aH,dY,sD];exact cq
 ext;by_cases h5:u=5
 .rw[aY h5];ext;refine bA hb2 ⟨by lia,by lia⟩ fun v v0 v1=>?_;ext;refine fg (si_p gp_s) si_l (by rw[af,hl];simp;lia) ?_;ext;have:=fin (.jump v) ⟨v0,v1⟩ trivial;refine fk na nofun (av ?_);unfold dfT at this;rw[aW] at this;exact this
 .rw[bo h5];ext;refine fg (si_p gp_s) si_l (by rw[af,hl];simp;lia) ?_;ext;have:=fin (.back z) ⟨z0,z1⟩ trivial;refine fk na nofun (av ?_);unfold dfT at this;rw[aW] at this;exact this
theorem ok_of{sg:List (Int×Int)}{Q:List Df}(hq:∀ (i:Nat) s,sg[i]?=some s->∃ d,Q[i]?=some d/\d.takes=s.1){nb many:Int}{r:Rw}(h:r.Ok (P0 sg) nb many):r.Ok Q nb many:=by
 cases r with
 | call p f qs =>
  obtain⟨h1,⟨d,h2,h3,h4⟩,h5⟩:=h;rw[ah] at h3;obtain⟨s,es,rfl⟩:=aV.mp h3;obtain⟨d',e1,e2⟩:=hq _ s es;exact⟨h1,⟨d',h2,e1,by rw[e2];exact h4⟩,h5⟩
 | _=>exact h
theorem pg_of{sg:List (Int×Int)}(hs:SgOk sg){Q:List Df}(hl:Q.length=sg.length)(h:∀ (i:Nat) s d,sg[i]?=some s->Q[i]?=some d->DfS sg s d):PgK Q:=by
 have l1:=hs.l1;have l2:=hs.l2;have at':∀ d∈Q,∃ s∈sg,DfS sg s d:=fun d hd=>by
  obtain⟨i,hi⟩:=fV.mp hd;have hlt:=(aX.mp hi).1;have es:sg[i]?=some (sg[i]'(by lia)):=ay _;exact⟨_,aD es,h i _ d es hi⟩
 have hq:∀ (i:Nat) s,sg[i]?=some s->∃ d,Q[i]?=some d/\d.takes=s.1:=fun i s es=>by
  have hlt:=(aX.mp es).1;have ed:Q[i]?=some (Q[i]'(by lia)):=ay _;exact⟨_,ed,(h i s _ es ed).t⟩
 refine⟨⟨fun e=>by rw[e] at hl;simp at hl;lia,by lia,fun d hd=>?_⟩,fun d hd=>?_⟩
 .obtain ⟨s,hs',D⟩:=at' d hd;obtain⟨q1,q2,q3,q4⟩:=hs.s s hs';exact⟨by rw[D.b];lia,by rw[D.b,D.t];lia,by have:=D.n;lia,fun r hr=>ok_of hq (D.rows r hr),D.last⟩
 .obtain ⟨s,hs',D⟩:=at' d hd;rw[D.b];exact(hs.s s hs').2.2.2
theorem l_min{P:Program}{w:World}{K:W.Frag}{G:GH}{k:T->GH->Prop}{i j:Int}(h:k (.int (if j<i then j else i)) G):LNr P w K rMin [.int i,.int j] G k:=fun H us g r Q z=>by
 cases r with|cons r1 r2=>cases r2 with|cons r2 r3 =>
 cases r1;cases r2;cases r3;exact⟨i,j,rfl,z.here g .int h⟩
theorem ml{vs:List Int}{i lo hi:Int}(h0:0<=i)(h1:i<vs.length)(h:∀ v∈vs,lo<=v/\v<=hi):∃ v,atI (vs.map T.int) i=some (.int v)/\lo<=v/\v<=hi:=by
 have hi':i.toNat<vs.length:=by lia
 exact⟨vs[i.toNat],at_i h0 (by rw[ah,ay hi'];rfl),h _ (getElem_mem hi')⟩
def Zfy:Pre:=fun ts G k=>∃ (b l:Addr),ts=[.ptr b]/\G b=some (.bag l)/\∀ Q,PgK Q->k (pgT Q) G
theorem sc__law_program:FnScope ["bag","signs","k","boxes"] ["bag"] (aC rg):=by ac_nf
theorem ZfD(tq:Tq P w K mg base):Callee P w K mg base "_law_program" 5 ["bag"] (spG P w K Zfy):=by
 refine tq.a5.okG sc__law_program (by walk_at"lnx") fun f cdv A outer s H E ts G k hr hh=>?_;have nd:=sc__law_program.nd;obtain⟨b,l,rfl,hb,q⟩:=hh;refine' go_G [some (.ptr b),none,none,none] rfl ?hb ?hg
 case' hb=>refine' ag ?bab ?bac
 case' bab=>refine' kz (i:=1) ?bad ?bae ?baf ?bag
 case bad=>exact nd
 case bae=>exact rfl
 case baf=>exact(Or.inr rfl)
 case' bag=>refine' bz ?bah
 case' bah=>refine' bf ?bai ?baj
 case' bai=>refine' aw ?bak
 case' bak=>refine' aj ?bal ?bam
 case bal=>exact aa
 case' bam=>refine' aB ?ban ?bao
 case' ban=>refine' hV ?bap ?baq ?bar ?bas
 case bap=>exact(k_ix (K:=K) rfl)
 case' baq=>refine' bz ?bat
 case bat=>exact(aj aa (aj aa (aj aa (aj aa (aj aa (aj aa (aj aa (aj aa ae))))))))
 case bar=>exact(pyk (br tq :) hr.m (pyw 0 (aj aa ae)))
 case bas=>exact(fun _ _=>rfl)
 case bao=>exact ae
 case baj=>exact ae
 case' bac=>refine' ag ?bau ?bav
 case' bau=>refine' cE ?baw ?bax ?bay ?baz ?bba
 case baw=>exact PassesOwn.never
 case bax=>exact rfl
 case' bay=>refine' cX ?bbb ?bbc ?bbd
 case bbb=>exact rfl
 case bbc=>exact tq.b_range
 case' bbd=>refine' aB ?bbe ?bbf
 case' bbe=>refine' hV ?bbg ?bbh ?bbi ?bbj
 case bbg=>exact(k_ix (K:=K) rfl)
 case' bbh=>refine' bz ?bbk
 case bbk=>exact(aj aa (aj aa (aj aa (aj aa (aj aa (aj aa (aj aa (aj aa ae))))))))
 case bbi=>exact(pyk (br tq :) hr.m (pyw 0 (aj aa ae)))
 case bbj=>exact(fun _ _=>rfl)
 case bbf=>exact ae
 case baz=>exact(pyn 2 nd)
 case' bba=>refine' ag ?bbl ?bbm
 case' bbl=>refine' dB (i:=3) ?bbn ?bbo ?bbp ?bbq
 case bbn=>exact nd
 case bbo=>exact rfl
 case bbp=>exact(Or.inl rfl)
 case' bbq=>refine' au ?bbr ?bbs ?bbt
 case bbr=>exact bD
 case bbs=>exact aa
 case' bbt=>refine' gF ?bbu ?bbv ?bbw ?bbx
 case bbu=>exact(br tq :)
 case bbv=>exact hr.m
 case bbw=>exact(by rfl)
 case' bbx=>refine' bn ?bby ?bbz
 case bby=>exact(pv 0)
 case' bbz=>refine' aB ?bca ?bcb
 case' bca=>refine' hV ?bcc ?bcd ?bce ?bcf
 case bcc=>exact(k_ix (K:=K) rfl)
 case bcd=>exact(bz (aj aa (aj aa (aj aa ae))))
 case bce=>exact(pyk (br tq :) hr.m (pyw 0 (aj aa ae)))
 case bcf=>exact(fun _ _=>rfl)
 case bcb=>exact ae
 case' bbm=>refine' ai ?bcg
 case' bcg=>refine' eI ?bch
 case' bch=>refine' k_bm (K:=K) ?bci ?bcj ?bck ?bcl ?bcm ?bcn ?bco
 case bci=>exact rfl
 case bcj=>exact PySem.F.plainAttrs_list
 case bck=>exact PySem.F.slot_list_append
 case bcl=>exact PySem.F.type_list_append
 case bcm=>exact gW
 case bcn=>exact(pv 1)
 case' bco=>refine' bf ?bcp ?bcq
 case' bcp=>refine' aw ?bcr
 case' bcr=>refine' aR ?bcs ?bct
 case' bcs=>refine' aG ?bcu ?bcv ?bcw ?bcx ?bcy
 case bcu=>exact(Zmx rfl)
 case bcv=>exact(by rfl)
 case bcw=>exact tq.b_min
 case bcx=>exact bt_min
 case' bcy=>refine' bn ?bcz ?bda
 case bcz=>exact(pv 3)
 case' bda=>refine' aB ?bdb ?bdc
 case' bdb=>refine' hV ?bdd ?bde ?bdf ?bdg
 case bdd=>exact(k_ix (K:=K) rfl)
 case bde=>exact(bz (aj aa (aj aa (aj aa (aj aa (aj aa (aj aa ae)))))))
 case bdf=>exact(pyk (br tq :) hr.m (pyw 0 (aj aa ae)))
 case bdg=>exact(fun _ _=>rfl)
 case bdc=>exact ae
 case bct=>exact(pyv 3)
 case bcq=>exact ae
 case' bav=>refine' ai ?bdh
 case' bdh=>refine' aq ?bdi
 case' bdi=>refine' fO (LN:=["sign"]) (FN:=["bag","signs"]) (fr:=[0,1]) ?bdj ?bdk ?bdl ?bdm ?bdn ?bdo
 case bdj=>exact rfl
 case bdk=>exact(cV (by rfl))
 case bdl=>exact(dS (K:=K) rfl (pv 1))
 case' bdm=>intro cl C fp pins s H
 case bdm=>exact(pyn 0 (show ((["sign"]:List Str)++(["bag","signs"]:List Str)).Nodup by decide +kernel))
 case' bdn=>intro cl C fp pins s H
 case bdn=>exact di
 case' bdo=>intro cl C fp pins s H
 case bdo=>exact(pyk (Zki tq :) hr.m (pyw 1 (pyw 2 (pyv 0))))
 refine cw (dC (jr ?_));ext;refine bA hb ⟨by decide,by decide⟩ fun i i0 i1=>?_;ext;obtain⟨v,ev,v1,v8⟩:=ml (vs:=[3,2,4,8,1,6,7,5]) (lo:=1) (hi:=8) i0 i1 (by decide);refine aU ev ?_;ext;intro a na;have nba:b≠a:=g_ne hb na;have hb2:∀ {c},gput G a c b=some (.bag l):=fun {c}=>by rw[gp_n nba];exact hb
 refine bt ?_;ext;refine bA hb2 ⟨by decide,by decide⟩ fun n n0 n1=>?_;ext;obtain⟨m,em,m0,m5⟩:=ml (vs:=[0,1,2,1,3,4,2,5]) (lo:=0) (hi:=5) n0 n1 (by decide);refine aU em ?_;ext;refine⟨m,rfl,by lia,by lia,?_⟩;have hrl:(rngT m.toNat).length=m.toNat:=by unfold rngT;simp
 refine⟨fun i Γ' G'=>(Ex2 fun c1 c2=>Γ'=[some (.ptr b),some (.ptr a),c1,c2])/\∃ sg:List (Int×Int),G'=gput G a (.lst (sg.map sgT))/\sg.length=i+1/\∀ s∈sg,0<=s.1/\s.1<=s.2/\1<=s.2/\s.2<=8,⟨⟨_,_,rfl⟩,[(0,v)],rfl,rfl,fun s hs=>by rw[aM.mp hs];exact⟨by lia,by lia,v1,v8⟩⟩,fun _ _ _ _=>trivial,?_,?_⟩
 .rintro i z Γ' G' hz ⟨⟨c1,c2,rfl⟩,sg,rfl,hl,hs⟩;have hi:=(aX.mp hz).1;ext;refine bA hb2 ⟨by decide,by decide⟩ fun x x0 x1=>?_;ext;obtain ⟨y,ey,y1,y8⟩:=ml (vs:=[3,3,8]) (lo:=1) (hi:=8) x0 x1 (by decide);refine aU ey ?_;ext;refine bA hb2 ⟨by lia,by lia⟩ fun bx bx0 bx1=>?_;ext;refine ⟨ty_p gp_s,?_⟩;ext;refine bA hb2 ⟨by decide,by decide⟩ fun u u0 u1=>?_;ext;obtain ⟨t,et,t0,t4⟩:=ml (vs:=[1,2,0,1,3,4]) (lo:=0) (hi:=4) u0 u1 (by decide);refine aU et ?_;ext;refine l_min ?_;ext;refine gJ gp_s (by rw[af];lia) ?_;rw[gp_p];dsimp only;refine ck ⟨⟨_,_,rfl⟩,sg++[(if t < 1+bx then t else 1+bx,1+bx)],by rw[aW];rfl,by rw[aH,hl];rfl,fun s hs'=>?_⟩;rcases aS.mp hs' with h|h
  .exact hs s h
  .rw[aM.mp h];dsimp only;split <;> lia
 rintro Γ' G' ⟨⟨c1,c2,rfl⟩,sg,rfl,hl,hs⟩;rw[hrl] at hl;have so:SgOk sg:=⟨by lia,by lia,hs⟩;refine jv (jV ?_);ext;refine⟨sg.map sgT,si_p gp_s,?_⟩;refine⟨by rw[af];lia,fun i acc Γ' G'=>G'=gput G a (.lst (sg.map sgT))/\(∃ c,Γ'=[c,some (.ptr b),some (.ptr a)])/\∃ Q:List Df,acc=Q.map dfT/\Q.length=i/\∀ (j:Nat) s d,sg[j]?=some s->Q[j]?=some d->DfS sg s d,⟨rfl,⟨_,rfl⟩,[],rfl,rfl,fun j s d _ h=>by cases h⟩,fun i acc Γ' G' ⟨e,_⟩=>e▸si_p gp_s,?_,?_⟩
 .rintro i z acc Γ' G' hz ⟨rfl,⟨c',rfl⟩,Q,rfl,hl',hq⟩;rw[ah] at hz;obtain ⟨s,es,rfl⟩:=aV.mp hz;ext;refine ⟨b,l,sg,s,.ptr a,rfl,hb2,si_p gp_s,so,aD es,fun d hd=>?_⟩;refine ⟨rfl,⟨_,rfl⟩,Q++[d],by rw[aW];rfl,by rw[aH,hl'];rfl,fun j s' d' e1 e2=>?_⟩;by_cases hj:j < Q.length
  .rw[cm hj] at e2;exact hq j s' d' e1 e2
  .have h2:=(aX.mp e2).1;rw[aH] at h2;have ej:j=Q.length:=by simp at h2;lia
   subst ej;rw[cq] at e2;rw[hl',es] at e1;cases e1;cases e2;exact hd
 .rintro acc Γ' G' ⟨rfl,⟨c',rfl⟩,Q,rfl,hl',hq⟩;rw[af] at hl';exact fk na nofun (av (q Q (pg_of so hl' hq)))
def Zno:Pre:=fun ts G k=>∃ n,ts=[.int n]/\k (fmT (n,[])) G
theorem sc_plain:FnScope ["n"] ["n"] (aC pE):=by ac_nf
theorem nR(tq:Tq P w K mg base):Callee P w K mg base "plain" 1 ["n"] (spG P w K Zno):=by
 refine tq.a6.okG sc_plain (by walk_at"lnx") fun f cdv A outer s H E ts G k hr hh=>?_;have nd:=sc_plain.nd;obtain⟨n,rfl,q⟩:=hh;refine' go_G [some (.int n)] rfl ?hb ?hg
 case hb=>exact(ai (aq (aw (pyw 0 (bf (aw ae) ae)))))
 walk_at"wy";exact av q
def ZjR:Pre:=fun ts G k=>∃ n,ts=[.int n]/\k (fmT (ofW n)) G
theorem sc_of_word:FnScope ["w"] ["w"] (aC pF):=by ac_nf
theorem vE(tq:Tq P w K mg base):Callee P w K mg base "of_word" 1 ["w"] (spG P w K ZjR):=by
 refine tq.a7.okG sc_of_word (by walk_at"lnx") fun f cdv A outer s H E ts G k hr hh=>?_;have nd:=sc_of_word.nd;obtain⟨n,rfl,q⟩:=hh;refine' go_G [some (.int n)] rfl ?hb ?hg
 case hb=>exact(ai (aq (aw (aj aa (bf (aw (bf (aw (aj aa (pyv 0))) ae)) ae)))))
 walk_at"wy";exact av q
def Zii:Pre:=fun ts G k=>∃ f:Fm,ts=[fmT f]/\k (.bl (decide (f.2=[]))) G
theorem sc_is_plain:FnScope ["form"] ["form"] (aC qU):=by ac_nf
theorem Zkf(tq:Tq P w K mg base):Callee P w K mg base "is_plain" 1 ["form"] (spG P w K Zii):=by
 refine tq.a8.okG sc_is_plain (by walk_at"lnx") fun f cdv A outer s H E ts G k hr hh=>?_;have nd:=sc_is_plain.nd;obtain⟨f,rfl,q⟩:=hh;refine' go_G [some (fmT f)] rfl ?hb ?hg
 case hb=>exact(ai (aq (dP bc (aG (bj (K:=K) rfl) (by rfl) tq.b_len bi (aB (wx K (pv 0) aa) ae)) aa (ax _))))
 walk_at"wy";have:(decide (((f.2.map prT).length:Int)=0))=decide (f.2=[]):=by rw[af];cases f.2 <;> simp;lia
 rw[this];exact av q
def Zlo:Pre:=fun ts G k=>∃ d f n t,ts=[.ptr d,fmT f,.int n]/\G d=some (.tb t)/\t.length+f.2.length<=10000/\(∀ p∈f.2,p.1.natAbs<=10^1000)/\n.natAbs<=10^1000/\k .non (gput G d (.tb (bm t f.2 n)))
theorem ia{i j:Int}(h:i.natAbs<=10^1000)(h2:j.natAbs<=10^1000):CBig i j:=⟨iY h (by decide +kernel),iY h2 (by decide +kernel)⟩
theorem sc_gather:FnScope ["numbers","form","n","a","w"] ["numbers","form","n"] (aC o0):=by ac_nf
theorem lL(tq:Tq P w K mg base):Callee P w K mg base "gather" 1 ["numbers","form","n"] (spG P w K Zlo):=by
 refine tq.a9.okG sc_gather (by walk_at"lnx") fun f cdv A outer s H E ts G k hr hh=>?_;have nd:=sc_gather.nd;have hu1:=jw hr;obtain⟨d,f,n,t,rfl,hd,hl,ha,hn,q⟩:=hh;refine' go_G [some (.ptr d),some (fmT f),some (.int n),none,none] rfl ?hb ?hg
 case hb=>exact(ai (cE PassesOwn.never rfl (dD (K:=K) rfl (wx K (pv 1) aa)) (cj (K:=K) (n:=2) rfl rfl (aP (pyn 3 nd) (aP (pyn 4 nd) bY))) (ai (hW hu1 (pv 0) (pv 4) (au bD (wL hu1 (pv 0) (pv 4) aa (M2.mk rfl rfl rfl rfl)) (au gj (pv 3) (pv 2))) rfl))))
 walk_at"wy";refine⟨_,rfl,fun i Γ G'=>(∃ x y,Γ=[some (.ptr d),some (fmT f),some (.int n),x,y])/\G'=gput G d (.tb (bm t (f.2.take i) n)),⟨⟨none,none,rfl⟩,(gD hd).symm⟩,fun _ _ _ _=>trivial,?_,?_⟩
 .rintro i x Γ G' hx ⟨⟨x1,x2,rfl⟩,rfl⟩;rw[ah] at hx;obtain⟨p,ep,rfl⟩:=aV.mp hx;refine cf rfl ?_;walk_at"wy";refine⟨d,_,rfl,gp_s,?_⟩;walk_at"wy";refine⟨_,_,gp_s,rfl,rfl,?_⟩;walk_at"wy";refine l_IC (ia (ha p (aD ep)) hn) ?_;walk_at"wy";have hg:=j0 (f.2.take i) n t;rw[fu] at hg;refine⟨d,_,_,_,rfl,rfl,gp_s,rfl,by lia,?_⟩;dsimp only;refine ck ?_;refine⟨⟨_,_,rfl⟩,?_⟩;rw[gp_p,<- oY,eP,ep];rfl
 .rintro Γ G' ⟨_,rfl⟩;rw[af,eQ];exact q
def Zpr:Pre:=fun ts G k=>∃ c d t,ts=[.int c,.ptr d]/\G d=some (.tb t)/\t.length<64/\k (fmT (wnF c t)) G
theorem sc_with_numbers:FnScope ["c","numbers"] ["c","numbers"] (aC pZ):=by ac_nf
theorem qC(tq:Tq P w K mg base):Callee P w K mg base "with_numbers" 1 ["c","numbers"] (spG P w K Zpr):=by
 refine tq.b0.okG sc_with_numbers (by walk_at"lnx") fun f cdv A outer s H E ts G k hr hh=>?_;have nd:=sc_with_numbers.nd;have hu1:=jw hr;obtain⟨c,d,t,rfl,hd,hl,q⟩:=hh;refine' go_G [some (.int c),some (.ptr d)] rfl ?hb ?hg
 case hb=>exact(ai (aq (aw (pyw 0 (aR (cY (ff (K:=K) rfl) (by rfl) tq.b_tuple du (dy (pyf ["w"] ["numbers"] [1] (dS (K:=K) rfl (aG (wN rfl) (by rfl) tq.b_sorted pW (pyv 1))) (fun _ _ _ _ _ _=>(vj (aA gI (ig hu1 (pv 1) (pv 0) (fun _ _=>rfl)) aa (ax _)))) (fun _ _ _ _ _ _=>(aw (aB (ig hu1 (pv 1) (pv 0) (fun _ _=>rfl)) (pyv 0))))) ae)) ae)))))
 have hp:=gX (t.map (·.1));walk_at"wy";refine jV ?_;walk_at"wy";refine xw hd hl ?_;refine⟨_,si_l,by rw[af,hp.length_eq,af];lia,fun i acc Γ G'=>(∃ x,Γ=[x,some (.ptr d)])/\G'=G/\acc=(ci t ((sortI (t.map (·.1))).take i)).map prT,⟨⟨none,rfl⟩,rfl,rfl⟩,fun _ _ _ _ _=>si_l,?_,?_⟩
 .rintro i x acc Γ G' hx ⟨⟨x1,rfl⟩,rfl,rfl⟩;rw[ah] at hx;obtain ⟨m,em,rfl⟩:=aV.mp hx;have hm:m∈t.map (·.1):=hp.mem_iff.mp (aD em);have etk:ci t ((sortI (t.map (·.1))).take (i+1))=ci t ((sortI (t.map (·.1))).take i)++(if aZ t m≠0 then [(aZ t m,m)] else []):=by
   unfold ci;rw[eP,em,sK,filter_append,aW];by_cases e0:aZ t m=0 <;> simp[e0]
  walk_at"wy";refine⟨d,t,m,rfl,hd,rfl,hm,?_⟩;walk_at"wy";refine vg (fun hz=>?_) (fun hz=>?_)
  .walk_at"wy";refine⟨d,t,m,rfl,hd,rfl,hm,?_⟩;walk_at"wy";refine⟨⟨_,rfl⟩,rfl,?_⟩;rw[etk,ak hz,aW];rfl
  .refine ⟨⟨_,rfl⟩,rfl,?_⟩;rw[etk,ao (by simpa using hz),dW]
 .rintro acc Γ G' ⟨_,rfl,rfl⟩;walk_at"wy";refine eZ sg_l (fun _=>nofun) ?_;rw[af,eQ];walk_at"wy";exact av q
structure FoB(n:Nat)(f:Fm):Prop where
 o:Fo n (10^900) f
 n:n<64
theorem kA{n:Nat}{t:List (Int×Int)}(hn:n<64)(h1:(t.map (·.1)).Nodup)(h2:∀ x∈t.map Prod.fst,0<=x/\x<n):t.length<64:=by
 have:=mI (n:=n) _ h1 h2;rw[af] at this;lia
def Zlm:Pre:=fun ts G k=>∃ n f g m,ts=[fmT f,fmT g,.int m]/\FoB n f/\FoB n g/\m.natAbs<=10^900/\k (fmT (bU f g m)) G
theorem l9{x:Nat}(h:x<=10^900):x<=10^1000:=bh h (iB (by decide) (by decide))
theorem sc_joined:FnScope ["one","other","n","numbers"] ["one","other","n"] (aC qN):=by ac_nf
theorem tE(tq:Tq P w K mg base):Callee P w K mg base "joined" 2 ["one","other","n"] (spG P w K Zlm):=by
 refine tq.b1.okG sc_joined (by walk_at"lnx") fun f cdv A outer s H E ts G k hr hh=>?_;have nd:=sc_joined.nd;obtain⟨n,f,g,m,rfl,hf,hg,hm,q⟩:=hh;refine' go_G [some (fmT f),some (fmT g),some (.int m),none] rfl ?hb ?hg
 case hb=>exact(ag (cO (i:=3) nd rfl (Or.inl rfl) kP) (ag (eI (pyk (lL tq :) hr.m (pyw 3 (pyw 0 (aj aa ae))))) (ag (eI (pyk (lL tq :) hr.m (pyw 3 (pyw 1 (pyv 2))))) (ai (aq (pyk (qC tq :) hr.m (bM (au bD (wx K (pv 0) aa) (au gj (pv 2) (wx K (pv 1) aa))) (pyv 3))))))))
 obtain⟨t1,t2,_⟩:=rG (m:=m) hf.o hg.o;have h1:=hf.o.len;have h2:=hg.o.len;have h3:=hf.n;have h4:=j0 f.2 1 [];rw[iA] at h4;walk_at"wy";intro p hp;walk_at"wy";refine⟨p,f,1,[],rfl,gp_s,by rw[iA];lia,fun q hq=>l9 (hf.o.a q hq),by decide +kernel,?_⟩;walk_at"wy";refine⟨p,g,m,_,rfl,gp_s,by lia,fun q hq=>l9 (hg.o.a q hq),l9 hm,?_⟩;walk_at"wy";refine l_IC (ia (l9 hm) (l9 hg.o.c)) ?_;walk_at"wy";refine⟨_,p,_,rfl,gp_s,kA hf.n t1 t2,?_⟩;rw[gp_p,gp_p];exact fk hp (fun _=>nofun) (av q)
def uO(m:Int):Pre:=fun ts G k=>∃ n f g,ts=[fmT f,fmT g]/\FoB n f/\FoB n g/\k (fmT (bU f g m)) G
theorem sc_plus:FnScope ["one","other"] ["one","other"] (aC rL):=by ac_nf
theorem c_plus(tq:Tq P w K mg base):Callee P w K mg base "plus" 3 ["one","other"] (spG P w K (uO 1)):=by
 refine tq.b2.okG sc_plus (by walk_at"lnx") fun f cdv A outer s H E ts G k hr hh=>?_;have nd:=sc_plus.nd;obtain⟨n,f,g,rfl,hf,hg,q⟩:=hh;refine' go_G [some (fmT f),some (fmT g)] rfl ?hb ?hg
 case hb=>exact(ai (aq (pyk (tE tq :) hr.m (pyw 0 (pyw 1 (aj aa ae))))))
 walk_at"wy";exact⟨n,f,g,1,rfl,hf,hg,by decide +kernel,av q⟩
theorem sc_less:FnScope ["one","other"] ["one","other"] (aC pC):=by ac_nf
theorem c_less(tq:Tq P w K mg base):Callee P w K mg base "less" 3 ["one","other"] (spG P w K (uO (-1))):=by
 refine tq.b3.okG sc_less (by walk_at"lnx") fun f cdv A outer s H E ts G k hr hh=>?_;have nd:=sc_less.nd;obtain⟨n,f,g,rfl,hf,hg,q⟩:=hh;refine' go_G [some (fmT f),some (fmT g)] rfl ?hb ?hg
 case hb=>exact(ai (aq (pyk (tE tq :) hr.m (pyw 0 (pyw 1 (wV (cg ce aa) ae))))))
 walk_at"wy";exact⟨n,f,g,-1,rfl,hf,hg,by decide +kernel,av q⟩
def Znn:Pre:=fun ts G k=>∃ n f m,ts=[fmT f,.int m]/\FoB n f/\m.natAbs<=10^900/\k (fmT (ii f m)) G
theorem sc_times:FnScope ["form","n","numbers"] ["form","n"] (aC rC):=by ac_nf
theorem Zqk(tq:Tq P w K mg base):Callee P w K mg base "times" 2 ["form","n"] (spG P w K Znn):=by
 refine tq.b4.okG sc_times (by walk_at"lnx") fun f cdv A outer s H E ts G k hr hh=>?_;have nd:=sc_times.nd;obtain⟨n,f,m,rfl,hf,hm,q⟩:=hh;refine' go_G [some (fmT f),some (.int m),none] rfl ?hb ?hg
 case hb=>exact(ag (cO (i:=2) nd rfl (Or.inl rfl) kP) (ag (eI (pyk (lL tq :) hr.m (pyw 2 (pyw 0 (pyv 1))))) (ai (aq (pyk (qC tq :) hr.m (bM (au gj (wx K (pv 0) aa) (pv 1)) (pyv 2)))))))
 obtain⟨t1,t2,_⟩:=um (m:=m) hf.o;have h1:=hf.o.len;have h3:=hf.n;walk_at"wy";intro p hp;walk_at"wy";refine⟨p,f,m,[],rfl,gp_s,by rw[iA];lia,fun q hq=>l9 (hf.o.a q hq),l9 hm,?_⟩;walk_at"wy";refine l_IC (ia (l9 hf.o.c) (l9 hm)) ?_;walk_at"wy";refine⟨_,p,_,rfl,gp_s,kA hf.n t1 t2,?_⟩;rw[gp_p];exact fk hp (fun _=>nofun) (av q)
theorem Zie{fl:List Fm}{n:Nat}(hg:∀ g∈fl,∀ p∈g.2,0<=p.2/\p.2<(n:Int)):∀ (ps:List (Int×Int)),∀ x∈(cT ps fl).map Prod.fst,0<=x/\x<(n:Int):=by
 intro ps;refine mq (C:=fun ps=>∀ x∈(cT ps fl).map Prod.fst,0<=x/\x<(n:Int)) (fun x hx=>nomatch hx) (fun l a h x hx=>?_) ps;rw[j5] at hx;rcases kE _ _ _ _ hx with hx|hx
 .exact h x hx
 .obtain ⟨p,hp,rfl⟩:=aT.mp hx;unfold nthF at hp;rw[cA] at hp;cases e:fl[a.2.toNat]? with
  | none=>rw[e] at hp;cases hp
  | some g=>rw[e] at hp;exact hg g (aD e) p hp
theorem jt{fl:List Fm}(ps:List (Int×Int)):((cT ps fl).map (·.1)).Nodup:=by
 refine mq (C:=fun ps=>((cT ps fl).map (·.1)).Nodup) fz (fun l a h=>?_) ps;show ((cT (l++[a]) fl).map (·.1)).Nodup;rw[j5];exact fJ _ _ h
def Zll:Pre:=fun ts G k=>∃ n m f fl y,ts=[fmT f,y]/\SqI G y (fl.map fmT)/\FoB n f/\n=fl.length/\m<64/\(∀ g∈fl,FoB m g)/\k (fmT (bG f fl)) G
theorem sc_put_in:FnScope ["form","forms","c","numbers","a","w"] ["form","forms"] (aC pQ):=by ac_nf
theorem vT(tq:Tq P w K mg base):Callee P w K mg base "put_in" 2 ["form","forms"] (spG P w K Zll):=by
 refine tq.b5.okG sc_put_in (by walk_at"lnx") fun f cdv A outer s H E ts G k hr hh=>?_;have nd:=sc_put_in.nd;obtain⟨n,m,f,fl,y,rfl,sy,hf,rfl,hm,hg,q⟩:=hh;refine' go_G [some (fmT f),some y,none,none,none,none] rfl ?hb ?hg
 case hb=>exact(ag (cL (i:=2) nd rfl (Or.inl rfl) (wx K (pv 0) aa)) (ag (cO (i:=3) nd rfl (Or.inl rfl) kP) (ag (cE PassesOwn.never rfl (dD (K:=K) rfl (wx K (pv 0) aa)) (cj (K:=K) (n:=2) rfl rfl (aP (pyn 4 nd) (aP (pyn 5 nd) bY))) (ag (dB (i:=2) nd rfl (Or.inl rfl) (au bD (pv 2) (au gj (pv 4) (wx K (wx K (pv 1) (pv 5)) aa)))) (ai (eI (pyk (lL tq :) hr.m (pyw 3 (aB (wx K (pv 1) (pv 5)) (pyv 4)))))))) (ai (aq (pyk (qC tq :) hr.m (pyw 2 (pyv 3))))))))
 have keys:=Zie (n:=m) (fun g h=>(hg g h).o.w);have few:∀ ps,(cT ps fl).length<64:=fun ps=>kA hm (jt ps) (keys ps);walk_at"wy";intro p hp;have sy':∀ c,SqI (gput G p c) y (fl.map fmT):=fun c=>by
  rcases sy with e|⟨a,e,h⟩
  .exact .inl e
  .exact .inr ⟨a,e,by rw[gp_n (g_ne h hp)];exact h⟩
 walk_at"wy";refine⟨_,rfl,fun i Γ G'=>(∃ a b,Γ=[some (fmT f),some y,some (.int (putC f.1 (f.2.take i) fl)),some (.ptr p),a,b])/\G'=gput G p (.tb (cT (f.2.take i) fl)),⟨⟨none,none,rfl⟩,rfl⟩,fun _ _ _ _=>trivial,?_,?_⟩
 .rintro i x Γ G' hx ⟨⟨x1,x2,rfl⟩,rfl⟩;rw[ah] at hx;obtain ⟨r,er,rfl⟩:=aV.mp hx;have hrm:=aD er;obtain ⟨w0,w1⟩:=hf.o.w r hrm;have hl:fl[r.2.toNat]?=some (nthF fl r.2):=by
   unfold nthF;rw[cA,ay (by lia)];rfl
  have hgm:=hg _ (aD hl);have hat:atI (fl.map fmT) r.2=some (fmT (nthF fl r.2)):=cD (n:=r.2.toNat) (by lia) (by rw[ah,hl];rfl);refine cf rfl ?_;walk_at"wy";refine l_ix (.inr (sy' _)) hat ?_;walk_at"wy";refine l_IC (ia (l9 (hf.o.a r hrm)) (l9 hgm.o.c)) ?_;walk_at"wy";refine l_ix (.inr (sy' _)) hat ?_;walk_at"wy";have h1:=hgm.o.len;have h2:=few (f.2.take i);refine⟨p,_,_,_,rfl,gp_s,by lia,fun q hq=>l9 (hgm.o.a q hq),l9 (hf.o.a r hrm),?_⟩;have et:f.2.take (i+1)=f.2.take i++[r]:=by rw[eP,er];rfl
  rw[gp_p];dsimp only;refine ck ?_;show (∃ a b,_=[_,_,some (T.int (putC f.1 (f.2.take (i+1)) fl)),_,a,b])/\_=gput G p (.tb (cT (f.2.take (i+1)) fl));rw[et,Zlc,j5];exact⟨⟨_,_,rfl⟩,rfl⟩
 .rintro Γ G' ⟨⟨x1,x2,rfl⟩,rfl⟩;walk_at"wy";rw[af,eQ];refine⟨_,p,_,rfl,gp_s,few _,?_⟩;exact fk hp (fun _=>nofun) (av q)
def Zlk:Pre:=fun ts G k=>∃ Q s r,ts=[pgT Q,sfT s]/\0<=s.1/\0<=s.2.1/\cr Q s.1 s.2.1=some r/\k (rowT r) G
theorem sc_row_of:FnScope ["program","frame"] ["program","frame"] (aC qm):=by ac_nf
theorem j7(tq:Tq P w K mg base):Callee P w K mg base "row_of" 1 ["program","frame"] (spG P w K Zlk):=by
 refine tq.b6.okG sc_row_of (by walk_at"lnx") fun f cdv A outer s H E ts G k hr hh=>?_;have nd:=sc_row_of.nd;obtain⟨Q,s,r,rfl,h1,h2,hr,q⟩:=hh;refine' go_G [some (pgT Q),some (sfT s)] rfl ?hb ?hg
 case hb=>exact(ai (aq (wx K (wx K (wx K (pv 0) (wx K (pv 1) aa)) aa) (wx K (pv 1) aa))))
 unfold cr at hr;obtain⟨d,ed,er⟩:=yx.mp hr;ext;refine aU (at_i h1 (by rw[ah,ed];rfl)) ?_;ext;refine aU (at_i h2 (by rw[ah,er];rfl)) ?_;exact av q
def Zpu:Pre:=fun ts G k=>∃ r n,ts=[rowT r,.int n]/\k (.bl (r.goes n)) G
theorem sc_goes_to_row:FnScope ["row","number"] ["row","number"] (aC o9):=by ac_nf
theorem ZgL(tq:Tq P w K mg base):Callee P w K mg base "goes_to_row" 1 ["row","number"] (spG P w K Zpu):=by
 refine tq.b7.okG sc_goes_to_row (by walk_at"lnx") fun f cdv A outer s H E ts G k hr hh=>?_;have nd:=sc_goes_to_row.nd;obtain⟨r,n,rfl,q⟩:=hh;refine' go_G [some (rowT r),some (.int n)] rfl ?hb ?hg
 case hb=>exact(ai (aq (gG (aA bc (wx K (pv 0) aa) aF (ax _)) (dP bc (pv 1) aa (ax _)) (dP dO (pv 1) aa (ax _)))))
 cases r <;> (ext;exact av q)
abbrev SfL(G:GH)(x:T)(fr:List SF)(s:SF):Prop:=SqI G x ((fr++[s]).map sfT)
theorem SfL.last{G:GH}{x:T}{fr:List SF}{s:SF}(h:SfL G x fr s):SqG G x (fr.map sfT++[sfT s]):=.inr (by rw[SfL,aW] at h;exact h)
theorem SfL.cut{G:GH}{x:T}{fr:List SF}{s:SF}(h:SfL G x fr s):cutT ((fr++[s]).map sfT) none (some (-1))=fr.map sfT:=by rw[aW];exact mK _ _
def xj:Pre:=fun ts G k=>∃ fr s p f x,ts=[x,.int p,fmT f]/\SfL G x fr s/\fr.length<=100/\0<=p/\p<s.2.2.length/\s.2.2.length<=1000/\k (.lst ((fE fr s p f).map sfT)) G
theorem sc_with_box:FnScope ["frames","p","form","last"] ["frames","p","form"] (aC rD):=by ac_nf
theorem oZ(tq:Tq P w K mg base):Callee P w K mg base "with_box" 1 ["frames","p","form"] (spG P w K xj):=by
 refine tq.b8.okG sc_with_box (by walk_at"lnx") fun f cdv A outer s H E ts G k hr hh=>?_;have nd:=sc_with_box.nd;obtain⟨fr,s,p,f,x,rfl,hx,hl,p0,p1,hs,q⟩:=hh;refine' go_G [some x,some (.int p),some (fmT f),none] rfl ?hb ?hg
 case hb=>exact(ag (cL (i:=3) nd rfl (Or.inl rfl) (wx K (pv 0) (cg ce aa))) (ai (aq (au eU (cI (k_sl (K:=K) rfl) (pv 0) cM (cN (cg ce aa))) (bz (bf (aw (aB (wx K (pv 3) aa) (bM (au bD (wx K (pv 3) aa) aa) (bM (au (gR (K:=K) rfl) (au (gR (K:=K) rfl) (cI (fq (K:=K) rfl) (wx K (pv 3) aa) cM (cN (pv 1))) (aw (pyv 2))) (cI (fq (K:=K) rfl) (wx K (pv 3) aa) (cN (au bD (pv 1) aa)) cM)) ae)))) ae))))))
 ext;refine l_ix hx.last (fc _ _) ?_;ext;refine iU hx ?_;rw[hx.cut];ext;refine fi ?_;rw[iG p0 (by rw[af];lia)];ext;have lt:((s.2.2.map fmT).take p.toNat).length<=s.2.2.length:=by rw[fu,af];exact jG _ _
 have ld:((s.2.2.map fmT).drop (p+1).toNat).length<=s.2.2.length:=by rw[iX,af];exact jH _ _
 refine gH (by rw[dY];lia) ?_;ext;refine fi ?_;rw[iV (by lia) (by rw[af];lia)];refine gH (by rw[aH,dY];lia) ?_;ext;refine fg si_l si_l (by rw[af];simp;lia) ?_;have e:(s.2.2.map fmT).take p.toNat++[fmT f]++(s.2.2.map fmT).drop (p+1).toNat=(s.2.2.set p.toNat f).map fmT:=by
  have hp:p.toNat<s.2.2.length:=by lia
  rw[<-map_take,<- map_drop,yA,ak hp,aW,aL,cp,show (p+1).toNat=p.toNat+1 by lia];rfl
 rw[e];unfold fE at q;rw[aW] at q;exact av q
def uC:Pre:=fun ts G k=>∃ fr s t x,ts=[x,.int t]/\SfL G x fr s/\fr.length<=100/\k (.lst ((cJ fr s t).map sfT)) G
theorem sc_at_row:FnScope ["frames","at","last"] ["frames","at"] (aC pI):=by ac_nf
theorem jW(tq:Tq P w K mg base):Callee P w K mg base "at_row" 1 ["frames","at"] (spG P w K uC):=by
 refine tq.b9.okG sc_at_row (by walk_at"lnx") fun f cdv A outer s H E ts G k hr hh=>?_;have nd:=sc_at_row.nd;obtain⟨fr,s,t,x,rfl,hx,hl,q⟩:=hh;refine' go_G [some x,some (.int t),none] rfl ?hb ?hg
 case hb=>exact(ag (cL (i:=2) nd rfl (Or.inl rfl) (wx K (pv 0) (cg ce aa))) (ai (aq (au eU (cI (k_sl (K:=K) rfl) (pv 0) cM (cN (cg ce aa))) (bz (bf (aw (aB (wx K (pv 2) aa) (pyw 1 (aB (wx K (pv 2) aa) ae)))) ae))))))
 ext;refine l_ix hx.last (fc _ _) ?_;ext;refine iU hx ?_;rw[hx.cut];ext;refine fg si_l si_l (by rw[af];simp;lia) ?_;unfold cJ at q;rw[aW] at q;exact av q
def Zig:Pre:=fun ts G k=>∃ Q n B s r m p f,ts=[rowT r,.tup (s.2.2.map fmT)]/\SfOk Q n B s/\B<=10^900/\n<64/\r.Ok Q s.2.2.length m/\bK s r=some (p,f)/\k (fmT f) G
theorem sc_reckoned:FnScope ["row","forms"] ["row","forms"] (aC qJ):=by ac_nf
theorem Zke(tq:Tq P w K mg base):Callee P w K mg base "reckoned" 4 ["row","forms"] (spG P w K Zig):=by
 refine tq.c0.okG sc_reckoned (by walk_at"lnx") fun f cdv A outer s H E ts G k hr hh=>?_;have nd:=sc_reckoned.nd;obtain⟨Q,n,B,s,r,m,p,f,rfl,hs,hB,hn,ok,rk,q⟩:=hh;refine' go_G [some (rowT r),some (.tup (s.2.2.map fmT))] rfl ?hb ?hg
 case hb=>exact(ag (aK (aA bc (wx K (pv 0) aa) aF (ax _)) (ai (aq (pyk (nR tq :) hr.m (aB (wx K (pv 0) aa) ae)))) aQ) (ag (aK (aA bc (wx K (pv 0) aa) aF (ax _)) (ai (aq (wx K (pv 1) (wx K (pv 0) aa)))) aQ) (ag (aK (aA bc (wx K (pv 0) aa) aF (ax _)) (ai (aq (pyk (c_plus tq :) hr.m (aB (wx K (pv 1) (wx K (pv 0) aa)) (aB (wx K (pv 1) (wx K (pv 0) aa)) ae))))) aQ) (ag (aK (aA bc (wx K (pv 0) aa) aF (ax _)) (ai (aq (pyk (c_less tq :) hr.m (aB (wx K (pv 1) (wx K (pv 0) aa)) (aB (wx K (pv 1) (wx K (pv 0) aa)) ae))))) aQ) (ai (aq (pyk (Zqk tq :) hr.m (aB (wx K (pv 1) (wx K (pv 0) aa)) (aB (wx K (pv 0) aa) ae)))))))))
 have bx:∀ {q:Int},In0 q s.2.2.length->FoB n (gtF s q)/\atI (s.2.2.map fmT) q=some (fmT (gtF s q)):=fun {q} hq=>by
  obtain⟨h1,h2⟩:=rM hs hq.1 hq.2;exact⟨⟨h1.le (aE _) hB,hn⟩,at_i hq.1 (by rw[ah,h2];rfl)⟩
 cases r with
 | put a b=>cases rk;ext;exact⟨_,rfl,av q⟩
 | copy a b=>cases rk;ext;exact eA (bx ok.2).2 (av q)
 | plus a b c =>
  cases rk;ext;refine eA (bx ok.2.1).2 ?_;ext;refine eA (bx ok.2.2).2 ?_;ext;exact⟨n,_,_,rfl,(bx ok.2.1).1,(bx ok.2.2).1,av q⟩
 | less a b c =>
  cases rk;ext;refine eA (bx ok.2.1).2 ?_;ext;refine eA (bx ok.2.2).2 ?_;ext;exact⟨n,_,_,rfl,(bx ok.2.1).1,(bx ok.2.2).1,av q⟩
 | times a b c =>
  cases rk;ext;refine eA (bx ok.2.1).2 ?_;ext;exact⟨n,_,_,rfl,(bx ok.2.1).1,bh ok.2.2 (by decide +kernel),av q⟩
 | _=>cases rk
def Zlh:Pre:=fun ts G k=>∃ fr s r x p t,ts=[x,rowT r]/\SfL G x fr s/\fr.length<=100/\(r=.zero p t\/r=.below p t)/\0<=p/\p<s.2.2.length/\k (.lst ((cJ fr s (if r.goes (gtF s p).1=true then t else s.2.1+1)).map sfT)) G
theorem kL{s:SF}{p:Int}(p0:0<=p)(p1:p<s.2.2.length):atI (s.2.2.map fmT) p=some (fmT (gtF s p)):=at_i p0 (by
 rw[ah];unfold gtF;rw[cA,ay (by lia)];rfl)
theorem sc_tested:FnScope ["frames","row","number"] ["frames","row"] (aC pL):=by ac_nf
theorem ZnX(tq:Tq P w K mg base):Callee P w K mg base "tested" 2 ["frames","row"] (spG P w K Zlh):=by
 refine tq.c1.okG sc_tested (by walk_at"lnx") fun f cdv A outer s H E ts G k hr hh=>?_;have nd:=sc_tested.nd;obtain⟨fr,s,r,x,p,t,rfl,hx,hl,hr2,p0,p1,q⟩:=hh;refine' go_G [some x,some (rowT r),none] rfl ?hb ?hg
 case hb=>exact(ag (cL (i:=2) nd rfl (Or.inl rfl) (wx K (wx K (wx K (wx K (pv 0) (cg ce aa)) aa) (wx K (pv 1) aa)) aa)) (ai (aq (pyk (jW tq :) hr.m (pyw 0 (qk (gG (cy (pyk (ZgL tq :) hr.m (pyw 1 (pyv 2)))) (wx K (pv 1) aa) (au bD (wx K (wx K (pv 0) (cg ce aa)) aa) aa)) ae))))))
 rcases hr2 with rfl|rfl
 all_goals
  ext;refine l_ix hx.last (fc _ _) ?_;ext;refine eA (kL p0 p1) ?_;ext;refine⟨_,_,rfl,?_⟩;ext;generalize hb:Rw.goes _ _=b at q ⊢;cases b with
  | true=>ext;exact⟨fr,s,_,x,rfl,hx,hl,av q⟩
  | false =>
   ext;refine l_ix hx.last (fc _ _) ?_;ext;exact⟨fr,s,_,x,rfl,hx,hl,av q⟩
def Zlq:Pre:=fun ts G k=>∃ Q s p g qs d,ts=[pgT Q,rowT (.call p g qs),.tup (s.2.2.map fmT)]/\0<=g/\Q[g.toNat]?=some d/\(∀ q∈qs,In0 q s.2.2.length)/\(qs.length:Int)<=d.boxes/\d.boxes<=1000/\k (sfT (eJ Q s g qs)) G
theorem sc_called:FnScope ["program","row","forms","handed","lacking"] ["program","row","forms"] (aC nU):=by ac_nf
theorem ZnZ(tq:Tq P w K mg base):Callee P w K mg base "called" 2 ["program","row","forms"] (spG P w K Zlq):=by
 refine tq.c2.okG sc_called (by walk_at"lnx") fun f cdv A outer s H E ts G k hr hh=>?_;have nd:=sc_called.nd;obtain⟨Q,s,p,g,qs,d,rfl,g0,hd,hq,hl,hl2,q⟩:=hh;refine' go_G [some (pgT Q),some (rowT (.call p g qs)),some (.tup (s.2.2.map fmT)),none,none] rfl ?hb ?hg
 case hb=>exact(ag (hU (i:=3) (LN:=["q"]) (FN:=["forms"]) (fr:=[2]) rfl nd rfl rfl (cV (by rfl)) (dD (K:=K) rfl (wx K (pv 1) aa)) (fun _ _ _ _ _ _=>(pyn 0 (show ((["q"]:List Str)++(["forms"]:List Str)).Nodup by decide +kernel))) (fun _ _ _ _ _ _=>di) (fun _ _ _ _ _ _=>(wx K (pv 1) (pv 0)))) (ag (dB (i:=4) nd rfl (Or.inl rfl) (au dQ (wx K (wx K (pv 0) (wx K (pv 1) aa)) aa) (aG (bj (K:=K) rfl) (by rfl) tq.b_len bi (pyv 3)))) (ai (aq (aw (aB (wx K (pv 1) aa) (aj aa (aR (cY (ff (K:=K) rfl) (by rfl) tq.b_tuple du (bM (au eU (pv 3) (au qX (bz (aR (pyk (nR tq :) hr.m (aj aa ae)) ae)) (pv 4))) ae)) ae))))))))
 ext;refine cu (fun Γ'=>∃ a,Γ'=[a,some (.tup (s.2.2.map fmT))]) ?_;ext;refine⟨_,rfl,?_⟩;rw[jY];refine⟨by rw[af];lia,trivial,⟨none,rfl⟩,(qs.map (gtF s)).map fmT,by simp,?_,?_⟩
 .rintro i x y Γ' hx hy ⟨a,rfl⟩;rw[ah] at hx hy;rw[ah] at hy;obtain⟨z,ez,rfl⟩:=aV.mp hx;rw[ez] at hy;cases hy;have hz:=hq z (aD ez);ext;refine⟨⟨_,rfl⟩,rfl,?_⟩;ext;exact eA (kL hz.1 hz.2) ⟨rfl,rfl⟩
 ext;refine aU (at_i g0 (by rw[ah,hd];rfl)) ?_;ext;refine⟨_,rfl,?_⟩;ext;rw[af,af];refine l_rep (by lia) (by lia) ?_;ext;refine fg si_l si_l (by rw[af,af,ir];lia) ?_;ext;refine eZ sg_l (fun _=>nofun) ?_;ext;have e:(qs.map (gtF s)).map fmT++List.replicate (d.boxes-qs.length).toNat (fmT (0,[]))=(qs.map (gtF s)++List.replicate (iD Q g-qs.length).toNat (0,[])).map fmT:=by
  have eb:iD Q g=d.boxes:=by unfold iD;rw[hd];rfl
  rw[aW,map_replicate,eb]
 rw[e];exact av q
structure SlOk(Q:List Df)(n B:Nat)(fr:List SF)(s:SF):Prop where
 pk:PgK Q
 f:FrsOk Q n B fr s
 b:B<=10^900
 n:n<64
def Zlj:Pre:=fun ts G k=>∃ Q n B fr s x,ts=[pgT Q,x]/\SfL G x fr s/\SlOk Q n B fr s/\k (optT (cF Q fr s)) G
theorem sc_silent:FnScope ["program","frames","row","forms","call"] ["program","frames"] (aC pV):=by ac_nf
theorem ZnY(tq:Tq P w K mg base):Callee P w K mg base "silent" 5 ["program","frames"] (spG P w K Zlj):=by
 refine tq.c3.okG sc_silent (by walk_at"lnx") fun f cdv A outer s H E ts G' k hr hh=>?_;have nd:=sc_silent.nd;obtain⟨Q,n,Bd,fr,s,x,rfl,hx,⟨PK,fo,hB,hn⟩,q⟩:=hh;refine' go_G [some (pgT Q),some x,none,none,none] rfl ?hb ?hg
 case hb=>exact(ag (bI (i:=2) nd rfl (Or.inl rfl) (pyk (j7 tq :) hr.m (pyw 0 (aB (wx K (pv 1) (cg ce aa)) ae)))) (ag (cL (i:=3) nd rfl (Or.inl rfl) (wx K (wx K (pv 1) (cg ce aa)) aa)) (ag (aK (aA (k_in (K:=K) rfl) (wx K (pv 2) aa) (Zpz (K:=K) (by rfl) tq.c_RECKONINGS) (by with_unfolding_all rfl)) (ai (aq (pyk (oZ tq :) hr.m (pyw 1 (aB (wx K (pv 2) aa) (aR (pyk (Zke tq :) hr.m (pyw 2 (pyv 3))) ae)))))) aQ) (ag (aK (aA bc (wx K (pv 2) aa) aF (ax _)) (ai (aq (pyk (jW tq :) hr.m (pyw 1 (aB (wx K (pv 2) aa) ae))))) aQ) (ag (aK (PW.pt (bT (aA (k_in (K:=K) rfl) (wx K (pv 2) aa) (aw (aj aF (aj aF ae))) (by with_unfolding_all rfl)) (cC (cy (pyk (Zkf tq :) hr.m (aB (wx K (pv 3) (wx K (pv 2) aa)) ae)))))) (ai (aq (pyk (ZnX tq :) hr.m (pyw 1 (pyv 2))))) aQ) (ag (aK (PW.pt (bT (aA bc (wx K (pv 2) aa) aF (ax _)) (cC (aA dO (aG (bj (K:=K) rfl) (by rfl) tq.b_len bi (pyv 1)) (ki (by rfl) tq.c_MOST_SIGN_FRAMES) (ax _))))) (ai (aq (au eU (pv 1) (bz (aR (pyk (ZnZ tq :) hr.m (pyw 0 (pyw 2 (pyv 3)))) ae))))) aQ) (ag (aK (PW.pt (bT (aA bc (wx K (pv 2) aa) aF (ax _)) (cC (aA gn (aG (bj (K:=K) rfl) (by rfl) tq.b_len bi (pyv 1)) aa (ax _))))) (ag (bI (i:=4) nd rfl (Or.inl rfl) (pyk (j7 tq :) hr.m (pyw 0 (aB (wx K (pv 1) (cg ce aa)) ae)))) (ai (aq (pyk (oZ tq :) hr.m (aB (cI (k_sl (K:=K) rfl) (pv 1) cM (cN (cg ce aa))) (aB (wx K (pv 4) aa) (aB (wx K (pv 3) (wx K (pv 2) aa)) ae))))))) aQ) (ai (aq cU)))))))))
 have hs:=fo.all s (by simp);obtain⟨d,r,hd,h2,hrow,h4,h0,h3,h5⟩:=dZ hs;have D:=PK.ok.2.2 d hd;have ok:=D.rows r (aD h4);rw[<-h5] at ok;have few:=fo.few;have hb8:=PK.b d hd;have len:SqG G' x (fr.map sfT++[sfT s]):=hx.last;unfold cF at q;rw[hrow] at q;ext;refine l_ix len (fc _ _) ?_;ext;refine⟨Q,s,r,rfl,h0,h3,hrow,?_⟩;ext;refine l_ix len (fc _ _) ?_;have wb:∀ {p:Int} {f:Fm} {k:T->GH->Prop},In0 p s.2.2.length->k (.lst ((fE fr s p f).map sfT)) G'->xj [x,.int p,fmT f] G' k:=fun {p f k} hp q=>⟨fr,s,p,f,x,rfl,hx,by lia,hp.1,hp.2,by lia,q⟩;cases r with
 | put a b=>ext;refine⟨Q,n,Bd,s,_,_,_,_,rfl,hs,hB,hn,ok,rfl,?_⟩;ext;exact wb ok.1 (av q)
 | copy a b=>ext;refine⟨Q,n,Bd,s,_,_,_,_,rfl,hs,hB,hn,ok,rfl,?_⟩;ext;exact wb ok.1 (av q)
 | plus a b c=>ext;refine⟨Q,n,Bd,s,_,_,_,_,rfl,hs,hB,hn,ok,rfl,?_⟩;ext;exact wb ok.1 (av q)
 | less a b c=>ext;refine⟨Q,n,Bd,s,_,_,_,_,rfl,hs,hB,hn,ok,rfl,?_⟩;ext;exact wb ok.1 (av q)
 | times a b c=>ext;refine⟨Q,n,Bd,s,_,_,_,_,rfl,hs,hB,hn,ok,rfl,?_⟩;ext;exact wb ok.1 (av q)
 | take a=>ext;refine bu (ss:=["zero","below"]) sg_t ?_;ext;exact av q
 | tell a=>ext;refine bu (ss:=["zero","below"]) sg_t ?_;ext;exact av q
 | jump t=>ext;exact⟨fr,s,t,x,rfl,hx,by lia,av q⟩
 | zero p t =>
  ext;refine bu (ss:=["zero","below"]) sg_t ?_;ext;refine eA (kL ok.1.1 ok.1.2) ?_;ext;refine⟨_,rfl,?_⟩;ext;dsimp only [bK] at q;refine dF (fun h=>?_) (fun h=>?_)
  .rw[ak h] at q;ext;refine ⟨fr,s,_,x,p,t,rfl,hx,by lia,.inl rfl,ok.1.1,ok.1.2,?_⟩;have e:(if (Rw.zero p t).goes (gtF s p).1=true then t else s.2.1+1)=if (gtF s p).1=0 then t else s.2.1+1:=by
    show (if decide ((gtF s p).1=0)=true then t else _)=_;by_cases h:(gtF s p).1=0 <;> simp[h]
   rw[e];exact av q
  .rw[ao h] at q;ext;exact av q
 | below p t =>
  ext;refine bu (ss:=["zero","below"]) sg_t ?_;ext;refine eA (kL ok.1.1 ok.1.2) ?_;ext;refine⟨_,rfl,?_⟩;ext;dsimp only [bK] at q;refine dF (fun h=>?_) (fun h=>?_)
  .rw[ak h] at q;ext;refine ⟨fr,s,_,x,p,t,rfl,hx,by lia,.inr rfl,ok.1.1,ok.1.2,?_⟩;have e:(if (Rw.below p t).goes (gtF s p).1=true then t else s.2.1+1)=if (gtF s p).1 < 0 then t else s.2.1+1:=by
    show (if decide ((gtF s p).1<0)=true then t else _)=_;by_cases h:(gtF s p).1<0 <;> simp[h]
   rw[e];exact av q
  .rw[ao h] at q;ext;exact av q
 | call p g qs =>
  ext;refine bu (ss:=["zero","below"]) sg_t ?_;ext;refine cS len ?_;ext;dsimp only [bK] at q;rw[aH,af,dY];refine dF (fun h=>?_) (fun h=>?_)
  .rw[ak (by lia)] at q;ext;obtain ⟨d2,g0,hg,hq⟩:=ok.2.1;have D2:=PK.ok.2.2 d2 (aD hg);refine ⟨Q,s,p,g,qs,d2,rfl,g0,hg,ok.2.2,by rw[hq];exact D2.t.2,by have:=PK.b d2 (aD hg);lia,?_⟩;ext;refine fg hx si_l (by rw[af,aH];simp;lia) ?_;have e:(fr++[s]).map sfT++[sfT (eJ Q s g qs)]=(fr++[s,eJ Q s g qs]).map sfT:=by simp
   rw[e];exact av q
  .rw[ao (by lia)] at q;ext;exact av q
 | back p =>
  ext;refine bu (ss:=["zero","below"]) sg_t ?_;ext;refine cS len ?_;ext;dsimp only [bK] at q;rw[aH,af,dY];cases hl:fr.getLast? with
  | none =>
   rw[hl] at q;rw[getLast?_eq_none_iff.mp hl];ext;exact av q
  | some c =>
   rw[hl] at q;obtain⟨ys,rfl⟩:=gy.mp hl;rw[aH,dY];refine dF (fun h=>?_) (fun h=>absurd h (by lia));have hc:=fo.all c (by simp);obtain⟨p2,g,qs,hcall⟩:=fo.call c (by simp);obtain⟨dc,rc,hdc,h2c,hrc,h4c,h0c,h3c,h5c⟩:=dZ hc;rw[hcall] at hrc;cases hrc;have okc:=(PK.ok.2.2 dc hdc).rows _ (aD h4c);rw[<-h5c] at okc;dsimp only at q;rw[fU,hcall] at q;have len2:SqG G' x (ys.map sfT++[sfT c,sfT s]):=by
    have:=len;rw[aW,cp] at this;exact this
   ext;refine l_ix len2 (Zqn _ _ _) ?_;ext;refine⟨Q,c,_,rfl,h0c,h3c,hcall,?_⟩;ext;refine iU hx ?_;rw[hx.cut];ext;refine eA (kL ok.1 ok.2) ?_;ext;have h8:=PK.b dc hdc;rw[aH] at few;exact⟨ys,c,p2,gtF s p,_,rfl,si_l,by lia,okc.1.1,okc.1.2,by lia,av q⟩
noncomputable def jA(fl:List Fm)(s:SF):SF:=(s.1,s.2.1,s.2.2.map fun f=>bG f fl)
def Zlp:Pre:=fun ts G k=>∃ (fr:List SF) (fl:List Fm) (x y:T) (m:Nat),ts=[x,y]/\SqI G x (fr.map sfT)/\SqI G y (fl.map fmT)/\fr.length<=1000/\(∀ s∈fr,s.2.2.length<=1000/\∀ f∈s.2.2,FoB fl.length f)/\m<64/\(∀ g∈fl,FoB m g)/\k (.lst ((fr.map (jA fl)).map sfT)) G
theorem sc_filled:FnScope ["frames","forms"] ["frames","forms"] (aC pT):=by ac_nf
theorem wM(tq:Tq P w K mg base):Callee P w K mg base "filled" 3 ["frames","forms"] (spG P w K Zlp):=by
 refine tq.c4.okG sc_filled (by walk_at"lnx") fun f cdv A outer s H E ts G k hr hh=>?_;have nd:=sc_filled.nd;obtain⟨fr,fl,x,y,m,rfl,hx,hy,hl,hf,hm,hg,q⟩:=hh;refine' go_G [some x,some y] rfl ?hb ?hg
 case hb=>exact(ai (aq (fO (LN:=["f","at","boxes"]) (FN:=["forms"]) (fr:=[1]) rfl (cV (by rfl)) (dS (K:=K) rfl (pv 0)) (fun _ _ _ _ _ _=>(cj (K:=K) (n:=3) rfl rfl (aP (pyn 0 (show ((["f","at","boxes"]:List Str)++(["forms"]:List Str)).Nodup by decide +kernel)) (aP (pyn 1 (show ((["f","at","boxes"]:List Str)++(["forms"]:List Str)).Nodup by decide +kernel)) (aP (pyn 2 (show ((["f","at","boxes"]:List Str)++(["forms"]:List Str)).Nodup by decide +kernel)) bY))))) (fun _ _ _ _ _ _=>di) (fun cl C fp pins s H=>(aw (pyw 0 (pyw 1 (aR (cY (ff (K:=K) rfl) (by rfl) tq.b_tuple du (dy (pyc ["form"] ["forms"] [3] (dD (K:=K) rfl (pv 2)) (fun _ _ _ _ _ _=>(pyk (vT tq :) hr.m (pyw 0 (pyv 1))))) ae)) ae))))))))
 refine jv ?_;refine cu (fun Γ'=>Ex3 fun a b c=>Γ'=[a,b,c,some y]) ?_;ext;refine⟨_,hx,by rw[af];lia,hx,⟨none,none,none,rfl⟩,(fr.map (jA fl)).map sfT,by simp,?_,av q⟩;rintro i z y2 Γ' hz hy2 ⟨a,b,c,rfl⟩;rw[ah] at hz hy2;rw[ah] at hy2;obtain⟨s,es,rfl⟩:=aV.mp hz;rw[es] at hy2;cases hy2;obtain⟨hl2,hfs⟩:=hf s (aD es);refine cf rfl ?_;ext;refine⟨⟨_,_,_,rfl⟩,rfl,?_⟩;ext;refine cu (fun Γ'=>∃ a,Γ'=[a,some y]) ?_;ext;refine⟨_,rfl,by rw[af];lia,trivial,⟨none,rfl⟩,(s.2.2.map fun f=>bG f fl).map fmT,by simp,?_,?_⟩
 .rintro j z2 y3 Γ2 hz2 hy3 ⟨a2,rfl⟩;rw[ah] at hz2 hy3;rw[ah] at hy3;obtain⟨f,ef,rfl⟩:=aV.mp hz2;rw[ef] at hy3;cases hy3;ext;refine⟨⟨_,rfl⟩,rfl,?_⟩;ext;exact⟨_,m,f,fl,y,rfl,hy,hfs f (aD ef),rfl,hm,hg,rfl,rfl⟩
 .ext;refine eZ sg_l (fun _=>nofun) ?_;ext;exact⟨rfl,rfl⟩
def Zih:Pre:=fun ts G k=>∃ i:Int,ts=[.int i]/\k (.bl true) G
theorem sc_is_whole:FnScope ["thing"] ["thing"] (aC qi):=by ac_nf
theorem lR(tq:Tq P w K mg base):Callee P w K mg base "is_whole" 1 ["thing"] (spG P w K Zih):=by
 refine tq.c5.okG sc_is_whole (by walk_at"lnx") fun f cdv A outer s H E ts G k hr hh=>?_;have nd:=sc_is_whole.nd;obtain⟨i,rfl,q⟩:=hh;refine' go_G [some (.int i)] rfl ?hb ?hg
 case hb=>exact(ai (aq (ju (aG eF (by rfl) tq.b_isinstance dN (pyw 0 (bn (dq (v:=.ty "int") (by rfl) tq.b_int m3 rfl) ae))) (iQ (pe_not (aG eF (by rfl) tq.b_isinstance dN (pyw 0 (bn (dq (v:=.ty "bool") (by rfl) tq.b_bool nS rfl) ae))))))))
 ext;exact av q
def Zln:Pre:=fun ts G k=>∃ a b:T,ts=[.tup [a,b]]/\k (.bl true) G
theorem sc_is_two:FnScope ["thing"] ["thing"] (aC ox):=by ac_nf
theorem xQ(tq:Tq P w K mg base):Callee P w K mg base "is_two" 1 ["thing"] (spG P w K Zln):=by
 refine tq.c6.okG sc_is_two (by walk_at"lnx") fun f cdv A outer s H E ts G k hr hh=>?_;have nd:=sc_is_two.nd;obtain⟨a,b,rfl,q⟩:=hh;refine' go_G [some (.tup [a,b])] rfl ?hb ?hg
 case hb=>exact(ai (aq (ju (aG eF (by rfl) tq.b_isinstance dN (pyw 0 (bn (dq (v:=.ty "tuple") (by rfl) tq.b_tuple du rfl) ae))) (iQ (dP bc (aG (bj (K:=K) rfl) (by rfl) tq.b_len bi (pyv 0)) aa (ax _))))))
 ext;exact av q
def GdF(m:Nat)(g:Fm):Prop:=Cano g/\g.2.length<=1000/\∀ p∈g.2,0<=p.2/\p.2<m
theorem gd_fo{m B:Nat}{g:Fm}(h:Fo m B g)(c:Cano g)(hm:m<=1000):GdF m g:=⟨c,by have:=h.len;lia,h.w⟩
def ZjW:Pre:=fun ts G k=>∃ (g:Fm) (m:Nat),ts=[fmT g,.int m]/\GdF m g/\k (.bl true) G
theorem sc_is_form:FnScope ["thing","many","least","pair"] ["thing","many"] (aC o5):=by ac_nf
theorem xZ(tq:Tq P w K mg base):Callee P w K mg base "is_form" 2 ["thing","many"] (spG P w K ZjW):=by
 refine tq.c7.okG sc_is_form (by walk_at"lnx") fun f cdv A outer s H E ts G k hr hh=>?_;have nd:=sc_is_form.nd;obtain⟨g,m,rfl,⟨cn,hl,hw⟩,q⟩:=hh;refine' go_G [some (fmT g),some (.int m),none,none] rfl ?hb ?hg
 case hb=>exact(ag (aK (dj (PW.pt (bT (cy (pyk (xQ tq :) hr.m (pyv 0))) (bT (cy (pyk (lR tq :) hr.m (aB (wx K (pv 0) aa) ae))) (cC (cy (aG eF (by rfl) tq.b_isinstance dN (aB (wx K (pv 0) aa) (bn (dq (v:=.ty "tuple") (by rfl) tq.b_tuple du rfl) ae))))))))) (ai (aq cW)) aQ) (ag (cO (i:=2) nd rfl (Or.inl rfl) aa) (ag (cE PassesOwn.never rfl (dD (K:=K) rfl (wx K (pv 0) aa)) (pyn 3 nd) (ag (aK (dj (PW.pt (bT (cy (pyk (xQ tq :) hr.m (pyv 3))) (bT (cy (pyk (lR tq :) hr.m (aB (wx K (pv 3) aa) ae))) (cC (cy (pyk (lR tq :) hr.m (aB (wx K (pv 3) aa) ae)))))))) (ai (aq cW)) aQ) (ag (aK (PW.pt (fe (aA bc (wx K (pv 3) aa) aa (ax _)) (gh (dj (g8 eT dO (pv 2) (wx K (pv 3) aa) (pv 1)))))) (ai (aq cW)) aQ) (ai (dB (i:=2) nd rfl (Or.inl rfl) (au bD (wx K (pv 3) aa) aa)))))) (ai (aq cW)))))
 ext;refine⟨_,_,rfl,?_⟩;ext;refine⟨_,rfl,?_⟩;ext;refine⟨_,rfl,fun i Γ' G'=>G'=G/\∃ (c:Int) (x:Option T),Γ'=[some (fmT g),some (.int m),some (.int c),x]/\∀ p∈g.2.drop i,c<=p.2,⟨rfl,0,_,rfl,fun p hp=>(hw p (mem_of_mem_drop hp)).1⟩,fun _ _ _ _=>trivial,?_,?_⟩
 .rintro i z Γ' G' hz ⟨rfl,c,x,rfl,hc⟩;rw[ah] at hz;obtain ⟨p,ep,rfl⟩:=aV.mp hz;have pm:=aD ep;obtain ⟨hi,ep2⟩:=aX.mp ep;have ed:g.2.drop i=p::g.2.drop (i+1):=by rw[<-ep2];exact drop_eq_getElem_cons hi
  have h0:=hw p pm;have h1:c<=p.2:=hc p (by rw[ed];exact aO);have h2:p.1≠0:=cn.2 p pm;ext;refine⟨_,_,rfl,?_⟩;ext;refine⟨_,rfl,?_⟩;ext;refine⟨_,rfl,?_⟩;ext;rw[bo h2];ext;rw[aY h1];ext;rw[aY h0.2];ext;dsimp only;refine ck ⟨rfl,p.2+1,_,rfl,fun q hq=>?_⟩;have pw:=(lu.mp (by rw[<-ed];exact cn.1.sublist (drop_sublist i g.2))).1 q hq;have pw:p.2<q.2:=pw;lia
 .rintro Γ' G' ⟨rfl,c,x,rfl,hc⟩;ext;exact av q
theorem jb{α:Type}{l:List α}:(l.map fun _=>true).all id=true:=by rw[iZ];intro x hx;obtain⟨_,_,rfl⟩:=aT.mp hx;rfl
def Znq:Pre:=fun ts G k=>∃ (Q:List Df) (s t:SF) (p:Int) (qs:List Int),ts=[pgT Q,sfT s,sfT t]/\0<=s.1/\0<=s.2.1/\cr Q s.1 s.2.1=some (.call p t.1 qs)/\k (.bl true) G
theorem sc_calls:FnScope ["program","frame","after","row"] ["program","frame","after"] (aC qw):=by ac_nf
theorem Zql(tq:Tq P w K mg base):Callee P w K mg base "calls" 2 ["program","frame","after"] (spG P w K Znq):=by
 refine tq.c8.okG sc_calls (by walk_at"lnx") fun f cdv A outer s H E ts G k hr hh=>?_;have nd:=sc_calls.nd;obtain⟨Q,s,t,p,qs,rfl,h0,h3,hrow,q⟩:=hh;refine' go_G [some (pgT Q),some (sfT s),some (sfT t),none] rfl ?hb ?hg
 case hb=>exact(ag (bI (i:=3) nd rfl (Or.inl rfl) (pyk (j7 tq :) hr.m (pyw 0 (pyv 1)))) (ai (aq (ju (dP bc (wx K (pv 3) aa) aF (ax _)) (iQ (dP bc (wx K (pv 3) aa) (wx K (pv 2) aa) (ax _)))))))
 ext;refine⟨Q,s,_,rfl,h0,h3,hrow,?_⟩;ext;rw[emb];ext;rw[aY rfl];exact av q
def Zgn:Pre:=fun ts G k=>∃ (Q:List Df) (n B:Nat) (t:SF),ts=[pgT Q,.int n,sfT t]/\PgK Q/\SfOk Q n B t/\n<=1000/\(∀ g∈t.2.2,Cano g)/\k (.bl true) G
theorem sc_frame_fits:FnScope ["program","many","frame"] ["program","many","frame"] (aC pz):=by ac_nf
theorem ZhI(tq:Tq P w K mg base):Callee P w K mg base "frame_fits" 3 ["program","many","frame"] (spG P w K Zgn):=by
 refine tq.c9.okG sc_frame_fits (by walk_at"lnx") fun f cdv A outer s H E ts G k hr hh=>?_;have nd:=sc_frame_fits.nd;obtain⟨Q,n,B',t,rfl,pk,ho,hn,cn,q⟩:=hh;obtain⟨d,r,hd,h2,hrow,h4,h0,h3,h5⟩:=dZ ho;have b8:=gk pk ho;have hq1:=(aX.mp h2).1;have hq2:=(aX.mp h4).1;have eqf:(Q.map dfT)[t.1.toNat]?=some (dfT d):=by rw[ah,h2];rfl
 refine' go_G [some (pgT Q),some (.int n),some (sfT t)] rfl ?hb ?hg
 case hb=>exact(ag (aK (dj (PW.pt (bT (aA bc (aG (bj (K:=K) rfl) (by rfl) tq.b_len bi (pyv 2)) aa (ax _)) (cC (g8 eT dO aa (wx K (pv 2) aa) (aG (bj (K:=K) rfl) (by rfl) tq.b_len bi (pyv 0))))))) (ai (aq cW)) aQ) (ag (aK (dj (g8 eT dO aa (wx K (pv 2) aa) (aG (bj (K:=K) rfl) (by rfl) tq.b_len bi (aB (wx K (wx K (pv 0) (wx K (pv 2) aa)) aa) ae)))) (ai (aq cW)) aQ) (ai (aq (ju (dP bc (aG (bj (K:=K) rfl) (by rfl) tq.b_len bi (aB (wx K (pv 2) aa) ae)) (wx K (wx K (pv 0) (wx K (pv 2) aa)) aa) (ax _)) (iQ (aG (iC (K:=K) rfl rfl) (by rfl) tq.b_all iL (dy (pyc ["form"] ["many"] [1] (dD (K:=K) rfl (wx K (pv 2) aa)) (fun _ _ _ _ _ _=>(pyk (xZ tq :) hr.m (pyw 0 (pyv 1))))) ae))))))))
 ext;rw[aY h0];ext;rw[af,aY (by lia)];ext;rw[aY h3];ext;refine aU (at_i h0 eqf) ?_;ext;rw[af,aY (by lia)];ext;rw[af];refine aU (at_i h0 eqf) ?_;ext;rw[aY h5];ext;refine cu (fun Γ'=>∃ c,Γ'=[c,some (.int n)]) ?_;ext;refine⟨_,rfl,by rw[af];lia,trivial,⟨_,rfl⟩,(t.2.2.map fun _=>true).map T.bl,by rw[af,af,af],?_,?_⟩
 .rintro i z y Γ' hz hy ⟨c,rfl⟩;rw[ah] at hz;obtain⟨g,eg,rfl⟩:=aV.mp hz;rw[ah,ah,eg] at hy;cases hy;have gm:=aD eg;ext;refine⟨⟨_,rfl⟩,rfl,?_⟩;ext;exact⟨g,n,rfl,gd_fo (ho.fm g gm) (cn g gm) hn,rfl,rfl⟩
 ext;rw[jb];exact av q
def Zgk:Pre:=fun ts G k=>∃ (Q:List Df) (n B:Nat) (f:List SF) (s:SF),ts=[pgT Q,.int n,.lst ((f++[s]).map sfT)]/\PgK Q/\n<=40/\FrsOk Q n B f s/\bO (f++[s])/\Chn Q (plcF (f++[s]))/\k (.bl true) G
theorem sc_paper_fits:FnScope ["program","many","paper"] ["program","many","paper"] (aC oy):=by ac_nf
theorem ZhF(tq:Tq P w K mg base):Callee P w K mg base "paper_fits" 4 ["program","many","paper"] (spG P w K Zgk):=by
 refine tq.d0.okG sc_paper_fits (by walk_at"lnx") fun f cdv A outer s H E ts G' k hr hh=>?_;have nd:=sc_paper_fits.nd;obtain⟨Q,n,B',f,s,rfl,pk,hn,fo,cn,ch,q⟩:=hh;have few:=fo.few;have hl:(f++[s]).length=f.length+1:=by rw[aH];rfl
 refine' go_G [some (pgT Q),some (.int n),some (.lst ((f++[s]).map sfT))] rfl ?hb ?hg
 case hb=>exact(ag (aK (dj (PW.pt (bT (g8 eT eT aa (pv 1) (ki (by rfl) tq.c_MOST_WORDS)) (cC (g8 eT eT aa (aG (bj (K:=K) rfl) (by rfl) tq.b_len bi (pyv 2)) (ki (by rfl) tq.c_MOST_SIGN_FRAMES)))))) (ai (aq cW)) aQ) (ag (aK (dj (cy (aG (iC (K:=K) rfl rfl) (by rfl) tq.b_all iL (dy (pyc ["frame"] ["program","many"] [0,1] (dS (K:=K) rfl (pv 2)) (fun _ _ _ _ _ _=>(pyk (ZhI tq :) hr.m (pyw 1 (pyw 2 (pyv 0)))))) ae)))) (ai (aq cW)) aQ) (ai (aq (aG (iC (K:=K) rfl rfl) (by rfl) tq.b_all iL (dy (pyc ["k"] ["program","paper"] [0,2] (cX rfl tq.b_range (bM (au dQ (aG (bj (K:=K) rfl) (by rfl) tq.b_len bi (pyv 2)) aa) ae)) (fun _ _ _ _ _ _=>(pyk (Zql tq :) hr.m (pyw 1 (aB (wx K (pv 2) (pv 0)) (aB (wx K (pv 2) (au bD (pv 0) aa)) ae)))))) ae))))))
 ext;rw[aY (by lia)];ext;rw[af,hl,aY (by lia)];ext;rw[aY (by lia)];ext;refine cu (fun Γ'=>∃ c,Γ'=[c,some (pgT Q),some (.int n)]) ?_;ext;refine⟨_,si_l,by rw[af,hl];lia,si_l,⟨_,rfl⟩,((f++[s]).map fun _=>true).map T.bl,by rw[af,af,af],?_,?_⟩
 .rintro i z y Γ' hz hy ⟨c,rfl⟩;rw[ah] at hz;obtain⟨t,et,rfl⟩:=aV.mp hz;rw[ah,ah,et] at hy;cases hy;have tm:=aD et;ext;refine⟨⟨_,rfl⟩,rfl,?_⟩;ext;exact⟨Q,n,B',t,rfl,pk,fo.all t tm,by lia,cn t tm,rfl,rfl⟩
 ext;rw[jb];ext;refine cu (fun Γ'=>∃ c,Γ'=[c,some (pgT Q),some (.lst ((f++[s]).map sfT))]) ?_;ext;rw[af,hl];ext;have hrl:(rngT (((f.length+1:Nat):Int)-1).toNat).length=f.length:=by unfold rngT;rw[af,eE];lia
 refine⟨_,rfl,by lia,by lia,by rw[hrl];lia,trivial,⟨_,rfl⟩,(f.map fun _=>true).map T.bl,by rw[af,af,hrl],?_,?_⟩
 .rintro i z y Γ' hz hy ⟨c,rfl⟩;have hi:i < f.length:=by have:=(aX.mp hz).1;rwa [hrl] at this
  have ez:z=.int (i:Int):=by
   unfold rngT at hz;rw[ah,lE (by lia)] at hz;cases hz;rfl
  subst ez;rw[ah,ah,ay hi] at hy;cases hy;have e1:(f++[s])[i]?=some ((f++[s])[i]'(by lia)):=ay _;have e2:(f++[s])[i+1]?=some ((f++[s])[i+1]'(by lia)):=ay _;generalize (f++[s])[i]'(by lia)=a at e1;generalize (f++[s])[i+1]'(by lia)=b at e2;obtain⟨d,r,_,_,_,_,h0,h3,_⟩:=dZ (fo.all a (aD e1));obtain⟨p,qs,hcall⟩:=ch i (a.1,a.2.1) (b.1,b.2.1) (by unfold plcF;rw[ah,e1];rfl) (by unfold plcF;rw[ah,e2];rfl);ext;refine⟨⟨_,rfl⟩,rfl,?_⟩;ext;refine aU (cD (n:=i) rfl (by rw[ah,e1];rfl)) ?_;ext;refine aU (cD (n:=i+1) (by lia) (by rw[ah,e2];rfl)) ?_;ext;exact⟨Q,a,b,p,qs,rfl,h0,h3,hcall,rfl,rfl⟩
 ext;rw[jb];exact av q
def Zg7:Pre:=fun ts G k=>∃ (x:T) (kd:Str),ts=[x,.str kd]/\((kd="number"/\∃ i:Int,x=.int i)\/(kd="edge"/\∃ a b c:T,x=.tup [a,b,c]))/\k (.bl true) G
theorem sc_part_fits:FnScope ["part","kind"] ["part","kind"] (aC pb):=by ac_nf
theorem ZiA(tq:Tq P w K mg base):Callee P w K mg base "part_fits" 2 ["part","kind"] (spG P w K Zg7):=by
 refine tq.d1.okG sc_part_fits (by walk_at"lnx") fun f cdv A outer s H E ts G k hr hh=>?_;have nd:=sc_part_fits.nd;obtain⟨x,kd,rfl,h,q⟩:=hh;refine' go_G [some x,some (.str kd)] rfl ?hb ?hg
 case hb=>exact(ag (aK (aA bc (pv 1) aF (ax _)) (ai (aq (pyk (lR tq :) hr.m (pyv 0)))) aQ) (ai (aq (ju (aG eF (by rfl) tq.b_isinstance dN (pyw 0 (bn (dq (v:=.ty "tuple") (by rfl) tq.b_tuple du rfl) ae))) (iQ (dP bc (aG (bj (K:=K) rfl) (by rfl) tq.b_len bi (pyv 0)) aa (ax _)))))))
 rcases h with ⟨rfl,i,rfl⟩|⟨rfl,a,b,c,rfl⟩
 .ext;exact⟨_,rfl,av q⟩
 .ext;exact av q
inductive DdV:T->Str->List T->List T->Prop
 | leave:DdV (.tup [.str "leave"]) "leave" [] []
 | go {e:T}:DdV (.tup [.str "go",e]) "go" [e] [e]
 | tell {e:T}:DdV (.tup [.str "tell",e]) "tell" [e] [e]
 | take {e:T}:DdV (.tup [.str "take",e]) "take" [e] [e]
 | test {a b:T}:DdV (.tup [.str "test",a,b]) "test" [a,b] [a,b]
 | hold {w c:Int} {e:T}:DdV (.tup [.str "hold",.int w,.int c,e]) "hold" [.int w,.int c,e] [e]
def Zij:Pre:=fun ts G k=>∃ (dd:T) (wd:Str) (ps es:List T),ts=[dd]/\DdV dd wd ps es/\k (.tup es) G
theorem sc_edges_of:FnScope ["deed"] ["deed"] (aC pN):=by ac_nf
theorem wC(tq:Tq P w K mg base):Callee P w K mg base "edges_of" 1 ["deed"] (spG P w K Zij):=by
 refine tq.d2.okG sc_edges_of (by walk_at"lnx") fun f cdv A outer s H E ts G k hr hh=>?_;have nd:=sc_edges_of.nd;obtain⟨dd,wd,ps,es,rfl,h,q⟩:=hh;refine' go_G [some dd] rfl ?hb ?hg
 case hb=>exact(ag (aK (aA bc (wx K (pv 0) aa) aF (ax _)) (ai (aq (cI (fq (K:=K) rfl) (pv 0) (cN aa) cM))) aQ) (ai (aq (cI (fq (K:=K) rfl) (pv 0) (cN aa) cM))))
 cases h with
 | hold =>
  ext;refine fi ?_;rw[iV (by decide) (by simp)];exact av q
 | _ =>
  ext;refine fi ?_;rw[iV (by decide) (by simp)];exact av q
inductive OwnV(n:Nat):T->List Fm->Prop
 | plain {dd:T} {wd:Str} {ps es:List T} (h:DdV dd wd ps es) (h1:wd≠"take") (h2:wd≠"hold"):OwnV n dd (aI n)
 | take {e:T}:OwnV n (.tup [.str "take",e]) (aI (n+1))
 | hold {w:Nat} {c:Int} {e:T} (hw:w<n):OwnV n (.tup [.str "hold",.int w,.int c,e]) (cR n w c)
def Zg8:Pre:=fun ts G k=>∃ (n:Nat) (p dd:T) (own:List Fm),ts=[.tup [.int n,p,dd]]/\n<=1000/\OwnV n dd own/\k (.lst (own.map fmT)) G
theorem wu(n:Nat):aI (n+1)=aI n++[ofW n]:=by unfold aI;rw[range_succ,aW];rfl
theorem sc_own_words:FnScope ["stand","deed","words"] ["stand"] (aC oB):=by ac_nf
theorem ZiB(tq:Tq P w K mg base):Callee P w K mg base "own_words" 2 ["stand"] (spG P w K Zg8):=by
 refine tq.d3.okG sc_own_words (by walk_at"lnx") fun f cdv A outer s H E ts G k hr hh=>?_;have nd:=sc_own_words.nd;obtain⟨n,p,dd,own,rfl,hn,ho,q⟩:=hh;refine' go_G [some (.tup [.int n,p,dd]),none,none] rfl ?hb ?hg
 case hb=>exact(ag (cL (i:=1) nd rfl (Or.inl rfl) (wx K (pv 0) aa)) (ag (hU (i:=2) (LN:=["w"]) (FN:=[]) (fr:=[]) rfl nd rfl rfl (cV (by rfl)) (cX rfl tq.b_range (aB (wx K (pv 0) aa) ae)) (fun _ _ _ _ _ _=>(pyn 0 (show ((["w"]:List Str)++([]:List Str)).Nodup by decide +kernel))) (fun _ _ _ _ _ _=>di) (fun _ _ _ _ _ _=>(pyk (vE tq :) hr.m (pyv 0)))) (ag (aK (aA bc (wx K (pv 1) aa) aF (ax _)) (ai (eI (k_bm (K:=K) rfl PySem.F.plainAttrs_list PySem.F.slot_list_append PySem.F.type_list_append gW (pv 2) (aR (pyk (vE tq :) hr.m (aB (wx K (pv 0) aa) ae)) ae)))) aQ) (ag (aK (aA bc (wx K (pv 1) aa) aF (ax _)) (ai (bV (pyk (nR tq :) hr.m (aB (wx K (pv 1) aa) ae)) (cH (pv 2) (wx K (pv 1) aa) cK))) aQ) (ai (aq (pv 2)))))))
 have wl:(aI n).length=n:=by unfold aI;rw[af,eE]
 ext;refine vW (fun Γ'=>∃ c,Γ'=[c]) ?_;ext;have hrl:(rngT (n:Int).toNat).length=n:=by unfold rngT;simp
 refine⟨n,rfl,by lia,by lia,by rw[hrl];lia,trivial,⟨_,rfl⟩,(aI n).map fmT,by rw[af,wl,hrl],?_,fun wa nwa=>?_⟩
 .rintro i z y Γ' hz hy ⟨c,rfl⟩;unfold rngT at hz;unfold aI at hy;rw[bB,ah] at hz;rw[ah,ah] at hy;obtain⟨j,ej,rfl⟩:=aV.mp hz;rw[ej] at hy;cases hy;ext;refine⟨⟨_,rfl⟩,rfl,?_⟩;ext;exact⟨_,rfl,rfl,rfl⟩
 refine bt ?_;cases ho with
 | plain h h1 h2 =>
  cases h with
  | hold=>exact absurd rfl h2
  | take=>exact absurd rfl h1
  | _ =>
   ext;exact kf nwa (av q)
 | take =>
  ext;refine⟨ty_p gp_s,?_⟩;ext;refine⟨_,rfl,?_⟩;ext;refine gJ gp_s (by rw[af,wl];lia) ?_;rw[gp_p];ext;rw[wu,aW] at q;exact kf nwa (av q)
 | @hold w c e hw =>
  ext;refine⟨_,rfl,?_⟩;ext;refine⟨wa,_,w,w,rfl,rfl,gp_s,lK rfl (by rw[af,wl];exact hw),?_⟩;rw[gp_p,<- map_set];ext;exact kf nwa (av q)
inductive StaV(Q:List Df)(f:List SF)(s:SF)(own:List Fm):T->List (List SF)->Prop
 | go {e:T}:StaV Q f s own (.tup [.str "go",e]) [f++[s]]
 | hold {w c:Int} {e:T}:StaV Q f s own (.tup [.str "hold",.int w,.int c,e]) [f++[s]]
 | leave:StaV Q f s own (.tup [.str "leave"]) [f++[s]]
 | test {p t:Int} {a b:T} (hr:cr Q s.1 s.2.1=some (.zero p t)\/cr Q s.1 s.2.1=some (.below p t)):StaV Q f s own (.tup [.str "test",a,b]) [cJ f s t,cJ f s (s.2.1+1)]
 | tell {p:Int} {e:T} (hr:cr Q s.1 s.2.1=some (.tell p)):StaV Q f s own (.tup [.str "tell",e]) [cJ f s (s.2.1+1)]
 | take {p:Int} {e:T} {g:Fm} (hr:cr Q s.1 s.2.1=some (.take p)) (hp:0<=p/\p<s.2.2.length) (hg:own.getLast?=some g):StaV Q f s own (.tup [.str "take",e]) [fE f s p g]
def Zg6:Pre:=fun ts G k=>∃ (Q:List Df) (n N m B:Nat) (l:List SF) (f:List SF) (s:SF) (dd:T) (own:List Fm) (sts:List (List SF)),ts=[pgT Q,.tup [.int n,.lst (l.map sfT),dd],.lst (own.map fmT)]/\PgK Q/\l.length<=100/\(∀ t∈l,t.2.2.length<=100/\∀ g∈t.2.2,FoB own.length g)/\m<64/\(∀ g∈own,FoB m g)/\l.map (jA own)=f++[s]/\FrsOk Q N B f s/\StaV Q f s own dd sts/\k (.lst (sts.map fun l=>.lst (l.map sfT))) G
theorem sc_starts_of:FnScope ["program","stand","own","frames","word","row","behind"] ["program","stand","own"] (aC qK):=by ac_nf
theorem Ziy(tq:Tq P w K mg base):Callee P w K mg base "starts_of" 4 ["program","stand","own"] (spG P w K Zg6):=by
 refine tq.d4.okG sc_starts_of (by walk_at"lnx") fun f cdv A outer s H E ts G k hr hh=>?_;have nd:=sc_starts_of.nd;obtain⟨Q,n,N,m,B',l,f,s,dd,own,sts,rfl,pk,hl,hf,hm,hg,efs,fo,hs,q⟩:=hh;obtain⟨d,r,hd,h2,hrow,h4,h0,h3,h5⟩:=dZ (fo.all s (by simp));have few:=fo.few;have b8:=gk pk (fo.all s (by simp));refine' go_G [some (pgT Q),some (.tup [.int n,.lst (l.map sfT),dd]),some (.lst (own.map fmT)),none,none,none,none] rfl ?hb ?hg
 case hb=>exact(ag (bI (i:=3) nd rfl (Or.inl rfl) (pyk (wM tq :) hr.m (aB (wx K (pv 1) aa) (pyv 2)))) (ag (cL (i:=4) nd rfl (Or.inl rfl) (wx K (wx K (pv 1) aa) aa)) (ag (bI (i:=5) nd rfl (Or.inl rfl) (pyk (j7 tq :) hr.m (pyw 0 (aB (wx K (pv 3) (cg ce aa)) ae)))) (ag (dB (i:=6) nd rfl (Or.inl rfl) (au bD (wx K (wx K (pv 3) (cg ce aa)) aa) aa)) (ag (aK (aA bc (pv 4) aF (ax _)) (ai (aq (bz (aR (pyk (jW tq :) hr.m (pyw 3 (aB (wx K (pv 5) aa) ae))) (aR (pyk (jW tq :) hr.m (pyw 3 (pyv 6))) ae))))) aQ) (ag (aK (aA bc (pv 4) aF (ax _)) (ai (aq (bz (aR (pyk (jW tq :) hr.m (pyw 3 (pyv 6))) ae)))) aQ) (ag (aK (aA bc (pv 4) aF (ax _)) (ai (aq (bz (aR (pyk (oZ tq :) hr.m (pyw 3 (aB (wx K (pv 5) aa) (aB (wx K (pv 2) (cg ce aa)) ae)))) ae)))) aQ) (ai (aq (bz (pyv 3)))))))))))
 have lastAt:atI ((f++[s]).map sfT) (-1)=some (sfT s):=by rw[aW];exact fc _ _
 have ar:∀ {t:Int} {k1:T->GH->Prop},k1 (.lst ((cJ f s t).map sfT)) G->uC [.lst ((f++[s]).map sfT),.int t] G k1:=fun {t k1} h=>⟨f,s,t,_,rfl,si_l,by lia,h⟩;ext;refine⟨l,own,_,_,m,rfl,si_l,si_l,by lia,fun t ht=>⟨by have:=(hf t ht).1;lia,(hf t ht).2⟩,hm,hg,?_⟩;rw[efs];refine bt ?_;cases hs with
 | go =>
  ext;refine aU lastAt ?_;ext;refine⟨Q,s,r,rfl,h0,h3,hrow,?_⟩;ext;refine aU lastAt ?_;ext;exact av q
 | hold =>
  ext;refine aU lastAt ?_;ext;refine⟨Q,s,r,rfl,h0,h3,hrow,?_⟩;ext;refine aU lastAt ?_;ext;exact av q
 | leave =>
  ext;refine aU lastAt ?_;ext;refine⟨Q,s,r,rfl,h0,h3,hrow,?_⟩;ext;refine aU lastAt ?_;ext;exact av q
 | @test p t a b hr2 =>
  ext;refine aU lastAt ?_;ext;refine⟨Q,s,r,rfl,h0,h3,hrow,?_⟩;ext;refine aU lastAt ?_;rw[hrow] at hr2;rcases hr2 with e|e <;> (injection e with e;subst e;ext;refine ar ?_;ext;refine ar ?_;ext;exact av q)
 | @tell p e hr2 =>
  ext;refine aU lastAt ?_;ext;refine⟨Q,s,r,rfl,h0,h3,hrow,?_⟩;ext;refine aU lastAt ?_;ext;refine ar ?_;ext;exact av q
 | @take p e g hr2 hp hgl =>
  ext;refine aU lastAt ?_;ext;refine⟨Q,s,r,rfl,h0,h3,hrow,?_⟩;ext;refine aU lastAt ?_;rw[hrow] at hr2;injection hr2 with e
  subst e;obtain⟨ys,eo⟩:=gy.mp hgl;ext;have lo:atI (own.map fmT) (-1)=some (fmT g):=by rw[eo,aW];exact fc _ _
  refine aU lo ?_;ext;refine⟨f,s,p,g,_,by rw[emb],si_l,by lia,hp.1,hp.2,by lia,?_⟩;ext;exact av q
def ZfA:Pre:=fun ts G k=>∃ (Q:List Df) (n B rows:Nat) (f:List SF) (s:SF) (l:List SF),ts=[pgT Q,.lst ((f++[s]).map sfT),.int rows]/\PgK Q/\n<64/\10^60<=B/\rows<=200/\100^rows*B<=10^900/\FrsOk Q n B f s/\cB Q rows (f++[s])=some l/\k (.lst (l.map sfT)) G
theorem pY{Q : List Df} : ∀ {a b : Nat} {l l2 : List SF}, cB Q (a+b) l=some l2->∃ l1, cB Q a l=some l1/\cB Q b l1=some l2
  | 0, b, l, l2, h=>⟨l, rfl, by rwa [Nat.zero_add] at h⟩
  | a + 1, b, l, l2, h => by
    rw[show a+1+b=(a+b)+1 by lia,cB] at h;cases e:bZ Q l with
    | none=>rw[e] at h; cases h
    | some l3 =>
      rw[e] at h;obtain⟨l1,h1,h2⟩:=pY (a:=a) (b:=b) (l:=l3) h;exact⟨l1, by rw[cB, e]; exact h1, h2⟩
theorem tW{Q : List Df}(pk : PgK Q){n : Nat} : ∀ {a B : Nat} {f : List SF} {s : SF} {l : List SF}, 10^60<=B->FrsOk Q n B f s->cB Q a (f++[s])=some l->∃ f2 s2, l=f2++[s2]/\FrsOk Q n (100^a*B) f2 s2
  | 0, B, f, s, l, _, fo, h => by
    cases h;exact⟨f,s,rfl,by rw[Nat.pow_zero,lB];exact fo⟩
  | a + 1, B, f, s, l, hB, fo, h => by
    rw[cB] at h;cases e:bZ Q (f++[s]) with
    | none=>rw[e] at h; cases h
    | some l3 =>
      rw[e] at h;obtain⟨f3,s3,rfl,fo3⟩:=t5 pk hB fo (by rw[<-iR];exact e);obtain⟨f4,s4,e4,fo4⟩:=tW pk (a:=a) (B:=100*B) (bh hB (Nat.le_mul_of_pos_left B (by decide))) fo3 h;exact⟨f4, s4, e4, by rw[Nat.pow_succ, Nat.mul_assoc]; exact fo4⟩
theorem sc_behind_rows:FnScope ["program","frames","rows","count"] ["program","frames","rows"] (aC qB):=by ac_nf
theorem ZgM(tq:Tq P w K mg base):Callee P w K mg base "behind_rows" 6 ["program","frames","rows"] (spG P w K ZfA):=by
 refine tq.d5.okG sc_behind_rows (by walk_at"lnx") fun f cdv A outer s H E ts G k hr hh=>?_;have nd:=sc_behind_rows.nd;obtain⟨Q,n,B',rows,f,s,l,rfl,pk,hn,hB,hr2,hbig,fo,hgo,q⟩:=hh;refine' go_G [some (pgT Q),some (.lst ((f++[s]).map sfT)),some (.int rows),none] rfl ?hb ?hg
 case hb=>exact(ag (cE PassesOwn.never rfl (cX rfl tq.b_range (pyv 2)) (pyn 3 nd) (ag (bI (i:=1) nd rfl (Or.inl rfl) (pyk (ZnY tq :) hr.m (pyw 0 (pyv 1)))) (ai (aK (aA mN (pv 1) cU (ax _)) (ai (aq cU)) aQ)))) (ai (aq (pv 1))))
 have hrl:(rngT (rows:Int).toNat).length=rows:=by unfold rngT;simp
 ext;refine⟨rows,rfl,by lia,by lia,fun i Γ' G'=>G'=G/\∃ (l1:List SF) (c:Option T),cB Q i (f++[s])=some l1/\Γ'=[some (pgT Q),some (.lst (l1.map sfT)),some (.int rows),c],⟨rfl,_,_,rfl,rfl⟩,fun _ _ _ _=>trivial,?_,?_⟩
 .rintro i x Γ' G' hx ⟨rfl,l1,c,h1,rfl⟩;have hi:i < rows:=by have:=(aX.mp hx).1;rwa [hrl] at this
  obtain⟨f2,s2,rfl,fo2⟩:=tW pk hB fo h1;obtain⟨l3,h3,h4⟩:∃ l3,cF Q f2 s2=some l3/\cB Q (i+1) (f++[s])=some l3:=by
   rw[show rows=i+(1+(rows-i-1)) by lia] at hgo;obtain⟨l5,h5,h6⟩:=pY hgo;rw[h1] at h5;injection h5 with h5
   subst h5;obtain⟨l7,h7,_⟩:=pY h6;rw[cB] at h7;cases e:bZ Q (f2++[s2]) with
   | none=>rw[e] at h7;cases h7
   | some l8=>exact⟨l8,by rw[<-iR];exact e,qz h1 e⟩
  have b9:100^i*B'<=10^900:=bh (fT _ (iB (by decide) (by lia))) hbig;ext;refine⟨Q,n,_,f2,s2,_,rfl,si_l,⟨pk,fo2,b9,hn⟩,?_⟩;rw[h3];ext;dsimp only;exact ck ⟨rfl,l3,_,h4,rfl⟩
 .rintro Γ' G' ⟨rfl,l1,c,h1,rfl⟩;rw[hrl,hgo] at h1;cases h1;ext;exact av q
def pr_led:Pre:=fun ts G k=>∃ (dd:T) (wd:Str) (ps es:List T),ts=[dd]/\DdV dd wd ps es/\((wd="go"\/wd="hold")->∃ (r:Nat) (m:T) (j:Nat),1<=r/\es=[.tup [.int r,m,.int j]])/\k .non G
theorem sc_led_rowless:FnScope ["deed","edge"] ["deed"] (aC p7):=by ac_nf
theorem ZgJ(tq:Tq P w K mg base):Callee P w K mg base "led_rowless" 2 ["deed"] (spG P w K pr_led):=by
 refine tq.d6.okG sc_led_rowless (by walk_at"lnx") fun f cdv A outer s H E ts G k hr hh=>?_;have nd:=sc_led_rowless.nd;obtain⟨dd,wd,ps,es,rfl,hv,he,q⟩:=hh;refine' go_G [some dd,none] rfl ?hb ?hg
 case hb=>exact(ag (aK (aA (xU (K:=K) rfl) (wx K (pv 0) aa) (aw (aj aF (aj aF ae))) (by with_unfolding_all rfl)) (ai (aq cU)) aQ) (ag (cL (i:=1) nd rfl (Or.inl rfl) (wx K (pyk (wC tq :) hr.m (pyv 0)) aa)) (ai (aq (gG (aA bc (wx K (pv 1) aa) aa (ax _)) (wx K (pv 1) aa) cU)))))
 cases hv with
 | @go e =>
  obtain⟨r,m,j,h1,ee⟩:=he (.inl rfl);injection ee with ee _
  subst ee;ext;refine bu (ss:=["go","hold"]) sg_t ?_;ext;refine⟨_,_,_,_,rfl,.go,?_⟩;ext;rw[bo (by lia)];ext;exact av q
 | @hold w c e =>
  obtain⟨r,m,j,h1,ee⟩:=he (.inr rfl);injection ee with ee _
  subst ee;ext;refine bu (ss:=["go","hold"]) sg_t ?_;ext;refine⟨_,_,_,_,rfl,.hold,?_⟩;ext;rw[bo (by lia)];ext;exact av q
 | _ =>
  ext;refine bu (ss:=["go","hold"]) sg_t ?_;ext;exact av q
theorem l_eqNI{P:Program}{w:World}{K:W.Frag}{G:GH}{k:T->GH->Prop}{i:Int}(h:k (.bl false) G):L2r P w K rEq .non (.int i) G k:=fun H u v g r1 r2 Q z=>by
 cases r1;cases r2;exact⟨rfl,z.here g .bl h⟩
inductive NoR(dd:T):Prop
 | mk (wd:Str) (ps es:List T) (_:DdV dd wd ps es) (_:(wd="go"\/wd="hold")->∃ (r:Nat) (m:T) (j:Nat),1<=r/\es=[.tup [.int r,m,.int j]]):NoR dd
def Zfz:Pre:=fun ts G k=>∃ (lane:List StL) (i:Nat),ts=[.lst (lane.map stT),.int i]/\i<lane.length/\lane.length<=1000/\(∀ d∈lane,NoR d.dd)/\k (.bl false) G
theorem sc_is_on_round:FnScope ["lane","k","at","count"] ["lane","k"] (aC og):=by ac_nf
theorem ZgK(tq:Tq P w K mg base):Callee P w K mg base "is_on_round" 3 ["lane","k"] (spG P w K Zfz):=by
 refine tq.d7.okG sc_is_on_round (by walk_at"lnx") fun f cdv A outer s H E ts G k hr hh=>?_;have nd:=sc_is_on_round.nd;obtain⟨lane,i,rfl,hi,hl,hn,q⟩:=hh;have ei:lane[i]?=some lane[i]:=ay hi;generalize lane[i]=d at ei;obtain⟨wd,ps,es,hv,he⟩:=hn d (aD ei);refine' go_G [some (.lst (lane.map stT)),some (.int i),none,none] rfl ?hb ?hg
 case hb=>exact(ag (cO (i:=2) nd rfl (Or.inl rfl) (pv 1)) (ag (cE PassesOwn.never rfl (cX rfl tq.b_range (aR (aG (bj (K:=K) rfl) (by rfl) tq.b_len bi (pyv 0)) ae)) (pyn 3 nd) (ag (bI (i:=2) nd rfl (Or.inl rfl) (pyk (ZgJ tq :) hr.m (aB (wx K (wx K (pv 0) (pv 2)) aa) ae))) (ai (aK (PW.pt (fe (aA mN (pv 2) cU (ax _)) (gh (aA bc (pv 2) (pv 1) (ax _))))) (ai (aq (dP bc (pv 2) (pv 1) (ax _)))) aQ)))) (ai (aq cW))))
 ext;refine⟨lane.length,by rw[af],by lia,by lia,fun j Γ' G'=>G'=G/\j=0/\∃ c,Γ'=[some (.lst (lane.map stT)),some (.int i),some (.int i),c],⟨rfl,rfl,_,rfl⟩,fun _ _ _ _=>trivial,?_,?_⟩
 .rintro j x Γ' G' hx ⟨rfl,rfl,c,rfl⟩;ext;refine aU (cD (n:=i) rfl (by rw[ah,ei];rfl)) ?_;ext;refine⟨_,wd,ps,es,rfl,hv,he,?_⟩;ext;refine l_eqNI ?_;exact av q
 .rintro Γ' G' ⟨rfl,h0,c,rfl⟩;unfold rngT at h0;rw[af,eE,bB] at h0;lia
def Zfx:Pre:=fun ts G k=>∃ (lane:List StL),ts=[.lst (lane.map stT)]/\lane.length<=1000/\(∀ d∈lane,NoR d.dd)/\k .non G
theorem sc_round_fault:FnScope ["lane","k"] ["lane"] (aC qx):=by ac_nf
theorem ZgI(tq:Tq P w K mg base):Callee P w K mg base "round_fault" 4 ["lane"] (spG P w K Zfx):=by
 refine tq.d8.okG sc_round_fault (by walk_at"lnx") fun f cdv A outer s H E ts G k hr hh=>?_;have nd:=sc_round_fault.nd;obtain⟨lane,rfl,hl,hn,q⟩:=hh;refine' go_G [some (.lst (lane.map stT)),none] rfl ?hb ?hg
 case hb=>exact(ag (cE PassesOwn.never rfl (cX rfl tq.b_range (aR (aG (bj (K:=K) rfl) (by rfl) tq.b_len bi (pyv 0)) ae)) (pyn 1 nd) (ai (aK (cy (pyk (ZgK tq :) hr.m (pyw 0 (pyv 1)))) (ai (aq (aw (pyw 1 (aj aF ae))))) aQ))) (ai (aq cU)))
 ext;refine⟨lane.length,by rw[af],by lia,by lia,fun j Γ' G'=>G'=G/\∃ c,Γ'=[some (.lst (lane.map stT)),c],⟨rfl,_,rfl⟩,fun _ _ _ _=>trivial,?_,?_⟩
 .rintro j x Γ' G' hx ⟨rfl,c,rfl⟩;rw[bB] at hx;obtain⟨rfl,hj⟩:=fY hx;ext;refine⟨lane,j,rfl,hj,hl,hn,?_⟩;ext;dsimp only;exact ck ⟨rfl,_,rfl⟩
 .rintro Γ' G' ⟨rfl,c,rfl⟩;ext;exact av q
theorem Zj7{f:Fm}{n B:Nat}(hf:Fo n B f){i:Nat}{p:Int×Int}(ep:f.2[i]?=some p):aZ (bm [] (f.2.take i) 1) p.2=0:=by
 rw[hX,jC]
 .rfl
 .intro q hq e;obtain ⟨j,hj⟩:=fV.mp hq;have lj:=(aX.mp hj).1;rw[fu] at lj;rw[getElem?_take_of_lt (by lia)] at hj;have nd:=hf.nd;have e1:(f.2.map (·.2))[j]?=some q.2:=by rw[ah,hj];rfl
  have e2:(f.2.map (·.2))[i]?=some p.2:=by rw[ah,ep];rfl
  rw[e,<- e2] at e1;have:=(getElem?_inj (by have:=(aX.mp hj).1;rw[af];exact this) nd).mp e1;lia
def ZjS:Pre:=fun ts G k=>∃ n f g m,ts=[fmT f,fmT g,.int m]/\FoB n f/\FoB n g/\m.natAbs<=10^900/\k (fmT (bU f g m)) G
theorem sc__law_sum:FnScope ["one","other","n","parts","a","w"] ["one","other","n"] (aC qj):=by ac_nf
theorem mZ(tq:Tq P w K mg base):Callee P w K mg base "_law_sum" 1 ["one","other","n"] (spG P w K ZjS):=by
 refine tq.d9.okG sc__law_sum (by walk_at"lnx") fun f cdv A outer s H E ts G k hr hh=>?_;have nd:=sc__law_sum.nd;have hu1:=jw hr;obtain⟨n,f,g,m,rfl,hf,hg,hm,q⟩:=hh;refine' go_G [some (fmT f),some (fmT g),some (.int m),none,none,none] rfl ?hb ?hg
 case hb=>exact(ag (cO (i:=3) nd rfl (Or.inr rfl) kP) (ag (cE PassesOwn.never rfl (dD (K:=K) rfl (wx K (pv 0) aa)) (cj (K:=K) (n:=2) rfl rfl (aP (pyn 4 nd) (aP (pyn 5 nd) bY))) (ai (hW hu1 (pv 3) (pv 5) (pv 4) rfl))) (ag (cE PassesOwn.never rfl (dD (K:=K) rfl (wx K (pv 1) aa)) (cj (K:=K) (n:=2) rfl rfl (aP (pyn 4 nd) (aP (pyn 5 nd) bY))) (ai (hW hu1 (pv 3) (pv 5) (au bD (wL hu1 (pv 3) (pv 5) aa (M2.mk rfl rfl rfl rfl)) (au gj (pv 2) (pv 4))) rfl))) (ai (aq (aw (bM (au bD (wx K (pv 0) aa) (au gj (pv 2) (wx K (pv 1) aa))) (aR (cY (ff (K:=K) rfl) (by rfl) tq.b_tuple du (dy (pyf ["w"] ["parts"] [3] (dS (K:=K) rfl (aG (wN rfl) (by rfl) tq.b_sorted pW (pyv 3))) (fun _ _ _ _ _ _=>(vj (aA gI (ig hu1 (pv 1) (pv 0) (fun _ _=>rfl)) aa (ax _)))) (fun _ _ _ _ _ _=>(aw (aB (ig hu1 (pv 1) (pv 0) (fun _ _=>rfl)) (pyv 0))))) ae)) ae))))))))
 obtain⟨t1,t2,_⟩:=rG (m:=m) hf.o hg.o;have h1:=hf.o.len;have h2:=hg.o.len;have h3:=hf.n;have h4:=j0 f.2 1 [];rw[iA] at h4;refine cw (dC (vd fun d hd=>bt ?_));refine dG (fun Γ' G'=>(∃ x y,Γ'=[some (fmT f),some (fmT g),some (.int m),some (.ptr d),x,y])/\G'=gput G d (.tb (bm [] f.2 1))) ?_ ?_
 .walk_at"wy";refine ⟨_,rfl,fun i Γ' G'=>(∃ x y,Γ'=[some (fmT f),some (fmT g),some (.int m),some (.ptr d),x,y])/\G'=gput G d (.tb (bm [] (f.2.take i) 1)),⟨⟨_,_,rfl⟩,rfl⟩,fun _ _ _ _=>trivial,?_,?_⟩
  .rintro i x Γ' G' hx ⟨⟨x1,x2,rfl⟩,rfl⟩;rw[ah] at hx;obtain⟨p,ep,rfl⟩:=aV.mp hx;refine cf rfl ?_;walk_at"wy";have hl:=j0 (f.2.take i) 1 [];rw[fu,iA] at hl;refine⟨d,_,_,p.1*1,by rw[Zj7 hf.o ep];congr 1;lia,rfl,gp_s,rfl,by lia,?_⟩;dsimp only;refine ck ⟨⟨_,_,rfl⟩,?_⟩;rw[gp_p,<- oY,eP,ep];rfl
  .rintro Γ' G' ⟨hy,rfl⟩;rw[af,eQ];exact⟨hy,rfl⟩
 rintro Γ' G' ⟨⟨x1,x2,rfl⟩,rfl⟩;refine dG (fun Γ' G'=>(∃ x y,Γ'=[some (fmT f),some (fmT g),some (.int m),some (.ptr d),x,y])/\G'=gput G d (.tb (bm (bm [] f.2 1) g.2 m))) ?_ ?_
 .walk_at"wy";refine ⟨_,rfl,fun i Γ' G'=>(∃ x y,Γ'=[some (fmT f),some (fmT g),some (.int m),some (.ptr d),x,y])/\G'=gput G d (.tb (bm (bm [] f.2 1) (g.2.take i) m)),⟨⟨_,_,rfl⟩,rfl⟩,fun _ _ _ _=>trivial,?_,?_⟩
  .rintro i x Γ' G' hx ⟨⟨x1,x2,rfl⟩,rfl⟩;rw[ah] at hx;obtain⟨p,ep,rfl⟩:=aV.mp hx;refine cf rfl ?_;walk_at"wy";refine⟨d,_,rfl,gp_s,?_⟩;walk_at"wy";refine⟨_,_,gp_s,rfl,rfl,?_⟩;walk_at"wy";refine l_IC (ia (l9 hm) (l9 (hg.o.a p (aD ep)))) ?_;walk_at"wy";have hl:=j0 (g.2.take i) m (bm [] f.2 1);rw[fu] at hl;refine⟨d,_,_,p.1*m,by rw[jP],rfl,gp_s,rfl,by lia,?_⟩;dsimp only;refine ck ⟨⟨_,_,rfl⟩,?_⟩;rw[gp_p,<- oY,eP,ep];rfl
  .rintro Γ' G' ⟨hy,rfl⟩;rw[af,eQ];exact⟨hy,rfl⟩
 rintro Γ' G' ⟨⟨x1,x2,rfl⟩,rfl⟩;have few:=kA hf.n t1 t2;have fin:k (fmT (wnF (f.1+m*g.1) (bm (bm [] f.2 1) g.2 m))) G:=q;generalize bm (bm [] f.2 1) g.2 m=t at few fin;have hp:=gX (t.map (·.1));walk_at"wy";refine l_IC (ia (l9 hm) (l9 hg.o.c)) ?_;walk_at"wy";refine jV ?_;walk_at"wy";refine xw gp_s few ?_;refine⟨_,si_l,by rw[af,hp.length_eq,af];lia,fun i acc Γ' G'=>(∃ x,Γ'=[x,some (.ptr d)])/\G'=gput G d (.tb t)/\acc=(ci t ((sortI (t.map (·.1))).take i)).map prT,⟨⟨none,rfl⟩,rfl,rfl⟩,fun _ _ _ _ _=>si_l,?_,?_⟩
 .rintro i x acc Γ' G' hx ⟨⟨x1,rfl⟩,rfl,rfl⟩;rw[ah] at hx;obtain ⟨m,em,rfl⟩:=aV.mp hx;have hm:m∈t.map (·.1):=hp.mem_iff.mp (aD em);have etk:ci t ((sortI (t.map (·.1))).take (i+1))=ci t ((sortI (t.map (·.1))).take i)++(if aZ t m≠0 then [(aZ t m,m)] else []):=by
   unfold ci;rw[eP,em,sK,filter_append,aW];by_cases e0:aZ t m=0 <;> simp[e0]
  walk_at"wy";refine⟨d,t,m,rfl,gp_s,rfl,hm,?_⟩;walk_at"wy";refine vg (fun hz=>?_) (fun hz=>?_)
  .walk_at"wy";refine⟨d,t,m,rfl,gp_s,rfl,hm,?_⟩;walk_at"wy";refine⟨⟨_,rfl⟩,rfl,?_⟩;rw[etk,ak hz,aW];rfl
  .refine ⟨⟨_,rfl⟩,rfl,?_⟩;rw[etk,ao (by simpa using hz),dW]
 .rintro acc Γ' G' ⟨_,rfl,rfl⟩;walk_at"wy";refine eZ sg_l (fun _=>nofun) ?_;rw[af,eQ];walk_at"wy";exact fk hd (fun _=>nofun) (av fin)
def ZjU:Pre:=fun ts G k=>∃ m B D f fl y,ts=[fmT f,y]/\SqI G y (fl.map fmT)/\Fo fl.length B f/\fl.length<64/\m<64/\(∀ g∈fl,Fo m D g)/\B+63*(B*D)<=10^900/\D<=10^900/\k (fmT (bG f fl)) G
theorem sc__law_put:FnScope ["form","forms","found","a","w"] ["form","forms"] (aC oj):=by ac_nf
theorem Zkh(tq:Tq P w K mg base):Callee P w K mg base "_law_put" 2 ["form","forms"] (spG P w K ZjU):=by
 refine tq.e0.okG sc__law_put (by walk_at"lnx") fun f cdv A outer s H E ts G k hr hh=>?_;have nd:=sc__law_put.nd;obtain⟨m,B',D,f,fl,y,rfl,sy,hf,hl,hm,hg,hB,hD,q⟩:=hh;refine' go_G [some (fmT f),some y,none,none,none] rfl ?hb ?hg
 case hb=>exact(ag (rb (i:=2) nd rfl (Or.inl rfl) (aw (aB (wx K (pv 0) aa) (bf (aw ae) ae)))) (ag (cE PassesOwn.never rfl (dD (K:=K) rfl (wx K (pv 0) aa)) (cj (K:=K) (n:=2) rfl rfl (aP (pyn 3 nd) (aP (pyn 4 nd) bY))) (ai (bI (i:=2) nd rfl (Or.inl rfl) (pyk (mZ tq :) hr.m (pyw 2 (aB (wx K (pv 1) (pv 4)) (pyv 3))))))) (ai (aq (pv 2)))))
 have hlen:=hf.len;have hb:∀ p∈f.2,p.1.natAbs<=B'/\0<=p.2/\p.2<fl.length:=fun p hp=>⟨hf.a p hp,(hf.w p hp).1,(hf.w p hp).2⟩;have pre:∀ i,FoB m ((f.2.take i).foldl (fun a p=>bU a (nthF fl p.2) p.1) (f.1,[])):=fun i=>by
  have:=qA (B:=B') hg (f.2.take i) (f.1,[]) B' (fun p hp=>hb p (mem_of_mem_take hp)) (Fo.nil hf.c);refine⟨this.le (aE _) (bh (nr (fT _ ?_) _) hB),hm⟩;rw[fu];lia
 have hB9:B'<=10^900:=bh (lG _ _) hB;ext;refine⟨_,rfl,fun i Γ' G'=>(∃ x z,Γ'=[some (fmT f),some y,some (fmT ((f.2.take i).foldl (fun a p=>bU a (nthF fl p.2) p.1) (f.1,[]))),x,z])/\G'=G,⟨⟨_,_,rfl⟩,rfl⟩,fun _ _ _ _=>trivial,?_,?_⟩
 .rintro i x Γ' G' hx ⟨⟨x1,x2,rfl⟩,rfl⟩;rw[ah] at hx;obtain ⟨p,ep,rfl⟩:=aV.mp hx;obtain ⟨b1,b2,b3⟩:=hb p (aD ep);have e:fl[p.2.toNat]?=some (nthF fl p.2):=by
   unfold nthF;rw[cA,ay (by lia)];rfl
  have hat:atI (fl.map fmT) p.2=some (fmT (nthF fl p.2)):=cD (n:=p.2.toNat) (by lia) (by rw[ah,e];rfl);refine cf rfl ?_;ext;refine l_ix (fj sy) hat ?_;ext;refine⟨m,_,_,p.1,rfl,pre i,⟨(hg _ (aD e)).le (aE _) hD,hm⟩,bh b1 hB9,?_⟩;ext;dsimp only;refine ck ?_;show (∃ x z,_=[_,_,some (fmT ((f.2.take (i+1)).foldl (fun a p=>bU a (nthF fl p.2) p.1) (f.1,[]))),x,z])/\_;rw[eP,ep,sK,nI];exact⟨⟨_,_,rfl⟩,rfl⟩
 .rintro Γ' G' ⟨⟨x1,x2,rfl⟩,rfl⟩;rw[af,eQ];ext;rw[<-sN] at q;exact av q
def Zg9:Pre:=fun ts G k=>∃ n:Nat,ts=[.int n]/\n<=1000/\∀ a,G a=none->k (.ptr a) (gput G a (.lst ((aI n).map fmT)))
theorem sc__law_words:FnScope ["many"] ["many"] (aC pG):=by ac_nf
theorem oq(tq:Tq P w K mg base):Callee P w K mg base "_law_words" 1 ["many"] (spG P w K Zg9):=by
 refine tq.e1.okG sc__law_words (by walk_at"lnx") fun f cdv A outer s H E ts G k hr hh=>?_;have nd:=sc__law_words.nd;obtain⟨n,rfl,hn,q⟩:=hh;refine' go_G [some (.int n)] rfl ?hb ?hg
 case hb=>exact(ai (aq (pyc ["w"] [] [] (cX rfl tq.b_range (pyv 0)) (fun _ _ _ _ _ _=>(aw (aj aa (bf (aw (bf (aw (aj aa (pyv 0))) ae)) ae)))))))
 ext;refine vW (fun Γ'=>∃ c,Γ'=[c]) ?_;ext;have hrl:(rngT (n:Int).toNat).length=n:=by unfold rngT;simp
 refine⟨n,rfl,by lia,by lia,by rw[hrl];lia,trivial,⟨_,rfl⟩,(aI n).map fmT,by rw[af,hrl];unfold aI;simp,?_,fun a na=>av (q a na)⟩;rintro i x y Γ' hx hy ⟨c,rfl⟩;unfold rngT at hx;unfold aI at hy;rw[bB,ah] at hx;rw[ah,ah] at hy;obtain⟨j,ej,rfl⟩:=aV.mp hx;rw[ej] at hy;cases hy;ext;refine⟨⟨_,rfl⟩,rfl,?_⟩;ext;exact⟨rfl,rfl⟩
theorem fo9{n B:Nat}{f:Fm}(h:Fo n B f)(hn:n<64)(hB:B<=10^800):FoB n f:=⟨h.le (aE _) (bh hB (iB (by decide) (by decide))),hn⟩
def x9:Pre:=fun ts G k=>∃ (n:Nat) (s:SF) (r:Rw) (p:Int) (f:Fm) (y:T),ts=[rowT r,y]/\SqI G y (s.2.2.map fmT)/\bK s r=some (p,f)/\(∀ g∈s.2.2,FoB n g/\Cano g)/\n<64/\r.Ok [] s.2.2.length 1000/\k (fmT f) G
theorem sc__law_reckoned:FnScope ["row","forms"] ["row","forms"] (aC oI):=by ac_nf
theorem Zfo(tq:Tq P w K mg base):Callee P w K mg base "_law_reckoned" 2 ["row","forms"] (spG P w K x9):=by
 refine tq.e2.okG sc__law_reckoned (by walk_at"lnx") fun f cdv A outer s H E ts G k hr hh=>?_;have nd:=sc__law_reckoned.nd;obtain⟨n,s,r,p,f,y,rfl,sy,hre,hg,hn,ok,q⟩:=hh;refine' go_G [some (rowT r),some y] rfl ?hb ?hg
 case hb=>exact(ag (aK (aA bc (wx K (pv 0) aa) aF (ax _)) (ai (aq (aw (aB (wx K (pv 0) aa) (bf (aw ae) ae))))) aQ) (ag (aK (aA (k_in (K:=K) rfl) (wx K (pv 0) aa) (bz (aj aF (aj aF ae))) (by with_unfolding_all rfl)) (ai (aq (pyk (mZ tq :) hr.m (bf (aw (aj aa (bf (aw ae) ae))) (aB (wx K (pv 1) (wx K (pv 0) aa)) (aB (wx K (au (gR (K:=K) rfl) (pv 0) (aw (aj aa ae))) aa) ae)))))) aQ) (ai (aq (pyk (mZ tq :) hr.m (aB (wx K (pv 1) (wx K (pv 0) aa)) (aB (wx K (pv 1) (wx K (pv 0) aa)) (qk (gG (aA bc (wx K (pv 0) aa) aF (ax _)) aa (cg ce aa)) ae))))))))
 have at':∀ {q:Int},In0 q s.2.2.length->atI (s.2.2.map fmT) q=some (fmT (gtF s q))/\FoB n (gtF s q)/\Cano (gtF s q):=fun {q} hq=>by
  have h1:=hq.1;have h2:=hq.2;have e:s.2.2[q.toNat]?=some (gtF s q):=by
   unfold gtF;rw[cA,ay (by lia)];rfl
  exact⟨cD (n:=q.toNat) (by lia) (by rw[ah,e];rfl),hg _ (aD e)⟩
 have z0:FoB n (0,[]):=⟨Fo.nil (cb _),hn⟩;cases r with
 | put p' m=>cases hre;ext;exact av q
 | copy p' q' =>
  cases hre;obtain⟨a1,a2,a3⟩:=at' ok.2;ext;refine bu (ss:=["copy","times"]) sg_l ?_;ext;refine l_ix (fj sy) a1 ?_;ext;refine gH (i5 rfl) ?_;ext;refine⟨n,(0,[]),gtF s q',1,rfl,z0,a2,by decide +kernel,?_⟩;rw[Zqg a3];exact av q
 | times p' q' m =>
  cases hre;obtain⟨a1,a2,a3⟩:=at' ok.2.1;ext;refine bu (ss:=["copy","times"]) sg_l ?_;ext;refine l_ix (fj sy) a1 ?_;ext;refine gH (i5 rfl) ?_;ext;refine⟨n,(0,[]),gtF s q',m,rfl,z0,a2,bh ok.2.2 (by decide +kernel),?_⟩;rw[ZmX];exact av q
 | plus p' q' r' =>
  cases hre;obtain⟨a1,a2,a3⟩:=at' ok.2.1;obtain⟨b1,b2,b3⟩:=at' ok.2.2;ext;refine bu (ss:=["copy","times"]) sg_l ?_;ext;refine l_ix (fj sy) a1 ?_;ext;refine l_ix (fj sy) b1 ?_;ext;exact⟨n,_,_,1,rfl,a2,b2,by decide +kernel,av q⟩
 | less p' q' r' =>
  cases hre;obtain⟨a1,a2,a3⟩:=at' ok.2.1;obtain⟨b1,b2,b3⟩:=at' ok.2.2;ext;refine bu (ss:=["copy","times"]) sg_l ?_;ext;refine l_ix (fj sy) a1 ?_;ext;refine l_ix (fj sy) b1 ?_;ext;exact⟨n,_,_,-1,rfl,a2,b2,by decide +kernel,av q⟩
 | _=>cases hre
def Zgm:Pre:=fun ts G k=>∃ (Q:List Df) (f:List SF) (s:SF) (n B:Nat) (x:T),ts=[pgT Q,x]/\SqI G x ((f++[s]).map sfT)/\PgK Q/\FrsOk Q n B f s/\bO (f++[s])/\n<64/\B<=10^800/\k (optT (bZ Q (f++[s]))) G
theorem sc__law_silent:FnScope ["program","signs","frames","frame","row","forms","n","takes","many","rows","g","here","some"] ["program","signs"] (aC ot):=by ac_nf
theorem qf(tq:Tq P w K mg base):Callee P w K mg base "_law_silent" 3 ["program","signs"] (spG P w K Zgm):=by
 refine tq.e3.okG sc__law_silent (by walk_at"lnx") fun f cdv A outer s H E ts G k hr hh=>?_;have nd:=sc__law_silent.nd;have hu:=hr.units;obtain⟨Q,f,s,n,B',x,rfl,hx,pk,F,CN,hn,hB,q⟩:=hh;obtain⟨d,r,hd,e2,hrow,h4,h0,h30,h5⟩:=dZ (F.all s (by simp));have ok:=(pk.ok.2.2 d hd).rows r (aD h4);have few:=F.few;have eqf:(Q.map dfT)[s.1.toNat]?=some (dfT d):=by rw[ah,e2];rfl
 have eqr:(d.rows.map rowT)[s.2.1.toNat]?=some (rowT r):=by rw[ah,h4];rfl
 have hlen:((f++[s]).map sfT).length<=4:=by rw[af,aH];simp;lia
 refine' go_G [some (pgT Q),some x,none,none,none,none,none,none,none,none,none,none,none] rfl ?hb ?hg
 case hb=>exact(ag (hU (i:=2) (LN:=["f","at","forms"]) (FN:=[]) (fr:=[]) rfl nd rfl rfl (cV (by rfl)) (dS (K:=K) rfl (pv 1)) (fun _ _ _ _ _ _=>(cj (K:=K) (n:=3) rfl rfl (aP (pyn 0 (show ((["f","at","forms"]:List Str)++([]:List Str)).Nodup by decide +kernel)) (aP (pyn 1 (show ((["f","at","forms"]:List Str)++([]:List Str)).Nodup by decide +kernel)) (aP (pyn 2 (show ((["f","at","forms"]:List Str)++([]:List Str)).Nodup by decide +kernel)) bY))))) (fun _ _ _ _ _ _=>di) (fun _ _ _ _ _ _=>(bz (pyw 0 (pyw 1 (aR (cY (lV (K:=K) rfl) (by rfl) tq.b_list ic (pyv 2)) ae)))))) (ag (cL (i:=3) nd rfl (Or.inl rfl) (wx K (pv 2) (cg ce aa))) (ag (cL (i:=4) nd rfl (Or.inl rfl) (wx K (wx K (wx K (pv 0) (wx K (pv 3) aa)) aa) (wx K (pv 3) aa))) (ag (bV (au bD (wx K (pv 3) aa) aa) (cH (pv 3) aa cK)) (ag (cL (i:=5) nd rfl (Or.inr rfl) (wx K (pv 3) aa)) (ag (aK (PW.pt (bT (aA (k_in (K:=K) rfl) (wx K (pv 4) aa) (bz (aj aF (aj aF ae))) (by with_unfolding_all rfl)) (cC (aA (sX hu) (wx K (wx K (pv 5) (wx K (pv 4) aa)) aa) (aw ae) (ax _))))) (ag (cL (i:=6) nd rfl (Or.inl rfl) (wx K (wx K (pv 5) (wx K (pv 4) aa)) aa)) (ai (aK (PW.pt (fe (PW.pt (bT (aA bc (pv 6) aa (ax _)) (cC (aA bc (wx K (pv 4) aa) aF (ax _))))) (gh (PW.pt (bT (aA dO (pv 6) aa (ax _)) (cC (aA bc (wx K (pv 4) aa) aF (ax _)))))))) (ai (bV (wx K (pv 4) aa) (cH (pv 3) aa cK))) aQ))) (ai (aK (aA bc (wx K (pv 4) aa) aF (ax _)) (ai (bV (wx K (pv 4) aa) (cH (pv 3) aa cK))) (ai (aK (PW.pt (bT (aA bc (wx K (pv 4) aa) aF (ax _)) (cC (aA dO (aG (bj (K:=K) rfl) (by rfl) tq.b_len bi (pyv 2)) aa (ax _))))) (ag (bV (au dQ (wx K (pv 3) aa) aa) (cH (pv 3) aa cK)) (ag (bV (wx K (pv 0) (wx K (pv 4) aa)) (cj (K:=K) (n:=3) rfl rfl (aP (pyn 7 nd) (aP (pyn 8 nd) (aP (pyn 9 nd) bY))))) (ai (eI (k_bm (K:=K) rfl PySem.F.plainAttrs_list PySem.F.slot_list_append PySem.F.type_list_append gW (pv 2) (ma (bz (aB (wx K (pv 4) aa) (aj aa (bM (au eU (pyc ["q"] ["forms"] [5] (dD (K:=K) rfl (wx K (pv 4) aa)) (fun _ _ _ _ _ _=>(wx K (pv 1) (pv 0)))) (au qX (bz (bf (aw (aj aa (bf (aw ae) ae))) ae)) (au dQ (pv 8) (pv 7)))) ae)))) ae)))))) (ai (aK (PW.pt (bT (aA bc (wx K (pv 4) aa) aF (ax _)) (cC (aA gn (aG (bj (K:=K) rfl) (by rfl) tq.b_len bi (pyv 2)) aa (ax _))))) (ag (eI (k_bm0 (K:=K) rfl PySem.F.plainAttrs_list PySem.F.slot_list_pop PySem.F.type_list_pop mt_pop (pv 2))) (ag (bV (wx K (pv 2) (cg ce aa)) (wk (K:=K) (n:=3) rfl rfl (aP (pyn 10 nd) (aP (pyn 11 nd) (aP (pyn 12 nd) bY))))) (ag (bV (wx K (pv 5) (wx K (pv 4) aa)) (cH (pv 12) (wx K (wx K (wx K (wx K (pv 0) (pv 10)) aa) (pv 11)) aa) cK)) (ai (bV (au bD (pv 11) aa) (cH (wx K (pv 2) (cg ce aa)) aa cK)))))) (ai (aK (aA (k_in (K:=K) rfl) (wx K (pv 4) aa) (bz (aj aF (aj aF (aj aF (aj aF (aj aF ae)))))) (by with_unfolding_all rfl)) (ai (bV (pyk (Zfo tq :) hr.m (pyw 4 (pyv 5))) (cH (pv 5) (wx K (pv 4) aa) cK))) (ai (aq cU))))))))))) (ai (aq (fO (LN:=["f","at","some"]) (FN:=[]) (fr:=[]) rfl (cV (by rfl)) (dS (K:=K) rfl (pv 2)) (fun _ _ _ _ _ _=>(wk (K:=K) (n:=3) rfl rfl (aP (pyn 0 (show ((["f","at","some"]:List Str)++([]:List Str)).Nodup by decide +kernel)) (aP (pyn 1 (show ((["f","at","some"]:List Str)++([]:List Str)).Nodup by decide +kernel)) (aP (pyn 2 (show ((["f","at","some"]:List Str)++([]:List Str)).Nodup by decide +kernel)) bY))))) (fun _ _ _ _ _ _=>di) (fun _ _ _ _ _ _=>(aw (pyw 0 (pyw 1 (aR (cY (ff (K:=K) rfl) (by rfl) tq.b_tuple du (pyv 2)) ae))))))))))))))
 refine cw (dC (xL ?_));ext;refine⟨_,hx,by lia,fun i acc Γ' G'=>(Ex3 fun c1 c2 c3=>Γ'=[c1,c2,c3])/\∃ xs ys,acc=xs.map T.ptr/\FrI fmT G G' xs ys ((f++[s]).take i),⟨⟨_,_,_,rfl⟩,[],[],rfl,FrI.nil⟩,fun i acc Γ' G' ⟨_,xs,ys,_,FI⟩=>FI.sq hx,?_,?_⟩
 .rintro i z acc Γ' G' hz ⟨⟨c1,c2,c3,rfl⟩,xs,ys,rfl,FI⟩;rw[ah] at hz;obtain⟨t,et,rfl⟩:=aV.mp hz;refine cf rfl (dR (bt (dR (bt (dR (bt (iT (mD (iteT (jr ?_)))))))))) ;ext;refine ZnB sg_t fun y ny=>?_;ext;intro x' nx';obtain⟨n1,n2⟩:=uR nx';refine⟨⟨_,_,_,rfl⟩,xs++[x'],ys++[y],by rw[aW];rfl,?_⟩;rw[eP,et];exact FI.snoc ny n1 n2
 rintro acc Γ' G1 ⟨⟨c1,c2,c3,rfl⟩,xs,ys,rfl,FI⟩ fl nfl;rw[af,eQ] at FI;have FS:=FI.fin nfl;generalize gput G1 fl (.lst (xs.map T.ptr))=G2 at FS;obtain⟨xs,ys,a,b,rfl,rfl,q1,q2,ga,gb⟩:=FS.last;have ela:∀ {l:List Addr} {x:Addr},atI ((l++[x]).map T.ptr) (-1)=some (.ptr x):=fun {l x}=>by rw[aW];exact fc _ _
 refine bt ?_;ext;refine l_ix (sg_p FS.fr) ela ?_;ext;refine l_ix (sg_p ga) at_0 ?_;ext;refine aU (at_i h0 eqf) ?_;ext;refine l_ix (sg_p ga) at_1 ?_;ext;refine aU (at_i h30 eqr) ?_;ext;refine l_ix (sg_p ga) at_1 ?_;ext;refine⟨a,_,1,1,rfl,rfl,ga,rfl,?_⟩;have F1:=FS.setAt (t:=s.2.1+1) q1 q2;replace F1:FrSt fmT G (gput G2 a (.lst ([T.int s.1,.int s.2.1,.ptr b].set 1 (.int (s.2.1+1))))) fl (xs++[a]) (ys++[b]) [] (f++[(s.1,s.2.1+1,s.2.2)]):=F1;generalize gput G2 a (.lst ([T.int s.1,.int s.2.1,.ptr b].set 1 (.int (s.2.1+1))))=G3 at F1;clear FS ga gb;obtain⟨_,_,a',b',ea,eb,_,_,ga,gb⟩:=F1.last;obtain⟨_,ea⟩:=append_inj' ea rfl;obtain⟨_,eb⟩:=append_inj' eb rfl;cases ea;cases eb;dsimp only at ga gb;refine cw (dC ?_);ext;refine l_ix (sg_p ga) at_2 ?_;refine bt ?_;have bx:∀ {q:Int},In0 q d.boxes->atI (s.2.2.map fmT) q=some (fmT (gtF s q)):=fun {q} hq=>by
  have h1:=hq.1;have h2:=hq.2;obtain⟨_,e⟩:=rM (F.all s (by simp)) h1 (by lia);exact at_i h1 (by rw[ah,e];rfl)
 refine dG (fun Γ' G'=>(Ex10 fun(c3 c4 c5 c6 c7 c8 c9 c10 c11 c12:Option T)=>Γ'=[some (pgT Q),some x,some (.ptr fl),c3,c4,c5,c6,c7,c8,c9,c10,c11,c12])/\Ex4 fun xs ys gs l'=>An3 (FrSt fmT G G' fl xs ys gs l') (bZ Q (f++[s])=some l') (l'.length<=1000)) ?_ ?_
 rotate_left 1
 .rintro Γ' G' ⟨⟨c3,c4,c5,c6,c7,c8,c9,c10,c11,c12,rfl⟩,xs,ys,gs,l',F2,es,hl'⟩;rw[es] at q;ext;refine cu (fun Γ'=>Ex3 fun c1 c2 c3=>Γ'=[c1,c2,c3]) ?_;ext;refine⟨_,si_p F2.fr,by rw[af,F2.lx];lia,si_p F2.fr,⟨_,_,_,rfl⟩,l'.map sfT,by rw[af,af,F2.lx],?_,iI F2.sub (av q)⟩;rintro i z y Γ' hz hy ⟨c1,c2,c3,rfl⟩;rw[ah] at hz hy;obtain⟨x',ex',rfl⟩:=aV.mp hz;obtain⟨t,et,rfl⟩:=aV.mp hy;have li:=(aX.mp et).1;have ey':ys[i]?=some (ys[i]'(by rw[F2.ly];exact li)):=ay _;obtain⟨z1,z2⟩:=F2.x i x' _ t ex' ey' et;refine tJ z1 rfl ?_;ext;refine⟨⟨_,_,_,rfl⟩,rfl,?_⟩;ext;refine eZ (sg_p z2) (fun _=>nofun) ?_;ext;exact⟨rfl,rfl⟩
 have esl:bZ Q (f++[s])=cF Q f s:=by unfold bZ;rw[getLast?_concat,fU]
 have noF:cF Q f s=none->k .non G:=fun e=>by rw[esl,e] at q;exact q
 have setA:∀ {G':GH} {xs ys gs:List Addr} {l:List SF} {s:SF} {a b:Addr} {t:Int},FrSt fmT G G' fl (xs++[a]) (ys++[b]) gs (l++[s])->xs.length=l.length->ys.length=l.length->FrSt fmT G (gput G' a (.lst ([T.int s.1,.int s.2.1,.ptr b].set 1 (.int t)))) fl (xs++[a]) (ys++[b]) gs (l++[(s.1,t,s.2.2)]):=fun h h1 h2=>h.setAt h1 h2;have l4:(f++[s]).length<=4:=by rw[af] at hlen;exact hlen
 have ll:∀ (t:SF),(f++[t]).length<=1000:=fun t=>by rw[aH] at l4 ⊢;simp at l4 ⊢;lia
 have uf:cF Q f s=cF Q f s:=rfl
 conv at uf=>rhs;unfold cF
 rw[hrow] at uf;have fob:∀ g∈s.2.2,FoB n g/\Cano g:=fun g hg=>⟨fo9 ((F.all s (by simp)).fm g hg) hn hB,CN s (by simp) g hg⟩;have reck:∀ {p:Int} {g:Fm},bK s r=some (p,g)->r.Ok [] s.2.2.length 1000->In0 p d.boxes->cF Q f s=some (fE f s p g)->(∀ {kk:T->GH->Prop},kk (fmT g) G3->x9 [rowT r,.ptr b] G3 kk)/\∃ j,ixN (s.2.2.map fmT).length p=some j/\Ex4 fun xs ys gs l'=>An3 (FrSt fmT G (gput G3 b (.lst ((s.2.2.map fmT).set j (fmT g)))) fl xs ys gs l') (bZ Q (f++[s])=some l') (l'.length<=1000):=fun {p g} e1 e2 e3 e4=>by
  refine⟨fun {kk} hk=>⟨n,s,r,p,g,.ptr b,rfl,si_p gb,e1,fob,hn,e2,hk⟩,p.toNat,?_,xs++[a],ys++[b],[],_,?_,esl.trans e4,ll _⟩
  .have:=e3.1;have:=e3.2;unfold ixN;rw[ak e3.1,ak (by rw[af];lia)]
  .rw[<-map_set];exact F1.setBox q1 q2
 cases r with
 | put p m =>
  obtain⟨k1,j,hj,k2⟩:=reck (p:=p) (g:=(m,[])) rfl (by rw[h5];exact ok) ok.1 uf;ext;refine bu (ss:=["zero","below"]) sg_l ?_;ext;refine bu (ss:=["put","copy","plus","less","times"]) sg_l ?_;ext;refine k1 ?_;ext;exact⟨b,_,p,j,rfl,rfl,gb,hj,⟨_,_,_,_,_,_,_,_,_,_,rfl⟩,k2⟩
 | copy p q' =>
  obtain⟨k1,j,hj,k2⟩:=reck (p:=p) (g:=gtF s q') rfl (by rw[h5];exact ok) ok.1 uf;ext;refine bu (ss:=["zero","below"]) sg_l ?_;ext;refine bu (ss:=["put","copy","plus","less","times"]) sg_l ?_;ext;refine k1 ?_;ext;exact⟨b,_,p,j,rfl,rfl,gb,hj,⟨_,_,_,_,_,_,_,_,_,_,rfl⟩,k2⟩
 | plus p q' r' =>
  obtain⟨k1,j,hj,k2⟩:=reck (p:=p) (g:=bU (gtF s q') (gtF s r') 1) rfl (by rw[h5];exact ok) ok.1 uf;ext;refine bu (ss:=["zero","below"]) sg_l ?_;ext;refine bu (ss:=["put","copy","plus","less","times"]) sg_l ?_;ext;refine k1 ?_;ext;exact⟨b,_,p,j,rfl,rfl,gb,hj,⟨_,_,_,_,_,_,_,_,_,_,rfl⟩,k2⟩
 | less p q' r' =>
  obtain⟨k1,j,hj,k2⟩:=reck (p:=p) (g:=bU (gtF s q') (gtF s r') (-1)) rfl (by rw[h5];exact ok) ok.1 uf;ext;refine bu (ss:=["zero","below"]) sg_l ?_;ext;refine bu (ss:=["put","copy","plus","less","times"]) sg_l ?_;ext;refine k1 ?_;ext;exact⟨b,_,p,j,rfl,rfl,gb,hj,⟨_,_,_,_,_,_,_,_,_,_,rfl⟩,k2⟩
 | times p q' m =>
  obtain⟨k1,j,hj,k2⟩:=reck (p:=p) (g:=ii (gtF s q') m) rfl (by rw[h5];exact ok) ok.1 uf;ext;refine bu (ss:=["zero","below"]) sg_l ?_;ext;refine bu (ss:=["put","copy","plus","less","times"]) sg_l ?_;ext;refine k1 ?_;ext;exact⟨b,_,p,j,rfl,rfl,gb,hj,⟨_,_,_,_,_,_,_,_,_,_,rfl⟩,k2⟩
 | take p =>
  ext;refine bu (ss:=["zero","below"]) sg_l ?_;ext;refine bu (ss:=["put","copy","plus","less","times"]) sg_l ?_;ext;exact iI F1.sub (av (noF uf))
 | tell p =>
  ext;refine bu (ss:=["zero","below"]) sg_l ?_;ext;refine bu (ss:=["put","copy","plus","less","times"]) sg_l ?_;ext;exact iI F1.sub (av (noF uf))
 | jump t =>
  ext;refine bu (ss:=["zero","below"]) sg_l ?_;ext;exact⟨a,_,1,1,rfl,rfl,ga,rfl,⟨_,_,_,_,_,_,_,_,_,_,rfl⟩,_,_,_,_,setA (s:=(s.1,s.2.1+1,s.2.2)) F1 q1 q2,esl.trans uf,ll _⟩
 | zero p t =>
  dsimp only [bK] at uf;ext;refine bu (ss:=["zero","below"]) sg_l ?_;ext;refine l_ix (sg_p gb) (bx ok.1) ?_;ext;refine pB ?_;by_cases hp:(gtF s p).2=[]
  .rw[ak hp] at uf;rw[aY hp];ext;refine l_ix (sg_p gb) (bx ok.1) ?_;ext;by_cases hz:(gtF s p).1=0
   .rw[ak hz] at uf;rw[aY hz];ext;exact⟨a,_,1,1,rfl,rfl,ga,rfl,⟨_,_,_,_,_,_,_,_,_,_,rfl⟩,_,_,_,_,setA (s:=(s.1,s.2.1+1,s.2.2)) F1 q1 q2,esl.trans uf,ll _⟩
   .rw[ao hz] at uf;rw[bo hz];ext;by_cases hz2:(gtF s p).1 < 0
    .rw[aY hz2];ext;exact⟨⟨_,_,_,_,_,_,_,_,_,_,rfl⟩,_,_,_,_,F1,esl.trans uf,ll _⟩
    .rw[bo hz2];ext;exact⟨⟨_,_,_,_,_,_,_,_,_,_,rfl⟩,_,_,_,_,F1,esl.trans uf,ll _⟩
  .rw[ao hp] at uf;rw[bo hp];ext;refine bu (ss:=["put","copy","plus","less","times"]) sg_l ?_;ext;exact iI F1.sub (av (noF uf))
 | below p t =>
  dsimp only [bK] at uf;ext;refine bu (ss:=["zero","below"]) sg_l ?_;ext;refine l_ix (sg_p gb) (bx ok.1) ?_;ext;refine pB ?_;by_cases hp:(gtF s p).2=[]
  .rw[ak hp] at uf;rw[aY hp];ext;refine l_ix (sg_p gb) (bx ok.1) ?_;ext;by_cases hz:(gtF s p).1=0
   .rw[ao (by lia)] at uf;rw[aY hz];ext;rw[bo (by lia)];ext;exact⟨⟨_,_,_,_,_,_,_,_,_,_,rfl⟩,_,_,_,_,F1,esl.trans uf,ll _⟩
   .rw[bo hz];ext;by_cases hz2:(gtF s p).1 < 0
    .rw[ak hz2] at uf;rw[aY hz2];ext;exact⟨a,_,1,1,rfl,rfl,ga,rfl,⟨_,_,_,_,_,_,_,_,_,_,rfl⟩,_,_,_,_,setA (s:=(s.1,s.2.1+1,s.2.2)) F1 q1 q2,esl.trans uf,ll _⟩
    .rw[ao hz2] at uf;rw[bo hz2];ext;exact⟨⟨_,_,_,_,_,_,_,_,_,_,rfl⟩,_,_,_,_,F1,esl.trans uf,ll _⟩
  .rw[ao hp] at uf;rw[bo hp];ext;refine bu (ss:=["put","copy","plus","less","times"]) sg_l ?_;ext;exact iI F1.sub (av (noF uf))
 | call p g qs =>
  dsimp only [bK] at uf;ext;refine bu (ss:=["zero","below"]) sg_l ?_;ext;refine cS (sg_p F1.fr) ?_;have hxl:((xs++[a]).map T.ptr).length=f.length+1:=by rw[af,aH,q1];rfl
  rw[hxl];ext;by_cases hl:f.length<3
  .rw[ak hl] at uf;rw[aY (by lia)];obtain ⟨d2,g0,hg,hq⟩:=ok.2.1;have D2:=pk.ok.2.2 d2 (aD hg);have eqg:(Q.map dfT)[g.toNat]?=some (dfT d2):=by rw[ah,hg];rfl
   ext;refine l_ix (sg_p ga) at_1 ?_;ext;refine⟨a,_,1,1,rfl,rfl,ga,rfl,?_⟩;have F2:=setA (t:=s.2.1+1-1) F1 q1 q2;generalize gput G3 a _=G4 at F2;have es1:((s.1,s.2.1+1-1,s.2.2):SF)=s:=by rw[Int.add_sub_cancel]
   dsimp only at F2;rw[es1] at F2;obtain⟨z1,z2⟩:=F2.x f.length a b s (by rw[<-q1];exact cq) (by rw[<-q2];exact cq) cq;ext;refine aU (at_i g0 eqg) ?_;refine cf rfl ?_;refine dR (bt (dR (bt (dR (bt (iT ?_))))));have D2t:=D2.t;have D2b:=D2.b;refine lU (qg (jd rfl ⟨ty_p F2.fr,oV (jr ?_)⟩));ext;refine cu (fun Γ'=>∃ c,Γ'=[c,some (.ptr b)]) ?_;ext;refine⟨qs.map T.int,by show T.tup (embs (qs.map D.int))=_;rw[jY],by rw[af];lia,trivial,⟨_,rfl⟩,qs.map fun q=>fmT (gtF s q),by rw[af,af],?_,?_⟩
   .rintro i z y Γ' hz hy ⟨c,rfl⟩;rw[ah] at hz hy;obtain⟨v,ev,rfl⟩:=aV.mp hz;rw[ev] at hy;cases hy;ext;refine⟨⟨_,rfl⟩,rfl,?_⟩;ext;exact l_ix (sg_p z2) (bx (ok.2.2 v (aD ev))) ⟨rfl,rfl⟩
   ext;refine l_rep (by lia) (by lia) ?_;refine xI si_l si_l (by rw[af,ir];lia) fun y ny=>?_;ext;intro x' nx';obtain⟨n1,n2⟩:=uR nx';have ecf:(qs.map fun q=>fmT (gtF s q))++List.replicate (d2.boxes-d2.takes).toNat (T.tup [.int 0,.tup []])=(eJ Q s g qs).2.2.map fmT:=by
    unfold eJ iD;rw[hg,aW,fA,map_replicate,<- hq];rfl
   have F3:=F2.push (s:=eJ Q s g qs) ny n1 n2;have hfl2:fl≠x'/\fl≠y:=⟨(fun e=>(by rw[<-e,F2.fr] at n1;cases n1)),(fun e=>(by rw[<-e,F2.fr] at ny;cases ny))⟩;rw[ecf];ext;refine gJ (by rw[gp_n hfl2.1,gp_n hfl2.2];exact F2.fr) (by rw[af,aH];simp;lia) ?_;exact⟨⟨_,_,_,_,_,_,_,_,_,_,rfl⟩,_,_,_,_,F3,by rw[esl,uf];simp,by rw[aH,aH];simp;lia⟩
  .rw[ao hl] at uf;rw[bo (by lia)];ext;refine bu (ss:=["put","copy","plus","less","times"]) sg_l ?_;ext;exact iI F1.sub (av (noF uf))
 | back p =>
  dsimp only [bK] at uf;ext;refine bu (ss:=["zero","below"]) sg_l ?_;ext;refine cS (sg_p F1.fr) ?_;have hxl:((xs++[a]).map T.ptr).length=f.length+1:=by rw[af,aH,q1];rfl
  rw[hxl];ext;cases hc:f.getLast? with
  | none =>
   have f0:=getLast?_eq_none_iff.mp hc;rw[hc] at uf;rw[f0,bo (by simp)];ext;refine bu (ss:=["put","copy","plus","less","times"]) sg_l ?_;ext;exact iI F1.sub (av (noF uf))
  | some c =>
   rw[hc] at uf;obtain⟨f',rfl⟩:=gy.mp hc;rw[fU] at uf;rw[aY (by rw[aH];simp;lia)];obtain⟨p2,g2,qs2,hcr⟩:=F.call c (by simp);obtain⟨dc,rc,hdc,ec2,hrc,ec4,ec0,ec30,ec5⟩:=dZ (F.all c (by simp));rw[hcr] at hrc;cases hrc;dsimp only at uf;rw[hcr] at uf;have okc:=(pk.ok.2.2 dc hdc).rows _ (aD ec4);have eqc:(Q.map dfT)[c.1.toNat]?=some (dfT dc):=by rw[ah,ec2];rfl
   have eqrc:(dc.rows.map rowT)[c.2.1.toNat]?=some (rowT (.call p2 g2 qs2)):=by rw[ah,ec4];rfl
   have fr':G3 fl=some (.lst (xs.map T.ptr++[.ptr a])):=by rw[F1.fr,aW];rfl
   obtain⟨_,_,fb,_⟩:=me F1.nd;have F2:=F1.pop q1 q2;have gb4:gput G3 fl (.lst (xs.map T.ptr)) b=some (.lst (s.2.2.map fmT)):=by rw[gp_n fb.symm];exact gb
   refine iteT (cw (lU (pj (jd rfl ⟨ty_p fr',l_pop fr' ?_⟩))));generalize gput G3 fl (.lst (xs.map T.ptr))=G4 at F2 gb4;obtain⟨xs2,ys2,a2,b2,rfl,rfl,r1,r2,z1,z2⟩:=F2.last;ext;refine l_ix (sg_p F2.fr) ela ?_;refine tJ z1 rfl ?_;ext;refine l_ix (sg_p gb4) (bx ok) ?_;ext;refine aU (at_i ec0 eqc) ?_;ext;refine aU (at_i ec30 eqrc) ?_;ext;have hp2:=okc.1;refine⟨b2,_,p2,p2.toNat,rfl,rfl,z2,by unfold ixN;rw[ak hp2.1,ak (by rw[af];have:=hp2.2;lia)],?_⟩;rw[<-map_set];have F3:=F2.setBox (fm:=c.2.2.set p2.toNat (gtF s p)) r1 r2;generalize gput G4 b2 (.lst ((c.2.2.set p2.toNat (gtF s p)).map fmT))=G5 at F3;obtain⟨y1,y2⟩:=F3.x f'.length a2 b2 _ (by rw[<-r1];exact cq) (by rw[<-r2];exact cq) cq;ext;refine l_ix (sg_p F3.fr) ela ?_;ext;exact⟨a2,_,1,1,rfl,rfl,y1,rfl,⟨_,_,_,_,_,_,_,_,_,_,rfl⟩,_,_,_,_,setA (s:=(c.1,c.2.1,c.2.2.set p2.toNat (gtF s p))) F3 r1 r2,esl.trans uf,by have:=ll s;rw[aH,aH] at this;rw[aH];simp at this ⊢;lia⟩
def ZeC:Pre:=fun ts G k=>∃ (m B D:Nat) (l:List SF) (fl:List Fm) (x y:T),ts=[x,y]/\SqI G x (l.map sfT)/\SqI G y (fl.map fmT)/\l.length<=1000/\(∀ t∈l,t.2.2.length<=1000/\∀ g∈t.2.2,Fo fl.length B g)/\fl.length<64/\m<64/\(∀ g∈fl,Fo m D g)/\B+63*(B*D)<=10^900/\D<=10^900/\k (.lst ((l.map (bE fl)).map sfT)) G
theorem sc__law_signs_put:FnScope ["signs","forms"] ["signs","forms"] (aC rH):=by ac_nf
theorem ZeG(tq:Tq P w K mg base):Callee P w K mg base "_law_signs_put" 3 ["signs","forms"] (spG P w K ZeC):=by
 refine tq.e4.okG sc__law_signs_put (by walk_at"lnx") fun f cdv A outer s H E ts G k hr hh=>?_;have nd:=sc__law_signs_put.nd;obtain⟨m,B',D,l,fl,x,y,rfl,hx,hy,hl,ht,hfl,hm,hg,hB,hD,q⟩:=hh;refine' go_G [some x,some y] rfl ?hb ?hg
 case hb=>exact(ai (aq (fO (LN:=["f","at","some"]) (FN:=["forms"]) (fr:=[1]) rfl (cV (by rfl)) (dS (K:=K) rfl (pv 0)) (fun _ _ _ _ _ _=>(cj (K:=K) (n:=3) rfl rfl (aP (pyn 0 (show ((["f","at","some"]:List Str)++(["forms"]:List Str)).Nodup by decide +kernel)) (aP (pyn 1 (show ((["f","at","some"]:List Str)++(["forms"]:List Str)).Nodup by decide +kernel)) (aP (pyn 2 (show ((["f","at","some"]:List Str)++(["forms"]:List Str)).Nodup by decide +kernel)) bY))))) (fun _ _ _ _ _ _=>di) (fun cl C fp pins s H=>(aw (pyw 0 (pyw 1 (aR (cY (ff (K:=K) rfl) (by rfl) tq.b_tuple du (dy (pyc ["form"] ["forms"] [3] (dD (K:=K) rfl (pv 2)) (fun _ _ _ _ _ _=>(pyk (Zkh tq :) hr.m (pyw 0 (pyv 1))))) ae)) ae))))))))
 ext;refine cu (fun Γ'=>Ex3 fun c1 c2 c3=>Γ'=[c1,c2,c3,some y]) ?_;ext;refine⟨_,hx,by rw[af];lia,hx,⟨_,_,_,rfl⟩,(l.map (bE fl)).map sfT,by rw[af,af,af],?_,av q⟩;rintro i z w' Γ' hz hw ⟨c1,c2,c3,rfl⟩;rw[ah] at hz;obtain⟨t,et,rfl⟩:=aV.mp hz;rw[ah,ah,et] at hw;cases hw;obtain⟨t1,t2⟩:=ht t (aD et);ext;refine⟨⟨_,_,_,rfl⟩,rfl,?_⟩;ext;refine cu (fun Γ'=>∃ c,Γ'=[c,some y]) ?_;ext;refine⟨_,rfl,by rw[af];lia,trivial,⟨_,rfl⟩,(t.2.2.map fun f=>bG f fl).map fmT,by rw[af,af,af],?_,?_⟩
 .rintro j z w' Γ' hz hw ⟨c,rfl⟩;rw[ah] at hz;obtain⟨g,eg,rfl⟩:=aV.mp hz;rw[ah,ah,eg] at hw;cases hw;ext;refine⟨⟨_,rfl⟩,rfl,?_⟩;ext;exact⟨m,B',D,g,fl,y,rfl,hy,t2 g (aD eg),hfl,hm,hg,hB,hD,rfl,rfl⟩
 ext;refine eZ sg_l (fun _=>nofun) ?_;ext;exact⟨rfl,rfl⟩
def wU:Pre:=fun ts G k=>∃ (f:List SF) (s:SF) (t:Int) (x:T),ts=[x,.int t]/\SqI G x ((f++[s]).map sfT)/\f.length<=1000/\k (.lst ((cJ f s t).map sfT)) G
theorem sc__law_at:FnScope ["signs","at"] ["signs","at"] (aC p9):=by ac_nf
theorem oP(tq:Tq P w K mg base):Callee P w K mg base "_law_at" 1 ["signs","at"] (spG P w K wU):=by
 refine tq.e5.okG sc__law_at (by walk_at"lnx") fun f cdv A outer s H E ts G k hr hh=>?_;have nd:=sc__law_at.nd;obtain⟨f,s,t,x,rfl,hx,hf,q⟩:=hh;have ela:atI ((f++[s]).map sfT) (-1)=some (sfT s):=by rw[aW];exact fc _ _
 refine' go_G [some x,some (.int t)] rfl ?hb ?hg
 case hb=>exact(ai (aq (au eU (cI (k_sl (K:=K) rfl) (pv 0) cM (cN (cg ce aa))) (bz (bf (aw (aB (wx K (wx K (pv 0) (cg ce aa)) aa) (pyw 1 (aB (wx K (wx K (pv 0) (cg ce aa)) aa) ae)))) ae)))))
 ext;refine iU hx ?_;have ec:cutT ((f++[s]).map sfT) none (some (-1))=f.map sfT:=by rw[aW];exact mK _ _
 ext;refine l_ix (fj hx) ela ?_;ext;refine l_ix (fj hx) ela ?_;ext;have ec:cutT ((f++[s]).map sfT) none (some (-1))=f.map sfT:=by rw[aW];exact mK _ _
 refine fg si_l si_l (by show (cutT ((f++[s]).map sfT) none (some (-1))).length+_<=_;rw[ec,af];simp;lia) ?_;have eq2:(cJ f s t).map sfT=cutT ((f++[s]).map sfT) none (some (-1))++[sfT (s.1,t,s.2.2)]:=by rw[ec];unfold cJ;rw[aW];rfl
 rw[eq2] at q;exact av q
structure KnG(l:List SF)(kvs:List (List Key×T)):Prop where
 len:kvs.length<64
 ok:∀ e∈kvs,∃ i j c:Int,e=([.inl i,.inl j],.int c)/\c.natAbs<10^9/\InFr l i j
def Zpt:Pre:=fun ts G k=>∃ (b l la kd:Addr) (Q:List Df) (n B:Nat) (f:List SF) (s:SF) (lane:List StL) (kvs:List (List Key×T)),ts=[.ptr b,.ptr la,.lst ((f++[s]).map sfT),.ptr kd]/\G b=some (.bag l)/\G la=some (.lst (lane.map stT))/\G kd=some (.dt kvs)/\PgK Q/\FrsOk Q n B f s/\lane.length<=900/\KnG (f++[s]) kvs/\∀ (lay:List L3i) (d:StL) (c:Ct),LayOk (f++[s]) lay->PpK Q d.n d.fr->d.dd=.tup [.str "leave"]->d.n=lay.length->LaidK (f++[s]) kvs lay d.fr->(∀ x,c≠.own x)->k (.lst (lay.map lyT)) (gput (gput G la (.lst ((lane++[d]).map stT))) kd c)
def Cov(l:List SF)(kvs:List (List Key×T))(lay:List L3i)(i j:Nat):Prop:=∀ (i' j':Nat) s,l[i']?=some s->j'<s.2.2.length->(i'<i\/(i'=i/\j'<j))->(getA kvs [.inl (i':Int),.inl (j':Int)]).isSome=true\/∃ c,((i':Int),(j':Int),c)∈lay
theorem sc__law_laid:FnScope ["bag","lane","frames","known","layout","way","i","j","turn","forms","u","paper","some"] ["bag","lane","frames","known"] (aC oN):=by ac_nf
theorem ZiH (tq:Tq P w K mg base):Callee P w K mg base "_law_laid" 2 ["bag","lane","frames","known"] (spG P w K Zpt):=by
 refine tq.e6.okG sc__law_laid (by walk_at"lnx") fun f cdv A outer s H E ts G k hr hh=>?_;have nd:=sc__law_laid.nd;have hu1:=jw hr;obtain⟨b,l,la,kd,Q,n,B',f,s,lane,kvs,rfl,hb,hla,hkd,pk,fo,hlen,kn,q⟩:=hh;have L0:=LdSt.start hb hla hkd (.inl ⟨_,rfl⟩);generalize hfs:f++[s]=fs at q kn;have few:fs.length<=4:=by rw[<-hfs,aH];have:=fo.few;simp;lia
 have sok:∀ t∈fs,SfOk Q n B' t:=fun t ht=>fo.all t (by rw[hfs];exact ht);have bx:∀ t∈fs,t.2.2.length<=8:=fun t ht=>gk pk (sok t ht);refine' go_G [some (.ptr b),some (.ptr la),some (.lst (fs.map sfT)),some (.ptr kd),none,none,none,none,none,none,none,none,none] rfl ?hb ?hg
 case hb=>exact(ag (kz (i:=4) nd rfl (Or.inl rfl) (bz ae)) (ag (cO (i:=5) nd rfl (Or.inl rfl) (gG (aA gn (aG (bj (K:=K) rfl) (by rfl) tq.b_len bi (pyv 1)) aa (ax _)) (pyk (br tq :) hr.m (pyw 0 (aj aa ae))) aa)) (ag (cE PassesOwn.never rfl (cX rfl tq.b_range (aR (aG (bj (K:=K) rfl) (by rfl) tq.b_len bi (pyv 2)) ae)) (iM (i:=6) nd rfl (Or.inr rfl)) (ai (cE PassesOwn.never rfl (cX rfl tq.b_range (aR (aG (bj (K:=K) rfl) (by rfl) tq.b_len bi (aB (wx K (wx K (pv 2) (pv 6)) aa) ae)) ae)) (pyn 7 nd) (ai (aK (q9 (rB hu1 (aw (pyw 6 (pyv 7))) (pv 3))) (ai (eI (k_bm (K:=K) rfl PySem.F.plainAttrs_list PySem.F.slot_list_append PySem.F.type_list_append gW (pv 4) (bf (aw (pyw 6 (pyw 7 (qk (gG (aA bc (pv 5) aa (ax _)) (au dQ (pyk (br tq :) hr.m (pyw 0 (aj aa ae))) aa) aa) ae)))) ae)))) aQ))))) (ag (cO (i:=8) nd rfl (Or.inl rfl) (gG (aA gn (pv 5) aa (ax _)) (au fL (pyk (br tq :) hr.m (pyw 0 (aj aa ae))) (aG (ZmA rfl) (by rfl) tq.b_max qD (aj aa (aR (aG (bj (K:=K) rfl) (by rfl) tq.b_len bi (pyv 4)) ae)))) aa)) (ag (dB (i:=4) nd rfl (Or.inl rfl) (au eU (cI (k_sl (K:=K) rfl) (pv 4) (cN (pv 8)) cM) (cI (k_sl (K:=K) rfl) (pv 4) cM (cN (pv 8))))) (ag (cO (i:=9) nd rfl (Or.inr rfl) uH) (ag (cE PassesOwn.never rfl (pi_dt (pv 3)) (cj (K:=K) (n:=2) rfl rfl (aP (iM (i:=6) nd rfl (Or.inr rfl)) (aP (pyn 7 nd) bY))) (ai (hW hu1 (pv 9) (aw (pyw 6 (pyv 7))) (aw (aB (ig hu1 (pv 3) (aw (pyw 6 (pyv 7))) (fun _ _=>rfl)) (bf (aw ae) ae))) rfl))) (ag (cE PassesOwn.never rfl (cX rfl tq.b_range (aR (aG (bj (K:=K) rfl) (by rfl) tq.b_len bi (pyv 4)) ae)) (pyn 10 nd) (ai (hW hu1 (pv 9) (cI (fq (K:=K) rfl) (wx K (pv 4) (pv 10)) cM (cN aa)) (aw (aB (wx K (wx K (pv 4) (pv 10)) aa) (bf (aw (bf (aw (aj aa (pyv 10))) ae)) ae))) rfl))) (ag (kz (i:=11) nd rfl (Or.inl rfl) (bz ae)) (ag (cE PassesOwn.never rfl (cX rfl tq.b_range (aR (aG (bj (K:=K) rfl) (by rfl) tq.b_len bi (pyv 2)) ae)) (iM (i:=6) nd rfl (Or.inr rfl)) (ag (hU (i:=12) (LN:=["j"]) (FN:=["forms","i"]) (fr:=[9,6]) rfl nd rfl rfl (cV (by rfl)) (cX rfl tq.b_range (aR (aG (bj (K:=K) rfl) (by rfl) tq.b_len bi (aB (wx K (wx K (pv 2) (pv 6)) aa) ae)) ae)) (fun _ _ _ _ _ _=>(pyn 0 (show ((["j"]:List Str)++(["forms","i"]:List Str)).Nodup by decide +kernel))) (fun _ _ _ _ _ _=>di) (fun _ _ _ _ _ _=>(ig hu1 (pv 1) (aw (pyw 2 (pyv 0))) (fun _ _=>rfl)))) (ai (eI (k_bm (K:=K) rfl PySem.F.plainAttrs_list PySem.F.slot_list_append PySem.F.type_list_append gW (pv 11) (bM (au (gR (K:=K) rfl) (cI (fq (K:=K) rfl) (wx K (pv 2) (pv 6)) cM (cN aa)) (aw (aR (cY (ff (K:=K) rfl) (by rfl) tq.b_tuple du (pyv 12)) ae))) ae)))))) (ag (eI (k_bm (K:=K) rfl PySem.F.plainAttrs_list PySem.F.slot_list_append PySem.F.type_list_append gW (pv 1) (bf (aw (aR (aG (bj (K:=K) rfl) (by rfl) tq.b_len bi (pyv 4)) (pyw 11 (bf (aw (aj aF ae)) ae)))) ae))) (ai (aq (pv 4))))))))))))))
 refine cw (dC (jr ?_));ext;intro ly nly;obtain⟨L1,_⟩:=L0.fresh nly (c:=.lst []) (fun _=>nofun);refine bt ?_;refine dG (fun Γ' G'=>(∃ v:Int,0<=v/\v<=2/\Γ'=[some (.ptr b),some (.ptr la),some (.lst (fs.map sfT)),some (.ptr kd),some (.ptr ly),some (.int v),none,none,none,none,none,none,none])/\G'=gput G ly (.lst [])) ?_ ?_
 .ext;refine cS (sg_p L1.ln) ?_;ext;refine dF (fun _=>?_) fun _=>?_
  .ext;refine bA L1.bag ⟨by decide,by decide⟩ fun v v0 v1=>?_;ext;exact⟨⟨v,v0,by lia,rfl⟩,rfl⟩
  .ext;exact⟨⟨0,by decide,by decide,rfl⟩,rfl⟩
 rintro Γ' G' ⟨⟨v,v0,v2,rfl⟩,rfl⟩;refine dG (fun Γ' G'=>(Ex2 fun c6 c7=>Γ'=[some (.ptr b),some (.ptr la),some (.lst (fs.map sfT)),some (.ptr kd),some (.ptr ly),some (.int v),c6,c7,none,none,none,none,none])/\∃ lay,An4 (LdSt G G' b l la kd [ly] lane (.dt kvs)) (G' ly=some (.lst (lay.map lyT))) (LayOk fs lay) (Cov fs kvs lay fs.length 0)) ?_ ?_
 .ext;refine ⟨fs.length,by rw[af],by lia,by lia,?_⟩;refine ⟨fun i Γ' G'=>(Ex2 fun c6 c7=>Γ'=[some (.ptr b),some (.ptr la),some (.lst (fs.map sfT)),some (.ptr kd),some (.ptr ly),some (.int v),c6,c7,none,none,none,none,none])/\∃ lay,LdSt G G' b l la kd [ly] lane (.dt kvs)/\G' ly=some (.lst (lay.map lyT))/\lay.length<=8 * i/\(∀ x∈lay,InFr fs x.1 x.2.1/\x.2.2.natAbs<=2)/\Cov fs kvs lay i 0,⟨⟨_,_,rfl⟩,[],L1,gp_s,cb _,(fun x hx=>by cases hx),fun i' j' s _ _ h=>by lia⟩,fun _ _ _ _=>trivial,?_,?_⟩
  .rintro i x Γ' G' hx ⟨⟨c6,c7,rfl⟩,lay,L,hly,hl8,hin,cov⟩;rw[bB] at hx;obtain ⟨rfl,hi⟩:=fY hx;have es:fs[i]?=some fs[i]:=ay hi;generalize fs[i]=si at es;have hb8:=bx si (aD es);ext;refine aU (cD (n:=i) rfl (by rw[ah,es];rfl)) ?_;ext;refine ⟨si.2.2.length,by rw[af],by lia,by lia,?_⟩;refine ⟨fun j Γ' G'=>(∃ c7,Γ'=[some (.ptr b),some (.ptr la),some (.lst (fs.map sfT)),some (.ptr kd),some (.ptr ly),some (.int v),some (.int (i:Int)),c7,none,none,none,none,none])/\∃ lay,LdSt G G' b l la kd [ly] lane (.dt kvs)/\G' ly=some (.lst (lay.map lyT))/\lay.length<=8 * i+j/\(∀ x∈lay,InFr fs x.1 x.2.1/\x.2.2.natAbs<=2)/\Cov fs kvs lay i j,⟨⟨_,rfl⟩,lay,L,hly,hl8,hin,cov⟩,fun _ _ _ _=>trivial,?_,?_⟩
   .rintro j x Γ' G' hx ⟨⟨c7,rfl⟩,lay,L,hly,hl8,hin,cov⟩;rw[bB] at hx;obtain ⟨rfl,hj⟩:=fY hx;ext;refine ⟨_,⟨kd,rfl,.inl ⟨kvs,[.inl (i:Int),.inl (j:Int)],.inl L.kn,rfl,rfl⟩⟩,?_⟩;ext;have here:InFr fs (i:Int) (j:Int):=⟨by lia,by lia,si,by simpa using es,by lia⟩;cases hg:getA kvs [.inl (i:Int),.inl (j:Int)] with
    | some t =>
     refine iteF ?_;ext;dsimp only;refine ck ⟨⟨_,rfl⟩,lay,L,hly,by lia,hin,fun i' j' s' e1 e2 h=>?_⟩;by_cases e:i'=i/\j'=j
     .obtain ⟨rfl,rfl⟩:=e;exact .inl (by rw[hg];rfl)
     .exact cov i' j' s' e1 e2 (by lia)
    | none =>
     refine iteT ?_;have ap:∀ c:Int,c.natAbs<=2->∃ lay',LdSt G (gput G' ly (.lst (lay.map lyT++[lyT (i,j,c)]))) b l la kd [ly] lane (.dt kvs)/\(gput G' ly (.lst (lay.map lyT++[lyT (i,j,c)]))) ly=some (.lst (lay'.map lyT))/\lay'.length<=8*i+(j+1)/\(∀ x∈lay',InFr fs x.1 x.2.1/\x.2.2.natAbs<=2)/\Cov fs kvs lay' i (j+1):=fun c hc=>by
      refine⟨lay++[((i:Int),(j:Int),c)],L.put aO (fun _=>nofun),by rw[gp_s,aW];rfl,by rw[aH];simp;lia,fun x hx=>?_,fun i' j' s' e1 e2 h=>?_⟩
      .rcases aS.mp hx with hx|hx
       .exact hin x hx
       .rw[aM.mp hx];exact⟨here,hc⟩
      .by_cases e:i'=i/\j'=j
       .obtain ⟨rfl,rfl⟩:=e;exact .inr ⟨c,by simp⟩
       .rcases cov i' j' s' e1 e2 (by lia) with h|⟨c,h⟩
        .exact .inl h
        .exact .inr ⟨c,dJ _ h⟩
     have hl9:lay.length<1000:=by lia
     ext;refine⟨ty_p hly,?_⟩;ext;refine dF (fun _=>?_) fun _=>?_
     .ext;refine bA L.bag ⟨by decide,by decide⟩ fun c c0 c1=>?_;ext;refine gJ hly (by rw[af];lia) ?_;dsimp only;exact ck ⟨⟨_,rfl⟩,ap (c-2) (by lia)⟩
     .ext;refine gJ hly (by rw[af];lia) ?_;dsimp only;exact ck ⟨⟨_,rfl⟩,ap 0 (by decide)⟩
   .rintro Γ' G' ⟨⟨c7,rfl⟩,lay,L,hly,hl8,hin,cov⟩;rw[bB,g7] at hl8 cov;dsimp only;refine ck ⟨⟨_,_,rfl⟩,lay,L,hly,by lia,hin,fun i' j' s' e1 e2 h=>cov i' j' s' e1 e2 ?_⟩;by_cases e:i'=i
    .subst e;rw[es] at e1;cases e1;exact .inr ⟨rfl,e2⟩
    .exact .inl (by lia)
  .rintro Γ' G' ⟨⟨c6,c7,rfl⟩,lay,L,hly,hl8,hin,cov⟩;rw[bB,g7] at hl8 cov;exact⟨⟨_,_,rfl⟩,lay,L,hly,⟨by lia,hin⟩,cov⟩
 rintro Γ' G' ⟨⟨c6,c7,rfl⟩,lay,L,hly,lo,cov⟩;have hl32:=lo.len;refine dG (fun Γ' G2=>(∃ t:Int,0<=t/\t<=lay.length/\Γ'=[some (.ptr b),some (.ptr la),some (.lst (fs.map sfT)),some (.ptr kd),some (.ptr ly),some (.int v),c6,c7,some (.int t),none,none,none,none])/\G2=G') ?_ ?_
 .ext;refine dF (fun _=>?_) fun _=>?_
  .ext;refine bA L.bag ⟨by decide,by decide⟩ fun c c0 c1=>?_;ext;refine cS (sg_p hly) ?_;ext;refine l_max ?_;rw[af];have h1:(0:Int) < if (lay.length:Int) > 1 then (lay.length:Int) else 1:=by split <;> lia
   ext;refine j6 h1 ?_;ext;have h2:=jR c (Int.ne_of_gt h1);have h3:=jS c h1;have h4:(if (lay.length:Int)>1 then (lay.length:Int) else 1)=1\/(if (lay.length:Int)>1 then (lay.length:Int) else 1)=lay.length:=by split <;> simp
   refine⟨⟨_,h2,?_,rfl⟩,rfl⟩;generalize (if (lay.length:Int)>1 then (lay.length:Int) else 1)=M at h2 h3 h4;lia
  .ext;exact⟨⟨0,by lia,by lia,rfl⟩,rfl⟩
 rintro Γ' G2 ⟨⟨t,t0,t1,rfl⟩,rfl⟩;obtain⟨lay2,e2,lo2,cov2⟩:∃ lay2,cutT (lay.map lyT) (some t) none++cutT (lay.map lyT) none (some t)=lay2.map lyT/\LayOk fs lay2/\Cov fs kvs lay2 fs.length 0:=by
  have mm:∀ x,x∈lay.drop t.toNat++lay.take t.toNat↔x∈lay:=fun x=>by
   conv=>rhs;rw[<-take_append_drop t.toNat lay]
   simp only[aS];exact Or.comm
  refine⟨lay.drop t.toNat++lay.take t.toNat,?_,⟨?_,fun x hx=>lo.ok x ((mm x).mp hx)⟩,fun i' j' s' e1 e2 h=>?_⟩
  .rw[iV t0 (by rw[af];exact t1),iG t0 (by rw[af];exact t1),aW,map_drop,map_take]
  .rw[aH,iX,fu];lia
  .rcases cov i' j' s' e1 e2 h with h|⟨c,h⟩
   .exact .inl h
   .exact .inr ⟨c,(mm _).mpr h⟩
 ext;refine iU (si_p hly) ?_;ext;refine iU (si_p hly) ?_;have h40:=lo2.len;refine fg si_l si_l (by rw[<-aH,e2,af];lia) ?_;rw[e2];refine bt ?_;clear cov lo e2;refine cw (dC (tT fun fd nfd=>bt ?_));obtain⟨L2,nf1,_⟩:=L.fresh nfd (c:=.dt []) (fun _=>nofun);have nfl:fd≠ly:=fun e=>nf1 (by rw[e];exact aO);have gf:gput G2 fd (.dt []) fd=some (.dt []):=gp_s;generalize gput G2 fd (.dt [])=G3 at L2 gf;refine dG (fun Γ' G'=>(Ex2 fun c6 c7=>Γ'=[some (.ptr b),some (.ptr la),some (.lst (fs.map sfT)),some (.ptr kd),some (.lst (lay2.map lyT)),some (.int v),c6,c7,some (.int t),some (.ptr fd),none,none,none])/\Ex3 fun frm o vs=>An4 (LdSt G G' b l la kd [fd,ly] lane (.dz o vs kvs)) (G' fd=some (.dt frm)) (FmS (SrcF kvs lay2) lay2.length frm 100) (∀ e∈kvs,(getA frm e.1).isSome=true)) ?_ ?_
 .ext;refine ⟨kd,kvs,rfl,L2.kn,fun o vs=>?_⟩;refine ⟨fun i Γ' G'=>(Ex2 fun c6 c7=>Γ'=[some (.ptr b),some (.ptr la),some (.lst (fs.map sfT)),some (.ptr kd),some (.lst (lay2.map lyT)),some (.int v),c6,c7,some (.int t),some (.ptr fd),none,none,none])/\∃ frm,LdSt G G' b l la kd [fd,ly] lane (.dz o vs kvs)/\G' fd=some (.dt frm)/\FmS (SrcF kvs lay2) lay2.length frm i/\∀ e∈kvs.take i,(getA frm e.1).isSome=true,⟨⟨_,_,rfl⟩,[],L2.kput _,by rw[gp_n (fun e=>L2.nb.2.2 (by rw[<-e];exact aO))];exact gf,FmS.nil,fun e he=>by rw[take_zero] at he;cases he⟩,fun _ Γ' G' h=>h.2.choose_spec.1.kn,?_,?_⟩
  .rintro i x Γ' G' hx ⟨⟨c6,c7,rfl⟩,frm,L,hf,fd',hall⟩;rw[ah] at hx;obtain ⟨p,ep,rfl⟩:=aV.mp hx;obtain ⟨i',j',c,rfl,hc,_⟩:=kn.ok p (aD ep);have hil:=(aX.mp ep).1;have kl:=kn.len;obtain ⟨t2,et⟩:=k9.mp (ZnL (aD ep));obtain ⟨i3,j3,c3,e3,hc3,_⟩:=kn.ok _ (kj et);have et2:t2=.int c3:=congrArg Prod.snd e3;subst et2;refine cf (ds:=[.int i',.int j']) rfl ?_;ext;refine qO ?_;ext;refine ⟨_,⟨kd,rfl,.inl ⟨kvs,[.inl i',.inl j'],.inr ⟨o,vs,L.kn⟩,rfl,et.symm⟩⟩,?_⟩;ext;refine ⟨fd,frm,[.inl i',.inl j'],rfl,hf,rfl,by have:=fd'.len;lia,?_⟩;dsimp only;refine ck ⟨⟨_,_,rfl⟩,_,L.put aO (fun _=>nofun),gp_s,fd'.put (fm:=(c3,[])) (Fo.nil (bh (gt hc3) (by decide))) kr ⟨i',j',rfl,.inl ⟨c3,kj et,rfl⟩⟩,fun e he=>?_⟩;rw[eP,ep] at he;rcases aS.mp he with he|he
   .exact qW (hall e he)
   .have he:e=([.inl i',.inl j'],.int c):=by simpa using he
    rw[he];exact vF
  .rintro Γ' G' ⟨hy,frm,L,hf,fd',hall⟩;rw[af] at fd' hall;have kl:=kn.len;exact⟨hy,frm,o,vs,L,hf,⟨by have:=fd'.len;lia,fd'.ok⟩,fun e he=>hall e (by rw[eQ];exact he)⟩
 rintro Γ' G' ⟨⟨c6',c7',rfl⟩,frm,o,vs,L,hf,fmd,hall⟩;refine dG (fun Γ' G'=>(∃ c10,Γ'=[some (.ptr b),some (.ptr la),some (.lst (fs.map sfT)),some (.ptr kd),some (.lst (lay2.map lyT)),some (.int v),c6',c7',some (.int t),some (.ptr fd),c10,none,none])/\∃ frm,An5 (LdSt G G' b l la kd [fd,ly] lane (.dz o vs kvs)) (G' fd=some (.dt frm)) (FmS (SrcF kvs lay2) lay2.length frm 200) (∀ e∈kvs,(getA frm e.1).isSome=true) (∀ x∈lay2,(getA frm [.inl x.1,.inl x.2.1]).isSome=true)) ?_ ?_
 .ext;refine ⟨lay2.length,by rw[af],by lia,by lia,?_⟩;refine ⟨fun i Γ' G'=>(∃ c10,Γ'=[some (.ptr b),some (.ptr la),some (.lst (fs.map sfT)),some (.ptr kd),some (.lst (lay2.map lyT)),some (.int v),c6',c7',some (.int t),some (.ptr fd),c10,none,none])/\∃ frm,LdSt G G' b l la kd [fd,ly] lane (.dz o vs kvs)/\G' fd=some (.dt frm)/\FmS (SrcF kvs lay2) lay2.length frm (100+i)/\(∀ e∈kvs,(getA frm e.1).isSome=true)/\∀ x∈lay2.take i,(getA frm [.inl x.1,.inl x.2.1]).isSome=true,⟨⟨_,rfl⟩,frm,L,hf,fmd,hall,fun x hx=>by rw[take_zero] at hx;cases hx⟩,fun _ _ _ _=>trivial,?_,?_⟩
  .rintro u x Γ' G' hx ⟨⟨c10,rfl⟩,frm,L,hf,fmd,hall,hal2⟩;rw[bB] at hx;obtain ⟨rfl,hu⟩:=fY hx;have ex:lay2[u]?=some lay2[u]:=ay hu;generalize lay2[u]=y at ex;have hat:atI (lay2.map lyT) (u:Int)=some (lyT y):=cD (n:=u) rfl (by rw[ah,ex];rfl);ext;refine qO ?_;ext;refine aU hat ?_;ext;refine aU hat ?_;ext;refine fi ?_;rw[iG (by decide) (by simp)];refine ⟨fd,frm,[.inl y.1,.inl y.2.1],rfl,hf,rfl,by have:=fmd.len;lia,?_⟩;dsimp only;refine ck ⟨⟨_,rfl⟩,_,L.put aO (fun _=>nofun),gp_s,fmd.put (fm:=(y.2.2,[(1,(u:Int))])) (jm (lo2.ok y (aD ex)).2 hu) nV ⟨y.1,y.2.1,rfl,.inr ⟨u,y.2.2,ex,rfl⟩⟩,fun e he=>qW (hall e he),fun z hz=>?_⟩;rw[eP,ex] at hz;rcases aS.mp hz with hz|hz
   .exact qW (hal2 z hz)
   .have hz:z=y:=by simpa using hz
    rw[hz];exact vF
  .rintro Γ' G' ⟨hy,frm,L,hf,fmd,hall,hal2⟩;rw[bB,g7] at fmd hal2;exact⟨hy,frm,L,hf,⟨by have:=fmd.len;lia,fmd.ok⟩,hall,fun x hx=>hal2 x (by rw[eQ];exact hx)⟩
 rintro Γ' G' ⟨⟨c10,rfl⟩,frm,L,hf,fmd,hall,hal2⟩;have all:∀ (i j:Nat) s',fs[i]?=some s'->j<s'.2.2.length->∃ fm,getA frm [.inl (i:Int),.inl (j:Int)]=some (fmT fm)/\Fo lay2.length (10^60) fm/\Cano fm/\SrcF kvs lay2 [.inl (i:Int),.inl (j:Int)] fm:=fun i j s' e1 e2=>by
  have hs:(getA frm [.inl (i:Int),.inl (j:Int)]).isSome=true:=by
   rcases cov2 i j s' e1 e2 (.inl (aX.mp e1).1) with h|⟨c,h⟩
   .obtain ⟨t',ht⟩:=k9.mp h;exact hall _ (kj ht)
   .exact hal2 _ h
  obtain⟨t',ht⟩:=k9.mp hs;obtain⟨fm,rfl,h1,h2,h3⟩:=fmd.ok _ _ ht;exact⟨fm,ht,h1,h2,h3⟩
 refine cw (dC (jr ?_));ext;intro pd npd;obtain⟨L5,np1,_⟩:=L.fresh npd (c:=.lst []) (fun _=>nofun);have npf:pd≠fd:=fun e=>np1 (by rw[e];exact aO);have gf5:gput G' pd (.lst []) fd=some (.dt frm):=by rw[gp_n npf.symm];exact hf
 have gp5:gput G' pd (.lst []) pd=some (.lst ([].map sfT)):=gp_s;generalize gput G' pd (.lst [])=G5 at L5 gf5 gp5;refine bt ?_;refine dG (fun Γ' G'=>(Ex2 fun c6 c12=>Γ'=[some (.ptr b),some (.ptr la),some (.lst (fs.map sfT)),some (.ptr kd),some (.lst (lay2.map lyT)),some (.int v),c6,c7',some (.int t),some (.ptr fd),c10,some (.ptr pd),c12])/\∃ pap:List SF,An4 (LdSt G G' b l la kd [pd,fd,ly] lane (.dz o vs kvs)) (G' pd=some (.lst (pap.map sfT))) (pap.length=fs.length) (∀ (i:Nat) t s',pap[i]?=some t->fs[i]?=some s'->t.1=s'.1/\t.2.1=s'.2.1/\t.2.2.length=s'.2.2.length/\(∀ g∈t.2.2,Fo lay2.length (10^60) g/\Cano g)/\∀ (j:Nat) g,t.2.2[j]?=some g->SrcF kvs lay2 [.inl (i:Int),.inl (j:Int)] g)) ?_ ?_
 .ext;refine ⟨fs.length,by rw[af],by lia,by lia,?_⟩;refine ⟨fun i Γ' G'=>(Ex2 fun c6 c12=>Γ'=[some (.ptr b),some (.ptr la),some (.lst (fs.map sfT)),some (.ptr kd),some (.lst (lay2.map lyT)),some (.int v),c6,c7',some (.int t),some (.ptr fd),c10,some (.ptr pd),c12])/\∃ pap:List SF,LdSt G G' b l la kd [pd,fd,ly] lane (.dz o vs kvs)/\G' fd=some (.dt frm)/\G' pd=some (.lst (pap.map sfT))/\pap.length=i/\∀ (i:Nat) t s',pap[i]?=some t->fs[i]?=some s'->t.1=s'.1/\t.2.1=s'.2.1/\t.2.2.length=s'.2.2.length/\(∀ g∈t.2.2,Fo lay2.length (10 ^ 60) g/\Cano g)/\∀ (j:Nat) g,t.2.2[j]?=some g->SrcF kvs lay2 [.inl (i:Int),.inl (j:Int)] g,⟨⟨_,_,rfl⟩,[],L5,gf5,gp5,rfl,fun i t s' e=>by cases e⟩,fun _ _ _ _=>trivial,?_,?_⟩
  .rintro i x Γ' G' hx ⟨⟨c6,c12,rfl⟩,pap,L,hf,hp,hpl,hpa⟩;rw[bB] at hx;obtain ⟨rfl,hi⟩:=fY hx;have es:fs[i]?=some fs[i]:=ay hi;generalize fs[i]=si at es;have hb8:=bx si (aD es);have hat:atI (fs.map sfT) (i:Int)=some (sfT si):=cD (n:=i) rfl (by rw[ah,es];rfl);obtain ⟨fms,fl,fa⟩:=tu (R:=fun j fm=>getA frm [.inl (i:Int),.inl (j:Int)]=some (fmT fm)/\Fo lay2.length (10 ^ 60) fm/\Cano fm/\SrcF kvs lay2 [.inl (i:Int),.inl (j:Int)] fm) si.2.2.length fun j hj=>all i j si es hj;ext;refine cu (fun Γ'=>∃ c,Γ'=[c,some (.ptr fd),some (.int (i:Int))]) ?_;ext;refine aU hat ?_;ext;refine ⟨si.2.2.length,by rw[af],by lia,by lia,by rw[bB,g7];lia,trivial,⟨none,rfl⟩,fms.map fmT,by rw[af,bB,g7];exact fl,?_,?_⟩
   .rintro j x y Γ' hx hy ⟨c,rfl⟩;rw[bB] at hx;obtain⟨rfl,hj⟩:=fY hx;rw[ah] at hy;obtain⟨fm,ef,rfl⟩:=aV.mp hy;ext;refine⟨⟨_,rfl⟩,rfl,?_⟩;ext;refine⟨_,⟨fd,rfl,.inl ⟨frm,[.inl (i:Int),.inl (j:Int)],.inl hf,rfl,(fa j fm ef).1.symm⟩⟩,rfl,rfl⟩
   ext;refine⟨ty_p hp,?_⟩;ext;refine aU hat ?_;ext;refine fi ?_;rw[iG (by decide) (by simp)];ext;refine eZ sg_l (fun _=>nofun) ?_;ext;refine gH (by simp) ?_;ext;refine gJ hp (by rw[af];lia) ?_;dsimp only;refine ck ⟨⟨_,_,rfl⟩,pap++[(si.1,si.2.1,fms)],L.put aO (fun _=>nofun),by rw[gp_n npf.symm];exact hf,by rw[gp_s,aW];rfl,by rw[aH,hpl];rfl,fun i' t' s' e1 e2=>?_⟩;rcases dE e1 with ⟨_,e1⟩|⟨e3,e4⟩
   .exact hpa i' t' s' e1 e2
   .rw[e3,hpl,es] at e2;cases e2;rw[e4];refine ⟨rfl,rfl,fl,fun g hg=>?_,fun j g hj=>?_⟩
    .obtain ⟨j,hj⟩:=fV.mp hg;exact⟨(fa j g hj).2.1,(fa j g hj).2.2.1⟩
    .rw[e3,hpl];exact(fa j g hj).2.2.2
  .rintro Γ' G' ⟨hy,pap,L,hf,hp,hpl,hpa⟩;rw[bB,g7] at hpl;exact⟨hy,pap,L,hp,hpl,hpa⟩
 rintro Γ' G' ⟨⟨c6,c12,rfl⟩,pap,L,hp,hpl,hpa⟩;have ppk:PpK Q lay2.length pap:=pap_ok fo (by lia) (by rw[hpl,hfs]) (by rw[hfs];exact fun i t s' e1 e2=>let ⟨a1,a2,a3,a4,_⟩:=hpa i t s' e1 e2;⟨a1,a2,a3,a4⟩);have hG:G'=gput (gdel G' pd) pd (.lst (pap.map sfT)):=by
  funext x;unfold gput gdel
  by_cases e:x=pd
  .rw[ak e,e];exact hp
  .rw[ao e,ao e]
 have ndl:gdel G' pd pd=none:=by unfold gdel;rw[ak rfl]
 have L6:=L.del np1;rw[hG];refine ws_frz (i:=11) rfl ndl ?_;generalize gdel G' pd=G6 at L6;ext;refine⟨ty_p L6.ln,?_⟩;ext;refine gJ L6.ln (by rw[af];lia) ?_;ext;have L7:=L6.app (lane++[⟨lay2.length,pap,.tup [.str "leave"]⟩]);rw[af];have e7:(lane++[(⟨lay2.length,pap,.tup [.str "leave"]⟩:StL)]).map stT=lane.map stT++[.tup [.int lay2.length,.lst (pap.map sfT),.tup [.str "leave"]]]:=by rw[aW];rfl
 rw[<-e7];exact L7.fin (av (q lay2 ⟨lay2.length,pap,.tup [.str "leave"]⟩ (.dz o vs kvs) lo2 ppk rfl rfl ⟨hpl,fun i t s' e1 e2=>let ⟨a1,a2,a3,_,a5⟩:=hpa i t s' e1 e2;⟨a1,a2,a3,a5⟩⟩ (fun _=>nofun)))
def LnR(Q:List Df)(lane lane':List StL)(kvs':List (Key×T)):Prop:=LnS Q lane' kvs'/\∃ ex:List StL,lane'=lane++ex/\ex.length<=1/\∀ d∈ex,d.dd=.tup [.str "leave"]
def Hit(fs:List SF)(m:Int):Prop:=m=0\/∃ t∈fs,∃ g∈t.2.2,∃ p∈g.2,p.2+1=m
def Znr:Pre:=fun ts G k=>∃ (la kd:Addr) (Q:List Df) (n B:Nat) (f:List SF) (s:SF) (lane:List StL) (kvs:List (Key×T)),ts=[.ptr la,.ptr kd,.lst ((f++[s]).map sfT)]/\G la=some (.lst (lane.map stT))/\G kd=some (.dk kvs)/\PgK Q/\FrsOk Q n B f s/\bO (f++[s])/\Chn Q (plcF (f++[s]))/\n<64/\lane.length<=900/\LnS Q lane kvs/\k .non G/\∀ (M k':Nat) (lane':List StL) (kvs':List (Key×T)),M<=n->LnR Q lane lane' kvs'->(pnL lane')[k']?=some (M,f++[s])->(∀ t∈f++[s],∀ g∈t.2.2,∀ p∈g.2,p.2<M)->k (.tup [.tup ((aI M).map fmT),.int k']) (gput (gput G la (.lst (lane'.map stT))) kd (.dk kvs'))
theorem pO{P:Program}{w:World}{K:W.Frag}{G:GH}{k:T->GH->Prop}{i:Int}(h:k (.int (i.natAbs:Int)) G):LNr P w K rAbs [.int i] G k:=fun H us g r Q z=>by
 cases r with|cons r1 r2=>cases r1;cases r2;exact⟨i,rfl,by have e:(if i<0 then -i else i)=(i.natAbs:Int):=(by split <;> lia);rw[e];exact z.here g .int h⟩
theorem lX:CPow 10 60:=⟨by decide,by decide,by decide⟩
def FmL(m:Int)(g:Fm):Prop:=g.1.natAbs<10^60/\∀ p∈g.2,p.1.natAbs<10^60/\p.2<m
theorem FmL.up{m m':Int}{g:Fm}(h:FmL m g)(l:m<=m'):FmL m' g:=⟨h.1,fun p hp=>⟨(h.2 p hp).1,Int.lt_of_lt_of_le (h.2 p hp).2 l⟩⟩
theorem c60:(10:Int)^(60:Int).toNat=((10^60:Nat):Int):=by decide
theorem iP{n:Nat}{i:Int}(h:i.natAbs<10^90):PlT n (.int i):=by cases n with|zero=>exact⟨i,rfl,h⟩|succ n=>exact .inl ⟨i,rfl,h⟩
theorem pq{n:Nat}{x y:T}(h1:PlT n x)(h2:PlT n y):PlT (n+1) (.tup [x,y]):=.inr ⟨_,.inl rfl,fun u hu=>by
 simp only[aJ,bX,cG] at hu;rcases hu with rfl|rfl
 .exact h1
 .exact h2⟩
theorem plt_fm{m:Int}{g:Fm}(h:FmL m g)(hw:∀ p∈g.2,0<=p.2/\p.2<64)(hl:g.2.length<64):PlT 3 (fmT g)/\lnT (fmT g)<=14000:=by
 have lt:∀ {i:Int},i.natAbs<10^60->i.natAbs<10^90:=fun h=>dM h (by decide);refine⟨pq (iP (lt h.1)) (.inr ⟨_,.inl rfl,fun u hu=>?_⟩),?_⟩
 .obtain ⟨p,hp,rfl⟩:=aT.mp hu;have:=hw p hp;exact pq (iP (lt (h.2 p hp).1)) (iP (lt (by lia)))
 .have:lnTs (g.2.map prT)<=(g.2.map prT).length * (208+2):=jk fun t ht=>by
   obtain⟨p,_,rfl⟩:=aT.mp ht;simp[lnT,lnTs]
  rw[af] at this;simp only[lnT,lnTs];lia
theorem ZjX{Q:List Df}(pk:PgK Q){n B:Nat}(hn:n<64){m:Int}{fs:List SF}(few:fs.length<=4)(sok:∀ t∈fs,SfOk Q n B t)(hm:∀ t∈fs,∀ g∈t.2.2,FmL m g):PlT 6 (.lst (fs.map sfT))/\lnT (.lst (fs.map sfT))<=1000000:=by
 have one:∀ t∈fs,PlT 5 (sfT t)/\lnT (sfT t)<=113000:=fun t ht=>by
  obtain⟨d,r,hd,a2,_,a4,a1,a3,a5⟩:=dZ (sok t ht);have b1:=(aX.mp a2).1;have b2:=(aX.mp a4).1;have b3:=pk.ok.2.1;have b4:=(pk.ok.2.2 d hd).n;have b5:=pk.b d hd;have lt:∀ {i:Int},0<=i->i.toNat<1000->i.natAbs<10^90:=fun h1 h2=>dM (show _<1000 by lia) (by decide);have fm:∀ g∈t.2.2,PlT 3 (fmT g)/\lnT (fmT g)<=14000:=fun g hg=>by
   have hf:=(sok t ht).fm g hg;have:=lI hf;exact plt_fm (hm t ht g hg) (fun p hp=>⟨(hf.w p hp).1,by have:=(hf.w p hp).2;lia⟩) (by lia)
  refine⟨.inr ⟨_,.inl rfl,fun u hu=>?_⟩,?_⟩
  .simp only[aJ,bX,cG] at hu;rcases hu with rfl|rfl|rfl
   .exact iP (lt a1 (by lia))
   .exact iP (lt a3 (by lia))
   .exact .inr ⟨_,.inl rfl,fun u hu=>by obtain⟨g,hg,rfl⟩:=aT.mp hu;exact(fm g hg).1⟩
  .have:lnTs (t.2.2.map fmT)<=(t.2.2.map fmT).length * (14000+2):=jk fun x hx=>by
    obtain⟨g,hg,rfl⟩:=aT.mp hx;exact(fm g hg).2
   rw[af] at this;simp only[lnT,lnTs];lia
 refine⟨.inr ⟨_,.inr rfl,fun u hu=>by obtain⟨t,ht,rfl⟩:=aT.mp hu;exact(one t ht).1⟩,?_⟩;have:lnTs (fs.map sfT)<=(fs.map sfT).length*(113000+2):=jk fun x hx=>by
  obtain⟨t,ht,rfl⟩:=aT.mp hx;exact(one t ht).2
 rw[af] at this;simp only[lnT];lia
theorem sc__law_as_is:FnScope ["lane","keys","frames","many","f","at","forms","c","parts","key"] ["lane","keys","frames"] (aC nZ):=by ac_nf
theorem ZhJ(tq:Tq P w K mg base):Callee P w K mg base "_law_as_is" 2 ["lane","keys","frames"] (spG P w K Znr):=by
 refine tq.e7.okG sc__law_as_is (by walk_at"lnx") fun f cdv A outer s H E ts G k hr hh=>?_;have nd:=sc__law_as_is.nd;have hu1:=jw hr;have hu:=hr.units;obtain⟨la,kd,Q,n,B',f,s,lane,kvs,rfl,hla,hkd,pk,fo,cn,hch,hn,hlen,lk,q0,q⟩:=hh;generalize hfs:f++[s]=fs at cn hch;have few:fs.length<=4:=by rw[<-hfs,aH];have:=fo.few;simp;lia
 have sok:∀ t∈fs,SfOk Q n B' t:=fun t ht=>fo.all t (by rw[hfs];exact ht);have bx:∀ t∈fs,t.2.2.length<=8:=fun t ht=>gk pk (sok t ht);refine' go_G [some (.ptr la),some (.ptr kd),some (.lst (fs.map sfT)),none,none,none,none,none,none,none] rfl ?hb ?hg
 case hb=>exact(ag (cO (i:=3) nd rfl (Or.inl rfl) aa) (ag (cE PassesOwn.never rfl (dS (K:=K) rfl (pv 2)) (cj (K:=K) (n:=3) rfl rfl (aP (pyn 4 nd) (aP (pyn 5 nd) (aP (pyn 6 nd) bY)))) (ai (cE PassesOwn.never rfl (dD (K:=K) rfl (pv 6)) (cj (K:=K) (n:=2) rfl rfl (aP (pyn 7 nd) (aP (pyn 8 nd) bY))) (ag (aK (aA op_ge (aG (vn (K:=K) rfl rfl) (by rfl) tq.b_max qD (bM (au eU (bz (aR (aG mn (by rfl) tq.b_abs mY (pyv 7)) ae)) (fO (LN:=["a","w"]) (FN:=[]) (fr:=[]) rfl (cV (by rfl)) (dD (K:=K) rfl (pv 8)) (fun _ _ _ _ _ _=>(cj (K:=K) (n:=2) rfl rfl (aP (pyn 0 (show ((["a","w"]:List Str)++([]:List Str)).Nodup by decide +kernel)) (aP (pyn 1 (show ((["a","w"]:List Str)++([]:List Str)).Nodup by decide +kernel)) bY)))) (fun _ _ _ _ _ _=>di) (fun _ _ _ _ _ _=>(aG mn (by rfl) tq.b_abs mY (pyv 0))))) ae)) (au kC aa aa) (ax _)) (ai (aq cU)) aQ) (ai (bI (i:=3) nd rfl (Or.inl rfl) (aG (vn (K:=K) rfl rfl) (by rfl) tq.b_max qD (bM (au eU (bz (pyv 3)) (fO (LN:=["a","w"]) (FN:=[]) (fr:=[]) rfl (cV (by rfl)) (dD (K:=K) rfl (pv 8)) (fun _ _ _ _ _ _=>(cj (K:=K) (n:=2) rfl rfl (aP (pyn 0 (show ((["a","w"]:List Str)++([]:List Str)).Nodup by decide +kernel)) (aP (pyn 1 (show ((["a","w"]:List Str)++([]:List Str)).Nodup by decide +kernel)) bY)))) (fun _ _ _ _ _ _=>di) (fun _ _ _ _ _ _=>(au bD (pv 1) aa)))) ae)))))))) (ag (aK (aA gn (pv 3) aa (ax _)) (ai (aq cU)) aQ) (ag (bI (i:=9) nd rfl (Or.inl rfl) (cY (t7 (K:=K) hr.gd hr.units) (by rfl) tq.b_str kw (pyv 2))) (ag (aK (q9 (rB hu1 (pv 9) (pv 1))) (ag (hW hu1 (pv 1) (pv 9) (aw (aR (aG (bj (K:=K) rfl) (by rfl) tq.b_len bi (pyv 0)) (ma (bz ae) ae))) rfl) (ai (eI (k_bm (K:=K) rfl PySem.F.plainAttrs_list PySem.F.slot_list_append PySem.F.type_list_append gW (pv 0) (bf (aw (pyw 3 (aR (cY (lV (K:=K) rfl) (by rfl) tq.b_list ic (pyv 2)) (bf (aw (aj aF ae)) ae)))) ae))))) aQ) (ai (aq (aw (aR (cY (ff (K:=K) rfl) (by rfl) tq.b_tuple du (aR (pyk (oq tq :) hr.m (pyv 3)) ae)) (aB (wx K (ig hu1 (pv 1) (pv 9) (fun _ _=>rfl)) aa) ae))))))))))
 refine cw (dC (mz (bt ?_)));refine dG (fun Γ' G'=>(∃ m c4 c5 c6 c7 c8,(0:Int)<=m/\m<=n/\Hit fs m/\(∀ t∈fs,∀ g∈t.2.2,FmL m g)/\Γ'=[some (.ptr la),some (.ptr kd),some (.lst (fs.map sfT)),some (.int m),c4,c5,c6,c7,c8,none])/\G'=G) ?_ ?_
 .ext;refine ⟨_,si_l,fun i Γ' G'=>(∃ m c4 c5 c6 c7 c8,(0:Int)<=m/\m<=n/\Hit fs m/\(∀ t∈fs.take i,∀ g∈t.2.2,FmL m g)/\Γ'=[some (.ptr la),some (.ptr kd),some (.lst (fs.map sfT)),some (.int m),c4,c5,c6,c7,c8,none])/\G'=G,⟨⟨0,_,_,_,_,_,by decide,by lia,.inl rfl,(fun t ht=>by rw[take_zero] at ht;cases ht),rfl⟩,rfl⟩,fun _ _ _ _=>si_l,?_,?_⟩
  .rintro i x Γ' G' hx ⟨⟨m,c4,c5,c6,c7,c8,m0,m1,ht1,hm,rfl⟩,rfl⟩;rw[ah] at hx;obtain ⟨si,es,rfl⟩:=aV.mp hx;have hsi:=sok si (aD es);refine cf rfl ?_;ext;refine ⟨_,rfl,fun j Γ' G2=>(∃ m c7 c8,(0:Int)<=m/\m<=n/\Hit fs m/\(∀ t∈fs.take i,∀ g∈t.2.2,FmL m g)/\(∀ g∈si.2.2.take j,FmL m g)/\Γ'=[some (.ptr la),some (.ptr kd),some (.lst (fs.map sfT)),some (.int m),some (.int si.1),some (.int si.2.1),some (.tup (si.2.2.map fmT)),c7,c8,none])/\G2=G',⟨⟨m,_,_,m0,m1,ht1,hm,(fun g hg=>by rw[take_zero] at hg;cases hg),rfl⟩,rfl⟩,fun _ _ _ _=>trivial,?_,?_⟩
   .rintro j x Γ' G2 hx ⟨⟨m,c7,c8,m0,m1,ht1,hm,hm2,rfl⟩,rfl⟩;rw[ah] at hx;obtain ⟨g,eg,rfl⟩:=aV.mp hx;have hg:=hsi.fm g (aD eg);have gl:=lI hg;refine cf rfl ?_;ext;refine pO ?_;ext;refine cu (fun Γ'=>Ex2 fun a b=>Γ'=[a,b]) ?_;ext;refine ⟨_,rfl,by rw[af];lia,trivial,⟨none,none,rfl⟩,(g.2.map fun p=>(p.1.natAbs:Int)).map T.int,by rw[af,af,af],?_,?_⟩
    .rintro u x y Γ' hx hy ⟨a,b,rfl⟩;rw[ah] at hx;obtain⟨p,ep,rfl⟩:=aV.mp hx;rw[ah,ah,ep] at hy;cases hy;refine cf rfl ?_;ext;refine⟨⟨_,_,rfl⟩,rfl,?_⟩;ext;refine pO ?_;exact⟨rfl,rfl⟩
    refine fg (ts:=[.int (g.1.natAbs:Int)]) si_l si_l (by simp;lia) ?_;refine gE ?_;refine xt (ns:=(g.1.natAbs:Int)::g.2.map fun p=>(p.1.natAbs:Int)) (by simp) fun M hM hx=>?_;ext;refine l_IC lX ?_;rw[c60];ext;refine dF (fun _=>?_) fun hlt=>?_
    .ext;exact av q0
    have hg1:g.1.natAbs<10^60/\∀ p∈g.2,p.1.natAbs<10^60:=by
     refine⟨?_,fun p hp=>?_⟩
     .have:=hx _ aO;lia
     .have:=hx (p.1.natAbs:Int) (bw _ (aT.mpr ⟨p,hp,rfl⟩));lia
    ext;refine cu (fun Γ'=>Ex2 fun a b=>Γ'=[a,b]) ?_;ext;refine⟨_,rfl,by rw[af];lia,trivial,⟨none,none,rfl⟩,(g.2.map fun p=>p.2+1).map T.int,by rw[af,af,af],?_,?_⟩
    .rintro u x y Γ' hx hy ⟨a,b,rfl⟩;rw[ah] at hx;obtain⟨p,ep,rfl⟩:=aV.mp hx;rw[ah,ah,ep] at hy;cases hy;refine cf rfl ?_;ext;refine⟨⟨_,_,rfl⟩,rfl,?_⟩;ext;exact⟨rfl,rfl⟩
    refine fg (ts:=[.int m]) si_l si_l (by simp;lia) ?_;refine gE ?_;refine xt (ns:=m::g.2.map fun p=>p.2+1) (by simp) fun M2 hM2 hx2=>?_;have mM:m<=M2:=hx2 _ aO;refine bt ?_;dsimp only;refine ck ⟨⟨M2,_,_,by lia,?_,?_,fun t ht g' hg'=>(hm t ht g' hg').up mM,fun g' hg'=>?_,rfl⟩,rfl⟩
    .rcases aJ.mp hM2 with e|e
     .lia
     .obtain ⟨p,hp,rfl⟩:=aT.mp e;have:=(hg.w p hp).2;lia
    .rcases aJ.mp hM2 with e|e
     .rw[e];exact ht1
     .obtain ⟨p,hp,e⟩:=aT.mp e;exact .inr ⟨si,aD es,g,aD eg,p,hp,e⟩
    .rw[eP,eg] at hg';rcases aS.mp hg' with hg'|hg'
     .exact (hm2 g' hg').up mM
     .have hg':g'=g:=by simpa using hg'
      rw[hg'];refine⟨hg1.1,fun p hp=>⟨hg1.2 p hp,?_⟩⟩;have:=hx2 (p.2+1) (bw _ (aT.mpr ⟨p,hp,rfl⟩));lia
   .rintro Γ' G2 ⟨⟨m,c7,c8,m0,m1,ht1,hm,hm2,rfl⟩,rfl⟩;rw[af,eQ] at hm2;dsimp only;refine ck ⟨⟨m,_,_,_,_,_,m0,m1,ht1,fun t ht=>?_,rfl⟩,rfl⟩;rw[eP,es] at ht;rcases aS.mp ht with ht|ht
    .exact hm t ht
    .have ht:t=si:=by simpa using ht
     rw[ht];exact hm2
  .rintro Γ' G' ⟨⟨m,c4,c5,c6,c7,c8,m0,m1,ht1,hm,rfl⟩,rfl⟩;rw[af,eQ] at hm;exact⟨⟨m,_,_,_,_,_,m0,m1,ht1,hm,rfl⟩,rfl⟩
 rintro Γ' G' ⟨⟨m,c4,c5,c6,c7,c8,m0,m1,ht1,hm,rfl⟩,rfl⟩;obtain⟨pl1,pl2⟩:=ZjX pk hn few sok hm;ext;refine dF (fun _=>?_) fun h40=>?_
 .ext;exact av q0
 obtain⟨M,rfl⟩:∃ M:Nat,m=M:=⟨m.toNat,by lia⟩;have ppk:PpK Q M fs:=by
  refine⟨by lia,⟨f,s,hfs.symm,fo.few,fun t ht=>⟨(fo.all t ht).ex,fun g hg=>?_⟩,fo.call⟩,cn⟩;have hf:=(fo.all t ht).fm g hg;have hg':=hm t (by rw[<-hfs];exact ht) g hg;exact⟨gt hg'.1,fun p hp=>gt (hg'.2 p hp).1,fun p hp=>⟨(hf.w p hp).1,(hg'.2 p hp).2⟩,hf.nd⟩
 ext;refine tY pl1 ⟨_,.inr rfl⟩ (by decide) pl2 ?_;refine bt ?_;have ky:KyA M fs (shT (.lst (fs.map sfT))):=⟨by rw[<-hfs];simp,⟨m0,fun t ht g hg p hp=>(hm t ht g hg).2 p hp |>.2,ht1⟩,rfl,jj pl1 (by decide)⟩;generalize shT (.lst (fs.map sfT))=key at ky;have nkl:kd≠la:=fun e=>by rw[e,hla] at hkd;cases hkd
 refine dG (fun Γ' G2=>Γ'=[some (.ptr la),some (.ptr kd),some (.lst (fs.map sfT)),some (.int (M:Int)),c4,c5,c6,c7,c8,some (.str key)]/\∃ (lane':List StL) (kvs':List (Key×T)) (k':Nat) (lay:List T),G2=gput (gput G' la (.lst (lane'.map stT))) kd (.dk kvs')/\LnR Q lane lane' kvs'/\getA kvs' (.inr key:Key)=some (.tup [.int k',.lst lay])/\(pnL lane')[k']?=some (M,fs)) ?_ ?_
 .ext;refine ⟨_,⟨kd,rfl,.inr ⟨kvs,key,hkd,rfl,rfl⟩⟩,?_⟩;ext;cases hg:getA kvs (.inr key:Key) with
  | some t =>
   refine iteF ?_;ext;obtain⟨k',lay,n2,fr2,rfl,e2,e3⟩:=lk.at hg;have e4:fr2=fs/\n2=M:=by
    rcases e3 with ⟨_,a⟩|⟨l2,its2,b⟩
    .exact key_aa a ky
    .exact (key_ab ky b).elim
   exact⟨rfl,lane,kvs,k',_,by rw[gD hla,gD hkd],⟨lk,[],by simp,by simp,fun d hd=>nomatch hd⟩,hg,by rw[e2,e4.1,e4.2]⟩
  | none =>
   refine iteT ?_;refine cw (v7 ?_);ext;refine cS (sg_p hla) ?_;rw[af];ext;refine⟨kd,kvs,key,rfl,hkd,rfl,by have:=lk.kl;lia,?_⟩;have hla2:gput G' kd (.dk (putA kvs (.inr key) (.tup [.int lane.length,.lst []]))) la=some (.lst (lane.map stT)):=by rw[gp_n nkl.symm];exact hla
   ext;refine⟨ty_p hla2,?_⟩;ext;refine qQ sg_l ?_;ext;refine gJ hla2 (by rw[af];lia) ?_;have ln:=lk.snoc (d:=⟨M,fs,.tup [.str "leave"]⟩) ppk (.tup (by simp) fun u hu=>by rw[aM.mp hu];exact .str) hch hg (lay:=[]) (.inl ⟨rfl,ky⟩);refine⟨rfl,lane++[⟨M,fs,.tup [.str "leave"]⟩],_,lane.length,[],?_,⟨ln,[_],rfl,by simp,fun d hd=>by rw[aM.mp hd]⟩,by rw[kJ,ak rfl];rfl,by
    have lp:pnL (lane++[⟨M,fs,.tup [.str "leave"]⟩])=pnL lane++[(M,fs)]:=aW;have ll:(pnL lane).length=lane.length:=af _;rw[lp,<- ll];exact cq⟩
   rw[gp_c nkl,aW];rfl
 rintro Γ' G2 ⟨rfl,lane',kvs',k',lay,rfl,lg,hg,hk⟩;ext;refine⟨M,rfl,by lia,fun a na=>?_⟩;refine gE (eZ (sg_p gp_s) (fun _=>nofun) ?_);have nak:kd≠a:=g_ne (c:=.dk kvs') gp_s na;ext;refine⟨_,⟨kd,rfl,.inr ⟨kvs',key,by rw[gp_n nak];exact gp_s,rfl,hg.symm⟩⟩,?_⟩;ext;exact fk na (fun _=>nofun) (av (q M k' lane' kvs' (by lia) lg (by rw[hfs];exact hk) (by rw[hfs];exact fun t ht g hg p hp=>((hm t ht g hg).2 p hp).2)))
theorem fF{b:Bool}{A B:Prop}(h1:b=true->A)(h2:b=false->B):if b=true then A else B:=by cases b with|true=>exact iteT (h1 rfl)|false=>exact iteF (h2 rfl)
theorem m7{P:Program}{w:World}{K:W.Frag}{c:TT}{Γ:Ev}{G:GH}{k1 k2:Bool->GH->Prop}(h:Wt P w K c Γ G k1)(m:∀ b G',k1 b G'->k2 b G'):Wt P w K c Γ G k2:=fun H Z g ev Q z=>h H Z g ev Q fun b H' G' s g' q=>z b H' G' s g' (m b G' q)
theorem ZpY{P:Program}{w:World}{K:W.Frag}{G:GH}{k:T->GH->Prop}{x y:Str}(hz:x.length+y.length<=sizeLine)(h:k (.str (x++y)) G):L2r P w K rAddS (.str x) (.str y) G k:=fun H u v g r1 r2 Q z=>by cases r1;cases r2;exact⟨x,y,rfl,rfl,hz,z.here g .str h⟩
theorem tR{fs:List SF}{x:L3i}(h:InFr fs x.1 x.2.1):∃ s,fs[x.1.toNat]?=some s/\s.2.2[x.2.1.toNat]?=some (gAt fs x):=by
 obtain⟨h0,h1,s,es,hl⟩:=h;refine⟨s,es,?_⟩;unfold gAt gtF;rw[es,fR,su,cA,ay (by lia)];rfl
theorem cpow9:CPow 10 9:=⟨by decide,by decide,by decide⟩
theorem pow9:(10:Int)^(9:Int).toNat=((10^9:Nat):Int):=by decide
def Zli:Pre:=fun ts G k=>∃ (b l la kd:Addr) (Q:List Df) (n B:Nat) (f:List SF) (s:SF) (lane:List StL) (kvs:List (Key×T)),ts=[.ptr b,.ptr la,.ptr kd,.lst ((f++[s]).map sfT)]/\G b=some (.bag l)/\G la=some (.lst (lane.map stT))/\G kd=some (.dk kvs)/\PgK Q/\FrsOk Q n B f s/\bO (f++[s])/\Chn Q (plcF (f++[s]))/\n<64/\B<=10^800/\lane.length<=890/\LnS Q lane kvs/\∀ (moves:List Fm) (k' n':Nat) (fr:List SF) (lane':List StL) (kvs':List (Key×T)),LnR Q lane lane' kvs'->(pnL lane')[k']?=some (n',fr)->moves.length=n'->fr.map (bE moves)=f++[s]->(∀ g∈moves,Cano g/\Fo n (B+2) g)->k (.tup [.tup (moves.map fmT),.int k']) (gput (gput G la (.lst (lane'.map stT))) kd (.dk kvs'))
theorem sc__law_target:FnScope ["bag","lane","keys","frames","found","known","i","j","c","parts","key","k","layout"] ["bag","lane","keys","frames"] (aC n9):=by ac_nf
theorem tF(tq:Tq P w K mg base):Callee P w K mg base "_law_target" 3 ["bag","lane","keys","frames"] (spG P w K Zli):=by
 refine tq.e8.okG sc__law_target (by walk_at"lnx") fun f cdv A outer s H E ts G k hr hh=>?_;have nd:=sc__law_target.nd;have hu1:=jw hr;have hu:=hr.units;obtain⟨b,l,la,kd,Q,n,B',f,s,lane,kvs,rfl,hb,hla,hkd,pk,fo,cn,hch,hn,hB,hlen,lk,q⟩:=hh;have cnf:=cn;generalize hfs:f++[s]=fs at cnf;have few:fs.length<=4:=by rw[<-hfs,aH];have:=fo.few;simp;lia
 have sok:∀ t∈fs,SfOk Q n B' t:=fun t ht=>fo.all t (by rw[hfs];exact ht);have bx:∀ t∈fs,t.2.2.length<=8:=fun t ht=>gk pk (sok t ht);refine' go_G [some (.ptr b),some (.ptr la),some (.ptr kd),some (.lst (fs.map sfT)),none,none,none,none,none,none,none,none,none] rfl ?hb ?hg
 case hb=>exact(ag (aK (PW.pt (bT (aA bc (pyk (br tq :) hr.m (pyw 0 (aj aa ae))) aa (ax _)) (bT (aA gn (aG (bj (K:=K) rfl) (by rfl) tq.b_len bi (pyv 1)) aa (ax _)) (cC (aA dO (aG (bj (K:=K) rfl) (by rfl) tq.b_len bi (pyv 1)) aa (ax _)))))) (ag (bI (i:=4) nd rfl (Or.inl rfl) (pyk (ZhJ tq :) hr.m (pyw 1 (pyw 2 (pyv 3))))) (ai (aK (aA kt (pv 4) cU (ax _)) (ai (aq (pv 4))) aQ))) aQ) (ag (cO (i:=5) nd rfl (Or.inl rfl) uH) (ag (cE PassesOwn.never rfl (cX rfl tq.b_range (aR (aG (bj (K:=K) rfl) (by rfl) tq.b_len bi (pyv 3)) ae)) (pyn 6 nd) (ai (cE PassesOwn.never rfl (cX rfl tq.b_range (aR (aG (bj (K:=K) rfl) (by rfl) tq.b_len bi (aB (wx K (wx K (pv 3) (pv 6)) aa) ae)) ae)) (pyn 7 nd) (ag (bV (wx K (wx K (wx K (pv 3) (pv 6)) aa) (pv 7)) (cj (K:=K) (n:=2) rfl rfl (aP (pyn 8 nd) (aP (pyn 9 nd) bY)))) (ai (aK (PW.pt (bT (aA (sX hu) (pv 9) (aw ae) (ax _)) (bT (aA dO (aG mn (by rfl) tq.b_abs mY (pyv 8)) (au kC aa aa) (ax _)) (bT (aA dO (aG (bj (K:=K) rfl) (by rfl) tq.b_len bi (pyv 1)) aa (ax _)) (cC (aA bc (pyk (br tq :) hr.m (pyw 0 (aj aa ae))) aa (ax _))))))) (ai (hW hu1 (pv 5) (aw (pyw 6 (pyv 7))) (pv 8) rfl)) aQ)))))) (ag (dB (i:=10) nd rfl (Or.inl rfl) (au ZpI (cY (t7 (K:=K) hr.gd hr.units) (by rfl) tq.b_str kw (dy (pyc ["frame"] [] [] (dS (K:=K) rfl (pv 3)) (fun _ _ _ _ _ _=>(cI (fq (K:=K) rfl) (pv 0) cM (cN aa)))) ae)) (Zpy hr.gd hr.units rfl (by rfl) tq.b_str (by rfl) tq.b_sorted (pv 5)))) (ag (aK (q9 (rB hu1 (pv 10) (pv 2))) (ai (hW hu1 (pv 2) (pv 10) (aw (aR (aG (bj (K:=K) rfl) (by rfl) tq.b_len bi (pyv 1)) (aR (pyk (ZiH tq :) hr.m (pyw 0 (pyw 1 (pyw 3 (pyv 5))))) ae))) rfl)) aQ) (ag (bV (ig hu1 (pv 2) (pv 10) (fun _ _=>rfl)) (cj (K:=K) (n:=2) rfl rfl (aP (pyn 11 nd) (aP (pyn 12 nd) bY)))) (ai (aq (aw (aR (cY (ff (K:=K) rfl) (by rfl) tq.b_tuple du (dy (fO (LN:=["i","j","c"]) (FN:=["frames"]) (fr:=[3]) rfl (cV (by rfl)) (dS (K:=K) rfl (pv 12)) (fun _ _ _ _ _ _=>(cj (K:=K) (n:=3) rfl rfl (aP (pyn 0 (show ((["i","j","c"]:List Str)++(["frames"]:List Str)).Nodup by decide +kernel)) (aP (pyn 1 (show ((["i","j","c"]:List Str)++(["frames"]:List Str)).Nodup by decide +kernel)) (aP (pyn 2 (show ((["i","j","c"]:List Str)++(["frames"]:List Str)).Nodup by decide +kernel)) bY))))) (fun _ _ _ _ _ _=>di) (fun _ _ _ _ _ _=>(pyk (mZ tq :) hr.m (aB (wx K (wx K (wx K (pv 3) (pv 0)) aa) (pv 1)) (bf (aw (pyw 2 (bf (aw ae) ae))) (wV (cg ce aa) ae)))))) ae)) (pyv 11)))))))))))
 refine dG (fun Γ' G'=>(∃ c4,Γ'=[some (.ptr b),some (.ptr la),some (.ptr kd),some (.lst (fs.map sfT)),c4,none,none,none,none,none,none,none,none])/\G'=G) ?_ ?_
 .refine iF (m7 (k1:=fun _ G'=>G'=G) ?_ fun bb G' e=>?_)
  .walk_at"wz";refine bA hb ⟨by decide,by decide⟩ fun v _ _=>?_;walk_at"wz";refine fF (fun _=>?_) fun _=>rfl;walk_at"wz";refine cS (sg_p hla) ?_;walk_at"wz";refine fF (fun _=>?_) fun _=>rfl;walk_at"wz";refine cS (sg_p hla) ?_;walk_at"wz";rfl
  .subst e;refine fF (fun _=>?_) fun _=>?_
   .walk_at"wz";refine ⟨la,kd,Q,n,B',f,s,lane,kvs,by rw[hfs],hla,hkd,pk,fo,cn,hch,hn,by lia,lk,?_,fun M k' lane' kvs' h0 h1 h2 h3=>?_⟩
    .walk_at"wz";exact⟨⟨_,rfl⟩,rfl⟩
    .walk_at"wz";refine av (q (aI M) k' M (f++[s]) lane' kvs' h1 h2 (by unfold aI;rw[af,eE]) (Zmi cn fun t ht g hg p hp=>⟨(((fo.all t ht).fm g hg).w p hp).1,h3 t ht g hg p hp⟩) fun g hg=>?_);unfold aI at hg;obtain ⟨j,hj,rfl⟩:=aT.mp hg;have hj:=gr.mp hj;refine ⟨ZnU _,cb _,fun p hp=>?_,fun p hp=>?_,by simp[ofW]⟩
     .rw[aM.mp hp];show (1:Int).natAbs<=_;lia
     .rw[aM.mp hp];exact⟨Int.natCast_nonneg j,by show (j:Int)<n;lia⟩
   .walk_at"wz";exact⟨⟨_,rfl⟩,rfl⟩
 rintro Γ' G' ⟨⟨c4,rfl⟩,rfl⟩;have L0:=LdSt.start hb hla hkd (.inr ⟨_,rfl⟩);refine cw (dC (tT fun nn nnn=>bt ?_));obtain⟨L1,_⟩:=L0.fresh nnn (c:=.dt []) (fun _=>nofun);refine dG (fun Γ' G2=>(Ex4 fun c6 c7 c8 c9=>Γ'=[some (.ptr b),some (.ptr la),some (.ptr kd),some (.lst (fs.map sfT)),c4,some (.ptr nn),c6,c7,c8,c9,none,none,none])/\∃ kn,An5 (LdSt G' G2 b l la kd [nn] lane (.dk kvs)) (G2 nn=some (.dt kn)) (KnG fs kn) (∃ m,Rs kn m) (∀ e∈kn,∃ i j c:Int,e=([.inl i,.inl j],.int c)/\c.natAbs<10^9/\InFr fs i j/\KnI fs i j c)) ?_ ?_
 .walk_at"wz";refine ⟨fs.length,by rw[af],by lia,by lia,?_⟩;refine ⟨fun i Γ' G2=>(Ex4 fun c6 c7 c8 c9=>Γ'=[some (.ptr b),some (.ptr la),some (.ptr kd),some (.lst (fs.map sfT)),c4,some (.ptr nn),c6,c7,c8,c9,none,none,none])/\∃ kn,LdSt G' G2 b l la kd [nn] lane (.dk kvs)/\G2 nn=some (.dt kn)/\kn.length<=8 * i/\Rs kn (1000 * i)/\∀ e∈kn,∃ i j c:Int,e=([.inl i,.inl j],.int c)/\c.natAbs < 10 ^ 9/\InFr fs i j/\KnI fs i j c,⟨⟨_,_,_,_,rfl⟩,[],L1,gp_s,cb _,Rs.nil,fun e he=>by cases he⟩,fun _ _ _ _=>trivial,?_,?_⟩
  .rintro i x Γ' G2 hx ⟨⟨c6,c7,c8,c9,rfl⟩,kn,L,hk,hl8,hrs,hin⟩;rw[bB] at hx;obtain ⟨rfl,hi⟩:=fY hx;have es:fs[i]?=some fs[i]:=ay hi;generalize fs[i]=si at es;have hb8:=bx si (aD es);have hat:atI (fs.map sfT) (i:Int)=some (sfT si):=cD (n:=i) rfl (by rw[ah,es];rfl);walk_at"wz";refine aU hat ?_;walk_at"wz";refine ⟨si.2.2.length,by rw[af],by lia,by lia,?_⟩;refine ⟨fun j Γ' G2=>(Ex3 fun c7 c8 c9=>Γ'=[some (.ptr b),some (.ptr la),some (.ptr kd),some (.lst (fs.map sfT)),c4,some (.ptr nn),some (.int (i:Int)),c7,c8,c9,none,none,none])/\∃ kn,LdSt G' G2 b l la kd [nn] lane (.dk kvs)/\G2 nn=some (.dt kn)/\kn.length<=8 * i+j/\Rs kn (1000 * i+j)/\∀ e∈kn,∃ i j c:Int,e=([.inl i,.inl j],.int c)/\c.natAbs < 10 ^ 9/\InFr fs i j/\KnI fs i j c,⟨⟨_,_,_,rfl⟩,kn,L,hk,hl8,hrs.mono (by lia),hin⟩,fun _ _ _ _=>trivial,?_,?_⟩
   .rintro j x Γ' G2 hx ⟨⟨c7,c8,c9,rfl⟩,kn,L,hk,hl8,hrs,hin⟩;rw[bB] at hx;obtain ⟨rfl,hj⟩:=fY hx;have eg:si.2.2[j]?=some si.2.2[j]:=ay hj;generalize si.2.2[j]=g at eg;walk_at"wz";refine aU hat ?_;walk_at"wz";refine eA (cD (n:=j) rfl (by rw[ah,eg];rfl)) ?_;refine cf rfl (dR (bt (dR (bt (iT ?_)))));refine iF (m7 (k1:=fun bb G3=>G3=G2/\(bb=true->g.1.natAbs < 10 ^ 9/\g.2=[])) ?_ fun bb G3 e=>?_)
    .walk_at"wz";refine pB ?_;walk_at"wz";refine fF (fun hq0=>?_) fun _=>⟨rfl,nofun⟩;have hq0:g.2=[]:=lA hq0;walk_at"wz";refine pO ?_;walk_at"wz";refine l_IC cpow9 ?_;rw[pow9];obtain⟨M9,hM9⟩:∃ M:Int,M=((10^9:Nat):Int):=⟨_,rfl⟩;rw[<-hM9];walk_at"wz";refine dF (fun h9=>?_) fun _=>⟨rfl,nofun⟩;walk_at"wz";refine cS (sg_p L.ln) ?_;walk_at"wz";refine fF (fun _=>?_) fun _=>⟨rfl,nofun⟩;walk_at"wz";refine bA L.bag ⟨by decide,by decide⟩ fun v _ _=>?_;walk_at"wz";exact⟨rfl,fun _=>⟨by lia,hq0⟩⟩
    .obtain ⟨rfl,e9⟩:=e;refine fF (fun ht=>?_) fun _=>?_
     .obtain ⟨e9,e10⟩:=e9 ht;have kni:KnI fs (i:Int) (j:Int) g.1:=⟨si,by rw[bB];exact es,by rw[bB,eg];exact congrArg some (Prod.ext rfl e10)⟩;refine qO ?_;walk_at"wz";refine ⟨nn,kn,[.inl (i:Int),.inl (j:Int)],rfl,hk,rfl,by lia,?_⟩;dsimp only;obtain ⟨pe,pr⟩:=hrs.put (v:=.int g.1);rw[pe];refine ck ⟨⟨_,_,_,rfl⟩,_,L.put aO (fun _=>nofun),gp_s,by rw[aH];simp;lia,by simpa using pr,fun e he=>?_⟩;rcases aS.mp he with he|he
      .exact hin e he
      .rw[aM.mp he];exact⟨i,j,g.1,rfl,e9,⟨by lia,by lia,si,by simpa using es,by lia⟩,kni⟩
     .walk_at"wz";dsimp only;exact ck ⟨⟨_,_,_,rfl⟩,kn,L,hk,by lia,hrs.mono (by lia),hin⟩
   .rintro Γ' G2 ⟨⟨c7,c8,c9,rfl⟩,kn,L,hk,hl8,hrs,hin⟩;rw[bB,g7] at hl8 hrs;dsimp only;exact ck ⟨⟨_,_,_,_,rfl⟩,kn,L,hk,by lia,hrs.mono (by lia),hin⟩
  .rintro Γ' G2 ⟨⟨c6,c7,c8,c9,rfl⟩,kn,L,hk,hl8,hrs,hin⟩;rw[bB,g7] at hl8;exact⟨⟨_,_,_,_,rfl⟩,kn,L,hk,⟨by lia,fun e he=>let ⟨i,j,c,a1,a2,a3,_⟩:=hin e he;⟨i,j,c,a1,a2,a3⟩⟩,⟨_,hrs⟩,hin⟩
 rintro Γ' G2 ⟨⟨c6,c7,c8,c9,rfl⟩,kn,L,hk,kg,⟨mm,hrs⟩,kgi⟩;have f1:∀ t∈fs,t.1.natAbs<1000/\t.2.1.natAbs<1000:=fun t ht=>by
  obtain⟨d,r,hd,a2,_,a4,a1,a3,a5⟩:=dZ (sok t ht);have b1:=(aX.mp a2).1;have b2:=(aX.mp a4).1;have b3:=pk.ok.2.1;have b4:=(pk.ok.2.2 d hd).n;lia
 walk_at"wz";refine cu (fun Γ'=>∃ a,Γ'=[a]) ?_;walk_at"wz";refine⟨_,si_l,by rw[af];lia,si_l,⟨none,rfl⟩,(plcs fs).map plT,by rw[af,af,af],?_,?_⟩
 .rintro i x y Γ' hx hy ⟨a,rfl⟩;rw[ah] at hx;obtain⟨t,et,rfl⟩:=aV.mp hx;rw[ah,ah,et] at hy;cases hy;walk_at"wz";refine⟨⟨_,rfl⟩,rfl,?_⟩;walk_at"wz";refine fi ?_;rw[iG (by decide) (by simp)];exact⟨rfl,rfl⟩
 have pl1:∀ p∈plcs fs,PlT 1 (plT p)/\lnT (plT p)<=300:=fun p hp=>by
  obtain⟨t,ht,rfl⟩:=aT.mp hp;obtain⟨h1,h2⟩:=f1 t ht;exact⟨pq (iP (dM h1 (by decide))) (iP (dM h2 (by decide))),by simp[lnT,lnTs]⟩
 have pl2:PlT 2 (.lst ((plcs fs).map plT)):=.inr ⟨_,.inr rfl,fun u hu=>by obtain⟨p,hp,rfl⟩:=aT.mp hu;exact(pl1 p hp).1⟩;have pl3:lnT (.lst ((plcs fs).map plT))<=2000:=by
  have:lnTs ((plcs fs).map plT)<=((plcs fs).map plT).length*(300+2):=jk fun x hx=>by
   obtain⟨p,hp,rfl⟩:=aT.mp hx;exact(pl1 p hp).2
  rw[af,af] at this;simp only[lnT];lia
 refine gE (tY pl2 ⟨_,.inr rfl⟩ (by decide) (by lia) ?_);walk_at"wz";obtain⟨ps,eps,hps⟩:=un_kv (f:=fun p:I3=>(([.inl p.1.1,.inl p.1.2]:List Key),T.int p.2)) (S:=fun p=>(BdI p/\p.1.1.natAbs<1000)/\BdI p/\0<=p.1.2/\p.1.2<1000) kn fun e he=>by
  obtain⟨i,j,c,rfl,h1,h2,h3,s',h4,h5⟩:=kg.ok e he;have b1:=(aX.mp h4).1;have b2:=bx s' (aD h4);have bd:BdI ((i,j),c):=⟨by show (2*j.natAbs:Int)<2001;lia,by show (2*c.natAbs:Int)<_;lia⟩;exact⟨((i,j),c),rfl,⟨bd,by show i.natAbs<1000;lia⟩,bd,h3,by show j<1000;lia⟩
 have psl:ps.length<64:=by have:=kg.len;rw[eps,af] at this;exact this
 refine⟨nn,ps,rfl,by rw[<-eps];exact hk,psl,fun p hp=>(hps p hp).1,(by rw[eps] at hrs;exact hrs.cd fun p hp=>(hps p hp).2),?_⟩;obtain⟨ip,hz⟩:=its_ok (its:=ps) psl fun p hp=>(hps p hp).1;have kni:∀ (i j:Nat) c s g,(((i:Int),(j:Int)),c)∈ps->fs[i]?=some s->s.2.2[j]?=some g->g=(c,[]):=fun i j c s g hm e1 e2=>by
  obtain⟨i',j',c',ee,_,_,s',h1,h2⟩:=kgi _ (by rw[eps];exact aT.mpr ⟨_,hm,rfl⟩);injection ee with k1 k2
  injection k1 with k1 k3
  injection k3 with k3 _
  injection k1 with k1
  injection k3 with k3
  injection k2 with k2
  subst k1 k3 k2;rw[bB] at h1 h2;rw[e1] at h1;cases h1;rw[e2] at h2;cases h2;rfl
 generalize hzz:shT (.lst (ps.map itT))=z at hz;refine ZpY (by have:=uY 2 pl2;rw[PySem.sizeLine_eq];lia) ?_;refine bt ?_;have hkey2:shT (.lst ((plcs fs).map plT))++z=plS (plcs fs)++shT (.lst (ps.map itT)):=by rw[hzz];rfl
 generalize hK:shT (.lst ((plcs fs).map plT))++z=key at hkey2;refine dG (fun Γ' G3=>(∃ c,Γ'=[some (.ptr b),some (.ptr la),some (.ptr kd),some (.lst (fs.map sfT)),c4,some (.ptr nn),c6,c7,c8,c9,some (.str key),c,c])/\Ex6 fun(lane':List StL) (kvs':List (Key×T)) (k':Nat) (n':Nat) (lay:List L3i) (fr:List SF)=>An7 (LdSt G' G3 b l la kd [nn] lane' (.dk kvs')) (LnR Q lane lane' kvs') (getA kvs' (.inr key:Key)=some (.tup [.int k',.lst (lay.map lyT)])) ((pnL lane')[k']?=some (n',fr)) (lay.length=n') (LayOk fs lay) (fr.map (bE (mvF fs lay))=fs)) ?_ ?_
 .walk_at"wz";refine ⟨_,⟨kd,rfl,.inr ⟨kvs,key,L.kn,rfl,rfl⟩⟩,?_⟩;walk_at"wz";cases hg:getA kvs (.inr key:Key) with
  | some t =>
   refine iteF ?_;walk_at"wz";obtain⟨k',lay,n2,fr2,rfl,e2,e3⟩:=lk.at hg;rcases e3 with ⟨_,a⟩|⟨l2,its2,kb⟩
   .exact (Zp2 a hkey2 (jj pl2 (by decide))).elim
   .obtain ⟨ep,ei⟩:=key_bb (Q':=Q) (n':=0) (fr':=[]) (lay':=[]) kb hkey2 (jj pl2 (by decide)) (jj ip (by decide));subst ei;obtain⟨n3,B3,ok3⟩:=kb.ok;refine⟨⟨none,rfl⟩,lane,kvs,k',n2,lay,fr2,L,⟨lk,[],by simp,by simp,fun d hd=>nomatch hd⟩,hg,e2,kb.n.symm,⟨kb.ly.len,fun x hx=>⟨ZpN ok3 sok ep (kb.ly.ok x hx).1,(kb.ly.ok x hx).2⟩⟩,ud kb.ld ep.symm (sP ok3 sok ep) kni cnf⟩
  | none =>
   refine iteT ?_;refine v7 ?_;walk_at"wz";refine cS (sg_p L.ln) ?_;rw[af];walk_at"wz";refine⟨b,l,la,nn,Q,n,B',f,s,lane,kn,by rw[hfs],L.bag,L.ln,hk,pk,fo,by lia,by rw[hfs];exact kg,fun lay d c h1 h2 hd hn4 hlk h3=>?_⟩;rw[hfs] at h1 hlk;have ld:=hlk.laid eps (List.Perm.refl _);have L4:=(L.app (lane++[d])).put (a:=nn) aO h3;walk_at"wz";refine⟨kd,kvs,key,rfl,L4.kn,rfl,by have:=lk.kl;lia,?_⟩;have ln:=lk.snoc h2 (by rw[hd];exact .tup (by simp) fun u hu=>by rw[aM.mp hu];exact .str) (by rw[show plcF d.fr=plcF fs from ld.pl,<- hfs];exact hch) hg (.inr ⟨fs,ps,hkey2,jj pl2 (by decide),jj ip (by decide),ld,hn4,⟨n,B',sok⟩,h1⟩);refine⟨⟨none,rfl⟩,lane++[d],_,lane.length,d.n,lay,d.fr,L4.kput _,⟨ln,[d],rfl,by simp,fun d' hd'=>by rw[aM.mp hd'];exact hd⟩,by rw[kJ,ak rfl],?_,hn4.symm,h1,ud ld rfl (sP sok sok rfl) kni cnf⟩;have lp:pnL (lane++[d])=pnL lane++[(d.n,d.fr)]:=aW;have ll:(pnL lane).length=lane.length:=af _;rw[lp,<- ll];exact cq
 rintro Γ' G3 ⟨⟨c,rfl⟩,lane',kvs',k',n',lay,fr,L3,lg,hg,hk',hnl,hlay,hfill⟩;have hl4:lay.length<=40/\∀ x∈lay,InFr fs x.1 x.2.1/\x.2.2.natAbs<=2:=by
  exact⟨hlay.len,hlay.ok⟩
 walk_at"wz";refine⟨_,⟨kd,rfl,.inr ⟨kvs',key,L3.kn,rfl,hg.symm⟩⟩,?_⟩;walk_at"wz";refine cu (fun Γ'=>Ex3 fun a1 a2 a3=>Γ'=[a1,a2,a3,some (.lst (fs.map sfT))]) ?_;walk_at"wz";refine⟨_,si_l,by rw[af];lia,si_l,⟨none,none,none,rfl⟩,(lay.map fun x=>bU (gAt fs x) (x.2.2,[]) (-1)).map fmT,by rw[af,af,af],?_,?_⟩
 .rintro u x y Γ' hx hy ⟨a1,a2,a3,rfl⟩;rw[ah] at hx;obtain⟨v,ev,rfl⟩:=aV.mp hx;rw[ah,ah,ev] at hy;cases hy;obtain⟨hin,hc⟩:=hl4.2 v (aD ev);obtain⟨s',e1,e2⟩:=tR hin;have hf:=(sok s' (aD e1)).fm _ (aD e2);refine cf rfl ?_;walk_at"wz";refine⟨⟨_,_,_,rfl⟩,rfl,?_⟩;walk_at"wz";refine aU (at_i hin.1 (by rw[ah,e1];rfl)) ?_;walk_at"wz";refine eA (at_i hin.2.1 (by rw[ah,e2];rfl)) ?_;walk_at"wz";exact⟨n,_,(v.2.2,[]),-1,rfl,fo9 hf hn hB,⟨Fo.nil (bh hc (by decide +kernel)),hn⟩,by decide +kernel,rfl,rfl⟩
 refine gE (eZ sg_l (fun _=>nofun) ?_);walk_at"wz";refine L3.fin (av (q (mvF fs lay) k' n' fr lane' kvs' lg hk' (by unfold mvF;rw[af];exact hnl) (by rw[hfs];exact hfill) fun g hg=>?_));unfold mvF at hg;obtain⟨x,hx,rfl⟩:=aT.mp hg;obtain⟨hin,hc⟩:=hl4.2 x hx;obtain⟨s',e1,e2⟩:=tR hin;have hf:=(sok s' (aD e1)).fm _ (aD e2);exact⟨ie _ _ _,(mS (m:=-1) hf (Fo.nil (c:=x.2.2) hc)).le (aE _) (show B'+1*2<=B'+2 by lia)⟩
def qH:Pre:=fun ts G k=>∃ (b l la kd:Addr) (Q:List Df) (n least:Nat) (own:List Fm) (f:List SF) (s:SF) (rows:Nat) (lane:List StL) (kvs:List (Key×T)),ts=[.ptr b,pgT Q,.ptr la,.ptr kd,.lst ((f++[s]).map sfT),.int rows]/\G b=some (.bag l)/\G la=some (.lst (lane.map stT))/\G kd=some (.dk kvs)/\PgK Q/\FrsOk Q n (10^600) f s/\bO (f++[s])/\Chn Q (plcF (f++[s]))/\n<64/\rows<=40/\lane.length<=890/\LnS Q lane kvs/\own.length=n/\(∀ g∈own,PsW g)/\Sta own (f++[s])/\(least=0\/least=1/\1<=rows/\(bZ Q (f++[s])).isSome=true)/\∀ (ed:T) (lane':List StL) (kvs':List (Key×T)),LnR Q lane lane' kvs'->EdS Q (pnL lane') own least (f++[s]) ed->PlD 5 ed->k ed (gput (gput G la (.lst (lane'.map stT))) kd (.dk kvs'))
theorem sc__law_edge:FnScope ["bag","program","lane","keys","frames","rows","gone","moves","k"] ["bag","program","lane","keys","frames","rows"] (aC n6):=by ac_nf
theorem jn(tq:Tq P w K mg base):Callee P w K mg base "_law_edge" 4 ["bag","program","lane","keys","frames","rows"] (spG P w K qH):=by
 refine tq.e9.okG sc__law_edge (by walk_at"lnx") fun f cdv A outer s H E ts G k hr hh=>?_;have nd:=sc__law_edge.nd;obtain⟨b,l,la,kd,Q,n,least,own,f,s,rows,lane,kvs,rfl,hb,hla,hkd,pk,fo,cn,hch,hn,hr40,hlen,lk,hol,hop,hst,hle,q⟩:=hh;refine' go_G [some (.ptr b),some (pgT Q),some (.ptr la),some (.ptr kd),some (.lst ((f++[s]).map sfT)),some (.int rows),none,none,none] rfl ?hb ?hg
 case hb=>exact(ag (cO (i:=6) nd rfl (Or.inl rfl) aa) (ag (uS PassesOwn.never (PW.pt (bT (aA dO (pv 6) (pv 5) (ax _)) (cC (aA kt (pyk (qf tq :) hr.m (pyw 1 (pyv 4))) cU (ax _))))) (ag (bI (i:=4) nd rfl (Or.inl rfl) (pyk (qf tq :) hr.m (pyw 1 (pyv 4)))) (ai (dB (i:=6) nd rfl (Or.inl rfl) (au bD (pv 6) aa))))) (ag (bV (pyk (tF tq :) hr.m (pyw 0 (pyw 2 (pyw 3 (pyv 4))))) (cj (K:=K) (n:=2) rfl rfl (aP (pyn 7 nd) (aP (pyn 8 nd) bY)))) (ai (aq (aw (pyw 6 (pyw 7 (pyv 8)))))))))
 refine cw (dC (mz (bt ?_)));refine dG (fun Γ' G'=>(∃ (f2:List SF) (s2:SF) (g:Nat),FrsOk Q n (100^g*10^600) f2 s2/\bO (f2++[s2])/\g<=rows/\cB Q g (f++[s])=some (f2++[s2])/\Sta own (f2++[s2])/\(g<rows->bZ Q (f2++[s2])=none)/\Γ'=[some (.ptr b),some (pgT Q),some (.ptr la),some (.ptr kd),some (.lst ((f2++[s2]).map sfT)),some (.int rows),some (.int (g:Int)),none,none])/\G'=G) ?_ ?_
 .refine wD (fun m Γ' G'=>(∃ (f2:List SF) (s2:SF) (g:Nat),FrsOk Q n (100 ^ g * 10 ^ 600) f2 s2/\bO (f2++[s2])/\g+m=rows/\cB Q g (f++[s])=some (f2++[s2])/\Sta own (f2++[s2])/\Γ'=[some (.ptr b),some (pgT Q),some (.ptr la),some (.ptr kd),some (.lst ((f2++[s2]).map sfT)),some (.int rows),some (.int (g:Int)),none,none])/\G'=G) rows ⟨⟨f,s,0,by rw[Nat.pow_zero,lB];exact fo,cn,by lia,rfl,hst,rfl⟩,rfl⟩ ?_;rintro m Γ' G' ⟨⟨f2,s2,g,fo2,cn2,hg,hgo,hs2,rfl⟩,rfl⟩;have big:100 ^ g * 10 ^ 600<=10 ^ 800:=by
   have:100^g<=100^40:=iB (by decide) (by lia);exact bh (fT _ this) (by decide +kernel)
  have big0:10^60<=100^g*10^600:=bh (show 10^60<=1*10^600 by decide +kernel) (fT _ (Nat.one_le_pow _ _ (by decide)));ext;refine dF (fun h1=>?_) fun h1=>⟨⟨f2,s2,g,fo2,cn2,by lia,hgo,hs2,fun _=>by lia,rfl⟩,rfl⟩;ext;refine⟨Q,f2,s2,n,_,_,rfl,si_l,pk,fo2,cn2,hn,big,?_⟩;cases hs:bZ Q (f2++[s2]) with
  | none =>
   ext;exact⟨⟨f2,s2,g,fo2,cn2,by lia,hgo,hs2,fun _=>hs,rfl⟩,rfl⟩
  | some l2 =>
   ext;obtain⟨f3,s3,rfl,fo3⟩:=t5 pk big0 fo2 (by rw[<-iR];exact hs);have cn3:=Zh5 cn2 hs;refine⟨Q,f2,s2,n,_,_,rfl,si_l,pk,fo2,cn2,hn,big,?_⟩;rw[hs];ext;dsimp only;refine ck ⟨m-1,by lia,⟨f3,s3,g+1,by rw[Nat.pow_succ,Nat.mul_comm (100^g),Nat.mul_assoc];exact fo3,cn3,by lia,qz hgo hs,ZjO hs2 (by rw[<-iR];exact hs),rfl⟩,rfl⟩
 rintro Γ' G' ⟨⟨f2,s2,g,fo2,cn2,hg,hgo,hs2,hend,rfl⟩,rfl⟩;have big:100^g*10^600<=10^800:=by
  have:100^g<=100^40:=iB (by decide) (by lia);exact bh (fT _ this) (by decide +kernel)
 ext;refine⟨b,l,la,kd,Q,n,_,f2,s2,lane,kvs,rfl,hb,hla,hkd,pk,fo2,cn2,vZ hch hgo,hn,big,hlen,lk,fun moves k' n' fr lane' kvs' h1 h2 h3 h4 h5=>?_⟩;refine cf rfl ?_;ext;have bg:100^g*10^600+2<=10^800:=by
  have:100^g<=100^40:=iB (by decide) (by lia);exact bh (Nat.add_le_add_right (fT _ this) 2) (by decide +kernel)
 have st2:(f2++[s2]).map (bE own)=f2++[s2]:=pS hs2 cn2 (fun t ht g hg p hp=>(((fo2.all t ht).fm g hg).w p hp).1) hop;refine av (q _ lane' kvs' h1 ⟨g,moves,k',n',fr,rfl,?_,by lia,h2,h3,fun g hg=>⟨(h5 g hg).1,by rw[hol];exact(h5 g hg).2.le (aE _) bg⟩,?_⟩ (.tup (by simp) fun u hu=>?_))
 .rcases hle with rfl|⟨rfl,h6,h7⟩
  .exact cb _
  .cases g with
   | succ g=>lia
   | zero =>
    have:=hend (by lia);have hgo:some (f++[s])=some (f2++[s2]):=hgo;injection hgo with hgo
    rw[hgo,this] at h7;cases h7
 .rw[Zmk hop,h4,st2,hgo]
 simp only[aJ,bX,cG] at hu;rcases hu with rfl|rfl|rfl
 .exact .int
 .have lm:n'<=40:=by
   rw[ah] at h2;obtain⟨d',ed',e2⟩:=aV.mp h2;have:=(h1.1.st d' (aD ed')).1.nb;have e3:d'.n=n':=congrArg Prod.fst e2;lia
  refine uJ (by lia) fun g hg=>?_;have:=lI (h5 g hg).2;lia
 .exact .int
def Zpv:Pre:=fun ts G k=>∃ (b l la kd:Addr) (Q:List Df) (d:StL) (lane:List StL) (kvs:List (Key×T)),ts=[.ptr b,pgT Q,.ptr la,.ptr kd,stT d]/\G b=some (.bag l)/\G la=some (.lst (lane.map stT))/\G kd=some (.dk kvs)/\PgK Q/\PpK Q d.n d.fr/\Chn Q (plcF d.fr)/\lane.length<=800/\LnS Q lane kvs/\∀ (dd:T) (lane':List StL) (kvs':List (Key×T)) (ex:List StL),PlD 6 dd->LnS Q lane' kvs'->lane'=lane++ex->ex.length<=2->(22<lane.length->ex=[])->(∀ d∈ex,d.dd=.tup [.str "leave"])->(∀ f s,d.fr=f++[s]->DdS Q (pnL lane') d.n f s dd)->k dd (gput (gput G la (.lst (lane'.map stT))) kd (.dk kvs'))
theorem mj{Q:List Df}{n B:Nat}{f:List SF}{s:SF}(h:FrsOk Q n B f s){t:Int}(ht:0<=t)(hr:∀ d,Q[s.1.toNat]?=some d->t.toNat<d.rows.length):FrsOk Q n B f (s.1,t,s.2.2):=⟨h.few,fun u hu=>by
 rcases aS.mp hu with hu|hu
 .exact h.all u (dJ _ hu)
 .rw[aM.mp hu];exact nX (h.all s (by simp)) ht hr,h.call⟩
theorem jq{Q:List Df}{n m B C:Nat}{f:List SF}{s:SF}(h:FrsOk Q n B f s)(h1:n<=m)(h2:B<=C):FrsOk Q m C f s:=⟨h.few,fun t ht=>(h.all t ht).le h1 h2,h.call⟩
theorem vA{N m B D:Nat}{f:Fm}{fl:List Fm}(hf:Fo N B f)(hN:N<=fl.length)(hl:fl.length<64)(hg:∀ g∈fl,Fo m D g):Fo m (B+63*(B*D)) (bG f fl):=by
 have h1:=qA (B:=B) hg f.2 (f.1,[]) B (fun p hp=>⟨hf.a p hp,(hf.w p hp).1,by have:=(hf.w p hp).2;lia⟩) (Fo.nil hf.c);rw[<-sN];have:=lI hf;exact h1.le (aE _) (nr (fT _ (by lia)) _)
theorem tI{Q:List Df}{N m B D:Nat}{f:List SF}{s:SF}{fl:List Fm}(h:FrsOk Q N B f s)(hN:N<=fl.length)(hl:fl.length<64)(hg:∀ g∈fl,Fo m D g):FrsOk Q m (B+63*(B*D)) (f.map (bE fl)) (bE fl s):=by
 have one:∀ t∈f++[s],SfOk Q m (B+63*(B*D)) (bE fl t):=fun t ht=>by
  obtain⟨d,r,a1,a2,a3,a4,a5⟩:=(h.all t ht).ex;refine⟨⟨d,r,a1,a2,a3,a4,by show (((t.2.2.map fun f=>bG f fl)).length:Int)=_;rw[af];exact a5⟩,fun g hq=>?_⟩;obtain⟨g',hg',rfl⟩:=aT.mp hq;exact vA ((h.all t ht).fm g' hg') hN hl hg
 refine⟨by rw[af];exact h.few,fun t ht=>?_,fun t ht=>?_⟩
 .rcases aS.mp ht with ht|ht
  .obtain ⟨u,hu,rfl⟩:=aT.mp ht;exact one u (dJ _ hu)
  .rw[aM.mp ht];exact one s (by simp)
 .obtain ⟨u,hu,rfl⟩:=aT.mp ht;exact h.call u hu
theorem Zml{l:List SF}{fl:List Fm}:bO (l.map (bE fl)):=fun t ht g hg=>by
 obtain⟨u,_,rfl⟩:=aT.mp ht;obtain⟨g',_,rfl⟩:=aT.mp hg;exact js _ _
theorem cdiv7{i:Int}:jx i 7:=kU (by decide) (by decide)
theorem cdiv3{i:Int}:jx i 3:=kU (by decide) (by decide)
theorem cdiv2{i:Int}:jx i 2:=kU (by decide) (by decide)
theorem gp4{G:GH}{la kd:Addr}{a b c d:Ct}(h:la≠kd):gput (gput (gput (gput G la a) kd b) la c) kd d=gput (gput G la c) kd d:=by
 funext x
 by_cases h1:x=kd
 .rw[h1,gp_s,gp_s]
 .rw[gp_n h1,gp_n h1];by_cases h2:x=la
  .rw[h2,gp_s,gp_s]
  .rw[gp_n h2,gp_n h2,gp_n h1,gp_n h2]
theorem sc__law_deed:FnScope ["bag","program","lane","keys","stand","many","paper","deed","f","at","forms","row","kind","more","still","some","w","edge","yes"] ["bag","program","lane","keys","stand"] (aC pD):=by ac_nf
theorem ZiI(tq:Tq P w K mg base):Callee P w K mg base "_law_deed" 5 ["bag","program","lane","keys","stand"] (spG P w K Zpv):=by
 refine tq.f0.okG sc__law_deed (by walk_at"lnx") fun f cdv A outer s H E ts G k hr hh=>?_;have nd:=sc__law_deed.nd;obtain⟨b,l,la,kd,Q,⟨n,fr,dd⟩,lane,kvs,rfl,hb,hla,hkd,pk,pp,hch,hlen,lk,q⟩:=hh;obtain⟨n40,⟨f,s,efr,fo⟩,cn⟩:=pp;dsimp only at n40 efr fo cn hch;subst efr;have qd:∀ (dd:T) (lane':List StL) (kvs':List (Key×T)) (ex:List StL),PlD 6 dd->LnS Q lane' kvs'->lane'=lane++ex->ex.length<=2->(22<lane.length->ex=[])->(∀ d∈ex,d.dd=.tup [.str "leave"])->DdS Q (pnL lane') n f s dd->k dd (gput (gput G la (.lst (lane'.map stT))) kd (.dk kvs')):=fun dd lane' kvs' ex h1 h2 h3 h4 h5 h6 h7=>q dd lane' kvs' ex h1 h2 h3 h4 h5 h6 fun f' s' e=>by
  obtain⟨e1,e2⟩:=append_inj' e rfl;cases e1;cases e2;exact h7
 have hs:=fo.all s (by simp);obtain⟨df,r,hd,a2,rAt,a4,a1,a3,a5⟩:=dZ hs;refine' go_G [some (.ptr b),some (pgT Q),some (.ptr la),some (.ptr kd),some (.tup [.int n,.lst ((f++[s]).map sfT),dd]),none,none,none,none,none,none,none,none,none,none,none,none,none,none] rfl ?hb ?hg
 case' hb=>refine' ag ?bab ?bac
 case' bab=>refine' bV ?bad ?bae
 case bad=>exact(pv 4)
 case' bae=>refine' cj (K:=K) (n:=3) ?baf ?bag ?bah
 case baf=>exact rfl
 case bag=>exact rfl
 case' bah=>refine' aP ?bai ?baj
 case bai=>exact(pyn 5 nd)
 case baj=>exact(aP (pyn 6 nd) (aP (pyn 7 nd) bY))
 case' bac=>refine' ag ?bak ?bal
 case' bak=>refine' bV ?bam ?ban
 case bam=>exact(wx K (pv 6) (cg ce aa))
 case' ban=>refine' cj (K:=K) (n:=3) ?bao ?bap ?baq
 case bao=>exact rfl
 case bap=>exact rfl
 case' baq=>refine' aP ?bar ?bas
 case bar=>exact(pyn 8 nd)
 case bas=>exact(aP (pyn 9 nd) (aP (pyn 10 nd) bY))
 case' bal=>refine' ag ?bat ?bau
 case' bat=>refine' cL (i:=11) ?bav ?baw ?bax ?bay
 case bav=>exact nd
 case baw=>exact rfl
 case bax=>exact(Or.inl rfl)
 case' bay=>refine' hV ?baz ?bba ?bbb ?bbc
 case baz=>exact(k_ix (K:=K) rfl)
 case bba=>exact(wx K (wx K (pv 1) (pv 8)) aa)
 case bbb=>exact(pv 9)
 case bbc=>exact(fun _ _=>rfl)
 case' bau=>refine' ag ?bbd ?bbe
 case bbd=>exact(bI (i:=12) nd rfl (Or.inl rfl) (pyk (br tq :) hr.m (pyw 0 (aj aa ae))))
 case' bbe=>refine' ag ?bbf ?bbg
 case' bbf=>refine' cL (i:=13) ?bbh ?bbi ?bbj ?bbk
 case bbh=>exact nd
 case bbi=>exact rfl
 case bbj=>exact(Or.inl rfl)
 case' bbk=>refine' hV ?bbl ?bbm ?bbn ?bbo
 case bbl=>exact(k_ix (K:=K) rfl)
 case' bbm=>refine' bz ?bbp
 case' bbp=>refine' aR ?bbq ?bbr
 case bbq=>exact(pyk (br tq :) hr.m (pyw 0 (aj aa ae)))
 case bbr=>exact(aR (pyk (br tq :) hr.m (pyw 0 (aj aa ae))) ae)
 case bbn=>exact(au kM (pyk (br tq :) hr.m (pyw 0 (aj aa ae))) aa)
 case bbo=>exact(fun _ _=>rfl)
 case' bbg=>refine' ag ?bbs ?bbt
 case' bbs=>refine' cO (i:=14) ?bbu ?bbv ?bbw ?bbx
 case bbu=>exact nd
 case bbv=>exact rfl
 case bbw=>exact(Or.inl rfl)
 case bbx=>exact(dP mN (pyk (qf tq :) hr.m (pyw 1 (pyv 6))) cU (ax _))
 case' bbt=>refine' ag ?bby ?bbz
 case' bby=>refine' aK ?bca ?bcb ?bcc
 case' bca=>refine' PW.pt ?bcd
 case' bcd=>refine' fe ?bce ?bcf
 case bce=>exact(aA bc (pv 12) aa (ax _))
 case' bcf=>refine' fe ?bcg ?bch
 case bcg=>exact(aA gn (aG (bj (K:=K) rfl) (by rfl) tq.b_len bi (pyv 2)) aa (ax _))
 case' bch=>refine' gh ?bci
 case' bci=>refine' PW.pt ?bcj
 case' bcj=>refine' bT ?bck ?bcl
 case bck=>exact(cy (pv 14))
 case' bcl=>refine' cC ?bcm
 case' bcm=>refine' aA ?bcn ?bco ?bcp ?bcq
 case bcn=>exact(k_in (K:=K) rfl)
 case bco=>exact(wx K (pv 11) aa)
 case bcp=>exact(bz (aj aF (aj aF ae)))
 case bcq=>exact(by with_unfolding_all rfl)
 case bcb=>exact(ai (aq (aw (aj aF ae))))
 case bcc=>exact aQ
 case' bbz=>refine' ag ?bcr ?bcs
 case' bcr=>refine' aK ?bct ?bcu ?bcv
 case bct=>exact(PW.pt (bT (aA bc (pv 12) aa (ax _)) (bT (aA gn (pv 5) aa (ax _)) (cC (dj (cy (pv 14)))))))
 case' bcu=>refine' ag ?bcw ?bcx
 case bcw=>exact(bI (i:=15) nd rfl (Or.inl rfl) (pyk (oq tq :) hr.m (pyv 5)))
 case' bcx=>refine' ag ?bcy ?bcz
 case bcy=>exact(bI (i:=16) nd rfl (Or.inl rfl) (pyk (br tq :) hr.m (pyw 0 (pyv 5))))
 case' bcz=>refine' ag ?bda ?bdb
 case' bda=>refine' bV ?bdc ?bdd
 case' bdc=>refine' aw ?bde
 case' bde=>refine' aB ?bdf ?bdg
 case' bdf=>refine' hV ?bdh ?bdi ?bdj ?bdk
 case bdh=>exact(k_ix (K:=K) rfl)
 case' bdi=>refine' bz ?bdl
 case' bdl=>refine' bM ?bdm ?bdn
 case bdm=>exact(au dQ (pyk (br tq :) hr.m (pyw 0 (aj aa ae))) aa)
 case bdn=>exact(aR (pyk (tj tq :) hr.m (pyv 0)) ae)
 case bdj=>exact(au kM (pyk (br tq :) hr.m (pyw 0 (aj aa ae))) aa)
 case bdk=>exact(fun _ _=>rfl)
 case bdg=>exact(bf (aw ae) ae)
 case bdd=>exact(cH (pv 15) (pv 16) cK)
 case' bdb=>refine' ag ?bdo ?bdp
 case' bdo=>refine' bI (i:=17) ?bdq ?bdr ?bds ?bdt
 case bdq=>exact nd
 case bdr=>exact rfl
 case bds=>exact(Or.inl rfl)
 case' bdt=>refine' gF ?bdu ?bdv ?bdw ?bdx
 case bdu=>exact(jn tq :)
 case bdv=>exact hr.m
 case bdw=>exact(by rfl)
 case' bdx=>refine' bn ?bdy ?bdz
 case bdy=>exact(pv 0)
 case' bdz=>refine' bn ?bea ?beb
 case bea=>exact(pv 1)
 case' beb=>refine' bn ?bec ?bed
 case bec=>exact(pv 2)
 case' bed=>refine' bn ?bee ?bef
 case bee=>exact(pv 3)
 case' bef=>refine' aR ?beg ?beh
 case beg=>exact(pyk (ZeG tq :) hr.m (pyw 6 (pyv 15)))
 case beh=>exact(bM (au bD aa (pv 13)) ae)
 case' bdp=>refine' ai ?bei
 case' bei=>refine' aq ?bej
 case' bej=>refine' aw ?bek
 case' bek=>refine' aj ?bel ?bem
 case bel=>exact aF
 case' bem=>refine' bn ?ben ?beo
 case ben=>exact(pv 16)
 case beo=>exact(aB (wx K (wx K (pv 15) (pv 16)) aa) (pyv 17))
 case bcv=>exact aQ
 case' bcs=>refine' ag ?bep ?beq
 case' bep=>refine' aK ?ber ?bes ?bet
 case' ber=>refine' aA ?beu ?bev ?bew ?bex
 case beu=>exact(k_in (K:=K) rfl)
 case bev=>exact(wx K (pv 11) aa)
 case bew=>exact(bz (aj aF (aj aF ae)))
 case bex=>exact(by with_unfolding_all rfl)
 case' bes=>refine' ag ?bey ?bez
 case' bey=>refine' bI (i:=18) ?bfa ?bfb ?bfc ?bfd
 case bfa=>exact nd
 case bfb=>exact rfl
 case bfc=>exact(Or.inl rfl)
 case' bfd=>refine' gF ?bfe ?bff ?bfg ?bfh
 case bfe=>exact(jn tq :)
 case bff=>exact hr.m
 case bfg=>exact(by rfl)
 case' bfh=>refine' bn ?bfi ?bfj
 case bfi=>exact(pv 0)
 case' bfj=>refine' bn ?bfk ?bfl
 case bfk=>exact(pv 1)
 case' bfl=>refine' bn ?bfm ?bfn
 case bfm=>exact(pv 2)
 case' bfn=>refine' bn ?bfo ?bfp
 case bfo=>exact(pv 3)
 case' bfp=>refine' aR ?bfq ?bfr
 case' bfq=>refine' gF ?bfs ?bft ?bfu ?bfv
 case bfs=>exact(oP tq :)
 case bft=>exact hr.m
 case bfu=>exact(by rfl)
 case bfv=>exact(pyw 6 (aB (wx K (pv 11) aa) ae))
 case bfr=>exact(pyv 13)
 case' bez=>refine' ai ?bfw
 case' bfw=>refine' aq ?bfx
 case' bfx=>refine' aw ?bfy
 case' bfy=>refine' aj ?bfz ?bga
 case bfz=>exact aF
 case' bga=>refine' bn ?bgb ?bgc
 case bgb=>exact(pv 18)
 case' bgc=>refine' aR ?bgd ?bge
 case' bgd=>refine' gF ?bgf ?bgg ?bgh ?bgi
 case bgf=>exact(jn tq :)
 case bgg=>exact hr.m
 case bgh=>exact(by rfl)
 case' bgi=>refine' bn ?bgj ?bgk
 case bgj=>exact(pv 0)
 case' bgk=>refine' bn ?bgl ?bgm
 case bgl=>exact(pv 1)
 case' bgm=>refine' bn ?bgn ?bgo
 case bgn=>exact(pv 2)
 case' bgo=>refine' bn ?bgp ?bgq
 case bgp=>exact(pv 3)
 case' bgq=>refine' aR ?bgr ?bgs
 case bgr=>exact(pyk (oP tq :) hr.m (pyw 6 (bM (au bD (pv 9) aa) ae)))
 case bgs=>exact(bM (au kM (pv 13) aa) ae)
 case bge=>exact ae
 case bet=>exact aQ
 case' beq=>refine' ag ?bgt ?bgu
 case' bgt=>refine' aK ?bgv ?bgw ?bgx
 case bgv=>exact(aA bc (wx K (pv 11) aa) aF (ax _))
 case' bgw=>refine' ai ?bgy
 case' bgy=>refine' aq ?bgz
 case' bgz=>refine' aw ?bha
 case' bha=>refine' aj ?bhb ?bhc
 case bhb=>exact aF
 case' bhc=>refine' aR ?bhd ?bhe
 case' bhd=>refine' gF ?bhf ?bhg ?bhh ?bhi
 case bhf=>exact(jn tq :)
 case bhg=>exact hr.m
 case bhh=>exact(by rfl)
 case' bhi=>refine' bn ?bhj ?bhk
 case bhj=>exact(pv 0)
 case' bhk=>refine' bn ?bhl ?bhm
 case bhl=>exact(pv 1)
 case' bhm=>refine' bn ?bhn ?bho
 case bhn=>exact(pv 2)
 case' bho=>refine' bn ?bhp ?bhq
 case bhp=>exact(pv 3)
 case' bhq=>refine' aR ?bhr ?bhs
 case bhr=>exact(pyk (oP tq :) hr.m (pyw 6 (bM (au bD (pv 9) aa) ae)))
 case bhs=>exact(pyv 13)
 case bhe=>exact ae
 case bgx=>exact aQ
 case' bgu=>refine' ag ?bht ?bhu
 case' bht=>refine' aK ?bhv ?bhw ?bhx
 case bhv=>exact(aA bc (wx K (pv 11) aa) aF (ax _))
 case' bhw=>refine' ag ?bhy ?bhz
 case' bhy=>refine' dB (i:=15) ?bia ?bib ?bic ?bid
 case bia=>exact nd
 case bib=>exact rfl
 case bic=>exact(Or.inl rfl)
 case' bid=>refine' au ?bie ?big ?bih
 case bie=>exact(gR (K:=K) rfl)
 case' big=>refine' au ?bii ?bij ?bik
 case bii=>exact(gR (K:=K) rfl)
 case bij=>exact(cI (fq (K:=K) rfl) (pv 10) cM (cN (wx K (pv 11) aa)))
 case bik=>exact(aw (bf (aw (aj aa (bf (aw (bf (aw (aj aa (pyv 5))) ae)) ae))) ae))
 case bih=>exact(cI (fq (K:=K) rfl) (pv 10) (cN (au bD (wx K (pv 11) aa) aa)) cM)
 case' bhz=>refine' ai ?bil
 case' bil=>refine' aq ?bim
 case' bim=>refine' aw ?bin
 case' bin=>refine' aj ?bio ?bip
 case bio=>exact aF
 case' bip=>refine' aR ?biq ?bir
 case' biq=>refine' gF ?bis ?bit ?biu ?biv
 case bis=>exact(jn tq :)
 case bit=>exact hr.m
 case biu=>exact(by rfl)
 case' biv=>refine' bn ?biw ?bix
 case biw=>exact(pv 0)
 case' bix=>refine' bn ?biy ?biz
 case biy=>exact(pv 1)
 case' biz=>refine' bn ?bja ?bjb
 case bja=>exact(pv 2)
 case' bjb=>refine' bn ?bjc ?bjd
 case bjc=>exact(pv 3)
 case' bjd=>refine' bM ?bje ?bjf
 case' bje=>refine' au ?bjg ?bjh ?bji
 case bjg=>exact eU
 case bjh=>exact(cI (k_sl (K:=K) rfl) (pv 6) cM (cN (cg ce aa)))
 case bji=>exact(bz (bf (aw (pyw 8 (bM (au bD (pv 9) aa) (pyv 15)))) ae))
 case bjf=>exact(pyv 13)
 case bir=>exact ae
 case bhx=>exact aQ
 case' bhu=>refine' ai ?bjj
 case' bjj=>refine' aq ?bjk
 case' bjk=>refine' aw ?bjl
 case' bjl=>refine' aj ?bjm ?bjn
 case bjm=>exact aF
 case' bjn=>refine' aR ?bjo ?bjp
 case' bjo=>refine' gF ?bjq ?bjr ?bjs ?bjt
 case bjq=>exact(jn tq :)
 case bjr=>exact hr.m
 case bjs=>exact(by rfl)
 case bjt=>exact(pyw 0 (pyw 1 (pyw 2 (pyw 3 (pyw 6 (bM (au bD aa (pv 13)) ae))))))
 case bjp=>exact ae
 have lastAt:atI ((f++[s]).map sfT) (-1)=some (sfT s):=by rw[aW];exact fc _ _
 refine cw (dC (jd rfl (cf rfl ?_)));ext;refine aU lastAt ?_;refine cf rfl ?_;ext;refine aU (at_i a1 (by rw[ah,a2];rfl)) ?_;ext;refine aU (at_i a3 (by rw[ah,a4];rfl)) ?_;ext;refine bA hb ⟨by decide,by decide⟩ fun kind _ _=>?_;ext;refine bA hb ⟨by decide,by decide⟩ fun v5 v50 v51=>?_;ext;refine bA hb ⟨by decide,by decide⟩ fun v2 v20 v21=>?_;ext;refine bA hb ⟨by decide,by decide⟩ fun v8 v80 v81=>?_;ext;refine l_IC cdiv7 ?_;obtain⟨mo,hmo,hat⟩:∃ mo:Nat,mo<=20/\atI [T.int v5,T.int v2] (v8 / 7)=some (.int mo):=by
  have h7:v8 / 7=0\/v8 / 7=1:=by lia
  rcases h7 with h7|h7
  .exact ⟨v5.toNat,by lia,by rw[h7,at_0];congr 2;lia⟩
  .exact ⟨v2.toNat,by lia,by rw[h7,at_1];congr 2;lia⟩
 refine aU hat ?_;refine bt ?_;refine dG (fun Γ' G'=>Γ'=[some (.ptr b),some (pgT Q),some (.ptr la),some (.ptr kd),some (.tup [.int n,.lst ((f++[s]).map sfT),dd]),some (.int n),some (.lst ((f++[s]).map sfT)),some dd,some (.int s.1),some (.int s.2.1),some (.tup (s.2.2.map fmT)),some (rowT r),some (.int kind),some (.int mo),some (.bl (bZ Q (f++[s])).isNone),none,none,none,none]/\G'=G) ?_ ?_
 .ext;refine ⟨Q,f,s,n,_,_,rfl,si_l,pk,fo,cn,by lia,by decide +kernel,?_⟩;cases bZ Q (f++[s]) with
  | none=>ext;exact⟨rfl,rfl⟩
  | some l2=>ext;exact⟨rfl,rfl⟩
 rintro Γ' G' ⟨rfl,rfl⟩;refine cw (iF (m7 (k1:=fun bb G2=>G2=G'/\(bb=false->lane.length<=22/\((bZ Q (f++[s])).isNone=true->(["call","back"]:List Str).contains r.row.1=false))) ?_ fun bb G2 e=>?_))
 .ext;refine fF (fun _=>⟨rfl,nofun⟩) fun _=>?_;ext;refine cS (sg_p hla) ?_;rw[af];ext;refine dF (fun _=>⟨rfl,nofun⟩) fun h22=>?_;ext;refine fF (fun hst=>?_) fun hst=>⟨rfl,fun _=>⟨by lia,fun e=>by rw[hst] at e;cases e⟩⟩;ext;refine bu (ss:=["call","back"]) sg_l ?_;ext;exact⟨rfl,fun e=>⟨by lia,fun _=>e⟩⟩
 obtain⟨rfl,hno⟩:=e;have done:k (.tup [.str "leave"]) G2:=by
  have:=qd _ lane kvs [] (.tup (by simp) fun u hu=>by rw[aM.mp hu];exact .str) lk (by simp) (by simp) (fun _=>rfl) (fun d hd=>nomatch hd) .leave
  rwa [gD hla,gD hkd] at this
 refine fF (fun _=>?_) fun hf=>?_
 .ext;exact av done
 obtain⟨h22,hcb⟩:=hno hf;refine jZ ?_;refine cw (iF (m7 (k1:=fun bb G3=>G3=G2/\(bb=true->0<n/\(bZ Q (f++[s])).isNone=false)) ?_ fun bb G3 e=>?_))
 .ext;refine fF (fun _=>?_) fun _=>⟨rfl,nofun⟩;ext;refine dF (fun h0=>?_) fun _=>⟨rfl,nofun⟩;ext;exact⟨rfl,fun e=>⟨by lia,by simpa using e⟩⟩
 obtain⟨rfl,hn0⟩:=e;have L0:=LdSt.start hb hla hkd (.inr ⟨_,rfl⟩);refine fF (fun ht=>?_) fun _=>?_
 .obtain ⟨n0,still⟩:=hn0 ht;ext;refine ⟨n,rfl,by lia,fun sm nsm=>?_⟩;obtain ⟨L1,_⟩:=L0.fresh nsm (c:=.lst ((aI n).map fmT)) (fun _=>nofun);refine bt ?_;ext;refine bA L1.bag ⟨by lia,by lia⟩ fun wv w0 w1=>?_;ext;refine bA L1.bag ⟨by decide,by decide⟩ fun x5 x50 x51=>?_;ext;refine uh L1.bag fun xn hxn=>?_;ext;refine bA L1.bag ⟨by decide,by decide⟩ fun x4 x40 x41=>?_;ext;refine l_IC cdiv3 ?_;obtain ⟨vv,hvv,hat2⟩:∃ vv:Int,vv.natAbs<=10 ^ 60/\atI [T.int (x5 - 2),T.int xn] (x4 / 3)=some (.int vv):=by
   have h7:x4 / 3=0\/x4 / 3=1:=by lia
   rcases h7 with h7|h7
   .exact ⟨x5-2,bh (show (x5-2).natAbs<=10 by lia) (by decide),by rw[h7,at_0]⟩
   .exact ⟨xn,hxn,by rw[h7,at_1]⟩
  refine aU hat2 ?_;ext;have wl:(aI n).length=n:=by unfold aI;simp
  refine⟨sm,(aI n).map fmT,wv,wv.toNat,rfl,rfl,gp_s,lK (by lia) (by rw[af,wl];lia),?_⟩;rw[gp_p];obtain⟨fl,efl,fll,flo,flw,flh⟩:∃ fl:List Fm,((aI n).map fmT).set wv.toNat (.tup [.int vv,.tup []])=fl.map fmT/\fl.length=n/\(∀ g∈fl,Fo n (10^60) g)/\fl[wv.toNat]?=some (vv,[])/\fl=cR n wv.toNat vv:=by
   refine⟨(aI n).set wv.toNat (vv,[]),by rw[map_set];rfl,by rw[cQ,wl],fun g hg=>?_,io (by rw[wl];lia),rfl⟩;rcases gP hg with hg|rfl
   .unfold aI at hg;obtain⟨j,hj,rfl⟩:=aT.mp hg;exact jm (c:=0) (by decide) (gr.mp hj)
   .exact Fo.nil hvv
  rw[efl];obtain⟨L2,_⟩:=L0.fresh nsm (c:=.lst (fl.map fmT)) (fun _=>nofun);have gsm:gput G3 sm (.lst (fl.map fmT)) sm=some (.lst (fl.map fmT)):=gp_s;ext;refine⟨n,10^60,10^60,f++[s],fl,_,_,rfl,si_l,si_p gsm,by have:=fo.few;rw[aH];simp;lia,fun t ht=>⟨by have:=gk pk (fo.all t ht);lia,fun g hg=>by rw[fll];exact(fo.all t ht).fm g hg⟩,by lia,by lia,flo,by decide +kernel,by decide +kernel,?_⟩;ext;have fr2:=jq (tI fo (by lia) (by lia) flo) (aE n) (show _<=10^600 by decide +kernel);refine⟨b,l,la,kd,Q,n,1,fl,f.map (bE fl),bE fl s,mo+1,lane,kvs,by rw[aW,show (1:Int)+(mo:Int)=((mo+1:Nat):Int) by lia];rfl,L2.bag,L2.ln,L2.kn,pk,fr2,?_,?_,by lia,by lia,by lia,lk,fll,by rw[flh];exact Zl9,?_,.inr ⟨rfl,by lia,?_⟩,fun ed lane' kvs' h2 hed h1=>?_⟩
  .rw[<-lH (f:=bE fl),<- aW];exact Zml
  .rw[<-lH (f:=bE fl),<- aW,Zns];exact hch
  .rw[<-lH (f:=bE fl),<- aW,flh];exact Zm0 fo
  .rw[iR];rw[iR] at still;refine Zh4 ?_;cases hz:cF Q f s with
   | none=>rw[hz] at still;cases still
   | some _=>rfl
  have L3:=(L2.app lane').kput (.dk kvs');have nl:la≠sm:=fun e=>L2.nb.2.1 (by rw[e];exact aO);have nk:kd≠sm:=fun e=>L2.nb.2.2 (by rw[e];exact aO);have gs3:gput (gput (gput G3 sm (.lst (fl.map fmT))) la (.lst (lane'.map stT))) kd (.dk kvs') sm=some (.lst (fl.map fmT)):=by rw[gp_n nk.symm,gp_n nl.symm];exact gsm
  ext;refine l_ix (sg_p gs3) (at_i w0 (by rw[ah,flw];rfl)) ?_;ext;obtain⟨lk',ex,e1,e2,e3⟩:=h2;have hdd:DdS Q (pnL lane') n f s (.tup [.str "hold",.int wv,.int vv,ed]):=by
   rw[show wv=((wv.toNat:Nat):Int) by lia];refine .hold (by lia) hvv ?_;rw[<-lH (f:=bE fl),<- aW,flh] at hed;exact hed
  refine L3.fin (av (qd _ lane' kvs' ex (.tup (by simp) fun u hu=>?_) lk' e1 (by lia) (fun h=>by lia) e3 hdd));simp only[aJ,bX,cG] at hu;rcases hu with rfl|rfl|rfl|rfl
  .exact .str
  .exact .int
  .exact .int
  .exact h1
 refine jZ ?_;have edge:∀ (n' least:Nat) (f':List SF) (s':SF) (rows:Nat) (lane1:List StL) (kvs1:List (Key×T)) (k1:T->GH->Prop),FrsOk Q n' (10^600) f' s'->bO (f'++[s'])->Chn Q (plcF (f'++[s']))->n'<64->rows<=40->lane1.length<=890->LnS Q lane1 kvs1->(least=0\/least=1/\1<=rows/\(bZ Q (f'++[s'])).isSome=true)->(∀ (ed:T) (lane':List StL) (kvs':List (Key×T)),PlD 5 ed->LnR Q lane1 lane' kvs'->EdS Q (pnL lane') (aI n') least (f'++[s']) ed->k1 ed (gput (gput (gput (gput G3 la (.lst (lane1.map stT))) kd (.dk kvs1)) la (.lst (lane'.map stT))) kd (.dk kvs')))->qH [.ptr b,pgT Q,.ptr la,.ptr kd,.lst ((f'++[s']).map sfT),.int rows] (gput (gput G3 la (.lst (lane1.map stT))) kd (.dk kvs1)) k1:=fun n' least f' s' rows lane1 kvs1 k1 h1 h2 hc h3 h4 h5 h6 h8 h7=>by
  have L:=(L0.app lane1).kput (.dk kvs1);exact⟨b,l,la,kd,Q,n',least,aI n',f',s',rows,lane1,kvs1,rfl,L.bag,L.ln,L.kn,pk,h1,h2,hc,h3,h4,h5,h6,by unfold aI;rw[af,eE],kO n',qT h1,h8,fun ed lane' kvs' a1 a2 a3=>h7 ed lane' kvs' a3 a1 a2⟩
 have e0:gput (gput G3 la (.lst (lane.map stT))) kd (.dk kvs)=G3:=by rw[gD hla,gD hkd]
 have nlk:la≠kd:=L0.ne.1;have edge0:∀ (n' least:Nat) (f':List SF) (s':SF) (rows:Nat) (k1:T->GH->Prop),FrsOk Q n' (10^600) f' s'->bO (f'++[s'])->Chn Q (plcF (f'++[s']))->n'<64->rows<=40->(least=0\/least=1/\1<=rows/\(bZ Q (f'++[s'])).isSome=true)->(∀ (ed:T) (lane':List StL) (kvs':List (Key×T)),PlD 5 ed->LnR Q lane lane' kvs'->EdS Q (pnL lane') (aI n') least (f'++[s']) ed->k1 ed (gput (gput G3 la (.lst (lane'.map stT))) kd (.dk kvs')))->qH [.ptr b,pgT Q,.ptr la,.ptr kd,.lst ((f'++[s']).map sfT),.int rows] G3 k1:=fun n' least f' s' rows k1 h1 h2 hc h3 h4 h6 h5=>by
  have:=edge n' least f' s' rows lane kvs k1 h1 h2 hc h3 h4 (by lia) lk h6 fun ed lane' kvs' a1 a2 a3=>by rw[e0];exact h5 ed lane' kvs' a1 a2 a3
  rwa [e0] at this
 have B6:10^60<=10^600:=by decide +kernel
 have fo6:=jq fo (aE n) B6;have cnf:bO f:=fun t ht=>cn t (dJ _ ht);have cns:∀ g∈s.2.2,Cano g:=cn s (by simp);have ok:=(pk.ok.2.2 df hd).rows r (aD a4);have fl4:=fo.few;have atk:∀ (t:Int) (k1:T->GH->Prop) (G4:GH),k1 (.lst ((cJ f s t).map sfT)) G4->wU [.lst ((f++[s]).map sfT),.int t] G4 k1:=fun t k1 G4 h=>⟨f,s,t,_,rfl,si_l,by lia,h⟩;have inr:∀ {t:Int},In0 t df.rows.length->FrsOk Q n (10^600) f (s.1,t,s.2.2):=fun {t} ht=>mj fo6 ht.1 fun d' hd'=>by
  rw[a2] at hd';cases hd';have:=ht.2;have:=ht.1;lia
 have nxt:¬ r.last->FrsOk Q n (10^600) f (s.1,s.2.1+1,s.2.2):=fun hl=>by
  obtain⟨n1,n2⟩:=iH pk hs rAt hl;exact mj fo6 n1 n2
 have fin2:∀ {w1:Str} {ed:T} {lane':List StL} {kvs':List (Key×T)},PlD 5 ed->LnR Q lane lane' kvs'->DdS Q (pnL lane') n f s (.tup [.str w1,ed])->Cl k (.tup [.str w1,ed]) (gput (gput G3 la (.lst (lane'.map stT))) kd (.dk kvs')):=fun {w1 ed lane' kvs'} h1 h2 h3=>by
  obtain⟨lk',ex,e1,e2,e3⟩:=h2;refine av (qd _ lane' kvs' ex (.tup (by simp) fun u hu=>?_) lk' e1 (by lia) (fun h=>by lia) e3 h3);simp only[aJ,bX,cG] at hu;rcases hu with rfl|rfl
  .exact .str
  .exact h1
 cases r with
 | tell p =>
  ext;refine bu (ss:=["zero","below"]) sg_l ?_;ext;refine atk _ _ _ ?_;ext;refine edge0 n 0 f (s.1,s.2.1+1,s.2.2) mo _ (nxt (fun h=>h)) (fI cnf (fK cns)) (hJ hch rfl) (by lia) (by lia) (.inl rfl) fun ed lane' kvs' h1 h2 h3=>?_;ext;exact fin2 h1 h2 (.tell rAt h3)
 | zero p t =>
  ext;refine bu (ss:=["zero","below"]) sg_l ?_;ext;refine atk _ _ _ ?_;ext;refine edge0 n 0 f (s.1,t,s.2.2) mo _ (inr ok.2) (fI cnf (fK cns)) (hJ hch rfl) (by lia) (by lia) (.inl rfl) fun ed1 lane1 kvs1 h1 h2 he1=>?_;refine bt ?_;ext;refine atk _ _ _ ?_;ext;refine l_IC cdiv2 ?_;rw[show (mo:Int) / 2=((mo / 2:Nat):Int) by lia];ext;obtain⟨lk1,ex1,e1,e1l,e1d⟩:=h2;refine edge n 0 f (s.1,s.2.1+1,s.2.2) (mo / 2) lane1 kvs1 _ (nxt (fun h=>h)) (fI cnf (fK cns)) (hJ hch rfl) (by lia) (by lia) (by rw[e1,aH];lia) lk1 (.inl rfl) fun ed2 lane2 kvs2 h3 h4 he2=>?_;rw[gp4 nlk];ext;obtain⟨lk2,ex2,e2,e2l,e2d⟩:=h4;have hdd:DdS Q (pnL lane2) n f s (.tup [.str "test",ed1,ed2]):=.test (p:=p) (t:=t) (.inl rAt) (by rw[e2,show pnL (lane1++ex2)=pnL lane1++pnL ex2 from aW];exact he1.up) he2;refine av (qd _ lane2 kvs2 (ex1++ex2) (.tup (by simp) fun u hu=>?_) lk2 (by rw[e2,e1,cp]) (by rw[aH];lia) (fun h=>by lia) (fun d hd=>(aS.mp hd).elim (e1d d) (e2d d)) hdd);simp only[aJ,bX,cG] at hu;rcases hu with rfl|rfl|rfl
  .exact .str
  .exact h1
  .exact h3
 | below p t =>
  ext;refine bu (ss:=["zero","below"]) sg_l ?_;ext;refine atk _ _ _ ?_;ext;refine edge0 n 0 f (s.1,t,s.2.2) mo _ (inr ok.2) (fI cnf (fK cns)) (hJ hch rfl) (by lia) (by lia) (.inl rfl) fun ed1 lane1 kvs1 h1 h2 he1=>?_;refine bt ?_;ext;refine atk _ _ _ ?_;ext;refine l_IC cdiv2 ?_;rw[show (mo:Int) / 2=((mo / 2:Nat):Int) by lia];ext;obtain⟨lk1,ex1,e1,e1l,e1d⟩:=h2;refine edge n 0 f (s.1,s.2.1+1,s.2.2) (mo / 2) lane1 kvs1 _ (nxt (fun h=>h)) (fI cnf (fK cns)) (hJ hch rfl) (by lia) (by lia) (by rw[e1,aH];lia) lk1 (.inl rfl) fun ed2 lane2 kvs2 h3 h4 he2=>?_;rw[gp4 nlk];ext;obtain⟨lk2,ex2,e2,e2l,e2d⟩:=h4;have hdd:DdS Q (pnL lane2) n f s (.tup [.str "test",ed1,ed2]):=.test (p:=p) (t:=t) (.inr rAt) (by rw[e2,show pnL (lane1++ex2)=pnL lane1++pnL ex2 from aW];exact he1.up) he2;refine av (qd _ lane2 kvs2 (ex1++ex2) (.tup (by simp) fun u hu=>?_) lk2 (by rw[e2,e1,cp]) (by rw[aH];lia) (fun h=>by lia) (fun d hd=>(aS.mp hd).elim (e1d d) (e2d d)) hdd);simp only[aJ,bX,cG] at hu;rcases hu with rfl|rfl|rfl
  .exact .str
  .exact h1
  .exact h3
 | take p =>
  ext;refine bu (ss:=["zero","below"]) sg_l ?_;ext;have p0:0<=p:=ok.1;have p1:p<s.2.2.length:=by have:=ok.2;lia
  have p8:=gk pk hs;refine⟨p,by rw[emb],?_⟩;refine fi ?_;rw[iG p0 (by rw[af];lia)];ext;have lt:((s.2.2.map fmT).take p.toNat).length<=s.2.2.length:=by rw[fu,af];exact jG _ _
  have ld:((s.2.2.map fmT).drop (p+1).toNat).length<=s.2.2.length:=by rw[iX,af];exact jH _ _
  refine gH (by rw[dY];lia) ?_;ext;rw[emb];ext;refine fi ?_;rw[iV (by lia) (by rw[af];lia)];refine gH (by rw[aH,dY];lia) ?_;have e:(s.2.2.map fmT).take p.toNat++[.tup [.int 0,.tup [.tup [.int 1,.int (n:Int)]]]]++(s.2.2.map fmT).drop (p+1).toNat=(s.2.2.set p.toNat (0,[(1,(n:Int))])).map fmT:=by
   have hp:p.toNat<s.2.2.length:=by lia
   rw[<-map_take,<- map_drop,yA,ak hp,aW,aL,cp,show (p+1).toNat=p.toNat+1 by lia];rfl
  rw[e];refine bt ?_;ext;refine iU si_l ?_;rw[aW,lH,mK];ext;refine fg si_l si_l (by rw[af];simp;lia) ?_;ext;have fr3:FrsOk Q (n+1) (10^600) f (s.1,s.2.1+1,s.2.2.set p.toNat (0,[(1,(n:Int))])):=by
   obtain⟨n1,n2⟩:=iH pk hs rAt (fun h=>h);refine⟨fo.few,fun t ht=>?_,fo.call⟩;rcases aS.mp ht with ht|ht
   .exact (fo.all t (dJ _ ht)).le (by lia) B6
   .rw[aM.mp ht];exact mf (hs.le (by lia) B6) ((jm (N:=n+1) (c:=0) (by decide) (by lia)).le (aE _) B6) n1 n2
  have cn3:bO (f++[(s.1,s.2.1+1,s.2.2.set p.toNat (0,[(1,(n:Int))]))]):=fI cnf (fK fun g hg=>by
   rcases gP hg with hg|rfl
   .exact cns g hg
   .exact nV)
  have ee:f.map sfT++[.tup [.int s.1,.int (s.2.1+1),.tup ((s.2.2.set p.toNat (0,[(1,(n:Int))])).map fmT)]]=(f++[(s.1,s.2.1+1,s.2.2.set p.toNat (0,[(1,(n:Int))]))]).map sfT:=by rw[aW];rfl
  rw[ee];refine edge0 (n+1) 0 f _ mo _ fr3 cn3 (hJ hch rfl) (by lia) (by lia) (.inl rfl) fun ed lane' kvs' h1 h2 h3=>?_;ext;exact fin2 h1 h2 (.take rAt h3)
 | _ =>
  ext;refine bu (ss:=["zero","below"]) sg_l ?_;ext;rw[show (1:Int)+(mo:Int)=((mo+1:Nat):Int) by lia];refine edge0 n 1 f s (mo+1) _ fo6 cn hch (by lia) (by lia) (.inr ⟨rfl,by lia,?_⟩) fun ed lane' kvs' h1 h2 h3=>?_
  .have hcb:=hcb;cases hsl:bZ Q (f++[s]) with
   | some l2=>rfl
   | none =>
    rw[hsl] at hcb;have hcb:=hcb rfl;rw[iR] at hsl;unfold cF at hsl;rw[rAt] at hsl
    first
     | cases hsl
     | cases hcb
  ext;exact fin2 h1 h2 (.go h3)
def LaneK(Q:List Df)(lane:List StL):Prop:=∀ d∈lane,PpK Q d.n d.fr/\PlD 8 d.dd
def Zps:Pre:=fun ts G k=>∃ (b l:Addr) (Q:List Df),ts=[.ptr b,pgT Q]/\G b=some (.bag l)/\PgK Q/\∀ lane:List StL,LaneK Q lane->DdL Q lane->(∀ d∈lane,Chn Q (plcF d.fr))->1<=lane.length->lane.length<=24->k (.lst (lane.map stT)) G
theorem sc__law_lane:FnScope ["bag","program","f","at","lane","keys","k"] ["bag","program"] (aC nT):=by ac_nf
theorem ZiG(tq:Tq P w K mg base):Callee P w K mg base "_law_lane" 6 ["bag","program"] (spG P w K Zps):=by
 refine tq.f1.okG sc__law_lane (by walk_at"lnx") fun f cdv A outer s H E ts G k hr hh=>?_;have nd:=sc__law_lane.nd;obtain⟨b,l,Q,rfl,hb,pk,q⟩:=hh;refine' go_G [some (.ptr b),some (pgT Q),none,none,none,none,none] rfl ?hb ?hg
 case hb=>exact(ag (dB (i:=2) nd rfl (Or.inl rfl) (au gj (pyk (br tq :) hr.m (pyw 0 (aR (aG (bj (K:=K) rfl) (by rfl) tq.b_len bi (pyv 1)) ae))) (pyk (br tq :) hr.m (pyw 0 (aj aa ae))))) (ag (dB (i:=3) nd rfl (Or.inl rfl) (au gj (pyk (br tq :) hr.m (pyw 0 (aR (aG (bj (K:=K) rfl) (by rfl) tq.b_len bi (aB (wx K (wx K (pv 1) (pv 2)) aa) ae)) ae))) (cY ZmE (by rfl) tq.b_int m3 (Znv (dP bc (pyk (br tq :) hr.m (pyw 0 (aj aa ae))) aa (ax _)) ae)))) (ag (kz (i:=4) nd rfl (Or.inl rfl) (bz ae)) (ag (cO (i:=5) nd rfl (Or.inl rfl) kP) (ag (eI (pyk (tF tq :) hr.m (pyw 0 (pyw 4 (pyw 5 (ma (bz (bf (aw (pyw 2 (pyw 3 (aR (cY (ff (K:=K) rfl) (by rfl) tq.b_tuple du (aR (pyk (oq tq :) hr.m (aB (wx K (wx K (pv 1) (pv 2)) aa) ae)) ae)) ae)))) ae)) ae)))))) (ag (cO (i:=6) nd rfl (Or.inl rfl) aa) (ag (uS PassesOwn.never (aA dO (pv 6) (aG (bj (K:=K) rfl) (by rfl) tq.b_len bi (pyv 4)) (ax _)) (ag (bV (au (gR (K:=K) rfl) (cI (fq (K:=K) rfl) (wx K (pv 4) (pv 6)) cM (cN aa)) (aw (aR (pyk (ZiI tq :) hr.m (pyw 0 (pyw 1 (pyw 4 (pyw 5 (aB (wx K (pv 4) (pv 6)) ae)))))) ae))) (cH (pv 4) (pv 6) cK)) (ai (dB (i:=6) nd rfl (Or.inl rfl) (au bD (pv 6) aa))))) (ai (aq (pv 4))))))))))
 have ql:=pk.ok.2.1;have q0:0<Q.length:=length_pos_iff.mpr pk.ok.1;ext;rw[af];refine bA hb ⟨by lia,by lia⟩ fun v v0 v1=>?_;ext;refine bA hb ⟨by decide,by decide⟩ fun v2 v20 v21=>?_;ext;have sm:∀ {x y:Int},0<=x->x<1000->0<=y->y<1000->CBig x y:=fun h1 h2 h3 h4=>ia (bh (show _<=1000 by lia) (by decide +kernel)) (bh (show _<=1000 by lia) (by decide +kernel));refine l_IC (sm v0 (by lia) v20 (by lia)) ?_;obtain⟨fN,efN,hfN⟩:∃ fN:Nat,v*v2=fN/\fN<Q.length:=by
  have:v2=0\/v2=1:=by lia
  rcases this with rfl|rfl
  .exact ⟨0,by simp,q0⟩
  .exact ⟨v.toNat,by rw[ng];lia,by lia⟩
 rw[efN];have ed:Q[fN]?=some Q[fN]:=ay hfN;generalize Q[fN]=df at ed;have hd:=aD ed;have dok:=pk.ok.2.2 df hd;have db:=pk.b df hd;obtain⟨rl,el,_⟩:=dok.last;have r0:0<df.rows.length:=by have:=(aX.mp el).1;lia
 have rn:=dok.n;have dat:atI (Q.map dfT) (fN:Int)=some (dfT df):=cD (n:=fN) rfl (by rw[ah,ed];rfl);ext;refine aU dat ?_;ext;rw[af];refine bA hb ⟨by lia,by lia⟩ fun a a0 a1=>?_;ext;refine bA hb ⟨by decide,by decide⟩ fun a3 _ _=>?_;ext;refine l_intB ?_;ext;refine l_IC (sm a0 (by lia) (by split <;> decide) (by split <;> decide)) ?_;obtain⟨aN,eaN,haN⟩:∃ aN:Nat,a*(if decide (a3=0)=true then 1 else 0)=aN/\aN<df.rows.length:=by
  split
  .exact ⟨a.toNat,by rw[ng];lia,by lia⟩
  .exact ⟨0,by simp,r0⟩
 rw[eaN];refine bt ?_;refine cw (dC (jr ?_));ext;intro la nla;have nbl:b≠la:=g_ne hb nla;refine bt ?_;refine cw (dC (ZoU fun kd nkd=>bt ?_));have hla:gput G la (.lst ([]:List T)) la=some (.lst (([]:List StL).map stT)):=gp_s;have hb1:gput G la (.lst ([]:List T)) b=some (.bag l):=by rw[gp_n nbl];exact hb
 have nlk:la≠kd:=g_ne hla nkd;have nbk:b≠kd:=g_ne hb1 nkd;have hla2:gput (gput G la (.lst [])) kd (.dk []) la=some (.lst (([]:List StL).map stT)):=by rw[gp_n nlk];exact hla
 have hb2:gput (gput G la (.lst [])) kd (.dk []) b=some (.bag l):=by rw[gp_n nbk];exact hb1
 have hkd2:gput (gput G la (.lst [])) kd (.dk []) kd=some (.dk []):=gp_s;generalize hG1:gput (gput G la (.lst [])) kd (.dk [])=G1 at hla2 hb2 hkd2;have L0:=LdSt.start hb2 hla2 hkd2 (.inr ⟨_,rfl⟩);obtain⟨bN,ebN⟩:∃ bN:Nat,df.boxes=bN:=⟨df.boxes.toNat,by have:=dok.b.1;lia⟩;ext;refine aU dat ?_;ext;refine⟨bN,by rw[ebN],by lia,fun sm nsm=>?_⟩;obtain⟨L1,_⟩:=L0.fresh nsm (c:=.lst ((aI bN).map fmT)) (fun _=>nofun);refine gE (eZ (sg_p gp_s) (fun _=>nofun) ?_);ext;have fo:FrsOk Q bN (10^60) [] ((fN:Int),(aN:Int),aI bN):=by
  refine⟨by simp,fun t ht=>?_,fun t ht=>by cases ht⟩;rw[dL] at ht;rw[aM.mp ht];refine⟨⟨df,_,by lia,ed,by show (0:Int)<=(aN:Int);lia,ay haN,?_⟩,fun g hg=>?_⟩
  .show ((aI bN).length:Int)=_;rw[ebN];unfold aI;simp
  .have hg:g∈aI bN:=hg;unfold aI at hg;obtain⟨j,hj,rfl⟩:=aT.mp hg;exact jm (c:=0) (by decide) (gr.mp hj)
 have cn:bO ([]++[((fN:Int),(aN:Int),aI bN)]):=fI (fun t ht=>by cases ht) (fK fun g hg=>by
  have hg:g∈aI bN:=hg;unfold aI at hg;obtain⟨j,hj,rfl⟩:=aT.mp hg;exact nV)
 refine⟨b,l,la,kd,Q,bN,10^60,[],((fN:Int),(aN:Int),aI bN),[],[],rfl,L1.bag,L1.ln,L1.kn,pk,fo,cn,Zqi,by lia,by decide +kernel,by simp,⟨(fun d hd=>by cases hd),(fun e he=>by cases he),aE _,(fun d hd=>by cases hd)⟩,fun mv k' n1 fr1 lane1 kvs1 h3 hk1 _ _ _=>?_⟩;obtain⟨lk1,ex1,e1,e1l,e1d⟩:=h3;have hk1:k'<lane1.length:=by have:=(aX.mp hk1).1;rwa [af] at this
 have dl1:DdL Q lane1:=by rw[e1];exact DdL.app (fun d hd=>nomatch hd) e1d
 have L2:=(L1.app lane1).kput (.dk kvs1);have l1:1<=lane1.length:=by lia
 have l24:lane1.length<=24:=by rw[e1,aH];simp;lia
 generalize gput (gput (gput G1 sm (.lst ((aI bN).map fmT))) la (.lst (lane1.map stT))) kd (.dk kvs1)=G2 at L2;ext;refine wD (fun m Γ' G'=>Ex3 fun(lane:List StL) (kvs:List (Key×T)) (kN:Nat)=>An8 (kN+m=24) (LdSt G1 G' b l la kd [sm] lane (.dk kvs)) (LnS Q lane kvs) (DdL Q lane) (1<=lane.length) (lane.length<=24) (kN<=lane.length) (Γ'=[some (.ptr b),some (pgT Q),some (.int fN),some (.int aN),some (.ptr la),some (.ptr kd),some (.int kN)])) 24 ⟨lane1,kvs1,0,rfl,L2,lk1,dl1,l1,l24,cb _,rfl⟩ ?_;rintro m Γ' G' ⟨lane,kvs,kN,hm,L,lk,dl,h1,h24,hk,rfl⟩;ext;refine cS (sg_p L.ln) ?_;rw[af];ext;refine dF (fun hlt=>?_) fun hge=>?_
 .have hlt:kN < lane.length:=by lia
  have ek:lane[kN]?=some lane[kN]:=ay hlt;generalize lane[kN]=d at ek;have hat:atI (lane.map stT) (kN:Int)=some (stT d):=cD (n:=kN) rfl (by rw[ah,ek];rfl);ext;refine l_ix (sg_p L.ln) hat ?_;ext;refine fi ?_;rw[iG (by decide) (by simp)];ext;refine l_ix (sg_p L.ln) hat ?_;ext;refine⟨b,l,la,kd,Q,d,lane,kvs,rfl,L.bag,L.ln,L.kn,pk,(lk.st d (aD ek)).1,lk.ch d (aD ek),by lia,lk,fun dd lane' kvs' ex hdd lk' e1 e2 e3 e4 e5=>?_⟩;have L3:=(L.app lane').kput (.dk kvs');have ek':lane'[kN]?=some d:=by rw[e1,cm hlt];exact ek
  have l3:lane'.length<=24/\lane.length<=lane'.length:=by
   rw[e1,aH];refine⟨?_,by lia⟩;by_cases h22:22<lane.length
   .rw[e3 h22];simp;lia
   .lia
  generalize gput (gput G' la (.lst (lane'.map stT))) kd (.dk kvs')=G3 at L3;ext;refine gH (by simp) ?_;ext;refine⟨la,lane'.map stT,kN,kN,rfl,rfl,L3.ln,lK rfl (by rw[af];lia),?_⟩;have es:(lane'.map stT).set kN (.tup (List.take (2:Int).toNat [T.int d.n,.lst (d.fr.map sfT),d.dd]++[dd]))=(lane'.set kN ⟨d.n,d.fr,dd⟩).map stT:=by rw[map_set];rfl
  rw[es];have L4:=L3.app (lane'.set kN ⟨d.n,d.fr,dd⟩);ext;dsimp only;refine ck ⟨m-1,by lia,_,kvs',kN+1,by lia,L4,lk'.set ek' (hdd.up (by decide)),DdL.set (by rw[e1];exact dl.app e4) ek' e5,by rw[cQ];lia,by rw[cQ];exact l3.1,by rw[cQ];lia,rfl⟩
 .ext;refine L.fin ?_;rw[<-hG1,gp4 nlk];have nk0:gput G la (.lst (lane.map stT)) kd=none:=by rw[gp_n nlk.symm];rwa [gp_n nlk.symm] at nkd
  exact fk nk0 (fun _=>nofun) (kf nla (av (q lane lk.st dl lk.ch h1 h24)))
def Zhc:Pre:=fun ts G k=>∃ (Q:List Df) (lane:List StL) (own:List Fm) (f:List SF) (s:SF) (e:T) (least:Nat),ts=[pgT Q,.lst (lane.map stT),.lst ((lane.map fun _=>true).map T.bl),.lst (own.map fmT),.lst ((f++[s]).map sfT),e]/\PgK Q/\lane.length<=1000/\(∀ d∈lane,PpK Q d.n d.fr)/\own.length<64/\(∀ g∈own,Fo own.length (10^60) g)/\FrsOk Q own.length (10^130) f s/\EdS Q (pnL lane) own least (f++[s]) e/\k (.bl true) G
theorem sc_edge_fits:FnScope ["program","lane","fits","own","start","edge","rows","moves","k"] ["program","lane","fits","own","start","edge"] (aC rj):=by ac_nf
theorem ZiE(tq:Tq P w K mg base):Callee P w K mg base "edge_fits" 7 ["program","lane","fits","own","start","edge"] (spG P w K Zhc):=by
 refine tq.f2.okG sc_edge_fits (by walk_at"lnx") fun f cdv A outer s H E ts G' k hr hh=>?_;have nd:=sc_edge_fits.nd;have hu:=hr.units;obtain⟨Q,lane,own,f,s,e,least,rfl,pk,hl,hp,ho,hof,fo,⟨rows,moves,kk,n,fr,rfl,_,hr40,hk,hm,hmv,hgo⟩,q⟩:=hh;obtain⟨d,ed,hd⟩:∃ d,lane[kk]?=some d/\(d.n,d.fr)=(n,fr):=by
  rw[ah] at hk;obtain⟨d,e1,e2⟩:=aV.mp hk;exact⟨d,e1,e2⟩
 injection hd with hd1 hd2
 subst hd1 hd2;have hkl:=(aX.mp ed).1;obtain⟨pn,⟨pf,ps,epf,pfo⟩,_⟩:=hp d (aD ed);have pfew:=pfo.few;have dat:atI (lane.map stT) (kk:Int)=some (stT d):=cD (n:=kk) rfl (by rw[ah,ed];rfl);have fat:atI ((lane.map fun _=>true).map T.bl) (kk:Int)=some (.bl true):=cD (n:=kk) rfl (by rw[ah,ah,ed];rfl);refine' go_G [some (pgT Q),some (.lst (lane.map stT)),some (.lst ((lane.map fun _=>true).map T.bl)),some (.lst (own.map fmT)),some (.lst ((f++[s]).map sfT)),some (.tup [.int rows,.tup (moves.map fmT),.int kk]),none,none,none] rfl ?hb ?hg
 case hb=>exact(ag (cL (i:=6) nd rfl (Or.inl rfl) (wx K (pv 5) aa)) (ag (cL (i:=7) nd rfl (Or.inl rfl) (wx K (pv 5) aa)) (ag (cL (i:=8) nd rfl (Or.inl rfl) (wx K (pv 5) aa)) (ag (aK (dj (PW.pt (bT (g8 eT eT aa (pv 6) (ki (by rfl) tq.c_MOST_EDGE_ROWS)) (bT (g8 eT dO aa (pv 8) (aG (bj (K:=K) rfl) (by rfl) tq.b_len bi (pyv 1))) (cC (cy (wx K (pv 2) (pv 8)))))))) (ai (aq cW)) aQ) (ag (aK (PW.pt (fe (aA gI (aG (bj (K:=K) rfl) (by rfl) tq.b_len bi (pyv 7)) (wx K (wx K (pv 1) (pv 8)) aa) (ax _)) (gh (dj (cy (aG (iC (K:=K) rfl rfl) (by rfl) tq.b_all iL (dy (pyc ["move"] ["own"] [3] (dD (K:=K) rfl (pv 7)) (fun _ _ _ _ _ _=>(pyk (xZ tq :) hr.m (pyw 0 (aR (aG (bj (K:=K) rfl) (by rfl) tq.b_len bi (pyv 1)) ae))))) ae))))))) (ai (aq cW)) aQ) (ai (aq (dP (op_eqA hu) (pyk (ZgM tq :) hr.m (pyw 0 (pyw 4 (pyv 6)))) (pyk (wM tq :) hr.m (aB (wx K (wx K (pv 1) (pv 8)) aa) (dy (pyc ["move"] ["own"] [3] (dD (K:=K) rfl (pv 7)) (fun _ _ _ _ _ _=>(pyk (vT tq :) hr.m (pyw 0 (pyv 1))))) ae))) (ax _)))))))))
 ext;rw[aY (by lia)];ext;rw[af,aY (by lia)];ext;refine aU fat ?_;ext;refine aU dat ?_;ext;rw[af,aY (by lia)];ext;refine cu (fun Γ'=>∃ c,Γ'=[c,some (.lst (own.map fmT))]) ?_;ext;refine⟨_,rfl,by rw[af];lia,trivial,⟨_,rfl⟩,(moves.map fun _=>true).map T.bl,by rw[af,af,af],?_,?_⟩
 .rintro i z y Γ' hz hy ⟨c,rfl⟩;rw[ah] at hz;obtain⟨g,eg,rfl⟩:=aV.mp hz;rw[ah,ah,eg] at hy;cases hy;obtain⟨h1,h2⟩:=hmv g (aD eg);ext;refine⟨⟨_,rfl⟩,rfl,?_⟩;ext;rw[af];exact⟨g,own.length,rfl,gd_fo h2 h1 (by lia),rfl,rfl⟩
 ext;rw[jb];ext;have b9:100^rows*10^130<=10^900:=bh (fT _ (iB (by decide) hr40)) (by decide +kernel);refine⟨Q,own.length,10^130,rows,f,s,_,rfl,pk,ho,by decide +kernel,by lia,b9,fo,hgo,?_⟩;ext;refine aU dat ?_;ext;refine cu (fun Γ'=>∃ c,Γ'=[c,some (.lst (own.map fmT))]) ?_;ext;refine⟨_,rfl,by rw[af];lia,trivial,⟨_,rfl⟩,(moves.map fun g=>bG g own).map fmT,by rw[af,af,af],?_,?_⟩
 .rintro i z y Γ' hz hy ⟨c,rfl⟩;rw[ah] at hz;obtain⟨g,eg,rfl⟩:=aV.mp hz;rw[ah,ah,eg] at hy;cases hy;obtain⟨h1,h2⟩:=hmv g (aD eg);ext;refine⟨⟨_,rfl⟩,rfl,?_⟩;ext;exact⟨own.length,own.length,g,own,_,rfl,si_l,⟨h2.le (aE _) (by decide +kernel),ho⟩,rfl,ho,fun g' hg'=>⟨(hof g' hg').le (aE _) (by decide +kernel),ho⟩,rfl,rfl⟩
 ext;refine⟨d.fr,moves.map fun g=>bG g own,_,_,own.length,rfl,si_l,si_l,by rw[epf,aH];simp;lia,fun t ht=>?_,ho,fun g hg=>?_,?_⟩
 .rw[epf] at ht;have hs:=pfo.all t ht;exact⟨by have:=gk pk hs;lia,fun g hg=>⟨by rw[af,hm];exact(hs.fm g hg).le (aE _) (by decide +kernel),by rw[af];lia⟩⟩
 .obtain ⟨g',hg',rfl⟩:=aT.mp hg;exact⟨(vA (hmv g' hg').2 (aE _) ho hof).le (aE _) (by decide +kernel),ho⟩
 refine l_eqA (ZmM si_l si_l (bh (mP (n:=5) fun t _=>dp_sf t) (by decide))) ?_;exact av q
def Zhd:Pre:=fun ts G k=>∃ (Q:List Df) (n B:Nat) (f:List SF) (s:SF) (dd:T) (Pn:List (Nat×List SF)),ts=[pgT Q,.tup [.int n,.lst ((f++[s]).map sfT),dd]]/\FrsOk Q n B f s/\DdS Q Pn n f s dd/\k (.bl true) G
theorem sc_deed_fits:FnScope ["program","stand","deed","word"] ["program","stand"] (aC oz):=by ac_nf
theorem ZiF(tq:Tq P w K mg base):Callee P w K mg base "deed_fits" 3 ["program","stand"] (spG P w K Zhd):=by
 refine tq.f3.okG sc_deed_fits (by walk_at"lnx") fun f cdv A outer s H E ts G' k hr hh=>?_;have nd:=sc_deed_fits.nd;obtain⟨Q,n,B',f,s,dd,Pn,rfl,fo,hd,q⟩:=hh;obtain⟨d,r,_,h2,hrow,h4,h0,h3,h5⟩:=dZ (fo.all s (by simp));have lastAt:atI ((f++[s]).map sfT) (-1)=some (sfT s):=by rw[aW];exact fc _ _
 have edg:∀ {P own least start} {e:T},EdS Q P own least start e->∃ a b c,e=.tup [a,b,c]:=fun h=>by
  obtain⟨rows,moves,kk,_,_,rfl,_⟩:=h;exact⟨_,_,_,rfl⟩
 refine' go_G [some (pgT Q),some (.tup [.int n,.lst ((f++[s]).map sfT),dd]),none,none] rfl ?hb ?hg
 case hb=>exact(ag (cL (i:=2) nd rfl (Or.inl rfl) (wx K (pv 1) aa)) (ag (cL (i:=3) nd rfl (Or.inl rfl) (wx K (pv 2) aa)) (ag (aK (PW.pt (fe (aA (Znw (K:=K) (w:=w) (tb:=deedT) rfl rfl) (pv 3) (j4 (K:=K) (w:=w) (by rfl) tq.c_DEED_PARTS) (by with_unfolding_all rfl)) (gh (aA gI (aG (bj (K:=K) rfl) (by rfl) tq.b_len bi (pyv 2)) (au bD (aG (bj (K:=K) rfl) (by rfl) tq.b_len bi (aB (rm (K:=K) (w:=w) (tb:=deedT) rfl rfl (j4 (K:=K) (w:=w) (by rfl) tq.c_DEED_PARTS) (pv 3) (fun _ _=>rfl)) ae)) aa) (ax _))))) (ai (aq cW)) aQ) (ag (aK (dj (cy (aG (iC (K:=K) rfl rfl) (by rfl) tq.b_all iL (dy (fO (LN:=["part","kind"]) (FN:=[]) (fr:=[]) rfl (cV (by rfl)) (xS (t1:=true) (t2:=true) (K:=K) rfl (by rfl) tq.b_zip (aB (cI (fq (K:=K) rfl) (pv 2) (cN aa) cM) (aB (rm (K:=K) (w:=w) (tb:=deedT) rfl rfl (j4 (K:=K) (w:=w) (by rfl) tq.c_DEED_PARTS) (pv 3) (fun _ _=>rfl)) ae))) (fun _ _ _ _ _ _=>(cj (K:=K) (n:=2) rfl rfl (aP (pyn 0 (show ((["part","kind"]:List Str)++([]:List Str)).Nodup by decide +kernel)) (aP (pyn 1 (show ((["part","kind"]:List Str)++([]:List Str)).Nodup by decide +kernel)) bY)))) (fun _ _ _ _ _ _=>di) (fun _ _ _ _ _ _=>(pyk (ZiA tq :) hr.m (pyw 0 (pyv 1))))) ae)))) (ai (aq cW)) aQ) (ag (aK (PW.pt (bT (aA (ZpF (K:=K) (w:=w) (tb:=deedRowsT) rfl rfl) (pv 3) (j4 (K:=K) (w:=w) (by rfl) tq.c_DEED_ROWS) (by with_unfolding_all rfl)) (cC (aA (xU (K:=K) rfl) (wx K (pyk (j7 tq :) hr.m (pyw 0 (aB (wx K (wx K (pv 1) aa) (cg ce aa)) ae))) aa) (rm (K:=K) (w:=w) (tb:=deedRowsT) rfl rfl (j4 (K:=K) (w:=w) (by rfl) tq.c_DEED_ROWS) (pv 3) (fun _ _=>rfl)) (by with_unfolding_all rfl))))) (ai (aq cW)) aQ) (ai (aq (pe_or (dP gI (pv 3) aF (ax _)) (iQ (Znu eT dO aa (wx K (pv 2) aa) (wx K (pv 1) aa)))))))))))
 have hv:∃ (wd:Str) (ps:List T) (ks:List Str),dd=.tup (.str wd::ps)/\deedT.lookup wd=some ks/\ps.length=ks.length/\(∀ (i:Nat) x kd,ps[i]?=some x->ks[i]?=some kd->(kd="number"/\∃ i:Int,x=.int i)\/(kd="edge"/\∃ a b c:T,x=.tup [a,b,c]))/\ps.length<=3/\(∀ rs,deedRowsT.lookup wd=some rs->rs.contains r.row.1=true)/\(wd="hold"->∃ (w:Nat) (r:List T),ps=.int w::r/\w<n):=by
  have one:∀ {e:T},(∃ a b c,e=.tup [a,b,c])->∀ (i:Nat) x kd,[e][i]?=some x->(["edge"]:List Str)[i]?=some kd->(kd="number"/\∃ i:Int,x=.int i)\/(kd="edge"/\∃ a b c:T,x=.tup [a,b,c]):=fun h i x kd e1 e2=>by
   cases i with
   | zero=>cases e1;cases e2;exact .inr ⟨rfl,h⟩
   | succ i=>cases e1
  cases hd with
  | leave=>exact⟨"leave",[],[],rfl,rfl,rfl,fun i x kd h=>(by cases h),by simp,fun rs h=>(by cases h),fun h=>absurd h (by decide)⟩
  | go h=>exact⟨"go",_,["edge"],rfl,rfl,rfl,one (edg h),by simp,fun rs h=>(by cases h),fun h=>absurd h (by decide)⟩
  | @hold w c e hw hc h =>
   refine⟨"hold",_,["number","number","edge"],rfl,rfl,rfl,fun i x kd e1 e2=>?_,by simp,fun rs h=>(by cases h),fun _=>⟨w,_,rfl,hw⟩⟩
   match i,e1,e2 with
   | 0,e1,e2=>cases e1;cases e2;exact .inl ⟨rfl,_,rfl⟩
   | 1,e1,e2=>cases e1;cases e2;exact .inl ⟨rfl,_,rfl⟩
   | 2,e1,e2=>cases e1;cases e2;exact .inr ⟨rfl,edg h⟩
   | i+3,e1,_=>cases e1
  | @test p t a b hr2 h1 h2 =>
   refine⟨"test",_,["edge","edge"],rfl,rfl,rfl,fun i x kd e1 e2=>?_,by simp,fun rs h=>?_,fun h=>absurd h (by decide)⟩
   .match i,e1,e2 with
    | 0,e1,e2=>cases e1;cases e2;exact .inr ⟨rfl,edg h1⟩
    | 1,e1,e2=>cases e1;cases e2;exact .inr ⟨rfl,edg h2⟩
    | i+2,e1,_=>cases e1
   .cases h;rw[hrow] at hr2;rcases hr2 with e|e <;> (injection e with e;subst e;rfl)
  | tell hr2 h =>
   refine⟨"tell",_,["edge"],rfl,rfl,rfl,one (edg h),by simp,fun rs h=>?_,fun h=>absurd h (by decide)⟩;cases h;rw[hrow] at hr2;injection hr2 with e
   subst e;rfl
  | take hr2 h =>
   refine⟨"take",_,["edge"],rfl,rfl,rfl,one (edg h),by simp,fun rs h=>?_,fun h=>absurd h (by decide)⟩;cases h;rw[hrow] at hr2;injection hr2 with e
   subst e;rfl
 obtain⟨wd,ps,ks,rfl,hlk,hlen,hpt,h3l,hrs,hho⟩:=hv;ext;refine⟨wd,rfl,?_⟩;rw[hlk];ext;refine⟨wd,ks,rfl,hlk,?_⟩;ext;rw[cz,hlen,aY (by lia)];ext;refine cu (fun Γ'=>Ex2 fun c1 c2=>Γ'=[c1,c2]) ?_;ext;refine fi ?_;rw[iV (by decide) (by rw[cz];lia)];ext;refine⟨wd,ks,rfl,hlk,?_⟩;ext;refine⟨_,_,ps,ks.map T.str,rfl,.inl rfl,.inr ⟨ks,rfl,rfl⟩,by rw[af,jQ];lia,⟨.inl rfl,.inr ⟨ks,rfl,rfl⟩⟩,⟨_,_,rfl⟩,(ps.map fun _=>true).map T.bl,by rw[af,af,af,jQ,af,hlen,Nat.min_self],?_,?_⟩
 .rintro i z y Γ' hz hy ⟨c1,c2,rfl⟩;rw[ah] at hz;obtain⟨⟨a,b⟩,ez,rfl⟩:=aV.mp hz;obtain⟨ea,eb⟩:=lF.mp ez;dsimp only at ea eb;rw[ah] at eb;obtain⟨kd,ek,rfl⟩:=aV.mp eb;rw[ah,ah,ea] at hy;cases hy;refine cf rfl ?_;ext;refine⟨⟨_,_,rfl⟩,rfl,?_⟩;ext;exact⟨a,kd,rfl,hpt i a kd ea ek,rfl,rfl⟩
 ext;rw[jb];ext;refine⟨wd,rfl,?_⟩;have fin:if (!decide (wd=("hold":Str)))=true then Cl k (.bl true) G' else We P w K (mh (rI0 fun i j=>V.bl (decide (i<=j))) (rI0 fun i j=>V.bl (decide (i<j))) (tC (.int 0)) (tOp (rIxA K) (tVar 2) (tC (.int 1))) (tOp (rIxA K) (tVar 1) (tC (.int 0)))) [some (pgT Q),some (.tup [.int n,.lst ((f++[s]).map sfT),.tup (.str wd::ps)]),some (.tup (.str wd::ps)),some (.str wd)] G' (Cl k):=by
  by_cases hw:wd="hold"
  .obtain ⟨w9,r9,rfl,h9⟩:=hho hw;rw[aY hw];ext;rw[aY (show (w9:Int)<n by lia)];exact av q
  .rw[bo hw];ext;exact av q
 cases hdr:deedRowsT.lookup wd with
 | none =>
  ext;exact fin
 | some rs =>
  ext;refine aU lastAt ?_;ext;refine⟨Q,s,r,rfl,h0,h3,hrow,?_⟩;ext;refine⟨wd,rs,rfl,hdr,?_⟩;ext;refine l_notC ?_;rw[hrs rs hdr];ext;exact fin
theorem xJ{n:Nat}:∀ g∈aI n,Fo n (10^60) g:=fun g hg=>by
 unfold aI at hg;obtain⟨j,hj,rfl⟩:=aT.mp hg;exact jm (c:=0) (by decide) (gr.mp hj)
theorem xN{n w:Nat}{c:Int}(hc:c.natAbs<=10^60):∀ g∈cR n w c,Fo n (10^60) g:=fun g hg=>by
 rcases qv hg with hg|rfl
 .exact xJ g hg
 .exact Fo.nil hc
theorem ef_of{Q:List Df}(pk:PgK Q){n:Nat}(hn:n<=40){Pn:List (Nat×List SF)}{f:List SF}{s:SF}{dd:T}(fo:FrsOk Q n (10^60) f s)(cn:bO (f++[s]))(h:DdS Q Pn n f s dd):∃ (own:List Fm) (f':List SF) (s':SF) (sts:List (List SF)) (wd:Str) (ps es:List T),OwnV n dd own/\own.length<64/\(∀ g∈own,Fo own.length (10^60) g)/\(f++[s]).map (jA own)=f'++[s']/\FrsOk Q own.length (10^130) f' s'/\StaV Q f' s' own dd sts/\DdV dd wd ps es/\(∀ (i:Nat) l e,sts[i]?=some l->es[i]?=some e->∃ f2 s2 least,l=f2++[s2]/\FrsOk Q own.length (10^130) f2 s2/\EdS Q Pn own least (f2++[s2]) e)/\sts.length<=2:=by
 have B6:10^60<=10^130:=by decide +kernel
 have wl:∀ n,(aI n).length=n:=fun n=>by unfold aI;rw[af,eE]
 have pos:∀ t∈f++[s],∀ g∈t.2.2,PsW g:=fun t ht g hg p hp=>(((fo.all t ht).fm g hg).w p hp).1;have fw:(f++[s]).map (jA (aI n))=f++[s]:=pS (qT fo) cn pos (kO n);have fw1:(f++[s]).map (jA (aI (n+1)))=f++[s]:=pS (qT (jq fo (nt n) (aE _))) cn pos (kO (n+1));have fo0:FrsOk Q (aI n).length (10^130) f s:=by rw[wl];exact jq fo (aE n) B6
 have wf:∀ n,∀ g∈aI n,Fo (aI n).length (10^60) g:=fun n=>by rw[wl];exact xJ
 have hs:=fo.all s (by simp);obtain⟨d,r,hd,h2,hrow,h4,h0,h3,h5⟩:=dZ hs;have ok:=(pk.ok.2.2 d hd).rows r (aD h4);have one:∀ {own:List Fm} {f2:List SF} {s2:SF} {e:T} {least:Nat},FrsOk Q own.length (10^130) f2 s2->EdS Q Pn own least (f2++[s2]) e->∀ (i:Nat) l e',[f2++[s2]][i]?=some l->[e][i]?=some e'->∃ f2 s2 least,l=f2++[s2]/\FrsOk Q own.length (10^130) f2 s2/\EdS Q Pn own least (f2++[s2]) e':=fun {own f2 s2 e least} h1 h2 i l e' a1 a2=>by
  cases i with
  | zero=>cases a1;cases a2;exact⟨f2,s2,least,rfl,h1,h2⟩
  | succ i=>cases a1
 have nxt:¬ r.last->FrsOk Q (aI n).length (10^130) f (s.1,s.2.1+1,s.2.2):=fun hl=>by
  obtain⟨n1,n2⟩:=iH pk hs hrow hl;exact mj fo0 n1 n2
 have inr:∀ {t:Int},In0 t d.rows.length->FrsOk Q (aI n).length (10^130) f (s.1,t,s.2.2):=fun {t} ht=>mj fo0 ht.1 fun d' hd'=>by
  rw[h2] at hd';cases hd';have:=ht.2;have:=ht.1;lia
 cases h with
 | leave=>exact⟨aI n,f,s,_,_,_,_,.plain .leave (by decide) (by decide),by rw[wl];lia,wf n,fw,fo0,.leave,.leave,fun i l e _ h=>(by cases h),by simp⟩
 | go h=>exact⟨aI n,f,s,_,_,_,_,.plain .go (by decide) (by decide),by rw[wl];lia,wf n,fw,fo0,.go,.go,one fo0 h,by simp⟩
 | @hold w c e hw hc h =>
  have hl:(cR n w c).length=n:=ug n w c;have e2:(f++[s]).map (bE (cR n w c))=f.map (bE (cR n w c))++[bE (cR n w c) s]:=by rw[aW];rfl
  have fo2:FrsOk Q (cR n w c).length (10^130) (f.map (bE (cR n w c))) (bE (cR n w c) s):=by
   rw[hl];exact jq (tI fo (by rw[hl];exact aE n) (by rw[hl];lia) (xN hc)) (aE n) (by decide +kernel)
  rw[e2] at h;exact⟨cR n w c,_,_,_,_,_,_,.hold hw,by rw[hl];lia,by rw[hl];exact xN hc,e2,fo2,.hold,.hold,one fo2 h,by simp⟩
 | @test p t a b hr h1 h2' =>
  have hok:In0 t d.rows.length/\¬ r.last:=by
   rw[hrow] at hr;rcases hr with e|e <;> (injection e with e;subst e;exact⟨ok.2,fun h=>h⟩)
  refine⟨aI n,f,s,_,_,_,_,.plain .test (by decide) (by decide),by rw[wl];lia,wf n,fw,fo0,.test hr,.test,fun i l e a1 a2=>?_,by simp⟩
  match i,a1,a2 with
  | 0,a1,a2=>cases a1;cases a2;exact⟨f,_,0,rfl,inr hok.1,h1⟩
  | 1,a1,a2=>cases a1;cases a2;exact⟨f,_,0,rfl,nxt hok.2,h2'⟩
  | i+2,a1,_=>cases a1
 | @tell p e hr h =>
  have hok:¬ r.last:=by
   rw[hrow] at hr;injection hr with e;subst e;exact fun h=>h
  exact⟨aI n,f,s,_,_,_,_,.plain .tell (by decide) (by decide),by rw[wl];lia,wf n,fw,fo0,.tell hr,.tell,one (nxt hok) h,by simp⟩
 | @take p e hr h =>
  have fo1:FrsOk Q (aI (n+1)).length (10^130) f s:=by rw[wl];exact jq fo (nt n) B6
  have hr':=hr;rw[hrow] at hr';injection hr' with er
  subst er;obtain⟨n1,n2⟩:=iH pk hs hrow (fun h=>h);have p1:p<s.2.2.length:=by have:=ok.2;lia
  have fo3:FrsOk Q (aI (n+1)).length (10^130) f (s.1,s.2.1+1,s.2.2.set p.toNat (ofW n)):=by
   refine⟨fo.few,fun t ht=>?_,fo.call⟩;rcases aS.mp ht with ht|ht
   .exact fo1.all t (dJ _ ht)
   .rw[aM.mp ht];exact mf (fo1.all s (by simp)) (by rw[wl];exact(jm (N:=n+1) (c:=0) (by decide) (by lia)).le (aE _) B6) n1 n2
  exact⟨aI (n+1),f,s,_,_,_,_,.take,by rw[wl];lia,wf (n+1),fw1,fo1,.take hr ⟨ok.1,p1⟩ (by rw[wu];exact getLast?_concat),.take,one fo3 h,by simp⟩
def Zhb:Pre:=fun ts G k=>∃ (Q:List Df) (lane:List StL) (n:Nat) (f:List SF) (s:SF) (dd:T),ts=[pgT Q,.lst (lane.map stT),.lst ((lane.map fun _=>true).map T.bl),.tup [.int n,.lst ((f++[s]).map sfT),dd]]/\PgK Q/\lane.length<=1000/\(∀ d∈lane,PpK Q d.n d.fr)/\n<=40/\FrsOk Q n (10^60) f s/\bO (f++[s])/\DdS Q (pnL lane) n f s dd/\k (.bl true) G
theorem sc_edges_fit:FnScope ["program","lane","fits","stand","own","starts"] ["program","lane","fits","stand"] (aC qE):=by ac_nf
theorem ZiD(tq:Tq P w K mg base):Callee P w K mg base "edges_fit" 8 ["program","lane","fits","stand"] (spG P w K Zhb):=by
 refine tq.f4.okG sc_edges_fit (by walk_at"lnx") fun f cdv A outer s H E ts G k hr hh=>?_;have nd:=sc_edges_fit.nd;obtain⟨Q,lane,n,f,s,dd,rfl,pk,hl,hp,hn,fo,cn,hd,q⟩:=hh;obtain⟨own,f',s',sts,wd,ps,es,ow,ol,ofo,efl,fo',sv,dv,hz',h2⟩:=ef_of pk hn fo cn hd;have few:=fo.few;refine' go_G [some (pgT Q),some (.lst (lane.map stT)),some (.lst ((lane.map fun _=>true).map T.bl)),some (.tup [.int n,.lst ((f++[s]).map sfT),dd]),none,none] rfl ?hb ?hg
 case hb=>exact(ag (bI (i:=4) nd rfl (Or.inr rfl) (pyk (ZiB tq :) hr.m (pyv 3))) (ag (bI (i:=5) nd rfl (Or.inl rfl) (pyk (Ziy tq :) hr.m (pyw 0 (pyw 3 (pyv 4))))) (ai (aq (aG (iC (K:=K) rfl rfl) (by rfl) tq.b_all iL (dy (fO (LN:=["start","edge"]) (FN:=["program","lane","fits","own"]) (fr:=[0,1,2,4]) rfl (cV (by rfl)) (xS (t1:=false) (t2:=true) (K:=K) rfl (by rfl) tq.b_zip (pyw 5 (aR (pyk (wC tq :) hr.m (aB (wx K (pv 3) aa) ae)) ae))) (fun _ _ _ _ _ _=>(cj (K:=K) (n:=2) rfl rfl (aP (pyn 0 (show ((["start","edge"]:List Str)++(["program","lane","fits","own"]:List Str)).Nodup by decide +kernel)) (aP (pyn 1 (show ((["start","edge"]:List Str)++(["program","lane","fits","own"]:List Str)).Nodup by decide +kernel)) bY)))) (fun _ _ _ _ _ _=>di) (fun _ _ _ _ _ _=>(pyk (ZiE tq :) hr.m (pyw 2 (pyw 3 (pyw 4 (pyw 5 (pyw 0 (pyv 1))))))))) ae))))))
 ext;refine⟨n,_,dd,own,rfl,by lia,ow,?_⟩;ext;refine⟨Q,n,own.length,own.length,10^130,f++[s],f',s',dd,own,sts,rfl,pk,by rw[aH];simp;lia,fun t ht=>?_,ol,fun g hg=>⟨(ofo g hg).le (aE _) (by decide +kernel),ol⟩,efl,fo',sv,?_⟩
 .have hs:=fo.all t ht;have nl:n<=own.length:=by
   cases ow with
   | plain _ _ _=>unfold aI;rw[af,eE];exact aE n
   | take=>unfold aI;rw[af,eE];lia
   | hold _=>rw[ug];exact aE n
  exact⟨by have:=gk pk hs;lia,fun g hg=>⟨(hs.fm g hg).le nl (by decide +kernel),ol⟩⟩
 ext;refine cu (fun Γ'=>Ex2 fun c1 c2=>Γ'=[c1,c2,some (pgT Q),some (.lst (lane.map stT)),some (.lst ((lane.map fun _=>true).map T.bl)),some (.lst (own.map fmT))]) ?_;ext;refine⟨dd,wd,ps,es,rfl,dv,?_⟩;ext;refine⟨_,_,sts.map fun l=>T.lst (l.map sfT),es,rfl,.inl rfl,.inl rfl,by rw[af,jQ,af];lia,⟨.inl rfl,.inl rfl⟩,⟨_,_,rfl⟩,((sts.zip es).map fun _=>true).map T.bl,by rw[af,af,af,jQ,jQ,af],?_,?_⟩
 .rintro i z y Γ' hz hy ⟨c1,c2,rfl⟩;rw[ah] at hz;obtain⟨⟨a,b⟩,ez,rfl⟩:=aV.mp hz;obtain⟨ea,eb⟩:=lF.mp ez;dsimp only at ea eb;rw[ah] at ea;obtain⟨l,el,rfl⟩:=aV.mp ea;obtain⟨f2,s2,least,rfl,fo2,he⟩:=hz' i l b el eb;have ez2:(sts.zip es)[i]?=some (f2++[s2],b):=lF.mpr ⟨el,eb⟩;rw[ah,ah,ez2] at hy;cases hy;refine cf rfl ?_;ext;refine⟨⟨_,_,rfl⟩,rfl,?_⟩;ext;exact⟨Q,lane,own,f2,s2,b,least,rfl,pk,hl,hp,ol,ofo,fo2,he,rfl,rfl⟩
 ext;rw[jb];exact av q
structure GdL(Q:List Df)(lane:List StL):Prop where
 pk:PgK Q
 n1:1<=lane.length
 n2:lane.length<=100
 pp:∀ d∈lane,PpK Q d.n d.fr
 ch:∀ d∈lane,Chn Q (plcF d.fr)
 dd:DdL Q lane
def Zfw:Pre:=fun ts G k=>∃ (Q:List Df) (lane:List StL) (i:Nat),ts=[pgT Q,.lst (lane.map stT),.lst ((lane.map fun _=>true).map T.bl),.int i]/\GdL Q lane/\i<lane.length/\k .non G
theorem sc_stand_fault:FnScope ["program","lane","fits","k"] ["program","lane","fits","k"] (aC rF):=by ac_nf
theorem ZgH(tq:Tq P w K mg base):Callee P w K mg base "stand_fault" 9 ["program","lane","fits","k"] (spG P w K Zfw):=by
 refine tq.f5.okG sc_stand_fault (by walk_at"lnx") fun f cdv A outer s H E ts G k hr hh=>?_;have nd:=sc_stand_fault.nd;obtain⟨Q,lane,i,rfl,gd,hi,q⟩:=hh;have ei:lane[i]?=some lane[i]:=ay hi;generalize lane[i]=d at ei;have dm:=aD ei;obtain⟨n40,⟨f,s,efr,fo⟩,cn⟩:=gd.pp d dm;have hd:=gd.dd d dm f s efr;have n2:=gd.n2;have est:stT d=.tup [.int d.n,.lst ((f++[s]).map sfT),d.dd]:=by rw[<-efr]
 rw[efr] at cn;have dat:atI (lane.map stT) (i:Int)=some (.tup [.int d.n,.lst ((f++[s]).map sfT),d.dd]):=cD (n:=i) rfl (by rw[ah,ei,<- est];rfl);have fat:atI ((lane.map fun _=>true).map T.bl) (i:Int)=some (.bl true):=cD (n:=i) rfl (by rw[ah,ah,ei];rfl);refine' go_G [some (pgT Q),some (.lst (lane.map stT)),some (.lst ((lane.map fun _=>true).map T.bl)),some (.int i)] rfl ?hb ?hg
 case hb=>exact(ag (aK (dj (cy (wx K (pv 2) (pv 3)))) (ai (aq aF)) aQ) (ag (aK (dj (cy (pyk (ZiF tq :) hr.m (pyw 0 (aB (wx K (pv 1) (pv 3)) ae))))) (ai (aq aF)) aQ) (ag (aK (dj (cy (pyk (ZiD tq :) hr.m (pyw 0 (pyw 1 (pyw 2 (aB (wx K (pv 1) (pv 3)) ae))))))) (ai (aq aF)) aQ) (ai (aq cU)))))
 ext;refine aU fat ?_;ext;refine aU dat ?_;ext;refine⟨Q,d.n,_,f,s,d.dd,_,rfl,fo,hd,?_⟩;ext;refine aU dat ?_;ext;refine⟨Q,lane,d.n,f,s,d.dd,rfl,gd.pk,by lia,gd.pp,n40,fo,cn,hd,?_⟩;ext;exact av q
theorem dd_nor{Q:List Df}{Pn:List (Nat×List SF)}{n:Nat}{f:List SF}{s:SF}{dd:T}(h:DdS Q Pn n f s dd):NoR dd:=by
 have edg:∀ {own start} {e:T},EdS Q Pn own 1 start e->∃ (r:Nat) (m:T) (j:Nat),1<=r/\[e]=[.tup [.int r,m,.int j]]:=fun h=>by
  obtain⟨rows,moves,kk,_,_,rfl,h1,_⟩:=h;exact⟨rows,_,kk,h1,rfl⟩
 cases h with
 | leave=>exact⟨_,_,_,.leave,fun h=>h.elim (absurd · (by decide)) (absurd · (by decide))⟩
 | go h=>exact⟨_,_,_,.go,fun _=>edg h⟩
 | hold _ _ h=>exact⟨_,_,_,.hold,fun _=>edg h⟩
 | test _ _ _=>exact⟨_,_,_,.test,fun h=>h.elim (absurd · (by decide)) (absurd · (by decide))⟩
 | tell _ _=>exact⟨_,_,_,.tell,fun h=>h.elim (absurd · (by decide)) (absurd · (by decide))⟩
 | take _ _=>exact⟨_,_,_,.take,fun h=>h.elim (absurd · (by decide)) (absurd · (by decide))⟩
def Znp:Pre:=fun ts G k=>∃ (Q:List Df) (lane:List StL),ts=[pgT Q,.lst (lane.map stT)]/\GdL Q lane/\k .non G
theorem sc_fault:FnScope ["program","lane","fits","k","word"] ["program","lane"] (aC rO):=by ac_nf
theorem oA(tq:Tq P w K mg base):Callee P w K mg base "fault" 10 ["program","lane"] (spG P w K Znp):=by
 refine tq.f6.okG sc_fault (by walk_at"lnx") fun f cdv A outer s H E ts G' k hr hh=>?_;have nd:=sc_fault.nd;obtain⟨Q,lane,rfl,gd,q⟩:=hh;have n1:=gd.n1;have n2:=gd.n2;refine' go_G [some (pgT Q),some (.lst (lane.map stT)),none,none,none] rfl ?hb ?hg
 case hb=>exact(ag (aK (dj (g8 eT eT aa (aG (bj (K:=K) rfl) (by rfl) tq.b_len bi (pyv 1)) (ki (by rfl) tq.c_MOST_STANDS))) (ai (aq (aw (aj aa (aj aF ae))))) aQ) (ag (hU (i:=2) (LN:=["stand"]) (FN:=["program"]) (fr:=[0]) rfl nd rfl rfl (cV (by rfl)) (dS (K:=K) rfl (pv 1)) (fun _ _ _ _ _ _=>(pyn 0 (show ((["stand"]:List Str)++(["program"]:List Str)).Nodup by decide +kernel))) (fun _ _ _ _ _ _=>di) (fun _ _ _ _ _ _=>(pyk (ZhF tq :) hr.m (pyw 1 (aB (wx K (pv 0) aa) (aB (wx K (pv 0) aa) ae)))))) (ag (cE PassesOwn.never rfl (cX rfl tq.b_range (aR (aG (bj (K:=K) rfl) (by rfl) tq.b_len bi (pyv 1)) ae)) (pyn 3 nd) (ag (bI (i:=4) nd rfl (Or.inl rfl) (pyk (ZgH tq :) hr.m (pyw 0 (pyw 1 (pyw 2 (pyv 3)))))) (ai (aK (aA kt (pv 4) cU (ax _)) (ai (aq (aw (pyw 3 (pyv 4))))) aQ)))) (ai (aq (pyk (ZgI tq :) hr.m (pyv 1)))))))
 ext;rw[af,aY (by lia)];ext;rw[aY (by lia)];ext;refine cu (fun Γ'=>∃ c,Γ'=[c,some (pgT Q)]) ?_;ext;refine⟨_,si_l,by rw[af];lia,si_l,⟨_,rfl⟩,(lane.map fun _=>true).map T.bl,by rw[af,af,af],?_,?_⟩
 .rintro i z y Γ' hz hy ⟨c,rfl⟩;rw[ah] at hz;obtain⟨d,ed,rfl⟩:=aV.mp hz;rw[ah,ah,ed] at hy;cases hy;have dm:=aD ed;obtain⟨n40,⟨f,s,efr,fo⟩,cn⟩:=gd.pp d dm;have ch:=gd.ch d dm;rw[efr] at cn ch;ext;refine⟨⟨_,rfl⟩,rfl,?_⟩;ext;exact⟨Q,d.n,_,f,s,by rw[efr],gd.pk,n40,fo,cn,ch,rfl,rfl⟩
 ext;refine⟨lane.length,by rw[af],by lia,by lia,fun j Γ' G2=>G2=G'/\∃ c1 c2,Γ'=[some (pgT Q),some (.lst (lane.map stT)),some (.lst ((lane.map fun _=>true).map T.bl)),c1,c2],⟨rfl,_,_,rfl⟩,fun _ _ _ _=>trivial,?_,?_⟩
 .rintro j x Γ' G2 hx ⟨rfl,c1,c2,rfl⟩;rw[bB] at hx;obtain⟨rfl,hj⟩:=fY hx;ext;refine⟨Q,lane,j,rfl,gd,hj,?_⟩;ext;dsimp only;exact ck ⟨rfl,_,_,rfl⟩
 .rintro Γ' G2 ⟨rfl,c1,c2,rfl⟩;ext;refine⟨lane,rfl,by lia,fun d hd=>?_,av q⟩;obtain⟨_,⟨f,s,efr,_⟩,_⟩:=gd.pp d hd;exact dd_nor (gd.dd d hd f s efr)
noncomputable def PlA:Nat->T->Prop
 | 0,_=>False
 | m+1,t=>(∃ i,t=.int i)\/(∃ x,t=.str x)\/(∃ b,t=.bl b)\/∃ ts,(t=.tup ts\/t=.lst ts)/\ts.length<=1000/\∀ u∈ts,PlA m u
def j8(m:Nat):Pre:=fun ts G k=>∃ x,ts=[x,x]/\PlA m x/\k (.bl true) G
theorem sc__law_alike:FnScope ["found","due"] ["found","due"] (aC o7):=by ac_nf
theorem al_0(tq:Tq P w K mg base):Callee P w K mg base "_law_alike" 1 ["found","due"] (spG P w K (j8 0)):=by
 refine tq.f7.okG sc__law_alike (by walk_at"lnx") fun f cdv A outer s H E ts G k hr hh=>?_;obtain⟨x,_,h,_⟩:=hh;exact h.elim
theorem Zm1{m lev:Nat}(tq:Tq P w K mg base)(ZiK:Callee P w K mg base "_law_alike" lev ["found","due"] (spG P w K (j8 m))):Callee P w K mg base "_law_alike" (lev+1) ["found","due"] (spG P w K (j8 (m+1))):=by
 refine tq.f7.okG sc__law_alike (by walk_at"lnx") fun f cdv A outer s H E ts G k hr hh=>?_;have nd:=sc__law_alike.nd;have hu:=hr.units;obtain⟨x,rfl,h,q⟩:=hh;refine' go_G [some x,some x] rfl ?hb ?hg
 case hb=>exact(ag (aK (cy (aG sO (by rfl) tq.b_isinstance dN (pyw 1 (bf (aw (bn (dq (v:=.ty "list") (by rfl) tq.b_list ic rfl) (bn (dq (v:=.ty "tuple") (by rfl) tq.b_tuple du rfl) ae))) ae)))) (ag (aK (PW.pt (fe (dj (cy (aG sO (by rfl) tq.b_isinstance dN (pyw 0 (bf (aw (bn (dq (v:=.ty "list") (by rfl) tq.b_list ic rfl) (bn (dq (v:=.ty "tuple") (by rfl) tq.b_tuple du rfl) ae))) ae))))) (gh (aA gI (aG eF (by rfl) tq.b_isinstance dN (pyw 0 (bn (dq (v:=.ty "list") (by rfl) tq.b_list ic rfl) ae))) (aG eF (by rfl) tq.b_isinstance dN (pyw 1 (bn (dq (v:=.ty "list") (by rfl) tq.b_list ic rfl) ae))) (ax _))))) (ai (aq cW)) aQ) (ag (aK (aA gI (aG (bj (K:=K) rfl) (by rfl) tq.b_len bi (pyv 0)) (aG (bj (K:=K) rfl) (by rfl) tq.b_len bi (pyv 1)) (ax _)) (ai (aq cW)) aQ) (ai (aq (aG (iC (K:=K) rfl rfl) (by rfl) tq.b_all iL (dy (pyc ["k"] ["found","due"] [0,1] (cX rfl tq.b_range (aR (aG (bj (K:=K) rfl) (by rfl) tq.b_len bi (pyv 1)) ae)) (fun _ _ _ _ _ _=>(pyk ZiK hr.m (aB (wx K (pv 1) (pv 0)) (aB (wx K (pv 2) (pv 0)) ae))))) ae)))))) aQ) (ag (aK (PW.pt (fe (aA gI (aG eF (by rfl) tq.b_isinstance dN (pyw 0 (bn (dq (v:=.ty "bool") (by rfl) tq.b_bool nS rfl) ae))) (aG eF (by rfl) tq.b_isinstance dN (pyw 1 (bn (dq (v:=.ty "bool") (by rfl) tq.b_bool nS rfl) ae))) (ax _)) (gh (aA gI (aG eF (by rfl) tq.b_isinstance dN (pyw 0 (bn (dq (v:=.ty "int") (by rfl) tq.b_int m3 rfl) ae))) (aG eF (by rfl) tq.b_isinstance dN (pyw 1 (bn (dq (v:=.ty "int") (by rfl) tq.b_int m3 rfl) ae))) (ax _))))) (ai (aq cW)) aQ) (ai (aq (ju (dP bc (aG eF (by rfl) tq.b_isinstance dN (pyw 0 (bn (dq (v:=.ty "str") (by rfl) tq.b_str kw rfl) ae))) (aG eF (by rfl) tq.b_isinstance dN (pyw 1 (bn (dq (v:=.ty "str") (by rfl) tq.b_str kw rfl) ae))) (ax _)) (iQ (dP bc (pv 0) (pv 1) (ax _))))))))
 ext;rcases h with ⟨i,rfl⟩|⟨y,rfl⟩|⟨b,rfl⟩|⟨ts,hx,hl,hp⟩
 .ext;rw[aY rfl];exact av q
 .ext;rw[aY rfl];exact av q
 .ext;exact av q
 .obtain ⟨sq,pl,ty⟩:SqG G x ts/\x.plk=true/\(tyT G x == "list" || tyT G x == "tuple")=true:=by
   rcases hx with rfl|rfl
   .exact ⟨sg_t,rfl,rfl⟩
   .exact ⟨sg_l,rfl,rfl⟩
  refine tk_d pl ?_;rw[ty];ext;refine tk_d pl ?_;rw[ty];ext;refine tk_d pl ?_;ext;refine tk_d pl ?_;ext;refine cS sq ?_;ext;refine cS sq ?_;ext;rw[aY rfl];ext;refine cu (fun Γ'=>∃ c,Γ'=[c,some x,some x]) ?_;ext;refine cS sq ?_;ext;have hrl:(rngT (ts.length:Int).toNat).length=ts.length:=by unfold rngT;simp
  refine⟨ts.length,rfl,by lia,by lia,by rw[hrl];lia,trivial,⟨_,rfl⟩,(ts.map fun _=>true).map T.bl,by rw[af,af,hrl],?_,?_⟩
  .rintro i z y Γ' hz hy ⟨c,rfl⟩;unfold rngT at hz;rw[bB,ah] at hz;obtain ⟨j,ej,rfl⟩:=aV.mp hz;rw[ah,ah] at hy;cases et:ts[i]? with
   | none=>rw[et] at hy;cases hy
   | some t =>
   rw[et] at hy;cases hy;obtain⟨hi,hj⟩:=aX.mp ej;rw[getElem_range] at hj;subst hj;have at_:atI ts (i:Int)=some t:=cD (n:=i) rfl et;ext;refine⟨⟨_,rfl⟩,rfl,?_⟩;ext;refine l_ix sq at_ ?_;ext;refine l_ix sq at_ ?_;ext;exact⟨t,rfl,hp t (aD et),rfl,rfl⟩
  ext;have hal:(ts.map fun _=>true).all id=true:=by rw[iZ];intro x hx;obtain⟨_,_,rfl⟩:=aT.mp hx;rfl
  rw[hal];exact av q
theorem uv(tq:Tq P w K mg base):∀ m,Callee P w K mg base "_law_alike" (m+1) ["found","due"] (spG P w K (j8 m))
 | 0=>al_0 tq
 | m+1=>Zm1 tq (uv tq m)
theorem uy(tq:Tq P w K mg base):Callee P w K mg base "_law_alike" 12 ["found","due"] (spG P w K (j8 11)):=by exact uv tq 11
theorem ou : ∀ {m : Nat} {t : T}, PlA m t->PlA (m+1) t
  | 0, _, h=>h.elim
  | m + 1, t, h => by
    rcases h with h|h|h|⟨ts,hx,hl,hp⟩
    . exact .inl h
    . exact .inr (.inl h)
    . exact .inr (.inr (.inl h))
    . exact .inr (.inr (.inr ⟨ts, hx, hl, fun u hu=>ou (hp u hu)⟩))
theorem pa_le{m:Nat}{t:T}(h:PlA m t):∀ n,PlA (m+n) t
 | 0=>h
 | n+1=>ou (pa_le h n)
theorem rP : ∀ {m : Nat} {t : T}, PlD m t->PlA (m+1) t
  | 0, _, h => by
    rcases h with h|h
    . exact .inl h
    . exact .inr (.inl h)
  | m + 1, t, h => by
    rcases h with h|h|⟨ts,hx,hl,hp⟩
    . exact .inl h
    . exact .inr (.inl h)
    . exact .inr (.inr (.inr ⟨ts, .inl hx, hl, fun u hu=>rP (hp u hu)⟩))
theorem l6{α:Type}{m:Nat}{f:α->T}{l:List α}(hl:l.length<=1000)(h:∀ a∈l,PlA m (f a)):PlA (m+1) (.lst (l.map f)):=.inr (.inr (.inr ⟨_,.inr rfl,by rw[af];exact hl,fun u hu=>by
 obtain⟨a,ha,rfl⟩:=aT.mp hu;exact h a ha⟩))
theorem pa_3{m:Nat}{a b:Int}{t:T}(h:PlA (m+1) t):PlA (m+2) (.tup [.int a,.int b,t]):=.inr (.inr (.inr ⟨_,.inl rfl,by simp,fun u hu=>by
 rcases aJ.mp hu with rfl|hu
 .exact .inl ⟨_,rfl⟩
 rcases aJ.mp hu with rfl|hu
 .exact .inl ⟨_,rfl⟩
 .rw[aM.mp hu];exact h⟩))
theorem ZpD{Q:List Df}(pk:PgK Q){lane:List StL}(hl:lane.length<=1000)(h:LaneK Q lane):PlA 11 (.lst (lane.map stT)):=l6 hl fun d hd=>.inr (.inr (.inr ⟨_,.inl rfl,by simp,fun u hu=>by
 obtain⟨pp,pd⟩:=h d hd;rcases aJ.mp hu with rfl|hu
 .exact .inl ⟨_,rfl⟩
 rcases aJ.mp hu with rfl|hu
 .obtain ⟨f,s,e,ho⟩:=pp.ex;refine pa_le (l6 (by have:=ho.few;rw[e,aH];simp;lia) fun t ht=>pa_3 (m:=5) (rP ((uJ ?_ fun g hg=>?_).up (by decide)))) 1
  .rw[e] at ht;have:=gk pk (ho.all t ht);lia
  .rw[e] at ht;have:=((ho.all t ht).fm g hg).len;have:=pp.nb;lia
 .rw[aM.mp hu];exact rP pd⟩))
theorem ZpC{Q:List Df}(pk:PgK Q):PlA 10 (pgT Q):=l6 pk.ok.2.1 fun d hd=>pa_3 (m:=7) (l6 (pk.ok.2.2 d hd).n fun r hr=>by
 have ok:=(pk.ok.2.2 d hd).rows r hr;have n1:∀ {m:Nat} {i:Int},PlA (m+1) (.int i):=fun {m i}=>.inl ⟨i,rfl⟩;refine .inr (.inr (.inr ⟨_,.inl rfl,?_,fun u hu=>?_⟩))
 .cases r <;> simp[Rw.row,embs]
 .rcases aJ.mp hu with rfl|hu
  .exact .inr (.inl ⟨_,rfl⟩)
  .cases r with
   | call p f qs =>
    simp only[Rw.row,embs,aJ,bX,cG] at hu;rcases hu with rfl|rfl|rfl
    .exact n1
    .exact n1
    .obtain ⟨_,⟨d',_,hd',el⟩,_⟩:=ok;have hb:=pk.ok.2.2 d' (aD hd');have:=hb.t;have:=hb.b;rw[show emb (.tup (qs.map D.int))=.tup (qs.map T.int) by rw[emb,jY]];refine .inr (.inr (.inr ⟨_,.inl rfl,by rw[af];lia,fun u hu=>?_⟩));obtain⟨i,_,rfl⟩:=aT.mp hu;exact n1
   | _ =>
    simp only[Rw.row,embs,aJ,bX,cG] at hu;rcases hu with rfl|rfl|rfl
    all_goals exact n1)
theorem l_repM{G:GH}{k:T->GH->Prop}{d:T}{i:Int}(h1:-1000<=i)(h2:i<=1000)(h:∀ a,G a=none->k (.ptr a) (gput G a (.lst (List.replicate i.toNat d)))):L2r P w K rRep (.lst [d]) (.int i) G k:=fun H u v g r1 r2 Q z=>by
 cases r2;cases r1 with
 | lst _ e q =>
  cases q with
  | cons q1 q2 =>
   cases q2;refine⟨_,i,_,rfl,rfl,e,by lia,by lia,by rw[dY,lB];exact ik (by lia),fun p hp=>?_⟩;have hfl:∀ (n:Nat) (x:V),(List.replicate n [x]).flatten=List.replicate n x:=fun n x=>by
    induction n with
    | zero=>rfl
    | succ n ih=>rw[iy,iz,ih];rfl
   rw[hfl];obtain⟨g2,s3⟩:=g.putL (.inr hp) (RepTs.repl i.toNat q1);exact z _ _ _ _ s3 g2 .ptr (h p (g.free hp))
noncomputable def mvE(t m:Nat):T->T
 | .tup [a,b,.int k]=>.tup [a,b,.int ((k+t) % m)]
 | x=>x
noncomputable def mvD(t m:Nat):T->T
 | .tup (a::r)=>.tup (a::r.map (mvE t m))
 | x=>x
noncomputable def srcN(t m j:Nat):Nat:=(j+(m-t % m)) % m
theorem oS{t m k:Nat}(h:k<m):srcN t m ((k+t) % m)=k:=by
 unfold srcN;have hr:=i8 t (show 0<m by lia);have e:(k+t) % m=(k+t % m) % m:=by rw[Nat.add_mod,gQ h]
 rw[e];generalize t % m=r at hr;by_cases hk:k+r<m
 .rw[gQ hk,show k+r+(m-r)=k+m by lia,Nat.add_mod_right,gQ h]
 .rw[Nat.mod_eq_sub_mod (a:=k+r) (by lia),gQ (a:=k+r-m) (by lia),show k+r-m+(m-r)=k by lia,gQ h]
theorem oM{t m j:Nat}(h:j<m):(srcN t m j+t) % m=j/\srcN t m j<m:=by
 unfold srcN;have hr:=i8 t (show 0<m by lia);refine⟨?_,i8 _ (by lia)⟩;rw[Nat.add_mod,Nat.mod_mod];generalize t % m=r at hr;by_cases hk:j+(m-r)<m
 .rw[gQ hk,show j+(m-r)+r=j+m by lia,Nat.add_mod_right,gQ h]
 .rw[Nat.mod_eq_sub_mod (a:=j+(m-r)) (by lia),gQ (a:=j+(m-r)-m) (by lia),show j+(m-r)-m+r=j by lia,gQ h]
noncomputable def mvS(t m:Nat)(d:StL):StL:=⟨d.n,d.fr,mvD t m d.dd⟩
noncomputable def eW(t:Nat)(lane:List StL):List StL:=(List.range lane.length).map fun j=>mvS t lane.length (lane.getD (srcN t lane.length j) ⟨0,[],.non⟩)
theorem oQ{t:Nat}{lane:List StL}{j:Nat}(h:j<lane.length):∃ d,lane[srcN t lane.length j]?=some d/\(eW t lane)[j]?=some (mvS t lane.length d):=by
 have h2:=(oM (t:=t) h).2;refine⟨lane[srcN t lane.length j],ay h2,?_⟩;unfold eW;rw[ah,lE h];show some (mvS t lane.length (lane.getD _ _))=_;rw[cA,ay h2];rfl
theorem kK(t:Nat)(lane:List StL):(eW t lane).length=lane.length:=by unfold eW;rw[af,eE]
theorem qZ{t:Nat}{lane:List StL}{x:StL}(h:x∈eW t lane):∃ d∈lane,x=mvS t lane.length d:=by
 obtain⟨j,hj,e⟩:=getElem_of_mem h;rw[kK] at hj;obtain⟨d,h1,h2⟩:=oQ (t:=t) hj;refine⟨d,aD h1,?_⟩;have:=ay (l:=eW t lane) (i:=j) (by rw[kK];exact hj);rw[h2] at this;injection this with this
 rw[<-e,this]
theorem Zo2{t:Nat}{lane:List StL}{k:Nat}{x:Nat×List SF}(h:(pnL lane)[k]?=some x):(pnL (eW t lane))[(k+t) % lane.length]?=some x:=by
 have hk:=(aX.mp h).1;rw[af] at hk;obtain⟨d,h1,h2⟩:=oQ (t:=t) (j:=(k+t) % lane.length) (lane:=lane) (i8 _ (by lia));rw[oS hk] at h1;rw[ah,h2];rw[ah,h1] at h;exact h
theorem jc{Q:List Df}{lane:List StL}{t:Nat}{own:List Fm}{least:Nat}{start:List SF}{e:T}(h:EdS Q (pnL lane) own least start e):EdS Q (pnL (eW t lane)) own least start (mvE t lane.length e):=by
 obtain⟨rows,moves,k,n,fr,rfl,h2,h3,h4,h5⟩:=h;exact⟨rows,moves,(k+t) % lane.length,n,fr,rfl,h2,h3,Zo2 h4,h5⟩
theorem dds_mv{Q:List Df}{lane:List StL}{t:Nat}{n:Nat}{f:List SF}{s:SF}{dd:T}(h:DdS Q (pnL lane) n f s dd):DdS Q (pnL (eW t lane)) n f s (mvD t lane.length dd):=by
 cases h with
 | leave=>exact .leave
 | go h=>exact .go (jc h)
 | @hold w c e hw hc h=>exact DdS.hold (w:=w) (c:=c) (e:=mvE t lane.length e) hw hc (jc h)
 | test hr h1 h2=>exact .test hr (jc h1) (jc h2)
 | tell hr h=>exact .tell hr (jc h)
 | take hr h=>exact .take hr (jc h)
theorem GdL.turn{Q:List Df}{lane:List StL}(h:GdL Q lane)(t:Nat):GdL Q (eW t lane):=by
 refine⟨h.pk,by rw[kK];exact h.n1,by rw[kK];exact h.n2,fun x hx=>?_,fun x hx=>?_,fun x hx f s e=>?_⟩
 .obtain ⟨d,hd,rfl⟩:=qZ hx;exact h.pp d hd
 .obtain ⟨d,hd,rfl⟩:=qZ hx;exact h.ch d hd
 .obtain ⟨d,hd,rfl⟩:=qZ hx;exact dds_mv (h.dd d hd f s e)
inductive Dpt(dd:T):Prop
 | mk (wd ps) (_:dd=.tup (.str wd::ps)) (_:ps.length<=3) (_:∀ p∈ps,(∃ i,p=.int i)\/∃ (a b:T) (k:Nat),p=.tup [a,b,.int k]):Dpt dd
theorem dpt_of{Q:List Df}{P:List (Nat×List SF)}{n:Nat}{f:List SF}{s:SF}{dd:T}(h:DdS Q P n f s dd):Dpt dd:=by
 have ed:∀ {own least start} {e:T},EdS Q P own least start e->∃ (a b:T) (k:Nat),e=.tup [a,b,.int k]:=fun h=>by
  obtain⟨rows,moves,kk,_,_,rfl,_⟩:=h;exact⟨_,_,kk,rfl⟩
 cases h with
 | leave=>exact⟨_,[],rfl,by simp,fun p h=>nomatch h⟩
 | go h=>exact⟨_,_,rfl,by simp,fun p hp=>by rw[aM.mp hp];exact .inr (ed h)⟩
 | hold _ _ h =>
  refine⟨_,_,rfl,by simp,fun p hp=>?_⟩;rcases aJ.mp hp with rfl|hp
  .exact .inl ⟨_,rfl⟩
  rcases aJ.mp hp with rfl|hp
  .exact .inl ⟨_,rfl⟩
  .rw[aM.mp hp];exact .inr (ed h)
 | test _ h1 h2 =>
  refine⟨_,_,rfl,by simp,fun p hp=>?_⟩;rcases aJ.mp hp with rfl|hp
  .exact .inr (ed h1)
  .rw[aM.mp hp];exact .inr (ed h2)
 | tell _ h=>exact⟨_,_,rfl,by simp,fun p hp=>by rw[aM.mp hp];exact .inr (ed h)⟩
 | take _ h=>exact⟨_,_,rfl,by simp,fun p hp=>by rw[aM.mp hp];exact .inr (ed h)⟩
def Zgl:Pre:=fun ts G k=>∃ (a b:T) (j t m:Nat),ts=[.tup [a,b,.int j],.int t,.int m]/\0<m/\k (.tup [a,b,.int ((j+t) % m)]) G
theorem sc__law_moved_edge:FnScope ["edge","turn","many"] ["edge","turn","many"] (aC oW):=by ac_nf
theorem Zeq(tq:Tq P w K mg base):Callee P w K mg base "_law_moved_edge" 1 ["edge","turn","many"] (spG P w K Zgl):=by
 refine tq.f8.okG sc__law_moved_edge (by walk_at"lnx") fun f cdv A outer s H E ts G k hr hh=>?_;have nd:=sc__law_moved_edge.nd;obtain⟨a,b,j,t,m,rfl,hm,q⟩:=hh;refine' go_G [some (.tup [a,b,.int j]),some (.int t),some (.int m)] rfl ?hb ?hg
 case hb=>exact(ai (aq (aw (aB (wx K (pv 0) aa) (aB (wx K (pv 0) aa) (bM (au fL (au bD (wx K (pv 0) aa) (pv 1)) (pv 2)) ae))))))
 ext;refine j6 (by lia) ?_;ext;exact av q
def Zlg:Pre:=fun ts G k=>∃ (lane:List StL) (t:Nat),ts=[.lst (lane.map stT),.int t]/\1<=lane.length/\lane.length<=24/\(∀ d∈lane,Dpt d.dd)/\k (.lst ((eW t lane).map stT)) G
theorem sc__law_turned:FnScope ["lane","turn","many","found","k","deed","parts"] ["lane","turn"] (aC pH):=by ac_nf
theorem ZgN(tq:Tq P w K mg base):Callee P w K mg base "_law_turned" 2 ["lane","turn"] (spG P w K Zlg):=by
 refine tq.f9.okG sc__law_turned (by walk_at"lnx") fun f cdv A outer s H E ts G k hr hh=>?_;have nd:=sc__law_turned.nd;obtain⟨lane,t,rfl,h1,h24,hd,q⟩:=hh;refine' go_G [some (.lst (lane.map stT)),some (.int t),none,none,none,none,none] rfl ?hb ?hg
 case hb=>exact(ag (bI (i:=2) nd rfl (Or.inr rfl) (aG (bj (K:=K) rfl) (by rfl) tq.b_len bi (pyv 0))) (ag (dB (i:=3) nd rfl (Or.inl rfl) (au qX (bz (aj cU ae)) (pv 2))) (ag (cE PassesOwn.never rfl (cX rfl tq.b_range (pyv 2)) (pyn 4 nd) (ag (cL (i:=5) nd rfl (Or.inl rfl) (wx K (wx K (pv 0) (pv 4)) aa)) (ag (bI (i:=6) nd rfl (Or.inl rfl) (cY (ff (K:=K) rfl) (by rfl) tq.b_tuple du (dy (pyc ["part"] ["turn","many"] [1,2] (dD (K:=K) rfl (cI (fq (K:=K) rfl) (pv 5) (cN aa) cM)) (fun _ _ _ _ _ _=>(gG (cy (aG eF (by rfl) tq.b_isinstance dN (pyw 0 (bn (dq (v:=.ty "tuple") (by rfl) tq.b_tuple du rfl) ae)))) (pyk (Zeq tq :) hr.m (pyw 0 (pyw 1 (pyv 2)))) (pv 0)))) ae))) (ai (bV (aw (aB (wx K (wx K (pv 0) (pv 4)) aa) (aB (wx K (wx K (pv 0) (pv 4)) aa) (bM (au (gR (K:=K) rfl) (aw (aB (wx K (pv 5) aa) ae)) (pv 6)) ae)))) (cH (pv 3) (au fL (au bD (pv 4) (pv 1)) (pv 2)) cK)))))) (ai (aq (pv 3))))))
 ext;rw[af];refine l_repM (by lia) (by lia) fun fa nfa=>?_;ext;have e0:gput G fa (.lst (List.replicate (lane.length:Int).toNat .non))=gput G fa (.lst (List.replicate lane.length T.non)):=by rw[bB]
 rw[e0];refine⟨lane.length,rfl,by lia,by lia,fun i Γ' G'=>∃ (us:List T) (c1 c2 c3:Option T),Γ'=[some (.lst (lane.map stT)),some (.int t),some (.int lane.length),some (.ptr fa),c1,c2,c3]/\G'=gput G fa (.lst us)/\us.length=lane.length/\∀ k d,k<i->lane[k]?=some d->us[(k+t) % lane.length]?=some (stT (mvS t lane.length d)),⟨_,_,_,_,rfl,rfl,ir,fun k d h=>absurd h (by lia)⟩,fun _ _ _ _=>trivial,?_,?_⟩
 .rintro i x Γ' G' hx ⟨us,c1,c2,c3,rfl,rfl,hl,hv⟩;rw[bB] at hx;obtain ⟨rfl,hi⟩:=fY hx;have ei:lane[i]?=some lane[i]:=ay hi;generalize lane[i]=d at ei;obtain ⟨wd,ps,edd,h3,hp⟩:=hd d (aD ei);have dat:atI (lane.map stT) (i:Int)=some (.tup [.int d.n,.lst (d.fr.map sfT),.tup (.str wd::ps)]):=cD (n:=i) rfl (by rw[ah,ei,<- edd];rfl);ext;refine aU dat ?_;ext;refine cu (fun Γ'=>∃ c,Γ'=[c,some (.int t),some (.int lane.length)]) ?_;ext;refine fi ?_;rw[iV (by decide) (by rw[cz];lia)];show ∃ ts,T.tup ps=T.tup ts/\_;refine ⟨ps,rfl,by lia,trivial,⟨_,rfl⟩,ps.map (mvE t lane.length),by rw[af],?_,?_⟩
  .rintro j z y Γ' hz hy ⟨c,rfl⟩;rw[ah,hz] at hy;cases hy;ext;refine ⟨⟨_,rfl⟩,rfl,?_⟩;rcases hp z (aD hz) with ⟨v,rfl⟩|⟨a,b,v,rfl⟩
   .ext;exact⟨rfl,rfl⟩
   .ext;exact⟨a,b,v,t,lane.length,rfl,by lia,rfl,rfl⟩
  refine gE (eZ sg_l (fun _=>nofun) ?_);ext;refine aU dat ?_;ext;refine aU dat ?_;ext;refine gH (by rw[af,dY];lia) ?_;ext;refine j6 (by lia) ?_;have hm:(i+t) % lane.length<us.length:=by rw[hl];exact i8 _ (by lia)
  refine⟨fa,us,_,(i+t) % lane.length,rfl,rfl,gp_s,lK rfl hm,?_⟩;rw[gp_p];dsimp only;refine ck ⟨_,_,_,_,rfl,rfl,by rw[cQ];exact hl,fun k d' hk hd'=>?_⟩;by_cases e:k=i
  .subst e;rw[ei] at hd';cases hd';rw[io hm];show some (T.tup [.int d.n,.lst (d.fr.map sfT),.tup ([.str wd]++ps.map (mvE t lane.length))])=some (.tup [.int d.n,.lst (d.fr.map sfT),mvD t lane.length d.dd]);rw[edd];rfl
  .have hk':=(aX.mp hd').1;rw[jD fun h=>e (by rw[<-oS (t:=t) hk',<- h,oS hi])];exact hv k d' (by lia) hd'
 .rintro Γ' G' ⟨us,c1,c2,c3,rfl,rfl,hl,hv⟩;unfold rngT at hv;rw[af,eE,bB] at hv;ext;refine kf nfa (av ?_);have:us=(eW t lane).map stT:=by
   refine i4 fun j=>?_;by_cases hj:j<lane.length
   .obtain ⟨d,h1,h2⟩:=oQ (t:=t) hj;have:=hv _ d (oM (t:=t) hj).2 h1;rw[(oM hj).1] at this;rw[this,ah,h2];rfl
   .rw[eN (by lia),eN (by rw[af,kK];lia)]
  rw[this];exact q
end
end My
end
namespace My
open PySem L2
section
variable{P:Program}{w:World}{K:W.Frag}{mg:Str->Option Value}{base:Heap}{C:Addr}
theorem sc_law:FnScope ["script","bag","turn","program","lane","handed","kept"] ["script"] (aC mF):=⟨rfl,rfl,rfl,by decide +kernel,rfl,by decide +kernel,by decide +kernel⟩
theorem law_fn{f:Addr}{fd:FuncData}(tq:Tq P w K mg base)(T_law:Fun K "law" "law" mF f fd):FnOk P w K mg base CX0 14 f fd ["script"] (kH K):=by
 refine T_law.law (k:=13) sc_law fun cdv A outer s H a ns Q E hr hS hlen k=>?_;have nd:=sc_law.nd;have hu:=hr.units;refine' m6 [some (.ref a),none,none,none,none,none,none] rfl ?hb ?hg
 case hb=>exact(ag (bI (i:=1) nd rfl (Or.inl rfl) (pyk (Zkj tq :) hr.m (pyv 0))) (ag (bI (i:=2) nd rfl (Or.inl rfl) (pyk (br tq :) hr.m (pyw 1 (aj aa ae)))) (ag (bI (i:=3) nd rfl (Or.inl rfl) (pyk (ZfD tq :) hr.m (pyv 1))) (ag (bI (i:=4) nd rfl (Or.inl rfl) (pyk (ZiG tq :) hr.m (pyw 1 (pyv 3)))) (ag (hU (i:=5) (LN:=["many","paper","deed"]) (FN:=[]) (fr:=[]) rfl nd rfl rfl (cV (by rfl)) (dS (K:=K) rfl (pv 4)) (fun _ _ _ _ _ _=>(cj (K:=K) (n:=3) rfl rfl (aP (pyn 0 (show ((["many","paper","deed"]:List Str)++([]:List Str)).Nodup by decide +kernel)) (aP (pyn 1 (show ((["many","paper","deed"]:List Str)++([]:List Str)).Nodup by decide +kernel)) (aP (pyn 2 (show ((["many","paper","deed"]:List Str)++([]:List Str)).Nodup by decide +kernel)) bY))))) (fun _ _ _ _ _ _=>di) (fun _ _ _ _ _ _=>(aw (pyw 0 (aR (cY (lV (K:=K) rfl) (by rfl) tq.b_list ic (pyv 1)) (pyv 2)))))) (ag (hU (i:=6) (LN:=["takes","boxes","rows"]) (FN:=[]) (fr:=[]) rfl nd rfl rfl (cV (by rfl)) (dS (K:=K) rfl (pv 3)) (fun _ _ _ _ _ _=>(cj (K:=K) (n:=3) rfl rfl (aP (pyn 0 (show ((["takes","boxes","rows"]:List Str)++([]:List Str)).Nodup by decide +kernel)) (aP (pyn 1 (show ((["takes","boxes","rows"]:List Str)++([]:List Str)).Nodup by decide +kernel)) (aP (pyn 2 (show ((["takes","boxes","rows"]:List Str)++([]:List Str)).Nodup by decide +kernel)) bY))))) (fun _ _ _ _ _ _=>di) (fun _ _ _ _ _ _=>(aw (pyw 0 (pyw 1 (aR (cY (lV (K:=K) rfl) (by rfl) tq.b_list ic (pyv 2)) ae)))))) (ag (aK (PW.pt (fe (aA kt (pyk (oA tq :) hr.m (pyw 3 (pyv 5))) cU (ax _)) (fe (dj (cy (pyk (uy tq :) hr.m (pyw 5 (pyv 4))))) (gh (dj (cy (pyk (uy tq :) hr.m (pyw 3 (pyv 6))))))))) (ai (aq cW)) aQ) (ag (aK (aA kt (pyk (oA tq :) hr.m (pyw 3 (aR (pyk (ZgN tq :) hr.m (pyw 4 (pyv 2))) ae))) cU (ax _)) (ai (aq cW)) aQ) (ai (aq (dP mN (pyk (oA tq :) hr.m (pyw 3 (ma (bz (bf (aw (aB (wx K (wx K (pv 4) aa) aa) (aB (wx K (wx K (pv 4) aa) aa) (bf (aw (aj aF ae)) ae)))) ae)) ae))) cU (ax _))))))))))))
 refine law_go (P:=P) (w:=w) 5 hS hlen k fun b l=>?_;show Ws P w K _ [none,some (.ptr b),none,none,none,none,none] _ _;have hb:gput g0 b (.bag l) b=some (.bag l):=gp_s;generalize gput g0 b (.bag l)=G at hb;ext;refine bA hb ⟨by decide,by decide⟩ fun v v0 v1=>?_;ext;refine⟨b,l,rfl,hb,fun Q pk=>?_⟩;ext;refine⟨b,l,Q,rfl,hb,pk,fun lane lk dl ch h1 h24=>?_⟩;have gd:GdL Q lane:=⟨pk,h1,by lia,fun d hd=>(lk d hd).1,ch,dl⟩;ext;refine cu (fun Γ'=>Ex3 fun c1 c2 c3=>Γ'=[c1,c2,c3]) ?_;ext;refine⟨_,si_l,by rw[af];lia,si_l,⟨_,_,_,rfl⟩,lane.map stT,rfl,?_,?_⟩
 .rintro i z y Γ' hz hy ⟨c1,c2,c3,rfl⟩;rw[hz] at hy;cases hy;rw[ah] at hz;obtain⟨d,ed,rfl⟩:=aV.mp hz;refine cf rfl (dR (bt (dR (bt (dR (bt (iT ?_)))))));refine⟨⟨_,_,_,rfl⟩,rfl,?_⟩;ext;refine qQ sg_l ?_;ext;exact⟨rfl,rfl⟩
 ext;refine cu (fun Γ'=>Ex3 fun c1 c2 c3=>Γ'=[c1,c2,c3]) ?_;ext;refine⟨_,si_l,by rw[af];have:=pk.ok.2.1;lia,si_l,⟨_,_,_,rfl⟩,Q.map dfT,rfl,?_,?_⟩
 .rintro i z y Γ' hz hy ⟨c1,c2,c3,rfl⟩;rw[hz] at hy;cases hy;rw[ah] at hz;obtain⟨d,ed,rfl⟩:=aV.mp hz;refine cf rfl (dR (bt (dR (bt (dR (bt (iT ?_)))))));refine⟨⟨_,_,_,rfl⟩,rfl,?_⟩;ext;refine qQ sg_l ?_;ext;exact⟨rfl,rfl⟩
 ext;refine⟨Q,lane,rfl,gd,?_⟩;ext;refine⟨_,rfl,ZpD pk (by lia) lk,?_⟩;ext;refine⟨_,rfl,ou (ZpC pk),?_⟩;ext;obtain⟨t,rfl⟩:∃ t:Nat,v=t:=⟨v.toNat,by lia⟩;have dp:∀ d∈lane,Dpt d.dd:=fun d hd=>by
  obtain⟨f,s,e,_⟩:=(lk d hd).1.ex;exact dpt_of (dl d hd f s e)
 refine⟨lane,t,rfl,h1,h24,dp,?_⟩;ext;refine⟨Q,eW t lane,rfl,gd.turn t,?_⟩;ext;have e0:lane[0]?=some lane[0]:=ay h1;generalize lane[0]=d at e0;have dm:=aD e0;have dat:atI (lane.map stT) 0=some (stT d):=cD (n:=0) rfl (by rw[ah,e0];rfl);refine aU dat ?_;ext;refine aU dat ?_;ext;refine⟨Q,[⟨d.n,d.fr,.tup [.str "leave"]⟩],rfl,⟨pk,by simp,by simp,fun x hx=>?_,fun x hx=>?_,fun x hx f s e=>?_⟩,?_⟩
 .rw[aM.mp hx];exact(lk d dm).1
 .rw[aM.mp hx];exact ch d dm
 .rw[aM.mp hx];exact .leave
 ext;exact av rfl
end
section
open PySem.W PyProof.Rows
theorem ZpP(w:World){mg:Str->Option Value}{fa:Addr}{h:Heap}(X:(KK w.params).In h)(G:h.Ns mainGlobals mg)(hfa:mg "law"=some (.ref fa)):∃ fd:FuncData,(∀ (s:Shared) (v:Value),BindsTo s fd ⟨[v],[]⟩ [("script",v)])/\∀ base:Heap,(KK w.params).In base->base.Ns mainGlobals mg->FnOk PySem.Challenge.rw_midlanes_k33_whole_no_fault.prog w (KK w.params) mg base CX0 14 fa fd ["script"] (kH (KK w.params)):=by
 cases hfa.symm.trans (gv X G (v:=.ref 405));have tq {base:Heap}:Tq PySem.Challenge.rw_midlanes_k33_whole_no_fault.prog w (KK w.params) mg base:=⟨gz X G,gz X G,gz X G,gz X G,gz X G,gz X G,gz X G,gz X G,gz X G,gz X G,gz X G,gz X G,gz X G,gz X G,gz X G,⟨164,gv X G,by kernel_rfl,by decide +kernel,[("go",395,165),("test",397,166),("tell",400,167),("take",402,168),("hold",404,169),("leave",408,170)],6,by kernel_rfl,.cons ⟨rfl,⟨_,_,_,lo 165 (oT #[xs "edge" 396]),rfl,rfl,fH rfl,.cons ⟨_,rfl⟩ (.nil)⟩⟩ (.cons ⟨rfl,⟨_,_,_,lo 166 (oT #[xs "edge" 398,xs "edge" 399]),rfl,rfl,fH rfl,.cons ⟨_,rfl⟩ (.cons ⟨_,rfl⟩ (.nil))⟩⟩ (.cons ⟨rfl,⟨_,_,_,lo 167 (oT #[xs "edge" 401]),rfl,rfl,fH rfl,.cons ⟨_,rfl⟩ (.nil)⟩⟩ (.cons ⟨rfl,⟨_,_,_,lo 168 (oT #[xs "edge" 403]),rfl,rfl,fH rfl,.cons ⟨_,rfl⟩ (.nil)⟩⟩ (.cons ⟨rfl,⟨_,_,_,lo 169 (oT #[xs "number" 405,xs "number" 406,xs "edge" 407]),rfl,rfl,fH rfl,.cons ⟨_,rfl⟩ (.cons ⟨_,rfl⟩ (.cons ⟨_,rfl⟩ (.nil)))⟩⟩ (.cons ⟨rfl,⟨_,_,_,lo 170 (oT #[]),rfl,rfl,fH rfl,.nil⟩⟩ (.nil))))))⟩,⟨171,gv X G,by kernel_rfl,by decide +kernel,[("test",416,172),("tell",419,173),("take",421,174)],3,by kernel_rfl,.cons ⟨rfl,⟨_,_,_,lo 172 (oT #[xs "zero" 417,xs "below" 418]),rfl,rfl,fH rfl,.cons ⟨_,rfl⟩ (.cons ⟨_,rfl⟩ (.nil))⟩⟩ (.cons ⟨rfl,⟨_,_,_,lo 173 (oT #[xs "tell" 420]),rfl,rfl,fH rfl,.cons ⟨_,rfl⟩ (.nil)⟩⟩ (.cons ⟨rfl,⟨_,_,_,lo 174 (oT #[xs "take" 422]),rfl,rfl,fH rfl,.cons ⟨_,rfl⟩ (.nil)⟩⟩ (.nil)))⟩,⟨393,gv X G⟩,⟨326,gv X G⟩,⟨389,gv X G⟩,⟨391,gv X G⟩,⟨104,gv X G,_,_,_,lo 104 (oT #[xs "put" 302,xs "copy" 303,xs "plus" 304,xs "less" 305,xs "times" 306]),rfl,rfl,fH rfl,.cons ⟨_,rfl⟩ (.cons ⟨_,rfl⟩ (.cons ⟨_,rfl⟩ (.cons ⟨_,rfl⟩ (.cons ⟨_,rfl⟩ (.nil)))))⟩,(tf2 X G 284 LN0 553 283),(tf1 X G 291 LN0 553 290),(tf1 X G 277 LN0 553 276),(tf4 X G 296 LN0 553 295),(tf3 X G 301 LN0 553 300),(tf1 X G 306 LN0 553 305),(tf1 X G 28 "midlanes.forms" 196 27),(tf1 X G 35 "midlanes.forms" 196 34),(tf1 X G 70 "midlanes.forms" 196 69),(tf3 X G 98 "midlanes.forms" 196 97),(tf2 X G 103 "midlanes.forms" 196 102),(tf3 X G 91 "midlanes.forms" 196 90),(tf2 X G 42 "midlanes.forms" 196 41),(tf2 X G 49 "midlanes.forms" 196 48),(tf2 X G 56 "midlanes.forms" 196 55),(tf2 X G 63 "midlanes.forms" 196 62),(tf2 X G 111 "midlanes.rows" 300 110),(tf2 X G 118 "midlanes.rows" 300 117),(tf3 X G 139 "midlanes.papers" 324 138),(tf2 X G 146 "midlanes.papers" 324 145),(tf2 X G 132 "midlanes.papers" 324 131),(tf2 X G 153 "midlanes.papers" 324 152),(tf3 X G 158 "midlanes.papers" 324 157),(tf2 X G 125 "midlanes.papers" 324 124),(tf2 X G 163 "midlanes.papers" 324 162),(tf1 X G 21 "midlanes.wholes" 187 20),(tf1 X G 84 "midlanes.forms" 196 83),(tf2 X G 77 "midlanes.forms" 196 76),(tf3 X G 203 "midlanes.judge" 387 202),(tf3 X G 196 "midlanes.judge" 387 195),(tf3 X G 191 "midlanes.judge" 387 190),(tf2 X G 215 "midlanes.judge" 387 214),(tf1 X G 227 "midlanes.judge" 387 226),(tf1 X G 232 "midlanes.judge" 387 231),(tf3 X G 239 "midlanes.judge" 387 238),(tf3 X G 251 "midlanes.judge" 387 250),(tf1 X G 272 "midlanes.judge" 387 271),(tf2 X G 265 "midlanes.judge" 387 264),(tf1 X G 258 "midlanes.judge" 387 257),(tf3 X G 311 LN0 553 310),(tf2 X G 318 LN0 553 317),(tf1 X G 340 LN0 553 339),(tf2 X G 325 LN0 553 324),(tf2 X G 330 LN0 553 329),(tf2 X G 335 LN0 553 334),(tf2 X G 369 LN0 553 368),(tf4 X G 345 LN0 553 344),(tf3 X G 350 LN0 553 349),(tf4 X G 355 LN0 553 354),(tf6 X G 362 LN0 553 361),(tf5 X G 376 LN0 553 375),(tf2 X G 383 LN0 553 382),(tf6 X G 244 "midlanes.judge" 387 243),(tf2 X G 208 "midlanes.judge" 387 207),(tf4 X G 220 "midlanes.judge" 387 219),(tf4 X G 186 "midlanes.judge" 387 185),(tf2 X G 179 "midlanes.judge" 387 178),(tf2 X G 388 LN0 553 387),(tf3 X G 395 LN0 553 394),(tf2 X G 400 LN0 553 399)⟩;exact⟨_,fun s v=>.of_eq rfl,fun base _ _=>law_fn tq (T_law:=eV (lo 405 (oG "law" mF LN0 553 404)) (by kernel_rfl) (by kernel_rfl))⟩
end
end My
open PySem PySem.W PyProof.Rows
set_option maxHeartbeats 0 in
theorem PySem.Challenge.cw_midlanes_k33_whole_no_fault_holds : PySem.Challenge.rw_midlanes_k33_whole_no_fault.Holds := by
 refine holds_law My.SD fun said=>?_
 refine holds_open (XP:=XL My.QQ []) (YP:=My.HH.says) (L2.ZlH My.L0 My.L1) My.HH.of My.HH.keeps (fun s e=>xl_of s (Bool.and_eq_true_iff.mp e).1) XL.keeps (by rfl) (by rfl) (by rfl) (fun s e=>recFacts_of (Bool.and_eq_true_iff.mp e).2) (by rfl) said (by decide +kernel) ⟨rfl,rfl,rfl,rfl,rfl,by decide +kernel⟩ ?hw ?hc
 case hw=>w_witness2
 exact L2.ZoZ (l:=PySem.Challenge.rw_midlanes_k33_whole_no_fault) (n:=63) (k:=14) (x:="script") (CX:=fun _=>L2.CX0) (sp:=fun w=>L2.kH _) rfl (by decide) rfl ⟨rfl,by decide,by decide,rfl⟩ (fun w h Y=>PySem.W.kIn_of Y) (fun w mg fa h KX G hmg=>My.ZpP w KX G hmg) (fun _ _ a ns hl _ hS=>L2.Zm2 hl hS) (fun _ _ _ _ _ z=>z)
