import PyProof.Rows.All
import Wide.FinOn
import KE.KIsAll
import PyProof.EqAt
import PyProof.EqKinds
import PyProof.TupleCall
import PyProof.NeKinds
import KE.KDictSum
import PyProof.Rows.SortRuns
import PySem.SetOps
import PyProof.Rows.SetFrom
import PyProof.DictWalks
import PyProof.FactsAll.set_1
import PyProof.FactsAll.set_2
import PyProof.MakeMany
import PyProof.CollectWalk
import PyProof.Rows.SortShell
import PyProof.StrWalks
import PyProof.StrLoop
import PyProof.ZipIter
import PyProof.EnumMake
import PyProof.EnumStmt
import PyProof.EnumFor
import PyProof.MeetsDict
import PyProof.DictRoadsH
import KE.KUnpack
import PyProof.TupleIter
import PyProof.Draws
import PyProof.SliceStr2
import PyProof.StrBlockI
import PyProof.Rows.StrWeight2
import PyProof.StrOps2
import PyProof.ConsumeWalk
import KE.KItemsList
import KE.KDictList
import PyProof.ListRange
import KE.KSortTup
import KE.KIntText
import PyProof.StrBlockG
import PyProof.StrLawsTight
import PyProof.StrLawsChain
import KE.IntTextLaws
import PyProof.Rows.CatFin
import PyProof.ReprRoads
import PyProof.FitsInt
import PyProof.Rows.MinMaxN
import PySem.Challenge.RW_midlanes_k35_rounds_and_sizes
open Array renaming length_toList->fI,getElem?_toList->lE,forIn_toList->rp,getElem?_eq_some_iff->xY,getElem?_eq_none_iff->xZ
open Bool renaming false_ne_true->bL,false_eq_true->dA,not_true->g7,and_eq_true->iE,beq_eq_decide_eq->j6,eq_iff_iff->lu,false_or->nN,not_false->rq
open Int renaming toNat_natCast->bB,emod_nonneg->jr,emod_lt_of_pos->js,mul_comm->kf,le_refl->lH,natAbs_mul->lO,mul_one->nJ,zero_add->nZ,eq_ofNat_of_zero_le->q9,toNat_of_nonneg->rK
open List renaming length_map->af,getElem?_map->ak,getElem?_eq_getElem->aC,mem_of_getElem?->aF,mem_cons->aI,length_append->aJ,mem_singleton->aK,map_cons->aP,mem_cons_self->aQ,mem_append->aR,getElem?_eq_some_iff->aT,mem_map->aU,map_append->aY,mem_cons_of_mem->bD,size_toArray->bT,sum_cons->bW,getElem?_append_left->cg,append_assoc->cv,not_mem_nil->cw,length_set->cC,length_cons->cD,getElem?_concat_length->cE,getD_eq_getElem?_getD->cJ,cons_append->dB,length_range->dC,mem_append_left->dQ,append_nil->dR,nil_append->dS,nodup_cons->eh,length_singleton->eA,getElem?_eq_none->eB,mem_append_right->eI,find?_cons->eW,take_add_one->eY,take_length->eZ,nodup_append->fq,length_take->fJ,getElem?_append_right->fK,nodup_nil->fL,map_map->fM,map_nil->gc,map_congr_left->gj,mem_or_eq_of_mem_set->gk,dropLast_concat->gq,mem_iff_getElem?->gr,mem_range->gG,getLast?_eq_some_iff->gJ,getElem?_set_self->gV,any_cons->gW,length_replicate->iC,replicate_succ->iG,flatten_cons->iH,length_nil->iI,ext_getElem?->iJ,map_set->iL,getElem?_set_ne->jh,length_drop->jj,all_eq_true->jm,getElem?_replicate->jX,forIn_cons->j5,getElem?_range->kh,length_zip->ki,mem_filter->lr,lookup_cons->lG,pairwise_cons->lI,getElem_mem->lM,append_inj'->lS,map_singleton->lT,foldl_append->n6,getElem_of_mem->n9,getElem?_zip_eq_some->ou,eq_of_mem_replicate->rB,pairwise_singleton->rC,dropLast_concat_getLast->rD,set_eq_take_append_cons_drop->x6
open List.Pairwise renaming imp_of_mem->xW
open Nat renaming le_refl->aE,le_trans->bo,zero_le->bO,ne_of_lt->bZ,lt_of_lt_of_le->dy,lt_trans->dU,ne_of_gt->fk,lt_irrefl->fX,mul_le_mul_right->gn,le_of_lt->gH,mod_eq_of_lt->g8,le_of_eq->iF,pow_le_pow_right->iK,lt_of_le_of_lt->jk,le_of_ble_eq_true->jn,mod_lt->jq,min_le_right->jY,sub_le->jZ,one_mul->lN,sub_self->lP,le_add_right->lR,add_le_add_left->nP,le_succ->nR,add_assoc->nX,mul_le_mul_left->og,sub_zero->oh,le_of_not_lt->rh,lt_succ_of_lt->rj,add_sub_cancel->rE,not_lt_zero->rN
open Option renaming map_eq_some_iff->bh,map_some->gh,isSome_iff_exists->lA,isSome_map->rg,getD_some->rA,toList_some->rM,bind_eq_some_iff->xX
open PyProof.Rows renaming wpS_bind->eX,wpS_pure->gY,pairsOf_size->jo,slot_tuple_getitem->j0,listUpdate_at->j8,seqEpoch_at->j9,callWith_type1->nK,callWith_builtin1->xP
open PySem renaming wpAny_bind->ae,wpAny_pure->aq,wpAny_field->cY,wpAny_mono->dG,wpAny_call_entry->eJ,wpAny_newObj_type->eK,wpAny_holding->eV,wpAny_setField_rec->fO,wpAny_truthy_bool->fY,wpAny_seqItems->gI,wpAny_rule->gZ,wpAny_callSpecial?_slot->iD,wpAny_passesOwn->ji,wpAny_isInstance->jp,wpAny_pyIter_list->jW,wpAny_pyIter_tuple->ls,codeAny_mono->lz,wpAny_typeOf->lB,call_meets->lD,wpAny_specialOf->lF,wpAny_setField->lJ,wpAny_tupleItemsOf->lK,wpAny_attempt->lQ,wpAny_eqBool_int->nG,wpAny_execs_nil->nH,wpAny_standAt->nI,wpAny_Call_Name_kw->nM,tupleKind_room_in1->nO,wpAny_newTuple->nS,wpAny_newList->nT,wpAny_forIn_list->nW,isSubtype_tuple_tuple->nY,wpAny_dictEntries->oj,wpAny_dictEpoch->om,codeAny_builtin->oo,plainId_quiet->ot,wpAny_onRaise->ox,noFill_tuple_add->qZ,wpAny_typeNameOfWhole_itemiter->rF,wpAny_isOneOf_itemiter->rG,wpAny_typeNameOfWhole_keyiter->rJ,wpAny_updateSeq_pair->rL
open PySem.Around renaming under_plainId->oq
open PySem.Calls renaming spliced_cons->lv,spliced_nil->nL,callWith_builtin->rf,call_function_entry->xV
open PySem.Heap renaming lt_size->bn,get?_push_of_some->br,get?_push_size->ca,size_push->gX,get?_update_self->j4,get?_update_other->lC
open PySem.Obj renaming data_mapFields->nV
open PySem.SeqAt.EqAt renaming int_str->qX,str_int->qY,int_int->ra,str_str->rb,none_int->xQ,none_str->xR,int_none->xS,str_none->xT,of_refs->xU
open PySem.W renaming boot_heap->j7
def am:=@if_pos
def ao:=@if_neg
def aX:=@decide_eq_true
def bz:=@decide_eq_false
def ci:=@not_or
def cI:=@if_false
def dh:=@or_false
def fc:=@true_and
def fZ:=@if_true
def lq:=@beq_eq_false_iff_ne
def lL:=@of_decide_eq_true
def nQ:=@beq_self_eq_true
def nU:=@bne_self_eq_false
def rm:=@decide_eq_true_eq
def rH:=@decide_eq_decide
set_option Elab.async false
set_option genSizeOf false
set_option linter.all false
set_option maxRecDepth 100000
set_option maxHeartbeats 4000000
set_option autoImplicit false
set_option exponentiation.threshold 4000
set_option compiler.extract_closed false
open List (all_cons any_eq_false any_eq_true cons_ne_nil contains_cons dropLast_eq_take drop_eq_getElem_cons drop_sublist drop_zero eraseIdxIfInBounds_toArray eraseIdx_cons_succ filterMap_cons filterMap_map filter_append filter_cons find?_append find?_eq_none find?_isSome find?_nil find?_some foldl_cons forIn_nil getElem?_inj getElem?_take_of_lt getElem_inj getElem_map getElem_range getLast?_concat getLast?_eq_getElem? getLast?_eq_none_iff getLast?_map length_dropLast length_pos_iff map_drop map_eq_nil_iff map_id map_replicate map_snd_zip map_take mem_filterMap mem_map_of_mem mem_nil_iff mem_of_find?_eq_some mem_of_mem_drop mem_of_mem_take mergeSort_nil mergeSort_perm nil_perm of_mem_zip pairwise_append pairwise_iff_getElem pairwise_map pairwise_mergeSort range_succ reverse_cons reverse_reverse set_getElem_self sum_nil take_append_drop take_left take_of_length_le take_sublist take_zero zipIdx_cons zipIdx_nil zip_cons_cons)
noncomputable section
variable{x qual:PySem.Str}{u v:PySem.Value}{a it p d:PySem.Addr}{e tg:PySem.Expr}{pins:List (PySem.Addr×PySem.Obj)}{t' n n' B kk ep least k1 k2:Nat}{i j c:Int}{A:PySem.Around}{E:PySem.Value->PySem.Shared->Prop}{pos pos' apos:PySem.Pos}{es:List PySem.Expr}{hi:Option Int}{fp:List PySem.Addr}{fd:PySem.FuncData}{sc:PySem.Scope}{outer:List PySem.Env}{prog:PySem.Program}{items:Array PySem.Value}{ns:List Int}{loose LN FN ss:List PySem.Str}{fr:List Nat}{t1 t2:Bool}
section
namespace L2
open PySem PySem.Spec PyProof.Rows
abbrev Key:=Sum Int Str
def hU:Key->Value->Bool
 | .inl k,v=>Value.isInt k v
 | .inr x,v=>Value.isStrOf x v
def keyH(w:World):Key->Int
 | .inl k=>hashInt k
 | .inr x=>hashStr w x
theorem gN : ∀ {k : Key} {v : Value}, hU k v=true->(∃ i t, k=Sum.inl i/\v=Value.int i t)\/(∃ x t, k=Sum.inr x/\v=Value.str x t)
  | .inl i, v, h => by
    obtain⟨t,e⟩:=Value.isInt_shape (k:=i) (v:=v) h;exact .inl ⟨i,t,rfl,e⟩
  | .inr x, v, h => by
    obtain⟨t,e⟩:=Value.isStrOf_shape (x:=x) (v:=v) h;exact .inr ⟨x, t, rfl, e⟩
def ZlP(i:Int)(t:Tok):hU (.inl i) (.int i t)=true:=by simp[hU,Value.isInt]
def ZlO(x:Str)(t:Tok):hU (.inr x) (.str x t)=true:=by simp[hU,Value.isStrOf]
def key_ll(a b:Int):decide ((Sum.inl a:Key)=Sum.inl b)=(a == b):=by
 by_cases e:a=b
 .subst e;simp
 .have h:¬ (Sum.inl a:Key)=Sum.inl b:=fun q=>e (Sum.inl.inj q);rw[bz h];exact(lq.mpr e).symm
def key_rr(a b:Str):decide ((Sum.inr a:Key)=Sum.inr b)=decide (a=b):=by
 by_cases e:a=b
 .subst e;simp
 .have h:¬ (Sum.inr a:Key)=Sum.inr b:=fun q=>e (Sum.inr.inj q);rw[bz h,bz e]
def key_lr(a:Int)(b:Str):decide ((Sum.inl a:Key)=Sum.inr b)=false:=bz (fun q=>nomatch q)
def key_rl(a:Str)(b:Int):decide ((Sum.inr a:Key)=Sum.inl b)=false:=bz (fun q=>nomatch q)
noncomputable def cN(prog:Program)(w:World):PySem.KeyKind prog w Key where
 is:=hU
 hash:=keyH w
 inj:=fun v a b ha hb=>by
  rcases gN ha with ⟨i,t,rfl,rfl⟩|⟨x,t,rfl,rfl⟩
  .rcases gN hb with ⟨j,u,rfl,e⟩|⟨y,u,rfl,e⟩
   .injection e with e1 _;rw[e1]
   .exact nomatch e
  .rcases gN hb with ⟨j,u,rfl,e⟩|⟨y,u,rfl,e⟩
   .exact nomatch e
   .injection e with e1 _;rw[e1]
 byValue:=fun k v h=>by
  rcases gN h with ⟨i,t,rfl,rfl⟩|⟨x,t,rfl,rfl⟩ <;> rfl
 pyHash:=fun hv h=>by
  rcases gN hv with ⟨i,t,rfl,rfl⟩|⟨x,t,rfl,rfl⟩
  .exact wpAny_pyHash_int h
  .exact wpAny_pyHash_str h
 eqBool:=fun hu hv h=>by
  rcases gN hu with ⟨i,t,rfl,rfl⟩|⟨x,t,rfl,rfl⟩
  .rcases gN hv with ⟨j,u,rfl,rfl⟩|⟨y,u,rfl,rfl⟩
   .rw[key_ll] at h;exact nG h
   .rw[key_lr] at h;exact qX i t y u _ _ _ _ h
  .rcases gN hv with ⟨j,u,rfl,rfl⟩|⟨y,u,rfl,rfl⟩
   .rw[key_rl] at h;exact qY x t j u _ _ _ _ h
   .rw[key_rr] at h;exact wpAny_eqBool_str h
 «strs»:=fun k x t v h=>by
  rcases gN h with ⟨i,u,rfl,e⟩|⟨y,u,rfl,e⟩
  .exact nomatch e
  .injection e with e1 _
   subst e1;cases v <;> rfl
def Zib(prog:Program)(w:World)(i:Int)(t:Tok):(cN prog w).is (.inl i) (.int i t)=true:=ZlP i t
def o0(prog:Program)(w:World)(x:Str)(t:Tok):(cN prog w).is (.inr x) (.str x t)=true:=ZlO x t
end L2
namespace L2
variable{ks:List L2.Key}
open PySem PySem.Spec PyProof.Rows
inductive V where
 | non|bl (b:Bool)|int (i:Int)|str (x:Str)|byt (b:Array UInt8)|flt (b:UInt64)|ref (a:Addr)|ty (n:String)
 deriving DecidableEq
noncomputable def RelV:V->Value->Prop
 | .non,u=>u=Value.none
 | .bl b,u=>u=Value.bool b
 | .int i,u=>∃ t,u=Value.int i t
 | .str x,u=>∃ t,u=Value.str x t
 | .byt b,u=>∃ t,u=Value.bytes b t
 | .flt b,u=>∃ t,u=Value.float b t
 | .ref a,u=>u=Value.ref a
 | .ty n,u=>u=Value.type n
abbrev Vals:List V->List Value->Prop:=Paired RelV
def Vals.length{xs:List V}{us:List Value}(r:Vals xs us):xs.length=us.length:=Paired.length r
theorem Vals.get : ∀ {xs : List V} {us : List Value} {i : Nat} {x : V}, Vals xs us->xs[i]?=some x->∃ u, us[i]?=some u/\RelV x u
  | _, _, _, _, .nil, e=>by simp at e
  | _, _, 0, _, .cons r _, e=>by simp at e; subst e; exact⟨_, rfl, r⟩
  | _, _, i + 1, x, .cons _ t, e => by
    obtain⟨u,h1,h2⟩:=Vals.get (i:=i) (x:=x) t (by simpa using e);exact⟨u, by simpa using h1, h2⟩
theorem Vals.set{x:V}{u:Value}(r:RelV x u):∀ {xs:List V} {us:List Value} (i:Nat),Vals xs us->Vals (xs.set i x) (us.set i u)
 | _,_,_,.nil=>.nil
 | _,_,0,.cons _ t=>.cons r t
 | _,_,i+1,.cons q t=>.cons q (Vals.set r i t)
def Vals.append{xs ys:List V}{us ws:List Value}(h:Vals xs us)(s:Vals ys ws):Vals (xs++ys) (us++ws):=by
 induction h with
 | nil=>exact s
 | cons r _ ih=>exact .cons r ih
theorem Vals.take:∀ {xs:List V} {us:List Value} (n:Nat),Vals xs us->Vals (xs.take n) (us.take n)
 | _,_,0,_=>.nil
 | _,_,_+1,.nil=>.nil
 | _,_,n+1,.cons r t=>.cons r (Vals.take n t)
theorem Vals.drop:∀ {xs:List V} {us:List Value} (n:Nat),Vals xs us->Vals (xs.drop n) (us.drop n)
 | _,_,0,r=>r
 | _,_,_+1,.nil=>.nil
 | _,_,n+1,.cons _ t=>Vals.drop n t
def RelO:Option V->Option Value->Prop
 | some v,some u=>RelV v u
 | none,none=>True
 | _,_=>False
def KV{κ:Type}:List (κ×V)->List (κ×Value)->Prop:=Paired fun(p:κ×V) (q:κ×Value)=>p.1=q.1/\RelV p.2 q.2
def kV:Key->V
 | .inl i=>.int i
 | .inr x=>.str x
inductive HO where
 | lst (xs:List V)
 | tup (xs:List V)
 | dK (kvs:List (Key×V))|dT (kvs:List (List Key×V))
 | set (S:Int->Bool) (n:Nat)
 | ins (C dx:Addr) (fs:List (Str×V))
 | own (x:Addr)
 | xd (fs:List (Str×V))
 | met (f x:Addr)
 | rng (lo hi:Int)
 | frz (o:Obj) (u:HO)
 | tbl (ps:Array Value)
 | ext (φ:Heap->Prop)
abbrev Hp:=Addr->Option HO
def upd(H:Hp)(a:Addr)(o:HO):Hp:=fun b=>if b=a then some o else H b
def bP{H:Hp}{o:HO}:upd H a o a=some o:=by unfold upd;rw[am rfl]
def bC{H:Hp}{b:Addr}{o:HO}(h:b≠a):upd H a o b=H b:=by unfold upd;rw[ao h]
def ne_of{H:Hp}{b:Addr}{o u:HO}(h:H a=some o)(h':H b=some u)(d:o≠u):a≠b:=by
 intro e;subst e;rw[h] at h';exact d (Option.some.inj h')
def iM{H:Hp}{b:Addr}{o:HO}(h:H a=some o)(h':H b=none):a≠b:=by
 intro e;subst e;rw[h] at h';cases h'
section
variable(P:Program)(w:World)
noncomputable def ObjOk(H:Hp)(h:Heap)(a:Addr):HO->Prop
 | .lst xs=>xs.length<=sizeLine/\∃ (its:List Value) (n:Nat),Vals xs its/\h.get? a=some { cls:=.type "list",data:=.seq its.toArray n }
 | .tup xs=>xs.length<=sizeLine/\∃ its:List Value,Vals xs its/\IsTup h a its.toArray
 | .dK kvs=>kvs.length<=sizeLine/\(a == sysModules)=false/\∃ vs,KV kvs vs/\h.DictOf (cN P w) a vs
 | .dT kvs=>kvs.length<=sizeLine/\(a == sysModules)=false/\∃ xs:List (List Key×Addr×Value),
   Paired (fun(p:List Key×V) (q:List Key×Addr×Value)=>p.1=q.1/\H q.2.1=some (.tup (p.1.map kV))/\RelV p.2 q.2.2) kvs xs /\
   ∃ o es ep,h.get? a=some o/\o.ExactDict/\o.data=.dict es ep/\es.toList=xs.map (entryOfKey (tupleKind (cN P w)))/\(xs.map (·.1)).Nodup
 | .set S n=>h.SetOf (intKind P w) a S n
 | .ins C dx fs=>H dx=some (.own a)/\fs.length<=1000/\dx≠a/\h.get? a=some (PySem.W.instObj C dx) /\
   ∃ mA,h.Ns1 dx mA/\(∀ f,RelO (fs.lookup f) (mA f))/\PySem.Within mA (fs.map (·.1))
 | .own _=>∃ o,h.get? a=some o
 | .xd fs=>∃ mA,h.Ns1 a mA/\∀ f,RelO (fs.lookup f) (mA f)
 | .rng lo hi=>∃ t u v,h.get? a=some { cls:=.type "range",data:=.fields #[.int lo t,.int hi u,.int 1 v] }
 | .frz o u=>h.get? a=some o/\ObjOk H h a u
 | .tbl ps=>h.get? a=some { cls:=.none,data:=.fields ps }
 | .met f x=>h.get? a=some (PySem.W.methodObj (.ref f) (.ref x))
 | .ext φ=>φ h/\(∃ o,h.get? a=some o)/\∀ h1 h2:Heap,φ h1->(∀ o,h1.get? a=some o->h2.get? a=some o)->φ h2
def HOk(H:Hp)(h:Heap):Prop:=∀ a o,H a=some o->ObjOk P w H h a o
end
variable{ys vs:List L2.V}{H H' H1 H2:L2.Hp}{y:L2.V}{kvs:List (List L2.Key×L2.V)}
section
variable{P:Program}{w:World}{h h':Heap}{o:HO}
def ObjOk.lt(x:ObjOk P w H h a o):a<h.objs.size:=by
 cases o with
 | lst xs=>obtain⟨_,_,_,_,e⟩:=x;exact bn e
 | tup xs=>obtain⟨_,_,_,p⟩:=x;exact p.lt
 | dK kvs=>obtain⟨_,_,_,_,o,_,_,e,_⟩:=x;exact bn e
 | dT kvs=>obtain⟨_,_,_,_,o,_,_,e,_⟩:=x;exact bn e
 | set S n=>obtain⟨o,_,_,_,e,_⟩:=x;exact bn e
 | ins C dx fs=>obtain⟨_,_,_,e,_⟩:=x;exact bn e
 | own y=>obtain⟨_,e⟩:=x;exact bn e
 | xd fs=>obtain⟨_,⟨_,_,_,e,_⟩,_⟩:=x;exact bn e
 | rng lo hi=>obtain⟨_,_,_,e⟩:=x;exact bn e
 | frz ob u=>obtain⟨e,_⟩:=x;exact bn e
 | tbl ps=>exact bn (show h.get? a=some _ from x)
 | met f y=>exact bn (show h.get? a=some _ from x)
 | ext φ=>obtain⟨_,⟨_,e⟩,_⟩:=x;exact bn e
def Paired.mapP{α β:Type}{F G:α->β->Prop}{l₁:List α}{l₂:List β}(h:Paired F l₁ l₂)(f:∀ a b,F a b->G a b):Paired G l₁ l₂:=by
 induction h with
 | nil=>exact .nil
 | cons r _ ih=>exact .cons (f _ _ r) ih
def ObjOk.stay(x:ObjOk P w H h a o)(k:∀ b u,(b=a\/H b=some (.own a))->h.get? b=some u->h'.get? b=some u)
  (ho:∀ b,H b=some (.own a)->H' b=some (.own a)) (ht:∀ b xs,H b=some (.tup xs)->H' b=some (.tup xs)):ObjOk P w H' h' a o:=by
 induction o with
 | lst xs=>obtain⟨z,its,n,r,e⟩:=x;exact⟨z,its,n,r,k _ _ (.inl rfl) e⟩
 | tup xs=>obtain⟨z,its,r,ob,e,c⟩:=x;exact⟨z,its,r,ob,k _ _ (.inl rfl) e,c⟩
 | dK kvs=>obtain⟨z,y,vs,r,ob,es,ep,e,c⟩:=x;exact⟨z,y,vs,r,ob,es,ep,k _ _ (.inl rfl) e,c⟩
 | dT kvs =>
  obtain⟨z,y,xs,r,ob,es,ep,e,c⟩:=x;exact⟨z,y,xs,Paired.mapP r fun p q z=>⟨z.1,ht _ _ z.2.1,z.2.2⟩,ob,es,ep,k _ _ (.inl rfl) e,c⟩
 | set S n=>obtain⟨ob,es,ep,t,e,c⟩:=x;exact⟨ob,es,ep,t,k _ _ (.inl rfl) e,c⟩
 | ins C dx fs =>
  obtain⟨d,z,ne,e,mA,⟨od,es,ep,e2,c⟩,r⟩:=x;exact⟨ho _ d,z,ne,k _ _ (.inl rfl) e,mA,⟨od,es,ep,k _ _ (.inr d) e2,c⟩,r⟩
 | own y=>obtain⟨ob,e⟩:=x;exact⟨ob,k _ _ (.inl rfl) e⟩
 | xd fs=>obtain⟨mA,⟨od,es,ep,e,c⟩,r⟩:=x;exact⟨mA,⟨od,es,ep,k _ _ (.inl rfl) e,c⟩,r⟩
 | rng lo hi=>obtain⟨t,u,v,e⟩:=x;exact⟨t,u,v,k _ _ (.inl rfl) e⟩
 | frz ob u ih=>obtain⟨e,q⟩:=x;exact⟨k _ _ (.inl rfl) e,ih q⟩
 | tbl ps =>
  have e:h.get? a=some { cls:=.none,data:=.fields ps }:=x;show h'.get? a=some { cls:=.none,data:=.fields ps };exact k a _ (.inl rfl) e
 | met f y =>
  have e:h.get? a=some (PySem.W.methodObj (.ref f) (.ref y)):=x;show h'.get? a=some (PySem.W.methodObj (.ref f) (.ref y));exact k a _ (.inl rfl) e
 | ext φ=>obtain⟨p,⟨o,e⟩,st⟩:=x;exact⟨st _ _ p fun o q=>k _ _ (.inl rfl) q,⟨o,k _ _ (.inl rfl) e⟩,st⟩
def HOk.lt(x:HOk P w H h)(e:H a=some o):a<h.objs.size:=(x a o e).lt
def HOk.fresh(x:HOk P w H h)(e:h.objs.size<=a):H a=none:=by
 cases q:H a with
 | none=>rfl
 | some u=>exact absurd (dy (x.lt q) e) (fX _)
def HOk.kept(x:HOk P w H h)(k:∀ b u,h.get? b=some u->h'.get? b=some u):HOk P w H h':=fun a o e =>
 (x a o e).stay (fun b u _ q=>k b u q) (fun _ q=>q) fun _ _ q=>q
def HOk.laid(x:HOk P w H h)(k:∀ b u,h.get? b=some u->h'.get? b=some u)(hp:h.objs.size<=a)(new:ObjOk P w (upd H a o) h' a o):HOk P w (upd H a o) h':=fun b u e=>by
 have hn:=x.fresh hp;by_cases hb:b=a
 .subst hb;rw[bP] at e;cases e;exact new
 .rw[bC hb] at e;exact(x b u e).stay (fun c v _ q=>k c v q) (fun c q=>by rw[bC (iM q hn)];exact q) fun c xs q=>by rw[bC (iM q hn)];exact q
end
def Rd(H:Hp)(a:Addr)(u:HO):Prop:=H a=some u\/∃ o,H a=some (.frz o u)
def Rd.ok{P:Program}{w:World}{h:Heap}{u:HO}(r:Rd H a u)(x:HOk P w H h):ObjOk P w H h a u:=by
 rcases r with r|⟨o,r⟩
 .exact x a u r
 .obtain ⟨_,q⟩:=x a _ r;exact q
def Mut:Option HO->Prop
 | some (.lst _)=>True
 | some (.dK _)=>True
 | some (.dT _)=>True
 | some (.set _ _)=>True
 | some (.ins _ _ _)=>True
 | some (.ext _)=>True
 | _=>False
section
variable{P:Program}{w:World}{h h':Heap}{x e:Addr}{o':HO}
def HOk.write(ok:HOk P w H h)(mu:Mut (H x))(he:e=x\/H e=some (.own x))(k:∀ b u,b≠e->h.get? b=some u->h'.get? b=some u)(heo:∃ u,h'.get? e=some u)
  (new:ObjOk P w (upd H x o') h' x o'):HOk P w (upd H x o') h':=fun b u q=>by
 have nown:∀ c y,H c=some (.own y)->c≠x:=fun c y r z=>by subst z;rw[r] at mu;exact mu
 have ntup:∀ c xs,H c=some (.tup xs)->c≠x:=fun c xs r z=>by subst z;rw[r] at mu;exact mu
 by_cases hb:b=x
 .subst hb;rw[bP] at q;cases q;exact new
 .rw[bC hb] at q;by_cases hbe:b=e
  .have q':H b=some (.own x):=by
    rcases he with z|z
    .exact absurd (hbe.trans z) hb
    .rw[hbe];exact z
   rw[q] at q';cases q';obtain⟨v,hv⟩:=heo;exact⟨v,by rw[hbe];exact hv⟩
  .refine (ok b u q).stay (fun c v hc r=>k c v ?_ r) (fun c r=>by rw[bC (nown c b r)];exact r) fun c xs r=>by rw[bC (ntup c xs r)];exact r
   rcases hc with rfl|hc
   .exact hbe
   .rintro rfl;rcases he with z|z
    .exact nown c b hc z
    .rw[hc] at z;cases z;exact hb rfl
end
structure Un(fs ex:List Addr)(H H':Hp)(h h':Heap):Prop where
 keep:∀ b o,h.get? b=some o->H b=none->b∉fs->b∉ex->h'.get? b=some o
 slot:∀ b o,h.get? b=some o->H b=none->b∈fs->b∉ex->∃ sl,h'.get? b=some { o with slots:=sl }
 free:∀ b o,h.get? b=some o->H b=none->b∉ex->H' b=none
 there:∀ b o,h.get? b=some o->b∉ex->∃ o',h'.get? b=some o'
 tups:∀ b xs,H b=some (.tup xs)->H' b=some (.tup xs)
 frzs:∀ b o u,H b=some (.frz o u)->H' b=some (.frz o u)
 tbls:∀ b ps,H b=some (.tbl ps)->∃ more,H' b=some (.tbl (ps++more))
section
variable{fs fs' ex ex':List Addr}{h h1 h2 h':Heap}{x e:Addr}{o:HO}
def Un.any(u:Un fs ex H H1 h h1){b:Addr}{ob:Obj}(q:h.get? b=some ob)(n:H b=none)(hx:b∉ex):∃ sl,h1.get? b=some { ob with slots:=sl }:=by
 by_cases hb:b∈fs
 .exact u.slot b ob q n hb hx
 .exact ⟨ob.slots,u.keep b ob q n hb hx⟩
def Un.kept(k:∀ b u,h.get? b=some u->h'.get? b=some u):Un fs ex H H h h' :=
 ⟨fun b ob q _ _ _=>k b ob q,fun b ob q _ _ _=>⟨ob.slots,k b ob q⟩,fun _ _ _ n _=>n,fun b ob q _=>⟨ob,k b ob q⟩,fun _ _ q=>q,fun _ _ _ q=>q,fun _ ps q=>⟨#[],by rw[q];simp⟩⟩
def Un.refl:Un fs ex H H h h:=Un.kept fun _ _ q=>q
def Un.laid(k:∀ b u,h.get? b=some u->h'.get? b=some u)(hp:h.objs.size<=a)(hn:H a=none):Un fs ex H (upd H a o) h h' where
 keep:=fun b u q _ _ _=>k b u q
 slot:=fun b u q _ _ _=>⟨u.slots,k b u q⟩
 free:=fun b u q n _=>by rw[bC (bZ (dy (bn q) hp))];exact n
 there:=fun b u q _=>⟨u,k b u q⟩
 tups:=fun b xs q=>by rw[bC (iM q hn)];exact q
 frzs:=fun b u xs q=>by rw[bC (iM q hn)];exact q
 tbls:=fun b ps q=>⟨#[],by rw[bC (iM q hn),q];simp⟩
def Un.write(mu:Mut (H x))(he:e=x\/H e=some (.own x))(k:∀ b u,b≠e->h.get? b=some u->h'.get? b=some u)(heo:∃ u,h'.get? e=some u):Un fs ex H (upd H x o) h h':=by
 have hx:∀ b,H b=none->b≠x:=fun b n z=>by subst z;rw[n] at mu;exact mu
 have hb:∀ b,H b=none->b≠e:=fun b n z=>by
  subst z;rcases he with r|r
  .exact hx b n r
  .rw[n] at r;cases r
 have hm:∀ b u,H b=some u->¬ Mut (some u)->b≠x:=fun b u q nm z=>by subst z;rw[q] at mu;exact nm mu
 refine⟨fun b u q n _ _=>k b u (hb b n) q,fun b u q n _ _=>⟨u.slots,k b u (hb b n) q⟩,fun b u q n _=>by rw[bC (hx b n)];exact n,fun b u q _=>?_,
  fun b xs q=>by rw[bC (hm b _ q fun z=>z)];exact q,fun b u xs q=>by rw[bC (hm b _ q fun z=>z)];exact q,fun b ps q=>⟨#[],by rw[bC (hm b _ q fun z=>z),q];simp⟩⟩
 by_cases hbe:b=e
 .subst hbe;exact heo
 .exact ⟨u,k b u hbe q⟩
end
def trk(h:Heap)(H:Hp):List Addr:=(List.range h.objs.size).filter fun a=>(H a).isSome
def hidT(h:Heap)(H:Hp):Heap:=PySem.W.hideAll h (trk h H)
def Zl4(h:Heap)(H:Hp):(hidT h H).objs.size=h.objs.size:=PySem.W.hideAll_size _ _
def Znz{h:Heap}{b:Addr}{o:Obj}(e:h.get? b=some o)(n:H b=none):(hidT h H).get? b=some o :=
 PySem.W.hideAll_get _ e fun hm=>by
  have q:(H b).isSome=true:=(lr.mp hm).2;rw[n] at q;simp at q
def ZpR{h:Heap}{b:Addr}{o:Obj}(e:(hidT h H).get? b=some o):h.get? b=some o/\H b=none:=by
 have e':h.get? b=some o:=PySem.W.of_hideAll (trk h H) e;refine⟨e',?_⟩;cases q:H b with
 | none=>rfl
 | some x =>
  have hm:b∈trk h H:=lr.mpr ⟨gG.mpr (bn e'),by simp[q]⟩;have z:(hidT h H).get? b=none:=PySem.W.hideAll_none (trk h H) hm;rw[z] at e;cases e
def Zqq(g h:Heap)(L:Addr):List (Addr×Obj):=(List.range h.objs.size).filterMap fun a=>if a=L\/(g.get? a).isSome=true then none else (h.get? a).map fun o=>(a,o)
def rest(g h:Heap)(L d:Addr):List (Addr×Obj):=(Zqq g h L).filter fun p=>decide (p.1≠d)
end L2
namespace L2
variable{ys vs:List L2.V}{H H' H1 H2:L2.Hp}{y:L2.V}{kvs:List (List L2.Key×L2.V)}{ks:List L2.Key}
open PySem PySem.Spec PyProof.Rows
structure Mod(K:W.Frag)(mg:Str->Option Value)(base:Heap):Prop where
 kin:K.In base
 glob:base.Ns mainGlobals mg
 blt:∃ mb,base.Ns builtinsNs mb/\∀ x:Str,x≠"__name__"->mb x=bootBuiltins x
 nolimit:base.NoLimit
structure Cx where
 prog:Program
 w:World
 K:W.Frag
 mg:Str->Option Value
 base:Heap
 A:Around
 N:List Str
 s₀:Shared
 H₀:Hp
 env:Env
 outer:List Env
 stack:List Env
 ex:List Addr
 fn:Str->Bool
 calm:Bool
 pn:List (Addr×Obj)
 xe:Value->Shared->Prop
def frs(l:List Env):List Addr:=l.filterMap (·.frame)
abbrev Cx.fs(X:Cx):List Addr:=frs X.outer
def Vis(sc:Scope)(x:Str):Prop:=sc.names.lookup x=some .local\/sc.names.lookup x=some .cell\/sc.names.lookup x=some .free
def Loc(sc:Scope)(x:Str):Prop:=sc.names.lookup x=some .local\/sc.names.lookup x=some .cell
noncomputable def Look(env:Env)(h:Heap)(m:Str->Option Value)(x:Str)(u:Value):Prop :=
 (env.kindOf x=some .local/\m x=some u)\/((env.kindOf x=some .cell\/env.kindOf x=some .free)/\∃ c,env.cells.lookup x=some c/\h.IsCell c (some u))
structure Cx.Ok(X:Cx):Prop where
 mod:Mod X.K X.mg X.base
 kind:X.env.scope.kind=.function
 glob:X.env.globals=mainGlobals
 blt:X.env.builtins=builtinsNs
 above:X.s₀.heap.objs.size<=X.env.locals
 inj:∀ x y c,X.env.cells.lookup x=some c->X.env.cells.lookup y=some c->x=y
 has:∀ x,(X.env.kindOf x=some .cell\/X.env.kindOf x=some .free)->∃ c,X.env.cells.lookup x=some c
 cab:∀ x c,X.fn x=true->X.env.cells.lookup x=some c->X.s₀.heap.objs.size<=c
 hd:X.calm=true->X.A.handled=none
 frames:X.A.frames=some X.stack
 stk:X.stack=X.outer\/(X.stack=X.env::X.outer/\X.env.frame=some X.env.locals)
 exf:∀ b∈X.ex,b≠X.env.locals/\∀ x c,X.env.cells.lookup x=some c->c≠b
 bs:∀ b o,X.base.get? b=some o->X.s₀.heap.get? b=some o/\X.H₀ b=none
 bsz:X.base.objs.size<=X.s₀.heap.objs.size
 noex:∀ b o,X.base.get? b=some o->b∉X.ex
 exfs:∀ b∈X.ex,b∉X.fs
 funs:X.s₀.heap.FunFrames X.base X.outer
 frf:∀ b∈X.fs,X.H₀ b=none
structure Inv(X:Cx)(pins:List (Addr×Obj))(Z:List (Option V))(H:Hp)(s:Shared):Prop where
 ok:X.Ok
 os:s.os=X.s₀.os
 bare:AllBare s.gens
 base:Un X.fs X.ex X.H₀ H X.s₀.heap s.heap
 loc:∃ m,s.heap.Ns X.env.locals m/\∀ (i:Nat) (x:Str) (v:V),X.N[i]?=some x->Z[i]?=some (some v)->Vis X.env.scope x->∃ u,RelV v u/\Look X.env s.heap m x u
 cell:∀ x c,X.env.cells.lookup x=some c->∃ v,s.heap.IsCell c v
 free:H X.env.locals=none
 freeC:∀ x c,X.env.cells.lookup x=some c->H c=none
 pin:∀ p∈X.pn++pins,s.heap.get? p.1=some p.2/\H p.1=none/\p.1≠X.env.locals/\p.1∉X.fs/\∀ v,p.2.data≠.cell v
 hok:HOk X.prog X.w H s.heap
 len:Z.length=X.N.length
section
variable{X:Cx}{Z:List (Option V)}{s:Shared}{h':Heap}
def Cx.Ok.nofr(ok:X.Ok){b:Addr}{o:Obj}(e:X.base.get? b=some o):b∉X.fs:=fun hb=>by
 have:=(ok.funs.mem hb).1;rw[e] at this;cases this
def Inv.bs(I:Inv X pins Z H s):∀ b o,X.base.get? b=some o->s.heap.get? b=some o/\H b=none:=fun b o e =>
 ⟨I.base.keep b o (I.ok.bs b o e).1 (I.ok.bs b o e).2 (I.ok.nofr e) (I.ok.noex b o e),I.base.free b o (I.ok.bs b o e).1 (I.ok.bs b o e).2 (I.ok.noex b o e)⟩
def Inv.bk(I:Inv X pins Z H s):∀ b o,X.base.get? b=some o->s.heap.get? b=some o:=fun b o e=>(I.bs b o e).1
def Inv.mod(I:Inv X pins Z H s):Mod X.K X.mg X.base:=I.ok.mod
def Inv.kIn(I:Inv X pins Z H s):X.K.In s.heap:=I.ok.mod.kin.keeps I.bk
def Inv.lt(I:Inv X pins Z H s):X.env.locals<s.heap.objs.size:=let ⟨_,hn,_⟩:=I.loc;hn.lt
def Inv.sz(I:Inv X pins Z H s):X.s₀.heap.objs.size<=s.heap.objs.size:=bo I.ok.above (gH I.lt)
def Inv.nofs(I:Inv X pins Z H s)(h:s.heap.objs.size<=a):a∉X.fs:=fun hb=>by
 obtain⟨_,o,ho,_⟩:=I.ok.funs.mem hb;exact absurd (dy (bn ho) (bo I.sz h)) (fX _)
def Inv.cne(I:Inv X pins Z H s):∀ x c,X.env.cells.lookup x=some c->c≠X.env.locals:=fun x c e z=>by
 obtain⟨v,o,ho,hd⟩:=I.cell x c e;obtain⟨m,⟨o',es,ep,ho',hd',_⟩,_⟩:=I.loc;rw[z,ho'] at ho;cases ho;rw[hd'] at hd;cases hd
def Inv.funs(I:Inv X pins Z H s):s.heap.FunFrames X.base X.outer:=by
 have all:∀ (l:List Env),(∀ b∈frs l,b∈X.fs)->X.s₀.heap.FunFrames X.base l->s.heap.FunFrames X.base l:=by
  intro l
  induction l with
  | nil=>intro _ _;trivial
  | cons env r ih =>
   intro hs hl;obtain⟨hk,⟨L,o,hf,hn,ho,hd⟩,hr⟩:=hl;have hL:L∈X.fs:=hs L (by unfold frs;rw[filterMap_cons,hf];exact aQ);obtain⟨sl,e⟩:=I.base.slot L o ho (I.ok.frf L hL) hL fun z=>I.ok.exfs L z hL;exact⟨hk,⟨L,_,hf,hn,e,hd⟩,ih (fun b hb=>hs b (by unfold frs;rw[filterMap_cons,hf];exact bD _ hb)) hr⟩
 exact all X.outer (fun _ hb=>hb) I.ok.funs
def Inv.stack(I:Inv X pins Z H s):s.heap.FunFrames X.base X.stack:=by
 rcases I.ok.stk with e|⟨e,hf⟩
 .rw[e];exact I.funs
 .rw[e];obtain⟨m,hn,_⟩:=I.loc;refine .cons (by rw[I.ok.kind];decide) hf hn ?_ I.funs;exact Heap.get?_none_of_le (bo I.ok.bsz I.ok.above)
def Inv.stkSub(I:Inv X pins Z H s):∀ b∈frs X.stack,b∈X.env.locals::X.fs:=fun b hb=>by
 rcases I.ok.stk with e|⟨e,hf⟩
 .rw[e] at hb;exact bD _ hb
 .rw[e] at hb;unfold frs at hb;rw[filterMap_cons,hf] at hb;exact hb
def Inv.stkFree(I:Inv X pins Z H s):∀ b∈frs X.stack,H b=none:=fun b hb=>by
 rcases aI.mp (I.stkSub b hb) with e|hb
 .rw[e];exact I.free
 .obtain ⟨_,o,ho,_⟩:=I.ok.funs.mem hb;exact I.base.free b o ho (I.ok.frf b hb) fun z=>I.ok.exfs b z hb
def Inv.step{g':Array GenState}{t':Nat}{d':Drawn}{ch:List Addr}(I:Inv X pins Z H s)
  (hch:∀ b∈ch,(b∈X.ex\/X.s₀.heap.objs.size<=b)/\b≠X.env.locals/\(∀ x c,X.env.cells.lookup x=some c->c≠b)/\∀ p∈X.pn++pins,p.1≠b)
  (keep:∀ b o,b≠X.env.locals->b∉X.fs->b∉ch->s.heap.get? b=some o->H b=none->h'.get? b=some o)
  (slot:∀ b o,b≠X.env.locals->b∈X.fs->b∉ch->s.heap.get? b=some o->H b=none->∃ sl,h'.get? b=some { o with slots:=sl }) (free:∀ b o,b∉ch->s.heap.get? b=some o->H b=none->H' b=none)
  (there:∀ b o,b∉ch->s.heap.get? b=some o->∃ o',h'.get? b=some o')
  (tups:∀ b xs,H b=some (.tup xs)->H' b=some (.tup xs)) (frzs:∀ b o u,H b=some (.frz o u)->H' b=some (.frz o u)) (tbls:∀ b ps,H b=some (.tbl ps)->∃ more,H' b=some (.tbl (ps++more)))
  (ns:∀ m,s.heap.Ns X.env.locals m->h'.Ns X.env.locals m) (hok:HOk X.prog X.w H' h') (hg:AllBare g') :
  Inv X pins Z H' { s with heap:=h',gens:=g',drawn:=d',toks:=t' }:=by
 have neL:∀ b o,X.s₀.heap.get? b=some o->b≠X.env.locals:=fun b o e=>bZ (dy (bn e) I.ok.above);have neC:∀ b o,X.s₀.heap.get? b=some o->b∉X.ex->b∉ch:=fun b o e hx hb=>by
  rcases(hch b hb).1 with z|z
  .exact hx z
  .exact absurd (dy (bn e) z) (fX _)
 have cellK:∀ x c,X.env.cells.lookup x=some c->∀ v,s.heap.IsCell c v->h'.IsCell c v:=fun x c e v ⟨o,ho,hd⟩=>by
  have nch:c∉ch:=fun z=>(hch c z).2.2.1 x c e rfl;by_cases hc:c∈X.fs
  .obtain ⟨sl,q⟩:=slot c o (I.cne x c e) hc nch ho (I.freeC x c e);exact⟨_,q,hd⟩
  .exact ⟨o,keep c o (I.cne x c e) hc nch ho (I.freeC x c e),hd⟩
 refine⟨I.ok,I.os,hg,⟨fun b o e n hb hx=>?_,fun b o e n hb hx=>?_,fun b o e n hx=>?_,fun b o e hx=>?_,fun b xs e=>tups b xs (I.base.tups b xs e),fun b o xs e=>frzs b o xs (I.base.frzs b o xs e),fun b ps e=>?_⟩,?_,fun x c e=>?_,?_,fun x c e=>?_,fun p hp=>?_,hok,I.len⟩
 .exact keep b o (neL b o e) hb (neC b o e hx) (I.base.keep b o e n hb hx) (I.base.free b o e n hx)
 .obtain ⟨sl,e1⟩:=I.base.slot b o e n hb hx;obtain⟨sl',e2⟩:=slot b _ (neL b o e) hb (neC b o e hx) e1 (I.base.free b o e n hx);exact⟨sl',e2⟩
 .obtain ⟨o',e1⟩:=I.base.there b o e hx;exact free b o' (neC b o e hx) e1 (I.base.free b o e n hx)
 .obtain ⟨o',e1⟩:=I.base.there b o e hx;exact there b o' (neC b o e hx) e1
 .obtain ⟨m1,e1⟩:=I.base.tbls b ps e;obtain⟨m2,e2⟩:=tbls b _ e1;exact⟨m1++m2,by rw[e2,Array.append_assoc]⟩
 .obtain ⟨m,hn,hl⟩:=I.loc;refine ⟨m,ns m hn,fun i x v e1 e2 e3=>?_⟩;obtain ⟨u,r,l⟩:=hl i x v e1 e2 e3;refine ⟨u,r,?_⟩;rcases l with l|⟨k,c,e,z⟩
  .exact .inl l
  .exact .inr ⟨k,c,e,cellK x c e _ z⟩
 .obtain ⟨v,z⟩:=I.cell x c e;exact⟨v,cellK x c e v z⟩
 .obtain ⟨m,⟨o,_,_,ho,_⟩,_⟩:=I.loc;exact free _ o (fun z=>(hch _ z).2.1 rfl) ho I.free
 .obtain ⟨v,o,ho,hd⟩:=I.cell x c e;exact free c o (fun z=>(hch c z).2.2.1 x c e rfl) ho (I.freeC x c e)
 .obtain ⟨e,n,ne,nf,d⟩:=I.pin p hp;have nch:p.1∉ch:=fun z=>(hch p.1 z).2.2.2 p hp rfl;exact⟨keep p.1 p.2 ne nf nch e n,free p.1 p.2 nch e n,ne,nf,d⟩
def Inv.un{t':Nat}(I:Inv X pins Z H s)(u:Un X.fs [] H H' s.heap h')(hok:HOk X.prog X.w H' h'):Inv X pins Z H' { s with heap:=h',toks:=t' }:=by
 obtain⟨m,⟨o,es,ep,ho,r⟩,_⟩:=id I.loc;obtain⟨sl,hL⟩:=u.any ho I.free (by simp);exact I.step (g':=s.gens) (d':=s.drawn) (ch:=[]) (fun _ z=>nomatch z) (fun b o _ hb _ e n=>u.keep b o e n hb (by simp)) (fun b o _ hb _ e n=>u.slot b o e n hb (by simp)) (fun b o _ e n=>u.free b o e n (by simp)) (fun b o _ e=>u.there b o e (by simp)) u.tups u.frzs u.tbls (fun m' hm=>by
  obtain⟨o',es',ep',ho',r'⟩:=hm;rw[ho] at ho';cases ho';exact⟨_,es',ep',hL,r'⟩) hok I.bare
def Inv.call{g':Array GenState}{t':Nat}{d':Drawn}{ch:List Addr}(I:Inv X pins Z H s)(u:Un (frs X.stack) ch H H' s.heap h')(hok:HOk X.prog X.w H' h')(hg:AllBare g')
  (hch:∀ b∈ch,(b∈X.ex\/X.s₀.heap.objs.size<=b)/\b≠X.env.locals/\(∀ x c,X.env.cells.lookup x=some c->c≠b)/\∀ p∈X.pn++pins,p.1≠b) :
  Inv X pins Z H' { s with heap:=h',gens:=g',drawn:=d',toks:=t' }:=by
 obtain⟨m,⟨o,es,ep,ho,r⟩,_⟩:=id I.loc;obtain⟨sl,hL⟩:=u.any ho I.free fun z=>(hch _ z).2.1 rfl;exact I.step (ch:=ch) hch (fun b o hL hb hc e n=>u.keep b o e n (fun z=>(aI.mp (I.stkSub b z)).elim hL hb) hc) (fun b o _ _ hc e n=>u.any e n hc) (fun b o hc e n=>u.free b o e n hc) (fun b o hc e=>u.there b o e hc) u.tups u.frzs u.tbls (fun m' hm=>by
  obtain⟨o',es',ep',ho',r'⟩:=hm;rw[ho] at ho';cases ho';exact⟨_,es',ep',hL,r'⟩) hok hg
def Inv.turned{t':Nat}(I:Inv X pins Z H s)(k:∀ b o,b≠it->s.heap.get? b=some o->h'.get? b=some o)(hn:H it=none)(hL:it≠X.env.locals)
  (h1:it∈X.ex\/X.s₀.heap.objs.size<=it) (h2:∀ x c,X.env.cells.lookup x=some c->c≠it) (h3:∀ p∈X.pn++pins,p.1≠it):Inv X pins Z H { s with heap:=h',toks:=t' }:=by
 have nit:∀ b u,H b=some u->b≠it:=fun b u e z=>by rw[z,hn] at e;cases e
 refine I.step (g':=s.gens) (d':=s.drawn) (ch:=[it]) (fun b hb=>?_) (fun b o _ _ hc e _=>k b o (fun z=>hc (by simp[z])) e) (fun b o _ _ hc e _=>⟨o.slots,k b o (fun z=>hc (by simp[z])) e⟩) (fun _ _ _ _ n=>n)
  (fun b o hc e=>⟨o,k b o (fun z=>hc (by simp[z])) e⟩) (fun _ _ e=>e) (fun _ _ _ e=>e) (fun b ps e=>⟨#[],by rw[e];simp⟩) (fun m hm=>?_) (fun b u e=>?_) I.bare
 .have e:b=it:=by simpa using hb
  subst e;exact⟨h1,hL,h2,h3⟩
 .obtain ⟨o,es,ep,ho,r⟩:=hm;exact⟨o,es,ep,k _ o (Ne.symm hL) ho,r⟩
 .refine (I.hok b u e).stay (fun c v hc q=>k c v ?_ q) (fun _ q=>q) fun _ _ q=>q;rcases hc with z|z
  .rw[z];exact nit b u e
  .exact nit c _ z
def Inv.tok(I:Inv X pins Z H s)(t:Nat):Inv X pins Z H { s with toks:=t }:=I.un (h':=s.heap) (t':=t) Un.refl I.hok
def Inv.kept{t':Nat}(I:Inv X pins Z H s)(k:∀ b u,s.heap.get? b=some u->h'.get? b=some u):Inv X pins Z H { s with heap:=h',toks:=t' }:=I.un (Un.kept k) (I.hok.kept k)
def Inv.laid{a:Addr}{o:HO}{t':Nat}(I:Inv X pins Z H s)(k:∀ b u,s.heap.get? b=some u->h'.get? b=some u)(hp:s.heap.objs.size<=a)(new:ObjOk X.prog X.w (upd H a o) h' a o) :
  Inv X pins Z (upd H a o) { s with heap:=h',toks:=t' }:=I.un (Un.laid k hp (I.hok.fresh hp)) (I.hok.laid k hp new)
def Inv.write{x e:Addr}{o:HO}{t':Nat}(I:Inv X pins Z H s)(mu:Mut (H x))(he:e=x\/H e=some (.own x))(k:∀ b u,b≠e->s.heap.get? b=some u->h'.get? b=some u)(heo:∃ u,h'.get? e=some u)
  (new:ObjOk X.prog X.w (upd H x o) h' x o):Inv X pins Z (upd H x o) { s with heap:=h',toks:=t' }:=I.un (Un.write mu he k heo) (I.hok.write mu he k heo new)
def Inv.pins_of{pins':List (Addr×Obj)}(I:Inv X pins Z H s)(h:∀ p∈pins',s.heap.get? p.1=some p.2/\H p.1=none/\p.1≠X.env.locals/\p.1∉X.fs/\∀ v,p.2.data≠.cell v):Inv X pins' Z H s :=
 ⟨I.ok,I.os,I.bare,I.base,I.loc,I.cell,I.free,I.freeC,fun p hp=>(aR.mp hp).elim (fun z=>I.pin p (dQ _ z)) (h p),I.hok,I.len⟩
def sx{N:List Str}(hN:N.Nodup){i j:Nat}(a:N[i]?=some x)(b:N[j]?=some x):i=j:=by
 obtain⟨h1,e1⟩:=aT.mp a;obtain⟨h2,e2⟩:=aT.mp b;exact(getElem_inj hN).mp (e1.trans e2.symm)
def vc{M:Model}{A:Around}{E:Value->Shared->Prop}{i:Nat}{v:V}{Q:Unit->Shared->Prop}(I:Inv X pins Z H s)(hN:X.N.Nodup)(hi:X.N[i]?=some x)(hx:Loc X.env.scope x)(r:RelV v u)
  (h:∀ s',Inv X pins (Z.set i (some v)) H s'->(∃ a,Heap.SameBut a s.heap s'.heap/\(a=X.env.locals\/X.env.cells.lookup x=some a))->Q () s') (hf:X.fn x=true\/X.env.scope.names.lookup x=some .local:=by first|exact .inl rfl|exact .inr rfl|assumption):wpAny M A (storeName X.env x u) Q E s:=by
 obtain⟨m,hn,hl⟩:=id I.loc;have hcls:(X.env.scope.kind == .class || (X.env.scope.kind == .module&&X.env.locals != X.env.globals))=false:=by rw[I.ok.kind];rfl
 have hiσ:i<Z.length:=by rw[I.len];exact(aT.mp hi).1
 have cne:=I.cne;have tracked:∀ {a:Addr} {h':Heap},(∃ o,s.heap.get? a=some o/\H a=none)->Heap.SameBut a s.heap h'->HOk X.prog X.w H h':=fun {a h'} ha hs b ob e=>by
  obtain⟨_,_,hfree⟩:=ha;refine(I.hok b ob e).stay (fun c w' hc q=>(hs.2 c ?_).trans q) (fun _ q=>q) fun _ _ q=>q;rintro rfl;rcases hc with rfl|hc
  .rw[hfree] at e;cases e
  .rw[hfree] at hc;cases hc
 rcases hx with hk|hk
 .refine wpAny_storeName_local hk hn (fun h' hn' hs=>?_) hcls;obtain ⟨oL,_,_,hoL,_⟩:=id hn;refine h _ ⟨I.ok,I.os,I.bare,⟨fun b o e n hb hx=>?_,fun b o e n hb hx=>?_,I.base.free,fun b o e hx=>?_,I.base.tups,I.base.frzs,I.base.tbls⟩,⟨_,hn',fun j y v' e1 e2 e3=>?_⟩,fun y c e=>?_,I.free,I.freeC,fun p hp=>?_,tracked ⟨oL,hoL,I.free⟩ hs,by simpa using I.len⟩ ⟨_,hs,.inl rfl⟩
  .exact (hs.2 b (bZ (dy (bn e) I.ok.above))).trans (I.base.keep b o e n hb hx)
  .obtain ⟨sl,e1⟩:=I.base.slot b o e n hb hx;exact⟨sl,(hs.2 b (bZ (dy (bn e) I.ok.above))).trans e1⟩
  .obtain ⟨o',e1⟩:=I.base.there b o e hx;exact⟨o',(hs.2 b (bZ (dy (bn e) I.ok.above))).trans e1⟩
  .by_cases hj:j=i
   .subst hj;rw[hi] at e1;cases e1;rw[gV hiσ] at e2;cases e2;exact⟨u,r,.inl ⟨hk,by simp⟩⟩
   .rw[jh (Ne.symm hj)] at e2;obtain ⟨u',r',q⟩:=hl j y v' e1 e2 e3;refine ⟨u',r',?_⟩;rcases q with ⟨k,e⟩|⟨k,c,e,z⟩
    .refine .inl ⟨k,?_⟩;have:y≠x:=fun e=>hj (sx hN e1 (e▸hi));simp[this,e]
    .exact .inr ⟨k,c,e,z.sameBut hs (cne y c e)⟩
  .obtain ⟨w',z⟩:=I.cell y c e;exact⟨w',z.sameBut hs (cne y c e)⟩
  .obtain ⟨e,n,ne,nf,d⟩:=I.pin p hp;exact⟨(hs.2 p.1 ne).trans e,n,ne,nf,d⟩
 .have hfn:X.fn x=true:=by
   rcases hf with z|z
   .exact z
   .rw[z] at hk;cases hk
  obtain⟨c,hc⟩:=I.ok.has x (.inl hk);obtain⟨w',z⟩:=I.cell x c hc;refine wpAny_storeName_cell I.ok.kind hk hc z (fun h' hc' hs=>?_);obtain⟨oc,hoc,hocd⟩:=id z;refine h { s with heap:=h' } ⟨I.ok,I.os,I.bare,⟨fun b o e n hb hx=>?_,fun b o e n hb hx=>?_,I.base.free,fun b o e hx=>?_,I.base.tups,I.base.frzs,I.base.tbls⟩,⟨m,hn.sameBut hs (Ne.symm (cne x c hc)),fun j y v' e1 e2 e3=>?_⟩,fun y c' e=>?_,I.free,I.freeC,fun p hp=>?_,tracked ⟨oc,hoc,I.freeC x c hc⟩ hs,by simpa using I.len⟩ ⟨c,hs,.inr hc⟩
  .exact (hs.2 b (bZ (dy (bn e) (I.ok.cab x c hfn hc)))).trans (I.base.keep b o e n hb hx)
  .obtain ⟨sl,e1⟩:=I.base.slot b o e n hb hx;exact⟨sl,(hs.2 b (bZ (dy (bn e) (I.ok.cab x c hfn hc)))).trans e1⟩
  .obtain ⟨o',e1⟩:=I.base.there b o e hx;exact⟨o',(hs.2 b (bZ (dy (bn e) (I.ok.cab x c hfn hc)))).trans e1⟩
  .by_cases hj:j=i
   .subst hj;rw[hi] at e1;cases e1;rw[gV hiσ] at e2;cases e2;exact⟨u,r,.inr ⟨.inl hk,c,hc,hc'⟩⟩
   .rw[jh (Ne.symm hj)] at e2;obtain ⟨u',r',q⟩:=hl j y v' e1 e2 e3;refine ⟨u',r',?_⟩;rcases q with q|⟨k,c',e,z'⟩
    .exact .inl q
    .refine .inr ⟨k,c',e,z'.sameBut hs ?_⟩;rintro rfl;exact hj (sx hN e1 (I.ok.inj _ _ _ e hc▸hi))
  .by_cases hcc:c'=c
   .subst hcc;exact⟨_,hc'⟩
   .obtain ⟨w2,z2⟩:=I.cell y c' e;exact⟨w2,z2.sameBut hs hcc⟩
  .obtain ⟨e,n,ne,nf,d⟩:=I.pin p hp;refine⟨(hs.2 p.1 ?_).trans e,n,ne,nf,d⟩;intro q;rw[q,hoc] at e;have q':oc=p.2:=Option.some.inj e;exact d w' (by rw[<-q'];exact hocd)
def tG{M:Model}{A:Around}{E:Value->Shared->Prop}{i:Nat}{v:V}{Q:Unit->Shared->Prop}(I:Inv X pins Z H s)(hN:X.N.Nodup)(hi:X.N[i]?=some x)(hx:Loc X.env.scope x)(r:RelV v u)
  (h:∀ s',Inv X pins (Z.set i (some v)) H s'->Q () s') (hf:X.fn x=true\/X.env.scope.names.lookup x=some .local:=by first|exact .inl rfl|exact .inr rfl|assumption):wpAny M A (storeName X.env x u) Q E s :=
 vc I hN hi hx r (fun s' I' _=>h s' I') hf
def Inv.call'{s':Shared}{ch:List Addr}(I:Inv X pins Z H s)(ho:s'.os=s.os)(u:Un (frs X.stack) ch H H' s.heap s'.heap)(hok:HOk X.prog X.w H' s'.heap)(hg:AllBare s'.gens)
  (hch:∀ b∈ch,(b∈X.ex\/X.s₀.heap.objs.size<=b)/\b≠X.env.locals/\(∀ x c,X.env.cells.lookup x=some c->c≠b)/\∀ p∈X.pn++pins,p.1≠b):Inv X pins Z H' s':=by
 obtain⟨h',g',d',t',o'⟩:=s';have e:o'=s.os:=ho;subst e;exact I.call (g':=g') (t':=t') (d':=d') u hok hg hch
end
abbrev XK:=Value->Option Addr->Hp->Prop
abbrev St:=List (Option V)
abbrev VK:=V->Hp->Prop
abbrev TE:=St->Hp->VK->Prop
abbrev TT:=St->Hp->(Bool->Hp->Prop)->Prop
abbrev TA:=St->Hp->(List V->Hp->Prop)->Prop
structure Ends where
 nx:St->Hp->Prop
 rt:VK
 bk:St->Hp->Prop:=fun _ _=>False
 ct:St->Hp->Prop:=fun _ _=>False
abbrev TS:=Ends->St->Hp->Prop
def EP(X:Cx)(pins:List (Addr×Obj))(Z:St)(Q:VK)(u:Value)(s':Shared):Prop:=∃ v H',Inv X pins Z H' s'/\RelV v u/\Q v H'
def TP(X:Cx)(pins:List (Addr×Obj))(Z:St)(Q:Bool->Hp->Prop)(b:Bool)(s':Shared):Prop:=∃ H',Inv X pins Z H' s'/\Q b H'
def AP(X:Cx)(pins:List (Addr×Obj))(Z:St)(Q:List V->Hp->Prop)(us:List Value)(s':Shared):Prop:=∃ vs H',Inv X pins Z H' s'/\Vals vs us/\Q vs H'
noncomputable def SP(X:Cx)(pins:List (Addr×Obj))(D:Ends)(f:Flow)(s':Shared):Prop :=
 match f with
 | .next=>∃ σ' H',Inv X pins σ' H' s'/\D.nx σ' H'
 | .brk=>∃ σ' H',Inv X pins σ' H' s'/\D.bk σ' H'
 | .cont=>∃ σ' H',Inv X pins σ' H' s'/\D.ct σ' H'
 | .ret u=>∃ v σ' H',Inv X pins σ' H' s'/\RelV v u/\D.rt v H'
noncomputable def PE(X:Cx)(e:Expr)(t:TE):Prop :=
 ∀ (pins:List (Addr×Obj)) (s:Shared) (Z:St) (H:Hp) (Q:VK),Inv X pins Z H s->t Z H Q->wpAny (model X.prog X.w) X.A (eval e X.env) (EP X pins Z Q) X.xe s
noncomputable def PT(X:Cx)(e:Expr)(t:TT):Prop :=
 ∀ (pins:List (Addr×Obj)) (s:Shared) (Z:St) (H:Hp) (Q:Bool->Hp->Prop),Inv X pins Z H s->t Z H Q->wpAny (model X.prog X.w) X.A (isTrue e X.env (eval e X.env)) (TP X pins Z Q) X.xe s
noncomputable def PW(X:Cx)(e:Expr)(t:TT):Prop :=
 ∀ (whole:Sem Value) (pins:List (Addr×Obj)) (s:Shared) (Z:St) (H:Hp) (Q:Bool->Hp->Prop),Inv X pins Z H s->t Z H Q->wpAny (model X.prog X.w) X.A (isTrue e X.env whole) (TP X pins Z Q) X.xe s
def PW.pt{X:Cx}{t:TT}(h:PW X e t):PT X e t:=h _
noncomputable def PA(X:Cx)(es:List Expr)(t:TA):Prop :=
 ∀ (pos:Pos) (pins:List (Addr×Obj)) (s:Shared) (Z:St) (H:Hp) (Q:List V->Hp->Prop),Inv X pins Z H s->t Z H Q->wpAny (model X.prog X.w) X.A (spliced (backTo pos (starEach es X.env))) (AP X pins Z Q) X.xe s
noncomputable def PS(X:Cx)(st:Stmt)(t:TS):Prop :=
 ∀ (pins:List (Addr×Obj)) (s:Shared) (Z:St) (H:Hp) (D:Ends),Inv X pins Z H s->t D Z H->wpAny (model X.prog X.w) X.A (exec st X.env) (SP X pins D) X.xe s
noncomputable def PSs(X:Cx)(st:List Stmt)(t:TS):Prop :=
 ∀ (pins:List (Addr×Obj)) (s:Shared) (Z:St) (H:Hp) (D:Ends),Inv X pins Z H s->t D Z H->wpAny (model X.prog X.w) X.A (execs st X.env) (SP X pins D) X.xe s
def thn{α:Type}{t:Sem α}{Q Q':α->Shared->Prop}{M:Model}{s:Shared}(h:wpAny M A t Q E s)(hQ:∀ a s,Q a s->Q' a s):wpAny M A t Q' E s:=dG h hQ fun _ _ x=>x
end L2
namespace L2
variable{ys vs:List L2.V}{H H' H1 H2:L2.Hp}{Z:L2.St}{ta te tc to tl td ty tv:L2.TE}{y:L2.V}{kvs:List (List L2.Key×L2.V)}{ks:List L2.Key}{tr:L2.TA}
open PySem PySem.Spec PyProof.Rows
section
variable{X:Cx}
def tVar(i:Nat):TE:=fun Z H Q=>∃ v,Z[i]?=some (some v)/\Q v H
def tC(v:V):TE:=fun _ H Q=>Q v H
def pe_var{i:Nat}{pos:Pos}(hN:X.N[i]?=some x)(hv:Vis X.env.scope x)(hd:(x == ("__debug__":Str))=false:=by decide)(hcd:(x == ("__classdict__":Str))=false:=by decide):PE X (.Name x pos) (tVar i):=by
 intro pins s Z H Q I h;obtain⟨v,e,h⟩:=h;obtain⟨m,hn,hl⟩:=I.loc;obtain⟨u,r,l⟩:=hl i x v hN e hv;have fin:EP X pins Z Q u s:=⟨v,H,I,r,h⟩;rcases l with ⟨hk,hm⟩|⟨hk,c,hc,hcell⟩
 .exact wpAny_Name (wpAny_loadName_local I.ok.kind hk hn hm fin) hd
 .rcases hk with hk|hk
  .exact wpAny_Name (wpAny_loadName_cell I.ok.kind hk hc hcell fin) hd
  .exact wpAny_Name (wpAny_loadName_free I.ok.kind hk hc hcell fin hcd) hd
def aa{i j pos}:PE X (.Constant (.int i) j pos) (tC (.int i)):=fun _ _ _ H _ I h=>wpAny_Constant_int ⟨.int i,H,I.tok _,⟨_,rfl⟩,h⟩
def dw{b j pos}:PE X (.Constant (.bool b) j pos) (tC (.bl b)):=fun _ _ _ H _ I h=>Constant_bool ⟨.bl b,H,I,rfl,h⟩
def dF{j pos}:PE X (.Constant .none j pos) (tC .non):=fun _ _ _ H _ I h=>Constant_none ⟨.non,H,I,rfl,h⟩
def aD{x j pos}:PE X (.Constant (.str x) j pos) (tC (.str x)):=fun _ _ _ H _ I h=>Calls.Constant_str ⟨.str x,H,I.tok _,⟨_,rfl⟩,h⟩
def Gl(X:Cx)(x:Str):Prop:=X.env.kindOf x=some .globalImplicit
def rQ{E:Value->Shared->Prop}{s:Shared}{pos:Pos}{Q:Value->Shared->Prop}(I:Inv X pins Z H s)(hg:Gl X x)(hm:X.mg x=some u)(h:Q u s)
  (hd:(x == ("__debug__":Str))=false:=by decide):wpAny (model X.prog X.w) X.A (eval (.Name x pos) X.env) Q E s :=
 Calls.Name_function_global I.ok.kind hg (Calls.loadGlobal_global (by rw[I.ok.glob];exact I.mod.glob.keeps I.bk) hm h) hd
def jd{E:Value->Shared->Prop}{s:Shared}{pos:Pos}{Q:Value->Shared->Prop}(I:Inv X pins Z H s)(hg:Gl X x)(hm:X.mg x=none)(hv:bootBuiltins x=some u)(h:Q u s)
  (hn:x≠"__name__":=by decide) (hd:(x == ("__debug__":Str))=false:=by decide):wpAny (model X.prog X.w) X.A (eval (.Name x pos) X.env) Q E s:=by
 obtain⟨mb,h1,h2⟩:=I.mod.blt;exact Calls.Name_function_global I.ok.kind hg (Calls.loadGlobal_builtin (by rw[I.ok.glob];exact I.mod.glob.keeps I.bk) hm (by rw[I.ok.blt];exact h1.keeps I.bk) ((h2 x hn).trans hv) h) hd
def pC{v:V}{pos:Pos}(hg:Gl X x)(hm:X.mg x=some u)(r:RelV v u)(hd:(x == ("__debug__":Str))=false:=by decide):PE X (.Name x pos) (tC v) :=
 fun _ _ _ H _ I h=>rQ I hg hm ⟨v,H,I,r,h⟩ hd
def dD{v:V}{pos:Pos}(hg:Gl X x)(hm:X.mg x=none)(hv:bootBuiltins x=some u)(r:RelV v u)(hn:x≠"__name__":=by decide)(hd:(x == ("__debug__":Str))=false:=by decide):PE X (.Name x pos) (tC v) :=
 fun _ _ _ H _ I h=>jd I hg hm hv ⟨v,H,I,r,h⟩ hn hd
variable{a b:Expr}{tb:TE}
noncomputable def PC(X:Cx)(op:CmpOp)(a b:Expr)(t:TE):Prop :=
 ∀ (pins:List (Addr×Obj)) (s:Shared) (Z:St) (H:Hp) (Q:VK),Inv X pins Z H s->t Z H Q ->
  wpAny (model X.prog X.w) X.A (eval a X.env) (fun v s₁=>wpAny (model X.prog X.w) X.A (eval b X.env) (fun u s₂=>wpAny (model X.prog X.w) X.A (compareOp op v u) (EP X pins Z Q) X.xe s₂) X.xe s₁) X.xe s
def Znr(b:Expr){op:CmpOp}(h:op≠.In)(h2:op≠.NotIn):behindInMarks op b=false:=by
 have e1:(op == CmpOp.In)=false:=by cases op <;> first|rfl|exact absurd rfl h
 have e2:(op == CmpOp.NotIn)=false:=by cases op <;> first|rfl|exact absurd rfl h2
 cases b <;> simp[behindInMarks,e1,e2]
def tB(t:TE):TT:=fun Z H Q=>t Z H fun x H1=>∃ c,x=.bl c/\Q c H1
def pL{op:CmpOp}{t:TE}(h:PC X op a b t)(h1:behindInMarks op b=false:=by first|exact Znr _ (by decide) (by decide)|rfl):PT X (.Compare a [op] [b] pos) (tB t):=by
 intro pins s Z H Q I hw;refine wpAny_isTrue_Compare1 (thn (h pins s Z H _ I hw) fun v s1 h1=>thn h1 fun u s2 h2=>thn h2 fun c s3 ⟨x,H1,I1,r1,q1⟩=>?_) h1;obtain⟨d,rfl,q⟩:=q1;cases r1;exact fY ⟨H1,I1,q⟩
def cr{t:TE}(h:PE X e t)(he:∀ whole,isTrue e X.env whole=(do let v <- whole;standAt e.pos;holding [v] (truthy v)):=by intro _;rfl):PT X e (tB t):=by
 intro pins s Z H Q I hw;refine isTrue_plain (thn (h pins s Z H _ I hw) fun v s1 ⟨x,H1,I1,r1,q1⟩=>?_) (he _);obtain⟨d,rfl,q⟩:=q1;cases r1;exact fY ⟨H1,I1,q⟩
variable{tA tB':TT}{rest:List Expr}
def tAnd(t u:TT):TT:=fun Z H Q=>t Z H fun c H1=>if c=true then u Z H1 Q else Q false H1
def tOr(t u:TT):TT:=fun Z H Q=>t Z H fun c H1=>if c=true then Q true H1 else u Z H1 Q
def tNot(t:TT):TT:=fun Z H Q=>t Z H fun c H1=>Q (!c) H1
def cF(ha:PT X a tA):PW X (.BoolOp .And [a] pos) tA:=by
 intro wh pins s Z H Q I h;refine isTrue_and (thn (ha pins s Z H Q I h) fun c s1 e=>?_);cases c with
 | true=>exact isTrue_and_nil e
 | false=>exact e
def gF(ha:PT X a tA):PW X (.BoolOp .Or [a] pos) tA:=by
 intro wh pins s Z H Q I h;refine isTrue_or (thn (ha pins s Z H Q I h) fun c s1 e=>?_);cases c with
 | false=>exact isTrue_or_nil e
 | true=>exact e
def bV(ha:PT X a tA)(hb:PW X (.BoolOp .And (b::rest) pos) tB'):PW X (.BoolOp .And (a::b::rest) pos) (tAnd tA tB'):=by
 intro wh pins s Z H Q I h;refine isTrue_and (thn (ha pins s Z H _ I h) fun c s1 ⟨H1,I1,q1⟩=>?_);cases c with
 | true=>exact hb wh pins s1 Z H1 Q I1 q1
 | false=>exact⟨H1,I1,q1⟩
def fT(ha:PT X a tA)(hb:PW X (.BoolOp .Or (b::rest) pos) tB'):PW X (.BoolOp .Or (a::b::rest) pos) (tOr tA tB'):=by
 intro wh pins s Z H Q I h;refine isTrue_or (thn (ha pins s Z H _ I h) fun c s1 ⟨H1,I1,q1⟩=>?_);cases c with
 | true=>exact⟨H1,I1,q1⟩
 | false=>exact hb wh pins s1 Z H1 Q I1 q1
def dq(ha:PT X a tA):PT X (.UnaryOp .Not a pos) (tNot tA):=by
 intro pins s Z H Q I h;exact isTrue_not (ha pins s Z H (fun c H1=>Q (!c) H1) I h)
def tAndV(ta tb:TE):TE:=fun Z H Q=>ta Z H fun x H1=>∃ c,x=.bl c/\if c=true then tb Z H1 Q else Q (.bl false) H1
def tOrV(ta tb:TE):TE:=fun Z H Q=>ta Z H fun x H1=>∃ c,x=.bl c/\if c=true then Q (.bl true) H1 else tb Z H1 Q
def tNotV(ta:TE):TE:=fun Z H Q=>ta Z H fun x H1=>∃ c,x=.bl c/\Q (.bl (!c)) H1
def jf{op}{t:TE}(h:PE X a t):PE X (.BoolOp op [a] pos) t:=fun pins s Z H Q I hw=>BoolOp_one (h pins s Z H Q I hw)
def jR(ha:PE X a ta)(hb:PE X (.BoolOp .And (b::rest) pos) tb):PE X (.BoolOp .And (a::b::rest) pos) (tAndV ta tb):=by
 intro pins s Z H Q I h;refine BoolOp_and (thn (ha pins s Z H _ I h) fun v s1 ⟨x,H1,I1,r1,q1⟩=>?_);obtain⟨c,rfl,q1⟩:=q1;cases r1;refine fY ?_;cases c with
 | true=>exact hb pins s1 Z H1 Q I1 q1
 | false=>exact⟨.bl false,H1,I1,rfl,q1⟩
def pe_or(ha:PE X a ta)(hb:PE X (.BoolOp .Or (b::rest) pos) tb):PE X (.BoolOp .Or (a::b::rest) pos) (tOrV ta tb):=by
 intro pins s Z H Q I h;refine BoolOp_or (thn (ha pins s Z H _ I h) fun v s1 ⟨x,H1,I1,r1,q1⟩=>?_);obtain⟨c,rfl,q1⟩:=q1;cases r1;refine fY ?_;cases c with
 | false=>exact hb pins s1 Z H1 Q I1 q1
 | true=>exact⟨.bl true,H1,I1,rfl,q1⟩
def pe_not(ha:PE X a ta):PE X (.UnaryOp .Not a pos) (tNotV ta):=by
 intro pins s Z H Q I h;refine UnaryOp_ (thn (ha pins s Z H _ I h) fun v s1 ⟨x,H1,I1,r1,q1⟩=>?_);obtain⟨c,rfl,q1⟩:=q1;cases r1;exact not_of (fY ⟨.bl (!c),H1,I1,rfl,q1⟩)
def tIf(t:TT)(ta tb:TE):TE:=fun Z H Q=>t Z H fun c H1=>if c=true then ta Z H1 Q else tb Z H1 Q
def ft{c:Expr}(hc:PT X c tA)(ha:PE X a ta)(hb:PE X b tb):PE X (.IfExp c a b pos) (tIf tA ta tb):=by
 intro pins s Z H Q I h;refine wpAny_IfExp (thn (hc pins s Z H _ I h) fun d s1 ⟨H1,I1,q1⟩=>?_);cases d with
 | true=>exact ha pins s1 Z H1 Q I1 q1
 | false=>exact hb pins s1 Z H1 Q I1 q1
end
end L2
namespace L2
variable{ys vs:List L2.V}{H H' H1 H2:L2.Hp}{Z:L2.St}{ta te tc to tl td ty tv:L2.TE}{y:L2.V}{kvs:List (List L2.Key×L2.V)}{ks:List L2.Key}{tr:L2.TA}
open PySem PySem.Spec PyProof.Rows
noncomputable def SqL(K:W.Frag)(H:Hp)(a:Addr)(xs:List V):Prop :=
 Rd H a (.lst xs) \/
  ∃ (o:Obj) (its:Array Value) (n:Nat),K.lookup a=some o/\o.cls=.type "list"/\o.dict=none/\o.data=.seq its n/\its.size<=sizeLine/\Vals xs its.toList
noncomputable def SqT(K:W.Frag)(H:Hp)(a:Addr)(xs:List V):Prop :=
 Rd H a (.tup xs) \/
  ∃ (o:Obj) (its:Array Value) (n:Nat),K.lookup a=some o/\o.cls=.type "tuple"/\o.data=.seq its n/\its.size<=sizeLine/\Vals xs its.toList
noncomputable def absV:Value->Option V
 | .none=>some .non
 | .bool b=>some (.bl b)
 | .int i _=>some (.int i)
 | .str x _=>some (.str x)
 | .bytes b _=>some (.byt b)
 | .float b _=>some (.flt b)
 | .ref a=>some (.ref a)
 | .type n=>some (.ty n)
 | _=>none
def RelV.abs{x:V}(r:RelV x u):absV u=some x:=by
 cases x with
 | non=>cases r;rfl
 | bl _=>cases r;rfl
 | int _=>obtain⟨t,rfl⟩:=r;rfl
 | str _=>obtain⟨t,rfl⟩:=r;rfl
 | byt _=>obtain⟨t,rfl⟩:=r;rfl
 | flt _=>obtain⟨t,rfl⟩:=r;rfl
 | ref _=>cases r;rfl
 | ty _=>cases r;rfl
def RelV.inj{x y:V}{u:Value}(r:RelV x u)(q:RelV y u):x=y:=Option.some.inj (r.abs.symm.trans q.abs)
def Vals.inj{xs ys:List V}{us:List Value}(h:Vals xs us)(h':Vals ys us):xs=ys:=by
 induction h generalizing ys with
 | nil=>cases h';rfl
 | cons r _ ih =>
  cases h' with
  | cons r' t'=>rw[r.inj r',ih t']
section
variable{X:Cx}{s:Shared}{xs:List V}
def SqL.of{K:W.Frag}(h:H a=some (.lst xs)):SqL K H a xs:=.inl (.inl h)
def SqT.of{K:W.Frag}(h:H a=some (.tup xs)):SqT K H a xs:=.inl (.inl h)
def Inv.list(I:Inv X pins Z H s)(h:SqL X.K H a xs):∃ its:List Value,Vals xs its/\PlainL s.heap a its.toArray/\xs.length<=sizeLine:=by
 rcases h with h|⟨o,its,n,hk,hc,hd,hs,hz,r⟩
 .obtain ⟨z,its,n,r,e⟩:=h.ok I.hok;exact⟨its,r,⟨_,n,e,rfl,rfl,rfl⟩,z⟩
 .refine ⟨its.toList,r,⟨o,n,I.kIn a o hk,hc,hd,by simpa using hs⟩,?_⟩;have e:=r.length;simp only[fI] at e;lia
def Inv.tuple(I:Inv X pins Z H s)(h:SqT X.K H a xs):∃ its:List Value,Vals xs its/\IsTup s.heap a its.toArray/\xs.length<=sizeLine:=by
 rcases h with h|⟨o,its,n,hk,hc,hs,hz,r⟩
 .obtain ⟨z,its,r,p⟩:=h.ok I.hok;exact⟨its,r,p,z⟩
 .refine ⟨its.toList,r,⟨o,I.kIn a o hk,hc,n,by simpa using hs⟩,?_⟩;have e:=r.length;simp only[fI] at e;lia
def Inv.list_inj(I:Inv X pins Z H s)(h:SqL X.K H a xs)(h':SqL X.K H a ys):xs=ys:=by
 obtain⟨its,r,⟨o,n,e,_,_,d⟩,_⟩:=I.list h;obtain⟨its',r',⟨o',n',e',_,_,d'⟩,_⟩:=I.list h';rw[e] at e';cases e';rw[d] at d';injection d' with d1 _
 have:its=its':=by simpa using congrArg Array.toList d1
 subst this;exact r.inj r'
def Inv.tuple_inj(I:Inv X pins Z H s)(h:SqT X.K H a xs)(h':SqT X.K H a ys):xs=ys:=by
 obtain⟨its,r,⟨o,e,_,n,d⟩,_⟩:=I.tuple h;obtain⟨its',r',⟨o',e',_,n',d'⟩,_⟩:=I.tuple h';rw[e] at e';cases e';rw[d] at d';injection d' with d1 _
 have:its=its':=by simpa using congrArg Array.toList d1
 subst this;exact r.inj r'
end
abbrev Cx.wish(X:Cx)(E:Value->Shared->Prop):Cx:={ X with xe:=E }
abbrev Cx.nox(X:Cx):Cx:=X.wish fun _ _=>False
def Cx.Ok.wish{X:Cx}(ok:X.Ok)(E:Value->Shared->Prop):(X.wish E).Ok :=
 ⟨ok.mod,ok.kind,ok.glob,ok.blt,ok.above,ok.inj,ok.has,ok.cab,ok.hd,ok.frames,ok.stk,ok.exf,ok.bs,ok.bsz,ok.noex,ok.exfs,ok.funs,ok.frf⟩
def Cx.Ok.unwish{X:Cx}(ok:(X.wish E).Ok):X.Ok :=
 ⟨ok.mod,ok.kind,ok.glob,ok.blt,ok.above,ok.inj,ok.has,ok.cab,ok.hd,ok.frames,ok.stk,ok.exf,ok.bs,ok.bsz,ok.noex,ok.exfs,ok.funs,ok.frf⟩
section
variable{X:Cx}{s:Shared}
def Inv.wish(I:Inv X pins Z H s)(E:Value->Shared->Prop):Inv (X.wish E) pins Z H s:=⟨I.ok.wish E,I.os,I.bare,I.base,I.loc,I.cell,I.free,I.freeC,I.pin,I.hok,I.len⟩
def Inv.unwish(I:Inv (X.wish E) pins Z H s):Inv X pins Z H s:=⟨I.ok.unwish,I.os,I.bare,I.base,I.loc,I.cell,I.free,I.freeC,I.pin,I.hok,I.len⟩
def SP.unwish{D:Ends}{f:Flow}{s':Shared}(h:SP (X.wish E) pins D f s'):SP X pins D f s':=by
 cases f with
 | next=>obtain⟨σ',H',I,q⟩:=h;exact⟨σ',H',I.unwish,q⟩
 | brk=>obtain⟨σ',H',I,q⟩:=h;exact⟨σ',H',I.unwish,q⟩
 | cont=>obtain⟨σ',H',I,q⟩:=h;exact⟨σ',H',I.unwish,q⟩
 | ret u=>obtain⟨v,σ',H',I,r,q⟩:=h;exact⟨v,σ',H',I.unwish,r,q⟩
def PSs.nox{st:List Stmt}{t:TS}(h:PSs X.nox st t):PSs X st t:=fun pins s Z H D I hw =>
 dG (h pins s Z H D (I.wish _) hw) (fun _ _ q=>q.unwish) fun _ _ z=>False.elim z
end
section
variable{X:Cx}{st:Stmt}{rest:List Stmt}{t u:TS}
def o7:TS:=fun D Z H=>D.nx Z H
def tSeq(t u:TS):TS:=fun D Z H=>t { D with nx:=u D } Z H
def aO:PSs X [] o7:=fun _ _ Z H _ I h=>nH ⟨Z,H,I,h⟩
def ag(h1:PS X st t)(h2:PSs X rest u):PSs X (st::rest) (tSeq t u):=by
 intro pins s Z H D I h;refine wpAny_execs_cons (thn (h1 pins s Z H { D with nx:=u D } I h) fun f s1 q=>?_);cases f with
 | next =>
  obtain⟨σ',H',I',q⟩:=q;exact h2 pins s1 σ' H' D I' q
 | ret v=>exact q
 | brk=>exact q
 | cont=>exact q
def aj(h1:PS X st t):PSs X [st] t:=by
 intro pins s Z H D I h;refine wpAny_execs_cons (thn (h1 pins s Z H D I h) fun f s1 q=>?_);cases f with
 | next=>exact nH q
 | ret v=>exact q
 | brk=>exact q
 | cont=>exact q
def Inv.quiet{s:Shared}(I:Inv X pins Z H s):interactive X.env=false:=by simp[interactive,I.ok.kind]
def tDrop(te:TE):TS:=fun D Z H=>te Z H fun _ H1=>D.nx Z H1
def eC(he:PE X e te)(hs:swapsWith e none pos.line X.env=pure false:=by rfl):PS X (.Expr e pos) (tDrop te):=by
 intro pins s Z H D I h;exact wpAny_Expr_any (thn (he pins s Z H _ I h) fun v s1 ⟨x,H1,I1,r1,q1⟩=>⟨Z,H1,I1,q1⟩) I.quiet hs
def tRet(te:TE):TS:=fun D Z H=>te Z H D.rt
def ax(he:PE X e te):PS X (.Return (some e) pos) (tRet te):=by
 intro pins s Z H D I h;exact wpAny_Return_some (thn (he pins s Z H _ I h) fun v s1 ⟨x,H1,I1,r1,q1⟩=>⟨x,Z,H1,I1,r1,q1⟩)
def tIfS(c:TT)(t u:TS):TS:=fun D Z H=>c Z H fun b H1=>if b=true then t D Z H1 else u D Z H1
def aL{c:Expr}{a b:List Stmt}{tc:TT}(hc:PT X c tc)(ha:PSs X a t)(hb:PSs X b u):PS X (.If c a b pos) (tIfS tc t u):=by
 intro pins s Z H D I h;refine wpAny_If (thn (hc pins s Z H _ I h) fun d s1 ⟨H1,I1,q1⟩=>?_);cases d with
 | true=>exact ha pins s1 Z H1 D I1 q1
 | false=>exact hb pins s1 Z H1 D I1 q1
end
abbrev TG:=V->St->Hp->(St->Hp->Prop)->Prop
abbrev TGs:=List V->St->Hp->(St->Hp->Prop)->Prop
noncomputable def PG(X:Cx)(target:Expr)(t:TG):Prop :=
 ∀ (pins:List (Addr×Obj)) (s:Shared) (Z:St) (H:Hp) (v:V) (u:Value) (Q:St->Hp->Prop),Inv X pins Z H s->RelV v u->t v Z H Q ->
  wpAny (model X.prog X.w) X.A (assign target X.env u) (fun _ s'=>∃ σ' H',Inv X pins σ' H' s'/\Q σ' H') X.xe s
noncomputable def PGs(X:Cx)(ts:List Expr)(t:TGs):Prop :=
 ∀ (pins:List (Addr×Obj)) (s:Shared) (Z:St) (H:Hp) (vs:List V) (us:List Value) (Q:St->Hp->Prop),Inv X pins Z H s->Vals vs us->t vs Z H Q ->
  wpAny (model X.prog X.w) X.A (assignInOrder ((assignEach ts X.env).map (·.2)) us) (fun _ s'=>∃ σ' H',Inv X pins σ' H' s'/\Q σ' H') X.xe s
abbrev TSet:=V->V->V->Hp->(Hp->Prop)->Prop
noncomputable def PSet(X:Cx)(t:TSet):Prop :=
 ∀ (pins:List (Addr×Obj)) (s:Shared) (Z:St) (H:Hp) (o i v:V) (ov iv u:Value) (Q:Hp->Prop),Inv X pins Z H s->RelV o ov->RelV i iv->RelV v u->t o i v H Q ->
  wpAny (model X.prog X.w) X.A (setItem ov iv u) (fun _ s'=>∃ H',Inv X pins Z H' s'/\Q H') X.xe s
section
variable{X:Cx}
def eF(i:Nat):TG:=fun v Z H Q=>Q (Z.set i (some v)) H
def ig{i:Nat}(hN:X.N.Nodup)(hi:X.N[i]?=some x)(hx:Loc X.env.scope x)(hf:X.fn x=true\/X.env.scope.names.lookup x=some .local:=by first|exact .inl rfl|exact .inr rfl|assumption):PG X (.Name x pos) (eF i):=by
 intro pins s Z H v u Q I r h;exact wpAny_assign_Name (tG I hN hi hx r (fun s' I'=>⟨_,H,I',h⟩) hf)
def gNil:TGs:=fun vs Z H Q=>vs=[]/\Q Z H
def gCons(t:TG)(u:TGs):TGs:=fun vs Z H Q=>∃ v r,vs=v::r/\t v Z H fun σ' H'=>u r σ' H' Q
def cA:PGs X [] gNil:=by
 intro pins s Z H vs us Q I r h;obtain⟨e,h⟩:=h;subst e;cases r;exact assignInOrder_nil ⟨Z,H,I,h⟩
def aV{t:TG}{u:TGs}(h1:PG X e t)(h2:PGs X es u)
  (hs:(assignEach (e::es) X.env).map (·.2)=assign e X.env::(assignEach es X.env).map (·.2):=by rfl):PGs X (e::es) (gCons t u):=by
 intro pins s Z H vs us Q I r h;obtain⟨v,vr,e1,h⟩:=h;subst e1;cases r with
 | cons r rr =>
  rw[hs];refine assignInOrder_cons (thn (h1 pins s Z H _ _ _ I r h) fun _ s1 ⟨σ1,H1,I1,q1⟩=>?_);exact h2 pins s1 σ1 H1 _ _ Q I1 rr q1
def gTup(K:W.Frag)(n:Nat)(t:TGs):TG:=fun v Z H Q=>∃ a xs,v=.ref a/\SqT K H a xs/\xs.length=n/\t xs Z H Q
def pg_tup{k:Nat}{t:TGs}(hc:X.calm=true)(h:PGs X es t)
  (hn:(assignEach es X.env).length=n:=by rfl) (hst:(assignEach es X.env).findIdx? (·.1)=none:=by rfl):PG X (.Tuple es k pos) (gTup X.K n t):=by
 intro pins s Z H v u Q I r hw;obtain⟨a,xs,e1,hq,hl,hw⟩:=hw;subst e1;cases r;obtain⟨its,rv,ht,hz⟩:=I.tuple hq;refine assign_Tuple_tuple (I.ok.hd hc) ht (by simp[hn,<- hl,rv.length]) hst fun h' hx=>?_;have I1:Inv X pins Z H { s with heap:=h' }:=I.kept (t':=s.toks) fun b o e=>hx b o (bZ (bn e)) e;exact h pins _ Z H xs _ Q I1 (by simpa using rv) hw
def gSub(to ti:TE)(t:TSet):TG:=fun v Z H Q=>to Z H fun o H1=>ti Z H1 fun i H2=>t o i v H2 fun H3=>Q Z H3
def cS{o i:Expr}{ti:TE}{t:TSet}(ho:PE X o to)(hi:PE X i ti)(hs:PSet X t)
  (ha:∀ v,assign (.Subscript o i pos) X.env v=(do
   let ov <- holding [v] (eval o X.env)
   let iv <- holding [v,ov] (eval i X.env)
   standAt pos
   holding [v,ov,iv] (setItem ov iv v)
   release [v,ov,iv] []):=by intro _;rfl):PG X (.Subscript o i pos) (gSub to ti t):=by
 intro pins s Z H v u Q I r h;rw[ha];refine ae (eV (thn (ho pins s Z H _ I h) fun ov s1 z0_=>?_));obtain⟨x,H1,I1,r1,q1⟩:=z0_;refine ae (eV (thn (hi pins s1 Z H1 _ I1 q1) fun iv s2 z1_=>?_));obtain⟨y,H2,I2,r2,q2⟩:=z1_;refine ae (nI (ae (eV (thn (hs pins s2 Z H2 x y v ov iv u _ I2 r1 r2 r q2) fun _ s3 z2_=>?_))));obtain⟨H3,I3,q3⟩:=z2_;exact wpAny_release ⟨Z,H3,I3,q3⟩
def tAsg(te:TE)(g:TG):TS:=fun D Z H=>te Z H fun x H1=>g x Z H1 D.nx
def bX{g:TG}(he:PE X e te)(hg:PG X tg g)(hs:swapsWithSole [tg] e pos.line X.env=pure false:=by rfl)(hw:swappedStores [tg] e X.env=pure none:=by rfl)
  (h1:(assignEach [tg] X.env).map (·.2)=[assign tg X.env]:=by rfl):PS X (.Assign [tg] e pos) (tAsg te g):=by
 intro pins s Z H D I h;refine wpAny_Assign_stores (thn (he pins s Z H _ I h) fun v s1 ⟨x,H1,I1,r1,q1⟩=>?_) hs hw;rw[h1];exact thn (hg pins s1 Z H1 x v _ I1 r1 q1) fun _ s2 q=>q
def cp{i:Nat}(hN:X.N.Nodup)(hi:X.N[i]?=some x)(hx:Loc X.env.scope x)(he:PE X e te)(hs:swapsWith e (some (.Name x pos')) pos.line X.env=pure false:=by rfl)(hf:X.fn x=true\/X.env.scope.names.lookup x=some .local:=by first|exact .inl rfl|exact .inr rfl|assumption) :
  PS X (.Assign [.Name x pos'] e pos) (tAsg te (eF i)):=by
 intro pins s Z H D I h;refine wpAny_Assign_Name (thn (he pins s Z H _ I h) fun v s1 ⟨y,H1,I1,r1,q1⟩=>?_) hs;exact tG I1 hN hi hx r1 (fun s2 I2=>⟨_,H1,I2,q1⟩) hf
end
variable{g:L2.TG}
section
variable{X:Cx}
def vM(c:TT)(tb:TS):TS:=fun D Z H=>∃ W:Nat->St->Hp->Prop,(∃ m,W m Z H)/\∀ m Z H,W m Z H ->
 c Z H fun b H1=>if b=true then ∃ N:St->Hp->Prop,(∀ σ' H',N σ' H'->∃ m',m'<m/\W m' σ' H')/\tb { D with nx:=N,ct:=N,bk:=D.nx } Z H1 else D.nx Z H1
def uK{c:Expr}{body:List Stmt}{tc:TT}{tb:TS}(hp:PassesOwn (model X.prog X.w) X.A X.env X.xe)(hc:PT X c tc)(hb:PSs X body tb):PS X (.While c body [] pos) (vM tc tb):=by
 intro pins s Z H D I h;obtain⟨W,⟨m0,w0⟩,turn⟩:=h;refine wpAny_While (codeAny_whileLoop (fun n s'=>∃ σ' H',Inv X pins σ' H' s'/\W n σ' H') ?_ m0 ⟨Z,H,I,w0⟩);rintro n s1 ⟨σ1,H1,I1,w1⟩;refine ji hp (thn (hc pins s1 σ1 H1 _ I1 (turn n σ1 H1 w1)) fun b s2 ⟨H2,I2,q2⟩=>?_);cases b with
 | true =>
  obtain⟨N,hN,q2⟩:=q2;rw[am rfl];refine ji hp (thn (hb pins s2 σ1 H2 _ I2 q2) fun f s3 q3=>?_);cases f with
  | next =>
   obtain⟨σ3,H3,I3,n3⟩:=q3;obtain⟨m',hm,w3⟩:=hN σ3 H3 n3;exact⟨m',hm,σ3,H3,I3,w3⟩
  | cont =>
   obtain⟨σ3,H3,I3,n3⟩:=q3;obtain⟨m',hm,w3⟩:=hN σ3 H3 n3;exact⟨m',hm,σ3,H3,I3,w3⟩
  | brk=>exact q3
  | ret v=>exact q3
 | false =>
  rw[ao bL];exact nH ⟨σ1,H2,I2,q2⟩
end
structure It where
 go:Nat->Hp->Prop
 yld:Nat->Hp->V->Hp->Prop
 stop:Nat->Hp->Prop
noncomputable def FpOk(X:Cx)(pins:List (Addr×Obj))(H:Hp)(b:Addr):Prop :=
 H b=none/\b≠X.env.locals/\b∉X.fs/\(b∈X.ex\/X.s₀.heap.objs.size<=b)/\(∀ x c,X.env.cells.lookup x=some c->c≠b)/\∀ p∈X.pn++pins,p.1≠b
def Inv.fpOk{X:Cx}{s:Shared}{b:Addr}(I:Inv X pins Z H s)(hb:s.heap.objs.size<=b)(hn:H' b=none):FpOk X pins H' b:=by
 refine⟨hn,fk (dy I.lt hb),I.nofs hb,.inr (bo I.sz hb),fun x c e z=>?_,fun p hp z=>?_⟩
 .obtain ⟨v,q⟩:=I.cell x c e;exact absurd (dy q.lt (by rw[z];exact hb)) (fX _)
 .exact absurd (dy (bn (I.pin p hp).1) (by rw[z];exact hb)) (fX _)
structure Turn(P:Program)(w:World)(K:W.Frag)(tg:Expr)(J:It)(fp:List Addr)(it:Addr)(tn:Nat->Heap->Prop):Prop where
 mem:it∈fp
 obj:∀ i h,tn i h->∀ b∈fp,∃ o,h.get? b=some o/\∀ v,o.data≠.cell v
 keep:∀ i h h',tn i h->(∀ b∈fp,∀ o,h.get? b=some o->h'.get? b=some o)->tn i h'
 item:∀ (X:Cx),X.prog=P->X.w=w->X.K=K->X.calm=true->∀ (i:Nat) (pins:List (Addr×Obj)) (s:Shared) (Z:St) (H:Hp) (E:Value->Shared->Prop),Inv X pins Z H s->(∀ b∈fp,FpOk X pins H b)->tn i s.heap->J.go i H ->
  wpAny (model P w) X.A (pyNext (.ref it)) (fun r s1=>∃ u,r=some u /\
   wpAny (model P w) X.A (letOwnedTupleGo tg (.ref it) u) (fun _ s2=>∃ x H',Inv X pins Z H' s2/\RelV x u/\J.yld i H x H'/\tn (i+1) s2.heap/\∀ b∈fp,H' b=none) E s1) E s
 done:∀ (X:Cx),X.prog=P->X.w=w->X.K=K->X.calm=true->∀ (i:Nat) (pins:List (Addr×Obj)) (s:Shared) (Z:St) (H:Hp) (E:Value->Shared->Prop),Inv X pins Z H s->(∀ b∈fp,FpOk X pins H b)->tn i s.heap->J.stop i H ->
  wpAny (model P w) X.A (pyNext (.ref it)) (fun r s1=>r=none/\Inv X pins Z H s1) E s
 self:∀ (A:Around) (i:Nat) (s:Shared) (Q:Value->Shared->Prop) (E:Value->Shared->Prop),tn i s.heap->Q (.ref it) s->wpAny (model P w) A (pyIter (.ref it)) Q E s
abbrev TI:=St->Hp->(It->Hp->Prop)->Prop
noncomputable def PIE(X:Cx)(pins:List (Addr×Obj))(Z:St)(tg:Expr)(R:It->Hp->Prop)(itv:Value)(s2:Shared):Prop :=
 ∃ (it:Addr) (fp:List Addr) (tn:Nat->Heap->Prop) (J:It) (H':Hp),itv=.ref it/\Inv X pins Z H' s2/\Turn X.prog X.w X.K tg J fp it tn/\tn 0 s2.heap/\(∀ b∈fp,FpOk X pins H' b)/\R J H'
noncomputable def PI(X:Cx)(tg iter:Expr)(wi:TI):Prop :=
 ∀ (pins:List (Addr×Obj)) (s:Shared) (Z:St) (H:Hp) (R:It->Hp->Prop),Inv X pins Z H s->wi Z H R ->
  wpAny (model X.prog X.w) X.A (eval iter X.env) (fun v s1=>wpAny (model X.prog X.w) X.A (pyIter v) (PIE X pins Z tg R) X.xe s1) X.xe s
def me{M : Model}{s : Shared}{o : Obj}{n : String}{vs : Array Value}{Q : Unit->Shared->Prop}(ho : s.heap.get? it=some o)(hc : o.cls=.type n)(hd : o.data=.fields vs)
    (hn : ["enumerate", "zip", "dict_itemiterator", "dict_reverseitemiterator", "odict_iterator", "itertools.zip_longest", "itertools.pairwise"].contains n=false) (hQ : Q () s) : wpAny M A (letOwnedTupleGo tg (.ref it) u) Q E s:=by
  unfold letOwnedTupleGo;cases tg <;> first
    | exact aq hQ
    | (cases u <;> first
        | exact aq hQ
        | (refine ae (wpAny_load ho ?_)
           rw[hc,hd];show wpAny M A (if (["enumerate","zip","dict_itemiterator","dict_reverseitemiterator","odict_iterator","itertools.zip_longest","itertools.pairwise"].contains n&&vs[0]? == some (rawInt _))=true then _ else _) Q E s;rw[ao (by intro h;rw[hn,Bool.false_and] at h;cases h)];exact aq hQ))
def Itl(K:W.Frag)(a:Addr):It :=
 ⟨fun i H=>∃ xs x,SqL K H a xs/\xs[i]?=some x,fun i H x H'=>H'=H/\∀ xs,SqL K H a xs->xs[i]?=some x,fun i H=>∃ xs,SqL K H a xs/\xs.length<=i⟩
def Itt(K:W.Frag)(a:Addr):It :=
 ⟨fun i H=>∃ xs x,SqT K H a xs/\xs[i]?=some x,fun i H x H'=>H'=H/\∀ xs,SqT K H a xs->xs[i]?=some x,fun i H=>∃ xs,SqT K H a xs/\xs.length<=i⟩
def Itr(lo:Int)(n:Nat):It:=⟨fun i _=>i<n,fun i H x H'=>H'=H/\x=.int (lo+i),fun i _=>n<=i⟩
def ZkQ{P:Program}{w:World}{K:W.Frag}(a it:Addr):Turn P w K tg (Itl K a) [it] it (fun i h=>h.IsListIter it a i) where
 mem:=by simp
 obj:=fun i h st b hb=>by
  have e:b=it:=by simpa using hb
  subst e;obtain⟨o,e,c,d⟩:=st;exact⟨o,e,fun v z=>by rw[d] at z;cases z⟩
 keep:=fun i h h' st k=>st.at fun o e=>k it (by simp) o e
 item:=by
  intro X hP hw hK hc i pins s Z H E I hf st hg;subst hP hw hK;obtain⟨xs,x,hq,hx⟩:=hg;obtain⟨its,rv,p,hz⟩:=I.list hq;obtain⟨u,hu,ru⟩:=rv.get hx;obtain⟨f0,f1,f2,f3,f4,f5⟩:=hf it (by simp);refine wpAny_pyNext_list_item st p.isList (x:=u) (by simpa using hu) fun h' st' sb=>?_;have I1:Inv X pins Z H { s with heap:=h' }:=I.turned (t':=s.toks) (fun b o hb e=>(sb.2 b hb).trans e) f0 f1 f3 f4 f5;obtain⟨o,e,c,d⟩:=id st';exact⟨u,rfl,me (s:={ s with heap:=h' }) e c d (by decide) ⟨x,H,I1,ru,⟨rfl,fun ys hy=>by rw[I.list_inj hy hq];exact hx⟩,st',fun b hb=>(hf b hb).1⟩⟩
 done:=by
  intro X hP hw hK hc i pins s Z H E I hf st hg;subst hP hw hK;obtain⟨xs,hq,hx⟩:=hg;obtain⟨its,rv,p,hz⟩:=I.list hq;obtain⟨f0,f1,f2,f3,f4,f5⟩:=hf it (by simp);have hl:=rv.length;exact wpAny_pyNext_list_end (I.ok.hd hc) st p.isList (by simp;lia) fun h' eb=>⟨rfl,I.turned (t':=s.toks) (fun b o hb e=>eb b o hb e) f0 f1 f3 f4 f5⟩
 self:=fun _ _ _ _ _ st h=>wpAny_pyIter_listiter st h
def ZjJ{P:Program}{w:World}{K:W.Frag}(a it:Addr):Turn P w K tg (Itt K a) [it] it (fun i h=>h.IsTupleIter it a i) where
 mem:=by simp
 obj:=fun i h st b hb=>by
  have e:b=it:=by simpa using hb
  subst e;obtain⟨o,e,c,d⟩:=st;exact⟨o,e,fun v z=>by rw[d] at z;cases z⟩
 keep:=fun i h h' st k=>st.at fun o e=>k it (by simp) o e
 item:=by
  intro X hP hw hK hc i pins s Z H E I hf st hg;subst hP hw hK;obtain⟨xs,x,hq,hx⟩:=hg;obtain⟨its,rv,p,hz⟩:=I.tuple hq;obtain⟨u,hu,ru⟩:=rv.get hx;obtain⟨f0,f1,f2,f3,f4,f5⟩:=hf it (by simp);refine wpAny_pyNext_tuple_item st (show s.heap.IsTuple a its.toArray from p) (x:=u) (by simpa using hu) fun h' st' sb=>?_;have I1:Inv X pins Z H { s with heap:=h' }:=I.turned (t':=s.toks) (fun b o hb e=>(sb.2 b hb).trans e) f0 f1 f3 f4 f5;obtain⟨o,e,c,d⟩:=id st';exact⟨u,rfl,me (s:={ s with heap:=h' }) e c d (by decide) ⟨x,H,I1,ru,⟨rfl,fun ys hy=>by rw[I.tuple_inj hy hq];exact hx⟩,st',fun b hb=>(hf b hb).1⟩⟩
 done:=by
  intro X hP hw hK hc i pins s Z H E I hf st hg;subst hP hw hK;obtain⟨xs,hq,hx⟩:=hg;obtain⟨its,rv,p,hz⟩:=I.tuple hq;obtain⟨f0,f1,f2,f3,f4,f5⟩:=hf it (by simp);have hl:=rv.length;exact wpAny_pyNext_tuple_end (I.ok.hd hc) st (show s.heap.IsTuple a its.toArray from p) (by simp;lia) fun h' eb=>⟨rfl,I.turned (t':=s.toks) (fun b o hb e=>eb b o hb e) f0 f1 f3 f4 f5⟩
 self:=fun _ _ _ _ _ st h=>wpAny_pyIter_tupleiter st h
def ZjK{P:Program}{w:World}{K:W.Frag}(it:Addr)(lo:Int)(n:Nat):Turn P w K tg (Itr lo n) [it] it (fun i h=>IsRangeIter h it (lo+(i:Nat)*1) ((n:Int)-(i:Nat)) 1) where
 mem:=by simp
 obj:=fun i h st b hb=>by
  have e:b=it:=by simpa using hb
  subst e;exact⟨_,st,fun v z=>by
   have z':Data.fields _=Data.cell v:=z;cases z'⟩
 keep:=fun i h h' st k=>k it (by simp) _ st
 item:=by
  intro X hP hw hK hc i pins s Z H E I hf st hg;subst hP hw hK;obtain⟨f0,f1,f2,f3,f4,f5⟩:=hf it (by simp);have W:=Walks.range (prog:=X.prog) (w:=X.w) (I.ok.hd hc) it lo 1 n;refine W.item i s _ _ hg st fun v h' tk hv st' kk=>?_;obtain⟨t,rfl⟩:=hv;have I1:Inv X pins Z H { s with heap:=h',toks:=tk }:=I.turned (fun b o hb e=>kk b o (by simpa using hb) e) f0 f1 f3 f4 f5;refine⟨_,rfl,me (s:={ s with heap:=h',toks:=tk }) (n:="range_iterator") st' rfl rfl (by decide) ⟨.int (lo+i),H,I1,⟨t,?_⟩,⟨rfl,rfl⟩,st',fun b hb=>(hf b hb).1⟩⟩;rw[nJ]
 done:=by
  intro X hP hw hK hc i pins s Z H E I hf st hg;subst hP hw hK;obtain⟨f0,f1,f2,f3,f4,f5⟩:=hf it (by simp);exact wpAny_pyNext_range_end (I.ok.hd hc) st (by have:n<=i:=hg;lia) fun h' eb=>⟨rfl,I.turned (t':=s.toks) (fun b o hb e=>eb b o hb e) f0 f1 f3 f4 f5⟩
 self:=fun _ _ _ _ _ st h=>wpAny_pyIter_rangeiter st h
end L2
namespace L2
variable{ys vs:List L2.V}{H H' H1 H2:L2.Hp}{Z:L2.St}{ta te tc to tl td ty tv:L2.TE}{y:L2.V}{g:L2.TG}{wi:L2.TI}{kvs:List (List L2.Key×L2.V)}{ks:List L2.Key}{tr:L2.TA}
open PySem PySem.Spec PyProof.Rows
section
variable{X:Cx}
def mC(K:W.Frag)(tl:TE):TI:=fun Z H R=>tl Z H fun x H1=>∃ a,x=.ref a/\(∃ xs,SqL K H1 a xs)/\R (Itl K a) H1
def iTup(K:W.Frag)(tl:TE):TI:=fun Z H R=>tl Z H fun x H1=>∃ a,x=.ref a/\(∃ xs,SqT K H1 a xs)/\R (Itt K a) H1
def ZpG{l:Expr}(hl:PE X l tl):PI X tg l (mC X.K tl):=by
 intro pins s Z H R I h;refine thn (hl pins s Z H _ I h) fun v s1 z0_=>?_;obtain⟨x,H1,I1,r1,q1⟩:=z0_;obtain⟨a,e,⟨xs,hq⟩,q⟩:=q1;subst e;cases r1;obtain⟨its,rv,p,hz⟩:=I1.list hq;refine jW p.isList ?_;refine⟨s1.heap.objs.size,[s1.heap.objs.size],_,_,H1,rfl,I1.kept (t':=s1.toks) fun b o e=>br _ e,ZkQ a _,⟨_,ca _ rfl,rfl,rfl⟩,fun b hb=>?_,q⟩;have e:b=s1.heap.objs.size:=by simpa using hb
 subst e;exact I1.fpOk (aE _) (I1.hok.fresh (aE _))
def pi_tup{l:Expr}(hl:PE X l tl):PI X tg l (iTup X.K tl):=by
 intro pins s Z H R I h;refine thn (hl pins s Z H _ I h) fun v s1 ⟨x,H1,I1,r1,q1⟩=>?_;obtain⟨a,e,⟨xs,hq⟩,q⟩:=q1;subst e;cases r1;obtain⟨its,rv,p,hz⟩:=I1.tuple hq;refine ls (show s1.heap.IsTuple a its.toArray from p) ?_;refine⟨s1.heap.objs.size,[s1.heap.objs.size],_,_,H1,rfl,I1.kept (t':=s1.toks) fun b o e=>br _ e,ZjJ a _,⟨_,ca _ rfl,rfl,rfl⟩,fun b hb=>?_,q⟩;have e:b=s1.heap.objs.size:=by simpa using hb
 subst e;exact I1.fpOk (aE _) (I1.hok.fresh (aE _))
def Zm5{s:Shared}{R:It->Hp->Prop}{lo hi:Int}{t u v:Tok}{tk:Nat}(I:Inv X pins Z H s)(h1:-(2^62)<=lo)(h2:lo<2^62)(h3:-(2^62)<=hi)(h4:hi<2^62)
  (q:R (Itr lo (hi-lo).toNat) H):wpAny (model X.prog X.w) X.A (pyIter (.ref s.heap.objs.size)) (PIE X pins Z tg R) E { s with heap:=s.heap.push { cls:=.type "range",data:=.fields #[.int lo t,.int hi u,.int 1 v] },toks:=tk }:=by
 refine wpAny_pyIter_range (IsRange.new ..) (small_one h1 h2 h3 h4) ?_;have I1:Inv X pins Z H { s with heap:=s.heap.push { cls:=.type "range",data:=.fields #[.int lo t,.int hi u,.int 1 v] },toks:=tk }:=I.kept fun b o e=>br _ e;refine⟨(s.heap.push { cls:=.type "range",data:=.fields #[.int lo t,.int hi u,.int 1 v] }).objs.size,[(s.heap.push { cls:=.type "range",data:=.fields #[.int lo t,.int hi u,.int 1 v] }).objs.size],_,_,H,rfl,
  I1.kept (t':=tk) fun b o e=>br _ e,ZjK _ lo (hi-lo).toNat,?_,fun b hb=>?_,q⟩
 .have e1:lo+((0:Nat):Int) * 1=lo:=by simp
  have e2:(((hi-lo).toNat:Nat):Int)-((0:Nat):Int)=Builtin.Range.rangeSize lo hi 1:=by rw[rangeSize_one];split <;> lia
  show IsRangeIter _ _ (lo+((0:Nat):Int)*1) ((((hi-lo).toNat:Nat):Int)-((0:Nat):Int)) 1;rw[e1,e2];exact ca _ rfl
 .have e:b=(s.heap.push { cls:=.type "range",data:=.fields #[.int lo t,.int hi u,.int 1 v] }).objs.size:=by simpa using hb
  subst e;exact I1.fpOk (aE _) (I1.hok.fresh (aE _))
def pT(ta:TA):TI:=fun Z H R=>ta Z H fun vs H1=>∃ j:Int,vs=[.int j]/\-(2^62)<=j/\j<2^62/\R (Itr 0 j.toNat) H1
def cV{a:Expr}{ta:TA}{p pos:Pos}(hg:Gl X "range")(hm:X.mg "range"=none)(ha:PA X [a] ta)(hs:starEach [a] X.env=[(false,eval a X.env)]:=by rfl):PI X tg (.Call (.Name "range" p) [a] [] pos) (pT ta):=by
 intro pins s Z H R I h;refine Call_ (jd I hg hm boot_range (nK (thn (ha pos pins s Z H _ I h) fun us s1 ⟨vs,H1,I1,r1,q1⟩=>?_) hs rfl));obtain⟨j,e,q1,q2,q⟩:=q1;subst e;cases r1 with
 | cons r rr =>
  cases rr;obtain⟨t,rfl⟩:=r;exact call_range_1 (Zm5 I1 (by lia) (by lia) q1 q2 (by simpa using q))
def tFor(wi:TI)(g:TG)(tb:TS):TS:=fun D Z H=>wi Z H fun J H1=>∃ W:Nat->Nat->St->Hp->Prop,(∃ m,W 0 m Z H1)/\∀ i m Z H,W i m Z H ->
 (J.stop i H/\D.nx Z H)\/(J.go i H/\∃ N:St->Hp->Prop,(∀ σ' H',N σ' H'->∃ m',m'<m/\W (i+1) m' σ' H')/\∀ x H',J.yld i H x H'->g x Z H' fun σ2 H2=>tb { D with nx:=N,ct:=N,bk:=D.nx } σ2 H2)
def eD(fp:List Addr)(h:Heap):List (Addr×Obj):=fp.filterMap fun b=>(h.get? b).map fun o=>(b,o)
def kZ{h:Heap}{b:Addr}{o:Obj}(hb:b∈fp)(e:h.get? b=some o):(b,o)∈eD fp h:=mem_filterMap.mpr ⟨b,hb,by rw[e];rfl⟩
def uy{h:Heap}{p:Addr×Obj}(hp:p∈eD fp h):p.1∈fp/\h.get? p.1=some p.2:=by
 obtain⟨b,hb,e⟩:=mem_filterMap.mp hp;cases q:h.get? b with
 | none=>rw[q] at e;cases e
 | some o =>
  rw[q] at e;have e':(b,o)=p:=Option.some.inj e;subst e';exact⟨hb,q⟩
def Inv.pinned{s:Shared}(I:Inv X pins Z H s)(hf:∀ b∈fp,FpOk X pins H b)(ho:∀ b∈fp,∃ o,s.heap.get? b=some o/\∀ v,o.data≠.cell v):Inv X (pins++eD fp s.heap) Z H s :=
 I.pins_of fun p hp=>(aR.mp hp).elim (fun z=>I.pin p (eI _ z)) fun z=>by
  obtain⟨hb,e⟩:=uy z;obtain⟨f0,f1,f2,_⟩:=hf p.1 hb;obtain⟨o,e',d⟩:=ho p.1 hb;rw[e] at e';cases e';exact⟨e,f0,f1,f2,d⟩
def Inv.unpinned{pl:List (Addr×Obj)}{s:Shared}(I:Inv X (pins++pl) Z H s):Inv X pins Z H s:=I.pins_of fun p hp=>I.pin p (eI _ (dQ _ hp))
def cy{iter:Expr}{body:List Stmt}{tb:TS}{pos:Pos}(hp:PassesOwn (model X.prog X.w) X.A X.env X.xe)(hc:X.calm=true)(hi:PI X tg iter wi)(hg:PG X tg g)(hb:PSs X body tb)
  (hs:∀ x,foldedSetIterable iter X.env x=pure x:=by intro _;rfl):PS X (.For tg iter body [] pos) (tFor wi g tb):=by
 intro pins s Z H D I h;refine wpAny_For (thn (hi pins s Z H _ I h) fun v s1 h1=>thn h1 fun itv s2 h2=>?_) hs;obtain⟨it,fp,tn,J,H2,e,I2,T,st2,f2,W,⟨m0,w0⟩,turn⟩:=h2;subst e;have stat:∀ {H':Hp},(∀ b∈fp,H' b=none)->∀ b∈fp,FpOk X pins H' b:=fun hn b hb=>⟨hn b hb,(f2 b hb).2⟩;refine codeAny_forLoop_any (fun n s'=>∃ i σ' H',Inv X pins σ' H' s'/\tn i s'.heap/\(∀ b∈fp,H' b=none)/\W i n σ' H') ?_ m0 ⟨0,Z,H2,I2,st2,fun b hb=>(f2 b hb).1,w0⟩;rintro n s3 ⟨i,σ3,H3,I3,st3,fr3,w3⟩;rcases turn i n σ3 H3 w3 with ⟨stop,qn⟩|⟨go,N,hN,step⟩
 .refine ji hp (thn (T.done X rfl rfl rfl hc i pins s3 σ3 H3 X.xe I3 (stat fr3) st3 stop) fun r s4 z0_=>?_);obtain⟨hr,I4⟩:=z0_;subst hr;exact nH ⟨σ3,H3,I4,qn⟩
 .refine ji hp (thn (T.item X rfl rfl rfl hc i pins s3 σ3 H3 X.xe I3 (stat fr3) st3 go) fun r s4 z1_=>?_);obtain ⟨u,hr,h4⟩:=z1_;subst hr;refine ji hp (thn h4 fun _ s5 z2_=>?_);obtain ⟨x,H5,I5,r5,y5,st5,fr5⟩:=z2_;have I5':=I5.pinned (stat fr5) (T.obj _ _ st5);refine ji hp (thn (hg _ s5 σ3 H5 x u _ I5' r5 (step x H5 y5)) fun _ s6 z3_=>?_);obtain ⟨σ6,H6,I6,q6⟩:=z3_;refine ji hp (thn (hb _ s6 σ6 H6 _ I6 q6) fun f s7 q7=>?_);have again:∀ {σ7:St} {H7:Hp},Inv X (pins++eD fp s5.heap) σ7 H7 s7->N σ7 H7->∃ m,m < n/\∃ i σ' H',Inv X pins σ' H' s7/\tn i s7.heap/\(∀ b∈fp,H' b=none)/\W i m σ' H':=fun {σ7 H7} I7 n7=>by
   obtain⟨m',hm,w7⟩:=hN σ7 H7 n7;refine⟨m',hm,i+1,σ7,H7,I7.unpinned,T.keep _ _ _ st5 fun b hb o e=>(I7.pin (b,o) (eI _ (eI _ (kZ hb e)))).1,fun b hb=>?_,w7⟩;obtain⟨o,e,d⟩:=T.obj _ _ st5 b hb;exact(I7.pin (b,o) (eI _ (eI _ (kZ hb e)))).2.1
  cases f with
  | next=>obtain⟨σ7,H7,I7,n7⟩:=q7;exact again I7 n7
  | cont=>obtain⟨σ7,H7,I7,n7⟩:=q7;exact again I7 n7
  | brk=>obtain⟨σ7,H7,I7,q7⟩:=q7;exact⟨σ7,H7,I7.unpinned,q7⟩
  | ret v=>obtain⟨x7,σ7,H7,I7,r7,q7⟩:=q7;exact⟨x7,σ7,H7,I7.unpinned,r7,q7⟩
end
def ZnD{K:W.Frag}{xs:List V}{tb:TS}{D:Ends}(Pv:Nat->St->Hp->Prop)(h0:Pv 0 Z H)(hl:∀ i Z H,i<=xs.length->Pv i Z H->SqL K H a xs)
  (hs:∀ i x Z H,xs[i]?=some x->Pv i Z H->g x Z H fun σ2 H2=>tb { D with nx:=Pv (i+1),ct:=Pv (i+1),bk:=D.nx } σ2 H2) (hd:∀ Z H,Pv xs.length Z H->D.nx Z H) :
  ∃ W:Nat->Nat->St->Hp->Prop,(∃ m,W 0 m Z H)/\∀ i m Z H,W i m Z H ->
   ((Itl K a).stop i H/\D.nx Z H)\/((Itl K a).go i H/\∃ N:St->Hp->Prop,(∀ σ' H',N σ' H'->∃ m',m'<m/\W (i+1) m' σ' H')/\∀ x H',(Itl K a).yld i H x H'->g x Z H' fun σ2 H2=>tb { D with nx:=N,ct:=N,bk:=D.nx } σ2 H2):=by
 refine⟨fun i m Z H=>m=xs.length-i/\i<=xs.length/\Pv i Z H,⟨xs.length,by simp,bO _,h0⟩,?_⟩;rintro i m Z H ⟨rfl,hi,p⟩;have q:=hl i Z H hi p;by_cases hlt:i<xs.length
 .refine .inr ⟨⟨xs,xs[i],q,by simp[hlt]⟩,Pv (i+1),fun σ' H' p'=>⟨xs.length-(i+1),by lia,rfl,hlt,p'⟩,fun x H' y=>?_⟩;obtain⟨e,y⟩:=y;subst e;exact hs i x Z _ (y xs q) p
 .have e:i=xs.length:=by lia
  subst e;exact .inl ⟨⟨xs,q,aE _⟩,hd Z H p⟩
end L2
namespace L2
variable{ys vs:List L2.V}{H H' H1 H2:L2.Hp}{Z:L2.St}{ta te tc to tl td ty tv:L2.TE}{y:L2.V}{g:L2.TG}{wi:L2.TI}{kvs:List (List L2.Key×L2.V)}{ks:List L2.Key}{tr:L2.TA}
open PySem PySem.Spec PyProof.Rows
abbrev R2:=V->V->Hp->VK->Prop
noncomputable def OpR(X:Cx)(f:Value->Value->Sem Value)(r:R2):Prop :=
 ∀ (pins:List (Addr×Obj)) (s:Shared) (Z:St) (H:Hp) (x y:V) (v u:Value) (Q:VK),Inv X pins Z H s->RelV x v->RelV y u->r x y H Q ->
  wpAny (model X.prog X.w) X.A (f v u) (EP X pins Z Q) X.xe s
noncomputable def UnR(X:Cx)(f:Value->Sem Value)(r:V->Hp->VK->Prop):Prop :=
 ∀ (pins:List (Addr×Obj)) (s:Shared) (Z:St) (H:Hp) (x:V) (v:Value) (Q:VK),Inv X pins Z H s->RelV x v->r x H Q ->
  wpAny (model X.prog X.w) X.A (f v) (EP X pins Z Q) X.xe s
noncomputable def cm(X:Cx)(f:Value)(r:List V->Hp->VK->Prop):Prop :=
 ∀ (pins:List (Addr×Obj)) (s:Shared) (Z:St) (H:Hp) (xs:List V) (us:List Value) (Q:VK),Inv X pins Z H s->Vals xs us->r xs H Q ->
  wpAny (model X.prog X.w) X.A (call f us) (EP X pins Z Q) X.xe s
def tOp(r:R2)(ta tb:TE):TE:=fun Z H Q=>ta Z H fun x H1=>tb Z H1 fun y H2=>r x y H2 Q
def tUn(r:V->Hp->VK->Prop)(ta:TE):TE:=fun Z H Q=>ta Z H fun x H1=>r x H1 Q
def rI(C:Int->Int->Prop)(g:Int->Int->V):R2:=fun x y H Q=>∃ i j,x=.int i/\y=.int j/\C i j/\Q (g i j) H
def rI0(g:Int->Int->V):R2:=fun x y H Q=>∃ i j,x=.int i/\y=.int j/\Q (g i j) H
def rU(g:Int->V):V->Hp->VK->Prop:=fun x H Q=>∃ i,x=.int i/\Q (g i) H
section
variable{X:Cx}{a b c:Expr}{tb:TE}
def binT(ha:PE X a ta)(hb:PE X b tb){s:Shared}{R:V->V->Hp->Prop}(I:Inv X pins Z H s)
  (h:ta Z H fun x H1=>tb Z H1 fun y H2=>R x y H2) {Q:Value->Shared->Prop} {f:Value->Value->Sem Value}
  (hf:∀ v u s2 x y H2,Inv X pins Z H2 s2->RelV x v->RelV y u->R x y H2->wpAny (model X.prog X.w) X.A (f v u) Q X.xe s2) :
  wpAny (model X.prog X.w) X.A (eval a X.env) (fun v s₁=>wpAny (model X.prog X.w) X.A (eval b X.env) (fun u s₂=>wpAny (model X.prog X.w) X.A (f v u) Q X.xe s₂) X.xe s₁) X.xe s:=by
 refine thn (ha pins s Z H _ I h) fun v s1 ⟨x,H1,I1,r1,q1⟩=>?_;refine thn (hb pins s1 Z H1 _ I1 q1) fun u s2 ⟨y,H2,I2,r2,q2⟩=>?_;exact hf v u s2 x y H2 I2 r1 r2 q2
def aw{op:Operator}{r:R2}(ho:OpR X (binaryOp op) r)(ha:PE X a ta)(hb:PE X b tb):PE X (.BinOp a op b pos) (tOp r ta tb):=by
 intro pins s Z H Q I h;exact wpAny_BinOp (binT ha hb I h fun v u s2 x y H2 I2 rx ry q=>ho pins s2 Z H2 x y v u Q I2 rx ry q)
def ck{op:UnaryOp}{r:V->Hp->VK->Prop}(ho:UnR X (unaryOp op) r)(ha:PE X a ta):PE X (.UnaryOp op a pos) (tUn r ta):=by
 intro pins s Z H Q I h;exact UnaryOp_ (thn (ha pins s Z H _ I h) fun v s1 ⟨x,H1,I1,r1,q1⟩=>ho pins s1 Z H1 x v Q I1 r1 q1)
def opI{f:Value->Value->Sem Value}{C:Int->Int->Prop}{g:Int->Int->Int}
  (rule:∀ (i j:Int) (t u:Tok) (s:Shared) (Q:Value->Shared->Prop) (E:Value->Shared->Prop),C i j->Q (.int (g i j) s.toks) { s with toks:=s.toks+1 }->wpAny (model X.prog X.w) X.A (f (.int i t) (.int j u)) Q E s) :
  OpR X f (rI C fun i j=>.int (g i j)):=by
 intro pins s Z H x y v u Q I rx ry h;obtain⟨i,j,rfl,rfl,hc,q⟩:=h;obtain⟨t,rfl⟩:=rx;obtain⟨t',rfl⟩:=ry;exact rule i j t t' s _ _ hc ⟨.int (g i j),H,I.tok _,⟨_,rfl⟩,q⟩
def opI0{f:Value->Value->Sem Value}{g:Int->Int->Int}
  (rule:∀ (i j:Int) (t u:Tok) (s:Shared) (Q:Value->Shared->Prop) (E:Value->Shared->Prop),Q (.int (g i j) s.toks) { s with toks:=s.toks+1 }->wpAny (model X.prog X.w) X.A (f (.int i t) (.int j u)) Q E s) :
  OpR X f (rI0 fun i j=>.int (g i j)):=by
 intro pins s Z H x y v u Q I rx ry h;obtain⟨i,j,rfl,rfl,q⟩:=h;obtain⟨t,rfl⟩:=rx;obtain⟨t',rfl⟩:=ry;exact rule i j t t' s _ _ ⟨.int (g i j),H,I.tok _,⟨_,rfl⟩,q⟩
def opB0{f:Value->Value->Sem Value}{g:Int->Int->Bool}
  (rule:∀ (i j:Int) (t u:Tok) (s:Shared) (Q:Value->Shared->Prop) (E:Value->Shared->Prop),Q (.bool (g i j)) s->wpAny (model X.prog X.w) X.A (f (.int i t) (.int j u)) Q E s) :
  OpR X f (rI0 fun i j=>.bl (g i j)):=by
 intro pins s Z H x y v u Q I rx ry h;obtain⟨i,j,rfl,rfl,q⟩:=h;obtain⟨t,rfl⟩:=rx;obtain⟨t',rfl⟩:=ry;exact rule i j t t' s _ _ ⟨.bl (g i j),H,I,rfl,q⟩
def CPow(i j:Int):Prop:=0<=j/\j<=1000000/\i.natAbs<2^64
def CMul(i j:Int):Prop:=(-(2^64)<i/\i<2^64)\/(-(2^64)<j/\j<2^64)
def CMul.ok(h:CMul i j):IntMulOk i j:=by
 rcases h with ⟨h1,h2⟩|⟨h1,h2⟩
 .exact .of_left (intBits_le_64 h1 h2)
 .exact .of_right (intBits_le_64 h1 h2)
def bw:OpR X (binaryOp .Add) (rI0 fun i j=>.int (i+j)):=opI0 fun _ _ _ _ _ _ _ q=>add_int q
def dj:OpR X (binaryOp .Sub) (rI0 fun i j=>.int (i-j)):=opI0 fun _ _ _ _ _ _ _ q=>sub_int q
def qI:OpR X (binaryOp .Mult) (rI CMul fun i j=>.int (i*j)):=opI fun _ _ _ _ _ _ _ hc q=>mul_int q hc.ok
def fE:OpR X (binaryOp .Mod) (rI (fun _ j=>0<j) fun i j=>.int (i % j)):=opI fun i j _ _ _ _ _ hc q=>by
 have h1:(0:Int)<j:=hc;exact mod_int' (by lia) (by rw[Int.fmod_eq_emod_of_nonneg i (by lia)];exact q)
def jJ:OpR X (binaryOp .Pow) (rI CPow fun i j=>.int (i^j.toNat)):=opI fun _ _ _ _ _ _ _ hc q=>pow_int_small hc.1 hc.2.1 hc.2.2 q
def unI{f:Value->Sem Value}{g:Int->Int}
  (rule:∀ (i:Int) (t:Tok) (s:Shared) (Q:Value->Shared->Prop) (E:Value->Shared->Prop),Q (.int (g i) s.toks) { s with toks:=s.toks+1 }->wpAny (model X.prog X.w) X.A (f (.int i t)) Q E s) :
  UnR X f (rU fun i=>.int (g i)):=by
 intro pins s Z H x v Q I rx h;obtain⟨i,rfl,q⟩:=h;obtain⟨t,rfl⟩:=rx;exact rule i t s _ _ ⟨.int (g i),H,I.tok _,⟨_,rfl⟩,q⟩
def cj:UnR X (unaryOp .USub) (rU fun i=>.int (-i)):=unI fun _ _ _ _ _ q=>neg_int q
end
noncomputable def scal:V->V->Bool
 | .non,.non=>true|.non,.int _=>true|.int _,.non=>true|.non,.bl _=>true|.bl _,.non=>true|.non,.str _=>true|.str _,.non=>true
 | .int _,.int _=>true|.bl _,.bl _=>true|.str _,.str _=>true|.byt _,.byt _=>true
 | .int _,.str _=>true|.str _,.int _=>true|.bl _,.str _=>true|.str _,.bl _=>true
 | _,_=>false
def rEq:R2:=fun x y H Q=>scal x y=true/\Q (.bl (decide (x=y))) H
def rNe:R2:=fun x y H Q=>scal x y=true/\Q (.bl (!decide (x=y))) H
def ml:decide (V.int i=V.int j)=(i == j):=by
 rw[lu];simp
def mV{i j:Bool}:decide (V.bl i=V.bl j)=(i == j):=by
 rw[lu];simp
def m6{i j:Str}:decide (V.str i=V.str j)=(i == j):=by
 rw[lu];simp
def wn{i j:Array UInt8}:decide (V.byt i=V.byt j)=(i.toList == j.toList):=by
 rw[lu];cases i;cases j;simp
section
variable{X:Cx}{a b c:Expr}{tb:TE}
def bM{s:Shared}{Q:VK}{k k':Bool}(I:Inv X pins Z H s)(q:Q (.bl k) H)(e:k=k'):EP X pins Z Q (.bool k') s:=by
 subst e;exact⟨.bl k,H,I,rfl,q⟩
def ba:OpR X (compareOp .Eq) rEq:=by
 intro pins s Z H x y v u Q I rx ry h;obtain⟨hs,q⟩:=h;cases x with
 | non =>
  cases rx;cases y with
  | non=>cases ry;exact PySem.EqNone.eq_none_none (bM I q (by simp))
  | bl j=>cases ry;exact PySem.EqNone.eq_none_bool (bM I q (by simp))
  | int j=>obtain⟨t',rfl⟩:=ry;exact PySem.EqNone.eq_none_int (bM I q (by simp))
  | str j=>obtain⟨t',rfl⟩:=ry;exact PySem.EqNone.eq_none_str (bM I q (by simp))
  | _=>exact absurd (show false=true from hs) bL
 | bl i =>
  cases rx;cases y with
  | non=>cases ry;exact PySem.EqNone.eq_bool_none (bM I q (by simp))
  | bl j=>cases ry;exact eq_bool (bM I q mV)
  | str j=>obtain⟨t',rfl⟩:=ry;exact PySem.EqMixed.eq_bool_str (bM I q (by simp))
  | _=>exact absurd (show false=true from hs) bL
 | int i =>
  obtain⟨t,rfl⟩:=rx;cases y with
  | non=>cases ry;exact PySem.EqNone.eq_int_none (bM I q (by simp))
  | int j=>obtain⟨t',rfl⟩:=ry;exact eq_int (bM I q ml)
  | str j=>obtain⟨t',rfl⟩:=ry;exact PySem.EqMixed.eq_int_str (bM I q (by simp))
  | _=>exact absurd (show false=true from hs) bL
 | str i =>
  obtain⟨t,rfl⟩:=rx;cases y with
  | non=>cases ry;exact PySem.EqNone.eq_str_none (bM I q (by simp))
  | bl j=>cases ry;exact PySem.EqMixed.eq_str_bool (bM I q (by simp))
  | int j=>obtain⟨t',rfl⟩:=ry;exact PySem.EqMixed.eq_str_int (bM I q (by simp))
  | str j=>obtain⟨t',rfl⟩:=ry;exact eq_str (bM I q m6)
  | _=>exact absurd (show false=true from hs) bL
 | byt i =>
  obtain⟨t,rfl⟩:=rx;cases y with
  | byt j=>obtain⟨t',rfl⟩:=ry;exact PySem.W.eq_bytes (bM I q wn)
  | _=>exact absurd (show false=true from hs) bL
 | _=>cases y <;> exact absurd (show false=true from hs) bL
def gM:OpR X (compareOp .NotEq) rNe:=by
 intro pins s Z H x y v u Q I rx ry h;obtain⟨hs,q⟩:=h;cases x with
 | non =>
  cases rx;cases y with
  | non=>cases ry;exact PySem.EqNone.ne_none_none (bM I q (by simp))
  | bl j=>cases ry;exact PySem.EqNone.ne_none_bool (bM I q (by simp))
  | int j=>obtain⟨t',rfl⟩:=ry;exact PySem.EqNone.ne_none_int (bM I q (by simp))
  | str j=>obtain⟨t',rfl⟩:=ry;exact PySem.EqNone.ne_none_str (bM I q (by simp))
  | _=>exact absurd (show false=true from hs) bL
 | bl i =>
  cases rx;cases y with
  | non=>cases ry;exact PySem.EqNone.ne_bool_none (bM I q (by simp))
  | bl j=>cases ry;exact ne_bool (bM I q (congrArg not mV))
  | str j=>obtain⟨t',rfl⟩:=ry;exact PySem.EqMixed.ne_bool_str (bM I q (by simp))
  | _=>exact absurd (show false=true from hs) bL
 | int i =>
  obtain⟨t,rfl⟩:=rx;cases y with
  | non=>cases ry;exact PySem.EqNone.ne_int_none (bM I q (by simp))
  | int j=>obtain⟨t',rfl⟩:=ry;exact ne_int (bM I q (congrArg not ml))
  | str j=>obtain⟨t',rfl⟩:=ry;exact PySem.EqMixed.ne_int_str (bM I q (by simp))
  | _=>exact absurd (show false=true from hs) bL
 | str i =>
  obtain⟨t,rfl⟩:=rx;cases y with
  | non=>cases ry;exact PySem.EqNone.ne_str_none (bM I q (by simp))
  | bl j=>cases ry;exact PySem.EqMixed.ne_str_bool (bM I q (by simp))
  | int j=>obtain⟨t',rfl⟩:=ry;exact PySem.EqMixed.ne_str_int (bM I q (by simp))
  | str j=>obtain⟨t',rfl⟩:=ry;exact ne_str (bM I q (congrArg not m6))
  | _=>exact absurd (show false=true from hs) bL
 | byt i =>
  obtain⟨t,rfl⟩:=rx;cases y with
  | byt j=>obtain⟨t',rfl⟩:=ry;exact PySem.W.ne_bytes (bM I q (congrArg not wn))
  | _=>exact absurd (show false=true from hs) bL
 | _=>cases y <;> exact absurd (show false=true from hs) bL
def dM:OpR X (compareOp .Lt) (rI0 fun i j=>.bl (decide (i<j))):=opB0 fun _ _ _ _ _ _ _ q=>lt_int q
def fg:OpR X (compareOp .LtE) (rI0 fun i j=>.bl (decide (i<=j))):=opB0 fun _ _ _ _ _ _ _ q=>le_int q
def eQ:OpR X (compareOp .Gt) (rI0 fun i j=>.bl (decide (j<i))):=opB0 fun _ _ _ _ _ _ _ q=>gt_int q
def op_ge:OpR X (compareOp .GtE) (rI0 fun i j=>.bl (decide (j<=i))):=opB0 fun _ _ _ _ _ _ _ q=>ge_int q
def op_isN:OpR X (compareOp .Is) (fun x y H Q=>y=.non/\Q (.bl (decide (x=.non))) H):=by
 intro pins s Z H x y v u Q I rx ry h;obtain⟨rfl,q⟩:=h;cases ry;refine is_none_gen (bM I q ?_);cases x <;> first
  | (cases rx;rfl)
  | (obtain⟨t,rfl⟩:=rx;rfl)
def ZpL:OpR X (compareOp .IsNot) (fun x y H Q=>y=.non/\Q (.bl (!decide (x=.non))) H):=by
 intro pins s Z H x y v u Q I rx ry h;obtain⟨rfl,q⟩:=h;cases ry;refine isnot_none_gen (bM I q ?_);cases x <;> first
  | (cases rx;rfl)
  | (obtain⟨t,rfl⟩:=rx;rfl)
def aA(b:Expr){op:CmpOp}(h:op≠.In:=by decide)(h2:op≠.NotIn:=by decide):behindInMarks op b=false:=by
 have e1:(op == CmpOp.In)=false:=by cases op <;> first|rfl|exact absurd rfl h
 have e2:(op == CmpOp.NotIn)=false:=by cases op <;> first|rfl|exact absurd rfl h2
 cases b <;> simp[behindInMarks,e1,e2]
def dJ{op:CmpOp}{r:R2}(ho:OpR X (compareOp op) r)(ha:PE X a ta)(hb:PE X b tb)(hm:behindInMarks op b=false):PE X (.Compare a [op] [b] pos) (tOp r ta tb):=by
 intro pins s Z H Q I h;exact wpAny_Compare1 (binT ha hb I h fun v u s2 x y H2 I2 rx ry q=>ho pins s2 Z H2 x y v u Q I2 rx ry q) hm
def nE(t:TE):TT:=fun Z H Q=>t Z H fun x H'=>∃ k,x=.bl k/\Q k H'
def aB{op:CmpOp}{r:R2}(ho:OpR X (compareOp op) r)(ha:PE X a ta)(hb:PE X b tb)(hm:behindInMarks op b=false):PT X (.Compare a [op] [b] pos) (nE (tOp r ta tb)):=by
 intro pins s Z H Q I h;refine wpAny_isTrue_Compare1 (thn (ha pins s Z H _ I h) fun v s1 ⟨x,H1,I1,r1,q1⟩=>thn (hb pins s1 Z H1 _ I1 q1) fun u s2 ⟨y,H2,I2,r2,q2⟩ =>
  thn (ho pins s2 Z H2 x y v u _ I2 r1 r2 q2) fun c s3 ⟨z,H3,I3,r3,k,e,q3⟩=>?_) hm
 subst e;cases r3;exact fY ⟨H3,I3,q3⟩
def nr(r r':R2)(ta tb tc:TE):TE:=fun Z H Q=>ta Z H fun x H1=>tb Z H1 fun y H2=>r x y H2 fun z H3=>∃ k,z=.bl k /\
 (if k=true then tc Z H3 fun w' H4=>r' y w' H4 Q else Q (.bl false) H3)
def Zno{op op':CmpOp}{r r':R2}(ho:OpR X (compareOp op) r)(ho':OpR X (compareOp op') r')(ha:PE X a ta)(hb:PE X b tb)(hc:PE X c tc)
  (hm:lastMarks [op,op'] [b,c]=false:=by with_unfolding_all rfl):PE X (.Compare a [op,op'] [b,c] pos) (nr r r' ta tb tc):=by
 intro pins s Z H Q I h;refine Compare_chain (thn (ha pins s Z H _ I h) fun v s1 ⟨x,H1,I1,r1,q1⟩=>chain_link (thn (hb pins s1 Z H1 _ I1 q1) fun u s2 ⟨y,H2,I2,r2,q2⟩ =>
  thn (ho pins s2 Z H2 x y v u _ I2 r1 r2 q2) fun d s3 ⟨z,H3,I3,r3,k,e,q3⟩=>?_)) hm
 subst e;cases r3;refine fY ?_;cases k with
 | false=>exact ite_ff ⟨.bl false,H3,I3,rfl,q3⟩
 | true=>exact ite_tt (chain_last (thn (hc pins s3 Z H3 _ I3 q3) fun w' s4 ⟨z',H4,I4,r4,q4⟩=>ho' pins s4 Z H4 y z' u w' Q I4 r2 r4 q4))
def ie{op op':CmpOp}{r r':R2}(ho:OpR X (compareOp op) r)(ho':OpR X (compareOp op') r')(ha:PE X a ta)(hb:PE X b tb)(hc:PE X c tc)
  (hm:lastMarks [op,op'] [b,c]=false:=by with_unfolding_all rfl):PT X (.Compare a [op,op'] [b,c] pos) (nE (nr r r' ta tb tc)):=by
 intro pins s Z H Q I h;refine isTrue_chain (thn (ha pins s Z H _ I h) fun v s1 ⟨x,H1,I1,r1,q1⟩=>test_link (thn (hb pins s1 Z H1 _ I1 q1) fun u s2 ⟨y,H2,I2,r2,q2⟩ =>
  thn (ho pins s2 Z H2 x y v u _ I2 r1 r2 q2) fun d s3 ⟨z,H3,I3,r3,k,e,q3⟩=>?_)) hm
 subst e;cases r3;refine fY ?_;cases k with
 | false =>
  obtain⟨k',e',q'⟩:=q3;cases e';exact ite_ff ⟨H3,I3,q'⟩
 | true =>
  refine ite_tt (test_last (thn (hc pins s3 Z H3 _ I3 q3) fun w' s4 ⟨z',H4,I4,r4,q4⟩=>thn (ho' pins s4 Z H4 y z' u w' _ I4 r2 r4 q4) fun d' s5 ⟨z2,H5,I5,r5,k2,e2,q5⟩=>?_));subst e2;cases r5;exact fY ⟨H5,I5,q5⟩
def mK:(sizeLine:Nat)<2^63:=by rw[sizeLine_eq];decide
def ZjY:OpR X (binaryOp .Add) (fun x y H Q=>∃ i j,x=.str i/\y=.str j/\i.length+j.length<=sizeLine/\Q (.str (i++j)) H):=by
 intro pins s Z H x y v u Q I rx ry h;obtain⟨i,j,rfl,rfl,hz,q⟩:=h;obtain⟨t,rfl⟩:=rx;obtain⟨t',rfl⟩:=ry;exact add_str (fun t' tk=>⟨.str (i++j),H,I.tok _,⟨_,rfl⟩,q⟩) hz
def vals1{x:V}{us:List Value}(r:Vals [x] us):∃ u,us=[u]/\RelV x u:=by
 cases r with
 | cons r1 r2=>cases r2;exact⟨_,rfl,r1⟩
def vals2{x:V}{us:List Value}(r:Vals [x,y] us):∃ u w',us=[u,w']/\RelV x u/\RelV y w':=by
 cases r with
 | cons r1 r2 =>
  cases r2 with
  | cons r3 r4=>cases r4;exact⟨_,_,rfl,r1,r3⟩
def ZnM:cm X (.builtin "abs") (fun xs H Q=>∃ i,xs=[.int i]/\Q (.int (if i<0 then -i else i)) H):=by
 intro pins s Z H xs us Q I r h;obtain⟨i,rfl,q⟩:=h;obtain⟨u,rfl,t,rfl⟩:=vals1 r;exact call_abs_int fun u tk=>⟨.int (if i<0 then -i else i),H,I.tok _,⟨_,rfl⟩,q⟩
def Zmv(hc:X.calm=true):cm X (.builtin "max") (fun xs H Q=>∃ i j,xs=[.int i,.int j]/\Q (.int (if j>i then j else i)) H):=by
 intro pins s Z H xs us Q I r h;obtain⟨i,j,rfl,q⟩:=h;obtain⟨u,w',rfl,⟨t,rfl⟩,⟨t',rfl⟩⟩:=vals2 r;refine max_two_ints (I.ok.hd hc) fun h' tk k=>⟨_,H,I.kept k,?_,q⟩;by_cases hj:j>i
 .rw[am hj,am hj];exact⟨_,rfl⟩
 .rw[ao hj,ao hj];exact⟨_,rfl⟩
def Zms(hc:X.calm=true):cm X (.builtin "min") (fun xs H Q=>∃ i j,xs=[.int i,.int j]/\Q (.int (if j<i then j else i)) H):=by
 intro pins s Z H xs us Q I r h;obtain⟨i,j,rfl,q⟩:=h;obtain⟨u,w',rfl,⟨t,rfl⟩,⟨t',rfl⟩⟩:=vals2 r;refine min_two_ints (I.ok.hd hc) fun h' tk k=>⟨_,H,I.kept k,?_,q⟩;by_cases hj:j<i
 .rw[am hj,am hj];exact⟨_,rfl⟩
 .rw[ao hj,ao hj];exact⟨_,rfl⟩
def Zmy:cm X (.type "int") (fun xs H Q=>(∃ i,xs=[.int i]/\Q (.int i) H)\/∃ k,xs=[.bl k]/\Q (.int (if k then 1 else 0)) H):=by
 intro pins s Z H xs us Q I r h;rcases h with ⟨i,rfl,q⟩|⟨k,rfl,q⟩
 .obtain ⟨u,rfl,t,rfl⟩:=vals1 r;exact call_int_int ⟨.int i,H,I,⟨_,rfl⟩,q⟩
 .obtain ⟨u,rfl,r1⟩:=vals1 r;cases r1;exact call_int_bool ⟨.int (if k then 1 else 0),H,I.tok _,⟨_,rfl⟩,q⟩
noncomputable def LenV(K:W.Frag)(x:V)(H:Hp)(n:Nat):Prop :=
 match x with
 | .str y=>y.length<=sizeLine/\n=y.length
 | .byt y=>y.size<=sizeLine/\n=y.size
 | .ref p=>(∃ xs,SqL K H p xs/\n=xs.length)\/∃ xs,SqT K H p xs/\n=xs.length
 | _=>False
def ZnL:cm X (.builtin "len") (fun xs H Q=>∃ x n,xs=[x]/\LenV X.K x H n/\Q (.int n) H):=by
 intro pins s Z H xs us Q I r h;obtain⟨x,n,rfl,e,q⟩:=h;obtain⟨u,rfl,rx⟩:=vals1 r;have hl:=mK;have hs:sizeLine=16777216:=sizeLine_eq;cases x with
 | str y =>
  obtain⟨t,rfl⟩:=rx;obtain⟨hy,e'⟩:y.length<=sizeLine/\n=y.length:=e;subst e';exact len_str (by lia) ⟨.int _,H,I.tok _,⟨_,rfl⟩,q⟩
 | byt y =>
  obtain⟨t,rfl⟩:=rx;obtain⟨hy,e'⟩:y.size<=sizeLine/\n=y.size:=e;subst e';exact PySem.W.len_bytes (by lia) ⟨.int _,H,I.tok _,⟨_,rfl⟩,q⟩
 | ref p =>
  cases rx;have e':(∃ xs,SqL X.K H p xs/\n=xs.length)\/∃ xs,SqT X.K H p xs/\n=xs.length:=e;rcases e' with ⟨xs,hx,e'⟩|⟨xs,hx,e'⟩
  .subst e';obtain⟨its,r',pl,hz⟩:=I.list hx;have hlen:=r'.length;exact Calls.call_len_list pl.isList (by simp only[bT];lia) ⟨.int xs.length,H,I.tok _,⟨_,by simp only[bT];rw[hlen]⟩,q⟩
  .subst e';obtain⟨its,r',pl,hz⟩:=I.tuple hx;have hlen:=r'.length;exact len_tuple pl (by simp only[bT];lia) ⟨.int xs.length,H,I.tok _,⟨_,by simp only[bT];rw[hlen]⟩,q⟩
 | _=>exact(show False from e).elim
end
end L2
namespace L2
variable{ys vs:List L2.V}{H H' H1 H2:L2.Hp}{Z:L2.St}{ta te tc to tl td ty tv:L2.TE}{y:L2.V}{g:L2.TG}{wi:L2.TI}{kvs:List (List L2.Key×L2.V)}{ks:List L2.Key}{tr:L2.TA}
open PySem PySem.Spec PyProof.Rows
structure ObjM(h:Heap)(x dx C:Addr)(mA:Str->Option Value):Prop where
 obj:h.get? x=some (PySem.W.instObj C dx)
 ns:h.Ns1 dx mA
 ne:dx≠x
def ZlG{h:Heap}{dx:Addr}{mA:Str->Option Value}(n:h.Ns1 dx mA):∃ od,h.get? dx=some od/\∀ name,PySem.W.lookIn name od=some (mA name):=by
 obtain⟨o,es,ep,ho,hd,hk,_,hm⟩:=n;refine⟨o,ho,fun name=>?_⟩;have e:=hm name;unfold nsFind findBy at e;rw[<-Array.find?_toList] at e;unfold PySem.W.lookIn;rw[hd];dsimp only;split
 .rename_i y q;rw[q] at e;exact congrArg some e
 .rename_i q;rw[q] at e;have a:es.toList.any (·.refKey)=false:=by
   rw[any_eq_false];intro y hy;obtain⟨z,t,hkey⟩:=hk y (Array.mem_toList_iff.mp hy);simp[DictEntry.refKey,hkey]
  have a':¬ es.toList.any (·.refKey)=true:=by rw[a];exact bL
  rw[ao a'];exact congrArg some e
def ObjM.look{h:Heap}{x dx C:Addr}{mA:Str->Option Value}(I:ObjM h x dx C mA):∃ od,PySem.W.InstAt h x (PySem.W.instObj C dx) C (some od)/\∀ name,PySem.W.lookIn name od=some (mA name) :=
 let ⟨od,ho,hl⟩:=ZlG I.ns
 ⟨od,⟨I.obj,rfl,rfl,ho⟩,hl⟩
def RelO.some_of{v:V}{o:Option Value}(r:RelO (some v) o):∃ u,o=some u/\RelV v u:=by
 cases o with
 | none=>exact(show False from r).elim
 | some u=>exact⟨u,rfl,r⟩
section
variable{P:Program}{w:World}{h h':Heap}{C dx:Addr}{fs fs':List (Str×V)}
def uo(hok:HOk P w H h)(e:H a=some (.ins C dx fs)):∃ mA,ObjM h a dx C mA/\(∀ f,RelO (fs.lookup f) (mA f))/\PySem.Within mA (fs.map (·.1))/\fs.length<=1000/\H dx=some (.own a):=by
 obtain⟨d,z,ne,ob,mA,n,r,q⟩:=(show ObjOk P w H h a (.ins C dx fs) from hok a _ e);exact⟨mA,⟨ob,n,ne⟩,r,q,z,d⟩
end
structure Cls(K:W.Frag)(C:Addr):Prop where
 pg:PySem.W.plainGet K C Str.empty=true
 hd:PySem.W.hasDictIn K C=true
 po:PySem.W.plainOver K C=true
 sa:PySem.W.findIn K (.ref C) "__setattr__"=some (some (.builtin "object.__setattr__"))
def Cls.get{K:W.Frag}{C:Addr}(c:Cls K C)(f:Str):PySem.W.plainGet K C f=true:=c.pg
section
variable{X:Cx}{s:Shared}{Q:Value->Shared->Prop}{c:Value}{b:Bool}
inductive TyOf(K:W.Frag)(H:Hp):V->Value->Prop where
 | non:TyOf K H .non (.type "NoneType")
 | bl (x:Bool):TyOf K H (.bl x) (.type "bool")
 | int (i:Int):TyOf K H (.int i) (.type "int")
 | str (x:Str):TyOf K H (.str x) (.type "str")
 | flt (x:UInt64):TyOf K H (.flt x) (.type "float")
 | lst {a:Addr} {xs:List V} (e:H a=some (.lst xs)):TyOf K H (.ref a) (.type "list")
 | frz {a:Addr} {o:Obj} {xs:List V} (e:H a=some (.frz o (.lst xs))):TyOf K H (.ref a) (.type "list")
 | tup {a:Addr} {xs:List V} (e:H a=some (.tup xs)):TyOf K H (.ref a) (.type "tuple")
 | dK {a:Addr} {kvs:List (Key×V)} (e:H a=some (.dK kvs)):TyOf K H (.ref a) (.type "dict")
 | dT {a:Addr} {kvs:List (List Key×V)} (e:H a=some (.dT kvs)):TyOf K H (.ref a) (.type "dict")
 | ins {a C dx:Addr} {fs:List (Str×V)} (e:H a=some (.ins C dx fs)) (cl:Cls K C) (ha:PySem.W.findIn K (.ref C) "__class__"=some (some (.builtin "object.__class__")))
   (hn:PySem.W.specialIn K (.builtin "object.__class__") "__get__"=some (some (.builtin "getset_descriptor.__get__"))) (htk:PySem.W.takesIn K (.builtin "object.__class__")=some true)
   (hm:PySem.W.mroIn K C (.type "object")=some true):TyOf K H (.ref a) (.ref C)
def ZlW{x:V}{t:Value}(I:Inv X pins Z H s)(rx:RelV x u)(ty:TyOf X.K H x t)(e:PySem.W.kitOne X.K t c=some b)(h:∀ tk,Q (.bool b) { s with toks:=tk }) :
  wpAny (model X.prog X.w) A (call (.builtin "isinstance") [u,c]) Q E s:=by
 cases ty with
 | non=>cases (show u=Value.none from rx);exact PySem.W.kia_one PySem.W.kitx_none I.kIn True.intro e (fun z=>nomatch z) h
 | bl y=>cases (show u=Value.bool y from rx);exact PySem.W.kia_one PySem.W.kitx_bool I.kIn True.intro e (fun z=>nomatch z) h
 | int i=>obtain⟨t,q⟩:=(show ∃ t,u=Value.int i t from rx);cases q;exact PySem.W.kia_one PySem.W.kitx_int I.kIn True.intro e (fun z=>nomatch z) h
 | str y=>obtain⟨t,q⟩:=(show ∃ t,u=Value.str y t from rx);cases q;exact PySem.W.kia_one PySem.W.kitx_str I.kIn True.intro e (fun z=>nomatch z) h
 | flt y=>obtain⟨t,q⟩:=(show ∃ t,u=Value.float y t from rx);cases q;exact PySem.W.kia_one PySem.W.kitx_float I.kIn True.intro e (fun z=>nomatch z) h
 | @lst a xs ea =>
  cases (show u=Value.ref a from rx);obtain⟨_,_,n,_,h1⟩:=(show ObjOk X.prog X.w H s.heap a (.lst xs) from I.hok a _ ea);exact PySem.W.kia_one PySem.W.kitx_list I.kIn ⟨_,h1,rfl⟩ e (fun z=>nomatch z) h
 | @frz a ob xs ea =>
  cases (show u=Value.ref a from rx);obtain⟨_,_,_,n,_,h1⟩:=(show ObjOk X.prog X.w H s.heap a (.frz ob (.lst xs)) from I.hok a _ ea);exact PySem.W.kia_one PySem.W.kitx_list I.kIn ⟨_,h1,rfl⟩ e (fun z=>nomatch z) h
 | @tup a xs ea =>
  cases (show u=Value.ref a from rx);obtain⟨_,_,_,p⟩:=(show ObjOk X.prog X.w H s.heap a (.tup xs) from I.hok a _ ea);obtain⟨o,h1,h2,_⟩:=p;exact PySem.W.kia_one PySem.W.kitx_tuple I.kIn ⟨o,h1,h2⟩ e (fun z=>nomatch z) h
 | @dK a kvs ea =>
  cases (show u=Value.ref a from rx);obtain⟨_,_,vs,_,p⟩:=(show ObjOk X.prog X.w H s.heap a (.dK kvs) from I.hok a _ ea);obtain⟨o,es,ep,h1,h2,_⟩:=p;exact PySem.W.kia_one PySem.W.kitx_dict I.kIn ⟨o,h1,h2.1⟩ e (fun z=>nomatch z) h
 | @dT a kvs ea =>
  cases (show u=Value.ref a from rx);obtain⟨_,_,xs,_,o,es,ep,h1,h2,_⟩:=(show ObjOk X.prog X.w H s.heap a (.dT kvs) from I.hok a _ ea);exact PySem.W.kia_one PySem.W.kitx_dict I.kIn ⟨o,h1,h2.1⟩ e (fun z=>nomatch z) h
 | @ins a C dx fs ea cl ha hn htk hm =>
  cases (show u=Value.ref a from rx);obtain⟨mA,O,_⟩:=uo I.hok ea;obtain⟨od,J,_⟩:=O.look;exact PySem.W.kia_one (PySem.W.kitx_own (cl.get _) cl.hd ha hn htk hm) I.kIn J e (fun z=>nomatch z) h
end
end L2
namespace L2
variable{ys vs:List L2.V}{H H' H1 H2:L2.Hp}{Z:L2.St}{ta te tc to tl td ty tv:L2.TE}{y:L2.V}{g:L2.TG}{wi:L2.TI}{kvs:List (List L2.Key×L2.V)}{ks:List L2.Key}{tr:L2.TA}
open PySem PySem.Spec PyProof.Rows
structure Room(k:Nat)(A:Around):Prop where
 hd:A.handled=none
 dp:A.depth+3*k+5<recursionLimit
 un:A.units+16*k+200<cLine
 gd:A.guards=some []
def Room.mono{j k:Nat}(r:Room k A)(h:j<=k):Room j A:=⟨r.hd,by have:=r.dp;lia,by have:=r.un;lia,r.gd⟩
def Room.m{j k:Nat}(r:Room k A)(h:j<=k:=by first|decide|lia):Room j A:=r.mono h
def Room.deeper{k:Nat}{A:Around}(r:Room (k+1) A)(env:Env):Room k (A.deeper env) :=
 ⟨r.hd,by have:=r.dp;show A.depth+1+3*k+5<_;lia,by have:=r.un;show A.units+3+16*k+200<_;lia,r.gd⟩
def Room.depth{k:Nat}{A:Around}(r:Room k A):A.depth<recursionLimit:=by have:=r.dp;lia
def Room.units{k:Nat}{A:Around}(r:Room k A):A.units+64<cLine:=by have:=r.un;lia
def tNil:TA:=fun _ H Q=>Q [] H
def bI(ta:TE)(tr:TA):TA:=fun Z H Q=>ta Z H fun x H1=>tr Z H1 fun xs H2=>Q (x::xs) H2
section
variable{X:Cx}{t:TA}
def ab:PA X [] tNil:=fun _ _ _ _ H Q I h=>nL ⟨[],H,I,.nil,h⟩
def fP(ha:PE X e te)(hr:PA X es t)(hs:starEach (e::es) X.env=(false,eval e X.env)::starEach es X.env:=by rfl):PA X (e::es) (bI te t):=by
 intro pos pins s Z H Q I h;rw[hs];show wpAny _ _ (spliced ((false,eval e X.env)::backTo pos (starEach es X.env))) _ _ s;refine lv (thn (ha pins s Z H _ I h) fun u s1 ⟨x,H1,I1,r1,q1⟩=>?_);exact thn (hr pos pins s1 Z H1 _ I1 q1) fun us s2 ⟨xs,H2,I2,r2,q2⟩=>⟨x::xs,H2,I2,.cons r1 r2,q2⟩
def tTup(t:TA):TE:=fun Z H Q=>t Z H fun xs H1=>xs.length<=sizeLine/\∀ p,H1 p=none->Q (.ref p) (upd H1 p (.tup xs))
def tLst(t:TA):TE:=fun Z H Q=>t Z H fun xs H1=>xs.length<=sizeLine/\∀ p,H1 p=none->Q (.ref p) (upd H1 p (.lst xs))
def av{x1}(h:PA X es t):PE X (.Tuple es x1 pos) (tTup t):=by
 intro pins s Z H Q I hq;refine wpAny_Tuple_spliced (thn (h pos pins s Z H _ I hq) fun us s1 ⟨xs,H1,I1,r,z,q⟩=>⟨by rw[<-r.length];exact z,?_⟩);have hf:H1 s1.heap.objs.size=none:=I1.hok.fresh (aE _);refine⟨.ref s1.heap.objs.size,upd H1 s1.heap.objs.size (.tup xs),I1.laid (t':=s1.toks) (fun b u e=>br _ e) (aE _) ?_,rfl,q _ hf⟩;exact⟨z,us,r,⟨_,ca _ rfl,rfl,_,rfl⟩⟩
def bt(h:PA X es t):PE X (.List es pos) (tLst t):=by
 intro pins s Z H Q I hq;refine wpAny_List_spliced (thn (h pos pins s Z H _ I hq) fun us s1 ⟨xs,H1,I1,r,z,q⟩=>⟨by rw[<-r.length];exact z,?_⟩);have hf:H1 s1.heap.objs.size=none:=I1.hok.fresh (aE _);refine⟨.ref s1.heap.objs.size,upd H1 s1.heap.objs.size (.lst xs),I1.laid (t':=s1.toks) (fun b u e=>br _ e) (aE _) ?_,rfl,q _ hf⟩;exact⟨z,us,0,r,ca _ rfl⟩
end
abbrev Sp:=List V->Hp->VK->XK->Prop
abbrev CXT:=List Env->Hp->Shared->XK->Value->Shared->Prop
structure Env0(P:Program)(w:World)(K:W.Frag)(mg:Str->Option Value)(base:Heap)(A:Around)(outer:List Env)(s:Shared)(H:Hp):Prop where
 frames:A.frames=some outer
 mod:Mod K mg base
 bs:∀ b o,base.get? b=some o->s.heap.get? b=some o/\H b=none
 bsz:base.objs.size<=s.heap.objs.size
 funs:s.heap.FunFrames base outer
 frf:∀ b∈frs outer,H b=none
 hok:HOk P w H s.heap
 bare:AllBare s.gens
noncomputable def CE(outer:List Env)(P:Program)(w:World)(H:Hp)(s:Shared)(Q:VK)(u:Value)(s':Shared):Prop :=
 ∃ v H',s'.os=s.os/\AllBare s'.gens/\Un (frs outer) [] H H' s.heap s'.heap/\HOk P w H' s'.heap/\RelV v u/\Q v H'
noncomputable def CR(CX:CXT)(outer:List Env)(P:Program)(w:World)(H:Hp)(s:Shared)(Q:VK)(E:XK)(r:Result)(s':Shared):Prop :=
 match r with
 | .ok (.ret u)=>CE outer P w H s Q u s'
 | .ok _=>False
 | .error e=>CX outer H s E e s'
structure FnOk(P:Program)(w:World)(K:W.Frag)(mg:Str->Option Value)(base:Heap)(CX:CXT)(k:Nat)(f:Addr)(fd:FuncData)(ps:List Str)(sp:Sp):Prop where
 len:∀ vs H Q E,sp vs H Q E->vs.length=ps.length
 run:∀ (A:Around) (outer:List Env) (s:Shared) (H:Hp) (args:Args) (us:List Value) (vs:List V) (Q:VK) (E:XK),Room k A->Env0 P w K mg base A outer s H->BindsTo s fd args (ps.zip us)->Vals vs us->sp vs H Q E ->
  codeAny (model P w) A (.call (.ref f) args) (CR CX outer P w H s Q E) s
section
variable{X:Cx}{s s':Shared}
def Inv.env0(I:Inv X pins Z H s):Env0 X.prog X.w X.K X.mg X.base X.A X.stack s H :=
 ⟨I.ok.frames,I.ok.mod,I.bs,bo I.ok.bsz I.sz,I.stack,I.stkFree,I.hok,I.bare⟩
def Inv.after{Q:VK}(I:Inv X pins Z H s)(h:CE X.stack X.prog X.w H s Q u s'):EP X pins Z Q u s':=by
 obtain⟨v,H',os,bare,un,hok,r,q⟩:=h;obtain⟨hh,g,d,t,os'⟩:=s';obtain rfl:os'=s.os:=os;exact⟨v,H',I.call (h':=hh) (g':=g) (d':=d) (t':=t) (ch:=[]) un hok bare (fun b z=>absurd z (by simp)),r,q⟩
end
variable{sp:L2.Sp}
def ij(sp:Sp)(dvs:List V)(E:XK)(t:TA):TE:=fun Z H Q=>t Z H fun vs H1=>sp (vs++dvs) H1 Q E
def Binds(K:W.Frag)(fd:FuncData)(ps:List Str)(ds:List Value):Prop :=
 ∀ (s:Shared) (us:List Value),K.In s.heap->(us++ds).length=ps.length->BindsTo s fd ⟨us,[]⟩ (ps.zip (us++ds))
def Binds.all{K:W.Frag}{ps:List Str}(h:∀ us:List Value,us.length=ps.length->bindArgs fd ⟨us,[]⟩=pure (ps.zip us)):Binds K fd ps []:=fun s us _ hl=>by
 rw[dR] at hl ⊢;exact .of_eq (h us hl)
def qH(CX:CXT)(X:Cx)(E:XK):Prop:=∀ (pins:List (Addr×Obj)) (Z:St) (H:Hp) (s:Shared) (e:Value) (s':Shared),Inv X pins Z H s->CX X.stack H s E e s'->X.xe e s'
section
variable{X:Cx}{CX:CXT}{k:Nat}{f C:Addr}{ps:List Str}{dvs:List V}{ds:List Value}{E:XK}{m:Str}{p:Pos}{o:Expr}{t:TA}
def run_fn{s:Shared}{Q:VK}{us:List Value}(F:FnOk X.prog X.w X.K X.mg X.base CX k f fd ps sp)(hr:Room k X.A)(hb:Binds X.K fd ps ds)(hd:Vals dvs ds)(hx:qH CX X E)
  (I:Inv X pins Z H s) (r:Vals vs us) (h:sp (vs++dvs) H Q E):wpAny (model X.prog X.w) X.A (call (.ref f) us) (EP X pins Z Q) X.xe s:=by
 have r2:Vals (vs++dvs) (us++ds):=r.append hd;have hl:(us++ds).length=ps.length:=by rw[<-r2.length];exact F.len _ _ _ _ h
 refine wpAny_call (lz (F.run X.A X.stack s H ⟨us,[]⟩ (us++ds) (vs++dvs) Q E hr I.env0 (hb s us I.kIn hl) r2 h) fun r s' hq=>?_);cases r with
 | error e=>exact hx pins Z H s e s' I hq
 | ok fl =>
  cases fl with
  | ret u=>exact I.after hq
  | next=>exact False.elim hq
  | brk=>exact False.elim hq
  | cont=>exact False.elim hq
def ZpJ(F:FnOk X.prog X.w X.K X.mg X.base CX k f fd ps sp)(hr:Room k X.A)(hg:Gl X x)(hm:X.mg x=some (.ref f))(hk:PySem.W.keepIn X.K (.ref f)=true)(hb:Binds X.K fd ps ds)(hd:Vals dvs ds)(hx:qH CX X E)
  (ha:PA X (e::es) t) (hdb:(x == ("__debug__":Str))=false:=by decide) (he:starEach (e::es) X.env=(false,eval e X.env)::starEach es X.env:=by rfl) (hpl:(backTo pos (starEach es X.env)).any (·.1)=false:=by rfl) :
  PE X (.Call (.Name x p) (e::es) [] pos) (ij sp dvs E t):=by
 intro pins s Z H Q I h;refine nM (rQ I hg hm ?_ hdb);refine PySem.W.callWith_K (h₀:=X.base) I.ok.mod.kin hk (thn (ha pos pins s Z H _ I h) fun us s1 ⟨vs,H1,I1,r,q⟩=>⟨I1.kIn,?_⟩) he hpl;exact run_fn F hr hb hd hx I1 r q
end
noncomputable def PK(X:Cx)(kws:List Keyword)(t:TA):Prop :=
 ∀ (pos:Pos) (pins:List (Addr×Obj)) (s:Shared) (Z:St) (H:Hp) (Q:List V->Hp->Prop),Inv X pins Z H s->t Z H Q->wpAny (model X.prog X.w) X.A (evalAll ((backToKw pos (keywordEach kws X.env)).map (·.2))) (AP X pins Z Q) X.xe s
structure FnScope(N P:List Str)(sc:Scope):Prop where
 kind:sc.kind=.function
 co:sc.isCoroutine=false
 gen:sc.isGenerator=false
 nd:N.Nodup
 pre:N.take P.length=P
 par:∀ x∈P,sc.names.lookup x=some .local\/sc.names.lookup x=some .cell
 nofree:∀ y∈sc.names,y.2≠.free
theorem uV{kindOf : Str->Option NameKind}{x : Str} : ∀ {binds : List (Str×Value)} {m : Str->Option Value}, (∀ v, (x, v)∉binds)->bindL kindOf binds m x=m x
  | [], _, _=>rfl
  | (n, v) :: r, m, h => by
    unfold bindL;rw[uV fun w hw=>h w (bD _ hw)];split
    . have : x ≠ n := by rintro rfl; exact h v aQ
      simp[this]
    . rfl
theorem sR{kindOf : Str->Option NameKind}{x : Str} : ∀ {binds : List (Str×Value)} {m : Str->Option Value}, (∀ v, (x, v)∉binds)->bindC kindOf binds m x=m x
  | [], _, _=>rfl
  | (n, v) :: r, m, h => by
    unfold bindC;rw[sR fun w hw=>h w (bD _ hw)];split
    . rfl
    . have : x ≠ n := by rintro rfl; exact h v aQ
      simp[this]
theorem vg{kindOf : Str->Option NameKind}{x : Str}{v : Value} : ∀ {P : List Str} {vs : List Value} {i : Nat} {m : Str->Option Value}, P.Nodup->P[i]?=some x->vs[i]?=some v->kindOf x=some .local ->
    bindL kindOf (P.zip vs) m x=some v
  | [], _, _, _, _, h, _, _=>by simp at h
  | _::_, [], _, _, _, _, h, _=>by simp at h
  | p :: P, w :: vs, 0, m, nd, h1, h2, hk => by
    simp at h1 h2;subst h1;subst h2;show bindL kindOf ((p,w)::P.zip vs) m p=_;unfold bindL;rw[uV fun v hv=>(eh.mp nd).1 (of_mem_zip hv).1,am hk];simp
  | p :: P, w :: vs, i + 1, m, nd, h1, h2, hk => by
    show bindL kindOf ((p,w)::P.zip vs) m x=_;unfold bindL;exact vg (i:=i) (eh.mp nd).2 (by simpa using h1) (by simpa using h2) hk
theorem tD{kindOf : Str->Option NameKind}{x : Str}{v : Value} : ∀ {P : List Str} {vs : List Value} {i : Nat} {m : Str->Option Value}, P.Nodup->P[i]?=some x->vs[i]?=some v->kindOf x≠some .local ->
    bindC kindOf (P.zip vs) m x=some v
  | [], _, _, _, _, h, _, _=>by simp at h
  | _::_, [], _, _, _, _, h, _=>by simp at h
  | p :: P, w :: vs, 0, m, nd, h1, h2, hk => by
    simp at h1 h2;subst h1;subst h2;show bindC kindOf ((p,w)::P.zip vs) m p=_;unfold bindC;rw[sR fun v hv=>(eh.mp nd).1 (of_mem_zip hv).1,ao hk];simp
  | p :: P, w :: vs, i + 1, m, nd, h1, h2, hk => by
    show bindC kindOf ((p,w)::P.zip vs) m x=_;unfold bindC;exact tD (i:=i) (eh.mp nd).2 (by simpa using h1) (by simpa using h2) hk
def start(N:List Str)(vs:List V):St:=vs.map some++List.replicate (N.length-vs.length) none
noncomputable def cxOf(CX:CXT)(P:Program)(w:World)(K:W.Frag)(mg:Str->Option Value)(base:Heap)(N:List Str)(qual:Str)(scope:Scope)(f:Addr)(cd:Value)(A:Around)(outer:List Env)(s:Shared)(H:Hp)(E:XK):Cx where
 prog:=P
 w:=w
 K:=K
 mg:=mg
 base:=base
 A:=A.deeper (envOfC qual scope s.heap.objs.size f cd)
 N:=N
 s₀:=s
 H₀:=H
 env:=envOfC qual scope s.heap.objs.size f cd
 outer:=outer
 stack:=envOfC qual scope s.heap.objs.size f cd::outer
 ex:=[]
 calm:=true
 fn:=fun _=>true
 pn:=[]
 xe:=fun e s'=>wpAny (model P w) (A.deeper (envOfC qual scope s.heap.objs.size f cd)) (leaving (envOfC qual scope s.heap.objs.size f cd) e) (fun _ s''=>CX outer H s E e s'') (fun e' s''=>CX outer H s E e' s'') s'
def sQ(h:sc.names.lookup x=some .cell):∃ c,(cellsFrom n sc.names []).lookup x=some c:=by
 have q:=PySem.W.cellsFrom_some sc.names n [] (.inl h);exact lA.mp q
def ZlZ{CX:CXT}{P:Program}{w:World}{K:W.Frag}{mg:Str->Option Value}{base:Heap}{N ps:List Str}{scope:Scope}{f:Addr}{cd:Value}{s s1:Shared}{E:XK}{us:List Value}
  (S:FnScope N ps scope) (hd:A.handled=none) (e0:Env0 P w K mg base A outer s H) (hl:vs.length=ps.length) (r:Vals vs us)
  (x:InCallC s s.heap.objs.size (bindL (envOfC qual scope s.heap.objs.size f cd).kindOf (ps.zip us) fun _=>none) (cellsFrom (s.heap.objs.size+1) scope.names []) (bindC (envOfC qual scope s.heap.objs.size f cd).kindOf (ps.zip us) fun _=>none) s1) :
  Inv (cxOf CX P w K mg base N qual scope f cd A outer s H E) [] (start N vs) H s1:=by
 have hpl:ps.length<=N.length:=by have:=congrArg List.length S.pre;rw[fJ] at this;lia
 obtain⟨h1,tk,rfl,hk⟩:=x.done;have noA:∀ b:Addr,b∉(cxOf CX P w K mg base N qual scope f cd A outer s H E).ex:=fun b z=>absurd (show b∈([]:List Addr) from z) (by simp);refine⟨⟨e0.mod,S.kind,rfl,rfl,aE _,fun y z c h1 h2=>?_,fun y hy=>?_,fun y c _ h=>?_,fun _=>hd,Around.frames_deeper e0.frames,.inr ⟨rfl,rfl⟩,fun b z=>absurd z (noA b),e0.bs,e0.bsz,fun b _ _=>noA b,fun b z=>absurd z (noA b),e0.funs,e0.frf⟩,
  rfl,e0.bare,Un.kept hk,⟨_,x.toInCall.ns,fun i y v h1 h2 h3=>?_⟩,fun y c h=>⟨_,x.cell y c h⟩,e0.hok.fresh (aE _),fun y c h=>?_,fun p hp=>absurd (show p∈([]:List (Addr×Obj)) from hp) (by simp),e0.hok.kept hk,?_⟩
 .exact name_of_addr x.apart (PySem.mem_of_lookup h1) (PySem.mem_of_lookup h2)
 .have hy:scope.names.lookup y=some .cell\/scope.names.lookup y=some .free:=hy;rcases hy with hy|hy
  .exact sQ hy
  .exact absurd rfl (S.nofree _ (PySem.mem_of_lookup hy))
 .exact gH (x.above y c (PySem.mem_of_lookup h))
 .have hi:i < vs.length:=by
   unfold start at h2;by_cases hi:i<vs.length
   .exact hi
   .rw[fK (by simpa using hi)] at h2;rw[jX] at h2;split at h2 <;> cases h2
  have ha:vs[i]?=some v:=by
   unfold start at h2;rw[cg (by simpa using hi),ak] at h2;cases e:vs[i]? with
   | none=>rw[e] at h2;cases h2
   | some a=>rw[e] at h2;cases h2;rfl
  obtain⟨u,hu,rv⟩:=r.get ha;have hp:ps[i]?=some y:=by
   rw[<-S.pre,getElem?_take_of_lt (by lia)];exact h1
  have ndP:ps.Nodup:=by rw[<-S.pre];exact S.nd.sublist (take_sublist _ _)
  refine⟨u,rv,?_⟩;rcases S.par y (aF hp) with k|k
  .exact .inl ⟨k,vg ndP hp hu k⟩
  .obtain ⟨c,e⟩:=sQ (n:=s.heap.objs.size+1) k;refine .inr ⟨.inl k,c,e,?_⟩;have q:=x.cell y c e;rw[tD ndP hp hu (by show scope.names.lookup y≠_;rw[k];decide)] at q;exact q
 .exact e0.hok.fresh (gH (x.above y c (PySem.mem_of_lookup h)))
 .unfold start;show _=N.length;rw[aJ,af,iC];lia
def fn_of{CX:CXT}{P:Program}{w:World}{K:W.Frag}{mg:Str->Option Value}{base:Heap}{k:Nat}{f:Addr}{name:Str}{params:Arguments}{body:List Stmt}{scope:Scope}{dV kV doc pm cdv ct oc:Value}{an od:Option Addr}
  {osl:Array (Option Value)} {N ps:List Str} {sp:Sp} (lk:K.lookup f=some ⟨oc,od,.func (PySem.W.fnOf name qual params body scope dV kV doc pm an cdv ct),osl⟩) (hcd:PySem.W.codeIn K cdv qual=true) (S:FnScope N ps scope)
  (len:∀ vs H Q E,sp vs H Q E->vs.length=ps.length)
  (hbody:∀ (A:Around) (outer:List Env) (s:Shared) (H:Hp) (vs:List V) (Q:VK) (E:XK),Room k (A.deeper (envOfC qual scope s.heap.objs.size f cdv))->sp vs H Q E ->
   ∃ t,PSs (cxOf CX P w K mg base N qual scope f cdv A outer s H E) body t/\t { nx:=fun _ H'=>Q .non H',rt:=Q } (start N vs) H) :
  FnOk P w K mg base CX (k+1) f (PySem.W.fnOf name qual params body scope dV kV doc pm an cdv ct) ps sp:=by
 refine⟨len,fun A outer s H args us vs Q E hr e0 hb r hsp=>?_⟩;have hl:=len _ _ _ _ hsp;have KX:K.In s.heap:=e0.mod.kin.keeps fun b o e=>(e0.bs b o e).1;have lim:s.heap.NoLimit:=e0.mod.nolimit.keeps fun b o e=>(e0.bs b o e).1;have hkind:∀ y∈ps.zip us,scope.names.lookup y.1=some .local\/(scope.names.lookup y.1=some .cell/\((cellsFrom (s.heap.objs.size+1) scope.names []).lookup y.1).isSome=true):=fun⟨n,v⟩ hy=>by
  rcases S.par n (of_mem_zip hy).1 with q|q
  .exact .inl q
  .exact .inr ⟨q,PySem.W.cellsFrom_some _ _ _ (.inl q)⟩
 refine codeAny_call_function hr.depth (KX _ _ lk) rfl S.co S.gen rfl (PySem.W.codeRec_of KX hcd) (hb _ _ _ _ ?_);refine wpAny_newFunctionEnv_cells S.kind hkind fun env he s1 x=>?_;subst he;refine⟨lim.keeps x.toInCall.keep,codeAny_func ?_⟩;obtain⟨t,ht,hq⟩:=hbody A outer s H vs Q E (hr.deeper _) hsp;have I:Inv (cxOf CX P w K mg base N qual scope f cdv A outer s H E) [] (start N vs) H s1:=ZlZ S hr.hd e0 hl r x;refine dG (ht [] s1 (start N vs) H _ I hq) (fun fl s' hs=>?_) fun e s' hs=>hs;have fin:∀ {σ':St} {H':Hp} {v:V} {u:Value},Inv (cxOf CX P w K mg base N qual scope f cdv A outer s H E) [] σ' H' s'->RelV v u->Q v H'->CE outer P w H s Q u s' :=
  fun {σ' H' v u} J rv q=>⟨v,H',J.os,J.bare,J.base,J.hok,rv,q⟩
 cases fl with
 | ret u =>
  obtain⟨v,σ',H',J,rv,q⟩:=hs;exact fin J rv q
 | next =>
  obtain⟨σ',H',J,q⟩:=hs;exact fin (v:=V.non) (u:=Value.none) J rfl q
 | brk =>
  obtain⟨_,_,_,q⟩:=hs;exact False.elim q
 | cont =>
  obtain⟨_,_,_,q⟩:=hs;exact False.elim q
end L2
namespace L2
variable{ys vs:List L2.V}{H H' H1 H2:L2.Hp}{Z:L2.St}{ta te tc to tl td ty tv:L2.TE}{y:L2.V}{g:L2.TG}{wi:L2.TI}{sp:L2.Sp}{kvs:List (List L2.Key×L2.V)}{ks:List L2.Key}{tr:L2.TA}
open PySem PySem.Spec PyProof.Rows
section
variable{X:Cx}{p:Pos}{t:TA}{id T:String}{r:List V->Hp->VK->Prop}
def tCB(r:List V->Hp->VK->Prop)(t:TA):TE:=fun Z H Q=>t Z H fun vs H1=>r vs H1 Q
def aG(hc:cm X (.builtin id) r)(hg:Gl X x)(hm:X.mg x=none)(hv:bootBuiltins x=some (.builtin id))(ha:PA X (e::es) t)(hn:x≠"__name__":=by decide)(hdb:(x == ("__debug__":Str))=false:=by decide)
  (he:starEach (e::es) X.env=(false,eval e X.env)::starEach es X.env:=by rfl) (hpl:(backTo pos (starEach es X.env)).any (·.1)=false:=by rfl):PE X (.Call (.Name x p) (e::es) [] pos) (tCB r t):=by
 intro pins s Z H Q I h;refine nM (jd I hg hm hv ?_ hn hdb);exact xP (thn (ha pos pins s Z H _ I h) fun us s1 ⟨vs,H1,I1,r1,q1⟩=>hc pins s1 Z H1 vs us Q I1 r1 q1) he hpl
def du(hc:cm X (.type T) r)(hg:Gl X x)(hm:X.mg x=none)(hv:bootBuiltins x=some (.type T))(ha:PA X (e::es) t)(hn:x≠"__name__":=by decide)(hdb:(x == ("__debug__":Str))=false:=by decide)
  (he:starEach (e::es) X.env=(false,eval e X.env)::starEach es X.env:=by rfl) (hpl:(backTo pos (starEach es X.env)).any (·.1)=false:=by rfl):PE X (.Call (.Name x p) (e::es) [] pos) (tCB r t):=by
 intro pins s Z H Q I h;refine nM (jd I hg hm hv ?_ hn hdb);exact nK (thn (ha pos pins s Z H _ I h) fun us s1 ⟨vs,H1,I1,r1,q1⟩=>hc pins s1 Z H1 vs us Q I1 r1 q1) he hpl
end
end L2
namespace HT
open PySem PyProof.Rows
section
variable{w:World}{s:Shared}
def cat_tup{t b:Addr}{vs ws:List Value}{Q:Value->Shared->Prop}(ht:IsTup s.heap t vs.toArray)(hb:IsTup s.heap b ws.toArray)(hv:vs≠[])
  (h1:ws=[]->Q (.ref t) s) (h2:ws≠[]->Q (.ref s.heap.objs.size) { s with heap:=s.heap.push { cls:=.type "tuple",data:=.seq (vs++ws).toArray } })
  (hsz:vs.length+ws.length<=sizeLine):wpAny (model prog w) A (binaryOp .Add (.ref t) (.ref b)) Q E s:=by
 obtain⟨⟨cls,dd,data,sl⟩,ho,hc,n,hd⟩:=id ht;obtain⟨⟨cls2,dd2,data2,sl2⟩,ho2,hc2,n2,hd2⟩:=id hb;simp only at hc hd hc2 hd2;subst hc hd hc2 hd2;have e:vs.toArray++ws.toArray=(vs++ws).toArray:=by simp
 by_cases hw:ws=[]
 .exact concat_meets ⟨_,ho,rfl⟩ ⟨_,ho2,rfl⟩ qZ seq_tuple_add PySem.F.slot_tuple_add PySem.F.entry_tuple_add (PySem.F.args_tuple_add_2 _ _)
   (tuple_addW1 t b vs.toArray ws.toArray n n2 dd dd2 sl sl2 (by simpa using hv) (by simp[hw])) ⟨ho,ho2,h1 hw⟩
 .refine concat_meets ⟨_,ho,rfl⟩ ⟨_,ho2,rfl⟩ qZ seq_tuple_add PySem.F.slot_tuple_add PySem.F.entry_tuple_add (PySem.F.args_tuple_add_2 _ _)
   (tuple_addW2 t b vs.toArray ws.toArray n n2 dd dd2 sl sl2 (by simpa using hv) (by simpa using hw) (by rw[bT,bT];exact hsz)) ⟨ho,ho2,?_⟩
  rw[e];exact h2 hw
def sIx(n d:Nat):Option Int->Nat
 | none=>d
 | some v=>if v<0 then (v+(n:Int)).toNat else min v.toNat n
def sIx_le(n d:Nat)(hd:d<=n)(o:Option Int):sIx n d o<=n:=by
 cases o with
 | none=>exact hd
 | some v =>
  show (if v<0 then (v+(n:Int)).toNat else min v.toNat n)<=n;by_cases hv:v<0
  .rw[am hv];lia
  .rw[ao hv];exact jY _ _
def clip_eq(v:Int)(n d:Nat):(if v<0 then max (v+(n:Int)) 0 else min v (n:Int))=((sIx n d (some v):Nat):Int):=by
 show (if v<0 then max (v+(n:Int)) 0 else min v (n:Int))=(((if v<0 then (v+(n:Int)).toNat else min v.toNat n):Nat):Int);by_cases hv:v<0
 .rw[am hv,am hv,Int.toNat_eq_max]
 .obtain ⟨m,rfl⟩:=q9 (Int.not_lt.mp hv);rw[ao hv,ao hv];show min (m:Int) n=((min m n:Nat):Int);lia
def Zkl(lo hi:Option Int)(n:Nat):Builtin.Slice.sliceAdjust lo hi 1 (n:Int)=(((sIx n 0 lo:Nat):Int),((sIx n n hi:Nat):Int)):=by
 have h1:¬ ((1:Int)<0):=by lia
 unfold Builtin.Slice.sliceAdjust;simp only[h1,cI];refine Prod.ext ?_ ?_
 .cases lo with
  | none=>rfl
  | some v=>exact clip_eq v n 0
 .cases hi with
  | none=>rfl
  | some v=>exact clip_eq v n n
def ZjX(i j:Nat):Builtin.Slice.slicePlaces (i:Int) (j:Int) 1=j-i:=by
 unfold Builtin.Slice.slicePlaces;have h1:(1:Int)>0:=by lia
 simp only[h1,fZ,Int.ediv_one];split <;> lia
def uz{o:Option Int}{Q:Option Int->Shared->Prop}(p:IsPart v o)(h:Q o s):wpAny (model prog w) A (Builtin.Slice.slicePartIndex v) Q E s:=by
 cases p with
 | none=>exact slicePart_none h
 | int i t=>exact slicePart_int h
def xk{sl:Addr}{vl vu:Value}{lo:Option Int}{Q:Int×Int×Nat->Shared->Prop}(hs:s.heap.IsSliceOf sl vl vu .none)(pl:IsPart vl lo)(pu:IsPart vu hi)
  (h:Q (((sIx n 0 lo:Nat):Int),1,sIx n n hi-sIx n 0 lo) s):wpAny (model prog w) A (Builtin.Slice.sliceApplied (.ref sl) (pure (n:Int))) Q E s:=by
 obtain⟨os,hos,hcs,hds⟩:=id hs;unfold Builtin.Slice.sliceApplied Builtin.Slice.sliceFields;refine ae (ae (cY hos hds (x:=vl) rfl (ae (cY hos hds (x:=vu) rfl (ae (cY hos hds (x:=.none) rfl (aq ?_)))))));refine ae (slicePart_none ?_);show wpAny _ _ (if ((1:Int) == 0)=true then _ else _) _ _ s;rw[ao (by decide)];refine ae (uz pl (ae (uz pu (ae (aq ?_)))));show wpAny _ _ (match Builtin.Slice.sliceAdjust lo hi 1 (n:Int) with|(lo,hi)=>pure (lo,(1:Int),Builtin.Slice.slicePlaces lo hi 1)) _ _ s;rw[Zkl lo hi n];show wpAny _ _ (pure (((sIx n 0 lo:Nat):Int),(1:Int),Builtin.Slice.slicePlaces ((sIx n 0 lo:Nat):Int) ((sIx n n hi:Nat):Int) 1)) _ _ s;rw[ZjX];exact aq h
def Znn(xs:Array Value)(i k:Nat):((List.range k).filterMap fun(m:Nat)=>xs[((i:Int)+(m:Int)*1).toNat]?).toArray=((xs.toList.drop i).take k).toArray:=by
 have e:(fun(m:Nat)=>xs[((i:Int)+(m:Int)*1).toNat]?)=fun m=>xs[i+m]?:=by
  funext m
  have:((i:Int)+(m:Int)*1).toNat=i+m:=by lia
  rw[this]
 rw[e];have:=pick_run xs i k;rw[filterMap_map] at this;have e2:((fun x=>xs[x]?) ∘ fun x=>i+x)=fun m=>xs[i+m]?:=rfl;rw[e2] at this;rw[this]
def getItem_tuple_cut{t sl:Addr}{vl vu:Value}{lo:Option Int}{Q:Value->Shared->Prop}(ht:IsTup s.heap t items)(hs:s.heap.IsSliceOf sl vl vu .none)(pl:IsPart vl lo)(pu:IsPart vu hi)
  (hw:¬ (sIx items.size 0 lo=0/\sIx items.size items.size hi=items.size))
  (h:Q (.ref s.heap.objs.size) { s with heap:=s.heap.push { cls:=.type "tuple",data:=.seq ((items.toList.drop (sIx items.size 0 lo)).take (sIx items.size items.size hi-sIx items.size 0 lo)).toArray } })
  (hsz:items.size<=sizeLine):wpAny (model prog w) A (getItem (.ref t) (.ref sl)) Q E s:=by
 have htake:sizeOk (.seq ((items.toList.drop (sIx items.size 0 lo)).take (sIx items.size items.size hi-sIx items.size 0 lo)).toArray):=by
  show ((items.toList.drop (sIx items.size 0 lo)).take (sIx items.size items.size hi-sIx items.size 0 lo)).toArray.size<=sizeLine;rw[bT,fJ,jj,fI];exact bo (jY _ _) (bo (jZ _ _) hsz)
 have hj:sIx items.size items.size hi<=items.size:=sIx_le _ _ (aE _) hi;obtain⟨os,hos,hcs,hds⟩:=id hs;have hTs:s.TypeIs (.ref sl) "slice":=⟨os,hos,hcs⟩;unfold getItem
 try with_reducible refine eV ?_
 first|refine ae (aq ?_)|skip
 refine ae (wpAny_sequenceKey ht.typeIs (by decide) ?_);refine ae (iD (name:=Str.ofString "__getitem__") ht.typeIs j0
  (eJ j0 ht.typeIs entry_tuple_getitem ?_ (args_tuple_getitem _ _)))
 show wpAny _ _ (Builtin.Tuple.tupleItemsOf (.ref t) >>= _) _ _ s;refine ae (tupleItemsOf_ ht ?_);refine ae (lB hTs ?_);rw[am (by decide)];refine ae (xk hs pl pu ?_);have hno:¬ ((((sIx items.size 0 lo:Nat):Int) == 0&&(1:Int) == 1&&(sIx items.size items.size hi-sIx items.size 0 lo) == items.size)=true):=by
  intro q;rw[iE,iE] at q;have q1:((sIx items.size 0 lo:Nat):Int)=0:=eq_of_beq q.1.1;have q2:sIx items.size items.size hi-sIx items.size 0 lo=items.size:=eq_of_beq q.2;exact hw ⟨Int.ofNat.inj q1,Nat.le_antisymm hj (bo (iF q2.symm) (jZ _ _))⟩
 show wpAny _ _ (if (((sIx items.size 0 lo:Nat):Int) == 0&&(1:Int) == 1&&(sIx items.size items.size hi-sIx items.size 0 lo) == items.size)=true then _ else _) _ _ s;rw[ao hno,Znn]
 first
  | exact ae (m:=Builtin.Tuple.tupleExact _) (eK (aq ⟨_,rfl,aq h⟩) htake)
  | exact ae (m:=Builtin.Tuple.tupleExact _) (eK (ae (aq (aq ⟨_,rfl,aq h⟩))) htake)
  | exact ae (ae (m:=Builtin.Tuple.tupleExact _) (eK (aq (aq ⟨_,rfl,aq h⟩)) htake))
  | exact ae (ae (m:=Builtin.Tuple.tupleExact _) (eK (aq ⟨_,rfl,aq h⟩) htake))
end
end HT
namespace L2
variable{ys vs:List L2.V}{H H' H1 H2:L2.Hp}{Z:L2.St}{ta te tc to tl td ty tv:L2.TE}{y:L2.V}{g:L2.TG}{wi:L2.TI}{sp:L2.Sp}{kvs:List (List L2.Key×L2.V)}{ks:List L2.Key}{tr:L2.TA}
open PySem PySem.Spec PyProof.Rows
abbrev TO:=St->Hp->(Option Int->Hp->Prop)->Prop
noncomputable def PO(X:Cx)(e:Option Expr)(t:TO):Prop :=
 ∀ (pins:List (Addr×Obj)) (s:Shared) (Z:St) (H:Hp) (Q:Option Int->Hp->Prop),Inv X pins Z H s->t Z H Q ->
  wpAny (model X.prog X.w) X.A (evalPart e X.env) (fun u s'=>∃ o H',Inv X pins Z H' s'/\IsPart u o/\Q o H') X.xe s
def qD:TO:=fun _ H Q=>Q none H
def qE(t:TE):TO:=fun Z H Q=>t Z H fun x H1=>∃ i,x=.int i/\Q (some i) H1
def intsAre_of:∀ {us:List Value},Vals (ns.map V.int) us->IntsAre us ns:=by
 induction ns with
 | nil=>intro us r;rw[gc] at r;cases r;exact .nil
 | cons n ns ih =>
  intro us r;rw[aP] at r;cases r with
  | cons r1 r2 =>
   obtain⟨t,e⟩:=r1;subst e;exact .cons n t (ih r2)
section
variable{X:Cx}{lo hi:Option Expr}{tl th:TO}{p2:Pos}
def cL:PO X none qD:=by
 intro pins s Z H Q I h;rw[evalPart_none];exact aq ⟨none,H,I,.none,h⟩
def cK(h:PE X e te):PO X (some e) (qE te):=by
 intro pins s Z H Q I hw;rw[evalPart_some];refine thn (h pins s Z H _ I hw) fun u s1 ⟨x,H1,I1,r1,q1⟩=>?_;obtain⟨i,rfl,q⟩:=q1;obtain⟨t,rfl⟩:=r1;exact⟨some i,H1,I1,.int i t,q⟩
noncomputable def SlR(X:Cx)(r:V->Option Int->Option Int->Hp->VK->Prop):Prop :=
 ∀ (pins:List (Addr×Obj)) (s:Shared) (Z:St) (H:Hp) (x:V) (v vl vu:Value) (lo hi:Option Int) (sl:Addr) (Q:VK),Inv X pins Z H s->RelV x v->s.heap.IsSliceOf sl vl vu .none->IsPart vl lo->IsPart vu hi->r x lo hi H Q ->
  ∃ T id,typeLookup (.type T) "__getitem__"=pure (some (.builtin id))/\s.TypeIs v T/\wpAny (model X.prog X.w) X.A (getItem v (.ref sl)) (EP X pins Z Q) X.xe s
def tSl(r:V->Option Int->Option Int->Hp->VK->Prop)(te:TE)(tl th:TO):TE:=fun Z H Q=>te Z H fun x H1=>tl Z H1 fun l H2=>th Z H2 fun u H3=>r x l u H3 Q
def cO{r:V->Option Int->Option Int->Hp->VK->Prop}(hr:SlR X r)(he:PE X e te)(hl:PO X lo tl)(hu:PO X hi th):PE X (.Subscript e (.Slice lo hi none p2) pos) (tSl r te tl th):=by
 intro pins s Z H Q I h;refine Subscript_ (thn (he pins s Z H _ I h) fun v s1 z0_=>?_);obtain⟨x,H1,I1,r1,q1⟩:=z0_;refine wpAny_Slice (thn (hl pins s1 Z H1 _ I1 q1) fun vl s2 ⟨l,H2,I2,pl,q2⟩=>thn (hu pins s2 Z H2 _ I2 q2) fun vu s3 z1_=>?_);obtain⟨u,H3,I3,pu,q3⟩:=z1_;rw[evalPart_none];refine aq ?_;have I4:Inv X pins Z H3 { s3 with heap:=s3.heap.push { cls:=.type "slice",data:=.fields #[vl,vu,.none] } }:=I3.kept (t':=s3.toks) fun b ob q=>br _ q;obtain⟨T,id,hT,ht,hg⟩:=hr pins { s3 with heap:=s3.heap.push { cls:=.type "slice",data:=.fields #[vl,vu,.none] } } Z H3 x v vl vu l u s3.heap.objs.size Q I4 r1 (Heap.IsSliceOf.new ..) pl pu q3;show wpAny (model X.prog X.w) X.A (subscriptTail e (.Slice lo hi none p2) v (.ref s3.heap.objs.size)) (EP X pins Z Q) X.xe { s3 with heap:=s3.heap.push { cls:=.type "slice",data:=.fields #[vl,vu,.none] } };exact tail_any (ops:=[.ref s3.heap.objs.size,v]) ht hT hg (by with_unfolding_all rfl)
def cutV(xs:List V)(lo hi:Option Int):List V:=(xs.drop (HT.sIx xs.length 0 lo)).take (HT.sIx xs.length xs.length hi-HT.sIx xs.length 0 lo)
def rR(xs:List V)(lo hi:Option Int):(cutV xs lo hi).length<=xs.length:=by
 unfold cutV;rw[fJ,jj];exact bo (jY _ _) (jZ _ _)
noncomputable def rSlT(K:W.Frag):V->Option Int->Option Int->Hp->VK->Prop:=fun x lo hi H Q=>∃ a xs,x=.ref a/\SqT K H a xs /\
 ¬ (HT.sIx xs.length 0 lo=0/\HT.sIx xs.length xs.length hi=xs.length)/\∀ p,H p=none->Q (.ref p) (upd H p (.tup (cutV xs lo hi)))
def sl_tup:SlR X (rSlT X.K):=by
 intro pins s Z H x v vl vu lo hi sl Q I rx hs pl pu h;obtain⟨a,xs,rfl,hx,hw,q⟩:=h;cases rx;obtain⟨its,r,ht,hz⟩:=I.tuple hx;have hlen:its.toArray.size=xs.length:=by rw[bT];exact r.length.symm
 refine⟨"tuple",_,j0.lookup,ht.typeIs,?_⟩;refine HT.getItem_tuple_cut ht hs pl pu (by rw[hlen];exact hw) ?_ (by rw[hlen];exact hz);rw[hlen];refine⟨.ref s.heap.objs.size,_,I.laid (t':=s.toks) (o:=.tup (cutV xs lo hi)) (fun b ob q=>br _ q) (aE _) ?_,rfl,q _ (I.hok.fresh (aE _))⟩;exact⟨bo (rR xs lo hi) hz,_,(r.drop (HT.sIx xs.length 0 lo)).take (HT.sIx xs.length xs.length hi-HT.sIx xs.length 0 lo),IsTup.new _ _⟩
def rCatT(K:W.Frag):R2:=fun x y H Q=>∃ a b xs ys,x=.ref a/\y=.ref b/\SqT K H a xs/\SqT K H b ys/\xs≠[]/\xs.length+ys.length<=sizeLine /\
 (ys=[]->Q (.ref a) H)/\(ys≠[]->∀ p,H p=none->Q (.ref p) (upd H p (.tup (xs++ys))))
def Vals.nil_iff{xs:List V}{us:List Value}(r:Vals xs us):us=[]↔xs=[]:=by
 cases r with
 | nil=>simp
 | cons _ _=>simp
def ZpO:OpR X (binaryOp .Add) (rCatT X.K):=by
 intro pins s Z H x y v u Q I rx ry h;obtain⟨a,b,xs,ys,rfl,rfl,ha,hb,hx,hz,q1,q2⟩:=h;cases rx;cases ry;obtain⟨its,r1,p1,_⟩:=I.tuple ha;obtain⟨its2,r2,p2,_⟩:=I.tuple hb;refine HT.cat_tup p1 p2 (fun z=>hx (r1.nil_iff.mp z)) (fun z=>⟨.ref a,H,I,rfl,q1 (r2.nil_iff.mp z)⟩) (fun z=>?_) (by rw[<-r1.length,<- r2.length];exact hz);refine⟨.ref s.heap.objs.size,_,I.laid (t':=s.toks) (o:=.tup (xs++ys)) (fun b ob q=>br _ q) (aE _) ?_,rfl,q2 (fun w=>z (r2.nil_iff.mpr w)) _ (I.hok.fresh (aE _))⟩;exact⟨by rw[aJ];exact hz,_,r1.append r2,IsTup.new _ _⟩
end
end L2
namespace L2
variable{ys vs:List L2.V}{H H' H1 H2:L2.Hp}{Z:L2.St}{ta te tc to tl td ty tv:L2.TE}{y:L2.V}{g:L2.TG}{wi:L2.TI}{sp:L2.Sp}{kvs:List (List L2.Key×L2.V)}{ks:List L2.Key}{tr:L2.TA}
open PySem PySem.Spec PyProof.Rows
def ixN(n:Nat)(i:Int):Option Nat:=if 0<=i then (if i<n then some i.toNat else none) else if -(n:Int)<=i then some (i+n).toNat else none
def atI{α:Type}(xs:List α)(i:Int):Option α:=(ixN xs.length i).bind fun j=>xs[j]?
def xM{j:Nat}(h:ixN n i=some j):seqIndex? i n=some j/\j<n/\-(n:Int)<=i/\i<n:=by
 unfold ixN at h;by_cases h0:0<=i
 .rw[am h0] at h;by_cases h1:i < n
  .rw[am h1] at h;have e:i.toNat=j:=Option.some.inj h;exact⟨by rw[seqIndex_of h0 h1,e],by lia,by lia,h1⟩
  .rw[ao h1] at h;cases h
 .rw[ao h0] at h;by_cases h1:-(n:Int)<=i
  .rw[am h1] at h;have e:(i+n).toNat=j:=Option.some.inj h;exact⟨by rw[seqIndex_neg (by lia) h1,e],by lia,h1,by lia⟩
  .rw[ao h1] at h;cases h
def sE{α:Type}{xs:List α}{v:α}(h:atI xs i=some v):∃ j,seqIndex? i xs.length=some j/\xs[j]?=some v/\j<xs.length/\-(xs.length:Int)<=i/\i<xs.length:=by
 unfold atI at h;cases e:ixN xs.length i with
 | none=>rw[e] at h;cases h
 | some j =>
  rw[e] at h;obtain⟨h1,h2,h3,h4⟩:=xM e;exact⟨j,h1,h,h2,h3,h4⟩
def wo(b:Expr):Prop:=∀ o i,subscripted b false o i=operate [o,i] (getItem o i)
noncomputable def IxR(X:Cx)(r:R2):Prop :=
 ∀ (value slice:Expr) (pins:List (Addr×Obj)) (s:Shared) (Z:St) (H:Hp) (x y:V) (v u:Value) (Q:VK),Inv X pins Z H s->RelV x v->RelV y u->r x y H Q ->
  subscripted slice false v u=operate [v,u] (getItem v u)->wpAny (model X.prog X.w) X.A (subscriptTail value slice v u) (EP X pins Z Q) X.xe s
noncomputable def MtR(X:Cx)(id:String)(r:V->List V->Hp->VK->Prop):Prop :=
 ∀ (pins:List (Addr×Obj)) (s:Shared) (Z:St) (H:Hp) (x:V) (xs:List V) (v:Value) (us:List Value) (Q:VK),Inv X pins Z H s->RelV x v->Vals xs us->r x xs H Q ->
  wpAny (model X.prog X.w) X.A (call (.builtin id) (v::us)) (EP X pins Z Q) X.xe s
section
variable{X:Cx}{a b:Expr}{tb:TE}
def IxR.or{r r':R2}(h:IxR X r)(h':IxR X r'):IxR X (fun x y H Q=>r x y H Q\/r' x y H Q):=by
 intro value slice pins s Z H x y v u Q I rx ry q hs;rcases q with q|q
 .exact h value slice pins s Z H x y v u Q I rx ry q hs
 .exact h' value slice pins s Z H x y v u Q I rx ry q hs
def iy{r:R2}(hr:IxR X r)(ha:PE X a ta)(hb:PE X b tb)(hs:wo b):PE X (.Subscript a b pos) (tOp r ta tb):=by
 intro pins s Z H Q I h;exact Subscript_ (binT ha hb I h fun v u s2 x y H2 I2 rx ry q=>hr a b pins s2 Z H2 x y v u Q I2 rx ry q (hs _ _))
def rIxL(K:W.Frag):R2:=fun x y H Q=>∃ p xs i v,x=.ref p/\y=.int i/\SqL K H p xs/\atI xs i=some v/\Q v H
def rIxT(K:W.Frag):R2:=fun x y H Q=>∃ p xs i v,x=.ref p/\y=.int i/\SqT K H p xs/\atI xs i=some v/\Q v H
def ix_list:IxR X (rIxL X.K):=by
 intro value slice pins s Z H x y v u Q I rx ry h hs;obtain⟨p,xs,i,z,rfl,rfl,hq,he,q⟩:=h;cases rx;obtain⟨t,rfl⟩:=ry;obtain⟨its,r,pl,hz⟩:=I.list hq;obtain⟨j,h1,h2,h3,h4,h5⟩:=sE he;obtain⟨w,ew,rw'⟩:=r.get h2;have hl:=r.length;have hn:=mK;have fin:EP X pins Z Q w s:=⟨z,H,I,rw',q⟩;by_cases h0:0<=i
 .have hj:i.toNat=j:=by
   rw[seqIndex_of h0 h5] at h1;exact Option.some.inj h1
  exact item_listR pl.isList h0 (by lia) (by rw[hj];simpa using ew) fin hs
 .have hj:(i+(its.toArray.size:Int)).toNat=j:=by
   rw[seqIndex_neg (by lia) h4] at h1;rw[bT,<- hl];exact Option.some.inj h1
  exact subscriptTail_builtinR (x:=w) pl.isList.typeIs slot_list_getitem.lookup
   (wpAny_getItem_list_neg (Q:=fun r s'=>r=w/\EP X pins Z Q r s') pl.isList (by lia) (by rw[bT] <;> lia) (by lia) (by rw[hj];simpa using ew) ⟨rfl,fin⟩) hs
def ix_tup:IxR X (rIxT X.K):=by
 intro value slice pins s Z H x y v u Q I rx ry h hs;obtain⟨p,xs,i,z,rfl,rfl,hq,he,q⟩:=h;cases rx;obtain⟨t,rfl⟩:=ry;obtain⟨its,r,pl,hz⟩:=I.tuple hq;obtain⟨j,h1,h2,h3,h4,h5⟩:=sE he;obtain⟨w,ew,rw'⟩:=r.get h2;have hl:=r.length;have hn:=mK;have fin:EP X pins Z Q w s:=⟨z,H,I,rw',q⟩;exact subscriptTail_builtinR (x:=w) pl.typeIs j0.lookup
  (getItem_tuple (j:=j) (Q:=fun r s'=>r=w/\EP X pins Z Q r s') pl (by lia) (by lia) (by rw[bT,<- hl];exact h1) (by simpa using ew) ⟨rfl,fin⟩) hs
def ZjZ(its:List Value)(n j:Nat)(u:Value):Obj.mapSeq (·.setIfInBounds j u) { cls:=.type "list",data:=.seq its.toArray n }={ cls:=.type "list",data:=.seq (its.set j u).toArray n }:=by
 simp[Obj.mapSeq]
def Inv.lst{pins:List (Addr×Obj)}{Z:St}{H:Hp}{s:Shared}{p:Addr}{xs:List V}(I:Inv X pins Z H s)(h:H p=some (.lst xs)) :
  ∃ (its:List Value) (n:Nat),Vals xs its/\s.heap.get? p=some { cls:=.type "list",data:=.seq its.toArray n }/\xs.length<=sizeLine:=by
 obtain⟨z,its,n,r,e⟩:=I.hok p _ h;exact⟨its,n,r,e,z⟩
def Inv.lstUpd{s:Shared}{xs ys:List V}{its its':List Value}{n n':Nat}{f:Obj->Obj}(I:Inv X pins Z H s)(h:H p=some (.lst xs))
  (ho:s.heap.get? p=some { cls:=.type "list",data:=.seq its.toArray n }) (hf:f { cls:=.type "list",data:=.seq its.toArray n }={ cls:=.type "list",data:=.seq its'.toArray n' }) (r:Vals ys its') (hz:ys.length<=sizeLine) (t:Nat) :
  Inv X pins Z (upd H p (.lst ys)) { s with heap:=s.heap.update p f,toks:=t }:=by
 have e:(s.heap.update p f).get? p=some { cls:=.type "list",data:=.seq its'.toArray n' }:=by
  rw[j4 f ho (by rw[hf] <;> rfl),hf]
 refine I.write (x:=p) (e:=p) (by rw[h];trivial) (.inl rfl) (fun b u hb q=>(lC _ _ (Ne.symm hb)).trans q) ⟨_,e⟩ ?_;exact⟨hz,its',n',r,e⟩
def mH:V->V->V->Hp->(Hp->Prop)->Prop:=fun o i v H Q=>∃ p xs k j,o=.ref p/\i=.int k/\H p=some (.lst xs)/\ixN xs.length k=some j/\Q (upd H p (.lst (xs.set j v)))
def cW:PSet X mH:=by
 intro pins s Z H o i v ov iv u Q I ro ri rv h;obtain⟨p,xs,k,j,rfl,rfl,hp,hj,q⟩:=h;cases ro;obtain⟨t,rfl⟩:=ri;obtain⟨its,n,r,ho,hz⟩:=I.lst hp;obtain⟨h1,h2,h3,h4⟩:=xM hj;have hl:=r.length;have hn:=mK;have I':Inv X pins Z (upd H p (.lst (xs.set j v))) { s with heap:=s.heap.update p (Obj.mapSeq (·.setIfInBounds j u)) } :=
  I.lstUpd hp ho (ZjZ its n j u) (r.set rv j) (by rw[cC];exact hz) s.toks
 by_cases h0:0<=k
 .have hk:k.toNat=j:=by
   rw[seqIndex_of h0 h4] at h1;exact Option.some.inj h1
  exact PySem.W.ki_setAt ho h0 (by lia) (by rw[bT,<- hl];exact h4) (by rw[hk];exact⟨_,I',q⟩)
 .have hk:(k+(its.toArray.size:Int)).toNat=j:=by
   rw[seqIndex_neg (by lia) h3] at h1;rw[bT,<- hl];exact Option.some.inj h1
  exact PySem.W.ki_setBack ho (by lia) (by rw[bT,<- hl];exact h3) (by lia) (by rw[hk];exact⟨_,I',q⟩)
def ZgO(lo hi:Option Int)(n:Nat):(sliceBounds lo hi none n).1=((HT.sIx n 0 lo:Nat):Int)/\(sliceBounds lo hi none n).2.1=((HT.sIx n n hi:Nat):Int)/\(sliceBounds lo hi none n).2.2=1:=by
 have tb:∀ (i:Int) (n d:Nat),(if (1:Int)>0 then max 0 (min (if i<0 then i+n else i) n) else max (-1) (min (if i<0 then i+n else i) ((n:Int)-1)))=((HT.sIx n d (some i):Nat):Int):=by
  intro i n d;rw[am (by decide),<- HT.clip_eq i n d];by_cases h:i<0
  .rw[am h,am h];lia
  .rw[ao h,ao h];lia
 refine⟨?_,?_,rfl⟩
 .cases lo with
  | none=>rfl
  | some i=>exact tb i n 0
 .cases hi with
  | none=>rfl
  | some i=>exact tb i n n
def Zf7(its:List Value)(lo hi:Option Int):slicePick its.toArray lo hi none=((its.drop (HT.sIx its.length 0 lo)).take (HT.sIx its.length its.length hi-HT.sIx its.length 0 lo)).toArray:=by
 obtain⟨h1,h2,h3⟩:=ZgO lo hi its.toArray.size;unfold slicePick;rw[h1,h2,h3];simp only[sliceRange_one,pick_run,bT] <;> rfl
def rSlL(K:W.Frag):V->Option Int->Option Int->Hp->VK->Prop:=fun x lo hi H Q=>∃ a xs,x=.ref a/\SqL K H a xs/\∀ p,H p=none->Q (.ref p) (upd H p (.lst (cutV xs lo hi)))
def Zph:SlR X (rSlL X.K):=by
 intro pins s Z H x v vl vu lo hi sl Q I rx hs pl pu h;obtain⟨a,xs,rfl,hx,q⟩:=h;cases rx;obtain⟨its,r,ht,hz⟩:=I.list hx;have hlen:=r.length;refine⟨"list",_,slot_list_getitem.lookup,ht.isList.typeIs,?_⟩;refine wpAny_getItem_list_slice ht.isList hs pl pu .none (by simp) ?_ (by rw[bT] <;> lia);rw[Zf7,<- hlen];refine⟨.ref s.heap.objs.size,_,I.laid (t':=s.toks) (o:=.lst (cutV xs lo hi)) (fun b ob q=>br _ q) (aE _) ?_,rfl,q _ (I.hok.fresh (aE _))⟩;exact⟨bo (rR xs lo hi) hz,_,0,(r.drop (HT.sIx xs.length 0 lo)).take (HT.sIx xs.length xs.length hi-HT.sIx xs.length 0 lo),ca _ rfl⟩
def gA:V->Bool
 | .non=>true
 | .bl _=>true
 | .int _=>true
 | .str _=>true
 | _=>false
noncomputable def eqV:V->V->Bool
 | .non,.non=>true
 | .bl a,.bl b=>a == b
 | .bl a,.int b=>(if a then 1 else 0) == b
 | .int a,.bl b=>a == (if b then 1 else 0)
 | .int a,.int b=>a == b
 | .str a,.str b=>a == b
 | _,_=>false
def eqAt_V{s:Shared}{x:V}(ry:RelV y u)(rx:RelV x v)(fy:gA y=true)(fx:gA x=true):SeqAt.EqAt A s u v (eqV y x):=by
 cases y with
 | non =>
  cases ry;cases x with
  | non=>cases rx;exact SeqAt.EqAt.same _
  | bl b=>cases rx;exact SeqAt.EqAt.none_bool b
  | int b=>obtain⟨t,rfl⟩:=rx;exact xQ b t
  | str b=>obtain⟨t,rfl⟩:=rx;exact xR b t
  | _=>exact absurd (show false=true from fx) bL
 | bl a =>
  cases ry;cases x with
  | non=>cases rx;exact SeqAt.EqAt.bool_none a
  | bl b=>cases rx;exact SeqAt.EqAt.bool_bool a b
  | int b=>obtain⟨t,rfl⟩:=rx;exact SeqAt.EqAt.bool_int a b t
  | str b=>obtain⟨t,rfl⟩:=rx;exact SeqAt.EqAt.bool_str a b t
  | _=>exact absurd (show false=true from fx) bL
 | int a =>
  obtain⟨t',rfl⟩:=ry;cases x with
  | non=>cases rx;exact xS a t'
  | bl b=>cases rx;exact SeqAt.EqAt.int_bool a t' b
  | int b=>obtain⟨t,rfl⟩:=rx;exact ra a t' b t
  | str b=>obtain⟨t,rfl⟩:=rx;exact qX a t' b t
  | _=>exact absurd (show false=true from fx) bL
 | str a =>
  obtain⟨t',rfl⟩:=ry;cases x with
  | non=>cases rx;exact xT a t'
  | bl b=>cases rx;exact SeqAt.EqAt.str_bool a t' b
  | int b=>obtain⟨t,rfl⟩:=rx;exact qY a t' b t
  | str b=>obtain⟨t,rfl⟩:=rx;exact rb a t' b t
  | _=>exact absurd (show false=true from fx) bL
 | _=>exact absurd (show false=true from fy) bL
def eqU(x:V)(u:Value):Bool:=match u with
 | .none=>eqV .non x
 | .bool b=>eqV (.bl b) x
 | .int i _=>eqV (.int i) x
 | .str z _=>eqV (.str z) x
 | _=>false
def vz{x:V}(r:RelV y u)(f:gA y=true):eqU x u=eqV y x:=by
 cases y with
 | non=>cases r;rfl
 | bl b=>cases r;rfl
 | int i=>obtain⟨t,rfl⟩:=r;rfl
 | str z=>obtain⟨t,rfl⟩:=r;rfl
 | _=>exact absurd (show false=true from f) bL
theorem kM{x : V} : ∀ {xs : List V} {us : List Value}, Vals xs us->xs.all gA=true->us.any (eqU x)=xs.any fun y=>eqV y x
  | _, _, .nil, _=>rfl
  | y :: xs, u :: us, .cons r t, f => by
    rw[all_cons,iE] at f;rw[gW, gW, vz r f.1, kM t f.2]
theorem kK{A : Around}{s : Shared}{x : V}{v : Value}(rx : RelV x v)(fx : gA x=true) : ∀ {xs : List V} {us : List Value}, Vals xs us->xs.all gA=true->∀ u∈us, SeqAt.EqAt A s u v (eqU x u)
  | _, _, .nil, _=>fun u hu=>by cases hu
  | y :: xs, u :: us, .cons r t, f => fun u' hu => by
    rw[all_cons,iE] at f;rcases aI.mp hu with rfl|hu
    . rw[vz r f.1]; exact eqAt_V r rx f.1 fx
    . exact kK rx fx t f.2 u' hu
def inV(x:V)(xs:List V):Bool:=xs.any fun y=>eqV y x
def rIn(K:W.Frag)(neg:Bool):R2:=fun x y H Q=>∃ p xs,y=.ref p/\(SqL K H p xs\/SqT K H p xs)/\gA x=true/\xs.all gA=true/\Q (.bl (if neg then !inV x xs else inV x xs)) H
def ZlA:OpR X (compareOp .In) (rIn X.K false):=by
 intro pins s Z H x y v u Q I rx ry h;obtain⟨p,xs,rfl,hq,fx,fs,q⟩:=h;cases ry;rcases hq with hq|hq
 .obtain ⟨its,r,pl,hz⟩:=I.list hq;refine SeqAt.in_listAt (eqU x) pl.isList (fun w hw=>kK rx fx r fs w (by simpa using hw)) ⟨.bl _,H,I,rfl,?_⟩;rw[show its.toArray.any (eqU x)=its.any (eqU x) by simp,kM r fs];exact q
 .obtain ⟨its,r,pl,hz⟩:=I.tuple hq;refine SeqAt.in_tupleAt (eqU x) pl (fun w hw=>kK rx fx r fs w (by simpa using hw)) ⟨.bl _,H,I,rfl,?_⟩;rw[show its.toArray.any (eqU x)=its.any (eqU x) by simp,kM r fs];exact q
def Zhb:OpR X (compareOp .NotIn) (rIn X.K true):=by
 intro pins s Z H x y v u Q I rx ry h;obtain⟨p,xs,rfl,hq,fx,fs,q⟩:=h;cases ry;rcases hq with hq|hq
 .obtain ⟨its,r,pl,hz⟩:=I.list hq;refine SeqAt.notIn_listAt (eqU x) pl.isList (fun w hw=>kK rx fx r fs w (by simpa using hw)) ⟨.bl _,H,I,rfl,?_⟩;rw[show its.toArray.any (eqU x)=its.any (eqU x) by simp,kM r fs];exact q
 .obtain ⟨its,r,pl,hz⟩:=I.tuple hq;refine SeqAt.notIn_tupleAt (eqU x) pl (fun w hw=>kK rx fx r fs w (by simpa using hw)) ⟨.bl _,H,I,rfl,?_⟩;rw[show its.toArray.any (eqU x)=its.any (eqU x) by simp,kM r fs];exact q
def Zhv:cm X (.type "list") (fun xs H Q=>∃ p ys,xs=[.ref p]/\(SqL X.K H p ys\/SqT X.K H p ys)/\∀ l,H l=none->Q (.ref l) (upd H l (.lst ys))):=by
 intro pins s Z H xs us Q I r h;obtain⟨p,ys,rfl,hq,q⟩:=h;obtain⟨u,rfl,rx⟩:=vals1 r;cases rx;have fin:∀ (its:List Value),Vals ys its->ys.length<=sizeLine->∀ (h':Heap) (c':Nat),(∀ b o',s.heap.get? b=some o'->h'.get? b=some o') ->
   h'.get? s.heap.objs.size=some { cls:=.type "list",dict:=none,data:=.seq its.toArray c',slots:=#[] }->EP X pins Z Q (.ref s.heap.objs.size) { s with heap:=h' }:=fun its r' hz h' c' kp e =>
  ⟨.ref s.heap.objs.size,_,I.laid (t':=s.toks) kp (aE _) (show ObjOk X.prog X.w _ h' _ (.lst ys) from ⟨hz,its,c',r',e⟩),rfl,q _ (I.hok.fresh (aE _))⟩
 rcases hq with hq|hq
 .obtain ⟨its,r',pl,hz⟩:=I.list hq;have hlen:=r'.length;obtain⟨o,ho,hc,n,hd⟩:=pl.isList;exact call_list_seq p (.inl rfl) ho hc hd (fun h' c' kp e=>fin its r' hz h' c' kp e) (by simp only[bT] <;> lia)
 .obtain ⟨its,r',pl,hz⟩:=I.tuple hq;have hlen:=r'.length;obtain⟨o,ho,hc,n,hd⟩:=pl;exact call_list_seq p (.inr rfl) ho hc hd (fun h' c' kp e=>fin its r' hz h' c' kp e) (by simp only[bT] <;> lia)
def Zgw:cm X (.type "tuple") (fun xs H Q=>∃ p ys,xs=[.ref p]/\((SqL X.K H p ys/\∀ l,H l=none->Q (.ref l) (upd H l (.tup ys)))\/(SqT X.K H p ys/\Q (.ref p) H))):=by
 intro pins s Z H xs us Q I r h;obtain⟨p,ys,rfl,h⟩:=h;obtain⟨u,rfl,rx⟩:=vals1 r;cases rx;rcases h with ⟨hq,q⟩|⟨hq,q⟩
 .obtain ⟨its,r',pl,hz⟩:=I.list hq;have hlen:=r'.length;refine call_tuple_list pl.isList (fun h' kp=>?_) (by simp only[bT] <;> lia);have I1:Inv X pins Z H { s with heap:=h' }:=I.kept (t':=s.toks) kp;have I2:Inv X pins Z (upd H h'.objs.size (.tup ys)) { s with heap:=h'.push { cls:=.type "tuple",data:=.seq its.toArray } } :=
   I1.laid (t':=s.toks) (fun b o e=>br _ e) (aE _) (show ObjOk X.prog X.w _ _ _ (.tup ys) from ⟨hz,its,r',IsTup.new _ _⟩)
  exact⟨.ref h'.objs.size,_,I2,rfl,q _ (I1.hok.fresh (aE _))⟩
 .obtain ⟨its,r',pl,hz⟩:=I.tuple hq;exact call_tuple_same pl ⟨.ref p,H,I,rfl,q⟩
def tyV(K:W.Frag)(T:String)(x:V)(H:Hp):Prop:=match x with
 | .str _=>T="str"
 | .int _=>T="int"
 | .ref p=>(T="list"/\∃ xs,SqL K H p xs)\/(T="tuple"/\∃ o,K.lookup p=some o/\o.cls=.type "tuple"/\o.dict=none) \/
   (T="dict"/\((∃ kvs,H p=some (.dK kvs))\/∃ kvs,H p=some (.dT kvs)))\/(T="set"/\∃ S n,H p=some (.set S n))
 | _=>False
def wG{s:Shared}{T:String}{x:V}(I:Inv X pins Z H s)(r:RelV x v)(ty:tyV X.K T x H) :
  s.TypeIs v T/\∀ a,v=.ref a->∃ ob,s.heap.get? a=some ob/\ob.dict=none:=by
 cases x with
 | str z =>
  obtain⟨t,rfl⟩:=r;cases (show T="str" from ty);exact⟨typeIs_str s z t,fun _ e=>nomatch e⟩
 | int i =>
  obtain⟨t,rfl⟩:=r;cases (show T="int" from ty);exact⟨typeIs_int s i t,fun _ e=>nomatch e⟩
 | ref p =>
  cases r;rcases ty with ⟨rfl,xs,hq⟩|⟨rfl,o,hk,hc,hd⟩|⟨rfl,hk⟩|⟨rfl,S,n,hk⟩
  .obtain ⟨its,_,pl,_⟩:=I.list hq;refine⟨pl.isList.typeIs,fun a e=>?_⟩;cases e;obtain⟨o,n,e,c,hd,_⟩:=pl;exact⟨o,e,hd⟩
  .refine ⟨⟨o,I.kIn p o hk,hc⟩,fun a e=>?_⟩;cases e;exact⟨o,I.kIn _ o hk,hd⟩
  .have z:∃ o,s.heap.get? p=some o/\o.ExactDict:=by
    rcases hk with ⟨kvs,hk⟩|⟨kvs,hk⟩
    .obtain ⟨_,_,_,_,o,_,_,e,ex,_⟩:=I.hok p _ hk;exact⟨o,e,ex⟩
    .obtain ⟨_,_,_,_,o,_,_,e,ex,_⟩:=I.hok p _ hk;exact⟨o,e,ex⟩
   obtain⟨o,e,ex⟩:=z;refine⟨⟨o,e,ex.1⟩,fun a e2=>?_⟩;cases e2;exact⟨o,e,ex.2.1⟩
  .obtain ⟨o,_,_,_,e,ex,_⟩:=I.hok p _ hk;refine⟨⟨o,e,ex.1⟩,fun a e2=>?_⟩;cases e2;exact⟨o,e,ex.2.1⟩
 | _=>exact False.elim ty
def tBM0(K:W.Frag)(T:String)(r:V->List V->Hp->VK->Prop)(to:TE):TE:=fun Z H Q=>to Z H fun x H1=>tyV K T x H1/\r x [] H1 Q
def tBM(K:W.Frag)(T:String)(r:V->List V->Hp->VK->Prop)(to:TE)(t:TA):TE:=fun Z H Q=>to Z H fun x H1=>tyV K T x H1/\t Z H1 fun xs H2=>r x xs H2 Q
variable{o:Expr}{t:TA}{name:Str}{cpos:Pos}{T id:String}{r:V->List V->Hp->VK->Prop}
def pe_bm0(pa:PlainAttrs T)(slot:Slot T name id)(hty:typeOf (.builtin id)=pure (.type "method_descriptor"))(hm:MtR X id r)(ho:PE X o to)
  (hbase:attributeBase o name X.env (eval o X.env)=eval o X.env:=by rfl) (hline:(apos.endLine == cpos.line)=true:=by rfl):PE X (.Call (.Attribute o name apos) [] [] cpos) (tBM0 X.K T r to):=by
 intro pins s Z H Q I h;refine wpAny_Call_method0_late hbase hline (thn (ho pins s Z H _ I h) fun v s1 ⟨x,H1,I1,r1,ty,q1⟩=>?_);obtain⟨h1,h2⟩:=wG I1 r1 ty;exact⟨T,id,pa,slot,hty,h1,h2,rf rfl (PySem.evalArgs_none (hm pins s1 Z H1 x [] v [] Q I1 r1 .nil q1))⟩
def pe_bm(pa:PlainAttrs T)(slot:Slot T name id)(hty:typeOf (.builtin id)=pure (.type "method_descriptor"))(hm:MtR X id r)(ho:PE X o to)(ha:PA X (e::es) t)
  (hbase:attributeBase o name X.env (eval o X.env)=eval o X.env:=by rfl)
  (hfew:((backTo cpos (starEach (e::es) X.env)).all (fun x=>!x.1) && (backToKw cpos (keywordEach [] X.env)).all (fun x=>x.1.isSome)
  &&decide ((e::es).length+([]:List Keyword).length+(if ([]:List Keyword).isEmpty then 0 else 1)<30))=true:=by rfl)
  (hline:(apos.endLine == cpos.line)=true:=by rfl) (hs:starEach (e::es) X.env=(false,eval e X.env)::starEach es X.env:=by rfl) (hplain:(backTo cpos (starEach es X.env)).any (·.1)=false:=by rfl) :
  PE X (.Call (.Attribute o name apos) (e::es) [] cpos) (tBM X.K T r to t):=by
 intro pins s Z H Q I h;refine wpAny_Call_method_late hbase hfew hline rfl (thn (ho pins s Z H _ I h) fun v s1 z0_=>?_);obtain⟨x,H1,I1,r1,ty,q1⟩:=z0_;obtain⟨h1,h2⟩:=wG I1 r1 ty;refine⟨T,id,pa,slot,hty,h1,h2,?_⟩;have hA:=ha cpos pins s1 Z H1 _ I1 q1;rw[hs] at hA ⊢;refine rf (by show (false || (backTo cpos (starEach es X.env)).any (·.1))=false;rw[hplain] <;> rfl) (Calls.evalArgs_plain ?_);exact thn hA fun us s2 z1_=>by obtain⟨vs,H2,I2,r2,q2⟩:=z1_;exact hm pins s2 Z H2 x vs v us Q I2 r1 r2 q2
/- xs.append(e),list.index on a module's tuple .. are MtR facts of 06m -/
end
end L2
namespace L2
variable{ys vs:List L2.V}{H H' H1 H2:L2.Hp}{Z:L2.St}{ta te tc to tl td ty tv:L2.TE}{y:L2.V}{g:L2.TG}{wi:L2.TI}{sp:L2.Sp}{kvs:List (List L2.Key×L2.V)}{ks:List L2.Key}{tr:L2.TA}
open PySem PySem.Spec PyProof.Rows
noncomputable def MtM(X:Cx)(id:String)(r:V->List V->Hp->VK->Prop):Prop :=
 ∀ (pins:List (Addr×Obj)) (s:Shared) (Z:St) (H:Hp) (x:V) (xs:List V) (v:Value) (us:List Value) (Q:VK),Inv X pins Z H s->RelV x v->Vals xs us->r x xs H Q ->
  wpAny (model X.prog X.w) X.A (call (.builtin id) (v::us)) (EP X pins Z Q) X.xe s
def Vals.consI{x:V}{xs:List V}{us:List Value}(h:Vals (x::xs) us):∃ u ws,us=u::ws/\RelV x u/\Vals xs ws:=by
 cases h with
 | cons r t=>exact⟨_,_,rfl,r,t⟩
def Vals.nilI{us:List Value}(h:Vals [] us):us=[]:=by
 cases h;rfl
def Vals.one{x:V}{us:List Value}(h:Vals [x] us):∃ u,us=[u]/\RelV x u:=by
 obtain⟨u,ws,rfl,r,t⟩:=h.consI;exact⟨u,by rw[t.nilI],r⟩
theorem Vals.zero:∀ {us:List Value},Vals [] us->us=[]
 | _,.nil=>rfl
def Vals.dropLast{xs:List V}{us:List Value}(h:Vals xs us):Vals xs.dropLast us.dropLast:=by
 induction h with
 | nil=>exact .nil
 | cons r t ih =>
  cases t with
  | nil=>exact .nil
  | cons q t'=>exact .cons r ih
theorem Vals.rep{xs : List V}{us : List Value}(h : Vals xs us) : ∀ k : Nat, Vals (List.replicate k xs).flatten (List.replicate k us).flatten
  | 0=>.nil
  | k + 1 => by
    rw[iG,iG,iH,iH];exact Vals.append h (Vals.rep h k)
def Zj9{α:Type}(l:List α):l.eraseIdx (l.length - 1)=l.dropLast:=by
 induction l with
 | nil=>rfl
 | cons a r ih =>
  cases r with
  | nil=>rfl
  | cons b r =>
   have e:(a::b::r).length-1=((b::r).length-1)+1:=by
    have h1:(a::b::r).length=r.length+2:=rfl;have h2:(b::r).length=r.length+1:=rfl;lia
   rw[e,eraseIdx_cons_succ,ih]
   all_goals rfl
theorem foldl_rep(its : List Value) : ∀ (k : Nat) (acc : List Value),
    List.foldl (fun x1 x2=>x1++x2) acc.toArray (List.replicate k its.toArray)=(acc++(List.replicate k its).flatten).toArray
  | 0, acc=>by simp
  | k + 1, acc => by
    have e:acc.toArray++its.toArray=(acc++its).toArray:=by simp
    have e2 : (acc++its)++(List.replicate k its).flatten=acc++(List.replicate (k+1) its).flatten:=by
      rw[iG,iH,cv]
    rw[<- e2, <- foldl_rep its k (acc++its), <- e, iG, foldl_cons]
section
variable{X:Cx}{s:Shared}{l b:Addr}{xs zs:List V}
def Inv.lset{its its':List Value}{n:Nat}{f:Array Value->Array Value}{t':Nat}(I:Inv X pins Z H s)(hH:H l=some (.lst xs))
  (e:s.heap.get? l=some { cls:=.type "list",data:=.seq its.toArray n }) (hf:f its.toArray=its'.toArray) (hv:Vals ys its') (hz:ys.length<=sizeLine) :
  Inv X pins Z (upd H l (.lst ys)) { s with heap:=s.heap.update l (Obj.mapSeq f),toks:=t' }:=by
 have q:=PySem.IsL.update e f;rw[hf] at q;refine I.write (x:=l) (e:=l) (by rw[hH];exact trivial) (.inl rfl) (fun b' u hb hu=>(lC s.heap (Obj.mapSeq f) (Ne.symm hb)).trans hu) ⟨_,q⟩ ?_;exact⟨hz,its',_,hv,q⟩
def Inv.lnew{its:List Value}{t':Nat}(I:Inv X pins Z H s)(hv:Vals ys its)(hz:ys.length<=sizeLine) :
  Inv X pins Z (upd H s.heap.objs.size (.lst ys)) { s with heap:=s.heap.push { cls:=.type "list",data:=.seq its.toArray },toks:=t' } :=
 I.laid (fun _ _ q=>br _ q) (aE _) ⟨hz,its,0,hv,ca _ rfl⟩
def Inv.fresh(I:Inv X pins Z H s):H s.heap.objs.size=none:=I.hok.fresh (aE _)
def Inv.lstM(I:Inv X pins Z H s)(hH:H l=some (.lst xs)):xs.length<=sizeLine/\∃ (its:List Value) (n:Nat),Vals xs its/\xs.length=its.length/\s.heap.get? l=some { cls:=.type "list",data:=.seq its.toArray n }:=by
 obtain⟨z,its,n,r,e⟩:=I.hok l _ hH;exact⟨z,its,n,r,r.length,e⟩
def uL(h:n<=sizeLine):Builtin.List.listTooLong n=false:=by
 unfold Builtin.List.listTooLong;exact bz (by lia)
end
section
variable{X:Cx}
def pq:V->List V->Hp->VK->Prop:=fun x vs H Q=>∃ l xs y,x=.ref l/\vs=[y]/\H l=some (.lst xs)/\xs.length<sizeLine/\Q .non (upd H l (.lst (xs++[y])))
def gK:MtM X "list.append" pq:=by
 intro pins s Z H x vs v us Q I rx rv h;obtain⟨l,xs,y,rfl,rfl,hH,hz,q⟩:=h;cases rx;obtain⟨u,rfl,ru⟩:=rv.one;obtain⟨z,its,n,r,hl,e⟩:=I.lstM hH;refine lD F.slot_list_append ⟨_,e,rfl⟩ F.entry_list_append (F.args_list_append_2 _ _) (PySem.list_append l its.toArray n u (by rw[bT];lia)) ⟨e,?_⟩;refine⟨.non,_,I.lset (its':=its++[u]) hH e (by simp) (r.append (.cons ru .nil)) ?_,rfl,q⟩;rw[aJ,eA];lia
noncomputable def Zpw:V->List V->Hp->VK->Prop:=fun x vs H Q=>∃ l b xs zs,x=.ref l/\vs=[.ref b]/\H l=some (.lst xs)/\H b=some (.lst zs)/\xs.length+zs.length<=sizeLine/\Q .non (upd H l (.lst (xs++zs)))
def mt_extend:MtM X "list.extend" Zpw:=by
 intro pins s Z H x vs v us Q I rx rv h;obtain⟨l,b,xs,zs,rfl,rfl,hH,hB,hz,q⟩:=h;cases rx;obtain⟨u,rfl,ru⟩:=rv.one;cases ru;obtain⟨z,its,n,r,hl,e⟩:=I.lstM hH;obtain⟨z2,its2,n2,r2,hl2,e2⟩:=I.lstM hB;have hsz:its.toArray.size+its2.toArray.size<=sizeLine:=by rw[bT,bT];lia
 have hlong:¬ (!its.toArray.isEmpty&&Builtin.List.listTooLong (its.toArray.size+its2.toArray.size))=true:=by
  rw[uL hsz,Bool.and_false];exact bL
 refine lD F.slot_list_extend ⟨_,e,rfl⟩ F.entry_list_extend (F.args_list_extend_2 _ _)
  (AutoSeq1.list_extend_list_list_0 l its.toArray n b its2.toArray n2 hlong (by rw[bT];lia) (by lia)) ⟨e,e2,?_⟩
 refine⟨.non,_,I.lset (its':=its++its2) hH e (by simp) (r.append r2) ?_,rfl,q⟩;rw[aJ];lia
def rPop:V->List V->Hp->VK->Prop:=fun x vs H Q=>∃ l xs y,x=.ref l/\vs=[]/\H l=some (.lst xs)/\xs[xs.length-1]?=some y/\Q y (upd H l (.lst xs.dropLast))
def mt_pop:MtM X "list.pop" rPop:=by
 intro pins s Z H x vs v us Q I rx rv h;obtain⟨l,xs,y,rfl,rfl,hH,hy,q⟩:=h;cases rx;have hus:=rv.zero;subst hus;obtain⟨z,its,n,r,hl,e⟩:=I.lstM hH;obtain⟨u,hu,ru⟩:=r.get hy;have hy':its.toArray[its.toArray.size-1]?=some u:=by
  show its.toArray[its.length-1]?=some u;rw[<-lE,<- hl];exact hu
 refine lD F.slot_list_pop ⟨_,e,rfl⟩ F.entry_list_pop (F.args_list_pop_1 _) (MeetsSeq.list_pop_last l its.toArray n u hy' (by rw[bT];lia)) ⟨e,?_⟩;refine⟨y,_,I.lset (its':=its.dropLast) hH e ?_ r.dropLast ?_,ru,q⟩
 .show its.toArray.eraseIdxIfInBounds (its.toArray.size-1)=its.dropLast.toArray;rw[bT,eraseIdxIfInBounds_toArray,Zj9]
 .rw[length_dropLast];lia
def rCat:R2:=fun x y H Q=>∃ l b xs zs,x=.ref l/\y=.ref b/\H l=some (.lst xs)/\H b=some (.lst zs)/\xs.length+zs.length<=sizeLine/\∀ p,H p=none->Q (.ref p) (upd H p (.lst (xs++zs)))
def ff:OpR X (binaryOp .Add) rCat:=by
 intro pins s Z H x y v u Q I rx ry h;obtain⟨l,b,xs,zs,rfl,rfl,hH,hB,hz,q⟩:=h;cases rx;cases ry;obtain⟨z,its,n,r,hl,e⟩:=I.lstM hH;obtain⟨z2,its2,n2,r2,hl2,e2⟩:=I.lstM hB;refine PySem.P.add_list e e2 ?_ (by rw[bT,bT];lia);have ea:its.toArray++its2.toArray=(its++its2).toArray:=by simp
 rw[ea];exact⟨.ref _,_,I.lnew (t':=s.toks) (r.append r2) (by rw[aJ];lia),rfl,q _ I.fresh⟩
def rRep:R2:=fun x y H Q=>∃ l k xs,x=.ref l/\y=.int k/\H l=some (.lst xs)/\-(2^63)<=k/\k<2^63/\xs.length*k.toNat<=sizeLine /\
 ∀ p,H p=none->Q (.ref p) (upd H p (.lst (List.replicate k.toNat xs).flatten))
def ZpW{α:Type}(xs:List α)(k:Nat):(List.replicate k xs).flatten.length=k*xs.length:=by
 induction k with
 | zero=>simp
 | succ k ih=>rw[iG,iH,aJ,ih,Nat.succ_mul,Nat.add_comm]
def oz:OpR X (binaryOp .Mult) rRep:=by
 intro pins s Z H x y v u Q I rx ry h;obtain⟨l,k,xs,rfl,rfl,hH,h1,h2,hz,q⟩:=h;cases rx;obtain⟨t,rfl⟩:=ry;obtain⟨z,its,n,r,hl,e⟩:=I.lstM hH;have hlen:its.toArray.size*k.toNat<=sizeLine:=by rw[bT,<- hl];exact hz
 have hcap:¬ its.toArray.size*k.toNat>(2^63-1) / 8:=by
  have:(sizeLine:Nat)<=(2^63-1) / 8:=by decide
  lia
 have hfit:¬ (!Builtin.List.listFitsIndex k)=true:=by
  rw[fitsIndex_both h1 h2];exact bL
 have hlong:¬ Builtin.List.listTooLong (its.toArray.size*k.toNat)=true:=by
  rw[uL hlen];exact bL
 have hnew:List.foldl (fun x1 x2=>x1++x2) #[] (List.replicate (if its.toArray.isEmpty=true then 0 else k.toNat) its.toArray)=(List.replicate k.toNat its).flatten.toArray:=by
  have f0:∀ m:Nat,List.foldl (fun x1 x2=>x1++x2) #[] (List.replicate m its.toArray)=(List.replicate m its).flatten.toArray:=fun m=>by
   have:=foldl_rep its m [];rw[dS] at this;exact this
  rw[f0];cases its with
  | nil=>simp
  | cons a r'=>rw[ao (by simp)]
 refine wpAny_binaryOp_repeat_ref (T:="list") (U:="int") (by decide) ⟨_,e,rfl⟩ (fun s'=>typeIs_int s' k t) noFill_list_mul F.fills_int_mul F.slot_int_rmul repeat_list F.slot_int_index.lookup
  (lD F.slot_int_rmul (typeIs_int s k t) F.entry_int_rmul (F.args_int_rmul_2 _ _) (int___rmul___int_list k t l its.toArray n)
   ⟨e,rfl,⟨_,e,rfl⟩,lD F.slot_list_mul ⟨_,e,rfl⟩ F.entry_list_mul (F.args_list_mul_2 _ _) (AutoListH.list___mul___list_int_3 l its.toArray n k t hfit hcap hlong) ⟨e,?_⟩⟩)
 rw[hnew];exact⟨.ref _,_,I.lnew (t':=s.toks) (r.rep k.toNat) (by rw[ZpW,Nat.mul_comm];exact hz),rfl,q _ I.fresh⟩
end
end L2
namespace L2
variable{ys vs:List L2.V}{H H' H1 H2:L2.Hp}{Z:L2.St}{ta te tc to tl td ty tv:L2.TE}{y:L2.V}{g:L2.TG}{wi:L2.TI}{sp:L2.Sp}{kvs:List (List L2.Key×L2.V)}{ks:List L2.Key}{tr:L2.TA}
open PySem PySem.Spec PyProof.Rows
section
variable{κ:Type}[DecidableEq κ]
def valV(kvs:List (κ×V))(k:κ):Option V:=(kvs.find? fun kv=>decide (kv.1=k)).map (·.2)
def putK(kvs:List (κ×V))(k:κ)(v:V):List (κ×V) :=
 if (kvs.any fun kv=>decide (kv.1=k))=true then kvs.map (fun kv=>if kv.1=k then (kv.1,v) else kv) else kvs++[(k,v)]
def lh{p:κ×V}{r:List (κ×V)}{k:κ}(e:p.1=k):valV (p::r) k=some p.2:=by simp[valV,eW,e]
def jP{p:κ×V}{r:List (κ×V)}{k:κ}(e:¬ p.1=k):valV (p::r) k=valV r k:=by simp[valV,eW,e]
theorem nq(k : κ) : ∀ kvs : List (κ×V), (kvs.any fun kv=>decide (kv.1=k))=(valV kvs k).isSome
  | []=>rfl
  | p :: r => by
    rw[gW];by_cases e:p.1=k
    . simp only[lh e, aX e, Bool.true_or, Option.isSome_some]
    . rw[jP e, bz e, nN]; exact nq k r
def vn(kvs:List (κ×V))(k:κ)(v:V):(putK kvs k v).length<=kvs.length+1:=by
 unfold putK;split
 .rw[af];lia
 .rw[aJ,cD,iI];lia
def Znd{kvs:List (κ×V)}{k:κ}(v:V)(h:valV kvs k=none):putK kvs k v=kvs++[(k,v)]:=by
 unfold putK;rw[nq,h];exact ao (by decide)
def RelO.isSome_eq{o:Option V}{u:Option Value}(r:RelO o u):o.isSome=u.isSome:=by
  cases o with
  | none => cases u with
    | none=>rfl
    | some _=>exact(show False from r).elim
  | some _ => cases u with
    | none=>exact(show False from r).elim
    | some _=>rfl
def RelO.getD {o:Option V} {u:Option Value} {d:V} {d':Value} (r:RelO o u) (rd:RelV d d'):RelV (o.getD d) (u.getD d'):=by
  cases o with
  | none => cases u with
    | none=>exact rd
    | some _=>exact(show False from r).elim
  | some _ => cases u with
    | none=>exact(show False from r).elim
    | some _=>exact r
def KV.val{kvs:List (κ×V)}{vs:List (κ×Value)}(r:KV kvs vs)(k:κ):RelO (valV kvs k) (valueAt vs k):=by
 unfold KV at r
 induction r with
 | nil=>exact True.intro
 | @cons p q ps qs h t ih =>
  obtain⟨h1,h2⟩:=h;by_cases e:p.1=k
  .have e':q.1=k:=h1.symm.trans e;have b:valueAt (q::qs) k=some q.2:=by simp[valueAt,eW,e']
   rw[lh e,b];exact h2
  .have e':¬ q.1=k:=fun z=>e (h1.trans z);have b:valueAt (q::qs) k=valueAt qs k:=by simp[valueAt,eW,e']
   rw[jP e,b];exact ih
def KV.any{kvs:List (κ×V)}{vs:List (κ×Value)}(r:KV kvs vs)(k:κ):(kvs.any fun kv=>decide (kv.1=k))=vs.any fun kv=>decide (kv.1=k):=by
 unfold KV at r
 induction r with
 | nil=>rfl
 | cons h t ih=>rw[gW,gW,ih,h.1]
def KV.repl{kvs:List (κ×V)}{vs:List (κ×Value)}(r:KV kvs vs)(k:κ)(ry:RelV y u) :
  KV (kvs.map fun kv=>if kv.1=k then (kv.1,y) else kv) (vs.map fun kv=>if kv.1=k then (kv.1,u) else kv):=by
 unfold KV at r ⊢
 induction r with
 | nil=>exact .nil
 | @cons p q ps qs h t ih =>
  rw[aP,aP];refine .cons ?_ ih;obtain⟨h1,h2⟩:=h;by_cases e:p.1=k
  .rw[am e,am (h1.symm.trans e)];exact⟨h1,ry⟩
  .rw[ao e,ao (fun z=>e (h1.trans z))];exact⟨h1,h2⟩
def KV.put{kvs:List (κ×V)}{vs:List (κ×Value)}(r:KV kvs vs)(k:κ)(ry:RelV y u):KV (putK kvs k y) (stored vs k u):=by
 unfold putK stored;rw[r.any k];by_cases e:(vs.any fun kv=>decide (kv.1=k))=true
 .rw[am e,am e];exact r.repl k ry
 .rw[ao e,ao e];exact Paired.snoc r ⟨rfl,ry⟩
def KV.length{kvs:List (κ×V)}{vs:List (κ×Value)}(r:KV kvs vs):kvs.length=vs.length:=Paired.length r
end
def hV{P:Program}{w:World}{k:Key}(r:RelV (kV k) u):(cN P w).is k u=true:=by
 cases k with
 | inl i=>obtain⟨t,e⟩:=(show ∃ t,u=Value.int i t from r);subst e;exact Zib P w i t
 | inr x=>obtain⟨t,e⟩:=(show ∃ t,u=Value.str x t from r);subst e;exact o0 P w x t
theorem xp{P : Program}{w : World} : ∀ {ks : List Key} {us : List Value}, Vals (ks.map kV) us->ItemsAre (cN P w) ks us
  | [], _, r=>by rw[gc] at r; cases r; exact .nil
  | k :: ks, _, r => by
    rw[aP] at r;cases r with
    | cons h t=>exact .cons (hV h) (xp t)
abbrev KT(H:Hp):List (List Key×V)->List (List Key×Addr×Value)->Prop:=Paired fun p q=>p.1=q.1/\H q.2.1=some (.tup (p.1.map kV))/\RelV p.2 q.2.2
def KT.val{xs:List (List Key×Addr×Value)}(r:KT H kvs xs)(k:List Key):RelO (valV kvs k) ((atKey xs k).map (·.2)):=by
 induction r with
 | nil=>exact True.intro
 | @cons p q ps qs h t ih =>
  obtain⟨h1,_,h2⟩:=h;by_cases e:p.1=k
  .have e':q.1=k:=h1.symm.trans e;have b:atKey (q::qs) k=some q.2:=by simp[atKey,eW,e']
   rw[lh e,b];exact h2
  .have e':¬ q.1=k:=fun z=>e (h1.trans z);have b:atKey (q::qs) k=atKey qs k:=by simp[atKey,eW,e']
   rw[jP e,b];exact ih
def KT.repl{xs:List (List Key×Addr×Value)}(r:KT H kvs xs)(k:List Key)(ry:RelV y u) :
  KT H (kvs.map fun kv=>if kv.1=k then (kv.1,y) else kv) (xs.map (putAt k u)):=by
 induction r with
 | nil=>exact .nil
 | @cons p q ps qs h t ih =>
  rw[aP,aP];refine .cons ?_ ih;obtain⟨h1,h2,h3⟩:=h;unfold putAt;by_cases e:p.1=k
  .rw[am e,am (h1.symm.trans e)];exact⟨h1,h2,ry⟩
  .rw[ao e,ao (fun z=>e (h1.trans z))];exact⟨h1,h2,h3⟩
def KT.put{xs:List (List Key×Addr×Value)}(r:KT H kvs xs)(k:List Key){b:Addr}(hb:H b=some (.tup (k.map kV)))(ry:RelV y u) :
  KT H (putK kvs k y) (storedH xs k b u):=by
 have e:(kvs.any fun kv=>decide (kv.1=k))=(atKey xs k).isSome:=by
  rw[nq,(r.val k).isSome_eq,rg]
 unfold putK storedH;rw[e];by_cases q:(atKey xs k).isSome=true
 .rw[am q,am q];exact r.repl k ry
 .rw[ao q,ao q];exact Paired.snoc r ⟨rfl,hb,ry⟩
def KT.keeps{xs:List (List Key×Addr×Value)}(r:KT H kvs xs)(ht:∀ b ys,H b=some (.tup ys)->H' b=some (.tup ys)):KT H' kvs xs :=
 Paired.mapP r fun _ _ z=>⟨z.1,ht _ _ z.2.1,z.2.2⟩
section
variable{P:Program}{w:World}{h:Heap}
def rd_of{u:HO}(ok:HOk P w H h)(e:Rd H a u):ObjOk P w H h a u:=e.ok ok
def jS{kvs:List (Key×V)}(ok:HOk P w H h)(e:Rd H a (.dK kvs)):kvs.length<=sizeLine/\(a == sysModules)=false/\∃ vs,KV kvs vs/\h.DictOf (cN P w) a vs :=
 show ObjOk P w H h a (.dK kvs) from rd_of ok e
def dk_of{kvs:List (Key×V)}(ok:HOk P w H h)(e:H a=some (.dK kvs)):kvs.length<=sizeLine/\(a == sysModules)=false/\∃ vs,KV kvs vs/\h.DictOf (cN P w) a vs:=jS ok (.inl e)
def kE(ok:HOk P w H h)(e:H a=some (.tup (ks.map kV))):(tupleKind (cN P w)).is h ks a:=by
 obtain⟨_,its,r,o,h1,h2,n,h3⟩:=(show ObjOk P w H h a (.tup (ks.map kV)) from ok a _ e);exact⟨o,its.toArray,n,h1,h2,h3,by simpa using xp r⟩
def jx(ok:HOk P w H h)(e:Rd H a (.dT kvs)):kvs.length<=sizeLine/\(a == sysModules)=false /\
  ∃ xs,KT H kvs xs/\h.DictOfH (tupleKind (cN P w)) a xs:=by
 obtain⟨z,y,xs,r,o,es,ep,h1,h2,h3,h4,h5⟩:=(show ObjOk P w H h a (.dT kvs) from rd_of ok e);refine⟨z,y,xs,r,o,es,ep,h1,h2,h3,h4,fun x hx=>?_,h5⟩;have all:∀ {l:List (List Key×V)} {m:List (List Key×Addr×Value)},KT H l m->∀ x∈m,(tupleKind (cN P w)).is h x.1 x.2.1:=by
  intro l m q
  induction q with
  | nil=>intro x hx;exact nomatch hx
  | @cons p q ps qs hq t ih =>
   intro x hx;rcases aI.mp hx with e|hx
   .subst e;exact kE ok (by rw[<-hq.1];exact hq.2.1)
   .exact ih x hx
 exact all r x hx
def dt_of(ok:HOk P w H h)(e:H a=some (.dT kvs)):kvs.length<=sizeLine/\(a == sysModules)=false /\
  ∃ xs,KT H kvs xs/\h.DictOfH (tupleKind (cN P w)) a xs:=jx ok (.inl e)
end
def DGet(H:Hp)(a:Addr)(y:V)(r:Option V):Prop :=
 (∃ kvs k,Rd H a (.dK kvs)/\y=kV k/\r=valV kvs k)\/∃ kvs k b,Rd H a (.dT kvs)/\y=.ref b/\H b=some (.tup (k.map kV))/\r=valV kvs k
noncomputable def DPut(H:Hp)(a:Addr)(y v:V)(H':Hp):Prop :=
 (∃ kvs k,H a=some (.dK kvs)/\y=kV k/\kvs.length<sizeLine/\H'=upd H a (.dK (putK kvs k v))) \/
 ∃ kvs k b,H a=some (.dT kvs)/\y=.ref b/\H b=some (.tup (k.map kV))/\kvs.length<sizeLine/\H'=upd H a (.dT (putK kvs k v))
def DGet.k{H:Hp}{a:Addr}{kvs:List (Key×V)}{k:Key}(e:H a=some (.dK kvs)):DGet H a (kV k) (valV kvs k):=.inl ⟨kvs,k,.inl e,rfl,rfl⟩
def DPut.k{H:Hp}{a:Addr}{kvs:List (Key×V)}{k:Key}{v:V}(e:H a=some (.dK kvs))(hl:kvs.length<sizeLine):DPut H a (kV k) v (upd H a (.dK (putK kvs k v))):=.inl ⟨kvs,k,e,rfl,hl,rfl⟩
def DPut.t{b:Addr}{k:List Key}{v:V}(e:H a=some (.dT kvs))(eb:H b=some (.tup (k.map kV)))(hl:kvs.length<sizeLine) :
  DPut H a (.ref b) v (upd H a (.dT (putK kvs k v))):=.inr ⟨kvs,k,b,e,rfl,eb,hl,rfl⟩
section
variable{X:Cx}{s:Shared}{v:V}{r:Value}{o:Option V}
def Inv.big(I:Inv X pins Z H s):sysModules<s.heap.objs.size:=by
 have h:mainGlobals<s.heap.objs.size:=(I.mod.glob.keeps I.bk).lt;exact dU (by decide) h
def Zmm{Q:Value->Shared->Prop}(hu:A.units+1<cLine)(I:Inv X pins Z H s)(g:DGet H a y (some v))(ry:RelV y u)(h:∀ w' s',Inv X pins Z H s'->RelV v w'->Q w' s') :
  wpAny (model X.prog X.w) A (getItem (.ref a) u) Q E s:=by
 rcases g with ⟨kvs,k,e,ey,l⟩|⟨kvs,k,b,e,ey,eb,l⟩
 .subst ey;obtain⟨z,hd,vs,rel,dd⟩:=jS I.hok e;obtain⟨w',hw,rw'⟩:=RelO.some_of (v:=v) (o:=valueAt vs k) (by rw[l];exact rel.val k);exact wpAny_getItem_of (hV ry) dd.mapOf hw (h w' _ (I.tok _) rw')
 .subst ey;cases (show u=Value.ref b from ry);obtain⟨z,hd,xs,rel,dd⟩:=jx I.hok e;obtain⟨w',hw,rw'⟩:=RelO.some_of (v:=v) (o:=(atKey xs k).map (·.2)) (by rw[l];exact rel.val k);obtain⟨p,hp,hp2⟩:=bh.mp hw;refine wpAny_getItem_heap (nO hu) (kE I.hok eb) dd hp ?_;rw[hp2];exact h w' _ (I.tok _) rw'
def Zqh{Q:Value->Shared->Prop}(hu:A.units+1<cLine)(I:Inv X pins Z H s)(g:DGet H a y o)(ry:RelV y u)(h:∀ s',Inv X pins Z H s'->Q (.bool (!o.isSome)) s') :
  wpAny (model X.prog X.w) A (compareOp .NotIn u (.ref a)) Q E s:=by
 rcases g with ⟨kvs,k,e,ey,l⟩|⟨kvs,k,b,e,ey,eb,l⟩
 .subst ey;obtain⟨z,hd,vs,rel,dd⟩:=jS I.hok e;refine wpAny_notIn_of (hV ry) hd dd.mapOf ?_;rw[<-(rel.val k).isSome_eq,<- l];exact h _ (I.tok _)
 .subst ey;cases (show u=Value.ref b from ry);obtain⟨z,hd,xs,rel,dd⟩:=jx I.hok e;refine wpAny_notIn_heap (nO hu) (kE I.hok eb) hd dd ?_;have q:=(rel.val k).isSome_eq;rw[rg] at q;rw[<-q,<- l];exact h _ (I.tok _)
def wA{h':Heap}{t':Nat}{ob:HO}(I:Inv X pins Z H s)(mu:Mut (H a))(hs:Heap.SameBut a s.heap h')(he:∃ q,h'.get? a=some q)(new:ObjOk X.prog X.w (upd H a ob) h' a ob) :
  Inv X pins Z (upd H a ob) { s with heap:=h',toks:=t' } :=
 I.write (x:=a) (e:=a) mu (.inl rfl) (fun b q hb z=>(hs.2 b hb).trans z) he new
def dk_new{P:Program}{w:World}{h':Heap}{kvs:List (Key×V)}{vs:List (Key×Value)}(z:kvs.length<=sizeLine)(hd:(a == sysModules)=false)(rel:KV kvs vs)(dd:h'.DictOf (cN P w) a vs) :
  ObjOk P w H' h' a (.dK kvs):=⟨z,hd,vs,rel,dd⟩
def Zml{Q:Unit->Shared->Prop}(hu:A.units+1<cLine)(I:Inv X pins Z H s)(g:DPut H a y v H')(ry:RelV y u)(rv:RelV v r)(h:∀ s',Inv X pins Z H' s'->Q () s') :
  wpAny (model X.prog X.w) A (setItem (.ref a) u r) Q E s:=by
 rcases g with ⟨kvs,k,e,ey,l,eH⟩|⟨kvs,k,b,e,ey,eb,l,eH⟩
 .subst ey eH;obtain ⟨z,hd,vs,rel,dd⟩:=dk_of I.hok e;have hz:vs.length<=sizeLine:=by rw[<-rel.length];exact z
  have hl:(putK kvs k v).length<=sizeLine:=by have:=vn kvs k v;lia
  refine wpAny_setItem_pairs (hsz:=hz) (hV ry) dd fun h' dd' hs=>h _ ?_;have he:∃ q,h'.get? a=some q:=let ⟨q,_,_,hq,_⟩:=dd';⟨q,hq⟩;exact wA I (by rw[e];exact True.intro) hs he (dk_new hl hd (rel.put k rv) dd')
 .subst ey eH;cases (show u=Value.ref b from ry);obtain ⟨z,hd,xs,rel,dd⟩:=dt_of I.hok e;have hz:xs.length<=sizeLine:=by rw[<-Paired.length rel];exact z
  have hl:(putK kvs k v).length<=sizeLine:=by have:=vn kvs k v;lia
  refine wpAny_setItem_heap (hsz:=hz) (nO hu) (kE I.hok eb) dd fun h' dd' hs=>h _ ?_;obtain⟨q,es,ep,hq,h2,h3,h4,_,h5⟩:=dd';refine wA I (by rw[e];exact True.intro) hs ⟨q,hq⟩ ⟨hl,hd,_,(rel.put k eb rv).keeps fun c ys ec=>?_,q,es,ep,hq,h2,h3,h4,h5⟩;rw[bC (ne_of ec e (fun z=>nomatch z))];exact ec
end
def NoSl(i:Expr):Prop:=∀ ov iv,subscripted i false ov iv=operate [ov,iv] (getItem ov iv)
def w5{w:World}{s:Shared}{env:Env}{value slice:Expr}{T id:String}{Q:Value->Shared->Prop}
  (hl:typeLookup (.type T) "__getitem__"=pure (some (.builtin id))) (hs:NoSl slice)
  (h:wpAny (model prog w) A (eval value env) (fun o s₁=>wpAny (model prog w) A (eval slice env) (fun i s₂=>s₂.TypeIs o T/\wpAny (model prog w) A (getItem o i) Q E s₂) E s₁) E s) :
  wpAny (model prog w) A (eval (.Subscript value slice pos) env) Q E s:=by
 refine Subscript_ (dG h (fun o s₁ h₁=>dG h₁ (fun i s₂ h₂=>?_) fun _ _ x=>x) fun _ _ x=>x);obtain⟨hT,h₂⟩:=h₂;unfold subscriptTail;refine ae ?_;rw[getitemInPython_of_ne hT.not_modules];refine ae (lF hT hl ?_);have fin:wpAny (model prog w) A (subscripted slice false o i) (fun r s₃=>wpAny (model prog w) A (letTemporaryGo value o r >>= fun _=>pure r) Q E s₃) E s₂:=by
  rw[hs o i];exact wpAny_operating (dG h₂ (fun r s₃ h₃=>ae (wpAny_letTemporaryGo (aq h₃))) fun _ _ x=>x)
 first
  | exact aq (ae fin)
  | exact ae (aq (ae fin))
  | exact ae fin
def Zij{X:Cx}{s:Shared}{o:Option V}(I:Inv X pins Z H s)(g:DGet H a y o):s.TypeIs (.ref a) "dict":=by
 rcases g with ⟨kvs,k,e,_,_⟩|⟨kvs,k,b,e,_,_,_⟩
 .obtain ⟨_,_,vs,_,dd⟩:=jS I.hok e;exact dd.typeIs
 .obtain ⟨_,_,xs,_,dd⟩:=jx I.hok e;exact dd.typeIs
def qL(td ty:TE):TE:=fun Z H Q=>td Z H fun x H1=>ty Z H1 fun y H2=>∃ a v,x=.ref a/\DGet H2 a y (some v)/\Q v H2
def wB(ty td:TE):TE:=fun Z H Q=>ty Z H fun y H1=>td Z H1 fun x H2=>∃ a o,x=.ref a/\DGet H2 a y o/\Q (.bl (!o.isSome)) H2
def mU(td ty tv:TE):TS:=fun D Z H=>tv Z H fun v H1=>td Z H1 fun x H2=>ty Z H2 fun y H3=>∃ a H4,x=.ref a/\DPut H3 a y v H4/\D.nx Z H4
section
variable{X:Cx}{o i value:Expr}{tpos:Pos}
def hZ(hu:X.A.units+1<cLine)(ho:PE X o td)(hi:PE X i ty)(hs:NoSl i):PE X (.Subscript o i pos) (qL td ty):=by
 intro pins s Z H Q I h;refine w5 PySem.F.slot_dict_getitem.lookup hs (thn (ho pins s Z H _ I h) fun u s1 ⟨x,H1,I1,rx,q1⟩=>thn (hi pins s1 Z H1 _ I1 q1) fun iv s2 z0_=>?_);obtain⟨y,H2,I2,ry,a,v,ex,g,q2⟩:=z0_;subst ex;obtain rfl:u=Value.ref a:=rx;exact⟨Zij I2 g,Zmm hu I2 g ry fun w' s3 I3 rw'=>⟨v,H2,I3,rw',q2⟩⟩
def qA(hu:X.A.units+1<cLine)(hi:PE X i ty)(ho:PE X o td):PC X .NotIn i o (wB ty td):=by
 intro pins s Z H Q I h;refine thn (hi pins s Z H _ I h) fun iv s1 ⟨y,H1,I1,ry,q1⟩=>thn (ho pins s1 Z H1 _ I1 q1) fun u s2 ⟨x,H2,I2,rx,a,ov,ex,g,q2⟩=>?_;subst ex;obtain rfl:u=Value.ref a:=rx;exact Zqh hu I2 g ry fun s3 I3=>⟨.bl (!ov.isSome),H2,I3,rfl,q2⟩
def iz(hu:X.A.units+1<cLine)(ho:PE X o td)(hi:PE X i ty)(hv:PE X value tv)(hs:swapsWith value (some (.Subscript o i pos')) pos.line X.env=pure false) :
  PS X (.Assign [.Subscript o i pos'] value pos) (mU td ty tv):=by
 intro pins s Z H D I h;refine wpAny_Assign_Subscript (thn (hv pins s Z H _ I h) fun r s1 ⟨v,H1,I1,rv,q1⟩=>thn (ho pins s1 Z H1 _ I1 q1) fun u s2 ⟨x,H2,I2,rx,q2⟩=>thn (hi pins s2 Z H2 _ I2 q2) fun iv s3 z0_=>?_) hs;obtain⟨y,H3,I3,ry,a,H4,ex,g,q3⟩:=z0_;subst ex;obtain rfl:u=Value.ref a:=rx;exact Zml hu I3 g ry rv fun s4 I4=>⟨Z,H4,I4,q3⟩
end
def ZnI{P:Program}{w:World}(h:Heap)(hb:sysModules<h.objs.size):ObjOk P w H (h.push { cls:=.type "dict",data:=.dict #[] }) h.objs.size (.dK []) :=
 ⟨bO _,lq.mpr (Ne.symm (bZ hb)),[],.nil,Heap.DictOf.new h⟩
def ZnH{P:Program}{w:World}(h:Heap)(hb:sysModules<h.objs.size):ObjOk P w H (h.push { cls:=.type "dict",data:=.dict #[] }) h.objs.size (.dT []) :=
 ⟨bO _,lq.mpr (Ne.symm (bZ hb)),[],.nil,_,#[],0,ca _ rfl,⟨rfl,rfl,rfl⟩,rfl,rfl,fL⟩
def oI:TE:=fun _ H Q=>∀ p,H p=none->Q (.ref p) (upd H p (.dK []))
def uZ:TE:=fun _ H Q=>∀ p,H p=none->Q (.ref p) (upd H p (.dT []))
section
variable{X:Cx}
def kr:PE X (.Dict [] [] pos) oI:=fun pins s Z H Q I h =>
 wpAny_Dict_empty ⟨.ref s.heap.objs.size,_,I.laid (a:=s.heap.objs.size) (o:=.dK []) (t':=s.toks) (fun _ _ q=>br _ q) (aE _) (ZnI s.heap I.big),rfl,h _ (I.hok.fresh (aE _))⟩
def sD:PE X (.Dict [] [] pos) uZ:=fun pins s Z H Q I h =>
 wpAny_Dict_empty ⟨.ref s.heap.objs.size,_,I.laid (a:=s.heap.objs.size) (o:=.dT []) (t':=s.toks) (fun _ _ q=>br _ q) (aE _) (ZnH s.heap I.big),rfl,h _ (I.hok.fresh (aE _))⟩
end
structure M2(X:Cx)(o:Expr)(m:Str)(apos:Pos)(e f:Expr)(cpos:Pos):Prop where
 base:attributeBase o m X.env (eval o X.env)=eval o X.env
 few:((backTo cpos (starEach [e,f] X.env)).all (fun x=>!x.1)&&(backToKw cpos (keywordEach [] X.env)).all (fun x=>x.1.isSome)
 &&decide (([e,f]:List Expr).length+([]:List Keyword).length+(if ([]:List Keyword).isEmpty then 0 else 1)<30))=true
 line:(apos.endLine == cpos.line)=true
 trees:backTo cpos (starEach [e,f] X.env)=[(false,eval e X.env),(false,eval f X.env)]
def IsD(H:Hp)(a:Addr):Prop:=(∃ kvs,Rd H a (.dK kvs))\/∃ kvs,Rd H a (.dT kvs)
def o9{X:Cx}{s:Shared}(I:Inv X pins Z H s)(d:IsD H a) :
  s.TypeIs (.ref a) "dict"/\(∀ b,Value.ref a=.ref b->∃ ob,s.heap.get? b=some ob/\ob.dict=none)/\(a == sysModules)=false:=by
 rcases d with ⟨kvs,e⟩|⟨kvs,e⟩
 .obtain ⟨_,hd,vs,_,dd⟩:=jS I.hok e;refine⟨dd.typeIs,fun b q=>?_,hd⟩;cases q;obtain⟨ob,_,_,h1,h2,_⟩:=dd;exact⟨ob,h1,h2.2.1⟩
 .obtain ⟨_,hd,xs,_,dd⟩:=jx I.hok e;refine⟨dd.typeIs,fun b q=>?_,hd⟩;cases q;obtain⟨ob,_,_,h1,h2,_⟩:=dd;exact⟨ob,h1,h2.2.1⟩
section
variable{X:Cx}{s:Shared}{d:V}{r:Value}{o:Option V}
def d_get2{Q:Value->Shared->Prop}(hu:A.units+1<cLine)(I:Inv X pins Z H s)(g:DGet H a y o)(ry:RelV y u)(rd:RelV d r)(h:∀ w' s',Inv X pins Z H s'->RelV (o.getD d) w'->Q w' s') :
  wpAny (model X.prog X.w) A (call (.builtin "dict.get") [.ref a,u,r]) Q E s:=by
 rcases g with ⟨kvs,k,e,ey,l⟩|⟨kvs,k,b,e,ey,eb,l⟩
 .subst ey;obtain⟨z,hd,vs,rel,dd⟩:=jS I.hok e;refine call_meetsIn PySem.F.slot_dict_get dd.typeIs PySem.F.entry_dict_get (PySem.F.args_dict_get_3 _ _ _) (meets_dict_get_default (cN X.prog X.w) a (hV ry) hd r) ⟨_,dd.mapOf,h _ _ (I.tok _) ?_⟩;rw[l];exact(rel.val k).getD rd
 .subst ey;cases (show u=Value.ref b from ry);obtain⟨z,hd,xs,rel,dd⟩:=jx I.hok e;refine call_meetsIn PySem.F.slot_dict_get dd.typeIs PySem.F.entry_dict_get (PySem.F.args_dict_get_3 _ _ _) (meetsH_dict_get_default (tupleKind (cN X.prog X.w)) a b hd r) ⟨nO hu,k,xs,kE I.hok eb,dd,h _ _ (I.tok _) ?_⟩;rw[l];exact(rel.val k).getD rd
end
def sM(td ty tx:TE):TE:=fun Z H Q=>td Z H fun x H1=>∃ a,x=.ref a/\IsD H1 a/\ty Z H1 fun y H2=>tx Z H2 fun z H3=>∃ o,DGet H3 a y o/\Q (o.getD z) H3
section
variable{X:Cx}{o f:Expr}{cpos:Pos}{tx:TE}
def t5(hu:X.A.units+1<cLine)(ho:PE X o td)(he:PE X e ty)(hf:PE X f tx)(m:M2 X o "get" apos e f cpos):PE X (.Call (.Attribute o "get" apos) [e,f] [] cpos) (sM td ty tx):=by
 intro pins s Z H Q I h;refine wpAny_Call_method m.base m.few m.line PySem.F.plainAttrs_dict PySem.F.slot_dict_get PySem.F.type_dict_get (thn (ho pins s Z H _ I h) fun u s1 z0_=>?_);obtain⟨x,H1,I1,rx,a,ex,d,q1⟩:=z0_;subst ex;obtain rfl:u=Value.ref a:=rx;obtain⟨t1,t2,_⟩:=o9 I1 d;refine⟨t1,t2,?_⟩;rw[m.trees];refine rf rfl (Calls.evalArgs_plain (lv (thn (he pins s1 Z H1 _ I1 q1) fun iv s2 ⟨y,H2,I2,ry,q2⟩ =>
  lv (thn (hf pins s2 Z H2 _ I2 q2) fun fv s3 ⟨z,H3,I3,rz,ov,g,q3⟩=>nL ?_))))
 exact d_get2 hu I3 g ry rz fun w' s4 I4 rw'=>⟨_,H3,I4,rw',q3⟩
end
end L2
namespace Att
open PySem PySem.W PySem.Calls PyProof.Rows
def Ze9{P:Params}{h:Heap}:∀ (ns:List Int) (vs:List Value),WellAll P h vs (ns.map WData.int)->IntsAre vs ns:=by
 intro ns
 induction ns with
 | nil =>
  intro vs w;rw[gc] at w;cases w;exact .nil
 | cons n ns ih =>
  intro vs w;rw[aP] at w;cases w with
  | cons a b =>
   cases a;exact .cons _ _ (ih _ b)
def Zk0{l:OpenLaw}(hn:l.most=some n){P:Params}{h:Heap}{args:List WData}{vals:List Value}
  (hpre:l.row.toRowW.claim.pre args=true) (hwl:WellAll P h vals args) :
  ∃ a vs ns,vals=[Value.ref a]/\args=[WData.list (ns.map WData.int)]/\h.get? a=some { cls:=.type "list",data:=.seq vs.toArray }/\IntsAre vs ns/\ns.length<=n:=by
 have hsh:WShape.hasAll [] args [.list .int]=true:=(pre_splitW hpre).1;have hc:l.pre.holds [] { args:=args }=true:=(pre_splitW hpre).2;obtain⟨d,r,rfl,h1,h2⟩:=hasAllW_cons hsh;obtain rfl:=hasAllW_nil h2;obtain⟨xs,rfl,h3⟩:=hasW_list h1;obtain⟨ns,rfl⟩:=items_int h3;have hlen:ns.length<=n:=by
  unfold OpenLaw.pre at hc;have h4:(WTm.not (.lt (.lit (.int (n:Int))) (.len (.arg 0)))).holds [] { args:=[.list (ns.map .int)] }=true:=by
   have h4:=(holds_andW hc).1;rw[hn] at h4;exact h4
  have h5:=condW_of h4 (w_not (w_lt w_lit (w_len_list (w_arg rfl))));rw[af] at h5;refine rh fun q=>?_;have q':(n:Int)<((ns.length:Nat):Int):=by lia
  first
   | (rw[aX q'] at h5;exact absurd h5 (by decide))
   | (simp at h5;lia)
 cases hwl with
 | cons w1 w2 =>
  cases w2;cases w1 with
  | list ho hall=>exact⟨_,_,ns,rfl,rfl,ho,Ze9 ns _ hall,hlen⟩
def Zls(l:OpenLaw)(args:List WData):l.row.toRowW.claim.post args (.bool true) args=true :=
 postW_of (r:=l.row.toRowW) (X:=(true == true))
  (show WShape.has [] (.bool true) .bool=true by first|rfl|decide|simp[WShape.has,WShape.arms,WShape.armsAll])
  (show (WTm.eq .res (.lit (.bool true))).value [] { args:=args,res:=some (.bool true),after:=args }=some (.bool (true == true)) from w_eq_bool (w_res rfl) w_lit) rfl
def attach_call{l:OpenLaw}{q:Program}{XP:(Str->Option Value)->Heap->Prop}{YP:World->Heap->Prop}{d:DefRec}
  (hn:l.most=some n) (hdf:d.params.defaults=[])
  (call:∀ (w:World) (s₀ s₁:Shared) (mg mb:Str->Option Value) (fa:Addr) (o:Obj) (pm cd doc:Value) (a:Addr) (vs:List Value) (ns:List Int),
   Ground q loose [] XP w s₀ mg mb s₁.heap->YP w s₁.heap ->
   s₁.heap.get? fa=some o->o.data=.func (docDef d.name d.params d.body d.scope pm cd doc)->s₁.heap.CodeRec cd d.name->mg d.name=some (.ref fa) ->
   s₁.heap.get? a=some { cls:=.type "list",data:=.seq vs.toArray }->IntsAre vs ns->ns.length<=n->s₁.gens=#[] ->
   codeAny (model l.prog w) callerA (.call (.ref fa) ⟨[.ref a],[]⟩) (fun r s'=>r=.ok (.ret (.bool true))/\OldK s₁.heap s'.heap/\s'.os=s₁.os/\AllBare s'.gens) s₁) :
  WalkO q loose XP YP l.row.toRowW d [] (fun f vs=>PySem.call f vs):=by
 intro w s₀ s₁ mg mb G Y fa o pm cd doc dV kV ho hd hcd hD hmg hg args vals as hpre hlay hrd hwl hlo;obtain rfl:dV=.none:=Dflts.none hD hdf;obtain rfl:kV=.none:=Dflts.noKw hD;obtain⟨a,vs,ns,rfl,rfl,hobj,hints,hlen⟩:=Zk0 hn hpre hwl;refine enter_call (lz (call w s₀ s₁ mg mb fa o pm cd doc a vs ns G Y ho (fd_plain hd) hcd hmg hobj hints hlen hg) fun r s' hq=>?_);obtain⟨rfl,h2,h3,h4⟩:=hq;exact⟨.inl ⟨.bool true,.bool true,[],rfl,fun _=>rfl,.bool true,Zls l _,fun _=>⟨List.Pairwise.nil,fun _ hm=>(nomatch hm)⟩⟩,h2,h3,h4⟩
section
variable{w:World}{s:Shared}{K:Frag}
def ledger(h:Heap)(L d:Addr):List (Addr×Obj):=(List.range h.objs.size).filterMap fun a=>if a=L\/a=d then none else (h.get? a).map fun o=>(a,o)
end
end Att
namespace L2
variable{ys vs:List L2.V}{H H' H1 H2:L2.Hp}{Z:L2.St}{ta te tc to tl td ty tv:L2.TE}{y:L2.V}{g:L2.TG}{wi:L2.TI}{sp:L2.Sp}{kvs:List (List L2.Key×L2.V)}{ks:List L2.Key}{tr:L2.TA}
open PySem PySem.Spec PyProof.Rows
theorem vD:∀ {vs:List Value} {ns:List Int},IntsAre vs ns->Vals (ns.map V.int) vs
 | _,_,.nil=>.nil
 | _,_,.cons n t h=>.cons ⟨t,rfl⟩ (vD h)
def Only(H:Hp):Prop:=∀ b,H b=none\/∃ o xs,H b=some (.frz o (.lst xs))
def Znt{P:Program}{w:World}{K:W.Frag}{mg mb:Str->Option Value}{CX:CXT}{k:Nat}{fa:Addr}{fd:FuncData}{sp:Sp}{s₁:Shared}{vs:List Value}{ns:List Int}
  (KX:K.In s₁.heap) (hns:s₁.heap.Ns mainGlobals mg) (hb:s₁.heap.Ns builtinsNs mb) (hbb:∀ x:Str,x≠"__name__"->mb x=bootBuiltins x) (hlim:s₁.heap.NoLimit) (hg:s₁.gens=#[])
  (ha:s₁.heap.get? a=some { cls:=.type "list",data:=.seq vs.toArray }) (hi:IntsAre vs ns) (hl:ns.length<=sizeLine) (hr:Room k callerA)
  (F:∀ base:Heap,K.In base->base.Ns mainGlobals mg->FnOk P w K mg base CX k fa fd [x] sp) (hbind:∀ (s:Shared) (u:Value),BindsTo s fd ⟨[u],[]⟩ [(x,u)])
  (hsp:∀ H:Hp,Only H->SqL K H a (ns.map V.int)->sp [.ref a] H (fun v _=>v=.bl true) fun _ _ _=>False)
  (hCX:∀ H e s',CX [] H s₁ (fun _ _ _=>False) e s'->False) :
  codeAny (model P w) callerA (.call (.ref fa) ⟨[.ref a],[]⟩) (fun r s'=>r=.ok (.ret (.bool true))/\OldK s₁.heap s'.heap/\s'.os=s₁.os/\AllBare s'.gens) s₁:=by
 have rv:=vD hi;have lenV:=hi.length;have core:∀ H:Hp,Only H->SqL K H a (ns.map V.int)->HOk P w H s₁.heap->(∀ b,H b≠none->b=a)->(H a≠none->K.lookup a=none) ->
   codeAny (model P w) callerA (.call (.ref fa) ⟨[.ref a],[]⟩) (fun r s'=>r=.ok (.ret (.bool true))/\OldK s₁.heap s'.heap/\s'.os=s₁.os/\AllBare s'.gens) s₁:=by
  intro H hO hS hok hA hK;have base_of:∀ {b:Addr} {o:Obj},s₁.heap.get? b=some o->H b=none->(hidT s₁.heap H).get? b=some o:=fun e n=>Znz e n;have noA:∀ {b:Addr} {o:Obj} {es:Array DictEntry} {ep:Nat},s₁.heap.get? b=some o->o.data=.dict es ep->H b=none:=fun {b o es ep} e d=>by
   cases q:H b with
   | none=>rfl
   | some u =>
    have e':b=a:=hA b (by rw[q];simp);subst e';rw[ha] at e;cases e;have d':Data.seq vs.toArray _=Data.dict es ep:=d;cases d'
  have nsK:∀ {b:Addr} {m:Str->Option Value},s₁.heap.Ns b m->(hidT s₁.heap H).Ns b m:=fun {b m} ⟨o,es,ep,e,d,r⟩=>⟨o,es,ep,base_of e (noA e d),d,r⟩;have hKb:K.In (hidT s₁.heap H):=fun b o e=>base_of (KX b o e) (by
   cases q:H b with
   | none=>rfl
   | some u =>
    have e':b=a:=hA b (by rw[q];simp);subst e';rw[hK (by rw[q];simp)] at e;cases e)
  have hM:Mod K mg (hidT s₁.heap H):=⟨hKb,nsK hns,⟨mb,nsK hb,hbb⟩,let ⟨mc,h1,h2⟩:=hlim;⟨mc,nsK h1,h2⟩⟩;have e0:Env0 P w K mg (hidT s₁.heap H) callerA [] s₁ H:=⟨rfl,hM,fun b o e=>ZpR e,iF (Zl4 _ _),trivial,fun b hb=>absurd (show b∈([]:List Addr) from hb) (by simp),hok,.of_eq hg⟩;refine lz ((F _ hKb (nsK hns)).run callerA [] s₁ H ⟨[.ref a],[]⟩ [.ref a] [.ref a] _ _ hr e0 (hbind s₁ (.ref a)) (.cons rfl .nil) (hsp H hO hS)) fun r s' h=>?_;cases r with
  | error e=>exact(hCX H e s' h).elim
  | ok fl =>
   cases fl with
   | next=>exact False.elim h
   | brk=>exact False.elim h
   | cont=>exact False.elim h
   | ret u =>
    obtain⟨v,H',os,bare,un,hok',r',q⟩:=h;have q':v=.bl true:=q;subst q';obtain rfl:u=Value.bool true:=r';refine⟨rfl,OldK.of_keep fun b o e=>?_,os,bare⟩;cases q:H b with
    | none=>exact un.keep b o e q (by intro z;exact absurd (show b∈([]:List Addr) from z) (by simp)) (by simp)
    | some u =>
     rcases hO b with z|⟨ob,xs,z⟩
     .rw[q] at z;cases z
     .have z2:=un.frzs b ob _ z;obtain⟨e1,_⟩:=hok b _ z;obtain⟨e2,_⟩:=hok' b _ z2;rw[e] at e1;cases e1;exact e2
 cases hk:K.lookup a with
 | some o =>
  have e:=KX a o hk;rw[ha] at e;cases e;refine core (fun _=>none) (fun _=>.inl rfl) (.inr ⟨_,vs.toArray,_,hk,rfl,rfl,rfl,by rw[bT,lenV];exact hl,by simpa using rv⟩) (fun b u z=>by have z':(none:Option HO)=some u:=z;cases z') (fun b z=>absurd rfl z) fun z=>absurd rfl z
 | none =>
  refine core (fun b=>if b=a then some (.frz { cls:=.type "list",data:=.seq vs.toArray } (.lst (ns.map V.int))) else none) (fun b=>?_) (.inl (.inr ⟨{ cls:=.type "list",data:=.seq vs.toArray },am rfl⟩)) (fun b u z=>?_) (fun b z=>?_) fun _=>hk
  .by_cases hb:b=a
   .exact .inr ⟨_,_,am hb⟩
   .exact .inl (ao hb)
  .by_cases hb:b=a
   .have z':=(am hb).symm.trans z;cases z';subst hb;exact⟨ha,by rw[af];exact hl,vs,_,rv,ha⟩
   .have z':=(ao hb).symm.trans z;cases z'
  .by_cases hb:b=a
   .exact hb
   .exact absurd (ao hb) z
end L2
namespace L2
variable{ys vs:List L2.V}{H H' H1 H2:L2.Hp}{Z:L2.St}{ta te tc to tl td ty tv:L2.TE}{y:L2.V}{g:L2.TG}{wi:L2.TI}{sp:L2.Sp}{kvs:List (List L2.Key×L2.V)}{ks:List L2.Key}{tr:L2.TA}
open PySem PySem.Spec PyProof.Rows
abbrev KOf{K:W.Frag}{h:Heap}(_:K.In h):W.Frag:=K
def Zo7{l:PySem.W.OpenLaw}{k:Nat}{q:Program}{XP:(Str->Option Value)->Heap->Prop}{YP:World->Heap->Prop}{d:DefRec}{K:Params->W.Frag}{CX:World->CXT}{sp:World->Sp}
  (hn:l.most=some n) (hn2:n<=sizeLine) (hdf:d.params.defaults=[]) (hr:Room k callerA)
  (hY:∀ (w:World) (h:Heap),YP w h->(K w.params).In h)
  (F:∀ (w:World) (mg:Str->Option Value) (fa:Addr) (h:Heap),(K w.params).In h->h.Ns mainGlobals mg->mg d.name=some (.ref fa) ->
   ∃ fd:FuncData,(∀ (s:Shared) (u:Value),BindsTo s fd ⟨[u],[]⟩ [(x,u)]) /\
    ∀ base:Heap,(K w.params).In base->base.Ns mainGlobals mg->FnOk l.prog w (K w.params) mg base (CX w) k fa fd [x] (sp w))
  (hsp:∀ (w:World) (H:Hp) (a:Addr) (ns:List Int),ns.length<=n->Only H->SqL (K w.params) H a (ns.map V.int)->sp w [.ref a] H (fun v _=>v=.bl true) fun _ _ _=>False)
  (hCX:∀ (w:World) (H:Hp) (s:Shared) (e:Value) (s':Shared),CX w [] H s (fun _ _ _=>False) e s'->False) :
  PySem.W.WalkO q loose XP YP l.row.toRowW d [] (fun f vs=>PySem.call f vs):=by
 refine Att.attach_call hn hdf fun w s₀ s₁ mg mb fa o pm cd doc a vs ns G Y ho hd hcd hmg hobj hints hlen hg=>?_;have KX:=hY w _ Y;obtain⟨fd,hb,hF⟩:=F w mg fa _ KX G.T.g hmg;exact Znt KX G.T.g G.T.b G.T.builtins G.T.nolimit hg hobj hints (bo hlen hn2) hr hF hb (fun H hO hS=>hsp w H a ns hlen hO hS) fun H e s'=>hCX w H s₁ e s'
end L2
namespace L2
variable{ys vs:List L2.V}{H H' H1 H2:L2.Hp}{Z:L2.St}{ta te tc to tl td ty tv:L2.TE}{y:L2.V}{g:L2.TG}{wi:L2.TI}{sp:L2.Sp}{kvs:List (List L2.Key×L2.V)}{ks:List L2.Key}{tr:L2.TA}
open PySem PySem.Spec PyProof.Rows
noncomputable def fW(s:Stmt):Arguments:=match s with
 | .FunctionDef _ a _ _ _ _ _ _ _ _=>a
 | _=>{ posonlyargs:=[],args:=[],vararg:=none,kwonlyargs:=[],kw_defaults:=[],kwarg:=none,defaults:=[] }
def dO(s:Stmt):List Stmt:=match s with
 | .FunctionDef _ _ b _ _ _ _ _ _ _=>b
 | _=>[]
def bG(s:Stmt):Scope:=match s with
 | .FunctionDef _ _ _ _ _ _ sc _ _ _=>sc
 | _=>{ kind:=.function,names:=[],isGenerator:=false,isCoroutine:=false }
abbrev CX0:CXT:=fun _ _ _ _ _ _=>False
abbrev E0:XK:=fun _ _ _=>False
def pass0{X:Cx}:qH CX0 X E0:=fun _ _ _ _ _ _ _ h=>h.elim
structure Fun(K:W.Frag)(x qual:Str)(st:Stmt)(f:Addr)(fd:FuncData):Prop where
 ex:∃ (oc:Value) (od:Option Addr) (kV doc pm:Value) (an:Option Addr) (cdv ct:Value) (osl:Array (Option Value)),
  fd=PySem.W.fnOf x qual (fW st) (dO st) (bG st) .none kV doc pm an cdv ct/\K.lookup f=some ⟨oc,od,.func fd,osl⟩/\PySem.W.codeIn K cdv qual=true
 kp:PySem.W.keepIn K (.ref f)=true
section
variable{P:Program}{w:World}{K:W.Frag}{mg:Str->Option Value}{base:Heap}
def Fun.ok{st:Stmt}{f:Addr}{N ps:List Str}{k:Nat}(F:Fun K x qual st f fd)(S:FnScope N ps (bG st))(len:∀ vs H Q E,sp vs H Q E->vs.length=ps.length)
  (hbody:∀ (cdv:Value) (A:Around) (outer:List Env) (s:Shared) (H:Hp) (vs:List V) (Q:VK) (E:XK),Room k (A.deeper (envOfC qual (bG st) s.heap.objs.size f cdv))->sp vs H Q E ->
   ∃ t,PSs (cxOf CX0 P w K mg base N qual (bG st) f cdv A outer s H E).nox (dO st) t/\t { nx:=fun _ H'=>Q .non H',rt:=Q } (start N vs) H):FnOk P w K mg base CX0 (k+1) f fd ps sp:=by
 obtain⟨oc,od,kV,doc,pm,an,cdv,ct,osl,rfl,lk,hcd⟩:=F.ex;refine fn_of lk hcd S len fun A outer s H vs Q E hr hsp=>?_;obtain⟨t,h,q⟩:=hbody cdv A outer s H vs Q E hr hsp;exact⟨t,h.nox,q⟩
def Fun.binds{st:Stmt}{f:Addr}{ps:List Str}(F:Fun K x qual st f fd)
  (h:∀ (kV doc pm:Value) (an:Option Addr) (cdv ct:Value) (us:List Value),us.length=ps.length->bindArgs (PySem.W.fnOf x qual (fW st) (dO st) (bG st) .none kV doc pm an cdv ct) ⟨us,[]⟩=pure (ps.zip us)):Binds K fd ps []:=by
 obtain⟨oc,od,kV,doc,pm,an,cdv,ct,osl,rfl,lk,hcd⟩:=F.ex;exact .all (h kV doc pm an cdv ct)
def fj{st:Stmt}{f:Addr}{oc:Value}{od an:Option Addr}{osl:Array (Option Value)}{kV doc pm cdv ct:Value}(l:K.lookup f=some ⟨oc,od,.func (PySem.W.fnOf x qual (fW st) (dO st) (bG st) .none kV doc pm an cdv ct),osl⟩)
  (c:PySem.W.codeIn K cdv qual=true) (k:PySem.W.keepIn K (.ref f)=true):Fun K x qual st f (PySem.W.fnOf x qual (fW st) (dO st) (bG st) .none kV doc pm an cdv ct):=⟨⟨oc,od,kV,doc,pm,an,cdv,ct,osl,rfl,l,c⟩,k⟩
end
def jO{k:Nat}(hr:Room k A):A.units+1<cLine:=jk (nP (by decide:1<=64) _) hr.units
section
variable{X:Cx}
def pv(i:Nat){pos:Pos}(hN:X.N[i]?=some x:=by rfl)(hv:Vis X.env.scope x:=by first|exact Or.inl rfl|exact Or.inr (Or.inl rfl)|exact Or.inr (Or.inr rfl))(hd:(x == ("__debug__":Str))=false:=by decide)
  (hcd:(x == ("__classdict__":Str))=false:=by decide):PE X (.Name x pos) (tVar i):=pe_var hN hv hd hcd
end
def iteF{A B:Prop}(h:B):if false=true then A else B:=by
 rw[ao bL];exact h
def iteT{A B:Prop}(h:A):if true=true then A else B:=by
 rw[am rfl];exact h
def iteNS{c A B:Prop}[Decidable c](hc:c)(h:B):if (!decide c)=true then A else B:=by
 rw[aX hc];exact iteF h
def Same(H H':Hp):Prop:=∀ b o,H b=some o->H' b=some o
def Same.refl(H:Hp):Same H H:=fun _ _ h=>h
def Same.trans(a:Same H H1)(b:Same H1 H2):Same H H2:=fun c o h=>b c o (a c o h)
def Same.free(e:Same H H'){l:Addr}(h:H' l=Option.none):H l=Option.none:=by
 cases q:H l with
 | none=>rfl
 | some o =>
  rw[e l o q] at h;cases h
def Same.seq{K:W.Frag}{xs:List V}(e:Same H H')(h:SqL K H a xs):SqL K H' a xs:=by
 rcases h with (h|⟨o,h⟩)|h
 .exact .inl (.inl (e _ _ h))
 .exact .inl (.inr ⟨o,e _ _ h⟩)
 .exact .inr h
section
variable{κ:Type}[DecidableEq κ]
theorem xz : ∀ {l : List κ} {k : κ}, l.Nodup->¬ k∈l->(l++[k]).Nodup
  | [], k, _, _=>by simp
  | a :: r, k, h, hk => by
    obtain⟨h1,h2⟩:=eh.mp h;show (a::(r++[k])).Nodup;refine eh.mpr ⟨fun m=>?_,xz h2 fun m=>hk (aI.mpr (Or.inr m))⟩;rcases aR.mp m with q|q
    . exact h1 q
    . exact hk (aI.mpr (Or.inl (aK.mp q).symm))
end
end L2
end
variable{ys vs:List L2.V}{H H' H1 H2:L2.Hp}{Z:L2.St}{ta te tc to tl td ty tv:L2.TE}{y:L2.V}{g:L2.TG}{wi:L2.TI}{sp:L2.Sp}{kvs:List (List L2.Key×L2.V)}{ks:List L2.Key}{tr:L2.TA}
section
namespace L2
def opq{p:Prop}(h:let g:Prop:=p;g):p:=h
open PySem PySem.Spec PyProof.Rows
def oV(env : Env) : ∀ (names : List (Str×NameKind)) (acc : List (Str×Addr)),
    (∀ y∈names,y.2=.free->∃ c,env.cells.lookup y.1=some c) ->
    ∃ cl : List (Str × Addr), (forIn names acc fun (x : Str × NameKind) (r : List (Str × Addr)) => (match x with
        | (name, kind) => if (kind == NameKind.free) = true then do
            let a <- cellOf env name
            pure (ForInStep.yield ((name,a)::r))
          else pure (ForInStep.yield r):Sem (ForInStep (List (Str×Addr)))))=(pure cl:Sem (List (Str×Addr))) /\
      (∀ x c,cl.lookup x=some c->acc.lookup x=some c\/env.cells.lookup x=some c) /\
      (∀ x,(acc.lookup x).isSome=true\/(x,NameKind.free)∈names->(cl.lookup x).isSome=true)
  | [], acc, _=>⟨acc, by simp, fun x c h=>.inl h, fun x h=>h.elim id fun z=>nomatch z⟩
  | (n, k) :: r, acc, h => by
    by_cases hk:k=.free
    . subst hk
      obtain⟨c,hc⟩:=h (n,.free) aQ rfl;obtain⟨cl,e,h1,h2⟩:=oV env r ((n,c)::acc) fun y hy=>h y (bD _ hy);refine⟨cl,?_,fun x c' z=>?_,fun x z=>?_⟩
      . rw[j5]
        have q:cellOf env n=pure c:=by unfold cellOf;rw[hc]
        simp only[q,nQ,fZ,pure_bind];exact e
      . rcases h1 x c' z with z | z
        . rw[lG] at z
          by_cases hx:x=n
          . subst hx
            simp at z;subst z;exact .inr hc
          . have hb : (x == n) = false := by simpa using hx
            rw[hb] at z;exact .inl z
        . exact .inr z
      . refine h2 x ?_
        rw[lG];by_cases hx:x=n
        . subst hx
          left;simp
        . have hb : (x == n) = false := by simpa using hx
          rw[hb];rcases z with z|z
          . exact .inl z
          . rcases aI.mp z with z | z
            . cases z
              exact absurd rfl hx
            . exact .inr z
    . obtain ⟨cl, e, h1, h2⟩ := oV env r acc fun y hy => h y (bD _ hy)
      refine⟨cl,?_,h1,fun x z=>h2 x ?_⟩
      . rw[j5]
        have hb:(k == NameKind.free)=false:=by simpa using hk
        simp only[hb,dA,cI,pure_bind];exact e
      . rcases z with z | z
        . exact .inl z
        . rcases aI.mp z with z | z
          . cases z
            exact absurd rfl hk
          . exact .inr z
def v7{scope:Scope}{env:Env}(h:∀ y∈scope.names,y.2=.free->∃ c,env.cells.lookup y.1=some c) :
  ∃ cl,closureFor scope env=pure cl/\(∀ x c,cl.lookup x=some c->env.cells.lookup x=some c)/\∀ x,(x,NameKind.free)∈scope.names->∃ c,cl.lookup x=some c:=by
 obtain⟨cl,e,h1,h2⟩:=oV env scope.names [] h;refine⟨cl,?_,fun x c z=>(h1 x c z).elim (fun q=>by simp at q) id,fun x z=>lA.mp (h2 x (.inr z))⟩;unfold closureFor;dsimp only;rw[e];rfl
structure BkScope(N:List Str)(sc osc:Scope)(LN FN:List Str)(fr:List Nat):Prop where
 kind:sc.kind=.function
 nocell:∀ y∈sc.names,y.2≠.cell
 names:∀ x∈sc.names,x.2=.local->sc.names.lookup x.1=some .local
 free:∀ y∈sc.names,y.2=.free->osc.names.lookup y.1=some .cell\/osc.names.lookup y.1=some .free
 fnk:∀ x∈FN,osc.names.lookup x=some .cell\/osc.names.lookup x=some .free
 fnf:∀ x∈FN,sc.names.lookup x=some .free
 at':FN.map some=fr.map fun j=>N[j]?
def BkScope.place{N:List Str}{osc:Scope}(S:BkScope N sc osc LN FN fr){k:Nat}(e:FN[k]?=some x):∃ j:Nat,fr[k]?=some j/\N[j]?=some x:=by
 have h:=congrArg (fun l=>l[k]?) S.at';simp only[ak,e,gh] at h;cases q:fr[k]? with
 | none=>rw[q] at h;cases h
 | some j =>
  rw[q] at h;exact⟨j,rfl,(Option.some.inj h).symm⟩
def BkScope.frl{N:List Str}{osc:Scope}(S:BkScope N sc osc LN FN fr):fr.length=FN.length:=by
 have h:=congrArg List.length S.at';simpa using h.symm
def gP(LN:List Str)(fr:List Nat)(Z:St):St:=List.replicate LN.length none++fr.map fun j=>(Z[j]?).getD none
noncomputable def bkCx(X:Cx)(LN FN:List Str)(sc:Scope)(cl:List (Str×Addr))(C:Addr)(fp:List Addr)(pins:List (Addr×Obj))(s:Shared)(H:Hp):Cx :=
 { X with N:=LN++FN,s₀:=s,H₀:=H,env:=compEnvC sc cl C X.env,outer:=X.stack,ex:=fp,fn:=fun _=>false,pn:=X.pn++pins,xe:=fun _ _=>False }
theorem qS{env : Env} : ∀ {names : List (Str×NameKind)} {x : Str} {k : NameKind},
    (names.map fun(n,k)=>if (k == NameKind.free&&env.scope.kind == .function&&env.kindOf n == some .cell) then (n,NameKind.cell) else (n,k)).lookup x=some k ->
    names.lookup x=some k\/(names.lookup x=some .free/\k=.cell)
  | [], _, _, h=>by simp at h
  | (n, j) :: r, x, k, h => by
    have ih:=@qS env r x k;have h:List.lookup x ((if (j == NameKind.free&&env.scope.kind == .function&&env.kindOf n == some .cell)=true then (n,NameKind.cell) else (n,j))::_)=some k:=h;rw[lG];by_cases hc:(j == NameKind.free&&env.scope.kind == .function&&env.kindOf n == some .cell)=true
    . rw[am hc, lG] at h
      cases hx:x == n with
      | true =>
        rw[hx] at h;simp only[iE,beq_iff_eq] at hc;have hk:NameKind.cell=k:=by simpa using h
        exact .inr ⟨by simp[hc.1.1],hk.symm⟩
      | false =>
        rw[hx] at h;exact ih h
    . rw[ao hc, lG] at h
      cases hx:x == n with
      | true =>
        rw[hx] at h;exact .inl h
      | false =>
        rw[hx] at h;exact ih h
def ZnQ{X:Cx}{s:Shared}{cl:List (Str×Addr)}{C:Addr}{h':Heap}{tk:Nat}{m:Str->Option Value}
  (I:Inv X pins Z H s) (S:BkScope X.N sc X.env.scope LN FN fr) (hf:∀ b∈fp,FpOk X pins H b) (hfs:∀ b∈fp,∃ o,s.heap.get? b=some o)
  (h1:∀ x c,cl.lookup x=some c->X.env.cells.lookup x=some c) (h2:∀ x,(x,NameKind.free)∈sc.names->∃ c,cl.lookup x=some c)
  (hC:s.heap.objs.size<=C) (hk:∀ b o,s.heap.get? b=some o->h'.get? b=some o) (hn:h'.Ns C m) :
  Inv (bkCx X LN FN sc cl C fp pins s H) [] (gP LN fr Z) H { s with heap:=h',toks:=tk }:=by
 have hsub:∀ b,b∉X.fs->b≠X.env.locals->b∉frs X.stack:=fun b n1 n2 z=>(aI.mp (I.stkSub b z)).elim n2 n1;have hlk:∀ x k,(relabel sc X.env).names.lookup x=some k->(k=.cell\/k=.free)->sc.names.lookup x=some .free:=fun x k e hk=>by
  rcases qS e with q|⟨q,_⟩
  .rcases hk with rfl|rfl
   .exact absurd rfl (S.nocell _ (PySem.mem_of_lookup q))
   .exact q
  .exact q
 refine⟨⟨I.ok.mod,?_,I.ok.glob,I.ok.blt,hC,fun x y c e1 e2=>I.ok.inj x y c (h1 x c e1) (h1 y c e2),fun x hx=>?_,(fun x c z=>absurd z (by intro z;cases z)),I.ok.hd,I.ok.frames,.inl rfl,fun b hb=>⟨?_,fun x c e z=>?_⟩,I.bs,bo I.ok.bsz I.sz,fun b o e hb=>?_,fun b hb=>?_,I.stack,I.stkFree⟩,
  rfl,I.bare,Un.kept hk,⟨m,hn,fun i x v e1 e2 e3=>?_⟩,fun x c e=>?_,?_,fun x c e=>I.freeC x c (h1 x c e),fun p hp=>?_,I.hok.kept hk,?_⟩
 .exact S.kind
 .have hx:(relabel sc X.env).names.lookup x=some .cell\/(relabel sc X.env).names.lookup x=some .free:=hx;rcases hx with hx|hx
  .exact h2 x (PySem.mem_of_lookup (hlk x _ hx (.inl rfl)))
  .exact h2 x (PySem.mem_of_lookup (hlk x _ hx (.inr rfl)))
 .obtain ⟨o,e⟩:=hfs b hb;exact bZ (dy (bn e) hC)
 .exact (hf b hb).2.2.2.2.1 x c (h1 x c e) z
 .obtain ⟨_,_,_,h3,_⟩:=hf b hb;rcases h3 with z|z
  .exact I.ok.noex b o e z
  .exact absurd (dy (bn (I.ok.bs b o e).1) z) (fX _)
 .obtain ⟨_,n1,n2,_⟩:=hf b hb;exact hsub b n2 n1
 .-- the free names' values
  have hi:LN.length<=i:=by
   refine rh fun hlt=>?_;unfold gP at e2;rw[cg (by simpa using hlt),jX] at e2;split at e2 <;> cases e2
  have e1:FN[i-LN.length]?=some x:=by
   have e1:(LN++FN)[i]?=some x:=e1
   rwa [fK hi] at e1
  obtain⟨j,ej,hj⟩:=S.place e1;have e2:(Z[j]?).getD none=some v:=by
   unfold gP at e2;rw[fK (by simpa using hi),iC,ak,ej] at e2;simpa using e2
  have e2:Z[j]?=some (some v):=by
   cases q:Z[j]? with
   | none=>rw[q] at e2;cases e2
   | some z =>
    rw[q] at e2;exact congrArg some e2
  have hkx:=S.fnk x (aF e1);obtain⟨m0,hm0,hl⟩:=I.loc;have hv:Vis X.env.scope x:=hkx.elim (fun z=>.inr (.inl z)) fun z=>.inr (.inr z);obtain⟨u,r,l⟩:=hl j x v hj e2 hv;refine⟨u,r,?_⟩;rcases l with ⟨k1,_⟩|⟨_,c,ec,z⟩
  .have k1:X.env.scope.names.lookup x=some .local:=k1;rcases hkx with q|q <;> rw[q] at k1 <;> cases k1
  .have e3:Vis (relabel sc X.env) x:=e3;rcases e3 with q|q|q
   .-- a block's own name is none of the free ones,unless it shadows: then the kinds say local
    rcases qS q with q'|⟨_,q'⟩
    .rw[S.fnf x (aF e1)] at q';cases q'
    .cases q'
   .obtain ⟨c',ec'⟩:=h2 x (PySem.mem_of_lookup (hlk x _ q (.inl rfl)));have:=h1 x c' ec';rw[ec] at this;cases this;exact .inr ⟨.inl q,c,ec',by obtain⟨o,ho,hd⟩:=z;exact⟨o,hk _ _ ho,hd⟩⟩
   .obtain ⟨c',ec'⟩:=h2 x (PySem.mem_of_lookup (hlk x _ q (.inr rfl)));have:=h1 x c' ec';rw[ec] at this;cases this;exact .inr ⟨.inr q,c,ec',by obtain⟨o,ho,hd⟩:=z;exact⟨o,hk _ _ ho,hd⟩⟩
 .obtain ⟨v,o,ho,hd⟩:=I.cell x c (h1 x c e);exact⟨v,o,hk _ _ ho,hd⟩
 .exact I.hok.fresh hC
 .have hp:p∈(X.pn++pins)++[]:=hp;rw[dR] at hp;obtain⟨e,n,ne,nf,d⟩:=I.pin p hp;exact⟨hk _ _ e,n,bZ (dy (bn e) hC),hsub _ nf ne,d⟩
 .unfold gP;show _=(LN++FN).length;simp[S.frl]
end L2
end
section
namespace L2
open PySem PySem.Spec PyProof.Rows
noncomputable def PTs(X:Cx)(ifs:List Expr)(t:TT):Prop :=
 ∀ (pins:List (Addr×Obj)) (s:Shared) (Z:St) (H:Hp) (Q:Bool->Hp->Prop),Inv X pins Z H s->t Z H Q ->
  wpAny (model X.prog X.w) X.A (forIn ifs true fun c r=>if r=true then do let ok <- isTrue c X.env (eval c X.env);pure (ForInStep.yield ok) else pure (ForInStep.yield r)) (TP X pins Z Q) X.xe s
def iV:TT:=fun _ H Q=>Q true H
def dI{X:Cx}:PTs X [] iV:=fun _ _ _ H _ I h=>wpAny_tests_nil ⟨H,I,h⟩
def wH{X:Cx}{c:Expr}{t:TT}(h:PT X c t):PTs X [c] t:=fun pins s Z H Q I q=>wpAny_tests_one (h pins s Z H Q I q)
def Un.track{fs ex:List Addr}{h h1:Heap}{o:HO}(u:Un fs ex H H1 h h1)(hp:h.objs.size<=a)(hn:H a=none):Un fs ex H (upd H1 a o) h h1 where
 keep:=u.keep
 slot:=u.slot
 free:=fun b ob q n hx=>by
  rw[bC (bZ (dy (bn q) hp))];exact u.free b ob q n hx
 there:=u.there
 tups:=fun b xs q=>by
  rw[bC (fun z=>by rw[z,hn] at q;cases q)];exact u.tups b xs q
 frzs:=fun b ob x q=>by
  rw[bC (fun z=>by rw[z,hn] at q;cases q)];exact u.frzs b ob x q
 tbls:=fun b ps q=>by
  rw[bC (fun z=>by rw[z,hn] at q;cases q)];exact u.tbls b ps q
def HOk.track{P:Program}{w:World}{h:Heap}{o:HO}(x:HOk P w H h)(hn:H a=none)(new:ObjOk P w (upd H a o) h a o):HOk P w (upd H a o) h:=fun b u e=>by
 by_cases hb:b=a
 .subst hb;rw[bP] at e;cases e;exact new
 .rw[bC hb] at e;refine (x b u e).stay (fun _ _ _ q=>q) (fun c q=>?_) fun c xs q=>?_
  .rw[bC (fun z=>by rw[z,hn] at q;cases q)];exact q
  .rw[bC (fun z=>by rw[z,hn] at q;cases q)];exact q
def Zkd{EB:Value->Shared->Prop}{w:World}{R:Result->Shared->Prop}{s:Shared}{elt target iter:Expr}{ifs:List Expr}{scope:Scope}{it acc:Value}{env:Env}(I:Nat->Shared->Prop)
  (turn:∀ n s,I n s->wpAny (model prog w) A (pyNext it) (fun r s₁=>match r with
   | none=>R (.ok .next) s₁
   | some v=>wpAny (model prog w) A (letOwnedTupleGo target it v) (fun _ s₁'=>wpAny (model prog w) A (assign target env v) (fun _ s₂ =>
     wpAny (model prog w) A (forIn ifs true fun c r=>if r=true then do let ok <- isTrue c env (eval c env);pure (ForInStep.yield ok) else pure (ForInStep.yield r)) (fun ok s₃ =>
      if ok=true then wpAny (model prog w) A (eval elt env) (fun x s₄ =>
       wpAny (model prog w) A (call (.builtin "list.append") [acc,x]) (fun _ s₅=>∃ m,m<n/\I m s₅) (fun _ _=>False) s₄) EB s₃
      else ∃ m,m<n/\I m s₃) (fun _ _=>False) s₂) (fun _ _=>False) s₁') (fun _ _=>False) s₁) (fun _ _=>False) s)
  (hEB:∀ e s',EB e s'->notedBy (model prog w) A env (fun e s'=>R (.error e) s') e s') (n:Nat) (h:I n s) :
  codeAny (model prog w) A (.compLoop (.ListComp elt [⟨target,iter,ifs,0⟩] scope pos) 0 it acc env) R s:=by
 refine codeAny_loop rfl I (fun n s hI=>?_) n h;show wpAny _ A ((compTurn (.ListComp elt [⟨target,iter,ifs,0⟩] scope pos) 0 it acc env).onRaise (fun x=>do noteFrame x env;theTreesLotGoes x)) _ _ s;refine wpAny_noted ?_;rw[compTurn_list];refine ae (nI (ae (dG (turn n s hI) (fun r s₁ h₁=>?_) fun _ _ h'=>h'.elim)));cases r with
 | none=>exact aq h₁
 | some v =>
  refine ae (dG h₁ (fun _ s₁' h₁'=>?_) fun _ _ h'=>h'.elim);refine ae (dG h₁' (fun _ s₂ h₂=>ae (dG h₂ (fun ok s₃ h₃=>?_) fun _ _ h'=>h'.elim)) fun _ _ h'=>h'.elim);cases ok with
  | false=>exact aq ⟨rfl,h₃⟩
  | true =>
   exact ae (ae (dG h₃ (fun x s₄ h₄=>ae (dG h₄ (fun _ s₅ h₅=>aq (aq ⟨rfl,h₅⟩)) fun _ _ h'=>h'.elim)) fun e s' h'=>hEB e s' h'))
def vo(X:Cx)(C:Addr)(e:Value)(s':Shared):Prop:=∃ m,s'.heap.Ns C m/\∀ h',Heap.SameBut C s'.heap h'->∀ cenv:Env,cenv.locals=C->wpAny (model X.prog X.w) X.A (PySem.passOn "comprehension.variables-let-go" e cenv:Sem Value) (fun _ _=>False) X.xe { s' with heap:=h' }
def bkXe(X:Cx)(sc:Scope)(cl:List (Str×Addr))(C:Addr):Value->Shared->Prop:=notedBy (model X.prog X.w) X.A (compEnvC sc cl C X.env) (vo X C)
def BkIn(X:Cx)(C:Addr)(fp:List Addr)(pins:List (Addr×Obj))(s:Shared)(H:Hp):Prop:=(∃ Z,Inv X pins Z H s)/\(∀ b∈fp,FpOk X pins H b)/\s.heap.objs.size<=C
noncomputable def bkX(X:Cx)(LN FN:List Str)(sc:Scope)(cl:List (Str×Addr))(C:Addr)(fp:List Addr)(pins:List (Addr×Obj))(s:Shared)(H:Hp):Cx:=(bkCx X LN FN sc cl C fp pins s H).wish (bkXe X sc cl C)
section
variable{X:Cx}{elt iter:Expr}{ifs:List Expr}{tt:TT}
noncomputable def CW(J:It)(g:TG)(tt:TT)(te:TE)(W:Nat->Nat->List V->St->Hp->Prop)(Q:VK):Prop :=
 ∀ i m ys Z H,W i m ys Z H ->
  (J.stop i H/\ys.length<=sizeLine/\∀ p,H p=none->Q (.ref p) (upd H p (.lst ys))) \/
  (J.go i H/\∃ N:List V->St->Hp->Prop,(∀ ys' σ' H',N ys' σ' H'->∃ m',m' < m/\W (i+1) m' ys' σ' H') /\
   ∀ x H2,J.yld i H x H2->g x Z H2 fun σ2 H3=>tt σ2 H3 fun ok H4=>if ok=true then te σ2 H4 fun y H5=>ys.length<sizeLine/\N (ys++[y]) σ2 H5 else N ys σ2 H4)
def gC(LN:List Str)(fr:List Nat)(wi:TI)(g:TG)(tt:TT)(te:TE):TE:=fun Z H Q=>wi Z H fun J H1 =>
 ∃ W:Nat->Nat->List V->St->Hp->Prop,(∃ m,W 0 m [] (gP LN fr Z) H1)/\CW J g tt te W Q
def uT{s2:Shared}{tn:Nat->Heap->Prop}{J:It}{cl:List (Str×Addr)}{W:Nat->Nat->List V->St->Hp->Prop}{Q:VK}{m0:Nat}
  {R:Value->Addr->Result->Shared->Prop} {E:Value->Shared->Prop}
  (hc:X.calm=true) (S:BkScope X.N sc X.env.scope LN FN fr)
  (hg:∀ cl C fp pins s H,PG (bkCx X LN FN sc cl C fp pins s H) tg g) (ht:∀ cl C fp pins s H,PTs (bkCx X LN FN sc cl C fp pins s H) ifs tt) (he:∀ cl C fp pins s H,BkIn X C fp pins s H->PE (bkX X LN FN sc cl C fp pins s H) elt te)
  (h1:∀ x c,cl.lookup x=some c->X.env.cells.lookup x=some c) (h2:∀ x,(x,NameKind.free)∈sc.names->∃ c,cl.lookup x=some c)
  (I2:Inv X pins Z H2 s2) (T:Turn X.prog X.w X.K tg J fp it tn) (st2:tn 0 s2.heap) (f2:∀ b∈fp,FpOk X pins H2 b) (w0:W 0 m0 [] (gP LN fr Z) H2) (turn:CW J g tt te W Q)
  (hR:∀ D C s' H' ys m,s'.heap.Ns C m->Inv X pins Z (upd H' D (.lst ys)) s'->FpOk X pins (upd H' D (.lst ys)) C->Q (.ref D) (upd H' D (.lst ys))->R (.ref D) C (.ok .next) s') (hRE:∀ D C e s',vo X C e s'->R (.ref D) C (.error e) s') :
  wpAny (model X.prog X.w) X.A (newList []) (fun acc s₃=>wpAny (model X.prog X.w) X.A (newFunctionEnv sc X.env.globals cl [] X.env.qual none .none (some X.env)) (fun cenv s₄ =>
   codeAny (model X.prog X.w) X.A (.compStart (.ListComp elt [⟨tg,iter,ifs,0⟩] sc pos) 0 (.ref it) acc { cenv with scope:=relabel sc X.env }) (R acc cenv.locals) s₄) E s₃) E s2:=by
 refine eK (wpAny_newFunctionEnv S.nocell (by intro y hy;simp at hy) (fun h₁ hns hsb=>?_) S.kind);dsimp only at hns hsb ⊢;generalize hH2:s2.heap.push { cls:=.type "list",dict:=none,data:=.seq ([]:List Value).toArray }=G at hns hsb ⊢;have hC:G.objs.size=s2.heap.objs.size+1:=by rw[<-hH2,gX]
 have hDC:s2.heap.objs.size≠G.objs.size:=by rw[hC];exact bZ (Nat.lt_succ_self _)
 have hCle:s2.heap.objs.size<=G.objs.size:=by rw[hC];exact nR _
 have old:∀ b o,s2.heap.get? b=some o->h₁.get? b=some o:=fun b o e =>
  hsb.extBut b o (by rw[hC];exact bZ (rj (bn e))) (br _ (hH2▸br _ e))
 have hacc:h₁.PlainList s2.heap.objs.size #[]:=⟨_,hsb.extBut _ _ hDC (br _ (hH2▸ca _ rfl))⟩;have hfs:∀ b∈fp,∃ o,s2.heap.get? b=some o:=fun b hb=>let ⟨o,e,_⟩:=T.obj 0 _ st2 b hb;⟨o,e⟩;have hflt:∀ b∈fp,b<s2.heap.objs.size:=fun b hb=>let ⟨o,e⟩:=hfs b hb;bn e;generalize hD:s2.heap.objs.size=D at *;generalize hCC:G.objs.size=C at *;have I0:=ZnQ (LN:=LN) (cl:=cl) (C:=C) (tk:=s2.toks+([]:List (Str×Value)).length) I2 S f2 hfs h1 h2 (by rw[hD];exact hCle) old hns;have hin:BkIn X C fp pins s2 H2:=⟨⟨Z,I2⟩,f2,by rw[hD];exact hCle⟩;have fD:FpOk X pins H2 D:=I2.fpOk (iF hD) (I2.hok.fresh (iF hD));have stD:∀ {pl:List (Addr×Obj)} {H':Hp},H' D=none->(∀ p∈pl,p.1≠D)->FpOk (bkCx X LN FN sc cl C fp pins s2 H2) pl H' D:=fun {pl H'} hn hp=>by
  refine⟨hn,hDC,fun z=>?_,.inr (iF hD),fun x c e=>fD.2.2.2.2.1 x c (h1 x c e),fun p hp'=>?_⟩
  .exact (aI.mp (I2.stkSub D z)).elim fD.2.1 fD.2.2.1
  .have hp':p∈(X.pn++pins)++pl:=hp';rcases aR.mp hp' with q|q
   .exact fD.2.2.2.2.2 p q
   .exact hp p q
 have stat:∀ {pl:List (Addr×Obj)} {H':Hp},(∀ b∈fp,H' b=none)->(∀ p∈pl,p.1=D)->∀ b∈fp,FpOk (bkCx X LN FN sc cl C fp pins s2 H2) pl H' b:=fun {pl H'} hn hp b hb=>by
  obtain⟨_,n1,n2,n3,n4,n5⟩:=f2 b hb;refine⟨hn b hb,bZ (dy (hflt b hb) hCle),fun z=>?_,.inl hb,fun x c e=>n4 x c (h1 x c e),fun p hp'=>?_⟩
  .exact (aI.mp (I2.stkSub b z)).elim n1 n2
  .have hp':p∈(X.pn++pins)++pl:=hp';rcases aR.mp hp' with q|q
   .exact n5 p q
   .rw[hp p q];exact fk (hflt b hb)
 have pinD:∀ {s':Shared},∀ p∈eD [D] s'.heap,p.1=D:=fun p hp=>by simpa using (uy hp).1
 have key:∀ s₄:Shared,s₄={ s2 with heap:=h₁,toks:=s2.toks+([]:List (Str×Value)).length } ->
   codeAny (model X.prog X.w) X.A (.compLoop (.ListComp elt [⟨tg,iter,ifs,0⟩] sc pos) 0 (.ref it) (.ref D) (compEnvC sc cl C X.env)) (R (.ref D) C) s₄:=by
  rintro s₄ rfl;refine Zkd (EB:=bkXe X sc cl C) (fun n s'=>∃ i ys σ' H' its,Inv (bkCx X LN FN sc cl C fp pins s2 H2) [] σ' H' s'/\tn i s'.heap/\(∀ b∈fp,H' b=none)/\W i n ys σ' H'/\Vals ys its/\s'.heap.PlainList D its.toArray/\H' D=none) ?_ (fun e s' h'=>dG h' (fun _ s'' q=>hRE D C e s'' q) fun e' s'' q=>hRE D C e' s'' q) m0
   ⟨0,[],_,H2,[],I0,T.keep _ _ _ st2 (fun b _ o e=>old b o e),fun b hb=>(f2 b hb).1,w0,.nil,hacc,fD.1⟩
  rintro n s3 hh;refine opq ?_;intro gg;obtain⟨i,ys,σ3,H3,its,I3,st3,fr3,w3,rv,pl,nD⟩:=hh;have plo:∃ o,s3.heap.get? D=some o/\∀ v,o.data≠.cell v:=by
   obtain⟨k,e⟩:=pl;exact⟨_,e,fun v z=>by cases z⟩
  have I3':Inv (bkCx X LN FN sc cl C fp pins s2 H2) ([]++eD [D] s3.heap) σ3 H3 s3:=I3.pinned (fp:=[D]) (fun b hb=>by
   obtain rfl:b=D:=by simpa using hb
   exact stD nD (fun _ z=>nomatch z)) (fun b hb=>by
   obtain rfl:b=D:=by simpa using hb
   exact plo)
  have I3':Inv (bkCx X LN FN sc cl C fp pins s2 H2) (eD [D] s3.heap) σ3 H3 s3:=I3';have keepD:∀ {pl':List (Addr×Obj)} {σ':St} {H':Hp} {s':Shared},Inv (bkCx X LN FN sc cl C fp pins s2 H2) (eD [D] s3.heap++pl') σ' H' s'->s'.heap.PlainList D its.toArray/\H' D=none:=fun {pl' σ' H' s'} J=>by
   obtain⟨k,e⟩:=pl;have:=J.pin (D,_) (eI _ (dQ _ (kZ (by simp) e)));exact⟨⟨k,this.1⟩,this.2.1⟩
  have keepD0:∀ {σ':St} {H':Hp} {s':Shared},Inv (bkCx X LN FN sc cl C fp pins s2 H2) (eD [D] s3.heap) σ' H' s'->s'.heap.PlainList D its.toArray/\H' D=none:=fun {σ' H' s'} J=>by
   refine keepD (pl':=[]) (σ':=σ') ?_;rw[dR];exact J
  rcases turn i n ys σ3 H3 w3 with ⟨stop,hlen,q⟩|⟨go,N,hN,step⟩
  .refine thn (T.done (bkCx X LN FN sc cl C fp pins s2 H2) rfl rfl rfl hc i (eD [D] s3.heap) s3 σ3 H3 _ I3' (stat fr3 (fun p hp=>pinD (s':=s3) p hp)) st3 stop) fun r s4 hh1=>?_;refine opq ?_;intro gg1;obtain ⟨hr,I4⟩:=hh1;subst hr;obtain ⟨pl4,n4⟩:=keepD0 I4;have u4:Un (frs X.stack) fp H2 (upd H3 D (.lst ys)) s2.heap s4.heap:=Un.track I4.base (iF hD) fD.1;have nC:H3 C=none:=I4.free;have o4:HOk X.prog X.w (upd H3 D (.lst ys)) s4.heap:=HOk.track I4.hok n4 (by
    obtain⟨k,e⟩:=pl4;exact⟨hlen,its,k,rv,e⟩)
   have J:Inv X pins Z (upd H3 D (.lst ys)) s4:=I2.call' (s':=s4) (ch:=fp) I4.os u4 o4 I4.bare fun b hb=>by
    obtain⟨_,n1,n2,n3,n4,n5⟩:=f2 b hb;exact⟨n3,n1,n4,n5⟩
   obtain⟨m,hm,_⟩:=I4.loc;exact hR D C s4 H3 ys m hm J (I2.fpOk (by rw[hD];exact hCle) (by rw[bC (Ne.symm hDC)];exact nC)) (q D n4)
  .refine thn (T.item (bkCx X LN FN sc cl C fp pins s2 H2) rfl rfl rfl hc i (eD [D] s3.heap) s3 σ3 H3 _ I3' (stat fr3 (fun p hp=>pinD (s':=s3) p hp)) st3 go) fun r s4 hh2=>?_;refine opq ?_;intro gg2;obtain ⟨u,hr,h4⟩:=hh2;subst hr;refine thn h4 fun _ s5 hh3=>?_;refine opq ?_;intro gg3;obtain ⟨x,H5,I5,r5,y5,st5,fr5⟩:=hh3;have I5':=I5.pinned (stat fr5 (fun p hp=>pinD (s':=s3) p hp)) (T.obj _ _ st5);refine thn (hg cl C fp pins s2 H2 _ s5 σ3 H5 x u _ I5' r5 (step x H5 y5)) fun _ s6 hh4=>?_;refine opq ?_;intro gg4;obtain ⟨σ6,H6,I6,q6⟩:=hh4;refine thn (ht cl C fp pins s2 H2 _ s6 σ6 H6 _ I6 q6) fun ok s7 hh5=>?_;obtain ⟨H7,I7,q7⟩:=hh5;have again:∀ {s':Shared} {H':Hp},Inv (bkCx X LN FN sc cl C fp pins s2 H2) (eD [D] s3.heap++eD fp s5.heap) σ6 H' s'->tn (i+1) s'.heap/\∀ b∈fp,H' b=none:=fun {s' H'} J=>by
    refine⟨T.keep _ _ _ st5 fun b hb o e=>(J.pin (b,o) (eI _ (eI _ (kZ hb e)))).1,fun b hb=>?_⟩;obtain⟨o,e,d⟩:=T.obj _ _ st5 b hb;exact(J.pin (b,o) (eI _ (eI _ (kZ hb e)))).2.1
   have bare:∀ {s':Shared} {H':Hp},Inv (bkCx X LN FN sc cl C fp pins s2 H2) (eD [D] s3.heap++eD fp s5.heap) σ6 H' s'->Inv (bkCx X LN FN sc cl C fp pins s2 H2) [] σ6 H' s':=fun J=>J.pins_of fun p hp=>nomatch hp;cases ok with
   | false =>
    rw[ao bL] at q7 ⊢;obtain⟨m',hm,w7⟩:=hN ys σ6 H7 q7;obtain⟨pl7,n7⟩:=keepD I7;exact⟨m',hm,i+1,ys,σ6,H7,its,bare I7,(again I7).1,(again I7).2,w7,rv,pl7,n7⟩
   | true =>
    rw[am rfl] at q7 ⊢;refine dG (he cl C fp pins s2 H2 hin _ s7 σ6 H7 _ (I7.wish _) q7) (fun v s8 hz8=>?_) fun _ _ z=>z;obtain⟨y,H8,I8,r8,hl8,q8⟩:=hz8;have I8:=I8.unwish;obtain⟨m',hm,w8⟩:=hN _ σ6 H8 q8;obtain⟨pl8,n8⟩:=keepD I8;obtain⟨t8,f8⟩:=again I8;have hsz:its.toArray.size<=sizeLine:=by
     have:=rv.length;rw[bT,<- this];exact gH hl8
    refine wpAny_list_append_plain pl8 (fun h' pl' sb=>?_) hsz;refine⟨m',hm,i+1,ys++[y],σ6,H8,its++[v],?_,?_,f8,w8,rv.append (.cons r8 .nil),?_,n8⟩
    .obtain ⟨d0,d1,d2,d3,d4,d5⟩:=stD (pl:=[]) n8 (fun _ z=>nomatch z);exact(bare I8).turned (t':=s8.toks) (fun b o hb e=>(sb.2 b hb).trans e) d0 d1 d3 d4 d5
    .exact T.keep _ _ _ t8 fun b hb o e=>(sb.2 b (bZ (hflt b hb))).trans e
    .simpa using pl'
 exact codeAny_compStart_list (key _ rfl) (T.self _ 0 _ _ _ (T.keep _ _ _ st2 fun b _ o e=>old b o e) (key _ rfl))
def PE.any{t:TE}(h:PE X e t)(hx:X.xe=fun _ _=>False):PE (X.wish E) e t:=by
 intro pins s Z H Q I q;refine dG (h pins s Z H Q I.unwish q) (fun v s1 h1=>?_) (fun _ _ z=>by rw[hx] at z;exact z.elim);obtain⟨y,H1,I1,r1,q1⟩:=h1;exact⟨y,H1,I1.wish E,r1,q1⟩
def fS(hc:X.calm=true)(S:BkScope X.N sc X.env.scope LN FN fr)(hi:PI X tg iter wi)
  (hg:∀ cl C fp pins s H,PG (bkCx X LN FN sc cl C fp pins s H) tg g) (ht:∀ cl C fp pins s H,PTs (bkCx X LN FN sc cl C fp pins s H) ifs tt) (he:∀ cl C fp pins s H,PE (bkCx X LN FN sc cl C fp pins s H) elt te)
  (hs:∀ x,foldedSetIterable iter X.env x=pure x:=by intro _;rfl):PE X (.ListComp elt [⟨tg,iter,ifs,0⟩] sc pos) (gC LN fr wi g tt te):=by
 intro pins s Z H Q I h;rw[eval_ListComp];obtain⟨cl,ecl,h1,h2⟩:=v7 (scope:=sc) (env:=X.env) fun y hy hk=>I.ok.has y.1 (S.free y hy hk);refine wpAny_comprehension_free (use:=none) rfl hs ecl S.kind S.names (thn (hi pins s Z H _ I h) fun v s1 q1=>thn q1 fun itv s2 q2=>?_);obtain⟨it,fp,tn,J,H2,e,I2,T,st2,f2,W,⟨m0,w0⟩,turn⟩:=q2;subst e;refine uT (R:=fun acc C=>compPost (model X.prog X.w) X.A X.xe none (EP X pins Z Q) acc C) hc S hg ht (fun cl C fp pins s H _=>(he cl C fp pins s H).any rfl) h1 h2 I2 T st2 f2 w0 turn (fun D C s' H' ys m hn J fC q=>?_) (fun _ _ _ _ z=>z);refine⟨m,hn,fun h' sb=>⟨.ref D,_,J.turned (t':=s'.toks) (fun b o hb e=>(sb.2 b hb).trans e) fC.1 fC.2.1 fC.2.2.2.1 fC.2.2.2.2.1 fC.2.2.2.2.2,rfl,q⟩⟩
def iW{i:Nat}{pos2:Pos}(hc:X.calm=true)(hN:X.N.Nodup)(hix:X.N[i]?=some x)(hx:X.env.scope.names.lookup x=some .local)(S:BkScope X.N sc X.env.scope LN FN fr)(hi:PI X tg iter wi)
  (hg:∀ cl C fp pins s H,PG (bkCx X LN FN sc cl C fp pins s H) tg g) (ht:∀ cl C fp pins s H,PTs (bkCx X LN FN sc cl C fp pins s H) ifs tt) (he:∀ cl C fp pins s H,PE (bkCx X LN FN sc cl C fp pins s H) elt te)
  (hsw:swapsWith (.ListComp elt [⟨tg,iter,ifs,0⟩] sc pos) (some (.Name x pos')) pos2.line X.env=pure true:=by rfl)
  (hs:∀ x,foldedSetIterable iter X.env x=pure x:=by intro _;rfl):PS X (.Assign [.Name x pos'] (.ListComp elt [⟨tg,iter,ifs,0⟩] sc pos) pos2) (tAsg (gC LN fr wi g tt te) (eF i)):=by
 intro pins s Z H D0 I h;rw[exec_Assign_Name_used _ _ _ _ hsw];refine ae (nI (ae ?_));show wpAny _ X.A (do let _ <- comprehension (.ListComp elt [⟨tg,iter,ifs,0⟩] sc pos) sc X.env _ (newList []) false (eval iter X.env) (some (assign (.Name x pos') X.env))) _ _ s;obtain⟨cl,ecl,h1,h2⟩:=v7 (scope:=sc) (env:=X.env) fun y hy hk=>I.ok.has y.1 (S.free y hy hk);refine ae (dG (wpAny_comprehension_free (use:=some (assign (.Name x pos') X.env)) (Q:=fun _ s'=>SP X pins D0 .next s') rfl hs ecl S.kind S.names (thn (hi pins s Z H _ I h) fun v s1 q1=>thn q1 fun itv s2 q2=>?_))
  (fun _ s' hq=>aq (aq hq)) fun _ _ e=>e)
 obtain⟨it,fp,tn,J,H2,e,I2,T,st2,f2,W,⟨m0,w0⟩,turn⟩:=q2;subst e;refine uT (R:=fun acc C=>compPost (model X.prog X.w) X.A X.xe (some (assign (.Name x pos') X.env)) (fun _ s'=>SP X pins D0 .next s') acc C) hc S hg ht (fun cl C fp pins s H _=>(he cl C fp pins s H).any rfl) h1 h2 I2 T st2 f2 w0 turn (fun D C s' H' ys m hn J fC q=>?_) (fun _ _ _ _ z=>z);show wpAny _ X.A (assign (.Name x pos') X.env (.ref D)) _ _ s';refine wpAny_assign_Name (vc J hN hix (.inl hx) (show RelV (.ref D) (.ref D) from rfl) (fun s'' J2 ⟨a,sb2,ha⟩=>?_) (.inr hx));have nCa:C≠a:=by
  rcases ha with z|z
  .rw[z];exact fC.2.1
  .exact fun q=>fC.2.2.2.2.1 x a z q.symm
 refine⟨m,hn.sameBut sb2 nCa,fun h' sb=>⟨_,_,J2.turned (t':=s''.toks) (fun b o hb e=>(sb.2 b hb).trans e) fC.1 fC.2.1 fC.2.2.2.1 fC.2.2.2.2.1 fC.2.2.2.2.2,q⟩⟩
end
inductive D where
 | non|bl (b:Bool)|int (i:Int)|str (x:Str)|tup (ds:List D)
mutual
def Rep(H:Hp):D->V->Prop
 | .non,v=>v=.non
 | .bl b,v=>v=.bl b
 | .int i,v=>v=.int i
 | .str x,v=>v=.str x
 | .tup ds,v=>∃ a xs,v=.ref a/\H a=some (.tup xs)/\Reps H ds xs
def Reps(H:Hp):List D->List V->Prop
 | [],vs=>vs=[]
 | d::ds,vs=>∃ v r,vs=v::r/\Rep H d v/\Reps H ds r
end
def qc(H H':Hp):Prop:=∀ a xs,H a=some (.tup xs)->H' a=some (.tup xs)
def Same.new{o:HO}(h:H a=none):Same H (upd H a o):=fun b u e=>by rw[bC (iM e h)];exact e
mutual
theorem Rep.mono{H H' : Hp}(t : qc H H') : ∀ {d : D} {v : V}, Rep H d v->Rep H' d v
  | .non, _, h=>by simpa [Rep] using h
  | .bl _, _, h=>by simpa [Rep] using h
  | .int _, _, h=>by simpa [Rep] using h
  | .str _, _, h=>by simpa [Rep] using h
  | .tup ds, v, h => by
    rw[Rep] at h ⊢;obtain⟨a,xs,e,ha,r⟩:=h;exact⟨a, xs, e, t a xs ha, Reps.mono t r⟩
theorem Reps.mono{H H' : Hp}(t : qc H H') : ∀ {ds : List D} {vs : List V}, Reps H ds vs->Reps H' ds vs
  | [], _, h=>by simpa [Reps] using h
  | d :: ds, vs, h => by
    rw[Reps] at h ⊢;obtain⟨v,r,e,h1,h2⟩:=h;exact⟨v, r, e, Rep.mono t h1, Reps.mono t h2⟩
end
def Zpk{xs:List V}{ds:List D}(h:H a=some (.tup xs))(r:Reps H ds xs):Rep H (.tup ds) (.ref a):=by rw[Rep];exact⟨a,xs,rfl,h,r⟩
def ZmZ:Reps H [] []:=by rw[Reps]
def Zk4{d:D}{ds:List D}{v:V}(h:Rep H d v)(r:Reps H ds vs):Reps H (d::ds) (v::vs):=by rw[Reps];exact⟨v,vs,rfl,h,r⟩
def mX{v:V}{ds:List D}(h:Rep H (.tup ds) v):∃ a xs,v=.ref a/\H a=some (.tup xs)/\Reps H ds xs:=by rwa [Rep] at h
def p7(h:Reps H [] vs):vs=[]:=by rwa [Reps] at h
def i5{d:D}{ds:List D}(h:Reps H (d::ds) vs):∃ v r,vs=v::r/\Rep H d v/\Reps H ds r:=by rwa [Reps] at h
theorem Reps.length{H : Hp} : ∀ {ds : List D} {vs : List V}, Reps H ds vs->ds.length=vs.length
  | [], vs, h=>by rw[p7 h]; rfl
  | d :: ds, vs, h => by
    obtain⟨v,r,rfl,_,h2⟩:=i5 h;simp[Reps.length h2]
theorem Reps.get{H : Hp} : ∀ {ds : List D} {vs : List V} {i : Nat} {d : D}, Reps H ds vs->ds[i]?=some d->∃ v, vs[i]?=some v/\Rep H d v
  | [], vs, i, d, h, e=>by simp at e
  | d :: ds, vs, 0, d', h, e => by
    obtain⟨v,r,rfl,h1,h2⟩:=i5 h;simp at e;subst e;exact⟨v,rfl,h1⟩
  | d :: ds, vs, i + 1, d', h, e => by
    obtain⟨v,r,rfl,h1,h2⟩:=i5 h;obtain⟨u,e1,e2⟩:=Reps.get (i:=i) (d:=d') h2 (by simpa using e);exact⟨u, by simpa using e1, e2⟩
mutual
def D.pl:D->Bool
 | .bl _=>false
 | .tup ds=>D.pls ds
 | _=>true
def D.pls:List D->Bool
 | []=>true
 | d::ds=>d.pl&&D.pls ds
end
mutual
def D.dep:D->Nat
 | .tup ds=>D.deps ds+1
 | _=>0
def D.deps:List D->Nat
 | []=>0
 | d::ds=>max d.dep (D.deps ds)
end
theorem D.pls_get : ∀ {ds : List D} {i : Nat} {d : D}, D.pls ds=true->ds[i]?=some d->d.pl=true
  | [], i, d, _, e=>by simp at e
  | d :: ds, 0, d', h, e => by
    simp at e;subst e;rw[D.pls,iE] at h;exact h.1
  | d :: ds, i + 1, d', h, e => by
    rw[D.pls,iE] at h;exact D.pls_get (i:=i) h.2 (by simpa using e)
theorem D.deps_get : ∀ {ds : List D} {i : Nat} {d : D}, ds[i]?=some d->d.dep<=D.deps ds
  | [], i, d, e=>by simp at e
  | d :: ds, 0, d', e => by
    simp at e;subst e;rw[D.deps];lia
  | d :: ds, i + 1, d', e => by
    have:=D.deps_get (ds:=ds) (i:=i) (d:=d') (by simpa using e);rw[D.deps]; lia
open Classical in
def eqD(d e:D):Bool:=decide (d=e)
def eqD_true{d e:D}:eqD d e=true↔d=e:=by unfold eqD;simp
def eqD_same{d:D}:eqD d d=true:=eqD_true.mpr rfl
def dZ{d e:D}(h:d≠e):eqD d e=false:=by unfold eqD;simp[h]
def Zqg:eqD (.int i) (.int j)=(i == j):=by
 by_cases h:i=j
 .subst h;rw[eqD_same];simp
 .rw[dZ (by intro z;cases z;exact h rfl)];simp[h]
def Zqe{i j:Str}:eqD (.str i) (.str j)=(i == j):=by
 by_cases h:i=j
 .subst h;rw[eqD_same];simp
 .rw[dZ (by intro z;cases z;exact h rfl)];simp[h]
def ia(ds es:List D)(f:D->D->Bool)(j:Nat):Bool:=match ds[j]?,es[j]? with|some a,some b=>f a b|_,_=>false
def ux{ds es:List D}:((List.range (min ds.length es.length)).all (ia ds es eqD) && ds.length == es.length)=eqD (.tup ds) (.tup es):=by
 by_cases h:ds=es
 .subst h;rw[eqD_same];simp only[nQ,Bool.and_true,jm,gG];intro j hj;have hj:j < ds.length:=by lia
  unfold ia;rw[aC hj];exact eqD_same
 .rw[dZ (by intro z;cases z;exact h rfl)];by_cases hl:ds.length=es.length
  .rw[Bool.and_eq_false_iff];left;rw[<-Bool.not_eq_true];intro hall;apply h;refine iJ fun j=>?_;by_cases hj:j < ds.length
   .have hj':j < es.length:=by lia
    have:=jm.mp hall j (gG.mpr (by lia));unfold ia at this;rw[aC hj,aC hj'] at this;rw[aC hj,aC hj',eqD_true.mp this]
   .rw[eB (by lia),eB (by lia)]
  .rw[Bool.and_eq_false_iff];right;simpa using hl
section
variable{X:Cx}{s:Shared}
def Inv.isTup(I:Inv X pins Z H s){xs:List V}(h:H a=some (.tup xs)):∃ its:List Value,Vals xs its/\s.heap.IsTuple a its.toArray:=by
 obtain⟨_,its,r,p⟩:=(show ObjOk X.prog X.w H s.heap a (.tup xs) from I.hok a _ h);exact⟨its,r,p⟩
def vp(I:Inv X pins Z H s){d e:D}{x:V}(hd:d.dep=0)(pd:d.pl=true)(pe:e.pl=true)(rd:Rep H d x)(re:Rep H e y)(ru:RelV x u)(rv:RelV y v)(hu:A.units<cLine):SeqAt.EqAt A s u v (eqD d e):=by
 cases d with
 | tup ds=>rw[D.dep] at hd;lia
 | bl b=>simp[D.pl] at pd
 | non =>
  rw[Rep] at rd;subst rd;cases ru;cases e with
  | bl b=>simp[D.pl] at pe
  | non=>rw[Rep] at re;subst re;cases rv;rw[eqD_same];exact SeqAt.EqAt.same _
  | int b=>rw[Rep] at re;subst re;obtain⟨t,rfl⟩:=rv;rw[dZ (by intro z;cases z)];exact xQ b t
  | str b=>rw[Rep] at re;subst re;obtain⟨t,rfl⟩:=rv;rw[dZ (by intro z;cases z)];exact xR b t
  | tup es =>
   rw[Rep] at re;obtain⟨a,xs,rfl,ha,_⟩:=re;cases rv;obtain⟨its,_,ht⟩:=I.isTup ha;rw[dZ (by intro z;cases z)];exact SeqAt.EqAt.none_tuple ht hu
 | int i =>
  rw[Rep] at rd;subst rd;obtain⟨t,rfl⟩:=ru;cases e with
  | bl b=>simp[D.pl] at pe
  | non=>rw[Rep] at re;subst re;cases rv;rw[dZ (by intro z;cases z)];exact xS i t
  | int b=>rw[Rep] at re;subst re;obtain⟨t',rfl⟩:=rv;rw[Zqg];exact ra i t b t'
  | str b=>rw[Rep] at re;subst re;obtain⟨t',rfl⟩:=rv;rw[dZ (by intro z;cases z)];exact qX i t b t'
  | tup es =>
   rw[Rep] at re;obtain⟨a,xs,rfl,ha,_⟩:=re;cases rv;obtain⟨its,_,ht⟩:=I.isTup ha;rw[dZ (by intro z;cases z)];exact SeqAt.EqAt.int_tuple i t ht hu
 | str i =>
  rw[Rep] at rd;subst rd;obtain⟨t,rfl⟩:=ru;cases e with
  | bl b=>simp[D.pl] at pe
  | non=>rw[Rep] at re;subst re;cases rv;rw[dZ (by intro z;cases z)];exact xT i t
  | int b=>rw[Rep] at re;subst re;obtain⟨t',rfl⟩:=rv;rw[dZ (by intro z;cases z)];exact qY i t b t'
  | str b=>rw[Rep] at re;subst re;obtain⟨t',rfl⟩:=rv;rw[Zqe];exact rb i t b t'
  | tup es =>
   rw[Rep] at re;obtain⟨a,xs,rfl,ha,_⟩:=re;cases rv;obtain⟨its,_,ht⟩:=I.isTup ha;rw[dZ (by intro z;cases z)];exact SeqAt.EqAt.str_tuple i t ht hu
mutual
theorem Rep.inj{H : Hp} : ∀ {d e : D} {v : V}, Rep H d v->Rep H e v->d=e
  | .non, .non, _, _, _=>rfl
  | .bl a, .bl b, v, h, h'=>by simp only[Rep] at h h'; rw[h] at h'; cases h'; rfl
  | .int a, .int b, v, h, h'=>by simp only[Rep] at h h'; rw[h] at h'; cases h'; rfl
  | .str a, .str b, v, h, h'=>by simp only[Rep] at h h'; rw[h] at h'; cases h'; rfl
  | .tup ds, .tup es, v, h, h' => by
    rw[Rep] at h h';obtain⟨a,xs,rfl,ha,r⟩:=h;obtain⟨b,ys,e,hb,r'⟩:=h';cases e;rw[ha] at hb;cases hb;rw[Reps.inj r r']
  | .non, .bl _, v, h, h'=>by simp only[Rep] at h h'; rw[h] at h'; cases h'
  | .non, .int _, v, h, h'=>by simp only[Rep] at h h'; rw[h] at h'; cases h'
  | .non, .str _, v, h, h'=>by simp only[Rep] at h h'; rw[h] at h'; cases h'
  | .non, .tup _, v, h, h'=>by simp only[Rep] at h h'; obtain⟨_, _, e, _⟩:=h'; rw[h] at e; cases e
  | .bl _, .non, v, h, h'=>by simp only[Rep] at h h'; rw[h] at h'; cases h'
  | .bl _, .int _, v, h, h'=>by simp only[Rep] at h h'; rw[h] at h'; cases h'
  | .bl _, .str _, v, h, h'=>by simp only[Rep] at h h'; rw[h] at h'; cases h'
  | .bl _, .tup _, v, h, h'=>by simp only[Rep] at h h'; obtain⟨_, _, e, _⟩:=h'; rw[h] at e; cases e
  | .int _, .non, v, h, h'=>by simp only[Rep] at h h'; rw[h] at h'; cases h'
  | .int _, .bl _, v, h, h'=>by simp only[Rep] at h h'; rw[h] at h'; cases h'
  | .int _, .str _, v, h, h'=>by simp only[Rep] at h h'; rw[h] at h'; cases h'
  | .int _, .tup _, v, h, h'=>by simp only[Rep] at h h'; obtain⟨_, _, e, _⟩:=h'; rw[h] at e; cases e
  | .str _, .non, v, h, h'=>by simp only[Rep] at h h'; rw[h] at h'; cases h'
  | .str _, .bl _, v, h, h'=>by simp only[Rep] at h h'; rw[h] at h'; cases h'
  | .str _, .int _, v, h, h'=>by simp only[Rep] at h h'; rw[h] at h'; cases h'
  | .str _, .tup _, v, h, h'=>by simp only[Rep] at h h'; obtain⟨_, _, e, _⟩:=h'; rw[h] at e; cases e
  | .tup _, .non, v, h, h'=>by simp only[Rep] at h h'; obtain⟨_, _, e, _⟩:=h; rw[h'] at e; cases e
  | .tup _, .bl _, v, h, h'=>by simp only[Rep] at h h'; obtain⟨_, _, e, _⟩:=h; rw[h'] at e; cases e
  | .tup _, .int _, v, h, h'=>by simp only[Rep] at h h'; obtain⟨_, _, e, _⟩:=h; rw[h'] at e; cases e
  | .tup _, .str _, v, h, h'=>by simp only[Rep] at h h'; obtain⟨_, _, e, _⟩:=h; rw[h'] at e; cases e
theorem Reps.inj{H : Hp} : ∀ {ds es : List D} {vs : List V}, Reps H ds vs->Reps H es vs->ds=es
  | [], [], _, _, _=>rfl
  | [], e::es, vs, h, h'=>by rw[p7 h] at h'; obtain⟨_, _, z, _⟩:=i5 h'; cases z
  | d::ds, [], vs, h, h'=>by rw[p7 h'] at h; obtain⟨_, _, z, _⟩:=i5 h; cases z
  | d :: ds, e :: es, vs, h, h' => by
    obtain⟨v,r,rfl,h1,h2⟩:=i5 h;obtain⟨v',r',z,h1',h2'⟩:=i5 h';cases z;rw[Rep.inj h1 h1', Reps.inj h2 h2']
end
def eqAt_D(I:Inv X pins Z H s):∀ (n:Nat) {d e:D} {x y:V} {u v:Value} {A:Around},d.dep<=n->d.pl=true->e.pl=true->Rep H d x->Rep H e y->RelV x u->RelV y v->A.units+n < cLine->SeqAt.EqAt A s u v (eqD d e):=by
 intro n
 induction n with
 | zero =>
  intro d e x y u v A hn pd pe rd re ru rv hu;exact vp I (by lia) pd pe rd re ru rv (by lia)
 | succ n ih =>
  intro d e x y u v A hn pd pe rd re ru rv hu;by_cases h0:d.dep=0
  .exact vp I h0 pd pe rd re ru rv (by lia)
  .cases d with
   | non=>simp[D.dep] at h0
   | bl _=>simp[D.dep] at h0
   | int _=>simp[D.dep] at h0
   | str _=>simp[D.dep] at h0
   | tup ds =>
    obtain⟨a,xs,rfl,ha,r⟩:=mX rd;cases ru;obtain⟨its,vx,ht⟩:=I.isTup ha;cases e with
    | bl b=>simp[D.pl] at pe
    | non=>rw[Rep] at re;subst re;cases rv;rw[dZ (by intro z;cases z)];exact SeqAt.EqAt.tuple_none ht (by lia)
    | int b=>rw[Rep] at re;subst re;obtain⟨t,rfl⟩:=rv;rw[dZ (by intro z;cases z)];exact SeqAt.EqAt.tuple_int b t ht (by lia)
    | str b=>rw[Rep] at re;subst re;obtain⟨t,rfl⟩:=rv;rw[dZ (by intro z;cases z)];exact SeqAt.EqAt.tuple_str b t ht (by lia)
    | tup es =>
     obtain⟨b,ys,rfl,hb,r'⟩:=mX re;cases rv;by_cases hab:a=b
     .subst hab;rw[Rep.inj rd re,eqD_same];exact SeqAt.EqAt.same _
     .obtain ⟨its',vy,ht'⟩:=I.isTup hb;refine xU hab ?_;have l1:=vx.length;have l2:=vy.length;have l3:=r.length;have l4:=r'.length;have key:=SeqAt.RcAt.tuples (A:=A) (e:=ia ds es eqD) ht ht' (by lia) fun j h1 h2=>?_
      .rw[<-ux,l3,l4,l1,l2];simpa using key
      .have h1':j < its.length:=by simpa using h1
       have h2':j<its'.length:=by simpa using h2
       have e1:ds[j]?=some (ds[j]'(by lia)):=aC _;have e2:es[j]?=some (es[j]'(by lia)):=aC _;obtain⟨v1,q1,p1⟩:=r.get e1;obtain⟨v2,q2,p2⟩:=r'.get e2;obtain⟨u1,z1,w1⟩:=vx.get q1;obtain⟨u2,z2,w2⟩:=vy.get q2;have y1:its.toArray[j]=u1:=by
        have:its[j]?=some its[j]:=aC h1';rw[z1] at this;simpa using (Option.some.inj this).symm
       have y2:its'.toArray[j]=u2:=by
        have:its'[j]?=some its'[j]:=aC h2';rw[z2] at this;simpa using (Option.some.inj this).symm
       rw[y1,y2];unfold ia;rw[e1,e2];rw[D.dep] at hn;have hdep:=D.deps_get e1;rw[D.pl] at pd pe;exact ih (by lia) (D.pls_get pd e1) (D.pls_get pe e2) p1 p2 w1 w2 (by show A.units+1+n<cLine;lia)
end
end L2
end
section
namespace L2
open PySem PySem.Spec PyProof.Rows
section
variable{X:Cx}
def rEqD:R2:=fun x y H Q=>∃ ds es,Rep H (.tup ds) x/\Rep H (.tup es) y/\D.pls ds=true/\D.pls es=true/\D.deps ds<=40/\Q (.bl (eqD (.tup ds) (.tup es))) H
def Znx{X:Cx}{s:Shared}(I:Inv X pins Z H s){ds es:List D}{xs:List V}{its its':List Value}(vx:Vals xs its)(vy:Vals ys its')(r:Reps H ds xs)(r':Reps H es ys)(pd:D.pls ds=true)(pe:D.pls es=true)
  (hd:D.deps ds<=40) (hu:A.units+40<cLine):∀ j (h1:j<its.toArray.size) (h2:j<its'.toArray.size),SeqAt.EqAt A s its.toArray[j] its'.toArray[j] (ia ds es eqD j):=by
 intro j h1 h2;have l1:=vx.length;have l2:=vy.length;have l3:=r.length;have l4:=r'.length;have h1':j<its.length:=by simpa using h1
 have h2':j<its'.length:=by simpa using h2
 have e1:ds[j]?=some (ds[j]'(by lia)):=aC _;have e2:es[j]?=some (es[j]'(by lia)):=aC _;obtain⟨v1,q1,p1⟩:=r.get e1;obtain⟨v2,q2,p2⟩:=r'.get e2;obtain⟨u1,z1,w1⟩:=vx.get q1;obtain⟨u2,z2,w2⟩:=vy.get q2;have y1:its.toArray[j]=u1:=by
  have:its[j]?=some its[j]:=aC h1';rw[z1] at this;simpa using (Option.some.inj this).symm
 have y2:its'.toArray[j]=u2:=by
  have:its'[j]?=some its'[j]:=aC h2';rw[z2] at this;simpa using (Option.some.inj this).symm
 rw[y1,y2];unfold ia;rw[e1,e2];have hdep:=D.deps_get e1;exact eqAt_D I 40 (by lia) (D.pls_get pd e1) (D.pls_get pe e2) p1 p2 w1 w2 hu
def v4(hu:X.A.units+64<cLine):OpR X (compareOp .Eq) rEqD:=by
 rintro pins s Z H x y v u Q I rx ry ⟨ds,es,h1,h2,pd,pe,hd,q⟩;obtain⟨a,xs,rfl,ha,r⟩:=mX h1;obtain⟨b,ys,rfl,hb,r'⟩:=mX h2;cases rx;cases ry;obtain⟨its,vx,ht⟩:=I.isTup ha;obtain⟨its',vy,ht'⟩:=I.isTup hb;refine SeqAt.eq_tupleAt (e:=ia ds es eqD) ht ht' (by lia) (Znx (A:=X.A.in1) I vx vy r r' pd pe hd (by show X.A.units+1+40<cLine;lia)) ?_;refine bM I q ?_;rw[<-ux,r.length,r'.length,vx.length,vy.length];simp
def CBig(i j:Int):Prop:=i.natAbs<2^8000/\j.natAbs<2^8000
def vb(h:i.natAbs<2^8000):Builtin.Int.intBits i<=8000:=by
 unfold Builtin.Int.intBits;by_cases h0:i=0
 .simp[h0]
 .have:(i == 0)=false:=by simpa using h0
  rw[this];have:=(Nat.log2_lt (show i.natAbs≠0 by lia)).mpr h;simp;lia
def CBig.ok(h:CBig i j):IntMulOk i j:=by
 unfold IntMulOk;have h1:=vb h.1;have h2:=vb h.2;have hb:Builtin.Int.intTooBig (Builtin.Int.intBits i+Builtin.Int.intBits j)=false:=by
  unfold Builtin.Int.intTooBig;rw[bz];have:(16000:Int)<=bitsLine:=by decide
  lia
 rw[hb];simp
def gu:OpR X (binaryOp .Mult) (rI CBig fun i j=>.int (i*j)):=opI fun _ _ _ _ _ _ _ hc q=>mul_int q hc.ok
def iX(i j:Int):Prop:=0<j/\j.natAbs<2^8000
def jM:OpR X (binaryOp .FloorDiv) (rI iX fun i j=>.int (i / j)):=opI fun i j _ _ _ _ _ hc q=>by
 have hj:j≠0:=by have:=hc.1;lia
 refine floordiv_int hj ?_ (.inl (PyProof.noPylong_of_log2 ?_))
 .rw[Int.fdiv_eq_ediv_of_nonneg _ (by have:=hc.1;lia)];exact q
 .have:=(Nat.log2_lt (show j.natAbs≠0 by lia)).mpr hc.2;lia
def isi(t T:String):Bool:=t == T || (t == "bool" && T == "int")
def kit_of{K:W.Frag}:∀ {t T:String},t∈["int","bool","str","tuple","list","dict","NoneType"]->T∈["int","bool","str","tuple","list","dict"]->PySem.W.kitOne K (.type t) (.type T)=some (isi t T):=by
 intro t T ht hT;simp only[aI,mem_nil_iff,dh] at ht hT;rcases ht with rfl|rfl|rfl|rfl|rfl|rfl|rfl <;> rcases hT with rfl|rfl|rfl|rfl|rfl|rfl <;> with_unfolding_all rfl
noncomputable def tyO:Option HO->Option String
 | some (.lst _)=>some "list"
 | some (.frz _ (.lst _))=>some "list"
 | some (.tup _)=>some "tuple"
 | some (.dK _)=>some "dict"
 | some (.dT _)=>some "dict"
 | _=>none
def tyN(H:Hp):V->Option String
 | .non=>some "NoneType"
 | .bl _=>some "bool"
 | .int _=>some "int"
 | .str _=>some "str"
 | .ref a=>tyO (H a)
 | _=>none
def wz{K:W.Frag}{x:V}{t:String}(h:tyN H x=some t):TyOf K H x (.type t)/\t∈["int","bool","str","tuple","list","dict","NoneType"]:=by
 cases x with
 | non=>cases h;exact⟨.non,by decide⟩
 | bl b=>cases h;exact⟨.bl b,by decide⟩
 | int i=>cases h;exact⟨.int i,by decide⟩
 | str y=>cases h;exact⟨.str y,by decide⟩
 | ref a =>
  have h:tyO (H a)=some t:=h;cases e:H a with
  | none=>rw[e] at h;cases h
  | some o =>
   rw[e] at h;cases o with
   | lst _=>cases h;exact⟨.lst e,by decide⟩
   | frz _ o =>
    cases o with
    | lst _=>cases h;exact⟨.frz e,by decide⟩
    | _=>cases h
   | tup _=>cases h;exact⟨.tup e,by decide⟩
   | dK _=>cases h;exact⟨.dK e,by decide⟩
   | dT _=>cases h;exact⟨.dT e,by decide⟩
   | _=>cases h
 | byt _=>cases h
 | flt _=>cases h
 | ty _=>cases h
def rIsi:List V->Hp->VK->Prop:=fun xs H Q=>∃ x T t,xs=[x,.ty T]/\tyN H x=some t/\T∈["int","bool","str","tuple","list","dict"]/\Q (.bl (isi t T)) H
def eM:cm X (.builtin "isinstance") rIsi:=by
 intro pins s Z H xs us Q I r h;obtain⟨x,T,t,rfl,ht,hT,q⟩:=h;cases r with
 | cons r1 r2 =>
  cases r2 with
  | cons r3 r4 =>
   cases r4;cases r3;obtain⟨ty,hm⟩:=wz (K:=X.K) ht;exact ZlW I r1 ty (kit_of hm hT) fun tk=>⟨.bl _,H,I.tok _,rfl,q⟩
end
structure Callee(P:Program)(w:World)(K:W.Frag)(mg:Str->Option Value)(base:Heap)(x:Str)(k:Nat)(ps:List Str)(sp:Sp):Prop where
 ex:∃ f fd,FnOk P w K mg base CX0 k f fd ps sp/\mg x=some (.ref f)/\PySem.W.keepIn K (.ref f)=true/\Binds K fd ps []
def gL{X:Cx}{k:Nat}{ps:List Str}{p pos:Pos}{t:TA}(C:Callee X.prog X.w X.K X.mg X.base x k ps sp)(hr:Room k X.A)(hg:Gl X x)(ha:PA X (e::es) t)(hdb:(x == ("__debug__":Str))=false:=by decide)
  (he:starEach (e::es) X.env=(false,eval e X.env)::starEach es X.env:=by rfl) (hpl:(backTo pos (starEach es X.env)).any (·.1)=false:=by rfl) :
  PE X (.Call (.Name x p) (e::es) [] pos) (ij sp [] E0 t):=by
 obtain⟨f,fd,F,hm,hk,hb⟩:=C.ex;exact ZpJ F hr hg hm hk hb .nil pass0 ha hdb he hpl
section
variable{K:W.Frag}{xs:List V}{tt:TT}{Q:VK}
def CN(Pv:Nat->List V->St->Hp->Prop)(i:Nat)(ys':List V)(σ':St)(H':Hp):Prop:=ys'.length<=i+1/\Pv (i+1) ys' σ' H'
def nv{J:It}(n:Nat)(hz:n<=sizeLine)(Pv:Nat->List V->St->Hp->Prop)(h0:Pv 0 [] Z H)(hgo:∀ i ys Z H,i<n->Pv i ys Z H->J.go i H)(hstop:∀ ys Z H,Pv n ys Z H->J.stop n H)
  (hs:∀ i x ys Z H H2,i<n->ys.length<=i->ys.length<sizeLine->Pv i ys Z H->J.yld i H x H2->g x Z H2 fun σ2 H3=>tt σ2 H3 fun ok H4=>if ok=true then te σ2 H4 fun y H5=>ys.length<sizeLine/\CN Pv i (ys++[y]) σ2 H5 else CN Pv i ys σ2 H4)
  (hd:∀ ys Z H,ys.length<=n->Pv n ys Z H->∀ p,H p=none->Q (.ref p) (upd H p (.lst ys))) :
  ∃ W:Nat->Nat->List V->St->Hp->Prop,(∃ m,W 0 m [] Z H)/\CW J g tt te W Q:=by
 refine⟨fun i m ys Z H=>m=n-i/\i<=n/\ys.length<=i/\Pv i ys Z H,⟨n,by simp,bO _,aE _,h0⟩,?_⟩;rintro i m ys Z H ⟨rfl,hi,hy,p⟩;by_cases hlt:i<n
 .exact .inr ⟨hgo i ys Z H hlt p,CN Pv i,fun ys' σ' H' p'=>⟨n-(i+1),by lia,rfl,hlt,p'.1,p'.2⟩,fun x H2 y=>hs i x ys Z H H2 hlt hy (by lia) p y⟩
 .have e:i=n:=by lia
  subst e;exact .inl ⟨hstop ys Z H p,by lia,hd ys Z H hy p⟩
def Zqi(hz:xs.length<=sizeLine)(Pv:Nat->List V->St->Hp->Prop)(h0:Pv 0 [] Z H)(hl:∀ i ys Z H,i<=xs.length->Pv i ys Z H->SqL K H a xs)
  (hs:∀ i x ys Z H,xs[i]?=some x->ys.length<=i->ys.length<sizeLine->Pv i ys Z H->g x Z H fun σ2 H3=>tt σ2 H3 fun ok H4=>if ok=true then te σ2 H4 fun y H5=>ys.length<sizeLine/\CN Pv i (ys++[y]) σ2 H5 else CN Pv i ys σ2 H4)
  (hd:∀ ys Z H,ys.length<=xs.length->Pv xs.length ys Z H->∀ p,H p=none->Q (.ref p) (upd H p (.lst ys))) :
  ∃ W:Nat->Nat->List V->St->Hp->Prop,(∃ m,W 0 m [] Z H)/\CW (Itl K a) g tt te W Q:=by
 refine nv xs.length hz Pv h0 (fun i ys Z H hi p=>⟨xs,xs[i],hl i ys Z H (gH hi) p,by simp[hi]⟩) (fun ys Z H p=>⟨xs,hl _ ys Z H (aE _) p,aE _⟩) (fun i x ys Z H H2 hi h1 h2 p y=>?_) hd;obtain⟨rfl,y⟩:=y;exact hs i x ys Z _ (y xs (hl i ys Z _ (gH hi) p)) h1 h2 p
end
section
variable{Q:VK}{v x:V}{tb:TE}{t u:TS}{c d:TT}{D':Ends}{r:R2}{K:W.Frag}
def rd_var(e:Z[n]?=some (some v))(h:Q v H):tVar n Z H Q:=⟨v,e,h⟩
def rd_c(h:Q v H):tC v Z H Q:=h
def rd_op(h:ta Z H fun x H1=>tb Z H1 fun y H2=>r x y H2 Q):tOp r ta tb Z H Q:=h
def rd_seq(h:t { D' with nx:=u D' } Z H):tSeq t u D' Z H:=h
def rd_asg(h:te Z H fun x H1=>g x Z H1 D'.nx):tAsg te g D' Z H:=h
def Zm4{R:St->Hp->Prop}(h:R (Z.set n (some v)) H):eF n v Z H R:=h
def rd_ret(h:te Z H D'.rt):tRet te D' Z H:=h
def Zpo(h:D'.nx Z H):o7 D' Z H:=h
def rd_if(h:c Z H fun b H1=>if b=true then t D' Z H1 else u D' Z H1):tIfS c t u D' Z H:=h
def Zpm{R:Bool->Hp->Prop}(h:ta Z H fun x H'=>∃ k,x=.bl k/\R k H'):nE ta Z H R:=h
def rd_and{R:Bool->Hp->Prop}(h:c Z H fun b H1=>if b=true then d Z H1 R else R false H1):tAnd c d Z H R:=h
def xF{R:Bool->Hp->Prop}(h:R true H):iV Z H R:=h
def rd_nil{R:List V->Hp->Prop}(h:R [] H):tNil Z H R:=h
def Zpr{R:List V->Hp->Prop}(h:ta Z H fun x H1=>tr Z H1 fun xs H2=>R (x::xs) H2):bI ta tr Z H R:=h
def rd_cb{rr:List V->Hp->VK->Prop}{ta:TA}(h:ta Z H fun vs H1=>rr vs H1 Q):tCB rr ta Z H Q:=h
def Zpu{E:XK}{ta:TA}(h:ta Z H fun vs H1=>sp (vs++[]) H1 Q E):ij sp [] E ta Z H Q:=h
def rd_I0{f:Int->Int->V}(h:Q (f i j) H):rI0 f (.int i) (.int j) H Q:=⟨i,j,rfl,rfl,h⟩
def rd_I{C:Int->Int->Prop}{f:Int->Int->V}(hc:C i j)(h:Q (f i j) H):rI C f (.int i) (.int j) H Q:=⟨i,j,rfl,rfl,hc,h⟩
def xL(h:Q (.bl (decide (i=j))) H):rEq (.int i) (.int j) H Q:=⟨rfl,by rw[ml,j6];exact h⟩
def xI(h:Q (.bl (!decide (i=j))) H):rNe (.int i) (.int j) H Q:=⟨rfl,by rw[ml,j6];exact h⟩
def tz{a b:Str}(h:Q (.bl (decide (a=b))) H):rEq (.str a) (.str b) H Q:=⟨rfl,by rw[m6,j6];exact h⟩
def uk{a b:Str}(h:Q (.bl (!decide (a=b))) H):rNe (.str a) (.str b) H Q:=⟨rfl,by rw[m6,j6];exact h⟩
def wN{a b:Bool}(h:Q (.bl (decide (a=b))) H):rEq (.bl a) (.bl b) H Q:=⟨rfl,by rw[mV,j6];exact h⟩
def tU{a b:Bool}(h:Q (.bl (!decide (a=b))) H):rNe (.bl a) (.bl b) H Q:=⟨rfl,by rw[mV,j6];exact h⟩
def rd_bl{b:Bool}{R:Bool->Prop}(h:R b):∃ k,V.bl b=V.bl k/\R k:=⟨b,rfl,h⟩
def rd_lst{ta:TA}(h:ta Z H fun xs H1=>xs.length<=sizeLine/\∀ p,H1 p=none->Q (.ref p) (upd H1 p (.lst xs))):tLst ta Z H Q:=h
def ii(h:n<=1000):n<=sizeLine:=bo h (by decide)
def rd_ixT{xs:List V}(h:H p=some (.tup xs))(e:atI xs i=some v)(q:Q v H):rIxT K (.ref p) (.int i) H Q:=⟨p,xs,i,v,rfl,rfl,SqT.of h,e,q⟩
def rd_ixL{xs:List V}(h:H p=some (.lst xs))(e:atI xs i=some v)(q:Q v H):rIxL K (.ref p) (.int i) H Q:=⟨p,xs,i,v,rfl,rfl,SqL.of h,e,q⟩
def lc{xs:List V}{k:Nat}{R:Hp->Prop}(h:H p=some (.lst xs))(e:ixN xs.length i=some k)(q:R (upd H p (.lst (xs.set k v)))):mH (.ref p) (.int i) v H R:=⟨p,xs,i,k,rfl,rfl,h,e,q⟩
def Zpq{ti:TE}{ts:TSet}{R:St->Hp->Prop}(h:to Z H fun o H1=>ti Z H1 fun i H2=>ts o i v H2 fun H3=>R Z H3):gSub to ti ts v Z H R:=h
def Zo9{xs:List V}(h:H a=some (.tup xs)):tyN H (.ref a)=some "tuple":=by show tyO (H a)=_;rw[h];rfl
def se{xs:List V}(h:H a=some (.lst xs)):tyN H (.ref a)=some "list":=by show tyO (H a)=_;rw[h];rfl
def Zm1{rr:V->Option Int->Option Int->Hp->VK->Prop}{tl th:TO}(h:te Z H fun x H1=>tl Z H1 fun l H2=>th Z H2 fun u H3=>rr x l u H3 Q):tSl rr te tl th Z H Q:=h
def Zla{R:Option Int->Hp->Prop}(h:R none H):qD Z H R:=h
def Zpn{R:Option Int->Hp->Prop}(h:ta Z H fun x H1=>∃ i,x=.int i/\R (some i) H1):qE ta Z H R:=h
def rd_int{R:Int->Prop}(h:R i):∃ k,V.int i=V.int k/\R k:=⟨i,rfl,h⟩
def Zlb{l:Addr}{xs:List V}(h:H l=some (.lst xs))(hz:xs.length<sizeLine)(q:Q .non (upd H l (.lst (xs++[y])))):pq (.ref l) [y] H Q:=⟨l,xs,y,rfl,rfl,h,hz,q⟩
def Zps(h:wi Z H fun J H1=>∃ W:Nat->Nat->List V->St->Hp->Prop,(∃ m,W 0 m [] (gP LN fr Z) H1)/\CW J g c te W Q):gC LN fr wi g c te Z H Q:=h
def ilK(K:W.Frag)(R:It->Hp->Prop)(x:V)(H1:Hp):Prop:=∃ a,x=.ref a/\(∃ xs,SqL K H1 a xs)/\R (Itl K a) H1
def Zm3{R:It->Hp->Prop}(h:tl Z H (ilK K R)):mC K tl Z H R:=h
def xv{R:It->Hp->Prop}{xs:List V}(h:SqL K H a xs)(q:R (Itl K a) H):ilK K R (.ref a) H:=⟨a,rfl,⟨xs,h⟩,q⟩
def rd_for (h:wi Z H fun J H1=>∃ W:Nat->Nat->St->Hp->Prop,(∃ m,W 0 m Z H1)/\∀ i m Z H,W i m Z H ->
 (J.stop i H/\D'.nx Z H)\/(J.go i H/\∃ N:St->Hp->Prop,(∀ σ' H',N σ' H'->∃ m',m'<m/\W (i+1) m' σ' H')/\∀ x H',J.yld i H x H'->g x Z H' fun σ2 H2=>t { D' with nx:=N,ct:=N,bk:=D'.nx } σ2 H2)):tFor wi g t D' Z H:=h
end
def mI:bootBuiltins "abs"=some (.builtin "abs"):=by decide +kernel
def bf:bootBuiltins "len"=some (.builtin "len"):=by decide +kernel
def dY:bootBuiltins "isinstance"=some (.builtin "isinstance"):=by decide +kernel
def m7:bootBuiltins "max"=some (.builtin "max"):=by decide +kernel
def bt_min:bootBuiltins "min"=some (.builtin "min"):=by decide +kernel
def ph:bootBuiltins "sorted"=some (.builtin "sorted"):=by decide +kernel
def iO:bootBuiltins "all"=some (.builtin "all"):=by decide +kernel
def mY:bootBuiltins "int"=some (.type "int"):=by decide +kernel
def pb:bootBuiltins "bool"=some (.type "bool"):=by decide +kernel
def di:bootBuiltins "tuple"=some (.type "tuple"):=by decide +kernel
def iQ:bootBuiltins "list"=some (.type "list"):=by decide +kernel
def kz:bootBuiltins "str"=some (.type "str"):=by decide +kernel
def bt_zip:bootBuiltins "zip"=some (.type "zip"):=by decide +kernel
noncomputable def bkOk(N:List Str)(sc osc:Scope)(FN:List Str)(fr:List Nat):Bool :=
 decide (sc.kind=.function)&&sc.names.all (fun y=>decide (y.2≠.cell))&&sc.names.all (fun y=>decide (y.2=.local->sc.names.lookup y.1=some .local)) &&
 sc.names.all (fun y=>decide (y.2=.free->osc.names.lookup y.1=some .cell\/osc.names.lookup y.1=some .free)) &&
 FN.all (fun x=>decide (osc.names.lookup x=some .cell\/osc.names.lookup x=some .free))&&FN.all (fun x=>decide (sc.names.lookup x=some .free))&&decide (FN.map some=fr.map fun j=>N[j]?)
def dE{N:List Str}{osc:Scope}(h:bkOk N sc osc FN fr=true):BkScope N sc osc LN FN fr:=by
 unfold bkOk at h;simp only[iE,jm,rm] at h;obtain⟨⟨⟨⟨⟨⟨h1,h2⟩,h3⟩,h4⟩,h5⟩,h6⟩,h7⟩:=h;exact⟨h1,h2,h3,h4,h5,h6,h7⟩
section
variable{X:Cx}
def rIxA(K:W.Frag):R2:=fun x y H Q=>rIxL K x y H Q\/rIxT K x y H Q
def ix_any:IxR X (rIxA X.K):=ix_list.or ix_tup
def Zpp{K:W.Frag}{xs:List V}{v:V}{Q:VK}(h:H p=some (.tup xs))(e:atI xs i=some v)(q:Q v H):rIxA K (.ref p) (.int i) H Q:=.inr (rd_ixT h e q)
def dP{K:W.Frag}{xs:List V}{v:V}{Q:VK}(h:H p=some (.lst xs))(e:atI xs i=some v)(q:Q v H):rIxA K (.ref p) (.int i) H Q:=.inl (rd_ixL h e q)
def cG{α:Type}{xs:List α}{v:α}(hi:i=(n:Int))(h:xs[n]?=some v):atI xs i=some v:=by
 subst hi;have hl:n<xs.length:=(aT.mp h).1;unfold atI ixN;rw[am (by lia),am (by lia)];simpa using h
def kT{m:Nat}(hi:i=(n:Int))(h:n<m):ixN m i=some n:=by
 subst hi;unfold ixN;rw[am (by lia),am (by lia)];simp
def rLen(K:W.Frag):List V->Hp->VK->Prop:=fun xs H Q=>∃ x n,xs=[x]/\LenV K x H n/\Q (.int n) H
def Zmx:cm X (.builtin "len") (rLen X.K):=ZnL
def xD{K:W.Frag}{Q:VK}(h:SqL K H p ys)(q:Q (.int ys.length) H):rLen K [.ref p] H Q:=⟨_,_,rfl,.inl ⟨ys,h,rfl⟩,q⟩
def rAbs:List V->Hp->VK->Prop:=fun xs H Q=>∃ i,xs=[.int i]/\Q (.int (if i<0 then -i else i)) H
def nh:cm X (.builtin "abs") rAbs:=ZnM
def rd_abs{Q:VK}(q:Q (.int (if i<0 then -i else i)) H):rAbs [.int i] H Q:=⟨i,rfl,q⟩
def rMax:List V->Hp->VK->Prop:=fun xs H Q=>∃ i j,xs=[.int i,.int j]/\Q (.int (if j>i then j else i)) H
def uO(hc:X.calm=true):cm X (.builtin "max") rMax:=Zmv hc
def rMin:List V->Hp->VK->Prop:=fun xs H Q=>∃ i j,xs=[.int i,.int j]/\Q (.int (if j<i then j else i)) H
def Zmt(hc:X.calm=true):cm X (.builtin "min") rMin:=Zms hc
def rInt:List V->Hp->VK->Prop:=fun xs H Q=>(∃ i,xs=[.int i]/\Q (.int i) H)\/∃ k,xs=[.bl k]/\Q (.int (if k then 1 else 0)) H
def Zmz:cm X (.type "int") rInt:=Zmy
def km(K:W.Frag):List V->Hp->VK->Prop:=fun xs H Q=>∃ p ys,xs=[.ref p]/\((SqL K H p ys/\∀ l,H l=none->Q (.ref l) (upd H l (.tup ys)))\/(SqT K H p ys/\Q (.ref p) H))
def Zmr:cm X (.type "tuple") (km X.K):=Zgw
def tw{K:W.Frag}{Q:VK}(h:SqL K H p ys)(q:∀ l,H l=none->Q (.ref l) (upd H l (.tup ys))):km K [.ref p] H Q:=⟨p,ys,rfl,.inl ⟨h,q⟩⟩
def mF(K:W.Frag):List V->Hp->VK->Prop:=fun xs H Q=>∃ p ys,xs=[.ref p]/\(SqL K H p ys\/SqT K H p ys)/\∀ l,H l=none->Q (.ref l) (upd H l (.lst ys))
def Zmw:cm X (.type "list") (mF X.K):=Zhv
def fU(h:Nat.ble n 1000=true):n<=sizeLine:=ii (jn h)
end
section
variable{X:Cx}{K:W.Frag}
def k_ix(h:X.K=K):IxR X (rIxA K):=h▸ix_any
def bc(h:X.K=K):cm X (.builtin "len") (rLen K):=h▸Zmx
def fh(h:X.K=K):cm X (.type "tuple") (km K):=h▸Zmr
def oN(h:X.K=K):cm X (.type "list") (mF K):=h▸Zmw
def k_sl(h:X.K=K):SlR X (rSlL K):=h▸Zph
def k_in(h:X.K=K):OpR X (compareOp .In) (rIn K false):=h▸ZlA
def vR(h:X.K=K):OpR X (compareOp .NotIn) (rIn K true):=h▸Zhb
def eU{l:Expr}(h:X.K=K)(hl:PE X l tl):PI X tg l (mC K tl):=h▸ZpG hl
def dL{l:Expr}(h:X.K=K)(hl:PE X l tl):PI X tg l (iTup K tl):=h▸pi_tup hl
def cM{k:Nat}{t:TGs}(h:X.K=K)(hc:X.calm=true)(hg:PGs X es t)
  (hn:(assignEach es X.env).length=n:=by rfl) (hst:(assignEach es X.env).findIdx? (·.1)=none:=by rfl):PG X (.Tuple es k pos) (gTup K n t):=h▸pg_tup hc hg hn hst
variable{o:Expr}{t:TA}{name:Str}{cpos:Pos}{T id:String}{r:V->List V->Hp->VK->Prop}
def k_bm(h:X.K=K)(pa:PlainAttrs T)(slot:Slot T name id)(hty:typeOf (.builtin id)=pure (.type "method_descriptor"))(hm:MtR X id r)(ho:PE X o to)(ha:PA X (e::es) t)
  (hbase:attributeBase o name X.env (eval o X.env)=eval o X.env:=by rfl)
  (hfew:((backTo cpos (starEach (e::es) X.env)).all (fun x=>!x.1) && (backToKw cpos (keywordEach [] X.env)).all (fun x=>x.1.isSome)
  &&decide ((e::es).length+([]:List Keyword).length+(if ([]:List Keyword).isEmpty then 0 else 1)<30))=true:=by rfl)
  (hline:(apos.endLine == cpos.line)=true:=by rfl) (hs:starEach (e::es) X.env=(false,eval e X.env)::starEach es X.env:=by rfl) (hplain:(backTo cpos (starEach es X.env)).any (·.1)=false:=by rfl) :
  PE X (.Call (.Attribute o name apos) (e::es) [] cpos) (tBM K T r to t):=h▸pe_bm pa slot hty hm ho ha hbase hfew hline hs hplain
def k_bm0(h:X.K=K)(pa:PlainAttrs T)(slot:Slot T name id)(hty:typeOf (.builtin id)=pure (.type "method_descriptor"))(hm:MtR X id r)(ho:PE X o to)
  (hbase:attributeBase o name X.env (eval o X.env)=eval o X.env:=by rfl) (hline:(apos.endLine == cpos.line)=true:=by rfl):PE X (.Call (.Attribute o name apos) [] [] cpos) (tBM0 K T r to):=h▸pe_bm0 pa slot hty hm ho hbase hline
end
structure TopFn(K:W.Frag)(mg:Str->Option Value)(x:Str)(st:Stmt)(ps:List Str):Prop where
 ex:∃ f fd,Fun K x x st f fd/\mg x=some (.ref f)/\Binds K fd ps []
section
variable{P:Program}{w:World}{K:W.Frag}{mg:Str->Option Value}{base:Heap}{st:Stmt}{ps N:List Str}{k:Nat}
def TopFn.callee(T:TopFn K mg x st ps)(h:∀ f fd,Fun K x x st f fd->FnOk P w K mg base CX0 k f fd ps sp):Callee P w K mg base x k ps sp:=by
 obtain⟨f,fd,F,hm,hb⟩:=T.ex;exact⟨f,fd,h f fd F,hm,F.kp,hb⟩
def sp1(b:V->Hp->VK->Prop):Sp:=fun vs H Q _=>∃ x,vs=[x]/\b x H Q
def sp2(b:V->V->Hp->VK->Prop):Sp:=fun vs H Q _=>∃ x y,vs=[x,y]/\b x y H Q
def use1{b:V->Hp->VK->Prop}{x:V}{Q:VK}{E:XK}(h:b x H Q):sp1 b [x] H Q E:=⟨x,rfl,h⟩
def use2{b:V->V->Hp->VK->Prop}{x:V}{Q:VK}{E:XK}(h:b x y H Q):sp2 b [x,y] H Q E:=⟨x,y,rfl,h⟩
noncomputable def mJ(P:Program)(w:World)(K:W.Frag)(mg:Str->Option Value)(base:Heap)(N:List Str)(x:Str)(st:Stmt)(f:Addr)(cdv:Value)(A:Around)(outer:List Env)(s:Shared)(H:Hp)(vs:List V)(Q:VK)(E:XK):Prop :=
 ∃ t,PSs (cxOf CX0 P w K mg base N x (bG st) f cdv A outer s H E).nox (dO st) t/\t { nx:=fun _ H'=>Q .non H',rt:=Q } (start N vs) H
def TopFn.ok1{a1:Str}{b:V->Hp->VK->Prop}(T:TopFn K mg x st [a1])(S:FnScope N [a1] (bG st))
  (h:∀ (f:Addr) (cdv:Value) (A:Around) (outer:List Env) (s:Shared) (H:Hp) (v1:V) (Q:VK) (E:XK),Room k (A.deeper (envOfC x (bG st) s.heap.objs.size f cdv))->b v1 H Q->mJ P w K mg base N x st f cdv A outer s H [v1] Q E):Callee P w K mg base x (k+1) [a1] (sp1 b) :=
 T.callee fun f fd F=>F.ok S (fun vs H Q E ⟨_,e,_⟩=>by rw[e];rfl) fun cdv A outer s H vs Q E hr hsp=>by
  obtain⟨v1,rfl,hb⟩:=hsp;exact h f cdv A outer s H v1 Q E hr hb
def TopFn.ok2{a1 a2:Str}{b:V->V->Hp->VK->Prop}(T:TopFn K mg x st [a1,a2])(S:FnScope N [a1,a2] (bG st))
  (h:∀ (f:Addr) (cdv:Value) (A:Around) (outer:List Env) (s:Shared) (H:Hp) (v1 v2:V) (Q:VK) (E:XK),Room k (A.deeper (envOfC x (bG st) s.heap.objs.size f cdv))->b v1 v2 H Q->mJ P w K mg base N x st f cdv A outer s H [v1,v2] Q E):Callee P w K mg base x (k+1) [a1,a2] (sp2 b) :=
 T.callee fun f fd F=>F.ok S (fun vs H Q E ⟨_,_,e,_⟩=>by rw[e];rfl) fun cdv A outer s H vs Q E hr hsp=>by
  obtain⟨v1,v2,rfl,hb⟩:=hsp;exact h f cdv A outer s H v1 v2 Q E hr hb
def m8{f:Addr}{cdv:Value}{s:Shared}{Q:VK}{E:XK}{t:TS}(Z:St)(hσ:start N vs=Z)(h:PSs (cxOf CX0 P w K mg base N x (bG st) f cdv A outer s H E).nox (dO st) t)
  (q:t { nx:=fun _ H'=>Q .non H',rt:=Q } Z H):mJ P w K mg base N x st f cdv A outer s H vs Q E:=⟨t,h,by rw[hσ];exact q⟩
end
end L2
namespace L2
open PySem PySem.Spec PyProof.Rows
def ZoM{b:Bool}{A B:Prop}(h:b=false)(q:B):if b=true then A else B:=by subst h;exact iteF q
def ZlU{b:Bool}{A B:Prop}(h:b=true)(q:A):if b=true then A else B:=by subst h;exact iteT q
def xO{c A B:Prop}[Decidable c](h:¬ c)(q:B):if decide c=true then A else B:=by rw[bz h];exact iteF q
def uU{c A B:Prop}[Decidable c](h:c)(q:A):if decide c=true then A else B:=by rw[aX h];exact iteT q
def ite_ny{c A B:Prop}[Decidable c](h:¬ c)(q:A):if (!decide c)=true then A else B:=by rw[bz h];exact iteT q
def bU{c A B:Prop}[Decidable c](h:c->A)(q:¬ c->B):if decide c=true then A else B:=by
 by_cases e:c
 .exact uU e (h e)
 .exact xO e (q e)
def tH{c A B:Prop}[Decidable c](h:¬ c->A)(q:c->B):if (!decide c)=true then A else B:=by
 by_cases e:c
 .exact iteNS e (q e)
 .exact ite_ny e (h e)
def pairD(p:Int×Int):D:=.tup [.int p.1,.int p.2]
end L2
namespace L2
def jz(h:n<=1000000):n<=PySem.sizeLine:=bo h (by rw[PySem.sizeLine_eq];decide)
end L2
namespace L2
def wq{A B:Prop}(h:B):if (!true)=true then A else B:=iteF h
def ul{A B:Prop}(h:A):if (!false)=true then A else B:=iteT h
end L2
namespace L2
open PySem
def Zmn(ns:List Int)(lo hi:Option Int):∃ ms:List Int,cutV (ns.map V.int) lo hi=ms.map V.int/\ms.length<=ns.length:=by
 refine⟨(ns.drop (HT.sIx (ns.map V.int).length 0 lo)).take (HT.sIx (ns.map V.int).length (ns.map V.int).length hi-HT.sIx (ns.map V.int).length 0 lo),?_,?_⟩
 .unfold cutV;rw[map_take,map_drop]
 .rw[fJ,jj];exact bo (jY _ _) (jZ _ _)
def oQ{K:W.Frag}{xs:List V}{lo:Option Int}{Q:VK}(h:SqL K H a xs)(q:∀ p,H p=none->Q (.ref p) (upd H p (.lst (cutV xs lo hi)))):rSlL K (.ref a) lo hi H Q:=⟨a,xs,rfl,h,q⟩
def xA{l b:Addr}{xs zs:List V}{Q:VK}(h1:H l=some (.lst xs))(h2:H b=some (.lst zs))(hl:xs.length+zs.length<=sizeLine)(q:∀ p,H p=none->Q (.ref p) (upd H p (.lst (xs++zs)))):rCat (.ref l) (.ref b) H Q:=⟨l,b,xs,zs,rfl,rfl,h1,h2,hl,q⟩
def ints_get{i:Nat}{x:V}(h:(ns.map V.int)[i]?=some x):∃ z,x=.int z/\ns[i]?=some z:=by
 rw[ak] at h;obtain⟨z,e,rfl⟩:=bh.mp h;exact⟨z,rfl,e⟩
def Zo8{b:Addr}{o u:HO}(h:H b=some u)(hn:H a=none):upd H a o b=some u:=by rw[bC (iM h hn)];exact h
def iN(K:W.Frag):Sp:=sp1 fun x H Q=>∃ (a:Addr) (ns:List Int),x=.ref a/\SqL K H a (ns.map V.int)/\ns.length<=63/\∀ H',Q (.bl true) H'
def ZmU{K:W.Frag}{E:XK}(hl:ns.length<=63)(hS:SqL K H a (ns.map V.int)):iN K [.ref a] H (fun v _=>v=.bl true) E:=⟨_,rfl,a,ns,rfl,hS,hl,fun _=>rfl⟩
def Fun.law{P:Program}{w:World}{K:W.Frag}{mg:Str->Option Value}{base:Heap}{st:Stmt}{f:Addr}{fd:FuncData}{N:List Str}{k:Nat}(F:Fun K "law" "law" st f fd)(S:FnScope N ["script"] (bG st))
  (h:∀ (cdv:Value) (A:Around) (outer:List Env) (s:Shared) (H:Hp) (a:Addr) (ns:List Int) (Q:VK) (E:XK),Room k (A.deeper (PyProof.Rows.envOfC "law" (bG st) s.heap.objs.size f cdv))->SqL K H a (ns.map V.int)->ns.length<=63->(∀ H',Q (.bl true) H') ->
   mJ P w K mg base N "law" st f cdv A outer s H [.ref a] Q E):FnOk P w K mg base CX0 (k+1) f fd ["script"] (iN K) :=
 F.ok S (fun vs H Q E ⟨_,e,_⟩=>by rw[e];rfl) fun cdv A outer s H vs Q E hr hsp=>by
  obtain⟨_,rfl,a,ns,rfl,h1,h2,h3⟩:=hsp;exact h cdv A outer s H a ns Q E hr h1 h2 h3
end L2
namespace L2
def ten60:(10:Int)^(60:Int).toNat=1000000000000000000000000000000000000000000000000000000000000:=by decide +kernel
def mZ:CPow 10 60:=⟨by decide,by decide,by decide⟩
def qJ{x:Int}(h:x.natAbs<=10^70):x.natAbs<2^8000:=jk h (by decide +kernel)
def va{x y:Int}(h:x.natAbs<=10^70)(h2:y.natAbs<=10^70):CBig x y:=⟨qJ h,qJ h2⟩
def jT{x y:Int}(h:0<y)(h2:y.natAbs<=10^70):iX x y:=⟨h,qJ h2⟩
end L2
end
section
namespace L2
open PySem PySem.W PyProof.Rows
abbrev xs(n:String)(t:Tok):Value:=.str (Str.ofString n) t
abbrev xi(n:Int)(t:Tok):Value:=.int n t
abbrev xr(a:Addr):Value:=.ref a
abbrev xe(P:Params)(n:String)(t:Tok)(v:Value):DictEntry:=⟨PyData.keyHash P (Str.ofString n),.str (Str.ofString n) t,v⟩
abbrev oD(es:Array DictEntry)(n:Nat):Obj:={ cls:=.type "dict",data:=.dict es n }
abbrev oT(vs:Array Value):Obj:={ cls:=.type "tuple",data:=.seq vs }
abbrev oC(vs:Array Value):Obj:={ cls:=.type "code",data:=.fields vs }
abbrev oF(n q:Str)(st:Stmt)(m:String)(t:Tok)(c:Addr):Obj:={ cls:=.type "function",data:=.func (fnOf n q (fW st) (dO st) (bG st) .none .none .none (xs m t) none (xr c) .none) }
abbrev oG(n:Str)(st:Stmt)(m:String)(t:Tok)(c:Addr):Obj:=oF n n st m t c
abbrev xf(P:Params)(n:String)(t:Tok)(a:Addr):DictEntry:=xe P n t (xr a)
noncomputable abbrev oK(n:String)(t l a r:Nat):Obj:=oC #[xs n t,xs n (t+1),xs "/claim/cut.py" (t+2),xi l 0,xi a 0,xi 0 0,xi 0 0,xi 3 0,xr r,.bool true,xi 181 0,xr (r+1),.none,.none,.none,xr (r+2),xi (t+3) 0,xi l 0,xs "/claim/cut.py" (t+4)]
def Zj0{p q:Program}{Xt:Shared->Bool}{α:Type}{Yf:Shared->α}{Ya:World->α}{N:Nat}(row:String)
  (e:opening p=plainProg p.main.scope.names) (hN:Nat.ble 600 N=true) (f:∀ s,fenceModules? p s=some s)
  (h:∀ (b:Bool) (w:World) (os:OsState),(topFrom treeTable p (w.withFollow row b) N ⟨j7 (w.withFollow row b).params,Array.mk [],boot_drawn,boot_toks,os⟩).map (fun s=>(openSeen q loose (importedModules p.main.body) Xt true s,Yf s))=some (openGood q loose,Ya (w.withFollow row b))) :
  LeftO p q loose Xt Yf Ya N:=fun w=>by
 have h':=byRow2 row (P:=fun w=>∀ os,(topFrom treeTable p w N ⟨j7 w.params,Array.mk [],boot_drawn,boot_toks,os⟩).map (fun s=>(openSeen q loose (importedModules p.main.body) Xt true s,Yf s))=some (openGood q loose,Ya w)) (fun w=>h false w) (fun w=>h true w) w;obtain⟨⟨hp,gs,d,k,os⟩,e1,e2⟩:=bh.mp (boot_open e hN f w);obtain⟨rfl,rfl,rfl,rfl⟩:hp=j7 w.params/\gs=Array.mk []/\d=boot_drawn/\k=boot_toks:=by simpa using e2
 unfold openEnds;rw[e1];exact h' os
def top_tw{p:Program}{w:World}{N:Nat}{s₀:Shared}{β:Type}{F:Shared->β}{r:β}{m:Nat}{ann:Option Value}
  (z1:(s₀.heap.isNs mainGlobals&&s₀.gens.size == 0)=true) (z2:s₀.heap.objs.size=m) (z3:s₀.heap.nsMap mainGlobals "__annotations__"=ann)
  (h:((PySem.W.Fast.tw14082659384304107361 PySem.W.Fast.tw14364793385576792824 p w m ann N s₀ (topStub p)).bind fun s₁=>match staticsOk (importedModules p.main.body) s₀.heap s₁.heap&&namesBound p s₁.heap&&gensDone s₁&&laidKept s₀.heap s₁.heap with|true=>some s₁|false=>none).map F=some r) :
  (topFrom treeTable p w N s₀).map F=some r:=by
 unfold topFrom;rw[z1,z2,z3,PySem.W.Fast.te14082659384304107361,PySem.W.Fast.te14364793385576792824];exact h
noncomputable abbrev LB(row:String)(b:Bool)(p q:Program)(loose:List Str)(Xt:Shared->Bool){α:Type}(Yf:Shared->α)(Ya:World->α)(N:Nat):Prop :=
 ∀ (w:World) (os:OsState),((PySem.W.Fast.tw14082659384304107361 PySem.W.Fast.tw14364793385576792824 p (w.withFollow row b) 11 (some (.ref 6)) N ⟨j7 (w.withFollow row b).params,Array.mk [],boot_drawn,boot_toks,os⟩ (topStub p)).bind fun s=>match staticsOk (importedModules p.main.body) (j7 (w.withFollow row b).params) s.heap&&namesBound p s.heap&&gensDone s&&laidKept (j7 (w.withFollow row b).params) s.heap with|true=>some s|false=>none).map (fun s=>(PySem.W.Fast.tw4187177175401517315 q loose (importedModules p.main.body) Xt true s,Yf s))=some (openGood q loose,Ya (w.withFollow row b))
def ZlI{p q:Program}{Xt:Shared->Bool}{α:Type}{Yf:Shared->α}{Ya:World->α}{N:Nat}{row:String}(h0:LB row false p q loose Xt Yf Ya N)(h1:LB row true p q loose Xt Yf Ya N)
  (e:opening p=plainProg p.main.scope.names:=by kernel_rfl) (hN:Nat.ble 600 N=true:=by kernel_rfl) (f:∀ s,fenceModules? p s=some s:=by intro s;kernel_rfl):LeftO p q loose Xt Yf Ya N:=by
 refine Zj0 row e hN f fun b w os=>?_;refine top_tw (m:=11) (ann:=some (.ref 6)) (by kernel_rfl) (by kernel_rfl) (by kernel_rfl) ?_;rw[PySem.W.Fast.te4187177175401517315];cases b
 .exact h0 w os
 .exact h1 w os
def uc{M:List Value->Prop}(h:∀ a us,us.length=n->M (a::us))(us:List Value)(hl:us.length=n+1):M us:=by
 cases us with
 | nil=>cases hl
 | cons a us=>exact h a us (Nat.succ.inj hl)
def un0{M:List Value->Prop}(h:M [])(us:List Value)(hl:us.length=0):M us:=by
 cases us with
 | nil=>exact h
 | cons a us=>cases hl
section
variable{K:Frag}{h:Heap}{mg:Str->Option Value}{m:Str}{st:Stmt}
def gv(X:K.In h)(G:h.Ns mainGlobals mg)(e:nsIn K mainGlobals x=some (some v):=by kernel_rfl):mg x=some v:=mg_of X G e
def gz(X:K.In h)(G:h.Ns mainGlobals mg)(e:nsIn K mainGlobals x=some none:=by kernel_rfl):mg x=none:=mg_none_of X G e
def lo(a:Addr)(o:Obj)(e:K.lookup a=some o:=by kernel_rfl):K.lookup a=some o:=e
def tf1{p1:Str}(X:K.In h)(G:h.Ns mainGlobals mg)(f:Addr)(md:String)(t:Tok)(c:Addr)(a:nsIn K mainGlobals x=some (some (.ref f)):=by kernel_rfl)(l:K.lookup f=some (oF x x st md t c):=by kernel_rfl)(cc:codeIn K (xr c) x=true:=by kernel_rfl)(k:keepIn K (.ref f)=true:=by kernel_rfl)
  (b:∀ (kV doc pm:Value) (an:Option Addr) (cdv ct:Value) (u1:Value),bindArgs (fnOf x x (fW st) (dO st) (bG st) .none kV doc pm an cdv ct) ⟨[u1],[]⟩=pure [(p1,u1)]:=by intros;kernel_rfl):TopFn K mg x st [p1] :=
 ⟨_,_,fj l cc k,mg_of X G a,(fj l cc k).binds fun _ _ _ _ _ _=>uc fun _=>un0 (b ..)⟩
def tf2{p1 p2:Str}(X:K.In h)(G:h.Ns mainGlobals mg)(f:Addr)(md:String)(t:Tok)(c:Addr)(a:nsIn K mainGlobals x=some (some (.ref f)):=by kernel_rfl)(l:K.lookup f=some (oF x x st md t c):=by kernel_rfl)(cc:codeIn K (xr c) x=true:=by kernel_rfl)(k:keepIn K (.ref f)=true:=by kernel_rfl)
  (b:∀ (kV doc pm:Value) (an:Option Addr) (cdv ct:Value) (u1 u2:Value),bindArgs (fnOf x x (fW st) (dO st) (bG st) .none kV doc pm an cdv ct) ⟨[u1,u2],[]⟩=pure [(p1,u1),(p2,u2)]:=by intros;kernel_rfl):TopFn K mg x st [p1,p2] :=
 ⟨_,_,fj l cc k,mg_of X G a,(fj l cc k).binds fun _ _ _ _ _ _=>uc fun _=>uc fun _=>un0 (b ..)⟩
def tf3{p1 p2 p3:Str}(X:K.In h)(G:h.Ns mainGlobals mg)(f:Addr)(md:String)(t:Tok)(c:Addr)(a:nsIn K mainGlobals x=some (some (.ref f)):=by kernel_rfl)(l:K.lookup f=some (oF x x st md t c):=by kernel_rfl)(cc:codeIn K (xr c) x=true:=by kernel_rfl)(k:keepIn K (.ref f)=true:=by kernel_rfl)
  (b:∀ (kV doc pm:Value) (an:Option Addr) (cdv ct:Value) (u1 u2 u3:Value),bindArgs (fnOf x x (fW st) (dO st) (bG st) .none kV doc pm an cdv ct) ⟨[u1,u2,u3],[]⟩=pure [(p1,u1),(p2,u2),(p3,u3)]:=by intros;kernel_rfl):TopFn K mg x st [p1,p2,p3] :=
 ⟨_,_,fj l cc k,mg_of X G a,(fj l cc k).binds fun _ _ _ _ _ _=>uc fun _=>uc fun _=>uc fun _=>un0 (b ..)⟩
def tf4{p1 p2 p3 p4:Str}(X:K.In h)(G:h.Ns mainGlobals mg)(f:Addr)(md:String)(t:Tok)(c:Addr)(a:nsIn K mainGlobals x=some (some (.ref f)):=by kernel_rfl)(l:K.lookup f=some (oF x x st md t c):=by kernel_rfl)(cc:codeIn K (xr c) x=true:=by kernel_rfl)(k:keepIn K (.ref f)=true:=by kernel_rfl)
  (b:∀ (kV doc pm:Value) (an:Option Addr) (cdv ct:Value) (u1 u2 u3 u4:Value),bindArgs (fnOf x x (fW st) (dO st) (bG st) .none kV doc pm an cdv ct) ⟨[u1,u2,u3,u4],[]⟩=pure [(p1,u1),(p2,u2),(p3,u3),(p4,u4)]:=by intros;kernel_rfl):TopFn K mg x st [p1,p2,p3,p4] :=
 ⟨_,_,fj l cc k,mg_of X G a,(fj l cc k).binds fun _ _ _ _ _ _=>uc fun _=>uc fun _=>uc fun _=>uc fun _=>un0 (b ..)⟩
def tf5{p1 p2 p3 p4 p5:Str}(X:K.In h)(G:h.Ns mainGlobals mg)(f:Addr)(md:String)(t:Tok)(c:Addr)(a:nsIn K mainGlobals x=some (some (.ref f)):=by kernel_rfl)(l:K.lookup f=some (oF x x st md t c):=by kernel_rfl)(cc:codeIn K (xr c) x=true:=by kernel_rfl)(k:keepIn K (.ref f)=true:=by kernel_rfl)
  (b:∀ (kV doc pm:Value) (an:Option Addr) (cdv ct:Value) (u1 u2 u3 u4 u5:Value),bindArgs (fnOf x x (fW st) (dO st) (bG st) .none kV doc pm an cdv ct) ⟨[u1,u2,u3,u4,u5],[]⟩=pure [(p1,u1),(p2,u2),(p3,u3),(p4,u4),(p5,u5)]:=by intros;kernel_rfl):TopFn K mg x st [p1,p2,p3,p4,p5] :=
 ⟨_,_,fj l cc k,mg_of X G a,(fj l cc k).binds fun _ _ _ _ _ _=>uc fun _=>uc fun _=>uc fun _=>uc fun _=>uc fun _=>un0 (b ..)⟩
def tf6{p1 p2 p3 p4 p5 p6:Str}(X:K.In h)(G:h.Ns mainGlobals mg)(f:Addr)(md:String)(t:Tok)(c:Addr)(a:nsIn K mainGlobals x=some (some (.ref f)):=by kernel_rfl)(l:K.lookup f=some (oF x x st md t c):=by kernel_rfl)(cc:codeIn K (xr c) x=true:=by kernel_rfl)(k:keepIn K (.ref f)=true:=by kernel_rfl)
  (b:∀ (kV doc pm:Value) (an:Option Addr) (cdv ct:Value) (u1 u2 u3 u4 u5 u6:Value),bindArgs (fnOf x x (fW st) (dO st) (bG st) .none kV doc pm an cdv ct) ⟨[u1,u2,u3,u4,u5,u6],[]⟩=pure [(p1,u1),(p2,u2),(p3,u3),(p4,u4),(p5,u5),(p6,u6)]:=by intros;kernel_rfl):TopFn K mg x st [p1,p2,p3,p4,p5,p6] :=
 ⟨_,_,fj l cc k,mg_of X G a,(fj l cc k).binds fun _ _ _ _ _ _=>uc fun _=>uc fun _=>uc fun _=>uc fun _=>uc fun _=>uc fun _=>un0 (b ..)⟩
end
end L2
end
section
namespace L2
open PySem
def bagL(l:Addr)(i m st c:Int):List V:=[.ref l,.int i,.int m,.int st,.int c]
structure BagAt(H:Hp)(b l:Addr):Prop where
 ex:∃ (xs:List Int) (i:Nat) (m st c:Int),H b=some (.lst (bagL l i m st c))/\H l=some (.lst (xs.map V.int))/\i<=xs.length/\(0<=m/\m<=10^60)/\(0<=st/\st<2147483647)/\(∀ x∈xs,0<=x/\x<=10^60)/\xs.length<=63
def BSame(b:Addr)(H H':Hp):Prop:=∀ a o,a≠b->H a=some o->H' a=some o
def BSame.refl(b:Addr)(H:Hp):BSame b H H:=fun _ _ _ h=>h
def BSame.trans{b:Addr}(x:BSame b H H1)(y:BSame b H1 H2):BSame b H H2:=fun a o n h=>y a o n (x a o n h)
def BSame.wr{b:Addr}{o:HO}:BSame b H (upd H b o):=fun a u n h=>by rw[bC n];exact h
def BagAt.lst{H:Hp}{b l:Addr}(B:BagAt H b l):∃ xs,H b=some (.lst xs):=let ⟨_,_,_,_,_,h,_⟩:=B.ex;⟨_,h⟩
inductive drawB(x y:V)(H:Hp)(Q:VK):Prop
 | mk (b l n) (_:x=.ref b) (_:y=.int n) (_:0<n/\n<=10^65) (_:BagAt H b l) (_:∀ r H',0<=r->r<n->BagAt H' b l->BSame b H H'->Q (.int r) H'):drawB x y H Q
def mR:Sp:=sp2 drawB
inductive Pr_number(x:V)(H:Hp)(Q:VK):Prop
 | mk (b l) (_:x=.ref b) (_:BagAt H b l) (_:∀ r H',r.natAbs<=10^60->BagAt H' b l->BSame b H H'->Q (.int r) H'):Pr_number x H Q
def tR:Sp:=sp1 (Pr_number)
inductive Pr_bag(K:W.Frag)(x:V)(H:Hp)(Q:VK):Prop
 | mk (a:Addr) (ns:List Int) (_:x=.ref a) (_:SqL K H a (ns.map V.int)) (_:ns.length<=63) (_:∀ b l H',H b=none->Same H H'->BagAt H' b l->Q (.ref b) H'):Pr_bag K x H Q
def tZ(K:W.Frag):Sp:=sp1 (Pr_bag K)
end L2
end
section
namespace L3
open PySem PyProof.Rows
class KOrd where
 kd:SortKind
 good:Keyed->Prop
 kv:Keyed->Int
abbrev oneType'[KOrd]:SortKind:=KOrd.kd
def IntK[KOrd](x:Keyed):Prop:=KOrd.good x
def kvl[KOrd](x:Keyed):Int:=KOrd.kv x
def IntKeys[KOrd](xs:Array Keyed):Prop:=∀ q,q∈xs.toList->IntK q
def K[KOrd](xs:Array Keyed)(i:Nat):Int:=match xs[i]? with
 | some q=>kvl q
 | none=>0
class KLt[KOrd](P:Program)(W:World)(A:Around)(E:Value->Shared->Prop)(z:Shared):Prop where
 lt:∀ {u:SortSt} {x y:Keyed} {Q:Option Bool->SortSt->Prop},kindOf u=oneType'->IntK x->IntK y->Q (some (decide (kvl x<kvl y))) u->wpS (model P W) A E z (lt' x y) Q u
section
variable[KOrd]
def K_eq'{arr:Array Keyed}{i:Nat}(h:i<arr.size):K arr i=kvl arr[i]:=by
 unfold K;rw[getElem?_pos arr i h]
end
section
variable[KOrd]{P:Program}{W:World}{A:Around}{E:Value->Shared->Prop}{z:Shared}[KLt P W A E z]
def Zo1{u:SortSt}{x y:Keyed}{Q:Option Bool->SortSt->Prop}(hk:kindOf u=oneType')(hx:IntK x)(hy:IntK y)(h:Q (some (decide (kvl x<kvl y))) u):wpS (model P W) A E z (lt' x y) Q u:=KLt.lt hk hx hy h
def bey(left:Bool)(kv:Int)(arr:Array Keyed)(base i:Nat):Bool:=if left then decide (K arr (base+i)<kv) else !decide (kv<K arr (base+i))
end
end L3
end
section
namespace L3
open PySem PyProof.Rows
variable[KOrd]
def Zqt(xs:List Keyed):Prop:=xs.Pairwise fun p q=>kvl p<=kvl q
structure Laid(a b r:List Keyed):Prop where
 perm:r.Perm (a++b)
 up:Zqt r
section
variable{P:Program}{W:World}{A:Around}{E:Value->Shared->Prop}{z:Shared}[KLt P W A E z]
def sr{u:SortSt}{arr:Array Keyed}{i:Nat}{Q:Keyed->SortSt->Prop}(h:i<arr.size)(q:Q arr[i] u):wpS (model P W) A E z (elem' arr i) Q u:=by
 rw[elem'_eq,getElem?_pos arr i h];exact gY q
structure Fr(u v:SortSt):Prop where
 kind:kindOf v=kindOf u
 arr:arrOf v=arrOf u
 pend:pendingOf v=pendingOf u
 failed:failedOf v=failedOf u
end
def K_kvl{a:Array Keyed}{i:Nat}(h:i<a.size):K a i=kvl a[i]:=K_eq' h
def wU{a:Array Keyed}(h:IntKeys a){i:Nat}(hi:i<a.size):IntK a[i]:=h _ (Array.getElem_mem_toList hi)
end L3
end
section
namespace L3
open PySem PyProof.Rows
variable[KOrd]
def SegS(xs:Array Keyed)(lo n:Nat):Prop:=∀ i j,lo<=i->i<=j->j<lo+n->K xs i<=K xs j
end L3
end
section
namespace L3
open PySem PyProof.Rows
variable[KOrd]
structure Bas(a₀:Array Keyed)(p:Array (Nat×Nat×Nat))(st:SortSt):Prop where
 perm:(arrOf st).Perm a₀
 kind:kindOf st=oneType'
 failed:failedOf st=none
 pend:pendingOf st=p
section
variable{P:Program}{W:World}{A:Around}{E:Value->Shared->Prop}{z:Shared}[KLt P W A E z]{a₀:Array Keyed}{p:Array (Nat×Nat×Nat)}
def Bas.size{st:SortSt}(h:Bas a₀ p st):(arrOf st).size=a₀.size:=h.perm.size_eq
def Zho{xs:Array Keyed}(h0:IntKeys a₀)(h:xs.Perm a₀):IntKeys xs:=fun q hq=>h0 q ((Array.perm_iff_toList_perm.mp h).mem_iff.mp hq)
def Zo2{st:SortSt}{i j:Nat}{Q:Option Bool->SortSt->Prop}(hB:Bas a₀ p st)(h0:IntKeys a₀)(hi:i<a₀.size)(hj:j<a₀.size)(h:Q (some (decide (K (arrOf st) i<K (arrOf st) j))) st):wpS (model P W) A E z (ltAt' i j) Q st:=by
 have hI:=Zho h0 hB.perm;have e1:i<(arrOf st).size:=by rw[hB.size];exact hi
 have e2:j<(arrOf st).size:=by rw[hB.size];exact hj
 rw[ltAt'_eq];refine eX (wpS_get ?_);refine eX (sr e1 ?_);refine eX (sr e2 ?_);rw[K_kvl e1,K_kvl e2] at h;exact Zo1 hB.kind (wU hI e1) (wU hI e2) h
def ZmO{st:SortSt}{lo a nrem:Nat}{β:Type}{o:Option β}{f:Nat->Option β×Nat->StateT SortSt Sem (ForInStep (Option β×Nat))}{Q:Option β×Nat->SortSt->Prop}(ha:1<=a)(han:a<=nrem)(hs:SegS (arrOf st) lo a)
  (hf:∀ x n (R:ForInStep (Option β×Nat)->SortSt->Prop),1<=n->n<nrem->(K (arrOf st) (lo+n)<K (arrOf st) (lo+n-1)->R (.done (o,n)) st)->(¬ K (arrOf st) (lo+n)<K (arrOf st) (lo+n-1)->R (.yield (o,n+1)) st)->wpS (model P W) A E z (f x (o,n)) R st)
  (h:∀ n,a<=n->n<=nrem->SegS (arrOf st) lo n->(n=nrem\/K (arrOf st) (lo+n)<K (arrOf st) (lo+n-1))->Q (o,n) st):wpS (model P W) A E z (forIn [a:nrem] (o,a) f) Q st:=by
 refine wpS_forRange (I:=fun x c st'=>st'=st/\c=(o,x)/\SegS (arrOf st) lo x) ?step ?fin ⟨rfl,rfl,hs⟩
 case fin =>
  rintro c st' ⟨rfl,rfl,hs'⟩;rw[show max a nrem=nrem by lia] at hs' ⊢;exact h nrem han (aE _) hs' (.inl rfl)
 case step =>
  rintro x c st' hax hxn ⟨rfl,rfl,hs'⟩;refine hf x x _ (by lia) hxn (fun hl=>h x hax (by lia) hs' (.inr hl)) fun hl=>⟨rfl,rfl,fun i j h1 hij hj=>?_⟩;by_cases hjx:j<lo+x
  .exact hs' i j h1 hij hjx
  .have hj':j=lo+x:=by lia
   subst hj';by_cases hi':i=lo+x
   .subst hi';exact lH _
   .exact Int.le_trans (hs' i (lo+x-1) h1 (by lia) (by lia)) (Int.not_lt.mp hl)
end
end L3
end
section
namespace L2
open PySem PySem.Spec PyProof.Rows
section
variable{P:Program}{W:World}{z:Shared}
noncomputable def sK(P:Program)(W:World)(A:Around)(E:Value->Shared->Prop)(z:Shared)(b:Array Keyed):Prop :=
 ∀ u:SortSt,SBase b u->arrOf u=b->wpS (model P W) A E z sortRuns' (fun _ v=>(arrOf v).Perm b/\failedOf v=none/\SortedTo (arrOf v) b.size) u
def ZmX{b:Array Keyed}(hk:IntKeys b)(h2:2<=b.size)(h:b.size<64):sK P W A E z b:=fun u hu _=>wpS_sortRuns hk hu h2 h fun v a c d=>⟨a,c,d⟩
def Zpf{us:List Value}{k:Nat}{F:PySem.Fin->Shared->Prop}(ho:z.heap.get? a=some (seqObj "list" us.toArray k))(hi:IntsAre us ns)(hz:us.length<=sizeLine)
  (hr:2<=us.length->∀ z',sK P W A E z' (pairsOf us))
  (h:∀ (out:Array Value) (ms:List Int),IntsAre out.toList ms->ms.Perm ns->ms.Pairwise (·<=·)->F (.done (.ret .none)) { z with heap:=sortedHeap z.heap a us out }) :
  wpAny (model P W) A (Builtin.«list.sort» ⟨[.ref a],[]⟩) F E z:=by
 have hlt:a<z.heap.objs.size:=bn ho;have hus:us.toArray.size=us.length:=by simp
 obtain⟨ep,hoE⟩:∃ ep,(z.heap.update a (Obj.mapSeq fun _=>#[])).get? a=some (seqObj "list" #[] ep):=⟨_,get?_update_seq ho fun _=>#[]⟩;have hoF:(((z.heap.update a (Obj.mapSeq fun _=>#[])).push (seqObj "tuple" us.toArray 0)).push (seqObj "list" #[] 0)).get? a=some (seqObj "list" #[] ep):=br _ (br _ hoE);have ends:∀ v:SortSt,(arrOf v).Perm (pairsOf us)->SortedTo (arrOf v) (pairsOf us).size->F (.done (.ret .none)) { z with heap:=sortedHeap z.heap a us ((arrOf v).map (·.2)) }:=fun v hp hs=>by
  obtain⟨ms,q1,q2,q3⟩:=sorted_out hi hp hs;exact h _ ms q1 q2 q3
 have hfit:∀ v:SortSt,(arrOf v).Perm (pairsOf us)->((arrOf v).map (·.2)).size<=sizeLine+1:=fun v hp=>by
  rw[Array.size_map,hp.size_eq,jo];lia
 rw[list_sort_plain];refine ae (listItems_at (o:=seqObj "list" us.toArray k) ho rfl ?_);refine ae (j8 (hsz:=by rw[hus];exact hz) (hsz2:=bO _) (o:=seqObj "list" us.toArray k) ho rfl ?_);refine ae (j9 (o:=seqObj "list" #[] ep) hoE rfl ?_);refine ae (nS ?_ (hsz:=by rw[fI,hus];exact hz));refine ae (nT ?_ (hsz:=bO _));refine eV (id ?_);dsimp only;by_cases hfew:us.toArray.size<2
 .rw[am hfew,am hfew];refine ae (aq (id ?_));rw[StateT.run_pure];refine ae (aq (id ?_));dsimp only;refine ae (j9 (o:=seqObj "list" #[] ep) hoF rfl ?_);refine ae (j8 (hsz:=bO _) (hsz2:=hfit (SortSt.mk' general' (us.toArray.zip us.toArray) #[] 7 none) (Array.Perm.refl _)) (o:=seqObj "list" #[] ep) hoF rfl ?_);simp only[nU,dA,cI];refine aq (ends (SortSt.mk' general' (us.toArray.zip us.toArray) #[] 7 none) (Array.Perm.refl _) fun i j hij hj=>?_);obtain rfl:i=j:=by rw[jo] at hj;lia
  exact lH _
 .rw[ao hfew,ao hfew];have hkind:keyKind' us.toArray=pure oneType':=by
   match us,hi,hus,hfew with
   | [],_,_,hf=>simp at hf
   | [_],_,_,hf=>simp at hf
   | _::_::_,hi,_,_=>exact keyKind_ints hi
  rw[hkind];refine ae (aq (id ?_));refine ae (dG (hr (by lia) _ (SortSt.mk' oneType' (us.toArray.zip us.toArray) #[] 7 none) ⟨Array.Perm.refl _,rfl,rfl,rfl⟩ rfl) ?_ fun _ _ q=>q);rintro⟨⟨⟩,v⟩ z' ⟨rfl,hp,hf,hs⟩;dsimp only;refine ae (j9 (o:=seqObj "list" #[] ep) hoF rfl ?_);refine ae (j8 (hsz:=bO _) (hsz2:=hfit v hp) (o:=seqObj "list" #[] ep) hoF rfl ?_);rw[hf];simp only[nU,dA,cI];exact aq (ends v hp hs)
end
def Un.track'{fs ex:List Addr}{h h1:Heap}{o:HO}(u:Un fs ex H H1 h h1)(hne:∀ b o,h.get? b=some o->b≠a)(hn:H a=none):Un fs ex H (upd H1 a o) h h1 where
 keep:=u.keep
 slot:=u.slot
 free:=fun b ob q n hx=>by
  rw[bC (hne b ob q)];exact u.free b ob q n hx
 there:=u.there
 tups:=fun b xs q=>by
  rw[bC (fun z=>by rw[z,hn] at q;cases q)];exact u.tups b xs q
 frzs:=fun b ob x q=>by
  rw[bC (fun z=>by rw[z,hn] at q;cases q)];exact u.frzs b ob x q
 tbls:=fun b ps q=>by
  rw[bC (fun z=>by rw[z,hn] at q;cases q)];exact u.tbls b ps q
def ObjOk.there{P:Program}{w:World}{h:Heap}{o:HO}(x:ObjOk P w H h a o):∃ ob,h.get? a=some ob:=by
 cases o with
 | lst xs=>obtain⟨_,_,_,_,e⟩:=x;exact⟨_,e⟩
 | tup xs=>obtain⟨_,_,_,ob,e,_⟩:=x;exact⟨_,e⟩
 | dK kvs=>obtain⟨_,_,_,_,o,_,_,e,_⟩:=x;exact⟨_,e⟩
 | dT kvs=>obtain⟨_,_,_,_,o,_,_,e,_⟩:=x;exact⟨_,e⟩
 | set S n=>obtain⟨o,_,_,_,e,_⟩:=x;exact⟨_,e⟩
 | ins C dx fs=>obtain⟨_,_,_,e,_⟩:=x;exact⟨_,e⟩
 | own y=>exact x
 | xd fs=>obtain⟨_,⟨o,_,_,e,_⟩,_⟩:=x;exact⟨_,e⟩
 | rng lo hi=>obtain⟨_,_,_,e⟩:=x;exact⟨_,e⟩
 | frz ob u=>obtain⟨e,_⟩:=x;exact⟨_,e⟩
 | tbl ps=>exact⟨_,x⟩
 | met f y=>exact⟨_,x⟩
 | ext φ=>obtain⟨_,e,_⟩:=x;exact e
theorem vh:∀ {us:List Value} {ns:List Int},IntsAre us ns->Vals (ns.map V.int) us
 | _,_,.nil=>.nil
 | _,_,.cons n t h=>.cons ⟨t,rfl⟩ (vh h)
theorem KV.at'{κ : Type} : ∀ {kvs : List (κ×V)} {vs : List (κ×Value)} {j : Nat} {k : κ} {x : Value}, KV kvs vs->vs[j]?=some (k, x)->∃ p, kvs[j]?=some p/\p.1=k
  | _, _, j, k, x, .nil, e=>by simp at e
  | p :: _, q :: _, 0, k, x, .cons r _, e => by
    simp at e;subst e;exact⟨p,rfl,r.1⟩
  | p :: ps, q :: qs, j + 1, k, x, .cons _ t, e => by
    obtain⟨p',e1,e2⟩:=KV.at' (j:=j) (kvs:=ps) (vs:=qs) t (by simpa using e);exact⟨p', by simpa using e1, e2⟩
theorem uR : ∀ {us : List Value} {ns : List Int}, us.length=ns.length->(∀ (j : Nat) v, us[j]?=some v->∃ n t, ns[j]?=some n/\v=Value.int n t)->IntsAre us ns
  | [], [], _, _=>.nil
  | [], _::_, h, _=>by simp at h
  | _::_, [], h, _=>by simp at h
  | u :: us, n :: ns, h, k => by
    obtain⟨n',t,e1,e2⟩:=k 0 u rfl;simp at e1;subst e1;subst e2;exact .cons n t (uR (by simpa using h) fun j v e=>k (j+1) v (by simpa using e))
end L2
namespace L2
open PySem
def kvT(t:List (Int×Int)):List (Key×V):=t.map fun q=>(Sum.inl q.1,V.int q.2)
def Znw(t:List (Int×Int)):(kvT t).map (·.1)=(t.map (·.1)).map Sum.inl:=by unfold kvT;simp
def ZkJ{t:List (Int×Int)}{w:Int}(h:∀ q∈t,q.1≠w):valV (kvT t) (Sum.inl w:Key)=none:=by
 induction t with
 | nil=>rfl
 | cons q t ih =>
  show valV ((Sum.inl q.1,V.int q.2)::kvT t) (Sum.inl w:Key)=none;rw[jP (fun e=>h q aQ (Sum.inl.inj e))];exact ih fun q' hq=>h q' (bD _ hq)
def Znb{t:List (Int×Int)}{w x:Int}(h:∀ q∈t,q.1≠w):putK (kvT t) (Sum.inl w:Key) (V.int x)=kvT (t++[(w,x)]):=by
 rw[Znd _ (ZkJ h)];unfold kvT;simp
end L2
end
section
namespace L3
open PySem PyProof.Rows
section
variable{P:Program}{w:World}{A:Around}{E:Value->Shared->Prop}{s:Shared}
def dd(ns:List Int):List Int:=firstMet (fun i=>ns.getD i 0) ns.length
end
end L3
end
section
namespace L2
open PySem PySem.Spec PyProof.Rows
def rIsN:R2:=fun x y H Q=>y=.non/\Q (.bl (decide (x=.non))) H
def rNotN:R2:=fun x y H Q=>y=.non/\Q (.bl (!decide (x=.non))) H
def qR{X:Cx}:OpR X (compareOp .Is) rIsN:=op_isN
def qP{X:Cx}:OpR X (compareOp .IsNot) rNotN:=ZpL
theorem tN : ∀ {l m : List Int}, l.Pairwise (·<=·)->m.Pairwise (·<=·)->l.Perm m->l=m
  | [], m, _, _, p=>by rw[nil_perm.mp p]
  | a::l, [], _, _, p=>by simp at p
  | a :: l, b :: m, h1, h2, p => by
    obtain⟨p1,p2⟩:=lI.mp h1;obtain⟨q1,q2⟩:=lI.mp h2;have hab : a=b:=by
      have ha:a∈b::m:=p.mem_iff.mp aQ;have hb:b∈a::l:=p.mem_iff.mpr aQ;rcases aI.mp ha with e|ha
      . exact e
      . rcases aI.mp hb with e | hb
        . exact e.symm
        . have := q1 a ha
          have:=p1 b hb;lia
    subst hab;rw[tN p2 q2 (List.Perm.cons_inv p)]
structure SgOk(sg:List (Int×Int)):Prop where
 pos:0<sg.length
 few:sg.length<=6
 first:∃ bx,sg[0]?=some (0,bx)
 all:∀ q∈sg,0<=q.1/\q.1<=4/\q.1<=q.2/\1<=q.2/\q.2<=8
section
variable{X:Cx}{C:Addr}{m:Str}{k:Nat}{ps:List Str}{o:Expr}{t:TA}{p:Pos}
def ku{n:Int}(hg:Gl X x)(h:∃ t,X.mg x=some (.int n t))(hd:(x == ("__debug__":Str))=false:=by decide):PE X (.Name x pos) (tC (.int n)):=by
 obtain⟨t,h⟩:=h;exact pC hg h ⟨t,rfl⟩ hd
def tCT(K:W.Frag)(xs:List V):TE:=fun _ H Q=>∀ a,(∀ H',SqT K H' a xs)->Q (.ref a) H
def IsCT(K:W.Frag)(mg:Str->Option Value)(x:Str)(xs:List V):Prop:=∃ a,mg x=some (.ref a)/\∃ (o:Obj) (its:Array Value) (n:Nat),K.lookup a=some o/\o.cls=.type "tuple"/\o.data=.seq its n/\its.size<=sizeLine/\Vals xs its.toList
def ZpI{K:W.Frag}{xs:List V}(hg:Gl X x)(h:IsCT K X.mg x xs)(hd:(x == ("__debug__":Str))=false:=by decide):PE X (.Name x pos) (tCT K xs):=by
 obtain⟨a,h,r⟩:=h;intro pins s Z H Q I q;exact pC (v:=.ref a) hg h rfl hd pins s Z H Q I (q a fun H'=>.inr r)
end
end L2
end
section
namespace L2
inductive Ex2{α0 α1:Type}(p:α0->α1->Prop):Prop
 | mk (a:α0) (b:α1) (h:p a b):Ex2 p
inductive Ex3{α0 α1 α2:Type}(p:α0->α1->α2->Prop):Prop
 | mk (a:α0) (b:α1) (c:α2) (h:p a b c):Ex3 p
inductive Ex4{α0 α1 α2 α3:Type}(p:α0->α1->α2->α3->Prop):Prop
 | mk (a:α0) (b:α1) (c:α2) (d:α3) (h:p a b c d):Ex4 p
inductive Ex6{α0 α1 α2 α3 α4 α5:Type}(p:α0->α1->α2->α3->α4->α5->Prop):Prop
 | mk (a:α0) (b:α1) (c:α2) (d:α3) (e:α4) (f:α5) (h:p a b c d e f):Ex6 p
inductive Ex10{α0 α1 α2 α3 α4 α5 α6 α7 α8 α9:Type}(p:α0->α1->α2->α3->α4->α5->α6->α7->α8->α9->Prop):Prop
 | mk (a:α0) (b:α1) (c:α2) (d:α3) (e:α4) (f:α5) (g:α6) (h:α7) (i:α8) (j:α9) (h:p a b c d e f g h i j):Ex10 p
inductive An3(a b c:Prop):Prop
 | mk (h0:a) (h1:b) (h2:c):An3 a b c
inductive An4(a b c d:Prop):Prop
 | mk (h0:a) (h1:b) (h2:c) (h3:d):An4 a b c d
inductive An5(a b c d e:Prop):Prop
 | mk (h0:a) (h1:b) (h2:c) (h3:d) (h4:e):An5 a b c d e
inductive An6(a b c d e f:Prop):Prop
 | mk (h0:a) (h1:b) (h2:c) (h3:d) (h4:e) (h5:f):An6 a b c d e f
inductive An7(a b c d e f g:Prop):Prop
 | mk (h0:a) (h1:b) (h2:c) (h3:d) (h4:e) (h5:f) (h6:g):An7 a b c d e f g
inductive An8(a b c d e f g h:Prop):Prop
 | mk (h0:a) (h1:b) (h2:c) (h3:d) (h4:e) (h5:f) (h6:g) (h7:h):An8 a b c d e f g h
end L2
end
section
namespace L2
open PySem PySem.Spec PyProof.Rows
section
variable{X:Cx}{s:Shared}{h':Heap}
def Inv.turnedL{t':Nat}(I:Inv X pins Z H s)(k:∀ b o,b∉fp->s.heap.get? b=some o->h'.get? b=some o)(hf:∀ b∈fp,FpOk X pins H b):Inv X pins Z H { s with heap:=h',toks:=t' }:=by
 have nit:∀ b u,H b=some u->b∉fp:=fun b u e z=>by rw[(hf b z).1] at e;cases e
 refine I.step (g':=s.gens) (d':=s.drawn) (ch:=fp) (fun b hb=>?_) (fun b o _ _ hc e _=>k b o hc e) (fun b o _ _ hc e _=>⟨o.slots,k b o hc e⟩) (fun _ _ _ _ n=>n)
  (fun b o hc e=>⟨o,k b o hc e⟩) (fun _ _ e=>e) (fun _ _ _ e=>e) (fun b ps e=>⟨#[],by rw[e];simp⟩) (fun m hm=>?_) (fun b u e=>?_) I.bare
 .obtain ⟨f0,f1,f2,f3,f4,f5⟩:=hf b hb;exact⟨f3,f1,f4,f5⟩
 .obtain ⟨o,es,ep,ho,r⟩:=hm;exact⟨o,es,ep,k _ o (fun z=>(hf _ z).2.1 rfl) ho,r⟩
 .refine (I.hok b u e).stay (fun c v hc q=>k c v ?_ q) (fun _ q=>q) fun _ _ q=>q;rcases hc with z|z
  .rw[z];exact nit b u e
  .exact nit c _ z
def ZnB{h:Heap}{o u:Obj}{b:Addr}(ho:o.isFreed=false)(e:(h.push o).get? b=some u):h.get? b=some u\/(b=h.objs.size/\u=o):=by
 have hb:=bn e;rw[gX] at hb;by_cases hbe:b=h.objs.size
 .subst hbe;rw[ca h ho] at e;exact .inr ⟨rfl,(Option.some.inj e).symm⟩
 .have hlt:b<h.objs.size:=Nat.lt_of_le_of_ne (Nat.le_of_lt_succ hb) hbe;left;rw[<-e];unfold Heap.get? Heap.push;simp[Array.getElem?_push_lt,hlt,Array.getElem?_eq_getElem hlt]
end
def Zkm(n l1 l2:Nat)(h1:l1<n)(h2:l2<n):ZipApart (n+4) (n+2) (n+3) n (n+1) l1 l2:=by
 constructor <;> exact fun z=>by
  have z':=congrArg (fun x:Nat=>x) z;lia
def CTup(K:W.Frag)(a:Addr)(xs:List V):Prop:=∃ (o:Obj) (its:Array Value) (n:Nat),K.lookup a=some o/\o.cls=.type "tuple"/\o.data=.seq its n/\its.size<=sizeLine/\Vals xs its.toList
def CTup.sq{K:W.Frag}{xs:List V}(h:CTup K a xs)(H:Hp):SqT K H a xs:=.inr h
def entC(w:World)(q:Str×Tok×Addr):DictEntry:=⟨hashStr w q.1,.str q.1 q.2.1,.ref q.2.2⟩
noncomputable def CDat(K:W.Frag)(w:World)(a:Addr)(tb:List (Str×List Str)):Prop :=
 (a == sysModules)=false/\(tb.map (·.1)).Nodup/\∃ (rows:List (Str×Tok×Addr)) (ep:Nat),K.lookup a=some { cls:=.type "dict",data:=.dict (rows.map (entC w)).toArray ep } /\
  Paired (fun(p:Str×List Str) (q:Str×Tok×Addr)=>p.1=q.1/\CTup K q.2.2 (p.2.map V.str)) tb rows
def Zql{K:W.Frag}{tb:List (Str×List Str)}{rows:List (Str×Tok×Addr)}(h:Paired (fun (p:Str×List Str) (q:Str×Tok×Addr)=>p.1=q.1/\CTup K q.2.2 (p.2.map V.str)) tb rows)(x:Str) :
  (tb.lookup x=none/\valueAt (rows.map fun q=>((Sum.inr q.1:Key),Value.ref q.2.2)) (Sum.inr x)=none)\/∃ ks a,tb.lookup x=some ks/\CTup K a (ks.map V.str)/\valueAt (rows.map fun q=>((Sum.inr q.1:Key),Value.ref q.2.2)) (Sum.inr x)=some (.ref a):=by
 induction h with
 | nil=>exact .inl ⟨rfl,rfl⟩
 | @cons p q ps qs hq t ih =>
  obtain⟨p1,p2⟩:=p;obtain⟨q1,qt,qa⟩:=q;obtain⟨e,c⟩:=hq;dsimp only at e c;subst e;by_cases z:x=p1
  .subst z;refine .inr ⟨p2,qa,by simp[List.lookup],c,?_⟩;simp[valueAt]
  .have z1:(x == p1)=false:=by simpa using z
   have z2:¬ p1=x:=fun w=>z w.symm;have e1:List.lookup x ((p1,p2)::ps)=List.lookup x ps:=by simp[List.lookup,z1]
   have e2:valueAt (((p1,qt,qa)::qs).map fun q=>((Sum.inr q.1:Key),Value.ref q.2.2)) (Sum.inr x)=valueAt (qs.map fun q=>((Sum.inr q.1:Key),Value.ref q.2.2)) (Sum.inr x):=by
    simp[valueAt,z2]
   rw[e1,e2];exact ih
theorem tO{P : Program}{w : World} : ∀ (rows : List (Str×Tok×Addr)), Pairs (cN P w) (rows.map (entC w)) (rows.map fun q=>((Sum.inr q.1 : Key), Value.ref q.2.2))
  | []=>.nil
  | q :: rows => by
    rw[aP,aP];exact .cons (o0 P w q.1 q.2.1) rfl (tO rows)
def CDat.dict{P:Program}{w:World}{K:W.Frag}{h:Heap}{tb:List (Str×List Str)}(c:CDat K w a tb)(hk:K.In h):∃ vs,h.DictOf (cN P w) a vs /\
  ∀ x,(tb.lookup x=none/\valueAt vs (Sum.inr x)=none)\/∃ ks b,tb.lookup x=some ks/\CTup K b (ks.map V.str)/\valueAt vs (Sum.inr x)=some (.ref b):=by
 obtain⟨hs,nd,rows,ep,hl,pr⟩:=c;refine⟨rows.map fun q=>((Sum.inr q.1:Key),Value.ref q.2.2),⟨_,_,ep,hk a _ hl,⟨rfl,rfl,rfl⟩,rfl,?_,by simpa using tO rows,?_⟩,Zql pr⟩
 .intro e he;have he:e∈rows.map (entC w):=by simpa using he
  obtain⟨q,hq,rfl⟩:=aU.mp he;exact⟨.inr q.1,o0 P w q.1 q.2.1,rfl⟩
 .have e:rows.map (·.1)=tb.map (·.1):=by
   clear hl nd
   induction pr with
   | nil=>rfl
   | cons hq t ih=>rw[aP,aP,ih,hq.1]
  rw[fM];have:(rows.map (·.1)).Nodup:=e▸nd;have e2:rows.map ((fun x:Key×Value=>x.1) ∘ fun q:Str×Tok×Addr=>((Sum.inr q.1:Key),Value.ref q.2.2))=(rows.map (·.1)).map Sum.inr:=by rw[fM];rfl
  rw[e2];exact List.Pairwise.map _ (fun a b z z'=>z (Sum.inr.inj z')) this
def IsCD(K:W.Frag)(w:World)(mg:Str->Option Value)(x:Str)(tb:List (Str×List Str)):Prop:=∃ a,mg x=some (.ref a)/\CDat K w a tb
def tCD(K:W.Frag)(w:World)(tb:List (Str×List Str)):TE:=fun _ H Q=>∀ a,CDat K w a tb->Q (.ref a) H
def rInCD(K:W.Frag)(w:World)(tb:List (Str×List Str)):R2:=fun x y H Q=>∃ a k,x=.str k/\y=.ref a/\CDat K w a tb/\Q (.bl (tb.lookup k).isSome) H
def v9(K:W.Frag)(w:World)(tb:List (Str×List Str)):R2:=fun x y H Q=>∃ a k,x=.str k/\y=.ref a/\CDat K w a tb/\Q (.bl (!(tb.lookup k).isSome)) H
def w6(K:W.Frag)(w:World)(tb:List (Str×List Str))(td ty:TE):TE:=fun Z H Q=>td Z H fun x H1=>ty Z H1 fun y H2=>∃ a k ks,x=.ref a/\CDat K w a tb/\y=.str k/\tb.lookup k=some ks/\∀ b,(∀ H',SqT K H' b (ks.map V.str))->Q (.ref b) H2
section
variable{X:Cx}{o i value:Expr}{tpos:Pos}{K:W.Frag}{w:World}{tb:List (Str×List Str)}
def kI(hg:Gl X x)(h:IsCD K w X.mg x tb)(hd:(x == ("__debug__":Str))=false:=by decide):PE X (.Name x pos) (tCD K w tb):=by
 obtain⟨a,h,r⟩:=h;intro pins s Z H Q I q;exact pC (v:=.ref a) hg h rfl hd pins s Z H Q I (q a r)
def ZpM(hK:X.K=K)(hw:X.w=w):OpR X (compareOp .In) (rInCD K w tb):=by
 subst hK;subst hw;intro pins s Z H x y v u Q I rx ry h;obtain⟨a,k,rfl,rfl,c,q⟩:=h;obtain rfl:u=Value.ref a:=ry;obtain⟨vs,dd,hf⟩:=c.dict (P:=X.prog) I.kIn;refine wpAny_in_of (hV (k:=Sum.inr k) rx) c.1 dd.mapOf ?_;refine⟨.bl (tb.lookup k).isSome,H,I.tok _,?_,q⟩;rcases hf k with ⟨e1,e2⟩|⟨ks,b,e1,_,e2⟩
 .rw[e1,e2];rfl
 .rw[e1,e2];rfl
def Znq(hK:X.K=K)(hw:X.w=w):OpR X (compareOp .NotIn) (v9 K w tb):=by
 subst hK;subst hw;intro pins s Z H x y v u Q I rx ry h;obtain⟨a,k,rfl,rfl,c,q⟩:=h;obtain rfl:u=Value.ref a:=ry;obtain⟨vs,dd,hf⟩:=c.dict (P:=X.prog) I.kIn;refine wpAny_notIn_of (hV (k:=Sum.inr k) rx) c.1 dd.mapOf ?_;refine⟨.bl (!(tb.lookup k).isSome),H,I.tok _,?_,q⟩;rcases hf k with ⟨e1,e2⟩|⟨ks,b,e1,_,e2⟩
 .rw[e1,e2];rfl
 .rw[e1,e2];rfl
def qy(hK:X.K=K)(hw:X.w=w)(ho:PE X o td)(hi:PE X i ty)(hs:NoSl i):PE X (.Subscript o i pos) (w6 K w tb td ty):=by
 subst hK;subst hw;intro pins s Z H Q I h;refine w5 PySem.F.slot_dict_getitem.lookup hs (thn (ho pins s Z H _ I h) fun u s1 ⟨x,H1,I1,rx,q1⟩=>thn (hi pins s1 Z H1 _ I1 q1) fun iv s2 ⟨y,H2,I2,ry,a,k,ks,ex,c,ey,l,q2⟩=>?_);subst ex;subst ey;obtain rfl:u=Value.ref a:=rx;obtain⟨vs,dd,hf⟩:=c.dict (P:=X.prog) I2.kIn;refine⟨dd.typeIs,?_⟩;rcases hf k with ⟨e1,e2⟩|⟨ks',b,e1,ct,e2⟩
 .rw[l] at e1;cases e1
 .rw[l] at e1;cases e1;exact wpAny_getItem_of (hV (k:=Sum.inr k) ry) dd.mapOf e2 ⟨.ref b,H2,I2.tok _,rfl,q2 b fun H'=>ct.sq H'⟩
end
end L2
end
section
namespace L2
open PySem
inductive Rw where
 | put (p n:Int)|copy (p q:Int)|plus (p q r:Int)|less (p q r:Int)|times (p q n:Int)|take (p:Int)|tell (p:Int)|jump (t:Int)|zero (p t:Int)|below (p t:Int)|call (p f:Int) (qs:List Int)|back (p:Int)
noncomputable def Rw.row:Rw->Str×List D
 | .put p n=>("put",[.int p,.int n])
 | .copy p q=>("copy",[.int p,.int q])
 | .plus p q r=>("plus",[.int p,.int q,.int r])
 | .less p q r=>("less",[.int p,.int q,.int r])
 | .times p q n=>("times",[.int p,.int q,.int n])
 | .take p=>("take",[.int p])
 | .tell p=>("tell",[.int p])
 | .jump t=>("jump",[.int t])
 | .zero p t=>("zero",[.int p,.int t])
 | .below p t=>("below",[.int p,.int t])
 | .call p f qs=>("call",[.int p,.int f,.tup (qs.map D.int)])
 | .back p=>("back",[.int p])
structure Df where
 takes:Int
 boxes:Int
 rows:List Rw
def In0(n m:Int):Prop:=0<=n/\n<m
noncomputable def Rw.Ok(P:List Df)(nb many:Int):Rw->Prop
 | .put p n=>In0 p nb/\n.natAbs<=10^60
 | .copy p q=>In0 p nb/\In0 q nb
 | .plus p q r=>In0 p nb/\In0 q nb/\In0 r nb
 | .less p q r=>In0 p nb/\In0 q nb/\In0 r nb
 | .times p q n=>In0 p nb/\In0 q nb/\n.natAbs<=99
 | .take p=>In0 p nb
 | .tell p=>In0 p nb
 | .jump t=>In0 t many
 | .zero p t=>In0 p nb/\In0 t many
 | .below p t=>In0 p nb/\In0 t many
 | .call p f qs=>In0 p nb/\(∃ d,0<=f/\P[f.toNat]?=some d/\(qs.length:Int)=d.takes)/\∀ q∈qs,In0 q nb
 | .back p=>In0 p nb
def Rw.last:Rw->Prop
 | .jump _=>True
 | .back _=>True
 | _=>False
structure DfOk(P:List Df)(d:Df):Prop where
 b:1<=d.boxes/\d.boxes<=1000
 t:0<=d.takes/\d.takes<=d.boxes
 n:d.rows.length<=1000
 rows:∀ r∈d.rows,r.Ok P d.boxes d.rows.length
 last:∃ r,d.rows[d.rows.length-1]?=some r/\r.last
def PgOk(P:List Df):Prop:=P≠[]/\P.length<=1000/\∀ d∈P,DfOk P d
inductive En where
 | back (n:Int)|dry (f at':Int)|deep (f at':Int)
abbrev Fr:=Int×Int×List Int
structure HS where
 frames:List Fr
 left:List Int
 news:List Int
 gone:Int
 fin:Option En
def cf(P:List Df)(f at':Int):Option Rw:=(P[f.toNat]?).bind fun d=>d.rows[at'.toNat]?
def setAt(bx:List Int)(p v:Int):List Int:=bx.set p.toNat v
end L2
end
variable{Q:List L2.Df}
section
namespace L2
open PySem
abbrev FZ:=(Addr×Addr)×Fr
end L2
end
section
namespace L2
open PySem
section
variable{kp own:List Addr}{H0:Hp}
def apart{own own' oth:List Addr}(new:∀ x∈own',x∈own\/H x=none)(d:∀ x∈oth,x∉own)(al:∀ x∈oth,H x≠none):∀ x∈oth,x∉own':=fun x hx m=>by
 rcases new x m with h|h
 .exact d x hx h
 .exact al x hx h
end
end L2
end
section
namespace L2
open PySem PySem.Spec PyProof.Rows
def Seqs(H:Hp)(x y:V)(xs ys:List V):Prop:=∃ a b,x=.ref a/\y=.ref b/\((H a=some (.tup xs)/\H b=some (.tup ys))\/(H a=some (.lst xs)/\H b=some (.lst ys)))
def simV:V->Prop
 | .byt _=>False
 | .flt _=>False
 | .ty _=>False
 | _=>True
noncomputable def Alike(H:Hp):Nat->V->V->Prop
 | 0,x,y=>x=y/\simV x
 | n+1,x,y=>(x=y/\simV x)\/∃ xs ys,Seqs H x y xs ys/\xs.length=ys.length/\∀ (j:Nat) (u v:V),xs[j]?=some u->ys[j]?=some v->Alike H n u v
theorem Alike.up{H : Hp} : ∀ {n : Nat} {x y : V}, Alike H n x y->Alike H (n+1) x y
  | 0, x, y, h=>.inl h
  | n + 1, x, y, h => by
    rcases h with h|⟨xs,ys,s,l,k⟩
    . exact .inl h
    . exact .inr ⟨xs, ys, s, l, fun j u v e1 e2=>(k j u v e1 e2).up⟩
def Alike.le{m:Nat}{x:V}(h:Alike H n x y)(l:n<=m):Alike H m x y:=by
  induction m with
  | zero => obtain rfl : n = 0 := by lia
            exact h
  | succ m ih =>
    by_cases e:n=m+1
    . subst e; exact h
    . exact(ih (by lia)).up
def Alike.refl(n:Nat){x:V}(f:simV x):Alike H n x x:=Alike.le (n:=0) ⟨rfl,f⟩ (bO _)
section
variable{X:Cx}{s:Shared}
def mG{xs:List V}{its:List Value}(vx:Vals xs its){j:Nat}(h:j<its.toArray.size):∃ x,xs[j]?=some x/\RelV x its.toArray[j]:=by
 have l1:=vx.length;have h':j<its.length:=by simpa using h
 have e1:xs[j]?=some (xs[j]'(by lia)):=aC _;obtain⟨u1,z1,w1⟩:=vx.get e1;have y1:its.toArray[j]=u1:=by
  have:its[j]?=some its[j]:=aC h';rw[z1] at this;simpa using (Option.some.inj this).symm
 exact⟨_,e1,by rw[y1];exact w1⟩
def vW(I:Inv X pins Z H s){b:Addr}{xs:List V}(h:(H a=some (.tup xs)/\H b=some (.tup ys))\/(H a=some (.lst xs)/\H b=some (.lst ys)))(hl:xs.length=ys.length)(hu:A.units<cLine)
  (k:∀ (j:Nat) (u v:V) (u' v':Value),xs[j]?=some u->ys[j]?=some v->RelV u u'->RelV v v'->SeqAt.EqAt A.in1 s u' v' true):SeqAt.RcAt A s (.ref a) (.ref b) true:=by
 rcases h with ⟨ha,hb⟩|⟨ha,hb⟩
 .obtain ⟨its,vx,ht⟩:=I.isTup ha;obtain ⟨its',vy,ht'⟩:=I.isTup hb;have l1:=vx.length;have l2:=vy.length;have key:=SeqAt.RcAt.tuples (A:=A) (e:=fun _=>true) ht ht' hu fun j j1 j2=>by
   obtain⟨x,e1,r1⟩:=mG vx j1;obtain⟨y,e2,r2⟩:=mG vy j2;exact k j x y _ _ e1 e2 r1 r2
  have e:((List.range (min its.toArray.size its'.toArray.size)).all (fun _=>true)&&its.toArray.size == its'.toArray.size)=true:=by
   simp;lia
  rw[e] at key;exact key
 .obtain ⟨its,vx,ht,_⟩:=I.list (SqL.of ha);obtain ⟨its',vy,ht',_⟩:=I.list (SqL.of hb);have l1:=vx.length;have l2:=vy.length;have key:=SeqAt.RcAt.lists (A:=A) (e:=fun _=>true) ht.isList ht'.isList (by simp;lia) hu fun j j1 j2=>by
   obtain⟨x,e1,r1⟩:=mG vx j1;obtain⟨y,e2,r2⟩:=mG vy j2;exact k j x y _ _ e1 e2 r1 r2
  have e:(List.range its.toArray.size).all (fun _=>true)=true:=by simp
  rw[e] at key;exact key
def Zka(I:Inv X pins Z H s):∀ (n:Nat) {x y:V} {u v:Value} {A:Around},Alike H n x y->RelV x u->RelV y v->A.units+n<cLine->SeqAt.EqAt A s u v true:=by
 have flat:∀ {x:V} {u v:Value} {A:Around},simV x->RelV x u->RelV x v->SeqAt.EqAt A s u v true:=by
  intro x u v A f ru rv;cases x with
  | non=>cases ru;cases rv;exact SeqAt.EqAt.same _
  | bl b=>cases ru;cases rv;exact SeqAt.EqAt.same _
  | int i =>
   obtain⟨t,rfl⟩:=ru;obtain⟨t',rfl⟩:=rv;have:=ra (A:=A) (s:=s) i t i t';simpa using this
  | str i =>
   obtain⟨t,rfl⟩:=ru;obtain⟨t',rfl⟩:=rv;have:=rb (A:=A) (s:=s) i t i t';simpa using this
  | ref a=>cases ru;cases rv;exact SeqAt.EqAt.same _
  | _=>cases f
 intro n
 induction n with
 | zero =>
  rintro x y u v A ⟨rfl,f⟩ ru rv hu;exact flat f ru rv
 | succ n ih =>
  rintro x y u v A h ru rv hu;rcases h with ⟨rfl,f⟩|⟨xs,ys,⟨a,b,rfl,rfl,h⟩,hl,k⟩
  .exact flat f ru rv
  .cases ru;cases rv;by_cases hab:a=b
   .subst hab;exact SeqAt.EqAt.same _
   .exact xU hab (vW I h hl (by lia) fun j u v u' v' e1 e2 r1 r2=>ih (k j u v e1 e2) r1 r2 (by show A.units+1+n<cLine;lia))
def rEqA:R2:=fun x y H Q=>∃ xs ys,Seqs H x y xs ys/\xs.length=ys.length/\(∀ (j:Nat) (u v:V),xs[j]?=some u->ys[j]?=some v->Alike H 40 u v)/\Q (.bl true) H
def op_eqA(hu:X.A.units+64<cLine):OpR X (compareOp .Eq) rEqA:=by
 rintro pins s Z H x y v u Q I rx ry ⟨xs,ys,⟨a,b,rfl,rfl,h⟩,hl,k,q⟩;cases rx;cases ry;have key:=vW (A:=X.A) I h hl (by lia) fun j u v u' v' e1 e2 r1 r2=>Zka I 40 (k j u v e1 e2) r1 r2 (by show X.A.units+1+40<cLine;lia);exact key _ _ _ _ (bM I q rfl)
end
section
def xm(H:Hp)(n:Nat)(x y:V):Prop:=∃ xs ys,Seqs H x y xs ys/\xs.length=ys.length/\∀ (j:Nat) (u v:V),xs[j]?=some u->ys[j]?=some v->Alike H n u v
def rd_eqA{x:V}{Q:VK}(h:xm H 40 x y)(q:Q (.bl true) H):rEqA x y H Q:=by
 obtain⟨xs,ys,s,l,k⟩:=h;exact⟨xs,ys,s,l,k,q⟩
end
end L2
end
section
namespace L2
open PySem
def Zm2{K:W.Frag}{Q:VK}(h:SqT K H p ys)(q:Q (.int ys.length) H):rLen K [.ref p] H Q:=⟨_,_,rfl,.inr ⟨ys,h,rfl⟩,q⟩
end L2
end
section
namespace HT
open PySem PySem.Spec PyProof.Rows L2
section
variable{w:World}{s:Shared}
def cat_tup0{t b:Addr}{vs ws:List Value}{Q:Value->Shared->Prop}(ht:IsTup s.heap t vs.toArray)(hb:IsTup s.heap b ws.toArray)(hv:vs=[])(h1:Q (.ref b) s):wpAny (model prog w) A (binaryOp .Add (.ref t) (.ref b)) Q E s:=by
 obtain⟨⟨cls,dd,data,sl⟩,ho,hc,n,hd⟩:=id ht;obtain⟨⟨cls2,dd2,data2,sl2⟩,ho2,hc2,n2,hd2⟩:=id hb;simp only at hc hd hc2 hd2;subst hc hd hc2 hd2;exact concat_meets ⟨_,ho,rfl⟩ ⟨_,ho2,rfl⟩ qZ seq_tuple_add PySem.F.slot_tuple_add PySem.F.entry_tuple_add (PySem.F.args_tuple_add_2 _ _) (tuple_addW0 t b vs.toArray ws.toArray n n2 dd dd2 sl sl2 (by simp[hv])) ⟨ho,ho2,h1⟩
def getItem_tuple_all{t sl:Addr}{vl vu:Value}{lo:Option Int}{Q:Value->Shared->Prop}(ht:IsTup s.heap t items)(hs:s.heap.IsSliceOf sl vl vu .none)(pl:IsPart vl lo)(pu:IsPart vu hi)
  (hw:sIx items.size 0 lo=0/\sIx items.size items.size hi=items.size) (h:Q (.ref t) s):wpAny (model prog w) A (getItem (.ref t) (.ref sl)) Q E s:=by
 obtain⟨os,hos,hcs,hds⟩:=id hs;have hTs:s.TypeIs (.ref sl) "slice":=⟨os,hos,hcs⟩;unfold getItem
 try with_reducible refine eV ?_
 first|refine ae (aq ?_)|skip
 refine ae (wpAny_sequenceKey ht.typeIs (by decide) ?_);refine ae (iD (name:=Str.ofString "__getitem__") ht.typeIs j0
  (eJ j0 ht.typeIs entry_tuple_getitem ?_ (args_tuple_getitem _ _)))
 show wpAny _ _ (Builtin.Tuple.tupleItemsOf (.ref t) >>= _) _ _ s;refine ae (tupleItemsOf_ ht ?_);refine ae (lB hTs ?_);rw[am (by decide)];refine ae (xk hs pl pu ?_);have hyes:((((sIx items.size 0 lo:Nat):Int) == 0&&(1:Int) == 1&&(sIx items.size items.size hi-sIx items.size 0 lo) == items.size)=true):=by
  rw[hw.1,hw.2];simp
 show wpAny _ _ (if (((sIx items.size 0 lo:Nat):Int) == 0&&(1:Int) == 1&&(sIx items.size items.size hi-sIx items.size 0 lo) == items.size)=true then _ else _) _ _ s;rw[am hyes];refine ae ?_;refine ae ?_;refine lB ht.typeIs (aq ?_);rw[am (by decide)];exact ae (gZ (aq ⟨_,rfl,aq h⟩))
end
end HT
namespace L2
open PySem PySem.Spec PyProof.Rows
section
variable{X:Cx}{K:W.Frag}
noncomputable def rSlW(K:W.Frag):V->Option Int->Option Int->Hp->VK->Prop:=fun x lo hi H Q=>∃ a xs,x=.ref a/\SqT K H a xs/\(cutV xs lo hi=xs->Q (.ref a) H)/\∀ p,H p=none->Q (.ref p) (upd H p (.tup (cutV xs lo hi)))
def Zpg:SlR X (rSlW X.K):=by
 intro pins s Z H x v vl vu lo hi sl Q I rx hs pl pu h;obtain⟨a,xs,rfl,hx,q1,q⟩:=h;by_cases hw:HT.sIx xs.length 0 lo=0/\HT.sIx xs.length xs.length hi=xs.length
 .cases rx;obtain ⟨its,r,ht,hz⟩:=I.tuple hx;have hlen:its.toArray.size=xs.length:=by rw[bT];exact r.length.symm
  refine⟨"tuple",_,j0.lookup,ht.typeIs,?_⟩;refine HT.getItem_tuple_all ht hs pl pu (by rw[hlen];exact hw) ?_;refine⟨.ref a,H,I,rfl,q1 ?_⟩;unfold cutV;rw[hw.1,hw.2];simp
 .exact sl_tup pins s Z H _ v vl vu lo hi sl Q I rx hs pl pu ⟨a,xs,rfl,hx,hw,q⟩
def eP(h:X.K=K):SlR X (rSlW K):=h▸Zpg
def nB(K:W.Frag):R2:=fun x y H Q=>∃ a b xs ys,x=.ref a/\y=.ref b/\SqT K H a xs/\SqT K H b ys/\xs.length+ys.length<=sizeLine /\
 (xs=[]->Q (.ref b) H)/\(ys=[]->Q (.ref a) H)/\∀ p,H p=none->Q (.ref p) (upd H p (.tup (xs++ys)))
def ZpN:OpR X (binaryOp .Add) (nB X.K):=by
 intro pins s Z H x y v u Q I rx ry h;obtain⟨a,b,xs,ys,rfl,rfl,ha,hb,hz,q0,q1,q2⟩:=h;by_cases hx:xs=[]
 .cases rx;cases ry;obtain⟨its,r1,p1,_⟩:=I.tuple ha;obtain⟨its2,r2,p2,_⟩:=I.tuple hb;exact HT.cat_tup0 p1 p2 (r1.nil_iff.mpr hx) ⟨.ref b,H,I,rfl,q0 hx⟩
 .exact ZpO pins s Z H _ _ v u Q I rx ry ⟨a,b,xs,ys,rfl,rfl,ha,hb,hx,hz,q1,fun _=>q2⟩
def gT(h:X.K=K):OpR X (binaryOp .Add) (nB K):=h▸ZpN
end
def rd_slW{K:W.Frag}{xs:List V}{lo:Option Int}{Q:VK}(h:H a=some (.tup xs))(q:∀ p H',H' p=some (.tup (cutV xs lo hi))->Same H H'->Q (.ref p) H'):rSlW K (.ref a) lo hi H Q :=
 ⟨a,xs,rfl,SqT.of h,fun e=>q a H (by rw[e];exact h) (Same.refl _),fun p hp=>q p _ bP (Same.new hp)⟩
def Zpt{K:W.Frag}{b:Addr}{xs:List V}{Q:VK}(h1:H a=some (.tup xs))(h2:H b=some (.tup ys))(hz:xs.length+ys.length<=1000000)(q:∀ p H',H' p=some (.tup (xs++ys))->Same H H'->Q (.ref p) H'):nB K (.ref a) (.ref b) H Q :=
 ⟨a,b,xs,ys,rfl,rfl,SqT.of h1,SqT.of h2,jz hz,fun e=>q b H (by rw[e];exact h2) (Same.refl _),fun e=>q a H (by rw[e,dR];exact h1) (Same.refl _),fun p hp=>q p _ bP (Same.new hp)⟩
section
variable{X:Cx}
def gLst(K:W.Frag)(n:Nat)(t:TGs):TG:=fun v Z H Q=>∃ a xs,v=.ref a/\SqL K H a xs/\xs.length=n/\t xs Z H Q
def ZnR{w:World}{s:Shared}{env:Env}{elts:List Expr}{k:Nat}{t:Addr}{Q:Unit->Shared->Prop}(hh:A.handled=none)(ht:s.heap.IsList t items)
  (hn:(assignEach elts env).length=items.size) (hstar:(assignEach elts env).findIdx? (·.1)=none)
  (h:∀ h',Heap.ExtBut s.heap.objs.size s.heap h'->wpAny (model prog w) A (assignInOrder ((assignEach elts env).map (·.2)) items.toList) Q E { s with heap:=h' }) :
  wpAny (model prog w) A (assign (.Tuple elts k pos) env (.ref t)) Q E s:=by
 rw[arm_assign_Tuple];refine ae (nI ?_);unfold unpack;rw[hn,hstar];exact ae (eV (PySem.W.kun_itemsOf hh ht h))
def pg_lst{k:Nat}{t:TGs}(hc:X.calm=true)(h:PGs X es t)
  (hn:(assignEach es X.env).length=n:=by rfl) (hst:(assignEach es X.env).findIdx? (·.1)=none:=by rfl):PG X (.Tuple es k pos) (gLst X.K n t):=by
 intro pins s Z H v u Q I r hw;obtain⟨a,xs,e1,hq,hl,hw⟩:=hw;subst e1;cases r;obtain⟨its,rv,ht,hz⟩:=I.list hq;refine ZnR (I.ok.hd hc) ht.isList (by simp[hn,<- hl,rv.length]) hst fun h' hx=>?_;have I1:Inv X pins Z H { s with heap:=h' }:=I.kept (t':=s.toks) fun b o e=>hx b o (bZ (bn e)) e;exact h pins _ Z H xs _ Q I1 (by simpa using rv) hw
def wt{K:W.Frag}{k:Nat}{t:TGs}(h:X.K=K)(hc:X.calm=true)(hg:PGs X es t)
  (hn:(assignEach es X.env).length=n:=by rfl) (hst:(assignEach es X.env).findIdx? (·.1)=none:=by rfl):PG X (.Tuple es k pos) (gLst K n t):=h▸pg_lst hc hg hn hst
end
section
variable{X:Cx}{t:TA}
def g9{l:List Expr}(ha:PE X (.List l pos) te)(hr:PA X es t):PA X (.List l pos::es) (bI te t):=fP ha hr rfl
def aS{l:List Expr}{k:Nat}(ha:PE X (.Tuple l k pos) te)(hr:PA X es t):PA X (.Tuple l k pos::es) (bI te t):=fP ha hr rfl
def bK{a b:Expr}{op:Operator}(ha:PE X (.BinOp a op b pos) te)(hr:PA X es t):PA X (.BinOp a op b pos::es) (bI te t):=fP ha hr rfl
def aM{f:Expr}{as:List Expr}{ks}(ha:PE X (.Call f as ks pos) te)(hr:PA X es t):PA X (.Call f as ks pos::es) (bI te t):=fP ha hr rfl
def dW{gs}{sc}(ha:PE X (.ListComp e gs sc pos) te)(hr:PA X es t):PA X (.ListComp e gs sc pos::es) (bI te t):=fP ha hr rfl
def aH{a b:Expr}(ha:PE X (.Subscript a b pos) te)(hr:PA X es t):PA X (.Subscript a b pos::es) (bI te t):=fP ha hr rfl
def bA(ha:PE X (.Name x pos) te)(hr:PA X es t):PA X (.Name x pos::es) (bI te t):=fP ha hr rfl
def ah{c:Const}{k:Nat}(ha:PE X (.Constant c k pos) te)(hr:PA X es t):PA X (.Constant c k pos::es) (bI te t):=fP ha hr rfl
def tW{a:Expr}{op:UnaryOp}(ha:PE X (.UnaryOp op a pos) te)(hr:PA X es t):PA X (.UnaryOp op a pos::es) (bI te t):=fP ha hr rfl
def oA{a b c:Expr}(ha:PE X (.IfExp a b c pos) te)(hr:PA X es t):PA X (.IfExp a b c pos::es) (bI te t):=fP ha hr rfl
def Znp{a:Expr}{os:List CmpOp}{cs:List Expr}(ha:PE X (.Compare a os cs pos) te)(hr:PA X es t):PA X (.Compare a os cs pos::es) (bI te t):=fP ha hr rfl
def jG{l:List Expr}{p:Pos}{i:Nat}{pos':Pos}(hN:X.N.Nodup)(hi:X.N[i]?=some x)(hx:Loc X.env.scope x)(he:PE X (.List l p) te)(hf:X.fn x=true\/X.env.scope.names.lookup x=some .local:=by first|exact .inl rfl|exact .inr rfl|assumption):PS X (.Assign [.Name x pos'] (.List l p) pos) (tAsg te (eF i)):=cp hN hi hx he rfl hf
def i4{l:List Expr}{k:Nat}{p:Pos}{i:Nat}{pos':Pos}(hN:X.N.Nodup)(hi:X.N[i]?=some x)(hx:Loc X.env.scope x)(he:PE X (.Tuple l k p) te)(hf:X.fn x=true\/X.env.scope.names.lookup x=some .local:=by first|exact .inl rfl|exact .inr rfl|assumption):PS X (.Assign [.Name x pos'] (.Tuple l k p) pos) (tAsg te (eF i)):=cp hN hi hx he rfl hf
def cZ{a b:Expr}{op:Operator}{p:Pos}{i:Nat}{pos':Pos}(hN:X.N.Nodup)(hi:X.N[i]?=some x)(hx:Loc X.env.scope x)(he:PE X (.BinOp a op b p) te)(hf:X.fn x=true\/X.env.scope.names.lookup x=some .local:=by first|exact .inl rfl|exact .inr rfl|assumption):PS X (.Assign [.Name x pos'] (.BinOp a op b p) pos) (tAsg te (eF i)):=cp hN hi hx he rfl hf
def bE{f:Expr}{as:List Expr}{ks}{p:Pos}{i:Nat}{pos':Pos}(hN:X.N.Nodup)(hi:X.N[i]?=some x)(hx:Loc X.env.scope x)(he:PE X (.Call f as ks p) te)(hf:X.fn x=true\/X.env.scope.names.lookup x=some .local:=by first|exact .inl rfl|exact .inr rfl|assumption):PS X (.Assign [.Name x pos'] (.Call f as ks p) pos) (tAsg te (eF i)):=cp hN hi hx he rfl hf
def cB{a b:Expr}{p:Pos}{i:Nat}{pos':Pos}(hN:X.N.Nodup)(hi:X.N[i]?=some x)(hx:Loc X.env.scope x)(he:PE X (.Subscript a b p) te)(hf:X.fn x=true\/X.env.scope.names.lookup x=some .local:=by first|exact .inl rfl|exact .inr rfl|assumption):PS X (.Assign [.Name x pos'] (.Subscript a b p) pos) (tAsg te (eF i)):=cp hN hi hx he rfl hf
end
end L2
end
section
namespace L3
open PySem Builtin Builtin.Str
section
variable{prog:Program}{w:World}{A:Around}{E:Value->Shared->Prop}{s:Shared}
def nextT{it t:Addr}{i:Nat}{items:Array Value}{x:Value}{Q:Value->Shared->Prop}(hit:s.heap.IsTupleIter it t i)(ht:s.heap.IsTuple t items)(hx:items[i]?=some x)
  (hQ:∀ h',h'.IsTupleIter it t (i+1)->Heap.SameBut it s.heap h'->Q x { s with heap:=h' }):wpAny (model prog w) A (Builtin.SmallTypes.nextOf (.ref it)) Q E s:=by
 obtain⟨o,ho,hc,hd⟩:=id hit;obtain⟨ol,hol,_,nl,hdl⟩:=ht;unfold Builtin.SmallTypes.nextOf;refine ae (iD (name:=Str.ofString "__next__") hit.typeIs F.slot_tuple_iterator_next (eJ F.slot_tuple_iterator_next hit.typeIs F.entry_tuple_iterator_next ?_ (F.args_tuple_iterator_next_1 _)));show wpAny _ _ (field (.ref it) 0 >>= _) _ _ s;refine ae (cY ho hd (x:=.ref t) rfl ?_);show wpAny _ _ (if (Value.ref t == Value.none)=true then _ else _) _ _ s;rw[ao (show ¬ ((Value.ref t == Value.none)=true) from bL)];show wpAny _ _ (field (.ref it) 1 >>= _) _ _ s;refine ae (cY ho hd (x:=.int i 0) rfl ?_);show wpAny _ _ (seqItems? (.ref t) >>= _) _ _ s;refine ae (gI hol hdl ?_);simp only[bB,hx];refine ae (lJ ho hd (by simp) (aq ⟨x,rfl,aq (hQ _ ?_ (Heap.SameBut.update ..))⟩));exact⟨_,j4 _ ho (Obj.isFreed_of_fields (nV hd _)),(Obj.cls_mapFields ..).trans hc,by rw[nV hd];simp[rawInt]⟩
def ZlD{it t:Addr}{i:Nat}{items:Array Value}{Q:Value->Shared->Prop}(hh:A.handled=none)(hit:s.heap.IsTupleIter it t i)(ht:s.heap.IsTuple t items)(hx:items[i]?=none)
  (hE:∀ h' e,Heap.ExtBut it s.heap h'->(∃ o,h'.get? e=some o/\o.cls=.type "StopIteration")->E (.ref e) { s with heap:=h' }):wpAny (model prog w) A (Builtin.SmallTypes.nextOf (.ref it)) Q E s:=by
 obtain⟨o,ho,hc,hd⟩:=id hit;obtain⟨ol,hol,_,nl,hdl⟩:=ht;unfold Builtin.SmallTypes.nextOf;refine ae (iD (name:=Str.ofString "__next__") hit.typeIs F.slot_tuple_iterator_next (eJ F.slot_tuple_iterator_next hit.typeIs F.entry_tuple_iterator_next ?_ (F.args_tuple_iterator_next_1 _)));show wpAny _ _ (field (.ref it) 0 >>= _) _ _ s;refine ae (cY ho hd (x:=.ref t) rfl ?_);show wpAny _ _ (if (Value.ref t == Value.none)=true then _ else _) _ _ s;rw[ao (show ¬ ((Value.ref t == Value.none)=true) from bL)];show wpAny _ _ (field (.ref it) 1 >>= _) _ _ s;refine ae (cY ho hd (x:=.int i 0) rfl ?_);show wpAny _ _ (seqItems? (.ref t) >>= _) _ _ s;refine ae (gI hol hdl ?_);simp only[bB,hx];refine ae (gZ (ae (lJ ho hd (by simp) ?_)));show wpAny _ _ (newExc (.type "StopIteration") [] >>= _) _ _ _;refine ae ?_;simp only[newExc,newTuple];refine ae (eK ?_ (by size_fits));refine ae (m:=firstArgMember _ _) (wpAny_of_eq (a:=Value.none) (by first|rfl|(simp only[firstArgMember];rfl)) ?_);refine eK ?_ (by size_fits);simp only[raiseNew];refine ae (wpAny_handled ?_)
 first|rw[show A.in1.handled=none from hh]|rw[hh]
 refine ae (aq (wpAny_throw ?_));exact hE _ _ (((Heap.SameBut.update ..).extBut.push _).push _) ⟨_,ca _ rfl,rfl⟩
end
end L3
end
section
namespace L2
open PySem PySem.Spec PyProof.Rows
section
variable{w:World}{K:Type}[DecidableEq K]{knd:KeyKind prog w K}{s:Shared}
inductive Its2(knd:KeyKind prog w K)(h:Heap):List (List K)->List Value->Prop
 | nil:Its2 knd h [] []
 | cons {k:List K} {a:Addr} {ks:List (List K)} {vs:List Value}:IsTupleKey knd h k a->Its2 knd h ks vs->Its2 knd h (k::ks) (.ref a::vs)
def Is2(knd:KeyKind prog w K)(h:Heap)(ks:List (List K))(a:Addr):Prop:=∃ o items n,h.get? a=some o/\o.cls=.type "tuple"/\o.data=.seq items n/\Its2 knd h ks items.toList
def Its2.inj{h:Heap}{x y:List (List K)}{vs:List Value}(hx:Its2 knd h x vs)(hy:Its2 knd h y vs):x=y:=by
 induction hx generalizing y with
 | nil=>cases hy;rfl
 | cons h1 _ ih =>
  cases hy with
  | cons h2 t2=>rw[h1.inj h2,ih t2]
def Is2.typeIs{ks:List (List K)}(x:Is2 knd s.heap ks a):s.TypeIs (.ref a) "tuple":=let ⟨o,_,_,ho,hc,_⟩:=x;⟨o,ho,hc⟩
def Is2.inj{h:Heap}{a:Addr}{x y:List (List K)}(hx:Is2 knd h x a)(hy:Is2 knd h y a):x=y:=by
 obtain⟨o,items,n,ho,_,hd,hi⟩:=hx;obtain⟨o',items',n',ho',_,hd',hi'⟩:=hy;obtain rfl:o=o':=Option.some.inj (ho.symm.trans ho');rw[hd] at hd';injection hd' with h1 _
 subst h1;exact hi.inj hi'
def Its2.keeps{h h':Heap}{ks:List (List K)}{vs:List Value}{d:Addr}{o:Obj}{es ep}(x:Its2 knd h ks vs)(ho:h.get? d=some o)(hd:o.data=.dict es ep)(hs:Heap.SameBut d h h'):Its2 knd h' ks vs:=by
 induction x with
 | nil=>exact .nil
 | cons h1 _ ih=>exact .cons (h1.keeps ho hd hs) ih
def Is2.keeps{h h':Heap}{ks:List (List K)}{a d:Addr}{o:Obj}{es ep}(x:Is2 knd h ks a)(ho:h.get? d=some o)(hd:o.data=.dict es ep)(hs:Heap.SameBut d h h'):Is2 knd h' ks a:=by
 obtain⟨o',items,n,ho',hc,hd',hi⟩:=x;have hne:a≠d:=by
  rintro rfl;obtain rfl:o'=o:=Option.some.inj (ho'.symm.trans ho);rw[hd] at hd';exact nomatch hd'
 exact⟨o',items,n,(hs.2 a hne).trans ho',hc,hd',hi.keeps ho hd hs⟩
def oy(knd:KeyKind prog w K)(ks:List (List K)):Int:=reduceHash (Builtin.Tuple.tupleHashOf (ks.map (tupleKeyHash knd)))
def jE(ks:List (List K)):Nat:=(ks.map fun k=>k.length+1).sum
def Zm8{ks:List (List K)}{Q:Int->Shared->Prop}(hu:A.units+1 < cLine)(hk:Is2 knd s.heap ks a)(h:Q (oy knd ks) { s with toks:=s.toks+(jE ks+1) }) :
  wpAny (model prog w) A (pyHash (.ref a)) Q E s:=by
 have hT:=hk.typeIs;obtain⟨o,items,n,ho,_,hd,hi⟩:=hk;unfold pyHash
 first|unfold pyHashByItsType|skip
 first|refine ae (wpAny_cRoomFor_or (.inr (by lia)) ?_)|skip
 refine ae (lF hT F.slot_tuple_hash.lookup ?_);show wpAny _ _ (if (some (Value.builtin "tuple.__hash__") == some Value.none)=true then _ else _) Q E s;rw[ao (by rw[beq_builtin_none];exact bL)];refine ae (lF hT F.slot_tuple_hash.lookup ?_);show wpAny _ _ (callSpecialIfBoundUnlessNone? (.ref a) "__hash__" _ >>= _) Q E s;refine ae (wpAny_callSpecialIfBoundUnlessNone?_slot hT F.slot_tuple_hash (eJ F.slot_tuple_hash hT F.entry_tuple_hash ?_ (F.args_tuple_hash_1 _)));show wpAny _ _ (Builtin.Tuple.tupleItemsOf (.ref a) >>= _) _ _ s;refine ae (lK ho hd ?_);refine ae ?_;rw[<-rp];refine nW _
  (fun rest (b:Array Int) s'=>∃ done left,ks=done++left/\Its2 knd s.heap left rest/\b.toList=done.map (tupleKeyHash knd)/\s'={ s with toks:=s.toks+jE done })
  _ ?_ ?_ _ _ ⟨[],ks,rfl,hi,rfl,rfl⟩
 .rintro x rest b s' ⟨done,left,rfl,hl,hb,rfl⟩;cases hl with
  | @cons k a' ks' _ h1 hl' =>
   have e:jE (done++[k])=jE done+(k.length+1):=by simp[jE]
   refine ae (wpAny_pyHash_tuple (knd:=knd) (by first|exact hu|(show A.units+1<cLine;exact hu)) h1 ?_)
   first
    | exact aq ⟨done++[k],ks',by simp,hl',by simp[hb],by simp[e,nX]⟩
    | exact ae (aq (aq ⟨done++[k],ks',by simp,hl',by simp[hb],by simp[e,nX]⟩))
 .rintro b s' ⟨done,left,rfl,hl,hb,rfl⟩;cases hl;rw[dR] at h;show wpAny _ _ (retInt (Builtin.Tuple.tupleHashOf b.toList)) _ _ _;rw[hb];refine wpAny_ret_mkInt ?_;show wpAny _ _ (if (decide (-(2:Int) ^ 63<=Builtin.Tuple.tupleHashOf (done.map (tupleKeyHash knd))) && decide (Builtin.Tuple.tupleHashOf (done.map (tupleKeyHash knd)) < 2 ^ 63))=true then _ else _) Q E _;unfold oy reduceHash at h;by_cases hr:(decide (-(2:Int) ^ 63<=Builtin.Tuple.tupleHashOf (done.map (tupleKeyHash knd))) && decide (Builtin.Tuple.tupleHashOf (done.map (tupleKeyHash knd)) < 2 ^ 63))=true
  .rw[am hr];rw[am hr] at h;exact aq (by simpa [nX] using h)
  .rw[ao hr];rw[ao hr] at h;exact ae (gZ (aq (by simpa [nX] using h)))
def ZnF{x y:List (List K)}{b:Addr}{P:Fin->Shared->Prop}(hu:A.units<cLine)(hx:Is2 knd s.heap x a)(hy:Is2 knd s.heap y b)(h:P (.done (.ret (.bool (decide (x=y))))) s) :
  wpAny (model prog w) A (Builtin.«tuple.__eq__» ⟨[.ref a,.ref b],[]⟩) P E s:=by
 have hTb:=hy.typeIs;obtain⟨oa,xs,na,hoa,_,hda,hia⟩:=hx;obtain⟨ob,ys,nb,hob,_,hdb,hib⟩:=hy;show wpAny _ _ (isInstance (.ref b) (.type "tuple") >>= _) _ _ s;refine ae (jp hTb nY ?_);simp only[g7,dA,cI];refine ae (lK hoa hda ?_);refine ae (lK hob hdb ?_);refine ae ?_;refine nW _
  (fun rest r s'=>r.1=none/\s'=s/\∃ x' y' xs' ys',rest=List.zip xs' ys'/\Its2 knd s.heap x' xs'/\Its2 knd s.heap y' ys'/\decide (x'=y')=decide (x=y)/\(xs'.length == ys'.length)=(xs.size == ys.size))
  _ ?_ ?_ _ _ ⟨rfl,rfl,x,y,xs.toList,ys.toList,rfl,hia,hib,rfl,by simp⟩
 .rintro ⟨u,v⟩ rest r s' ⟨hr,rfl,x',y',xs',ys',hz,hx',hy',hdec,hlen⟩;cases hx' with
  | nil=>simp at hz
  | @cons k1 u' x'' xs'' h1 hx'' =>
   cases hy' with
   | nil=>simp at hz
   | @cons k2 v' y'' ys'' h2 hy'' =>
    simp only[zip_cons_cons,List.cons.injEq,Prod.mk.injEq] at hz;obtain⟨⟨rfl,rfl⟩,rfl⟩:=hz;refine ae (wpAny_eqBool_tuple (knd:=knd) hu h1 h2 ?_);by_cases hk:k1=k2
    .subst hk;rw[aX rfl];simp only[g7,dA,cI];refine aq ⟨rfl,rfl,x'',y'',xs'',ys'',rfl,hx'',hy'',?_,by simpa using hlen⟩;rw[<-hdec];by_cases hxy:x''=y''
     .simp[hxy]
     .simp[hxy]
    .rw[bz hk];simp only[rq,fZ];have hf:decide (x=y)=false:=by rw[<-hdec];simp[hk]
     rw[hf] at h;exact ae (aq (aq (aq h)))
 .rintro ⟨r1,r2⟩ s' ⟨hr,rfl,x',y',xs',ys',hz,hx',hy',hdec,hlen⟩;simp only at hr;subst hr;refine aq ?_;have hfin:(xs.size == ys.size)=decide (x=y):=by
   rw[<-hdec,<- hlen];cases hx' with
   | nil =>
    cases hy' with
    | nil=>simp
    | cons _ _=>simp
   | cons _ _ =>
    cases hy' with
    | nil=>simp
    | cons _ _=>simp at hz
  show P (.done (.ret (.bool (xs.size == ys.size)))) s';rw[hfin];exact h
def ZnG{x y:List (List K)}{b:Addr}{Q:Bool->Shared->Prop}(hu:A.units+1<cLine)(hx:Is2 knd s.heap x a)(hy:Is2 knd s.heap y b)(h:Q (decide (x=y)) s) :
  wpAny (model prog w) A (eqBool (.ref a) (.ref b)) Q E s:=by
 unfold eqBool
 try with_reducible refine eV ?_
 show wpAny _ _ (if (Value.ref a == Value.ref b)=true then _ else _) Q E s;by_cases hab:(Value.ref a == Value.ref b)=true
 .rw[am hab];have e:a=b:=by have:=eq_of_beq hab;injection this
  subst e;obtain rfl:=hx.inj hy;exact ae (gZ (aq (by simpa using h)))
 .rw[ao hab];exact ae (wpAny_richCompare_same_room (op:=.Eq) hx.typeIs hy.typeIs F.slot_tuple_eq
   (eJ F.slot_tuple_eq hx.typeIs F.entry_tuple_eq (ZnF (by exact hu) hx hy ⟨_,rfl,(fun e=>nomatch e),fY h⟩) (F.args_tuple_eq_2 _ _)) (by lia))
def Zpy{ks:List K}{Q:Bool->Shared->Prop}(hk:IsTupleKey knd s.heap ks a)(h:Q true s):wpAny (model prog w) A (eqIsQuiet (n+1) (.ref a)) Q E s:=by
 have hT:=hk.typeIs;obtain⟨o,items,m,ho,_,hd,hi⟩:=hk;unfold eqIsQuiet;refine ae (lF hT F.slot_tuple_eq.lookup ?_);show wpAny _ _ (isInstance (.ref a) (.type "tuple") >>= _) _ _ s;refine ae (jp hT nY ?_);simp only[g7,dA,cI];refine ae (gI ho hd ?_);refine ae ?_;show wpAny _ _ (forIn items _ _) _ _ s;rw[<-rp];refine nW _ (fun rest r s'=>r.1=none/\s'=s/\∀ v∈rest,carriedByValue v=true) _ ?_ ?_ _ _ ⟨rfl,rfl,hi.byValue⟩
 .rintro v rest r s' ⟨hr,rfl,hall⟩;rw[eqIsQuiet_byValue _ (hall v aQ)];refine ae (aq ?_);simp only[g7,dA,cI];exact aq ⟨rfl,rfl,fun u hu'=>hall u (bD _ hu')⟩
 .rintro ⟨r1,r2⟩ s' ⟨hr,rfl,_⟩;simp only at hr;subst hr;exact aq h
def Zpx{ks:List (List K)}{Q:Bool->Shared->Prop}(hk:Is2 knd s.heap ks a)(h:Q true s):wpAny (model prog w) A (eqIsQuiet 8 (.ref a)) Q E s:=by
 have hT:=hk.typeIs;obtain⟨o,items,m,ho,_,hd,hi⟩:=hk;unfold eqIsQuiet;refine ae (lF hT F.slot_tuple_eq.lookup ?_);show wpAny _ _ (isInstance (.ref a) (.type "tuple") >>= _) _ _ s;refine ae (jp hT nY ?_);simp only[g7,dA,cI];refine ae (gI ho hd ?_);refine ae ?_;show wpAny _ _ (forIn items _ _) _ _ s;rw[<-rp];refine nW _ (fun rest r s'=>r.1=none/\s'=s/\∃ ks',Its2 knd s.heap ks' rest) _ ?_ ?_ _ _ ⟨rfl,rfl,ks,hi⟩
 .rintro v rest r s' ⟨hr,rfl,ks',hall⟩;cases hall with
  | cons h1 t1 =>
   refine ae (Zpy (knd:=knd) h1 ?_);simp only[g7,dA,cI];exact aq ⟨rfl,rfl,_,t1⟩
 .rintro ⟨r1,r2⟩ s' ⟨hr,rfl,_⟩;simp only at hr;subst hr;exact aq h
end
noncomputable def kind2{w:World}{K:Type}[DecidableEq K](knd:KeyKind prog w K):HeapKind prog w (List (List K)) where
 is:=Is2 knd
 hash:=oy knd
 draws:=fun ks=>jE ks+1
 room:=fun A=>A.units+1<cLine
 inj:=fun hx hy=>hx.inj hy
 keeps:=fun x ho hd hs=>x.keeps ho hd hs
 pyHash:=fun hu hk h=>Zm8 hu hk h
 eqBool:=fun hu hx hy h=>ZnG hu hx hy h
 quiet:=fun hk h=>Zpx hk h
end L2
end
section
namespace L2
open PySem
def bm(t:List (Int×Int))(w:Int):Int:=match t with
 | []=>0
 | q::r=>if q.1=w then q.2 else bm r w
def addT(t:List (Int×Int))(w x:Int):List (Int×Int):=match t with
 | []=>[(w,x)]
 | q::r=>if q.1=w then (q.1,q.2+x)::r else q::addT r w x
def vS{t:List (Int×Int)}{w:Int}(h:w∉t.map (·.1)):bm t w=0:=by
 induction t with
 | nil=>rfl
 | cons q t ih =>
  have h:w∉q.1::t.map (·.1):=h;rw[aI,ci] at h;rw[bm,ao (fun e=>h.1 e.symm)];exact ih h.2
def ZkK(t:List (Int×Int))(w:Int):(valV (kvT t) (Sum.inl w:Key)).getD (V.int 0)=V.int (bm t w):=by
 induction t with
 | nil=>rfl
 | cons q t ih =>
  show (valV ((Sum.inl q.1,V.int q.2)::kvT t) (Sum.inl w:Key)).getD _=_;rw[bm];by_cases e:q.1=w
  .rw[lh (by rw[e]),am e];rfl
  .rw[jP (fun z=>e (Sum.inl.inj z)),ao e];exact ih
def wS{t:List (Int×Int)}{w:Int}(h:w∈t.map (·.1)):valV (kvT t) (Sum.inl w:Key)=some (V.int (bm t w)):=by
 induction t with
 | nil=>cases h
 | cons q t ih =>
  show valV ((Sum.inl q.1,V.int q.2)::kvT t) (Sum.inl w:Key)=_;rw[bm];by_cases e:q.1=w
  .rw[lh (by rw[e]),am e]
  .rw[jP (fun z=>e (Sum.inl.inj z)),ao e];have h:w∈q.1::t.map (·.1):=h;exact ih ((aI.mp h).resolve_left fun z=>e z.symm)
def pD(t:List (Int×Int))(w x:Int):(addT t w x).map (·.1)=if w∈t.map (·.1) then t.map (·.1) else t.map (·.1)++[w]:=by
 induction t with
 | nil=>simp[addT]
 | cons q t ih =>
  rw[addT];by_cases e:q.1=w
  .rw[am e,am (show w∈(q::t).map (·.1) by rw[aP,e];exact aQ)];rfl
  .rw[ao e,aP,ih];have hne:¬ w=q.1:=fun z=>e z.symm;by_cases h:w∈t.map (·.1)
   .rw[am h,am (show w∈(q::t).map (·.1) by rw[aP];exact bD _ h)];rfl
   .rw[ao h,ao (show ¬ w∈(q::t).map (·.1) by rw[aP,aI,ci];exact⟨hne,h⟩)];rfl
def ZmI(t:List (Int×Int))(w x v:Int):bm (addT t w x) v=bm t v+if v=w then x else 0:=by
 induction t with
 | nil =>
  rw[addT,bm,bm,bm];by_cases e:w=v
  .rw[am e,am e.symm];lia
  .rw[ao e,ao (fun z=>e z.symm)];lia
 | cons q t ih =>
  rw[addT];by_cases e:q.1=w
  .rw[am e,bm,bm];by_cases ev:q.1=v
   .rw[am ev,am ev,am (by lia)]
   .rw[ao ev,ao ev,ao (by lia)];lia
  .rw[ao e,bm,bm];by_cases ev:q.1=v
   .rw[am ev,am ev,ao (by lia)];lia
   .rw[ao ev,ao ev];exact ih
def xq{t:List (Int×Int)}{w x:Int}(h:(t.map (·.1)).Nodup):((addT t w x).map (·.1)).Nodup:=by
 rw[pD];by_cases e:w∈t.map (·.1)
 .rw[am e];exact h
 .rw[ao e];exact xz h e
def Znc{t:List (Int×Int)}{w x:Int}(h:(t.map (·.1)).Nodup):putK (kvT t) (Sum.inl w:Key) (V.int (bm t w+x))=kvT (addT t w x):=by
 by_cases e:w∈t.map (·.1)
 .unfold putK;rw[nq,wS e];simp only[Option.isSome_some,fZ]
  induction t with
  | nil=>cases e
  | cons q t ih =>
   have h:(q.1::t.map (·.1)).Nodup:=h;obtain⟨h1,h2⟩:=eh.mp h;rw[addT,bm];by_cases eq:q.1=w
   .rw[am eq,am eq];subst eq;unfold kvT;rw[aP,aP,aP,am rfl]
    congr 1
    rw[fM];refine gj fun q' hq'=>?_;have hne:q'.1≠q.1:=fun z=>h1 (by rw[<-z];exact mem_map_of_mem hq');show (if (Sum.inl q'.1:Key)=Sum.inl q.1 then _ else _)=_;rw[ao (fun z=>hne (Sum.inl.inj z))]
   .rw[ao eq,ao eq];have e':w∈t.map (·.1):=by
     have e:w∈q.1::t.map (·.1):=e;exact(aI.mp e).resolve_left fun z=>eq z.symm
    have:=ih h2 e';unfold kvT at this ⊢;rw[aP,aP,aP,this,ao (fun z=>eq (Sum.inl.inj z))]
 .rw[vS e,nZ,Znb (fun q hq z=>e (by rw[<-z];exact mem_map_of_mem hq))]
  congr 1
  clear h
  induction t with
  | nil=>rfl
  | cons q t ih =>
   have e:w∉q.1::t.map (·.1):=e;rw[aI,ci] at e;rw[addT,ao (fun z=>e.1 z.symm),<- ih e.2];rfl
def bu(t:List (Int×Int))(ps:List (Int×Int))(n:Int):List (Int×Int):=ps.foldl (fun t p=>addT t p.2 (p.1*n)) t
def atW(ps:List (Int×Int))(w:Int):Int:=(ps.map fun p=>if p.2=w then p.1 else 0).sum
def fR(ps:List (Int×Int))(n:Int):∀ {t:List (Int×Int)},(t.map (·.1)).Nodup->((bu t ps n).map (·.1)).Nodup:=by
 induction ps with
 | nil=>exact fun h=>h
 | cons p ps ih=>exact fun h=>ih (xq h)
def ic(ps:List (Int×Int))(n w:Int):∀ (t:List (Int×Int)),bm (bu t ps n) w=bm t w+atW ps w*n:=by
 induction ps with
 | nil=>intro t;simp[bu,atW]
 | cons p ps ih =>
  intro t;show bm (bu (addT t p.2 (p.1*n)) ps n) w=_;rw[ih,ZmI];unfold atW;rw[aP,bW,Int.add_mul];by_cases e:w=p.2
  .rw[am e,am e.symm];lia
  .rw[ao e,ao (fun z=>e z.symm)];lia
end L2
namespace L2
open PySem
def ZnT(t:List (Int×Int))(w x:Int):(addT t w x).length<=t.length+1:=by
 have:=congrArg List.length (pD t w x);rw[af] at this;rw[this];split
 .rw[af];lia
 .rw[aJ,af];simp
def kG(ps:List (Int×Int))(n:Int):∀ (t:List (Int×Int)),(bu t ps n).length<=t.length+ps.length:=by
 induction ps with
 | nil=>intro t;exact aE _
 | cons p ps ih =>
  intro t;have h1:=ih (addT t p.2 (p.1*n));have h2:=ZnT t p.2 (p.1*n);show (bu (addT t p.2 (p.1*n)) ps n).length<=_;rw[cD];lia
def qU(t ps:List (Int×Int))(p:Int×Int)(n:Int):bu t (ps++[p]) n=addT (bu t ps n) p.2 (p.1*n):=by
 unfold bu;rw[n6];rfl
def cx(t:List (Int×Int))(ms:List Int):List (Int×Int):=(ms.filter fun w=>decide (bm t w≠0)).map fun w=>(bm t w,w)
end L2
end
section
namespace L2
open PySem
structure Canon(ps:List (Int×Int)):Prop where
 up:ps.Pairwise fun p q=>p.2<q.2
 nz:∀ p∈ps,p.1≠0
def hJ(p:Int×Int)(ps:List (Int×Int))(w:Int):atW (p::ps) w=(if p.2=w then p.1 else 0)+atW ps w:=by unfold atW;rw[aP,bW]
def Zkk(ps qs:List (Int×Int))(w:Int):atW (ps++qs) w=atW ps w+atW qs w:=by
 induction ps with
 | nil=>rw[dS];unfold atW;simp
 | cons p ps ih=>rw[dB,hJ,hJ,ih];lia
def jV{ps:List (Int×Int)}{w:Int}(h:∀ p∈ps,p.2≠w):atW ps w=0:=by
 induction ps with
 | nil=>rfl
 | cons p ps ih =>
  rw[hJ,ao (h p aQ),ih fun q hq=>h q (bD _ hq)];lia
def Canon.tail{p:Int×Int}{ps:List (Int×Int)}(h:Canon (p::ps)):Canon ps:=⟨(lI.mp h.up).2,fun q hq=>h.nz q (bD _ hq)⟩
def Canon.head{p:Int×Int}{ps:List (Int×Int)}(h:Canon (p::ps)):atW (p::ps) p.2=p.1/\p.1≠0/\∀ w,w<p.2->atW (p::ps) w=0:=by
 have h1:=(lI.mp h.up).1;refine⟨?_,h.nz p aQ,fun w hw=>?_⟩
 .rw[hJ,am rfl,jV fun q hq=>by have:=h1 q hq;lia];lia
 .refine jV fun q hq=>?_;rcases aI.mp hq with rfl|hq
  .lia
  .have:=h1 q hq;lia
theorem canon_one : ∀ {ps qs : List (Int×Int)}, Canon ps->Canon qs->(∀ w, atW ps w=atW qs w)->ps=qs
  | [], [], _, _, _=>rfl
  | [], q :: qs, _, h, e => by
    obtain⟨h1,h2,_⟩:=h.head;have:=e q.2;rw[h1] at this;exact absurd this.symm h2
  | p :: ps, [], h, _, e => by
    obtain⟨h1,h2,_⟩:=h.head;have:=e p.2;rw[h1] at this;exact absurd this h2
  | p :: ps, q :: qs, hp, hq, e => by
    obtain⟨p1,p2,p3⟩:=hp.head;obtain⟨q1,q2,q3⟩:=hq.head;have hw : p.2=q.2:=by
      rcases Int.lt_trichotomy p.2 q.2 with h|h|h
      . have := e p.2
        rw[p1,q3 _ h] at this;exact absurd this p2
      . exact h
      . have := e q.2
        rw[q1,p3 _ h] at this;exact absurd this.symm q2
    have ha:p.1=q.1:=by rw[<-p1,<- q1,e p.2,hw]
    have hpq:p=q:=Prod.ext ha hw;subst hpq;rw[canon_one hp.tail hq.tail fun w=>by
      have:=e w;rw[hJ,hJ] at this;lia]
def Zha{t:List (Int×Int)}{ms:List Int}(hn:ms.Nodup)(hs:ms.Pairwise (·<=·)):Canon (cx t ms):=by
 refine⟨?_,fun p hp=>?_⟩
 .unfold cx;rw[pairwise_map];refine List.Pairwise.filter _ ?_;refine(hs.and hn).imp fun h=>?_;have h1:=h.1;have h2:=h.2;show _<_;lia
 .unfold cx at hp;obtain⟨w,hw,rfl⟩:=aU.mp hp;exact lL (lr.mp hw).2
def Zlw{t:List (Int×Int)}{ms:List Int}(hn:ms.Nodup)(w:Int):atW (cx t ms) w=if w∈ms then bm t w else 0:=by
 induction ms with
 | nil=>rfl
 | cons m ms ih =>
  obtain⟨h1,h2⟩:=eh.mp hn;have ih:=ih h2;have e:cx t (m::ms)=(if bm t m≠0 then [(bm t m,m)] else [])++cx t ms:=by
   unfold cx;by_cases h:bm t m=0 <;> simp[h]
  rw[e,Zkk,ih];by_cases hw:m=w
  .subst hw;rw[ao h1,am aQ];by_cases h:bm t m=0
   .rw[ao (by simpa using h),h];rfl
   .rw[am h,hJ,am rfl];show _+atW [] m+0=_;rw[jV (fun _ hq=>by cases hq)];lia
  .have e0:atW (if bm t m≠0 then [(bm t m,m)] else []) w=0:=by
    refine jV fun q hq=>?_;split at hq
    .obtain rfl:=aK.mp hq;exact hw
    .cases hq
   rw[e0];by_cases h:w∈ms
   .rw[am h,am (bD _ h)];lia
   .rw[ao h,ao (fun z=>(aI.mp z).elim (fun z=>hw z.symm) h)];lia
def Zh9{t:List (Int×Int)}{ms:List Int}(hn:(t.map (·.1)).Nodup)(hp:ms.Perm (t.map (·.1)))(w:Int):atW (cx t ms) w=bm t w:=by
 rw[Zlw (hp.nodup_iff.mpr hn)];by_cases h:w∈ms
 .rw[am h]
 .rw[ao h,vS fun z=>h (hp.mem_iff.mpr z)]
end L2
namespace L2
open PySem
abbrev Frm:=Int×List (Int×Int)
def nthF(fl:List Frm)(w:Int):Frm:=fl.getD w.toNat (0,[])
def putC(c:Int)(ps:List (Int×Int))(fl:List Frm):Int:=ps.foldl (fun c p=>c+p.1*(nthF fl p.2).1) c
def de(ps:List (Int×Int))(fl:List Frm):List (Int×Int):=ps.foldl (fun t p=>bu t (nthF fl p.2).2 p.1) []
def putAt(ps:List (Int×Int))(fl:List Frm)(w:Int):Int:=(ps.map fun p=>atW (nthF fl p.2).2 w*p.1).sum
def Zlc(c:Int)(ps:List (Int×Int))(p:Int×Int)(fl:List Frm):putC c (ps++[p]) fl=putC c ps fl+p.1*(nthF fl p.2).1:=by unfold putC;rw[n6];rfl
def kB(ps:List (Int×Int))(p:Int×Int)(fl:List Frm):de (ps++[p]) fl=bu (de ps fl) (nthF fl p.2).2 p.1:=by unfold de;rw[n6];rfl
def ZjP(ps:List (Int×Int))(p:Int×Int)(fl:List Frm)(w:Int):putAt (ps++[p]) fl w=putAt ps fl w+atW (nthF fl p.2).2 w*p.1:=by unfold putAt;simp
def lU{α:Type}{C:List α->Prop}(h0:C [])(h1:∀ l a,C l->C (l++[a]))(l:List α):C l:=by
 have key:∀ (m:List α),C m.reverse:=by
  intro m
  induction m with
  | nil=>exact h0
  | cons a m ih=>rw[reverse_cons];exact h1 _ a ih
 have:=key l.reverse
 rwa [reverse_reverse] at this
def iU(ps:List (Int×Int))(fl:List Frm):((de ps fl).map (·.1)).Nodup:=by
 refine lU (C:=fun ps=>((de ps fl).map (·.1)).Nodup) fL (fun l a h=>?_) ps;show ((de (l++[a]) fl).map (·.1)).Nodup;rw[kB];exact fR _ _ h
def qT(ps:List (Int×Int))(fl:List Frm)(w:Int):bm (de ps fl) w=putAt ps fl w:=by
 refine lU (C:=fun ps=>bm (de ps fl) w=putAt ps fl w) rfl (fun l a h=>?_) ps;show bm (de (l++[a]) fl) w=putAt (l++[a]) fl w;rw[kB,ZjP,ic,h]
end L2
end
section
namespace L2
open PySem PySem.Spec PyProof.Rows
noncomputable def rT:List V->Hp->VK->Prop:=fun xs H Q=>∃ (a:Addr) (kvs:List (Key×V)) (ns:List Int),xs=[.ref a]/\H a=some (.dK kvs)/\kvs.map (·.1)=ns.map Sum.inl /\
 ns.length<64/\∀ (ms:List Int) p,ms.Perm ns->ms.Pairwise (·<=·)->H p=none->Q (.ref p) (upd H p (.lst (ms.map V.int)))
def ug{X:Cx}(hc:X.calm=true):cm X (.builtin "sorted") rT:=by
 intro pins s Z H xs us Q I r h;obtain⟨a,kvs,ns,rfl,ha,hk,hsz,q⟩:=h;obtain⟨u,rfl,ru⟩:=vals1 r;cases ru;obtain⟨hz,hS,vs,kv,hd⟩:=(show ObjOk X.prog X.w H s.heap a (.dK kvs) from I.hok a _ ha);obtain⟨ep,hat⟩:=hd.dictAt;have hlen:kvs.length=vs.length:=Paired.length kv;refine xV (id kind_sorted) plain_sorted entry_sorted (args_sorted1 _) ?_;unfold Builtin.«sorted»;refine ae (m:=checkCount "sorted" 1 1 _) (aq (id ?_));refine ae (PySem.W.kdu_collect (A:=X.A.in1) (PySem.W.kdl_dict (knd:=cN X.prog X.w) (kvs:=vs) (ep:=ep) hS) (I.ok.hd hc) hat (by lia) fun h' tk acc keep hacc=>?_);have hal:acc.toList.length=vs.length:=by rw[fI];exact hacc.1
 have hints:IntsAre acc.toList ns:=by
  have key:∀ (j:Nat) v,acc.toList[j]?=some v->∃ n t,ns[j]?=some n/\v=Value.int n t:=by
   intro j v e;obtain⟨k,x,e1,e2⟩:=hacc.2 j v (by rw[<-lE];exact e);have e3:(kvs.map (·.1))[j]?=some k:=by
    obtain⟨p,ep1,ep2⟩:=KV.at' kv e1;rw[ak,ep1];exact congrArg some ep2
   rw[hk,ak] at e3;obtain⟨n,en,rfl⟩:=bh.mp e3;obtain⟨t,rfl⟩:=Value.isInt_shape (k:=n) (v:=v) e2;exact⟨n,t,en,rfl⟩
  exact uR (by rw[hal,<- hlen];have:=congrArg List.length hk;simpa using this) key
 have hroom:acc.toList.length<=sizeLine:=by lia
 refine ae (nT (id ?_) hroom);have hD:(h'.push (seqObj "list" acc.toList.toArray 0)).get? h'.objs.size=some (seqObj "list" acc.toList.toArray 0):=ca _ rfl;have hnl:ns.length=acc.toList.length:=hints.length.symm;refine ae (eV (eJ slot_list_sort ⟨_,hD,rfl⟩ entry_list_sort (Zpf (z:={ s with heap:=h'.push (seqObj "list" acc.toList.toArray 0),toks:=tk }) hD hints hroom (fun h2 z'=>?_) fun out ms q1 q2 q3=>⟨_,rfl,?_⟩) (args_list_sort _)))
 .exact ZmX hints.intKeys (by rw[jo];exact h2) (by rw[jo,<- hnl];exact hsz)
 .refine aq ⟨_,rfl,?_⟩;generalize hF:sortedHeap (h'.push (seqObj "list" acc.toList.toArray 0)) h'.objs.size acc.toList out=hf;have keepF:∀ b o,s.heap.get? b=some o->hf.get? b=some o:=fun b o e=>by
   have e1:=keep b o e;have hlt:=bn e1;rw[<-hF,sortedHeap_old (bZ hlt) (by rw[size_push'];exact rj hlt)];exact br _ e1
  have hne:∀ b o,s.heap.get? b=some o->b≠h'.objs.size:=fun b o e=>bZ (bn (keep b o e));have hH:H h'.objs.size=none:=by
   cases e:H h'.objs.size with
   | none=>rfl
   | some o =>
    obtain⟨o',e'⟩:=(I.hok _ o e).there;exact absurd rfl (hne _ o' e')
  obtain⟨ep2,hat2⟩:=sortedHeap_at (out:=out) hD;rw[hF] at hat2;have hml:ms.length=ns.length:=q2.length_eq;refine⟨.ref h'.objs.size,upd H h'.objs.size (.lst (ms.map V.int)),I.un (Un.track' (Un.kept keepF) hne hH) (HOk.track (I.hok.kept keepF) hH ⟨by rw[af];lia,out.toList,ep2,vh q1,?_⟩),rfl,q ms _ q2 q3 hH⟩;simpa using hat2
inductive T where
 | non|bl (b:Bool)|int (i:Int)|str (x:Str)|tup (ts:List T)|lst (ts:List T)|ptr (a:Addr)|cst (xs:List Str)
inductive Ct where
 | lst (ts:List T)|bag (l:Addr)|ins (C dx:Addr) (fs:List (Str×T))|own (x:Addr)|dn (kvs:List (List (List Key)×T))|tb (t:List (Int×Int))|dt (kvs:List (List Key×T))|dz (o:Obj) (vs:List (List Key×V)) (kvs:List (List Key×T))|dk (kvs:List (Key×T))
abbrev GH:=Addr->Option Ct
def gput(G:GH)(a:Addr)(c:Ct):GH:=fun b=>if b=a then some c else G b
def gdel(G:GH)(a:Addr):GH:=fun b=>if b=a then none else G b
section
variable{G:GH}{b:Addr}{c c':Ct}
def gp_s:gput G a c a=some c:=am rfl
def gp_n(h:b≠a):gput G a c b=G b:=ao h
def gp_p:gput (gput G a c) a c'=gput G a c':=by funext b;unfold gput;split <;> rfl
def gp_c(h:a≠b):gput (gput G a c) b c'=gput (gput G b c') a c:=by
 funext x;unfold gput;by_cases e:x=b <;> by_cases e':x=a <;> simp[e,e',h,Ne.symm h]
def gp_d(h:G a=none):gdel (gput G a c) a=G:=by
 funext b;unfold gdel gput;by_cases e:b=a
 .rw[am e,e,h]
 .rw[ao e,ao e]
def g_ne{b:Addr}(h:G a=some c)(h':G b=none):a≠b:=fun e=>by rw[e,h'] at h;cases h
def gU(h:G a=some c):gput G a c=G:=by
 funext b;unfold gput;by_cases e:b=a
 .rw[am e,e,h]
 .rw[ao e]
end
def Key2(H:Hp)(ks:List (List Key))(b:Addr):Prop:=∃ rs:List Addr,H b=some (.tup (rs.map V.ref))/\Paired (fun(k:List Key) r=>H r=some (.tup (k.map kV))) ks rs
noncomputable def dnO(P:Program)(w:World)(a:Addr)(kvs:List (List (List Key)×Addr×V)):HO:=.ext fun h=>(a == sysModules)=false/\kvs.length<=sizeLine/\∃ xs:List (List (List Key)×Addr×Value),
 Paired (fun(p:List (List Key)×Addr×V) (q:List (List Key)×Addr×Value)=>p.1=q.1/\p.2.1=q.2.1/\RelV p.2.2 q.2.2) kvs xs /\
 ∃ o es ep,h.get? a=some o/\o.ExactDict/\o.data=.dict es ep/\es.toList=xs.map (entryOfKey (kind2 (cN P w)))/\(xs.map (·.1)).Nodup
section
variable(P:Program)(w:World)(K:W.Frag)(G:GH)(H:Hp)
mutual
inductive RepT:T->V->Prop
 | non:RepT .non .non
 | bl {b:_}:RepT (.bl b) (.bl b)
 | int {i:_}:RepT (.int i) (.int i)
 | str {x:_}:RepT (.str x) (.str x)
 | tup {a xs ts:_} (h:H a=some (.tup xs)) (r:RepTs ts xs):RepT (.tup ts) (.ref a)
 | lst {a xs ts:_} (g:G a=none) (h:H a=some (.lst xs)) (r:RepTs ts xs):RepT (.lst ts) (.ref a)
 | ptr {a:_}:RepT (.ptr a) (.ref a)
 | cst {a xs:_} (h:∀ H',SqT K H' a (xs.map V.str)):RepT (.cst xs) (.ref a)
inductive RepTs:List T->List V->Prop
 | nil:RepTs [] []
 | cons {t ts v vs:_} (h:RepT t v) (r:RepTs ts vs):RepTs (t::ts) (v::vs)
end
noncomputable def COk(a:Addr):Ct->Prop
 | .lst ts=>∃ xs,H a=some (.lst xs)/\RepTs K G H ts xs
 | .bag l=>BagAt H a l/\G l=none
 | .ins C dx fs=>∃ fs',H a=some (.ins C dx fs')/\G dx=some (.own a)/\Paired (fun(p:Str×T) (q:Str×V)=>p.1=q.1/\RepT K G H p.2 q.2) fs fs'
 | .own x=>H a=some (.own x)
 | .tb t=>H a=some (.dK (kvT t))/\(t.map (·.1)).Nodup
 | .dt kvs=>∃ kvs',H a=some (.dT kvs')/\Paired (fun(p:List Key×T) (q:List Key×V)=>p.1=q.1/\RepT K G H p.2 q.2) kvs kvs'
 | .dz o vs kvs=>H a=some (.frz o (.dT vs))/\Paired (fun(p:List Key×T) (q:List Key×V)=>p.1=q.1/\RepT K G H p.2 q.2) kvs vs
 | .dk kvs=>∃ kvs',H a=some (.dK kvs')/\Paired (fun(p:Key×T) (q:Key×V)=>p.1=q.1/\RepT K G H p.2 q.2) kvs kvs'
 | .dn kvs=>∃ kvs',H a=some (dnO P w a kvs')/\Paired (fun(p:List (List Key)×T) (q:List (List Key)×Addr×V)=>p.1=q.1/\Key2 H p.1 q.2.1/\RepT K G H p.2 q.2.2) kvs kvs'
def GOk:Prop:=∀ a c,G a=some c->COk P w K G H a c
end
def Stp(G:GH)(H:Hp)(G':GH)(H':Hp):Prop:=∀ a o,G a=none->H a=some o->H' a=some o/\G' a=none
section
variable{P:Program}{w:World}{K:W.Frag}{G G1 G2 G':GH}{t:T}{ts us:List T}{v:V}{xs:List V}{b:Addr}{c:Ct}
def Stp.refl:Stp G H G H:=fun _ _ g h=>⟨h,g⟩
def Stp.trans(s:Stp G H G1 H1)(t:Stp G1 H1 G2 H2):Stp G H G2 H2:=fun a o g h=>let ⟨h1,g1⟩:=s a o g h;t a o g1 h1
def Stp.same(s:Same H H'):Stp G H G H':=fun a o g h=>⟨s a o h,g⟩
def COk.ntup(x:COk P w K G H a c):(∃ o,H a=some o)/\∀ ys,H a≠some (.tup ys):=by
 cases c with
 | lst ts=>obtain⟨xs,h,_⟩:=x;exact⟨⟨_,h⟩,fun ys e=>by rw[h] at e;cases e⟩
 | bag l=>obtain⟨xs,h⟩:=x.1.lst;exact⟨⟨_,h⟩,fun ys e=>by rw[h] at e;cases e⟩
 | ins C dx fs=>obtain⟨_,h,_⟩:=x;exact⟨⟨_,h⟩,fun ys e=>by rw[h] at e;cases e⟩
 | tb t=>exact⟨⟨_,x.1⟩,fun ys e=>by rw[x.1] at e;cases e⟩
 | own y=>have h:H a=some (.own y):=x;exact⟨⟨_,h⟩,fun ys e=>by rw[h] at e;cases e⟩
 | dn kvs=>obtain⟨_,h,_⟩:=x;exact⟨⟨_,h⟩,fun ys e=>by rw[h] at e;cases e⟩
 | dt kvs=>obtain⟨_,h,_⟩:=x;exact⟨⟨_,h⟩,fun ys e=>by rw[h] at e;cases e⟩
 | dz o vs kvs=>exact⟨⟨_,x.1⟩,fun ys e=>by rw[x.1] at e;cases e⟩
 | dk kvs=>obtain⟨_,h,_⟩:=x;exact⟨⟨_,h⟩,fun ys e=>by rw[h] at e;cases e⟩
def GOk.tup(g:GOk P w K G H)(h:H a=some (.tup xs)):G a=none:=by
 cases e:G a with
 | none=>rfl
 | some c=>exact absurd h ((g a c e).ntup.2 xs)
def GOk.free(g:GOk P w K G H)(h:H a=none):G a=none:=by
 cases e:G a with
 | none=>rfl
 | some c=>obtain⟨o,q⟩:=(g a c e).ntup.1;rw[q] at h;cases h
def Kp(G:GH)(H:Hp)(G':GH)(H':Hp):Prop:=(∀ a xs,H a=some (.tup xs)->H' a=some (.tup xs))/\∀ a xs,G a=none->H a=some (.lst xs)->H' a=some (.lst xs)/\G' a=none
def Stp.kp(s:Stp G H G' H')(g:GOk P w K G H):Kp G H G' H':=⟨fun a xs h=>(s a _ (g.tup h) h).1,fun a xs n h=>s a _ n h⟩
mutual
theorem RepT.kp(s : Kp G H G' H') : ∀ {t : T} {v : V}, RepT K G H t v->RepT K G' H' t v
  | _, _, h => by
    cases h with
    | tup h r=>exact .tup (s.1 _ _ h) (RepTs.kp s r)
    | lst g h r=>exact .lst (s.2 _ _ g h).2 (s.2 _ _ g h).1 (RepTs.kp s r)
    | cst h=>exact .cst h
    | _=>constructor
theorem RepTs.kp(s : Kp G H G' H') : ∀ {t : List T} {v : List V}, RepTs K G H t v->RepTs K G' H' t v
  | _, _, h => by
    cases h with
    | nil=>exact .nil
    | cons h r=>exact .cons (RepT.kp s h) (RepTs.kp s r)
end
def RepT.mono(r:RepT K G H t v)(g:GOk P w K G H)(s:Stp G H G' H'):RepT K G' H' t v:=r.kp (s.kp g)
def RepTs.mono(r:RepTs K G H ts xs)(g:GOk P w K G H)(s:Stp G H G' H'):RepTs K G' H' ts xs:=r.kp (s.kp g)
theorem RepTs.length:∀ {ts:List T} {xs:List V},RepTs K G H ts xs->ts.length=xs.length
 | _,_,.nil=>rfl
 | _,_,.cons _ r=>by rw[cD,cD,r.length]
theorem RepTs.get:∀ {ts:List T} {xs:List V} {i:Nat} {t:T},RepTs K G H ts xs->ts[i]?=some t->∃ v,xs[i]?=some v/\RepT K G H t v
 | _,_,0,_,.cons h _,e=>by cases e;exact⟨_,rfl,h⟩
 | _,_,i+1,t,.cons _ r,e=>RepTs.get (i:=i) (t:=t) r e
theorem RepTs.app:∀ {ts us:List T} {xs ys:List V},RepTs K G H ts xs->RepTs K G H us ys->RepTs K G H (ts++us) (xs++ys)
 | _,_,_,_,.nil,q=>q
 | _,_,_,_,.cons h r,q=>.cons h (r.app q)
theorem RepTs.take:∀ {ts:List T} {xs:List V} (n:Nat),RepTs K G H ts xs->RepTs K G H (ts.take n) (xs.take n)
 | _,_,0,_=>.nil
 | _,_,n+1,.nil=>.nil
 | _,_,n+1,.cons h r=>.cons h (r.take n)
theorem RepTs.drop:∀ {ts:List T} {xs:List V} (n:Nat),RepTs K G H ts xs->RepTs K G H (ts.drop n) (xs.drop n)
 | _,_,0,r=>r
 | _,_,n+1,.nil=>.nil
 | _,_,n+1,.cons h r=>r.drop n
theorem RepTs.set:∀ {ts:List T} {xs:List V} (n:Nat),RepT K G H t v->RepTs K G H ts xs->RepTs K G H (ts.set n t) (xs.set n v)
 | _,_,_,q,.nil=>.nil
 | _,_,0,q,.cons h r=>.cons q r
 | _,_,n+1,q,.cons h r=>.cons h (r.set n q)
def gR{α β:Type}{F F':α->β->Prop}(f:∀ a b,F a b->F' a b){l:List α}{m:List β}(r:Paired F l m):Paired F' l m:=Paired.mapP r f
def ZlQ{ks:List (List Key)}(t:qc H H')(k:Key2 H ks b):Key2 H' ks b:=let ⟨rs,h,r⟩:=k;⟨rs,t _ _ h,gR (fun _ _ q=>t _ _ q) r⟩
def COk.kp(x:COk P w K G H a c)(s:Kp G H G' H')(h:∀ o,H a=some o->H' a=some o)(hb:∀ l,c=.bag l->(∀ o,H l=some o->H' l=some o)/\(G l=none->G' l=none))(ho:∀ C dx fs,c=.ins C dx fs->G dx=some (.own a)->G' dx=some (.own a)):COk P w K G' H' a c:=by
 cases c with
 | lst ts=>obtain⟨xs,e,r⟩:=x;exact⟨xs,h _ e,r.kp s⟩
 | bag l =>
  obtain⟨⟨xs,i,m,st,c,h1,h2,r⟩,g⟩:=x;exact⟨⟨xs,i,m,st,c,h _ h1,(hb l rfl).1 _ h2,r⟩,(hb l rfl).2 g⟩
 | ins C dx fs=>obtain⟨fs',e,g,r⟩:=x;exact⟨fs',h _ e,ho C dx fs rfl g,gR (fun p q z=>⟨z.1,z.2.kp s⟩) r⟩
 | own y=>exact h _ x
 | tb t=>exact⟨h _ x.1,x.2⟩
 | dt kvs=>obtain⟨kvs',e,r⟩:=x;exact⟨kvs',h _ e,gR (fun p q z=>⟨z.1,z.2.kp s⟩) r⟩
 | dz o vs kvs=>exact⟨h _ x.1,gR (fun p q z=>⟨z.1,z.2.kp s⟩) x.2⟩
 | dk kvs=>obtain⟨kvs',e,r⟩:=x;exact⟨kvs',h _ e,gR (fun p q z=>⟨z.1,z.2.kp s⟩) r⟩
 | dn kvs=>obtain⟨kvs',e,r⟩:=x;exact⟨kvs',h _ e,gR (fun p q z=>⟨z.1,ZlQ s.1 z.2.1,z.2.2.kp s⟩) r⟩
def BagAt.lo{l:Addr}(B:BagAt H a l):∃ o,H l=some o:=let ⟨_,_,_,_,_,_,h,_⟩:=B.ex;⟨_,h⟩
def GOk.same(g:GOk P w K G H)(s:Same H H'):GOk P w K G H':=fun a c e=>(g a c e).kp ((Stp.same s).kp g) (fun o=>s a o) (fun l _=>⟨fun o=>s l o,id⟩) fun _ _ _ _=>id
def GOk.put{o:HO}(g:GOk P w K G H)(h:(∃ c,G a=some c)\/H a=none)(hc:COk P w K (gput G a c) (upd H a o) a c)(hl:∀ b l,b≠a->G b=some (.bag l)->l≠a)(hd:∀ b C dx fs,b≠a->G b=some (.ins C dx fs)->dx≠a):GOk P w K (gput G a c) (upd H a o)/\Stp G H (gput G a c) (upd H a o):=by
 have ne:∀ b u,G b=none->H b=some u->b≠a:=fun b u gb hb e=>by
  subst e;rcases h with ⟨c,h⟩|h
  .rw[gb] at h;cases h
  .rw[hb] at h;cases h
 have st:Stp G H (gput G a c) (upd H a o):=fun b u gb hb=>⟨by rw[bC (ne b u gb hb)];exact hb,by rw[gp_n (ne b u gb hb)];exact gb⟩;refine⟨fun b c' e=>?_,st⟩;by_cases hb:b=a
 .subst hb;rw[gp_s] at e;cases e;exact hc
 .rw[gp_n hb] at e;refine (g b c' e).kp (st.kp g) (fun u q=>by rw[bC hb];exact q) (fun l z=>?_) fun C dx fs z q=>?_
  .subst z;have:=hl b l hb e;exact⟨fun u q=>by rw[bC this];exact q,fun q=>by rw[gp_n this];exact q⟩
  .subst z;rw[gp_n (hd b C dx fs hb e)];exact q
def GOk.putL{ts':List T}{xs':List V}(g:GOk P w K G H)(h:(∃ us,G a=some (.lst us))\/H a=none)(r:RepTs K G H ts' xs'):GOk P w K (gput G a (.lst ts')) (upd H a (.lst xs'))/\Stp G H (gput G a (.lst ts')) (upd H a (.lst xs')):=by
 have h':(∃ c,G a=some c)\/H a=none:=h.imp (fun⟨us,e⟩=>⟨_,e⟩) id;have ga:∀ c,G a=some c->∃ us,c=.lst us:=fun c e=>by
  rcases h with ⟨us,h⟩|h
  .rw[h] at e;cases e;exact⟨us,rfl⟩
  .rw[g.free h] at e;cases e
 have ne:∀ b u,G b=none->H b=some u->b≠a:=fun b u gb hb e=>by
  subst e;rcases h' with ⟨c,h⟩|h
  .rw[gb] at h;cases h
  .rw[hb] at h;cases h
 have st:Stp G H (gput G a (.lst ts')) (upd H a (.lst xs')):=fun b u gb hb=>⟨by rw[bC (ne b u gb hb)];exact hb,by rw[gp_n (ne b u gb hb)];exact gb⟩;refine g.put h' ⟨xs',bP,r.mono g st⟩ (fun b l hb e z=>?_) (fun b C dx fs hb e z=>?_)
 .subst z;obtain⟨o,q⟩:=(g b _ e).1.lo;exact ne _ o (g b _ e).2 q rfl
 .subst z;obtain⟨_,_,q,_⟩:=g b _ e;obtain⟨us,z⟩:=ga _ q;cases z
end
end L2
end
variable{G1 G2 G' G0:L2.GH}{kb:Bool->L2.GH->Prop}
section
namespace L2
open PySem PySem.Spec PyProof.Rows
abbrev Ev:=List (Option T)
section
variable(P:Program)(w:World)(K:W.Frag)
structure EnvOk(G:GH)(H:Hp)(Z:St)(Γ:Ev):Prop where
 len:Z.length=Γ.length
 at':∀ (i:Nat) (t:T),Γ[i]?=some (some t)->∃ v,Z[i]?=some (some v)/\RepT K G H t v
def Pst(G:GH)(H:Hp)(k:T->GH->Prop)(Q:VK):Prop:=∀ v H' d G',Stp G H G' H'->GOk P w K G' H'->RepT K G' H' d v->k d G'->Q v H'
def We(t:TE)(Γ:Ev)(G:GH)(k:T->GH->Prop):Prop:=∀ H Z,GOk P w K G H->EnvOk K G H Z Γ->∀ Q,Pst P w K G H k Q->t Z H Q
def Wt(t:TT)(Γ:Ev)(G:GH)(k:Bool->GH->Prop):Prop:=∀ H Z,GOk P w K G H->EnvOk K G H Z Γ->∀ Q,(∀ b H' G',Stp G H G' H'->GOk P w K G' H'->k b G'->Q b H')->t Z H Q
def Wa(t:TA)(Γ:Ev)(G:GH)(k:List T->GH->Prop):Prop:=∀ H Z,GOk P w K G H->EnvOk K G H Z Γ->∀ Q,(∀ vs H' ds G',Stp G H G' H'->GOk P w K G' H'->RepTs K G' H' ds vs->k ds G'->Q vs H')->t Z H Q
def Pn(G:GH)(H:Hp)(k:Ev->GH->Prop)(R:St->Hp->Prop):Prop:=∀ σ' H' Γ' G',Stp G H G' H'->GOk P w K G' H'->EnvOk K G' H' σ' Γ'->k Γ' G'->R σ' H'
structure EndT where
 nx:Ev->GH->Prop
 rt:T->GH->Prop
 bk:Ev->GH->Prop:=fun _ _=>False
 ct:Ev->GH->Prop:=fun _ _=>False
structure EOkT(G:GH)(H:Hp)(D:EndT)(D':Ends):Prop where
 nx:Pn P w K G H D.nx D'.nx
 rt:Pst P w K G H D.rt D'.rt
 bk:Pn P w K G H D.bk D'.bk
 ct:Pn P w K G H D.ct D'.ct
def Ws(t:TS)(Γ:Ev)(G:GH)(D:EndT):Prop:=∀ H Z,GOk P w K G H->EnvOk K G H Z Γ->∀ D',EOkT P w K G H D D'->t D' Z H
def Wg(g:TG)(d:T)(Γ:Ev)(G:GH)(k:Ev->GH->Prop):Prop:=∀ H Z v,GOk P w K G H->EnvOk K G H Z Γ->RepT K G H d v->∀ R,Pn P w K G H k R->g v Z H R
def Wgs(g:TGs)(ds:List T)(Γ:Ev)(G:GH)(k:Ev->GH->Prop):Prop:=∀ H Z vs,GOk P w K G H->EnvOk K G H Z Γ->RepTs K G H ds vs->∀ R,Pn P w K G H k R->g vs Z H R
def L2r(r:R2)(x y:T)(G:GH)(k:T->GH->Prop):Prop:=∀ H u v,GOk P w K G H->RepT K G H x u->RepT K G H y v->∀ Q,Pst P w K G H k Q->r u v H Q
def L1r(r:V->Hp->VK->Prop)(x:T)(G:GH)(k:T->GH->Prop):Prop:=∀ H u,GOk P w K G H->RepT K G H x u->∀ Q,Pst P w K G H k Q->r u H Q
def LNr(r:List V->Hp->VK->Prop)(xs:List T)(G:GH)(k:T->GH->Prop):Prop:=∀ H us,GOk P w K G H->RepTs K G H xs us->∀ Q,Pst P w K G H k Q->r us H Q
def IsIt(G:GH)(H:Hp)(J:It)(xs:List T)(kp:GH->Prop):Prop:=∀ G' H',Stp G H G' H'->GOk P w K G' H'->kp G'->(∀ (i:Nat) x,xs[i]?=some x->J.go i H'/\∀ v H2,J.yld i H' v H2->Same H' H2/\RepT K G' H2 x v)/\J.stop xs.length H'
def Wo(t:TO)(Γ:Ev)(G:GH)(k:Option Int->GH->Prop):Prop:=∀ H Z,GOk P w K G H->EnvOk K G H Z Γ->∀ Q,(∀ b H' G',Stp G H G' H'->GOk P w K G' H'->k b G'->Q b H')->t Z H Q
def Wi(t:TI)(Γ:Ev)(G:GH)(k:List T->(GH->Prop)->GH->Prop):Prop:=∀ H Z,GOk P w K G H->EnvOk K G H Z Γ->∀ Q,(∀ J H' xs kp G',Stp G H G' H'->GOk P w K G' H'->IsIt P w K G' H' J xs kp->k xs kp G'->Q J H')->t Z H Q
end
def gy{A B:Prop}(h:if true=true then A else B):A:=by simpa using h
def gx{A B:Prop}(h:if false=true then A else B):B:=by simpa using h
section
variable{P:Program}{w:World}{K:W.Frag}{G:GH}{Γ:Ev}{tb:TE}{k:T->GH->Prop}{ka:List T->GH->Prop}{kn:Ev->GH->Prop}{Q:VK}{d x y:T}{i:Nat}{D:EndT}{t u:TS}{c c2:TT}{r r':R2}{gs:TGs}{ds xs:List T}
def EnvOk.mono(e:EnvOk K G H Z Γ)(g:GOk P w K G H)(s:Stp G H G' H'):EnvOk K G' H' Z Γ:=⟨e.len,fun i t q=>let ⟨v,h,r⟩:=e.at' i t q;⟨v,h,r.mono g s⟩⟩
def EnvOk.set{v:V}(e:EnvOk K G H Z Γ)(r:RepT K G H d v):EnvOk K G H (Z.set i (some v)) (Γ.set i (some d)):=by
 refine⟨by rw[cC,cC,e.len],fun j t q=>?_⟩;by_cases h:i=j
 .subst h;have hi:i < Γ.length:=by have:=(aT.mp q).1;rwa [cC] at this
  rw[gV hi] at q;cases q;exact⟨v,gV (by rw[e.len];exact hi),r⟩
 .rw[jh h] at q ⊢;exact e.at' j t q
def Pst.mono(p:Pst P w K G H k Q)(s:Stp G H G' H'):Pst P w K G' H' k Q:=fun v H2 d G2 s2 g r q=>p v H2 d G2 (s.trans s2) g r q
def Pn.mono{R:St->Hp->Prop}(p:Pn P w K G H kn R)(s:Stp G H G' H'):Pn P w K G' H' kn R:=fun v H2 d G2 s2 g r q=>p v H2 d G2 (s.trans s2) g r q
def EOkT.mono{D':Ends}(e:EOkT P w K G H D D')(s:Stp G H G' H'):EOkT P w K G' H' D D':=⟨e.nx.mono s,e.rt.mono s,e.bk.mono s,e.ct.mono s⟩
def Pst.here{v:V}(p:Pst P w K G H k Q)(g:GOk P w K G H)(r:RepT K G H d v)(q:k d G):Q v H:=p v H d G .refl g r q
def Pst.new{p:Addr}{o:HO}(z:Pst P w K G H k Q)(g:GOk P w K G H)(hp:H p=none)(q:k d G)(r:Same H (upd H p o)->GOk P w K G (upd H p o)->G p=none->RepT K G (upd H p o) d (.ref p)):Q (.ref p) (upd H p o) :=
 z _ _ d G (.same (.new hp)) (g.same (.new hp)) (r (.new hp) (g.same (.new hp)) (g.free hp)) q
def Pst.tup{p:Addr}{vs:List V}(z:Pst P w K G H k Q)(g:GOk P w K G H)(hp:H p=none)(rs:RepTs K G H ds vs)(q:k (.tup ds) G):Q (.ref p) (upd H p (.tup vs)):=z.new g hp q fun s _ _=>.tup bP (rs.mono g (.same s))
def Pst.lst{p:Addr}{vs:List V}(z:Pst P w K G H k Q)(g:GOk P w K G H)(hp:H p=none)(rs:RepTs K G H ds vs)(q:k (.lst ds) G):Q (.ref p) (upd H p (.lst vs)):=z.new g hp q fun s _ n=>.lst n bP (rs.mono g (.same s))
def kQ(e:Γ[i]?=some (some d))(q:k d G):We P w K (tVar i) Γ G k:=fun H Z g ev Q z=>let ⟨v,h,r⟩:=ev.at' i d e;⟨v,h,z.here g r q⟩
def qo{n:Int}(q:k (.int n) G):We P w K (tC (.int n)) Γ G k:=fun H Z g ev Q z=>z.here g .int q
def Zn5{n:Str}(q:k (.str n) G):We P w K (tC (.str n)) Γ G k:=fun H Z g ev Q z=>z.here g .str q
def we_bl{n:Bool}(q:k (.bl n) G):We P w K (tC (.bl n)) Γ G k:=fun H Z g ev Q z=>z.here g .bl q
def Zn7(q:k .non G):We P w K (tC .non) Γ G k:=fun H Z g ev Q z=>z.here g .non q
def we_op(h:We P w K ta Γ G fun x G1=>We P w K tb Γ G1 fun y G2=>L2r P w K r x y G2 k):We P w K (tOp r ta tb) Γ G k:=fun H Z g ev Q z=>h H Z g ev _ fun v H1 x G1 s1 g1 r1 q1=>q1 H1 Z g1 (ev.mono g s1) _ fun u H2 y G2 s2 g2 r2 q2=>q2 H2 v u g2 (r1.mono g1 s2) r2 Q (z.mono (s1.trans s2))
def we_un{r:V->Hp->VK->Prop}(h:We P w K ta Γ G fun x G1=>L1r P w K r x G1 k):We P w K (tUn r ta) Γ G k:=fun H Z g ev Q z=>h H Z g ev _ fun v H1 x G1 s1 g1 r1 q1=>q1 H1 v g1 r1 Q (z.mono s1)
def i6(h:ka [] G):Wa P w K tNil Γ G ka:=fun H Z g ev Q z=>z [] H [] G .refl g .nil h
def uB(h:We P w K ta Γ G fun x G1=>Wa P w K tr Γ G1 fun xs G2=>ka (x::xs) G2):Wa P w K (bI ta tr) Γ G ka:=fun H Z g ev Q z=>h H Z g ev _ fun v H1 x G1 s1 g1 r1 q1=>q1 H1 Z g1 (ev.mono g s1) _ fun us H2 xs G2 s2 g2 r2 q2=>z _ H2 _ G2 (s1.trans s2) g2 (.cons (r1.mono g1 s2) r2) q2
def Zn4(h:Wa P w K tr Γ G fun ts G1=>ts.length<=1000/\k (.tup ts) G1):We P w K (tTup tr) Γ G k:=fun H Z g ev Q z=>h H Z g ev _ fun vs H1 ts G1 s1 g1 r1 q1=>⟨ii (by rw[<-r1.length];exact q1.1),fun p hp=>(z.mono s1).tup g1 hp r1 q1.2⟩
def Zn8(h:Wa P w K tr Γ G fun ts G1=>ts.length<=1000/\k (.lst ts) G1):We P w K (tLst tr) Γ G k:=fun H Z g ev Q z=>h H Z g ev _ fun vs H1 ts G1 s1 g1 r1 q1=>⟨ii (by rw[<-r1.length];exact q1.1),fun p hp=>(z.mono s1).lst g1 hp r1 q1.2⟩
def jF(h:Wa P w K tr Γ G fun ts G1=>ts.length<=1000/\∀ a,G1 a=none->k (.ptr a) (gput G1 a (.lst ts))):We P w K (tLst tr) Γ G k:=fun H Z g ev Q z=>h H Z g ev _ fun vs H1 ts G1 s1 g1 r1 q1=>⟨ii (by rw[<-r1.length];exact q1.1),fun p hp =>
 let ⟨g2,s2⟩:=g1.putL (.inr hp) r1;z _ _ _ _ (s1.trans s2) g2 .ptr (q1.2 p (g1.free hp))⟩
def we_cb{rr:List V->Hp->VK->Prop}(h:Wa P w K tr Γ G fun xs G1=>LNr P w K rr xs G1 k):We P w K (tCB rr tr) Γ G k:=fun H Z g ev Q z=>h H Z g ev _ fun us H1 xs G1 s1 g1 r1 q1=>q1 H1 us g1 r1 Q (z.mono s1)
def ZkC{E:XK}(h:Wa P w K tr Γ G fun xs G1=>LNr P w K (fun vs H Q=>sp vs H Q E) xs G1 k):We P w K (ij sp [] E tr) Γ G k:=fun H Z g ev Q z=>h H Z g ev _ fun us H1 xs G1 s1 g1 r1 q1=>by rw[dR];exact q1 H1 us g1 r1 Q (z.mono s1)
def we_sl{rr:V->Option Int->Option Int->Hp->VK->Prop}{tl th:TO}(h:We P w K te Γ G fun x G1=>Wo P w K tl Γ G1 fun l G2=>Wo P w K th Γ G2 fun u G3=>L1r P w K (fun v H Q=>rr v l u H Q) x G3 k):We P w K (tSl rr te tl th) Γ G k:=fun H Z g ev Q z =>
 h H Z g ev _ fun v H1 x G1 s1 g1 r1 q1=>q1 H1 Z g1 (ev.mono g s1) _ fun l H2 G2 s2 g2 q2=>q2 H2 Z g2 (ev.mono g (s1.trans s2)) _ fun u H3 G3 s3 g3 q3=>q3 H3 v g3 (r1.mono g1 (s2.trans s3)) Q (z.mono (s1.trans (s2.trans s3)))
def wo_no{ko:Option Int->GH->Prop}(h:ko none G):Wo P w K qD Γ G ko:=fun H Z g ev Q z=>z none H G .refl g h
def Zkq{ko:Option Int->GH->Prop}(h:We P w K te Γ G fun x G1=>∃ i,x=.int i/\ko (some i) G1):Wo P w K (qE te) Γ G ko:=fun H Z g ev Q z=>h H Z g ev _ fun v H1 x G1 s1 g1 r1 ⟨i,e,q⟩=>by subst e;cases r1;exact⟨i,rfl,z _ _ _ s1 g1 q⟩
def Zko(h:We P w K te Γ G fun x G1=>∃ b,x=.bl b/\kb b G1):Wt P w K (nE te) Γ G kb:=fun H Z g ev Q z=>h H Z g ev _ fun v H1 x G1 s1 g1 r1 ⟨b,e,q⟩=>by subst e;cases r1;exact⟨b,rfl,z _ _ _ s1 g1 q⟩
def wt_b(h:We P w K te Γ G fun x G1=>∃ b,x=.bl b/\kb b G1):Wt P w K (tB te) Γ G kb:=fun H Z g ev Q z=>h H Z g ev _ fun v H1 x G1 s1 g1 r1 ⟨b,e,q⟩=>by subst e;cases r1;exact⟨b,rfl,z _ _ _ s1 g1 q⟩
def ZnY(h:Wt P w K c Γ G fun b G1=>if b=true then Wt P w K c2 Γ G1 kb else kb false G1):Wt P w K (tAnd c c2) Γ G kb:=fun H Z g ev Q z=>h H Z g ev _ fun b H1 G1 s1 g1 q1=>by
 cases b with
 | true=>exact iteT ((gy q1) H1 Z g1 (ev.mono g s1) Q fun b H2 G2 s2=>z b H2 G2 (s1.trans s2))
 | false=>exact iteF (z _ _ _ s1 g1 (gx q1))
def wt_or(h:Wt P w K c Γ G fun b G1=>if b=true then kb true G1 else Wt P w K c2 Γ G1 kb):Wt P w K (tOr c c2) Γ G kb:=fun H Z g ev Q z=>h H Z g ev _ fun b H1 G1 s1 g1 q1=>by
 cases b with
 | true=>exact iteT (z _ _ _ s1 g1 (gy q1))
 | false=>exact iteF ((gx q1) H1 Z g1 (ev.mono g s1) Q fun b H2 G2 s2=>z b H2 G2 (s1.trans s2))
def ZnX(h:Wt P w K c Γ G fun b G1=>kb (!b) G1):Wt P w K (tNot c) Γ G kb:=fun H Z g ev Q z=>h H Z g ev _ fun b H1 G1 s1 g1 q1=>z _ _ _ s1 g1 q1
def o5(h:kb true G):Wt P w K iV Γ G kb:=fun H Z g ev Q z=>z _ _ _ .refl g h
def ZkF(h:We P w K ta Γ G fun x G1=>∃ b,x=.bl b/\if b=true then We P w K tb Γ G1 k else k (.bl false) G1):We P w K (tAndV ta tb) Γ G k:=fun H Z g ev Q z=>h H Z g ev _ fun v H1 x G1 s1 g1 r1 ⟨b,e,q⟩=>by
 subst e;cases r1;refine⟨b,rfl,?_⟩;cases b with
 | true=>exact iteT ((gy q) H1 Z g1 (ev.mono g s1) Q (z.mono s1))
 | false=>exact iteF ((z.mono s1).here g1 .bl (gx q))
def Zn6(h:We P w K ta Γ G fun x G1=>∃ b,x=.bl b/\if b=true then k (.bl true) G1 else We P w K tb Γ G1 k):We P w K (tOrV ta tb) Γ G k:=fun H Z g ev Q z=>h H Z g ev _ fun v H1 x G1 s1 g1 r1 ⟨b,e,q⟩=>by
 subst e;cases r1;refine⟨b,rfl,?_⟩;cases b with
 | true=>exact iteT ((z.mono s1).here g1 .bl (gy q))
 | false=>exact iteF ((gx q) H1 Z g1 (ev.mono g s1) Q (z.mono s1))
def Zkx(h:We P w K ta Γ G fun x G1=>∃ b,x=.bl b/\k (.bl (!b)) G1):We P w K (tNotV ta) Γ G k:=fun H Z g ev Q z=>h H Z g ev _ fun v H1 x G1 s1 g1 r1 ⟨b,e,q⟩=>by subst e;cases r1;exact⟨b,rfl,(z.mono s1).here g1 .bl q⟩
def we_if(h:Wt P w K c Γ G fun b G1=>if b=true then We P w K ta Γ G1 k else We P w K tb Γ G1 k):We P w K (tIf c ta tb) Γ G k:=fun H Z g ev Q z=>h H Z g ev _ fun b H1 G1 s1 g1 q1=>by
 cases b with
 | true=>exact iteT ((gy q1) H1 Z g1 (ev.mono g s1) Q (z.mono s1))
 | false=>exact iteF ((gx q1) H1 Z g1 (ev.mono g s1) Q (z.mono s1))
def ZiF(h:We P w K ta Γ G fun x G1=>We P w K tb Γ G1 fun y G2=>L2r P w K r x y G2 fun z G3=>∃ b,z=.bl b/\if b=true then We P w K tc Γ G3 (fun u G4=>L2r P w K r' y u G4 k) else k (.bl false) G3):We P w K (nr r r' ta tb tc) Γ G k:=fun H Z g ev Q z =>
 h H Z g ev _ fun v H1 x G1 s1 g1 r1 q1=>q1 H1 Z g1 (ev.mono g s1) _ fun u H2 y G2 s2 g2 r2 q2=>q2 H2 v u g2 (r1.mono g1 s2) r2 _ fun o H3 zz G3 s3 g3 r3 ⟨b,e,q3⟩=>by
  subst e;cases r3;refine⟨b,rfl,?_⟩;cases b with
  | true=>exact iteT ((gy q3) H3 Z g3 (ev.mono g (s1.trans (s2.trans s3))) _ fun m H4 mm G4 s4 g4 r4 q4=>q4 H4 u m g4 (r2.mono g2 (s3.trans s4)) r4 Q (z.mono (s1.trans (s2.trans (s3.trans s4)))))
  | false=>exact iteF ((z.mono (s1.trans (s2.trans s3))).here g3 .bl (gx q3))
def mS(h:D.nx Γ G):Ws P w K o7 Γ G D:=fun H Z g ev D' z=>z.nx Z H Γ G .refl g ev h
def cT(h:Ws P w K t Γ G { D with nx:=fun Γ' G'=>Ws P w K u Γ' G' D }):Ws P w K (tSeq t u) Γ G D:=fun H Z g ev D' z=>h H Z g ev _ ⟨fun σ' H' Γ' G' s g' e' q=>q H' σ' g' e' D' (z.mono s),z.rt,z.bk,z.ct⟩
def dX(h:We P w K te Γ G fun d G1=>Wg P w K g d Γ G1 D.nx):Ws P w K (tAsg te g) Γ G D:=fun H Z g ev D' z=>h H Z g ev _ fun v H1 x G1 s1 g1 r1 q1=>q1 H1 Z v g1 (ev.mono g s1) r1 _ (z.nx.mono s1)
def bH(h:kn (Γ.set i (some d)) G):Wg P w K (eF i) d Γ G kn:=fun H Z v g ev r R z=>z _ H _ G .refl g (ev.set r) h
def l0(h:kn Γ G):Wgs P w K gNil [] Γ G kn:=fun H Z v g ev r R z=>by cases r;exact⟨rfl,z _ H _ G .refl g ev h⟩
def gO(h:Wg P w K g d Γ G fun Γ' G'=>Wgs P w K gs ds Γ' G' kn):Wgs P w K (gCons g gs) (d::ds) Γ G kn:=fun H Z vs g ev r R z=>by
 cases r with
 | cons r1 r2=>exact⟨_,_,rfl,h H Z _ g ev r1 _ fun σ' H' Γ' G' s g' e' q=>q H' σ' _ g' e' (r2.mono g s) R (z.mono s)⟩
def cR(hl:ds.length=n)(h:Wgs P w K gs ds Γ G kn):Wg P w K (gTup K n gs) (.tup ds) Γ G kn:=fun H Z v g ev r R z=>by
 cases r with
 | tup ha rs=>exact⟨_,_,rfl,SqT.of ha,by rw[<-rs.length];exact hl,h H Z _ g ev rs R z⟩
def jt(h:Wt P w K c Γ G fun b G1=>if b=true then Ws P w K t Γ G1 D else Ws P w K u Γ G1 D):Ws P w K (tIfS c t u) Γ G D:=fun H Z g ev D' z=>h H Z g ev _ fun b H1 G1 s1 g1 q1=>by
 cases b with
 | true=>exact iteT ((gy q1) H1 Z g1 (ev.mono g s1) D' (z.mono s1))
 | false=>exact iteF ((gx q1) H1 Z g1 (ev.mono g s1) D' (z.mono s1))
def pU(h:We P w K te Γ G fun _ G1=>D.nx Γ G1):Ws P w K (tDrop te) Γ G D:=fun H Z g ev D' z=>h H Z g ev _ fun v H1 x G1 s1 g1 r1 q1=>z.nx Z H1 Γ G1 s1 g1 (ev.mono g s1) q1
def GOk.del(g:GOk P w K G H)(hl:∀ x,G a≠some (.own x)):GOk P w K (gdel G a) H:=fun b c e=>by
 have hb:b≠a:=fun z=>by subst z;unfold gdel at e;rw[am rfl] at e;cases e
 have e':G b=some c:=by unfold gdel at e;rwa [ao hb] at e
 have kk:Kp G H (gdel G a) H:=⟨fun _ _ h=>h,fun c xs n h=>⟨h,by unfold gdel;split <;> first|rfl|exact n⟩⟩;refine(g b c e').kp kk (fun _ h=>h) (fun l _=>⟨fun _ h=>h,fun q=>by unfold gdel;split <;> first|rfl|exact q⟩) fun C dx fs z q=>?_;unfold gdel;rw[ao]
 .exact q
 .intro z;subst z;exact hl _ q
def Cl(k:T->GH->Prop)(d:T)(G:GH):Prop:=∃ d' G',(∀ c,G c=none->G' c=none)/\(∀ P w K H v,GOk P w K G H->RepT K G H d v->GOk P w K G' H/\RepT K G' H d' v)/\k d' G'
def au(h:k d G):Cl k d G:=⟨d,G,fun _ h=>h,fun _ _ _ _ _ g r=>⟨g,r⟩,h⟩
def oY{ts:List T}:Kp G H (gdel G a) H:=⟨fun _ _ h=>h,fun c xs n h=>⟨h,by unfold gdel;split <;> first|rfl|exact n⟩⟩
def pE{ts:List T}(n:G a=none)(h:Cl k (.lst ts) G):Cl k (.ptr a) (gput G a (.lst ts)):=by
 obtain⟨d',G',h1,h2,h3⟩:=h;refine⟨d',G',fun c q=>h1 c ?_,fun P w K H v g r=>?_,h3⟩
 .by_cases e:c=a
  .rw[e];exact n
  .rwa [gp_n e] at q
 .cases r;have gd:=g.del (a:=a) fun x e=>by rw[gp_s] at e;cases e
  obtain⟨xs,e,rs⟩:=g a _ gp_s;have rs:=rs.kp (oY (ts:=ts) (a:=a));rw[gp_d n] at gd rs;exact h2 P w K H _ gd (.lst n e rs)
def eO{c0:Ct}(n:G a=none)(ho:∀ x,c0≠.own x)(h:Cl k d G):Cl k d (gput G a c0):=by
 obtain⟨d',G',h1,h2,h3⟩:=h;refine⟨d',G',fun c q=>h1 c ?_,fun P w K H v g r=>?_,h3⟩
 .by_cases e:c=a
  .rw[e];exact n
  .rwa [gp_n e] at q
 .have gd:=g.del (a:=a) fun x e=>by rw[gp_s] at e;cases e;exact ho _ rfl
  have rs:=r.kp (oY (ts:=[]) (a:=a));rw[gp_d n] at gd rs;exact h2 P w K H _ gd rs
def k7(h:We P w K te Γ G (Cl D.rt)):Ws P w K (tRet te) Γ G D:=fun H Z g ev D' z=>h H Z g ev _ fun v H1 x G1 s1 g1 r1 ⟨d',G',h1,h2,h3⟩ =>
 let ⟨g2,r2⟩:=h2 P w K H1 v g1 r1;z.rt v H1 d' G' (fun a o n e=>⟨(s1 a o n e).1,h1 a (s1 a o n e).2⟩) g2 r2 h3
def Cn(k:Ev->GH->Prop)(Γ:Ev)(G:GH):Prop:=∃ G',(∀ c,G c=none->G' c=none)/\(∀ P w K H,GOk P w K G H->GOk P w K G' H)/\k Γ G'
def bQ(h:kn Γ G):Cn kn Γ G:=⟨G,fun _ h=>h,fun _ _ _ _ g=>g,h⟩
def Pn.cn{R:St->Hp->Prop}(p:Pn P w K G H kn R):Pn P w K G H (Cn kn) R:=fun σ' H' Γ' G' s g e ⟨G2,h1,h2,h3⟩=>p σ' H' Γ' G2 (fun a o n q=>⟨(s a o n q).1,h1 a (s a o n q).2⟩) (h2 _ _ _ _ g) ⟨e.len,fun i t q=>let ⟨v,hv,r⟩:=e.at' i t q;⟨v,hv,r.kp ⟨fun _ _ h=>h,fun c xs n h=>⟨h,h1 c n⟩⟩⟩⟩ h3
def ZnZ(h:Wi P w K wi Γ G fun xs kp G1=>∃ I:Nat->Ev->GH->Prop,I 0 Γ G1/\(∀ i Γ' G',I i Γ' G'->kp G')/\(∀ (i:Nat) x Γ' G',xs[i]?=some x->I i Γ' G'->Wg P w K g x Γ' G' fun Γ2 G2=>Ws P w K t Γ2 G2 { D with nx:=Cn (I (i+1)),ct:=Cn (I (i+1)),bk:=D.nx })/\∀ Γ' G',I xs.length Γ' G'->D.nx Γ' G'):Ws P w K (tFor wi g t) Γ G D:=fun H Z g ev D' z =>
 h H Z g ev _ fun J H1 xs kp G1 s1 g1 it z0_=>by
  obtain⟨I,i0,hk,hs,hd⟩:=z0_;refine⟨fun i m Z H=>∃ Γ' G',m=xs.length-i/\i<=xs.length/\Stp G1 H1 G' H/\GOk P w K G' H/\EnvOk K G' H Z Γ'/\I i Γ' G',⟨_,Γ,G1,rfl,bO _,.refl,g1,ev.mono g s1,i0⟩,?_⟩;rintro i m Z H ⟨Γ',G',rfl,hi,s2,g2,e2,p⟩;obtain⟨j1,j2⟩:=it G' H s2 g2 (hk i Γ' G' p);by_cases hlt:i<xs.length
  .obtain ⟨jg,jy⟩:=j1 i xs[i] (aC hlt);refine .inr ⟨jg,fun σ' H'=>∃ Γ' G',Stp G1 H1 G' H'/\GOk P w K G' H'/\EnvOk K G' H' σ' Γ'/\I (i+1) Γ' G',fun σ' H' z1_=>by obtain⟨Γ',G',q1,q2,q3,q4⟩:=z1_;exact⟨_,by lia,Γ',G',rfl,hlt,q1,q2,q3,q4⟩,fun x H' y=>?_⟩;obtain⟨sm,rx⟩:=jy x H' y;have nn:Pn P w K G' H' (I (i+1)) fun σ' H'=>∃ Γ' G',Stp G1 H1 G' H'/\GOk P w K G' H'/\EnvOk K G' H' σ' Γ'/\I (i+1) Γ' G':=fun σ' H3 Γ3 G3 s3 g3 e3 q3=>⟨Γ3,G3,s2.trans ((Stp.same sm).trans s3),g3,e3,q3⟩;refine hs i _ Γ' G' (aC hlt) p H' Z x (g2.same sm) (e2.mono g2 (.same sm)) rx _ fun σ3 H3 Γ3 G3 s3 g3 e3 q3=>q3 H3 σ3 g3 e3 _ ?_;have s4:=s1.trans (s2.trans ((Stp.same sm).trans s3));exact⟨(nn.mono s3).cn,z.rt.mono s4,z.nx.mono s4,(nn.mono s3).cn⟩
  .have e:i=xs.length:=by lia
   subst e;exact .inl ⟨j2,z.nx Z H Γ' G' (s1.trans s2) g2 e2 (hd Γ' G' p)⟩
def oM(e:EnvOk K G H Z Γ):EnvOk K G H (gP LN fr Z) (List.replicate LN.length none++fr.map fun j=>(Γ[j]?).getD none):=by
 unfold gP;refine⟨by simp,fun i t q=>?_⟩;by_cases h:i<LN.length
 .rw[cg (by simpa using h)] at q;simp[jX,h] at q
 .rw[fK (by simpa using h),iC,ak] at q;rw[fK (by simpa using h),iC,ak];cases hf:fr[i - LN.length]? with
  | none=>rw[hf] at q;cases q
  | some j =>
   rw[hf] at q;simp only[gh,Option.some.injEq] at q ⊢;cases hg:Γ[j]? with
   | none=>rw[hg] at q;cases q
   | some o =>
    rw[hg] at q;simp only[rA] at q;subst q;obtain⟨v,e1,e2⟩:=e.at' j t hg;exact⟨v,by rw[e1];rfl,e2⟩
abbrev bkE(n:Nat)(fr:List Nat)(Γ:Ev):Ev:=List.replicate n none++fr.map fun j=>(Γ[j]?).getD none
def kS{tt:TT} (h:Wi P w K wi Γ G fun xs kp G1=>xs.length<=100000/\∃ I:Nat->List T->Ev->GH->Prop,I 0 [] (bkE LN.length fr Γ) G1/\(∀ i acc Γ' G',I i acc Γ' G'->kp G') /\
   (∀ (i:Nat) x acc Γ' G',xs[i]?=some x->I i acc Γ' G'->Wg P w K g x Γ' G' fun Γ2 G2=>Wt P w K tt Γ2 G2 fun b G3=>if b=true then We P w K te Γ2 G3 (fun d G4=>I (i+1) (acc++[d]) Γ2 G4) else I (i+1) acc Γ2 G3) /\
   ∀ acc Γ' G',I xs.length acc Γ' G'->k (.lst acc) G'):We P w K (gC LN fr wi g tt te) Γ G k:=fun H Z g ev Q z =>
 h H Z g ev _ fun J H1 xs kp G1 s1 g1 it z0_=>by
  obtain⟨hz,I,i0,hk,hs,hd⟩:=z0_;refine nv xs.length (jz (by lia)) (fun i ys Z H=>∃ acc Γ' G',Stp G1 H1 G' H/\GOk P w K G' H/\EnvOk K G' H Z Γ'/\RepTs K G' H acc ys/\I i acc Γ' G') ⟨[],_,G1,.refl,g1,oM (ev.mono g s1),.nil,i0⟩ ?_ ?_ ?_ ?_
  .rintro i ys Z H hi ⟨acc,Γ',G',s2,g2,e2,r2,p⟩;exact((it G' H s2 g2 (hk _ _ _ _ p)).1 i xs[i] (aC hi)).1
  .rintro ys Z H ⟨acc,Γ',G',s2,g2,e2,r2,p⟩;exact(it G' H s2 g2 (hk _ _ _ _ p)).2
  .rintro i x ys Z H H' hi hy hy2 ⟨acc,Γ',G',s2,g2,e2,r2,p⟩ y;obtain ⟨sm,rx⟩:=((it G' H s2 g2 (hk _ _ _ _ p)).1 i xs[i] (aC hi)).2 x H' y;refine hs i _ acc Γ' G' (aC hi) p H' Z x (g2.same sm) (e2.mono g2 (.same sm)) rx _ fun σ3 H3 Γ3 G3 s3 g3 e3 q3=>q3 H3 σ3 g3 e3 _ fun b H4 G4 s4 g4 q4=>?_;have r4:=r2.mono g2 ((Stp.same sm).trans (s3.trans s4));have st4:=s2.trans ((Stp.same sm).trans (s3.trans s4));cases b with
   | true =>
    refine iteT ((gy q4) H4 σ3 g4 (e3.mono g3 s4) _ fun v H5 d G5 s5 g5 r5 q5=>⟨hy2,by rw[aJ];simpa using hy,?_⟩);exact⟨acc++[d],Γ3,G5,st4.trans s5,g5,e3.mono g3 (s4.trans s5),(r4.mono g4 s5).app (.cons r5 .nil),q5⟩
   | false=>exact iteF ⟨by lia,acc,Γ3,G4,st4,g4,e3.mono g3 s4,r4,gx q4⟩
  .rintro ys Z H hl ⟨acc,Γ',G',s2,g2,e2,r2,p⟩ q hq;exact(z.mono (s1.trans s2)).lst g2 hq r2 (hd acc Γ' G' p)
end
section
variable{X:Cx}
def rAll(K:W.Frag):List V->Hp->VK->Prop:=fun xs H Q=>∃ (a:Addr) (bs:List Bool),xs=[.ref a]/\SqL K H a (bs.map V.bl)/\Q (.bl (bs.all id)) H
def all_range(bs:List Bool):(List.range bs.length).all (fun i=>bs.getD i false)=bs.all id:=by
 rw[lu,jm,jm];constructor
 .intro h b hb;obtain⟨j,hj,rfl⟩:=n9 hb;have:=h j (gG.mpr hj);simpa [hj] using this
 .intro h j hj;have hj:=gG.mp hj;have:=h bs[j] (lM hj);simpa [hj] using this
def ZmA(hc:X.calm=true):cm X (.builtin "all") (rAll X.K):=by
 intro pins s Z H xs us Q I r h;obtain⟨a,bs,rfl,ha,q⟩:=h;obtain⟨u,rfl,ru⟩:=vals1 r;cases ru;obtain⟨its,vx,ht,_⟩:=I.list ha;have hlen:=vx.length;rw[af] at hlen;have hlt:a<s.heap.objs.size:=by obtain⟨_,e,_⟩:=ht.isList;exact bn e
 refine call_all_walk (jW ht.isList ?_);refine⟨_,_,_,_,_,_,fun i=>bs.getD i false,rfl,Walks.list (A:=X.A.in1) (I.ok.hd hc) _ a (bZ hlt) its.toArray,⟨⟨_,ca _ rfl,rfl,rfl⟩,ht.isList.push _⟩,?_,fun h' tk hk=>?_⟩
 .intro i v s' Q' E' hv hq;have hv':its[i]?=some v:=by simpa using hv
  have hi:=(aT.mp hv').1;have hib:i<bs.length:=by lia
  obtain⟨u',eu,ru⟩:=vx.get (i:=i) (x:=.bl bs[i]) (by rw[ak,aC hib];rfl);rw[hv'] at eu;cases eu;cases ru;have e:bs.getD i false=bs[i]:=by simp[hib]
  have hq:Q' (bs.getD i false) s':=hq;rw[e] at hq;exact fY hq
 .have hsz:its.toArray.size=bs.length:=by simp;lia
  rw[hsz,all_range];refine⟨.bl _,H,I.kept fun b o e=>?_,rfl,q⟩;refine hk b o (fun hm=>?_) (br _ e);have:b=s.heap.objs.size:=by simpa using hm
  rw[this] at e;exact absurd (bn e) (fX _)
def ja{K:W.Frag}(h:X.K=K)(hc:X.calm=true):cm X (.builtin "all") (rAll K):=h▸ZmA hc
end
def cutT(ts:List T)(lo hi:Option Int):List T:=(ts.drop (HT.sIx ts.length 0 lo)).take (HT.sIx ts.length ts.length hi-HT.sIx ts.length 0 lo)
def Zpl{α:Type}(n:Nat)(v:α):(List.replicate n [v]).flatten=List.replicate n v:=by
 induction n with
 | zero=>rfl
 | succ n ih=>rw[iG,iH,ih,iG];rfl
def SqI(G:GH)(x:T)(ts:List T):Prop:=x=.lst ts\/∃ a,x=.ptr a/\G a=some (.lst ts)
def SqG(G:GH)(x:T)(ts:List T):Prop:=x=.tup ts\/SqI G x ts
section
variable{P:Program}{w:World}{K:W.Frag}{G:GH}{Γ:Ev}{tb ti:TE}{k:T->GH->Prop}{ka:List T->GH->Prop}{kn:Ev->GH->Prop}{Q:VK}{d x y z:T}{D:EndT}{t u:TS}{c c2:TT}{r r':R2}{gs:TGs}{ds ts us xs:List T}{v:V}
def RepTs.cut{lo:Option Int}(r:RepTs K G H ts vs):RepTs K G H (cutT ts lo hi) (cutV vs lo hi):=by unfold cutT cutV;rw[r.length];exact(r.drop _).take _
def kH(g:GOk P w K G H)(s:SqG G x ts)(r:RepT K G H x v):∃ a vs,v=.ref a/\RepTs K G H ts vs/\(H a=some (.lst vs)\/H a=some (.tup vs)):=by
 rcases s with rfl|rfl|⟨a,rfl,e⟩
 .cases r with|tup h q=>exact⟨_,_,rfl,q,.inr h⟩
 .cases r with|lst _ h q=>exact⟨_,_,rfl,q,.inl h⟩
 .cases r;obtain⟨vs,h,q⟩:=g a _ e;exact⟨_,vs,rfl,q,.inl h⟩
def fi(g:GOk P w K G H)(s:SqI G x ts)(r:RepT K G H x v):∃ a vs,v=.ref a/\RepTs K G H ts vs/\H a=some (.lst vs):=by
 rcases s with rfl|⟨a,rfl,e⟩
 .cases r with|lst _ h q=>exact⟨_,_,rfl,q,h⟩
 .cases r;obtain⟨vs,h,q⟩:=g a _ e;exact⟨_,vs,rfl,q,h⟩
def si_l:SqI G (.lst ts) ts:=.inl rfl
def si_p(h:G a=some (.lst ts)):SqI G (.ptr a) ts:=.inr ⟨a,rfl,h⟩
def fB(h:SqI G x ts):SqG G x ts:=.inr h
def sg_t:SqG G (.tup ts) ts:=.inl rfl
def sg_l:SqG G (.lst ts) ts:=.inr (.inl rfl)
def sg_p(h:G a=some (.lst ts)):SqG G (.ptr a) ts:=.inr (.inr ⟨a,rfl,h⟩)
def l_II{f:Int->Int->Int}(h:k (.int (f i j)) G):L2r P w K (rI0 fun i j=>V.int (f i j)) (.int i) (.int j) G k:=fun H u v g r1 r2 Q z=>by cases r1;cases r2;exact⟨i,j,rfl,rfl,z.here g .int h⟩
def l_IB{f:Int->Int->Bool}(h:k (.bl (f i j)) G):L2r P w K (rI0 fun i j=>V.bl (f i j)) (.int i) (.int j) G k:=fun H u v g r1 r2 Q z=>by cases r1;cases r2;exact⟨i,j,rfl,rfl,z.here g .bl h⟩
def l_IC{C:Int->Int->Prop}{f:Int->Int->Int}(hc:C i j)(h:k (.int (f i j)) G):L2r P w K (rI C fun i j=>V.int (f i j)) (.int i) (.int j) G k:=fun H u v g r1 r2 Q z=>by cases r1;cases r2;exact⟨i,j,rfl,rfl,hc,z.here g .int h⟩
def l_U{f:Int->Int}(h:k (.int (f i)) G):L1r P w K (rU fun i=>V.int (f i)) (.int i) G k:=fun H u g r1 Q z=>by cases r1;exact⟨i,rfl,z.here g .int h⟩
def l_eqI(h:k (.bl (decide (i=j))) G):L2r P w K rEq (.int i) (.int j) G k:=fun H u v g r1 r2 Q z=>by cases r1;cases r2;exact xL (z.here g .bl h)
def l_neI(h:k (.bl (!decide (i=j))) G):L2r P w K rNe (.int i) (.int j) G k:=fun H u v g r1 r2 Q z=>by cases r1;cases r2;exact xI (z.here g .bl h)
def l_eqS{i j:Str}(h:k (.bl (decide (i=j))) G):L2r P w K rEq (.str i) (.str j) G k:=fun H u v g r1 r2 Q z=>by cases r1;cases r2;exact tz (z.here g .bl h)
def l_neS{i j:Str}(h:k (.bl (!decide (i=j))) G):L2r P w K rNe (.str i) (.str j) G k:=fun H u v g r1 r2 Q z=>by cases r1;cases r2;exact uk (z.here g .bl h)
def wE{i j:Bool}(h:k (.bl (decide (i=j))) G):L2r P w K rEq (.bl i) (.bl j) G k:=fun H u v g r1 r2 Q z=>by cases r1;cases r2;exact wN (z.here g .bl h)
def T.isN:T->Bool|.non=>true|_=>false
def RepT.isN(r:RepT K G H x v):decide (v=.non)=x.isN:=by cases r <;> rfl
def l_isN(h:k (.bl x.isN) G):L2r P w K rIsN x .non G k:=fun H u v g r1 r2 Q z=>by cases r2;exact⟨rfl,by rw[r1.isN];exact z.here g .bl h⟩
def ZoD(h:k (.bl (!x.isN)) G):L2r P w K rNotN x .non G k:=fun H u v g r1 r2 Q z=>by cases r2;exact⟨rfl,by rw[r1.isN];exact z.here g .bl h⟩
def l_ix(s:SqG G x ts)(e:atI ts i=some d)(h:k d G):L2r P w K (rIxA K) x (.int i) G k:=fun H u v g r1 r2 Q z=>by
 cases r2;obtain⟨a,vs,rfl,rs,ha⟩:=kH g s r1;have:∃ v,atI vs i=some v/\RepT K G H d v:=by
  unfold atI at e ⊢;rw[rs.length] at e;cases q:ixN vs.length i with
  | none=>rw[q] at e;cases e
  | some j=>rw[q] at e;exact rs.get e
 obtain⟨v,e2,rv⟩:=this;rcases ha with ha|ha
 .exact dP ha e2 (z.here g rv h)
 .exact Zpp ha e2 (z.here g rv h)
def cu(s:SqG G x ts)(h:k (.int ts.length) G):LNr P w K (rLen K) [x] G k:=fun H us g r Q z=>by
 cases r with
 | cons r1 r2 =>
  cases r2;obtain⟨a,vs,rfl,rs,ha⟩:=kH g s r1;rcases ha with ha|ha
  .exact xD (SqL.of ha) (by rw[<-rs.length];exact z.here g .int h)
  .exact Zm2 (SqT.of ha) (by rw[<-rs.length];exact z.here g .int h)
def i7{lo:Option Int}(s:SqI G x ts)(h:k (.lst (cutT ts lo hi)) G):L1r P w K (fun v H Q=>rSlL K v lo hi H Q) x G k:=fun H u g r1 Q z=>by
 obtain⟨a,vs,rfl,q,e⟩:=fi g s r1;exact oQ (SqL.of e) fun p hp=>z.lst g hp q.cut h
def eN{lo:Option Int}(h:k (.tup (cutT ts lo hi)) G):L1r P w K (fun v H Q=>rSlW K v lo hi H Q) (.tup ts) G k:=fun H u g r1 Q z=>by
 cases r1 with|tup e q=>exact rd_slW e fun p H' e' s=>z _ _ _ _ (.same s) (g.same s) (.tup e' (q.cut.mono g (.same s))) h
def gE(hz:ts.length+us.length<=1000000)(h:k (.tup (ts++us)) G):L2r P w K (nB K) (.tup ts) (.tup us) G k:=fun H u v g r1 r2 Q z=>by
 cases r1 with|tup e q=>cases r2 with|tup e2 q2=>exact Zpt e e2 (by rw[<-q.length,<- q2.length];exact hz) fun p H' e' s=>z _ _ _ _ (.same s) (g.same s) (.tup e' ((q.app q2).mono g (.same s))) h
def fz(s:SqI G x ts)(s2:SqI G y us)(hz:ts.length+us.length<=1000000)(h:k (.lst (ts++us)) G):L2r P w K rCat x y G k:=fun H u v g r1 r2 Q z=>by
 obtain⟨a,vs,rfl,q,e⟩:=fi g s r1;obtain⟨b,ws,rfl,q2,e2⟩:=fi g s2 r2;exact xA e e2 (jz (by rw[<-q.length,<- q2.length];exact hz)) fun p hp=>z.lst g hp (q.app q2) h
def fe(s:SqG G x ts)(n:∀ ts,x≠.tup ts)(h:k (.tup ts) G):LNr P w K (km K) [x] G k:=fun H us g r Q z=>by
 cases r with
 | cons r1 r2 =>
  cases r2;rcases s with rfl|rfl|⟨a,rfl,e⟩
  .exact absurd rfl (n _)
  .cases r1 with|lst _ e q=>exact tw (SqL.of e) fun p hp=>z.tup g hp q h
  .cases r1;obtain⟨vs,e',q⟩:=g a _ e;exact tw (SqL.of e') fun p hp=>z.tup g hp q h
def rX(s:SqG G x ts)(h:k (.lst ts) G):LNr P w K (mF K) [x] G k:=fun H us g r Q z=>by
 cases r with
 | cons r1 r2 =>
  cases r2;obtain⟨a,vs,rfl,rs,ha⟩:=kH g s r1;exact⟨a,vs,rfl,ha.imp SqL.of SqT.of,fun p hp=>z.lst g hp rs h⟩
def Znv(s:SqG G x ts)(h:∀ a,G a=none->k (.ptr a) (gput G a (.lst ts))):LNr P w K (mF K) [x] G k:=fun H us g r Q z=>by
 cases r with
 | cons r1 r2 =>
  cases r2;obtain⟨a,vs,rfl,rs,ha⟩:=kH g s r1;refine⟨a,vs,rfl,ha.imp SqL.of SqT.of,fun p hp=>?_⟩;obtain⟨g2,s2⟩:=g.putL (.inr hp) rs;exact z _ _ _ _ s2 g2 .ptr (h p (g.free hp))
theorem RepTs.repl:∀ (n:Nat),RepT K G H d v->RepTs K G H (List.replicate n d) (List.replicate n v)
 | 0,_=>.nil
 | n+1,r=>.cons r (RepTs.repl n r)
def l_rep(h1:-1000<=i)(h2:i<=1000)(h:k (.lst (List.replicate i.toNat d)) G):L2r P w K rRep (.lst [d]) (.int i) G k:=fun H u v g r1 r2 Q z=>by
 cases r2;cases r1 with
 | lst _ e q =>
  cases q with
  | cons q1 q2 =>
   cases q2;refine⟨_,i,_,rfl,rfl,e,by lia,by lia,by rw[eA,lN];exact ii (by lia),fun p hp=>?_⟩;have:True:=trivial;rw[Zpl];exact z.lst g hp (RepTs.repl _ q1) h
def TyG(T:String)(G:GH)(x:L2.T):Prop:=T="list"/\∃ ts,(x=.lst ts\/∃ a,x=.ptr a/\G a=some (.lst ts))
def tyg(T:String)(g:GOk P w K G H)(s:TyG T G x)(r:RepT K G H x v):tyV K T v H:=by
 obtain⟨rfl,ts,s⟩:=s;rcases s with rfl|⟨a,rfl,e⟩
 .cases r with|lst _ h q=>exact .inl ⟨rfl,_,SqL.of h⟩
 .cases r;obtain⟨vs,h,q⟩:=g a _ e;exact .inl ⟨rfl,_,SqL.of h⟩
def LBr(P:Program)(w:World)(K:W.Frag)(r:V->List V->Hp->VK->Prop)(x:T)(ys:List T)(G:GH)(k:T->GH->Prop):Prop:=∀ H u vs,GOk P w K G H->RepT K G H x u->RepTs K G H ys vs->∀ Q,Pst P w K G H k Q->r u vs H Q
def wC{T:String}{rr:V->List V->Hp->VK->Prop}(h:We P w K to Γ G fun x G1=>TyG T G1 x/\Wa P w K tr Γ G1 fun ys G2=>LBr P w K rr x ys G2 k):We P w K (tBM K T rr to tr) Γ G k:=fun H Z g ev Q z=>h H Z g ev _ fun v H1 x G1 s1 g1 r1 q1=>⟨tyg T g1 q1.1 r1,q1.2 H1 Z g1 (ev.mono g s1) _ fun us H2 ys G2 s2 g2 r2 q2=>q2 H2 v us g2 (r1.mono g1 s2) r2 Q (z.mono (s1.trans s2))⟩
def uE{T:String}{rr:V->List V->Hp->VK->Prop}(h:We P w K to Γ G fun x G1=>TyG T G1 x/\LBr P w K rr x [] G1 k):We P w K (tBM0 K T rr to) Γ G k:=fun H Z g ev Q z=>h H Z g ev _ fun v H1 x G1 s1 g1 r1 q1=>⟨tyg T g1 q1.1 r1,q1.2 H1 v [] g1 r1 .nil Q (z.mono s1)⟩
def ty_p(h:G a=some (.lst ts)):TyG "list" G (.ptr a):=⟨rfl,ts,.inr ⟨a,rfl,h⟩⟩
def gB(e:G a=some (.lst ts))(hl:ts.length<1000000)(h:k .non (gput G a (.lst (ts++[y])))):LBr P w K pq (.ptr a) [y] G k:=fun H u vs g r1 r2 Q z=>by
 cases r1;cases r2 with
 | cons q1 q2 =>
  cases q2;obtain⟨xs,h1,rs⟩:=g a _ e;obtain⟨g2,s2⟩:=g.putL (.inl ⟨_,e⟩) (rs.app (.cons q1 .nil));refine Zlb h1 ?_ (z _ _ _ _ s2 g2 .non h);rw[<-rs.length];rw[PySem.sizeLine_eq];lia
def Zn3(h:We P w K to Γ G fun o G1=>We P w K ti Γ G1 fun x G2=>∃ a ts i j,o=.ptr a/\x=.int i/\G2 a=some (.lst ts)/\ixN ts.length i=some j/\kn Γ (gput G2 a (.lst (ts.set j d)))):Wg P w K (gSub to ti mH) d Γ G kn:=fun H Z v g ev rv R z =>
 h H Z g ev _ fun o H1 x G1 s1 g1 r1 q1=>q1 H1 Z g1 (ev.mono g s1) _ fun iv H2 y G2 s2 g2 r2 z0_=>by
  obtain⟨a,ts,i,j,e1,e2,ea,ej,q⟩:=z0_;subst e1 e2;cases r1;cases r2;obtain⟨xs,h1,rs⟩:=g2 a _ ea;have s12:=s1.trans s2;obtain⟨g3,s3⟩:=g2.putL (.inl ⟨_,ea⟩) (rs.set j (rv.mono g s12));exact⟨a,xs,i,j,rfl,rfl,h1,by rw[<-rs.length];exact ej,z _ _ _ _ (s12.trans s3) g3 (ev.mono g (s12.trans s3)) q⟩
theorem vB : ∀ {ss : List Str} {vs : List V}, RepTs K G H (ss.map T.str) vs->vs=ss.map V.str
  | [], _, r=>by cases r; rfl
  | s :: ss, _, r => by
    cases r with
    | cons r1 r2=>cases r1; rw[vB r2]; rfl
def qQ(s:Str)(ss:List Str):inV (.str s) (ss.map V.str)=ss.contains s:=by
 induction ss with
 | nil=>rfl
 | cons x xs ih =>
  unfold inV at ih ⊢;rw[aP,gW,ih,contains_cons];show (x == s || _)=_;rw[Bool.beq_comm]
def oS(ss:List Str):(ss.map V.str).all gA=true:=by induction ss <;> simp_all [gA]
def l_inC{s:Str}(h:k (.bl (ss.contains s)) G):L2r P w K (rIn K false) (.str s) (.cst ss) G k:=fun H u v g r1 r2 Q z=>by
 cases r1;cases r2 with|cst e=>exact⟨_,_,rfl,.inr (e H),rfl,oS _,by rw[qQ];exact z.here g .bl h⟩
def bv{neg:Bool}{s:Str}(hs:SqG G y (ss.map T.str))(h:k (.bl (if neg then !ss.contains s else ss.contains s)) G):L2r P w K (rIn K neg) (.str s) y G k:=fun H u v g r1 r2 Q z=>by
 cases r1;obtain⟨a,vs,rfl,rs,ha⟩:=kH g hs r2;rw[vB rs] at ha;exact⟨a,_,rfl,ha.imp SqL.of SqT.of,rfl,oS _,by rw[qQ];exact z.here g .bl h⟩
def wD(h:k (.cst ss) G):We P w K (tCT K (ss.map V.str)) Γ G k:=fun H Z g ev Q z a e=>z.here g (.cst e) h
def Zkt{kx:List T->(GH->Prop)->GH->Prop}(h:We P w K te Γ G fun x G1=>∃ ts,SqI G1 x ts/\kx ts (fun G'=>SqI G' x ts) G1):Wi P w K (mC K te) Γ G kx:=fun H Z g ev Q z=>h H Z g ev _ fun v H1 x G1 s1 g1 r1 ⟨ts,e,q⟩=>by
 obtain⟨a,vs,rfl,rs,h1⟩:=fi g1 e r1;refine⟨a,rfl,⟨vs,SqL.of h1⟩,z _ _ ts _ _ s1 g1 (fun G' H' s' g' kp=>?_) q⟩;obtain⟨a',vs',ea,r',l'⟩:=fi g' kp (r1.mono g1 s');cases ea;refine⟨fun i x e=>?_,⟨vs',SqL.of l',iF r'.length.symm⟩⟩;obtain⟨u,eu,ru⟩:=r'.get e;exact⟨⟨vs',u,SqL.of l',eu⟩,fun v H2 ⟨e2,y⟩=>by subst e2;have:=y vs' (SqL.of l');rw[eu] at this;cases this;exact⟨.refl _,ru⟩⟩
def Zn1{kx:List T->(GH->Prop)->GH->Prop}(h:We P w K te Γ G fun x G1=>∃ ts,x=.tup ts/\kx ts (fun _=>True) G1):Wi P w K (iTup K te) Γ G kx:=fun H Z g ev Q z=>h H Z g ev _ fun v H1 x G1 s1 g1 r1 ⟨ts,e,q⟩=>by
 subst e;cases r1 with
 | @tup a vs _ h1 rs =>
  refine⟨a,rfl,⟨vs,SqT.of h1⟩,z _ _ ts _ _ s1 g1 (fun G' H' s' g' _=>?_) q⟩;have l':=(s' a _ (g1.tup h1) h1).1;have r':=rs.mono g1 s';refine⟨fun i x e=>?_,⟨vs,SqT.of l',iF rs.length.symm⟩⟩;obtain⟨u,eu,ru⟩:=r'.get e;exact⟨⟨vs,u,SqT.of l',eu⟩,fun v H2 ⟨e2,y⟩=>by subst e2;have:=y vs (SqT.of l');rw[eu] at this;cases this;exact⟨.refl _,ru⟩⟩
def rngT(n:Nat):List T:=(List.range n).map fun(i:Nat)=>T.int (i:Int)
def Zn2{kx:List T->(GH->Prop)->GH->Prop}(h:Wa P w K tr Γ G fun xs G1=>∃ j:Int,xs=[.int j]/\j<=1000000/\-1000000<=j/\kx (rngT j.toNat) (fun _=>True) G1):Wi P w K (pT tr) Γ G kx:=fun H Z g ev Q z=>h H Z g ev _ fun vs H1 xs G1 s1 g1 r1 ⟨j,e,h1,h2,q⟩=>by
 subst e;cases r1 with
 | cons r1 r2 =>
  cases r1;cases r2;refine⟨j,rfl,by lia,by lia,z _ _ _ _ _ s1 g1 (fun G' H' s' g' _=>⟨fun i x e=>?_,?_⟩) q⟩
  .unfold rngT at e;rw[ak] at e;obtain⟨m,em,rfl⟩:=bh.mp e;obtain⟨hi,ei⟩:=aT.mp em;rw[getElem_range] at ei;rw[dC] at hi;subst ei;exact⟨hi,fun v H2 ⟨e2,y⟩=>by subst e2 y;rw[nZ];exact⟨.refl _,.int⟩⟩
  .show j.toNat<=(rngT j.toNat).length;unfold rngT;rw[af,dC];exact aE _
def sX(I:Nat->Ev->GH->Prop)(m:Nat)(h0:I m Γ G)(h:∀ m Γ' G',I m Γ' G'->Wt P w K c Γ' G' fun b G1=>if b=true then Ws P w K t Γ' G1 { D with nx:=Cn fun Γ2 G2=>∃ m',m'<m/\I m' Γ2 G2,ct:=Cn fun Γ2 G2=>∃ m',m'<m/\I m' Γ2 G2,bk:=D.nx } else D.nx Γ' G1):Ws P w K (vM c t) Γ G D:=fun H Z g ev D' z=>by
 refine⟨fun m σ' H'=>∃ Γ' G',Stp G H G' H'/\GOk P w K G' H'/\EnvOk K G' H' σ' Γ'/\I m Γ' G',⟨m,Γ,G,.refl,g,ev,h0⟩,?_⟩;rintro m σ' H' ⟨Γ',G',s1,g1,e1,p⟩;refine h m Γ' G' p H' σ' g1 e1 _ fun b H2 G2 s2 g2 q2=>?_;have s12:=s1.trans s2;cases b with
 | true =>
  refine iteT ⟨fun σ' H'=>∃ Γ' G',Stp G H G' H'/\GOk P w K G' H'/\EnvOk K G' H' σ' Γ'/\∃ m',m'<m/\I m' Γ' G',fun σ3 H3 z0_=>by obtain⟨Γ3,G3,q1,q2,q3,m',hm,q4⟩:=z0_;exact⟨m',hm,Γ3,G3,q1,q2,q3,q4⟩,(gy q2) H2 σ' g2 (e1.mono g1 s2) _ ?_⟩;have nn:Pn P w K G2 H2 (fun Γ2 G2=>∃ m',m'<m/\I m' Γ2 G2) fun σ' H'=>∃ Γ' G',Stp G H G' H'/\GOk P w K G' H'/\EnvOk K G' H' σ' Γ'/\∃ m',m'<m/\I m' Γ' G':=fun σ3 H3 Γ3 G3 s3 g3 e3 q3=>⟨Γ3,G3,s12.trans s3,g3,e3,q3⟩;exact⟨nn.cn,z.rt.mono s12,z.nx.mono s12,nn.cn⟩
 | false=>exact iteF (z.nx σ' H2 Γ' G2 s12 g2 (e1.mono g1 s2) (gx q2))
end
abbrev Pre:=List T->GH->(T->GH->Prop)->Prop
def spG(P:Program)(w:World)(K:W.Frag)(pre:Pre):Sp:=fun vs H Q _=>∃ ts G k,GOk P w K G H/\RepTs K G H ts vs/\pre ts G k/\Pst P w K G H k Q
def startT(N:List Str)(ts:List T):Ev:=ts.map some++List.replicate (N.length-ts.length) none
noncomputable def nj(P:Program)(w:World)(K:W.Frag)(mg:Str->Option Value)(base:Heap)(N:List Str)(x:Str)(st:Stmt)(f:Addr)(cdv:Value)(A:Around)(outer:List Env)(s:Shared)(H:Hp)(E:XK)(ts:List T)(G:GH)(k:T->GH->Prop):Prop :=
 ∃ t,PSs (cxOf CX0 P w K mg base N x (bG st) f cdv A outer s H E).nox (dO st) t/\Ws P w K t (startT N ts) G { nx:=fun _ G'=>k .non G',rt:=k }
section
variable{P:Program}{w:World}{K:W.Frag}{mg:Str->Option Value}{base:Heap}{m:Str}{st:Stmt}{ps N:List Str}{pre:Pre}{C:Addr}
def ZkW{G:GH}{ts:List T}(r:RepTs K G H ts vs):EnvOk K G H (start N vs) (startT N ts):=by
 unfold start startT;have hl:=r.length;refine⟨by simp[hl],fun i t e=>?_⟩;by_cases h:i<ts.length
 .rw[cg (by simpa using h),ak] at e;obtain⟨t',e1,e2⟩:=bh.mp e;cases e2;obtain⟨v,ev,rv⟩:=r.get e1;exact⟨v,by rw[cg (by simpa [<-hl] using h),ak,ev];rfl,rv⟩
 .rw[fK (by simpa using h)] at e;simp[jX] at e
def Zl8{f:Addr}{cdv:Value}{s:Shared}{E:XK}{ts:List T}{G:GH}{k:T->GH->Prop}{Q:VK}(h:nj P w K mg base N x st f cdv A outer s H E ts G k)(g:GOk P w K G H)(r:RepTs K G H ts vs)(z:Pst P w K G H k Q) :
  ∃ t,PSs (cxOf CX0 P w K mg base N x (bG st) f cdv A outer s H E).nox (dO st) t/\t { nx:=fun _ H'=>Q .non H',rt:=Q } (start N vs) H:=by
 obtain⟨t,h1,h2⟩:=h;exact⟨t,h1,h2 H _ g (ZkW r) _ ⟨fun σ' H' Γ' G' s' g' e' q=>z _ _ _ _ s' g' .non q,z,fun _ _ _ _ _ _ _ q=>q.elim,fun _ _ _ _ _ _ _ q=>q.elim⟩⟩
abbrev HdG(P:Program)(w:World)(K:W.Frag)(mg:Str->Option Value)(base:Heap)(N:List Str)(x:Str)(st:Stmt)(kk:Nat)(pre:Pre):Prop:=∀ (f:Addr) (cdv:Value) (A:Around) (outer:List Env) (s:Shared) (H:Hp) (E:XK) (ts:List T) (G:GH) (k:T->GH->Prop),Room kk (A.deeper (envOfC x (bG st) s.heap.objs.size f cdv))->pre ts G k->nj P w K mg base N x st f cdv A outer s H E ts G k
def TopFn.okG(T:TopFn K mg x st ps)(S:FnScope N ps (bG st))(hl:∀ ts G k,pre ts G k->ts.length=ps.length)(h:HdG P w K mg base N x st kk pre):Callee P w K mg base x (kk+1) ps (spG P w K pre) :=
 T.callee fun f fd F=>F.ok S (fun vs H Q E z0_=>by obtain⟨ts,G,k,g,r,p,z⟩:=z0_;rw[<-r.length];exact hl _ _ _ p) fun cdv A outer s H vs Q E hr z1_=>by obtain⟨ts,G,k,g,r,p,z⟩:=z1_;exact Zl8 (h f cdv A outer s H E ts G k hr p) g r z
def go_G{f:Addr}{cdv:Value}{s:Shared}{E:XK}{ts:List T}{G:GH}{k:T->GH->Prop}{t:TS}(Γ:Ev)(hΓ:startT N ts=Γ)(h:PSs (cxOf CX0 P w K mg base N x (bG st) f cdv A outer s H E).nox (dO st) t)(q:Ws P w K t Γ G { nx:=fun _ G'=>k .non G',rt:=k }):nj P w K mg base N x st f cdv A outer s H E ts G k:=⟨t,h,by rw[hΓ];exact q⟩
end
section
variable{P:Program}{w:World}{K:W.Frag}{G:GH}{b l C dx:Addr}{Γ:Ev}{tb ti:TE}{k:T->GH->Prop}{ka:List T->GH->Prop}{kn:Ev->GH->Prop}{Q:VK}{d x y z:T}{D:EndT}{t u:TS}{c c2:TT}{ds ts us xs:List T}{v:V}{pre:Pre}{E:XK}{f m:Str}{fs:List (Str×T)}
def l_spG(h:pre xs G k):LNr P w K (fun vs H Q=>spG P w K pre vs H Q E) xs G k:=fun H us g r Q z=>⟨xs,G,k,g,r,h,z⟩
def wV(g:GOk P w K G H)(e:G b=some (.bag l))(B:BagAt H' b l)(s:BSame b H H'):GOk P w K G H'/\Stp G H G H':=by
 have st:Stp G H G H':=fun a o n h=>⟨s a o (fun z=>by rw[z,e] at n;cases n) h,n⟩;refine⟨fun a c q=>?_,st⟩;by_cases h:a=b
 .subst h;rw[e] at q;cases q;exact⟨B,(g a _ e).2⟩
 .refine (g a c q).kp (st.kp g) (fun o=>s a o h) (fun l' z=>⟨fun o ho=>s l' o (fun zz=>?_) ho,id⟩) fun _ _ _ _=>id;subst z zz;have:=(g a _ q).2;rw[e] at this;cases this
def bj(e:G b=some (.bag l))(h:0<i/\i<=10^65)(q:∀ r,0<=r->r<i->k (.int r) G):LNr P w K (fun vs H Q=>mR vs H Q E) [.ptr b,.int i] G k:=fun H us g r Q z=>by
 cases r with|cons r1 r2=>cases r2 with|cons r2 r3 =>
 cases r1;cases r2;cases r3;refine use2 ⟨b,l,i,rfl,rfl,h,(g b _ e).1,fun r H' h1 h2 B s=>?_⟩;obtain⟨g2,s2⟩:=wV g e B s;exact z _ _ _ _ s2 g2 .int (q r h1 h2)
def ui(e:G b=some (.bag l))(q:∀ r,r.natAbs<=10^60->k (.int r) G):LNr P w K (fun vs H Q=>tR vs H Q E) [.ptr b] G k:=fun H us g r Q z=>by
 cases r with|cons r1 r2 =>
 cases r1;cases r2;refine use1 ⟨b,l,rfl,(g b _ e).1,fun r H' h1 B s=>?_⟩;obtain⟨g2,s2⟩:=wV g e B s;exact z _ _ _ _ s2 g2 .int (q r h1)
end
abbrev K2:=List (List Key)
def deedRowsT:List (Str×List Str):=[("test",["zero","below"]),("tell",["tell"]),("take",["take"])]
abbrev Fm:=Int×List (Int×Int)
abbrev SF:=Int×Int×List Fm
def Rw.goes:Rw->Int->Bool
 | .zero _ _,n=>decide (n=0)
 | _,n=>decide (n<0)
section
variable{P:Program}{w:World}{K:W.Frag}{G:GH}{b:Addr}{Γ:Ev}{tx:TE}{k:T->GH->Prop}{d x y z:T}{v:V}{t:List (Int×Int)}{D:EndT}
def GOk.putB(g:GOk P w K G H)(h:(∃ t,G a=some (.tb t))\/H a=none)(n:(t.map (·.1)).Nodup):GOk P w K (gput G a (.tb t)) (upd H a (.dK (kvT t)))/\Stp G H (gput G a (.tb t)) (upd H a (.dK (kvT t))):=by
 have ga:∀ c,G a=some c->∃ t,c=.tb t:=fun c e=>by
  rcases h with ⟨us,h⟩|h
  .rw[h] at e;cases e;exact⟨us,rfl⟩
  .rw[g.free h] at e;cases e
 refine g.put (h.imp (fun⟨us,e⟩=>⟨_,e⟩) id) ⟨bP,n⟩ (fun b l hb e z=>?_) (fun b C dx fs hb e z=>?_)
 .subst z;obtain ⟨o,q⟩:=(g b _ e).1.lo;rcases h with ⟨us,h⟩|h
  .have:=(g b _ e).2;rw[h] at this;cases this
  .rw[h] at q;cases q
 .subst z;obtain⟨_,_,q,_⟩:=g b _ e;obtain⟨t,z⟩:=ga _ q;cases z
def tL(h:∀ p,G p=none->k (.ptr p) (gput G p (.tb []))):We P w K oI Γ G k:=fun H Z g ev Q z p hp=>by
 obtain⟨g2,s2⟩:=g.putB (t:=[]) (.inr hp) fL;exact z _ _ _ _ s2 g2 .ptr (h p (g.free hp))
def ZiH(h:We P w K td Γ G fun x G1=>∃ a t0,x=.ptr a/\G1 a=some (.tb t0)/\We P w K ty Γ G1 fun y G2=>We P w K tx Γ G2 fun z G3=>∃ t i,G3 a=some (.tb t)/\y=.int i/\z=.int 0/\k (.int (bm t i)) G3):We P w K (sM td ty tx) Γ G k:=fun H Z g ev Q z=>h H Z g ev _ fun v H1 x G1 s1 g1 r1 z0_=>by
 obtain⟨a,t0,e,ea,q1⟩:=z0_;subst e;cases r1;have h1:=(g1 a _ ea).1;refine⟨a,rfl,.inl ⟨_,.inl h1⟩,q1 H1 Z g1 (ev.mono g s1) _ fun v2 H2 y G2 s2 g2 r2 q2=>q2 H2 Z g2 (ev.mono g (s1.trans s2)) _ fun v3 H3 zz G3 s3 g3 r3 z1_=>?_⟩;obtain⟨t,i,e3,ey,ez,q3⟩:=z1_;subst ey ez;cases r2;cases r3;refine⟨_,DGet.k (k:=Sum.inl i) (g3 a _ e3).1,?_⟩;rw[ZkK];exact(z.mono (s1.trans (s2.trans s3))).here g3 .int q3
def Zo6(h:We P w K td Γ G fun x G1=>We P w K ty Γ G1 fun y G2=>∃ a t i,x=.ptr a/\G2 a=some (.tb t)/\y=.int i/\i∈t.map (·.1)/\k (.int (bm t i)) G2):We P w K (qL td ty) Γ G k:=fun H Z g ev Q z=>h H Z g ev _ fun v H1 x G1 s1 g1 r1 q1=>q1 H1 Z g1 (ev.mono g s1) _ fun v2 H2 y G2 s2 g2 r2 z0_=>by
 obtain⟨a,t,i,ex,e3,ey,hi,q3⟩:=z0_;subst ex ey;cases r1;cases r2;have:=DGet.k (k:=(Sum.inl i:Key)) (g2 a _ e3).1;rw[wS hi] at this;exact⟨a,_,rfl,this,(z.mono (s1.trans s2)).here g2 .int q3⟩
def Zo0(h:We P w K tv Γ G fun v G1=>We P w K td Γ G1 fun x G2=>We P w K ty Γ G2 fun y G3=>∃ a t i n,v=.int (bm t i+n)/\x=.ptr a/\G3 a=some (.tb t)/\y=.int i/\t.length<100000/\D.nx Γ (gput G3 a (.tb (addT t i n)))):Ws P w K (mU td ty tv) Γ G D:=fun H Z g ev D' z=>h H Z g ev _ fun v1 H1 vv G1 s1 g1 r1 q1=>q1 H1 Z g1 (ev.mono g s1) _ fun v2 H2 x G2 s2 g2 r2 q2=>q2 H2 Z g2 (ev.mono g (s1.trans s2)) _ fun v3 H3 y G3 s3 g3 r3 z0_=>by
 obtain⟨a,t,i,n,ev1,ex,e3,ey,hl,q3⟩:=z0_;subst ev1 ex ey;cases r1;cases r2;cases r3;obtain⟨h3,nd⟩:=g3 a _ e3;obtain⟨g4,s4⟩:=g3.putB (.inl ⟨_,e3⟩) (xq (w:=i) (x:=n) nd);have st:=s1.trans (s2.trans (s3.trans s4));refine⟨a,_,rfl,DPut.k (k:=Sum.inl i) h3 (by unfold kvT;rw[af,PySem.sizeLine_eq];lia),?_⟩;rw[Znc nd];exact z.nx _ _ _ _ st g4 (ev.mono g st) q3
def sortI(l:List Int):List Int:=l.mergeSort fun a b=>decide (a<=b)
def iB(l:List Int):(sortI l).Perm l:=mergeSort_perm _ _
def wK(l:List Int):(sortI l).Pairwise (·<=·):=by
 have:=pairwise_mergeSort (le:=fun a b:Int=>decide (a<=b)) (fun a b c h1 h2=>by simp only[rm] at *;lia) (fun a b=>by simp only[Bool.or_eq_true,rm];lia) l;exact this.imp fun h=>by simpa using h
theorem repI:∀ {ns:List Int},RepTs K G H (ns.map T.int) (ns.map V.int)
 | []=>.nil
 | n::ns=>.cons .int repI
def sZ(e:G a=some (.tb t))(hl:t.length<64)(h:k (.lst ((sortI (t.map (·.1))).map T.int)) G):LNr P w K rT [.ptr a] G k:=fun H us g r Q z=>by
 cases r with
 | cons r1 r2 =>
  cases r1;cases r2;refine⟨a,kvT t,t.map (·.1),rfl,(g a _ e).1,Znw t,by rw[af];exact hl,fun ms p h1 h2 hp=>?_⟩;rw[tN h2 (wK _) (h1.trans (iB _).symm)];exact z.lst g hp repI h
end
def ex_bl{b:Bool}{R:Bool->Prop}(h:R b):∃ k,T.bl b=T.bl k/\R k:=⟨b,rfl,h⟩
def ZoT{b:Int}{R:Int->Prop}(h:R b):∃ k,T.int b=T.int k/\R k:=⟨b,rfl,h⟩
def ZoB{p:Prop}(h:Nat.ble n 1000=true)(q:p):n<=1000/\p:=⟨jn h,q⟩
abbrev prT(p:Int×Int):T:=.tup [.int p.1,.int p.2]
abbrev fmT(f:Fm):T:=.tup [.int f.1,.tup (f.2.map prT)]
def ofW(w:Int):Fm:=(0,[(1,w)])
def wnF(c:Int)(t:List (Int×Int)):Fm:=(c,cx t (sortI (t.map (·.1))))
def cb(f g:Fm)(n:Int):Fm:=wnF (f.1+n*g.1) (bu (bu [] f.2 1) g.2 n)
def im(f:Fm)(n:Int):Fm:=wnF (f.1*n) (bu [] f.2 n)
def bF(f:Fm)(fl:List Fm):Fm:=wnF (putC f.1 f.2 fl) (de f.2 fl)
structure Fo(n:Nat)(B:Nat)(f:Fm):Prop where
 c:f.1.natAbs<=B
 a:∀ p∈f.2,p.1.natAbs<=B
 w:∀ p∈f.2,0<=p.2/\p.2<n
 nd:(f.2.map (·.2)).Nodup
def Fo.le{m C:Nat}{f:Fm}(h:Fo n B f)(h1:n<=m)(h2:B<=C):Fo m C f:=⟨bo h.c h2,fun p q=>bo (h.a p q) h2,fun p q=>⟨(h.w p q).1,by have:=(h.w p q).2;lia⟩,h.nd⟩
def mn:∀ (l:List Int),l.Nodup->(∀ x∈l,0<=x/\x<n)->l.length<=n:=by
 intro l hn h;have h1:(l.map Int.toNat).Nodup:=by
  refine List.Pairwise.map _ (fun a b (hab:a≠b/\0<=a/\0<=b)=>by lia) ?_;exact xW (fun {a b} ha hb hab=>⟨hab,(h a ha).1,(h b hb).1⟩) hn
 have h2:(l.map Int.toNat) ⊆ List.range n:=fun x hx=>by
  obtain⟨y,hy,rfl⟩:=aU.mp hx;have:=h y hy;exact gG.mpr (by lia)
 have:=List.Nodup.length_le_of_subset h1 h2;simpa using this
def Fo.len{f:Fm}(h:Fo n B f):f.2.length<=n:=by
 have:=mn (n:=n) (f.2.map (·.2)) h.nd fun x hx=>by obtain⟨p,hp,rfl⟩:=aU.mp hx;exact h.w p hp
 simpa using this
theorem nc : ∀ {ps : List (Int×Int)} {B : Nat} (w : Int), (ps.map (·.2)).Nodup->(∀ p∈ps, p.1.natAbs<=B)->(atW ps w).natAbs<=B
  | [], B, w, _, _=>by unfold atW; simp
  | p :: ps, B, w, hn, h => by
    rw[aP,eh] at hn;rw[hJ];by_cases e:p.2=w
    . rw[am e, jV fun q hq hw => hn.1 (aU.mpr ⟨q, hq, hw.trans e.symm⟩)]
      have:=h p aQ;simpa using this
    . rw[ao e, nZ]
      exact nc w hn.2 fun q hq=>h q (bD _ hq)
theorem kY : ∀ (ps t : List (Int×Int)) (n x : Int), x∈(bu t ps n).map (·.1)->x∈t.map (·.1)\/x∈ps.map (·.2)
  | [], t, n, x, h=>.inl h
  | p :: ps, t, n, x, h => by
    rcases kY ps (addT t p.2 (p.1*n)) n x h with h|h
    . rw[pD] at h
      split at h
      . exact .inl h
      . rcases aR.mp h with h | h
        . exact .inl h
        . rw[aK] at h; exact .inr (by rw[h]; exact aQ)
    . exact .inr (bD _ h)
def uM{t:List (Int×Int)}(hn:(t.map (·.1)).Nodup)(hw:∀ x∈t.map Prod.fst,0<=x/\x<n)(hc:c.natAbs<=B)(hb:∀ w,(bm t w).natAbs<=B):Fo n B (wnF c t):=by
 have hp:=iB (t.map (·.1));have e:(wnF c t).2.map (·.2)=(sortI (t.map (·.1))).filter fun w=>decide (bm t w≠0):=by unfold wnF cx;rw[fM];exact map_id _
 refine⟨hc,fun p h=>?_,fun p h=>?_,?_⟩
 .obtain ⟨w,_,rfl⟩:=aU.mp h;exact hb w
 .have h2:p.2∈(wnF c t).2.map (·.2):=aU.mpr ⟨p,h,rfl⟩;rw[e] at h2;exact hw _ (hp.mem_iff.mp (lr.mp h2).1)
 .rw[e];exact(hp.nodup_iff.mpr hn).filter _
def pH{C:Nat}{f g:Fm}{m:Int}(hf:Fo n B f)(hg:Fo n C g):((bu (bu [] f.2 1) g.2 m).map (·.1)).Nodup/\(∀ x∈(bu (bu [] f.2 1) g.2 m).map Prod.fst,0<=x/\x<n)/\∀ w,(bm (bu (bu [] f.2 1) g.2 m) w).natAbs<=B+m.natAbs*C:=by
 refine⟨fR _ _ (fR _ _ fL),fun x hx=>?_,fun w=>?_⟩
 .rcases kY _ _ _ _ hx with hx|hx
  .rcases kY _ _ _ _ hx with hx|hx
   .cases hx
   .obtain ⟨p,hp,rfl⟩:=aU.mp hx;exact hf.w p hp
  .obtain ⟨p,hp,rfl⟩:=aU.mp hx;exact hg.w p hp
 .rw[ic,ic];show ((0:Int)+_*1+_).natAbs<=_;have h1:=nc w hf.nd hf.a;have h2:=nc w hg.nd hg.a;have h3:=og m.natAbs h2;rw[<-lO,kf] at h3;rw[nZ,nJ];exact bo (Int.natAbs_add_le _ _) (Nat.add_le_add h1 h3)
def ng{C:Nat}{f g:Fm}{m:Int}(hf:Fo n B f)(hg:Fo n C g):Fo n (B+m.natAbs*C) (cb f g m):=by
 obtain⟨h1,h2,h3⟩:=pH (m:=m) hf hg;refine uM h1 h2 ?_ h3;have h4:=og m.natAbs hg.c;rw[<-lO] at h4;exact bo (Int.natAbs_add_le _ _) (Nat.add_le_add hf.c h4)
def rO{f:Fm}{m:Int}(hf:Fo n B f):((bu [] f.2 m).map (·.1)).Nodup/\(∀ x∈(bu [] f.2 m).map Prod.fst,0<=x/\x<n)/\∀ w,(bm (bu [] f.2 m) w).natAbs<=m.natAbs*B:=by
 refine⟨fR _ _ fL,fun x hx=>?_,fun w=>?_⟩
 .rcases kY _ _ _ _ hx with hx|hx
  .cases hx
  .obtain ⟨p,hp,rfl⟩:=aU.mp hx;exact hf.w p hp
 .rw[ic];show ((0:Int)+_).natAbs<=_;have h3:=og m.natAbs (nc w hf.nd hf.a);rw[<-lO,kf] at h3;lia
def ZkR{f:Fm}{m:Int}(hf:Fo n B f):Fo n (m.natAbs*B) (im f m):=by
 obtain⟨h1,h2,h3⟩:=rO (m:=m) hf;refine uM h1 h2 ?_ h3;have h4:=og m.natAbs hf.c;rw[<-lO,kf] at h4;exact h4
section
variable{P:Program}{w:World}{K:W.Frag}{G:GH}{b:Addr}{Γ:Ev}{tx:TE}{k:T->GH->Prop}{d x y z:T}{v:V}{n:Int}{ts us:List T}
theorem uW : ∀ {bs : List Bool} {vs : List V}, RepTs K G H (bs.map T.bl) vs->vs=bs.map V.bl
  | [], _, r=>by cases r; rfl
  | s :: ss, _, r => by
    cases r with
    | cons r1 r2=>cases r1; rw[uW r2]; rfl
theorem wJ : ∀ {bs : List Int} {vs : List V}, RepTs K G H (bs.map T.int) vs->vs=bs.map V.int
  | [], _, r=>by cases r; rfl
  | s :: ss, _, r => by
    cases r with
    | cons r1 r2=>cases r1; rw[wJ r2]; rfl
def l_all{bs:List Bool}(h:k (.bl (bs.all id)) G):LNr P w K (rAll K) [.lst (bs.map T.bl)] G k:=fun H us g r Q z=>by
 cases r with|cons r1 r2=>cases r2;cases r1 with|lst _ e q=>exact⟨_,bs,rfl,by rw[<-uW q];exact SqL.of e,z.here g .bl h⟩
mutual
def emb:D->T
 | .non=>.non
 | .bl b=>.bl b
 | .int i=>.int i
 | .str x=>.str x
 | .tup ds=>.tup (embs ds)
def embs:List D->List T
 | []=>[]
 | d::ds=>emb d::embs ds
end
mutual
theorem qN : ∀ {d : D} {v : V}, RepT K G H (emb d) v->Rep H d v
  | .non, v, r=>by rw[emb] at r; cases r; rw[Rep]
  | .bl b, v, r=>by rw[emb] at r; cases r; rw[Rep]
  | .int i, v, r=>by rw[emb] at r; cases r; rw[Rep]
  | .str x, v, r=>by rw[emb] at r; cases r; rw[Rep]
  | .tup ds, v, r => by
    rw[emb] at r;cases r with
    | tup h rs=>exact Zpk h (vO rs)
theorem vO : ∀ {ds : List D} {vs : List V}, RepTs K G H (embs ds) vs->Reps H ds vs
  | [], vs, r=>by rw[embs] at r; cases r; exact ZmZ
  | d :: ds, vs, r => by
    rw[embs] at r;cases r with
    | cons h rs=>exact Zk4 (qN h) (vO rs)
end
def l_eqD{ds es:List D}(p1:D.pls ds=true)(p2:D.pls es=true)(hd:D.deps ds<=40)(h:k (.bl (eqD (.tup ds) (.tup es))) G):L2r P w K rEqD (.tup (embs ds)) (.tup (embs es)) G k:=fun H u v g r1 r2 Q z =>
 ⟨ds,es,qN (d:=.tup ds) (by rw[emb];exact r1),qN (d:=.tup es) (by rw[emb];exact r2),p1,p2,hd,z.here g .bl h⟩
end
end L2
end
variable{f fr':List L2.SF}{own fl:List L2.Fm}{Γ:L2.Ev}{P':List (Nat×List L2.SF)}
section
namespace L2
open PySem
abbrev rowT(r:Rw):T:=.tup (.str r.row.1::embs r.row.2)
abbrev dfT(d:Df):T:=.tup [.int d.takes,.int d.boxes,.lst (d.rows.map rowT)]
abbrev pgT(P:List Df):T:=.lst (P.map dfT)
abbrev sfT(s:SF):T:=.tup [.int s.1,.int s.2.1,.tup (s.2.2.map fmT)]
def fG{α:Type}(l:List α)(x:α):atI (l++[x]) (-1)=some x:=by
 unfold atI ixN;rw[ao (by decide),am (by rw[aJ];simp;lia)];show (l++[x])[((-1:Int)+(l++[x]).length).toNat]?=_;have:((-1:Int)+(l++[x]).length).toNat=l.length:=by rw[aJ];simp;lia
 rw[this];exact cE
def Zqp{α:Type}(l:List α)(x y:α):atI (l++[x,y]) (-2)=some x:=by
 unfold atI ixN;rw[ao (by decide),am (by rw[aJ];simp;lia)];show (l++[x,y])[((-2:Int)+(l++[x,y]).length).toNat]?=_;have:((-2:Int)+(l++[x,y]).length).toNat=l.length:=by rw[aJ];simp;lia
 rw[this,fK (aE _),lP];rfl
def at_0{α:Type}{x:α}{l:List α}:atI (x::l) 0=some x:=by
 unfold atI ixN;rw[am (by decide),am (by rw[cD];lia)];rfl
def at_1{α:Type}{x y:α}{l:List α}:atI (x::y::l) 1=some y:=by
 unfold atI ixN;rw[am (by decide),am (by rw[cD,cD];lia)];rfl
def at_2{α:Type}{x y z:α}{l:List α}:atI (x::y::z::l) 2=some z:=by
 unfold atI ixN;rw[am (by decide),am (by rw[cD,cD,cD];lia)];rfl
def at_i{α:Type}{l:List α}{x:α}(h:0<=i)(e:l[i.toNat]?=some x):atI l i=some x:=cG (n:=i.toNat) (by lia) e
def mB(l:List T)(x:T):cutT (l++[x]) none (some (-1))=l:=by
 unfold cutT HT.sIx;rw[aJ,eA];dsimp only;rw[am (by decide),drop_zero,oh];have:((-1:Int)+((l.length+1:Nat):Int)).toNat=l.length:=by lia
 rw[this];exact take_left
def gQ{l:List T}(h:0<=i)(h2:i<=l.length):cutT l none (some i)=l.take i.toNat:=by
 unfold cutT HT.sIx;dsimp only;rw[ao (by lia),drop_zero,oh]
 congr 1
 lia
def je{l:List T}(h:0<=i)(h2:i<=l.length):cutT l (some i) none=l.drop i.toNat:=by
 unfold cutT HT.sIx;dsimp only;rw[ao (by lia)];have:min i.toNat l.length=i.toNat:=by lia
 rw[this,take_of_length_le (by rw[jj];exact aE _)]
section
variable{P:Program}{w:World}{K:W.Frag}{G:GH}{k:T->GH->Prop}{d:T}{ts:List T}
def eS(e:atI ts i=some d)(h:k d G):L2r P w K (rIxA K) (.tup ts) (.int i) G k:=l_ix sg_t e h
def aW(e:atI ts i=some d)(h:k d G):L2r P w K (rIxA K) (.lst ts) (.int i) G k:=l_ix sg_l e h
def ZoG(h:k (.int ts.length) G):LNr P w K (rLen K) [.tup ts] G k:=cu sg_t h
def ZoH(h:k (.int ts.length) G):LNr P w K (rLen K) [.lst ts] G k:=cu sg_l h
end
def uY(vs:List V):List Str:=vs.filterMap fun v=>match v with|.str x=>some x|_=>none
def Zoa{P:Program}{w:World}{K:W.Frag}{G:GH}{k:T->GH->Prop}(e:(uY vs).map V.str=vs)(h:k (.cst (uY vs)) G):We P w K (tCT K vs) Γ G k:=by
 have:=wD (P:=P) (w:=w) (K:=K) (Γ:=Γ) h
 rwa [e] at this
def cQ{P:Program}{w:World}{K:W.Frag}{G:GH}{k:T->GH->Prop}(Sh:Ev->Prop)
  (h:Wi P w K wi Γ G fun xs kp G1=>xs.length<=100000/\kp G1/\Sh (bkE LN.length fr Γ)/\∃ ys:List T,ys.length=xs.length/\(∀ (i:Nat) x y Γ',xs[i]?=some x->ys[i]?=some y->Sh Γ'->Wg P w K g x Γ' G1 fun Γ2 G2=>Sh Γ2/\G2=G1/\We P w K te Γ2 G1 fun d G4=>d=y/\G4=G1)/\k (.lst ys) G1):We P w K (gC LN fr wi g iV te) Γ G k:=by
 refine kS fun H Z g ev Q z=>h H Z g ev Q fun J H' xs kp G' s1 g1 it ⟨hl,hk,sh,ys,hy,hs,q⟩=>z J H' xs kp G' s1 g1 it ⟨hl,fun i acc Γ2 G2=>Sh Γ2/\G2=G'/\acc=ys.take i,⟨sh,rfl,rfl⟩,fun i acc Γ2 G2 z0_=>by obtain⟨_,e,_⟩:=z0_;exact e▸hk,fun i x acc Γ2 G2 hx ⟨sh2,e,ea⟩=>?_,fun acc Γ2 G2 ⟨_,e,ea⟩=>?_⟩
 .subst e ea;have hi:=(aT.mp hx).1;have ey:ys[i]?=some (ys[i]'(by lia)):=aC _;intro H3 σ3 v g3 e3 r3 R z3;refine hs i x _ Γ2 hx ey sh2 H3 σ3 v g3 e3 r3 R fun σ4 H4 Γ4 G4 s4 g4 e4 ⟨sh4,eG,we⟩=>z3 σ4 H4 Γ4 G4 s4 g4 e4 ?_;subst eG;refine o5 (iteT fun H5 σ5 g5 e5 Q5 z5=>we H5 σ5 g5 e5 Q5 fun v6 H6 d6 G6 s6 g6 r6 ⟨ed,eg⟩=>z5 v6 H6 d6 G6 s6 g6 r6 ?_);subst ed eg;exact⟨sh4,rfl,by rw[eY,ey];rfl⟩
 .subst e ea;rw[<-hy,eZ];exact q
theorem l6:∀ qs:List Int,embs (qs.map D.int)=qs.map T.int
 | []=>by rw[gc,embs];rfl
 | q::qs=>by rw[aP,embs,l6 qs,emb];rfl
def gtF(s:SF)(q:Int):Fm:=s.2.2.getD q.toNat (0,[])
def fF(fr:List SF)(s:SF)(p:Int)(f:Fm):List SF:=fr++[(s.1,s.2.1+1,s.2.2.set p.toNat f)]
def cH(fr:List SF)(s:SF)(t:Int):List SF:=fr++[(s.1,t,s.2.2)]
def iP(P:List Df)(g:Int):Int:=((P[g.toNat]?).map (·.boxes)).getD 0
def eL(P:List Df)(s:SF)(g:Int)(qs:List Int):SF:=(g,0,qs.map (gtF s)++List.replicate (iP P g-qs.length).toNat (0,[]))
noncomputable def bR(s:SF):Rw->Option (Int×Fm)
 | .put p n=>some (p,(n,[]))
 | .copy p q=>some (p,gtF s q)
 | .plus p q r=>some (p,cb (gtF s q) (gtF s r) 1)
 | .less p q r=>some (p,cb (gtF s q) (gtF s r) (-1))
 | .times p q n=>some (p,im (gtF s q) n)
 | _=>none
def Rw.cbox:Rw->Int
 | .call p _ _=>p
 | _=>0
noncomputable def cP(P : List Df)(fr : List SF)(s : SF) : Option (List SF) := match cf P s.1 s.2.1 with
  | none=>none
  | some r => match bR s r with
    | some (p, f)=>some (fF fr s p f)
    | none => match r with
      | .jump t=>some (cH fr s t)
      | .zero p t=>if (gtF s p).2=[] then some (cH fr s (if (gtF s p).1=0 then t else s.2.1+1)) else none
      | .below p t=>if (gtF s p).2=[] then some (cH fr s (if (gtF s p).1<0 then t else s.2.1+1)) else none
      | .call _ g qs=>if fr.length<3 then some (fr++[s, eL P s g qs]) else none
      | .back p => match fr.getLast? with
        | none=>none
        | some c=>some (fF fr.dropLast c ((cf P c.1 c.2.1).map Rw.cbox |>.getD 0) (gtF s p))
      | _=>none
structure SfOk(P:List Df)(n B:Nat)(s:SF):Prop where
 ex:∃ d r,0<=s.1/\P[s.1.toNat]?=some d/\0<=s.2.1/\d.rows[s.2.1.toNat]?=some r/\(s.2.2.length:Int)=d.boxes
 fm:∀ f∈s.2.2,Fo n B f
def SfOk.le{P:List Df}{n m B C:Nat}{s:SF}(h:SfOk P n B s)(h1:n<=m)(h2:B<=C):SfOk P m C s:=⟨h.ex,fun f hf=>(h.fm f hf).le h1 h2⟩
structure FrsOk(P:List Df)(n B:Nat)(fr:List SF)(s:SF):Prop where
 few:fr.length<=3
 all:∀ t∈fr++[s],SfOk P n B t
 call:∀ t∈fr,∃ p g qs,cf P t.1 t.2.1=some (.call p g qs)
structure PgK(P:List Df):Prop where
 ok:PgOk P
 b:∀ d∈P,d.boxes<=8
def eE{P:List Df}{s:SF}(h:SfOk P n B s):∃ d r,d∈P/\P[s.1.toNat]?=some d/\cf P s.1 s.2.1=some r/\d.rows[s.2.1.toNat]?=some r/\0<=s.1/\0<=s.2.1/\(s.2.2.length:Int)=d.boxes:=by
 obtain⟨d,r,h1,h2,h3,h4,h5⟩:=h.ex;exact⟨d,r,aF h2,h2,by unfold cf;rw[h2];exact h4,h4,h1,h3,h5⟩
def pz{P:List Df}{s:SF}(h:SfOk P n B s){q:Int}(h1:0<=q)(h2:q<s.2.2.length):Fo n B (gtF s q)/\s.2.2[q.toNat]?=some (gtF s q):=by
 have e:s.2.2[q.toNat]?=some (gtF s q):=by
  unfold gtF;rw[cJ,aC (by lia)];rfl
 exact⟨h.fm _ (aF e),e⟩
def ma{P:List Df}{s:SF}(h:SfOk P n B s){p:Int}{f:Fm}(hf:Fo n B f){t:Int}(ht:0<=t)(hr:∀ d,P[s.1.toNat]?=some d->t.toNat<d.rows.length):SfOk P n B (s.1,t,s.2.2.set p.toNat f):=by
 obtain⟨d,r,h1,h2,h3,h4,h5⟩:=h.ex;refine⟨⟨d,_,h1,h2,ht,aC (hr d h2),by rw[cC];exact h5⟩,fun g hg=>?_⟩;rcases gk hg with hg|hg
 .exact h.fm g hg
 .rw[hg];exact hf
def pQ{P:List Df}{s:SF}(h:SfOk P n B s){t:Int}(ht:0<=t)(hr:∀ d,P[s.1.toNat]?=some d->t.toNat<d.rows.length):SfOk P n B (s.1,t,s.2.2):=by
 obtain⟨d,r,h1,h2,h3,h4,h5⟩:=h.ex;exact⟨⟨d,_,h1,h2,ht,aC (hr d h2),h5⟩,h.fm⟩
def iZ{P:List Df}(K:PgK P){s:SF}(h:SfOk P n B s){r:Rw}(hr:cf P s.1 s.2.1=some r)(hl:¬ r.last):0<=s.2.1+1/\∀ d,P[s.1.toNat]?=some d->(s.2.1+1).toNat<d.rows.length:=by
 obtain⟨d,r',hd,h2,hr',h4,h0,h3,h5⟩:=eE h;rw[hr] at hr';cases hr';refine⟨by lia,fun d' hd'=>?_⟩;rw[h2] at hd';cases hd';obtain⟨rl,el,ll⟩:=(K.ok.2.2 d hd).last;have hlt:=(aT.mp h4).1;by_cases e:s.2.1.toNat=d.rows.length-1
 .rw[<-e,h4] at el;cases el;exact absurd ll hl
 .rw[Int.toNat_add h3 (by decide)];exact Nat.lt_of_le_of_ne hlt fun z=>e (by rw[<-z];rfl)
def Fo.nil(h:c.natAbs<=B):Fo n B (c,[]):=⟨h,fun p hp=>(cw hp).elim,fun p hp=>(cw hp).elim,fL⟩
def tV{P:List Df}(K:PgK P)(hB:10 ^ 60<=B){fr:List SF}{s:SF}(h:FrsOk P n B fr s)(e:cP P fr s=some fr'):∃ f2 s2,fr'=f2++[s2]/\FrsOk P n (100 * B) f2 s2:=by
 have hs:=h.all s (by simp);obtain⟨d,r,hd,h2,hr,h4,h0,h3,h5⟩:=eE hs;have ok:=(K.ok.2.2 d hd).rows r (aF h4);have BB:B<=100*B:=Nat.le_mul_of_pos_left B (by decide);have B2:B+1*B<=100*B:=by rw[Nat.add_comm,<- Nat.succ_mul];exact gn B (by decide)
 have hs':=hs.le (aE n) BB;have fr':∀ t∈fr,SfOk P n (100*B) t:=fun t ht=>(h.all t (by simp[ht])).le (aE n) BB;have mk:∀ s2:SF,SfOk P n (100*B) s2->FrsOk P n (100*B) fr s2:=fun s2 h2=>⟨h.few,fun t ht=>by rcases aR.mp ht with ht|ht;exact fr' t ht;rw[aK.mp ht];exact h2,h.call⟩;have bx:∀ {q:Int},In0 q d.boxes->Fo n B (gtF s q):=fun {q} hq=>(pz hs hq.1 (by have:=hq.2;lia)).1;have rk:∀ {p:Int} {f:Fm},Fo n (100*B) f->¬ r.last->∃ f2 s2,fF fr s p f=f2++[s2]/\FrsOk P n (100*B) f2 s2:=fun {p f} hf hl=>by
  obtain⟨n1,n2⟩:=iZ K hs hr hl;exact⟨fr,_,rfl,mk _ (ma hs' hf n1 n2)⟩
 unfold cP at e;rw[hr] at e;have tr:∀ {t:Int},In0 t d.rows.length->∃ f2 s2,cH fr s t=f2++[s2]/\FrsOk P n (100*B) f2 s2:=fun {t} ht=>⟨fr,_,rfl,mk _ (pQ hs' ht.1 fun d' hd'=>by rw[h2] at hd';cases hd';have:=ht.2;have:=ht.1;lia)⟩;have nx:¬ r.last->∃ f2 s2,cH fr s (s.2.1+1)=f2++[s2]/\FrsOk P n (100*B) f2 s2:=fun hl=>by
  obtain⟨n1,n2⟩:=iZ K hs hr hl;exact⟨fr,_,rfl,mk _ (pQ hs' n1 n2)⟩
 cases r with
 | put p m=>cases e;exact rk (Fo.nil (bo ok.2 (bo hB BB))) (fun h=>h)
 | copy p q=>cases e;exact rk ((bx ok.2).le (aE _) BB) (fun h=>h)
 | plus p q r=>cases e;exact rk ((ng (bx ok.2.1) (bx ok.2.2)).le (aE _) B2) (fun h=>h)
 | less p q r=>cases e;exact rk ((ng (bx ok.2.1) (bx ok.2.2)).le (aE _) B2) (fun h=>h)
 | times p q m=>cases e;exact rk ((ZkR (bx ok.2.1)).le (aE _) (gn _ (Nat.le_succ_of_le ok.2.2))) (fun h=>h)
 | take p=>cases e
 | tell p=>cases e
 | jump t=>cases e;exact tr ok
 | zero p t =>
  dsimp only [bR] at e;split at e
  .cases e;split
   .exact tr ok.2
   .exact nx (fun h=>h)
  .cases e
 | below p t =>
  dsimp only [bR] at e;split at e
  .cases e;split
   .exact tr ok.2
   .exact nx (fun h=>h)
  .cases e
 | call p g qs =>
  dsimp only [bR] at e;split at e
  .next hl =>
   cases e;obtain⟨d2,g0,hg,hq⟩:=ok.2.1;have D2:=K.ok.2.2 d2 (aF hg);have eb:iP P g=d2.boxes:=by unfold iP;rw[hg];rfl
   have hq2:(qs.length:Int)<=d2.boxes:=by rw[hq];exact D2.t.2
   refine⟨fr++[s],eL P s g qs,by rw[cv];rfl,by rw[aJ];simp;lia,fun t ht=>?_,fun t ht=>?_⟩
   .rcases aR.mp ht with ht|ht
    .rcases aR.mp ht with ht|ht
     .exact fr' t ht
     .rw[aK.mp ht];exact hs'
    .rw[aK.mp ht];obtain ⟨rl,el,_⟩:=D2.last;have hpos:0 < d2.rows.length:=jk (bO _) (aT.mp el).1;refine ⟨⟨d2,_,g0,hg,lH 0,aC hpos,?_⟩,fun f hf=>?_⟩
     .unfold eL;rw[eb];simp;lia
     .unfold eL at hf;rcases aR.mp hf with hf|hf
      .obtain ⟨q,hq',rfl⟩:=aU.mp hf;exact(bx (ok.2.2 q hq')).le (aE _) BB
      .rw[rB hf];exact Fo.nil (bO _)
   .rcases aR.mp ht with ht|ht
    .exact h.call t ht
    .rw[aK.mp ht];exact⟨p,g,qs,hr⟩
  .cases e
 | back p =>
  dsimp only [bR] at e;cases hl:fr.getLast? with
  | none=>rw[hl] at e;cases e
  | some c =>
   rw[hl] at e;cases e;obtain⟨ys,rfl⟩:=gJ.mp hl;obtain⟨p2,g,qs,hc⟩:=h.call c (by simp);have hcs:=fr' c (by simp);obtain⟨n1,n2⟩:=iZ K hcs hc (fun h=>h);rw[gq,hc];refine⟨ys,_,rfl,by have:=h.few;rw[aJ] at this;simp at this;lia,fun t ht=>?_,fun t ht=>h.call t (by simp[ht])⟩;rcases aR.mp ht with ht|ht
   .exact fr' t (by simp[ht])
   .rw[aK.mp ht];exact ma hcs ((bx ok).le (aE _) BB) n1 n2
end L2
end
section
namespace L2
open PySem PySem.Spec PyProof.Rows
def wX{P:Program}{w:World}{K:W.Frag}{G:GH}{k:T->GH->Prop}(Sh:Ev->Prop)
  (h:Wi P w K wi Γ G fun xs kp G1=>xs.length<=100000/\kp G1/\Sh (bkE LN.length fr Γ)/\∃ ys:List T,ys.length=xs.length/\(∀ (i:Nat) x y Γ',xs[i]?=some x->ys[i]?=some y->Sh Γ'->Wg P w K g x Γ' G1 fun Γ2 G2=>Sh Γ2/\G2=G1/\We P w K te Γ2 G1 fun d G4=>d=y/\G4=G1)/\∀ a,G1 a=none->k (.ptr a) (gput G1 a (.lst ys))):We P w K (gC LN fr wi g iV te) Γ G k:=fun H Z g ev Q z =>
 h H Z g ev _ fun J H1 xs kp G1 s1 g1 it z0_=>by
  obtain⟨hz,hk,sh,ysT,hy,hs,q⟩:=z0_;refine nv xs.length (jz (by lia)) (fun i ys Z H=>∃ Γ',Stp G1 H1 G1 H/\GOk P w K G1 H/\EnvOk K G1 H Z Γ'/\RepTs K G1 H (ysT.take i) ys/\Sh Γ') ⟨_,.refl,g1,oM (ev.mono g s1),.nil,sh⟩ ?_ ?_ ?_ ?_
  .rintro i ys Z H hi ⟨Γ',s2,g2,e2,r2,p⟩;exact((it G1 H s2 g2 hk).1 i xs[i] (aC hi)).1
  .rintro ys Z H ⟨Γ',s2,g2,e2,r2,p⟩;exact(it G1 H s2 g2 hk).2
  .rintro i x ys Z H H' hi hy1 hy2 ⟨Γ',s2,g2,e2,r2,p⟩ y;have ey:ysT[i]?=some (ysT[i]'(by lia)):=aC _;obtain⟨sm,rx⟩:=((it G1 H s2 g2 hk).1 i xs[i] (aC hi)).2 x H' y;refine hs i _ _ Γ' (aC hi) ey p H' Z x (g2.same sm) (e2.mono g2 (.same sm)) rx _ fun σ3 H3 Γ3 G3 s3 g3 e3 ⟨sh3,eG,we⟩=>?_;subst eG;refine xF (iteT ?_);refine we H3 σ3 g3 e3 _ fun v H5 d G5 s5 g5 r5 ⟨ed,eg⟩=>⟨hy2,by rw[aJ];simpa using hy1,?_⟩;subst ed eg;have st:=(Stp.same sm).trans (s3.trans s5);refine⟨Γ3,s2.trans st,g5,e3.mono g3 s5,?_,sh3⟩;rw[eY,ey];exact(r2.mono g2 st).app (.cons r5 .nil)
  .rintro ys Z H hl ⟨Γ',s2,g2,e2,r2,p⟩ c hc;rw[<-hy,eZ] at r2;obtain⟨g3,s3⟩:=g2.putL (.inr hc) r2;exact z _ _ _ _ (s1.trans (s2.trans s3)) g3 .ptr (q c (g2.free hc))
def cX{P:Program}{w:World}{K:W.Frag}{G:GH}{t u:TS}{D:EndT}(M:Ev->GH->Prop)(h1:Ws P w K t Γ G { D with nx:=M })(h2:∀ Γ' G',M Γ' G'->Ws P w K u Γ' G' D):Ws P w K (tSeq t u) Γ G D :=
 cT fun H Z g ev D' z=>h1 H Z g ev D' ⟨fun σ' H' Γ' G' s g' e' q=>z.nx σ' H' Γ' G' s g' e' (h2 Γ' G' q),z.rt,z.bk,z.ct⟩
def si_up{G:GH}{x:T}{l:List T}{c:Ct}(hp:G p=none)(h:SqI G x l):SqI (gput G p c) x l:=by
 rcases h with e|⟨a,e,h⟩
 .exact .inl e
 .exact .inr ⟨a,e,by rw[gp_n (g_ne h hp)];exact h⟩
theorem tQ:∀ ps:List (Int×Int),embs (ps.map pairD)=ps.map prT
 | []=>by rw[gc,embs];rfl
 | p::ps=>by rw[aP,embs,tQ ps,pairD,emb,embs,embs,embs,emb,emb];rfl
theorem rV : ∀ ps : List (Int×Int), D.pls (ps.map pairD)=true/\D.deps (ps.map pairD)<=1
  | []=>by constructor; rfl; exact bO _
  | p :: ps => by
    obtain⟨h1,h2⟩:=rV ps;rw[aP,D.pls,D.deps,h1];refine⟨rfl,?_⟩;show max (D.dep (pairD p)) _<=1;have:D.dep (pairD p)=1:=rfl;lia
section
variable{P:Program}{w:World}{K:W.Frag}{G:GH}{k:T->GH->Prop}{x y d:T}{ts:List T}{v:V}
noncomputable def tyT(G:GH):T->String
 | .non=>"NoneType"
 | .bl _=>"bool"
 | .int _=>"int"
 | .str _=>"str"
 | .tup _=>"tuple"
 | .cst _=>"tuple"
 | .lst _=>"list"
 | .ptr a=>match G a with|some (.lst _)=>"list"|_=>""
def tyN_T(g:GOk P w K G H)(r:RepT K G H x v)(h:(∃ ts,SqI G x ts)\/(∀ a,x≠.ptr a)/\∀ xs,x≠.cst xs):tyN H v=some (tyT G x):=by
 rcases h with ⟨ts,h⟩|⟨h2,h3⟩
 .obtain ⟨a,vs,rfl,_,ha⟩:=fi g h r;rw[se ha];rcases h with rfl|⟨b,rfl,hb⟩
  .rfl
  .show _=some (match G b with|some (.lst _)=>"list"|_=>"");rw[hb]
 .cases r with
  | non=>rfl
  | bl=>rfl
  | int=>rfl
  | str=>rfl
  | tup h _=>exact Zo9 h
  | lst _ h _=>exact se h
  | ptr=>exact absurd rfl (h2 _)
  | cst=>exact absurd rfl (h3 _)
def Zn9{Ty:String}(hT:Ty∈["int","bool","str","tuple","list","dict"])(h:We P w K ta Γ G fun x G1=>((∃ ts,SqI G1 x ts)\/(∀ a,x≠.ptr a)/\∀ xs,x≠.cst xs)/\k (.bl (isi (tyT G1 x) Ty)) G1):We P w K (tCB rIsi (bI ta (bI (tC (.ty Ty)) tNil))) Γ G k:=fun H Z g ev Q z=>h H Z g ev _ fun v H1 x G1 s1 g1 r1 ⟨hx,q⟩ =>
 ⟨v,Ty,tyT G1 x,rfl,tyN_T g1 r1 hx,hT,(z.mono s1).here g1 .bl q⟩
def T.plk:T->Bool
 | .non=>true|.bl _=>true|.int _=>true|.str _=>true|.tup _=>true|.lst _=>true|_=>false
def tk_d{x:T}{p:Prop}(h:x.plk=true)(q:p):((∃ ts,SqI G x ts)\/(∀ a,x≠.ptr a)/\∀ xs,x≠.cst xs)/\p:=by
 refine⟨.inr ?_,q⟩;refine⟨fun a e=>?_,fun a e=>?_⟩
 .subst e;exact absurd h bL
 .subst e;exact absurd h bL
end
end L2
end
section
namespace L2
open PySem
def deedT:List (Str×List Str):=[("go",["edge"]),("test",["edge","edge"]),("tell",["edge"]),("take",["edge"]),("hold",["number","number","edge"]),("leave",[])]
section
variable{P:Program}{w:World}{K:W.Frag}{G:GH}{k:T->GH->Prop}{tb:List (Str×List Str)}
def ZiG(h:We P w K ty Γ G fun y G1=>∃ x ks,y=.str x/\tb.lookup x=some ks/\k (.cst ks) G1):We P w K (w6 K w tb (tCD K w tb) ty) Γ G k:=fun H Z g ev Q z a c=>h H Z g ev _ fun v1 H1 y G1 s1 g1 r1 ⟨x,ks,e,hl,q⟩=>by
 subst e;cases r1;exact⟨a,x,ks,rfl,c,rfl,hl,fun b hb=>(z.mono s1).here g1 (.cst hb) q⟩
def ZkA(h:We P w K ty Γ G fun y G1=>∃ x,y=.str x/\k (.bl (tb.lookup x).isSome) G1):We P w K (tOp (rInCD K w tb) ty (tCD K w tb)) Γ G k:=fun H Z g ev Q z=>h H Z g ev _ fun v1 H1 y G1 s1 g1 r1 ⟨x,e,q⟩ a c=>by
 subst e;cases r1;exact⟨a,x,rfl,rfl,c,(z.mono s1).here g1 .bl q⟩
def ZiC(h:We P w K ty Γ G fun y G1=>∃ x,y=.str x/\k (.bl (!(tb.lookup x).isSome)) G1):We P w K (tOp (v9 K w tb) ty (tCD K w tb)) Γ G k:=fun H Z g ev Q z=>h H Z g ev _ fun v1 H1 y G1 s1 g1 r1 ⟨x,e,q⟩ a c=>by
 subst e;cases r1;exact⟨a,x,rfl,rfl,c,(z.mono s1).here g1 .bl q⟩
def ZoI(h:k (.int ss.length) G):LNr P w K (rLen K) [.cst ss] G k:=fun H us g r Q z=>by
 cases r with
 | cons r1 r2 =>
  cases r2;cases r1 with
  | cst e=>exact⟨_,ss.length,rfl,.inr ⟨_,e H,by rw[af]⟩,z.here g .int h⟩
def l_notC{s:Str}(h:k (.bl (!ss.contains s)) G):L2r P w K (rIn K true) (.str s) (.cst ss) G k:=fun H u v g r1 r2 Q z=>by
 cases r1;cases r2 with|cst e=>exact⟨_,_,rfl,.inr (e H),rfl,oS _,by rw[qQ];exact z.here g .bl h⟩
end
end L2
end
section
namespace L2
open PySem
def ay(n:Nat):List Fm:=(List.range n).map fun(i:Nat)=>ofW (i:Int)
def plcF(frames:List SF):List (Int×Int):=frames.map fun s=>(s.1,s.2.1)
end L2
end
section
namespace L2
open PySem
structure Sd where
 many:Nat
 fr:List SF
 word:Str
 rest:List T
structure MS where
 lane:List Sd
 plc:List (K2×List Nat)
 going:Nat
def ce(Q:List Df)(l:List SF):Option (List SF):=match l.getLast? with
 | none=>none
 | some s=>cP Q l.dropLast s
end L2
end
section
namespace L2
open PySem
section
variable{S:MS}{s:SF}{most:Nat}
def lY{g:Fm}(h:Fo n B g):g.2.length<=n:=by
 have:=mn (n:=n) _ h.nd (fun x hx=>by obtain⟨p,hp,rfl⟩:=aU.mp hx;exact h.w p hp)
 rwa [af] at this
end
end L2
end
section
namespace L2
open PySem
def bJ(fl:List Fm)(s:SF):SF:=(s.1,s.2.1,s.2.2.map fun f=>bF f fl)
end L2
end
section
namespace L2
open PySem PySem.Spec PyProof.Rows
mutual
def dpT:T->Nat
 | .tup ts=>dpTs ts+1
 | .lst ts=>dpTs ts+1
 | .cst _=>1000
 | _=>0
def dpTs:List T->Nat
 | []=>0
 | t::ts=>max (dpT t) (dpTs ts)
end
noncomputable def Alk(G:GH):Nat->T->T->Prop
 | 0,x,y=>x=y/\dpT x=0
 | n+1,x,y=>(x=y/\dpT x<=n+1)\/∃ ts us,((x=.tup ts/\y=.tup us)\/(SqI G x ts/\SqI G y us))/\ts.length=us.length/\∀ (j:Nat) t u,ts[j]?=some t->us[j]?=some u->Alk G n t u
section
variable{P:Program}{w:World}{K:W.Frag}{G:GH}{k:T->GH->Prop}{x y:T}
theorem tf : ∀ {ts : List T} {t : T}, t∈ts->dpT t<=dpTs ts
  | s :: ts, t, h => by
    rw[dpTs];rcases aI.mp h with rfl|h
    . lia
    . have:=tf h; lia
mutual
theorem pM : ∀ {t : T} {u v : V} {n : Nat}, RepT K G H t u->RepT K G H t v->dpT t<=n->n<1000->Alike H n u v
  | t, u, v, n, h1, h2, hd, hn => by
    cases h1 with
    | tup h r =>
      cases h2 with
      | tup h' r' =>
        rw[dpT] at hd;obtain⟨m,rfl⟩:∃ m,n=m+1:=⟨n-1,by lia⟩;exact .inr ⟨_,_,⟨_,_,rfl,rfl,.inl ⟨h,h'⟩⟩,by rw[<-r.length,<- r'.length],pj r r' (by lia) (by lia)⟩
    | lst g h r =>
      cases h2 with
      | lst g' h' r' =>
        rw[dpT] at hd;obtain⟨m,rfl⟩:∃ m,n=m+1:=⟨n-1,by lia⟩;exact .inr ⟨_,_,⟨_,_,rfl,rfl,.inr ⟨h,h'⟩⟩,by rw[<-r.length,<- r'.length],pj r r' (by lia) (by lia)⟩
    | cst _=>rw[dpT] at hd; lia
    | _=>cases h2; exact Alike.refl n trivial
theorem pj : ∀ {ts : List T} {us vs : List V} {n : Nat}, RepTs K G H ts us->RepTs K G H ts vs->dpTs ts<=n->n<1000->∀ (j : Nat) (u v : V), us[j]?=some u->vs[j]?=some v->Alike H n u v
  | ts, us, vs, n, h1, h2, hd, hn, j, u, v, e1, e2 => by
    cases h1 with
    | nil=>cases e1
    | cons h r =>
      cases h2 with
      | cons h' r' =>
        rw[dpTs] at hd;cases j with
        | zero=>cases e1; cases e2; exact pM h h' (by lia) hn
        | succ j=>exact pj r r' (by lia) hn j u v e1 e2
end
theorem vJ(g : GOk P w K G H) : ∀ {n : Nat} {x y : T} {u v : V}, n<1000->Alk G n x y->RepT K G H x u->RepT K G H y v->Alike H n u v
  | 0, x, y, u, v, hn, ⟨e, hd⟩, r, r'=>by subst e; exact pM r r' (by lia) hn
  | n + 1, x, y, u, v, hn, h, r, r' => by
    rcases h with ⟨e,hd⟩|⟨ts,us,h,hl,hi⟩
    . subst e; exact pM r r' hd hn
    . have key : ∀ {xs ys : List V}, RepTs K G H ts xs -> RepTs K G H us ys -> xs.length = ys.length /\ ∀ (j : Nat) (u v : V), xs[j]? = some u -> ys[j]? = some v -> Alike H n u v := fun {xs ys} rx ry => by
        have l1:=rx.length;have l2:=ry.length;refine⟨by lia,fun j u v e1 e2=>?_⟩;have j1:=(aT.mp e1).1;have et:ts[j]?=some (ts[j]'(by lia)):=aC _;have eu:us[j]?=some (us[j]'(by lia)):=aC _;obtain⟨u',q1,r1⟩:=rx.get et;obtain⟨v',q2,r2⟩:=ry.get eu;rw[e1] at q1;rw[e2] at q2;cases q1;cases q2;exact vJ g (by lia) (hi j _ _ et eu) r1 r2
      rcases h with ⟨rfl,rfl⟩|⟨h1,h2⟩
      . cases r with | tup a1 a2 => cases r' with | tup b1 b2 =>
        obtain⟨k1,k2⟩:=key a2 b2;exact .inr ⟨_,_,⟨_,_,rfl,rfl,.inl ⟨a1,b1⟩⟩,k1,k2⟩
      . obtain ⟨a, xs, rfl, a2, a1⟩ := fi g h1 r
        obtain⟨b,ys,rfl,b2,b1⟩:=fi g h2 r';obtain⟨k1,k2⟩:=key a2 b2;exact .inr ⟨_, _, ⟨_, _, rfl, rfl, .inr ⟨a1, b1⟩⟩, k1, k2⟩
def AlkS(G:GH)(n:Nat)(x y:T):Prop:=∃ ts us,((x=.tup ts/\y=.tup us)\/(SqI G x ts/\SqI G y us))/\ts.length=us.length/\∀ (j:Nat) t u,ts[j]?=some t->us[j]?=some u->Alk G n t u
def ZnS{x:T}(h:dpT x<=n):Alk G n x x:=by
 cases n with
 | zero=>exact⟨rfl,by lia⟩
 | succ n=>exact .inl ⟨rfl,h⟩
def ZmG{ts:List T}(h1:SqI G x ts)(h2:SqI G y ts)(hd:dpTs ts<=n):AlkS G n x y:=⟨ts,ts,.inr ⟨h1,h2⟩,rfl,fun j t u e1 e2=>by
 rw[e1] at e2;cases e2;exact ZnS (bo (tf (aF e1)) hd)⟩
def Zqr{u v:V}(g:GOk P w K G H)(h:AlkS G 40 x y)(r:RepT K G H x u)(r':RepT K G H y v):xm H 40 u v:=by
 obtain⟨ts,us,h,hl,hi⟩:=h;have key:∀ {xs ys:List V},RepTs K G H ts xs->RepTs K G H us ys->xs.length=ys.length/\∀ (j:Nat) (u v:V),xs[j]?=some u->ys[j]?=some v->Alike H 40 u v:=fun {xs ys} rx ry=>by
  have l1:=rx.length;have l2:=ry.length;refine⟨by lia,fun j u v e1 e2=>?_⟩;have j1:=(aT.mp e1).1;have et:ts[j]?=some (ts[j]'(by lia)):=aC _;have eu:us[j]?=some (us[j]'(by lia)):=aC _;obtain⟨u',q1,r1⟩:=rx.get et;obtain⟨v',q2,r2⟩:=ry.get eu;rw[e1] at q1;rw[e2] at q2;cases q1;cases q2;exact vJ g (by lia) (hi j _ _ et eu) r1 r2
 rcases h with ⟨rfl,rfl⟩|⟨h1,h2⟩
 .cases r with|tup a1 a2=>cases r' with|tup b1 b2 =>
  obtain⟨k1,k2⟩:=key a2 b2;exact⟨_,_,⟨_,_,rfl,rfl,.inl ⟨a1,b1⟩⟩,k1,k2⟩
 .obtain ⟨a,xs,rfl,a2,a1⟩:=fi g h1 r;obtain⟨b,ys,rfl,b2,b1⟩:=fi g h2 r';obtain⟨k1,k2⟩:=key a2 b2;exact⟨_,_,⟨_,_,rfl,rfl,.inr ⟨a1,b1⟩⟩,k1,k2⟩
def l_eqA(h:AlkS G 40 x y)(q:k (.bl true) G):L2r P w K rEqA x y G k:=fun H u v g r1 r2 Q z=>rd_eqA (Zqr g h r1 r2) (z.here g .bl q)
abbrev g0:GH:=fun _=>none
def bag_ne{b l:Addr}(B:BagAt H b l):l≠b:=fun e=>by
 obtain⟨xs,i,m,st,c,h1,h2,_⟩:=B.ex;rw[e,h1] at h2;injection h2 with h2
 injection h2 with h2
 cases xs with
 | nil=>cases h2
 | cons x xs=>injection h2 with h2 _;cases h2
def law_go{rest:TS}{Q:VK}(n:Nat)(hS:SqL K H a (ns.map V.int))(hl:ns.length<=63)(kq:∀ H',Q (.bl true) H')
  (h:∀ b l,Ws P w K rest (none::some (.ptr b)::List.replicate n none) (gput g0 b (.bag l)) { nx:=fun _ _=>False,rt:=fun d _=>d=.bl true }) :
  tSeq (tAsg (ij (tZ K) [] E0 (bI (tVar 0) tNil)) (eF 1)) rest { nx:=fun _ H'=>Q .non H',rt:=Q } (some (.ref a)::none::List.replicate n none) H:=by
 refine⟨.ref a,rfl,?_⟩;refine use1 (E:=E0) (Pr_bag.mk a ns rfl hS hl fun b l H' nb sm B=>?_);have ge:GOk P w K (gput g0 b (.bag l)) H':=fun c x e=>by
  by_cases hc:c=b
  .subst hc;rw[gp_s] at e;cases e;exact⟨B,by rw[gp_n (bag_ne B)]⟩
  .rw[gp_n hc] at e;cases e
 refine h b l H' _ ge ⟨by simp,fun i t e=>?_⟩ _ ⟨fun _ _ _ _ _ _ _ z=>z.elim,fun v H2 d G' _ _ r e=>?_,fun _ _ _ _ _ _ _ z=>z.elim,fun _ _ _ _ _ _ _ z=>z.elim⟩
 .cases i with
  | zero=>cases e
  | succ i =>
   cases i with
   | zero=>cases e;exact⟨_,rfl,.ptr⟩
   | succ i=>simp[jX] at e
 .subst e;cases r;exact kq H2
end
end L2
end
section
namespace L2
open PySem
theorem mj{α : Type}{f : α->T}{n : Nat} : ∀ {l : List α}, (∀ x∈l, dpT (f x)<=n)->dpTs (l.map f)<=n
  | [], _=>by rw[gc, dpTs]; lia
  | x :: l, h => by
    rw[aP,dpTs];have:=h x (by simp);have:=mj (l:=l) (f:=f) (n:=n) fun y hy=>h y (by simp[hy]);lia
def dp_fm(f:Fm):dpT (fmT f)<=3:=by
 have:dpTs (f.2.map prT)<=1:=mj fun p _=>by simp only[prT,dpT,dpTs];lia
 simp only[fmT,dpT,dpTs];lia
def dp_sf(s:SF):dpT (sfT s)<=5:=by
 have:dpTs (s.2.2.map fmT)<=3:=mj fun f _=>dp_fm f;simp only[sfT,dpT,dpTs];lia
end L2
end
section
namespace L2
open PySem
abbrev Cano(f:Fm):Prop:=Canon f.2
def qV{t:List (Int×Int)}(hn:(t.map (·.1)).Nodup):Cano (wnF c t):=Zha ((iB _).nodup_iff.mpr hn) (wK _)
def kL{t:List (Int×Int)}(hn:(t.map (·.1)).Nodup)(w:Int):atW (wnF c t).2 w=bm t w:=Zh9 hn (iB _) w
def i8{f g:Fm}(hf:Cano f)(hg:Cano g)(h1:f.1=g.1)(h2:∀ w,atW f.2 w=atW g.2 w):f=g:=Prod.ext h1 (canon_one hf hg h2)
def jw:Cano (c,[]):=⟨List.Pairwise.nil,fun _ h=>(cw h).elim⟩
def lf(w:Int):Cano (ofW w):=⟨rC _ _,fun p hp=>by rw[aK.mp hp];exact(by decide:(1:Int)≠0)⟩
def iw(f g:Fm)(n:Int):Cano (cb f g n):=qV (fR _ _ (fR _ _ fL))
def wm(f:Fm)(n:Int):Cano (im f n):=qV (fR _ _ fL)
def iY(f:Fm)(fl:List Fm):Cano (bF f fl):=qV (iU _ _)
def vT(c:Int)(fl:List Fm):bF (c,[]) fl=(c,[]):=by
 show (c,cx [] (sortI []))=_;unfold sortI;rw[mergeSort_nil];rfl
def ZgY{f:Fm}(h:f.2=[])(fl:List Fm):bF f fl=f:=by
 obtain⟨c,t⟩:=f;dsimp only at h;subst h;exact vT c fl
def uh{i:Nat}{g:Fm}(e:fl[i]?=some g)(hg:Cano g):bF (ofW i) fl=g:=by
 have en:nthF fl (i:Int)=g:=by unfold nthF;rw[bB,cJ,e];rfl
 refine i8 (iY _ _) hg ?_ fun w=>?_
 .show 0+1*(nthF fl (i:Int)).1=_;rw[en];lia
 .show atW (wnF _ _).2 w=_;rw[kL (iU _ _),qT];unfold putAt ofW;simp only[aP,gc,bW,sum_nil];rw[en];lia
def bY(l:List SF):Prop:=∀ t∈l,∀ g∈t.2.2,Cano g
def pA{s:SF}(h:∀ g∈s.2.2,Cano g)(q:Int):Cano (gtF s q):=by
 unfold gtF;rw[cJ];cases e:s.2.2[q.toNat]? with
 | none=>exact jw
 | some g=>exact h g (aF e)
def fV{a b:List SF}(h1:bY a)(h2:bY b):bY (a++b):=fun t ht=>by
 rcases aR.mp ht with h|h
 .exact h1 t h
 .exact h2 t h
def fH{s:SF}(h:∀ g∈s.2.2,Cano g):bY [s]:=fun t ht=>by rw[aK.mp ht];exact h
def jH{fr:List SF}{s:SF}{p:Int}{f:Fm}(h1:bY fr)(h2:∀ g∈s.2.2,Cano g)(hf:Cano f):bY (fF fr s p f):=fV h1 (fH fun g hg=>by
 rcases gk hg with h|rfl
 .exact h2 g h
 .exact hf)
def oW{fr:List SF}{s:SF}{t:Int}(h1:bY fr)(h2:∀ g∈s.2.2,Cano g):bY (cH fr s t):=fV h1 (fH h2)
def ZhT{l l':List SF}(h:bY l)(e:ce Q l=some l'):bY l':=by
 unfold ce at e;cases hl:l.getLast? with
 | none=>rw[hl] at e;cases e
 | some s =>
  rw[hl] at e;dsimp only at e;obtain⟨fr,rfl⟩:=gJ.mp hl;rw[gq] at e;have h1:bY fr:=fun t ht=>h t (by simp[ht]);have h2:∀ g∈s.2.2,Cano g:=h s (by simp);unfold cP at e;cases hr:cf Q s.1 s.2.1 with
  | none=>rw[hr] at e;cases e
  | some r =>
   rw[hr] at e;cases r with
   | put p m=>cases e;exact jH h1 h2 jw
   | copy p q=>cases e;exact jH h1 h2 (pA h2 _)
   | plus p q r=>cases e;exact jH h1 h2 (iw _ _ _)
   | less p q r=>cases e;exact jH h1 h2 (iw _ _ _)
   | times p q m=>cases e;exact jH h1 h2 (wm _ _)
   | take p=>cases e
   | tell p=>cases e
   | jump t=>cases e;exact oW h1 h2
   | zero p t =>
    dsimp only [bR] at e;split at e
    .cases e;exact oW h1 h2
    .cases e
   | below p t =>
    dsimp only [bR] at e;split at e
    .cases e;exact oW h1 h2
    .cases e
   | call p g qs =>
    dsimp only [bR] at e;split at e
    .cases e;refine fV h1 (fV (a:=[s]) (fH h2) (fH fun f hf=>?_));unfold eL at hf;rcases aR.mp hf with hf|hf
     .obtain ⟨q,_,rfl⟩:=aU.mp hf;exact pA h2 _
     .rw[rB hf];exact jw
    .cases e
   | back p =>
    dsimp only [bR] at e;cases hc:fr.getLast? with
    | none=>rw[hc] at e;cases e
    | some c =>
     rw[hc] at e;cases e;obtain⟨ys,rfl⟩:=gJ.mp hc;rw[gq];exact jH (fun t ht=>h1 t (by simp[ht])) (h1 c (by simp)) (pA h2 _)
def cz(Q:List Df):Nat->List SF->Option (List SF)
 | 0,l=>some l
 | n+1,l=>(ce Q l).bind (cz Q n)
end L2
end
section
namespace L2
open PySem
def lputF(f:Fm)(fl:List Fm):Fm:=f.2.foldl (fun a p=>cb a (nthF fl p.2) p.1) (f.1,[])
def mW(f g:Fm)(n w:Int):atW (cb f g n).2 w=atW f.2 w+atW g.2 w*n:=by
 show atW (wnF _ _).2 w=_;have hn:((bu (bu [] f.2 1) g.2 n).map (·.1)).Nodup:=fR _ _ (fR _ _ fL);rw[kL hn,ic,ic];show (0:Int)+_*1+_=_;lia
theorem vI(fl : List Fm) : ∀ (ps : List (Int×Int)) (a : Fm), Cano a->Cano (ps.foldl (fun a p=>cb a (nthF fl p.2) p.1) a)/\(ps.foldl (fun a p=>cb a (nthF fl p.2) p.1) a).1=putC a.1 ps fl/\∀ w, atW (ps.foldl (fun a p=>cb a (nthF fl p.2) p.1) a).2 w=atW a.2 w+putAt ps fl w
  | [], a, h=>⟨h, rfl, fun w=>by show _=_+(0 : Int); rw[Int.add_zero]; rfl⟩
  | p :: ps, a, h => by
    obtain⟨h1,h2,h3⟩:=vI fl ps (cb a (nthF fl p.2) p.1) (iw _ _ _);refine⟨h1,h2,fun w=>?_⟩;show atW (ps.foldl _ (cb a (nthF fl p.2) p.1)).2 w=_;rw[h3,mW];unfold putAt;rw[aP,bW];lia
def u7(f:Fm)(fl:List Fm):lputF f fl=bF f fl:=by
 obtain⟨h1,h2,h3⟩:=vI fl f.2 (f.1,[]) jw;refine i8 h1 (iY _ _) h2 fun w=>?_;have h4:=h3 w;have e:atW (bF f fl).2 w=putAt f.2 fl w:=by
  show atW (wnF _ _).2 w=_;rw[kL (iU _ _),qT]
 rw[e];refine h4.trans ?_;show (0:Int)+_=_;lia
def Zqj{f:Fm}(h:Cano f):cb (0,[]) f 1=f:=i8 (iw _ _ _) h (by show 0+1*f.1=f.1;lia) fun w=>by rw[mW];show (0:Int)+_=_;lia
def ZmP(f:Fm)(n:Int):cb (0,[]) f n=im f n:=by
 refine i8 (iw _ _ _) (wm _ _) (by show 0+n*f.1=f.1*n;rw[kf];lia) fun w=>?_;have hn:((bu [] f.2 n).map (·.1)).Nodup:=fR _ _ fL;have e:atW (im f n).2 w=atW f.2 w*n:=by
  show atW (wnF _ _).2 w=_;rw[kL hn,ic];show (0:Int)+_=_;lia
 rw[mW,e];show (0:Int)+_=_;lia
theorem qu{fl : List Fm}{m B C : Nat}(hg : ∀ g∈fl, Fo m C g) : ∀ (ps : List (Int×Int)) (a : Fm) (A : Nat), (∀ p∈ps, p.1.natAbs<=B/\0<=p.2/\p.2<fl.length)->Fo m A a->Fo m (A+ps.length*(B*C)) (ps.foldl (fun a p=>cb a (nthF fl p.2) p.1) a)
  | [], a, A, _, h=>by rw[iI, Nat.zero_mul]; exact h
  | p :: ps, a, A, hp, h => by
    obtain⟨b1,b2,b3⟩:=hp p aQ;have e : fl[p.2.toNat]?=some (nthF fl p.2):=by
      unfold nthF;rw[cJ,aC (by lia)];rfl
    have hj:=ng (m:=p.1) h (hg _ (aF e));have hj2:Fo m (A+B*C) (cb a (nthF fl p.2) p.1):=hj.le (aE _) (nP (gn _ b1) _);have:=qu hg ps _ _ (fun q hq=>hp q (bD _ hq)) hj2;refine this.le (aE _) ?_;rw[cD,Nat.add_mul];lia
end L2
end
section
namespace L2
open PySem PySem.Spec PyProof.Rows
def wp{P:Program}{w:World}{K:W.Frag}{G:GH}{x y:T}{ts us:List T}{k:T->GH->Prop}(s:SqI G x ts)(s2:SqI G y us)(hz:ts.length+us.length<=1000000)(h:∀ a,G a=none->k (.ptr a) (gput G a (.lst (ts++us)))):L2r P w K rCat x y G k:=fun H u v g r1 r2 Q z=>by
 obtain⟨a,vs,rfl,q,e⟩:=fi g s r1;obtain⟨b,ws,rfl,q2,e2⟩:=fi g s2 r2;refine xA e e2 (jz (by rw[<-q.length,<- q2.length];exact hz)) fun p hp=>?_;obtain⟨g2,s3⟩:=g.putL (.inr hp) (q.app q2);exact z _ _ _ _ s3 g2 .ptr (h p (g.free hp))
def tF{P:Program}{w:World}{K:W.Frag}{G:GH}{k:T->GH->Prop}{tt:TT} (h:Wi P w K wi Γ G fun xs kp G1=>xs.length<=100000/\∃ I:Nat->List T->Ev->GH->Prop,I 0 [] (bkE LN.length fr Γ) G1/\(∀ i acc Γ' G',I i acc Γ' G'->kp G') /\
   (∀ (i:Nat) x acc Γ' G',xs[i]?=some x->I i acc Γ' G'->Wg P w K g x Γ' G' fun Γ2 G2=>Wt P w K tt Γ2 G2 fun b G3=>if b=true then We P w K te Γ2 G3 (fun d G4=>I (i+1) (acc++[d]) Γ2 G4) else I (i+1) acc Γ2 G3) /\
   ∀ acc Γ' G',I xs.length acc Γ' G'->∀ a,G' a=none->k (.ptr a) (gput G' a (.lst acc))):We P w K (gC LN fr wi g tt te) Γ G k:=fun H Z g ev Q z =>
 h H Z g ev _ fun J H1 xs kp G1 s1 g1 it z0_=>by
  obtain⟨hz,I,i0,hk,hs,hd⟩:=z0_;refine nv xs.length (jz (by lia)) (fun i ys Z H=>∃ acc Γ' G',Stp G1 H1 G' H/\GOk P w K G' H/\EnvOk K G' H Z Γ'/\RepTs K G' H acc ys/\I i acc Γ' G') ⟨[],_,G1,.refl,g1,oM (ev.mono g s1),.nil,i0⟩ ?_ ?_ ?_ ?_
  .rintro i ys Z H hi ⟨acc,Γ',G',s2,g2,e2,r2,p⟩;exact((it G' H s2 g2 (hk _ _ _ _ p)).1 i xs[i] (aC hi)).1
  .rintro ys Z H ⟨acc,Γ',G',s2,g2,e2,r2,p⟩;exact(it G' H s2 g2 (hk _ _ _ _ p)).2
  .rintro i x ys Z H H' hi hy hy2 ⟨acc,Γ',G',s2,g2,e2,r2,p⟩ y;obtain ⟨sm,rx⟩:=((it G' H s2 g2 (hk _ _ _ _ p)).1 i xs[i] (aC hi)).2 x H' y;refine hs i _ acc Γ' G' (aC hi) p H' Z x (g2.same sm) (e2.mono g2 (.same sm)) rx _ fun σ3 H3 Γ3 G3 s3 g3 e3 q3=>q3 H3 σ3 g3 e3 _ fun b H4 G4 s4 g4 q4=>?_;have r4:=r2.mono g2 ((Stp.same sm).trans (s3.trans s4));have st4:=s2.trans ((Stp.same sm).trans (s3.trans s4));cases b with
   | true =>
    refine iteT ((gy q4) H4 σ3 g4 (e3.mono g3 s4) _ fun v H5 d G5 s5 g5 r5 q5=>⟨hy2,by rw[aJ];simpa using hy,?_⟩);exact⟨acc++[d],Γ3,G5,st4.trans s5,g5,e3.mono g3 (s4.trans s5),(r4.mono g4 s5).app (.cons r5 .nil),q5⟩
   | false=>exact iteF ⟨by lia,acc,Γ3,G4,st4,g4,e3.mono g3 s4,r4,gx q4⟩
  .rintro ys Z H hl ⟨acc,Γ',G',s2,g2,e2,r2,p⟩ q hq;obtain⟨g3,s3⟩:=g2.putL (.inr hq) r2;exact z _ _ _ _ ((s1.trans s2).trans s3) g3 .ptr (hd acc Γ' G' p q (g2.free hq))
def ju{P:Program}{w:World}{K:W.Frag}{G:GH}{k:T->GH->Prop}(hj:0<j)(h:k (.int (i % j)) G):L2r P w K (rI (fun _ j=>0<j) fun i j=>V.int (i % j)) (.int i) (.int j) G k:=fun H u v g r1 r2 Q z=>by cases r1;cases r2;exact⟨i,j,rfl,rfl,hj,z.here g .int h⟩
structure FoB(n:Nat)(f:Fm):Prop where
 o:Fo n (10^900) f
 n:n<64
def kO{t:List (Int×Int)}(hn:n<64)(h1:(t.map (·.1)).Nodup)(h2:∀ x∈t.map Prod.fst,0<=x/\x<n):t.length<64:=by
 have:=mn (n:=n) _ h1 h2;rw[af] at this;lia
def l9{x:Nat}(h:x<=10^900):x<=10^1000:=bo h (iK (by decide) (by decide))
def hX(h:i.natAbs<=10^1000)(h2:j.natAbs<=10^1000):CBig i j:=⟨jk h (by decide +kernel),jk h2 (by decide +kernel)⟩
def wt_cut{P:Program}{w:World}{K:W.Frag}{c:TT}{G:GH}(X:Bool)(h:Wt P w K c Γ G fun b G'=>b=X/\G'=G)(q:kb X G):Wt P w K c Γ G kb:=fun H Z g ev Q z=>h H Z g ev Q fun b H' G' s g' ⟨e1,e2⟩=>z b H' G' s g' (by rw[e1,e2];exact q)
def Znu{α:Type}(l:List α)(x:α):(l++[x]).getLast?=some x:=by simp
def iT{s:SF}:ce Q (f++[s])=cP Q f s:=by unfold ce;rw[Znu,gq]
def gw(K:PgK Q){s:SF}(h:SfOk Q n B s):s.2.2.length<=8:=by
 obtain⟨d,r,hd,_,_,_,_,_,h5⟩:=eE h;have:=K.b d hd;lia
def Sub(G0 G:GH):Prop:=∀ b,G0 b=G b\/(G0 b=none/\∃ ts,G b=some (.lst ts))
def Sub.gok{G:GH}(s:Sub G0 G){P:Program}{w:World}{K:W.Frag}(g:GOk P w K G H):GOk P w K G0 H/\Kp G H G0 H:=by
 have n0:∀ b,G b=none->G0 b=none:=fun b e=>by
  rcases s b with h|⟨h,_⟩
  .rw[h];exact e
  .exact h
 have kk:Kp G H G0 H:=⟨fun _ _ h=>h,fun c xs n h=>⟨h,n0 c n⟩⟩;refine⟨fun b c e=>?_,kk⟩;have e':G b=some c:=by
  rcases s b with h|⟨h,_⟩
  .rw[<-h];exact e
  .rw[h] at e;cases e
 refine(g b c e').kp kk (fun _ h=>h) (fun l _=>⟨fun _ h=>h,n0 l⟩) fun C dx fs z q=>?_;rcases s dx with h|⟨h,ts,h2⟩
 .rw[h];exact q
 .rw[q] at h2;cases h2
section
variable{G:GH}{k:T->GH->Prop}{kn:Ev->GH->Prop}{d:T}
def Sub.none(s:Sub G0 G){c:Addr}(e:G c=none):G0 c=none:=by
 rcases s c with h|⟨h,_⟩
 .rw[h];exact e
 .exact h
def jb(s:Sub G0 G)(h:Cl k d G0):Cl k d G:=by
 obtain⟨d',G',h1,h2,h3⟩:=h;exact⟨d',G',fun c q=>h1 c (s.none q),fun P w K H v g r=>let ⟨g2,k2⟩:=s.gok g;h2 P w K H v g2 (r.kp k2),h3⟩
end
abbrev FrA(α:Type):=Int×Int×List α
structure FrI{α:Type}(φ:α->T)(G0 G:GH)(xs ys:List Addr)(l:List (FrA α)):Prop where
 lx:xs.length=l.length
 ly:ys.length=l.length
 x:∀ (i:Nat) a b s,xs[i]?=some a->ys[i]?=some b->l[i]?=some s->G a=some (.lst [.int s.1,.int s.2.1,.ptr b])/\G b=some (.lst (s.2.2.map φ))
 nd:(xs++ys).Nodup
 old:∀ b,b∉xs++ys->G b=G0 b
 new:∀ b∈xs++ys,G0 b=none
section
variable{α:Type}{φ:α->T}{G:GH}{xs ys gs:List Addr}{l:List (FrA α)}{fl:Addr}
def gD{l:List Addr}{i:Nat}(h:l[i]?=some a):a∈l:=aF h
def FrI.nil:FrI φ G0 G0 [] [] []:=⟨rfl,rfl,(fun i a b s h=>(by cases h)),fL,fun _ _=>rfl,(fun b hb=>(by cases hb))⟩
def FrI.has(h:FrI φ G0 G xs ys l){b:Addr}(hb:b∈xs++ys):∃ ts,G b=some (.lst ts):=by
 have h1:=h.lx;have h2:=h.ly;rcases aR.mp hb with hb|hb
 .obtain ⟨i,hi⟩:=gr.mp hb;have:=(aT.mp hi).1;exact⟨_,(h.x i b _ _ hi (aC (by lia)) (aC (by lia))).1⟩
 .obtain ⟨i,hi⟩:=gr.mp hb;have:=(aT.mp hi).1;exact⟨_,(h.x i _ b _ (aC (by lia)) hi (aC (by lia))).2⟩
def FrI.not(h:FrI φ G0 G xs ys l)(n:G a=none):a∉xs++ys:=fun hb=>by
 obtain⟨ts,e⟩:=h.has hb;rw[n] at e;cases e
def dN{α:Type}{l:List α}{x y:α}{i:Nat}(h:(l++[x])[i]?=some y):(i<l.length/\l[i]?=some y)\/(i=l.length/\y=x):=by
 by_cases hi:i<l.length
 .rw[cg hi] at h;exact .inl ⟨hi,h⟩
 .have hl:=(aT.mp h).1;rw[aJ] at hl;have e:i=l.length:=by simp at hl;lia
  subst e;rw[cE] at h;cases h;exact .inr ⟨rfl,rfl⟩
def FrI.snoc(h:FrI φ G0 G xs ys l){x y:Addr}{s:FrA α}(ny:G y=none)(nx:G x=none)(hxy:x≠y):FrI φ G0 (gput (gput G y (.lst (s.2.2.map φ))) x (.lst [.int s.1,.int s.2.1,.ptr y])) (xs++[x]) (ys++[y]) (l++[s]):=by
 have y1:=h.not ny;have x1:=h.not nx;have key:∀ b,b∈xs++ys->gput (gput G y (.lst (s.2.2.map φ))) x (.lst [.int s.1,.int s.2.1,.ptr y]) b=G b:=fun b hb=>by rw[gp_n (fun e=>x1 (by rw[<-e];exact hb)),gp_n (fun e=>y1 (by rw[<-e];exact hb))]
 have h1:=h.lx;have h2:=h.ly;refine⟨by simp[h1],by simp[h2],fun i a b s' ea eb es=>?_,?_,fun b hb=>?_,fun b hb=>?_⟩
 .rcases dN ea with ⟨i1,ea⟩|⟨i1,rfl⟩
  .rcases dN eb with ⟨_,eb⟩|⟨i2,_⟩
   .rcases dN es with ⟨_,es⟩|⟨i3,_⟩
    .rw[key a (dQ _ (gD ea)),key b (eI _ (gD eb))];exact h.x i a b s' ea eb es
    .lia
   .lia
  .rcases dN eb with ⟨i2,eb⟩|⟨_,rfl⟩
   .lia
   .rcases dN es with ⟨i3,es⟩|⟨_,rfl⟩
    .lia
    .exact ⟨gp_s,by rw[gp_n (fun e=>hxy e.symm)];exact gp_s⟩
 .have nd:=fq.mp h.nd;simp only[aR,ci] at x1 y1;rw[fq];refine ⟨?_,?_,fun a ha b hb e=>?_⟩
  .rw[fq];exact⟨nd.1,by simp,fun a ha b hb e=>x1.1 (by rw[<-aK.mp hb,<- e];exact ha)⟩
  .rw[fq];exact⟨nd.2.1,by simp,fun a ha b hb e=>y1.2 (by rw[<-aK.mp hb,<- e];exact ha)⟩
  .subst e;rcases aR.mp ha with ha|ha
   .rcases aR.mp hb with hb|hb
    .exact nd.2.2 a ha a hb rfl
    .rw[aK.mp hb] at ha;exact y1.1 ha
   .rw[aK.mp ha] at hb;rcases aR.mp hb with hb|hb
    .exact x1.2 hb
    .exact hxy (aK.mp hb)
 .simp only[aR,aK,ci] at hb;rw[gp_n hb.1.2,gp_n hb.2.2];exact h.old b (by simp only[aR,ci];exact⟨hb.1.1,hb.2.1⟩)
 .have bx:∀ c,G c=none->c∉xs++ys->G0 c=none:=fun c e n=>by rw[<-h.old c n];exact e
  simp only[aR,aK] at hb;rcases hb with (hb|rfl)|(hb|rfl)
  .exact h.new b (dQ _ hb)
  .exact bx b nx x1
  .exact h.new b (eI _ hb)
  .exact bx b ny y1
structure FrSt{α:Type}(φ:α->T)(G0 G:GH)(fl:Addr)(xs ys gs:List Addr)(l:List (FrA α)):Prop where
 fr:G fl=some (.lst (xs.map T.ptr))
 lx:xs.length=l.length
 ly:ys.length=l.length
 x:∀ (i:Nat) a b s,xs[i]?=some a->ys[i]?=some b->l[i]?=some s->G a=some (.lst [.int s.1,.int s.2.1,.ptr b])/\G b=some (.lst (s.2.2.map φ))
 g:∀ b∈gs,∃ ts,G b=some (.lst ts)
 nd:(fl::(xs++ys)).Nodup
 old:∀ b,b∉fl::(xs++ys)->b∉gs->G b=G0 b
 new:∀ b,b∈fl::(xs++ys)\/b∈gs->G0 b=none
def FrI.fin(h:FrI φ G0 G xs ys l)(n:G fl=none):FrSt φ G0 (gput G fl (.lst (xs.map T.ptr))) fl xs ys [] l:=by
 have f1:=h.not n;have key:∀ b,b∈xs++ys->gput G fl (.lst (xs.map T.ptr)) b=G b:=fun b hb=>gp_n (fun e=>f1 (e▸hb));refine⟨gp_s,h.lx,h.ly,fun i a b s ea eb es=>?_,fun b hb=>(by cases hb),eh.mpr ⟨f1,h.nd⟩,fun b hb _=>?_,fun b hb=>?_⟩
 .rw[key a (dQ _ (gD ea)),key b (eI _ (gD eb))];exact h.x i a b s ea eb es
 .rw[aI,ci] at hb;rw[gp_n hb.1];exact h.old b hb.2
 .rcases hb with hb|hb
  .rcases aI.mp hb with rfl|hb
   .rw[<-h.old b f1];exact n
   .exact h.new b hb
  .cases hb
def FrSt.has(h:FrSt φ G0 G fl xs ys gs l){b:Addr}(hb:b∈fl::(xs++ys)\/b∈gs):∃ ts,G b=some (.lst ts):=by
 have h1:=h.lx;have h2:=h.ly;rcases hb with hb|hb
 .rcases aI.mp hb with rfl|hb
  .exact ⟨_,h.fr⟩
  .rcases aR.mp hb with hb|hb
   .obtain ⟨i,hi⟩:=gr.mp hb;have:=(aT.mp hi).1;exact⟨_,(h.x i b _ _ hi (aC (by lia)) (aC (by lia))).1⟩
   .obtain ⟨i,hi⟩:=gr.mp hb;have:=(aT.mp hi).1;exact⟨_,(h.x i _ b _ (aC (by lia)) hi (aC (by lia))).2⟩
 .exact h.g b hb
def FrSt.sub(h:FrSt φ G0 G fl xs ys gs l):Sub G0 G:=fun b=>by
 by_cases hb:b∈fl::(xs++ys)\/b∈gs
 .exact .inr ⟨h.new b hb,h.has hb⟩
 .rw[ci] at hb;exact .inl (h.old b hb.1 hb.2).symm
def FrSt.keep(h:FrSt φ G0 G fl xs ys gs l){b:Addr}{c:Ct}(e:G0 b=some c):G b=some c:=by
 by_cases hb:b∈fl::(xs++ys)\/b∈gs
 .rw[h.new b hb] at e;cases e
 .rw[ci] at hb;rw[h.old b hb.1 hb.2];exact e
def FrSt.sq(h:FrSt φ G0 G fl xs ys gs l){x:T}{ts:List T}(e:SqI G0 x ts):SqI G x ts:=e.imp id fun⟨a,h1,h2⟩=>⟨a,h1,h.keep h2⟩
def FrSt.last{s:FrA α}(h:FrSt φ G0 G fl xs ys gs (l++[s])):∃ xs' ys' a b,xs=xs'++[a]/\ys=ys'++[b]/\xs'.length=l.length/\ys'.length=l.length/\G a=some (.lst [.int s.1,.int s.2.1,.ptr b])/\G b=some (.lst (s.2.2.map φ)):=by
 have h1:=h.lx;have h2:=h.ly;rw[aJ,eA] at h1 h2;have n1:xs≠[]:=fun e=>by rw[e] at h1;simp at h1
 have n2:ys≠[]:=fun e=>by rw[e] at h2;simp at h2
 have e1:=(rD n1).symm;have e2:=(rD n2).symm;generalize xs.dropLast=xs' at e1;generalize xs.getLast n1=a at e1;generalize ys.dropLast=ys' at e2;generalize ys.getLast n2=b at e2;subst e1 e2;rw[aJ,eA] at h1 h2;have q1:xs'.length=l.length:=by lia
 have q2:ys'.length=l.length:=by lia
 obtain⟨z1,z2⟩:=h.x l.length a b s (by rw[<-q1];exact cE) (by rw[<-q2];exact cE) cE;exact⟨xs',ys',a,b,rfl,rfl,q1,q2,z1,z2⟩
def lX{xs ys:List Addr}{b:Addr}(nd:(fl::((xs++[a])++(ys++[b]))).Nodup):a≠b/\fl≠a/\fl≠b/\a∉xs/\a∉ys/\b∉xs/\b∉ys:=by
 simp only[eh,fq,aR,aK,ci] at nd;obtain⟨⟨⟨_,f1⟩,_,f2⟩,⟨⟨_,_,d1⟩,⟨_,_,d2⟩,d3⟩⟩:=nd;refine⟨fun e=>d3 a (.inr rfl) b (.inr rfl) e,f1,f2,fun h=>d1 a h a rfl rfl,fun h=>d3 a (.inr rfl) a (.inl h) rfl,fun h=>d3 b (.inl h) b (.inr rfl) rfl,fun h=>d2 b h b rfl rfl⟩
def FrSt.setLast{s s':FrA α}{b:Addr}(h:FrSt φ G0 G fl (xs++[a]) (ys++[b]) gs (l++[s]))(q1:xs.length=l.length)(q2:ys.length=l.length):FrSt φ G0 (gput (gput G b (.lst (s'.2.2.map φ))) a (.lst [.int s'.1,.int s'.2.1,.ptr b])) fl (xs++[a]) (ys++[b]) gs (l++[s']):=by
 obtain⟨d1,d2,d3,d4,d5,d6,d7⟩:=lX h.nd;have ks:∀ c,c≠a->c≠b->gput (gput G b (.lst (s'.2.2.map φ))) a (.lst [.int s'.1,.int s'.2.1,.ptr b]) c=G c:=fun c h1 h2=>by rw[gp_n h1,gp_n h2]
 refine⟨by rw[ks _ d2 d3];exact h.fr,by simp[q1],by simp[q2],fun i x y t ex ey et=>?_,fun c hc=>?_,h.nd,fun c hc hg=>?_,h.new⟩
 .rcases dN et with ⟨i1,et⟩|⟨i1,rfl⟩
  .rcases dN ex with ⟨_,ex⟩|⟨i2,_⟩
   .rcases dN ey with ⟨_,ey⟩|⟨i3,_⟩
    .have mx:=gD ex;have my:=gD ey;rw[ks x (fun e=>d4 (e▸mx)) (fun e=>d6 (e▸mx)),ks y (fun e=>d5 (e▸my)) (fun e=>d7 (e▸my))];exact h.x i x y t (by rw[cg (by lia)];exact ex) (by rw[cg (by lia)];exact ey) (by rw[cg i1];exact et)
    .lia
   .lia
  .rcases dN ex with ⟨i2,_⟩|⟨_,rfl⟩
   .lia
   .rcases dN ey with ⟨i3,_⟩|⟨_,rfl⟩
    .lia
    .exact ⟨gp_s,by rw[gp_n (fun e=>d1 e.symm)];exact gp_s⟩
 .by_cases ha:c=a
  .rw[ha];exact⟨_,gp_s⟩
  .by_cases hb:c=b
   .rw[hb,gp_n (fun e=>d1 e.symm)];exact⟨_,gp_s⟩
   .rw[ks c ha hb];exact h.g c hc
 .have ha:c≠a:=fun e=>hc (by rw[e];simp);have hb:c≠b:=fun e=>hc (by rw[e];simp);rw[ks c ha hb];exact h.old c hc hg
def FrSt.setAt{s:FrA α}{t:Int}{b:Addr}(h:FrSt φ G0 G fl (xs++[a]) (ys++[b]) gs (l++[s]))(q1:xs.length=l.length)(q2:ys.length=l.length):FrSt φ G0 (gput G a (.lst [.int s.1,.int t,.ptr b])) fl (xs++[a]) (ys++[b]) gs (l++[(s.1,t,s.2.2)]):=by
 have:=h.setLast (s':=(s.1,t,s.2.2)) q1 q2;have e:G b=some (.lst (s.2.2.map φ)):=(h.x l.length a b s (by rw[<-q1];exact cE) (by rw[<-q2];exact cE) cE).2;dsimp only at this
 rwa [gU e] at this
def FrSt.setBox{s:FrA α}{fm:List α}{b:Addr}(h:FrSt φ G0 G fl (xs++[a]) (ys++[b]) gs (l++[s]))(q1:xs.length=l.length)(q2:ys.length=l.length):FrSt φ G0 (gput G b (.lst (fm.map φ))) fl (xs++[a]) (ys++[b]) gs (l++[(s.1,s.2.1,fm)]):=by
 have:=h.setLast (s':=(s.1,s.2.1,fm)) q1 q2;obtain⟨d1,_⟩:=lX h.nd;have e:G a=some (.lst [.int s.1,.int s.2.1,.ptr b]):=(h.x l.length a b s (by rw[<-q1];exact cE) (by rw[<-q2];exact cE) cE).1;dsimp only at this;rw[gp_c (fun e=>d1 e.symm),gU e] at this;exact this
def FrSt.push{s:FrA α}{b:Addr}(h:FrSt φ G0 G fl xs ys gs l)(nb:G b=none)(na:G a=none)(hab:a≠b):FrSt φ G0 (gput (gput (gput G b (.lst (s.2.2.map φ))) a (.lst [.int s.1,.int s.2.1,.ptr b])) fl (.lst (xs.map T.ptr++[.ptr a]))) fl (xs++[a]) (ys++[b]) gs (l++[s]):=by
 have nn:∀ c,G c=none->¬ (c∈fl::(xs++ys)\/c∈gs):=fun c e hm=>by
  obtain⟨ts,z⟩:=h.has hm;rw[e] at z;cases z
 have na':=nn a na;have nb':=nn b nb;simp only[aI,aR,ci] at na' nb';obtain⟨⟨fa,xa,ya⟩,ga⟩:=na';obtain⟨⟨fb,xb,yb⟩,gb⟩:=nb';have nd:=eh.mp h.nd;have ndx:=fq.mp nd.2;have hf:=nd.1;simp only[aR,ci] at hf;have ks:∀ c,c≠fl->c≠a->c≠b->gput (gput (gput G b (.lst (s.2.2.map φ))) a (.lst [.int s.1,.int s.2.1,.ptr b])) fl (.lst (xs.map T.ptr++[.ptr a])) c=G c:=fun c h0 h1 h2=>by rw[gp_n h0,gp_n h1,gp_n h2]
 have h1:=h.lx;have h2:=h.ly;refine⟨by rw[gp_s,aY];rfl,by simp[h1],by simp[h2],fun i x y t ex ey et=>?_,fun c hc=>?_,?_,fun c hc hg=>?_,fun c hc=>?_⟩
 .rcases dN et with ⟨i1,et⟩|⟨i1,rfl⟩
  .rcases dN ex with ⟨_,ex⟩|⟨i2,_⟩
   .rcases dN ey with ⟨_,ey⟩|⟨i3,_⟩
    .have mx:=gD ex;have my:=gD ey;rw[ks x (fun e=>hf.1 (e▸mx)) (fun e=>xa (e▸mx)) (fun e=>xb (e▸mx)),ks y (fun e=>hf.2 (e▸my)) (fun e=>ya (e▸my)) (fun e=>yb (e▸my))];exact h.x i x y t ex ey et
    .lia
   .lia
  .rcases dN ex with ⟨i2,_⟩|⟨_,rfl⟩
   .lia
   .rcases dN ey with ⟨i3,_⟩|⟨_,rfl⟩
    .lia
    .exact ⟨by rw[gp_n fa];exact gp_s,by rw[gp_n fb,gp_n (fun e=>hab e.symm)];exact gp_s⟩
 .by_cases hcf:c=fl
  .rw[hcf];exact⟨_,gp_s⟩
  .rw[ks c hcf (fun e=>ga (e▸hc)) (fun e=>gb (e▸hc))];exact h.g c hc
 .rw[eh];refine ⟨?_,?_⟩
  .simp only[aR,aK,ci];exact⟨⟨hf.1,fun e=>fa e.symm⟩,hf.2,fun e=>fb e.symm⟩
  .rw[fq,fq,fq];refine ⟨⟨ndx.1,by simp,fun c hc d hd e=>xa (by rw[<-aK.mp hd,<- e];exact hc)⟩,⟨ndx.2.1,by simp,fun c hc d hd e=>yb (by rw[<-aK.mp hd,<- e];exact hc)⟩,fun c hc d hd e=>?_⟩;subst e;rcases aR.mp hc with hc|hc
   .rcases aR.mp hd with hd|hd
    .exact ndx.2.2 c hc c hd rfl
    .rw[aK.mp hd] at hc;exact xb hc
   .rw[aK.mp hc] at hd;rcases aR.mp hd with hd|hd
    .exact ya hd
    .exact hab (aK.mp hd)
 .simp only[aI,aR,cw,dh,ci] at hc;rw[ks c hc.1 hc.2.1.2 hc.2.2.2];exact h.old c (by simp only[aI,aR,ci];exact⟨hc.1,hc.2.1.1,hc.2.2.1⟩) hg
 .have bx:∀ c,G c=none->G0 c=none:=fun c e=>by
   have z:=nn c e;rw[ci] at z;rw[<-h.old c z.1 z.2];exact e
  rcases hc with hc|hc
  .simp only[aI,aR,cw,dh] at hc;rcases hc with rfl|(hc|rfl)|(hc|rfl)
   .exact h.new c (.inl aQ)
   .exact h.new c (.inl (bD _ (dQ _ hc)))
   .exact bx c na
   .exact h.new c (.inl (bD _ (eI _ hc)))
   .exact bx c nb
  .exact h.new c (.inr hc)
def FrSt.pop{s:FrA α}{b:Addr}(h:FrSt φ G0 G fl (xs++[a]) (ys++[b]) gs (l++[s]))(q1:xs.length=l.length)(q2:ys.length=l.length):FrSt φ G0 (gput G fl (.lst (xs.map T.ptr))) fl xs ys (a::b::gs) l:=by
 obtain⟨d1,d2,d3,d4,d5,d6,d7⟩:=lX h.nd;have nd:=eh.mp h.nd;have ndx:=fq.mp nd.2;have hf:=nd.1;simp only[aR,aK,ci] at hf;have nx:=fq.mp ndx.1;have ny:=fq.mp ndx.2.1;refine⟨gp_s,q1,q2,fun i x y t ex ey et=>?_,fun c hc=>?_,?_,fun c hc hg=>?_,fun c hc=>?_⟩
 .have mx:=gD ex;have my:=gD ey;have li:=(aT.mp et).1;rw[gp_n (fun e=>hf.1.1 (by rw[<-e];exact mx)),gp_n (fun e=>hf.2.1 (by rw[<-e];exact my))];exact h.x i x y t (by rw[cg (by lia)];exact ex) (by rw[cg (by lia)];exact ey) (by rw[cg li];exact et)
 .by_cases hcf:c=fl
  .rw[hcf];exact⟨_,gp_s⟩
  .rw[gp_n hcf];rcases aI.mp hc with rfl|hc
   .exact h.has (.inl (by simp))
   .rcases aI.mp hc with rfl|hc
    .exact h.has (.inl (by simp))
    .exact h.g c hc
 .rw[eh,fq];refine⟨by simp only[aR,ci];exact⟨hf.1.1,hf.2.1⟩,nx.1,ny.1,fun c hc d hd e=>ndx.2.2 c (dQ _ hc) d (dQ _ hd) e⟩
 .simp only[aI,aR,ci] at hc hg;rw[gp_n hc.1];exact h.old c (by simp only[aI,aR,cw,dh,ci];exact⟨hc.1,⟨hc.2.1,hg.1⟩,hc.2.2,hg.2.1⟩) hg.2.2
 .rcases hc with hc|hc
  .refine h.new c (.inl ?_);simp only[aI,aR] at hc ⊢;rcases hc with hc|hc|hc
   .exact .inl hc
   .exact .inr (.inl (.inl hc))
   .exact .inr (.inr (.inl hc))
  .rcases aI.mp hc with rfl|hc
   .exact h.new c (.inl (by simp))
   .rcases aI.mp hc with rfl|hc
    .exact h.new c (.inl (by simp))
    .exact h.new c (.inr hc)
end
section
variable{P:Program}{w:World}{K:W.Frag}{G:GH}{k:T->GH->Prop}{kn:Ev->GH->Prop}{ts:List T}{gs:TGs}{y:T}
def wF(e:G a=some (.lst ts))(hl:ts.length=n)(h:Wgs P w K gs ts Γ G kn):Wg P w K (gLst K n gs) (.ptr a) Γ G kn:=fun H Z v g ev r R z=>by
 cases r;obtain⟨xs,h1,rs⟩:=g a _ e;exact⟨_,_,rfl,SqL.of h1,by rw[<-rs.length];exact hl,h H Z _ g ev rs R z⟩
def RepTs.dropLast{H:Hp}{ts:List T}{xs:List V}(r:RepTs K G H ts xs):RepTs K G H ts.dropLast xs.dropLast:=by
 rw[dropLast_eq_take,dropLast_eq_take,r.length];exact r.take _
def l_pop(e:G a=some (.lst (ts++[y])))(h:k y (gput G a (.lst ts))):LBr P w K rPop (.ptr a) [] G k:=fun H u vs g r1 r2 Q z=>by
 cases r1;cases r2;obtain⟨xs,h1,rs⟩:=g a _ e;have hl:=rs.length;rw[aJ,eA] at hl;obtain⟨v,ev,rv⟩:=rs.get (i:=ts.length) cE;have rd:=rs.dropLast;rw[gq] at rd;obtain⟨g2,s2⟩:=g.putL (.inl ⟨_,e⟩) rd;refine⟨a,xs,v,rfl,rfl,h1,by rw[<-hl,rE];exact ev,z _ _ _ _ s2 g2 (rv.mono g s2) h⟩
end
end L2
namespace L2
open PySem
section
variable{G:GH}{xs ys gs:List Addr}{l:List SF}{fl b:Addr}
def tE{c:Ct}{x y:Addr}(h:gput G y c x=none):G x=none/\x≠y:=by
 have n:x≠y:=fun e=>by rw[e,gp_s] at h;cases h
 rw[gp_n n] at h;exact⟨h,n⟩
def FrI.sq{α:Type}{φ:α->T}{l:List (FrA α)}(h:FrI φ G0 G xs ys l){x:T}{ts:List T}(e:SqI G0 x ts):SqI G x ts:=e.imp id fun⟨a,h1,h2⟩=>⟨a,h1,by
 by_cases hb:a∈xs++ys
 .rw[h.new a hb] at h2;cases h2
 .rw[h.old a hb];exact h2⟩
def optT:Option (List SF)->T
 | none=>.non
 | some l=>.lst (l.map sfT)
def Zqf(ps:List (Int×Int)):eqD (.tup (ps.map pairD)) (.tup [])=decide (ps=[]):=by
 cases ps with
 | nil=>exact eqD_same.trans (by simp)
 | cons p ps=>exact(dZ (fun z=>by injection z with z;cases z)).trans (by simp)
end
end L2
namespace L2
open PySem
def qz{P:Program}{w:World}{K:W.Frag}{G:GH}{k:T->GH->Prop}{ps:List (Int×Int)}(h:k (.bl (decide (ps=[]))) G):L2r P w K rEqD (.tup (ps.map prT)) (.tup []) G k:=by
 obtain⟨h1,h2⟩:=rV ps;have:=l_eqD (P:=P) (w:=w) (K:=K) (G:=G) (k:=k) (ds:=ps.map pairD) (es:=[]) h1 rfl (by lia) (by rw[Zqf];exact h);rw[tQ] at this;exact this
end L2
end
section
namespace L2
open PySem
def Chn(Q:List Df)(ps:List (Int×Int)):Prop:=∀ (i:Nat) a b,ps[i]?=some a->ps[i+1]?=some b->∃ p qs,cf Q a.1 a.2=some (.call p b.1 qs)
def vG{x:Int×Int}:Chn Q [x]:=fun i a b h h2=>by cases h2
def chn_snoc{ps:List (Int×Int)}{x:Int×Int}:Chn Q (ps++[x])↔Chn Q ps/\∀ a,ps.getLast?=some a->∃ p qs,cf Q a.1 a.2=some (.call p x.1 qs):=by
 refine⟨fun h=>⟨fun i a b h1 h2=>?_,fun a ha=>?_⟩,fun⟨h,hx⟩ i a b h1 h2=>?_⟩
 .have l2:=(aT.mp h2).1;exact h i a b (by rw[cg (by lia)];exact h1) (by rw[cg l2];exact h2)
 .obtain ⟨ys,rfl⟩:=gJ.mp ha;refine h ys.length a x ?_ ?_
  .rw[cv,fK (aE _),lP];rfl
  .rw[cv,fK (nR _)];simp
 .by_cases l2:i+1 < ps.length
  .exact h i a b (by rw[cg (by lia)] at h1;exact h1) (by rw[cg l2] at h2;exact h2)
  .have hlt:=(aT.mp h2).1;rw[aJ] at hlt;have e:i+1=ps.length:=by simp at hlt;lia
   rw[e,cE] at h2;cases h2;refine hx a ?_;rw[cg (by lia)] at h1;rw[getLast?_eq_getElem?,<- e,rE];exact h1
def mD(a b:List SF):plcF (a++b)=plcF a++plcF b:=aY
def ir{fr:List SF}{s s':SF}(h:Chn Q (plcF (fr++[s])))(e:s'.1=s.1):Chn Q (plcF (fr++[s'])):=by
 rw[mD] at h ⊢;obtain⟨h1,h2⟩:=chn_snoc.mp h;exact chn_snoc.mpr ⟨h1,fun a ha=>by
  obtain⟨p,qs,e2⟩:=h2 a ha;exact⟨p,qs,by rw[e2];show _=some (Rw.call p s'.1 qs);rw[e]⟩⟩
def ZjN{l l':List SF}(h:Chn Q (plcF l))(e:ce Q l=some l'):Chn Q (plcF l'):=by
 unfold ce at e;cases hl:l.getLast? with
 | none=>rw[hl] at e;cases e
 | some s =>
  rw[hl] at e;dsimp only at e;obtain⟨fr,rfl⟩:=gJ.mp hl;rw[gq] at e;have at':∀ {s':SF},s'.1=s.1->Chn Q (plcF (fr++[s'])):=fun {s'} e=>ir h e;unfold cP at e;cases hr:cf Q s.1 s.2.1 with
  | none=>rw[hr] at e;cases e
  | some r =>
   rw[hr] at e;cases r with
   | put p m=>cases e;exact at' rfl
   | copy p q=>cases e;exact at' rfl
   | plus p q r=>cases e;exact at' rfl
   | less p q r=>cases e;exact at' rfl
   | times p q m=>cases e;exact at' rfl
   | take p=>cases e
   | tell p=>cases e
   | jump t=>cases e;exact at' rfl
   | zero p t =>
    dsimp only [bR] at e;split at e
    .cases e;exact at' rfl
    .cases e
   | below p t =>
    dsimp only [bR] at e;split at e
    .cases e;exact at' rfl
    .cases e
   | call p g qs =>
    dsimp only [bR] at e;split at e
    .cases e;have e2:fr++[s,eL Q s g qs]=(fr++[s])++[eL Q s g qs]:=by simp
     rw[e2,mD];refine chn_snoc.mpr ⟨h,fun a ha=>?_⟩;rw[mD] at ha;have:a=(s.1,s.2.1):=by
      have:(plcF fr++plcF [s]).getLast?=some (s.1,s.2.1):=getLast?_concat;rw[this] at ha;cases ha;rfl
     rw[this];exact⟨p,qs,hr⟩
    .cases e
   | back p =>
    dsimp only [bR] at e;cases hc:fr.getLast? with
    | none=>rw[hc] at e;cases e
    | some c =>
     rw[hc] at e;cases e;obtain⟨ys,rfl⟩:=gJ.mp hc;rw[gq];rw[mD] at h;exact ir (chn_snoc.mp h).1 rfl
theorem vH{Q : List Df} : ∀ {n : Nat} {l l' : List SF}, Chn Q (plcF l)->cz Q n l=some l'->Chn Q (plcF l')
  | 0, l, l', h, e=>by cases e; exact h
  | n + 1, l, l', h, e => by
    rw[cz] at e;obtain⟨l1,e1,e2⟩:=xX.mp e;exact vH (ZjN h e1) e2
def Znl(fl:List Fm)(l:List SF):plcF (l.map (bJ fl))=plcF l:=by unfold plcF;rw[fM];rfl
end L2
end
section
namespace L2
open PySem PySem.Spec PyProof.Rows
def fstV(xs:Array Value):Int:=numOf (xs.getD 0 .none)
def sndV(xs:Array Value):Int:=numOf (xs.getD 1 .none)
noncomputable def pOf(h : Heap) : Value->Int×Int
  | .ref a => match h.get? a with
    | some o => match o.data with
      | .seq xs _=>(fstV xs, sndV xs)
      | _=>(0, 0)
    | none=>(0, 0)
  | _=>(0, 0)
def IsP(h:Heap)(v:Value)(p:Int×Int):Prop:=∃ a o n t t',v=.ref a/\h.get? a=some o/\o.cls=.type "tuple"/\o.data=.seq #[.int p.1 t,.int p.2 t'] n
def IsP.at{h:Heap}{p:Int×Int}(i:IsP h v p):pOf h v=p:=by
 obtain⟨a,o,n,t,t',rfl,e1,e2,e3⟩:=i;simp only[pOf,e1,e3];rfl
def cd(M:Int)(p:Int×Int):Int:=p.1*M+p.2
def nF{M:Int}{p q:Int×Int}(hp:(2*p.2.natAbs:Int)<M)(hq:(2*q.2.natAbs:Int)<M):cd M p<cd M q↔p.1<q.1\/(p.1=q.1/\p.2<q.2):=by
 unfold cd;have key:∀ {x y:Int×Int},(2*x.2.natAbs:Int)<M->(2*y.2.natAbs:Int)<M->x.1<y.1->x.1*M+x.2<y.1*M+y.2:=by
  intro x y hx hy h;have h1:(x.1+1)*M<=y.1*M:=Int.mul_le_mul_of_nonneg_right (by lia) (by lia);rw[Int.add_mul,Int.one_mul] at h1;lia
 constructor
 .intro h;rcases Int.lt_trichotomy p.1 q.1 with e|e|e
  .exact .inl e
  .rw[e] at h;exact .inr ⟨e,by lia⟩
  .have:=key hq hp e;lia
 .rintro (h|⟨e,h⟩)
  .exact key hp hq h
  .rw[e];lia
abbrev itO(x:Value)(f:Bool)(d:Addr)(i n ep:Nat)(p q:Value):Obj:={ cls:=.type "dict_itemiterator",data:=.fields #[x,.bool f,.ref d,.int i 0,.int n 0,.int ep 0,p,q] }
abbrev tuO(p q:Value):Obj:={ cls:=.type "tuple",data:=.seq #[p,q] }
def DEs(h:Heap)(d:Addr)(es:Array DictEntry)(ep:Nat):Prop:=∃ o,h.get? d=some o/\o.data=.dict es ep
def ItS(h:Heap)(it d S:Addr)(i n ep:Nat):Prop:=∃ x f p q,h.get? it=some (itO x f d i n ep p q)/\(x=.none\/∃ a o,x=rawInt (a:Nat)/\h.get? a=some o/\a≠it/\a≠S)
section
variable{P:Program}{w:World}{s:Shared}
def sL{S:Addr}{i:Nat}{es:Array DictEntry}{Q:Option Value->Shared->Prop}(hh:A.handled=none)(st:ItS s.heap it d S i es.size ep)(hS:S<s.heap.objs.size)(hd:DEs s.heap d es ep)
  (h1:∀ e h',es[i]?=some e->ItS h' it d S (i+1) es.size ep->h'.get? s.heap.objs.size=some (tuO e.key e.val)->h'.objs.size=s.heap.objs.size+1->(∀ b o,b≠it->s.heap.get? b=some o->h'.get? b=some o)->Q (some (.ref s.heap.objs.size)) { s with heap:=h' })
  (h2:es[i]?=none->∀ h',Heap.ExtBut it s.heap h'->Q none { s with heap:=h' }):wpAny (model P w) A (pyNext (.ref it)) Q E s:=by
 obtain⟨hp,g,dr,tk,os⟩:=s;obtain⟨x,f,p,q,hit,hx⟩:=st;obtain⟨od,e1,e2⟩:=hd;have ty:Shared.TypeIs ⟨hp,g,dr,tk,os⟩ (.ref it) "dict_itemiterator":=⟨_,hit,rfl⟩;have own:Builtin.Dict_items.ownsTuple "dict_itemiterator"=true:=by decide
 have nn:¬ ((Value.ref d == Value.none)=true):=bL;unfold pyNext;refine ae (lQ (iD (name:=Str.ofString "__next__") ty F.slot_dict_itemiterator_next (eJ F.slot_dict_itemiterator_next ty F.entry_dict_itemiterator_next ?_ (F.args_dict_itemiterator_next_1 _))));refine ae (aq (ae (ae (ae (rF ty (aq (ae (wpAny_fieldsOf hit rfl ?_))))))));simp only[own,fZ];show wpAny _ _ (if (Value.ref d == Value.none)=true then _ else _) _ _ _;rw[ao nn];refine ae (aq (ae (oj e1 e2 ?_)));rw[ao (by simp)];refine ae (aq (ae (om e1 e2 ?_)));rw[ao (by simp)];refine aq ?_;have ni:¬ ((i:Int)<0):=by lia
 cases ei:es[i]? with
 | none =>
  simp only[ni,cI,bB,ei];refine ae (ae (rF ty (aq ?_)));show wpAny _ _ (setField (.ref it) 2 .none >>= _) _ _ _;refine ae (lJ hit rfl (by simp) ?_);show wpAny _ _ (newExc (.type "StopIteration") [] >>= _) _ _ _;simp only[newExc,newTuple];refine ae (ae (eK ?_ (by size_fits)));refine ae (m:=firstArgMember _ _) (wpAny_of_eq (a:=Value.none) (by first|rfl|(simp only[firstArgMember];rfl)) (eK ?_ (by size_fits)));simp only[raiseNew];refine ae (wpAny_handled ?_);rw[show A.in1.handled=none from hh];refine ae (aq (wpAny_throw ?_));refine ae (jp (T:="StopIteration") (b:=true) ⟨_,ca _ rfl,rfl⟩ isSubtype_stop ?_);exact aq (h2 ei _ (((Heap.SameBut.update ..).extBut.push _).push _))
 | some e =>
  simp only[ni,cI,bB,ei];refine ae (ae (rF ty (aq (ae (rG ty ?_)))));show wpAny _ _ (setField (.ref it) 3 (rawInt ((i:Int)+1)) >>= _) _ _ _;refine ae (fO hit (by simp) fun ha a1 a2=>?_);replace a2:Heap.SameBut it hp ha:=a2;replace a1:ha.get? it=some (itO x f d (i+1) es.size ep p q):=by
   have z:((i+1:Nat):Int)=(i:Int)+1:=by lia
   unfold itO;rw[z];simpa [rawInt] using a1
  have tya:Shared.TypeIs ⟨ha,g,dr,tk,os⟩ (.ref it) "dict_itemiterator":=⟨_,a1,rfl⟩;refine ae (eV (ae (rG tya (ae (rG tya ?_)))));show wpAny _ _ (Builtin.Dict_items.pairFromOwner (.ref it) 6 e.key e.val) _ _ ⟨ha,g,dr,tk,os⟩;unfold Builtin.Dict_items.pairFromOwner;refine ae (nS ?_);have az:ha.objs.size=hp.objs.size:=a2.1;have il:it<hp.objs.size:=bn hit;have il2:hp.objs.size≠it:=fk il;have kb:∀ b o,b≠it->hp.get? b=some o->(ha.push (tuO e.key e.val)).get? b=some o:=fun b o hb z=>br _ (a2.extBut b o hb z);have tb:(ha.push (tuO e.key e.val)).get? hp.objs.size=some (tuO e.key e.val):=by rw[<-az];exact ca _ rfl
  have sb:(ha.push (tuO e.key e.val)).objs.size=hp.objs.size+1:=by rw[gX,az]
  have ib:(ha.push (tuO e.key e.val)).get? it=some (itO x f d (i+1) es.size ep p q):=br _ a1;show wpAny _ _ (Builtin.Dict_items.ownedTupleIsFree (.ref it) >>= _) _ _ ⟨ha.push (tuO e.key e.val),g,dr,tk,os⟩;rw[az];generalize ha.push (tuO e.key e.val)=hb at kb tb sb ib;have fin:∀ hc x' f' p' q',hc.get? it=some (itO x' f' d (i+1) es.size ep p' q')->Heap.SameBut it hb hc->(x'=.none\/∃ a o,x'=rawInt (a:Nat)/\hc.get? a=some o/\a≠it/\a≠S)->Q (some (.ref hp.objs.size)) ⟨hc,g,dr,tk,os⟩:=fun hc x' f' p' q' c1 c2 c3 =>
   h1 e hc ei ⟨x',f',p',q',c1,c3⟩ (c2.extBut _ _ il2 tb) (c2.1.trans sb) fun b o hb z=>c2.extBut b o hb (kb b o hb z)
  refine ae ?_;unfold Builtin.Dict_items.ownedTupleIsFree;rcases hx with rfl|⟨a,oa,rfl,ga,n1,n2⟩
  .refine ae (cY ib rfl (x:=.none) rfl (aq ?_));simp only[fZ];refine ae (cY ib rfl (x:=p) rfl (ae (cY ib rfl (x:=q) rfl (ae (fO ib (by simp) fun hc c1 c2=>?_)))));replace c1:hc.get? it=some (itO .none f d (i+1) es.size ep e.key q):=c1;replace c2:Heap.SameBut it hb hc:=c2;refine ae (fO c1 (by simp) fun hd d1 d2=>?_);replace d1:hd.get? it=some (itO .none f d (i+1) es.size ep e.key e.val):=d1;replace d2:Heap.SameBut it hc hd:=d2;refine ae (fO d1 (by simp) fun he e1 e2=>?_);replace e1:he.get? it=some (itO (rawInt hp.objs.size) f d (i+1) es.size ep e.key e.val):=e1;replace e2:Heap.SameBut it hd he:=e2;refine ae (fO e1 (by simp) fun hf f1 f2=>?_);replace f1:hf.get? it=some (itO (rawInt hp.objs.size) false d (i+1) es.size ep e.key e.val):=f1;replace f2:Heap.SameBut it he hf:=f2;have sm:Heap.SameBut it hb hf:=⟨by rw[f2.1,e2.1,d2.1,c2.1],fun b z=>by rw[f2.2 b z,e2.2 b z,d2.2 b z,c2.2 b z]⟩;exact ae (wpAny_letGo (aq (aq ⟨_,rfl,aq (fin hf _ _ _ _ f1 sm (.inr ⟨_,_,rfl,sm.extBut _ _ il2 tb,il2,fk hS⟩))⟩)))
  .refine ae (cY ib rfl (x:=rawInt a) rfl ?_);show wpAny _ _ (loadIfAlive ((a:Int).toNat) >>= _) _ _ _;rw[bB];have gb:=kb a oa n1 ga;refine ae (PySem.W.kdx_alive gb ?_);simp only[Option.isNone_some,dA,cI];refine ae (cY ib rfl (x:=.bool f) rfl ?_);cases f with
   | true =>
    rw[ao (show ¬ ((Value.bool true != Value.bool true)=true) from bL)];refine aq ?_;simp only[dA,cI];exact aq (aq ⟨_,rfl,aq (fin hb _ _ _ _ ib (Heap.SameBut.refl _ _) (.inr ⟨a,oa,rfl,gb,n1,n2⟩))⟩)
   | false =>
    rw[am (show (Value.bool false != Value.bool true)=true from rfl)];refine ae (fO ib (by simp) fun hc c1 c2=>?_);replace c1:hc.get? it=some (itO (rawInt a) true d (i+1) es.size ep p q):=c1;replace c2:Heap.SameBut it hb hc:=c2;refine aq ?_;simp only[dA,cI];exact aq (aq ⟨_,rfl,aq (fin hc _ _ _ _ c1 c2 (.inr ⟨a,oa,rfl,c2.extBut _ _ n1 gb,n1,n2⟩))⟩)
def Got(es:Array DictEntry)(lw:Addr)(h:Heap)(as:List Addr):Prop:=∀ (j:Nat) (a:Addr),as[j]?=some a->lw<a/\∃ e,es[j]?=some e/\h.get? a=some (tuO e.key e.val)
def DEs.keep{h h':Heap}{es:Array DictEntry}(x:DEs h d es ep)(k:∀ o,h.get? d=some o->h'.get? d=some o):DEs h' d es ep:=let ⟨o,e,r⟩:=x;⟨o,k o e,r⟩
def Zp7{S I:Addr}{ep:Nat}{es:Array DictEntry}{R:Result->Shared->Prop}(hh:A.handled=none)(hSI:S<I)(hSd:d≠S)(hId:d≠I)(hn:es.size<=sizeLine)(res:Value){h0:Heap}
  (hR:∀ h' tk acc c as,(∀ b o,b≠S->b≠I->h0.get? b=some o->h'.get? b=some o)->h'.get? S=some { cls:=.type "list",data:=.seq acc c }->as.length=es.size->Got es I h' as->acc.toList=as.map Value.ref->R (.ok (.ret res)) { s with heap:=h',toks:=tk }) :
  ∀ (k:Nat) (h:Heap) (tk c:Nat) (acc:Array Value) (as:List Addr),es.size-as.length=k->as.length<=es.size->ItS h I d S as.length es.size ep->DEs h d es ep->(∀ b o,b≠S->b≠I->h0.get? b=some o->h.get? b=some o) ->
   h.get? S=some { cls:=.type "list",data:=.seq acc c }->acc.toList=as.map Value.ref->Got es I h as->I<h.objs.size->codeAny (model P w) A (.builtin "list.extend.loop" ⟨[.ref S,.ref I,res],[]⟩) R { s with heap:=h,toks:=tk }:=by
 have hne:S≠I:=bZ hSI;intro k
 induction k with
 | zero =>
  intro h tk c acc as hk hi st hd kp hS ha hg hI;refine oo F.entry_extend_loop ?_;rw[oq F.plain_extend_loop _];show wpAny _ A.in1 (pyNext (.ref I) >>= _) _ _ _;refine ae (sL (s:={ s with heap:=h,toks:=tk }) (A:=A.in1) hh st (bn hS) hd (fun e _ ei=>?_) fun _ h' he=>?_)
  .have:=(xY.mp ei).1;lia
  .exact aq (hR h' tk acc c as (fun b o h1 h2 e=>he b o h2 (kp b o h1 h2 e)) (he S _ hne hS) (by lia) (fun j a hj=>let ⟨q,e,e1,e2⟩:=hg j a hj;⟨q,e,e1,he a _ (fk q) e2⟩) ha)
 | succ k ih =>
  intro h tk c acc as hk hi st hd kp hS ha hg hI;have hsz:acc.size=as.length:=by rw[<-fI,ha,af]
  have hSl:S<h.objs.size:=bn hS;refine oo F.entry_extend_loop ?_;rw[oq F.plain_extend_loop _];show wpAny _ A.in1 (pyNext (.ref I) >>= _) _ _ _;refine ae (sL (s:={ s with heap:=h,toks:=tk }) (A:=A.in1) hh st (bn hS) hd (fun e h' ei st' ht hz hk'=>?_) fun ei=>?_)
  .dsimp only at ht hz hk' ⊢;have hS':=hk' S _ hne hS;have up:∀ b o,b≠S->h'.get? b=some o->(h'.update S (Obj.mapSeq (·.push (Value.ref h.objs.size)))).get? b=some o:=fun b o hb z=>(lC _ _ (Ne.symm hb)).trans z;show wpAny _ A.in1 (updateSeq S (·.push (Value.ref h.objs.size)) >>= _) _ _ _;have hl:(as++[h.objs.size]).length=as.length+1:=by rw[aJ];rfl
   refine ae (wpAny_updateSeq hS' rfl (aq ⟨ot F.plain_extend_loop _,ih _ tk _ (acc.push (Value.ref h.objs.size)) (as++[h.objs.size]) (by rw[hl];lia) (by rw[hl];lia) ?_ (hd.keep fun o z=>up d o hSd (hk' d o hId z))
    (fun b o n1 n2 z=>up b o n1 (hk' b o n2 (kp b o n1 n2 z))) (j4 _ hS' rfl) (by rw[Array.toList_push,ha,aY];rfl) (fun j a hj=>?_) ?_⟩) (by rw[hsz];lia) (by show (acc.push (Value.ref h.objs.size)).size<=sizeLine+1;rw[Array.size_push,hsz];lia))
   .rw[hl];obtain ⟨x,f,p,q,g1,g2⟩:=st';refine ⟨x,f,p,q,up _ _ (Ne.symm hne) g1,?_⟩;rcases g2 with g2|⟨a,o,g2,g3,g4,g5⟩
    .exact .inl g2
    .exact .inr ⟨a,o,g2,up _ _ g5 g3,g4,g5⟩
   .by_cases hj2:j < as.length
    .rw[cg hj2] at hj;obtain⟨q,e,e1,e2⟩:=hg j a hj;exact⟨q,e,e1,up a _ (fk (dU hSI q)) (hk' a _ (fk q) e2)⟩
    .have hj3:=(aT.mp hj).1;have ej:j=as.length:=by lia
     subst ej;rw[cE] at hj;cases hj;exact⟨hI,e,ei,up _ _ (fk hSl) ht⟩
   .have z:(h'.update S (Obj.mapSeq (·.push (Value.ref h.objs.size)))).get? h.objs.size=_:=up _ _ (fk hSl) ht;exact dU hI (bn z)
  .have:=xZ.mp ei;lia
def Zj3{r:Addr}{es:Array DictEntry}{R:List Value->Shared->Prop}(hh:A.handled=none)(hv:s.heap.IsItemsView r d)(hd:DEs s.heap d es ep)(hn:es.size<=sizeLine)
  (h:∀ (h':Heap) (tk:Nat) (as:List Addr),(∀ b o,s.heap.get? b=some o->h'.get? b=some o)->as.length=es.size->Got es s.heap.objs.size h' as->R (as.map Value.ref) { s with heap:=h',toks:=tk }):wpAny (model P w) A (collect (.ref r)) R E s:=by
 have hr:r<s.heap.objs.size:=let ⟨_,e,_⟩:=hv;bn e;have hdl:d<s.heap.objs.size:=let ⟨_,e,_⟩:=hd;bn e;unfold collect;refine ae (wpAny_runValue (oo entry_proto_collect' ?_));rw[oq F.plain_proto_collect _];show wpAny _ A.in1 (newList [] >>= fun l=>again (.builtin "list.__iadd__" ⟨[l,.ref r],[]⟩)) _ _ s;refine ae (eK ?_);refine aq ⟨ot F.plain_list_iadd _,oo entry_list_iadd' ?_⟩;rw[oq F.plain_list_iadd _];generalize hh1:s.heap.push { cls:=.type "list",data:=.seq ([]:List Value).toArray }=h1;have k1:∀ b o,s.heap.get? b=some o->h1.get? b=some o:=fun b o e=>by rw[<-hh1];exact br _ e
 have hS:h1.get? s.heap.objs.size=some { cls:=.type "list",data:=.seq #[] }:=by rw[<-hh1];exact ca _ rfl
 have hz:h1.objs.size=s.heap.objs.size+1:=by rw[<-hh1,gX]
 have hv1:h1.IsItemsView r d:=let ⟨o,e,q⟩:=hv;⟨o,k1 _ _ e,q⟩;obtain⟨od,o1,o2⟩:=hd.keep (k1 d);show wpAny _ A.in1 (Builtin.List.listExtendWith (.ref s.heap.objs.size) (.ref r) (.ref s.heap.objs.size)) _ _ { s with heap:=h1 };generalize hSS:s.heap.objs.size=S at hS hz hr hdl h;have hS1:S<h1.objs.size:=bn hS;have bS:∀ b o,s.heap.get? b=some o->b<S:=fun b o e=>hSS▸bn e;have fin:∀ (h2:Heap) (c tk:Nat),(∀ b o,b≠S->(h1.push (itO .none false d 0 es.size ep .none .none)).get? b=some o->h2.get? b=some o)->h2.get? S=some { cls:=.type "list",data:=.seq #[] c } ->
   codeAny (model P w) A (.builtin "list.extend.loop" ⟨[.ref S,.ref h1.objs.size,.ref S],[]⟩) (fun q s'=>∃ (h':Heap) (tk':Nat) (acc:Array Value) (c':Nat) (as:List Addr),q=.ok (.ret (.ref S))/\s'={ s with heap:=h',toks:=tk' }/\(∀ b o,s.heap.get? b=some o->h'.get? b=some o)/\h'.get? S=some { cls:=.type "list",data:=.seq acc c' }/\as.length=es.size/\Got es S h' as/\acc.toList=as.map Value.ref) { s with heap:=h2,toks:=tk }:=by
  intro h2 c tk kk hS2;have hI:=kk h1.objs.size _ (fk hS1) (ca _ rfl);refine Zp7 (s:=s) (h0:=h1) hh hS1 (bZ hdl) (bZ (dU hdl hS1)) hn (.ref S) (fun h' tk' acc c' as q1 q2 q3 q4 q5=>⟨h',tk',acc,c',as,rfl,rfl,fun b o e=>q1 b o (bZ (bS b o e)) (bZ (dU (bS b o e) hS1)) (k1 b o e),q2,q3,fun j a hj=>⟨dU hS1 (q4 j a hj).1,(q4 j a hj).2⟩,q5⟩)
   es.size h2 tk c #[] [] (oh _) (bO _) ⟨.none,false,.none,.none,hI,.inl rfl⟩ ⟨od,kk d od (bZ hdl) (br _ o1),o2⟩ (fun b o n1 _ e=>kk b o n1 (br _ e)) hS2 rfl (fun j a hj=>by cases hj) (bn hI)
 unfold Builtin.List.listExtendWith;refine ae (lB (T:="dict_items") (s:={ s with heap:=h1 }) hv1.typeIs ?_);have x1:Builtin.List.listSameRef (.ref S) (.ref r)=false:=by simp[Builtin.List.listSameRef,fk hr]
 have x2:(Value.type "dict_items" == Value.type "list")=false:=by decide
 have x3:(Value.type "dict_items" == Value.type "tuple")=false:=by decide
 simp only[x1,x2,x3,Bool.or_false,dA,cI];refine ae ?_;obtain⟨ov,v1,v2,v3⟩:=hv1;refine wpAny_pyIter_slot (s:={ s with heap:=h1 }) (T:="dict_items") ⟨ov,v1,v2⟩ F.slot_dict_items_iter (eJ F.slot_dict_items_iter ⟨ov,v1,v2⟩ F.entry_dict_items_iter ?_ (F.args_dict_items_iter_1 _));unfold Builtin.«dict_items.__iter__»;refine ae (aq (ae ?_));unfold Builtin.Dict_items.dictOf;refine ae (cY v1 v3 (x:=.ref d) rfl (aq (ae ?_)));unfold Builtin.Dict_items.newIterator;refine ae (oj o1 o2 (ae (om o1 o2 ?_)));have own:Builtin.Dict_items.ownsTuple "dict_itemiterator"=true:=by decide
 simp only[own,fZ];refine eK (aq ⟨_,rfl,"dict_itemiterator",_,⟨_,ca _ rfl,rfl⟩,F.slot_dict_itemiterator_next.lookup,?_⟩) (by simp only[sizeOk,Builtin.Dict_items.ownedTupleFields,bT,aJ,cD,iI,sizeLine_eq];lia);show wpAny _ _ _ _ _ { s with heap:=h1.push (itO .none false d 0 es.size ep .none .none) };have gS:=br (itO .none false d 0 es.size ep .none .none) hS;have ld:∀ (h':Heap) (tk':Nat) (acc:Array Value) (c':Nat) (as:List Addr),(∀ b o,s.heap.get? b=some o->h'.get? b=some o)->h'.get? S=some { cls:=.type "list",data:=.seq acc c' }->as.length=es.size->Got es S h' as->acc.toList=as.map Value.ref->R acc.toList { s with heap:=h',toks:=tk' }:=fun h' tk' acc c' as e3 e4 e5 e6 e7=>by
  rw[e7];exact h h' tk' as e3 e5 e6
 refine ae (eV (PySem.W.kdx_hint (s:={ s with heap:=h1.push (itO .none false d 0 es.size ep .none .none) }) ⟨ov,br _ v1,v2⟩ ?_));refine wpAny_ite_split (fun _=>?_) (fun _=>aq ⟨ot F.plain_extend_loop _,lz (fin _ 0 _ (fun b o _ e=>e) gS) ?_⟩)
 .refine ae (gZ (ae ?_));show wpAny _ _ (updateSeq S (·.push .none) >>= fun _=>updateSeq S (·.pop)) _ _ _;refine ae (wpAny_updateSeq gS rfl ?_);have g2:=j4 (Obj.mapSeq (·.push Value.none)) gS rfl;refine wpAny_updateSeq (hz:=by seq_fits) g2 rfl ?_;have g3:=j4 (Obj.mapSeq (·.pop)) g2 rfl;refine aq ⟨ot F.plain_extend_loop _,lz (fin _ _ _ (fun b o hb e=>(lC _ _ (Ne.symm hb)).trans ((lC _ _ (Ne.symm hb)).trans e)) g3) ?_⟩;rintro q s' ⟨h',tk',acc,c',as,rfl,rfl,e3,e4,e5,e6,e7⟩;exact ae (wpAny_load e4 (aq (ld h' tk' acc c' as e3 e4 e5 e6 e7)))
 .rintro q s' ⟨h',tk',acc,c',as,rfl,rfl,e3,e4,e5,e6,e7⟩;exact ae (wpAny_load e4 (aq (ld h' tk' acc c' as e3 e4 e5 e6 e7)))
end
end L2
end
section
namespace L2
open PySem PySem.Spec PyProof.Rows PySem.Builtin PySem.Builtin.Str
section
variable{X:Cx}
def rAddS:R2:=fun x y H Q=>∃ i j,x=.str i/\y=.str j/\i.length+j.length<=sizeLine/\Q (.str (i++j)) H
def ZpP:OpR X (binaryOp .Add) rAddS:=ZjY
end
end L2
end
section
namespace L2
open PySem PySem.Spec PyProof.Rows PySem.Builtin PySem.Builtin.Str PySem.NumText
abbrev cs(z:Str):List Nat:=z.cps.toList
def cs_inj{y:Str}(h:cs x=cs y):x=y:=by
 obtain⟨a⟩:=x;obtain⟨b⟩:=y;have:a=b:=Array.toList_inj.mp h;rw[this]
def dH(x y:Str):cs (x++y)=cs x++cs y:=cps_toList_append x y
def io(x:Str):(cs x).length=x.length:=fI
def nA(x y:Str):(x++y).length=x.length+y.length:=by
 rw[<-io,<- io,<- io,dH,aJ]
theorem xB(s : Str) : ∀ {a b : List Str}, a≠[]->b≠[]->Str.join s (a++b)=Str.join s a++s++Str.join s b
  | [], _, h, _=>absurd rfl h
  | [x], [], _, h=>absurd rfl h
  | [x], y::b, _, _=>rfl
  | x :: y :: a, b, _, hb => by
    show x++s++Str.join s (y::a++b)=x++s++Str.join s (y::a)++s++Str.join s b;rw[xB s (cons_ne_nil y a) hb];apply cs_inj;simp only[dH, cv]
def numS(n:Int):Str:=toString n
def figs(m:Nat):List Nat:=(Nat.toDigits 10 m).map Char.toNat
def cs_num(m:Nat):cs (numS (m:Int))=figs m:=PySem.W.KIN.signs_num m
def cs_neg(m:Nat):cs (numS (-((m+1:Nat):Int)))=45::figs (m+1):=by
 show (Str.ofString (toString (Int.negSucc m))).cps.toList=_;rw[signs_ofString];show (("-"++Nat.repr (m+1):String)).toList.map Char.toNat=_;rw[String.toList_append,aY,Nat.toList_repr];rfl
def mq(m:Nat):AllDigits (figs m):=by
 intro c hc;obtain⟨ch,hch,e⟩:=aU.mp hc;rw[<-e];exact digit_range (Nat.isDigit_of_mem_toDigits (by decide) (by decide) hch)
def Zqd(m:Nat):figs m≠[]:=by
 intro e;have h:=toDigits_len_ge 10 m;rw[map_eq_nil_iff.mp e] at h;exact absurd h (by decide)
def ZnE{m:Nat}(h:10<=m):figs m=figs (m / 10)++figs (m % 10):=by
 have t:Nat.toDigits 10 (m / 10)++Nat.toDigits 10 (m % 10)=Nat.toDigits 10 (10*(m / 10)+m % 10):=Nat.toDigits_append_toDigits (by decide) (by lia) (jq m (by decide));rw[Nat.div_add_mod] at t;unfold figs;rw[<-t,aY]
def um:∀ m:Nat,m<10->figs m=[48+m]:=by decide
def wY:∀ (k m:Nat),0 < k->m < 10 ^ k->(figs m).length<=k:=by
 intro k
 induction k with
 | zero=>intro m h;exact absurd h (fX _)
 | succ k ih =>
  intro m _ hm;by_cases h:m<10
  .rw[um m h];exact Nat.le_add_left _ _
  .rw[ZnE (by lia),aJ,um _ (jq m (by decide))];cases k with
   | zero=>lia
   | succ k =>
    have:=ih (m / 10) (Nat.succ_pos _) (by rw[Nat.div_lt_iff_lt_mul (by decide)];rw[Nat.pow_succ] at hm;exact hm);show _+1<=_;lia
def mT(m:Nat):digitsVal (figs m)=m:=PySem.W.KIN.val_back m
def kX(n:Int):(∃ m:Nat,n=m/\cs (numS n)=figs m)\/∃ m:Nat,0<m/\n=-(m:Int)/\cs (numS n)=45::figs m:=by
 rcases Int.lt_or_le n 0 with h|h
 .right;refine ⟨n.natAbs,by lia,by lia,?_⟩;have e:n=-(((n.natAbs - 1)+1:Nat):Int):=by lia
  have e2:n.natAbs=n.natAbs-1+1:=by lia
  rw[show cs (numS n)=cs (numS (-(((n.natAbs-1)+1:Nat):Int))) by rw[<-e],cs_neg,<- e2]
 .left;obtain⟨m,rfl⟩:=q9 h;exact⟨m,rfl,cs_num m⟩
def kU(n:Int):∀ c∈cs (numS n),c=45\/(48<=c/\c<=57):=by
 intro c hc;rcases kX n with ⟨m,_,e⟩|⟨m,_,_,e⟩
 .rw[e] at hc;exact .inr (mq m c hc)
 .rw[e] at hc;rcases aI.mp hc with z|z
  .exact .inl z
  .exact .inr (mq m c z)
end L2
end
section
namespace L2
open PySem PySem.Spec PyProof.Rows
mutual
def shT:T->Str
 | .int i=>toString i
 | .tup ts=>tupleText (shTs ts)
 | .lst ts=>listText (shTs ts)
 | _=>"None"
def shTs:List T->List Str
 | []=>[]
 | t::ts=>shT t::shTs ts
end
mutual
def lnT:T->Nat
 | .tup ts=>lnTs ts+4
 | .lst ts=>lnTs ts+4
 | _=>100
def lnTs:List T->Nat
 | []=>0
 | t::ts=>lnT t+2+lnTs ts
end
def PlT:Nat->T->Prop
 | 0,t=>∃ i,t=.int i/\i.natAbs<10^90
 | n+1,t=>(∃ i,t=.int i/\i.natAbs<10^90)\/∃ ts,(t=.tup ts\/t=.lst ts)/\∀ u∈ts,PlT n u
theorem jQ{B : Nat} : ∀ {ts : List T}, (∀ t∈ts, lnT t<=B)->lnTs ts<=ts.length*(B+2)
  | [], _=>bO _
  | t :: ts, h => by
    have h1:=h t aQ;have h2:=jQ (ts:=ts) fun u hu=>h u (bD _ hu);rw[lnTs,cD,Nat.succ_mul];lia
theorem uj : ∀ (ts : List Str) (k : Nat) (acc : Str), cs (textFrom (k+1) acc ts)=cs acc++(ts.map fun t=>44::32::cs t).flatten
  | [], _, acc=>by rw[textFrom]; simp
  | t :: ts, k, acc => by
    rw[textFrom,uj ts (k+1),am (Nat.succ_pos k),dH,dH,aP,iH];show cs acc++[44,32]++cs t++_=_;simp
def vk(ts:List Str):cs (listText ts)=91::(match ts with|[]=>[]|t::r=>cs t++(r.map fun t=>44::32::cs t).flatten)++[93]:=by
 unfold listText;rw[dH];cases ts with
 | nil=>rfl
 | cons t r =>
  rw[textFrom,uj,ao (fX 0),dH,dH];show [91]++[]++cs t++_++[93]=_;simp
theorem uS : ∀ (ts : List Str), (Str.join ", " ts).length<=(ts.map fun t=>t.length+2).sum
  | []=>bO _
  | [t]=>by rw[aP, bW]; show t.length<=_; lia
  | t :: u :: r => by
    have h:=uS (u::r);have e:Str.join ", " (t::u::r)=t++", "++Str.join ", " (u::r):=xB _ (a:=[t]) (cons_ne_nil _ _) (cons_ne_nil _ _);rw[e,nA,nA,aP,bW];have:(", ":Str).length=2:=rfl;lia
def pi(ts:List Str):(listText ts).length<=(ts.map fun t=>t.length+2).sum+4:=by
 rw[<-io,vk];cases ts with
 | nil=>simp
 | cons t r =>
  have:∀ r:List Str,((r.map fun t=>44::32::cs t).flatten).length=(r.map fun t=>t.length+2).sum:=fun r=>by
   induction r with
   | nil=>rfl
   | cons a r ih=>rw[aP,iH,aJ,ih,aP,bW,cD,cD,io]
  rw[aJ,cD,aJ,this,io,aP,bW];simp;lia
def mf(ts:List Str):(tupleText ts).length<=(ts.map fun t=>t.length+2).sum+4:=by
 unfold tupleText;have:=uS ts;rw[nA,nA];have h1:("(":Str).length=1:=rfl;have h2:((if ts.length == 1 then ",)" else ")":String):Str).length<=2:=by split <;> decide
 lia
def k9(h:i.natAbs<10^90):(toString i:Str).length<=100:=by
 rcases kX i with ⟨m,rfl,e⟩|⟨m,hm,rfl,e⟩
 .rw[<-io];show (cs (numS _)).length<=_;rw[e];have:=wY 90 m (by decide) (by simpa using h);lia
 .rw[<-io];show (cs (numS _)).length<=_;rw[e,cD];have:=wY 90 m (by decide) (by simpa using h);lia
def mE(h:i.natAbs<10^90):i.natAbs.log2<1920:=by
 by_cases h0:i.natAbs=0
 .rw[h0];decide
 .exact (Nat.log2_lt h0).mpr (dU h (by decide +kernel))
section
variable{P:Program}{w:World}{K:W.Frag}{G:GH}{h:Heap}
def Zm0(ok:HOk P w H h):∀ (n:Nat) {t:T} {v:V} {u:Value},PlT n t->RepT K G H t v->RelV v u->∃ d as,Reads h u d as/\d.showable=true/\d.hasDict=false/\d.depth<=n/\d.shown=shT t/\d.shown.length<=lnT t:=by
 intro n;have num:∀ {t:T} {v:V} {u:Value} {i:Int},t=.int i->i.natAbs<10^90->RepT K G H t v->RelV v u->∃ d as,Reads h u d as/\d.showable=true/\d.hasDict=false/\d.depth<=0/\d.shown=shT t/\d.shown.length<=lnT t:=by
  rintro t v u i rfl hi r ru;cases r;obtain⟨k,rfl⟩:=ru;exact⟨.int i,[],.int i k,by simpa [PyData.showable] using mE hi,by simp[PyData.hasDict],by simp[PyData.depth],by rw[PyData.shown,shT],by rw[PyData.shown];simp only[lnT];exact k9 hi⟩
 induction n with
 | zero =>
  rintro t v u ⟨i,e,hi⟩ r ru;exact num e hi r ru
 | succ n ih =>
  intro t v u pl r ru;rcases pl with ⟨i,e,hi⟩|⟨ts,e,hp⟩
  .obtain ⟨d,as,h1,h2,h3,h4,h5⟩:=num e hi r ru;exact⟨d,as,h1,h2,h3,by lia,h5⟩
  .have all:∀ (ts:List T) (vs:List V) (us:List Value),(∀ t∈ts,PlT n t)->RepTs K G H ts vs->Vals vs us->∃ ds as,ReadsAll h us ds as/\PyData.showableAll ds=true/\PyData.hasDictAll ds=false/\PyData.depthAll ds<=n/\PyData.shownAll ds=shTs ts/\((shTs ts).map fun t=>t.length+2).sum<=lnTs ts:=by
    intro ts
    induction ts with
    | nil =>
     intro vs us _ r rv;cases r;cases rv;exact⟨[],[],.nil,by simp[PyData.showableAll],by simp[PyData.hasDictAll],by simp[PyData.depthAll],by rw[PyData.shownAll,shTs],by rw[shTs,lnTs];exact aE _⟩
    | cons t ts ih2 =>
     intro vs us hp r rv;cases r with
     | cons r1 r2 =>
      cases rv with
      | cons v1 v2 =>
       obtain⟨d,as,a1,a2,a3,a4,a5,a6⟩:=ih (hp t aQ) r1 v1;obtain⟨ds,bs,b1,b2,b3,b4,b5,b6⟩:=ih2 _ _ (fun u hu=>hp u (bD _ hu)) r2 v2;refine⟨d::ds,as++bs,.cons a1 b1,by simp[PyData.showableAll,a2,b2],by simp[PyData.hasDictAll,a3,b3],by simp only[PyData.depthAll];lia,by rw[PyData.shownAll,shTs,a5,b5],?_⟩;rw[a5] at a6;rw[shTs,lnTs,aP,bW];lia
   rcases e with rfl|rfl
   .cases r with
    | @tup a xs _ ha rs =>
     obtain⟨_,its,vs,o,e1,e2,m,e3⟩:=(show ObjOk P w H h a (.tup xs) from ok a _ ha);cases ru;obtain⟨ds,as,b1,b2,b3,b4,b5,b6⟩:=all ts xs its hp rs vs;refine⟨.tuple ds,_,.tuple e1 e2 e3 b1,by simpa [PyData.showable] using b2,by simpa [PyData.hasDict] using b3,by simp only[PyData.depth];lia,by rw[PyData.shown,shT,b5],?_⟩;rw[PyData.shown,lnT,b5];exact bo (mf _) (by lia)
   .cases r with
    | @lst a xs _ ga ha rs =>
     obtain⟨_,its,m,vs,e1⟩:=(show ObjOk P w H h a (.lst xs) from ok a _ ha);cases ru;obtain⟨ds,as,b1,b2,b3,b4,b5,b6⟩:=all ts xs its hp rs vs;refine⟨.list ds,_,.list e1 rfl rfl b1,by simpa [PyData.showable] using b2,by simpa [PyData.hasDict] using b3,by simp only[PyData.depth];lia,by rw[PyData.shown,shT,b5],?_⟩;rw[PyData.shown,lnT,b5];exact bo (pi _) (by lia)
def rStrT(K:W.Frag):List V->Hp->VK->Prop:=fun xs H Q=>∃ G t n a,xs=[.ref a]/\RepT K G H t (.ref a)/\PlT n t/\n<=40/\lnT t<=1000000/\Q (.str (shT t)) H
def xJ{X:Cx}{K:W.Frag}(hg:X.A.guards=some [])(hu:X.A.units+64<cLine):cm X (.type "str") (rStrT K):=by
 intro pins s Z H xs us Q I r h;obtain⟨G,t,n,a,rfl,rt,pl,hn,hl,q⟩:=h;obtain⟨u,rfl,ru⟩:=vals1 r;cases ru;obtain⟨d,as,h1,h2,h3,h4,h5,h6⟩:=Zm0 I.hok n pl rt (show RelV (.ref a) (.ref a) from rfl);refine str_of_reads h1 h2 (PyData.noDict_hsm h3) hg (by lia) (fun _ _ e=>e) (fun h' u tk hk=>?_) (by rw[PySem.sizeLine_eq];lia);exact⟨.str (shT t),H,I.kept (t':=tk) hk,⟨u,by rw[h5]⟩,q⟩
end
end L2
end
section
namespace L2
open PySem PySem.Spec PyProof.Rows PySem.Calls
abbrev I3:=(Int×Int)×Int
def IsI(h:Heap)(v:Value)(p:I3):Prop:=∃ a b o ob n m t t1 t2,v=.ref a/\h.get? a=some o/\o.cls=.type "tuple"/\o.data=.seq #[.ref b,.int p.2 t] n/\h.get? b=some ob/\ob.cls=.type "tuple"/\ob.data=.seq #[.int p.1.1 t1,.int p.1.2 t2] m
def IsI.keep{h h':Heap}{p:I3}(i:IsI h v p)(k:∀ b o,h.get? b=some o->o.cls=.type "tuple"->h'.get? b=some o):IsI h' v p:=by
 obtain⟨a,b,o,ob,n,m,t,t1,t2,rfl,e1,e2,e3,e4,e5,e6⟩:=i;exact⟨a,b,o,ob,n,m,t,t1,t2,rfl,k _ _ e1 e2,e2,e3,k _ _ e4 e5,e5,e6⟩
noncomputable def iOf(h : Heap) : Value->I3
  | .ref a => match h.get? a with
    | some o => match o.data with
      | .seq xs _=>(pOf h (xs.getD 0 .none), sndV xs)
      | _=>((0, 0), 0)
    | none=>((0, 0), 0)
  | _=>((0, 0), 0)
def IsI.at{h:Heap}{v:Value}{p:I3}(i:IsI h v p):iOf h v=p:=by
 obtain⟨a,b,o,ob,n,m,t,t1,t2,rfl,e1,e2,e3,e4,e5,e6⟩:=i;have:pOf h (.ref b)=p.1:=IsP.at ⟨b,ob,m,t1,t2,rfl,e4,e5,e6⟩;simp only[iOf,e1,e3];show (pOf h (.ref b),p.2)=p;rw[this]
def cdI(p:I3):Int:=cd (2*10^9+1) (cd 2001 p.1,p.2)
def BdI(p:I3):Prop:=(2*p.1.2.natAbs:Int)<2001/\(2*p.2.natAbs:Int)<2*10^9+1
def s9{p q:I3}(hp:BdI p)(hq:BdI q):cdI p<cdI q↔(p.1.1<q.1.1\/(p.1.1=q.1.1/\p.1.2<q.1.2))\/(p.1=q.1/\p.2<q.2):=by
 unfold cdI;rw[nF (p:=(cd 2001 p.1,p.2)) (q:=(cd 2001 q.1,q.2)) hp.2 hq.2,nF hp.1 hq.1];have key:cd 2001 p.1=cd 2001 q.1↔p.1=q.1:=by
  constructor
  .intro e;have h1:=nF hp.1 hq.1;have h2:=nF hq.1 hp.1;refine Prod.ext ?_ ?_ <;> lia
  .intro e;rw[e]
 rw[key]
abbrev kA(h:Heap):L3.KOrd:=⟨tuples' false,fun x=>∃ p,IsI h x.1 p/\BdI p,fun x=>cdI (iOf h x.1)⟩
section
variable{P:Program}{W:World}{z:Shared}
def isKey{h:Heap}{b:Addr}{ob:Obj}{m:Nat}{t1 t2:Tok}(e4:h.get? b=some ob)(e5:ob.cls=.type "tuple")(e6:ob.data=.seq #[.int i t1,.int j t2] m):IsTupleKey (cN P W) h [.inl i,.inl j] b :=
 ⟨ob,_,m,e4,e5,e6,.cons (by simp[cN,hU,Value.isInt]) (.cons (by simp[cN,hU,Value.isInt]) .nil)⟩
def ZpU{Q:Value->Shared->Prop}{b:Addr}{oa ob:Obj}{m:Nat}{i' j':Int}{t1 t2 t3 t4:Tok}(hu:A.units+1<cLine)(e1:z.heap.get? a=some oa)(e2:oa.cls=.type "tuple")(e3:oa.data=.seq #[.int i t1,.int j t2] n)(e4:z.heap.get? b=some ob)(e5:ob.cls=.type "tuple")(e6:ob.data=.seq #[.int i' t3,.int j' t4] m)
  (h:Q (.bool (if i=i' then decide (j<j') else decide (i<i'))) z):wpAny (model P W) A (compareOp .Lt (.ref a) (.ref b)) Q E z:=by
 have ta:z.TypeIs (.ref a) "tuple":=⟨oa,e1,e2⟩;have tb:z.TypeIs (.ref b) "tuple":=⟨ob,e4,e5⟩;show wpAny _ _ (richCompare .Lt (.ref a) (.ref b)) _ _ _;refine wpAny_richCompare_same_room (T:="tuple") ta tb F.slot_tuple_lt (eJ F.slot_tuple_lt ta F.entry_tuple_lt ?_ (F.args_tuple_lt_2 _ _)) (by lia);show wpAny _ _ (isInstance (.ref b) (.type "tuple") >>= _) _ _ _;refine ae (jp tb nY ?_);simp only[g7,dA,cI];refine ae (lK e1 e3 (ae (lK e4 e6 ?_)));show wpAny _ _ ((forIn [(Value.int i t1,Value.int i' t3),(Value.int j t2,Value.int j' t4)] _ _) >>= _) _ _ _;rw[j5];refine ae (ae (ae (nG ?_)));by_cases e:i=i'
 .rw[am e] at h;rw[show (i == i')=true by simp[e]];simp only[g7,dA,cI];refine aq ?_;dsimp only;rw[j5];refine ae (ae (nG ?_));by_cases e':j=j'
  .rw[show (j == j')=true by simp[e']];simp only[g7,dA,cI];refine aq (aq (aq ⟨_,rfl,by simp[Builtin.Tuple.tupleCompareSizes],?_⟩));rw[bz (by lia)] at h;simpa [Builtin.Tuple.tupleCompareSizes] using h
  .rw[show (j == j')=false by simp[e']];simp only[rq,fZ];refine ae (gZ (ae ?_));show wpAny _ _ (compareOp .Lt (.int j t2) (.int j' t4)) _ _ _;exact lt_int (ae (aq (aq (aq (aq ⟨_,rfl,by simp,h⟩)))))
 .rw[ao e] at h;rw[show (i == i')=false by simp[e]];simp only[rq,fZ];refine ae (gZ (ae ?_));show wpAny _ _ (compareOp .Lt (.int i t1) (.int i' t3)) _ _ _;exact lt_int (ae (aq (aq (aq (aq ⟨_,rfl,by simp,h⟩)))))
def ltI3{h:Heap}(hu:A.units+4 < cLine)(keep:∀ b o,h.get? b=some o->o.cls=.type "tuple"->z.heap.get? b=some o):@L3.KLt (kA h) P W A E z:=by
 refine @L3.KLt.mk (kA h) P W A E z ?_;intro u x y Q hk hx hy hq;obtain⟨p,ip,bp⟩:=hx;obtain⟨q,iq,bq⟩:=hy;have e1:=ip.at
 have e2:=iq.at
 obtain⟨a,b,o,ob,n,m,t,t1,t2,ex,g1,g2,g3,g4,g5,g6⟩:=ip.keep keep;obtain⟨a',b',o',ob',n',m',t',t1',t2',ey,k1,k2,k3,k4,k5,k6⟩:=iq.keep keep;have hv:(some (decide (@L3.kvl (kA h) x<@L3.kvl (kA h) y)):Option Bool)=some (if p.1=q.1 then decide (p.2<q.2) else if p.1.1=q.1.1 then decide (p.1.2<q.1.2) else decide (p.1.1<q.1.1)):=by
  show some (decide (cdI (iOf h x.1)<cdI (iOf h y.1)))=_;rw[e1,e2]
  congr 1
  have key:=s9 bp bq;by_cases e:p.1=q.1
  .rw[am e];refine rH.mpr (key.trans ?_);rw[e];constructor
   .rintro (h|h)
    .lia
    .exact h.2
   .exact fun h=>.inr ⟨rfl,h⟩
  .rw[ao e];have key:cdI p < cdI q↔(p.1.1 < q.1.1\/(p.1.1=q.1.1/\p.1.2 < q.1.2)):=key.trans ⟨fun h=>h.resolve_right fun z=>e z.1,.inl⟩;by_cases e':p.1.1=q.1.1
   .rw[am e'];exact rH.mpr (key.trans (by lia))
   .rw[ao e'];exact rH.mpr (key.trans (by lia))
 rw[hv] at hq;rw[lt'_eq];refine eX (wpS_get ?_);rw[hk,ex,ey];refine eX (wpS_lift (lQ (PySem.W.kat_lt g1 g3 k1 k3 ?_)));have fin:∀ c,c=(if p.1=q.1 then decide (p.2<q.2) else if p.1.1=q.1.1 then decide (p.1.2<q.1.2) else decide (p.1.1<q.1.1))->wpS (model P W) A E z (pure (some c):StateT SortSt Sem (Option Bool)) Q u:=fun c e=>by
  subst e;exact gY hq
 refine PySem.W.kat_cons (wpAny_eqBool_tuple (knd:=cN P W) (by first|lia|(show A.units+1<cLine;lia)) (isKey g4 g5 g6) (isKey k4 k5 k6) (PySem.W.kat_go (fun e=>?_) (fun e=>?_)))
 .have e:p.1=q.1:=by
   have:=lL e;injection this with h1 h2
   injection h1 with h1
   injection h2 with h2
   injection h2 with h2
   exact Prod.ext h1 h2
  refine PySem.W.kat_yes (PySem.W.kat_cons (nG (PySem.W.kat_go (fun e'=>?_) (fun e'=>?_))))
  .have e':p.2=q.2:=by simpa using e'
   refine PySem.W.kat_yes (PySem.W.kat_nil ⟨rfl,fin _ ?_⟩);rw[am e,bz (by simp),bz (by lia)]
  .refine PySem.W.kat_no (PySem.W.kat_one _ _ (lt_int ⟨rfl,fin _ ?_⟩));rw[am e]
 .have e:¬ p.1=q.1:=fun z=>by
   rw[z,aX rfl] at e;cases e
  refine PySem.W.kat_no (PySem.W.kat_one _ _ (ZpU (by first|lia|(show A.units+1+1<cLine;lia)) g4 g5 g6 k4 k5 k6 ⟨rfl,fin _ ?_⟩));rw[ao e]
end
abbrev itT(p:I3):T:=.tup [.tup [.int p.1.1,.int p.1.2],.int p.2]
abbrev kvI(p:I3):List Key×V:=([.inl p.1.1,.inl p.1.2],.int p.2)
def itD(p:I3):PyData:=.tuple [.tuple [.int p.1.1,.int p.1.2],.int p.2]
def ZlX{h:Heap}{p:I3}(i:IsI h v p)(b:BdI p)(c:p.1.1.natAbs<1000):∃ as,Reads h v (itD p) as/\(itD p).showable=true/\(itD p).hasDict=false/\(itD p).depth<=2/\(itD p).shown.length<=500:=by
 obtain⟨a,b',o,ob,n,m,t,t1,t2,rfl,e1,e2,e3,e4,e5,e6⟩:=i;have n1:p.1.1.natAbs<10^90:=dU c (by decide);have n2:p.1.2.natAbs<10^90:=dU (show p.1.2.natAbs<2001 by have:=b.1;lia) (by decide);have n3:p.2.natAbs<10^90:=dU (show p.2.natAbs<2*10^9+1 by have:=b.2;lia) (by decide);unfold itD;refine⟨_,.tuple e1 e2 e3 (.cons (.tuple e4 e5 e6 (.cons (.int _ _) (.cons (.int _ _) .nil))) (.cons (.int _ _) .nil)),?_,?_,?_,?_⟩
 .simp[PyData.showable,PyData.showableAll,mE n1,mE n2,mE n3]
 .simp[PyData.hasDict,PyData.hasDictAll]
 .simp[PyData.depth,PyData.depthAll]
 .simp only[PyData.shown,PyData.shownAll];have h1:=k9 n1;have h2:=k9 n2;have h3:=k9 n3;have k1:=mf [toString p.1.1,toString p.1.2];have k2:=mf [tupleText [toString p.1.1,toString p.1.2],toString p.2];simp only[aP,gc,bW,sum_nil] at k1 k2;lia
theorem wu{h : Heap} : ∀ (vs : List Value), (∀ v∈vs, ∃ p, IsI h v p/\BdI p/\p.1.1.natAbs<1000)->∃ as, ReadsAll h vs (vs.map fun v=>itD (iOf h v)) as/\PyData.showableAll (vs.map fun v=>itD (iOf h v))=true/\PyData.hasDictAll (vs.map fun v=>itD (iOf h v))=false/\PyData.depthAll (vs.map fun v=>itD (iOf h v))<=2/\((PyData.shownAll (vs.map fun v=>itD (iOf h v))).map fun t=>t.length+2).sum<=502*vs.length
  | [], _=>⟨[], .nil, by simp[PyData.showableAll], by simp[PyData.hasDictAll], by simp[PyData.depthAll], by simp[PyData.shownAll]⟩
  | v :: vs, hv => by
    obtain⟨p,i,b,c⟩:=hv v aQ;obtain⟨as,a1,a2,a3,a4,a5⟩:=ZlX i b c;obtain⟨bs,b1,b2,b3,b4,b5⟩:=wu vs fun u hu=>hv u (bD _ hu);rw[<-i.at] at a1 a2 a3 a4 a5;rw[aP];refine⟨as++bs,.cons a1 b1,by simp only[PyData.showableAll];rw[a2,b2];rfl,by simp only[PyData.hasDictAll];rw[a3,b3];rfl,by simp only[PyData.depthAll];lia,?_⟩;rw[PyData.shownAll,aP,bW,cD];lia
theorem tS : ∀ ps : List I3, PyData.shownAll (ps.map itD)=shTs (ps.map itT)
  | []=>by rw[gc, PyData.shownAll, gc, shTs]
  | p :: ps => by
    rw[aP,PyData.shownAll,aP,shTs,tS ps]
    congr 1
theorem tI{M : Model}{h : Heap} : ∀ {l : List Value}, (∀ v∈l, ∃ p, IsI h v p)->∃ fs, PySem.W.KatTups h l fs/\fs.length=l.length/\∀ f∈fs, PySem.W.Looks M h (typeOf f) (.type "tuple")
  | [], _=>⟨[], PySem.W.KatTups.nil, rfl, fun f hf=>by cases hf⟩
  | v :: l, h' => by
    obtain⟨p,a,b,o,ob,n,m,t,t1,t2,rfl,e1,e2,e3,e4,e5,e6⟩:=h' v aQ;obtain⟨fs,k1,k2,k3⟩:=tI (M:=M) (l:=l) fun w hw=>h' w (bD _ hw);refine⟨.ref b::fs,PySem.W.KatTups.cons e1 e2 e3 rfl k1,by rw[cD,cD,k2],fun f hf=>?_⟩;rcases aI.mp hf with rfl|hf
    . exact fun A Q E s k q=>lB (T := "tuple") ⟨ob, k _ _ e4, e5⟩ q
    . exact k3 f hf
def lW{α β:Type}{F:α->β->Prop}{l:List α}{m:List β}(r:Paired F l m):∀ (j:Nat) {a:α} {b:β},l[j]?=some a->m[j]?=some b->F a b:=by
 induction r with
 | nil=>intro j a b h;cases h
 | cons h _ ih =>
  intro j a b e1 e2;cases j with
  | zero=>cases e1;cases e2;exact h
  | succ j=>exact ih j e1 e2
def ZlF{P:Program}{w:World}(d:Addr)(hd:(d == sysModules)=false):MeetsIn P w (Builtin.«dict.items» ⟨[.ref d],[]⟩) fun _ R s=>s.TypeIs (.ref d) "dict"/\R (.ok (.ret (.ref s.heap.objs.size))) { s with heap:=s.heap.push { cls:=.type "dict_items",data:=.fields #[.ref d] } } :=
 .of_wp fun A R s z=>by
  obtain⟨ht,h⟩:=z;unfold Builtin.«dict.items» Builtin.Dict.noArgs;refine ae (ae (wpAny_notOrdered_dict ht ?_));show wpAny _ _ (pure d) _ _ s;unfold Builtin.Dict.showsAll;refine aq ?_;rw[ao (by rw[hd];exact bL)];exact ae (aq (ae (eK (aq ⟨_,rfl,h⟩))))
end L2
end
section
namespace L2
open PySem PySem.Spec PyProof.Rows
section
variable{P:Program}{w:World}{s:Shared}
def sU{i:Nat}{es:Array DictEntry}{Q:Option Value->Shared->Prop}(hh:A.handled=none)(hit:s.heap.IsKeyIter it d i es.size ep)(hd:DEs s.heap d es ep)
  (h1:∀ e h',es[i]?=some e->h'.IsKeyIter it d (i+1) es.size ep->Heap.SameBut it s.heap h'->Q (some e.key) { s with heap:=h' })
  (h2:es[i]?=none->∀ h',Heap.ExtBut it s.heap h'->Q none { s with heap:=h' }):wpAny (model P w) A (pyNext (.ref it)) Q E s:=by
 obtain⟨o,ho,hc,hdt⟩:=id hit;obtain⟨od,e1,e2⟩:=hd;have ty:=hit.typeIs;have own:Builtin.Dict_items.ownsTuple "dict_keyiterator"=false:=by decide
 have nn:¬ ((Value.ref d == Value.none)=true):=bL;have ni:¬ ((i:Int)<0):=by lia
 unfold pyNext;refine ae (lQ (iD (name:=Str.ofString "__next__") ty F.slot_dict_keyiterator_next (eJ F.slot_dict_keyiterator_next ty F.entry_dict_keyiterator_next ?_ (F.args_dict_keyiterator_next_1 _))));refine ae (aq (ae (ae (ae (rJ ty (aq (ae (wpAny_fieldsOf ho hdt ?_))))))));simp only[own,dA,cI];show wpAny _ _ (if (Value.ref d == Value.none)=true then _ else _) _ _ _;rw[ao nn];refine ae (aq (ae (oj e1 e2 ?_)));rw[ao (by simp)];refine ae (aq (ae (om e1 e2 ?_)));rw[ao (by simp)];refine aq ?_;cases ei:es[i]? with
 | none =>
  simp only[ni,cI,bB,ei];refine ae (ae (rJ ty (aq ?_)));show wpAny _ _ (setField (.ref it) 0 .none >>= _) _ _ _;refine ae (lJ ho hdt (by simp) ?_);show wpAny _ _ (newExc (.type "StopIteration") [] >>= _) _ _ _;simp only[newExc,newTuple];refine ae (ae (eK ?_ (by size_fits)));refine ae (m:=firstArgMember _ _) (wpAny_of_eq (a:=Value.none) (by first|rfl|(simp only[firstArgMember];rfl)) (eK ?_ (by size_fits)));simp only[raiseNew];refine ae (wpAny_handled ?_);rw[show A.in1.handled=none from hh];refine ae (aq (wpAny_throw ?_));refine ae (jp (T:="StopIteration") (b:=true) ⟨_,ca _ rfl,rfl⟩ isSubtype_stop ?_);exact aq (h2 ei _ (((Heap.SameBut.update ..).extBut.push _).push _))
 | some e =>
  simp only[ni,cI,bB,ei];refine ae (ae (rJ ty (aq (ae (wpAny_isOneOf_keyiter ty ?_)))));show wpAny _ _ (setField (.ref it) 1 (rawInt ((i:Int)+1)) >>= _) _ _ s;refine ae (lJ ho hdt (by simp) ?_);have st:(s.heap.update it (Obj.mapFields (·.setIfInBounds 1 (rawInt ((i:Int)+1))))).IsKeyIter it d (i+1) es.size ep :=
   ⟨_,j4 _ ho (Obj.isFreed_of_fields (nV hdt _)),(Obj.cls_mapFields ..).trans hc,by rw[nV hdt];simp[rawInt]⟩
  refine ae (eV (ae (wpAny_isOneOf_keyiter (s:={ s with heap:=s.heap.update it (Obj.mapFields (·.setIfInBounds 1 (rawInt ((i:Int)+1)))) }) st.typeIs ?_)));show wpAny _ _ (pure e.key) _ _ _;exact aq (aq ⟨_,rfl,aq (h1 e _ ei st (Heap.SameBut.update ..))⟩)
def Zp1{es:Array DictEntry}{Q:Value->Shared->Prop}(hs:(d == sysModules)=false)(ty:s.TypeIs (.ref d) "dict")(hd:DEs s.heap d es ep)
  (hQ:Q (.ref s.heap.objs.size) { s with heap:=s.heap.push { cls:=.type "dict_keyiterator",data:=.fields #[.ref d,.int 0 0,.int es.size 0,.int ep 0] } }):wpAny (model P w) A (pyIter (.ref d)) Q E s:=by
 obtain⟨o,e1,e2⟩:=hd;refine wpAny_pyIter_slot ty F.slot_dict_iter (eJ F.slot_dict_iter ty F.entry_dict_iter ?_ (F.args_dict_iter_1 _));unfold Builtin.«dict.__iter__» Builtin.Dict.dictSlotNone;refine ae (ae (wpAny_notOrdered_dict ty ?_));show wpAny _ _ (pure (Value.ref d)) _ _ s;unfold Builtin.Dict.showsAll;refine aq ?_;show wpAny _ _ ((if (d == sysModules)=true then _ else _) >>= _) _ _ s;rw[ao (by rw[hs];exact bL)];refine ae (aq (ae (oj e1 e2 (ae (om e1 e2 ?_)))));refine ae (eK (aq ⟨_,rfl,"dict_keyiterator",_,⟨_,ca _ rfl,rfl⟩,F.slot_dict_keyiterator_next.lookup,?_⟩));simpa [rawInt] using hQ
end
def Inv.freeze{X:Cx}{s:Shared}{o:Obj}(I:Inv X pins Z H s)(ha:H a=some (.dT kvs))(ho:s.heap.get? a=some o):Inv X pins Z (upd H a (.frz o (.dT kvs))) s:=by
 have ne:∀ {b:Addr} {u:Option HO},H b=u->u≠some (.dT kvs)->b≠a:=fun {b u} e n z=>n (by rw[<-e,z,ha]);have up:∀ {b:Addr} {u:Option HO},H b=u->u≠some (.dT kvs)->upd H a (.frz o (.dT kvs)) b=u:=fun e n=>by rw[bC (ne e n)];exact e
 refine I.un (s:=s) (h':=s.heap) ⟨fun b ob q _ _ _=>q,fun b ob q _ _ _=>⟨ob.slots,q⟩,fun b ob _ n _=>up n nofun,fun b ob q _=>⟨ob,q⟩,fun b xs q=>up q nofun,fun b ob u q=>up q nofun,fun b ps q=>⟨#[],by rw[up q nofun];simp⟩⟩ fun b u e=>?_;have tp:∀ b xs,H b=some (.tup xs)->upd H a (.frz o (.dT kvs)) b=some (.tup xs):=fun b xs q=>up q nofun;by_cases hb:b=a
 .subst hb;rw[bP] at e;cases e;exact⟨ho,(I.hok b _ ha).stay (fun _ _ _ q=>q) (fun c q=>up q nofun) tp⟩
 .rw[bC hb] at e;exact(I.hok b u e).stay (fun _ _ _ q=>q) (fun c q=>up q nofun) tp
noncomputable def Itd(a:Addr)(o:Obj)(kvs:List (List Key×V)):It :=
 ⟨fun i H=>H a=some (.frz o (.dT kvs))/\i<kvs.length,fun i H v H'=>H'=H/\∃ b k x,kvs[i]?=some (k,x)/\v=.ref b/\H b=some (.tup (k.map kV)),fun i H=>H a=some (.frz o (.dT kvs))/\kvs.length<=i⟩
def Zpb{P:Program}{w:World}{K:W.Frag}(a it:Addr)(o:Obj)(kvs:List (List Key×V)){es:Array DictEntry}(hes:o.data=.dict es ep)(hl:es.size=kvs.length):Turn P w K tg (Itd a o kvs) [it] it (fun i h=>h.IsKeyIter it a i es.size ep) where
 mem:=by simp
 obj:=fun i h st b hb=>by
  have e:b=it:=by simpa using hb
  subst e;obtain⟨o,e,c,d⟩:=st;exact⟨o,e,fun v z=>by rw[d] at z;cases z⟩
 keep:=fun i h h' st k=>by
  obtain⟨o,e,c,d⟩:=st;exact⟨o,k it (by simp) o e,c,d⟩
 item:=by
  intro X hP hw hK hc i pins s Z H E I hf st hg;subst hP hw hK;obtain⟨ha,hi⟩:=hg;obtain⟨ho,_,_,xs,pr,ob,es',ep',e1,e2,e3,e4,_⟩:=(show ObjOk X.prog X.w H s.heap a (.frz o (.dT kvs)) from I.hok a _ ha);rw[ho] at e1;cases e1;rw[hes] at e3;cases e3;obtain⟨f0,f1,f2,f3,f4,f5⟩:=hf it (by simp);refine sU (I.ok.hd hc) st ⟨o,ho,hes⟩ (fun e h' ei st' sb=>?_) fun ei=>?_
  .have I1:Inv X pins Z H { s with heap:=h' }:=I.turned (t':=s.toks) (fun b o hb e=>(sb.2 b hb).trans e) f0 f1 f3 f4 f5;obtain⟨o',e',c,d⟩:=id st';rw[<-lE,e4,ak] at ei;obtain⟨x,ex,rfl⟩:=bh.mp ei;have ek:kvs[i]?=some kvs[i]:=aC hi;obtain⟨z1,z2,z3⟩:=lW pr i ek ex;exact⟨_,rfl,me (s:={ s with heap:=h' }) e' c d (by decide) ⟨.ref x.2.1,H,I1,rfl,⟨rfl,x.2.1,kvs[i].1,kvs[i].2,ek,rfl,z2⟩,st',fun b hb=>(hf b hb).1⟩⟩
  .have:=xZ.mp ei;lia
 done:=by
  intro X hP hw hK hc i pins s Z H E I hf st hg;subst hP hw hK;obtain⟨ha,hi⟩:=hg;obtain⟨ho,_⟩:=(show ObjOk X.prog X.w H s.heap a (.frz o (.dT kvs)) from I.hok a _ ha);obtain⟨f0,f1,f2,f3,f4,f5⟩:=hf it (by simp);refine sU (I.ok.hd hc) st ⟨o,ho,hes⟩ (fun e h' ei=>?_) fun _ h' eb=>⟨rfl,I.turned (t':=s.toks) (fun b o hb e=>eb b o hb e) f0 f1 f3 f4 f5⟩;have:=(xY.mp ei).1;lia
 self:=fun _ _ _ _ _ st h=>wpAny_pyIter_keyiter st h
def iDT(tl:TE):TI:=fun Z H R=>tl Z H fun x H1=>∃ a kvs,x=.ref a/\H1 a=some (.dT kvs)/\∀ o,R (Itd a o kvs) (upd H1 a (.frz o (.dT kvs)))
def pi_dt{X:Cx}{l:Expr}(hl:PE X l tl):PI X tg l (iDT tl):=by
 intro pins s Z H R I h;refine thn (hl pins s Z H _ I h) fun v s1 z=>?_;obtain⟨x,H1,I1,r1,a,kvs,rfl,ha,q⟩:=z;obtain rfl:v=Value.ref a:=r1;obtain⟨ty,_,hs⟩:=o9 I1 (.inr ⟨kvs,.inl ha⟩);obtain⟨_,_,xs,pr,o,es,ep,e1,e2,e3,e4,_⟩:=(show ObjOk X.prog X.w H1 s1.heap a (.dT kvs) from I1.hok a _ ha);have sz:es.size=kvs.length:=by rw[<-fI,e4,af,<- Paired.length pr]
 refine Zp1 hs ty ⟨o,e1,e3⟩ ?_;have I2:=I1.freeze ha e1;refine⟨s1.heap.objs.size,[s1.heap.objs.size],_,_,_,rfl,I2.kept (t':=s1.toks) fun b o e=>br _ e,Zpb a _ o kvs e3 sz,⟨_,ca _ rfl,rfl,rfl⟩,fun b hb=>?_,q o⟩;have e:b=s1.heap.objs.size:=by simpa using hb
 subst e;exact I2.fpOk (aE _) (I2.hok.fresh (aE _))
def k1T:Key->T
 | .inl i=>.int i
 | .inr x=>.str x
abbrev keyT(ks:List Key):T:=.tup (ks.map k1T)
def getA{κ:Type}[DecidableEq κ](kvs:List (κ×T))(k:κ):Option T:=(kvs.find? fun x=>decide (x.1=k)).map (·.2)
noncomputable def putA{κ:Type}[DecidableEq κ](kvs:List (κ×T))(k:κ)(v:T):List (κ×T):=if (kvs.any fun kv=>decide (kv.1=k))=true then kvs.map (fun kv=>if kv.1=k then (kv.1,v) else kv) else kvs++[(k,v)]
section
variable{P:Program}{w:World}{K:W.Frag}{G:GH}{b:Addr}{k:T->GH->Prop}{d x y z:T}{v:V}{D:EndT}{c:Ct}{o:HO}
def uN(r:RepTs K G H (ks.map k1T) vs):vs=ks.map kV:=by
 induction ks generalizing vs with
 | nil=>cases r;rfl
 | cons c l ih =>
  cases r with
  | cons r1 r2 =>
   rw[ih r2];cases c with
   | inl i=>cases r1;rfl
   | inr i=>cases r1;rfl
theorem pG:∀ (ks:List Key),RepTs K G H (ks.map k1T) (ks.map kV)
 | []=>.nil
 | .inl _::ks=>.cons .int (pG ks)
 | .inr _::ks=>.cons .str (pG ks)
abbrev PA2{κ:Type}(K:W.Frag)(G:GH)(H:Hp):List (κ×T)->List (κ×V)->Prop:=Paired fun p q=>p.1=q.1/\RepT K G H p.2 q.2
def vd{κ:Type}[DecidableEq κ]{kvs:List (κ×T)}{kvs':List (κ×V)}(r:PA2 K G H kvs kvs')(q:κ):(getA kvs q=none/\valV kvs' q=none)\/∃ d v,getA kvs q=some d/\valV kvs' q=some v/\RepT K G H d v:=by
 induction r with
 | nil=>exact Or.inl ⟨rfl,rfl⟩
 | @cons p s ps ss h t ih =>
  obtain⟨h1,h3⟩:=h;unfold getA valV at ih ⊢;rw[eW,eW];by_cases e:p.1=q
  .rw[aX e,aX (h1.symm.trans e)];exact .inr ⟨_,_,rfl,rfl,h3⟩
  .rw[bz e,bz (fun z=>e (h1.trans z))];exact ih
def sj{κ:Type}[DecidableEq κ]{kvs:List (κ×T)}{kvs':List (κ×V)}(r:PA2 K G H kvs kvs')(q:κ)(rd:RepT K G H d v):PA2 K G H (putA kvs q d) (putK kvs' q v):=by
 have any:(kvs.any fun kv=>decide (kv.1=q))=(kvs'.any fun kv=>decide (kv.1=q)):=by
  induction r with
  | nil=>rfl
  | cons h _ ih=>rw[gW,gW,ih,h.1]
 unfold putA putK;rw[any];by_cases hx:(kvs'.any fun kv=>decide (kv.1=q))=true
 .rw[am hx,am hx];clear any hx
  induction r with
  | nil=>exact .nil
  | @cons p s ps ss h t ih =>
   refine .cons ?_ ih;dsimp only;by_cases e:p.1=q
   .rw[am e,am (h.1.symm.trans e)];exact⟨h.1,rd⟩
   .rw[ao e,ao (fun z=>e (h.1.trans z))];exact h
 .rw[ao hx,ao hx];exact Paired.snoc r ⟨rfl,rd⟩
def Zne{κ:Type}[DecidableEq κ]{kvs:List (κ×T)}{q:κ}{d:T}:(putA kvs q d).length<=kvs.length+1:=by
 unfold putA;split
 .rw[af];lia
 .rw[aJ];exact aE _
def rS{κ:Type}[DecidableEq κ]{kvs:List (κ×T)}{q:κ}{d:T}(h:getA kvs q=none):putA kvs q d=kvs++[(q,d)]:=by
 unfold putA;rw[ao];intro z;rw[any_eq_true] at z;obtain⟨e,he,hk⟩:=z;unfold getA at h;rw[Option.map_eq_none_iff,find?_eq_none] at h;exact h e he hk
def GOk.putD(g:GOk P w K G H)(h:(∃ kvs,G a=some (.dt kvs))\/(∃ kvs,G a=some (.dk kvs))\/H a=none)(hc:Kp G H (gput G a c) (upd H a o)->COk P w K (gput G a c) (upd H a o) a c):GOk P w K (gput G a c) (upd H a o)/\Stp G H (gput G a c) (upd H a o):=by
 have h':(∃ c,G a=some c)\/H a=none:=by
  rcases h with ⟨_,h⟩|⟨_,h⟩|h
  .exact .inl ⟨_,h⟩
  .exact .inl ⟨_,h⟩
  .exact .inr h
 have st:Stp G H (gput G a c) (upd H a o):=fun e u n he=>by
  have:e≠a:=fun z=>by
   subst z;rcases h' with ⟨_,h⟩|h
   .rw[n] at h;cases h
   .rw[he] at h;cases h
  exact⟨by rw[bC this];exact he,by rw[gp_n this];exact n⟩
 refine g.put h' (hc (st.kp g)) (fun e l he q z=>?_) fun e C dx fs he q z=>?_
 .subst z;obtain ⟨u,hu⟩:=(g e _ q).1.lo;have:=(g e _ q).2;rcases h with ⟨_,h⟩|⟨_,h⟩|h
  .rw[this] at h;cases h
  .rw[this] at h;cases h
  .rw[hu] at h;cases h
 .subst z;obtain ⟨_,_,qq,_⟩:=g e _ q;rcases h with ⟨_,h⟩|⟨_,h⟩|h
  .rw[h] at qq;cases qq
  .rw[h] at qq;cases qq
  .rw[g.free h] at qq;cases qq
def t6(h:∀ p,G p=none->k (.ptr p) (gput G p (.dt []))):We P w K uZ Γ G k:=fun H Z g ev Q z p hp=>by
 obtain⟨g2,s2⟩:=g.putD (c:=.dt []) (o:=.dT []) (.inr (.inr hp)) fun _=>⟨[],bP,.nil⟩;exact z _ _ _ _ s2 g2 .ptr (h p (g.free hp))
def Zo3(h:∀ p,G p=none->k (.ptr p) (gput G p (.dk []))):We P w K oI Γ G k:=fun H Z g ev Q z p hp=>by
 obtain⟨g2,s2⟩:=g.putD (c:=.dk []) (o:=.dK []) (.inr (.inr hp)) fun _=>⟨[],bP,.nil⟩;exact z _ _ _ _ s2 g2 .ptr (h p (g.free hp))
def AtD(G:GH)(x y:T)(r:Option T):Prop:=∃ a,x=.ptr a/\((∃ kvs ks,(G a=some (.dt kvs)\/∃ o vs,G a=some (.dz o vs kvs))/\y=keyT ks/\r=getA kvs ks)\/∃ kvs s,G a=some (.dk kvs)/\y=.str s/\r=getA kvs (.inr s:Key))
def AtD.of{u v:V}{r:Option T}(h:AtD G x y r)(g:GOk P w K G H)(rx:RepT K G H x u)(ry:RepT K G H y v):∃ a,u=.ref a/\((r=none/\DGet H a v none)\/∃ d w,r=some d/\RepT K G H d w/\DGet H a v (some w)):=by
 obtain⟨a,rfl,h⟩:=h;cases rx;refine⟨a,rfl,?_⟩;rcases h with ⟨kvs,ks,h,rfl,rfl⟩|⟨kvs,s,h,rfl,rfl⟩
 .cases ry with
  | @tup c us _ hc rc =>
   rw[uN rc] at hc;have:∃ kvs',Rd H a (.dT kvs')/\PA2 K G H kvs kvs':=by
    rcases h with h|⟨o,vs,h⟩
    .obtain ⟨kvs',e,pr⟩:=g a _ h;exact⟨kvs',.inl e,pr⟩
    .obtain ⟨e,pr⟩:=g a _ h;exact⟨vs,.inr ⟨o,e⟩,pr⟩
   obtain⟨kvs',e,pr⟩:=this;have dg:DGet H a (.ref c) (valV kvs' ks):=.inr ⟨kvs',ks,c,e,rfl,hc,rfl⟩;rcases vd pr ks with ⟨n1,n2⟩|⟨d,v,n1,n2,rd⟩
   .rw[n2] at dg;exact .inl ⟨n1,dg⟩
   .rw[n2] at dg;exact .inr ⟨d,v,n1,rd,dg⟩
 .cases ry;obtain ⟨kvs',e,pr⟩:=g a _ h;have dg:=DGet.k (k:=(.inr s:Key)) e;rcases vd pr (.inr s:Key) with ⟨n1,n2⟩|⟨d,v,n1,n2,rd⟩
  .rw[n2] at dg;exact .inl ⟨n1,dg⟩
  .rw[n2] at dg;exact .inr ⟨d,v,n1,rd,dg⟩
def ZkB(h:We P w K td Γ G fun x G1=>We P w K ty Γ G1 fun y G2=>∃ d,AtD G2 x y (some d)/\k d G2):We P w K (qL td ty) Γ G k:=fun H Z g ev Q z=>h H Z g ev _ fun v H1 x G1 s1 g1 r1 q1=>q1 H1 Z g1 (ev.mono g s1) _ fun v2 H2 y G2 s2 g2 r2 z0_=>by
 obtain⟨d,ad,q⟩:=z0_;obtain⟨a,rfl,⟨n,_⟩|⟨d',u,e,rd,dg⟩⟩:=ad.of g2 (r1.mono g1 s2) r2
 .cases n
 .cases e;exact⟨a,u,rfl,dg,(z.mono (s1.trans s2)).here g2 rd q⟩
def ZgG(h:We P w K ty Γ G fun y G1=>We P w K td Γ G1 fun x G2=>∃ r,AtD G2 x y r/\k (.bl (!r.isSome)) G2):We P w K (wB ty td) Γ G k:=fun H Z g ev Q z=>h H Z g ev _ fun v H1 y G1 s1 g1 r1 q1=>q1 H1 Z g1 (ev.mono g s1) _ fun v2 H2 x G2 s2 g2 r2 z0_=>by
 obtain⟨r,ad,q⟩:=z0_;obtain⟨a,rfl,⟨n,dg⟩|⟨d',u,e,rd,dg⟩⟩:=ad.of g2 r2 (r1.mono g1 s2)
 .subst n;exact⟨a,none,rfl,dg,(z.mono (s1.trans s2)).here g2 .bl q⟩
 .subst e;exact⟨a,_,rfl,dg,(z.mono (s1.trans s2)).here g2 .bl q⟩
def pP(h:We P w K tv Γ G fun d G1=>We P w K td Γ G1 fun x G2=>We P w K ty Γ G2 fun y G3=>∃ a kvs ks,x=.ptr a/\G3 a=some (.dt kvs)/\y=keyT ks/\kvs.length<100000/\D.nx Γ (gput G3 a (.dt (putA kvs ks d)))):Ws P w K (mU td ty tv) Γ G D:=fun H Z g ev D' z=>h H Z g ev _ fun v1 H1 d G1 s1 g1 r1 q1=>q1 H1 Z g1 (ev.mono g s1) _ fun v2 H2 x G2 s2 g2 r2 q2=>q2 H2 Z g2 (ev.mono g (s1.trans s2)) _ fun v3 H3 y G3 s3 g3 r3 z0_=>by
 obtain⟨a,kvs,ks,rfl,e3,rfl,hl,q⟩:=z0_;cases r2;cases r3 with
 | @tup c us _ hc rc =>
  rw[uN rc] at hc;obtain⟨kvs',h3,pr⟩:=g3 a _ e3;have rd:=r1.mono g1 (s2.trans s3);obtain⟨g4,s4⟩:=g3.putD (c:=.dt (putA kvs ks d)) (o:=.dT (putK kvs' ks v1)) (.inl ⟨_,e3⟩) fun kk=>⟨_,bP,gR (fun p s t=>⟨t.1,t.2.kp kk⟩) (sj pr ks rd)⟩;have s5:=s1.trans (s2.trans (s3.trans s4));exact⟨a,_,rfl,DPut.t h3 hc (by rw[<-Paired.length pr,PySem.sizeLine_eq];lia),z.nx _ _ Γ _ s5 g4 (ev.mono g s5) q⟩
def tY(h:We P w K tv Γ G fun d G1=>We P w K td Γ G1 fun x G2=>We P w K ty Γ G2 fun y G3=>∃ a kvs s,x=.ptr a/\G3 a=some (.dk kvs)/\y=.str s/\kvs.length<100000/\D.nx Γ (gput G3 a (.dk (putA kvs (.inr s) d)))):Ws P w K (mU td ty tv) Γ G D:=fun H Z g ev D' z=>h H Z g ev _ fun v1 H1 d G1 s1 g1 r1 q1=>q1 H1 Z g1 (ev.mono g s1) _ fun v2 H2 x G2 s2 g2 r2 q2=>q2 H2 Z g2 (ev.mono g (s1.trans s2)) _ fun v3 H3 y G3 s3 g3 r3 z0_=>by
 obtain⟨a,kvs,s,rfl,e3,rfl,hl,q⟩:=z0_;cases r2;cases r3;obtain⟨kvs',h3,pr⟩:=g3 a _ e3;have rd:=r1.mono g1 (s2.trans s3);obtain⟨g4,s4⟩:=g3.putD (c:=.dk (putA kvs (.inr s) d)) (o:=.dK (putK kvs' (.inr s) v1)) (.inr (.inl ⟨_,e3⟩)) fun kk=>⟨_,bP,gR (fun p s t=>⟨t.1,t.2.kp kk⟩) (sj pr (.inr s:Key) rd)⟩;have s5:=s1.trans (s2.trans (s3.trans s4));exact⟨a,_,rfl,DPut.k (k:=(.inr s:Key)) h3 (by rw[<-Paired.length pr,PySem.sizeLine_eq];lia),z.nx _ _ Γ _ s5 g4 (ev.mono g s5) q⟩
def wi_dt{kx:List T->(GH->Prop)->GH->Prop}(h:We P w K td Γ G fun x G1=>∃ a kvs,x=.ptr a/\G1 a=some (.dt kvs)/\∀ o vs,kx (kvs.map fun p=>keyT p.1) (fun G'=>G' a=some (.dz o vs kvs)) (gput G1 a (.dz o vs kvs))):Wi P w K (iDT td) Γ G kx:=fun H Z g ev Q z=>h H Z g ev _ fun v1 H1 x G1 s1 g1 r1 z0_=>by
 obtain⟨a,kvs,rfl,ea,q⟩:=z0_;cases r1;obtain⟨kvs',h1,pr⟩:=g1 a _ ea;refine⟨a,kvs',rfl,h1,fun o=>?_⟩;obtain⟨g2,s2⟩:=g1.putD (c:=.dz o kvs' kvs) (o:=.frz o (.dT kvs')) (.inl ⟨_,ea⟩) fun kk=>⟨bP,gR (fun p s t=>⟨t.1,t.2.kp kk⟩) pr⟩;refine z _ _ _ _ _ (s1.trans s2) g2 (fun G3 H3 s3 g3 e3=>?_) (q o kvs');obtain⟨h3,pr3⟩:=g3 a _ e3;have ln:=Paired.length pr3;refine⟨fun i x hx=>?_,h3,by rw[af,ln];exact aE _⟩;rw[ak] at hx;obtain⟨p,ep,rfl⟩:=bh.mp hx;have il:=(aT.mp ep).1;refine⟨⟨h3,by lia⟩,fun v H4 y=>?_⟩;obtain⟨rfl,b,ks,u,ek,rfl,hb⟩:=y;have z1:=(lW pr3 i ep ek).1;rw[z1];exact⟨fun _ _ e=>e,.tup hb (pG ks)⟩
def pN{t:TS}{i:Nat}{ts:List T}(e:Γ[i]?=some (some (.ptr a)))(n:G a=none)(h:Ws P w K t (Γ.set i (some (.lst ts))) G D):Ws P w K t Γ (gput G a (.lst ts)) D:=fun H Z g ev D' z=>by
 have gd:=g.del (a:=a) fun x e=>by rw[gp_s] at e;cases e
 obtain⟨xs,ha,rs⟩:=g a _ gp_s;have kk:Kp (gput G a (.lst ts)) H (gdel (gput G a (.lst ts)) a) H:=oY (ts:=ts) (a:=a);have rs:=rs.kp kk;rw[gp_d n] at gd rs kk;have st:Stp (gput G a (.lst ts)) H G H:=fun b o nb hb=>⟨hb,by
  by_cases hba:b=a
  .rw[hba];exact n
  .rwa [gp_n hba] at nb⟩
 have hl:i<Γ.length:=(aT.mp e).1;refine h H Z gd ⟨by rw[cC];exact ev.len,fun j t q=>?_⟩ D' (z.mono st);by_cases hij:i=j
 .subst hij;rw[gV hl] at q;cases q;obtain⟨v,hv,r⟩:=ev.at' i _ e;cases r;exact⟨_,hv,.lst n ha rs⟩
 .rw[jh hij] at q;obtain⟨v,hv,r⟩:=ev.at' j t q;exact⟨v,hv,r.kp kk⟩
def wj{t:T}(pl:PlT n t)(ht:∃ ts,t=.tup ts\/t=.lst ts)(hn:n<=40)(hl:lnT t<=1000000)(q:k (.str (shT t)) G):LNr P w K (rStrT K) [t] G k:=fun H us g r Q z=>by
 cases r with
 | cons r1 r2 =>
  cases r2;obtain⟨ts,rfl|rfl⟩:=ht
  .cases r1 with
   | tup ha rs=>exact⟨G,_,n,_,rfl,.tup ha rs,pl,hn,hl,z.here g .str q⟩
  .cases r1 with
   | lst ga ha rs=>exact⟨G,_,n,_,rfl,.lst ga ha rs,pl,hn,hl,z.here g .str q⟩
end
end L2
end
section
namespace L2
open PySem
abbrev plT(p:Int×Int):T:=.tup [.int p.1,.int p.2]
def plS(pl:List (Int×Int)):Str:=shT (.lst (pl.map plT))
abbrev plcs(l:List SF):List (Int×Int):=l.map fun s=>(s.1,s.2.1)
def ZlC{m n:Int}{c d:Nat}{x y:List Nat}(hc:c=44\/c=41)(hd:d=44\/d=41)(e:cs (numS m)++c::x=cs (numS n)++d::y):m=n/\x=y:=by
 have key:∀ {p q:List Nat},(∀ a∈p,a=45\/(48<=a/\a<=57))->(∀ a∈q,a=45\/(48<=a/\a<=57))->p++c::x=q++d::y->p=q/\x=y:=by
  intro p
  induction p with
  | nil =>
   intro q _ hq e;cases q with
   | nil=>injection e with _ e;exact⟨rfl,e⟩
   | cons a q =>
    injection e with e _
    have:=hq a aQ;lia
  | cons b p ih =>
   intro q hp hq e;cases q with
   | nil =>
    injection e with e _
    have:=hp b aQ;lia
   | cons a q =>
    injection e with e1 e2
    obtain⟨h1,h2⟩:=ih (fun a ha=>hp a (bD _ ha)) (fun a ha=>hq a (bD _ ha)) e2;exact⟨by rw[e1,h1],h2⟩
 obtain⟨h1,h2⟩:=key (kU m) (kU n) e;refine⟨?_,h2⟩;have val:∀ {a b:Int},cs (numS a)=cs (numS b)->a=b:=by
  intro a b e;rcases kX a with ⟨p,rfl,e1⟩|⟨p,hp,rfl,e1⟩ <;> rcases kX b with ⟨q,rfl,e2⟩|⟨q,hq,rfl,e2⟩
  .rw[e1,e2] at e;rw[<-mT p,<- mT q,e]
  .rw[e1,e2] at e;have:=mq p 45 (by rw[e];exact aQ);lia
  .rw[e1,e2] at e;have:=mq q 45 (by rw[<-e];exact aQ);lia
  .rw[e1,e2] at e;injection e with _ e
   rw[<-mT p,<- mT q,e]
 exact val h1
structure StL where
 n:Nat
 fr:List SF
 dd:T
abbrev stT(d:StL):T:=.tup [.int d.n,.lst (d.fr.map sfT),d.dd]
structure PpK(Q:List Df)(n:Nat)(fr:List SF):Prop where
 nb:n<=40
 ex:∃ f s,fr=f++[s]/\FrsOk Q n (10^60) f s
 cn:bY fr
abbrev L3i:=Int×Int×Int
abbrev lyT(x:L3i):T:=.tup [.int x.1,.int x.2.1,.int x.2.2]
def InFr(l:List SF)(i j:Int):Prop:=0<=i/\0<=j/\∃ s,l[i.toNat]?=some s/\j<s.2.2.length
structure LayOk(l:List SF)(lay:List L3i):Prop where
 len:lay.length<=40
 ok:∀ x∈lay,InFr l x.1 x.2.1/\x.2.2.natAbs<=2
def ZpV{l m:List SF}{B':Nat}(h1:∀ t∈l,SfOk Q n B t)(h2:∀ t∈m,SfOk Q n' B' t)(e:plcs l=plcs m)(h:InFr l i j):InFr m i j:=by
 obtain⟨hi,hj,s,es,hl⟩:=h;refine⟨hi,hj,?_⟩;have e1:(plcs l)[i.toNat]?=some (s.1,s.2.1):=by rw[ak,es];rfl
 rw[e,ak] at e1;obtain⟨t,et,eq⟩:=bh.mp e1;refine⟨t,et,?_⟩;obtain⟨d,r,a1,a2,a3,a4,a5⟩:=(h1 s (aF es)).ex;obtain⟨d',r',b1,b2,b3,b4,b5⟩:=(h2 t (aF et)).ex;have:t.1=s.1:=(Prod.mk.inj eq).1;rw[this,a2] at b2;cases b2;lia
def kj{κ:Type}[DecidableEq κ](kvs:List (κ×T))(q r:κ)(d:T):getA (putA kvs q d) r=if q=r then some d else getA kvs r:=by
 unfold getA putA;by_cases hx:(kvs.any fun kv=>decide (kv.1=q))=true
 .rw[am hx]
  induction kvs with
  | nil=>cases hx
  | cons e l ih =>
   rw[aP,eW,eW];by_cases h1:e.1=q
   .rw[am h1];by_cases h2:q=r
    .rw[am h2,aX (show e.1=r from h1.trans h2)];rfl
    .rw[ao h2,bz (show ¬ e.1=r from fun z=>h2 (h1.symm.trans z))];have ho:∀ l:List (κ×T),(List.find? (fun x=>decide (x.1=r)) (l.map fun kv=>if kv.1=q then (kv.1,d) else kv)).map (·.2)=(List.find? (fun x=>decide (x.1=r)) l).map (·.2):=fun l=>by
      induction l with
      | nil=>rfl
      | cons a l ih =>
       rw[aP,eW,eW];by_cases h3:a.1=q
       .rw[am h3,bz (show ¬ a.1=r from fun z=>h2 (h3.symm.trans z))];exact ih
       .rw[ao h3];by_cases h4:a.1=r
        .rw[aX h4]
        .rw[bz h4];exact ih
     exact ho l
   .rw[ao h1];have hx:(l.any fun kv=>decide (kv.1=q))=true:=by
     rw[gW,bz h1,nN] at hx;exact hx
    by_cases h4:e.1=r
    .rw[aX h4,ao (fun z=>h1 (h4.trans z.symm))]
    .rw[bz h4];exact ih hx
 .rw[ao hx,find?_append];have hn:∀ e∈kvs,¬ e.1=q:=fun e he z=>hx (any_eq_true.mpr ⟨e,he,aX z⟩);by_cases h2:q=r
  .rw[am h2];have:List.find? (fun x=>decide (x.1=r)) kvs=none:=find?_eq_none.mpr fun e he z=>hn e he ((lL z).trans h2.symm);rw[this,eW,aX h2];rfl
  .rw[ao h2,eW,bz h2,find?_nil,Option.or_none]
end L2
namespace L2
open PySem
structure LdSt(G G':GH)(b l la kd:Addr)(nw:List Addr)(lane:List StL)(kc:Ct):Prop where
 bag:G' b=some (.bag l)
 ln:G' la=some (.lst (lane.map stT))
 kn:G' kd=some kc
 old:∀ x,x∉nw->x≠la->x≠kd->G' x=G x
 fre:∀ x∈nw,G x=none/\∃ c,G' x=some c/\∀ y,c≠.own y
 nb:b∉nw/\la∉nw/\kd∉nw
 ne:la≠kd/\b≠la/\b≠kd
section
variable{G:GH}{b l la kd:Addr}{nw:List Addr}{lane:List StL}{kc:Ct}{c:Ct}
def LdSt.start(h1:G b=some (.bag l))(h2:G la=some (.lst (lane.map stT)))(h3:G kd=some kc)(h4:(∃ k,kc=.dt k)\/∃ k,kc=.dk k):LdSt G G b l la kd [] lane kc:=by
 refine⟨h1,h2,h3,fun _ _ _ _=>rfl,fun x hx=>(by cases hx),⟨cw,cw,cw⟩,fun e=>?_,fun e=>?_,fun e=>?_⟩
 .rw[e,h3] at h2;rcases h4 with ⟨_,rfl⟩|⟨_,rfl⟩ <;> cases h2
 .rw[e,h2] at h1;cases h1
 .rw[e,h3] at h1;rcases h4 with ⟨_,rfl⟩|⟨_,rfl⟩ <;> cases h1
def LdSt.put(h:LdSt G G' b l la kd nw lane kc)(ha:a∈nw)(hc:∀ y,c≠.own y):LdSt G (gput G' a c) b l la kd nw lane kc:=by
 have n1:b≠a:=fun e=>h.nb.1 (e▸ha);have n2:la≠a:=fun e=>h.nb.2.1 (e▸ha);have n3:kd≠a:=fun e=>h.nb.2.2 (e▸ha);refine⟨by rw[gp_n n1];exact h.bag,by rw[gp_n n2];exact h.ln,by rw[gp_n n3];exact h.kn,fun x h1 h2 h3=>?_,fun x hx=>⟨(h.fre x hx).1,?_⟩,h.nb,h.ne⟩
 .rw[gp_n (fun e=>h1 (by rw[e];exact ha))];exact h.old x h1 h2 h3
 .by_cases e':x=a
  .exact ⟨c,by rw[e',gp_s],hc⟩
  .rw[gp_n e'];exact(h.fre x hx).2
def LdSt.fresh(h:LdSt G G' b l la kd nw lane kc)(n:G' a=none)(hc:∀ y,c≠.own y):LdSt G (gput G' a c) b l la kd (a::nw) lane kc/\a∉nw/\a≠la/\a≠kd/\a≠b:=by
 have n1:a≠b:=fun e=>by rw[e,h.bag] at n;cases n
 have n2:a≠la:=fun e=>by rw[e,h.ln] at n;cases n
 have n3:a≠kd:=fun e=>by rw[e,h.kn] at n;cases n
 have n4:a∉nw:=fun q=>by
  obtain⟨_,c,e,_⟩:=h.fre a q;rw[n] at e;cases e
 have ga:G a=none:=by rw[<-h.old a n4 n2 n3];exact n
 refine⟨⟨by rw[gp_n n1.symm];exact h.bag,by rw[gp_n n2.symm];exact h.ln,by rw[gp_n n3.symm];exact h.kn,fun x h1 h2 h3=>?_,fun x hx=>?_,⟨?_,?_,?_⟩,h.ne⟩,n4,n2,n3,n1⟩
 .rw[aI,ci] at h1;rw[gp_n h1.1];exact h.old x h1.2 h2 h3
 .rcases aI.mp hx with rfl|hx
  .exact ⟨ga,c,gp_s,hc⟩
  .rw[gp_n (fun e=>n4 (by rw[<-e];exact hx))];exact h.fre x hx
 .rw[aI,ci];exact⟨n1.symm,h.nb.1⟩
 .rw[aI,ci];exact⟨n2.symm,h.nb.2.1⟩
 .rw[aI,ci];exact⟨n3.symm,h.nb.2.2⟩
def LdSt.app(h:LdSt G G' b l la kd nw lane kc)(lane':List StL):LdSt G (gput G' la (.lst (lane'.map stT))) b l la kd nw lane' kc:=by
 refine⟨by rw[gp_n h.ne.2.1];exact h.bag,gp_s,by rw[gp_n h.ne.1.symm];exact h.kn,fun x h1 h2 h3=>?_,fun x hx=>?_,h.nb,h.ne⟩
 .rw[gp_n h2];exact h.old x h1 h2 h3
 .rw[gp_n (fun e=>h.nb.2.1 (by rw[<-e];exact hx))];exact h.fre x hx
def LdSt.kput(h:LdSt G G' b l la kd nw lane kc)(c:Ct):LdSt G (gput G' kd c) b l la kd nw lane c:=by
 refine⟨by rw[gp_n h.ne.2.2];exact h.bag,by rw[gp_n h.ne.1];exact h.ln,gp_s,fun x h1 h2 h3=>?_,fun x hx=>?_,h.nb,h.ne⟩
 .rw[gp_n h3];exact h.old x h1 h2 h3
 .rw[gp_n (fun e=>h.nb.2.2 (by rw[<-e];exact hx))];exact h.fre x hx
def SubD(G0 G:GH):Prop:=∀ b,G0 b=G b\/(G0 b=none/\∀ x,G b≠some (.own x))
def SubD.gok{G:GH}(s:SubD G0 G){P:Program}{w:World}{K:W.Frag}(g:GOk P w K G H):GOk P w K G0 H/\Kp G H G0 H/\∀ b,G b=none->G0 b=none:=by
 have n0:∀ b,G b=none->G0 b=none:=fun b e=>by
  rcases s b with h|⟨h,_⟩
  .rw[h];exact e
  .exact h
 have kk:Kp G H G0 H:=⟨fun _ _ h=>h,fun c xs n h=>⟨h,n0 c n⟩⟩;refine⟨fun b c e=>?_,kk,n0⟩;have e':G b=some c:=by
  rcases s b with h|⟨h,_⟩
  .rw[<-h];exact e
  .rw[h] at e;cases e
 refine(g b c e').kp kk (fun _ h=>h) (fun l _=>⟨fun _ h=>h,n0 l⟩) fun C dx fs z q=>?_;rcases s dx with h|⟨h,h2⟩
 .rw[h];exact q
 .exact absurd q (h2 _)
def Zqk{G:GH}{k:T->GH->Prop}{d:T}(s:SubD G0 G)(h:Cl k d G0):Cl k d G:=by
 obtain⟨d',G',h1,h2,h3⟩:=h;refine⟨d',G',fun c q=>h1 c ?_,fun P w K H v g r=>?_,h3⟩
 .rcases s c with e|⟨e,_⟩
  .rw[e];exact q
  .exact e
 .obtain ⟨g2,k2,_⟩:=s.gok g;exact h2 P w K H v g2 (r.kp k2)
def LdSt.fin(h:LdSt G G' b l la kd nw lane kc){k:T->GH->Prop}{d:T}(q:Cl k d (gput (gput G la (.lst (lane.map stT))) kd kc)):Cl k d G':=by
 refine Zqk (fun x=>?_) q;by_cases h3:x=kd
 .subst h3;rw[gp_s,h.kn];exact .inl rfl
 by_cases h2:x=la
 .subst h2;rw[gp_n h3,gp_s,h.ln];exact .inl rfl
 rw[gp_n h3,gp_n h2];by_cases h1:x∈nw
 .obtain ⟨e1,c,e2,e3⟩:=h.fre x h1;exact .inr ⟨e1,fun y e=>by rw[e2] at e;cases e;exact e3 y rfl⟩
 .rw[h.old x h1 h2 h3];exact .inl rfl
end
end L2
namespace L2
open PySem
def eT{m i:Nat}{x:T}(h:(rngT m)[i]?=some x):x=.int (i:Int)/\i<m:=by
 unfold rngT at h;rw[ak] at h;obtain⟨j,ej,rfl⟩:=bh.mp h;have:=(aT.mp ej).1;rw[dC] at this;rw[kh this] at ej;cases ej;exact⟨rfl,this⟩
def ik{m:Nat}:(rngT m).length=m:=by unfold rngT;simp
end L2
namespace L2
open PySem
theorem tj{α : Type}{R : Nat->α->Prop} : ∀ (m : Nat), (∀ j, j<m->∃ x, R j x)->∃ xs : List α, xs.length=m/\∀ j x, xs[j]?=some x->R j x
  | 0, _=>⟨[], rfl, fun j x h=>by cases h⟩
  | m + 1, h => by
    obtain⟨xs,h1,h2⟩:=tj m fun j hj=>h j (by lia);obtain⟨x,hx⟩:=h m (by lia);refine⟨xs++[x],by rw[aJ,h1];rfl,fun j y e=>?_⟩;rcases dN e with ⟨_,e⟩|⟨e1,e2⟩
    . exact h2 j y e
    . rw[e1, e2, h1]; exact hx
def pap_ok{N:Nat}{s:SF}(h:FrsOk Q n B f s)(hN:N<=40){pap:List SF}(hl:pap.length=(f++[s]).length)(ha:∀ (i:Nat) t s',pap[i]?=some t->(f++[s])[i]?=some s'->t.1=s'.1/\t.2.1=s'.2.1/\t.2.2.length=s'.2.2.length/\∀ g∈t.2.2,Fo N (10^60) g/\Cano g):PpK Q N pap:=by
 have at':∀ (i:Nat) t,pap[i]?=some t->∃ s',(f++[s])[i]?=some s'/\t.1=s'.1/\t.2.1=s'.2.1/\t.2.2.length=s'.2.2.length/\∀ g∈t.2.2,Fo N (10^60) g/\Cano g:=fun i t e=>by
  have hi:=(aT.mp e).1;have es:(f++[s])[i]?=some ((f++[s])[i]'(by lia)):=aC _;exact⟨_,es,ha i t _ e es⟩
 have sok:∀ t∈pap,SfOk Q N (10^60) t:=fun t ht=>by
  obtain⟨i,hi⟩:=gr.mp ht;obtain⟨s',es,e1,e2,e3,e4⟩:=at' i t hi;obtain⟨d,r,a1,a2,a3,a4,a5⟩:=(h.all s' (aF es)).ex;exact⟨⟨d,r,by rw[e1];exact a1,by rw[e1];exact a2,by rw[e2];exact a3,by rw[e2];exact a4,by rw[e3];exact a5⟩,fun g hg=>(e4 g hg).1⟩
 have ne:pap≠[]:=fun e=>by rw[e,aJ] at hl;simp at hl
 have sp:pap=pap.dropLast++[pap.getLast ne]:=(rD ne).symm;have hdl:pap.dropLast.length=f.length:=by rw[length_dropLast,hl,aJ];simp
 refine⟨hN,⟨pap.dropLast,pap.getLast ne,sp,by rw[hdl];exact h.few,fun t ht=>sok t (by rw[sp];exact ht),fun t ht=>?_⟩,fun t ht g hg=>?_⟩
 .obtain ⟨i,hi⟩:=gr.mp ht;have il:=(aT.mp hi).1;have hp:pap[i]?=some t:=by rw[sp,cg il];exact hi
  obtain⟨s',es,e1,e2,_⟩:=at' i t hp;rw[cg (by lia)] at es;rw[e1,e2];exact h.call s' (aF es)
 .obtain ⟨i,hi⟩:=gr.mp ht;obtain⟨s',es,_,_,_,e4⟩:=at' i t hi;exact(e4 g hg).2
def pF{frm:List (List Key×T)}{key:List Key}{t:T}(h:(getA frm key).isSome=true):(getA (putA frm ks t) key).isSome=true:=by
 rw[kj];split
 .rfl
 .exact h
def xl{frm:List (List Key×T)}{t:T}:(getA (putA frm ks t) ks).isSome=true:=by rw[kj,am rfl];rfl
def kC{κ:Type}[DecidableEq κ]{kvs:List (κ×T)}{q:κ}{t:T}(h:getA kvs q=some t):(q,t)∈kvs:=by
 unfold getA at h;obtain⟨e,he,rfl⟩:=bh.mp h;have:=find?_some he;have eq:e.1=q:=lL this;rw[<-eq];exact mem_of_find?_eq_some he
def ZnC{κ:Type}[DecidableEq κ]{kvs:List (κ×T)}{e:κ×T}(h:e∈kvs):(getA kvs e.1).isSome=true:=by
 unfold getA;rw[rg,find?_isSome];exact⟨e,h,aX rfl⟩
def iu{N:Nat}{u:Nat}(hc:c.natAbs<=2)(hu:u<N):Fo N (10^60) (c,[(1,(u:Int))]):=⟨bo hc (by decide),fun p hp=>by rw[aK.mp hp];exact(by decide:(1:Int).natAbs<=10^60),fun p hp=>by rw[aK.mp hp];exact⟨by show (0:Int)<=(u:Int);lia,by show (u:Int)<N;lia⟩,by simp⟩
def pW{u:Int}:Cano (c,[(1,u)]):=⟨rC _ _,fun p hp=>by rw[aK.mp hp];exact(by decide:(1:Int)≠0)⟩
end L2
namespace L2
open PySem
def LdSt.del{G:GH}{b l la kd:Addr}{nw:List Addr}{lane:List StL}{kc:Ct}(h:LdSt G G' b l la kd (a::nw) lane kc)(na:a∉nw):LdSt G (gdel G' a) b l la kd nw lane kc:=by
 have ne:∀ x,x≠a->gdel G' a x=G' x:=fun x e=>by unfold gdel;rw[ao e]
 obtain⟨n1,n2,n3⟩:=h.nb;simp only[aI,ci] at n1 n2 n3;refine⟨by rw[ne _ n1.1];exact h.bag,by rw[ne _ n2.1];exact h.ln,by rw[ne _ n3.1];exact h.kn,fun x h1 h2 h3=>?_,fun x hx=>?_,⟨n1.2,n2.2,n3.2⟩,h.ne⟩
 .by_cases e:x=a
  .rw[e,(h.fre a aQ).1];unfold gdel;rw[am rfl]
  .rw[ne x e];exact h.old x (by rw[aI,ci];exact⟨e,h1⟩) h2 h3
 .rw[ne x (fun e=>na (by rw[<-e];exact hx))];exact h.fre x (bD _ hx)
end L2
namespace L2
open PySem
def PlD:Nat->T->Prop
 | 0,t=>(∃ i,t=.int i)\/∃ x,t=.str x
 | n+1,t=>(∃ i,t=.int i)\/(∃ x,t=.str x)\/∃ ts,t=.tup ts/\ts.length<=1000/\∀ u∈ts,PlD n u
def PlD.int{n:Nat}{i:Int}:PlD n (.int i):=by cases n <;> exact .inl ⟨i,rfl⟩
def PlD.str{n:Nat}{x:Str}:PlD n (.str x):=by
 cases n
 .exact .inr ⟨x,rfl⟩
 .exact .inr (.inl ⟨x,rfl⟩)
def PlD.tup{n:Nat}{ts:List T}(hl:ts.length<=1000)(h:∀ u∈ts,PlD n u):PlD (n+1) (.tup ts):=.inr (.inr ⟨ts,rfl,hl,h⟩)
theorem PlD.up : ∀ {n m : Nat} {t : T}, PlD n t->n<=m->PlD m t
  | 0, m, t, h, _=>by rcases h with ⟨i, rfl⟩ | ⟨x, rfl⟩; exact .int; exact .str
  | n+1, 0, _, _, h=>by lia
  | n + 1, m + 1, t, h, hl => by
    rcases h with ⟨i,rfl⟩|⟨x,rfl⟩|⟨ts,rfl,h1,h2⟩
    . exact .int
    . exact .str
    . exact .tup h1 fun u hu=>(h2 u hu).up (by lia)
def pld_fm{f:Fm}(h:f.2.length<=1000):PlD 3 (fmT f):=.tup (by simp) fun u hu=>by
 simp only[aI,cw,dh] at hu;rcases hu with rfl|rfl
 .exact .int
 .refine .tup (by rw[af];exact h) fun u hu=>?_;obtain⟨p,_,rfl⟩:=aU.mp hu;refine .tup (by simp) fun u hu=>?_;simp only[aI,cw,dh] at hu;rcases hu with rfl|rfl <;> exact .int
def qh(hl:fl.length<=1000)(h:∀ f∈fl,f.2.length<=1000):PlD 4 (.tup (fl.map fmT)):=.tup (by rw[af];exact hl) fun u hu=>by
 obtain⟨f,hf,rfl⟩:=aU.mp hu;exact pld_fm (h f hf)
end L2
namespace L2
open PySem
def tu:∀ (n:Nat) {t:T},PlT n t->(shT t).length<=lnT t:=by
 intro n;have num:∀ {t:T} {i:Int},t=.int i->i.natAbs<10^90->(shT t).length<=lnT t:=by
  rintro t i rfl h;simp only[shT,lnT];exact k9 h
 induction n with
 | zero=>rintro t ⟨i,e,h⟩;exact num e h
 | succ n ih =>
  rintro t (⟨i,e,h⟩|⟨ts,e,h⟩)
  .exact num e h
  .have all:∀ (ts:List T),(∀ u∈ts,PlT n u)->((shTs ts).map fun t=>t.length+2).sum<=lnTs ts:=fun ts=>by
    induction ts with
    | nil=>intro _;rw[shTs,lnTs];exact aE _
    | cons a ts ih2 =>
     intro h;have h1:=ih (h a aQ);have h2:=ih2 fun u hu=>h u (bD _ hu);rw[shTs,lnTs,aP,bW];lia
   have:=all ts h;rcases e with rfl|rfl
   .simp only[shT,lnT];exact bo (mf _) (by lia)
   .simp only[shT,lnT];exact bo (pi _) (by lia)
end L2
namespace L2
open PySem
theorem un_kv{α β : Type}{f : α->β}{S : α->Prop} : ∀ us : List β, (∀ u∈us, ∃ b, u=f b/\S b)->∃ l : List α, us=l.map f/\∀ b∈l, S b
  | [], _=>⟨[], rfl, fun b h=>nomatch h⟩
  | u :: us, h => by
    obtain⟨b,rfl,hb⟩:=h u aQ;obtain⟨l,rfl,hl⟩:=un_kv us fun u hu=>h u (bD _ hu);refine⟨b::l,rfl,fun c hc=>?_⟩;rcases aI.mp hc with rfl|hc
    . exact hb
    . exact hl c hc
def its_ok{its:List I3}(hl:its.length<64)(h:∀ p∈its,BdI p/\p.1.1.natAbs<1000):PlT 3 (.lst (its.map itT))/\(shT (.lst (its.map itT))).length<=100000:=by
 have one:∀ p∈its,PlT 2 (itT p)/\lnT (itT p)<=400:=fun p hp=>by
  obtain⟨b,c⟩:=h p hp;have n1:p.1.1.natAbs<10^90:=dU c (by decide);have n2:p.1.2.natAbs<10^90:=dU (show p.1.2.natAbs<2001 by have:=b.1;lia) (by decide);have n3:p.2.natAbs<10^90:=dU (show p.2.natAbs<2*10^9+1 by have:=b.2;lia) (by decide);refine⟨.inr ⟨_,.inl rfl,fun u hu=>?_⟩,by simp only[lnT,lnTs];lia⟩;rcases aI.mp hu with rfl|hu
  .refine .inr ⟨_,.inl rfl,fun u hu=>?_⟩;rcases aI.mp hu with rfl|hu
   .exact ⟨_,rfl,n1⟩
   .rw[aK.mp hu];exact⟨_,rfl,n2⟩
  .rw[aK.mp hu];exact .inl ⟨_,rfl,n3⟩
 have pl:PlT 3 (.lst (its.map itT)):=.inr ⟨_,.inr rfl,fun u hu=>by obtain⟨p,hp,rfl⟩:=aU.mp hu;exact(one p hp).1⟩;refine⟨pl,bo (tu 3 pl) ?_⟩;have:lnTs (its.map itT)<=(its.map itT).length*(400+2):=jQ fun x hx=>by
  obtain⟨p,hp,rfl⟩:=aU.mp hx;exact(one p hp).2
 rw[af] at this;simp only[lnT];lia
end L2
end
variable{lane:List L2.StL}{lay:List L2.L3i}
section
namespace L2
open PySem
def wP(v:Int->Int)(ps:List (Int×Int)):Int:=(ps.map fun p=>p.1*v p.2).sum
def wT(v:Int->Int)(t:List (Int×Int)):Int:=(t.map fun q=>q.2*v q.1).sum
theorem rY(v : Int->Int)(w x : Int) : ∀ t, wT v (addT t w x)=wT v t+x*v w
  | []=>by simp[addT, wT]
  | q :: r => by
    have ih:=rY v w x r;unfold wT at ih ⊢;rw[addT];split
    . rename_i h
      simp only[aP,bW];rw[<-h,Int.add_mul];lia
    . simp only[aP, bW]
      rw[ih];lia
theorem t9(v : Int->Int)(n : Int) : ∀ (ps t : List (Int×Int)), wT v (bu t ps n)=wT v t+n*wP v ps
  | [], t=>by simp[bu, wP]
  | p :: ps, t => by
    have ih:=t9 v n ps (addT t p.2 (p.1*n));show wT v (bu (addT t p.2 (p.1*n)) ps n)=_;rw[ih,rY];unfold wP;rw[aP,bW,Int.mul_add,kf p.1 n,Int.mul_assoc];lia
def ZmR{l m:List Int}(h:l.Perm m):l.sum=m.sum:=by
 induction h with
 | nil=>rfl
 | cons x _ ih=>rw[bW,bW,ih]
 | swap x y l=>simp only[bW];lia
 | trans _ _ h1 h2=>exact h1.trans h2
theorem xN(v : Int->Int)(t : List (Int×Int)) : ∀ ms : List Int, wP v (cx t ms)=(ms.map fun w=>bm t w*v w).sum
  | []=>rfl
  | w :: ms => by
    have ih:=xN v t ms;unfold cx wP at ih ⊢;rw[filter_cons];split
    . rw[aP, aP, bW, ih, aP, bW]
    . rename_i h
      have h:bm t w=0:=by simpa using h
      rw[ih,aP,bW,h];simp
theorem sI(v : Int->Int) : ∀ t : List (Int×Int), (t.map (·.1)).Nodup->((t.map (·.1)).map fun w=>bm t w*v w).sum=wT v t
  | [], _=>rfl
  | q :: t, h => by
    rw[aP,eh] at h;have ih:=sI v t h.2;unfold wT at ih ⊢;rw[aP,aP,bW,aP,bW,<- ih]
    congr 1
    . rw[bm, am rfl]
    . congr 1
      refine gj fun w hw=>?_;rw[bm, ao (fun e : q.1=w=>h.1 (by rw[e]; exact hw))]
def wP_wn(v:Int->Int){t:List (Int×Int)}(h:(t.map (·.1)).Nodup):wP v (cx t (sortI (t.map (·.1))))=wT v t:=by
 rw[xN,ZmR ((iB _).map _),sI v t h]
def undV(ws:List Int)(w:Int):Int:=ws.getD w.toNat 0
def undF(ws:List Int)(g:Fm):Int:=g.1+wP (undV ws) g.2
end L2
end
section
namespace L2
open PySem
abbrev flC(r:List T):List Nat:=(r.map fun t=>44::32::cs (shT t)).flatten
theorem qF:∀ l:List T,shTs l=l.map shT
 | []=>by rw[shTs];rfl
 | a::l=>by rw[shTs,qF l];rfl
def iA(ts:List T):cs (shT (.lst ts))=91::(match ts with|[]=>[]|t::r=>cs (shT t)++flC r)++[93]:=by
 rw[shT,vk,qF];cases ts with
 | nil=>rfl
 | cons t r=>simp[fM,Function.comp_def]
theorem jc : ∀ ts : List T, cs (shT (.tup ts)) = match ts with | [] => [40, 41] | [t] => 40 :: (cs (shT t) ++ [44, 41]) | t :: r => 40 :: (cs (shT t) ++ flC r ++ [41])
  | []=>by rw[shT, shTs]; rfl
  | [t] => by
    rw[shT,shTs,shTs];show cs (("(":Str)++Str.join ", " [shT t]++",)")=_;rw[dH,dH];show [40]++cs (shT t)++[44,41]=_;simp
  | t :: u :: r => by
    have key : ∀ (l : List Str) (a : Str), cs (Str.join ", " (a::l))=cs a++(l.map fun t=>44::32::cs t).flatten:=by
      intro l
      induction l with
      | nil=>intro a; show cs a=_; simp
      | cons b l ih =>
        intro a;show cs (a++", "++Str.join ", " (b::l))=_;rw[dH,dH,ih];show cs a++[44,32]++_=_;simp
    rw[shT,qF];show cs (("(":Str)++Str.join ", " ((t::u::r).map shT)++")")=_;rw[dH,dH,aP,key];show [40]++_++[41]=_;rw[fM];show [40]++(cs (shT t)++flC (u::r))++[41]=_;simp only[dB, dS]
def fA(x:List Nat):Prop:=∀ c r,x=c::r->c≠45/\¬ (48<=c/\c<=57)
def i9{c:Nat}{r:List Nat}(h:c≠45/\¬ (48<=c/\c<=57)):fA (c::r):=fun _ _ e=>by injection e with e _;rw[<-e];exact h
def jI:fA []:=fun _ _ e=>by cases e
def hW{l:List T}{e:Nat}{u:List Nat}(he:e=41\/e=93):fA (flC l++e::u):=by
 cases l with
 | nil=>exact i9 (by lia)
 | cons t l=>exact i9 (by lia)
def ZpS{m n:Int}{x y:List Nat}(hx:fA x)(hy:fA y)(e:cs (numS m)++x=cs (numS n)++y):m=n/\x=y:=by
 have key:∀ {p q:List Nat},(∀ a∈p,a=45\/(48<=a/\a<=57))->(∀ a∈q,a=45\/(48<=a/\a<=57))->p++x=q++y->p=q/\x=y:=by
  intro p
  induction p with
  | nil =>
   intro q _ hq e;cases q with
   | nil=>exact⟨rfl,e⟩
   | cons a q =>
    have:=hx a _ e;have:=hq a aQ;lia
  | cons b p ih =>
   intro q hp hq e;cases q with
   | nil =>
    have:=hy b _ e.symm;have:=hp b aQ;lia
   | cons a q =>
    injection e with e1 e2
    obtain⟨h1,h2⟩:=ih (fun a ha=>hp a (bD _ ha)) (fun a ha=>hq a (bD _ ha)) e2;exact⟨by rw[e1,h1],h2⟩
 obtain⟨h1,h2⟩:=key (kU m) (kU n) e;refine⟨(ZlC (c:=44) (d:=44) (x:=[]) (y:=[]) (.inl rfl) (.inl rfl) (by rw[h1])).1,h2⟩
def tP(i:Int):∃ c r,cs (numS i)=c::r/\(c=45\/(48<=c/\c<=57)):=by
 have h:=kU i;cases e:cs (numS i) with
 | nil =>
  exfalso;rcases kX i with ⟨m,_,e1⟩|⟨m,_,_,e1⟩
  .rw[e] at e1;exact Zqd m e1.symm
  .rw[e] at e1;cases e1
 | cons c r=>exact⟨c,r,rfl,h c (by rw[e];exact aQ)⟩
theorem qM{n : Nat}(ih : ∀ {t t' : T} {x y : List Nat}, PlT n t->PlT n t'->fA x->fA y->cs (shT t)++x=cs (shT t')++y->t=t'/\x=y){e : Nat}(he : e=41\/e=93) : ∀ {l m : List T} {u v : List Nat}, (∀ t∈l, PlT n t)->(∀ t∈m, PlT n t)->flC l++e::u=flC m++e::v->l=m/\u=v
  | [], [], u, v, _, _, z=>by injection z with _ z; exact⟨rfl, z⟩
  | [], t :: m, u, v, _, _, z => by
    have z:e::u=44::_:=z;injection z with z _
    lia
  | t :: l, [], u, v, _, _, z => by
    have z:44::_=e::v:=z;injection z with z _
    lia
  | t :: l, t' :: m, u, v, hl, hm, z => by
    have z:44::32::(cs (shT t)++flC l)++e::u=44::32::(cs (shT t')++flC m)++e::v:=z;rw[dB,dB,dB,dB,cv,cv] at z;injection z with _ z
    injection z with _ z
    obtain⟨h1,h2⟩:=ih (hl t aQ) (hm t' aQ) (hW he) (hW he) z;obtain⟨h3,h4⟩:=qM ih he (fun t ht=>hl t (bD _ ht)) (fun t ht=>hm t (bD _ ht)) h2;exact⟨by rw[h1, h3], h4⟩
def hd_pl{t:T}(h:PlT n t):(∃ i,t=.int i)\/(∃ ts,t=.tup ts/\∃ r,cs (shT t)=40::r)\/∃ ts,t=.lst ts/\∃ r,cs (shT t)=91::r:=by
 have key:(∃ i,t=.int i)\/∃ ts,t=.tup ts\/t=.lst ts:=by
  cases n with
  | zero=>obtain⟨i,e,_⟩:=h;exact .inl ⟨i,e⟩
  | succ n =>
   rcases h with ⟨i,e,_⟩|⟨ts,e,_⟩
   .exact .inl ⟨i,e⟩
   .exact .inr ⟨ts,e⟩
 rcases key with h|⟨ts,rfl|rfl⟩
 .exact .inl h
 .refine .inr (.inl ⟨ts,rfl,?_⟩);rw[jc]
  match ts with
  | []=>exact⟨_,rfl⟩
  | [_]=>exact⟨_,rfl⟩
  | _::_::_=>exact⟨_,rfl⟩
 .refine .inr (.inr ⟨ts,rfl,?_⟩);rw[iA];exact⟨_,rfl⟩
def jU{t:T}(h:PlT n t){x y:List Nat}{c:Nat}(hc:c=41\/c=93):cs (shT t)++x≠c::y:=fun e=>by
 rcases hd_pl h with ⟨i,rfl⟩|⟨ts,rfl,r,e2⟩|⟨ts,rfl,r,e2⟩
 .obtain ⟨d,r,e2,hd⟩:=tP i;have e:cs (numS i)++x=c::y:=e;rw[e2] at e;injection e with e _
  lia
 .rw[e2] at e;injection e with e _;lia
 .rw[e2] at e;injection e with e _;lia
def kJ:∀ {n:Nat} {t t':T} {x y:List Nat},PlT n t->PlT n t'->fA x->fA y->cs (shT t)++x=cs (shT t')++y->t=t'/\x=y:=by
 have two:∀ {i j:Int} {x y:List Nat},fA x->fA y->cs (shT (.int i))++x=cs (shT (.int j))++y->T.int i=.int j/\x=y:=fun {i j x y} hx hy e=>by
  have e:cs (numS i)++x=cs (numS j)++y:=e;obtain⟨h1,h2⟩:=ZpS hx hy e;exact⟨by rw[h1],h2⟩
 have hd:∀ {i:Int} {c:Nat} {x r y:List Nat},(c=40\/c=91)->cs (shT (.int i))++x=c::r++y->False:=fun {i c x r y} hc e=>by
  have e:cs (numS i)++x=c::r++y:=e;obtain⟨d,r2,e2,hd⟩:=tP i;rw[e2] at e;injection e with e _
  lia
 intro n
 induction n with
 | zero =>
  intro t t' x y h h' hx hy e;obtain⟨i,rfl,_⟩:=h;obtain⟨j,rfl,_⟩:=h';exact two hx hy e
 | succ n ih =>
  intro t t' x y h h' hx hy e;rcases h with ⟨i,rfl,_⟩|⟨ts,rfl|rfl,hp⟩
  .rcases h' with ⟨j,rfl,_⟩|⟨us,rfl|rfl,hq⟩
   .exact two hx hy e
   .obtain ⟨r,er⟩:∃ r,cs (shT (.tup us))=40::r:=by
     rw[jc]
     match us with
     | []=>exact⟨_,rfl⟩
     | [_]=>exact⟨_,rfl⟩
     | _::_::_=>exact⟨_,rfl⟩
    rw[er] at e;exact(hd (.inl rfl) e).elim
   .rw[iA us] at e;exact(hd (.inr rfl) e).elim
  .rcases h' with ⟨j,rfl,_⟩|⟨us,rfl|rfl,hq⟩
   .obtain ⟨r,er⟩:∃ r,cs (shT (.tup ts))=40::r:=by
     rw[jc]
     match ts with
     | []=>exact⟨_,rfl⟩
     | [_]=>exact⟨_,rfl⟩
     | _::_::_=>exact⟨_,rfl⟩
    rw[er] at e;exact(hd (.inl rfl) e.symm).elim
   .rw[jc,jc] at e
    match ts,us,hp,hq with
    | [],[],_,_ =>
     simp only[dB,cv,dS,List.cons.injEq,fc] at e;exact⟨rfl,e⟩
    | [],[a],_,hq =>
     simp only[dB,cv,dS,List.cons.injEq,fc] at e;exact(jU (hq a aQ) (.inl rfl) e.symm).elim
    | [],a::b::r,_,hq =>
     simp only[dB,cv,dS,List.cons.injEq,fc] at e;exact(jU (hq a aQ) (.inl rfl) e.symm).elim
    | [a],[],hp,_ =>
     simp only[dB,cv,dS,List.cons.injEq,fc] at e;exact(jU (hp a aQ) (.inl rfl) e).elim
    | a::b::r,[],hp,_ =>
     simp only[dB,cv,dS,List.cons.injEq,fc] at e;exact(jU (hp a aQ) (.inl rfl) e).elim
    | [a],[c],hp,hq =>
     simp only[dB,cv,dS,List.cons.injEq,fc] at e;obtain⟨h1,h2⟩:=ih (hp a aQ) (hq c aQ) (i9 (by lia)) (i9 (by lia)) e;simp only[List.cons.injEq,fc] at h2;exact⟨by rw[h1],h2⟩
    | [a],c::d::r,hp,hq =>
     simp only[dB,cv,dS,List.cons.injEq,fc] at e;obtain⟨_,h2⟩:=ih (hp a aQ) (hq c aQ) (i9 (by lia)) (hW (.inl rfl)) e;injection h2 with _ h2
     injection h2 with h2 _
     lia
    | a::b::r,[c],hp,hq =>
     simp only[dB,cv,dS,List.cons.injEq,fc] at e;obtain⟨_,h2⟩:=ih (hp a aQ) (hq c aQ) (hW (.inl rfl)) (i9 (by lia)) e;injection h2 with _ h2
     injection h2 with h2 _
     lia
    | a::b::r,c::d::r',hp,hq =>
     simp only[dB,cv,dS,List.cons.injEq,fc] at e;obtain⟨h1,h2⟩:=ih (hp a aQ) (hq c aQ) (hW (.inl rfl)) (hW (.inl rfl)) e;obtain⟨h3,h4⟩:=qM ih (.inl rfl) (fun t ht=>hp t (bD _ ht)) (fun t ht=>hq t (bD _ ht)) h2;exact⟨by rw[h1,h3],h4⟩
   .obtain ⟨r,er⟩:∃ r,cs (shT (.tup ts))=40::r:=by
     rw[jc]
     match ts with
     | []=>exact⟨_,rfl⟩
     | [_]=>exact⟨_,rfl⟩
     | _::_::_=>exact⟨_,rfl⟩
    rw[er,iA] at e;injection e with e _
    lia
  .rcases h' with ⟨j,rfl,_⟩|⟨us,rfl|rfl,hq⟩
   .rw[iA ts] at e;exact(hd (.inr rfl) e.symm).elim
   .obtain ⟨r,er⟩:∃ r,cs (shT (.tup us))=40::r:=by
     rw[jc]
     match us with
     | []=>exact⟨_,rfl⟩
     | [_]=>exact⟨_,rfl⟩
     | _::_::_=>exact⟨_,rfl⟩
    rw[er,iA] at e;injection e with e _
    lia
   .rw[iA,iA] at e
    match ts,us,hp,hq with
    | [],[],_,_ =>
     simp only[dB,cv,dS,List.cons.injEq,fc] at e;exact⟨rfl,e⟩
    | [],a::r,_,hq =>
     simp only[dB,cv,dS,List.cons.injEq,fc] at e;exact(jU (hq a aQ) (.inr rfl) e.symm).elim
    | a::r,[],hp,_ =>
     simp only[dB,cv,dS,List.cons.injEq,fc] at e;exact(jU (hp a aQ) (.inr rfl) e).elim
    | a::r,c::r',hp,hq =>
     simp only[dB,cv,dS,List.cons.injEq,fc] at e;obtain⟨h1,h2⟩:=ih (hp a aQ) (hq c aQ) (hW (.inr rfl)) (hW (.inr rfl)) e;obtain⟨h3,h4⟩:=qM ih (.inr rfl) (fun t ht=>hp t (bD _ ht)) (fun t ht=>hq t (bD _ ht)) h2;exact⟨by rw[h1,h3],h4⟩
def Zpz{u:Nat}{g:Fm}(e:fl[u]?=some g)(hg:Cano g):bF (c,[(1,(u:Int))]) fl=(c+g.1,g.2):=by
 have en:nthF fl (u:Int)=g:=by unfold nthF;rw[bB,cJ,e];rfl
 refine i8 (iY _ _) (show Cano (c+g.1,g.2) from hg) ?_ fun w=>?_
 .show c+1*(nthF fl (u:Int)).1=_;rw[en];lia
 .show atW (wnF _ _).2 w=_;rw[kL (iU _ _),qT];unfold putAt;simp only[aP,gc,bW,sum_nil];rw[en];lia
def Zj2{f:Fm}{m:Int}(hf:Cano f):cb f (c,[]) m=(f.1+m*c,f.2):=i8 (iw _ _ _) (show Cano (f.1+m*c,f.2) from hf) rfl fun w=>by
 rw[mW];show atW f.2 w+0*m=atW f.2 w;lia
def Zna{u:Nat}{f:Fm}(e:fl[u]?=some (cb f (c,[]) (-1)))(hf:Cano f):bF (c,[(1,(u:Int))]) fl=f:=by
 rw[Zpz e (iw _ _ _),Zj2 hf];exact Prod.ext (show c+(f.1+-1*c)=f.1 by lia) rfl
theorem sP(v : Int->Int)(fl : List Fm) : ∀ (ps : List (Int×Int)) (t : List (Int×Int)), wT v (ps.foldl (fun t p=>bu t (nthF fl p.2).2 p.1) t)=wT v t+(ps.map fun p=>p.1*wP v (nthF fl p.2).2).sum
  | [], t=>by simp
  | p :: ps, t => by
    rw[foldl_cons,sP v fl ps,t9,aP,bW];lia
theorem xy(fl : List Fm) : ∀ (ps : List (Int×Int)) (c : Int), putC c ps fl=c+(ps.map fun p=>p.1*(nthF fl p.2).1).sum
  | [], c=>by simp[putC]
  | p :: ps, c => by
    have:=xy fl ps (c+p.1*(nthF fl p.2).1);unfold putC at this ⊢;rw[foldl_cons,this,aP,bW];lia
def sd(ws:List Int)(fl:List Fm)(w:Int):undV (fl.map (undF ws)) w=undF ws (nthF fl w):=by
 unfold undV nthF;rw[cJ,cJ,ak];cases fl[w.toNat]? <;> rfl
def kt(ws:List Int)(f:Fm)(fl:List Fm):undF ws (bF f fl)=undF (fl.map (undF ws)) f:=by
 have h1:undF ws (bF f fl)=putC f.1 f.2 fl+wT (undV ws) (de f.2 fl):=by
  show putC f.1 f.2 fl+wP (undV ws) (cx _ (sortI _))=_;rw[wP_wn _ (iU _ _)]
 rw[h1,xy];unfold de;rw[sP];have h0:wT (undV ws) []=0:=rfl;rw[h0];unfold undF wP;have:∀ ps:List (Int×Int),(ps.map fun p=>p.1*(nthF fl p.2).1).sum+(ps.map fun p=>p.1*wP (undV ws) (nthF fl p.2).2).sum=(ps.map fun p=>p.1*undV (fl.map (undF ws)) p.2).sum:=by
  intro ps
  induction ps with
  | nil=>rfl
  | cons p ps ih =>
   simp only[aP,bW];rw[<-ih,sd];unfold undF;rw[Int.mul_add];lia
 have:=this f.2;unfold undF at this;unfold wP at this;lia
theorem qg{w : Nat} : ∀ {ps : List (Int×Int)}, (∀ p∈ps, 0<=p.2)->wP (undV (List.replicate w 0++[1])) ps=atW ps (w : Int)
  | [], _=>rfl
  | p :: ps, h => by
    have ih:=qg (w:=w) (ps:=ps) fun q hq=>h q (bD _ hq);have hp:=h p aQ;unfold wP atW at ih ⊢;rw[aP,bW,aP,bW,ih]
    congr 1
    have : undV (List.replicate w 0 ++ [1]) p.2 = if p.2 = (w : Int) then 1 else 0 := by
      unfold undV;rw[cJ];by_cases e:p.2=(w:Int)
      . rw[am e, e, bB]
        simp
      . rw[ao e]
        by_cases hlt:p.2.toNat<w
        . rw[cg (by simpa using hlt), jX, am hlt]; rfl
        . rw[fK (by simpa using rh hlt)]
          have:p.2.toNat-(List.replicate w (0:Int)).length≠0:=by rw[iC];lia
          obtain⟨k,hk⟩:=Nat.exists_eq_succ_of_ne_zero this;rw[hk];rfl
    rw[this];split <;> simp
def ut(ps:List (Int×Int)):wP (undV []) ps=0:=by
 induction ps with
 | nil=>rfl
 | cons p ps ih =>
  unfold wP at ih ⊢;rw[aP,bW,ih];show p.1*0+0=0;lia
def vP{ps:List (Int×Int)}{w:Int}(hw:w<0)(h:∀ p∈ps,0<=p.2):atW ps w=0:=by
 induction ps with
 | nil=>rfl
 | cons p ps ih =>
  have ih:=ih fun q hq=>h q (bD _ hq);have:=h p aQ;unfold atW at ih ⊢;rw[aP,bW,ih,ao (by lia)];rfl
def xC{f g:Fm}(hf:Cano f)(hg:Cano g)(pf:∀ p∈f.2,0<=p.2)(pg:∀ p∈g.2,0<=p.2)(h:∀ ws,undF ws f=undF ws g):f=g:=by
 have h0:f.1=g.1:=by
  have:=h [];unfold undF at this;rw[ut,ut] at this;lia
 refine i8 hf hg h0 fun w=>?_;by_cases hw:w<0
 .rw[vP hw pf,vP hw pg]
 .obtain ⟨n,rfl⟩:=q9 (Int.not_lt.mp hw);have:=h (List.replicate n 0++[1]);unfold undF at this;rw[qg pf,qg pg,h0] at this;exact Int.add_left_cancel this
def ZnU{t:List (Int×Int)}{w x k:Int}(h:k∈(addT t w x).map (·.1)):k∈t.map (·.1)\/k=w:=by
 induction t with
 | nil=>simp[addT] at h;exact .inr h
 | cons q t ih =>
  rw[addT] at h;split at h
  .exact .inl h
  .rw[aP] at h ⊢;rcases aI.mp h with h|h
   .exact .inl (by rw[h];exact aQ)
   .exact (ih h).imp (bD _) id
theorem kP{n k : Int} : ∀ {ps t : List (Int×Int)}, k∈(bu t ps n).map (·.1)->k∈t.map (·.1)\/k∈ps.map (·.2)
  | [], t, h=>.inl h
  | p :: ps, t, h => by
    rcases kP (ps:=ps) (t:=addT t p.2 (p.1*n)) h with h|h
    . rcases ZnU h with h | h
      . exact .inl h
      . exact .inr (by rw[h, aP]; exact aQ)
    . exact .inr (by rw[aP]; exact bD _ h)
def qe{t:List (Int×Int)}{p:Int×Int}(h:p∈(wnF c t).2):p.2∈t.map (·.1):=by
 have h:p∈cx t (sortI (t.map (·.1))):=h;unfold cx at h;obtain⟨w,hw,rfl⟩:=aU.mp h;exact(iB _).mem_iff.mp (lr.mp hw).1
def uQ{f:Fm}{p:Int×Int}(h:p∈(bF f fl).2):∃ q∈f.2,∃ r∈(nthF fl q.2).2,r.2=p.2:=by
 have key:∀ (ps t:List (Int×Int)) (k:Int),k∈(ps.foldl (fun t p=>bu t (nthF fl p.2).2 p.1) t).map (·.1)->k∈t.map (·.1)\/∃ q∈ps,∃ r∈(nthF fl q.2).2,r.2=k:=by
  intro ps
  induction ps with
  | nil=>exact fun t k h=>.inl h
  | cons q ps ih =>
   intro t k h;rw[foldl_cons] at h;rcases ih _ k h with h|⟨q',h1,h2⟩
   .rcases kP h with h|h
    .exact .inl h
    .obtain ⟨r,h1,h2⟩:=aU.mp h;exact .inr ⟨q,aQ,r,h1,h2⟩
   .exact .inr ⟨q',bD _ h1,h2⟩
 rcases key f.2 [] p.2 (qe h) with h|h
 .cases h
 .exact h
def PsW(f:Fm):Prop:=∀ p∈f.2,0<=p.2
def nth_in{w:Int}:nthF fl w∈fl\/nthF fl w=(0,[]):=by
 unfold nthF;rw[cJ];cases e:fl[w.toNat]? with
 | none=>exact .inr rfl
 | some g=>exact .inl (aF e)
def mN{f:Fm}(h:∀ g∈fl,PsW g):PsW (bF f fl):=fun p hp=>by
 obtain⟨q,_,r,hr,e⟩:=uQ hp;rw[<-e];rcases nth_in (fl:=fl) (w:=q.2) with hm|hm
 .exact h _ hm r hr
 .rw[hm] at hr;cases hr
def Zm9{f:Fm}{moves:List Fm}(ho:∀ g∈own,PsW g):bF f (moves.map fun g=>bF g own)=bF (bF f moves) own:=by
 refine xC (iY _ _) (iY _ _) (mN fun g hg=>?_) (mN ho) fun ws=>?_
 .obtain ⟨g',_,rfl⟩:=aU.mp hg;exact mN ho
 .rw[kt,kt,kt,fM]
  congr 1
  exact gj fun g _=>kt ws g own
def jK(n:Nat):∀ g∈ay n,PsW g:=fun g hg p hp=>by
 unfold ay at hg;obtain⟨i,_,rfl⟩:=aU.mp hg;rw[aK.mp hp];exact Int.natCast_nonneg i
def ZkN{ws vs:List Int}{f:Fm}(h:∀ p∈f.2,undV ws p.2=undV vs p.2):undF ws f=undF vs f:=by
 unfold undF wP
 congr 2
 exact gj fun p hp=>by rw[h p hp]
def xc{f:Fm}(hf:Cano f)(hp:PsW f)(ho:∀ g∈own,PsW g)(h:∀ p∈f.2,nthF own p.2=ofW p.2):bF f own=f:=by
 refine xC (iY _ _) hf (mN ho) hp fun ws=>?_;rw[kt];refine ZkN fun p hp=>?_;rw[sd,h p hp];show 0+(1*undV ws p.2+0)=_;lia
def Zmf{l:List SF}{moves:List Fm}(ho:∀ g∈own,PsW g):l.map (bJ (moves.map fun g=>bF g own))=(l.map (bJ moves)).map (bJ own):=by
 rw[fM];refine gj fun t _=>?_;show (t.1,t.2.1,_)=(t.1,t.2.1,_)
 congr 2
 show _=(t.2.2.map _).map _;rw[fM];exact gj fun f _=>Zm9 ho
def gAt(fs:List SF)(x:L3i):Fm:=((fs[x.1.toNat]?).map fun s=>gtF s x.2.1).getD (0,[])
def gAt_at{fs:List SF}{i j:Nat}{s:SF}{g:Fm}(e:fs[i]?=some s)(e2:s.2.2[j]?=some g):gAt fs ((i:Int),(j:Int),c)=g:=by
 unfold gAt gtF;simp only[bB];rw[e,gh,rA,cJ,e2];rfl
structure Laid(l:List SF)(its:List I3)(lay:List L3i)(fr:List SF):Prop where
 pl:plcs fr=plcs l
 len:∀ (i:Nat) s t,l[i]?=some s->fr[i]?=some t->t.2.2.length=s.2.2.length
 bx:∀ (i j:Nat) t g,fr[i]?=some t->t.2.2[j]?=some g->(∃ c,(((i:Int),(j:Int)),c)∈its/\g=(c,[]))\/∃ (u:Nat) (c:Int),lay[u]?=some ((i:Int),(j:Int),c)/\g=(c,[(1,(u:Int))])
def mvF(l:List SF)(lay:List L3i):List Fm:=lay.map fun x=>cb (gAt l x) (x.2.2,[]) (-1)
def xh{l l':List SF}{its:List I3}{fr:List SF}(L:Laid l its lay fr)(e:plcs l'=plcs l)(hl:∀ (i:Nat) s t,l[i]?=some s->l'[i]?=some t->t.2.2.length=s.2.2.length)(kn:∀ (i j:Nat) c s g,(((i:Int),(j:Int)),c)∈its->l'[i]?=some s->s.2.2[j]?=some g->g=(c,[]))(cn:bY l'):fr.map (bJ (mvF l' lay))=l':=by
 have e1:fr.length=l'.length:=by
  have:=congrArg List.length (L.pl.trans e.symm)
  rwa [af,af] at this
 have e0:l.length=l'.length:=by
  have:=congrArg List.length e;rw[af,af] at this;exact this.symm
 refine iJ fun i=>?_;rw[ak];by_cases hi:i<l'.length
 .have a1:fr[i]?=some (fr[i]'(by lia)):=aC _;have a2:l'[i]?=some l'[i]:=aC hi;have a3:l[i]?=some (l[i]'(by lia)):=aC _;generalize fr[i]'(by lia)=t at a1;generalize l'[i]=s at a2;generalize l[i]'(by lia)=s0 at a3;have ep:(t.1,t.2.1)=(s.1,s.2.1):=by
   have h1:(plcs fr)[i]?=some (t.1,t.2.1):=by rw[ak,a1];rfl
   have h2:(plcs l')[i]?=some (s.1,s.2.1):=by rw[ak,a2];rfl
   rw[L.pl,<- e,h2] at h1;injection h1 with h1
   exact h1.symm
  injection ep with p1 p2
  have el:t.2.2.length=s.2.2.length:=by rw[L.len i s0 t a3 a1,hl i s0 s a3 a2]
  rw[a1,a2,gh]
  congr 1
  refine Prod.ext p1 (Prod.ext p2 ?_);show t.2.2.map (fun f=>bF f (mvF l' lay))=s.2.2;refine iJ fun j=>?_;rw[ak];by_cases hj:j<s.2.2.length
  .have b1:t.2.2[j]?=some (t.2.2[j]'(by lia)):=aC _;have b2:s.2.2[j]?=some s.2.2[j]:=aC hj;generalize t.2.2[j]'(by lia)=g at b1;generalize s.2.2[j]=g' at b2;rw[b1,b2,gh]
   congr 1
   rcases L.bx i j t g a1 b1 with ⟨c,hc,rfl⟩|⟨u,c,hu,rfl⟩
   .rw[vT,kn i j c s g' hc a2 b2]
   .refine Zna ?_ (cn s (aF a2) g' (aF b2));show (lay.map _)[u]?=_;rw[ak,hu,gh];show some (cb (gAt l' ((i:Int),(j:Int),c)) (c,[]) (-1))=_;rw[gAt_at a2 b2]
  .rw[eB (by lia),eB (by lia)];rfl
 .rw[eB (by lia),eB (by lia)];rfl
theorem jD{α β : Type}{f : α->β}(hf : ∀ a b, f a=f b->a=b) : ∀ {l m : List α}, l.map f=m.map f->l=m
  | [], [], _=>rfl
  | [], _::_, h=>by cases h
  | _::_, [], h=>by cases h
  | a :: l, b :: m, h => by
    injection h with h1 h2
    rw[hf a b h1, jD hf h2]
def pZ(a b:Int×Int)(h:prT a=prT b):a=b:=by
 injection h with h
 injection h with h1 h2
 injection h2 with h2 _
 injection h1 with h1
 injection h2 with h2
 exact Prod.ext h1 h2
def Zqc(a b:Fm)(h:fmT a=fmT b):a=b:=by
 injection h with h
 injection h with h1 h2
 injection h2 with h2 _
 injection h1 with h1
 injection h2 with h2
 exact Prod.ext h1 (jD pZ h2)
def Zpi(a b:SF)(h:sfT a=sfT b):a=b:=by
 injection h with h
 injection h with h1 h
 injection h with h2 h
 injection h with h3 _
 injection h1 with h1
 injection h2 with h2
 injection h3 with h3
 exact Prod.ext h1 (Prod.ext h2 (jD Zqc h3))
def Zp8(a b:I3)(h:itT a=itT b):a=b:=by
 injection h with h
 injection h with h1 h
 injection h with h2 _
 injection h2 with h2
 exact Prod.ext (pZ a.1 b.1 h1) h2
theorem vY : ∀ {n : Nat} {t : T}, PlT n t->PlT (n+1) t
  | 0, _, h=>.inl h
  | n + 1, t, h => by
    rcases h with h|⟨ts,e,hp⟩
    . exact .inl h
    . exact .inr ⟨ts, e, fun u hu=>vY (hp u hu)⟩
def jv{m:Nat}{t:T}(h:PlT n t)(l:n<=m):PlT m t:=by
 induction l with
 | refl=>exact h
 | step _ ih=>exact vY ih
def IsMany(fs:List SF)(m:Int):Prop:=0<=m/\(∀ t∈fs,∀ g∈t.2.2,∀ p∈g.2,p.2<m)/\(m=0\/∃ t∈fs,∃ g∈t.2.2,∃ p∈g.2,p.2+1=m)
def IsMany.one{fs:List SF}{m m':Int}(h:IsMany fs m)(h':IsMany fs m'):m=m':=by
 have key:∀ {m m':Int},IsMany fs m->IsMany fs m'->m<=m':=fun {m m'} h h'=>by
  rcases h.2.2 with e|⟨t,ht,g,hg,p,hp,e⟩
  .have:=h'.1;lia
  .have:=h'.2.1 t ht g hg p hp;lia
 exact Int.le_antisymm (key h h') (key h' h)
abbrev pnL(lane:List StL):List (Nat×List SF):=lane.map fun d=>(d.n,d.fr)
structure KyA(n:Nat)(fr:List SF)(s:Str):Prop where
 ne:fr≠[]
 m:IsMany fr n
 s:s=shT (.lst (fr.map sfT))
 p:PlT 8 (.lst (fr.map sfT))
structure KyB(Q:List Df)(n:Nat)(fr:List SF)(s:Str)(l:List SF)(its:List I3)(lay:List L3i):Prop where
 s:s=plS (plcs l)++shT (.lst (its.map itT))
 p1:PlT 8 (.lst ((plcs l).map plT))
 p2:PlT 8 (.lst (its.map itT))
 ld:Laid l its lay fr
 n:n=lay.length
 ok:∃ n' B',∀ t∈l,SfOk Q n' B' t
 ly:LayOk l lay
def KyS(Q:List Df)(P:List (Nat×List SF))(e:Key×T):Prop:=∃ (s:Str) (k:Nat) (lay:List L3i) (n:Nat) (fr:List SF),e=(.inr s,.tup [.int k,.lst (lay.map lyT)])/\P[k]?=some (n,fr)/\((lay=[]/\KyA n fr s)\/∃ l its,KyB Q n fr s l its lay)
def KyS.up{P:List (Nat×List SF)}{e:Key×T}(h:KyS Q P e):KyS Q (P++P') e:=by
 obtain⟨s,k,lay,n,fr,h1,h2,h3⟩:=h;exact⟨s,k,lay,n,fr,h1,by rw[cg (aT.mp h2).1];exact h2,h3⟩
structure LnS(Q:List Df)(lane:List StL)(kvs:List (Key×T)):Prop where
 st:∀ d∈lane,PpK Q d.n d.fr/\PlD 8 d.dd
 ky:∀ e∈kvs,KyS Q (pnL lane) e
 kl:kvs.length<=lane.length
 ch:∀ d∈lane,Chn Q (plcF d.fr)
def LnS.snoc{kvs:List (Key×T)}(h:LnS Q lane kvs){d:StL}(h1:PpK Q d.n d.fr)(h2:PlD 8 d.dd)(h4:Chn Q (plcF d.fr)){s:Str}(hs:getA kvs (.inr s:Key)=none)(h3:(lay=[]/\KyA d.n d.fr s)\/∃ l its,KyB Q d.n d.fr s l its lay):LnS Q (lane++[d]) (putA kvs (.inr s:Key) (.tup [.int lane.length,.lst (lay.map lyT)])):=by
 have ll:(lane++[d]).length=lane.length+1:=by rw[aJ];rfl
 have lp:pnL (lane++[d])=pnL lane++[(d.n,d.fr)]:=aY;rw[rS hs];refine⟨fun e he=>?_,fun e he=>?_,by rw[aJ,ll];have:=h.kl;simp;lia,fun e he=>(aR.mp he).elim (h.ch e) fun he=>by rw[aK.mp he];exact h4⟩
 .rcases aR.mp he with he|he
  .exact h.st e he
  .rw[aK.mp he];exact⟨h1,h2⟩
 .rw[lp];rcases aR.mp he with he|he
  .exact (h.ky e he).up
  .rw[aK.mp he];refine⟨s,lane.length,lay,d.n,d.fr,rfl,?_,h3⟩;have:(pnL lane).length=lane.length:=af _;rw[<-this];exact cE
def LnS.at{kvs:List (Key×T)}(h:LnS Q lane kvs){s:Str}{t:T}(e:getA kvs (.inr s:Key)=some t):∃ (k:Nat) (lay:List L3i) (n:Nat) (fr:List SF),t=.tup [.int k,.lst (lay.map lyT)]/\(pnL lane)[k]?=some (n,fr)/\((lay=[]/\KyA n fr s)\/∃ l its,KyB Q n fr s l its lay):=by
 obtain⟨s',k,lay,n,fr,e1,e2,e3⟩:=h.ky _ (kC e);injection e1 with a1 a2
 injection a1 with a1
 subst a1;exact⟨k,lay,n,fr,a2,e2,e3⟩
def lV{ts:List T}{x:List Nat}:fA (cs (shT (.lst ts))++x):=by
 rw[iA];exact i9 (by lia)
def key_ab{fr:List SF}{s:Str}{l:List SF}{its:List I3}(a:KyA n fr s)(b:KyB Q n' fr' s l its lay):False:=by
 have e:=congrArg cs (a.s.symm.trans b.s);rw[dH,<- dR (cs (shT (.lst (fr.map sfT))))] at e;have e2:cs (shT (.lst (fr.map sfT)))++[]=cs (shT (.lst ((plcs l).map plT)))++(cs (shT (.lst (its.map itT)))++[]):=by rw[dR (cs (shT (.lst (its.map itT))))];exact e
 obtain⟨h1,_⟩:=kJ a.p b.p1 jI lV e2;injection h1 with h1
 cases hf:fr with
 | nil=>exact a.ne hf
 | cons t fr2 =>
  rw[hf] at h1;cases hl:plcs l with
  | nil=>rw[hl] at h1;cases h1
  | cons q l2 =>
   rw[hl] at h1;injection h1 with h1 _
   injection h1 with h1
   injection h1 with _ h1
   injection h1 with _ h1
   cases h1
def key_aa{fr:List SF}{s:Str}(a:KyA n fr s)(b:KyA n' fr' s):fr=fr'/\n=n':=by
 have e:=congrArg cs (a.s.symm.trans b.s);rw[<-dR (cs (shT (.lst (fr.map sfT)))),<- dR (cs (shT (.lst (fr'.map sfT))))] at e;obtain⟨h1,_⟩:=kJ a.p b.p jI jI e;injection h1 with h1
 have h1:=jD Zpi h1;subst h1;exact⟨rfl,by have:=a.m.one b.m;lia⟩
def key_bb{Q':List Df}{n':Nat}{fr fr':List SF}{s:Str}{l l':List SF}{its its':List I3}{lay':List L3i}(a:KyB Q n fr s l its lay)(s':s=plS (plcs l')++shT (.lst (its'.map itT)))(p1:PlT 8 (.lst ((plcs l').map plT)))(p2:PlT 8 (.lst (its'.map itT))):plcs l=plcs l'/\its=its':=by
 have e:=congrArg cs (a.s.symm.trans s');rw[dH,dH,<- dR (cs (shT (.lst (its.map itT)))),<- dR (cs (shT (.lst (its'.map itT))))] at e;obtain⟨h1,h2⟩:=kJ a.p1 p1 lV lV e;obtain⟨h3,_⟩:=kJ a.p2 p2 jI jI h2;injection h1 with h1
 injection h3 with h3
 exact⟨jD pZ h1,jD Zp8 h3⟩
structure FmS(S:List Key->Fm->Prop)(N:Nat)(frm:List (List Key×T))(m:Nat):Prop where
 len:frm.length<=m
 ok:∀ key t,getA frm key=some t->∃ fm,t=fmT fm/\Fo N (10^60) fm/\Cano fm/\S key fm
def FmS.nil{S:List Key->Fm->Prop}{N:Nat}:FmS S N [] 0:=⟨aE _,fun key t e=>by cases e⟩
def FmS.put{S:List Key->Fm->Prop}{N m:Nat}{frm:List (List Key×T)}(h:FmS S N frm m){fm:Fm}(h1:Fo N (10^60) fm)(h2:Cano fm)(h3:S ks fm):FmS S N (putA frm ks (fmT fm)) (m+1):=⟨bo Zne (by have:=h.len;lia),fun key t e=>by
 rw[kj] at e;split at e
 .rename_i hk;cases e;exact⟨fm,rfl,h1,h2,hk▸h3⟩
 .exact h.ok key t e⟩
def SrcF(kvs:List (List Key×T))(lay:List L3i)(key:List Key)(g:Fm):Prop:=∃ i j:Int,key=[.inl i,.inl j]/\((∃ c,(([.inl i,.inl j]:List Key),T.int c)∈kvs/\g=(c,[]))\/∃ (u:Nat) (c:Int),lay[u]?=some (i,j,c)/\g=(c,[(1,(u:Int))]))
structure LaidK(l:List SF)(kvs:List (List Key×T))(lay:List L3i)(fr:List SF):Prop where
 len:fr.length=l.length
 bx:∀ (i:Nat) t s,fr[i]?=some t->l[i]?=some s->t.1=s.1/\t.2.1=s.2.1/\t.2.2.length=s.2.2.length/\∀ (j:Nat) g,t.2.2[j]?=some g->SrcF kvs lay [.inl (i:Int),.inl (j:Int)] g
def LaidK.laid{l fr:List SF}{kvs:List (List Key×T)}{ps its:List I3}(h:LaidK l kvs lay fr)(e:kvs=ps.map fun p:I3=>(([.inl p.1.1,.inl p.1.2]:List Key),T.int p.2))(pm:its.Perm ps):Laid l its lay fr:=by
 have at_:∀ (i:Nat) (hi:i<fr.length),∃ t s,fr[i]?=some t/\l[i]?=some s:=fun i hi=>⟨_,_,aC hi,aC (by rw[<-h.len];exact hi)⟩;refine⟨?_,fun i s t e1 e2=>(h.bx i t s e2 e1).2.2.1,fun i j t g e1 e2=>?_⟩
 .refine iJ fun i=>?_;rw[ak,ak];by_cases hi:i < fr.length
  .obtain ⟨t,s,e1,e2⟩:=at_ i hi;obtain⟨h1,h2,_⟩:=h.bx i t s e1 e2;rw[e1,e2,gh,gh,h1,h2]
  .rw[eB (by lia),eB (by rw[<-h.len];lia)]
 .obtain ⟨t',s,e3,e4⟩:=at_ i (aT.mp e1).1;rw[e1] at e3;cases e3;obtain ⟨i',j',ek,hc⟩:=(h.bx i t s e1 e4).2.2.2 j g e2;injection ek with k1 k2
  injection k2 with k2 _
  injection k1 with k1
  injection k2 with k2
  subst k1 k2;rcases hc with ⟨c,hm,rfl⟩|h
  .refine .inl ⟨c,?_,rfl⟩;rw[e] at hm;obtain ⟨p,hp,ep⟩:=aU.mp hm;injection ep with p1 p2
   injection p1 with p1 p3
   injection p3 with p3 _
   injection p1 with p1
   injection p3 with p3
   injection p2 with p2
   have:p=(((i:Int),(j:Int)),c):=Prod.ext (Prod.ext p1 p3) p2;rw[<-this];exact pm.mem_iff.mpr hp
  .exact .inr h
def Zp3{fr l:List SF}{its:List I3}{s:Str}(a:KyA n fr s)(e0:s=plS (plcs l)++shT (.lst (its.map itT)))(p1:PlT 8 (.lst ((plcs l).map plT))):False:=by
 have e:=congrArg cs (a.s.symm.trans e0);rw[dH,<- dR (cs (shT (.lst (fr.map sfT))))] at e;have e2:cs (shT (.lst (fr.map sfT)))++[]=cs (shT (.lst ((plcs l).map plT)))++(cs (shT (.lst (its.map itT)))++[]):=by rw[dR (cs (shT (.lst (its.map itT))))];exact e
 obtain⟨h1,_⟩:=kJ a.p p1 jI lV e2;injection h1 with h1
 cases hf:fr with
 | nil=>exact a.ne hf
 | cons t fr2 =>
  rw[hf] at h1;cases hl:plcs l with
  | nil=>rw[hl] at h1;cases h1
  | cons q l2 =>
   rw[hl] at h1;injection h1 with h1 _
   injection h1 with h1
   injection h1 with _ h1
   injection h1 with _ h1
   cases h1
def xK{l m:List SF}{B':Nat}(h1:∀ t∈l,SfOk Q n B t)(h2:∀ t∈m,SfOk Q n' B' t)(e:plcs l=plcs m)(i:Nat)(s t:SF)(e1:l[i]?=some s)(e2:m[i]?=some t):t.2.2.length=s.2.2.length:=by
 have a1:(plcs l)[i]?=some (s.1,s.2.1):=by rw[ak,e1];rfl
 have a2:(plcs m)[i]?=some (t.1,t.2.1):=by rw[ak,e2];rfl
 rw[e,a2] at a1;injection a1 with a1
 injection a1 with a1 _
 obtain⟨d,r,_,b2,_,_,b5⟩:=(h1 s (aF e1)).ex;obtain⟨d',r',_,c2,_,_,c5⟩:=(h2 t (aF e2)).ex;rw[a1,b2] at c2;cases c2;lia
def KnI(fs:List SF)(i j c:Int):Prop:=∃ s,fs[i.toNat]?=some s/\s.2.2[j.toNat]?=some (c,[])
def Zmd{l:List SF}{M:Nat}(cn:bY l)(hp:∀ t∈l,∀ g∈t.2.2,∀ p∈g.2,0<=p.2/\p.2<M):l.map (bJ (ay M))=l:=by
 have key:∀ t∈l,bJ (ay M) t=t:=fun t ht=>by
  refine Prod.ext rfl (Prod.ext rfl ?_);show t.2.2.map (fun f=>bF f (ay M))=t.2.2;have:∀ g∈t.2.2,bF g (ay M)=g:=fun g hg=>xc (cn t ht g hg) (fun p hq=>(hp t ht g hg p hq).1) (jK M) fun p hq=>by
   obtain⟨h0,h1⟩:=hp t ht g hg p hq;unfold nthF ay;rw[cJ,ak,kh (by lia)];show ofW ((p.2.toNat:Nat):Int)=ofW p.2;rw[rK h0]
  conv=>rhs;rw[<-map_id t.2.2]
  exact gj this
 conv=>rhs;rw[<-map_id l]
 exact gj key
def StaF(own:List Fm)(g:Fm):Prop:=∀ p∈g.2,nthF own p.2=ofW p.2
def Sta(own:List Fm)(l:List SF):Prop:=∀ t∈l,∀ g∈t.2.2,StaF own g
def pY:StaF own (c,[]):=fun p hp=>nomatch hp
def wZ{f g:Fm}{n:Int}(hf:StaF own f)(hg:StaF own g):StaF own (cb f g n):=fun p hp=>by
 rcases kP (qe hp) with h|h
 .rcases kP h with h|h
  .cases h
  .obtain ⟨q,hq,e⟩:=aU.mp h;rw[<-e];exact hf q hq
 .obtain ⟨q,hq,e⟩:=aU.mp h;rw[<-e];exact hg q hq
def ZjL{f:Fm}{n:Int}(hf:StaF own f):StaF own (im f n):=fun p hp=>by
 rcases kP (qe hp) with h|h
 .cases h
 .obtain ⟨q,hq,e⟩:=aU.mp h;rw[<-e];exact hf q hq
def ix{s:SF}{q:Int}(h:∀ g∈s.2.2,StaF own g):StaF own (gtF s q):=by
 unfold gtF;rw[cJ];cases e:s.2.2[q.toNat]? with
 | none=>exact pY
 | some g=>exact h g (aF e)
def px{a b:List SF}(h1:Sta own a)(h2:Sta own b):Sta own (a++b):=fun t ht=>by
 rcases aR.mp ht with ht|ht
 .exact h1 t ht
 .exact h2 t ht
def uC{s:SF}(h:∀ g∈s.2.2,StaF own g):Sta own [s]:=fun t ht=>by rw[aK.mp ht];exact h
def m9{α:Type}{l:List α}{i:Nat}{x y:α}(h:y∈l.set i x):y∈l\/y=x:=gk h
def ZjM{s:SF}{l:List SF}(h:Sta own (f++[s]))(e:cP Q f s=some l):Sta own l:=by
 have hf:Sta own f:=fun t ht=>h t (dQ _ ht);have hs:∀ g∈s.2.2,StaF own g:=h s (by simp);have wb:∀ {f:List SF} {s:SF} {p:Int} {g:Fm},Sta own f->(∀ g∈s.2.2,StaF own g)->StaF own g->Sta own (fF f s p g):=fun {f s p g} h1 h2 h3=>px h1 (uC fun g' hg'=>by
  rcases m9 hg' with hg'|rfl
  .exact h2 g' hg'
  .exact h3)
 have ar:∀ {t:Int},Sta own (cH f s t):=fun {t}=>px hf (uC hs);unfold cP at e;cases hr:cf Q s.1 s.2.1 with
 | none=>rw[hr] at e;cases e
 | some r =>
  rw[hr] at e;cases r with
  | put a b=>cases e;exact wb hf hs pY
  | copy a b=>cases e;exact wb hf hs (ix hs)
  | plus a b c=>cases e;exact wb hf hs (wZ (ix hs) (ix hs))
  | less a b c=>cases e;exact wb hf hs (wZ (ix hs) (ix hs))
  | times a b c=>cases e;exact wb hf hs (ZjL (ix hs))
  | take a=>cases e
  | tell a=>cases e
  | jump t=>cases e;exact ar
  | zero p t =>
   dsimp only [bR] at e;split at e
   .cases e;exact ar
   .cases e
  | below p t =>
   dsimp only [bR] at e;split at e
   .cases e;exact ar
   .cases e
  | call p g qs =>
   dsimp only [bR] at e;split at e
   .cases e;refine px hf fun t ht=>?_;rcases aI.mp ht with rfl|ht
    .exact hs
    .rw[aK.mp ht];intro g' hg';unfold eL at hg';rcases aR.mp hg' with hg'|hg'
     .obtain ⟨q,_,rfl⟩:=aU.mp hg';exact ix hs
     .rw[rB hg'];exact pY
   .cases e
  | back p =>
   dsimp only [bR] at e;cases hc:f.getLast? with
   | none=>rw[hc] at e;cases e
   | some c =>
    rw[hc] at e;cases e;obtain⟨f',rfl⟩:=gJ.mp hc;rw[gq];exact wb (fun t ht=>hf t (dQ _ ht)) (hf c (by simp)) (ix hs)
def mL{l:List SF}(h:Sta own l)(cn:bY l)(ps:∀ t∈l,∀ g∈t.2.2,PsW g)(ho:∀ g∈own,PsW g):l.map (bJ own)=l:=by
 have key:∀ t∈l,bJ own t=t:=fun t ht=>by
  refine Prod.ext rfl (Prod.ext rfl ?_);show t.2.2.map (fun f=>bF f own)=t.2.2
  conv=>rhs;rw[<-map_id t.2.2]
  exact gj fun g hg=>xc (cn t ht g hg) (ps t ht g hg) ho (h t ht g hg)
 conv=>rhs;rw[<-map_id l]
 exact gj key
theorem oB{Q : List Df} : ∀ {n : Nat} {l l1 l2 : List SF}, cz Q n l=some l1->ce Q l1=some l2->cz Q (n+1) l=some l2
  | 0, l, l1, l2, h1, h2=>by cases h1; rw[cz, h2]; rfl
  | n + 1, l, l1, l2, h1, h2 => by
    rw[cz] at h1;cases e:ce Q l with
    | none=>rw[e] at h1; cases h1
    | some l3 =>
      rw[e] at h1;rw[cz,e];exact oB (n:=n) h1 h2
def EdS(Q:List Df)(P:List (Nat×List SF))(own:List Fm)(least:Nat)(start:List SF)(e:T):Prop:=∃ (rows:Nat) (moves:List Fm) (k n:Nat) (fr:List SF),e=.tup [.int rows,.tup (moves.map fmT),.int k]/\least<=rows/\rows<=200/\P[k]?=some (n,fr)/\moves.length=n/\(∀ g∈moves,Cano g/\Fo own.length (10^800) g)/\cz Q rows start=some (fr.map (bJ (moves.map fun g=>bF g own)))
def EdS.up{P:List (Nat×List SF)}{start:List SF}{e:T}(h:EdS Q P own least start e):EdS Q (P++P') own least start e:=by
 obtain⟨rows,moves,k,n,fr,h1,h2,h3,h4,h5⟩:=h;exact⟨rows,moves,k,n,fr,h1,h2,h3,by rw[cg (aT.mp h4).1];exact h4,h5⟩
def sV{w:Int}(h0:0<=w)(h1:w<n):nthF (ay n) w=ofW w:=by
 unfold nthF ay;rw[cJ,ak,kh (by lia)];show ofW ((w.toNat:Nat):Int)=ofW w;rw[rK h0]
def mh{s:SF}(h:FrsOk Q n B f s):Sta (ay n) (f++[s]):=fun t ht g hg p hp=>sV (((h.all t ht).fm g hg).w p hp).1 (((h.all t ht).fm g hg).w p hp).2
def cU(n w:Nat)(c:Int):List Fm:=(ay n).set w (c,[])
def pX(n w:Nat)(c:Int):(cU n w c).length=n:=by unfold cU ay;rw[cC,af,dC]
def Zl3{w:Nat}:∀ g∈cU n w c,PsW g:=fun g hg=>by
 rcases m9 hg with hg|rfl
 .exact jK n g hg
 .exact fun p hp=>nomatch hp
def uq{w:Nat}{v:Int}(h0:0<=v)(h1:v<n):nthF (cU n w c) v=if v=(w:Int) then (c,[]) else ofW v:=by
 have wl:(ay n).length=n:=by unfold ay;rw[af,dC]
 unfold cU;by_cases e:v=(w:Int)
 .rw[am e];unfold nthF;rw[e,bB,cJ,gV (by lia)];rfl
 .rw[ao e,<- sV h0 h1];unfold nthF;rw[cJ,jh (by lia),<- cJ]
def ZmS{w:Nat}{s:SF}(h:FrsOk Q n B f s):Sta (cU n w c) ((f++[s]).map (bJ (cU n w c))):=fun t ht g hg p hp=>by
 obtain⟨t',ht',rfl⟩:=aU.mp ht;obtain⟨g',hg',rfl⟩:=aU.mp hg;obtain⟨q,hq,r,hr,e⟩:=uQ hp;obtain⟨h0,h1⟩:=((h.all t' ht').fm g' hg').w q hq;rw[uq h0 h1] at hr;split at hr
 .cases hr
 .rename_i hne;rw[aK.mp hr] at e;have e:q.2=p.2:=e;rw[<-e,uq h0 h1,ao hne]
def wM{s:SF}{q:Int}(h:(gtF s q).2=[]):(gtF (bJ own s) q).2=[]:=by
 unfold gtF at h ⊢;rw[cJ] at h ⊢;show (((s.2.2.map fun f=>bF f own)[q.toNat]?).getD (0,[])).2=[];rw[ak];cases e:s.2.2[q.toNat]? with
 | none=>rfl
 | some g =>
  rw[e] at h;have h:g.2=[]:=h;show (bF g own).2=[];rw[ZgY h];exact h
def ZhS{s:SF}(h:(cP Q f s).isSome=true):(cP Q (f.map (bJ own)) (bJ own s)).isSome=true:=by
 unfold cP at h ⊢;show (match cf Q s.1 s.2.1 with|none=>none|some r=>_:Option (List SF)).isSome=true;cases hr:cf Q s.1 s.2.1 with
 | none=>rw[hr] at h;cases h
 | some r =>
  rw[hr] at h;cases r with
  | zero p t =>
   dsimp only [bR] at h ⊢;split at h
   .rename_i e;rw[am (wM e)];rfl
   .cases h
  | below p t =>
   dsimp only [bR] at h ⊢;split at h
   .rename_i e;rw[am (wM e)];rfl
   .cases h
  | call p g qs =>
   dsimp only [bR] at h ⊢;split at h
   .rename_i e;rw[am (by rw[af];exact e)];rfl
   .cases h
  | back p =>
   dsimp only [bR] at h ⊢;rw[getLast?_map];cases e:f.getLast? with
   | none=>rw[e] at h;cases h
   | some c=>rfl
  | take p=>cases h
  | tell p=>cases h
  | _=>rfl
inductive DdS(Q:List Df)(P:List (Nat×List SF))(n:Nat)(f:List SF)(s:SF):T->Prop
 | leave:DdS Q P n f s (.tup [.str "leave"])
 | go {e:T} (h:EdS Q P (ay n) 1 (f++[s]) e):DdS Q P n f s (.tup [.str "go",e])
 | hold {w:Nat} {c:Int} {e:T} (hw:w<n) (hc:c.natAbs<=10^60) (h:EdS Q P (cU n w c) 1 ((f++[s]).map (bJ (cU n w c))) e):DdS Q P n f s (.tup [.str "hold",.int w,.int c,e])
 | test {p t:Int} {a b:T} (hr:cf Q s.1 s.2.1=some (.zero p t)\/cf Q s.1 s.2.1=some (.below p t)) (h1:EdS Q P (ay n) 0 (cH f s t) a) (h2:EdS Q P (ay n) 0 (cH f s (s.2.1+1)) b):DdS Q P n f s (.tup [.str "test",a,b])
 | tell {p:Int} {e:T} (hr:cf Q s.1 s.2.1=some (.tell p)) (h:EdS Q P (ay n) 0 (cH f s (s.2.1+1)) e):DdS Q P n f s (.tup [.str "tell",e])
 | take {p:Int} {e:T} (hr:cf Q s.1 s.2.1=some (.take p)) (h:EdS Q P (ay (n+1)) 0 (fF f s p (ofW n)) e):DdS Q P n f s (.tup [.str "take",e])
def DdS.up{Q:List Df}{P P':List (Nat×List SF)}{n:Nat}{f:List SF}{s:SF}{dd:T}(h:DdS Q P n f s dd):DdS Q (P++P') n f s dd:=by
 cases h with
 | leave=>exact .leave
 | go h=>exact .go h.up
 | hold hw hc h=>exact .hold hw hc h.up
 | test hr h1 h2=>exact .test hr h1.up h2.up
 | tell hr h=>exact .tell hr h.up
 | take hr h=>exact .take hr h.up
def qB{i:Nat}{d:StL}(e:lane[i]?=some d){dd:T}:pnL (lane.set i ⟨d.n,d.fr,dd⟩)=pnL lane:=by
 obtain⟨hi,e⟩:=aT.mp e;unfold pnL;rw[iL];have hi':i<(lane.map fun d=>(d.n,d.fr)).length:=by rw[af];exact hi
 have:((d.n,d.fr):Nat×List SF)=(lane.map fun d=>(d.n,d.fr))[i]:=by rw[getElem_map,e]
 show (lane.map fun d=>(d.n,d.fr)).set i (d.n,d.fr)=_;rw[this];exact set_getElem_self hi'
def LnS.set{Q:List Df}{lane:List StL}{kvs:List (Key×T)}(h:LnS Q lane kvs){i:Nat}{d:StL}(e:lane[i]?=some d){dd:T}(hd:PlD 8 dd):LnS Q (lane.set i ⟨d.n,d.fr,dd⟩) kvs:=by
 refine⟨fun x hx=>?_,by rw[qB e];exact h.ky,by rw[cC];exact h.kl,fun x hx=>(gk hx).elim (h.ch x) fun hx=>by rw[hx];exact h.ch d (aF e)⟩;rcases gk hx with hx|rfl
 .exact h.st x hx
 .exact ⟨(h.st d (aF e)).1,hd⟩
def DdL(Q:List Df)(lane:List StL):Prop:=∀ d∈lane,∀ f s,d.fr=f++[s]->DdS Q (pnL lane) d.n f s d.dd
def DdL.app{ex:List StL}(h:DdL Q lane)(he:∀ d∈ex,d.dd=.tup [.str "leave"]):DdL Q (lane++ex):=fun d hd f s e=>by
 rw[show pnL (lane++ex)=pnL lane++pnL ex from aY];rcases aR.mp hd with hd|hd
 .exact (h d hd f s e).up
 .rw[he d hd];exact .leave
def DdL.set{Q:List Df}{lane:List StL}(h:DdL Q lane){i:Nat}{d:StL}(e:lane[i]?=some d){dd:T}(hd:∀ f s,d.fr=f++[s]->DdS Q (pnL lane) d.n f s dd):DdL Q (lane.set i ⟨d.n,d.fr,dd⟩):=fun x hx f s ex=>by
 rw[qB e];rcases gk hx with hx|rfl
 .exact h x hx f s ex
 .exact hd f s ex
end L2
end
section
namespace L2
open PySem
noncomputable def EdB(Q:List Df)(P:List (Nat×List SF))(own:List Fm)(start:List SF)(e:T)(b:Bool):Prop :=
 (b=true/\EdS Q P own 0 start e)\/(b=false/\∃ (r:Int) (ms:List T) (j:Nat),e=.tup [.int r,.tup ms,.int j]/\200<r)
def EdS.dn{P:List (Nat×List SF)}{start:List SF}{e:T}(h:EdS Q P own least start e):EdS Q P own 0 start e:=by
 obtain⟨rows,moves,k,n,fr,h1,h2,h3⟩:=h;exact⟨rows,moves,k,n,fr,h1,bO _,h3⟩
def EdS.b{P:List (Nat×List SF)}{start:List SF}{e:T}(h:EdS Q P own least start e):EdB Q P own start e true:=.inl ⟨rfl,h.dn⟩
inductive DdZ(Q:List Df)(P:List (Nat×List SF))(n:Nat)(f:List SF)(s:SF):T->Bool->Prop
 | leave:DdZ Q P n f s (.tup [.str "leave"]) true
 | go {e:T} {b:Bool} (h:EdB Q P (ay n) (f++[s]) e b):DdZ Q P n f s (.tup [.str "go",e]) b
 | hold {w:Nat} {c:Int} {e:T} (hw:w<n) (hc:c.natAbs<=10^60) (h:EdS Q P (cU n w c) 0 ((f++[s]).map (bJ (cU n w c))) e):DdZ Q P n f s (.tup [.str "hold",.int w,.int c,e]) true
 | test {p t:Int} {a b:T} (hr:cf Q s.1 s.2.1=some (.zero p t)\/cf Q s.1 s.2.1=some (.below p t)) (h1:EdS Q P (ay n) 0 (cH f s t) a) (h2:EdS Q P (ay n) 0 (cH f s (s.2.1+1)) b):DdZ Q P n f s (.tup [.str "test",a,b]) true
 | tell {p:Int} {e:T} (hr:cf Q s.1 s.2.1=some (.tell p)) (h:EdS Q P (ay n) 0 (cH f s (s.2.1+1)) e):DdZ Q P n f s (.tup [.str "tell",e]) true
 | take {p:Int} {e:T} (hr:cf Q s.1 s.2.1=some (.take p)) (h:EdS Q P (ay (n+1)) 0 (fF f s p (ofW n)) e):DdZ Q P n f s (.tup [.str "take",e]) true
def DdS.z{P:List (Nat×List SF)}{s:SF}{dd:T}(h:DdS Q P n f s dd):DdZ Q P n f s dd true:=by
 cases h with
 | leave=>exact .leave
 | go h=>exact .go h.b
 | hold hw hc h=>exact .hold hw hc h.dn
 | test hr h1 h2=>exact .test hr h1 h2
 | tell hr h=>exact .tell hr h
 | take hr h=>exact .take hr h
def EdB.up{Q:List Df}{P P':List (Nat×List SF)}{own:List Fm}{start:List SF}{e:T}{b:Bool}(h:EdB Q P own start e b):EdB Q (P++P') own start e b:=by
 rcases h with ⟨h1,h2⟩|h
 .exact .inl ⟨h1,h2.up⟩
 .exact .inr h
def DdZ.up{Q:List Df}{P P':List (Nat×List SF)}{n:Nat}{f:List SF}{s:SF}{dd:T}{b:Bool}(h:DdZ Q P n f s dd b):DdZ Q (P++P') n f s dd b:=by
 cases h with
 | leave=>exact .leave
 | go h=>exact .go h.up
 | hold hw hc h=>exact .hold hw hc h.up
 | test hr h1 h2=>exact .test hr h1.up h2.up
 | tell hr h=>exact .tell hr h.up
 | take hr h=>exact .take hr h.up
def rlE:T->Option Nat
 | .tup [.int r,_,.int k]=>if r=0 then some k.toNat else none
 | _=>none
def rlD:T->Option Nat
 | .tup (.str w::ps)=>if w="go"\/w="hold" then ps.getLast?.bind rlE else none
 | _=>none
def onR(nx : Nat->Option Nat)(k : Nat) : Nat->Nat->Bool
  | 0, _=>false
  | n + 1, a => match nx a with
    | none=>false
    | some m=>m == k || onR nx k n m
def rlL(lane:List StL)(a:Nat):Option Nat:=(lane[a]?).bind fun d=>rlD d.dd
def isR(lane:List StL)(k:Nat):Bool:=onR (rlL lane) k lane.length k
def fstR(lane:List StL):Nat->Nat->Option Nat
 | 0,_=>none
 | n+1,k=>if isR lane k then some k else fstR lane n (k+1)
def rndT(lane:List StL):T:=match fstR lane lane.length 0 with
 | none=>.non
 | some k=>.tup [.int k,.str "round"]
theorem pc{lane : List StL} : ∀ {n k : Nat}, (∀ j, k<=j->j<k+n->isR lane j=false)->fstR lane n k=none
  | 0, _, _=>rfl
  | n + 1, k, h => by
    rw[fstR,ao (by rw[h k (aE k) (by lia)];decide)];exact pc fun j h1 h2=>h j (by lia) (by lia)
theorem qv{lane : List StL} : ∀ {n k i : Nat}, k<=i->i<k+n->(∀ j, k<=j->j<i->isR lane j=false)->isR lane i=true->fstR lane n k=some i
  | 0, _, _, h1, h2, _, _=>by lia
  | n + 1, k, i, h1, h2, h3, h4 => by
    rw[fstR];by_cases e:k=i
    . subst e; rw[am h4]
    . rw[ao (by rw[h3 k (aE k) (by lia)]; decide)]
      exact qv (by lia) (by lia) (fun j h5 h6=>h3 j (by lia) h6) h4
def lZ{r:Int}{x:T}{j:Nat}:rlD (.tup [.str "go",.tup [.int r,x,.int j]])=if r=0 then some j else none:=by
 rw[rlD,am (.inl rfl)];rfl
def qK{u v:T}{r:Int}{x:T}{j:Nat}:rlD (.tup [.str "hold",u,v,.tup [.int r,x,.int j]])=if r=0 then some j else none:=by
 rw[rlD,am (.inr rfl)];rfl
def qW{w:Str}{ps:List T}(h:¬ (w="go"\/w="hold")):rlD (.tup (.str w::ps))=none:=by
 rw[rlD,ao h]
def optN:Option Nat->T
 | none=>.non
 | some k=>.int k
end L2
end
section
namespace L3
open PySem PyProof.Rows
section
variable[KOrd]{P:Program}{W:World}{A:Around}{E:Value->Shared->Prop}{z:Shared}[KLt P W A E z]{a₀:Array Keyed}
def ZgE{p:Array (Nat×Nat×Nat)}{st:SortSt}{nrem:Nat}{Q:Option Nat->SortSt->Prop}(h0:IntKeys a₀)(hn:nrem<=a₀.size)(h1:1<=nrem)(hB:Bas a₀ p st)(hs:SegS (arrOf st) 0 nrem)(h:Q (some nrem) st):wpS (model P W) A E z (countRun' 0 nrem) Q st:=by
 refine eX (ZmO (lo:=0) (aE 1) h1 (fun i j q1 q2 q3=>by
  have:i=j:=by lia
  subst this;exact lH _) ?_ fun n hn1 hn2 hsn hor=>?_)
 .intro x k R k1 k2 y1 y2;dsimp only;refine eX (Zo2 hB h0 (by lia) (by lia) ?_);dsimp only;by_cases hl:K (arrOf st) (0+k) < K (arrOf st) (0+k - 1)
  .rw[aX hl,am rfl];exact gY (y1 hl)
  .rw[bz hl,ao (by decide)];exact gY (y2 hl)
 dsimp only;have hnn:n=nrem:=hor.elim id fun e=>by
  by_cases z:n=nrem
  .exact z
  .exact absurd (hs (0+n-1) (0+n) (by lia) (by lia) (by lia)) (by lia)
 rw[am (by simpa using hnn)];exact gY (hnn▸h)
def wpS_sortAsc{st:SortSt}{Q:Unit->SortSt->Prop}(h0:IntKeys a₀)(hB:Bas a₀ #[] st)(h2:2<=a₀.size)(h64:a₀.size<64)(hs:SegS (arrOf st) 0 a₀.size)
  (h:∀ v,arrOf v=arrOf st->failedOf v=none->Q () v):wpS (model P W) A E z sortRuns' Q st:=by
 rw[sortRuns'_eq];refine eX (wpS_get ?_);dsimp only;have hmr:minRun' a₀.size a₀.size 0=a₀.size:=by
  obtain⟨f,hf⟩:∃ f,a₀.size=f+1:=⟨a₀.size-1,by lia⟩;have:minRun' (f+1) a₀.size 0=a₀.size:=by rw[minRun'_succ,am h64];rfl
  rwa [<-hf] at this
 simp only[hB.perm.size_eq,hmr];refine eX (wpS_mono (wpS_forRange
  (I:=fun x c v=>(x=0/\c=(none,0)/\v=st)\/(1<=x/\c=(none,a₀.size)/\arrOf v=arrOf st/\failedOf v=none/\(pendingOf v).size<=1))
  (Q:=fun c v=>c=(none,a₀.size)/\arrOf v=arrOf st/\failedOf v=none/\(pendingOf v).size<=1) ?step ?fin (.inl ⟨rfl,rfl,rfl⟩)) ?post)
 case fin =>
  rintro c v (⟨hx,_,_⟩|⟨_,hc,hD⟩)
  .lia
  .exact ⟨hc,hD⟩
 case step =>
  rintro x c v _ hx (⟨rfl,rfl,rfl⟩|⟨hx1,rfl,hD⟩)
  .dsimp only;rw[ao (by lia)];simp only[oh,Nat.min_self,Nat.zero_add];refine eX (ZgE h0 (by lia) (by lia) hB hs ?_);dsimp only;rw[ao (fX _)];refine eX (wpS_get ?_);have hb:(pendingOf v).back?=none:=by rw[hB.pend];rfl
   rw[hb];dsimp only;exact eX (wpS_modify (gY (.inr ⟨by lia,rfl,rfl,hB.failed,by show ((pendingOf v).push _).size<=1;rw[hB.pend];exact aE 1⟩)))
  .dsimp only;rw[am (aE _)];exact gY ⟨rfl,hD⟩
 case post =>
  rintro c v ⟨rfl,ha,hf,hp⟩;dsimp only;refine eX (wpS_mono (wpS_forRange (I:=fun _ c v'=>v'=v/\c=(none,())) (Q:=fun c v'=>v'=v/\c=(none,())) ?_ (fun _ _ hh=>hh) ⟨rfl,rfl⟩) ?_)
  .rintro x c v' _ _ ⟨rfl,rfl⟩;refine eX (wpS_get ?_);rw[am hp];exact gY ⟨rfl,rfl⟩
  .rintro c v' ⟨rfl,rfl⟩;exact gY (h _ ha hf)
end
end L3
end
section
namespace L2
open PySem PySem.Spec PyProof.Rows
section
variable{P:Program}{W:World}{z:Shared}
def ZmV{us:List Value}{k:Nat}{F:PySem.Fin->Shared->Prop}(O:L3.KOrd)(ho:z.heap.get? a=some (seqObj "list" us.toArray k))(h64:us.length<64)
  (hkind:2<=us.length->∀ {z':Shared} {Q:SortKind->Shared->Prop},(∀ b o,z.heap.get? b=some o->o.cls=.type "tuple"->z'.heap.get? b=some o)->Q O.kd z'->wpAny (model P W) A (keyKind' us.toArray) Q E z')
  (hlt:∀ {z':Shared},(∀ b o,z.heap.get? b=some o->o.cls=.type "tuple"->z'.heap.get? b=some o)->@L3.KLt O P W A E z') (hg:∀ v∈us,O.good (v,v))
  (hr:us.Pairwise fun v w=>O.kv (v,v)<=O.kv (w,w))
  (h:F (.done (.ret .none)) { z with heap:=sortedHeap z.heap a us us.toArray }) :
  wpAny (model P W) A (Builtin.«list.sort» ⟨[.ref a],[]⟩) F E z:=by
 have hz:us.length<=sizeLine:=bo (gH h64) (by decide);have hlt0:a<z.heap.objs.size:=bn ho;have hus:us.toArray.size=us.length:=by simp
 obtain⟨ep,hoE⟩:∃ ep,(z.heap.update a (Obj.mapSeq fun _=>#[])).get? a=some (seqObj "list" #[] ep):=⟨_,get?_update_seq ho fun _=>#[]⟩;have hoF:(((z.heap.update a (Obj.mapSeq fun _=>#[])).push (seqObj "tuple" us.toArray 0)).push (seqObj "list" #[] 0)).get? a=some (seqObj "list" #[] ep):=br _ (br _ hoE);have keep:∀ b o,z.heap.get? b=some o->o.cls=.type "tuple"->(((z.heap.update a (Obj.mapSeq fun _=>#[])).push (seqObj "tuple" us.toArray 0)).push (seqObj "list" #[] 0)).get? b=some o:=fun b o e ec=>by
  have hb:b≠a:=fun zz=>by
   rw[zz,ho] at e;cases e;injection ec with ec
   exact absurd ec (by decide)
  refine br _ (br _ ?_);rw[Heap.get?_update_ne _ _ _ _ hb];exact e
 have em:(pairsOf us).map (·.2)=us.toArray:=by
  refine Array.ext' ?_;rw[Array.toList_map,pairsOf_toList,map_snd_zip (aE _)]
 have seg:@L3.SegS O (pairsOf us) 0 (pairsOf us).size:=fun i j _ hij hj=>by
  rw[Nat.zero_add] at hj;rw[jo] at hj;have gi:∀ k (hk:k<us.length),@L3.K O (pairsOf us) k=O.kv (us[k],us[k]):=fun k hk=>by
   have e:(pairsOf us)[k]?=some (us[k],us[k]):=by
    rw[<-lE,pairsOf_toList];exact ou.mpr ⟨aC _,aC _⟩
   unfold L3.K;rw[e];rfl
  rw[gi i (by lia),gi j hj];rcases Nat.lt_or_eq_of_le hij with e|e
  .exact pairwise_iff_getElem.mp hr i j _ _ e
  .subst e;exact lH _
 have ends:∀ v:SortSt,arrOf v=pairsOf us->F (.done (.ret .none)) { z with heap:=sortedHeap z.heap a us ((arrOf v).map (·.2)) }:=fun v e=>by rw[e,em];exact h
 have hfit:∀ v:SortSt,arrOf v=pairsOf us->((arrOf v).map (·.2)).size<=sizeLine+1:=fun v e=>by
  rw[e,em,hus];lia
 rw[list_sort_plain];refine ae (listItems_at (o:=seqObj "list" us.toArray k) ho rfl ?_);refine ae (j8 (hsz:=by rw[hus];exact hz) (hsz2:=bO _) (o:=seqObj "list" us.toArray k) ho rfl ?_);refine ae (j9 (o:=seqObj "list" #[] ep) hoE rfl ?_);refine ae (nS ?_ (hsz:=by rw[fI,hus];exact hz));refine ae (nT ?_ (hsz:=bO _));refine eV (id ?_);dsimp only;by_cases hfew:us.toArray.size<2
 .rw[am hfew,am hfew];refine ae (aq (id ?_));rw[StateT.run_pure];refine ae (aq (id ?_));dsimp only;refine ae (j9 (o:=seqObj "list" #[] ep) hoF rfl ?_);refine ae (j8 (hsz:=bO _) (hsz2:=hfit (SortSt.mk' general' (us.toArray.zip us.toArray) #[] 7 none) rfl) (o:=seqObj "list" #[] ep) hoF rfl ?_);simp only[nU,dA,cI];exact aq (ends (SortSt.mk' general' (us.toArray.zip us.toArray) #[] 7 none) rfl)
 .rw[ao hfew,ao hfew];refine ae (hkind (by lia) keep ?_);have hg':@L3.IntKeys O (pairsOf us):=fun q hq=>by
   rw[pairsOf_toList] at hq;obtain⟨e1,e2⟩:=mem_zip_self hq;have:q=(q.1,q.1):=Prod.ext rfl e1.symm;rw[this];exact hg _ e2
  have hrun:=@L3.wpS_sortAsc O P W A E { z with heap:=((z.heap.update a (Obj.mapSeq fun _=>#[])).push (seqObj "tuple" us.toArray 0)).push (seqObj "list" #[] 0) } (hlt keep) (pairsOf us) (SortSt.mk' O.kd (us.toArray.zip us.toArray) #[] 7 none) (fun _ v=>arrOf v=pairsOf us/\failedOf v=none) hg' ⟨Array.Perm.refl _,rfl,rfl,rfl⟩ (by rw[jo];lia) (by rw[jo];exact h64) seg fun v e f=>⟨e,f⟩;refine ae (dG hrun ?_ fun _ _ q=>q);rintro⟨⟨⟩,v⟩ z' ⟨rfl,hp,hf⟩;dsimp only;refine ae (j9 (o:=seqObj "list" #[] ep) hoF rfl ?_);refine ae (j8 (hsz:=bO _) (hsz2:=hfit v hp) (o:=seqObj "list" #[] ep) hoF rfl ?_);rw[hf];simp only[nU,dA,cI];exact aq (ends v hp)
end
end L2
end
section
namespace L2
open PySem PySem.Spec PyProof.Rows PySem.Calls
def tSisA(td:TE):TE:=fun Z H Q=>td Z H fun x H1=>∃ (a:Addr) (ps:List I3),x=.ref a/\H1 a=some (.dT (ps.map kvI))/\ps.length<64/\(∀ p∈ps,BdI p/\p.1.1.natAbs<1000)/\ps.Pairwise (fun p q=>cdI p<=cdI q)/\Q (.str (shT (.lst (ps.map itT)))) H1
section
variable{X:Cx}{o:Expr}{p1 p2 p3 p4 p5:Pos}
def ZpH(hg:X.A.guards=some [])(hu:X.A.units+64<cLine)(hc:X.calm=true)(g1:Gl X "str")(m1:X.mg "str"=none)(g2:Gl X "sorted")(m2:X.mg "sorted"=none)(ho:PE X o td)
  (hb:attributeBase o "items" X.env (eval o X.env)=eval o X.env:=by rfl) (hl:(apos.endLine == p3.line)=true:=by rfl)
  (s2:starEach [Expr.Call (.Attribute o "items" apos) [] [] p3] X.env=[(false,eval (Expr.Call (.Attribute o "items" apos) [] [] p3) X.env)]:=by rfl)
  (s1:starEach [Expr.Call (.Name "sorted" p2) [.Call (.Attribute o "items" apos) [] [] p3] [] p4] X.env=[(false,eval (Expr.Call (.Name "sorted" p2) [.Call (.Attribute o "items" apos) [] [] p3] [] p4) X.env)]:=by rfl)
  (l1:(backTo p5 (starEach [] X.env)).any (·.1)=false:=by rfl) (l2:(backTo p4 (starEach [] X.env)).any (·.1)=false:=by rfl) :
  PE X (.Call (.Name "str" p1) [.Call (.Name "sorted" p2) [.Call (.Attribute o "items" apos) [] [] p3] [] p4] [] p5) (tSisA td):=by
 intro pins s Z H Q I h;refine nM (jd I g1 m1 kz ?_);refine nK ?_ (by rw[s1];rfl) l1;rw[s1];show wpAny _ _ (spliced [(false,eval (Expr.Call (.Name "sorted" p2) [.Call (.Attribute o "items" apos) [] [] p3] [] p4) X.env)]) _ _ s;refine lv ?_;refine Call_ (jd I g2 m2 ph ?_);refine xP ?_ (by rw[s2];rfl) l2;rw[s2];show wpAny _ _ (spliced [(false,eval (Expr.Call (.Attribute o "items" apos) [] [] p3) X.env)]) _ _ s;refine lv ?_;refine wpAny_Call_method (T:="dict") (id:="dict.items") hb rfl hl F.plainAttrs_dict F.slot_dict_items F.type_dict_items (thn (ho pins s Z H _ I h) fun u s1 z=>?_);obtain⟨x,H1,I1,rx,a,ps,rfl,ha,hk,he,hrs,q⟩:=z;generalize hkvs:ps.map kvI=kvs at ha;have hkl:kvs.length=ps.length:=by rw[<-hkvs,af]
 obtain rfl:u=Value.ref a:=rx;obtain⟨ty,nod,hsm⟩:=o9 I1 (.inr ⟨kvs,.inl ha⟩);refine⟨ty,nod,?_⟩;show wpAny _ _ (callWith p3 (.builtin "dict.items") [.ref a] [] []) _ _ _;refine method_meetsIn F.slot_dict_items F.entry_dict_items rfl (PySem.evalArgs_none ⟨rfl,ty,F.args_dict_items_1 _,_,ZlF a hsm,ty,?_⟩);obtain⟨zl,_,xs,pr,ob,es,ep,h1,h2,h3,h4,_⟩:=(show ObjOk X.prog X.w H1 s1.heap a (.dT kvs) from I1.hok a _ ha);have esz:es.size=kvs.length:=by rw[<-fI,h4,af,<- Paired.length pr]
 generalize hh2:s1.heap.push { cls:=.type "dict_items",data:=.fields #[.ref a] }=h2';have k2:∀ b o,s1.heap.get? b=some o->h2'.get? b=some o:=fun b o e=>by rw[<-hh2];exact br _ e
 have vw:h2'.IsItemsView s1.heap.objs.size a:=⟨_,by rw[<-hh2];exact ca _ rfl,rfl,rfl⟩;refine nL ?_;refine xV (id kind_sorted) plain_sorted entry_sorted (args_sorted1 _) ?_;unfold Builtin.«sorted»;refine ae (m:=checkCount "sorted" 1 1 _) (aq (id ?_));refine ae (Zj3 (s:={ s1 with heap:=h2' }) (es:=es) (ep:=ep) (I1.ok.hd hc) vw ⟨ob,k2 _ _ h1,h3⟩ (by rw[esz];exact zl) fun h3' tk as k3 hl3 got=>?_);have itemA:∀ (j:Nat) v p,(as.map Value.ref)[j]?=some v->ps[j]?=some p->IsI h3' v p:=by
  intro j v p hv hp;rw[ak] at hv;obtain⟨b,hj,rfl⟩:=bh.mp hv;obtain⟨_,e,e1,e2⟩:=got j b hj;rw[<-lE,h4,ak] at e1;obtain⟨x,ex,rfl⟩:=bh.mp e1;have ek:kvs[j]?=some (kvI p):=by rw[<-hkvs,ak,hp];rfl
  obtain⟨_,z2,z3⟩:=lW pr j ek ex;obtain⟨its,vt,o2,o3,o4,n5,o6⟩:=I1.isTup z2;obtain⟨w1,w2,rfl,⟨t,rfl⟩,⟨t',rfl⟩⟩:=vals2 vt;obtain⟨t3,e3⟩:=z3;refine⟨b,x.2.1,_,o2,0,n5,t3,t,t',rfl,e2,rfl,?_,k3 _ _ (k2 _ _ o3),o4,o6⟩;show Data.seq #[Value.ref x.2.1,x.2.2] _=_;rw[e3]
 have asp:(as.map Value.ref).length=ps.length:=by rw[af,hl3,esz,hkl]
 have hmap:(as.map Value.ref).map (iOf h3')=ps:=by
  refine iJ fun j=>?_;rw[ak];by_cases hj:j<ps.length
  .have e1:(as.map Value.ref)[j]?=some ((as.map Value.ref)[j]'(by lia)):=aC _;have e2:ps[j]?=some ps[j]:=aC hj;rw[e1,e2,gh,(itemA j _ _ e1 e2).at]
  .rw[eB (by lia),eB (by lia)];rfl
 have item:∀ v∈as.map Value.ref,∃ p,IsI h3' v p/\BdI p/\p.1.1.natAbs<1000:=by
  intro v hv;obtain⟨j,hj⟩:=gr.mp hv;have jl:j<ps.length:=by rw[<-asp];exact(aT.mp hj).1
  have e2:ps[j]?=some ps[j]:=aC jl;obtain⟨b1,b2⟩:=he _ (aF e2);exact⟨_,itemA j v _ hj e2,b1,b2⟩
 have asl:(as.map Value.ref).length=kvs.length:=by rw[af,hl3,esz]
 generalize as.map Value.ref=its at item asl hmap;have kk:∀ b o,s1.heap.get? b=some o->h3'.get? b=some o:=fun b o e=>k3 b o (k2 b o e);have sz:its.length<=sizeLine:=by rw[asl];exact zl
 refine ae (nT (id ?_) sz);have hD:(h3'.push (seqObj "list" its.toArray 0)).get? h3'.objs.size=some (seqObj "list" its.toArray 0):=ca _ rfl;have kD:∀ b o,h3'.get? b=some o->(h3'.push (seqObj "list" its.toArray 0)).get? b=some o:=fun b o e=>br _ e;refine ae (eV (eJ slot_list_sort ⟨_,hD,rfl⟩ entry_list_sort (ZmV (z:={ s1 with heap:=h3'.push (seqObj "list" its.toArray 0),toks:=tk }) (kA h3') hD (by rw[asl,hkl];exact hk) (fun h2 z' Q' kp hq=>?_) (fun kp=>ltI3 (by first|lia|(show X.A.units+1+1+4<cLine;lia)|(show X.A.units+1+4<cLine;lia)) fun b o e ec=>kp b o (kD b o e) ec) (fun v hv=>?_) (show its.Pairwise fun v w=>cdI (iOf h3' v)<=cdI (iOf h3' w) by rw[<-hmap] at hrs;exact(pairwise_map (f:=iOf h3') (R:=fun p q=>cdI p<=cdI q)).mp hrs) ⟨_,rfl,?_⟩) (args_list_sort _)))
 .obtain ⟨fs,f1,f2,f3⟩:=tI (M:=model X.prog X.w) (h:=z'.heap) (l:=its) fun v hv=>by
   obtain⟨p,a1,_⟩:=item v hv;exact⟨p,a1.keep fun b o e ec=>kp b o (kD b o e) ec⟩
  exact PySem.W.kat_kind (T:=.type "tuple") f1 (by lia) f3 (by decide) hq
 .obtain ⟨p,a1,a2,_⟩:=item v hv;exact⟨p,a1,a2⟩
 .refine aq ⟨_,rfl,?_⟩;generalize hF:sortedHeap (h3'.push (seqObj "list" its.toArray 0)) h3'.objs.size its its.toArray=hf;have kF:∀ b o,h3'.get? b=some o->hf.get? b=some o:=fun b o e=>by
   have hlt:=bn e;rw[<-hF,sortedHeap_old (bZ hlt) (by rw[size_push'];exact rj hlt)];exact kD b o e
  obtain⟨ep2,hat2⟩:=sortedHeap_at (out:=its.toArray) hD;rw[hF] at hat2;have oi:∀ v∈its,∃ p,IsI hf v p/\BdI p/\p.1.1.natAbs<1000:=fun v hv=>by
   obtain⟨p,a1,a2⟩:=item v hv;exact⟨p,a1.keep fun b o e _=>kF b o e,a2⟩
  obtain⟨bs,r1,r2,r3,r4,r5⟩:=wu its oi;have em:its.map (iOf hf)=ps:=by
   rw[<-hmap];refine gj fun v hv=>?_;obtain⟨p,a1,_⟩:=item v hv;rw[a1.at,(a1.keep fun b o e _=>kF b o e).at]
  have ed:(its.map fun v=>itD (iOf hf v))=(its.map (iOf hf)).map itD:=by rw[fM];rfl
  have ol:its.length=kvs.length:=asl;rw[ed] at r1 r2 r3 r4 r5;rw[em] at r1 r2 r3 r4 r5;have ln:=pi (PyData.shownAll (ps.map itD));have rd:Reads hf (.ref h3'.objs.size) (.list (ps.map itD)) (h3'.objs.size::bs):=.list hat2 rfl rfl r1;have sl:(PyData.list (ps.map itD)).shown.length<=100000:=by rw[PyData.shown];lia
  have es:(PyData.list (ps.map itD)).shown=shT (.lst (ps.map itT)):=by rw[PyData.shown,shT,tS]
  refine nL ?_;refine str_of_reads rd (by simpa [PyData.showable] using r2) (PyData.noDict_hsm (by simpa [PyData.hasDict] using r3)) hg (by simp only[PyData.depth];lia) (fun _ _ e=>e) (fun h' u tk' hk'=>?_) (by rw[PySem.sizeLine_eq];lia);exact⟨.str (PyData.list (ps.map itD)).shown,H1,I1.kept (t':=tk') fun b o e=>hk' b o (kF b o (kk b o e)),⟨u,rfl⟩,by rw[es];exact q⟩
end
end L2
end
section
namespace L2
open PySem PySem.Spec PyProof.Rows
section
variable{P:Program}{w:World}{K:W.Frag}{G:GH}{b:Addr}{k:T->GH->Prop}{d x y z:T}{v:V}{D:EndT}{c:Ct}{o:HO}
def Zkw(h:We P w K td Γ G fun x G1=>∃ (a:Addr) (ps:List I3),x=.ptr a/\G1 a=some (.dt (ps.map fun p:I3=>([.inl p.1.1,.inl p.1.2],.int p.2)))/\ps.length<64/\(∀ p∈ps,BdI p/\p.1.1.natAbs<1000)/\ps.Pairwise (fun p q=>cdI p<=cdI q)/\k (.str (shT (.lst (ps.map itT)))) G1):We P w K (tSisA td) Γ G k:=fun H Z g ev Q z=>h H Z g ev _ fun v1 H1 x G1 s1 g1 r1 z0_=>by
 obtain⟨a,ps,rfl,ea,hl,hk,hr,q⟩:=z0_;cases r1;obtain⟨kvs',h1,pr⟩:=g1 a _ ea;have ek:kvs'=ps.map kvI:=by
  refine iJ fun j=>?_;have pl:=Paired.length pr;rw[af] at pl;rw[ak];by_cases hj:j<ps.length
  .have e2:ps[j]?=some ps[j]:=aC hj;have e1:kvs'[j]?=some (kvs'[j]'(by lia)):=aC _;obtain⟨z1,z2⟩:=lW pr j (by rw[ak,e2];rfl) e1;rw[e1,e2,gh];generalize kvs'[j]'(by lia)=e at z1 z2;obtain⟨ek,ev⟩:=e;dsimp only at z1 z2;cases z2;rw[<-z1]
  .rw[eB (by lia),eB (by lia)];rfl
 rw[ek] at h1;exact⟨a,ps,rfl,h1,hl,hk,hr,(z.mono s1).here g1 .str q⟩
end
def kyN:List Key->Int
 | [.inl i,.inl j]=>1000*i+j
 | _=>0
structure Rs(kn:List (List Key×T))(m:Int):Prop where
 up:kn.Pairwise fun a b=>kyN a.1<kyN b.1
 lt:∀ a∈kn,kyN a.1<m
def Rs.nil{m:Int}:Rs [] m:=⟨.nil,nofun⟩
def Rs.mono{kn:List (List Key×T)}{m n:Int}(r:Rs kn m)(h:m<=n):Rs kn n:=⟨r.up,fun a ha=>Int.lt_of_lt_of_le (r.lt a ha) h⟩
def Rs.put{kn:List (List Key×T)}{v:T}(r:Rs kn (1000*i+j)):putA kn [.inl i,.inl j] v=kn++[([.inl i,.inl j],v)]/\Rs (kn++[([.inl i,.inl j],v)]) (1000*i+(j+1)):=by
 refine⟨rS ?_,pairwise_append.mpr ⟨r.up,rC _ _,fun a ha b hb=>?_⟩,fun a ha=>?_⟩
 .cases e:getA kn [.inl i,.inl j] with
  | none=>rfl
  | some t=>exact absurd (r.lt _ (kC e)) (Int.lt_irrefl _)
 .rw[aK.mp hb];exact r.lt a ha
 .rcases aR.mp ha with h|h
  .have:=r.lt a h;lia
  .rw[aK.mp h];show 1000*i+j<_;lia
def Rs.cd{ps:List I3}{m:Int}(r:Rs (ps.map fun p:I3=>(([.inl p.1.1,.inl p.1.2]:List Key),T.int p.2)) m)(h:∀ p∈ps,BdI p/\0<=p.1.2/\p.1.2<1000):ps.Pairwise fun p q=>cdI p<=cdI q:=by
 refine xW (fun {p q} hp hq e=>?_) (pairwise_map.mp r.up);obtain⟨h1,h2,h3⟩:=h p hp;obtain⟨k1,k2,k3⟩:=h q hq;have e:1000*p.1.1+p.1.2<1000*q.1.1+q.1.2:=e;exact Int.le_of_lt ((s9 h1 k1).mpr (.inl (by lia)))
def pO(K:W.Frag):List V->Hp->VK->Prop:=fun xs H Q=>∃ (a:Addr) (ns:List Int),xs=[.ref a]/\SqL K H a (ns.map V.int)/\ns≠[]/\∀ M,M∈ns->(∀ x∈ns,x<=M)->Q (.int M) H
def Zmu{X:Cx}(hc:X.calm=true):cm X (.builtin "max") (pO X.K):=by
 intro pins s Z H xs us Q I r h;obtain⟨a,ns,rfl,ha,hne,q⟩:=h;obtain⟨u,rfl,ru⟩:=vals1 r;cases ru;obtain⟨its,vx,ht,_⟩:=I.list ha;have hi:=intsAre_of vx;obtain⟨ps,e⟩:=hi.allInts.items;have hns:ns=ps.toList.map (·.1):=by rw[<-hi.numsOf,<- nums_intItems,<- e]
 have hsz:0<ps.size:=by
  have:=length_pos_iff.mpr hne;rw[hns,af,fI] at this;exact this
 refine max_intList (xs:=ps) (I.ok.hd hc) (by rw[<-e];exact ht.isList) hsz fun v h' tk hv hk=>?_;obtain⟨t,rfl⟩:=intItems_at hv;obtain⟨h1,h2⟩:=argBest_gt (numAt ps) (ps.size-1);have ln:(ps.toList.map (·.1)).length=ps.size:=by rw[af,fI]
 refine⟨.int _,H,I.kept hk,⟨t,rfl⟩,q _ ?_ fun y hy=>?_⟩
 .rw[hns,numAt_eq];exact getD_mem (by lia)
 .rw[hns] at hy;obtain⟨j,hj,rfl⟩:=mem_getD hy;rw[<-numAt_eq];exact h2 j (by lia)
def vN{X:Cx}{K:W.Frag}(h:X.K=K)(hc:X.calm=true):cm X (.builtin "max") (pO K):=h▸Zmu hc
section
variable{P:Program}{w:World}{K:W.Frag}{G:GH}{k:T->GH->Prop}{x:T}
def ve(hne:ns≠[])(q:∀ M,M∈ns->(∀ y∈ns,y<=M)->k (.int M) G):LNr P w K (pO K) [.lst (ns.map T.int)] G k:=fun H us g r Q z=>by
 cases r with|cons r1 r2=>cases r2;cases r1 with|lst _ e w=>exact⟨_,ns,rfl,by rw[<-wJ w];exact SqL.of e,hne,fun M h1 h2=>z.here g .int (q M h1 h2)⟩
def l_max(h:k (.int (if j>i then j else i)) G):LNr P w K rMax [.int i,.int j] G k:=fun H us g r Q z=>by
 cases r with|cons r1 r2=>cases r2 with|cons r2 r3 =>
 cases r1;cases r2;cases r3;exact⟨i,j,rfl,z.here g .int h⟩
end
section
variable{P:Program}{w:World}{K:W.Frag}{G:GH}{k:T->GH->Prop}{ts:List T}{y:T}{b c:Bool}
def l_neB(h:k (.bl (!decide (b=c))) G):L2r P w K rNe (.bl b) (.bl c) G k:=fun H u v g r1 r2 Q z=>by cases r1;cases r2;exact tU (z.here g .bl h)
def l_intB(h:k (.int (if b then 1 else 0)) G):LNr P w K rInt [.bl b] G k:=fun H us g r Q z=>by
 cases r with|cons r1 r2=>cases r2;cases r1;exact .inr ⟨b,rfl,z.here g .int h⟩
end
end L2
end
section
namespace L3
open PySem Builtin Builtin.Str
def IsIt:Bool->Heap->Addr->Addr->Nat->Prop
 | true,h,a,l,i=>h.IsTupleIter a l i
 | false,h,a,l,i=>h.IsListIter a l i
def IsSq:Bool->Heap->Addr->Array Value->Prop
 | true,h,l,xs=>h.IsTuple l xs
 | false,h,l,xs=>h.IsList l xs
def itN:Bool->String
 | true=>"tuple_iterator"
 | false=>"list_iterator"
def IsIt.extBut{t:Bool}{h h':Heap}{a l x:Addr}{i:Nat}(hi:IsIt t h a l i)(e:Heap.ExtBut x h h')(n:a≠x):IsIt t h' a l i:=by
 cases t with
 | true=>exact Heap.IsTupleIter.extBut hi e n
 | false=>exact Heap.IsListIter.extBut hi e n
def IsSq.extBut{t:Bool}{h h':Heap}{l x:Addr}{xs:Array Value}(hi:IsSq t h l xs)(e:Heap.ExtBut x h h')(n:l≠x):IsSq t h' l xs:=by
 cases t with
 | true=>exact Heap.IsTuple.extBut hi e n
 | false=>exact Heap.IsList.extBut hi e n
def IsIt.at{t:Bool}{h h':Heap}{a l:Addr}{i:Nat}(x:IsIt t h a l i)(e:∀ o,h.get? a=some o->h'.get? a=some o):IsIt t h' a l i:=by
 cases t with
 | true=>obtain⟨o,ho,r⟩:=x;exact⟨o,e _ ho,r⟩
 | false=>obtain⟨o,ho,r⟩:=x;exact⟨o,e _ ho,r⟩
section
variable{prog:Program}{w:World}{A:Around}{E:Value->Shared->Prop}{s:Shared}
def qr{b:Bool}{it t:Addr}{i:Nat}{items:Array Value}{x:Value}{Q:Value->Shared->Prop}(hit:IsIt b s.heap it t i)(ht:IsSq b s.heap t items)(hx:items[i]?=some x)
  (hQ:∀ h',IsIt b h' it t (i+1)->Heap.SameBut it s.heap h'->Q x { s with heap:=h' }):wpAny (model prog w) A (Builtin.SmallTypes.nextOf (.ref it)) Q E s:=by
 cases b with
 | true=>exact nextT hit ht hx hQ
 | false=>exact wpAny_nextOf_list_item hit ht hx hQ
def sH{b:Bool}{it t:Addr}{i:Nat}{items:Array Value}{Q:Value->Shared->Prop}(hh:A.handled=none)(hit:IsIt b s.heap it t i)(ht:IsSq b s.heap t items)(hx:items[i]?=none)
  (hE:∀ h' e,Heap.ExtBut it s.heap h'->(∃ o,h'.get? e=some o/\o.cls=.type "StopIteration")->E (.ref e) { s with heap:=h' }):wpAny (model prog w) A (Builtin.SmallTypes.nextOf (.ref it)) Q E s:=by
 cases b with
 | true=>exact ZlD hh hit ht hx hE
 | false=>exact wpAny_nextOf_list_end hh hit ht hx hE
def Zkn{t1 t2:Bool}{z TI TO i1 i2 l1 l2:Addr}{k1 k2:Nat}{xs ys:Array Value}{x y a b:Value}{Q:Value->Shared->Prop}(D:ZipApart z TI TO i1 i2 l1 l2)
  (hz:IsZip s.heap z TI TO .none) (hTI:IsPair s.heap TI (.ref i1) (.ref i2)) (hTO:IsPair s.heap TO a b)
  (h1:IsIt t1 s.heap i1 l1 k1) (h2:IsIt t2 s.heap i2 l2 k2) (hl1:IsSq t1 s.heap l1 xs) (hl2:IsSq t2 s.heap l2 ys) (hx:xs[k1]?=some x) (hy:ys[k2]?=some y)
  (hQ:∀ h',IsZip h' z TI TO (rawInt s.heap.objs.size)->IsPair h' TO x y->IsIt t1 h' i1 l1 (k1+1)->IsIt t2 h' i2 l2 (k2+1)->IsPair h' s.heap.objs.size x y->h'.objs.size=s.heap.objs.size+1 ->
   (∀ c o,c≠z->c≠TO->c≠i1->c≠i2->s.heap.get? c=some o->h'.get? c=some o)->Q (.ref s.heap.objs.size) { s with heap:=h' }) :
  wpAny (model prog w) A (Builtin.«zip.__next__» ⟨[.ref z],[]⟩) (fun fin s'=>∃ v,fin=.done (.ret v)/\Q v s') E s:=by
 show wpAny _ _ (field (.ref z) 2 >>= _) _ _ _;refine ae (cY hz rfl (x:=.bool false) rfl ?_);show wpAny _ _ (field (.ref z) 3 >>= _) _ _ _;refine ae (cY hz rfl (x:=.ref TI) rfl ?_);refine ae (gI hTI rfl ?_);show wpAny _ _ (Builtin.SmallTypes.ownedTupleIsFree (.ref z) >>= _) _ _ _;refine ae ?_;unfold Builtin.SmallTypes.ownedTupleIsFree;refine ae (cY hz rfl (x:=.none) rfl (aq ?_));simp only[fZ];refine ae (gZ ?_);refine ae (cY hz rfl (x:=.ref TO) rfl ?_);refine ae (fO hz (by simp) fun ha hza hsa=>?_);replace hza:IsZip ha z TI TO .ellipsis:=hza;refine ae ?_;simp only[zipIdx_cons,zipIdx_nil,j5,forIn_nil];refine ae (ae (ox ?_));show wpAny _ _ (Builtin.SmallTypes.nextOf (.ref i1) >>= _) _ _ _;refine ae (qr (h1.extBut hsa.extBut D.i1z) (hl1.extBut hsa.extBut D.l1z) hx fun hb h1b hsb=>aq ?_);have tb:IsPair hb TO a b:=hsb.extBut _ _ D.TOi1 (hsa.extBut _ _ D.TOz hTO);refine ae (gI tb rfl ?_);refine ae (rL tb fun hc tc hsc=>?_);replace tc:IsPair hc TO x b:=tc;refine ae (wpAny_letGo (aq ?_));refine ae (ae (ox ?_));show wpAny _ _ (Builtin.SmallTypes.nextOf (.ref i2) >>= _) _ _ _;refine ae (qr (((h2.extBut hsa.extBut D.i2z).extBut hsb.extBut D.i12.symm).extBut hsc.extBut D.TOi2.symm) (((hl2.extBut hsa.extBut D.l2z).extBut hsb.extBut D.l2i1).extBut hsc.extBut D.l2TO) hy fun hd h2d hsd=>aq ?_);have td:IsPair hd TO x b:=hsd.extBut _ _ D.TOi2 tc;refine ae (gI td rfl ?_);refine ae (rL td fun he te hse=>?_);replace te:IsPair he TO x y:=te;refine ae (wpAny_letGo (aq (aq ?_)));refine ae (gI te rfl ?_);refine ae (nS ?_);have hsz:he.objs.size=s.heap.objs.size:=by rw[hse.1,hsd.1,hsc.1,hsb.1,hsa.1]
 have ze:IsZip he z TI TO .ellipsis:=hse.extBut _ _ D.TOz.symm (hsd.extBut _ _ D.i2z.symm (hsc.extBut _ _ D.TOz.symm (hsb.extBut _ _ D.i1z.symm hza)));have ke:∀ c o,c≠z->c≠TO->c≠i1->c≠i2->s.heap.get? c=some o->he.get? c=some o:=fun c o c1 c2 c3 c4 e =>
  hse.extBut _ _ c2 (hsd.extBut _ _ c4 (hsc.extBut _ _ c2 (hsb.extBut _ _ c3 (hsa.extBut _ _ c1 e))))
 have h1e:IsIt t1 he i1 l1 (k1+1):=((h1b.extBut hsc.extBut D.TOi1.symm).extBut hsd.extBut D.i12).extBut hse.extBut D.TOi1.symm;have h2e:IsIt t2 he i2 l2 (k2+1):=h2d.extBut hse.extBut D.TOi2.symm;have hzlt:z<he.objs.size:=bn ze;show wpAny _ _ (Builtin.SmallTypes.ownedTupleHandOut (.ref z) (.ref he.objs.size) >>= _) _ _ _;refine ae ?_;unfold Builtin.SmallTypes.ownedTupleHandOut;have zf:IsZip (he.push { cls:=.type "tuple",data:=.seq #[x,y] }) z TI TO .ellipsis:=br _ ze;refine ae (fO zf (by simp) fun hg zg hsg=>?_);replace zg:IsZip hg z TI TO (rawInt he.objs.size):=zg;refine fO zg (by simp) fun hi zi hsi=>?_;replace zi:IsZip hi z TI TO (rawInt he.objs.size):=zi;have up:∀ c o,c≠z->he.get? c=some o->hi.get? c=some o:=fun c o c1 e=>hsi.extBut _ _ c1 (hsg.extBut _ _ c1 (br _ e));have hT:IsPair hi he.objs.size x y:=hsi.extBut _ _ (fk hzlt) (hsg.extBut _ _ (fk hzlt) (ca _ rfl));have hz8:hi.objs.size=he.objs.size+1:=by rw[hsi.1,hsg.1,gX]
 rw[hsz] at zi hT hz8;refine aq ⟨_,rfl,?_⟩;show Q (.ref he.objs.size) _;rw[hsz];exact hQ hi zi (up _ _ D.TOz te) (IsIt.at h1e fun o e=>up _ o D.i1z e) (IsIt.at h2e fun o e=>up _ o D.i2z e) hT hz8 fun c o c1 c2 c3 c4 e=>up c o c1 (ke c o c1 c2 c3 c4 e)
def ZmN{t1 t2:Bool}{z TI TO i1 i2 l1 l2:Addr}{k1 k2:Nat}{xs ys:Array Value}{a b:Value}{Q:Fin->Shared->Prop}(hh:A.handled=none)(D:ZipApart z TI TO i1 i2 l1 l2)
  (hz:IsZip s.heap z TI TO .none) (hTI:IsPair s.heap TI (.ref i1) (.ref i2)) (hTO:IsPair s.heap TO a b)
  (h1:IsIt t1 s.heap i1 l1 k1) (h2:IsIt t2 s.heap i2 l2 k2) (hl1:IsSq t1 s.heap l1 xs) (hl2:IsSq t2 s.heap l2 ys) (hend:xs[k1]?=none\/ys[k2]?=none)
  (hE:∀ h' e,(∀ c o,c≠z->c≠TO->c≠i1->c≠i2->s.heap.get? c=some o->h'.get? c=some o)->(∃ o,h'.get? e=some o/\o.cls=.type "StopIteration")->E (.ref e) { s with heap:=h' }) :
  wpAny (model prog w) A (Builtin.«zip.__next__» ⟨[.ref z],[]⟩) Q E s:=by
 show wpAny _ _ (field (.ref z) 2 >>= _) _ _ _;refine ae (cY hz rfl (x:=.bool false) rfl ?_);show wpAny _ _ (field (.ref z) 3 >>= _) _ _ _;refine ae (cY hz rfl (x:=.ref TI) rfl ?_);refine ae (gI hTI rfl ?_);show wpAny _ _ (Builtin.SmallTypes.ownedTupleIsFree (.ref z) >>= _) _ _ _;refine ae ?_;unfold Builtin.SmallTypes.ownedTupleIsFree;refine ae (cY hz rfl (x:=.none) rfl (aq ?_));simp only[fZ];refine ae (gZ ?_);refine ae (cY hz rfl (x:=.ref TO) rfl ?_);refine ae (fO hz (by simp) fun ha hza hsa=>?_);replace hza:IsZip ha z TI TO .ellipsis:=hza;refine ae ?_;simp only[zipIdx_cons,zipIdx_nil,j5,forIn_nil];refine ae (ae (ox ?_));show wpAny _ _ (Builtin.SmallTypes.nextOf (.ref i1) >>= _) _ _ _;cases hx:xs[k1]? with
 | none =>
  refine ae (sH hh (h1.extBut hsa.extBut D.i1z) (hl1.extBut hsa.extBut D.l1z) hx fun hb e hsb he=>?_);obtain⟨oe,hoe,hce⟩:=he;have zb:IsZip hb z TI TO .ellipsis:=hsb _ _ D.i1z.symm hza;have hez:e≠z:=fun x=>by subst x;rw[zb] at hoe;cases hoe;simp at hce
  refine fO zb (by simp) fun hc _ hsc=>hE hc e (fun c o c1 _ c3 _ x=>hsc.extBut _ _ c1 (hsb _ _ c3 (hsa.extBut _ _ c1 x))) ⟨oe,hsc.extBut _ _ hez hoe,hce⟩
 | some x =>
  have hy:ys[k2]?=none:=by rcases hend with h|h;rw[hx] at h;cases h;exact h
  refine ae (qr (h1.extBut hsa.extBut D.i1z) (hl1.extBut hsa.extBut D.l1z) hx fun hb h1b hsb=>aq ?_);have tb:IsPair hb TO a b:=hsb.extBut _ _ D.TOi1 (hsa.extBut _ _ D.TOz hTO);refine ae (gI tb rfl ?_);refine ae (rL tb fun hc tc hsc=>?_);refine ae (wpAny_letGo (aq ?_));refine ae (ae (ox ?_));show wpAny _ _ (Builtin.SmallTypes.nextOf (.ref i2) >>= _) _ _ _;refine ae (sH hh (((h2.extBut hsa.extBut D.i2z).extBut hsb.extBut D.i12.symm).extBut hsc.extBut D.TOi2.symm) (((hl2.extBut hsa.extBut D.l2z).extBut hsb.extBut D.l2i1).extBut hsc.extBut D.l2TO) hy fun hd e hsd he=>?_);obtain⟨oe,hoe,hce⟩:=he;have zd:IsZip hd z TI TO .ellipsis:=hsd _ _ D.i2z.symm (hsc.extBut _ _ D.TOz.symm (hsb.extBut _ _ D.i1z.symm hza));have hez:e≠z:=fun x=>by subst x;rw[zd] at hoe;cases hoe;simp at hce
  refine fO zd (by simp) fun he _ hse=>hE he e (fun c o c1 c2 c3 c4 x=>hse.extBut _ _ c1 (hsd _ _ c4 (hsc.extBut _ _ c2 (hsb.extBut _ _ c3 (hsa.extBut _ _ c1 x))))) ⟨oe,hse.extBut _ _ hez hoe,hce⟩
def next_zipA{t1 t2:Bool}{z TI TO i1 i2 l1 l2:Addr}{k1 k2:Nat}{xs ys:Array Value}{x y a b:Value}{Q:Option Value->Shared->Prop}(D:ZipApart z TI TO i1 i2 l1 l2)
  (hz:IsZip s.heap z TI TO .none) (hTI:IsPair s.heap TI (.ref i1) (.ref i2)) (hTO:IsPair s.heap TO a b)
  (h1:IsIt t1 s.heap i1 l1 k1) (h2:IsIt t2 s.heap i2 l2 k2) (hl1:IsSq t1 s.heap l1 xs) (hl2:IsSq t2 s.heap l2 ys) (hx:xs[k1]?=some x) (hy:ys[k2]?=some y)
  (hQ:∀ h',IsZip h' z TI TO (rawInt s.heap.objs.size)->IsPair h' TO x y->IsIt t1 h' i1 l1 (k1+1)->IsIt t2 h' i2 l2 (k2+1)->IsPair h' s.heap.objs.size x y->h'.objs.size=s.heap.objs.size+1 ->
   (∀ c o,c≠z->c≠TO->c≠i1->c≠i2->s.heap.get? c=some o->h'.get? c=some o)->Q (some (.ref s.heap.objs.size)) { s with heap:=h' }) :
  wpAny (model prog w) A (pyNext (.ref z)) Q E s:=by
 have hT:s.TypeIs (.ref z) "zip":=⟨_,hz,rfl⟩;unfold pyNext;exact ae (lQ (iD (name:=Str.ofString "__next__") hT F.slot_zip_next (eJ F.slot_zip_next hT F.entry_zip_next
   (Zkn D hz hTI hTO h1 h2 hl1 hl2 hx hy fun h' a1 a2 a3 a4 a5 a6 a7=>aq (hQ h' a1 a2 a3 a4 a5 a6 a7)) (F.args_zip_next_1 _))))
def next_zipA_end{t1 t2:Bool}{z TI TO i1 i2 l1 l2:Addr}{k1 k2:Nat}{xs ys:Array Value}{a b:Value}{Q:Option Value->Shared->Prop}(hh:A.handled=none)(D:ZipApart z TI TO i1 i2 l1 l2)
  (hz:IsZip s.heap z TI TO .none) (hTI:IsPair s.heap TI (.ref i1) (.ref i2)) (hTO:IsPair s.heap TO a b)
  (h1:IsIt t1 s.heap i1 l1 k1) (h2:IsIt t2 s.heap i2 l2 k2) (hl1:IsSq t1 s.heap l1 xs) (hl2:IsSq t2 s.heap l2 ys) (hend:xs[k1]?=none\/ys[k2]?=none)
  (hQ:∀ h',(∀ c o,c≠z->c≠TO->c≠i1->c≠i2->s.heap.get? c=some o->h'.get? c=some o)->Q none { s with heap:=h' }):wpAny (model prog w) A (pyNext (.ref z)) Q E s:=by
 have hT:s.TypeIs (.ref z) "zip":=⟨_,hz,rfl⟩;unfold pyNext;refine ae (lQ (iD (name:=Str.ofString "__next__") hT F.slot_zip_next (eJ F.slot_zip_next hT F.entry_zip_next (ZmN hh D hz hTI hTO h1 h2 hl1 hl2 hend fun h' e hk he=>?_) (F.args_zip_next_1 _))));obtain⟨o,ho,hc⟩:=he;refine ae (jp (T:="StopIteration") (b:=true) ⟨o,ho,hc⟩ isSubtype_stop ?_);exact aq (hQ _ hk)
end
abbrev zA1(t1:Bool)(h:Heap)(l1:Addr):Heap:=h.push { cls:=.type (itN t1),data:=.fields #[.ref l1,.int 0 0] }
abbrev zA2(t1 t2:Bool)(h:Heap)(l1 l2:Addr):Heap:=(zA1 t1 h l1).push { cls:=.type (itN t2),data:=.fields #[.ref l2,.int 0 0] }
abbrev zA3(t1 t2:Bool)(h:Heap)(l1 l2:Addr):Heap:=(zA2 t1 t2 h l1 l2).push { cls:=.type "tuple",data:=.seq #[.ref h.objs.size,.ref (zA1 t1 h l1).objs.size] }
abbrev zA4(t1 t2:Bool)(h:Heap)(l1 l2:Addr):Heap:=(zA3 t1 t2 h l1 l2).push { cls:=.type "tuple",data:=.seq #[.none,.none] }
noncomputable abbrev zA5(t1 t2:Bool)(h:Heap)(l1 l2:Addr):Heap:=(zA4 t1 t2 h l1 l2).push { cls:=.type "zip",data:=.fields #[.none,.bool false,.bool false,.ref (zA2 t1 t2 h l1 l2).objs.size,.ref (zA3 t1 t2 h l1 l2).objs.size] }
def ZmM(t1 t2:Bool)(l1 l2:Addr)(xs ys:Array Value) :
  Meets (Builtin.«zip.__new__» ⟨[.type "zip",.ref l1,.ref l2],[]⟩) (fun _ R s=>IsSq t1 s.heap l1 xs/\IsSq t2 s.heap l2 ys/\R (.ok (.ret (.ref (zA4 t1 t2 s.heap l1 l2).objs.size))) { s with heap:=zA5 t1 t2 s.heap l1 l2 }) :=
 .of_wp fun prog w A R s h=>by
  obtain⟨hp,g,d,tk,os⟩:=s;obtain⟨hl1,hl2,h⟩:=h;have hsub:isSubtype (.type "zip") (.type "zip")=pure true:=by rw[isSubtype_type];kernel_rfl
  cases t1 with
  | true =>
   have hL1:Heap.IsTuple (Shared.heap ⟨hp,g,d,tk,os⟩) l1 xs:=hl1;cases t2 with
   | true =>
    have hL2:Heap.IsTuple (Shared.heap ⟨hp.push { cls:=.type "tuple_iterator",data:=.fields #[.ref l1,.int 0 0] },g,d,tk,os⟩) l2 ys:=Heap.IsTuple.push hl2 _
    wp_walk using ls hL1,ls hL2
    exact⟨_,rfl,h⟩
   | false =>
    have hL2:Heap.IsList (Shared.heap ⟨hp.push { cls:=.type "tuple_iterator",data:=.fields #[.ref l1,.int 0 0] },g,d,tk,os⟩) l2 ys:=Heap.IsList.push hl2 _
    wp_walk using ls hL1,jW hL2
    exact⟨_,rfl,h⟩
  | false =>
   have hL1:Heap.IsList (Shared.heap ⟨hp,g,d,tk,os⟩) l1 xs:=hl1;cases t2 with
   | true =>
    have hL2:Heap.IsTuple (Shared.heap ⟨hp.push { cls:=.type "list_iterator",data:=.fields #[.ref l1,.int 0 0] },g,d,tk,os⟩) l2 ys:=Heap.IsTuple.push hl2 _
    wp_walk using jW hL1,ls hL2
    exact⟨_,rfl,h⟩
   | false =>
    have hL2:Heap.IsList (Shared.heap ⟨hp.push { cls:=.type "list_iterator",data:=.fields #[.ref l1,.int 0 0] },g,d,tk,os⟩) l2 ys:=Heap.IsList.push hl2 _
    wp_walk using jW hL1,jW hL2
    exact⟨_,rfl,h⟩
def call_zipA{prog:Program}{w:World}{A:Around}{E:Value->Shared->Prop}{s:Shared}{t1 t2:Bool}{l1 l2:Addr}{xs ys:Array Value}{Q:Value->Shared->Prop}(hl1:IsSq t1 s.heap l1 xs)(hl2:IsSq t2 s.heap l2 ys)
  (h:∀ h',IsZip h' (s.heap.objs.size+4) (s.heap.objs.size+2) (s.heap.objs.size+3) .none->IsPair h' (s.heap.objs.size+2) (.ref s.heap.objs.size) (.ref (s.heap.objs.size+1)) ->
   IsPair h' (s.heap.objs.size+3) .none .none->IsIt t1 h' s.heap.objs.size l1 0->IsIt t2 h' (s.heap.objs.size+1) l2 0 ->
   (∀ c o,s.heap.get? c=some o->h'.get? c=some o)->Q (.ref (s.heap.objs.size+4)) { s with heap:=h' }) :
  wpAny (model prog w) A (call (.type "zip") [.ref l1,.ref l2]) Q E s:=by
 refine callType_new F.called_zip (by decide) (F.typeCall_zip_2 _ _) (F.newCall_zip_2 _ _) (fun obj=>F.args_object_init_3 obj _ _) F.entry_zip_new (ZmM t1 t2 l1 l2 xs ys) ⟨hl1,hl2,?_⟩;have z1:(zA1 t1 s.heap l1).objs.size=s.heap.objs.size+1:=gX ..;have z2:(zA2 t1 t2 s.heap l1 l2).objs.size=s.heap.objs.size+2:=by rw[gX,z1]
 have z3:(zA3 t1 t2 s.heap l1 l2).objs.size=s.heap.objs.size+3:=by rw[gX,z2]
 have z4:(zA4 t1 t2 s.heap l1 l2).objs.size=s.heap.objs.size+4:=by rw[gX,z3]
 have g5:(zA5 t1 t2 s.heap l1 l2).get? (zA4 t1 t2 s.heap l1 l2).objs.size=some _:=ca _ rfl;have g4:(zA5 t1 t2 s.heap l1 l2).get? (zA3 t1 t2 s.heap l1 l2).objs.size=some _:=br _ (ca _ rfl);have g3:(zA5 t1 t2 s.heap l1 l2).get? (zA2 t1 t2 s.heap l1 l2).objs.size=some _:=br _ (br _ (ca _ rfl));have g2:(zA5 t1 t2 s.heap l1 l2).get? (zA1 t1 s.heap l1).objs.size=some _:=br _ (br _ (br _ (ca _ rfl)));have g1:(zA5 t1 t2 s.heap l1 l2).get? s.heap.objs.size=some _:=br _ (br _ (br _ (br _ (ca _ rfl))));show _/\_;rw[z2,z3,z4] at g5;rw[z1,z2] at g3;rw[z3] at g4;rw[z1] at g2;rw[z4];exact⟨⟨_,g5,rfl⟩,h _ g5 g3 g4 (by cases t1 <;> exact⟨_,g1,rfl,rfl⟩) (by cases t2 <;> exact⟨_,g2,rfl,rfl⟩) fun c o x=>br _ (br _ (br _ (br _ (br _ x))))⟩
end L3
end
section
namespace L3
open PySem
def IsIt.ex{t:Bool}{h:Heap}{a l:Addr}{i:Nat}(x:IsIt t h a l i):∃ o n,h.get? a=some o/\o.data=.fields n:=by
 cases t with
 | true=>obtain⟨o,h1,_,h2⟩:=x;exact⟨o,_,h1,h2⟩
 | false=>obtain⟨o,h1,_,h2⟩:=x;exact⟨o,_,h1,h2⟩
def IsSq.lt{t:Bool}{h:Heap}{l:Addr}{xs:Array Value}(x:IsSq t h l xs):l<h.objs.size:=by
 cases t with
 | true=>obtain⟨o,e,_⟩:=x;exact bn e
 | false=>obtain⟨o,e,_⟩:=x;exact bn e
end L3
namespace L2
open PySem PySem.Spec PyProof.Rows
def SqB(t:Bool)(K:W.Frag)(H:Hp)(l:Addr)(xs:List V):Prop:=match t with
 | true=>SqT K H l xs
 | false=>SqL K H l xs
def Inv.seqB{X:Cx}{s:Shared}{t:Bool}{l:Addr}{xs:List V}(I:Inv X pins Z H s)(h:SqB t X.K H l xs):∃ its,Vals xs its/\L3.IsSq t s.heap l its.toArray/\True:=by
 cases t with
 | true=>obtain⟨its,a,b,_⟩:=I.tuple h;exact⟨its,a,b,trivial⟩
 | false=>obtain⟨its,a,b,_⟩:=I.list h;exact⟨its,a,b.isList,trivial⟩
def Inv.seqB_inj{X:Cx}{s:Shared}{t:Bool}{l:Addr}{xs:List V}(I:Inv X pins Z H s)(h:SqB t X.K H l xs)(h':SqB t X.K H l ys):xs=ys:=by
 cases t with
 | true=>exact I.tuple_inj h h'
 | false=>exact I.list_inj h h'
noncomputable def ItzA(t1 t2:Bool)(K:W.Frag)(l1 l2:Addr):It:=⟨fun i H=>∃ xs ys x y,SqB t1 K H l1 xs/\SqB t2 K H l2 ys/\xs[i]?=some x/\ys[i]?=some y,
 fun i H v H'=>∃ T x y,(∀ xs,SqB t1 K H l1 xs->xs[i]?=some x)/\(∀ ys,SqB t2 K H l2 ys->ys[i]?=some y)/\H T=none/\v=.ref T/\H'=upd H T (.tup [x,y]),
 fun i H=>∃ xs ys,SqB t1 K H l1 xs/\SqB t2 K H l2 ys/\(xs.length<=i\/ys.length<=i)⟩
def ZkP{P:Program}{w:World}{K:W.Frag}{elts:List Expr}{x1}{z TI TO i1 i2 l1 l2:Addr}(D:ZipApart z TI TO i1 i2 l1 l2) :
  Turn P w K (.Tuple elts x1 pos) (ItzA t1 t2 K l1 l2) [z,TI,TO,i1,i2] z (fun i h=>IsZip h z TI TO .none/\IsPair h TI (.ref i1) (.ref i2)/\(∃ a b,IsPair h TO a b)/\L3.IsIt t1 h i1 l1 i/\L3.IsIt t2 h i2 l2 i) where
 mem:=by simp
 obj:=fun i h st b hb=>by
  obtain⟨a1,a2,⟨a,b',a3⟩,st1,st2⟩:=st;obtain⟨o1,c1,e1,d1⟩:=st1.ex;obtain⟨o2,c2,e2,d2⟩:=st2.ex;simp only[aI,cw,dh] at hb;rcases hb with rfl|rfl|rfl|rfl|rfl
  .exact ⟨_,a1,fun v z=>by cases z⟩
  .exact ⟨_,a2,fun v z=>by cases z⟩
  .exact ⟨_,a3,fun v z=>by cases z⟩
  .exact ⟨_,e1,fun v z=>by rw[d1] at z;cases z⟩
  .exact ⟨_,e2,fun v z=>by rw[d2] at z;cases z⟩
 keep:=fun i h h' st k=>by
  obtain⟨a1,a2,⟨a,b',a3⟩,a4,a5⟩:=st;exact⟨k z (by simp) _ a1,k TI (by simp) _ a2,⟨a,b',k TO (by simp) _ a3⟩,L3.IsIt.at a4 fun o e=>k i1 (by simp) o e,L3.IsIt.at a5 fun o e=>k i2 (by simp) o e⟩
 item:=by
  intro X hP hw hK hc i pins s Z H E I hf st hg;subst hP hw hK;obtain⟨xs,ys,x,y,hq1,hq2,hx,hy⟩:=hg;obtain⟨its1,rv1,p1,hz1⟩:=I.seqB hq1;obtain⟨its2,rv2,p2,hz2⟩:=I.seqB hq2;obtain⟨u1,hu1,ru1⟩:=rv1.get hx;obtain⟨u2,hu2,ru2⟩:=rv2.get hy;obtain⟨a1,a2,⟨a,b',a3⟩,a4,a5⟩:=st;refine L3.next_zipA D a1 a2 a3 a4 a5 p1 p2 (x:=u1) (y:=u2) (by simpa using hu1) (by simpa using hu2) fun h' b1 b2 b3 b4 b5 b6 b7=>?_;refine⟨_,rfl,wpAny_letOwnedTupleGo_zip (s:={ s with heap:=h' }) b1 fun h2 c1 c2=>?_⟩;have hT:H s.heap.objs.size=none:=I.hok.fresh (aE _);have I1:Inv X pins Z (upd H s.heap.objs.size (.tup [x,y])) { s with heap:=s.heap.push { cls:=.type "tuple",data:=.seq #[u1,u2] },toks:=s.toks } :=
   I.laid (t':=s.toks) (fun b u e=>br _ e) (aE _) ⟨by show 2<=sizeLine;decide,[u1,u2],.cons ru1 (.cons ru2 .nil),⟨_,ca _ rfl,rfl,_,rfl⟩⟩
  have lt:∀ {c o},s.heap.get? c=some o->c≠s.heap.objs.size:=fun e=>bZ (bn e);have ne:∀ b∈[z,TI,TO,i1,i2],b≠s.heap.objs.size:=fun b hb=>by
   obtain⟨o1,_,e1,_⟩:=a4.ex;obtain⟨o2,_,e2,_⟩:=a5.ex;simp only[aI,cw,dh] at hb;rcases hb with rfl|rfl|rfl|rfl|rfl
   .exact lt a1
   .exact lt a2
   .exact lt a3
   .exact lt e1
   .exact lt e2
  have f1:∀ b∈[z,TI,TO,i1,i2],upd H s.heap.objs.size (.tup [x,y]) b=none:=fun b hb=>by rw[bC (ne b hb)];exact(hf b hb).1
  have hTz:s.heap.objs.size≠z:=(ne z (by simp)).symm;have I2:=I1.turnedL (h':=h2) (t':=s.toks) (fp:=[z,TI,TO,i1,i2]) (fun b o hb e=>by
   simp only[aI,cw,dh,ci] at hb;obtain⟨n1,n2,n3,n4,n5⟩:=hb;rcases ZnB rfl e with e|⟨rfl,rfl⟩
   .exact c2.extBut _ _ n1 (b7 b o n1 n3 n4 n5 e)
   .exact c2.extBut _ _ hTz b5) fun b hb=>⟨f1 b hb,(hf b hb).2⟩
  refine⟨.ref s.heap.objs.size,_,I2,rfl,⟨_,x,y,fun xs' h=>by rw[I.seqB_inj h hq1];exact hx,fun ys' h=>by rw[I.seqB_inj h hq2];exact hy,hT,rfl,rfl⟩,?_,f1⟩;exact⟨c1,c2.extBut _ _ D.TIz (b7 _ _ D.TIz D.TITO D.TIi1 D.TIi2 a2),⟨_,_,c2.extBut _ _ D.TOz b2⟩,b3.extBut c2.extBut D.i1z,b4.extBut c2.extBut D.i2z⟩
 done:=by
  intro X hP hw hK hc i pins s Z H E I hf st hg;subst hP hw hK;obtain⟨xs,ys,hq1,hq2,hend⟩:=hg;obtain⟨its1,rv1,p1,hz1⟩:=I.seqB hq1;obtain⟨its2,rv2,p2,hz2⟩:=I.seqB hq2;have hl1:=rv1.length;have hl2:=rv2.length;obtain⟨a1,a2,⟨a,b',a3⟩,a4,a5⟩:=st;refine L3.next_zipA_end (I.ok.hd hc) D a1 a2 a3 a4 a5 p1 p2 (by simp;lia) fun h' hk=>⟨rfl,I.turnedL (t':=s.toks) (fp:=[z,TI,TO,i1,i2]) (fun b o hb e=>?_) hf⟩;simp only[aI,cw,dh,ci] at hb;exact hk b o hb.1 hb.2.2.1 hb.2.2.2.1 hb.2.2.2.2 e
 self:=fun _ _ _ _ _ st h=>wpAny_pyIter_zip st.1 h
section
variable{X:Cx}
def qG(t1 t2:Bool)(K:W.Frag)(ta:TA):TI:=fun Z H R=>ta Z H fun vs H1=>∃ l1 l2,vs=[.ref l1,.ref l2]/\(∃ xs,SqB t1 K H1 l1 xs)/\(∃ ys,SqB t2 K H1 l2 ys)/\R (ItzA t1 t2 K l1 l2) H1
def ZpF{t1 t2:Bool}{a b:Expr}{ta:TA}{p pos pos':Pos}{elts:List Expr}{x1}(hg:Gl X "zip")(hm:X.mg "zip"=none)(ha:PA X [a,b] ta)(hs:starEach [a,b] X.env=[(false,eval a X.env),(false,eval b X.env)]:=by rfl)(hs2:starEach [b] X.env=[(false,eval b X.env)]:=by rfl) :
  PI X (.Tuple elts x1 pos') (.Call (.Name "zip" p) [a,b] [] pos) (qG t1 t2 X.K ta):=by
 intro pins s Z H R I h;refine Call_ (jd I hg hm bt_zip (nK (thn (ha pos pins s Z H _ I h) fun us s1 ⟨vs,H1,I1,r1,q1⟩=>?_) (by rw[hs,hs2]) (by rw[hs2];rfl)));obtain⟨l1,l2,e,⟨xs,q1⟩,⟨ys,q2⟩,q⟩:=q1;subst e;cases r1 with
 | cons r rr =>
  cases rr with
  | cons r' rr =>
   cases rr;cases r;cases r';obtain⟨its1,rv1,p1,hz1⟩:=I1.seqB q1;obtain⟨its2,rv2,p2,hz2⟩:=I1.seqB q2;have hl1:l1<s1.heap.objs.size:=L3.IsSq.lt p1;have hl2:l2<s1.heap.objs.size:=L3.IsSq.lt p2;refine L3.call_zipA p1 p2 fun h' a1 a2 a3 a4 a5 a7=>?_;have I2:Inv X pins Z H1 { s1 with heap:=h' }:=I1.kept (t':=s1.toks) a7;refine wpAny_pyIter_zip (s:={ s1 with heap:=h' }) a1 ?_;refine⟨s1.heap.objs.size+4,[s1.heap.objs.size+4,s1.heap.objs.size+2,s1.heap.objs.size+3,s1.heap.objs.size,s1.heap.objs.size+1],_,_,H1,rfl,I2,ZkP (l1:=l1) (l2:=l2) ?_,⟨a1,a2,⟨_,_,a3⟩,a4,a5⟩,fun b hb=>?_,q⟩
   .exact Zkm _ l1 l2 hl1 hl2
   .have hb':s1.heap.objs.size<=b:=by
     simp only[aI,cw,dh] at hb;rcases hb with rfl|rfl|rfl|rfl|rfl
     .exact lR _ _
     .exact lR _ _
     .exact lR _ _
     .exact aE _
     .exact lR _ _
    exact I1.fpOk hb' (I1.hok.fresh hb')
end
def wI{t1 t2:Bool}{X:Cx}{K:W.Frag}{a b:Expr}{ta:TA}{p pos pos':Pos}{elts:List Expr}{x1}(h:X.K=K)(hg:Gl X "zip")(hm:X.mg "zip"=none)(ha:PA X [a,b] ta)(hs:starEach [a,b] X.env=[(false,eval a X.env),(false,eval b X.env)]:=by rfl)(hs2:starEach [b] X.env=[(false,eval b X.env)]:=by rfl) :
  PI X (.Tuple elts x1 pos') (.Call (.Name "zip" p) [a,b] [] pos) (qG t1 t2 K ta):=h▸ZpF (t1:=t1) (t2:=t2) hg hm ha hs hs2
end L2
end
section
namespace L2
open PySem
def SqZ(t:Bool)(G:GH)(x:T)(ts:List T):Prop:=match t with
 | true=>x=.tup ts\/∃ ss:List Str,x=.cst ss/\ts=ss.map T.str
 | false=>SqI G x ts
section
variable{P:Program}{w:World}{K:W.Frag}{G:GH}
theorem tM:∀ ss:List Str,RepTs K G H (ss.map T.str) (ss.map V.str)
 | []=>.nil
 | s::ss=>.cons .str (tM ss)
def nu{t:Bool}{x:T}{ts:List T}{v:V}(g:GOk P w K G H)(h:SqZ t G x ts)(r:RepT K G H x v):∃ a vs,v=.ref a/\RepTs K G H ts vs/\SqB t K H a vs:=by
 cases t with
 | true =>
  rcases h with rfl|⟨ss,rfl,rfl⟩
  .cases r with
   | tup e rs=>exact⟨_,_,rfl,rs,SqT.of e⟩
  .cases r with
   | cst e=>exact⟨_,_,rfl,tM ss,e H⟩
 | false =>
  obtain⟨a,vs,rfl,rs,e⟩:=fi g h r;exact⟨a,vs,rfl,rs,SqL.of e⟩
def Zks{kx:List T->(GH->Prop)->GH->Prop}(h:Wa P w K tr Γ G fun xs G1=>∃ x y ts us,xs=[x,y]/\SqZ t1 G1 x ts/\SqZ t2 G1 y us/\kx ((ts.zip us).map fun p=>.tup [p.1,p.2]) (fun G'=>SqZ t1 G' x ts/\SqZ t2 G' y us) G1):Wi P w K (qG t1 t2 K tr) Γ G kx:=fun H Z g ev Q z=>h H Z g ev _ fun vs H1 xs G1 s1 g1 r1 z0_=>by
 obtain⟨x,y,ts,us,e,e1,e2,q⟩:=z0_;subst e;cases r1 with
 | cons r1 r2 =>
  cases r2 with
  | cons r2 r3 =>
  cases r3;obtain⟨a,vs,rfl,rs,h1⟩:=nu g1 e1 r1;obtain⟨b,ws,rfl,rs2,h2⟩:=nu g1 e2 r2;refine⟨a,b,rfl,⟨vs,h1⟩,⟨ws,h2⟩,z _ _ _ _ _ s1 g1 (fun G' H' s' g' kp=>?_) q⟩;obtain⟨a',vs',ea,q1,l1⟩:=nu g' kp.1 (r1.mono g1 s');cases ea;obtain⟨b',ws',eb,q2,l2⟩:=nu g' kp.2 (r2.mono g1 s');cases eb;refine⟨fun i x e=>?_,⟨vs',ws',l1,l2,by rw[af,ki,q1.length,q2.length];lia⟩⟩;rw[ak] at e;obtain⟨⟨d,m⟩,em,rfl⟩:=bh.mp e;obtain⟨ed,em⟩:=ou.mp em;obtain⟨u,eu,ru⟩:=q1.get ed;obtain⟨u2,eu2,ru2⟩:=q2.get em;refine⟨⟨vs',ws',u,u2,l1,l2,eu,eu2⟩,fun v H2 z1_=>?_⟩;obtain⟨T,y,y2,e1,e2,e3,e4,e5⟩:=z1_;subst e4 e5;have:=e1 vs' l1;rw[eu] at this;cases this;have:=e2 ws' l2;rw[eu2] at this;cases this;have sm:=Same.new (o:=.tup [u,u2]) e3;exact⟨sm,.tup bP (.cons (ru.mono g' (.same sm)) (.cons (ru2.mono g' (.same sm)) .nil))⟩
end
end L2
end
section
namespace L2
open PySem PySem.Spec PyProof.Rows
section
variable{X:Cx}{s:Shared}{Q:Value->Shared->Prop}{b:Bool}
def Zj4{x:V}{t:Value}{tp:Addr}{Ts:List V}{its:List Value}(I:Inv X pins Z H s)(rx:RelV x u)(ty:TyOf X.K H x t)(htp:H tp=some (.tup Ts))(hv:∀ us,Vals Ts us->us=its)(e:PySem.W.kitAny X.K t its=some b)(h:∀ tk,Q (.bool b) { s with toks:=tk }) :
  wpAny (model X.prog X.w) A (call (.builtin "isinstance") [u,.ref tp]) Q E s:=by
 obtain⟨_,us,hus,op⟩:=(show ObjOk X.prog X.w H s.heap tp (.tup Ts) from I.hok tp _ htp);obtain⟨o,h1,h2,h3⟩:=op;obtain rfl:=hv us hus;have hg:∃ dd n sl,s.heap.get? tp=some ⟨.type "tuple",dd,.seq us.toArray n,sl⟩:=by
  obtain⟨n,h3⟩:=h3;obtain⟨c,dd,da,sl⟩:=o;obtain rfl:c=.type "tuple":=h2;obtain rfl:da=.seq us.toArray n:=h3;exact⟨dd,n,sl,h1⟩
 obtain⟨dd,n,sl,hg⟩:=hg;cases ty with
 | non=>cases (show u=Value.none from rx);exact PySem.W.kia_tup PySem.W.kitx_none I.kIn True.intro hg e (fun z=>nomatch z) h
 | bl y=>cases (show u=Value.bool y from rx);exact PySem.W.kia_tup PySem.W.kitx_bool I.kIn True.intro hg e (fun z=>nomatch z) h
 | int i=>obtain⟨t,q⟩:=(show ∃ t,u=Value.int i t from rx);cases q;exact PySem.W.kia_tup PySem.W.kitx_int I.kIn True.intro hg e (fun z=>nomatch z) h
 | str y=>obtain⟨t,q⟩:=(show ∃ t,u=Value.str y t from rx);cases q;exact PySem.W.kia_tup PySem.W.kitx_str I.kIn True.intro hg e (fun z=>nomatch z) h
 | flt y=>obtain⟨t,q⟩:=(show ∃ t,u=Value.float y t from rx);cases q;exact PySem.W.kia_tup PySem.W.kitx_float I.kIn True.intro hg e (fun z=>nomatch z) h
 | @lst a xs ea =>
  cases (show u=Value.ref a from rx);obtain⟨_,_,n,_,h1⟩:=(show ObjOk X.prog X.w H s.heap a (.lst xs) from I.hok a _ ea);exact PySem.W.kia_tup PySem.W.kitx_list I.kIn ⟨_,h1,rfl⟩ hg e (fun z=>nomatch z) h
 | @frz a ob xs ea =>
  cases (show u=Value.ref a from rx);obtain⟨_,_,_,n,_,h1⟩:=(show ObjOk X.prog X.w H s.heap a (.frz ob (.lst xs)) from I.hok a _ ea);exact PySem.W.kia_tup PySem.W.kitx_list I.kIn ⟨_,h1,rfl⟩ hg e (fun z=>nomatch z) h
 | @tup a xs ea =>
  cases (show u=Value.ref a from rx);obtain⟨_,_,_,p⟩:=(show ObjOk X.prog X.w H s.heap a (.tup xs) from I.hok a _ ea);obtain⟨o,h1,h2,_⟩:=p;exact PySem.W.kia_tup PySem.W.kitx_tuple I.kIn ⟨o,h1,h2⟩ hg e (fun z=>nomatch z) h
 | @dK a kvs ea =>
  cases (show u=Value.ref a from rx);obtain⟨_,_,vs,_,p⟩:=(show ObjOk X.prog X.w H s.heap a (.dK kvs) from I.hok a _ ea);obtain⟨o,es,ep,h1,h2,_⟩:=p;exact PySem.W.kia_tup PySem.W.kitx_dict I.kIn ⟨o,h1,h2.1⟩ hg e (fun z=>nomatch z) h
 | @dT a kvs ea =>
  cases (show u=Value.ref a from rx);obtain⟨_,_,xs,_,o,es,ep,h1,h2,_⟩:=(show ObjOk X.prog X.w H s.heap a (.dT kvs) from I.hok a _ ea);exact PySem.W.kia_tup PySem.W.kitx_dict I.kIn ⟨o,h1,h2.1⟩ hg e (fun z=>nomatch z) h
 | @ins a C dx fs ea cl ha hn htk hm =>
  cases (show u=Value.ref a from rx);obtain⟨mA,O,_⟩:=uo I.hok ea;obtain⟨od,J,_⟩:=O.look;exact PySem.W.kia_tup (PySem.W.kitx_own (cl.get _) cl.hd ha hn htk hm) I.kIn J hg e (fun z=>nomatch z) h
end
def Zp2{K:W.Frag}{t:String}(h:t∈["int","bool","str","tuple","list","dict","NoneType"]):PySem.W.kitAny K (.type t) [.type "list",.type "tuple"]=some (t == "list" || t == "tuple"):=by
 simp only[aI,mem_nil_iff,dh] at h;rcases h with rfl|rfl|rfl|rfl|rfl|rfl|rfl <;> with_unfolding_all rfl
def rIsi2:List V->Hp->VK->Prop:=fun xs H Q=>∃ x tp t,xs=[x,.ref tp]/\tyN H x=some t/\H tp=some (.tup [.ty "list",.ty "tuple"])/\Q (.bl (t == "list" || t == "tuple")) H
def xE{X:Cx}:cm X (.builtin "isinstance") rIsi2:=by
 intro pins s Z H xs us Q I r h;obtain⟨x,tp,t,rfl,ht,hT,q⟩:=h;cases r with
 | cons r1 r2 =>
  cases r2 with
  | cons r3 r4 =>
   cases r4;cases r3;obtain⟨ty,hm⟩:=wz (K:=X.K) ht;refine Zj4 (its:=[.type "list",.type "tuple"]) I r1 ty hT (fun us hu=>?_) (Zp2 hm) fun tk=>⟨.bl _,H,I.tok _,rfl,q⟩;cases hu with
   | cons a b =>
    cases b with
    | cons c d =>
     cases d;cases a;cases c;rfl
section
variable{P:Program}{w:World}{K:W.Frag}{G:GH}{k:T->GH->Prop}{x y:T}
def Zkz(h:We P w K ta Γ G fun x G1=>((∃ ts,SqI G1 x ts)\/(∀ a,x≠.ptr a)/\∀ xs,x≠.cst xs)/\k (.bl (tyT G1 x == "list" || tyT G1 x == "tuple")) G1):We P w K (tCB rIsi2 (bI ta (bI (tTup (bI (tC (.ty "list")) (bI (tC (.ty "tuple")) tNil))) tNil))) Γ G k:=fun H Z g ev Q z=>h H Z g ev _ fun v H1 x G1 s1 g1 r1 ⟨hx,q⟩=>by
 refine⟨ii (by decide),fun p hp=>?_⟩;have sm:=Same.new (o:=.tup [V.ty "list",V.ty "tuple"]) hp;have g2:=g1.same sm;exact⟨v,p,tyT G1 x,rfl,tyN_T g2 (r1.mono g1 (Stp.same sm)) hx,bP,((z.mono s1).mono (Stp.same sm)).here g2 .bl q⟩
def ZoE{b:Bool}(h:k (.bl false) G):L2r P w K rNe (.bl b) (.bl b) G k:=l_neB (by rw[aX rfl];exact h)
def ZoJ{b:Bool}(h:k (.bl true) G):L2r P w K rEq (.bl b) (.bl b) G k:=wE (by rw[aX rfl];exact h)
end
section
variable{X:Cx}{a b elt iter:Expr}{ifs:List Expr}{tb:TE}{tt:TT}
def x8(K:W.Frag)(ha:PE X a ta)(hb:PE X b tb)(h:X.K=K:=by rfl)(hs:wo b:=by exact fun _ _=>rfl):PE X (.Subscript a b pos) (tOp (rIxA K) ta tb):=iy (k_ix h) ha hb hs
def pyn(i:Nat)(hN:X.N.Nodup)(hi:X.N[i]?=some x:=by rfl)(hx:Loc X.env.scope x:=by exact Or.inl rfl)(hf:X.fn x=true\/X.env.scope.names.lookup x=some .local:=by first|exact .inl rfl|exact .inr rfl|assumption):PG X (.Name x pos) (eF i):=ig hN hi hx hf
def pyb(i:Nat){cl:List (Str×Addr)}{C:Addr}{fp:List Addr}{pins:List (Addr×Obj)}{s:Shared}{H:Hp}(hN:(LN++FN).Nodup:=by decide +kernel)(hi:(LN++FN)[i]?=some x:=by rfl)(hx:Loc (bkCx X LN FN sc cl C fp pins s H).env.scope x:=by exact Or.inl rfl)(hf:(bkCx X LN FN sc cl C fp pins s H).env.scope.names.lookup x=some .local:=by rfl):PG (bkCx X LN FN sc cl C fp pins s H) (.Name x pos) (eF i):=ig hN hi hx (.inr hf)
def pyf(LN FN:List Str)(fr:List Nat)(hi:PI X tg iter wi)(ht:∀ cl C fp pins s H,PTs (bkCx X LN FN sc cl C fp pins s H) ifs tt)(he:∀ cl C fp pins s H,PE (bkCx X LN FN sc cl C fp pins s H) elt te)
  (hc:X.calm=true:=by rfl) (S:BkScope X.N sc X.env.scope LN FN fr:=by exact dE (by rfl)) (hg:∀ cl C fp pins s H,PG (bkCx X LN FN sc cl C fp pins s H) tg g:=by exact fun cl C fp pins s H=>ig (i:=0) (show ((_:List Str)++(_:List Str)).Nodup by decide +kernel) rfl (Or.inl rfl))
  (hs:∀ x,foldedSetIterable iter X.env x=pure x:=by intro _;rfl):PE X (.ListComp elt [⟨tg,iter,ifs,0⟩] sc pos) (gC LN fr wi g tt te):=fS hc S hi hg ht he hs
def pyc(LN FN:List Str)(fr:List Nat)(hi:PI X tg iter wi)(he:∀ cl C fp pins s H,PE (bkCx X LN FN sc cl C fp pins s H) elt te)
  (hc:X.calm=true:=by rfl) (S:BkScope X.N sc X.env.scope LN FN fr:=by exact dE (by rfl)) (hg:∀ cl C fp pins s H,PG (bkCx X LN FN sc cl C fp pins s H) tg g:=by exact fun cl C fp pins s H=>ig (i:=0) (show ((_:List Str)++(_:List Str)).Nodup by decide +kernel) rfl (Or.inl rfl))
  (hs:∀ x,foldedSetIterable iter X.env x=pure x:=by intro _;rfl):PE X (.ListComp elt [⟨tg,iter,[],0⟩] sc pos) (gC LN fr wi g iV te):=fS hc S hi hg (fun _ _ _ _ _ _=>dI) he hs
def x9(i:Nat){t:TA}(hr:PA X es t)(hN:X.N[i]?=some x:=by rfl)(hv:Vis X.env.scope x:=by first|exact Or.inl rfl|exact Or.inr (Or.inl rfl)|exact Or.inr (Or.inr rfl))(hd:(x == ("__debug__":Str))=false:=by decide)(hc:(x == ("__classdict__":Str))=false:=by decide):PA X (.Name x pos::es) (bI (tVar i) t):=bA (pv i hN hv hd hc) hr
def wx(i:Nat)(hN:X.N[i]?=some x:=by rfl)(hv:Vis X.env.scope x:=by first|exact Or.inl rfl|exact Or.inr (Or.inl rfl)|exact Or.inr (Or.inr rfl))(hd:(x == ("__debug__":Str))=false:=by decide)(hc:(x == ("__classdict__":Str))=false:=by decide):PA X [.Name x pos] (bI (tVar i) tNil):=bA (pv i hN hv hd hc) ab
def pyk{k:Nat}{ps:List Str}{p:Pos}{t:TA}(C:Callee X.prog X.w X.K X.mg X.base x k ps sp)(hr:Room k X.A)(ha:PA X (e::es) t)(hg:Gl X x:=by rfl)(hdb:(x == ("__debug__":Str))=false:=by decide)
  (he:starEach (e::es) X.env=(false,eval e X.env)::starEach es X.env:=by rfl) (hpl:(backTo pos (starEach es X.env)).any (·.1)=false:=by rfl):PE X (.Call (.Name x p) (e::es) [] pos) (ij sp [] E0 t):=gL C hr hg ha hdb he hpl
end
def TopFn.okT{P:Program}{w:World}{K:W.Frag}{mg:Str->Option Value}{base:Heap}{st:Stmt}{ps:List Str}{pre:Pre}(t0:TopFn K mg x st ps)(N:List Str)(h:∀ {f:Addr} {cdv:Value} {A:Around} {outer:List Env} {s:Shared} {H:Hp} {E:XK} (ts:List T) (G:GH) (k:T->GH->Prop),N.Nodup->Room kk (A.deeper (envOfC x (bG st) s.heap.objs.size f cdv))->pre ts G k->nj P w K mg base N x st f cdv A outer s H E ts G k)
  (S:FnScope N ps (bG st):=by exact⟨rfl,rfl,rfl,by decide +kernel,rfl,by decide +kernel,by decide +kernel⟩) (hl:∀ ts G k,pre ts G k->ts.length=ps.length:=by intro _ _ _ h;repeat (first|(rw[h.1];rfl)|(obtain⟨_,h⟩:=h))):Callee P w K mg base x (kk+1) ps (spG P w K pre) :=
 t0.okG S hl fun _ _ _ _ _ _ _ ts G k hr hh=>h ts G k S.nd hr hh
end L2
end
section
open PySem L2
local macro_rules|`(tactic| walk_at"fs")=>`(tactic| exact ⟨rfl,rfl,rfl,by decide +kernel,rfl,by decide +kernel,by decide +kernel⟩)
local macro_rules|`(tactic| walk_at"rd1")=>`(tactic| (first|((with_reducible refine' rd_var ?e ?_); (case e => exact rfl))|with_reducible (first|refine rd_c ?_|refine rd_op ?_|refine rd_seq ?_|refine rd_asg ?_|refine Zm4 ?_|refine rd_ret ?_|refine Zpo ?_|refine rd_if ?_|refine Zpm ?_|refine rd_and ?_|refine xF ?_|refine rd_nil ?_|refine Zpr ?_|refine rd_cb ?_|refine Zpu ?_|refine rd_I0 ?_|refine xL ?_|refine xI ?_|refine tz ?_|refine uk ?_|refine wN ?_|refine tU ?_|refine rd_bl ?_|refine rd_int ?_|refine rd_lst ?_|refine Zpq ?_|refine Zm1 ?_|refine Zla ?_|refine Zpn ?_|refine Zps ?_|refine Zm3 ?_|refine rd_for ?_|refine rd_abs ?_|refine wq ?_|refine ul ?_|refine iteF ?_|refine iteT ?_)))
local macro_rules|`(tactic| ac_nf)=>`(tactic| (repeat walk_at"rd1"))
local macro_rules|`(tactic| walk_at"mk")=>`(tactic| refine ⟨fU rfl, ?_⟩)
local macro_rules|`(tactic| walk_at"w1x")=>`(tactic| (first|((with_reducible guard_target =~ We _ _ _ _ _ _ _); (first|((with_reducible refine' kQ ?e ?_); (case e => exact rfl))|with_reducible (first|refine ZiG ?_|refine ZkA ?_|refine ZiC ?_)|with_reducible (first|refine qo ?_|refine Zn5 ?_|refine we_bl ?_|refine Zn7 ?_|refine we_op ?_|refine we_un ?_|refine Zn4 ?_|refine Zn8 ?_)|((with_reducible refine' Zn9 ?e ?_); (case e => decide))|with_reducible (first|refine Zkz ?_|refine we_cb ?_|refine ZkC ?_|refine we_sl ?_|refine ZkF ?_|refine Zn6 ?_|refine Zkx ?_|refine we_if ?_|refine ZiF ?_|refine wD ?_|refine wC ?_|refine uE ?_|refine ZiH ?_|refine ZkB ?_|refine ZgG ?_|refine Zkw ?_)|((with_reducible refine' Zoa ?e ?_); (case e => exact rfl))))|with_reducible (first|refine i6 ?_|refine uB ?_)|((with_reducible guard_target =~ L2r _ _ _ _ _ _ _ _); (first|with_reducible (first|refine l_II ?_|refine l_IB ?_|refine ZoE ?_|refine ZoJ ?_|refine l_eqI ?_|refine l_neI ?_|refine l_eqS ?_|refine l_neS ?_|refine wE ?_|refine l_isN ?_|refine ZoD ?_|refine l_inC ?_)|((with_reducible refine' eS ?e ?_); (case e => first|exact rfl|exact at_0|exact at_1|exact at_2))))|((with_reducible guard_target =~ Ws _ _ _ _ _ _ _); (first|with_reducible (first|refine mS ?_|refine cT ?_|refine dX ?_|refine jt ?_|refine k7 ?_|refine pU ?_|refine ZnZ ?_)))|with_reducible (first|refine bH ?_|refine Zn3 ?_)|((with_reducible refine' cR ?e ?_); (case e => exact rfl))|with_reducible (first|refine l0 ?_|refine gO ?_)|((with_reducible guard_target =~ Wt _ _ _ _ _ _ _); (first|with_reducible (first|refine Zko ?_|refine wt_b ?_|refine ZnY ?_|refine wt_or ?_|refine ZnX ?_|refine o5 ?_)))|((with_reducible guard_target =~ LNr _ _ _ _ _ _ _); (first|with_reducible (first|refine ZoI ?_|refine l_all ?_|refine l_spG ?_|refine ZoG ?_|refine ZoH ?_)))|((with_reducible guard_target =~ Wi _ _ _ _ _ _ _); (first|with_reducible (first|refine Zks ?_|refine wi_dt ?_|refine Zkt ?_|refine Zn1 ?_|refine Zn2 ?_)))|with_reducible (first|refine wo_no ?_|refine Zkq ?_)|with_reducible refine l_U ?_|with_reducible (first|refine wq ?_|refine ul ?_|refine iteF ?_|refine iteT ?_)|((with_reducible refine' ZlU ?e ?_); (case e => exact rfl))|((with_reducible refine' ZoM ?e ?_); (case e => exact rfl))|with_reducible (first|refine ex_bl ?_|refine ZoT ?_)|((with_reducible refine' tk_d ?e ?_); (case e => exact rfl))|((with_reducible refine' ZoB ?e ?_); (case e => exact rfl))))
local macro_rules|`(tactic| walk_at"lnx")=>`(tactic| (intro _ _ _ h; repeat (first|(rw [h.1]; rfl)|(obtain ⟨_, h⟩ := h))))
local macro_rules|`(tactic| ext)=>`(tactic| (repeat walk_at"w1x"))
local macro_rules|`(tactic| walk_at"wy")=>`(tactic| (repeat first|with_reducible (first|refine tL ?_|refine Zo6 ?_|refine Zo0 ?_)|walk_at"w1x"))
section
namespace My
open PySem L2
def top(i:Nat):Stmt:=PySem.Challenge.pw_midlanes_k35_rounds_and_sizes.main.body.getD i (.Pass ⟨0,0,0,0⟩)
abbrev vQ:Stmt:=top 1
abbrev sN:Stmt:=top 3
abbrev uH:Stmt:=top 4
abbrev wg:Stmt:=top 5
abbrev uX:Stmt:=top 6
abbrev sT:Stmt:=top 7
abbrev tJ:Stmt:=top 8
abbrev tK:Stmt:=top 9
abbrev t7:Stmt:=top 10
abbrev sY:Stmt:=top 11
abbrev sk:Stmt:=top 12
abbrev vL:Stmt:=top 13
abbrev sG:Stmt:=top 14
abbrev xj:Stmt:=top 17
abbrev uv:Stmt:=top 18
abbrev oO:Stmt:=top 21
abbrev xH:Stmt:=top 22
abbrev ue:Stmt:=top 23
abbrev tT:Stmt:=top 24
abbrev vC:Stmt:=top 25
abbrev u9:Stmt:=top 26
abbrev w4:Stmt:=top 27
abbrev pR:Stmt:=top 34
abbrev wQ:Stmt:=top 35
abbrev oR:Stmt:=top 36
abbrev vU:Stmt:=top 37
abbrev xg:Stmt:=top 38
abbrev pB:Stmt:=top 39
abbrev wk:Stmt:=top 40
abbrev vq:Stmt:=top 41
abbrev uG:Stmt:=top 42
abbrev uw:Stmt:=top 43
abbrev rP:Stmt:=top 44
abbrev qm:Stmt:=top 45
abbrev vF:Stmt:=top 46
abbrev su:Stmt:=top 47
abbrev uD:Stmt:=top 48
abbrev xx:Stmt:=top 49
abbrev pI:Stmt:=top 51
abbrev oP:Stmt:=top 52
abbrev qj:Stmt:=top 53
abbrev wO:Stmt:=top 54
abbrev ua:Stmt:=top 55
abbrev u8:Stmt:=top 56
abbrev wR:Stmt:=top 57
abbrev wL:Stmt:=top 58
abbrev xG:Stmt:=top 59
abbrev tX:Stmt:=top 60
abbrev sJ:Stmt:=top 61
abbrev vK:Stmt:=top 62
abbrev ur:Stmt:=top 63
abbrev uu:Stmt:=top 64
abbrev vX:Stmt:=top 65
abbrev vZ:Stmt:=top 66
abbrev vi:Stmt:=top 67
abbrev sO:Stmt:=top 68
abbrev uJ:Stmt:=top 69
abbrev ww:Stmt:=top 70
abbrev p9:Stmt:=top 71
abbrev xw:Stmt:=top 72
abbrev wW:Stmt:=top 73
abbrev sw:Stmt:=top 74
abbrev jA:Stmt:=top 75
section
open PySem.W PyProof.Rows
noncomputable def oJ(n:String)(t l a r u:Nat):Obj:=oC #[xs n t,xs n (t+1),xs "/claim/cut.py" (t+2),xi l 0,xi a 0,xi 0 0,xi 0 0,xi 3 0,xr r,.bool true,xi 181 0,xr (r+1),.none,xr (r+2),xr (r+3),xr (r+4),xi u 0,xi l 0,xs "/claim/cut.py" (u+1)]
def pK(c:Nat)(n:String)(st:Stmt)(m:String)(z t l a:Nat)(R:Frag):Frag:=(c,oK n t l a (c-3))::(c+1,oG (Str.ofString n) st m z c)::R
def pJ(c:Nat)(n:String)(st:Stmt)(m:String)(z t l a u:Nat)(R:Frag):Frag:=(c,oJ n t l a (c-5) u)::(c+1,oG (Str.ofString n) st m z c)::R
abbrev LN0:String:="law_midlanes_k35_rounds_and_sizes"
def KK(P:Params):Frag:=
.cons (3,oD #[xe P "__name__" 165 (xs LN0 553),xe P "__doc__" 166 (.none),xe P "__package__" 167 (.none),xe P "__loader__" 168 (.builtin "__main__.__loader__#opaque"),xe P "__spec__" 169 (.none),xf P "__annotations__" 170 6,xf P "__builtins__" 171 4,xe P "__file__" 173 (xs "/claim/cut.py" 172),xe P "__cached__" 174 (.none),xf P "is_whole" 195 21,xf P "plain" 204 28,xf P "of_word" 211 35,xf P "plus" 219 42,xf P "less" 227 49,xf P "times" 236 56,xf P "put_in" 248 63,xf P "is_plain" 255 70,xf P "is_form" 265 77,xf P "is_two" 272 84,xf P "joined" 282 91,xf P "gather" 293 98,xf P "with_numbers" 299 103,xf P "RECKONINGS" 307 104,xf P "row_of" 315 111,xf P "goes_to_row" 323 118,xe P "MOST_SIGN_FRAMES" 327 (xi (4) 326),xf P "silent" 338 125,xf P "reckoned" 346 132,xf P "with_box" 356 139,xf P "at_row" 365 146,xf P "tested" 374 153,xf P "called" 380 158,xf P "filled" 386 163,xe P "MOST_STANDS" 390 (xi (100) 389),xe P "MOST_WORDS" 392 (xi (40) 391),xe P "MOST_EDGE_ROWS" 394 (xi (200) 393),xf P "DEED_PARTS" 415 164,xf P "DEED_ROWS" 426 171,xf P "fault" 432 179,xf P "stand_fault" 442 186,xf P "paper_fits" 448 191,xf P "frame_fits" 454 196,xf P "calls" 464 203,xf P "deed_fits" 470 208,xf P "part_fits" 478 215,xf P "edges_fit" 484 220,xf P "edges_of" 491 227,xf P "own_words" 497 232,xf P "starts_of" 510 239,xf P "edge_fits" 516 244,xf P "behind_rows" 526 251,xf P "round_fault" 534 258,xf P "is_on_round" 544 265,xf P "led_rowless" 552 272,xf P "_law_bag" 560 277,xf P "_law_draw" 569 284,xf P "_law_number" 576 291,xf P "_law_row" 582 296,xf P "_law_def" 588 301,xf P "_law_program" 594 306,xf P "_law_sum" 600 311,xf P "_law_put" 611 318,xf P "_law_reckoned" 619 325,xf P "_law_silent" 625 330,xf P "_law_signs_put" 631 335,xf P "_law_words" 637 340,xf P "_law_laid" 643 345,xf P "_law_as_is" 649 350,xf P "_law_target" 655 355,xf P "_law_edge" 670 362,xf P "_law_at" 678 369,xf P "_law_deed" 703 376,xf P "_law_lane" 716 383,xf P "_law_round" 727 390,xf P "_law_alike" 733 395,xf P "_law_still" 744 402,xf P "_law_moved_edge" 753 409,xf P "_law_turned" 759 414,xf P "law" 785 421] 79) <|
pJ 20 "is_whole" vQ "midlanes.wholes" 187 189 2 1 193 <|
pJ 27 "plain" sN "midlanes.forms" 196 198 5 1 202 <|
pJ 34 "of_word" uH "midlanes.forms" 196 205 7 1 209 <|
pJ 41 "plus" wg "midlanes.forms" 196 212 9 2 217 <|
pJ 48 "less" uX "midlanes.forms" 196 220 11 2 225 <|
pJ 55 "times" sT "midlanes.forms" 196 228 13 2 234 <|
pJ 62 "put_in" tJ "midlanes.forms" 196 237 17 2 246 <|
pJ 69 "is_plain" tK "midlanes.forms" 196 249 24 1 253 <|
pJ 76 "is_form" t7 "midlanes.forms" 196 256 26 2 263 <|
pJ 83 "is_two" sY "midlanes.forms" 196 266 37 1 270 <|
pJ 90 "joined" sk "midlanes.forms" 196 273 39 3 280 <|
pJ 97 "gather" vL "midlanes.forms" 196 283 44 3 291 <|
pK 102 "with_numbers" sG "midlanes.forms" 196 294 47 2 <|
.cons (104,oT #[xs "put" 302,xs "copy" 303,xs "plus" 304,xs "less" 305,xs "times" 306]) <|
pJ 110 "row_of" xj "midlanes.rows" 300 308 51 2 313 <|
pJ 117 "goes_to_row" uv "midlanes.rows" 300 316 53 2 321 <|
pJ 124 "silent" oO "midlanes.papers" 324 328 57 2 336 <|
pJ 131 "reckoned" xH "midlanes.papers" 324 339 72 2 344 <|
pJ 138 "with_box" ue "midlanes.papers" 324 347 82 3 354 <|
pJ 145 "at_row" tT "midlanes.papers" 324 357 85 2 363 <|
pJ 152 "tested" vC "midlanes.papers" 324 366 88 2 372 <|
pK 157 "called" u9 "midlanes.papers" 324 375 91 3 <|
pK 162 "filled" w4 "midlanes.papers" 324 381 95 2 <|
.cons (164,oD #[xf P "go" 395 165,xf P "test" 397 166,xf P "tell" 400 167,xf P "take" 402 168,xf P "hold" 404 169,xf P "leave" 408 170] 6) <|
.cons (165,oT #[xs "edge" 396]) <|
.cons (166,oT #[xs "edge" 398,xs "edge" 399]) <|
.cons (167,oT #[xs "edge" 401]) <|
.cons (168,oT #[xs "edge" 403]) <|
.cons (169,oT #[xs "number" 405,xs "number" 406,xs "edge" 407]) <|
.cons (170,oT #[]) <|
.cons (171,oD #[xf P "test" 416 172,xf P "tell" 419 173,xf P "take" 421 174] 3) <|
.cons (172,oT #[xs "zero" 417,xs "below" 418]) <|
.cons (173,oT #[xs "tell" 420]) <|
.cons (174,oT #[xs "take" 422]) <|
pK 178 "fault" pR "midlanes.judge" 387 427 103 2 <|
pJ 185 "stand_fault" wQ "midlanes.judge" 387 433 112 4 440 <|
pK 190 "paper_fits" oR "midlanes.judge" 387 443 120 3 <|
pK 195 "frame_fits" vU "midlanes.judge" 387 449 126 3 <|
pJ 202 "calls" xg "midlanes.judge" 387 455 132 3 462 <|
pK 207 "deed_fits" pB "midlanes.judge" 387 465 135 2 <|
pJ 214 "part_fits" wk "midlanes.judge" 387 471 145 2 476 <|
pK 219 "edges_fit" vq "midlanes.judge" 387 479 149 4 <|
pJ 226 "edges_of" uG "midlanes.judge" 387 485 153 1 489 <|
pK 231 "own_words" uw "midlanes.judge" 387 492 157 1 <|
pJ 238 "starts_of" rP "midlanes.judge" 387 498 165 3 508 <|
pK 243 "edge_fits" qm "midlanes.judge" 387 511 177 6 <|
pJ 250 "behind_rows" vF "midlanes.judge" 387 517 186 3 524 <|
pJ 257 "round_fault" su "midlanes.judge" 387 527 192 1 532 <|
pJ 264 "is_on_round" uD "midlanes.judge" 387 535 197 2 542 <|
pJ 271 "led_rowless" xx "midlanes.judge" 387 545 204 1 550 <|
pK 276 "_law_bag" pI LN0 553 555 210 1 <|
pJ 283 "_law_draw" oP LN0 553 561 215 2 567 <|
pJ 290 "_law_number" qj LN0 553 570 226 1 574 <|
pK 295 "_law_row" wO LN0 553 577 230 4 <|
pK 300 "_law_def" ua LN0 553 583 246 3 <|
pK 305 "_law_program" u8 LN0 553 589 261 1 <|
pK 310 "_law_sum" wR LN0 553 595 267 3 <|
pJ 317 "_law_put" wL LN0 553 601 274 2 609 <|
pJ 324 "_law_reckoned" xG LN0 553 612 279 2 617 <|
pK 329 "_law_silent" tX LN0 553 620 285 2 <|
pK 334 "_law_signs_put" sJ LN0 553 626 311 2 <|
pK 339 "_law_words" vK LN0 553 632 313 1 <|
pK 344 "_law_laid" ur LN0 553 638 315 4 <|
pK 349 "_law_as_is" uu LN0 553 644 335 3 <|
pK 354 "_law_target" vX LN0 553 650 349 4 <|
pJ 361 "_law_edge" vZ LN0 553 656 365 6 668 <|
pJ 368 "_law_at" vi LN0 553 671 372 2 676 <|
pJ 375 "_law_deed" sO LN0 553 679 374 5 701 <|
pJ 382 "_law_lane" uJ LN0 553 704 398 2 714 <|
pJ 389 "_law_round" ww LN0 553 717 409 1 725 <|
pK 394 "_law_alike" p9 LN0 553 728 419 2 <|
pJ 401 "_law_still" xw LN0 553 734 429 3 742 <|
pJ 408 "_law_moved_edge" wW LN0 553 745 435 3 751 <|
pK 413 "_law_turned" sw LN0 553 754 437 2 <|
pJ 420 "law" jA LN0 553 760 445 1 783 <| []
noncomputable def AA:List Addr:=[3,20,21,27,28,34,35,41,42,48,49,55,56,62,63,69,70,76,77,83,84,90,91,97,98,102,103,104,110,111,117,118,124,125,131,132,138,139,145,146,152,153,157,158,162,163,164,165,166,167,168,169,170,171,172,173,174,178,179,185,186,190,191,195,196,202,203,207,208,214,215,219,220,226,227,231,232,238,239,243,244,250,251,257,258,264,265,271,272,276,277,283,284,290,291,295,296,300,301,305,306,310,311,317,318,324,325,329,330,334,335,339,340,344,345,349,350,354,355,361,362,368,369,375,376,382,383,389,390,394,395,401,402,408,409,413,414,420,421]
def AK:∀ P,AA=(KK P).map (·.1):=fun _=>by kernel_rfl
abbrev HH:Hook:=kHook KK AA AK
noncomputable def QQ:Program:=view PySem.Challenge.pw_midlanes_k35_rounds_and_sizes [1,3,4,5,6,7,8,9,10,11,12,13,14,16,17,18,20,21,22,23,24,25,26,27,29,30,31,32,33,34,35,36,37,38,39,40,41,42,43,44,45,46,47,48,49,51,52,53,54,55,56,57,58,59,60,61,62,63,64,65,66,67,68,69,70,71,72,73,74,75]
abbrev XX:Shared->Bool:=fun s=>xlAt QQ [] s&&recOk PySem.Challenge.rw_midlanes_k35_rounds_and_sizes.row.records s
def L0:LB "special-get-raises" false PySem.Challenge.pw_midlanes_k35_rounds_and_sizes QQ ["DEED_PARTS","DEED_ROWS"] XX HH.obs HH.val 4450:=fun w os=>by kernel_rfl
def L1:LB "special-get-raises" true PySem.Challenge.pw_midlanes_k35_rounds_and_sizes QQ ["DEED_PARTS","DEED_ROWS"] XX HH.obs HH.val 4450:=fun w os=>by kernel_rfl
def SD:OpenLaw.wellSaid PySem.Challenge.rw_midlanes_k35_rounds_and_sizes=true:=by
 rw[Fast.te9446332074065402090]
 kernel_rfl
end
structure Tq(P:Program)(w:World)(K:W.Frag)(mg:Str->Option Value)(base:Heap):Prop where
 b_abs:mg "abs"=none
 b_all:mg "all"=none
 b_bool:mg "bool"=none
 b_int:mg "int"=none
 b_isinstance:mg "isinstance"=none
 b_len:mg "len"=none
 b_list:mg "list"=none
 b_max:mg "max"=none
 b_min:mg "min"=none
 b_range:mg "range"=none
 b_sorted:mg "sorted"=none
 b_str:mg "str"=none
 b_sum:mg "sum"=none
 b_tuple:mg "tuple"=none
 b_zip:mg "zip"=none
 c_DEED_PARTS:IsCD K w mg "DEED_PARTS" deedT
 c_DEED_ROWS:IsCD K w mg "DEED_ROWS" deedRowsT
 c_MOST_EDGE_ROWS:∃ t,mg "MOST_EDGE_ROWS"=some (.int 200 t)
 c_MOST_SIGN_FRAMES:∃ t,mg "MOST_SIGN_FRAMES"=some (.int 4 t)
 c_MOST_STANDS:∃ t,mg "MOST_STANDS"=some (.int 100 t)
 c_MOST_WORDS:∃ t,mg "MOST_WORDS"=some (.int 40 t)
 c_RECKONINGS:IsCT K mg "RECKONINGS" [V.str "put",V.str "copy",V.str "plus",V.str "less",V.str "times"]
 a0:TopFn K mg "_law_draw" oP ["bag","many"]
 a1:TopFn K mg "_law_number" qj ["bag"]
 a2:TopFn K mg "_law_bag" pI ["script"]
 a3:TopFn K mg "_law_row" wO ["bag","boxes","many","signs"]
 a4:TopFn K mg "_law_def" ua ["bag","signs","sign"]
 a5:TopFn K mg "_law_program" u8 ["bag"]
 a6:TopFn K mg "plain" sN ["n"]
 a7:TopFn K mg "of_word" uH ["w"]
 a8:TopFn K mg "is_plain" tK ["form"]
 a9:TopFn K mg "gather" vL ["numbers","form","n"]
 b0:TopFn K mg "with_numbers" sG ["c","numbers"]
 b1:TopFn K mg "joined" sk ["one","other","n"]
 b2:TopFn K mg "plus" wg ["one","other"]
 b3:TopFn K mg "less" uX ["one","other"]
 b4:TopFn K mg "times" sT ["form","n"]
 b5:TopFn K mg "put_in" tJ ["form","forms"]
 b6:TopFn K mg "row_of" xj ["program","frame"]
 b7:TopFn K mg "goes_to_row" uv ["row","number"]
 b8:TopFn K mg "with_box" ue ["frames","p","form"]
 b9:TopFn K mg "at_row" tT ["frames","at"]
 c0:TopFn K mg "reckoned" xH ["row","forms"]
 c1:TopFn K mg "tested" vC ["frames","row"]
 c2:TopFn K mg "called" u9 ["program","row","forms"]
 c3:TopFn K mg "silent" oO ["program","frames"]
 c4:TopFn K mg "filled" w4 ["frames","forms"]
 c5:TopFn K mg "is_whole" vQ ["thing"]
 c6:TopFn K mg "is_two" sY ["thing"]
 c7:TopFn K mg "is_form" t7 ["thing","many"]
 c8:TopFn K mg "calls" xg ["program","frame","after"]
 c9:TopFn K mg "frame_fits" vU ["program","many","frame"]
 d0:TopFn K mg "paper_fits" oR ["program","many","paper"]
 d1:TopFn K mg "part_fits" wk ["part","kind"]
 d2:TopFn K mg "edges_of" uG ["deed"]
 d3:TopFn K mg "own_words" uw ["stand"]
 d4:TopFn K mg "starts_of" rP ["program","stand","own"]
 d5:TopFn K mg "behind_rows" vF ["program","frames","rows"]
 d6:TopFn K mg "led_rowless" xx ["deed"]
 d7:TopFn K mg "is_on_round" uD ["lane","k"]
 d8:TopFn K mg "round_fault" su ["lane"]
 d9:TopFn K mg "_law_sum" wR ["one","other","n"]
 e0:TopFn K mg "_law_put" wL ["form","forms"]
 e1:TopFn K mg "_law_words" vK ["many"]
 e2:TopFn K mg "_law_reckoned" xG ["row","forms"]
 e3:TopFn K mg "_law_silent" tX ["program","signs"]
 e4:TopFn K mg "_law_signs_put" sJ ["signs","forms"]
 e5:TopFn K mg "_law_at" vi ["signs","at"]
 e6:TopFn K mg "_law_laid" ur ["bag","lane","frames","known"]
 e7:TopFn K mg "_law_as_is" uu ["lane","keys","frames"]
 e8:TopFn K mg "_law_target" vX ["bag","lane","keys","frames"]
 e9:TopFn K mg "_law_edge" vZ ["bag","program","lane","keys","frames","rows"]
 f0:TopFn K mg "_law_deed" sO ["bag","program","lane","keys","stand"]
 f1:TopFn K mg "_law_lane" uJ ["bag","program"]
 f2:TopFn K mg "edge_fits" qm ["program","lane","fits","own","start","edge"]
 f3:TopFn K mg "deed_fits" pB ["program","stand"]
 f4:TopFn K mg "edges_fit" vq ["program","lane","fits","stand"]
 f5:TopFn K mg "stand_fault" wQ ["program","lane","fits","k"]
 f6:TopFn K mg "fault" pR ["program","lane"]
 f7:TopFn K mg "_law_alike" p9 ["found","due"]
 f8:TopFn K mg "_law_moved_edge" wW ["edge","turn","many"]
 f9:TopFn K mg "_law_turned" sw ["lane","turn"]
 g0:TopFn K mg "_law_still" xw ["bag","many","k"]
 g1:TopFn K mg "_law_round" ww ["lane"]
abbrev Tq.C{P:Program}{w:World}{K:W.Frag}{mg:Str->Option Value}{base:Heap}(_:Tq P w K mg base)(x:Str)(n:Nat)(ps:List Str)(pr:Pre):Prop:=Callee P w K mg base x n ps (spG P w K pr)
structure Cs where
 (P:Program) (w:World) (K:W.Frag) (mg:Str->Option Value) (base:Heap)
def Gd:Cs->Prop:=fun⟨P,w,K,mg,base⟩=>∀ (f:Addr) (fd:FuncData) (tq:Tq P w K mg base) (T_law:Fun K "law" "law" jA f fd),FnOk P w K mg base CX0 14 f fd ["script"] (iN K)
def cs_ne:Nonempty Cs:=⟨⟨default,⟨fun _ _=>0,{ strHash:=fun _=>0,shareClass:=fun _=>0,mergeTok:=id,idOf:=fun _=>0,idOfShared:=fun _ _=>0,followText:=fun _=>true,idOfImm:=fun _=>0 }⟩,[],fun _=>none,default⟩⟩
def cq:Cs:=@Classical.epsilon Cs cs_ne fun c=>¬ Gd c
@[irreducible] noncomputable def P : Program:=cq.P
@[irreducible] noncomputable def w : World:=cq.w
@[irreducible] noncomputable def K : W.Frag:=cq.K
@[irreducible] noncomputable def mg : Str->Option Value:=cq.mg
@[irreducible] noncomputable def base : Heap:=cq.base
section
def sc__law_draw:FnScope ["bag","many","found"] ["bag","many"] (bG oP):=by walk_at"fs"
def aZ(tq:Tq P w K mg base):Callee P w K mg base "_law_draw" 1 ["bag","many"] mR:=by
 refine tq.a0.ok2 sc__law_draw fun f cdv A outer s H v1 v2 Q E hr h=>?_;have nd:=sc__law_draw.nd;obtain⟨b,l,n,rfl,rfl,⟨hn,hn2⟩,Bg,k⟩:=h;obtain⟨xs,i,m,st,c,hb,hl,hi,⟨hm0,hm1⟩,⟨hs0,hs1⟩,hxs,hlen⟩:=Bg.ex;have nbl:l≠b:=ne_of hl hb (by
  intro z;injection z with z
  cases xs <;> simp[bagL] at z)
 have hl2:∀ o,upd H b o l=some (.lst (xs.map V.int)):=fun o=>by rw[bC nbl];exact hl
 refine' m8 [some (.ref b),some (.int n),none] rfl ?hb ?hg
 case hb=>exact(ag (aL (PW.pt (bV (aB ba (x8 K (pv 0) aa) aa (aA _)) (cF (aB dM (x8 K (pv 0) aa) (aG (bc (K:=K) rfl) (by rfl) tq.b_len bf (aH (x8 K (pv 0) aa) ab)) (aA _))))) (ag (bX (x8 K (x8 K (pv 0) aa) (x8 K (pv 0) aa)) (cS (pv 0) aa cW)) (aj (bX (aw bw (x8 K (pv 0) aa) aa) (cS (pv 0) aa cW)))) (aj (aL (aB ba (x8 K (pv 0) aa) aa (aA _)) (ag (bX (aw bw (x8 K (pv 0) aa) aa) (cS (pv 0) aa cW)) (ag (bX (aw fE (aw bw (aw bw (aw bw (aw jJ (x8 K (pv 0) aa) aa) (aw qI aa (x8 K (pv 0) aa))) (aw qI aa (x8 K (pv 0) aa))) aa) aa) (cS (pv 0) aa cW)) (aj (ax (aw fE (aw jM (x8 K (pv 0) aa) aa) (pv 1)))))) aO))) (ag (cZ (i:=2) nd rfl (Or.inl rfl) (aw fE (x8 K (pv 0) aa) (pv 1))) (ag (bX (aw jM (x8 K (pv 0) aa) (pv 1)) (cS (pv 0) aa cW)) (aj (ax (pv 2))))))
 have fin:∀ (j:Nat) (m':Int),j<=xs.length->0<=m'->m'<=10^60->∀ H1,BSame b H H1->H1 b=some (.lst (bagL l j m' st c))->H1 l=some (.lst (xs.map V.int)) ->
   Q (.int (m' % n)) (upd H1 b (.lst (bagL l j (m' / n) st c))):=by
  intro j m' hj h0 h1 H1 bs hb1 hl1;have hd0:0<=m' / n:=Int.ediv_nonneg h0 (Int.le_of_lt hn);have hd1:m' / n<=m':=Int.ediv_le_self _ h0;refine k _ _ (jr _ (by lia)) (js _ hn) ⟨xs,j,m' / n,st,c,bP,by rw[bC nbl];exact hl1,hj,⟨hd0,by lia⟩,⟨hs0,hs1⟩,hxs,hlen⟩ (bs.trans BSame.wr)
 have tail:∀ (j:Nat) (m':Int) (σ2:St),σ2=[some (.ref b),some (.int n),none]->j<=xs.length->0<=m'->m'<=10^60->∀ H1,BSame b H H1->H1 b=some (.lst (bagL l j m' st c))->H1 l=some (.lst (xs.map V.int)) ->
   tSeq (tAsg (tOp (rI (fun _ j=>0<j) fun i j=>.int (i % j)) (tOp (rIxA K) (tVar 0) (tC (.int 2))) (tVar 1)) (eF 2))
    (tSeq (tAsg (tOp (rI iX fun i j=>.int (i / j)) (tOp (rIxA K) (tVar 0) (tC (.int 2))) (tVar 1)) (gSub (tVar 0) (tC (.int 2)) mH)) (tRet (tVar 2))) { nx:=fun _ H'=>Q .non H',rt:=Q } σ2 H1:=by
  intro j m' σ2 e hj h0 h1 H1 bs hb1 hl1;subst e;ac_nf;refine dP (v:=.int m') hb1 rfl ?_;ac_nf;refine rd_I hn ?_;ac_nf;refine dP (v:=.int m') hb1 rfl ?_;ac_nf;refine rd_I (jT hn (by lia)) ?_;ac_nf;refine lc (k:=2) hb1 rfl ?_;ac_nf;exact fin j m' hj h0 h1 H1 bs hb1 hl1
 ac_nf;refine dP (v:=.int m) hb rfl ?_;ac_nf;refine bU (fun hm=>?_) (fun hm=>?_)
 .ac_nf;refine dP (v:=.int i) hb rfl ?_;ac_nf;refine dP (v:=.ref l) hb rfl ?_;ac_nf;refine xD (SqL.of hl) ?_;ac_nf;rw[af];refine bU (fun hi2=>?_) (fun hi2=>?_)
  .ac_nf;refine dP (v:=.ref l) hb rfl ?_;ac_nf;refine dP (v:=.int i) hb rfl ?_;ac_nf;have hil:i < xs.length:=by lia
   have hxi:=hxs _ (lM hil);refine dP (v:=.int xs[i]) hl (cG (n:=i) rfl (by rw[ak,aC hil];rfl)) ?_;ac_nf;refine lc (k:=2) hb rfl ?_;ac_nf;refine dP (v:=.int i) bP rfl ?_;ac_nf;refine lc (k:=1) bP rfl ?_;exact tail (i+1) xs[i] _ rfl (by lia) hxi.1 hxi.2 _ (BSame.wr.trans BSame.wr) bP (by rw[bC nbl];exact hl2 _)
  .ac_nf;refine dP (v:=.int m) hb rfl ?_;ac_nf;refine uU hm ?_;ac_nf;refine dP (v:=.int c) hb rfl ?_;ac_nf;refine lc (k:=4) hb rfl ?_;ac_nf;refine dP (v:=.int st) bP rfl ?_;ac_nf;refine rd_I ⟨by decide,by decide,by lia⟩ ?_;ac_nf;refine dP (v:=.int st) bP rfl ?_;ac_nf;refine rd_I (.inl ⟨by decide,by decide⟩) ?_;ac_nf;refine dP (v:=.int (c+1)) bP rfl ?_;ac_nf;refine rd_I (.inl ⟨by decide,by decide⟩) ?_;ac_nf;refine rd_I (by decide) ?_;ac_nf;refine lc (k:=3) bP rfl ?_;ac_nf;generalize hst:(st ^ (3:Int).toNat+48271 * st+1013 * (c+1)+1) % 2147483647=st';have h0:0<=st':=by rw[<-hst];exact jr _ (by decide)
   have h1:st'<2147483647:=by rw[<-hst];exact js _ (by decide)
   refine dP (v:=.int st') bP rfl ?_;ac_nf;refine rd_I (jT (by decide) (by decide +kernel)) ?_;ac_nf;refine rd_I hn ?_;refine k _ _ (jr _ (by lia)) (js _ hn) ⟨xs,i,m,st',c+1,bP,by rw[bC nbl];exact hl2 _,hi,⟨hm0,hm1⟩,⟨h0,h1⟩,hxs,hlen⟩ (BSame.wr.trans BSame.wr)
 .ac_nf;refine dP (v:=.int m) hb rfl ?_;ac_nf;refine xO hm ?_;exact tail i m _ rfl hi hm0 hm1 H (BSame.refl _ _) hb hl
def sc__law_number:FnScope ["bag"] ["bag"] (bG qj):=by walk_at"fs"
def uF(tq:Tq P w K mg base):Callee P w K mg base "_law_number" 2 ["bag"] tR:=by
 refine tq.a1.ok1 sc__law_number fun f cdv A outer s H v1 Q E hr h=>?_;have nd:=sc__law_number.nd;obtain⟨b,l,rfl,Bg,k⟩:=h;refine' m8 [some (.ref b)] rfl ?hb ?hg
 case hb=>exact(ag (aL (aB ba (pyk (aZ tq :) hr.m (x9 0 (ah aa ab))) aa (aA _)) (aj (ax (aw gu (aw dj (aw gu (pyk (aZ tq :) hr.m (x9 0 (ah aa ab))) aa) aa) (pyk (aZ tq :) hr.m (x9 0 (bK (aw jJ aa aa) ab)))))) aO) (aj (ax (aw dj (pyk (aZ tq :) hr.m (x9 0 (ah aa ab))) aa))))
 ac_nf;refine use2 ⟨b,l,8,rfl,rfl,⟨by decide,by decide⟩,Bg,fun r H1 h0 h1 B1 b1=>?_⟩;ac_nf;refine bU (fun _=>?_) (fun _=>?_)
 .ac_nf;refine use2 ⟨b,l,2,rfl,rfl,⟨by decide,by decide⟩,B1,fun r2 H2 g0 g1 B2 b2=>?_⟩;ac_nf;refine rd_I (va (by lia) (by decide +kernel)) ?_;ac_nf;refine rd_I mZ ?_;ac_nf;refine use2 ⟨b,l,_,rfl,rfl,⟨by decide +kernel,by decide +kernel⟩,B2,fun r3 H3 f0 f1 B3 b3=>?_⟩;rw[ten60] at f1;refine rd_I (va (by lia) (by lia)) ?_;refine k _ _ ?_ B3 ((b1.trans b2).trans b3);rw[lO];have e1:(r2 * 2 - 1).natAbs<=1:=by lia
  have e2:r3.natAbs<=10^60:=by lia
  calc (r2*2-1).natAbs*r3.natAbs<=1*10^60:=Nat.mul_le_mul e1 e2
   _=10^60:=by rw[lN]
 .ac_nf;refine use2 ⟨b,l,9,rfl,rfl,⟨by decide,by decide⟩,B1,fun r2 H2 g0 g1 B2 b2=>?_⟩;ac_nf;exact k _ _ (by lia) B2 (b1.trans b2)
def sc__law_bag:FnScope ["script","stir","cell"] ["script"] (bG pI):=by walk_at"fs"
def Zkj(tq:Tq P w K mg base):Callee P w K mg base "_law_bag" 1 ["script"] (tZ K):=by
 refine tq.a2.ok1 sc__law_bag fun f cdv A outer s H v1 Q E hr h=>?_;have nd:=sc__law_bag.nd;obtain⟨a,ns,rfl,hS,hlen,k⟩:=h;refine' m8 [some (.ref a),none,none] rfl ?hb ?hg
 case hb=>exact(ag (cp (i:=1) nd rfl (Or.inl rfl) aa) (ag (cy PassesOwn.never rfl (eU (K:=K) rfl (cO (k_sl (K:=K) rfl) (pv 0) cL (cK aa))) (pyn 2 nd) (aj (cZ (i:=1) nd rfl (Or.inl rfl) (aw fE (aw bw (aw bw (aw qI (pv 1) aa) (aw fE (pv 2) aa)) aa) aa)))) (aj (ax (bt (dW (pyc ["cell"] [] [] (eU (K:=K) rfl (cO (k_sl (K:=K) rfl) (pv 0) cL (cK aa))) (fun _ _ _ _ _ _=>(aw fE (aG nh (by rfl) tq.b_abs mI (wx 0)) (aw jJ aa aa)))) (ah aa (ah aa (x9 1 (ah aa ab))))))))))
 ac_nf;refine oQ hS fun p hp=>?_;obtain⟨ms,em,hm⟩:=Zmn ns none (some 63);rw[em];refine xv (SqL.of bP) ?_;have s0:=Same.new (o:=.lst (ms.map V.int)) hp;generalize hH0:upd H p (HO.lst (ms.map V.int))=H0 at s0;have hp0:H0 p=some (.lst (ms.map V.int)):=by rw[<-hH0];exact bP
 refine ZnD (xs:=ms.map V.int) (fun i Z H1=>Ex2 fun st c2=>An4 (Z=[some (.ref a),some (.int st),c2]) (H1=H0) (0<=st) (st<2147483647)) ⟨11,none,rfl,rfl,by decide,by decide⟩ (fun i Z H1 _ z_=>by obtain⟨_,_,_,e,_⟩:=z_;rw[e];exact SqL.of hp0) ?_ ?_
 .rintro i x Z H1 hx ⟨st,c2,rfl,rfl,h0,h1⟩;obtain⟨z,rfl,_⟩:=ints_get hx;ac_nf;refine rd_I (.inr ⟨by decide,by decide⟩) ?_;ac_nf;refine rd_I (by decide) ?_;ac_nf;refine rd_I (by decide) ?_;ac_nf;exact⟨_,_,rfl,rfl,jr _ (by decide),js _ (by decide)⟩
 .rintro Z H1 ⟨st,c2,rfl,rfl,h0,h1⟩;ac_nf;refine oQ (s0.seq hS) fun p2 hp2=>?_;rw[em];refine xv (SqL.of bP) ?_;have s2:=Same.new (o:=.lst (ms.map V.int)) hp2;generalize hH2:upd H1 p2 (HO.lst (ms.map V.int))=H2 at s2;have hp2':H2 p2=some (.lst (ms.map V.int)):=by rw[<-hH2];exact bP
  refine Zqi (xs:=ms.map V.int) (ii (by rw[af];lia)) (fun i ys Z H3=>An3 (∃ x1,Z=[x1]) (H3=H2) (∃ zs:List Int,ys=zs.map V.int/\∀ z∈zs,0<=z/\z<=10^60)) ⟨⟨none,rfl⟩,rfl,[],rfl,fun _ h=>by cases h⟩ (fun i ys Z H3 _ z_=>by obtain⟨_,e,_⟩:=z_;rw[e];exact SqL.of hp2') ?_ ?_
  .rintro i x ys Z H3 hx hle hlt ⟨⟨x1,rfl⟩,rfl,zs,rfl,hz⟩;obtain ⟨z,rfl,_⟩:=ints_get hx;ac_nf;refine rd_I mZ ?_;refine rd_I (by decide +kernel) ?_;rw[ten60];refine ⟨hlt,by simpa using hle,⟨_,rfl⟩,rfl,zs++[_],by rw[aY];rfl,fun u hu=>?_⟩;rcases aR.mp hu with hu|hu
   .exact hz u hu
   .obtain rfl:=aK.mp hu;lia
  .rintro ys Z H3 hyl ⟨⟨x1,rfl⟩,rfl,zs,rfl,hz⟩ l hl;ac_nf;walk_at"mk";intro bb hbb;have sA:=Same.new (o:=.lst (zs.map V.int)) hl;have sB:=Same.new (o:=.lst [V.ref l,V.int 0,V.int 0,V.int st,V.int 0]) hbb;have sall:=((s0.trans s2).trans sA).trans sB;rw[af,af] at hyl;exact k bb l _ (((s0.trans s2).trans sA).free hbb) sall ⟨zs,0,0,st,0,bP,Zo8 bP hbb,bO _,⟨by decide,by decide⟩,⟨h0,h1⟩,hz,by lia⟩
end
end My
end
section
namespace My
open PySem L2
section
variable{C:Addr}(tq:Tq P w K mg base)
abbrev sgT(s:Int×Int):T:=.tup [.int s.1,.int s.2]
abbrev P0(sg:List (Int×Int)):List Df:=sg.map fun s=>⟨s.1,s.2,[]⟩
structure SgOk(sg:List (Int×Int)):Prop where
 l1:1<=sg.length
 l2:sg.length<=6
 s:∀ s∈sg,0<=s.1/\s.1<=s.2/\1<=s.2/\s.2<=8
def ZjS:Pre:=fun ts G k=>∃ (b l:Addr) (boxes many:Int) (sg:List (Int×Int)) (x:T),ts=[.ptr b,.int boxes,.int many,x]/\G b=some (.bag l)/\SqI G x (sg.map sgT)/\SgOk sg/\1<=boxes/\boxes<=8/\1<=many/\many<=1000/\∀ r:Rw,r.Ok (P0 sg) boxes many->k (rowT r) G
def Zkg:tq.C "_law_row" 3 ["bag","boxes","many","signs"] ZjS:=by
 refine tq.a3.okT ["bag","boxes","many","signs","p","q","r","t","kind","some","g"] fun ts G k nd hr hh=>?_;obtain⟨b,l,boxes,many,sg,x,rfl,hb,hx,hs,b1,b8,m1,m2,q⟩:=hh;refine' go_G [some (.ptr b),some (.int boxes),some (.int many),some x,none,none,none,none,none,none,none] rfl ?hb ?hg
 case hb=>exact(ag (bE (i:=4) nd rfl (Or.inl rfl) (pyk (aZ tq :) hr.m (x9 0 (wx 1)))) (ag (bE (i:=5) nd rfl (Or.inl rfl) (pyk (aZ tq :) hr.m (x9 0 (wx 1)))) (ag (bE (i:=6) nd rfl (Or.inl rfl) (pyk (aZ tq :) hr.m (x9 0 (wx 1)))) (ag (bE (i:=7) nd rfl (Or.inl rfl) (pyk (aZ tq :) hr.m (x9 0 (wx 2)))) (ag (bE (i:=8) nd rfl (Or.inl rfl) (pyk (aZ tq :) hr.m (x9 0 (ah aa ab)))) (ag (jG (i:=9) nd rfl (Or.inl rfl) (bt (aS (av (ah aD (x9 4 (aM (pyk (uF tq :) hr.m (wx 0)) ab)))) (aS (av (ah aD (x9 4 (wx 5)))) (aS (av (ah aD (x9 4 (x9 5 (wx 6))))) (aS (av (ah aD (x9 4 (x9 5 (wx 6))))) (aS (av (ah aD (wx 4))) ab))))))) (ag (cZ (i:=9) nd rfl (Or.inl rfl) (aw ff (pv 9) (bt (aS (av (ah aD (x9 4 (x9 5 (bK (aw dj (pyk (aZ tq :) hr.m (x9 0 (ah aa ab))) aa) ab))))) (aS (av (ah aD (wx 4))) (aS (av (ah aD (x9 4 (wx 7)))) (aS (av (ah aD (x9 4 (wx 7)))) ab))))))) (ag (cZ (i:=9) nd rfl (Or.inl rfl) (aw ff (pv 9) (bt (aS (av (ah aD (wx 7))) (aS (av (ah aD (wx 5))) (aS (av (ah aD (x9 4 (x9 4 (wx 5))))) (aS (av (ah aD (x9 4 (x9 4 (wx 6))))) (aS (av (ah aD (wx 5))) (aS (av (ah aD (x9 5 (wx 7)))) ab))))))))) (ag (eC (k_bm (K:=K) rfl PySem.F.plainAttrs_list PySem.F.slot_list_append PySem.F.type_list_append gK (pv 9) (aS (av (ah aD (wx 4))) ab))) (ag (aL (aB dM (pv 8) aa (aA _)) (aj (ax (x8 K (pv 9) (pv 8)))) aO) (ag (bE (i:=10) nd rfl (Or.inl rfl) (pyk (aZ tq :) hr.m (x9 0 (aM (aG (bc (K:=K) rfl) (by rfl) tq.b_len bf (wx 3)) ab)))) (ag (aL (PW.pt (fT (aB ba (pv 8) aa (aA _)) (gF (PW.pt (bV (aB ba (aG (bc (K:=K) rfl) (by rfl) tq.b_len bf (wx 3)) aa (aA _)) (cF (aB ba (pv 8) aa (aA _)))))))) (aj (ax (av (ah aD (x9 4 (x9 5 (bK (aw dj (pyk (aZ tq :) hr.m (x9 0 (ah aa ab))) aa) ab))))))) aO) (aj (ax (av (ah aD (x9 4 (x9 10 (aM (du (fh (K:=K) rfl) (by rfl) tq.b_tuple di (dW (pyc ["k"] ["bag","boxes"] [0,1] (cV rfl tq.b_range (aH (x8 K (x8 K (pv 3) (pv 10)) aa) ab)) (fun _ _ _ _ _ _=>(pyk (aZ tq :) hr.m (x9 1 (wx 2))))) ab)) ab)))))))))))))))))))
 ext;refine bj hb ⟨by lia,by lia⟩ fun p p0 p1=>?_;ext;refine bj hb ⟨by lia,by lia⟩ fun q0 q1 q2=>?_;ext;refine bj hb ⟨by lia,by lia⟩ fun r r0 r1=>?_;ext;refine bj hb ⟨by lia,by lia⟩ fun t t0 t1=>?_;ext;refine bj hb ⟨by decide,by decide⟩ fun kind k0 k1=>?_;ext;refine ui hb fun n hn=>?_;ext;refine bj hb ⟨by decide,by decide⟩ fun c c0 c1=>?_;ext;refine fz si_l si_l (jn rfl) ?_;ext;refine wp si_l si_l (jn rfl) fun a na=>?_;have nba:b≠a:=g_ne hb na;ext;refine⟨ty_p gp_s,?_⟩;ext;refine gB gp_s (jn rfl) ?_;rw[gp_p];generalize hsome:Ct.lst _=cs;have hb2:gput G a cs b=some (.bag l):=by rw[gp_n nba];exact hb
 have ga:gput G a cs a=some (.lst ([Rw.put p n,.copy p q0,.plus p q0 r,.less p q0 r,.tell p,.times p q0 (c-4),.take p,.zero p t,.below p t,.jump t,.tell q0,.plus p p q0,.less p p r,.take q0,.zero q0 t,.back p].map rowT)):=by rw[gp_s,<- hsome];rfl
 have hall:∀ r'∈[Rw.put p n,.copy p q0,.plus p q0 r,.less p q0 r,.tell p,.times p q0 (c-4),.take p,.zero p t,.below p t,.jump t,.tell q0,.plus p p q0,.less p p r,.take q0,.zero q0 t,.back p],r'.Ok (P0 sg) boxes many:=by
  intro r' hr';have hp:In0 p boxes:=⟨p0,p1⟩;have hq:In0 q0 boxes:=⟨q1,q2⟩;have hr:In0 r boxes:=⟨r0,r1⟩;have ht:In0 t many:=⟨t0,t1⟩;have hc:(c-4).natAbs<=99:=by lia
  simp only[aI,cw,dh] at hr';rcases hr' with rfl|rfl|rfl|rfl|rfl|rfl|rfl|rfl|rfl|rfl|rfl|rfl|rfl|rfl|rfl|rfl
  .exact ⟨hp,hn⟩
  .exact ⟨hp,hq⟩
  .exact ⟨hp,hq,hr⟩
  .exact ⟨hp,hq,hr⟩
  .exact hp
  .exact ⟨hp,hq,hc⟩
  .exact hp
  .exact ⟨hp,ht⟩
  .exact ⟨hp,ht⟩
  .exact ht
  .exact hq
  .exact ⟨hp,hp,hq⟩
  .exact ⟨hp,hp,hr⟩
  .exact hq
  .exact ⟨hq,ht⟩
  .exact hp
 have hcs:∀ x,cs≠.own x:=by rw[<-hsome];exact nofun
 clear hsome;ext;by_cases hk:kind<16
 .rw[aX hk];ext;have h16:[Rw.put p n,.copy p q0,.plus p q0 r,.less p q0 r,.tell p,.times p q0 (c - 4),.take p,.zero p t,.below p t,.jump t,.tell q0,.plus p p q0,.less p p r,.take q0,.zero q0 t,.back p].length=16:=rfl;generalize [Rw.put p n,.copy p q0,.plus p q0 r,.less p q0 r,.tell p,.times p q0 (c - 4),.take p,.zero p t,.below p t,.jump t,.tell q0,.plus p p q0,.less p p r,.take q0,.zero q0 t,.back p]=rs at ga hall h16;have hi:kind.toNat < rs.length:=by lia
  have e:(rs.map rowT)[kind.toNat]?=some (rowT rs[kind.toNat]):=by rw[ak,aC hi];rfl
  refine l_ix (sg_p ga) (at_i k0 e) ?_;exact eO na hcs (au (q _ (hall _ (lM hi))))
 rw[bz hk];have hx2:SqI (gput G a cs) x (sg.map sgT):=si_up na hx;have sl:=hs.l1;have sl2:=hs.l2;ext;refine cu (fB hx2) ?_;rw[af];ext;refine bj hb2 ⟨by lia,by lia⟩ fun g g0 g1=>?_;have times:We P w K (tTup (bI (tC (.str "times")) (bI (tVar 4) (bI (tVar 5) (bI (tOp (rI0 fun i j=>V.int (i-j)) (ij mR [] E0 (bI (tVar 0) (bI (tC (.int 199)) tNil))) (tC (.int 99))) tNil))))) [some (.ptr b),some (.int boxes),some (.int many),some x,some (.int p),some (.int q0),some (.int r),some (.int t),some (.int kind),some (.ptr a),some (.int g)] (gput G a cs) (Cl k):=by
  ext;refine bj hb2 ⟨by decide,by decide⟩ fun n2 n0 n1=>?_;ext;exact eO na hcs (au (q (.times p q0 (n2-99)) ⟨⟨p0,p1⟩,⟨q1,q2⟩,by lia⟩))
 obtain⟨sgn,esg⟩:∃ s,sg[g.toNat]?=some s:=⟨_,aC (by lia)⟩;have hsg:=hs.s sgn (aF esg);have call:We P w K (tTup (bI (tC (.str "call")) (bI (tVar 4) (bI (tVar 10) (bI (tCB (km K) (bI (gC ["k"] [0,1] (pT (bI (tOp (rIxA K) (tOp (rIxA K) (tVar 3) (tVar 10)) (tC (.int 0))) tNil)) (eF 0) iV (ij mR [] E0 (bI (tVar 1) (bI (tVar 2) tNil)))) tNil)) tNil))))) [some (.ptr b),some (.int boxes),some (.int many),some x,some (.int p),some (.int q0),some (.int r),some (.int t),some (.int kind),some (.ptr a),some (.int g)] (gput G a cs) (Cl k):=by
  ext;refine kS ?_;ext;have esg2:(sg.map sgT)[g.toNat]?=some (sgT sgn):=by rw[ak,esg];rfl
  refine l_ix (fB hx2) (at_i g0 esg2) ?_;ext;refine⟨sgn.1,rfl,by lia,by lia,?_⟩;have hrl:(rngT sgn.1.toNat).length=sgn.1.toNat:=by unfold rngT;simp
  refine⟨by rw[hrl];lia,fun i acc Γ' G'=>G'=gput G a cs/\(∃ c,Γ'=[c,some (.ptr b),some (.int boxes)])/\∃ qs:List Int,acc=qs.map T.int/\qs.length=i/\∀ q∈qs,In0 q boxes,⟨rfl,⟨_,rfl⟩,[],rfl,rfl,fun q hq=>(cw hq).elim⟩,fun _ _ _ _ _=>trivial,?_,?_⟩
  .rintro i z acc Γ' G' hz ⟨rfl,⟨c',rfl⟩,qs,rfl,hl,hq⟩;ext;refine bj hb2 ⟨by lia,by lia⟩ fun v v0 v1=>?_;refine ⟨rfl,⟨_,rfl⟩,qs++[v],by rw[aY];rfl,by rw[aJ,hl];rfl,fun q hq'=>?_⟩;rcases aR.mp hq' with h|h
   .exact hq q h
   .rw[aK.mp h];exact⟨v0,v1⟩
  .rintro acc Γ' G' ⟨rfl,⟨c',rfl⟩,qs,rfl,hl,hq⟩;rw[hrl] at hl;ext;refine fe sg_l (fun _=>nofun) ?_;ext;have ok:(Rw.call p g qs).Ok (P0 sg) boxes many:=⟨⟨p0,p1⟩,⟨⟨sgn.1,sgn.2,[]⟩,g0,by rw[ak,esg];rfl,by show (qs.length:Int)=sgn.1;lia⟩,hq⟩;have q2:=q _ ok;have er:rowT (.call p g qs)=.tup [.str "call",.int p,.int g,.tup (qs.map T.int)]:=by rw[<-l6];rfl
   rw[er] at q2;exact eO na hcs (au q2)
 refine bH ?_;refine cT (jt (wt_cut (decide (kind=19) || (decide (sg.length=1)&&decide (kind=18))) ?_ ?_))
 .ext;by_cases h19:kind=19
  .rw[aX h19];ext;exact⟨rfl,rfl⟩
  rw[bz h19];ext;refine cu (fB hx2) ?_;rw[af];ext;by_cases h1:sg.length=1
  .rw[aX (by lia),aX h1];ext;exact⟨rfl,rfl⟩
  .rw[bz (by lia),bz h1];ext;exact⟨rfl,rfl⟩
 .cases decide (kind=19) || (decide (sg.length=1) && decide (kind=18)) with
  | true=>exact iteT (k7 times)
  | false=>exact iteF (mS (k7 call))
structure DfS(sg:List (Int×Int))(s:Int×Int)(d:Df):Prop where
 t:d.takes=s.1
 b:d.boxes=s.2
 n:d.rows.length<=30
 rows:∀ r∈d.rows,r.Ok (P0 sg) d.boxes d.rows.length
 last:∃ r,d.rows[d.rows.length-1]?=some r/\r.last
def ZjU:Pre:=fun ts G k=>∃ (b l:Addr) (sg:List (Int×Int)) (s:Int×Int) (x:T),ts=[.ptr b,x,sgT s]/\G b=some (.bag l)/\SqI G x (sg.map sgT)/\SgOk sg/\s∈sg/\∀ d,DfS sg s d->k (dfT d) G
def Zki:tq.C "_law_def" 4 ["bag","signs","sign"] ZjU:=by
 refine tq.a4.okT ["bag","signs","sign","takes","boxes","many","rows","p","last"] fun ts G k nd hr hh=>?_;obtain⟨b,l,sg,sn,x,rfl,hb,hx,hs,hm,q⟩:=hh;obtain⟨t0,t1,b1,b8⟩:=hs.s sn hm;refine' go_G [some (.ptr b),some x,some (sgT sn),none,none,none,none,none,none] rfl ?hb ?hg
 case hb=>exact(ag (bX (pv 2) (cM (K:=K) (n:=2) rfl rfl (aV (pyn 3 nd) (aV (ig (i:=4) nd rfl (Or.inr rfl)) cA)))) (ag (cB (i:=5) nd rfl (Or.inr rfl) (x8 K (bt (ah aa (ah aa (ah aa (ah aa (ah aa (ah aa (bK (aw bw aa (pyk (aZ tq :) hr.m (x9 0 (ah aa ab)))) (ah aa ab))))))))) (pyk (aZ tq :) hr.m (x9 0 (ah aa ab))))) (ag (iW (i:=6) (LN:=["k"]) (FN:=["bag","boxes","many","signs"]) (fr:=[0,4,5,1]) rfl nd rfl rfl (dE (by rfl)) (cV rfl tq.b_range (bK (aw dj (pv 5) aa) ab)) (fun _ _ _ _ _ _=>(pyb 0)) (fun _ _ _ _ _ _=>dI) (fun _ _ _ _ _ _=>(pyk (Zkg tq :) hr.m (x9 1 (x9 2 (x9 3 (wx 4))))))) (ag (aL (PW.pt (bV (aB eQ (pv 5) aa (aA _)) (cF (aB ba (pyk (aZ tq :) hr.m (x9 0 (ah aa ab))) aa (aA _))))) (ag (bE (i:=7) nd rfl (Or.inl rfl) (pyk (aZ tq :) hr.m (x9 0 (wx 4)))) (ag (bX (av (ah aD (x9 7 (bK (aw bw aa (pyk (aZ tq :) hr.m (x9 0 (ah aa ab)))) ab)))) (cS (pv 6) aa cW)) (ag (bX (av (ah aD (bK (aw fE (aw bw (pv 7) aa) (pv 4)) (ah aa ab)))) (cS (pv 6) (aw dj (pv 5) aa) cW)) (ag (bX (ft (aB eQ (pv 4) aa (aA _)) (av (ah aD (x9 7 (x9 7 (bK (aw fE (aw bw (pv 7) aa) (pv 4)) ab))))) (av (ah aD (x9 7 (ah aa ab))))) (cS (pv 6) (aw dj (pv 5) aa) cW)) (ag (bX (av (ah aD (x9 7 (bK (aw dj (pv 5) aa) ab)))) (cS (pv 6) (aw dj (pv 5) aa) cW)) (aj (bX (av (ah aD (ah aa ab))) (cS (pv 6) (aw dj (pv 5) aa) cW)))))))) aO) (ag (i4 (i:=8) nd rfl (Or.inl rfl) (av (ah aD (aM (pyk (aZ tq :) hr.m (x9 0 (wx 4))) ab)))) (ag (aL (aB ba (pyk (aZ tq :) hr.m (x9 0 (ah aa ab))) aa (aA _)) (aj (i4 (i:=8) nd rfl (Or.inl rfl) (av (ah aD (aM (pyk (aZ tq :) hr.m (x9 0 (wx 5))) ab))))) aO) (aj (ax (av (x9 3 (x9 4 (bK (aw ff (pv 6) (bt (wx 8))) ab))))))))))))
 refine cT (dX (kQ rfl (cR rfl ?_)));ext;refine bj hb ⟨by decide,by decide⟩ fun m1 m10 m11=>?_;ext;refine bj hb ⟨by decide,by decide⟩ fun i i0 i1=>?_;obtain⟨many,em,mm1,mm2⟩:∃ many:Nat,atI [T.int 3,.int 6,.int 9,.int 4,.int 12,.int 7,.int (1+m1),.int 30] i=some (.int many)/\1<=many/\many<=30:=by
  have:i=0\/i=1\/i=2\/i=3\/i=4\/i=5\/i=6\/i=7:=by lia
  rcases this with rfl|rfl|rfl|rfl|rfl|rfl|rfl|rfl
  .exact ⟨3,rfl,by lia,by lia⟩
  .exact ⟨6,rfl,by lia,by lia⟩
  .exact ⟨9,rfl,by lia,by lia⟩
  .exact ⟨4,rfl,by lia,by lia⟩
  .exact ⟨12,rfl,by lia,by lia⟩
  .exact ⟨7,rfl,by lia,by lia⟩
  .exact ⟨(1+m1).toNat,by rw[rK (by lia)];rfl,by lia,by lia⟩
  .exact ⟨30,rfl,by lia,by lia⟩
 refine aW em ?_;refine bH ?_;refine cT (dX (tF ?_));ext;refine⟨((many-1:Nat):Int),by congr 2;lia,by lia,by lia,?_⟩;have hrl:(rngT ((many-1:Nat):Int).toNat).length=many-1:=by unfold rngT;simp
 refine⟨by rw[hrl];lia,fun i acc Γ' G'=>G'=G/\(∃ c,Γ'=[c,some (.ptr b),some (.int sn.2),some (.int many),some x])/\∃ rs:List Rw,acc=rs.map rowT/\rs.length=i/\∀ r∈rs,r.Ok (P0 sg) sn.2 many,⟨rfl,⟨_,rfl⟩,[],rfl,rfl,fun q hq=>(cw hq).elim⟩,fun _ _ _ _ _=>trivial,?_,?_⟩
 .rintro i z acc Γ' G' hz ⟨rfl,⟨c',rfl⟩,rs,rfl,hl,hq⟩;ext;refine ⟨b,l,sn.2,many,sg,x,rfl,hb,hx,hs,b1,b8,by lia,by lia,fun r hr=>?_⟩;refine ⟨rfl,⟨_,rfl⟩,rs++[r],by rw[aY];rfl,by rw[aJ,hl];rfl,fun q hq'=>?_⟩;rcases aR.mp hq' with h|h
  .exact hq q h
  .rw[aK.mp h];exact hr
 rintro acc Γ' G' ⟨rfl,⟨c',rfl⟩,rs,rfl,hl,hok⟩ a na;rw[hrl] at hl;have nba:b≠a:=g_ne hb na;have hb2:∀ {c},gput G' a c b=some (.bag l):=fun {c}=>by rw[gp_n nba];exact hb
 refine bH ?_;refine cX (fun Γ' G2=>(∃ c1,Γ'=[some (.ptr b),some x,some (sgT sn),some (.int sn.1),some (.int sn.2),some (.int many),some (.ptr a),c1,none])/\∃ rs:List Rw,An3 (G2=gput G' a (.lst (rs.map rowT))) (rs.length=many-1) (∀ r∈rs,r.Ok (P0 sg) sn.2 many)) ?_ ?_
 .ext;by_cases h5:5 < many
  .rw[aX (by lia)];ext;refine bj hb2 ⟨by decide,by decide⟩ fun y y0 y1=>?_;ext;by_cases hy:y=1
   .rw[aX hy];have stp:∀ {rs:List Rw} {i:Int} {r:Rw} {kn:Ev->GH->Prop} {Γ:Ev},rs.length=many - 1->0<=i->i < many - 1->kn Γ (gput G' a (.lst ((rs.set i.toNat r).map rowT)))->∃ a' ts i' j,T.ptr a=.ptr a'/\T.int i=.int i'/\gput G' a (.lst (rs.map rowT)) a'=some (.lst ts)/\ixN ts.length i'=some j/\kn Γ (gput (gput G' a (.lst (rs.map rowT))) a' (.lst (ts.set j (rowT r)))):=fun {rs i r kn Γ} hl i0 i1 h=>by
     refine⟨a,_,i,i.toNat,rfl,rfl,gp_s,?_,?_⟩
     .rw[af,hl];unfold ixN;rw[am i0,am (by lia)]
     .rw[gp_p,<- iL];exact h
    have keep:∀ {rs:List Rw} {i:Nat} {r:Rw},(∀ r∈rs,r.Ok (P0 sg) sn.2 many)->r.Ok (P0 sg) sn.2 many->∀ r'∈rs.set i r,r'.Ok (P0 sg) sn.2 many:=fun {rs i r} h hr r' hr'=>by
     rcases gk hr' with h'|rfl
     .exact h r' h'
     .exact hr
    ext;refine bj hb2 ⟨by lia,by lia⟩ fun p p0 p1=>?_;ext;refine bj hb2 ⟨by decide,by decide⟩ fun v v0 v1=>?_;have hp:In0 p sn.2:=⟨p0,p1⟩;have hp1:In0 ((p+1) % sn.2) sn.2:=⟨jr _ (by lia),js _ (by lia)⟩;ext;refine stp (r:=.put p (3+v)) hl (by lia) (by lia) ?_;have hl1:(rs.set (0:Int).toNat (.put p (3+v))).length=many-1:=by rw[cC];exact hl
    have ok1:=keep (i:=(0:Int).toNat) (r:=.put p (3+v)) hok ⟨hp,by lia⟩;generalize rs.set (0:Int).toNat (.put p (3+v))=rs1 at hl1 ok1;ext;refine ju (by lia) ?_;ext;refine stp (r:=.put ((p+1) % sn.2) 1) hl1 (by lia) (by lia) ?_;have hl2:(rs1.set ((many:Int)-5).toNat (.put ((p+1) % sn.2) 1)).length=many-1:=by rw[cC];exact hl1
    have ok2:=keep (i:=((many:Int)-5).toNat) (r:=.put ((p+1) % sn.2) 1) ok1 ⟨hp1,(by decide:(1:Int).natAbs<=10^60)⟩;generalize rs1.set ((many:Int)-5).toNat (.put ((p+1) % sn.2) 1)=rs2 at hl2 ok2;ext;by_cases hb1:1<sn.2
    .rw[aX hb1];ext;refine ju (by lia) ?_;ext;refine stp (r:=.less p p ((p+1) % sn.2)) hl2 (by lia) (by lia) ?_;have ok3:=keep (i:=((many:Int) - 4).toNat) (r:=.less p p ((p+1) % sn.2)) ok2 ⟨hp,hp,hp1⟩;have hl3:(rs2.set ((many:Int) - 4).toNat (.less p p ((p+1) % sn.2))).length=many - 1:=by rw[cC];exact hl2
     generalize rs2.set ((many:Int)-4).toNat (.less p p ((p+1) % sn.2))=rs3 at hl3 ok3;ext;refine stp (r:=.zero p (many-1)) hl3 (by lia) (by lia) ?_;have hl4:(rs3.set ((many:Int)-3).toNat (.zero p (many-1))).length=many-1:=by rw[cC];exact hl3
     have ok4:=keep (i:=((many:Int)-3).toNat) (r:=.zero p (many-1)) ok3 ⟨hp,by lia,by lia⟩;generalize rs3.set ((many:Int)-3).toNat (.zero p (many-1))=rs4 at hl4 ok4;ext;refine stp (r:=.jump 1) hl4 (by lia) (by lia) ?_;exact⟨⟨_,rfl⟩,_,rfl,by rw[cC];exact hl4,keep ok4 ⟨by lia,by lia⟩⟩
    .rw[bz hb1];ext;refine stp (r:=.put p 0) hl2 (by lia) (by lia) ?_;have ok3:=keep (i:=((many:Int) - 4).toNat) (r:=.put p 0) ok2 ⟨hp,(by decide:(0:Int).natAbs<=10 ^ 60)⟩;have hl3:(rs2.set ((many:Int) - 4).toNat (.put p 0)).length=many - 1:=by rw[cC];exact hl2
     generalize rs2.set ((many:Int)-4).toNat (.put p 0)=rs3 at hl3 ok3;ext;refine stp (r:=.zero p (many-1)) hl3 (by lia) (by lia) ?_;have hl4:(rs3.set ((many:Int)-3).toNat (.zero p (many-1))).length=many-1:=by rw[cC];exact hl3
     have ok4:=keep (i:=((many:Int)-3).toNat) (r:=.zero p (many-1)) ok3 ⟨hp,by lia,by lia⟩;generalize rs3.set ((many:Int)-3).toNat (.zero p (many-1))=rs4 at hl4 ok4;ext;refine stp (r:=.jump 1) hl4 (by lia) (by lia) ?_;exact⟨⟨_,rfl⟩,_,rfl,by rw[cC];exact hl4,keep ok4 ⟨by lia,by lia⟩⟩
   .rw[bz hy];ext;exact⟨⟨_,rfl⟩,rs,rfl,hl,hok⟩
  .rw[bz (by lia)];ext;exact⟨⟨_,rfl⟩,rs,rfl,hl,hok⟩
 rintro Γ' G2 ⟨⟨c1,rfl⟩,rs,rfl,hl,hok⟩;ext;refine bj hb2 ⟨by lia,by lia⟩ fun z z0 z1=>?_;ext;refine bj hb2 ⟨by decide,by decide⟩ fun u u0 u1=>?_;have fin:∀ r:Rw,r.Ok (P0 sg) sn.2 many->r.last->k (dfT ⟨sn.1,sn.2,rs++[r]⟩) G':=fun r hr hlst=>by
  have hle:(rs++[r]).length=many:=by rw[aJ,hl];simp;lia
  refine q _ ⟨rfl,rfl,by rw[hle];exact mm2,fun r' hr'=>?_,r,?_,hlst⟩
  .show r'.Ok (P0 sg) sn.2 (rs++[r]).length;rw[hle];rcases aR.mp hr' with h|h
   .exact hok r' h
   .rw[aK.mp h];exact hr
  .show (rs++[r])[(rs++[r]).length-1]?=some r;rw[aJ,eA,rE];exact cE
 ext;by_cases h5:u=5
 .rw[aX h5];ext;refine bj hb2 ⟨by lia,by lia⟩ fun v v0 v1=>?_;ext;refine fz (si_p gp_s) si_l (by rw[af,hl];simp;lia) ?_;ext;have:=fin (.jump v) ⟨v0,v1⟩ trivial;refine eO na nofun (au ?_);unfold dfT at this;rw[aY] at this;exact this
 .rw[bz h5];ext;refine fz (si_p gp_s) si_l (by rw[af,hl];simp;lia) ?_;ext;have:=fin (.back z) ⟨z0,z1⟩ trivial;refine eO na nofun (au ?_);unfold dfT at this;rw[aY] at this;exact this
def ok_of{sg:List (Int×Int)}(hq:∀ (i:Nat) s,sg[i]?=some s->∃ d,Q[i]?=some d/\d.takes=s.1){nb many:Int}{r:Rw}(h:r.Ok (P0 sg) nb many):r.Ok Q nb many:=by
 cases r with
 | call p f qs =>
  obtain⟨h1,⟨d,h2,h3,h4⟩,h5⟩:=h;rw[ak] at h3;obtain⟨s,es,rfl⟩:=bh.mp h3;obtain⟨d',e1,e2⟩:=hq _ s es;exact⟨h1,⟨d',h2,e1,by rw[e2];exact h4⟩,h5⟩
 | _=>exact h
def pg_of{sg:List (Int×Int)}(hs:SgOk sg)(hl:Q.length=sg.length)(h:∀ (i:Nat) s d,sg[i]?=some s->Q[i]?=some d->DfS sg s d):PgK Q:=by
 have l1:=hs.l1;have l2:=hs.l2;have at':∀ d∈Q,∃ s∈sg,DfS sg s d:=fun d hd=>by
  obtain⟨i,hi⟩:=gr.mp hd;have hlt:=(aT.mp hi).1;have es:sg[i]?=some (sg[i]'(by lia)):=aC _;exact⟨_,aF es,h i _ d es hi⟩
 have hq:∀ (i:Nat) s,sg[i]?=some s->∃ d,Q[i]?=some d/\d.takes=s.1:=fun i s es=>by
  have hlt:=(aT.mp es).1;have ed:Q[i]?=some (Q[i]'(by lia)):=aC _;exact⟨_,ed,(h i s _ es ed).t⟩
 refine⟨⟨fun e=>by rw[e] at hl;simp at hl;lia,by lia,fun d hd=>?_⟩,fun d hd=>?_⟩
 .obtain ⟨s,hs',D⟩:=at' d hd;obtain⟨q1,q2,q3,q4⟩:=hs.s s hs';exact⟨by rw[D.b];lia,by rw[D.b,D.t];lia,by have:=D.n;lia,fun r hr=>ok_of hq (D.rows r hr),D.last⟩
 .obtain ⟨s,hs',D⟩:=at' d hd;rw[D.b];exact(hs.s s hs').2.2.2
def l_min{P:Program}{w:World}{K:W.Frag}{G:GH}{k:T->GH->Prop}(h:k (.int (if j<i then j else i)) G):LNr P w K rMin [.int i,.int j] G k:=fun H us g r Q z=>by
 cases r with|cons r1 r2=>cases r2 with|cons r2 r3 =>
 cases r1;cases r2;cases r3;exact⟨i,j,rfl,z.here g .int h⟩
def mP{vs:List Int}{lo hi:Int}(h0:0<=i)(h1:i<vs.length)(h:∀ v∈vs,lo<=v/\v<=hi):∃ v,atI (vs.map T.int) i=some (.int v)/\lo<=v/\v<=hi:=by
 have hi':i.toNat<vs.length:=by lia
 exact⟨vs[i.toNat],at_i h0 (by rw[ak,aC hi'];rfl),h _ (lM hi')⟩
def Zft:Pre:=fun ts G k=>∃ (b l:Addr),ts=[.ptr b]/\G b=some (.bag l)/\∀ Q,PgK Q->k (pgT Q) G
def Zfy:tq.C "_law_program" 5 ["bag"] Zft:=by
 refine tq.a5.okT ["bag","signs","k","boxes"] fun ts G k nd hr hh=>?_;obtain⟨b,l,rfl,hb,q⟩:=hh;refine' go_G [some (.ptr b),none,none,none] rfl ?hb ?hg
 case' hb=>refine' ag ?bab ?bac
 case' bab=>refine' jG (i:=1) ?bad ?bae ?baf ?bag
 case bad=>exact nd
 case bae=>exact rfl
 case baf=>exact(Or.inr rfl)
 case' bag=>refine' bt ?bah
 case' bah=>refine' aS ?bai ?baj
 case' bai=>refine' av ?bak
 case' bak=>refine' ah ?bal ?bam
 case bal=>exact aa
 case' bam=>refine' aH ?ban ?bao
 case' ban=>refine' iy ?bap ?baq ?bar ?bas
 case bap=>exact(k_ix (K:=K) rfl)
 case' baq=>refine' bt ?bat
 case bat=>exact(ah aa (ah aa (ah aa (ah aa (ah aa (ah aa (ah aa (ah aa ab))))))))
 case bar=>exact(pyk (aZ tq :) hr.m (x9 0 (ah aa ab)))
 case bas=>exact(fun _ _=>rfl)
 case bao=>exact ab
 case baj=>exact ab
 case' bac=>refine' ag ?bau ?bav
 case' bau=>refine' cy ?baw ?bax ?bay ?baz ?bba
 case baw=>exact PassesOwn.never
 case bax=>exact rfl
 case' bay=>refine' cV ?bbb ?bbc ?bbd
 case bbb=>exact rfl
 case bbc=>exact tq.b_range
 case' bbd=>refine' aH ?bbe ?bbf
 case' bbe=>refine' iy ?bbg ?bbh ?bbi ?bbj
 case bbg=>exact(k_ix (K:=K) rfl)
 case' bbh=>refine' bt ?bbk
 case bbk=>exact(ah aa (ah aa (ah aa (ah aa (ah aa (ah aa (ah aa (ah aa ab))))))))
 case bbi=>exact(pyk (aZ tq :) hr.m (x9 0 (ah aa ab)))
 case bbj=>exact(fun _ _=>rfl)
 case bbf=>exact ab
 case baz=>exact(pyn 2 nd)
 case' bba=>refine' ag ?bbl ?bbm
 case' bbl=>refine' cZ (i:=3) ?bbn ?bbo ?bbp ?bbq
 case bbn=>exact nd
 case bbo=>exact rfl
 case bbp=>exact(Or.inl rfl)
 case' bbq=>refine' aw ?bbr ?bbs ?bbt
 case bbr=>exact bw
 case bbs=>exact aa
 case' bbt=>refine' gL ?bbu ?bbv ?bbw ?bbx
 case bbu=>exact(aZ tq :)
 case bbv=>exact hr.m
 case bbw=>exact(by rfl)
 case' bbx=>refine' bA ?bby ?bbz
 case bby=>exact(pv 0)
 case' bbz=>refine' aH ?bca ?bcb
 case' bca=>refine' iy ?bcc ?bcd ?bce ?bcf
 case bcc=>exact(k_ix (K:=K) rfl)
 case bcd=>exact(bt (ah aa (ah aa (ah aa ab))))
 case bce=>exact(pyk (aZ tq :) hr.m (x9 0 (ah aa ab)))
 case bcf=>exact(fun _ _=>rfl)
 case bcb=>exact ab
 case' bbm=>refine' aj ?bcg
 case' bcg=>refine' eC ?bch
 case' bch=>refine' k_bm (K:=K) ?bci ?bcj ?bck ?bcl ?bcm ?bcn ?bco
 case bci=>exact rfl
 case bcj=>exact PySem.F.plainAttrs_list
 case bck=>exact PySem.F.slot_list_append
 case bcl=>exact PySem.F.type_list_append
 case bcm=>exact gK
 case bcn=>exact(pv 1)
 case' bco=>refine' aS ?bcp ?bcq
 case' bcp=>refine' av ?bcr
 case' bcr=>refine' aM ?bcs ?bct
 case' bcs=>refine' aG ?bcu ?bcv ?bcw ?bcx ?bcy
 case bcu=>exact(Zmt rfl)
 case bcv=>exact(by rfl)
 case bcw=>exact tq.b_min
 case bcx=>exact bt_min
 case' bcy=>refine' bA ?bcz ?bda
 case bcz=>exact(pv 3)
 case' bda=>refine' aH ?bdb ?bdc
 case' bdb=>refine' iy ?bdd ?bde ?bdf ?bdg
 case bdd=>exact(k_ix (K:=K) rfl)
 case bde=>exact(bt (ah aa (ah aa (ah aa (ah aa (ah aa (ah aa ab)))))))
 case bdf=>exact(pyk (aZ tq :) hr.m (x9 0 (ah aa ab)))
 case bdg=>exact(fun _ _=>rfl)
 case bdc=>exact ab
 case bct=>exact(wx 3)
 case bcq=>exact ab
 case' bav=>refine' aj ?bdh
 case' bdh=>refine' ax ?bdi
 case' bdi=>refine' fS (LN:=["sign"]) (FN:=["bag","signs"]) (fr:=[0,1]) ?bdj ?bdk ?bdl ?bdm ?bdn ?bdo
 case bdj=>exact rfl
 case bdk=>exact(dE (by rfl))
 case bdl=>exact(eU (K:=K) rfl (pv 1))
 case' bdm=>intro cl C fp pins s H
 case bdm=>exact(pyb 0)
 case' bdn=>intro cl C fp pins s H
 case bdn=>exact dI
 case' bdo=>intro cl C fp pins s H
 case bdo=>exact(pyk (Zki tq :) hr.m (x9 1 (x9 2 (wx 0))))
 refine cT (dX (jF ?_));ext;refine bj hb ⟨by decide,by decide⟩ fun i i0 i1=>?_;ext;obtain⟨v,ev,v1,v8⟩:=mP (vs:=[3,2,4,8,1,6,7,5]) (lo:=1) (hi:=8) i0 i1 (by decide);refine aW ev ?_;ext;intro a na;have nba:b≠a:=g_ne hb na;have hb2:∀ {c},gput G a c b=some (.bag l):=fun {c}=>by rw[gp_n nba];exact hb
 refine bH ?_;ext;refine bj hb2 ⟨by decide,by decide⟩ fun n n0 n1=>?_;ext;obtain⟨m,em,m0,m5⟩:=mP (vs:=[0,1,2,1,3,4,2,5]) (lo:=0) (hi:=5) n0 n1 (by decide);refine aW em ?_;ext;refine⟨m,rfl,by lia,by lia,?_⟩;have hrl:(rngT m.toNat).length=m.toNat:=by unfold rngT;simp
 refine⟨fun i Γ' G'=>(Ex2 fun c1 c2=>Γ'=[some (.ptr b),some (.ptr a),c1,c2])/\∃ sg:List (Int×Int),G'=gput G a (.lst (sg.map sgT))/\sg.length=i+1/\∀ s∈sg,0<=s.1/\s.1<=s.2/\1<=s.2/\s.2<=8,⟨⟨_,_,rfl⟩,[(0,v)],rfl,rfl,fun s hs=>by rw[aK.mp hs];exact⟨by lia,by lia,v1,v8⟩⟩,fun _ _ _ _=>trivial,?_,?_⟩
 .rintro i z Γ' G' hz ⟨⟨c1,c2,rfl⟩,sg,rfl,hl,hs⟩;have hi:=(aT.mp hz).1;ext;refine bj hb2 ⟨by decide,by decide⟩ fun x x0 x1=>?_;ext;obtain ⟨y,ey,y1,y8⟩:=mP (vs:=[3,3,8]) (lo:=1) (hi:=8) x0 x1 (by decide);refine aW ey ?_;ext;refine bj hb2 ⟨by lia,by lia⟩ fun bx bx0 bx1=>?_;ext;refine ⟨ty_p gp_s,?_⟩;ext;refine bj hb2 ⟨by decide,by decide⟩ fun u u0 u1=>?_;ext;obtain ⟨t,et,t0,t4⟩:=mP (vs:=[1,2,0,1,3,4]) (lo:=0) (hi:=4) u0 u1 (by decide);refine aW et ?_;ext;refine l_min ?_;ext;refine gB gp_s (by rw[af];lia) ?_;rw[gp_p];dsimp only;refine bQ ⟨⟨_,_,rfl⟩,sg++[(if t < 1+bx then t else 1+bx,1+bx)],by rw[aY];rfl,by rw[aJ,hl];rfl,fun s hs'=>?_⟩;rcases aR.mp hs' with h|h
  .exact hs s h
  .rw[aK.mp h];dsimp only;split <;> lia
 rintro Γ' G' ⟨⟨c1,c2,rfl⟩,sg,rfl,hl,hs⟩;rw[hrl] at hl;have so:SgOk sg:=⟨by lia,by lia,hs⟩;refine k7 (kS ?_);ext;refine⟨sg.map sgT,si_p gp_s,?_⟩;refine⟨by rw[af];lia,fun i acc Γ' G'=>G'=gput G a (.lst (sg.map sgT))/\(∃ c,Γ'=[c,some (.ptr b),some (.ptr a)])/\∃ Q:List Df,acc=Q.map dfT/\Q.length=i/\∀ (j:Nat) s d,sg[j]?=some s->Q[j]?=some d->DfS sg s d,⟨rfl,⟨_,rfl⟩,[],rfl,rfl,fun j s d _ h=>by cases h⟩,fun i acc Γ' G' ⟨e,_⟩=>e▸si_p gp_s,?_,?_⟩
 .rintro i z acc Γ' G' hz ⟨rfl,⟨c',rfl⟩,Q,rfl,hl',hq⟩;rw[ak] at hz;obtain ⟨s,es,rfl⟩:=bh.mp hz;ext;refine ⟨b,l,sg,s,.ptr a,rfl,hb2,si_p gp_s,so,aF es,fun d hd=>?_⟩;refine ⟨rfl,⟨_,rfl⟩,Q++[d],by rw[aY];rfl,by rw[aJ,hl'];rfl,fun j s' d' e1 e2=>?_⟩;by_cases hj:j < Q.length
  .rw[cg hj] at e2;exact hq j s' d' e1 e2
  .have h2:=(aT.mp e2).1;rw[aJ] at h2;have ej:j=Q.length:=by simp at h2;lia
   subst ej;rw[cE] at e2;rw[hl',es] at e1;cases e1;cases e2;exact hd
 .rintro acc Γ' G' ⟨rfl,⟨c',rfl⟩,Q,rfl,hl',hq⟩;rw[af] at hl';exact eO na nofun (au (q Q (pg_of so hl' hq)))
def Znh:Pre:=fun ts G k=>∃ n,ts=[.int n]/\k (fmT (n,[])) G
def qf:tq.C "plain" 1 ["n"] Znh:=by
 refine tq.a6.okT ["n"] fun ts G k nd hr hh=>?_;obtain⟨n,rfl,q⟩:=hh;refine' go_G [some (.int n)] rfl ?hb ?hg
 case hb=>exact(aj (ax (av (x9 0 (aS (av ab) ab)))))
 walk_at"wy";exact au q
def ZjQ:Pre:=fun ts G k=>∃ n,ts=[.int n]/\k (fmT (ofW n)) G
def sF:tq.C "of_word" 1 ["w"] ZjQ:=by
 refine tq.a7.okT ["w"] fun ts G k nd hr hh=>?_;obtain⟨n,rfl,q⟩:=hh;refine' go_G [some (.int n)] rfl ?hb ?hg
 case hb=>exact(aj (ax (av (ah aa (aS (av (aS (av (ah aa (wx 0))) ab)) ab)))))
 walk_at"wy";exact au q
def Zh2:Pre:=fun ts G k=>∃ f:Fm,ts=[fmT f]/\k (.bl (decide (f.2=[]))) G
def Zkf:tq.C "is_plain" 1 ["form"] Zh2:=by
 refine tq.a8.okT ["form"] fun ts G k nd hr hh=>?_;obtain⟨f,rfl,q⟩:=hh;refine' go_G [some (fmT f)] rfl ?hb ?hg
 case hb=>exact(aj (ax (dJ ba (aG (bc (K:=K) rfl) (by rfl) tq.b_len bf (aH (x8 K (pv 0) aa) ab)) aa (aA _))))
 walk_at"wy";have:(decide (((f.2.map prT).length:Int)=0))=decide (f.2=[]):=by rw[af];cases f.2 <;> simp;lia
 rw[this];exact au q
def Zlp:Pre:=fun ts G k=>∃ d f n t,ts=[.ptr d,fmT f,.int n]/\G d=some (.tb t)/\t.length+f.2.length<=10000/\(∀ p∈f.2,p.1.natAbs<=10^1000)/\n.natAbs<=10^1000/\k .non (gput G d (.tb (bu t f.2 n)))
def hX(h:i.natAbs<=10^1000)(h2:j.natAbs<=10^1000):CBig i j:=⟨jk h (by decide +kernel),jk h2 (by decide +kernel)⟩
def mQ:tq.C "gather" 1 ["numbers","form","n"] Zlp:=by
 refine tq.a9.okT ["numbers","form","n","a","w"] fun ts G k nd hr hh=>?_;have hu1:=jO hr;obtain⟨d,f,n,t,rfl,hd,hl,ha,hn,q⟩:=hh;refine' go_G [some (.ptr d),some (fmT f),some (.int n),none,none] rfl ?hb ?hg
 case hb=>exact(aj (cy PassesOwn.never rfl (dL (K:=K) rfl (x8 K (pv 1) aa)) (cM (K:=K) (n:=2) rfl rfl (aV (pyn 3 nd) (aV (pyn 4 nd) cA))) (aj (iz hu1 (pv 0) (pv 4) (aw bw (t5 hu1 (pv 0) (pv 4) aa (M2.mk rfl rfl rfl rfl)) (aw gu (pv 3) (pv 2))) rfl))))
 walk_at"wy";refine⟨_,rfl,fun i Γ G'=>(∃ x y,Γ=[some (.ptr d),some (fmT f),some (.int n),x,y])/\G'=gput G d (.tb (bu t (f.2.take i) n)),⟨⟨none,none,rfl⟩,(gU hd).symm⟩,fun _ _ _ _=>trivial,?_,?_⟩
 .rintro i x Γ G' hx ⟨⟨x1,x2,rfl⟩,rfl⟩;rw[ak] at hx;obtain⟨p,ep,rfl⟩:=bh.mp hx;refine cR rfl ?_;walk_at"wy";refine⟨d,_,rfl,gp_s,?_⟩;walk_at"wy";refine⟨_,_,gp_s,rfl,rfl,?_⟩;walk_at"wy";refine l_IC (hX (ha p (aF ep)) hn) ?_;walk_at"wy";have hg:=kG (f.2.take i) n t;rw[fJ] at hg;refine⟨d,_,_,_,rfl,rfl,gp_s,rfl,by lia,?_⟩;dsimp only;refine bQ ?_;refine⟨⟨_,_,rfl⟩,?_⟩;rw[gp_p,<- qU,eY,ep];rfl
 .rintro Γ G' ⟨_,rfl⟩;rw[af,eZ];exact q
def ZpA:Pre:=fun ts G k=>∃ c d t,ts=[.int c,.ptr d]/\G d=some (.tb t)/\t.length<64/\k (fmT (wnF c t)) G
def qp:tq.C "with_numbers" 1 ["c","numbers"] ZpA:=by
 refine tq.b0.okT ["c","numbers"] fun ts G k nd hr hh=>?_;have hu1:=jO hr;obtain⟨c,d,t,rfl,hd,hl,q⟩:=hh;refine' go_G [some (.int c),some (.ptr d)] rfl ?hb ?hg
 case hb=>exact(aj (ax (av (x9 0 (aM (du (fh (K:=K) rfl) (by rfl) tq.b_tuple di (dW (pyf ["w"] ["numbers"] [1] (eU (K:=K) rfl (aG (ug rfl) (by rfl) tq.b_sorted ph (wx 1))) (fun _ _ _ _ _ _=>(wH (aB gM (hZ hu1 (pv 1) (pv 0) (fun _ _=>rfl)) aa (aA _)))) (fun _ _ _ _ _ _=>(av (aH (hZ hu1 (pv 1) (pv 0) (fun _ _=>rfl)) (wx 0))))) ab)) ab)))))
 have hp:=iB (t.map (·.1));walk_at"wy";refine kS ?_;walk_at"wy";refine sZ hd hl ?_;refine⟨_,si_l,by rw[af,hp.length_eq,af];lia,fun i acc Γ G'=>(∃ x,Γ=[x,some (.ptr d)])/\G'=G/\acc=(cx t ((sortI (t.map (·.1))).take i)).map prT,⟨⟨none,rfl⟩,rfl,rfl⟩,fun _ _ _ _ _=>si_l,?_,?_⟩
 .rintro i x acc Γ G' hx ⟨⟨x1,rfl⟩,rfl,rfl⟩;rw[ak] at hx;obtain ⟨m,em,rfl⟩:=bh.mp hx;have hm:m∈t.map (·.1):=hp.mem_iff.mp (aF em);have etk:cx t ((sortI (t.map (·.1))).take (i+1))=cx t ((sortI (t.map (·.1))).take i)++(if bm t m≠0 then [(bm t m,m)] else []):=by
   unfold cx;rw[eY,em,rM,filter_append,aY];by_cases e0:bm t m=0 <;> simp[e0]
  walk_at"wy";refine⟨d,t,m,rfl,hd,rfl,hm,?_⟩;walk_at"wy";refine tH (fun hz=>?_) (fun hz=>?_)
  .walk_at"wy";refine⟨d,t,m,rfl,hd,rfl,hm,?_⟩;walk_at"wy";refine⟨⟨_,rfl⟩,rfl,?_⟩;rw[etk,am hz,aY];rfl
  .refine ⟨⟨_,rfl⟩,rfl,?_⟩;rw[etk,ao (by simpa using hz),dR]
 .rintro acc Γ G' ⟨_,rfl,rfl⟩;walk_at"wy";refine fe sg_l (fun _=>nofun) ?_;rw[af,eZ];walk_at"wy";exact au q
structure FoB(n:Nat)(f:Fm):Prop where
 o:Fo n (10^900) f
 n:n<64
def kO{t:List (Int×Int)}(hn:n<64)(h1:(t.map (·.1)).Nodup)(h2:∀ x∈t.map Prod.fst,0<=x/\x<n):t.length<64:=by
 have:=mn (n:=n) _ h1 h2;rw[af] at this;lia
def Zln:Pre:=fun ts G k=>∃ n f g m,ts=[fmT f,fmT g,.int m]/\FoB n f/\FoB n g/\m.natAbs<=10^900/\k (fmT (cb f g m)) G
def l9{x:Nat}(h:x<=10^900):x<=10^1000:=bo h (iK (by decide) (by decide))
def xu:tq.C "joined" 2 ["one","other","n"] Zln:=by
 refine tq.b1.okT ["one","other","n","numbers"] fun ts G k nd hr hh=>?_;obtain⟨n,f,g,m,rfl,hf,hg,hm,q⟩:=hh;refine' go_G [some (fmT f),some (fmT g),some (.int m),none] rfl ?hb ?hg
 case hb=>exact(ag (cp (i:=3) nd rfl (Or.inl rfl) kr) (ag (eC (pyk (mQ tq :) hr.m (x9 3 (x9 0 (ah aa ab))))) (ag (eC (pyk (mQ tq :) hr.m (x9 3 (x9 1 (wx 2))))) (aj (ax (pyk (qp tq :) hr.m (bK (aw bw (x8 K (pv 0) aa) (aw gu (pv 2) (x8 K (pv 1) aa))) (wx 3))))))))
 obtain⟨t1,t2,_⟩:=pH (m:=m) hf.o hg.o;have h1:=hf.o.len;have h2:=hg.o.len;have h3:=hf.n;have h4:=kG f.2 1 [];rw[iI] at h4;walk_at"wy";intro p hp;walk_at"wy";refine⟨p,f,1,[],rfl,gp_s,by rw[iI];lia,fun q hq=>l9 (hf.o.a q hq),by decide +kernel,?_⟩;walk_at"wy";refine⟨p,g,m,_,rfl,gp_s,by lia,fun q hq=>l9 (hg.o.a q hq),l9 hm,?_⟩;walk_at"wy";refine l_IC (hX (l9 hm) (l9 hg.o.c)) ?_;walk_at"wy";refine⟨_,p,_,rfl,gp_s,kO hf.n t1 t2,?_⟩;rw[gp_p,gp_p];exact eO hp (fun _=>nofun) (au q)
def wc(m:Int):Pre:=fun ts G k=>∃ n f g,ts=[fmT f,fmT g]/\FoB n f/\FoB n g/\k (fmT (cb f g m)) G
def c_plus(tq:Tq P w K mg base):Callee P w K mg base "plus" 3 ["one","other"] (spG P w K (wc 1)):=by
 refine tq.b2.okT ["one","other"] fun ts G k nd hr hh=>?_;obtain⟨n,f,g,rfl,hf,hg,q⟩:=hh;refine' go_G [some (fmT f),some (fmT g)] rfl ?hb ?hg
 case hb=>exact(aj (ax (pyk (xu tq :) hr.m (x9 0 (x9 1 (ah aa ab))))))
 walk_at"wy";exact⟨n,f,g,1,rfl,hf,hg,by decide +kernel,au q⟩
def c_less(tq:Tq P w K mg base):Callee P w K mg base "less" 3 ["one","other"] (spG P w K (wc (-1))):=by
 refine tq.b3.okT ["one","other"] fun ts G k nd hr hh=>?_;obtain⟨n,f,g,rfl,hf,hg,q⟩:=hh;refine' go_G [some (fmT f),some (fmT g)] rfl ?hb ?hg
 case hb=>exact(aj (ax (pyk (xu tq :) hr.m (x9 0 (x9 1 (tW (ck cj aa) ab))))))
 walk_at"wy";exact⟨n,f,g,-1,rfl,hf,hg,by decide +kernel,au q⟩
def Znf:Pre:=fun ts G k=>∃ n f m,ts=[fmT f,.int m]/\FoB n f/\m.natAbs<=10^900/\k (fmT (im f m)) G
def Zqm:tq.C "times" 2 ["form","n"] Znf:=by
 refine tq.b4.okT ["form","n","numbers"] fun ts G k nd hr hh=>?_;obtain⟨n,f,m,rfl,hf,hm,q⟩:=hh;refine' go_G [some (fmT f),some (.int m),none] rfl ?hb ?hg
 case hb=>exact(ag (cp (i:=2) nd rfl (Or.inl rfl) kr) (ag (eC (pyk (mQ tq :) hr.m (x9 2 (x9 0 (wx 1))))) (aj (ax (pyk (qp tq :) hr.m (bK (aw gu (x8 K (pv 0) aa) (pv 1)) (wx 2)))))))
 obtain⟨t1,t2,_⟩:=rO (m:=m) hf.o;have h1:=hf.o.len;have h3:=hf.n;walk_at"wy";intro p hp;walk_at"wy";refine⟨p,f,m,[],rfl,gp_s,by rw[iI];lia,fun q hq=>l9 (hf.o.a q hq),l9 hm,?_⟩;walk_at"wy";refine l_IC (hX (l9 hf.o.c) (l9 hm)) ?_;walk_at"wy";refine⟨_,p,_,rfl,gp_s,kO hf.n t1 t2,?_⟩;rw[gp_p];exact eO hp (fun _=>nofun) (au q)
def ZhZ(hg:∀ g∈fl,∀ p∈g.2,0<=p.2/\p.2<(n:Int)):∀ (ps:List (Int×Int)),∀ x∈(de ps fl).map Prod.fst,0<=x/\x<(n:Int):=by
 intro ps;refine lU (C:=fun ps=>∀ x∈(de ps fl).map Prod.fst,0<=x/\x<(n:Int)) (fun x hx=>nomatch hx) (fun l a h x hx=>?_) ps;rw[kB] at hx;rcases kY _ _ _ _ hx with hx|hx
 .exact h x hx
 .obtain ⟨p,hp,rfl⟩:=aU.mp hx;unfold nthF at hp;rw[cJ] at hp;cases e:fl[a.2.toNat]? with
  | none=>rw[e] at hp;cases hp
  | some g=>rw[e] at hp;exact hg g (aF e) p hp
def iU(ps:List (Int×Int)):((de ps fl).map (·.1)).Nodup:=by
 refine lU (C:=fun ps=>((de ps fl).map (·.1)).Nodup) fL (fun l a h=>?_) ps;show ((de (l++[a]) fl).map (·.1)).Nodup;rw[kB];exact fR _ _ h
def Zll:Pre:=fun ts G k=>∃ n m f fl y,ts=[fmT f,y]/\SqI G y (fl.map fmT)/\FoB n f/\n=fl.length/\m<64/\(∀ g∈fl,FoB m g)/\k (fmT (bF f fl)) G
def sf:tq.C "put_in" 2 ["form","forms"] Zll:=by
 refine tq.b5.okT ["form","forms","c","numbers","a","w"] fun ts G k nd hr hh=>?_;obtain⟨n,m,f,fl,y,rfl,sy,hf,rfl,hm,hg,q⟩:=hh;refine' go_G [some (fmT f),some y,none,none,none,none] rfl ?hb ?hg
 case hb=>exact(ag (cB (i:=2) nd rfl (Or.inl rfl) (x8 K (pv 0) aa)) (ag (cp (i:=3) nd rfl (Or.inl rfl) kr) (ag (cy PassesOwn.never rfl (dL (K:=K) rfl (x8 K (pv 0) aa)) (cM (K:=K) (n:=2) rfl rfl (aV (pyn 4 nd) (aV (pyn 5 nd) cA))) (ag (cZ (i:=2) nd rfl (Or.inl rfl) (aw bw (pv 2) (aw gu (pv 4) (x8 K (x8 K (pv 1) (pv 5)) aa)))) (aj (eC (pyk (mQ tq :) hr.m (x9 3 (aH (x8 K (pv 1) (pv 5)) (wx 4)))))))) (aj (ax (pyk (qp tq :) hr.m (x9 2 (wx 3))))))))
 have keys:=ZhZ (n:=m) (fun g h=>(hg g h).o.w);have few:∀ ps,(de ps fl).length<64:=fun ps=>kO hm (iU ps) (keys ps);walk_at"wy";intro p hp;have sy':∀ c,SqI (gput G p c) y (fl.map fmT):=fun c=>by
  rcases sy with e|⟨a,e,h⟩
  .exact .inl e
  .exact .inr ⟨a,e,by rw[gp_n (g_ne h hp)];exact h⟩
 walk_at"wy";refine⟨_,rfl,fun i Γ G'=>(∃ a b,Γ=[some (fmT f),some y,some (.int (putC f.1 (f.2.take i) fl)),some (.ptr p),a,b])/\G'=gput G p (.tb (de (f.2.take i) fl)),⟨⟨none,none,rfl⟩,rfl⟩,fun _ _ _ _=>trivial,?_,?_⟩
 .rintro i x Γ G' hx ⟨⟨x1,x2,rfl⟩,rfl⟩;rw[ak] at hx;obtain ⟨r,er,rfl⟩:=bh.mp hx;have hrm:=aF er;obtain ⟨w0,w1⟩:=hf.o.w r hrm;have hl:fl[r.2.toNat]?=some (nthF fl r.2):=by
   unfold nthF;rw[cJ,aC (by lia)];rfl
  have hgm:=hg _ (aF hl);have hat:atI (fl.map fmT) r.2=some (fmT (nthF fl r.2)):=cG (n:=r.2.toNat) (by lia) (by rw[ak,hl];rfl);refine cR rfl ?_;walk_at"wy";refine l_ix (.inr (sy' _)) hat ?_;walk_at"wy";refine l_IC (hX (l9 (hf.o.a r hrm)) (l9 hgm.o.c)) ?_;walk_at"wy";refine l_ix (.inr (sy' _)) hat ?_;walk_at"wy";have h1:=hgm.o.len;have h2:=few (f.2.take i);refine⟨p,_,_,_,rfl,gp_s,by lia,fun q hq=>l9 (hgm.o.a q hq),l9 (hf.o.a r hrm),?_⟩;have et:f.2.take (i+1)=f.2.take i++[r]:=by rw[eY,er];rfl
  rw[gp_p];dsimp only;refine bQ ?_;show (∃ a b,_=[_,_,some (T.int (putC f.1 (f.2.take (i+1)) fl)),_,a,b])/\_=gput G p (.tb (de (f.2.take (i+1)) fl));rw[et,Zlc,kB];exact⟨⟨_,_,rfl⟩,rfl⟩
 .rintro Γ G' ⟨⟨x1,x2,rfl⟩,rfl⟩;walk_at"wy";rw[af,eZ];refine⟨_,p,_,rfl,gp_s,few _,?_⟩;exact eO hp (fun _=>nofun) (au q)
def Zlk:Pre:=fun ts G k=>∃ Q s r,ts=[pgT Q,sfT s]/\0<=s.1/\0<=s.2.1/\cf Q s.1 s.2.1=some r/\k (rowT r) G
def kW:tq.C "row_of" 1 ["program","frame"] Zlk:=by
 refine tq.b6.okT ["program","frame"] fun ts G k nd hr hh=>?_;obtain⟨Q,s,r,rfl,h1,h2,hr,q⟩:=hh;refine' go_G [some (pgT Q),some (sfT s)] rfl ?hb ?hg
 case hb=>exact(aj (ax (x8 K (x8 K (x8 K (pv 0) (x8 K (pv 1) aa)) aa) (x8 K (pv 1) aa))))
 unfold cf at hr;obtain⟨d,ed,er⟩:=xX.mp hr;ext;refine aW (at_i h1 (by rw[ak,ed];rfl)) ?_;ext;refine aW (at_i h2 (by rw[ak,er];rfl)) ?_;exact au q
def ZpD:Pre:=fun ts G k=>∃ r n,ts=[rowT r,.int n]/\k (.bl (r.goes n)) G
def ZgB:tq.C "goes_to_row" 1 ["row","number"] ZpD:=by
 refine tq.b7.okT ["row","number"] fun ts G k nd hr hh=>?_;obtain⟨r,n,rfl,q⟩:=hh;refine' go_G [some (rowT r),some (.int n)] rfl ?hb ?hg
 case hb=>exact(aj (ax (ft (aB ba (x8 K (pv 0) aa) aD (aA _)) (dJ ba (pv 1) aa (aA _)) (dJ dM (pv 1) aa (aA _)))))
 cases r <;> (ext;exact au q)
abbrev SfL(G:GH)(x:T)(fr:List SF)(s:SF):Prop:=SqI G x ((fr++[s]).map sfT)
def SfL.last{G:GH}{x:T}{fr:List SF}{s:SF}(h:SfL G x fr s):SqG G x (fr.map sfT++[sfT s]):=.inr (by rw[SfL,aY] at h;exact h)
def SfL.cut{G:GH}{x:T}{fr:List SF}{s:SF}(h:SfL G x fr s):cutT ((fr++[s]).map sfT) none (some (-1))=fr.map sfT:=by rw[aY];exact mB _ _
def vE:Pre:=fun ts G k=>∃ fr s p f x,ts=[x,.int p,fmT f]/\SfL G x fr s/\fr.length<=100/\0<=p/\p<s.2.2.length/\s.2.2.length<=1000/\k (.lst ((fF fr s p f).map sfT)) G
def oU:tq.C "with_box" 1 ["frames","p","form"] vE:=by
 refine tq.b8.okT ["frames","p","form","last"] fun ts G k nd hr hh=>?_;obtain⟨fr,s,p,f,x,rfl,hx,hl,p0,p1,hs,q⟩:=hh;refine' go_G [some x,some (.int p),some (fmT f),none] rfl ?hb ?hg
 case hb=>exact(ag (cB (i:=3) nd rfl (Or.inl rfl) (x8 K (pv 0) (ck cj aa))) (aj (ax (aw ff (cO (k_sl (K:=K) rfl) (pv 0) cL (cK (ck cj aa))) (bt (aS (av (aH (x8 K (pv 3) aa) (bK (aw bw (x8 K (pv 3) aa) aa) (bK (aw (gT (K:=K) rfl) (aw (gT (K:=K) rfl) (cO (eP (K:=K) rfl) (x8 K (pv 3) aa) cL (cK (pv 1))) (av (wx 2))) (cO (eP (K:=K) rfl) (x8 K (pv 3) aa) (cK (aw bw (pv 1) aa)) cL)) ab)))) ab))))))
 ext;refine l_ix hx.last (fG _ _) ?_;ext;refine i7 hx ?_;rw[hx.cut];ext;refine eN ?_;rw[gQ p0 (by rw[af];lia)];ext;have lt:((s.2.2.map fmT).take p.toNat).length<=s.2.2.length:=by rw[fJ,af];exact jY _ _
 have ld:((s.2.2.map fmT).drop (p+1).toNat).length<=s.2.2.length:=by rw[jj,af];exact jZ _ _
 refine gE (by rw[eA];lia) ?_;ext;refine eN ?_;rw[je (by lia) (by rw[af];lia)];refine gE (by rw[aJ,eA];lia) ?_;ext;refine fz si_l si_l (by rw[af];simp;lia) ?_;have e:(s.2.2.map fmT).take p.toNat++[fmT f]++(s.2.2.map fmT).drop (p+1).toNat=(s.2.2.set p.toNat f).map fmT:=by
  have hp:p.toNat<s.2.2.length:=by lia
  rw[<-map_take,<- map_drop,x6,am hp,aY,aP,cv,show (p+1).toNat=p.toNat+1 by lia];rfl
 rw[e];unfold fF at q;rw[aY] at q;exact au q
def rZ:Pre:=fun ts G k=>∃ fr s t x,ts=[x,.int t]/\SfL G x fr s/\fr.length<=100/\k (.lst ((cH fr s t).map sfT)) G
def kw:tq.C "at_row" 1 ["frames","at"] rZ:=by
 refine tq.b9.okT ["frames","at","last"] fun ts G k nd hr hh=>?_;obtain⟨fr,s,t,x,rfl,hx,hl,q⟩:=hh;refine' go_G [some x,some (.int t),none] rfl ?hb ?hg
 case hb=>exact(ag (cB (i:=2) nd rfl (Or.inl rfl) (x8 K (pv 0) (ck cj aa))) (aj (ax (aw ff (cO (k_sl (K:=K) rfl) (pv 0) cL (cK (ck cj aa))) (bt (aS (av (aH (x8 K (pv 2) aa) (x9 1 (aH (x8 K (pv 2) aa) ab)))) ab))))))
 ext;refine l_ix hx.last (fG _ _) ?_;ext;refine i7 hx ?_;rw[hx.cut];ext;refine fz si_l si_l (by rw[af];simp;lia) ?_;unfold cH at q;rw[aY] at q;exact au q
def Zh0:Pre:=fun ts G k=>∃ Q n B s r m p f,ts=[rowT r,.tup (s.2.2.map fmT)]/\SfOk Q n B s/\B<=10^900/\n<64/\r.Ok Q s.2.2.length m/\bR s r=some (p,f)/\k (fmT f) G
def Zke:tq.C "reckoned" 4 ["row","forms"] Zh0:=by
 refine tq.c0.okT ["row","forms"] fun ts G k nd hr hh=>?_;obtain⟨Q,n,B,s,r,m,p,f,rfl,hs,hB,hn,ok,rk,q⟩:=hh;refine' go_G [some (rowT r),some (.tup (s.2.2.map fmT))] rfl ?hb ?hg
 case hb=>exact(ag (aL (aB ba (x8 K (pv 0) aa) aD (aA _)) (aj (ax (pyk (qf tq :) hr.m (aH (x8 K (pv 0) aa) ab)))) aO) (ag (aL (aB ba (x8 K (pv 0) aa) aD (aA _)) (aj (ax (x8 K (pv 1) (x8 K (pv 0) aa)))) aO) (ag (aL (aB ba (x8 K (pv 0) aa) aD (aA _)) (aj (ax (pyk (c_plus tq :) hr.m (aH (x8 K (pv 1) (x8 K (pv 0) aa)) (aH (x8 K (pv 1) (x8 K (pv 0) aa)) ab))))) aO) (ag (aL (aB ba (x8 K (pv 0) aa) aD (aA _)) (aj (ax (pyk (c_less tq :) hr.m (aH (x8 K (pv 1) (x8 K (pv 0) aa)) (aH (x8 K (pv 1) (x8 K (pv 0) aa)) ab))))) aO) (aj (ax (pyk (Zqm tq :) hr.m (aH (x8 K (pv 1) (x8 K (pv 0) aa)) (aH (x8 K (pv 0) aa) ab)))))))))
 have bx:∀ {q:Int},In0 q s.2.2.length->FoB n (gtF s q)/\atI (s.2.2.map fmT) q=some (fmT (gtF s q)):=fun {q} hq=>by
  obtain⟨h1,h2⟩:=pz hs hq.1 hq.2;exact⟨⟨h1.le (aE _) hB,hn⟩,at_i hq.1 (by rw[ak,h2];rfl)⟩
 cases r with
 | put a b=>cases rk;ext;exact⟨_,rfl,au q⟩
 | copy a b=>cases rk;ext;exact eS (bx ok.2).2 (au q)
 | plus a b c =>
  cases rk;ext;refine eS (bx ok.2.1).2 ?_;ext;refine eS (bx ok.2.2).2 ?_;ext;exact⟨n,_,_,rfl,(bx ok.2.1).1,(bx ok.2.2).1,au q⟩
 | less a b c =>
  cases rk;ext;refine eS (bx ok.2.1).2 ?_;ext;refine eS (bx ok.2.2).2 ?_;ext;exact⟨n,_,_,rfl,(bx ok.2.1).1,(bx ok.2.2).1,au q⟩
 | times a b c =>
  cases rk;ext;refine eS (bx ok.2.1).2 ?_;ext;exact⟨n,_,_,rfl,(bx ok.2.1).1,bo ok.2.2 (by decide +kernel),au q⟩
 | _=>cases rk
def Zlh:Pre:=fun ts G k=>∃ fr s r x p t,ts=[x,rowT r]/\SfL G x fr s/\fr.length<=100/\(r=.zero p t\/r=.below p t)/\0<=p/\p<s.2.2.length/\k (.lst ((cH fr s (if r.goes (gtF s p).1=true then t else s.2.1+1)).map sfT)) G
def lb{s:SF}{p:Int}(p0:0<=p)(p1:p<s.2.2.length):atI (s.2.2.map fmT) p=some (fmT (gtF s p)):=at_i p0 (by
 rw[ak];unfold gtF;rw[cJ,aC (by lia)];rfl)
def ZnN:tq.C "tested" 2 ["frames","row"] Zlh:=by
 refine tq.c1.okT ["frames","row","number"] fun ts G k nd hr hh=>?_;obtain⟨fr,s,r,x,p,t,rfl,hx,hl,hr2,p0,p1,q⟩:=hh;refine' go_G [some x,some (rowT r),none] rfl ?hb ?hg
 case hb=>exact(ag (cB (i:=2) nd rfl (Or.inl rfl) (x8 K (x8 K (x8 K (x8 K (pv 0) (ck cj aa)) aa) (x8 K (pv 1) aa)) aa)) (aj (ax (pyk (kw tq :) hr.m (x9 0 (oA (ft (cr (pyk (ZgB tq :) hr.m (x9 1 (wx 2)))) (x8 K (pv 1) aa) (aw bw (x8 K (x8 K (pv 0) (ck cj aa)) aa) aa)) ab))))))
 rcases hr2 with rfl|rfl
 all_goals
  ext;refine l_ix hx.last (fG _ _) ?_;ext;refine eS (lb p0 p1) ?_;ext;refine⟨_,_,rfl,?_⟩;ext;generalize hb:Rw.goes _ _=b at q ⊢;cases b with
  | true=>ext;exact⟨fr,s,_,x,rfl,hx,hl,au q⟩
  | false =>
   ext;refine l_ix hx.last (fG _ _) ?_;ext;exact⟨fr,s,_,x,rfl,hx,hl,au q⟩
def Zlr:Pre:=fun ts G k=>∃ Q s p g qs d,ts=[pgT Q,rowT (.call p g qs),.tup (s.2.2.map fmT)]/\0<=g/\Q[g.toNat]?=some d/\(∀ q∈qs,In0 q s.2.2.length)/\(qs.length:Int)<=d.boxes/\d.boxes<=1000/\k (sfT (eL Q s g qs)) G
def ZnP:tq.C "called" 2 ["program","row","forms"] Zlr:=by
 refine tq.c2.okT ["program","row","forms","handed","lacking"] fun ts G k nd hr hh=>?_;obtain⟨Q,s,p,g,qs,d,rfl,g0,hd,hq,hl,hl2,q⟩:=hh;refine' go_G [some (pgT Q),some (rowT (.call p g qs)),some (.tup (s.2.2.map fmT)),none,none] rfl ?hb ?hg
 case hb=>exact(ag (iW (i:=3) (LN:=["q"]) (FN:=["forms"]) (fr:=[2]) rfl nd rfl rfl (dE (by rfl)) (dL (K:=K) rfl (x8 K (pv 1) aa)) (fun _ _ _ _ _ _=>(pyb 0)) (fun _ _ _ _ _ _=>dI) (fun _ _ _ _ _ _=>(x8 K (pv 1) (pv 0)))) (ag (cZ (i:=4) nd rfl (Or.inl rfl) (aw dj (x8 K (x8 K (pv 0) (x8 K (pv 1) aa)) aa) (aG (bc (K:=K) rfl) (by rfl) tq.b_len bf (wx 3)))) (aj (ax (av (aH (x8 K (pv 1) aa) (ah aa (aM (du (fh (K:=K) rfl) (by rfl) tq.b_tuple di (bK (aw ff (pv 3) (aw oz (bt (aM (pyk (qf tq :) hr.m (ah aa ab)) ab)) (pv 4))) ab)) ab))))))))
 ext;refine cQ (fun Γ'=>∃ a,Γ'=[a,some (.tup (s.2.2.map fmT))]) ?_;ext;refine⟨_,rfl,?_⟩;rw[l6];refine⟨by rw[af];lia,trivial,⟨none,rfl⟩,(qs.map (gtF s)).map fmT,by simp,?_,?_⟩
 .rintro i x y Γ' hx hy ⟨a,rfl⟩;rw[ak] at hx hy;rw[ak] at hy;obtain⟨z,ez,rfl⟩:=bh.mp hx;rw[ez] at hy;cases hy;have hz:=hq z (aF ez);ext;refine⟨⟨_,rfl⟩,rfl,?_⟩;ext;exact eS (lb hz.1 hz.2) ⟨rfl,rfl⟩
 ext;refine aW (at_i g0 (by rw[ak,hd];rfl)) ?_;ext;refine⟨_,rfl,?_⟩;ext;rw[af,af];refine l_rep (by lia) (by lia) ?_;ext;refine fz si_l si_l (by rw[af,af,iC];lia) ?_;ext;refine fe sg_l (fun _=>nofun) ?_;ext;have e:(qs.map (gtF s)).map fmT++List.replicate (d.boxes-qs.length).toNat (fmT (0,[]))=(qs.map (gtF s)++List.replicate (iP Q g-qs.length).toNat (0,[])).map fmT:=by
  have eb:iP Q g=d.boxes:=by unfold iP;rw[hd];rfl
  rw[aY,map_replicate,eb]
 rw[e];exact au q
structure SlOk(Q:List Df)(n B:Nat)(fr:List SF)(s:SF):Prop where
 pk:PgK Q
 f:FrsOk Q n B fr s
 b:B<=10^900
 n:n<64
def Zlj:Pre:=fun ts G k=>∃ Q n B fr s x,ts=[pgT Q,x]/\SfL G x fr s/\SlOk Q n B fr s/\k (optT (cP Q fr s)) G
def sc_silent:FnScope ["program","frames","row","forms","call"] ["program","frames"] (bG oO):=by walk_at"fs"
def ZnO:tq.C "silent" 5 ["program","frames"] Zlj:=by
 refine tq.c3.okG sc_silent (by walk_at"lnx") fun f cdv A outer s H E ts G' k hr hh=>?_;have nd:=sc_silent.nd;obtain⟨Q,n,Bd,fr,s,x,rfl,hx,⟨PK,fo,hB,hn⟩,q⟩:=hh;refine' go_G [some (pgT Q),some x,none,none,none] rfl ?hb ?hg
 case hb=>exact(ag (bE (i:=2) nd rfl (Or.inl rfl) (pyk (kW tq :) hr.m (x9 0 (aH (x8 K (pv 1) (ck cj aa)) ab)))) (ag (cB (i:=3) nd rfl (Or.inl rfl) (x8 K (x8 K (pv 1) (ck cj aa)) aa)) (ag (aL (aB (k_in (K:=K) rfl) (x8 K (pv 2) aa) (ZpI (K:=K) (by rfl) tq.c_RECKONINGS) (by with_unfolding_all rfl)) (aj (ax (pyk (oU tq :) hr.m (x9 1 (aH (x8 K (pv 2) aa) (aM (pyk (Zke tq :) hr.m (x9 2 (wx 3))) ab)))))) aO) (ag (aL (aB ba (x8 K (pv 2) aa) aD (aA _)) (aj (ax (pyk (kw tq :) hr.m (x9 1 (aH (x8 K (pv 2) aa) ab))))) aO) (ag (aL (PW.pt (bV (aB (k_in (K:=K) rfl) (x8 K (pv 2) aa) (av (ah aD (ah aD ab))) (by with_unfolding_all rfl)) (cF (cr (pyk (Zkf tq :) hr.m (aH (x8 K (pv 3) (x8 K (pv 2) aa)) ab)))))) (aj (ax (pyk (ZnN tq :) hr.m (x9 1 (wx 2))))) aO) (ag (aL (PW.pt (bV (aB ba (x8 K (pv 2) aa) aD (aA _)) (cF (aB dM (aG (bc (K:=K) rfl) (by rfl) tq.b_len bf (wx 1)) (ku (by rfl) tq.c_MOST_SIGN_FRAMES) (aA _))))) (aj (ax (aw ff (pv 1) (bt (aM (pyk (ZnP tq :) hr.m (x9 0 (x9 2 (wx 3)))) ab))))) aO) (ag (aL (PW.pt (bV (aB ba (x8 K (pv 2) aa) aD (aA _)) (cF (aB eQ (aG (bc (K:=K) rfl) (by rfl) tq.b_len bf (wx 1)) aa (aA _))))) (ag (bE (i:=4) nd rfl (Or.inl rfl) (pyk (kW tq :) hr.m (x9 0 (aH (x8 K (pv 1) (ck cj aa)) ab)))) (aj (ax (pyk (oU tq :) hr.m (aH (cO (k_sl (K:=K) rfl) (pv 1) cL (cK (ck cj aa))) (aH (x8 K (pv 4) aa) (aH (x8 K (pv 3) (x8 K (pv 2) aa)) ab))))))) aO) (aj (ax dF)))))))))
 have hs:=fo.all s (by simp);obtain⟨d,r,hd,h2,hrow,h4,h0,h3,h5⟩:=eE hs;have D:=PK.ok.2.2 d hd;have ok:=D.rows r (aF h4);rw[<-h5] at ok;have few:=fo.few;have hb8:=PK.b d hd;have len:SqG G' x (fr.map sfT++[sfT s]):=hx.last;unfold cP at q;rw[hrow] at q;ext;refine l_ix len (fG _ _) ?_;ext;refine⟨Q,s,r,rfl,h0,h3,hrow,?_⟩;ext;refine l_ix len (fG _ _) ?_;have wb:∀ {p:Int} {f:Fm} {k:T->GH->Prop},In0 p s.2.2.length->k (.lst ((fF fr s p f).map sfT)) G'->vE [x,.int p,fmT f] G' k:=fun {p f k} hp q=>⟨fr,s,p,f,x,rfl,hx,by lia,hp.1,hp.2,by lia,q⟩;cases r with
 | put a b=>ext;refine⟨Q,n,Bd,s,_,_,_,_,rfl,hs,hB,hn,ok,rfl,?_⟩;ext;exact wb ok.1 (au q)
 | copy a b=>ext;refine⟨Q,n,Bd,s,_,_,_,_,rfl,hs,hB,hn,ok,rfl,?_⟩;ext;exact wb ok.1 (au q)
 | plus a b c=>ext;refine⟨Q,n,Bd,s,_,_,_,_,rfl,hs,hB,hn,ok,rfl,?_⟩;ext;exact wb ok.1 (au q)
 | less a b c=>ext;refine⟨Q,n,Bd,s,_,_,_,_,rfl,hs,hB,hn,ok,rfl,?_⟩;ext;exact wb ok.1 (au q)
 | times a b c=>ext;refine⟨Q,n,Bd,s,_,_,_,_,rfl,hs,hB,hn,ok,rfl,?_⟩;ext;exact wb ok.1 (au q)
 | take a=>ext;refine bv (ss:=["zero","below"]) sg_t ?_;ext;exact au q
 | tell a=>ext;refine bv (ss:=["zero","below"]) sg_t ?_;ext;exact au q
 | jump t=>ext;exact⟨fr,s,t,x,rfl,hx,by lia,au q⟩
 | zero p t =>
  ext;refine bv (ss:=["zero","below"]) sg_t ?_;ext;refine eS (lb ok.1.1 ok.1.2) ?_;ext;refine⟨_,rfl,?_⟩;ext;dsimp only [bR] at q;refine bU (fun h=>?_) (fun h=>?_)
  .rw[am h] at q;ext;refine ⟨fr,s,_,x,p,t,rfl,hx,by lia,.inl rfl,ok.1.1,ok.1.2,?_⟩;have e:(if (Rw.zero p t).goes (gtF s p).1=true then t else s.2.1+1)=if (gtF s p).1=0 then t else s.2.1+1:=by
    show (if decide ((gtF s p).1=0)=true then t else _)=_;by_cases h:(gtF s p).1=0 <;> simp[h]
   rw[e];exact au q
  .rw[ao h] at q;ext;exact au q
 | below p t =>
  ext;refine bv (ss:=["zero","below"]) sg_t ?_;ext;refine eS (lb ok.1.1 ok.1.2) ?_;ext;refine⟨_,rfl,?_⟩;ext;dsimp only [bR] at q;refine bU (fun h=>?_) (fun h=>?_)
  .rw[am h] at q;ext;refine ⟨fr,s,_,x,p,t,rfl,hx,by lia,.inr rfl,ok.1.1,ok.1.2,?_⟩;have e:(if (Rw.below p t).goes (gtF s p).1=true then t else s.2.1+1)=if (gtF s p).1 < 0 then t else s.2.1+1:=by
    show (if decide ((gtF s p).1<0)=true then t else _)=_;by_cases h:(gtF s p).1<0 <;> simp[h]
   rw[e];exact au q
  .rw[ao h] at q;ext;exact au q
 | call p g qs =>
  ext;refine bv (ss:=["zero","below"]) sg_t ?_;ext;refine cu len ?_;ext;dsimp only [bR] at q;rw[aJ,af,eA];refine bU (fun h=>?_) (fun h=>?_)
  .rw[am (by lia)] at q;ext;obtain ⟨d2,g0,hg,hq⟩:=ok.2.1;have D2:=PK.ok.2.2 d2 (aF hg);refine ⟨Q,s,p,g,qs,d2,rfl,g0,hg,ok.2.2,by rw[hq];exact D2.t.2,by have:=PK.b d2 (aF hg);lia,?_⟩;ext;refine fz hx si_l (by rw[af,aJ];simp;lia) ?_;have e:(fr++[s]).map sfT++[sfT (eL Q s g qs)]=(fr++[s,eL Q s g qs]).map sfT:=by simp
   rw[e];exact au q
  .rw[ao (by lia)] at q;ext;exact au q
 | back p =>
  ext;refine bv (ss:=["zero","below"]) sg_t ?_;ext;refine cu len ?_;ext;dsimp only [bR] at q;rw[aJ,af,eA];cases hl:fr.getLast? with
  | none =>
   rw[hl] at q;rw[getLast?_eq_none_iff.mp hl];ext;exact au q
  | some c =>
   rw[hl] at q;obtain⟨ys,rfl⟩:=gJ.mp hl;rw[aJ,eA];refine bU (fun h=>?_) (fun h=>absurd h (by lia));have hc:=fo.all c (by simp);obtain⟨p2,g,qs,hcall⟩:=fo.call c (by simp);obtain⟨dc,rc,hdc,h2c,hrc,h4c,h0c,h3c,h5c⟩:=eE hc;rw[hcall] at hrc;cases hrc;have okc:=(PK.ok.2.2 dc hdc).rows _ (aF h4c);rw[<-h5c] at okc;dsimp only at q;rw[gq,hcall] at q;have len2:SqG G' x (ys.map sfT++[sfT c,sfT s]):=by
    have:=len;rw[aY,cv] at this;exact this
   ext;refine l_ix len2 (Zqp _ _ _) ?_;ext;refine⟨Q,c,_,rfl,h0c,h3c,hcall,?_⟩;ext;refine i7 hx ?_;rw[hx.cut];ext;refine eS (lb ok.1 ok.2) ?_;ext;have h8:=PK.b dc hdc;rw[aJ] at few;exact⟨ys,c,p2,gtF s p,_,rfl,si_l,by lia,okc.1.1,okc.1.2,by lia,au q⟩
def jB(fl:List Fm)(s:SF):SF:=(s.1,s.2.1,s.2.2.map fun f=>bF f fl)
def Zlq:Pre:=fun ts G k=>∃ (fr:List SF) (fl:List Fm) (x y:T) (m:Nat),ts=[x,y]/\SqI G x (fr.map sfT)/\SqI G y (fl.map fmT)/\fr.length<=1000/\(∀ s∈fr,s.2.2.length<=1000/\∀ f∈s.2.2,FoB fl.length f)/\m<64/\(∀ g∈fl,FoB m g)/\k (.lst ((fr.map (jB fl)).map sfT)) G
def xt:tq.C "filled" 3 ["frames","forms"] Zlq:=by
 refine tq.c4.okT ["frames","forms"] fun ts G k nd hr hh=>?_;obtain⟨fr,fl,x,y,m,rfl,hx,hy,hl,hf,hm,hg,q⟩:=hh;refine' go_G [some x,some y] rfl ?hb ?hg
 case hb=>exact(aj (ax (fS (LN:=["f","at","boxes"]) (FN:=["forms"]) (fr:=[1]) rfl (dE (by rfl)) (eU (K:=K) rfl (pv 0)) (fun _ _ _ _ _ _=>(cM (K:=K) (n:=3) rfl rfl (aV (pyb 0) (aV (pyb 1) (aV (pyb 2) cA))))) (fun _ _ _ _ _ _=>dI) (fun cl C fp pins s H=>(av (x9 0 (x9 1 (aM (du (fh (K:=K) rfl) (by rfl) tq.b_tuple di (dW (pyc ["form"] ["forms"] [3] (dL (K:=K) rfl (pv 2)) (fun _ _ _ _ _ _=>(pyk (sf tq :) hr.m (x9 0 (wx 1))))) ab)) ab))))))))
 refine k7 ?_;refine cQ (fun Γ'=>Ex3 fun a b c=>Γ'=[a,b,c,some y]) ?_;ext;refine⟨_,hx,by rw[af];lia,hx,⟨none,none,none,rfl⟩,(fr.map (jB fl)).map sfT,by simp,?_,au q⟩;rintro i z y2 Γ' hz hy2 ⟨a,b,c,rfl⟩;rw[ak] at hz hy2;rw[ak] at hy2;obtain⟨s,es,rfl⟩:=bh.mp hz;rw[es] at hy2;cases hy2;obtain⟨hl2,hfs⟩:=hf s (aF es);refine cR rfl ?_;ext;refine⟨⟨_,_,_,rfl⟩,rfl,?_⟩;ext;refine cQ (fun Γ'=>∃ a,Γ'=[a,some y]) ?_;ext;refine⟨_,rfl,by rw[af];lia,trivial,⟨none,rfl⟩,(s.2.2.map fun f=>bF f fl).map fmT,by simp,?_,?_⟩
 .rintro j z2 y3 Γ2 hz2 hy3 ⟨a2,rfl⟩;rw[ak] at hz2 hy3;rw[ak] at hy3;obtain⟨f,ef,rfl⟩:=bh.mp hz2;rw[ef] at hy3;cases hy3;ext;refine⟨⟨_,rfl⟩,rfl,?_⟩;ext;exact⟨_,m,f,fl,y,rfl,hy,hfs f (aF ef),rfl,hm,hg,rfl,rfl⟩
 .ext;refine fe sg_l (fun _=>nofun) ?_;ext;exact⟨rfl,rfl⟩
def Zh1:Pre:=fun ts G k=>∃ i:Int,ts=[.int i]/\k (.bl true) G
def mO:tq.C "is_whole" 1 ["thing"] Zh1:=by
 refine tq.c5.okT ["thing"] fun ts G k nd hr hh=>?_;obtain⟨i,rfl,q⟩:=hh;refine' go_G [some (.int i)] rfl ?hb ?hg
 case hb=>exact(aj (ax (jR (aG eM (by rfl) tq.b_isinstance dY (x9 0 (bA (dD (v:=.ty "int") (by rfl) tq.b_int mY rfl) ab))) (jf (pe_not (aG eM (by rfl) tq.b_isinstance dY (x9 0 (bA (dD (v:=.ty "bool") (by rfl) tq.b_bool pb rfl) ab))))))))
 ext;exact au q
def Zlo:Pre:=fun ts G k=>∃ a b:T,ts=[.tup [a,b]]/\k (.bl true) G
def uA:tq.C "is_two" 1 ["thing"] Zlo:=by
 refine tq.c6.okT ["thing"] fun ts G k nd hr hh=>?_;obtain⟨a,b,rfl,q⟩:=hh;refine' go_G [some (.tup [a,b])] rfl ?hb ?hg
 case hb=>exact(aj (ax (jR (aG eM (by rfl) tq.b_isinstance dY (x9 0 (bA (dD (v:=.ty "tuple") (by rfl) tq.b_tuple di rfl) ab))) (jf (dJ ba (aG (bc (K:=K) rfl) (by rfl) tq.b_len bf (wx 0)) aa (aA _))))))
 ext;exact au q
def GdF(m:Nat)(g:Fm):Prop:=Cano g/\g.2.length<=1000/\∀ p∈g.2,0<=p.2/\p.2<m
def gd_fo{m:Nat}{g:Fm}(h:Fo m B g)(c:Cano g)(hm:m<=1000):GdF m g:=⟨c,by have:=h.len;lia,h.w⟩
def ZjV:Pre:=fun ts G k=>∃ (g:Fm) (m:Nat),ts=[fmT g,.int m]/\GdF m g/\k (.bl true) G
def vV:tq.C "is_form" 2 ["thing","many"] ZjV:=by
 refine tq.c7.okT ["thing","many","least","pair"] fun ts G k nd hr hh=>?_;obtain⟨g,m,rfl,⟨cn,hl,hw⟩,q⟩:=hh;refine' go_G [some (fmT g),some (.int m),none,none] rfl ?hb ?hg
 case hb=>exact(ag (aL (dq (PW.pt (bV (cr (pyk (uA tq :) hr.m (wx 0))) (bV (cr (pyk (mO tq :) hr.m (aH (x8 K (pv 0) aa) ab))) (cF (cr (aG eM (by rfl) tq.b_isinstance dY (aH (x8 K (pv 0) aa) (bA (dD (v:=.ty "tuple") (by rfl) tq.b_tuple di rfl) ab))))))))) (aj (ax dw)) aO) (ag (cp (i:=2) nd rfl (Or.inl rfl) aa) (ag (cy PassesOwn.never rfl (dL (K:=K) rfl (x8 K (pv 0) aa)) (pyn 3 nd) (ag (aL (dq (PW.pt (bV (cr (pyk (uA tq :) hr.m (wx 3))) (bV (cr (pyk (mO tq :) hr.m (aH (x8 K (pv 3) aa) ab))) (cF (cr (pyk (mO tq :) hr.m (aH (x8 K (pv 3) aa) ab)))))))) (aj (ax dw)) aO) (ag (aL (PW.pt (fT (aB ba (x8 K (pv 3) aa) aa (aA _)) (gF (dq (ie fg dM (pv 2) (x8 K (pv 3) aa) (pv 1)))))) (aj (ax dw)) aO) (aj (cZ (i:=2) nd rfl (Or.inl rfl) (aw bw (x8 K (pv 3) aa) aa)))))) (aj (ax dw)))))
 ext;refine⟨_,_,rfl,?_⟩;ext;refine⟨_,rfl,?_⟩;ext;refine⟨_,rfl,fun i Γ' G'=>G'=G/\∃ (c:Int) (x:Option T),Γ'=[some (fmT g),some (.int m),some (.int c),x]/\∀ p∈g.2.drop i,c<=p.2,⟨rfl,0,_,rfl,fun p hp=>(hw p (mem_of_mem_drop hp)).1⟩,fun _ _ _ _=>trivial,?_,?_⟩
 .rintro i z Γ' G' hz ⟨rfl,c,x,rfl,hc⟩;rw[ak] at hz;obtain ⟨p,ep,rfl⟩:=bh.mp hz;have pm:=aF ep;obtain ⟨hi,ep2⟩:=aT.mp ep;have ed:g.2.drop i=p::g.2.drop (i+1):=by rw[<-ep2];exact drop_eq_getElem_cons hi
  have h0:=hw p pm;have h1:c<=p.2:=hc p (by rw[ed];exact aQ);have h2:p.1≠0:=cn.2 p pm;ext;refine⟨_,_,rfl,?_⟩;ext;refine⟨_,rfl,?_⟩;ext;refine⟨_,rfl,?_⟩;ext;rw[bz h2];ext;rw[aX h1];ext;rw[aX h0.2];ext;dsimp only;refine bQ ⟨rfl,p.2+1,_,rfl,fun q hq=>?_⟩;have pw:=(lI.mp (by rw[<-ed];exact cn.1.sublist (drop_sublist i g.2))).1 q hq;have pw:p.2<q.2:=pw;lia
 .rintro Γ' G' ⟨rfl,c,x,rfl,hc⟩;ext;exact au q
def kR{α:Type}{l:List α}:(l.map fun _=>true).all id=true:=by rw[jm];intro x hx;obtain⟨_,_,rfl⟩:=aU.mp hx;rfl
def Znj:Pre:=fun ts G k=>∃ (Q:List Df) (s t:SF) (p:Int) (qs:List Int),ts=[pgT Q,sfT s,sfT t]/\0<=s.1/\0<=s.2.1/\cf Q s.1 s.2.1=some (.call p t.1 qs)/\k (.bl true) G
def Zqn:tq.C "calls" 2 ["program","frame","after"] Znj:=by
 refine tq.c8.okT ["program","frame","after","row"] fun ts G k nd hr hh=>?_;obtain⟨Q,s,t,p,qs,rfl,h0,h3,hrow,q⟩:=hh;refine' go_G [some (pgT Q),some (sfT s),some (sfT t),none] rfl ?hb ?hg
 case hb=>exact(ag (bE (i:=3) nd rfl (Or.inl rfl) (pyk (kW tq :) hr.m (x9 0 (wx 1)))) (aj (ax (jR (dJ ba (x8 K (pv 3) aa) aD (aA _)) (jf (dJ ba (x8 K (pv 3) aa) (x8 K (pv 2) aa) (aA _)))))))
 ext;refine⟨Q,s,_,rfl,h0,h3,hrow,?_⟩;ext;rw[emb];ext;rw[aX rfl];exact au q
def Zgf:Pre:=fun ts G k=>∃ (Q:List Df) (n B:Nat) (t:SF),ts=[pgT Q,.int n,sfT t]/\PgK Q/\SfOk Q n B t/\n<=1000/\(∀ g∈t.2.2,Cano g)/\k (.bl true) G
def ZhA:tq.C "frame_fits" 3 ["program","many","frame"] Zgf:=by
 refine tq.c9.okT ["program","many","frame"] fun ts G k nd hr hh=>?_;obtain⟨Q,n,B',t,rfl,pk,ho,hn,cn,q⟩:=hh;obtain⟨d,r,hd,h2,hrow,h4,h0,h3,h5⟩:=eE ho;have b8:=gw pk ho;have hq1:=(aT.mp h2).1;have hq2:=(aT.mp h4).1;have eqf:(Q.map dfT)[t.1.toNat]?=some (dfT d):=by rw[ak,h2];rfl
 refine' go_G [some (pgT Q),some (.int n),some (sfT t)] rfl ?hb ?hg
 case hb=>exact(ag (aL (dq (PW.pt (bV (aB ba (aG (bc (K:=K) rfl) (by rfl) tq.b_len bf (wx 2)) aa (aA _)) (cF (ie fg dM aa (x8 K (pv 2) aa) (aG (bc (K:=K) rfl) (by rfl) tq.b_len bf (wx 0))))))) (aj (ax dw)) aO) (ag (aL (dq (ie fg dM aa (x8 K (pv 2) aa) (aG (bc (K:=K) rfl) (by rfl) tq.b_len bf (aH (x8 K (x8 K (pv 0) (x8 K (pv 2) aa)) aa) ab)))) (aj (ax dw)) aO) (aj (ax (jR (dJ ba (aG (bc (K:=K) rfl) (by rfl) tq.b_len bf (aH (x8 K (pv 2) aa) ab)) (x8 K (x8 K (pv 0) (x8 K (pv 2) aa)) aa) (aA _)) (jf (aG (ja (K:=K) rfl rfl) (by rfl) tq.b_all iO (dW (pyc ["form"] ["many"] [1] (dL (K:=K) rfl (x8 K (pv 2) aa)) (fun _ _ _ _ _ _=>(pyk (vV tq :) hr.m (x9 0 (wx 1))))) ab))))))))
 ext;rw[aX h0];ext;rw[af,aX (by lia)];ext;rw[aX h3];ext;refine aW (at_i h0 eqf) ?_;ext;rw[af,aX (by lia)];ext;rw[af];refine aW (at_i h0 eqf) ?_;ext;rw[aX h5];ext;refine cQ (fun Γ'=>∃ c,Γ'=[c,some (.int n)]) ?_;ext;refine⟨_,rfl,by rw[af];lia,trivial,⟨_,rfl⟩,(t.2.2.map fun _=>true).map T.bl,by rw[af,af,af],?_,?_⟩
 .rintro i z y Γ' hz hy ⟨c,rfl⟩;rw[ak] at hz;obtain⟨g,eg,rfl⟩:=bh.mp hz;rw[ak,ak,eg] at hy;cases hy;have gm:=aF eg;ext;refine⟨⟨_,rfl⟩,rfl,?_⟩;ext;exact⟨g,n,rfl,gd_fo (ho.fm g gm) (cn g gm) hn,rfl,rfl⟩
 ext;rw[kR];exact au q
def Zgc:Pre:=fun ts G k=>∃ (Q:List Df) (n B:Nat) (f:List SF) (s:SF),ts=[pgT Q,.int n,.lst ((f++[s]).map sfT)]/\PgK Q/\n<=40/\FrsOk Q n B f s/\bY (f++[s])/\Chn Q (plcF (f++[s]))/\k (.bl true) G
def sc_paper_fits:FnScope ["program","many","paper"] ["program","many","paper"] (bG oR):=by walk_at"fs"
def Zhx:tq.C "paper_fits" 4 ["program","many","paper"] Zgc:=by
 refine tq.d0.okG sc_paper_fits (by walk_at"lnx") fun f cdv A outer s H E ts G' k hr hh=>?_;have nd:=sc_paper_fits.nd;obtain⟨Q,n,B',f,s,rfl,pk,hn,fo,cn,ch,q⟩:=hh;have few:=fo.few;have hl:(f++[s]).length=f.length+1:=by rw[aJ];rfl
 refine' go_G [some (pgT Q),some (.int n),some (.lst ((f++[s]).map sfT))] rfl ?hb ?hg
 case hb=>exact(ag (aL (dq (PW.pt (bV (ie fg fg aa (pv 1) (ku (by rfl) tq.c_MOST_WORDS)) (cF (ie fg fg aa (aG (bc (K:=K) rfl) (by rfl) tq.b_len bf (wx 2)) (ku (by rfl) tq.c_MOST_SIGN_FRAMES)))))) (aj (ax dw)) aO) (ag (aL (dq (cr (aG (ja (K:=K) rfl rfl) (by rfl) tq.b_all iO (dW (pyc ["frame"] ["program","many"] [0,1] (eU (K:=K) rfl (pv 2)) (fun _ _ _ _ _ _=>(pyk (ZhA tq :) hr.m (x9 1 (x9 2 (wx 0)))))) ab)))) (aj (ax dw)) aO) (aj (ax (aG (ja (K:=K) rfl rfl) (by rfl) tq.b_all iO (dW (pyc ["k"] ["program","paper"] [0,2] (cV rfl tq.b_range (bK (aw dj (aG (bc (K:=K) rfl) (by rfl) tq.b_len bf (wx 2)) aa) ab)) (fun _ _ _ _ _ _=>(pyk (Zqn tq :) hr.m (x9 1 (aH (x8 K (pv 2) (pv 0)) (aH (x8 K (pv 2) (aw bw (pv 0) aa)) ab)))))) ab))))))
 ext;rw[aX (by lia)];ext;rw[af,hl,aX (by lia)];ext;rw[aX (by lia)];ext;refine cQ (fun Γ'=>∃ c,Γ'=[c,some (pgT Q),some (.int n)]) ?_;ext;refine⟨_,si_l,by rw[af,hl];lia,si_l,⟨_,rfl⟩,((f++[s]).map fun _=>true).map T.bl,by rw[af,af,af],?_,?_⟩
 .rintro i z y Γ' hz hy ⟨c,rfl⟩;rw[ak] at hz;obtain⟨t,et,rfl⟩:=bh.mp hz;rw[ak,ak,et] at hy;cases hy;have tm:=aF et;ext;refine⟨⟨_,rfl⟩,rfl,?_⟩;ext;exact⟨Q,n,B',t,rfl,pk,fo.all t tm,by lia,cn t tm,rfl,rfl⟩
 ext;rw[kR];ext;refine cQ (fun Γ'=>∃ c,Γ'=[c,some (pgT Q),some (.lst ((f++[s]).map sfT))]) ?_;ext;rw[af,hl];ext;have hrl:(rngT (((f.length+1:Nat):Int)-1).toNat).length=f.length:=by unfold rngT;rw[af,dC];lia
 refine⟨_,rfl,by lia,by lia,by rw[hrl];lia,trivial,⟨_,rfl⟩,(f.map fun _=>true).map T.bl,by rw[af,af,hrl],?_,?_⟩
 .rintro i z y Γ' hz hy ⟨c,rfl⟩;have hi:i < f.length:=by have:=(aT.mp hz).1;rwa [hrl] at this
  have ez:z=.int (i:Int):=by
   unfold rngT at hz;rw[ak,kh (by lia)] at hz;cases hz;rfl
  subst ez;rw[ak,ak,aC hi] at hy;cases hy;have e1:(f++[s])[i]?=some ((f++[s])[i]'(by lia)):=aC _;have e2:(f++[s])[i+1]?=some ((f++[s])[i+1]'(by lia)):=aC _;generalize (f++[s])[i]'(by lia)=a at e1;generalize (f++[s])[i+1]'(by lia)=b at e2;obtain⟨d,r,_,_,_,_,h0,h3,_⟩:=eE (fo.all a (aF e1));obtain⟨p,qs,hcall⟩:=ch i (a.1,a.2.1) (b.1,b.2.1) (by unfold plcF;rw[ak,e1];rfl) (by unfold plcF;rw[ak,e2];rfl);ext;refine⟨⟨_,rfl⟩,rfl,?_⟩;ext;refine aW (cG (n:=i) rfl (by rw[ak,e1];rfl)) ?_;ext;refine aW (cG (n:=i+1) (by lia) (by rw[ak,e2];rfl)) ?_;ext;exact⟨Q,a,b,p,qs,rfl,h0,h3,hcall,rfl,rfl⟩
 ext;rw[kR];exact au q
def Zg0:Pre:=fun ts G k=>∃ (x:T) (kd:Str),ts=[x,.str kd]/\((kd="number"/\∃ i:Int,x=.int i)\/(kd="edge"/\∃ a b c:T,x=.tup [a,b,c]))/\k (.bl true) G
def Zim:tq.C "part_fits" 2 ["part","kind"] Zg0:=by
 refine tq.d1.okT ["part","kind"] fun ts G k nd hr hh=>?_;obtain⟨x,kd,rfl,h,q⟩:=hh;refine' go_G [some x,some (.str kd)] rfl ?hb ?hg
 case hb=>exact(ag (aL (aB ba (pv 1) aD (aA _)) (aj (ax (pyk (mO tq :) hr.m (wx 0)))) aO) (aj (ax (jR (aG eM (by rfl) tq.b_isinstance dY (x9 0 (bA (dD (v:=.ty "tuple") (by rfl) tq.b_tuple di rfl) ab))) (jf (dJ ba (aG (bc (K:=K) rfl) (by rfl) tq.b_len bf (wx 0)) aa (aA _)))))))
 rcases h with ⟨rfl,i,rfl⟩|⟨rfl,a,b,c,rfl⟩
 .ext;exact⟨_,rfl,au q⟩
 .ext;exact au q
inductive DdV:T->Str->List T->List T->Prop
 | leave:DdV (.tup [.str "leave"]) "leave" [] []
 | go {e:T}:DdV (.tup [.str "go",e]) "go" [e] [e]
 | tell {e:T}:DdV (.tup [.str "tell",e]) "tell" [e] [e]
 | take {e:T}:DdV (.tup [.str "take",e]) "take" [e] [e]
 | test {a b:T}:DdV (.tup [.str "test",a,b]) "test" [a,b] [a,b]
 | hold {w c:Int} {e:T}:DdV (.tup [.str "hold",.int w,.int c,e]) "hold" [.int w,.int c,e] [e]
def Zh3:Pre:=fun ts G k=>∃ (dd:T) (wd:Str) (ps es:List T),ts=[dd]/\DdV dd wd ps es/\k (.tup es) G
def rW:tq.C "edges_of" 1 ["deed"] Zh3:=by
 refine tq.d2.okT ["deed"] fun ts G k nd hr hh=>?_;obtain⟨dd,wd,ps,es,rfl,h,q⟩:=hh;refine' go_G [some dd] rfl ?hb ?hg
 case hb=>exact(ag (aL (aB ba (x8 K (pv 0) aa) aD (aA _)) (aj (ax (cO (eP (K:=K) rfl) (pv 0) (cK aa) cL))) aO) (aj (ax (cO (eP (K:=K) rfl) (pv 0) (cK aa) cL))))
 cases h with
 | hold =>
  ext;refine eN ?_;rw[je (by decide) (by simp)];exact au q
 | _ =>
  ext;refine eN ?_;rw[je (by decide) (by simp)];exact au q
inductive OwnV(n:Nat):T->List Fm->Prop
 | plain {dd:T} {wd:Str} {ps es:List T} (h:DdV dd wd ps es) (h1:wd≠"take") (h2:wd≠"hold"):OwnV n dd (ay n)
 | take {e:T}:OwnV n (.tup [.str "take",e]) (ay (n+1))
 | hold {w:Nat} {c:Int} {e:T} (hw:w<n):OwnV n (.tup [.str "hold",.int w,.int c,e]) (cU n w c)
def Zg1:Pre:=fun ts G k=>∃ (n:Nat) (p dd:T) (own:List Fm),ts=[.tup [.int n,p,dd]]/\n<=1000/\OwnV n dd own/\k (.lst (own.map fmT)) G
def ub(n:Nat):ay (n+1)=ay n++[ofW n]:=by unfold ay;rw[range_succ,aY];rfl
def Zin:tq.C "own_words" 2 ["stand"] Zg1:=by
 refine tq.d3.okT ["stand","deed","words"] fun ts G k nd hr hh=>?_;obtain⟨n,p,dd,own,rfl,hn,ho,q⟩:=hh;refine' go_G [some (.tup [.int n,p,dd]),none,none] rfl ?hb ?hg
 case hb=>exact(ag (cB (i:=1) nd rfl (Or.inl rfl) (x8 K (pv 0) aa)) (ag (iW (i:=2) (LN:=["w"]) (FN:=[]) (fr:=[]) rfl nd rfl rfl (dE (by rfl)) (cV rfl tq.b_range (aH (x8 K (pv 0) aa) ab)) (fun _ _ _ _ _ _=>(pyb 0)) (fun _ _ _ _ _ _=>dI) (fun _ _ _ _ _ _=>(pyk (sF tq :) hr.m (wx 0)))) (ag (aL (aB ba (x8 K (pv 1) aa) aD (aA _)) (aj (eC (k_bm (K:=K) rfl PySem.F.plainAttrs_list PySem.F.slot_list_append PySem.F.type_list_append gK (pv 2) (aM (pyk (sF tq :) hr.m (aH (x8 K (pv 0) aa) ab)) ab)))) aO) (ag (aL (aB ba (x8 K (pv 1) aa) aD (aA _)) (aj (bX (pyk (qf tq :) hr.m (aH (x8 K (pv 1) aa) ab)) (cS (pv 2) (x8 K (pv 1) aa) cW))) aO) (aj (ax (pv 2)))))))
 have wl:(ay n).length=n:=by unfold ay;rw[af,dC]
 ext;refine wX (fun Γ'=>∃ c,Γ'=[c]) ?_;ext;have hrl:(rngT (n:Int).toNat).length=n:=by unfold rngT;simp
 refine⟨n,rfl,by lia,by lia,by rw[hrl];lia,trivial,⟨_,rfl⟩,(ay n).map fmT,by rw[af,wl,hrl],?_,fun wa nwa=>?_⟩
 .rintro i z y Γ' hz hy ⟨c,rfl⟩;unfold rngT at hz;unfold ay at hy;rw[bB,ak] at hz;rw[ak,ak] at hy;obtain⟨j,ej,rfl⟩:=bh.mp hz;rw[ej] at hy;cases hy;ext;refine⟨⟨_,rfl⟩,rfl,?_⟩;ext;exact⟨_,rfl,rfl,rfl⟩
 refine bH ?_;cases ho with
 | plain h h1 h2 =>
  cases h with
  | hold=>exact absurd rfl h2
  | take=>exact absurd rfl h1
  | _ =>
   ext;exact pE nwa (au q)
 | take =>
  ext;refine⟨ty_p gp_s,?_⟩;ext;refine⟨_,rfl,?_⟩;ext;refine gB gp_s (by rw[af,wl];lia) ?_;rw[gp_p];ext;rw[ub,aY] at q;exact pE nwa (au q)
 | @hold w c e hw =>
  ext;refine⟨_,rfl,?_⟩;ext;refine⟨wa,_,w,w,rfl,rfl,gp_s,kT rfl (by rw[af,wl];exact hw),?_⟩;rw[gp_p,<- iL];ext;exact pE nwa (au q)
inductive StaV(Q:List Df)(f:List SF)(s:SF)(own:List Fm):T->List (List SF)->Prop
 | go {e:T}:StaV Q f s own (.tup [.str "go",e]) [f++[s]]
 | hold {w c:Int} {e:T}:StaV Q f s own (.tup [.str "hold",.int w,.int c,e]) [f++[s]]
 | leave:StaV Q f s own (.tup [.str "leave"]) [f++[s]]
 | test {p t:Int} {a b:T} (hr:cf Q s.1 s.2.1=some (.zero p t)\/cf Q s.1 s.2.1=some (.below p t)):StaV Q f s own (.tup [.str "test",a,b]) [cH f s t,cH f s (s.2.1+1)]
 | tell {p:Int} {e:T} (hr:cf Q s.1 s.2.1=some (.tell p)):StaV Q f s own (.tup [.str "tell",e]) [cH f s (s.2.1+1)]
 | take {p:Int} {e:T} {g:Fm} (hr:cf Q s.1 s.2.1=some (.take p)) (hp:0<=p/\p<s.2.2.length) (hg:own.getLast?=some g):StaV Q f s own (.tup [.str "take",e]) [fF f s p g]
def ZgZ:Pre:=fun ts G k=>∃ (Q:List Df) (n N m B:Nat) (l:List SF) (f:List SF) (s:SF) (dd:T) (own:List Fm) (sts:List (List SF)),ts=[pgT Q,.tup [.int n,.lst (l.map sfT),dd],.lst (own.map fmT)]/\PgK Q/\l.length<=100/\(∀ t∈l,t.2.2.length<=100/\∀ g∈t.2.2,FoB own.length g)/\m<64/\(∀ g∈own,FoB m g)/\l.map (jB own)=f++[s]/\FrsOk Q N B f s/\StaV Q f s own dd sts/\k (.lst (sts.map fun l=>.lst (l.map sfT))) G
def Zik:tq.C "starts_of" 4 ["program","stand","own"] ZgZ:=by
 refine tq.d4.okT ["program","stand","own","frames","word","row","behind"] fun ts G k nd hr hh=>?_;obtain⟨Q,n,N,m,B',l,f,s,dd,own,sts,rfl,pk,hl,hf,hm,hg,efs,fo,hs,q⟩:=hh;obtain⟨d,r,hd,h2,hrow,h4,h0,h3,h5⟩:=eE (fo.all s (by simp));have few:=fo.few;have b8:=gw pk (fo.all s (by simp));refine' go_G [some (pgT Q),some (.tup [.int n,.lst (l.map sfT),dd]),some (.lst (own.map fmT)),none,none,none,none] rfl ?hb ?hg
 case hb=>exact(ag (bE (i:=3) nd rfl (Or.inl rfl) (pyk (xt tq :) hr.m (aH (x8 K (pv 1) aa) (wx 2)))) (ag (cB (i:=4) nd rfl (Or.inl rfl) (x8 K (x8 K (pv 1) aa) aa)) (ag (bE (i:=5) nd rfl (Or.inl rfl) (pyk (kW tq :) hr.m (x9 0 (aH (x8 K (pv 3) (ck cj aa)) ab)))) (ag (cZ (i:=6) nd rfl (Or.inl rfl) (aw bw (x8 K (x8 K (pv 3) (ck cj aa)) aa) aa)) (ag (aL (aB ba (pv 4) aD (aA _)) (aj (ax (bt (aM (pyk (kw tq :) hr.m (x9 3 (aH (x8 K (pv 5) aa) ab))) (aM (pyk (kw tq :) hr.m (x9 3 (wx 6))) ab))))) aO) (ag (aL (aB ba (pv 4) aD (aA _)) (aj (ax (bt (aM (pyk (kw tq :) hr.m (x9 3 (wx 6))) ab)))) aO) (ag (aL (aB ba (pv 4) aD (aA _)) (aj (ax (bt (aM (pyk (oU tq :) hr.m (x9 3 (aH (x8 K (pv 5) aa) (aH (x8 K (pv 2) (ck cj aa)) ab)))) ab)))) aO) (aj (ax (bt (wx 3)))))))))))
 have lastAt:atI ((f++[s]).map sfT) (-1)=some (sfT s):=by rw[aY];exact fG _ _
 have ar:∀ {t:Int} {k1:T->GH->Prop},k1 (.lst ((cH f s t).map sfT)) G->rZ [.lst ((f++[s]).map sfT),.int t] G k1:=fun {t k1} h=>⟨f,s,t,_,rfl,si_l,by lia,h⟩;ext;refine⟨l,own,_,_,m,rfl,si_l,si_l,by lia,fun t ht=>⟨by have:=(hf t ht).1;lia,(hf t ht).2⟩,hm,hg,?_⟩;rw[efs];refine bH ?_;cases hs with
 | go =>
  ext;refine aW lastAt ?_;ext;refine⟨Q,s,r,rfl,h0,h3,hrow,?_⟩;ext;refine aW lastAt ?_;ext;exact au q
 | hold =>
  ext;refine aW lastAt ?_;ext;refine⟨Q,s,r,rfl,h0,h3,hrow,?_⟩;ext;refine aW lastAt ?_;ext;exact au q
 | leave =>
  ext;refine aW lastAt ?_;ext;refine⟨Q,s,r,rfl,h0,h3,hrow,?_⟩;ext;refine aW lastAt ?_;ext;exact au q
 | @test p t a b hr2 =>
  ext;refine aW lastAt ?_;ext;refine⟨Q,s,r,rfl,h0,h3,hrow,?_⟩;ext;refine aW lastAt ?_;rw[hrow] at hr2;rcases hr2 with e|e <;> (injection e with e;subst e;ext;refine ar ?_;ext;refine ar ?_;ext;exact au q)
 | @tell p e hr2 =>
  ext;refine aW lastAt ?_;ext;refine⟨Q,s,r,rfl,h0,h3,hrow,?_⟩;ext;refine aW lastAt ?_;ext;refine ar ?_;ext;exact au q
 | @take p e g hr2 hp hgl =>
  ext;refine aW lastAt ?_;ext;refine⟨Q,s,r,rfl,h0,h3,hrow,?_⟩;ext;refine aW lastAt ?_;rw[hrow] at hr2;injection hr2 with e
  subst e;obtain⟨ys,eo⟩:=gJ.mp hgl;ext;have lo:atI (own.map fmT) (-1)=some (fmT g):=by rw[eo,aY];exact fG _ _
  refine aW lo ?_;ext;refine⟨f,s,p,g,_,by rw[emb],si_l,by lia,hp.1,hp.2,by lia,?_⟩;ext;exact au q
def Zfv:Pre:=fun ts G k=>∃ (Q:List Df) (n B rows:Nat) (f:List SF) (s:SF) (l:List SF),ts=[pgT Q,.lst ((f++[s]).map sfT),.int rows]/\PgK Q/\n<64/\10^60<=B/\rows<=200/\100^rows*B<=10^900/\FrsOk Q n B f s/\cz Q rows (f++[s])=some l/\k (.lst (l.map sfT)) G
theorem qx{Q : List Df} : ∀ {a b : Nat} {l l2 : List SF}, cz Q (a+b) l=some l2->∃ l1, cz Q a l=some l1/\cz Q b l1=some l2
  | 0, b, l, l2, h=>⟨l, rfl, by rwa [Nat.zero_add] at h⟩
  | a + 1, b, l, l2, h => by
    rw[show a+1+b=(a+b)+1 by lia,cz] at h;cases e:ce Q l with
    | none=>rw[e] at h; cases h
    | some l3 =>
      rw[e] at h;obtain⟨l1,h1,h2⟩:=qx (a:=a) (b:=b) (l:=l3) h;exact⟨l1, by rw[cz, e]; exact h1, h2⟩
theorem sW{Q : List Df}(pk : PgK Q){n : Nat} : ∀ {a B : Nat} {f : List SF} {s : SF} {l : List SF}, 10^60<=B->FrsOk Q n B f s->cz Q a (f++[s])=some l->∃ f2 s2, l=f2++[s2]/\FrsOk Q n (100^a*B) f2 s2
  | 0, B, f, s, l, _, fo, h => by
    cases h;exact⟨f,s,rfl,by rw[Nat.pow_zero,lN];exact fo⟩
  | a + 1, B, f, s, l, hB, fo, h => by
    rw[cz] at h;cases e:ce Q (f++[s]) with
    | none=>rw[e] at h; cases h
    | some l3 =>
      rw[e] at h;obtain⟨f3,s3,rfl,fo3⟩:=tV pk hB fo (by rw[<-iT];exact e);obtain⟨f4,s4,e4,fo4⟩:=sW pk (a:=a) (B:=100*B) (bo hB (Nat.le_mul_of_pos_left B (by decide))) fo3 h;exact⟨f4, s4, e4, by rw[Nat.pow_succ, Nat.mul_assoc]; exact fo4⟩
def ZgC:tq.C "behind_rows" 6 ["program","frames","rows"] Zfv:=by
 refine tq.d5.okT ["program","frames","rows","count"] fun ts G k nd hr hh=>?_;obtain⟨Q,n,B',rows,f,s,l,rfl,pk,hn,hB,hr2,hbig,fo,hgo,q⟩:=hh;refine' go_G [some (pgT Q),some (.lst ((f++[s]).map sfT)),some (.int rows),none] rfl ?hb ?hg
 case hb=>exact(ag (cy PassesOwn.never rfl (cV rfl tq.b_range (wx 2)) (pyn 3 nd) (ag (bE (i:=1) nd rfl (Or.inl rfl) (pyk (ZnO tq :) hr.m (x9 0 (wx 1)))) (aj (aL (aB qR (pv 1) dF (aA _)) (aj (ax dF)) aO)))) (aj (ax (pv 1))))
 have hrl:(rngT (rows:Int).toNat).length=rows:=by unfold rngT;simp
 ext;refine⟨rows,rfl,by lia,by lia,fun i Γ' G'=>G'=G/\∃ (l1:List SF) (c:Option T),cz Q i (f++[s])=some l1/\Γ'=[some (pgT Q),some (.lst (l1.map sfT)),some (.int rows),c],⟨rfl,_,_,rfl,rfl⟩,fun _ _ _ _=>trivial,?_,?_⟩
 .rintro i x Γ' G' hx ⟨rfl,l1,c,h1,rfl⟩;have hi:i < rows:=by have:=(aT.mp hx).1;rwa [hrl] at this
  obtain⟨f2,s2,rfl,fo2⟩:=sW pk hB fo h1;obtain⟨l3,h3,h4⟩:∃ l3,cP Q f2 s2=some l3/\cz Q (i+1) (f++[s])=some l3:=by
   rw[show rows=i+(1+(rows-i-1)) by lia] at hgo;obtain⟨l5,h5,h6⟩:=qx hgo;rw[h1] at h5;injection h5 with h5
   subst h5;obtain⟨l7,h7,_⟩:=qx h6;rw[cz] at h7;cases e:ce Q (f2++[s2]) with
   | none=>rw[e] at h7;cases h7
   | some l8=>exact⟨l8,by rw[<-iT];exact e,oB h1 e⟩
  have b9:100^i*B'<=10^900:=bo (gn _ (iK (by decide) (by lia))) hbig;ext;refine⟨Q,n,_,f2,s2,_,rfl,si_l,⟨pk,fo2,b9,hn⟩,?_⟩;rw[h3];ext;dsimp only;exact bQ ⟨rfl,l3,_,h4,rfl⟩
 .rintro Γ' G' ⟨rfl,l1,c,h1,rfl⟩;rw[hrl,hgo] at h1;cases h1;ext;exact au q
inductive RlK(m:Nat)(dd:T):Prop
 | mk (wd:Str) (ps es:List T) (_:DdV dd wd ps es) (_:(wd="go"\/wd="hold")->∃ (r:Nat) (x:T) (j:Nat),es=[.tup [.int r,x,.int j]]/\j<m):RlK m dd
def RlK.lt{m:Nat}{dd:T}(h:RlK m dd){j:Nat}(e:rlD dd=some j):j<m:=by
 obtain⟨wd,ps,es,hv,he⟩:=h;cases hv with
 | @go x =>
  obtain⟨r,y,i,ee,hi⟩:=he (.inl rfl);injection ee with ee _
  subst ee;rw[lZ] at e;split at e
  .cases e;exact hi
  .cases e
 | @hold w c x =>
  obtain⟨r,y,i,ee,hi⟩:=he (.inr rfl);injection ee with ee _
  subst ee;rw[qK] at e;split at e
  .cases e;exact hi
  .cases e
 | _=>rw[qW (by decide)] at e;cases e
def pr_led:Pre:=fun ts G k=>∃ (dd:T) (m:Nat),ts=[dd]/\RlK m dd/\k (optN (rlD dd)) G
def Zgz:tq.C "led_rowless" 2 ["deed"] pr_led:=by
 refine tq.d6.okT ["deed","edge"] fun ts G k nd hr hh=>?_;obtain⟨dd,m,rfl,⟨wd,ps,es,hv,he⟩,q⟩:=hh;refine' go_G [some dd,none] rfl ?hb ?hg
 case hb=>exact(ag (aL (aB (vR (K:=K) rfl) (x8 K (pv 0) aa) (av (ah aD (ah aD ab))) (by with_unfolding_all rfl)) (aj (ax dF)) aO) (ag (cB (i:=1) nd rfl (Or.inl rfl) (x8 K (pyk (rW tq :) hr.m (wx 0)) aa)) (aj (ax (ft (aB ba (x8 K (pv 1) aa) aa (aA _)) (x8 K (pv 1) aa) dF)))))
 cases hv with
 | @go e =>
  obtain⟨r,x,j,ee,h1⟩:=he (.inl rfl);injection ee with ee _
  subst ee;rw[lZ] at q;ext;refine bv (ss:=["go","hold"]) sg_t ?_;ext;refine⟨_,_,_,_,rfl,.go,?_⟩;ext;refine bU (fun h=>?_) fun h=>?_
  .rw[am h] at q;ext;exact au q
  .rw[ao h] at q;ext;exact au q
 | @hold w c e =>
  obtain⟨r,x,j,ee,h1⟩:=he (.inr rfl);injection ee with ee _
  subst ee;rw[qK] at q;ext;refine bv (ss:=["go","hold"]) sg_t ?_;ext;refine⟨_,_,_,_,rfl,.hold,?_⟩;ext;refine bU (fun h=>?_) fun h=>?_
  .rw[am h] at q;ext;exact au q
  .rw[ao h] at q;ext;exact au q
 | _ =>
  rw[qW (by decide)] at q;ext;refine bv (ss:=["go","hold"]) sg_t ?_;ext;exact au q
def l_eqNI{P:Program}{w:World}{K:W.Frag}{G:GH}{k:T->GH->Prop}(h:k (.bl false) G):L2r P w K rEq .non (.int i) G k:=fun H u v g r1 r2 Q z=>by
 cases r1;cases r2;exact⟨rfl,z.here g .bl h⟩
def Zfu:Pre:=fun ts G k=>∃ (lane:List StL) (i:Nat),ts=[.lst (lane.map stT),.int i]/\i<lane.length/\lane.length<=1000/\(∀ d∈lane,RlK lane.length d.dd)/\k (.bl (isR lane i)) G
def ZgA:tq.C "is_on_round" 3 ["lane","k"] Zfu:=by
 refine tq.d7.okT ["lane","k","at","count"] fun ts G k nd hr hh=>?_;obtain⟨lane,i,rfl,hi,hl,hn,q⟩:=hh;refine' go_G [some (.lst (lane.map stT)),some (.int i),none,none] rfl ?hb ?hg
 case hb=>exact(ag (cp (i:=2) nd rfl (Or.inl rfl) (pv 1)) (ag (cy PassesOwn.never rfl (cV rfl tq.b_range (aM (aG (bc (K:=K) rfl) (by rfl) tq.b_len bf (wx 0)) ab)) (pyn 3 nd) (ag (bE (i:=2) nd rfl (Or.inl rfl) (pyk (Zgz tq :) hr.m (aH (x8 K (x8 K (pv 0) (pv 2)) aa) ab))) (aj (aL (PW.pt (fT (aB qR (pv 2) dF (aA _)) (gF (aB ba (pv 2) (pv 1) (aA _))))) (aj (ax (dJ ba (pv 2) (pv 1) (aA _)))) aO)))) (aj (ax dw))))
 have hrl:(rngT (lane.length:Int).toNat).length=lane.length:=by unfold rngT;simp
 ext;refine⟨lane.length,by rw[af],by lia,by lia,fun j Γ' G'=>G'=G/\∃ (a:Nat) (c:Option T),a<lane.length/\j<=lane.length/\onR (rlL lane) i (lane.length-j) a=isR lane i/\Γ'=[some (.lst (lane.map stT)),some (.int i),some (.int a),c],⟨rfl,i,_,hi,bO _,rfl,rfl⟩,fun _ _ _ _=>trivial,?_,?_⟩
 .rintro j x Γ' G' hx ⟨rfl,a,c,ha,_,ho,rfl⟩;rw[bB] at hx;obtain ⟨rfl,hj⟩:=eT hx;have ea:lane[a]?=some lane[a]:=aC ha;generalize lane[a]=d at ea;have hk:=hn d (aF ea);rw[show lane.length - j=(lane.length - (j+1))+1 by lia,onR,show rlL lane a=rlD d.dd by unfold rlL;rw[ea];rfl] at ho;ext;refine aW (cG (n:=a) rfl (by rw[ak,ea];rfl)) ?_;ext;refine ⟨_,lane.length,rfl,hk,?_⟩;cases e:rlD d.dd with
  | none =>
   rw[e] at ho;dsimp only at ho;rw[<-ho] at q;ext;refine l_eqNI ?_;exact au q
  | some m =>
   rw[e] at ho;dsimp only at ho;have hm:=hk.lt e;show Wg P w K _ (.int m) _ _ _;by_cases h:m=i
   .subst h;rw[nQ,Bool.true_or] at ho;rw[<-ho] at q;ext;rw[aX rfl];ext;rw[aX rfl];exact au q
   .rw[lq.mpr h,nN] at ho;ext;rw[bz (by lia)];ext;dsimp only;exact bQ ⟨rfl,m,_,hm,by lia,ho,rfl⟩
 .rintro Γ' G' ⟨rfl,a,c,ha,_,ho,rfl⟩;rw[hrl,lP,onR] at ho;rw[<-ho] at q;ext;exact au q
def Zfs:Pre:=fun ts G k=>∃ (lane:List StL),ts=[.lst (lane.map stT)]/\lane.length<=1000/\(∀ d∈lane,RlK lane.length d.dd)/\k (rndT lane) G
def Zgy:tq.C "round_fault" 4 ["lane"] Zfs:=by
 refine tq.d8.okT ["lane","k"] fun ts G k nd hr hh=>?_;obtain⟨lane,rfl,hl,hn,q⟩:=hh;refine' go_G [some (.lst (lane.map stT)),none] rfl ?hb ?hg
 case hb=>exact(ag (cy PassesOwn.never rfl (cV rfl tq.b_range (aM (aG (bc (K:=K) rfl) (by rfl) tq.b_len bf (wx 0)) ab)) (pyn 1 nd) (aj (aL (cr (pyk (ZgA tq :) hr.m (x9 0 (wx 1)))) (aj (ax (av (x9 1 (ah aD ab))))) aO))) (aj (ax dF)))
 have hrl:(rngT (lane.length:Int).toNat).length=lane.length:=by unfold rngT;simp
 ext;refine⟨lane.length,by rw[af],by lia,by lia,fun j Γ' G'=>G'=G/\(∀ i,i<j->isR lane i=false)/\∃ c,Γ'=[some (.lst (lane.map stT)),c],⟨rfl,fun i h=>absurd h (rN i),_,rfl⟩,fun _ _ _ _=>trivial,?_,?_⟩
 .rintro j x Γ' G' hx ⟨rfl,hno,c,rfl⟩;rw[bB] at hx;obtain ⟨rfl,hj⟩:=eT hx;ext;refine ⟨lane,j,rfl,hj,hl,hn,?_⟩;cases e:isR lane j with
  | true =>
   ext;rw[show rndT lane=.tup [.int j,.str "round"] by unfold rndT;rw[qv (bO j) (by lia) (fun i _ h=>hno i h) e]] at q;exact au q
  | false =>
   ext;dsimp only;refine bQ ⟨rfl,fun i h=>?_,_,rfl⟩;by_cases e2:i=j
   .rw[e2];exact e
   .exact hno i (by lia)
 .rintro Γ' G' ⟨rfl,hno,c,rfl⟩;rw[hrl] at hno;rw[show rndT lane=.non by unfold rndT;rw[pc fun i _ h=>hno i (by lia)]] at q;ext;exact au q
def Zj7{f:Fm}(hf:Fo n B f){i:Nat}{p:Int×Int}(ep:f.2[i]?=some p):bm (bu [] (f.2.take i) 1) p.2=0:=by
 rw[ic,jV]
 .rfl
 .intro q hq e;obtain ⟨j,hj⟩:=gr.mp hq;have lj:=(aT.mp hj).1;rw[fJ] at lj;rw[getElem?_take_of_lt (by lia)] at hj;have nd:=hf.nd;have e1:(f.2.map (·.2))[j]?=some q.2:=by rw[ak,hj];rfl
  have e2:(f.2.map (·.2))[i]?=some p.2:=by rw[ak,ep];rfl
  rw[e,<- e2] at e1;have:=(getElem?_inj (by have:=(aT.mp hj).1;rw[af];exact this) nd).mp e1;lia
def ZjR:Pre:=fun ts G k=>∃ n f g m,ts=[fmT f,fmT g,.int m]/\FoB n f/\FoB n g/\m.natAbs<=10^900/\k (fmT (cb f g m)) G
def mz:tq.C "_law_sum" 1 ["one","other","n"] ZjR:=by
 refine tq.d9.okT ["one","other","n","parts","a","w"] fun ts G k nd hr hh=>?_;have hu1:=jO hr;obtain⟨n,f,g,m,rfl,hf,hg,hm,q⟩:=hh;refine' go_G [some (fmT f),some (fmT g),some (.int m),none,none,none] rfl ?hb ?hg
 case hb=>exact(ag (cp (i:=3) nd rfl (Or.inr rfl) kr) (ag (cy PassesOwn.never rfl (dL (K:=K) rfl (x8 K (pv 0) aa)) (cM (K:=K) (n:=2) rfl rfl (aV (pyn 4 nd) (aV (pyn 5 nd) cA))) (aj (iz hu1 (pv 3) (pv 5) (pv 4) rfl))) (ag (cy PassesOwn.never rfl (dL (K:=K) rfl (x8 K (pv 1) aa)) (cM (K:=K) (n:=2) rfl rfl (aV (pyn 4 nd) (aV (pyn 5 nd) cA))) (aj (iz hu1 (pv 3) (pv 5) (aw bw (t5 hu1 (pv 3) (pv 5) aa (M2.mk rfl rfl rfl rfl)) (aw gu (pv 2) (pv 4))) rfl))) (aj (ax (av (bK (aw bw (x8 K (pv 0) aa) (aw gu (pv 2) (x8 K (pv 1) aa))) (aM (du (fh (K:=K) rfl) (by rfl) tq.b_tuple di (dW (pyf ["w"] ["parts"] [3] (eU (K:=K) rfl (aG (ug rfl) (by rfl) tq.b_sorted ph (wx 3))) (fun _ _ _ _ _ _=>(wH (aB gM (hZ hu1 (pv 1) (pv 0) (fun _ _=>rfl)) aa (aA _)))) (fun _ _ _ _ _ _=>(av (aH (hZ hu1 (pv 1) (pv 0) (fun _ _=>rfl)) (wx 0))))) ab)) ab))))))))
 obtain⟨t1,t2,_⟩:=pH (m:=m) hf.o hg.o;have h1:=hf.o.len;have h2:=hg.o.len;have h3:=hf.n;have h4:=kG f.2 1 [];rw[iI] at h4;refine cT (dX (tL fun d hd=>bH ?_));refine cX (fun Γ' G'=>(∃ x y,Γ'=[some (fmT f),some (fmT g),some (.int m),some (.ptr d),x,y])/\G'=gput G d (.tb (bu [] f.2 1))) ?_ ?_
 .walk_at"wy";refine ⟨_,rfl,fun i Γ' G'=>(∃ x y,Γ'=[some (fmT f),some (fmT g),some (.int m),some (.ptr d),x,y])/\G'=gput G d (.tb (bu [] (f.2.take i) 1)),⟨⟨_,_,rfl⟩,rfl⟩,fun _ _ _ _=>trivial,?_,?_⟩
  .rintro i x Γ' G' hx ⟨⟨x1,x2,rfl⟩,rfl⟩;rw[ak] at hx;obtain⟨p,ep,rfl⟩:=bh.mp hx;refine cR rfl ?_;walk_at"wy";have hl:=kG (f.2.take i) 1 [];rw[fJ,iI] at hl;refine⟨d,_,_,p.1*1,by rw[Zj7 hf.o ep];congr 1;lia,rfl,gp_s,rfl,by lia,?_⟩;dsimp only;refine bQ ⟨⟨_,_,rfl⟩,?_⟩;rw[gp_p,<- qU,eY,ep];rfl
  .rintro Γ' G' ⟨hy,rfl⟩;rw[af,eZ];exact⟨hy,rfl⟩
 rintro Γ' G' ⟨⟨x1,x2,rfl⟩,rfl⟩;refine cX (fun Γ' G'=>(∃ x y,Γ'=[some (fmT f),some (fmT g),some (.int m),some (.ptr d),x,y])/\G'=gput G d (.tb (bu (bu [] f.2 1) g.2 m))) ?_ ?_
 .walk_at"wy";refine ⟨_,rfl,fun i Γ' G'=>(∃ x y,Γ'=[some (fmT f),some (fmT g),some (.int m),some (.ptr d),x,y])/\G'=gput G d (.tb (bu (bu [] f.2 1) (g.2.take i) m)),⟨⟨_,_,rfl⟩,rfl⟩,fun _ _ _ _=>trivial,?_,?_⟩
  .rintro i x Γ' G' hx ⟨⟨x1,x2,rfl⟩,rfl⟩;rw[ak] at hx;obtain⟨p,ep,rfl⟩:=bh.mp hx;refine cR rfl ?_;walk_at"wy";refine⟨d,_,rfl,gp_s,?_⟩;walk_at"wy";refine⟨_,_,gp_s,rfl,rfl,?_⟩;walk_at"wy";refine l_IC (hX (l9 hm) (l9 (hg.o.a p (aF ep)))) ?_;walk_at"wy";have hl:=kG (g.2.take i) m (bu [] f.2 1);rw[fJ] at hl;refine⟨d,_,_,p.1*m,by rw[kf],rfl,gp_s,rfl,by lia,?_⟩;dsimp only;refine bQ ⟨⟨_,_,rfl⟩,?_⟩;rw[gp_p,<- qU,eY,ep];rfl
  .rintro Γ' G' ⟨hy,rfl⟩;rw[af,eZ];exact⟨hy,rfl⟩
 rintro Γ' G' ⟨⟨x1,x2,rfl⟩,rfl⟩;have few:=kO hf.n t1 t2;have fin:k (fmT (wnF (f.1+m*g.1) (bu (bu [] f.2 1) g.2 m))) G:=q;generalize bu (bu [] f.2 1) g.2 m=t at few fin;have hp:=iB (t.map (·.1));walk_at"wy";refine l_IC (hX (l9 hm) (l9 hg.o.c)) ?_;walk_at"wy";refine kS ?_;walk_at"wy";refine sZ gp_s few ?_;refine⟨_,si_l,by rw[af,hp.length_eq,af];lia,fun i acc Γ' G'=>(∃ x,Γ'=[x,some (.ptr d)])/\G'=gput G d (.tb t)/\acc=(cx t ((sortI (t.map (·.1))).take i)).map prT,⟨⟨none,rfl⟩,rfl,rfl⟩,fun _ _ _ _ _=>si_l,?_,?_⟩
 .rintro i x acc Γ' G' hx ⟨⟨x1,rfl⟩,rfl,rfl⟩;rw[ak] at hx;obtain ⟨m,em,rfl⟩:=bh.mp hx;have hm:m∈t.map (·.1):=hp.mem_iff.mp (aF em);have etk:cx t ((sortI (t.map (·.1))).take (i+1))=cx t ((sortI (t.map (·.1))).take i)++(if bm t m≠0 then [(bm t m,m)] else []):=by
   unfold cx;rw[eY,em,rM,filter_append,aY];by_cases e0:bm t m=0 <;> simp[e0]
  walk_at"wy";refine⟨d,t,m,rfl,gp_s,rfl,hm,?_⟩;walk_at"wy";refine tH (fun hz=>?_) (fun hz=>?_)
  .walk_at"wy";refine⟨d,t,m,rfl,gp_s,rfl,hm,?_⟩;walk_at"wy";refine⟨⟨_,rfl⟩,rfl,?_⟩;rw[etk,am hz,aY];rfl
  .refine ⟨⟨_,rfl⟩,rfl,?_⟩;rw[etk,ao (by simpa using hz),dR]
 .rintro acc Γ' G' ⟨_,rfl,rfl⟩;walk_at"wy";refine fe sg_l (fun _=>nofun) ?_;rw[af,eZ];walk_at"wy";exact eO hd (fun _=>nofun) (au fin)
def ZjT:Pre:=fun ts G k=>∃ m B D f fl y,ts=[fmT f,y]/\SqI G y (fl.map fmT)/\Fo fl.length B f/\fl.length<64/\m<64/\(∀ g∈fl,Fo m D g)/\B+63*(B*D)<=10^900/\D<=10^900/\k (fmT (bF f fl)) G
def Zkh:tq.C "_law_put" 2 ["form","forms"] ZjT:=by
 refine tq.e0.okT ["form","forms","found","a","w"] fun ts G k nd hr hh=>?_;obtain⟨m,B',D,f,fl,y,rfl,sy,hf,hl,hm,hg,hB,hD,q⟩:=hh;refine' go_G [some (fmT f),some y,none,none,none] rfl ?hb ?hg
 case hb=>exact(ag (i4 (i:=2) nd rfl (Or.inl rfl) (av (aH (x8 K (pv 0) aa) (aS (av ab) ab)))) (ag (cy PassesOwn.never rfl (dL (K:=K) rfl (x8 K (pv 0) aa)) (cM (K:=K) (n:=2) rfl rfl (aV (pyn 3 nd) (aV (pyn 4 nd) cA))) (aj (bE (i:=2) nd rfl (Or.inl rfl) (pyk (mz tq :) hr.m (x9 2 (aH (x8 K (pv 1) (pv 4)) (wx 3))))))) (aj (ax (pv 2)))))
 have hlen:=hf.len;have hb:∀ p∈f.2,p.1.natAbs<=B'/\0<=p.2/\p.2<fl.length:=fun p hp=>⟨hf.a p hp,(hf.w p hp).1,(hf.w p hp).2⟩;have pre:∀ i,FoB m ((f.2.take i).foldl (fun a p=>cb a (nthF fl p.2) p.1) (f.1,[])):=fun i=>by
  have:=qu (B:=B') hg (f.2.take i) (f.1,[]) B' (fun p hp=>hb p (mem_of_mem_take hp)) (Fo.nil hf.c);refine⟨this.le (aE _) (bo (nP (gn _ ?_) _) hB),hm⟩;rw[fJ];lia
 have hB9:B'<=10^900:=bo (lR _ _) hB;ext;refine⟨_,rfl,fun i Γ' G'=>(∃ x z,Γ'=[some (fmT f),some y,some (fmT ((f.2.take i).foldl (fun a p=>cb a (nthF fl p.2) p.1) (f.1,[]))),x,z])/\G'=G,⟨⟨_,_,rfl⟩,rfl⟩,fun _ _ _ _=>trivial,?_,?_⟩
 .rintro i x Γ' G' hx ⟨⟨x1,x2,rfl⟩,rfl⟩;rw[ak] at hx;obtain ⟨p,ep,rfl⟩:=bh.mp hx;obtain ⟨b1,b2,b3⟩:=hb p (aF ep);have e:fl[p.2.toNat]?=some (nthF fl p.2):=by
   unfold nthF;rw[cJ,aC (by lia)];rfl
  have hat:atI (fl.map fmT) p.2=some (fmT (nthF fl p.2)):=cG (n:=p.2.toNat) (by lia) (by rw[ak,e];rfl);refine cR rfl ?_;ext;refine l_ix (fB sy) hat ?_;ext;refine⟨m,_,_,p.1,rfl,pre i,⟨(hg _ (aF e)).le (aE _) hD,hm⟩,bo b1 hB9,?_⟩;ext;dsimp only;refine bQ ?_;show (∃ x z,_=[_,_,some (fmT ((f.2.take (i+1)).foldl (fun a p=>cb a (nthF fl p.2) p.1) (f.1,[]))),x,z])/\_;rw[eY,ep,rM,n6];exact⟨⟨_,_,rfl⟩,rfl⟩
 .rintro Γ' G' ⟨⟨x1,x2,rfl⟩,rfl⟩;rw[af,eZ];ext;rw[<-u7] at q;exact au q
def Zg2:Pre:=fun ts G k=>∃ n:Nat,ts=[.int n]/\n<=1000/\∀ a,G a=none->k (.ptr a) (gput G a (.lst ((ay n).map fmT)))
def mi:tq.C "_law_words" 1 ["many"] Zg2:=by
 refine tq.e1.okT ["many"] fun ts G k nd hr hh=>?_;obtain⟨n,rfl,hn,q⟩:=hh;refine' go_G [some (.int n)] rfl ?hb ?hg
 case hb=>exact(aj (ax (pyc ["w"] [] [] (cV rfl tq.b_range (wx 0)) (fun _ _ _ _ _ _=>(av (ah aa (aS (av (aS (av (ah aa (wx 0))) ab)) ab)))))))
 ext;refine wX (fun Γ'=>∃ c,Γ'=[c]) ?_;ext;have hrl:(rngT (n:Int).toNat).length=n:=by unfold rngT;simp
 refine⟨n,rfl,by lia,by lia,by rw[hrl];lia,trivial,⟨_,rfl⟩,(ay n).map fmT,by rw[af,hrl];unfold ay;simp,?_,fun a na=>au (q a na)⟩;rintro i x y Γ' hx hy ⟨c,rfl⟩;unfold rngT at hx;unfold ay at hy;rw[bB,ak] at hx;rw[ak,ak] at hy;obtain⟨j,ej,rfl⟩:=bh.mp hx;rw[ej] at hy;cases hy;ext;refine⟨⟨_,rfl⟩,rfl,?_⟩;ext;exact⟨rfl,rfl⟩
def fo9{f:Fm}(h:Fo n B f)(hn:n<64)(hB:B<=10^800):FoB n f:=⟨h.le (aE _) (bo hB (iK (by decide) (by decide))),hn⟩
def vA:Pre:=fun ts G k=>∃ (n:Nat) (s:SF) (r:Rw) (p:Int) (f:Fm) (y:T),ts=[rowT r,y]/\SqI G y (s.2.2.map fmT)/\bR s r=some (p,f)/\(∀ g∈s.2.2,FoB n g/\Cano g)/\n<64/\r.Ok [] s.2.2.length 1000/\k (fmT f) G
def Zfj:tq.C "_law_reckoned" 2 ["row","forms"] vA:=by
 refine tq.e2.okT ["row","forms"] fun ts G k nd hr hh=>?_;obtain⟨n,s,r,p,f,y,rfl,sy,hre,hg,hn,ok,q⟩:=hh;refine' go_G [some (rowT r),some y] rfl ?hb ?hg
 case hb=>exact(ag (aL (aB ba (x8 K (pv 0) aa) aD (aA _)) (aj (ax (av (aH (x8 K (pv 0) aa) (aS (av ab) ab))))) aO) (ag (aL (aB (k_in (K:=K) rfl) (x8 K (pv 0) aa) (bt (ah aD (ah aD ab))) (by with_unfolding_all rfl)) (aj (ax (pyk (mz tq :) hr.m (aS (av (ah aa (aS (av ab) ab))) (aH (x8 K (pv 1) (x8 K (pv 0) aa)) (aH (x8 K (aw (gT (K:=K) rfl) (pv 0) (av (ah aa ab))) aa) ab)))))) aO) (aj (ax (pyk (mz tq :) hr.m (aH (x8 K (pv 1) (x8 K (pv 0) aa)) (aH (x8 K (pv 1) (x8 K (pv 0) aa)) (oA (ft (aB ba (x8 K (pv 0) aa) aD (aA _)) aa (ck cj aa)) ab))))))))
 have at':∀ {q:Int},In0 q s.2.2.length->atI (s.2.2.map fmT) q=some (fmT (gtF s q))/\FoB n (gtF s q)/\Cano (gtF s q):=fun {q} hq=>by
  have h1:=hq.1;have h2:=hq.2;have e:s.2.2[q.toNat]?=some (gtF s q):=by
   unfold gtF;rw[cJ,aC (by lia)];rfl
  exact⟨cG (n:=q.toNat) (by lia) (by rw[ak,e];rfl),hg _ (aF e)⟩
 have z0:FoB n (0,[]):=⟨Fo.nil (bO _),hn⟩;cases r with
 | put p' m=>cases hre;ext;exact au q
 | copy p' q' =>
  cases hre;obtain⟨a1,a2,a3⟩:=at' ok.2;ext;refine bv (ss:=["copy","times"]) sg_l ?_;ext;refine l_ix (fB sy) a1 ?_;ext;refine gE (jn rfl) ?_;ext;refine⟨n,(0,[]),gtF s q',1,rfl,z0,a2,by decide +kernel,?_⟩;rw[Zqj a3];exact au q
 | times p' q' m =>
  cases hre;obtain⟨a1,a2,a3⟩:=at' ok.2.1;ext;refine bv (ss:=["copy","times"]) sg_l ?_;ext;refine l_ix (fB sy) a1 ?_;ext;refine gE (jn rfl) ?_;ext;refine⟨n,(0,[]),gtF s q',m,rfl,z0,a2,bo ok.2.2 (by decide +kernel),?_⟩;rw[ZmP];exact au q
 | plus p' q' r' =>
  cases hre;obtain⟨a1,a2,a3⟩:=at' ok.2.1;obtain⟨b1,b2,b3⟩:=at' ok.2.2;ext;refine bv (ss:=["copy","times"]) sg_l ?_;ext;refine l_ix (fB sy) a1 ?_;ext;refine l_ix (fB sy) b1 ?_;ext;exact⟨n,_,_,1,rfl,a2,b2,by decide +kernel,au q⟩
 | less p' q' r' =>
  cases hre;obtain⟨a1,a2,a3⟩:=at' ok.2.1;obtain⟨b1,b2,b3⟩:=at' ok.2.2;ext;refine bv (ss:=["copy","times"]) sg_l ?_;ext;refine l_ix (fB sy) a1 ?_;ext;refine l_ix (fB sy) b1 ?_;ext;exact⟨n,_,_,-1,rfl,a2,b2,by decide +kernel,au q⟩
 | _=>cases hre
def Zge:Pre:=fun ts G k=>∃ (Q:List Df) (f:List SF) (s:SF) (n B:Nat) (x:T),ts=[pgT Q,x]/\SqI G x ((f++[s]).map sfT)/\PgK Q/\FrsOk Q n B f s/\bY (f++[s])/\n<64/\B<=10^800/\k (optT (ce Q (f++[s]))) G
def oZ:tq.C "_law_silent" 3 ["program","signs"] Zge:=by
 refine tq.e3.okT ["program","signs","frames","frame","row","forms","n","takes","many","rows","g","here","some"] fun ts G k nd hr hh=>?_;have hu:=hr.units;obtain⟨Q,f,s,n,B',x,rfl,hx,pk,F,CN,hn,hB,q⟩:=hh;obtain⟨d,r,hd,e2,hrow,h4,h0,h30,h5⟩:=eE (F.all s (by simp));have ok:=(pk.ok.2.2 d hd).rows r (aF h4);have few:=F.few;have eqf:(Q.map dfT)[s.1.toNat]?=some (dfT d):=by rw[ak,e2];rfl
 have eqr:(d.rows.map rowT)[s.2.1.toNat]?=some (rowT r):=by rw[ak,h4];rfl
 have hlen:((f++[s]).map sfT).length<=4:=by rw[af,aJ];simp;lia
 refine' go_G [some (pgT Q),some x,none,none,none,none,none,none,none,none,none,none,none] rfl ?hb ?hg
 case hb=>exact(ag (iW (i:=2) (LN:=["f","at","forms"]) (FN:=[]) (fr:=[]) rfl nd rfl rfl (dE (by rfl)) (eU (K:=K) rfl (pv 1)) (fun _ _ _ _ _ _=>(cM (K:=K) (n:=3) rfl rfl (aV (pyb 0) (aV (pyb 1) (aV (pyb 2) cA))))) (fun _ _ _ _ _ _=>dI) (fun _ _ _ _ _ _=>(bt (x9 0 (x9 1 (aM (du (oN (K:=K) rfl) (by rfl) tq.b_list iQ (wx 2)) ab)))))) (ag (cB (i:=3) nd rfl (Or.inl rfl) (x8 K (pv 2) (ck cj aa))) (ag (cB (i:=4) nd rfl (Or.inl rfl) (x8 K (x8 K (x8 K (pv 0) (x8 K (pv 3) aa)) aa) (x8 K (pv 3) aa))) (ag (bX (aw bw (x8 K (pv 3) aa) aa) (cS (pv 3) aa cW)) (ag (cB (i:=5) nd rfl (Or.inr rfl) (x8 K (pv 3) aa)) (ag (aL (PW.pt (bV (aB (k_in (K:=K) rfl) (x8 K (pv 4) aa) (bt (ah aD (ah aD ab))) (by with_unfolding_all rfl)) (cF (aB (v4 hu) (x8 K (x8 K (pv 5) (x8 K (pv 4) aa)) aa) (av ab) (aA _))))) (ag (cB (i:=6) nd rfl (Or.inl rfl) (x8 K (x8 K (pv 5) (x8 K (pv 4) aa)) aa)) (aj (aL (PW.pt (fT (PW.pt (bV (aB ba (pv 6) aa (aA _)) (cF (aB ba (x8 K (pv 4) aa) aD (aA _))))) (gF (PW.pt (bV (aB dM (pv 6) aa (aA _)) (cF (aB ba (x8 K (pv 4) aa) aD (aA _)))))))) (aj (bX (x8 K (pv 4) aa) (cS (pv 3) aa cW))) aO))) (aj (aL (aB ba (x8 K (pv 4) aa) aD (aA _)) (aj (bX (x8 K (pv 4) aa) (cS (pv 3) aa cW))) (aj (aL (PW.pt (bV (aB ba (x8 K (pv 4) aa) aD (aA _)) (cF (aB dM (aG (bc (K:=K) rfl) (by rfl) tq.b_len bf (wx 2)) aa (aA _))))) (ag (bX (aw dj (x8 K (pv 3) aa) aa) (cS (pv 3) aa cW)) (ag (bX (x8 K (pv 0) (x8 K (pv 4) aa)) (cM (K:=K) (n:=3) rfl rfl (aV (pyn 7 nd) (aV (pyn 8 nd) (aV (pyn 9 nd) cA))))) (aj (eC (k_bm (K:=K) rfl PySem.F.plainAttrs_list PySem.F.slot_list_append PySem.F.type_list_append gK (pv 2) (g9 (bt (aH (x8 K (pv 4) aa) (ah aa (bK (aw ff (pyc ["q"] ["forms"] [5] (dL (K:=K) rfl (x8 K (pv 4) aa)) (fun _ _ _ _ _ _=>(x8 K (pv 1) (pv 0)))) (aw oz (bt (aS (av (ah aa (aS (av ab) ab))) ab)) (aw dj (pv 8) (pv 7)))) ab)))) ab)))))) (aj (aL (PW.pt (bV (aB ba (x8 K (pv 4) aa) aD (aA _)) (cF (aB eQ (aG (bc (K:=K) rfl) (by rfl) tq.b_len bf (wx 2)) aa (aA _))))) (ag (eC (k_bm0 (K:=K) rfl PySem.F.plainAttrs_list PySem.F.slot_list_pop PySem.F.type_list_pop mt_pop (pv 2))) (ag (bX (x8 K (pv 2) (ck cj aa)) (wt (K:=K) (n:=3) rfl rfl (aV (pyn 10 nd) (aV (pyn 11 nd) (aV (pyn 12 nd) cA))))) (ag (bX (x8 K (pv 5) (x8 K (pv 4) aa)) (cS (pv 12) (x8 K (x8 K (x8 K (x8 K (pv 0) (pv 10)) aa) (pv 11)) aa) cW)) (aj (bX (aw bw (pv 11) aa) (cS (x8 K (pv 2) (ck cj aa)) aa cW)))))) (aj (aL (aB (k_in (K:=K) rfl) (x8 K (pv 4) aa) (bt (ah aD (ah aD (ah aD (ah aD (ah aD ab)))))) (by with_unfolding_all rfl)) (aj (bX (pyk (Zfj tq :) hr.m (x9 4 (wx 5))) (cS (pv 5) (x8 K (pv 4) aa) cW))) (aj (ax dF))))))))))) (aj (ax (fS (LN:=["f","at","some"]) (FN:=[]) (fr:=[]) rfl (dE (by rfl)) (eU (K:=K) rfl (pv 2)) (fun _ _ _ _ _ _=>(wt (K:=K) (n:=3) rfl rfl (aV (pyb 0) (aV (pyb 1) (aV (pyb 2) cA))))) (fun _ _ _ _ _ _=>dI) (fun _ _ _ _ _ _=>(av (x9 0 (x9 1 (aM (du (fh (K:=K) rfl) (by rfl) tq.b_tuple di (wx 2)) ab))))))))))))))
 refine cT (dX (tF ?_));ext;refine⟨_,hx,by lia,fun i acc Γ' G'=>(Ex3 fun c1 c2 c3=>Γ'=[c1,c2,c3])/\∃ xs ys,acc=xs.map T.ptr/\FrI fmT G G' xs ys ((f++[s]).take i),⟨⟨_,_,_,rfl⟩,[],[],rfl,FrI.nil⟩,fun i acc Γ' G' ⟨_,xs,ys,_,FI⟩=>FI.sq hx,?_,?_⟩
 .rintro i z acc Γ' G' hz ⟨⟨c1,c2,c3,rfl⟩,xs,ys,rfl,FI⟩;rw[ak] at hz;obtain⟨t,et,rfl⟩:=bh.mp hz;refine cR rfl (gO (bH (gO (bH (gO (bH (l0 (o5 (iteT (jF ?_)))))))))) ;ext;refine Znv sg_t fun y ny=>?_;ext;intro x' nx';obtain⟨n1,n2⟩:=tE nx';refine⟨⟨_,_,_,rfl⟩,xs++[x'],ys++[y],by rw[aY];rfl,?_⟩;rw[eY,et];exact FI.snoc ny n1 n2
 rintro acc Γ' G1 ⟨⟨c1,c2,c3,rfl⟩,xs,ys,rfl,FI⟩ fl nfl;rw[af,eZ] at FI;have FS:=FI.fin nfl;generalize gput G1 fl (.lst (xs.map T.ptr))=G2 at FS;obtain⟨xs,ys,a,b,rfl,rfl,q1,q2,ga,gb⟩:=FS.last;have ela:∀ {l:List Addr} {x:Addr},atI ((l++[x]).map T.ptr) (-1)=some (.ptr x):=fun {l x}=>by rw[aY];exact fG _ _
 refine bH ?_;ext;refine l_ix (sg_p FS.fr) ela ?_;ext;refine l_ix (sg_p ga) at_0 ?_;ext;refine aW (at_i h0 eqf) ?_;ext;refine l_ix (sg_p ga) at_1 ?_;ext;refine aW (at_i h30 eqr) ?_;ext;refine l_ix (sg_p ga) at_1 ?_;ext;refine⟨a,_,1,1,rfl,rfl,ga,rfl,?_⟩;have F1:=FS.setAt (t:=s.2.1+1) q1 q2;replace F1:FrSt fmT G (gput G2 a (.lst ([T.int s.1,.int s.2.1,.ptr b].set 1 (.int (s.2.1+1))))) fl (xs++[a]) (ys++[b]) [] (f++[(s.1,s.2.1+1,s.2.2)]):=F1;generalize gput G2 a (.lst ([T.int s.1,.int s.2.1,.ptr b].set 1 (.int (s.2.1+1))))=G3 at F1;clear FS ga gb;obtain⟨_,_,a',b',ea,eb,_,_,ga,gb⟩:=F1.last;obtain⟨_,ea⟩:=lS ea rfl;obtain⟨_,eb⟩:=lS eb rfl;cases ea;cases eb;dsimp only at ga gb;refine cT (dX ?_);ext;refine l_ix (sg_p ga) at_2 ?_;refine bH ?_;have bx:∀ {q:Int},In0 q d.boxes->atI (s.2.2.map fmT) q=some (fmT (gtF s q)):=fun {q} hq=>by
  have h1:=hq.1;have h2:=hq.2;obtain⟨_,e⟩:=pz (F.all s (by simp)) h1 (by lia);exact at_i h1 (by rw[ak,e];rfl)
 refine cX (fun Γ' G'=>(Ex10 fun(c3 c4 c5 c6 c7 c8 c9 c10 c11 c12:Option T)=>Γ'=[some (pgT Q),some x,some (.ptr fl),c3,c4,c5,c6,c7,c8,c9,c10,c11,c12])/\Ex4 fun xs ys gs l'=>An3 (FrSt fmT G G' fl xs ys gs l') (ce Q (f++[s])=some l') (l'.length<=1000)) ?_ ?_
 rotate_left 1
 .rintro Γ' G' ⟨⟨c3,c4,c5,c6,c7,c8,c9,c10,c11,c12,rfl⟩,xs,ys,gs,l',F2,es,hl'⟩;rw[es] at q;ext;refine cQ (fun Γ'=>Ex3 fun c1 c2 c3=>Γ'=[c1,c2,c3]) ?_;ext;refine⟨_,si_p F2.fr,by rw[af,F2.lx];lia,si_p F2.fr,⟨_,_,_,rfl⟩,l'.map sfT,by rw[af,af,F2.lx],?_,jb F2.sub (au q)⟩;rintro i z y Γ' hz hy ⟨c1,c2,c3,rfl⟩;rw[ak] at hz hy;obtain⟨x',ex',rfl⟩:=bh.mp hz;obtain⟨t,et,rfl⟩:=bh.mp hy;have li:=(aT.mp et).1;have ey':ys[i]?=some (ys[i]'(by rw[F2.ly];exact li)):=aC _;obtain⟨z1,z2⟩:=F2.x i x' _ t ex' ey' et;refine wF z1 rfl ?_;ext;refine⟨⟨_,_,_,rfl⟩,rfl,?_⟩;ext;refine fe (sg_p z2) (fun _=>nofun) ?_;ext;exact⟨rfl,rfl⟩
 have esl:ce Q (f++[s])=cP Q f s:=by unfold ce;rw[getLast?_concat,gq]
 have noF:cP Q f s=none->k .non G:=fun e=>by rw[esl,e] at q;exact q
 have setA:∀ {G':GH} {xs ys gs:List Addr} {l:List SF} {s:SF} {a b:Addr} {t:Int},FrSt fmT G G' fl (xs++[a]) (ys++[b]) gs (l++[s])->xs.length=l.length->ys.length=l.length->FrSt fmT G (gput G' a (.lst ([T.int s.1,.int s.2.1,.ptr b].set 1 (.int t)))) fl (xs++[a]) (ys++[b]) gs (l++[(s.1,t,s.2.2)]):=fun h h1 h2=>h.setAt h1 h2;have l4:(f++[s]).length<=4:=by rw[af] at hlen;exact hlen
 have ll:∀ (t:SF),(f++[t]).length<=1000:=fun t=>by rw[aJ] at l4 ⊢;simp at l4 ⊢;lia
 have uf:cP Q f s=cP Q f s:=rfl
 conv at uf=>rhs;unfold cP
 rw[hrow] at uf;have fob:∀ g∈s.2.2,FoB n g/\Cano g:=fun g hg=>⟨fo9 ((F.all s (by simp)).fm g hg) hn hB,CN s (by simp) g hg⟩;have reck:∀ {p:Int} {g:Fm},bR s r=some (p,g)->r.Ok [] s.2.2.length 1000->In0 p d.boxes->cP Q f s=some (fF f s p g)->(∀ {kk:T->GH->Prop},kk (fmT g) G3->vA [rowT r,.ptr b] G3 kk)/\∃ j,ixN (s.2.2.map fmT).length p=some j/\Ex4 fun xs ys gs l'=>An3 (FrSt fmT G (gput G3 b (.lst ((s.2.2.map fmT).set j (fmT g)))) fl xs ys gs l') (ce Q (f++[s])=some l') (l'.length<=1000):=fun {p g} e1 e2 e3 e4=>by
  refine⟨fun {kk} hk=>⟨n,s,r,p,g,.ptr b,rfl,si_p gb,e1,fob,hn,e2,hk⟩,p.toNat,?_,xs++[a],ys++[b],[],_,?_,esl.trans e4,ll _⟩
  .have:=e3.1;have:=e3.2;unfold ixN;rw[am e3.1,am (by rw[af];lia)]
  .rw[<-iL];exact F1.setBox q1 q2
 cases r with
 | put p m =>
  obtain⟨k1,j,hj,k2⟩:=reck (p:=p) (g:=(m,[])) rfl (by rw[h5];exact ok) ok.1 uf;ext;refine bv (ss:=["zero","below"]) sg_l ?_;ext;refine bv (ss:=["put","copy","plus","less","times"]) sg_l ?_;ext;refine k1 ?_;ext;exact⟨b,_,p,j,rfl,rfl,gb,hj,⟨_,_,_,_,_,_,_,_,_,_,rfl⟩,k2⟩
 | copy p q' =>
  obtain⟨k1,j,hj,k2⟩:=reck (p:=p) (g:=gtF s q') rfl (by rw[h5];exact ok) ok.1 uf;ext;refine bv (ss:=["zero","below"]) sg_l ?_;ext;refine bv (ss:=["put","copy","plus","less","times"]) sg_l ?_;ext;refine k1 ?_;ext;exact⟨b,_,p,j,rfl,rfl,gb,hj,⟨_,_,_,_,_,_,_,_,_,_,rfl⟩,k2⟩
 | plus p q' r' =>
  obtain⟨k1,j,hj,k2⟩:=reck (p:=p) (g:=cb (gtF s q') (gtF s r') 1) rfl (by rw[h5];exact ok) ok.1 uf;ext;refine bv (ss:=["zero","below"]) sg_l ?_;ext;refine bv (ss:=["put","copy","plus","less","times"]) sg_l ?_;ext;refine k1 ?_;ext;exact⟨b,_,p,j,rfl,rfl,gb,hj,⟨_,_,_,_,_,_,_,_,_,_,rfl⟩,k2⟩
 | less p q' r' =>
  obtain⟨k1,j,hj,k2⟩:=reck (p:=p) (g:=cb (gtF s q') (gtF s r') (-1)) rfl (by rw[h5];exact ok) ok.1 uf;ext;refine bv (ss:=["zero","below"]) sg_l ?_;ext;refine bv (ss:=["put","copy","plus","less","times"]) sg_l ?_;ext;refine k1 ?_;ext;exact⟨b,_,p,j,rfl,rfl,gb,hj,⟨_,_,_,_,_,_,_,_,_,_,rfl⟩,k2⟩
 | times p q' m =>
  obtain⟨k1,j,hj,k2⟩:=reck (p:=p) (g:=im (gtF s q') m) rfl (by rw[h5];exact ok) ok.1 uf;ext;refine bv (ss:=["zero","below"]) sg_l ?_;ext;refine bv (ss:=["put","copy","plus","less","times"]) sg_l ?_;ext;refine k1 ?_;ext;exact⟨b,_,p,j,rfl,rfl,gb,hj,⟨_,_,_,_,_,_,_,_,_,_,rfl⟩,k2⟩
 | take p =>
  ext;refine bv (ss:=["zero","below"]) sg_l ?_;ext;refine bv (ss:=["put","copy","plus","less","times"]) sg_l ?_;ext;exact jb F1.sub (au (noF uf))
 | tell p =>
  ext;refine bv (ss:=["zero","below"]) sg_l ?_;ext;refine bv (ss:=["put","copy","plus","less","times"]) sg_l ?_;ext;exact jb F1.sub (au (noF uf))
 | jump t =>
  ext;refine bv (ss:=["zero","below"]) sg_l ?_;ext;exact⟨a,_,1,1,rfl,rfl,ga,rfl,⟨_,_,_,_,_,_,_,_,_,_,rfl⟩,_,_,_,_,setA (s:=(s.1,s.2.1+1,s.2.2)) F1 q1 q2,esl.trans uf,ll _⟩
 | zero p t =>
  dsimp only [bR] at uf;ext;refine bv (ss:=["zero","below"]) sg_l ?_;ext;refine l_ix (sg_p gb) (bx ok.1) ?_;ext;refine qz ?_;by_cases hp:(gtF s p).2=[]
  .rw[am hp] at uf;rw[aX hp];ext;refine l_ix (sg_p gb) (bx ok.1) ?_;ext;by_cases hz:(gtF s p).1=0
   .rw[am hz] at uf;rw[aX hz];ext;exact⟨a,_,1,1,rfl,rfl,ga,rfl,⟨_,_,_,_,_,_,_,_,_,_,rfl⟩,_,_,_,_,setA (s:=(s.1,s.2.1+1,s.2.2)) F1 q1 q2,esl.trans uf,ll _⟩
   .rw[ao hz] at uf;rw[bz hz];ext;by_cases hz2:(gtF s p).1 < 0
    .rw[aX hz2];ext;exact⟨⟨_,_,_,_,_,_,_,_,_,_,rfl⟩,_,_,_,_,F1,esl.trans uf,ll _⟩
    .rw[bz hz2];ext;exact⟨⟨_,_,_,_,_,_,_,_,_,_,rfl⟩,_,_,_,_,F1,esl.trans uf,ll _⟩
  .rw[ao hp] at uf;rw[bz hp];ext;refine bv (ss:=["put","copy","plus","less","times"]) sg_l ?_;ext;exact jb F1.sub (au (noF uf))
 | below p t =>
  dsimp only [bR] at uf;ext;refine bv (ss:=["zero","below"]) sg_l ?_;ext;refine l_ix (sg_p gb) (bx ok.1) ?_;ext;refine qz ?_;by_cases hp:(gtF s p).2=[]
  .rw[am hp] at uf;rw[aX hp];ext;refine l_ix (sg_p gb) (bx ok.1) ?_;ext;by_cases hz:(gtF s p).1=0
   .rw[ao (by lia)] at uf;rw[aX hz];ext;rw[bz (by lia)];ext;exact⟨⟨_,_,_,_,_,_,_,_,_,_,rfl⟩,_,_,_,_,F1,esl.trans uf,ll _⟩
   .rw[bz hz];ext;by_cases hz2:(gtF s p).1 < 0
    .rw[am hz2] at uf;rw[aX hz2];ext;exact⟨a,_,1,1,rfl,rfl,ga,rfl,⟨_,_,_,_,_,_,_,_,_,_,rfl⟩,_,_,_,_,setA (s:=(s.1,s.2.1+1,s.2.2)) F1 q1 q2,esl.trans uf,ll _⟩
    .rw[ao hz2] at uf;rw[bz hz2];ext;exact⟨⟨_,_,_,_,_,_,_,_,_,_,rfl⟩,_,_,_,_,F1,esl.trans uf,ll _⟩
  .rw[ao hp] at uf;rw[bz hp];ext;refine bv (ss:=["put","copy","plus","less","times"]) sg_l ?_;ext;exact jb F1.sub (au (noF uf))
 | call p g qs =>
  dsimp only [bR] at uf;ext;refine bv (ss:=["zero","below"]) sg_l ?_;ext;refine cu (sg_p F1.fr) ?_;have hxl:((xs++[a]).map T.ptr).length=f.length+1:=by rw[af,aJ,q1];rfl
  rw[hxl];ext;by_cases hl:f.length<3
  .rw[am hl] at uf;rw[aX (by lia)];obtain ⟨d2,g0,hg,hq⟩:=ok.2.1;have D2:=pk.ok.2.2 d2 (aF hg);have eqg:(Q.map dfT)[g.toNat]?=some (dfT d2):=by rw[ak,hg];rfl
   ext;refine l_ix (sg_p ga) at_1 ?_;ext;refine⟨a,_,1,1,rfl,rfl,ga,rfl,?_⟩;have F2:=setA (t:=s.2.1+1-1) F1 q1 q2;generalize gput G3 a _=G4 at F2;have es1:((s.1,s.2.1+1-1,s.2.2):SF)=s:=by rw[Int.add_sub_cancel]
   dsimp only at F2;rw[es1] at F2;obtain⟨z1,z2⟩:=F2.x f.length a b s (by rw[<-q1];exact cE) (by rw[<-q2];exact cE) cE;ext;refine aW (at_i g0 eqg) ?_;refine cR rfl ?_;refine gO (bH (gO (bH (gO (bH (l0 ?_))))));have D2t:=D2.t;have D2b:=D2.b;refine pU (wC (kQ rfl ⟨ty_p F2.fr,uB (jF ?_)⟩));ext;refine cQ (fun Γ'=>∃ c,Γ'=[c,some (.ptr b)]) ?_;ext;refine⟨qs.map T.int,by show T.tup (embs (qs.map D.int))=_;rw[l6],by rw[af];lia,trivial,⟨_,rfl⟩,qs.map fun q=>fmT (gtF s q),by rw[af,af],?_,?_⟩
   .rintro i z y Γ' hz hy ⟨c,rfl⟩;rw[ak] at hz hy;obtain⟨v,ev,rfl⟩:=bh.mp hz;rw[ev] at hy;cases hy;ext;refine⟨⟨_,rfl⟩,rfl,?_⟩;ext;exact l_ix (sg_p z2) (bx (ok.2.2 v (aF ev))) ⟨rfl,rfl⟩
   ext;refine l_rep (by lia) (by lia) ?_;refine wp si_l si_l (by rw[af,iC];lia) fun y ny=>?_;ext;intro x' nx';obtain⟨n1,n2⟩:=tE nx';have ecf:(qs.map fun q=>fmT (gtF s q))++List.replicate (d2.boxes-d2.takes).toNat (T.tup [.int 0,.tup []])=(eL Q s g qs).2.2.map fmT:=by
    unfold eL iP;rw[hg,aY,fM,map_replicate,<- hq];rfl
   have F3:=F2.push (s:=eL Q s g qs) ny n1 n2;have hfl2:fl≠x'/\fl≠y:=⟨(fun e=>(by rw[<-e,F2.fr] at n1;cases n1)),(fun e=>(by rw[<-e,F2.fr] at ny;cases ny))⟩;rw[ecf];ext;refine gB (by rw[gp_n hfl2.1,gp_n hfl2.2];exact F2.fr) (by rw[af,aJ];simp;lia) ?_;exact⟨⟨_,_,_,_,_,_,_,_,_,_,rfl⟩,_,_,_,_,F3,by rw[esl,uf];simp,by rw[aJ,aJ];simp;lia⟩
  .rw[ao hl] at uf;rw[bz (by lia)];ext;refine bv (ss:=["put","copy","plus","less","times"]) sg_l ?_;ext;exact jb F1.sub (au (noF uf))
 | back p =>
  dsimp only [bR] at uf;ext;refine bv (ss:=["zero","below"]) sg_l ?_;ext;refine cu (sg_p F1.fr) ?_;have hxl:((xs++[a]).map T.ptr).length=f.length+1:=by rw[af,aJ,q1];rfl
  rw[hxl];ext;cases hc:f.getLast? with
  | none =>
   have f0:=getLast?_eq_none_iff.mp hc;rw[hc] at uf;rw[f0,bz (by simp)];ext;refine bv (ss:=["put","copy","plus","less","times"]) sg_l ?_;ext;exact jb F1.sub (au (noF uf))
  | some c =>
   rw[hc] at uf;obtain⟨f',rfl⟩:=gJ.mp hc;rw[gq] at uf;rw[aX (by rw[aJ];simp;lia)];obtain⟨p2,g2,qs2,hcr⟩:=F.call c (by simp);obtain⟨dc,rc,hdc,ec2,hrc,ec4,ec0,ec30,ec5⟩:=eE (F.all c (by simp));rw[hcr] at hrc;cases hrc;dsimp only at uf;rw[hcr] at uf;have okc:=(pk.ok.2.2 dc hdc).rows _ (aF ec4);have eqc:(Q.map dfT)[c.1.toNat]?=some (dfT dc):=by rw[ak,ec2];rfl
   have eqrc:(dc.rows.map rowT)[c.2.1.toNat]?=some (rowT (.call p2 g2 qs2)):=by rw[ak,ec4];rfl
   have fr':G3 fl=some (.lst (xs.map T.ptr++[.ptr a])):=by rw[F1.fr,aY];rfl
   obtain⟨_,_,fb,_⟩:=lX F1.nd;have F2:=F1.pop q1 q2;have gb4:gput G3 fl (.lst (xs.map T.ptr)) b=some (.lst (s.2.2.map fmT)):=by rw[gp_n fb.symm];exact gb
   refine iteT (cT (pU (uE (kQ rfl ⟨ty_p fr',l_pop fr' ?_⟩))));generalize gput G3 fl (.lst (xs.map T.ptr))=G4 at F2 gb4;obtain⟨xs2,ys2,a2,b2,rfl,rfl,r1,r2,z1,z2⟩:=F2.last;ext;refine l_ix (sg_p F2.fr) ela ?_;refine wF z1 rfl ?_;ext;refine l_ix (sg_p gb4) (bx ok) ?_;ext;refine aW (at_i ec0 eqc) ?_;ext;refine aW (at_i ec30 eqrc) ?_;ext;have hp2:=okc.1;refine⟨b2,_,p2,p2.toNat,rfl,rfl,z2,by unfold ixN;rw[am hp2.1,am (by rw[af];have:=hp2.2;lia)],?_⟩;rw[<-iL];have F3:=F2.setBox (fm:=c.2.2.set p2.toNat (gtF s p)) r1 r2;generalize gput G4 b2 (.lst ((c.2.2.set p2.toNat (gtF s p)).map fmT))=G5 at F3;obtain⟨y1,y2⟩:=F3.x f'.length a2 b2 _ (by rw[<-r1];exact cE) (by rw[<-r2];exact cE) cE;ext;refine l_ix (sg_p F3.fr) ela ?_;ext;exact⟨a2,_,1,1,rfl,rfl,y1,rfl,⟨_,_,_,_,_,_,_,_,_,_,rfl⟩,_,_,_,_,setA (s:=(c.1,c.2.1,c.2.2.set p2.toNat (gtF s p))) F3 r1 r2,esl.trans uf,by have:=ll s;rw[aJ,aJ] at this;rw[aJ];simp at this ⊢;lia⟩
def Zet:Pre:=fun ts G k=>∃ (m B D:Nat) (l:List SF) (fl:List Fm) (x y:T),ts=[x,y]/\SqI G x (l.map sfT)/\SqI G y (fl.map fmT)/\l.length<=1000/\(∀ t∈l,t.2.2.length<=1000/\∀ g∈t.2.2,Fo fl.length B g)/\fl.length<64/\m<64/\(∀ g∈fl,Fo m D g)/\B+63*(B*D)<=10^900/\D<=10^900/\k (.lst ((l.map (bJ fl)).map sfT)) G
def Zev:tq.C "_law_signs_put" 3 ["signs","forms"] Zet:=by
 refine tq.e4.okT ["signs","forms"] fun ts G k nd hr hh=>?_;obtain⟨m,B',D,l,fl,x,y,rfl,hx,hy,hl,ht,hfl,hm,hg,hB,hD,q⟩:=hh;refine' go_G [some x,some y] rfl ?hb ?hg
 case hb=>exact(aj (ax (fS (LN:=["f","at","some"]) (FN:=["forms"]) (fr:=[1]) rfl (dE (by rfl)) (eU (K:=K) rfl (pv 0)) (fun _ _ _ _ _ _=>(cM (K:=K) (n:=3) rfl rfl (aV (pyb 0) (aV (pyb 1) (aV (pyb 2) cA))))) (fun _ _ _ _ _ _=>dI) (fun cl C fp pins s H=>(av (x9 0 (x9 1 (aM (du (fh (K:=K) rfl) (by rfl) tq.b_tuple di (dW (pyc ["form"] ["forms"] [3] (dL (K:=K) rfl (pv 2)) (fun _ _ _ _ _ _=>(pyk (Zkh tq :) hr.m (x9 0 (wx 1))))) ab)) ab))))))))
 ext;refine cQ (fun Γ'=>Ex3 fun c1 c2 c3=>Γ'=[c1,c2,c3,some y]) ?_;ext;refine⟨_,hx,by rw[af];lia,hx,⟨_,_,_,rfl⟩,(l.map (bJ fl)).map sfT,by rw[af,af,af],?_,au q⟩;rintro i z w' Γ' hz hw ⟨c1,c2,c3,rfl⟩;rw[ak] at hz;obtain⟨t,et,rfl⟩:=bh.mp hz;rw[ak,ak,et] at hw;cases hw;obtain⟨t1,t2⟩:=ht t (aF et);ext;refine⟨⟨_,_,_,rfl⟩,rfl,?_⟩;ext;refine cQ (fun Γ'=>∃ c,Γ'=[c,some y]) ?_;ext;refine⟨_,rfl,by rw[af];lia,trivial,⟨_,rfl⟩,(t.2.2.map fun f=>bF f fl).map fmT,by rw[af,af,af],?_,?_⟩
 .rintro j z w' Γ' hz hw ⟨c,rfl⟩;rw[ak] at hz;obtain⟨g,eg,rfl⟩:=bh.mp hz;rw[ak,ak,eg] at hw;cases hw;ext;refine⟨⟨_,rfl⟩,rfl,?_⟩;ext;exact⟨m,B',D,g,fl,y,rfl,hy,t2 g (aF eg),hfl,hm,hg,hB,hD,rfl,rfl⟩
 ext;refine fe sg_l (fun _=>nofun) ?_;ext;exact⟨rfl,rfl⟩
def xo:Pre:=fun ts G k=>∃ (f:List SF) (s:SF) (t:Int) (x:T),ts=[x,.int t]/\SqI G x ((f++[s]).map sfT)/\f.length<=1000/\k (.lst ((cH f s t).map sfT)) G
def qb:tq.C "_law_at" 1 ["signs","at"] xo:=by
 refine tq.e5.okT ["signs","at"] fun ts G k nd hr hh=>?_;obtain⟨f,s,t,x,rfl,hx,hf,q⟩:=hh;have ela:atI ((f++[s]).map sfT) (-1)=some (sfT s):=by rw[aY];exact fG _ _
 refine' go_G [some x,some (.int t)] rfl ?hb ?hg
 case hb=>exact(aj (ax (aw ff (cO (k_sl (K:=K) rfl) (pv 0) cL (cK (ck cj aa))) (bt (aS (av (aH (x8 K (x8 K (pv 0) (ck cj aa)) aa) (x9 1 (aH (x8 K (x8 K (pv 0) (ck cj aa)) aa) ab)))) ab)))))
 ext;refine i7 hx ?_;have ec:cutT ((f++[s]).map sfT) none (some (-1))=f.map sfT:=by rw[aY];exact mB _ _
 ext;refine l_ix (fB hx) ela ?_;ext;refine l_ix (fB hx) ela ?_;ext;have ec:cutT ((f++[s]).map sfT) none (some (-1))=f.map sfT:=by rw[aY];exact mB _ _
 refine fz si_l si_l (by show (cutT ((f++[s]).map sfT) none (some (-1))).length+_<=_;rw[ec,af];simp;lia) ?_;have eq2:(cH f s t).map sfT=cutT ((f++[s]).map sfT) none (some (-1))++[sfT (s.1,t,s.2.2)]:=by rw[ec];unfold cH;rw[aY];rfl
 rw[eq2] at q;exact au q
structure KnG(l:List SF)(kvs:List (List Key×T)):Prop where
 len:kvs.length<64
 ok:∀ e∈kvs,∃ i j c:Int,e=([.inl i,.inl j],.int c)/\c.natAbs<10^9/\InFr l i j
def ZpC:Pre:=fun ts G k=>∃ (b l la kd:Addr) (Q:List Df) (n B:Nat) (f:List SF) (s:SF) (lane:List StL) (kvs:List (List Key×T)),ts=[.ptr b,.ptr la,.lst ((f++[s]).map sfT),.ptr kd]/\G b=some (.bag l)/\G la=some (.lst (lane.map stT))/\G kd=some (.dt kvs)/\PgK Q/\FrsOk Q n B f s/\lane.length<=900/\KnG (f++[s]) kvs/\∀ (lay:List L3i) (d:StL) (c:Ct),LayOk (f++[s]) lay->PpK Q d.n d.fr->d.dd=.tup [.str "leave"]->d.n=lay.length->LaidK (f++[s]) kvs lay d.fr->(∀ x,c≠.own x)->k (.lst (lay.map lyT)) (gput (gput G la (.lst ((lane++[d]).map stT))) kd c)
def Cov(l:List SF)(kvs:List (List Key×T))(lay:List L3i)(i j:Nat):Prop:=∀ (i' j':Nat) s,l[i']?=some s->j'<s.2.2.length->(i'<i\/(i'=i/\j'<j))->(getA kvs [.inl (i':Int),.inl (j':Int)]).isSome=true\/∃ c,((i':Int),(j':Int),c)∈lay
def Zit:tq.C "_law_laid" 2 ["bag","lane","frames","known"] ZpC:=by
 refine tq.e6.okT ["bag","lane","frames","known","layout","way","i","j","turn","forms","u","paper","some"] fun ts G k nd hr hh=>?_;have hu1:=jO hr;obtain⟨b,l,la,kd,Q,n,B',f,s,lane,kvs,rfl,hb,hla,hkd,pk,fo,hlen,kn,q⟩:=hh;have L0:=LdSt.start hb hla hkd (.inl ⟨_,rfl⟩);generalize hfs:f++[s]=fs at q kn;have few:fs.length<=4:=by rw[<-hfs,aJ];have:=fo.few;simp;lia
 have sok:∀ t∈fs,SfOk Q n B' t:=fun t ht=>fo.all t (by rw[hfs];exact ht);have bx:∀ t∈fs,t.2.2.length<=8:=fun t ht=>gw pk (sok t ht);refine' go_G [some (.ptr b),some (.ptr la),some (.lst (fs.map sfT)),some (.ptr kd),none,none,none,none,none,none,none,none,none] rfl ?hb ?hg
 case hb=>exact(ag (jG (i:=4) nd rfl (Or.inl rfl) (bt ab)) (ag (cp (i:=5) nd rfl (Or.inl rfl) (ft (aB eQ (aG (bc (K:=K) rfl) (by rfl) tq.b_len bf (wx 1)) aa (aA _)) (pyk (aZ tq :) hr.m (x9 0 (ah aa ab))) aa)) (ag (cy PassesOwn.never rfl (cV rfl tq.b_range (aM (aG (bc (K:=K) rfl) (by rfl) tq.b_len bf (wx 2)) ab)) (ig (i:=6) nd rfl (Or.inr rfl)) (aj (cy PassesOwn.never rfl (cV rfl tq.b_range (aM (aG (bc (K:=K) rfl) (by rfl) tq.b_len bf (aH (x8 K (x8 K (pv 2) (pv 6)) aa) ab)) ab)) (pyn 7 nd) (aj (aL (pL (qA hu1 (av (x9 6 (wx 7))) (pv 3))) (aj (eC (k_bm (K:=K) rfl PySem.F.plainAttrs_list PySem.F.slot_list_append PySem.F.type_list_append gK (pv 4) (aS (av (x9 6 (x9 7 (oA (ft (aB ba (pv 5) aa (aA _)) (aw dj (pyk (aZ tq :) hr.m (x9 0 (ah aa ab))) aa) aa) ab)))) ab)))) aO))))) (ag (cp (i:=8) nd rfl (Or.inl rfl) (ft (aB eQ (pv 5) aa (aA _)) (aw fE (pyk (aZ tq :) hr.m (x9 0 (ah aa ab))) (aG (uO rfl) (by rfl) tq.b_max m7 (ah aa (aM (aG (bc (K:=K) rfl) (by rfl) tq.b_len bf (wx 4)) ab)))) aa)) (ag (cZ (i:=4) nd rfl (Or.inl rfl) (aw ff (cO (k_sl (K:=K) rfl) (pv 4) (cK (pv 8)) cL) (cO (k_sl (K:=K) rfl) (pv 4) cL (cK (pv 8))))) (ag (cp (i:=9) nd rfl (Or.inr rfl) sD) (ag (cy PassesOwn.never rfl (pi_dt (pv 3)) (cM (K:=K) (n:=2) rfl rfl (aV (ig (i:=6) nd rfl (Or.inr rfl)) (aV (pyn 7 nd) cA))) (aj (iz hu1 (pv 9) (av (x9 6 (wx 7))) (av (aH (hZ hu1 (pv 3) (av (x9 6 (wx 7))) (fun _ _=>rfl)) (aS (av ab) ab))) rfl))) (ag (cy PassesOwn.never rfl (cV rfl tq.b_range (aM (aG (bc (K:=K) rfl) (by rfl) tq.b_len bf (wx 4)) ab)) (pyn 10 nd) (aj (iz hu1 (pv 9) (cO (eP (K:=K) rfl) (x8 K (pv 4) (pv 10)) cL (cK aa)) (av (aH (x8 K (x8 K (pv 4) (pv 10)) aa) (aS (av (aS (av (ah aa (wx 10))) ab)) ab))) rfl))) (ag (jG (i:=11) nd rfl (Or.inl rfl) (bt ab)) (ag (cy PassesOwn.never rfl (cV rfl tq.b_range (aM (aG (bc (K:=K) rfl) (by rfl) tq.b_len bf (wx 2)) ab)) (ig (i:=6) nd rfl (Or.inr rfl)) (ag (iW (i:=12) (LN:=["j"]) (FN:=["forms","i"]) (fr:=[9,6]) rfl nd rfl rfl (dE (by rfl)) (cV rfl tq.b_range (aM (aG (bc (K:=K) rfl) (by rfl) tq.b_len bf (aH (x8 K (x8 K (pv 2) (pv 6)) aa) ab)) ab)) (fun _ _ _ _ _ _=>(pyb 0)) (fun _ _ _ _ _ _=>dI) (fun _ _ _ _ _ _=>(hZ hu1 (pv 1) (av (x9 2 (wx 0))) (fun _ _=>rfl)))) (aj (eC (k_bm (K:=K) rfl PySem.F.plainAttrs_list PySem.F.slot_list_append PySem.F.type_list_append gK (pv 11) (bK (aw (gT (K:=K) rfl) (cO (eP (K:=K) rfl) (x8 K (pv 2) (pv 6)) cL (cK aa)) (av (aM (du (fh (K:=K) rfl) (by rfl) tq.b_tuple di (wx 12)) ab))) ab)))))) (ag (eC (k_bm (K:=K) rfl PySem.F.plainAttrs_list PySem.F.slot_list_append PySem.F.type_list_append gK (pv 1) (aS (av (aM (aG (bc (K:=K) rfl) (by rfl) tq.b_len bf (wx 4)) (x9 11 (aS (av (ah aD ab)) ab)))) ab))) (aj (ax (pv 4))))))))))))))
 refine cT (dX (jF ?_));ext;intro ly nly;obtain⟨L1,_⟩:=L0.fresh nly (c:=.lst []) (fun _=>nofun);refine bH ?_;refine cX (fun Γ' G'=>(∃ v:Int,0<=v/\v<=2/\Γ'=[some (.ptr b),some (.ptr la),some (.lst (fs.map sfT)),some (.ptr kd),some (.ptr ly),some (.int v),none,none,none,none,none,none,none])/\G'=gput G ly (.lst [])) ?_ ?_
 .ext;refine cu (sg_p L1.ln) ?_;ext;refine bU (fun _=>?_) fun _=>?_
  .ext;refine bj L1.bag ⟨by decide,by decide⟩ fun v v0 v1=>?_;ext;exact⟨⟨v,v0,by lia,rfl⟩,rfl⟩
  .ext;exact⟨⟨0,by decide,by decide,rfl⟩,rfl⟩
 rintro Γ' G' ⟨⟨v,v0,v2,rfl⟩,rfl⟩;refine cX (fun Γ' G'=>(Ex2 fun c6 c7=>Γ'=[some (.ptr b),some (.ptr la),some (.lst (fs.map sfT)),some (.ptr kd),some (.ptr ly),some (.int v),c6,c7,none,none,none,none,none])/\∃ lay,An4 (LdSt G G' b l la kd [ly] lane (.dt kvs)) (G' ly=some (.lst (lay.map lyT))) (LayOk fs lay) (Cov fs kvs lay fs.length 0)) ?_ ?_
 .ext;refine ⟨fs.length,by rw[af],by lia,by lia,?_⟩;refine ⟨fun i Γ' G'=>(Ex2 fun c6 c7=>Γ'=[some (.ptr b),some (.ptr la),some (.lst (fs.map sfT)),some (.ptr kd),some (.ptr ly),some (.int v),c6,c7,none,none,none,none,none])/\∃ lay,LdSt G G' b l la kd [ly] lane (.dt kvs)/\G' ly=some (.lst (lay.map lyT))/\lay.length<=8 * i/\(∀ x∈lay,InFr fs x.1 x.2.1/\x.2.2.natAbs<=2)/\Cov fs kvs lay i 0,⟨⟨_,_,rfl⟩,[],L1,gp_s,bO _,(fun x hx=>by cases hx),fun i' j' s _ _ h=>by lia⟩,fun _ _ _ _=>trivial,?_,?_⟩
  .rintro i x Γ' G' hx ⟨⟨c6,c7,rfl⟩,lay,L,hly,hl8,hin,cov⟩;rw[bB] at hx;obtain ⟨rfl,hi⟩:=eT hx;have es:fs[i]?=some fs[i]:=aC hi;generalize fs[i]=si at es;have hb8:=bx si (aF es);ext;refine aW (cG (n:=i) rfl (by rw[ak,es];rfl)) ?_;ext;refine ⟨si.2.2.length,by rw[af],by lia,by lia,?_⟩;refine ⟨fun j Γ' G'=>(∃ c7,Γ'=[some (.ptr b),some (.ptr la),some (.lst (fs.map sfT)),some (.ptr kd),some (.ptr ly),some (.int v),some (.int (i:Int)),c7,none,none,none,none,none])/\∃ lay,LdSt G G' b l la kd [ly] lane (.dt kvs)/\G' ly=some (.lst (lay.map lyT))/\lay.length<=8 * i+j/\(∀ x∈lay,InFr fs x.1 x.2.1/\x.2.2.natAbs<=2)/\Cov fs kvs lay i j,⟨⟨_,rfl⟩,lay,L,hly,hl8,hin,cov⟩,fun _ _ _ _=>trivial,?_,?_⟩
   .rintro j x Γ' G' hx ⟨⟨c7,rfl⟩,lay,L,hly,hl8,hin,cov⟩;rw[bB] at hx;obtain ⟨rfl,hj⟩:=eT hx;ext;refine ⟨_,⟨kd,rfl,.inl ⟨kvs,[.inl (i:Int),.inl (j:Int)],.inl L.kn,rfl,rfl⟩⟩,?_⟩;ext;have here:InFr fs (i:Int) (j:Int):=⟨by lia,by lia,si,by simpa using es,by lia⟩;cases hg:getA kvs [.inl (i:Int),.inl (j:Int)] with
    | some t =>
     refine iteF ?_;ext;dsimp only;refine bQ ⟨⟨_,rfl⟩,lay,L,hly,by lia,hin,fun i' j' s' e1 e2 h=>?_⟩;by_cases e:i'=i/\j'=j
     .obtain ⟨rfl,rfl⟩:=e;exact .inl (by rw[hg];rfl)
     .exact cov i' j' s' e1 e2 (by lia)
    | none =>
     refine iteT ?_;have ap:∀ c:Int,c.natAbs<=2->∃ lay',LdSt G (gput G' ly (.lst (lay.map lyT++[lyT (i,j,c)]))) b l la kd [ly] lane (.dt kvs)/\(gput G' ly (.lst (lay.map lyT++[lyT (i,j,c)]))) ly=some (.lst (lay'.map lyT))/\lay'.length<=8*i+(j+1)/\(∀ x∈lay',InFr fs x.1 x.2.1/\x.2.2.natAbs<=2)/\Cov fs kvs lay' i (j+1):=fun c hc=>by
      refine⟨lay++[((i:Int),(j:Int),c)],L.put aQ (fun _=>nofun),by rw[gp_s,aY];rfl,by rw[aJ];simp;lia,fun x hx=>?_,fun i' j' s' e1 e2 h=>?_⟩
      .rcases aR.mp hx with hx|hx
       .exact hin x hx
       .rw[aK.mp hx];exact⟨here,hc⟩
      .by_cases e:i'=i/\j'=j
       .obtain ⟨rfl,rfl⟩:=e;exact .inr ⟨c,by simp⟩
       .rcases cov i' j' s' e1 e2 (by lia) with h|⟨c,h⟩
        .exact .inl h
        .exact .inr ⟨c,dQ _ h⟩
     have hl9:lay.length<1000:=by lia
     ext;refine⟨ty_p hly,?_⟩;ext;refine bU (fun _=>?_) fun _=>?_
     .ext;refine bj L.bag ⟨by decide,by decide⟩ fun c c0 c1=>?_;ext;refine gB hly (by rw[af];lia) ?_;dsimp only;exact bQ ⟨⟨_,rfl⟩,ap (c-2) (by lia)⟩
     .ext;refine gB hly (by rw[af];lia) ?_;dsimp only;exact bQ ⟨⟨_,rfl⟩,ap 0 (by decide)⟩
   .rintro Γ' G' ⟨⟨c7,rfl⟩,lay,L,hly,hl8,hin,cov⟩;rw[bB,ik] at hl8 cov;dsimp only;refine bQ ⟨⟨_,_,rfl⟩,lay,L,hly,by lia,hin,fun i' j' s' e1 e2 h=>cov i' j' s' e1 e2 ?_⟩;by_cases e:i'=i
    .subst e;rw[es] at e1;cases e1;exact .inr ⟨rfl,e2⟩
    .exact .inl (by lia)
  .rintro Γ' G' ⟨⟨c6,c7,rfl⟩,lay,L,hly,hl8,hin,cov⟩;rw[bB,ik] at hl8 cov;exact⟨⟨_,_,rfl⟩,lay,L,hly,⟨by lia,hin⟩,cov⟩
 rintro Γ' G' ⟨⟨c6,c7,rfl⟩,lay,L,hly,lo,cov⟩;have hl32:=lo.len;refine cX (fun Γ' G2=>(∃ t:Int,0<=t/\t<=lay.length/\Γ'=[some (.ptr b),some (.ptr la),some (.lst (fs.map sfT)),some (.ptr kd),some (.ptr ly),some (.int v),c6,c7,some (.int t),none,none,none,none])/\G2=G') ?_ ?_
 .ext;refine bU (fun _=>?_) fun _=>?_
  .ext;refine bj L.bag ⟨by decide,by decide⟩ fun c c0 c1=>?_;ext;refine cu (sg_p hly) ?_;ext;refine l_max ?_;rw[af];have h1:(0:Int) < if (lay.length:Int) > 1 then (lay.length:Int) else 1:=by split <;> lia
   ext;refine ju h1 ?_;ext;have h2:=jr c (Int.ne_of_gt h1);have h3:=js c h1;have h4:(if (lay.length:Int)>1 then (lay.length:Int) else 1)=1\/(if (lay.length:Int)>1 then (lay.length:Int) else 1)=lay.length:=by split <;> simp
   refine⟨⟨_,h2,?_,rfl⟩,rfl⟩;generalize (if (lay.length:Int)>1 then (lay.length:Int) else 1)=M at h2 h3 h4;lia
  .ext;exact⟨⟨0,by lia,by lia,rfl⟩,rfl⟩
 rintro Γ' G2 ⟨⟨t,t0,t1,rfl⟩,rfl⟩;obtain⟨lay2,e2,lo2,cov2⟩:∃ lay2,cutT (lay.map lyT) (some t) none++cutT (lay.map lyT) none (some t)=lay2.map lyT/\LayOk fs lay2/\Cov fs kvs lay2 fs.length 0:=by
  have mm:∀ x,x∈lay.drop t.toNat++lay.take t.toNat↔x∈lay:=fun x=>by
   conv=>rhs;rw[<-take_append_drop t.toNat lay]
   simp only[aR];exact Or.comm
  refine⟨lay.drop t.toNat++lay.take t.toNat,?_,⟨?_,fun x hx=>lo.ok x ((mm x).mp hx)⟩,fun i' j' s' e1 e2 h=>?_⟩
  .rw[je t0 (by rw[af];exact t1),gQ t0 (by rw[af];exact t1),aY,map_drop,map_take]
  .rw[aJ,jj,fJ];lia
  .rcases cov i' j' s' e1 e2 h with h|⟨c,h⟩
   .exact .inl h
   .exact .inr ⟨c,(mm _).mpr h⟩
 ext;refine i7 (si_p hly) ?_;ext;refine i7 (si_p hly) ?_;have h40:=lo2.len;refine fz si_l si_l (by rw[<-aJ,e2,af];lia) ?_;rw[e2];refine bH ?_;clear cov lo e2;refine cT (dX (t6 fun fd nfd=>bH ?_));obtain⟨L2,nf1,_⟩:=L.fresh nfd (c:=.dt []) (fun _=>nofun);have nfl:fd≠ly:=fun e=>nf1 (by rw[e];exact aQ);have gf:gput G2 fd (.dt []) fd=some (.dt []):=gp_s;generalize gput G2 fd (.dt [])=G3 at L2 gf;refine cX (fun Γ' G'=>(Ex2 fun c6 c7=>Γ'=[some (.ptr b),some (.ptr la),some (.lst (fs.map sfT)),some (.ptr kd),some (.lst (lay2.map lyT)),some (.int v),c6,c7,some (.int t),some (.ptr fd),none,none,none])/\Ex3 fun frm o vs=>An4 (LdSt G G' b l la kd [fd,ly] lane (.dz o vs kvs)) (G' fd=some (.dt frm)) (FmS (SrcF kvs lay2) lay2.length frm 100) (∀ e∈kvs,(getA frm e.1).isSome=true)) ?_ ?_
 .ext;refine ⟨kd,kvs,rfl,L2.kn,fun o vs=>?_⟩;refine ⟨fun i Γ' G'=>(Ex2 fun c6 c7=>Γ'=[some (.ptr b),some (.ptr la),some (.lst (fs.map sfT)),some (.ptr kd),some (.lst (lay2.map lyT)),some (.int v),c6,c7,some (.int t),some (.ptr fd),none,none,none])/\∃ frm,LdSt G G' b l la kd [fd,ly] lane (.dz o vs kvs)/\G' fd=some (.dt frm)/\FmS (SrcF kvs lay2) lay2.length frm i/\∀ e∈kvs.take i,(getA frm e.1).isSome=true,⟨⟨_,_,rfl⟩,[],L2.kput _,by rw[gp_n (fun e=>L2.nb.2.2 (by rw[<-e];exact aQ))];exact gf,FmS.nil,fun e he=>by rw[take_zero] at he;cases he⟩,fun _ Γ' G' h=>h.2.choose_spec.1.kn,?_,?_⟩
  .rintro i x Γ' G' hx ⟨⟨c6,c7,rfl⟩,frm,L,hf,fd',hall⟩;rw[ak] at hx;obtain ⟨p,ep,rfl⟩:=bh.mp hx;obtain ⟨i',j',c,rfl,hc,_⟩:=kn.ok p (aF ep);have hil:=(aT.mp ep).1;have kl:=kn.len;obtain ⟨t2,et⟩:=lA.mp (ZnC (aF ep));obtain ⟨i3,j3,c3,e3,hc3,_⟩:=kn.ok _ (kC et);have et2:t2=.int c3:=congrArg Prod.snd e3;subst et2;refine cR (ds:=[.int i',.int j']) rfl ?_;ext;refine pP ?_;ext;refine ⟨_,⟨kd,rfl,.inl ⟨kvs,[.inl i',.inl j'],.inr ⟨o,vs,L.kn⟩,rfl,et.symm⟩⟩,?_⟩;ext;refine ⟨fd,frm,[.inl i',.inl j'],rfl,hf,rfl,by have:=fd'.len;lia,?_⟩;dsimp only;refine bQ ⟨⟨_,_,rfl⟩,_,L.put aQ (fun _=>nofun),gp_s,fd'.put (fm:=(c3,[])) (Fo.nil (bo (gH hc3) (by decide))) jw ⟨i',j',rfl,.inl ⟨c3,kC et,rfl⟩⟩,fun e he=>?_⟩;rw[eY,ep] at he;rcases aR.mp he with he|he
   .exact pF (hall e he)
   .have he:e=([.inl i',.inl j'],.int c):=by simpa using he
    rw[he];exact xl
  .rintro Γ' G' ⟨hy,frm,L,hf,fd',hall⟩;rw[af] at fd' hall;have kl:=kn.len;exact⟨hy,frm,o,vs,L,hf,⟨by have:=fd'.len;lia,fd'.ok⟩,fun e he=>hall e (by rw[eZ];exact he)⟩
 rintro Γ' G' ⟨⟨c6',c7',rfl⟩,frm,o,vs,L,hf,fmd,hall⟩;refine cX (fun Γ' G'=>(∃ c10,Γ'=[some (.ptr b),some (.ptr la),some (.lst (fs.map sfT)),some (.ptr kd),some (.lst (lay2.map lyT)),some (.int v),c6',c7',some (.int t),some (.ptr fd),c10,none,none])/\∃ frm,An5 (LdSt G G' b l la kd [fd,ly] lane (.dz o vs kvs)) (G' fd=some (.dt frm)) (FmS (SrcF kvs lay2) lay2.length frm 200) (∀ e∈kvs,(getA frm e.1).isSome=true) (∀ x∈lay2,(getA frm [.inl x.1,.inl x.2.1]).isSome=true)) ?_ ?_
 .ext;refine ⟨lay2.length,by rw[af],by lia,by lia,?_⟩;refine ⟨fun i Γ' G'=>(∃ c10,Γ'=[some (.ptr b),some (.ptr la),some (.lst (fs.map sfT)),some (.ptr kd),some (.lst (lay2.map lyT)),some (.int v),c6',c7',some (.int t),some (.ptr fd),c10,none,none])/\∃ frm,LdSt G G' b l la kd [fd,ly] lane (.dz o vs kvs)/\G' fd=some (.dt frm)/\FmS (SrcF kvs lay2) lay2.length frm (100+i)/\(∀ e∈kvs,(getA frm e.1).isSome=true)/\∀ x∈lay2.take i,(getA frm [.inl x.1,.inl x.2.1]).isSome=true,⟨⟨_,rfl⟩,frm,L,hf,fmd,hall,fun x hx=>by rw[take_zero] at hx;cases hx⟩,fun _ _ _ _=>trivial,?_,?_⟩
  .rintro u x Γ' G' hx ⟨⟨c10,rfl⟩,frm,L,hf,fmd,hall,hal2⟩;rw[bB] at hx;obtain ⟨rfl,hu⟩:=eT hx;have ex:lay2[u]?=some lay2[u]:=aC hu;generalize lay2[u]=y at ex;have hat:atI (lay2.map lyT) (u:Int)=some (lyT y):=cG (n:=u) rfl (by rw[ak,ex];rfl);ext;refine pP ?_;ext;refine aW hat ?_;ext;refine aW hat ?_;ext;refine eN ?_;rw[gQ (by decide) (by simp)];refine ⟨fd,frm,[.inl y.1,.inl y.2.1],rfl,hf,rfl,by have:=fmd.len;lia,?_⟩;dsimp only;refine bQ ⟨⟨_,rfl⟩,_,L.put aQ (fun _=>nofun),gp_s,fmd.put (fm:=(y.2.2,[(1,(u:Int))])) (iu (lo2.ok y (aF ex)).2 hu) pW ⟨y.1,y.2.1,rfl,.inr ⟨u,y.2.2,ex,rfl⟩⟩,fun e he=>pF (hall e he),fun z hz=>?_⟩;rw[eY,ex] at hz;rcases aR.mp hz with hz|hz
   .exact pF (hal2 z hz)
   .have hz:z=y:=by simpa using hz
    rw[hz];exact xl
  .rintro Γ' G' ⟨hy,frm,L,hf,fmd,hall,hal2⟩;rw[bB,ik] at fmd hal2;exact⟨hy,frm,L,hf,⟨by have:=fmd.len;lia,fmd.ok⟩,hall,fun x hx=>hal2 x (by rw[eZ];exact hx)⟩
 rintro Γ' G' ⟨⟨c10,rfl⟩,frm,L,hf,fmd,hall,hal2⟩;have all:∀ (i j:Nat) s',fs[i]?=some s'->j<s'.2.2.length->∃ fm,getA frm [.inl (i:Int),.inl (j:Int)]=some (fmT fm)/\Fo lay2.length (10^60) fm/\Cano fm/\SrcF kvs lay2 [.inl (i:Int),.inl (j:Int)] fm:=fun i j s' e1 e2=>by
  have hs:(getA frm [.inl (i:Int),.inl (j:Int)]).isSome=true:=by
   rcases cov2 i j s' e1 e2 (.inl (aT.mp e1).1) with h|⟨c,h⟩
   .obtain ⟨t',ht⟩:=lA.mp h;exact hall _ (kC ht)
   .exact hal2 _ h
  obtain⟨t',ht⟩:=lA.mp hs;obtain⟨fm,rfl,h1,h2,h3⟩:=fmd.ok _ _ ht;exact⟨fm,ht,h1,h2,h3⟩
 refine cT (dX (jF ?_));ext;intro pd npd;obtain⟨L5,np1,_⟩:=L.fresh npd (c:=.lst []) (fun _=>nofun);have npf:pd≠fd:=fun e=>np1 (by rw[e];exact aQ);have gf5:gput G' pd (.lst []) fd=some (.dt frm):=by rw[gp_n npf.symm];exact hf
 have gp5:gput G' pd (.lst []) pd=some (.lst ([].map sfT)):=gp_s;generalize gput G' pd (.lst [])=G5 at L5 gf5 gp5;refine bH ?_;refine cX (fun Γ' G'=>(Ex2 fun c6 c12=>Γ'=[some (.ptr b),some (.ptr la),some (.lst (fs.map sfT)),some (.ptr kd),some (.lst (lay2.map lyT)),some (.int v),c6,c7',some (.int t),some (.ptr fd),c10,some (.ptr pd),c12])/\∃ pap:List SF,An4 (LdSt G G' b l la kd [pd,fd,ly] lane (.dz o vs kvs)) (G' pd=some (.lst (pap.map sfT))) (pap.length=fs.length) (∀ (i:Nat) t s',pap[i]?=some t->fs[i]?=some s'->t.1=s'.1/\t.2.1=s'.2.1/\t.2.2.length=s'.2.2.length/\(∀ g∈t.2.2,Fo lay2.length (10^60) g/\Cano g)/\∀ (j:Nat) g,t.2.2[j]?=some g->SrcF kvs lay2 [.inl (i:Int),.inl (j:Int)] g)) ?_ ?_
 .ext;refine ⟨fs.length,by rw[af],by lia,by lia,?_⟩;refine ⟨fun i Γ' G'=>(Ex2 fun c6 c12=>Γ'=[some (.ptr b),some (.ptr la),some (.lst (fs.map sfT)),some (.ptr kd),some (.lst (lay2.map lyT)),some (.int v),c6,c7',some (.int t),some (.ptr fd),c10,some (.ptr pd),c12])/\∃ pap:List SF,LdSt G G' b l la kd [pd,fd,ly] lane (.dz o vs kvs)/\G' fd=some (.dt frm)/\G' pd=some (.lst (pap.map sfT))/\pap.length=i/\∀ (i:Nat) t s',pap[i]?=some t->fs[i]?=some s'->t.1=s'.1/\t.2.1=s'.2.1/\t.2.2.length=s'.2.2.length/\(∀ g∈t.2.2,Fo lay2.length (10 ^ 60) g/\Cano g)/\∀ (j:Nat) g,t.2.2[j]?=some g->SrcF kvs lay2 [.inl (i:Int),.inl (j:Int)] g,⟨⟨_,_,rfl⟩,[],L5,gf5,gp5,rfl,fun i t s' e=>by cases e⟩,fun _ _ _ _=>trivial,?_,?_⟩
  .rintro i x Γ' G' hx ⟨⟨c6,c12,rfl⟩,pap,L,hf,hp,hpl,hpa⟩;rw[bB] at hx;obtain ⟨rfl,hi⟩:=eT hx;have es:fs[i]?=some fs[i]:=aC hi;generalize fs[i]=si at es;have hb8:=bx si (aF es);have hat:atI (fs.map sfT) (i:Int)=some (sfT si):=cG (n:=i) rfl (by rw[ak,es];rfl);obtain ⟨fms,fl,fa⟩:=tj (R:=fun j fm=>getA frm [.inl (i:Int),.inl (j:Int)]=some (fmT fm)/\Fo lay2.length (10 ^ 60) fm/\Cano fm/\SrcF kvs lay2 [.inl (i:Int),.inl (j:Int)] fm) si.2.2.length fun j hj=>all i j si es hj;ext;refine cQ (fun Γ'=>∃ c,Γ'=[c,some (.ptr fd),some (.int (i:Int))]) ?_;ext;refine aW hat ?_;ext;refine ⟨si.2.2.length,by rw[af],by lia,by lia,by rw[bB,ik];lia,trivial,⟨none,rfl⟩,fms.map fmT,by rw[af,bB,ik];exact fl,?_,?_⟩
   .rintro j x y Γ' hx hy ⟨c,rfl⟩;rw[bB] at hx;obtain⟨rfl,hj⟩:=eT hx;rw[ak] at hy;obtain⟨fm,ef,rfl⟩:=bh.mp hy;ext;refine⟨⟨_,rfl⟩,rfl,?_⟩;ext;refine⟨_,⟨fd,rfl,.inl ⟨frm,[.inl (i:Int),.inl (j:Int)],.inl hf,rfl,(fa j fm ef).1.symm⟩⟩,rfl,rfl⟩
   ext;refine⟨ty_p hp,?_⟩;ext;refine aW hat ?_;ext;refine eN ?_;rw[gQ (by decide) (by simp)];ext;refine fe sg_l (fun _=>nofun) ?_;ext;refine gE (by simp) ?_;ext;refine gB hp (by rw[af];lia) ?_;dsimp only;refine bQ ⟨⟨_,_,rfl⟩,pap++[(si.1,si.2.1,fms)],L.put aQ (fun _=>nofun),by rw[gp_n npf.symm];exact hf,by rw[gp_s,aY];rfl,by rw[aJ,hpl];rfl,fun i' t' s' e1 e2=>?_⟩;rcases dN e1 with ⟨_,e1⟩|⟨e3,e4⟩
   .exact hpa i' t' s' e1 e2
   .rw[e3,hpl,es] at e2;cases e2;rw[e4];refine ⟨rfl,rfl,fl,fun g hg=>?_,fun j g hj=>?_⟩
    .obtain ⟨j,hj⟩:=gr.mp hg;exact⟨(fa j g hj).2.1,(fa j g hj).2.2.1⟩
    .rw[e3,hpl];exact(fa j g hj).2.2.2
  .rintro Γ' G' ⟨hy,pap,L,hf,hp,hpl,hpa⟩;rw[bB,ik] at hpl;exact⟨hy,pap,L,hp,hpl,hpa⟩
 rintro Γ' G' ⟨⟨c6,c12,rfl⟩,pap,L,hp,hpl,hpa⟩;have ppk:PpK Q lay2.length pap:=pap_ok fo (by lia) (by rw[hpl,hfs]) (by rw[hfs];exact fun i t s' e1 e2=>let ⟨a1,a2,a3,a4,_⟩:=hpa i t s' e1 e2;⟨a1,a2,a3,a4⟩);have hG:G'=gput (gdel G' pd) pd (.lst (pap.map sfT)):=by
  funext x;unfold gput gdel
  by_cases e:x=pd
  .rw[am e,e];exact hp
  .rw[ao e,ao e]
 have ndl:gdel G' pd pd=none:=by unfold gdel;rw[am rfl]
 have L6:=L.del np1;rw[hG];refine pN (i:=11) rfl ndl ?_;generalize gdel G' pd=G6 at L6;ext;refine⟨ty_p L6.ln,?_⟩;ext;refine gB L6.ln (by rw[af];lia) ?_;ext;have L7:=L6.app (lane++[⟨lay2.length,pap,.tup [.str "leave"]⟩]);rw[af];have e7:(lane++[(⟨lay2.length,pap,.tup [.str "leave"]⟩:StL)]).map stT=lane.map stT++[.tup [.int lay2.length,.lst (pap.map sfT),.tup [.str "leave"]]]:=by rw[aY];rfl
 rw[<-e7];exact L7.fin (au (q lay2 ⟨lay2.length,pap,.tup [.str "leave"]⟩ (.dz o vs kvs) lo2 ppk rfl rfl ⟨hpl,fun i t s' e1 e2=>let ⟨a1,a2,a3,_,a5⟩:=hpa i t s' e1 e2;⟨a1,a2,a3,a5⟩⟩ (fun _=>nofun)))
def LnR(Q:List Df)(lane lane':List StL)(kvs':List (Key×T)):Prop:=LnS Q lane' kvs'/\∃ ex:List StL,lane'=lane++ex/\ex.length<=1/\∀ d∈ex,d.dd=.tup [.str "leave"]
def Hit(fs:List SF)(m:Int):Prop:=m=0\/∃ t∈fs,∃ g∈t.2.2,∃ p∈g.2,p.2+1=m
def Znk:Pre:=fun ts G k=>∃ (la kd:Addr) (Q:List Df) (n B:Nat) (f:List SF) (s:SF) (lane:List StL) (kvs:List (Key×T)),ts=[.ptr la,.ptr kd,.lst ((f++[s]).map sfT)]/\G la=some (.lst (lane.map stT))/\G kd=some (.dk kvs)/\PgK Q/\FrsOk Q n B f s/\bY (f++[s])/\Chn Q (plcF (f++[s]))/\n<64/\lane.length<=900/\LnS Q lane kvs/\k .non G/\∀ (M k':Nat) (lane':List StL) (kvs':List (Key×T)),M<=n->LnR Q lane lane' kvs'->(pnL lane')[k']?=some (M,f++[s])->(∀ t∈f++[s],∀ g∈t.2.2,∀ p∈g.2,p.2<M)->k (.tup [.tup ((ay M).map fmT),.int k']) (gput (gput G la (.lst (lane'.map stT))) kd (.dk kvs'))
def qk{P:Program}{w:World}{K:W.Frag}{G:GH}{k:T->GH->Prop}(h:k (.int (i.natAbs:Int)) G):LNr P w K rAbs [.int i] G k:=fun H us g r Q z=>by
 cases r with|cons r1 r2=>cases r1;cases r2;exact⟨i,rfl,by have e:(if i<0 then -i else i)=(i.natAbs:Int):=(by split <;> lia);rw[e];exact z.here g .int h⟩
def mZ:CPow 10 60:=⟨by decide,by decide,by decide⟩
def FmL(m:Int)(g:Fm):Prop:=g.1.natAbs<10^60/\∀ p∈g.2,p.1.natAbs<10^60/\p.2<m
def FmL.up{m m':Int}{g:Fm}(h:FmL m g)(l:m<=m'):FmL m' g:=⟨h.1,fun p hp=>⟨(h.2 p hp).1,Int.lt_of_lt_of_le (h.2 p hp).2 l⟩⟩
def c60:(10:Int)^(60:Int).toNat=((10^60:Nat):Int):=by decide
def iS(h:i.natAbs<10^90):PlT n (.int i):=by cases n with|zero=>exact⟨i,rfl,h⟩|succ n=>exact .inl ⟨i,rfl,h⟩
def qC{x y:T}(h1:PlT n x)(h2:PlT n y):PlT (n+1) (.tup [x,y]):=.inr ⟨_,.inl rfl,fun u hu=>by
 simp only[aI,cw,dh] at hu;rcases hu with rfl|rfl
 .exact h1
 .exact h2⟩
def plt_fm{m:Int}{g:Fm}(h:FmL m g)(hw:∀ p∈g.2,0<=p.2/\p.2<64)(hl:g.2.length<64):PlT 3 (fmT g)/\lnT (fmT g)<=14000:=by
 have lt:∀ {i:Int},i.natAbs<10^60->i.natAbs<10^90:=fun h=>dU h (by decide);refine⟨qC (iS (lt h.1)) (.inr ⟨_,.inl rfl,fun u hu=>?_⟩),?_⟩
 .obtain ⟨p,hp,rfl⟩:=aU.mp hu;have:=hw p hp;exact qC (iS (lt (h.2 p hp).1)) (iS (lt (by lia)))
 .have:lnTs (g.2.map prT)<=(g.2.map prT).length * (208+2):=jQ fun t ht=>by
   obtain⟨p,_,rfl⟩:=aU.mp ht;simp[lnT,lnTs]
  rw[af] at this;simp only[lnT,lnTs];lia
def ZjW(pk:PgK Q)(hn:n < 64){m:Int}{fs:List SF}(few:fs.length<=4)(sok:∀ t∈fs,SfOk Q n B t)(hm:∀ t∈fs,∀ g∈t.2.2,FmL m g):PlT 6 (.lst (fs.map sfT))/\lnT (.lst (fs.map sfT))<=1000000:=by
 have one:∀ t∈fs,PlT 5 (sfT t)/\lnT (sfT t)<=113000:=fun t ht=>by
  obtain⟨d,r,hd,a2,_,a4,a1,a3,a5⟩:=eE (sok t ht);have b1:=(aT.mp a2).1;have b2:=(aT.mp a4).1;have b3:=pk.ok.2.1;have b4:=(pk.ok.2.2 d hd).n;have b5:=pk.b d hd;have lt:∀ {i:Int},0<=i->i.toNat<1000->i.natAbs<10^90:=fun h1 h2=>dU (show _<1000 by lia) (by decide);have fm:∀ g∈t.2.2,PlT 3 (fmT g)/\lnT (fmT g)<=14000:=fun g hg=>by
   have hf:=(sok t ht).fm g hg;have:=lY hf;exact plt_fm (hm t ht g hg) (fun p hp=>⟨(hf.w p hp).1,by have:=(hf.w p hp).2;lia⟩) (by lia)
  refine⟨.inr ⟨_,.inl rfl,fun u hu=>?_⟩,?_⟩
  .simp only[aI,cw,dh] at hu;rcases hu with rfl|rfl|rfl
   .exact iS (lt a1 (by lia))
   .exact iS (lt a3 (by lia))
   .exact .inr ⟨_,.inl rfl,fun u hu=>by obtain⟨g,hg,rfl⟩:=aU.mp hu;exact(fm g hg).1⟩
  .have:lnTs (t.2.2.map fmT)<=(t.2.2.map fmT).length * (14000+2):=jQ fun x hx=>by
    obtain⟨g,hg,rfl⟩:=aU.mp hx;exact(fm g hg).2
   rw[af] at this;simp only[lnT,lnTs];lia
 refine⟨.inr ⟨_,.inr rfl,fun u hu=>by obtain⟨t,ht,rfl⟩:=aU.mp hu;exact(one t ht).1⟩,?_⟩;have:lnTs (fs.map sfT)<=(fs.map sfT).length*(113000+2):=jQ fun x hx=>by
  obtain⟨t,ht,rfl⟩:=aU.mp hx;exact(one t ht).2
 rw[af] at this;simp only[lnT];lia
def ZhD:tq.C "_law_as_is" 2 ["lane","keys","frames"] Znk:=by
 refine tq.e7.okT ["lane","keys","frames","many","f","at","forms","c","parts","key"] fun ts G k nd hr hh=>?_;have hu1:=jO hr;have hu:=hr.units;obtain⟨la,kd,Q,n,B',f,s,lane,kvs,rfl,hla,hkd,pk,fo,cn,hch,hn,hlen,lk,q0,q⟩:=hh;generalize hfs:f++[s]=fs at cn hch;have few:fs.length<=4:=by rw[<-hfs,aJ];have:=fo.few;simp;lia
 have sok:∀ t∈fs,SfOk Q n B' t:=fun t ht=>fo.all t (by rw[hfs];exact ht);have bx:∀ t∈fs,t.2.2.length<=8:=fun t ht=>gw pk (sok t ht);refine' go_G [some (.ptr la),some (.ptr kd),some (.lst (fs.map sfT)),none,none,none,none,none,none,none] rfl ?hb ?hg
 case hb=>exact(ag (cp (i:=3) nd rfl (Or.inl rfl) aa) (ag (cy PassesOwn.never rfl (eU (K:=K) rfl (pv 2)) (cM (K:=K) (n:=3) rfl rfl (aV (pyn 4 nd) (aV (pyn 5 nd) (aV (pyn 6 nd) cA)))) (aj (cy PassesOwn.never rfl (dL (K:=K) rfl (pv 6)) (cM (K:=K) (n:=2) rfl rfl (aV (pyn 7 nd) (aV (pyn 8 nd) cA))) (ag (aL (aB op_ge (aG (vN (K:=K) rfl rfl) (by rfl) tq.b_max m7 (bK (aw ff (bt (aM (aG nh (by rfl) tq.b_abs mI (wx 7)) ab)) (fS (LN:=["a","w"]) (FN:=[]) (fr:=[]) rfl (dE (by rfl)) (dL (K:=K) rfl (pv 8)) (fun _ _ _ _ _ _=>(cM (K:=K) (n:=2) rfl rfl (aV (pyb 0) (aV (pyb 1) cA)))) (fun _ _ _ _ _ _=>dI) (fun _ _ _ _ _ _=>(aG nh (by rfl) tq.b_abs mI (wx 0))))) ab)) (aw jJ aa aa) (aA _)) (aj (ax dF)) aO) (aj (bE (i:=3) nd rfl (Or.inl rfl) (aG (vN (K:=K) rfl rfl) (by rfl) tq.b_max m7 (bK (aw ff (bt (wx 3)) (fS (LN:=["a","w"]) (FN:=[]) (fr:=[]) rfl (dE (by rfl)) (dL (K:=K) rfl (pv 8)) (fun _ _ _ _ _ _=>(cM (K:=K) (n:=2) rfl rfl (aV (pyb 0) (aV (pyb 1) cA)))) (fun _ _ _ _ _ _=>dI) (fun _ _ _ _ _ _=>(aw bw (pv 1) aa)))) ab)))))))) (ag (aL (aB eQ (pv 3) aa (aA _)) (aj (ax dF)) aO) (ag (bE (i:=9) nd rfl (Or.inl rfl) (du (xJ (K:=K) hr.gd hr.units) (by rfl) tq.b_str kz (wx 2))) (ag (aL (pL (qA hu1 (pv 9) (pv 1))) (ag (iz hu1 (pv 1) (pv 9) (av (aM (aG (bc (K:=K) rfl) (by rfl) tq.b_len bf (wx 0)) (g9 (bt ab) ab))) rfl) (aj (eC (k_bm (K:=K) rfl PySem.F.plainAttrs_list PySem.F.slot_list_append PySem.F.type_list_append gK (pv 0) (aS (av (x9 3 (aM (du (oN (K:=K) rfl) (by rfl) tq.b_list iQ (wx 2)) (aS (av (ah aD ab)) ab)))) ab))))) aO) (aj (ax (av (aM (du (fh (K:=K) rfl) (by rfl) tq.b_tuple di (aM (pyk (mi tq :) hr.m (wx 3)) ab)) (aH (x8 K (hZ hu1 (pv 1) (pv 9) (fun _ _=>rfl)) aa) ab))))))))))
 refine cT (dX (qo (bH ?_)));refine cX (fun Γ' G'=>(∃ m c4 c5 c6 c7 c8,(0:Int)<=m/\m<=n/\Hit fs m/\(∀ t∈fs,∀ g∈t.2.2,FmL m g)/\Γ'=[some (.ptr la),some (.ptr kd),some (.lst (fs.map sfT)),some (.int m),c4,c5,c6,c7,c8,none])/\G'=G) ?_ ?_
 .ext;refine ⟨_,si_l,fun i Γ' G'=>(∃ m c4 c5 c6 c7 c8,(0:Int)<=m/\m<=n/\Hit fs m/\(∀ t∈fs.take i,∀ g∈t.2.2,FmL m g)/\Γ'=[some (.ptr la),some (.ptr kd),some (.lst (fs.map sfT)),some (.int m),c4,c5,c6,c7,c8,none])/\G'=G,⟨⟨0,_,_,_,_,_,by decide,by lia,.inl rfl,(fun t ht=>by rw[take_zero] at ht;cases ht),rfl⟩,rfl⟩,fun _ _ _ _=>si_l,?_,?_⟩
  .rintro i x Γ' G' hx ⟨⟨m,c4,c5,c6,c7,c8,m0,m1,ht1,hm,rfl⟩,rfl⟩;rw[ak] at hx;obtain ⟨si,es,rfl⟩:=bh.mp hx;have hsi:=sok si (aF es);refine cR rfl ?_;ext;refine ⟨_,rfl,fun j Γ' G2=>(∃ m c7 c8,(0:Int)<=m/\m<=n/\Hit fs m/\(∀ t∈fs.take i,∀ g∈t.2.2,FmL m g)/\(∀ g∈si.2.2.take j,FmL m g)/\Γ'=[some (.ptr la),some (.ptr kd),some (.lst (fs.map sfT)),some (.int m),some (.int si.1),some (.int si.2.1),some (.tup (si.2.2.map fmT)),c7,c8,none])/\G2=G',⟨⟨m,_,_,m0,m1,ht1,hm,(fun g hg=>by rw[take_zero] at hg;cases hg),rfl⟩,rfl⟩,fun _ _ _ _=>trivial,?_,?_⟩
   .rintro j x Γ' G2 hx ⟨⟨m,c7,c8,m0,m1,ht1,hm,hm2,rfl⟩,rfl⟩;rw[ak] at hx;obtain ⟨g,eg,rfl⟩:=bh.mp hx;have hg:=hsi.fm g (aF eg);have gl:=lY hg;refine cR rfl ?_;ext;refine qk ?_;ext;refine cQ (fun Γ'=>Ex2 fun a b=>Γ'=[a,b]) ?_;ext;refine ⟨_,rfl,by rw[af];lia,trivial,⟨none,none,rfl⟩,(g.2.map fun p=>(p.1.natAbs:Int)).map T.int,by rw[af,af,af],?_,?_⟩
    .rintro u x y Γ' hx hy ⟨a,b,rfl⟩;rw[ak] at hx;obtain⟨p,ep,rfl⟩:=bh.mp hx;rw[ak,ak,ep] at hy;cases hy;refine cR rfl ?_;ext;refine⟨⟨_,_,rfl⟩,rfl,?_⟩;ext;refine qk ?_;exact⟨rfl,rfl⟩
    refine fz (ts:=[.int (g.1.natAbs:Int)]) si_l si_l (by simp;lia) ?_;refine i6 ?_;refine ve (ns:=(g.1.natAbs:Int)::g.2.map fun p=>(p.1.natAbs:Int)) (by simp) fun M hM hx=>?_;ext;refine l_IC mZ ?_;rw[c60];ext;refine bU (fun _=>?_) fun hlt=>?_
    .ext;exact au q0
    have hg1:g.1.natAbs<10^60/\∀ p∈g.2,p.1.natAbs<10^60:=by
     refine⟨?_,fun p hp=>?_⟩
     .have:=hx _ aQ;lia
     .have:=hx (p.1.natAbs:Int) (bD _ (aU.mpr ⟨p,hp,rfl⟩));lia
    ext;refine cQ (fun Γ'=>Ex2 fun a b=>Γ'=[a,b]) ?_;ext;refine⟨_,rfl,by rw[af];lia,trivial,⟨none,none,rfl⟩,(g.2.map fun p=>p.2+1).map T.int,by rw[af,af,af],?_,?_⟩
    .rintro u x y Γ' hx hy ⟨a,b,rfl⟩;rw[ak] at hx;obtain⟨p,ep,rfl⟩:=bh.mp hx;rw[ak,ak,ep] at hy;cases hy;refine cR rfl ?_;ext;refine⟨⟨_,_,rfl⟩,rfl,?_⟩;ext;exact⟨rfl,rfl⟩
    refine fz (ts:=[.int m]) si_l si_l (by simp;lia) ?_;refine i6 ?_;refine ve (ns:=m::g.2.map fun p=>p.2+1) (by simp) fun M2 hM2 hx2=>?_;have mM:m<=M2:=hx2 _ aQ;refine bH ?_;dsimp only;refine bQ ⟨⟨M2,_,_,by lia,?_,?_,fun t ht g' hg'=>(hm t ht g' hg').up mM,fun g' hg'=>?_,rfl⟩,rfl⟩
    .rcases aI.mp hM2 with e|e
     .lia
     .obtain ⟨p,hp,rfl⟩:=aU.mp e;have:=(hg.w p hp).2;lia
    .rcases aI.mp hM2 with e|e
     .rw[e];exact ht1
     .obtain ⟨p,hp,e⟩:=aU.mp e;exact .inr ⟨si,aF es,g,aF eg,p,hp,e⟩
    .rw[eY,eg] at hg';rcases aR.mp hg' with hg'|hg'
     .exact (hm2 g' hg').up mM
     .have hg':g'=g:=by simpa using hg'
      rw[hg'];refine⟨hg1.1,fun p hp=>⟨hg1.2 p hp,?_⟩⟩;have:=hx2 (p.2+1) (bD _ (aU.mpr ⟨p,hp,rfl⟩));lia
   .rintro Γ' G2 ⟨⟨m,c7,c8,m0,m1,ht1,hm,hm2,rfl⟩,rfl⟩;rw[af,eZ] at hm2;dsimp only;refine bQ ⟨⟨m,_,_,_,_,_,m0,m1,ht1,fun t ht=>?_,rfl⟩,rfl⟩;rw[eY,es] at ht;rcases aR.mp ht with ht|ht
    .exact hm t ht
    .have ht:t=si:=by simpa using ht
     rw[ht];exact hm2
  .rintro Γ' G' ⟨⟨m,c4,c5,c6,c7,c8,m0,m1,ht1,hm,rfl⟩,rfl⟩;rw[af,eZ] at hm;exact⟨⟨m,_,_,_,_,_,m0,m1,ht1,hm,rfl⟩,rfl⟩
 rintro Γ' G' ⟨⟨m,c4,c5,c6,c7,c8,m0,m1,ht1,hm,rfl⟩,rfl⟩;obtain⟨pl1,pl2⟩:=ZjW pk hn few sok hm;ext;refine bU (fun _=>?_) fun h40=>?_
 .ext;exact au q0
 obtain⟨M,rfl⟩:∃ M:Nat,m=M:=⟨m.toNat,by lia⟩;have ppk:PpK Q M fs:=by
  refine⟨by lia,⟨f,s,hfs.symm,fo.few,fun t ht=>⟨(fo.all t ht).ex,fun g hg=>?_⟩,fo.call⟩,cn⟩;have hf:=(fo.all t ht).fm g hg;have hg':=hm t (by rw[<-hfs];exact ht) g hg;exact⟨gH hg'.1,fun p hp=>gH (hg'.2 p hp).1,fun p hp=>⟨(hf.w p hp).1,(hg'.2 p hp).2⟩,hf.nd⟩
 ext;refine wj pl1 ⟨_,.inr rfl⟩ (by decide) pl2 ?_;refine bH ?_;have ky:KyA M fs (shT (.lst (fs.map sfT))):=⟨by rw[<-hfs];simp,⟨m0,fun t ht g hg p hp=>(hm t ht g hg).2 p hp |>.2,ht1⟩,rfl,jv pl1 (by decide)⟩;generalize shT (.lst (fs.map sfT))=key at ky;have nkl:kd≠la:=fun e=>by rw[e,hla] at hkd;cases hkd
 refine cX (fun Γ' G2=>Γ'=[some (.ptr la),some (.ptr kd),some (.lst (fs.map sfT)),some (.int (M:Int)),c4,c5,c6,c7,c8,some (.str key)]/\∃ (lane':List StL) (kvs':List (Key×T)) (k':Nat) (lay:List T),G2=gput (gput G' la (.lst (lane'.map stT))) kd (.dk kvs')/\LnR Q lane lane' kvs'/\getA kvs' (.inr key:Key)=some (.tup [.int k',.lst lay])/\(pnL lane')[k']?=some (M,fs)) ?_ ?_
 .ext;refine ⟨_,⟨kd,rfl,.inr ⟨kvs,key,hkd,rfl,rfl⟩⟩,?_⟩;ext;cases hg:getA kvs (.inr key:Key) with
  | some t =>
   refine iteF ?_;ext;obtain⟨k',lay,n2,fr2,rfl,e2,e3⟩:=lk.at hg;have e4:fr2=fs/\n2=M:=by
    rcases e3 with ⟨_,a⟩|⟨l2,its2,b⟩
    .exact key_aa a ky
    .exact (key_ab ky b).elim
   exact⟨rfl,lane,kvs,k',_,by rw[gU hla,gU hkd],⟨lk,[],by simp,by simp,fun d hd=>nomatch hd⟩,hg,by rw[e2,e4.1,e4.2]⟩
  | none =>
   refine iteT ?_;refine cT (tY ?_);ext;refine cu (sg_p hla) ?_;rw[af];ext;refine⟨kd,kvs,key,rfl,hkd,rfl,by have:=lk.kl;lia,?_⟩;have hla2:gput G' kd (.dk (putA kvs (.inr key) (.tup [.int lane.length,.lst []]))) la=some (.lst (lane.map stT)):=by rw[gp_n nkl.symm];exact hla
   ext;refine⟨ty_p hla2,?_⟩;ext;refine rX sg_l ?_;ext;refine gB hla2 (by rw[af];lia) ?_;have ln:=lk.snoc (d:=⟨M,fs,.tup [.str "leave"]⟩) ppk (.tup (by simp) fun u hu=>by rw[aK.mp hu];exact .str) hch hg (lay:=[]) (.inl ⟨rfl,ky⟩);refine⟨rfl,lane++[⟨M,fs,.tup [.str "leave"]⟩],_,lane.length,[],?_,⟨ln,[_],rfl,by simp,fun d hd=>by rw[aK.mp hd]⟩,by rw[kj,am rfl];rfl,by
    have lp:pnL (lane++[⟨M,fs,.tup [.str "leave"]⟩])=pnL lane++[(M,fs)]:=aY;have ll:(pnL lane).length=lane.length:=af _;rw[lp,<- ll];exact cE⟩
   rw[gp_c nkl,aY];rfl
 rintro Γ' G2 ⟨rfl,lane',kvs',k',lay,rfl,lg,hg,hk⟩;ext;refine⟨M,rfl,by lia,fun a na=>?_⟩;refine i6 (fe (sg_p gp_s) (fun _=>nofun) ?_);have nak:kd≠a:=g_ne (c:=.dk kvs') gp_s na;ext;refine⟨_,⟨kd,rfl,.inr ⟨kvs',key,by rw[gp_n nak];exact gp_s,rfl,hg.symm⟩⟩,?_⟩;ext;exact eO na (fun _=>nofun) (au (q M k' lane' kvs' (by lia) lg (by rw[hfs];exact hk) (by rw[hfs];exact fun t ht g hg p hp=>((hm t ht g hg).2 p hp).2)))
def fQ{b:Bool}{A B:Prop}(h1:b=true->A)(h2:b=false->B):if b=true then A else B:=by cases b with|true=>exact iteT (h1 rfl)|false=>exact iteF (h2 rfl)
def m3{P:Program}{w:World}{K:W.Frag}{c:TT}{G:GH}{k1 k2:Bool->GH->Prop}(h:Wt P w K c Γ G k1)(m:∀ b G',k1 b G'->k2 b G'):Wt P w K c Γ G k2:=fun H Z g ev Q z=>h H Z g ev Q fun b H' G' s g' q=>z b H' G' s g' (m b G' q)
def ZpZ{P:Program}{w:World}{K:W.Frag}{G:GH}{k:T->GH->Prop}{y:Str}(hz:x.length+y.length<=sizeLine)(h:k (.str (x++y)) G):L2r P w K rAddS (.str x) (.str y) G k:=fun H u v g r1 r2 Q z=>by cases r1;cases r2;exact⟨x,y,rfl,rfl,hz,z.here g .str h⟩
def vj{fs:List SF}{x:L3i}(h:InFr fs x.1 x.2.1):∃ s,fs[x.1.toNat]?=some s/\s.2.2[x.2.1.toNat]?=some (gAt fs x):=by
 obtain⟨h0,h1,s,es,hl⟩:=h;refine⟨s,es,?_⟩;unfold gAt gtF;rw[es,gh,rA,cJ,aC (by lia)];rfl
def cpow9:CPow 10 9:=⟨by decide,by decide,by decide⟩
def pow9:(10:Int)^(9:Int).toNat=((10^9:Nat):Int):=by decide
def Zli:Pre:=fun ts G k=>∃ (b l la kd:Addr) (Q:List Df) (n B:Nat) (f:List SF) (s:SF) (lane:List StL) (kvs:List (Key×T)),ts=[.ptr b,.ptr la,.ptr kd,.lst ((f++[s]).map sfT)]/\G b=some (.bag l)/\G la=some (.lst (lane.map stT))/\G kd=some (.dk kvs)/\PgK Q/\FrsOk Q n B f s/\bY (f++[s])/\Chn Q (plcF (f++[s]))/\n<64/\B<=10^800/\lane.length<=890/\LnS Q lane kvs/\∀ (moves:List Fm) (k' n':Nat) (fr:List SF) (lane':List StL) (kvs':List (Key×T)),LnR Q lane lane' kvs'->(pnL lane')[k']?=some (n',fr)->moves.length=n'->fr.map (bJ moves)=f++[s]->(∀ g∈moves,Cano g/\Fo n (B+2) g)->k (.tup [.tup (moves.map fmT),.int k']) (gput (gput G la (.lst (lane'.map stT))) kd (.dk kvs'))
def vf:tq.C "_law_target" 3 ["bag","lane","keys","frames"] Zli:=by
 refine tq.e8.okT ["bag","lane","keys","frames","found","known","i","j","c","parts","key","k","layout"] fun ts G k nd hr hh=>?_;have hu1:=jO hr;have hu:=hr.units;obtain⟨b,l,la,kd,Q,n,B',f,s,lane,kvs,rfl,hb,hla,hkd,pk,fo,cn,hch,hn,hB,hlen,lk,q⟩:=hh;have cnf:=cn;generalize hfs:f++[s]=fs at cnf;have few:fs.length<=4:=by rw[<-hfs,aJ];have:=fo.few;simp;lia
 have sok:∀ t∈fs,SfOk Q n B' t:=fun t ht=>fo.all t (by rw[hfs];exact ht);have bx:∀ t∈fs,t.2.2.length<=8:=fun t ht=>gw pk (sok t ht);refine' go_G [some (.ptr b),some (.ptr la),some (.ptr kd),some (.lst (fs.map sfT)),none,none,none,none,none,none,none,none,none] rfl ?hb ?hg
 case hb=>exact(ag (aL (PW.pt (bV (aB ba (pyk (aZ tq :) hr.m (x9 0 (ah aa ab))) aa (aA _)) (bV (aB eQ (aG (bc (K:=K) rfl) (by rfl) tq.b_len bf (wx 1)) aa (aA _)) (cF (aB dM (aG (bc (K:=K) rfl) (by rfl) tq.b_len bf (wx 1)) aa (aA _)))))) (ag (bE (i:=4) nd rfl (Or.inl rfl) (pyk (ZhD tq :) hr.m (x9 1 (x9 2 (wx 3))))) (aj (aL (aB qP (pv 4) dF (aA _)) (aj (ax (pv 4))) aO))) aO) (ag (cp (i:=5) nd rfl (Or.inl rfl) sD) (ag (cy PassesOwn.never rfl (cV rfl tq.b_range (aM (aG (bc (K:=K) rfl) (by rfl) tq.b_len bf (wx 3)) ab)) (pyn 6 nd) (aj (cy PassesOwn.never rfl (cV rfl tq.b_range (aM (aG (bc (K:=K) rfl) (by rfl) tq.b_len bf (aH (x8 K (x8 K (pv 3) (pv 6)) aa) ab)) ab)) (pyn 7 nd) (ag (bX (x8 K (x8 K (x8 K (pv 3) (pv 6)) aa) (pv 7)) (cM (K:=K) (n:=2) rfl rfl (aV (pyn 8 nd) (aV (pyn 9 nd) cA)))) (aj (aL (PW.pt (bV (aB (v4 hu) (pv 9) (av ab) (aA _)) (bV (aB dM (aG nh (by rfl) tq.b_abs mI (wx 8)) (aw jJ aa aa) (aA _)) (bV (aB dM (aG (bc (K:=K) rfl) (by rfl) tq.b_len bf (wx 1)) aa (aA _)) (cF (aB ba (pyk (aZ tq :) hr.m (x9 0 (ah aa ab))) aa (aA _))))))) (aj (iz hu1 (pv 5) (av (x9 6 (wx 7))) (pv 8) rfl)) aO)))))) (ag (cZ (i:=10) nd rfl (Or.inl rfl) (aw ZpP (du (xJ (K:=K) hr.gd hr.units) (by rfl) tq.b_str kz (dW (pyc ["frame"] [] [] (eU (K:=K) rfl (pv 3)) (fun _ _ _ _ _ _=>(cO (eP (K:=K) rfl) (pv 0) cL (cK aa)))) ab)) (ZpH hr.gd hr.units rfl (by rfl) tq.b_str (by rfl) tq.b_sorted (pv 5)))) (ag (aL (pL (qA hu1 (pv 10) (pv 2))) (aj (iz hu1 (pv 2) (pv 10) (av (aM (aG (bc (K:=K) rfl) (by rfl) tq.b_len bf (wx 1)) (aM (pyk (Zit tq :) hr.m (x9 0 (x9 1 (x9 3 (wx 5))))) ab))) rfl)) aO) (ag (bX (hZ hu1 (pv 2) (pv 10) (fun _ _=>rfl)) (cM (K:=K) (n:=2) rfl rfl (aV (pyn 11 nd) (aV (pyn 12 nd) cA)))) (aj (ax (av (aM (du (fh (K:=K) rfl) (by rfl) tq.b_tuple di (dW (fS (LN:=["i","j","c"]) (FN:=["frames"]) (fr:=[3]) rfl (dE (by rfl)) (eU (K:=K) rfl (pv 12)) (fun _ _ _ _ _ _=>(cM (K:=K) (n:=3) rfl rfl (aV (pyb 0) (aV (pyb 1) (aV (pyb 2) cA))))) (fun _ _ _ _ _ _=>dI) (fun _ _ _ _ _ _=>(pyk (mz tq :) hr.m (aH (x8 K (x8 K (x8 K (pv 3) (pv 0)) aa) (pv 1)) (aS (av (x9 2 (aS (av ab) ab))) (tW (ck cj aa) ab)))))) ab)) (wx 11)))))))))))
 refine cX (fun Γ' G'=>(∃ c4,Γ'=[some (.ptr b),some (.ptr la),some (.ptr kd),some (.lst (fs.map sfT)),c4,none,none,none,none,none,none,none,none])/\G'=G) ?_ ?_
 .refine jt (m3 (k1:=fun _ G'=>G'=G) ?_ fun bb G' e=>?_)
  .ext;refine bj hb ⟨by decide,by decide⟩ fun v _ _=>?_;ext;refine fQ (fun _=>?_) fun _=>rfl;ext;refine cu (sg_p hla) ?_;ext;refine fQ (fun _=>?_) fun _=>rfl;ext;refine cu (sg_p hla) ?_;ext;rfl
  .subst e;refine fQ (fun _=>?_) fun _=>?_
   .ext;refine ⟨la,kd,Q,n,B',f,s,lane,kvs,by rw[hfs],hla,hkd,pk,fo,cn,hch,hn,by lia,lk,?_,fun M k' lane' kvs' h0 h1 h2 h3=>?_⟩
    .ext;exact⟨⟨_,rfl⟩,rfl⟩
    .ext;refine au (q (ay M) k' M (f++[s]) lane' kvs' h1 h2 (by unfold ay;rw[af,dC]) (Zmd cn fun t ht g hg p hp=>⟨(((fo.all t ht).fm g hg).w p hp).1,h3 t ht g hg p hp⟩) fun g hg=>?_);unfold ay at hg;obtain ⟨j,hj,rfl⟩:=aU.mp hg;have hj:=gG.mp hj;refine ⟨lf _,bO _,fun p hp=>?_,fun p hp=>?_,by simp[ofW]⟩
     .rw[aK.mp hp];show (1:Int).natAbs<=_;lia
     .rw[aK.mp hp];exact⟨Int.natCast_nonneg j,by show (j:Int)<n;lia⟩
   .ext;exact⟨⟨_,rfl⟩,rfl⟩
 rintro Γ' G' ⟨⟨c4,rfl⟩,rfl⟩;have L0:=LdSt.start hb hla hkd (.inr ⟨_,rfl⟩);refine cT (dX (t6 fun nn nnn=>bH ?_));obtain⟨L1,_⟩:=L0.fresh nnn (c:=.dt []) (fun _=>nofun);refine cX (fun Γ' G2=>(Ex4 fun c6 c7 c8 c9=>Γ'=[some (.ptr b),some (.ptr la),some (.ptr kd),some (.lst (fs.map sfT)),c4,some (.ptr nn),c6,c7,c8,c9,none,none,none])/\∃ kn,An5 (LdSt G' G2 b l la kd [nn] lane (.dk kvs)) (G2 nn=some (.dt kn)) (KnG fs kn) (∃ m,Rs kn m) (∀ e∈kn,∃ i j c:Int,e=([.inl i,.inl j],.int c)/\c.natAbs<10^9/\InFr fs i j/\KnI fs i j c)) ?_ ?_
 .ext;refine ⟨fs.length,by rw[af],by lia,by lia,?_⟩;refine ⟨fun i Γ' G2=>(Ex4 fun c6 c7 c8 c9=>Γ'=[some (.ptr b),some (.ptr la),some (.ptr kd),some (.lst (fs.map sfT)),c4,some (.ptr nn),c6,c7,c8,c9,none,none,none])/\∃ kn,LdSt G' G2 b l la kd [nn] lane (.dk kvs)/\G2 nn=some (.dt kn)/\kn.length<=8 * i/\Rs kn (1000 * i)/\∀ e∈kn,∃ i j c:Int,e=([.inl i,.inl j],.int c)/\c.natAbs < 10 ^ 9/\InFr fs i j/\KnI fs i j c,⟨⟨_,_,_,_,rfl⟩,[],L1,gp_s,bO _,Rs.nil,fun e he=>by cases he⟩,fun _ _ _ _=>trivial,?_,?_⟩
  .rintro i x Γ' G2 hx ⟨⟨c6,c7,c8,c9,rfl⟩,kn,L,hk,hl8,hrs,hin⟩;rw[bB] at hx;obtain ⟨rfl,hi⟩:=eT hx;have es:fs[i]?=some fs[i]:=aC hi;generalize fs[i]=si at es;have hb8:=bx si (aF es);have hat:atI (fs.map sfT) (i:Int)=some (sfT si):=cG (n:=i) rfl (by rw[ak,es];rfl);ext;refine aW hat ?_;ext;refine ⟨si.2.2.length,by rw[af],by lia,by lia,?_⟩;refine ⟨fun j Γ' G2=>(Ex3 fun c7 c8 c9=>Γ'=[some (.ptr b),some (.ptr la),some (.ptr kd),some (.lst (fs.map sfT)),c4,some (.ptr nn),some (.int (i:Int)),c7,c8,c9,none,none,none])/\∃ kn,LdSt G' G2 b l la kd [nn] lane (.dk kvs)/\G2 nn=some (.dt kn)/\kn.length<=8 * i+j/\Rs kn (1000 * i+j)/\∀ e∈kn,∃ i j c:Int,e=([.inl i,.inl j],.int c)/\c.natAbs < 10 ^ 9/\InFr fs i j/\KnI fs i j c,⟨⟨_,_,_,rfl⟩,kn,L,hk,hl8,hrs.mono (by lia),hin⟩,fun _ _ _ _=>trivial,?_,?_⟩
   .rintro j x Γ' G2 hx ⟨⟨c7,c8,c9,rfl⟩,kn,L,hk,hl8,hrs,hin⟩;rw[bB] at hx;obtain ⟨rfl,hj⟩:=eT hx;have eg:si.2.2[j]?=some si.2.2[j]:=aC hj;generalize si.2.2[j]=g at eg;ext;refine aW hat ?_;ext;refine eS (cG (n:=j) rfl (by rw[ak,eg];rfl)) ?_;refine cR rfl (gO (bH (gO (bH (l0 ?_)))));refine jt (m3 (k1:=fun bb G3=>G3=G2/\(bb=true->g.1.natAbs < 10 ^ 9/\g.2=[])) ?_ fun bb G3 e=>?_)
    .ext;refine qz ?_;ext;refine fQ (fun hq0=>?_) fun _=>⟨rfl,nofun⟩;have hq0:g.2=[]:=lL hq0;ext;refine qk ?_;ext;refine l_IC cpow9 ?_;rw[pow9];obtain⟨M9,hM9⟩:∃ M:Int,M=((10^9:Nat):Int):=⟨_,rfl⟩;rw[<-hM9];ext;refine bU (fun h9=>?_) fun _=>⟨rfl,nofun⟩;ext;refine cu (sg_p L.ln) ?_;ext;refine fQ (fun _=>?_) fun _=>⟨rfl,nofun⟩;ext;refine bj L.bag ⟨by decide,by decide⟩ fun v _ _=>?_;ext;exact⟨rfl,fun _=>⟨by lia,hq0⟩⟩
    .obtain ⟨rfl,e9⟩:=e;refine fQ (fun ht=>?_) fun _=>?_
     .obtain ⟨e9,e10⟩:=e9 ht;have kni:KnI fs (i:Int) (j:Int) g.1:=⟨si,by rw[bB];exact es,by rw[bB,eg];exact congrArg some (Prod.ext rfl e10)⟩;refine pP ?_;ext;refine ⟨nn,kn,[.inl (i:Int),.inl (j:Int)],rfl,hk,rfl,by lia,?_⟩;dsimp only;obtain ⟨pe,pr⟩:=hrs.put (v:=.int g.1);rw[pe];refine bQ ⟨⟨_,_,_,rfl⟩,_,L.put aQ (fun _=>nofun),gp_s,by rw[aJ];simp;lia,by simpa using pr,fun e he=>?_⟩;rcases aR.mp he with he|he
      .exact hin e he
      .rw[aK.mp he];exact⟨i,j,g.1,rfl,e9,⟨by lia,by lia,si,by simpa using es,by lia⟩,kni⟩
     .ext;dsimp only;exact bQ ⟨⟨_,_,_,rfl⟩,kn,L,hk,by lia,hrs.mono (by lia),hin⟩
   .rintro Γ' G2 ⟨⟨c7,c8,c9,rfl⟩,kn,L,hk,hl8,hrs,hin⟩;rw[bB,ik] at hl8 hrs;dsimp only;exact bQ ⟨⟨_,_,_,_,rfl⟩,kn,L,hk,by lia,hrs.mono (by lia),hin⟩
  .rintro Γ' G2 ⟨⟨c6,c7,c8,c9,rfl⟩,kn,L,hk,hl8,hrs,hin⟩;rw[bB,ik] at hl8;exact⟨⟨_,_,_,_,rfl⟩,kn,L,hk,⟨by lia,fun e he=>let ⟨i,j,c,a1,a2,a3,_⟩:=hin e he;⟨i,j,c,a1,a2,a3⟩⟩,⟨_,hrs⟩,hin⟩
 rintro Γ' G2 ⟨⟨c6,c7,c8,c9,rfl⟩,kn,L,hk,kg,⟨mm,hrs⟩,kgi⟩;have f1:∀ t∈fs,t.1.natAbs<1000/\t.2.1.natAbs<1000:=fun t ht=>by
  obtain⟨d,r,hd,a2,_,a4,a1,a3,a5⟩:=eE (sok t ht);have b1:=(aT.mp a2).1;have b2:=(aT.mp a4).1;have b3:=pk.ok.2.1;have b4:=(pk.ok.2.2 d hd).n;lia
 ext;refine cQ (fun Γ'=>∃ a,Γ'=[a]) ?_;ext;refine⟨_,si_l,by rw[af];lia,si_l,⟨none,rfl⟩,(plcs fs).map plT,by rw[af,af,af],?_,?_⟩
 .rintro i x y Γ' hx hy ⟨a,rfl⟩;rw[ak] at hx;obtain⟨t,et,rfl⟩:=bh.mp hx;rw[ak,ak,et] at hy;cases hy;ext;refine⟨⟨_,rfl⟩,rfl,?_⟩;ext;refine eN ?_;rw[gQ (by decide) (by simp)];exact⟨rfl,rfl⟩
 have pl1:∀ p∈plcs fs,PlT 1 (plT p)/\lnT (plT p)<=300:=fun p hp=>by
  obtain⟨t,ht,rfl⟩:=aU.mp hp;obtain⟨h1,h2⟩:=f1 t ht;exact⟨qC (iS (dU h1 (by decide))) (iS (dU h2 (by decide))),by simp[lnT,lnTs]⟩
 have pl2:PlT 2 (.lst ((plcs fs).map plT)):=.inr ⟨_,.inr rfl,fun u hu=>by obtain⟨p,hp,rfl⟩:=aU.mp hu;exact(pl1 p hp).1⟩;have pl3:lnT (.lst ((plcs fs).map plT))<=2000:=by
  have:lnTs ((plcs fs).map plT)<=((plcs fs).map plT).length*(300+2):=jQ fun x hx=>by
   obtain⟨p,hp,rfl⟩:=aU.mp hx;exact(pl1 p hp).2
  rw[af,af] at this;simp only[lnT];lia
 refine i6 (wj pl2 ⟨_,.inr rfl⟩ (by decide) (by lia) ?_);ext;obtain⟨ps,eps,hps⟩:=un_kv (f:=fun p:I3=>(([.inl p.1.1,.inl p.1.2]:List Key),T.int p.2)) (S:=fun p=>(BdI p/\p.1.1.natAbs<1000)/\BdI p/\0<=p.1.2/\p.1.2<1000) kn fun e he=>by
  obtain⟨i,j,c,rfl,h1,h2,h3,s',h4,h5⟩:=kg.ok e he;have b1:=(aT.mp h4).1;have b2:=bx s' (aF h4);have bd:BdI ((i,j),c):=⟨by show (2*j.natAbs:Int)<2001;lia,by show (2*c.natAbs:Int)<_;lia⟩;exact⟨((i,j),c),rfl,⟨bd,by show i.natAbs<1000;lia⟩,bd,h3,by show j<1000;lia⟩
 have psl:ps.length<64:=by have:=kg.len;rw[eps,af] at this;exact this
 refine⟨nn,ps,rfl,by rw[<-eps];exact hk,psl,fun p hp=>(hps p hp).1,(by rw[eps] at hrs;exact hrs.cd fun p hp=>(hps p hp).2),?_⟩;obtain⟨ip,hz⟩:=its_ok (its:=ps) psl fun p hp=>(hps p hp).1;have kni:∀ (i j:Nat) c s g,(((i:Int),(j:Int)),c)∈ps->fs[i]?=some s->s.2.2[j]?=some g->g=(c,[]):=fun i j c s g hm e1 e2=>by
  obtain⟨i',j',c',ee,_,_,s',h1,h2⟩:=kgi _ (by rw[eps];exact aU.mpr ⟨_,hm,rfl⟩);injection ee with k1 k2
  injection k1 with k1 k3
  injection k3 with k3 _
  injection k1 with k1
  injection k3 with k3
  injection k2 with k2
  subst k1 k3 k2;rw[bB] at h1 h2;rw[e1] at h1;cases h1;rw[e2] at h2;cases h2;rfl
 generalize hzz:shT (.lst (ps.map itT))=z at hz;refine ZpZ (by have:=tu 2 pl2;rw[PySem.sizeLine_eq];lia) ?_;refine bH ?_;have hkey2:shT (.lst ((plcs fs).map plT))++z=plS (plcs fs)++shT (.lst (ps.map itT)):=by rw[hzz];rfl
 generalize hK:shT (.lst ((plcs fs).map plT))++z=key at hkey2;refine cX (fun Γ' G3=>(∃ c,Γ'=[some (.ptr b),some (.ptr la),some (.ptr kd),some (.lst (fs.map sfT)),c4,some (.ptr nn),c6,c7,c8,c9,some (.str key),c,c])/\Ex6 fun(lane':List StL) (kvs':List (Key×T)) (k':Nat) (n':Nat) (lay:List L3i) (fr:List SF)=>An7 (LdSt G' G3 b l la kd [nn] lane' (.dk kvs')) (LnR Q lane lane' kvs') (getA kvs' (.inr key:Key)=some (.tup [.int k',.lst (lay.map lyT)])) ((pnL lane')[k']?=some (n',fr)) (lay.length=n') (LayOk fs lay) (fr.map (bJ (mvF fs lay))=fs)) ?_ ?_
 .ext;refine ⟨_,⟨kd,rfl,.inr ⟨kvs,key,L.kn,rfl,rfl⟩⟩,?_⟩;ext;cases hg:getA kvs (.inr key:Key) with
  | some t =>
   refine iteF ?_;ext;obtain⟨k',lay,n2,fr2,rfl,e2,e3⟩:=lk.at hg;rcases e3 with ⟨_,a⟩|⟨l2,its2,kb⟩
   .exact (Zp3 a hkey2 (jv pl2 (by decide))).elim
   .obtain ⟨ep,ei⟩:=key_bb (Q':=Q) (n':=0) (fr':=[]) (lay':=[]) kb hkey2 (jv pl2 (by decide)) (jv ip (by decide));subst ei;obtain⟨n3,B3,ok3⟩:=kb.ok;refine⟨⟨none,rfl⟩,lane,kvs,k',n2,lay,fr2,L,⟨lk,[],by simp,by simp,fun d hd=>nomatch hd⟩,hg,e2,kb.n.symm,⟨kb.ly.len,fun x hx=>⟨ZpV ok3 sok ep (kb.ly.ok x hx).1,(kb.ly.ok x hx).2⟩⟩,xh kb.ld ep.symm (xK ok3 sok ep) kni cnf⟩
  | none =>
   refine iteT ?_;refine tY ?_;ext;refine cu (sg_p L.ln) ?_;rw[af];ext;refine⟨b,l,la,nn,Q,n,B',f,s,lane,kn,by rw[hfs],L.bag,L.ln,hk,pk,fo,by lia,by rw[hfs];exact kg,fun lay d c h1 h2 hd hn4 hlk h3=>?_⟩;rw[hfs] at h1 hlk;have ld:=hlk.laid eps (List.Perm.refl _);have L4:=(L.app (lane++[d])).put (a:=nn) aQ h3;ext;refine⟨kd,kvs,key,rfl,L4.kn,rfl,by have:=lk.kl;lia,?_⟩;have ln:=lk.snoc h2 (by rw[hd];exact .tup (by simp) fun u hu=>by rw[aK.mp hu];exact .str) (by rw[show plcF d.fr=plcF fs from ld.pl,<- hfs];exact hch) hg (.inr ⟨fs,ps,hkey2,jv pl2 (by decide),jv ip (by decide),ld,hn4,⟨n,B',sok⟩,h1⟩);refine⟨⟨none,rfl⟩,lane++[d],_,lane.length,d.n,lay,d.fr,L4.kput _,⟨ln,[d],rfl,by simp,fun d' hd'=>by rw[aK.mp hd'];exact hd⟩,by rw[kj,am rfl],?_,hn4.symm,h1,xh ld rfl (xK sok sok rfl) kni cnf⟩;have lp:pnL (lane++[d])=pnL lane++[(d.n,d.fr)]:=aY;have ll:(pnL lane).length=lane.length:=af _;rw[lp,<- ll];exact cE
 rintro Γ' G3 ⟨⟨c,rfl⟩,lane',kvs',k',n',lay,fr,L3,lg,hg,hk',hnl,hlay,hfill⟩;have hl4:lay.length<=40/\∀ x∈lay,InFr fs x.1 x.2.1/\x.2.2.natAbs<=2:=by
  exact⟨hlay.len,hlay.ok⟩
 ext;refine⟨_,⟨kd,rfl,.inr ⟨kvs',key,L3.kn,rfl,hg.symm⟩⟩,?_⟩;ext;refine cQ (fun Γ'=>Ex3 fun a1 a2 a3=>Γ'=[a1,a2,a3,some (.lst (fs.map sfT))]) ?_;ext;refine⟨_,si_l,by rw[af];lia,si_l,⟨none,none,none,rfl⟩,(lay.map fun x=>cb (gAt fs x) (x.2.2,[]) (-1)).map fmT,by rw[af,af,af],?_,?_⟩
 .rintro u x y Γ' hx hy ⟨a1,a2,a3,rfl⟩;rw[ak] at hx;obtain⟨v,ev,rfl⟩:=bh.mp hx;rw[ak,ak,ev] at hy;cases hy;obtain⟨hin,hc⟩:=hl4.2 v (aF ev);obtain⟨s',e1,e2⟩:=vj hin;have hf:=(sok s' (aF e1)).fm _ (aF e2);refine cR rfl ?_;ext;refine⟨⟨_,_,_,rfl⟩,rfl,?_⟩;ext;refine aW (at_i hin.1 (by rw[ak,e1];rfl)) ?_;ext;refine eS (at_i hin.2.1 (by rw[ak,e2];rfl)) ?_;ext;exact⟨n,_,(v.2.2,[]),-1,rfl,fo9 hf hn hB,⟨Fo.nil (bo hc (by decide +kernel)),hn⟩,by decide +kernel,rfl,rfl⟩
 refine i6 (fe sg_l (fun _=>nofun) ?_);ext;refine L3.fin (au (q (mvF fs lay) k' n' fr lane' kvs' lg hk' (by unfold mvF;rw[af];exact hnl) (by rw[hfs];exact hfill) fun g hg=>?_));unfold mvF at hg;obtain⟨x,hx,rfl⟩:=aU.mp hg;obtain⟨hin,hc⟩:=hl4.2 x hx;obtain⟨s',e1,e2⟩:=vj hin;have hf:=(sok s' (aF e1)).fm _ (aF e2);exact⟨iw _ _ _,(ng (m:=-1) hf (Fo.nil (c:=x.2.2) hc)).le (aE _) (show B'+1*2<=B'+2 by lia)⟩
def qw:Pre:=fun ts G k=>∃ (b l la kd:Addr) (Q:List Df) (n least:Nat) (own:List Fm) (f:List SF) (s:SF) (rows:Nat) (lane:List StL) (kvs:List (Key×T)),ts=[.ptr b,pgT Q,.ptr la,.ptr kd,.lst ((f++[s]).map sfT),.int rows]/\G b=some (.bag l)/\G la=some (.lst (lane.map stT))/\G kd=some (.dk kvs)/\PgK Q/\FrsOk Q n (10^600) f s/\bY (f++[s])/\Chn Q (plcF (f++[s]))/\n<64/\rows<=40/\lane.length<=890/\LnS Q lane kvs/\own.length=n/\(∀ g∈own,PsW g)/\Sta own (f++[s])/\(least=0\/least=1/\1<=rows/\(ce Q (f++[s])).isSome=true)/\∀ (ed:T) (lane':List StL) (kvs':List (Key×T)),LnR Q lane lane' kvs'->EdS Q (pnL lane') own least (f++[s]) ed->PlD 5 ed->k ed (gput (gput G la (.lst (lane'.map stT))) kd (.dk kvs'))
def jL:tq.C "_law_edge" 4 ["bag","program","lane","keys","frames","rows"] qw:=by
 refine tq.e9.okT ["bag","program","lane","keys","frames","rows","gone","moves","k"] fun ts G k nd hr hh=>?_;obtain⟨b,l,la,kd,Q,n,least,own,f,s,rows,lane,kvs,rfl,hb,hla,hkd,pk,fo,cn,hch,hn,hr40,hlen,lk,hol,hop,hst,hle,q⟩:=hh;refine' go_G [some (.ptr b),some (pgT Q),some (.ptr la),some (.ptr kd),some (.lst ((f++[s]).map sfT)),some (.int rows),none,none,none] rfl ?hb ?hg
 case hb=>exact(ag (cp (i:=6) nd rfl (Or.inl rfl) aa) (ag (uK PassesOwn.never (PW.pt (bV (aB dM (pv 6) (pv 5) (aA _)) (cF (aB qP (pyk (oZ tq :) hr.m (x9 1 (wx 4))) dF (aA _))))) (ag (bE (i:=4) nd rfl (Or.inl rfl) (pyk (oZ tq :) hr.m (x9 1 (wx 4)))) (aj (cZ (i:=6) nd rfl (Or.inl rfl) (aw bw (pv 6) aa))))) (ag (bX (pyk (vf tq :) hr.m (x9 0 (x9 2 (x9 3 (wx 4))))) (cM (K:=K) (n:=2) rfl rfl (aV (pyn 7 nd) (aV (pyn 8 nd) cA)))) (aj (ax (av (x9 6 (x9 7 (wx 8)))))))))
 refine cT (dX (qo (bH ?_)));refine cX (fun Γ' G'=>(∃ (f2:List SF) (s2:SF) (g:Nat),FrsOk Q n (100^g*10^600) f2 s2/\bY (f2++[s2])/\g<=rows/\cz Q g (f++[s])=some (f2++[s2])/\Sta own (f2++[s2])/\(g<rows->ce Q (f2++[s2])=none)/\Γ'=[some (.ptr b),some (pgT Q),some (.ptr la),some (.ptr kd),some (.lst ((f2++[s2]).map sfT)),some (.int rows),some (.int (g:Int)),none,none])/\G'=G) ?_ ?_
 .refine sX (fun m Γ' G'=>(∃ (f2:List SF) (s2:SF) (g:Nat),FrsOk Q n (100 ^ g * 10 ^ 600) f2 s2/\bY (f2++[s2])/\g+m=rows/\cz Q g (f++[s])=some (f2++[s2])/\Sta own (f2++[s2])/\Γ'=[some (.ptr b),some (pgT Q),some (.ptr la),some (.ptr kd),some (.lst ((f2++[s2]).map sfT)),some (.int rows),some (.int (g:Int)),none,none])/\G'=G) rows ⟨⟨f,s,0,by rw[Nat.pow_zero,lN];exact fo,cn,by lia,rfl,hst,rfl⟩,rfl⟩ ?_;rintro m Γ' G' ⟨⟨f2,s2,g,fo2,cn2,hg,hgo,hs2,rfl⟩,rfl⟩;have big:100 ^ g * 10 ^ 600<=10 ^ 800:=by
   have:100^g<=100^40:=iK (by decide) (by lia);exact bo (gn _ this) (by decide +kernel)
  have big0:10^60<=100^g*10^600:=bo (show 10^60<=1*10^600 by decide +kernel) (gn _ (Nat.one_le_pow _ _ (by decide)));ext;refine bU (fun h1=>?_) fun h1=>⟨⟨f2,s2,g,fo2,cn2,by lia,hgo,hs2,fun _=>by lia,rfl⟩,rfl⟩;ext;refine⟨Q,f2,s2,n,_,_,rfl,si_l,pk,fo2,cn2,hn,big,?_⟩;cases hs:ce Q (f2++[s2]) with
  | none =>
   ext;exact⟨⟨f2,s2,g,fo2,cn2,by lia,hgo,hs2,fun _=>hs,rfl⟩,rfl⟩
  | some l2 =>
   ext;obtain⟨f3,s3,rfl,fo3⟩:=tV pk big0 fo2 (by rw[<-iT];exact hs);have cn3:=ZhT cn2 hs;refine⟨Q,f2,s2,n,_,_,rfl,si_l,pk,fo2,cn2,hn,big,?_⟩;rw[hs];ext;dsimp only;refine bQ ⟨m-1,by lia,⟨f3,s3,g+1,by rw[Nat.pow_succ,Nat.mul_comm (100^g),Nat.mul_assoc];exact fo3,cn3,by lia,oB hgo hs,ZjM hs2 (by rw[<-iT];exact hs),rfl⟩,rfl⟩
 rintro Γ' G' ⟨⟨f2,s2,g,fo2,cn2,hg,hgo,hs2,hend,rfl⟩,rfl⟩;have big:100^g*10^600<=10^800:=by
  have:100^g<=100^40:=iK (by decide) (by lia);exact bo (gn _ this) (by decide +kernel)
 ext;refine⟨b,l,la,kd,Q,n,_,f2,s2,lane,kvs,rfl,hb,hla,hkd,pk,fo2,cn2,vH hch hgo,hn,big,hlen,lk,fun moves k' n' fr lane' kvs' h1 h2 h3 h4 h5=>?_⟩;refine cR rfl ?_;ext;have bg:100^g*10^600+2<=10^800:=by
  have:100^g<=100^40:=iK (by decide) (by lia);exact bo (Nat.add_le_add_right (gn _ this) 2) (by decide +kernel)
 have st2:(f2++[s2]).map (bJ own)=f2++[s2]:=mL hs2 cn2 (fun t ht g hg p hp=>(((fo2.all t ht).fm g hg).w p hp).1) hop;refine au (q _ lane' kvs' h1 ⟨g,moves,k',n',fr,rfl,?_,by lia,h2,h3,fun g hg=>⟨(h5 g hg).1,by rw[hol];exact(h5 g hg).2.le (aE _) bg⟩,?_⟩ (.tup (by simp) fun u hu=>?_))
 .rcases hle with rfl|⟨rfl,h6,h7⟩
  .exact bO _
  .cases g with
   | succ g=>lia
   | zero =>
    have:=hend (by lia);have hgo:some (f++[s])=some (f2++[s2]):=hgo;injection hgo with hgo
    rw[hgo,this] at h7;cases h7
 .rw[Zmf hop,h4,st2,hgo]
 simp only[aI,cw,dh] at hu;rcases hu with rfl|rfl|rfl
 .exact .int
 .have lm:n'<=40:=by
   rw[ak] at h2;obtain⟨d',ed',e2⟩:=bh.mp h2;have:=(h1.1.st d' (aF ed')).1.nb;have e3:d'.n=n':=congrArg Prod.fst e2;lia
  refine qh (by lia) fun g hg=>?_;have:=lY (h5 g hg).2;lia
 .exact .int
def ZpE:Pre:=fun ts G k=>∃ (b l la kd:Addr) (Q:List Df) (d:StL) (lane:List StL) (kvs:List (Key×T)),ts=[.ptr b,pgT Q,.ptr la,.ptr kd,stT d]/\G b=some (.bag l)/\G la=some (.lst (lane.map stT))/\G kd=some (.dk kvs)/\PgK Q/\PpK Q d.n d.fr/\Chn Q (plcF d.fr)/\lane.length<=800/\LnS Q lane kvs/\∀ (dd:T) (lane':List StL) (kvs':List (Key×T)) (ex:List StL),PlD 6 dd->LnS Q lane' kvs'->lane'=lane++ex->ex.length<=2->(22<lane.length->ex=[])->(∀ d∈ex,d.dd=.tup [.str "leave"])->(∀ f s,d.fr=f++[s]->DdS Q (pnL lane') d.n f s dd)->k dd (gput (gput G la (.lst (lane'.map stT))) kd (.dk kvs'))
def np{s:SF}(h:FrsOk Q n B f s){t:Int}(ht:0<=t)(hr:∀ d,Q[s.1.toNat]?=some d->t.toNat<d.rows.length):FrsOk Q n B f (s.1,t,s.2.2):=⟨h.few,fun u hu=>by
 rcases aR.mp hu with hu|hu
 .exact h.all u (dQ _ hu)
 .rw[aK.mp hu];exact pQ (h.all s (by simp)) ht hr,h.call⟩
def jC{m C:Nat}{s:SF}(h:FrsOk Q n B f s)(h1:n<=m)(h2:B<=C):FrsOk Q m C f s:=⟨h.few,fun t ht=>(h.all t ht).le h1 h2,h.call⟩
def vm{N m D:Nat}{f:Fm}(hf:Fo N B f)(hN:N<=fl.length)(hl:fl.length<64)(hg:∀ g∈fl,Fo m D g):Fo m (B+63*(B*D)) (bF f fl):=by
 have h1:=qu (B:=B) hg f.2 (f.1,[]) B (fun p hp=>⟨hf.a p hp,(hf.w p hp).1,by have:=(hf.w p hp).2;lia⟩) (Fo.nil hf.c);rw[<-u7];have:=lY hf;exact h1.le (aE _) (nP (gn _ (by lia)) _)
def uP{N m D:Nat}{s:SF}(h:FrsOk Q N B f s)(hN:N<=fl.length)(hl:fl.length<64)(hg:∀ g∈fl,Fo m D g):FrsOk Q m (B+63*(B*D)) (f.map (bJ fl)) (bJ fl s):=by
 have one:∀ t∈f++[s],SfOk Q m (B+63*(B*D)) (bJ fl t):=fun t ht=>by
  obtain⟨d,r,a1,a2,a3,a4,a5⟩:=(h.all t ht).ex;refine⟨⟨d,r,a1,a2,a3,a4,by show (((t.2.2.map fun f=>bF f fl)).length:Int)=_;rw[af];exact a5⟩,fun g hq=>?_⟩;obtain⟨g',hg',rfl⟩:=aU.mp hq;exact vm ((h.all t ht).fm g' hg') hN hl hg
 refine⟨by rw[af];exact h.few,fun t ht=>?_,fun t ht=>?_⟩
 .rcases aR.mp ht with ht|ht
  .obtain ⟨u,hu,rfl⟩:=aU.mp ht;exact one u (dQ _ hu)
  .rw[aK.mp ht];exact one s (by simp)
 .obtain ⟨u,hu,rfl⟩:=aU.mp ht;exact h.call u hu
def Zmg{l:List SF}:bY (l.map (bJ fl)):=fun t ht g hg=>by
 obtain⟨u,_,rfl⟩:=aU.mp ht;obtain⟨g',_,rfl⟩:=aU.mp hg;exact iY _ _
def cdiv7:iX i 7:=jT (by decide) (by decide)
def cdiv3:iX i 3:=jT (by decide) (by decide)
def cdiv2:iX i 2:=jT (by decide) (by decide)
def gp4{G:GH}{la kd:Addr}{a b c d:Ct}(h:la≠kd):gput (gput (gput (gput G la a) kd b) la c) kd d=gput (gput G la c) kd d:=by
 funext x
 by_cases h1:x=kd
 .rw[h1,gp_s,gp_s]
 .rw[gp_n h1,gp_n h1];by_cases h2:x=la
  .rw[h2,gp_s,gp_s]
  .rw[gp_n h2,gp_n h2,gp_n h1,gp_n h2]
def Ziu:tq.C "_law_deed" 5 ["bag","program","lane","keys","stand"] ZpE:=by
 refine tq.f0.okT ["bag","program","lane","keys","stand","many","paper","deed","f","at","forms","row","kind","more","still","some","w","edge","yes"] fun ts G k nd hr hh=>?_;obtain⟨b,l,la,kd,Q,⟨n,fr,dd⟩,lane,kvs,rfl,hb,hla,hkd,pk,pp,hch,hlen,lk,q⟩:=hh;obtain⟨n40,⟨f,s,efr,fo⟩,cn⟩:=pp;dsimp only at n40 efr fo cn hch;subst efr;have qd:∀ (dd:T) (lane':List StL) (kvs':List (Key×T)) (ex:List StL),PlD 6 dd->LnS Q lane' kvs'->lane'=lane++ex->ex.length<=2->(22<lane.length->ex=[])->(∀ d∈ex,d.dd=.tup [.str "leave"])->DdS Q (pnL lane') n f s dd->k dd (gput (gput G la (.lst (lane'.map stT))) kd (.dk kvs')):=fun dd lane' kvs' ex h1 h2 h3 h4 h5 h6 h7=>q dd lane' kvs' ex h1 h2 h3 h4 h5 h6 fun f' s' e=>by
  obtain⟨e1,e2⟩:=lS e rfl;cases e1;cases e2;exact h7
 have hs:=fo.all s (by simp);obtain⟨df,r,hd,a2,rAt,a4,a1,a3,a5⟩:=eE hs;refine' go_G [some (.ptr b),some (pgT Q),some (.ptr la),some (.ptr kd),some (.tup [.int n,.lst ((f++[s]).map sfT),dd]),none,none,none,none,none,none,none,none,none,none,none,none,none,none] rfl ?hb ?hg
 case' hb=>refine' ag ?bab ?bac
 case' bab=>refine' bX ?bad ?bae
 case bad=>exact(pv 4)
 case' bae=>refine' cM (K:=K) (n:=3) ?baf ?bag ?bah
 case baf=>exact rfl
 case bag=>exact rfl
 case' bah=>refine' aV ?bai ?baj
 case bai=>exact(pyn 5 nd)
 case baj=>exact(aV (pyn 6 nd) (aV (pyn 7 nd) cA))
 case' bac=>refine' ag ?bak ?bal
 case' bak=>refine' bX ?bam ?ban
 case bam=>exact(x8 K (pv 6) (ck cj aa))
 case' ban=>refine' cM (K:=K) (n:=3) ?bao ?bap ?baq
 case bao=>exact rfl
 case bap=>exact rfl
 case' baq=>refine' aV ?bar ?bas
 case bar=>exact(pyn 8 nd)
 case bas=>exact(aV (pyn 9 nd) (aV (pyn 10 nd) cA))
 case' bal=>refine' ag ?bat ?bau
 case' bat=>refine' cB (i:=11) ?bav ?baw ?bax ?bay
 case bav=>exact nd
 case baw=>exact rfl
 case bax=>exact(Or.inl rfl)
 case' bay=>refine' iy ?baz ?bba ?bbb ?bbc
 case baz=>exact(k_ix (K:=K) rfl)
 case bba=>exact(x8 K (x8 K (pv 1) (pv 8)) aa)
 case bbb=>exact(pv 9)
 case bbc=>exact(fun _ _=>rfl)
 case' bau=>refine' ag ?bbd ?bbe
 case bbd=>exact(bE (i:=12) nd rfl (Or.inl rfl) (pyk (aZ tq :) hr.m (x9 0 (ah aa ab))))
 case' bbe=>refine' ag ?bbf ?bbg
 case' bbf=>refine' cB (i:=13) ?bbh ?bbi ?bbj ?bbk
 case bbh=>exact nd
 case bbi=>exact rfl
 case bbj=>exact(Or.inl rfl)
 case' bbk=>refine' iy ?bbl ?bbm ?bbn ?bbo
 case bbl=>exact(k_ix (K:=K) rfl)
 case' bbm=>refine' bt ?bbp
 case' bbp=>refine' aM ?bbq ?bbr
 case bbq=>exact(pyk (aZ tq :) hr.m (x9 0 (ah aa ab)))
 case bbr=>exact(aM (pyk (aZ tq :) hr.m (x9 0 (ah aa ab))) ab)
 case bbn=>exact(aw jM (pyk (aZ tq :) hr.m (x9 0 (ah aa ab))) aa)
 case bbo=>exact(fun _ _=>rfl)
 case' bbg=>refine' ag ?bbs ?bbt
 case' bbs=>refine' cp (i:=14) ?bbu ?bbv ?bbw ?bbx
 case bbu=>exact nd
 case bbv=>exact rfl
 case bbw=>exact(Or.inl rfl)
 case bbx=>exact(dJ qR (pyk (oZ tq :) hr.m (x9 1 (wx 6))) dF (aA _))
 case' bbt=>refine' ag ?bby ?bbz
 case' bby=>refine' aL ?bca ?bcb ?bcc
 case' bca=>refine' PW.pt ?bcd
 case' bcd=>refine' fT ?bce ?bcf
 case bce=>exact(aB ba (pv 12) aa (aA _))
 case' bcf=>refine' fT ?bcg ?bch
 case bcg=>exact(aB eQ (aG (bc (K:=K) rfl) (by rfl) tq.b_len bf (wx 2)) aa (aA _))
 case' bch=>refine' gF ?bci
 case' bci=>refine' PW.pt ?bcj
 case' bcj=>refine' bV ?bck ?bcl
 case bck=>exact(cr (pv 14))
 case' bcl=>refine' cF ?bcm
 case' bcm=>refine' aB ?bcn ?bco ?bcp ?bcq
 case bcn=>exact(k_in (K:=K) rfl)
 case bco=>exact(x8 K (pv 11) aa)
 case bcp=>exact(bt (ah aD (ah aD ab)))
 case bcq=>exact(by with_unfolding_all rfl)
 case bcb=>exact(aj (ax (av (ah aD ab))))
 case bcc=>exact aO
 case' bbz=>refine' ag ?bcr ?bcs
 case' bcr=>refine' aL ?bct ?bcu ?bcv
 case bct=>exact(PW.pt (bV (aB ba (pv 12) aa (aA _)) (bV (aB eQ (pv 5) aa (aA _)) (cF (dq (cr (pv 14)))))))
 case' bcu=>refine' ag ?bcw ?bcx
 case bcw=>exact(bE (i:=15) nd rfl (Or.inl rfl) (pyk (mi tq :) hr.m (wx 5)))
 case' bcx=>refine' ag ?bcy ?bcz
 case bcy=>exact(bE (i:=16) nd rfl (Or.inl rfl) (pyk (aZ tq :) hr.m (x9 0 (wx 5))))
 case' bcz=>refine' ag ?bda ?bdb
 case' bda=>refine' bX ?bdc ?bdd
 case' bdc=>refine' av ?bde
 case' bde=>refine' aH ?bdf ?bdg
 case' bdf=>refine' iy ?bdh ?bdi ?bdj ?bdk
 case bdh=>exact(k_ix (K:=K) rfl)
 case' bdi=>refine' bt ?bdl
 case' bdl=>refine' bK ?bdm ?bdn
 case bdm=>exact(aw dj (pyk (aZ tq :) hr.m (x9 0 (ah aa ab))) aa)
 case bdn=>exact(aM (pyk (uF tq :) hr.m (wx 0)) ab)
 case bdj=>exact(aw jM (pyk (aZ tq :) hr.m (x9 0 (ah aa ab))) aa)
 case bdk=>exact(fun _ _=>rfl)
 case bdg=>exact(aS (av ab) ab)
 case bdd=>exact(cS (pv 15) (pv 16) cW)
 case' bdb=>refine' ag ?bdo ?bdp
 case' bdo=>refine' bE (i:=17) ?bdq ?bdr ?bds ?bdt
 case bdq=>exact nd
 case bdr=>exact rfl
 case bds=>exact(Or.inl rfl)
 case' bdt=>refine' gL ?bdu ?bdv ?bdw ?bdx
 case bdu=>exact(jL tq :)
 case bdv=>exact hr.m
 case bdw=>exact(by rfl)
 case' bdx=>refine' bA ?bdy ?bdz
 case bdy=>exact(pv 0)
 case' bdz=>refine' bA ?bea ?beb
 case bea=>exact(pv 1)
 case' beb=>refine' bA ?bec ?bed
 case bec=>exact(pv 2)
 case' bed=>refine' bA ?bee ?bef
 case bee=>exact(pv 3)
 case' bef=>refine' aM ?beg ?beh
 case beg=>exact(pyk (Zev tq :) hr.m (x9 6 (wx 15)))
 case beh=>exact(bK (aw bw aa (pv 13)) ab)
 case' bdp=>refine' aj ?bei
 case' bei=>refine' ax ?bej
 case' bej=>refine' av ?bek
 case' bek=>refine' ah ?bel ?bem
 case bel=>exact aD
 case' bem=>refine' bA ?ben ?beo
 case ben=>exact(pv 16)
 case beo=>exact(aH (x8 K (x8 K (pv 15) (pv 16)) aa) (wx 17))
 case bcv=>exact aO
 case' bcs=>refine' ag ?bep ?beq
 case' bep=>refine' aL ?ber ?bes ?bet
 case' ber=>refine' aB ?beu ?bev ?bew ?bex
 case beu=>exact(k_in (K:=K) rfl)
 case bev=>exact(x8 K (pv 11) aa)
 case bew=>exact(bt (ah aD (ah aD ab)))
 case bex=>exact(by with_unfolding_all rfl)
 case' bes=>refine' ag ?bey ?bez
 case' bey=>refine' bE (i:=18) ?bfa ?bfb ?bfc ?bfd
 case bfa=>exact nd
 case bfb=>exact rfl
 case bfc=>exact(Or.inl rfl)
 case' bfd=>refine' gL ?bfe ?bff ?bfg ?bfh
 case bfe=>exact(jL tq :)
 case bff=>exact hr.m
 case bfg=>exact(by rfl)
 case' bfh=>refine' bA ?bfi ?bfj
 case bfi=>exact(pv 0)
 case' bfj=>refine' bA ?bfk ?bfl
 case bfk=>exact(pv 1)
 case' bfl=>refine' bA ?bfm ?bfn
 case bfm=>exact(pv 2)
 case' bfn=>refine' bA ?bfo ?bfp
 case bfo=>exact(pv 3)
 case' bfp=>refine' aM ?bfq ?bfr
 case' bfq=>refine' gL ?bfs ?bft ?bfu ?bfv
 case bfs=>exact(qb tq :)
 case bft=>exact hr.m
 case bfu=>exact(by rfl)
 case bfv=>exact(x9 6 (aH (x8 K (pv 11) aa) ab))
 case bfr=>exact(wx 13)
 case' bez=>refine' aj ?bfw
 case' bfw=>refine' ax ?bfx
 case' bfx=>refine' av ?bfy
 case' bfy=>refine' ah ?bfz ?bga
 case bfz=>exact aD
 case' bga=>refine' bA ?bgb ?bgc
 case bgb=>exact(pv 18)
 case' bgc=>refine' aM ?bgd ?bge
 case' bgd=>refine' gL ?bgf ?bgg ?bgh ?bgi
 case bgf=>exact(jL tq :)
 case bgg=>exact hr.m
 case bgh=>exact(by rfl)
 case' bgi=>refine' bA ?bgj ?bgk
 case bgj=>exact(pv 0)
 case' bgk=>refine' bA ?bgl ?bgm
 case bgl=>exact(pv 1)
 case' bgm=>refine' bA ?bgn ?bgo
 case bgn=>exact(pv 2)
 case' bgo=>refine' bA ?bgp ?bgq
 case bgp=>exact(pv 3)
 case' bgq=>refine' aM ?bgr ?bgs
 case bgr=>exact(pyk (qb tq :) hr.m (x9 6 (bK (aw bw (pv 9) aa) ab)))
 case bgs=>exact(bK (aw jM (pv 13) aa) ab)
 case bge=>exact ab
 case bet=>exact aO
 case' beq=>refine' ag ?bgt ?bgu
 case' bgt=>refine' aL ?bgv ?bgw ?bgx
 case bgv=>exact(aB ba (x8 K (pv 11) aa) aD (aA _))
 case' bgw=>refine' aj ?bgy
 case' bgy=>refine' ax ?bgz
 case' bgz=>refine' av ?bha
 case' bha=>refine' ah ?bhb ?bhc
 case bhb=>exact aD
 case' bhc=>refine' aM ?bhd ?bhe
 case' bhd=>refine' gL ?bhf ?bhg ?bhh ?bhi
 case bhf=>exact(jL tq :)
 case bhg=>exact hr.m
 case bhh=>exact(by rfl)
 case' bhi=>refine' bA ?bhj ?bhk
 case bhj=>exact(pv 0)
 case' bhk=>refine' bA ?bhl ?bhm
 case bhl=>exact(pv 1)
 case' bhm=>refine' bA ?bhn ?bho
 case bhn=>exact(pv 2)
 case' bho=>refine' bA ?bhp ?bhq
 case bhp=>exact(pv 3)
 case' bhq=>refine' aM ?bhr ?bhs
 case bhr=>exact(pyk (qb tq :) hr.m (x9 6 (bK (aw bw (pv 9) aa) ab)))
 case bhs=>exact(wx 13)
 case bhe=>exact ab
 case bgx=>exact aO
 case' bgu=>refine' ag ?bht ?bhu
 case' bht=>refine' aL ?bhv ?bhw ?bhx
 case bhv=>exact(aB ba (x8 K (pv 11) aa) aD (aA _))
 case' bhw=>refine' ag ?bhy ?bhz
 case' bhy=>refine' cZ (i:=15) ?bia ?bib ?bic ?bid
 case bia=>exact nd
 case bib=>exact rfl
 case bic=>exact(Or.inl rfl)
 case' bid=>refine' aw ?bie ?big ?bih
 case bie=>exact(gT (K:=K) rfl)
 case' big=>refine' aw ?bii ?bij ?bik
 case bii=>exact(gT (K:=K) rfl)
 case bij=>exact(cO (eP (K:=K) rfl) (pv 10) cL (cK (x8 K (pv 11) aa)))
 case bik=>exact(av (aS (av (ah aa (aS (av (aS (av (ah aa (wx 5))) ab)) ab))) ab))
 case bih=>exact(cO (eP (K:=K) rfl) (pv 10) (cK (aw bw (x8 K (pv 11) aa) aa)) cL)
 case' bhz=>refine' aj ?bil
 case' bil=>refine' ax ?bim
 case' bim=>refine' av ?bin
 case' bin=>refine' ah ?bio ?bip
 case bio=>exact aD
 case' bip=>refine' aM ?biq ?bir
 case' biq=>refine' gL ?bis ?bit ?biu ?biv
 case bis=>exact(jL tq :)
 case bit=>exact hr.m
 case biu=>exact(by rfl)
 case' biv=>refine' bA ?biw ?bix
 case biw=>exact(pv 0)
 case' bix=>refine' bA ?biy ?biz
 case biy=>exact(pv 1)
 case' biz=>refine' bA ?bja ?bjb
 case bja=>exact(pv 2)
 case' bjb=>refine' bA ?bjc ?bjd
 case bjc=>exact(pv 3)
 case' bjd=>refine' bK ?bje ?bjf
 case' bje=>refine' aw ?bjg ?bjh ?bji
 case bjg=>exact ff
 case bjh=>exact(cO (k_sl (K:=K) rfl) (pv 6) cL (cK (ck cj aa)))
 case bji=>exact(bt (aS (av (x9 8 (bK (aw bw (pv 9) aa) (wx 15)))) ab))
 case bjf=>exact(wx 13)
 case bir=>exact ab
 case bhx=>exact aO
 case' bhu=>refine' aj ?bjj
 case' bjj=>refine' ax ?bjk
 case' bjk=>refine' av ?bjl
 case' bjl=>refine' ah ?bjm ?bjn
 case bjm=>exact aD
 case' bjn=>refine' aM ?bjo ?bjp
 case' bjo=>refine' gL ?bjq ?bjr ?bjs ?bjt
 case bjq=>exact(jL tq :)
 case bjr=>exact hr.m
 case bjs=>exact(by rfl)
 case bjt=>exact(x9 0 (x9 1 (x9 2 (x9 3 (x9 6 (bK (aw bw aa (pv 13)) ab))))))
 case bjp=>exact ab
 have lastAt:atI ((f++[s]).map sfT) (-1)=some (sfT s):=by rw[aY];exact fG _ _
 refine cT (dX (kQ rfl (cR rfl ?_)));ext;refine aW lastAt ?_;refine cR rfl ?_;ext;refine aW (at_i a1 (by rw[ak,a2];rfl)) ?_;ext;refine aW (at_i a3 (by rw[ak,a4];rfl)) ?_;ext;refine bj hb ⟨by decide,by decide⟩ fun kind _ _=>?_;ext;refine bj hb ⟨by decide,by decide⟩ fun v5 v50 v51=>?_;ext;refine bj hb ⟨by decide,by decide⟩ fun v2 v20 v21=>?_;ext;refine bj hb ⟨by decide,by decide⟩ fun v8 v80 v81=>?_;ext;refine l_IC cdiv7 ?_;obtain⟨mo,hmo,hat⟩:∃ mo:Nat,mo<=20/\atI [T.int v5,T.int v2] (v8 / 7)=some (.int mo):=by
  have h7:v8 / 7=0\/v8 / 7=1:=by lia
  rcases h7 with h7|h7
  .exact ⟨v5.toNat,by lia,by rw[h7,at_0];congr 2;lia⟩
  .exact ⟨v2.toNat,by lia,by rw[h7,at_1];congr 2;lia⟩
 refine aW hat ?_;refine bH ?_;refine cX (fun Γ' G'=>Γ'=[some (.ptr b),some (pgT Q),some (.ptr la),some (.ptr kd),some (.tup [.int n,.lst ((f++[s]).map sfT),dd]),some (.int n),some (.lst ((f++[s]).map sfT)),some dd,some (.int s.1),some (.int s.2.1),some (.tup (s.2.2.map fmT)),some (rowT r),some (.int kind),some (.int mo),some (.bl (ce Q (f++[s])).isNone),none,none,none,none]/\G'=G) ?_ ?_
 .ext;refine ⟨Q,f,s,n,_,_,rfl,si_l,pk,fo,cn,by lia,by decide +kernel,?_⟩;cases ce Q (f++[s]) with
  | none=>ext;exact⟨rfl,rfl⟩
  | some l2=>ext;exact⟨rfl,rfl⟩
 rintro Γ' G' ⟨rfl,rfl⟩;refine cT (jt (m3 (k1:=fun bb G2=>G2=G'/\(bb=false->lane.length<=22/\((ce Q (f++[s])).isNone=true->(["call","back"]:List Str).contains r.row.1=false))) ?_ fun bb G2 e=>?_))
 .ext;refine fQ (fun _=>⟨rfl,nofun⟩) fun _=>?_;ext;refine cu (sg_p hla) ?_;rw[af];ext;refine bU (fun _=>⟨rfl,nofun⟩) fun h22=>?_;ext;refine fQ (fun hst=>?_) fun hst=>⟨rfl,fun _=>⟨by lia,fun e=>by rw[hst] at e;cases e⟩⟩;ext;refine bv (ss:=["call","back"]) sg_l ?_;ext;exact⟨rfl,fun e=>⟨by lia,fun _=>e⟩⟩
 obtain⟨rfl,hno⟩:=e;have done:k (.tup [.str "leave"]) G2:=by
  have:=qd _ lane kvs [] (.tup (by simp) fun u hu=>by rw[aK.mp hu];exact .str) lk (by simp) (by simp) (fun _=>rfl) (fun d hd=>nomatch hd) .leave
  rwa [gU hla,gU hkd] at this
 refine fQ (fun _=>?_) fun hf=>?_
 .ext;exact au done
 obtain⟨h22,hcb⟩:=hno hf;refine mS ?_;refine cT (jt (m3 (k1:=fun bb G3=>G3=G2/\(bb=true->0<n/\(ce Q (f++[s])).isNone=false)) ?_ fun bb G3 e=>?_))
 .ext;refine fQ (fun _=>?_) fun _=>⟨rfl,nofun⟩;ext;refine bU (fun h0=>?_) fun _=>⟨rfl,nofun⟩;ext;exact⟨rfl,fun e=>⟨by lia,by simpa using e⟩⟩
 obtain⟨rfl,hn0⟩:=e;have L0:=LdSt.start hb hla hkd (.inr ⟨_,rfl⟩);refine fQ (fun ht=>?_) fun _=>?_
 .obtain ⟨n0,still⟩:=hn0 ht;ext;refine ⟨n,rfl,by lia,fun sm nsm=>?_⟩;obtain ⟨L1,_⟩:=L0.fresh nsm (c:=.lst ((ay n).map fmT)) (fun _=>nofun);refine bH ?_;ext;refine bj L1.bag ⟨by lia,by lia⟩ fun wv w0 w1=>?_;ext;refine bj L1.bag ⟨by decide,by decide⟩ fun x5 x50 x51=>?_;ext;refine ui L1.bag fun xn hxn=>?_;ext;refine bj L1.bag ⟨by decide,by decide⟩ fun x4 x40 x41=>?_;ext;refine l_IC cdiv3 ?_;obtain ⟨vv,hvv,hat2⟩:∃ vv:Int,vv.natAbs<=10 ^ 60/\atI [T.int (x5 - 2),T.int xn] (x4 / 3)=some (.int vv):=by
   have h7:x4 / 3=0\/x4 / 3=1:=by lia
   rcases h7 with h7|h7
   .exact ⟨x5-2,bo (show (x5-2).natAbs<=10 by lia) (by decide),by rw[h7,at_0]⟩
   .exact ⟨xn,hxn,by rw[h7,at_1]⟩
  refine aW hat2 ?_;ext;have wl:(ay n).length=n:=by unfold ay;simp
  refine⟨sm,(ay n).map fmT,wv,wv.toNat,rfl,rfl,gp_s,kT (by lia) (by rw[af,wl];lia),?_⟩;rw[gp_p];obtain⟨fl,efl,fll,flo,flw,flh⟩:∃ fl:List Fm,((ay n).map fmT).set wv.toNat (.tup [.int vv,.tup []])=fl.map fmT/\fl.length=n/\(∀ g∈fl,Fo n (10^60) g)/\fl[wv.toNat]?=some (vv,[])/\fl=cU n wv.toNat vv:=by
   refine⟨(ay n).set wv.toNat (vv,[]),by rw[iL];rfl,by rw[cC,wl],fun g hg=>?_,gV (by rw[wl];lia),rfl⟩;rcases gk hg with hg|rfl
   .unfold ay at hg;obtain⟨j,hj,rfl⟩:=aU.mp hg;exact iu (c:=0) (by decide) (gG.mp hj)
   .exact Fo.nil hvv
  rw[efl];obtain⟨L2,_⟩:=L0.fresh nsm (c:=.lst (fl.map fmT)) (fun _=>nofun);have gsm:gput G3 sm (.lst (fl.map fmT)) sm=some (.lst (fl.map fmT)):=gp_s;ext;refine⟨n,10^60,10^60,f++[s],fl,_,_,rfl,si_l,si_p gsm,by have:=fo.few;rw[aJ];simp;lia,fun t ht=>⟨by have:=gw pk (fo.all t ht);lia,fun g hg=>by rw[fll];exact(fo.all t ht).fm g hg⟩,by lia,by lia,flo,by decide +kernel,by decide +kernel,?_⟩;ext;have fr2:=jC (uP fo (by lia) (by lia) flo) (aE n) (show _<=10^600 by decide +kernel);refine⟨b,l,la,kd,Q,n,1,fl,f.map (bJ fl),bJ fl s,mo+1,lane,kvs,by rw[aY,show (1:Int)+(mo:Int)=((mo+1:Nat):Int) by lia];rfl,L2.bag,L2.ln,L2.kn,pk,fr2,?_,?_,by lia,by lia,by lia,lk,fll,by rw[flh];exact Zl3,?_,.inr ⟨rfl,by lia,?_⟩,fun ed lane' kvs' h2 hed h1=>?_⟩
  .rw[<-lT (f:=bJ fl),<- aY];exact Zmg
  .rw[<-lT (f:=bJ fl),<- aY,Znl];exact hch
  .rw[<-lT (f:=bJ fl),<- aY,flh];exact ZmS fo
  .rw[iT];rw[iT] at still;refine ZhS ?_;cases hz:cP Q f s with
   | none=>rw[hz] at still;cases still
   | some _=>rfl
  have L3:=(L2.app lane').kput (.dk kvs');have nl:la≠sm:=fun e=>L2.nb.2.1 (by rw[e];exact aQ);have nk:kd≠sm:=fun e=>L2.nb.2.2 (by rw[e];exact aQ);have gs3:gput (gput (gput G3 sm (.lst (fl.map fmT))) la (.lst (lane'.map stT))) kd (.dk kvs') sm=some (.lst (fl.map fmT)):=by rw[gp_n nk.symm,gp_n nl.symm];exact gsm
  ext;refine l_ix (sg_p gs3) (at_i w0 (by rw[ak,flw];rfl)) ?_;ext;obtain⟨lk',ex,e1,e2,e3⟩:=h2;have hdd:DdS Q (pnL lane') n f s (.tup [.str "hold",.int wv,.int vv,ed]):=by
   rw[show wv=((wv.toNat:Nat):Int) by lia];refine .hold (by lia) hvv ?_;rw[<-lT (f:=bJ fl),<- aY,flh] at hed;exact hed
  refine L3.fin (au (qd _ lane' kvs' ex (.tup (by simp) fun u hu=>?_) lk' e1 (by lia) (fun h=>by lia) e3 hdd));simp only[aI,cw,dh] at hu;rcases hu with rfl|rfl|rfl|rfl
  .exact .str
  .exact .int
  .exact .int
  .exact h1
 refine mS ?_;have edge:∀ (n' least:Nat) (f':List SF) (s':SF) (rows:Nat) (lane1:List StL) (kvs1:List (Key×T)) (k1:T->GH->Prop),FrsOk Q n' (10^600) f' s'->bY (f'++[s'])->Chn Q (plcF (f'++[s']))->n'<64->rows<=40->lane1.length<=890->LnS Q lane1 kvs1->(least=0\/least=1/\1<=rows/\(ce Q (f'++[s'])).isSome=true)->(∀ (ed:T) (lane':List StL) (kvs':List (Key×T)),PlD 5 ed->LnR Q lane1 lane' kvs'->EdS Q (pnL lane') (ay n') least (f'++[s']) ed->k1 ed (gput (gput (gput (gput G3 la (.lst (lane1.map stT))) kd (.dk kvs1)) la (.lst (lane'.map stT))) kd (.dk kvs')))->qw [.ptr b,pgT Q,.ptr la,.ptr kd,.lst ((f'++[s']).map sfT),.int rows] (gput (gput G3 la (.lst (lane1.map stT))) kd (.dk kvs1)) k1:=fun n' least f' s' rows lane1 kvs1 k1 h1 h2 hc h3 h4 h5 h6 h8 h7=>by
  have L:=(L0.app lane1).kput (.dk kvs1);exact⟨b,l,la,kd,Q,n',least,ay n',f',s',rows,lane1,kvs1,rfl,L.bag,L.ln,L.kn,pk,h1,h2,hc,h3,h4,h5,h6,by unfold ay;rw[af,dC],jK n',mh h1,h8,fun ed lane' kvs' a1 a2 a3=>h7 ed lane' kvs' a3 a1 a2⟩
 have e0:gput (gput G3 la (.lst (lane.map stT))) kd (.dk kvs)=G3:=by rw[gU hla,gU hkd]
 have nlk:la≠kd:=L0.ne.1;have edge0:∀ (n' least:Nat) (f':List SF) (s':SF) (rows:Nat) (k1:T->GH->Prop),FrsOk Q n' (10^600) f' s'->bY (f'++[s'])->Chn Q (plcF (f'++[s']))->n'<64->rows<=40->(least=0\/least=1/\1<=rows/\(ce Q (f'++[s'])).isSome=true)->(∀ (ed:T) (lane':List StL) (kvs':List (Key×T)),PlD 5 ed->LnR Q lane lane' kvs'->EdS Q (pnL lane') (ay n') least (f'++[s']) ed->k1 ed (gput (gput G3 la (.lst (lane'.map stT))) kd (.dk kvs')))->qw [.ptr b,pgT Q,.ptr la,.ptr kd,.lst ((f'++[s']).map sfT),.int rows] G3 k1:=fun n' least f' s' rows k1 h1 h2 hc h3 h4 h6 h5=>by
  have:=edge n' least f' s' rows lane kvs k1 h1 h2 hc h3 h4 (by lia) lk h6 fun ed lane' kvs' a1 a2 a3=>by rw[e0];exact h5 ed lane' kvs' a1 a2 a3
  rwa [e0] at this
 have B6:10^60<=10^600:=by decide +kernel
 have fo6:=jC fo (aE n) B6;have cnf:bY f:=fun t ht=>cn t (dQ _ ht);have cns:∀ g∈s.2.2,Cano g:=cn s (by simp);have ok:=(pk.ok.2.2 df hd).rows r (aF a4);have fl4:=fo.few;have atk:∀ (t:Int) (k1:T->GH->Prop) (G4:GH),k1 (.lst ((cH f s t).map sfT)) G4->xo [.lst ((f++[s]).map sfT),.int t] G4 k1:=fun t k1 G4 h=>⟨f,s,t,_,rfl,si_l,by lia,h⟩;have inr:∀ {t:Int},In0 t df.rows.length->FrsOk Q n (10^600) f (s.1,t,s.2.2):=fun {t} ht=>np fo6 ht.1 fun d' hd'=>by
  rw[a2] at hd';cases hd';have:=ht.2;have:=ht.1;lia
 have nxt:¬ r.last->FrsOk Q n (10^600) f (s.1,s.2.1+1,s.2.2):=fun hl=>by
  obtain⟨n1,n2⟩:=iZ pk hs rAt hl;exact np fo6 n1 n2
 have fin2:∀ {w1:Str} {ed:T} {lane':List StL} {kvs':List (Key×T)},PlD 5 ed->LnR Q lane lane' kvs'->DdS Q (pnL lane') n f s (.tup [.str w1,ed])->Cl k (.tup [.str w1,ed]) (gput (gput G3 la (.lst (lane'.map stT))) kd (.dk kvs')):=fun {w1 ed lane' kvs'} h1 h2 h3=>by
  obtain⟨lk',ex,e1,e2,e3⟩:=h2;refine au (qd _ lane' kvs' ex (.tup (by simp) fun u hu=>?_) lk' e1 (by lia) (fun h=>by lia) e3 h3);simp only[aI,cw,dh] at hu;rcases hu with rfl|rfl
  .exact .str
  .exact h1
 cases r with
 | tell p =>
  ext;refine bv (ss:=["zero","below"]) sg_l ?_;ext;refine atk _ _ _ ?_;ext;refine edge0 n 0 f (s.1,s.2.1+1,s.2.2) mo _ (nxt (fun h=>h)) (fV cnf (fH cns)) (ir hch rfl) (by lia) (by lia) (.inl rfl) fun ed lane' kvs' h1 h2 h3=>?_;ext;exact fin2 h1 h2 (.tell rAt h3)
 | zero p t =>
  ext;refine bv (ss:=["zero","below"]) sg_l ?_;ext;refine atk _ _ _ ?_;ext;refine edge0 n 0 f (s.1,t,s.2.2) mo _ (inr ok.2) (fV cnf (fH cns)) (ir hch rfl) (by lia) (by lia) (.inl rfl) fun ed1 lane1 kvs1 h1 h2 he1=>?_;refine bH ?_;ext;refine atk _ _ _ ?_;ext;refine l_IC cdiv2 ?_;rw[show (mo:Int) / 2=((mo / 2:Nat):Int) by lia];ext;obtain⟨lk1,ex1,e1,e1l,e1d⟩:=h2;refine edge n 0 f (s.1,s.2.1+1,s.2.2) (mo / 2) lane1 kvs1 _ (nxt (fun h=>h)) (fV cnf (fH cns)) (ir hch rfl) (by lia) (by lia) (by rw[e1,aJ];lia) lk1 (.inl rfl) fun ed2 lane2 kvs2 h3 h4 he2=>?_;rw[gp4 nlk];ext;obtain⟨lk2,ex2,e2,e2l,e2d⟩:=h4;have hdd:DdS Q (pnL lane2) n f s (.tup [.str "test",ed1,ed2]):=.test (p:=p) (t:=t) (.inl rAt) (by rw[e2,show pnL (lane1++ex2)=pnL lane1++pnL ex2 from aY];exact he1.up) he2;refine au (qd _ lane2 kvs2 (ex1++ex2) (.tup (by simp) fun u hu=>?_) lk2 (by rw[e2,e1,cv]) (by rw[aJ];lia) (fun h=>by lia) (fun d hd=>(aR.mp hd).elim (e1d d) (e2d d)) hdd);simp only[aI,cw,dh] at hu;rcases hu with rfl|rfl|rfl
  .exact .str
  .exact h1
  .exact h3
 | below p t =>
  ext;refine bv (ss:=["zero","below"]) sg_l ?_;ext;refine atk _ _ _ ?_;ext;refine edge0 n 0 f (s.1,t,s.2.2) mo _ (inr ok.2) (fV cnf (fH cns)) (ir hch rfl) (by lia) (by lia) (.inl rfl) fun ed1 lane1 kvs1 h1 h2 he1=>?_;refine bH ?_;ext;refine atk _ _ _ ?_;ext;refine l_IC cdiv2 ?_;rw[show (mo:Int) / 2=((mo / 2:Nat):Int) by lia];ext;obtain⟨lk1,ex1,e1,e1l,e1d⟩:=h2;refine edge n 0 f (s.1,s.2.1+1,s.2.2) (mo / 2) lane1 kvs1 _ (nxt (fun h=>h)) (fV cnf (fH cns)) (ir hch rfl) (by lia) (by lia) (by rw[e1,aJ];lia) lk1 (.inl rfl) fun ed2 lane2 kvs2 h3 h4 he2=>?_;rw[gp4 nlk];ext;obtain⟨lk2,ex2,e2,e2l,e2d⟩:=h4;have hdd:DdS Q (pnL lane2) n f s (.tup [.str "test",ed1,ed2]):=.test (p:=p) (t:=t) (.inr rAt) (by rw[e2,show pnL (lane1++ex2)=pnL lane1++pnL ex2 from aY];exact he1.up) he2;refine au (qd _ lane2 kvs2 (ex1++ex2) (.tup (by simp) fun u hu=>?_) lk2 (by rw[e2,e1,cv]) (by rw[aJ];lia) (fun h=>by lia) (fun d hd=>(aR.mp hd).elim (e1d d) (e2d d)) hdd);simp only[aI,cw,dh] at hu;rcases hu with rfl|rfl|rfl
  .exact .str
  .exact h1
  .exact h3
 | take p =>
  ext;refine bv (ss:=["zero","below"]) sg_l ?_;ext;have p0:0<=p:=ok.1;have p1:p<s.2.2.length:=by have:=ok.2;lia
  have p8:=gw pk hs;refine⟨p,by rw[emb],?_⟩;refine eN ?_;rw[gQ p0 (by rw[af];lia)];ext;have lt:((s.2.2.map fmT).take p.toNat).length<=s.2.2.length:=by rw[fJ,af];exact jY _ _
  have ld:((s.2.2.map fmT).drop (p+1).toNat).length<=s.2.2.length:=by rw[jj,af];exact jZ _ _
  refine gE (by rw[eA];lia) ?_;ext;rw[emb];ext;refine eN ?_;rw[je (by lia) (by rw[af];lia)];refine gE (by rw[aJ,eA];lia) ?_;have e:(s.2.2.map fmT).take p.toNat++[.tup [.int 0,.tup [.tup [.int 1,.int (n:Int)]]]]++(s.2.2.map fmT).drop (p+1).toNat=(s.2.2.set p.toNat (0,[(1,(n:Int))])).map fmT:=by
   have hp:p.toNat<s.2.2.length:=by lia
   rw[<-map_take,<- map_drop,x6,am hp,aY,aP,cv,show (p+1).toNat=p.toNat+1 by lia];rfl
  rw[e];refine bH ?_;ext;refine i7 si_l ?_;rw[aY,lT,mB];ext;refine fz si_l si_l (by rw[af];simp;lia) ?_;ext;have fr3:FrsOk Q (n+1) (10^600) f (s.1,s.2.1+1,s.2.2.set p.toNat (0,[(1,(n:Int))])):=by
   obtain⟨n1,n2⟩:=iZ pk hs rAt (fun h=>h);refine⟨fo.few,fun t ht=>?_,fo.call⟩;rcases aR.mp ht with ht|ht
   .exact (fo.all t (dQ _ ht)).le (by lia) B6
   .rw[aK.mp ht];exact ma (hs.le (by lia) B6) ((iu (N:=n+1) (c:=0) (by decide) (by lia)).le (aE _) B6) n1 n2
  have cn3:bY (f++[(s.1,s.2.1+1,s.2.2.set p.toNat (0,[(1,(n:Int))]))]):=fV cnf (fH fun g hg=>by
   rcases gk hg with hg|rfl
   .exact cns g hg
   .exact pW)
  have ee:f.map sfT++[.tup [.int s.1,.int (s.2.1+1),.tup ((s.2.2.set p.toNat (0,[(1,(n:Int))])).map fmT)]]=(f++[(s.1,s.2.1+1,s.2.2.set p.toNat (0,[(1,(n:Int))]))]).map sfT:=by rw[aY];rfl
  rw[ee];refine edge0 (n+1) 0 f _ mo _ fr3 cn3 (ir hch rfl) (by lia) (by lia) (.inl rfl) fun ed lane' kvs' h1 h2 h3=>?_;ext;exact fin2 h1 h2 (.take rAt h3)
 | _ =>
  ext;refine bv (ss:=["zero","below"]) sg_l ?_;ext;rw[show (1:Int)+(mo:Int)=((mo+1:Nat):Int) by lia];refine edge0 n 1 f s (mo+1) _ fo6 cn hch (by lia) (by lia) (.inr ⟨rfl,by lia,?_⟩) fun ed lane' kvs' h1 h2 h3=>?_
  .have hcb:=hcb;cases hsl:ce Q (f++[s]) with
   | some l2=>rfl
   | none =>
    rw[hsl] at hcb;have hcb:=hcb rfl;rw[iT] at hsl;unfold cP at hsl;rw[rAt] at hsl
    first
     | cases hsl
     | cases hcb
  ext;exact fin2 h1 h2 (.go h3)
def iR(Q:List Df)(lane:List StL):Prop:=∀ d∈lane,PpK Q d.n d.fr/\PlD 8 d.dd
def ZpB:Pre:=fun ts G k=>∃ (b l:Addr) (Q:List Df),ts=[.ptr b,pgT Q]/\G b=some (.bag l)/\PgK Q/\∀ (la:Addr) (lane:List StL),G la=none->iR Q lane->DdL Q lane->(∀ d∈lane,Chn Q (plcF d.fr))->1<=lane.length->lane.length<=24->k (.ptr la) (gput G la (.lst (lane.map stT)))
def Zis:tq.C "_law_lane" 6 ["bag","program"] ZpB:=by
 refine tq.f1.okT ["bag","program","f","at","lane","keys","k"] fun ts G k nd hr hh=>?_;obtain⟨b,l,Q,rfl,hb,pk,q⟩:=hh;refine' go_G [some (.ptr b),some (pgT Q),none,none,none,none,none] rfl ?hb ?hg
 case hb=>exact(ag (cZ (i:=2) nd rfl (Or.inl rfl) (aw gu (pyk (aZ tq :) hr.m (x9 0 (aM (aG (bc (K:=K) rfl) (by rfl) tq.b_len bf (wx 1)) ab))) (pyk (aZ tq :) hr.m (x9 0 (ah aa ab))))) (ag (cZ (i:=3) nd rfl (Or.inl rfl) (aw gu (pyk (aZ tq :) hr.m (x9 0 (aM (aG (bc (K:=K) rfl) (by rfl) tq.b_len bf (aH (x8 K (x8 K (pv 1) (pv 2)) aa) ab)) ab))) (du Zmz (by rfl) tq.b_int mY (Znp (dJ ba (pyk (aZ tq :) hr.m (x9 0 (ah aa ab))) aa (aA _)) ab)))) (ag (jG (i:=4) nd rfl (Or.inl rfl) (bt ab)) (ag (cp (i:=5) nd rfl (Or.inl rfl) kr) (ag (eC (pyk (vf tq :) hr.m (x9 0 (x9 4 (x9 5 (g9 (bt (aS (av (x9 2 (x9 3 (aM (du (fh (K:=K) rfl) (by rfl) tq.b_tuple di (aM (pyk (mi tq :) hr.m (aH (x8 K (x8 K (pv 1) (pv 2)) aa) ab)) ab)) ab)))) ab)) ab)))))) (ag (cp (i:=6) nd rfl (Or.inl rfl) aa) (ag (uK PassesOwn.never (aB dM (pv 6) (aG (bc (K:=K) rfl) (by rfl) tq.b_len bf (wx 4)) (aA _)) (ag (bX (aw (gT (K:=K) rfl) (cO (eP (K:=K) rfl) (x8 K (pv 4) (pv 6)) cL (cK aa)) (av (aM (pyk (Ziu tq :) hr.m (x9 0 (x9 1 (x9 4 (x9 5 (aH (x8 K (pv 4) (pv 6)) ab)))))) ab))) (cS (pv 4) (pv 6) cW)) (aj (cZ (i:=6) nd rfl (Or.inl rfl) (aw bw (pv 6) aa))))) (aj (ax (pv 4))))))))))
 have ql:=pk.ok.2.1;have q0:0<Q.length:=length_pos_iff.mpr pk.ok.1;ext;rw[af];refine bj hb ⟨by lia,by lia⟩ fun v v0 v1=>?_;ext;refine bj hb ⟨by decide,by decide⟩ fun v2 v20 v21=>?_;ext;have sm:∀ {x y:Int},0<=x->x<1000->0<=y->y<1000->CBig x y:=fun h1 h2 h3 h4=>hX (bo (show _<=1000 by lia) (by decide +kernel)) (bo (show _<=1000 by lia) (by decide +kernel));refine l_IC (sm v0 (by lia) v20 (by lia)) ?_;obtain⟨fN,efN,hfN⟩:∃ fN:Nat,v*v2=fN/\fN<Q.length:=by
  have:v2=0\/v2=1:=by lia
  rcases this with rfl|rfl
  .exact ⟨0,by simp,q0⟩
  .exact ⟨v.toNat,by rw[nJ];lia,by lia⟩
 rw[efN];have ed:Q[fN]?=some Q[fN]:=aC hfN;generalize Q[fN]=df at ed;have hd:=aF ed;have dok:=pk.ok.2.2 df hd;have db:=pk.b df hd;obtain⟨rl,el,_⟩:=dok.last;have r0:0<df.rows.length:=by have:=(aT.mp el).1;lia
 have rn:=dok.n;have dat:atI (Q.map dfT) (fN:Int)=some (dfT df):=cG (n:=fN) rfl (by rw[ak,ed];rfl);ext;refine aW dat ?_;ext;rw[af];refine bj hb ⟨by lia,by lia⟩ fun a a0 a1=>?_;ext;refine bj hb ⟨by decide,by decide⟩ fun a3 _ _=>?_;ext;refine l_intB ?_;ext;refine l_IC (sm a0 (by lia) (by split <;> decide) (by split <;> decide)) ?_;obtain⟨aN,eaN,haN⟩:∃ aN:Nat,a*(if decide (a3=0)=true then 1 else 0)=aN/\aN<df.rows.length:=by
  split
  .exact ⟨a.toNat,by rw[nJ];lia,by lia⟩
  .exact ⟨0,by simp,r0⟩
 rw[eaN];refine bH ?_;refine cT (dX (jF ?_));ext;intro la nla;have nbl:b≠la:=g_ne hb nla;refine bH ?_;refine cT (dX (Zo3 fun kd nkd=>bH ?_));have hla:gput G la (.lst ([]:List T)) la=some (.lst (([]:List StL).map stT)):=gp_s;have hb1:gput G la (.lst ([]:List T)) b=some (.bag l):=by rw[gp_n nbl];exact hb
 have nlk:la≠kd:=g_ne hla nkd;have nbk:b≠kd:=g_ne hb1 nkd;have hla2:gput (gput G la (.lst [])) kd (.dk []) la=some (.lst (([]:List StL).map stT)):=by rw[gp_n nlk];exact hla
 have hb2:gput (gput G la (.lst [])) kd (.dk []) b=some (.bag l):=by rw[gp_n nbk];exact hb1
 have hkd2:gput (gput G la (.lst [])) kd (.dk []) kd=some (.dk []):=gp_s;generalize hG1:gput (gput G la (.lst [])) kd (.dk [])=G1 at hla2 hb2 hkd2;have L0:=LdSt.start hb2 hla2 hkd2 (.inr ⟨_,rfl⟩);obtain⟨bN,ebN⟩:∃ bN:Nat,df.boxes=bN:=⟨df.boxes.toNat,by have:=dok.b.1;lia⟩;ext;refine aW dat ?_;ext;refine⟨bN,by rw[ebN],by lia,fun sm nsm=>?_⟩;obtain⟨L1,_⟩:=L0.fresh nsm (c:=.lst ((ay bN).map fmT)) (fun _=>nofun);refine i6 (fe (sg_p gp_s) (fun _=>nofun) ?_);ext;have fo:FrsOk Q bN (10^60) [] ((fN:Int),(aN:Int),ay bN):=by
  refine⟨by simp,fun t ht=>?_,fun t ht=>by cases ht⟩;rw[dS] at ht;rw[aK.mp ht];refine⟨⟨df,_,by lia,ed,by show (0:Int)<=(aN:Int);lia,aC haN,?_⟩,fun g hg=>?_⟩
  .show ((ay bN).length:Int)=_;rw[ebN];unfold ay;simp
  .have hg:g∈ay bN:=hg;unfold ay at hg;obtain⟨j,hj,rfl⟩:=aU.mp hg;exact iu (c:=0) (by decide) (gG.mp hj)
 have cn:bY ([]++[((fN:Int),(aN:Int),ay bN)]):=fV (fun t ht=>by cases ht) (fH fun g hg=>by
  have hg:g∈ay bN:=hg;unfold ay at hg;obtain⟨j,hj,rfl⟩:=aU.mp hg;exact pW)
 refine⟨b,l,la,kd,Q,bN,10^60,[],((fN:Int),(aN:Int),ay bN),[],[],rfl,L1.bag,L1.ln,L1.kn,pk,fo,cn,vG,by lia,by decide +kernel,by simp,⟨(fun d hd=>by cases hd),(fun e he=>by cases he),aE _,(fun d hd=>by cases hd)⟩,fun mv k' n1 fr1 lane1 kvs1 h3 hk1 _ _ _=>?_⟩;obtain⟨lk1,ex1,e1,e1l,e1d⟩:=h3;have hk1:k'<lane1.length:=by have:=(aT.mp hk1).1;rwa [af] at this
 have dl1:DdL Q lane1:=by rw[e1];exact DdL.app (fun d hd=>nomatch hd) e1d
 have L2:=(L1.app lane1).kput (.dk kvs1);have l1:1<=lane1.length:=by lia
 have l24:lane1.length<=24:=by rw[e1,aJ];simp;lia
 generalize gput (gput (gput G1 sm (.lst ((ay bN).map fmT))) la (.lst (lane1.map stT))) kd (.dk kvs1)=G2 at L2;ext;refine sX (fun m Γ' G'=>Ex3 fun(lane:List StL) (kvs:List (Key×T)) (kN:Nat)=>An8 (kN+m=24) (LdSt G1 G' b l la kd [sm] lane (.dk kvs)) (LnS Q lane kvs) (DdL Q lane) (1<=lane.length) (lane.length<=24) (kN<=lane.length) (Γ'=[some (.ptr b),some (pgT Q),some (.int fN),some (.int aN),some (.ptr la),some (.ptr kd),some (.int kN)])) 24 ⟨lane1,kvs1,0,rfl,L2,lk1,dl1,l1,l24,bO _,rfl⟩ ?_;rintro m Γ' G' ⟨lane,kvs,kN,hm,L,lk,dl,h1,h24,hk,rfl⟩;ext;refine cu (sg_p L.ln) ?_;rw[af];ext;refine bU (fun hlt=>?_) fun hge=>?_
 .have hlt:kN < lane.length:=by lia
  have ek:lane[kN]?=some lane[kN]:=aC hlt;generalize lane[kN]=d at ek;have hat:atI (lane.map stT) (kN:Int)=some (stT d):=cG (n:=kN) rfl (by rw[ak,ek];rfl);ext;refine l_ix (sg_p L.ln) hat ?_;ext;refine eN ?_;rw[gQ (by decide) (by simp)];ext;refine l_ix (sg_p L.ln) hat ?_;ext;refine⟨b,l,la,kd,Q,d,lane,kvs,rfl,L.bag,L.ln,L.kn,pk,(lk.st d (aF ek)).1,lk.ch d (aF ek),by lia,lk,fun dd lane' kvs' ex hdd lk' e1 e2 e3 e4 e5=>?_⟩;have L3:=(L.app lane').kput (.dk kvs');have ek':lane'[kN]?=some d:=by rw[e1,cg hlt];exact ek
  have l3:lane'.length<=24/\lane.length<=lane'.length:=by
   rw[e1,aJ];refine⟨?_,by lia⟩;by_cases h22:22<lane.length
   .rw[e3 h22];simp;lia
   .lia
  generalize gput (gput G' la (.lst (lane'.map stT))) kd (.dk kvs')=G3 at L3;ext;refine gE (by simp) ?_;ext;refine⟨la,lane'.map stT,kN,kN,rfl,rfl,L3.ln,kT rfl (by rw[af];lia),?_⟩;have es:(lane'.map stT).set kN (.tup (List.take (2:Int).toNat [T.int d.n,.lst (d.fr.map sfT),d.dd]++[dd]))=(lane'.set kN ⟨d.n,d.fr,dd⟩).map stT:=by rw[iL];rfl
  rw[es];have L4:=L3.app (lane'.set kN ⟨d.n,d.fr,dd⟩);ext;dsimp only;refine bQ ⟨m-1,by lia,_,kvs',kN+1,by lia,L4,lk'.set ek' (hdd.up (by decide)),DdL.set (by rw[e1];exact dl.app e4) ek' e5,by rw[cC];lia,by rw[cC];exact l3.1,by rw[cC];lia,rfl⟩
 .ext;refine L.fin ?_;rw[<-hG1,gp4 nlk];have nk0:gput G la (.lst (lane.map stT)) kd=none:=by rw[gp_n nlk.symm];rwa [gp_n nlk.symm] at nkd
  exact eO nk0 (fun _=>nofun) (au (q la lane nla lk.st dl lk.ch h1 h24))
def EdB.shape{P:List (Nat×List SF)}{start:List SF}{e:T}{b:Bool}(h:EdB Q P own start e b):∃ (r:Int) (ms:List T) (j:Int),e=.tup [.int r,.tup ms,.int j]:=by
 rcases h with ⟨_,rows,moves,kk,_,_,rfl,_⟩|⟨_,r,ms,j,rfl,_⟩
 .exact ⟨_,_,_,rfl⟩
 .exact ⟨_,_,_,rfl⟩
def Zg5:Pre:=fun ts G k=>∃ (Q:List Df) (lane:List StL) (own:List Fm) (f:List SF) (s:SF) (e:T) (b:Bool),ts=[pgT Q,.lst (lane.map stT),.lst ((lane.map fun _=>true).map T.bl),.lst (own.map fmT),.lst ((f++[s]).map sfT),e]/\PgK Q/\lane.length<=1000/\(∀ d∈lane,PpK Q d.n d.fr)/\own.length<64/\(∀ g∈own,Fo own.length (10^60) g)/\FrsOk Q own.length (10^130) f s/\EdB Q (pnL lane) own (f++[s]) e b/\k (.bl b) G
def sc_edge_fits:FnScope ["program","lane","fits","own","start","edge","rows","moves","k"] ["program","lane","fits","own","start","edge"] (bG qm):=by walk_at"fs"
def Ziq:tq.C "edge_fits" 7 ["program","lane","fits","own","start","edge"] Zg5:=by
 refine tq.f2.okG sc_edge_fits (by walk_at"lnx") fun f cdv A outer s H E ts G' k hr hh=>?_;have nd:=sc_edge_fits.nd;have hu:=hr.units;obtain⟨Q,lane,own,f,s,e,b,rfl,pk,hl,hp,ho,hof,fo,hb,q⟩:=hh;obtain⟨r,ms,j,rfl⟩:=EdB.shape hb;refine' go_G [some (pgT Q),some (.lst (lane.map stT)),some (.lst ((lane.map fun _=>true).map T.bl)),some (.lst (own.map fmT)),some (.lst ((f++[s]).map sfT)),some (.tup [.int r,.tup ms,.int j]),none,none,none] rfl ?hb ?hg
 case hb=>exact(ag (cB (i:=6) nd rfl (Or.inl rfl) (x8 K (pv 5) aa)) (ag (cB (i:=7) nd rfl (Or.inl rfl) (x8 K (pv 5) aa)) (ag (cB (i:=8) nd rfl (Or.inl rfl) (x8 K (pv 5) aa)) (ag (aL (dq (PW.pt (bV (ie fg fg aa (pv 6) (ku (by rfl) tq.c_MOST_EDGE_ROWS)) (bV (ie fg dM aa (pv 8) (aG (bc (K:=K) rfl) (by rfl) tq.b_len bf (wx 1))) (cF (cr (x8 K (pv 2) (pv 8)))))))) (aj (ax dw)) aO) (ag (aL (PW.pt (fT (aB gM (aG (bc (K:=K) rfl) (by rfl) tq.b_len bf (wx 7)) (x8 K (x8 K (pv 1) (pv 8)) aa) (aA _)) (gF (dq (cr (aG (ja (K:=K) rfl rfl) (by rfl) tq.b_all iO (dW (pyc ["move"] ["own"] [3] (dL (K:=K) rfl (pv 7)) (fun _ _ _ _ _ _=>(pyk (vV tq :) hr.m (x9 0 (aM (aG (bc (K:=K) rfl) (by rfl) tq.b_len bf (wx 1)) ab))))) ab))))))) (aj (ax dw)) aO) (aj (ax (dJ (op_eqA hu) (pyk (ZgC tq :) hr.m (x9 0 (x9 4 (wx 6)))) (pyk (xt tq :) hr.m (aH (x8 K (x8 K (pv 1) (pv 8)) aa) (dW (pyc ["move"] ["own"] [3] (dL (K:=K) rfl (pv 7)) (fun _ _ _ _ _ _=>(pyk (sf tq :) hr.m (x9 0 (wx 1))))) ab))) (aA _)))))))))
 rcases hb with ⟨rfl,rows,moves,kk,n,fr,ee,_,hr40,hk,hm,hmv,hgo⟩|⟨rfl,r2,ms2,j2,ee,h200⟩
 rotate_left
 .cases ee;ext;rw[aX (by lia)];ext;rw[bz (by lia)];ext;exact au q
 cases ee;obtain⟨d,ed,hd⟩:∃ d,lane[kk]?=some d/\(d.n,d.fr)=(n,fr):=by
  rw[ak] at hk;obtain⟨d,e1,e2⟩:=bh.mp hk;exact⟨d,e1,e2⟩
 injection hd with hd1 hd2
 subst hd1 hd2;have hkl:=(aT.mp ed).1;obtain⟨pn,⟨pf,ps,epf,pfo⟩,_⟩:=hp d (aF ed);have pfew:=pfo.few;have dat:atI (lane.map stT) (kk:Int)=some (stT d):=cG (n:=kk) rfl (by rw[ak,ed];rfl);have fat:atI ((lane.map fun _=>true).map T.bl) (kk:Int)=some (.bl true):=cG (n:=kk) rfl (by rw[ak,ak,ed];rfl);ext;rw[aX (by lia)];ext;rw[af,aX (by lia)];ext;refine aW fat ?_;ext;refine aW dat ?_;ext;rw[af,aX (by lia)];ext;refine cQ (fun Γ'=>∃ c,Γ'=[c,some (.lst (own.map fmT))]) ?_;ext;refine⟨_,rfl,by rw[af];lia,trivial,⟨_,rfl⟩,(moves.map fun _=>true).map T.bl,by rw[af,af,af],?_,?_⟩
 .rintro i z y Γ' hz hy ⟨c,rfl⟩;rw[ak] at hz;obtain⟨g,eg,rfl⟩:=bh.mp hz;rw[ak,ak,eg] at hy;cases hy;obtain⟨h1,h2⟩:=hmv g (aF eg);ext;refine⟨⟨_,rfl⟩,rfl,?_⟩;ext;rw[af];exact⟨g,own.length,rfl,gd_fo h2 h1 (by lia),rfl,rfl⟩
 ext;rw[kR];ext;have b9:100^rows*10^130<=10^900:=bo (gn _ (iK (by decide) hr40)) (by decide +kernel);refine⟨Q,own.length,10^130,rows,f,s,_,rfl,pk,ho,by decide +kernel,by lia,b9,fo,hgo,?_⟩;ext;refine aW dat ?_;ext;refine cQ (fun Γ'=>∃ c,Γ'=[c,some (.lst (own.map fmT))]) ?_;ext;refine⟨_,rfl,by rw[af];lia,trivial,⟨_,rfl⟩,(moves.map fun g=>bF g own).map fmT,by rw[af,af,af],?_,?_⟩
 .rintro i z y Γ' hz hy ⟨c,rfl⟩;rw[ak] at hz;obtain⟨g,eg,rfl⟩:=bh.mp hz;rw[ak,ak,eg] at hy;cases hy;obtain⟨h1,h2⟩:=hmv g (aF eg);ext;refine⟨⟨_,rfl⟩,rfl,?_⟩;ext;exact⟨own.length,own.length,g,own,_,rfl,si_l,⟨h2.le (aE _) (by decide +kernel),ho⟩,rfl,ho,fun g' hg'=>⟨(hof g' hg').le (aE _) (by decide +kernel),ho⟩,rfl,rfl⟩
 ext;refine⟨d.fr,moves.map fun g=>bF g own,_,_,own.length,rfl,si_l,si_l,by rw[epf,aJ];simp;lia,fun t ht=>?_,ho,fun g hg=>?_,?_⟩
 .rw[epf] at ht;have hs:=pfo.all t ht;exact⟨by have:=gw pk hs;lia,fun g hg=>⟨by rw[af,hm];exact(hs.fm g hg).le (aE _) (by decide +kernel),by rw[af];lia⟩⟩
 .obtain ⟨g',hg',rfl⟩:=aU.mp hg;exact⟨(vm (hmv g' hg').2 (aE _) ho hof).le (aE _) (by decide +kernel),ho⟩
 refine l_eqA (ZmG si_l si_l (bo (mj (n:=5) fun t _=>dp_sf t) (by decide))) ?_;exact au q
def Zg6:Pre:=fun ts G k=>∃ (Q:List Df) (n B:Nat) (f:List SF) (s:SF) (dd:T) (Pn:List (Nat×List SF)) (b r:Bool),ts=[pgT Q,.tup [.int n,.lst ((f++[s]).map sfT),dd]]/\FrsOk Q n B f s/\((DdZ Q Pn n f s dd b/\r=true)\/(dd=.tup [.str "keep"]/\r=false))/\k (.bl r) G
def sc_deed_fits:FnScope ["program","stand","deed","word"] ["program","stand"] (bG pB):=by walk_at"fs"
def Zir:tq.C "deed_fits" 3 ["program","stand"] Zg6:=by
 refine tq.f3.okG sc_deed_fits (by walk_at"lnx") fun f cdv A outer s H E ts G' k hr hh=>?_;have nd:=sc_deed_fits.nd;obtain⟨Q,n,B',f,s,dd,Pn,b,r',rfl,fo,hd,q⟩:=hh;obtain⟨d,r,_,h2,hrow,h4,h0,h3,h5⟩:=eE (fo.all s (by simp));have lastAt:atI ((f++[s]).map sfT) (-1)=some (sfT s):=by rw[aY];exact fG _ _
 have edb:∀ {P own start} {e:T} {b:Bool},EdB Q P own start e b->∃ a b c,e=.tup [a,b,c]:=fun h=>by
  obtain⟨_,_,_,rfl⟩:=EdB.shape h;exact⟨_,_,_,rfl⟩
 have edg:∀ {P own least start} {e:T},EdS Q P own least start e->∃ a b c,e=.tup [a,b,c]:=fun h=>edb h.b;refine' go_G [some (pgT Q),some (.tup [.int n,.lst ((f++[s]).map sfT),dd]),none,none] rfl ?hb ?hg
 case hb=>exact(ag (cB (i:=2) nd rfl (Or.inl rfl) (x8 K (pv 1) aa)) (ag (cB (i:=3) nd rfl (Or.inl rfl) (x8 K (pv 2) aa)) (ag (aL (PW.pt (fT (aB (Znq (K:=K) (w:=w) (tb:=deedT) rfl rfl) (pv 3) (kI (K:=K) (w:=w) (by rfl) tq.c_DEED_PARTS) (by with_unfolding_all rfl)) (gF (aB gM (aG (bc (K:=K) rfl) (by rfl) tq.b_len bf (wx 2)) (aw bw (aG (bc (K:=K) rfl) (by rfl) tq.b_len bf (aH (qy (K:=K) (w:=w) (tb:=deedT) rfl rfl (kI (K:=K) (w:=w) (by rfl) tq.c_DEED_PARTS) (pv 3) (fun _ _=>rfl)) ab)) aa) (aA _))))) (aj (ax dw)) aO) (ag (aL (dq (cr (aG (ja (K:=K) rfl rfl) (by rfl) tq.b_all iO (dW (fS (LN:=["part","kind"]) (FN:=[]) (fr:=[]) rfl (dE (by rfl)) (wI (t1:=true) (t2:=true) (K:=K) rfl (by rfl) tq.b_zip (aH (cO (eP (K:=K) rfl) (pv 2) (cK aa) cL) (aH (qy (K:=K) (w:=w) (tb:=deedT) rfl rfl (kI (K:=K) (w:=w) (by rfl) tq.c_DEED_PARTS) (pv 3) (fun _ _=>rfl)) ab))) (fun _ _ _ _ _ _=>(cM (K:=K) (n:=2) rfl rfl (aV (pyb 0) (aV (pyb 1) cA)))) (fun _ _ _ _ _ _=>dI) (fun _ _ _ _ _ _=>(pyk (Zim tq :) hr.m (x9 0 (wx 1))))) ab)))) (aj (ax dw)) aO) (ag (aL (PW.pt (bV (aB (ZpM (K:=K) (w:=w) (tb:=deedRowsT) rfl rfl) (pv 3) (kI (K:=K) (w:=w) (by rfl) tq.c_DEED_ROWS) (by with_unfolding_all rfl)) (cF (aB (vR (K:=K) rfl) (x8 K (pyk (kW tq :) hr.m (x9 0 (aH (x8 K (x8 K (pv 1) aa) (ck cj aa)) ab))) aa) (qy (K:=K) (w:=w) (tb:=deedRowsT) rfl rfl (kI (K:=K) (w:=w) (by rfl) tq.c_DEED_ROWS) (pv 3) (fun _ _=>rfl)) (by with_unfolding_all rfl))))) (aj (ax dw)) aO) (aj (ax (pe_or (dJ gM (pv 3) aD (aA _)) (jf (Zno fg dM aa (x8 K (pv 2) aa) (x8 K (pv 1) aa)))))))))))
 rcases hd with ⟨hd,rfl⟩|⟨rfl,rfl⟩
 rotate_left
 .ext;refine⟨"keep",rfl,?_⟩;rw[show deedT.lookup ("keep":Str)=none from rfl];ext;exact au q
 have hv:∃ (wd:Str) (ps:List T) (ks:List Str),dd=.tup (.str wd::ps)/\deedT.lookup wd=some ks/\ps.length=ks.length/\(∀ (i:Nat) x kd,ps[i]?=some x->ks[i]?=some kd->(kd="number"/\∃ i:Int,x=.int i)\/(kd="edge"/\∃ a b c:T,x=.tup [a,b,c]))/\ps.length<=3/\(∀ rs,deedRowsT.lookup wd=some rs->rs.contains r.row.1=true)/\(wd="hold"->∃ (w:Nat) (r:List T),ps=.int w::r/\w<n):=by
  have one:∀ {e:T},(∃ a b c,e=.tup [a,b,c])->∀ (i:Nat) x kd,[e][i]?=some x->(["edge"]:List Str)[i]?=some kd->(kd="number"/\∃ i:Int,x=.int i)\/(kd="edge"/\∃ a b c:T,x=.tup [a,b,c]):=fun h i x kd e1 e2=>by
   cases i with
   | zero=>cases e1;cases e2;exact .inr ⟨rfl,h⟩
   | succ i=>cases e1
  cases hd with
  | leave=>exact⟨"leave",[],[],rfl,rfl,rfl,fun i x kd h=>(by cases h),by simp,fun rs h=>(by cases h),fun h=>absurd h (by decide)⟩
  | go h=>exact⟨"go",_,["edge"],rfl,rfl,rfl,one (edb h),by simp,fun rs h=>(by cases h),fun h=>absurd h (by decide)⟩
  | @hold w c e hw hc h =>
   refine⟨"hold",_,["number","number","edge"],rfl,rfl,rfl,fun i x kd e1 e2=>?_,by simp,fun rs h=>(by cases h),fun _=>⟨w,_,rfl,hw⟩⟩
   match i,e1,e2 with
   | 0,e1,e2=>cases e1;cases e2;exact .inl ⟨rfl,_,rfl⟩
   | 1,e1,e2=>cases e1;cases e2;exact .inl ⟨rfl,_,rfl⟩
   | 2,e1,e2=>cases e1;cases e2;exact .inr ⟨rfl,edg h⟩
   | i+3,e1,_=>cases e1
  | @test p t a b hr2 h1 h2 =>
   refine⟨"test",_,["edge","edge"],rfl,rfl,rfl,fun i x kd e1 e2=>?_,by simp,fun rs h=>?_,fun h=>absurd h (by decide)⟩
   .match i,e1,e2 with
    | 0,e1,e2=>cases e1;cases e2;exact .inr ⟨rfl,edg h1⟩
    | 1,e1,e2=>cases e1;cases e2;exact .inr ⟨rfl,edg h2⟩
    | i+2,e1,_=>cases e1
   .cases h;rw[hrow] at hr2;rcases hr2 with e|e <;> (injection e with e;subst e;rfl)
  | tell hr2 h =>
   refine⟨"tell",_,["edge"],rfl,rfl,rfl,one (edg h),by simp,fun rs h=>?_,fun h=>absurd h (by decide)⟩;cases h;rw[hrow] at hr2;injection hr2 with e
   subst e;rfl
  | take hr2 h =>
   refine⟨"take",_,["edge"],rfl,rfl,rfl,one (edg h),by simp,fun rs h=>?_,fun h=>absurd h (by decide)⟩;cases h;rw[hrow] at hr2;injection hr2 with e
   subst e;rfl
 obtain⟨wd,ps,ks,rfl,hlk,hlen,hpt,h3l,hrs,hho⟩:=hv;ext;refine⟨wd,rfl,?_⟩;rw[hlk];ext;refine⟨wd,ks,rfl,hlk,?_⟩;ext;rw[cD,hlen,aX (by lia)];ext;refine cQ (fun Γ'=>Ex2 fun c1 c2=>Γ'=[c1,c2]) ?_;ext;refine eN ?_;rw[je (by decide) (by rw[cD];lia)];ext;refine⟨wd,ks,rfl,hlk,?_⟩;ext;refine⟨_,_,ps,ks.map T.str,rfl,.inl rfl,.inr ⟨ks,rfl,rfl⟩,by rw[af,ki];lia,⟨.inl rfl,.inr ⟨ks,rfl,rfl⟩⟩,⟨_,_,rfl⟩,(ps.map fun _=>true).map T.bl,by rw[af,af,af,ki,af,hlen,Nat.min_self],?_,?_⟩
 .rintro i z y Γ' hz hy ⟨c1,c2,rfl⟩;rw[ak] at hz;obtain⟨⟨a,b⟩,ez,rfl⟩:=bh.mp hz;obtain⟨ea,eb⟩:=ou.mp ez;dsimp only at ea eb;rw[ak] at eb;obtain⟨kd,ek,rfl⟩:=bh.mp eb;rw[ak,ak,ea] at hy;cases hy;refine cR rfl ?_;ext;refine⟨⟨_,_,rfl⟩,rfl,?_⟩;ext;exact⟨a,kd,rfl,hpt i a kd ea ek,rfl,rfl⟩
 ext;rw[kR];ext;refine⟨wd,rfl,?_⟩;have fin:if (!decide (wd=("hold":Str)))=true then Cl k (.bl true) G' else We P w K (nr (rI0 fun i j=>V.bl (decide (i<=j))) (rI0 fun i j=>V.bl (decide (i<j))) (tC (.int 0)) (tOp (rIxA K) (tVar 2) (tC (.int 1))) (tOp (rIxA K) (tVar 1) (tC (.int 0)))) [some (pgT Q),some (.tup [.int n,.lst ((f++[s]).map sfT),.tup (.str wd::ps)]),some (.tup (.str wd::ps)),some (.str wd)] G' (Cl k):=by
  by_cases hw:wd="hold"
  .obtain ⟨w9,r9,rfl,h9⟩:=hho hw;rw[aX hw];ext;rw[aX (show (w9:Int)<n by lia)];exact au q
  .rw[bz hw];ext;exact au q
 cases hdr:deedRowsT.lookup wd with
 | none =>
  ext;exact fin
 | some rs =>
  ext;refine aW lastAt ?_;ext;refine⟨Q,s,r,rfl,h0,h3,hrow,?_⟩;ext;refine⟨wd,rs,rfl,hdr,?_⟩;ext;refine l_notC ?_;rw[hrs rs hdr];ext;exact fin
def pS:∀ g∈ay n,Fo n (10^60) g:=fun g hg=>by
 unfold ay at hg;obtain⟨j,hj,rfl⟩:=aU.mp hg;exact iu (c:=0) (by decide) (gG.mp hj)
def uI{w:Nat}(hc:c.natAbs<=10^60):∀ g∈cU n w c,Fo n (10^60) g:=fun g hg=>by
 rcases m9 hg with hg|rfl
 .exact pS g hg
 .exact Fo.nil hc
def ef_of(pk:PgK Q)(hn:n<=40){Pn:List (Nat×List SF)}{s:SF}{dd:T}(fo:FrsOk Q n (10^60) f s)(cn:bY (f++[s])){b:Bool}(h:DdZ Q Pn n f s dd b):∃ (own:List Fm) (f':List SF) (s':SF) (sts:List (List SF)) (wd:Str) (ps es:List T) (bs:List Bool),OwnV n dd own/\own.length<64/\(∀ g∈own,Fo own.length (10^60) g)/\(f++[s]).map (jB own)=f'++[s']/\FrsOk Q own.length (10^130) f' s'/\StaV Q f' s' own dd sts/\DdV dd wd ps es/\(∀ (i:Nat) l e,sts[i]?=some l->es[i]?=some e->∃ f2 s2 b',bs[i]?=some b'/\l=f2++[s2]/\FrsOk Q own.length (10^130) f2 s2/\EdB Q Pn own (f2++[s2]) e b')/\sts.length<=2/\bs.length=(sts.zip es).length/\bs.all id=b:=by
 have B6:10^60<=10^130:=by decide +kernel
 have wl:∀ n,(ay n).length=n:=fun n=>by unfold ay;rw[af,dC]
 have pos:∀ t∈f++[s],∀ g∈t.2.2,PsW g:=fun t ht g hg p hp=>(((fo.all t ht).fm g hg).w p hp).1;have fw:(f++[s]).map (jB (ay n))=f++[s]:=mL (mh fo) cn pos (jK n);have fw1:(f++[s]).map (jB (ay (n+1)))=f++[s]:=mL (mh (jC fo (nR n) (aE _))) cn pos (jK (n+1));have fo0:FrsOk Q (ay n).length (10^130) f s:=by rw[wl];exact jC fo (aE n) B6
 have wf:∀ n,∀ g∈ay n,Fo (ay n).length (10^60) g:=fun n=>by rw[wl];exact pS
 have hs:=fo.all s (by simp);obtain⟨d,r,hd,h2,hrow,h4,h0,h3,h5⟩:=eE hs;have ok:=(pk.ok.2.2 d hd).rows r (aF h4);have one:∀ {own:List Fm} {f2:List SF} {s2:SF} {e:T} {b:Bool},FrsOk Q own.length (10^130) f2 s2->EdB Q Pn own (f2++[s2]) e b->∀ (i:Nat) l e',[f2++[s2]][i]?=some l->[e][i]?=some e'->∃ f2 s2 b',[b][i]?=some b'/\l=f2++[s2]/\FrsOk Q own.length (10^130) f2 s2/\EdB Q Pn own (f2++[s2]) e' b':=fun {own f2 s2 e b} h1 h2 i l e' a1 a2=>by
  cases i with
  | zero=>cases a1;cases a2;exact⟨f2,s2,b,rfl,rfl,h1,h2⟩
  | succ i=>cases a1
 have nxt:¬ r.last->FrsOk Q (ay n).length (10^130) f (s.1,s.2.1+1,s.2.2):=fun hl=>by
  obtain⟨n1,n2⟩:=iZ pk hs hrow hl;exact np fo0 n1 n2
 have inr:∀ {t:Int},In0 t d.rows.length->FrsOk Q (ay n).length (10^130) f (s.1,t,s.2.2):=fun {t} ht=>np fo0 ht.1 fun d' hd'=>by
  rw[h2] at hd';cases hd';have:=ht.2;have:=ht.1;lia
 cases h with
 | leave=>exact⟨ay n,f,s,_,_,_,_,[],.plain .leave (by decide) (by decide),by rw[wl];lia,wf n,fw,fo0,.leave,.leave,fun i l e _ h=>(by cases h),by simp,rfl,rfl⟩
 | go h=>exact⟨ay n,f,s,_,_,_,_,[b],.plain .go (by decide) (by decide),by rw[wl];lia,wf n,fw,fo0,.go,.go,one fo0 h,by simp,rfl,by simp⟩
 | @hold w c e hw hc h =>
  have hl:(cU n w c).length=n:=pX n w c;have e2:(f++[s]).map (bJ (cU n w c))=f.map (bJ (cU n w c))++[bJ (cU n w c) s]:=by rw[aY];rfl
  have fo2:FrsOk Q (cU n w c).length (10^130) (f.map (bJ (cU n w c))) (bJ (cU n w c) s):=by
   rw[hl];exact jC (uP fo (by rw[hl];exact aE n) (by rw[hl];lia) (uI hc)) (aE n) (by decide +kernel)
  rw[e2] at h;exact⟨cU n w c,_,_,_,_,_,_,[true],.hold hw,by rw[hl];lia,by rw[hl];exact uI hc,e2,fo2,.hold,.hold,one fo2 h.b,by simp,rfl,rfl⟩
 | @test p t a b hr h1 h2' =>
  have hok:In0 t d.rows.length/\¬ r.last:=by
   rw[hrow] at hr;rcases hr with e|e <;> (injection e with e;subst e;exact⟨ok.2,fun h=>h⟩)
  refine⟨ay n,f,s,_,_,_,_,[true,true],.plain .test (by decide) (by decide),by rw[wl];lia,wf n,fw,fo0,.test hr,.test,fun i l e a1 a2=>?_,by simp,rfl,rfl⟩
  match i,a1,a2 with
  | 0,a1,a2=>cases a1;cases a2;exact⟨f,_,true,rfl,rfl,inr hok.1,h1.b⟩
  | 1,a1,a2=>cases a1;cases a2;exact⟨f,_,true,rfl,rfl,nxt hok.2,h2'.b⟩
  | i+2,a1,_=>cases a1
 | @tell p e hr h =>
  have hok:¬ r.last:=by
   rw[hrow] at hr;injection hr with e;subst e;exact fun h=>h
  exact⟨ay n,f,s,_,_,_,_,[true],.plain .tell (by decide) (by decide),by rw[wl];lia,wf n,fw,fo0,.tell hr,.tell,one (nxt hok) h.b,by simp,rfl,rfl⟩
 | @take p e hr h =>
  have fo1:FrsOk Q (ay (n+1)).length (10^130) f s:=by rw[wl];exact jC fo (nR n) B6
  have hr':=hr;rw[hrow] at hr';injection hr' with er
  subst er;obtain⟨n1,n2⟩:=iZ pk hs hrow (fun h=>h);have p1:p<s.2.2.length:=by have:=ok.2;lia
  have fo3:FrsOk Q (ay (n+1)).length (10^130) f (s.1,s.2.1+1,s.2.2.set p.toNat (ofW n)):=by
   refine⟨fo.few,fun t ht=>?_,fo.call⟩;rcases aR.mp ht with ht|ht
   .exact fo1.all t (dQ _ ht)
   .rw[aK.mp ht];exact ma (fo1.all s (by simp)) (by rw[wl];exact(iu (N:=n+1) (c:=0) (by decide) (by lia)).le (aE _) B6) n1 n2
  exact⟨ay (n+1),f,s,_,_,_,_,[true],.take,by rw[wl];lia,wf (n+1),fw1,fo1,.take hr ⟨ok.1,p1⟩ (by rw[ub];exact getLast?_concat),.take,one fo3 h.b,by simp,rfl,rfl⟩
def Zg4:Pre:=fun ts G k=>∃ (Q:List Df) (lane:List StL) (n:Nat) (f:List SF) (s:SF) (dd:T) (b:Bool),ts=[pgT Q,.lst (lane.map stT),.lst ((lane.map fun _=>true).map T.bl),.tup [.int n,.lst ((f++[s]).map sfT),dd]]/\PgK Q/\lane.length<=1000/\(∀ d∈lane,PpK Q d.n d.fr)/\n<=40/\FrsOk Q n (10^60) f s/\bY (f++[s])/\DdZ Q (pnL lane) n f s dd b/\k (.bl b) G
def Zip:tq.C "edges_fit" 8 ["program","lane","fits","stand"] Zg4:=by
 refine tq.f4.okT ["program","lane","fits","stand","own","starts"] fun ts G k nd hr hh=>?_;obtain⟨Q,lane,n,f,s,dd,b,rfl,pk,hl,hp,hn,fo,cn,hd,q⟩:=hh;obtain⟨own,f',s',sts,wd,ps,es,bs,ow,ol,ofo,efl,fo',sv,dv,hz',h2,hbl,hba⟩:=ef_of pk hn fo cn hd;have few:=fo.few;refine' go_G [some (pgT Q),some (.lst (lane.map stT)),some (.lst ((lane.map fun _=>true).map T.bl)),some (.tup [.int n,.lst ((f++[s]).map sfT),dd]),none,none] rfl ?hb ?hg
 case hb=>exact(ag (bE (i:=4) nd rfl (Or.inr rfl) (pyk (Zin tq :) hr.m (wx 3))) (ag (bE (i:=5) nd rfl (Or.inl rfl) (pyk (Zik tq :) hr.m (x9 0 (x9 3 (wx 4))))) (aj (ax (aG (ja (K:=K) rfl rfl) (by rfl) tq.b_all iO (dW (fS (LN:=["start","edge"]) (FN:=["program","lane","fits","own"]) (fr:=[0,1,2,4]) rfl (dE (by rfl)) (wI (t1:=false) (t2:=true) (K:=K) rfl (by rfl) tq.b_zip (x9 5 (aM (pyk (rW tq :) hr.m (aH (x8 K (pv 3) aa) ab)) ab))) (fun _ _ _ _ _ _=>(cM (K:=K) (n:=2) rfl rfl (aV (pyb 0) (aV (pyb 1) cA)))) (fun _ _ _ _ _ _=>dI) (fun _ _ _ _ _ _=>(pyk (Ziq tq :) hr.m (x9 2 (x9 3 (x9 4 (x9 5 (x9 0 (wx 1))))))))) ab))))))
 ext;refine⟨n,_,dd,own,rfl,by lia,ow,?_⟩;ext;refine⟨Q,n,own.length,own.length,10^130,f++[s],f',s',dd,own,sts,rfl,pk,by rw[aJ];simp;lia,fun t ht=>?_,ol,fun g hg=>⟨(ofo g hg).le (aE _) (by decide +kernel),ol⟩,efl,fo',sv,?_⟩
 .have hs:=fo.all t ht;have nl:n<=own.length:=by
   cases ow with
   | plain _ _ _=>unfold ay;rw[af,dC];exact aE n
   | take=>unfold ay;rw[af,dC];lia
   | hold _=>rw[pX];exact aE n
  exact⟨by have:=gw pk hs;lia,fun g hg=>⟨(hs.fm g hg).le nl (by decide +kernel),ol⟩⟩
 ext;refine cQ (fun Γ'=>Ex2 fun c1 c2=>Γ'=[c1,c2,some (pgT Q),some (.lst (lane.map stT)),some (.lst ((lane.map fun _=>true).map T.bl)),some (.lst (own.map fmT))]) ?_;ext;refine⟨dd,wd,ps,es,rfl,dv,?_⟩;ext;refine⟨_,_,sts.map fun l=>T.lst (l.map sfT),es,rfl,.inl rfl,.inl rfl,by rw[af,ki,af];lia,⟨.inl rfl,.inl rfl⟩,⟨_,_,rfl⟩,bs.map T.bl,by rw[af,af,hbl,ki,ki,af],?_,?_⟩
 .rintro i z y Γ' hz hy ⟨c1,c2,rfl⟩;rw[ak] at hz;obtain⟨⟨a,c0⟩,ez,rfl⟩:=bh.mp hz;obtain⟨ea,eb⟩:=ou.mp ez;dsimp only at ea eb;rw[ak] at ea;obtain⟨l,el,rfl⟩:=bh.mp ea;obtain⟨f2,s2,b',eb',rfl,fo2,he⟩:=hz' i l c0 el eb;rw[ak,eb'] at hy;cases hy;refine cR rfl ?_;ext;refine⟨⟨_,_,rfl⟩,rfl,?_⟩;ext;exact⟨Q,lane,own,f2,s2,c0,b',rfl,pk,hl,hp,ol,ofo,fo2,he,rfl,rfl⟩
 ext;rw[hba];exact au q
inductive StF(Q:List Df)(P:List (Nat×List SF))(n:Nat)(f:List SF)(s:SF)(dd:T):T->Prop
 | keep (h:dd=.tup [.str "keep"]):StF Q P n f s dd (.str "deed")
 | ok (h:DdZ Q P n f s dd true):StF Q P n f s dd .non
 | edge (h:DdZ Q P n f s dd false):StF Q P n f s dd (.str "edge")
structure GdP(Q:List Df)(lane:List StL):Prop where
 pk:PgK Q
 n1:1<=lane.length
 n2:lane.length<=100
 pp:∀ d∈lane,PpK Q d.n d.fr
 ch:∀ d∈lane,Chn Q (plcF d.fr)
def StO(Q:List Df)(lane:List StL)(d:StL)(r:T):Prop:=∀ f s,d.fr=f++[s]->StF Q (pnL lane) d.n f s d.dd r
def Zfr:Pre:=fun ts G k=>∃ (Q:List Df) (lane:List StL) (i:Nat) (d:StL) (r:T),ts=[pgT Q,.lst (lane.map stT),.lst ((lane.map fun _=>true).map T.bl),.int i]/\GdP Q lane/\lane[i]?=some d/\StO Q lane d r/\k r G
def Zgx:tq.C "stand_fault" 9 ["program","lane","fits","k"] Zfr:=by
 refine tq.f5.okT ["program","lane","fits","k"] fun ts G k nd hr hh=>?_;obtain⟨Q,lane,i,d,r,rfl,gd,ei,hs,q⟩:=hh;have dm:=aF ei;obtain⟨n40,⟨f,s,efr,fo⟩,cn⟩:=gd.pp d dm;have hd:=hs f s efr;have n2:=gd.n2;have est:stT d=.tup [.int d.n,.lst ((f++[s]).map sfT),d.dd]:=by rw[<-efr]
 rw[efr] at cn;have dat:atI (lane.map stT) (i:Int)=some (.tup [.int d.n,.lst ((f++[s]).map sfT),d.dd]):=cG (n:=i) rfl (by rw[ak,ei,<- est];rfl);have fat:atI ((lane.map fun _=>true).map T.bl) (i:Int)=some (.bl true):=cG (n:=i) rfl (by rw[ak,ak,ei];rfl);refine' go_G [some (pgT Q),some (.lst (lane.map stT)),some (.lst ((lane.map fun _=>true).map T.bl)),some (.int i)] rfl ?hb ?hg
 case hb=>exact(ag (aL (dq (cr (x8 K (pv 2) (pv 3)))) (aj (ax aD)) aO) (ag (aL (dq (cr (pyk (Zir tq :) hr.m (x9 0 (aH (x8 K (pv 1) (pv 3)) ab))))) (aj (ax aD)) aO) (ag (aL (dq (cr (pyk (Zip tq :) hr.m (x9 0 (x9 1 (x9 2 (aH (x8 K (pv 1) (pv 3)) ab))))))) (aj (ax aD)) aO) (aj (ax dF)))))
 ext;refine aW fat ?_;ext;refine aW dat ?_;ext;obtain⟨b,r',hd',e1,e2⟩:∃ b r',((DdZ Q (pnL lane) d.n f s d.dd b/\r'=true)\/(d.dd=.tup [.str "keep"]/\r'=false))/\(r'=false->r=.str "deed")/\(r'=true->DdZ Q (pnL lane) d.n f s d.dd b/\r=if b then .non else .str "edge"):=by
  cases hd with
  | keep h=>exact⟨true,false,.inr ⟨h,rfl⟩,fun _=>rfl,fun h=>nomatch h⟩
  | ok h=>exact⟨true,true,.inl ⟨h,rfl⟩,(fun h=>nomatch h),fun _=>⟨h,rfl⟩⟩
  | edge h=>exact⟨false,true,.inl ⟨h,rfl⟩,(fun h=>nomatch h),fun _=>⟨h,rfl⟩⟩
 refine⟨Q,d.n,_,f,s,d.dd,_,b,r',rfl,fo,hd',?_⟩;cases r' with
 | false =>
  cases e1 rfl;ext;exact au q
 | true =>
  obtain⟨hz,er⟩:=e2 rfl;ext;refine aW dat ?_;ext;refine⟨Q,lane,d.n,f,s,d.dd,b,rfl,gd.pk,by lia,gd.pp,n40,fo,cn,hz,?_⟩;cases b with
  | true =>
   cases er;ext;exact au q
  | false =>
   cases er;ext;exact au q
def sC{s:SF}{dd:T}(h:DdZ Q (pnL lane) n f s dd true):RlK lane.length dd:=by
 have edg:∀ {own start} {e:T},EdS Q (pnL lane) own 0 start e->∃ (r:Nat) (m:T) (j:Nat),[e]=[.tup [.int r,m,.int j]]/\j<lane.length:=fun h=>by
  obtain⟨rows,moves,kk,n,fr,rfl,_,_,hk,_⟩:=h;have:=(aT.mp hk).1;rw[af] at this;exact⟨rows,_,kk,rfl,this⟩
 cases h with
 | leave=>exact⟨_,_,_,.leave,fun h=>h.elim (absurd · (by decide)) (absurd · (by decide))⟩
 | go h =>
  rcases h with ⟨_,h⟩|⟨h,_⟩
  .exact ⟨_,_,_,.go,fun _=>edg h⟩
  .cases h
 | hold _ _ h=>exact⟨_,_,_,.hold,fun _=>edg h⟩
 | test _ _ _=>exact⟨_,_,_,.test,fun h=>h.elim (absurd · (by decide)) (absurd · (by decide))⟩
 | tell _ _=>exact⟨_,_,_,.tell,fun h=>h.elim (absurd · (by decide)) (absurd · (by decide))⟩
 | take _ _=>exact⟨_,_,_,.take,fun h=>h.elim (absurd · (by decide)) (absurd · (by decide))⟩
inductive FltR(Q:List Df)(lane:List StL):T->Prop
 | size (h:lane.length=0\/100<lane.length):FltR Q lane (.tup [.int 0,.str "paper"])
 | bad (gd:GdP Q lane) {i:Nat} {d:StL} {wd:Str} (ei:lane[i]?=some d) (h:StO Q lane d (.str wd)) (ho:∀ j d,j<i->lane[j]?=some d->StO Q lane d .non):FltR Q lane (.tup [.int i,.str wd])
 | rnd (gd:GdP Q lane) (h:∀ d∈lane,StO Q lane d .non):FltR Q lane (rndT lane)
def Zni:Pre:=fun ts G k=>∃ (Q:List Df) (lane:List StL) (r:T),ts=[pgT Q,.lst (lane.map stT)]/\FltR Q lane r/\k r G
def sc_fault:FnScope ["program","lane","fits","k","word"] ["program","lane"] (bG pR):=by walk_at"fs"
def pV:tq.C "fault" 10 ["program","lane"] Zni:=by
 refine tq.f6.okG sc_fault (by walk_at"lnx") fun f cdv A outer s H E ts G' k hr hh=>?_;have nd:=sc_fault.nd;obtain⟨Q,lane,r,rfl,hf,q⟩:=hh;refine' go_G [some (pgT Q),some (.lst (lane.map stT)),none,none,none] rfl ?hb ?hg
 case hb=>exact(ag (aL (dq (ie fg fg aa (aG (bc (K:=K) rfl) (by rfl) tq.b_len bf (wx 1)) (ku (by rfl) tq.c_MOST_STANDS))) (aj (ax (av (ah aa (ah aD ab))))) aO) (ag (iW (i:=2) (LN:=["stand"]) (FN:=["program"]) (fr:=[0]) rfl nd rfl rfl (dE (by rfl)) (eU (K:=K) rfl (pv 1)) (fun _ _ _ _ _ _=>(pyb 0)) (fun _ _ _ _ _ _=>dI) (fun _ _ _ _ _ _=>(pyk (Zhx tq :) hr.m (x9 1 (aH (x8 K (pv 0) aa) (aH (x8 K (pv 0) aa) ab)))))) (ag (cy PassesOwn.never rfl (cV rfl tq.b_range (aM (aG (bc (K:=K) rfl) (by rfl) tq.b_len bf (wx 1)) ab)) (pyn 3 nd) (ag (bE (i:=4) nd rfl (Or.inl rfl) (pyk (Zgx tq :) hr.m (x9 0 (x9 1 (x9 2 (wx 3)))))) (aj (aL (aB qP (pv 4) dF (aA _)) (aj (ax (av (x9 3 (wx 4))))) aO)))) (aj (ax (pyk (Zgy tq :) hr.m (wx 1)))))))
 ext;rw[af];by_cases hsz:lane.length=0\/100<lane.length
 .have:r=.tup [.int 0,.str "paper"]:=by
   cases hf with
   | size _=>rfl
   | bad gd=>have:=gd.n1;have:=gd.n2;lia
   | rnd gd=>have:=gd.n1;have:=gd.n2;lia
  subst this;rcases hsz with h|h
  .rw[h];ext;exact au q
  .rw[aX (by lia)];ext;rw[bz (by lia)];ext;exact au q
 obtain⟨gd,i,hi,hno,hr'⟩:GdP Q lane/\∃ i,i<=lane.length/\(∀ j d,j<i->lane[j]?=some d->StO Q lane d .non)/\(i<lane.length->∃ d wd,lane[i]?=some d/\StO Q lane d (.str wd)/\r=.tup [.int i,.str wd])/\(i=lane.length->r=rndT lane):=by
  cases hf with
  | size h=>exact absurd h hsz
  | @bad gd i d wd ei h ho =>
   have:=(aT.mp ei).1;exact⟨gd,i,by lia,ho,fun _=>⟨d,wd,ei,h,rfl⟩,fun h=>by lia⟩
  | rnd gd h=>exact⟨gd,lane.length,aE _,fun j d _ e=>h d (aF e),fun h=>absurd h (fX _),fun _=>rfl⟩
 have n1:=gd.n1;have n2:=gd.n2;rw[aX (by lia)];ext;rw[aX (by lia)];ext;refine cQ (fun Γ'=>∃ c,Γ'=[c,some (pgT Q)]) ?_;ext;refine⟨_,si_l,by rw[af];lia,si_l,⟨_,rfl⟩,(lane.map fun _=>true).map T.bl,by rw[af,af,af],?_,?_⟩
 .rintro i z y Γ' hz hy ⟨c,rfl⟩;rw[ak] at hz;obtain⟨d,ed,rfl⟩:=bh.mp hz;rw[ak,ak,ed] at hy;cases hy;have dm:=aF ed;obtain⟨n40,⟨f,s,efr,fo⟩,cn⟩:=gd.pp d dm;have ch:=gd.ch d dm;rw[efr] at cn ch;ext;refine⟨⟨_,rfl⟩,rfl,?_⟩;ext;exact⟨Q,d.n,_,f,s,by rw[efr],gd.pk,n40,fo,cn,ch,rfl,rfl⟩
 ext;refine⟨lane.length,by rw[af],by lia,by lia,fun j Γ' G2=>G2=G'/\j<=i/\∃ c1 c2,Γ'=[some (pgT Q),some (.lst (lane.map stT)),some (.lst ((lane.map fun _=>true).map T.bl)),c1,c2],⟨rfl,bO _,_,_,rfl⟩,fun _ _ _ _=>trivial,?_,?_⟩
 .rintro j x Γ' G2 hx ⟨rfl,hji,c1,c2,rfl⟩;rw[bB] at hx;obtain ⟨rfl,hj⟩:=eT hx;have ej:lane[j]?=some lane[j]:=aC hj;generalize lane[j]=d at ej;ext;by_cases e:j=i
  .subst e;obtain⟨d',wd,ei,hst,rfl⟩:=hr'.1 hj;refine⟨Q,lane,j,d',_,rfl,gd,ei,hst,?_⟩;ext;exact au q
  .refine ⟨Q,lane,j,d,.non,rfl,gd,ej,hno j d (by lia) ej,?_⟩;ext;dsimp only;exact bQ ⟨rfl,by lia,_,_,rfl⟩
 .rintro Γ' G2 ⟨rfl,hji,c1,c2,rfl⟩;unfold rngT at hji;rw[af,dC,bB] at hji;have ei:i=lane.length:=by lia
  cases hr'.2 ei;ext;refine⟨lane,rfl,by lia,fun d hd=>?_,au q⟩;obtain⟨_,⟨f,s,efr,_⟩,_⟩:=gd.pp d hd;obtain⟨j,hj,ej⟩:=n9 hd;have:=hno j d (by lia) (by rw[<-ej];exact aC hj) f s efr;cases this with
  | ok h=>exact sC h
def l_eqNN{P:Program}{w:World}{K:W.Frag}{G:GH}{k:T->GH->Prop}(h:k (.bl true) G):L2r P w K rEq .non .non G k:=fun H u v g r1 r2 Q z=>by
 cases r1;cases r2;exact⟨rfl,z.here g .bl h⟩
def PlA:Nat->T->Prop
 | 0,_=>False
 | m+1,t=>(∃ i,t=.int i)\/(∃ x,t=.str x)\/(t=.non\/∃ b,t=.bl b)\/∃ ts,(t=.tup ts\/t=.lst ts)/\ts.length<=1000/\∀ u∈ts,PlA m u
def k8(m:Nat):Pre:=fun ts G k=>∃ x,ts=[x,x]/\PlA m x/\k (.bl true) G
def sc__law_alike:FnScope ["found","due"] ["found","due"] (bG p9):=by walk_at"fs"
def al_0(tq:Tq P w K mg base):Callee P w K mg base "_law_alike" 1 ["found","due"] (spG P w K (k8 0)):=by
 refine tq.f7.okG sc__law_alike (by walk_at"lnx") fun f cdv A outer s H E ts G k hr hh=>?_;obtain⟨x,_,h,_⟩:=hh;exact h.elim
def ZmT{m lev:Nat}(tq:Tq P w K mg base)(Zix:Callee P w K mg base "_law_alike" lev ["found","due"] (spG P w K (k8 m))):Callee P w K mg base "_law_alike" (lev+1) ["found","due"] (spG P w K (k8 (m+1))):=by
 refine tq.f7.okG sc__law_alike (by walk_at"lnx") fun f cdv A outer s H E ts G k hr hh=>?_;have nd:=sc__law_alike.nd;have hu:=hr.units;obtain⟨x,rfl,h,q⟩:=hh;refine' go_G [some x,some x] rfl ?hb ?hg
 case hb=>exact(ag (aL (cr (aG xE (by rfl) tq.b_isinstance dY (x9 1 (aS (av (bA (dD (v:=.ty "list") (by rfl) tq.b_list iQ rfl) (bA (dD (v:=.ty "tuple") (by rfl) tq.b_tuple di rfl) ab))) ab)))) (ag (aL (PW.pt (fT (dq (cr (aG xE (by rfl) tq.b_isinstance dY (x9 0 (aS (av (bA (dD (v:=.ty "list") (by rfl) tq.b_list iQ rfl) (bA (dD (v:=.ty "tuple") (by rfl) tq.b_tuple di rfl) ab))) ab))))) (gF (aB gM (aG eM (by rfl) tq.b_isinstance dY (x9 0 (bA (dD (v:=.ty "list") (by rfl) tq.b_list iQ rfl) ab))) (aG eM (by rfl) tq.b_isinstance dY (x9 1 (bA (dD (v:=.ty "list") (by rfl) tq.b_list iQ rfl) ab))) (aA _))))) (aj (ax dw)) aO) (ag (aL (aB gM (aG (bc (K:=K) rfl) (by rfl) tq.b_len bf (wx 0)) (aG (bc (K:=K) rfl) (by rfl) tq.b_len bf (wx 1)) (aA _)) (aj (ax dw)) aO) (aj (ax (aG (ja (K:=K) rfl rfl) (by rfl) tq.b_all iO (dW (pyc ["k"] ["found","due"] [0,1] (cV rfl tq.b_range (aM (aG (bc (K:=K) rfl) (by rfl) tq.b_len bf (wx 1)) ab)) (fun _ _ _ _ _ _=>(pyk Zix hr.m (aH (x8 K (pv 1) (pv 0)) (aH (x8 K (pv 2) (pv 0)) ab))))) ab)))))) aO) (ag (aL (PW.pt (fT (aB gM (aG eM (by rfl) tq.b_isinstance dY (x9 0 (bA (dD (v:=.ty "bool") (by rfl) tq.b_bool pb rfl) ab))) (aG eM (by rfl) tq.b_isinstance dY (x9 1 (bA (dD (v:=.ty "bool") (by rfl) tq.b_bool pb rfl) ab))) (aA _)) (gF (aB gM (aG eM (by rfl) tq.b_isinstance dY (x9 0 (bA (dD (v:=.ty "int") (by rfl) tq.b_int mY rfl) ab))) (aG eM (by rfl) tq.b_isinstance dY (x9 1 (bA (dD (v:=.ty "int") (by rfl) tq.b_int mY rfl) ab))) (aA _))))) (aj (ax dw)) aO) (aj (ax (jR (dJ ba (aG eM (by rfl) tq.b_isinstance dY (x9 0 (bA (dD (v:=.ty "str") (by rfl) tq.b_str kz rfl) ab))) (aG eM (by rfl) tq.b_isinstance dY (x9 1 (bA (dD (v:=.ty "str") (by rfl) tq.b_str kz rfl) ab))) (aA _)) (jf (dJ ba (pv 0) (pv 1) (aA _))))))))
 ext;rcases h with ⟨i,rfl⟩|⟨y,rfl⟩|(rfl|⟨b,rfl⟩)|⟨ts,hx,hl,hp⟩
 .ext;rw[aX rfl];exact au q
 .ext;rw[aX rfl];exact au q
 .ext;refine l_eqNN ?_;exact au q
 .ext;exact au q
 .obtain ⟨sq,pl,ty⟩:SqG G x ts/\x.plk=true/\(tyT G x == "list" || tyT G x == "tuple")=true:=by
   rcases hx with rfl|rfl
   .exact ⟨sg_t,rfl,rfl⟩
   .exact ⟨sg_l,rfl,rfl⟩
  refine tk_d pl ?_;rw[ty];ext;refine tk_d pl ?_;rw[ty];ext;refine tk_d pl ?_;ext;refine tk_d pl ?_;ext;refine cu sq ?_;ext;refine cu sq ?_;ext;rw[aX rfl];ext;refine cQ (fun Γ'=>∃ c,Γ'=[c,some x,some x]) ?_;ext;refine cu sq ?_;ext;have hrl:(rngT (ts.length:Int).toNat).length=ts.length:=by unfold rngT;simp
  refine⟨ts.length,rfl,by lia,by lia,by rw[hrl];lia,trivial,⟨_,rfl⟩,(ts.map fun _=>true).map T.bl,by rw[af,af,hrl],?_,?_⟩
  .rintro i z y Γ' hz hy ⟨c,rfl⟩;unfold rngT at hz;rw[bB,ak] at hz;obtain ⟨j,ej,rfl⟩:=bh.mp hz;rw[ak,ak] at hy;cases et:ts[i]? with
   | none=>rw[et] at hy;cases hy
   | some t =>
   rw[et] at hy;cases hy;obtain⟨hi,hj⟩:=aT.mp ej;rw[getElem_range] at hj;subst hj;have at_:atI ts (i:Int)=some t:=cG (n:=i) rfl et;ext;refine⟨⟨_,rfl⟩,rfl,?_⟩;ext;refine l_ix sq at_ ?_;ext;refine l_ix sq at_ ?_;ext;exact⟨t,rfl,hp t (aF et),rfl,rfl⟩
  ext;have hal:(ts.map fun _=>true).all id=true:=by rw[jm];intro x hx;obtain⟨_,_,rfl⟩:=aU.mp hx;rfl
  rw[hal];exact au q
theorem ud(tq:Tq P w K mg base):∀ m,Callee P w K mg base "_law_alike" (m+1) ["found","due"] (spG P w K (k8 m))
 | 0=>al_0 tq
 | m+1=>ZmT tq (ud tq m)
def m4(tq:Tq P w K mg base):Callee P w K mg base "_law_alike" 12 ["found","due"] (spG P w K (k8 11)):=by exact ud tq 11
theorem pa_up : ∀ {m : Nat} {t : T}, PlA m t->PlA (m+1) t
  | 0, _, h=>h.elim
  | m + 1, t, h => by
    rcases h with h|h|h|⟨ts,hx,hl,hp⟩
    . exact .inl h
    . exact .inr (.inl h)
    . exact .inr (.inr (.inl h))
    . exact .inr (.inr (.inr ⟨ts, hx, hl, fun u hu=>pa_up (hp u hu)⟩))
theorem pa_le{m:Nat}{t:T}(h:PlA m t):∀ n,PlA (m+n) t
 | 0=>h
 | n+1=>pa_up (pa_le h n)
theorem qO : ∀ {m : Nat} {t : T}, PlD m t->PlA (m+1) t
  | 0, _, h => by
    rcases h with h|h
    . exact .inl h
    . exact .inr (.inl h)
  | m + 1, t, h => by
    rcases h with h|h|⟨ts,hx,hl,hp⟩
    . exact .inl h
    . exact .inr (.inl h)
    . exact .inr (.inr (.inr ⟨ts, .inl hx, hl, fun u hu=>qO (hp u hu)⟩))
def sS{α:Type}{m:Nat}{f:α->T}{l:List α}(hl:l.length<=1000)(h:∀ a∈l,PlA m (f a)):PlA (m+1) (.lst (l.map f)):=.inr (.inr (.inr ⟨_,.inr rfl,by rw[af];exact hl,fun u hu=>by
 obtain⟨a,ha,rfl⟩:=aU.mp hu;exact h a ha⟩))
def pa_3{m:Nat}{a b:Int}{t:T}(h:PlA (m+1) t):PlA (m+2) (.tup [.int a,.int b,t]):=.inr (.inr (.inr ⟨_,.inl rfl,by simp,fun u hu=>by
 rcases aI.mp hu with rfl|hu
 .exact .inl ⟨_,rfl⟩
 rcases aI.mp hu with rfl|hu
 .exact .inl ⟨_,rfl⟩
 .rw[aK.mp hu];exact h⟩))
def ZpK(pk:PgK Q)(hl:lane.length<=1000)(h:iR Q lane):PlA 11 (.lst (lane.map stT)):=sS hl fun d hd=>.inr (.inr (.inr ⟨_,.inl rfl,by simp,fun u hu=>by
 obtain⟨pp,pd⟩:=h d hd;rcases aI.mp hu with rfl|hu
 .exact .inl ⟨_,rfl⟩
 rcases aI.mp hu with rfl|hu
 .obtain ⟨f,s,e,ho⟩:=pp.ex;refine pa_le (sS (by have:=ho.few;rw[e,aJ];simp;lia) fun t ht=>pa_3 (m:=5) (qO ((qh ?_ fun g hg=>?_).up (by decide)))) 1
  .rw[e] at ht;have:=gw pk (ho.all t ht);lia
  .rw[e] at ht;have:=((ho.all t ht).fm g hg).len;have:=pp.nb;lia
 .rw[aK.mp hu];exact qO pd⟩))
def l_repM{G:GH}{k:T->GH->Prop}{d:T}(h1:-1000<=i)(h2:i<=1000)(h:∀ a,G a=none->k (.ptr a) (gput G a (.lst (List.replicate i.toNat d)))):L2r P w K rRep (.lst [d]) (.int i) G k:=fun H u v g r1 r2 Q z=>by
 cases r2;cases r1 with
 | lst _ e q =>
  cases q with
  | cons q1 q2 =>
   cases q2;refine⟨_,i,_,rfl,rfl,e,by lia,by lia,by rw[eA,lN];exact ii (by lia),fun p hp=>?_⟩;have hfl:∀ (n:Nat) (x:V),(List.replicate n [x]).flatten=List.replicate n x:=fun n x=>by
    induction n with
    | zero=>rfl
    | succ n ih=>rw[iG,iH,ih];rfl
   rw[hfl];obtain⟨g2,s3⟩:=g.putL (.inr hp) (RepTs.repl i.toNat q1);exact z _ _ _ _ s3 g2 .ptr (h p (g.free hp))
def mvE(t m:Nat):T->T
 | .tup [a,b,.int k]=>.tup [a,b,.int ((k+t) % m)]
 | x=>x
def mvD(t m:Nat):T->T
 | .tup (a::r)=>.tup (a::r.map (mvE t m))
 | x=>x
def srcN(t m j:Nat):Nat:=(j+(m-t % m)) % m
def qi{t m k:Nat}(h:k<m):srcN t m ((k+t) % m)=k:=by
 unfold srcN;have hr:=jq t (show 0<m by lia);have e:(k+t) % m=(k+t % m) % m:=by rw[Nat.add_mod,g8 h]
 rw[e];generalize t % m=r at hr;by_cases hk:k+r<m
 .rw[g8 hk,show k+r+(m-r)=k+m by lia,Nat.add_mod_right,g8 h]
 .rw[Nat.mod_eq_sub_mod (a:=k+r) (by lia),g8 (a:=k+r-m) (by lia),show k+r-m+(m-r)=k by lia,g8 h]
def oE{t m j:Nat}(h:j<m):(srcN t m j+t) % m=j/\srcN t m j<m:=by
 unfold srcN;have hr:=jq t (show 0<m by lia);refine⟨?_,jq _ (by lia)⟩;rw[Nat.add_mod,Nat.mod_mod];generalize t % m=r at hr;by_cases hk:j+(m-r)<m
 .rw[g8 hk,show j+(m-r)+r=j+m by lia,Nat.add_mod_right,g8 h]
 .rw[Nat.mod_eq_sub_mod (a:=j+(m-r)) (by lia),g8 (a:=j+(m-r)-m) (by lia),show j+(m-r)-m+r=j by lia,g8 h]
def mvS(t m:Nat)(d:StL):StL:=⟨d.n,d.fr,mvD t m d.dd⟩
def eR(t:Nat)(lane:List StL):List StL:=(List.range lane.length).map fun j=>mvS t lane.length (lane.getD (srcN t lane.length j) ⟨0,[],.non⟩)
def oX{t:Nat}{j:Nat}(h:j<lane.length):∃ d,lane[srcN t lane.length j]?=some d/\(eR t lane)[j]?=some (mvS t lane.length d):=by
 have h2:=(oE (t:=t) h).2;refine⟨lane[srcN t lane.length j],aC h2,?_⟩;unfold eR;rw[ak,kh h];show some (mvS t lane.length (lane.getD _ _))=_;rw[cJ,aC h2];rfl
def nt(t:Nat)(lane:List StL):(eR t lane).length=lane.length:=by unfold eR;rw[af,dC]
def o8{t:Nat}{x:StL}(h:x∈eR t lane):∃ d∈lane,x=mvS t lane.length d:=by
 obtain⟨j,hj,e⟩:=n9 h;rw[nt] at hj;obtain⟨d,h1,h2⟩:=oX (t:=t) hj;refine⟨d,aF h1,?_⟩;have:=aC (l:=eR t lane) (i:=j) (by rw[nt];exact hj);rw[h2] at this;injection this with this
 rw[<-e,this]
def Zpa{t:Nat}{k:Nat}{x:Nat×List SF}(h:(pnL lane)[k]?=some x):(pnL (eR t lane))[(k+t) % lane.length]?=some x:=by
 have hk:=(aT.mp h).1;rw[af] at hk;obtain⟨d,h1,h2⟩:=oX (t:=t) (j:=(k+t) % lane.length) (lane:=lane) (jq _ (by lia));rw[qi hk] at h1;rw[ak,h2];rw[ak,h1] at h;exact h
def jN{t:Nat}{start:List SF}{e:T}(h:EdS Q (pnL lane) own least start e):EdS Q (pnL (eR t lane)) own least start (mvE t lane.length e):=by
 obtain⟨rows,moves,k,n,fr,rfl,h2,h3,h4,h5⟩:=h;exact⟨rows,moves,(k+t) % lane.length,n,fr,rfl,h2,h3,Zpa h4,h5⟩
def ddz_mv{t:Nat}{s:SF}{dd:T}(h:DdZ Q (pnL lane) n f s dd true):DdZ Q (pnL (eR t lane)) n f s (mvD t lane.length dd) true:=by
 cases h with
 | leave=>exact .leave
 | go h =>
  rcases h with ⟨_,h⟩|⟨h,_⟩
  .exact .go (jN h).b
  .cases h
 | @hold w c e hw hc h=>exact DdZ.hold (w:=w) (c:=c) (e:=mvE t lane.length e) hw hc (jN h)
 | test hr h1 h2=>exact .test hr (jN h1) (jN h2)
 | tell hr h=>exact .tell hr (jN h)
 | take hr h=>exact .take hr (jN h)
inductive Dpt(dd:T):Prop
 | mk (wd ps) (_:dd=.tup (.str wd::ps)) (_:ps.length<=3) (_:∀ p∈ps,(∃ i,p=.int i)\/∃ (a b:T) (k:Nat),p=.tup [a,b,.int k]):Dpt dd
def dpt_of{P:List (Nat×List SF)}{s:SF}{dd:T}(h:DdZ Q P n f s dd true):Dpt dd:=by
 have ed:∀ {own least start} {e:T},EdS Q P own least start e->∃ (a b:T) (k:Nat),e=.tup [a,b,.int k]:=fun h=>by
  obtain⟨rows,moves,kk,_,_,rfl,_⟩:=h;exact⟨_,_,kk,rfl⟩
 cases h with
 | leave=>exact⟨_,[],rfl,by simp,fun p h=>nomatch h⟩
 | go h =>
  rcases h with ⟨_,h⟩|⟨h,_⟩
  .exact ⟨_,_,rfl,by simp,fun p hp=>by rw[aK.mp hp];exact .inr (ed h)⟩
  .cases h
 | hold _ _ h =>
  refine⟨_,_,rfl,by simp,fun p hp=>?_⟩;rcases aI.mp hp with rfl|hp
  .exact .inl ⟨_,rfl⟩
  rcases aI.mp hp with rfl|hp
  .exact .inl ⟨_,rfl⟩
  .rw[aK.mp hp];exact .inr (ed h)
 | test _ h1 h2 =>
  refine⟨_,_,rfl,by simp,fun p hp=>?_⟩;rcases aI.mp hp with rfl|hp
  .exact .inr (ed h1)
  .rw[aK.mp hp];exact .inr (ed h2)
 | tell _ h=>exact⟨_,_,rfl,by simp,fun p hp=>by rw[aK.mp hp];exact .inr (ed h)⟩
 | take _ h=>exact⟨_,_,rfl,by simp,fun p hp=>by rw[aK.mp hp];exact .inr (ed h)⟩
def Zgd:Pre:=fun ts G k=>∃ (a b:T) (j t m:Nat),ts=[.tup [a,b,.int j],.int t,.int m]/\0<m/\k (.tup [a,b,.int ((j+t) % m)]) G
def Zed:tq.C "_law_moved_edge" 1 ["edge","turn","many"] Zgd:=by
 refine tq.f8.okT ["edge","turn","many"] fun ts G k nd hr hh=>?_;obtain⟨a,b,j,t,m,rfl,hm,q⟩:=hh;refine' go_G [some (.tup [a,b,.int j]),some (.int t),some (.int m)] rfl ?hb ?hg
 case hb=>exact(aj (ax (av (aH (x8 K (pv 0) aa) (aH (x8 K (pv 0) aa) (bK (aw fE (aw bw (x8 K (pv 0) aa) (pv 1)) (pv 2)) ab))))))
 ext;refine ju (by lia) ?_;ext;exact au q
def Zlg:Pre:=fun ts G k=>∃ (lane:List StL) (t:Nat),ts=[.lst (lane.map stT),.int t]/\1<=lane.length/\lane.length<=500/\(∀ d∈lane,Dpt d.dd)/\∀ a,G a=none->k (.ptr a) (gput G a (.lst ((eR t lane).map stT)))
def ZgD:tq.C "_law_turned" 2 ["lane","turn"] Zlg:=by
 refine tq.f9.okT ["lane","turn","many","found","k","deed","parts"] fun ts G k nd hr hh=>?_;obtain⟨lane,t,rfl,h1,h24,hd,q⟩:=hh;refine' go_G [some (.lst (lane.map stT)),some (.int t),none,none,none,none,none] rfl ?hb ?hg
 case hb=>exact(ag (bE (i:=2) nd rfl (Or.inr rfl) (aG (bc (K:=K) rfl) (by rfl) tq.b_len bf (wx 0))) (ag (cZ (i:=3) nd rfl (Or.inl rfl) (aw oz (bt (ah dF ab)) (pv 2))) (ag (cy PassesOwn.never rfl (cV rfl tq.b_range (wx 2)) (pyn 4 nd) (ag (cB (i:=5) nd rfl (Or.inl rfl) (x8 K (x8 K (pv 0) (pv 4)) aa)) (ag (iW (i:=6) (LN:=["part"]) (FN:=["turn","many"]) (fr:=[1,2]) rfl nd rfl rfl (dE (by rfl)) (dL (K:=K) rfl (cO (eP (K:=K) rfl) (pv 5) (cK aa) cL)) (fun _ _ _ _ _ _=>(pyb 0)) (fun _ _ _ _ _ _=>dI) (fun _ _ _ _ _ _=>(ft (cr (aG eM (by rfl) tq.b_isinstance dY (x9 0 (bA (dD (v:=.ty "tuple") (by rfl) tq.b_tuple di rfl) ab)))) (pyk (Zed tq :) hr.m (x9 0 (x9 1 (wx 2)))) (pv 0)))) (aj (bX (av (aH (x8 K (x8 K (pv 0) (pv 4)) aa) (aH (x8 K (x8 K (pv 0) (pv 4)) aa) (bK (aw (gT (K:=K) rfl) (cO (eP (K:=K) rfl) (pv 5) cL (cK aa)) (du (fh (K:=K) rfl) (by rfl) tq.b_tuple di (wx 6))) ab)))) (cS (pv 3) (aw fE (aw bw (pv 4) (pv 1)) (pv 2)) cW)))))) (aj (ax (pv 3))))))
 ext;rw[af];refine l_repM (by lia) (by lia) fun fa nfa=>?_;ext;have e0:gput G fa (.lst (List.replicate (lane.length:Int).toNat .non))=gput G fa (.lst (List.replicate lane.length T.non)):=by rw[bB]
 rw[e0];refine⟨lane.length,rfl,by lia,by lia,fun i Γ' G'=>∃ (us:List T) (c1 c2 c3:Option T),Γ'=[some (.lst (lane.map stT)),some (.int t),some (.int lane.length),some (.ptr fa),c1,c2,c3]/\G'=gput G fa (.lst us)/\us.length=lane.length/\∀ k d,k<i->lane[k]?=some d->us[(k+t) % lane.length]?=some (stT (mvS t lane.length d)),⟨_,_,_,_,rfl,rfl,iC,fun k d h=>absurd h (by lia)⟩,fun _ _ _ _=>trivial,?_,?_⟩
 .rintro i x Γ' G' hx ⟨us,c1,c2,c3,rfl,rfl,hl,hv⟩;rw[bB] at hx;obtain ⟨rfl,hi⟩:=eT hx;have ei:lane[i]?=some lane[i]:=aC hi;generalize lane[i]=d at ei;obtain ⟨wd,ps,edd,h3,hp⟩:=hd d (aF ei);have dat:atI (lane.map stT) (i:Int)=some (.tup [.int d.n,.lst (d.fr.map sfT),.tup (.str wd::ps)]):=cG (n:=i) rfl (by rw[ak,ei,<- edd];rfl);ext;refine aW dat ?_;ext;refine cQ (fun Γ'=>∃ c,Γ'=[c,some (.int t),some (.int lane.length)]) ?_;ext;refine eN ?_;rw[je (by decide) (by rw[cD];lia)];show ∃ ts,T.tup ps=T.tup ts/\_;refine ⟨ps,rfl,by lia,trivial,⟨_,rfl⟩,ps.map (mvE t lane.length),by rw[af],?_,?_⟩
  .rintro j z y Γ' hz hy ⟨c,rfl⟩;rw[ak,hz] at hy;cases hy;ext;refine ⟨⟨_,rfl⟩,rfl,?_⟩;rcases hp z (aF hz) with ⟨v,rfl⟩|⟨a,b,v,rfl⟩
   .ext;exact⟨rfl,rfl⟩
   .ext;exact⟨a,b,v,t,lane.length,rfl,by lia,rfl,rfl⟩
  ext;refine aW dat ?_;ext;refine aW dat ?_;ext;refine eN ?_;rw[gQ (by decide) (by rw[cD];lia)];ext;refine fe sg_l (fun _=>nofun) ?_;ext;refine gE (by rw[af];simp;lia) ?_;ext;refine ju (by lia) ?_;have hm:(i+t) % lane.length<us.length:=by rw[hl];exact jq _ (by lia)
  refine⟨fa,us,_,(i+t) % lane.length,rfl,rfl,gp_s,kT rfl hm,?_⟩;rw[gp_p];dsimp only;refine bQ ⟨_,_,_,_,rfl,rfl,by rw[cC];exact hl,fun k d' hk hd'=>?_⟩;by_cases e:k=i
  .subst e;rw[ei] at hd';cases hd';rw[gV hm];show some (T.tup [.int d.n,.lst (d.fr.map sfT),.tup ([.str wd]++ps.map (mvE t lane.length))])=some (.tup [.int d.n,.lst (d.fr.map sfT),mvD t lane.length d.dd]);rw[edd];rfl
  .have hk':=(aT.mp hd').1;rw[jh fun h=>e (by rw[<-qi (t:=t) hk',<- h,qi hi])];exact hv k d' (by lia) hd'
 .rintro Γ' G' ⟨us,c1,c2,c3,rfl,rfl,hl,hv⟩;unfold rngT at hv;rw[af,dC,bB] at hv;ext;refine au ?_;have:us=(eR t lane).map stT:=by
   refine iJ fun j=>?_;by_cases hj:j<lane.length
   .obtain ⟨d,h1,h2⟩:=oX (t:=t) hj;have:=hv _ d (oE (t:=t) hj).2 h1;rw[(oE hj).1] at this;rw[this,ak,h2];rfl
   .rw[eB (by lia),eB (by rw[af,nt];lia)]
  rw[this];exact q fa nfa
def edT(n kk:Nat):T:=.tup [.int 0,.tup ((ay n).map fmT),.int kk]
def StD(n kk:Nat)(dd:T):Prop:=dd=.tup [.str "go",edT n kk]\/∃ (w:Nat) (c:Int),w<n/\c.natAbs<=3/\dd=.tup [.str "hold",.int w,.int c,edT n kk]
def Zng:Pre:=fun ts G k=>∃ (b l:Addr) (n kk:Nat),ts=[.ptr b,.int n,.int kk]/\G b=some (.bag l)/\n<=40/\∀ dd,StD n kk dd->k dd G
def ZhB:tq.C "_law_still" 2 ["bag","many","k"] Zng:=by
 refine tq.g0.okT ["bag","many","k","w","edge"] fun ts G k nd hr hh=>?_;obtain⟨b,l,n,kk,rfl,hb,hn,q⟩:=hh;refine' go_G [some (.ptr b),some (.int n),some (.int kk),none,none] rfl ?hb ?hg
 case hb=>exact(ag (bE (i:=3) nd rfl (Or.inl rfl) (pyk (aZ tq :) hr.m (x9 0 (aM (aG (uO rfl) (by rfl) tq.b_max m7 (ah aa (wx 1))) ab)))) (ag (i4 (i:=4) nd rfl (Or.inl rfl) (av (ah aa (aM (du (fh (K:=K) rfl) (by rfl) tq.b_tuple di (aM (pyk (mi tq :) hr.m (wx 1)) ab)) (wx 2))))) (ag (aL (PW.pt (bV (aB eQ (pv 1) aa (aA _)) (cF (aB ba (pyk (aZ tq :) hr.m (x9 0 (ah aa ab))) aa (aA _))))) (aj (ax (av (ah aD (x9 3 (bK (aw dj (pyk (aZ tq :) hr.m (x9 0 (ah aa ab))) aa) (wx 4))))))) aO) (aj (ax (av (ah aD (wx 4))))))))
 ext;refine l_max ?_;ext;refine bj hb ⟨by split <;> lia,by split <;> lia⟩ fun v v0 v1=>?_;ext;refine⟨n,rfl,by lia,fun a na=>?_⟩;have hb1:gput G a (.lst ((ay n).map fmT)) b=some (.bag l):=by rw[gp_n (g_ne hb na)];exact hb
 ext;refine fe (sg_p gp_s) (fun _=>nofun) ?_;ext;have go:Cl k (.tup [.str "go",.tup [.int 0,.tup ((ay n).map fmT),.int kk]]) (gput G a (.lst ((ay n).map fmT))):=eO na (fun _=>nofun) (au (q _ (.inl rfl)));refine bU (fun h=>?_) fun h=>?_
 .ext;refine bj hb1 ⟨by decide,by decide⟩ fun u u0 u1=>?_;ext;refine bU (fun h2=>?_) fun h2=>?_
  .ext;refine bj hb1 ⟨by decide,by decide⟩ fun x x0 x1=>?_;ext;obtain ⟨w,rfl⟩:∃ w:Nat,v=w:=⟨v.toNat,by lia⟩;have hw:(w:Int) < n:=by split at v1 <;> lia
   exact eO na (fun _=>nofun) (au (q _ (.inr ⟨w,_,by lia,by lia,rfl⟩)))
  .ext;exact go
 .ext;exact go
theorem ZpQ{nx:Nat->Option Nat}{k a:Nat}(h:nx a=none):∀ n,onR nx k n a=false
 | 0=>rfl
 | n+1=>by rw[onR,h]
def Zlm:Pre:=fun ts G k=>∃ (x:T) (lane:List StL),ts=[x]/\SqG G x (lane.map stT)/\lane.length<=1000/\(∀ d∈lane,RlK lane.length d.dd)/\k (rndT lane) G
def ZhC:tq.C "_law_round" 1 ["lane"] Zlm:=by
 refine tq.g1.okT ["lane","k","now","turn","deed"] fun ts G k nd hr hh=>?_;obtain⟨x,lane,rfl,sq,hl,hn,q⟩:=hh;refine' go_G [some x,none,none,none,none] rfl ?hb ?hg
 case hb=>exact(ag (cy PassesOwn.never rfl (cV rfl tq.b_range (aM (aG (bc (K:=K) rfl) (by rfl) tq.b_len bf (wx 0)) ab)) (pyn 1 nd) (ag (cp (i:=2) nd rfl (Or.inl rfl) (pv 1)) (aj (cy PassesOwn.never rfl (cV rfl tq.b_range (aM (aG (bc (K:=K) rfl) (by rfl) tq.b_len bf (wx 0)) ab)) (pyn 3 nd) (ag (cB (i:=4) nd rfl (Or.inl rfl) (x8 K (x8 K (pv 0) (pv 2)) aa)) (aj (aL (PW.pt (bV (aB (k_in (K:=K) rfl) (x8 K (pv 4) aa) (bt (ah aD (ah aD ab))) (by with_unfolding_all rfl)) (cF (aB ba (x8 K (x8 K (pv 4) (ck cj aa)) aa) aa (aA _))))) (ag (cB (i:=2) nd rfl (Or.inl rfl) (x8 K (x8 K (pv 4) (ck cj aa)) aa)) (aj (aL (aB ba (pv 2) (pv 1) (aA _)) (aj (ax (av (x9 1 (ah aD ab))))) aO))) aO))))))) (aj (ax dF)))
 have hrl:(rngT (lane.length:Int).toNat).length=lane.length:=by unfold rngT;simp
 ext;refine cu sq ?_;ext;refine⟨lane.length,by rw[af],by lia,by lia,fun j Γ' G'=>G'=G/\(∀ i,i<j->isR lane i=false)/\∃ c1 c2 c3 c4,Γ'=[some x,c1,c2,c3,c4],⟨rfl,fun i h=>absurd h (rN i),_,_,_,_,rfl⟩,fun _ _ _ _=>trivial,?_,?_⟩
 .rintro i y Γ' G' hx ⟨rfl,hno,c1,c2,c3,c4,rfl⟩;rw[bB] at hx;obtain ⟨rfl,hi⟩:=eT hx;ext;refine cu sq ?_;ext;refine ⟨lane.length,by rw[af],by lia,by lia,fun j Γ' G2=>G2=G'/\∃ (a:Nat) (c3 c4:Option T),a < lane.length/\j<=lane.length/\onR (rlL lane) i (lane.length - j) a=isR lane i/\Γ'=[some x,some (.int i),some (.int a),c3,c4],⟨rfl,i,_,_,hi,bO _,rfl,rfl⟩,fun _ _ _ _=>trivial,?_,?_⟩
  .rintro j y Γ' G2 hx ⟨rfl,a,c3,c4,ha,_,ho,rfl⟩;rw[bB] at hx;obtain ⟨rfl,hj⟩:=eT hx;have ea:lane[a]?=some lane[a]:=aC ha;generalize lane[a]=d at ea;have hk:=hn d (aF ea);have hnx:rlL lane a=rlD d.dd:=by unfold rlL;rw[ea];rfl
   have dat:atI (lane.map stT) (a:Int)=some (.tup [.int d.n,.lst (d.fr.map sfT),d.dd]):=cG (n:=a) rfl (by rw[ak,ea];rfl);rw[show lane.length-j=(lane.length-(j+1))+1 by lia,onR,hnx] at ho;have stay:rlD d.dd=none->∀ c3 c4,∃ (a':Nat) (c3' c4':Option T),a'<lane.length/\j+1<=lane.length/\onR (rlL lane) i (lane.length-(j+1)) a'=isR lane i/\[some x,some (T.int i),some (.int a),c3,c4]=[some x,some (T.int i),some (.int a'),c3',c4']:=fun e c3 c4=>by
    rw[e] at ho;exact⟨a,c3,c4,ha,by lia,by rw[<-ho];exact ZpQ (hnx.trans e) _,rfl⟩
   have led:∀ m:Nat,rlD d.dd=some m->(m=i->isR lane i=true)/\(m≠i->m<lane.length/\onR (rlL lane) i (lane.length-(j+1)) m=isR lane i):=fun m e=>by
    rw[e] at ho;dsimp only at ho;refine⟨fun h=>?_,fun h=>⟨hk.lt e,?_⟩⟩
    .rw[<-ho,h,nQ,Bool.true_or]
    .rw[<-ho,lq.mpr h,nN]
   have yes:isR lane i=true->Cl k (.tup [.int i,.str "round"]) G2:=fun e=>by
    rw[show rndT lane=.tup [.int i,.str "round"] by unfold rndT;rw[qv (bO i) (by lia) (fun i _ h=>hno i h) e]] at q;exact au q
   obtain⟨wd,ps,es,hv,he⟩:=hk;ext;refine l_ix sq dat ?_;generalize d.dd=dd at hv stay led;cases hv with
   | @go e =>
    obtain⟨r,y,m,ee,_⟩:=he (.inl rfl);injection ee with ee _
    subst ee;rw[lZ] at stay led;ext;refine bv (ss:=["go","hold"]) sg_l ?_;ext;refine bU (fun h=>?_) fun h=>?_
    .rw[am h] at led;obtain ⟨l1,l2⟩:=led m rfl;ext;refine bU (fun h2=>?_) fun h2=>?_
     .ext;exact yes (l1 (by lia))
     .obtain ⟨l3,l4⟩:=l2 (by lia);ext;dsimp only;exact bQ ⟨rfl,m,_,_,l3,by lia,l4,rfl⟩
    .rw[ao h] at stay;ext;dsimp only;exact bQ ⟨rfl,stay rfl _ _⟩
   | @hold w c e =>
    obtain⟨r,y,m,ee,_⟩:=he (.inr rfl);injection ee with ee _
    subst ee;rw[qK] at stay led;ext;refine bv (ss:=["go","hold"]) sg_l ?_;ext;refine bU (fun h=>?_) fun h=>?_
    .rw[am h] at led;obtain ⟨l1,l2⟩:=led m rfl;ext;refine bU (fun h2=>?_) fun h2=>?_
     .ext;exact yes (l1 (by lia))
     .obtain ⟨l3,l4⟩:=l2 (by lia);ext;dsimp only;exact bQ ⟨rfl,m,_,_,l3,by lia,l4,rfl⟩
    .rw[ao h] at stay;ext;dsimp only;exact bQ ⟨rfl,stay rfl _ _⟩
   | _ =>
    rw[qW (by decide)] at stay;ext;refine bv (ss:=["go","hold"]) sg_l ?_;ext;dsimp only;exact bQ ⟨rfl,stay rfl _ _⟩
  .rintro Γ' G2 ⟨rfl,a,c3,c4,ha,_,ho,rfl⟩;rw[hrl,lP,onR] at ho;dsimp only;refine bQ ⟨rfl,fun j h=>?_,_,_,_,_,rfl⟩;by_cases e2:j=i
   .rw[e2,<- ho]
   .exact hno j (by lia)
 .rintro Γ' G' ⟨rfl,hno,c1,c2,c3,c4,rfl⟩;rw[hrl] at hno;rw[show rndT lane=.non by unfold rndT;rw[pc fun i _ h=>hno i (by lia)]] at q;ext;exact au q
end
end My
end
section
namespace My
open PySem L2
section
variable{C:Addr}
def oH(hl:own.length=n)(hc:∀ g∈own,Cano g):(ay n).map (fun g=>bF g own)=own:=by
 subst hl;refine iJ fun i=>?_;rw[ak];by_cases h:i<own.length
 .have e:own[i]?=some own[i]:=aC h;rw[show (ay own.length)[i]?=some (ofW i) by unfold ay;rw[ak,kh h];rfl,e];exact congrArg some (uh e (hc _ (lM h)))
 .rw[eB (by unfold ay;rw[af,dC];lia),eB (by lia)];rfl
def mw:∀ g∈ay n,Cano g:=fun g hg=>by
 unfold ay at hg;obtain⟨j,_,rfl⟩:=aU.mp hg;exact lf _
def ZkV{P:List (Nat×List SF)}{s:SF}{dd:T}(pp:PpK Q n (f++[s]))(h:StD n kk dd)(hp:P[kk]?=some (n,f++[s])):DdZ Q P n f s dd true:=by
 obtain⟨hn,⟨f',s',e,fo⟩,cn⟩:=pp;have wl:(ay n).length=n:=by unfold ay;rw[af,dC]
 have pos:∀ t∈f++[s],∀ g∈t.2.2,PsW g:=fun t ht g hg p hp=>(((fo.all t (e▸ht)).fm g hg).w p hp).1;have fw:(f++[s]).map (bJ (ay n))=f++[s]:=mL (by rw[e];exact mh fo) cn pos (jK n);have wfo:∀ g∈ay n,Cano g/\Fo n (10^800) g:=fun g hg=>⟨mw g hg,(pS g hg).le (aE _) (by decide +kernel)⟩;rcases h with rfl|⟨w,c,hw,hc,rfl⟩
 .refine .go (EdS.b (least:=0) ⟨0,ay n,kk,n,_,rfl,aE _,by lia,hp,wl,by rw[wl];exact wfo,?_⟩);rw[oH wl mw,fw];rfl
 .have hl:=pX n w c;refine .hold hw (bo hc (by decide +kernel)) ⟨0,ay n,kk,n,_,rfl,aE _,by lia,hp,wl,by rw[hl];exact wfo,?_⟩;rw[oH hl fun g hg=>?_]
  .rfl
  .rcases m9 hg with hg|rfl
   .exact mw g hg
   .exact jw
structure GdE(Q:List Df)(lane:List StL):Prop where
 lk:iR Q lane
 ch:∀ d∈lane,Chn Q (plcF d.fr)
 dd:∀ d∈lane,∀ f s,d.fr=f++[s]->DdZ Q (pnL lane) d.n f s d.dd true
def GdE.rl(h:GdE Q lane):∀ d∈lane,RlK lane.length d.dd:=fun d hd=>by
 obtain⟨_,⟨f,s,e,_⟩,_⟩:=(h.lk d hd).1;exact sC (h.dd d hd f s e)
def GdE.dpt(h:GdE Q lane):∀ d∈lane,Dpt d.dd:=fun d hd=>by
 obtain⟨_,⟨f,s,e,_⟩,_⟩:=(h.lk d hd).1;exact dpt_of (h.dd d hd f s e)
def pd_mvE{t:Nat}:∀ {m:Nat} {e:T},PlD m e->PlD m (mvE t n e):=fun {m e} h=>by
 unfold mvE;split
 .cases m with
  | zero=>rcases h with ⟨_,h⟩|⟨_,h⟩ <;> cases h
  | succ m =>
   rcases h with ⟨_,h⟩|⟨_,h⟩|⟨ts,e,hl,hp⟩
   .cases h
   .cases h
   .cases e;refine .inr (.inr ⟨_,rfl,by simp,fun u hu=>?_⟩);rcases aI.mp hu with rfl|hu
    .exact hp _ (by simp)
    rcases aI.mp hu with rfl|hu
    .exact hp _ (by simp)
    rw[aK.mp hu];cases m with
    | zero=>exact .inl ⟨_,rfl⟩
    | succ m=>exact .inl ⟨_,rfl⟩
 .exact h
def pd_mvD{t:Nat}{m:Nat}{e:T}(h:PlD m e):PlD m (mvD t n e):=by
 unfold mvD;split
 .cases m with
  | zero=>rcases h with ⟨_,h⟩|⟨_,h⟩ <;> cases h
  | succ m =>
   rcases h with ⟨_,h⟩|⟨_,h⟩|⟨ts,e,hl,hp⟩
   .cases h
   .cases h
   .cases e;refine .inr (.inr ⟨_,rfl,by rw[cD,af];exact hl,fun u hu=>?_⟩);rcases aI.mp hu with rfl|hu
    .exact hp _ (by simp)
    .obtain ⟨v,hv,rfl⟩:=aU.mp hu;exact pd_mvE (hp v (bD _ hv))
 .exact h
def GdE.turn(h:GdE Q lane)(t:Nat):GdE Q (eR t lane):=by
 refine⟨fun x hx=>?_,fun x hx=>?_,fun x hx f s e=>?_⟩
 .obtain ⟨d,hd,rfl⟩:=o8 hx;exact⟨(h.lk d hd).1,pd_mvD (h.lk d hd).2⟩
 .obtain ⟨d,hd,rfl⟩:=o8 hx;exact h.ch d hd
 .obtain ⟨d,hd,rfl⟩:=o8 hx;exact ddz_mv (h.dd d hd f s e)
def Znm{dd:T}(hn:n<=40)(h:StD n kk dd):PlD 8 dd:=by
 have i1:∀ {m:Nat} {i:Int},PlD (m+1) (.int i):=fun {m i}=>.inl ⟨i,rfl⟩;have ed:PlD 5 (edT n kk):=.inr (.inr ⟨_,rfl,by simp,fun u hu=>by
  rcases aI.mp hu with rfl|hu
  .exact i1
  rcases aI.mp hu with rfl|hu
  .refine qh (by unfold ay;rw[af,dC];lia) fun f hf=>?_;unfold ay at hf;obtain⟨j,_,rfl⟩:=aU.mp hf;exact(by decide:1<=1000)
  .rw[aK.mp hu];exact i1⟩)
 rcases h with rfl|⟨w,c,_,_,rfl⟩
 .refine .inr (.inr ⟨_,rfl,by simp,fun u hu=>?_⟩);rcases aI.mp hu with rfl|hu
  .exact .inr (.inl ⟨_,rfl⟩)
  .rw[aK.mp hu];exact ed.up (by decide)
 .refine .inr (.inr ⟨_,rfl,by simp,fun u hu=>?_⟩);rcases aI.mp hu with rfl|hu
  .exact .inr (.inl ⟨_,rfl⟩)
  rcases aI.mp hu with rfl|hu
  .exact i1
  rcases aI.mp hu with rfl|hu
  .exact i1
  .rw[aK.mp hu];exact ed.up (by decide)
def ExS(d:StL)(lead:Nat->Nat)(ex:List StL):Prop:=∀ (i:Nat) x,ex[i]?=some x->x.n=d.n/\x.fr=d.fr/\StD d.n (lead i) x.dd
def ExS.snoc{d:StL}{lead:Nat->Nat}{ex:List StL}(h:ExS d lead ex){dd:T}(hd:StD d.n (lead ex.length) dd):ExS d lead (ex++[⟨d.n,d.fr,dd⟩]):=fun i x e=>by
 by_cases hi:i<ex.length
 .rw[cg hi] at e;exact h i x e
 .have hl:=(aT.mp e).1;rw[aJ,eA] at hl;rw[show i=ex.length by lia,fK (aE _),lP] at e;cases e;rw[show i=ex.length by lia];exact⟨rfl,rfl,hd⟩
def GdE.ext{ex:List StL}{bi:Nat}{d:StL}{lead:Nat->Nat}(lk:iR Q lane)(ch:∀ d∈lane,Chn Q (plcF d.fr))(dl:DdL Q lane)(eb:lane[bi]?=some d)(hx:ExS d lead ex)(hl:∀ i,i < ex.length->lead i=bi\/(lane.length<=lead i/\lead i < lane.length+ex.length)):GdE Q (lane++ex):=by
 have dm:=aF eb;have at_:∀ x∈ex,∃ i,i<ex.length/\ex[i]?=some x:=fun x hx=>by
  obtain⟨i,hi,e⟩:=n9 hx;exact⟨i,hi,by rw[<-e];exact aC hi⟩
 have pn:pnL (lane++ex)=pnL lane++pnL ex:=aY;refine⟨fun x hx'=>?_,fun x hx'=>?_,fun x hx' f s e=>?_⟩
 .rcases aR.mp hx' with h|h
  .exact lk x h
  .obtain ⟨i,hi,ei⟩:=at_ x h;obtain⟨h1,h2,h3⟩:=hx i x ei;rw[h1,h2];exact⟨(lk d dm).1,Znm (lk d dm).1.nb h3⟩
 .rcases aR.mp hx' with h|h
  .exact ch x h
  .obtain ⟨i,hi,ei⟩:=at_ x h;rw[(hx i x ei).2.1];exact ch d dm
 .rcases aR.mp hx' with h|h
  .rw[pn];exact(dl x h f s e).z.up
  .obtain ⟨i,hi,ei⟩:=at_ x h;obtain ⟨h1,h2,h3⟩:=hx i x ei;have p:=(lk d dm).1;rw[h1];rw[h2] at e;rw[e] at p;refine ZkV p h3 ?_;rw[pn];rcases hl i hi with e2|⟨l1,l2⟩
   .rw[e2,cg (by rw[af];exact(aT.mp eb).1),ak,eb,<- e];rfl
   .rw[fK (by rw[af];exact l1),af,ak];have l3:lead i - lane.length < ex.length:=by lia
    have e3:ex[lead i-lane.length]?=some ex[lead i-lane.length]:=aC l3;generalize ex[lead i-lane.length]=y at e3;rw[e3,<- e,<- (hx _ y e3).1,<- (hx _ y e3).2.1];rfl
def GdE.gp(h:GdE Q lane)(pk:PgK Q)(n1:1<=lane.length)(n2:lane.length<=100):GdP Q lane:=⟨pk,n1,n2,fun d hd=>(h.lk d hd).1,h.ch⟩
def GdE.st(h:GdE Q lane):∀ d∈lane,StO Q lane d .non:=fun d hd f s e=>.ok (h.dd d hd f s e)
def GdE.keep{Q:List Df}{lane:List StL}(h:GdE Q lane)(pk:PgK Q)(n1:1<=lane.length)(n2:lane.length<=100){i:Nat}{d:StL}(ei:lane[i]?=some d):FltR Q (lane.set i ⟨d.n,d.fr,.tup [.str "keep"]⟩) (.tup [.int i,.str "deed"]):=by
 have pn:=qB ei (dd:=.tup [.str "keep"]);have hi:=(aT.mp ei).1;have mem:∀ x∈lane.set i ⟨d.n,d.fr,.tup [.str "keep"]⟩,∃ y∈lane,x.n=y.n/\x.fr=y.fr:=fun x hx=>by
  rcases gk hx with hx|rfl
  .exact ⟨x,hx,rfl,rfl⟩
  .exact ⟨d,aF ei,rfl,rfl⟩
 refine .bad ⟨pk,by rw[cC];exact n1,by rw[cC];exact n2,fun x hx=>?_,fun x hx=>?_⟩ (i:=i) (d:=⟨d.n,d.fr,.tup [.str "keep"]⟩) (by rw[gV hi]) (fun f s e=>.keep rfl) fun j x hj ej f s e=>.ok ?_
 .obtain ⟨y,hy,e1,e2⟩:=mem x hx;rw[e1,e2];exact(h.lk y hy).1
 .obtain ⟨y,hy,e1,e2⟩:=mem x hx;rw[e2];exact h.ch y hy
 .rw[pn];rw[jh (by lia)] at ej;exact h.dd x (aF ej) f s e
def Zp4(h:iR Q lane){i:Nat}{d:StL}(ei:lane[i]?=some d):iR Q (lane.set i ⟨d.n,d.fr,.tup [.str "keep"]⟩):=fun x hx=>by
 rcases gk hx with hx|rfl
 .exact h x hx
 .exact ⟨(h d (aF ei)).1,.inr (.inr ⟨_,rfl,by simp,fun u hu=>by rw[aK.mp hu];exact .inr (.inl ⟨_,rfl⟩)⟩)⟩
abbrev Q1:List Df:=[⟨0,1,[.jump 0]⟩]
abbrev Ln1(r:Int):List StL:=[⟨1,[(0,0,[ofW 0])],.tup [.str "go",.tup [.int r,.tup [fmT (ofW 0)],.int 0]]⟩]
def pk1:PgK Q1:=⟨⟨by simp,by simp,fun d hd=>by
 rw[aK.mp hd];exact⟨by simp,by simp,by simp,fun r hr=>by rw[aK.mp hr];exact⟨by decide,by decide⟩,_,rfl,trivial⟩⟩,fun d hd=>by rw[aK.mp hd];decide⟩
theorem gone1:∀ n,cz Q1 n [(0,0,[ofW 0])]=some [(0,0,[ofW 0])]
 | 0=>rfl
 | n+1=>by rw[cz,show ce Q1 [(0,0,[ofW 0])]=some [(0,0,[ofW 0])] from rfl];exact gone1 n
def pp1:PpK Q1 1 [(0,0,[ofW 0])]:=⟨by decide,⟨[],(0,0,[ofW 0]),rfl,⟨by decide,fun t ht=>by
 rw[aK.mp ht];exact⟨⟨⟨0,1,[.jump 0]⟩,.jump 0,by decide,rfl,by decide,rfl,rfl⟩,fun g hg=>by rw[aK.mp hg];exact iu (N:=1) (c:=0) (by decide) (by decide)⟩,fun t h=>nomatch h⟩⟩,fH fun g hg=>by rw[aK.mp hg];exact lf 0⟩
def flt1{r:Int}(h0:0<=r):FltR Q1 (Ln1 r) (if r > 200 then .tup [.int 0,.str "edge"] else if r > 0 then .non else .tup [.int 0,.str "round"]):=by
 have gp:GdP Q1 (Ln1 r):=⟨pk1,by simp,by simp,fun d hd=>by rw[aK.mp hd];exact pp1,fun d hd=>by rw[aK.mp hd];exact vG⟩;by_cases h:r>200
 .rw[am h];refine .bad gp (i:=0) rfl (fun f s e=>?_) fun j d hj=>absurd hj (rN j);obtain⟨e1,e2⟩:=lS (s₁:=[]) (t₁:=[(0,0,[ofW 0])]) e rfl;cases e1;cases e2;exact .edge (.go (.inr ⟨rfl,r,_,0,rfl,h⟩))
 .rw[ao h];obtain ⟨n,rfl⟩:∃ n:Nat,r=n:=⟨r.toNat,by lia⟩;have st:∀ d∈Ln1 n,StO Q1 (Ln1 n) d .non:=fun d hd f s e=>by
   rw[aK.mp hd] at e ⊢;obtain⟨e1,e2⟩:=lS (s₁:=[]) (t₁:=[(0,0,[ofW 0])]) e rfl;cases e1;cases e2;exact .ok (.go (EdS.b (least:=0) ⟨n,[ofW 0],0,1,_,rfl,bO _,by lia,rfl,rfl,fun g hg=>by
    rw[aK.mp hg];exact⟨lf 0,(iu (N:=1) (c:=0) (u:=0) (by decide) (by decide)).le (aE _) (by decide +kernel)⟩,by
    rw[show [ofW 0].map (fun g=>bF g (ay 1))=ay 1 from oH (n:=1) rfl mw];show cz Q1 n [(0,0,[ofW 0])]=some [(0,0,[bF (ofW 0) (ay 1)])];rw[show bF (ofW 0) (ay 1)=ofW 0 from uh (i:=0) rfl (lf 0)];exact gone1 n⟩))
  have rl:rlL (Ln1 n) 0=if (n:Int)=0 then some 0 else none:=lZ (x:=.tup [fmT (ofW 0)]) (j:=0)
  have hr:rndT (Ln1 n)=if (n:Int)>0 then .non else .tup [.int 0,.str "round"]:=by
   unfold rndT;rw[show (Ln1 n).length=1 from rfl,fstR,fstR];unfold isR;rw[show (Ln1 n).length=1 from rfl,onR,rl];by_cases e:(n:Int)=0
   .rw[am e,ao (show ¬ (n:Int)>0 by lia)];rfl
   .rw[ao e,am (show (n:Int)>0 by lia)];rfl
  rw[<-hr];exact .rnd gp st
end
end My
end
namespace My
open PySem L2
section
variable{C:Addr}
def sc_law:FnScope ["script","bag","way","turn","more","whole","bent","at","full","program","lane","size","base","ends","k","leads","due","handed","rows","word"] ["script"] (bG jA):=⟨rfl,rfl,rfl,by decide +kernel,rfl,by decide +kernel,by decide +kernel⟩
def law_fn{f:Addr}{fd:FuncData}(tq:Tq P w K mg base)(T_law:Fun K "law" "law" jA f fd):FnOk P w K mg base CX0 14 f fd ["script"] (iN K):=by
 refine T_law.law (k:=13) sc_law fun cdv A outer s H a ns Q E hr hS hlen k=>?_;have nd:=sc_law.nd;have hu:=hr.units;refine' m8 [some (.ref a),none,none,none,none,none,none,none,none,none,none,none,none,none,none,none,none,none,none,none] rfl ?hb ?hg
 case hb=>exact(ag (bE (i:=1) nd rfl (Or.inl rfl) (pyk (Zkj tq :) hr.m (wx 0))) (ag (bE (i:=2) nd rfl (Or.inl rfl) (pyk (aZ tq :) hr.m (x9 1 (ah aa ab)))) (ag (bE (i:=3) nd rfl (Or.inl rfl) (pyk (aZ tq :) hr.m (x9 1 (ah aa ab)))) (ag (cZ (i:=4) nd rfl (Or.inl rfl) (aw bw aa (pyk (aZ tq :) hr.m (x9 1 (ah aa ab))))) (ag (cB (i:=5) nd rfl (Or.inl rfl) (x8 K (bt (bK (aw bw aa (pyk (aZ tq :) hr.m (x9 1 (ah aa ab)))) (ah aa ab))) (aw jM (pyk (aZ tq :) hr.m (x9 1 (ah aa ab))) aa))) (ag (cp (i:=6) nd rfl (Or.inl rfl) (dJ ba (pyk (aZ tq :) hr.m (x9 1 (ah aa ab))) aa (aA _))) (ag (bE (i:=7) nd rfl (Or.inl rfl) (pyk (aZ tq :) hr.m (x9 1 (ah aa ab)))) (ag (cp (i:=8) nd rfl (Or.inl rfl) (dJ ba (pyk (aZ tq :) hr.m (x9 1 (ah aa ab))) aa (aA _))) (ag (bE (i:=9) nd rfl (Or.inl rfl) (pyk (Zfy tq :) hr.m (wx 1))) (ag (bE (i:=10) nd rfl (Or.inl rfl) (pyk (Zis tq :) hr.m (x9 1 (wx 9)))) (ag (aL (cr (pv 8)) (aj (cZ (i:=4) nd rfl (Or.inl rfl) (aw dj (pv 5) (aG (bc (K:=K) rfl) (by rfl) tq.b_len bf (wx 10))))) aO) (ag (bE (i:=11) nd rfl (Or.inl rfl) (aG (bc (K:=K) rfl) (by rfl) tq.b_len bf (wx 10))) (ag (bE (i:=12) nd rfl (Or.inl rfl) (pyk (aZ tq :) hr.m (x9 1 (wx 11)))) (ag (jG (i:=13) nd rfl (Or.inl rfl) (bt (x9 12 (bK (aw dj (aw bw (pv 11) (pv 4)) aa) (bK (aw bw (pv 11) (pyk (aZ tq :) hr.m (x9 1 (wx 4)))) (wx 12)))))) (ag (cy PassesOwn.never rfl (cV rfl tq.b_range (wx 4)) (pyn 14 nd) (ag (cp (i:=15) nd rfl (Or.inl rfl) (ft (aB dM (aw bw (pv 14) aa) (pv 4) (aA _)) (aw bw (aw bw (pv 11) (pv 14)) aa) (x8 K (pv 13) (pv 2)))) (aj (eC (k_bm (K:=K) rfl PySem.F.plainAttrs_list PySem.F.slot_list_append PySem.F.type_list_append gK (pv 10) (aS (av (aH (x8 K (x8 K (pv 10) (pv 12)) aa) (aH (x8 K (x8 K (pv 10) (pv 12)) aa) (aM (pyk (ZhB tq :) hr.m (x9 1 (aH (x8 K (x8 K (pv 10) (pv 12)) aa) (wx 15)))) ab)))) ab)))))) (ag (bE (i:=10) nd rfl (Or.inl rfl) (pyk (ZgD tq :) hr.m (x9 10 (wx 3)))) (ag (bE (i:=16) nd rfl (Or.inl rfl) (pyk (ZhC tq :) hr.m (wx 10))) (ag (aL (cr (pv 6)) (ag (cZ (i:=7) nd rfl (Or.inl rfl) (aw fE (pv 7) (aG (bc (K:=K) rfl) (by rfl) tq.b_len bf (wx 10)))) (ag (bX (aw (gT (K:=K) rfl) (cO (eP (K:=K) rfl) (x8 K (pv 10) (pv 7)) cL (cK aa)) (av (aS (av (ah aD ab)) ab))) (cS (pv 10) (pv 7) cW)) (aj (i4 (i:=16) nd rfl (Or.inl rfl) (av (x9 7 (ah aD ab))))))) aO) (ag (aL (aB eQ (aG (bc (K:=K) rfl) (by rfl) tq.b_len bf (wx 10)) aa (aA _)) (aj (i4 (i:=16) nd rfl (Or.inl rfl) (av (ah aa (ah aD ab))))) aO) (ag (bE (i:=17) nd rfl (Or.inl rfl) (du (oN (K:=K) rfl) (by rfl) tq.b_list iQ (wx 10))) (ag (aL (PW.pt (fT (dq (cr (pyk (m4 tq :) hr.m (aM (pyk (pV tq :) hr.m (x9 9 (wx 17))) (wx 16))))) (gF (dq (cr (pyk (m4 tq :) hr.m (x9 17 (wx 10)))))))) (aj (ax dw)) aO) (ag (aL (dq (cr (pyk (m4 tq :) hr.m (aM (pyk (pV tq :) hr.m (x9 9 (g9 (bt ab) ab))) (aS (av (ah aa (ah aD ab))) ab))))) (aj (ax dw)) aO) (ag (cB (i:=18) nd rfl (Or.inl rfl) (x8 K (bt (aM (pyk (aZ tq :) hr.m (x9 1 (ah aa ab))) (bK (aw bw aa (pyk (aZ tq :) hr.m (x9 1 (ah aa ab)))) (ah aa (bK (aw jJ aa aa) ab))))) (pyk (aZ tq :) hr.m (x9 1 (ah aa ab))))) (ag (i4 (i:=19) nd rfl (Or.inl rfl) (av (aS (av (ah aa (aS (av (aS (av (ah aa (ah aa ab))) ab)) ab))) ab))) (ag (cp (i:=16) nd rfl (Or.inl rfl) (ft (aB eQ (pv 18) aa (aA _)) (av (ah aa (ah aD ab))) (ft (aB eQ (pv 18) aa (aA _)) dF (av (ah aa (ah aD ab)))))) (aj (ax (pyk (m4 tq :) hr.m (aM (pyk (pV tq :) hr.m (g9 (bt (aS (av (ah aa (ah aa (g9 (bt (aS (av (ah aD (ah aa ab))) ab)) ab)))) ab)) (g9 (bt (aS (av (ah aa (g9 (bt (aS (av (ah aa (ah aa (wx 19)))) ab)) (aS (av (ah aD (aS (av (x9 18 (x9 19 (ah aa ab)))) ab))) ab)))) ab)) ab))) (wx 16))))))))))))))))))))))))))))))
 have pa_is:∀ {i:Int} {x:Str},PlA 11 (.tup [.int i,.str x]):=fun {i x}=>.inr (.inr (.inr ⟨_,.inl rfl,by simp,fun u hu=>by
  rcases aI.mp hu with rfl|hu
  .exact .inl ⟨_,rfl⟩
  .rw[aK.mp hu];exact .inr (.inl ⟨_,rfl⟩)⟩))
 have pa_rnd:∀ {lane:List StL},PlA 11 (rndT lane):=fun {lane}=>by
  unfold rndT;split
  .exact .inr (.inr (.inl (.inl rfl)))
  .exact pa_is
 have cdiv5:∀ {i:Int},iX i 5:=jT (by decide) (by decide);refine law_go (P:=P) (w:=w) 18 hS hlen k fun b l=>?_;show Ws P w K _ [none,some (.ptr b),none,none,none,none,none,none,none,none,none,none,none,none,none,none,none,none,none,none] _ _;have hb:gput g0 b (.bag l) b=some (.bag l):=gp_s;generalize gput g0 b (.bag l)=G at hb;ext;refine bj hb ⟨by decide,by decide⟩ fun way y0 y1=>?_;ext;refine bj hb ⟨by decide,by decide⟩ fun turn t0 t1=>?_;ext;refine bj hb ⟨by decide,by decide⟩ fun m m0 m1=>?_;ext;refine bj hb ⟨by decide,by decide⟩ fun a a0 a1=>?_;ext;refine bj hb ⟨by decide,by decide⟩ fun c c0 c1=>?_;ext;refine l_IC cdiv5 ?_;obtain⟨wh,hwh,hat⟩:∃ wh:Nat,(99<=wh/\wh<=400)/\atI [T.int (99+a),T.int 400] (c / 5)=some (.int wh):=by
  have h5:c / 5=0\/c / 5=1:=by lia
  rcases h5 with h5|h5
  .exact ⟨(99+a).toNat,by lia,by rw[h5,at_0];congr 2;lia⟩
  .exact ⟨400,by lia,by rw[h5,at_1];rfl⟩
 refine aW hat ?_;ext;refine bj hb ⟨by decide,by decide⟩ fun be be0 be1=>?_;ext;refine bj hb ⟨by decide,by decide⟩ fun at_ p0 p1=>?_;ext;refine bj hb ⟨by decide,by decide⟩ fun fu fu0 fu1=>?_;ext;refine⟨b,l,rfl,hb,fun Q pk=>?_⟩;ext;refine⟨b,l,Q,rfl,hb,pk,fun la lane nla lk dl ch h1 h24=>?_⟩;have hb1:gput G la (.lst (lane.map stT)) b=some (.bag l):=by rw[gp_n (g_ne hb nla)];exact hb
 have hG1:gput G la (.lst (lane.map stT)) la=some (.lst (lane.map stT)):=gp_s;refine bH ?_;refine cX (fun Γ' G'=>G'=gput G la (.lst (lane.map stT))/\∃ mr:Nat,1<=mr/\mr<=400/\Γ'=[none,some (.ptr b),some (.int way),some (.int turn),some (.int mr),some (.int wh),some (.bl (decide (be=2))),some (.int at_),some (.bl (decide (fu=2))),some (pgT Q),some (.ptr la),none,none,none,none,none,none,none,none,none]) ?_ ?_
 .ext;refine bU (fun _=>?_) fun _=>?_
  .ext;refine cu (sg_p gp_s) ?_;rw[af];ext;obtain⟨v,ev⟩:∃ v:Nat,(wh:Int)-lane.length=v:=⟨wh-lane.length,by lia⟩;rw[ev];exact⟨rfl,v,by lia,by lia,rfl⟩
  .ext;obtain⟨v,ev⟩:∃ v:Nat,1+m=(v:Int):=⟨(1+m).toNat,by lia⟩;rw[ev];exact⟨rfl,v,by lia,by lia,rfl⟩
 rintro Γ' G' ⟨rfl,mr,mr1,mr4,rfl⟩;ext;refine cu (sg_p gp_s) ?_;rw[af];ext;refine bj hb1 ⟨by lia,by lia⟩ fun bs bs0 bs1=>?_;obtain⟨bi,rfl⟩:∃ bi:Nat,bs=bi:=⟨bs.toNat,by lia⟩;ext;refine bj hb1 ⟨by lia,by lia⟩ fun en en0 en1=>?_;ext;have ebi:lane[bi]?=some lane[bi]:=aC (by lia);generalize lane[bi]=d at ebi;obtain⟨ed,hed,hedl⟩:∃ ed:Nat,atI [T.int bi,.int (lane.length+mr-1),.int (lane.length+en),.int bi] way=some (.int ed)/\(ed=bi\/(lane.length<=ed/\ed<lane.length+mr)):=by
  have h4:way=0\/way=1\/way=2\/way=3:=by lia
  rcases h4 with rfl|rfl|rfl|rfl
  .exact ⟨bi,rfl,.inl rfl⟩
  .exact ⟨lane.length+mr-1,by rw[at_1];congr 2;lia,.inr (by lia)⟩
  .exact ⟨lane.length+en.toNat,by rw[at_2];congr 2;lia,.inr (by lia)⟩
  .exact ⟨bi,rfl,.inl rfl⟩
 have dat:∀ ex:List StL,atI ((lane++ex).map stT) (bi:Int)=some (stT d):=fun ex=>cG (n:=bi) rfl (by rw[ak,cg (aT.mp ebi).1,ebi];rfl);have d40:=(lk d (aF ebi)).1.nb;refine⟨mr,rfl,by lia,by lia,fun j Γ' G'=>∃ (ex:List StL) (c14 c15:Option T),ex.length=j/\ExS d (fun i=>if i+1<mr then lane.length+i+1 else ed) ex/\G'=gput G la (.lst ((lane++ex).map stT))/\Γ'=[none,some (.ptr b),some (.int way),some (.int turn),some (.int mr),some (.int wh),some (.bl (decide (be=2))),some (.int at_),some (.bl (decide (fu=2))),some (pgT Q),some (.ptr la),some (.int lane.length),some (.int bi),some (.lst [.int bi,.int (lane.length+mr-1),.int (lane.length+en),.int bi]),c14,c15,none,none,none,none],⟨[],_,_,rfl,fun i x h=>(by cases h),by rw[dR],rfl⟩,fun _ _ _ _=>trivial,?_,?_⟩
 .rintro j x Γ' G' hx ⟨ex,c14,c15,hj,hex,rfl,rfl⟩;rw[bB] at hx;obtain ⟨rfl,hjm⟩:=eT hx;have hb2:gput G la (.lst ((lane++ex).map stT)) b=some (.bag l):=by rw[gp_n (g_ne hb nla)];exact hb
  refine bH ?_;refine cX (fun Γ' G'=>G'=gput G la (.lst ((lane++ex).map stT))/\Γ'=[none,some (.ptr b),some (.int way),some (.int turn),some (.int mr),some (.int wh),some (.bl (decide (be=2))),some (.int at_),some (.bl (decide (fu=2))),some (pgT Q),some (.ptr la),some (.int lane.length),some (.int bi),some (.lst [.int bi,.int (lane.length+mr-1),.int (lane.length+en),.int bi]),some (.int j),some (.int ((if j+1<mr then lane.length+j+1 else ed:Nat):Int)),none,none,none,none]) ?_ ?_
  .ext;refine bU (fun h=>?_) fun h=>?_
   .ext;rw[am (show j+1<mr by lia)];exact⟨rfl,rfl⟩
   .ext;refine aW hed ?_;ext;rw[ao (show ¬ j+1<mr by lia)];exact⟨rfl,rfl⟩
  rintro Γ' G' ⟨rfl,rfl⟩;ext;refine⟨⟨rfl,_,.inr ⟨la,rfl,gp_s⟩⟩,?_⟩;ext;refine l_ix (sg_p gp_s) (dat ex) ?_;ext;refine l_ix (sg_p gp_s) (dat ex) ?_;ext;refine l_ix (sg_p gp_s) (dat ex) ?_;ext;refine⟨b,l,d.n,_,rfl,hb2,d40,fun dd hdd=>?_⟩;ext;refine gB gp_s (by rw[af,aJ];lia) ?_;ext;dsimp only;refine bQ ⟨ex++[⟨d.n,d.fr,dd⟩],_,_,by rw[aJ,hj];rfl,hex.snoc (by rw[hj];exact hdd),?_,rfl⟩;rw[gp_p,<- cv,aY (l₁:=lane++ex)];rfl
 rintro Γ' G' ⟨ex,c14,c15,hj,hex,rfl,rfl⟩;unfold rngT at hj;rw[af,dC,bB] at hj;have ge:GdE Q (lane++ex):=GdE.ext lk ch dl ebi hex fun i hi=>by
  by_cases h:i+1<mr
  .rw[am h];exact .inr (by lia)
  .rw[ao h,hj];exact hedl
 have ll:(lane++ex).length=lane.length+mr:=by rw[aJ,hj]
 generalize lane++ex=L at ge ll;refine pN (i:=10) rfl nla ?_;obtain⟨tn,rfl⟩:∃ tn:Nat,turn=tn:=⟨turn.toNat,by lia⟩;ext;refine⟨L,tn,rfl,by lia,by lia,ge.dpt,fun fa nfa=>?_⟩;have gt:=ge.turn tn;have lt:(eR tn L).length=lane.length+mr:=by rw[nt,ll]
 generalize eR tn L=L2 at gt lt;ext;refine⟨.ptr fa,L2,rfl,sg_p gp_s,by lia,gt.rl,?_⟩;refine bH ?_;have hb3:∀ c,gput G fa c b=some (.bag l):=fun c=>by rw[gp_n (g_ne hb nfa)];exact hb
 refine cX (fun Γ' G'=>Ex3 fun(L3:List StL) (due:T) (c7:Option T)=>An6 (G'=gput G fa (.lst (L3.map stT))) (L3.length=lane.length+mr) (iR Q L3) (PlA 11 due) (L3.length<=100->FltR Q L3 due) (Γ'=[none,some (.ptr b),some (.int way),some (.int tn),some (.int mr),some (.int wh),some (.bl (decide (be=2))),c7,some (.bl (decide (fu=2))),some (pgT Q),some (.ptr fa),some (.int lane.length),some (.int bi),some (.lst [.int bi,.int (lane.length+mr-1),.int (lane.length+en),.int bi]),c14,c15,some due,none,none,none])) ?_ ?_
 .ext;refine bU (fun h=>?_) fun h=>?_
  .ext;refine cu (sg_p gp_s) ?_;rw[af];ext;refine ju (by lia) ?_;obtain ⟨ai,hai,hal⟩:∃ ai:Nat,at_ % (L2.length:Int)=ai/\ai < L2.length:=⟨(at_ % (L2.length:Int)).toNat,by have:=jr at_ (show (L2.length:Int)≠0 by lia);lia,by have:=js at_ (show 0 < (L2.length:Int) by lia);lia⟩;rw[hai];have ea:L2[ai]?=some L2[ai]:=aC hal;generalize L2[ai]=d3 at ea;ext;refine l_ix (sg_p gp_s) (cG (n:=ai) rfl (by rw[ak,ea];rfl)) ?_;ext;refine eN ?_;rw[gQ (by decide) (by simp)];ext;refine gE (by simp) ?_;ext;refine ⟨fa,L2.map stT,ai,ai,rfl,rfl,gp_s,kT rfl (by rw[af];exact hal),?_⟩;have es:(L2.map stT).set ai (.tup (List.take (2:Int).toNat [T.int d3.n,.lst (d3.fr.map sfT),d3.dd]++[.tup [.str "keep"]]))=(L2.set ai ⟨d3.n,d3.fr,.tup [.str "keep"]⟩).map stT:=by rw[iL];rfl
   rw[es,gp_p];ext;exact⟨L2.set ai ⟨d3.n,d3.fr,.tup [.str "keep"]⟩,_,_,rfl,by rw[cC];exact lt,Zp4 gt.lk ea,pa_is,fun h100=>gt.keep pk (by lia) (by rw[cC] at h100;exact h100) ea,rfl⟩
  .ext;exact⟨L2,_,_,rfl,lt,gt.lk,pa_rnd,fun h100=>.rnd (gt.gp pk (by lia) h100) gt.st,rfl⟩
 rintro Γ' G' ⟨L3,due,c7,rfl,l3,lk3,pd3,fl3,rfl⟩;refine cX (fun Γ' G'=>∃ (due:T),An4 (G'=gput G fa (.lst (L3.map stT))) (PlA 11 due) (FltR Q L3 due) (Γ'=[none,some (.ptr b),some (.int way),some (.int tn),some (.int mr),some (.int wh),some (.bl (decide (be=2))),c7,some (.bl (decide (fu=2))),some (pgT Q),some (.ptr fa),some (.int lane.length),some (.int bi),some (.lst [.int bi,.int (lane.length+mr-1),.int (lane.length+en),.int bi]),c14,c15,some due,none,none,none])) ?_ ?_
 .ext;refine cu (sg_p gp_s) ?_;rw[af];ext;refine bU (fun h=>?_) fun h=>?_
  .ext;exact⟨_,rfl,pa_is,.size (.inr (by lia)),rfl⟩
  .ext;exact⟨_,rfl,pd3,fl3 (by lia),rfl⟩
 rintro Γ' G' ⟨due,rfl,pd,fl,rfl⟩;refine pN (i:=10) rfl nfa ?_;ext;refine rX sg_l ?_;ext;refine⟨Q,L3,due,rfl,fl,?_⟩;ext;refine⟨due,rfl,pd,?_⟩;ext;refine⟨_,rfl,ZpK pk (by lia) lk3,?_⟩;ext;refine⟨Q,[],_,rfl,.size (.inl rfl),?_⟩;ext;refine⟨_,rfl,pa_is,?_⟩;ext;refine bj hb ⟨by decide,by decide⟩ fun r1 r10 r11=>?_;ext;refine bj hb ⟨by decide,by decide⟩ fun r2 r20 r21=>?_;ext;refine l_IC (show CPow 10 50 from ⟨by decide,by decide,by decide⟩) ?_;ext;refine bj hb ⟨by decide,by decide⟩ fun r4 r40 r41=>?_;ext;obtain⟨r,hr4,hr0⟩:∃ r:Int,atI [T.int r1,.int (198+r2),.int 400,.int (10^(50:Int).toNat)] r4=some (.int r)/\0<=r:=by
  have h4:r4=0\/r4=1\/r4=2\/r4=3:=by lia
  rcases h4 with rfl|rfl|rfl|rfl
  .exact ⟨_,rfl,r10⟩
  .exact ⟨_,rfl,by lia⟩
  .exact ⟨_,rfl,by lia⟩
  .exact ⟨_,rfl,by decide +kernel⟩
 refine aW hr4 ?_;ext;have hr1:∀ x:T,x=(if r>200 then .tup [.int 0,.str "edge"] else if r>0 then .non else .tup [.int 0,.str "round"])->PlA 11 x/\FltR Q1 (Ln1 r) x:=fun x e=>by
  subst e;refine⟨?_,flt1 hr0⟩;split
  .exact pa_is
  .split
   .exact .inr (.inr (.inl (.inl rfl)))
   .exact pa_is
 refine bU (fun h=>?_) fun h=>?_
 .obtain ⟨pl,fl⟩:=hr1 _ (by rw[am h]);ext;refine⟨Q1,Ln1 r,_,rfl,fl,?_⟩;ext;refine⟨_,rfl,pl,?_⟩;exact au rfl
 .ext;refine bU (fun h2=>?_) fun h2=>?_
  .obtain ⟨pl,fl⟩:=hr1 _ (by rw[ao h,am h2]);ext;refine⟨Q1,Ln1 r,_,rfl,fl,?_⟩;ext;refine⟨_,rfl,pl,?_⟩;exact au rfl
  .obtain ⟨pl,fl⟩:=hr1 _ (by rw[ao h,ao h2]);ext;refine⟨Q1,Ln1 r,_,rfl,fl,?_⟩;ext;refine⟨_,rfl,pl,?_⟩;exact au rfl
end
def gd:∀ c,Gd c:=fun c=>Classical.byContradiction fun n=>@Classical.epsilon_spec _ (fun c=>¬ Gd c) ⟨c,n⟩ (by
 have h:=@law_fn;unfold P w K mg base at h;exact @h)
def law_fg{P:Program}{w:World}{K:W.Frag}{mg:Str->Option Value}{base:Heap}{f:Addr}(tq:Tq P w K mg base)(T_law:Fun K "law" "law" jA f fd):FnOk P w K mg base CX0 14 f fd ["script"] (iN K):=gd ⟨P,w,K,mg,base⟩ _ _ tq T_law
section
open PySem.W PyProof.Rows
def ZpX(w:World){mg:Str->Option Value}{fa:Addr}{h:Heap}(X:(KK w.params).In h)(G:h.Ns mainGlobals mg)(hfa:mg "law"=some (.ref fa)):∃ fd:FuncData,(∀ (s:Shared) (v:Value),BindsTo s fd ⟨[v],[]⟩ [("script",v)])/\∀ base:Heap,(KK w.params).In base->base.Ns mainGlobals mg->FnOk PySem.Challenge.rw_midlanes_k35_rounds_and_sizes.prog w (KK w.params) mg base CX0 14 fa fd ["script"] (iN (KK w.params)):=by
 cases hfa.symm.trans (gv X G (v:=.ref 421));have tq {base:Heap}:Tq PySem.Challenge.rw_midlanes_k35_rounds_and_sizes.prog w (KK w.params) mg base:=⟨gz X G,gz X G,gz X G,gz X G,gz X G,gz X G,gz X G,gz X G,gz X G,gz X G,gz X G,gz X G,gz X G,gz X G,gz X G,⟨164,gv X G,by kernel_rfl,by decide +kernel,[("go",395,165),("test",397,166),("tell",400,167),("take",402,168),("hold",404,169),("leave",408,170)],6,by kernel_rfl,.cons ⟨rfl,⟨_,_,_,lo 165 (oT #[xs "edge" 396]),rfl,rfl,fU rfl,.cons ⟨_,rfl⟩ (.nil)⟩⟩ (.cons ⟨rfl,⟨_,_,_,lo 166 (oT #[xs "edge" 398,xs "edge" 399]),rfl,rfl,fU rfl,.cons ⟨_,rfl⟩ (.cons ⟨_,rfl⟩ (.nil))⟩⟩ (.cons ⟨rfl,⟨_,_,_,lo 167 (oT #[xs "edge" 401]),rfl,rfl,fU rfl,.cons ⟨_,rfl⟩ (.nil)⟩⟩ (.cons ⟨rfl,⟨_,_,_,lo 168 (oT #[xs "edge" 403]),rfl,rfl,fU rfl,.cons ⟨_,rfl⟩ (.nil)⟩⟩ (.cons ⟨rfl,⟨_,_,_,lo 169 (oT #[xs "number" 405,xs "number" 406,xs "edge" 407]),rfl,rfl,fU rfl,.cons ⟨_,rfl⟩ (.cons ⟨_,rfl⟩ (.cons ⟨_,rfl⟩ (.nil)))⟩⟩ (.cons ⟨rfl,⟨_,_,_,lo 170 (oT #[]),rfl,rfl,fU rfl,.nil⟩⟩ (.nil))))))⟩,⟨171,gv X G,by kernel_rfl,by decide +kernel,[("test",416,172),("tell",419,173),("take",421,174)],3,by kernel_rfl,.cons ⟨rfl,⟨_,_,_,lo 172 (oT #[xs "zero" 417,xs "below" 418]),rfl,rfl,fU rfl,.cons ⟨_,rfl⟩ (.cons ⟨_,rfl⟩ (.nil))⟩⟩ (.cons ⟨rfl,⟨_,_,_,lo 173 (oT #[xs "tell" 420]),rfl,rfl,fU rfl,.cons ⟨_,rfl⟩ (.nil)⟩⟩ (.cons ⟨rfl,⟨_,_,_,lo 174 (oT #[xs "take" 422]),rfl,rfl,fU rfl,.cons ⟨_,rfl⟩ (.nil)⟩⟩ (.nil)))⟩,⟨393,gv X G⟩,⟨326,gv X G⟩,⟨389,gv X G⟩,⟨391,gv X G⟩,⟨104,gv X G,_,_,_,lo 104 (oT #[xs "put" 302,xs "copy" 303,xs "plus" 304,xs "less" 305,xs "times" 306]),rfl,rfl,fU rfl,.cons ⟨_,rfl⟩ (.cons ⟨_,rfl⟩ (.cons ⟨_,rfl⟩ (.cons ⟨_,rfl⟩ (.cons ⟨_,rfl⟩ (.nil)))))⟩,(tf2 X G 284 LN0 553 283),(tf1 X G 291 LN0 553 290),(tf1 X G 277 LN0 553 276),(tf4 X G 296 LN0 553 295),(tf3 X G 301 LN0 553 300),(tf1 X G 306 LN0 553 305),(tf1 X G 28 "midlanes.forms" 196 27),(tf1 X G 35 "midlanes.forms" 196 34),(tf1 X G 70 "midlanes.forms" 196 69),(tf3 X G 98 "midlanes.forms" 196 97),(tf2 X G 103 "midlanes.forms" 196 102),(tf3 X G 91 "midlanes.forms" 196 90),(tf2 X G 42 "midlanes.forms" 196 41),(tf2 X G 49 "midlanes.forms" 196 48),(tf2 X G 56 "midlanes.forms" 196 55),(tf2 X G 63 "midlanes.forms" 196 62),(tf2 X G 111 "midlanes.rows" 300 110),(tf2 X G 118 "midlanes.rows" 300 117),(tf3 X G 139 "midlanes.papers" 324 138),(tf2 X G 146 "midlanes.papers" 324 145),(tf2 X G 132 "midlanes.papers" 324 131),(tf2 X G 153 "midlanes.papers" 324 152),(tf3 X G 158 "midlanes.papers" 324 157),(tf2 X G 125 "midlanes.papers" 324 124),(tf2 X G 163 "midlanes.papers" 324 162),(tf1 X G 21 "midlanes.wholes" 187 20),(tf1 X G 84 "midlanes.forms" 196 83),(tf2 X G 77 "midlanes.forms" 196 76),(tf3 X G 203 "midlanes.judge" 387 202),(tf3 X G 196 "midlanes.judge" 387 195),(tf3 X G 191 "midlanes.judge" 387 190),(tf2 X G 215 "midlanes.judge" 387 214),(tf1 X G 227 "midlanes.judge" 387 226),(tf1 X G 232 "midlanes.judge" 387 231),(tf3 X G 239 "midlanes.judge" 387 238),(tf3 X G 251 "midlanes.judge" 387 250),(tf1 X G 272 "midlanes.judge" 387 271),(tf2 X G 265 "midlanes.judge" 387 264),(tf1 X G 258 "midlanes.judge" 387 257),(tf3 X G 311 LN0 553 310),(tf2 X G 318 LN0 553 317),(tf1 X G 340 LN0 553 339),(tf2 X G 325 LN0 553 324),(tf2 X G 330 LN0 553 329),(tf2 X G 335 LN0 553 334),(tf2 X G 369 LN0 553 368),(tf4 X G 345 LN0 553 344),(tf3 X G 350 LN0 553 349),(tf4 X G 355 LN0 553 354),(tf6 X G 362 LN0 553 361),(tf5 X G 376 LN0 553 375),(tf2 X G 383 LN0 553 382),(tf6 X G 244 "midlanes.judge" 387 243),(tf2 X G 208 "midlanes.judge" 387 207),(tf4 X G 220 "midlanes.judge" 387 219),(tf4 X G 186 "midlanes.judge" 387 185),(tf2 X G 179 "midlanes.judge" 387 178),(tf2 X G 395 LN0 553 394),(tf3 X G 409 LN0 553 408),(tf2 X G 414 LN0 553 413),(tf3 X G 402 LN0 553 401),(tf1 X G 390 LN0 553 389)⟩;exact⟨_,fun s v=>.of_eq rfl,fun base _ _=>law_fg tq (T_law:=fj (lo 421 (oG "law" jA LN0 553 420)) (by kernel_rfl) (by kernel_rfl))⟩
end
end My
open PySem PySem.W PyProof.Rows
set_option maxHeartbeats 0 in
theorem PySem.Challenge.cw_midlanes_k35_rounds_and_sizes_holds : PySem.Challenge.rw_midlanes_k35_rounds_and_sizes.Holds := by
 refine holds_law My.SD fun said=>?_
 refine holds_open (XP:=XL My.QQ []) (YP:=My.HH.says) (L2.ZlI My.L0 My.L1) My.HH.of My.HH.keeps (fun s e=>xl_of s (Bool.and_eq_true_iff.mp e).1) XL.keeps (by rfl) (by rfl) (by rfl) (fun s e=>recFacts_of (Bool.and_eq_true_iff.mp e).2) (by rfl) said (by decide +kernel) ⟨rfl,rfl,rfl,rfl,rfl,by decide +kernel⟩ ?hw ?hc
 case hw=>w_witness2
 exact L2.Zo7 (l:=PySem.Challenge.rw_midlanes_k35_rounds_and_sizes) (n:=63) (k:=14) (x:="script") (CX:=fun _=>L2.CX0) (sp:=fun w=>L2.iN _) rfl (by decide) rfl ⟨rfl,by decide,by decide,rfl⟩ (fun w h Y=>PySem.W.kIn_of Y) (fun w mg fa h KX G hmg=>My.ZpX w KX G hmg) (fun _ _ a ns hl _ hS=>L2.ZmU hl hS) (fun _ _ _ _ _ z=>z)
