import PyProof.Rows.All
import Wide.All
import OpenK.AllK
import Wide.FinOn
import Lean
import PyProof.EqAt
import PyProof.EqKinds
import PyProof.TupleCall
import KE.KDictOf
import KE.KItemsList
import KE.KLam
import KE.KNest
import KE.KNestM
import KE.KRevIter
import KE.KSortKey
import KE.KSortTup
import KE.KTryMore
import KE.LcSums
import OpenK.KCls
import PyProof.AttrMissHeap
import PyProof.AutoSeq1
import PyProof.Draws
import PyProof.EnumMake
import PyProof.EnumStmt
import PyProof.FactsAll.list
import PyProof.InstStoreFacts
import PyProof.IsiH_list
import PyProof.ListNew
import PyProof.ListRange
import PyProof.ObjNew
import PyProof.Rows.SortRunsK
import PyProof.Rows.SortShell
import PyProof.Rows.SortStr
import PyProof.SliceList
import PyProof.WalksEnum
import PyProof.ZipIter
import PySem.Challenge.RW_tightwood_k66_names_refused
set_option compiler.extract_closed false
set_option Elab.async false
set_option linter.all false
set_option maxRecDepth 100000
set_option maxHeartbeats 4000000
open Option renaming some->en,none->p9
open Bool renaming true->NG,false->NH
open PySem.W renaming Frag->e7,nsIn->il,mg_of->i9,fnOf->jq,findIn->ju,keepIn->j7,mg_none_of->kx,codeIn->ln,emptyDict->l4,boot_heap->m9,isFn->oy,excIn->rg,looks_findIn->rm,kia_one->rn,SharedT->rq,plainGet->uy,methodCall_KW->vq,tabObj->wn,plainGet_of->xi,hideAll_get->xj,codeHd_of_K->xk,km_tabs_of->xx,methodObj->yh,hasDictIn->yi,takerIn->zh,OpenLaw->zi,of_hideAll->zx,boot_drawn->zy,TabsAt->z0,kla_obj->AF,boot_toks->AW,funFrames_hide->AZ,cellsFrom_some->BA,looks_mroIn->BJ,kla_codeExpr->CA,kla_callFunE->CG,hideAll_none->CH,km_in_of->DE,CodeHd->DM,specialIn->DP,plainOver->DQ,kitx_list->DR,kitx_dict->DS,handedIn->EE,makesIn->EO,kla_fn->FB,WalkO->FI,looks_clsIn->GJ,Looks->GM,Frag->GO,OpenLaw->MZ
open List renaming length_map->fb,getElem?_eq_getElem->fc,getElem?_map->fg,length_append->fq,range->ft,length_range->fv,replicate->gd,map_append->ge,getElem?_eq_some_iff->gg,size_toArray->gj,getElem?_range->gn,take_of_length_le->gp,length_take->gq,mem_cons_self->gt,getElem?_append_left->gv,mem_cons_of_mem->gw,getElem?_append_right->ig,length_singleton->ii,mem_of_getElem?->ip,getD_eq_getElem?_getD->iq,length_cons->iu,mem_cons->i5,take_add_one->i6,length_drop->jb,getElem?_eq_none->jc,mem_map->je,replicate_succ->jf,map_congr_left->jg,map_cons->jh,mem_append_right->ji,map_map->jk,length_replicate->jl,all_eq_true->jm,range_succ->jo,getElem?_take_of_lt->jt,flatten_cons->jx,append_assoc->jy,mem_singleton->j0,drop_of_length_le->kh,mem_range->ki,mem_append->kj,length_nil->kl,not_mem_nil->kq,forall_mem_cons->lf,toList_toArray->lj,filterMap_cons->ll,append_nil->lu,filter_append->lw,getD->l8,pairwise_iff_getElem->me,getElem?_zip_eq_some->mf,getElem?_drop->mi,lookup->m3,drop_eq_getElem_cons->ng,range_succ_eq_map->n9,getElem?_take->og,length_filter_le->oq,map_take->pi,of_mem_zip->pz,foldl_cons->qa,count_cons->qb,mem_filterMap->qc,getElem?_replicate->qi,ext_getElem?->qv,lookup_cons->rl,map_drop->sk,all_cons->sq,mem_append_left->tj,nodup_cons->tu,mem_filter->tx,mem_map_of_mem->ud,length_pos_iff->ue,getElem?_concat_length->ug,take->ul,drop->um,count_append->va,any_cons->ve,cons_append->vm,getElem?_set_self->v9,length_zip->wt,length_set->wu,find?_cons->wv,getElem?_toArray->xf,not_lt->xl,mem_of_mem_take->xm,mem_of_mem_drop->xn,getElem?_set_ne->xo,getElem?_of_mem->xp,drop_zero->xq,flatten_append->yc,sum_cons->yj,sum_singleton->yr,map_singleton->yt,reverse_cons->zb,map->zc,getElem_mem->zo,getElem_map->zp,countP_cons->zq,sum_append->AA,forIn_cons->AB,all_append->AC,take_take->AT,drop_one->BS,map_nil->CT,head?_eq_getElem?->CU,filter_eq_nil_iff->CV,length->DW,dropLast_concat->DX,reverse_append->EH,length_reverse->EI,getElem_range->ES,foldl->ET,mem_reverse->FO,map_reverse->FP,foldlM_cons->FQ,filter_cons->FR,any_eq_true->FS,forIn_nil->GZ,take_add->HN,all_nil->IE
open PySem renaming Addr->fe,Value->fu,wpAny_pure->fw,Shared->gb,Program->gm,World->iz,Stmt->i7,Heap->i8,Expr->ja,Around->jd,FuncData->jv,wpAny_mono->km,mem_of_lookup->ko,codeAny_builtin->ly,wpAny_truthy_bool->md,wpAny_call->nh,builtinLookup_eq_fast->nq,Scope->nr,Arguments->nu,wpAny_loadPart_at->nw,lookup_relabel_local->ny,plainId_quiet->n4,IsPair->ol,codeAny_mono->ot,Builtin->ow,wpAny_newObj_type->o6,wpAny_field->pe,codeAny_call_builtin->pf,NameKind->ph,wpAny_typeOf->pj,Spec->pq,wpAny_standAt->ql,wpAny_execs_nil->qo,typeLookup_type->qp,wpAny_callSpecial?_slot->rf,call_meets->uc,wpAny_attempt->uf,wpAny_updateSeq->uu,wpAny_seqItems->vf,wpAny_pyIter_enum->vy,wpAny_getItem_list_slice->wf,strLen_append->wg,evalPart_none->wj,Result->wm,wpAny_pyIter_zip->xg,wpAny_call_entry->xh,wpAny_rule->xw,Model->yb,CmpOp->ye,wpAny_newFunctionEnv->yv,wpAny_loadPart->yw,wpAny_loadName_local->yx,wpAny_ite_true->yy,ZipApart->y0,IsPart->y4,wpAny_isSubtype_exc->zf,wpAny_dictSet_pairs->zg,Value->zn,wpAny_Name->zw,wpAny_pyIter_list->AE,stored_length_le->AV,frameOf->AY,Params->BF,Paired->BG,wpAny_of_eq->BH,wpAny_Slice->BI,Fin->BP,IsRangeIter->BU,Within->BZ,BindsTo->CZ,wpAny_tryCatch->DC,typeIs_str->DD,callType_codes->DF,wpAny_comprehension_free->EB,call->ED,wpAny_getItem_str_slice->EM,wpAny_pyNext_range_end->EV,wpAny_pyNext_list_item->EW,wpAny_pyIter_rangeiter->EX,wpAny_nextOf_list_item->EY,seqIndex_neg->FA,call_meetsIn->FC,Str->FE,wpAny_pyNext_zip_item->FF,wpAny_pyNext_list_end->FG,wpAny_notOrdered_dict->FH,wpAny_raiseAttrError->GC,wpAny_pyNext_zip_end->GE,wpAny_pyIter_revIter->GF,sizeLine_eq->GG,seqIndex_of->GH,numAt_eq->GI,Operator->GL,GenState->GN,wpAny_loadName_free->GR,wpAny_loadName_cell->GS,list_getitem_lookup->GT,Program->GW,wpAny_pyIter_range->HC,typeIs_int->HE,sub_AttributeError->HF,call_zip_2->HG,rawInt->HJ,PlainAttrs->HK,wpAny_sequenceKey->HR,World->HY,Keyword->IF,IsZip->IG,wpAny_lookBehind->IL,wpAny_getItem_of->IM,pastItsLine_dict->IN,kt_code_dict_new->IP,wpAny_specialOf->JN,wpAny_newTuple->LC,sliceRange_one->LG,refuseLoop_ref->LI,pick_run->LJ,DefRec->LO,wpAny_newList->LU,rangeSize_one->LW,nums_intItems->LX,intBits_le_64->LZ,call_list_seq->MA,wpAny_nsSet1->MS,wpAny_mkText->MT,call_range_3->MV,call_range_1->MW,OwnTail->MY
open PySem.Str renaming ofString->fh,ofString->mq,empty->vp,length->wl
open PySem.Heap renaming get?_push_of_some->fj,lt_size->gi,get?_push_size->gu,get?_update_other->jr,get?_update_self->ku,size_update->o7,size_push->qw,get?_none_of_le->tm,MadeExcOf->ut,SameBut->wa,FlyingW->wb,HeldW->KU
open Option.some renaming inj->fk
open Nat renaming le_refl->fm,lt_of_lt_of_le->gh,le_of_lt->gy,zero_le->ij,ne_of_lt->io,le_trans->iy,lt_of_le_of_ne->j5,ne_of_gt->j8,min_eq_left->j9,le_add_right->ml,zero_add->mz,lt_irrefl->m5,sub_self->o8,lt_succ_self->o9,lt_of_le_of_lt->qd,eq_zero_or_pos->qg,add_sub_cancel->qh,le_succ->qj,le_of_eq->q0,div_div_eq_div_mul->ra,not_lt->rz,mod_lt->sf,min_eq_right->sh,and_two_pow_sub_one_eq_mod->sj,add_assoc->td,sub_zero->uj,add_comm->uk,mod_mul_right_div_self->uw,min_le_right->vt,div_eq_of_lt->vv,add_sub_cancel_left->vw,pow_succ->wo,mul_comm->wq,not_lt_zero->xc,eq_of_testBit_eq->xy,mod_mod_of_dvd->y3,min_self->zk,le_succ_of_le->zl,succ_le_succ->z7,testBit_two_pow_sub_one->AS,lt_trans->DH,lt_or_ge->DI,add_zero->DJ,le_of_ble_eq_true->DV,succ->EF,pow_le_pow_right->EG,mul_le_mul_left->ER,lt_trichotomy->FK,lt_succ_of_lt->FL,ble->FM,add_div_right->FN,mod_add_div->GX,min_le_left->GY,mul_assoc->IC,xor_zero->JD,succ_pos->JE,mul_succ->JF,div_one->KR,sub_le->LM
open PySem.F renaming plainAttrs_list->gl,type_list_append->gz,slot_list_append->ic,plainAttrs_str->lg,plain_extend_loop->l9,type_str_join->oi,slot_str_join->oj,type_list_pop->qq,slot_zip_next->qt,slot_list_pop->qu,slot_list_getattribute->qz,slot_zip_getattribute->rk,entry_extend_loop->ui,plainAttrs_dict->uz,type_str_count->vg,slot_str_count->vh,slot_dict_setdefault->zj,kt_typeCall_dict_1->z4,excBase_ValueError->z5,excAttr_ValueError->z6,slot_dict_getitem->z8,slot_str_getitem->AH,slot_dict_update->AI,args_dict_init_2->AJ,type_list_index->AN,slot_list_index->AO,entry_dict_init->AQ,args_zip_next_1->AR,kt_called_dict->BB,entry_zip_next->BE,slot_dict_get->BQ
open Int renaming toNat_natCast->gr,natCast_nonneg->lh,emod_lt_of_pos->lx,eq_ofNat_of_zero_le->lz,emod_nonneg->mw,natCast_ediv->su,toNat_of_nonneg->uh,zero_add->uo,fdiv_eq_ediv_of_nonneg->ux,le_trans->ww,toNat->yd,natCast_mul->AK,le_refl->EJ,natCast_add->HA,lt_irrefl->IH,add_assoc->II,le_of_lt->JI,ediv_one->JJ,not_lt->LN
open Array renaming length_toList->ie,getElem?_eq_getElem->jw,getElem?_toList->j6,getElem?_eq_none->l6,toList_append->ub,forIn_toList->uq,append_empty->ur,size_push->we,append_assoc->yo,mk->DN,getElem?_push->EA,size_zip->GQ,toList->HQ
open Bool renaming false_ne_true->ik,and_eq_true->ka,false_eq_true->oh,eq_false_iff->vb,eq_iff_iff->w9,false_and->xr,and_eq_true_iff->xu,true_and->yn,toNat_false->zu,toNat_true->AD,toNat_le->BV,or_false->BW,noConfusion->GB,or_eq_true->GP,not_false->HB,and_true->HP,or_true->IK
open PySem.PassesOwn renaming never->im,leaving->CQ
open PyProof.Rows renaming callWith_type1->ir,slot_tuple_getitem->kt,StrsAre->rp,IntsAre->sr,AllBare->vc,sortedS->vd,tail_any->yz,listUpdate_at->zm,get?_update_seq->BY,Constant_none->EK,subscriptTail_builtinR->EZ,args_tuple_getitem->HH,SortedToK->IQ,count_cnt->KN,cnt_cons->KO,cnt->KP,callWith_builtin1->KQ,slicePart_none->LH,joinParts_cons->LK,tupleItemsOf_->LV,joinParts_nil->LY,listItems_at->MU
open PySem.Value renaming ref->iw,type->kr,none->mr,int->nz,str->rj,bool->AG,builtin->AX,float->DG,isStrOf->GU,isInt->HV,bytes->HW
open PySem.Challenge renaming pw_tightwood_k66_names_refused->i4,rw_tightwood_k66_names_refused->my
open Option renaming map_eq_some_iff->jj,isSome_iff_exists->jz,getD_some->rh,map_some->sy,map_map->xa,toList_some->DT,isSome_some->DU,getD_none->EQ,none->HL,map->HZ
open PySem.Obj renaming mapSeq->jn,mapFields->IA
open PySem.Around renaming under_plainId->ke,under->BX,frames_deeper->DA
open False renaming elim->ky
open PySem.Builtin.Range renaming rangeSize->lq,small->qy,rangeFitsLong->yf
open PySem.Builtin.Str renaming strSliceIndices->lr,occurrences->mj,tooLong->LS
open PySem.Calls renaming spliced_cons->lv,spliced_nil->nj,evalArgs_plain->sv,callWith_builtin->vx,Name_function_global->AL,Constant_str->EL
open PySem.Builtin renaming bitAnd->l5,bitNot->m4,bitXor->wx,bitOr->FU
open PySem.Builtin.SmallTypes renaming ownedTupleIsFree->mh,nextOf->qx
open True renaming intro->m8
open Ne renaming symm->n5
open PySem.Builtin.List renaming listExtendWith->n6,listTooLong->t9,listSameRef->zd,listItems->zt,listUpdate->KW,listTouch->KY,listLengthHint->KZ,listFitsIndex->LA
open PySem.NameKind renaming free->n8,cell->z9
open PySem.Builtin.Slice renaming slicePlaces->om,sliceAdjust->sw,sliceApplied->ym,slicePartIndex->JL,sliceFields->JM
open PySem.Builtin.Tuple renaming tupleExact->ou,tupleItemsOf->yl
open PySem.Builtin.Dict renaming updateFrom->oz,pairItems->pb,addKeywords->ua,selfAndRest->ze
open PySem.Heap.SameBut renaming update->rb,refl->KT
open PySem.Txt renaming join->uv
open PyProof renaming noPylong_small->vi
open PySem.Builtin.ObjectAttr renaming ownThenClass->vj,storeInDict->vo,storeInOwnDict->FV,ownDict->FW,newKeyGuard->FX,inOwnDict->FY,find->FZ,dataDescriptor?->GA
open PySem.Heap.IsSliceOf renaming new->vn
open PySem.SeqAt.RcNeAt renaming lists->vz,lists_lengths->yp,tuples->JP
open PySem.EntryCells renaming newEntry->wc
open Sum renaming inl->wk,inr->x0
open PySem.Expr renaming Call->xz
open Nat.succ renaming inj->ya
open PySem.SeqAt renaming EqAt->yg
open PySem.Heap.DictOf renaming new->yk
open PySem.SeqAt.EqAt renaming same->yq,str_int->BK,of_refs->BL,int_str->BM,str_str->ME,str_none->MF,str_bool->MG,none_str->MH,none_int->MI,none_bool->MJ,int_none->MK,int_int->ML,int_bool->MM,bool_str->MN,bool_none->MO,bool_int->MP,bool_bool->MQ
open PySem.Code renaming quiet_builtin->yu,isFrame->CW,frames->JK
open Sum.inr renaming inj->y6
open Prod renaming ext->y8
open Or renaming inl->y9,inr->BR
open Classical renaming byContradiction->zr,choose_spec->AU,epsilon_spec->ND,epsilon->NE
open PySem.Value.ref renaming inj->zz
open PySem.W.Hook renaming val->BN,obs->BO,says->JS,of->JT,keeps->JU
open PySem.Manifest renaming signature?->CI
open PySem.IsRange renaming new->CJ
open PySem.SeqAt.RcAt renaming lists->CL,tuples->MB,lists_lengths->MC
open PySem.BindsTo renaming of_defaults->CY
open And renaming intro->DB
open PySem.W.Looks renaming ld->DK,ld->IR,here->IS
open PySem.Heap.Ns1 renaming of_empty->DL
open Array.Perm renaming refl->DO
open ForInStep renaming yield->DY
open PySem.Data renaming fields->DZ,dict->FT,cell->LQ
open PySem.WalksT renaming enumerateD->EC,enumerate->EN,zip2->HI
open List.cons renaming inj->EU
open Prod.mk renaming injEq->FJ
open PySem.Paired renaming length->GK
open Sum.inl renaming inj->GV
open Nat.le renaming dest->HM
open PySem.Walks renaming range->HS
open PySem.W.WShape renaming has->HU
open PyProof.Rows.SortSt renaming mk'->HX
open PySem.Meets renaming of_wp->ID
open PySem.CmpOp renaming NotIn->IJ,In->LR
open PySem.StrLaws renaming found_one->IT
open PySem.EqMixed renaming ne_str_int->IU,ne_str_bool->IV,ne_int_str->IW,ne_bool_str->IX,eq_str_int->IZ,eq_str_bool->JA,eq_int_str->JB,eq_bool_str->JC
open List.Pairwise renaming nil->JG,filter->JH
open PySem.W.WData renaming int->JO
open PySem.Sem renaming wp_mono->JQ,wp->LL
open PySem.Within renaming cons->JR
open PySem.EqNone renaming ne_str_none->JV,ne_none_str->JW,ne_none_none->JX,ne_none_int->JY,ne_none_bool->JZ,ne_int_none->KA,ne_bool_none->KB,eq_str_none->KC,eq_none_str->KD,eq_none_none->KG,eq_none_int->KH,eq_none_bool->KI,eq_int_none->KJ,eq_bool_none->KM
open PyProof.Rows.IsTup renaming new->KS
open PySem.W.KF renaming slot_gs->MR
open PySem.IsL renaming update->MX
open List.Perm renaming cons_inv->NA
open PySem.DictEntry renaming refKey->NB
open Decidable renaming em->NC
open PySem.AutoListH renaming list___mul___list_int_3->NF
open PySem.W (instObj hideAll of_hideAll lookIn kitOne kia_one callWith_K exmOne CodeHd kla_obj kla_fn km_in_of mg_none_of)
abbrev Za0:=zn->PySem.Shared->Prop
abbrev Za1:=List (PySem.Addr×PySem.Obj)
abbrev Za2:=FE->Option zn
abbrev Za3:=List zn
abbrev Za4:=List Nat
abbrev Za5:=List Bool
abbrev Za6:=List FE
abbrev Za7:=Option zn
theorem QC(h:True:=by rfl):True:=h
def QD:Lean.Syntax:=QC._auto_1
theorem QE(h:True:=by decide):True:=h
def QF:Lean.Syntax:=QE._auto_1
theorem QG(h:True:=by first|exact .inl rfl|exact .inr rfl|assumption):True:=h
def QH:Lean.Syntax:=QG._auto_1
theorem QI(h:True:=by intro _;rfl):True:=h
def QJ:Lean.Syntax:=QI._auto_1
theorem QK(h:True:=by (repeat intro _);rfl):True:=h
def QL:Lean.Syntax:=QK._auto_1
theorem Qa_(h:True:=by intro ps e;cases e):True:=h
def Qb_:Lean.Syntax:=Qa_._auto_1
theorem Qc_(h:True:=by intro a b e;cases e):True:=h
def Qd_:Lean.Syntax:=Qc_._auto_1
def OG:Lean.MacroM Unit:=do match (<-Lean.getRef).getHeadInfo with|.original ..=>pure .unit|_=>Lean.Macro.throwUnsupported
open Lean Parser in
def WN(s:String)(a:Array Syntax):Array (TSyntax ``Tactic.tacticSeq):=(s.splitOn " ").toArray.map λx=>⟨mkNode ``Tactic.tacticSeq #[mkNode ``Tactic.tacticSeq1Indented #[mkNullNode #[mkNode ``Tactic.refine #[mkAtom "refine",mkNode ``Term.app #[mkIdent (.mkSimple x),mkNullNode (a.push (mkNode ``Term.syntheticHole #[mkAtom "?",mkNode ``Term.hole #[mkAtom "_"]]))]]]]]⟩
open Lean in
local macro_rules(kind:=Lean.Parser.Command.declaration)|s=>do
 match s.getHeadInfo with|.original ..=>pure .unit|_=>Macro.throwUnsupported
 let s:=s.setHeadInfo .none
 if s[0][4].isNone&&s[1][1][0].getId != `Gc&&(s[1].isOfKind ``Parser.Command.definition||s[1].isOfKind ``Parser.Command.abbrev) then return s.setArg 0 (s[0].setArg 4 (mkNullNode #[mkNode ``Parser.Command.noncomputable #[mkAtom "noncomputable"]]))
 return s
section
namespace HD
open PySem PySem.W PySem.Calls PyProof.Rows
def Jd (tb:String->Option ow)(p:gm)(w:iz)(m:Nat)(ann:Za7):Nat->rq->Thread->Option rq
 |0,_,_=>none
 |n+1,s,t=>match through t with
  |true=>some s
  |false=>match stepOk m ann t with
   |false=>none
   |true=>match stepT (denote tb) p w s t with
    |some (s',t')=>Jd tb p w m ann n s' t'
    |none=>none
theorem Zc {tb:String->Option ow}{p:gm}{w:iz}{m:Nat}{ann:Za7}:∀{n:Nat} {s s':rq} {t:Thread},Jd tb p w m ann n s t=some s'->topRun tb p w m ann n s.abs t=some s'.abs
 |0,_,_,_,h=>by cases h
 |n+1,s,s',t,h=>by
  unfold Jd at h;unfold topRun
  cases he:through t with
  |true=>rw[he] at h;cases h;rfl
  |false=>
   rw[he] at h
   cases hk:stepOk m ann t with
   |false=>rw[hk] at h;cases h
   |true=>
    rw[hk] at h
    cases hs:stepT (denote tb) p w s t with
    |none=>rw[hs] at h;cases h
    |some r=>obtain⟨QT,t₂⟩:=r;rw[hs] at h;rw[stepT_spec hs];exact Zc h
def Acp:List Obj->Nat->BT->BT
 |[],_,t=>t
 |o::l,n,t=>Acp l (n+1) (t.ins n o)
noncomputable def Uu (P:BF):BT:=Acp (m9 P).objs.toList 0 .nil
def bootSize:Nat:=11
noncomputable def bootT (w:iz) (os:OsState):rq:=⟨Uu w.params,bootSize,(m9 w.params).life,#[],zy,AW,os⟩
def oX {α:Type}(Yf:gb->α)(h0:i8)(p q:gm)(loose:Za6)(s:gb):=
 (staticsOk (importedModules p.main.body) h0 s.heap&&namesBound p s.heap&&gensDone s&&laidKept h0 s.heap,
  openSeen q loose (importedModules p.main.body) (λ_=>true) true s,Yf s)
def bothT {α:Type}(Yf:gb->α)(s0:rq)(h0:i8)(m:Nat)(p q:gm)(loose:Za6)(M:Nat)(w:iz):=
 (Jd treeTable p w m (some (.ref 6)) M s0 (topStub p)).map λs=>oX Yf h0 p q loose s.abs
theorem Act (P:BF):absHeap (Uu P) bootSize (m9 P).life=m9 P:=by kernel_rfl
theorem uX (P:BF):((m9 P).isNs mainGlobals&&(#[]:Array GN).size==0,(m9 P).objs.size,(m9 P).nsMap mainGlobals "__annotations__")=(true,bootSize,some (.ref 6)):=by kernel_rfl
theorem Aer {p q:gm}{loose:Za6}{α:Type}{Yf:gb->α}{Ya:iz->α}{M N:Nat}(e:opening p=plainProg p.main.scope.names)(f:∀s,fenceModules? p s=some s)(hN:FM 600 N=true)(le:FM M N=true)
  (Yk:∀w:iz,(λos=>bothT Yf (bootT w os) (m9 w.params) bootSize p q loose M w)=λ_=>some (true,openGood q loose,Ya w)) :
  LeftO p q loose (λ_=>true) Yf Ya N:=λw=>by
 obtain⟨⟨h,gs,d,k,os⟩,e1,e'⟩:=jj.mp (boot_open e hN f w);obtain⟨rfl,rfl,rfl,rfl⟩:h=m9 w.params/\gs=DN []/\d=zy/\k=AW:=by simpa using e'
 have b:=congrFun (Yk w) os;unfold bothT at b;obtain⟨s,r,l⟩:=jj.mp b;have r2:=Zc r;have r3:=topRun_mono (N-M) _ _ _ _ r2;rw[show M+(N-M)=N by have:=DV le;lia] at r3;have eb:(bootT w os).abs=⟨m9 w.params,DN [],zy,AW,os⟩:=by
  show Shared.mk (absHeap (Uu w.params) bootSize (m9 w.params).life) (DN []) zy AW os=_;rw[Act]
 rw[eb] at r3;obtain⟨z1,z2,z3⟩:_/\_/\_:=by simpa only[FJ] using uX w.params
 obtain⟨l1,l2,l3⟩:_/\_/\_:=by simpa only[oX,FJ] using l
 have t:topFrom treeTable p w N ⟨m9 w.params,DN [],zy,AW,os⟩=some s.abs:=by
  unfold topFrom;dsimp only;rw[z1,z2,z3,r3];show(match staticsOk (importedModules p.main.body) (m9 w.params) s.abs.heap&&namesBound p s.abs.heap&&gensDone s.abs&&laidKept (m9 w.params) s.abs.heap with|true=>_|false=>_)=_;rw[l1]
 unfold openEnds;rw[e1];show(topFrom treeTable p w N _).map _=_;rw[t];exact congrArg some (y8 l2 l3)
def recOf:i7->LO
 |.FunctionDef n a b _ _ _ sc _ _ pos=>⟨n,a,b,sc,pos⟩
 |_=>⟨"",default,[],default,default⟩
end HD
lay_quick HD.bothT
end
section
namespace HD
open PySem PySem.W PySem.Calls PyProof.Rows
def oneA (s0:rq)(h0:i8)(m:Nat)(p:gm)(M:Nat)(w:iz):=
 (Jd treeTable p w m (some (.ref 6)) M s0 (topStub p)).map λs=>staticsOk (importedModules p.main.body) h0 s.abs.heap&&namesBound p s.abs.heap&&gensDone s.abs&&laidKept h0 s.abs.heap
def oneB (s0:rq)(m:Nat)(p q:gm)(loose:Za6)(M:Nat)(w:iz):=
 (Jd treeTable p w m (some (.ref 6)) M s0 (topStub p)).map λs=>openSeen q loose (importedModules p.main.body) (λ_=>true) true s.abs
def zL {α:Type}(Yf:gb->α)(s0:rq)(m:Nat)(p:gm)(M:Nat)(w:iz):=
 (Jd treeTable p w m (some (.ref 6)) M s0 (topStub p)).map λs=>Yf s.abs
theorem Ajk {α:Type}{Yf:gb->α}{s0:rq}{h0:i8}{m:Nat}{p q:gm}{loose:Za6}{M:Nat}{w:iz}{a:α}
  (hA:oneA s0 h0 m p M w=some true)(hB:oneB s0 m p q loose M w=some (openGood q loose))(hC:zL Yf s0 m p M w=some a) :
  bothT Yf s0 h0 m p q loose M w=some (true,openGood q loose,a):=by
 unfold oneA at hA;unfold oneB at hB;unfold zL at hC;unfold bothT oX;obtain⟨s,r,l⟩:=jj.mp hA;rw[r] at hB hC ⊢;have hB:=fk hB;have hC:=fk hC;exact congrArg some (y8 l (y8 hB hC))
theorem left_of3 {p q:gm}{loose:Za6}{α:Type}{Yf:gb->α}{Ya:iz->α}{M N:Nat}(e:opening p=plainProg p.main.scope.names)(f:∀s,fenceModules? p s=some s)(hN:FM 600 N=true)(le:FM M N=true)
  (hA:∀w:iz,(λos=>oneA (bootT w os) (m9 w.params) bootSize p M w)=λ_=>some true)(hB:∀w:iz,(λos=>oneB (bootT w os) bootSize p q loose M w)=λ_=>some (openGood q loose))
  (hC:∀w:iz,(λos=>zL Yf (bootT w os) bootSize p M w)=λ_=>some (Ya w)):LeftO p q loose (λ_=>true) Yf Ya N:=
 Aer e f hN le λw=>funext λos=>Ajk (congrFun (hA w) os) (congrFun (hB w) os) (congrFun (hC w) os)
def lC (s:rq)(a:Nat):Option Obj:=match Nat.blt a s.n with
 |true=>(match s.tree.get a with
  |some o=>alive o
  |none=>none)
 |false=>none
theorem Abp {s:rq}{a:Nat}{o:Obj}(h:lC s a=some o):s.abs.heap.get? a=some o:=by
 unfold lC at h
 cases hb:Nat.blt a s.n with
 |false=>rw[hb] at h;cases h
 |true=>
  rw[hb] at h
  cases hg:s.tree.get a with
  |none=>rw[hg] at h;cases h
  |some u=>
   rw[hg] at h;have hlt:a<s.n:=by
    have:=DV hb;lia
   exact(abs_get hlt hg).trans h
theorem Uh {s:rq}:∀{as:Za4} {L:List (Option Obj)},(∀x∈L,x.isSome=true)->as.map (lC s)=L->as.map s.abs.heap.get?=L
 |[],L,_,e=>e
 |a::as,[],_,e=>by cases e
 |a::as,x::L,h,e=>by
  obtain⟨e1,e2⟩:=EU e;obtain⟨o,ho⟩:=jz.mp (h x gt);subst ho;show s.abs.heap.get? a::as.map s.abs.heap.get?=_;rw[Abp e1,Uh (λy hy=>h y (gw _ hy)) e2]
def oneP (as ts:List fe)(s0:rq)(m:Nat)(p:gm)(M:Nat)(w:iz):=
 (Jd treeTable p w m (some (.ref 6)) M s0 (topStub p)).map λs=>(as.map (lC s),ts.map (lC s))
theorem hC_km {K:BF->GO}{as:List fe}{e:∀P,as=(K P).map (·.1)}{ts:List fe}{p:gm}{M:Nat}
  (h:∀w:iz,(λos=>oneP as ts (bootT w os) bootSize p M w)=λ_=>some ((K w.params).map λq=>some q.2,ts.map λ_=>some (tabObj #[]))) :
  ∀w:iz,(λos=>zL (kmHook K as e ts).obs (bootT w os) bootSize p M w)=λ_=>some ((kmHook K as e ts).val w):=λw=>funext λos=>by
 have h:=congrFun (h w) os;unfold oneP at h;unfold zL;obtain⟨s,r,l⟩:=jj.mp h;obtain⟨l1,l2⟩:=Prod.mk.inj l;rw[r];show some (as.map s.abs.heap.get?,ts.map s.abs.heap.get?)=some ((K w.params).map λq=>some q.2,ts.map λ_=>some (tabObj #[]));rw[Uh (λx hx=>by obtain⟨q,_,rfl⟩:=je.mp hx;rfl) l1,Uh (λx hx=>by obtain⟨q,_,rfl⟩:=je.mp hx;rfl) l2]
end HD
lay_quick HD.oneP
theorem HD.oneP_eq:@HD.oneP=@PySem.W.Fast.tw13831889492591282369:=PySem.W.Fast.te13831889492591282369
lay_quick HD.oneA
lay_quick HD.oneB
theorem HD.oneA_eq:@HD.oneA=@PySem.W.Fast.tw6247638121477898359:=PySem.W.Fast.te6247638121477898359
theorem HD.oneB_eq:@HD.oneB=@PySem.W.Fast.tw4394042064226896843:=PySem.W.Fast.te4394042064226896843
end
section
noncomputable def PySem.W.Fast.tw10929929008503062353:GW:=i4
theorem PySem.W.Fast.te10929929008503062353:i4=PySem.W.Fast.tw10929929008503062353:=rfl
noncomputable def HD.loose:List FE:=[fh "_wall",fh "WoodError",fh "NoBits",fh "NoPlace",fh "NoRow",fh "NoWood",fh "NoKnot",fh "NoOrder",fh "NoName",fh "NoFit",fh "is_whole",fh "is_within",fh "check_bit",fh "check_place",fh "check_stretch",fh "check_from_nought",fh "check_knot",fh "WORD_BITS",fh "FULL_WORD",fh "ONES_OF_FOUR",fh "ones_in",fh "nth_of_four",fh "nth_one",fh "MOST_BITS",fh "SIGNS_OF_FOUR",fh "is_row",fh "word_of",fh "words_of",fh "signs_of",fh "Bits",fh "BLOCK_WORDS",fh "BLOCK_BITS",fh "first_that",fh "running_sums",fh "table_of_words",fh "Counts",fh "begins_of",fh "check_order",fh "rounds_of",fh "shortcuts_of",fh "Shortcuts",fh "LETTERS",fh "MOST_LETTERS",fh "is_name",fh "check_name",fh "check_names",fh "stretches_of",fh "namesakes_above",fh "Named",fh "heights_of",fh "check_height",fh "Heights",fh "MOST_SIGNS_pairs",fh "STRETCH_BITS",fh "check_row",fh "Pairs",fh "MOST_KNOTS",fh "MOST_SIGNS_woods",fh "look_at",fh "row_of",fh "elders_of",fh "depths_of",fh "Wood",fh "Openings",fh "Opened",fh "_law_cell_at",fh "_law_whole",fh "_law_mixed",fh "_law_digits",fh "_law_wood",fh "_law_names",fh "_law_kind",fh "_law_made",fh "_law_put",fh "_law_is_name",fh "_law_due",fh "_law_asked",fh "_law_asked_due"]
def HD.LD:PySem.DefRec:=HD.recOf (i4.main.body.getD 91 (.Pass ⟨0,0,0,0⟩))
def HD.VQ:GW:=PySem.W.view i4 [91]
theorem HD.A_ok (w:HY):(λos=>HD.oneA (HD.bootT w os) (PySem.W.boot_heap w.params) HD.bootSize i4 100000 w)=(λ_=>some true):=by rw[HD.oneA_eq];kernel_rfl
theorem HD.B_ok (w:HY):(λos=>HD.oneB (HD.bootT w os) HD.bootSize i4 HD.VQ HD.loose 100000 w)=(λ_=>some (PySem.W.openGood HD.VQ HD.loose)):=by rw[HD.oneB_eq];kernel_rfl
end
local macro_rules|`(tactic|lia)=>`(tactic|first|lia (splits := 9)|omega)
local macro_rules|`(())=>do OG;`(by lia)
local macro_rules|`($x.$i:fieldIdx)=>do
 let n:=i.raw.isFieldIdx?.getD 0
 if n<5 then Lean.Macro.throwUnsupported
 `(($x).$(Lean.mkIdent (.mkSimple ("heap toArray toList size length".splitOn " ")[n-5]!)))
open Lean in
local macro_rules (kind:=«term{_}»)|s=>do OG;return mkNode ``Parser.Term.anonymousCtor #[mkAtom "⟨",s[1],mkAtom "⟩"]
section
set_option hygiene false in
local macro_rules | `(tactic| k_in)=>`(tactic| intro pins s σ H Q I h)
set_option hygiene false in
local macro_rules | `(tactic| k_end)=>`(tactic| intro pins s σ H D I h)
local macro_rules | `(tactic| k_cls)=>`(tactic| (constructor<;>first | rfl | decide +kernel))
namespace _L
theorem cpZ{G:Prop}(h:∀X:Prop,(G->X)->X):G:=h G id
theorem fA_{α:Type}{p:α->Prop}{a:α}{l:List α}(h:p a)(k:∀x∈l,p x):∀x∈a::l,p x:=List.forall_mem_cons.mpr ⟨h,k⟩
theorem fN_{α:Type}{p:α->Prop}:∀x∈([]:List α),p x:=List.forall_mem_nil p
open PySem PySem.Spec PyProof.Rows
variable {C CB CC CO CP Pt dx i1 i2 it l1 l2:fe} {params:nu} {A:jd} {CX:CXT} {op:ye} {X:Cx} {env:Env} {tg:ja} {fd:jv} {base h' h1:i8} {H H' H0 H1 H2:Hp} {J:It} {pins:Za1} {fp:List fe} {outer:List Env} {ks ws:List Int} {cs ix ns:Za4} {N QR S kz ps:Za6} {xs:List V} {us vs:Za3} {M:yb} {t':Nat} {oT:Obj} {an od:Option fe} {cpos lpos pos pos2:Pos} {sc scope QQ:nr} {pl:Sem Bool} {s:gb} {sp:Sp} {fr:St} {qual z:Str} {te:TE} {wi:TI} {y:V} {cdv ct doc oc pm:fu} {w:iz}
abbrev Key:=Sum Int Str
def Y2:Key->fu->Bool
 |.inl k,v=>HV k v
 |.inr x,v=>GU x v
def Ako (w:iz):Key->Int
 |.inl k=>hashInt k
 |.inr x=>hashStr w x
theorem Ct:∀{k:Key} {v:fu},Y2 k v=NG->(∃i t,k=wk i/\v=nz i t)\/(∃x t,k=x0 x/\v=rj x t)
 |.inl i,v,h=>by
  obtain⟨t,e⟩:=Value.isInt_shape (k:=i) (v:=v) h;exact .inl ⟨i,t,rfl,e⟩
 |.inr x,v,h=>by
  obtain⟨t,e⟩:=Value.isStrOf_shape (x:=x) (v:=v) h;exact .inr ⟨x,t,rfl,e⟩
theorem uY (i:Int)(t:Tok):Y2 (.inl i) (.int i t)=NG:=by simp[Y2,HV]
theorem vD (x:Str)(t:Tok):Y2 (.inr x) (.str x t)=NG:=by simp[Y2,GU]
theorem Agl (a b:Int):decide ((wk a:Key)=wk b)=(a==b):=by
 by_cases e:a=b
 .subst e;simp
 .have h:¬(wk a:Key)=wk b:=λq=>e (GV q)
  rw[decide_eq_false h];exact(beq_eq_false_iff_ne.mpr e).symm
theorem Ag6 (a b:Str):decide ((x0 a:Key)=x0 b)=decide (a=b):=by
 by_cases e:a=b
 .subst e;simp
 .have h:¬(x0 a:Key)=x0 b:=λq=>e (y6 q)
  rw[decide_eq_false h,decide_eq_false e]
theorem Ahf (a:Int)(b:Str):decide ((wk a:Key)=x0 b)=NH:=decide_eq_false (λq=>nomatch q)
theorem Agj (a:Str)(b:Int):decide ((x0 a:Key)=wk b)=NH:=decide_eq_false (λq=>nomatch q)
def Bj (prog:gm)(w:iz):PySem.KeyKind prog w Key where
 is:=Y2
 hash:=Ako w
 inj:=λv a b ha hb=>by
  rcases Ct ha with⟨i,t,rfl,rfl⟩|⟨x,t,rfl,rfl⟩
  .rcases Ct hb with⟨j,u,rfl,e⟩|⟨y,u,rfl,e⟩
   .injection e with e1 _;rw[e1]
   .exact nomatch e
  .rcases Ct hb with⟨j,u,rfl,e⟩|⟨y,u,rfl,e⟩
   .exact nomatch e
   .injection e with e1 _;rw[e1]
 byValue:=λk v h=>by
  rcases Ct h with⟨i,t,rfl,rfl⟩|⟨x,t,rfl,rfl⟩<;>rfl
 pyHash:=λhv h=>by
  rcases Ct hv with⟨i,t,rfl,rfl⟩|⟨x,t,rfl,rfl⟩
  .exact wpAny_pyHash_int h
  .exact wpAny_pyHash_str h
 eqBool:=λhu hv h=>by
  rcases Ct hu with⟨i,t,rfl,rfl⟩|⟨x,t,rfl,rfl⟩
  .rcases Ct hv with⟨j,u,rfl,rfl⟩|⟨y,u,rfl,rfl⟩
   .rw[Agl] at h;exact wpAny_eqBool_int h
   .rw[Ahf] at h;exact BM i t y u _ _ _ _ h
  .rcases Ct hv with⟨j,u,rfl,rfl⟩|⟨y,u,rfl,rfl⟩
   .rw[Agj] at h;exact BK x t j u _ _ _ _ h
   .rw[Ag6] at h;exact wpAny_eqBool_str h
 «strs»:=λk x t v h=>by
  rcases Ct h with⟨i,u,rfl,e⟩|⟨y,u,rfl,e⟩
  .exact nomatch e
  .injection e with e1 _
   subst e1;cases v<;>rfl
theorem L5 (prog:gm)(w:iz)(i:Int)(t:Tok):(Bj prog w).is (.inl i) (.int i t)=NG:=uY i t
theorem Sc (prog:gm)(w:iz)(x:Str)(t:Tok):(Bj prog w).is (.inr x) (.str x t)=NG:=vD x t
inductive V where
 |non|bl (b:Bool)|int (i:Int)|str (x:Str)|byt (b:Array UInt8)|flt (b:UInt64)|ref (a:fe)|ty (n:String)
 deriving DecidableEq
def Be:V->fu->Prop
 |.non,u=>u=mr
 |.bl b,u=>u=AG b
 |.int i,u=>∃t,u=nz i t
 |.str x,u=>∃t,u=rj x t
 |.byt b,u=>∃t,u=HW b t
 |.flt b,u=>∃t,u=DG b t
 |.ref a,u=>u=iw a
 |.ty n,u=>u=kr n
abbrev Az:List V->Za3->Prop:=BG Be
theorem Az.length (r:Az xs us):xs.9=us.9:=GK r
theorem Az.get:∀{xs:List V} {us:Za3} {i:Nat} {x:V},Az xs us->xs[i]?=en x->∃u,us[i]?=en u/\Be x u
 |_,_,_,_,.nil,e=>by simp at e
 |_,_,0,_,.cons r _,e=>by simp at e;subst e;exact{_,rfl,r}
 |_,_,i+1,x,.cons _ t,e=>by
  obtain⟨u,h1,h2⟩:=Az.get (i:=i) (x:=x) t (by simpa using e);exact{u,by simpa using h1,h2}
theorem Az.set {x:V}{u:fu}(r:Be x u):∀{xs:List V} {us:Za3} (i:Nat),Az xs us->Az (xs.set i x) (us.set i u)
 |_,_,_,.nil=>.nil
 |_,_,0,.cons _ t=>.cons r t
 |_,_,i+1,.cons q t=>.cons q (Az.set r i t)
theorem Az.append:∀{xs ys:List V} {us ws:Za3},Az xs us->Az ys ws->Az (xs++ys) (us++ws)
 |_,_,_,_,.nil,s=>s
 |_,_,_,_,.cons r t,s=>.cons r (Az.append t s)
theorem Az.take:∀{xs:List V} {us:Za3} (n:Nat),Az xs us->Az (xs.take n) (us.take n)
 |_,_,0,_=>.nil
 |_,_,_+1,.nil=>.nil
 |_,_,n+1,.cons r t=>.cons r (Az.take n t)
theorem Az.drop:∀{xs:List V} {us:Za3} (n:Nat),Az xs us->Az (xs.drop n) (us.drop n)
 |_,_,0,r=>r
 |_,_,_+1,.nil=>.nil
 |_,_,n+1,.cons _ t=>Az.drop n t
def J6:Option V->Za7->Prop
 |some v,en u=>Be v u
 |none,p9=>True
 |_,_=>False
def KV {κ:Type}:List (κ×V)->List (κ×fu)->Prop:=BG λ(p:κ×V) (q:κ×fu)=>p.1=q.1/\Be p.2 q.2
def kV:Key->V
 |.inl i=>.int i
 |.inr x=>.str x
inductive HO where
  |lst (xs:List V)
  |tup (xs:List V)
  |dK (kvs:List (Key×V))|dT (kvs:List (List Key×V))
  |set (S:Int->Bool) (n:Nat)
  |ins (C dx:fe) (fs:List (Str×V))
  |own (x:fe)
  |xd (fs:List (Str×V))
  |met (f x:fe)
  |rng (lo hi:Int)
  |frz (o:Obj) (u:HO)
  |tbl (ps:Array fu)
  |ext (φ:i8->Prop)
abbrev Hp:=fe->Option HO
def upd (H:Hp)(a:fe)(o:HO):Hp:=λb=>if b=a then en o else H b
theorem Ae {H:Hp}{a:fe}{o:HO}:upd H a o a=en o:=by unfold upd;rw[if_pos rfl]
theorem Aj {a b:fe}{o:HO}(h:b≠a):upd H a o b=H b:=by unfold upd;rw[if_neg h]
theorem Tp {a:fe}{o u:HO}:upd (upd H a o) a u=upd H a u:=by
 funext b;unfold upd;split<;>rfl
theorem Iw {a b:fe}{o u:HO}(h:H a=en o)(h':H b=en u)(d:o≠u):a≠b:=by
 intro e;subst e;rw[h] at h';exact d (fk h')
theorem An {a b:fe}{o:HO}(h:H a=en o)(h':H b=p9):a≠b:=by
 intro e;subst e;rw[h] at h';cases h'
section
variable (P:gm) (w:iz)
def B3 (H:Hp)(h:i8)(a:fe):HO->Prop
 |.lst xs=>xs.9<=sizeLine/\∃(its:Za3) (n:Nat),Az xs its/\h.get? a=en { cls:=.type "list",data:=.seq its.6 n }
 |.tup xs=>xs.9<=sizeLine/\∃its:Za3,Az xs its/\IsTup h a its.6
 |.dK kvs=>kvs.9<=sizeLine/\(a==sysModules)=NH/\∃vs,KV kvs vs/\h.DictOf (Bj P w) a vs
 |.dT kvs=>kvs.9<=sizeLine/\(a==sysModules)=NH/\∃xs:List (List Key×fe×fu),
   BG (λ(p:List Key×V) (q:List Key×fe×fu)=>p.1=q.1/\H q.2.1=en (.tup (p.1.map kV))/\Be p.2 q.2.2) kvs xs /\
   ∃o es ep,h.get? a=en o/\o.ExactDict/\o.data=.dict es ep/\es.7=xs.map (entryOfKey (tupleKind (Bj P w)))/\(xs.map (·.1)).Nodup
 |.set S n=>h.SetOf (intKind P w) a S n
 |.ins C dx fs=>H dx=en (.own a)/\fs.9<=1000/\dx≠a/\h.get? a=en (instObj C dx) /\
   ∃mA,h.Ns1 dx mA/\(∀f,J6 (fs.lookup f) (mA f))/\BZ mA (fs.map (·.1))
 |.own _=>∃o,h.get? a=en o
 |.xd fs=>∃mA,h.Ns1 a mA/\∀f,J6 (fs.lookup f) (mA f)
 |.rng lo hi=>∃t u v,h.get? a=en { cls:=.type "range",data:=.fields #[.int lo t,.int hi u,.int 1 v] }
 |.frz o u=>h.get? a=en o/\B3 H h a u
 |.tbl ps=>h.get? a=en { cls:=.none,data:=.fields ps }
 |.met f x=>h.get? a=en (yh (.ref f) (.ref x))
 |.ext φ=>φ h/\(∃o,h.get? a=en o)/\∀h1 h2:i8,φ h1->(∀o,h1.get? a=en o->h2.get? a=en o)->φ h2
def HOk (H:Hp)(h:i8):Prop:=∀a o,H a=en o->B3 P w H h a o
end
section
variable {P:gm} {w:iz} {H H':Hp} {h h':i8} {a:fe} {o:HO}
theorem B3.lt (x:B3 P w H h a o):a<h.objs.8:=by
 cases o with
 |lst xs=>obtain⟨_,_,_,_,e⟩:=x;exact gi e
 |tup xs=>obtain⟨_,_,_,p⟩:=x;exact p.lt
 |dK kvs=>obtain⟨_,_,_,_,o,_,_,e,_⟩:=x;exact gi e
 |dT kvs=>obtain⟨_,_,_,_,o,_,_,e,_⟩:=x;exact gi e
 |set S n=>obtain⟨o,_,_,_,e,_⟩:=x;exact gi e
 |ins C dx fs=>obtain⟨_,_,_,e,_⟩:=x;exact gi e
 |own y=>obtain⟨_,e⟩:=x;exact gi e
 |xd fs=>obtain⟨_,⟨_,_,_,e,_⟩,_⟩:=x;exact gi e
 |rng lo hi=>obtain⟨_,_,_,e⟩:=x;exact gi e
 |frz ob u=>obtain⟨e,_⟩:=x;exact gi e
 |tbl ps=>exact gi (show h.get? a=en _ from x)
 |met f y=>exact gi (show h.get? a=en _ from x)
 |ext φ=>obtain⟨_,⟨_,e⟩,_⟩:=x;exact gi e
theorem BG.mapP {α β:Type}{F G:α->β->Prop}:∀{XJ:List α} {XL:List β},BG F XJ XL->(∀a b,F a b->G a b)->BG G XJ XL
 |_,_,.nil,_=>.nil
 |_,_,.cons r t,f=>.cons (f _ _ r) (BG.mapP t f)
theorem B3.stay (x:B3 P w H h a o)(k:∀b u,(b=a\/H b=en (.own a))->h.get? b=en u->h'.get? b=en u)
  (ho:∀b,H b=en (.own a)->H' b=en (.own a))(ht:∀b xs,H b=en (.tup xs)->H' b=en (.tup xs)):B3 P w H' h' a o:=by
 induction o with
 |lst xs=>obtain⟨z,its,n,r,e⟩:=x;exact{z,its,n,r,k _ _ (.inl rfl) e}
 |tup xs=>obtain⟨z,its,r,ob,e,c⟩:=x;exact{z,its,r,ob,k _ _ (.inl rfl) e,c}
 |dK kvs=>obtain⟨z,y,vs,r,ob,es,ep,e,c⟩:=x;exact{z,y,vs,r,ob,es,ep,k _ _ (.inl rfl) e,c}
 |dT kvs=>
  obtain⟨z,y,xs,r,ob,es,ep,e,c⟩:=x;exact{z,y,xs,BG.mapP r λp q z=>{z.1,ht _ _ z.2.1,z.2.2},ob,es,ep,k _ _ (.inl rfl) e,c}
 |set S n=>obtain⟨ob,es,ep,t,e,c⟩:=x;exact{ob,es,ep,t,k _ _ (.inl rfl) e,c}
 |ins C dx fs=>
  obtain⟨d,z,ne,e,mA,⟨od,es,ep,e2,c⟩,r⟩:=x;exact{ho _ d,z,ne,k _ _ (.inl rfl) e,mA,{od,es,ep,k _ _ (.inr d) e2,c},r}
 |own y=>obtain⟨ob,e⟩:=x;exact{ob,k _ _ (.inl rfl) e}
 |xd fs=>obtain⟨mA,⟨od,es,ep,e,c⟩,r⟩:=x;exact{mA,{od,es,ep,k _ _ (.inl rfl) e,c},r}
 |rng lo hi=>obtain⟨t,u,v,e⟩:=x;exact{t,u,v,k _ _ (.inl rfl) e}
 |frz ob u ih=>obtain⟨e,q⟩:=x;exact{k _ _ (.inl rfl) e,ih q}
 |tbl ps=>
  have e:h.get? a=en { cls:=.none,data:=.fields ps }:=x;show h'.get? a=en { cls:=.none,data:=.fields ps };exact k a _ (.inl rfl) e
 |met f y=>
  have e:h.get? a=en (yh (.ref f) (.ref y)):=x;show h'.get? a=en (yh (.ref f) (.ref y));exact k a _ (.inl rfl) e
 |ext φ=>obtain⟨p,⟨o,e⟩,st⟩:=x;exact{st _ _ p λo q=>k _ _ (.inl rfl) q,{o,k _ _ (.inl rfl) e},st}
theorem HOk.lt (x:HOk P w H h)(e:H a=en o):a<h.objs.8:=(x a o e).lt
theorem HOk.fresh (x:HOk P w H h)(e:h.objs.8<=a):H a=p9:=by
 cases q:H a with
 |none=>rfl
 |some u=>exact absurd (gh (x.lt q) e) (m5 _)
theorem HOk.kept (x:HOk P w H h)(k:∀b u,h.get? b=en u->h'.get? b=en u):HOk P w H h':=λa o e=>
 (x a o e).stay (λb u _ q=>k b u q) (λ_ q=>q) λ_ _ q=>q
theorem HOk.laid (x:HOk P w H h)(k:∀b u,h.get? b=en u->h'.get? b=en u)(hp:h.objs.8<=a)(new:B3 P w (upd H a o) h' a o):HOk P w (upd H a o) h':=λb u e=>by
 have hn:=x.fresh hp
 by_cases hb:b=a
 .subst hb;rw[Ae] at e;cases e;exact new
 .rw[Aj hb] at e
  exact(x b u e).stay (λc v _ q=>k c v q) (λc q=>by rw[Aj (An q hn)];exact q) λc xs q=>by rw[Aj (An q hn)];exact q
end
def Rd (H:Hp)(a:fe)(u:HO):Prop:=H a=en u\/∃o,H a=en (.frz o u)
theorem Rd.ok {P:gm}{h:i8}{a:fe}{u:HO}(r:Rd H a u)(x:HOk P w H h):B3 P w H h a u:=by
 rcases r with r|⟨o,r⟩
 .exact x a u r
 .obtain⟨_,q⟩:=x a _ r
  exact q
def Mut:Option HO->Prop
 |some (.lst _)=>True
 |some (.dK _)=>True
 |some (.dT _)=>True
 |some (.set _ _)=>True
 |some (.ins _ _ _)=>True
 |some (.ext _)=>True
 |_=>False
section
variable {P:gm} {w:iz} {H:Hp} {h h':i8} {x e:fe} {o':HO}
theorem HOk.write (ok:HOk P w H h)(mu:Mut (H x))(he:e=x\/H e=en (.own x))(k:∀b u,b≠e->h.get? b=en u->h'.get? b=en u)(heo:∃u,h'.get? e=en u)
  (new:B3 P w (upd H x o') h' x o'):HOk P w (upd H x o') h':=λb u q=>by
 have nown:∀c y,H c=en (.own y)->c≠x:=λc y r z=>by subst z;rw[r] at mu;exact mu
 have ntup:∀c xs,H c=en (.tup xs)->c≠x:=λc xs r z=>by subst z;rw[r] at mu;exact mu
 by_cases hb:b=x
 .subst hb;rw[Ae] at q;cases q;exact new
 .rw[Aj hb] at q
  by_cases hbe:b=e
  .have q':H b=en (.own x):=by
    rcases he with z|z
    .exact absurd (hbe.trans z) hb
    .rw[hbe];exact z
   rw[q] at q';cases q';obtain⟨v,hv⟩:=heo;exact{v,by rw[hbe];exact hv}
  .refine(ok b u q).stay (λc v hc r=>k c v ?_ r) (λc r=>by rw[Aj (nown c b r)];exact r) λc xs r=>by rw[Aj (ntup c xs r)];exact r
   rcases hc with rfl|hc
   .exact hbe
   .rintro rfl
    rcases he with z|z
    .exact nown c b hc z
    .rw[hc] at z;cases z;exact hb rfl
end
structure Un (fs ex:List fe) (H H':Hp) (h h':i8):Prop where
 keep:∀b o,h.get? b=en o->H b=p9->b∉fs->b∉ex->h'.get? b=en o
 slot:∀b o,h.get? b=en o->H b=p9->b∈fs->b∉ex->∃sl,h'.get? b=en { o with slots:=sl }
 free:∀b o,h.get? b=en o->H b=p9->b∉ex->H' b=p9
 there:∀b o,h.get? b=en o->b∉ex->∃o',h'.get? b=en o'
 tups:∀b xs,H b=en (.tup xs)->H' b=en (.tup xs)
 frzs:∀b o u,H b=en (.frz o u)->H' b=en (.frz o u)
 tbls:∀b ps,H b=en (.tbl ps)->∃more,H' b=en (.tbl (ps++more))
section
variable {fs fs' ex ex':List fe} {H H1 H2:Hp} {h h1 h2 h':i8} {a x e:fe} {o:HO}
theorem Un.any (u:Un fs ex H H1 h h1){b:fe}{ob:Obj}(q:h.get? b=en ob)(n:H b=p9)(hx:b∉ex):∃sl,h1.get? b=en { ob with slots:=sl }:=by
 by_cases hb:b∈fs
 .exact u.slot b ob q n hb hx
 .exact{ob.slots,u.keep b ob q n hb hx}
theorem Un.trans (a:Un fs ex H H1 h h1)(b:Un fs ex H1 H2 h1 h2):Un fs ex H H2 h h2 where
 keep:=λc ob q n hc hx=>b.keep c ob (a.keep c ob q n hc hx) (a.free c ob q n hx) hc hx
 slot:=λc ob q n hc hx=>by
  obtain⟨sl,e1⟩:=a.slot c ob q n hc hx;obtain⟨sl',e2⟩:=b.slot c _ e1 (a.free c ob q n hx) hc hx;exact⟨sl',e2⟩
 free:=λc ob q n hx=>by
  obtain⟨o',e1⟩:=a.there c ob q hx;exact b.free c o' e1 (a.free c ob q n hx) hx
 there:=λc ob q hx=>by
  obtain⟨o',e1⟩:=a.there c ob q hx;exact b.there c o' e1 hx
 tups:=λc xs q=>b.tups c xs (a.tups c xs q)
 frzs:=λc ob xs q=>b.frzs c ob xs (a.frzs c ob xs q)
 tbls:=λc ps q=>by
  obtain⟨m1,e1⟩:=a.tbls c ps q;obtain⟨m2,e2⟩:=b.tbls c _ e1;exact{m1++m2,by rw[e2,yo]}
theorem Un.kept (k:∀b u,h.get? b=en u->h'.get? b=en u):Un fs ex H H h h':=
 {λb ob q _ _ _=>k b ob q,λb ob q _ _ _=>{ob.slots,k b ob q},λ_ _ _ n _=>n,λb ob q _=>{ob,k b ob q},λ_ _ q=>q,λ_ _ _ q=>q,λ_ ps q=>{#[],by rw[q];simp}}
theorem Un.refl:Un fs ex H H h h:=Un.kept λ_ _ q=>q
theorem Un.laid (k:∀b u,h.get? b=en u->h'.get? b=en u)(hp:h.objs.8<=a)(hn:H a=p9):Un fs ex H (upd H a o) h h' where
 keep:=λb u q _ _ _=>k b u q
 slot:=λb u q _ _ _=>{u.slots,k b u q}
 free:=λb u q n _=>by rw[Aj (io (gh (gi q) hp))];exact n
 there:=λb u q _=>{u,k b u q}
 tups:=λb xs q=>by rw[Aj (An q hn)];exact q
 frzs:=λb u xs q=>by rw[Aj (An q hn)];exact q
 tbls:=λb ps q=>{#[],by rw[Aj (An q hn),q];simp}
theorem Un.write (mu:Mut (H x))(he:e=x\/H e=en (.own x))(k:∀b u,b≠e->h.get? b=en u->h'.get? b=en u)(heo:∃u,h'.get? e=en u):Un fs ex H (upd H x o) h h':=by
 have hx:∀b,H b=p9->b≠x:=λb n z=>by subst z;rw[n] at mu;exact mu
 have hb:∀b,H b=p9->b≠e:=λb n z=>by
  subst z;rcases he with r|r
  .exact hx b n r
  .rw[n] at r;cases r
 have hm:∀b u,H b=en u->¬ Mut (en u)->b≠x:=λb u q nm z=>by subst z;rw[q] at mu;exact nm mu
 refine⟨λb u q n _ _=>k b u (hb b n) q,λb u q n _ _=>{u.slots,k b u (hb b n) q},λb u q n _=>by rw[Aj (hx b n)];exact n,λb u q _=>?_,
  λb xs q=>by rw[Aj (hm b _ q λz=>z)];exact q,λb u xs q=>by rw[Aj (hm b _ q λz=>z)];exact q,λb ps q=>{#[],by rw[Aj (hm b _ q λz=>z),q];simp}⟩
 by_cases hbe:b=e
 .subst hbe;exact heo
 .exact{u,k b u hbe q}
end
def trk (h:i8)(H:Hp):List fe:=(ft h.objs.8).filter λa=>(H a).isSome
def iK (h:i8)(H:Hp):i8:=hideAll h (trk h H)
theorem wK (h:i8)(H:Hp):(iK h H).objs.size=h.objs.8:=PySem.W.hideAll_size _ _
theorem Uf {h:i8}{b:fe}{o:Obj}(e:h.get? b=en o)(n:H b=p9):(iK h H).get? b=en o:=
 xj _ e λhm=>by
  have q:(H b).isSome=NG:=(tx.mp hm).2;rw[n] at q;simp at q
theorem Ac3 {h:i8}{b:fe}{o:Obj}(e:(iK h H).get? b=en o):h.get? b=en o/\H b=p9:=by
 have e':h.get? b=en o:=zx (trk h H) e;refine{e',?_}
 cases q:H b with
 |none=>rfl
 |some x=>
  have hm:b∈trk h H:=tx.mpr {ki.mpr (gi e'),by simp[q]};have z:(iK h H).get? b=p9:=CH (trk h H) hm;rw[z] at e;cases e
structure Mod (K:e7) (mg:Za2) (base:i8):Prop where
 kin:K.In base
 glob:base.Ns mainGlobals mg
 blt:∃mb,base.Ns builtinsNs mb/\∀x:Str,x≠"__name__"->mb x=bootBuiltins x
 nolimit:base.NoLimit
structure Cx where
 prog:gm
 w:iz
 K:e7
 mg:Za2
 base:i8
 A:jd
 N:Za6
 mt:gb
 QP:Hp
 env:Env
 outer:List Env
 stack:List Env
 ex:List fe
 fn:Str->Bool
 calm:Bool
 pn:Za1
 xe:Za0
def frs (l:List Env):List fe:=l.filterMap (·.frame)
abbrev Cx.fs (X:Cx):List fe:=frs X.outer
def Vis (sc:nr)(x:Str):Prop:=sc.names.lookup x=en .local\/sc.names.lookup x=en .cell\/sc.names.lookup x=en .free
def Loc (sc:nr)(x:Str):Prop:=sc.names.lookup x=en .local\/sc.names.lookup x=en .cell
def Ak2 (env:Env)(h:i8)(m:Za2)(x:Str)(u:fu):Prop:=
 (env.kindOf x=en .local/\m x=en u)\/((env.kindOf x=en .cell\/env.kindOf x=en .free)/\∃c,env.cells.lookup x=en c/\h.IsCell c (en u))
structure Cx.Ok (X:Cx):Prop where
 mod:Mod X.K X.mg X.base
 kind:X.env.scope.kind=.function
 glob:X.env.globals=mainGlobals
 blt:X.env.builtins=builtinsNs
 above:X.mt.heap.objs.8<=X.env.locals
 inj:∀x y c,X.env.cells.lookup x=en c->X.env.cells.lookup y=en c->x=y
 has:∀x,(X.env.kindOf x=en .cell\/X.env.kindOf x=en .free)->∃c,X.env.cells.lookup x=en c
 cab:∀x c,X.fn x=NG->X.env.cells.lookup x=en c->X.mt.heap.objs.8<=c
 hd:X.calm=NG->X.A.handled=p9
 frames:X.A.frames=en X.stack
 stk:X.stack=X.outer\/(X.stack=X.env::X.outer/\X.env.frame=en X.env.locals)
 exf:∀b∈X.ex,b≠X.env.locals/\∀x c,X.env.cells.lookup x=en c->c≠b
 bs:∀b o,X.base.get? b=en o->X.mt.heap.get? b=en o/\X.QP b=p9
 bsz:X.base.objs.8<=X.mt.heap.objs.8
 noex:∀b o,X.base.get? b=en o->b∉X.ex
 exfs:∀b∈X.ex,b∉X.fs
 funs:X.mt.heap.FunFrames X.base X.outer
 frf:∀b∈X.fs,X.QP b=p9
structure Inv (X:Cx) (pins:Za1) (σ:List (Option V)) (H:Hp) (s:gb):Prop where
 ok:X.Ok
 os:s.os=X.mt.os
 bare:vc s.gens
 base:Un X.fs X.ex X.QP H X.mt.5 s.5
 loc:∃m,s.heap.Ns X.env.locals m/\∀(i:Nat) (x:Str) (v:V),X.N[i]?=en x->σ[i]?=en (en v)->Vis X.env.scope x->∃u,Be v u/\Ak2 X.env s.5 m x u
 cell:∀x c,X.env.cells.lookup x=en c->∃v,s.heap.IsCell c v
 free:H X.env.locals=p9
 freeC:∀x c,X.env.cells.lookup x=en c->H c=p9
 pin:∀p∈X.pn++pins,s.heap.get? p.1=en p.2/\H p.1=p9/\p.1≠X.env.locals/\p.1∉X.fs/\∀v,p.2.data≠.cell v
 hok:HOk X.prog X.w H s.5
 len:σ.9=X.N.9
section
variable {X:Cx} {pins:Za1} {σ:List (Option V)} {H H':Hp} {s:gb} {h':i8}
theorem Cx.Ok.nofr (ok:X.Ok){b:fe}{o:Obj}(e:X.base.get? b=en o):b∉X.fs:=λhb=>by
 have:=(ok.funs.mem hb).1;rw[e] at this;cases this
theorem Inv.bs (I:Inv X pins σ H s):∀b o,X.base.get? b=en o->s.heap.get? b=en o/\H b=p9:=λb o e=>
 {I.base.keep b o (I.ok.bs b o e).1 (I.ok.bs b o e).2 (I.ok.nofr e) (I.ok.noex b o e),I.base.free b o (I.ok.bs b o e).1 (I.ok.bs b o e).2 (I.ok.noex b o e)}
theorem Inv.bk (I:Inv X pins σ H s):∀b o,X.base.get? b=en o->s.heap.get? b=en o:=λb o e=>(I.bs b o e).1
theorem Inv.mod (I:Inv X pins σ H s):Mod X.K X.mg X.base:=I.ok.mod
theorem Inv.kIn (I:Inv X pins σ H s):X.K.In s.5:=I.ok.mod.kin.keeps I.bk
theorem Inv.lt (I:Inv X pins σ H s):X.env.locals<s.heap.objs.8:=let ⟨_,hn,_⟩:=I.loc;hn.lt
theorem Inv.sz (I:Inv X pins σ H s):X.mt.heap.objs.8<=s.heap.objs.8:=iy I.ok.above (gy I.lt)
theorem Inv.nofs (I:Inv X pins σ H s){a:fe}(h:s.heap.objs.8<=a):a∉X.fs:=λhb=>by
 obtain⟨_,o,ho,_⟩:=I.ok.funs.mem hb;exact absurd (gh (gi ho) (iy I.sz h)) (m5 _)
theorem Inv.cne (I:Inv X pins σ H s):∀x c,X.env.cells.lookup x=en c->c≠X.env.locals:=λx c e z=>by
 obtain⟨v,o,ho,hd⟩:=I.cell x c e;obtain⟨m,⟨o',es,ep,ho',hd',_⟩,_⟩:=I.loc;rw[z,ho'] at ho;cases ho;rw[hd'] at hd;cases hd
theorem Inv.funs (I:Inv X pins σ H s):s.heap.FunFrames X.base X.outer:=by
 have all:∀(l:List Env),(∀b∈frs l,b∈X.fs)->X.mt.heap.FunFrames X.base l->s.heap.FunFrames X.base l:=by
  intro l
  induction l with
  |nil=>intro _ _;trivial
  |cons env r ih=>
   intro hs hl;obtain⟨hk,⟨L,o,hf,hn,ho,hd⟩,hr⟩:=hl;have hL:L∈X.fs:=hs L (by unfold frs;rw[ll,hf];exact gt);obtain⟨sl,e⟩:=I.base.slot L o ho (I.ok.frf L hL) hL λz=>I.ok.exfs L z hL;exact{hk,{L,_,hf,hn,e,hd},ih (λb hb=>hs b (by unfold frs;rw[ll,hf];exact gw _ hb)) hr}
 exact all X.outer (λ_ hb=>hb) I.ok.funs
theorem Inv.stack (I:Inv X pins σ H s):s.heap.FunFrames X.base X.stack:=by
 rcases I.ok.stk with e|⟨e,hf⟩
 .rw[e];exact I.funs
 .rw[e]
  obtain⟨m,hn,_⟩:=I.loc;refine .cons (by rw[I.ok.kind];decide) hf hn ?_ I.funs;exact tm (iy I.ok.bsz I.ok.above)
theorem Inv.stkSub (I:Inv X pins σ H s):∀b∈frs X.stack,b∈X.env.locals::X.fs:=λb hb=>by
 rcases I.ok.stk with e|⟨e,hf⟩
 .rw[e] at hb;exact gw _ hb
 .rw[e] at hb
  unfold frs at hb;rw[ll,hf] at hb;exact hb
theorem Inv.stkFree (I:Inv X pins σ H s):∀b∈frs X.stack,H b=p9:=λb hb=>by
 rcases i5.mp (I.stkSub b hb) with e|hb
 .rw[e];exact I.free
 .obtain⟨_,o,ho,_⟩:=I.ok.funs.mem hb
  exact I.base.free b o ho (I.ok.frf b hb) λz=>I.ok.exfs b z hb
theorem Inv.step {g':Array GN}{d':Drawn}{ch:List fe}(I:Inv X pins σ H s)
  (hch:∀b∈ch,(b∈X.ex\/X.mt.heap.objs.8<=b)/\b≠X.env.locals/\(∀x c,X.env.cells.lookup x=en c->c≠b)/\∀p∈X.pn++pins,p.1≠b)
  (keep:∀b o,b≠X.env.locals->b∉X.fs->b∉ch->s.heap.get? b=en o->H b=p9->h'.get? b=en o)
  (slot:∀b o,b≠X.env.locals->b∈X.fs->b∉ch->s.heap.get? b=en o->H b=p9->∃sl,h'.get? b=en { o with slots:=sl })(free:∀b o,b∉ch->s.heap.get? b=en o->H b=p9->H' b=p9)
  (there:∀b o,b∉ch->s.heap.get? b=en o->∃o',h'.get? b=en o')
  (tups:∀b xs,H b=en (.tup xs)->H' b=en (.tup xs))(frzs:∀b o u,H b=en (.frz o u)->H' b=en (.frz o u))(tbls:∀b ps,H b=en (.tbl ps)->∃more,H' b=en (.tbl (ps++more)))
  (ns:∀m,s.heap.Ns X.env.locals m->h'.Ns X.env.locals m)(hok:HOk X.prog X.w H' h')(hg:vc g') :
  Inv X pins σ H' { s with heap:=h',gens:=g',drawn:=d',toks:=t' }:=by
 have neL:∀b o,X.mt.heap.get? b=en o->b≠X.env.locals:=λb o e=>io (gh (gi e) I.ok.above);have neC:∀b o,X.mt.heap.get? b=en o->b∉X.ex->b∉ch:=λb o e hx hb=>by
  rcases(hch b hb).1 with z|z
  .exact hx z
  .exact absurd (gh (gi e) z) (m5 _)
 have cellK:∀x c,X.env.cells.lookup x=en c->∀v,s.heap.IsCell c v->h'.IsCell c v:=λx c e v ⟨o,ho,hd⟩=>by
  have nch:c∉ch:=λz=>(hch c z).2.2.1 x c e rfl
  by_cases hc:c∈X.fs
  .obtain⟨sl,q⟩:=slot c o (I.cne x c e) hc nch ho (I.freeC x c e)
   exact{_,q,hd}
  .exact{o,keep c o (I.cne x c e) hc nch ho (I.freeC x c e),hd}
 refine{I.ok,I.os,hg,{λb o e n hb hx=>?_,λb o e n hb hx=>?_,λb o e n hx=>?_,λb o e hx=>?_,λb xs e=>tups b xs (I.base.tups b xs e),λb o xs e=>frzs b o xs (I.base.frzs b o xs e),λb ps e=>?_},?_,λx c e=>?_,?_,λx c e=>?_,λp hp=>?_,hok,I.len}
 .exact keep b o (neL b o e) hb (neC b o e hx) (I.base.keep b o e n hb hx) (I.base.free b o e n hx)
 .obtain⟨sl,e1⟩:=I.base.slot b o e n hb hx
  obtain⟨sl',e2⟩:=slot b _ (neL b o e) hb (neC b o e hx) e1 (I.base.free b o e n hx);exact⟨sl',e2⟩
 .obtain⟨o',e1⟩:=I.base.there b o e hx
  exact free b o' (neC b o e hx) e1 (I.base.free b o e n hx)
 .obtain⟨o',e1⟩:=I.base.there b o e hx
  exact there b o' (neC b o e hx) e1
 .obtain⟨m1,e1⟩:=I.base.tbls b ps e
  obtain⟨m2,e2⟩:=tbls b _ e1;exact{m1++m2,by rw[e2,yo]}
 .obtain⟨m,hn,hl⟩:=I.loc
  refine{m,ns m hn,λi x v e1 e2 e3=>?_};obtain⟨u,r,l⟩:=hl i x v e1 e2 e3;refine{u,r,?_};rcases l with l|⟨k,c,e,z⟩
  .exact .inl l
  .exact .inr {k,c,e,cellK x c e _ z}
 .obtain⟨v,z⟩:=I.cell x c e
  exact{v,cellK x c e v z}
 .obtain⟨m,⟨o,_,_,ho,_⟩,_⟩:=I.loc
  exact free _ o (λz=>(hch _ z).2.1 rfl) ho I.free
 .obtain⟨v,o,ho,hd⟩:=I.cell x c e
  exact free c o (λz=>(hch c z).2.2.1 x c e rfl) ho (I.freeC x c e)
 .obtain⟨e,n,ne,nf,d⟩:=I.pin p hp
  have nch:p.1∉ch:=λz=>(hch p.1 z).2.2.2 p hp rfl;exact{keep p.1 p.2 ne nf nch e n,free p.1 p.2 nch e n,ne,nf,d}
theorem Inv.un (I:Inv X pins σ H s)(u:Un X.fs [] H H' s.5 h')(hok:HOk X.prog X.w H' h'):Inv X pins σ H' { s with heap:=h',toks:=t' }:=by
 obtain⟨m,⟨o,es,ep,ho,r⟩,_⟩:=id I.loc;obtain⟨sl,hL⟩:=u.any ho I.free (by simp);exact I.step (g':=s.gens) (d':=s.drawn) (ch:=[]) (λ_ z=>nomatch z) (λb o _ hb _ e n=>u.keep b o e n hb (by simp)) (λb o _ hb _ e n=>u.slot b o e n hb (by simp)) (λb o _ e n=>u.free b o e n (by simp)) (λb o _ e=>u.there b o e (by simp)) u.tups u.frzs u.tbls (λm' hm=>by
  obtain⟨o',es',ep',ho',r'⟩:=hm;rw[ho] at ho';cases ho';exact{_,es',ep',hL,r'}) hok I.bare
theorem Inv.call {g':Array GN}{d':Drawn}{ch:List fe}(I:Inv X pins σ H s)(u:Un (frs X.stack) ch H H' s.5 h')(hok:HOk X.prog X.w H' h')(hg:vc g')
  (hch:∀b∈ch,(b∈X.ex\/X.mt.heap.objs.8<=b)/\b≠X.env.locals/\(∀x c,X.env.cells.lookup x=en c->c≠b)/\∀p∈X.pn++pins,p.1≠b) :
  Inv X pins σ H' { s with heap:=h',gens:=g',drawn:=d',toks:=t' }:=by
 obtain⟨m,⟨o,es,ep,ho,r⟩,_⟩:=id I.loc;obtain⟨sl,hL⟩:=u.any ho I.free λz=>(hch _ z).2.1 rfl;exact I.step (ch:=ch) hch (λb o hL hb hc e n=>u.keep b o e n (λz=>(i5.mp (I.stkSub b z)).elim hL hb) hc) (λb o _ _ hc e n=>u.any e n hc) (λb o hc e n=>u.free b o e n hc) (λb o hc e=>u.there b o e hc) u.tups u.frzs u.tbls (λm' hm=>by
  obtain⟨o',es',ep',ho',r'⟩:=hm;rw[ho] at ho';cases ho';exact{_,es',ep',hL,r'}) hok hg
theorem Inv.turned (I:Inv X pins σ H s)(k:∀b o,b≠it->s.heap.get? b=en o->h'.get? b=en o)(hn:H it=p9)(hL:it≠X.env.locals)
  (h1:it∈X.ex\/X.mt.heap.objs.8<=it)(h2:∀x c,X.env.cells.lookup x=en c->c≠it)(h3:∀p∈X.pn++pins,p.1≠it):Inv X pins σ H { s with heap:=h',toks:=t' }:=by
 have nit:∀b u,H b=en u->b≠it:=λb u e z=>by rw[z,hn] at e;cases e
 refine I.step (g':=s.gens) (d':=s.drawn) (ch:=[it]) (λb hb=>?_) (λb o _ _ hc e _=>k b o (λz=>hc (by simp[z])) e) (λb o _ _ hc e _=>{o.slots,k b o (λz=>hc (by simp[z])) e}) (λ_ _ _ _ n=>n)
  (λb o hc e=>{o,k b o (λz=>hc (by simp[z])) e}) (λ_ _ e=>e) (λ_ _ _ e=>e) (λb ps e=>{#[],by rw[e];simp}) (λm hm=>?_) (λb u e=>?_) I.bare
 .have e:b=it:=by simpa using hb
  subst e;exact⟨h1,hL,h2,h3⟩
 .obtain⟨o,es,ep,ho,r⟩:=hm
  exact{o,es,ep,k _ o (n5 hL) ho,r}
 .refine(I.hok b u e).stay (λc v hc q=>k c v ?_ q) (λ_ q=>q) λ_ _ q=>q
  rcases hc with z|z
  .rw[z];exact nit b u e
  .exact nit c _ z
theorem Inv.tok (I:Inv X pins σ H s)(t:Nat):Inv X pins σ H { s with toks:=t }:=I.un (h':=s.5) (t':=t) Un.refl I.hok
theorem Inv.kept (I:Inv X pins σ H s)(k:∀b u,s.heap.get? b=en u->h'.get? b=en u):Inv X pins σ H { s with heap:=h',toks:=t' }:=I.un (Un.kept k) (I.hok.kept k)
theorem Inv.laid {a:fe}{o:HO}(I:Inv X pins σ H s)(k:∀b u,s.heap.get? b=en u->h'.get? b=en u)(hp:s.heap.objs.8<=a)(new:B3 X.prog X.w (upd H a o) h' a o) :
  Inv X pins σ (upd H a o) { s with heap:=h',toks:=t' }:=I.un (Un.laid k hp (I.hok.fresh hp)) (I.hok.laid k hp new)
theorem Inv.write {x e:fe}{o:HO}(I:Inv X pins σ H s)(mu:Mut (H x))(he:e=x\/H e=en (.own x))(k:∀b u,b≠e->s.heap.get? b=en u->h'.get? b=en u)(heo:∃u,h'.get? e=en u)
  (new:B3 X.prog X.w (upd H x o) h' x o):Inv X pins σ (upd H x o) { s with heap:=h',toks:=t' }:=I.un (Un.write mu he k heo) (I.hok.write mu he k heo new)
theorem Inv.weak {QM:List (Option V)}(I:Inv X pins σ H s)(hl:QM.9=σ.9)(w:∀(i:Nat) v,QM[i]?=en (en v)->σ[i]?=en (en v)):Inv X pins QM H s:=
 {I.ok,I.os,I.bare,I.base,let ⟨m,hn,hl'⟩:=I.loc;{m,hn,λi x v e1 e2 e3=>hl' i x v e1 (w i v e2) e3},I.cell,I.free,I.freeC,I.pin,I.hok,hl.trans I.len}
theorem Inv.pins_of {pins':Za1}(I:Inv X pins σ H s)(h:∀p∈pins',s.heap.get? p.1=en p.2/\H p.1=p9/\p.1≠X.env.locals/\p.1∉X.fs/\∀v,p.2.data≠.cell v):Inv X pins' σ H s:=
 {I.ok,I.os,I.bare,I.base,I.loc,I.cell,I.free,I.freeC,λp hp=>(kj.mp hp).elim (λz=>I.pin p (tj _ z)) (h p),I.hok,I.len}
theorem Xj (hN:N.Nodup){i j:Nat}{x:Str}(a:N[i]?=en x)(b:N[j]?=en x):i=j:=by
 obtain⟨h1,e1⟩:=gg.mp a;obtain⟨h2,e2⟩:=gg.mp b;exact(List.getElem_inj hN).mp (e1.trans e2.symm)
theorem wN {E:Za0}{i:Nat}{x:Str}{v:V}{u:fu}{Q:Unit->gb->Prop}(I:Inv X pins σ H s)(hN:X.N.Nodup)(hi:X.N[i]?=en x)(hx:Loc X.env.scope x)(r:Be v u)
  (h:∀s',Inv X pins (σ.set i (en v)) H s'->(∃a,wa a s.5 s'.5/\(a=X.env.locals\/X.env.cells.lookup x=en a))->Q .unit s')(hf:autoParam (X.fn x=NG\/X.env.scope.names.lookup x=en .local) QH):wpAny M A (storeName X.env x u) Q E s:=by
 obtain⟨m,hn,hl⟩:=id I.loc;have hcls:(X.env.scope.kind==.class||(X.env.scope.kind==.module&&X.env.locals != X.env.globals))=NH:=by rw[I.ok.kind];rfl
 have XC:i<σ.9:=by rw[I.len];exact(gg.mp hi).1
 have cne:=I.cne;have tracked:∀{a:fe} {h':i8},(∃o,s.heap.get? a=en o/\H a=p9)->wa a s.5 h'->HOk X.prog X.w H h':=λ{a h'} ha hs b ob e=>by
  obtain⟨_,_,hfree⟩:=ha;refine(I.hok b ob e).stay (λc w' hc q=>(hs.2 c ?_).trans q) (λ_ q=>q) λ_ _ q=>q;rintro rfl;rcases hc with rfl|hc
  .rw[hfree] at e;cases e
  .rw[hfree] at hc;cases hc
 rcases hx with hk|hk
 .refine wpAny_storeName_local hk hn (λh' hn' hs=>?_) hcls
  obtain⟨oL,_,_,hoL,_⟩:=id hn;refine h _ {I.ok,I.os,I.bare,{λb o e n hb hx=>?_,λb o e n hb hx=>?_,I.base.free,λb o e hx=>?_,I.base.tups,I.base.frzs,I.base.tbls},{_,hn',λj y v' e1 e2 e3=>?_},λy c e=>?_,I.free,I.freeC,λp hp=>?_,tracked ⟨oL,hoL,I.free⟩ hs,by simpa using I.len} {_,hs,.inl rfl}
  .exact(hs.2 b (io (gh (gi e) I.ok.above))).trans (I.base.keep b o e n hb hx)
  .obtain⟨sl,e1⟩:=I.base.slot b o e n hb hx
   exact{sl,(hs.2 b (io (gh (gi e) I.ok.above))).trans e1}
  .obtain⟨o',e1⟩:=I.base.there b o e hx
   exact{o',(hs.2 b (io (gh (gi e) I.ok.above))).trans e1}
  .by_cases hj:j=i
   .subst hj
    rw[hi] at e1;cases e1;rw[v9 XC] at e2;cases e2;exact{u,r,.inl {hk,by simp}}
   .rw[xo (n5 hj)] at e2
    obtain⟨u',r',q⟩:=hl j y v' e1 e2 e3;refine{u',r',?_};rcases q with⟨k,e⟩|⟨k,c,e,z⟩
    .refine .inl {k,?_}
     have:y≠x:=λe=>hj (Xj hN e1 (e▸hi));simp[this,e]
    .exact .inr {k,c,e,z.sameBut hs (cne y c e)}
  .obtain⟨w',z⟩:=I.cell y c e
   exact{w',z.sameBut hs (cne y c e)}
  .obtain⟨e,n,ne,nf,d⟩:=I.pin p hp
   exact{(hs.2 p.1 ne).trans e,n,ne,nf,d}
 .have hfn:X.fn x=NG:=by
   rcases hf with z|z
   .exact z
   .rw[z] at hk;cases hk
  obtain⟨c,hc⟩:=I.ok.has x (.inl hk);obtain⟨w',z⟩:=I.cell x c hc;refine wpAny_storeName_cell I.ok.kind hk hc z (λh' hc' hs=>?_);obtain⟨oc,hoc,hocd⟩:=id z;refine h { s with heap:=h' } ⟨I.ok,I.os,I.bare,⟨λb o e n hb hx=>?_,λb o e n hb hx=>?_,I.base.free,λb o e hx=>?_,I.base.tups,I.base.frzs,I.base.tbls⟩,⟨m,hn.sameBut hs (n5 (cne x c hc)),λj y v' e1 e2 e3=>?_⟩,λy c' e=>?_,I.free,I.freeC,λp hp=>?_,tracked ⟨oc,hoc,I.freeC x c hc⟩ hs,by simpa using I.len⟩ ⟨c,hs,.inr hc⟩
  .exact(hs.2 b (io (gh (gi e) (I.ok.cab x c hfn hc)))).trans (I.base.keep b o e n hb hx)
  .obtain⟨sl,e1⟩:=I.base.slot b o e n hb hx
   exact{sl,(hs.2 b (io (gh (gi e) (I.ok.cab x c hfn hc)))).trans e1}
  .obtain⟨o',e1⟩:=I.base.there b o e hx
   exact{o',(hs.2 b (io (gh (gi e) (I.ok.cab x c hfn hc)))).trans e1}
  .by_cases hj:j=i
   .subst hj
    rw[hi] at e1;cases e1;rw[v9 XC] at e2;cases e2;exact{u,r,.inr {.inl hk,c,hc,hc'}}
   .rw[xo (n5 hj)] at e2
    obtain⟨u',r',q⟩:=hl j y v' e1 e2 e3;refine{u',r',?_};rcases q with q|⟨k,c',e,z'⟩
    .exact .inl q
    .refine .inr {k,c',e,z'.sameBut hs ?_}
     rintro rfl;exact hj (Xj hN e1 (I.ok.inj _ _ _ e hc▸hi))
  .by_cases hcc:c'=c
   .subst hcc;exact{_,hc'}
   .obtain⟨w2,z2⟩:=I.cell y c' e
    exact{w2,z2.sameBut hs hcc}
  .obtain⟨e,n,ne,nf,d⟩:=I.pin p hp
   refine{(hs.2 p.1 ?_).trans e,n,ne,nf,d};intro q;rw[q,hoc] at e;have q':oc=p.2:=fk e;exact d w' (by rw[<-q'];exact hocd)
theorem Of {E:Za0}{i:Nat}{x:Str}{v:V}{u:fu}{Q:Unit->gb->Prop}(I:Inv X pins σ H s)(hN:X.N.Nodup)(hi:X.N[i]?=en x)(hx:Loc X.env.scope x)(r:Be v u)
  (h:∀s',Inv X pins (σ.set i (en v)) H s'->Q .unit s')(hf:autoParam (X.fn x=NG\/X.env.scope.names.lookup x=en .local) QH):wpAny M A (storeName X.env x u) Q E s:=
 wN I hN hi hx r (λs' I' _=>h s' I') hf
theorem Inv.call' {s':gb}{ch:List fe}(I:Inv X pins σ H s)(ho:s'.os=s.os)(u:Un (frs X.stack) ch H H' s.5 s'.5)(hok:HOk X.prog X.w H' s'.5)(hg:vc s'.gens)
  (hch:∀b∈ch,(b∈X.ex\/X.mt.heap.objs.8<=b)/\b≠X.env.locals/\(∀x c,X.env.cells.lookup x=en c->c≠b)/\∀p∈X.pn++pins,p.1≠b):Inv X pins σ H' s':=by
 obtain⟨h',g',d',t',o'⟩:=s';have e:o'=s.os:=ho;subst e;exact I.call (g':=g') (t':=t') (d':=d') u hok hg hch
end
abbrev XK:=fu->Option fe->Hp->Prop
abbrev St:=List (Option V)
abbrev VK:=V->Hp->Prop
abbrev TE:=St->Hp->VK->Prop
abbrev TT:=St->Hp->(Bool->Hp->Prop)->Prop
abbrev TA:=St->Hp->(List V->Hp->Prop)->Prop
structure Io where
 nx:St->Hp->Prop
 rt:VK
 bk:St->Hp->Prop:=λ_ _=>False
 ct:St->Hp->Prop:=λ_ _=>False
abbrev TS:=Io->St->Hp->Prop
def EP (X:Cx)(pins:Za1)(σ:St)(Q:VK)(u:fu)(s':gb):Prop:=∃v H',Inv X pins σ H' s'/\Be v u/\Q v H'
def TP (X:Cx)(pins:Za1)(σ:St)(Q:Bool->Hp->Prop)(b:Bool)(s':gb):Prop:=∃H',Inv X pins σ H' s'/\Q b H'
def AP (X:Cx)(pins:Za1)(σ:St)(Q:List V->Hp->Prop)(us:Za3)(s':gb):Prop:=∃vs H',Inv X pins σ H' s'/\Az vs us/\Q vs H'
def SP (X:Cx)(pins:Za1)(D:Io)(f:Flow)(s':gb):Prop:=
 match f with
 |.next=>∃QM H',Inv X pins QM H' s'/\D.nx QM H'
 |.brk=>∃QM H',Inv X pins QM H' s'/\D.bk QM H'
 |.cont=>∃QM H',Inv X pins QM H' s'/\D.ct QM H'
 |.ret u=>∃v QM H',Inv X pins QM H' s'/\Be v u/\D.rt v H'
def PE (X:Cx)(e:ja)(t:TE):Prop:=
 ∀(pins:Za1) (s:gb) (σ:St) (H:Hp) (Q:VK),Inv X pins σ H s->t σ H Q->wpAny (model X.prog X.w) X.A (eval e X.env) (EP X pins σ Q) X.xe s
def PT (X:Cx)(e:ja)(t:TT):Prop:=
 ∀(pins:Za1) (s:gb) (σ:St) (H:Hp) (Q:Bool->Hp->Prop),Inv X pins σ H s->t σ H Q->wpAny (model X.prog X.w) X.A (isTrue e X.env (eval e X.env)) (TP X pins σ Q) X.xe s
def PW (X:Cx)(e:ja)(t:TT):Prop:=
 ∀(whole:Sem fu) (pins:Za1) (s:gb) (σ:St) (H:Hp) (Q:Bool->Hp->Prop),Inv X pins σ H s->t σ H Q->wpAny (model X.prog X.w) X.A (isTrue e X.env whole) (TP X pins σ Q) X.xe s
theorem PW.pt {e:ja}{t:TT}(h:PW X e t):PT X e t:=h _
def PA (X:Cx)(es:List ja)(t:TA):Prop:=
 ∀(pos:Pos) (pins:Za1) (s:gb) (σ:St) (H:Hp) (Q:List V->Hp->Prop),Inv X pins σ H s->t σ H Q->wpAny (model X.prog X.w) X.A (spliced (backTo pos (starEach es X.env))) (AP X pins σ Q) X.xe s
def PS (X:Cx)(st:i7)(t:TS):Prop:=
 ∀(pins:Za1) (s:gb) (σ:St) (H:Hp) (D:Io),Inv X pins σ H s->t D σ H->wpAny (model X.prog X.w) X.A (exec st X.env) (SP X pins D) X.xe s
def PSs (X:Cx)(st:List i7)(t:TS):Prop:=
 ∀(pins:Za1) (s:gb) (σ:St) (H:Hp) (D:Io),Inv X pins σ H s->t D σ H->wpAny (model X.prog X.w) X.A (execs st X.env) (SP X pins D) X.xe s
theorem thn {α:Type}{t:Sem α}{Q Q':α->gb->Prop}{E:Za0}(h:wpAny M A t Q E s)(hQ:∀a s,Q a s->Q' a s):wpAny M A t Q' E s:=km h hQ λ_ _ x=>x
theorem thE {σ:St}{e:ja}{t:TE}{Q:VK}{Q':Za0}(he:PE X e t)(I:Inv X pins σ H s)(h:t σ H Q)(k:∀u s1 x H1,Inv X pins σ H1 s1->Be x u->Q x H1->Q' u s1):wpAny (model X.prog X.w) X.A (eval e X.env) Q' X.xe s:=thn (he pins s σ H Q I h) λu s1 ⟨x,H1,a,b,c⟩=>k u s1 x H1 a b c
theorem thA {σ:St}{e:List ja}{t:TA}{Q:List V->Hp->Prop}{Q':Za3->gb->Prop}(he:PA X e t)(I:Inv X pins σ H s)(h:t σ H Q)(k:∀u s1 x H1,Inv X pins σ H1 s1->Az x u->Q x H1->Q' u s1):wpAny (model X.prog X.w) X.A (spliced (backTo pos (starEach e X.env))) Q' X.xe s:=thn (he pos pins s σ H Q I h) λu s1 ⟨x,H1,a,b,c⟩=>k u s1 x H1 a b c
section
variable {X:Cx}
def Aev (i:Nat):TE:=λσ H Q=>∃v,σ[i]?=en (en v)/\Q v H
def tC (v:V):TE:=λ_ H Q=>Q v H
theorem zK {i:Nat}{x:Str}(hN:X.N[i]?=en x)(hv:Vis X.env.scope x)(hd:autoParam ((x==("__debug__":Str))=NH) QF)(hcd:autoParam ((x==("__classdict__":Str))=NH) QF):PE X (.Name x pos) (Aev i):=by
 k_in;obtain⟨v,e,h⟩:=h;obtain⟨m,hn,hl⟩:=I.loc;obtain⟨u,r,l⟩:=hl i x v hN e hv;have fin:EP X pins σ Q u s:=⟨v,H,I,r,h⟩;rcases l with⟨hk,hm⟩|⟨hk,c,hc,hcell⟩
 .exact zw (yx I.ok.kind hk hn hm fin) hd
 .rcases hk with hk|hk
  .exact zw (GS I.ok.kind hk hc hcell fin) hd
  .exact zw (GR I.ok.kind hk hc hcell fin hcd) hd
theorem Af {i j pos}:PE X (.Constant (.int i) j pos) (tC (.int i)):=λ_ _ _ H _ I h=>wpAny_Constant_int {.int i,H,I.tok _,{_,rfl},h}
theorem Hu {b j pos}:PE X (.Constant (.bool b) j pos) (tC (.bl b)):=λ_ _ _ H _ I h=>Constant_bool {.bl b,H,I,rfl,h}
theorem C9 {j pos}:PE X (.Constant .none j pos) (tC .non):=λ_ _ _ H _ I h=>EK {.non,H,I,rfl,h}
theorem A5 {x j pos}:PE X (.Constant (.str x) j pos) (tC (.str x)):=λ_ _ _ H _ I h=>EL {.str x,H,I.tok _,{_,rfl},h}
def Gl (X:Cx)(x:Str):Prop:=X.env.kindOf x=en .globalImplicit
theorem Gu {E:Za0}{σ:St}{x:Str}{u:fu}{Q:Za0}(I:Inv X pins σ H s)(hg:Gl X x)(hm:X.mg x=en u)(h:Q u s)
  (hd:autoParam ((x==("__debug__":Str))=NH) QF):wpAny (model X.prog X.w) X.A (eval (.Name x pos) X.env) Q E s:=
 AL I.ok.kind hg (Calls.loadGlobal_global (by rw[I.ok.glob];exact I.mod.glob.keeps I.bk) hm h) hd
theorem Dv {E:Za0}{σ:St}{x:Str}{u:fu}{Q:Za0}(I:Inv X pins σ H s)(hg:Gl X x)(hm:X.mg x=p9)(hv:bootBuiltins x=en u)(h:Q u s)
  (hn:autoParam (x≠"__name__") QF)(hd:autoParam ((x==("__debug__":Str))=NH) QF):wpAny (model X.prog X.w) X.A (eval (.Name x pos) X.env) Q E s:=by
 obtain⟨mb,h1,h2⟩:=I.mod.blt;exact AL I.ok.kind hg (Calls.loadGlobal_builtin (by rw[I.ok.glob];exact I.mod.glob.keeps I.bk) hm (by rw[I.ok.blt];exact h1.keeps I.bk) ((h2 x hn).trans hv) h) hd
theorem Fn {x:Str}{v:V}{u:fu}(hg:Gl X x)(hm:X.mg x=en u)(r:Be v u)(hd:autoParam ((x==("__debug__":Str))=NH) QF):PE X (.Name x pos) (tC v):=
 λ_ _ _ H _ I h=>Gu I hg hm ⟨v,H,I,r,h⟩ hd
theorem Gp {x:Str}{v:V}{u:fu}(hg:Gl X x)(hm:X.mg x=p9)(hv:bootBuiltins x=en u)(r:Be v u)(hn:autoParam (x≠"__name__") QF)(hd:autoParam ((x==("__debug__":Str))=NH) QF):PE X (.Name x pos) (tC v):=
 λ_ _ _ H _ I h=>Dv I hg hm hv ⟨v,H,I,r,h⟩ hn hd
variable {a b:ja} {ta tb:TE} {pos:Pos}
def PC (X:Cx)(op:ye)(a b:ja)(t:TE):Prop:=
 ∀(pins:Za1) (s:gb) (σ:St) (H:Hp) (Q:VK),Inv X pins σ H s->t σ H Q ->
  wpAny (model X.prog X.w) X.A (eval a X.env) (λv QN=>wpAny (model X.prog X.w) X.A (eval b X.env) (λu QT=>wpAny (model X.prog X.w) X.A (compareOp op v u) (EP X pins σ Q) X.xe QT) X.xe QN) X.xe s
theorem Abb (b:ja)(h:op≠.In)(h2:op≠.NotIn):behindInMarks op b=NH:=by
 have e1:(op==LR)=NH:=by cases op<;>first|rfl|exact absurd rfl h
 have e2:(op==IJ)=NH:=by cases op<;>first|rfl|exact absurd rfl h2
 cases b<;>simp[behindInMarks,e1,e2]
def Aj2 (ta:TE):TE:=λσ H Q=>ta σ H λx H1=>Q (.bl (decide (x=.non))) H1
def Ae5 (ta:TE):TE:=λσ H Q=>ta σ H λx H1=>Q (.bl (!decide (x=.non))) H1
theorem Be.none_iff {x:V}{v:fu}(r:Be x v):(v==mr)=decide (x=.non):=by
 cases x with
 |non=>cases r;rfl
 |bl _=>cases r;rfl
 |int _=>obtain⟨t,rfl⟩:=r;rfl
 |str _=>obtain⟨t,rfl⟩:=r;rfl
 |byt _=>obtain⟨t,rfl⟩:=r;rfl
 |flt _=>obtain⟨t,rfl⟩:=r;rfl
 |ref _=>cases r;rfl
 |ty _=>cases r;rfl
theorem iD {j pos'}(ha:PE X a ta):PC X .Is a (.Constant .none j pos') (Aj2 ta):=by
 k_in;refine thE ha I h λv s1 x H1 I1 r1 q1=>?_;exact EK (is_none_gen {.bl _,H1,I1,by rw[r1.none_iff];rfl,q1})
theorem gJ {j pos'}(ha:PE X a ta):PC X .IsNot a (.Constant .none j pos') (Ae5 ta):=by
 k_in;refine thE ha I h λv s1 x H1 I1 r1 q1=>?_;exact EK (isnot_none_gen {.bl _,H1,I1,by rw[r1.none_iff];rfl,q1})
def tB (t:TE):TT:=λσ H Q=>t σ H λx H1=>∃c,x=.bl c/\Q c H1
theorem Nk {t:TE}(h:PC X op a b t)(h1:behindInMarks op b=NH:=by first|exact Abb _ (by decide) (by decide)|rfl):PT X (.Compare a [op] [b] pos) (tB t):=by
 intro pins s σ H Q I hw;refine wpAny_isTrue_Compare1 (thn (h pins s σ H _ I hw) λv s1 h1=>thn h1 λu s2 h2=>thn h2 λc s3 ⟨x,H1,I1,r1,q1⟩=>?_) h1;obtain⟨d,rfl,q⟩:=q1;cases r1;exact md ⟨H1,I1,q⟩
theorem B4 {e:ja}{t:TE}(h:PE X e t)(he:autoParam (∀whole,isTrue e X.env whole=(do let v <-whole;standAt e.pos;holding [v] (truthy v))) QJ):PT X e (tB t):=by
 intro pins s σ H Q I hw;refine isTrue_plain (thE h I hw λv s1 x H1 I1 r1 q1=>?_) (he _);obtain⟨d,rfl,q⟩:=q1;cases r1;exact md ⟨H1,I1,q⟩
variable {tA tB':TT} {rest:List ja}
def Ajp (t u:TT):TT:=λσ H Q=>t σ H λc H1=>if c=NG then u σ H1 Q else Q NH H1
def tOr (t u:TT):TT:=λσ H Q=>t σ H λc H1=>if c=NG then Q NG H1 else u σ H1 Q
def Aio (t:TT):TT:=λσ H Q=>t σ H λc H1=>Q (!c) H1
theorem Ma (ha:PT X a tA):PW X (.BoolOp .And [a] pos) tA:=by
 intro wh pins s σ H Q I h;refine isTrue_and (thn (ha pins s σ H Q I h) λc s1 e=>?_)
 cases c with
 |true=>exact isTrue_and_nil e
 |false=>exact e
theorem Ij (ha:PT X a tA):PW X (.BoolOp .Or [a] pos) tA:=by
 intro wh pins s σ H Q I h;refine isTrue_or (thn (ha pins s σ H Q I h) λc s1 e=>?_)
 cases c with
 |false=>exact isTrue_or_nil e
 |true=>exact e
theorem Rz (ha:PT X a tA)(hb:PW X (.BoolOp .And (b::rest) pos) tB'):PW X (.BoolOp .And (a::b::rest) pos) (Ajp tA tB'):=by
 intro wh pins s σ H Q I h;refine isTrue_and (thn (ha pins s σ H _ I h) λc s1 ⟨H1,I1,q1⟩=>?_)
 cases c with
 |true=>exact hb wh pins s1 σ H1 Q I1 q1
 |false=>exact⟨H1,I1,q1⟩
theorem Ie (ha:PT X a tA)(hb:PW X (.BoolOp .Or (b::rest) pos) tB'):PW X (.BoolOp .Or (a::b::rest) pos) (tOr tA tB'):=by
 intro wh pins s σ H Q I h;refine isTrue_or (thn (ha pins s σ H _ I h) λc s1 ⟨H1,I1,q1⟩=>?_)
 cases c with
 |true=>exact⟨H1,I1,q1⟩
 |false=>exact hb wh pins s1 σ H1 Q I1 q1
theorem Cw (ha:PT X a tA):PT X (.UnaryOp .Not a pos) (Aio tA):=by
 k_in;exact isTrue_not (ha pins s σ H (λc H1=>Q (!c) H1) I h)
def Afq (ta tb:TE):TE:=λσ H Q=>ta σ H λx H1=>∃c,x=.bl c/\if c=NG then tb σ H1 Q else Q (.bl NH) H1
def Aff (ta:TE):TE:=λσ H Q=>ta σ H λx H1=>∃c,x=.bl c/\Q (.bl (!c)) H1
theorem iN {op}{t:TE}(h:PE X a t):PE X (.BoolOp op [a] pos) t:=λpins s σ H Q I hw=>BoolOp_one (h pins s σ H Q I hw)
theorem fO (ha:PE X a ta)(hb:PE X (.BoolOp .And (b::rest) pos) tb):PE X (.BoolOp .And (a::b::rest) pos) (Afq ta tb):=by
 k_in;refine BoolOp_and (thE ha I h λv s1 x H1 I1 r1 q1=>?_);obtain⟨c,rfl,q1⟩:=q1;cases r1;refine md ?_
 cases c with
 |true=>exact hb pins s1 σ H1 Q I1 q1
 |false=>exact{.bl NH,H1,I1,rfl,q1}
theorem Abe (ha:PE X a ta):PE X (.UnaryOp .Not a pos) (Aff ta):=by
 k_in;refine UnaryOp_ (thE ha I h λv s1 x H1 I1 r1 q1=>?_);obtain⟨c,rfl,q1⟩:=q1;cases r1;exact not_of (md {.bl (!c),H1,I1,rfl,q1})
def tIf (t:TT)(ta tb:TE):TE:=λσ H Q=>t σ H λc H1=>if c=NG then ta σ H1 Q else tb σ H1 Q
theorem Ci {c:ja}(hc:PT X c tA)(ha:PE X a ta)(hb:PE X b tb):PE X (.IfExp c a b pos) (tIf tA ta tb):=by
 k_in;refine wpAny_IfExp (thn (hc pins s σ H _ I h) λd s1 ⟨H1,I1,q1⟩=>?_)
 cases d with
 |true=>exact ha pins s1 σ H1 Q I1 q1
 |false=>exact hb pins s1 σ H1 Q I1 q1
end
def SqL (K:e7)(H:Hp)(a:fe)(xs:List V):Prop:=
 Rd H a (.lst xs) \/
  ∃(o:Obj) (its:Array fu) (n:Nat),K.lookup a=en o/\o.cls=.type "list"/\o.dict=p9/\o.data=.seq its n/\its.8<=sizeLine/\Az xs its.7
def SqT (K:e7)(H:Hp)(a:fe)(xs:List V):Prop:=
 Rd H a (.tup xs) \/
  ∃(o:Obj) (its:Array fu) (n:Nat),K.lookup a=en o/\o.cls=.type "tuple"/\o.data=.seq its n/\its.8<=sizeLine/\Az xs its.7
def Ak8:fu->Option V
 |.none=>en .non
 |.bool b=>en (.bl b)
 |.int i _=>en (.int i)
 |.str x _=>en (.str x)
 |.bytes b _=>en (.byt b)
 |.float b _=>en (.flt b)
 |.ref a=>en (.ref a)
 |.type n=>en (.ty n)
 |_=>p9
theorem Be.abs {x:V}{u:fu}(r:Be x u):Ak8 u=en x:=by
 cases x with
 |non=>cases r;rfl
 |bl _=>cases r;rfl
 |int _=>obtain⟨t,rfl⟩:=r;rfl
 |str _=>obtain⟨t,rfl⟩:=r;rfl
 |byt _=>obtain⟨t,rfl⟩:=r;rfl
 |flt _=>obtain⟨t,rfl⟩:=r;rfl
 |ref _=>cases r;rfl
 |ty _=>cases r;rfl
theorem Be.inj {x:V}{u:fu}(r:Be x u)(q:Be y u):x=y:=fk (r.abs.symm.trans q.abs)
theorem Az.inj:∀{xs ys:List V} {us:Za3},Az xs us->Az ys us->xs=ys
 |_,_,_,.nil,.nil=>rfl
 |_,_,_,.cons r t,.cons r' t'=>by rw[r.inj r',Az.inj t t']
section
variable {X:Cx} {pins:Za1} {σ:St} {H:Hp} {s:gb} {a:fe} {xs ys:List V}
theorem SqL.of {K:e7}(h:H a=en (.lst xs)):SqL K H a xs:=.inl (.inl h)
theorem SqT.of {K:e7}(h:H a=en (.tup xs)):SqT K H a xs:=.inl (.inl h)
theorem Inv.list (I:Inv X pins σ H s)(h:SqL X.K H a xs):∃its:Za3,Az xs its/\PlainL s.5 a its.6/\xs.9<=sizeLine:=by
 rcases h with h|⟨o,its,n,hk,hc,hd,hs,hz,r⟩
 .obtain⟨z,its,n,r,e⟩:=h.ok I.hok
  exact{its,r,{_,n,e,rfl,rfl,rfl},z}
 .refine{its.7,r,{o,n,I.kIn a o hk,hc,hd,by simpa using hs},?_}
  have e:=r.9;simp only[ie] at e;lia
theorem Inv.tuple (I:Inv X pins σ H s)(h:SqT X.K H a xs):∃its:Za3,Az xs its/\IsTup s.5 a its.6/\xs.9<=sizeLine:=by
 rcases h with h|⟨o,its,n,hk,hc,hs,hz,r⟩
 .obtain⟨z,its,r,p⟩:=h.ok I.hok
  exact⟨its,r,p,z⟩
 .refine{its.7,r,{o,I.kIn a o hk,hc,n,by simpa using hs},?_}
  have e:=r.9;simp only[ie] at e;lia
theorem Inv.list_inj (I:Inv X pins σ H s)(h:SqL X.K H a xs)(h':SqL X.K H a ys):xs=ys:=by
 obtain⟨its,r,⟨o,n,e,_,_,d⟩,_⟩:=I.list h;obtain⟨its',r',⟨o',n',e',_,_,d'⟩,_⟩:=I.list h';rw[e] at e';cases e';rw[d] at d'
 injection d' with d1 _
 have:its=its':=by simpa using congrArg HQ d1
 subst this;exact r.inj r'
theorem Inv.tuple_inj (I:Inv X pins σ H s)(h:SqT X.K H a xs)(h':SqT X.K H a ys):xs=ys:=by
 obtain⟨its,r,⟨o,e,_,n,d⟩,_⟩:=I.tuple h;obtain⟨its',r',⟨o',e',_,n',d'⟩,_⟩:=I.tuple h';rw[e] at e';cases e';rw[d] at d'
 injection d' with d1 _
 have:its=its':=by simpa using congrArg HQ d1
 subst this;exact r.inj r'
end
abbrev Cx.wish (X:Cx)(E:Za0):Cx:={ X with xe:=E }
abbrev Cx.nox (X:Cx):Cx:=X.wish λ_ _=>False
theorem Cx.Ok.wish (ok:X.Ok)(E:Za0):(X.wish E).Ok:=
 ⟨ok.mod,ok.kind,ok.glob,ok.blt,ok.above,ok.inj,ok.has,ok.cab,ok.hd,ok.frames,ok.stk,ok.exf,ok.bs,ok.bsz,ok.noex,ok.exfs,ok.funs,ok.frf⟩
theorem Cx.Ok.unwish {E:Za0}(ok:(X.wish E).Ok):X.Ok:=
 ⟨ok.mod,ok.kind,ok.glob,ok.blt,ok.above,ok.inj,ok.has,ok.cab,ok.hd,ok.frames,ok.stk,ok.exf,ok.bs,ok.bsz,ok.noex,ok.exfs,ok.funs,ok.frf⟩
section
variable {X:Cx} {pins:Za1} {σ:St} {H:Hp} {s:gb} {E:Za0}
theorem Inv.wish (I:Inv X pins σ H s)(E:Za0):Inv (X.wish E) pins σ H s:={I.ok.wish E,I.os,I.bare,I.base,I.loc,I.cell,I.free,I.freeC,I.pin,I.hok,I.len}
theorem Inv.unwish (I:Inv (X.wish E) pins σ H s):Inv X pins σ H s:=⟨I.ok.unwish,I.os,I.bare,I.base,I.loc,I.cell,I.free,I.freeC,I.pin,I.hok,I.len⟩
theorem SP.unwish {D:Io}{f:Flow}{s':gb}(h:SP (X.wish E) pins D f s'):SP X pins D f s':=by
 cases f with
 |next=>obtain⟨QM,H',I,q⟩:=h;exact⟨QM,H',I.unwish,q⟩
 |brk=>obtain⟨QM,H',I,q⟩:=h;exact⟨QM,H',I.unwish,q⟩
 |cont=>obtain⟨QM,H',I,q⟩:=h;exact⟨QM,H',I.unwish,q⟩
 |ret u=>obtain⟨v,QM,H',I,r,q⟩:=h;exact⟨v,QM,H',I.unwish,r,q⟩
theorem PSs.nox {st:List i7}{t:TS}(h:PSs X.nox st t):PSs X st t:=λpins s σ H D I hw=>
 km (h pins s σ H D (I.wish _) hw) (λ_ _ q=>q.unwish) λ_ _ z=>ky z
end
section
variable {X:Cx} {st:i7} {rest:List i7} {t u:TS} {e:ja} {te:TE} {pos:Pos}
def Afz:TS:=λD σ H=>D.nx σ H
def Agn (t u:TS):TS:=λD σ H=>t { D with nx:=u D } σ H
theorem Au:PSs X [] Afz:=λ_ _ σ H _ I h=>qo ⟨σ,H,I,h⟩
theorem Ab (h1:PS X st t)(h2:PSs X rest u):PSs X (st::rest) (Agn t u):=by
 k_end;refine wpAny_execs_cons (thn (h1 pins s σ H { D with nx:=u D } I h) λf s1 q=>?_)
 cases f with
 |next=>
  obtain⟨QM,H',I',q⟩:=q;exact h2 pins s1 QM H' D I' q
 |ret v=>exact q
 |brk=>exact q
 |cont=>exact q
theorem Ad (h1:PS X st t):PSs X [st] t:=by
 k_end;refine wpAny_execs_cons (thn (h1 pins s σ H D I h) λf s1 q=>?_)
 cases f with
 |next=>exact qo q
 |ret v=>exact q
 |brk=>exact q
 |cont=>exact q
theorem Inv.quiet {σ:St}(I:Inv X pins σ H s):interactive X.env=NH:=by simp[interactive,I.ok.kind]
def Acc (te:TE):TS:=λD σ H=>te σ H λ_ H1=>D.nx σ H1
theorem As (he:PE X e te)(hs:autoParam (swapsWith e p9 pos.line X.env=pure NH) QD):PS X (.Expr e pos) (Acc te):=by
 k_end;exact wpAny_Expr_any (thE he I h λv s1 x H1 I1 r1 q1=>⟨σ,H1,I1,q1⟩) I.quiet hs
def Aj0 (te:TE):TS:=λD σ H=>te σ H D.rt
theorem Am (he:PE X e te):PS X (.Return (en e) pos) (Aj0 te):=by
 k_end;exact wpAny_Return_some (thE he I h λv s1 x H1 I1 r1 q1=>⟨x,σ,H1,I1,r1,q1⟩)
def Ag3 (c:TT)(t u:TS):TS:=λD σ H=>c σ H λb H1=>if b=NG then t D σ H1 else u D σ H1
theorem Bl {c:ja}{a b:List i7}{tc:TT}(hc:PT X c tc)(ha:PSs X a t)(hb:PSs X b u):PS X (.If c a b pos) (Ag3 tc t u):=by
 k_end;refine wpAny_If (thn (hc pins s σ H _ I h) λd s1 ⟨H1,I1,q1⟩=>?_)
 cases d with
 |true=>exact ha pins s1 σ H1 D I1 q1
 |false=>exact hb pins s1 σ H1 D I1 q1
def Agv:TS:=λ_ _ _=>False
theorem C7:PS X st Agv:=λ_ _ _ _ _ _ h=>h.elim
end
abbrev TG:=V->St->Hp->(St->Hp->Prop)->Prop
abbrev TGs:=List V->St->Hp->(St->Hp->Prop)->Prop
def PG (X:Cx)(target:ja)(t:TG):Prop:=
 ∀(pins:Za1) (s:gb) (σ:St) (H:Hp) (v:V) (u:fu) (Q:St->Hp->Prop),Inv X pins σ H s->Be v u->t v σ H Q ->
  wpAny (model X.prog X.w) X.A (assign target X.env u) (λ_ s'=>∃QM H',Inv X pins QM H' s'/\Q QM H') X.xe s
def PGs (X:Cx)(ts:List ja)(t:TGs):Prop:=
 ∀(pins:Za1) (s:gb) (σ:St) (H:Hp) (vs:List V) (us:Za3) (Q:St->Hp->Prop),Inv X pins σ H s->Az vs us->t vs σ H Q ->
  wpAny (model X.prog X.w) X.A (assignInOrder ((assignEach ts X.env).map (·.2)) us) (λ_ s'=>∃QM H',Inv X pins QM H' s'/\Q QM H') X.xe s
abbrev Ad2:=V->V->V->Hp->(Hp->Prop)->Prop
def Akf (X:Cx)(t:Ad2):Prop:=
 ∀(pins:Za1) (s:gb) (σ:St) (H:Hp) (o i v:V) (ov iv u:fu) (Q:Hp->Prop),Inv X pins σ H s->Be o ov->Be i iv->Be v u->t o i v H Q ->
  wpAny (model X.prog X.w) X.A (setItem ov iv u) (λ_ s'=>∃H',Inv X pins σ H' s'/\Q H') X.xe s
abbrev TIp:=V->V->Hp->VK->Prop
def PIp (X:Cx)(op:GL)(t:TIp):Prop:=
 ∀(pins:Za1) (s:gb) (σ:St) (H:Hp) (x y:V) (v u:fu) (Q:VK),Inv X pins σ H s->Be x v->Be y u->t x y H Q ->
  wpAny (model X.prog X.w) X.A (inplaceOp op v u) (EP X pins σ Q) X.xe s
section
variable {X:Cx} {pos:Pos}
def Dd (i:Nat):TG:=λv σ H Q=>Q (σ.set i (en v)) H
theorem Oi {i:Nat}{x:Str}(hN:X.N.Nodup)(hi:X.N[i]?=en x)(hx:Loc X.env.scope x)(hf:autoParam (X.fn x=NG\/X.env.scope.names.lookup x=en .local) QH):PG X (.Name x pos) (Dd i):=by
 intro pins s σ H v u Q I r h;exact wpAny_assign_Name (Of I hN hi hx r (λs' I'=>{_,H,I',h}) hf)
def lX:TGs:=λvs σ H Q=>vs=[]/\Q σ H
def Ih (t:TG)(u:TGs):TGs:=λvs σ H Q=>∃v r,vs=v::r/\t v σ H λQM H'=>u r QM H' Q
theorem Hd:PGs X [] lX:=by
 intro pins s σ H vs us Q I r h;obtain⟨e,h⟩:=h;subst e;cases r;exact assignInOrder_nil ⟨σ,H,I,h⟩
theorem B6 {e:ja}{es:List ja}{t:TG}{u:TGs}(h1:PG X e t)(h2:PGs X es u)
  (hs:autoParam ((assignEach (e::es) X.env).map (·.2)=assign e X.env::(assignEach es X.env).map (·.2)) QD):PGs X (e::es) (Ih t u):=by
 intro pins s σ H vs us Q I r h;obtain⟨v,vr,e1,h⟩:=h;subst e1
 cases r with
 |cons r rr=>
  rw[hs];refine assignInOrder_cons (thn (h1 pins s σ H _ _ _ I r h) λ_ s1 ⟨XA,H1,I1,q1⟩=>?_);exact h2 pins s1 XA H1 _ _ Q I1 rr q1
def nB (K:e7)(n:Nat)(t:TGs):TG:=λv σ H Q=>∃a xs,v=.ref a/\SqT K H a xs/\xs.9=n/\t xs σ H Q
theorem Kt {es:List ja}{k:Nat}{t:TGs}{n:Nat}(hc:X.calm=NG)(h:PGs X es t)
  (hn:autoParam ((assignEach es X.env).9=n) QD)(hst:autoParam ((assignEach es X.env).findIdx? (·.1)=p9) QD):PG X (.Tuple es k pos) (nB X.K n t):=by
 intro pins s σ H v u Q I r hw;obtain⟨a,xs,e1,hq,hl,hw⟩:=hw;subst e1;cases r;obtain⟨its,rv,ht,hz⟩:=I.tuple hq;refine assign_Tuple_tuple (I.ok.hd hc) ht (by simp[hn,<-hl,rv.9]) hst λh' hx=>?_;have I1:Inv X pins σ H { s with heap:=h' }:=I.kept (t':=s.toks) λb o e=>hx b o (io (gi e)) e;exact h pins _ σ H xs _ Q I1 (by simpa using rv) hw
def Aie (to ti:TE)(t:Ad2):TG:=λv σ H Q=>to σ H λo H1=>ti σ H1 λi H2=>t o i v H2 λH3=>Q σ H3
theorem qL {o i:ja}{to ti:TE}{t:Ad2}(ho:PE X o to)(hi:PE X i ti)(hs:Akf X t)
  (ha:autoParam (∀v,assign (.Subscript o i pos) X.env v=(do
   let ov <-holding [v] (eval o X.env)
   let iv <-holding [v,ov] (eval i X.env)
   standAt pos
   holding [v,ov,iv] (setItem ov iv v)
   release [v,ov,iv] [])) QJ):PG X (.Subscript o i pos) (Aie to ti t):=by
 intro pins s σ H v u Q I r h;rw[ha];refine wpAny_bind (wpAny_holding (thE ho I h λov s1 x H1 I1 r1 q1=>?_));refine wpAny_bind (wpAny_holding (thE hi I1 q1 λiv s2 y H2 I2 r2 q2=>?_));refine wpAny_bind (ql (wpAny_bind (wpAny_holding (thn (hs pins s2 σ H2 x y v ov iv u _ I2 r1 r2 r q2) λ_ s3 ⟨H3,I3,q3⟩=>?_))));exact wpAny_release ⟨σ,H3,I3,q3⟩
def lR (te:TE)(g:TG):TS:=λD σ H=>te σ H λx H1=>g x σ H1 D.nx
theorem rB {e:ja}{g:TG}(he:PE X e te)(hg:PG X tg g)(hs:autoParam (swapsWithSole [tg] e pos.line X.env=pure NH) QD)(hw:autoParam (swappedStores [tg] e X.env=pure p9) QD)
  (h1:autoParam ((assignEach [tg] X.env).map (·.2)=[assign tg X.env]) QD):PS X (.Assign [tg] e pos) (lR te g):=by
 k_end;refine wpAny_Assign_stores (thE he I h λv s1 x H1 I1 r1 q1=>?_) hs hw;rw[h1];exact thn (hg pins s1 σ H1 x v _ I1 r1 q1) λ_ s2 q=>q
theorem P5 {i:Nat}{x:Str}{e:ja}{pos':Pos}(hN:X.N.Nodup)(hi:X.N[i]?=en x)(hx:Loc X.env.scope x)(he:PE X e te)(hs:autoParam (swapsWith e (en (.Name x pos')) pos.line X.env=pure NH) QD)(hf:autoParam (X.fn x=NG\/X.env.scope.names.lookup x=en .local) QH) :
  PS X (.Assign [.Name x pos'] e pos) (lR te (Dd i)):=by
 k_end;refine wpAny_Assign_Name (thE he I h λv s1 y H1 I1 r1 q1=>?_) hs;exact Of I1 hN hi hx r1 (λs2 I2=>{_,H1,I2,q1}) hf
def Ahn (i:Nat)(te:TE)(ti:TIp):TS:=λD σ H=>∃x,σ[i]?=en (en x)/\te σ H λy H1=>ti x y H1 λz H2=>D.nx (σ.set i (en z)) H2
theorem Ags {i:Nat}{x:Str}{e:ja}{op:GL}{ti:TIp}{pos':Pos}(hN:X.N.Nodup)(hi:X.N[i]?=en x)(hx:Loc X.env.scope x)(he:PE X e te)(ho:PIp X op ti)(hf:autoParam (X.fn x=NG\/X.env.scope.names.lookup x=en .local) QH) :
  PS X (.AugAssign (.Name x pos') op e pos) (Ahn i te ti):=by
 k_end;obtain⟨v,e1,h⟩:=h;obtain⟨m,hn,hl⟩:=I.loc;have vis:Vis X.env.scope x:=by rcases hx with k|k;exact .inl k;exact .inr (.inl k)
 obtain⟨u,r,l⟩:=hl i x v hi e1 vis;refine wpAny_AugAssign_Name ?_;have go:wpAny (model X.prog X.w) X.A (eval e X.env) (λw QT=>wpAny (model X.prog X.w) X.A (inplaceOp op u w) (λr QY=>wpAny (model X.prog X.w) X.A (storeName X.env x r) (λ_=>SP X pins D .next) X.xe QY) X.xe QT) X.xe s:=by
  refine thE he I h λw s1 y H1 I1 r1 q1=>?_;refine thn (ho pins s1 σ H1 v y u w _ I1 r r1 q1) λz s2 ⟨zv,H2,I2,r2,q2⟩=>?_;exact Of I2 hN hi hx r2 (λs3 I3=>{_,H2,I3,q2}) hf
 rcases l with⟨hk,hm⟩|⟨hk,c,hc,hcell⟩
 .exact yx I.ok.kind hk hn hm go
 .rcases hk with hk|hk
  .exact GS I.ok.kind hk hc hcell go
  .rcases hx with k|k
   .have:X.env.scope.names.lookup x=en .free:=hk
    rw[k] at this;cases this
   .have:X.env.scope.names.lookup x=en .free:=hk
    rw[k] at this;cases this
def ipI (f:Int->Int->Int):TIp:=λx y H Q=>∃i j,x=.int i/\y=.int j/\Q (.int (f i j)) H
theorem N3:PIp X .Add (ipI λi j=>i+j):=by
 intro pins s σ H x y v u Q I r1 r2 h;obtain⟨i,j,e1,e2,q⟩:=h;subst e1;subst e2;obtain⟨t,rfl⟩:=r1;obtain⟨t',rfl⟩:=r2;exact iadd_int {.int _,H,I.tok _,{_,rfl},q}
theorem yQ:PIp X .Sub (ipI λi j=>i-j):=by
 intro pins s σ H x y v u Q I r1 r2 h;obtain⟨i,j,e1,e2,q⟩:=h;subst e1;subst e2;obtain⟨t,rfl⟩:=r1;obtain⟨t',rfl⟩:=r2;exact isub_int {.int _,H,I.tok _,{_,rfl},q}
end
section
variable {X:Cx} {pos:Pos}
def Ab6 (c:TT)(tb:TS):TS:=λD σ H=>∃W:Nat->St->Hp->Prop,(∃m,W m σ H)/\∀m σ H,W m σ H ->
 c σ H λb H1=>if b=NG then ∃N:St->Hp->Prop,(∀QM H',N QM H'->∃m',m'<m/\W m' QM H')/\tb { D with nx:=N,ct:=N,bk:=D.nx } σ H1 else D.nx σ H1
theorem Eu {c:ja}{body:List i7}{tc:TT}{tb:TS}(hp:PassesOwn (model X.prog X.w) X.A X.env X.xe)(hc:PT X c tc)(hb:PSs X body tb):PS X (.While c body [] pos) (Ab6 tc tb):=by
 k_end;obtain⟨W,⟨m0,w0⟩,turn⟩:=h;refine wpAny_While (codeAny_whileLoop (λn s'=>∃QM H',Inv X pins QM H' s'/\W n QM H') ?_ m0 ⟨σ,H,I,w0⟩);rintro n s1 ⟨XA,H1,I1,w1⟩;refine wpAny_passesOwn hp (thn (hc pins s1 XA H1 _ I1 (turn n XA H1 w1)) λb s2 ⟨H2,I2,q2⟩=>?_)
 cases b with
 |true=>
  obtain⟨N,hN,q2⟩:=q2;rw[if_pos rfl];refine wpAny_passesOwn hp (thn (hb pins s2 XA H2 _ I2 q2) λf s3 q3=>?_)
  cases f with
  |next=>
   obtain⟨QW,H3,I3,n3⟩:=q3;obtain⟨m',hm,w3⟩:=hN QW H3 n3;exact⟨m',hm,QW,H3,I3,w3⟩
  |cont=>
   obtain⟨QW,H3,I3,n3⟩:=q3;obtain⟨m',hm,w3⟩:=hN QW H3 n3;exact⟨m',hm,QW,H3,I3,w3⟩
  |brk=>exact q3
  |ret v=>exact q3
 |false=>
  rw[if_neg ik];exact qo ⟨XA,H2,I2,q2⟩
end
structure It where
 go:Nat->Hp->Prop
 yld:Nat->Hp->V->Hp->Prop
 stop:Nat->Hp->Prop
def Uv (X:Cx)(pins:Za1)(H:Hp)(b:fe):Prop:=
 H b=p9/\b≠X.env.locals/\b∉X.fs/\(b∈X.ex\/X.mt.heap.objs.8<=b)/\(∀x c,X.env.cells.lookup x=en c->c≠b)/\∀p∈X.pn++pins,p.1≠b
theorem Inv.fpOk {σ:St}{b:fe}(I:Inv X pins σ H s)(hb:s.heap.objs.8<=b)(hn:H' b=p9):Uv X pins H' b:=by
 refine{hn,j8 (gh I.lt hb),I.nofs hb,.inr (iy I.sz hb),λx c e z=>?_,λp hp z=>?_}
 .obtain⟨v,q⟩:=I.cell x c e
  exact absurd (gh q.lt (by rw[z];exact hb)) (m5 _)
 .exact absurd (gh (gi (I.pin p hp).1) (by rw[z];exact hb)) (m5 _)
structure Su (P:gm) (w:iz) (K:e7) (tg:ja) (J:It) (fp:List fe) (it:fe) (tn:Nat->i8->Prop):Prop where
 mem:it∈fp
 obj:∀i h,tn i h->∀b∈fp,∃o,h.get? b=en o/\∀v,o.data≠.cell v
 keep:∀i h h',tn i h->(∀b∈fp,∀o,h.get? b=en o->h'.get? b=en o)->tn i h'
 item:∀(X:Cx),X.prog=P->X.w=w->X.K=K->X.calm=NG->∀(i:Nat) (pins:Za1) (s:gb) (σ:St) (H:Hp) (E:Za0),Inv X pins σ H s->(∀b∈fp,Uv X pins H b)->tn i s.5->J.go i H ->
  wpAny (model P w) X.A (pyNext (.ref it)) (λr s1=>∃u,r=en u /\
   wpAny (model P w) X.A (letOwnedTupleGo tg (.ref it) u) (λ_ s2=>∃x H',Inv X pins σ H' s2/\Be x u/\J.yld i H x H'/\tn (i+1) s2.5/\∀b∈fp,H' b=p9) E s1) E s
 done:∀(X:Cx),X.prog=P->X.w=w->X.K=K->X.calm=NG->∀(i:Nat) (pins:Za1) (s:gb) (σ:St) (H:Hp) (E:Za0),Inv X pins σ H s->(∀b∈fp,Uv X pins H b)->tn i s.5->J.stop i H ->
  wpAny (model P w) X.A (pyNext (.ref it)) (λr s1=>r=p9/\Inv X pins σ H s1) E s
 self:∀(A:jd) (i:Nat) (s:gb) (Q:Za0) (E:Za0),tn i s.5->Q (.ref it) s->wpAny (model P w) A (pyIter (.ref it)) Q E s
abbrev TI:=St->Hp->(It->Hp->Prop)->Prop
def PIE (X:Cx)(pins:Za1)(σ:St)(tg:ja)(R:It->Hp->Prop)(itv:fu)(s2:gb):Prop:=
 ∃(it:fe) (fp:List fe) (tn:Nat->i8->Prop) (J:It) (H':Hp),itv=.ref it/\Inv X pins σ H' s2/\Su X.prog X.w X.K tg J fp it tn/\tn 0 s2.5/\(∀b∈fp,Uv X pins H' b)/\R J H'
def PI (X:Cx)(tg iter:ja)(wi:TI):Prop:=
 ∀(pins:Za1) (s:gb) (σ:St) (H:Hp) (R:It->Hp->Prop),Inv X pins σ H s->wi σ H R ->
  wpAny (model X.prog X.w) X.A (eval iter X.env) (λv s1=>wpAny (model X.prog X.w) X.A (pyIter v) (PIE X pins σ tg R) X.xe s1) X.xe s
theorem Yz {E:Za0}{u:fu}{o:Obj}{n:String}{vs:Array fu}{Q:Unit->gb->Prop}(ho:s.heap.get? it=en o)(hc:o.cls=.type n)(hd:o.data=.fields vs)
    (hn : ["enumerate", "zip", "dict_itemiterator", "dict_reverseitemiterator", "odict_iterator", "itertools.zip_longest", "itertools.pairwise"].contains n = NH)(hQ : Q .unit s) : wpAny M A (letOwnedTupleGo tg (.ref it) u) Q E s := by
  unfold letOwnedTupleGo;cases tg <;> first
    | exact fw hQ
    | (cases u <;> first
        | exact fw hQ
        | (refine wpAny_bind (wpAny_load ho ?_)
           rw [hc, hd];show wpAny M A (if (["enumerate", "zip", "dict_itemiterator", "dict_reverseitemiterator", "odict_iterator", "itertools.zip_longest", "itertools.pairwise"].contains n && vs[0]? == en (rawInt _)) = NG then _ else _) Q E s;rw [if_neg (by intro h; rw [hn, xr] at h; cases h)];exact fw hQ))
def Itl (K:e7)(a:fe):It:=
 {λi H=>∃xs x,SqL K H a xs/\xs[i]?=en x,λi H x H'=>H'=H/\∀xs,SqL K H a xs->xs[i]?=en x,λi H=>∃xs,SqL K H a xs/\xs.9<=i}
def Itt (K:e7)(a:fe):It:=
 {λi H=>∃xs x,SqT K H a xs/\xs[i]?=en x,λi H x H'=>H'=H/\∀xs,SqT K H a xs->xs[i]?=en x,λi H=>∃xs,SqT K H a xs/\xs.9<=i}
def Itr (lo:Int)(n:Nat):It:={λi _=>i<n,λi H x H'=>H'=H/\x=.int (lo+i),λi _=>n<=i}
theorem wQ {P:gm}{K:e7}(a it:fe):Su P w K tg (Itl K a) [it] it (λi h=>h.IsListIter it a i) where
 mem:=by simp
 obj:=λi h st b hb=>by
  have e:b=it:=by simpa using hb
  subst e;obtain⟨o,e,c,d⟩:=st;exact{o,e,λv z=>by rw[d] at z;cases z}
 keep:=λi h h' st k=>st.at λo e=>k it (by simp) o e
 item:=by
  intro X hP hw hK hc i pins s σ H E I hf st hg;subst hP hw hK;obtain⟨xs,x,hq,hx⟩:=hg;obtain⟨its,rv,p,hz⟩:=I.list hq;obtain⟨u,hu,ru⟩:=rv.get hx;obtain⟨f0,f1,f2,f3,f4,f5⟩:=hf it (by simp);refine EW st p.isList (x:=u) (by simpa using hu) λh' st' sb=>?_;have I1:Inv X pins σ H { s with heap:=h' }:=I.turned (t':=s.toks) (λb o hb e=>(sb.2 b hb).trans e) f0 f1 f3 f4 f5;obtain⟨o,e,c,d⟩:=id st';exact⟨u,rfl,Yz (s:={ s with heap:=h' }) e c d (by decide) ⟨x,H,I1,ru,⟨rfl,λys hy=>by rw[I.list_inj hy hq];exact hx⟩,st',λb hb=>(hf b hb).1⟩⟩
 done:=by
  intro X hP hw hK hc i pins s σ H E I hf st hg;subst hP hw hK;obtain⟨xs,hq,hx⟩:=hg;obtain⟨its,rv,p,hz⟩:=I.list hq;obtain⟨f0,f1,f2,f3,f4,f5⟩:=hf it (by simp);have hl:=rv.9;exact FG (I.ok.hd hc) st p.isList (by simp;lia) λh' eb=>{rfl,I.turned (t':=s.toks) (λb o hb e=>eb b o hb e) f0 f1 f3 f4 f5}
 self:=λ_ _ _ _ _ st h=>wpAny_pyIter_listiter st h
theorem qG {P:gm}{K:e7}(a it:fe):Su P w K tg (Itt K a) [it] it (λi h=>h.IsTupleIter it a i) where
 mem:=by simp
 obj:=λi h st b hb=>by
  have e:b=it:=by simpa using hb
  subst e;obtain⟨o,e,c,d⟩:=st;exact{o,e,λv z=>by rw[d] at z;cases z}
 keep:=λi h h' st k=>st.at λo e=>k it (by simp) o e
 item:=by
  intro X hP hw hK hc i pins s σ H E I hf st hg;subst hP hw hK;obtain⟨xs,x,hq,hx⟩:=hg;obtain⟨its,rv,p,hz⟩:=I.tuple hq;obtain⟨u,hu,ru⟩:=rv.get hx;obtain⟨f0,f1,f2,f3,f4,f5⟩:=hf it (by simp);refine wpAny_pyNext_tuple_item st (show s.heap.IsTuple a its.6 from p) (x:=u) (by simpa using hu) λh' st' sb=>?_;have I1:Inv X pins σ H { s with heap:=h' }:=I.turned (t':=s.toks) (λb o hb e=>(sb.2 b hb).trans e) f0 f1 f3 f4 f5;obtain⟨o,e,c,d⟩:=id st';exact⟨u,rfl,Yz (s:={ s with heap:=h' }) e c d (by decide) ⟨x,H,I1,ru,⟨rfl,λys hy=>by rw[I.tuple_inj hy hq];exact hx⟩,st',λb hb=>(hf b hb).1⟩⟩
 done:=by
  intro X hP hw hK hc i pins s σ H E I hf st hg;subst hP hw hK;obtain⟨xs,hq,hx⟩:=hg;obtain⟨its,rv,p,hz⟩:=I.tuple hq;obtain⟨f0,f1,f2,f3,f4,f5⟩:=hf it (by simp);have hl:=rv.9;exact wpAny_pyNext_tuple_end (I.ok.hd hc) st (show s.heap.IsTuple a its.6 from p) (by simp;lia) λh' eb=>{rfl,I.turned (t':=s.toks) (λb o hb e=>eb b o hb e) f0 f1 f3 f4 f5}
 self:=λ_ _ _ _ _ st h=>wpAny_pyIter_tupleiter st h
theorem oV {P:gm}{K:e7}(it:fe)(lo:Int)(n:Nat):Su P w K tg (Itr lo n) [it] it (λi h=>BU h it (lo+(i:Nat)*1) ((n:Int)-(i:Nat)) 1) where
 mem:=by simp
 obj:=λi h st b hb=>by
  have e:b=it:=by simpa using hb
  subst e;exact⟨_,st,λv z=>by
   have z':DZ _=LQ v:=z;cases z'⟩
 keep:=λi h h' st k=>k it (by simp) _ st
 item:=by
  intro X hP hw hK hc i pins s σ H E I hf st hg;subst hP hw hK;obtain⟨f0,f1,f2,f3,f4,f5⟩:=hf it (by simp);have W:=HS (prog:=X.prog) (w:=X.w) (I.ok.hd hc) it lo 1 n;refine W.item i s _ _ hg st λv h' tk hv st' kk=>?_;obtain⟨t,rfl⟩:=hv;have I1:Inv X pins σ H { s with heap:=h',toks:=tk }:=I.turned (λb o hb e=>kk b o (by simpa using hb) e) f0 f1 f3 f4 f5;refine⟨_,rfl,Yz (s:={ s with heap:=h',toks:=tk }) (n:="range_iterator") st' rfl rfl (by decide) ⟨.int (lo+i),H,I1,⟨t,?_⟩,⟨rfl,rfl⟩,st',λb hb=>(hf b hb).1⟩⟩;rw[Int.mul_one]
 done:=by
  intro X hP hw hK hc i pins s σ H E I hf st hg;subst hP hw hK;obtain⟨f0,f1,f2,f3,f4,f5⟩:=hf it (by simp);exact EV (I.ok.hd hc) st (by have:n<=i:=hg;lia) λh' eb=>{rfl,I.turned (t':=s.toks) (λb o hb e=>eb b o hb e) f0 f1 f3 f4 f5}
 self:=λ_ _ _ _ _ st h=>EX st h
section
variable {X:Cx} {tg:ja}
def Afv (K:e7)(tl:TE):TI:=λσ H R=>tl σ H λx H1=>∃a,x=.ref a/\(∃xs,SqL K H1 a xs)/\R (Itl K a) H1
def Af1 (K:e7)(tl:TE):TI:=λσ H R=>tl σ H λx H1=>∃a,x=.ref a/\(∃xs,SqT K H1 a xs)/\R (Itt K a) H1
theorem Ey {l:ja}{tl:TE}(hl:PE X l tl):PI X tg l (Afv X.K tl):=by
 intro pins s σ H R I h;refine thE hl I h λv s1 x H1 I1 r1 q1=>?_;obtain⟨a,e,⟨xs,hq⟩,q⟩:=q1;subst e;cases r1;obtain⟨its,rv,p,hz⟩:=I1.list hq;refine AE p.isList ?_;refine{s1.heap.objs.8,[s1.heap.objs.8],_,_,H1,rfl,I1.kept (t':=s1.toks) λb o e=>fj _ e,wQ a _,{_,gu _ rfl,rfl,rfl},λb hb=>?_,q};have e:b=s1.heap.objs.8:=by simpa using hb
 subst e;exact I1.fpOk (fm _) (I1.hok.fresh (fm _))
theorem pX {l:ja}{tl:TE}(hl:PE X l tl):PI X tg l (Af1 X.K tl):=by
 intro pins s σ H R I h;refine thE hl I h λv s1 x H1 I1 r1 q1=>?_;obtain⟨a,e,⟨xs,hq⟩,q⟩:=q1;subst e;cases r1;obtain⟨its,rv,p,hz⟩:=I1.tuple hq;refine wpAny_pyIter_tuple (show s1.heap.IsTuple a its.6 from p) ?_;refine{s1.heap.objs.8,[s1.heap.objs.8],_,_,H1,rfl,I1.kept (t':=s1.toks) λb o e=>fj _ e,qG a _,{_,gu _ rfl,rfl,rfl},λb hb=>?_,q};have e:b=s1.heap.objs.8:=by simpa using hb
 subst e;exact I1.fpOk (fm _) (I1.hok.fresh (fm _))
theorem mJ {σ:St}{R:It->Hp->Prop}{E:Za0}{lo hi:Int}{t u v:Tok}{tk:Nat}(I:Inv X pins σ H s)(h1:-(2 ^ 62)<=lo)(h2:lo<2 ^ 62)(h3:-(2 ^ 62)<=hi)(h4:hi<2 ^ 62)
  (q:R (Itr lo (hi-lo).toNat) H):wpAny (model X.prog X.w) X.A (pyIter (.ref s.heap.objs.8)) (PIE X pins σ tg R) E { s with heap:=s.heap.push { cls:=.type "range",data:=.fields #[.int lo t,.int hi u,.int 1 v] },toks:=tk }:=by
 refine HC (CJ ..) (small_one h1 h2 h3 h4) ?_;have I1:Inv X pins σ H { s with heap:=s.heap.push { cls:=.type "range",data:=.fields #[.int lo t,.int hi u,.int 1 v] },toks:=tk }:=I.kept λb o e=>fj _ e;refine⟨(s.heap.push { cls:=.type "range",data:=.fields #[.int lo t,.int hi u,.int 1 v] }).objs.size,[(s.heap.push { cls:=.type "range",data:=.fields #[.int lo t,.int hi u,.int 1 v] }).objs.size],_,_,H,rfl,
  I1.kept (t':=tk) λb o e=>fj _ e,oV _ lo (hi-lo).toNat,?_,λb hb=>?_,q⟩
 .have e1:lo+((0:Nat):Int)*1=lo:=by simp
  have e2:(((hi-lo).toNat:Nat):Int)-((0:Nat):Int)=lq lo hi 1:=by rw[LW];split<;>lia
  show BU _ _ (lo+((0:Nat):Int)*1) ((((hi-lo).toNat:Nat):Int)-((0:Nat):Int)) 1;rw[e1,e2];exact gu _ rfl
 .have e:b=(s.heap.push { cls:=.type "range",data:=.fields #[.int lo t,.int hi u,.int 1 v] }).objs.size:=by simpa using hb
  subst e;exact I1.fpOk (fm _) (I1.hok.fresh (fm _))
def Afu (ta:TA):TI:=λσ H R=>ta σ H λvs H1=>∃j:Int,vs=[.int j]/\-(2 ^ 62)<=j/\j<2 ^ 62/\R (Itr 0 j.toNat) H1
def Afb (ta:TA):TI:=λσ H R=>ta σ H λvs H1=>∃i j:Int,vs=[.int i,.int j]/\(-(2 ^ 62)<=i/\i<2 ^ 62/\-(2 ^ 62)<=j/\j<2 ^ 62)/\R (Itr i (j-i).toNat) H1
theorem Db {a:ja}{ta:TA}{p:Pos}(hg:Gl X "range")(hm:X.mg "range"=p9)(ha:PA X [a] ta)(hs:autoParam (starEach [a] X.env=[(NH,eval a X.env)]) QD):PI X tg (.Call (.Name "range" p) [a] [] pos) (Afu ta):=by
 intro pins s σ H R I h;refine Call_ (Dv I hg hm boot_range (ir (thA ha I h λus s1 vs H1 I1 r1 q1=>?_) hs rfl));obtain⟨j,e,q1,q2,q⟩:=q1;subst e
 cases r1 with
 |cons r rr=>
  cases rr;obtain⟨t,rfl⟩:=r;exact MW (mJ I1 () () q1 q2 (by simpa using q))
theorem Y8 {a b:ja}{ta:TA}{p:Pos}(hg:Gl X "range")(hm:X.mg "range"=p9)(ha:PA X [a,b] ta)(hs:autoParam (starEach [a,b] X.env=[(NH,eval a X.env),(NH,eval b X.env)]) QD)(hs2:autoParam (starEach [b] X.env=[(NH,eval b X.env)]) QD) :
  PI X tg (.Call (.Name "range" p) [a,b] [] pos) (Afb ta):=by
 intro pins s σ H R I h;refine Call_ (Dv I hg hm boot_range (ir (thA ha I h λus s1 vs H1 I1 r1 q1=>?_) (by rw[hs,hs2]) (by rw[hs2];rfl)));obtain⟨i,j,e,⟨q1,q2,q3,q4⟩,q⟩:=q1;subst e
 cases r1 with
 |cons r rr=>
  cases rr with
  |cons r' rr=>
   cases rr;obtain⟨t,rfl⟩:=r;obtain⟨t',rfl⟩:=r';exact call_range_2 (mJ I1 q1 q2 q3 q4 q)
def Aka (wi:TI)(g:TG)(tb:TS):TS:=λD σ H=>wi σ H λJ H1=>∃W:Nat->Nat->St->Hp->Prop,(∃m,W 0 m σ H1)/\∀i m σ H,W i m σ H ->
 (J.stop i H/\D.nx σ H)\/(J.go i H/\∃N:St->Hp->Prop,(∀QM H',N QM H'->∃m',m'<m/\W (i+1) m' QM H')/\∀x H',J.yld i H x H'->g x σ H' λQS H2=>tb { D with nx:=N,ct:=N,bk:=D.nx } QS H2)
def T8 (fp:List fe)(h:i8):Za1:=fp.filterMap λb=>(h.get? b).map λo=>(b,o)
theorem Kl {h:i8}{b:fe}{o:Obj}(hb:b∈fp)(e:h.get? b=en o):(b,o)∈T8 fp h:=qc.mpr {b,hb,by rw[e];rfl}
theorem wG {h:i8}{p:fe×Obj}(hp:p∈T8 fp h):p.1∈fp/\h.get? p.1=en p.2:=by
 obtain⟨b,hb,e⟩:=qc.mp hp
 cases q:h.get? b with
 |none=>rw[q] at e;cases e
 |some o=>
  rw[q] at e;have e':(b,o)=p:=fk e;subst e';exact⟨hb,q⟩
theorem Inv.pinned {σ:St}(I:Inv X pins σ H s)(hf:∀b∈fp,Uv X pins H b)(ho:∀b∈fp,∃o,s.heap.get? b=en o/\∀v,o.data≠.cell v):Inv X (pins++T8 fp s.5) σ H s:=
 I.pins_of λp hp=>(kj.mp hp).elim (λz=>I.pin p (ji _ z)) λz=>by
  obtain⟨hb,e⟩:=wG z;obtain⟨f0,f1,f2,_⟩:=hf p.1 hb;obtain⟨o,e',d⟩:=ho p.1 hb;rw[e] at e';cases e';exact⟨e,f0,f1,f2,d⟩
theorem Inv.unpinned {pl:Za1}{σ:St}(I:Inv X (pins++pl) σ H s):Inv X pins σ H s:=I.pins_of λp hp=>I.pin p (ji _ (tj _ hp))
theorem Cq {iter:ja}{body:List i7}{g:TG}{tb:TS}(hp:PassesOwn (model X.prog X.w) X.A X.env X.xe)(hc:X.calm=NG)(hi:PI X tg iter wi)(hg:PG X tg g)(hb:PSs X body tb)
  (hs:autoParam (∀x,foldedSetIterable iter X.env x=pure x) QJ):PS X (.For tg iter body [] pos) (Aka wi g tb):=by
 k_end;refine wpAny_For (thn (hi pins s σ H _ I h) λv s1 h1=>thn h1 λitv s2 h2=>?_) hs;obtain⟨it,fp,tn,J,H2,e,I2,T,st2,f2,W,⟨m0,w0⟩,turn⟩:=h2;subst e
 -- what stays NG of the iterator's objects through the loop
 have stat:∀{H':Hp},(∀b∈fp,H' b=p9)->∀b∈fp,Uv X pins H' b:=λhn b hb=>{hn b hb,(f2 b hb).2};refine codeAny_forLoop_any (λn s'=>∃i QM H',Inv X pins QM H' s'/\tn i s'.5/\(∀b∈fp,H' b=p9)/\W i n QM H') ?_ m0 {0,σ,H2,I2,st2,λb hb=>(f2 b hb).1,w0};rintro n s3 ⟨i,QW,H3,I3,st3,fr3,w3⟩;rcases turn i n QW H3 w3 with⟨stop,qn⟩|⟨go,N,hN,step⟩
 .refine wpAny_passesOwn hp (thn (T.done X rfl rfl rfl hc i pins s3 QW H3 X.xe I3 (stat fr3) st3 stop) λr s4 ⟨hr,I4⟩=>?_)
  subst hr;exact qo ⟨QW,H3,I4,qn⟩
 .refine wpAny_passesOwn hp (thn (T.item X rfl rfl rfl hc i pins s3 QW H3 X.xe I3 (stat fr3) st3 go) λr s4 ⟨u,hr,h4⟩=>?_)
  subst hr;refine wpAny_passesOwn hp (thn h4 λ_ s5 ⟨x,H5,I5,r5,y5,st5,fr5⟩=>?_);have I5':=I5.pinned (stat fr5) (T.obj _ _ st5);refine wpAny_passesOwn hp (thn (hg _ s5 QW H5 x u _ I5' r5 (step x H5 y5)) λ_ s6 ⟨σ6,H6,I6,q6⟩=>?_);refine wpAny_passesOwn hp (thn (hb _ s6 σ6 H6 _ I6 q6) λf s7 q7=>?_);have again:∀{QX:St} {H7:Hp},Inv X (pins++T8 fp s5.5) QX H7 s7->N QX H7->∃m,m<n/\∃i QM H',Inv X pins QM H' s7/\tn i s7.5/\(∀b∈fp,H' b=p9)/\W i m QM H':=λ{QX H7} I7 n7=>by
   obtain⟨m',hm,w7⟩:=hN QX H7 n7;refine{m',hm,i+1,QX,H7,I7.unpinned,T.keep _ _ _ st5 λb hb o e=>(I7.pin (b,o) (ji _ (ji _ (Kl hb e)))).1,λb hb=>?_,w7};obtain⟨o,e,d⟩:=T.obj _ _ st5 b hb;exact(I7.pin (b,o) (ji _ (ji _ (Kl hb e)))).2.1
  cases f with
  |next=>obtain⟨QX,H7,I7,n7⟩:=q7;exact again I7 n7
  |cont=>obtain⟨QX,H7,I7,n7⟩:=q7;exact again I7 n7
  |brk=>obtain⟨QX,H7,I7,q7⟩:=q7;exact⟨QX,H7,I7.unpinned,q7⟩
  |ret v=>obtain⟨x7,QX,H7,I7,r7,q7⟩:=q7;exact⟨x7,QX,H7,I7.unpinned,r7,q7⟩
end
theorem Om {K:e7}{a:fe}{g:TG}{tb:TS}{D:Io}{σ:St}(Pv:Nat->St->Hp->Prop)(h0:Pv 0 σ H)(hl:∀i σ H,i<=xs.9->Pv i σ H->SqL K H a xs)
  (hs:∀i x σ H,xs[i]?=en x->Pv i σ H->g x σ H λQS H2=>tb { D with nx:=Pv (i+1),ct:=Pv (i+1),bk:=D.nx } QS H2)(hd:∀σ H,Pv xs.9 σ H->D.nx σ H) :
  ∃W:Nat->Nat->St->Hp->Prop,(∃m,W 0 m σ H)/\∀i m σ H,W i m σ H ->
   ((Itl K a).stop i H/\D.nx σ H)\/((Itl K a).go i H/\∃N:St->Hp->Prop,(∀QM H',N QM H'->∃m',m'<m/\W (i+1) m' QM H')/\∀x H',(Itl K a).yld i H x H'->g x σ H' λQS H2=>tb { D with nx:=N,ct:=N,bk:=D.nx } QS H2):=by
 refine{λi m σ H=>m=xs.9-i/\i<=xs.9/\Pv i σ H,{xs.9,by simp,ij _,h0},?_};rintro i m σ H ⟨rfl,hi,p⟩;have q:=hl i σ H hi p
 by_cases hlt:i<xs.9
 .refine .inr {{xs,xs[i],q,by simp[hlt]},Pv (i+1),λQM H' p'=>{xs.9-(i+1),(),rfl,hlt,p'},λx H' y=>?_}
  obtain⟨e,y⟩:=y;subst e;exact hs i x σ _ (y xs q) p
 .have e:i=xs.9:=()
  subst e;exact .inl {{xs,q,fm _},hd σ H p}
theorem Ads {K:e7}{a:fe}{g:TG}{tb:TS}{D:Io}{σ:St}(Pv:Nat->St->Hp->Prop)(h0:Pv 0 σ H)(hl:∀i σ H,i<=xs.9->Pv i σ H->SqT K H a xs)
  (hs:∀i x σ H,xs[i]?=en x->Pv i σ H->g x σ H λQS H2=>tb { D with nx:=Pv (i+1),ct:=Pv (i+1),bk:=D.nx } QS H2)(hd:∀σ H,Pv xs.9 σ H->D.nx σ H) :
  ∃W:Nat->Nat->St->Hp->Prop,(∃m,W 0 m σ H)/\∀i m σ H,W i m σ H ->
   ((Itt K a).stop i H/\D.nx σ H)\/((Itt K a).go i H/\∃N:St->Hp->Prop,(∀QM H',N QM H'->∃m',m'<m/\W (i+1) m' QM H')/\∀x H',(Itt K a).yld i H x H'->g x σ H' λQS H2=>tb { D with nx:=N,ct:=N,bk:=D.nx } QS H2):=by
 refine{λi m σ H=>m=xs.9-i/\i<=xs.9/\Pv i σ H,{xs.9,by simp,ij _,h0},?_};rintro i m σ H ⟨rfl,hi,p⟩;have q:=hl i σ H hi p
 by_cases hlt:i<xs.9
 .refine .inr {{xs,xs[i],q,by simp[hlt]},Pv (i+1),λQM H' p'=>{xs.9-(i+1),(),rfl,hlt,p'},λx H' y=>?_}
  obtain⟨e,y⟩:=y;subst e;exact hs i x σ _ (y xs q) p
 .have e:i=xs.9:=()
  subst e;exact .inl {{xs,q,fm _},hd σ H p}
theorem Gh {lo:Int}{n:Nat}{g:TG}{tb:TS}{D:Io}{σ:St}(Pv:Nat->St->Hp->Prop)(h0:Pv 0 σ H)
  (hs:∀i σ H,i<n->Pv i σ H->g (.int (lo+i)) σ H λQS H2=>tb { D with nx:=Pv (i+1),ct:=Pv (i+1),bk:=D.nx } QS H2)(hd:∀σ H,Pv n σ H->D.nx σ H) :
  ∃W:Nat->Nat->St->Hp->Prop,(∃m,W 0 m σ H)/\∀i m σ H,W i m σ H ->
   ((Itr lo n).stop i H/\D.nx σ H)\/((Itr lo n).go i H/\∃N:St->Hp->Prop,(∀QM H',N QM H'->∃m',m'<m/\W (i+1) m' QM H')/\∀x H',(Itr lo n).yld i H x H'->g x σ H' λQS H2=>tb { D with nx:=N,ct:=N,bk:=D.nx } QS H2):=by
 refine{λi m σ H=>m=n-i/\i<=n/\Pv i σ H,{n,by simp,ij _,h0},?_};rintro i m σ H ⟨rfl,hi,p⟩
 by_cases hlt:i<n
 .refine .inr {hlt,Pv (i+1),λQM H' p'=>{n-(i+1),(),rfl,hlt,p'},λx H' y=>?_}
  obtain⟨e,y⟩:=y;subst e y;exact hs i σ _ hlt p
 .have e:i=n:=()
  subst e;exact .inl {fm _,hd σ H p}
abbrev R2:=V->V->Hp->VK->Prop
def OpR (X:Cx)(f:fu->fu->Sem fu)(r:R2):Prop:=
 ∀(pins:Za1) (s:gb) (σ:St) (H:Hp) (x y:V) (v u:fu) (Q:VK),Inv X pins σ H s->Be x v->Be y u->r x y H Q ->
  wpAny (model X.prog X.w) X.A (f v u) (EP X pins σ Q) X.xe s
def UnR (X:Cx)(f:fu->Sem fu)(r:V->Hp->VK->Prop):Prop:=
 ∀(pins:Za1) (s:gb) (σ:St) (H:Hp) (x:V) (v:fu) (Q:VK),Inv X pins σ H s->Be x v->r x H Q ->
  wpAny (model X.prog X.w) X.A (f v) (EP X pins σ Q) X.xe s
def Ea (X:Cx)(f:fu)(r:List V->Hp->VK->Prop):Prop:=
 ∀(pins:Za1) (s:gb) (σ:St) (H:Hp) (xs:List V) (us:Za3) (Q:VK),Inv X pins σ H s->Az xs us->r xs H Q ->
  wpAny (model X.prog X.w) X.A (call f us) (EP X pins σ Q) X.xe s
def tOp (r:R2)(ta tb:TE):TE:=λσ H Q=>ta σ H λx H1=>tb σ H1 λy H2=>r x y H2 Q
def tUn (r:V->Hp->VK->Prop)(ta:TE):TE:=λσ H Q=>ta σ H λx H1=>r x H1 Q
def rI (C:Int->Int->Prop)(g:Int->Int->V):R2:=λx y H Q=>∃i j,x=.int i/\y=.int j/\C i j/\Q (g i j) H
def rI0 (g:Int->Int->V):R2:=λx y H Q=>∃i j,x=.int i/\y=.int j/\Q (g i j) H
def rU (g:Int->V):V->Hp->VK->Prop:=λx H Q=>∃i,x=.int i/\Q (g i) H
section
variable {X:Cx} {a b c:ja} {ta tb tc:TE} {pos:Pos}
theorem Agy (ha:PE X a ta)(hb:PE X b tb){σ:St}{R:V->V->Hp->Prop}(I:Inv X pins σ H s)
  (h:ta σ H λx H1=>tb σ H1 λy H2=>R x y H2){Q:Za0}{f:fu->fu->Sem fu}
  (hf:∀v u s2 x y H2,Inv X pins σ H2 s2->Be x v->Be y u->R x y H2->wpAny (model X.prog X.w) X.A (f v u) Q X.xe s2) :
  wpAny (model X.prog X.w) X.A (eval a X.env) (λv QN=>wpAny (model X.prog X.w) X.A (eval b X.env) (λu QT=>wpAny (model X.prog X.w) X.A (f v u) Q X.xe QT) X.xe QN) X.xe s:=by
 refine thE ha I h λv s1 x H1 I1 r1 q1=>?_;refine thE hb I1 q1 λu s2 y H2 I2 r2 q2=>?_;exact hf v u s2 x y H2 I2 r1 r2 q2
theorem Ak {op:GL}{r:R2}(ho:OpR X (binaryOp op) r)(ha:PE X a ta)(hb:PE X b tb):PE X (.BinOp a op b pos) (tOp r ta tb):=by
 k_in;exact wpAny_BinOp (Agy ha hb I h λv u s2 x y H2 I2 rx ry q=>ho pins s2 σ H2 x y v u Q I2 rx ry q)
theorem Fl {op:UnaryOp}{r:V->Hp->VK->Prop}(ho:UnR X (unaryOp op) r)(ha:PE X a ta):PE X (.UnaryOp op a pos) (tUn r ta):=by
 k_in;exact UnaryOp_ (thE ha I h λv s1 x H1 I1 r1 q1=>ho pins s1 σ H1 x v Q I1 r1 q1)
theorem opI {f:fu->fu->Sem fu}{C:Int->Int->Prop}{g:Int->Int->Int}
  (rule:∀(i j:Int) (t u:Tok) (s:gb) (Q:Za0) (E:Za0),C i j->Q (.int (g i j) s.toks) { s with toks:=s.toks+1 }->wpAny (model X.prog X.w) X.A (f (.int i t) (.int j u)) Q E s) :
  OpR X f (rI C λi j=>.int (g i j)):=by
 intro pins s σ H x y v u Q I rx ry h;obtain⟨i,j,rfl,rfl,hc,q⟩:=h;obtain⟨t,rfl⟩:=rx;obtain⟨t',rfl⟩:=ry;exact rule i j t t' s _ _ hc {.int (g i j),H,I.tok _,{_,rfl},q}
theorem Adz {f:fu->fu->Sem fu}{g:Int->Int->Int}
  (rule:∀(i j:Int) (t u:Tok) (s:gb) (Q:Za0) (E:Za0),Q (.int (g i j) s.toks) { s with toks:=s.toks+1 }->wpAny (model X.prog X.w) X.A (f (.int i t) (.int j u)) Q E s) :
  OpR X f (rI0 λi j=>.int (g i j)):=by
 intro pins s σ H x y v u Q I rx ry h;obtain⟨i,j,rfl,rfl,q⟩:=h;obtain⟨t,rfl⟩:=rx;obtain⟨t',rfl⟩:=ry;exact rule i j t t' s _ _ {.int (g i j),H,I.tok _,{_,rfl},q}
theorem Ac0 {f:fu->fu->Sem fu}{g:Int->Int->Bool}
  (rule:∀(i j:Int) (t u:Tok) (s:gb) (Q:Za0) (E:Za0),Q (.bool (g i j)) s->wpAny (model X.prog X.w) X.A (f (.int i t) (.int j u)) Q E s) :
  OpR X f (rI0 λi j=>.bl (g i j)):=by
 intro pins s σ H x y v u Q I rx ry h;obtain⟨i,j,rfl,rfl,q⟩:=h;obtain⟨t,rfl⟩:=rx;obtain⟨t',rfl⟩:=ry;exact rule i j t t' s _ _ {.bl (g i j),H,I,rfl,q}
def Aij (i j:Int):Prop:=0<j/\j<1073741824
def Ai6 (i j:Int):Prop:=0<=j/\j<=1000000/\i.natAbs<2 ^ 64
def yA (i j:Int):Prop:=(-(2 ^ 64)<i/\i<2 ^ 64)\/(-(2 ^ 64)<j/\j<2 ^ 64)
theorem yA.ok {i j:Int}(h:yA i j):IntMulOk i j:=by
 rcases h with⟨h1,h2⟩|⟨h1,h2⟩
 .exact .of_left (LZ h1 h2)
 .exact .of_right (LZ h1 h2)
theorem Uq (k:Nat):(0:Int)<=2 ^ k:=by
 rw[two_pow_cast];exact lh _
theorem Bd:OpR X (binaryOp .Add) (rI0 λi j=>.int (i+j)):=Adz λ_ _ _ _ _ _ _ q=>add_int q
theorem B0:OpR X (binaryOp .Sub) (rI0 λi j=>.int (i-j)):=Adz λ_ _ _ _ _ _ _ q=>sub_int q
theorem D6:OpR X (binaryOp .Mult) (rI yA λi j=>.int (i*j)):=opI λ_ _ _ _ _ _ _ hc q=>mul_int q hc.ok
theorem Cg:OpR X (binaryOp .FloorDiv) (rI Aij λi j=>.int (i/j)):=opI λi j _ _ _ _ _ hc q=>by
 have h1:(0:Int)<j:=hc.1;have h2:j<1073741824:=hc.2;exact floordiv_int () (by rw[ux i ()];exact q) (.inl (vi ()))
theorem B1:OpR X (binaryOp .Mod) (rI (λ_ j=>0<j) λi j=>.int (i%j)):=opI λi j _ _ _ _ _ hc q=>by
 have h1:(0:Int)<j:=hc;exact mod_int' () (by rw[Int.fmod_eq_emod_of_nonneg i ()];exact q)
theorem Agg:OpR X (binaryOp .Pow) (rI Ai6 λi j=>.int (i ^ j.toNat)):=opI λ_ _ _ _ _ _ _ hc q=>pow_int_small hc.1 hc.2.1 hc.2.2 q
theorem Ahh:OpR X (binaryOp .LShift) (rI Ai6 λi j=>.int (i*2 ^ j.toNat)):=opI λ_ _ _ _ _ _ _ hc q=>lshift_int_small hc.1 hc.2.1 hc.2.2 q
theorem qR:OpR X (binaryOp .RShift) (rI (λ_ j=>0<=j) λi j=>.int (i/2 ^ j.toNat)):=opI λi j _ _ _ _ _ hc q=>
 rshift_int hc (by rw[ux i (Uq _)];exact q)
theorem Nq:OpR X (binaryOp .BitAnd) (rI0 λi j=>.int (l5 i j)):=Adz λ_ _ _ _ _ _ _ q=>and_int q
theorem qC:OpR X (binaryOp .BitXor) (rI0 λi j=>.int (wx i j)):=Adz λ_ _ _ _ _ _ _ q=>xor_int q
theorem tV:OpR X (inplaceOp .RShift) (rI (λ_ j=>0<=j) λi j=>.int (i/2 ^ j.toNat)):=opI λi j _ _ _ _ _ hc q=>
 irshift_int hc (by rw[ux i (Uq _)];exact q)
theorem unI {f:fu->Sem fu}{g:Int->Int}
  (rule:∀(i:Int) (t:Tok) (s:gb) (Q:Za0) (E:Za0),Q (.int (g i) s.toks) { s with toks:=s.toks+1 }->wpAny (model X.prog X.w) X.A (f (.int i t)) Q E s) :
  UnR X f (rU λi=>.int (g i)):=by
 intro pins s σ H x v Q I rx h;obtain⟨i,rfl,q⟩:=h;obtain⟨t,rfl⟩:=rx;exact rule i t s _ _ {.int (g i),H,I.tok _,{_,rfl},q}
theorem Dc:UnR X (unaryOp .USub) (rU λi=>.int (-i)):=unI λ_ _ _ _ _ q=>neg_int q
end
def Aa6:V->V->Bool
 |.non,.non=>NG|.non,.int _=>NG|.int _,.non=>NG|.non,.bl _=>NG|.bl _,.non=>NG|.non,.str _=>NG|.str _,.non=>NG
 |.int _,.int _=>NG|.bl _,.bl _=>NG|.str _,.str _=>NG|.byt _,.byt _=>NG
 |.int _,.str _=>NG|.str _,.int _=>NG|.bl _,.str _=>NG|.str _,.bl _=>NG
 |_,_=>NH
def rEq:R2:=λx y H Q=>Aa6 x y=NG/\Q (.bl (decide (x=y))) H
def rNe:R2:=λx y H Q=>Aa6 x y=NG/\Q (.bl (!decide (x=y))) H
theorem tL {i j:Int}:decide (V.int i=V.int j)=(i==j):=by
 rw[w9];simp
theorem xQ {i j:Bool}:decide (V.bl i=V.bl j)=(i==j):=by
 rw[w9];simp
theorem sA {i j:Str}:decide (V.str i=V.str j)=(i==j):=by
 rw[w9];simp
theorem rW {i j:Array UInt8}:decide (V.byt i=V.byt j)=(i.7==j.7):=by
 rw[w9];cases i;cases j;simp
section
variable {X:Cx} {a b c:ja} {ta tb tc:TE} {pos:Pos}
theorem Bw {σ:St}{Q:VK}{k k':Bool}(I:Inv X pins σ H s)(q:Q (.bl k) H)(e:k=k'):EP X pins σ Q (.bool k') s:=by
 subst e;exact{.bl k,H,I,rfl,q}
theorem C1:OpR X (compareOp .Eq) rEq:=by
 intro pins s σ H x y v u Q I rx ry h;obtain⟨hs,q⟩:=h
 cases x with
 |non=>
  cases rx
  cases y with
  |non=>cases ry;exact KG (Bw I q (by simp))
  |bl j=>cases ry;exact KI (Bw I q (by simp))
  |int j=>obtain⟨t',rfl⟩:=ry;exact KH (Bw I q (by simp))
  |str j=>obtain⟨t',rfl⟩:=ry;exact KD (Bw I q (by simp))
  |_=>exact absurd (show NH=NG from hs) ik
 |bl i=>
  cases rx
  cases y with
  |non=>cases ry;exact KM (Bw I q (by simp))
  |bl j=>cases ry;exact eq_bool (Bw I q xQ)
  |str j=>obtain⟨t',rfl⟩:=ry;exact JC (Bw I q (by simp))
  |_=>exact absurd (show NH=NG from hs) ik
 |int i=>
  obtain⟨t,rfl⟩:=rx
  cases y with
  |non=>cases ry;exact KJ (Bw I q (by simp))
  |int j=>obtain⟨t',rfl⟩:=ry;exact eq_int (Bw I q tL)
  |str j=>obtain⟨t',rfl⟩:=ry;exact JB (Bw I q (by simp))
  |_=>exact absurd (show NH=NG from hs) ik
 |str i=>
  obtain⟨t,rfl⟩:=rx
  cases y with
  |non=>cases ry;exact KC (Bw I q (by simp))
  |bl j=>cases ry;exact JA (Bw I q (by simp))
  |int j=>obtain⟨t',rfl⟩:=ry;exact IZ (Bw I q (by simp))
  |str j=>obtain⟨t',rfl⟩:=ry;exact eq_str (Bw I q sA)
  |_=>exact absurd (show NH=NG from hs) ik
 |byt i=>
  obtain⟨t,rfl⟩:=rx
  cases y with
  |byt j=>obtain⟨t',rfl⟩:=ry;exact PySem.W.eq_bytes (Bw I q rW)
  |_=>exact absurd (show NH=NG from hs) ik
 |_=>cases y<;>exact absurd (show NH=NG from hs) ik
theorem Na:OpR X (compareOp .NotEq) rNe:=by
 intro pins s σ H x y v u Q I rx ry h;obtain⟨hs,q⟩:=h
 cases x with
 |non=>
  cases rx
  cases y with
  |non=>cases ry;exact JX (Bw I q (by simp))
  |bl j=>cases ry;exact JZ (Bw I q (by simp))
  |int j=>obtain⟨t',rfl⟩:=ry;exact JY (Bw I q (by simp))
  |str j=>obtain⟨t',rfl⟩:=ry;exact JW (Bw I q (by simp))
  |_=>exact absurd (show NH=NG from hs) ik
 |bl i=>
  cases rx
  cases y with
  |non=>cases ry;exact KB (Bw I q (by simp))
  |bl j=>cases ry;exact ne_bool (Bw I q (congrArg not xQ))
  |str j=>obtain⟨t',rfl⟩:=ry;exact IX (Bw I q (by simp))
  |_=>exact absurd (show NH=NG from hs) ik
 |int i=>
  obtain⟨t,rfl⟩:=rx
  cases y with
  |non=>cases ry;exact KA (Bw I q (by simp))
  |int j=>obtain⟨t',rfl⟩:=ry;exact ne_int (Bw I q (congrArg not tL))
  |str j=>obtain⟨t',rfl⟩:=ry;exact IW (Bw I q (by simp))
  |_=>exact absurd (show NH=NG from hs) ik
 |str i=>
  obtain⟨t,rfl⟩:=rx
  cases y with
  |non=>cases ry;exact JV (Bw I q (by simp))
  |bl j=>cases ry;exact IV (Bw I q (by simp))
  |int j=>obtain⟨t',rfl⟩:=ry;exact IU (Bw I q (by simp))
  |str j=>obtain⟨t',rfl⟩:=ry;exact ne_str (Bw I q (congrArg not sA))
  |_=>exact absurd (show NH=NG from hs) ik
 |byt i=>
  obtain⟨t,rfl⟩:=rx
  cases y with
  |byt j=>obtain⟨t',rfl⟩:=ry;exact PySem.W.ne_bytes (Bw I q (congrArg not rW))
  |_=>exact absurd (show NH=NG from hs) ik
 |_=>cases y<;>exact absurd (show NH=NG from hs) ik
theorem Ot:OpR X (compareOp .Lt) (rI0 λi j=>.bl (decide (i<j))):=Ac0 λ_ _ _ _ _ _ _ q=>lt_int q
theorem Vg:OpR X (compareOp .LtE) (rI0 λi j=>.bl (decide (i<=j))):=Ac0 λ_ _ _ _ _ _ _ q=>le_int q
theorem Ga:OpR X (compareOp .Gt) (rI0 λi j=>.bl (decide (j<i))):=Ac0 λ_ _ _ _ _ _ _ q=>gt_int q
theorem Ae2:OpR X (compareOp .GtE) (rI0 λi j=>.bl (decide (j<=i))):=Ac0 λ_ _ _ _ _ _ _ q=>ge_int q
theorem uZ:OpR X (compareOp .In) (λx y H Q=>∃i j,x=.str i/\y=.str j/\Q (.bl (!(mj j i 0 j.9 1).isEmpty)) H):=by
 intro pins s σ H x y v u Q I rx ry h;obtain⟨i,j,rfl,rfl,q⟩:=h;obtain⟨t,rfl⟩:=rx;obtain⟨t',rfl⟩:=ry;exact in_str (Bw I q rfl)
theorem Aai (b:ja)(h:autoParam (op≠.In) QF)(h2:autoParam (op≠.NotIn) QF):behindInMarks op b=NH:=by
 have e1:(op==LR)=NH:=by cases op<;>first|rfl|exact absurd rfl h
 have e2:(op==IJ)=NH:=by cases op<;>first|rfl|exact absurd rfl h2
 cases b<;>simp[behindInMarks,e1,e2]
theorem rJ {r:R2}(ho:OpR X (compareOp op) r)(ha:PE X a ta)(hb:PE X b tb)(hm:behindInMarks op b=NH):PE X (.Compare a [op] [b] pos) (tOp r ta tb):=by
 k_in;exact wpAny_Compare1 (Agy ha hb I h λv u s2 x y H2 I2 rx ry q=>ho pins s2 σ H2 x y v u Q I2 rx ry q) hm
def tX (t:TE):TT:=λσ H Q=>t σ H λx H'=>∃k,x=.bl k/\Q k H'
theorem Iu {r:R2}(ho:OpR X (compareOp op) r)(ha:PE X a ta)(hb:PE X b tb)(hm:behindInMarks op b=NH):PT X (.Compare a [op] [b] pos) (tX (tOp r ta tb)):=by
 k_in;refine wpAny_isTrue_Compare1 (thE ha I h λv s1 x H1 I1 r1 q1=>thE hb I1 q1 λu s2 y H2 I2 r2 q2=>
  thn (ho pins s2 σ H2 x y v u _ I2 r1 r2 q2) λc s3 ⟨z,H3,I3,r3,k,e,q3⟩=>?_) hm
 subst e;cases r3;exact md ⟨H3,I3,q3⟩
def oS (r r':R2)(ta tb tc:TE):TE:=λσ H Q=>ta σ H λx H1=>tb σ H1 λy H2=>r x y H2 λz H3=>∃k,z=.bl k /\
 (if k=NG then tc σ H3 λw' H4=>r' y w' H4 Q else Q (.bl NH) H3)
theorem nO {op':ye}{r r':R2}(ho:OpR X (compareOp op) r)(ho':OpR X (compareOp op') r')(ha:PE X a ta)(hb:PE X b tb)(hc:PE X c tc)
  (hm:lastMarks [op,op'] [b,c]=NH:=by with_unfolding_all rfl):PE X (.Compare a [op,op'] [b,c] pos) (oS r r' ta tb tc):=by
 k_in;refine Compare_chain (thE ha I h λv s1 x H1 I1 r1 q1=>chain_link (thE hb I1 q1 λu s2 y H2 I2 r2 q2=>
  thn (ho pins s2 σ H2 x y v u _ I2 r1 r2 q2) λd s3 ⟨z,H3,I3,r3,k,e,q3⟩=>?_)) hm
 subst e;cases r3;refine md ?_
 cases k with
 |false=>exact ite_ff {.bl NH,H3,I3,rfl,q3}
 |true=>exact ite_tt (chain_last (thn (hc pins s3 σ H3 _ I3 q3) λw' s4 ⟨z',H4,I4,r4,q4⟩=>ho' pins s4 σ H4 y z' u w' Q I4 r2 r4 q4))
theorem jN {op':ye}{r r':R2}(ho:OpR X (compareOp op) r)(ho':OpR X (compareOp op') r')(ha:PE X a ta)(hb:PE X b tb)(hc:PE X c tc)
  (hm:lastMarks [op,op'] [b,c]=NH:=by with_unfolding_all rfl):PT X (.Compare a [op,op'] [b,c] pos) (tX (oS r r' ta tb tc)):=by
 k_in;refine isTrue_chain (thE ha I h λv s1 x H1 I1 r1 q1=>test_link (thE hb I1 q1 λu s2 y H2 I2 r2 q2=>
  thn (ho pins s2 σ H2 x y v u _ I2 r1 r2 q2) λd s3 ⟨z,H3,I3,r3,k,e,q3⟩=>?_)) hm
 subst e;cases r3;refine md ?_
 cases k with
 |false=>
  obtain⟨k',e',q'⟩:=q3;cases e';exact ite_ff ⟨H3,I3,q'⟩
 |true=>
  refine ite_tt (test_last (thn (hc pins s3 σ H3 _ I3 q3) λw' s4 ⟨z',H4,I4,r4,q4⟩=>thn (ho' pins s4 σ H4 y z' u w' _ I4 r2 r4 q4) λd' s5 ⟨z2,H5,I5,r5,k2,e2,q5⟩=>?_));subst e2;cases r5;exact md ⟨H5,I5,q5⟩
theorem Lk:(sizeLine:Nat)<2 ^ 63:=by rw[GG];decide
theorem Nm:OpR X (binaryOp .Add) (λx y H Q=>∃i j,x=.str i/\y=.str j/\i.9+j.9<=sizeLine/\Q (.str (i++j)) H):=by
 intro pins s σ H x y v u Q I rx ry h;obtain⟨i,j,rfl,rfl,hz,q⟩:=h;obtain⟨t,rfl⟩:=rx;obtain⟨t',rfl⟩:=ry;exact add_str (λt' tk=>{.str (i++j),H,I.tok _,{_,rfl},q}) hz
theorem Fk {x:V}(r:Az [x] us):∃u,us=[u]/\Be x u:=by
 cases r with
 |cons r1 r2=>cases r2;exact{_,rfl,r1}
theorem Kz {x:V}(r:Az [x,y] us):∃u w',us=[u,w']/\Be x u/\Be y w':=by
 cases r with
 |cons r1 r2=>
  cases r2 with
  |cons r3 r4=>cases r4;exact{_,_,rfl,r1,r3}
theorem Acm:Ea X (.builtin "abs") (λxs H Q=>∃i,xs=[.int i]/\Q (.int (if i<0 then -i else i)) H):=by
 intro pins s σ H xs us Q I r h;obtain⟨i,rfl,q⟩:=h;obtain⟨u,rfl,t,rfl⟩:=Fk r;exact call_abs_int λu tk=>{.int (if i<0 then -i else i),H,I.tok _,{_,rfl},q}
theorem wM (hc:X.calm=NG):Ea X (.builtin "max") (λxs H Q=>∃i j,xs=[.int i,.int j]/\Q (.int (if j>i then j else i)) H):=by
 intro pins s σ H xs us Q I r h;obtain⟨i,j,rfl,q⟩:=h;obtain⟨u,w',rfl,⟨t,rfl⟩,⟨t',rfl⟩⟩:=Kz r;refine max_two_ints (I.ok.hd hc) λh' tk k=>{_,H,I.kept k,?_,q}
 by_cases hj:j>i
 .rw[if_pos hj,if_pos hj];exact{_,rfl}
 .rw[if_neg hj,if_neg hj];exact{_,rfl}
theorem R5 (hc:X.calm=NG):Ea X (.builtin "min") (λxs H Q=>∃i j,xs=[.int i,.int j]/\Q (.int (if j<i then j else i)) H):=by
 intro pins s σ H xs us Q I r h;obtain⟨i,j,rfl,q⟩:=h;obtain⟨u,w',rfl,⟨t,rfl⟩,⟨t',rfl⟩⟩:=Kz r;refine min_two_ints (I.ok.hd hc) λh' tk k=>{_,H,I.kept k,?_,q}
 by_cases hj:j<i
 .rw[if_pos hj,if_pos hj];exact{_,rfl}
 .rw[if_neg hj,if_neg hj];exact{_,rfl}
theorem Y0:Ea X (.type "int") (λxs H Q=>(∃i,xs=[.int i]/\Q (.int i) H)\/∃k,xs=[.bl k]/\Q (.int (if k then 1 else 0)) H):=by
 intro pins s σ H xs us Q I r h;rcases h with⟨i,rfl,q⟩|⟨k,rfl,q⟩
 .obtain⟨u,rfl,t,rfl⟩:=Fk r
  exact call_int_int {.int i,H,I,{_,rfl},q}
 .obtain⟨u,rfl,r1⟩:=Fk r
  cases r1;exact call_int_bool {.int (if k then 1 else 0),H,I.tok _,{_,rfl},q}
end
structure pO (h:i8) (x dx C:fe) (mA:Za2):Prop where
 obj:h.get? x=en (instObj C dx)
 ns:h.Ns1 dx mA
 ne:dx≠x
theorem wV {h:i8}{mA:Za2}(n:h.Ns1 dx mA):∃od,h.get? dx=en od/\∀name,lookIn name od=en (mA name):=by
 obtain⟨o,es,ep,ho,hd,hk,_,hm⟩:=n;refine{o,ho,λname=>?_};have e:=hm name;unfold nsFind findBy at e;rw[<-Array.find?_toList] at e;unfold lookIn;rw[hd];dsimp only;split
 .rename_i y q
  rw[q] at e;exact congrArg en e
 .rename_i q
  rw[q] at e;have a:es.toList.any (·.refKey)=NH:=by
   rw[List.any_eq_false];intro y hy;obtain⟨z,t,hkey⟩:=hk y (Array.mem_toList_iff.mp hy);simp[NB,hkey]
  have a':¬ es.toList.any (·.refKey)=NG:=by rw[a];exact ik
  rw[if_neg a'];exact congrArg en e
theorem pO.look {h:i8}{x:fe}{mA:Za2}(I:pO h x dx C mA):∃od,PySem.W.InstAt h x (instObj C dx) C (en od)/\∀name,lookIn name od=en (mA name):=
 let ⟨od,ho,hl⟩:=wV I.ns
 {od,⟨I.obj,rfl,rfl,ho⟩,hl}
section
variable {prog:gm} {w:iz} {A:jd} {E:Za0} {s:gb} {K:e7} {x dx C f:fe} {mA:Za2} {name:Str} {v:fu}
theorem Aeh {expr:Bool}{Q:Za0}(X:K.In s.5)(I:pO s.5 x dx C mA)(hg:uy K C name=NG)(hh:yi K C=NG)
  (ha:ju K (.ref C) name=en p9)(hv:mA name=en v)(hv':EE v=NG)(h:Q v { s with toks:=s.toks+1 }) :
  wpAny (model prog w) A (getAttr (.ref x) name expr) Q E s:=by
 obtain⟨od,J,hl⟩:=I.look;exact PySem.W.get_value X J (xi hg).1 (PySem.W.findObj_own hh ha rfl (by rw[hl,hv])) hv' h
theorem zV {Q:fu×Za3->gb->Prop}(X:K.In s.5)(I:pO s.5 x dx C mA)(hg:uy K C name=NG)
  (hf:ju K (.ref C) name=en (en (.ref f)))(ht:oy K (.ref f)=NG)(hv:mA name=p9)(h:Q (.ref f,[.ref x]) s) :
  wpAny (model prog w) A (getMethod (.ref x) name pl) Q E s:=by
 obtain⟨od,J,hl⟩:=I.look;exact PySem.W.method_fn X J (xi hg).1 (xi hg).2 hf (beq_iff_eq.mp ht) (by show(lookIn name od).map (·.isSome)=en NH;rw[hl,hv];rfl) h
theorem Ad5 {ns:Za6}{Q:Unit->gb->Prop}(X:K.In s.5)(I:pO s.5 x dx C mA)
  (hs:ju K (.ref C) "__setattr__"=en (en (.builtin "object.__setattr__")))(hp:DQ K C=NG)(ht:zh K C name=en p9)(hh:yi K C=NG)
  (hw:BZ mA ns)(hsz:ns.9<=sizeLine)
  (h:∀h',pO h' x dx C (λy=>if y=name then en v else mA y)->wa dx s.5 h'->Q .unit { s with heap:=h',toks:=s.toks+2 }) :
  wpAny (model prog w) A (setAttr (.ref x) name v) Q E s:=by
 obtain⟨od,J,hl⟩:=I.look;refine PySem.W.set_plain X J hs (PySem.W.osa_open (s:={ s with toks:=s.toks+1 }) (r:=p9) X J hp ht λb=>?_);obtain⟨cd,hc,hd'⟩:=PySem.W.any_some hh;have hx:s.heap.get? x=en {.ref C,en dx,.plain,#[]}:=I.obj;refine wpAny_bind (fw (wpAny_bind (wpAny_bind (yw hx (wpAny_bind (IS (s:={ s with toks:=s.toks+1 }) (PySem.W.looks_clsIn X hc) ?_))))));rw[hd'];refine fw (a:=en dx) (wpAny_bind (fw (wpAny_bind ?_)));refine MS (s:={ s with toks:=s.toks+1 }) I.ns λh' hn2 hs2=>?_;obtain⟨oD,esD,epD,hoD,hdD,hcD⟩:=hn2.count (JR name v hw);refine wpAny_bind (IL hoD (by rw[hdD];exact IN (iy hcD (by rw[iu];lia))) ?_);exact fw (h _ {(hs2.2 _ (n5 I.ne)).trans I.obj,hn2,I.ne} hs2)
theorem kX {R:wm->gb->Prop}{kw:List (Str×fu)}(X:K.In s.5)(hm:EO K C=NG)
  (hi:ju K (.ref C) "__init__"=en (en (.ref f)))(hf:PySem.W.typeIn K (.ref f)=en (.type "function"))
  (h:codeAny (model prog w) (A.under (.builtin "type.__call__" {.ref C::vs,kw})) (.call (.ref f) {.ref (s.heap.objs.8+1)::vs,kw}) (PySem.W.InitBack (s.heap.objs.8+1) R)
   { s with heap:=(s.heap.push l4).push (instObj C s.heap.objs.8) }) :
  codeAny (model prog w) A (.call (.ref C) ⟨vs,kw⟩) R s:=by
 obtain⟨hh,g,d,t,os⟩:=s;exact PySem.W.make_core (PySem.W.makes_of X hm) (PySem.W.looks_findIn X hi) (λself=>PySem.W.bind_fn X self hf) (.inl rfl) h
end
def F5 (f : Str)(v : V) : List (Str × V)->List (Str × V)
  | [] => [(f, v)]
  | (g, x) :: r => if g = f then (g, v) :: r else (g, x) :: F5 f v r
theorem Sd (f g:Str)(v:V):∀ fs:List (Str×V),(F5 f v fs).lookup g=if g=f then en v else fs.lookup g
  | [] => by
    show m3 g [(f, v)] = _
    by_cases h : g = f
    · have hb : (g == f) = NG := beq_iff_eq.mpr h
      simp only [m3, hb, if_pos h]
    · have hb : (g == f) = NH := beq_eq_false_iff_ne.mpr h
      simp only [m3, hb, if_neg h]
  | (k, x) :: r => by
    have ih := Sd f g v r;rw [show F5 f v ((k, x) :: r) = (if k = f then (k, v) :: r else (k, x) :: F5 f v r) from rfl]
    by_cases hk : k = f
    · rw [if_pos hk]
      by_cases h : g = k
      · have hb : (g == k) = NG := beq_iff_eq.mpr h
        simp only [m3, hb, if_pos (h.trans hk)]
      · have hb : (g == k) = NH := beq_eq_false_iff_ne.mpr h
        simp only [m3, hb, if_neg (λe : g = f => h (e.trans hk.symm))]
    · rw [if_neg hk]
      by_cases h : g = k
      · have hb : (g == k) = NG := beq_iff_eq.mpr h
        simp only [m3, hb, if_neg (λe : g = f => hk (h.symm.trans e))]
      · have hb : (g == k) = NH := beq_eq_false_iff_ne.mpr h
        simp only [m3, hb];exact ih
theorem P9 (f:Str)(v:V):∀ fs:List (Str×V),f∈(F5 f v fs).map (·.1)/\∀ g,g∈fs.map (·.1)->g∈(F5 f v fs).map (·.1)
  | [] => {by simp [F5], λg h => by simp at h}
  | (k, x) :: r => by
    obtain ⟨i1, i2⟩ := P9 f v r;rw [show F5 f v ((k, x) :: r) = (if k = f then (k, v) :: r else (k, x) :: F5 f v r) from rfl]
    by_cases hk : k = f
    · rw [if_pos hk]
      subst hk;exact {by simp, λg h => by simpa using h}
    · rw [if_neg hk]
      refine {?_, λg h => ?_}
      · rw [jh]
        exact gw _ i1
      · rw [jh] at h ⊢
        rcases i5.mp h with e | e
        · exact i5.mpr (.inl e)
        · exact gw _ (i2 g e)
theorem Sh (f:Str)(v:V):∀ fs:List (Str×V),(F5 f v fs).9<=fs.9+1
  | [] => by simp [F5]
  | (k, x) :: r => by
    have ih := Sh f v r;rw [show F5 f v ((k, x) :: r) = (if k = f then (k, v) :: r else (k, x) :: F5 f v r) from rfl]
    by_cases hk : k = f
    · rw [if_pos hk, iu, iu]; lia
    · rw [if_neg hk, iu, iu]; lia
theorem J6.some_of {v:V}{o:Za7}(r:J6 (en v) o):∃u,o=en u/\Be v u:=by
 cases o with
 |none=>exact(show False from r).elim
 |some u=>exact⟨u,rfl,r⟩
theorem J6.none_of {o:Za7}(r:J6 p9 o):o=p9:=by
 cases o with
 |none=>rfl
 |some u=>exact(show False from r).elim
theorem vI {v:V}{u:fu}(r:Be v u):EE u=NG:=by
 cases v with
 |non=>cases(show u=mr from r);rfl
 |bl b=>cases(show u=AG b from r);rfl
 |int i=>obtain⟨t,e⟩:=(show ∃t,u=nz i t from r);cases e;rfl
 |str x=>obtain⟨t,e⟩:=(show ∃t,u=rj x t from r);cases e;rfl
 |byt b=>obtain⟨t,e⟩:=(show ∃t,u=HW b t from r);cases e;rfl
 |flt b=>obtain⟨t,e⟩:=(show ∃t,u=DG b t from r);cases e;rfl
 |ref a=>cases(show u=iw a from r);rfl
 |ty n=>cases(show u=kr n from r);rfl
section
variable {P:gm} {w:iz} {H H':Hp} {h h':i8} {a C dx:fe} {fs fs':List (Str×V)}
theorem Tr (hok:HOk P w H h)(e:H a=en (.ins C dx fs)):∃mA,pO h a dx C mA/\(∀f,J6 (fs.lookup f) (mA f))/\BZ mA (fs.map (·.1))/\fs.9<=1000/\H dx=en (.own a):=by
 obtain⟨d,z,ne,ob,mA,n,r,q⟩:=(show B3 P w H h a (.ins C dx fs) from hok a _ e);exact{mA,⟨ob,n,ne⟩,r,q,z,d}
end
structure Cls (K:e7) (C:fe):Prop where
 pg:uy K C vp=NG
 hd:yi K C=NG
 po:DQ K C=NG
 sa:ju K (.ref C) "__setattr__"=en (en (.builtin "object.__setattr__"))
theorem Cls.get {K:e7}(c:Cls K C)(f:Str):uy K C f=NG:=c.pg
def Bk (K:e7)(C:fe)(f:Str):Prop:=ju K (.ref C) f=en p9
theorem Bk.taker {K:e7}{f:Str}(n:Bk K C f):zh K C f=en p9:=by
 unfold zh;rw[show ju K (.ref C) f=en p9 from n];rfl
structure zG (K:e7) (C:fe) (m:Str) (f:fe):Prop where
 at_:ju K (.ref C) m=en (en (.ref f))
 fn:oy K (.ref f)=NG
 kp:j7 K (.ref f)=NG
section
variable {X:Cx} {pins:Za1} {σ:St} {H:Hp} {s:gb} {a C dx:fe} {fs:List (Str×V)} {f:Str} {v:V} {A:jd} {E:Za0}
theorem pV {b:Bool}{Q:Za0}(I:Inv X pins σ H s)(e:H a=en (.ins C dx fs))(c:Cls X.K C)(n:Bk X.K C f)(l:fs.lookup f=en v)
  (h:∀u s',Inv X pins σ H s'->Be v u->Q u s'):wpAny (model X.prog X.w) A (getAttr (.ref a) f b) Q E s:=by
 obtain⟨mA,O,r,_,_,_⟩:=Tr I.hok e;obtain⟨u,hu,ru⟩:=J6.some_of (v:=v) (o:=mA f) (by rw[<-l];exact r f);exact Aeh I.kIn O (c.get f) c.hd n hu (vI ru) (h u _ (I.tok _) ru)
theorem Np {m:Str}{g:fe}{Q:fu×Za3->gb->Prop}(I:Inv X pins σ H s)(e:H a=en (.ins C dx fs))(c:Cls X.K C)(k:zG X.K C m g)(l:fs.lookup m=p9)
  (h:Q (.ref g,[.ref a]) s):wpAny (model X.prog X.w) A (getMethod (.ref a) m pl) Q E s:=by
 obtain⟨mA,O,r,_,_,_⟩:=Tr I.hok e;have hn:mA m=p9:=J6.none_of (by rw[<-l];exact r m);exact zV I.kIn O (c.get m) k.at_ k.fn hn h
theorem oO {u:fu}{Q:Unit->gb->Prop}(I:Inv X pins σ H s)(e:H a=en (.ins C dx fs))(c:Cls X.K C)(n:Bk X.K C f)(hl:fs.9<1000)(ry:Be y u)
  (h:∀s',Inv X pins σ (upd H a (.ins C dx (F5 f y fs))) s'->Q .unit s'):wpAny (model X.prog X.w) A (setAttr (.ref a) f u) Q E s:=by
 obtain⟨mA,O,r,wi,_,ho⟩:=Tr I.hok e;have hz:(fs.map (·.1)).9<=sizeLine:=by rw[fb,GG];lia
 refine Ad5 I.kIn O c.sa c.po n.taker c.hd wi hz λh' O' sb=>h _ ?_;have hd:∃o,h'.get? dx=en o:=let ⟨o,_,_,e',_⟩:=O'.ns;⟨o,e'⟩;refine I.write (x:=a) (e:=dx) (by rw[e];exact m8) (.inr ho) (λb q hb z=>(sb.2 b hb).trans z) hd ?_;refine{by rw[Aj O.ne];exact ho,?_,O.ne,O'.obj,_,O'.ns,λg=>?_,λg hg=>?_}
 .have:=Sh f y fs;lia
 .show J6 ((F5 f y fs).lookup g) (if g=f then en u else mA g)
  rw[Sd]
  by_cases q:g=f
  .rw[if_pos q,if_pos q];exact ry
  .rw[if_neg q,if_neg q];exact r g
 .by_cases q:g=f
  .rw[q];exact(P9 f y fs).1
  .refine(P9 f y fs).2 g (wi g λz=>hg ?_)
   show(if g=f then en u else mA g)=p9;rw[if_neg q];exact z
theorem Inv.made (I:Inv X pins σ H s):Inv X pins σ (upd (upd H s.heap.objs.8 (.own (s.heap.objs.8+1))) (s.heap.objs.8+1) (.ins C s.heap.objs.8 []))
  { s with heap:=(s.heap.push l4).push (instObj C s.heap.objs.8) }:=by
 have e1:(s.heap.push l4).get? s.heap.objs.8=en l4:=gu s.5 rfl;have e2:((s.heap.push l4).push (instObj C s.heap.objs.8)).get? (s.heap.objs.8+1)=en (instObj C s.heap.objs.8):=by
  have:=gu (s.heap.push l4) (o:=instObj C s.heap.objs.8) rfl
  rwa [qw] at this
 have e3:(s.heap.push l4).Ns s.heap.objs.8 (λ_=>p9):={l4,#[],_,e1,rfl,(λe he=>absurd he (by simp)),λ_=>rfl};have I1:=I.laid (a:=s.heap.objs.8) (o:=.own (s.heap.objs.8+1)) (h':=s.heap.push l4) (t':=s.toks) (λb u q=>fj _ q) (fm _) {_,e1};refine I1.laid (a:=s.heap.objs.8+1) (o:=.ins C s.heap.objs.8 []) (t':=s.toks) (λb u q=>fj _ q) (q0 (qw _ _)) ?_;have ne:s.heap.objs.8≠s.heap.objs.8+1:=io (o9 _);refine{by rw[Aj ne,Ae],ij _,ne,e2,λ_=>p9,(DL e3).at λo q=>fj _ q,λ_=>m8,λy hy=>absurd rfl hy}
theorem tY {prog:gm}{e:ja}{f:Str}{Q:Za0}(hb:attributeBase e f env (eval e env)=eval e env)
  (h:wpAny (model prog w) A (eval e env) (λo QN=>wpAny (model prog w) A (getAttr o f NG) Q E QN) E s):wpAny (model prog w) A (eval (.Attribute e f pos) env) Q E s:=
 Attribute_any_ h (by rw[arm_eval_Attribute,hb])
end
def Aec (K:e7)(ta:TE)(f:Str):TE:=λσ H Q=>ta σ H λx H1=>∃a C dx fs v,x=.ref a/\H1 a=en (.ins C dx fs)/\Cls K C/\Bk K C f/\fs.lookup f=en v/\Q v H1
def Ahm (K:e7)(ta tv:TE)(f:Str):TS:=λD σ H=>tv σ H λy H1=>ta σ H1 λx H2=>∃a C dx fs,x=.ref a/\H2 a=en (.ins C dx fs)/\Cls K C/\Bk K C f/\fs.9<1000 /\
 D.nx σ (upd H2 a (.ins C dx (F5 f y fs)))
section
variable {X:Cx} {o e value:ja} {f:Str} {pos pos' tpos:Pos} {ta tv:TE}
theorem Acg (he:PE X e ta)(hb:attributeBase e f X.env (eval e X.env)=eval e X.env):PE X (.Attribute e f pos) (Aec X.K ta f):=by
 k_in;refine tY hb (thE he I h λu s1 x H1 I1 rx h0=>cpZ λX0 k0=>?_);obtain⟨a,C,dx,fs,v,ex,ea,c,n,l,q⟩:=h0;refine k0 ?_;subst ex;obtain rfl:u=iw a:=rx;exact pV I1 ea c n l λu' s2 I2 ru=>⟨v,H1,I2,ru,q⟩
theorem Agk (ha:PE X o ta)(hv:PE X value tv)(hs:swapsWith value (en (.Attribute o f pos')) pos.line X.env=pure NH):PS X (.Assign [.Attribute o f pos'] value pos) (Ahm X.K ta tv f):=by
 k_end;refine plainObj_wpAny_Assign_Attribute (thE hv I h λu s1 y H1 I1 ry q=>thE ha I1 q λov s2 x H2 I2 rx h0=>cpZ λX0 k0=>?_) hs;obtain⟨a,C,dx,fs,ex,ea,c,n,l,q2⟩:=h0;refine k0 ?_;subst ex;obtain rfl:ov=iw a:=rx;exact oO I2 ea c n l ry λs3 I3=>{σ,_,I3,q2}
end
section
variable {X:Cx} {pins:Za1} {σ:St} {H:Hp} {s:gb} {A:jd} {E:Za0} {Q:Za0} {c:fu} {b:Bool}
inductive Kh (K:e7) (H:Hp):V->fu->Prop where
 |non:Kh K H .non (.type "NoneType")
 |bl (x:Bool):Kh K H (.bl x) (.type "bool")
 |int (i:Int):Kh K H (.int i) (.type "int")
 |str (x:Str):Kh K H (.str x) (.type "str")
 |flt (x:UInt64):Kh K H (.flt x) (.type "float")
 |lst {a:fe} {xs:List V} (e:H a=en (.lst xs)):Kh K H (.ref a) (.type "list")
 |frz {a:fe} {o:Obj} {xs:List V} (e:H a=en (.frz o (.lst xs))):Kh K H (.ref a) (.type "list")
 |tup {a:fe} {xs:List V} (e:H a=en (.tup xs)):Kh K H (.ref a) (.type "tuple")
 |dK {a:fe} {kvs:List (Key×V)} (e:H a=en (.dK kvs)):Kh K H (.ref a) (.type "dict")
 |dT {a:fe} {kvs:List (List Key×V)} (e:H a=en (.dT kvs)):Kh K H (.ref a) (.type "dict")
 |ins {a C dx:fe} {fs:List (Str×V)} (e:H a=en (.ins C dx fs)) (cl:Cls K C) (ha:ju K (.ref C) "__class__"=en (en (.builtin "object.__class__")))
   (hn:DP K (.builtin "object.__class__") "__get__"=en (en (.builtin "getset_descriptor.__get__"))) (htk:PySem.W.takesIn K (.builtin "object.__class__")=en NG)
   (hm:PySem.W.mroIn K C (.type "object")=en NG):Kh K H (.ref a) (.ref C)
theorem xE {x:V}{u t:fu}(I:Inv X pins σ H s)(rx:Be x u)(ty:Kh X.K H x t)(e:kitOne X.K t c=en b)(h:∀tk,Q (.bool b) { s with toks:=tk }) :
  wpAny (model X.prog X.w) A (call (.builtin "isinstance") [u,c]) Q E s:=by
 cases ty with
 |non=>cases(show u=mr from rx);exact rn PySem.W.kitx_none I.kIn m8 e (λz=>nomatch z) h
 |bl y=>cases(show u=AG y from rx);exact rn PySem.W.kitx_bool I.kIn m8 e (λz=>nomatch z) h
 |int i=>obtain⟨t,q⟩:=(show ∃t,u=nz i t from rx);cases q;exact rn PySem.W.kitx_int I.kIn m8 e (λz=>nomatch z) h
 |str y=>obtain⟨t,q⟩:=(show ∃t,u=rj y t from rx);cases q;exact rn PySem.W.kitx_str I.kIn m8 e (λz=>nomatch z) h
 |flt y=>obtain⟨t,q⟩:=(show ∃t,u=DG y t from rx);cases q;exact rn PySem.W.kitx_float I.kIn m8 e (λz=>nomatch z) h
 | @lst a xs ea=>
  cases(show u=iw a from rx);obtain⟨_,_,n,_,h1⟩:=(show B3 X.prog X.w H s.5 a (.lst xs) from I.hok a _ ea);exact rn DR I.kIn {_,h1,rfl} e (λz=>nomatch z) h
 | @frz a ob xs ea=>
  cases(show u=iw a from rx);obtain⟨_,_,_,n,_,h1⟩:=(show B3 X.prog X.w H s.5 a (.frz ob (.lst xs)) from I.hok a _ ea);exact rn DR I.kIn {_,h1,rfl} e (λz=>nomatch z) h
 | @tup a xs ea=>
  cases(show u=iw a from rx);obtain⟨_,_,_,p⟩:=(show B3 X.prog X.w H s.5 a (.tup xs) from I.hok a _ ea);obtain⟨o,h1,h2,_⟩:=p;exact rn PySem.W.kitx_tuple I.kIn ⟨o,h1,h2⟩ e (λz=>nomatch z) h
 | @dK a kvs ea=>
  cases(show u=iw a from rx);obtain⟨_,_,vs,_,p⟩:=(show B3 X.prog X.w H s.5 a (.dK kvs) from I.hok a _ ea);obtain⟨o,es,ep,h1,h2,_⟩:=p;exact rn DS I.kIn ⟨o,h1,h2.1⟩ e (λz=>nomatch z) h
 | @dT a kvs ea=>
  cases(show u=iw a from rx);obtain⟨_,_,xs,_,o,es,ep,h1,h2,_⟩:=(show B3 X.prog X.w H s.5 a (.dT kvs) from I.hok a _ ea);exact rn DS I.kIn ⟨o,h1,h2.1⟩ e (λz=>nomatch z) h
 | @ins a C dx fs ea cl ha hn htk hm=>
  cases(show u=iw a from rx);obtain⟨mA,O,_⟩:=Tr I.hok ea;obtain⟨od,J,_⟩:=O.look;exact rn (PySem.W.kitx_own (cl.get _) cl.hd ha hn htk hm) I.kIn J e (λz=>nomatch z) h
end
structure B9 (k:Nat) (A:jd):Prop where
 hd:A.handled=p9
 dp:A.depth+3*k+5<recursionLimit
 un:A.units+16*k+200<cLine
theorem B9.mono {j k:Nat}(r:B9 k A)(h:j<=k):B9 j A:={r.hd,by have:=r.dp;lia,by have:=r.un;lia}
theorem B9.m {j k:Nat}(r:B9 k A)(h:autoParam (j<=k) QF):B9 j A:=r.mono h
theorem B9.deeper {k:Nat}(r:B9 (k+1) A)(env:Env):B9 k (A.deeper env):=
 {r.hd,by have:=r.dp;show A.depth+1+3*k+5<_;lia,by have:=r.un;show A.units+3+16*k+200<_;lia}
theorem pI {kw:List (Str×fu)}:(A.under (.builtin "type.__call__" {.ref C::us,kw})).depth=A.depth+1:=by
 first|rfl|simp[BX,Code.weight,Code.isCreation,Code.isGuard,Code.isCaller,JK,CW,guardIds]
theorem qY {kw:List (Str×fu)}:(A.under (.builtin "type.__call__" {.ref C::us,kw})).units=A.units+1:=by
 first|rfl|simp[BX,Code.cUnits,JK,CW]
theorem B9.make {k:Nat}(r:B9 (k+1) A)(C:fe)(us:Za3)(kw:List (Str×fu)):B9 k (A.under (.builtin "type.__call__" {.ref C::us,kw})):=
 {r.hd,by have:=r.dp;rw[pI];lia,by have:=r.un;rw[qY];lia}
theorem B9.depth {k:Nat}(r:B9 k A):A.depth<recursionLimit:=by have:=r.dp;lia
theorem B9.units {k:Nat}(r:B9 k A):A.units+64<cLine:=by have:=r.un;lia
def mF:TA:=λ_ H Q=>Q [] H
def Z7 (ta:TE)(tr:TA):TA:=λσ H Q=>ta σ H λx H1=>tr σ H1 λxs H2=>Q (x::xs) H2
section
variable {X:Cx} {e:ja} {es:List ja} {te:TE} {t:TA} {pos:Pos}
theorem Aa:PA X [] mF:=λ_ _ _ _ H Q I h=>nj {[],H,I,.nil,h}
theorem tK (ha:PE X e te)(hr:PA X es t)(hs:autoParam (starEach (e::es) X.env=(NH,eval e X.env)::starEach es X.env) QD):PA X (e::es) (Z7 te t):=by
 intro pos pins s σ H Q I h;rw[hs];show wpAny _ _ (spliced ((NH,eval e X.env)::backTo pos (starEach es X.env))) _ _ s;refine lv (thE ha I h λu s1 x H1 I1 r1 q1=>?_);exact thA hr I1 q1 λus s2 xs H2 I2 r2 q2=>⟨x::xs,H2,I2,.cons r1 r2,q2⟩
def Akb (t:TA):TE:=λσ H Q=>t σ H λxs H1=>xs.9<=sizeLine/\∀p,H1 p=p9->Q (.ref p) (upd H1 p (.tup xs))
def Af0 (t:TA):TE:=λσ H Q=>t σ H λxs H1=>xs.9<=sizeLine/\∀p,H1 p=p9->Q (.ref p) (upd H1 p (.lst xs))
theorem Kk {x1}(h:PA X es t):PE X (.Tuple es x1 pos) (Akb t):=by
 intro pins s σ H Q I hq;refine wpAny_Tuple_spliced (thA h I hq λus s1 xs H1 I1 r ⟨z,q⟩=>{by rw[<-r.9];exact z,?_});have hf:H1 s1.heap.objs.8=p9:=I1.hok.fresh (fm _);refine{.ref s1.heap.objs.8,upd H1 s1.heap.objs.8 (.tup xs),I1.laid (t':=s1.toks) (λb u e=>fj _ e) (fm _) ?_,rfl,q _ hf};exact{z,us,r,{_,gu _ rfl,rfl,_,rfl}}
theorem Ay (h:PA X es t):PE X (.List es pos) (Af0 t):=by
 intro pins s σ H Q I hq;refine wpAny_List_spliced (thA h I hq λus s1 xs H1 I1 r ⟨z,q⟩=>{by rw[<-r.9];exact z,?_});have hf:H1 s1.heap.objs.8=p9:=I1.hok.fresh (fm _);refine{.ref s1.heap.objs.8,upd H1 s1.heap.objs.8 (.lst xs),I1.laid (t':=s1.toks) (λb u e=>fj _ e) (fm _) ?_,rfl,q _ hf};exact{z,us,0,r,gu _ rfl}
end
abbrev Sp:=List V->Hp->VK->XK->Prop
abbrev CXT:=List Env->Hp->gb->XK->Za0
structure Yh (P:gm) (w:iz) (K:e7) (mg:Za2) (base:i8) (A:jd) (outer:List Env) (s:gb) (H:Hp):Prop where
 frames:A.frames=en outer
 mod:Mod K mg base
 bs:∀b o,base.get? b=en o->s.heap.get? b=en o/\H b=p9
 bsz:base.objs.8<=s.heap.objs.8
 funs:s.heap.FunFrames base outer
 frf:∀b∈frs outer,H b=p9
 hok:HOk P w H s.5
 bare:vc s.gens
def CE (outer:List Env)(P:gm)(w:iz)(H:Hp)(s:gb)(Q:VK)(u:fu)(s':gb):Prop:=
 ∃v H',s'.os=s.os/\vc s'.gens/\Un (frs outer) [] H H' s.5 s'.5/\HOk P w H' s'.5/\Be v u/\Q v H'
def CR (CX:CXT)(outer:List Env)(P:gm)(w:iz)(H:Hp)(s:gb)(Q:VK)(E:XK)(r:wm)(s':gb):Prop:=
 match r with
 |.ok (.ret u)=>CE outer P w H s Q u s'
 |.ok _=>False
 |.error e=>CX outer H s E e s'
structure Aq (P:gm) (w:iz) (K:e7) (mg:Za2) (base:i8) (CX:CXT) (k:Nat) (f:fe) (fd:jv) (ps:Za6) (sp:Sp):Prop where
 len:∀vs H Q E,sp vs H Q E->vs.9=ps.9
 run:∀(A:jd) (outer:List Env) (s:gb) (H:Hp) (args:Args) (us:Za3) (vs:List V) (Q:VK) (E:XK),B9 k A->Yh P w K mg base A outer s H->CZ s fd args (ps.zip us)->Az vs us->sp vs H Q E ->
  codeAny (model P w) A (.call (.ref f) args) (CR CX outer P w H s Q E) s
theorem Yh.make {P:gm}{K:e7}{mg:Za2}(e:Yh P w K mg base A outer s H)(C:fe)(us:Za3)(kw:List (Str×fu)) :
  Yh P w K mg base (A.under (.builtin "type.__call__" {.ref C::us,kw})) outer s H:=⟨by first|exact e.frames|(simpa [BX,Code.envs,CW,pushEnvs] using e.frames),e.mod,e.bs,e.bsz,e.funs,e.frf,e.hok,e.bare⟩
section
variable {X:Cx} {pins:Za1} {σ:St} {H:Hp} {s s':gb}
theorem Inv.env0 (I:Inv X pins σ H s):Yh X.prog X.w X.K X.mg X.base X.A X.stack s H:=
 {I.ok.frames,I.ok.mod,I.bs,iy I.ok.bsz I.sz,I.stack,I.stkFree,I.hok,I.bare}
theorem Inv.after {Q:VK}{u:fu}(I:Inv X pins σ H s)(h:CE X.stack X.prog X.w H s Q u s'):EP X pins σ Q u s':=by
 obtain⟨v,H',os,bare,un,hok,r,q⟩:=h;obtain⟨hh,g,d,t,os'⟩:=s';obtain rfl:os'=s.os:=os;exact{v,H',I.call (h':=hh) (g':=g) (d':=d) (t':=t) (ch:=[]) un hok bare (λb z=>absurd z (by simp)),r,q}
end
def kU (sp:Sp)(dvs:List V)(E:XK)(t:TA):TE:=λσ H Q=>t σ H λvs H1=>sp (vs++dvs) H1 Q E
def Vi (C:fe)(m:Str)(sp:Sp)(dvs:List V)(E:XK)(ta:TE)(t:TA):TE:=λσ H Q=>ta σ H λx H1=>∃a dx fs,x=.ref a/\H1 a=en (.ins C dx fs)/\fs.lookup m=p9 /\
 t σ H1 λvs H2=>sp (x::(vs++dvs)) H2 Q E
def Yu (C:fe)(sp:Sp)(dvs:List V)(E:XK)(t:TA):TE:=λσ H Q=>t σ H λvs H1=>∀x dx,H1 x=p9->H1 dx=p9->dx≠x ->
 sp (.ref x::(vs++dvs)) (upd (upd H1 dx (.own x)) x (.ins C dx [])) (λv H2=>v=.non/\Q (.ref x) H2) E
def Dy (K:e7)(fd:jv)(ps:Za6)(ds:Za3):Prop:=
 ∀(s:gb) (us:Za3),K.In s.5->(us++ds).9=ps.9->CZ s fd {us,[]} (ps.zip (us++ds))
theorem Dy.all {K:e7}(h:∀us:Za3,us.9=ps.9->bindArgs fd {us,[]}=pure (ps.zip us)):Dy K fd ps []:=λs us _ hl=>by
 rw[lu] at hl ⊢;exact .of_eq (h us hl)
def Go (CX:CXT)(X:Cx)(E:XK):Prop:=∀(pins:Za1) (σ:St) (H:Hp) (s:gb) (e:fu) (s':gb),Inv X pins σ H s->CX X.stack H s E e s'->X.xe e s'
section
variable {X:Cx} {CX:CXT} {k:Nat} {f C:fe} {fd:jv} {ps:Za6} {sp:Sp} {dvs:List V} {ds:Za3} {E:XK} {x m:Str} {p pos apos:Pos} {e o:ja} {es:List ja} {ta:TE} {t:TA}
theorem gV {σ:St}{Q:VK}{vs:List V}(F:Aq X.prog X.w X.K X.mg X.base CX k f fd ps sp)(hr:B9 k X.A)(hb:Dy X.K fd ps ds)(hd:Az dvs ds)(hx:Go CX X E)
  (I:Inv X pins σ H s)(r:Az vs us)(h:sp (vs++dvs) H Q E):wpAny (model X.prog X.w) X.A (call (.ref f) us) (EP X pins σ Q) X.xe s:=by
 have r2:Az (vs++dvs) (us++ds):=r.append hd;have hl:(us++ds).9=ps.9:=by rw[<-r2.9];exact F.len _ _ _ _ h
 refine nh (ot (F.run X.A X.stack s H {us,[]} (us++ds) (vs++dvs) Q E hr I.env0 (hb s us I.kIn hl) r2 h) λr s' hq=>?_)
 cases r with
 |error e=>exact hx pins σ H s e s' I hq
 |ok fl=>
  cases fl with
  |ret u=>exact I.after hq
  |next=>exact ky hq
  |brk=>exact ky hq
  |cont=>exact ky hq
theorem rG (F:Aq X.prog X.w X.K X.mg X.base CX k f fd ps sp)(hr:B9 k X.A)(hg:Gl X x)(hm:X.mg x=en (.ref f))(hk:j7 X.K (.ref f)=NG)(hb:Dy X.K fd ps ds)(hd:Az dvs ds)(hx:Go CX X E)
  (ha:PA X (e::es) t)(hdb:autoParam ((x==("__debug__":Str))=NH) QF)(he:autoParam (starEach (e::es) X.env=(NH,eval e X.env)::starEach es X.env) QD)(hpl:autoParam ((backTo pos (starEach es X.env)).any (·.1)=NH) QD) :
  PE X (.Call (.Name x p) (e::es) [] pos) (kU sp dvs E t):=by
 k_in;refine wpAny_Call_Name_kw (Gu I hg hm ?_ hdb);refine callWith_K (h₀:=X.base) I.ok.mod.kin hk (thA ha I h λus s1 vs H1 I1 r q=>{I1.kIn,?_}) he hpl;exact gV F hr hb hd hx I1 r q
theorem sG (he:PE X o ta)(c:Cls X.K C)(hm:zG X.K C m f)(F:Aq X.prog X.w X.K X.mg X.base CX k f fd ps sp)(hr:B9 k X.A)(hb:Dy X.K fd ps ds)(hd:Az dvs ds)(hx:Go CX X E)(ha:PA X (e::es) t)
  (hst:autoParam (starEach (e::es) X.env=(NH,eval e X.env)::starEach es X.env) QD)(hpl:autoParam ((backTo pos (starEach es X.env)).any (·.1)=NH) QD)
  (ht:autoParam (eval (.Call (.Attribute o m apos) (e::es) [] pos) X.env=(do
   let ov <-eval o X.env
   standAt apos.atName
   let (f,first) <-holding [ov] (getMethod ov m pl)
   callWith pos f first (backTo pos (starEach (e::es) X.env)) (backToKw pos (keywordEach [] X.env)))) QD) :
  PE X (.Call (.Attribute o m apos) (e::es) [] pos) (Vi C m sp dvs E ta t):=by
 k_in;refine vq (pl:=pl) (thE he I h λu s1 x H1 I1 rx ⟨a,dx,fs,ex,ea,l,q⟩=>?_) ht;subst ex;obtain rfl:u=iw a:=rx;refine Np I1 ea c hm l ?_;refine callWith_K (first:=[.ref a]) (h₀:=X.base) I.ok.mod.kin hm.kp (thA ha I1 q λus s2 vs H2 I2 r q2=>{I2.kIn,?_}) hst hpl;exact gV (us:=.ref a::us) (vs:=.ref a::vs) F hr hb hd hx I2 (.cons rfl r) q2
theorem Ab9 (he:PE X o ta)(c:Cls X.K C)(hm:zG X.K C m f)(F:Aq X.prog X.w X.K X.mg X.base CX k f fd ps sp)(hr:B9 k X.A)(hb:Dy X.K fd ps ds)(hd:Az dvs ds)(hx:Go CX X E)
  (ht:autoParam (eval (.Call (.Attribute o m apos) [] [] pos) X.env=(do
   let ov <-eval o X.env
   standAt apos.atName
   let (f,first) <-holding [ov] (getMethod ov m pl)
   callWith pos f first (backTo pos (starEach [] X.env)) (backToKw pos (keywordEach [] X.env)))) QD) :
  PE X (.Call (.Attribute o m apos) [] [] pos) (Vi C m sp dvs E ta mF):=by
 k_in;refine vq (pl:=pl) (thE he I h λu s1 x H1 I1 rx ⟨a,dx,fs,ex,ea,l,q⟩=>?_) ht;subst ex;obtain rfl:u=iw a:=rx;refine Np I1 ea c hm l ?_;exact PySem.W.callWith_K0 (first:=[.ref a]) I1.kIn hm.kp (gV (us:=[.ref a]) (vs:=[.ref a]) F hr hb hd hx I1 (.cons rfl .nil) q)
structure Mk (K:e7) (C f:fe):Prop where
 makes:EO K C=NG
 init:ju K (.ref C) "__init__"=en (en (.ref f))
 fn:oy K (.ref f)=NG
 kp:j7 K (.ref C)=NG
theorem Abg {σ:St}{Q:VK}{vs:List V}(M:Mk X.K C f)(F:Aq X.prog X.w X.K X.mg X.base CX k f fd ps sp)(hr:B9 (k+1) X.A)(hb:Dy X.K fd ps ds)(hd:Az dvs ds)
  (hx:Go CX X E)(I:Inv X pins σ H s)(r:Az vs us)
  (h:∀x dx,H x=p9->H dx=p9->dx≠x->sp (.ref x::(vs++dvs)) (upd (upd H dx (.own x)) x (.ins C dx [])) (λv H2=>v=.non/\Q (.ref x) H2) E) :
  wpAny (model X.prog X.w) X.A (call (.ref C) us) (EP X pins σ Q) X.xe s:=by
 have hq:=h (s.heap.objs.8+1) s.heap.objs.8 (I.hok.fresh (qj _)) (I.hok.fresh (fm _)) (io (o9 _));have I2:=Inv.made (C:=C) I;have r2:Az (V.ref (s.heap.objs.8+1)::(vs++dvs)) (iw (s.heap.objs.8+1)::(us++ds)):=.cons rfl (r.append hd);have hl:(iw (s.heap.objs.8+1)::us++ds).9=ps.9:=by
  have e:=r2.9;rw[F.len _ _ _ _ hq] at e;exact e.symm
 refine nh (kX (f:=f) I.kIn M.makes M.init (beq_iff_eq.mp M.fn) (ot (F.run _ X.stack _ _ {iw (s.heap.objs.8+1)::us,[]} (iw (s.heap.objs.8+1)::(us++ds)) _ _ E (hr.make C us [])
  (I2.env0.make C us []) (hb _ (iw (s.heap.objs.8+1)::us) I2.kIn hl) r2 hq) λr s' hq'=>?_))
 cases r with
 |error e=>exact hx pins σ _ _ e s' I2 hq'
 |ok fl=>
  cases fl with
  |ret u=>
   obtain⟨v,H',I3,rv,ev,q3⟩:=I2.after hq';subst ev;exact{rv,{V.ref (s.heap.objs.8+1),H',I3,rfl,q3}}
  |next=>exact ky hq'
  |brk=>exact ky hq'
  |cont=>exact ky hq'
theorem fW (M:Mk X.K C f)(F:Aq X.prog X.w X.K X.mg X.base CX k f fd ps sp)(hr:B9 (k+1) X.A)(hg:Gl X x)(hm:X.mg x=en (.ref C))(hb:Dy X.K fd ps ds)(hd:Az dvs ds)(hx:Go CX X E)
  (ha:PA X (e::es) t)(hdb:autoParam ((x==("__debug__":Str))=NH) QF)(he:autoParam (starEach (e::es) X.env=(NH,eval e X.env)::starEach es X.env) QD)(hpl:autoParam ((backTo pos (starEach es X.env)).any (·.1)=NH) QD) :
  PE X (.Call (.Name x p) (e::es) [] pos) (Yu C sp dvs E t):=by
 k_in;refine wpAny_Call_Name_kw (Gu I hg hm ?_ hdb);refine callWith_K (h₀:=X.base) I.ok.mod.kin M.kp (thA ha I h λus s1 vs H1 I1 r q=>{I1.kIn,?_}) he hpl;exact Abg M F hr hb hd hx I1 r q
end
structure Ah (N P:Za6) (sc:nr):Prop where
 kind:sc.kind=.function
 co:sc.isCoroutine=NH
 gen:sc.isGenerator=NH
 nd:N.Nodup
 pre:N.take P.9=P
 par:∀x∈P,sc.names.lookup x=en .local\/sc.names.lookup x=en .cell
 nofree:∀y∈sc.names,y.2≠.free
theorem Y5 {kindOf:Str->Option ph}{x:Str}:∀ {binds:List (Str×fu)} {m:Za2},(∀ v,(x,v)∉binds)->bindL kindOf binds m x=m x
  | [], _, _ => rfl
  | (n, v) :: r, m, h => by
    unfold bindL;rw [Y5 λw hw => h w (gw _ hw)];split
    · have : x ≠ n := by rintro rfl; exact h v gt
      simp [this]
    · rfl
theorem Yr {kindOf:Str->Option ph}{x:Str}:∀ {binds:List (Str×fu)} {m:Za2},(∀ v,(x,v)∉binds)->bindC kindOf binds m x=m x
  | [], _, _ => rfl
  | (n, v) :: r, m, h => by
    unfold bindC;rw [Yr λw hw => h w (gw _ hw)];split
    · rfl
    · have : x ≠ n := by rintro rfl; exact h v gt
      simp [this]
theorem Zu {kindOf:Str->Option ph}{x:Str}{v:fu}:∀{P:Za6} {vs:Za3} {i:Nat} {m:Za2},P.Nodup->P[i]?=en x->vs[i]?=en v->kindOf x=en .local ->
  bindL kindOf (P.zip vs) m x=en v
 |[],_,_,_,_,h,_,_=>by simp at h
 |_::_,[],_,_,_,_,h,_=>by simp at h
 |p::P,w::vs,0,m,nd,h1,h2,hk=>by
  simp at h1 h2;subst h1;subst h2;show bindL kindOf ((p,w)::P.zip vs) m p=_;unfold bindL;rw[Y5 λv hv=>(tu.mp nd).1 (pz hv).1,if_pos hk];simp
 |p::P,w::vs,i+1,m,nd,h1,h2,hk=>by
  show bindL kindOf ((p,w)::P.zip vs) m x=_;unfold bindL;exact Zu (i:=i) (tu.mp nd).2 (by simpa using h1) (by simpa using h2) hk
theorem Z1 {kindOf:Str->Option ph}{x:Str}{v:fu}:∀{P:Za6} {vs:Za3} {i:Nat} {m:Za2},P.Nodup->P[i]?=en x->vs[i]?=en v->kindOf x≠en .local ->
  bindC kindOf (P.zip vs) m x=en v
 |[],_,_,_,_,h,_,_=>by simp at h
 |_::_,[],_,_,_,_,h,_=>by simp at h
 |p::P,w::vs,0,m,nd,h1,h2,hk=>by
  simp at h1 h2;subst h1;subst h2;show bindC kindOf ((p,w)::P.zip vs) m p=_;unfold bindC;rw[Yr λv hv=>(tu.mp nd).1 (pz hv).1,if_neg hk];simp
 |p::P,w::vs,i+1,m,nd,h1,h2,hk=>by
  show bindC kindOf ((p,w)::P.zip vs) m x=_;unfold bindC;exact Z1 (i:=i) (tu.mp nd).2 (by simpa using h1) (by simpa using h2) hk
def Kx (N:Za6)(vs:List V):St:=vs.map en++gd (N.9-vs.9) p9
def Ce (CX:CXT)(P:gm)(w:iz)(K:e7)(mg:Za2)(base:i8)(N:Za6)(qual:Str)(scope:nr)(f:fe)(cd:fu)(A:jd)(outer:List Env)(s:gb)(H:Hp)(E:XK):Cx where
 prog:=P
 w:=w
 K:=K
 mg:=mg
 base:=base
 A:=A.deeper (envOfC qual scope s.heap.objs.8 f cd)
 N:=N
 mt:=s
 QP:=H
 env:=envOfC qual scope s.heap.objs.8 f cd
 outer:=outer
 stack:=envOfC qual scope s.heap.objs.8 f cd::outer
 ex:=[]
 calm:=NG
 fn:=λ_=>NG
 pn:=[]
 xe:=λe s'=>wpAny (model P w) (A.deeper (envOfC qual scope s.heap.objs.8 f cd)) (leaving (envOfC qual scope s.heap.objs.8 f cd) e) (λ_ s''=>CX outer H s E e s'') (λe' s''=>CX outer H s E e' s'') s'
theorem nE {n:Nat}{x:Str}(h:sc.names.lookup x=en .cell):∃c,(cellsFrom n sc.names []).lookup x=en c:=by
 have q:=BA sc.names n [] (.inl h);exact jz.mp q
theorem vG {P:gm}{K:e7}{mg:Za2}{f:fe}{cd:fu}{s1:gb}{E:XK}{vs:List V}
  (S:Ah N ps scope)(hd:A.handled=p9)(e0:Yh P w K mg base A outer s H)(hl:vs.9=ps.9)(r:Az vs us)
  (x:InCallC s s.heap.objs.8 (bindL (envOfC qual scope s.heap.objs.8 f cd).kindOf (ps.zip us) λ_=>p9) (cellsFrom (s.heap.objs.8+1) scope.names []) (bindC (envOfC qual scope s.heap.objs.8 f cd).kindOf (ps.zip us) λ_=>p9) s1) :
  Inv (Ce CX P w K mg base N qual scope f cd A outer s H E) [] (Kx N vs) H s1:=by
 have hpl:ps.9<=N.9:=by have:=congrArg DW S.pre;rw[gq] at this;lia
 obtain⟨h1,tk,rfl,hk⟩:=x.done;have noA:∀b:fe,b∉(Ce CX P w K mg base N qual scope f cd A outer s H E).ex:=λb z=>absurd (show b∈([]:List fe) from z) (by simp);refine⟨{e0.mod,S.kind,rfl,rfl,fm _,λy z c h1 h2=>?_,λy hy=>?_,λy c _ h=>?_,λ_=>hd,DA e0.frames,.inr ⟨rfl,rfl⟩,λb z=>absurd z (noA b),e0.bs,e0.bsz,λb _ _=>noA b,λb z=>absurd z (noA b),e0.funs,e0.frf},
  rfl,e0.bare,Un.kept hk,{_,x.toInCall.ns,λi y v h1 h2 h3=>?_},λy c h=>{_,x.cell y c h},e0.hok.fresh (fm _),λy c h=>?_,λp hp=>absurd (show p∈([]:Za1) from hp) (by simp),e0.hok.kept hk,?_⟩
 .exact name_of_addr x.apart (ko h1) (ko h2)
 .have hy:scope.names.lookup y=en .cell\/scope.names.lookup y=en .free:=hy
  rcases hy with hy|hy
  .exact nE hy
  .exact absurd rfl (S.nofree _ (ko hy))
 .exact gy (x.above y c (ko h))
 .have hi:i<vs.9:=by
   unfold Kx at h2
   by_cases hi:i<vs.9
   .exact hi
   .rw[ig (by simpa using hi)] at h2
    rw[qi] at h2;split at h2<;>cases h2
  have ha:vs[i]?=en v:=by
   unfold Kx at h2;rw[gv (by simpa using hi),fg] at h2
   cases e:vs[i]? with
   |none=>rw[e] at h2;cases h2
   |some a=>rw[e] at h2;cases h2;rfl
  obtain⟨u,hu,rv⟩:=r.get ha;have hp:ps[i]?=en y:=by
   rw[<-S.pre,jt ()];exact h1
  have ndP:ps.Nodup:=by rw[<-S.pre];exact S.nd.sublist (List.take_sublist _ _)
  refine{u,rv,?_};rcases S.par y (ip hp) with k|k
  .exact .inl {k,Zu ndP hp hu k}
  .obtain⟨c,e⟩:=nE (n:=s.heap.objs.8+1) k
   refine .inr {.inl k,c,e,?_};have q:=x.cell y c e;rw[Z1 ndP hp hu (by show scope.names.lookup y≠_;rw[k];decide)] at q;exact q
 .exact e0.hok.fresh (gy (x.above y c (ko h)))
 .unfold Kx
  show _=N.9;rw[fq,fb,jl];lia
theorem kD {P:gm}{K:e7}{mg:Za2}{k:Nat}{f:fe}{name:Str}{body:List i7}{dV kV:fu} 
  {osl:Array (Za7)}(lk:K.lookup f=en {oc,od,.func (jq name qual params body scope dV kV doc pm an cdv ct),osl})(hcd:ln K cdv qual=NG)(S:Ah N ps scope)
  (len:∀vs H Q E,sp vs H Q E->vs.9=ps.9)
  (hbody:∀(A:jd) (outer:List Env) (s:gb) (H:Hp) (vs:List V) (Q:VK) (E:XK),B9 k (A.deeper (envOfC qual scope s.heap.objs.8 f cdv))->sp vs H Q E ->
   ∃t,PSs (Ce CX P w K mg base N qual scope f cdv A outer s H E) body t/\t { nx:=λ_ H'=>Q .non H',rt:=Q } (Kx N vs) H) :
  Aq P w K mg base CX (k+1) f (jq name qual params body scope dV kV doc pm an cdv ct) ps sp:=by
 refine{len,λA outer s H args us vs Q E hr e0 hb r hsp=>?_};have hl:=len _ _ _ _ hsp;have KX:K.In s.5:=e0.mod.kin.keeps λb o e=>(e0.bs b o e).1;have lim:s.heap.NoLimit:=e0.mod.nolimit.keeps λb o e=>(e0.bs b o e).1;have hkind:∀y∈ps.zip us,scope.names.lookup y.1=en .local\/(scope.names.lookup y.1=en .cell/\((cellsFrom (s.heap.objs.8+1) scope.names []).lookup y.1).isSome=NG):=λ⟨n,v⟩ hy=>by
  rcases S.par n (pz hy).1 with q|q
  .exact .inl q
  .exact .inr {q,BA _ _ _ (.inl q)}
 refine codeAny_call_function hr.depth (KX _ _ lk) rfl S.co S.gen rfl (PySem.W.codeRec_of KX hcd) (hb _ _ _ _ ?_);refine wpAny_newFunctionEnv_cells S.kind hkind λenv he s1 x=>?_;subst he;refine{lim.keeps x.toInCall.keep,codeAny_func ?_};obtain⟨t,ht,hq⟩:=hbody A outer s H vs Q E (hr.deeper _) hsp;have I:Inv (Ce CX P w K mg base N qual scope f cdv A outer s H E) [] (Kx N vs) H s1:=vG S hr.hd e0 hl r x;refine km (ht [] s1 (Kx N vs) H _ I hq) (λfl s' hs=>?_) λe s' hs=>hs;have fin:∀{QM:St} {H':Hp} {v:V} {u:fu},Inv (Ce CX P w K mg base N qual scope f cdv A outer s H E) [] QM H' s'->Be v u->Q v H'->CE outer P w H s Q u s':=
  λ{QM H' v u} J rv q=>⟨v,H',J.os,J.bare,J.base,J.hok,rv,q⟩
 cases fl with
 |ret u=>
  obtain⟨v,QM,H',J,rv,q⟩:=hs;exact fin J rv q
 |next=>
  obtain⟨QM,H',J,q⟩:=hs;exact fin (v:=V.non) (u:=mr) J rfl q
 |brk=>
  obtain⟨_,_,_,q⟩:=hs;exact ky q
 |cont=>
  obtain⟨_,_,_,q⟩:=hs;exact ky q
section
variable {X:Cx} {x:Str} {p pos:Pos} {e:ja} {es:List ja} {t:TA} {id T:String} {r:List V->Hp->VK->Prop}
def tCB (r:List V->Hp->VK->Prop)(t:TA):TE:=λσ H Q=>t σ H λvs H1=>r vs H1 Q
theorem Ao (hc:Ea X (.builtin id) r)(hg:Gl X x)(hm:X.mg x=p9)(hv:bootBuiltins x=en (.builtin id))(ha:PA X (e::es) t)(hn:autoParam (x≠"__name__") QF)(hdb:autoParam ((x==("__debug__":Str))=NH) QF)
  (he:autoParam (starEach (e::es) X.env=(NH,eval e X.env)::starEach es X.env) QD)(hpl:autoParam ((backTo pos (starEach es X.env)).any (·.1)=NH) QD):PE X (.Call (.Name x p) (e::es) [] pos) (tCB r t):=by
 k_in;refine wpAny_Call_Name_kw (Dv I hg hm hv ?_ hn hdb);exact KQ (thA ha I h λus s1 vs H1 I1 r1 q1=>hc pins s1 σ H1 vs us Q I1 r1 q1) he hpl
theorem Cn (hc:Ea X (.type T) r)(hg:Gl X x)(hm:X.mg x=p9)(hv:bootBuiltins x=en (.type T))(ha:PA X (e::es) t)(hn:autoParam (x≠"__name__") QF)(hdb:autoParam ((x==("__debug__":Str))=NH) QF)
  (he:autoParam (starEach (e::es) X.env=(NH,eval e X.env)::starEach es X.env) QD)(hpl:autoParam ((backTo pos (starEach es X.env)).any (·.1)=NH) QD):PE X (.Call (.Name x p) (e::es) [] pos) (tCB r t):=by
 k_in;refine wpAny_Call_Name_kw (Dv I hg hm hv ?_ hn hdb);exact ir (thA ha I h λus s1 vs H1 I1 r1 q1=>hc pins s1 σ H1 vs us Q I1 r1 q1) he hpl
end
end _L
variable {C CB CC CO CP Pt dx i1 i2 it l1 l2:fe} {params:nu} {A:jd} {CX:_L.CXT} {op:ye} {X:_L.Cx} {env:PySem.Env} {tg:ja} {fd:jv} {base h' h1:i8} {H H' H0 H1 H2:_L.Hp} {J:_L.It} {pins:Za1} {fp:List fe} {outer:List PySem.Env} {ks ws:List Int} {cs ix ns:Za4} {N QR S kz ps:Za6} {xs:List _L.V} {us vs:Za3} {M:yb} {t':Nat} {oT:PySem.Obj} {an od:Option fe} {cpos lpos pos pos2:PySem.Pos} {sc scope QQ:nr} {pl:PySem.Sem Bool} {s:gb} {sp:_L.Sp} {fr:_L.St} {qual z:PySem.Str} {te:_L.TE} {wi:_L.TI} {y:_L.V} {cdv ct doc oc pm:fu} {w:iz}
namespace _T
open PySem PyProof.Rows
section
open PySem.SeqAt
open PySem.AutoSeq1 (wpAny_loadPart')
open PySem.MeetsSeq PySem.MeetsSeq2 PySem.MeetsSeq3
end
section
variable {prog:gm} {w:iz} {A:jd} {E:Za0} {s:gb}
def sIx (n d:Nat):Option Int->Nat
 |none=>d
 |some v=>if v<0 then(v+(n:Int)).toNat else min v.toNat n
theorem sIx_nat (n d k:Nat):sIx n d (en (k:Int))=min k n:=by
 show(if(k:Int)<0 then((k:Int)+(n:Int)).toNat else min (k:Int).toNat n)=min k n;rw[if_neg (),gr]
theorem sIx_le (n d:Nat)(hd:d<=n)(o:Option Int):sIx n d o<=n:=by
 cases o with
 |none=>exact hd
 |some v=>
  show(if v<0 then(v+(n:Int)).toNat else min v.toNat n)<=n
  by_cases hv:v<0
  .rw[if_pos hv];lia
  .rw[if_neg hv];exact vt _ _
theorem uN (v:Int)(n d:Nat):(if v<0 then max (v+(n:Int)) 0 else min v (n:Int))=((sIx n d (en v):Nat):Int):=by
 show(if v<0 then max (v+(n:Int)) 0 else min v (n:Int))=(((if v<0 then(v+(n:Int)).toNat else min v.toNat n):Nat):Int)
 by_cases hv:v<0
 .simp only[if_pos hv];lia
 .simp only[if_neg hv]
  obtain⟨m,rfl⟩:=lz (LN.mp hv);rw[gr];lia
theorem oR (lo hi:Option Int)(n:Nat):sw lo hi 1 (n:Int)=(((sIx n 0 lo:Nat):Int),((sIx n n hi:Nat):Int)):=by
 have h1:¬((1:Int)<0):=()
 unfold sw;simp only[h1,if_false];refine y8 ?_ ?_
 .cases lo with
  |none=>rfl
  |some v=>exact uN v n 0
 .cases hi with
  |none=>rfl
  |some v=>exact uN v n n
theorem pE (i j:Nat):om (i:Int) (j:Int) 1=j-i:=by
 unfold om;have h1:(1:Int)>0:=()
 simp only[h1,if_true,JJ];split<;>lia
theorem Xa {v:fu}{o:Option Int}{Q:Option Int->gb->Prop}(p:y4 v o)(h:Q o s):wpAny (model prog w) A (JL v) Q E s:=by
 cases p with
 |none=>exact LH h
 |int i t=>exact slicePart_int h
theorem sliceApplied_gen {sl:fe}{vl vu:fu}{lo hi:Option Int}{n:Nat}{Q:Int×Int×Nat->gb->Prop}(hs:s.heap.IsSliceOf sl vl vu .none)(pl:y4 vl lo)(pu:y4 vu hi)
  (h:Q (((sIx n 0 lo:Nat):Int),1,sIx n n hi-sIx n 0 lo) s):wpAny (model prog w) A (ym (.ref sl) (pure (n:Int))) Q E s:=by
 obtain⟨os,hos,hcs,hds⟩:=id hs;unfold ym JM;refine wpAny_bind (wpAny_bind (pe hos hds (x:=vl) rfl (wpAny_bind (pe hos hds (x:=vu) rfl (wpAny_bind (pe hos hds (x:=.none) rfl (fw ?_)))))));refine wpAny_bind (LH ?_);show wpAny _ _ (if((1:Int)==0)=NG then _ else _) _ _ s;rw[if_neg (by decide)];refine wpAny_bind (Xa pl (wpAny_bind (Xa pu (wpAny_bind (fw ?_)))));show wpAny _ _ (match sw lo hi 1 (n:Int) with|(lo,hi)=>pure (lo,(1:Int),om lo hi 1)) _ _ s;rw[oR lo hi n];show wpAny _ _ (pure (((sIx n 0 lo:Nat):Int),(1:Int),om ((sIx n 0 lo:Nat):Int) ((sIx n n hi:Nat):Int) 1)) _ _ s;rw[pE];exact fw h
theorem zN (xs:Array fu)(i k:Nat):((ft k).filterMap λ(m:Nat)=>xs[((i:Int)+(m:Int)*1).toNat]?).6=((xs.toList.drop i).take k).6:=by
 have e:(λ(m:Nat)=>xs[((i:Int)+(m:Int)*1).toNat]?)=λm=>xs[i+m]?:=by
  funext m
  have:((i:Int)+(m:Int)*1).toNat=i+m:=()
  rw[this]
 rw[e];have:=LJ xs i k;rw[List.filterMap_map] at this;have e2:((λx=>xs[x]?) ∘ λx=>i+x)=λm=>xs[i+m]?:=rfl;rw[e2] at this;rw[this]
theorem getItem_tuple_cut {t sl:fe}{items:Array fu}{vl vu:fu}{lo hi:Option Int}{Q:Za0}(ht:IsTup s.5 t items)(hs:s.heap.IsSliceOf sl vl vu .none)(pl:y4 vl lo)(pu:y4 vu hi)
  (hw:¬(sIx items.8 0 lo=0/\sIx items.8 items.8 hi=items.8))
  (h:Q (.ref s.heap.objs.8) { s with heap:=s.heap.push { cls:=.type "tuple",data:=.seq ((items.toList.drop (sIx items.8 0 lo)).take (sIx items.8 items.8 hi-sIx items.8 0 lo)).6 } })
  (hsz:items.8<=sizeLine):wpAny (model prog w) A (getItem (.ref t) (.ref sl)) Q E s:=by
 have htake:sizeOk (.seq ((items.toList.drop (sIx items.8 0 lo)).take (sIx items.8 items.8 hi-sIx items.8 0 lo)).6):=by
  show((items.toList.drop (sIx items.8 0 lo)).take (sIx items.8 items.8 hi-sIx items.8 0 lo)).toArray.size<=sizeLine;rw[gj,gq,jb,ie];exact iy (vt _ _) (iy (LM _ _) hsz)
 have hj:sIx items.8 items.8 hi<=items.8:=sIx_le _ _ (fm _) hi;obtain⟨os,hos,hcs,hds⟩:=id hs;have hTs:s.TypeIs (.ref sl) "slice":=⟨os,hos,hcs⟩;unfold getItem
 try with_reducible refine wpAny_holding ?_
 first|refine wpAny_bind (fw ?_)|skip
 refine wpAny_bind (HR ht.typeIs (by decide) ?_);refine wpAny_bind (rf (name:=mq "__getitem__") ht.typeIs kt
  (xh kt ht.typeIs entry_tuple_getitem ?_ (HH _ _)))
 show wpAny _ _ (yl (.ref t) >>= _) _ _ s;refine wpAny_bind (LV ht ?_);refine wpAny_bind (pj hTs ?_);rw[if_pos (by decide)];refine wpAny_bind (sliceApplied_gen hs pl pu ?_);have hno:¬((((sIx items.8 0 lo:Nat):Int)==0&&(1:Int)==1&&(sIx items.8 items.8 hi-sIx items.8 0 lo)==items.8)=NG):=by
  intro q;rw[ka,ka] at q;have q1:((sIx items.8 0 lo:Nat):Int)=0:=eq_of_beq q.1.1;have q2:sIx items.8 items.8 hi-sIx items.8 0 lo=items.8:=eq_of_beq q.2;exact hw {(),()}
 show wpAny _ _ (if(((sIx items.8 0 lo:Nat):Int)==0&&(1:Int)==1&&(sIx items.8 items.8 hi-sIx items.8 0 lo)==items.8)=NG then _ else _) _ _ s;rw[if_neg hno,zN]
 first
  |exact wpAny_bind (m:=ou _) (o6 (fw {_,rfl,fw h}) htake)
  |exact wpAny_bind (m:=ou _) (o6 (wpAny_bind (fw (fw {_,rfl,fw h}))) htake)
  |exact wpAny_bind (wpAny_bind (m:=ou _) (o6 (fw (fw {_,rfl,fw h})) htake))
  |exact wpAny_bind (wpAny_bind (m:=ou _) (o6 (fw {_,rfl,fw h}) htake))
end
end _T
namespace _L
open PySem PySem.Spec PyProof.Rows
abbrev TO:=St->Hp->(Option Int->Hp->Prop)->Prop
def PO (X:Cx)(e:Option ja)(t:TO):Prop:=
 ∀(pins:Za1) (s:gb) (σ:St) (H:Hp) (Q:Option Int->Hp->Prop),Inv X pins σ H s->t σ H Q ->
  wpAny (model X.prog X.w) X.A (evalPart e X.env) (λu s'=>∃o H',Inv X pins σ H' s'/\y4 u o/\Q o H') X.xe s
def rV:TO:=λ_ H Q=>Q p9 H
def Afg (t:TE):TO:=λσ H Q=>t σ H λx H1=>∃i,x=.int i/\Q (en i) H1
theorem Vx {ns:List Int}:∀{us:Za3},Az (ns.map V.int) us->sr us ns:=by
 induction ns with
 |nil=>intro us r;rw[CT] at r;cases r;exact .nil
 |cons n ns ih=>
  intro us r;rw[jh] at r
  cases r with
  |cons r1 r2=>
   obtain⟨t,e⟩:=r1;subst e;exact .cons n t (ih r2)
section
variable {X:Cx} {e:ja} {te:TE} {lo hi:Option ja} {tl th:TO} {pos p2:Pos}
theorem Ir:PO X p9 rV:=by
 k_in;rw[wj];exact fw {p9,H,I,.none,h}
theorem B5 (h:PE X e te):PO X (en e) (Afg te):=by
 intro pins s σ H Q I hw;rw[evalPart_some];refine thE h I hw λu s1 x H1 I1 r1 q1=>?_;obtain⟨i,rfl,q⟩:=q1;obtain⟨t,rfl⟩:=r1;exact{en i,H1,I1,.int i t,q}
def SlR (X:Cx)(r:V->Option Int->Option Int->Hp->VK->Prop):Prop:=
 ∀(pins:Za1) (s:gb) (σ:St) (H:Hp) (x:V) (v vl vu:fu) (lo hi:Option Int) (sl:fe) (Q:VK),Inv X pins σ H s->Be x v->s.heap.IsSliceOf sl vl vu .none->y4 vl lo->y4 vu hi->r x lo hi H Q ->
  ∃T id,typeLookup (.type T) "__getitem__"=pure (en (.builtin id))/\s.TypeIs v T/\wpAny (model X.prog X.w) X.A (getItem v (.ref sl)) (EP X pins σ Q) X.xe s
def tSl (r:V->Option Int->Option Int->Hp->VK->Prop)(te:TE)(tl th:TO):TE:=λσ H Q=>te σ H λx H1=>tl σ H1 λl H2=>th σ H2 λu H3=>r x l u H3 Q
theorem Co {r:V->Option Int->Option Int->Hp->VK->Prop}(hr:SlR X r)(he:PE X e te)(hl:PO X lo tl)(hu:PO X hi th):PE X (.Subscript e (.Slice lo hi p9 p2) pos) (tSl r te tl th):=by
 k_in;refine Subscript_ (thE he I h λv s1 x H1 I1 r1 q1=>?_);refine BI (thn (hl pins s1 σ H1 _ I1 q1) λvl s2 ⟨l,H2,I2,pl,q2⟩=>thn (hu pins s2 σ H2 _ I2 q2) λvu s3 ⟨u,H3,I3,pu,q3⟩=>?_);rw[wj];refine fw ?_;have I4:Inv X pins σ H3 { s3 with heap:=s3.heap.push { cls:=.type "slice",data:=.fields #[vl,vu,.none] } }:=I3.kept (t':=s3.toks) λb ob q=>fj _ q;obtain⟨T,id,hT,ht,hg⟩:=hr pins { s3 with heap:=s3.heap.push { cls:=.type "slice",data:=.fields #[vl,vu,.none] } } σ H3 x v vl vu l u s3.heap.objs.8 Q I4 r1 (vn ..) pl pu q3;show wpAny (model X.prog X.w) X.A (subscriptTail e (.Slice lo hi p9 p2) v (.ref s3.heap.objs.8)) (EP X pins σ Q) X.xe { s3 with heap:=s3.heap.push { cls:=.type "slice",data:=.fields #[vl,vu,.none] } };exact yz (ops:=[.ref s3.heap.objs.8,v]) ht hT hg (by with_unfolding_all rfl)
def Fc (xs:List V)(lo hi:Option Int):List V:=(xs.drop (_T.sIx xs.9 0 lo)).take (_T.sIx xs.9 xs.9 hi-_T.sIx xs.9 0 lo)
theorem Se (xs:List V)(lo hi:Option Int):(Fc xs lo hi).9<=xs.9:=by
 unfold Fc;rw[gq,jb];exact iy (vt _ _) (LM _ _)
def Ak1 (K:e7):V->Option Int->Option Int->Hp->VK->Prop:=λx lo hi H Q=>∃a xs,x=.ref a/\SqT K H a xs /\
 ¬(_T.sIx xs.9 0 lo=0/\_T.sIx xs.9 xs.9 hi=xs.9)/\∀p,H p=p9->Q (.ref p) (upd H p (.tup (Fc xs lo hi)))
theorem Agu:SlR X (Ak1 X.K):=by
 intro pins s σ H x v vl vu lo hi sl Q I rx hs pl pu h;obtain⟨a,xs,rfl,hx,hw,q⟩:=h;cases rx;obtain⟨its,r,ht,hz⟩:=I.tuple hx;have hlen:its.toArray.8=xs.9:=by rw[gj];exact r.length.symm
 refine{"tuple",_,kt.lookup,ht.typeIs,?_};refine _T.getItem_tuple_cut ht hs pl pu (by rw[hlen];exact hw) ?_ (by rw[hlen];exact hz);rw[hlen];refine{.ref s.heap.objs.8,_,I.laid (t':=s.toks) (o:=.tup (Fc xs lo hi)) (λb ob q=>fj _ q) (fm _) ?_,rfl,q _ (I.hok.fresh (fm _))};exact{iy (Se xs lo hi) hz,_,(r.drop (_T.sIx xs.9 0 lo)).take (_T.sIx xs.9 xs.9 hi-_T.sIx xs.9 0 lo),KS _ _}
end
def ixN (n:Nat)(i:Int):Option Nat:=if 0<=i then(if i<n then en i.toNat else p9) else if -(n:Int)<=i then en (i+n).toNat else p9
def atI {α:Type}(xs:List α)(i:Int):Option α:=(ixN xs.9 i).bind λj=>xs[j]?
theorem rN {n:Nat}{i:Int}{j:Nat}(h:ixN n i=en j):seqIndex? i n=en j/\j<n/\-(n:Int)<=i/\i<n:=by
 unfold ixN at h
 by_cases h0:0<=i
 .rw[if_pos h0] at h
  by_cases h1:i<n
  .rw[if_pos h1] at h
   have e:i.toNat=j:=fk h;exact{by rw[GH h0 h1,e],(),(),h1}
  .rw[if_neg h1] at h;cases h
 .rw[if_neg h0] at h
  by_cases h1:-(n:Int)<=i
  .rw[if_pos h1] at h
   have e:(i+n).toNat=j:=fk h;exact{by rw[FA () h1,e],(),h1,()}
  .rw[if_neg h1] at h;cases h
theorem gY {α:Type}{xs:List α}{i:Int}{v:α}(h:atI xs i=en v):∃j,seqIndex? i xs.9=en j/\xs[j]?=en v/\j<xs.9/\-(xs.9:Int)<=i/\i<xs.9:=by
 unfold atI at h
 cases e:ixN xs.9 i with
 |none=>rw[e] at h;cases h
 |some j=>
  rw[e] at h;obtain⟨h1,h2,h3,h4⟩:=rN e;exact⟨j,h1,h,h2,h3,h4⟩
theorem Bi {α:Type}{xs:List α}{j:Nat}{v:α}(h:xs[j]?=en v):atI xs (j:Int)=en v:=by
 have hj:j<xs.9:=(gg.mp h).1;have e:ixN xs.9 (j:Int)=en j:=by
  unfold ixN;rw[if_pos (),if_pos ()];simp
 unfold atI;rw[e];exact h
theorem mR {α:Type}(xs:List α)(v:α):atI (xs++[v]) (-1)=en v:=by
 have hl:(xs++[v]).9=xs.9+1:=by simp
 have e:ixN (xs++[v]).9 (-1)=en xs.9:=by
  unfold ixN;rw[hl,if_neg (by decide),if_pos ()];congr 1;lia
 unfold atI;rw[e];show(xs++[v])[xs.9]?=en v;simp
def tQ (b:ja):Prop:=∀o i,subscripted b NH o i=operate [o,i] (getItem o i)
def IxR (X:Cx)(r:R2):Prop:=
 ∀(value slice:ja) (pins:Za1) (s:gb) (σ:St) (H:Hp) (x y:V) (v u:fu) (Q:VK),Inv X pins σ H s->Be x v->Be y u->r x y H Q ->
  subscripted slice NH v u=operate [v,u] (getItem v u)->wpAny (model X.prog X.w) X.A (subscriptTail value slice v u) (EP X pins σ Q) X.xe s
def MtR (X:Cx)(id:String)(r:V->List V->Hp->VK->Prop):Prop:=
 ∀(pins:Za1) (s:gb) (σ:St) (H:Hp) (x:V) (xs:List V) (v:fu) (us:Za3) (Q:VK),Inv X pins σ H s->Be x v->Az xs us->r x xs H Q ->
  wpAny (model X.prog X.w) X.A (call (.builtin id) (v::us)) (EP X pins σ Q) X.xe s
section
variable {X:Cx} {a b:ja} {ta tb:TE} {pos:Pos}
theorem Ajq {r:R2}(hr:IxR X r)(ha:PE X a ta)(hb:PE X b tb)(hs:tQ b):PE X (.Subscript a b pos) (tOp r ta tb):=by
 k_in;exact Subscript_ (Agy ha hb I h λv u s2 x y H2 I2 rx ry q=>hr a b pins s2 σ H2 x y v u Q I2 rx ry q (hs _ _))
def Ag0 (K:e7):R2:=λx y H Q=>∃p xs i v,x=.ref p/\y=.int i/\SqL K H p xs/\atI xs i=en v/\Q v H
def Aef (K:e7):R2:=λx y H Q=>∃p xs i v,x=.ref p/\y=.int i/\SqT K H p xs/\atI xs i=en v/\Q v H
def Ak0:R2:=λx y H Q=>∃z i c,x=.str z/\y=.int i/\z.9<=sizeLine/\atI z.cps.7 i=en c/\Q (.str {#[c]}) H
theorem Bp:IxR X (Ag0 X.K):=by
 intro value slice pins s σ H x y v u Q I rx ry h hs;obtain⟨p,xs,i,z,rfl,rfl,hq,he,q⟩:=h;cases rx;obtain⟨t,rfl⟩:=ry;obtain⟨its,r,pl,hz⟩:=I.list hq;obtain⟨j,h1,h2,h3,h4,h5⟩:=gY he;obtain⟨w,ew,rw'⟩:=r.get h2;have hl:=r.9;have hn:=Lk;have fin:EP X pins σ Q w s:=⟨z,H,I,rw',q⟩
 by_cases h0:0<=i
 .have hj:i.toNat=j:=by
   rw[GH h0 h5] at h1;exact fk h1
  exact item_listR pl.isList h0 () (by rw[hj];simpa using ew) fin hs
 .have hj:(i+(its.toArray.8:Int)).toNat=j:=by
   rw[FA () h4] at h1;rw[gj,<-hl];exact fk h1
  exact EZ (x:=w) pl.isList.typeIs slot_list_getitem.lookup
   (wpAny_getItem_list_neg (Q:=λr s'=>r=w/\EP X pins σ Q r s') pl.isList () (by rw[gj]<;>lia) () (by rw[hj];simpa using ew) ⟨rfl,fin⟩) hs
theorem Bh:IxR X (Aef X.K):=by
 intro value slice pins s σ H x y v u Q I rx ry h hs;obtain⟨p,xs,i,z,rfl,rfl,hq,he,q⟩:=h;cases rx;obtain⟨t,rfl⟩:=ry;obtain⟨its,r,pl,hz⟩:=I.tuple hq;obtain⟨j,h1,h2,h3,h4,h5⟩:=gY he;obtain⟨w,ew,rw'⟩:=r.get h2;have hl:=r.9;have hn:=Lk;have fin:EP X pins σ Q w s:=⟨z,H,I,rw',q⟩;exact EZ (x:=w) pl.typeIs slot_tuple_getitem.lookup
  (getItem_tuple (j:=j) (Q:=λr s'=>r=w/\EP X pins σ Q r s') pl () () (by rw[gj,<-hl];exact h1) (by simpa using ew) ⟨rfl,fin⟩) hs
theorem yM:IxR X Ak0:=by
 intro value slice pins s σ H x y v u Q I rx ry h hs;obtain⟨z,i,c,rfl,rfl,hz,he,q⟩:=h;obtain⟨t,rfl⟩:=rx;obtain⟨t',rfl⟩:=ry;obtain⟨j,h1,h2,h3,h4,h5⟩:=gY he;have hl:z.cps.toList.9=z.9:=by simp[wl]
 rw[hl] at h1 h4 h5;have hn:=Lk;exact yz (DD s z t) slot_str_getitem.lookup (getItem_str (c:=c) (by
  have e1:decide (i < -(2 ^ 63:Int))=NH:=decide_eq_false ();have e2:decide (i>=2 ^ 63)=NH:=decide_eq_false ();rw[e1,e2,BW]) (by rw[h1];simpa using h2) {.str {#[c]},H,I.tok _,{_,rfl},q}) hs
theorem pY (its:Za3)(n j:Nat)(u:fu):jn (·.setIfInBounds j u) { cls:=.type "list",data:=.seq its.6 n }={ cls:=.type "list",data:=.seq (its.set j u).6 n }:=by
 simp[jn]
theorem Inv.lst {σ:St}{p:fe}(I:Inv X pins σ H s)(h:H p=en (.lst xs)) :
  ∃(its:Za3) (n:Nat),Az xs its/\s.heap.get? p=en { cls:=.type "list",data:=.seq its.6 n }/\xs.9<=sizeLine:=by
 obtain⟨z,its,n,r,e⟩:=I.hok p _ h;exact⟨its,n,r,e,z⟩
theorem Inv.lstUpd {σ:St}{p:fe}{ys:List V}{its its':Za3}{n n':Nat}{f:Obj->Obj}(I:Inv X pins σ H s)(h:H p=en (.lst xs))
  (ho:s.heap.get? p=en { cls:=.type "list",data:=.seq its.6 n })(hf:f { cls:=.type "list",data:=.seq its.6 n }={ cls:=.type "list",data:=.seq its'.6 n' })(r:Az ys its')(hz:ys.9<=sizeLine)(t:Nat) :
  Inv X pins σ (upd H p (.lst ys)) { s with heap:=s.heap.update p f,toks:=t }:=by
 have e:(s.heap.update p f).get? p=en { cls:=.type "list",data:=.seq its'.6 n' }:=by
  rw[ku f ho (by rw[hf]<;>rfl),hf]
 refine I.write (x:=p) (e:=p) (by rw[h];trivial) (.inl rfl) (λb u hb q=>(jr _ _ (n5 hb)).trans q) {_,e} ?_;exact⟨hz,its',n',r,e⟩
def Aex:V->V->V->Hp->(Hp->Prop)->Prop:=λo i v H Q=>∃p xs k j,o=.ref p/\i=.int k/\H p=en (.lst xs)/\ixN xs.9 k=en j/\Q (upd H p (.lst (xs.set j v)))
theorem T7:Akf X Aex:=by
 intro pins s σ H o i v ov iv u Q I ro ri rv h;obtain⟨p,xs,k,j,rfl,rfl,hp,hj,q⟩:=h;cases ro;obtain⟨t,rfl⟩:=ri;obtain⟨its,n,r,ho,hz⟩:=I.lst hp;obtain⟨h1,h2,h3,h4⟩:=rN hj;have hl:=r.9;have hn:=Lk;have I':Inv X pins σ (upd H p (.lst (xs.set j v))) { s with heap:=s.heap.update p (jn (·.setIfInBounds j u)) }:=
  I.lstUpd hp ho (pY its n j u) (r.set rv j) (by rw[wu];exact hz) s.toks
 by_cases h0:0<=k
 .have hk:k.toNat=j:=by
   rw[GH h0 h4] at h1;exact fk h1
  exact PySem.W.ki_setAt ho h0 () (by rw[gj,<-hl];exact h4) (by rw[hk];exact{_,I',q})
 .have hk:(k+(its.toArray.8:Int)).toNat=j:=by
   rw[FA () h3] at h1;rw[gj,<-hl];exact fk h1
  exact PySem.W.ki_setBack ho () (by rw[gj,<-hl];exact h3) () (by rw[hk];exact{_,I',q})
theorem iU (lo hi:Option Int)(n:Nat):(sliceBounds lo hi p9 n).1=((_T.sIx n 0 lo:Nat):Int)/\(sliceBounds lo hi p9 n).2.1=((_T.sIx n n hi:Nat):Int)/\(sliceBounds lo hi p9 n).2.2=1:=by
 refine{?_,?_,rfl}
 .cases lo with
  |none=>simp[sliceBounds,_T.sIx]
  |some i=>
   simp only[sliceBounds,_T.sIx,EQ,show(1:Int)>0 by decide,if_true]
   by_cases h:i<0
   .simp only[h,if_true]<;>lia
   .simp only[h,if_false]
    obtain⟨m,rfl⟩:=lz (LN.mp h);rw[gr];lia
 .cases hi with
  |none=>simp[sliceBounds,_T.sIx]
  |some i=>
   simp only[sliceBounds,_T.sIx,EQ,show(1:Int)>0 by decide,if_true]
   by_cases h:i<0
   .simp only[h,if_true]<;>lia
   .simp only[h,if_false]<;>lia
theorem X7 (its:Za3)(lo hi:Option Int):slicePick its.6 lo hi p9=((its.drop (_T.sIx its.9 0 lo)).take (_T.sIx its.9 its.9 hi-_T.sIx its.9 0 lo)).6:=by
 obtain⟨h1,h2,h3⟩:=iU lo hi its.toArray.8;unfold slicePick;rw[h1,h2,h3];simp only[LG,LJ,gj]<;>rfl
def Ale (K:e7):V->Option Int->Option Int->Hp->VK->Prop:=λx lo hi H Q=>∃a xs,x=.ref a/\SqL K H a xs/\∀p,H p=p9->Q (.ref p) (upd H p (.lst (Fc xs lo hi)))
theorem Ms:SlR X (Ale X.K):=by
 intro pins s σ H x v vl vu lo hi sl Q I rx hs pl pu h;obtain⟨a,xs,rfl,hx,q⟩:=h;cases rx;obtain⟨its,r,ht,hz⟩:=I.list hx;have hlen:=r.9;refine{"list",_,slot_list_getitem.lookup,ht.isList.typeIs,?_};refine wf ht.isList hs pl pu .none (by simp) ?_ (by rw[gj]<;>lia)
 rw[X7,<-hlen];refine{.ref s.heap.objs.8,_,I.laid (t':=s.toks) (o:=.lst (Fc xs lo hi)) (λb ob q=>fj _ q) (fm _) ?_,rfl,q _ (I.hok.fresh (fm _))};exact{iy (Se xs lo hi) hz,_,0,(r.drop (_T.sIx xs.9 0 lo)).take (_T.sIx xs.9 xs.9 hi-_T.sIx xs.9 0 lo),gu _ rfl}
def B7:V->Bool
 |.non=>NG
 |.bl _=>NG
 |.int _=>NG
 |.str _=>NG
 |_=>NH
def eqV:V->V->Bool
 |.non,.non=>NG
 |.bl a,.bl b=>a==b
 |.bl a,.int b=>(if a then 1 else 0)==b
 |.int a,.bl b=>a==(if b then 1 else 0)
 |.int a,.int b=>a==b
 |.str a,.str b=>a==b
 |_,_=>NH
theorem qP {x:V}{u v:fu}(ry:Be y u)(rx:Be x v)(fy:B7 y=NG)(fx:B7 x=NG):yg A s u v (eqV y x):=by
 cases y with
 |non=>
  cases ry
  cases x with
  |non=>cases rx;exact yq _
  |bl b=>cases rx;exact MJ b
  |int b=>obtain⟨t,rfl⟩:=rx;exact MI b t
  |str b=>obtain⟨t,rfl⟩:=rx;exact MH b t
  |_=>exact absurd (show NH=NG from fx) ik
 |bl a=>
  cases ry
  cases x with
  |non=>cases rx;exact MO a
  |bl b=>cases rx;exact MQ a b
  |int b=>obtain⟨t,rfl⟩:=rx;exact MP a b t
  |str b=>obtain⟨t,rfl⟩:=rx;exact MN a b t
  |_=>exact absurd (show NH=NG from fx) ik
 |int a=>
  obtain⟨t',rfl⟩:=ry
  cases x with
  |non=>cases rx;exact MK a t'
  |bl b=>cases rx;exact MM a t' b
  |int b=>obtain⟨t,rfl⟩:=rx;exact ML a t' b t
  |str b=>obtain⟨t,rfl⟩:=rx;exact BM a t' b t
  |_=>exact absurd (show NH=NG from fx) ik
 |str a=>
  obtain⟨t',rfl⟩:=ry
  cases x with
  |non=>cases rx;exact MF a t'
  |bl b=>cases rx;exact MG a t' b
  |int b=>obtain⟨t,rfl⟩:=rx;exact BK a t' b t
  |str b=>obtain⟨t,rfl⟩:=rx;exact ME a t' b t
  |_=>exact absurd (show NH=NG from fx) ik
 |_=>exact absurd (show NH=NG from fy) ik
def eqU (x:V)(u:fu):Bool:=match u with
 |.none=>eqV .non x
 |.bool b=>eqV (.bl b) x
 |.int i _=>eqV (.int i) x
 |.str z _=>eqV (.str z) x
 |_=>NH
theorem gH {x:V}{u:fu}(r:Be y u)(f:B7 y=NG):eqU x u=eqV y x:=by
 cases y with
 |non=>cases r;rfl
 |bl b=>cases r;rfl
 |int i=>obtain⟨t,rfl⟩:=r;rfl
 |str z=>obtain⟨t,rfl⟩:=r;rfl
 |_=>exact absurd (show NH=NG from f) ik
theorem fP {x:V}:∀{xs:List V} {us:Za3},Az xs us->xs.all B7=NG->us.any (eqU x)=xs.any λy=>eqV y x
 |_,_,.nil,_=>rfl
 |y::xs,u::us,.cons r t,f=>by
  rw[sq,ka] at f;rw[ve,ve,gH r f.1,fP t f.2]
theorem Lz {A:jd}{s:gb}{x:V}{v:fu}(rx:Be x v)(fx:B7 x=NG):∀{xs:List V} {us:Za3},Az xs us->xs.all B7=NG->∀u∈us,yg A s u v (eqU x u)
 |_,_,.nil,_=>λu hu=>by cases hu
 |y::xs,u::us,.cons r t,f=>λu' hu=>by
  rw[sq,ka] at f;rcases i5.mp hu with rfl|hu
  .rw[gH r f.1];exact qP r rx f.1 fx
  .exact Lz rx fx t f.2 u' hu
def inV (x:V)(xs:List V):Bool:=xs.any λy=>eqV y x
def rIn (K:e7)(neg:Bool):R2:=λx y H Q=>∃p xs,y=.ref p/\(SqL K H p xs\/SqT K H p xs)/\B7 x=NG/\xs.all B7=NG/\Q (.bl (if neg then !inV x xs else inV x xs)) H
theorem Pr:OpR X (compareOp .In) (rIn X.K NH):=by
 intro pins s σ H x y v u Q I rx ry h;obtain⟨p,xs,rfl,hq,fx,fs,q⟩:=h;cases ry;rcases hq with hq|hq
 .obtain⟨its,r,pl,hz⟩:=I.list hq
  refine SeqAt.in_listAt (eqU x) pl.isList (λw hw=>Lz rx fx r fs w (by simpa using hw)) {.bl _,H,I,rfl,?_};rw[show its.toArray.any (eqU x)=its.any (eqU x) by simp,fP r fs];exact q
 .obtain⟨its,r,pl,hz⟩:=I.tuple hq
  refine SeqAt.in_tupleAt (eqU x) pl (λw hw=>Lz rx fx r fs w (by simpa using hw)) {.bl _,H,I,rfl,?_};rw[show its.toArray.any (eqU x)=its.any (eqU x) by simp,fP r fs];exact q
theorem Oq:OpR X (compareOp .NotIn) (λx y H Q=>∃i j,x=.str i/\y=.str j/\Q (.bl (!(!(mj j i 0 j.9 1).isEmpty))) H):=by
 intro pins s σ H x y v u Q I rx ry h;obtain⟨i,j,rfl,rfl,q⟩:=h;obtain⟨t,rfl⟩:=rx;obtain⟨t',rfl⟩:=ry;exact notIn_str {.bl _,H,I,rfl,q}
theorem At:Ea X (.builtin "len") (λxs H Q=>∃p ys,xs=[.ref p]/\(SqL X.K H p ys\/SqT X.K H p ys)/\Q (.int ys.9) H):=by
 intro pins s σ H xs us Q I r h;obtain⟨p,ys,rfl,hq,q⟩:=h;obtain⟨u,rfl,rx⟩:=Fk r;cases rx;have hn:=Lk;rcases hq with hq|hq
 .obtain⟨its,r',pl,hz⟩:=I.list hq
  have hlen:=r'.9;exact Calls.call_len_list pl.isList (by simp only[gj]<;>lia) {.int ys.9,H,I.tok _,{s.toks+1,by rw[gj,hlen]},q}
 .obtain⟨its,r',pl,hz⟩:=I.tuple hq
  have hlen:=r'.9;exact len_tuple pl (by simp only[gj]<;>lia) {.int ys.9,H,I.tok _,{s.toks+1,by rw[gj,hlen]},q}
theorem B2:Ea X (.builtin "len") (λxs H Q=>∃z,xs=[.str z]/\z.9<=sizeLine/\Q (.int z.9) H):=by
 intro pins s σ H xs us Q I r h;obtain⟨z,rfl,hz,q⟩:=h;obtain⟨u,rfl,t,rfl⟩:=Fk r;have hn:=Lk;exact len_str () {.int z.9,H,I.tok _,{_,rfl},q}
theorem He:Ea X (.type "list") (λxs H Q=>∃p ys,xs=[.ref p]/\(SqL X.K H p ys\/SqT X.K H p ys)/\∀l,H l=p9->Q (.ref l) (upd H l (.lst ys))):=by
 intro pins s σ H xs us Q I r h;obtain⟨p,ys,rfl,hq,q⟩:=h;obtain⟨u,rfl,rx⟩:=Fk r;cases rx;have fin:∀(its:Za3),Az ys its->ys.9<=sizeLine->∀(h':i8) (c':Nat),(∀b o',s.heap.get? b=en o'->h'.get? b=en o') ->
   h'.get? s.heap.objs.8=en { cls:=.type "list",dict:=p9,data:=.seq its.6 c',slots:=#[] }->EP X pins σ Q (.ref s.heap.objs.8) { s with heap:=h' }:=λits r' hz h' c' kp e=>
  {.ref s.heap.objs.8,_,I.laid (t':=s.toks) kp (fm _) (show B3 X.prog X.w _ h' _ (.lst ys) from⟨hz,its,c',r',e⟩),rfl,q _ (I.hok.fresh (fm _))}
 rcases hq with hq|hq
 .obtain⟨its,r',pl,hz⟩:=I.list hq
  have hlen:=r'.9;obtain⟨o,ho,hc,n,hd⟩:=pl.isList;exact MA p (.inl rfl) ho hc hd (λh' c' kp e=>fin its r' hz h' c' kp e) (by simp only[gj]<;>lia)
 .obtain⟨its,r',pl,hz⟩:=I.tuple hq
  have hlen:=r'.9;obtain⟨o,ho,hc,n,hd⟩:=pl;exact MA p (.inr rfl) ho hc hd (λh' c' kp e=>fin its r' hz h' c' kp e) (by simp only[gj]<;>lia)
theorem Eo:Ea X (.type "tuple") (λxs H Q=>∃p ys,xs=[.ref p]/\((SqL X.K H p ys/\∀l,H l=p9->Q (.ref l) (upd H l (.tup ys)))\/(SqT X.K H p ys/\Q (.ref p) H))):=by
 intro pins s σ H xs us Q I r h;obtain⟨p,ys,rfl,h⟩:=h;obtain⟨u,rfl,rx⟩:=Fk r;cases rx;rcases h with⟨hq,q⟩|⟨hq,q⟩
 .obtain⟨its,r',pl,hz⟩:=I.list hq
  have hlen:=r'.9;refine call_tuple_list pl.isList (λh' kp=>?_) (by simp only[gj]<;>lia)
  have I1:Inv X pins σ H { s with heap:=h' }:=I.kept (t':=s.toks) kp;have I2:Inv X pins σ (upd H h'.objs.8 (.tup ys)) { s with heap:=h'.push { cls:=.type "tuple",data:=.seq its.6 } }:=
   I1.laid (t':=s.toks) (λb o e=>fj _ e) (fm _) (show B3 X.prog X.w _ _ _ (.tup ys) from{hz,its,r',KS _ _})
  exact{.ref h'.objs.8,_,I2,rfl,q _ (I1.hok.fresh (fm _))}
 .obtain⟨its,r',pl,hz⟩:=I.tuple hq
  exact call_tuple_same pl {.ref p,H,I,rfl,q}
def tyV (K:e7)(T:String)(x:V)(H:Hp):Prop:=match x with
 |.str _=>T="str"
 |.int _=>T="int"
 |.ref p=>(T="list"/\∃xs,SqL K H p xs)\/(T="tuple"/\∃o,K.lookup p=en o/\o.cls=.type "tuple"/\o.dict=p9) \/
   (T="dict"/\((∃kvs,H p=en (.dK kvs))\/∃kvs,H p=en (.dT kvs)))\/(T="set"/\∃S n,H p=en (.set S n))
 |_=>False
theorem Aab {σ:St}{T:String}{x:V}{v:fu}(I:Inv X pins σ H s)(r:Be x v)(ty:tyV X.K T x H) :
  s.TypeIs v T/\∀a,v=.ref a->∃ob,s.heap.get? a=en ob/\ob.dict=p9:=by
 cases x with
 |str z=>
  obtain⟨t,rfl⟩:=r;cases(show T="str" from ty);exact{DD s z t,λ_ e=>nomatch e}
 |int i=>
  obtain⟨t,rfl⟩:=r;cases(show T="int" from ty);exact{HE s i t,λ_ e=>nomatch e}
 |ref p=>
  cases r;rcases ty with⟨rfl,xs,hq⟩|⟨rfl,o,hk,hc,hd⟩|⟨rfl,hk⟩|⟨rfl,S,n,hk⟩
  .obtain⟨its,_,pl,_⟩:=I.list hq
   refine{pl.isList.typeIs,λa e=>?_};cases e;obtain⟨o,n,e,c,hd,_⟩:=pl;exact⟨o,e,hd⟩
  .refine{{o,I.kIn p o hk,hc},λa e=>?_}
   cases e;exact{o,I.kIn _ o hk,hd}
  .have z:∃o,s.heap.get? p=en o/\o.ExactDict:=by
    rcases hk with⟨kvs,hk⟩|⟨kvs,hk⟩
    .obtain⟨_,_,_,_,o,_,_,e,ex,_⟩:=I.hok p _ hk
     exact⟨o,e,ex⟩
    .obtain⟨_,_,_,_,o,_,_,e,ex,_⟩:=I.hok p _ hk
     exact⟨o,e,ex⟩
   obtain⟨o,e,ex⟩:=z;refine{⟨o,e,ex.1⟩,λa e2=>?_};cases e2;exact⟨o,e,ex.2.1⟩
  .obtain⟨o,_,_,_,e,ex,_⟩:=I.hok p _ hk
   refine{⟨o,e,ex.1⟩,λa e2=>?_};cases e2;exact⟨o,e,ex.2.1⟩
 |_=>exact ky ty
def Aj5 (K:e7)(T:String)(r:V->List V->Hp->VK->Prop)(to:TE):TE:=λσ H Q=>to σ H λx H1=>tyV K T x H1/\r x [] H1 Q
def tBM (K:e7)(T:String)(r:V->List V->Hp->VK->Prop)(to:TE)(t:TA):TE:=λσ H Q=>to σ H λx H1=>tyV K T x H1/\t σ H1 λxs H2=>r x xs H2 Q
variable {o e:ja} {es:List ja} {to:TE} {t:TA} {name:Str} {apos cpos:Pos} {T id:String} {r:V->List V->Hp->VK->Prop}
theorem fU (pa:HK T)(slot:Slot T name id)(hty:typeOf (.builtin id)=pure (.type "method_descriptor"))(hm:MtR X id r)(ho:PE X o to)
  (hbase:autoParam (attributeBase o name X.env (eval o X.env)=eval o X.env) QD)(hline:autoParam ((apos.endLine==cpos.line)=NG) QD):PE X (.Call (.Attribute o name apos) [] [] cpos) (Aj5 X.K T r to):=by
 k_in;refine wpAny_Call_method0_late hbase hline (thE ho I h λv s1 x H1 I1 r1 ⟨ty,q1⟩=>?_);obtain⟨h1,h2⟩:=Aab I1 r1 ty;exact{T,id,pa,slot,hty,h1,h2,vx rfl (PySem.evalArgs_none (hm pins s1 σ H1 x [] v [] Q I1 r1 .nil q1))}
theorem Cj (pa:HK T)(slot:Slot T name id)(hty:typeOf (.builtin id)=pure (.type "method_descriptor"))(hm:MtR X id r)(ho:PE X o to)(ha:PA X (e::es) t)
  (hbase:autoParam (attributeBase o name X.env (eval o X.env)=eval o X.env) QD)
  (hfew:autoParam (((backTo cpos (starEach (e::es) X.env)).all (λx=>!x.1)&&(backToKw cpos (keywordEach [] X.env)).all (λx=>x.1.isSome)
   && decide ((e::es).9+([]:List IF).9+(if([]:List IF).isEmpty then 0 else 1)<30))=NG) QD)
  (hline:autoParam ((apos.endLine==cpos.line)=NG) QD)(hs:autoParam (starEach (e::es) X.env=(NH,eval e X.env)::starEach es X.env) QD)(hplain:autoParam ((backTo cpos (starEach es X.env)).any (·.1)=NH) QD) :
  PE X (.Call (.Attribute o name apos) (e::es) [] cpos) (tBM X.K T r to t):=by
 k_in;refine wpAny_Call_method_late hbase hfew hline rfl (thE ho I h λv s1 x H1 I1 r1 ⟨ty,q1⟩=>?_);obtain⟨h1,h2⟩:=Aab I1 r1 ty;refine{T,id,pa,slot,hty,h1,h2,?_};have hA:=ha cpos pins s1 σ H1 _ I1 q1;rw[hs] at hA ⊢;refine vx (by show(NH||(backTo cpos (starEach es X.env)).any (·.1))=NH;rw[hplain]<;>rfl) (sv ?_)
 exact thn hA λus s2 ⟨vs,H2,I2,r2,q2⟩=>hm pins s2 σ H2 x vs v us Q I2 r1 r2 q2
/- xs.append(e),list.index on a module's tuple .. are MtR facts of 06m -/
end
def MtM (X:Cx)(id:String)(r:V->List V->Hp->VK->Prop):Prop:=
 ∀(pins:Za1) (s:gb) (σ:St) (H:Hp) (x:V) (xs:List V) (v:fu) (us:Za3) (Q:VK),Inv X pins σ H s->Be x v->Az xs us->r x xs H Q ->
  wpAny (model X.prog X.w) X.A (call (.builtin id) (v::us)) (EP X pins σ Q) X.xe s
theorem Az.one:∀{x:V} {us:Za3},Az [x] us->∃u,us=[u]/\Be x u
 |_,_,.cons r .nil=>{_,rfl,r}
theorem Az.zero:∀{us:Za3},Az [] us->us=[]
 |_,.nil=>rfl
theorem Az.dropLast (h:Az xs us):Az xs.dropLast us.dropLast:=by
 induction h with
 |nil=>exact .nil
 |cons r t ih=>
  cases t with
  |nil=>exact .nil
  |cons q t'=>exact .cons r ih
theorem Az.rep {xs:List V}{us:Za3}(h:Az xs us):∀k:Nat,Az (gd k xs).flatten (gd k us).flatten
 |0=>.nil
 |k+1=>by
  rw[jf,jf,jx,jx];exact Az.append h (Az.rep h k)
theorem pJ {α:Type}(l:List α):l.eraseIdx (l.9-1)=l.dropLast:=by
 induction l with
 |nil=>rfl
 |cons a r ih=>
  cases r with
  |nil=>rfl
  |cons b r=>
   have e:(a::b::r).9-1=((b::r).9-1)+1:=by
    have h1:(a::b::r).9=r.9+2:=rfl;have h2:(b::r).9=r.9+1:=rfl;lia
   rw[e,List.eraseIdx_cons_succ,ih]
   all_goals rfl
theorem Z4 (its:Za3):∀(k:Nat) (acc:Za3),
  ET (λx1 x2=>x1++x2) acc.6 (gd k its.6)=(acc++(gd k its).flatten).6
 |0,acc=>by simp
 |k+1,acc=>by
  have e:acc.6++its.6=(acc++its).6:=by simp
  have e2:(acc++its)++(gd k its).flatten=acc++(gd (k+1) its).flatten:=by
   rw[jf,jx,jy]
  rw[<-e2,<-Z4 its k (acc++its),<-e,jf,qa]
section
variable {X:Cx} {pins:Za1} {σ:St} {H:Hp} {s:gb} {l b:fe} {xs ys zs:List V}
theorem Inv.lset {its its':Za3}{n:Nat}{f:Array fu->Array fu}(I:Inv X pins σ H s)(hH:H l=en (.lst xs))
  (e:s.heap.get? l=en { cls:=.type "list",data:=.seq its.6 n })(hf:f its.6=its'.6)(hv:Az ys its')(hz:ys.9<=sizeLine) :
  Inv X pins σ (upd H l (.lst ys)) { s with heap:=s.heap.update l (jn f),toks:=t' }:=by
 have q:=MX e f;rw[hf] at q;refine I.write (x:=l) (e:=l) (by rw[hH];exact trivial) (.inl rfl) (λb' u hb hu=>(jr s.5 (jn f) (n5 hb)).trans hu) {_,q} ?_;exact{hz,its',_,hv,q}
theorem Inv.lnew {its:Za3}(I:Inv X pins σ H s)(hv:Az ys its)(hz:ys.9<=sizeLine) :
  Inv X pins σ (upd H s.heap.objs.8 (.lst ys)) { s with heap:=s.heap.push { cls:=.type "list",data:=.seq its.6 },toks:=t' }:=
 I.laid (λ_ _ q=>fj _ q) (fm _) {hz,its,0,hv,gu _ rfl}
theorem Inv.fresh (I:Inv X pins σ H s):H s.heap.objs.8=p9:=I.hok.fresh (fm _)
theorem Inv.lstM (I:Inv X pins σ H s)(hH:H l=en (.lst xs)):xs.9<=sizeLine/\∃(its:Za3) (n:Nat),Az xs its/\xs.9=its.9/\s.heap.get? l=en { cls:=.type "list",data:=.seq its.6 n }:=by
 obtain⟨z,its,n,r,e⟩:=I.hok l _ hH;exact⟨z,its,n,r,r.9,e⟩
theorem Abm {n:Nat}(h:n<=sizeLine):t9 n=NH:=by
 unfold t9;exact decide_eq_false ()
end
section
variable {X:Cx}
def sO:V->List V->Hp->VK->Prop:=λx vs H Q=>∃l xs y,x=.ref l/\vs=[y]/\H l=en (.lst xs)/\xs.9<sizeLine/\Q .non (upd H l (.lst (xs++[y])))
theorem Bf:MtM X "list.append" sO:=by
 intro pins s σ H x vs v us Q I rx rv h;obtain⟨l,xs,y,rfl,rfl,hH,hz,q⟩:=h;cases rx;obtain⟨u,rfl,ru⟩:=rv.one;obtain⟨z,its,n,r,hl,e⟩:=I.lstM hH;refine uc F.slot_list_append {_,e,rfl} F.entry_list_append (F.args_list_append_2 _ _) (PySem.list_append l its.6 n u (by rw[gj];lia)) {e,?_};refine{.non,_,I.lset (its':=its++[u]) hH e (by simp) (r.append (.cons ru .nil)) ?_,rfl,q};rw[fq,ii];lia
def Akv:V->List V->Hp->VK->Prop:=λx vs H Q=>∃l xs y,x=.ref l/\vs=[]/\H l=en (.lst xs)/\xs[xs.9-1]?=en y/\Q y (upd H l (.lst xs.dropLast))
theorem fG:MtM X "list.pop" Akv:=by
 intro pins s σ H x vs v us Q I rx rv h;obtain⟨l,xs,y,rfl,rfl,hH,hy,q⟩:=h;cases rx;have hus:=rv.zero;subst hus;obtain⟨z,its,n,r,hl,e⟩:=I.lstM hH;obtain⟨u,hu,ru⟩:=r.get hy;have hy':its.6[its.toArray.8-1]?=en u:=by
  show its.6[its.9-1]?=en u;rw[<-j6,<-hl];exact hu
 refine uc F.slot_list_pop {_,e,rfl} F.entry_list_pop (F.args_list_pop_1 _) (MeetsSeq.list_pop_last l its.6 n u hy' (by rw[gj];lia)) {e,?_};refine{y,_,I.lset (its':=its.dropLast) hH e ?_ r.dropLast ?_,ru,q}
 .show its.toArray.eraseIdxIfInBounds (its.toArray.8-1)=its.dropLast.6
  rw[gj,List.eraseIdxIfInBounds_toArray,pJ]
 .rw[List.length_dropLast]
  lia
def Aky:R2:=λx y H Q=>∃l b xs zs,x=.ref l/\y=.ref b/\H l=en (.lst xs)/\H b=en (.lst zs)/\xs.9+zs.9<=sizeLine/\∀p,H p=p9->Q (.ref p) (upd H p (.lst (xs++zs)))
theorem Jg:OpR X (binaryOp .Add) Aky:=by
 intro pins s σ H x y v u Q I rx ry h;obtain⟨l,b,xs,zs,rfl,rfl,hH,hB,hz,q⟩:=h;cases rx;cases ry;obtain⟨z,its,n,r,hl,e⟩:=I.lstM hH;obtain⟨z2,its2,n2,r2,hl2,e2⟩:=I.lstM hB;refine PySem.P.add_list e e2 ?_ (by rw[gj,gj];lia);have ea:its.6++its2.6=(its++its2).6:=by simp
 rw[ea];exact{.ref _,_,I.lnew (t':=s.toks) (r.append r2) (by rw[fq];lia),rfl,q _ I.fresh}
def Akz:R2:=λx y H Q=>∃l k xs,x=.ref l/\y=.int k/\H l=en (.lst xs)/\-(2 ^ 63)<=k/\k<2 ^ 63/\xs.9*k.toNat<=sizeLine /\
 ∀p,H p=p9->Q (.ref p) (upd H p (.lst (gd k.toNat xs).flatten))
theorem iY {α:Type}(xs:List α)(k:Nat):(gd k xs).flatten.length=k*xs.9:=by
 induction k with
 |zero=>simp
 |succ k ih=>rw[jf,jx,fq,ih,Nat.succ_mul,uk]
theorem qX:OpR X (binaryOp .Mult) Akz:=by
 intro pins s σ H x y v u Q I rx ry h;obtain⟨l,k,xs,rfl,rfl,hH,h1,h2,hz,q⟩:=h;cases rx;obtain⟨t,rfl⟩:=ry;obtain⟨z,its,n,r,hl,e⟩:=I.lstM hH;have hlen:its.toArray.8*k.toNat<=sizeLine:=by rw[gj,<-hl];exact hz
 have hcap:¬ its.toArray.8*k.toNat>(2 ^ 63-1)/8:=by
  have:(sizeLine:Nat)<=(2 ^ 63-1)/8:=by decide
  lia
 have hfit:¬(!LA k)=NG:=by
  rw[fitsIndex_both h1 h2];exact ik
 have hlong:¬ t9 (its.toArray.8*k.toNat)=NG:=by
  rw[Abm hlen];exact ik
 have hnew:ET (λx1 x2=>x1++x2) #[] (gd (if its.toArray.isEmpty=NG then 0 else k.toNat) its.6)=(gd k.toNat its).flatten.toArray:=by
  have f0:∀m:Nat,ET (λx1 x2=>x1++x2) #[] (gd m its.6)=(gd m its).flatten.toArray:=λm=>by
   have:=Z4 its m [];rw[List.nil_append] at this;exact this
  rw[f0]
  cases its with
  |nil=>simp
  |cons a r'=>rw[if_neg (by simp)]
 refine wpAny_binaryOp_repeat_ref (T:="list") (U:="int") (by decide) {_,e,rfl} (λs'=>HE s' k t) noFill_list_mul F.fills_int_mul F.slot_int_rmul repeat_list F.slot_int_index.lookup
  (uc F.slot_int_rmul (HE s k t) F.entry_int_rmul (F.args_int_rmul_2 _ _) (int___rmul___int_list k t l its.6 n)
   {e,rfl,{_,e,rfl},uc F.slot_list_mul {_,e,rfl} F.entry_list_mul (F.args_list_mul_2 _ _) (NF l its.6 n k t hfit hcap hlong) {e,?_}})
 rw[hnew];exact{.ref _,_,I.lnew (t':=s.toks) (r.rep k.toNat) (by rw[iY,wq];exact hz),rfl,q _ I.fresh}
end
end _L
namespace _At
open PySem PySem.W PySem.Calls PyProof.Rows
theorem Sv {P:BF}{h:i8}:∀(ns:List Int) (vs:Za3),WellAll P h vs (ns.map JO)->sr vs ns:=by
 intro ns
 induction ns with
 |nil=>
  intro vs w;rw[CT] at w;cases w;exact .nil
 |cons n ns ih=>
  intro vs w;rw[jh] at w
  cases w with
  |cons a b=>
   cases a;exact .cons _ _ (ih _ b)
theorem vV {l:MZ}{n:Nat}(hn:l.most=en n){P:BF}{h:i8}{args:List WData}{vals:Za3}
    (hpre : l.row.toRowW.claim.pre args = NG)(hwl : WellAll P h vals args) :
    ∃ a vs ns, vals = [iw a]/\args = [WData.list (ns.map JO)]/\h.get? a = en { cls := .type "list", data := .seq vs.6 }/\sr vs ns/\ns.9 <= n := by
  have hsh : WShape.hasAll [] args [.list .int] = NG := (pre_splitW hpre).1;have hc : l.pre.holds [] { args := args } = NG := (pre_splitW hpre).2;obtain ⟨d, r, rfl, h1, h2⟩ := hasAllW_cons hsh;obtain rfl := hasAllW_nil h2;obtain ⟨xs, rfl, h3⟩ := hasW_list h1;obtain ⟨ns, rfl⟩ := items_int h3;have hlen : ns.9 <= n := by
    unfold OpenLaw.pre at hc;have h4 : (WTm.not (.lt (.lit (.int (n : Int))) (.len (.arg 0)))).holds [] { args := [.list (ns.map .int)] } = NG := by
      have h4 := (holds_andW hc).1;rw [hn] at h4;exact h4
    have h5 := condW_of h4 (w_not (w_lt w_lit (w_len_list (w_arg rfl))));rw [fb] at h5;refine Nat.le_of_not_lt λq => ?_;have q' : (n : Int) < ((ns.9 : Nat) : Int) := by lia
    first
      | (rw [decide_eq_true q'] at h5; exact absurd h5 (by decide))
      | (simp at h5; lia)
  cases hwl with
  | cons w1 w2 =>
    cases w2
    cases w1 with
    | list ho hall => exact {_, _, ns, rfl, rfl, ho, Sv ns _ hall, hlen}
theorem vL (l:MZ)(args:List WData):l.row.toRowW.claim.post args (.bool NG) args=NG:=
 postW_of (r:=l.row.toRowW) (X:=(NG==NG))
  (show HU [] (.bool NG) .bool=NG by first|rfl|decide|simp[HU,WShape.arms,WShape.armsAll])
  (show(WTm.eq .res (.lit (.bool NG))).value [] { args:=args,res:=en (.bool NG),after:=args }=en (.bool (NG==NG)) from w_eq_bool (w_res rfl) w_lit) rfl
theorem attach_call {l:MZ}{n:Nat}{q:gm}{loose:Za6}{XP:(Za2)->i8->Prop}{YP:iz->i8->Prop}{d:LO}
  (hn:l.most=en n)(hdf:d.params.defaults=[])
  (call:∀(w:iz) (mt QN:gb) (mg mb:Za2) (fa:fe) (o:Obj) (pm cd doc:fu) (a:fe) (vs:Za3) (ns:List Int),
   Ground q loose [] XP w mt mg mb QN.5->YP w QN.5 ->
   QN.heap.get? fa=en o->o.data=.func (docDef d.name d.params d.body d.scope pm cd doc)->QN.heap.CodeRec cd d.name->mg d.name=en (.ref fa) ->
   QN.heap.get? a=en { cls:=.type "list",data:=.seq vs.6 }->sr vs ns->ns.9<=n->QN.gens=#[] ->
   codeAny (model l.prog w) callerA (.call (.ref fa) {[.ref a],[]}) (λr s'=>r=.ok (.ret (.bool NG))/\OldK QN.5 s'.5/\s'.os=QN.os/\vc s'.gens) QN) :
  WalkO q loose XP YP l.row.toRowW d [] (λf vs=>ED f vs):=by
 intro w mt QN mg mb G Y fa o pm cd doc dV kV ho hd hcd hD hmg hg args vals as hpre hlay hrd hwl hlo;obtain rfl:dV=.none:=Dflts.none hD hdf;obtain rfl:kV=.none:=Dflts.noKw hD;obtain⟨a,vs,ns,rfl,rfl,hobj,hints,hlen⟩:=vV hn hpre hwl;refine enter_call (ot (call w mt QN mg mb fa o pm cd doc a vs ns G Y ho (fd_plain hd) hcd hmg hobj hints hlen hg) λr s' hq=>?_);obtain⟨rfl,h2,h3,h4⟩:=hq;exact{.inl {.bool NG,.bool NG,[],rfl,λ_=>rfl,.bool NG,vL l _,λ_=>{JG,λ_ hm=>(nomatch hm)}},h2,h3,h4}
end _At
namespace _L
open PySem PySem.Spec PyProof.Rows
theorem Pm:∀{vs:Za3} {ns:List Int},sr vs ns->Az (ns.map V.int) vs
 |_,_,.nil=>.nil
 |_,_,.cons n t h=>.cons ⟨t,rfl⟩ (Pm h)
def Ap (s:i7)(j:Nat):i7:=match s with
 |.ClassDef _ _ _ body _ _ _ _ _ _ _=>body.getD j (.Pass {0,0,0,0})
 |_=>.Pass {0,0,0,0}
def Bz (s:i7):nu:=match s with
 |.FunctionDef _ a _ _ _ _ _ _ _ _=>a
 |_=>{ posonlyargs:=[],args:=[],vararg:=p9,kwonlyargs:=[],kw_defaults:=[],kwarg:=p9,defaults:=[] }
def Bg (s:i7):List i7:=match s with
 |.FunctionDef _ _ b _ _ _ _ _ _ _=>b
 |_=>[]
def Ac (s:i7):nr:=match s with
 |.FunctionDef _ _ _ _ _ _ sc _ _ _=>sc
 |_=>{ kind:=.function,names:=[],isGenerator:=NH,isCoroutine:=NH }
abbrev CX0:CXT:=λ_ _ _ _ _ _=>False
abbrev E0:XK:=λ_ _ _=>False
theorem kO:Go CX0 X E0:=λ_ _ _ _ _ _ _ h=>h.elim
structure Fun (K:e7) (x qual:Str) (st:i7) (f:fe) (fd:jv):Prop where
 ex:∃(oc:fu) (od:Option fe) (kV doc pm:fu) (an:Option fe) (cdv ct:fu) (osl:Array (Za7)),
  fd=jq x qual (Bz st) (Bg st) (Ac st) .none kV doc pm an cdv ct/\K.lookup f=en {oc,od,.func fd,osl}/\ln K cdv qual=NG
 kp:j7 K (.ref f)=NG
section
variable {P:gm} {w:iz} {K:e7} {mg:Za2} {base:i8}
theorem Fun.ok {x:Str}{st:i7}{f:fe}{k:Nat}(F:Fun K x qual st f fd)(S:Ah N ps (Ac st))(len:∀vs H Q E,sp vs H Q E->vs.9=ps.9)
  (hbody:∀(cdv:fu) (A:jd) (outer:List Env) (s:gb) (H:Hp) (vs:List V) (Q:VK) (E:XK),B9 k (A.deeper (envOfC qual (Ac st) s.heap.objs.8 f cdv))->sp vs H Q E ->
   ∃t,PSs (Ce CX0 P w K mg base N qual (Ac st) f cdv A outer s H E).nox (Bg st) t/\t { nx:=λ_ H'=>Q .non H',rt:=Q } (Kx N vs) H):Aq P w K mg base CX0 (k+1) f fd ps sp:=by
 obtain⟨oc,od,kV,doc,pm,an,cdv,ct,osl,rfl,lk,hcd⟩:=F.ex;refine kD lk hcd S len λA outer s H vs Q E hr hsp=>?_;obtain⟨t,h,q⟩:=hbody cdv A outer s H vs Q E hr hsp;exact⟨t,h.nox,q⟩
theorem Fun.binds {x:Str}{st:i7}{f:fe}(F:Fun K x qual st f fd)
  (h:∀(kV doc pm:fu) (an:Option fe) (cdv ct:fu) (us:Za3),us.9=ps.9->bindArgs (jq x qual (Bz st) (Bg st) (Ac st) .none kV doc pm an cdv ct) {us,[]}=pure (ps.zip us)):Dy K fd ps []:=by
 obtain⟨oc,od,kV,doc,pm,an,cdv,ct,osl,rfl,lk,hcd⟩:=F.ex;exact .all (h kV doc pm an cdv ct)
theorem iJ {x:Str}{st:i7}{f:fe}{osl:Array (Za7)}{kV:fu}(l:K.lookup f=en {oc,od,.func (jq x qual (Bz st) (Bg st) (Ac st) .none kV doc pm an cdv ct),osl})
  (c:ln K cdv qual=NG)(k:j7 K (.ref f)=NG):Fun K x qual st f (jq x qual (Bz st) (Bg st) (Ac st) .none kV doc pm an cdv ct):={⟨oc,od,kV,doc,pm,an,cdv,ct,osl,rfl,l,c⟩,k}
end
theorem Dr {n:Nat}(h:n<=1000):n<sizeLine:=qd h (by decide)
section
variable {X:Cx}
theorem pv (i:Nat){x:Str}(hN:autoParam (X.N[i]?=en x) QD)(hv:Vis X.env.scope x:=by first|exact y9 rfl|exact BR (y9 rfl)|exact BR (BR rfl))(hd:autoParam ((x==("__debug__":Str))=NH) QF)
  (hcd:autoParam ((x==("__classdict__":Str))=NH) QF):PE X (.Name x pos) (Aev i):=zK hN hv hd hcd
end
theorem Akt {A B:Prop}(h:B):if NH=NG then A else B:=by
 rw[if_neg ik];exact h
theorem Ala {A B:Prop}(h:A):if NG=NG then A else B:=by
 rw[if_pos rfl];exact h
def Ag (H H':Hp):Prop:=∀b o,H b=en o->H' b=en o
theorem Ag.refl (H:Hp):Ag H H:=λ_ _ h=>h
theorem Ag.trans (a:Ag H H1)(b:Ag H1 H2):Ag H H2:=λc o h=>b c o (a c o h)
theorem Ag.free (e:Ag H H'){l:fe}(h:H' l=HL):H l=HL:=by
 cases q:H l with
 |none=>rfl
 |some o=>
  rw[e l o q] at h;cases h
theorem Ag.seq {K:e7}{a:fe}(e:Ag H H')(h:SqL K H a xs):SqL K H' a xs:=by
 rcases h with(h|⟨o,h⟩)|h
 .exact .inl (.inl (e _ _ h))
 .exact .inl (.inr {o,e _ _ h})
 .exact .inr h
end _L
section
namespace _L
open PySem PySem.Spec PyProof.Rows
section
variable {prog:gm} {w:iz} {A:jd} {R:wm->gb->Prop} {s:gb}
def tM (ifs:List ja)(env:Env):Sem Bool:=
 forIn ifs NG λc r=>if r=NG then do let ok <-isTrue c env (eval c env);pure (DY ok) else pure (DY r)
theorem Adl {elt tg iter:ja}{ifs:List ja}{scope:nr}{pos:Pos}{it acc:fu}{env:Env}(J:Nat->gb->Prop)
  (turn:∀n s,J n s->wpAny (model prog w) A (pyNext it) (λr s1=>match r with
   |none=>R (.ok .next) s1
   |some v=>wpAny (model prog w) A (letOwnedTupleGo tg it v) (λ_ s2=>wpAny (model prog w) A (assign tg env v) (λ_ s3=>wpAny (model prog w) A (tM ifs env) (λok s4=>
     if ok=NG then wpAny (model prog w) A (eval elt env) (λx s5=>wpAny (model prog w) A (call (.builtin "list.append") [acc,x]) (λ_ s6=>∃m,m<n/\J m s6) (λ_ _=>False) s5) (λ_ _=>False) s4
     else ∃m,m<n/\J m s4) (λ_ _=>False) s3) (λ_ _=>False) s2) (λ_ _=>False) s1) (λ_ _=>False) s)
  (n:Nat)(h:J n s):codeAny (model prog w) A (.compLoop (.ListComp elt [{tg,iter,ifs,0}] scope pos) 0 it acc env) R s:=by
 refine codeAny_loop rfl J (λn s hJ=>?_) n h;show wpAny _ A (Sem.onRaise (compTurn (.ListComp elt [{tg,iter,ifs,0}] scope pos) 0 it acc env) _) _ _ s;refine wpAny_noted ?_;rw[compTurn_list];refine wpAny_bind (ql (wpAny_bind (km (turn n s hJ) (λr s1 h1=>?_) (λ_ _ z=>z.elim))))
 cases r with
 |none=>exact fw h1
 |some v=>
  refine wpAny_bind (km h1 (λ_ s2 h2=>wpAny_bind (km h2 (λ_ s3 h3=>wpAny_bind (km h3 (λok s4 h4=>?_) (λ_ _ z=>z.elim))) (λ_ _ z=>z.elim))) (λ_ _ z=>z.elim))
  cases ok with
  |false=>exact fw ⟨rfl,h4⟩
  |true=>exact wpAny_bind (wpAny_bind (km h4 (λx s5 h5=>wpAny_bind (km h5 (λ_ s6 h6=>fw (fw ⟨rfl,h6⟩)) (λ_ _ z=>z.elim))) (λ_ _ z=>z.elim)))
end
def Fm (env:Env):List (Str×ph)->List (Str×fe)->List (Str×fe)
 |[],cs=>cs
 |y::r,cs=>if y.2=.free then Fm env r ((y.1,(env.cells.lookup y.1).getD 0)::cs) else Fm env r cs
theorem fH {env:Env}(f:Str×ph->List (Str×fe)->Sem (ForInStep (List (Str×fe))))
  (h1:∀y cs c,y.2=.free->env.cells.lookup y.1=en c->f y cs=pure (.yield ((y.1,c)::cs)))(h2:∀y cs,y.2≠.free->f y cs=pure (.yield cs)) :
  ∀(ns:List (Str×ph)) (cs:List (Str×fe)),(∀y∈ns,y.2=.free->∃c,env.cells.lookup y.1=en c)->forIn ns cs f=(pure (Fm env ns cs):Sem (List (Str×fe)))
 |[],cs,_=>by simp[Fm]
 |y::r,cs,h=>by
  have hr:∀z∈r,z.2=.free->∃c,env.cells.lookup z.1=en c:=λz hz=>h z (gw _ hz);rw[AB]
  by_cases hy:y.2=.free
  .obtain⟨c,hc⟩:=h y gt hy
   rw[h1 y cs c hy hc];simp only[Fm,if_pos hy,hc,rh];exact fH f h1 h2 r _ hr
  .rw[h2 y cs hy]
   simp only[Fm,if_neg hy];exact fH f h1 h2 r _ hr
theorem Nt (h:∀y∈scope.names,y.2=.free->∃c,env.cells.lookup y.1=en c):closureFor scope env=pure (Fm env scope.names []):=by
 unfold closureFor;dsimp only;rw[fH (env:=env) _ (λy cs c hy hc=>?_) (λy cs hy=>?_) scope.names [] h]
 .rfl
 .obtain⟨n,k⟩:=y
  dsimp only at hy hc ⊢;subst hy;simp only[cellOf,hc,beq_self_eq_true,if_true];rfl
 .obtain⟨n,k⟩:=y
  have e:(k==n8)=NH:=by simpa using hy
  simp only[e,oh,if_false]
theorem Mj {env:Env}:∀(ns:List (Str×ph)) (cs:List (Str×fe)) (x:Str) (c:fe),(∀y∈ns,y.2=.free->∃c,env.cells.lookup y.1=en c) ->
  (∀z d,cs.lookup z=en d->env.cells.lookup z=en d)->(Fm env ns cs).lookup x=en c->env.cells.lookup x=en c
 |[],cs,x,c,_,hc,h=>hc x c h
 |y::r,cs,x,c,hy,hc,h=>by
  have hr:∀z∈r,z.2=.free->∃c,env.cells.lookup z.1=en c:=λz hz=>hy z (gw _ hz);unfold Fm at h;split at h
  .rename_i hk
   obtain⟨d,hd⟩:=hy y gt hk;rw[hd] at h;refine Mj r _ x c hr (λz e hz=>?_) h;rw[rl] at hz;split at hz
   .rename_i hzy
    cases hz;rw[eq_of_beq hzy];exact hd
   .exact hc z e hz
  .exact Mj r _ x c hr hc h
theorem Nv {env:Env}:∀(ns:List (Str×ph)) (cs:List (Str×fe)) (x:Str),(cs.lookup x).isSome=NG->((Fm env ns cs).lookup x).isSome=NG
 |[],_,_,h=>h
 |y::r,cs,x,h=>by
  unfold Fm;split
  .refine Nv r _ x ?_
   rw[rl];split
   .rfl
   .exact h
  .exact Nv r _ x h
theorem Hl {env:Env}:∀(ns:List (Str×ph)) (cs:List (Str×fe)) (x:Str),(x,n8)∈ns->((Fm env ns cs).lookup x).isSome=NG
 |[],_,_,h=>by simp at h
 |y::r,cs,x,h=>by
  rcases i5.mp h with e|e
  .subst e
   unfold Fm;rw[if_pos rfl];exact Nv r _ x (by simp)
  .unfold Fm
   split
   .exact Hl r _ x e
   .exact Hl r _ x e
theorem U0 {x:Str}{k:ph}(h:(relabel scope env).names.lookup x=en k):(x,k)∈scope.names\/((x,n8)∈scope.names/\k=z9):=by
 have m:=ko h;obtain⟨⟨n,k'⟩,hm,e⟩:=je.mp m;dsimp only at e;split at e
 .rename_i hk
  cases e;simp only[ka,beq_iff_eq] at hk;rw[hk.1.1] at hm;exact .inr ⟨hm,rfl⟩
 .cases e
  exact .inl hm
theorem jD (hk:env.scope.kind=.function){x:Str}(hx:env.kindOf x=en .cell)(h:scope.names.lookup x=en .free):(relabel scope env).names.lookup x=en .cell:=by
 unfold relabel;show(scope.names.map _).lookup x=en z9;generalize scope.names=ns at h
 induction ns with
 |nil=>simp at h
 |cons y r ih=>
  obtain⟨n,k⟩:=y;rw[rl] at h;rw[jh];split at h
  .rename_i hn
   cases h;rw[<-eq_of_beq hn];simp[hk,hx]
  .rename_i hn
   dsimp only;split
   .rw[rl,hn];exact ih h
   .rw[rl,hn];exact ih h
def Ec (X:Cx)(scope:nr)(N:Za6)(C:fe)(s:gb)(H:Hp)(fp:List fe):Cx:=
 { X with N:=N,mt:=s,QP:=H,env:=compEnvC scope (Fm X.env scope.names []) C X.env,outer:=X.stack,ex:=fp,fn:=λ_=>NH,pn:=[],xe:=λ_ _=>False }
structure Ba (QR:Za6) (QQ sc:nr) (x:Str) (N:Za6) (ix:Za4):Prop where
 kind:sc.kind=.function
 nocell:∀y∈sc.names,y.2≠.cell
 names:∀y∈sc.names,y.2=.local->sc.names.lookup y.1=en .local
 free:∀y∈sc.names,y.2=.free->QQ.names.lookup y.1=en .cell
 nd:N.Nodup
 hd:N.head?=en x
 loc:sc.names.lookup x=en .local
 len:N.9=ix.9+1
 at_:∀p∈N.tail.zip ix,QR[p.2]?=en p.1/\sc.names.lookup p.1=en .free
def frV (σ:St)(ix:Za4):St:=ix.map λj=>(σ[j]?).getD p9
def PIf (X:Cx)(ifs:List ja)(t:TT):Prop:=
 ∀(pins:Za1) (s:gb) (σ:St) (H:Hp) (Q:Bool->Hp->Prop),Inv X pins σ H s->t σ H Q->wpAny (model X.prog X.w) X.A (tM ifs X.env) (TP X pins σ Q) X.xe s
def Aif:TT:=λ_ H Q=>Q NG H
theorem Cf:PIf X [] Aif:=λpins s σ H Q I h=>wpAny_tests_nil ⟨H,I,h⟩
theorem Ty {c:ja}{t:TT}(h:PT X c t):PIf X [c] t:=λpins s σ H Q I hw=>wpAny_tests_one (h pins s σ H Q I hw)
def K3 (J:It)(H1:Hp)(fr:St)(tc:TT)(te:TE)(Q:VK):Prop:=∀D,H1 D=p9->∃W:Nat->Nat->Hp->Prop,(∃m,W 0 m (upd H1 D (.lst [])))/\∀i m H,W i m H ->
 (J.stop i H/\Q (.ref D) H)\/(J.go i H/\∀x H',J.yld i H x H'->tc (en x::fr) H' λb H3=>
  if b=NG then te (en x::fr) H3 λy H4=>∃ys,H4 D=en (.lst ys)/\ys.9<sizeLine/\∃m',m'<m/\W (i+1) m' (upd H4 D (.lst (ys++[y]))) else ∃m',m'<m/\W (i+1) m' H3)
def rdG (A:V->Hp->List V->Prop)(J:It)(H1:Hp)(fr:St)(tc:TT)(te:TE)(Q:VK):Prop:=∀D,H1 D=p9->∃W:Nat->Nat->Hp->Prop,(∃m,W 0 m (upd H1 D (.lst [])))/\∀i m H,W i m H ->
 (J.stop i H/\Q (.ref D) H)\/(J.go i H/\∀v H',J.yld i H v H'->∃vs,A v H' vs/\tc (vs.map en++fr) H' λb H3=>
  if b=NG then te (vs.map en++fr) H3 λy H4=>∃ys,H4 D=en (.lst ys)/\ys.9<sizeLine/\∃m',m'<m/\W (i+1) m' (upd H4 D (.lst (ys++[y]))) else ∃m',m'<m/\W (i+1) m' H3)
def Tk (n:Nat)(A:V->Hp->List V->Prop)(g:TG):Prop:=∀y H vs (fr:St),A y H vs->vs.9=n/\g y (gd n p9++fr) H λσ H1=>σ=vs.map en++fr/\H1=H
structure LcG (QR:Za6) (QQ sc:nr) (n:Nat) (N:Za6) (ix:Za4):Prop where
 kind:sc.kind=.function
 nocell:∀y∈sc.names,y.2≠.cell
 names:∀y∈sc.names,y.2=.local->sc.names.lookup y.1=en .local
 free:∀y∈sc.names,y.2=.free->QQ.names.lookup y.1=en .cell
 nd:N.Nodup
 len:N.9=ix.9+n
 at_:∀p∈(N.drop n).zip ix,QR[p.2]?=en p.1/\sc.names.lookup p.1=en .free
def tLc (wi:TI)(ix:Za4)(tc:TT)(te:TE):TE:=λσ H Q=>wi σ H λJ H1=>K3 J H1 (frV σ ix) tc te Q
section
variable {X:Cx} {scope:nr} {N:Za6} {ix:Za4} {x:Str} {px:Pos} {elt iter:ja} {ifs:List ja} {tc:TT} {te:TE} {pos:Pos}
theorem Ai8 {n:Nat}{σ:St}{s2:gb}{tn:Nat->i8->Prop}(L:LcG X.N X.env.scope scope n N ix)(I2:Inv X pins σ H2 s2)
  (T:Su X.prog X.w X.K tg J fp it tn)(st2:tn 0 s2.5)(f2:∀b∈fp,Uv X pins H2 b){s3 s4:gb}{H3:Hp}(I3:Inv X pins σ H3 s3)(I4:Inv X pins σ H3 s4)(hle:s2.heap.objs.8<=s3.heap.objs.8)
  (hC:C=s3.heap.objs.8)(ho:s4.os=s3.os)(kp:∀b u,s3.heap.get? b=en u->s4.heap.get? b=en u){m:Za2}(hns:s4.heap.Ns C m):Inv (Ec X scope N C s3 H3 fp) [] (gd n p9++frV σ ix) H3 s4:=by
 have hfree:∀y∈scope.names,y.2=.free->∃c,X.env.cells.lookup y.1=en c:=λy hy hf=>I2.ok.has y.1 (.inl (L.free y hy hf));have sub:∀y c,(Fm X.env scope.names []).lookup y=en c->X.env.cells.lookup y=en c:=λy c h=>Mj _ _ y c hfree (λ_ _ z=>by simp at z) h;have lt2:∀b∈fp,b<s2.heap.objs.8:=λb hb=>by obtain⟨o,e,_⟩:=T.obj _ _ st2 b hb;exact gi e
 have okY:(Ec X scope N C s3 H3 fp).Ok:=by
  refine⟨I2.ok.mod,L.kind,I2.ok.glob,I2.ok.blt,q0 hC.symm,λy z c h1 h2=>I2.ok.inj y z c (sub y c h1) (sub z c h2),λy hy=>?_,λy c z _=>?_,I2.ok.hd,I2.ok.frames,.inl rfl,λb hb=>{?_,λy c h=>(f2 b hb).2.2.2.2.1 y c (sub y c h)},
   I3.bs,iy I3.ok.bsz I3.sz,λb o e hb=>?_,λb hb z=>?_,I3.stack,I3.stkFree⟩
  .have hk:(y,n8)∈scope.names:=by
    rcases hy with hy|hy
    .rcases U0 hy with q|q
     .exact absurd rfl (L.nocell _ q)
     .exact q.1
    .rcases U0 hy with q|q
     .exact q
     .exact absurd q.2 (by decide)
   exact jz.mp (Hl _ _ y hk)
  .cases(show NH=NG from z)
  .have l:=lt2 b hb
   show b≠C;rw[hC];exact io (gh l hle)
  .rcases(f2 b hb).2.2.2.1 with q|q
   .exact I2.ok.noex b o e q
   .exact absurd (gh (gi e) (iy I2.ok.bsz q)) (m5 _)
  .rcases i5.mp (I2.stkSub b z) with q|q
   .exact(f2 b hb).2.1 q
   .exact(f2 b hb).2.2.1 q
 refine{okY,ho,I4.bare,Un.kept kp,{m,hns,λi y v h1 h2 h3=>?_},λy c e=>I4.cell y c (sub y c e),?_,λy c e=>I4.freeC y c (sub y c e),λp hp=>absurd (show p∈([]:Za1) from hp) (by simp),I4.hok,?_}
 .rcases DI i n with l|l
  .rw[gv (by rw[jl];exact l),qi,if_pos l] at h2
   cases h2
  .obtain⟨k,rfl⟩:=Nat.exists_eq_add_of_le l
   rw[ig (by rw[jl];lia),jl,vw] at h2;unfold frV at h2;rw[fg] at h2
   cases hj:ix[k]? with
   |none=>rw[hj] at h2;cases h2
   |some j=>
    rw[hj] at h2;have h2:(σ[j]?).getD p9=en v:=fk h2;have h2':σ[j]?=en (en v):=by
     cases e:σ[j]? with
     |none=>rw[e] at h2;cases h2
     |some z=>rw[e] at h2;exact congrArg en h2
    have ht:(N.drop n)[k]?=en y:=by rw[mi];exact h1
    have hz:(y,j)∈(N.drop n).zip ix:=ip (i:=k) (by rw[mf];exact⟨ht,hj⟩);obtain⟨q1,q2⟩:=L.at_ _ hz;have hm:=ko q2;have hcell:=L.free _ hm rfl;obtain⟨m',hn',hl'⟩:=I4.loc;obtain⟨u,r,lk⟩:=hl' j y v q1 h2' (.inr (.inl hcell));refine{u,r,.inr {.inl (jD I2.ok.kind hcell q2),?_}};rcases lk with lk|⟨_,c,e,z⟩
    .rw[show X.env.kindOf y=en .cell from hcell] at lk
     cases lk.1
    .obtain⟨c',e'⟩:=jz.mp (Hl (env:=X.env) scope.names [] y hm)
     have e2:=sub y c' e';rw[e] at e2;cases e2;exact⟨c,e',z⟩
 .show H3 C=p9
  exact I3.hok.fresh (q0 hC.symm)
 .show(gd n p9++frV σ ix).9=N.9
  rw[L.len,fq,jl];simp[frV,uk]
theorem Aa5 {n:Nat}{A:V->Hp->List V->Prop}{g:TG}{tgt:ja}(hA:Tk n A g){σ:St}{s2:gb}{tn:Nat->i8->Prop}(hc:X.calm=NG)(L:LcG X.N X.env.scope scope n N ix)(I2:Inv X pins σ H2 s2)
  (T:Su X.prog X.w X.K tgt J fp it tn)(st2:tn 0 s2.5)(f2:∀b∈fp,Uv X pins H2 b)
  (hif:∀C s H,PIf (Ec X scope N C s H fp) ifs tc)(he:∀C s H,PE (Ec X scope N C s H fp) elt te){Q:VK}(hg:∀C s H,PG (Ec X scope N C s H fp) tgt g)(rd:rdG A J H2 (frV σ ix) tc te Q){RR:fu->fe->wm->gb->Prop}{E:Za0}
  (fin:∀D C H' s' m,Inv X pins σ H' s'->s2.heap.objs.8<=C->H' C=p9->s'.heap.Ns C m->Q (.ref D) H'->RR (.ref D) C (.ok .next) s') :
  wpAny (model X.prog X.w) X.A (newList []) (λacc s3=>wpAny (model X.prog X.w) X.A (newFunctionEnv scope X.env.globals (Fm X.env scope.names []) [] X.env.qual p9 .none (en X.env)) (λcenv s4=>
   codeAny (model X.prog X.w) X.A (.compStart (.ListComp elt [{tgt,iter,ifs,0}] scope pos) 0 (.ref it) acc { cenv with scope:=relabel scope X.env }) (RR acc cenv.locals) s4) E s3) E s2:=by
 refine o6 (yv L.nocell (by intro y hy;simp at hy) (λh1 hns hsb=>?_) L.kind);dsimp only at hns hsb ⊢;have I3:Inv X pins σ (upd H2 s2.heap.objs.8 (.lst [])) { s2 with heap:=s2.heap.push { cls:=.type "list",dict:=p9,data:=.seq ([]:Za3).6 } }:=I2.lnew (its:=[]) (t':=s2.toks) .nil (ij _);generalize hH3:s2.heap.push { cls:=.type "list",dict:=p9,data:=.seq ([]:Za3).6 }=h3 at hns hsb I3 ⊢;have hsz:h3.objs.8=s2.heap.objs.8+1:=by rw[<-hH3,qw]
 have kp34:∀b u,h3.get? b=en u->h1.get? b=en u:=λb u e=>hsb.extBut b u (io (gi e)) (fj _ e);have I4:Inv X pins σ (upd H2 s2.heap.objs.8 (.lst [])) { s2 with heap:=h1,toks:=s2.toks+([]:List (Str×fu)).9 }:=I3.kept (t':=s2.toks+([]:List (Str×fu)).9) kp34;have kp24:∀b u,s2.heap.get? b=en u->h1.get? b=en u:=λb u e=>kp34 b u (by rw[<-hH3];exact fj _ e);have IY:=Ai8 (C:=h3.objs.8) (s3:={ s2 with heap:=h3 }) L I2 T st2 f2 I3 I4 (by show s2.heap.objs.8<=h3.objs.8;lia) rfl rfl kp34 hns;have fD:H2 s2.heap.objs.8=p9:=I2.hok.fresh (fm _);have lt2:∀b∈fp,b<s2.heap.objs.8:=λb hb=>by obtain⟨o,e,_⟩:=T.obj _ _ st2 b hb;exact gi e
 have st4:tn 0 h1:=T.keep _ _ _ st2 λb _ o e=>kp24 b o e;have stat:∀{pn:Za1} {H':Hp},pn=[]->(∀b∈fp,H' b=p9)->∀b∈fp,Uv (Ec X scope N h3.objs.8 { s2 with heap:=h3 } (upd H2 s2.heap.objs.8 (.lst [])) fp) pn H' b:=λhp hn b hb=>by
  subst hp;exact{hn b hb,(IY.ok.exf b hb).1,IY.ok.exfs b hb,.inl hb,(IY.ok.exf b hb).2,λp hp=>absurd (show p∈([]:Za1) from hp) (by simp)}
 obtain⟨W,⟨m0,w0⟩,turn⟩:=rd _ fD;have loop:codeAny (model X.prog X.w) X.A (.compLoop (.ListComp elt [{tgt,iter,ifs,0}] scope pos) 0 (.ref it) (.ref s2.heap.objs.8) (compEnvC scope (Fm X.env scope.names []) h3.objs.8 X.env)) (RR (.ref s2.heap.objs.8) h3.objs.8)
   { s2 with heap:=h1,toks:=s2.toks+([]:List (Str×fu)).9 }:=by
  refine Adl (λμ s'=>∃i H',Inv (Ec X scope N h3.objs.8 { s2 with heap:=h3 } (upd H2 s2.heap.objs.8 (.lst [])) fp) [] (gd n p9++frV σ ix) H' s'/\tn i s'.5/\(∀b∈fp,H' b=p9)/\W i μ H') ?_ m0
   {0,_,IY,st4,λb hb=>by rw[Aj (io (lt2 b hb))];exact(f2 b hb).1,w0}
  rintro μ s5 ⟨i,H5,I5,st5,fr5,w5⟩;rcases turn i μ H5 w5 with⟨stop,q⟩|⟨go,step⟩
  .refine thn (T.done (Ec X scope N h3.objs.8 { s2 with heap:=h3 } (upd H2 s2.heap.objs.8 (.lst [])) fp) rfl rfl rfl hc i [] s5 _ H5 (λ_ _=>False) I5 (stat rfl fr5) st5 stop) λr s6 ⟨hr,I6⟩=>?_
   subst hr;obtain⟨m6,hn6,_⟩:=I6.loc;have u1:Un (frs X.stack) fp H2 (upd H2 s2.heap.objs.8 (.lst [])) s2.5 h3:=Un.laid (λb u e=>by rw[<-hH3];exact fj _ e) (fm _) fD;have back:Inv X pins σ H5 s6:=I2.call' (ch:=fp) (I6.os.trans rfl) (u1.trans I6.base) I6.hok I6.bare λb hb=>{(f2 b hb).2.2.2.1,(f2 b hb).2.1,(f2 b hb).2.2.2.2.1,(f2 b hb).2.2.2.2.2};exact fin _ _ H5 s6 m6 back () I6.free hn6 q
  .refine thn (T.item (Ec X scope N h3.objs.8 { s2 with heap:=h3 } (upd H2 s2.heap.objs.8 (.lst [])) fp) rfl rfl rfl hc i [] s5 _ H5 (λ_ _=>False) I5 (stat rfl fr5) st5 go) λr s6 ⟨u,hr,h6⟩=>?_
   subst hr;refine thn h6 λ_ s7 ⟨y,H7,I7,r7,y7,st7,fr7⟩=>?_;have I7':=I7.pinned (stat rfl fr7) (T.obj _ _ st7);obtain⟨vs,hvs,hst⟩:=step y _ y7;obtain⟨hvl,hgv⟩:=hA _ _ _ (frV σ ix) hvs;refine thn (hg _ _ _ _ s7 _ H7 y u _ I7' r7 hgv) λ_ s8 ⟨XD,H8,I8,e8,e8'⟩=>?_;subst e8 e8';refine thn (hif _ _ _ _ s8 _ _ _ I8 hst) λok s9 ⟨H9,I9,q9⟩=>?_;have again:∀{sz:gb} {Hz:Hp} {m':Nat},Inv (Ec X scope N h3.objs.8 { s2 with heap:=h3 } (upd H2 s2.heap.objs.8 (.lst [])) fp) ([]++T8 fp s7.5) (vs.map en++frV σ ix) Hz sz->m'<μ->W (i+1) m' Hz ->
     ∃m,m<μ/\∃i H',Inv (Ec X scope N h3.objs.8 { s2 with heap:=h3 } (upd H2 s2.heap.objs.8 (.lst [])) fp) [] (gd n p9++frV σ ix) H' sz/\tn i sz.5/\(∀b∈fp,H' b=p9)/\W i m H':=λ{sz Hz m'} Iz hm wz=>by
    refine{m',hm,i+1,Hz,Iz.unpinned.weak (by simp[hvl]) (λj v e=>?_),T.keep _ _ _ st7 λb hb o e=>(Iz.pin (b,o) (ji _ (ji _ (Kl hb e)))).1,λb hb=>?_,wz}
    .rcases DI j n with l|l
     .rw[gv (by rw[jl];exact l),qi,if_pos l] at e
      cases e
     .rw[ig (by rw[jl];exact l),jl] at e
      rw[ig (by rw[fb,hvl];exact l),fb,hvl];exact e
    .obtain⟨o,e,d⟩:=T.obj _ _ st7 b hb
     exact(Iz.pin (b,o) (ji _ (ji _ (Kl hb e)))).2.1
   cases ok with
   |false=>
    obtain⟨m',hm,wz⟩:=q9;exact again I9 hm wz
   |true=>
    refine thn (he _ _ _ _ s9 _ _ _ I9 q9) λxv s10 ⟨z,H10,I10,r10,ys,hD,hl,m',hm,wz⟩=>?_;refine thn (Bf _ s10 _ H10 (.ref s2.heap.objs.8) [z] (.ref s2.heap.objs.8) [xv] (λ_ Hz=>Hz=upd H10 s2.heap.objs.8 (.lst (ys++[z]))) I10 rfl (.cons r10 .nil) {_,ys,z,rfl,rfl,hD,hl,rfl}) λ_ s11 ⟨_,H11,I11,_,q11⟩=>?_;subst q11;exact again I11 hm wz
 exact codeAny_compStart_list loop (T.self X.A 0 _ _ _ st4 loop)
theorem zE {n:Nat}{A:V->Hp->List V->Prop}{g:TG}{tgt:ja}{rd:It->Hp->St->VK->Prop}(hA:Tk n A g)(hgt:∀C s H fp,PG (Ec X scope N C s H fp) tgt g)(hrd:∀{J H1 fr Q},rd J H1 fr Q->rdG A J H1 fr tc te Q)(hc:X.calm=NG)(L:LcG X.N X.env.scope scope n N ix)(hi:PI X tgt iter wi)(hif:∀C s H fp,PIf (Ec X scope N C s H fp) ifs tc)(he:∀C s H fp,PE (Ec X scope N C s H fp) elt te)
  (hs:autoParam (∀z,foldedSetIterable iter X.env z=pure z) QJ):PE X (.ListComp elt [{tgt,iter,ifs,0}] scope pos) (λσ H Q=>wi σ H λJ H1=>rd J H1 (frV σ ix) Q):=by
 k_in;have hfree:∀y∈scope.names,y.2=.free->∃c,X.env.cells.lookup y.1=en c:=λy hy hf=>I.ok.has y.1 (.inl (L.free y hy hf));rw[eval_ListComp];refine EB (use:=p9) rfl hs (Nt hfree) L.kind L.names (thn (hi pins s σ H _ I h) λv s1 h1=>thn h1 λitv s2 h2=>?_);obtain⟨it,fp,tn,J,H2,e,I2,T,st2,f2,rd⟩:=h2;subst e;refine Aa5 (RR:=λacc C=>compPost (model X.prog X.w) X.A X.xe p9 _ acc C) hA hc L I2 T st2 f2 (λC s H=>hif C s H fp) (λC s H=>he C s H fp) (λC s H=>hgt C s H fp) (hrd rd) λD C H' s' m I' hC hf hn q=>?_;refine{m,hn,λh' hsb=>{.ref D,H',?_,rfl,q}};have l2:=I2.lt;refine I'.turned (t':=s'.toks) (it:=C) (λb o hb e=>hsb.extBut b o hb e) hf (j8 (gh l2 hC)) (.inr (iy I2.sz hC)) (λy c e=>?_) λp hp=>?_
 .obtain⟨v,hv⟩:=I2.cell y c e
  exact io (gh hv.lt hC)
 .exact io (gh (gi (I2.pin p hp).1) hC)
theorem Zl {n:Nat}{A:V->Hp->List V->Prop}{g:TG}{tgt:ja}{rd:It->Hp->St->VK->Prop}{i:Nat}{y:Str}{py spos:Pos}(hA:Tk n A g)(hgt:∀C s H fp,PG (Ec X scope N C s H fp) tgt g)(hrd:∀{J H1 fr Q},rd J H1 fr Q->rdG A J H1 fr tc te Q)(hc:X.calm=NG)(L:LcG X.N X.env.scope scope n N ix)(hN:X.N.Nodup)(hy:X.N[i]?=en y)(hl:X.env.scope.names.lookup y=en .local)
  (hi:PI X tgt iter wi)(hif:∀C s H fp,PIf (Ec X scope N C s H fp) ifs tc)(he:∀C s H fp,PE (Ec X scope N C s H fp) elt te)
  (hsw:autoParam (swapsWith (.ListComp elt [{tgt,iter,ifs,0}] scope pos) (en (.Name y py)) spos.line X.env=pure NG) QD)
  (hs:autoParam (∀z,foldedSetIterable iter X.env z=pure z) QJ):PS X (.Assign [.Name y py] (.ListComp elt [{tgt,iter,ifs,0}] scope pos) spos) (lR (λσ H Q=>wi σ H λJ H1=>rd J H1 (frV σ ix) Q) (Dd i)):=by
 k_end;have hfree:∀y∈scope.names,y.2=.free->∃c,X.env.cells.lookup y.1=en c:=λy hy hf=>I.ok.has y.1 (.inl (L.free y hy hf));rw[exec_Assign_Name_used _ _ _ _ hsw];refine wpAny_bind (ql (wpAny_bind ?_));show wpAny _ X.A (do let _ <-comprehension (.ListComp elt [{tgt,iter,ifs,0}] scope pos) scope X.env _ (newList []) NH (eval iter X.env) (en (assign (.Name y py) X.env))) _ _ s;refine wpAny_bind (thn (Q:=λ_ s'=>SP X pins D .next s') (EB (use:=en (assign (.Name y py) X.env)) rfl hs (Nt hfree) L.kind L.names (thn (hi pins s σ H _ I h) λv s1 h1=>thn h1 λitv s2 h2=>?_)) λ_ s' hq=>fw (fw hq));obtain⟨it,fp,tn,J,H2,e,I2,T,st2,f2,rd⟩:=h2;subst e;refine Aa5 (RR:=λacc C=>compPost (model X.prog X.w) X.A X.xe (en (assign (.Name y py) X.env)) _ acc C) hA hc L I2 T st2 f2 (λC s H=>hif C s H fp) (λC s H=>he C s H fp) (λC s H=>hgt C s H fp) (hrd rd) λDa C H' s' m I' hC hf hn q=>?_;have l2:=I2.lt;have nC:C≠X.env.locals:=j8 (gh l2 hC);have nF:C∉X.fs:=I2.nofs hC;obtain⟨oC,es,ep,hget,hdat,hrest⟩:=id hn;have Ip:Inv X (pins++[(C,oC)]) σ H' s':=I'.pins_of λp hp=>(kj.mp hp).elim (λz=>I'.pin p (ji _ z)) λz=>by
  have e:p=(C,oC):=by simpa using z
  subst e;exact{hget,hf,nC,nF,λv z=>by rw[hdat] at z;cases z}
 have hg:PG X (.Name y py) (Dd i):=Oi hN hy (.inl hl) (.inr hl);show wpAny _ X.A (assign (.Name y py) X.env (.ref Da)) _ _ s';refine thn (hg _ s' σ H' (.ref Da) (.ref Da) D.nx Ip rfl q) λ_ s'' ⟨XQ,H'',I'',q''⟩=>?_;obtain⟨g1,g2,_⟩:=I''.pin (C,oC) (ji _ (ji _ (by simp)));refine{m,⟨oC,es,ep,g1,hdat,hrest⟩,λh' hsb=>{XQ,H'',?_,q''}};refine I''.unpinned.turned (t':=s''.toks) (it:=C) (λb o hb e=>hsb.extBut b o hb e) g2 nC (.inr (iy I2.sz hC)) (λy c e=>?_) λp hp=>?_
 .obtain⟨v,hv⟩:=I2.cell y c e
  exact io (gh hv.lt hC)
 .exact io (gh (gi (I2.pin p hp).1) hC)
theorem Ba.g {x:Str}(L:Ba QR QQ sc x N ix):LcG QR QQ sc 1 N ix:={L.kind,L.nocell,L.names,L.free,L.nd,L.len,by rw[BS];exact L.at_}
theorem xN:Tk 1 (λv _ vs=>vs=[v]) (Dd 0):=λ_ _ _ _ h=>by subst h;exact⟨rfl,rfl,rfl⟩
theorem Ba.pg (L:Ba X.N X.env.scope scope x N ix)(C:fe)(s:gb)(H:Hp)(fp:List fe):PG (Ec X scope N C s H fp) (.Name x px) (Dd 0):=Oi L.nd (by have:=L.hd;rwa [CU] at this) (.inl (ny L.loc)) (.inr (ny L.loc))
theorem K3.g {Q:VK}(h:K3 J H1 fr tc te Q):rdG (λv _ vs=>vs=[v]) J H1 fr tc te Q:=λD hD=>by
 obtain⟨W,a,b⟩:=h D hD;exact{W,a,λi m H w=>(b i m H w).imp id λ⟨p,q⟩=>{p,λv H' y=>{[v],rfl,q v H' y}}}
theorem Ja (hc:X.calm=NG)(L:Ba X.N X.env.scope scope x N ix)(hi:PI X (.Name x px) iter wi)(hif:∀C s H fp,PIf (Ec X scope N C s H fp) ifs tc)(he:∀C s H fp,PE (Ec X scope N C s H fp) elt te)
  (hs:autoParam (∀z,foldedSetIterable iter X.env z=pure z) QJ):PE X (.ListComp elt [{.Name x px,iter,ifs,0}] scope pos) (tLc wi ix tc te):=zE (rd:=λJ H1 fr Q=>K3 J H1 fr tc te Q) xN L.pg K3.g hc L.g hi hif he hs
theorem Ly {i:Nat}{y:Str}{py spos:Pos}(hc:X.calm=NG)(L:Ba X.N X.env.scope scope x N ix)(hN:X.N.Nodup)(hy:X.N[i]?=en y)(hl:X.env.scope.names.lookup y=en .local)
  (hi:PI X (.Name x px) iter wi)(hif:∀C s H fp,PIf (Ec X scope N C s H fp) ifs tc)(he:∀C s H fp,PE (Ec X scope N C s H fp) elt te)
  (hsw:autoParam (swapsWith (.ListComp elt [{.Name x px,iter,ifs,0}] scope pos) (en (.Name y py)) spos.line X.env=pure NG) QD)
  (hs:autoParam (∀z,foldedSetIterable iter X.env z=pure z) QJ):PS X (.Assign [.Name y py] (.ListComp elt [{.Name x px,iter,ifs,0}] scope pos) spos) (lR (tLc wi ix tc te) (Dd i)):=Zl (rd:=λJ H1 fr Q=>K3 J H1 fr tc te Q) xN L.pg K3.g hc L.g hN hy hl hi hif he hsw hs
end
theorem Al {D:fe}{o:HO}(h:H D=p9):Ag H (upd H D o):=λb u e=>by rw[Aj (An e h)];exact e
theorem Ar {D:fe}{o:HO}(h:H D=p9):Ag H (upd H D o)/\upd H D o D=en o:={Al h,Ae}
theorem Og {tc:TT}{Q:VK}(n:Nat)(item:Nat->V)(acc:Nat->List V)(h0:acc 0=[])(hz:∀i,i<n->(acc i).9<sizeLine)
  (hgo:∀i H,i<n->Ag H1 H->J.go i H)(hy:∀i H x H',i<n->Ag H1 H->J.yld i H x H'->x=item i/\H'=H)(hst:∀H,Ag H1 H->J.stop n H)
  (turn:∀i H (R:Hp->Prop) (A:VK),i<n->Ag H1 H->(acc (i+1)=acc i->∀H',Ag H H'->R H')->(∀y H',acc (i+1)=acc i++[y]->Ag H H'->A y H') ->
   tc (en (item i)::fr) H λb H3=>if b=NG then te (en (item i)::fr) H3 A else R H3)
  (fin:∀D H,H1 D=p9->Ag H1 H->H D=en (.lst (acc n))->Q (.ref D) H):K3 J H1 fr tc te Q:=by
 intro D hD;refine{λi m H=>i<=n/\m=n-i/\Ag H1 H/\H D=en (.lst (acc i)),{n,ij _,rfl,Al hD,by rw[Ae,h0]},?_};rintro i m H ⟨hi,rfl,sm,hl⟩
 by_cases h:i=n
 .subst h
  exact .inl {hst H sm,fin D H hD sm hl}
 .have hlt:i<n:=j5 hi h
  refine .inr {hgo i H hlt sm,λx H' hyl=>?_};obtain⟨rfl,rfl⟩:=hy i H x H' hlt sm hyl;refine turn i H' _ _ hlt sm (λea H3 s3=>?_) (λy H4 ea s4=>?_)
  .exact{n-(i+1),(),(),rfl,sm.trans s3,by rw[ea];exact s3 _ _ hl}
  .refine{acc i,s4 _ _ hl,hz i hlt,n-(i+1),(),(),rfl,λb u e=>?_,by rw[Ae,ea]}
   rw[Aj (An e hD)];exact s4 _ _ (sm _ _ e)
theorem Jy {lo:Int}{n:Nat}{tc:TT}{Q:VK}(acc:Nat->List V)(h0:acc 0=[])(hz:∀i,i<n->(acc i).9<sizeLine)
  (turn:∀(i:Nat) H (R:Hp->Prop) (A:VK),i<n->Ag H1 H->(acc (i+1)=acc i->∀H',Ag H H'->R H')->(∀y H',acc (i+1)=acc i++[y]->Ag H H'->A y H') ->
   tc (en (.int (lo+i))::fr) H λb H3=>if b=NG then te (en (.int (lo+i))::fr) H3 A else R H3)
  (fin:∀D H,H1 D=p9->Ag H1 H->H D=en (.lst (acc n))->Q (.ref D) H):K3 (Itr lo n) H1 fr tc te Q:=
 Og n (λi=>.int (lo+i)) acc h0 hz (λi H hi _=>hi) (λi H x H' _ _ h=>⟨h.2,h.1⟩) (λH _=>fm n) turn fin
theorem fT {K:e7}{a:fe}{tc:TT}{Q:VK}(hl:SqL K H1 a xs)(acc:Nat->List V)(h0:acc 0=[])(hz:∀i,i<xs.9->(acc i).9<sizeLine)
  (turn:∀(i:Nat) x H (R:Hp->Prop) (A:VK),xs[i]?=en x->Ag H1 H->(acc (i+1)=acc i->∀H',Ag H H'->R H')->(∀y H',acc (i+1)=acc i++[y]->Ag H H'->A y H') ->
   tc (en x::fr) H λb H3=>if b=NG then te (en x::fr) H3 A else R H3)
  (fin:∀D H,H1 D=p9->Ag H1 H->H D=en (.lst (acc xs.9))->Q (.ref D) H):K3 (Itl K a) H1 fr tc te Q:=by
 refine Og xs.9 (λi=>xs.getD i .non) acc h0 hz (λi H hi sm=>{xs,xs[i],sm.seq hl,by simp[hi]}) (λi H x H' hi sm h=>{?_,h.1}) (λH sm=>{xs,sm.seq hl,fm _}) (λi H R A hi sm=>turn i _ H R A (by simp[hi]) sm) fin;have:=h.2 xs (sm.seq hl);simp[l8,this]
theorem Ag.seqT {K:e7}{a:fe}(e:Ag H H')(h:SqT K H a xs):SqT K H' a xs:=by
 rcases h with(h|⟨o,h⟩)|h
 .exact .inl (.inl (e _ _ h))
 .exact .inl (.inr {o,e _ _ h})
 .exact .inr h
theorem yN {K:e7}{a:fe}{tc:TT}{Q:VK}(hl:SqT K H1 a xs)(acc:Nat->List V)(h0:acc 0=[])(hz:∀i,i<xs.9->(acc i).9<sizeLine)
  (turn:∀(i:Nat) x H (R:Hp->Prop) (A:VK),xs[i]?=en x->Ag H1 H->(acc (i+1)=acc i->∀H',Ag H H'->R H')->(∀y H',acc (i+1)=acc i++[y]->Ag H H'->A y H') ->
   tc (en x::fr) H λb H3=>if b=NG then te (en x::fr) H3 A else R H3)
  (fin:∀D H,H1 D=p9->Ag H1 H->H D=en (.lst (acc xs.9))->Q (.ref D) H):K3 (Itt K a) H1 fr tc te Q:=by
 refine Og xs.9 (λi=>xs.getD i .non) acc h0 hz (λi H hi sm=>{xs,xs[i],sm.seqT hl,by simp[hi]}) (λi H x H' hi sm h=>{?_,h.1}) (λH sm=>{xs,sm.seqT hl,fm _}) (λi H R A hi sm=>turn i _ H R A (by simp[hi]) sm) fin;have:=h.2 xs (sm.seqT hl);simp[l8,this]
theorem mL:bootBuiltins "int"=en (.type "int"):=by decide +kernel
theorem rK:bootBuiltins "str"=en (.type "str"):=by decide +kernel
theorem xZ:bootBuiltins "bool"=en (.type "bool"):=by decide +kernel
theorem Ng:bootBuiltins "list"=en (.type "list"):=by decide +kernel
theorem Pd:bootBuiltins "tuple"=en (.type "tuple"):=by decide +kernel
theorem Ab5:bootBuiltins "dict"=en (.type "dict"):=by decide +kernel
theorem Cb:bootBuiltins "len"=en (.builtin "len"):=by decide +kernel
theorem A8:bootBuiltins "isinstance"=en (.builtin "isinstance"):=by decide +kernel
theorem Aiz:bootBuiltins "sum"=en (.builtin "sum"):=by decide +kernel
theorem Xs:bootBuiltins "min"=en (.builtin "min"):=by decide +kernel
theorem Afw:bootBuiltins "max"=en (.builtin "max"):=by decide +kernel
theorem Xo:bootBuiltins "sorted"=en (.builtin "sorted"):=by decide +kernel
structure Cal (P:gm) (w:iz) (K:e7) (mg:Za2) (base:i8) (name:Str) (k:Nat) (ps:Za6) (sp:Sp):Prop where
 ex:∃(f:fe) (fd:jv),Aq P w K mg base CX0 k f fd ps sp/\Dy K fd ps []/\mg name=en (.ref f)/\j7 K (.ref f)=NG
section
variable {X:Cx} {k:Nat} {ps:Za6} {sp:Sp} {name m:Str} {p pos apos:Pos} {e o:ja} {es:List ja} {ta:TE} {t:TA}
theorem Aw (C:Cal X.prog X.w X.K X.mg X.base name k ps sp)(hr:B9 k X.A)(ha:PA X (e::es) t)(hg:autoParam (Gl X name) QD)(hdb:autoParam ((name==("__debug__":Str))=NH) QF)
  (he:autoParam (starEach (e::es) X.env=(NH,eval e X.env)::starEach es X.env) QD)(hpl:autoParam ((backTo pos (starEach es X.env)).any (·.1)=NH) QD):PE X (.Call (.Name name p) (e::es) [] pos) (kU sp [] E0 t):=by
 obtain⟨f,fd,F,b,hm,hk⟩:=C.ex;exact rG F hr hg hm hk b .nil kO ha hdb he hpl
end
section
variable {X:Cx}
def Ak4 (K:e7):List V->Hp->VK->Prop:=λxs H Q=>∃x n t b,xs=[x,.ty n]/\Kh K H x t/\kitOne K t (.type n)=en b/\Q (.bl b) H
theorem Cu:Ea X (.builtin "isinstance") (Ak4 X.K):=by
 intro pins s σ H xs us Q I r h;obtain⟨x,n,t,b,rfl,ty,e,q⟩:=h;obtain⟨u,w',rfl,ru,rw'⟩:=Kz r;cases(show w'=kr n from rw');exact xE I ru ty e λtk=>{.bl b,H,I.tok tk,rfl,q}
theorem Sa {K:e7}:kitOne K (.type "str") (.type "str")=en NG:=by rfl
end
theorem Hf {x y:Str}(h:x.cps.7=y.cps.7):x=y:=by
 obtain⟨a⟩:=x;obtain⟨b⟩:=y;have:a=b:=Array.toList_inj.mp h;rw[this]
def sgn (c:Nat):Str:={#[c]}
def Yp (x:Str)(k:Nat):Str:={(gd k x.cps.7).flatten.toArray}
theorem jF (x:Str)(k:Nat):(Yp x k).9=k*x.9:=by
 show(gd k x.cps.7).flatten.toArray.size=k*x.cps.8;rw[gj,iY];simp
theorem Zt (a:Array Nat):∀(k:Nat) (acc:Array Nat),((gd k a).foldl (·++·) acc).7=acc.7++(gd k a.7).flatten
 |0,acc=>by simp
 |k+1,acc=>by
  rw[jf,qa,Zt a k,jf];simp[jy]
section
variable {X:Cx}
def Ain:R2:=λx y H Q=>∃z k,x=.str z/\y=.int k/\-(2 ^ 40)<k/\k<2 ^ 40/\z.9*k.toNat<=sizeLine/\z.9<=sizeLine/\Q (.str (Yp z k.toNat)) H
theorem tT:OpR X (binaryOp .Mult) Ain:=by
 intro pins s σ H x y v u Q I rx ry h;obtain⟨z,k,rfl,rfl,k1,k2,hz,hz2,q⟩:=h;obtain⟨t,rfl⟩:=rx;obtain⟨t',rfl⟩:=ry;have hs:=Lk;have hs':=GG;refine PySem.P.mul_str ?_ ?_ ?_ ?_
 .rw[decide_eq_false (),decide_eq_false ()];rfl
 .intro h1 _ hgt
  have hk:k<=2 ^ 40:=()
  have:(z.9:Int)<=(2 ^ 63-1)/k:=by
   rw[Int.le_ediv_iff_mul_le ()];have e:(z.9:Int)*k=((z.9*k.toNat:Nat):Int):=by
    rw[AK,uh ()]
   rw[e];lia
  lia
 .intro _ _
  unfold LS
  simpa using hz
 .split
  .rename_i h1
   have e:Yp z k.toNat=vp:=by
    rw[show k.toNat=0 by lia];rfl
   rw[e] at q;exact{by decide,.str vp,H,I.tok _,{_,rfl},q}
  .rename_i h1
   split
   .rename_i h2
    have e:Yp z k.toNat=z:=by
     refine Hf ?_;show(gd k.toNat z.cps.7).flatten.toArray.toList=_;rcases Bool.or_eq_true_iff.mp h2 with h2|h2
     .have:k=1:=by simpa using h2
      subst this;simp
     .have:z.9=0:=by simpa using h2
      have e0:z.cps.7=[]:=by
       have:z.cps.8=0:=this
       simpa using this
      rw[e0];simp
    rw[e] at q;exact{.str z,H,I,{_,rfl},q}
   .have e:({(gd k.toNat z.cps).foldl (·++·) #[]}:Str)=Yp z k.toNat:=by
     refine Hf ?_;show((gd k.toNat z.cps).foldl (·++·) #[]).7=_;rw[Zt];simp[Yp]
    refine{?_,.str (Yp z k.toNat),H,I.tok _,{s.toks,by rw[e]},q};rw[e,jF,wq];exact hz
theorem Nh {ys:Za6}:∀{us:Za3},Az (ys.map V.str) us->rp us ys:=by
 induction ys with
 |nil=>intro us r;rw[CT] at r;cases r;exact .nil
 |cons y ys ih=>
  intro us r;rw[jh] at r
  cases r with
  |cons r1 r2=>
   obtain⟨t,e⟩:=r1;subst e;exact .cons y t (ih r2)
def Aa1 (K:e7):V->List V->Hp->VK->Prop:=λx vs H Q=>∃sep p ys,x=.str sep/\vs=[.ref p]/\SqL K H p (ys.map V.str)/\(ys.map (·.length)).sum+ys.9*sep.9<=16777216/\Q (.str (uv sep ys)) H
theorem Oh:MtM X "str.join" (Aa1 X.K):=by
 intro pins s σ H x vs v us Q I rx rv h;obtain⟨sep,p,ys,rfl,rfl,hp,hz,q⟩:=h;obtain⟨t,rfl⟩:=rx;obtain⟨u,rfl,ru⟩:=rv.one;cases ru;obtain⟨its,r,pl,_⟩:=I.list hp;exact join_list pl.isList (by simpa using Nh r) hz λt' k=>{.str (uv sep ys),H,I.tok k,⟨t',rfl⟩,q}
theorem Y1:∀(ys:Za6) (a:Array Nat),(ys.foldl (λacc p=>acc++("":Str).cps++p.cps) a).7=a.7++(ys.map λy=>y.cps.7).flatten
 |[],a=>by simp
 |y::r,a=>by
  rw[qa,Y1 r];have e:("":Str).cps=#[]:=rfl;rw[e];simp[jy]
theorem N5 (ys:Za6):(uv ("":Str) ys).cps.toList=(ys.map λy=>y.cps.7).flatten:=by
 show((ys.drop 1).foldl (λacc p=>acc++("":Str).cps++p.cps) (ys.headD vp).cps).7=_;rw[Y1]
 cases ys with
 |nil=>rfl
 |cons y r=>simp
end
def iX:ja->Bool
 |.Starred ..=>NH
 |_=>NG
theorem lY {e:ja}{es:List ja}(h:iX e=NG):starEach (e::es) env=(NH,eval e env)::starEach es env:=by
 cases e<;>first|rfl|cases h
section
variable {X:Cx} {e:ja} {es:List ja} {te:TE} {t:TA}
theorem Ai0 (ha:PE X e te)(hr:PA X es t)(hs:iX e=NG):PA X (e::es) (Z7 te t):=tK ha hr (lY hs)
end
structure PAi (X:Cx) (es:List ja) (t:TA):Prop where
 h:PA X es t
structure PEi (X:Cx) (e:ja) (t:TE):Prop where
 h:PE X e t
structure PSi (X:Cx) (st:i7) (t:TS):Prop where
 h:PS X st t
structure Aac (X:Cx) (sts:List i7) (t:TS):Prop where
 h:PSs X sts t
section
variable {X:Cx} {e a b:ja} {es:List ja} {te ta tb:TE} {t:TA} {pos:Pos} {st:i7} {rest:List i7} {u u2:TS}
theorem pT:PAi X [] mF:=⟨Aa⟩
theorem F7 (ha:PE X e te)(hr:PAi X es t)(hs:iX e=NG):PAi X (e::es) (Z7 te t):={Ai0 ha hr.h hs}
theorem qK (h:PAi X es t):PEi X (.List es pos) (Af0 t):={Ay h.h}
theorem si (h:PS X st u):PSi X st u:=⟨h⟩
theorem oN {i:Nat}{x:Str}{pos':Pos}(hN:X.N.Nodup)(hi:X.N[i]?=en x)(hx:Loc X.env.scope x)(he:PEi X e te)(hs:autoParam (swapsWith e (en (.Name x pos')) pos.line X.env=pure NH) QD)(hf:autoParam (X.fn x=NG\/X.env.scope.names.lookup x=en .local) QH) :
  PSi X (.Assign [.Name x pos'] e pos) (lR te (Dd i)):={P5 hN hi hx he.h hs hf}
theorem Ef (h1:PSi X st u)(h2:Aac X rest u2):Aac X (st::rest) (Agn u u2):={Ab h1.h h2.h}
theorem zU (h1:PSi X st u):Aac X [st] u:={Ad h1.h}
end
theorem us2 {P:Za3->Prop}(h:∀a b,P [a,b]):∀us:Za3,us.9=2->P us:=λus e=>by rcases us with _|⟨a,_|⟨b,_|_⟩⟩<;>first|exact h _ _|(simp at e)
theorem us3 {P:Za3->Prop}(h:∀a b c,P [a,b,c]):∀us:Za3,us.9=3->P us:=λus e=>by rcases us with _|⟨a,_|⟨b,_|⟨c,_|_⟩⟩⟩<;>first|exact h _ _ _|(simp at e)
section
variable {σ:St} {H:Hp} {D:Io} {Q:VK} {t u:TS} {te ta tb:TE} {QB:Bool->Hp->Prop}
theorem Ajt (h:t { D with nx:=u D } σ H):Agn t u D σ H:=h
theorem Ahu (h:D.nx σ H):Afz D σ H:=h
theorem Aiv {g:TG}(h:te σ H λx H1=>g x σ H1 D.nx):lR te g D σ H:=h
theorem Adp {i:Nat}{v:V}{R:St->Hp->Prop}(h:R (σ.set i (en v)) H):Dd i v σ H R:=h
theorem Aix (h:te σ H D.rt):Aj0 te D σ H:=h
theorem Ah2 (h:te σ H λ_ H1=>D.nx σ H1):Acc te D σ H:=h
theorem Ajb {c:TT}(h:c σ H λb H1=>if b=NG then t D σ H1 else u D σ H1):Ag3 c t u D σ H:=h
theorem Ajh {i:Nat}{ti:TIp}{x:V}(e:σ[i]?=en (en x))(h:te σ H λy H1=>ti x y H1 λz H2=>D.nx (σ.set i (en z)) H2):Ahn i te ti D σ H:=⟨x,e,h⟩
theorem Ajm {i:Nat}{v:V}(e:σ[i]?=en (en v))(h:Q v H):Aev i σ H Q:=⟨v,e,h⟩
theorem r_c {v:V}(h:Q v H):tC v σ H Q:=h
theorem Akr {r:R2}(h:ta σ H λx H1=>tb σ H1 λy H2=>r x y H2 Q):tOp r ta tb σ H Q:=h
theorem Alc {r:V->Hp->VK->Prop}(h:ta σ H λx H1=>r x H1 Q):tUn r ta σ H Q:=h
theorem Akx {g:Int->V}{i:Int}(h:Q (g i) H):rU g (.int i) H Q:=⟨i,rfl,h⟩
theorem Ae4 {g:Int->Int->V}{i j:Int}(h:Q (g i j) H):rI0 g (.int i) (.int j) H Q:=⟨i,j,rfl,rfl,h⟩
theorem Ak3 {C:Int->Int->Prop}{g:Int->Int->V}{i j:Int}(c:C i j)(h:Q (g i j) H):rI C g (.int i) (.int j) H Q:=⟨i,j,rfl,rfl,c,h⟩
theorem Aj7 {f:Int->Int->Int}{i j:Int}(h:Q (.int (f i j)) H):ipI f (.int i) (.int j) H Q:=⟨i,j,rfl,rfl,h⟩
theorem Ajo {x:V}(e:Aa6 x y=NG)(h:Q (.bl (decide (x=y))) H):rEq x y H Q:=⟨e,h⟩
theorem Aig {x:V}(e:Aa6 x y=NG)(h:Q (.bl (!decide (x=y))) H):rNe x y H Q:=⟨e,h⟩
theorem Agt (h:te σ H λx H'=>∃k,x=.bl k/\QB k H'):tX te σ H QB:=h
theorem Ak5 (h:te σ H λx H'=>∃k,x=.bl k/\QB k H'):tB te σ H QB:=h
theorem Aks {k:Bool}{P:Bool->Prop}(h:P k):∃k',V.bl k=.bl k'/\P k':=⟨k,rfl,h⟩
theorem Aja {c:TT}(h:c σ H λb H1=>QB (!b) H1):Aio c σ H QB:=h
theorem Ajs {c d:TT}(h:c σ H λb H1=>if b=NG then d σ H1 QB else QB NH H1):Ajp c d σ H QB:=h
theorem Ak6 {c d:TT}(h:c σ H λb H1=>if b=NG then QB NG H1 else d σ H1 QB):tOr c d σ H QB:=h
theorem Ag4 (h:ta σ H λx H1=>∃c,x=.bl c/\if c=NG then tb σ H1 Q else Q (.bl NH) H1):Afq ta tb σ H Q:=h
theorem Ago (h:ta σ H λx H1=>∃c,x=.bl c/\Q (.bl (!c)) H1):Aff ta σ H Q:=h
theorem Ai2 {c:TT}(h:c σ H λb H1=>if b=NG then ta σ H1 Q else tb σ H1 Q):tIf c ta tb σ H Q:=h
theorem Aih (h:ta σ H λx H1=>Q (.bl (decide (x=.non))) H1):Aj2 ta σ H Q:=h
theorem Ahx (h:ta σ H λx H1=>Q (.bl (!decide (x=.non))) H1):Ae5 ta σ H Q:=h
theorem Aep {r r':R2}{tc:TE}(h:ta σ H λx H1=>tb σ H1 λy H2=>r x y H2 λz H3=>∃k,z=.bl k/\(if k=NG then tc σ H3 λw' H4=>r' y w' H4 Q else Q (.bl NH) H3)):oS r r' ta tb tc σ H Q:=h
theorem Ai5 (h:QB NG H):Aif σ H QB:=h
variable {tA tR:TA} {QA:List V->Hp->Prop}
theorem Ajf (h:QA [] H):mF σ H QA:=h
theorem Af8 (h:te σ H λx H1=>tR σ H1 λxs H2=>QA (x::xs) H2):Z7 te tR σ H QA:=h
theorem Ahr {E:XK}(h:tA σ H λvs H1=>sp (vs++[]) H1 Q E):kU sp [] E tA σ H Q:=h
theorem Akw {r:List V->Hp->VK->Prop}(h:tA σ H λvs H1=>r vs H1 Q):tCB r tA σ H Q:=h
theorem Ajx (h:tA σ H λxs H1=>xs.9<=sizeLine/\∀p,H1 p=p9->Q (.ref p) (upd H1 p (.lst xs))):Af0 tA σ H Q:=h
theorem Air (h:tA σ H λxs H1=>xs.9<=sizeLine/\∀p,H1 p=p9->Q (.ref p) (upd H1 p (.tup xs))):Akb tA σ H Q:=h
theorem Alb {K:e7}{T:String}{r:V->List V->Hp->VK->Prop}(h:te σ H λx H1=>tyV K T x H1/\tA σ H1 λxs H2=>r x xs H2 Q):tBM K T r te tA σ H Q:=h
theorem Ak9 {r:V->Option Int->Option Int->Hp->VK->Prop}{tl th:TO}(h:te σ H λx H1=>tl σ H1 λl H2=>th σ H2 λu H3=>r x l u H3 Q):tSl r te tl th σ H Q:=h
theorem Abl {QO:Option Int->Hp->Prop}(h:QO p9 H):rV σ H QO:=h
theorem Af7 {QO:Option Int->Hp->Prop}(h:te σ H λx H1=>∃i,x=.int i/\QO (en i) H1):Afg te σ H QO:=h
theorem Ajr {P:Int->Prop}{i:Int}(h:P i):∃j,V.int i=.int j/\P j:=⟨i,rfl,h⟩
def vJ (J:It)(g:TG)(tb:TS)(D:Io)(σ:St)(H1:Hp):Prop:=∃W:Nat->Nat->St->Hp->Prop,(∃m,W 0 m σ H1)/\∀i m σ H,W i m σ H ->
 (J.stop i H/\D.nx σ H)\/(J.go i H/\∃N:St->Hp->Prop,(∀QM H',N QM H'->∃m',m'<m/\W (i+1) m' QM H')/\∀x H',J.yld i H x H'->g x σ H' λQS H2=>tb { D with nx:=N,ct:=N,bk:=D.nx } QS H2)
theorem Aim {g:TG}(h:wi σ H λJ H1=>vJ J g t D σ H1):Aka wi g t D σ H:=h
theorem Agc {R:It->Hp->Prop}(h:tA σ H λvs H1=>∃j:Int,vs=[.int j]/\-(2 ^ 62)<=j/\j<2 ^ 62/\R (Itr 0 j.toNat) H1):Afu tA σ H R:=h
theorem Af3 {R:It->Hp->Prop}(h:tA σ H λvs H1=>∃i j:Int,vs=[.int i,.int j]/\(-(2 ^ 62)<=i/\i<2 ^ 62/\-(2 ^ 62)<=j/\j<2 ^ 62)/\R (Itr i (j-i).toNat) H1):Afb tA σ H R:=h
theorem Adw {K:e7}{R:It->Hp->Prop}(h:te σ H λx H1=>∃a,x=.ref a/\(∃xs,SqL K H1 a xs)/\R (Itl K a) H1):Afv K te σ H R:=h
theorem Aha {K:e7}{R:It->Hp->Prop}(h:te σ H λx H1=>∃a,x=.ref a/\(∃xs,SqT K H1 a xs)/\R (Itt K a) H1):Af1 K te σ H R:=h
theorem Ald {tc:TT}(h:wi σ H λJ H1=>K3 J H1 (frV σ ix) tc te Q):tLc wi ix tc te σ H Q:=h
theorem Cm {K:e7}{p:fe}{i:Int}{v:V}(hs:SqL K H p xs)(e:atI xs i=en v)(h:Q v H):Ag0 K (.ref p) (.int i) H Q:=⟨p,xs,i,v,rfl,rfl,hs,e,h⟩
theorem Cc {K:e7}{p:fe}{i:Int}{v:V}(hs:SqT K H p xs)(e:atI xs i=en v)(h:Q v H):Aef K (.ref p) (.int i) H Q:=⟨p,xs,i,v,rfl,rfl,hs,e,h⟩
theorem Bm {l:fe}(hl:H l=en (.lst xs))(hz:xs.9<sizeLine)(h:Q .non (upd H l (.lst (xs++[y])))):sO (.ref l) [y] H Q:=⟨l,xs,y,rfl,rfl,hl,hz,h⟩
end
theorem Fp {c:TT}{tb:TS}{D:Io}{σ:St}(Pv:St->Hp->Prop)(μ:St->Hp->Nat)(h0:Pv σ H)
  (hs:∀m σ H,Pv σ H->μ σ H=m->c σ H λb H1=>if b=NG then ∃N:St->Hp->Prop,(∀QM H',N QM H'->∃m',m'<m/\(Pv QM H'/\μ QM H'=m'))/\tb { D with nx:=N,ct:=N,bk:=D.nx } σ H1 else D.nx σ H1):Ab6 c tb D σ H:=
 {λm σ H=>Pv σ H/\μ σ H=m,{_,h0,rfl},λm σ H h=>hs m σ H h.1 h.2}
theorem Kv {tb:TS}{rt:VK}{bk:St->Hp->Prop}{σ:St}{Pv:St->Hp->Prop}{μ:St->Hp->Nat}{m:Nat}
  (h:tb { nx:=λQM H'=>Pv QM H'/\μ QM H'<m,rt:=rt,bk:=bk,ct:=λQM H'=>Pv QM H'/\μ QM H'<m } σ H1) :
  ∃N:St->Hp->Prop,(∀QM H',N QM H'->∃m',m'<m/\(Pv QM H'/\μ QM H'=m'))/\tb { nx:=N,rt:=rt,bk:=bk,ct:=N } σ H1:={_,λQM H' z=>{_,z.2,z.1,rfl},h}
section
variable {H:Hp} {Q:VK} {g:Int->Int->V} {i j:Int}
theorem jM (c:0<j)(h:Q (g i j) H):rI (λ_ j=>0<j) g (.int i) (.int j) H Q:=⟨i,j,rfl,rfl,c,h⟩
theorem tN (c:0<=j)(h:Q (g i j) H):rI (λ_ j=>0<=j) g (.int i) (.int j) H Q:=⟨i,j,rfl,rfl,c,h⟩
theorem Ajv (c1:0<j)(c2:j<1073741824)(h:Q (g i j) H):rI Aij g (.int i) (.int j) H Q:={i,j,rfl,rfl,⟨c1,c2⟩,h}
theorem Xp (c1:-(2 ^ 64)<j)(c2:j<2 ^ 64)(h:Q (g i j) H):rI yA g (.int i) (.int j) H Q:={i,j,rfl,rfl,.inr ⟨c1,c2⟩,h}
theorem zH (c1:-(2 ^ 64)<i)(c2:i<2 ^ 64)(h:Q (g i j) H):rI yA g (.int i) (.int j) H Q:={i,j,rfl,rfl,.inl ⟨c1,c2⟩,h}
end
theorem Bq {c A B:Prop}[Decidable c](h1:c->A)(h2:¬ c->B):if decide c=NG then A else B:=by
 by_cases h:c
 .rw[decide_eq_true h,if_pos rfl]
  exact h1 h
 .rw[decide_eq_false h,if_neg ik]
  exact h2 h
theorem Oy {c A B:Prop}[Decidable c](h1:¬ c->A)(h2:c->B):if(!decide c)=NG then A else B:=by
 by_cases h:c
 .rw[decide_eq_true h,if_neg (by decide)]
  exact h2 h
 .rw[decide_eq_false h,if_pos (by decide)]
  exact h1 h
def Akn (c:TT)(t u:TS):TS:=λD σ H=>∃J:St->Hp->Prop,(∀σ H,J σ H->D.nx σ H)/\c σ H λb H1=>if b=NG then t { D with nx:=J } σ H1 else u { D with nx:=J } σ H1
theorem Rs {c:ja}{a b:List i7}{tc:TT}{t u:TS}(hc:PT X c tc)(ha:PSs X a t)(hb:PSs X b u):PS X (.If c a b pos) (Akn tc t u):=by
 k_end;obtain⟨J,hJ,h⟩:=h;refine thn (Bl hc ha hb pins s σ H { D with nx:=J } I h) λf s' q=>?_
 cases f with
 |next=>
  obtain⟨QM,H',I',q'⟩:=q;exact{QM,H',I',hJ _ _ q'}
 |brk=>exact q
 |cont=>exact q
 |ret u=>exact q
theorem Y9 {c:TT}{t u:TS}{D:Io}{σ:St}(J:St->Hp->Prop)(h:c σ H λb H1=>if b=NG then t { D with nx:=J } σ H1 else u { D with nx:=J } σ H1)(hJ:∀σ H,J σ H->D.nx σ H):Akn c t u D σ H:=⟨J,hJ,h⟩
theorem rR {α:Type}{xs:List α}{i:Int}{v:α}(h0:0<=i)(h:xs[i.toNat]?=en v):atI xs i=en v:=by
 have:=Bi (xs:=xs) (j:=i.toNat) h
 rwa [uh h0] at this
def zW (lo st:Int)(n:Nat):It:={λi _=>i<n,λi H x H'=>H'=H/\x=.int (lo+i*st),λi _=>n<=i}
def Cr (lo hi st:Int):Nat:=((hi-lo+st-1)/st).toNat
theorem oA {P:gm}{K:e7}(it:fe)(lo dt:Int)(n:Nat):Su P w K tg (zW lo dt n) [it] it (λi h=>BU h it (lo+(i:Nat)*dt) ((n:Int)-(i:Nat)) dt) where
 mem:=by simp
 obj:=λi h st b hb=>by
  have e:b=it:=by simpa using hb
  subst e;exact⟨_,st,λv z=>by
   have z':DZ _=LQ v:=z;cases z'⟩
 keep:=λi h h' st k=>k it (by simp) _ st
 item:=by
  intro X hP hw hK hc i pins s σ H E I hf st hg;subst hP hw hK;obtain⟨f0,f1,f2,f3,f4,f5⟩:=hf it (by simp);have W:=HS (prog:=X.prog) (w:=X.w) (I.ok.hd hc) it lo dt n;refine W.item i s _ _ hg st λv h' tk hv st' kk=>?_;obtain⟨t,rfl⟩:=hv;have I1:Inv X pins σ H { s with heap:=h',toks:=tk }:=I.turned (λb o hb e=>kk b o (by simpa using hb) e) f0 f1 f3 f4 f5;exact⟨_,rfl,Yz (s:={ s with heap:=h',toks:=tk }) (n:="range_iterator") st' rfl rfl (by decide) ⟨.int _,H,I1,⟨t,rfl⟩,⟨rfl,rfl⟩,st',λb hb=>(hf b hb).1⟩⟩
 done:=by
  intro X hP hw hK hc i pins s σ H E I hf st hg;subst hP hw hK;obtain⟨f0,f1,f2,f3,f4,f5⟩:=hf it (by simp);exact EV (I.ok.hd hc) st (by have:n<=i:=hg;lia) λh' eb=>{rfl,I.turned (t':=s.toks) (λb o hb e=>eb b o hb e) f0 f1 f3 f4 f5}
 self:=λ_ _ _ _ _ st h=>EX st h
theorem Xu {lo hi st:Int}(h:0<st):lq lo hi st=(Cr lo hi st:Int):=by
 unfold lq Cr;rw[if_pos h]
 by_cases hl:lo<hi
 .rw[if_pos hl]
  have e:(hi-lo+st-1)/st=(hi-lo-1)/st+1:=by
   rw[show hi-lo+st-1=(hi-lo-1)+st*1 by lia,Int.add_mul_ediv_left _ _ ()]
  rw[e];have:0<=(hi-lo-1)/st:=Int.ediv_nonneg () ();exact(uh (Int.add_nonneg this (by decide))).symm
 .rw[if_neg hl]
  have:(hi-lo+st-1)/st<=0:=by
   have:=Int.ediv_le_ediv h (show hi-lo+st-1<=st-1 by lia);rw[Int.ediv_eq_zero_of_lt (show 0<=st-1 by lia) ()] at this;exact this
  lia
theorem kN {lo hi st:Int}(h:0<st)(h1:-(2 ^ 61)<=lo)(h2:lo<2 ^ 61)(h3:-(2 ^ 61)<=hi)(h4:hi<2 ^ 61)(h5:st<2 ^ 61):qy lo hi st=NG:=by
 unfold qy;rw[Xu h];have hb:(Cr lo hi st:Int)*st<=hi-lo+st-1\/(Cr lo hi st:Int)=0:=by
  unfold Cr
  by_cases hz:0<=(hi-lo+st-1)/st
  .left
   rw[uh hz];exact Int.ediv_mul_le _ ()
  .right
   lia
 have hn:(Cr lo hi st:Int)<=(Cr lo hi st:Int)*st:=by
  have:=Int.mul_le_mul_of_nonneg_left (show(1:Int)<=st by lia) (lh (Cr lo hi st));lia
 have hmul:lo+(Cr lo hi st:Int)*st<2 ^ 63/\-(2 ^ 63)<=lo+(Cr lo hi st:Int)*st:=by
  have h0:0<=(Cr lo hi st:Int)*st:=Int.mul_nonneg (lh _) ();rcases hb with hb|hb
  .lia
  .rw[hb] at h0 ⊢
   lia
 have h0:0<=(Cr lo hi st:Int):=lh _;have hs:(Cr lo hi st:Int)<2 ^ 63:=by
  rcases hb with hb|hb
  .lia
  .lia
 rw[if_pos h];simp only[yf,ka,GP,decide_eq_true_eq,beq_iff_eq];refine{{{{?_,?_},?_},?_},.inr ?_}<;>lia
section
variable {X:Cx} {tg:ja}
def Afd (ta:TA):TI:=λσ H R=>ta σ H λvs H1=>∃i j k:Int,vs=[.int i,.int j,.int k]/\(-(2 ^ 40)<=i/\i<2 ^ 40/\-(2 ^ 40)<=j/\j<2 ^ 40/\0<k/\k<2 ^ 29)/\R (zW i k (Cr i j k)) H1
theorem Ro {a b c:ja}{ta:TA}{p:Pos}(hg:Gl X "range")(hm:X.mg "range"=p9)(ha:PA X [a,b,c] ta)(hs:autoParam (starEach [a,b,c] X.env=[(NH,eval a X.env),(NH,eval b X.env),(NH,eval c X.env)]) QD)
  (hs2:autoParam (starEach [b,c] X.env=[(NH,eval b X.env),(NH,eval c X.env)]) QD):PI X tg (.Call (.Name "range" p) [a,b,c] [] pos) (Afd ta):=by
 intro pins s σ H R I h;refine Call_ (Dv I hg hm boot_range (ir (thA ha I h λus s1 vs H1 I1 r1 q1=>?_) (by rw[hs,hs2]) (by rw[hs2];rfl)));obtain⟨i,j,k,e,⟨q1,q2,q3,q4,q5,q6⟩,q⟩:=q1;subst e
 cases r1 with
 |cons r rr=>
  cases rr with
  |cons r' rr=>
   cases rr with
   |cons r'' rr=>
    cases rr;obtain⟨t,rfl⟩:=r;obtain⟨t',rfl⟩:=r';obtain⟨t'',rfl⟩:=r'';refine MV () ?_ (.inl (vi ()));refine HC (CJ ..) (kN q5 () () () () ()) ?_;have I2:Inv X pins σ H1 { s1 with heap:=s1.heap.push { cls:=.type "range",data:=.fields #[.int i t,.int j t',.int k t''] },toks:=s1.toks }:=I1.kept λb o e=>fj _ e;refine{_,[_],_,_,H1,rfl,I2.kept (t':=s1.toks) λb o e=>fj _ e,oA _ i k (Cr i j k),?_,λb hb=>?_,q}
    .have e1:i+((0:Nat):Int)*k=i:=by simp
     have e2:((Cr i j k:Nat):Int)-((0:Nat):Int)=lq i j k:=by rw[Xu q5];simp
     show BU _ _ (i+((0:Nat):Int)*k) (((Cr i j k:Nat):Int)-((0:Nat):Int)) k;rw[e1,e2];exact gu _ rfl
    .have e:=j0.mp hb
     subst e;exact I2.fpOk (fm _) (I2.hok.fresh (fm _))
end
theorem jS {lo st:Int}{n:Nat}{tc:TT}{Q:VK}(acc:Nat->List V)(h0:acc 0=[])(hz:∀i,i<n->(acc i).9<sizeLine)
  (turn:∀(i:Nat) H (R:Hp->Prop) (A:VK),i<n->Ag H1 H->(acc (i+1)=acc i->∀H',Ag H H'->R H')->(∀y H',acc (i+1)=acc i++[y]->Ag H H'->A y H') ->
   tc (en (.int (lo+i*st))::fr) H λb H3=>if b=NG then te (en (.int (lo+i*st))::fr) H3 A else R H3)
  (fin:∀D H,H1 D=p9->Ag H1 H->H D=en (.lst (acc n))->Q (.ref D) H):K3 (zW lo st n) H1 fr tc te Q:=
 Og n (λi=>.int (lo+i*st)) acc h0 hz (λi H hi _=>hi) (λi H x H' _ _ h=>⟨h.2,h.1⟩) (λH _=>fm n) turn fin
def Its (z:Str):It:={λi _=>i<z.cps.8,λi H x H'=>H'=H/\∃c,z.cps[i]?=en c/\x=.str (sgn c),λi _=>z.cps.8<=i}
section
variable {X:Cx} {tg:ja}
def Ajw (tl:TE):TI:=λσ H R=>tl σ H λx H1=>∃z,x=.str z/\R (Its z) H1
theorem zT {P:gm}{K:e7}{ty:String}{t:Tok}(hty:ty="str_ascii_iterator"\/ty="str_iterator")
  (W:∀A':jd,A'.handled=p9->Walks P w A' it [it] [it] z.cps.8 (SignAt z) (λi h=>h.IsStrIter it ty z t i))
  (hself:∀(A:jd) (i:Nat) (s:gb) (Q:Za0) (E:Za0),s.heap.IsStrIter it ty z t i->Q (.ref it) s->wpAny (model P w) A (pyIter (.ref it)) Q E s):Su P w K tg (Its z) [it] it (λi h=>h.IsStrIter it ty z t i) where
 mem:=by simp
 obj:=λi h st b hb=>by
  have e:b=it:=by simpa using hb
  subst e;obtain⟨o,e,c,d⟩:=st;exact{o,e,λv z=>by rw[d] at z;cases z}
 keep:=λi h h' st k=>let ⟨o,ho,r⟩:=st;{o,k it (by simp) o ho,r}
 item:=by
  intro X hP hw hK hc i pins s σ H E I hf st hg;subst hP hw hK;obtain⟨f0,f1,f2,f3,f4,f5⟩:=hf it (by simp);refine(W X.A (I.ok.hd hc)).item i s _ _ hg st λv h' tk hv st' kk=>?_;obtain⟨c,u,hc',rfl⟩:=hv;have I1:Inv X pins σ H { s with heap:=h',toks:=tk }:=I.turned (λb o hb e=>kk b o (by simpa using hb) e) f0 f1 f3 f4 f5;obtain⟨o,e,cc,d⟩:=id st';exact⟨_,rfl,Yz (s:={ s with heap:=h',toks:=tk }) e cc d (by rcases hty with rfl|rfl<;>decide) ⟨.str (sgn c),H,I1,⟨u,rfl⟩,⟨rfl,c,hc',rfl⟩,st',λb hb=>(hf b hb).1⟩⟩
 done:=by
  intro X hP hw hK hc i pins s σ H E I hf st hg;subst hP hw hK;obtain⟨f0,f1,f2,f3,f4,f5⟩:=hf it (by simp);rcases hty with rfl|rfl
  .exact wpAny_pyNext_ascii_end (I.ok.hd hc) st (l6 hg) λh' eb=>{rfl,I.turned (t':=s.toks) (λb o hb e=>eb b o hb e) f0 f1 f3 f4 f5}
  .exact wpAny_pyNext_wide_end (I.ok.hd hc) st (l6 hg) λh' eb=>{rfl,I.turned (t':=s.toks) (λb o hb e=>eb b o hb e) f0 f1 f3 f4 f5}
 self:=λA i s Q E st h=>hself A i s Q E st h
theorem gG {l:ja}{tl:TE}(hl:PE X l tl):PI X tg l (Ajw tl):=by
 intro pins s σ H R I h;refine thE hl I h λv s1 x H1 I1 r1 q1=>?_;obtain⟨z,e,q⟩:=q1;subst e;obtain⟨t,rfl⟩:=r1;have fin:∀(o:Obj) (ty:String),(ty="str_ascii_iterator"\/ty="str_iterator")->(∀A':jd,A'.handled=p9->Walks X.prog X.w A' s1.heap.objs.8 [s1.heap.objs.8] [s1.heap.objs.8] z.cps.8 (SignAt z) (λi h=>h.IsStrIter s1.heap.objs.8 ty z t i)) ->
   (∀(A:jd) (i:Nat) (s:gb) (Q:Za0) (E:Za0),s.heap.IsStrIter s1.heap.objs.8 ty z t i->Q (.ref s1.heap.objs.8) s->wpAny (model X.prog X.w) A (pyIter (.ref s1.heap.objs.8)) Q E s) ->
   (s1.heap.push o).IsStrIter s1.heap.objs.8 ty z t 0->PIE X pins σ tg R (.ref s1.heap.objs.8) { s1 with heap:=s1.heap.push o }:=λo ty hty W hs h0=>by
  refine{s1.heap.objs.8,[s1.heap.objs.8],_,_,H1,rfl,I1.kept (t':=s1.toks) λb o e=>fj _ e,zT hty W hs,h0,λb hb=>?_,q};have e:b=s1.heap.objs.8:=by simpa using hb
  subst e;exact I1.fpOk (fm _) (I1.hok.fresh (fm _))
 cases ha:z.cps.all (· < 128)
 .exact wpAny_pyIter_wide ha (fin _ _ (.inr rfl) (λA' hA=>Walks.strWide hA _ z t) (λA i s Q E st h=>wpAny_pyIter_striter_wide st h) {_,gu _ rfl,rfl,rfl})
 .exact wpAny_pyIter_ascii ha (fin _ _ (.inl rfl) (λA' hA=>Walks.strAscii hA _ z t) (λA i s Q E st h=>wpAny_pyIter_striter_ascii st h) {_,gu _ rfl,rfl,rfl})
end
theorem Ahb {tl:TE}{σ:St}{R:It->Hp->Prop}(h:tl σ H λx H1=>∃z,x=.str z/\R (Its z) H1):Ajw tl σ H R:=h
theorem Ah3 {tA:TA}{σ:St}{R:It->Hp->Prop}(h:tA σ H λvs H1=>∃i j k:Int,vs=[.int i,.int j,.int k]/\(-(2 ^ 40)<=i/\i<2 ^ 40/\-(2 ^ 40)<=j/\j<2 ^ 40/\0<k/\k<2 ^ 29)/\R (zW i k (Cr i j k)) H1):Afd tA σ H R:=h
theorem Acs {tc:TT}{Q:VK}(acc:Nat->List V)(h0:acc 0=[])(hz:∀i,i<z.cps.8->(acc i).9<sizeLine)
  (turn:∀(i:Nat) c H (R:Hp->Prop) (A:VK),z.cps[i]?=en c->Ag H1 H->(acc (i+1)=acc i->∀H',Ag H H'->R H')->(∀y H',acc (i+1)=acc i++[y]->Ag H H'->A y H') ->
   tc (en (.str (sgn c))::fr) H λb H3=>if b=NG then te (en (.str (sgn c))::fr) H3 A else R H3)
  (fin:∀D H,H1 D=p9->Ag H1 H->H D=en (.lst (acc z.cps.8))->Q (.ref D) H):K3 (Its z) H1 fr tc te Q:=by
 refine Og z.cps.8 (λi=>.str (sgn (z.cps.getD i 0))) acc h0 hz (λi H hi _=>hi) (λi H x H' hi _ h=>{?_,h.1}) (λH _=>fm _) (λi H R A hi sm=>turn i _ H R A (by simp[hi]) sm) fin;obtain⟨_,c,hc,rfl⟩:=h;simp[Array.getD,hi] at hc ⊢;rw[hc]
def Pa (z:Str)(lo hi:Option Int):Str:={((z.cps.toList.drop (_T.sIx z.cps.8 0 lo)).take (_T.sIx z.cps.8 z.cps.8 hi-_T.sIx z.cps.8 0 lo)).6}
def Akm:V->Option Int->Option Int->Hp->VK->Prop:=λx lo hi H Q=>∃z,x=.str z/\z.9<=sizeLine/\Q (.str (Pa z lo hi)) H
theorem Ai1 (lo hi:Option Int)(n:Nat):lr lo hi 1 n=(ft (_T.sIx n n hi-_T.sIx n 0 lo)).map (_T.sIx n 0 lo + ·):=by
 have e:lr lo hi 1 n=sliceRange ((_T.sIx n 0 lo:Nat):Int) ((_T.sIx n n hi:Nat):Int) 1:=by
  unfold lr;dsimp only;congr 1
  .cases lo with
   |none=>simp[_T.sIx]
   |some i=>
    simp only[_T.sIx,show(1:Int)>0 by decide,if_true]
    by_cases h:i<0
    .simp only[h,if_true]
     lia
    .simp only[h,if_false]
     lia
  .cases hi with
   |none=>simp[_T.sIx]
   |some i=>
    simp only[_T.sIx,show(1:Int)>0 by decide,if_true]
    by_cases h:i<0
    .simp only[h,if_true]
     lia
    .simp only[h,if_false]
     lia
 rw[e,LG]
theorem Aau (z:Str)(t:Tok)(l u:Option (Int×Tok)):(sliceMade z t l u p9=.val (.str z t)/\Pa z (l.map (·.1)) (u.map (·.1))=z)\/sliceMade z t l u p9=.str (Pa z (l.map (·.1)) (u.map (·.1))):=by
 have hp:slicePicked z l u p9=(ft (_T.sIx z.9 z.9 (u.map (·.1))-_T.sIx z.9 0 (l.map (·.1)))).map (_T.sIx z.9 0 (l.map (·.1)) + ·):=Ai1 _ _ _;have hc:(slicePicked z l u p9).filterMap (z.cps[·]?)=(Pa z (l.map (·.1)) (u.map (·.1))).cps.toList:=by
  rw[hp,LJ];rfl
 unfold sliceMade;split
 .rename_i hw
  left
  refine{rfl,Hf ?_};have hlen:(slicePicked z l u p9).9=z.9:=by simpa using hw
  rw[hp,fb,fv] at hlen;have h1:=_T.sIx_le z.9 0 (ij _) (l.map (·.1));have h2:=_T.sIx_le z.9 z.9 (fm _) (u.map (·.1));have e1:_T.sIx z.9 0 (l.map (·.1))=0\/z.9=0:=()
  show((z.cps.toList.drop (_T.sIx z.cps.8 0 (l.map (·.1)))).take _).toArray.toList=_;rw[show z.cps.8=z.9 from rfl] at *;rcases e1 with e1|e1
  .rw[e1,uj] at hlen
   rw[e1,hlen,uj,xq,lj];exact gp (by simp[wl])
  .have:z.cps.7=[]:=by
    have:z.cps.8=0:=e1
    simpa using this
   rw[this];simp
 .right
  rw[hc]
section
variable {X:Cx}
theorem Py:SlR X Akm:=by
 intro pins s σ H x v vl vu lo hi sl Q I rx hs pl pu h;obtain⟨z,rfl,hz,q⟩:=h;obtain⟨t,rfl⟩:=rx;refine{"str",_,AH.lookup,DD _ _ _,?_};obtain⟨l,el,el'⟩:∃l:Option (Int×Tok),vl=partValue l/\lo=l.map (·.1):=by
  cases pl with
  |none=>exact⟨p9,rfl,rfl⟩
  |int i t=>exact{en (i,t),rfl,rfl}
 obtain⟨u,eu,eu'⟩:∃u:Option (Int×Tok),vu=partValue u/\hi=u.map (·.1):=by
  cases pu with
  |none=>exact⟨p9,rfl,rfl⟩
  |int i t=>exact{en (i,t),rfl,rfl}
 subst el el' eu eu';refine EM (l:=l) (u:=u) (st:=p9) hs rfl ?_;rcases Aau z t l u with⟨e,e2⟩|e
 .rw[e]
  rw[e2] at q;exact{.str z,H,I,⟨t,rfl⟩,q}
 .rw[e]
  refine{?_,.str _,H,I.tok _,{_,rfl},q};refine iy ?_ hz;show(ul _ (um _ z.cps.7)).toArray.size<=z.cps.8;rw[gj,gq,jb];simp;lia
def X6 (z:Str):Str:=⟨z.cps.toList.reverse.6⟩
def Akj (te:TE):TE:=λσ H Q=>te σ H λx H1=>∃z,x=.str z/\z.9<=sizeLine/\Q (.str (X6 z)) H1
end
theorem zD:bootBuiltins "zip"=en (.type "zip"):=by decide +kernel
theorem Sn:bootBuiltins "enumerate"=en (.type "enumerate"):=by decide +kernel
theorem Inv.turnT {σ:List (Option V)}{wr:List fe}{T:fe}(I:Inv X pins σ H s)
  (k:∀b o,b∉wr->s.heap.get? b=en o->h'.get? b=en o)(hf:∀b∈wr,Uv X pins H b)(hT:s.heap.objs.8<=T)(hI:h'.IsTuple T us.6)(rv:Az xs us)(hz:xs.9<=sizeLine) :
  Inv X pins σ (upd H T (.tup xs)) { s with heap:=h',toks:=t' }:=by
 have hn:H T=p9:=I.hok.fresh hT;have nT:∀b u,H b=en u->b≠T:=λb u e=>An e hn;have nW:∀b u,H b=en u->b∉wr:=λb u e z=>by rw[(hf b z).1] at e;cases e
 refine I.step (g':=s.gens) (d':=s.drawn) (ch:=wr) (λb hb=>?_) (λb o _ _ hc e _=>k b o hc e) (λb o _ _ hc e _=>{o.slots,k b o hc e}) (λb o hc e n=>?_)
  (λb o hc e=>{o,k b o hc e}) (λb xs e=>by rw[Aj (nT _ _ e)];exact e) (λb o u e=>by rw[Aj (nT _ _ e)];exact e) (λb ps e=>{#[],by rw[Aj (nT _ _ e),e];simp}) (λm hm=>?_) (λb u e=>?_) I.bare
 .obtain⟨_,f1,_,f3,f4,f5⟩:=hf b hb
  exact⟨f3,f1,f4,f5⟩
 .rw[Aj (io (gh (gi e) hT))]
  exact n
 .obtain⟨o,es,ep,ho,r⟩:=hm
  exact{o,es,ep,k _ o (λz=>(hf _ z).2.1 rfl) ho,r}
 .by_cases hb:b=T
  .subst hb
   rw[Ae] at e;cases e;exact⟨hz,us,rv,hI⟩
  .rw[Aj hb] at e
   refine(I.hok b u e).stay (λc v hc q=>k c v ?_ q) (λc q=>by rw[Aj (nT _ _ q)];exact q) λc ys q=>by rw[Aj (nT _ _ q)];exact q
   rcases hc with z|z
   .rw[z];exact nW b u e
   .exact nW c _ z
theorem Inv.turnW {σ:List (Option V)}{wr:List fe}(I:Inv X pins σ H s)
  (k:∀b o,b∉wr->s.heap.get? b=en o->h'.get? b=en o)(hf:∀b∈wr,Uv X pins H b):Inv X pins σ H { s with heap:=h',toks:=t' }:=by
 have nW:∀b u,H b=en u->b∉wr:=λb u e z=>by rw[(hf b z).1] at e;cases e
 refine I.step (g':=s.gens) (d':=s.drawn) (ch:=wr) (λb hb=>?_) (λb o _ _ hc e _=>k b o hc e) (λb o _ _ hc e _=>{o.slots,k b o hc e}) (λb o hc e n=>n)
  (λb o hc e=>{o,k b o hc e}) (λ_ _ e=>e) (λ_ _ _ e=>e) (λb ps e=>{#[],by rw[e];simp}) (λm hm=>?_) (λb u e=>?_) I.bare
 .obtain⟨_,f1,_,f3,f4,f5⟩:=hf b hb
  exact⟨f3,f1,f4,f5⟩
 .obtain⟨o,es,ep,ho,r⟩:=hm
  exact{o,es,ep,k _ o (λz=>(hf _ z).2.1 rfl) ho,r}
 .refine(I.hok b u e).stay (λc v hc q=>k c v ?_ q) (λ_ q=>q) λ_ _ q=>q
  rcases hc with z|z
  .rw[z];exact nW b u e
  .exact nW c _ z
theorem G1 {h:i8}{a b:fe}{o u:Obj}(h1:h.get? a=en o)(h2:h.get? b=en u)(d:o.cls≠u.cls):a≠b:=λe=>by
 subst e;rw[h1] at h2;cases h2;exact d rfl
def Itz (K:e7)(a b:fe):It:=
 ⟨λi H=>∃xs ys x y,SqL K H a xs/\SqL K H b ys/\xs[i]?=en x/\ys[i]?=en y,
  λi H v H'=>∃t x y,H t=p9/\v=.ref t/\(∀xs,SqL K H a xs->xs[i]?=en x)/\(∀ys,SqL K H b ys->ys[i]?=en y)/\H'=upd H t (.tup [x,y]),
  λi H=>∃xs ys,SqL K H a xs/\SqL K H b ys/\i=min xs.9 ys.9⟩
def StZ (z TI TO i1 i2 l1 l2:fe)(i:Nat)(h:i8):Prop:=IG h z TI TO .none/\ol h TI (.ref i1) (.ref i2)/\(∃a b,ol h TO a b)/\h.IsListIter i1 l1 i/\h.IsListIter i2 l2 i
structure qF (z TI TO i1 i2:fe):Prop where
 TIz:TI≠z
 TOz:TO≠z
 i1z:i1≠z
 i2z:i2≠z
 TITO:TI≠TO
 TIi1:TI≠i1
 TIi2:TI≠i2
 TOi1:TO≠i1
 TOi2:TO≠i2
 i12:i1≠i2
theorem gK {h:i8}{z TI TO a b:fe}{i:Nat}{xs ys:Array fu}(D:qF z TI TO i1 i2)(st:StZ z TI TO i1 i2 a b i h)(ha:h.IsList a xs)(hb:h.IsList b ys):y0 z TI TO i1 i2 a b:=by
 obtain⟨hz,hTI,⟨u,v,hTO⟩,⟨o1,e1,c1,_⟩,⟨o2,e2,c2,_⟩⟩:=st;obtain⟨oa,ea,ca,_⟩:=ha;obtain⟨ob,eb,cb,_⟩:=hb;refine{D.TIz,D.TOz,D.i1z,D.i2z,D.TITO,D.TIi1,D.TIi2,D.TOi1,D.TOi2,D.i12,G1 ea hz ?_,G1 ea hTO ?_,G1 ea e1 ?_,G1 ea e2 ?_,G1 eb hz ?_,G1 eb hTO ?_,G1 eb e1 ?_,G1 eb e2 ?_}
 .rw[ca];exact show kr "list"≠kr "zip" by decide
 .rw[ca];exact show kr "list"≠kr "tuple" by decide
 .rw[ca,c1];decide
 .rw[ca,c2];decide
 .rw[cb];exact show kr "list"≠kr "zip" by decide
 .rw[cb];exact show kr "list"≠kr "tuple" by decide
 .rw[cb,c1];decide
 .rw[cb,c2];decide
theorem No (n:Nat):qF (n+4) (n+2) (n+3) n (n+1):=by
 constructor<;>(intro h;have h:(_:Nat)=_:=h;lia)
theorem Akc {n c:Nat}(h:c=n+4\/c=n+2\/c=n+3\/c=n\/c=n+1):n<=c:=()
theorem Afk {n c:Nat}(h:c=n+1\/c=n):n<=c:=()
theorem Ae0 (n:Nat):n+1≠n:=()
theorem Aby {P:gm}{K:e7}{elts:List ja}{k:Nat}(z TI TO i1 i2 a b:fe)(D:qF z TI TO i1 i2) :
  Su P w K (.Tuple elts k pos) (Itz K a b) [z,TI,TO,i1,i2] z (StZ z TI TO i1 i2 a b) where
 mem:=by simp
 obj:=λi h st c hc=>by
  obtain⟨hz,hTI,⟨u,v,hTO⟩,⟨o1,e1,c1,d1⟩,⟨o2,e2,c2,d2⟩⟩:=st;simp only[i5,kq,or_false] at hc;rcases hc with rfl|rfl|rfl|rfl|rfl
  .exact{_,hz,λv z=>by cases z}
  .exact{_,hTI,λv z=>by cases z}
  .exact{_,hTO,λv z=>by cases z}
  .exact{_,e1,λv z=>by rw[d1] at z;cases z}
  .exact{_,e2,λv z=>by rw[d2] at z;cases z}
 keep:=λi h h' st kk=>by
  obtain⟨hz,hTI,⟨u,v,hTO⟩,h1,h2⟩:=st;exact{kk _ (by simp) _ hz,kk _ (by simp) _ hTI,{u,v,kk _ (by simp) _ hTO},h1.at λo e=>kk _ (by simp) o e,h2.at λo e=>kk _ (by simp) o e}
 item:=by
  intro X hP hw hK hc i pins s σ H E I hf st hg;subst hP hw hK;obtain⟨xs,ys,x,y,ha,hb,hx,hy⟩:=hg;obtain⟨its,rv,p,hz⟩:=I.list ha;obtain⟨its2,rv2,p2,hz2⟩:=I.list hb;have W:=HI (prog:=X.prog) (w:=X.w) (A:=X.A) (I.ok.hd hc) z TI TO i1 i2 a b (gK D st p.isList p2.isList) its.6 its2.6;obtain⟨u1,hu1,ru1⟩:=rv.get hx;obtain⟨u2,hu2,ru2⟩:=rv2.get hy;have l1:=(gg.mp hu1).1;have l2:=(gg.mp hu2).1;obtain⟨s1,s2,s3,s4,s5⟩:=id st;refine W.item i s _ _ (by simp;lia) ⟨s1,s2,s3,s4,s5,p.isList,p2.isList⟩ λT vals h' tk hv hT hTu mid kk=>?_;obtain⟨v1,v2,e1,e2,rfl⟩:=hv;have e1:v1=u1:=by have:=e1;simp only[xf] at this;rw[hu1] at this;exact(fk this).symm
  have e2:v2=u2:=by have:=e2;simp only[xf] at this;rw[hu2] at this;exact(fk this).symm
  subst e1 e2;have nT:=W.apart i T h' mid;refine⟨.ref T,rfl,W.go elts k pos i T { s with heap:=h',toks:=tk } _ _ mid λh'' st'' kk2=>?_⟩;have hTu2:h''.IsTuple T ([v1,v2]:Za3).6:=by
   obtain⟨o,e,r⟩:=hTu;exact{o,kk2 T o nT e,r}
  have I2:Inv X pins σ (upd H T (.tup [x,y])) { s with heap:=h'',toks:=tk }:=I.turnT (t':=tk) (λb o hb e=>kk2 b o hb (kk b o hb e)) (λb hb=>hf b (by simp at hb ⊢;rcases hb with rfl|rfl|rfl|rfl<;>simp)) hT hTu2 (.cons ru1 (.cons ru2 .nil)) (show 2<=sizeLine by decide)
  refine{.ref T,_,I2,rfl,{T,x,y,I.hok.fresh hT,rfl,λxs' h=>by rw[I.list_inj h ha];exact hx,λys' h=>by rw[I.list_inj h hb];exact hy,rfl},⟨st''.1,st''.2.1,st''.2.2.1,st''.2.2.2.1,st''.2.2.2.2.1⟩,λc hc'=>?_};have hlt:c<s.heap.objs.8:=by
   obtain⟨q,⟨t1,t2,t3⟩⟩:c∈[z,TI,TO,i1,i2]/\(IG s.5 z TI TO .none/\ol s.5 TI (.ref i1) (.ref i2)/\True):=⟨hc',s1,s2,trivial⟩;obtain⟨u,v,s3⟩:=s3;obtain⟨o4,s4,_⟩:=s4;obtain⟨o5,s5,_⟩:=s5;simp only[i5,kq,or_false] at hc';rcases hc' with rfl|rfl|rfl|rfl|rfl
   .exact gi s1
   .exact gi s2
   .exact gi s3
   .exact gi s4
   .exact gi s5
  rw[Aj (io (gh hlt hT))];exact(hf c hc').1
 done:=by
  intro X hP hw hK hc i pins s σ H E I hf st hg;subst hP hw hK;obtain⟨xs,ys,ha,hb,hi⟩:=hg;obtain⟨its,rv,p,hz⟩:=I.list ha;obtain⟨its2,rv2,p2,hz2⟩:=I.list hb;have W:=HI (prog:=X.prog) (w:=X.w) (A:=X.A) (I.ok.hd hc) z TI TO i1 i2 a b (gK D st p.isList p2.isList) its.6 its2.6;have hl:=rv.9;have hl2:=rv2.9;have hi2:i=min its.toArray.8 its2.toArray.8:=by rw[hi,hl,hl2];simp
  obtain⟨s1,s2,s3,s4,s5⟩:=id st;refine W.done s _ _ (by rw[<-hi2];exact⟨s1,s2,s3,s4,s5,p.isList,p2.isList⟩) λh' tk kk=>{rfl,?_};exact I.turnW (t':=tk) kk λb hb=>hf b (by simp at hb ⊢;rcases hb with rfl|rfl|rfl|rfl<;>simp)
 self:=λ_ _ _ _ _ st h=>xg st.1 h
section
variable {X:Cx} {elts:List ja} {k:Nat} {tpos:Pos}
def Aiu (K:e7)(ta:TA):TI:=λσ H R=>ta σ H λvs H1=>∃a b,vs=[.ref a,.ref b]/\(∃xs,SqL K H1 a xs)/\(∃ys,SqL K H1 b ys)/\R (Itz K a b) H1
theorem fS {a b:ja}{ta:TA}{p:Pos}(hg:Gl X "zip")(hm:X.mg "zip"=p9)(ha:PA X [a,b] ta)(hs:autoParam (starEach [a,b] X.env=[(NH,eval a X.env),(NH,eval b X.env)]) QD)(hs2:autoParam (starEach [b] X.env=[(NH,eval b X.env)]) QD) :
  PI X (.Tuple elts k tpos) (.Call (.Name "zip" p) [a,b] [] pos) (Aiu X.K ta):=by
 intro pins s σ H R I h;refine Call_ (Dv I hg hm zD (ir (thA ha I h λus s1 vs H1 I1 r1 q1=>?_) (by rw[hs,hs2]) (by rw[hs2];rfl)));obtain⟨a,b,e,⟨xs,hx⟩,⟨ys,hy⟩,q⟩:=q1;subst e;obtain⟨u,v,rfl,ru,rv⟩:=Kz r1;cases ru;cases rv;obtain⟨its,rv,p,hz⟩:=I1.list hx;obtain⟨its2,rv2,p2,hz2⟩:=I1.list hy;refine HG p.isList p2.isList λh' g1 g2 g3 g4 g5 hsz kk=>?_;refine xg (s:={ s1 with heap:=h' }) g1 ?_;refine⟨s1.heap.objs.8+4,[s1.heap.objs.8+4,s1.heap.objs.8+2,s1.heap.objs.8+3,s1.heap.objs.8,s1.heap.objs.8+1],_,_,H1,rfl,I1.kept (t':=s1.toks) kk,
  Aby _ _ _ _ _ a b (No _),{g1,g2,{_,_,g3},g4,g5},λc hc=>?_,q⟩
 have hle:s1.heap.objs.8<=c:=by
  simp only[i5,kq,or_false] at hc;exact Akc hc
 exact I1.fpOk hle (I1.hok.fresh hle)
end
def Ite (K:e7)(a:fe):It:=
 ⟨λi H=>∃xs x,SqL K H a xs/\xs[i]?=en x,
  λi H v H'=>∃t x,H t=p9/\v=.ref t/\(∀xs,SqL K H a xs->xs[i]?=en x)/\H'=upd H t (.tup [.int i,x]),
  λi H=>∃xs,SqL K H a xs/\i=xs.9⟩
def StE (e it l:fe)(i:Nat)(h:i8):Prop:=(∃old,IsEnum h e it i old)/\h.IsListIter it l i
theorem wU {P:gm}{K:e7}{elts:List ja}{k:Nat}(e it a:fe)(D:e≠it) :
  Su P w K (.Tuple elts k pos) (Ite K a) [e,it] e (StE e it a) where
 mem:=by simp
 obj:=λi h st c hc=>by
  obtain⟨⟨old,he⟩,⟨o1,e1,c1,d1⟩⟩:=st;simp only[i5,kq,or_false] at hc;rcases hc with rfl|rfl
  .exact{_,he,λv z=>by cases z}
  .exact{_,e1,λv z=>by rw[d1] at z;cases z}
 keep:=λi h h' st kk=>by
  obtain⟨⟨old,he⟩,h1⟩:=st;exact{{old,kk _ (by simp) _ he},h1.at λo e=>kk _ (by simp) o e}
 item:=by
  intro X hP hw hK hc i pins s σ H E I hf st hg;subst hP hw hK;obtain⟨xs,x,ha,hx⟩:=hg;obtain⟨its,rv,p,hz⟩:=I.list ha;obtain⟨⟨old,s1⟩,s2⟩:=id st;have n1:a≠e:=by obtain⟨oa,ea,ca,_⟩:=p.isList;exact G1 ea s1 (by rw[ca];exact show kr "list"≠kr "enumerate" by decide)
  have n2:a≠it:=by obtain⟨oa,ea,ca,_⟩:=p.isList;obtain⟨o1,e1,c1,_⟩:=s2;exact G1 ea e1 (by rw[ca,c1];decide)
  have W:=EN (prog:=X.prog) (w:=X.w) (A:=X.A) (I.ok.hd hc) e it a D n1 n2 its.6;obtain⟨u1,hu1,ru1⟩:=rv.get hx;have l1:=(gg.mp hu1).1;refine W.item i s _ _ (by simpa using l1) {⟨old,s1⟩,s2,p.isList} λT vals h' tk hv hT hTu mid kk=>?_;obtain⟨t,v1,e1,rfl⟩:=hv;have e1:v1=u1:=by have:=e1;simp only[xf] at this;rw[hu1] at this;exact(fk this).symm
  subst e1;have nT:=W.apart i T h' mid;refine⟨.ref T,rfl,W.go elts k pos i T { s with heap:=h',toks:=tk } _ _ mid λh'' st'' kk2=>?_⟩;have hTu2:h''.IsTuple T ([nz (i:Int) t,v1]:Za3).6:=by
   obtain⟨o,e,r⟩:=hTu;exact{o,kk2 T o nT e,r}
  have I2:Inv X pins σ (upd H T (.tup [.int i,x])) { s with heap:=h'',toks:=tk }:=I.turnT (t':=tk) (λb o hb e=>kk2 b o hb (kk b o hb e)) (λb hb=>hf b hb) hT hTu2 (.cons ⟨t,rfl⟩ (.cons ru1 .nil)) (show 2<=sizeLine by decide);refine{.ref T,_,I2,rfl,{T,x,I.hok.fresh hT,rfl,λxs' h=>by rw[I.list_inj h ha];exact hx,rfl},{?_,st''.2.1},λc hc'=>?_}
  .exact st''.1
  have hlt:c<s.heap.objs.8:=by
   obtain⟨o5,s5,_⟩:=s2;simp only[i5,kq,or_false] at hc';rcases hc' with rfl|rfl
   .exact gi s1
   .exact gi s5
  rw[Aj (io (gh hlt hT))];exact(hf c hc').1
 done:=by
  intro X hP hw hK hc i pins s σ H E I hf st hg;subst hP hw hK;obtain⟨xs,ha,hi⟩:=hg;obtain⟨its,rv,p,hz⟩:=I.list ha;obtain⟨⟨old,s1⟩,s2⟩:=id st;have n1:a≠e:=by obtain⟨oa,ea,ca,_⟩:=p.isList;exact G1 ea s1 (by rw[ca];exact show kr "list"≠kr "enumerate" by decide)
  have n2:a≠it:=by obtain⟨oa,ea,ca,_⟩:=p.isList;obtain⟨o1,e1,c1,_⟩:=s2;exact G1 ea e1 (by rw[ca,c1];decide)
  have W:=EN (prog:=X.prog) (w:=X.w) (A:=X.A) (I.ok.hd hc) e it a D n1 n2 its.6;have hl:=rv.9;have hi2:i=its.toArray.8:=by rw[hi,hl];simp
  refine W.done s _ _ (by rw[<-hi2];exact{⟨old,s1⟩,s2,p.isList}) λh' tk kk=>{rfl,?_};exact I.turnW (t':=tk) kk λb hb=>hf b hb
 self:=λ_ _ _ _ _ st h=>vy (AU st.1) h
section
variable {X:Cx} {elts:List ja} {k:Nat} {tpos:Pos}
def Ae9 (K:e7)(ta:TA):TI:=λσ H R=>ta σ H λvs H1=>∃a,vs=[.ref a]/\(∃xs,SqL K H1 a xs)/\R (Ite K a) H1
theorem Mo {a:ja}{ta:TA}{p:Pos}(hg:Gl X "enumerate")(hm:X.mg "enumerate"=p9)(ha:PA X [a] ta)(hs:autoParam (starEach [a] X.env=[(NH,eval a X.env)]) QD) :
  PI X (.Tuple elts k tpos) (.Call (.Name "enumerate" p) [a] [] pos) (Ae9 X.K ta):=by
 intro pins s σ H R I h;refine Call_ (Dv I hg hm Sn (ir (thA ha I h λus s1 vs H1 I1 r1 q1=>?_) hs rfl));obtain⟨a,e,⟨xs,hx⟩,q⟩:=q1;subst e;obtain⟨u,rfl,ru⟩:=Fk r1;cases ru;obtain⟨its,rv,p,hz⟩:=I1.list hx;refine call_enumerate_list p.isList λh' g1 g2 hsz kk=>?_;refine vy (s:={ s1 with heap:=h' }) g1 ?_;refine⟨s1.heap.objs.8+1,[s1.heap.objs.8+1,s1.heap.objs.8],_,_,H1,rfl,I1.kept (t':=s1.toks) kk,
  wU _ _ a (Ae0 _),{{_,g1},g2},λc hc=>?_,q⟩
 have hle:s1.heap.objs.8<=c:=by
  simp only[i5,kq,or_false] at hc;exact Afk hc
 exact I1.fpOk hle (I1.hok.fresh hle)
end
structure Dn (QR:Za6) (QQ sc:nr) (x1 x2:Str) (N:Za6) (ix:Za4):Prop where
 kind:sc.kind=.function
 nocell:∀y∈sc.names,y.2≠.cell
 names:∀y∈sc.names,y.2=.local->sc.names.lookup y.1=en .local
 free:∀y∈sc.names,y.2=.free->QQ.names.lookup y.1=en .cell
 nd:N.Nodup
 hd:N[0]?=en x1
 hd2:N[1]?=en x2
 loc:sc.names.lookup x1=en .local
 loc2:sc.names.lookup x2=en .local
 len:N.9=ix.9+2
 at_:∀p∈N.tail.tail.zip ix,QR[p.2]?=en p.1/\sc.names.lookup p.1=en .free
def Hm (K:e7)(J:It)(H1:Hp)(fr:St)(tc:TT)(te:TE)(Q:VK):Prop:=∀D,H1 D=p9->∃W:Nat->Nat->Hp->Prop,(∃m,W 0 m (upd H1 D (.lst [])))/\∀i m H,W i m H ->
 (J.stop i H/\Q (.ref D) H)\/(J.go i H/\∀v H',J.yld i H v H'->∃a x y,v=.ref a/\SqT K H' a [x,y]/\tc (en x::en y::fr) H' λb H3=>
  if b=NG then te (en x::en y::fr) H3 λy H4=>∃ys,H4 D=en (.lst ys)/\ys.9<sizeLine/\∃m',m'<m/\W (i+1) m' (upd H4 D (.lst (ys++[y]))) else ∃m',m'<m/\W (i+1) m' H3)
def Ahp (K:e7)(wi:TI)(ix:Za4)(tc:TT)(te:TE):TE:=λσ H Q=>wi σ H λJ H1=>Hm K J H1 (frV σ ix) tc te Q
section
variable {X:Cx} {scope:nr} {N:Za6} {ix:Za4} {x1 x2:Str} {px px2 ppos:Pos} {kk:Nat} {elt iter:ja} {ifs:List ja} {tc:TT} {te:TE} {pos:Pos}
theorem Dn.g (L:Dn QR QQ sc x1 x2 N ix):LcG QR QQ sc 2 N ix:={L.kind,L.nocell,L.names,L.free,L.nd,L.len,by rw[show N.drop 2=N.tail.tail by rw[<-BS,<-BS,List.drop_drop]];exact L.at_}
def Two (K:e7)(v:V)(H:Hp)(vs:List V):Prop:=∃a x y,v=.ref a/\SqT K H a [x,y]/\vs=[x,y]
theorem Abi {K:e7}:Tk 2 (Two K) (nB K 2 (Ih (Dd 0) (Ih (Dd 1) lX))):=λ_ _ _ _ ⟨a,x,y,e,h,r⟩=>by subst r;exact{rfl,a,[x,y],e,h,rfl,x,[y],rfl,y,[],rfl,rfl,rfl,rfl}
theorem Dn.pg (L:Dn X.N X.env.scope scope x1 x2 N ix)(hc:X.calm=NG)(C:fe)(s:gb)(H:Hp)(fp:List fe):PG (Ec X scope N C s H fp) (.Tuple [.Name x1 px,.Name x2 px2] kk ppos) (nB X.K 2 (Ih (Dd 0) (Ih (Dd 1) lX))):=
 Kt hc (B6 (Oi L.nd L.hd (.inl (ny L.loc)) (.inr (ny L.loc))) (B6 (Oi L.nd L.hd2 (.inl (ny L.loc2)) (.inr (ny L.loc2))) Hd))
theorem Hm.g {K:e7}{Q:VK}(h:Hm K J H1 fr tc te Q):rdG (Two K) J H1 fr tc te Q:=λD hD=>by
 obtain⟨W,a,b⟩:=h D hD;exact{W,a,λi m H w=>(b i m H w).imp id λ⟨p,q⟩=>{p,λv H' y=>let ⟨a,x,y,e,h,r⟩:=q v H' y;{[x,y],⟨a,x,y,e,h,rfl⟩,r}}}
theorem qT (hc:X.calm=NG)(L:Dn X.N X.env.scope scope x1 x2 N ix)(hi:PI X (.Tuple [.Name x1 px,.Name x2 px2] kk ppos) iter wi)(hif:∀C s H fp,PIf (Ec X scope N C s H fp) ifs tc)(he:∀C s H fp,PE (Ec X scope N C s H fp) elt te)
  (hs:autoParam (∀z,foldedSetIterable iter X.env z=pure z) QJ):PE X (.ListComp elt [{.Tuple [.Name x1 px,.Name x2 px2] kk ppos,iter,ifs,0}] scope pos) (Ahp X.K wi ix tc te):=zE (rd:=λJ H1 fr Q=>Hm X.K J H1 fr tc te Q) Abi (L.pg hc) Hm.g hc L.g hi hif he hs
theorem Rk {i:Nat}{y:Str}{py spos:Pos}(hc:X.calm=NG)(L:Dn X.N X.env.scope scope x1 x2 N ix)(hN:X.N.Nodup)(hy:X.N[i]?=en y)(hl:X.env.scope.names.lookup y=en .local)
  (hi:PI X (.Tuple [.Name x1 px,.Name x2 px2] kk ppos) iter wi)(hif:∀C s H fp,PIf (Ec X scope N C s H fp) ifs tc)(he:∀C s H fp,PE (Ec X scope N C s H fp) elt te)
  (hsw:autoParam (swapsWith (.ListComp elt [{.Tuple [.Name x1 px,.Name x2 px2] kk ppos,iter,ifs,0}] scope pos) (en (.Name y py)) spos.line X.env=pure NG) QD)
  (hs:autoParam (∀z,foldedSetIterable iter X.env z=pure z) QJ):PS X (.Assign [.Name y py] (.ListComp elt [{.Tuple [.Name x1 px,.Name x2 px2] kk ppos,iter,ifs,0}] scope pos) spos) (lR (Ahp X.K wi ix tc te) (Dd i)):=Zl (rd:=λJ H1 fr Q=>Hm X.K J H1 fr tc te Q) Abi (L.pg hc) Hm.g hc L.g hN hy hl hi hif he hsw hs
end
theorem Aho {K:e7}{tA:TA}{σ:St}{R:It->Hp->Prop}(h:tA σ H λvs H1=>∃a b,vs=[.ref a,.ref b]/\(∃xs,SqL K H1 a xs)/\(∃ys,SqL K H1 b ys)/\R (Itz K a b) H1):Aiu K tA σ H R:=h
theorem Aeo {K:e7}{tA:TA}{σ:St}{R:It->Hp->Prop}(h:tA σ H λvs H1=>∃a,vs=[.ref a]/\(∃xs,SqL K H1 a xs)/\R (Ite K a) H1):Ae9 K tA σ H R:=h
theorem Ajg {K:e7}{σ:St}{Q:VK}{tc:TT}(h:wi σ H λJ H1=>Hm K J H1 (frV σ ix) tc te Q):Ahp K wi ix tc te σ H Q:=h
theorem Ts {K:e7}{σ:St}{R:St->Hp->Prop}{a:fe}{x:V}{i j:Nat}(hs:SqT K H a [x,y])(h:R ((σ.set i (en x)).set j (en y)) H):nB K 2 (Ih (Dd i) (Ih (Dd j) lX)) (.ref a) σ H R:=
 {a,[x,y],rfl,hs,rfl,x,[y],rfl,y,[],rfl,rfl,h}
theorem Aa2 {K:e7}{tc:TT}{Q:VK}(n:Nat)(f1 f2:Nat->V)(acc:Nat->List V)(h0:acc 0=[])(hz:∀i,i<n->(acc i).9<sizeLine)
  (hgo:∀i H,i<n->Ag H1 H->J.go i H)(hy:∀i H v H',i<n->Ag H1 H->J.yld i H v H'->∃a,v=.ref a/\SqT K H' a [f1 i,f2 i]/\Ag H H')(hst:∀H,Ag H1 H->J.stop n H)
  (turn:∀i H (R:Hp->Prop) (A:VK),i<n->Ag H1 H->(acc (i+1)=acc i->∀H',Ag H H'->R H')->(∀y H',acc (i+1)=acc i++[y]->Ag H H'->A y H') ->
   tc (en (f1 i)::en (f2 i)::fr) H λb H3=>if b=NG then te (en (f1 i)::en (f2 i)::fr) H3 A else R H3)
  (fin:∀D H,H1 D=p9->Ag H1 H->H D=en (.lst (acc n))->Q (.ref D) H):Hm K J H1 fr tc te Q:=by
 intro D hD;refine{λi m H=>i<=n/\m=n-i/\Ag H1 H/\H D=en (.lst (acc i)),{n,ij _,rfl,Al hD,by rw[Ae,h0]},?_};rintro i m H ⟨hi,rfl,sm,hl⟩
 by_cases h:i=n
 .subst h
  exact .inl {hst H sm,fin D H hD sm hl}
 .have hlt:i<n:=j5 hi h
  refine .inr {hgo i H hlt sm,λv H' hyl=>?_};obtain⟨a,rfl,ht,s2⟩:=hy i H v H' hlt sm hyl;refine{a,_,_,rfl,ht,turn i H' _ _ hlt (sm.trans s2) (λea H3 s3=>?_) (λy H4 ea s4=>?_)}
  .exact{n-(i+1),(),(),rfl,(sm.trans s2).trans s3,by rw[ea];exact s3 _ _ (s2 _ _ hl)}
  .refine{acc i,s4 _ _ (s2 _ _ hl),hz i hlt,n-(i+1),(),(),rfl,λb u e=>?_,by rw[Ae,ea]}
   rw[Aj (An e hD)];exact s4 _ _ (s2 _ _ (sm _ _ e))
theorem Af4 {K:e7}{a b:fe}{ys:List V}{tc:TT}{Q:VK}(ha:SqL K H1 a xs)(hb:SqL K H1 b ys)(acc:Nat->List V)(h0:acc 0=[])(hz:∀i,i<min xs.9 ys.9->(acc i).9<sizeLine)
  (turn:∀(i:Nat) x y H (R:Hp->Prop) (A:VK),xs[i]?=en x->ys[i]?=en y->Ag H1 H->(acc (i+1)=acc i->∀H',Ag H H'->R H')->(∀y H',acc (i+1)=acc i++[y]->Ag H H'->A y H') ->
   tc (en x::en y::fr) H λb H3=>if b=NG then te (en x::en y::fr) H3 A else R H3)
  (fin:∀D H,H1 D=p9->Ag H1 H->H D=en (.lst (acc (min xs.9 ys.9)))->Q (.ref D) H):Hm K (Itz K a b) H1 fr tc te Q:=by
 refine Aa2 (min xs.9 ys.9) (λi=>xs.getD i .non) (λi=>ys.getD i .non) acc h0 hz (λi H hi sm=>{xs,ys,xs[i]'(),ys[i]'(),sm.seq ha,sm.seq hb,by simp,by simp}) (λi H v H' hi sm h=>?_)
  (λH sm=>{xs,ys,sm.seq ha,sm.seq hb,rfl}) (λi H R A hi sm=>turn i _ _ H R A (by simp[show i<xs.9 by lia]) (by simp[show i<ys.9 by lia]) sm) fin
 obtain⟨t,x,y,hn,rfl,h1,h2,rfl⟩:=h;have e1:=h1 xs (sm.seq ha);have e2:=h2 ys (sm.seq hb);refine{t,rfl,?_,Al hn};simp only[l8,e1,e2,rh];exact SqT.of Ae
theorem Lx {K:e7}{a:fe}{i1 i2:Nat}{tb:TS}{D:Io}{σ:St}(Pv:Nat->St->Hp->Prop)(h0:Pv 0 σ H)(hl:∀i σ H,i<=xs.9->Pv i σ H->SqL K H a xs)
  (step:∀i x σ H t,xs[i]?=en x->Pv i σ H->H t=p9->tb { D with nx:=Pv (i+1),ct:=Pv (i+1),bk:=D.nx } ((σ.set i1 (en (.int i))).set i2 (en x)) (upd H t (.tup [.int i,x])))
  (fin:∀σ H,Pv xs.9 σ H->D.nx σ H):vJ (Ite K a) (nB K 2 (Ih (Dd i1) (Ih (Dd i2) lX))) tb D σ H:=by
 refine{λi m σ H=>i<=xs.9/\m=xs.9-i/\Pv i σ H,{_,ij _,rfl,h0},?_};rintro i m σ H ⟨hi,rfl,hp⟩
 by_cases h:i=xs.9
 .exact .inl {{xs,hl i σ H hi hp,h},fin σ H (h▸hp)}
 .have hlt:i<xs.9:=j5 hi h
  refine .inr {{xs,xs[i],hl i σ H hi hp,by simp},Pv (i+1),λQM H' q=>{xs.9-(i+1),(),hlt,rfl,q},λv H' hy=>?_};obtain⟨t,x,hn,rfl,hx,rfl⟩:=hy;exact Ts (SqT.of Ae) (step i x σ H t (hx xs (hl i σ H hi hp)) hp hn)
def Ac9 (z:Str):It:=
 {λi _=>i<z.cps.8,λi H v H'=>∃t c,H t=p9/\v=.ref t/\z.cps[i]?=en c/\H'=upd H t (.tup [.int i,.str (sgn c)]),λi _=>i=z.cps.8}
theorem pL {P:gm}{K:e7}{elts:List ja}{k:Nat}{e:fe}{ty:String}{t:Tok}(hne:e≠it)
  (D:∀A':jd,A'.handled=p9->Draws P w A' it [it] z.cps.8 (λi v=>∃c u,z.cps[i]?=en c/\v=.str {#[c]} u) (λi h=>h.IsStrIter it ty z t i)) :
  Su P w K (.Tuple elts k pos) (Ac9 z) [e,it] e (λi h=>(∃old,IsEnum h e it i old)/\h.IsStrIter it ty z t i) where
 mem:=by simp
 obj:=λi h st c hc=>by
  obtain⟨⟨old,he⟩,⟨o1,e1,c1,d1⟩⟩:=st;simp only[i5,kq,or_false] at hc;rcases hc with rfl|rfl
  .exact{_,he,λv z=>by cases z}
  .exact{_,e1,λv z=>by rw[d1] at z;cases z}
 keep:=λi h h' st kk=>by
  obtain⟨⟨old,he⟩,⟨o,ho,r⟩⟩:=st;exact{{old,kk _ (by simp) _ he},{o,kk _ (by simp) o ho,r}}
 item:=by
  intro X hP hw hK hc i pins s σ H E I hf st hg;subst hP hw hK;have W:=EC (D X.A.in1 (I.ok.hd hc)) e hne (by simpa using hne) (by simp);refine W.item i s _ _ hg st λT vals h' tk hv hT hTu mid kk=>?_;obtain⟨t1,x,⟨c,u,hc',rfl⟩,rfl⟩:=hv;have nT:=W.apart i T h' mid;refine⟨.ref T,rfl,W.go elts k pos i T { s with heap:=h',toks:=tk } _ _ mid λh'' st'' kk2=>?_⟩;have hTu2:h''.IsTuple T ([nz (i:Int) t1,rj {#[c]} u]:Za3).6:=by
   obtain⟨o,e,r⟩:=hTu;exact{o,kk2 T o nT e,r}
  have I2:Inv X pins σ (upd H T (.tup [.int i,.str (sgn c)])) { s with heap:=h'',toks:=tk }:=I.turnT (t':=tk) (λb o hb e=>kk2 b o hb (kk b o hb e)) (λb hb=>hf b hb) hT hTu2 (.cons ⟨t1,rfl⟩ (.cons ⟨u,rfl⟩ .nil)) (show 2<=sizeLine by decide);refine{.ref T,_,I2,rfl,{T,c,I.hok.fresh hT,rfl,hc',rfl},st'',λb hb=>?_};have hlt:b<s.heap.objs.8:=by
   obtain⟨⟨old,s1⟩,⟨o5,s5,_⟩⟩:=id st;simp only[i5,kq,or_false] at hb;rcases hb with rfl|rfl
   .exact gi s1
   .exact gi s5
  rw[Aj (io (gh hlt hT))];exact(hf b hb).1
 done:=by
  intro X hP hw hK hc i pins s σ H E I hf st hg;subst hP hw hK;have W:=EC (D X.A.in1 (I.ok.hd hc)) e hne (by simpa using hne) (by simp);have hi:i=z.cps.8:=hg;refine W.done s _ _ (by rw[<-hi];exact st) λh' tk kk=>{rfl,?_};exact I.turnW (t':=tk) kk λb hb=>hf b hb
 self:=λ_ _ _ _ _ st h=>vy (AU st.1) h
section
variable {X:Cx} {elts:List ja} {k:Nat} {tpos:Pos}
def zM (ta:TA):TI:=λσ H R=>ta σ H λvs H1=>∃z,vs=[.str z]/\R (Ac9 z) H1
theorem Aa4 {a:ja}{ta:TA}{p:Pos}(hg:Gl X "enumerate")(hm:X.mg "enumerate"=p9)(ha:PA X [a] ta)(hs:autoParam (starEach [a] X.env=[(NH,eval a X.env)]) QD) :
  PI X (.Tuple elts k tpos) (.Call (.Name "enumerate" p) [a] [] pos) (zM ta):=by
 intro pins s σ H R I h;refine Call_ (Dv I hg hm Sn (ir (thA ha I h λus s1 vs H1 I1 r1 q1=>?_) hs rfl));obtain⟨z,e,q⟩:=q1;subst e;obtain⟨u,rfl,⟨t,rfl⟩⟩:=Fk r1;refine call_enumerate_str λh' g1 g2 hsz kk=>?_;refine vy (s:={ s1 with heap:=h' }) g1 ?_;have fin:∀ty:String,h'.IsStrIter s1.heap.objs.8 ty z t 0->(∀A':jd,A'.handled=p9->Draws X.prog X.w A' s1.heap.objs.8 [s1.heap.objs.8] z.cps.8 (λi v=>∃c u,z.cps[i]?=en c/\v=.str {#[c]} u) (λi h=>h.IsStrIter s1.heap.objs.8 ty z t i)) ->
   PIE X pins σ (.Tuple elts k tpos) R (.ref (s1.heap.objs.8+1)) { s1 with heap:=h' }:=λty g2 D=>by
  refine{s1.heap.objs.8+1,[s1.heap.objs.8+1,s1.heap.objs.8],_,_,H1,rfl,I1.kept (t':=s1.toks) kk,pL (Ae0 _) D,{{_,g1},g2},λc hc=>?_,q};have hle:s1.heap.objs.8<=c:=by
   simp only[i5,kq,or_false] at hc;exact Afk hc
  exact I1.fpOk hle (I1.hok.fresh hle)
 by_cases ha:z.cps.all (· < 128)=NG
 .have e:strIterType z="str_ascii_iterator":=by unfold strIterType;rw[if_pos ha]
  exact fin _ (e▸g2) λA' hA=>Draws.strAscii hA _ z t
 .have e:strIterType z="str_iterator":=by unfold strIterType;rw[if_neg ha]
  exact fin _ (e▸g2) λA' hA=>Draws.strWide hA _ z t
end
theorem yG {tA:TA}{σ:St}{R:It->Hp->Prop}(h:tA σ H λvs H1=>∃z,vs=[.str z]/\R (Ac9 z) H1):zM tA σ H R:=h
theorem xC {K:e7}{i1 i2:Nat}{tb:TS}{D:Io}{σ:St}(Pv:Nat->St->Hp->Prop)(h0:Pv 0 σ H)
  (step:∀i c σ H t,z.cps[i]?=en c->Pv i σ H->H t=p9->tb { D with nx:=Pv (i+1),ct:=Pv (i+1),bk:=D.nx } ((σ.set i1 (en (.int i))).set i2 (en (.str (sgn c)))) (upd H t (.tup [.int i,.str (sgn c)])))
  (fin:∀σ H,Pv z.cps.8 σ H->D.nx σ H):vJ (Ac9 z) (nB K 2 (Ih (Dd i1) (Ih (Dd i2) lX))) tb D σ H:=by
 refine{λi m σ H=>i<=z.cps.8/\m=z.cps.8-i/\Pv i σ H,{_,ij _,rfl,h0},?_};rintro i m σ H ⟨hi,rfl,hp⟩
 by_cases h:i=z.cps.8
 .exact .inl {h,fin σ H (h▸hp)}
 .have hlt:i<z.cps.8:=j5 hi h
  refine .inr {hlt,Pv (i+1),λQM H' q=>{z.cps.8-(i+1),(),hlt,rfl,q},λv H' hy=>?_};obtain⟨t,c,hn,rfl,hx,rfl⟩:=hy;exact Ts (SqT.of Ae) (step i c σ H t hx hp hn)
structure Mth (P:gm) (w:iz) (K:e7) (mg:Za2) (base:i8) (C:fe) (m:Str) (k:Nat) (ps:Za6) (sp:Sp):Prop where
 ex:∃(f:fe) (fd:jv),Aq P w K mg base CX0 k f fd ps sp/\Dy K fd ps []/\zG K C m f
 cl:Cls K C
structure Mkr (P:gm) (w:iz) (K:e7) (mg:Za2) (base:i8) (name:Str) (C:fe) (k:Nat) (ps:Za6) (sp:Sp):Prop where
 ex:∃(f:fe) (fd:jv),Aq P w K mg base CX0 k f fd ps sp/\Dy K fd ps []/\Mk K C f/\mg name=en (.ref C)
section
variable {X:Cx} {k:Nat} {C:fe} {ps:Za6} {sp:Sp} {name m:Str} {p pos apos:Pos} {e o:ja} {es:List ja} {ta:TE} {t:TA} {pl:Sem Bool}
theorem Xc (M:Mkr X.prog X.w X.K X.mg X.base name C k ps sp)(hr:B9 (k+1) X.A)(ha:PA X (e::es) t)(hg:autoParam (Gl X name) QD)(hdb:autoParam ((name==("__debug__":Str))=NH) QF)
  (he:autoParam (starEach (e::es) X.env=(NH,eval e X.env)::starEach es X.env) QD)(hpl:autoParam ((backTo pos (starEach es X.env)).any (·.1)=NH) QD):PE X (.Call (.Name name p) (e::es) [] pos) (Yu C sp [] E0 t):=by
 obtain⟨f,fd,F,b,M,hm⟩:=M.ex;exact fW M F hr hg hm b .nil kO ha hdb he hpl
theorem Av (M:Mth X.prog X.w X.K X.mg X.base C m k ps sp)(hr:B9 k X.A)(ho:PE X o ta)(ha:PA X (e::es) t)
  (hst:autoParam (starEach (e::es) X.env=(NH,eval e X.env)::starEach es X.env) QD)(hpl:autoParam ((backTo pos (starEach es X.env)).any (·.1)=NH) QD)
  (ht:autoParam (eval (.Call (.Attribute o m apos) (e::es) [] pos) X.env=(do
   let ov <-eval o X.env
   standAt apos.atName
   let (f,first) <-holding [ov] (getMethod ov m pl)
   callWith pos f first (backTo pos (starEach (e::es) X.env)) (backToKw pos (keywordEach [] X.env)))) QD) :
  PE X (.Call (.Attribute o m apos) (e::es) [] pos) (Vi C m sp [] E0 ta t):=by
 obtain⟨f,fd,F,b,hm⟩:=M.ex;exact sG ho M.cl hm F hr b .nil kO ha hst hpl ht
theorem Jk (M:Mth X.prog X.w X.K X.mg X.base C m k ps sp)(hr:B9 k X.A)(ho:PE X o ta)
  (ht:autoParam (eval (.Call (.Attribute o m apos) [] [] pos) X.env=(do
   let ov <-eval o X.env
   standAt apos.atName
   let (f,first) <-holding [ov] (getMethod ov m pl)
   callWith pos f first (backTo pos (starEach [] X.env)) (backToKw pos (keywordEach [] X.env)))) QD) :
  PE X (.Call (.Attribute o m apos) [] [] pos) (Vi C m sp [] E0 ta mF):=by
 obtain⟨f,fd,F,b,hm⟩:=M.ex;exact Ab9 ho M.cl hm F hr b .nil kO ht
end
section
variable {σ:St} {H:Hp} {D:Io} {Q:VK} {te ta tv:TE} {tA:TA} {K:e7}
theorem Akd {f:Str}(h:te σ H λx H1=>∃a C dx fs v,x=.ref a/\H1 a=en (.ins C dx fs)/\Cls K C/\Bk K C f/\fs.lookup f=en v/\Q v H1):Aec K te f σ H Q:=h
theorem xT {a:fe}{fs:List (Str×V)}{f:Str}{v:V}(h:H a=en (.ins C dx fs))(c:Cls K C)(n:Bk K C f)(l:fs.lookup f=en v)(q:Q v H) :
  ∃a' C' dx' fs' v',V.ref a=.ref a'/\H a'=en (.ins C' dx' fs')/\Cls K C'/\Bk K C' f/\fs'.lookup f=en v'/\Q v' H:=⟨a,C,dx,fs,v,rfl,h,c,n,l,q⟩
theorem Ag2 {f:Str}(h:tv σ H λy H1=>ta σ H1 λx H2=>∃a C dx fs,x=.ref a/\H2 a=en (.ins C dx fs)/\Cls K C/\Bk K C f/\fs.9<1000/\D.nx σ (upd H2 a (.ins C dx (F5 f y fs)))):Ahm K ta tv f D σ H:=h
theorem Dx {a:fe}{fs:List (Str×V)}{f:Str}{R:Hp->Prop}(h:H a=en (.ins C dx fs))(c:Cls K C)(n:Bk K C f)(l:fs.9<1000)(q:R (upd H a (.ins C dx (F5 f y fs)))) :
  ∃a' C' dx' fs',V.ref a=.ref a'/\H a'=en (.ins C' dx' fs')/\Cls K C'/\Bk K C' f/\fs'.9<1000/\R (upd H a' (.ins C' dx' (F5 f y fs'))):=⟨a,C,dx,fs,rfl,h,c,n,l,q⟩
theorem Agb {E:XK}(h:tA σ H λvs H1=>∀x dx,H1 x=p9->H1 dx=p9->dx≠x->sp (.ref x::(vs++[])) (upd (upd H1 dx (.own x)) x (.ins C dx [])) (λv H2=>v=.non/\Q (.ref x) H2) E):Yu C sp [] E tA σ H Q:=h
theorem Aic {m:Str}{E:XK}(h:ta σ H λx H1=>∃a dx fs,x=.ref a/\H1 a=en (.ins C dx fs)/\fs.lookup m=p9/\tA σ H1 λvs H2=>sp (x::(vs++[])) H2 Q E):Vi C m sp [] E ta tA σ H Q:=h
end
section
variable {X:Cx}
def Ps (z:Str)(c:Nat):Nat:=z.cps.toList.count c
theorem Z8 (c:Nat):∀l:Za4,KP c l=(l.count c:Nat)
 |[]=>rfl
 |n::r=>by
  rw[KO,Z8 c r,qb]
  by_cases h:n=c
  .subst h;simp;lia
  .simp[h]
def Agz:V->List V->Hp->VK->Prop:=λx vs H Q=>∃z c,x=.str z/\vs=[.str (sgn c)]/\Q (.int (Ps z c:Nat)) H
theorem Ue:MtM X "str.count" Agz:=by
 intro pins s σ H x vs v us Q I rx rv h;obtain⟨z,c,rfl,rfl,q⟩:=h;obtain⟨t,rfl⟩:=rx;obtain⟨u,rfl,ru⟩:=rv.one;obtain⟨t',rfl⟩:=ru;have e:Txt.count z (sgn c)=(Ps z c:Nat):=(KN z c).trans (Z8 c _);refine SC.count ?_;rw[e];exact{.int (Ps z c:Nat),H,I.tok _,{_,rfl},q}
def Aji (K:e7):List V->Hp->VK->Prop:=λxs H Q=>∃(p:fe) (ns:List Int),xs=[.ref p]/\SqL K H p (ns.map V.int)/\Q (.int ns.sum) H
theorem xU (hc:X.calm=NG):Ea X (.builtin "sum") (Aji X.K):=by
 intro pins s σ H xs us Q I r h;obtain⟨p,ns,rfl,hp,q⟩:=h;obtain⟨u,rfl,ru⟩:=Fk r;cases ru;obtain⟨its,r,pl,_⟩:=I.list hp;have hi:=Vx r;obtain⟨ys,e⟩:=hi.allInts.items;have hl:=pl.isList;have hs:(numsOf its).sum=ns.sum:=by rw[hi.numsOf]
 rw[e] at hl;refine sum_intListG (I.ok.hd hc) hl λh' tk t' hk=>?_;refine{.int ns.sum,H,I.kept hk,{t',?_},q};rw[preSum_eq,gp (by simp),<-hs];have e2:=LX ys;rw[<-e] at e2;rw[show its=its.toArray.7 from rfl,e2]
end
namespace IB
open PySem.NumText PySem.Calls
def bits (cs:Za4):Prop:=∀c∈cs,c=48\/c=49
def v2 (cs:Za4):Nat:=cs.foldl (λa c=>a*2+(c-48)) 0
theorem lL {c:Nat}(ds:Array Nat)(b:Bool)(h:c=48\/c=49):step 2 (ds,b) c=en (ds.push (c-48),NG):=by rcases h with rfl|rfl<;>rfl
theorem Uw:∀(cs:Za4) (ds:Array Nat),bits cs->cs.foldlM (step 2) (ds,NG)=en (cs.foldl (λacc c=>acc.push (c-48)) ds,NG)
 |[],ds,_=>rfl
 |c::cs,ds,h=>by
  rw[FQ,lL ds NG (h c gt)];exact Uw cs _ λd hd=>h d (gw _ hd)
theorem mV (h:bits cs)(hne:cs≠[]):digits? 2 cs=en (cs.foldl (λacc c=>acc.push (c-48)) #[]):=by
 cases cs with
 |nil=>exact absurd rfl hne
 |cons c cs=>
  unfold digits?;rw[FQ,lL #[] NH (h c gt)];show((cs.foldlM (step 2) (#[].push (c-48),NG)).bind _)=_;rw[Uw cs _ λd hd=>h d (gw _ hd)];rfl
theorem Ve:∀(cs:Za4) (ds:Array Nat),(cs.foldl (λacc c=>acc.push (c-48)) ds).foldl (λacc d=>acc*2+d) 0=cs.foldl (λacc c=>acc*2+(c-48)) (ds.foldl (λacc d=>acc*2+d) 0)
 |[],ds=>rfl
 |c::cs,ds=>by
  rw[qa,Ve cs,qa,Array.foldl_push]
theorem Zw (h:bits cs):cs.dropWhile blank=cs:=by
 cases cs with
 |nil=>rfl
 |cons c cs=>
  rw[List.dropWhile_cons,if_neg];rcases h c gt with rfl|rfl<;>decide
theorem vW (h:bits cs):sign cs=(NH,cs):=by
 cases cs with
 |nil=>rfl
 |cons c cs=>rcases h c gt with rfl|rfl<;>rfl
theorem oG (h:bits cs):based 2 cs=(2,NH,cs):=by
 have hp:prefix? cs=p9:=by
  match cs,h with
  |[],_=>rfl
  |[c],h=>rcases h c gt with rfl|rfl<;>rfl
  |c::d::r,h=>
   rcases h c gt with rfl|rfl
   .rcases h d (gw _ gt) with rfl|rfl<;>rfl
   .rfl
 unfold based;rw[hp];rfl
theorem wE (h:bits cs)(hne:cs≠[]):(int_private% "readNumeral") 0 2 cs=(int_private% "Numeral.value") (v2 cs:Nat):=by
 refine(readNumeral_eq 0 2 cs).trans ?_;have hr:bits cs.reverse:=λc hc=>h c (FO.mp hc);rw[Zw h,vW h];dsimp only;rw[oG h];dsimp only;rw[Zw hr,List.reverse_reverse,mV h hne];have e:(cs.foldl (λacc c=>acc.push (c-48)) #[]).foldl (λacc d=>acc*2+d) 0=v2 cs:=Ve cs #[];unfold judge;dsimp only;rw[e];rfl
theorem Aea {E:Za0}{Q:Za0}{v:fu}{text:Za4}{n:Int}
    (hs : (text.takeWhile (· != 0)).9 <= 640)(hr : (int_private% "readNumeral") 0 2 (text.takeWhile (· != 0)) = (int_private% "Numeral.value") n)
    (ha : ((text.takeWhile (· != 0)).9 == text.9) = NG)(h : Q (.int n s.toks) { s with toks := s.toks + 1 }) :
    wpAny M A ((int_private% "intFromText") v text 2) Q E s := by
  obtain ⟨hp, g, d, tk, os⟩ := s
  repeat (any_goals (first
    | assumption
    | (with_reducible refine yy (decide_eq_true hs) ?_)
    | (with_reducible refine yy (decide_eq_true ha) ?_)
    | wp_step))
  all_goals (try rw [hr])
  all_goals (try dsimp only)
  repeat (any_goals (first
    | assumption
    | (with_reducible refine yy (decide_eq_true hs) ?_)
    | (with_reducible refine yy (decide_eq_true ha) ?_)
    | wp_step))
theorem typeCall_int_2 (a b:fu):checkTypeCall "int" {[a,b],[]}=pure .unit:=by kernel_rfl
theorem newCall_int_2 (a b:fu):checkBuiltinCall "int.__new__" {[.type "int",a,b],[]}=pure .unit:=by kernel_rfl
structure Hid (p:Prop):Prop where
 out:p
theorem fL {x:Str}(h:bits x.cps.7):(if x.cps.all (· < 128) then x.cps.7 else Unicode.numberText x.cps.7)=x.cps.7:=by
 rw[if_pos];rw[Array.all_eq_true'];intro c hc;have:=h c (by simpa using hc);rcases this with rfl|rfl<;>decide
theorem Ju (h:bits cs):cs.takeWhile (· != 0)=cs:=takeWhile_all λc hc=>by rcases h c hc with rfl|rfl<;>decide
set_option maxHeartbeats 4000000 in
theorem gives_bits {x:Str}{u v:Tok}(hl:x.9<=640)(hb:bits x.cps.7)(hne:x.cps.7≠[]):Gives (ow.«int.__new__» {[.type "int",.str x u,.int 2 v],[]}) (.int (v2 x.cps.7:Nat)) :=
  .of_wp λM A E s Q h => by
    obtain ⟨hp, g, d, tk, os⟩ := s;have f1 := F.conv_sub_int;have f2 := F.madeHere_int;have f6 : typeOf (.str x u) = pure (.type "str") := rfl;have hs : ((x.cps.7).takeWhile (· != 0)).9 <= 640 := by rw [Ju hb]; simpa [wl] using hl
    have hr := wE hb hne;rw [<- Ju hb] at hr;rw [Ju hb] at hr;have hr : (int_private% "readNumeral") 0 2 ((x.cps.7).takeWhile (· != 0)) = (int_private% "Numeral.value") (v2 x.cps.7 : Nat) := by rw [Ju hb]; exact hr
    have ha : (((x.cps.7).takeWhile (· != 0)).9 == (x.cps.7).9) = NG := by rw [Ju hb]; simp
    have ht := fL hb;have hk := Hid.mk (DB hs (DB hr (DB ha ht)));clear hs hr hl ha ht hne
    repeat (any_goals (first
      | assumption
      | ((with_reducible show wpAny _ _ ((int_private% "intFromText") _ _ _) _ _ _); rw [hk.out.2.2.2]; refine Aea hk.out.1 hk.out.2.1 hk.out.2.2.1 ?_)
      | wp_step))
    all_goals first | exact {_, rfl, h} | skip
end IB
section
variable {X:Cx}
def Akk:List V->Hp->VK->Prop:=λxs H Q=>∃z,xs=[.str z,.int 2]/\z.9<=640/\IB.bits z.cps.7/\z.cps.7≠[]/\Q (.int (IB.v2 z.cps.7:Nat)) H
theorem Yo:Ea X (.type "int") Akk:=by
 intro pins s σ H xs us Q I r h;obtain⟨z,rfl,hl,hb,hne,q⟩:=h;obtain⟨u,w',rfl,ru,rw'⟩:=Kz r;obtain⟨t,rfl⟩:=ru;obtain⟨t',rfl⟩:=rw';exact callType_new F.called_int F.newNe_int (IB.typeCall_int_2 _ _) (IB.newCall_int_2 _ _) (λobj=>F.args_object_init_3 obj _ _) F.entry_int_new (IB.gives_bits hl hb hne).meets (show(Made.int _).post _ s from{rfl,.int (IB.v2 z.cps.7:Nat),H,I.tok _,{_,rfl},q})
end
theorem pW (n:Nat):lr p9 p9 (-1) n=(ft n).map λk=>n-1-k:=by
 unfold lr;dsimp only;rw[if_neg (by decide),if_neg (by decide)];unfold sliceRange;dsimp only;rw[if_neg (by decide)];have e:(if((n:Int)-1 > -1) then((n:Int)-1 - -1 - -1-1)/(- -1) else 0).toNat=n:=by
  split
  .simp
  .lia
 rw[e];refine jg λk hk=>?_;have:=ki.mp hk;lia
theorem Zk (l:Za4):∀n,n<=l.9->((ft n).map λk=>n-1-k).filterMap (l[·]?)=(l.take n).reverse
 |0,_=>by simp
 |n+1,h=>by
  have hl:n<l.9:=h;rw[n9,jh,jk,ll];have e:((λk=>n+1-1-k) ∘ EF)=λk=>n-1-k:=by
   funext k
   show n+1-1-(k+1)=n-1-k;lia
  rw[e,show n+1-1-0=n by lia,fc hl];dsimp only;rw[Zk l n (),i6,fc hl,DT,EH];rfl
section
variable {X:Cx} {e:ja} {te:TE} {p1 p2 p3 pos:Pos} {j:Nat}
theorem Le (z:Str):(X6 z).9=z.9:=by
 show z.cps.toList.reverse.toArray.8=z.cps.8;simp
theorem Ady {x1}(he:PE X e te):PE X (.Subscript e (.Slice p9 p9 (en (.UnaryOp .USub (.Constant (.int 1) x1 p1) p2)) p3) pos) (Akj te):=by
 k_in;refine Subscript_ (thE he I h λv s1 x H1 I1 r1 q1=>?_);obtain⟨z,rfl,hz,q⟩:=q1;obtain⟨t,rfl⟩:=r1;refine BI ?_;rw[wj];refine fw (fw ?_);rw[evalPart_some];have hm:PE X (.UnaryOp .USub (.Constant (.int 1) x1 p1) p2) (tUn (rU λi=>.int (-i)) (tC (.int 1))):=Fl Dc Af;refine thn (hm pins s1 σ H1 (λy H2=>y=.int (-1)/\H2=H1) I1 {1,rfl,rfl,rfl}) λw s2 ⟨y,H2,I2,r2,e2,e3⟩=>?_;subst e2 e3;obtain⟨t2,rfl⟩:=r2;have I4:Inv X pins σ H2 { s2 with heap:=s2.heap.push { cls:=.type "slice",data:=.fields #[.none,.none,.int (-1) t2] } }:=I2.kept (t':=s2.toks) λb ob q=>fj _ q;have hs:(s2.heap.push { cls:=.type "slice",data:=.fields #[.none,.none,.int (-1) t2] }).IsSlice s2.heap.objs.8 p9 p9 (en (-1,t2)):={_,gu _ rfl,rfl,rfl};refine yz (ops:=[.ref s2.heap.objs.8,.str z t]) (DD _ _ _) AH.lookup ?_ (by with_unfolding_all rfl);refine EM hs rfl ?_;have em:sliceMade z t p9 p9 (en (-1,t2))=.str (X6 z):=by
  unfold sliceMade;rw[if_neg (by simp)];show Made.str {((lr p9 p9 (-1) z.9).filterMap (z.cps[·]?)).6}=_;rw[pW];have:=Zk z.cps.7 z.cps.toList.9 (fm _);have e1:z.cps.toList.9=z.9:=by simp[wl]
  rw[e1] at this;have e2:(λi:Nat=>z.cps[i]?)=λi:Nat=>z.cps.7[i]?:=by funext i;simp
  rw[e2,this,gp (by simp[wl])];rfl
 rw[em];refine{?_,.str (X6 z),H2,I4.tok _,{_,rfl},q};show(X6 z).9<=_;rw[Le];exact hz
end
theorem Ajd {σ:St}{Q:VK}(h:te σ H λx H1=>∃z,x=.str z/\z.9<=sizeLine/\Q (.str (X6 z)) H1):Akj te σ H Q:=h
inductive Do (K:e7) (H:Hp):Nat->V->V->Prop where
 |flat {n:Nat} {x:V} (h:B7 x=NG):Do K H n x x
 |tup {n:Nat} {a b:fe} {xs ys:List V} (h1:SqT K H a xs) (h2:SqT K H b ys) (hl:xs.9=ys.9) (h:∀(j:Nat) (x y:V),xs[j]?=en x->ys[j]?=en y->Do K H n x y):Do K H (n+1) (.ref a) (.ref b)
 |lst {n:Nat} {a b:fe} {xs ys:List V} (h1:SqL K H a xs) (h2:SqL K H b ys) (hl:xs.9=ys.9) (h:∀(j:Nat) (x y:V),xs[j]?=en x->ys[j]?=en y->Do K H n x y):Do K H (n+1) (.ref a) (.ref b)
theorem jK {x:V}(h:B7 x=NG):eqV x x=NG:=by
 cases x<;>first|rfl|(simp[eqV];done)|cases h
theorem Do.flats {K:e7}{n:Nat}(h:xs.all B7=NG):∀(j:Nat) (x y:V),xs[j]?=en x->xs[j]?=en y->Do K H n x y:=λj x y h1 h2=>by
 rw[h1] at h2;cases h2;exact .flat (jm.mp h x (ip h1))
theorem Do.tups {K:e7}{n:Nat}{a b:fe}(h1:SqT K H a xs)(h2:SqT K H b xs)(h:xs.all B7=NG):Do K H (n+1) (.ref a) (.ref b):=.tup h1 h2 rfl (Do.flats h)
theorem Do.lsts {K:e7}{n:Nat}{a b:fe}(h1:SqL K H a xs)(h2:SqL K H b xs)(h:xs.all B7=NG):Do K H (n+1) (.ref a) (.ref b):=.lst h1 h2 rfl (Do.flats h)
theorem Mn (ns:List Int):(ns.map V.int).all B7=NG:=by simp[jm,B7]
section
variable {X:Cx} {pins:Za1} {σ:St} {H:Hp} {s:gb}
theorem Ol {n:Nat}{e:Nat->Bool}(h:∀j,e j=NG):(ft n).all e=NG:=by simp[h]
theorem Do.itemsI (I:Inv X pins σ H s){n:Nat}(ih:∀{x y:V} {A:jd} {u v:fu},A.units+n<cLine->Do X.K H n x y->Be x u->Be y v->yg A s u v NG){A:jd}{xs ys:List V}{us vs:Za3}(hu:A.units+n<cLine)(h:∀(j:Nat) (x y:V),xs[j]?=en x->ys[j]?=en y->Do X.K H n x y)(r1:Az xs us)(r2:Az ys vs)(j:Nat)(h1:j<us.9)(h2:j<vs.9) :
  yg A s us[j] vs[j] NG:=by
 have l1:=r1.9;have l2:=r2.9;obtain⟨x,ex⟩:∃x,xs[j]?=en x:={_,fc (by omega (splitDisjunctions:=NG))};obtain⟨y,ey⟩:∃y,ys[j]?=en y:={_,fc (by omega (splitDisjunctions:=NG))};obtain⟨u,eu,ru⟩:=r1.get ex;obtain⟨v,ev,rv⟩:=r2.get ey;rw[fc h1] at eu;rw[fc h2] at ev;cases eu;cases ev;exact ih hu (h j x y ex ey) ru rv
theorem Do.flatAt {x:V}{A:jd}{u v:fu}(h:B7 x=NG)(ru:Be x u)(rv:Be x v):yg A s u v NG:=by
 have:=qP (A:=A) (s:=s) ru rv h h;rw[jK h] at this;exact this
theorem Do.eqAt (I:Inv X pins σ H s)(n:Nat):∀{x y:V} {A:jd} {u v:fu},A.units+n<cLine->Do X.K H n x y->Be x u->Be y v->yg A s u v NG:=by
 induction n with
 |zero=>
  intro x y A u v hu d ru rv
  cases d with
  |flat h=>exact Do.flatAt h ru rv
 |succ n ih=>
  intro x y A u v hu d ru rv
  cases d with
  |flat h=>exact Do.flatAt h ru rv
  |@tup _ a b xs ys h1 h2 hl h=>
   cases ru;cases rv
   by_cases hab:a=b
   .subst hab;exact yq _
   refine BL hab ?_;obtain⟨is,r1,p1,_⟩:=I.tuple h1
   obtain⟨js,r2,p2,_⟩:=I.tuple h2;have l1:=r1.9;have l2:=r2.9;have hm:A.units+1+n<cLine:=by lia
   have:=MB (A:=A) (e:=λ_=>NG) p1 p2 (by lia) λj a1 a2=>Do.itemsI I ih hm h r1 r2 j (by simpa using a1) (by simpa using a2)
   rw[Ol λ_=>rfl] at this;simpa [<-l1,<-l2,hl] using this
  |@lst _ a b xs ys h1 h2 hl h=>
   cases ru;cases rv
   by_cases hab:a=b
   .subst hab;exact yq _
   refine BL hab ?_;obtain⟨is,r1,p1,_⟩:=I.list h1
   obtain⟨js,r2,p2,_⟩:=I.list h2;have l1:=r1.9;have l2:=r2.9;have hm:A.units+1+n<cLine:=by lia
   have:=CL (A:=A) (e:=λ_=>NG) p1.isList p2.isList (by simp;lia) (by lia) λj a1 a2=>Do.itemsI I ih hm h r1 r2 j (by simpa using a1) (by simpa using a2)
   rw[Ol λ_=>rfl] at this;exact this
theorem Do.items (I:Inv X pins σ H s){n:Nat}{A:jd}{xs ys:List V}{us vs:Za3}(hu:A.units+n<cLine)(h:∀(j:Nat) (x y:V),xs[j]?=en x->ys[j]?=en y->Do X.K H n x y)(r1:Az xs us)(r2:Az ys vs)(j:Nat)(h1:j<us.9)(h2:j<vs.9) :
  yg A s us[j] vs[j] NG:=Do.itemsI I (Do.eqAt I n) hu h r1 r2 j h1 h2
end
def Afl (K:e7)(r:Bool):R2:=λx y H Q=>∃a b,x=.ref a/\y=.ref b/\Do K H 60 x y/\Q (.bl r) H
section
variable {X:Cx}
theorem Ah6 (hu:X.A.units+60<cLine):OpR X (compareOp .NotEq) (Afl X.K NH):=by
 intro pins s σ H x y v u Q I rx ry h;obtain⟨a,b,rfl,rfl,hs,q⟩:=h;cases rx;cases ry
 cases hs with
 |flat h=>cases h
 | @tup n _ _ xs ys h1 h2 hl h=>
  obtain⟨is,r1,p1,_⟩:=I.tuple h1;obtain⟨js,r2,p2,_⟩:=I.tuple h2;have l1:=r1.9;have l2:=r2.9;have:=JP (A:=X.A) (e:=λ_=>NG) p1 p2 () λj a1 a2=>Do.items I (by show X.A.units+1+59<cLine;lia) h r1 r2 j (by simpa using a1) (by simpa using a2);rw[Ol λ_=>rfl] at this;refine this _ _ _ _ {.bl NH,H,I,?_,q};simp[Be,<-l1,<-l2,hl]
 | @lst n _ _ xs ys h1 h2 hl h=>
  obtain⟨is,r1,p1,_⟩:=I.list h1;obtain⟨js,r2,p2,_⟩:=I.list h2;have l1:=r1.9;have l2:=r2.9;have:=vz (A:=X.A) (e:=λ_=>NG) p1.isList p2.isList (by simp;lia) () λj a1 a2=>Do.items I (by show X.A.units+1+59<cLine;lia) h r1 r2 j (by simpa using a1) (by simpa using a2);rw[Ol λ_=>rfl] at this;exact this _ _ _ _ {.bl NH,H,I,rfl,q}
end
theorem Ah1 {K:e7}{Q:VK}{a b:fe}{r:Bool}(h:Do K H 60 (.ref a) (.ref b))(q:Q (.bl r) H):Afl K r (.ref a) (.ref b) H Q:=⟨a,b,rfl,rfl,h,q⟩
theorem vZ {k:Nat}(hr:B9 k A):A.units+60<cLine:=by have:=hr.units;lia
def eqL (xs ys:List V):Bool:=decide (xs.9=ys.9)&&(ft xs.9).all λj=>eqV (xs.getD j .non) (ys.getD j .non)
def Age (K:e7)(n:Bool):R2:=λx y H Q=>∃a b xs ys,x=.ref a/\y=.ref b/\SqL K H a xs/\SqL K H b ys/\xs.all B7=NG/\ys.all B7=NG/\Q (.bl (n != eqL xs ys)) H
section
variable {X:Cx} {pins:Za1} {σ:St} {H:Hp} {s:gb}
theorem Zq {ys:List V}(f1:xs.all B7=NG)(f2:ys.all B7=NG)(r1:Az xs us)(r2:Az ys vs)(j:Nat)(h1:j<us.9)(h2:j<vs.9) :
  yg A s us[j] vs[j] (eqV (xs.getD j .non) (ys.getD j .non)):=by
 have l1:=r1.9;have l2:=r2.9;have e1:xs[j]?=en (xs[j]'()):=fc _;have e2:ys[j]?=en (ys[j]'()):=fc _;obtain⟨u,eu,ru⟩:=r1.get e1;obtain⟨v,ev,rv⟩:=r2.get e2;rw[fc h1] at eu;rw[fc h2] at ev;cases eu;cases ev;simp only[l8,e1,e2,rh];exact qP ru rv (jm.mp f1 _ (ip e1)) (jm.mp f2 _ (ip e2))
end
section
variable {X:Cx}
theorem Ahj (hu:X.A.units+60<cLine):OpR X (compareOp .Eq) (Age X.K NH):=by
 intro pins s σ H x y v u Q I rx ry h;obtain⟨a,b,xs,ys,rfl,rfl,h1,h2,f1,f2,q⟩:=h;cases rx;cases ry;obtain⟨is,r1,p1,_⟩:=I.list h1;obtain⟨js,r2,p2,_⟩:=I.list h2;have l1:=r1.9;have l2:=r2.9
 by_cases hl:xs.9=ys.9
 .have:=CL (A:=X.A) (e:=λj=>eqV (xs.getD j .non) (ys.getD j .non)) p1.isList p2.isList (by simp;lia) () λj a1 a2=>Zq (s:=s) f1 f2 r1 r2 j (by simpa using a1) (by simpa using a2)
  refine this _ _ _ _ {.bl (NH != eqL xs ys),H,I,?_,q};unfold eqL;rw[decide_eq_true hl];simp[Be,<-l1]
 .have:=MC (A:=X.A) p1.isList p2.isList (by simp;lia) ()
  refine this _ _ _ _ {.bl (NH != eqL xs ys),H,I,?_,q};unfold eqL;rw[decide_eq_false hl];simp[Be]
theorem pZ (hu:X.A.units+60<cLine):OpR X (compareOp .NotEq) (Age X.K NG):=by
 intro pins s σ H x y v u Q I rx ry h;obtain⟨a,b,xs,ys,rfl,rfl,h1,h2,f1,f2,q⟩:=h;cases rx;cases ry;obtain⟨is,r1,p1,_⟩:=I.list h1;obtain⟨js,r2,p2,_⟩:=I.list h2;have l1:=r1.9;have l2:=r2.9
 by_cases hl:xs.9=ys.9
 .have:=vz (A:=X.A) (e:=λj=>eqV (xs.getD j .non) (ys.getD j .non)) p1.isList p2.isList (by simp;lia) () λj a1 a2=>Zq (s:=s) f1 f2 r1 r2 j (by simpa using a1) (by simpa using a2)
  refine this _ _ _ _ {.bl (NG != eqL xs ys),H,I,?_,q};unfold eqL;rw[decide_eq_true hl];simp[Be,<-l1]
 .have:=yp (A:=X.A) p1.isList p2.isList (by simp;lia) ()
  refine this _ _ _ _ {.bl (NG != eqL xs ys),H,I,?_,q};unfold eqL;rw[decide_eq_false hl];simp[Be]
end
section
variable {X:Cx} {tg:ja}
def Ahs:V->List V->Hp->VK->Prop:=λx vs H Q=>∃(l:fe) (ns:List Int) (k:Int) (j:Nat),x=.ref l/\vs=[.int k]/\H l=en (.lst (ns.map V.int))/\ns[j]?=en k/\(∀i:Nat,i<j->ns[i]?≠en k)/\Q (.int (j:Nat)) H
theorem jO:MtM X "list.index" Ahs:=by
 intro pins s σ H x vs v us Q I rx rv h;obtain⟨l,ns,k,j,rfl,rfl,hH,hj,hno,q⟩:=h;cases rx;obtain⟨u,rfl,t,rfl⟩:=Fk rv;obtain⟨z,its,n,r,hl,e⟩:=I.lstM hH;have fl:=Mn ns;have hjl:=(gg.mp hj).1;have hln:ns.9=its.9:=by rw[<-hl,fb]
 have at':∀i (hi:i<its.9),eqU (.int k) its[i]=decide (ns[i]?=en k):=λi hi=>by
  have e1:(ns.map V.int)[i]?=en (.int (ns[i]'())):=by rw[fg,fc ()];rfl
  obtain⟨u,eu,ru⟩:=r.get e1;rw[fc hi] at eu;cases eu;rw[gH ru rfl,fc ()];show(ns[i]==k)=decide (en ns[i]=en k)
  by_cases h:ns[i]=k
  .rw[decide_eq_true (congrArg en h)]
   simpa using h
  .rw[decide_eq_false λz=>h (fk z)]
   simpa using h
 have sl:=Lk;refine uc F.slot_list_index {_,e,rfl} F.entry_list_index (F.args_list_index_2 _ _)
  (SeqAt.list_indexAt l its.6 n p9 #[] (.int k t) (eqU (.int k)) j (by simp;lia) (by rw[fb] at z;lia) ?_ ?_) {e,λy hy=>Lz (x:=.int k) (v:=.int k t) ⟨t,rfl⟩ rfl r fl y (by simpa using hy),?_}
 .show eqU (.int k) its[j]=NG
  rw[at' j (),decide_eq_true hj]
 .intro i hi hlt
  show eqU (.int k) its[i]=NH;rw[at' i (by simpa using hi),decide_eq_false (hno i hlt)]
 .exact{.int j,H,I.tok _,{_,rfl},q}
end
section
variable {X:Cx}
def Ahq (K:e7):List V->Hp->VK->Prop:=λxs H Q=>∃(p:fe) (ys:Za6),xs=[.ref p]/\SqL K H p (ys.map V.str)/\ys.9<64/\∀(zs:Za6) l,zs.Perm ys->sortedS zs=NG->H l=p9->Q (.ref l) (upd H l (.lst (zs.map V.str)))
theorem vU:∀{ys:Za6} {us:Za3},rp us ys->Az (ys.map V.str) us:=by
 intro ys us h
 induction h with
 |nil=>exact .nil
 |cons x t r ih=>exact .cons ⟨t,rfl⟩ ih
theorem Pg:Ea X (.builtin "sorted") (Ahq X.K):=by
 intro pins s σ H xs us Q I r h;obtain⟨p,ys,rfl,hp,hl,q⟩:=h;obtain⟨u,rfl,ru⟩:=Fk r;cases ru;obtain⟨its,rv,pl,hz⟩:=I.list hp;have hlen:=rv.9;rw[fb] at hlen;refine sorted_strs pl.isList (Nh rv) () λout ss' a1 a2 a3=>?_;obtain⟨e,he⟩:=sortedAll_at s.5 its out;have hn:H (s.heap.objs.8+1)=p9:=I.hok.fresh (qj _);refine{.ref (s.heap.objs.8+1),_,I.laid (t':=s.toks) (o:=.lst (ss'.map V.str)) (λb u e=>sortedAll_old e) (qj _) {?_,out.7,e,vU a1,?_},rfl,q ss' _ a2 a3 hn}
 .rw[fb,a2.length_eq]
  rw[fb] at hz;exact hz
 .rw[he]
end
theorem P7 {p:Str}:∀{r:Za6},risingS p r=NG->∀x∈r,¬ x.cps.7<p.cps.7
 |[],_,x,hx=>by cases hx
 |y::r,h,x,hx=>by
  unfold risingS at h;rw[ka] at h;have h1:¬ y.cps.7<p.cps.7:=by
   have:=h.1;rw[ltCps_eq] at this
   simpa using this
  rcases i5.mp hx with rfl|hx
  .exact h1
  .have h2:=P7 h.2 x hx
   exact xl.mpr (List.le_trans (xl.mp h1) (xl.mp h2))
theorem Ze {p:Str}{r:Za6}(h:risingS p r=NG):sortedS r=NG:=by
 cases r with
 |nil=>rfl
 |cons y r=>
  unfold risingS at h;rw[ka] at h;exact h.2
theorem T5:∀{a b:Za6},a.Perm b->sortedS a=NG->sortedS b=NG->a=b
 |[],b,h,_,_=>by
  have:=h.length_eq
  cases b with
  |nil=>rfl
  |cons x r=>simp at this
 |x::a,[],h,_,_=>by
  have:=h.length_eq;simp at this
 |x::a,y::b,h,h1,h2=>by
  have h1:risingS x a=NG:=h1;have h2:risingS y b=NG:=h2;have hxy:x=y:=by
   have hx:x∈y::b:=h.subset gt;have hy:y∈x::a:=h.symm.subset gt;rcases i5.mp hx with e|hx
   .exact e
   .rcases i5.mp hy with e|hy
    .exact e.symm
    .have n1:=P7 h2 x hx
     have n2:=P7 h1 y hy;have e:x.cps.7=y.cps.7:=List.le_antisymm (xl.mp n2) (xl.mp n1);exact Hf e
  subst hxy;rw[T5 (NA h) (Ze h1) (Ze h2)]
section
variable {prog:gm} {w:iz} {A:jd} {E:Za0} {s:gb}
theorem M8 {t sl:fe}{items:Array fu}{vl vu:fu}{lo hi:Option Int}{Q:Za0}(ht:IsTup s.5 t items)(hs:s.heap.IsSliceOf sl vl vu .none)(pl:y4 vl lo)(pu:y4 vu hi)
  (h1:_T.sIx items.8 0 lo=0)(h2:_T.sIx items.8 items.8 hi=items.8)(h:Q (.ref t) s):wpAny (model prog w) A (getItem (.ref t) (.ref sl)) Q E s:=by
 obtain⟨os,hos,hcs,hds⟩:=id hs;have hTs:s.TypeIs (.ref sl) "slice":=⟨os,hos,hcs⟩;unfold getItem
 try with_reducible refine wpAny_holding ?_
 first|refine wpAny_bind (fw ?_)|skip
 refine wpAny_bind (HR ht.typeIs (by decide) ?_);refine wpAny_bind (rf (name:=mq "__getitem__") ht.typeIs kt
  (xh kt ht.typeIs entry_tuple_getitem ?_ (HH _ _)))
 show wpAny _ _ (yl (.ref t) >>= _) _ _ s;refine wpAny_bind (LV ht ?_);refine wpAny_bind (pj hTs ?_);rw[if_pos (by decide)];refine wpAny_bind (_T.sliceApplied_gen hs pl pu ?_);show wpAny _ _ (if(((_T.sIx items.8 0 lo:Nat):Int)==0&&(1:Int)==1&&(_T.sIx items.8 items.8 hi-_T.sIx items.8 0 lo)==items.8)=NG then _ else _) _ _ s;rw[if_pos (by rw[h1,h2];simp)];refine wpAny_bind (wpAny_bind (pj ht.typeIs (fw ?_)));rw[if_pos (by decide)];refine wpAny_bind (xw ?_);exact wpAny_bind (fw (fw {_,rfl,fw h}))
end
section
variable {X:Cx}
def Aj6 (K:e7):V->Option Int->Option Int->Hp->VK->Prop:=λx lo hi H Q=>∃a xs,x=.ref a/\SqT K H a xs/\∀p H',Ag H H'->SqT K H' p (Fc xs lo hi)->Q (.ref p) H'
theorem iC:SlR X (Aj6 X.K):=by
 intro pins s σ H x v vl vu lo hi sl Q I rx hs pl pu h;obtain⟨a,xs,rfl,hx,q⟩:=h
 by_cases hw:_T.sIx xs.9 0 lo=0/\_T.sIx xs.9 xs.9 hi=xs.9
 .cases rx
  obtain⟨its,r,ht,hz⟩:=I.tuple hx;have hlen:its.toArray.8=xs.9:=by rw[gj];exact r.length.symm
  refine{"tuple",_,kt.lookup,ht.typeIs,?_};refine M8 ht hs pl pu (by rw[hlen];exact hw.1) (by rw[hlen];exact hw.2) {.ref a,H,I,rfl,q a H (Ag.refl _) ?_};have:Fc xs lo hi=xs:=by
   unfold Fc;rw[hw.1,hw.2];simp
  rw[this];exact hx
 .exact Agu pins s σ H _ v vl vu lo hi sl Q I rx hs pl pu {a,xs,rfl,hx,hw,λp hp=>q p _ (Al hp) (SqT.of Ae)}
theorem A7 {x:Str}{i:Int}(hg:Gl X x)(hm:∃t,X.mg x=en (.int i t))(hd:autoParam ((x==("__debug__":Str))=NH) QF):PE X (.Name x pos) (tC (.int i)):=by
 obtain⟨t,h⟩:=hm;exact Fn hg h ⟨t,rfl⟩ hd
end
section
variable {σ:St} {H:Hp} {D:Io} {Q:VK} {te:TE} {QB:Bool->Hp->Prop} {tA:TA}
theorem Ajl {K:e7}{T:String}{r:V->List V->Hp->VK->Prop}(h:te σ H λx H1=>tyV K T x H1/\r x [] H1 Q):Aj5 K T r te σ H Q:=h
theorem lT {lo hi:Option Int}(h1:z.9<=sizeLine)(h:Q (.str (Pa z lo hi)) H):Akm (.str z) lo hi H Q:=⟨z,rfl,h1,h⟩
end
theorem Ais {A B:Prop}(h:B):if(!NG)=NG then A else B:=by
 rw[if_neg (by decide)];exact h
theorem Aik {A B:Prop}(h:A):if(!NH)=NG then A else B:=by
 rw[if_pos (by decide)];exact h
def SameBut (x:fe)(H H':Hp):Prop:=∀b o,b≠x->H b=en o->H' b=en o
theorem Ag.but {x:fe}(h:Ag H H'):SameBut x H H':=λb o _ e=>h b o e
theorem SameBut.trans {x:fe}(a:SameBut x H H1)(b:SameBut x H1 H2):SameBut x H H2:=λc o n h=>b c o n (a c o n h)
def Abh (H:Hp)(x:fe):Prop:=∀u,¬ Rd H x (.tup u)/\¬ Rd H x (.lst u)
theorem Fj {x:fe}{fs:List (Str×V)}(h:H x=en (.ins C dx fs)):Abh H x:=λu=>by
 constructor<;>(rintro(e|⟨o,e⟩)<;>(rw[h] at e;cases e))
theorem Bc {x:fe}{o:HO}:SameBut x H (upd H x o):=λb u n e=>by rw[Aj n];exact e
theorem Ab7 {tc:TT}{Q:VK}(n:Nat)(item:Nat->V)(Pv:Nat->List V->Hp->Prop)(h0:∀H,Ag H1 H->Pv 0 [] H)
  (stab:∀i ys H D xs o,H D=en (.lst xs)->Pv i ys H->Pv i ys (upd H D o))(hz:∀i ys H,i<n->Pv i ys H->ys.9<sizeLine)
  (hgo:∀i H,i<n->Ag H1 H->J.go i H)(hy:∀i H x H',i<n->Ag H1 H->J.yld i H x H'->x=item i/\H'=H)(hst:∀H,Ag H1 H->J.stop n H)
  (turn:∀i ys H (A:VK) (R:Hp->Prop),i<n->Ag H1 H->Pv i ys H->(∀y H',Ag H H'->Pv (i+1) (ys++[y]) H'->A y H')->tc (en (item i)::fr) H λb H3=>if b=NG then te (en (item i)::fr) H3 A else R H3)
  (fin:∀D ys H,H1 D=p9->Ag H1 H->Pv n ys H->H D=en (.lst ys)->Q (.ref D) H):K3 J H1 fr tc te Q:=by
 intro D hD;refine{λi m H=>i<=n/\m=n-i/\Ag H1 H/\∃ys,H D=en (.lst ys)/\Pv i ys H,{n,ij _,rfl,Al hD,[],Ae,h0 _ (Al hD)},?_};rintro i m H ⟨hi,rfl,sm,ys,hl,hp⟩
 by_cases h:i=n
 .subst h
  exact .inl {hst H sm,fin D ys H hD sm hp hl}
 .have hlt:i<n:=j5 hi h
  refine .inr {hgo i H hlt sm,λx H' hyl=>?_};obtain⟨rfl,rfl⟩:=hy i H x H' hlt sm hyl;refine turn i ys H' _ _ hlt sm hp (λy H4 s4 hp4=>?_);refine{ys,s4 _ _ hl,hz i ys _ hlt hp,n-(i+1),(),(),rfl,λb u e=>?_,ys++[y],Ae,stab _ _ _ _ _ _ (s4 _ _ hl) hp4};rw[Aj (An e hD)];exact s4 _ _ (sm _ _ e)
theorem vE {lo st:Int}{n:Nat}{tc:TT}{Q:VK}(Pv:Nat->List V->Hp->Prop)(h0:∀H,Ag H1 H->Pv 0 [] H)
  (stab:∀i ys H D xs o,H D=en (.lst xs)->Pv i ys H->Pv i ys (upd H D o))(hz:∀i ys H,i<n->Pv i ys H->ys.9<sizeLine)
  (turn:∀(i:Nat) ys H (A:VK) (R:Hp->Prop),i<n->Ag H1 H->Pv i ys H->(∀y H',Ag H H'->Pv (i+1) (ys++[y]) H'->A y H')->tc (en (.int (lo+i*st))::fr) H λb H3=>if b=NG then te (en (.int (lo+i*st))::fr) H3 A else R H3)
  (fin:∀D ys H,H1 D=p9->Ag H1 H->Pv n ys H->H D=en (.lst ys)->Q (.ref D) H):K3 (zW lo st n) H1 fr tc te Q:=
 Ab7 n (λi=>.int (lo+i*st)) Pv h0 stab hz (λi H hi _=>hi) (λi H x H' _ _ h=>⟨h.2,h.1⟩) (λH _=>fm n) turn fin
theorem Acz {s0:gb}{x:Str}{N2:Za6}{px:Pos}{elt iter:ja}{ifs:List ja}{tc:TT} 
  (hc:X.calm=NG)(L:∀QQ,Ba N QQ scope x N2 ix)(hi:PI (Ec X sc N C s0 H0 fp) (.Name x px) iter wi)
  (hif:∀C' s' H' fp',PIf (Ec (Ec X sc N C s0 H0 fp) scope N2 C' s' H' fp') ifs tc)(he:∀C' s' H' fp',PE (Ec (Ec X sc N C s0 H0 fp) scope N2 C' s' H' fp') elt te)
  (hs:autoParam (∀z,foldedSetIterable iter (Ec X sc N C s0 H0 fp).env z=pure z) QJ):PE (Ec X sc N C s0 H0 fp) (.ListComp elt [{.Name x px,iter,ifs,0}] scope pos) (tLc wi ix tc te):=
 Ja (X:=Ec X sc N C s0 H0 fp) hc (L _) hi hif he hs
theorem Ac4 (K:e7){l:ja}{tl:TE}(hl:PE X l tl)(h:autoParam (X.K=K) QD):PI X tg l (Af1 K tl):=by
 subst h;exact pX hl
theorem wY (K:e7)(hc:X.calm=NG)(h:autoParam (X.K=K) QD):Ea X (.builtin "sum") (Aji K):=by
 subst h;exact xU hc
theorem Acf (K:e7)(h:autoParam (X.K=K) QD):SlR X (Aj6 K):=by
 subst h;exact iC
theorem Aj3:bootBuiltins "abs"=en (.builtin "abs"):=by decide +kernel
def Mp (ns:List Int)(m:Int):Prop:=m∈ns/\∀a∈ns,m<=a
def oP (ns:List Int)(m:Int):Prop:=m∈ns/\∀a∈ns,a<=m
section
variable {X:Cx}
def Afa (K:e7):List V->Hp->VK->Prop:=λxs H Q=>∃(p:fe) (ns:List Int),xs=[.ref p]/\SqL K H p (ns.map V.int)/\ns≠[]/\∀m,Mp ns m->Q (.int m) H
def Afp (K:e7):List V->Hp->VK->Prop:=λxs H Q=>∃(p:fe) (ns:List Int),xs=[.ref p]/\SqL K H p (ns.map V.int)/\ns≠[]/\∀m,oP ns m->Q (.int m) H
theorem rM {σ:St}{p:fe}{ns:List Int}(I:Inv X pins σ H s)(hp:SqL X.K H p (ns.map V.int)):∃ys:Array (Int×Tok),s.heap.IsList p (intItems ys)/\ns=ys.toList.map (·.1):=by
 obtain⟨its,r,pl,_⟩:=I.list hp;have hi:=Vx r;obtain⟨ys,e⟩:=hi.allInts.items;have hl:=pl.isList;rw[e] at hl;exact{ys,hl,by rw[<-hi.numsOf,<-LX,<-e]}
theorem zQ {ys:Array (Int×Tok)}{v:fu}(hz:0<ys.8)(hv:(intItems ys)[argBest (λi j=>decide (numAt ys i<numAt ys j)) (ys.8-1)]?=en v):∃m t,v=.int m t/\Mp (ys.toList.map (·.1)) m:=by
 obtain⟨t,rfl⟩:=intItems_at hv;obtain⟨h1,h2⟩:=argBest_lt (numAt ys) (ys.8-1);refine{_,t,rfl,?_,λa ha=>?_}
 .rw[GI]
  exact getD_mem (by rw[fb,ie];lia)
 .obtain⟨j,hj,rfl⟩:=mem_getD ha
  rw[fb,ie] at hj;rw[<-GI];exact h2 j ()
theorem Aeu {ys:Array (Int×Tok)}{v:fu}(hz:0<ys.8)(hv:(intItems ys)[argBest (λi j=>decide (numAt ys i>numAt ys j)) (ys.8-1)]?=en v):∃m t,v=.int m t/\oP (ys.toList.map (·.1)) m:=by
 obtain⟨t,rfl⟩:=intItems_at hv;obtain⟨h1,h2⟩:=argBest_gt (numAt ys) (ys.8-1);refine{_,t,rfl,?_,λa ha=>?_}
 .rw[GI]
  exact getD_mem (by rw[fb,ie];lia)
 .obtain⟨j,hj,rfl⟩:=mem_getD ha
  rw[fb,ie] at hj;rw[<-GI];exact h2 j ()
theorem Vy {ns:List Int}{ys:Array (Int×Tok)}(e:ns=ys.toList.map (·.1))(h:ns≠[]):0<ys.8:=by
 rcases qg ys.8 with z|z
 .exfalso
  apply h;rw[e,List.eq_nil_of_length_eq_zero (l:=ys.7) (by rw[ie];exact z)];rfl
 .exact z
theorem P0 (hc:X.calm=NG):Ea X (.builtin "min") (Afa X.K):=by
 intro pins s σ H xs us Q I r h;obtain⟨p,ns,rfl,hp,hne,q⟩:=h;obtain⟨u,rfl,ru⟩:=Fk r;cases ru;obtain⟨ys,hl,e⟩:=rM I hp;have hz:=Vy e hne;refine min_intList (I.ok.hd hc) hl hz λv h' tk hv hk=>?_;obtain⟨m,t,rfl,hm⟩:=zQ hz hv;exact{.int m,H,I.kept hk,⟨t,rfl⟩,q m (e▸hm)}
theorem vP (hc:X.calm=NG):Ea X (.builtin "max") (Afp X.K):=by
 intro pins s σ H xs us Q I r h;obtain⟨p,ns,rfl,hp,hne,q⟩:=h;obtain⟨u,rfl,ru⟩:=Fk r;cases ru;obtain⟨ys,hl,e⟩:=rM I hp;have hz:=Vy e hne;refine max_intList (I.ok.hd hc) hl hz λv h' tk hv hk=>?_;obtain⟨m,t,rfl,hm⟩:=Aeu hz hv;exact{.int m,H,I.kept hk,⟨t,rfl⟩,q m (e▸hm)}
end
theorem uD {g:TG}{tb:TS}{D:Io}{σ:St}(Pv:Nat->St->Hp->Prop)(h0:Pv 0 σ H)
  (hs:∀(i c:Nat) σ H,z.cps[i]?=en c->Pv i σ H->g (.str (sgn c)) σ H λQS H2=>tb { D with nx:=Pv (i+1),ct:=Pv (i+1),bk:=D.nx } QS H2)(hd:∀σ H,Pv z.cps.8 σ H->D.nx σ H):vJ (Its z) g tb D σ H:=by
 refine{λi m σ H=>i<=z.cps.8/\m=z.cps.8-i/\Pv i σ H,{_,ij _,rfl,h0},?_};rintro i m σ H ⟨hi,rfl,hP⟩
 by_cases h:i=z.cps.8
 .subst h
  exact .inl {fm _,hd σ H hP}
 .have hlt:i<z.cps.8:=j5 hi h
  refine .inr {hlt,Pv (i+1),λQM H' hN=>{z.cps.8-(i+1),(),hlt,rfl,hN},λx H' hy=>?_};obtain⟨rfl,c,hc,rfl⟩:=hy;exact hs i c σ _ hc hP
end _L
end
section
namespace _W
def val:Za5->Nat
 |[]=>0
 |b::r=>b.toNat+2*val r
def plc:Nat->Za5->Za4
 |_,[]=>[]
 |k,b::r=>if b then k::plc (k+1) r else plc (k+1) r
theorem Abk:∀l:Za5,val l<2 ^ l.9
 |[]=>by simp[val]
 |b::r=>by
  have:=Abk r;simp only[val,iu,wo];have hb:b.toNat<=1:=BV b;lia
theorem jG (b:Bool):∀(l:Za5) (k:Nat),plc k (l++[b])=plc k l++(if b then[k+l.9] else[])
 |[],k=>by cases b<;>simp[plc]
 |a::r,k=>by
  cases a<;>simp[plc,jG b r,td,uk 1]
theorem K5:∀(l:Za5) (k:Nat),plc (k+1) l=(plc k l).map (·+1)
 |[],k=>rfl
 |a::r,k=>by cases a<;>simp[plc,K5 r]
theorem Vq:∀(l:Za5) (k:Nat),(plc k l).9=l.count NG
 |[],k=>rfl
 |a::r,k=>by cases a<;>simp[plc,Vq r]
def pcF:Nat->Nat->Nat
 |0,_=>0
 |f+1,n=>n%2+pcF f (n/2)
def pc (n:Nat):Nat:=pcF n n
theorem pcF_z (f:Nat):pcF f 0=0:=by
 induction f with
 |zero=>rfl
 |succ f ih=>show 0%2+pcF f (0/2)=0;rw[Nat.zero_div,ih]
theorem pcF_e (f:Nat):∀g n,n≤f->n≤g->pcF f n=pcF g n:=by
 induction f with
 |zero=>intro g n h _;rw[Nat.le_zero.mp h,pcF_z,pcF_z]
 |succ f ih=>
  intro g n h1 h2
  cases g with
  |zero=>rw[Nat.le_zero.mp h2,pcF_z,pcF_z]
  |succ g=>exact congrArg (n%2+·) (ih g (n/2) (by lia) (by lia))
theorem Tn:pc 0=0:=rfl
theorem Hj (n:Nat):pc n=n%2+pc (n/2):=by
 cases n with
 |zero=>rfl
 |succ p=>exact congrArg ((p+1)%2+·) (pcF_e p _ _ (by lia) (Nat.le_refl _))
theorem Nu:∀l:Za5,pc (val l)=l.count NG
 |[]=>by simp[val,Tn]
 |b::r=>by
  rw[Hj];have e1:val (b::r)%2=b.toNat:=by simp only[val];have:=BV b;lia
  have e2:val (b::r)/2=val r:=by simp only[val];have:=BV b;lia
  rw[e1,e2,Nu r];cases b<;>simp[qb,uk]
theorem Aj4 (n:Nat):n%16%2=n%2:=y3 n (by decide)
theorem Aj9 (n:Nat):n%16/2%2=n/2%2:=(congrArg (·%2) (uw n 2 8)).trans (y3 _ (by decide))
theorem Akl (n:Nat):n%16/4%2=n/4%2:=(congrArg (·%2) (uw n 4 4)).trans (y3 _ (by decide))
theorem Ajn (n:Nat):n%16/8%2=n/8%2:=(congrArg (·%2) (uw n 8 2)).trans (Nat.mod_mod _ _)
theorem Aku (n:Nat):pc n=pc (n%16)+pc (n/16):=by
 have a:pc n=n%2+(n/2%2+(n/4%2+(n/8%2+pc (n/16)))):=by
  rw[Hj n,Hj (n/2),Hj (n/2/2),Hj (n/2/2/2)];simp only[ra]
 have b:pc (n%16)=n%16%2+(n%16/2%2+(n%16/4%2+(n%16/8%2+pc (n%16/16)))):=by
  rw[Hj (n%16),Hj (n%16/2),Hj (n%16/2/2),Hj (n%16/2/2/2)];simp only[ra]
 have c:pc (n%16/16)=0:=by
  rw[vv (sf n (by decide)),Tn]
 rw[a,b,c,Aj4,Aj9,Akl,Ajn,DJ,td,td,td]
def fB:Za4:=[0,1,1,2,1,2,2,3,1,2,2,3,2,3,3,4]
theorem xI:∀r:Nat,r<16->fB[r]?=en (pc r):=by
 have h:∀b0 b1 b2 b3:Bool,fB[val [b0,b1,b2,b3]]?=en ([b0,b1,b2,b3].count NG):=by decide
 intro r hr;have e:r=val [r.testBit 0,r.testBit 1,r.testBit 2,r.testBit 3]:=by
  have:∀r:Fin 16,r.val=val [r.val.testBit 0,r.val.testBit 1,r.val.testBit 2,r.val.testBit 3]:=by decide
  exact this ⟨r,hr⟩
 rw[e,h,Nu]
def nthF:Nat->Nat->Nat->Option Nat
 |0,_,_=>none
 |f+1,n,k=>if n%2=1 then(if k=0 then some 0 else(nthF f (n/2) (k-1)).map (·+1)) else(nthF f (n/2) k).map (·+1)
def nth (n k:Nat):Option Nat:=nthF n n k
theorem nthF_s (f n k:Nat):nthF (f+1) n k=if n%2=1 then(if k=0 then some 0 else(nthF f (n/2) (k-1)).map (·+1)) else(nthF f (n/2) k).map (·+1):=rfl
theorem nthF_z (f:Nat):∀k,nthF f 0 k=none:=by
 induction f with
 |zero=>exact fun _=>rfl
 |succ f ih=>intro k;rw[nthF_s,if_neg (by decide),Nat.zero_div,ih];rfl
theorem nthF_e (f:Nat):∀g n k,n≤f->n≤g->nthF f n k=nthF g n k:=by
 induction f with
 |zero=>intro g n k h _;rw[Nat.le_zero.mp h,nthF_z,nthF_z]
 |succ f ih=>
  intro g n k h1 h2
  cases g with
  |zero=>rw[Nat.le_zero.mp h2,nthF_z,nthF_z]
  |succ g=>rw[nthF_s,nthF_s,ih g (n/2) _ (by lia) (by lia),ih g (n/2) _ (by lia) (by lia)]
theorem Vh (k:Nat):nth 0 k=none:=rfl
theorem lK (b:Bool)(m k:Nat):nth (b.toNat+2*m) k=if b then(if k=0 then some 0 else(nth m (k-1)).map (·+1)) else(nth m k).map (·+1):=by
 have hb:=Bool.toNat_le b
 have key:∀p,b.toNat+2*m=p+1->nthF (p+1) (b.toNat+2*m) k=if b then(if k=0 then some 0 else(nth m (k-1)).map (·+1)) else(nth m k).map (·+1):=fun p hp=>by
  rw[nthF_s,show (b.toNat+2*m)/2=m by lia,nthF_e p m m _ (by lia) (Nat.le_refl _),nthF_e p m m _ (by lia) (Nat.le_refl _)]
  cases b with
  |false=>rw[if_neg (by simp only[Bool.toNat_false];lia)];rfl
  |true=>rw[if_pos (by simp only[Bool.toNat_true];lia)];rfl
 cases e:b.toNat+2*m with
 |succ p=>rw[<-key p e,e];rfl
 |zero=>
  cases b with
  |true=>simp only[Bool.toNat_true] at e;lia
  |false=>rw[show m=0 by simp only[Bool.toNat_false] at e;lia];rfl
theorem iA:∀(l:Za5) (k:Nat),nth (val l) k=(plc 0 l)[k]?
 |[],k=>by simp[val,plc,Vh]
 |b::r,k=>by
  simp only[val,lK]
  cases b with
  |false=>simp[plc,K5,iA r]
  |true=>
   cases k with
   |zero=>simp[plc]
   |succ k=>simp[plc,K5,iA r]
def iL (r:Nat):Za4:=(ft 4).filter λp=>decide (r/2 ^ p%2=1)
theorem Adk:∀r:Nat,r<16->(iL r).9=pc r:=by
 have h:∀b0 b1 b2 b3:Bool,(iL (val [b0,b1,b2,b3])).9=([b0,b1,b2,b3].count NG):=by decide
 intro r hr;have e:r=val [r.testBit 0,r.testBit 1,r.testBit 2,r.testBit 3]:=by
  have:∀r:Fin 16,r.val=val [r.val.testBit 0,r.val.testBit 1,r.val.testBit 2,r.val.testBit 3]:=by decide
  exact this ⟨r,hr⟩
 rw[e,h,Nu]
theorem uJ:∀(w:Za5) (m k:Nat),nth (val w+2 ^ w.9*m) k=if k<w.count NG then(plc 0 w)[k]? else(nth m (k-w.count NG)).map (·+w.9)
 |[],m,k=>by simp[val]
 |b::r,m,k=>by
  have e:val (b::r)+2 ^ (b::r).9*m=b.toNat+2*(val r+2 ^ r.9*m):=by
   rw[val,iu,wo,Nat.mul_add,td,wq (2 ^ r.9) 2,IC]
  have ih:=uJ r m;rw[e,lK]
  cases b with
  |false=>
   rw[if_neg ik,ih,show(NH::r).count NG=r.count NG by simp]
   by_cases h:k<r.count NG
   .rw[if_pos h,if_pos h]
    simp[plc,K5]
   .rw[if_neg h,if_neg h,xa]
    rfl
  |true=>
   rw[if_pos rfl,show(NG::r).count NG=r.count NG+1 by simp]
   cases k with
   |zero=>rw[if_pos rfl,if_pos (JE _)];rfl
   |succ k=>
    rw[if_neg (Nat.succ_ne_zero k),qh,ih]
    by_cases h:k<r.count NG
    .rw[if_pos h,if_pos (Nat.succ_lt_succ h)]
     simp[plc,K5]
    .rw[if_neg h,if_neg (λz=>h (Nat.lt_of_succ_lt_succ z)),Nat.add_sub_add_right,xa]
     rfl
theorem Ai7 (n k:Nat):nth n k=if k<pc (n%16) then(iL (n%16))[k]? else(nth (n/16) (k-pc (n%16))).map (·+4):=by
 have h:∀b0 b1 b2 b3:Bool,iL (val [b0,b1,b2,b3])=plc 0 [b0,b1,b2,b3]:=by decide
 have g:∀r:Fin 16,r.val=val [r.val.testBit 0,r.val.testBit 1,r.val.testBit 2,r.val.testBit 3]:=by decide
 obtain⟨w,hw,e,h4⟩:∃w:Za5,w.9=4/\n%16=val w/\iL (val w)=plc 0 w:={_,rfl,g {n%16,sf _ (by decide)},h _ _ _ _};have:=uJ w (n/16) k;rw[hw,<-e,show n%16+2 ^ 4*(n/16)=n from GX n 16] at this;rw[this,e,Nu,h4]
def A4 (l:Za5)(j:Nat):Za5:=(l.drop (32*j)).take 32
def Bx (n:Nat):Nat:=(n+31)/32
def wordsOf (l:Za5):Za4:=(ft (Bx l.9)).map λj=>val (A4 l j)
def cnt (l:Za5)(k:Nat):Nat:=(l.take k).count NG
theorem tS (l:Za5)(a b:Nat):cnt l (a+b)=cnt l a+((l.drop a).take b).count NG:=by
 unfold cnt;rw[HN,va]
theorem Tl (l:Za5){k:Nat}(h:l.9<=k):cnt l k=l.count NG:=by
 unfold cnt;rw[gp h]
theorem lI (l:Za5)(j:Nat):cnt l (32*(j+1))=cnt l (32*j)+pc (val (A4 l j)):=by
 rw[Nu,show 32*(j+1)=32*j+32 by lia,tS];rfl
theorem Yt (l:Za5)(a:Nat):∀k:Nat,((ft k).map λi=>pc (val (A4 l (a+i)))).sum+cnt l (32*a)=cnt l (32*(a+k))
 |0=>by simp
 |k+1=>by
  rw[jo,ge,AA,yt,yr];have:=Yt l a k;have e:=lI l (a+k);rw[show a+(k+1)=a+k+1 by lia,e];lia
theorem kG (n:Nat):n<=32*Bx n:=by unfold Bx;lia
theorem lN {n j:Nat}(h:j<Bx n):32*j<n:=by unfold Bx at h;lia
theorem uV (l:Za5)(b:Nat)(k:Nat)(hk:k=min 8 (Bx l.9-8*b)):((ft k).map λi=>pc (val (A4 l (8*b+i)))).sum+cnt l (256*b)=cnt l (256*(b+1)):=by
 have h:=Yt l (8*b) k;rw[show 32*(8*b)=256*b by lia] at h;rw[h]
 by_cases hh:8<=Bx l.9-8*b
 .rw[hk.trans (j9 hh),show 32*(8*b+8)=256*(b+1) by lia]
 .have ek:=hk.trans (sh (gy (Nat.not_le.mp hh)))
  have h2:=iy (kG l.9) (ER 32 (Nat.sub_le_iff_le_add'.mp (q0 ek.symm)));rw[<-ek] at hh;rw[Tl l h2,Tl l (k:=256*(b+1)) (by clear hk ek h;lia)]
theorem tJ:∀(l:Za5) (a:Nat),(l.reverse.foldl (λacc b=>acc*2+b.toNat) a)=a*2 ^ l.9+val l
 |[],a=>by simp[val]
 |b::r,a=>by
  rw[zb,List.foldl_append,tJ r a];simp only[qa,List.foldl_nil,val,iu,wo];rw[Nat.add_mul,IC];lia
theorem Tu:∀(w:Za5) (k:Nat),val w/2 ^ k%2=(w.getD k NH).toNat
 |[],k=>by simp[val]
 |b::r,0=>by
  cases b<;>simp[val]<;>lia
 |b::r,k+1=>by
  have ih:=Tu r k;have e:val (b::r)/2 ^ (k+1)=val r/2 ^ k:=by
   rw[wo,wq (2 ^ k) 2,<-ra];congr 1;cases b<;>simp[val]<;>lia
  rw[e,ih];simp
theorem Ld (l:Za5)(j:Nat){p:Nat}(hp:p<32):(A4 l j).getD p NH=l.getD (32*j+p) NH:=by
 unfold A4;simp only[iq,og,mi,hp,if_true]
def Ow (n:Nat):Za5:=(ft 32).map λp=>decide (n/2 ^ p%2=1)
theorem wZ (b:Bool):decide (b.toNat=1)=b:=by cases b<;>rfl
theorem wB (l:Za5)(j:Nat):Ow (val (A4 l j))=(ft 32).map λp=>l.getD (32*j+p) NH:=by
 unfold Ow;refine jg λp hp=>?_;rw[Tu,wZ,Ld l j (ki.mp hp)]
theorem Rw {α:Type}(d:Nat)(f:Nat->α):∀m:Nat,((ft m).map λj=>(ft d).map λp=>f (d*j+p)).flatten=(ft (d*m)).map f
 |0=>by simp
 |m+1=>by
  rw[jo,ge,yc,Rw d f m,JF,List.range_add,ge];simp[Function.comp_def]
def pR (r:Nat):Za5:=(ft 4).map λk=>decide (r/2 ^ k%2=1)
theorem Abn (n j:Nat):pR (n/2 ^ (4*j)%16)=(ft 4).map λk=>decide (n/2 ^ (4*j+k)%2=1):=by
 unfold pR;refine jg λk hk=>?_;have hk:=ki.mp hk;rw[Nat.pow_add,<-ra];generalize n/2 ^ (4*j)=m;congr 1;have:k=0\/k=1\/k=2\/k=3:=()
 rcases this with rfl|rfl|rfl|rfl
 .rw[Nat.pow_zero,KR,KR,Aj4]
 .exact congrArg (·=1) (Aj9 m)
 .exact congrArg (·=1) (Akl m)
 .exact congrArg (·=1) (Ajn m)
theorem Vd (n:Nat):((ft 8).map λj=>pR (n/2 ^ (4*j)%16)).flatten=Ow n:=by
 have e:((ft 8).map λj=>pR (n/2 ^ (4*j)%16))=(ft 8).map λj=>(ft 4).map λk=>decide (n/2 ^ (4*j+k)%2=1):=jg λj _=>Abn n j;rw[e];exact Rw 4 (λp=>decide (n/2 ^ p%2=1)) 8
theorem Ur (l:Za5)(a m:Nat):((ft m).map λi=>Ow (val (A4 l (a+i)))).flatten=(ft (32*m)).map λp=>l.getD (32*a+p) NH:=by
 have e:((ft m).map λi=>Ow (val (A4 l (a+i))))=(ft m).map λj=>(ft 32).map λp=>l.getD (32*a+(32*j+p)) NH:=jg λj _=>by
  rw[wB];refine jg λp _=>?_;congr 1;lia
 rw[e];exact Rw 32 (λp=>l.getD (32*a+p) NH) m
theorem Acl (l:Za5)(a m low c:Nat)(h0:32*a<=low)(h1:low+c<=l.9)(h2:low+c<=32*(a+m)) :
  (((ft (32*m)).map λp=>l.getD (32*a+p) NH).drop (low-32*a)).take c=(l.drop low).take c:=by
 refine qv λi=>?_;rw[og,og]
 by_cases hi:i<c
 .rw[if_pos hi,if_pos hi,mi,mi,fg,gn ()]
  rw[fc (show low+i<l.9 by lia)];simp only[sy,iq];rw[show 32*a+(low-32*a+i)=low+i by lia,fc (show low+i<l.9 by lia)];rfl
 .rw[if_neg hi,if_neg hi]
theorem Y4 (l:Za5)(a k:Nat):((wordsOf l).drop a).take k=(ft (min k (Bx l.9-a))).map λi=>val (A4 l (a+i)):=by
 refine qv λi=>?_;unfold wordsOf;rw[og,fg]
 by_cases hi:i<k
 .rw[if_pos hi,mi,fg]
  by_cases h2:a+i<Bx l.9
  .rw[gn h2,gn (Nat.lt_min.mpr {hi,Nat.lt_sub_iff_add_lt.mpr (by rw[uk];exact h2)})]
   rfl
  .have h3:=rz.mp h2
   rw[jc (by rw[fv];exact h3),jc (by rw[fv];exact iy (vt _ _) (Nat.sub_le_iff_le_add.mpr (by rw[uk];exact h3)))];rfl
 .rw[if_neg hi,jc (by rw[fv];exact iy (GY _ _) (rz.mp hi))]
  rfl
theorem yV (f:Nat->Bool)(n:Nat):[n].filter f=if f n then[n] else[]:=by
 cases h:f n<;>simp[List.filter,h]
def occ (b:Bool)(l:Za5)(n:Nat):Za4:=(ft n).filter λi=>l.getD i NH==b
theorem Pk (b:Bool)(l:Za5)(n:Nat):occ b l (n+1)=occ b l n++if l.getD n NH==b then[n] else[]:=by
 unfold occ;rw[jo,lw,yV]
theorem To (b:Bool)(l:Za5)(n:Nat):∀d:Nat,occ b l (n+d)=occ b l n++((ft d).filter λp=>l.getD (n+p) NH==b).map (n + ·)
 |0=>by simp
 |d+1=>by
  rw[show n+(d+1)=n+d+1 by lia,Pk,To b l n d,jo,lw,ge,jy,yV];congr 2;cases l.getD (n+d) NH==b<;>rfl
theorem gS {b:Bool}{l:Za5}{n m i:Nat}(h:n<=m)(hi:i<(occ b l n).9):(occ b l m)[i]?=(occ b l n)[i]?:=by
 obtain⟨d,rfl⟩:=HM h;rw[To,gv hi]
theorem Af9 {b:Bool}{l:Za5}{n m:Nat}(h:n<=m):(occ b l n).9<=(occ b l m).9:=by
 obtain⟨d,rfl⟩:=HM h;rw[To,fq];lia
theorem Ti (l:Za5):∀n:Nat,(occ NG l n).9=cnt l n/\(occ NH l n).9+cnt l n=n
 |0=>by simp[occ,cnt]
 |n+1=>by
  obtain⟨h1,h2⟩:=Ti l n;have e:cnt l (n+1)=cnt l n+(l.getD n NH).toNat:=by
   unfold cnt;rw[i6,va,iq]
   cases hx:l[n]? with
   |none=>simp
   |some b=>cases b<;>simp
  rw[Pk,Pk,e];cases l.getD n NH<;>simp<;>lia
def M7 (b:Bool)(l:Za5)(j:Nat):Za4:=(ft 32).filter λp=>l.getD (32*j+p) NH==b
theorem Ui (b:Bool)(l:Za5)(j:Nat):occ b l (32*(j+1))=occ b l (32*j)++(M7 b l j).map (32*j + ·):=by
 rw[show 32*(j+1)=32*j+32 by lia,To];rfl
theorem Pz (f:Nat->Bool):∀n:Nat,plc 0 ((ft n).map f)=(ft n).filter f
 |0=>rfl
 |n+1=>by
  rw[jo,ge,yt,jG,Pz f n,lw,fb,fv,yV,mz]
theorem iT (w:Za5)(k:Nat):(val w).testBit k=w.getD k NH:=by
 rw[Nat.testBit_eq_decide_div_mod_eq,Tu];cases w.getD k NH<;>rfl
def Op (b:Bool):Nat:=if b then 0 else 4294967295
theorem Mm (b:Bool)(l:Za5)(j:Nat):val (A4 l j) ^^^ Op b=val ((ft 32).map λp=>l.getD (32*j+p) NH==b):=by
 refine xy λi=>?_;rw[Nat.testBit_xor,iT,iT];have hf:(Op b).testBit i=(!b&&decide (i<32)):=by
  cases b
  .show(2 ^ 32-1).testBit i=_
   rw[AS];rfl
  .show(0:Nat).testBit i=_
   rw[Nat.zero_testBit];rfl
 rw[hf]
 by_cases hi:i<32
 .rw[Ld l j hi,iq (l:=zc _ _),fg,gn hi]
  show _=(l.getD (32*j+i) NH==b);rw[decide_eq_true hi];cases l.getD (32*j+i) NH<;>cases b<;>rfl
 .rw[decide_eq_false hi,iq,jc (by unfold A4;rw[gq];lia),iq,jc (by rw[fb,fv];lia)]
  simp
theorem lH (b:Bool)(l:Za5)(j k:Nat):nth (val (A4 l j) ^^^ Op b) k=(M7 b l j)[k]?:=by
 rw[Mm,iA,Pz];rfl
theorem Adt (b:Bool)(l:Za5)(j:Nat):pc (val (A4 l j) ^^^ Op b)=(M7 b l j).9:=by
 rw[Mm,Nu,<-Vq _ 0,Pz];rfl
theorem Aca (w:Za5)(k:Nat):val w%2 ^ k=val (w.take k):=by
 refine xy λi=>?_;rw[Nat.testBit_mod_two_pow,iT,iT,iq,iq,og]
 by_cases hi:i<k<;>simp[hi]
theorem Uo {b:Bool}{l:Za5}{n i t:Nat}(h:(occ b l n)[i]?=en t):t<n/\(l.getD t NH==b)=NG:=by
 have:=ip h;unfold occ at this;rw[tx] at this;exact{ki.mp this.1,this.2}
def dAt (ds:Za4)(k:Nat):Nat:=ds.getD k 0
def opn (ds:Za4):Nat->Nat
 |0=>0
 |k+1=>dAt ds k+1
def way (ds:Za4):Nat->List Int
 |0=>[-1]
 |k+1=>(way ds k).take (dAt ds k+1)++[(k:Int)]
def Dok (ds:Za4):Prop:=∀k,k<ds.9->dAt ds k<=opn ds k
def eld (ds:Za4)(k:Nat):Int:=(way ds k).getD (dAt ds k) 0
def F6 (ds:Za4):List Int:=(ft ds.9).map (eld ds)
theorem Hg {ds:Za4}(h:Dok ds):∀k,k<=ds.9->(way ds k).9=opn ds k+1
 |0,_=>rfl
 |k+1,hk=>by
  show((way ds k).take (dAt ds k+1)++[(k:Int)]).9=dAt ds k+1+1;have:=Hg h k ();have:=h k ();rw[fq,gq];simp only[iu,kl];lia
theorem Ph {ds:Za4}(h:Dok ds):∀k,k<=ds.9->(way ds k)[0]?=en (-1)
 |0,_=>rfl
 |k+1,hk=>by
  show((way ds k).take (dAt ds k+1)++[(k:Int)])[0]?=en (-1);have e:=Ph h k ();have hl:=Hg h k ();rw[gv (by rw[gq];lia),jt ()];exact e
theorem fE {ds:Za4}(h:Dok ds):∀(k j:Nat) (x:Int),k<=ds.9->(way ds k)[j+1]?=en x->∃v:Nat,x=(v:Int)/\v<k/\dAt ds v=j
 |0,j,x,_,e=>by cases e
 |k+1,j,x,hk,e=>by
  have e:((way ds k).take (dAt ds k+1)++[(k:Int)])[j+1]?=en x:=e;have hl:=Hg h k ();have hd:=h k ();have hl2:((way ds k).take (dAt ds k+1)).9=dAt ds k+1:=by rw[gq];lia
  by_cases hj:j+1<dAt ds k+1
  .rw[gv (),jt hj] at e
   obtain⟨v,hv,hlt,hdv⟩:=fE h k j x () e;exact{v,hv,(),hdv}
  .rw[ig (),hl2] at e
   have e0:j+1-(dAt ds k+1)=0:=by
    have:=(gg.mp e).1;simp only[iu,kl] at this;lia
   rw[e0] at e;have e:=fk e;exact{k,e.symm,(),()}
theorem Acr {ds:Za4}(h:Dok ds):∀(k i j:Nat) (x y:Int),k<=ds.9->i<j->(way ds k)[i]?=en x->(way ds k)[j]?=en y->x<y
 |0,i,j,x,y,_,hij,e1,e2=>by
  have:=(gg.mp e2).1;simp only[way,iu,kl] at this;lia
 |k+1,i,j,x,y,hk,hij,e1,e2=>by
  have hl:=Hg h k ();have hd:=h k ();have hl2:((way ds k).take (dAt ds k+1)).9=dAt ds k+1:=by rw[gq];lia
  have e2':((way ds k).take (dAt ds k+1)++[(k:Int)])[j]?=en y:=e2;have e1':((way ds k).take (dAt ds k+1)++[(k:Int)])[i]?=en x:=e1
  by_cases hj:j<dAt ds k+1
  .rw[gv (),jt hj] at e2'
   rw[gv (),jt ()] at e1';exact Acr h k i j x y () hij e1' e2'
  .rw[ig (),hl2] at e2'
   have e0:j-(dAt ds k+1)=0:=by
    have:=(gg.mp e2').1;simp only[iu,kl] at this;lia
   rw[e0] at e2';have ey:=fk e2';rw[gv (),jt ()] at e1'
   cases i with
   |zero=>
    rw[Ph h k ()] at e1';have:=fk e1';lia
   |succ i=>
    obtain⟨v,hv,hlt,_⟩:=fE h k i x () e1';lia
theorem oW {ds:Za4}(h:Dok ds){k:Nat}(hk:k<ds.9):(way ds k)[dAt ds k]?=en (eld ds k):=by
 have hl:=Hg h k ();have hd:=h k hk;unfold eld l8;rw[fc ()];rfl
theorem Ade {ds:Za4}(h:Dok ds){k:Nat}(hk:k<ds.9)(e:eld ds k=-1):dAt ds k=0:=by
 have ha:=oW h hk
 cases hd:dAt ds k with
 |zero=>rfl
 |succ j=>
  rw[hd] at ha;obtain⟨v,hv,_⟩:=fE h k j _ () ha;lia
theorem kW {ds:Za4}(h:Dok ds){k:Nat}(hk:k<ds.9)(e:eld ds k≠-1):∃v:Nat,eld ds k=(v:Int)/\v<k/\dAt ds k=dAt ds v+1:=by
 have ha:=oW h hk
 cases hd:dAt ds k with
 |zero=>
  rw[hd,Ph h k ()] at ha;exact absurd (fk ha).symm e
 |succ j=>
  rw[hd] at ha;obtain⟨v,hv,hlt,hdv⟩:=fE h k j _ () ha;exact{v,hv,hlt,()}
theorem Ahz {ds:Za4}(h:Dok ds){k:Nat}(hk:k<ds.9):-1<=eld ds k:=by
 by_cases e:eld ds k=-1
 .lia
 .obtain⟨v,hv,_⟩:=kW h hk e
  lia
theorem F3 (ds:Za4):(F6 ds).9=ds.9:=by unfold F6;rw[fb,fv]
theorem uE {ds:Za4}{k:Nat}(hk:k<ds.9):(F6 ds)[k]?=en (eld ds k):=by
 unfold F6;rw[fg,gn hk];rfl
def B8 (ds:Za4)(k:Nat):Za5:=gd (opn ds k-dAt ds k) NH++[NG]
def Xq (ds:Za4)(k:Nat):Za5:=((ft k).map (B8 ds)).flatten
def E6 (ds:Za4):Za5:=Xq ds ds.9++gd (opn ds ds.9) NH
theorem Mu (ds:Za4)(k:Nat):Xq ds (k+1)=Xq ds k++B8 ds k:=by
 unfold Xq;rw[jo,ge,yc];simp
theorem jP {ds:Za4}(h:Dok ds):∀k,k<=ds.9->(Xq ds k).9+opn ds k=2*k
 |0,_=>rfl
 |k+1,hk=>by
  have:=jP h k ();have:=h k ();rw[Mu,fq];show(Xq ds k).9+(gd (opn ds k-dAt ds k) NH++[NG]).9+(dAt ds k+1)=2*(k+1);rw[fq,jl];simp only[iu,kl];lia
theorem Gv {ds:Za4}(h:Dok ds):(E6 ds).9=2*ds.9:=by
 unfold E6;rw[fq,jl];exact jP h _ (fm _)
def Vs:Nat->Za5->Prop
 |h,[]=>h=0
 |h,NH::s=>0<h/\Vs (h-1) s
 |h,NG::s=>Vs (h+1) s
theorem Xx:∀(m h:Nat) (s:Za5),Vs h s->Vs (h+m) (gd m NH++s)
 |0,h,s,v=>v
 |m+1,h,s,v=>by
  rw[jf];refine{(),?_};show Vs (h+(m+1)-1) (gd m NH++s);rw[show h+(m+1)-1=h+m by lia];exact Xx m h s v
theorem rY {ds:Za4}(h:Dok ds):∀(m k:Nat),k+m=ds.9->Vs (opn ds k) (((ft m).map λi=>B8 ds (k+i)).flatten++gd (opn ds ds.9) NH)
 |0,k,e=>by
  have e:k=ds.9:=()
  subst e;have:=Xx (opn ds ds.9) 0 [] rfl;rw[mz,lu] at this;exact this
 |m+1,k,e=>by
  have ih:=rY h m (k+1) ();have hd:=h k ();rw[n9,jh,jk,jx];have e1:((λi=>B8 ds (k+i)) ∘ EF)=λi=>B8 ds (k+1+i):=by
   funext i
   show B8 ds (k+(i+1))=B8 ds (k+1+i);rw[show k+(i+1)=k+1+i by lia]
  rw[e1];show Vs (opn ds k) ((gd (opn ds k-dAt ds (k+0)) NH++[NG]++_)++_);rw[DJ,jy,jy];have:=Xx (opn ds k-dAt ds k) (dAt ds k) (NG::(((ft m).map λi=>B8 ds (k+1+i)).flatten++gd (opn ds ds.9) NH)) ih;rw[show dAt ds k+(opn ds k-dAt ds k)=opn ds k by lia] at this;exact this
theorem yW {ds:Za4}(h:Dok ds):Vs 0 (E6 ds):=by
 have:=rY h ds.9 0 ();unfold E6 Xq;have e:(λi=>B8 ds (0+i))=B8 ds:=by funext i;rw[mz]
 rw[e] at this;exact this
theorem Vn:∀(m n:Nat) (s t:Za5),gd m NH++NG::s=gd n NH++NG::t->m=n/\s=t
 |0,0,s,t,e=>{rfl,by simpa using e}
 |0,n+1,s,t,e=>by rw[jf] at e;cases e
 |m+1,0,s,t,e=>by rw[jf] at e;cases e
 |m+1,n+1,s,t,e=>by
  rw[jf,jf] at e;obtain⟨a,b⟩:=Vn m n s t (EU e).2;exact{(),b}
theorem nJ {ds es:Za4}(h1:Dok ds)(h2:Dok es)(hl:ds.9=es.9):∀(m k:Nat),k+m=ds.9->opn ds k=opn es k ->
  ((ft m).map λi=>B8 ds (k+i)).flatten++gd (opn ds ds.9) NH=((ft m).map λi=>B8 es (k+i)).flatten++gd (opn es es.9) NH->∀i,k<=i->i<ds.9->dAt ds i=dAt es i
 |0,k,e,_,_=>λi a b=>()
 |m+1,k,e,ho,hr=>λi a b=>by
  have f:∀xs:Za4,((ft (m+1)).map λi=>B8 xs (k+i)).flatten=gd (opn xs k-dAt xs k) NH++NG::((ft m).map λi=>B8 xs (k+1+i)).flatten:=λxs=>by
   rw[n9,jh,jk,jx];have e1:((λi=>B8 xs (k+i)) ∘ EF)=λi=>B8 xs (k+1+i):=by
    funext i
    show B8 xs (k+(i+1))=B8 xs (k+1+i);rw[show k+(i+1)=k+1+i by lia]
   rw[e1];show(gd (opn xs k-dAt xs (k+0)) NH++[NG])++_=_;rw[DJ,jy];rfl
  rw[f,f,jy,jy,vm,vm] at hr;obtain⟨e1,e2⟩:=Vn _ _ _ _ hr;have d1:=h1 k ();have d2:=h2 k ();have hk:dAt ds k=dAt es k:=()
  by_cases hi:i=k
  .rw[hi];exact hk
  .exact nJ h1 h2 hl m (k+1) () (by show dAt ds k+1=dAt es k+1;lia) e2 i () b
theorem zO {ds es:Za4}(h1:Dok ds)(h2:Dok es)(e:E6 ds=E6 es):ds=es:=by
 have hl:ds.9=es.9:=by
  have a:=Gv h1;have b:=Gv h2;rw[e] at a;lia
 have z:∀xs:Za4,E6 xs=((ft xs.9).map λi=>B8 xs (0+i)).flatten++gd (opn xs xs.9) NH:=λxs=>by
  unfold E6 Xq;have e:(λi=>B8 xs (0+i))=B8 xs:=by funext i;rw[mz]
  rw[e]
 have key:=nJ h1 h2 hl ds.9 0 () rfl (by rw[<-z,e,z,hl]);refine List.ext_getElem hl λk a b=>?_;have:=key k () a;unfold dAt at this
 simpa [l8,a,b] using this
end _W
end
section
namespace _L
open PySem PySem.Spec PyProof.Rows
def Kd {α:Type}:Sem α->Prop
 |.pure _=>True
 |.raise _=>True
 |.unsupported _=>True
 |.finish _=>True
 |.rule _ k=>Kd (k .unit)
 |.at _ k=>Kd (k .unit)
 |.load _ _ k=>∀o,Kd (k o)
 |.update _ _ f k=>(∀o,(f o).dict=o.dict/\(f o).isFreed=o.isFreed)/\Kd (k .unit)
 |.alloc _ k=>∀a,Kd (k a)
 |.loadIfAlive _ k=>∀o,Kd (k o)
 |.point _ k=>Kd (k .unit)
 |.fresh k=>∀t,Kd (k t)
 |.ask k=>∀x,Kd (k x)
 |.stack k=>∀x,Kd (k x)
 |.handled _ k=>∀x,Kd (k x)
 |.thread k=>∀x,Kd (k x)
 |_=>False
theorem Kd.bind {α β:Type}{m:Sem α}{f:α->Sem β}(h:Kd m)(hf:∀a,Kd (f a)):Kd (m >>= f):=by
 show Kd (m.bind f)
 induction m<;>first|exact hf _|exact h.elim|exact trivial|skip
 all_goals (rename_i ih;first|exact ih _ h|exact λo=>ih o (h o)|exact{h.1,ih _ h.2})
def Ky (h h':i8):Prop:=∀b o,h.get? b=en o->∃o',h'.get? b=en o'/\o'.dict=o.dict
theorem Ky.refl (h:i8):Ky h h:=λ_ o e=>⟨o,e,rfl⟩
theorem Ky.trans {h2 h3:i8}(a:Ky h1 h2)(b:Ky h2 h3):Ky h1 h3:=λx o e=>by
 obtain⟨o1,e1,d1⟩:=a x o e;obtain⟨o2,e2,d2⟩:=b x o1 e1;exact{o2,e2,d2.trans d1}
theorem qU (h:i8)(o:Obj):Ky h (h.push o):=λ_ u e=>{u,fj _ e,rfl}
theorem vA {h:i8}{a:fe}{f:Obj->Obj}(hf:∀o,(f o).dict=o.dict/\(f o).isFreed=o.isFreed):Ky h (h.update a f):=λb o e=>by
 by_cases hb:b=a
 .subst hb
  have fr:=(Heap.get?_some_iff.mp e).2;exact{f o,ku f e (by rw[(hf o).2];exact fr),(hf o).1}
 .exact{o,(jr _ _ (n5 hb)).trans e,rfl}
theorem Ajc {α:Type}{Γ:PySem.Ctx}{m:Sem α}:∀{Q:α->Pos->gb->Prop} {E:fu->Pos->gb->Prop} {p:Pos} {s:gb},Kd m->LL M Γ m Q E p s->LL M Γ m (λa p' s'=>Q a p' s'/\Ky s.5 s'.5) E p s:=by
 induction m with
 |pure x=>exact λ_ h=>{h,Ky.refl _}
 |raise v=>exact λ_ h=>h
 |unsupported=>exact λ_ h=>h
 |finish=>exact λ_ h=>h
 |rule _ k ih=>exact λq h=>ih _ q h
 | «at» _ k ih=>exact λq h=>ih _ q h
 |load a _ k ih=>
  intro Q E p s q h;obtain⟨o,ho,h⟩:=h;exact{o,ho,ih o (q o) h}
 |update a _ f k ih=>
  intro Q E p s q h;obtain⟨ha,h⟩:=h;exact{ha,JQ _ _ _ (λ_ _ _ z=>{z.1,(vA q.1).trans z.2}) (λ_ _ _ z=>z) _ _ (ih _ q.2 h)}
 |alloc o k ih=>
  intro Q E p s q h;exact JQ _ _ _ (λ_ _ _ z=>{z.1,(qU _ o).trans z.2}) (λ_ _ _ z=>z) _ _ (ih _ (q _) h)
 |loadIfAlive _ k ih=>exact λq h=>ih _ (q _) h
 |point _ k ih=>exact λq h=>ih _ q h
 |fresh k ih=>exact λq h=>ih _ (q _) h
 |ask k ih=>exact λq h=>ih _ (q _) h
 |stack k ih=>exact λq h=>ih _ (q _) h
 |handled _ k ih=>exact λq h=>ih _ (q _) h
 |thread k ih=>exact λq h=>ih _ (q _) h
 |_=>exact λq=>q.elim
theorem Rg {α:Type}{m:Sem α}{Q:α->gb->Prop}{E:Za0}(q:Kd m)(h:wpAny M A m Q E s):wpAny M A m (λa s'=>Q a s'/\Ky s.5 s'.5) E s:=λΓ p hΓ=>Ajc q (h Γ p hΓ)
theorem iS (a:fe):Kd (load a):=λ_=>trivial
theorem nM (v:fu):Kd (fieldsOf v):=by
 unfold fieldsOf;split
 .exact Kd.bind (iS _) λo=>by split<;>exact trivial
 .exact trivial
theorem Ob (v:fu)(i:Nat):Kd (field v i):=Kd.bind (nM v) λa=>by split<;>exact trivial
theorem Adr (f:Array fu->Array fu)(o:Obj):(IA f o).dict=o.dict/\(IA f o).isFreed=o.isFreed:=by
 obtain⟨c,d,dt,sl⟩:=o;cases dt<;>exact⟨rfl,rfl⟩
theorem L6 (v:fu)(i:Nat)(x:fu):Kd (setField v i x):=by
 unfold setField;split
 .unfold updateField
  refine Kd.bind (iS _) λo=>?_;split
  .split
   .exact{Adr _,trivial}
   .exact trivial
  .exact trivial
 .exact trivial
theorem J9 (e:fu)(f:Option fe):Kd (setFlight e f):=by
 unfold setFlight;refine Kd.bind (Ob _ _) λtb=>?_;split
 .exact L6 _ _ _
 .exact trivial
theorem mG:∀l:List Env,Kd (readyFrames l)
 |[]=>trivial
 |env::outer=>by
  unfold readyFrames;split
  .rename_i f hf
   refine Kd.bind (iS _) λo=>?_;split
   .exact trivial
   .refine Kd.bind ?_ λi=>Kd.bind ?_ λb=>{λo=>?_,mG outer}
    .unfold behindIsImport
     split
     .exact trivial
     .split
      .exact trivial
      .exact Kd.bind (Ob _ _) λ_=>trivial
    .unfold keptBack
     split
     .split
      .exact trivial
      .refine Kd.bind ?_ λ_=>trivial
       unfold underTheClaimsCaller;exact λ_=>trivial
     .exact trivial
    .obtain⟨c,d,dt,sl⟩:=o
     cases dt<;>exact⟨rfl,rfl⟩
  .exact trivial
theorem pH (env:Env):Kd (AY env):=by
 unfold AY;refine Kd.bind (λ_=>trivial) λl=>Kd.bind ?_ λo=>?_
 .unfold frameObject
  split
  .exact trivial
  .exact Kd.bind (mG _) λ_=>trivial
 .split<;>exact trivial
theorem zI (f:fe)(b:Bool):Kd (entryPlaceOf f b):=by
 unfold entryPlaceOf;refine Kd.bind (λ_=>trivial) λl=>?_;split<;>exact trivial
theorem xY (a b c d e:fu)(l:Za3):Kd (wc a b c d e l):=by
 unfold wc newFields;generalize ([a,b,c,d,e]++if l.isEmpty=NG then gd 6 mr else l).6=vs;unfold newObj;dsimp only;have as_is:Kd (newObjAsIs (.type "traceback") (.fields vs) p9):=Kd.bind (m:=alloc _) (λ_=>trivial) λ_=>trivial;split
 .exact Kd.bind (m:=unsupported _) trivial λ_=>as_is
 .exact as_is
theorem rS (e:fu)(env:Env):Kd (noteFrame e env):=by
 unfold noteFrame;have jp:∀(f:fe) (head:fu),Kd (do
   let a <-AY env
   let b <-entryPlaceOf f (head != mr)
   let c <-wc head a mr (rawInt ↑f) mr b
   setField e 1 c):=λf head=>Kd.bind (pH _) λ_=>Kd.bind (zI _ _) λ_=>Kd.bind (xY _ _ _ _ _ _) λ_=>L6 _ _ _
 split
 .refine Kd.bind (Ob _ _) λhead=>?_
  dsimp only;split
  .refine Kd.bind (Ob _ _) λv=>?_
   split
   .exact trivial
   .exact Kd.bind (L6 _ _ _) λ_=>jp _ _
  .exact jp _ _
 .exact trivial
theorem Nx (e:fu)(env:Env):Kd (leaving env e):=Kd.bind (rS _ _) λ_=>J9 _ _
def S5 (B:i8)(l:List Env)(e:fe)(cls a0:fu)(od:Option fe)(h:i8):Prop:=wb B l e cls a0 h/\∃o,h.get? e=en o/\o.dict=od
def Aey (B:i8)(l:List Env)(e:fe)(cls a0:fu)(od:Option fe)(L:fe)(h:i8):Prop:=KU B l e cls a0 L h/\∃o,h.get? e=en o/\o.dict=od
theorem S5.first {B h:i8}{l:List Env}{e:fe}{cls a0:fu}(x:S5 B l e cls a0 od h):∃oe vs,h.get? e=en oe/\oe.cls=cls/\oe.data=.fields vs/\oe.dict=od:=by
 obtain⟨f,o,ho,hd⟩:=x;obtain⟨oe,vs,he,hc,hv,_⟩:=f.first;rw[ho] at he;cases he;exact⟨o,vs,ho,hc,hv,hd⟩
section
variable {M:yb} {A:jd} {E:Za0} {s:gb} {B:i8} {env:Env} {outer l:List Env} {L e:fe} {cls a0:fu} {od:Option fe} {Q:Unit->gb->Prop}
theorem Mf {h:i8}(k:Ky h h')(x:∃o,h.get? e=en o/\o.dict=od):∃o,h'.get? e=en o/\o.dict=od:=by
 obtain⟨o,ho,hd⟩:=x;obtain⟨o2,ho2,hd2⟩:=k e o ho;exact{o2,ho2,hd2.trans hd}
theorem pN (hfr:A.frames=en (env::outer))(hf:env.frame=en L)(fl:S5 B (env::outer) e cls a0 od s.5)(q:∀h',S5 B outer e cls a0 od h'->s.heap.UpToSlots h'->Q .unit { s with heap:=h' }):wpAny M A (leaving env (.ref e)) Q E s:=by
 refine km (Rg (Nx _ _) (wpAny_leaves_onW (Q:=λ_ s'=>∃h',s'={ s with heap:=h' }/\wb B outer e cls a0 h'/\s.heap.UpToSlots h') hfr hf fl.1 λh' f u=>⟨h',rfl,f,u⟩)) (λ_ s' z=>?_) λ_ _ z=>z;obtain⟨⟨h',rfl,f,u⟩,k⟩:=z;exact q h' {f,Mf k fl.2} u
theorem wC (hfr:A.frames=en (env::outer))(hf:env.frame=en L)(fl:S5 B (env::outer) e cls a0 od s.5)(q:∀h',Aey B (env::outer) e cls a0 od L h'->s.heap.UpToSlots h'->Q .unit { s with heap:=h' }):wpAny M A (noteFrame (.ref e) env) Q E s:=by
 refine km (Rg (rS _ _) (wpAny_looks_onW (Q:=λ_ s'=>∃h',s'={ s with heap:=h' }/\KU B (env::outer) e cls a0 L h'/\s.heap.UpToSlots h') hfr hf fl.1 λh' f u=>⟨h',rfl,f,u⟩)) (λ_ s' z=>?_) λ_ _ z=>z;obtain⟨⟨h',rfl,f,u⟩,k⟩:=z;exact q h' {f,Mf k fl.2} u
theorem Agi (hh:Aey B l e cls a0 od L s.5)(q:∀h',S5 B l e cls a0 od h'->s.heap.UpToSlots h'->Q .unit { s with heap:=h' }):wpAny M A (setFlight (.ref e) p9) Q E s:=by
 refine km (Rg (J9 _ _) (wpAny_landsW (Q:=λ_ s'=>∃h',s'={ s with heap:=h' }/\wb B l e cls a0 h'/\s.heap.UpToSlots h') hh.1 λh' f u=>⟨h',rfl,f,u⟩)) (λ_ s' z=>?_) λ_ _ z=>z;obtain⟨⟨h',rfl,f,u⟩,k⟩:=z;exact q h' {f,Mf k hh.2} u
theorem Ahv (fl:S5 B l e cls a0 od s.5)(q:∀h',S5 B l e cls a0 od h'->s.heap.UpToSlots h'->Q .unit { s with heap:=h' }):wpAny M A (setFlight (.ref e) p9) Q E s:=by
 refine km (Rg (J9 _ _) (lands_againW (Q:=λ_ s'=>∃h',s'={ s with heap:=h' }/\wb B l e cls a0 h'/\s.heap.UpToSlots h') fl.1 λh' f u=>⟨h',rfl,f,u⟩)) (λ_ s' z=>?_) λ_ _ z=>z;obtain⟨⟨h',rfl,f,u⟩,k⟩:=z;exact q h' {f,Mf k fl.2} u
theorem fI {h:i8}{args:Za3}(hfr:A.frames=en (env::outer))(hf:env.frame=en L)(hkb:B.StaysIn h)(hl:h.FunFrames B (env::outer))(hx:ut h s.5 e cls args)
  (q:∀h' t,S5 B outer e cls (.ref t) p9 h'->s.heap.UpToSlots h'->Q .unit { s with heap:=h' }):wpAny M A (leaving env (.ref e)) Q E s:=by
 refine km (Rg (Nx _ _) (wpAny_leaves_madeW (Q:=λ_ s'=>∃h' t,s'={ s with heap:=h' }/\wb B outer e cls (.ref t) h'/\s.heap.UpToSlots h') hfr hf hkb hl hx λh' t f _ _ u=>⟨h',t,rfl,f,u⟩)) (λ_ s' z=>?_) λ_ _ z=>z;obtain⟨⟨h',t,rfl,f,u⟩,k⟩:=z;obtain⟨_,he,_⟩:=hx.there;exact q h' t {f,Mf k {_,he,rfl}} u
end
structure Ai3 (outer:List Env) (H':Hp) (h h':i8) (e C:fe) (od:Option fe):Prop where
 new:h.get? e=p9
 unt:H' e=p9
 fly:∃a0 B,S5 B outer e (.ref C) a0 od h'/\∀b o,h'.get? b=en o->B.get? b=p9->b=e\/b∈frs outer\/(h.get? b=p9/\H' b=p9)
theorem B3.there {P:gm}{h:i8}{a:fe}{o:HO}(x:B3 P w H h a o):∃ob,h.get? a=en ob:=by
 cases o with
 |lst xs=>obtain⟨_,_,_,_,e⟩:=x;exact{_,e}
 |tup xs=>obtain⟨_,_,_,o,e,_⟩:=x;exact{_,e}
 |dK kvs=>obtain⟨_,_,_,_,o,_,_,e,_⟩:=x;exact{_,e}
 |dT kvs=>obtain⟨_,_,_,_,o,_,_,e,_⟩:=x;exact{_,e}
 |set S n=>obtain⟨o,_,_,_,e,_⟩:=x;exact{_,e}
 |ins C dx fs=>obtain⟨_,_,_,e,_⟩:=x;exact{_,e}
 |own y=>exact x
 |xd fs=>obtain⟨_,⟨_,_,_,e,_⟩,_⟩:=x;exact{_,e}
 |rng lo hi=>obtain⟨_,_,_,e⟩:=x;exact{_,e}
 |frz ob u=>obtain⟨e,_⟩:=x;exact{_,e}
 |tbl ps=>exact{_,(show h.get? a=en _ from x)}
 |met f y=>exact{_,(show h.get? a=en _ from x)}
 |ext φ=>obtain⟨_,e,_⟩:=x;exact e
def CXE (P:gm)(w:iz):CXT:=λouter H s E ex s'=>∃e C od H',ex=.ref e/\s'.os=s.os/\vc s'.gens/\Un (frs outer) [] H H' s.5 s'.5/\HOk P w H' s'.5/\(∀b∈frs outer,H' b=p9)/\Ai3 outer H' s.5 s'.5 e C od/\E (.ref C) od H'
theorem uS {P:gm}{w:iz}{H:Hp}{h h':i8}{B:i8}{outer:List Env}{e:fe}{n:i8}(ok:HOk P w H h)(st:B.StaysIn h')(he:H e=p9)(hf:∀b∈frs outer,H b=p9)
  (hB:∀b o,h.get? b=en o->B.get? b=p9->b=e\/b∈frs outer\/(n.get? b=p9/\H b=p9))(hBh:∀b o,B.get? b=en o->h.get? b=en o):HOk P w H h':=λa u ea=>by
 have tr:∀b v,H b=en v->∀o,h.get? b=en o->h'.get? b=en o:=λb v ev o eo=>by
  cases q:B.get? b with
  |some o'=>
   have:=hBh b o' q;rw[eo] at this;cases this;exact st b o q
  |none=>
   rcases hB b o eo q with z|z|z
   .rw[z,he] at ev;cases ev
   .rw[hf b z] at ev;cases ev
   .rw[z.2] at ev;cases ev
 refine(ok a u ea).stay (λb o hb q=>?_) (λ_ q=>q) λ_ _ q=>q;rcases hb with z|z
 .subst z;exact tr b u ea o q
 .exact tr b _ z o q
section
variable {P:gm} {w:iz} {K:e7} {mg:Za2} {base:i8} {N:Za6} {qual:Str} {scope:nr} {f:fe} {cd:fu} {A:jd} {outer:List Env} {mt:gb} {QP:Hp} {E:XK}
theorem iF {σ:St}{e:fe}{a0:fu}{B h2:i8}{g:Array GN}{d:Drawn}{t:Nat}(I:Inv (Ce CX P w K mg base N qual scope f cd A outer mt QP E) pins σ H s)
  (un:Un (frs (Ce CX P w K mg base N qual scope f cd A outer mt QP E).stack) [] H H' s.5 h1)(hok:HOk P w H' h1)(hfr:∀b∈frs (Ce CX P w K mg base N qual scope f cd A outer mt QP E).stack,H' b=p9)(hg:vc g)
  (hn:s.heap.get? e=p9)(hu:H' e=p9)(hB:∀b o,h1.get? b=en o->B.get? b=p9->b=e\/b∈frs (Ce CX P w K mg base N qual scope f cd A outer mt QP E).stack\/(s.heap.get? b=p9/\H' b=p9))(hBh:B.StaysIn h1)
  (fl:S5 B outer e (.ref C) a0 od h2)(up:h1.UpToSlots h2)(q:E (.ref C) od H'):CXE P w outer QP mt E (.ref e) { s with heap:=h2,gens:=g,drawn:=d,toks:=t }:=by
 have hBst:B.StaysIn h2:=fl.1.1;have st:∀b,b∈frs (Ce CX P w K mg base N qual scope f cd A outer mt QP E).stack->b=mt.heap.objs.8\/b∈frs outer:=λb hb=>by
  rcases i5.mp (I.stkSub b hb) with z|z
  .exact .inl z
  .exact .inr z
 have so:∀b,b∈frs outer->b∈frs (Ce CX P w K mg base N qual scope f cd A outer mt QP E).stack:=λb hb=>gw _ hb;have neL:∀b o,mt.heap.get? b=en o->b≠mt.heap.objs.8:=λb o z=>io (gi z);have inS:∀b o,mt.heap.get? b=en o->∃o',s.heap.get? b=en o':=λb o z=>I.base.there b o z (by intro y;cases y);have in1:∀b o,s.heap.get? b=en o->∃o',h1.get? b=en o':=λb o z=>un.there b o z (by simp);have fz:∀b∈frs (Ce CX P w K mg base N qual scope f cd A outer mt QP E).stack,∀o,h1.get? b=en o->∃sl,h2.get? b=en { o with slots:=sl }:=λb hb o z=>by
  refine up b o z λvs y=>?_;obtain⟨_,o',ho',hd⟩:=I.stack.mem hb;obtain⟨sl,z2⟩:=un.any ho' (I.stkFree b hb) (by simp);rw[z] at z2;cases z2;exact hd vs y
 have keep1:∀b o,s.heap.get? b=en o->h1.get? b=en o->b∉frs (Ce CX P w K mg base N qual scope f cd A outer mt QP E).stack->h2.get? b=en o:=λb o z z1 nf=>by
  cases y:B.get? b with
  |some o'=>
   have:=hBh b o' y;rw[z1] at this;cases this;exact hBst b o y
  |none=>
   rcases hB b o z1 y with r|r|r
   .rw[r,hn] at z;cases z
   .exact absurd r nf
   .rw[r.1] at z;cases z
 refine{e,C,od,H',rfl,I.os,hg,{λb o z n nf _=>?_,λb o z n nf _=>?_,λb o z n _=>?_,λb o z _=>?_,λb xs z=>un.tups b xs (I.base.tups b xs z),λb o u z=>un.frzs b o u (I.base.frzs b o u z),λb ps z=>?_},?_,λb hb=>hfr b (so b hb),{?_,hu,a0,B,fl,λb o z y=>?_},q}
 .have z1:=I.base.keep b o z n nf (by intro y;cases y)
  have n1:=I.base.free b o z n (by intro y;cases y);have nf1:b∉frs (Ce CX P w K mg base N qual scope f cd A outer mt QP E).stack:=λy=>(st b y).elim (neL b o z) nf;exact keep1 b o z1 (un.keep b o z1 n1 nf1 (by simp)) nf1
 .obtain⟨sl,z1⟩:=I.base.slot b o z n nf (by intro y;cases y)
  have n1:=I.base.free b o z n (by intro y;cases y);obtain⟨sl2,z2⟩:=un.any z1 n1 (by simp);obtain⟨sl3,z3⟩:=fz b (so b nf) _ z2;exact⟨sl3,z3⟩
 .obtain⟨o',z1⟩:=inS b o z
  exact un.free b o' z1 (I.base.free b o z n (by intro y;cases y)) (by simp)
 .obtain⟨o1,z1⟩:=inS b o z
  obtain⟨o2,z2⟩:=in1 b o1 z1
  cases y:B.get? b with
  |some o'=>exact{o',hBst b o' y}
  |none=>
   rcases hB b o2 z2 y with r|r|r
   .rw[r,hn] at z1;cases z1
   .obtain⟨sl,z3⟩:=fz b r o2 z2
    exact{_,z3}
   .rw[r.1] at z1;cases z1
 .obtain⟨m1,e1⟩:=I.base.tbls b ps z
  obtain⟨m2,e2⟩:=un.tbls b _ e1;exact{m1++m2,by rw[e2,yo]}
 .exact uS (n:=s.5) (e:=e) (outer:=(Ce CX P w K mg base N qual scope f cd A outer mt QP E).stack) hok hBst hu hfr hB hBh
 .cases y:mt.heap.get? e with
  |none=>rfl
  |some o=>
   obtain⟨o',z⟩:=inS e o y;rw[hn] at z;cases z
 .cases y1:h1.get? b with
  |none=>
   refine .inr (.inr {?_,?_})
   .cases y2:mt.heap.get? b with
    |none=>rfl
    |some o0=>
     obtain⟨o1,z1⟩:=inS b o0 y2;obtain⟨o2,z2⟩:=in1 b o1 z1;rw[y1] at z2;cases z2
   .cases y2:H' b with
    |none=>rfl
    |some v=>
     have:=(hok b v y2).there;obtain⟨o2,z2⟩:=this;rw[y1] at z2;cases z2
  |some o1=>
   rcases hB b o1 y1 y with r|r|r
   .exact .inl r
   .rcases st b r with r2|r2
    .refine .inr (.inr {?_,hfr b r})
     cases y2:mt.heap.get? b with
     |none=>rfl
     |some o0=>exact absurd r2 (neL b o0 y2)
    .exact .inr (.inl r2)
   .refine .inr (.inr {?_,r.2})
    cases y2:mt.heap.get? b with
    |none=>rfl
    |some o0=>
     obtain⟨o1,z1⟩:=inS b o0 y2;rw[r.1] at z1;cases z1
theorem F1 (hCX:CX=CXE P w):Go (CXE P w) (Ce CX P w K mg base N qual scope f cd A outer mt QP E) E:=by
 subst hCX;intro pins σ H s ex s' I h;obtain⟨e,C,od,H',rfl,ho,hg,un,hok,hfr,⟨hn,hu,a0,B,fl,hB⟩,q⟩:=h;show wpAny (model P w) (A.deeper (envOfC qual scope mt.heap.objs.8 f cd)) (leaving (envOfC qual scope mt.heap.objs.8 f cd) (.ref e)) _ _ s';refine pN (L:=mt.heap.objs.8) I.ok.frames rfl fl λh2 fl2 up=>?_;obtain⟨hp,g,d,t,os⟩:=s';have ho:os=s.os:=ho;subst ho;exact iF (s:=s) (g:=g) (d:=d) (t:=t) I un hok hfr hg hn hu hB fl.1.1 fl2 up q
theorem pD (hCX:CX=CXE P w){σ:St}{e:fe}(I:Inv (Ce CX P w K mg base N qual scope f cd A outer mt QP E) pins σ H s)
  (mx:ut s.5 h1 e (.ref C) vs)(q:E (.ref C) p9 H):(Ce CX P w K mg base N qual scope f cd A outer mt QP E).xe (.ref e) { s with heap:=h1 }:=by
 subst hCX;show wpAny (model P w) (A.deeper (envOfC qual scope mt.heap.objs.8 f cd)) (leaving (envOfC qual scope mt.heap.objs.8 f cd) (.ref e)) _ _ _;have hin:∀env∈(Ce (CXE P w) P w K mg base N qual scope f cd A outer mt QP E).stack,∀b,env.frame=en b->b∈frs (Ce (CXE P w) P w K mg base N qual scope f cd A outer mt QP E).stack:=λenv he b hb=>qc.mpr ⟨env,he,hb⟩;refine fI (L:=mt.heap.objs.8) (s:={ s with heap:=h1 }) (B:=hideAll s.5 (frs (Ce (CXE P w) P w K mg base N qual scope f cd A outer mt QP E).stack)) I.ok.frames rfl (λb o z=>zx _ z) (AZ I.stack hin) mx λh2 tt fl2 up=>?_;have hBh:(hideAll s.5 (frs (Ce (CXE P w) P w K mg base N qual scope f cd A outer mt QP E).stack)).StaysIn h1:=λb o z=>mx.keeps b o (zx _ z);refine iF (s:=s) (g:=s.gens) (d:=s.drawn) (t:=s.toks) I (Un.kept mx.keeps) (I.hok.kept mx.keeps) I.stkFree I.bare mx.new ?_ (λb o z y=>?_) hBh fl2 up q
 .cases y:H e with
  |none=>rfl
  |some v=>
   obtain⟨o,z⟩:=(I.hok e v y).there;rw[mx.new] at z;cases z
 .by_cases hf:b∈frs (Ce (CXE P w) P w K mg base N qual scope f cd A outer mt QP E).stack
  .exact .inr (.inl hf)
  .cases z2:s.heap.get? b with
   |some o2=>
    rw[xj _ z2 hf] at y;cases y
   |none=>
    refine .inr (.inr {rfl,?_})
    cases y2:H b with
    |none=>rfl
    |some v=>
     obtain⟨o,z3⟩:=(I.hok b v y2).there;rw[z2] at z3;cases z3
end
abbrev Gc:Za3:=[.type "ValueError",.type "Exception",.type "BaseException",.type "object"]
structure Exc (K:e7) (mg:Za2) (x:Str) (C:fe):Prop where
 at_:mg x=en (.ref C)
 ex:rg K C Gc "ValueError.__new__"=NG
theorem sD {K:e7}{h:i8}{bB:Za3}{nid:String}(X:K.In h)(q:rg K C bB nid=NG) :
  ∃bm N nm qn bs hdct sn sub ab col dd k0 k1 k2 k3 k5 mN,h.get? C=en (excClassObj nm qn C N bs bm hdct sn sub ab col dd k0 k1 k2 k3 k5 nid)/\h.Ns N mN/\mN "__init__"=p9/\MY h bB bm:=by
 refine cpZ λX0 g0=>?_;unfold PySem.W.excIn at q
 cases e:K.lookup C with
 |none=>rw[e] at q;exact Bool.noConfusion q
 |some o=>
 rw[e] at q;obtain⟨cl,d,da,⟨sl⟩⟩:=o
 cases cl with
 |type s=>
  by_cases hs:s="type"
  .cases da with
   |cls cd=>
    subst hs;obtain⟨x1,x2,x3,x4,x5,x6,x7,x8,x9,x10,x11⟩:=cd;rcases x3 with _|⟨v,bm⟩
    .exact Bool.noConfusion q
    cases v with
    |ref C2=>
     rcases sl with _|⟨r0,_|⟨r1,_|⟨r2,_|⟨r3,_|⟨_|b,t⟩⟩⟩⟩⟩<;>try exact Bool.noConfusion q
     cases b with
     |builtin nn=>
      rcases t with _|⟨r5,_|⟨_,_⟩⟩<;>try exact Bool.noConfusion q
      have q:(C2==C&&nn==nid&& !x11&&PySem.W.tailIn K bB bm&&PySem.W.nsOkIn K x4&&PySem.W.nsIn K x4 "__init__"==some none)=true:=q
      simp only[Bool.and_eq_true,beq_iff_eq,Bool.not_eq_true'] at q;obtain⟨⟨⟨⟨⟨rfl,rfl⟩,rfl⟩,w4⟩,w5⟩,w6⟩:=q;exact g0 ⟨bm,x4,x1,x5,x2,x6,x7,x8,x9,x10,d,r0,r1,r2,r3,r5,h.nsMap x4,X _ _ e,.of_isNs (PySem.W.isNs_of_in X w5),PySem.W.nsMap_none_of_in X w5 w6,PySem.W.tail_of_in X w4⟩
     |_=>exact Bool.noConfusion q
    |_=>exact Bool.noConfusion q
   |_=>
    subst hs;exact Bool.noConfusion q
  .delta PySem.W.excIn.match_6 at q;exact Bool.noConfusion ((dif_neg hs).symm.trans q)
 |_=>exact Bool.noConfusion q
theorem wA {h:i8}{l:Za3}(t:MY h Gc l):l.contains (.type "BaseException")=NG:=by
 induction t with
 |base=>decide
 |own _ _ _ _ ih=>rw[List.contains_cons,ih,IK]
def Agf (C:fe)(E:XK)(t:TA):TS:=λ_ σ H=>t σ H λvs H1=>vs.9<=sizeLine/\E (.ref C) p9 H1
section
variable {P:gm} {w:iz} {K:e7} {mg:Za2} {base:i8} {N:Za6} {qual:Str} {scope:nr} {f:fe} {cd:fu} {A:jd} {outer:List Env} {mt:gb} {QP:Hp} {E:XK}
theorem lV {x:Str}{np:Pos}{a:ja}{as:List ja}{t:TA}(X:Exc K mg x C)(hg:Gl (Ce (CXE P w) P w K mg base N qual scope f cd A outer mt QP E) x)(ha:PA (Ce (CXE P w) P w K mg base N qual scope f cd A outer mt QP E) (a::as) t)
  (hdb:autoParam ((x==("__debug__":Str))=NH) QF)
  (he:autoParam (starEach (a::as) (Ce (CXE P w) P w K mg base N qual scope f cd A outer mt QP E).env=(NH,eval a (Ce (CXE P w) P w K mg base N qual scope f cd A outer mt QP E).env)::starEach as (Ce (CXE P w) P w K mg base N qual scope f cd A outer mt QP E).env) QD)
  (hpl:autoParam ((backTo cpos (starEach as (Ce (CXE P w) P w K mg base N qual scope f cd A outer mt QP E).env)).any (·.1)=NH) QD) :
  PS (Ce (CXE P w) P w K mg base N qual scope f cd A outer mt QP E) (.Raise (en (.Call (.Name x np) (a::as) [] cpos)) p9 pos) (Agf C E t):=by
 k_end;obtain⟨bm,Nn,nm,qn,bs,hdct,sn,sub,ab,col,dd,k0,k1,k2,k3,k5,mN,hC,hN,hni,hT⟩:=sD I.ok.mod.kin X.ex;refine wpAny_Raise_call_subT (C:=C) (N:=Nn) (nm:=nm) (q:=qn) (bs:=bs) (bm:=bm) (hdct:=hdct) (sn:=sn) (sub:=sub) (ab:=ab) (col:=col) (dd:=dd) (k0:=k0) (k1:=k1) (k2:=k2) (k3:=k3) (k5:=k5) (mN:=mN) F.excBase_ValueError (wA hT) (I.ok.hd rfl) ?_ hni ?_
 .rw[he]
  show((NH||(backTo cpos (starEach as _)).any (·.1)))=NH;rw[hpl];rfl
 .refine Gu I hg X.at_ {rfl,?_} hdb
  have hs:=ha cpos pins s σ H _ I h;rw[he] at hs ⊢;refine sv (thn hs λus s1 ⟨vs,H1,I1,r,hl,q⟩=>{rfl,?_,I1.bk _ _ hC,hN.keeps I1.bk,hT.keeps I1.bk,λh1 e mx=>?_})
  .have:=r.9
   show us.9<=sizeLine;lia
  .exact pD rfl I1 mx q
end
def Cx.re (X:Cx)(A':jd)(c:Bool)(xe':Za0):Cx:={ X with A:=A',calm:=c,xe:=xe' }
section
variable {X:Cx} {pins:Za1} {σ:St} {H:Hp} {s:gb} {A':jd} {c:Bool} {xe':Za0}
theorem Inv.re (I:Inv X pins σ H s)(hf:A'.frames=en X.stack)(hh:c=NG->A'.handled=p9):Inv (X.re A' c xe') pins σ H s:=
 {⟨I.ok.mod,I.ok.kind,I.ok.glob,I.ok.blt,I.ok.above,I.ok.inj,I.ok.has,I.ok.cab,hh,hf,I.ok.stk,I.ok.exf,I.ok.bs,I.ok.bsz,I.ok.noex,I.ok.exfs,I.ok.funs,I.ok.frf⟩,I.os,I.bare,I.base,I.loc,I.cell,I.free,I.freeC,I.pin,I.hok,I.len}
theorem Inv.unre (ok:X.Ok)(I:Inv (X.re A' c xe') pins σ H s):Inv X pins σ H s:=⟨ok,I.os,I.bare,I.base,I.loc,I.cell,I.free,I.freeC,I.pin,I.hok,I.len⟩
end
section
variable {X:Cx} {pins:Za1} {σ:St} {H H':Hp} {s s':gb} {e C:fe} {B h1 h2:i8}
theorem Aen (I:Inv X pins σ H s)(un:Un (frs X.stack) [] H H' s.5 h1)(hB:∀b o,h1.get? b=en o->B.get? b=p9->b=e\/b∈frs X.stack\/(s.heap.get? b=p9/\H' b=p9))(hBh:B.StaysIn h1)(st:B.StaysIn h2)(up:h1.UpToSlots h2)
  (hn:s.heap.get? e=p9):Un (frs X.stack) [] H H' s.5 h2:=by
 have fz:∀b∈frs X.stack,∀o,h1.get? b=en o->∃sl,h2.get? b=en { o with slots:=sl }:=λb hb o z=>by
  refine up b o z λvs y=>?_;obtain⟨_,o',ho',hd⟩:=I.stack.mem hb;obtain⟨sl,z2⟩:=un.any ho' (I.stkFree b hb) (by simp);rw[z] at z2;cases z2;exact hd vs y
 refine{λb o z n nf nx=>?_,λb o z n nf nx=>?_,un.free,λb o z nx=>?_,un.tups,un.frzs,un.tbls}
 .have z1:=un.keep b o z n nf nx
  cases y:B.get? b with
  |some o'=>
   have:=hBh b o' y;rw[z1] at this;cases this;exact st b o y
  |none=>
   rcases hB b o z1 y with r|r|r
   .rw[r,hn] at z;cases z
   .exact absurd r nf
   .rw[r.1] at z;cases z
 .obtain⟨sl,z1⟩:=un.slot b o z n nf nx
  obtain⟨sl2,z2⟩:=fz b nf _ z1;exact⟨sl2,z2⟩
 .obtain⟨o1,z1⟩:=un.there b o z nx
  cases y:B.get? b with
  |some o'=>exact{o',st b o' y}
  |none=>
   rcases hB b o1 z1 y with r|r|r
   .rw[r,hn] at z;cases z
   .obtain⟨sl,z3⟩:=fz b r o1 z1
    exact{_,z3}
   .rw[r.1] at z;cases z
def Y3 (e C:fe)(od:Option fe)(h:i8):Prop:=∃o vs,h.get? e=en o/\o.cls=.ref C/\o.data=.fields vs/\o.dict=od
def Us (e C:fe)(od:Option fe):HO:=.ext (Y3 e C od)
theorem jI {h2:i8}(x:Y3 e C od h1)(k:∀o,h1.get? e=en o->h2.get? e=en o):Y3 e C od h2:=let ⟨o,vs,e1,r⟩:=x;{o,vs,k o e1,r}
theorem Inv.track (I0:Inv X pins σ H s)(hex:X.ex=[])(hn0:s.heap.get? e=p9)(I:Inv X pins σ H' s')(hu:H' e=p9)(he:Y3 e C od s'.5):Inv X pins σ (upd H' e (Us e C od)) s':=by
 have nl:X.env.locals≠e:=λz=>by
  obtain⟨m,⟨o,_,_,ho,_⟩,_⟩:=I0.loc;rw[z,hn0] at ho;cases ho
 have nc:∀x c,X.env.cells.lookup x=en c->c≠e:=λx c q z=>by
  obtain⟨v,o,ho,_⟩:=I0.cell x c q;rw[z,hn0] at ho;cases ho
 have np:∀p∈X.pn++pins,p.1≠e:=λp hp z=>by
  have:=(I0.pin p hp).1;rw[z,hn0] at this;cases this
 have n0:∀b o,X.mt.heap.get? b=en o->b≠e:=λb o q z=>by
  subst z;obtain⟨o',q'⟩:=I0.base.there b o q (by rw[hex];simp);rw[hn0] at q';cases q'
 have nt:∀{b:fe} {u:HO},H' b=en u->b≠e:=λq=>An q hu;refine{I.ok,I.os,I.bare,{I.base.keep,I.base.slot,λb o q n nx=>?_,I.base.there,λb xs q=>?_,λb o u q=>?_,λb ps q=>?_},I.loc,I.cell,?_,λx c q=>?_,λp hp=>?_,λb u q=>?_,I.len}
 .rw[Aj (n0 b o q)];exact I.base.free b o q n nx
 .have:=I.base.tups b xs q;rw[Aj (nt this)];exact this
 .have:=I.base.frzs b o u q;rw[Aj (nt this)];exact this
 .obtain⟨m,q'⟩:=I.base.tbls b ps q;exact{m,by rw[Aj (nt q')];exact q'}
 .rw[Aj nl];exact I.free
 .rw[Aj (nc x c q)];exact I.freeC x c q
 .obtain⟨q1,q2,q3⟩:=I.pin p hp
  exact{q1,by rw[Aj (np p hp)];exact q2,q3}
 .by_cases hb:b=e
  .subst hb
   rw[Ae] at q;cases q;obtain⟨o,vs,he1,r⟩:=id he;exact{he,⟨o,he1⟩,λh1 h2 x k=>jI x k}
  .rw[Aj hb] at q
   exact(I.hok b u q).stay (λ_ _ _ z=>z) (λc z=>by rw[Aj (nt z)];exact z) λc xs z=>by rw[Aj (nt z)];exact z
theorem Mr {E:Za0}{n:Str}{i:Nat}{Q:Unit->gb->Prop}(I:Inv X pins σ H s)(hN:X.N.Nodup)(hi:X.N[i]?=en n)(hl:X.env.kindOf n=en .local)
  (h:∀s',Inv X pins (σ.set i p9) H s'->Q .unit s'):wpAny M A (do bindName X.env n .none;unbindBehindTheSuite X.env n pos) Q E s:=by
 obtain⟨m,hn,hlk⟩:=id I.loc;have hcls:(X.env.scope.kind==.class||(X.env.scope.kind==.module&&X.env.locals != X.env.globals))=NH:=by rw[I.ok.kind];rfl
 have XC:i<σ.9:=by rw[I.len];exact(gg.mp hi).1
 have cne:=I.cne;refine wpAny_nameGoes_keeps hl hn hcls λh' v hn' hs=>?_;have old:∀b o,X.mt.heap.get? b=en o->b≠X.env.locals:=λb o q=>io (gh (gi q) I.ok.above);refine h _ {I.ok,I.os,I.bare,{λb o q n nf nx=>?_,λb o q n nf nx=>?_,I.base.free,λb o q nx=>?_,I.base.tups,I.base.frzs,I.base.tbls},{_,hn',λj y v' e1 e2 e3=>?_},λy c q=>?_,I.free,I.freeC,λp hp=>?_,λb u q=>?_,by simpa using I.len}
 .exact(hs.2 b (old b o q)).trans (I.base.keep b o q n nf nx)
 .obtain⟨sl,z⟩:=I.base.slot b o q n nf nx
  exact{sl,(hs.2 b (old b o q)).trans z}
 .obtain⟨o',z⟩:=I.base.there b o q nx
  exact{o',(hs.2 b (old b o q)).trans z}
 .by_cases hj:j=i
  .subst hj
   rw[v9 XC] at e2;cases e2
  .rw[xo (n5 hj)] at e2
   obtain⟨u',r',q⟩:=hlk j y v' e1 e2 e3;refine{u',r',?_};rcases q with⟨k,z⟩|⟨k,c,z,z2⟩
   .refine .inl {k,?_}
    have:y≠n:=λw=>hj (Xj hN e1 (w▸hi));simp[this,z]
   .exact .inr {k,c,z,z2.sameBut hs (cne y c z)}
 .obtain⟨w',z⟩:=I.cell y c q
  exact{w',z.sameBut hs (cne y c q)}
 .obtain⟨q1,q2,q3,q4,q5⟩:=I.pin p hp
  exact{(hs.2 p.1 q3).trans q1,q2,q3,q4,q5}
 .refine(I.hok b u q).stay (λc w' hc z=>(hs.2 c ?_).trans z) (λ_ z=>z) λ_ _ z=>z
  rintro rfl;rcases hc with hc|hc
  .rw[<-hc,I.free] at q;cases q
  .rw[I.free] at hc;cases hc
end
def uH (X:Cx)(pins:Za1)(σ:St)(st:List i7)(t:TS):Prop:=∀(s:gb) (H:Hp) (D:Io),Inv X pins σ H s->t D σ H->wpAny (model X.prog X.w) X.A (execs st X.env) (SP X pins D) X.xe s
def Ahl (X:Cx)(pins:Za1)(σ:St)(st:i7)(t:TS):Prop:=∀(s:gb) (H:Hp) (D:Io),Inv X pins σ H s->t D σ H->wpAny (model X.prog X.w) X.A (exec st X.env) (SP X pins D) X.xe s
def Aib (X:Cx)(pins:Za1)(σ:St)(e:ja)(t:TE):Prop:=∀(s:gb) (H:Hp) (Q:VK),Inv X pins σ H s->t σ H Q->wpAny (model X.prog X.w) X.A (eval e X.env) (EP X pins σ Q) X.xe s
def gP (CX:CXT)(X:Cx)(pins:Za1)(σ:St)(E:XK):Prop:=∀(H:Hp) (s:gb) (e:fu) (s':gb),Inv X pins σ H s->CX X.stack H s E e s'->X.xe e s'
section
variable {X:Cx} {pins:Za1} {σ:St} {pos:Pos} {e:ja} {te:TE} {t u:TS}
theorem E9 (he:Aib X pins σ e te)(hs:autoParam (swapsWith e p9 pos.line X.env=pure NH) QD):Ahl X pins σ (.Expr e pos) (Acc te):=by
 intro s H D I h;exact wpAny_Expr_any (thn (he s H _ I h) λv s1 ⟨x,H1,I1,r1,q1⟩=>⟨σ,H1,I1,q1⟩) I.quiet hs
theorem L9 {c:ja}{a b:List i7}{tc:TT}(hc:PT X c tc)(ha:uH X pins σ a t)(hb:uH X pins σ b u):Ahl X pins σ (.If c a b pos) (Ag3 tc t u):=by
 intro s H D I h;refine wpAny_If (thn (hc pins s σ H _ I h) λd s1 ⟨H1,I1,q1⟩=>?_)
 cases d with
 |true=>exact ha s1 H1 D I1 (by simpa using q1)
 |false=>exact hb s1 H1 D I1 (by simpa using q1)
theorem Cl {st:i7}(h1:Ahl X pins σ st t):uH X pins σ [st] t:=by
 intro s H D I h;refine wpAny_execs_cons (thn (h1 s H D I h) λf s1 q=>?_)
 cases f with
 |next=>exact qo q
 |brk=>exact q
 |cont=>exact q
 |ret v=>exact q
end
theorem oQ {P:gm}:Go (CXE P w) X E0:=λ_ _ _ _ _ _ _ h=>by
 obtain⟨_,_,_,_,_,_,_,_,_,_,_,z⟩:=h;exact z.elim
structure yJ (P:gm) (w:iz) (K:e7) (mg:Za2) (base:i8) (name:Str) (k:Nat) (ps:Za6) (sp:Sp):Prop where
 ex:∃(f:fe) (fd:jv),Aq P w K mg base (CXE P w) k f fd ps sp/\Dy K fd ps []/\mg name=en (.ref f)/\j7 K (.ref f)=NG
structure Xg (P:gm) (w:iz) (K:e7) (mg:Za2) (base:i8) (C:fe) (m:Str) (k:Nat) (ps:Za6) (sp:Sp):Prop where
 ex:∃(f:fe) (fd:jv),Aq P w K mg base (CXE P w) k f fd ps sp/\Dy K fd ps []/\zG K C m f
 cl:Cls K C
structure zB (P:gm) (w:iz) (K:e7) (mg:Za2) (base:i8) (name:Str) (C:fe) (k:Nat) (ps:Za6) (sp:Sp):Prop where
 ex:∃(f:fe) (fd:jv),Aq P w K mg base (CXE P w) k f fd ps sp/\Dy K fd ps []/\Mk K C f/\mg name=en (.ref C)
section
variable {X:Cx} {k:Nat} {C:fe} {ps:Za6} {sp:Sp} {name m:Str} {p pos apos:Pos} {e o:ja} {es:List ja} {ta:TE} {t:TA} {pl:Sem Bool} {E:XK} {pins:Za1} {σ:St} {CX:CXT} {f:fe} {fd:jv}
theorem R6 (C:yJ X.prog X.w X.K X.mg X.base name k ps sp)(hr:B9 k X.A)(hx:Go (CXE X.prog X.w) X E)(ha:PA X (e::es) t)(hg:autoParam (Gl X name) QD)(hdb:autoParam ((name==("__debug__":Str))=NH) QF)
  (he:autoParam (starEach (e::es) X.env=(NH,eval e X.env)::starEach es X.env) QD)(hpl:autoParam ((backTo pos (starEach es X.env)).any (·.1)=NH) QD):PE X (.Call (.Name name p) (e::es) [] pos) (kU sp [] E t):=by
 obtain⟨f,fd,F,b,hm,hk⟩:=C.ex;exact rG F hr hg hm hk b .nil hx ha hdb he hpl
theorem Ag9 (M:zB X.prog X.w X.K X.mg X.base name C k ps sp)(hr:B9 (k+1) X.A)(hx:Go (CXE X.prog X.w) X E)(ha:PA X (e::es) t)(hg:autoParam (Gl X name) QD)(hdb:autoParam ((name==("__debug__":Str))=NH) QF)
  (he:autoParam (starEach (e::es) X.env=(NH,eval e X.env)::starEach es X.env) QD)(hpl:autoParam ((backTo pos (starEach es X.env)).any (·.1)=NH) QD):PE X (.Call (.Name name p) (e::es) [] pos) (Yu C sp [] E t):=by
 obtain⟨f,fd,F,b,M,hm⟩:=M.ex;exact fW M F hr hg hm b .nil hx ha hdb he hpl
theorem Pu (M:Xg X.prog X.w X.K X.mg X.base C m k ps sp)(hr:B9 k X.A)(hx:Go (CXE X.prog X.w) X E)(ho:PE X o ta)(ha:PA X (e::es) t)
  (hst:autoParam (starEach (e::es) X.env=(NH,eval e X.env)::starEach es X.env) QD)(hpl:autoParam ((backTo pos (starEach es X.env)).any (·.1)=NH) QD)
  (ht:autoParam (eval (.Call (.Attribute o m apos) (e::es) [] pos) X.env=(do
   let ov <-eval o X.env
   standAt apos.atName
   let (f,first) <-holding [ov] (getMethod ov m pl)
   callWith pos f first (backTo pos (starEach (e::es) X.env)) (backToKw pos (keywordEach [] X.env)))) QD) :
  PE X (.Call (.Attribute o m apos) (e::es) [] pos) (Vi C m sp [] E ta t):=by
 obtain⟨f,fd,F,b,hm⟩:=M.ex;exact sG ho M.cl hm F hr b .nil hx ha hst hpl ht
theorem Aid {Q:VK}{vs:List V}(F:Aq X.prog X.w X.K X.mg X.base CX k f fd ps sp)(hr:B9 k X.A)(hb:Dy X.K fd ps [])(hx:gP CX X pins σ E)(I:Inv X pins σ H s)(r:Az vs us)(h:sp (vs++[]) H Q E) :
  wpAny (model X.prog X.w) X.A (call (.ref f) us) (EP X pins σ Q) X.xe s:=by
 have r2:Az (vs++[]) (us++[]):=r.append .nil;have hl:(us++[]).9=ps.9:=by rw[<-r2.9];exact F.len _ _ _ _ h
 refine nh (ot (F.run X.A X.stack s H {us,[]} (us++[]) (vs++[]) Q E hr I.env0 (hb s us I.kIn hl) r2 h) λr s' hq=>?_)
 cases r with
 |error e=>exact hx H s e s' I hq
 |ok fl=>
  cases fl with
  |ret u=>exact I.after hq
  |next=>exact hq.elim
  |brk=>exact hq.elim
  |cont=>exact hq.elim
theorem J1 (M:Xg X.prog X.w X.K X.mg X.base C m k ps sp)(hr:B9 k X.A)(hx:gP (CXE X.prog X.w) X pins σ E)(ho:PE X o ta)(ha:PA X (e::es) t)
  (hst:autoParam (starEach (e::es) X.env=(NH,eval e X.env)::starEach es X.env) QD)(hpl:autoParam ((backTo pos (starEach es X.env)).any (·.1)=NH) QD)
  (ht:autoParam (eval (.Call (.Attribute o m apos) (e::es) [] pos) X.env=(do
   let ov <-eval o X.env
   standAt apos.atName
   let (f,first) <-holding [ov] (getMethod ov m pl)
   callWith pos f first (backTo pos (starEach (e::es) X.env)) (backToKw pos (keywordEach [] X.env)))) QD) :
  Aib X pins σ (.Call (.Attribute o m apos) (e::es) [] pos) (Vi C m sp [] E ta t):=by
 obtain⟨f,fd,F,b,hm⟩:=M.ex;intro s H Q I h;refine vq (pl:=pl) (thE ho I h λu s1 x H1 I1 rx ⟨a,dx,fs,ex,ea,l,q⟩=>?_) ht;subst ex;obtain rfl:u=iw a:=rx;refine Np I1 ea M.cl hm l ?_;refine callWith_K (first:=[.ref a]) (h₀:=X.base) I.ok.mod.kin hm.kp (thA ha I1 q λus s2 vs H2 I2 r q2=>{I2.kIn,?_}) hst hpl;exact Aid (us:=.ref a::us) (vs:=.ref a::vs) F hr b hx I2 (.cons rfl r) q2
end
section
variable {X:Cx} {k:Nat} {C:fe} {ps:Za6} {sp:Sp} {name:Str} {p pos:Pos} {e:ja} {es:List ja} {t:TA} {E:XK} {pins:Za1} {σ:St}
theorem Aaw (M:zB X.prog X.w X.K X.mg X.base name C k ps sp)(hr:B9 (k+1) X.A)(hx:gP (CXE X.prog X.w) X pins σ E)(ha:PA X (e::es) t)(hg:autoParam (Gl X name) QD)(hdb:autoParam ((name==("__debug__":Str))=NH) QF)
  (he:autoParam (starEach (e::es) X.env=(NH,eval e X.env)::starEach es X.env) QD)(hpl:autoParam ((backTo pos (starEach es X.env)).any (·.1)=NH) QD):Aib X pins σ (.Call (.Name name p) (e::es) [] pos) (Yu C sp [] E t):=by
 obtain⟨f,fd,F,hb,M,hm⟩:=M.ex;intro s0 H0 Q I0 h0;refine wpAny_Call_Name_kw (Gu I0 hg hm ?_ hdb);refine callWith_K (h₀:=X.base) I0.ok.mod.kin M.kp (thn (ha pos pins s0 σ H0 _ I0 h0) λus s vs'=>?_) he hpl;obtain⟨vs,H,I,r,h⟩:=vs';refine{I.kIn,?_};have hq:=h (s.heap.objs.8+1) s.heap.objs.8 (I.hok.fresh (qj _)) (I.hok.fresh (fm _)) (io (o9 _));have I2:=Inv.made (C:=C) I;have r2:Az (V.ref (s.heap.objs.8+1)::(vs++[])) (iw (s.heap.objs.8+1)::(us++[])):=.cons rfl (r.append .nil);have hl:(iw (s.heap.objs.8+1)::us++[]).9=ps.9:=by
  have e:=r2.9;rw[F.len _ _ _ _ hq] at e;exact e.symm
 refine nh (kX (f:=f) I.kIn M.makes M.init (beq_iff_eq.mp M.fn) (ot (F.run _ X.stack _ _ {iw (s.heap.objs.8+1)::us,[]} (iw (s.heap.objs.8+1)::(us++[])) _ _ E (hr.make C us []) (I2.env0.make C us []) (by have z:=hb _ (iw (s.heap.objs.8+1)::us) I2.kIn hl;rwa [vm] at z) r2 hq) λr s' hq'=>?_))
 cases r with
 |error e=>exact hx _ _ e s' I2 hq'
 |ok fl=>
  cases fl with
  |ret u=>
   obtain⟨v,H',I3,rv,ev,q3⟩:=I2.after hq';subst ev;exact{rv,{V.ref (s.heap.objs.8+1),H',I3,rfl,q3}}
  |next=>exact hq'.elim
  |brk=>exact hq'.elim
  |cont=>exact hq'.elim
end
def Afh (X:Cx)(E:XK)(pins:Za1)(σ:St):Za0:=λex s1=>∃H0 s0,Inv X pins σ H0 s0/\CXE X.prog X.w X.stack H0 s0 E ex s1
theorem Gn {E:XK}{σ:St}:gP (CXE X.prog X.w) (X.wish (Afh X E pins σ)) pins σ E:=λH s e s' I h=>⟨H,s,I.unwish,h⟩
def Alf (K:e7)(i:Nat)(C0:fu)(tb:XK->TS)(th:TS):TS:=λD σ H=>∃E:XK,tb E D σ H/\∀C od H' e,E (.ref C) od H'->H' e=p9->exmOne K (.ref C) C0=en NG /\
 th { nx:=λQM H2=>D.nx (QM.set i p9) H2,rt:=D.rt,bk:=λQM H2=>D.bk (QM.set i p9) H2,ct:=λQM H2=>D.ct (QM.set i p9) H2 } (σ.set i (en (.ref e))) (upd H' e (Us e C od))
section
variable {X:Cx} {i:Nat} {n x:Str} {C0:fu} {np hpos pos:Pos} {body suite:List i7} {b0:i7} {tb:XK->TS} {th:TS}
theorem Si {v:Za7}:(A.mark v).frames=A.frames:=rfl
theorem Aaz (hst:X.stack=X.env::X.outer)(hfr:X.env.frame=en X.env.locals)(hex:X.ex=[])(hN:X.N.Nodup)(hi:X.N[i]?=en n)(hl:X.env.kindOf n=en .local)(hg:Gl X x)(hm:X.mg x=en C0)
  (hb:∀E pins σ,uH (X.wish (Afh X E pins σ)) pins σ body (tb E))(hs:∀e,PSs (X.re (X.A.mark (en (.ref e))) NH λ_ _=>False) (b0::suite) th)(hdb:autoParam ((x==("__debug__":Str))=NH) QF) :
  PS X (.Try body [.ExceptHandler (en (.Name x np)) (en n) (b0::suite) hpos] [] [] pos) (Alf X.K i C0 tb th):=by
 k_end;obtain⟨E,hb1,hh⟩:=h;refine wpAny_Try_except (km (hb E pins σ s H D (I.wish _) hb1) (λf s1 q=>?_) λex s1 q=>?_)
 .have q:=q.unwish
  cases f with
  |next=>exact qo q
  |brk=>exact q
  |cont=>exact q
  |ret v=>exact q
 .obtain⟨H0,s0,I0,e,C,od,H',rfl,ho,hgn,un,hok,hfree,⟨hn,hu,a0,B,fl,hB⟩,hE⟩:=q
  have fl':=fl;rw[hst] at fl';refine wC (by rw[I.ok.frames,hst]) hfr fl' λh4 held4 up4=>?_;refine Agi held4 λh5 fl5 up5=>?_;have inv:∀h6,B.StaysIn h6->s1.heap.UpToSlots h6->Inv X pins σ H' { s1 with heap:=h6 }:=λh6 st up=>
   I0.call' (s':={ s1 with heap:=h6 }) (ch:=[]) ho (Aen I0 un hB fl.1.1 st up hn) (uS (n:=s0.5) (e:=e) (outer:=X.stack) hok st hu hfree hB fl.1.1) hgn (λb z=>absurd z (by simp))
  have I5:=inv h5 fl5.1.1 (up4.trans up5);refine wpAny_handleBy_cons (codeAny_handlers_test ?_) (by intro q;cases q);refine Gu (X:=X.re (X.A.mark (en (.ref e))) NH λ_ _=>False) (I5.re (by rw[Si];exact I.ok.frames) (by intro z;cases z)) hg hm ?_ hdb;obtain⟨hx,hth⟩:=hh C od H' e hE hu;have LT:PySem.W.Looks (model X.prog X.w) h5 (typeOf (.ref e)) (.ref C):=by
   obtain⟨ob,hob,hc⟩:=fl5.1.there;exact hc▸(IR hob).andThen .now
  refine(PySem.W.exm_one I5.kIn LT hx).here ?_;refine codeAny_handlers_suite_as ?_;refine Ahv fl5 λh6 fl6 up6=>?_;have I6:=inv h6 fl6.1.1 ((up4.trans up5).trans up6);obtain⟨oe,ws,hoe,hoec,hoed,hodd⟩:=fl6.first;have I6t:=Inv.track I0 hex hn I6 hu ⟨oe,ws,hoe,hoec,hoed,hodd⟩;have I6m:Inv (X.re (X.A.mark (en (.ref e))) NH λ_ _=>False) pins σ (upd H' e (Us e C od)) { s1 with heap:=h6 }:=I6t.re (by rw[Si];exact I.ok.frames) (by intro z;cases z);refine Of (X:=X.re (X.A.mark (en (.ref e))) NH λ_ _=>False) (v:=.ref e) I6m hN hi (.inl hl) rfl (λs7 I7=>?_) (.inr hl);refine km (hs e pins s7 _ _ _ I7 hth) (λf s8 q8=>?_) (λ_ _ z=>z.elim)
  cases f with
  |next=>
   obtain⟨XD,H8,I8,q⟩:=q8;exact Mr (I8.unre I.ok) hN hi hl λs9 I9=>{_,H8,I9,q}
  |brk=>
   obtain⟨XD,H8,I8,q⟩:=q8;exact Mr (I8.unre I.ok) hN hi hl λs9 I9=>{_,H8,I9,q}
  |cont=>
   obtain⟨XD,H8,I8,q⟩:=q8;exact Mr (I8.unre I.ok) hN hi hl λs9 I9=>{_,H8,I9,q}
  |ret v=>
   obtain⟨v8,XD,H8,I8,r8,q⟩:=q8;exact Mr (I8.unre I.ok) hN hi hl λs9 I9=>{v8,_,H8,I9,r8,q}
end
section
variable {P:gm} {w:iz} {K:e7} {mg:Za2} {base:i8}
theorem Fun.okE {x:Str}{st:i7}{f:fe}{k:Nat}(F:Fun K x qual st f fd)(S:Ah N ps (Ac st))(len:∀vs H Q E,sp vs H Q E->vs.9=ps.9)
  (hbody:∀(cdv:fu) (A:jd) (outer:List Env) (s:gb) (H:Hp) (vs:List V) (Q:VK) (E:XK),B9 k (A.deeper (envOfC qual (Ac st) s.heap.objs.8 f cdv))->sp vs H Q E ->
   ∃t,PSs (Ce (CXE P w) P w K mg base N qual (Ac st) f cdv A outer s H E) (Bg st) t/\t { nx:=λ_ H'=>Q .non H',rt:=Q } (Kx N vs) H):Aq P w K mg base (CXE P w) (k+1) f fd ps sp:=by
 obtain⟨oc,od,kV,doc,pm,an,cdv,ct,osl,rfl,lk,hcd⟩:=F.ex;exact kD lk hcd S len λA outer s H vs Q E hr hsp=>hbody cdv A outer s H vs Q E hr hsp
end
theorem Tt (K:e7)(h:autoParam (X.K=K) QD):IxR X (Aef K):=by
 subst h;exact Bh
theorem Lu (K:e7)(h:autoParam (X.K=K) QD):IxR X (Ag0 K):=by
 subst h;exact Bp
open PySem.W Builtin.Getset_descriptor
structure Jx (K:e7) (D:fe):Prop where
 ga:findIn K (.ref D) "__getattribute__"=en (en (.builtin "BaseException.__getattribute__"))
 gx:findIn K (.ref D) "__getattr__"=en p9
 ca:findIn K (.ref D) "__class__"=en (en (.builtin "object.__class__"))
 sp:specialIn K (.builtin "object.__class__") "__get__"=en (en (.builtin "getset_descriptor.__get__"))
 tk:takesIn K (.builtin "object.__class__")=en NG
 mo:mroIn K D (.type "object")=en NG
 mb:mroIn K D (.type "BaseException")=en NG
theorem Jx.cl {K:e7}{D:fe}(Z:Jx K D):(clsIn K D).isSome=NG:=by
 obtain⟨cd,a,_⟩:=Option.bind_eq_some_iff.mp Z.mo;rw[a];rfl
section
variable {prog:gm} {w:iz} {A:jd} {E:Za0} {s:gb} {K:e7} {x D:fe} {ox:Obj} {od0:Option Obj} {od:Option fe}
theorem yS {h:i8}(Z:Jx K D)(X:K.In h):GM M h (FZ (.ref x) (.ref D) "__class__") (.bind (.builtin "getset_descriptor.__get__") (.builtin "object.__class__")):=by
 have L3:=looks_takesIn (M:=M) X Z.tk;refine(rm X Z.ca).andThen ((looks_specialIn X Z.sp).andThen ?_);exact(show GM M h (GA (en (.builtin "object.__class__")) (en (.builtin "getset_descriptor.__get__"))) (en (.builtin "getset_descriptor.__get__",.builtin "object.__class__")) from L3.andThen .now).andThen (Looks.tag .now)
theorem Ac8 {R:wm->gb->Prop}{tp:fu}(X:K.In s.5)(L0:GM (model prog w) s.5 (typeOf (.ref x)) (.ref D))(hm:mroIn K D (.type "object")=en NG)(h:R (.ok (.ret (.ref D))) s) :
  codeAny (model prog w) A (.call (.builtin "getset_descriptor.__get__") {[.builtin "object.__class__",.ref x,tp],[]}) R s:=by
 obtain⟨hh,g,dr,t,os⟩:=s;have L1:=BJ (M:=model prog w) X hm;refine pf MR.plain KF.entry_gs (MR.check _ _ _ _ _ _ _ _ KF.type_class (KF.args_gs _ _ _) ?_);unfold ow.«getset_descriptor.__get__» descrGet;rw[dga_obj];refine wpAny_bind (fw ?_);unfold descrGetter descrCheckInstance descrNameAndClass isInstance;simp only[KF.owner_class];repeat lk
 refine{yu _ (by decide +kernel),ly KF.entry_class ?_};unfold ow.«object.__class__» shownTypeOf;repeat lk
 exact h
theorem vS {Q:Za7->gb->Prop}(Z:Jx K D)(X:K.In s.5)(I:Y3 x D od s.5)(h:Q (en (.ref D)) { s with toks:=s.toks+1 }):wpAny (model prog w) A (getAttr? (.ref x) "__class__") Q E s:=by
 obtain⟨hh,g,d,t,os⟩:=s;obtain⟨ox,ws,hox,hoc,_⟩:=I;have L0:GM (model prog w) hh (typeOf (.ref x)) (.ref D):=hoc▸(DK hox).andThen .now;have L1:=rm (M:=model prog w) X Z.ga;have L2:=rm (M:=model prog w) X Z.gx;have LF:=yS (M:=model prog w) (x:=x) Z X;have LB:=BJ (M:=model prog w) X Z.mb;unfold getAttr? getAttrBy? getAttrBy;refine wpAny_bind (MT (wpAny_bind (uf (wpAny_holding (wpAny_bind (L0.at (wpAny_bind (L1.at ?_))))))));show wpAny _ _ (getAttrByItsOwn _ _ _ _ _ _) _ _ _;unfold getAttrByItsOwn hookBefore;refine wpAny_bind (L2.at (wpAny_bind (uf (wpAny_holding ?_))));show wpAny _ _ (boundAndCalled _ _ _) _ _ _;unfold boundAndCalled;refine wpAny_bind (BH (F.excAttr_ValueError.ga.bind (.ref x)) ?_);show wpAny _ _ (call (.builtin "BaseException.__getattribute__") [.ref x,.str "__class__" t]) _ _ _;refine nh (pf F.excAttr_ValueError.ga.plain F.entry_bexc_ga ?_);have hk:builtinKind "BaseException.__getattribute__"=en .slot:=by decide +kernel
 have hsp:splitId "BaseException.__getattribute__"=en ("BaseException","__getattribute__"):=by decide +kernel
 simp only[checkBuiltinCall,hk,hsp];have ha:=F.args_bexc_ga (.ref x) (.str "__class__" t);refine wpAny_bind ?_;unfold isInstance
 iterate 4 lk
 refine BH (a:=.unit) ?_ ?_
 .have ha':=ha
  unfold argsOk at ha'
  cases hsig:CI "BaseException.__getattribute__" with
  |none=>rfl
  |some sig=>
   rw[hsig] at ha';exact ha'
 unfold ow.«object.__getattribute__»;refine wpAny_bind (fw ?_);refine wpAny_bind (fw (wpAny_bind (L0.at (wpAny_bind (LF.at ?_)))));show wpAny _ _ (holding [AX "object.__class__"] (call (.builtin "getset_descriptor.__get__") [.builtin "object.__class__",.ref x,.ref D]) >>= ret) _ _ _;refine wpAny_bind (wpAny_holding (nh (Ac8 (s:={hh,g,d,t+1,os}) X L0 Z.mo (fw ?_))));exact handed_on rfl (fw h)
theorem Aaq (Z:Jx K D):KitX K (.ref x) (.ref D) (Y3 x D od) where
 ty:=λM h X p=>by
  obtain⟨ox,ws,hox,hoc,_⟩:=p;exact hoc▸(DK hox).andThen .now
 it:=λM h X p=>by
  obtain⟨cd,hc⟩:=jz.mp Z.cl;unfold clsIn at hc;split at hc
  .rename_i c' d' cd' sl' ho
   intro A' Q' E' s' k q;unfold isType loadHead;exact wpAny_bind (yw (k _ _ (X _ _ ho)) (fw q))
  .cases hc
 ne:=λh tp dd its n sl X htp=>by
  obtain⟨cd,hc⟩:=jz.mp Z.cl;refine vb.mpr λq=>?_;have e:D=tp:=zz (beq_iff_eq.mp q);subst e;unfold clsIn at hc;split at hc
  .rename_i c' d' cd' sl' ho
   have z:=(X _ _ ho).symm.trans htp;cases z
  .cases hc
 ca:=λX p k=>vS Z X p k
end
def Ak7:V->fu->Prop
 |.ty n,v=>v=.type n
 |.ref a,v=>v=.ref a
 |_,_=>False
def Aiw (K:e7):List V->Hp->VK->Prop:=λxs H Q=>∃e C od c cv b,xs=[.ref e,c]/\H e=en (Us e C od)/\Jx K C/\Ak7 c cv/\kitOne K (.ref C) cv=en b/\Q (.bl b) H
theorem iW:Ea X (.builtin "isinstance") (Aiw X.K):=by
 intro pins s σ H xs us Q I r h;obtain⟨e,C,od,c,cv,b,rfl,he,Z,hcv,hk,q⟩:=h;obtain⟨u,w',rfl,ru,rw'⟩:=Kz r;cases(show u=iw e from ru);have hw:w'=cv:=by
  cases c<;>first|exact hcv.elim|exact(show w'=_ from rw').trans (show cv=_ from hcv).symm
 subst hw;obtain⟨p,_,_⟩:=(show B3 X.prog X.w H s.5 e (Us e C od) from I.hok e _ he);exact rn (Aaq Z) I.kIn p hk (λz=>nomatch z) λtk=>{.bl b,H,I.tok tk,rfl,q}
theorem Cy (K:e7)(h:autoParam (X.K=K) QD):Ea X (.builtin "isinstance") (Aiw K):=by
 subst h;exact iW
theorem gN:bootBuiltins "ValueError"=en (.type "ValueError"):=by decide +kernel
theorem fK {σ:St}(I:Inv X pins σ H s):sysModules<s.heap.objs.8:=
 DH (by decide) (show mainGlobals<s.heap.objs.8 from(I.mod.glob.keeps I.bk).lt)
def Afn:TE:=λ_ H Q=>∀p,H p=p9->Q (.ref p) (upd H p (.dK []))
theorem yE {P:gm}(h:i8)(hb:sysModules<h.objs.8):B3 P w H (h.push { cls:=.type "dict",data:=.dict #[] }) h.objs.8 (.dK []):=
 {ij _,beq_eq_false_iff_ne.mpr (n5 (io hb)),[],.nil,yk h}
theorem fJ:PE X (.Dict [] [] pos) Afn:=λpins s σ H Q I h=>
 wpAny_Dict_empty {.ref s.heap.objs.8,_,I.laid (a:=s.heap.objs.8) (o:=.dK []) (t':=s.toks) (λ_ _ q=>fj _ q) (fm _) (yE s.5 (fK I)),rfl,h _ (I.hok.fresh (fm _))}
theorem Agh {σ:St}{Q:VK}(h:∀p,H p=p9->Q (.ref p) (upd H p (.dK []))):Afn σ H Q:=h
abbrev Ki (C t:fe)(od:Option fe):Obj:={ cls:=.ref C,dict:=od,data:=.fields #[.ref t,.none,.none,.none,.bool NH,.none] }
structure Nw (K:e7) (W C f:fe):Prop where
 wex:excIn K W Gc "ValueError.__new__"=NG
 ob:∃nm qn N bs sn sub ab col dd k0 k1 k2 k3 k5,K.lookup C=en (excClassObj nm qn C N bs (.ref W::Gc) NG sn sub ab col dd k0 k1 k2 k3 k5 "ValueError.__new__")
 ini:findIn K (.ref C) "__init__"=en (en (.ref f))
 fn:typeIn K (.ref f)=en (.type "function")
 sa:findIn K (.ref C) "__setattr__"=en (en (.builtin "object.__setattr__"))
 pl:findIn K (.ref C) "place"=en p9
section
variable {prog:gm} {w:iz} {A:jd} {E:Za0} {s:gb} {K:e7} {W C f e t:fe} {od:Option fe}
theorem jY {h:i8}(X:K.In h)(q:excIn K W Gc "ValueError.__new__"=NG):MY h Gc (.ref W::Gc):=by
 obtain⟨bm,N,nm,qn,bs,hdct,sn,sub,ab,col,dd,k0,k1,k2,k3,k5,mN,hC,hN,hni,hT⟩:=sD X q;exact .own hC hN hni .base
theorem pC {v:fu}{Q:Za0}(O:Nw K W C f)(X:K.In s.5)(he:s.heap.get? e=en (Ki C t od))
  (q:∀h' t',(∀b o,b≠e->s.heap.get? b=en o->h'.get? b=en o)->h'.get? e=en (Ki C t' od)->Q .none { s with heap:=h' }):wpAny (model prog w) A (call (.builtin "ValueError.__init__") [.ref e,v]) Q E s:=by
 obtain⟨hh,g,d,tk,os⟩:=s;obtain⟨nm,qn,N,bs,sn,sub,ab,col,dd,k0,k1,k2,k3,k5,lk⟩:=O.ob;have hC:=X _ _ lk;have T:=jY X O.wex;have B:=z5;refine nh (pf B.init.plain B.initEntry (wpAny_check_init_subT B T hC he rfl ?_))
 wp_walk
 refine q _ hh.objs.8 (λb o hb z=>?_) ?_
 .exact(jr _ _ (n5 hb)).trans (fj _ z)
 .exact ku _ (fj _ he) rfl
theorem vQ {v:fu}{Q:Unit->gb->Prop}(O:Nw K W C f)(Z:Jx K C)(X:K.In s.5)(he:s.heap.get? e=en (Ki C t p9))
  (q:∀h' dx tk,(∀b o,b≠e->s.heap.get? b=en o->h'.get? b=en o)->h'.get? e=en (Ki C t (en dx))->dx≠e->s.heap.objs.8<=dx->h'.Ns1 dx (λy=>if y="place" then en v else p9)->Q .unit { s with heap:=h',toks:=tk }) :
  wpAny (model prog w) A (setAttr (.ref e) "place" v) Q E s:=by
 obtain⟨hh,g,d,tk,os⟩:=s;have X:K.In hh:=X;have he:hh.get? e=en (Ki C t p9):=he;obtain⟨nm,qn,N,bs,sn,sub,ab,col,dd,k0,k1,k2,k3,k5,lk⟩:=O.ob;have SF:=PySem.F.store_object;have J:InstAt hh e (Ki C t p9) C p9:=⟨he,rfl,rfl,m8⟩;have hc:clsIn K C=en {nm,bs,.ref C::.ref W::Gc,N,qn,NG,sn,sub,ab,col,NH}:=by
  unfold clsIn;rw[lk]
 have isO:GM (model prog w) hh (isInstance (.ref e) (.type "object")) NG:=J.type.andThen (BJ X Z.mo);have hm:GM (model prog w) hh (mroOf (.ref C)) (.ref C::.ref W::Gc):=(GJ X hc).andThen .now;refine set_plain X J O.sa ?_;refine pf SF.slot.plain SF.entry (@check_slot (model prog w) _ _ {hh,g,d,tk+1,os} "object.__setattr__" "object" "__setattr__" (.ref e) [.str "place" tk,v] [] _ SF.kind SF.split isO (SF.args (.ref e) (.str "place" tk) v) ?_);rw[osa_eq,refuse_eq];refine wpAny_bind (wpAny_bind (J.type.here (wpAny_bind (hm.here ?_))));rw[LI,LI,show refuseLoop (.ref e) "__setattr__" Gc=pure .unit from PySem.F.store_ValueError.passes _];refine fw (wpAny_bind (J.type.here (wpAny_bind ((rm X O.pl).here (wpAny_bind ?_)))));refine fw ?_;show wpAny _ _ (FV (.ref e) (.ref C) (.str "place" tk) "place" v NH) _ _ _;have hcl:=X _ _ lk;have he1:(hh.push emptyDict).get? e=en (Ki C t p9):=fj _ he;have hes:e≠hh.objs.8:=io (gi he);refine wpAny_bind (fw (wpAny_bind ?_));refine wpAny_bind (yw he (wpAny_bind ((GJ X hc).here ?_)));show wpAny _ _ (do
  let d <-alloc { cls:=kr "dict",data:=FT #[] }
  update e λo=>{ cls:=o.cls,dict:=en d,data:=o.data,slots:=o.slots }
  dictMade (.ref C) e d) _ _ _
 refine wpAny_bind (wpAny_alloc' (wpAny_bind (wpAny_update' he1 (fw ?_))));show wpAny _ _ (vo hh.objs.8 (.str "place" tk) "place" v) _ _ _;have hd2:((hh.push emptyDict).update e λo=>{ cls:=o.cls,dict:=en hh.objs.8,data:=o.data,slots:=o.slots }).get? hh.objs.8=en emptyDict:=
  (jr _ _ hes).trans (gu hh rfl)
 have hn2:((hh.push emptyDict).update e λo=>{ cls:=o.cls,dict:=en hh.objs.8,data:=o.data,slots:=o.slots }).Ns hh.objs.8 (λ_=>p9):={_,#[],_,hd2,rfl,(λen hen=>absurd hen (by simp)),λ_=>rfl};have he2:((hh.push emptyDict).update e λo=>{ cls:=o.cls,dict:=en hh.objs.8,data:=o.data,slots:=o.slots }).get? e=en (Ki C t (en hh.objs.8)):=ku _ he1 rfl;have hk2:∀b o,b≠e->hh.get? b=en o->((hh.push emptyDict).update e λo=>{ cls:=o.cls,dict:=en hh.objs.8,data:=o.data,slots:=o.slots }).get? b=en o:=λb o hb z=>(jr _ _ (n5 hb)).trans (fj _ z);unfold vo FX;refine wpAny_bind (fw (wpAny_bind (MS (DL hn2) λh' hn' hs=>?_)));obtain⟨ob1,es1,ep1,at1,da1,ct1⟩:=hn'.count (Within.cons "place" v Within.nil);refine wpAny_bind (IL at1 (da1▸IN (iy ct1 (by decide))) ?_);refine fw ?_;refine q h' hh.objs.8 _ (λb o hb z=>(hs.2 b (io (gi z))).trans (hk2 b o hb z)) ((hs.2 e hes).trans he2) (n5 hes) (fm _) ?_;obtain⟨o',es,ep,e1,e2,e3,eu,e4⟩:=hn';exact{o',es,ep,e1,e2,e3,eu,λy=>by rw[e4 y]}
theorem Za {v:fu}{o:Obj}{vs:Array fu}{mA:Za2}{Q:Za0}(O:Nw K W C f)(Z:Jx K C)(X:K.In s.5)(he:s.heap.get? e=en o)(hoc:o.cls=.ref C)(hod:o.data=.fields vs)(hdx:o.dict=en dx)
  (hn:s.heap.Ns1 dx mA)(hm:mA "place"=en v)(hh':handedIn v=NG)(q:∀tk,Q v { s with toks:=tk }):wpAny (model prog w) A (getAttr (.ref e) "place" NG) Q E s:=by
 obtain⟨hh,g,d,tk,os⟩:=s;have X:K.In hh:=X;obtain⟨oc,odi,oda,osl⟩:=o;dsimp only at hoc hod hdx;subst hoc hod hdx;obtain⟨nm,qn,N,bs,sn,sub,ab,col,dd,k0,k1,k2,k3,k5,lk⟩:=O.ob;have hc:clsIn K C=en {nm,bs,.ref C::.ref W::Gc,N,qn,NG,sn,sub,ab,col,NH}:=by
  unfold clsIn;rw[lk]
 have L0:GM (model prog w) hh (typeOf (.ref e)) (.ref C):=(DK he).andThen .now;have L1:=rm (M:=model prog w) X Z.ga;have L2:=rm (M:=model prog w) X Z.gx;have LB:=BJ (M:=model prog w) X Z.mb;have LP:=rm (M:=model prog w) X O.pl;unfold getAttr getAttrBy;refine wpAny_bind (MT (wpAny_holding (wpAny_bind (L0.at (wpAny_bind (L1.at ?_))))));show wpAny _ _ (getAttrByItsOwn _ _ _ _ _ _) _ _ _;unfold getAttrByItsOwn hookBefore;refine wpAny_bind (L2.at (wpAny_bind (uf (wpAny_holding ?_))));show wpAny _ _ (boundAndCalled _ _ _) _ _ _;unfold boundAndCalled;refine wpAny_bind (BH (z6.ga.bind (.ref e)) ?_);show wpAny _ _ (call (.builtin "BaseException.__getattribute__") [.ref e,.str "place" tk]) _ _ _;refine nh (pf z6.ga.plain PySem.F.entry_bexc_ga ?_);have kd:builtinKind "BaseException.__getattribute__"=en .slot:=by decide +kernel
 have sp:splitId "BaseException.__getattribute__"=en ("BaseException","__getattribute__"):=by decide +kernel
 simp only[checkBuiltinCall,kd,sp];have ha:=PySem.F.args_bexc_ga (.ref e) (.str "place" tk);refine wpAny_bind ?_;unfold isInstance
 iterate 4 lk
 refine BH (a:=.unit) ?_ ?_
 .unfold argsOk at ha
  cases hsig:CI "BaseException.__getattribute__" with
  |none=>rfl
  |some sig=>
   rw[hsig] at ha;exact ha
 unfold ow.«object.__getattribute__»;refine wpAny_bind (fw ?_);refine wpAny_bind (fw (wpAny_bind (L0.at (wpAny_bind ?_))));refine wpAny_bind (LP.at ?_);refine wpAny_bind (fw (wpAny_bind (fw ?_)));show wpAny _ _ (vj (.ref e) "place" p9 p9) _ _ _;unfold vj FY FW;refine wpAny_bind (wpAny_bind ?_);refine wpAny_bind ((DK he).at ?_);show wpAny _ _ (instanceDict e NH) _ _ _;refine wpAny_bind (yw he (wpAny_bind ((GJ X hc).here (fw ?_))));show wpAny _ _ (nsGet dx "place") _ _ _;refine wpAny_nsGet hn.ns ?_;rw[hm];refine wpAny_bind (xw (fw ?_));exact fw (handed_on hh' (q _))
theorem Acj {rest:Za3}{Q:Za0}(O:Nw K W C f)(X:K.In s.5)(hr:rest.9<=sizeLine)
  (q:∀h' e,ut s.5 h' e (.ref C) rest->s.heap.objs.8<=e->wpAny (model prog w) (A.under (.builtin "type.__call__" {.ref C::rest,[]})) (call (.ref f) (.ref e::rest)) (λr s'=>r=.none/\Q (.ref e) s') E { s with heap:=h' }) :
  wpAny (model prog w) A (call (.ref C) rest) Q E s:=by
 obtain⟨hh,g,d,tk,os⟩:=s;have X:K.In hh:=X;obtain⟨nm,qn,N,bs,sn,sub,ab,col,dd,k0,k1,k2,k3,k5,lk⟩:=O.ob;have hC:hh.get? C=_:=X _ _ lk;have T:=jY X O.wex;have B:=z5;have f1:=tc_lookup;have f2:=tc_bind (.ref C);have tC:(⟨hh,g,d,tk,os⟩:gb).TypeIs (.ref C) "type":={_,hC,rfl};refine nh (codeAny_of_tree ?_);show wpAny _ _ (callAny (.ref C) _) _ _ _
 repeat (any_goals (first|assumption|with_reducible refine nw hC ?_|wp_step))
 refine{rfl,codeAny_call_builtin_at (yu _ (by decide +kernel)) entry_typeCall (wpAny_check_type_call_sub hC ?_)}
 repeat (first|with_reducible refine nw hC ?_|with_reducible refine wpAny_madeBy_exc hC ?_|wp_step)
 refine codeAny_call_builtin_code (yu _ B.quiet) (wpAny_check_new_subT B T hC (codeAny_exc_new_subT B T hC ?_ hr));show wpAny _ _ _ _ _ _;have hget:((hh.push { cls:=.type "tuple",data:=.seq rest.6 }).push (Ki C hh.objs.8 p9)).get? (hh.objs.8+1)=en (Ki C hh.objs.8 p9):=by heap_get
 have kp:∀b o,hh.get? b=en o->((hh.push { cls:=.type "tuple",data:=.seq rest.6 }).push (Ki C hh.objs.8 p9)).get? b=en o:=λb o z=>fj _ (fj _ z);have XM:=kp _ _ hC;have hcC:(iw C::.ref W::Gc).contains (.ref C)=NG:=by simp
 have X1:K.In ((hh.push { cls:=.type "tuple",data:=.seq rest.6 }).push (Ki C hh.objs.8 p9)):=λb o z=>kp b o (X b o z);have mx:ut hh ((hh.push { cls:=.type "tuple",data:=.seq rest.6 }).push (Ki C hh.objs.8 p9)) (hh.objs.8+1) (.ref C) rest:=by
  refine{kp,tm (qj _),hh.objs.8,hget,tm (fm _),?_};exact fj _ (gu hh rfl)
 have J:InstAt ((hh.push { cls:=.type "tuple",data:=.seq rest.6 }).push (Ki C hh.objs.8 p9)) (hh.objs.8+1) (Ki C hh.objs.8 p9) C p9:=⟨hget,rfl,rfl,m8⟩;unfold isInstance
 repeat (first|with_reducible refine nw hget ?_|(with_reducible refine zf XM ?_;rw[hcC])|wp_step)
 refine zf XM ?_;rw[hcC];rw[if_neg (by decide)];refine wpAny_bind (wpAny_holding (special_fn X1 J O.ini O.fn ?_));refine km (q _ _ mx (qj _)) (λv s' z=>?_) λ_ _ z=>z;obtain⟨rfl,z⟩:=z;exact fw z
end
def Ae3 (e C:fe)(od:Option fe)(h:i8):Prop:=∃t,h.get? e=en (Ki C t od)
def Ia (e C:fe)(od:Option fe):HO:=.ext (Ae3 e C od)
theorem qV {P:gm}{h:i8}{e:fe}(x:Ae3 e C od h):B3 P w H h e (Ia e C od):=
 {x,let ⟨_,z⟩:=x;{_,z},λ_ _ ⟨t,z⟩ k=>{t,k _ z}}
structure Afx (K:e7) (mg:Za2) (x:Str) (W:fe):Prop where
 at_:mg x=en (.ref W)
 ga:specialIn K (.ref W) "__getattribute__"=en (en (.builtin "type.__getattribute__"))
 rd:readsIn K W (.type "type")=NG
 ini:findCls K (.ref W) (.type "type") "__init__"=en (.val (.builtin "ValueError.__init__"))
theorem Ah4 {e:fe}{o:HO}(h:H e=en o):upd H e o=H:=by
 funext b
 by_cases hb:b=e
 .subst hb;rw[Ae,h]
 .rw[Aj hb]
section
variable {X:Cx} {x:Str} {W C f:fe} {np apos pos p1 p2 pos':Pos} {a o e value:ja} {as:List ja} {t:TA} {te ta tv:TE} {pl:Sem Bool}
def Aah (K:e7)(W:fe)(t:TA):TE:=λσ H Q=>t σ H λvs H1=>∃e C f od z,vs=[.ref e,.str z]/\H1 e=en (Ia e C od)/\Nw K W C f/\Q .non H1
theorem xJ (B:Afx X.K X.mg x W)(hg:Gl X x)(ha:PA X (a::as) t)(hdb:autoParam ((x==("__debug__":Str))=NH) QF)
  (he:autoParam (backTo pos (starEach (a::as) X.env)=(NH,eval a X.env)::backTo pos (starEach as X.env)) QD)(hpl:autoParam ((backTo pos (starEach (a::as) X.env)).any (·.1)=NH) QD)
  (ht:autoParam (eval (.Call (.Attribute (.Name x np) "__init__" apos) (a::as) [] pos) X.env=(do
   let ov <-eval (.Name x np) X.env
   standAt apos.atName
   let (f,first) <-holding [ov] (getMethod ov "__init__" pl)
   callWith pos f first (backTo pos (starEach (a::as) X.env)) (backToKw pos (keywordEach [] X.env)))) QD) :
  PE X (.Call (.Attribute (.Name x np) "__init__" apos) (a::as) [] pos) (Aah X.K W t):=by
 k_in;refine methodCall_KW (Gu I hg B.at_ ?_ hdb) ht;refine method_cls I.kIn B.ga (cls_value I.kIn B.rd B.ini rfl ?_);refine vx hpl ?_;have hs:=ha pos pins _ σ H _ (I.tok (s.toks+1)) h;rw[he] at hs ⊢;refine sv (thn hs λus s1 h0=>cpZ λX0 k0=>?_);obtain⟨vs,H1,I1,r,e,C,f,od,z,ev,hx,O,q⟩:=h0;refine k0 ?_;subst ev;obtain⟨u,u2,rfl,ru,ru2⟩:=Kz r;obtain rfl:u=iw e:=ru;obtain⟨⟨t0,h0⟩,_,_⟩:=(show B3 X.prog X.w H1 s1.5 e (Ia e C od) from I1.hok e _ hx);refine pC O I1.kIn h0 λh' t' hk he'=>{.non,H1,?_,rfl,q};have z:=I1.write (x:=e) (e:=e) (o:=Ia e C od) (h':=h') (t':=s1.toks) (by rw[hx];exact m8) (.inl rfl) hk {_,he'} (qV ⟨t',he'⟩);rw[Ah4 hx] at z;exact z
def plV:V->Prop
 |.int i=>i.natAbs<10 ^ 12
 |.non=>True
 |_=>False
def Afc (te:TE):TE:=λσ H Q=>te σ H λv H1=>plV v/\∀z,Q (.str z) H1
theorem uU {n:Nat}(h:n<10 ^ 12):n.log2<1920:=by
 have:n.log2<40:=by
  by_cases h0:n=0
  .subst h0;decide
  .exact(Nat.log2_lt h0).mpr (gh h (by decide))
 lia
theorem Ad7 {c:Str}{j:Nat}(hc:c.9<=1000)(he:PE X e te):PE X (.JoinedStr [.Constant (.str c) j p1,.FormattedValue e (-1) p9 p2] pos) (Afc te):=by
 k_in;have sl:2000<=sizeLine:=by decide
 refine JoinedStr_many (LK (EL {?_,LK (FormattedValue_plain (thn (he pins _ σ H _ (I.tok _) h) λu s1 ⟨v,H1,I1,r,hv,q⟩=>?_))}))
 .rw[wg]
  show 0+c.9<=_;lia
 cases v with
 |non=>
  obtain rfl:u=mr:=r;have hz:(vp++c++(mq "None")).9<=sizeLine:=by
   rw[wg,wg];show 0+c.9+4<=_;lia
  refine wpAny_formatField_none {hz,LY {.str _,H1,I1.tok _,{_,rfl},q _} hz}
 |int i=>
  have hi:i.natAbs<10 ^ 12:=hv;obtain⟨tk,rfl⟩:=r;have hl:=int_text_length_le10 (k:=12) (by decide) hi;have hz:(vp++c++(mq (toString i))).9<=sizeLine:=by
   rw[wg,wg];show 0+c.9+_<=_;have:(mq (toString i)).9<=13:=by rw[PySem.ofString_length];exact hl
   lia
  refine formatField_int_small (uU hi) {hz,LY {.str _,H1,I1.tok _,{_,rfl},q _} hz}
 |_=>exact hv.elim
def Abf (K:e7)(ta tv:TE):TS:=λD σ H=>tv σ H λy H1=>ta σ H1 λx H2=>∃e W C f,x=.ref e/\H2 e=en (Ia e C p9)/\Nw K W C f/\Jx K C /\
 ∀dx,H2 dx=p9->D.nx σ (upd (upd H2 dx (.xd [("place",y)])) e (Ia e C (en dx)))
theorem Acq (ha:PE X o ta)(hv:PE X value tv)(hs:autoParam (swapsWith value (en (.Attribute o "place" pos')) pos.line X.env=pure NH) QD):PS X (.Assign [.Attribute o "place" pos'] value pos) (Abf X.K ta tv):=by
 k_end;refine plainObj_wpAny_Assign_Attribute (thE hv I h λu s1 y H1 I1 ry q=>thE ha I1 q λov s2 x H2 I2 rx h0=>cpZ λX0 k0=>?_) hs;obtain⟨e,W,C,f,ex,hx,O,Z,q2⟩:=h0;refine k0 ?_;subst ex;obtain rfl:ov=iw e:=rx;obtain⟨⟨t0,h0⟩,_,_⟩:=(show B3 X.prog X.w H2 s2.5 e (Ia e C p9) from I2.hok e _ hx);refine vQ O Z I2.kIn h0 λh' dx tk hk he' hne hsz hn=>{σ,_,?_,q2 dx (I2.hok.fresh hsz)};have fr:=I2.hok.fresh hsz;have nb:∀b ob,s2.heap.get? b=en ob->b≠dx:=λb ob z=>io (gh (gi z) hsz);have nt:∀{b:fe} {u:HO},H2 b=en u->b≠dx:=λz=>An z fr;have ne:∀{b:fe},H2 b=p9->b≠e:=λz y=>by rw[y,hx] at z;cases z
 have mv:∀{b:fe},b≠e->b≠dx->upd (upd H2 dx (.xd [("place",y)])) e (Ia e C (en dx)) b=H2 b:=λz z2=>by rw[Aj z,Aj z2]
 have xt:∀{b:fe} {u:HO},H2 b=en u->u≠Ia e C p9->b≠e:=λz n y=>by rw[y,hx] at z;cases z;exact n rfl
 refine I2.un (t':=tk) {λb ob z n _ _=>hk b ob (ne n) z,λb ob z n _ _=>{ob.slots,hk b ob (ne n) z},λb ob z n _=>by rw[mv (ne n) (nb b ob z)];exact n,λb ob z _=>?_,λb xs z=>?_,λb ob u z=>?_,λb ps z=>?_} λb ob z=>?_
 .by_cases hb:b=e
  .subst hb;exact{_,he'}
  .exact{ob,hk b ob hb z}
 .rw[mv (xt z (by intro y;cases y)) (nt z)];exact z
 .rw[mv (xt z (by intro y;cases y)) (nt z)];exact z
 .exact{#[],by rw[mv (xt z (by intro y;cases y)) (nt z)];simpa using z}
 .by_cases hb:b=e
  .subst hb
   rw[Ae] at z;cases z;exact qV ⟨t0,he'⟩
  .rw[Aj hb] at z
   by_cases hb2:b=dx
   .subst hb2
    rw[Ae] at z;cases z;refine{_,hn,λf=>?_}
    by_cases hf:f="place"
    .subst hf
     simpa [J6] using ry
    .have:m3 f [(("place":Str),y)]=p9:=by
      rw[m3,show(f==("place":Str))=NH from beq_eq_false_iff_ne.mpr hf];rfl
     rw[this];simp[J6,hf]
   .rw[Aj hb2] at z
    refine(I2.hok b ob z).stay (λc w' hc y=>hk c w' ?_ y) (λc y=>?_) λc xs y=>?_
    .rcases hc with rfl|hc
     .exact hb
     .exact xt hc (by intro y;cases y)
    .rw[mv (xt y (by intro y;cases y)) (nt y)];exact y
    .rw[mv (xt y (by intro y;cases y)) (nt y)];exact y
def yO (K:e7)(te:TE):TE:=λσ H Q=>te σ H λx H1=>∃e W C f dx fs y,x=.ref e/\H1 e=en (Us e C (en dx))/\Nw K W C f/\Jx K C/\H1 dx=en (.xd fs)/\fs.lookup ("place":Str)=en y/\plV y/\Q y H1
theorem Abt (he:PE X e te)(hb:autoParam (attributeBase e "place" X.env (eval e X.env)=eval e X.env) QD):PE X (.Attribute e "place" pos) (yO X.K te):=by
 k_in;refine tY hb (thE he I h λu s1 y H1 I1 ry h0=>cpZ λX0 k0=>?_);obtain⟨x,W,C,f,dx,fs,pv,ey,hx,O,Z,hd,hl,hp,q⟩:=h0;refine k0 ?_;subst ey;obtain rfl:u=iw x:=ry;obtain⟨⟨ox,ws,hox,hoc,hod,hdd⟩,_,_⟩:=(show B3 X.prog X.w H1 s1.5 x (Us x C (en dx)) from I1.hok x _ hx);obtain⟨mA,hn,hr⟩:=(show B3 X.prog X.w H1 s1.5 dx (.xd fs) from I1.hok dx _ hd);have rr:=hr "place";rw[hl] at rr
 cases em:mA "place" with
 |none=>rw[em] at rr;exact rr.elim
 |some v=>
  rw[em] at rr
  cases pv with
  |int i=>
   obtain⟨tk,rfl⟩:=(show ∃tk,v=nz i tk from rr);exact Za O Z I1.kIn hox hoc hod hdd hn em rfl λtk'=>{.int i,H1,I1.tok _,{_,rfl},q}
  |non=>
   obtain rfl:v=mr:=rr;exact Za O Z I1.kIn hox hoc hod hdd hn em rfl λtk'=>{.non,H1,I1.tok _,rfl,q}
  |_=>exact hp.elim
end
section
variable {M:yb} {prog:gm} {w:iz} {A:jd} {E:Za0} {s:gb} {env:Env} {K:e7} {W C f:fe}
theorem wL {x:Sem fu}{Q:Flow->gb->Prop}(O:Nw K W C f)(hh:A.handled=p9)(q:wpAny M A x (λv QN=>∃e t od,v=.ref e/\K.In QN.5/\QN.heap.get? e=en (Ki C t od)/\E (.ref e) QN) E s) :
  wpAny M A (raiseStmt env (en x) p9) Q E s:=by
 have cB:(iw C::.ref W::Gc).contains (.type "BaseException")=NG:=by simp[Gc]
 unfold raiseStmt;refine wpAny_bind (thn q λv QN ⟨e,t,od,ev,X,hx,hE⟩=>?_);subst ev;obtain⟨nm,qn,N,bs,sn,sub,ab,col,dd,k0,k1,k2,k3,k5,lk⟩:=O.ob;have hC:=X _ _ lk;obtain⟨hp,g,d,tk,os⟩:=QN
 repeat (first|with_reducible refine nw hx ?_|with_reducible refine nw hC ?_|(with_reducible refine zf hC ?_;rw[cB])|wp_step)
 exact wpAny_raiseNew_none hh hE
theorem wI {x:Str}{np:Pos}{args:List ja}{Q:Flow->gb->Prop}(O:Nw K W C f)(hh:A.handled=p9)(hplain:(backTo cpos (starEach args env)).any (·.1)=NH)
  (q:wpAny (model prog w) A (eval (.Name x np) env) (λv QN=>v=.ref C/\wpAny (model prog w) A (evalArgs (.ref C) NG (backTo cpos (starEach args env)) []) (λa QT=>a.kw=[]/\a.pos.9<=sizeLine/\K.In QT.5 /\
   ∀h' e,ut QT.5 h' e (.ref C) a.pos->QT.heap.objs.8<=e->wpAny (model prog w) (A.under (.builtin "type.__call__" {.ref C::a.pos,[]})) (call (.ref f) (.ref e::a.pos)) (λr QY=>r=.none/\∃t od,K.In QY.5/\QY.heap.get? e=en (Ki C t od)/\E (.ref e) QY) E { QT with heap:=h' }) E QN) E s) :
  wpAny (model prog w) A (exec (.Raise (en (.Call (.Name x np) args [] cpos)) p9 pos) env) Q E s:=by
 rw[arm_exec_Raise];simp only[evalOpt,HZ];refine wpAny_bind (ql (wL O hh (wpAny_bind (thn (wpAny_Call_ofName (thn q λv QN q1=>?_)) λv QY q3=>wpAny_bind (ql (fw q3))))));obtain⟨rfl,q1⟩:=q1;unfold callWith;refine wpAny_bind (wpAny_holding (thn q1 λa QT q2=>wpAny_bind (ql ?_)));obtain⟨ap,ak⟩:=a;obtain⟨hk,hl,X,q2⟩:=q2;obtain rfl:ak=[]:=hk;obtain⟨nm,qn,N,bs,sn,sub,ab,col,dd,k0,k1,k2,k3,k5,lk⟩:=O.ob;obtain⟨hp,g,d,tk,os⟩:=QT;simp only[hplain];refine wpAny_bind (wpAny_keeperOf_exc (X _ _ lk) ?_);refine wpAny_bind (Acj O X hl λh' e mx he=>thn (q2 h' e mx he) λr QY q3=>{q3.1,wpAny_bind (wpAny_holding (wpAny_point (fw ?_)))});obtain⟨_,t,od,X3,h3,q3⟩:=q3;exact⟨e,t,od,rfl,X3,h3,q3⟩
end
inductive yU (C:fe)(vs:List V)(H:Hp)(Q:VK)(E:XK):Prop|mk(e:fe)(y:V)(_:vs=[.ref e,y])(_:H e=en (Ia e C p9))(_:plV y)(_:∀dx,H dx=p9->Q .non (upd (upd H dx (.xd [("place",y)])) e (Ia e C (en dx))))
structure Agm (P:gm) (w:iz) (K:e7) (mg:Za2) (base:i8) (name:Str) (W C:fe) (k:Nat) (ps:Za6):Prop where
 ex:∃(f:fe) (fd:jv),Aq P w K mg base CX0 k f fd ps (yU C)/\Dy K fd ps []/\Nw K W C f
 at_:mg name=en (.ref C)
 ek:Jx K C
def sR (C:fe)(E:XK)(t:TA):TS:=λ_ σ H=>t σ H λvs H1=>∃y,vs=[y]/\plV y/\∀dx,H1 dx=p9->E (.ref C) (en dx) (upd H1 dx (.xd [("place",y)]))
section
variable {P:gm} {w:iz} {K:e7} {mg:Za2} {base:i8} {N:Za6} {qual:Str} {scope:nr} {f:fe} {cd:fu} {A:jd} {outer:List Env} {mt:gb} {QP:Hp} {E:XK}
theorem qE {σ:St}{s3:gb}{e t:fe}(I:Inv (Ce (CXE P w) P w K mg base N qual scope f cd A outer mt QP E) pins σ H s)(hn:s.heap.get? e=p9)(ho:s3.os=s.os)(hg:vc s3.gens)
  (un:Un (frs (Ce (CXE P w) P w K mg base N qual scope f cd A outer mt QP E).stack) [] H H' s.5 s3.5)(hok:HOk P w H' s3.5)(hu:H' e=p9)(he:s3.heap.get? e=en (Ki C t od))(q:E (.ref C) od H') :
  (Ce (CXE P w) P w K mg base N qual scope f cd A outer mt QP E).xe (.ref e) s3:=by
 show wpAny (model P w) (A.deeper (envOfC qual scope mt.heap.objs.8 f cd)) (leaving (envOfC qual scope mt.heap.objs.8 f cd) (.ref e)) _ _ _;have I3:=I.call' ho un hok hg (by simp);have hfr:∀b∈frs (Ce (CXE P w) P w K mg base N qual scope f cd A outer mt QP E).stack,H' b=p9:=I3.stkFree;have hin:∀env∈(Ce (CXE P w) P w K mg base N qual scope f cd A outer mt QP E).stack,∀b,env.frame=en b->b∈e::frs (Ce (CXE P w) P w K mg base N qual scope f cd A outer mt QP E).stack:=λenv he b hb=>gw _ (qc.mpr ⟨env,he,hb⟩);have hen:(hideAll s3.5 (e::frs (Ce (CXE P w) P w K mg base N qual scope f cd A outer mt QP E).stack)).get? e=p9:=CH _ gt;have hBh:(hideAll s3.5 (e::frs (Ce (CXE P w) P w K mg base N qual scope f cd A outer mt QP E).stack)).StaysIn s3.5:=λb o z=>zx _ z;refine km (Rg (Nx _ _) (wpAny_leaving_firstW (L:=mt.heap.objs.8) (outer:=outer) (base:=hideAll s3.5 (e::frs (Ce (CXE P w) P w K mg base N qual scope f cd A outer mt QP E).stack)) (a0:=.ref t)
  (Q:=λ_ s'=>∃h2,s'={ s3 with heap:=h2 }/\Heap.LeftW (hideAll s3.5 (e::frs (Ce (CXE P w) P w K mg base N qual scope f cd A outer mt QP E).stack)) (envOfC qual scope mt.heap.objs.8 f cd::outer) e (.ref C) (.ref t) s3.5 h2)
  I.ok.frames (AZ I3.stack hin) rfl he hBh hen rfl rfl rfl λh2 L=>⟨h2,rfl,L⟩)) (λ_ s' z=>?_) λ_ _ z=>z
 obtain⟨⟨h2,rfl,k1,⟨_,_,k2⟩,k3,k4⟩,kd⟩:=z;obtain⟨hp,g,d,tt,os⟩:=s3;have ho:os=s.os:=ho;subst ho;refine iF (s:=s) (g:=g) (d:=d) (t:=tt) (h1:=hp) I un hok hfr hg hn hu (λb o z y=>?_) hBh ({⟨k1,hen,k2,k3⟩,Mf kd {_,he,rfl}}:S5 _ outer e (.ref C) (.ref t) od h2) k4 q
 by_cases hb:b∈e::frs (Ce (CXE P w) P w K mg base N qual scope f cd A outer mt QP E).stack
 .rcases i5.mp hb with z|z
  .exact .inl z
  .exact .inr (.inl z)
 .rw[xj _ z hb] at y
  cases y
theorem Ys {x:Str}{W:fe}{k:Nat}{np:Pos}{a:ja}{as:List ja}{t:TA}(Y:Agm P w K mg base x W C k ps)(hr:B9 (k+1) (Ce (CXE P w) P w K mg base N qual scope f cd A outer mt QP E).A)(hg:Gl (Ce (CXE P w) P w K mg base N qual scope f cd A outer mt QP E) x)
  (ha:PA (Ce (CXE P w) P w K mg base N qual scope f cd A outer mt QP E) (a::as) t)(hdb:autoParam ((x==("__debug__":Str))=NH) QF)
  (he:autoParam (starEach (a::as) (Ce (CXE P w) P w K mg base N qual scope f cd A outer mt QP E).env=(NH,eval a (Ce (CXE P w) P w K mg base N qual scope f cd A outer mt QP E).env)::starEach as (Ce (CXE P w) P w K mg base N qual scope f cd A outer mt QP E).env) QD)
  (hpl:autoParam ((backTo cpos (starEach as (Ce (CXE P w) P w K mg base N qual scope f cd A outer mt QP E).env)).any (·.1)=NH) QD) :
  PS (Ce (CXE P w) P w K mg base N qual scope f cd A outer mt QP E) (.Raise (en (.Call (.Name x np) (a::as) [] cpos)) p9 pos) (sR C E t):=by
 k_end;obtain⟨fi,fd,F,B,O⟩:=Y.ex;refine wI O (I.ok.hd rfl) ?_ ?_
 .rw[he]
  show((NH||(backTo cpos (starEach as _)).any (·.1)))=NH;rw[hpl];rfl
 refine Gu I hg Y.at_ {rfl,?_} hdb;have hs:=ha cpos pins s σ H _ I h;rw[he] at hs ⊢;refine sv (thn hs λus s2 ⟨vs,H1,I1,r,y,ev,hi,q⟩=>{rfl,?_,I1.kIn,λh1 e mx hsz=>?_})
 .have:=r.9
  subst ev;show us.9<=sizeLine;rw[<-this];show 1<=sizeLine;decide
 subst ev;have new:H1 e=p9:=I1.hok.fresh hsz;obtain⟨t,het,_⟩:=mx.there;have I2:=I1.laid (a:=e) (o:=Ia e C p9) (t':=s2.toks) mx.keeps hsz (qV ⟨t,het⟩);have hl:(iw e::us).9=ps.9:=by
  rw[<-F.len [.ref e,y] (upd H1 e (Ia e C p9)) (λ_ _=>True) E0 {e,y,rfl,Ae,hi,λ_ _=>m8}];show us.9+1=_;rw[<-r.9];rfl
 refine nh (ot (F.run _ _ _ (upd H1 e (Ia e C p9)) {.ref e::us,[]} (.ref e::us) [.ref e,y] (λv H2=>v=.non/\∃dx,upd H1 e (Ia e C p9) dx=p9/\H2=upd (upd (upd H1 e (Ia e C p9)) dx (.xd [("place",y)])) e (Ia e C (en dx))) E0
  (hr.make C us []) (I2.env0.make C us []) (by have:=B _ (iw e::us) I2.kIn (by simpa using hl);simpa using this) (.cons rfl r) {e,y,rfl,Ae,hi,λdx hd=>⟨rfl,dx,hd,rfl⟩}) λr' s3 hq=>?_)
 cases r' with
 |error x=>exact hq.elim
 |ok fl=>
  cases fl with
  |next=>exact hq.elim
  |brk=>exact hq.elim
  |cont=>exact hq.elim
  |ret u=>
   obtain⟨v,H3,ho,hg3,un,hok,rv,evn,dx,hd,eH⟩:=hq;subst evn;obtain rfl:u=mr:=rv;have hde:dx≠e:=λz=>by rw[z,Ae] at hd;cases hd
   have hd1:H1 dx=p9:=by rw[Aj hde] at hd;exact hd
   have e3:H3 e=en (Ia e C (en dx)):=by rw[eH,Ae]
   obtain⟨⟨t3,he3⟩,_,_⟩:=(show B3 P w H3 s3.5 e (Ia e C (en dx)) from hok e _ e3);have mv:∀b,b≠e->H3 b=upd H1 dx (.xd [("place",y)]) b:=λb hb=>by
    rw[eH,Aj hb]
    by_cases h2:b=dx
    .subst h2;rw[Ae,Ae]
    .rw[Aj h2,Aj h2,Aj hb]
   have hu:upd H1 dx (.xd [("place",y)]) e=p9:=by rw[Aj (n5 hde)];exact new
   have nb:∀b o,s2.heap.get? b=en o->b≠e:=λb o z y=>by rw[y,mx.new] at z;cases z
   have nt:∀{b:fe} {o:HO},H1 b=en o->b≠e:=λz=>An z new;have m1:∀b,b≠e->upd H1 e (Ia e C p9) b=H1 b:=λb hb=>Aj hb;have I3:=I2.call' ho un hok hg3 (by simp);refine{rfl,t3,en dx,I3.kIn,he3,qE (H':=upd H1 dx (.xd [("place",y)])) I1 mx.new ho hg3 {λb o z n nf nx=>?_,λb o z n nf nx=>?_,λb o z n nx=>?_,λb o z nx=>?_,λb xs z=>?_,λb o u z=>?_,λb ps z=>?_} (λb o z=>?_) hu he3 (q dx hd1)}
   .exact un.keep b o (mx.keeps b o z) (by rw[m1 b (nb b o z)];exact n) nf nx
   .exact un.slot b o (mx.keeps b o z) (by rw[m1 b (nb b o z)];exact n) nf nx
   .rw[<-mv b (nb b o z)];exact un.free b o (mx.keeps b o z) (by rw[m1 b (nb b o z)];exact n) nx
   .exact un.there b o (mx.keeps b o z) nx
   .rw[<-mv b (nt z)];exact un.tups b xs (by rw[m1 b (nt z)];exact z)
   .rw[<-mv b (nt z)];exact un.frzs b o u (by rw[m1 b (nt z)];exact z)
   .rw[<-mv b (nt z)];exact un.tbls b ps (by rw[m1 b (nt z)];exact z)
   .have hb:b≠e:=λy=>by rw[y,hu] at z;cases z
    rw[<-mv b hb] at z;refine(hok b o z).stay (λ_ _ _ y=>y) (λc y=>?_) λc xs y=>?_
    .rw[<-mv c (λy2=>by rw[y2,e3] at y;cases y)];exact y
    .rw[<-mv c (λy2=>by rw[y2,e3] at y;cases y)];exact y
end
section
variable {X:Cx}
def Aeg:V->List V->Hp->VK->Prop:=λx vs H Q=>∃(l:fe) (xs:List V) (y:V),x=.ref l/\vs=[y]/\H l=en (.lst xs)/\xs.all B7=NG/\B7 y=NG/\Q (.int (xs.countP (λz=>eqV z y):Nat)) H
theorem Ug {y:V}:∀{xs:List V} {us:Za3},Az xs us->xs.all B7=NG->us.countP (eqU y)=xs.countP λz=>eqV z y
 |_,_,.nil,_=>rfl
 |x::xs,u::us,.cons r t,f=>by
  rw[sq,ka] at f;rw[zq,zq,Ug t f.2,gH r f.1]
theorem uW:MtM X "list.count" Aeg:=by
 intro pins s σ H x vs v us Q I rx rv h;obtain⟨l,xs,y,rfl,rfl,hH,hf,hy,q⟩:=h;cases rx;obtain⟨u,rfl,ru⟩:=Fk rv;obtain⟨z,its,n,r,hl,e⟩:=I.lstM hH;refine uc F.slot_list_count {_,e,rfl} F.entry_list_count (F.args_list_count_2 _ _) (SeqAt.list_countAt l its.6 n p9 #[] u (eqU y)) {e,λw hw=>Lz ru hy r hf w (by simpa using hw),?_};rw[show its.toArray.7=its from rfl,Ug r hf];exact{.int _,H,I.tok _,{_,rfl},q}
end
section
variable {σ:St} {H:Hp} {D:Io} {Q:VK} {te ta tv:TE} {t:TA} {K:e7} {W C:fe} {E:XK}
theorem Aet (h:t σ H λvs H1=>∃e C f od z,vs=[.ref e,.str z]/\H1 e=en (Ia e C od)/\Nw K W C f/\Q .non H1):Aah K W t σ H Q:=h
theorem Ag1 (h:te σ H λv H1=>plV v/\∀z,Q (.str z) H1):Afc te σ H Q:=h
theorem xO (h:tv σ H λy H1=>ta σ H1 λx H2=>∃e W C f,x=.ref e/\H2 e=en (Ia e C p9)/\Nw K W C f/\Jx K C/\∀dx,H2 dx=p9->D.nx σ (upd (upd H2 dx (.xd [("place",y)])) e (Ia e C (en dx)))):Abf K ta tv D σ H:=h
theorem Ac6 (h:te σ H λx H1=>∃e W C f dx fs y,x=.ref e/\H1 e=en (Us e C (en dx))/\Nw K W C f/\Jx K C/\H1 dx=en (.xd fs)/\fs.lookup ("place":Str)=en y/\plV y/\Q y H1):yO K te σ H Q:=h
theorem zR (h:t σ H λvs H1=>∃y,vs=[y]/\plV y/\∀dx,H1 dx=p9->E (.ref C) (en dx) (upd H1 dx (.xd [("place",y)]))):sR C E t D σ H:=h
end
theorem P8 {xs:List V}{us:Za3}(r:Az xs us):∀is:Za4,Az (is.filterMap λi=>xs[i]?) (is.filterMap λi=>us[i]?)
 |[]=>.nil
 |i::is=>by
  have ih:=P8 r is;have l:=r.9
  by_cases h:i<us.9
  .obtain⟨u,eu,ru⟩:=r.get (fc (show i<xs.9 by lia))
   rw[ll,ll,fc (show i<xs.9 by lia),eu];exact .cons ru ih
  .rw[ll,ll,jc (show us.9<=i by lia),jc (show xs.9<=i by lia)]
   exact ih
theorem gB:entryFor table "zip.__getattribute__"=en ow.«object.__getattribute__» :=
 entryFor_alias (id':="object.__getattribute__") (by kernel_rfl) (by first|rfl|decide +kernel) (by decide +kernel) (by kernel_rfl)
theorem mH:typeLookup (.type "zip") "keys"=pure p9:=by rw[qp,nq];kernel_rfl
theorem jL:typeLookup (.type "zip") "__getattr__"=pure p9:=by rw[qp,nq];kernel_rfl
abbrev Ag8 (vs:Array fu):Obj:={ cls:=.type "zip",dict:=p9,data:=.fields vs,slots:=#[] }
theorem oU (a:fe)(vs:Array fu)(u:Tok):Meets (ow.«object.__getattribute__» {[.ref a,.str "keys" u],[]}) (λA R s=>s.heap.get? a=en (Ag8 vs)/\raisesAttr (.ref a) "keys" A R s):=
 ID λprog w A R s hs=>by
  obtain⟨hp,g,d,tk,os⟩:=s;obtain⟨hx,hs⟩:=hs;have hT:(⟨hp,g,d,tk,os⟩:gb).TypeIs (.ref a) "zip":={_,hx,rfl};have f4:=mH
  repeat (any_goals (first|assumption|with_reducible refine nw hx ?_|wp_step))
  exact GC hs.1 hs.2 (by decide +kernel)
section
variable {prog:gm} {w:iz} {A:jd} {E:Za0} {s:gb}
theorem Ad6 {a:fe}{vs:Array fu}{Q:Za7->gb->Prop}(hx:s.heap.get? a=en (Ag8 vs))(hA:A.handled=p9)(q:∀h' tk,(∀b o,s.heap.get? b=en o->h'.get? b=en o)->Q p9 { s with heap:=h',toks:=tk }) :
  wpAny (model prog w) A (getAttr? (.ref a) "keys") Q E s:=by
 obtain⟨hp,g,d,tk,os⟩:=s;have hT:∀tk',(⟨hp,g,d,tk',os⟩:gb).TypeIs (.ref a) "zip":=λ_=>{_,hx,rfl};have f1:=HF;have f3:=rk.lookup;have f4:=rk.bind (.ref a);have f5:=jL;unfold getAttr? getAttrBy? getAttrBy
 repeat (any_goals (first|assumption|exact hT _|((with_reducible show wpAny _ _ (call (AX "zip.__getattribute__") _ _) _ _ _);refine uc rk (hT _) gB (PySem.F.args_zip_getattribute_2 _ _) (oU a vs _) ⟨hx,hA,λh' tk' e hx'=>?_⟩)|wp_step))
 obtain⟨t',u',he⟩:=hx'.there;show wpAny _ _ (getattributeRaised _ _ _ _ _ _ _) _ _ _;unfold getattributeRaised
 repeat (any_goals (first|assumption|wp_step))
 exact q _ _ hx'.keeps
end
abbrev Nc (h:i8)(z TI TO T:fe)(c:Bool):Prop:=h.get? z=en (Ag8 #[rawInt T,.bool c,.bool NH,.ref TI,.ref TO])
section
variable {prog:gm} {w:iz} {A:jd} {E:Za0} {s:gb}
theorem Aa7 {a:fe}{Q:Option Obj->gb->Prop}(h:Q (s.heap.get? a) s):wpAny (model prog w) A (loadIfAlive a) Q E s:=λΓ p hΓ=>by
 show LL _ _ (.loadIfAlive a _) _ _ _ _;rw[Sem.wp_loadIfAlive];exact h
theorem Z5 {z TI TO T:fe}{c:Bool}{Q:Bool->gb->Prop}(hz:Nc s.5 z TI TO T c)(hT:s.heap.get? T=en oT)(q:∀h',Nc h' z TI TO T NG->wa z s.5 h'->Q NH { s with heap:=h' }) :
  wpAny (model prog w) A (mh (.ref z)) Q E s:=by
 unfold mh;refine wpAny_bind (pe hz rfl (x:=rawInt T) rfl ?_);show wpAny _ _ (loadIfAlive (yd (T:Int)) >>= _) _ _ _;refine wpAny_bind (Aa7 ?_);rw[gr,hT];show wpAny _ _ (field (.ref z) 1 >>= _) _ _ _;refine wpAny_bind (pe hz rfl (x:=.bool c) rfl ?_)
 cases c with
 |true=>
  exact fw (q s.5 hz (KT _ _))
 |false=>
  refine wpAny_bind (wpAny_setField_rec hz (by simp) λQU XE QV=>?_);exact fw (q QU XE QV)
theorem vT {z TI TO T:fe}{k1 k2:Nat}{xs ys:Array fu}{x y:fu}{c:Bool}{Q:Za0}(D:y0 z TI TO i1 i2 l1 l2)
  (hz:Nc s.5 z TI TO T c)(hT:s.heap.get? T=en oT)(hTI:ol s.5 TI (.ref i1) (.ref i2))(h1:s.heap.IsListIter i1 l1 k1)(h2:s.heap.IsListIter i2 l2 k2)(hl1:s.heap.IsList l1 xs)(hl2:s.heap.IsList l2 ys)(hx:xs[k1]?=en x)(hy:ys[k2]?=en y)
  (hQ:∀h',Nc h' z TI TO T NG->h'.IsListIter i1 l1 (k1+1)->h'.IsListIter i2 l2 (k2+1)->ol h' s.heap.objs.8 x y->h'.objs.8=s.heap.objs.8+1->(∀b o,b≠z->b≠i1->b≠i2->s.heap.get? b=en o->h'.get? b=en o)->Q (.ref s.heap.objs.8) { s with heap:=h' }) :
  wpAny (model prog w) A (ow.«zip.__next__» {[.ref z],[]}) (λfin s'=>∃v,fin=.done (.ret v)/\Q v s') E s:=by
 show wpAny _ _ (field (.ref z) 2 >>= _) _ _ _;refine wpAny_bind (pe hz rfl (x:=.bool NH) rfl ?_);show wpAny _ _ (field (.ref z) 3 >>= _) _ _ _;refine wpAny_bind (pe hz rfl (x:=.ref TI) rfl ?_);refine wpAny_bind (vf hTI rfl ?_);show wpAny _ _ (mh (.ref z) >>= _) _ _ _;refine wpAny_bind (Z5 hz hT λQU XE QV=>?_);rw[if_neg (by decide)];refine wpAny_bind ?_;rw[<-uq];simp only[AB,GZ];refine wpAny_bind (wpAny_bind (wpAny_holding ?_));show wpAny _ _ (qx (.ref i1) >>= _) _ _ _;refine wpAny_bind (EY (h1.extBut QV.extBut D.i1z) (hl1.extBut QV.extBut D.l1z) hx λXR XS QZ=>fw ?_);refine fw ?_;refine wpAny_bind (wpAny_bind (wpAny_holding ?_));show wpAny _ _ (qx (.ref i2) >>= _) _ _ _;refine wpAny_bind (EY ((h2.extBut QV.extBut D.i2z).extBut QZ.extBut D.i12.symm) ((hl2.extBut QV.extBut D.l2z).extBut QZ.extBut D.l2i1) hy λXF XT XG=>fw ?_);refine fw (fw ?_);have hsz:XF.objs.8=s.heap.objs.8:=by rw[XG.1,QZ.1,QV.1]
 have kp:∀b o,b≠z->b≠i1->b≠i2->s.heap.get? b=en o->XF.get? b=en o:=λb o b1 b2 b3 e=>XG.extBut _ _ b3 (QZ.extBut _ _ b2 (QV.extBut _ _ b1 e));have XU:Nc XF z TI TO T NG:=XG.extBut _ _ D.i2z.symm (QZ.extBut _ _ D.i1z.symm XE);show wpAny _ _ (newTuple [x,y] >>= _) _ _ _;refine wpAny_bind (LC (fw {_,rfl,?_}));have hp:XF.objs.8=s.heap.objs.8:=hsz;rw[hp];refine hQ _ (fj _ XU) ((XS.extBut XG.extBut D.i12).at λo e=>fj _ e) (XT.at λo e=>fj _ e) ?_ (by rw[qw,hp]) λb o b1 b2 b3 e=>fj _ (kp b o b1 b2 b3 e);rw[<-hp];exact gu _ rfl
theorem Zo {z TI TO T:fe}{k1 k2:Nat}{xs ys:Array fu}{x y:fu}{c:Bool}{Q:Za7->gb->Prop}(D:y0 z TI TO i1 i2 l1 l2)
  (hz:Nc s.5 z TI TO T c)(hT:s.heap.get? T=en oT)(hTI:ol s.5 TI (.ref i1) (.ref i2))(h1:s.heap.IsListIter i1 l1 k1)(h2:s.heap.IsListIter i2 l2 k2)(hl1:s.heap.IsList l1 xs)(hl2:s.heap.IsList l2 ys)(hx:xs[k1]?=en x)(hy:ys[k2]?=en y)
  (hQ:∀h',Nc h' z TI TO T NG->h'.IsListIter i1 l1 (k1+1)->h'.IsListIter i2 l2 (k2+1)->ol h' s.heap.objs.8 x y->h'.objs.8=s.heap.objs.8+1->(∀b o,b≠z->b≠i1->b≠i2->s.heap.get? b=en o->h'.get? b=en o)->Q (en (.ref s.heap.objs.8)) { s with heap:=h' }) :
  wpAny (model prog w) A (pyNext (.ref z)) Q E s:=by
 have hTy:s.TypeIs (.ref z) "zip":={_,hz,rfl};unfold pyNext;exact wpAny_bind (uf (rf (name:=mq "__next__") hTy qt
  (xh qt hTy BE
   (vT D hz hT hTI h1 h2 hl1 hl2 hx hy λh' a1 a2 a3 a4 a5 a6=>fw (hQ h' a1 a2 a3 a4 a5 a6)) (AR _))))
theorem kE {z TI TO T:fe}{k1:Nat}{xs:Array fu}{c:Bool}{Q:Za7->gb->Prop}(hh:A.handled=p9)(D:y0 z TI TO i1 i2 l1 l2)
  (hz:Nc s.5 z TI TO T c)(hT:s.heap.get? T=en oT)(hTI:ol s.5 TI (.ref i1) (.ref i2))(h1:s.heap.IsListIter i1 l1 k1)(hl1:s.heap.IsList l1 xs)(hx:xs[k1]?=p9)
  (hQ:∀h',(∀b o,b≠z->b≠i1->b≠i2->s.heap.get? b=en o->h'.get? b=en o)->Q p9 { s with heap:=h' }) :
  wpAny (model prog w) A (pyNext (.ref z)) Q E s:=by
 have hTy:s.TypeIs (.ref z) "zip":={_,hz,rfl};unfold pyNext;refine wpAny_bind (uf (rf (name:=mq "__next__") hTy qt
  (xh qt hTy BE ?_ (AR _))))
 show wpAny _ _ (field (.ref z) 2 >>= _) _ _ _;refine wpAny_bind (pe hz rfl (x:=.bool NH) rfl ?_);show wpAny _ _ (field (.ref z) 3 >>= _) _ _ _;refine wpAny_bind (pe hz rfl (x:=.ref TI) rfl ?_);refine wpAny_bind (vf hTI rfl ?_);show wpAny _ _ (mh (.ref z) >>= _) _ _ _;refine wpAny_bind (Z5 hz hT λQU XE QV=>?_);rw[if_neg (by decide)];refine wpAny_bind ?_;rw[<-uq];simp only[AB,GZ];refine wpAny_bind (wpAny_bind (wpAny_holding ?_));show wpAny _ _ (qx (.ref i1) >>= _) _ _ _;refine wpAny_bind (wpAny_nextOf_list_end hh (h1.extBut QV.extBut D.i1z) (hl1.extBut QV.extBut D.l1z) hx λXR e QZ he=>?_);obtain⟨oe,hoe,hce⟩:=he;show wpAny _ _ (isInstance (.ref e) (.type "StopIteration") >>= _) _ _ _;refine wpAny_bind (wpAny_isInstance (T:="StopIteration") (b:=NG) ⟨oe,hoe,hce⟩ isSubtype_stop ?_);exact fw (hQ _ λb o b1 b2 b3 e=>QZ _ _ b2 (QV.extBut _ _ b1 e))
end
section
variable {prog:gm} {w:iz} {A:jd} {E:Za0} {R:wm->gb->Prop}
theorem Bs:plainId "dict.update.loop"=NG:=by decide +kernel
theorem Ee:entryFor table "dict.update.loop"=en ow.«dict.update.loop»:=entryFor_of_tree (by kernel_rfl)
theorem Ux {T:fe}{x y:fu}{Q:Za3->gb->Prop}(hT:ol s.5 T x y)(h:Q [x,y] s):wpAny (model prog w) A (pb (.ref T)) Q E s:=by
 have ty:s.TypeIs (.ref T) "tuple":={_,hT,rfl};unfold pb;refine wpAny_bind (pj ty ?_);rw[if_pos (by decide)];exact wpAny_bind (vf hT rfl (fw h))
structure DzA (d z TI TO i1 i2 l1 l2:fe):Prop where
 za:y0 z TI TO i1 i2 l1 l2
 dz:d≠z
 dI:d≠TI
 dO:d≠TO
 d1:d≠i1
 d2:d≠i2
 dl:d≠l1
 dm:d≠l2
end
theorem P1:∀{kvs:List (Key×V)} {vs:List (Key×fu)},KV kvs vs->kvs.9=vs.9
 |_,_,.nil=>rfl
 |_,_,.cons _ t=>congrArg (·+1) (P1 t)
theorem N7:∀{xs:List V} {us:Za3},xs.9=us.9->(∀(i:Nat) x u,xs[i]?=en x->us[i]?=en u->Be x u)->Az xs us
 |[],[],_,_=>.nil
 |x::xs,u::us,hl,h=>.cons (h 0 x u rfl rfl) (N7 (ya hl) λi y v e1 e2=>h (i+1) y v e1 e2)
structure nZ (K:e7) (x qual:Str) (st:i7) (f:fe) (fd:jv):Prop where
 ex:∃(oc:fu) (od:Option fe) (T:fe) (kV doc pm:fu) (an:Option fe) (cdv ct:fu) (osl:Array (Za7)) (o:Obj) (v:fu) (n:Nat),
  fd=jq x qual (Bz st) (Bg st) (Ac st) (.ref T) kV doc pm an cdv ct/\K.lookup f=en {oc,od,.func fd,osl}/\ln K cdv qual=NG/\K.lookup T=en o/\o.data=.seq #[v] n
section
variable {P:gm} {w:iz} {K:e7} {mg:Za2} {base:i8}
theorem nZ.okE {x:Str}{st:i7}{f:fe}{k:Nat}(F:nZ K x qual st f fd)(S:Ah N ps (Ac st))(len:∀vs H Q E,sp vs H Q E->vs.9=ps.9)
  (hbody:∀(cdv:fu) (A:jd) (outer:List Env) (s:gb) (H:Hp) (vs:List V) (Q:VK) (E:XK),B9 k (A.deeper (envOfC qual (Ac st) s.heap.objs.8 f cdv))->sp vs H Q E ->
   ∃t,PSs (Ce (CXE P w) P w K mg base N qual (Ac st) f cdv A outer s H E) (Bg st) t/\t { nx:=λ_ H'=>Q .non H',rt:=Q } (Kx N vs) H):Aq P w K mg base (CXE P w) (k+1) f fd ps sp:=by
 obtain⟨oc,od,T,kV,doc,pm,an,cdv,ct,osl,o,v,n,rfl,lk,hcd,_⟩:=F.ex;exact kD lk hcd S len λA outer s H vs Q E hr hsp=>hbody cdv A outer s H vs Q E hr hsp
theorem nZ.binds {x:Str}{st:i7}{f:fe}(F:nZ K x qual st f fd)
  (h:∀(T:fe) (kV doc pm:fu) (an:Option fe) (cdv ct:fu) (us:Za3),us.9=ps.9->∃k,bindArgs (jq x qual (Bz st) (Bg st) (Ac st) (.ref T) kV doc pm an cdv ct) {us,[]}=seqItems? (.ref T) >>= k/\∀v,k (en #[v])=pure (ps.zip us)):Dy K fd ps []:=by
 obtain⟨oc,od,T,kV,doc,pm,an,cdv,ct,osl,o,v,n,rfl,lk,hcd,hT,hd⟩:=F.ex;intro s us KX hl;rw[lu] at hl ⊢;obtain⟨k,h1,h2⟩:=h T kV doc pm an cdv ct us hl;exact CY rfl (KX _ _ hT) hd h1 (h2 v)
theorem Aeq {x:Str}{st:i7}{f T:fe}{osl:Array (Za7)}{kV v:fu}{o:Obj}{n:Nat}(l:K.lookup f=en {oc,od,.func (jq x qual (Bz st) (Bg st) (Ac st) (.ref T) kV doc pm an cdv ct),osl})
  (c:ln K cdv qual=NG)(hT:K.lookup T=en o)(hd:o.data=.seq #[v] n):nZ K x qual st f (jq x qual (Bz st) (Bg st) (Ac st) (.ref T) kV doc pm an cdv ct):={⟨oc,od,T,kV,doc,pm,an,cdv,ct,osl,o,v,n,rfl,l,c,hT,hd⟩}
end
section
variable {σ:St} {H:Hp}
theorem Aht {to ti:TE}{t:Ad2}{v:V}{R:St->Hp->Prop}(h:to σ H λo H1=>ti σ H1 λi H2=>t o i v H2 λH3=>R σ H3):Aie to ti t v σ H R:=h
theorem Adm {n j:Nat}(h:j<n):ixN n (j:Int)=en j:=by
 unfold ixN;rw[if_pos (),if_pos ()];simp
theorem pU {p:fe}{j:Nat}{i:Int}{v:V}{R:Hp->Prop}(h:H p=en (.lst xs))(hi:i=j)(hj:j<xs.9)(q:R (upd H p (.lst (xs.set j v)))):Aex (.ref p) (.int i) v H R:=
 {p,xs,i,j,rfl,rfl,h,by rw[hi];exact Adm hj,q}
end
section
variable {κ:Type} [DecidableEq κ]
def Cd (kvs:List (κ×V))(k:κ):Option V:=(kvs.find? λkv=>decide (kv.1=k)).map (·.2)
def Gg (kvs:List (κ×V))(k:κ)(v:V):List (κ×V):=
 if(kvs.any λkv=>decide (kv.1=k))=NG then kvs.map (λkv=>if kv.1=k then(kv.1,v) else kv) else kvs++[(k,v)]
theorem Er {p:κ×V}{r:List (κ×V)}{k:κ}(e:p.1=k):Cd (p::r) k=en p.2:=by simp[Cd,wv,e]
theorem Ev {p:κ×V}{r:List (κ×V)}{k:κ}(e:¬ p.1=k):Cd (p::r) k=Cd r k:=by simp[Cd,wv,e]
theorem Vo (k:κ):∀kvs:List (κ×V),(kvs.any λkv=>decide (kv.1=k))=(Cd kvs k).isSome
 |[]=>rfl
 |p::r=>by
  rw[ve]
  by_cases e:p.1=k
  .simp only[Er e,decide_eq_true e,Bool.true_or,DU]
  .rw[Ev e,decide_eq_false e,Bool.false_or];exact Vo k r
theorem jW (k j:κ)(y:V):∀kvs:List (κ×V),Cd (kvs.map λkv=>if kv.1=k then(kv.1,y) else kv) j=(Cd kvs j).map λx=>if j=k then y else x
 |[]=>rfl
 |p::r=>by
  have ih:=jW k j y r;rw[jh]
  by_cases h:p.1=k
  .rw[if_pos h]
   by_cases e:p.1=j
   .rw[Er (p:=(p.1,y)) e,Er e,sy,if_pos (e.symm.trans h)]
   .rw[Ev (p:=(p.1,y)) e,Ev e,ih]
  .rw[if_neg h]
   by_cases e:p.1=j
   .rw[Er (p:=p) e,Er e,sy,if_neg (λz=>h (e.trans z))]
   .rw[Ev (p:=p) e,Ev e,ih]
theorem Zr (k j:κ)(y:V):∀kvs:List (κ×V),Cd kvs k=p9->Cd (kvs++[(k,y)]) j=if j=k then en y else Cd kvs j
 |[],_=>by
  by_cases e:k=j
  .rw[if_pos e.symm];exact Er (p:=(k,y)) e
  .rw[if_neg (λz=>e z.symm)];exact Ev (p:=(k,y)) e
 |p::r,hn=>by
  rw[vm];have hk:¬ p.1=k:=λz=>by rw[Er z] at hn;cases hn
  rw[Ev hk] at hn;have ih:=Zr k j y r hn
  by_cases e:p.1=j
  .rw[Er e,Er e,if_neg (λz=>hk (e.trans z))]
  .rw[Ev e,Ev e,ih]
theorem Lm (kvs:List (κ×V))(k j:κ)(y:V):Cd (Gg kvs k y) j=if j=k then en y else Cd kvs j:=by
 unfold Gg
 by_cases a:(kvs.any λkv=>decide (kv.1=k))=NG
 .rw[if_pos a,jW]
  rw[Vo] at a
  by_cases e:j=k
  .obtain⟨x,hx⟩:=jz.mp a
   rw[if_pos e,e,hx,sy,if_pos rfl]
  .rw[if_neg e]
   cases Cd kvs j with
   |none=>rfl
   |some x=>rw[sy,if_neg e]
 .rw[if_neg a]
  refine Zr k j y kvs ?_;rw[Vo] at a
  cases q:Cd kvs k with
  |none=>rfl
  |some x=>rw[q] at a;exact(a rfl).elim
theorem G0 (kvs:List (κ×V))(k:κ)(v:V):(Gg kvs k v).9<=kvs.9+1:=by
 unfold Gg;split
 .rw[fb];lia
 .rw[fq,iu,kl];lia
theorem J6.isSome_eq {o:Option V}{u:Za7}(r:J6 o u):o.isSome=u.isSome:=by
 cases o with
 |none=>cases u with
  |none=>rfl
  |some _=>exact(show False from r).elim
 |some _=>cases u with
  |none=>exact(show False from r).elim
  |some _=>rfl
theorem J6.getD {o:Option V}{u:Za7}{d:V}{d':fu}(r:J6 o u)(rd:Be d d'):Be (o.getD d) (u.getD d'):=by
 cases o with
 |none=>cases u with
  |none=>exact rd
  |some _=>exact(show False from r).elim
 |some _=>cases u with
  |none=>exact(show False from r).elim
  |some _=>exact r
theorem KV.val {kvs:List (κ×V)}{vs:List (κ×fu)}(r:KV kvs vs)(k:κ):J6 (Cd kvs k) (valueAt vs k):=by
 unfold KV at r
 induction r with
 |nil=>exact m8
 | @cons p q ps qs h t ih=>
  obtain⟨h1,h2⟩:=h
  by_cases e:p.1=k
  .have e':q.1=k:=h1.symm.trans e
   have b:valueAt (q::qs) k=en q.2:=by simp[valueAt,wv,e']
   rw[Er e,b];exact h2
  .have e':¬ q.1=k:=λz=>e (h1.trans z)
   have b:valueAt (q::qs) k=valueAt qs k:=by simp[valueAt,wv,e']
   rw[Ev e,b];exact ih
theorem KV.any {kvs:List (κ×V)}{vs:List (κ×fu)}(r:KV kvs vs)(k:κ):(kvs.any λkv=>decide (kv.1=k))=vs.any λkv=>decide (kv.1=k):=by
 unfold KV at r
 induction r with
 |nil=>rfl
 |cons h t ih=>rw[ve,ve,ih,h.1]
theorem KV.repl {kvs:List (κ×V)}{vs:List (κ×fu)}(r:KV kvs vs)(k:κ){u:fu}(ry:Be y u) :
  KV (kvs.map λkv=>if kv.1=k then(kv.1,y) else kv) (vs.map λkv=>if kv.1=k then(kv.1,u) else kv):=by
 unfold KV at r ⊢
 induction r with
 |nil=>exact .nil
 | @cons p q ps qs h t ih=>
  rw[jh,jh];refine .cons ?_ ih;obtain⟨h1,h2⟩:=h
  by_cases e:p.1=k
  .rw[if_pos e,if_pos (h1.symm.trans e)];exact⟨h1,ry⟩
  .rw[if_neg e,if_neg (λz=>e (h1.trans z))];exact⟨h1,h2⟩
theorem KV.put {kvs:List (κ×V)}{vs:List (κ×fu)}(r:KV kvs vs)(k:κ){u:fu}(ry:Be y u):KV (Gg kvs k y) (stored vs k u):=by
 unfold Gg stored;rw[r.any k]
 by_cases e:(vs.any λkv=>decide (kv.1=k))=NG
 .rw[if_pos e,if_pos e];exact r.repl k ry
 .rw[if_neg e,if_neg e];exact Paired.snoc r ⟨rfl,ry⟩
theorem KV.length {kvs:List (κ×V)}{vs:List (κ×fu)}(r:KV kvs vs):kvs.9=vs.9:=GK r
end
theorem Zn {P:gm}{k:Key}{u:fu}(r:Be (kV k) u):(Bj P w).is k u=NG:=by
 cases k with
 |inl i=>obtain⟨t,e⟩:=(show ∃t,u=nz i t from r);subst e;exact L5 P w i t
 |inr x=>obtain⟨t,e⟩:=(show ∃t,u=rj x t from r);subst e;exact Sc P w x t
section
variable {P:gm} {w:iz} {H:Hp} {h:i8} {a:fe}
theorem Akg {u:HO}(ok:HOk P w H h)(e:Rd H a u):B3 P w H h a u:=e.ok ok
theorem Aiq {kvs:List (Key×V)}(ok:HOk P w H h)(e:Rd H a (.dK kvs)):kvs.9<=sizeLine/\(a==sysModules)=NH/\∃vs,KV kvs vs/\h.DictOf (Bj P w) a vs:=
 show B3 P w H h a (.dK kvs) from Akg ok e
theorem Yx {kvs:List (Key×V)}(ok:HOk P w H h)(e:H a=en (.dK kvs)):kvs.9<=sizeLine/\(a==sysModules)=NH/\∃vs,KV kvs vs/\h.DictOf (Bj P w) a vs:=Aiq ok (.inl e)
end
section
variable {X:Cx} {pins:Za1} {σ:St} {H:Hp} {s:gb} {a:fe} {y v:V} {u r:fu} {o:Option V} {A:jd} {E:Za0}
theorem Ad0 {ob:HO}(I:Inv X pins σ H s)(mu:Mut (H a))(hs:wa a s.5 h')(he:∃q,h'.get? a=en q)(new:B3 X.prog X.w (upd H a ob) h' a ob) :
  Inv X pins σ (upd H a ob) { s with heap:=h',toks:=t' }:=
 I.write (x:=a) (e:=a) mu (.inl rfl) (λb q hb z=>(hs.2 b hb).trans z) he new
theorem Af6 {P:gm}{kvs:List (Key×V)}{vs:List (Key×fu)}(z:kvs.9<=sizeLine)(hd:(a==sysModules)=NH)(rel:KV kvs vs)(dd:h'.DictOf (Bj P w) a vs) :
  B3 P w H' h' a (.dK kvs):=⟨z,hd,vs,rel,dd⟩
end
def Nf (kvs more:List (Key×V)):List (Key×V):=more.foldl (λacc kv=>Gg acc kv.1 kv.2) kvs
theorem KV.merge:∀{more:List (Key×V)} {rs:List (Key×fu)} {kvs:List (Key×V)} {vs:List (Key×fu)},KV more rs->KV kvs vs->KV (Nf kvs more) (merged vs rs):=by
 intro more rs kvs vs r;unfold KV at r
 induction r generalizing kvs vs with
 |nil=>intro q;exact q
 | @cons p q ps qs h t ih=>
  intro r0;have e:KV (Gg kvs p.1 p.2) (stored vs q.1 q.2):=by
   have:=r0.put p.1 h.2;rw[<-h.1];exact this
  exact ih e
theorem Jn:∀(more kvs:List (Key×V)),(Nf kvs more).9<=kvs.9+more.9
 |[],kvs=>by show kvs.9<=kvs.9+0;lia
 |p::r,kvs=>by
  have h1:=Jn r (Gg kvs p.1 p.2);have h2:=G0 kvs p.1 p.2;show(Nf (Gg kvs p.1 p.2) r).9<=_;rw[iu];lia
end _L
end
section
namespace _W
def nx (ns:Za4)(x:Nat):Nat:=ns[x]?.getD 0
def itr (ns:Za4):Nat->Nat->Nat
 |0,x=>x
 |j+1,x=>nx ns (itr ns j x)
structure Ord (ns:Za4):Prop where
 lt:∀x∈ns,x<ns.9
 nd:ns.Nodup
theorem mS {ns:Za4}{x:Nat}(h:x<ns.9):ns[x]?=en (nx ns x):=by
 unfold nx;rw[fc h];rfl
theorem Oc (ns:Za4)(a b x:Nat):itr ns (a+b) x=itr ns a (itr ns b x):=by
 induction a with
 |zero=>rw[mz];rfl
 |succ a ih=>rw[Nat.succ_add];show nx ns _=nx ns _;rw[ih]
section
variable {ns:Za4} (o:Ord ns)
include o
theorem Aii {x:Nat}(h:x<ns.9):nx ns x<ns.9:=o.lt _ (ip (mS h))
theorem Agw {x y:Nat}(hx:x<ns.9)(hy:y<ns.9)(h:nx ns x=nx ns y):x=y:=by
 have e1:=mS hx;have e2:=mS hy;rw[h] at e1;rcases FK x y with hl|hl|hl
 .exact absurd (ip e1) λ_=>(me.mp o.nd) x y hx hy hl (by
   rw[fc hx] at e1;rw[fc hy] at e2;exact(fk e1).trans (fk e2).symm)
 .exact hl
 .exact absurd (ip e1) λ_=>(me.mp o.nd) y x hy hx hl (by
   rw[fc hx] at e1;rw[fc hy] at e2;exact(fk e2).trans (fk e1).symm)
theorem Hn {x:Nat}(h:x<ns.9):∀j,itr ns j x<ns.9
 |0=>h
 |j+1=>Aii o (Hn h j)
theorem uG {x y:Nat}(hx:x<ns.9)(hy:y<ns.9):∀j,itr ns j x=itr ns j y->x=y
 |0,h=>h
 |j+1,h=>uG hx hy j (Agw o (Hn o hx j) (Hn o hy j) h)
end
theorem Pp:∀(n:Nat) (l:Za4),l.Nodup->(∀x∈l,x<n)->l.9<=n
 |0,[],_,_=>fm _
 |0,x::l,_,h=>absurd (h x gt) (xc _)
 |n+1,l,hn,h=>by
  by_cases hm:n∈l
  .have h1:=Pp n (l.erase n) (hn.erase n) λx hx=>by
    have h2:=(hn.mem_erase_iff).mp hx;have:=h x h2.2;lia
   rw[List.length_erase_of_mem hm] at h1;lia
  .have:=Pp n l hn λx hx=>by
    have:=h x hx;have:x≠n:=λe=>hm (e▸hx);lia
   lia
theorem S4 {n:Nat}{f:Nat->Nat}(h:∀i j,i<j->j<n->f i≠f j):((ft n).map f).Nodup:=by
 rw[List.Nodup,me];intro i j hi hj hij;rw[fb,fv] at hi hj;rw[zp,zp,ES,ES];exact h i j hij hj
section
variable {ns:Za4} (o:Ord ns)
include o
theorem pS {x:Nat}(h:x<ns.9):∃j,j<ns.9/\itr ns (j+1) x=x:=by
 refine zr λhc=>?_;have hne:∀j,j<ns.9->itr ns (j+1) x≠x:=λj hj e=>hc ⟨j,hj,e⟩;have h1:=Pp ns.9 ((ft (ns.9+1)).map λi=>itr ns i x) (S4 λi j hij hj e=>by
  have e1:j=i+((j-i-1)+1):=()
  have e2:itr ns i (itr ns ((j-i-1)+1) x)=itr ns i x:=by rw[<-Oc,<-e1];exact e.symm
  exact hne (j-i-1) () (uG o (Hn o h _) h i e2)) (λy hy=>by
  obtain⟨i,_,rfl⟩:=je.mp hy;exact Hn o h i)
 rw[fb,fv] at h1;lia
end
def seg (ns:Za4)(j k:Nat):Za4:=(ft j).map λi=>itr ns i k
theorem yK (ns:Za4)(j k:Nat):seg ns (j+1) k=seg ns j k++[itr ns j k]:=by
 unfold seg;rw[jo,ge];rfl
theorem tH (ns:Za4)(j k:Nat):(seg ns j k).9=j:=by unfold seg;rw[fb,fv]
end _W
end
section
namespace _L
open PySem PySem.Spec PyProof.Rows
def gM (vs:List (Key×fu)):List Int->Za3->List (Key×fu)
 |k::ks,u::us=>gM (stored vs (.inl k) u) ks us
 |_,_=>vs
theorem mI {vs:List (Key×fu)}:∀(ks:List Int),gM vs ks []=vs
 |[]=>rfl
 |_::_=>rfl
theorem tD {vs:List (Key×fu)}{i:Nat}{n:Int}{u:fu}(h1:ks[i]?=en n)(h2:us[i]?=en u):gM vs (ks.drop i) (us.drop i)=gM (stored vs (.inl n) u) (ks.drop (i+1)) (us.drop (i+1)):=by
 obtain⟨l1,e1⟩:=gg.mp h1;obtain⟨l2,e2⟩:=gg.mp h2;rw[ng l1,ng l2,e1,e2];rfl
section
variable {prog:gm} {w:iz} {A:jd} {E:Za0} {R:wm->gb->Prop}
theorem Adi {d z TI TO T:fe}{xs ys:Array fu}(D:DzA d z TI TO i1 i2 l1 l2)(hTz:T≠z)(hT1:T≠i1)(hT2:T≠i2)(hTd:T≠d)(hh:A.handled=p9)(he:xs.8=ys.8)
  (hk:∀(i:Nat) x,xs[i]?=en x->∃n t,ks[i]?=en n/\x=nz n t):∀(m i:Nat) (s:gb) (tk:Tok) (c:Bool) (vs:List (Key×fu)) (oT:Obj),xs.8-i=m->i<=xs.8->Nc s.5 z TI TO T c->s.heap.get? T=en oT->ol s.5 TI (.ref i1) (.ref i2) ->
   s.heap.IsListIter i1 l1 i->s.heap.IsListIter i2 l2 i->s.heap.IsList l1 xs->s.heap.IsList l2 ys->s.heap.DictOf (Bj prog w) d vs->vs.9+(xs.8-i)<=sizeLine ->
   (∀h' k vs',h'.DictOf (Bj prog w) d vs'->vs'=gM vs (ks.drop i) (ys.toList.drop i)->(∀b o,b≠z->b≠i1->b≠i2->b≠d->s.heap.get? b=en o->h'.get? b=en o)->R (.ok (.ret .none)) { s with heap:=h',toks:=k }) ->
   codeAny (model prog w) A (.builtin "dict.update.loop" {[.ref d,.ref z,.int i tk,.none],[]}) R s:=by
 intro m
 induction m with
 |zero=>
  intro i s tk c vs oT hm hi hz hT hTI h1 h2 hl1 hl2 hd hsz q;refine ly Ee ?_;rw[ke Bs _];show wpAny _ A.in1 (pyNext (.ref z) >>= _) _ _ s;refine wpAny_bind (kE (by exact hh) D.za hz hT hTI h1 hl1 (l6 ()) λh' kp=>?_);show wpAny _ A.in1 (ua d [] >>= _) _ _ _;refine wpAny_bind (fw (fw ?_));obtain⟨o,es,ep,ho,r⟩:=hd;exact q h' s.toks vs {o,es,ep,kp _ _ D.dz D.d1 D.d2 ho,r} (by rw[kh (l:=ys.7) (by rw[ie];lia),mI]) λb o b1 b2 b3 _ e=>kp b o b1 b2 b3 e
 |succ m ih=>
  intro i s tk c vs oT hm hi hz hT hTI h1 h2 hl1 hl2 hd hsz q;obtain⟨x,hx⟩:∃x,xs[i]?=en x:={_,jw (show i<xs.8 by lia)};obtain⟨y,hy⟩:∃y,ys[i]?=en y:={_,jw (show i<ys.8 by lia)};obtain⟨n,t,hn,rfl⟩:=hk i x hx;refine ly Ee ?_;rw[ke Bs _];show wpAny _ A.in1 (pyNext (.ref z) >>= _) _ _ s;refine wpAny_bind (Zo D.za hz hT hTI h1 h2 hl1 hl2 hx hy λh' hz' h1' h2' hp hsz' kp=>?_);have hd':h'.DictOf (Bj prog w) d vs:=by
   obtain⟨o,es,ep,ho,r⟩:=hd;exact{o,es,ep,kp _ _ D.dz D.d1 D.d2 ho,r}
  show wpAny _ A.in1 (holding _ _ >>= _) _ _ _;refine wpAny_bind (wpAny_holding (wpAny_bind (DC (Ux hp ?_))));show wpAny _ A.in1 (holding _ (dictSet d (.int n t) y)) _ _ _;refine wpAny_holding (zg (knd:=Bj prog w) (k:=.inl n) (L5 prog w n t) hd' (λh2 dd' hs=>?_) ());have k2:∀b o,b≠z->b≠i1->b≠i2->b≠d->s.heap.get? b=en o->h2.get? b=en o:=λb o b1 b2 b3 b4 e=>(hs.2 b b4).trans (kp b o b1 b2 b3 e);have st:∀b o,b≠d->h'.get? b=en o->h2.get? b=en o:=λb o b4 e=>(hs.2 b b4).trans e;have hln:=AV vs (wk n:Key) y;refine fw {n4 Bs _,?_};refine ih (i+1) _ _ NG _ oT () () (st _ _ D.dz.symm hz') (k2 _ _ hTz hT1 hT2 hTd hT) (k2 _ _ D.za.TIz D.za.TIi1 D.za.TIi2 D.dI.symm hTI) (h1'.at λo e=>st _ o D.d1.symm e) (h2'.at λo e=>st _ o D.d2.symm e)
   (hl1.at λo e=>k2 _ o D.za.l1z D.za.l1i1 D.za.l1i2 D.dl.symm e) (hl2.at λo e=>k2 _ o D.za.l2z D.za.l2i1 D.za.l2i2 D.dm.symm e) dd' () λh3 k vs' hd3 e3 kp3=>?_
  exact q h3 k vs' hd3 (by rw[e3,tD hn (show ys.7[i]?=en y by rw[j6];exact hy)]) λb o b1 b2 b3 b4 e=>kp3 b o b1 b2 b3 b4 (k2 b o b1 b2 b3 b4 e)
theorem pA {tk:Tok}{d z TI TO:fe}{a b:fu}{xs ys:Array fu}{vs:List (Key×fu)}(D:DzA d z TI TO i1 i2 l1 l2)(hh:A.handled=p9)(he:xs.8=ys.8)
  (hk:∀(i:Nat) x,xs[i]?=en x->∃n t,ks[i]?=en n/\x=nz n t)(hz:IG s.5 z TI TO .none)(hTO:ol s.5 TO a b)(hTI:ol s.5 TI (.ref i1) (.ref i2))
  (h1:s.heap.IsListIter i1 l1 0)(h2:s.heap.IsListIter i2 l2 0)(hl1:s.heap.IsList l1 xs)(hl2:s.heap.IsList l2 ys)(hd:s.heap.DictOf (Bj prog w) d vs)(hsz:vs.9+xs.8<=sizeLine)
  (q:∀h' k vs',h'.DictOf (Bj prog w) d vs'->vs'=gM vs ks ys.7->(∀b o,b≠z->b≠TO->b≠i1->b≠i2->b≠d->s.heap.get? b=en o->h'.get? b=en o)->R (.ok (.ret .none)) { s with heap:=h',toks:=k }) :
  codeAny (model prog w) A (.builtin "dict.update.loop" {[.ref d,.ref z,.int 0 tk,.none],[]}) R s:=by
 refine ly Ee ?_;rw[ke Bs _];show wpAny _ A.in1 (pyNext (.ref z) >>= _) _ _ s;rcases qg xs.8 with h0|h0
 .refine wpAny_bind (GE (by exact hh) D.za hz hTI hTO h1 h2 hl1 hl2 (.inl (l6 ())) λh' kp=>?_)
  show wpAny _ A.in1 (ua d [] >>= _) _ _ _;refine wpAny_bind (fw (fw ?_));obtain⟨o,es,ep,ho,r⟩:=hd;exact q h' s.toks vs {o,es,ep,kp _ _ D.dz D.dO D.d1 D.d2 ho,r} (by rw[show ys.7=[] from List.length_eq_zero_iff.mp (by rw[ie];lia),mI]) λb o b1 b2 b3 b4 _ e=>kp b o b1 b2 b3 b4 e
 .obtain⟨x,hx⟩:∃x,xs[0]?=en x:={_,jw h0}
  obtain⟨y,hy⟩:∃y,ys[0]?=en y:={_,jw (show 0<ys.8 by lia)};obtain⟨n,t,hn,rfl⟩:=hk 0 x hx;refine wpAny_bind (FF D.za hz hTI hTO h1 h2 hl1 hl2 hx hy λh' hz' _ h1' h2' hp hsz' kp=>?_);have hd':h'.DictOf (Bj prog w) d vs:=by
   obtain⟨o,es,ep,ho,r⟩:=hd;exact{o,es,ep,kp _ _ D.dz D.dO D.d1 D.d2 ho,r}
  have lt:∀{c o},s.heap.get? c=en o->s.heap.objs.8≠c:=λe=>j8 (gi e);have ltd:s.heap.objs.8≠d:=by
   obtain⟨o,es,ep,ho,r⟩:=hd;exact lt ho
  show wpAny _ A.in1 (holding _ _ >>= _) _ _ _;refine wpAny_bind (wpAny_holding (wpAny_bind (DC (Ux hp ?_))));show wpAny _ A.in1 (holding _ (dictSet d (.int n t) y)) _ _ _;refine wpAny_holding (zg (knd:=Bj prog w) (k:=.inl n) (L5 prog w n t) hd' (λhb dd' hs=>?_) ());have k2:∀b o,b≠z->b≠TO->b≠i1->b≠i2->b≠d->s.heap.get? b=en o->hb.get? b=en o:=λb o b1 b2 b3 b5 b4 e=>(hs.2 b b4).trans (kp b o b1 b2 b3 b5 e);have st:∀b o,b≠d->h'.get? b=en o->hb.get? b=en o:=λb o b4 e=>(hs.2 b b4).trans e;have hln:=AV vs (wk n:Key) y;refine fw {n4 Bs _,?_};refine Adi D (T:=s.heap.objs.8) (lt hz) (by obtain⟨_,e,_⟩:=h1;exact lt e) (by obtain⟨_,e,_⟩:=h2;exact lt e) ltd hh he hk _ 1 _ _ NH _ _ rfl h0 (st _ _ D.dz.symm hz') (st _ _ ltd hp) (k2 _ _ D.za.TIz D.za.TITO D.za.TIi1 D.za.TIi2 D.dI.symm hTI) (h1'.at λo e=>st _ o D.d1.symm e) (h2'.at λo e=>st _ o D.d2.symm e)
   (hl1.at λo e=>k2 _ o D.za.l1z D.za.l1TO D.za.l1i1 D.za.l1i2 D.dl.symm e) (hl2.at λo e=>k2 _ o D.za.l2z D.za.l2TO D.za.l2i1 D.za.l2i2 D.dm.symm e) dd' () λh3 k vs' hd3 e3 kp3=>?_
  exact q h3 k vs' hd3 (by rw[e3];exact(tD (i:=0) hn (show ys.7[0]?=en y by rw[j6];exact hy)).symm) λb o b1 b2 b3 b5 b4 e=>kp3 b o b1 b3 b5 b4 (k2 b o b1 b2 b3 b5 b4 e)
theorem Xe {z TI TO:fe}{a b:fu}{xs ys:Array fu}{Q:Za0}(D:y0 z TI TO i1 i2 l1 l2)(hh:A.handled=p9)(he:xs.8=ys.8)
  (hk:∀(i:Nat) x,xs[i]?=en x->∃n t,ks[i]?=en n/\x=nz n t)(hz:IG s.5 z TI TO .none)(hTO:ol s.5 TO a b)(hTI:ol s.5 TI (.ref i1) (.ref i2))
  (h1:s.heap.IsListIter i1 l1 0)(h2:s.heap.IsListIter i2 l2 0)(hl1:s.heap.IsList l1 xs)(hl2:s.heap.IsList l2 ys)(hsz:xs.8<=sizeLine)
  (q:∀h' k vs',h'.DictOf (Bj prog w) s.heap.objs.8 vs'->vs'=gM [] ks ys.7->(∀b o,b≠z->b≠TO->b≠i1->b≠i2->s.heap.get? b=en o->h'.get? b=en o)->Q (.ref s.heap.objs.8) { s with heap:=h',toks:=k }) :
  wpAny (model prog w) A (call (.type "dict") [.ref z]) Q E s:=by
 refine DF (Q₁:=λobj QN=>obj=.ref s.heap.objs.8/\QN={ s with heap:=s.heap.push { cls:=.type "dict",data:=.dict #[] } }) BB (z4 _) AQ (IP _ ⟨rfl,rfl⟩) ?_;rintro obj QN ⟨rfl,rfl⟩;have hnew:(s.heap.push { cls:=.type "dict",data:=.dict #[] }).DictOf (Bj prog w) s.heap.objs.8 []:=yk s.5;have up:∀b o,s.heap.get? b=en o->(s.heap.push { cls:=.type "dict",data:=.dict #[] }).get? b=en o:=λb o e=>fj _ e;have lt:∀{c o},s.heap.get? c=en o->s.heap.objs.8≠c:=λe=>j8 (gi e);refine{hnew.typeIs,AJ _ _,?_};unfold ow.«dict.__init__»;refine wpAny_bind ?_;unfold ze;refine wpAny_bind (FH hnew.typeIs ?_);show wpAny _ _ (pure (s.heap.objs.8,[iw z])) _ _ _;refine fw ?_;show wpAny _ _ (oz "dict.__init__" s.heap.objs.8 (.ref z) [] .none) _ _ _;unfold oz;have hz':=up _ _ hz;refine wpAny_bind (pj (T:="zip") {_,hz',rfl} ?_);rw[if_pos (by decide)];refine wpAny_bind (Ad6 hz' (by exact hh) λh' tk kp=>?_);rw[if_pos (by rfl)];refine wpAny_bind (xw (wpAny_bind (xg (kp _ _ hz') ?_)));have up2:∀b o,s.heap.get? b=en o->h'.get? b=en o:=λb o e=>kp _ _ (up b o e);have hd':h'.DictOf (Bj prog w) s.heap.objs.8 []:=by
  obtain⟨o,es,ep,ho,r⟩:=hnew;exact{o,es,ep,kp _ _ ho,r}
 refine fw {n4 Bs _,?_};refine pA (a:=a) (b:=b) (vs:=[]) {D,lt hz,lt hTI,lt hTO,?_,?_,?_,?_} (by exact hh) he hk (up2 _ _ hz) (up2 _ _ hTO) (up2 _ _ hTI) (h1.at λo e=>up2 _ o e) (h2.at λo e=>up2 _ o e) (hl1.at λo e=>up2 _ o e) (hl2.at λo e=>up2 _ o e) hd' (by simpa using hsz) λh3 k vs' hd3 e3 kp3=>?_
 .obtain⟨_,e,_⟩:=h1;exact lt e
 .obtain⟨_,e,_⟩:=h2;exact lt e
 .obtain⟨_,e,_⟩:=hl1;exact lt e
 .obtain⟨_,e,_⟩:=hl2;exact lt e
 .exact{rfl,q h3 k vs' hd3 e3 λb o b1 b2 b3 b4 e=>kp3 b o b1 b2 b3 b4 (lt e).symm (up2 _ _ e)}
end
def Pn (kvs:List (Key×V)):List Int->List V->List (Key×V)
 |k::ks,y::ys=>Pn (Gg kvs (.inl k) y) ks ys
 |_,_=>kvs
theorem Acd:∀{ks:List Int} {ys:List V} {us:Za3} {kvs:List (Key×V)} {vs:List (Key×fu)},KV kvs vs->Az ys us->KV (Pn kvs ks ys) (gM vs ks us)
 |[],_,_,_,_,h,_=>h
 |_::_,_,_,_,_,h,.nil=>h
 |k::ks,y::ys,u::us,kvs,vs,h,.cons r t=>by
  show KV (Pn (Gg kvs (.inl k) y) ks ys) (gM (stored vs (.inl k) u) ks us);exact Acd (h.put (.inl k) r) t
section
variable {X:Cx}
def xR (K:e7)(ta:TA):TE:=λσ H Q=>ta σ H λvs H1=>∃a b ns ys,vs=[.ref a,.ref b]/\SqL K H1 a (zc V.int ns)/\SqL K H1 b ys/\ns.9=ys.9/\(Pn [] ns ys).9<=ns.9/\∀p,H1 p=p9->Q (.ref p) (upd H1 p (.dK (Pn [] ns ys)))
theorem zY {a b:ja}{ta:TA}{p q:Pos}(hcal:X.calm=NG)(hg:Gl X "dict")(hm:X.mg "dict"=p9)(hg2:Gl X "zip")(hm2:X.mg "zip"=p9)(ha:PA X [a,b] ta)
  (hs:autoParam (starEach [a,b] X.env=[(NH,eval a X.env),(NH,eval b X.env)]) QD)(hs2:autoParam (starEach [b] X.env=[(NH,eval b X.env)]) QD)
  (hs3:autoParam (starEach [xz (.Name "zip" q) [a,b] [] pos2] X.env=[(NH,eval (.Call (.Name "zip" q) [a,b] [] pos2) X.env)]) QD) :
  PE X (.Call (.Name "dict" p) [.Call (.Name "zip" q) [a,b] [] pos2] [] pos) (xR X.K ta):=by
 k_in;refine wpAny_Call_Name_kw (Dv I hg hm Ab5 (ir ?_ hs3 rfl) (by decide) (by decide));rw[hs3];refine lv ?_;show wpAny _ _ (eval (xz (.Name "zip" q) [a,b] [] pos2) X.env) _ _ _;refine wpAny_Call_Name_kw (Dv I hg2 hm2 zD (ir (thA ha I h λus s1 vs H1 I1 r1 q1=>?_) (by rw[hs,hs2]) (by rw[hs2];rfl)) (by decide) (by decide));obtain⟨a,b,ns,ys,e,hx,hy,hl,hml,q⟩:=q1;subst e;obtain⟨u,v,rfl,ru,rv⟩:=Kz r1;cases ru;cases rv;obtain⟨its,rv,p,hz⟩:=I1.list hx;obtain⟨its2,rv2,p2,hz2⟩:=I1.list hy;have l1:=rv.9;have l2:=rv2.9;rw[fb] at l1;refine HG p.isList p2.isList λh' g1 g2 g3 g4 g5 hsz kk=>?_;refine nj ?_;have A1:h'.IsList a its.6:=p.isList.at λo e=>kk _ o e;have A2:h'.IsList b its2.6:=p2.isList.at λo e=>kk _ o e;have D:=gK (No _) ({g1,g2,{_,_,g3},g4,g5}:StZ _ _ _ _ _ a b 0 h') A1 A2;refine Xe (s:={ s1 with heap:=h' }) (ks:=ns) D (I1.ok.hd hcal) (by simp;lia) (λi x e=>?_) g1 g3 g2 g4 g5 A1 A2 (by simp;rw[fb] at hz;lia) λh2 k vs' d2 ev kp=>?_
 .have e':its[i]?=en x:=by simpa using e
  have li:=(gg.mp e').1;have hn:(zc V.int ns)[i]?=en (.int (ns[i]'())):=by rw[fg,fc ()];rfl
  obtain⟨u,hu,t,rfl⟩:=rv.get hn;rw[e'] at hu;cases hu;exact{_,_,fc (),rfl}
 .have hk:KV (Pn [] ns ys) vs':=by rw[ev];exact Acd .nil rv2
  have hle:s1.heap.objs.8<=h'.objs.8:=()
  refine{.ref h'.objs.8,_,I1.laid (a:=h'.objs.8) (o:=.dK (Pn [] ns ys)) (t':=k) (λb o e=>?_) hle {?_,?_,vs',hk,d2},rfl,q _ (I1.hok.fresh hle)}
  .have lt:=gi e
   have ne:∀c,s1.heap.objs.8<=c->b≠c:=λc hc z=>m5 _ (gh lt (z▸hc));exact kp b o (ne _ (ml _ _)) (ne _ (ml _ _)) (ne _ (fm _)) (ne _ (ml _ _)) (kk _ _ e)
  .rw[fb] at hz;lia
  .exact beq_eq_false_iff_ne.mpr (n5 (io (gh (fK I1) hle)))
theorem Ael {σ:St}{Q:VK}{ta:TA}{K:e7}(h:ta σ H λvs H1=>∃a b ns ys,vs=[.ref a,.ref b]/\SqL K H1 a (zc V.int ns)/\SqL K H1 b ys/\ns.9=ys.9/\(Pn [] ns ys).9<=ns.9/\∀p,H1 p=p9->Q (.ref p) (upd H1 p (.dK (Pn [] ns ys)))):xR K ta σ H Q:=h
def nN:V->List V->Hp->VK->Prop:=λx vs H Q=>∃a b kvs kvs2,x=.ref a/\vs=[.ref b]/\a≠b/\H a=en (.dK kvs)/\H b=en (.dK kvs2)/\kvs.9+kvs2.9<=sizeLine/\Q .non (upd H a (.dK (Nf kvs kvs2)))
theorem oF:MtM X "dict.update" nN:=by
 intro pins s σ H x vs v us Q I rx rv h;obtain⟨a,b,kvs,kvs2,rfl,rfl,hne,hA,hB,hz,q⟩:=h;cases rx;obtain⟨u,rfl,ru⟩:=Fk rv;cases ru;obtain⟨z1,m1,v1,k1,d1⟩:=(show B3 X.prog X.w H s.5 a (.dK kvs) from I.hok a _ hA);obtain⟨z2,m2,v2,k2,d2⟩:=(show B3 X.prog X.w H s.5 b (.dK kvs2) from I.hok b _ hB);have e1:=P1 k1;have e2:=P1 k2;refine FC AI d1.typeIs PySem.F.entry_dict_update (PySem.F.args_dict_update_2 _ _) (meets_dict_update (Bj X.prog X.w) a b hne m2)
  {v1,v2,d1,d2,(),λh' dd _ hs=>?_}
 have lm:=Jn kvs2 kvs;refine{.non,_,I.write (x:=a) (e:=a) (o:=.dK (Nf kvs kvs2)) (t':=s.toks) (by rw[hA];trivial) (.inl rfl) (λb u hb e=>(hs.2 b hb).trans e) ?_ {(),m1,_,k2.merge k1,dd},rfl,q};obtain⟨o,es,ep,ho,r⟩:=dd;exact⟨o,ho⟩
theorem vM {a b:fe}{kvs kvs2:List (Key×V)}{Q:VK}(hn:a≠b)(h1:H a=en (.dK kvs))(h2:H b=en (.dK kvs2))(hz:kvs.9+kvs2.9<=sizeLine)(q:Q .non (upd H a (.dK (Nf kvs kvs2)))):nN (.ref a) [.ref b] H Q:=
 ⟨a,b,kvs,kvs2,rfl,rfl,hn,h1,h2,hz,q⟩
def Ajj:R2:=λx y H Q=>∃d kvs k,x=.int k/\y=.ref d/\H d=en (.dK kvs)/\Q (.bl (Cd kvs (.inl k)).isSome) H
def sM:R2:=λx y H Q=>∃d kvs k,x=.int k/\y=.ref d/\H d=en (.dK kvs)/\Q (.bl (!(Cd kvs (.inl k)).isSome)) H
theorem Ahe:OpR X (compareOp .In) Ajj:=by
 intro pins s σ H x y v u Q I rx ry h;obtain⟨d,kvs,k,rfl,rfl,hd,q⟩:=h;cases ry;obtain⟨z,hs,vs,rel,dd⟩:=Yx I.hok hd;refine wpAny_in_of (Zn (k:=.inl k) rx) hs dd.mapOf ?_;refine{.bl _,H,I.tok _,?_,q};rw[(rel.val (.inl k)).isSome_eq];rfl
theorem wF:OpR X (compareOp .NotIn) sM:=by
 intro pins s σ H x y v u Q I rx ry h;obtain⟨d,kvs,k,rfl,rfl,hd,q⟩:=h;cases ry;obtain⟨z,hs,vs,rel,dd⟩:=Yx I.hok hd;refine wpAny_notIn_of (Zn (k:=.inl k) rx) hs dd.mapOf ?_;refine{.bl _,H,I.tok _,?_,q};rw[(rel.val (.inl k)).isSome_eq];rfl
theorem Akh {Q:VK}{d:fe}{kvs:List (Key×V)}{k:Int}(hd:H d=en (.dK kvs))(q:Q (.bl (Cd kvs (.inl k)).isSome) H):Ajj (.int k) (.ref d) H Q:=⟨d,kvs,k,rfl,rfl,hd,q⟩
theorem Aaf {Q:VK}{d:fe}{kvs:List (Key×V)}{k:Int}(hd:H d=en (.dK kvs))(q:Q (.bl (!(Cd kvs (.inl k)).isSome)) H):sM (.int k) (.ref d) H Q:=⟨d,kvs,k,rfl,rfl,hd,q⟩
def Aiy:R2:=λx y H Q=>∃d kvs k v,x=.ref d/\y=.int k/\H d=en (.dK kvs)/\Cd kvs (.inl k)=en v/\Q v H
theorem Aed:IxR X Aiy:=by
 intro value slice pins s σ H x y v u Q I rx ry h hs;obtain⟨d,kvs,k,z,rfl,rfl,hd,hv,q⟩:=h;cases rx;obtain⟨_,_,vs,rel,dd⟩:=Yx I.hok hd;obtain⟨w',hw,rw'⟩:=J6.some_of (v:=z) (o:=valueAt vs (.inl k)) (by rw[<-hv];exact rel.val (.inl k));exact yz dd.typeIs z8.lookup (IM (Zn (k:=.inl k) ry) dd.mapOf hw {z,H,I.tok _,rw',q}) hs
theorem Ai9 {Q:VK}{d:fe}{kvs:List (Key×V)}{k:Int}{v:V}(hd:H d=en (.dK kvs))(hv:Cd kvs (.inl k)=en v)(q:Q v H):Aiy (.ref d) (.int k) H Q:=⟨d,kvs,k,v,rfl,rfl,hd,hv,q⟩
end
theorem rA (st:Nat)(n:Nat)(hs:0<st):sliceRange (sliceBounds p9 p9 (en (st:Int)) n).1 (sliceBounds p9 p9 (en (st:Int)) n).2.1 (sliceBounds p9 p9 (en (st:Int)) n).2.2=(ft ((n+st-1)/st)).map (·*st):=by
 have h0:(st:Int)>0:=()
 have e:sliceBounds p9 p9 (en (st:Int)) n=(0,(n:Int),(st:Int)):=by simp[sliceBounds,h0];lia
 rw[e];unfold sliceRange;dsimp only;rw[if_pos h0];have e2:(if(0:Int)<(n:Int) then((n:Int)-0+st-1)/(st:Int) else 0).toNat=(n+st-1)/st:=by
  split
  .rw[show(n:Int)-0+st-1=((n+st-1:Nat):Int) by lia,<-su,gr]
  .rw[show n=0 by lia,mz,vv ()]
   rfl
 rw[e2];refine jg λk _=>?_;rw[uo,<-AK,gr,wq]
def oJ (st:Nat)(xs:List V):List V:=((ft ((xs.9+st-1)/st)).map (·*st)).filterMap λi=>xs[i]?
def yI (K:e7)(te ts:TE):TE:=λσ H Q=>te σ H λx H1=>ts σ H1 λy H2=>∃a xs,∃st:Nat,x=.ref a/\y=.int st/\0<st/\SqL K H2 a xs/\∀p,H2 p=p9->Q (.ref p) (upd H2 p (.lst (oJ st xs)))
section
variable {X:Cx} {e st:ja} {te ts:TE} {pos p2:Pos}
theorem yZ (he:PE X e te)(hst:PE X st ts):PE X (.Subscript e (.Slice p9 p9 (en st) p2) pos) (yI X.K te ts):=by
 k_in;refine Subscript_ (thE he I h λv s1 x H1 I1 r1 q1=>?_);refine BI ?_;rw[wj];refine fw ?_;refine fw ?_;rw[evalPart_some];refine thE hst I1 q1 λu s3 y H3 I3 r3 ⟨a,xs,k,ex,ey,hk,hs,q⟩=>?_;subst ex ey;obtain rfl:v=iw a:=r1;obtain⟨t,rfl⟩:=r3;have I4:Inv X pins σ H3 { s3 with heap:=s3.heap.push { cls:=.type "slice",data:=.fields #[.none,.none,.int k t] } }:=I3.kept (t':=s3.toks) λb ob q=>fj _ q;obtain⟨its,r,pl,hz⟩:=I4.list hs;have e1:=r.9;show wpAny (model X.prog X.w) X.A (subscriptTail e (.Slice p9 p9 (en st) p2) (.ref a) (.ref s3.heap.objs.8)) (EP X pins σ Q) X.xe { s3 with heap:=s3.heap.push { cls:=.type "slice",data:=.fields #[.none,.none,.int k t] } };refine yz (ops:=[.ref a,.ref s3.heap.objs.8]) pl.isList.typeIs GT ?_ (by with_unfolding_all rfl);refine wf pl.isList (vn ..) .none .none (.int k t) (by intro z;have:=fk z;lia) ?_ (by rw[gj];lia);have hp:slicePick its.6 p9 p9 (en (k:Int))=((((ft ((its.9+k-1)/k)).map (·*k))).filterMap λi=>its[i]?).6:=by
  rw[<-rA k its.9 hk];unfold slicePick;simp
 have hlen:(oJ k xs).9<=xs.9:=by
  have:=slicePick_size_le its.6 p9 p9 (en (k:Int));rw[hp,gj,<-(P8 r _).9,gj,<-e1] at this;exact this
 rw[hp,<-e1];exact{.ref _,_,I4.lnew (t':=s3.toks) (P8 r _) (iy hlen hz),rfl,q _ (I4.hok.fresh (fm _))}
theorem Ada {K:e7}{σ:St}{Q:VK}(h:te σ H λx H1=>ts σ H1 λy H2=>∃a xs,∃st:Nat,x=.ref a/\y=.int st/\0<st/\SqL K H2 a xs/\∀p,H2 p=p9->Q (.ref p) (upd H2 p (.lst (oJ st xs)))):yI K te ts σ H Q:=h
end
structure xK (P:gm) (w:iz) (K:e7) (mg:Za2) (base:i8) (name:Str) (C:fe) (k:Nat) (ps:Za6) (sp:Sp) (dvs:List V):Prop where
 ex:∃(f:fe) (fd:jv) (ds:Za3),Aq P w K mg base (CXE P w) k f fd ps sp/\Dy K fd ps ds/\Az dvs ds/\Mk K C f/\mg name=en (.ref C)
section
variable {X:Cx} {k:Nat} {C:fe} {ps:Za6} {sp:Sp} {dvs:List V} {name m:Str} {p pos apos:Pos} {e o:ja} {es:List ja} {ta:TE} {t:TA} {E:XK}
theorem Ad8 (M:xK X.prog X.w X.K X.mg X.base name C k ps sp dvs)(hr:B9 (k+1) X.A)(hx:Go (CXE X.prog X.w) X E)(ha:PA X (e::es) t)(hg:autoParam (Gl X name) QD)(hdb:autoParam ((name==("__debug__":Str))=NH) QF)
  (he:autoParam (starEach (e::es) X.env=(NH,eval e X.env)::starEach es X.env) QD)(hpl:autoParam ((backTo pos (starEach es X.env)).any (·.1)=NH) QD):PE X (.Call (.Name name p) (e::es) [] pos) (Yu C sp dvs E t):=by
 obtain⟨f,fd,ds,F,b,rd,M,hm⟩:=M.ex;exact fW M F hr hg hm b rd hx ha hdb he hpl
end
theorem nZ.bindsD {K:e7}{x:Str}{st:i7}{T:fe}{kV v:fu}{o:Obj}{n m:Nat}(hT:K.lookup T=en o)(hd:o.data=.seq #[v] n)(hm:ps.9=m+1)
  (h:∀(us:Za3),us.9=m->∃k,bindArgs (jq x qual (Bz st) (Bg st) (Ac st) (.ref T) kV doc pm an cdv ct) {us,[]}=seqItems? (.ref T) >>= k/\k (en #[v])=pure (ps.zip (us++[v]))):Dy K (jq x qual (Bz st) (Bg st) (Ac st) (.ref T) kV doc pm an cdv ct) ps [v]:=by
 intro s us KX hl;obtain⟨k,h1,h2⟩:=h us (by rw[fq,hm] at hl;exact ya hl);exact CY rfl (KX _ _ hT) hd h1 h2
end _L
end
section
namespace _W
end _W
end
section
namespace _L
open PySem PySem.Spec PyProof.Rows
open _W
def Yk (N H:Hp):Hp:=λb=>match N b with|some o=>en o|none=>H b
theorem Lp {N:Hp}{b:fe}{o:HO}(h:N b=en o):Yk N H b=en o:=by unfold Yk;rw[h]
theorem Gy {N:Hp}{b:fe}(h:N b=p9):Yk N H b=H b:=by unfold Yk;rw[h]
def gT (oc:Obj)(qual:Str):Prop:=∃vs t,oc.data=.fields vs/\vs[1]?=en (.str qual t)
def O4 (H:Hp)(P:fe)(pos:Pos)(qual:Str):Prop:=∃ps:Array fu,H P=en (.tbl ps)/\TriplesOk ps.7/\(codeAmong pos ps.7=p9\/∃c' oc,codeAmong pos ps.7=en (.ref c')/\H c'=en (.frz oc (.own 0))/\gT oc qual)
section
variable {X:Cx} {pins:Za1} {σ:St} {H:Hp} {s:gb}
theorem Inv.grown {P:fe}{ps more:Array fu}{N:Hp}(I:Inv X pins σ H s)(hP:H P=en (.tbl ps))(k:∀b u,b≠P->s.heap.get? b=en u->h'.get? b=en u)(hT:h'.get? P=en (wn (ps++more)))
  (hp:∀b o,N b=en o->s.heap.objs.8<=b)(new:∀b o,N b=en o->B3 X.prog X.w (Yk N (upd H P (.tbl (ps++more)))) h' b o):Inv X pins σ (Yk N (upd H P (.tbl (ps++more)))) { s with heap:=h',toks:=t' }:=by
 have hlt:P<s.heap.objs.8:=(I.hok P _ hP).lt;have hNP:N P=p9:=by
  cases e:N P with
  |none=>rfl
  |some o=>exact absurd hlt (rz.mpr (hp P o e))
 have hn:∀b o,N b=en o->H b=p9:=λb o e=>I.hok.fresh (hp b o e);have old:∀b u,s.heap.get? b=en u->N b=p9:=λb u e=>by
  cases hN:N b with
  |none=>rfl
  |some o=>exact absurd (gi e) (rz.mpr (hp b o hN))
 have sm:∀b o,b≠P->H b=en o->Yk N (upd H P (.tbl (ps++more))) b=en o:=λb o hb e=>by
  have:N b=p9:=by
   cases hN:N b with
   |none=>rfl
   |some u=>rw[hn b u hN] at e;cases e
  rw[Gy this,Aj hb];exact e
 have neP:∀b,H b=p9->b≠P:=λb e z=>by rw[z,hP] at e;cases e
 refine I.un {λb u q n _ _=>k b u (neP b n) q,λb u q n _ _=>{u.slots,k b u (neP b n) q},λb u q n _=>by rw[Gy (old b u q),Aj (neP b n)];exact n,λb u q _=>?_,λb xs q=>sm _ _ (λz=>by rw[z,hP] at q;cases q) q,λb u xs q=>sm _ _ (λz=>by rw[z,hP] at q;cases q) q,λb qs q=>?_} λb o e=>?_
 .by_cases hb:b=P
  .rw[hb];exact{_,hT}
  .exact{u,k b u hb q}
 .by_cases hb:b=P
  .rw[hb,hP] at q
   cases q;exact{more,by rw[hb,Gy hNP,Ae]}
  .exact{#[],by rw[sm b _ hb q];simp}
 .cases hN:N b with
  |some u=>
   rw[Lp hN] at e;cases e;exact new b _ hN
  |none=>
   rw[Gy hN] at e
   by_cases hb:b=P
   .rw[hb,Ae] at e
    cases e;rw[hb];exact hT
   .rw[Aj hb] at e
    refine(I.hok b o e).stay (λc v hc q=>k c v (λz=>?_) q) (λc q=>sm _ _ (λz=>by rw[z,hP] at q;cases q) q) λc xs q=>sm _ _ (λz=>by rw[z,hP] at q;cases q) q;rcases hc with h|h
    .exact hb (h▸z)
    .rw[z,hP] at h;cases h
end
def Oe (P:fe)(H H':Hp):Prop:=∀b u,b≠P->H b=en u->H' b=en u
section
variable {X:Cx} {pins:Za1} {σ:St} {H:Hp} {s:gb} {M:yb} {A:jd} {E:Za0} {Q:Za0} {c P:fe} {pos:Pos} {qual:Str} {params:nu} {body:ja} {scope:nr} {clos:List (Str×fe)}
theorem kI (I:Inv X pins σ H s)(T:O4 H P pos qual)(C:DM X.base c P)(hb:X.base.BuiltinsAt X.mg P)(hcode:X.env.code=.ref c)(hcl:closureFor scope X.env=pure clos)(hdef:defaultsOf params X.env=([],[]))(hq:X.env.qual++"<lambda>"=qual)
  (h:∀(f c':fe) (oc:Obj) (pm ctv:fu) (s':gb) (H':Hp),Inv X pins σ H' s'->O4 H' P pos qual->Oe P H H'->H f=p9->H' f=en (.frz (AF "<lambda>" qual params body scope clos pm c' ctv) (.own 0))->H' c'=en (.frz oc (.own 0))->gT oc qual->Q (.ref f) s') :
  wpAny M A (eval (.Lambda params body scope pos) X.env) Q E s:=by
 obtain⟨ps,hP,ht,hc⟩:=T;refine PySem.W.kla_eval hdef ?_;rw[hq];have hPs:s.heap.get? P=en (wn ps):=I.hok P _ hP;have hg:s.heap.Ns mainGlobals X.mg:=I.mod.glob.keeps I.bk;have hgP:mainGlobals≠P:=λe=>by
  obtain⟨o,es,ep,e1,d,_⟩:=I.mod.glob;have:=(I.bs _ _ e1).2;rw[e,hP] at this;cases this
 have hb':s.heap.BuiltinsAt X.mg P:=by
  obtain⟨bm,o,a1,a2,a3,a4,a5,a6⟩:=hb;exact{bm,o,a1,a2,a3,a4,I.bk _ _ a5,a6}
 rcases hc with hc|⟨c',oc,hc,hc',ho⟩
 .refine PySem.W.kla_makeFunction hcl I.ok.glob hg hcode (C.keeps I.bk) hPs ht hc hgP hb' λc' ctv h' tk hx hge hlt hrec htb=>?_
  obtain⟨c₂,oc,vs,t,e2,hoc,hd,hv⟩:=hrec;cases e2
  let fo:=AF "<lambda>" qual params body scope clos ((X.mg "__name__").getD .none) c' ctv
  let N:Hp:=λb=>if b=h'.objs.8 then en (.frz fo (.own 0)) else if b=c' then en (.frz oc (.own 0)) else p9
  have n1:N h'.objs.8=en (.frz fo (.own 0)):=if_pos rfl;have n2:N c'=en (.frz oc (.own 0)):=(if_neg (io hlt)).trans (if_pos rfl);have n3:∀b o,N b=en o->(b=h'.objs.8/\o=.frz fo (.own 0))\/(b=c'/\o=.frz oc (.own 0)):=λb o e=>by
   by_cases h1:b=h'.objs.8
   .rw[h1,n1] at e;cases e;exact .inl ⟨h1,rfl⟩
   .by_cases h2:b=c'
    .rw[h2,n2] at e;cases e;exact .inr ⟨h2,rfl⟩
    .have:N b=p9:=(if_neg h1).trans (if_neg h2)
     rw[this] at e;cases e
  have hp:∀b o,N b=en o->s.heap.objs.8<=b:=λb o e=>by
   rcases n3 b o e with⟨r,_⟩|⟨r,_⟩<;>rw[r]
   .exact iy hge (gy hlt)
   .exact hge
  have hNP:N P=p9:=by
   cases e:N P with
   |none=>rfl
   |some o=>exact absurd (I.hok P _ hP).lt (rz.mpr (hp P o e))
  have gf:(h'.push fo).get? h'.objs.8=en fo:=gu _ rfl;have gc:(h'.push fo).get? c'=en oc:=fj _ hoc;have I':=Inv.grown (N:=N) (more:=#[HJ pos.line,HJ pos.col,.ref c']) (h':=h'.push fo) (t':=tk) I hP (λb u hb e=>fj _ (hx b u hb e)) (fj _ htb) hp λb o e=>by
   rcases n3 b o e with⟨r,r'⟩|⟨r,r'⟩<;>rw[r,r']
   .exact{gf,_,gf}
   .exact{gc,_,gc}
  refine h _ c' oc _ ctv _ _ I' {_,by rw[Gy hNP,Ae],?_,.inr {c',oc,?_,Lp n2,vs,t,hd,hv}} (λb u hb e=>?_) (I.hok.fresh (hp _ _ n1)) (Lp n1) (Lp n2) ⟨vs,t,hd,hv⟩
  .rw[ub];exact TriplesOk_snoc _ _ _ _ ht
  .rw[ub];exact codeAmong_snoc _ ht hc
  .have:N b=p9:=by
    cases hN:N b with
    |none=>rfl
    |some o=>rw[I.hok.fresh (hp b o hN)] at e;cases e
   rw[Gy this,Aj hb];exact e
 .refine PySem.W.kla_makeFunctionHit hcl I.ok.glob hg hcode (C.keeps I.bk) hPs ht hc hb' λctv h' tk hk hsz=>?_
  let fo:=AF "<lambda>" qual params body scope clos ((X.mg "__name__").getD .none) c' ctv
  let N:Hp:=λb=>if b=h'.objs.8 then en (.frz fo (.own 0)) else p9
  have n1:N h'.objs.8=en (.frz fo (.own 0)):=if_pos rfl;have n3:∀b o,N b=en o->b=h'.objs.8/\o=.frz fo (.own 0):=λb o e=>by
   by_cases h1:b=h'.objs.8
   .rw[h1,n1] at e;cases e;exact⟨h1,rfl⟩
   .have:N b=p9:=if_neg h1
    rw[this] at e;cases e
  have hp:∀b o,N b=en o->s.heap.objs.8<=b:=λb o e=>by rw[(n3 b o e).1];exact hsz
  have hn:∀b u,H b=en u->N b=p9:=λb u e=>by
   cases hN:N b with
   |none=>rfl
   |some o=>rw[I.hok.fresh (hp b o hN)] at e;cases e
  have gf:(h'.push fo).get? h'.objs.8=en fo:=gu _ rfl;have I':=Inv.grown (N:=N) (more:=#[]) (h':=h'.push fo) (t':=tk) I hP (λb u _ e=>fj _ (hk b u e)) (by rw[ur];exact fj _ (hk _ _ hPs)) hp λb o e=>by
   rw[(n3 b o e).1,(n3 b o e).2];exact{gf,_,gf}
  rw[ur] at I';have old:∀b u,b≠P->H b=en u->Yk N (upd H P (.tbl ps)) b=en u:=λb u hb e=>by rw[Gy (hn b u e),Aj hb];exact e
  have hcP:c'≠P:=Iw hc' hP (by intro q;cases q);exact h _ c' oc _ ctv _ _ I' {ps,by rw[Gy (hn P _ hP),Ae],ht,.inr {c',oc,hc,old _ _ hcP hc',ho}} old (I.hok.fresh (hp _ _ n1)) (Lp n1) (old _ _ hcP hc') ho
end
section
variable {prog:gm} {w:iz} {A:jd} {R:wm->gb->Prop} {s:gb}
theorem Abw {f c' c a:fe}{k d:Str}{cl:List (Str×fe)}{ctv u v:fu}{pk pd pp:Pos}{its:Array fu}{i:Int}{ti:Tok}
  (ho:s.heap.get? f=en (AF "<lambda>" qual params (.Subscript (.Name d pd) (.Name k pk) pp) scope cl pm c' ctv))(hcd:s.heap.CodeRec (.ref c') qual)(hroom:A.depth<recursionLimit)(hlim:s.heap.NoLimit)
  (hbind:bindArgs (FB "<lambda>" qual params (.Subscript (.Name d pd) (.Name k pk) pp) scope cl pm (.ref c') ctv) {[.int i ti],[]}=pure [(k,.int i ti)])
  (hk:scope.kind=.function)(hco:scope.isCoroutine=NH)(hgen:scope.isGenerator=NH)(lk:scope.names.lookup k=en .local)(ld:scope.names.lookup d=en .free)(hcell:∀x∈scope.names,x.2≠.cell)(hcl:cl.lookup d=en c)
  (hd:(d==("__classdict__":Str))=NH)(nk:(k==("__debug__":Str))=NH)(nd:(d==("__debug__":Str))=NH)
  (hcv:s.heap.IsCell c (en (.ref a)))(hl:s.heap.IsList a its)(h0:0<=i)(hfit:i<2 ^ 63)(hv:its[i.toNat]?=en v)
  (h:∀(h':i8) (tk:Tok),(∀b o,s.heap.get? b=en o->h'.get? b=en o)->R (.ok (.ret v)) { s with heap:=h',toks:=tk }) :
  codeAny (model prog w) A (.call (.ref f) {[.int i ti],[]}) R s:=by
 refine CG hroom ho rfl hco hgen rfl hcd ?_;rw[hbind];refine fw (yv hcell (λy hy=>by cases j0.mp hy;exact lk) (λQU hns hsb=>{hlim.fresh _ hsb,?_}) hk);have XB:∀b o,s.heap.get? b=en o->QU.get? b=en o:=λb o e=>hsb.extBut b o (io (gi e)) (fj _ e);refine CA (Subscript_ (zw (GR hk ld hcl (hcv.keeps XB) (zw (yx hk lk hns (v:=.int i ti) (by simp) (item_listR (let ⟨o,e,r⟩:=hl;{o,XB _ _ e,r}) h0 hfit hv (h QU _ XB))) nk) hd) nd))
end
open PySem.W
section
variable {prog:gm} {w:iz} {A:jd} {E:Za0} {s:gb}
def Mb (a:fe)(h h':i8):Prop:=∀b o,b≠a->h.get? b=en o->h'.get? b=en o
end
theorem T3:∀{us:Za3} {ns:List Int},us.9=ns.9->(∀(i:Nat) u n,us[i]?=en u->ns[i]?=en n->∃t,u=.int n t)->sr us ns
 |[],[],_,_=>.nil
 |u::us,n::ns,hl,h=>by
  obtain⟨t,rfl⟩:=h 0 u n rfl rfl;exact .cons n t (T3 (ya hl) λi v m e1 e2=>h (i+1) v m e1 e2)
theorem So:∀l:Za3,(∀v∈l,∃n t,v=nz n t)->sr l (l.map numOf)
 |[],_=>.nil
 |v::l,h=>by
  obtain⟨n,t,rfl⟩:=h _ (gt ..);exact .cons n t (So l λu hu=>h u (gw _ hu))
section
variable {prog:gm} {w:iz} {A:jd} {E:Za0} {s:gb}
theorem vX {r:fe}{n:Nat}{t u v:Tok}(hh:A.handled=p9)(hr:IsRange s.5 r 0 n 1 t u v)(hn:n<=100000)(E':Za0)(Q':Za3->gb->Prop)
  (h:∀vs h' tk,sr vs ((ft n).map λi:Nat=>(i:Int))->(∀b o,s.heap.get? b=en o->h'.get? b=en o)->s.heap.objs.8<=h'.objs.8->Q' vs { s with heap:=h',toks:=tk }):wpAny (model prog w) A (collect (.ref r)) Q' E' s:=by
 have e2:lq 0 (n:Int) 1=n:=by rw[LW];split<;>lia
 have key:∀R:wm->gb->Prop,(∀(h':i8) (tk:Nat) (acc':Array fu) (c':Nat),(∀b o,s.heap.get? b=en o->h'.get? b=en o)->h'.get? s.heap.objs.8=en { cls:=.type "list",dict:=p9,data:=.seq acc' c',slots:=#[] } ->
   ItemsOf (λi v=>∃t,v=.int (0+(i:Int)*1) t) acc' n->R (.ok (.ret (.ref s.heap.objs.8))) { s with heap:=h',toks:=tk })->codeAny (model prog w) A (.builtin "proto.collect" ⟨[.ref r],[]⟩) R s:=λR hR=>by
  refine ly F.entry_proto_collect ?_;rw[ke F.plain_proto_collect _];show wpAny _ A.in1 (newList [] >>= λl=>again (.builtin "list.__iadd__" {[l,.ref r],[]})) _ _ s;refine wpAny_bind (o6 ?_);refine fw {n4 F.plain_list_iadd _,ly F.entry_list_iadd ?_};rw[ke F.plain_list_iadd _];have XV:(s.heap.push { cls:=.type "list",data:=.seq ([]:Za3).6 }).get? s.heap.objs.8=en { cls:=.type "list",data:=.seq ([]:Za3).6 }:=gu _ rfl;show wpAny _ A.in1 (n6 (.ref s.heap.objs.8) (.ref r) (.ref s.heap.objs.8)) _ _ _;exact wpAny_extend_range (R:=R) (s:={ s with heap:=s.heap.push { cls:=.type "list",data:=.seq ([]:Za3).6 } }) hh (fj _ hr) (small_one () () () ()) e2 () _ _ _ XV λh' tk acc' c' hk hS' hacc=>
   hR h' tk acc' c' (λb o q=>hk b o (io (gi q)) (fj _ q)) hS' hacc
 unfold collect;refine wpAny_bind (wpAny_runValue (key _ λh' tk acc' c' hk hS' hacc=>?_));show wpAny _ A (load s.heap.objs.8 >>= _) _ _ _;refine wpAny_bind (wpAny_load hS' ?_);refine fw (h _ h' tk ?_ hk (gy (gi hS')));refine T3 (by rw[fb,fv,ie,hacc.1]) λi x y e1 e3=>?_;have hi:i<n:=by have:=(gg.mp e3).1;simpa using this
 rw[fg,gn hi] at e3;cases e3;have e4:acc'[i]?=en x:=by rw[<-j6];exact e1
 obtain⟨t,e5⟩:=hacc.2 i x e4;exact{t,by rw[e5];simp}
end
abbrev fC (k:Str)(pa:Pos):nu:={ posonlyargs:=[],args:=[{ arg:=k,annotation:=p9,pos:=pa }],vararg:=p9,kwonlyargs:=[],kw_defaults:=[],kwarg:=p9,defaults:=[] }
abbrev Ou (k d:Str):nr:={.function,[(k,.local),(d,.free)],NH,NH,[]}
abbrev iQ (k d:Str)(pd pk pp:Pos):ja:=.Subscript (.Name d pd) (.Name k pk) pp
section
variable {X:Cx}
def Aje (ta:TA):TE:=λσ H Q=>ta σ H λvs H1=>∃j:Nat,vs=[.int j]/\j<=100000/\∀p,H1 p=p9->Q (.ref p) (upd H1 p (.rng 0 j))
theorem Aee {a:ja}{ta:TA}{q:Pos}(hg2:Gl X "range")(hm2:X.mg "range"=p9)(ha:PA X [a] ta)(hs:autoParam (starEach [a] X.env=[(NH,eval a X.env)]) QD) :
  PE X (.Call (.Name "range" q) [a] [] pos2) (Aje ta):=by
 k_in;refine wpAny_Call_Name_kw (Dv I hg2 hm2 boot_range (ir (thA ha I h λus s1 vs H1 I1 r1 q1=>?_) hs rfl) (by decide) (by decide));obtain⟨j,e,hj,q⟩:=q1;subst e;obtain⟨u,rfl,t,rfl⟩:=Fk r1;refine MW ?_;exact{.ref _,_,I1.laid (o:=.rng 0 j) (λb o e=>fj _ e) (fm _) {_,_,_,gu _ rfl},rfl,q _ (I1.hok.fresh (fm _))}
def Dk (n:Nat):List Int:=(ft n).map λj:Nat=>(j:Int)
end
def Kg (o:Obj)(c P:fe):Prop:=∃vs file tf flags tg inF text tt,o.cls=.type "code"/\o.data=.fields vs/\vs[11]?=en (.ref P)/\vs.getD 11 .none=.ref P/\vs.getD 18 .none=.str file tf /\
  vs.getD 7 .none=.int flags tg/\vs.getD 9 .none=.bool inF/\vs.getD 10 .none=.int text tt/\c≠P
theorem Kg.at {h:i8}{o:Obj}{c P:fe}(x:Kg o c P)(e:h.get? c=en o):DM h c P:=by
 obtain⟨vs,file,tf,flags,tg,inF,text,tt,a1,a2,a3,a4,a5,a6,a7,a8,a9⟩:=x;exact⟨o,vs,file,tf,flags,tg,inF,text,tt,e,a1,a2,a3,a4,a5,a6,a7,a8,a9⟩
theorem qQ {P:gm}{K:e7}{mg mb:Za2}{k:Nat}{fa a:fe}{x:Str}{QN:gb}{ns:List Int}{tabs:List (fe×fe)}
  (hT:z0 tabs QN.5)(hTK:∀q∈tabs,K.lookup q.2=p9)(hB:∃bm ob,mg "__builtins__"=en (.ref bm)/\bm≠builtinsNs/\QN.heap.get? bm=en ob/\ob.cls=.type "module"/\ob.dict=en builtinsNs/\ob.data=.plain)(KX:K.In QN.5)(hns:QN.heap.Ns mainGlobals mg)(hb:QN.heap.Ns builtinsNs mb)(hbb:∀x:Str,x≠"__name__"->mb x=bootBuiltins x)(hlim:QN.heap.NoLimit)(hg:QN.gens=#[])
  (ha:QN.heap.get? a=en { cls:=.type "list",data:=.seq vs.6 })(hi:sr vs ns)(hl:ns.9<=sizeLine)(hr:B9 k callerA)
  (F:∀base:i8,K.In base->base.Ns mainGlobals mg->(∀q∈tabs,base.BuiltinsAt mg q.2)->Aq P w K mg base CX k fa fd [x] sp)(hbind:∀(s:gb) (u:fu),CZ s fd {[u],[]} [(x,u)])
  (hsp:∀H:Hp,(∀q∈tabs,H q.2=en (.tbl #[]))->SqL K H a (ns.map V.int)->sp [.ref a] H (λv _=>v=.bl NG) λ_ _ _=>False)
  (hCX:∀H e s',CX [] H QN (λ_ _ _=>False) e s'->False) :
  codeAny (model P w) callerA (.call (.ref fa) {[.ref a],[]}) (λr s'=>r=.ok (.ret (.bool NG))/\OldK QN.5 s'.5/\s'.os=QN.os/\vc s'.gens) QN:=by
 have rv:=Pm hi;have tabAt:∀b,b∈tabs.map (·.2)->QN.heap.get? b=en (wn #[])/\K.lookup b=p9/\isCodeTable QN.5 b:=λb hm=>by
  obtain⟨q,hq,rfl⟩:=je.mp hm;exact{(hT q hq).2,hTK q hq,((hT q hq).1.tab (hT q hq).2).isCodeTable}
 have haT:a∉tabs.map (·.2):=λhm=>by
  have:=(tabAt a hm).1;rw[ha] at this;cases this
 let H:Hp:=λb=>if b∈tabs.map (·.2) then en (.tbl #[]) else if b=a/\K.lookup a=p9 then en (.frz { cls:=.type "list",data:=.seq vs.6 } (.lst (ns.map V.int))) else p9
 have H1:∀b,b∈tabs.map (·.2)->H b=en (.tbl #[]):=λb hm=>if_pos hm;have H2:∀b,b∉tabs.map (·.2)->¬(b=a/\K.lookup a=p9)->H b=p9:=λb h1 h2=>(if_neg h1).trans (if_neg h2);have H3:K.lookup a=p9->H a=en (.frz { cls:=.type "list",data:=.seq vs.6 } (.lst (ns.map V.int))):=λh=>(if_neg haT).trans (if_pos ⟨rfl,h⟩);have cases3:∀b,(b∈tabs.map (·.2))\/(b=a/\K.lookup a=p9/\b∉tabs.map (·.2))\/(H b=p9):=λb=>by
  by_cases h1:b∈tabs.map (·.2)
  .exact .inl h1
  .by_cases h2:b=a/\K.lookup a=p9
   .exact .inr (.inl ⟨h2.1,h2.2,h1⟩)
   .exact .inr (.inr (H2 b h1 h2))
 have hok:HOk P w H QN.5:=λb o e=>by
  rcases cases3 b with h|⟨rfl,h1,_⟩|h
  .rw[H1 b h] at e
   cases e;exact(tabAt b h).1
  .rw[H3 h1] at e
   cases e;exact{ha,by rw[fb];exact hl,vs,_,rv,ha}
  .rw[h] at e
   cases e
 have noD:∀{b:fe} {o:Obj} {es:Array DictEntry} {ep:Nat},QN.heap.get? b=en o->o.data=.dict es ep->H b=p9:=λ{b o es ep} e d=>by
  rcases cases3 b with h|⟨rfl,_,_⟩|h
  .rw[(tabAt b h).1] at e
   cases e;have d':DZ #[]=FT es ep:=d;cases d'
  .rw[ha] at e
   cases e;have d':Data.seq vs.6 _=FT es ep:=d;cases d'
  .exact h
 have nsK:∀{b:fe} {m:Za2},QN.heap.Ns b m->(iK QN.5 H).Ns b m:=λ{b m} ⟨o,es,ep,e,d,r⟩=>{o,es,ep,Uf e (noD e d),d,r};have hKb:K.In (iK QN.5 H):=λb o e=>Uf (KX b o e) (by
  rcases cases3 b with h|⟨rfl,h1,_⟩|h
  .rw[(tabAt b h).2.1] at e;cases e
  .rw[h1] at e;cases e
  .exact h)
 have hBa:∀q∈tabs,(iK QN.5 H).BuiltinsAt mg q.2:=λq hq=>by
  obtain⟨bm,ob,b1,b2,b3,b4,b5,b6⟩:=hB;have n1:bm≠mainGlobals:=λz=>by
   obtain⟨o,es,ep,e,d,_⟩:=hns;rw[z,e] at b3;cases b3;rw[d] at b6;cases b6
  have nP:bm∉tabs.map (·.2):=λhm=>by
   have:=(tabAt bm hm).1;rw[b3] at this;cases this;cases b6
  have hn:H bm=p9:=by
   rcases cases3 bm with h|⟨h,_,_⟩|h
   .exact absurd h nP
   .rw[h,ha] at b3
    cases b3;cases b6
   .exact h
  exact{bm,ob,b1,b2,n1,λz=>nP (z▸ud hq),Uf b3 hn,b4,b5,b6}
 have hM:Mod K mg (iK QN.5 H):={hKb,nsK hns,{mb,nsK hb,hbb},let ⟨mc,h1,h2⟩:=hlim;{mc,nsK h1,h2}};have e0:Yh P w K mg (iK QN.5 H) callerA [] QN H:={rfl,hM,λb o e=>Ac3 e,q0 (wK _ _),trivial,λb hb=>absurd (show b∈([]:List fe) from hb) (by simp),hok,.of_eq hg};have hS:SqL K H a (ns.map V.int):=by
  cases hk:K.lookup a with
  |none=>exact .inl (.inr {_,H3 hk})
  |some o=>
   have e:=KX a o hk;rw[ha] at e;cases e;exact .inr {_,vs.6,_,hk,rfl,rfl,rfl,by rw[gj,hi.9];exact hl,by simpa using rv}
 refine ot ((F _ hKb (nsK hns) hBa).run callerA [] QN H {[.ref a],[]} [.ref a] [.ref a] _ _ hr e0 (hbind QN (.ref a)) (.cons rfl .nil) (hsp H (λq hq=>H1 _ (ud hq)) hS)) λr s' h=>?_
 cases r with
 |error e=>exact(hCX H e s' h).elim
 |ok fl=>
  cases fl with
  |next=>exact ky h
  |brk=>exact ky h
  |cont=>exact ky h
  |ret u=>
   obtain⟨v,H',os,bare,un,hok',r',q⟩:=h;have q':v=.bl NG:=q;subst q';obtain rfl:u=AG NG:=r';have out:∀b o,QN.heap.get? b=en o->(b∈tabs.map (·.2)/\∃more,s'.heap.get? b=en (wn more))\/s'.heap.get? b=en o:=λb o e=>by
    rcases cases3 b with h|⟨rfl,h1,_⟩|h
    .obtain⟨more,hm⟩:=un.tbls b _ (H1 b h)
     exact .inl {h,_,hok' b _ hm}
    .obtain⟨e2,_⟩:=hok' _ _ (un.frzs _ _ _ (H3 h1))
     rw[ha] at e;cases e;exact .inr e2
    .exact .inr (un.keep b o e h (by intro z;exact absurd (show b∈([]:List fe) from z) (by simp)) (by simp))
   refine{rfl,{λb o e=>?_,λb o e=>?_},os,bare}
   .rcases out b o e with⟨h,more,hm⟩|h
    .have e1:=(tabAt b h).1
     rw[e] at e1;cases e1;exact .inr (.inl {(tabAt b h).2.2,rfl,#[],more,rfl,by rw[Array.empty_append];exact hm})
    .exact .inl h
   .rcases out b o e with⟨_,more,hm⟩|h
    .exact{_,hm}
    .exact⟨o,h⟩
theorem wS {l:zi}{n k:Nat}{q:gm}{loose:Za6}{XP:(Za2)->i8->Prop}{YP:iz->i8->Prop}{d:LO}{K:BF->e7}{CX:iz->CXT}{sp:iz->Sp}{x:Str}{tabs:List (fe×fe)}
  (hn:l.most=en n)(hn2:n<=sizeLine)(hdf:d.params.defaults=[])(hr:B9 k callerA)
  (hY:∀(w:iz) (h:i8),YP w h->(K w.params).In h)(hTb:∀(w:iz) (h:i8),YP w h->z0 tabs h)(hTK:∀w:iz,∀p∈tabs,(K w.params).lookup p.2=p9)
  (F:∀(w:iz) (mg:Za2) (fa:fe) (h:i8),(K w.params).In h->h.Ns mainGlobals mg->mg d.name=en (.ref fa) ->
   ∃fd:jv,(∀(s:gb) (u:fu),CZ s fd {[u],[]} [(x,u)]) /\
    ∀base:i8,(K w.params).In base->base.Ns mainGlobals mg->(∀q∈tabs,base.BuiltinsAt mg q.2)->Aq l.prog w (K w.params) mg base (CX w) k fa fd [x] (sp w))
  (hsp:∀(w:iz) (H:Hp) (a:fe) (ns:List Int),ns.9<=n->(∀p∈tabs,H p.2=en (.tbl #[]))->SqL (K w.params) H a (ns.map V.int)->sp w [.ref a] H (λv _=>v=.bl NG) λ_ _ _=>False)
  (hCX:∀(w:iz) (H:Hp) (s:gb) (e:fu) (s':gb),CX w [] H s (λ_ _ _=>False) e s'->False) :
  FI q loose XP YP l.row.toRowW d [] (λf vs=>ED f vs):=by
 refine _At.attach_call hn hdf λw mt QN mg mb fa o pm cd doc a vs ns G Y ho hd hcd hmg hobj hints hlen hg=>?_;have KX:=hY w _ Y;obtain⟨fd,hb,hF⟩:=F w mg fa _ KX G.T.g hmg;exact qQ (hTb w _ Y) (hTK w) G.T.bmain KX G.T.g G.T.b G.T.builtins G.T.nolimit hg hobj hints (iy hlen hn2) hr hF hb (λH hO hS=>hsp w H a ns hlen hO hS) λH e s'=>hCX w H QN e s'
structure Tf (K:e7) (x qual:Str) (st:i7) (f:fe) (fd:jv) (c P:fe):Prop where
 ex:∃(oc:fu) (od:Option fe) (kV doc pm:fu) (an:Option fe) (ct:fu) (osl:Array (Za7)),
  fd=jq x qual (Bz st) (Bg st) (Ac st) .none kV doc pm an (.ref c) ct/\K.lookup f=en {oc,od,.func fd,osl}/\ln K (.ref c) qual=NG
 kp:j7 K (.ref f)=NG
 hd:∃oc,K.lookup c=en oc/\Kg oc c P
section
variable {P:gm} {w:iz} {K:e7} {mg:Za2} {base:i8}
theorem Tf.ok {x:Str}{st:i7}{f c:fe}{k:Nat}(F:Tf K x qual st f fd c Pt)(S:Ah N ps (Ac st))(len:∀vs H Q E,sp vs H Q E->vs.9=ps.9)
  (hbody:∀(A:jd) (outer:List Env) (s:gb) (H:Hp) (vs:List V) (Q:VK) (E:XK),B9 k (A.deeper (envOfC qual (Ac st) s.heap.objs.8 f (.ref c)))->sp vs H Q E ->
   ∃t,PSs (Ce CX0 P w K mg base N qual (Ac st) f (.ref c) A outer s H E).nox (Bg st) t/\t { nx:=λ_ H'=>Q .non H',rt:=Q } (Kx N vs) H):Aq P w K mg base CX0 (k+1) f fd ps sp:=by
 obtain⟨oc,od,kV,doc,pm,an,ct,osl,rfl,lk,hcd⟩:=F.ex;refine kD lk hcd S len λA outer s H vs Q E hr hsp=>?_;obtain⟨t,h,q⟩:=hbody A outer s H vs Q E hr hsp;exact⟨t,h.nox,q⟩
theorem Tf.code {x:Str}{st:i7}{f c:fe}(F:Tf K x qual st f fd c Pt)(hK:K.In base):DM base c Pt:=let ⟨oc,e,h⟩:=F.hd;h.at (hK _ _ e)
theorem Tf.binds {x:Str}{st:i7}{f c:fe}(F:Tf K x qual st f fd c Pt)
  (h:∀(kV doc pm:fu) (an:Option fe) (cdv ct:fu) (us:Za3),us.9=ps.9->bindArgs (jq x qual (Bz st) (Bg st) (Ac st) .none kV doc pm an cdv ct) {us,[]}=pure (ps.zip us)):Dy K fd ps []:=by
 obtain⟨oc,od,kV,doc,pm,an,ct,osl,rfl,lk,hcd⟩:=F.ex;exact .all (h kV doc pm an (.ref c) ct)
theorem fX {x:Str}{st:i7}{f c:fe}{osl:Array (Za7)}{kV:fu}{oo:Obj}(l:K.lookup f=en {oc,od,.func (jq x qual (Bz st) (Bg st) (Ac st) .none kV doc pm an (.ref c) ct),osl})
  (cc:ln K (.ref c) qual=NG)(k:j7 K (.ref f)=NG)(lc:K.lookup c=en oo)(hc:Kg oo c Pt):Tf K x qual st f (jq x qual (Bz st) (Bg st) (Ac st) .none kV doc pm an (.ref c) ct) c Pt:={⟨oc,od,kV,doc,pm,an,ct,osl,rfl,l,cc⟩,k,oo,lc,hc}
end
def InC (cl:List (Str×fe))(b:fe):Prop:=∃x,cl.lookup x=en b
open Classical in
noncomputable def Jv (H:Hp) (cl:List (Str×fe)):Hp:=λb=>if InC cl b then p9 else H b
open Classical in
noncomputable def Jo (H:Hp) (h:i8) (cl:List (Str×fe)):Hp:=λb=>if InC cl b then(h.get? b).map λo=>.frz o (.own 0) else H b
theorem Lc {cl:List (Str×fe)}{b:fe}(h:InC cl b):Jv H cl b=p9:=if_pos h
theorem Gk {cl:List (Str×fe)}{b:fe}(h:¬ InC cl b):Jv H cl b=H b:=if_neg h
theorem Od {h:i8}{cl:List (Str×fe)}{b:fe}{o:Obj}(hb:InC cl b)(e:h.get? b=en o):Jo H h cl b=en (.frz o (.own 0)):=by
 unfold Jo;rw[if_pos hb,e];rfl
theorem C4 {h:i8}{cl:List (Str×fe)}{b:fe}(hb:¬ InC cl b):Jo H h cl b=H b:=if_neg hb
theorem E2 {cl:List (Str×fe)}{b:fe}(h:H b=p9):Jv H cl b=p9:=by
 by_cases hb:InC cl b
 .exact Lc hb
 .rw[Gk hb];exact h
theorem rD {cl:List (Str×fe)}{b:fe}{o:HO}(h:Jv H cl b=en o):¬ InC cl b/\H b=en o:=by
 by_cases hb:InC cl b
 .rw[Lc hb] at h;cases h
 .rw[Gk hb] at h;exact⟨hb,h⟩
theorem kC {P:gm}{h:i8}{cl:List (Str×fe)}(hk:HOk P w H h)(hc:∀b,InC cl b->∃o u,H b=en (.frz o u)):HOk P w (Jv H cl) h:=λb o e=>by
 obtain⟨hb,e⟩:=rD e;refine(hk b o e).stay (λ_ _ _ q=>q) (λc q=>?_) λc xs q=>?_
 .rw[Gk λz=>?_]
  .exact q
  .obtain⟨o,u,e⟩:=hc c z
   rw[q] at e;cases e
 .rw[Gk λz=>?_]
  .exact q
  .obtain⟨o,u,e⟩:=hc c z
   rw[q] at e;cases e
theorem lU {P:gm}{w:iz}{H:Hp}{h:i8}{cl:List (Str×fe)}(hk:HOk P w H h)(hn:∀b,InC cl b->H b=p9):HOk P w (Jo H h cl) h:=λb o e=>by
 by_cases hb:InC cl b
 .unfold Jo at e
  rw[if_pos hb] at e
  cases g:h.get? b with
  |none=>rw[g] at e;cases e
  |some ob=>
   rw[g] at e;cases e;exact{g,_,g}
 .rw[C4 hb] at e
  refine(hk b o e).stay (λ_ _ _ q=>q) (λc q=>?_) λc xs q=>?_
  .rw[C4 λz=>by rw[hn c z] at q;cases q];exact q
  .rw[C4 λz=>by rw[hn c z] at q;cases q];exact q
def lF (P:gm)(w:iz)(K:e7)(mg:Za2)(base:i8)(k:Nat)(H:Hp)(f:fe)(dom:Int->Prop)(p:Int->Bool):Prop:=
 (∃oc od fd sl u,H f=en (.frz {oc,od,.func fd,sl} u))/\∀(A:jd) (outer:List Env) (s:gb) (H1:Hp) (i:Int) (t:Tok),B9 k A->Yh P w K mg base A outer s H1->Ag H H1->dom i ->
  codeAny (model P w) A (.call (.ref f) {[.int i t],[]}) (CR CX0 outer P w H1 s (λv H2=>v=.bl (p i)/\Ag H1 H2) E0) s
theorem lF.same {P:gm}{K:e7}{mg:Za2}{k:Nat}{f:fe}{dom:Int->Prop}{p:Int->Bool}(a:lF P w K mg base k H f dom p)(s:Ag H H'):lF P w K mg base k H' f dom p:=
 {let ⟨oc,od,fd,sl,u,e⟩:=a.1;{oc,od,fd,sl,u,s _ _ e},λA outer st H1 i t hr e0 sm hd=>a.2 A outer st H1 i t hr e0 (λb o e=>sm _ _ (s _ _ e)) hd}
section
variable {X:Cx} {x:Str} {i:Nat} {k:Nat} {a:ja} {ta:TE} {q pos:Pos}
def Ajz (P:gm)(w:iz)(K:e7)(mg:Za2)(base:i8)(k i:Nat)(ta:TE):TE:=λσ H Q=>∃(f:fe) (dom:Int->Prop) (p:Int->Bool),σ[i]?=en (en (.ref f))/\lF P w K mg base k H f dom p /\
 ta σ H λv H1=>mF σ H1 λvs H2=>∃z:Int,v::vs=[.int z]/\Ag H H2/\dom z/\∀H3,Ag H2 H3->Q (.bl (p z)) H3
theorem Ait {P:gm}{K:e7}{mg:Za2}{σ:St}{Q:VK}(h:∃(f:fe) (dom:Int->Prop) (p:Int->Bool),σ[i]?=en (en (.ref f))/\lF P w K mg base k H f dom p /\
 ta σ H λv H1=>mF σ H1 λvs H2=>∃z:Int,v::vs=[.int z]/\Ag H H2/\dom z/\∀H3,Ag H2 H3->Q (.bl (p z)) H3):Ajz P w K mg base k i ta σ H Q:=h
theorem Ahi (hr:B9 k X.A)(hN:X.N[i]?=en x)(hv:X.env.scope.names.lookup x=en .local)(ha:PE X a ta)(hdb:autoParam ((x==("__debug__":Str))=NH) QF)(hcd:autoParam ((x==("__classdict__":Str))=NH) QF)
  (he:autoParam (starEach [a] X.env=[(NH,eval a X.env)]) QD) :
  PE X (.Call (.Name x q) [a] [] pos) (Ajz X.prog X.w X.K X.mg X.base k i ta):=by
 intro pins s σ H Q I ⟨f,dom,p,XI,hA,h⟩;have hn:PE X (.Name x q) (Aev i):=zK hN (.inl hv) hdb hcd;refine wpAny_Call_Name_kw (thn (hn pins s σ H (λv H1=>v=.ref f/\H1=H) I {_,XI,rfl,rfl}) λu s0 ⟨v0,H0,I0,r0,e0,e1⟩=>?_);subst e0 e1;obtain rfl:u=iw f:=r0;have fnAt:∀{s':gb} {H':Hp},Inv X pins σ H' s'->Ag H0 H'->PySem.W.FnAt f s'.5:=λI' sm=>by
  obtain⟨oc,od,fd,sl,u,e⟩:=hA.1;exact{oc,od,fd,sl,(I'.hok _ _ (sm _ _ e)).1}
 have hp:PA X [a] (Z7 ta mF):=tK ha Aa he;refine PySem.W.callWith_F (fnAt I0 (λ_ _ e=>e)) (thn (hp pos pins s0 σ H0 (λvs H1=>∃z:Int,vs=[.int z]/\Ag H0 H1/\dom z/\∀H3,Ag H1 H3->Q (.bl (p z)) H3) I0 ?_) λus s1 ⟨vs,H1,I1,r1,z,e1,sm,hz,q1⟩=>{fnAt I1 sm,?_}) he rfl
 .exact h
 subst e1;obtain⟨u,rfl,t,rfl⟩:=Fk r1;refine nh (ot (hA.2 X.A X.stack s1 H1 z t hr I1.env0 sm hz) λr s' hq=>?_)
 cases r with
 |error e=>exact hq.elim
 |ok fl=>
  cases fl with
  |ret u=>
   obtain⟨v,H',os,bare,un,hok,r,e2,sm2⟩:=hq;subst e2;exact I1.after {_,H',os,bare,un,hok,r,q1 _ sm2}
  |next=>exact ky hq
  |brk=>exact ky hq
  |cont=>exact ky hq
end
abbrev vO (qual:Str)(scope:nr)(cl:List (Str×fe))(C f:fe)(cd:fu):Env:=newEnv scope C mainGlobals cl (qual++mq ".<locals>.") (en f) cd p9 builtinsNs
def Zp (P:gm)(w:iz)(K:e7)(mg:Za2)(base:i8)(N:Za6)(qual:Str)(scope:nr)(cl:List (Str×fe))(f:fe)(cd:fu)(A:jd)(outer:List Env)(s:gb)(H:Hp):Cx where
 prog:=P
 w:=w
 K:=K
 mg:=mg
 base:=base
 A:=A.deeper (vO qual scope cl s.heap.objs.8 f cd)
 N:=N
 mt:=s
 QP:=H
 env:=vO qual scope cl s.heap.objs.8 f cd
 outer:=outer
 stack:=vO qual scope cl s.heap.objs.8 f cd::outer
 ex:=[]
 fn:=λ_=>NH
 calm:=NG
 pn:=[]
 xe:=λ_ _=>False
section
variable {P:gm} {w:iz} {K:e7} {mg:Za2} {base:i8}
theorem Ado {x:Str}{cl:List (Str×fe)}{f:fe}{cd:fu}{σ:St}{QU:i8}{tk:Nat}{v0:V}{u0:fu}{k:Nat}
  (L:Ba QR QQ scope x N ix)(hr:B9 (k+1) A)(e0:Yh P w K mg base A outer s H1)
  (hinj:∀y z c,cl.lookup y=en c->cl.lookup z=en c->y=z)(hhas:∀y,(y,n8)∈scope.names->∃c,cl.lookup y=en c)
  (hcs:∀y c,cl.lookup y=en c->∃o v,H1 c=en (.frz o (.own 0))/\o.data=.cell v)
  (hval:∀y j v,(y,j)∈N.tail.zip ix->σ[j]?=en (en v)->∃c o u,cl.lookup y=en c/\H1 c=en (.frz o (.own 0))/\o.data=.cell (en u)/\Be v u)
  (hr0:Be v0 u0)(hns:QU.Ns s.heap.objs.8 λz=>m3 z [(x,u0)].reverse)(hk:∀b o,s.heap.get? b=en o->QU.get? b=en o) :
  Inv (Zp P w K mg base N qual scope cl f cd A outer s (Jv H1 cl)) [] (en v0::frV σ ix) (Jv H1 cl) { s with heap:=QU,toks:=tk }:=by
 have noA:∀b:fe,b∉(Zp P w K mg base N qual scope cl f cd A outer s (Jv H1 cl)).ex:=λb z=>absurd (show b∈([]:List fe) from z) (by simp);have kf:∀y,scope.names.lookup y≠en .cell:=λy e=>L.nocell _ (ko e) rfl;refine⟨{e0.mod,L.kind,rfl,rfl,fm _,λy z c h1 h2=>hinj y z c h1 h2,λy hy=>?_,λy c z _=>?_,λ_=>(hr.deeper _).hd,DA e0.frames,.inr ⟨rfl,rfl⟩,λb z=>absurd z (noA b),λb o e=>{(e0.bs b o e).1,E2 (e0.bs b o e).2},e0.bsz,λb _ _=>noA b,λb z=>absurd z (noA b),e0.funs,λb hb=>E2 (e0.frf b hb)},
  rfl,e0.bare,Un.kept hk,{_,hns,λi y v h1 h2 h3=>?_},λy c e=>?_,E2 (e0.hok.fresh (fm _)),λy c e=>Lc ⟨y,e⟩,λp hp=>absurd (show p∈([]:Za1) from hp) (by simp),?_,?_⟩
 .have hy:scope.names.lookup y=en .cell\/scope.names.lookup y=en .free:=hy
  rcases hy with hy|hy
  .exact absurd hy (kf y)
  .exact hhas y (ko hy)
 .cases(show NH=NG from z)
 .cases i with
  |zero=>
   have h1:N[0]?=en y:=h1;have h2:en (en v0)=en (en v):=h2;cases h2;have hx:N[0]?=en x:=by have:=L.hd;rwa [CU] at this
   rw[h1] at hx;cases hx;exact{u0,hr0,.inl {L.loc,by simp}}
  |succ j=>
   have h1:N[j+1]?=en y:=h1;have h2:(frV σ ix)[j]?=en (en v):=h2;unfold frV at h2;rw[fg] at h2
   cases hj:ix[j]? with
   |none=>rw[hj] at h2;cases h2
   |some m=>
    rw[hj] at h2;have h2:(σ[m]?).getD p9=en v:=fk h2;have h2':σ[m]?=en (en v):=by
     cases e:σ[m]? with
     |none=>rw[e] at h2;cases h2
     |some z=>rw[e] at h2;exact congrArg en h2
    have ht:N.tail[j]?=en y:=by rw[List.getElem?_tail];exact h1
    have hz:(y,m)∈N.tail.zip ix:=ip (i:=j) (by rw[mf];exact⟨ht,hj⟩);obtain⟨c,o,u,e1,e2,e3,r⟩:=hval y m v hz h2';exact{u,r,.inr {.inr (L.at_ _ hz).2,c,e1,o,hk _ _ (e0.hok _ _ e2).1,e3}}
 .obtain⟨o,v,e1,e2⟩:=hcs y c e
  exact{v,o,hk _ _ (e0.hok _ _ e1).1,e2}
 .exact(kC e0.hok λb ⟨y,e⟩=>let ⟨o,v,e1,_⟩:=hcs y b e;{o,_,e1}).kept hk
 .show(en v0::frV σ ix).9=N.9
  rw[L.len];simp[frV]
theorem Acn {x:Str}{cl:List (Str×fe)}{f c':fe}{σ:St}{k:Nat}{body:ja}{ctv:fu}{oc:Obj}{dom:Int->Prop}{p:Int->Bool}
  (L:Ba QR QQ scope x N ix)(hco:scope.isCoroutine=NH)(hgen:scope.isGenerator=NH)
  (hinj:∀y z c,cl.lookup y=en c->cl.lookup z=en c->y=z)(hhas:∀y,(y,n8)∈scope.names->∃c,cl.lookup y=en c)
  (hcs:∀y c,cl.lookup y=en c->∃o v,H c=en (.frz o (.own 0))/\o.data=.cell v)
  (hval:∀y j v,(y,j)∈N.tail.zip ix->σ[j]?=en (en v)->∃c o u,cl.lookup y=en c/\H c=en (.frz o (.own 0))/\o.data=.cell (en u)/\Be v u)
  (hf:H f=en (.frz (AF "<lambda>" qual params body scope cl pm c' ctv) (.own 0)))(hc':H c'=en (.frz oc (.own 0)))(hoc:gT oc qual)
  (hbind:∀(n:Int) (t:Tok),bindArgs (FB "<lambda>" qual params body scope cl pm (.ref c') ctv) {[.int n t],[]}=pure [(x,.int n t)])
  (hbody:∀(A:jd) (outer:List Env) (s:gb) (H1:Hp),B9 k (A.deeper (vO qual scope cl s.heap.objs.8 f (.ref c')))->PE (Zp P w K mg base N qual scope cl f (.ref c') A outer s H1) body te)
  (hte:∀(i:Int) (H1:Hp),dom i->(∀b u,¬ InC cl b->H b=en u->H1 b=en u)->te (en (.int i)::frV σ ix) H1 λv H2=>v=.bl (p i)/\Ag H1 H2):lF P w K mg base (k+1) H f dom p:=by
 refine{{_,_,_,_,_,hf},λA outer s H1 i t hr e0 sm hd=>?_};have hfo:s.heap.get? f=en (AF "<lambda>" qual params body scope cl pm c' ctv):=(e0.hok _ _ (sm _ _ hf)).1;have hco':s.heap.get? c'=en oc:=(e0.hok _ _ (sm _ _ hc')).1;have lim:s.heap.NoLimit:=e0.mod.nolimit.keeps λb o e=>(e0.bs b o e).1;refine CG hr.depth hfo rfl hco hgen rfl (let ⟨vs,t,e1,e2⟩:=hoc;⟨c',oc,vs,t,rfl,hco',e1,e2⟩) ?_;rw[hbind];refine fw (yv L.nocell (λy hy=>by cases j0.mp hy;exact L.loc) (λQU hns hsb=>{lim.fresh _ hsb,?_}) L.kind);have XB:∀b o,s.heap.get? b=en o->QU.get? b=en o:=λb o e=>hsb.extBut b o (io (gi e)) (fj _ e);have inH:∀b,InC cl b->∃o v,H1 b=en (.frz o (.own 0))/\o.data=.cell v:=λb ⟨y,e⟩=>let ⟨o,v,e1,e2⟩:=hcs y b e;{o,v,sm _ _ e1,e2};have I':=Ado (qual:=qual) (f:=f) (cd:=.ref c') (tk:=s.toks+[(x,nz i t)].9) (v0:=.int i) (u0:=.int i t) L hr e0 hinj hhas (λy c e=>let ⟨o,v,e1,e2⟩:=hcs y c e;{o,v,sm _ _ e1,e2})
  (λy j v h1 h2=>let ⟨c,o,u,a1,a2,a3,a4⟩:=hval y j v h1 h2;{c,o,u,a1,sm _ _ a2,a3,a4}) ⟨t,rfl⟩ hns XB
 refine CA (km (hbody A outer s (Jv H1 cl) (hr.deeper _) [] _ _ _ _ I' (hte i _ hd λb u hb e=>by rw[Gk hb];exact sm _ _ e)) (λv s' ⟨v',H2,I2,r,ev,sm2⟩=>?_) λe s' z=>z.elim);have nfr:∀b,InC cl b->b∉frs outer:=λb hb z=>by
  obtain⟨o,v,e1,_⟩:=inH b hb;rw[e0.frf b z] at e1;cases e1
 have cell':∀b o u,InC cl b->H1 b=en (.frz o u)->s'.heap.get? b=en o/\u=.own 0:=λb o u hb e=>by
  obtain⟨o2,v2,e1,_⟩:=inH b hb;rw[e] at e1;cases e1;exact{I2.base.keep b o (e0.hok _ _ e).1 (Lc hb) (nfr b hb) (by simp[Zp]),rfl}
 have same':∀b u,H1 b=en u->(∀ps,u≠.tbl ps)\/True->Jo H2 s'.5 cl b=en u:=λb u e _=>by
  by_cases hb:InC cl b
  .obtain⟨o,v,e1,_⟩:=inH b hb
   rw[e] at e1;cases e1;exact Od hb (cell' b o _ hb e).1
  .rw[C4 hb]
   exact sm2 _ _ (by rw[Gk hb];exact e)
 refine{v',Jo H2 s'.5 cl,I2.os,I2.bare,{λb o e n hf hx=>I2.base.keep b o e (E2 n) hf hx,λb o e n hf hx=>I2.base.slot b o e (E2 n) hf hx,λb o e n hx=>?_,λb o e hx=>I2.base.there b o e hx,λb xs e=>same' _ _ e (.inr trivial),λb o u e=>same' _ _ e (.inr trivial),λb ps e=>{#[],by rw[ur];exact same' _ _ e (.inr trivial)}},lU I2.hok λb ⟨y,e⟩=>I2.freeC y b e,r,ev,λb u e=>same' b u e (.inr trivial)};have hb:¬ InC cl b:=λhb=>by
  obtain⟨o,v,e1,_⟩:=inH b hb;rw[n] at e1;cases e1
 rw[C4 hb];exact I2.base.free b o e (E2 n) hx
end
inductive Tz (P:gm)(w:iz)(K:e7)(mg:Za2)(base:i8)(k:Nat)(vs:List V)(H:Hp)(Q:VK)(E:XK):Prop|mk(lo hi:Int)(f:fe)(p:Int->Bool)(_:vs=[.int lo,.int hi,.ref f])(_:lo<=hi)(_:lF P w K mg base k H f (λi=>lo<=i/\i<hi) p)(_:∀m H',lo<=m->m<=hi->(lo<m->p (m-1)=NH)->(m<hi->p m=NG)->Ag H H'->Q (.int m) H')
def qH (Pt:fe)(lpos:Pos)(qual:Str)(ix:Za4)(te ta tb:TE):TE:=λσ H Q=>ta σ H λv H1=>tb σ H1 λu H2=>∃(lo hi:Int) (p:Int->Bool),v=.int lo/\u=.int hi/\lo<=hi/\O4 H2 Pt lpos qual /\
 (∀(i:Int) (H3:Hp),lo<=i->i<hi->Oe Pt H2 H3->te (en (.int i)::frV σ ix) H3 λv H4=>v=.bl (p i)/\Ag H3 H4) /\
 ∀(m:Int) (H':Hp),lo<=m->m<=hi->(lo<m->p (m-1)=NH)->(m<hi->p m=NG)->Oe Pt H2 H'->O4 H' Pt lpos qual->Q (.int m) H'
theorem Aek {ta tb:TE}{σ:St}{Q:VK}(h:ta σ H λv H1=>tb σ H1 λu H2=>∃(lo hi:Int) (p:Int->Bool),v=.int lo/\u=.int hi/\lo<=hi/\O4 H2 Pt lpos qual /\
 (∀(i:Int) (H3:Hp),lo<=i->i<hi->Oe Pt H2 H3->te (en (.int i)::frV σ ix) H3 λv H4=>v=.bl (p i)/\Ag H3 H4) /\
 ∀(m:Int) (H':Hp),lo<=m->m<=hi->(lo<m->p (m-1)=NH)->(m<hi->p m=NG)->Oe Pt H2 H'->O4 H' Pt lpos qual->Q (.int m) H'):qH Pt lpos qual ix te ta tb σ H Q:=h
section
variable {X:Cx}
theorem Abz {g x:Str}{a b body:ja}{ta tb:TE}{q:Pos}{ff c:fe}{kf k:Nat} 
  (F:Aq X.prog X.w X.K X.mg X.base CX0 kf ff fd ps (Tz X.prog X.w X.K X.mg X.base (k+1)))(hr:B9 kf X.A)(hg:Gl X g)(hm:X.mg g=en (.ref ff))(hkp:j7 X.K (.ref ff)=NG)(hb:Dy X.K fd ps [])
  (ha:PE X a ta)(hbb:PE X b tb)(hfn:X.fn=λ_=>NG)
  (C:DM X.base c Pt)(hB:X.base.BuiltinsAt X.mg Pt)(hcode:X.env.code=.ref c)(hq:X.env.qual++"<lambda>"=qual)
  (L:Ba X.N X.env.scope scope x N ix)(hco:scope.isCoroutine=NH)(hgen:scope.isGenerator=NH)(hdef:defaultsOf params X.env=([],[]))
  (hbind:∀(cl:List (Str×fe)) (pm cv ctv:fu) (n:Int) (t:Tok),bindArgs (FB "<lambda>" qual params body scope cl pm cv ctv) {[.int n t],[]}=pure [(x,.int n t)])
  (hbody:∀(cl:List (Str×fe)) (f c':fe) (A:jd) (outer:List Env) (s:gb) (H1:Hp),B9 k (A.deeper (vO qual scope cl s.heap.objs.8 f (.ref c')))->PE (Zp X.prog X.w X.K X.mg X.base N qual scope cl f (.ref c') A outer s H1) body te)
  (hdb:autoParam ((g==("__debug__":Str))=NH) QF)(he1:autoParam (starEach [a,b,.Lambda params body scope lpos] X.env=(NH,eval a X.env)::starEach [b,.Lambda params body scope lpos] X.env) QD)(he2:autoParam (starEach [b,.Lambda params body scope lpos] X.env=(NH,eval b X.env)::starEach [.Lambda params body scope lpos] X.env) QD)
  (he3:autoParam (starEach [.Lambda params body scope lpos] X.env=[(NH,eval (.Lambda params body scope lpos) X.env)]) QD)(hpl:autoParam ((backTo pos (starEach [b,.Lambda params body scope lpos] X.env)).any (·.1)=NH) QD) :
  PE X (.Call (.Name g q) [a,b,.Lambda params body scope lpos] [] pos) (qH Pt lpos qual ix te ta tb):=by
 k_in;refine wpAny_Call_Name_kw (Gu I hg hm ?_ hdb);refine callWith_K (h₀:=X.base) I.ok.mod.kin hkp ?_ he1 hpl;rw[he1];show wpAny _ _ (spliced ((NH,eval a X.env)::backTo pos (starEach [b,.Lambda params body scope lpos] X.env))) _ _ s;refine lv (thE ha I h λu1 s1 v1 H1 I1 r1 q1=>?_);rw[he2];show wpAny _ _ (spliced ((NH,eval b X.env)::backTo pos (starEach [.Lambda params body scope lpos] X.env))) _ _ s1;refine lv (thE hbb I1 q1 λu2 s2 v2 H2 I2 r2 ⟨lo,hi,p,e1,e2,hle,hT,hbd,q2⟩=>?_);subst e1 e2;rw[he3];show wpAny _ _ (spliced [(NH,eval (.Lambda params body scope lpos) X.env)]) _ _ s2;have hfree:∀y∈scope.names,y.2=.free->∃c,X.env.cells.lookup y.1=en c:=λy hy hf=>I.ok.has y.1 (.inl (L.free y hy hf));have sub:∀y c,(Fm X.env scope.names []).lookup y=en c->X.env.cells.lookup y=en c:=λy c h=>Mj _ _ y c hfree (λ_ _ z=>by simp at z) h;refine lv (kI I2 hT C hB hcode (Nt hfree) hdef hq λf c' oc pm ctv s3 H3 I3 hT3 sm hf0 hf hc' hoc=>?_);refine nj ?_;generalize hcl:Fm X.env scope.names []=cl at hf sub;have inj:∀y z c,cl.lookup y=en c->cl.lookup z=en c->y=z:=λy z c h1 h2=>I.ok.inj y z c (sub y c h1) (sub z c h2);have n3:∀b,InC cl b->H3 b=p9:=λb ⟨y,e⟩=>I3.freeC y b (sub y b e);have cellAt:∀y c,cl.lookup y=en c->∃o v,s3.heap.get? c=en o/\o.data=.cell v:=λy c e=>let ⟨v,o,e1,e2⟩:=I3.cell y c (sub y c e);⟨o,v,e1,e2⟩;have nLoc:∀b,InC cl b->b≠X.env.locals:=λb ⟨y,e⟩=>I3.cne y b (sub y b e);have hab:∀b,InC cl b->X.mt.heap.objs.8<=b:=λb ⟨y,e⟩=>I3.ok.cab y b (by rw[hfn]) (sub y b e);have nfr:∀b,InC cl b->b∉frs X.stack:=λb hb z=>by
  rcases i5.mp (I3.stkSub b z) with e|hz
  .exact nLoc b hb e
  .obtain⟨_,o,ho,_⟩:=I3.ok.funs.mem hz
   exact absurd (gi ho) (rz.mpr (hab b hb))
 have e0:Yh X.prog X.w X.K X.mg X.base X.A X.stack s3 (Jo H3 s3.5 cl):=by
  have z:=I3.env0;refine{z.frames,z.mod,λb o e=>{(z.bs b o e).1,?_},z.bsz,z.funs,λb hb=>?_,lU z.hok n3,z.bare}
  .rw[C4 λhb=>?_]
   .exact(z.bs b o e).2
   .exact absurd (gi e) (rz.mpr (iy I3.ok.bsz (hab b hb)))
  .rw[C4 λh=>nfr b h hb]
   exact z.frf b hb
 have out:∀b u,H3 b=en u->Jo H3 s3.5 cl b=en u:=λb u e=>by
  rw[C4 λhb=>by rw[n3 b hb] at e;cases e];exact e
 have asks:lF X.prog X.w X.K X.mg X.base (k+1) (Jo H3 s3.5 cl) f (λi=>lo<=i/\i<hi) p:=by
  refine Acn (σ:=σ) (te:=te) L hco hgen inj (λy hy=>?_) (λy c e=>?_) (λy j v hz hj=>?_) (out _ _ hf) (out _ _ hc') hoc (hbind _ _ _ _) (λA outer s H1 hr=>hbody _ _ _ A outer s H1 hr) λi H4 hi k4=>?_
  .rw[<-hcl];exact jz.mp (Hl _ _ y hy)
  .obtain⟨o,v,e1,e2⟩:=cellAt y c e
   exact{o,v,Od ⟨y,e⟩ e1,e2}
  .obtain⟨b1,b2⟩:=L.at_ _ hz
   have hm:=ko b2;have hcell:=L.free _ hm rfl;obtain⟨m',hn',hl'⟩:=I3.loc;obtain⟨u,r,lk⟩:=hl' j y v b1 hj (.inr (.inl hcell));rcases lk with lk|⟨_,c2,e,o,z1,z2⟩
   .rw[show X.env.kindOf y=en .cell from hcell] at lk
    cases lk.1
   .obtain⟨c3,e'⟩:=jz.mp (Hl (env:=X.env) scope.names [] y hm)
    rw[hcl] at e';have e2:=sub y c3 e';rw[e] at e2;cases e2;exact{c2,o,u,e',Od ⟨y,e'⟩ z1,z2,r}
  .refine hbd i H4 hi.1 hi.2 λb u hb e=>?_
   have e3:=sm b u hb e;exact k4 b u (λhc=>by rw[n3 b hc] at e3;cases e3) (out b u e3)
 refine{I3.kIn,?_};show wpAny _ _ (call (.ref ff) [u1,u2,.ref f]) _ _ s3;have rv:Az [V.int lo,V.int hi,V.ref f] [u1,u2,.ref f]:=.cons r1 (.cons r2 (.cons rfl .nil));have hl:([u1,u2,iw f]++[]).9=ps.9:=by
  have:=F.len [.int lo,.int hi,.ref f] (Jo H3 s3.5 cl) (λ_ _=>True) E0 {lo,hi,f,p,rfl,hle,asks,λ_ _ _ _ _ _ _=>trivial};exact this
 refine nh (ot (F.run X.A X.stack s3 (Jo H3 s3.5 cl) {[u1,u2,.ref f],[]} ([u1,u2,.ref f]++[]) [.int lo,.int hi,.ref f] (λv H'=>∃m,v=.int m/\lo<=m/\m<=hi/\(lo<m->p (m-1)=NH)/\(m<hi->p m=NG)/\Ag (Jo H3 s3.5 cl) H') E0 hr e0 (hb s3 _ I3.kIn hl) (by simpa using rv)
  {lo,hi,f,p,rfl,hle,asks,λm H' a1 a2 a3 a4 a5=>⟨m,rfl,a1,a2,a3,a4,a5⟩}) λr s' hq=>?_)
 cases r with
 |error e=>exact hq.elim
 |ok fl=>
  cases fl with
  |next=>exact ky hq
  |brk=>exact ky hq
  |cont=>exact ky hq
  |ret u=>
   obtain⟨v,H4,os,bare,un,hok,rr,m,ev,a1,a2,a3,a4,sm4⟩:=hq;subst ev;have c4:∀b,InC cl b->∃o,s3.heap.get? b=en o/\H4 b=en (.frz o (.own 0)):=λb ⟨y,e⟩=>by
    obtain⟨o,v,e1,_⟩:=cellAt y b e;exact{o,e1,sm4 _ _ (Od ⟨y,e⟩ e1)}
   have sm5:∀b u,H3 b=en u->Jv H4 cl b=en u:=λb u e=>by
    rw[Gk λhb=>by rw[n3 b hb] at e;cases e];exact sm4 _ _ (out _ _ e)
   have un2:Un (frs X.stack) [] H3 (Jv H4 cl) s3.5 s'.5:=by
    refine{λb o e n hf hx=>?_,λb o e n hf hx=>?_,λb o e n hx=>?_,λb o e hx=>un.there b o e hx,λb xs e=>sm5 _ _ e,λb o u e=>sm5 _ _ e,λb ps e=>{#[],by rw[ur];exact sm5 _ _ e}}
    .by_cases hb:InC cl b
     .obtain⟨o2,z1,z2⟩:=c4 b hb
      rw[e] at z1;cases z1;exact(hok _ _ z2).1
     .exact un.keep b o e (by rw[C4 hb];exact n) hf hx
    .have hb:¬ InC cl b:=λhb=>nfr b hb hf
     exact un.slot b o e (by rw[C4 hb];exact n) hf hx
    .by_cases hb:InC cl b
     .exact Lc hb
     .exact E2 (un.free b o e (by rw[C4 hb];exact n) hx)
   have hok2:HOk X.prog X.w (Jv H4 cl) s'.5:=kC hok λb hb=>let ⟨o,_,z⟩:=c4 b hb;{o,_,z};refine I3.after {_,Jv H4 cl,os,bare,un2,hok2,rr,q2 m _ a1 a2 a3 a4 (λb u hb e=>sm5 _ _ (sm b u hb e)) ?_};obtain⟨pps,t1,t2,t3⟩:=hT3;exact{pps,sm5 _ _ t1,t2,t3.imp id λ⟨c2,oc2,z1,z2,z3⟩=>{c2,oc2,z1,sm5 _ _ z2,z3}}
theorem Aaa {g x:Str}{a b body:ja}{ta tb:TE}{q:Pos}{c:fe}{kf k:Nat} 
  (F:Cal X.prog X.w X.K X.mg X.base g kf ps (Tz X.prog X.w X.K X.mg X.base (k+1)))(hr:B9 kf X.A)(ha:PE X a ta)(hbb:PE X b tb)(C:DM X.base c Pt)(hB:X.base.BuiltinsAt X.mg Pt)(hcode:X.env.code=.ref c)(hq:X.env.qual++"<lambda>"=qual)
  (L:Ba X.N X.env.scope scope x N ix)(hbody:∀(cl:List (Str×fe)) (f c':fe) (A:jd) (outer:List Env) (s:gb) (H1:Hp),B9 k (A.deeper (vO qual scope cl s.heap.objs.8 f (.ref c')))->PE (Zp X.prog X.w X.K X.mg X.base N qual scope cl f (.ref c') A outer s H1) body te)
  (hfn:autoParam (X.fn=λ_=>NG) QD)(hg:autoParam (Gl X g) QD)(hco:autoParam (scope.isCoroutine=NH) QD)(hgen:autoParam (scope.isGenerator=NH) QD)(hdef:autoParam (defaultsOf params X.env=([],[])) QD)
  (hbind:∀(cl:List (Str×fe)) (pm cv ctv:fu) (n:Int) (t:Tok),bindArgs (FB "<lambda>" qual params body scope cl pm cv ctv) {[.int n t],[]}=pure [(x,.int n t)]:=by intros;rfl)
  (hdb:autoParam ((g==("__debug__":Str))=NH) QF)(he1:autoParam (starEach [a,b,.Lambda params body scope lpos] X.env=(NH,eval a X.env)::starEach [b,.Lambda params body scope lpos] X.env) QD)(he2:autoParam (starEach [b,.Lambda params body scope lpos] X.env=(NH,eval b X.env)::starEach [.Lambda params body scope lpos] X.env) QD)
  (he3:autoParam (starEach [.Lambda params body scope lpos] X.env=[(NH,eval (.Lambda params body scope lpos) X.env)]) QD)(hpl:autoParam ((backTo pos (starEach [b,.Lambda params body scope lpos] X.env)).any (·.1)=NH) QD) :
  PE X (.Call (.Name g q) [a,b,.Lambda params body scope lpos] [] pos) (qH Pt lpos qual ix te ta tb):=by
 obtain⟨f,fd,F,bb,hm,hk⟩:=F.ex;exact Abz F hr hg hm hk bb ha hbb hfn C hB hcode hq L hco hgen hdef hbind hbody hdb he1 he2 he3 hpl
end
theorem gQ:typeLookup (.type "list") "keys"=pure p9:=by rw[qp,nq];kernel_rfl
theorem gO:typeLookup (.type "list") "__getattr__"=pure p9:=by rw[qp,nq];kernel_rfl
theorem kK (a:fe)(vs:Array fu)(n:Nat)(u:Tok):Meets (ow.«object.__getattribute__» {[.ref a,.str "keys" u],[]}) (λA R s=>s.heap.get? a=en (seqObj "list" vs n)/\raisesAttr (.ref a) "keys" A R s):=
 ID λprog w A R s hs=>by
  obtain⟨hp,g,d,tk,os⟩:=s;obtain⟨hx,hs⟩:=hs;have hT:(⟨hp,g,d,tk,os⟩:gb).TypeIs (.ref a) "list":={_,hx,rfl};have f4:=gQ
  repeat (any_goals (first|assumption|with_reducible refine nw hx ?_|wp_step))
  exact GC hs.1 hs.2 (by decide +kernel)
section
variable {prog:gm} {w:iz} {A:jd} {E:Za0} {s:gb}
theorem yR {a:fe}{vs:Array fu}{n:Nat}{Q:Za7->gb->Prop}(hx:s.heap.get? a=en (seqObj "list" vs n))(hA:A.handled=p9)(q:∀h' tk,(∀b o,s.heap.get? b=en o->h'.get? b=en o)->Q p9 { s with heap:=h',toks:=tk }) :
  wpAny (model prog w) A (getAttr? (.ref a) "keys") Q E s:=by
 obtain⟨hp,g,d,tk,os⟩:=s;have hT:∀tk',(⟨hp,g,d,tk',os⟩:gb).TypeIs (.ref a) "list":=λ_=>{_,hx,rfl};have f1:=HF;have f3:=qz.lookup;have f4:=qz.bind (.ref a);have f5:=gO;unfold getAttr? getAttrBy? getAttrBy
 repeat (any_goals (first|assumption|exact hT _|((with_reducible show wpAny _ _ (call (AX "list.__getattribute__") _ _) _ _ _);refine uc qz (hT _) PySem.F.entry_list_ga (PySem.F.args_list_getattribute_2 _ _) (kK a vs n _) ⟨hx,hA,λh' tk' e hx'=>?_⟩)|wp_step))
 obtain⟨t',u',he⟩:=hx'.there;show wpAny _ _ (getattributeRaised _ _ _ _ _ _ _) _ _ _;unfold getattributeRaised
 repeat (any_goals (first|assumption|wp_step))
 exact q _ _ hx'.keeps
end
def nQ (h:i8)(T:fe)(x y:fu):Prop:=∃o n,h.get? T=en o/\o.cls=.type "tuple"/\o.data=.seq #[x,y] n
theorem nQ.keep {h:i8}{T:fe}{x y:fu}(p:nQ h T x y)(k:∀o,h.get? T=en o->h'.get? T=en o):nQ h' T x y:=let ⟨o,n,e,r⟩:=p;{o,n,k o e,r}
section
variable {prog:gm} {w:iz} {A:jd} {E:Za0} {R:wm->gb->Prop}
theorem lD {T:fe}{x y:fu}{Q:Za3->gb->Prop}(hT:nQ s.5 T x y)(h:Q [x,y] s):wpAny (model prog w) A (pb (.ref T)) Q E s:=by
 obtain⟨o,n,e,c,d⟩:=hT;have ty:s.TypeIs (.ref T) "tuple":={_,e,c};unfold pb;refine wpAny_bind (pj ty ?_);rw[if_pos (by decide)];exact wpAny_bind (vf e d (fw h))
end
theorem Zg:∀{as:List fe} {us:Za3},Az (as.map V.ref) us->us=as.map iw
 |[],_,h=>by cases h;rfl
 |a::as,_,h=>by
  cases h with
  |cons h1 h2=>rw[show _=iw a from h1,Zg h2];rfl
theorem uI:∀{ys:List V} (f:Nat->fu),(∀(i:Nat) y,ys[i]?=en y->Be y (f i))->Az ys ((ft ys.9).map f)
 |[],_,_=>.nil
 |y::ys,f,h=>by
  rw[iu,n9,jh,jk];exact .cons (h 0 y rfl) (uI (λi=>f (i+1)) λi z e=>h (i+1) z e)
theorem Yq:bootBuiltins "reversed"=en (.type "reversed"):=by decide +kernel
theorem Ad3 {K:e7}{tc:TT}{Q:VK}(n:Nat)(f1 f2:Nat->V)(Pv:fe->Nat->List V->Hp->Prop)(h0:∀D H,H1 D=p9->Ag H1 H->Pv D 0 [] H)
  (stab:∀D i ys H xs o,H D=en (.lst xs)->Pv D i ys H->Pv D i ys (upd H D o))(hz:∀D i ys H,i<n->Pv D i ys H->ys.9<sizeLine)(psame:∀D i ys H H',Ag H H'->Pv D i ys H->Pv D i ys H')
  (hgo:∀i H,i<n->Ag H1 H->J.go i H)(hy:∀i H v H',i<n->Ag H1 H->J.yld i H v H'->∃a,v=.ref a/\SqT K H' a [f1 i,f2 i]/\Ag H H')(hst:∀H,Ag H1 H->J.stop n H)
  (turn:∀D i ys H (A:VK) (R:Hp->Prop),i<n->Ag H1 H->H1 D=p9->H D=en (.lst ys)->Pv D i ys H->(∀y H',Ag H H'->Pv D (i+1) (ys++[y]) H'->A y H') ->
   tc (en (f1 i)::en (f2 i)::fr) H λb H3=>if b=NG then te (en (f1 i)::en (f2 i)::fr) H3 A else R H3)
  (fin:∀D ys H,H1 D=p9->Ag H1 H->Pv D n ys H->H D=en (.lst ys)->Q (.ref D) H):Hm K J H1 fr tc te Q:=by
 intro D hD;refine{λi m H=>i<=n/\m=n-i/\Ag H1 H/\∃ys,H D=en (.lst ys)/\Pv D i ys H,{n,ij _,rfl,Al hD,[],Ae,h0 D _ hD (Al hD)},?_};rintro i m H ⟨hi,rfl,sm,ys,hl,hp⟩
 by_cases h:i=n
 .subst h
  exact .inl {hst H sm,fin D ys H hD sm hp hl}
 .have hlt:i<n:=j5 hi h
  refine .inr {hgo i H hlt sm,λv H' hyl=>?_};obtain⟨a,rfl,ht,s2⟩:=hy i H v H' hlt sm hyl;refine{a,_,_,rfl,ht,turn D i ys H' _ _ hlt (sm.trans s2) hD (s2 _ _ hl) (psame _ _ _ _ _ s2 hp) (λy H4 s4 hp4=>?_)};refine{ys,s4 _ _ (s2 _ _ hl),hz D i ys _ hlt hp,n-(i+1),(),(),rfl,λb u e=>?_,ys++[y],Ae,stab _ _ _ _ _ _ (s4 _ _ (s2 _ _ hl)) hp4};rw[Aj (An e hD)];exact s4 _ _ (s2 _ _ (sm _ _ e))
theorem iO {K:e7}{a b:fe}{ys:List V}{tc:TT}{Q:VK}(ha:SqL K H1 a xs)(hb:SqL K H1 b ys)(Pv:fe->Nat->List V->Hp->Prop)(h0:∀D H,H1 D=p9->Ag H1 H->Pv D 0 [] H)
  (stab:∀D i zs H us o,H D=en (.lst us)->Pv D i zs H->Pv D i zs (upd H D o))(hz:∀D i zs H,i<min xs.9 ys.9->Pv D i zs H->zs.9<sizeLine)(psame:∀D i zs H H',Ag H H'->Pv D i zs H->Pv D i zs H')
  (turn:∀D (i:Nat) zs x y H (A:VK) (R:Hp->Prop),xs[i]?=en x->ys[i]?=en y->Ag H1 H->H1 D=p9->H D=en (.lst zs)->Pv D i zs H->(∀y H',Ag H H'->Pv D (i+1) (zs++[y]) H'->A y H') ->
   tc (en x::en y::fr) H λb H3=>if b=NG then te (en x::en y::fr) H3 A else R H3)
  (fin:∀D zs H,H1 D=p9->Ag H1 H->Pv D (min xs.9 ys.9) zs H->H D=en (.lst zs)->Q (.ref D) H):Hm K (Itz K a b) H1 fr tc te Q:=by
 refine Ad3 (min xs.9 ys.9) (λi=>xs.getD i .non) (λi=>ys.getD i .non) Pv h0 stab hz psame (λi H hi sm=>{xs,ys,xs[i]'(),ys[i]'(),sm.seq ha,sm.seq hb,by simp,by simp}) (λi H v H' hi sm h=>?_)
  (λH sm=>{xs,ys,sm.seq ha,sm.seq hb,rfl}) (λD i zs H A R hi sm=>turn D i zs _ _ H A R (by simp[show i<xs.9 by lia]) (by simp[show i<ys.9 by lia]) sm) fin
 obtain⟨t,x,y,hn,rfl,h1,h2,rfl⟩:=h;have e1:=h1 xs (sm.seq ha);have e2:=h2 ys (sm.seq hb);refine{t,rfl,?_,Al hn};simp only[l8,e1,e2,rh];exact SqT.of Ae
section
variable {X:Cx}
def yT (ta:TA):TE:=λσ H Q=>ta σ H λvs H1=>∃j k:Nat,vs=[.int 0,.int j,.int k]/\j<=100000/\0<k/\k<=100000/\∀p,H1 p=p9->Q (.ref p) (upd H1 p (.lst ((ft ((j+k-1)/k)).map λt:Nat=>V.int (t*k:Nat))))
theorem rC {a b c:ja}{ta:TA}{p q:Pos}(hcal:X.calm=NG)(hg:Gl X "list")(hm:X.mg "list"=p9)(hg2:Gl X "range")(hm2:X.mg "range"=p9)(ha:PA X [a,b,c] ta)
  (hs:autoParam (starEach [a,b,c] X.env=[(NH,eval a X.env),(NH,eval b X.env),(NH,eval c X.env)]) QD)(hs2:autoParam (starEach [b,c] X.env=[(NH,eval b X.env),(NH,eval c X.env)]) QD)
  (hs3:autoParam (starEach [xz (.Name "range" q) [a,b,c] [] pos2] X.env=[(NH,eval (.Call (.Name "range" q) [a,b,c] [] pos2) X.env)]) QD) :
  PE X (.Call (.Name "list" p) [.Call (.Name "range" q) [a,b,c] [] pos2] [] pos) (yT ta):=by
 k_in;refine wpAny_Call_Name_kw (Dv I hg hm Ng (ir ?_ hs3 rfl) (by decide) (by decide));rw[hs3];refine lv ?_;show wpAny _ _ (eval (xz (.Name "range" q) [a,b,c] [] pos2) X.env) _ _ _;refine wpAny_Call_Name_kw (Dv I hg2 hm2 boot_range (ir (thA ha I h λus s1 vs H1 I1 r1 q1=>?_) (by rw[hs,hs2]) (by rw[hs2];rfl)) (by decide) (by decide));obtain⟨j,k,e,hj,hk,hk2,q⟩:=q1;subst e
 cases r1 with
 |cons r rr=>
  cases rr with
  |cons r' rr=>
   cases rr with
   |cons r'' rr=>
    cases rr;obtain⟨t,rfl⟩:=r;obtain⟨t',rfl⟩:=r';obtain⟨t'',rfl⟩:=r'';refine MV () (nj ?_) (.inl (vi ()));have e2:lq (0:Int) (j:Int) (k:Int)=(((j+k-1)/k:Nat):Int):=by
     unfold lq;rw[if_pos ()]
     by_cases hj0:j=0
     .subst hj0
      rw[if_neg (),vv ()];rfl
     .rw[if_pos (),show((j:Int)-0-1)=((j-1:Nat):Int) by lia,<-su,show j+k-1=j-1+k by lia,FN _ hk]
      rfl
    have hn:(j+k-1)/k<=j:=by
     by_cases hj0:j=0
     .subst hj0
      rw[vv ()];exact fm _
     .rw[show j+k-1=j-1+k by lia,FN _ hk]
      have:=Nat.div_le_self (j-1) k;lia
    generalize (j+k-1)/k=m at *;have hsm:qy (0:Int) (j:Int) (k:Int)=NG:=by
     unfold qy;rw[e2,if_pos ()];simp only[yf,ka,GP,decide_eq_true_eq,beq_iff_eq];refine{{{{?_,?_},?_},?_},.inr ?_}<;>lia
    refine call_list_range (I1.ok.hd hcal) (CJ ..) hsm e2 () λh' tk acc c kp ho it=>?_;have hv:Az ((ft (m)).map λt:Nat=>V.int (t*k:Nat)) acc.7:=N7 (by rw[fb,fv,ie,it.1]) λi x u e1 e3=>by
     have hi:i<m:=by have:=(gg.mp e1).1;simpa using this
     rw[fg,gn hi] at e1;cases e1;have e4:acc[i]?=en u:=by rw[<-j6];exact e3
     obtain⟨t,e5⟩:=it.2 i u e4;exact{t,by rw[e5,show(0:Int)+(i:Int)*(k:Int)=((i*k:Nat):Int) by rw[uo,AK]]}
    have up:∀b o,s1.heap.get? b=en o->h'.get? b=en o:=λb o e=>kp _ _ (fj _ e);have hle:s1.heap.objs.8<=(s1.heap.push { cls:=.type "range",data:=.fields #[.int 0 t,.int j t',.int k t''] }).objs.size:=by rw[qw];lia
    refine{.ref _,_,I1.laid (t':=tk) (o:=.lst _) up hle {?_,acc.7,c,hv,ho},rfl,q _ (I1.hok.fresh hle)};rw[fb,fv];exact gy (qd (show m<=100000 by lia) (by decide))
theorem Aes {σ:St}{Q:VK}{ta:TA}(h:ta σ H λvs H1=>∃j k:Nat,vs=[.int 0,.int j,.int k]/\j<=100000/\0<k/\k<=100000/\∀p,H1 p=p9->Q (.ref p) (upd H1 p (.lst ((ft ((j+k-1)/k)).map λt:Nat=>V.int (t*k:Nat))))):yT ta σ H Q:=h
end
section
variable {X:Cx}
theorem U9 (K:e7)(hc:X.calm=NG)(h:autoParam (X.K=K) QD):Ea X (.builtin "min") (Afa K):=by
 subst h;exact P0 hc
theorem qS (K:e7)(hc:X.calm=NG)(h:autoParam (X.K=K) QD):Ea X (.builtin "max") (Afp K):=by
 subst h;exact vP hc
theorem Af2 (K:e7){T name id:String}{r:V->List V->Hp->VK->Prop}{o e:ja}{es:List ja}{to:TE}{t:TA}{apos:Pos}(pa:HK T)(slot:Slot T name id)(hty:typeOf (.builtin id)=pure (.type "method_descriptor"))(hm:MtR X id r)(ho:PE X o to)(ha:PA X (e::es) t)(h:autoParam (X.K=K) QD)
  (hbase:autoParam (attributeBase o name X.env (eval o X.env)=eval o X.env) QD)
  (hfew:autoParam (((backTo cpos (starEach (e::es) X.env)).all (λx=>!x.1)&&(backToKw cpos (keywordEach [] X.env)).all (λx=>x.1.isSome)
   && decide ((e::es).9+([]:List IF).9+(if([]:List IF).isEmpty then 0 else 1)<30))=NG) QD)
  (hline:autoParam ((apos.endLine==cpos.line)=NG) QD)(hs:autoParam (starEach (e::es) X.env=(NH,eval e X.env)::starEach es X.env) QD)(hplain:autoParam ((backTo cpos (starEach es X.env)).any (·.1)=NH) QD) :
  PE X (.Call (.Attribute o name apos) (e::es) [] cpos) (tBM K T r to t):=by
 subst h;exact Cj pa slot hty hm ho ha hbase hfew hline hs hplain
end
theorem U1 {K:e7}{a:fe}{tc:TT}{Q:VK}(hl:SqL K H1 a xs)(Pv:Nat->List V->Hp->Prop)(h0:∀H,Ag H1 H->Pv 0 [] H)
  (stab:∀i ys H D zs o,H D=en (.lst zs)->Pv i ys H->Pv i ys (upd H D o))(hz:∀i ys H,i<xs.9->Pv i ys H->ys.9<sizeLine)
  (turn:∀(i:Nat) ys x H (A:VK) (R:Hp->Prop),xs[i]?=en x->Ag H1 H->Pv i ys H->(∀y H',Ag H H'->Pv (i+1) (ys++[y]) H'->A y H')->tc (en x::fr) H λb H3=>if b=NG then te (en x::fr) H3 A else R H3)
  (fin:∀D ys H,H1 D=p9->Ag H1 H->Pv xs.9 ys H->H D=en (.lst ys)->Q (.ref D) H):K3 (Itl K a) H1 fr tc te Q:=by
 refine Ab7 xs.9 (λi=>xs.getD i .non) Pv h0 stab hz (λi H hi sm=>{xs,xs[i],sm.seq hl,by simp[hi]}) (λi H x H' hi sm h=>{?_,h.1}) (λH sm=>{xs,sm.seq hl,fm _}) (λi ys H A R hi sm=>turn i ys _ H A R (by simp[hi]) sm) fin;have:=h.2 xs (sm.seq hl);simp[l8,this]
structure Acw (P:gm) (w:iz) (K:e7) (mg:Za2) (base:i8) (x m:Str) (k:Nat) (ps:Za6) (sp:Sp):Prop where
 ex:∃(W f:fe) (fd:jv),Aq P w K mg base CX0 k f fd ps sp/\Dy K fd ps []/\mg x=en (.ref W)/\specialIn K (.ref W) "__getattribute__"=en (en (.builtin "type.__getattribute__")) /\
  readsIn K W (.type "type")=NG/\findCls K (.ref W) (.type "type") m=en (.val (.ref f))/\keepIn K (.ref f)=NG
section
variable {X:Cx} {x m:Str} {k:Nat} {ps:Za6} {sp:Sp} {np apos pos:Pos} {e:ja} {es:List ja} {t:TA} {pl:Sem Bool}
theorem Aez (M:Acw X.prog X.w X.K X.mg X.base x m k ps sp)(hr:B9 k X.A)(hg:Gl X x)(ha:PA X (e::es) t)(hdb:autoParam ((x==("__debug__":Str))=NH) QF)
  (hst:autoParam (starEach (e::es) X.env=(NH,eval e X.env)::starEach es X.env) QD)(hpl:autoParam ((backTo pos (starEach es X.env)).any (·.1)=NH) QD)
  (ht:autoParam (eval (.Call (.Attribute (.Name x np) m apos) (e::es) [] pos) X.env=(do
   let ov <-eval (.Name x np) X.env
   standAt apos.atName
   let (f,first) <-holding [ov] (getMethod ov m pl)
   callWith pos f first (backTo pos (starEach (e::es) X.env)) (backToKw pos (keywordEach [] X.env)))) QD) :
  PE X (.Call (.Attribute (.Name x np) m apos) (e::es) [] pos) (kU sp [] E0 t):=by
 obtain⟨W,f,fd,F,hb,hm,ga,rd,ini,kp⟩:=M.ex;k_in;refine methodCall_KW (Gu I hg hm ?_ hdb) ht;refine method_cls I.kIn ga (cls_value I.kIn rd ini rfl ?_);refine callWith_K (h₀:=X.base) I.ok.mod.kin kp (thn (ha pos pins _ σ H _ (I.tok (s.toks+1)) h) λus s1 ⟨vs,H1,I1,r,q⟩=>{I1.kIn,?_}) hst hpl;exact gV F hr hb .nil kO I1 r q
end
theorem kL {K:e7}{tc:TT}{Q:VK}(n:Nat)(f1 f2:Nat->V)(Pv:fe->Nat->List V->Hp->Prop)(h0:∀D H,H1 D=p9->Ag H1 H->Pv D 0 [] H)
  (stab:∀D i ys H xs o,H D=en (.lst xs)->Pv D i ys H->Pv D i ys (upd H D o))(hz:∀D i ys H,i<n->Pv D i ys H->ys.9<sizeLine)(psame:∀D i ys H H',Ag H H'->Pv D i ys H->Pv D i ys H')
  (hgo:∀i H,i<n->Ag H1 H->J.go i H)(hy:∀i H v H',i<n->Ag H1 H->J.yld i H v H'->∃a,v=.ref a/\SqT K H' a [f1 i,f2 i]/\Ag H H')(hst:∀H,Ag H1 H->J.stop n H)
  (turn:∀D i ys H (A:VK) (R:Hp->Prop),i<n->Ag H1 H->H1 D=p9->H D=en (.lst ys)->Pv D i ys H->(∀H',Ag H H'->Pv D (i+1) ys H'->R H')->(∀y H',Ag H H'->Pv D (i+1) (ys++[y]) H'->A y H') ->
   tc (en (f1 i)::en (f2 i)::fr) H λb H3=>if b=NG then te (en (f1 i)::en (f2 i)::fr) H3 A else R H3)
  (fin:∀D ys H,H1 D=p9->Ag H1 H->Pv D n ys H->H D=en (.lst ys)->Q (.ref D) H):Hm K J H1 fr tc te Q:=by
 intro D hD;refine{λi m H=>i<=n/\m=n-i/\Ag H1 H/\∃ys,H D=en (.lst ys)/\Pv D i ys H,{n,ij _,rfl,Al hD,[],Ae,h0 D _ hD (Al hD)},?_};rintro i m H ⟨hi,rfl,sm,ys,hl,hp⟩
 by_cases h:i=n
 .subst h
  exact .inl {hst H sm,fin D ys H hD sm hp hl}
 .have hlt:i<n:=j5 hi h
  refine .inr {hgo i H hlt sm,λv H' hyl=>?_};obtain⟨a,rfl,ht,s2⟩:=hy i H v H' hlt sm hyl;refine{a,_,_,rfl,ht,turn D i ys H' _ _ hlt (sm.trans s2) hD (s2 _ _ hl) (psame _ _ _ _ _ s2 hp) (λH3 s3 hp3=>?_) (λy H4 s4 hp4=>?_)}
  .exact{n-(i+1),(),(),rfl,(sm.trans s2).trans s3,ys,s3 _ _ (s2 _ _ hl),hp3}
  refine{ys,s4 _ _ (s2 _ _ hl),hz D i ys _ hlt hp,n-(i+1),(),(),rfl,λb u e=>?_,ys++[y],Ae,stab _ _ _ _ _ _ (s4 _ _ (s2 _ _ hl)) hp4};rw[Aj (An e hD)];exact s4 _ _ (s2 _ _ (sm _ _ e))
theorem yH {K:e7}{a:fe}{tc:TT}{Q:VK}(ha:SqL K H1 a xs)(Pv:fe->Nat->List V->Hp->Prop)(h0:∀D H,H1 D=p9->Ag H1 H->Pv D 0 [] H)
  (stab:∀D i zs H us o,H D=en (.lst us)->Pv D i zs H->Pv D i zs (upd H D o))(hz:∀D i zs H,i<xs.9->Pv D i zs H->zs.9<sizeLine)(psame:∀D i zs H H',Ag H H'->Pv D i zs H->Pv D i zs H')
  (turn:∀D (i:Nat) zs x H (A:VK) (R:Hp->Prop),xs[i]?=en x->Ag H1 H->H1 D=p9->H D=en (.lst zs)->Pv D i zs H->(∀H',Ag H H'->Pv D (i+1) zs H'->R H')->(∀y H',Ag H H'->Pv D (i+1) (zs++[y]) H'->A y H') ->
   tc (en (.int i)::en x::fr) H λb H3=>if b=NG then te (en (.int i)::en x::fr) H3 A else R H3)
  (fin:∀D zs H,H1 D=p9->Ag H1 H->Pv D xs.9 zs H->H D=en (.lst zs)->Q (.ref D) H):Hm K (Ite K a) H1 fr tc te Q:=by
 refine kL xs.9 (λi=>.int i) (λi=>xs.getD i .non) Pv h0 stab hz psame (λi H hi sm=>{xs,xs[i]'(),sm.seq ha,by simp}) (λi H v H' hi sm h=>?_)
  (λH sm=>{xs,sm.seq ha,rfl}) (λD i zs H A R hi sm=>turn D i zs _ H A R (by simp[hi]) sm) fin
 obtain⟨t,x,hn,rfl,h1,rfl⟩:=h;have e1:=h1 xs (sm.seq ha);refine{t,rfl,?_,Al hn};simp only[l8,e1,rh];exact SqT.of Ae
theorem pK:typeLookup (.type "zip") "__len__"=pure p9:=by rw[qp,nq];kernel_rfl
theorem mK:typeLookup (.type "zip") "__length_hint__"=pure p9:=by rw[qp,nq];kernel_rfl
def R4 (h:i8)(lo:Nat)(xs ys acc:Array fu):Prop:=(∀(j:Nat) v,acc[j]?=en v->∃T x y,v=iw T/\lo<=T/\xs[j]?=en x/\ys[j]?=en y/\ol h T x y)/\∀(j k:Nat) v,acc[j]?=en v->acc[k]?=en v->j=k
theorem R4.keep {h:i8}{lo:Nat}{xs ys acc:Array fu}(p:R4 h lo xs ys acc)(k:∀b o,lo<=b->h.get? b=en o->h'.get? b=en o):R4 h' lo xs ys acc:=⟨λj v e=>by
 obtain⟨T,x,y,e1,e2,e3,e4,e5⟩:=p.1 j v e;exact{T,x,y,e1,e2,e3,e4,k _ _ e2 e5},p.2⟩
theorem R4.push {h:i8}{lo T:Nat}{x y:fu}{xs ys acc:Array fu}(p:R4 h lo xs ys acc)(hn:∀j:Nat,acc[j]?≠en (.ref T))(hT:lo<=T)(hx:xs[acc.8]?=en x)(hy:ys[acc.8]?=en y)(hp:ol h T x y):R4 h lo xs ys (acc.push (.ref T)):=by
 refine{λj v e=>?_,λj k v e1 e2=>?_}
 .rw[EA] at e
  by_cases hj:j=acc.8
  .rw[if_pos hj] at e
   cases e;rw[hj];exact⟨T,x,y,rfl,hT,hx,hy,hp⟩
  .rw[if_neg hj] at e
   exact p.1 j v e
 .rw[EA] at e1 e2
  by_cases hj:j=acc.8
  .by_cases hk:k=acc.8
   .rw[hj,hk]
   .rw[if_pos hj] at e1
    rw[if_neg hk] at e2;cases e1;exact absurd e2 (hn k)
  .by_cases hk:k=acc.8
   .rw[if_neg hj] at e1
    rw[if_pos hk] at e2;cases e2;exact absurd e1 (hn j)
   .rw[if_neg hj] at e1
    rw[if_neg hk] at e2;exact p.2 j k v e1 e2
theorem R4.below {h:i8}{lo:Nat}{xs ys acc:Array fu}(p:R4 h lo xs ys acc)(j:Nat):acc[j]?≠en (.ref h.objs.8):=λe=>by
 obtain⟨T,x,y,e1,_,_,_,e5⟩:=p.1 j _ e;cases e1;exact m5 _ (gi e5)
section
variable {prog:gm} {w:iz} {A:jd} {E:Za0} {R:wm->gb->Prop}
abbrev Aaj (acc:Array fu)(c:Nat):Obj:={ cls:=.type "list",dict:=p9,data:=.seq acc c,slots:=#[] }
theorem Ah7 {S z TI TO T lo:fe}{xs ys:Array fu}(D:DzA S z TI TO i1 i2 l1 l2)(hTz:T≠z)(hT1:T≠i1)(hT2:T≠i2)(hTS:T≠S)(hlo:z<lo/\i1<lo/\i2<lo/\S<lo)(hh:A.handled=p9)(he:xs.8=ys.8)(hsz:xs.8<=sizeLine) :
  ∀(m i:Nat) (s:gb) (c:Bool) (acc:Array fu) (n:Nat) (oT:Obj),xs.8-i=m->i<=xs.8->Nc s.5 z TI TO T c->s.heap.get? T=en oT->ol s.5 TI (.ref i1) (.ref i2) ->
   s.heap.IsListIter i1 l1 i->s.heap.IsListIter i2 l2 i->s.heap.IsList l1 xs->s.heap.IsList l2 ys->s.heap.get? S=en (Aaj acc n)->acc.8=i->R4 s.5 lo xs ys acc->lo<=s.heap.objs.8 ->
   (∀h' acc' n',h'.get? S=en (Aaj acc' n')->acc'.8=xs.8->R4 h' lo xs ys acc'->(∀b o,b≠z->b≠i1->b≠i2->b≠S->s.heap.get? b=en o->h'.get? b=en o)->R (.ok (.ret .none)) { s with heap:=h' }) ->
   codeAny (model prog w) A (.builtin "list.extend.loop" {[.ref S,.ref z,.none],[]}) R s:=by
 have far:∀b,lo<=b->b≠z/\b≠i1/\b≠i2/\b≠S:=λb hb=>{j8 (gh hlo.1 hb),j8 (gh hlo.2.1 hb),j8 (gh hlo.2.2.1 hb),j8 (gh hlo.2.2.2 hb)};intro m
 induction m with
 |zero=>
  intro i s c acc n oT hm hi hz hT hTI h1 h2 hl1 hl2 hS hac hp hls q;refine ly ui ?_;rw[ke l9 _];show wpAny _ A.in1 (pyNext (.ref z) >>= _) _ _ s;refine wpAny_bind (kE (by exact hh) D.za hz hT hTI h1 hl1 (l6 ()) λh' kp=>?_);refine fw ?_;exact q h' acc n (kp _ _ D.dz D.d1 D.d2 hS) () (hp.keep λb o hb e=>kp b o (far b hb).1 (far b hb).2.1 (far b hb).2.2.1 e) λb o b1 b2 b3 _ e=>kp b o b1 b2 b3 e
 |succ m ih=>
  intro i s c acc n oT hm hi hz hT hTI h1 h2 hl1 hl2 hS hac hp hls q;obtain⟨x,hx⟩:∃x,xs[i]?=en x:={_,jw (show i<xs.8 by lia)};obtain⟨y,hy⟩:∃y,ys[i]?=en y:={_,jw (show i<ys.8 by lia)};refine ly ui ?_;rw[ke l9 _];show wpAny _ A.in1 (pyNext (.ref z) >>= _) _ _ s;refine wpAny_bind (Zo D.za hz hT hTI h1 h2 hl1 hl2 hx hy λh' hz' h1' h2' hpr hsz' kp=>?_);have hS':=kp _ _ D.dz D.d1 D.d2 hS;show wpAny _ A.in1 (updateSeq S (·.push (.ref s.heap.objs.8)) >>= _) _ _ _;refine wpAny_bind ?_;have oth:∀b o,b≠S->h'.get? b=en o->(h'.update S (jn (·.push (.ref s.heap.objs.8)))).get? b=en o:=λb o hb e=>(jr _ _ (n5 hb)).trans e;have k2:∀b o,b≠z->b≠i1->b≠i2->b≠S->s.heap.get? b=en o->(h'.update S (jn (·.push (.ref s.heap.objs.8)))).get? b=en o:=λb o b1 b2 b3 b4 e=>oth b o b4 (kp b o b1 b2 b3 e);refine uu hS' rfl (fw {n4 l9 _,?_}) (by rw[hac];lia) (by show(acc.push _).8<=sizeLine+1;rw[we,hac];lia);refine ih (i+1) _ NG (acc.push (.ref s.heap.objs.8)) _ oT () () (oth _ _ D.dz.symm hz') (k2 _ _ hTz hT1 hT2 hTS hT) (k2 _ _ D.za.TIz D.za.TIi1 D.za.TIi2 D.dI.symm hTI) (h1'.at λo e=>oth _ o D.d1.symm e) (h2'.at λo e=>oth _ o D.d2.symm e)
   (hl1.at λo e=>k2 _ o D.za.l1z D.za.l1i1 D.za.l1i2 D.dl.symm e) (hl2.at λo e=>k2 _ o D.za.l2z D.za.l2i1 D.za.l2i2 D.dm.symm e) (ku _ hS' rfl) (by rw[we,hac]) ?_ (by rw[o7,hsz'];exact zl hls) λh3 acc' n' hS3 hac3 hp3 kp3=>?_
  .have far1:=far _ hls
   refine((hp.keep λb o hb e=>kp b o (far b hb).1 (far b hb).2.1 (far b hb).2.2.1 e).push hp.below hls (by rw[hac];exact hx) (by rw[hac];exact hy) hpr).keep λb o hb e=>oth b o (far b hb).2.2.2 e
  .exact q h3 acc' n' hS3 hac3 hp3 λb o b1 b2 b3 b4 e=>kp3 b o b1 b2 b3 b4 (k2 b o b1 b2 b3 b4 e)
theorem wX {S z TI TO lo:fe}{a b:fu}{xs ys:Array fu}{n:Nat}(D:DzA S z TI TO i1 i2 l1 l2)(hlo:z<lo/\i1<lo/\i2<lo/\S<lo/\TO<lo)(hh:A.handled=p9)(he:xs.8=ys.8)(hsz:xs.8<=sizeLine)
  (hz:IG s.5 z TI TO .none)(hTO:ol s.5 TO a b)(hTI:ol s.5 TI (.ref i1) (.ref i2))(h1:s.heap.IsListIter i1 l1 0)(h2:s.heap.IsListIter i2 l2 0)(hl1:s.heap.IsList l1 xs)(hl2:s.heap.IsList l2 ys)(hS:s.heap.get? S=en (Aaj #[] n))(hls:lo<=s.heap.objs.8)
  (q:∀h' acc' n',h'.get? S=en (Aaj acc' n')->acc'.8=xs.8->R4 h' lo xs ys acc'->(∀b o,b≠z->b≠TO->b≠i1->b≠i2->b≠S->s.heap.get? b=en o->h'.get? b=en o)->R (.ok (.ret .none)) { s with heap:=h' }) :
  codeAny (model prog w) A (.builtin "list.extend.loop" {[.ref S,.ref z,.none],[]}) R s:=by
 have far:∀b,lo<=b->b≠z/\b≠i1/\b≠i2/\b≠S/\b≠TO:=λb hb=>{j8 (gh hlo.1 hb),j8 (gh hlo.2.1 hb),j8 (gh hlo.2.2.1 hb),j8 (gh hlo.2.2.2.1 hb),j8 (gh hlo.2.2.2.2 hb)};refine ly ui ?_;rw[ke l9 _];show wpAny _ A.in1 (pyNext (.ref z) >>= _) _ _ s;rcases qg xs.8 with h0|h0
 .refine wpAny_bind (GE (by exact hh) D.za hz hTI hTO h1 h2 hl1 hl2 (.inl (l6 ())) λh' kp=>?_)
  refine fw ?_;exact q h' #[] n (kp _ _ D.dz D.dO D.d1 D.d2 hS) (by rw[h0];rfl) {λj v e=>by simp at e,λj k v e=>by simp at e} λb o b1 b2 b3 b4 _ e=>kp b o b1 b2 b3 b4 e
 .obtain⟨x,hx⟩:∃x,xs[0]?=en x:={_,jw h0}
  obtain⟨y,hy⟩:∃y,ys[0]?=en y:={_,jw (show 0<ys.8 by lia)};refine wpAny_bind (FF D.za hz hTI hTO h1 h2 hl1 hl2 hx hy λh' hz' _ h1' h2' hpr hsz' kp=>?_);have hS':=kp _ _ D.dz D.dO D.d1 D.d2 hS;have lt:∀{c o},s.heap.get? c=en o->s.heap.objs.8≠c:=λe=>j8 (gi e);show wpAny _ A.in1 (updateSeq S (·.push (.ref s.heap.objs.8)) >>= _) _ _ _;refine wpAny_bind ?_;have oth:∀b o,b≠S->h'.get? b=en o->(h'.update S (jn (·.push (.ref s.heap.objs.8)))).get? b=en o:=λb o hb e=>(jr _ _ (n5 hb)).trans e;have k2:∀b o,b≠z->b≠TO->b≠i1->b≠i2->b≠S->s.heap.get? b=en o->(h'.update S (jn (·.push (.ref s.heap.objs.8)))).get? b=en o:=λb o b1 b2 b3 b5 b4 e=>oth b o b4 (kp b o b1 b2 b3 b5 e);refine uu hS' rfl (fw {n4 l9 _,?_}) (by show(#[]:Array fu).8<=_;exact ij _) (by show((#[]:Array fu).push _).8<=sizeLine+1;rw[we];exact z7 (ij _));refine Ah7 (T:=s.heap.objs.8) D (lt hz) (by obtain⟨_,e,_⟩:=h1;exact lt e) (by obtain⟨_,e,_⟩:=h2;exact lt e) (lt hS) ⟨hlo.1,hlo.2.1,hlo.2.2.1,hlo.2.2.2.1⟩ hh he hsz _ 1 _ NH ((#[]:Array fu).push (.ref s.heap.objs.8)) _ _ rfl h0 (oth _ _ D.dz.symm hz') (oth _ _ (lt hS) hpr) (k2 _ _ D.za.TIz D.za.TITO D.za.TIi1 D.za.TIi2 D.dI.symm hTI) (h1'.at λo e=>oth _ o D.d1.symm e) (h2'.at λo e=>oth _ o D.d2.symm e)
   (hl1.at λo e=>k2 _ o D.za.l1z D.za.l1TO D.za.l1i1 D.za.l1i2 D.dl.symm e) (hl2.at λo e=>k2 _ o D.za.l2z D.za.l2TO D.za.l2i1 D.za.l2i2 D.dm.symm e) (ku _ hS' rfl) rfl ?_ (by rw[o7,hsz'];exact zl hls) λh3 acc' n' hS3 hac3 hp3 kp3=>?_
  .refine(R4.push (acc:=#[]) {λj v e=>by simp at e,λj k v e=>by simp at e} (λj e=>by simp at e) hls hx hy hpr).keep λb o hb e=>oth b o (far b hb).2.2.2.1 e
  .exact q h3 acc' n' hS3 hac3 hp3 λb o b1 b2 b3 b5 b4 e=>kp3 b o b1 b3 b5 b4 (k2 b o b1 b2 b3 b5 b4 e)
theorem X2 {z TI TO:fe}{a b:fu}{xs ys:Array fu}{Q:Za0}(D:y0 z TI TO i1 i2 l1 l2)(hh:A.handled=p9)(he:xs.8=ys.8)(hsz:xs.8<=sizeLine)
  (hz:IG s.5 z TI TO .none)(hTO:ol s.5 TO a b)(hTI:ol s.5 TI (.ref i1) (.ref i2))(h1:s.heap.IsListIter i1 l1 0)(h2:s.heap.IsListIter i2 l2 0)(hl1:s.heap.IsList l1 xs)(hl2:s.heap.IsList l2 ys)
  (q:∀h' acc' n',h'.get? s.heap.objs.8=en (Aaj acc' n')->acc'.8=xs.8->R4 h' (s.heap.objs.8+1) xs ys acc'->(∀b o,b≠z->b≠TO->b≠i1->b≠i2->s.heap.get? b=en o->h'.get? b=en o)->Q (.ref s.heap.objs.8) { s with heap:=h' }) :
  wpAny (model prog w) A (call (.type "list") [.ref z]) Q E s:=by
 refine DF (Q₁:=λobj QN=>obj=.ref s.heap.objs.8/\QN={ s with heap:=s.heap.push { cls:=.type "list",data:=.seq #[] } }) PySem.F.called_list (PySem.F.typeCall_list_1 _) PySem.F.entry_list_init (code_list_new _ ⟨rfl,rfl⟩) ?_;rintro obj QN ⟨rfl,rfl⟩;have hS:(s.heap.push { cls:=.type "list",data:=.seq #[] }).get? s.heap.objs.8=en { cls:=.type "list",data:=.seq #[] }:=gu _ rfl;have up:∀b o,s.heap.get? b=en o->(s.heap.push { cls:=.type "list",data:=.seq #[] }).get? b=en o:=λb o e=>fj _ e;have lt:∀{c o},s.heap.get? c=en o->s.heap.objs.8≠c:=λe=>j8 (gi e);refine{{_,hS,rfl},PySem.F.args_list_init_2 _ _,?_};show wpAny _ _ (do let old <-zt (.ref s.heap.objs.8);KW (.ref s.heap.objs.8) (λ_=>#[]);letGo old.toList.reverse;n6 (.ref s.heap.objs.8) (.ref z) .none) _ _ _;refine wpAny_bind ?_;unfold zt;refine wpAny_bind (vf hS rfl (fw ?_));show wpAny _ _ (updateSeq s.heap.objs.8 (λ_=>#[]) >>= λ_=>letGo (#[]:Array fu).toList.reverse >>= λ_=>n6 (.ref s.heap.objs.8) (.ref z) .none) _ _ _;refine wpAny_bind (uu hS rfl ?_);have XN:=ku (jn (λ_=>(#[]:Array fu))) hS rfl;have oth:∀b o,s.heap.get? b=en o->((s.heap.push { cls:=.type "list",data:=.seq #[] }).update s.heap.objs.8 (jn (λ_=>(#[]:Array fu)))).get? b=en o:=
  λb o e=>(jr _ _ (lt e)).trans (up b o e)
 refine wpAny_bind (wpAny_letGo ?_);unfold n6;have hzT:=oth _ _ hz;refine wpAny_bind (pj (T:="zip") {_,hzT,rfl} ?_);have g1:zd (.ref s.heap.objs.8) (.ref z)=NH:=by simp[zd,lt hz]
 have g2:(kr "zip"==kr "list")=NH:=by decide
 have g3:(kr "zip"==kr "tuple")=NH:=by decide
 simp only[g1,g2,g3,BW,oh,if_false];refine wpAny_bind (xg hzT ?_);refine wpAny_bind (wpAny_holding ?_);unfold KZ;refine wpAny_bind (JN (T:="zip") {_,hzT,rfl} pK ?_);show wpAny _ _ (specialOf (iw z) (mq "__length_hint__") >>= _) _ _ _;refine wpAny_bind (JN (T:="zip") {_,hzT,rfl} mK ?_);refine fw ?_;show wpAny _ _ (rule "list.extend.makes-room" >>= λ_=>KY (.ref s.heap.objs.8) >>= λ_=>
  again (.builtin "list.extend.loop" {[.ref s.heap.objs.8,.ref z,.none],[]})) _ _ _
 refine wpAny_bind (xw ?_);refine wpAny_bind ?_;show wpAny _ _ (updateSeq s.heap.objs.8 (·.push .none) >>= λ_=>updateSeq s.heap.objs.8 (·.pop)) _ _ _;refine wpAny_bind (uu XN rfl ?_);have XO:=ku (jn (·.push mr)) XN rfl;refine uu (hz:=by seq_fits) XO rfl ?_;have XW:=ku (jn (·.pop)) XO rfl;have up2:∀b o,s.heap.get? b=en o->((((s.heap.push { cls:=.type "list",data:=.seq #[] }).update s.heap.objs.8 (jn (λ_=>(#[]:Array fu)))).update s.heap.objs.8 (jn (·.push mr))).update s.heap.objs.8 (jn (·.pop))).get? b=en o:=
  λb o e=>(jr _ _ (lt e)).trans ((jr _ _ (lt e)).trans (oth b o e))
 have ltS:∀{c o},s.heap.get? c=en o->c<s.heap.objs.8+1:=λe=>FL (gi e);refine fw {n4 l9 _,?_};refine wX (a:=a) (b:=b) (lo:=s.heap.objs.8+1) (xs:=xs) (ys:=ys) {D,lt hz,lt hTI,lt hTO,?_,?_,?_,?_} {ltS hz,?_,?_,o9 _,ltS hTO} (by exact hh) he hsz (up2 _ _ hz) (up2 _ _ hTO) (up2 _ _ hTI) (h1.at λo e=>up2 _ o e) (h2.at λo e=>up2 _ o e) (hl1.at λo e=>up2 _ o e) (hl2.at λo e=>up2 _ o e) XW ?_ λh3 acc' n' hS3 hac3 hp3 kp3=>?_
 .obtain⟨_,e,_⟩:=h1;exact lt e
 .obtain⟨_,e,_⟩:=h2;exact lt e
 .obtain⟨_,e,_⟩:=hl1;exact lt e
 .obtain⟨_,e,_⟩:=hl2;exact lt e
 .obtain⟨_,e,_⟩:=h1;exact ltS e
 .obtain⟨_,e,_⟩:=h2;exact ltS e
 .rw[o7,o7,o7,qw]
  exact fm _
 .exact{rfl,q h3 acc' n' hS3 hac3 hp3 λb o b1 b2 b3 b4 e=>kp3 b o b1 b2 b3 b4 (lt e).symm (up2 _ _ e)}
end
def Sj (N H:Hp):Hp:=λb=>match N b with|some o=>en o|none=>H b
theorem Rb {N:Hp}{b:fe}{o:HO}(h:N b=en o):Sj N H b=en o:=by unfold Sj;rw[h]
theorem R7 {N:Hp}{b:fe}(h:N b=p9):Sj N H b=H b:=by unfold Sj;rw[h]
theorem U2 {N H:Hp}(h:∀b o,N b=en o->H b=p9):Ag H (Sj N H):=λb o e=>by
 cases hN:N b with
 |none=>rw[R7 hN];exact e
 |some u=>rw[h b u hN] at e;cases e
theorem Inv.laidN {σ:St}{N:Hp}(I:Inv X pins σ H s)(k:∀b u,s.heap.get? b=en u->h'.get? b=en u)(hp:∀b o,N b=en o->s.heap.objs.8<=b)
  (new:∀b o,N b=en o->B3 X.prog X.w (Sj N H) h' b o):Inv X pins σ (Sj N H) { s with heap:=h',toks:=t' }:=by
 have hn:∀b o,N b=en o->H b=p9:=λb o e=>I.hok.fresh (hp b o e);have sm:=U2 hn;have old:∀b u,s.heap.get? b=en u->N b=p9:=λb u e=>by
  cases hN:N b with
  |none=>rfl
  |some o=>exact absurd (gi e) (rz.mpr (hp b o hN))
 refine I.un {λb u q _ _ _=>k b u q,λb u q _ _ _=>{u.slots,k b u q},λb u q n _=>by rw[R7 (old b u q)];exact n,λb u q _=>{u,k b u q},λb xs q=>sm _ _ q,λb u xs q=>sm _ _ q,λb ps q=>{#[],by rw[sm _ _ q];simp}} λb o e=>?_
 cases hN:N b with
 |some u=>
  rw[Rb hN] at e;cases e;exact new b _ hN
 |none=>
  rw[R7 hN] at e;exact(I.hok b o e).stay (λc v _ q=>k c v q) (λc q=>sm _ _ q) λc xs q=>sm _ _ q
def Akp:fu->fe
 |.ref a=>a
 |_=>0
def Aga (H1 H':Hp)(as:List fe)(xs ys:List V):Prop:=as.9=xs.9/\∀(i:Nat) t x y,as[i]?=en t->xs[i]?=en x->ys[i]?=en y->H1 t=p9/\H' t=en (.tup [x,y])
def nS:List fe->List V->List V->Hp
 |t::as,x::xs,y::ys=>λb=>if b=t then en (.tup [x,y]) else nS as xs ys b
 |_,_,_=>λ_=>p9
theorem tW:∀{as:List fe} {xs ys:List V},(∀(j k:Nat) t,as[j]?=en t->as[k]?=en t->j=k)->∀(i:Nat) t x y,as[i]?=en t->xs[i]?=en x->ys[i]?=en y->nS as xs ys t=en (.tup [x,y])
 |[],_,_,_,_,_,_,_,e,_,_=>by cases e
 |_::_,[],_,_,_,_,_,_,_,e,_=>by cases e
 |_::_,_::_,[],_,_,_,_,_,_,_,e=>by cases e
 |t::as,x::xs,y::ys,inj,i,t',x',y',e1,e2,e3=>by
  show(if t'=t then en (HO.tup [x,y]) else nS as xs ys t')=_
  cases i with
  |zero=>
   cases e1;cases e2;cases e3;rw[if_pos rfl]
  |succ i=>
   have hne:t'≠t:=λh=>by
    have:=inj (i+1) 0 t' e1 (by rw[h];rfl);cases this
   rw[if_neg hne];exact tW (λj k u h1 h2=>by have:=inj (j+1) (k+1) u h1 h2;lia) i t' x' y' e1 e2 e3
theorem gA:∀{as:List fe} {xs ys:List V} {b:fe} {o:HO},nS as xs ys b=en o->∃(i:Nat) (x y:V),as[i]?=en b/\xs[i]?=en x/\ys[i]?=en y/\o=.tup [x,y]
 |[],_,_,_,_,e=>by cases e
 |_::_,[],_,_,_,e=>by cases e
 |_::_,_::_,[],_,_,e=>by cases e
 |t::as,x::xs,y::ys,b,o,e=>by
  have e:(if b=t then en (HO.tup [x,y]) else nS as xs ys b)=en o:=e
  by_cases h:b=t
  .rw[if_pos h] at e
   cases e;exact{0,x,y,by rw[h];rfl,rfl,rfl,rfl}
  .rw[if_neg h] at e
   obtain⟨i,x',y',a1,a2,a3,a4⟩:=gA e;exact{i+1,x',y',a1,a2,a3,a4}
section
variable {X:Cx}
def Aft (K:e7)(ta:TA):TE:=λσ H Q=>ta σ H λvs H1=>∃a b xs ys,vs=[.ref a,.ref b]/\SqL K H1 a xs/\SqL K H1 b ys/\xs.9=ys.9/\∀p as H',Ag H1 H'->H1 p=p9->H' p=en (.lst (as.map V.ref))->Aga H1 H' as xs ys->Q (.ref p) H'
theorem Aem {a b:ja}{ta:TA}{p q:Pos}(hcal:X.calm=NG)(hg:Gl X "list")(hm:X.mg "list"=p9)(hg2:Gl X "zip")(hm2:X.mg "zip"=p9)(ha:PA X [a,b] ta)
  (hs:autoParam (starEach [a,b] X.env=[(NH,eval a X.env),(NH,eval b X.env)]) QD)(hs2:autoParam (starEach [b] X.env=[(NH,eval b X.env)]) QD)
  (hs3:autoParam (starEach [xz (.Name "zip" q) [a,b] [] pos2] X.env=[(NH,eval (.Call (.Name "zip" q) [a,b] [] pos2) X.env)]) QD) :
  PE X (.Call (.Name "list" p) [.Call (.Name "zip" q) [a,b] [] pos2] [] pos) (Aft X.K ta):=by
 k_in;refine wpAny_Call_Name_kw (Dv I hg hm Ng (ir ?_ hs3 rfl) (by decide) (by decide));rw[hs3];refine lv ?_;show wpAny _ _ (eval (xz (.Name "zip" q) [a,b] [] pos2) X.env) _ _ _;refine wpAny_Call_Name_kw (Dv I hg2 hm2 zD (ir (thA ha I h λus s1 vs H1 I1 r1 q1=>?_) (by rw[hs,hs2]) (by rw[hs2];rfl)) (by decide) (by decide));obtain⟨a,b,xs,ys,e,hx,hy,hl,q⟩:=q1;subst e;obtain⟨u,v,rfl,ru,rv⟩:=Kz r1;cases ru;cases rv;obtain⟨its,rv,p,hz⟩:=I1.list hx;obtain⟨its2,rv2,p2,hz2⟩:=I1.list hy;have l1:=rv.9;have l2:=rv2.9;refine HG p.isList p2.isList λh' g1 g2 g3 g4 g5 hsz kk=>?_;refine nj ?_;have A1:h'.IsList a its.6:=p.isList.at λo e=>kk _ o e;have A2:h'.IsList b its2.6:=p2.isList.at λo e=>kk _ o e;have D:=gK (No _) ({g1,g2,{_,_,g3},g4,g5}:StZ _ _ _ _ _ a b 0 h') A1 A2;refine X2 (s:={ s1 with heap:=h' }) D (I1.ok.hd hcal) (by simp;lia) (by simp;lia) g1 g3 g2 g4 g5 A1 A2 λh2 acc n hS hac hp kp=>?_;have hle:s1.heap.objs.8<=h'.objs.8:=()
 have hac:acc.8=xs.9:=by rw[hac];simp;lia
 have kp1:∀b o,s1.heap.get? b=en o->h2.get? b=en o:=λb o e=>by
  have lt:=gi e;have ne:∀c,s1.heap.objs.8<=c->b≠c:=λc hc z=>m5 _ (gh lt (z▸hc));exact kp b o (ne _ (ml _ _)) (ne _ (ml _ _)) (ne _ (fm _)) (ne _ (ml _ _)) (kk _ _ e)
 obtain⟨as,has⟩:∃as,as=acc.toList.map Akp:={_,rfl};have hasl:as.9=xs.9:=by rw[has,fb,ie,hac]
 have hat:∀(i:Nat) t,as[i]?=en t->∃x y,acc[i]?=en (iw t)/\h'.objs.8+1<=t/\its[i]?=en x/\its2[i]?=en y/\ol h2 t x y:=λi t e=>by
  rw[has,fg] at e
  cases hv:acc.7[i]? with
  |none=>rw[hv] at e;cases e
  |some v=>
   rw[hv] at e;have hv2:acc[i]?=en v:=by rw[<-j6];exact hv
   obtain⟨T,x,y,e1,e2,e3,e4,e5⟩:=hp.1 i v hv2;subst e1;obtain rfl:T=t:=fk e;exact{x,y,hv2,e2,by simpa using e3,by simpa using e4,e5}
 have inj:∀(j k:Nat) t,as[j]?=en t->as[k]?=en t->j=k:=λj k t h1 h2=>by
  obtain⟨_,_,a1,_⟩:=hat j t h1;obtain⟨_,_,a2,_⟩:=hat k t h2;exact hp.2 j k _ a1 a2
 let N:Hp:=λb=>if b=h'.objs.8 then en (.lst (as.map V.ref)) else nS as xs ys b
 have hN0:N h'.objs.8=en (.lst (as.map V.ref)):=if_pos rfl;have hNt:∀(i:Nat) t x y,as[i]?=en t->xs[i]?=en x->ys[i]?=en y->N t=en (.tup [x,y]):=λi t x y e1 e2 e3=>by
  obtain⟨_,_,_,hlt,_⟩:=hat i t e1;show(if t=h'.objs.8 then _ else _)=_;rw[if_neg (j8 hlt)];exact tW inj i t x y e1 e2 e3
 have hNp:∀b o,N b=en o->s1.heap.objs.8<=b:=λb o e=>by
  have e:(if b=h'.objs.8 then en (HO.lst (as.map V.ref)) else nS as xs ys b)=en o:=e
  by_cases hb:b=h'.objs.8
  .rw[hb];exact hle
  .rw[if_neg hb] at e
   obtain⟨i,x,y,e1,_⟩:=gA e;obtain⟨_,_,_,hlt,_⟩:=hat i b e1;exact iy hle (Nat.le_of_succ_le hlt)
 have hNn:∀b o,N b=en o->H1 b=p9:=λb o e=>I1.hok.fresh (hNp b o e);have I2:Inv X pins σ (Sj N H1) { s1 with heap:=h2 }:=by
  refine I1.laidN (t':=s1.toks) kp1 hNp λb o e=>?_;have e:(if b=h'.objs.8 then en (HO.lst (as.map V.ref)) else nS as xs ys b)=en o:=e
  by_cases hb:b=h'.objs.8
  .rw[if_pos hb] at e
   cases e;subst hb;refine{by rw[fb];lia,acc.7,n,?_,hS};refine N7 (by rw[fb,hasl,<-hac];exact(ie (xs:=acc)).symm) λi v u e1 e2=>?_;rw[fg] at e1
   cases ht:as[i]? with
   |none=>rw[ht] at e1;cases e1
   |some t=>
    rw[ht] at e1;cases e1;obtain⟨_,_,a1,_⟩:=hat i t ht;rw[<-j6,e2] at a1;exact fk a1
  .rw[if_neg hb] at e
   obtain⟨i,x,y,e1,e2,e3,rfl⟩:=gA e;obtain⟨u,v,_,_,e4,e5,e6⟩:=hat i b e1;obtain⟨u',hu,ru⟩:=rv.get e2;obtain⟨v',hv,rv'⟩:=rv2.get e3;rw[e4] at hu;rw[e5] at hv;cases hu;cases hv;exact{gy (qd (show 2<=2 from fm 2) (by decide)),[u,v],.cons ru (.cons rv' .nil),_,e6,rfl,_,rfl}
 refine{.ref h'.objs.8,_,I2,rfl,q _ as _ (U2 hNn) (hNn _ _ hN0) (Rb hN0) {hasl,λi t x y e1 e2 e3=>{hNn _ _ (hNt i t x y e1 e2 e3),Rb (hNt i t x y e1 e2 e3)}}}
theorem Ag7 {σ:St}{Q:VK}{ta:TA}{K:e7}(h:ta σ H λvs H1=>∃a b xs ys,vs=[.ref a,.ref b]/\SqL K H1 a xs/\SqL K H1 b ys/\xs.9=ys.9/\∀p as H',Ag H1 H'->H1 p=p9->H' p=en (.lst (as.map V.ref))->Aga H1 H' as xs ys->Q (.ref p) H'):Aft K ta σ H Q:=h
end
def Ac5 (K:e7)(a:fe)(n:Nat):It:=
 {λi H=>∃xs x,SqL K H a xs/\i<n/\xs[n-1-i]?=en x,λi H x H'=>H'=H/\∀xs,SqL K H a xs->xs[n-1-i]?=en x,λi _=>i=n}
theorem rE {P:gm}{K:e7}(a it:fe)(n:Nat):Su P w K tg (Ac5 K a n) [it] it (λi h=>h.IsRevIter it a ((n:Int)-1-(i:Int))) where
 mem:=by simp
 obj:=λi h st b hb=>by
  have e:b=it:=by simpa using hb
  subst e;obtain⟨o,e,c,d⟩:=st;exact{o,e,λv z=>by rw[d] at z;cases z}
 keep:=λi h h' st k=>st.at λo e=>k it (by simp) o e
 item:=by
  intro X hP hw hK hc i pins s σ H E I hf st hg;subst hP hw hK;obtain⟨xs,x,hq,hi,hx⟩:=hg;obtain⟨its,rv,p,hz⟩:=I.list hq;obtain⟨u,hu,ru⟩:=rv.get hx;obtain⟨f0,f1,f2,f3,f4,f5⟩:=hf it (by simp);have e:(n:Int)-1-(i:Int)=((n-1-i:Nat):Int):=()
  have st1:=st;rw[e] at st1;refine wpAny_pyNext_rev_item st1 p.isList (x:=u) (by simpa using hu) λh' st' sb=>?_;have e2:((n-1-i:Nat):Int)-1=(n:Int)-1-((i+1:Nat):Int):=()
  rw[e2] at st';have I1:Inv X pins σ H { s with heap:=h' }:=I.turned (t':=s.toks) (λb o hb e=>(sb.2 b hb).trans e) f0 f1 f3 f4 f5;obtain⟨o,e,c,d⟩:=id st';exact⟨u,rfl,Yz (s:={ s with heap:=h' }) e c d (by decide) ⟨x,H,I1,ru,⟨rfl,λys hy=>by rw[I.list_inj hy hq];exact hx⟩,st',λb hb=>(hf b hb).1⟩⟩
 done:=by
  intro X hP hw hK hc i pins s σ H E I hf st hg;subst hP hw hK;have hg:i=n:=hg;subst hg;obtain⟨f0,f1,f2,f3,f4,f5⟩:=hf it (by simp);have e:(i:Int)-1-(i:Int)=-1:=()
  rw[e] at st;exact wpAny_pyNext_rev_end (I.ok.hd hc) st λh' eb=>{rfl,I.turned (t':=s.toks) (λb o hb e=>eb b o hb e) f0 f1 f3 f4 f5}
 self:=λ_ _ _ _ _ st h=>GF st h
section
variable {X:Cx} {tg:ja}
def Afr (K:e7)(tl:TE):TI:=λσ H R=>tl σ H λx H1=>∃a xs,x=.ref a/\SqL K H1 a xs/\R (Ac5 K a xs.9) H1
theorem Aia {K:e7}{tl:TE}{σ:St}{R:It->Hp->Prop}(h:tl σ H λx H1=>∃a xs,x=.ref a/\SqL K H1 a xs/\R (Ac5 K a xs.9) H1):Afr K tl σ H R:=h
theorem Adv {l:ja}{tl:TE}{p:Pos}(hg:Gl X "reversed")(hm:X.mg "reversed"=p9)(hl:PE X l tl)(hs3:autoParam (starEach [l] X.env=[(NH,eval l X.env)]) QD):PI X tg (.Call (.Name "reversed" p) [l] [] pos) (Afr X.K tl):=by
 intro pins s σ H R I h;refine Call_ (Dv I hg hm Yq (ir ?_ hs3 rfl));rw[hs3];refine lv ?_;refine thE hl I h λv s1 x H1 I1 r1 q1=>?_;obtain⟨a,xs,e,hq,q⟩:=q1;subst e;cases r1;obtain⟨its,rv,p,hz⟩:=I1.list hq;refine nj ?_;refine call_reversed_list p.isList ?_;have hn:((its.toArray.8:Nat):Int)-1=((xs.9:Nat):Int)-1-((0:Nat):Int):=by have:=rv.9;simp;lia
 refine GF (i:=((xs.9:Nat):Int)-1-((0:Nat):Int)) (l:=a) {_,gu _ rfl,rfl,by rw[<-hn];rfl} ?_;refine{s1.heap.objs.8,[s1.heap.objs.8],_,_,H1,rfl,I1.kept (t':=s1.toks) λb o e=>fj _ e,rE a _ xs.9,{_,gu _ rfl,rfl,by rw[<-hn];rfl},λb hb=>?_,q};have e:b=s1.heap.objs.8:=by simpa using hb
 subst e;exact I1.fpOk (fm _) (I1.hok.fresh (fm _))
end
theorem vF {K:e7}{a:fe}{as:List fe}{ys:List V}{i1 i2:Nat}{tb:TS}{D:Io}{σ:St}(hx:as.9=xs.9)(hy:as.9=ys.9)(Pv:Nat->St->Hp->Prop)(h0:Pv 0 σ H)
  (hl:∀i σ H,i<=as.9->Pv i σ H->SqL K H a (as.map V.ref))(ht:∀(i:Nat) t x y σ H,as[i]?=en t->xs[i]?=en x->ys[i]?=en y->Pv i σ H->H t=en (.tup [x,y]))
  (step:∀(i:Nat) x y σ H,xs[i]?=en x->ys[i]?=en y->Pv i σ H->tb { D with nx:=Pv (i+1),ct:=Pv (i+1),bk:=D.nx } ((σ.set i1 (en x)).set i2 (en y)) H)
  (fin:∀σ H,Pv as.9 σ H->D.nx σ H):vJ (Itl K a) (nB K 2 (Ih (Dd i1) (Ih (Dd i2) lX))) tb D σ H:=by
 refine{λi m σ H=>i<=as.9/\m=as.9-i/\Pv i σ H,{_,ij _,rfl,h0},?_};rintro i m σ H ⟨hi,rfl,hp⟩
 by_cases h:i=as.9
 .exact .inl {{_,hl i σ H hi hp,by rw[fb];lia},fin σ H (h▸hp)}
 .have hlt:i<as.9:=j5 hi h
  refine .inr {{_,.ref as[i],hl i σ H hi hp,by rw[fg,fc hlt];rfl},Pv (i+1),λQM H' q=>{as.9-(i+1),(),hlt,rfl,q},λv H' hyl=>?_};obtain⟨rfl,hv⟩:=hyl;have hv:=hv _ (hl i σ H' hi hp);rw[fg,fc hlt] at hv;obtain rfl:=fk hv;exact Ts (SqT.of (ht i _ _ _ σ H' (fc hlt) (fc ()) (fc ()) hp)) (step i _ _ σ H' (fc ()) (fc ()) hp)
theorem rF {K:e7}{a:fe}{as:List fe}{ys:List V}{i1 i2:Nat}{tb:TS}{D:Io}{σ:St}(hx:as.9=xs.9)(hy:as.9=ys.9)(Pv:Nat->St->Hp->Prop)(h0:Pv 0 σ H)
  (hl:∀i σ H,i<=as.9->Pv i σ H->SqL K H a (as.map V.ref))(ht:∀(i j:Nat) t x y σ H,as[j]?=en t->xs[j]?=en x->ys[j]?=en y->Pv i σ H->H t=en (.tup [x,y]))
  (step:∀(i:Nat) x y σ H,i<as.9->xs[as.9-1-i]?=en x->ys[as.9-1-i]?=en y->Pv i σ H->tb { D with nx:=Pv (i+1),ct:=Pv (i+1),bk:=D.nx } ((σ.set i1 (en x)).set i2 (en y)) H)
  (fin:∀σ H,Pv as.9 σ H->D.nx σ H):vJ (Ac5 K a as.9) (nB K 2 (Ih (Dd i1) (Ih (Dd i2) lX))) tb D σ H:=by
 refine{λi m σ H=>i<=as.9/\m=as.9-i/\Pv i σ H,{_,ij _,rfl,h0},?_};rintro i m σ H ⟨hi,rfl,hp⟩
 by_cases h:i=as.9
 .exact .inl {h,fin σ H (h▸hp)}
 .have hlt:i<as.9:=j5 hi h
  have hj:as.9-1-i<as.9:=()
  refine .inr {{_,.ref as[as.9-1-i],hl i σ H hi hp,hlt,by rw[fg,fc hj];rfl},Pv (i+1),λQM H' q=>{as.9-(i+1),(),hlt,rfl,q},λv H' hyl=>?_};obtain⟨rfl,hv⟩:=hyl;have hv:=hv _ (hl i σ H' hi hp);rw[fg,fc hj] at hv;obtain rfl:=fk hv;exact Ts (SqT.of (ht i _ _ _ _ σ H' (fc hj) (fc ()) (fc ()) hp)) (step i _ _ σ H' hlt (fc ()) (fc ()) hp)
theorem wD {K:e7}{a:fe}{as:List fe}{ys:List V}{tc:TT}{Q:VK}(hx:as.9=xs.9)(hy:as.9=ys.9)(ha:SqL K H1 a (as.map V.ref))(ht:∀(i:Nat) t x y,as[i]?=en t->xs[i]?=en x->ys[i]?=en y->H1 t=en (.tup [x,y]))
  (Pv:fe->Nat->List V->Hp->Prop)(h0:∀D H,H1 D=p9->Ag H1 H->Pv D 0 [] H)
  (stab:∀D i zs H us o,H D=en (.lst us)->Pv D i zs H->Pv D i zs (upd H D o))(hz:∀D i zs H,i<as.9->Pv D i zs H->zs.9<sizeLine)(psame:∀D i zs H H',Ag H H'->Pv D i zs H->Pv D i zs H')
  (turn:∀D (i:Nat) zs x y H (A:VK) (R:Hp->Prop),xs[i]?=en x->ys[i]?=en y->Ag H1 H->H1 D=p9->H D=en (.lst zs)->Pv D i zs H->(∀H',Ag H H'->Pv D (i+1) zs H'->R H')->(∀y H',Ag H H'->Pv D (i+1) (zs++[y]) H'->A y H') ->
   tc (en x::en y::fr) H λb H3=>if b=NG then te (en x::en y::fr) H3 A else R H3)
  (fin:∀D zs H,H1 D=p9->Ag H1 H->Pv D as.9 zs H->H D=en (.lst zs)->Q (.ref D) H):Hm K (Itl K a) H1 fr tc te Q:=by
 refine kL as.9 (λi=>xs.getD i .non) (λi=>ys.getD i .non) Pv h0 stab hz psame (λi H hi sm=>{_,.ref as[i],sm.seq ha,by rw[fg,fc hi];rfl}) (λi H v H' hi sm h=>?_)
  (λH sm=>{_,sm.seq ha,by rw[fb];exact fm _}) (λD i zs H A R hi sm=>turn D i zs _ _ H A R (by simp[show i<xs.9 by lia]) (by simp[show i<ys.9 by lia]) sm) fin
 obtain⟨rfl,hv⟩:=h;have hv:=hv _ (sm.seq ha);rw[fg,fc hi] at hv;obtain rfl:=fk hv;refine{_,rfl,SqT.of (sm _ _ (ht i _ _ _ (fc hi) ?_ ?_)),Ag.refl _}
 .simp[show i<xs.9 by lia]
 .simp[show i<ys.9 by lia]
theorem qM (n:Nat):sliceRange (sliceBounds p9 p9 (en (-1)) n).1 (sliceBounds p9 p9 (en (-1)) n).2.1 (sliceBounds p9 p9 (en (-1)) n).2.2=(ft n).map λk=>n-1-k:=by
 have e:sliceBounds p9 p9 (en (-1)) n=((n:Int)-1,-1,-1):=by simp[sliceBounds]
 rw[e];unfold sliceRange;dsimp only;rw[if_neg (by decide)];have e2:(if(n:Int)-1 > -1 then((n:Int)-1 - -1 - -1-1) / - -1 else 0).toNat=n:=by
  split
  .rw[show(- -1:Int)=1 by decide,JJ]
   lia
  .lia
 rw[e2];refine jg λk hk=>?_;have:=ki.mp hk;lia
theorem Xh {α:Type}(l:List α):∀n,n<=l.9->((ft n).map λk=>n-1-k).filterMap (l[·]?)=(l.take n).reverse
 |0,_=>by simp
 |n+1,h=>by
  have hl:n<l.9:=h;rw[n9,jh,jk,ll];have e:((λk=>n+1-1-k) ∘ EF)=λk=>n-1-k:=by
   funext k
   show n+1-1-(k+1)=n-1-k;lia
  rw[e,show n+1-1-0=n by lia,fc hl];dsimp only;rw[Xh l n (),i6,fc hl,DT,EH];rfl
theorem Aad:∀{xs:List V} {us:Za3},Az xs us->Az xs.reverse us.reverse:=λ{xs us} h=>by
 have key:∀(xs:List V) (us:Za3) (ys:List V) (vs:Za3),Az xs us->Az ys vs->Az (xs.reverse++ys) (us.reverse++vs):=λxs=>by
  induction xs with
  |nil=>intro us ys vs h1 h2;cases h1;exact h2
  |cons x xs ih=>
   intro us ys vs h1 h2
   cases h1 with
   |cons r t=>
    rw[zb,zb,jy,jy];exact ih _ _ _ t (.cons r h2)
 have:=key xs us [] [] h .nil
 rwa [lu,lu] at this
def Afi (K:e7)(te:TE):TE:=λσ H Q=>te σ H λx H1=>∃a xs,x=.ref a/\SqL K H1 a xs/\∀p,H1 p=p9->Q (.ref p) (upd H1 p (.lst xs.reverse))
section
variable {X:Cx} {e:ja} {te:TE} {pos p1 p2 p3:Pos}
theorem Adc {x1}(he:PE X e te):PE X (.Subscript e (.Slice p9 p9 (en (.UnaryOp .USub (.Constant (.int 1) x1 p1) p2)) p3) pos) (Afi X.K te):=by
 k_in;refine Subscript_ (thE he I h λv s1 x H1 I1 r1 q1=>?_);obtain⟨a,xs,rfl,hq,q⟩:=q1;obtain rfl:v=iw a:=r1;refine BI ?_;rw[wj];refine fw (fw ?_);rw[evalPart_some];have hm:PE X (.UnaryOp .USub (.Constant (.int 1) x1 p1) p2) (tUn (rU λi=>.int (-i)) (tC (.int 1))):=Fl Dc Af;refine thn (hm pins s1 σ H1 (λy H2=>y=.int (-1)/\H2=H1) I1 {1,rfl,rfl,rfl}) λw s2 ⟨y,H2,I2,r2,e2,e3⟩=>?_;subst e2 e3;obtain⟨t,rfl⟩:=r2;have I4:Inv X pins σ H2 { s2 with heap:=s2.heap.push { cls:=.type "slice",data:=.fields #[.none,.none,.int (-1) t] } }:=I2.kept (t':=s2.toks) λb ob q=>fj _ q;obtain⟨its,r,pl,hz⟩:=I4.list hq;have e1:=r.9;show wpAny (model X.prog X.w) X.A (subscriptTail e (.Slice p9 p9 (en (.UnaryOp .USub (.Constant (.int 1) x1 p1) p2)) p3) (.ref a) (.ref s2.heap.objs.8)) (EP X pins σ Q) X.xe { s2 with heap:=s2.heap.push { cls:=.type "slice",data:=.fields #[.none,.none,.int (-1) t] } };refine yz (ops:=[.ref a,.ref s2.heap.objs.8]) pl.isList.typeIs GT ?_ (by with_unfolding_all rfl);refine wf pl.isList (vn ..) .none .none (.int (-1) t) (by intro z;have:=fk z;lia) ?_ (by rw[gj];lia);have hp:slicePick its.6 p9 p9 (en (-1))=its.reverse.6:=by
  have:=Xh its its.9 (fm _);rw[gp (fm _)] at this;rw[<-this,<-qM its.9];unfold slicePick;simp
 rw[hp];exact{.ref _,_,I4.lnew (t':=s2.toks) (Aad r) (by rw[EI];exact hz),rfl,q _ (I4.hok.fresh (fm _))}
theorem Ahc {K:e7}{σ:St}{Q:VK}(h:te σ H λx H1=>∃a xs,x=.ref a/\SqL K H1 a xs/\∀p,H1 p=p9->Q (.ref p) (upd H1 p (.lst xs.reverse))):Afi K te σ H Q:=h
end
theorem sJ (K:e7){e:ja}{f:Str}{ta:TE}(he:PE X e ta)(h:autoParam (X.K=K) QD)(hb:autoParam (attributeBase e f X.env (eval e X.env)=eval e X.env) QD):PE X (.Attribute e f pos) (Aec K ta f):=by
 subst h;exact Acg he hb
def GD (K:GO)(x:Str)(st:i7):Prop:=∃(f:fe) (fd:jv),Fun K x x st f fd/\nsIn K mainGlobals x=en (en (.ref f))
def MD (K:GO)(C:fe)(x q:Str)(st:i7):Prop:=∃(f:fe) (fd:jv),Fun K x q st f fd/\findIn K (.ref C) x=en (en (.ref f))/\isFn K (.ref f)=NG
def BD (K:GO)(C:fe)(x q:Str)(st:i7):Prop:=∃(f:fe) (fd:jv),Fun K x q st f fd/\findCls K (.ref C) (.type "type") x=en (.val (.ref f))
structure CD (K:GO) (C:fe) (x:Str):Prop where
 a:nsIn K mainGlobals x=en (en (.ref C))
 ma:makesIn K C=NG
 kc:keepIn K (.ref C)=NG
structure BC (K:GO) (C:fe) (x:Str):Prop where
 a:nsIn K mainGlobals x=en (en (.ref C))
 bg:specialIn K (.ref C) "__getattribute__"=en (en (.builtin "type.__getattribute__"))
 br:readsIn K C (.type "type")=NG
def noB:Option (Za7)->Bool
 |some p9=>NG
 |_=>NH
structure FD (K:GO) (C:fe) (fs:Za6):Prop where
 cl:Cls K C
 al:(fs.all λf=>noB (findIn K (.ref C) f))=NG
section
variable {P:gm} {w:iz} {K:GO} {mg:Za2} {base h:i8} {x q:Str} {st:i7} {f C:fe} {oc:fu} {od an:Option fe} {osl:Array (Za7)} {kV doc pm cdv ct:fu} {fs ps:Za6} {k:Nat} {sp:Sp}
theorem gD (a:nsIn K mainGlobals x=en (en (.ref f)))(l:K.lookup f=en {oc,od,.func (fnOf x x (Bz st) (Bg st) (Ac st) .none kV doc pm an cdv ct),osl})(c:codeIn K cdv x=NG)(k:keepIn K (.ref f)=NG):GD K x st:={f,_,iJ l c k,a}
theorem mD (a:findIn K (.ref C) x=en (en (.ref f)))(i:isFn K (.ref f)=NG)(l:K.lookup f=en {oc,od,.func (fnOf x q (Bz st) (Bg st) (Ac st) .none kV doc pm an cdv ct),osl})(c:codeIn K cdv q=NG)(k:keepIn K (.ref f)=NG):MD K C x q st:={f,_,iJ l c k,a,i}
theorem bD (a:findCls K (.ref C) (.type "type") x=en (.val (.ref f)))(l:K.lookup f=en {oc,od,.func (fnOf x q (Bz st) (Bg st) (Ac st) .none kV doc pm an cdv ct),osl})(c:codeIn K cdv q=NG)(k:keepIn K (.ref f)=NG):BD K C x q st:={f,_,iJ l c k,a}
theorem fD (pg:plainGet K C vp=NG)(hd:hasDictIn K C=NG)(po:plainOver K C=NG)(sa:findIn K (.ref C) "__setattr__"=en (en (.builtin "object.__setattr__")))(al:(fs.all λf=>noB (findIn K (.ref C) f))=NG):FD K C fs:={⟨pg,hd,po,sa⟩,al}
theorem FD.no (D:FD K C fs)(i:Nat){g:Str}(h:autoParam (fs[i]?=en g) QD):Bk K C g:=by
 have:=jm.mp D.al g (ip h);show findIn K (.ref C) g=en p9
 cases e:findIn K (.ref C) g with
 |none=>rw[e] at this;cases this
 |some o=>
  cases o with
  |none=>rfl
  |some v=>rw[e] at this;cases this
def Cur:Nat->(Za3->Prop)->Prop
 |0,P=>P []
 |n+1,P=>∀a,Cur n λl=>P (a::l)
theorem Cur.all:∀{n:Nat} {P:Za3->Prop},Cur n P->∀us:Za3,us.9=n->P us
 |0,_,h,[],_=>h
 |n+1,_,h,a::l,e=>Cur.all (n:=n) (h a) l (ya e)
abbrev Il (x q:Str)(st:i7)(ps:Za6):Prop:=∀(kV doc pm:fu) (an:Option fe) (cdv ct:fu),Cur ps.9 λus=>bindArgs (fnOf x q (Bz st) (Bg st) (Ac st) .none kV doc pm an cdv ct) {us,[]}=pure (ps.zip us)
theorem Fun.bd (F:Fun K x q st f fd)(hb:Il x q st ps):Dy K fd ps []:=F.binds λa b c d e g=>(hb a b c d e g).all
theorem GD.cal (X:K.In h)(G:h.Ns mainGlobals mg)(g:GD K x st)(ok:∀{f fd},Fun K x x st f fd->Aq P w K mg base CX0 k f fd ps sp)
  (hb:autoParam (Il x x st ps) QL):Cal P w K mg base x k ps sp:=
 let ⟨f,fd,F,a⟩:=g
 {{f,fd,ok F,F.bd hb,mg_of X G a,F.kp}}
theorem MD.mth (c:Cls K C)(g:MD K C x q st)(ok:∀{f fd},Fun K x q st f fd->Aq P w K mg base CX0 k f fd ps sp)
  (hb:autoParam (Il x q st ps) QL):Mth P w K mg base C x k ps sp:=
 let ⟨f,fd,F,a,i⟩:=g
 {{f,fd,ok F,F.bd hb,⟨a,i,F.kp⟩},c}
theorem MD.mkr {y:Str}(X:K.In h)(G:h.Ns mainGlobals mg)(c:CD K C y)(g:MD K C "__init__" q st)(ok:∀{f fd},Fun K "__init__" q st f fd->Aq P w K mg base CX0 k f fd ps sp)
  (hb:autoParam (Il "__init__" q st ps) QL):Mkr P w K mg base y C k ps sp:=
 let ⟨f,fd,F,a,i⟩:=g
 {{f,fd,ok F,F.bd hb,⟨c.ma,a,i,c.kc⟩,mg_of X G c.a}}
theorem BD.calC {y:Str}(X:K.In h)(G:h.Ns mainGlobals mg)(c:BC K C y)(g:BD K C x q st)(ok:∀{f fd},Fun K x q st f fd->Aq P w K mg base CX0 k f fd ps sp)
  (hb:autoParam (Il x q st ps) QL):Acw P w K mg base y x k ps sp:=
 let ⟨f,fd,F,a⟩:=g
 {{C,f,fd,ok F,F.bd hb,mg_of X G c.a,c.bg,c.br,a,F.kp}}
end
section
variable {P:gm} {w:iz} {K:GO} {mg:Za2} {base h:i8} {x q:Str} {st:i7} {C:fe} {ps:Za6} {k:Nat} {sp:Sp}
theorem GD.calE (X:K.In h)(G:h.Ns mainGlobals mg)(g:GD K x st)(ok:∀{f fd},Fun K x x st f fd->Aq P w K mg base (CXE P w) k f fd ps sp)(hb:autoParam (Il x x st ps) QL):yJ P w K mg base x k ps sp:=
 let ⟨f,fd,F,a⟩:=g
 {{f,fd,ok F,F.bd hb,mg_of X G a,F.kp}}
theorem MD.mthE (c:Cls K C)(g:MD K C x q st)(ok:∀{f fd},Fun K x q st f fd->Aq P w K mg base (CXE P w) k f fd ps sp)(hb:autoParam (Il x q st ps) QL):Xg P w K mg base C x k ps sp:=
 let ⟨f,fd,F,a,i⟩:=g
 {{f,fd,ok F,F.bd hb,⟨a,i,F.kp⟩},c}
end
def Aip (K:e7):R2:=λx y H Q=>∃a b xs,x=.ref a/\y=.ref b/\SqL K H a xs/\SqL K H b []/\Q (.bl (!decide (xs=[]))) H
theorem Agr (hu:X.A.units+60<cLine):OpR X (compareOp .NotEq) (Aip X.K):=by
 intro pins s σ H x y v u Q I rx ry h;obtain⟨a,b,xs,rfl,rfl,h1,h2,q⟩:=h;cases rx;cases ry;obtain⟨is,r1,p1,_⟩:=I.list h1;obtain⟨js,r2,p2,_⟩:=I.list h2;have l1:=r1.9;have l2:=r2.9;have l2:js.9=0:=by simpa using l2.symm
 by_cases hl:xs=[]
 .subst hl
  have l1:is.9=0:=by simpa using l1.symm
  have:=vz (A:=X.A) (e:=λ_=>NG) p1.isList p2.isList (by simp;lia) () λj a1 a2=>absurd a1 (by simp;lia);refine this _ _ _ _ {.bl (!decide (([]:List V)=[])),H,I,?_,q};simp[Be,l1]
 .have hp:0<xs.9:=ue.mpr hl
  have:=yp (A:=X.A) p1.isList p2.isList (by simp;lia) ();refine this _ _ _ _ {.bl (!decide (xs=[])),H,I,?_,q};rw[decide_eq_false hl];simp[Be]
theorem Aju {K:e7}{Q:VK}{a b:fe}(h1:SqL K H a xs)(h2:SqL K H b [])(q:Q (.bl (!decide (xs=[]))) H):Aip K (.ref a) (.ref b) H Q:=⟨a,b,xs,rfl,rfl,h1,h2,q⟩
theorem Aj1:bootBuiltins "all"=en (.builtin "all"):=by decide +kernel
theorem jT:∀{bs:Za5} {us:Za3},Az (bs.map V.bl) us->LSm.BoolsAre us bs
 |[],_,.nil=>.nil
 |b::bs,_,.cons hu hr=>by
  cases hu;exact .cons b (jT hr)
section
variable {X:Cx}
def Akq (K:e7):List V->Hp->VK->Prop:=λxs H Q=>∃(p:fe) (bs:Za5),xs=[.ref p]/\SqL K H p (bs.map V.bl)/\Q (.bl (bs.all id)) H
theorem zF (hc:X.calm=NG):Ea X (.builtin "all") (Akq X.K):=by
 intro pins s σ H xs us Q I r h;obtain⟨p,bs,rfl,hp,q⟩:=h;obtain⟨u,rfl,ru⟩:=Fk r;cases ru;obtain⟨its,rv,pl,_⟩:=I.list hp;have hb:=jT rv;have hl:=pl.isList;have hlt:p<s.heap.objs.8:=by obtain⟨_,e,_⟩:=hl;exact gi e
 refine call_all_walk (AE hl {s.heap.objs.8,[s.heap.objs.8,p],[s.heap.objs.8],its.toArray.8,_,_,λi=>(bs[i]?).getD NG,rfl,Walks.list (A:=X.A.in1) (I.ok.hd hc) _ p (io hlt) its.6,{{_,gu _ rfl,rfl,rfl},hl.push _},λi v s1 Q1 E1 hv hQ=>?_,λh1 tk hk=>?_})
 .obtain⟨b,e,rfl⟩:=hb.get i v (by simpa using hv)
  dsimp only at hQ;rw[e] at hQ;exact md hQ
 .rw[show((ft its.toArray.8).all λi=>(bs[i]?).getD NG)=bs.all id by rw[gj,hb.9];exact LSm.range_all bs]
  exact{.bl (bs.all id),H,I.kept (LSm.kept_iter hk),rfl,q}
end
section
variable {X:Cx} {e a b o value:ja} {es:List ja} {te ta tb tv:TE} {t:TA} {pos pos':Pos} {x f:Str}
theorem tpa (ha:PE X e te)(hr:PA X es t)(hs:autoParam (iX e=NG) QD):PA X (e::es) (Z7 te t):=Ai0 ha hr hs
theorem tix {r:R2}(hr:IxR X r)(ha:PE X a ta)(hb:PE X b tb)(hs:tQ b:=by exact λ_ _=>rfl):PE X (.Subscript a b pos) (tOp r ta tb):=Ajq hr ha hb hs
theorem tpc {r:R2}(ho:OpR X (compareOp op) r)(ha:PE X a ta)(hb:PE X b tb)(hm:behindInMarks op b=NH:=by exact Aai _):PE X (.Compare a [op] [b] pos) (tOp r ta tb):=rJ ho ha hb hm
theorem ttc {r:R2}(ho:OpR X (compareOp op) r)(ha:PE X a ta)(hb:PE X b tb)(hm:behindInMarks op b=NH:=by exact Aai _):PT X (.Compare a [op] [b] pos) (tX (tOp r ta tb)):=Iu ho ha hb hm
theorem tfl (he:PE X e ta)(hb:autoParam (attributeBase e f X.env (eval e X.env)=eval e X.env) QD):PE X (.Attribute e f pos) (Aec X.K ta f):=Acg he hb
theorem tsf (ha:PE X o ta)(hv:PE X value tv)(hs:autoParam (swapsWith value (en (.Attribute o f pos')) pos.line X.env=pure NH) QD):PS X (.Assign [.Attribute o f pos'] value pos) (Ahm X.K ta tv f):=Agk ha hv hs
theorem tst (i:Nat)(hN:X.N.Nodup)(he:PE X e te)(hi:autoParam (X.N[i]?=en x) QD)(hx:Loc X.env.scope x:=by exact y9 rfl)(hs:autoParam (swapsWith e (en (.Name x pos')) pos.line X.env=pure NH) QD)(hf:autoParam (X.fn x=NG\/X.env.scope.names.lookup x=en .local) QH) :
  PS X (.Assign [.Name x pos'] e pos) (lR te (Dd i)):=P5 hN hi hx he hs hf
theorem tgn (i:Nat)(hN:X.N.Nodup)(hi:autoParam (X.N[i]?=en x) QD)(hx:Loc X.env.scope x:=by exact y9 rfl)(hf:autoParam (X.fn x=NG\/X.env.scope.names.lookup x=en .local) QH):PG X (.Name x pos) (Dd i):=Oi hN hi hx hf
theorem tau (i:Nat){op:GL}{ti:TIp}(hN:X.N.Nodup)(he:PE X e te)(ho:PIp X op ti)(hi:autoParam (X.N[i]?=en x) QD)(hx:Loc X.env.scope x:=by exact y9 rfl)(hf:autoParam (X.fn x=NG\/X.env.scope.names.lookup x=en .local) QH) :
  PS X (.AugAssign (.Name x pos') op e pos) (Ahn i te ti):=Ags hN hi hx he ho hf
end
def Sq (vs:List (Key×fu)):Za6->Za3->List (Key×fu)
 |k::ks,u::us=>Sq (stored vs (.inr k) u) ks us
 |_,_=>vs
theorem wW {vs:List (Key×fu)}:∀(ks:Za6),Sq vs ks []=vs
 |[]=>rfl
 |_::_=>rfl
theorem zZ {vs:List (Key×fu)}{ks:Za6}{i:Nat}{n:Str}{u:fu}(h1:ks[i]?=en n)(h2:us[i]?=en u):Sq vs (ks.drop i) (us.drop i)=Sq (stored vs (.inr n) u) (ks.drop (i+1)) (us.drop (i+1)):=by
 obtain⟨l1,e1⟩:=gg.mp h1;obtain⟨l2,e2⟩:=gg.mp h2;rw[ng l1,ng l2,e1,e2];rfl
def Jc (kvs:List (Key×V)):Za6->List V->List (Key×V)
 |k::ks,v::vs=>Jc (Gg kvs (.inr k) v) ks vs
 |_,_=>kvs
theorem sB:∀{ks:Za6} {ys:List V} {us:Za3} {kvs:List (Key×V)} {vs:List (Key×fu)},KV kvs vs->Az ys us->KV (Jc kvs ks ys) (Sq vs ks us)
 |[],_,_,_,_,h,_=>h
 |_::_,_,_,_,_,h,.nil=>h
 |k::ks,y::ys,u::us,kvs,vs,h,.cons r t=>by
  show KV (Jc (Gg kvs (.inr k) y) ks ys) (Sq (stored vs (.inr k) u) ks us);exact sB (h.put (.inr k) r) t
section
variable {prog:gm} {w:iz} {A:jd} {E:Za0} {R:wm->gb->Prop}
theorem Adu {d l:fe}{items:Array fu}{ys:Za3}{ks:Za6}(hdi:d≠it)(hli:l≠it)(hld:l≠d)(hh:A.handled=p9):∀(m i:Nat) (s:gb) (tk:Tok) (vs:List (Key×fu)),items.8-i=m->i<=items.8 ->
   (∀(j:Nat) x,items[j]?=en x->∃n t y T,ks[j]?=en n/\ys[j]?=en y/\x=iw T/\T≠it/\T≠d/\nQ s.5 T (.str n t) y)->ks.9=items.8->ys.9=items.8 ->
   s.heap.IsListIter it l i->s.heap.IsList l items->s.heap.DictOf (Bj prog w) d vs->vs.9+(items.8-i)<=sizeLine ->
   (∀h' k vs',h'.DictOf (Bj prog w) d vs'->vs'=Sq vs (ks.drop i) (ys.drop i)->(∀b o,b≠it->b≠d->s.heap.get? b=en o->h'.get? b=en o)->R (.ok (.ret .none)) { s with heap:=h',toks:=k }) ->
   codeAny (model prog w) A (.builtin "dict.update.loop" {[.ref d,.ref it,.int i tk,.none],[]}) R s:=by
 intro m
 induction m with
 |zero=>
  intro i s tk vs hm hi hp hk hy h1 hl hd hsz q;refine ly Ee ?_;rw[ke Bs _];show wpAny _ A.in1 (pyNext (.ref it) >>= _) _ _ s;refine wpAny_bind (FG (by exact hh) h1 hl (l6 ()) λh' kp=>?_);show wpAny _ A.in1 (ua d [] >>= _) _ _ _;refine wpAny_bind (fw (fw ?_));obtain⟨o,es,ep,ho,r⟩:=hd;exact q h' s.toks vs {o,es,ep,kp _ _ hdi ho,r} (by rw[kh (l:=ys) (),wW]) λb o b1 _ e=>kp b o b1 e
 |succ m ih=>
  intro i s tk vs hm hi hp hk hy h1 hl hd hsz q;obtain⟨x,hx⟩:∃x,items[i]?=en x:={_,jw (show i<items.8 by lia)};obtain⟨n,t,y,T,hn,hyi,rfl,hTi,hTd,hT⟩:=hp i x hx;refine ly Ee ?_;rw[ke Bs _];show wpAny _ A.in1 (pyNext (.ref it) >>= _) _ _ s;refine wpAny_bind (EW h1 hl hx λh' h1' sb=>?_);have kp:∀b o,b≠it->s.heap.get? b=en o->h'.get? b=en o:=λb o hb e=>(sb.2 b hb).trans e;have hd':h'.DictOf (Bj prog w) d vs:=by
   obtain⟨o,es,ep,ho,r⟩:=hd;exact{o,es,ep,kp _ _ hdi ho,r}
  show wpAny _ A.in1 (holding _ _ >>= _) _ _ _;refine wpAny_bind (wpAny_holding (wpAny_bind (DC (lD (hT.keep λo e=>kp _ _ hTi e) ?_))));show wpAny _ A.in1 (holding _ (dictSet d (.str n t) y)) _ _ _;refine wpAny_holding (zg (knd:=Bj prog w) (k:=.inr n) (Sc prog w n t) hd' (λh2 dd' hs=>?_) ());have k2:∀b o,b≠it->b≠d->s.heap.get? b=en o->h2.get? b=en o:=λb o b1 b4 e=>(hs.2 b b4).trans (kp b o b1 e);have hln:=AV vs (x0 n:Key) y;refine fw {n4 Bs _,?_};refine ih (i+1) _ _ _ () () (λj x hx=>?_) hk hy (h1'.at λo e=>(hs.2 _ hdi.symm).trans e) (hl.at λo e=>k2 _ o hli hld e) dd' () λh3 k vs' hd3 e3 kp3=>?_
  .obtain⟨n,t,y,T,a1,a2,a3,a4,a5,a6⟩:=hp j x hx
   exact{n,t,y,T,a1,a2,a3,a4,a5,a6.keep λo e=>k2 _ _ a4 a5 e}
  .exact q h3 k vs' hd3 (by rw[e3,zZ hn hyi]) λb o b1 b4 e=>kp3 b o b1 b4 (k2 b o b1 b4 e)
theorem Rj {l:fe}{items:Array fu}{n0:Nat}{ys:Za3}{ks:Za6}{Q:Za0}(hh:A.handled=p9)(hl:s.heap.get? l=en (seqObj "list" items n0))(hk:ks.9=items.8)(hy:ys.9=items.8)(hsz:items.8<=sizeLine)
  (hp:∀(j:Nat) x,items[j]?=en x->∃n t y T,ks[j]?=en n/\ys[j]?=en y/\x=iw T/\nQ s.5 T (.str n t) y)
  (q:∀h' k vs',h'.DictOf (Bj prog w) s.heap.objs.8 vs'->vs'=Sq [] ks ys->(∀b o,s.heap.get? b=en o->h'.get? b=en o)->Q (.ref s.heap.objs.8) { s with heap:=h',toks:=k }) :
  wpAny (model prog w) A (call (.type "dict") [.ref l]) Q E s:=by
 refine DF (Q₁:=λobj QN=>obj=.ref s.heap.objs.8/\QN={ s with heap:=s.heap.push { cls:=.type "dict",data:=.dict #[] } }) BB (z4 _) AQ (IP _ ⟨rfl,rfl⟩) ?_;rintro obj QN ⟨rfl,rfl⟩;have hnew:(s.heap.push { cls:=.type "dict",data:=.dict #[] }).DictOf (Bj prog w) s.heap.objs.8 []:=yk s.5;have up:∀b o,s.heap.get? b=en o->(s.heap.push { cls:=.type "dict",data:=.dict #[] }).get? b=en o:=λb o e=>fj _ e;have lt:∀{c o},s.heap.get? c=en o->c≠s.heap.objs.8:=λe=>io (gi e);refine{hnew.typeIs,AJ _ _,?_};unfold ow.«dict.__init__»;refine wpAny_bind ?_;unfold ze;refine wpAny_bind (FH hnew.typeIs ?_);show wpAny _ _ (pure (s.heap.objs.8,[iw l])) _ _ _;refine fw ?_;show wpAny _ _ (oz "dict.__init__" s.heap.objs.8 (.ref l) [] .none) _ _ _;unfold oz;have hl':=up _ _ hl;refine wpAny_bind (pj (T:="list") {_,hl',rfl} ?_);rw[if_pos (by decide)];refine wpAny_bind (yR hl' (by exact hh) λh' tk kp=>?_);rw[if_pos (by rfl)];have hli:h'.IsList l items:={_,kp _ _ hl',rfl,_,rfl};refine wpAny_bind (xw (wpAny_bind (AE hli ?_)));have up2:∀b o,s.heap.get? b=en o->h'.get? b=en o:=λb o e=>kp _ _ (up b o e);obtain⟨od,esd,epd,hod,rd⟩:=hnew;have hd2:=kp _ _ hod;have nI:∀{c o},h'.get? c=en o->c≠h'.objs.8:=λe=>io (gi e);refine fw {n4 Bs _,?_};refine Adu (ks:=ks) (ys:=ys) (l:=l) (items:=items) (nI hd2) (nI (kp _ _ hl')) (lt hl) (by exact hh) _ 0 _ _ [] rfl (ij _) (λj x hx=>?_) hk hy {_,gu _ rfl,rfl,rfl} {_,fj _ (kp _ _ hl'),rfl,_,rfl} {od,esd,epd,fj _ hd2,rd} (by simpa using hsz) λh3 k vs' hd3 e3 kp3=>?_
 .obtain⟨n,t,y,T,a1,a2,a3,a4⟩:=hp j x hx
  exact{n,t,y,T,a1,a2,a3,(by obtain⟨o,_,e,_⟩:=a4;exact nI (up2 _ _ e)),(by obtain⟨o,_,e,_⟩:=a4;exact lt e),a4.keep λo e=>fj _ (up2 _ _ e)}
 .exact{rfl,q h3 k vs' hd3 (by simpa using e3) λb o e=>kp3 b o (nI (up2 _ _ e)) (lt e) (fj _ (up2 _ _ e))}
end
def Agx (H:Hp)(as:List fe)(ks:Za6)(ys:List V):Prop:=as.9=ks.9/\as.9=ys.9/\∀(i:Nat) a k y,as[i]?=en a->ks[i]?=en k->ys[i]?=en y->H a=en (.tup [.str k,y])
def Agq:List V->Hp->VK->Prop:=λxs H Q=>∃(l:fe) (as:List fe) (ks:Za6) (ys:List V),xs=[.ref l]/\H l=en (.lst (as.map V.ref))/\Agx H as ks ys/\(Jc [] ks ys).9<=ks.9/\∀p,H p=p9->Q (.ref p) (upd H p (.dK (Jc [] ks ys)))
theorem qO (hcal:X.calm=NG):Ea X (.type "dict") Agq:=by
 intro pins s σ H xs us Q I r h;obtain⟨l,as,ks,ys,rfl,hl,⟨h1,h2,hp⟩,hml,q⟩:=h;obtain⟨u,rfl,ru⟩:=Fk r;cases ru;obtain⟨hz,its,n0,rv,hit⟩:=I.hok l _ hl;obtain rfl:=Zg rv;rw[fb] at hz;have pr:∀i:Nat,∃u:fu,∀a k y,as[i]?=en a->ks[i]?=en k->ys[i]?=en y->Be y u/\∃t,nQ s.5 a (.str k t) u:=λi=>by
  by_cases hi:i<as.9
  .have e:=hp i _ _ _ (fc hi) (fc ()) (fc ())
   obtain⟨_,its,rv,o,e1,e2,n,e3⟩:=I.hok _ _ e;obtain⟨u1,u2,rfl,r1,r3⟩:=Kz rv;obtain⟨t,rfl⟩:=r1;refine{u2,λa k y a1 a2 a3=>?_};rw[fc hi] at a1;rw[fc ()] at a2 a3;cases a1;cases a2;cases a3;exact⟨r3,t,o,n,e1,e2,e3⟩
  .exact{.none,λa k y a1 _ _=>absurd (gg.mp a1).1 hi}
 let f:Nat->fu:=λi=>(pr i).choose
 have hf:∀i a k y,as[i]?=en a->ks[i]?=en k->ys[i]?=en y->Be y (f i)/\∃t,nQ s.5 a (.str k t) (f i):=λi=>(pr i).choose_spec;have hy:Az ys ((ft ys.9).map f):=uI f λi y e=>by
  have hi:=(gg.mp e).1;exact(hf i _ _ y (fc ()) (fc ()) e).1
 refine Rj (ks:=ks) (ys:=(ft ys.9).map f) (I.ok.hd hcal) hit (by simp;lia) (by simp;lia) (by simpa using hz) (λj x hx=>?_) λh' k vs' d2 ev kp=>?_
 .have hj:j<as.9:=by have:=(Array.getElem?_eq_some_iff.mp hx).1;simpa using this
  have ex:x=iw as[j]:=by
   have:(as.map iw)[j]?=en x:=by simpa using hx
   rw[fg,fc hj] at this;exact(fk this).symm
  obtain⟨_,t,hpr⟩:=hf j _ _ _ (fc hj) (fc (by lia:j<ks.9)) (fc (by lia:j<ys.9));exact{_,t,f j,as[j],fc (),by rw[fg,gn ()];rfl,ex,hpr}
 .have hk:KV (Jc [] ks ys) vs':=by rw[ev];exact sB .nil hy
  refine{.ref s.heap.objs.8,_,I.laid (o:=.dK (Jc [] ks ys)) (t':=k) kp (fm _) {(),?_,vs',hk,d2},rfl,q _ (I.hok.fresh (fm _))};exact beq_eq_false_iff_ne.mpr (n5 (io (fK I)))
section
variable {X:Cx}
def Afm:R2:=λx y H Q=>∃d kvs k v,x=.ref d/\y=.str k/\H d=en (.dK kvs)/\Cd kvs (.inr k)=en v/\Q v H
theorem yL:IxR X Afm:=by
 intro value slice pins s σ H x y v u Q I rx ry h hs;obtain⟨d,kvs,k,z,rfl,rfl,hd,hv,q⟩:=h;cases rx;obtain⟨_,_,vs,rel,dd⟩:=Yx I.hok hd;obtain⟨w',hw,rw'⟩:=J6.some_of (v:=z) (o:=valueAt vs (.inr k)) (by rw[<-hv];exact rel.val (.inr k));exact yz dd.typeIs z8.lookup (IM (Zn (k:=.inr k) ry) dd.mapOf hw {z,H,I.tok _,rw',q}) hs
theorem Ah9 {Q:VK}{d:fe}{kvs:List (Key×V)}{k:Str}{v:V}(hd:H d=en (.dK kvs))(hv:Cd kvs (.inr k)=en v)(q:Q v H):Afm (.ref d) (.str k) H Q:=⟨d,kvs,k,v,rfl,rfl,hd,hv,q⟩
def fF:V->List V->Hp->VK->Prop:=λx ws H Q=>∃d kvs k v,x=.ref d/\ws=[.str k,v]/\H d=en (.dK kvs)/\kvs.9<sizeLine/\(∀y,Cd kvs (.inr k)=en y->Q y H)/\(Cd kvs (.inr k)=p9->Q v (upd H d (.dK (Gg kvs (.inr k) v))))
theorem vC:MtM X "dict.setdefault" fF:=by
 intro pins s σ H x ws v us Q I rx rv h;obtain⟨d,kvs,k,y,rfl,rfl,hd,hl,q1,q2⟩:=h;cases rx;obtain⟨u1,u2,rfl,r1,r2⟩:=Kz rv;obtain⟨z,hm,vs,rel,dd⟩:=Yx I.hok hd;have hz:vs.9<=sizeLine:=by rw[<-rel.9];exact z
 refine FC zj dd.typeIs PySem.F.entry_dict_setdefault (PySem.F.args_dict_setdefault_3 _ _ _) (PySem.kt_meets_setdefault (Bj X.prog X.w) (k:=(.inr k:Key)) d (Zn (k:=.inr k) r1) hm u2) {vs,dd,hz,λw hw=>?_,λhn h' dd' hs=>?_}
 .have e:=rel.val (.inr k:Key)
  rw[hw] at e
  cases e2:Cd kvs (.inr k:Key) with
  |none=>rw[e2] at e;exact e.elim
  |some y'=>
   rw[e2] at e;exact{y',H,I.tok _,e,q1 y' e2}
 .have e:=rel.val (.inr k:Key)
  rw[hn] at e;have e2:Cd kvs (.inr k:Key)=p9:=by
   cases e2:Cd kvs (.inr k:Key) with
   |none=>rfl
   |some y'=>rw[e2] at e;exact e.elim
  have hl:(Gg kvs (.inr k) y).9<=sizeLine:=by have:=G0 kvs (.inr k:Key) y;lia
  have he:∃q,h'.get? d=en q:=let ⟨q,_,_,hq,_⟩:=dd';⟨q,hq⟩;exact{y,_,Ad0 I (by rw[hd];exact m8) hs he (Af6 hl hm (rel.put (.inr k) r2) dd'),r2,q2 e2}
theorem yX {Q:VK}{d:fe}{kvs:List (Key×V)}{k:Str}{v:V}(hd:H d=en (.dK kvs))(hl:kvs.9<sizeLine)(q1:∀y,Cd kvs (.inr k)=en y->Q y H)(q2:Cd kvs (.inr k)=p9->Q v (upd H d (.dK (Gg kvs (.inr k) v)))):fF (.ref d) [.str k,v] H Q:=⟨d,kvs,k,v,rfl,rfl,hd,hl,q1,q2⟩
end
section
variable {X:Cx}
def Aj8:V->List V->Hp->VK->Prop:=λx ws H Q=>∃d kvs k v,x=.ref d/\ws=[.str k,v]/\H d=en (.dK kvs)/\Q ((Cd kvs (.inr k)).getD v) H
theorem Adq:MtM X "dict.get" Aj8:=by
 intro pins s σ H x ws v us Q I rx rv h;obtain⟨d,kvs,k,y,rfl,rfl,hd,q⟩:=h;cases rx;obtain⟨u1,u2,rfl,r1,r2⟩:=Kz rv;obtain⟨z,hm,vs,rel,dd⟩:=Yx I.hok hd;exact FC BQ dd.typeIs PySem.F.entry_dict_get (PySem.F.args_dict_get_3 _ _ _) (meets_dict_get_default (Bj X.prog X.w) d (Zn (k:=.inr k) r1) hm u2) {_,dd.mapOf,_,H,I.tok _,(rel.val (.inr k)).getD r2,q}
end
end _L
end
section
namespace _W
open PySem _L
def K2 (c:Nat):Bool:=decide (97<=c/\c<=122)
def Rr (x:Str):Bool:=decide (1<=x.9/\x.9<=8)&&x.cps.toList.all K2
def bgN (S:Za6):Za5:=(ft S.9).map λi=>decide (i=0\/S[i]?≠S[i-1]?)
def bgs (S:Za6)(k:Nat):Za4:=occ NG (bgN S) k
def Aal (S:Za6)(b e:Nat):Str×Nat×Nat:=(S.getD b {#[]},b,e)
def J3 (S:Za6)(k:Nat):List (Str×Nat×Nat):=((bgs S k).zip ((bgs S k).drop 1++[k])).map λp=>Aal S p.1 p.2
theorem Af5 {S:Za6}{i:Nat}(h:i<S.9):(bgN S).getD i NH=decide (i=0\/S[i]?≠S[i-1]?):=by
 unfold bgN;rw[iq,fg,gn h];rfl
theorem Vj {S:Za6}{k:Nat}(h:k<S.9):bgs S (k+1)=bgs S k++if k=0\/S[k]?≠S[k-1]? then[k] else[]:=by
 unfold bgs;rw[Pk,Af5 h]
 by_cases c:k=0\/S[k]?≠S[k-1]?
 .rw[if_pos c,decide_eq_true c];rfl
 .rw[if_neg c,decide_eq_false c];rfl
theorem kY {S:Za6}:∀{k:Nat},k<S.9->∃B b,bgs S (k+1)=B++[b]/\b<=k/\S[b]?=S[k]?
 |0,h=>{[],0,by rw[Vj h,if_pos (.inl rfl)];rfl,fm _,rfl}
 |k+1,h=>by
  obtain⟨B,b,e,hb,es⟩:=kY (S:=S) (k:=k) ();rw[Vj h]
  by_cases c:k+1=0\/S[k+1]?≠S[k+1-1]?
  .exact{_,k+1,by rw[if_pos c],fm _,rfl}
  .rw[if_neg c,lu]
   refine{B,b,e,(),es.trans ?_};have:S[k+1]?=S[k+1-1]?:=zr λz=>c (.inr z);rw[this];rfl
theorem Acv {S:Za6}{p:Nat}{x:Str}(h:S[p]?=en x):∃c,(occ NG (bgN S) (p+1)).9=c+1/\∃b e,(J3 S S.9)[c]?=en (x,b,e):=by
 have hp:=(gg.mp h).1;obtain⟨B,b,e,hb,es⟩:=kY hp;have e:occ NG (bgN S) (p+1)=B++[b]:=e;have hg:(occ NG (bgN S) S.9)[B.9]?=en b:=by
  rw[gS (n:=p+1) () (by rw[e,fq,ii];lia),e,ig (fm _),o8];rfl
 refine{B.9,by rw[e,fq,ii],b,?_};unfold J3 bgs;have hl:=(gg.mp hg).1;obtain⟨y,hy⟩:∃y,((occ NG (bgN S) S.9).drop 1++[S.9])[B.9]?=en y:={_,fc (by rw[fq,jb,ii];lia)};refine{y,?_};rw[fg,mf (z:=(b,y)) |>.mpr ⟨hg,hy⟩];show en (Aal S b y)=_;unfold Aal;rw[iq,es,h];rfl
end _W
end
section
namespace _L
open PySem PySem.Spec PyProof.Rows
section
variable {P:gm} {w:iz} {K:e7} {mg:Za2} {base:i8}
theorem Tf.okE {x:Str}{st:i7}{f c:fe}{k:Nat}(F:Tf K x qual st f fd c Pt)(S:Ah N ps (Ac st))(len:∀vs H Q E,sp vs H Q E->vs.9=ps.9)
  (hbody:∀(A:jd) (outer:List Env) (s:gb) (H:Hp) (vs:List V) (Q:VK) (E:XK),B9 k (A.deeper (envOfC qual (Ac st) s.heap.objs.8 f (.ref c)))->sp vs H Q E ->
   ∃t,PSs (Ce (CXE P w) P w K mg base N qual (Ac st) f (.ref c) A outer s H E) (Bg st) t/\t { nx:=λ_ H'=>Q .non H',rt:=Q } (Kx N vs) H):Aq P w K mg base (CXE P w) (k+1) f fd ps sp:=by
 obtain⟨oc,od,kV,doc,pm,an,ct,osl,rfl,lk,hcd⟩:=F.ex;exact kD lk hcd S len λA outer s H vs Q E hr hsp=>hbody A outer s H vs Q E hr hsp
end
end _L
end
section
namespace _W
theorem fV {ns:Za4}{x p:Nat}(h:itr ns p x=x):∀m,itr ns (p*m) x=x
 |0=>rfl
 |m+1=>by rw[JF,Oc,h,fV h m]
def Rc (ns:Za4)(x y:Nat):Prop:=∃s,s<ns.9/\nx ns (itr ns s x)=y
structure Rnd (ns R:Za4):Prop where
 len:R.9<=ns.9
 lt:∀a∈R,a<ns.9
 rc:∀a∈R,∀b∈R,Rc ns b a
section
variable {ns:Za4} (o:Ord ns) {x:Nat} (h:x<ns.9)
include o h
theorem Aam (t:Nat):Rc ns x (itr ns t x):=by
 obtain⟨j,hj,e⟩:=pS o h;have e1:itr ns t x=itr ns (t%(j+1)) x:=by
  have:=Oc ns (t%(j+1)) ((j+1)*(t/(j+1))) x;rw[GX,fV e] at this;exact this
 rw[e1];have hl:=sf t (show 0<j+1 by lia)
 cases hc:t%(j+1) with
 |zero=>exact⟨j,hj,e⟩
 |succ s=>
  rw[hc] at hl;exact{s,(),rfl}
theorem uB (t:Nat):Rc ns (itr ns t x) x:=by
 obtain⟨j,hj,e⟩:=pS o h;have e1:itr ns ((j+1)*t-t) (itr ns t x)=x:=by rw[<-Oc,Nat.sub_add_cancel (Nat.le_mul_of_pos_left t (JE j)),fV e]
 have:=Aam o (Hn o h t) ((j+1)*t-t);rw[e1] at this;exact this
theorem lJ {y z:Nat}(h1:Rc ns x y)(h2:Rc ns y z):Rc ns x z:=by
 obtain⟨a,_,rfl⟩:=h1;obtain⟨b,_,rfl⟩:=h2;have:=Aam o h (b+1+(a+1));rw[Oc] at this;exact this
theorem Ac2 {j:Nat}(hj:j<=ns.9):Rnd ns (seg ns j x):=by
 have key:∀a∈seg ns j x,∃t,itr ns t x=a:=λa ha=>let ⟨t,_,e⟩:=je.mp ha;⟨t,e⟩;refine{by rw[tH];exact hj,λa ha=>?_,λa ha b hb=>?_}
 .obtain⟨t,rfl⟩:=key a ha
  exact Hn o h t
 .obtain⟨t,rfl⟩:=key a ha
  obtain⟨u,rfl⟩:=key b hb;exact lJ o (Hn o h u) (uB o h u) (Aam o h t)
end
end _W
end
section
namespace _L
open PySem PySem.Spec PySem.W PyProof.Rows _W
def Xb {α:Type}(kz:Za6)(vs out:List α):Prop:=∃m:List (Str×α),m.Perm (kz.zip vs)/\sortedS (m.map (·.1))=NG/\out=m.map (·.2)
theorem Uy {n:Str}{t:Tok}:∀{vs:Za3} {ns:Za6},rp vs ns->rp (vs++[.str n t]) (ns++[n])
 |_,_,.nil=>.cons n t .nil
 |_,_,.cons x u h=>.cons x u (Uy h)
theorem J2:∀{vs:Za3} {ns:Za6},rp vs ns->vs.9=ns.9
 |_,_,.nil=>rfl
 |_,_,.cons _ _ h=>congrArg (·+1) (J2 h)
theorem kF:∀{vs:Za3} {ns:Za6},rp vs ns->∀(i:Nat) v,vs[i]?=en v->∃x t,v=.str x t/\ns[i]?=en x
 |_,_,.nil,i,v,h=>by cases h
 |_,_,.cons x t h,0,v,e=>{x,t,(fk e).symm,rfl}
 |_,_,.cons x t h,i+1,v,e=>kF h i v e
theorem pP {ss:Za6}(h:rp vs ss)(h2:2<=vs.9):keyKind' vs.6=pure oneType':=by
 match vs,h,h2 with
 |_::_::_,h,_=>exact keyKind_strs h
section
variable {prog:gm} {w:iz} {A:jd} {E:Za0} {s:gb}
theorem Ab1 {keys:Array fu}{xs:Array Keyed}(hk:rp keys.7 kz)(hp:xs.Perm (keys.zip vs.6))(hs:IQ strKind xs (keys.zip vs.6).8):Xb kz vs (xs.toList.map (·.2)):=by
 have hl:xs.toList.Perm (keys.toList.zip vs):=by rw[<-ksk_zip];exact Array.perm_iff_toList_perm.mp hp
 have hm:∀p,p∈xs.7->∃x t,p.1=rj x t:=λ⟨x,y⟩ h=>hk.all _ (pz (hl.mem_iff.mp h)).1;refine{xs.toList.map λp:Keyed=>(strOf p.1,p.2),?_,?_,by rw[jk];rfl}
 .have:=hl.map λp:Keyed=>(strOf p.1,p.2)
  have e2:(keys.toList.zip vs).map (λp:Keyed=>(strOf p.1,p.2))=kz.zip vs:=by
   rw[<-hk.strs,List.zip_map_left];exact jg λ⟨x,y⟩ _=>rfl
  rwa [e2] at this
 .rw[jk]
  refine sortedS_of_pairwise _ (me.mpr λi j hi hj hij=>?_);have hi':i<xs.8:=by simpa using hi
  have hj':j<xs.8:=by simpa using hj
  have h1:=hs i j (gy hij) (by rw[<-hp.size_eq];exact hj');obtain⟨x,t,ex⟩:=hm xs[i] (by simp);obtain⟨y,u,ey⟩:=hm xs[j] (by simp);rw[KK_str hi' (x:=x) (t:=t) (q:=xs[i].2) (y8 ex rfl),KK_str hj' (x:=y) (t:=u) (q:=xs[j].2) (y8 ey rfl)] at h1;simp only[zp,Array.getElem_toList,Function.comp];rw[show strOf xs[i].1=x by rw[ex];rfl,show strOf xs[j].1=y by rw[ey];rfl,ltCps_eq];exact h1
theorem Zf {a kS:fe}{keys:Array fu}{e e1:Nat}{st:SortSt}{P:BP->gb->Prop}(gk:s.heap.get? kS=en (seqObj "list" keys e))(ga:s.heap.get? a=en (seqObj "list" #[] e1))(hka:kS≠a)
  (hk:rp keys.7 kz)(hlen:kz.9=vs.9)(hz:vs.9<=sizeLine)(hp:(arrOf st).Perm (keys.zip vs.6))(hs:IQ strKind (arrOf st) (keys.zip vs.6).8)(hfl:failedOf st=p9)
  (h:∀h' out c,(∀b o,b≠a->b≠kS->s.heap.get? b=en o->h'.get? b=en o)->h'.get? a=en (seqObj "list" out c)->Xb kz vs out.7->P (.done (.ret .none)) { s with heap:=h' }) :
  wpAny (model prog w) A (ksk_tail a NH e1 (.ref kS) st) P E s:=by
 have hsz:keys.8=vs.9:=by
  have h1:=J2 hk;rw[ie] at h1;lia
 have s1:=rb s.5 kS (jn λ_=>(#[]:Array fu));have na1:(s.heap.update kS (jn λ_=>(#[]:Array fu))).get? a=en (seqObj "list" #[] e1):=(s1.2 a hka.symm).trans ga;have s2:=rb (s.heap.update kS (jn λ_=>(#[]:Array fu))) a (jn λ_=>(arrOf st).map (·.2));obtain⟨c2,hc2⟩:∃c2,((s.heap.update kS (jn λ_=>(#[]:Array fu))).update a (jn λ_=>(arrOf st).map (·.2))).get? a=en (seqObj "list" ((arrOf st).map (·.2)) c2):={_,BY na1 λ_=>(arrOf st).map (·.2)};have eo:Xb kz vs ((arrOf st).map (·.2)).7:=by
  rw[Array.toList_map];exact Ab1 hk hp hs
 have so:((arrOf st).map (·.2)).8<=sizeLine+1:=by
  rw[Array.size_map,hp.size_eq,GQ];lia
 unfold ksk_tail
 try dsimp only
 refine wpAny_bind (zm gk rfl ?_ (by rw[hsz];exact hz) (ij _));refine wpAny_bind (wpAny_letGo ?_);refine wpAny_bind (seqEpoch_at na1 rfl ?_);simp only[oh,if_false];refine wpAny_bind (zm na1 rfl ?_ (ij _) so);rw[hfl];simp only[bne_self_eq_false,oh,if_false];exact fw (h _ _ c2 (λb o h1 h2 q=>(s2.2 b h1).trans ((s1.2 b h2).trans q)) hc2 eo)
theorem Abr {a kS:fe}{keys:Array fu}{e e1:Nat}{P:BP->gb->Prop}(gk:s.heap.get? kS=en (seqObj "list" keys e))(ga:s.heap.get? a=en (seqObj "list" #[] e1))(hka:kS≠a)
  (hk:rp keys.7 kz)(hlen:kz.9=vs.9)(hz:vs.9<=sizeLine)(h64:vs.9<64)
  (h:∀h' out c,(∀b o,b≠a->b≠kS->s.heap.get? b=en o->h'.get? b=en o)->h'.get? a=en (seqObj "list" out c)->Xb kz vs out.7->P (.done (.ret .none)) { s with heap:=h' }) :
  wpAny (model prog w) A (ksk_end a NH vs.6 e1 (.ref kS) keys) P E s:=by
 have hsz:keys.8=vs.9:=by
  have h1:=J2 hk;rw[ie] at h1;lia
 have hzs:(keys.zip vs.6).8=vs.9:=by rw[GQ,hsz,gj,zk]
 unfold ksk_end
 try dsimp only
 simp only[oh,if_false]
 by_cases h2:vs.toArray.8<2
 .rw[if_pos h2,if_pos h2]
  refine wpAny_bind (fw ?_);rw[StateT.run_pure];refine wpAny_bind (fw ?_)
  try dsimp only
  refine Zf (st:=HX general' (keys.zip vs.6) #[] 7 p9) gk ga hka hk hlen hz (DO _) (λi j hij hj=>?_) rfl h;rw[hzs] at hj;rw[gj] at h2;rw[show i=j by lia];exact strKind.irrefl _
 .rw[if_neg h2,if_neg h2]
  rw[gj] at h2;rw[show keyKind' keys=pure oneType' from pP hk (by rw[ie,hsz];lia)];refine wpAny_bind (fw ?_);refine wpAny_bind (km (wpS_sortRunsK (κ:=strKind) strKind_oneLt (a₀:=keys.zip vs.6) (st:=HX oneType' (keys.zip vs.6) #[] 7 p9)
   (Q:=λ_ st'=>(arrOf st').Perm (keys.zip vs.6)/\failedOf st'=p9/\IQ strKind (arrOf st') (keys.zip vs.6).8) (λp hx=>?_) {DO _,rfl,rfl,rfl} (by rw[hzs];lia) (by rw[hzs];exact h64) λst' a1 a2 a3=>⟨a1,a2,a3⟩) ?_ λ_ _ e=>e)
  .rw[ksk_zip] at hx
   obtain⟨x,y⟩:=p;obtain⟨z,t,e⟩:=hk.all _ (pz hx).1;exact{z.cps.7,by rw[e]}
  rintro⟨⟨⟩,st'⟩ s' ⟨rfl,hp,hf,hs⟩
  try dsimp only
  exact Zf gk ga hka hk hlen hz hp hs hf h
theorem xF {a kS:fe}{f:fu}{e1:Nat}{mt:gb}{P:BP->gb->Prop}(gk:s.heap.get? kS=en (seqObj "list" #[] 0))(ga:s.heap.get? a=en (seqObj "list" #[] e1))(hka:kS≠a)(hn:mt.heap.get? kS=p9)
    (keep : Mb a mt.5 s.5)(hlen : kz.9 = vs.9)(hz : vs.9 <= sizeLine)(h64 : vs.9 < 64)
    (turn : ∀ (i : Nat) (v : fu) (k : Str), vs[i]? = en v->kz[i]? = en k->∀ (h : i8) (tk : Nat) (Q : fu->gb->Prop), Mb a mt.5 h ->
      (∀ t h' tk', (∀ b o, h.get? b = en o->h'.get? b = en o)->Q (.str k t) { s with heap := h', toks := tk' })->wpAny (model prog w) A (call f [v]) Q (λ_ _ => False) { s with heap := h, toks := tk })
    (h : ∀ h' tk out c, Mb a mt.5 h'->h'.get? a = en (seqObj "list" out c)->Xb kz vs out.7->P (.done (.ret .none)) { s with heap := h', toks := tk }) :
    wpAny (model prog w) A (ksk_rest a f NH vs.6 e1 (.ref kS)) P E s := by
  unfold ksk_rest;refine wpAny_bind (xw ?_)
  first
    | rw [List.forIn_toArray]
    | (rw [<- uq]; simp only [lj])
    | rw [<- uq]
  refine wpAny_bind (ksk_fold (λi s' => ∃ h' tk kA e, s' = { s with heap := h', toks := tk }/\Mb a mt.5 h'/\h'.get? kS = en (seqObj "list" kA e)/\h'.get? a = en (seqObj "list" #[] e1)/\rp kA.7 (kz.take i)) vs 0 s
    {s.5, s.toks, #[], 0, rfl, keep, gk, ga, by simpa using StrsAre.nil} ?step ?done)
  case step =>
    rintro j x s' hx ⟨h', tk, kA, e, rfl, K', gk', ga', hk⟩;simp only [mz] at hk ⊢;have hj : j < vs.9 := (gg.mp hx).1;obtain ⟨k, hkj⟩ : ∃ k, kz[j]? = en k := {_, fc ()};have hz2 : kA.8 < vs.9 := by
      have h1 := J2 hk;rw [ie, gq] at h1;lia
    refine wpAny_bind (uf (km (turn j x k hx hkj h' tk (λv s'' => ∃ (t : Tok) (g : i8) (tk2 : Nat), v = .str k t/\s'' = { s with heap := g, toks := tk2 }/\∀ b o, h'.get? b = en o->g.get? b = en o) K' λt2 g tk2 kg => ⟨t2, g, tk2, rfl, rfl, kg⟩) (λv s'' he => ?_) λ_ _ hF => hF.elim));obtain ⟨t2, g, tk2, rfl, rfl, kg⟩ := he
    try dsimp only
    have s1 := rb g kS (jn (·.push (.str k t2)));obtain ⟨c2, hc2⟩ : ∃ c2, (g.update kS (jn (·.push (.str k t2)))).get? kS = en (seqObj "list" (kA.push (.str k t2)) c2) := {_, BY (kg _ _ gk') (·.push (.str k t2))};have ek : kz.take (j + 1) = kz.take j ++ [k] := by rw [i6, hkj]; simp
    have ea : (kA.push (rj k t2)).7 = kA.7 ++ [rj k t2] := by simp
    refine wpAny_bind (zm (kg _ _ gk') rfl ?_ () (iy (q0 (we ..)) ()));exact fw {rfl, _, _, kA.push (.str k t2), c2, rfl, λb o hb q => (s1.2 b (λz => by rw [z, hn] at q; cases q)).trans (kg _ _ (K' b o hb q)), hc2, (s1.2 a hka.symm).trans (kg _ _ ga'), by rw [ea, ek]; exact Uy hk}
  case done =>
    rintro s' ⟨h', tk, kA, e, rfl, K', gk', ga', hk⟩;have hk' : rp kA.7 kz := by
      have e3 : kz.take (0 + vs.9) = kz := gp ();rw [e3] at hk;exact hk
    try dsimp only
    refine wpAny_bind (MU gk' rfl ?_);exact Abr gk' ga' hka hk' hlen hz h64 λh3 out c k3 g3 e3 => h h3 tk out c (λb o hb q => k3 b o hb (λz => by rw [z, hn] at q; cases q) (K' b o hb q)) g3 e3
theorem wT {a:fe}{f:fu}{n:Nat}{P:BP->gb->Prop}(ho:s.heap.get? a=en (seqObj "list" vs.6 n))(hlen:kz.9=vs.9)(hz:vs.9<=sizeLine)(h64:vs.9<64)
  (turn:∀(i:Nat) (v:fu) (k:Str),vs[i]?=en v->kz[i]?=en k->∀(h:i8) (tk:Nat) (Q:Za0),Mb a s.5 h ->
   (∀t h' tk',(∀b o,h.get? b=en o->h'.get? b=en o)->Q (.str k t) { s with heap:=h',toks:=tk' })->wpAny (model prog w) A (call f [v]) Q (λ_ _=>False) { s with heap:=h,toks:=tk })
  (h:∀h' tk out c,Mb a s.5 h'->h'.get? a=en (seqObj "list" out c)->Xb kz vs out.7->P (.done (.ret .none)) { s with heap:=h',toks:=tk }) :
  wpAny (model prog w) A (ksk_tree a f NH) P E s:=by
 have ha:a<s.heap.objs.8:=gi ho;have s1:=rb s.5 a (jn λ_=>(#[]:Array fu));obtain⟨e1,ho1⟩:∃e1,(s.heap.update a (jn λ_=>(#[]:Array fu))).get? a=en (seqObj "list" #[] e1):={_,BY ho λ_=>#[]};have hkS:((s.heap.update a (jn λ_=>(#[]:Array fu))).push (seqObj "tuple" vs.6 0)).objs.size=s.heap.objs.8+1:=by rw[size_push',o7]
 unfold ksk_tree;refine wpAny_bind (MU ho rfl ?_);refine wpAny_bind (zm ho rfl ?_ (by simpa using hz) (ij _));refine wpAny_bind (seqEpoch_at ho1 rfl ?_);refine wpAny_bind (LC ?_ (by show vs.9<=_;exact hz));refine wpAny_bind (LU ?_ (ij _));refine wpAny_holding ?_;exact xF (mt:=s) (s:={ s with heap:=((s.heap.update a (jn λ_=>(#[]:Array fu))).push (seqObj "tuple" vs.6 0)).push (seqObj "list" #[] 0) }) (kS:=((s.heap.update a (jn λ_=>(#[]:Array fu))).push (seqObj "tuple" vs.6 0)).objs.size)
  (gu _ rfl) (fj _ (fj _ ho1)) (by rw[hkS];exact j8 (FL ha)) (by rw[hkS];exact tm (qj _))
  (λb o hb q=>fj _ (fj _ ((s1.2 b hb).trans q))) hlen hz h64 turn h
end
theorem xB {out:Za3}{ns:List Int}(h:sr vs ns)(hs:Xb kz vs out):∃os,Xb kz ns os/\sr out os:=by
 obtain⟨m,h1,h2,rfl⟩:=hs;refine{(m.map (·.2)).map numOf,{m.map λp=>(p.1,numOf p.2),?_,?_,?_},?_}
 .have:=h1.map λp:Str×fu=>(p.1,numOf p.2)
  have e:(kz.zip vs).map (λp:Str×fu=>(p.1,numOf p.2))=kz.zip ns:=by
   rw[<-h.nums,List.zip_map_right];exact jg λ⟨x,y⟩ _=>rfl
  rwa [e] at this
 .rw[jk]
  exact h2
 .rw[jk,jk]
  rfl
 .refine So _ λv hv=>?_
  obtain⟨p,hp,rfl⟩:=je.mp hv;obtain⟨x,y⟩:=p;exact h.all _ (pz (h1.mem_iff.mp hp)).2
section
variable {prog:gm} {w:iz} {A:jd} {E:Za0} {s:gb}
theorem iP {arg:fu}{ns:List Int}{q:fe}{Q:Za0}(hlen:kz.9=ns.9)(hz:ns.9<=sizeLine)(h64:ns.9<64)
  (hcol:∀(E':Za0) (Q':Za3->gb->Prop),(∀vs h' tk,sr vs ns->(∀b o,s.heap.get? b=en o->h'.get? b=en o)->s.heap.objs.8<=h'.objs.8->Q' vs { s with heap:=h',toks:=tk })->wpAny (model prog w) A.in1 (collect arg) Q' E' s)
  (turn:∀(i:Nat) (n:Int) (k:Str) (t:Tok),ns[i]?=en n->kz[i]?=en k->∀(h:i8) (tk:Nat) (Q:Za0),(∀b o,s.heap.get? b=en o->h.get? b=en o) ->
   (∀t h' tk',(∀b o,h.get? b=en o->h'.get? b=en o)->Q (.str k t) { s with heap:=h',toks:=tk' })->wpAny (model prog w) A.in1.in1 (call (.ref q) [.int n t]) Q (λ_ _=>False) { s with heap:=h,toks:=tk })
  (h:∀D h' tk out c os,s.heap.objs.8<=D->(∀b o,s.heap.get? b=en o->h'.get? b=en o)->h'.get? D=en (seqObj "list" out c)->Xb kz ns os->sr out.7 os->Q (.ref D) { s with heap:=h',toks:=tk }) :
  wpAny (model prog w) A (call (.builtin "sorted") [arg] [(mq "key",.ref q)]) Q E s:=by
 refine call_function_entry_kw kind_sorted plain_sorted entry_sorted (ksk_s1 _ _) ?_;unfold ow.«sorted»;refine wpAny_bind (m:=checkCount "sorted" 1 1 _) (fw ?_);refine wpAny_bind (hcol _ _ λvs h1 tk1 hI k1 z1=>?_);have hlv:vs.9=ns.9:=hI.9;refine wpAny_bind (LU ?_ (by rw[hlv];exact hz));have hoL:(h1.push (seqObj "list" vs.6 0)).get? h1.objs.8=en (seqObj "list" vs.6 0):=gu _ rfl;have keep:∀b o,s.heap.get? b=en o->(h1.push (seqObj "list" vs.6 0)).get? b=en o:=λb o q=>fj _ (k1 b o q);have nD:∀b o,s.heap.get? b=en o->b≠h1.objs.8:=λb o q=>io (gh (gi q) z1);show wpAny _ _ _ _ _ { s with heap:=h1.push (seqObj "list" vs.6 0),toks:=tk1 };refine wpAny_bind (wpAny_holding (wpAny_call_entry_kw slot_list_sort {_,hoL,rfl} entry_list_sort ?body (ksk_l1 _ _)))
 case body=>
  show wpAny (model prog w) A.in1.in1 (ow.«list.sort» {[.ref h1.objs.8],[(mq "key",.ref q)]}) _ _ _;rw[ksk_t1];refine wT (kz:=kz) (s:={ s with heap:=h1.push (seqObj "list" vs.6 0),toks:=tk1 }) hoL (by rw[hlv];exact hlen) (by rw[hlv];exact hz) (by rw[hlv];exact h64) (λi v k e1 e2 h2 tk Q2 kb q2=>?_) λh2 tk out c kb g e=>?_
  .obtain⟨n,t,rfl,e3⟩:=hI.at i v e1
   exact turn i n k t e3 e2 h2 tk Q2 (λb o q=>kb b o (nD b o q) (keep b o q)) q2
  .obtain⟨os,e1,e2⟩:=xB hI e
   exact{_,rfl,fw {_,rfl,h _ h2 tk out c os z1 (λb o q=>kb b o (nD b o q) (keep b o q)) g e1 e2}}
end
section
variable {X:Cx}
def Adg (P:fe)(lpos:Pos)(qual:Str)(i:Nat)(ta:TE):TE:=λσ H Q=>ta σ H λx H1=>∃r l ds,x=.ref r/\σ[i]?=en (en (.ref l))/\H1 l=en (.lst (ds.map V.str))/\ds.9<64 /\
 H1 r=en (.rng 0 ds.9)/\O4 H1 P lpos qual /\
 ∀p os H',Oe P H1 H'->O4 H' P lpos qual->H1 p=p9->Xb ds (Dk ds.9) os->H' p=en (.lst (os.map V.int))->Q (.ref p) H'
theorem vR {a:ja}{ta:TE}{p pa pd pk pp kpos:Pos}{d k:Str}{i:Nat}{c P cl:fe}(hcal:X.calm=NG)(hr:B9 1 X.A)(hg:Gl X "sorted")(hm:X.mg "sorted"=p9)(ha:PE X a ta)
  (C:DM X.base c P)(hb:X.base.BuiltinsAt X.mg P)(hcode:X.env.code=.ref c)(hN:X.N[i]?=en d)(hkd:X.env.scope.names.lookup d=en .cell)(hce:X.env.cells.lookup d=en cl)
  (hcl:closureFor (Ou k d) X.env=pure [(d,cl)])(hq:X.env.qual++"<lambda>"=qual)
  (hbind:∀(pm cv ctv:fu) (n:Int) (t:Tok),bindArgs (FB "<lambda>" qual (fC k pa) (iQ k d pd pk pp) (Ou k d) [(d,cl)] pm cv ctv) {[.int n t],[]}=pure [(k,.int n t)])(hs:autoParam (starEach [a] X.env=[(NH,eval a X.env)]) QD)
  (ek:autoParam ((d==k)=NH) QF)(hd:autoParam ((d==("__classdict__":Str))=NH) QF)(nk:autoParam ((k==("__debug__":Str))=NH) QF)(nd:autoParam ((d==("__debug__":Str))=NH) QF) :
  PE X (.Call (.Name "sorted" p) [a] [{en "key",.Lambda (fC k pa) (iQ k d pd pk pp) (Ou k d) lpos,kpos}] pos) (Adg P lpos qual i ta):=by
 k_in;refine wpAny_Call_Name_kw (Dv I hg hm Xo (callWith_kw ?_ (by rw[hs];rfl) (by rw[hs];rfl) rfl rfl) (by decide) (by decide));rw[hs];refine lv ?_;show wpAny _ _ (eval a X.env) _ _ _;refine thE ha I h λv s1 x H1 I1 r1 h0=>cpZ λX0 k0=>?_;obtain⟨r,l,ds,ex,XI,hl,hz,hrr,hT,q⟩:=h0;refine k0 ?_;subst ex;obtain rfl:v=iw r:=r1;refine nj ?_;show wpAny _ _ (evalAll [(do let v <-eval (.Lambda (fC k pa) (iQ k d pd pk pp) (Ou k d) lpos) X.env;standAt pos;pure v)]) _ _ _;unfold evalAll;refine wpAny_bind (wpAny_bind (kI I1 hT C hb hcode hcl rfl hq λf c' oc pm ctv s2 H2 I2 hT2 sm hf0 hf hc' hoc=>?_));refine wpAny_bind (ql (fw ?_));unfold evalAll;refine wpAny_bind (wpAny_holding (fw (fw ?_)));show wpAny _ _ (call (.builtin "sorted") [.ref r] [(mq "key",.ref f)]) _ _ _;have hlP:l≠P:=λe=>by obtain⟨ps,e1,_⟩:=hT;rw[e,e1] at hl;cases hl
 have hl2:H2 l=en (.lst (ds.map V.str)):=sm _ _ hlP hl;obtain⟨_,its,nn,hv,hit⟩:=I2.hok l _ hl2;have hiI:rp its ds:=Nh hv;have hfo:s2.heap.get? f=en _:=(I2.hok f _ hf).1;have hco:s2.heap.get? c'=en oc:=(I2.hok c' _ hc').1;have hcell:s2.heap.IsCell cl (en (.ref l)):=by
  obtain⟨m,_,hlo⟩:=I2.loc;obtain⟨u,ru,lk⟩:=hlo i d (.ref l) hN XI (.inr (.inl hkd));obtain rfl:u=iw l:=ru;rcases lk with⟨hk,_⟩|⟨_,c2,hc2,hx⟩
  .have:en z9=en ph.local:=hkd.symm.trans hk
   cases this
  .rw[hce] at hc2
   cases hc2;exact hx
 have hlen:(Dk ds.9).9=ds.9:=by unfold Dk;rw[fb,fv]
 refine iP (ns:=Dk ds.9) (kz:=ds) hlen.symm (by rw[hlen];exact gy (DH hz (by decide))) (by rw[hlen];exact hz) (λE' Q' hQ=>?_) (λj n kk t e1 e2 h3 tk Q3 kp q3=>?_) λD h' tk out cc os hD kp hat hso hout=>?_
 .have hr1:=hrr
  .have hrP:r≠P:=λe=>by obtain⟨ps,e1,_⟩:=hT;rw[e,e1] at hr1;cases hr1
   obtain⟨t,u,v,hit2⟩:=I2.hok r _ (sm _ _ hrP hr1);exact vX (A:=X.A.in1) (n:=ds.9) (I.ok.hd hcal) hit2 () E' Q' hQ
 .have hj:j<ds.9:=(gg.mp e2).1
  obtain rfl:(j:Int)=n:=by
   unfold Dk at e1;rw[fg,gn hj] at e1;cases e1;rfl
  obtain⟨vk,hvk⟩:∃vk,its[j]?=en vk:={_,fc (by rw[J2 hiI];exact hj)};obtain⟨k2,tk2,rfl,e3⟩:=kF hiI j vk hvk;rw[e2] at e3;cases e3;refine nh (Abw (u:=.none) (kp _ _ hfo) (let ⟨vs,t,e1,e2⟩:=hoc;{c',oc,vs,t,rfl,kp _ _ hco,e1,e2}) (show X.A.depth<recursionLimit from B9.depth hr) ((I2.mod.nolimit.keeps I2.bk).keeps kp) (hbind _ _ _ _ _) rfl rfl rfl (by simp) ?_ (by simp) (by simp) hd nk nd (hcell.keeps kp) (its:=its.6) {_,kp _ _ hit,rfl,_,rfl} () () (by simpa using hvk) λh4 tk4 k4=>q3 tk2 h4 tk4 k4);show m3 d [(k,ph.local),(d,n8)]=en .free;simp[m3,ek]
 .have I3:Inv X pins σ (upd H2 D (.lst (os.map V.int))) { s2 with heap:=h',toks:=tk }:=I2.laid kp hD ⟨by
    obtain⟨m,h1,_,h3⟩:=hso;rw[fb,h3,fb,h1.length_eq,wt,hlen,zk];exact gy (DH hz (by decide)),out.7,cc,Pm hout,hat⟩
  have hD2:H2 D=p9:=I2.hok.fresh hD;have hD1:H1 D=p9:=by
   cases e:H1 D with
   |none=>rfl
   |some u=>
    by_cases hDP:D=P
    .obtain⟨ps,e1,_⟩:=hT2
     rw[hDP,e1] at hD2;cases hD2
    .rw[sm D u hDP e] at hD2;cases hD2
  refine{.ref D,_,I3,rfl,q D os _ (λb u hb e=>?_) ?_ hD1 hso Ae}
  .rw[Aj (λz=>by rw[z,hD1] at e;cases e)]
   exact sm b u hb e
  .obtain⟨ps,e1,e2,e3⟩:=hT2
   have nP:P≠D:=λz=>by rw[z,hD2] at e1;cases e1
   refine{ps,by rw[Aj nP];exact e1,e2,e3.imp id λ⟨c2,oc2,a1,a2,a3⟩=>{c2,oc2,a1,?_,a3}};rw[Aj (λz=>by rw[z,hD2] at a2;cases a2)];exact a2
end
end _L
end
namespace _K
open PySem _L _W
def top (i:Nat):i7:=i4.main.body.getD i (.Pass {0,0,0,0})
abbrev Dq:i7:=Ap (top 9) 0
theorem Vk:Ah ["self","place"] ["self","place"] (Ac Dq):=by k_cls
abbrev Nd:i7:=top 12
theorem mW:Ah ["thing"] ["thing"] (Ac Nd):=by k_cls
abbrev L7:i7:=top 13
theorem iB:Ah ["thing","low","high"] ["thing","low","high"] (Ac L7):=by k_cls
abbrev Li:i7:=top 14
theorem iE:Ah ["bit"] ["bit"] (Ac Li):=by k_cls
abbrev Jl:i7:=top 15
theorem Vw:Ah ["place","greatest"] ["place","greatest"] (Ac Jl):=by k_cls
abbrev G8:i7:=top 16
theorem Rm:Ah ["low","high","greatest"] ["low","high","greatest"] (Ac G8):=by k_cls
abbrev Kn:i7:=top 18
theorem Ym:Ah ["k","many_knots"] ["k","many_knots"] (Ac Kn):=by k_cls
abbrev Rl:i7:=top 23
theorem J5:Ah ["word","ones"] ["word"] (Ac Rl):=by k_cls
abbrev Gr:i7:=top 24
theorem Ln:Ah ["four","nth","places"] ["four","nth"] (Ac Gr):=by k_cls
theorem Rq:Ba ["four","nth","places"] (Ac Gr) {.function,[(".0",.local),("place",.local),("four",.free)],NH,NH,[]} "place" ["place","four"] [0]:=by k_cls
abbrev Rp:i7:=top 25
theorem Gm:Ah ["word","nth","low","ones"] ["word","nth"] (Ac Rp):=by k_cls
abbrev Xn:i7:=top 29
theorem wJ:Ah ["thing"] ["thing"] (Ac Xn):=by k_cls
abbrev P6:i7:=top 30
theorem qI:Ah ["signs"] ["signs"] (Ac P6):=by k_cls
abbrev Kc:i7:=top 31
theorem mY:Ah ["text"] ["text"] (Ac Kc):=by k_cls
theorem X5:Ba ["text"] (Ac Kc) {.function,[(".0",.local),("low",.local),("word_of",.globalImplicit),("WORD_BITS",.globalImplicit),("text",.free)],NH,NH,[]} "low" ["low","text"] [0]:=by k_cls
abbrev Kj:i7:=top 32
theorem lS:Ah ["word"] ["word"] (Ac Kj):=by k_cls
theorem X8:Ba ["word"] (Ac Kj) {.function,[(".0",.local),("low",.local),("SIGNS_OF_FOUR",.globalImplicit),("word",.free)],NH,NH,[]} "low" ["low","word"] [0]:=by k_cls
abbrev Lb:i7:=Ap (top 33) 0
theorem iZ:Ah ["self","text"] ["self","text"] (Ac Lb):=by k_cls
abbrev Lo:i7:=Ap (top 33) 1
theorem hX:Ah ["self"] ["self"] (Ac Lo):=by k_cls
abbrev Km:i7:=Ap (top 33) 3
theorem Yc:Ah ["self"] ["self"] (Ac Km):=by k_cls
abbrev Fw:i7:=Ap (top 33) 5
theorem Dp:Ah ["self","low","high","first","beyond","signs","begin"] ["self","low","high"] (Ac Fw):=by k_cls
theorem Pi:Ba ["self","low","high","first","beyond","signs","begin"] (Ac Fw) {.function,[(".0",.local),("word",.local),("signs_of",.globalImplicit)],NH,NH,[]} "word" ["word"] []:=by k_cls
abbrev Nr:i7:=Ap (top 33) 4
theorem lQ:Ah ["self","place"] ["self","place"] (Ac Nr):=by k_cls
abbrev J7:i7:=top 37
theorem Gq:Ah ["low","high","holds","middle"] ["low","high","holds"] (Ac J7):=by k_cls
abbrev Hr:i7:=top 38
theorem G5:Ah ["numbers","sums","number"] ["numbers"] (Ac Hr):=by k_cls
abbrev C5:i7:=top 39
theorem Iy:Ah ["words","blocks"] ["words"] (Ac C5):=by k_cls
theorem Mw:Ba ["words","blocks"] (Ac C5) {.function,[(".0",.local),("low",.local),("BLOCK_WORDS",.globalImplicit),("words",.free)],NH,NH,[]} "low" ["low","words"] [0]:=by k_cls
theorem Mv:Ba ["words","blocks"] (Ac C5) {.function,[(".0",.local),("block",.local),("sum",.globalImplicit)],NH,NH,[]} "block" ["block"] []:=by k_cls
theorem M4 (QQ:nr):Ba ["block"] QQ {.function,[(".0",.local),("word",.local),("ones_in",.globalImplicit)],NH,NH,[]} "word" ["word"] []:={rfl,by decide +kernel,by decide +kernel,(λy hy h=>absurd h ((by decide +kernel:∀y∈({.function,[(".0",.local),("word",.local),("ones_in",.globalImplicit)],NH,NH,[]}:nr).names,y.2≠n8) y hy)),by decide +kernel,rfl,rfl,rfl,by decide +kernel}
abbrev Ji:i7:=Ap (top 40) 0
theorem Vz:Ah ["self","bits"] ["self","bits"] (Ac Ji):=by k_cls
abbrev Em:i7:=Ap (top 40) 6
theorem Bb:Ah ["self","place","number","block","ones","word","rest"] ["self","place"] (Ac Em):=by k_cls
abbrev Hy:i7:=Ap (top 40) 2
theorem Kw:Ah ["self","bit","place","ones"] ["self","bit","place"] (Ac Hy):=by k_cls
abbrev C8:i7:=Ap (top 40) 7
theorem Es:Ah ["self","bit","block","ones"] ["self","bit","block"] (Ac C8):=by k_cls
abbrev E5:i7:=Ap (top 40) 8
theorem Mx:Ah ["self","bit"] ["self","bit"] (Ac E5):=by k_cls
abbrev Bn:i7:=Ap (top 40) 9
theorem Lq:Ah ["self","bit","nth"] ["self","bit","nth"] (Ac Bn):=by k_cls
theorem Jq:Ba ["self","bit","nth"] (Ac Bn) {.function,[("block",.local),("bit",.free),("nth",.free),("self",.free)],NH,NH,[]} "block" ["block","bit","nth","self"] [1,2,0]:=by k_cls
abbrev Ej:i7:=Ap (top 40) 10
theorem By:Ah ["self","bit","number","nth","flip","inside"] ["self","bit","number","nth"] (Ac Ej):=by k_cls
abbrev Fq:i7:=Ap (top 40) 3
theorem Ig:Ah ["self","bit","nth","block"] ["self","bit","nth"] (Ac Fq):=by k_cls
abbrev Iv:i7:=top 41
theorem Oo:Ah ["things","signs"] ["things"] (Ac Iv):=by k_cls
theorem U3:Dn ["things","signs"] (Ac Iv) {.function,[(".0",.local),("ahead",.local),("own",.local)],NH,NH,[]} "ahead" "own" ["ahead","own"] []:=by k_cls
abbrev Jf:i7:=top 43
theorem F4:Ah ["order","met","place","number"] ["order"] (Ac Jf):=by k_cls
abbrev Lg:i7:=top 44
theorem De:Ah ["order","rounds","met","least","places","place"] ["order"] (Ac Lg):=by k_cls
abbrev Ho:i7:=top 45
theorem Ez:Ah ["order","step","shortcuts","places","marked"] ["order","step"] (Ac Ho):=by k_cls
abbrev Ca:i7:=Ap (top 46) 0
theorem O0:Ah ["self","order","step"] ["self","order","step"] (Ac Ca):=by k_cls
abbrev Fz:i7:=Ap (top 46) 1
theorem Nz:Ah ["self","place"] ["self","place"] (Ac Fz):=by k_cls
abbrev D4:i7:=Ap (top 46) 4
theorem Br:Ah ["self","place","way","now"] ["self","place"] (Ac D4):=by k_cls
abbrev Gj:i7:=Ap (top 46) 2
theorem Pe:Ah ["self","place"] ["self","place"] (Ac Gj):=by k_cls
abbrev Kb:i7:=top 57
theorem Ep:Ah ["text","begin","height","heights","sign"] ["text","begin"] (Ac Kb):=by k_cls
abbrev Lr:i7:=top 63
theorem Fo:Ah ["text","height","place","sign"] ["text"] (Ac Lr):=by k_cls
abbrev Hw:i7:=Ap (top 59) 0
theorem Te:Ah ["self","length","table","often_least"] ["self","length","table","often_least"] (Ac Hw):=by k_cls
abbrev Ek:i7:=Ap (top 64) 4
theorem Lv:Ah ["self","place"] ["self","place"] (Ac Ek):=by k_cls
abbrev Gi:i7:=Ap (top 59) 9
theorem Oj:Ah ["self","place"] ["self","place"] (Ac Gi):=by k_cls
abbrev G7:i7:=Ap (top 64) 2
theorem R0:Ah ["self","low","high"] ["self","low","high"] (Ac G7):=by k_cls
abbrev Hq:i7:=Ap (top 59) 7
theorem Tc:Ah ["self"] ["self"] (Ac Hq):=by k_cls
abbrev Im:i7:=Ap (top 59) 8
theorem S7:Ah ["self"] ["self"] (Ac Im):=by k_cls
abbrev Dh:i7:=Ap (top 64) 0
theorem Et:Ah ["self","text","lows","begins","heights","table"] ["self","text"] (Ac Dh):=by k_cls
theorem S1:Ba ["self","text","lows","begins","heights","table"] (Ac Dh) {.function,[(".0",.local),("low",.local),("self",.free)],NH,NH,[]} "low" ["low","self"] [0]:=by k_cls
theorem S0:Dn ["self","text","lows","begins","heights","table"] (Ac Dh) {.function,[(".0",.local),("low",.local),("begin",.local),("heights_of",.globalImplicit),("STRETCH_BITS",.globalImplicit),("text",.free)],NH,NH,[]} "low" "begin" ["low","begin","text"] [1]:=by k_cls
theorem Sz:Dn ["self","text","lows","begins","heights","table"] (Ac Dh) {.function,[(".0",.local),("begin",.local),("some",.local),("min",.globalImplicit),("max",.globalImplicit)],NH,NH,[]} "begin" "some" ["begin","some"] []:=by k_cls
theorem Td:Ba ["self","text","lows","begins","heights","table"] (Ac Dh) {.function,[(".0",.local),("some",.local),("min",.globalImplicit)],NH,NH,[]} "some" ["some"] []:=by k_cls
abbrev E3:i7:=Ap (top 64) 8
theorem M0:Ah ["self","place"] ["self","place"] (Ac E3):=by k_cls
abbrev Ge:i7:=Ap (top 64) 9
theorem Os:Ah ["self","number"] ["self","number"] (Ac Ge):=by k_cls
abbrev Ew:i7:=Ap (top 59) 18
theorem Jr:Ah ["self","low","high","cuts"] ["self","low","high"] (Ac Ew):=by k_cls
theorem N0:Ba ["self","low","high","cuts"] (Ac Ew) {.function,[(".0",.local),("number",.local),("self",.free)],NH,NH,[]} "number" ["number","self"] [0]:=by k_cls
abbrev Fg:i7:=Ap (top 59) 19
theorem Hb:Ah ["self","low","height","row"] ["self","low","height"] (Ac Fg):=by k_cls
abbrev Cz:i7:=Ap (top 59) 21
theorem Iq:Ah ["self","low","high"] ["self","low","high"] (Ac Cz):=by k_cls
abbrev Du:i7:=Ap (top 59) 22
theorem Fv:Ah ["self","low","high","height","heights"] ["self","low","high","height"] (Ac Du):=by k_cls
abbrev Dw:i7:=Ap (top 59) 23
theorem Fy:Ah ["self","low","high","height","heights"] ["self","low","high","height"] (Ac Dw):=by k_cls
abbrev Hv:i7:=top 58
theorem S3:Ah ["height"] ["height"] (Ac Hv):=by k_cls
abbrev Fu:i7:=Ap (top 59) 13
theorem Dg:Ah ["self","place","height","low","high","found"] ["self","place","height"] (Ac Fu):=by k_cls
abbrev F2:i7:=Ap (top 59) 14
theorem Dj:Ah ["self","place","height","low","high","found"] ["self","place","height"] (Ac F2):=by k_cls
abbrev E7:i7:=Ap (top 64) 3
theorem My:Ah ["self","place"] ["self","place"] (Ac E7):=by k_cls
abbrev Fx:i7:=Ap (top 59) 10
theorem N8:Ah ["self","place"] ["self","place"] (Ac Fx):=by k_cls
abbrev D0:i7:=Ap (top 59) 20
theorem Gb:Ah ["self","low","high","number"] ["self","low","high"] (Ac D0):=by k_cls
abbrev Dl:i7:=Ap (top 59) 25
theorem Jp:Ah ["self","low","high"] ["self","low","high"] (Ac Dl):=by k_cls
abbrev Eh:i7:=Ap (top 59) 15
theorem Ft:Ah ["self","low","high","own","least"] ["self","low","high"] (Ac Eh):=by k_cls
theorem M6:Dn ["self","low","high","own","least"] (Ac Eh) {.function,[(".0",.local),("begin",.local),("end",.local),("self",.free)],NH,NH,[]} "begin" "end" ["begin","end","self"] [0]:=by k_cls
abbrev G3:i7:=Ap (top 64) 6
theorem R8:Ah ["self","number"] ["self","number"] (Ac G3):=by k_cls
abbrev Rx:i7:=top 68
theorem Ke:Ah ["elders","path","k","elder"] ["elders"] (Ac Rx):=by k_cls
abbrev K7:i7:=top 71
theorem Ks:Ah ["elders","depths","elder"] ["elders"] (Ac K7):=by k_cls
abbrev Ut:i7:=top 69
theorem Jw:Ah ["elders","signs","still_opened","depth"] ["elders"] (Ac Ut):=by k_cls
abbrev K4:i7:=top 70
theorem Hh:Ah ["text","elders","path","sign"] ["text"] (Ac K4):=by k_cls
abbrev G4:i7:=Ap (top 74) 0
theorem Rh:Ah ["self","pairs"] ["self","pairs"] (Ac G4):=by k_cls
abbrev Jm:i7:=Ap (top 76) 0
theorem T9:Ah ["self","elders"] ["self","elders"] (Ac Jm):=by k_cls
abbrev Dt:i7:=Ap (top 74) 1
theorem Ka:Ah ["self"] ["self"] (Ac Dt):=by k_cls
abbrev Ht:i7:=Ap (top 74) 3
theorem Ss:Ah ["self"] ["self"] (Ac Ht):=by k_cls
abbrev Fr:i7:=Ap (top 74) 2
theorem Ny:Ah ["self"] ["self"] (Ac Fr):=by k_cls
abbrev Fe:i7:=Ap (top 74) 4
theorem M5:Ah ["self","k"] ["self","k"] (Ac Fe):=by k_cls
abbrev Ff:i7:=Ap (top 74) 5
theorem M9:Ah ["self","k"] ["self","k"] (Ac Ff):=by k_cls
abbrev Fb:i7:=Ap (top 74) 6
theorem M1:Ah ["self","place"] ["self","place"] (Ac Fb):=by k_cls
abbrev Fa:i7:=Ap (top 74) 14
theorem M2:Ah ["self","k"] ["self","k"] (Ac Fa):=by k_cls
abbrev E8:i7:=Ap (top 74) 17
theorem C3:Ah ["self","one","other","low","high","least"] ["self","one","other"] (Ac E8):=by k_cls
abbrev Mt:i7:=top 50
theorem pG:Ah ["thing"] ["thing"] (Ac Mt):=by k_cls
theorem fQ:Ba ["thing"] (Ac Mt) {.function,[(".0",.local),("sign",.local),("LETTERS",.globalImplicit)],NH,NH,[]} "sign" ["sign"] []:=by k_cls
abbrev Jh:i7:=top 52
theorem Ib:Ah ["names","place","name"] ["names"] (Ac Jh):=by k_cls
abbrev Eb:i7:=top 53
theorem K1:Ah ["names","begins"] ["names"] (Ac Eb):=by k_cls
theorem O8:Ba ["names","begins"] (Ac Eb) {.function,[(".0",.local),("place",.local),("names",.free)],NH,NH,[]} "place" ["place","names"] [0]:=by k_cls
theorem Pc:Dn ["names","begins"] (Ac Eb) {.function,[(".0",.local),("begin",.local),("end",.local),("names",.free)],NH,NH,[]} "begin" "end" ["begin","end","names"] [0]:=by k_cls
abbrev Fs:i7:=top 54
theorem Bu:Ah ["elders","names","told","path","upward","k","elder","alike"] ["elders","names"] (Ac Fs):=by k_cls
abbrev Di:i7:=Ap (top 55) 0
theorem X4:Ah ["self","wood","names"] ["self","wood","names"] (Ac Di):=by k_cls
theorem Sy:Ba ["self","wood","names"] (Ac Di) {.function,[(".0",.local),("one",.local)],NH,NH,[]} "one" ["one"] []:=by k_cls
abbrev Eg:i7:=Ap (top 55) 10
theorem O3:Ah ["self","low","high"] ["self","low","high"] (Ac Eg):=by k_cls
theorem M3:Ba ["self","low","high"] (Ac Eg) {.function,[(".0",.local),("place",.local),("self",.free)],NH,NH,[]} "place" ["place","self"] [0]:=by k_cls
abbrev Kq:i7:=top 51
theorem Yg:Ah ["name"] ["name"] (Ac Kq):=by k_cls
abbrev Fd:i7:=Ap (top 55) 9
theorem Mz:Ah ["self","k","name"] ["self","k","name"] (Ac Fd):=by k_cls
abbrev Ha:i7:=Ap (top 55) 3
theorem Jt:Ah ["self","k","number"] ["self","k"] (Ac Ha):=by k_cls
abbrev G6:i7:=Ap (top 55) 11
theorem Rv:Ah ["self","name"] ["self","name"] (Ac G6):=by k_cls
abbrev Bv:i7:=Ap (top 55) 13
theorem Hc:Ah ["self","k","name","span"] ["self","k","name"] (Ac Bv):=by k_cls
theorem J4:Ba ["self","k","name","span"] (Ac Bv) {.function,[("place",.local),("k",.free),("self",.free)],NH,NH,[]} "place" ["place","k","self"] [1,0]:=by k_cls
abbrev Ed:i7:=Ap (top 55) 12
theorem F9:Ah ["self","k","name","behind"] ["self","k","name"] (Ac Ed):=by k_cls
abbrev Ic:i7:=Ap (top 55) 4
theorem K0:Ah ["self","name","span"] ["self","name"] (Ac Ic):=by k_cls
abbrev Dz:i7:=Ap (top 55) 5
theorem Gd:Ah ["self","k","name","span"] ["self","k","name"] (Ac Dz):=by k_cls
abbrev El:i7:=Ap (top 55) 6
theorem Gx:Ah ["self","k","name","span"] ["self","k","name"] (Ac El):=by k_cls
abbrev G9:i7:=Ap (top 55) 7
theorem Js:Ah ["self","k","name","place"] ["self","k","name"] (Ac G9):=by k_cls
abbrev Gf:i7:=Ap (top 55) 8
theorem Cs:Ah ["self","k","name","place","knot","meeting"] ["self","k","name"] (Ac Gf):=by k_cls
abbrev Jj:i7:=top 78
theorem Uc:Ah ["_law_script","_law_k"] ["_law_script","_law_k"] (Ac Jj):=by k_cls
abbrev Lf:i7:=top 80
theorem Oa:Ah ["_law_cell","_law_k","_law_once"] ["_law_cell","_law_k"] (Ac Lf):=by k_cls
abbrev J8:i7:=top 81
theorem En:Ah ["_law_script","_law_at","_law_many","_law_left","_law_found","_law_k"] ["_law_script","_law_at","_law_many"] (Ac J8):=by k_cls
abbrev N6:i7:=top 82
theorem Fh:Ah ["_law_digits_here","_law_elders","_law_path","_law_k"] ["_law_digits_here"] (Ac N6):=by k_cls
abbrev Fi:i7:=top 83
theorem Df:Ah ["_law_digits_here","_law_seed","_law_letters","_law_words","_law_k","_law_base","_law_at"] ["_law_digits_here","_law_seed"] (Ac Fi):=by k_cls
theorem Ud:Ba ["_law_digits_here","_law_seed","_law_letters","_law_words","_law_k","_law_base","_law_at"] (Ac Fi) {.function,[(".0",.local),("_law_digit",.local),("_law_seed",.free),("_law_words",.free)],NH,NH,[]} "_law_digit" ["_law_digit","_law_seed","_law_words"] [1,3]:=by k_cls
theorem Vm:Ba ["_law_digits_here","_law_seed","_law_letters","_law_words","_law_k","_law_base","_law_at"] (Ac Fi) {.function,[(".0",.local),("_law_k",.local),("_law_letters",.free),("_law_seed",.free)],NH,NH,[]} "_law_k" ["_law_k","_law_letters","_law_seed"] [2,1]:=by k_cls
theorem Xr:Dn ["_law_digits_here","_law_seed","_law_letters","_law_words","_law_k","_law_base","_law_at"] (Ac Fi) {.function,[(".0",.local),("_law_k",.local),("_law_word",.local)],NH,NH,[]} "_law_k" "_law_word" ["_law_k","_law_word"] []:=by k_cls
abbrev Lh:i7:=top 79
theorem iG:Ah ["_law_found"] ["_law_found"] (Ac Lh):=by k_cls
abbrev Ko:i7:=top 84
theorem L8:Ah ["_law_e","_law_some","_law_others"] ["_law_e"] (Ac Ko):=by k_cls
theorem Yn:Ba ["_law_e","_law_some","_law_others"] (Ac Ko) {.function,[(".0",.local),("_law_one",.local)],NH,NH,[]} "_law_one" ["_law_one"] []:=by k_cls
abbrev Ni:i7:=top 85
theorem Jb:Ah ["_law_wood_here","_law_names_here","_law_refused","_law_e"] ["_law_wood_here","_law_names_here"] (Ac Ni):=by k_cls
abbrev Rt:i7:=top 86
theorem E4:Ah ["_law_names_here","_law_number","_law_things","_law_found","_law_k","_law_more"] ["_law_names_here","_law_number"] (Ac Rt):=by k_cls
abbrev Gs:i7:=top 87
theorem T1:Ah ["_law_thing"] ["_law_thing"] (Ac Gs):=by k_cls
theorem Pq:Ba ["_law_thing"] (Ac Gs) {.function,[(".0",.local),("_law_sign",.local)],NH,NH,[]} "_law_sign" ["_law_sign"] []:=by k_cls
abbrev Pw:i7:=top 88
theorem Xw:Ah ["_law_names_here","_law_many","_law_place"] ["_law_names_here","_law_many"] (Ac Pw):=by k_cls
abbrev Lw:i7:=top 89
theorem Hi:Ah ["_law_told","_law_way","_law_k","_law_name","_law_refused","_law_e"] ["_law_told","_law_way","_law_k","_law_name"] (Ac Lw):=by k_cls
abbrev G2:i7:=top 90
theorem Ry:Ah ["_law_way","_law_many","_law_k","_law_name"] ["_law_way","_law_many","_law_k","_law_name"] (Ac G2):=by k_cls
abbrev Xy:i7:=top 91
theorem Ei:Ah ["_law_script","_law_many","_law_elders","_law_names_here","_law_k","_law_some","_law_handed","_law_told","_law_things","_law_knots","_law_cell","_law_number","_law_knot","_law_name","_law_way"] ["_law_script"] (Ac Xy):=by k_cls
theorem Aat:Ba ["_law_script","_law_many","_law_elders","_law_names_here","_law_k","_law_some","_law_handed","_law_told","_law_things","_law_knots","_law_cell","_law_number","_law_knot","_law_name","_law_way"] (Ac Xy) {.function,[(".0",.local),("_law_other",.local),("_law_told",.free)],NH,NH,[]} "_law_other" ["_law_other","_law_told"] [7]:=by k_cls
abbrev F8:Pos:={202,55,202,110}
abbrev Ls:Pos:={307,62,307,80}
abbrev Gw:Pos:={370,44,370,87}
def Ax (l:Za5):Str:={(l.map λb=>if b then 49 else 48).6}
def Ake:Option Nat->V
 |none=>.non
 |some p=>.int p
theorem uC (m:Nat):l5 (m:Int) 15=((m%16:Nat):Int):=by
 unfold l5;rw[decide_eq_true (lh m),decide_eq_true (by decide:(0:Int)<=15)];show((m &&& 15:Nat):Int)=_;rw[show(15:Nat)=2 ^ 4-1 by decide,sj]
theorem Adf (m:Nat):(m:Int)/2 ^ (4:Int).toNat=((m/16:Nat):Int):=by
 show(m:Int)/16=_;lia
theorem sS (r:Nat)(h:r<16):atI (fB.map λn:Nat=>V.int (n:Int)) (r:Int)=en (.int (pc r)):=by
 refine Bi ?_;rw[fg,xI r h];rfl
theorem Ai4 (m:Nat):l5 (m:Int) 1=((m%2:Nat):Int):=by
 unfold l5;rw[decide_eq_true (lh m),decide_eq_true (by decide:(0:Int)<=1)];show((m &&& 1:Nat):Int)=_;rw[Nat.and_one_is_mod]
theorem A9 (l:Za5):(Ax l).9=l.9:=by
 show(l.map _).toArray.size=_;rw[gj,fb]
theorem Zd (b:Bool)(k:Nat):Yp (sgn (if b then 49 else 48)) k=Ax (gd k b):=by
 refine Hf ?_;show(gd k [if b then 49 else 48]).flatten.toArray.toList=((gd k b).map _).toArray.toList;rw[lj,lj,List.map_replicate]
 induction k with
 |zero=>rfl
 |succ k ih=>
  rw[jf,jx,ih,jf];rfl
theorem C6 (l:Za5):(Ax l).cps.toList=l.map λb=>if b then 49 else 48:=by
 show(l.map _).toArray.toList=_;rw[lj]
theorem oZ (l:Za5):IB.bits (Ax l).cps.toList:=λc hc=>by
 rw[C6] at hc;obtain⟨b,_,rfl⟩:=je.mp hc;cases b
 .exact .inl rfl
 .exact .inr rfl
theorem gX (a b:Za5):Ax a++Ax b=Ax (a++b):=by
 refine Hf ?_;show((Ax a).cps++(Ax b).cps).7=_;rw[ub,C6,C6,C6,ge]
theorem Nb {α:Type}(l:List α)(a b:Nat):(l.drop (min a l.9)).take (min b l.9-min a l.9)=(l.drop a).take (b-a):=by
 by_cases h:a<=l.9
 .rw[j9 h]
  by_cases h2:b<=l.9
  .rw[j9 h2]
  .rw[sh (),gp (by rw[jb];lia),gp (by rw[jb];lia)]
 .have e:min a l.9=l.9:=()
  rw[e,kh (fm _),kh ()];simp
theorem P4 (l:Za5)(a b:Nat):Pa (Ax l) (en (a:Int)) (en (b:Int))=Ax ((l.drop a).take (b-a)):=by
 refine Hf ?_;show(ul _ (um _ _)).toArray.toList=_;rw[lj,_T.sIx_nat,_T.sIx_nat];have e:(Ax l).cps.size=l.9:=A9 l;rw[e,C6,C6,pi,sk];have:=Nb (l.map λb=>if b=NG then 49 else 48) a b;rw[fb] at this;exact this
theorem Xf (xs:List V)(a b:Nat):Fc xs (en (a:Int)) (en (b:Int))=(xs.drop a).take (b-a):=by
 unfold Fc;rw[_T.sIx_nat,_T.sIx_nat];exact Nb xs a b
theorem Z6 (l:Za5):Ps (Ax l) 49=l.count NG/\Ps (Ax l) 48+Ps (Ax l) 49=l.9:=by
 unfold Ps;rw[C6]
 induction l with
 |nil=>exact⟨rfl,rfl⟩
 |cons b r ih=>cases b<;>simp[qb]<;>lia
theorem Agd (l:Za5):IB.v2 (X6 (Ax l)).cps.toList=val l:=by
 show IB.v2 (Ax l).cps.toList.reverse.toArray.toList=_;rw[lj,C6,<-FP];unfold IB.v2;rw[List.foldl_map];have e:=tJ l 0;rw[Nat.zero_mul,mz] at e;rw[<-e];congr 1
 funext a b
 cases b<;>rfl
abbrev nV (ns:Za4):List V:=ns.map λn:Nat=>V.int n
theorem Aei (ns:Za4):nV ns=(ns.map λn:Nat=>(n:Int)).map V.int:=by rw[jk];rfl
theorem Ll (f:Nat->Nat)(i:Nat):nV ((ft (i+1)).map f)=nV ((ft i).map f)++[V.int (f i:Nat)]:=by
 unfold nV;rw[jo,ge,ge];rfl
theorem yY (ns:Za4):(ns.map λn:Nat=>(n:Int)).sum=(ns.sum:Nat):=by
 induction ns with
 |nil=>rfl
 |cons n r ih=>rw[jh,yj,ih,yj];lia
theorem Vl (n d:Nat)(hd:0<d):Cr 0 (n:Int) (d:Int)=(n+d-1)/d:=by
 unfold Cr;rw[show(n:Int)-0+(d:Int)-1=((n+d-1:Nat):Int) by lia,<-su,gr]
theorem few {n:Nat}(h:n<=1000):n<=sizeLine:=gy (Dr h)
theorem Ai {n:Nat}(h:n<=100000):n<sizeLine:=qd h (by decide)
theorem gU {l:Za5}{i c:Nat}(h:(Ax l).cps[i]?=en c):∃b,l[i]?=en b/\c=if b then 49 else 48:=by
 have e:(Ax l).cps.toList[i]?=en c:=by rw[j6];exact h
 rw[C6,fg] at e
 cases hb:l[i]? with
 |none=>rw[hb] at e;cases e
 |some b=>
  rw[hb] at e;exact{b,rfl,(fk e).symm}
theorem Bt {α:Type}{l:List α}{i:Nat}{b:α}(h:l[i]?=en b):i<l.9:=(gg.mp h).1
def KL (K : e7)(c : fe) : List (fu × Bool)->Prop
  | [] => True
  | (v, b) :: l => kitOne K (.ref c) v = en b/\KL K c l
theorem KL.d {K:e7}{c:fe}:∀(n:Nat) {l:List (fu×Bool)},KL K c l->KL K c (l.drop n)
 |0,_,h=>h
 |_+1,[],h=>h
 |n+1,_::_,h=>KL.d n h.2
def isI:V->Bool
 |.int _=>NG
 |_=>NH
def inI:V->Int->Int->Bool
 |.int i,lo,hi=>decide (lo<=i)&&decide (i<=hi)
 |_,_,_=>NH
theorem Tx (i lo hi:Int):inI (.int i) lo hi=(decide (lo<=i)&&decide (i<=hi)):=rfl
def Any (K:e7)(H:Hp)(x:V):Prop:=∃t b1 b2,Kh K H x t/\kitOne K t (.type "int")=en b1/\kitOne K t (.type "bool")=en b2/\(b1&&!b2)=isI x
section
variable {K:e7} {H H':Hp}
theorem Je (i:Int):Any K H (.int i):={_,NG,NH,.int i,by rfl,by rfl,rfl}
theorem Ah5 (b:Bool):Any K H (.bl b):={_,NG,NG,.bl b,by rfl,by rfl,rfl}
theorem Adx:Any K H .non:={_,NH,NH,.non,by rfl,by rfl,rfl}
theorem Ad1 (z:Str):Any K H (.str z):={_,NH,NH,.str z,by rfl,by rfl,rfl}
theorem Aew {a:fe}(h:H a=en (.tup xs)):Any K H (.ref a):={_,NH,NH,.tup h,by rfl,by rfl,rfl}
theorem Acy {a:fe}(h:H a=en (.lst xs)):Any K H (.ref a):={_,NH,NH,.lst h,by rfl,by rfl,rfl}
theorem Kh.same {x:V}{t:fu}(s:Ag H H')(h:Kh K H x t):Kh K H' x t:=by
 cases h with
 |non=>exact .non
 |bl b=>exact .bl b
 |int i=>exact .int i
 |str z=>exact .str z
 |flt z=>exact .flt z
 |lst e=>exact .lst (s _ _ e)
 |frz e=>exact .frz (s _ _ e)
 |tup e=>exact .tup (s _ _ e)
 |dK e=>exact .dK (s _ _ e)
 |dT e=>exact .dT (s _ _ e)
 |ins e cl ha hn htk hm=>exact .ins (s _ _ e) cl ha hn htk hm
theorem Ahg {x:V}(h:isI x=NG):∃i,x=.int i:=by cases x<;>first|exact{_,rfl}|cases h
end
theorem On {l:Za5}{j:Nat}(h:j<Bx l.9):atI (nV (wordsOf l)) (j:Int)=en (.int (val (A4 l j):Nat)):=by
 refine Bi ?_;unfold nV _W.wordsOf;rw[fg,fg,gn h];rfl
theorem Aco (ns:List Int)(lo hi:Option Int):∃ms:List Int,Fc (ns.map V.int) lo hi=ms.map V.int/\ms.9<=ns.9:=by
 refine{(ns.drop (_T.sIx (ns.map V.int).9 0 lo)).take (_T.sIx (ns.map V.int).9 (ns.map V.int).9 hi-_T.sIx (ns.map V.int).9 0 lo),?_,?_}
 .unfold Fc
  rw[pi,sk]
 .rw[gq,jb]
  lia
theorem Hk {H5 H6:Hp}{xb dxb:fe}(nb1:H5 xb=p9)(nb2:H5 dxb=p9)(s6:SameBut xb (upd (upd H5 dxb (.own xb)) xb (.ins C dxb [])) H6):Ag H5 H6:=λb u e=>by
 have e1:b≠xb:=An e nb1;have e2:b≠dxb:=An e nb2;exact s6 _ _ e1 (by rw[Aj e1,Aj e2];exact e)
def rT:List V:=[.str "0000",.str "1000",.str "0100",.str "1100",.str "0010",.str "1010",.str "0110",.str "1110",.str "0001",.str "1001",.str "0101",.str "1101",.str "0011",.str "1011",.str "0111",.str "1111"]
theorem Aa9 (m k:Nat){j:Int}(h:j=(k:Int)):l5 (m:Int) (1*2 ^ j.toNat-1)=((m%2 ^ k:Nat):Int):=by
 subst h;rw[gr,Int.one_mul];have e:((2:Int) ^ k-1)=((2 ^ k-1:Nat):Int):=by
  have:1<=2 ^ k:=Nat.one_le_two_pow;rw[Int.natCast_sub this,Int.natCast_pow];rfl
 rw[e];unfold l5;rw[decide_eq_true (lh m),decide_eq_true (lh (2 ^ k-1))];show((m &&& (2 ^ k-1):Nat):Int)=_;rw[sj]
theorem Ad9 {n:Nat}(h:n<2 ^ 32):n ||| 4294967295=4294967295:=by
 refine xy λi=>?_;rw[Nat.testBit_or,show(4294967295:Nat)=2 ^ 32-1 by decide,AS]
 by_cases hi:i<32
 .rw[decide_eq_true hi,IK]
 .rw[decide_eq_false hi,BW]
  exact Nat.testBit_lt_two_pow (gh h (EG (by decide) ()))
theorem pB (m k:Nat):wx (m:Int) (k:Int)=((m ||| k:Nat):Int)-((m &&& k:Nat):Int):=by
 have hn:∀x:Int,m4 (m4 x)=x:=λx=>by unfold m4;lia
 have ho:FU (m:Int) (k:Int)=((m ||| k:Nat):Int):=by
  unfold FU l5;rw[decide_eq_false (show ¬(0:Int)<=m4 (m:Int) by unfold m4;lia),decide_eq_false (show ¬(0:Int)<=m4 (k:Int) by unfold m4;lia)];show m4 (m4 _)=_;rw[hn,hn,hn,gr,gr]
 have ha:l5 (m:Int) (k:Int)=((m &&& k:Nat):Int):=by
  unfold l5;rw[decide_eq_true (lh m),decide_eq_true (lh k)];rfl
 unfold wx;rw[ho,ha]
theorem Yy:∀w:Za5,val w+val (w.map λb=>!b)+1=2 ^ w.9
 |[]=>rfl
 |b::r=>by
  have:=Yy r;rw[jh,iu,wo];cases b<;>simp[val]<;>lia
theorem Vb (b:Bool)(l:Za5)(j:Nat):wx ((val (A4 l j):Nat):Int) ((Op b:Nat):Int)=((val (A4 l j) ^^^ Op b:Nat):Int):=by
 have hlt:val (A4 l j)<2 ^ 32:=gh (Abk _) (EG (by decide) (by unfold A4;rw[gq];lia));have h1:=Mm NG l j;have h0:=Mm b l j;rw[pB,h0]
 cases b with
 |true=>
  rw[<-h0];show(((val (A4 l j) ||| 0:Nat):Int)-((val (A4 l j) &&& 0:Nat):Int))=((val (A4 l j) ^^^ 0:Nat):Int);rw[Nat.or_zero,Nat.and_zero,JD];lia
 |false=>
  show(((val (A4 l j) ||| 4294967295:Nat):Int)-((val (A4 l j) &&& 4294967295:Nat):Int))=_;rw[Ad9 hlt,show(4294967295:Nat)=2 ^ 32-1 by decide,sj,Nat.mod_eq_of_lt hlt];have hc:=Yy ((ft 32).map λp=>l.getD (32*j+p) NH==NG);rw[<-h1,jk,fb,fv] at hc;have e:((ft 32).map ((λb=>!b) ∘ λp=>l.getD (32*j+p) NH==NG))=(ft 32).map λp=>l.getD (32*j+p) NH==NH:=jg λp _=>by
   show(!(l.getD (32*j+p) NH==NG))=_;cases l.getD (32*j+p) NH<;>rfl
  rw[e] at hc;have e0:val (A4 l j) ^^^ Op NG=val (A4 l j):=JD _;rw[e0] at hc;lia
theorem Cp (l:Za4):(nV l).9=l.9:=by unfold nV;rw[fb]
theorem Zs {l:Za4}{i:Nat}{n:Nat}(h:l[i]?=en n):(nV l)[i]?=en (.int (n:Nat)):=by
 unfold nV;rw[fg,h];rfl
theorem Abd (l m:Za4):nV l++nV m=nV (l++m):=by unfold nV;rw[ge]
theorem A6 {a:fe}{o:HO}(s:Ag H H1)(h:H a=p9):Ag H (upd H1 a o):=λb u e=>by
 rw[Aj (An e h)];exact s _ _ e
theorem X0 {K:e7}:kitOne K (.type "list") (.type "list")=en NG:=by rfl
theorem sU {l:List Int}{i:Nat}{n:Int}(h:l[i]?=en n):(l.map V.int)[i]?=en (.int n):=by
 rw[fg,h];rfl
theorem U6 {l:List Int}{i:Nat}{x:V}(h:(l.map V.int)[i]?=en x):∃n,l[i]?=en n/\x=.int n:=by
 rw[fg] at h
 cases e:l[i]? with
 |none=>rw[e] at h;cases h
 |some n=>
  rw[e] at h;exact{n,rfl,(fk h).symm}
theorem Mg {l:List Int}{m:Nat}{x:Int}(h0:0<m)(h:l[m-1]?=en x):atI ((l.take m).map V.int) (-1)=en (.int x):=by
 have hm:=Bt h;have e:l.take m=l.take (m-1)++[x]:=by
  rw[show m=m-1+1 by lia,i6,h];rfl
 rw[e,ge];exact mR _ _
theorem Jz {l:List Int}{m:Nat}(h:m<=l.9):((l.take m).map V.int).9=m:=by rw[fb,gq];lia
theorem Zy {l:List Int}{m:Nat}(h:m<=l.9):((l.take m).map V.int).dropLast=(l.take (m-1)).map V.int:=by
 rw[<-List.map_dropLast,List.dropLast_eq_take,AT,gq];congr 2;lia
def Z0 (H:Hp)(p:fe):Nat:=match H p with|some (.lst xs)=>xs.9|_=>0
theorem Gz {p:fe}(h:H p=en (.lst xs)):Z0 H p=xs.9:=by unfold Z0;rw[h]
theorem nH {K:e7}{Q:VK}{p:fe}{ls:List (Za5)}(hl:H1 p=en (.lst (ls.map λl=>.str (Ax l))))(hz:ls.flatten.9<=100000)(q:Q (.str (Ax ls.flatten)) H1):Aa1 K (.str "") [.ref p] H1 Q:=by
 refine{"",p,ls.map Ax,rfl,rfl,SqL.of ?_,?_,?_}
 .rw[hl,jk]
  rfl
 .have e:((ls.map Ax).map (·.length)).sum=ls.flatten.9:=by
   rw[List.length_flatten,jk];congr 1;refine jg λl _=>?_;exact A9 l
  rw[e];show ls.flatten.9+_*0<=_;lia
 .have e:uv ("":Str) (ls.map Ax)=Ax ls.flatten:=by
   refine Hf ?_;rw[N5,jk];show((ls.map λl=>(l.map λb=>if b then 49 else 48).toArray.toList)).flatten=(ls.flatten.map _).toArray.toList;simp only[lj];rw[List.map_flatten]
  rw[e];exact q
theorem R1 {ds:Za4}(h:Dok ds):∀k,k<=ds.9->opn ds k<=k
 |0,_=>fm _
 |k+1,hk=>by
  show dAt ds k+1<=k+1;have:=h k ();have:=R1 h k ();lia
theorem Lj {ds:Za4}{d j:Nat}(h:j<ds.9):dAt (ds++[d]) j=dAt ds j:=by
 unfold dAt l8;rw[gv h]
theorem Pl (ds:Za4)(d:Nat):dAt (ds++[d]) ds.9=d:=by
 unfold dAt l8;rw[ig (fm _),o8];rfl
theorem O6 {ds:Za4}{d:Nat}:∀k,k<=ds.9->opn (ds++[d]) k=opn ds k
 |0,_=>rfl
 |k+1,h=>by
  show dAt (ds++[d]) k+1=dAt ds k+1;rw[Lj ()]
theorem Pj {ds:Za4}{d:Nat}:∀k,k<=ds.9->way (ds++[d]) k=way ds k
 |0,_=>rfl
 |k+1,h=>by
  show(way (ds++[d]) k).take (dAt (ds++[d]) k+1)++[(k:Int)]=_;rw[Pj k (),Lj ()];rfl
theorem jZ {ds:Za4}{d:Nat}(h:Dok ds)(hd:d<=opn ds ds.9):Dok (ds++[d]):=λk hk=>by
 rw[fq] at hk;simp only[iu,kl] at hk
 by_cases e:k=ds.9
 .subst e
  rw[Pl,O6 _ (fm _)];exact hd
 .rw[Lj (),O6 k ()]
  exact h k ()
theorem Z3 (ds:Za4)(d:Nat):F6 (ds++[d])=F6 ds++[(way ds ds.9).getD d 0]:=by
 unfold F6;rw[fq];show(ft (ds.9+1)).map _=_;rw[jo,ge];congr 1
 .refine jg λk hk=>?_
  have hk:=ki.mp hk;unfold eld;rw[Pj k (),Lj hk]
 .show[eld (ds++[d]) ds.9]=_
  unfold eld;rw[Pj _ (fm _),Pl]
theorem jU (ds:Za4)(d:Nat):way (ds++[d]) (ds.9+1)=(way ds ds.9).take (d+1)++[(ds.9:Int)]:=by
 show(way (ds++[d]) ds.9).take (dAt (ds++[d]) ds.9+1)++_=_;rw[Pj _ (fm _),Pl]
theorem Abj {ds:Za4}(h:Dok ds){k:Nat}(hk:k<=ds.9):way ds k=-1::(way ds k).tail:=by
 have e:=Ph h k hk
 cases hw:way ds k with
 |nil=>rw[hw] at e;cases e
 |cons x r=>
  rw[hw] at e;obtain rfl:=fk e;rfl
def isS:V->Bool
 |.str _=>NG
 |_=>NH
def Rf (K:e7)(H:Hp)(x:V):Prop:=∃t,Kh K H x t/\kitOne K t (.type "str")=en (isS x)
section
variable {K:e7} {H H':Hp}
theorem yD (i:Int):Rf K H (.int i):={_,.int i,by rfl}
theorem Ac1 (b:Bool):Rf K H (.bl b):={_,.bl b,by rfl}
theorem Aas:Rf K H .non:={_,.non,by rfl}
theorem Ace (z:Str):Rf K H (.str z):={_,.str z,by rfl}
theorem Aak {a:fe}(h:H a=en (.tup xs)):Rf K H (.ref a):={_,.tup h,by rfl}
theorem zP {a:fe}(h:H a=en (.lst xs)):Rf K H (.ref a):={_,.lst h,by rfl}
theorem Aay {a:fe}{xs:List (Key×V)}(h:H a=en (.dK xs)):Rf K H (.ref a):={_,.dK h,by rfl}
theorem Rf.same {x:V}(s:Ag H H')(h:Rf K H x):Rf K H' x:=let ⟨t,h1,r⟩:=h;{t,Kh.same s h1,r}
end
def hgt (l:Za5)(i:Nat):Int:=2*((l.take i).count NG:Int)-i
theorem K8 {l:Za5}{i:Nat}{b:Bool}(h:l[i]?=en b):hgt l (i+1)=hgt l i+if b then 1 else -1:=by
 unfold hgt;rw[i6,h,va];cases b<;>simp<;>lia
theorem Yv {ds:Za4}{d:Nat}:∀k,k<=ds.9->Xq (ds++[d]) k=Xq ds k
 |0,_=>rfl
 |k+1,h=>by
  rw[Mu,Mu,Yv k ()];unfold B8;rw[O6 k (),Lj ()]
theorem sQ {row:Za5}{i:Nat}{b:Bool}(h:row[i]?=en b):row.drop i=b::row.drop (i+1):=by
 have hi:=Bt h;rw[ng hi];rw[fc hi] at h;rw[fk h]
theorem Vv {row:Za5}(hv:Vs 0 row):∀i,i<=row.9->∃h:Nat,hgt row i=(h:Int)/\Vs h (row.drop i)/\True
 |0,_=>{0,rfl,hv,trivial}
 |i+1,hi=>by
  obtain⟨h,h1,h2,_⟩:=Vv hv i ();obtain⟨b,hb⟩:∃b,row[i]?=en b:={row[i],fc ()};have hs:=K8 hb;rw[sQ hb] at h2
  cases b with
  |false=>
   obtain⟨g,rfl⟩:∃g,h=g+1:={h-1,by have:=h2.1;lia};have hs:hgt row (i+1)=hgt row i + -1:=hs;exact{g,(),h2.2,trivial}
  |true=>
   have hs:hgt row (i+1)=hgt row i+1:=hs;exact{h+1,(),h2,trivial}
structure Hx (H H':Hp):Prop where
 keep:∀b u,(∀ps,u≠.tbl ps)->H b=en u->H' b=en u
 tb:∀b ps,H b=en (.tbl ps)->∃ps',H' b=en (.tbl ps')
theorem Hx.refl (H:Hp):Hx H H:={λ_ _ _ e=>e,λ_ ps e=>⟨ps,e⟩}
theorem Hx.trans (a:Hx H H1)(b:Hx H1 H2):Hx H H2:={λc u n e=>b.keep c u n (a.keep c u n e),λc ps e=>let ⟨ps',e'⟩:=a.tb c ps e;b.tb c ps' e'}
theorem Hx.tup (s:Hx H H'){a:fe}(h:H a=en (.tup xs)):H' a=en (.tup xs):=s.keep _ _ (by intro ps e;cases e) h
theorem Hx.seq {K:e7}{a:fe}(s:Hx H H')(h:SqL K H a xs):SqL K H' a xs:=by
 rcases h with(h|⟨o,h⟩)|h
 .exact .inl (.inl (s.keep _ _ (by intro ps e;cases e) h))
 .exact .inl (.inr {o,s.keep _ _ (by intro ps e;cases e) h})
 .exact .inr h
theorem zC (s:Ag H H'):Hx H H':={λb u _ e=>s b u e,λb ps e=>{ps,s b _ e}}
structure Tb where
 P:fe
 pos:Pos
 qual:Str
def Tb.ok (t:Tb)(H:Hp):Prop:=O4 H t.P t.pos t.qual
theorem Tb.same {t:Tb}(s:Ag H H')(h:t.ok H):t.ok H':=by
 obtain⟨ps,e1,e2,e3⟩:=h;exact{ps,s _ _ e1,e2,e3.imp id λ⟨c,oc,a1,a2,a3⟩=>{c,oc,a1,s _ _ a2,a3}}
theorem Tb.sameX {t:Tb}{P:fe}(s:Oe P H H')(hP:∃ps,H P=en (.tbl ps))(n:t.P≠P)(h:t.ok H):t.ok H':=by
 obtain⟨ps,e1,e2,e3⟩:=h;obtain⟨ps',hP⟩:=hP;exact{ps,s _ _ n e1,e2,e3.imp id λ⟨c,oc,a1,a2,a3⟩=>{c,oc,a1,s _ _ (λz=>by rw[z,hP] at a2;cases a2) a2,a3}}
theorem Ad4 {P:fe}(s:Oe P H H')(hP:∃ps,H P=en (.tbl ps))(hP':∃ps,H' P=en (.tbl ps)):Hx H H':=by
 refine{λb u n e=>s b u (λz=>?_) e,λb ps e=>?_}
 .obtain⟨ps,hP⟩:=hP
  rw[z,hP] at e;cases e;exact n ps rfl
 .by_cases hb:b=P
  .rw[hb];exact hP'
  .exact{ps,s b _ hb e}
theorem Tb.tbl {t:Tb}(h:t.ok H):∃ps,H t.P=en (.tbl ps):=let ⟨ps,e,_⟩:=h;⟨ps,e⟩
def Tbs (ts:List Tb)(H:Hp):Prop:=(∀t∈ts,t.ok H)/\(ts.map (·.P)).Nodup
structure SmT (ts:List Tb) (H H':Hp):Prop where
 sm:Hx H H'
 ok:Tbs ts H'
theorem Tbs.same {ts:List Tb}(h:Tbs ts H)(s:Ag H H'):Tbs ts H':={λt ht=>Tb.same s (h.1 t ht),h.2}
theorem SmT.of {ts:List Tb}(h:Tbs ts H)(s:Ag H H'):SmT ts H H':={zC s,h.same s}
theorem SmT.refl {ts:List Tb}(h:Tbs ts H):SmT ts H H:={Hx.refl _,h}
theorem SmT.trans {ts:List Tb}(a:SmT ts H H1)(b:SmT ts H1 H2):SmT ts H H2:={a.sm.trans b.sm,b.ok}
theorem SmT.then {ts:List Tb}(a:SmT ts H H1)(b:Ag H1 H2):SmT ts H H2:=a.trans (.of a.ok b)
theorem SmT.k {ts:List Tb}(s:SmT ts H H'){b:fe}{u:HO}(h:H b=en u)(n:autoParam (∀ps,u≠.tbl ps) Qb_):H' b=en u:=s.sm.keep _ _ n h
theorem zA:∀{ts:List Tb} {t u:Tb},(ts.map (·.P)).Nodup->t∈ts->u∈ts->t.P=u.P->t=u
 |[],_,_,_,h,_,_=>nomatch h
 |x::r,t,u,hn,ht,hu,e=>by
  rw[jh,tu] at hn;rcases i5.mp ht with rfl|ht'<;>rcases i5.mp hu with rfl|hu'
  .rfl
  .exact absurd (ud (f:=(·.P)) hu') (by rw[<-e];exact hn.1)
  .exact absurd (ud (f:=(·.P)) ht') (by rw[e];exact hn.1)
  .exact zA hn.2 ht' hu' e
theorem Aa8 {ts:List Tb}{t:Tb}(h:Tbs ts H)(ht:t∈ts)(s:Oe t.P H H')(ok:t.ok H'):SmT ts H H':=by
 have hP:=Tb.tbl (h.1 t ht);refine{Ad4 s hP (Tb.tbl ok),λu hu=>?_,h.2}
 by_cases e:u.P=t.P
 .have:u=t:=zA h.2 hu ht e
  rw[this];exact ok
 .exact Tb.sameX s hP e (h.1 u hu)
def Ail (xs:List V)(k:Nat):Prop:=∃n:Nat,xs[k]?=en (.int n)/\n<xs.9/\∀j,j<k->xs[j]?≠en (.int n)
def Afs (xs:List V):Prop:=∀j,j<xs.9->Ail xs j
def Met (xs:List V)(k:Nat)(ms:Za5):Prop:=ms.9=xs.9/\∀(i:Nat) b,ms[i]?=en b->(b=NG↔∃j,j<k/\xs[j]?=en (.int i))
theorem Aba (xs:List V):Met xs 0 (gd xs.9 NH):=by
 refine{jl,λi b h=>?_};rw[qi] at h;split at h
 .cases h
  exact{λz=>by(cases z),λ⟨j,hj,_⟩=>absurd hj (xc _)}
 .cases h
theorem xM {k n:Nat}{ms:Za5}(h:Met xs k ms)(hk:xs[k]?=en (.int n)):Met xs (k+1) (ms.set n NG):=by
 refine{by rw[wu];exact h.1,λi b hb=>?_};rw[List.getElem?_set] at hb
 by_cases e:n=i
 .rw[if_pos e] at hb
  split at hb
  .cases hb
   exact{λ_=>{k,o9 _,by rw[hk,e]},λ_=>rfl}
  .cases hb
 .rw[if_neg e] at hb
  rw[h.2 i b hb]
  constructor
  .rintro⟨j,hj,hx⟩
   exact{j,(),hx}
  .rintro⟨j,hj,hx⟩
   rcases Nat.lt_or_eq_of_le (Nat.le_of_lt_succ hj) with h1|h1
   .exact⟨j,h1,hx⟩
   .rw[h1,hk] at hx
    have:=V.int.inj (fk hx);lia
theorem Aar (ms:Za5)(n:Nat)(b:Bool):(ms.map V.bl).set n (.bl b)=(ms.set n b).map V.bl:=by rw[List.map_set]
theorem xX (n:Nat):(gd n [V.bl NH]).flatten=(gd n NH).map V.bl:=by
 induction n with
 |zero=>rfl
 |succ n ih=>rw[jf,jx,ih,jf];rfl
theorem Ae8 {ms:Za5}{i:Nat}{b:Bool}(h:ms[i]?=en b):(ms.map V.bl)[i]?=en (.bl b):=by
 rw[fg,h];rfl
theorem mM (xs:List V):Fc xs (en (-1)) p9=xs.drop (xs.9-1):=by
 have e:(if(-1:Int)<0 then((-1:Int)+(xs.9:Int)).toNat else min (-1:Int).toNat xs.9)=xs.9-1:=by rw[if_pos (by decide)];lia
 show ul (xs.9-(if(-1:Int)<0 then((-1:Int)+(xs.9:Int)).toNat else min (-1:Int).toNat xs.9)) (um (if(-1:Int)<0 then((-1:Int)+(xs.9:Int)).toNat else min (-1:Int).toNat xs.9) xs)=_;rw[e,gp (by rw[jb];lia)]
theorem mE (xs:List V):Fc xs p9 (en (-1))=xs.take (xs.9-1):=by
 have e:(if(-1:Int)<0 then((-1:Int)+(xs.9:Int)).toNat else min (-1:Int).toNat xs.9)=xs.9-1:=by rw[if_pos (by decide)];lia
 show ul ((if(-1:Int)<0 then((-1:Int)+(xs.9:Int)).toNat else min (-1:Int).toNat xs.9)-0) (um 0 xs)=_;rw[e,uj,xq]
theorem vN {a b:Nat}:V.int (a:Int)=V.int (b:Int)↔a=b:={λh=>by have:=V.int.inj h;lia,λh=>by rw[h]}
theorem Ku (l:Za4)(n:Nat):nV l++[V.int n]=nV (l++[n]):=by
 show _=zc _ _;rw[ge];rfl
theorem Ae1 {x:Nat}(h:x<ns.9):(nV ns)[x]?=en (.int (nx ns x)):=Zs (mS h)
def RsW (ns:Za4)(H:Hp)(rs:List fe):Prop:=∀r∈rs,∃R,H r=en (.lst (nV R))/\Rnd ns R
theorem RsW.same {rs:List fe}(h:RsW ns H rs)(s:Ag H H'):RsW ns H' rs:=λr hr=>let ⟨R,a,b⟩:=h r hr;{R,s _ _ a,b}
theorem RsW.upd {rs:List fe}{a:fe}{o:HO}(h:RsW ns H rs)(hn:∀r∈rs,r≠a):RsW ns (upd H a o) rs:=λr hr=>let ⟨R,x,b⟩:=h r hr;{R,by rw[Aj (hn r hr)];exact x,b}
theorem mT {p:Key×V}{kvs:List (Key×V)}{k:Key}{v:V}(h:p∈Gg kvs k v):p∈kvs\/p=(k,v):=by
 unfold Gg at h;split at h
 .obtain⟨q,hq,rfl⟩:=je.mp h
  split
  .rename_i e
   exact .inr (by rw[e])
  .exact .inl hq
 .exact(kj.mp h).imp id j0.mp
theorem U5 {p:Key×V}:∀(B A:List (Key×V)),p∈Nf A B->p∈A\/p∈B
 |[],_,h=>.inl h
 |b::B,A,h=>by
  rcases U5 B (Gg A b.1 b.2) h with h|h
  .exact(mT h).imp id λe=>by rw[e];exact gt
  .exact .inr (gw _ h)
theorem kM {p:Key×V}:∀(ks:List Int) (ys:List V) (kvs:List (Key×V)),p∈Pn kvs ks ys->p∈kvs\/(p.2∈ys/\∃i∈ks,p.1=.inl i)
 |[],_,_,h=>.inl h
 |_::_,[],_,h=>.inl h
 |x::ks,y::ys,kvs,h=>by
  rcases kM ks ys (Gg kvs (.inl x) y) h with h|⟨h,i,hi,e⟩
  .refine(mT h).imp id λe=>?_
   rw[e];exact⟨gt,x,gt,rfl⟩
  .exact .inr {gw _ h,i,gw _ hi,e}
theorem mZ:∀(ks:List Int) (ys:List V) (kvs:List (Key×V)),(Pn kvs ks ys).9<=kvs.9+ks.9
 |[],_,_=>fm _
 |_::_,[],_=>ml _ _
 |x::ks,y::ys,kvs=>by
  have h1:=mZ ks ys (Gg kvs (.inl x) y);have h2:=G0 kvs (.inl x:Key) y;rw[iu];exact iy h1 ()
def Lps (ns:Za4)(kvs:List (Key×V)):Prop:=∀p∈kvs,∃a b:Nat,p.1=.inl (a:Int)/\p.2=.int (b:Nat)/\b<ns.9/\Rc ns b a
theorem Lps.at' {kvs:List (Key×V)}(h:Lps ns kvs){a:Nat}(e:Cd kvs (.inl (a:Int))=en y):∃b:Nat,y=.int (b:Nat)/\b<ns.9/\Rc ns b a:=by
 unfold Cd at e;obtain⟨p,hp,rfl⟩:=jj.mp e;obtain⟨a',b,e1,e2,e3,e4⟩:=h p (List.mem_of_find?_eq_some hp);have e5:p.1=.inl (a:Int):=of_decide_eq_true (List.find?_some hp :);rw[e5] at e1;have e6:(a:Int)=a':=GV e1;rw[show a=a' by lia];exact⟨b,e2,e3,e4⟩
theorem Tbs.keepN {ts:List Tb}{p:fe}{o o':HO}(h:Tbs ts H)(hp:H p=en o')(nt:autoParam (∀ps,o'≠.tbl ps) Qb_)(nf:autoParam (∀a b,o'≠.frz a b) Qd_):Tbs ts (upd H p o):=by
 refine{λt ht=>?_,h.2};obtain⟨ps,e1,e2,e3⟩:=h.1 t ht;exact{ps,by rw[Aj (λz=>by rw[z,hp] at e1;exact nt _ (fk e1))];exact e1,e2,e3.imp id λ⟨c,oc,a1,a2,a3⟩=>{c,oc,a1,by rw[Aj (λz=>by rw[z,hp] at a2;exact nf _ _ (fk a2))];exact a2,a3}}
structure SmB (ts:List Tb) (x:fe) (H H':Hp):Prop where
 keep:∀b u,b≠x->(∀ps,u≠.tbl ps)->H b=en u->H' b=en u
 tb:∀b ps,H b=en (.tbl ps)->∃ps',H' b=en (.tbl ps')
 ok:Tbs ts H'
theorem SmB.k {ts:List Tb}{x:fe}(s:SmB ts x H H'){b:fe}{u:HO}(h:H b=en u)(ne:b≠x)(n:autoParam (∀ps,u≠.tbl ps) Qb_):H' b=en u:=s.keep _ _ ne n h
theorem SmB.refl {ts:List Tb}{x:fe}(h:Tbs ts H):SmB ts x H H:={λ_ _ _ _ e=>e,λ_ ps e=>⟨ps,e⟩,h}
theorem SmB.trans {ts:List Tb}{x:fe}(a:SmB ts x H H1)(b:SmB ts x H1 H2):SmB ts x H H2:={λc u n1 n2 e=>b.keep c u n1 n2 (a.keep c u n1 n2 e),λc ps e=>let ⟨ps',e'⟩:=a.tb c ps e;b.tb c ps' e',b.ok}
theorem SmB.sm {ts:List Tb}{x:fe}(a:SmB ts x H H1)(b:SmT ts H1 H2):SmB ts x H H2:=a.trans {λc u _ n e=>b.sm.keep c u n e,b.sm.tb,b.ok}
theorem SmB.then {ts:List Tb}{x:fe}(a:SmB ts x H H1)(b:Ag H1 H2):SmB ts x H H2:=a.sm (.of a.ok b)
theorem SmB.put {ts:List Tb}{x:fe}{o o':HO}(a:SmB ts x H H1)(hx:H1 x=en o)(nt:autoParam (∀ps,o≠.tbl ps) Qb_)(nf:autoParam (∀a b,o≠.frz a b) Qd_):SmB ts x H (upd H1 x o'):=by
 refine a.trans {λb u n _ e=>by rw[Aj n];exact e,λb ps e=>{ps,?_},a.ok.keepN hx nt nf};rw[Aj (λz=>by rw[z,hx] at e;exact nt _ (fk e))];exact e
theorem Mi {K:e7}{ts:List Tb}{x:fe}{fs:List (Str×V)}{f:Str}{R:Hp->Prop}(h:H x=en (.ins C dx fs))(c:Cls K C)(n:Bk K C f)(l:fs.9<1000)(b:SmB ts x H0 H)(q:∀H',H' x=en (.ins C dx (F5 f y fs))->SmB ts x H0 H'->SmB ts x H H'->R H') :
  ∃a' C' dx' fs',V.ref x=.ref a'/\H a'=en (.ins C' dx' fs')/\Cls K C'/\Bk K C' f/\fs'.9<1000/\R (upd H a' (.ins C' dx' (F5 f y fs'))):=
 {x,C,dx,fs,rfl,h,c,n,l,q _ Ae (b.put h) ((SmB.refl b.ok).put h)}
theorem SmB.made {ts:List Tb}{x:fe}(hx:H x=p9)(hdx:H dx=p9)(s:SmB ts x (upd (upd H dx (.own x)) x (.ins C dx [])) H'):SmT ts H H':=by
 have kp:∀b u,H b=en u->b≠x/\upd (upd H dx (.own x)) x (.ins C dx []) b=en u:=λb u e=>by
  have e1:b≠x:=An e hx;have e2:b≠dx:=An e hdx;exact{e1,by rw[Aj e1,Aj e2];exact e}
 exact{{λb u n e=>s.keep b u (kp b u e).1 n (kp b u e).2,λb ps e=>s.tb b ps (kp b _ e).2},s.ok}
def Kp (H H':Hp):Prop:=∀b u,(∀ps,u≠HO.tbl ps)->H b=en u->H' b=en u
theorem Ag.kp (s:Ag H H'):Kp H H':=λb u _ e=>s b u e
theorem SmT.kp {ts:List Tb}(s:SmT ts H H'):Kp H H':=λb u n e=>s.sm.keep b u n e
theorem Kp.k (s:Kp H H'){b:fe}{u:HO}(h:H b=en u)(n:autoParam (∀ps,u≠.tbl ps) Qb_):H' b=en u:=s b u n h
def P3 (e:fe)(H:Hp):Hp:=λb=>if b=e then p9 else H b
theorem gF {e b:fe}(h:b≠e):P3 e H b=H b:=if_neg h
theorem sT {e b:fe}{u:HO}(h:P3 e H b=en u):b≠e/\H b=en u:=by
 unfold P3 at h;split at h
 .cases h
 .rename_i hb
  exact⟨hb,h⟩
theorem Hs {x:fe}{o o':HO}(hx:H1 x=p9)(hd:H1 dx=p9):Ag H1 (upd (upd H1 dx o) x o'):=λb u e=>by rw[Aj (An e hx),Aj (An e hd)];exact e
structure Kee (S:Prop):Prop where
 q:S
theorem Pb {c S T:Prop}[Decidable c](h1:Kee S->c->T)(h2:Kee S->¬ c->T)(h:S):T:=(NC c).elim (h1 ⟨h⟩) (h2 ⟨h⟩)
theorem Tj {k n:Nat}(h:k<n):inI (.int (k:Nat)) 0 ((n:Int)-1)=NG:=by
 rw[Tx,decide_eq_true (show(0:Int)<=(k:Nat) by lia),decide_eq_true (show((k:Nat):Int)<=(n:Int)-1 by lia)];rfl
theorem uR {i:Nat}(h:i<=10000):((i:Int)).natAbs<10 ^ 12:=by
 have:(10000:Nat)<10 ^ 12:=by decide
 lia
def NmT (K:e7)(H:Hp)(x:V):Prop:=Rf K H x/\∀z,x=.str z->z.9<=100
theorem NmT.same {K:e7}{x:V}(h:NmT K H x)(s:Ag H H'):NmT K H' x:={h.1.same s,h.2}
def fZ (C:fe)(H:Hp)(E:XK)(y:V):Prop:=∀dx H',Ag H H'->H dx=p9->H' dx=en (.xd [("place",y)])->E (.ref C) (en dx) H'
theorem fZ.out {E:XK}(h:fZ C H E y)(s:Ag H H1)(hd:H1 dx=p9):E (.ref C) (en dx) (upd H1 dx (.xd [("place",y)])):=h dx _ (s.trans (Al hd)) (s.free hd) Ae
inductive tG (K:e7)(ts:List Tb)(vs:List V)(H:Hp)(Q:VK)(E:XK):Prop|mk(a:fe)(ns:List Int)(_:vs=[.ref a])(_:SqL K H a (ns.map V.int))(_:ns.9<=63)(_:Tbs ts H)(_:∀H',Q (.bl NG) H')
abbrev tz:List Tb:=[{425,F8,"Counts.block_with.<locals>.<lambda>"},{560,Ls,"Named.__init__.<locals>.<lambda>"},{647,Gw,"Named.first_from.<locals>.<lambda>"}]
abbrev AllMk:Prop:=∀{l:zi} {w:iz} {K:e7} {h:i8} {mg:Za2} {fa:fe} (X:K.In h) (G:h.Ns mainGlobals mg) (hfa:mg "law"=en (.ref fa))
  {ad ac ag af aa ae bG bH:fe}
  {f0:fe} {od0 an0:Option fe} {sl0:Array (Za7)} {oc0 kV0 dc0 pm0 cd0 ct0:fu}
  {f27:fe} {aj5 aj6:Option fe} {aj7:Array (Za7)} {aj8 aj9 ak0 ak1 ak2:fu}
  {ai5:Obj}
  {f34:fe} {ak3 ai6:Option fe} {ak4:Array (Za7)} {ak5 ai7 ai8 ai9 ag9 aj0:fu}
  {T34:fe} {aj1:Obj} {aj2:fu} {ak6:Nat}
  {f81:fe} {ak7 ak8:Option fe} {ak9:Array (Za7)} {al0 al1 al2 al3 al4:fu}
  {aj3:Obj}
  {f87:fe} {al5 al6:Option fe} {al7:Array (Za7)} {al8 al9 am0 am1 am2:fu}
  {aj4:Obj}
  {aB:fe} {aa3:Obj} {aa4:Array fu} {ac3:Nat}
  {aC:fe} {aa1:Obj} {aa2:Array fu} {ac0:Nat}
  {ae8 ae9 ae3 ae4 af0 ac4 ad5 ae5 ac5 ad6 af4:Tok}
  {av ah aq am ax ay az:fe}
  {nm_NoName qn_NoName:Str} {N_NoName:fe} {bs_NoName:Za3} {sn_NoName:Za6} {sub_NoName:Za3} {ab_NoName:Bool} {col_NoName:Option Bool} {dd_NoName:Option fe} {k0_NoName k1_NoName k2_NoName k3_NoName k5_NoName:Za7}
  (af1:CD K ad "Bits")
  (ad1:FD K ad ["length","many_ones","kept_words"])
  (ad8:CD K ac "Counts")
  (ab9:FD K ac ["length","kept_words","kept_table"])
  (aa0:CD K ag "Shortcuts")
  (aa5:FD K ag ["onward","leaps"])
  (ac8:CD K af "Named")
  (ab1:FD K af ["kept_wood","places","begins","kept_stretches","spans","namesakes"])
  (ae6:CD K aa "Pairs")
  (ab7:FD K aa ["bits","counts","length","kept_table","often_least"])
  (ad9:CD K ae "Opened")
  (ac9:FD K ae ["pairs"])
  (ad2:BC K bG "Heights")
  (ac6:BC K bH "Openings")
  (i0:oy K (.ref f0)=NG)
  (a0:ju K (.ref ah) "__init__"=en (en (.ref f0))) (l0:K.lookup f0=en {oc0,od0,.func (jq "__init__" "NoName.__init__" (Bz Dq) (Bg Dq) (Ac Dq) .none kV0 dc0 pm0 an0 cd0 ct0),sl0}) (c0:ln K cd0 "NoName.__init__"=NG) (k0:j7 K (.ref f0)=NG)
  (g1:GD K "is_whole" Nd)
  (g2:GD K "is_within" L7)
  (g3:GD K "check_bit" Li)
  (g4:GD K "check_place" Jl)
  (g5:GD K "check_stretch" G8)
  (g6:GD K "check_knot" Kn)
  (g7:GD K "ones_in" Rl)
  (g8:GD K "nth_of_four" Gr)
  (g9:GD K "nth_one" Rp)
  (g10:GD K "is_row" Xn)
  (g11:GD K "word_of" P6)
  (g12:GD K "words_of" Kc)
  (g13:GD K "signs_of" Kj)
  (g14:MD K ad "__init__" "Bits.__init__" Lb)
  (g15:MD K ad "size" "Bits.size" Lo)
  (g16:MD K ad "words" "Bits.words" Km)
  (g17:MD K ad "stretch" "Bits.stretch" Fw)
  (g18:MD K ad "bit" "Bits.bit" Nr)
  (g19:GD K "first_that" J7)
  (g20:GD K "running_sums" Hr)
  (g21:GD K "table_of_words" C5)
  (g22:MD K ac "__init__" "Counts.__init__" Ji)
  (g23:MD K ac "ones_ahead" "Counts.ones_ahead" Em)
  (g24:MD K ac "ahead" "Counts.ahead" Hy)
  (g25:MD K ac "ahead_of_block" "Counts.ahead_of_block" C8)
  (g26:MD K ac "many_like" "Counts.many_like" E5)
  (i27:oy K (.ref f27)=NG)
  (a27:ju K (.ref ac) "block_with"=en (en (.ref f27))) (l27:K.lookup f27=en {aj8,aj5,.func (jq "block_with" "Counts.block_with" (Bz Bn) (Bg Bn) (Ac Bn) .none aj9 ak0 ak1 aj6 (.ref 429) ak2),aj7}) (c27:ln K (.ref 429) "Counts.block_with"=NG) (k27:j7 K (.ref f27)=NG)
  (ah0:K.lookup 429=en ai5) (ah1:Kg ai5 429 425)
  (g28:MD K ac "place_from" "Counts.place_from" Ej)
  (g29:MD K ac "place_of" "Counts.place_of" Fq)
  (g30:GD K "begins_of" Iv)
  (g31:GD K "check_order" Jf)
  (g32:GD K "rounds_of" Lg)
  (g33:GD K "shortcuts_of" Ho)
  (i34:oy K (.ref f34)=NG)
  (a34:ju K (.ref ag) "__init__"=en (en (.ref f34))) (l34:K.lookup f34=en {ak5,ak3,.func (jq "__init__" "Shortcuts.__init__" (Bz Ca) (Bg Ca) (Ac Ca) (.ref T34) ai7 ai8 ai9 ai6 ag9 aj0),ak4}) (c34:ln K ag9 "Shortcuts.__init__"=NG) (k34:j7 K (.ref f34)=NG)
  (ag7:K.lookup T34=en aj1) (ag8:aj1.data=.seq #[aj2] ak6)
  (ah2:Be (.int 16) aj2)
  (g35:MD K ag "there" "Shortcuts.there" Fz)
  (g36:MD K ag "way_back" "Shortcuts.way_back" D4)
  (g37:MD K ag "back" "Shortcuts.back" Gj)
  (g38:GD K "heights_of" Kb)
  (g39:GD K "check_row" Lr)
  (g40:BD K bG "__init__" "Heights.__init__" Hw)
  (g41:MD K aa "opens_ahead" "Pairs.opens_ahead" Ek)
  (g42:MD K aa "height" "Heights.height" Gi)
  (g43:MD K aa "stretch" "Pairs.stretch" G7)
  (g44:MD K aa "size" "Heights.size" Hq)
  (g45:MD K aa "text" "Heights.text" Im)
  (g46:MD K aa "__init__" "Pairs.__init__" Dh)
  (g47:MD K aa "stretch_at" "Pairs.stretch_at" E3)
  (g48:MD K aa "begin_of" "Pairs.begin_of" Ge)
  (g49:MD K aa "parts" "Heights.parts" Ew)
  (g50:MD K aa "may_meet" "Heights.may_meet" Fg)
  (g51:MD K aa "heights_within" "Heights.heights_within" Cz)
  (g52:MD K aa "next_within" "Heights.next_within" Du)
  (g53:MD K aa "last_within" "Heights.last_within" Dw)
  (g54:GD K "check_height" Hv)
  (g55:MD K aa "next_at" "Heights.next_at" Fu)
  (g56:MD K aa "last_at" "Heights.last_at" F2)
  (g57:MD K aa "is_opening" "Pairs.is_opening" E7)
  (g58:MD K aa "partner" "Heights.partner" Fx)
  (g59:MD K aa "is_stretch" "Heights.is_stretch" D0)
  (g60:MD K aa "least_within" "Heights.least_within" Dl)
  (g61:MD K aa "lowest" "Heights.lowest" Eh)
  (g62:MD K aa "opening" "Pairs.opening" G3)
  (g63:GD K "look_at" Rx)
  (g64:GD K "depths_of" K7)
  (g65:GD K "row_of" Ut)
  (g66:GD K "elders_of" K4)
  (g67:BD K bH "__init__" "Openings.__init__" G4)
  (g68:MD K ae "__init__" "Opened.__init__" Jm)
  (g69:MD K ae "many_knots" "Openings.many_knots" Dt)
  (g70:MD K ae "row" "Openings.row" Ht)
  (g71:MD K ae "elders" "Openings.elders" Fr)
  (g72:MD K ae "opening" "Openings.opening" Fe)
  (g73:MD K ae "closing" "Openings.closing" Ff)
  (g74:MD K ae "knot_at" "Openings.knot_at" Fb)
  (g75:MD K ae "beneath" "Openings.beneath" Fa)
  (g76:MD K ae "nearest" "Openings.nearest" E8)
  (g77:GD K "is_name" Mt)
  (g78:GD K "check_names" Jh)
  (g79:GD K "stretches_of" Eb)
  (g80:GD K "namesakes_above" Fs)
  (i81:oy K (.ref f81)=NG)
  (a81:ju K (.ref af) "__init__"=en (en (.ref f81))) (l81:K.lookup f81=en {al0,ak7,.func (jq "__init__" "Named.__init__" (Bz Di) (Bg Di) (Ac Di) .none al1 al2 al3 ak8 (.ref 562) al4),ak9}) (c81:ln K (.ref 562) "Named.__init__"=NG) (k81:j7 K (.ref f81)=NG)
  (ah3:K.lookup 562=en aj3) (ah4:Kg aj3 562 560)
  (g82:MD K af "knots_at" "Named.knots_at" Eg)
  (g83:GD K "check_name" Kq)
  (g84:MD K af "check_both" "Named.check_both" Fd)
  (g85:MD K af "name_of" "Named.name_of" Ha)
  (g86:MD K af "span_of" "Named.span_of" G6)
  (i87:oy K (.ref f87)=NG)
  (a87:ju K (.ref af) "first_from"=en (en (.ref f87))) (l87:K.lookup f87=en {al8,al5,.func (jq "first_from" "Named.first_from" (Bz Bv) (Bg Bv) (Ac Bv) .none al9 am0 am1 al6 (.ref 651) am2),al7}) (c87:ln K (.ref 651) "Named.first_from"=NG) (k87:j7 K (.ref f87)=NG)
  (ah5:K.lookup 651=en aj4) (ah6:Kg aj4 651 647)
  (g88:MD K af "span_beneath" "Named.span_beneath" Ed)
  (g89:MD K af "all_of" "Named.all_of" Ic)
  (g90:MD K af "many_beneath" "Named.many_beneath" Dz)
  (g91:MD K af "all_beneath" "Named.all_beneath" El)
  (g92:MD K af "next_of" "Named.next_of" G9)
  (g93:MD K af "elder_of" "Named.elder_of" Gf)
  (g94:GD K "_law_cell_at" Jj)
  (g95:GD K "_law_mixed" Lf)
  (g96:GD K "_law_digits" J8)
  (g97:GD K "_law_wood" N6)
  (g98:GD K "_law_names" Fi)
  (g99:GD K "_law_whole" Lh)
  (ah7:GD K "_law_kind" Ko)
  (ah8:GD K "_law_made" Ni)
  (ah9:GD K "_law_put" Rt)
  (ai0:GD K "_law_is_name" Gs)
  (ai1:GD K "_law_due" Pw)
  (ai2:GD K "_law_asked" Lw)
  (ai3:GD K "_law_asked_due" G2)
  (ai4:GD K "law" Xy)
  (dE:il K mainGlobals "ONES_OF_FOUR"=en (en (.ref aB))) (ab2:K.lookup aB=en aa3) (ab3:aa3.cls=.type "tuple") (ab4:aa3.data=.seq aa4 ac3) (ab5:aa4.8<=sizeLine) (ab6:Az (fB.map λn:Nat=>V.int n) aa4.7)
  (dN:il K mainGlobals "SIGNS_OF_FOUR"=en (en (.ref aC))) (aa6:K.lookup aC=en aa1) (aa7:aa1.cls=.type "tuple") (aa8:aa1.data=.seq aa2 ac0) (aa9:aa2.8<=sizeLine) (ab0:Az (rT) aa2.7)
  (da:il K mainGlobals "WORD_BITS"=en (en (.int 32 ae8)))
  (dL:il K mainGlobals "MOST_BITS"=en (en (.int 20000 ae9)))
  (dj:il K mainGlobals "BLOCK_WORDS"=en (en (.int 8 ae3)))
  (dG:il K mainGlobals "BLOCK_BITS"=en (en (.int 256 ae4)))
  (dJ:il K mainGlobals "FULL_WORD"=en (en (.int 4294967295 af0)))
  (dM:il K mainGlobals "MOST_SIGNS_pairs"=en (en (.int 8192 ac4)))
  (dn:il K mainGlobals "STRETCH_BITS"=en (en (.int 256 ad5)))
  (dR:il K mainGlobals "MOST_KNOTS"=en (en (.int 4000 ae5)))
  (dP:il K mainGlobals "MOST_SIGNS_woods"=en (en (.int 8000 ac5)))
  (dQ:il K mainGlobals "MOST_LETTERS"=en (en (.int 8 ad6)))
  (dS:il K mainGlobals "LETTERS"=en (en (.str "abcdefghijklmnopqrstuvwxyz" af4)))
  (af2:il K mainGlobals "range"=en p9)
  (af8:il K mainGlobals "len"=en p9)
  (af9:il K mainGlobals "int"=en p9)
  (af5:il K mainGlobals "bool"=en p9)
  (ag0:il K mainGlobals "str"=en p9)
  (ac1:il K mainGlobals "isinstance"=en p9)
  (af6:il K mainGlobals "list"=en p9)
  (af3:il K mainGlobals "tuple"=en p9)
  (af7:il K mainGlobals "dict"=en p9)
  (ac7:il K mainGlobals "enumerate"=en p9)
  (ag1:il K mainGlobals "zip"=en p9)
  (ag2:il K mainGlobals "sum"=en p9)
  (ag3:il K mainGlobals "abs"=en p9)
  (ag4:il K mainGlobals "max"=en p9)
  (ag5:il K mainGlobals "min"=en p9)
  (ae7:il K mainGlobals "sorted"=en p9)
  (ag6:il K mainGlobals "all"=en p9)
  (ad3:il K mainGlobals "reversed"=en p9)
  (ac2:il K mainGlobals "ValueError"=en p9)
  (ab8:il K mainGlobals "WoodError"=en (en (.ref av)))
  (ae0:il K mainGlobals "NoName"=en (en (.ref ah)))
  (ad7:il K mainGlobals "NoFit"=en (en (.ref aq)))
  (ad0:il K mainGlobals "NoKnot"=en (en (.ref am)))
  (ae1:il K mainGlobals "NoBits"=en (en (.ref ax)))
  (ad4:il K mainGlobals "NoOrder"=en (en (.ref ay)))
  (ae2:il K mainGlobals "NoWood"=en (en (.ref az)))
  (ex_WoodError:rg K av Gc "ValueError.__new__"=NG)
  (bg_WoodError:DP K (.ref av) "__getattribute__"=en (en (.builtin "type.__getattribute__")))
  (br_WoodError:PySem.W.readsIn K av (.type "type")=NG)
  (bi_WoodError:PySem.W.findCls K (.ref av) (.type "type") "__init__"=en (.val (.builtin "ValueError.__init__")))
  (sa_NoName:ju K (.ref ah) "__setattr__"=en (en (.builtin "object.__setattr__")))
  (pl_NoName:ju K (.ref ah) "place"=en p9)
  (xk_NoName:Jx K ah)
  (dv:exmOne K (.ref ah) (.ref av)=en NG)
  (dZ:exmOne K (.ref ah) (.ref ah)=en NG)
  (ex_NoFit:rg K aq Gc "ValueError.__new__"=NG)
  (xk_NoFit:Jx K aq)
  (dA:exmOne K (.ref aq) (.ref av)=en NG)
  (ex_NoKnot:rg K am Gc "ValueError.__new__"=NG)
  (xk_NoKnot:Jx K am)
  (dF:exmOne K (.ref am) (.ref av)=en NG)
  (dg:KL K ah [(.ref ah,NG),(.ref aq,NH),(.ref am,NH),(.ref ax,NH),(.ref ay,NH),(.ref az,NH),(.type "ValueError",NG)])
  (di:KL K aq [(.ref ah,NH),(.ref aq,NG),(.ref am,NH),(.ref ax,NH),(.ref ay,NH),(.ref az,NH),(.type "ValueError",NG)])
  (dh:KL K am [(.ref ah,NH),(.ref aq,NH),(.ref am,NG),(.ref ax,NH),(.ref ay,NH),(.ref az,NH),(.type "ValueError",NG)])
  (ob_NoName:K.lookup ah=en (excClassObj nm_NoName qn_NoName ah N_NoName bs_NoName (.ref av::Gc) NG sn_NoName sub_NoName ab_NoName col_NoName dd_NoName k0_NoName k1_NoName k2_NoName k3_NoName k5_NoName "ValueError.__new__")),
   ∃fd:jv,(∀(s:gb) (v:fu),CZ s fd {[v],[]} [("_law_script",v)])/\∀base:i8,K.In base->base.Ns mainGlobals mg->(∀q∈([(429,425),(562,560),(651,647)]:List (fe×fe)),base.BuiltinsAt mg q.2)->Aq l.prog w K mg base CX0 16 fa fd ["_law_script"] (tG K tz)
theorem walk {l:zi}{q:gm}{loose:Za6}{XP:(Za2)->i8->Prop}{YP:iz->i8->Prop}{d:LO}{K:BF->e7}(hn:l.most=en 63)(hdf:d.params.defaults=[])
  (hY:∀(w:iz) (h:i8),YP w h->(K w.params).In h)(hTb:∀(w:iz) (h:i8),YP w h->z0 [(429,425),(562,560),(651,647)] h)(hTK:∀w:iz,∀p∈([(429,425),(562,560),(651,647)]:List (fe×fe)),(K w.params).lookup p.2=p9)
  (F:∀(w:iz) (mg:Za2) (fa:fe) (h:i8),(K w.params).In h->h.Ns mainGlobals mg->mg d.name=en (.ref fa) ->
   ∃fd:jv,(∀(s:gb) (u:fu),CZ s fd {[u],[]} [("_law_script",u)])/\∀base:i8,(K w.params).In base->base.Ns mainGlobals mg->(∀q∈([(429,425),(562,560),(651,647)]:List (fe×fe)),base.BuiltinsAt mg q.2)->Aq l.prog w (K w.params) mg base CX0 16 fa fd ["_law_script"] (tG (K w.params) tz)) :
  FI q loose XP YP l.row.toRowW d [] (λf vs=>ED f vs):=
 _L.wS (n:=63) (k:=16) (x:="_law_script") (tabs:=[(429,425),(562,560),(651,647)]) (CX:=λ_=>CX0) (sp:=λw=>(tG (K w.params) tz)) hn (by decide) hdf {rfl,by decide,by decide} hY hTb hTK F (λ_ _ a ns hl hO hS=>{a,ns,rfl,hS,hl,{lf.mpr {{#[],hO (429,425) (by simp),trivial,.inl rfl},lf.mpr {{#[],hO (562,560) (by simp),trivial,.inl rfl},lf.mpr {{#[],hO (651,647) (by simp),trivial,.inl rfl},λ_ h=>nomatch h}}},by decide},λ_=>rfl}) λ_ _ _ _ _ z=>z
end _K
end
section
set_option hygiene false in
local macro_rules | `(tactic| o_head $H)=>`(tactic| (refine PySem.W.holds_open (q:=HD.VQ) (loose:=HD.loose) (d:=HD.LD) (kwd:=[]) (Xt:=λ_=>true) (XP:=λ_ _=>True) (Yf:=BO $H) (Ya:=BN $H) (YP:=JS $H) (N:=100000) (HD.left_of3 (p:=i4) (q:=HD.VQ) (loose:=HD.loose) (Yf:=BO $H) (Ya:=BN $H) (N:=100000) (M:=100000) (by kernel_rfl) (λ_=>by kernel_rfl) (by kernel_rfl) (by kernel_rfl) HD.A_ok HD.B_ok (HD.hC_km (λw=>by rw [HD.oneP_eq];kernel_rfl))) (JT $H) (JU $H) (λ_ _=>trivial) (λ_ _ _ _ _=>trivial) (by kernel_rfl) (by kernel_rfl) (by kernel_rfl) (λ_ _=>PySem.W.recFacts_nil rfl) rfl (by assumption) (by decide +kernel) ⟨rfl,rfl,rfl,rfl,rfl,by decide +kernel⟩ ?_ ?_))
open PySem PySem.W PyProof.Rows
set_option maxRecDepth 100000 in
set_option maxHeartbeats 0 in
theorem _K.HEAD (AM:_K.AllMk):my.Holds:=by
 w_on;o_law;k_head
 ·w_witness2
 k_fill
 refine _K.walk (l:=my) rfl (by kernel_rfl) (λw h Y=>DE Y) (λw h Y=>lf.mpr ⟨⟨xk (c:=429) (P:=425) (DE Y) (by kernel_rfl),xx Y 425 (by simp)⟩,lf.mpr ⟨⟨xk (c:=562) (P:=560) (DE Y) (by kernel_rfl),xx Y 560 (by simp)⟩,lf.mpr ⟨⟨xk (c:=651) (P:=647) (DE Y) (by kernel_rfl),xx Y 647 (by simp)⟩,λ_ h=>nomatch h⟩⟩⟩) (λw=>lf.mpr ⟨by kernel_rfl,lf.mpr ⟨by kernel_rfl,lf.mpr ⟨by kernel_rfl,λ_ h=>nomatch h⟩⟩⟩) ?F
 case F=>
  intro w mg fa h KX G hmg;refine' AM KX G hmg ?af1 ?ad1 ?ad8 ?ab9 ?aa0 ?aa5 ?ac8 ?ab1 ?ae6 ?ab7 ?ad9 ?ac9 ?ad2 ?ac6 ?i0 ?a0 ?l0 ?c0 ?k0 ?g1 ?g2 ?g3 ?g4 ?g5 ?g6 ?g7 ?g8 ?g9 ?g10 ?g11 ?g12 ?g13 ?g14 ?g15 ?g16 ?g17 ?g18 ?g19 ?g20 ?g21 ?g22 ?g23 ?g24 ?g25 ?g26 ?i27 ?a27 ?l27 ?c27 ?k27 ?ah0 ?ah1 ?g28 ?g29 ?g30 ?g31 ?g32 ?g33 ?i34 ?a34 ?l34 ?c34 ?k34 ?ag7 ?ag8 ?ah2 ?g35 ?g36 ?g37 ?g38 ?g39 ?g40 ?g41 ?g42 ?g43 ?g44 ?g45 ?g46 ?g47 ?g48 ?g49 ?g50 ?g51 ?g52 ?g53 ?g54 ?g55 ?g56 ?g57 ?g58 ?g59 ?g60 ?g61 ?g62 ?g63 ?g64 ?g65 ?g66 ?g67 ?g68 ?g69 ?g70 ?g71 ?g72 ?g73 ?g74 ?g75 ?g76 ?g77 ?g78 ?g79 ?g80 ?i81 ?a81 ?l81 ?c81 ?k81 ?ah3 ?ah4 ?g82 ?g83 ?g84 ?g85 ?g86 ?i87 ?a87 ?l87 ?c87 ?k87 ?ah5 ?ah6 ?g88 ?g89 ?g90 ?g91 ?g92 ?g93 ?g94 ?g95 ?g96 ?g97 ?g98 ?g99 ?ah7 ?ah8 ?ah9 ?ai0 ?ai1 ?ai2 ?ai3 ?ai4 ?dE ?ab2 ?ab3 ?ab4 ?ab5 ?ab6 ?dN ?aa6 ?aa7 ?aa8 ?aa9 ?ab0 ?da ?dL ?dj ?dG ?dJ ?dM ?dn ?dR ?dP ?dQ ?dS ?af2 ?af8 ?af9 ?af5 ?ag0 ?ac1 ?af6 ?af3 ?af7 ?ac7 ?ag1 ?ag2 ?ag3 ?ag4 ?ag5 ?ae7 ?ag6 ?ad3 ?ac2 ?ab8 ?ae0 ?ad7 ?ad0 ?ae1 ?ad4 ?ae2 ?ex_WoodError ?bg_WoodError ?br_WoodError ?bi_WoodError ?sa_NoName ?pl_NoName ?xk_NoName ?dv ?dZ ?ex_NoFit ?xk_NoFit ?dA ?ex_NoKnot ?xk_NoKnot ?dF ?dg ?di ?dh ?ob_NoName
  (case ab8|ae0|ad7|ad0|ae1|ad4|ae2=>k_is)
  (case af1|ad8|aa0|ac8|ae6|ad9|ad2|ac6=>refine' ⟨?_,?_,?_⟩<;>try k_is)
  (case ad1|ab9|aa5|ab1|ab7|ac9=>refine' _L.fD ?_ ?_ ?_ ?_ ?_<;>try first|k_is|kernel_rfl)
  (case g1|g2|g3|g4|g5|g6|g7|g8|g9|g10|g11|g12|g13|g19|g20|g21|g30|g31|g32|g33|g38|g39|g54|g63|g64|g65|g66|g77|g78|g79|g80|g83|g94|g95|g96|g97|g98|g99|ah7|ah8|ah9|ai0|ai1|ai2|ai3|ai4=>as_aux_lemma=>(refine' _L.gD ?_ ?_ ?_ ?_<;>try k_is))
  (case g14|g15|g16|g17|g18|g22|g23|g24|g25|g26|g28|g29|g35|g36|g37|g41|g42|g43|g44|g45|g46|g47|g48|g49|g50|g51|g52|g53|g55|g56|g57|g58|g59|g60|g61|g62|g68|g69|g70|g71|g72|g73|g74|g75|g76|g82|g84|g85|g86|g88|g89|g90|g91|g92|g93=>as_aux_lemma=>(refine' _L.mD ?_ ?_ ?_ ?_ ?_<;>try k_is))
  (case g40|g67=>as_aux_lemma=>(refine' _L.bD ?_ ?_ ?_ ?_<;>try k_is))
  (case xk_NoName|xk_NoFit|xk_NoKnot=>refine' ⟨?_,?_,?_,?_,?_,?_,?_⟩<;>k_is)
  (case dg|di|dh=>(repeat' refine DB ?_ ?_)<;>first|kit_is|exact trivial)
  (case ex_WoodError|ex_NoFit|ex_NoKnot=>k_exc)
  (case dv|dZ|dA|dF=>kts_exm)
  (case da|dL|dj|dG|dJ|dM|dn|dR|dP|dQ|dS|af2|af8|af9|af5|ag0|ac1|af6|af3|af7|ac7|ag1|ag2|ag3|ag4|ag5|ae7|ag6|ad3|ac2|bg_WoodError|br_WoodError|bi_WoodError|sa_NoName|pl_NoName|a0|l0|c0|k0|i0|a27|l27|c27|k27|i27|ah0=>k_is)
  (case ah1=>exact⟨_,_,_,_,_,_,_,_,rfl,rfl,rfl,rfl,rfl,rfl,rfl,rfl,by decide⟩)
  (case a34|l34|c34|k34|i34|ag7=>k_is)
  (case ag8=>rfl)
  (case ah2=>exact⟨_,rfl⟩)
  (case a81|l81|c81|k81|i81|ah3=>k_is)
  (case ah4=>exact⟨_,_,_,_,_,_,_,_,rfl,rfl,rfl,rfl,rfl,rfl,rfl,rfl,by decide⟩)
  (case a87|l87|c87|k87|i87|ah5=>k_is)
  (case ah6=>exact⟨_,_,_,_,_,_,_,_,rfl,rfl,rfl,rfl,rfl,rfl,rfl,rfl,by decide⟩)
  (case dE|ab2=>k_is)
  (case ab3=>rfl);(case ab4=>rfl);(case ab5=>decide);(case ab6=>repeat (first|exact .nil|refine .cons ⟨_,rfl⟩ ?_))
  (case dN|aa6=>k_is)
  (case aa7=>rfl);(case aa8=>rfl);(case aa9=>decide);(case ab0=>repeat (first|exact .nil|refine .cons ⟨_,rfl⟩ ?_))
  (case ob_NoName=>k_is)
end
section
set_option hygiene false in
local macro_rules | `(tactic| exists $x)=>`(tactic| (refine $x (λvs H Q E h=>?_) (λcdv A outer s H vs Q E hr h=>?_);focus(first|(cases h;subst_vars;rfl)|(obtain⟨_,h⟩:=h;cases h;subst_vars;rfl))))
set_option hygiene false in
local macro_rules|`(tactic|walk_at "rd")=>do
 let d:=(<-`((by decide))).raw
 let r:=(<-`(rfl)).raw
 let ts:=WN "Ajt Ahu Aiv Adp Aix r_retN Ah2 Ajb Agt Ak5 Aja Ajs Ak6 Aih Ahx Akr Alc Akx r_c Ae4 Aj7 Aks Ajr Ajf Af8 Ahr Akw Ajx Air Alb Ajl Ak9 Abl Af7 Aim Agc Af3 Ah3 Adw Aha Ahb Ald Ai5 Ai2 Aep Ag4 r_orV Ago Akd Ag2 Agb Aic Ajd r_cBK Aho Aeo Ajg yG r_rngD Ag7 Aia Ahc r_lrng Aes r_augS r_sortKU r_rngE Aht Ael Ada Aek Ait Agh Aet Ag1 xO Ac6 zR Ala Akt Ais Aik" #[]++WN "jM tN" #[d]++WN "Ajv Xp zH" #[d,d]++WN "Ajo Aig" #[r]
 `(tactic|repeat (first|(with_reducible first $[|$ts]*) | refine Ajm rfl ?_ | refine Ajh rfl ?_ | dsimp only))
namespace _K
open PySem _L _W
variable {C CB CC CO CP Pt dx i1 i2 it l1 l2:fe} {params:nu} {A:jd} {CX:CXT} {op:ye} {X:Cx} {env:Env} {tg:ja} {fd:jv} {base h' h1:i8} {H H' H0 H1 H2:Hp} {J:It} {pins:Za1} {fp:List fe} {outer:List Env} {ks ws:List Int} {cs ix ns:Za4} {N QR S kz ps:Za6} {xs:List V} {us vs:Za3} {M:yb} {t':Nat} {oT:Obj} {an od:Option fe} {cpos lpos pos pos2:Pos} {sc scope QQ:nr} {pl:Sem Bool} {s:gb} {sp:Sp} {fr:St} {qual z:Str} {te:TE} {wi:TI} {y:V} {cdv ct doc oc pm:fu} {w:iz}
local macro_rules | `(tactic| k_is)=>`(tactic| walk_at "rd")
local macro_rules | `(tactic| apply $t)=>`(tactic| (k_is;refine $t))
structure Qf (K:e7) (C:fe):Prop where
 cl:Cls K C
 c9:Bk K C "length"
 eR:Bk K C "many_ones"
 df:Bk K C "kept_words"
structure Qd (K:e7) (C:fe):Prop where
 cl:Cls K C
 c9:Bk K C "length"
 df:Bk K C "kept_words"
 dq:Bk K C "kept_table"
structure Qe (K:e7) (C:fe):Prop where
 cl:Cls K C
 du:Bk K C "onward"
 d8:Bk K C "leaps"
structure Qc (K:e7) (C:fe):Prop where
 cl:Cls K C
 dW:Bk K C "kept_wood"
 dH:Bk K C "places"
 ez:Bk K C "begins"
 eh:Bk K C "kept_stretches"
 eI:Bk K C "spans"
 eB:Bk K C "namesakes"
structure Qa (K:e7) (C:fe):Prop where
 cl:Cls K C
 d4:Bk K C "bits"
 eg:Bk K C "counts"
 c9:Bk K C "length"
 dq:Bk K C "kept_table"
 eO:Bk K C "often_least"
structure Qb (K:e7) (C:fe):Prop where
 cl:Cls K C
 dk:Bk K C "pairs"
structure Txt (P:gm) (w:iz) (base:i8) (ts:List Tb) (K:e7) (mg:Za2) (aB:fe) (aC:fe) (av:fe) (ah:fe) (aq:fe) (am:fe) (ax:fe) (ay:fe) (az:fe):Prop where
 eD:mg "WoodError"=en (.ref av)
 eC:mg "NoName"=en (.ref ah)
 eV:mg "NoFit"=en (.ref aq)
 eT:mg "NoKnot"=en (.ref am)
 eZ:mg "NoBits"=en (.ref ax)
 eQ:mg "NoOrder"=en (.ref ay)
 eX:mg "NoWood"=en (.ref az)
 bw:Afx K mg "WoodError" av
 d0:Jx K ah
 dv:exmOne K (.ref ah) (.ref av)=en NG
 dZ:exmOne K (.ref ah) (.ref ah)=en NG
 eS:Exc K mg "NoFit" aq
 eP:Jx K aq
 dA:exmOne K (.ref aq) (.ref av)=en NG
 eU:Exc K mg "NoKnot" am
 eY:Jx K am
 dF:exmOne K (.ref am) (.ref av)=en NG
 dg:KL K ah [(.ref ah,NG),(.ref aq,NH),(.ref am,NH),(.ref ax,NH),(.ref ay,NH),(.ref az,NH),(.type "ValueError",NG)]
 di:KL K aq [(.ref ah,NH),(.ref aq,NG),(.ref am,NH),(.ref ax,NH),(.ref ay,NH),(.ref az,NH),(.type "ValueError",NG)]
 dh:KL K am [(.ref ah,NH),(.ref aq,NH),(.ref am,NG),(.ref ax,NH),(.ref ay,NH),(.ref az,NH),(.type "ValueError",NG)]
 dE:mg "ONES_OF_FOUR"=en (.ref aB)
 d9:∀H,SqT K H aB (fB.map λn:Nat=>V.int n)
 dN:mg "SIGNS_OF_FOUR"=en (.ref aC)
 ee:∀H,SqT K H aC (rT)
 da:∃t,mg "WORD_BITS"=en (.int 32 t)
 dL:∃t,mg "MOST_BITS"=en (.int 20000 t)
 dj:∃t,mg "BLOCK_WORDS"=en (.int 8 t)
 dG:∃t,mg "BLOCK_BITS"=en (.int 256 t)
 dJ:∃t,mg "FULL_WORD"=en (.int 4294967295 t)
 dM:∃t,mg "MOST_SIGNS_pairs"=en (.int 8192 t)
 dn:∃t,mg "STRETCH_BITS"=en (.int 256 t)
 dR:∃t,mg "MOST_KNOTS"=en (.int 4000 t)
 dP:∃t,mg "MOST_SIGNS_woods"=en (.int 8000 t)
 dQ:∃t,mg "MOST_LETTERS"=en (.int 8 t)
 dS:∃t,mg "LETTERS"=en (.str "abcdefghijklmnopqrstuvwxyz" t)
 c8:mg "range"=p9
 c7:mg "len"=p9
 dY:mg "int"=p9
 eA:mg "bool"=p9
 d7:mg "str"=p9
 de:mg "isinstance"=p9
 dD:mg "list"=p9
 dX:mg "tuple"=p9
 ej:mg "dict"=p9
 dB:mg "enumerate"=p9
 dU:mg "zip"=p9
 n_sum:mg "sum"=p9
 n_abs:mg "abs"=p9
 eJ:mg "max"=p9
 dC:mg "min"=p9
 ed:mg "sorted"=p9
 n_all:mg "all"=p9
 eN:mg "reversed"=p9
 eW:mg "ValueError"=p9
 eF:∃f,Nw K av ah f
section
variable {P:gm} {w:iz} {K:e7} {mg:Za2} {base:i8} {aB aC:fe} {ad ac ag af aa ae av ah aq am ax ay az:fe} {f:fe} {fd:jv} {ts:List Tb}
seal PE PA PT PW PS PSs PI PG
abbrev Txt.ZC(_:Txt P w base ts K mg aB aC av ah aq am ax ay az):=@Cal P w K mg base
abbrev Txt.ZM(_:Txt P w base ts K mg aB aC av ah aq am ax ay az):=@Mth P w K mg base
variable (T:Txt P w base ts K mg aB aC av ah aq am ax ay az)
include T in
theorem W3 (F:Fun K "__init__" "NoName.__init__" Dq f fd):Aq P w K mg base CX0 1 f fd ["self","place"] (yU ah):=by
 exists F.ok Vk
 obtain⟨e,i,rfl,he,hi,q⟩:=h;obtain⟨fo,O⟩:=T.eF;refine{_,(Ab (As (xJ T.bw rfl (tpa (pv 0) (tpa (Ad7 (by decide) (pv 1)) Aa)))) (Ad (Acq (pv 0) (pv 1)))),?_}
 apply{hi,λz=>?_};apply{e,ah,fo,p9,z,rfl,he,O,?_};apply{e,_,ah,fo,rfl,he,O,T.d0,λdx hd=>?_};k_is;exact q dx hd
inductive Ox (K:e7)(vs:List V)(H:Hp)(Q:VK)(E:XK):Prop|mk(x:V)(_:vs=[x])(_:Any K H x)(_:Q (.bl (isI x)) H)
include T in
theorem lM (F:Fun K "is_whole" "is_whole" Nd f fd):Aq P w K mg base CX0 1 f fd ["thing"] (Ox K):=by
 exists F.ok mW
 obtain⟨x,rfl,⟨t,b1,b2,ty,k1,k2,e⟩,q⟩:=h;refine{_,(Ad (Am (fO (Ao Cu (by rfl) T.de A8 (tpa (pv 0) (tpa (Gp (v:=.ty "int") rfl T.dY mL rfl) Aa))) (iN (Abe (Ao Cu (by rfl) T.de A8 (tpa (pv 0) (tpa (Gp (v:=.ty "bool") rfl T.eA xZ rfl) Aa)))))))),?_};apply{_,_,_,_,rfl,ty,k1,?_};rw[<-e] at q
 cases b1 with
 |false=>
  k_is;exact q
 |true=>
  apply{_,_,_,_,rfl,ty,k2,?_};k_is;exact q
inductive nX (K:e7)(vs:List V)(H:Hp)(Q:VK)(E:XK):Prop|mk(x:V)(lo:Int)(hi:Int)(_:vs=[x,.int lo,.int hi])(_:Any K H x)(_:Q (.bl (inI x lo hi)) H)
variable (aO:T.ZC "is_whole" 1 ["thing"] (Ox K))
include T aO in
theorem iM (F:Fun K "is_within" "is_within" L7 f fd):Aq P w K mg base CX0 2 f fd ["thing","low","high"] (nX K):=by
 exists F.ok iB
 obtain⟨x,lo,hi,rfl,ha,q⟩:=h;refine{_,(Ad (Am (fO (Aw aO hr.m (tpa (pv 0) Aa)) (iN (nO Vg Vg (pv 1) (pv 0) (pv 2)))))),?_};apply{x,rfl,ha,?_}
 cases hx:isI x with
 |false=>
  k_is;have:inI x lo hi=NH:=by cases x<;>first|rfl|cases hx
  rw[this] at q;exact q
 |true=>
  obtain⟨i,rfl⟩:=Ahg hx;k_is;have e:inI (.int i) lo hi=(decide (lo<=i)&&decide (i<=hi)):=rfl;rw[e] at q;refine Bq (λh1=>?_) (λh1=>?_)
  .k_is
   rw[decide_eq_true h1] at q;exact q
  .k_is
   rw[decide_eq_false h1] at q;exact q
inductive xS(vs:List V)(H:Hp)(Q:VK)(E:XK):Prop|mk(b:Bool)(_:vs=[.int (b.toNat:Nat)])(_:Q .non H)
variable (aH:T.ZC "is_within" 2 ["thing","low","high"] (nX K))
include T aH in
theorem iR (F:Fun K "check_bit" "check_bit" Li f fd):Aq P w K mg base CX0 3 f fd ["bit"] xS:=by
 exists F.ok iE
 obtain⟨b,rfl,q⟩:=h;refine⟨_,(Ad (Bl (Cw (B4 (Aw aH hr.m (tpa (pv 0) (tpa Af (tpa Af Aa)))))) (Ad C7)
  Au)),?_⟩
 apply{_,0,1,rfl,Je _,?_};rw[show inI (.int ((b.toNat:Nat):Int)) 0 1=NG by cases b<;>rfl]
 k_is;exact q
inductive jJ(vs:List V)(H:Hp)(Q:VK)(E:XK):Prop|mk(n g:Int)(_:vs=[.int n,.int g])(_:0<=n)(_:n<=g)(_:Q .non H)
include T aH in
theorem Vp (F:Fun K "check_place" "check_place" Jl f fd):Aq P w K mg base CX0 3 f fd ["place","greatest"] jJ:=by
 exists F.ok Vw
 obtain⟨n,g,rfl,h0,h1,q⟩:=h;refine⟨_,(Ad (Bl (Cw (B4 (Aw aH hr.m (tpa (pv 0) (tpa Af (tpa (pv 1) Aa)))))) (Ad C7)
  Au)),?_⟩
 apply{.int n,0,g,rfl,Je _,?_};rw[show inI (.int n) 0 g=NG by rw[Tx,decide_eq_true h0,decide_eq_true h1];rfl];k_is;exact q
inductive Abx(vs:List V)(H:Hp)(Q:VK)(E:XK):Prop|mk(i j g:Int)(_:vs=[.int i,.int j,.int g])(_:0<=i)(_:i<=j)(_:j<=g)(_:Q .non H)
variable (aA:T.ZC "check_place" 3 ["place","greatest"] jJ)
include T aA in
theorem Rn (F:Fun K "check_stretch" "check_stretch" G8 f fd):Aq P w K mg base CX0 4 f fd ["low","high","greatest"] Abx:=by
 exists F.ok Rm
 obtain⟨i,j,g,rfl,h0,h1,h2,q⟩:=h;refine⟨_,(Ab (As (Aw aA hr.m (tpa (pv 0) (tpa (pv 2) Aa)))) (Ab (As (Aw aA hr.m (tpa (pv 1) (tpa (pv 2) Aa)))) (Ad (Bl (ttc Ga (pv 0) (pv 1)) (Ad C7)
  Au)))),?_⟩
 apply{i,g,rfl,h0,(),?_};apply{j,g,rfl,(),h2,?_};apply Bq (λh=>absurd h ()) (λ_=>?_);k_is;exact q
inductive Sg (K:e7)(CN:fe)(vs:List V)(H:Hp)(Q:VK)(E:XK):Prop|mk(x:V)(g:Int)(_:vs=[x,.int g])(_:Any K H x)(_:(inI x 0 (g-1)=NG->Q .non H))(_:(inI x 0 (g-1)=NH->E (.ref CN) p9 H))
include T aH in
theorem Ye (F:Fun K "check_knot" "check_knot" Kn f fd):Aq P w K mg base (CXE P w) 3 f fd ["k","many_knots"] (Sg K am):=by
 exists F.okE Ym
 obtain⟨x,g,rfl,ha,q1,q2⟩:=h;refine⟨_,(Ad (Bl (Cw (B4 (Aw aH hr.m (tpa (pv 0) (tpa Af (tpa (Ak B0 (pv 1) Af) Aa)))))) (Ad (lV T.eU rfl (tpa A5 Aa)))
  Au)),?_⟩
 apply{x,0,g-1,rfl,ha,?_};k_is
 cases hx:inI x 0 (g-1) with
 |true=>
  k_is;exact q1 hx
 |false=>
  k_is;exact{by decide,q2 hx}
inductive yP(vs:List V)(H:Hp)(Q:VK)(E:XK):Prop|mk(n:Nat)(_:vs=[.int n])(_:Q (.int (pc n)) H)
include T in
theorem qD (F:Fun K "ones_in" "ones_in" Rl f fd):Aq P w K mg base CX0 1 f fd ["word"] yP:=by
 exists F.ok J5
 obtain⟨n,rfl,q⟩:=h;refine{_,(Ab (tst 1 J5.nd Af) (Ab (Eu im (ttc Ga (pv 0) Af) (Ab (tau 1 J5.nd (tix Bh (Fn (v:=.ref _) rfl T.dE rfl) (Ak Nq (pv 0) Af)) N3) (Ad (tau 0 J5.nd Af tV)))) (Ad (Am (pv 1))))),?_}
 apply Fp (λσ H'=>∃m o:Nat,σ=[en (.int m),en (.int o)]/\pc n=o+pc m/\H'=H) (λσ _=>match σ with|some (.int m)::_=>m.toNat|_=>0) ⟨n,0,rfl,by simp,rfl⟩ ?_;rintro k σ H' ⟨m,o,rfl,e,rfl⟩ hk;apply Bq (λhm=>?_) (λhm=>?_)
 .refine Kv ?_
  apply Cc (T.d9 _) (v:=.int (pc (m%16))) ?_ ?_
  .rw[uC]
   exact sS _ (sf _ (by decide))
  .apply{{m/16,o+pc (m%16),?_,?_,rfl},?_}
   .show[en (V.int ((m:Int)/2 ^ (4:Int).toNat)),en (V.int ((o:Int)+(pc (m%16):Int)))]=_
    rw[Adf];rfl
   .rw[e,Aku m]
    lia
   .show((m:Int)/2 ^ (4:Int).toNat).toNat<k
    rw[Adf,<-hk];show m/16<m;lia
 .k_is
  have:m=0:=()
  subst this;rw[Tn] at e;show Q (.int (o:Int)) H';rw[show o=pc n by lia];exact q
inductive Aap(vs:List V)(H:Hp)(Q:VK)(E:XK):Prop|mk(r k p:Nat)(_:vs=[.int r,.int k])(_:(iL r)[k]?=en p)(_:∀H',Ag H H'->Q (.int p) H')
include T in
theorem U4 (F:Fun K "nth_of_four" "nth_of_four" Gr f fd):Aq P w K mg base CX0 1 f fd ["four","nth"] Aap:=by
 exists F.ok Ln
 obtain⟨r,k,p,rfl,hp,q⟩:=h;refine{_,(Ab (Ly (i:=2) rfl Rq Ln.nd rfl rfl (Db rfl T.c8 (tpa Af Aa)) (λ_ _ _ _=>Ty (ttc C1 (Ak Nq (Ak qR (pv 1) (pv 0)) Af) Af)) (λ_ _ _ _=>(pv 0))) (Ad (Am (tix Bp (pv 2) (pv 1))))),?_}
 apply{4,rfl,by decide,by decide,?_};refine Jy (λi=>((ft i).filter λp=>decide (r/2 ^ p%2=1)).map λp:Nat=>V.int (p:Int)) rfl (λi hi=>?_) (λi H1 R A hi sm kR kA=>?_) (λD H1 hD sm hl=>?_)
 .have h4:i<4:=hi
  rw[fb];exact qd (iy (oq _ _) (q0 fv)) (Dr ())
 .apply tN () ?_;k_is;have e1:(r:Int)/2 ^ (0+(i:Int)).toNat=((r/2 ^ i:Nat):Int):=by
   rw[show(0+(i:Int)).toNat=i by lia];exact(su r (2 ^ i)).symm
  rw[e1,Ai4];have e2:((ft (i+1)).filter λp=>decide (r/2 ^ p%2=1))=((ft i).filter λp=>decide (r/2 ^ p%2=1))++if r/2 ^ i%2=1 then[i] else[]:=by
   rw[jo,lw];congr 1
   by_cases h:r/2 ^ i%2=1
   .rw[if_pos h]
    simp[h]
   .rw[if_neg h]
    simp[h]
  refine Bq (λhb=>?_) (λhb=>?_)
  .have hb:r/2 ^ i%2=1:=by
    have:=V.int.inj hb;lia
   apply kA _ _ ?_ (Ag.refl _);rw[e2,if_pos hb,ge,show(0+(i:Int))=(i:Int) by lia];rfl
  .have hb:¬ r/2 ^ i%2=1:=by
    intro z;exact hb (by rw[z];rfl)
   refine kR ?_ _ (Ag.refl _);rw[e2,if_neg hb,lu]
 .apply Cm (SqL.of hl) (v:=.int p) ?_ (q _ sm);refine Bi ?_;rw[fg];show HZ _ ((iL r)[k]?)=_;rw[hp];rfl
inductive Ae7(vs:List V)(H:Hp)(Q:VK)(E:XK):Prop|mk(n k:Nat)(_:vs=[.int n,.int k])(_:∀H',Ag H H'->Q (Ake (nth n k)) H')
include T in
theorem oE (F:Fun K "nth_one" "nth_one" Rp f fd)(bL:T.ZC "nth_of_four" 1 ["four","nth"] Aap):Aq P w K mg base CX0 2 f fd ["word","nth"] Ae7:=by
 exists F.ok Gm
 obtain⟨n,k,rfl,q⟩:=h;refine⟨_,(Ab (Bl (ttc Ot (pv 1) Af) (Ad (Am C9))
  Au) (Ab (tst 2 Gm.nd Af) (Ab (Eu im (ttc Ga (pv 0) Af) (Ab (tst 3 Gm.nd (tix Bh (Fn (v:=.ref _) rfl T.dE rfl) (Ak Nq (pv 0) Af))) (Ab (Bl (ttc Ot (pv 1) (pv 3)) (Ad (Am (Ak Bd (pv 2) (Aw bL hr.m (tpa (Ak Nq (pv 0) Af) (tpa (pv 1) Aa))))))
  Au) (Ab (tau 1 Gm.nd (pv 3) yQ) (Ab (tau 0 Gm.nd Af tV) (Ad (tau 2 Gm.nd Af N3))))))) (Ad (Am C9))))),?_⟩
 apply Bq (λhb=>absurd hb ()) (λ_=>?_);apply Fp (λσ H'=>∃(m j low:Nat) (v:Option V),σ=[en (.int m),en (.int j),en (.int low),v]/\nth n k=(nth m j).map (·+low)/\H'=H) (λσ _=>match σ with|some (.int m)::_=>m.toNat|_=>0) ⟨n,k,0,p9,rfl,by simp,rfl⟩ ?_;rintro μ σ H' ⟨m,j,low,v,rfl,e,rfl⟩ hk;apply Bq (λhm=>?_) (λhm=>?_)
 .refine Kv ?_
  apply Cc (T.d9 _) (v:=.int (pc (m%16))) ?_ ?_
  .rw[uC]
   exact sS _ (sf _ (by decide))
  .k_is
   have e16:=Ai7 m j;refine Bq (λhj=>?_) (λhj=>?_)
   .have hj:j<pc (m%16):=()
    k_is;rw[if_pos hj] at e16;rw[uC];obtain⟨p,hp⟩:∃p,(iL (m%16))[j]?=en p:=by
     have:j<(iL (m%16)).9:=by rw[Adk _ (sf _ (by decide))];exact hj
     exact{_,fc this}
    refine{m%16,j,p,rfl,hp,λH1 s1=>?_};k_is;have:=q H1 s1;rw[e,e16,hp] at this;rw[show(low:Int)+(p:Int)=((p+low:Nat):Int) by lia];exact this
   .have hj:¬ j<pc (m%16):=()
    k_is;rw[if_neg hj] at e16;refine{{m/16,j-pc (m%16),low+4,en (.int (pc (m%16))),?_,?_,rfl},?_}
    .show[en (V.int ((m:Int)/2 ^ (4:Int).toNat)),en (V.int ((j:Int)-(pc (m%16):Int))),en (V.int ((low:Int)+4)),en (V.int (pc (m%16)))]=_
     rw[Adf,show(j:Int)-(pc (m%16):Int)=((j-pc (m%16):Nat):Int) by lia];rfl
    .rw[e,e16,xa]
     congr 1
     funext x
     show x+4+low=x+(low+4);lia
    .show((m:Int)/2 ^ (4:Int).toNat).toNat<μ
     rw[Adf,<-hk];show m/16<m;lia
 .k_is
  have:m=0:=()
  subst this;rw[Vh] at e;have:=q H' (Ag.refl _);rw[e] at this;exact this
def Adb (z:Str):Bool:=if z.9>20000 then NH else decide (Ps z 48+Ps z 49=z.9)
inductive sC(vs:List V)(H:Hp)(Q:VK)(E:XK):Prop|mk(z:Str)(_:vs=[.str z])(_:z.9<=sizeLine)(_:Q (.bl (Adb z)) H)
include T in
theorem vH (F:Fun K "is_row" "is_row" Xn f fd):Aq P w K mg base CX0 1 f fd ["thing"] sC:=by
 exists F.ok wJ
 obtain⟨z,rfl,hz,q⟩:=h;refine⟨_,(Ab (Bl (PW.pt (Ie (Cw (B4 (Ao Cu (by rfl) T.de A8 (tpa (pv 0) (tpa (Gp (v:=.ty "str") rfl T.d7 rK rfl) Aa))))) (Ij (ttc Ga (Ao B2 (by rfl) T.c7 Cb (tpa (pv 0) Aa)) (A7 rfl T.dL))))) (Ad (Am Hu))
  Au) (Ad (Am (tpc C1 (Ak Bd (Cj lg vh vg Ue (pv 0) (tpa A5 Aa)) (Cj lg vh vg Ue (pv 0) (tpa A5 Aa))) (Ao B2 (by rfl) T.c7 Cb (tpa (pv 0) Aa)))))),?_⟩
 apply{_,_,_,_,rfl,.str _,Sa,?_};apply{z,rfl,hz,?_};k_is;unfold Adb at q;refine Bq (λhb=>?_) (λhb=>?_)
 .k_is
  rw[if_pos ()] at q;exact q
 .k_is
  rw[if_neg ()] at q;refine{rfl,?_};apply{z,48,rfl,rfl,?_};apply{rfl,?_};apply{z,49,rfl,rfl,?_};apply{z,rfl,hz,?_};k_is;have e:decide (V.int ((Ps z 48:Int)+(Ps z 49:Int))=V.int (z.9:Int))=decide (Ps z 48+Ps z 49=z.9):=by
   refine decide_eq_decide.mpr {λh=>?_,λh=>?_}
   .have:=V.int.inj h
    lia
   .rw[<-h]
    congr 1
  rw[e];exact q
inductive zX(vs:List V)(H:Hp)(Q:VK)(E:XK):Prop|mk(l:Za5)(_:vs=[.str (Ax l)])(_:0<l.9)(_:l.9<=32)(_:Q (.int (val l:Nat)) H)
include T in
theorem qN (F:Fun K "word_of" "word_of" P6 f fd):Aq P w K mg base CX0 1 f fd ["signs"] zX:=by
 exists F.ok qI
 obtain⟨l,rfl,h0,h1,q⟩:=h;refine{_,(Ad (Am (Cn Yo (by rfl) T.dY mL (tpa (Ady (pv 0)) (tpa Af Aa))))),?_};apply{_,rfl,?_,?_}
 .rw[A9]
  exact gy (Dr ())
 apply{_,rfl,?_,?_,?_,?_}
 .rw[Le,A9]
  lia
 .intro c hc
  have:c∈(Ax l).cps.toList:=by
   have h:c∈(Ax l).cps.toList.reverse.toArray.toList:=hc
   simpa using h
  exact oZ l c this
 .intro z
  have e:(X6 (Ax l)).cps.toList.length=0:=by rw[z];rfl
  have e2:(X6 (Ax l)).cps.toList.length=(X6 (Ax l)).9:=by simp[wl]
  rw[e2,Le,A9] at e;lia
 .rw[Agd]
  exact q
inductive sX (K:e7)(vs:List V)(H:Hp)(Q:VK)(E:XK):Prop|mk(l:Za5)(_:vs=[.str (Ax l)])(_:l.9<=20000)(_:∀p H',Ag H H'->H p=p9->H' p=en (.tup (nV (wordsOf l)))->Q (.ref p) H')
include T in
theorem nU (F:Fun K "words_of" "words_of" Kc f fd)(bM:T.ZC "word_of" 1 ["signs"] zX):Aq P w K mg base CX0 2 f fd ["text"] (sX K):=by
 exists F.ok mY
 obtain⟨l,rfl,hl,q⟩:=h;have hz:(Ax l).9<=sizeLine:=by rw[A9];exact gy (Ai ())
 refine{_,(Ad (Am (Cn Eo (by rfl) T.dX Pd (tpa (Ja rfl X5 (Ro rfl T.c8 (tpa Af (tpa (Ao B2 (by rfl) T.c7 Cb (tpa (pv 0) Aa)) (tpa (A7 rfl T.da) Aa)))) (λ_ _ _ _=>Cf) (λ_ _ _ _=>(Aw bM hr.m (tpa (Co Py (pv 1) (B5 (pv 0)) (B5 (Ak Bd (pv 0) (A7 rfl T.da)))) Aa)))) Aa)))),?_};apply{_,rfl,hz,?_};rw[A9];apply{0,l.9,32,rfl,(),?_};have hn:Cr 0 (l.9:Int) 32=Bx l.9:=Vl l.9 32 (by decide);rw[hn];refine jS (λi=>nV ((ft i).map λj=>val (A4 l j))) rfl (λi hi=>?_) (λi H1 R A hi sm kR kA=>?_) (λD H1 hD sm hl'=>?_)
 .have:=lN hi
  rw[fb,fb,fv];exact Ai ()
 .apply lT hz ?_;have hi':=lN hi;rw[show(0+(i:Int)*32)=((32*i:Nat):Int) by lia,show(((32*i:Nat):Int)+32)=((32*i+32:Nat):Int) by lia,P4];apply{A4 l i,?_,?_,?_,?_}
  .unfold A4
   rw[show 32*i+32-32*i=32 by lia];rfl
  .unfold A4
   rw[gq,jb];lia
  .unfold A4
   rw[gq];lia
  .refine kA _ _ ?_ (Ag.refl _)
   exact Ll _ _
 .apply{D,_,rfl,.inl {SqL.of hl',λp hp=>?_}};exact q p _ (sm.trans (Al hp)) (sm.free hp) Ae
theorem Acb:∀r:Nat,r<16->rT[r]?=en (.str (Ax (pR r))):=by
 intro r hr;have:r=0\/r=1\/r=2\/r=3\/r=4\/r=5\/r=6\/r=7\/r=8\/r=9\/r=10\/r=11\/r=12\/r=13\/r=14\/r=15:=()
 rcases this with rfl|rfl|rfl|rfl|rfl|rfl|rfl|rfl|rfl|rfl|rfl|rfl|rfl|rfl|rfl|rfl<;>rfl
theorem Ach (ls:List (Za5)):uv ("":Str) (ls.map Ax)=Ax ls.flatten:=by
 refine Hf ?_;rw[N5,C6]
 induction ls with
 |nil=>rfl
 |cons a r ih=>
  rw[jh,jh,jx,ih,jx,ge,C6]
theorem Abq (ls:List (Za5)):((ls.map Ax).map (·.length)).sum=ls.flatten.9:=by
 induction ls with
 |nil=>rfl
 |cons a r ih=>rw[jh,jh,yj,ih,jx,fq,A9]
theorem kH {K:e7}{Q:VK}{p:fe}{ls:List (Za5)}(hl:H1 p=en (.lst (ls.map λl=>V.str (Ax l))))(hz:ls.flatten.9<=100000)(q:Q (.str (Ax ls.flatten)) H1):Aa1 K (.str "") [.ref p] H1 Q:=by
 refine{"",p,ls.map Ax,rfl,rfl,SqL.of ?_,?_,?_}
 .rw[hl,jk]
  rfl
 .rw[Abq]
  show ls.flatten.9+_*0<=_;lia
 .rw[Ach]
  exact q
theorem uL (n k:Nat){j:Int}(h:j=(k:Int)):(n:Int)/2 ^ j.toNat=((n/2 ^ k:Nat):Int):=by
 subst h;rw[gr];exact(su n (2 ^ k)).symm
inductive Zx (K:e7)(vs:List V)(H:Hp)(Q:VK)(E:XK):Prop|mk(n:Nat)(_:vs=[.int n])(_:∀H',Ag H H'->Q (.str (Ax (Ow n))) H')
include T in
theorem kT (F:Fun K "signs_of" "signs_of" Kj f fd):Aq P w K mg base CX0 1 f fd ["word"] (Zx K):=by
 exists F.ok lS
 obtain⟨n,rfl,q⟩:=h;refine{_,(Ad (Am (Cj lg oj oi Oh A5 (tpa (Ja rfl X8 (Ro rfl T.c8 (tpa Af (tpa (A7 rfl T.da) (tpa Af Aa)))) (λ_ _ _ _=>Cf) (λ_ _ _ _=>(tix (Tt K) (Fn (v:=.ref _) rfl T.dN rfl) (Ak Nq (Ak qR (pv 1) (pv 0)) Af)))) Aa)))),?_};apply{rfl,?_};apply{0,32,4,rfl,(),?_};refine jS (λi=>((ft i).map λj=>pR (n/2 ^ (4*j)%16)).map λl=>V.str (Ax l)) rfl (λi hi=>?_) (λi H1 R A hi sm kR kA=>?_) (λD H1 hD sm hl=>?_)
 .have hi:i<8:=hi
  rw[fb,fb,fv];exact Dr ()
 .have hi:i<8:=hi
  apply tN () ?_;k_is;rw[uL n (4*i) (),uC];refine Cc (T.ee _) (Bi (Acb _ (sf _ (by decide)))) ?_;refine kA _ _ ?_ (Ag.refl _);rw[jo,ge,ge];rfl
 .k_is
  have hl:H1 D=en (.lst (((ft 8).map λj=>pR (n/2 ^ (4*j)%16)).map λl=>V.str (Ax l))):=hl;refine kH hl ?_ ?_
  .rw[Vd]
   unfold Ow;rw[fb,fv];decide
  .rw[Vd]
   exact q _ sm
def zS (l:Za5)(t:fe):List (Str×V):=[("length",.int (l.9:Nat)),("many_ones",.int (l.count NG:Nat)),("kept_words",.ref t)]
def Ds (K:e7)(C:fe)(H:Hp)(a:fe)(l:Za5):Prop:=∃dx t,H a=en (.ins C dx (zS l t))/\H t=en (.tup (nV (wordsOf l)))/\l.9<=20000
theorem Ik {K:e7}{x b:fe}{l:Za5}(s:SameBut x H H')(n:Abh H x)(hne:b≠x)(h:Ds K C H b l):Ds K C H' b l:=by
 obtain⟨dx,t,h1,h2,h3⟩:=h;exact{dx,t,s _ _ hne h1,s _ _ (λe=>by subst e;exact(n _).1 (.inl h2)) h2,h3}
theorem Ds.same {K:e7}{b:fe}{l:Za5}(s:Ag H H')(h:Ds K C H b l):Ds K C H' b l:=by
 obtain⟨dx,t,h1,h2,h3⟩:=h;exact{dx,t,s _ _ h1,s _ _ h2,h3}
inductive Uj (K:e7)(C:fe)(vs:List V)(H:Hp)(Q:VK)(E:XK):Prop|mk(x dx:fe)(l:Za5)(_:vs=[.ref x,.str (Ax l)])(_:H x=en (.ins C dx []))(_:l.9<=20000)(_:∀H',SameBut x H H'->Ds K C H' x l->Q .non H')
theorem qJ {l:Za5}(h:l.9<=20000):Adb (Ax l)=NG:=by
 unfold Adb;rw[A9,if_neg ()];exact decide_eq_true (Z6 l).2
variable (aw:Qf K ad)
include T aw in
theorem W8 (F:Fun K "__init__" "Bits.__init__" Lb f fd)(bN:T.ZC "is_row" 1 ["thing"] sC)(bO:T.ZC "words_of" 2 ["text"] (sX K)) :
  Aq P w K mg base CX0 3 f fd ["self","text"] (Uj K ad):=by
 exists F.ok iZ
 obtain⟨x,dx,l,rfl,hx,hl,q⟩:=h;have hz:(Ax l).9<=sizeLine:=by rw[A9];exact gy (Ai ())
 refine⟨_,(Ab (Bl (Cw (B4 (Aw bN hr.m (tpa (pv 1) Aa)))) (Ad C7)
  Au) (Ab (tsf (pv 0) (Ao B2 (by rfl) T.c7 Cb (tpa (pv 1) Aa))) (Ab (tsf (pv 0) (Cj lg vh vg Ue (pv 1) (tpa A5 Aa))) (Ad (tsf (pv 0) (Aw bO hr.m (tpa (pv 1) Aa))))))),?_⟩
 apply{_,rfl,hz,?_};rw[qJ hl];apply{_,rfl,hz,?_};rw[A9];apply Dx hx aw.cl aw.c9 (by decide) ?_;apply{rfl,?_};apply{_,49,rfl,rfl,?_};rw[(Z6 l).1];apply Dx Ae aw.cl aw.eR (show 1<1000 by decide) ?_;rw[Tp];apply{l,rfl,hl,λt H' sm hf ht=>?_};apply Dx (sm _ _ Ae) aw.cl aw.df (show 2<1000 by decide) ?_;apply q _ ((Bc.trans sm.but).trans Bc) {dx,t,Ae,?_,hl};have hne:t≠x:=λe=>by
  subst e;rw[Ae] at hf;cases hf
 rw[Aj hne];exact ht
inductive Va (K:e7)(C:fe)(vs:List V)(H:Hp)(Q:VK)(E:XK):Prop|mk(x:fe)(l:Za5)(_:vs=[.ref x])(_:Ds K C H x l)(_:Q (.int (l.9:Nat)) H)
include T aw in
theorem W9 (F:Fun K "size" "Bits.size" Lo f fd):Aq P w K mg base CX0 1 f fd ["self"] (Va K ad):=by
 exists F.ok hX
 obtain⟨x,l,rfl,⟨dx,t,hx,ht,hl⟩,q⟩:=h;refine{_,(Ad (Am (tfl (pv 0)))),?_};k_is;exact xT hx aw.cl aw.c9 rfl q
inductive Sl (K:e7)(C:fe)(vs:List V)(H:Hp)(Q:VK)(E:XK):Prop|mk(x:fe)(l:Za5)(_:vs=[.ref x])(_:Ds K C H x l)(_:∀t,H t=en (.tup (nV (wordsOf l)))->Q (.ref t) H)
include T aw in
theorem W5 (F:Fun K "words" "Bits.words" Km f fd):Aq P w K mg base CX0 1 f fd ["self"] (Sl K ad):=by
 exists F.ok Yc
 obtain⟨x,l,rfl,⟨dx,t,hx,ht,hl⟩,q⟩:=h;refine{_,(Ad (Am (tfl (pv 0)))),?_};k_is;exact xT hx aw.cl aw.df rfl (q t ht)
inductive Zj (K:e7)(C:fe)(vs:List V)(H:Hp)(Q:VK)(E:XK):Prop|mk(a:fe)(l:Za5)(low high:Nat)(_:vs=[.ref a,.int low,.int high])(_:Ds K C H a l)(_:low<=high)(_:high<=l.9)(_:∀H',Ag H H'->Q (.str (Ax ((l.drop low).take (high-low)))) H')
variable (aV:T.ZC "check_stretch" 4 ["low","high","greatest"] Abx)
include T aw aV in
theorem Wu (F:Fun K "stretch" "Bits.stretch" Fw f fd)(bP:T.ZC "signs_of" 1 ["word"] (Zx K)) :
  Aq P w K mg base CX0 5 f fd ["self","low","high"] (Zj K ad):=by
 exists F.ok Dp
 obtain⟨a,l,low,high,rfl,⟨dx,t,hx,ht,hl⟩,h1,h2,q1⟩:=h;refine{_,(Ab (As (Aw aV hr.m (tpa (pv 1) (tpa (pv 2) (tpa (tfl (pv 0)) Aa))))) (Ab (tst 3 Dp.nd (Ak Cg (pv 1) (A7 rfl T.da))) (Ab (tst 4 Dp.nd (Ak Cg (Ak B0 (Ak Bd (pv 2) (A7 rfl T.da)) Af) (A7 rfl T.da))) (Ab (tst 5 Dp.nd (Cj lg oj oi Oh A5 (tpa (Ja rfl Pi (pX (Co iC (tfl (pv 0)) (B5 (pv 3)) (B5 (pv 4)))) (λ_ _ _ _=>Cf) (λ_ _ _ _=>(Aw bP hr.m (tpa (pv 0) Aa)))) Aa))) (Ab (tst 6 Dp.nd (Ak D6 (pv 3) (A7 rfl T.da))) (Ad (Am (Co Py (pv 5) (B5 (Ak B0 (pv 1) (pv 6))) (B5 (Ak B0 (pv 2) (pv 6))))))))))),?_}
 apply{a,ad,dx,_,_,rfl,hx,aw.cl,aw.c9,rfl,?_};apply{low,high,_,rfl,(),(),(),?_};apply{rfl,?_};apply{a,ad,dx,_,_,rfl,hx,aw.cl,aw.df,rfl,?_};apply{t,_,rfl,SqT.of ht,λp2 H2 s2 hp2=>?_};rw[show((low:Int)/32)=((low/32:Nat):Int) by lia,show((high:Int)+32-1)/32=(((high+31)/32:Nat):Int) by lia,Xf] at hp2;have hW:(wordsOf l).9=Bx l.9:=by unfold _W.wordsOf;rw[fb,fv]
 have e8:((nV (wordsOf l)).drop (low/32)).take ((high+31)/32-low/32)=nV ((ft ((high+31)/32-low/32)).map λj=>val (A4 l (low/32+j))):=by
  unfold nV;have:min ((high+31)/32-low/32) (Bx l.9-low/32)=(high+31)/32-low/32:=by unfold Bx;lia
  rw[<-sk,<-pi,Y4,this]
 rw[e8] at hp2;refine{p2,rfl,{_,hp2},?_};generalize hm:(high+31)/32-low/32=m at hp2;refine yN hp2 (λj=>((ft j).map λi=>Ow (val (A4 l (low/32+i)))).map λl=>V.str (Ax l)) rfl (λj hj=>?_) (λj z H3 R A hz s3 kR kA=>?_) (λD H3 hD s3 hl3=>?_)
 .rw[fb,fb,fv] at hj
  rw[fb,fb,fv];exact Dr ()
 .have hj:j<m:=by
   have:=(gg.mp hz).1
   rwa [fb,fb,fv] at this
  have hze:z=.int (val (A4 l (low/32+j)):Nat):=by
   unfold nV at hz;rw[fg,fg,gn hj] at hz;exact(fk hz).symm
  subst hze;apply{_,rfl,λH4 s4=>?_};refine kA _ _ ?_ s4;rw[jo,ge,ge];rfl
 .rw[fb,fb,fv] at hl3
  have hfl:((ft m).map λi=>Ow (val (A4 l (low/32+i)))).flatten.length<=100000:=by
   rw[Ur,fb,fv];lia
  apply kH hl3 hfl ?_;apply lT ?_ ?_
  .rw[A9]
   exact gy (Ai hfl)
  rw[Ur,show((low:Int)-(low:Int)/32*32)=((low-32*(low/32):Nat):Int) by lia,show((high:Int)-(low:Int)/32*32)=((high-32*(low/32):Nat):Int) by lia,P4,
   show high-32*(low/32)-(low-32*(low/32))=high-low by lia,Acl l (low/32) m low (high-low) () () ()]
  exact q1 _ (s2.trans s3)
inductive Ae6 (K:e7)(C:fe)(vs:List V)(H:Hp)(Q:VK)(E:XK):Prop|mk(a:fe)(l:Za5)(n:Nat)(_:vs=[.ref a,.int n])(_:Ds K C H a l)(_:n<l.9)(_:Q (.int ((l.getD n NH).toNat:Nat)) H)
theorem Ah8 (l:Za5)(i:Nat):l5 (((val (A4 l (i/32))/2 ^ (i%32):Nat):Int)) 1=((l.getD i NH).toNat:Nat):=by
 rw[Ai4,Tu,Ld l _ (sf _ (by decide)),show 32*(i/32)+i%32=i by lia]
include T aA aw in
theorem Yb (F:Fun K "bit" "Bits.bit" Nr f fd) :
  Aq P w K mg base CX0 4 f fd ["self","place"] (Ae6 K ad):=by
 exists F.ok lQ
 obtain⟨a,l,n,rfl,⟨dx,t,hx,ht,hl⟩,hn,q1⟩:=h;refine{_,(Ab (As (Aw aA hr.m (tpa (pv 1) (tpa (Ak B0 (tfl (pv 0)) Af) Aa)))) (Ad (Am (Ak Nq (Ak qR (tix Bh (tfl (pv 0)) (Ak Cg (pv 1) (A7 rfl T.da))) (Ak B1 (pv 1) (A7 rfl T.da))) Af)))),?_}
 apply{a,ad,dx,_,_,rfl,hx,aw.cl,aw.c9,rfl,?_};apply{n,_,rfl,(),(),?_};apply{a,ad,dx,_,_,rfl,hx,aw.cl,aw.df,rfl,?_};k_is;rw[show((n:Int)/32)=((n/32:Nat):Int) by lia];refine Cc (SqT.of ht) (On (by unfold Bx;lia)) ?_;apply tN () ?_;k_is;rw[uL _ (n%32) (),Ah8];exact q1
include T in
theorem X9 (F:Fun K "first_that" "first_that" J7 f fd):Aq P w K mg base CX0 3 f fd ["low","high","holds"] (Tz P w K mg base 2):=by
 exists F.ok Gq
 obtain⟨lo,hi,g,p,rfl,hle,hA,q⟩:=h;refine{_,(Ab (Eu im (ttc Ot (pv 0) (pv 1)) (Ab (tst 3 Gq.nd (Ak Cg (Ak Bd (pv 0) (pv 1)) Af)) (Ad (Bl (B4 (Ahi (k:=2) hr.m (i:=2) rfl rfl (pv 3))) (Ad (tst 1 Gq.nd (pv 3))) (Ad (tst 0 Gq.nd (Ak Bd (pv 3) Af))))))) (Ad (Am (pv 0)))),?_}
 apply Fp (λσ H'=>Ag H H'/\∃(x y:Int) (v:Option V),σ=[en (.int x),en (.int y),en (.ref g),v]/\lo<=x/\x<=y/\y<=hi/\(lo<x->p (x-1)=NH)/\(y<hi->p y=NG)) (λσ _=>match σ with | [en (.int x),en (.int y),_,_]=>(y-x).toNat|_=>0) ⟨Ag.refl _,lo,hi,p9,rfl,EJ _,hle,EJ _,λz=>absurd z (IH _),λz=>absurd z (IH _)⟩ ?_;rintro μ σ H' ⟨sm,x,y,v,rfl,h1,h2,h3,h4,h5⟩ XH;apply Bq (λhw=>?_) (λhw=>?_)
 .refine Kv ?_
  apply{g,_,p,rfl,hA.same sm,?_};k_is;have ht1:x<=(x+y)/2:=()
  have ht2:(x+y)/2<y:=()
  refine{_,rfl,Ag.refl _,{ww h1 ht1,Int.lt_of_lt_of_le ht2 h3},λH2 s2=>?_};k_is;have hμ':y-x=(μ:Int):=by
   have:(y-x).toNat=μ:=XH;lia
  cases hp:p ((x+y)/2) with
  |true=>
   apply{{sm.trans s2,x,(x+y)/2,_,rfl,h1,ht1,ww (JI ht2) h3,h4,λ_=>hp},?_};show((x+y)/2-x).toNat<μ;generalize (x+y)/2=t at *;lia
  |false=>
   apply{{sm.trans s2,(x+y)/2+1,y,_,rfl,ww h1 (ww ht1 (JI (Int.lt_succ _))),ht2,h3,λ_=>by rw[Int.add_sub_cancel];exact hp,h5},?_};show(y-((x+y)/2+1)).toNat<μ;generalize (x+y)/2=t at *;lia
 .k_is
  obtain rfl:x=y:=()
  exact q x H' h1 h3 h4 h5 sm
inductive Afy(vs:List V)(H:Hp)(Q:VK)(E:XK):Prop|mk(a:fe)(xs:Za4)(_:vs=[.ref a])(_:H a=en (.lst (nV xs)))(_:xs.9<=1000)(_:∀p H',Ag H H'->H p=p9->H' p=en (.lst (nV ((ft (xs.9+1)).map λi=>(xs.take i).sum)))->Q (.ref p) H')
include T in
theorem Sw (F:Fun K "running_sums" "running_sums" Hr f fd):Aq P w K mg base CX0 1 f fd ["numbers"] Afy:=by
 exists F.ok G5
 obtain⟨a,xs,rfl,ha,hn,q⟩:=h;refine{_,(Ab (tst 1 G5.nd (Ay (tpa Af Aa))) (Ab (Cq im rfl (Ey (pv 0)) (tgn 2 G5.nd) (Ad (As (Cj gl ic gz Bf (pv 1) (tpa (Ak Bd (tix Bp (pv 1) (Fl Dc Af)) (pv 2)) Aa))))) (Ad (Am (pv 1))))),?_}
 apply{few (by simp),λp hp=>?_};have t0:=Al (o:=.lst [V.int 0]) hp;apply{a,rfl,{_,SqL.of (t0 _ _ ha)},?_};refine Om (xs:=nV xs) (λi σ H1=>(∃v:Option V,σ=[en (.ref a),en (.ref p),v])/\H1 p=en (.lst (nV ((ft (i+1)).map λi=>(xs.take i).sum)))/\Ag H H1) {{_,rfl},Ae,t0} (λi σ H1 _ h=>SqL.of (h.2.2 _ _ ha)) ?_ ?_
 .rintro i x σ H1 hx ⟨⟨v,rfl⟩,hp1,s1⟩
  have hi:=Bt hx;rw[show(nV xs).9=xs.9 by unfold nV;rw[fb]] at hi;obtain rfl:x=.int (xs[i]:Nat):=by
   unfold nV at hx;rw[fg,fc hi] at hx;exact(fk hx).symm
  apply{.inl {rfl,_,SqL.of hp1},?_};apply Cm (SqL.of hp1) (v:=.int ((xs.take i).sum:Nat)) ?_ ?_
  .rw[Ll]
   exact mR _ _
  apply Bm hp1 ?_ ?_
  .unfold nV
   rw[fb,fb,fv];exact Ai ()
  apply{{_,rfl},?_,λb u e=>?_}
  .rw[Ae,Ll _ (i+1),i6,fc hi,AA]
   show en (HO.lst (_++[V.int (((xs.take i).sum:Nat)+(xs[i]:Nat):Int)]))=en (HO.lst (_++[V.int (((xs.take i).sum+[xs[i]].sum:Nat):Int)]));rw[yr,HA]
  .rw[Aj (An e hp)]
   exact s1 _ _ e
 .rintro σ H1 ⟨⟨v,rfl⟩,hp1,s1⟩
  rw[show(nV xs).9=xs.9 by unfold nV;rw[fb]] at hp1;k_is;exact q p H1 s1 hp hp1
def Ck (n:Nat):Nat:=(Bx n+7)/8
def Ix (l:Za5):Za4:=(ft (Ck l.9+1)).map λb=>cnt l (256*b)
inductive rX (K:e7)(vs:List V)(H:Hp)(Q:VK)(E:XK):Prop|mk(t:fe)(l:Za5)(_:vs=[.ref t])(_:H t=en (.tup (nV (wordsOf l))))(_:l.9<=20000)(_:∀p H',Ag H H'->H p=p9->H' p=en (.tup (nV (Ix l)))->Q (.ref p) H')
theorem mB (l:Za5)(b:Nat):((wordsOf l).drop (8*b)).take 8=(ft (min 8 (Bx l.9-8*b))).map λi=>val (A4 l (8*b+i)):=by
 unfold _W.wordsOf;refine qv λi=>?_;rw[og]
 by_cases h8:i<8
 .rw[if_pos h8,mi,fg,fg]
  by_cases hm:8*b+i<Bx l.9
  .rw[gn hm,gn ()]
   rfl
  .rw[jc (by rw[fv];lia),jc (by rw[fv];lia)]
   rfl
 .rw[if_neg h8,jc (by rw[fb,fv];lia)]
def blk (l:Za5)(i:Nat):Za4:=(ft (min 8 (Bx l.9-8*i))).map λj=>val (A4 l (8*i+j))
def pQ (l:Za5)(i:Nat):Nat:=((ft (min 8 (Bx l.9-8*i))).map λm=>pc (val (A4 l (8*i+m)))).sum
theorem mU (l:Za5):∀i,(((ft i).map (pQ l)).sum)=cnt l (256*i)
 |0=>by
  show 0=cnt l 0;rfl
 |i+1=>by
  rw[jo,ge,AA,mU l i];show cnt l (256*i)+[pQ l i].sum=_;rw[yr];have:=uV l i (min 8 (Bx l.9-8*i)) rfl;unfold pQ;lia
def wP (K:e7)(l:Za5)(i:Nat)(ys:List V)(H:Hp):Prop:=ys.9=i/\∀j y,ys[j]?=en y->∃a,y=.ref a/\SqT K H a (nV (blk l j))
theorem Acu {K:e7}{l:Za5}{i:Nat}{ys:List V}{D:fe}{o:HO}(hD:H D=en (.lst xs))(h:wP K l i ys H):wP K l i ys (upd H D o):=⟨h.1,λj y e=>by
 obtain⟨a,rfl,ht⟩:=h.2 j y e;refine{a,rfl,?_};rcases ht with(ht|⟨ob,ht⟩)|ht
 .exact .inl (.inl (by rw[Aj (Iw ht hD (by intro z;cases z))];exact ht))
 .exact .inl (.inr {ob,by rw[Aj (Iw ht hD (by intro z;cases z))];exact ht})
 .exact .inr ht⟩
theorem wP.same {K:e7}{l:Za5}{i:Nat}{ys:List V}(h:wP K l i ys H)(s:Ag H H'):wP K l i ys H':=⟨h.1,λj y e=>by
 obtain⟨a,rfl,ht⟩:=h.2 j y e;exact{a,rfl,s.seqT ht}⟩
variable (aM:T.ZC "ones_in" 1 ["word"] yP)
include T aM in
theorem O7 (F:Fun K "table_of_words" "table_of_words" C5 f fd)(bQ:T.ZC "running_sums" 1 ["numbers"] Afy):Aq P w K mg base CX0 2 f fd ["words"] (rX K):=by
 exists F.ok Iy
 obtain⟨t,l,rfl,ht,hl,q⟩:=h;have hW:(wordsOf l).9=Bx l.9:=by unfold _W.wordsOf;rw[fb,fv]
 have hM:Bx l.9<=626:=by unfold Bx;lia
 have hB:Ck l.9<=80:=by unfold Ck;lia
 refine{_,(Ab (Ly (i:=1) rfl Mw Iy.nd rfl rfl (Ro rfl T.c8 (tpa Af (tpa (Ao At (by rfl) T.c7 Cb (tpa (pv 0) Aa)) (tpa (A7 rfl T.dj) Aa)))) (λ_ _ _ _=>Cf) (λ_ _ _ _=>(Co (Acf K) (pv 1) (B5 (pv 0)) (B5 (Ak Bd (pv 0) (A7 rfl T.dj)))))) (Ad (Am (Cn Eo (by rfl) T.dX Pd (tpa (Aw bQ hr.m (tpa (Ja rfl Mv (Ey (pv 1)) (λ_ _ _ _=>Cf) (λ_ _ _ _=>(Ao (wY K rfl) (by rfl) T.n_sum Aiz (tpa (Acz rfl M4 (Ac4 K (pv 0)) (λ_ _ _ _=>Cf) (λ_ _ _ _=>(Aw aM hr.m (tpa (pv 0) Aa)))) Aa)))) Aa)) Aa))))),?_}
 apply{t,_,rfl,.inr (SqT.of ht),?_};k_is;rw[fb,hW];refine{0,Bx l.9,8,rfl,(),?_};have hn:Cr 0 (Bx l.9:Int) 8=Ck l.9:=Vl (Bx l.9) 8 (by decide);rw[hn];refine vE (λi ys H1=>wP K l i ys H1) (λH1 _=>{rfl,λj y e=>by cases e}) (λi ys H1 D xs o hD h=>Acu hD h) (λi ys H1 hi h=>by rw[h.1];exact Dr ()) (λi ys H1 A R hi s1 hP kA=>?_) (λD ys H1 hD s1 hP hDl=>?_)
 .apply{t,_,rfl,SqT.of (s1 _ _ ht),λp2 H2 s2 hp2=>?_};rw[show(0+(i:Int)*8)=((8*i:Nat):Int) by lia,show(((8*i:Nat):Int)+8)=((8*i+8:Nat):Int) by lia,Xf,show 8*i+8-8*i=8 by lia] at hp2;have e8:((nV (wordsOf l)).drop (8*i)).take 8=nV (blk l i):=by
   unfold nV blk;rw[<-sk,<-pi,mB]
  rw[e8] at hp2;refine kA _ _ s2 {by rw[fq,hP.1];rfl,λj y e=>?_}
  by_cases hj:j<ys.9
  .rw[gv hj] at e
   exact(hP.same s2).2 j y e
  .rw[ig ()] at e
   have e0:j-ys.9=0:=by
    have:=Bt e;simp only[iu,kl] at this;lia
   rw[e0] at e;obtain rfl:=fk e;have:j=i:=by have:=hP.1;lia
   subst this;exact⟨p2,rfl,hp2⟩
 .apply{D,rfl,{_,SqL.of hDl},?_};refine fT (SqL.of hDl) (λi=>nV ((ft i).map (pQ l))) rfl (λi hi=>?_) (λi x H2 R A hx s2 kR kA=>?_) (λD2 H2 hD2 s2 hl2=>?_)
  .unfold nV
   rw[fb,fb,fv];rw[hP.1] at hi;exact Dr ()
  .obtain⟨b,rfl,hb⟩:=(hP.same s2).2 i x hx
   apply{b,rfl,{_,hb},?_};refine yN hb (λj=>nV ((ft j).map λm=>pc (val (A4 l (8*i+m))))) rfl (λj hj=>?_) (λj x H3 R3 A3 hx3 s3 kR3 kA3=>?_) (λD3 H3 hD3 s3 hl3=>?_)
   .unfold blk nV at hj
    rw[fb,fb,fv] at hj;rw[fb,fb,fv];exact Dr ()
   .have hj:j<min 8 (Bx l.9-8*i):=by
     have:=(gg.mp hx3).1;unfold blk nV at this
     rwa [fb,fb,fv] at this
    have hxe:x=.int (val (A4 l (8*i+j)):Nat):=by
     unfold nV blk at hx3;rw[fg,fg,gn hj] at hx3;exact(fk hx3).symm
    subst hxe;apply{_,rfl,?_};refine kA3 _ _ ?_ (Ag.refl _);exact Ll _ _
   .unfold blk at hl3
    rw[fb,fb,fv] at hl3;apply{D3,_,rfl,SqL.of (by rw[hl3,Aei]),?_};rw[yY];refine kA _ _ ?_ s3;exact Ll _ _
  .rw[hP.1] at hl2
   apply{D2,(ft (Ck l.9)).map (pQ l),rfl,hl2,by rw[fb,fv];lia,λp4 H4 s4 hp4 hl4=>?_};apply{p4,_,rfl,.inl {SqL.of hl4,λp5 hp5=>?_}};have et:(ft (((ft (Ck l.9)).map (pQ l)).9+1)).map (λi=>(((ft (Ck l.9)).map (pQ l)).take i).sum)=Ix l:=by
    rw[fb,fv];unfold Ix;refine jg λi hi=>?_;have hi:=ki.mp hi;rw[<-pi,List.take_range,j9 (),mU]
   rw[et] at *;exact q p5 _ (((s1.trans s2).trans s4).trans (Al hp5)) (((s1.trans s2).trans s4).free hp5) Ae
def yC (l:Za5)(t u:fe):List (Str×V):=[("length",.int (l.9:Nat)),("kept_words",.ref t),("kept_table",.ref u)]
def A0 (K:e7)(C:fe)(H:Hp)(a:fe)(l:Za5):Prop:=∃dx t u,H a=en (.ins C dx (yC l t u))/\H t=en (.tup (nV (wordsOf l)))/\H u=en (.tup (nV (Ix l)))/\l.9<=20000
theorem A0.same {K:e7}{b:fe}{l:Za5}(s:Ag H H')(h:A0 K C H b l):A0 K C H' b l:=by
 obtain⟨dx,t,u,h1,h2,h3,h4⟩:=h;exact{dx,t,u,s _ _ h1,s _ _ h2,s _ _ h3,h4}
inductive O1 (K:e7)(CB C:fe)(vs:List V)(H:Hp)(Q:VK)(E:XK):Prop|mk(x dx b:fe)(l:Za5)(_:vs=[.ref x,.ref b])(_:H x=en (.ins C dx []))(_:Ds K CB H b l)(_:∀H',SameBut x H H'->A0 K C H' x l->Q .non H')
variable (ao:Qd K ac)
include T ao in
theorem W2 (F:Fun K "__init__" "Counts.__init__" Ji f fd)(bR:T.ZM ad "size" 1 ["self"] (Va K ad))(bS:T.ZM ad "words" 1 ["self"] (Sl K ad))(bT:T.ZC "table_of_words" 2 ["words"] (rX K)) :
  Aq P w K mg base CX0 3 f fd ["self","bits"] (O1 K ad ac):=by
 exists F.ok Vz
 obtain⟨x,dx,b,l,rfl,hx,hb,q⟩:=h;have hb0:=hb;obtain⟨dxb,t,hbx,ht,hl⟩:=hb0;have hbne:b≠x:=Iw hbx hx (by intro z;cases z);refine{_,(Ab (tsf (pv 0) (Jk bR hr.m (pv 1))) (Ab (tsf (pv 0) (Jk bS hr.m (pv 1))) (Ad (tsf (pv 0) (Aw bT hr.m (tpa (tfl (pv 0)) Aa)))))),?_}
 apply{b,dxb,_,rfl,hbx,rfl,?_};apply{b,l,rfl,hb,?_};apply Dx hx ao.cl ao.c9 (by decide) ?_;apply{b,dxb,zS l t,rfl,by rw[Aj hbne];exact hbx,rfl,?_};apply{b,l,rfl,Ik Bc (Fj hx) hbne hb,λt2 ht2=>?_};apply Dx Ae ao.cl ao.df (show 1<1000 by decide) ?_;rw[Tp];have ht3:(upd H x (.ins ac dx (F5 "kept_words" (.ref t2) (F5 "length" (.int (l.9:Nat)) [])))) t2=en (.tup (nV (wordsOf l))):=by
  have hne:t2≠x:=Iw ht2 Ae (by intro z;cases z);rw[Aj hne] at ht2 ⊢;exact ht2
 apply{x,ac,dx,_,.ref t2,rfl,Ae,ao.cl,ao.df,rfl,?_};apply{t2,l,rfl,ht3,hl,λu H' sm hf hu=>?_};apply Dx (sm _ _ Ae) ao.cl ao.dq (show 2<1000 by decide) ?_;k_is;have hix:=sm _ _ (Ae (H:=H) (a:=x));have n1:t2≠x:=Iw (sm _ _ ht3) hix (by intro z;cases z);have n2:u≠x:=Iw hu hix (by intro z;cases z);exact q _ ((Bc.trans sm.but).trans Bc) {dx,t2,u,Ae,by rw[Aj n1];exact sm _ _ ht3,by rw[Aj n2];exact hu,hl}
theorem kQ {l:Za5}{b:Nat}(h:b<=Ck l.9):atI (nV (Ix l)) (b:Int)=en (.int (cnt l (256*b):Nat)):=by
 refine Bi ?_;unfold nV Ix;rw[fg,fg,gn ()];rfl
inductive Sm (K:e7)(C:fe)(vs:List V)(H:Hp)(Q:VK)(E:XK):Prop|mk(a:fe)(l:Za5)(n:Nat)(_:vs=[.ref a,.int n])(_:A0 K C H a l)(_:n<=l.9)(_:∀H',Ag H H'->Q (.int (cnt l n:Nat)) H')
include T aM ao in
theorem Qs (F:Fun K "ones_ahead" "Counts.ones_ahead" Em f fd):Aq P w K mg base CX0 2 f fd ["self","place"] (Sm K ac):=by
 exists F.ok Bb
 obtain⟨a,l,n,rfl,⟨dx,t,u,hx,ht,hu,hl⟩,hn,q⟩:=h;refine⟨_,(Ab (tst 2 Bb.nd (Ak Cg (pv 1) (A7 rfl T.da))) (Ab (tst 3 Bb.nd (Ak Cg (pv 2) (A7 rfl T.dj))) (Ab (tst 4 Bb.nd (tix Bh (tfl (pv 0)) (pv 3))) (Ab (Cq im rfl (pX (Co iC (tfl (pv 0)) (B5 (Ak D6 (pv 3) (A7 rfl T.dj))) (B5 (pv 2)))) (tgn 5 Bb.nd) (Ad (tau 4 Bb.nd (Aw aM hr.m (tpa (pv 5) Aa)) N3))) (Ab (tst 6 Bb.nd (Ak B1 (pv 1) (A7 rfl T.da))) (Ab (Bl (ttc Ga (pv 6) Af) (Ad (tau 4 Bb.nd (Aw aM hr.m (tpa (Ak Nq (tix Bh (tfl (pv 0)) (pv 2)) (Ak B0 (Ak Ahh Af (pv 6)) Af)) Aa)) N3))
  Au) (Ad (Am (pv 4))))))))),?_⟩
 apply{a,ac,dx,_,_,rfl,hx,ao.cl,ao.dq,rfl,?_};k_is;rw[show((n:Int)/32/8)=((n/256:Nat):Int) by lia,show((n:Int)/32)=((n/32:Nat):Int) by lia];refine Cc (SqT.of hu) (kQ (by unfold Ck Bx;lia)) ?_;apply{a,ac,dx,_,_,rfl,hx,ao.cl,ao.df,rfl,?_};apply{t,_,rfl,SqT.of ht,λp2 H2 s2 hp2=>?_};rw[show((n/256:Nat):Int)*8=((8*(n/256):Nat):Int) by lia,Xf] at hp2;have e8:((nV (wordsOf l)).drop (8*(n/256))).take (n/32-8*(n/256))=nV ((ft (n/32-8*(n/256))).map λj=>val (A4 l (8*(n/256)+j))):=by
  unfold nV;have:min (n/32-8*(n/256)) (Bx l.9-8*(n/256))=n/32-8*(n/256):=j9 (Nat.sub_le_sub_right (by unfold Bx;lia) _);rw[<-sk,<-pi,Y4,this]
 rw[e8] at hp2;refine{p2,rfl,{_,hp2},?_};generalize hm:n/32-8*(n/256)=m at hp2;refine Ads (xs:=nV ((ft m).map λj=>val (A4 l (8*(n/256)+j)))) (λi σ H'=>H'=H2/\∃v5 v6:Option V,σ=[en (.ref a),en (.int n),en (.int ((n/32:Nat):Int)),en (.int ((n/256:Nat):Int)),en (.int (cnt l (32*(8*(n/256)+i)):Nat)),v5,v6]) ?_ (λi σ H' _ h=>by rw[h.1];exact hp2) ?_ ?_
 .refine{rfl,p9,p9,?_}
  rw[show 32*(8*(n/256)+0)=256*(n/256) by lia];rfl
 .rintro i x σ H' hx' ⟨rfl,v5,v6,rfl⟩
  have hi:i<m:=by
   have:=(gg.mp hx').1
   rwa [fb,fb,fv] at this
  have hze:x=.int (val (A4 l (8*(n/256)+i)):Nat):=by
   unfold nV at hx';rw[fg,fg,gn hi] at hx';exact(fk hx').symm
  subst hze;apply{_,rfl,?_};apply{rfl,en (.int (val (A4 l (8*(n/256)+i)):Nat)),v6,?_};have:=lI l (8*(n/256)+i);rw[show 8*(n/256)+(i+1)=8*(n/256)+i+1 by lia,this];rfl
 .rintro σ H' ⟨rfl,v5,v6,rfl⟩
  rw[show(nV ((ft m).map λj=>val (A4 l (8*(n/256)+j)))).9=m by unfold nV;rw[fb,fb,fv],show 8*(n/256)+m=n/32 by lia];k_is;have ec:cnt l n=cnt l (32*(n/32))+((l.drop (32*(n/32))).take (n%32)).count NG:=by
   rw[<-tS];congr 1;lia
  refine Bq (λhr'=>?_) (λhr'=>?_)
  .have hr0:0<n%32:=()
   apply{a,ac,dx,_,_,rfl,s2 _ _ hx,ao.cl,ao.df,rfl,?_};apply Cc (SqT.of (s2 _ _ ht)) (On (by unfold Bx;lia)) ?_;apply Ak3 {(),(),by decide} ?_;k_is;rw[Aa9 _ (n%32) ()];refine{_,rfl,?_};k_is;rw[Aca,Nu];have e2:(A4 l (n/32)).take (n%32)=(l.drop (32*(n/32))).take (n%32):=by
    unfold A4;rw[AT,j9 ()]
   rw[e2];have:=q _ s2;rw[ec] at this;exact this
  .have hr0:n%32=0:=()
   k_is;have:=q _ s2;rw[ec,hr0,List.take_zero] at this;exact this
inductive uK (K:e7)(C:fe)(vs:List V)(H:Hp)(Q:VK)(E:XK):Prop|mk(a:fe)(l:Za5)(b:Bool)(n:Nat)(_:vs=[.ref a,.int (b.toNat:Nat),.int n])(_:A0 K C H a l)(_:n<=l.9)(_:∀H',Ag H H'->Q (.int ((occ b l n).9:Nat)) H')
variable (aW:T.ZC "check_bit" 3 ["bit"] xS)
include T aA ao aW in
theorem Wv (F:Fun K "ahead" "Counts.ahead" Hy f fd)(bU:T.ZM ac "ones_ahead" 2 ["self","place"] (Sm K ac)):Aq P w K mg base CX0 4 f fd ["self","bit","place"] (uK K ac):=by
 exists F.ok Kw
 obtain⟨a,l,b,n,rfl,hC,hn,q1⟩:=h;obtain⟨dx,t,u,hx,ht,hu,hl⟩:=id hC;refine{_,(Ab (As (Aw aW hr.m (tpa (pv 1) Aa))) (Ab (As (Aw aA hr.m (tpa (pv 2) (tpa (tfl (pv 0)) Aa)))) (Ab (tst 3 Kw.nd (Av bU hr.m (pv 0) (tpa (pv 2) Aa))) (Ad (Am (Ci (ttc C1 (pv 1) Af) (pv 3) (Ak B0 (pv 2) (pv 3)))))))),?_}
 apply{b,rfl,?_};apply{a,ac,dx,_,_,rfl,hx,ao.cl,ao.c9,rfl,?_};apply{n,_,rfl,(),(),?_};apply{a,dx,_,rfl,hx,rfl,?_};apply{a,l,n,rfl,hC,hn,λH' s'=>?_};k_is;have ho:=Ti l n
 cases b with
 |true=>
  refine Bq (λ_=>?_) (λz=>absurd rfl z);k_is;have:=q1 H' s';rw[ho.1] at this;exact this
 |false=>
  refine Bq (λz=>absurd z (by decide)) (λ_=>?_);k_is;have:=q1 H' s';rw[show((n:Int)-(cnt l n:Nat))=((occ NH l n).9:Nat) by lia];exact this
inductive N9 (K:e7)(C:fe)(vs:List V)(H:Hp)(Q:VK)(E:XK):Prop|mk(a:fe)(l:Za5)(b:Bool)(k:Nat)(_:vs=[.ref a,.int (b.toNat:Nat),.int k])(_:A0 K C H a l)(_:k<=Ck l.9)(_:Q (.int ((occ b l (min (256*k) l.9)).9:Nat)) H)
include T ao in
theorem Qi (F:Fun K "ahead_of_block" "Counts.ahead_of_block" C8 f fd):Aq P w K mg base CX0 1 f fd ["self","bit","block"] (N9 K ac):=by
 exists F.ok Es
 obtain⟨a,l,b,k,rfl,⟨dx,t,u,hx,ht,hu,hl⟩,hk,q⟩:=h;have ec:cnt l (256*k)=cnt l (min (256*k) l.9):=by
  by_cases h:256*k<=l.9
  .rw[j9 h]
  .rw[sh (),Tl l (),Tl l (fm _)]
 refine{_,(Ab (tst 3 Es.nd (tix Bh (tfl (pv 0)) (pv 2))) (Ad (Am (Ci (ttc C1 (pv 1) Af) (pv 3) (Ak B0 (Ao (R5 rfl) (by rfl) T.dC Xs (tpa (Ak D6 (pv 2) (A7 rfl T.dG)) (tpa (tfl (pv 0)) Aa))) (pv 3)))))),?_}
 apply{a,ac,dx,_,_,rfl,hx,ao.cl,ao.dq,rfl,?_};apply Cc (SqT.of hu) (kQ hk) ?_;k_is;have ho:=Ti l (min (256*k) l.9)
 cases b with
 |true=>
  refine Bq (λ_=>?_) (λz=>absurd rfl z);k_is;rw[ho.1] at q;rw[ec];exact q
 |false=>
  refine Bq (λz=>absurd z (by decide)) (λ_=>?_);apply{a,ac,dx,_,_,rfl,hx,ao.cl,ao.c9,rfl,?_};apply{_,_,rfl,?_};k_is;have em:(if((l.9:Nat):Int)<(k:Int)*256 then((l.9:Nat):Int) else(k:Int)*256)=((min (256*k) l.9:Nat):Int):=by
   split<;>lia
  rw[em,ec,show((min (256*k) l.9:Nat):Int)-(cnt l (min (256*k) l.9):Nat)=((occ NH l (min (256*k) l.9)).9:Nat) by lia];exact q
inductive Vr (K:e7)(C:fe)(vs:List V)(H:Hp)(Q:VK)(E:XK):Prop|mk(a:fe)(l:Za5)(b:Bool)(_:vs=[.ref a,.int (b.toNat:Nat)])(_:A0 K C H a l)(_:Q (.int ((occ b l l.9).9:Nat)) H)
theorem Zz (l:Za5):(nV (Ix l)).9=Ck l.9+1:=by
 unfold nV Ix;rw[fb,fb,fv]
theorem pF (l:Za5):min (256*Ck l.9) l.9=l.9:=by unfold Ck Bx;lia
variable (aP:T.ZM ac "ahead_of_block" 1 ["self","bit","block"] (N9 K ac))
include T ao aP in
theorem Qw (F:Fun K "many_like" "Counts.many_like" E5 f fd):Aq P w K mg base CX0 2 f fd ["self","bit"] (Vr K ac):=by
 exists F.ok Mx
 obtain⟨a,l,b,rfl,hC,q⟩:=h;obtain⟨dx,t,u,hx,ht,hu,hl⟩:=id hC;refine{_,(Ad (Am (Av aP hr.m (pv 0) (tpa (pv 1) (tpa (Ak B0 (Ao At (by rfl) T.c7 Cb (tpa (tfl (pv 0)) Aa)) Af) Aa))))),?_};apply{a,dx,_,rfl,hx,rfl,?_};apply{a,ac,dx,_,_,rfl,hx,ao.cl,ao.dq,rfl,?_};apply{u,_,rfl,.inr (SqT.of hu),?_};rw[Zz];apply{a,l,b,Ck l.9,?_,hC,fm _,?_}
 .rw[show(((Ck l.9+1:Nat):Int)-1)=((Ck l.9:Nat):Int) by lia]
  rfl
 .rw[pF]
  exact q
theorem A0.sameT {K:e7}{b:fe}{l:Za5}(s:Hx H H')(h:A0 K C H b l):A0 K C H' b l:=by
 obtain⟨dx,t,u,h1,h2,h3,h4⟩:=h;exact{dx,t,u,s.keep _ _ (by intro ps e;cases e) h1,s.tup h2,s.tup h3,h4}
theorem A0.sm {K:e7}{b:fe}{ts:List Tb}{l:Za5}(h:A0 K C H b l)(s:SmT ts H H'):A0 K C H' b l:=h.sameT s.sm
inductive L4 (K:e7)(C:fe)(ts:List Tb)(vs:List V)(H:Hp)(Q:VK)(E:XK):Prop|mk(a:fe)(l:Za5)(b:Bool)(n:Nat)(_:vs=[.ref a,.int (b.toNat:Nat),.int n])(_:A0 K C H a l)(_:n<(occ b l l.9).9)(_:Tbs ts H)(_:∀(k:Nat) (H':Hp),k<Ck l.9->(occ b l (256*k)).9<=n->SmT ts H H'->Q (.int k) H')
variable (hK:K.In base) (hB:base.BuiltinsAt mg Pt) (aX:T.ZC "first_that" 3 ["low","high","holds"] (Tz P w K mg base 2))
include T ao aP hK hB aX in
theorem Qr {f c:fe}(F:Tf K "block_with" "Counts.block_with" Bn f fd c Pt)(hts:({Pt,F8,"Counts.block_with.<locals>.<lambda>"}:Tb)∈ts):Aq P w K mg base CX0 4 f fd ["self","bit","nth"] (L4 K ac ts):=by
 refine F.ok Lq (λvs H Q E h=>?_) (λA outer s H vs Q E hr h=>?_)
 .obtain⟨a,l,b,n,rfl,_⟩:=h
  rfl
 .obtain⟨a,l,b,n,rfl,hC,hn,hT,q⟩:=h
  obtain⟨dx,t,u,hx,ht,hu,hl⟩:=id hC;have hpos:0<Ck l.9:=by
   have:0<l.9:=by
    rcases qg l.9 with z|z
    .rw[z] at hn
     exact absurd hn (xc _)
    .exact z
   unfold Ck Bx;lia
  refine{_,(Ad (Am (Aaa (qual:="Counts.block_with.<locals>.<lambda>") (k:=1) aX hr.m Af (Ak B0 (Ao At (by rfl) T.c7 Cb (tpa (tfl (pv 0)) Aa)) Af) (F.code hK) hB rfl (by kernel_rfl) Jq (λ_ _ _ _ _ _ _ hr=>(tpc Ga (Av aP hr.m (pv 3) (tpa (pv 1) (tpa (Ak Bd (pv 0) Af) Aa))) (pv 2)))))),?_};apply{a,ac,dx,_,_,rfl,hx,ao.cl,ao.dq,rfl,?_};apply{u,_,rfl,.inr (SqT.of hu),?_};rw[Zz];k_is;have hk:=hT.1 _ hts;refine{0,((Ck l.9-1:Nat):Int),λi=>decide (n<(occ b l (min (256*(i.toNat+1)) l.9)).9),rfl,?_,(),hk,λi H3 hi1 hi2 s3=>?_,λm H' hm1 hm2 hm3 hm4 s' t'=>?_}
  .rw[show(((Ck l.9+1:Nat):Int)-2)=((Ck l.9-1:Nat):Int) by lia]
  .obtain⟨pt,hpt⟩:=Tb.tbl hk
   have kp:∀{b:fe} {u:HO},(∀ps,u≠.tbl ps)->H b=en u->H3 b=en u:=λ{b u} nt e=>s3 b u (λz=>by rw[z,hpt] at e;cases e;exact nt pt rfl) e;have hx3:=kp (by intro ps e;cases e) hx;have hC3:A0 K ac H3 a l:={dx,t,u,hx3,kp (by intro ps e;cases e) ht,kp (by intro ps e;cases e) hu,hl};apply{a,dx,_,rfl,hx3,rfl,?_};k_is;obtain⟨k,rfl⟩:=lz hi1;refine{a,l,b,k+1,rfl,hC3,(),?_};apply{?_,Ag.refl _};rw[gr];exact congrArg V.bl (decide_eq_decide.mpr ())
  .obtain⟨k,rfl⟩:=lz hm1
   have hk1:k<Ck l.9:=()
   have h256:256*k<=l.9:=by unfold Ck Bx at hk1;lia
   refine q k H' hk1 ?_ (Aa8 hT hts s' t');rcases qg k with rfl|hk0
   .exact ij _
   .have:=hm3 ()
    dsimp only at this;rw[show(((k:Int)-1).toNat+1)=k by lia,j9 h256] at this;have:=of_decide_eq_false this;lia
inductive R9 (K:e7)(C:fe)(vs:List V)(H:Hp)(Q:VK)(E:XK):Prop|mk(a:fe)(l:Za5)(b:Bool)(j k t:Nat)(_:vs=[.ref a,.int (b.toNat:Nat),.int j,.int k])(_:A0 K C H a l)(_:(occ b l (32*Bx l.9))[(occ b l (32*j)).9+k]?=en t)(_:∀H',Ag H H'->Q (.int t) H')
theorem Ov {b:Bool}{l:Za5}{W j k t:Nat}(h:(occ b l (32*W))[(occ b l (32*j)).9+k]?=en t):j<W:=by
 rcases DI j W with z|z
 .exact z
 .exfalso
  have h1:=(gg.mp h).1;have h2:=Af9 (b:=b) (l:=l) (show 32*W<=32*j by lia);lia
theorem oY {b:Bool}{l:Za5}{W j k t p:Nat}(h:(occ b l (32*W))[(occ b l (32*j)).9+k]?=en t)(hp:(M7 b l j)[k]?=en p):t=32*j+p:=by
 have hj:=Ov h;have hk:=(gg.mp hp).1;have hlen:(occ b l (32*(j+1))).9=(occ b l (32*j)).9+(M7 b l j).9:=by rw[Ui,fq,fb]
 rw[gS (show 32*(j+1)<=32*W by lia) (),Ui,ig (ml _ _),vw,fg,hp] at h;exact(fk h).symm
theorem oH {b:Bool}{l:Za5}{W j k t:Nat}(h:(occ b l (32*W))[(occ b l (32*j)).9+k]?=en t)(hp:(M7 b l j)[k]?=p9):(M7 b l j).9<=k/\(occ b l (32*W))[(occ b l (32*(j+1))).9+(k-(M7 b l j).9)]?=en t:=by
 have hk:=List.getElem?_eq_none_iff.mp hp;refine{hk,?_};rw[Ui,fq,fb,show(occ b l (32*j)).9+(M7 b l j).9+(k-(M7 b l j).9)=(occ b l (32*j)).9+k by lia];exact h
include T aM ao in
theorem Qt (F:Fun K "place_from" "Counts.place_from" Ej f fd)(bI:T.ZC "nth_one" 2 ["word","nth"] Ae7):Aq P w K mg base CX0 3 f fd ["self","bit","number","nth"] (R9 K ac):=by
 exists F.ok By
 obtain⟨a,l,b,j,k,t,rfl,⟨dx,tw,u,hx,ht,hu,hl⟩,hp,q⟩:=h;refine{_,(Ab (tst 4 By.nd (Ci (ttc C1 (pv 1) Af) Af (A7 rfl T.dJ))) (Ab (tst 5 By.nd (Aw bI hr.m (tpa (Ak qC (tix Bh (tfl (pv 0)) (pv 2)) (pv 4)) (tpa (pv 3) Aa)))) (Ab (Eu im (Nk (iD (pv 5))) (Ab (tau 3 By.nd (Aw aM hr.m (tpa (Ak qC (tix Bh (tfl (pv 0)) (pv 2)) (pv 4)) Aa)) yQ) (Ab (tau 2 By.nd Af N3) (Ad (tst 5 By.nd (Aw bI hr.m (tpa (Ak qC (tix Bh (tfl (pv 0)) (pv 2)) (pv 4)) (tpa (pv 3) Aa)))))))) (Ad (Am (Ak Bd (Ak D6 (pv 2) (A7 rfl T.da)) (pv 5))))))),?_}
 have hfl:∀{σ:St} {H1:Hp} {Q':VK},Q' (.int (Op b:Nat)) H1->(if decide (V.int (b.toNat:Nat)=V.int 1)=NG then tC (.int 0) σ H1 Q' else tC (.int 4294967295) σ H1 Q'):=λ{σ H1 Q'} h=>by
  cases b with
  |true=>exact Bq (λ_=>h) (λz=>absurd rfl z)
  |false=>exact Bq (λz=>absurd z (by decide)) (λ_=>h)
 have hj0:=Ov hp;apply hfl ?_;apply{a,ac,dx,_,_,rfl,hx,ao.cl,ao.df,rfl,?_};apply Cc (SqT.of ht) (On hj0) ?_;k_is;rw[Vb];refine{_,k,rfl,λH1 s1=>?_};rw[lH];apply Fp (λσ H'=>Ag H H'/\∃j k:Nat,σ=[en (.ref a),en (.int (b.toNat:Nat)),en (.int j),en (.int k),en (.int (Op b:Nat)),en (Ake ((M7 b l j)[k]?))]/\(occ b l (32*Bx l.9))[(occ b l (32*j)).9+k]?=en t) (λσ _=>match σ with | [_,_,en (.int j),_,_,_]=>Bx l.9-j.toNat|_=>0) ⟨s1,j,k,rfl,hp⟩ ?_;rintro μ σ H2 ⟨s2,j,k,rfl,hp⟩ XH;have hj:=Ov hp;have XH:Bx l.9-j=μ:=XH;k_is
 cases hw:(M7 b l j)[k]? with
 |some p=>
  have:=oY hp hw;subst this;refine Bq (λz=>absurd z (by intro y;cases y)) (λ_=>?_);k_is;have:=q H2 s2;show rI0 _ _ (V.int ((p:Nat):Int)) H2 Q;refine Ae4 ?_;rw[show((j:Int)*32+((p:Nat):Int))=((32*j+p:Nat):Int) by lia];exact this
 |none=>
  obtain⟨hk,hp'⟩:=oH hp hw;refine Bq (λ_=>?_) (λz=>absurd rfl z);refine Kv ?_;apply{a,ac,dx,_,_,rfl,s2 _ _ hx,ao.cl,ao.df,rfl,?_};apply Cc (SqT.of (s2 _ _ ht)) (On hj) ?_;k_is;rw[Vb];refine{_,rfl,?_};rw[Adt];apply{a,ac,dx,_,_,rfl,s2 _ _ hx,ao.cl,ao.df,rfl,?_};k_is;rw[show((j:Int)+1)=((j+1:Nat):Int) by lia,show((k:Int)-((M7 b l j).9:Nat))=((k-(M7 b l j).9:Nat):Int) by lia];refine Cc (SqT.of (s2 _ _ ht)) (On (Ov hp')) ?_;k_is;rw[Vb];refine{_,k-(M7 b l j).9,rfl,λH3 s3=>?_};rw[lH];apply{{s2.trans s3,j+1,k-(M7 b l j).9,rfl,hp'},?_};show Bx l.9-(j+1)<μ;lia
inductive Z2 (K:e7)(C:fe)(ts:List Tb)(vs:List V)(H:Hp)(Q:VK)(E:XK):Prop|mk(a:fe)(l:Za5)(b:Bool)(n tt:Nat)(_:vs=[.ref a,.int (b.toNat:Nat),.int n])(_:A0 K C H a l)(_:Tbs ts H)(_:(occ b l l.9)[n]?=en tt)(_:∀H',SmT ts H H'->Q (.int tt) H')
include T aA ao aW aP in
theorem Wa (F:Fun K "place_of" "Counts.place_of" Fq f fd)(bV:T.ZM ac "many_like" 2 ["self","bit"] (Vr K ac))(bW:T.ZM ac "block_with" 4 ["self","bit","nth"] (L4 K ac ts))(bX:T.ZM ac "place_from" 3 ["self","bit","number","nth"] (R9 K ac)):Aq P w K mg base CX0 5 f fd ["self","bit","nth"] (Z2 K ac ts):=by
 exists F.ok Ig
 obtain⟨a,l,b,n,tt,rfl,hC,hT,htt,q1⟩:=h;obtain⟨dx,t,u,hx,ht,hu,hl⟩:=id hC;refine{_,(Ab (As (Aw aW hr.m (tpa (pv 1) Aa))) (Ab (As (Aw aA hr.m (tpa (pv 2) (tpa (Ak B0 (Av bV hr.m (pv 0) (tpa (pv 1) Aa)) Af) Aa)))) (Ab (tst 3 Ig.nd (Av bW hr.m (pv 0) (tpa (pv 1) (tpa (pv 2) Aa)))) (Ad (Am (Av bX hr.m (pv 0) (tpa (pv 1) (tpa (Ak D6 (pv 3) (A7 rfl T.dj)) (tpa (Ak B0 (pv 2) (Av aP hr.m (pv 0) (tpa (pv 1) (tpa (pv 3) Aa)))) Aa))))))))),?_}
 apply{b,rfl,?_};apply{a,dx,_,rfl,hx,rfl,?_};apply{a,l,b,rfl,hC,?_};k_is;have hn:=Bt htt;refine{n,_,rfl,(),(),?_};apply{a,dx,_,rfl,hx,rfl,?_};apply{a,l,b,n,rfl,hC,hn,hT,λkb H1 hkb hle s1=>?_};have h256:256*kb<=l.9:=by unfold Ck Bx at hkb;lia
 have hx1:=s1.k hx;have hC1:=hC.sm s1;apply{a,dx,_,rfl,hx1,rfl,?_};apply{a,dx,_,rfl,hx1,rfl,?_};apply{a,l,b,kb,rfl,hC1,(),?_};rw[j9 h256];apply{a,l,b,8*kb,n-(occ b l (256*kb)).9,tt,?_,hC1,?_,λH' s'=>?_}
 .rw[show((kb:Int)*8)=((8*kb:Nat):Int) by lia,show((n:Int)-((occ b l (256*kb)).9:Nat))=((n-(occ b l (256*kb)).9:Nat):Int) by lia]
  rfl
 .rw[show 32*(8*kb)=256*kb by lia,show(occ b l (256*kb)).9+(n-(occ b l (256*kb)).9)=n by lia,gS (kG l.9) hn]
  exact htt
 .k_is
  exact q1 H' (s1.then s')
theorem Ds.kp {K:e7}{b:fe}{l:Za5}(h:Ds K C H b l)(k:Kp H H'):Ds K C H' b l:=by
 obtain⟨dx,t,h1,h2,h3⟩:=h;exact{dx,t,k.k h1,k.k h2,h3}
theorem A0.kp {K:e7}{b:fe}{l:Za5}(h:A0 K C H b l)(k:Kp H H'):A0 K C H' b l:=by
 obtain⟨dx,t,u,h1,h2,h3,h4⟩:=h;exact{dx,t,u,k.k h1,k.k h2,k.k h3,h4}
def ahS (es:Za6)(i:Nat):V:=if i=0 then .non else .str (es.getD (i-1) {#[]})
abbrev sV (es:Za6):List V:=es.map V.str
theorem qA {l:Za6}{i:Nat}{x:V}(h:(sV l)[i]?=en x):∃n,l[i]?=en n/\x=.str n:=by
 unfold sV at h;rw[fg] at h
 cases e:l[i]? with
 |none=>rw[e] at h;cases h
 |some n=>rw[e] at h;exact{n,rfl,(fk h).symm}
theorem Dm (l:Za6):(sV l).9=l.9:=fb ..
theorem nG (l:Za5):(l.map λb=>[b]).flatten=l:=by
 induction l with
 |nil=>rfl
 |cons b r ih=>rw[jh,jx,ih];rfl
inductive Um (K:e7)(CC:fe)(vs:List V)(H:Hp)(Q:VK)(E:XK):Prop|mk(l:fe)(es:Za6)(_:vs=[.ref l])(_:H l=en (.lst (sV es)))(_:es.9<=4000)(_:∀c H',Ag H H'->H c=p9->A0 K CC H' c (bgN es)->Q (.ref c) H')
variable (aY:Mkr P w K mg base "Counts" ac 3 ["self","bits"] (O1 K ad ac)) (aZ:Mkr P w K mg base "Bits" ad 3 ["self","text"] (Uj K ad))
include T aY aZ in
theorem iH (F:Fun K "begins_of" "begins_of" Iv f fd):Aq P w K mg base CX0 5 f fd ["things"] (Um K ac):=by
 exists F.ok Oo
 obtain⟨l,es,rfl,hl,hn,q⟩:=h;refine{_,(Ab (Rk (i:=1) rfl U3 Oo.nd rfl rfl (fS rfl T.dU (tpa (Ak Jg (Ay (tpa C9 Aa)) (pv 0)) (tpa (pv 0) Aa))) (λ_ _ _ _=>Cf) (λ_ _ _ _=>(Ci (ttc Na (pv 1) (pv 0)) A5 A5))) (Ad (Am (Xc aY hr.m (tpa (Xc aZ hr.m (tpa (Cj lg oj oi Oh A5 (tpa (pv 1) Aa)) Aa)) Aa))))),?_}
 apply{few (by simp),λp hp=>?_};obtain⟨u1,hp1⟩:=Ar (o:=.lst [V.non]) hp;have hl1:=u1 _ _ hl;generalize upd H p _=H1 at *;apply{p,l,_,_,rfl,rfl,hp1,hl1,gy (Ai (by rw[Dm,ii];lia)),λp2 hp2=>?_};obtain⟨u2,hp3⟩:=Ar (o:=.lst ([V.non]++sV es)) hp2;have hl2:=u2 _ _ hl1;have s2:=u1.trans u2;generalize upd H1 p2 _=H2 at *;apply{p2,l,rfl,{_,SqL.of hp3},{_,SqL.of hl2},?_};refine Af4 (SqL.of hp3) (SqL.of hl2) (λi=>((bgN es).take i).map λb:Bool=>V.str (Ax [b])) rfl (λi hi=>?_) (λi x y H3 R A hx hy s3 _ hA=>?_) (λD H3 hD3 s3 h3=>?_)
 .rw[fb,gq]
  rw[Dm] at hi;exact Ai (iy (GY _ _) ())
 .obtain⟨n,hn2,rfl⟩:=qA hy
  have hi:=Bt hn2;obtain rfl:x=ahS es i:=by
   cases i with
   |zero=>exact(fk hx).symm
   |succ j=>
    have hx:(sV es)[j]?=en x:=hx;obtain⟨m,hm,rfl⟩:=qA hx;unfold ahS l8;rw[if_neg (),show j+1-1=j by lia,hm];rfl
  have hsc:Aa6 (V.str n) (ahS es i)=NG:=by
   unfold ahS;split<;>rfl
  have hb:(bgN es)[i]?=en (!decide (V.str n=ahS es i)):=by
   unfold bgN;rw[fg,gn hi];show en (decide (i=0\/es[i]?≠es[i-1]?))=en _;congr 1;unfold ahS
   by_cases h0:i=0
   .rw[if_pos h0,decide_eq_true (y9 h0:i=0\/es[i]?≠es[i-1]?),decide_eq_false (show ¬ V.str n=V.non by intro z;cases z)]
    rfl
   .rw[if_neg h0,iq,hn2]
    obtain⟨y,hy2⟩:∃y,es[i-1]?=en y:={_,fc ()};rw[hy2];show _=!decide (V.str n=V.str y)
    by_cases e:n=y
    .rw[decide_eq_false (by rintro(z|z);exact h0 z;exact z (by rw[e])),decide_eq_true (by rw[e])]
     rfl
    .rw[decide_eq_true (.inr λz=>e (fk z)),decide_eq_false λz=>e (V.str.inj z)]
     rfl
  apply{hsc,?_}
  cases hb2:(!decide (V.str n=ahS es i)) with
  |true=>
   apply hA _ _ ?_ (Ag.refl _);rw[i6,hb,hb2,ge];rfl
  |false=>
   apply hA _ _ ?_ (Ag.refl _);rw[i6,hb,hb2,ge];rfl
 have hbl:(bgN es).9=es.9:=by unfold bgN;rw[fb,fv]
 apply{rfl,?_};apply nH (ls:=(bgN es).map λb=>[b]) ?_ ?_ ?_
 .rw[h3,gp (by rw[hbl,Dm,fq,Dm,ii];lia),jk]
  rfl
 .rw[nG,hbl]
  lia
 rw[nG];k_is;intro b db hb hdb hbd;refine{b,db,bgN es,rfl,Ae,(),λH5 s5 hB=>{rfl,?_}};have s5:=Hk hb hdb s5;k_is;intro c dc hc hdc hcd;refine{c,dc,b,_,rfl,Ae,(hB.kp λc u _ e=>Hs hc hdc _ _ e),λH6 s6 hC=>{rfl,?_}};have s6:=Hk hc hdc s6;have s25:=(s2.trans s3).trans s5;exact q c H6 (s25.trans s6) (s25.free hc) hC
inductive mP(vs:List V)(H:Hp)(Q:VK)(E:XK):Prop|mk(a:fe)(xs:List V)(_:vs=[.ref a])(_:H a=en (.lst xs))(_:Afs xs)(_:xs.9<=5000)(_:∀H',Ag H H'->Q .non H')
include T aH in
theorem Vu (F:Fun K "check_order" "check_order" Jf f fd):Aq P w K mg base CX0 3 f fd ["order"] mP:=by
 exists F.ok F4
 obtain⟨a,xs,rfl,ha,hG,hn,q⟩:=h;refine⟨_,(Ab (tst 1 F4.nd (Ak qX (Ay (tpa Hu Aa)) (Ao At (by rfl) T.c7 Cb (tpa (pv 0) Aa)))) (Ad (Cq im rfl (Mo rfl T.dB (tpa (pv 0) Aa)) (Kt rfl (B6 (tgn 2 F4.nd) (B6 (tgn 3 F4.nd) Hd))) (Ab (Bl (PW.pt (Ie (Cw (B4 (Aw aH hr.m (tpa (pv 3) (tpa Af (tpa (Ak B0 (Ao At (by rfl) T.c7 Cb (tpa (pv 0) Aa)) Af) Aa)))))) (Ij (B4 (tix Bp (pv 1) (pv 3)))))) (Ad C7)
  Au) (Ad (rB Hu (qL (pv 1) (pv 3) T7))))))),?_⟩
 apply{few (by simp),λp hp=>?_};have t0:=Al (o:=.lst [V.bl NH]) hp;apply{a,_,rfl,.inl (SqL.of (t0 _ _ ha)),?_};apply{p,xs.9,_,rfl,rfl,Ae,(),(),gy (Ai (by simp;lia)),λm hm=>?_};have hm0:=t0.free hm;have t1:=t0.trans (Al (o:=.lst (gd ((xs.9:Nat):Int).toNat [V.bl NH]).flatten) hm);have hM:(upd (upd H p (.lst [V.bl NH])) m (.lst (gd ((xs.9:Nat):Int).toNat [V.bl NH]).flatten)) m=en (.lst ((gd xs.9 NH).map V.bl)):=by
  rw[Ae,gr,xX]
 generalize (upd (upd H p (.lst [V.bl NH])) m (.lst (gd ((xs.9:Nat):Int).toNat [V.bl NH]).flatten))=H0 at *;apply{a,rfl,{_,SqL.of (t1 _ _ ha)},?_};refine Lx (xs:=xs) (λk σ H1=>(∃(ms:Za5) (v2 v3:Option V),σ=[en (.ref a),en (.ref m),v2,v3]/\Met xs k ms/\H1 m=en (.lst (ms.map V.bl)))/\Ag H H1) ?_ (λk σ H1 _ h=>SqL.of (h.2 _ _ ha)) ?_ ?_
 .exact{{_,_,_,rfl,Aba xs,hM},t1}
 .rintro k x σ H1 t hx ⟨⟨ms,v2,v3,rfl,hms,hm1⟩,s1⟩ ht
  have hk:=Bt hx;have st:=Al (o:=.tup [.int k,x]) ht;have hm2:=st _ _ hm1;have s2:=s1.trans st;generalize upd H1 t _=H2 at *;obtain⟨n,hxn,hnl,hno⟩:=hG k hk;rw[hx] at hxn;obtain rfl:=fk hxn;obtain⟨b,hb⟩:∃b,ms[n]?=en b:={_,fc (by rw[hms.1];exact hnl)};obtain rfl:b=NH:=by
   cases b with
   |false=>rfl
   |true=>
    obtain⟨j,hj,hxj⟩:=(hms.2 n NG hb).mp rfl;exact absurd hxj (hno j hj)
  apply{a,_,rfl,.inl (SqL.of (s2 _ _ ha)),?_};apply{.int n,0,_,rfl,Je _,?_};rw[Tj hnl];apply Cm (SqL.of hm2) (Bi (Ae8 hb)) ?_;apply pU hm2 rfl (by rw[fb,hms.1];exact hnl) ?_;rw[Aar];k_is;exact{{_,_,_,rfl,xM hms hx,Ae},A6 s2 hm0}
 .rintro σ H1 ⟨⟨ms,v2,v3,rfl,hms,hm1⟩,s1⟩
  exact q H1 s1
def isF:V->Bool
 |.bl NH=>NG
 |_=>NH
def fAt (H:Hp)(m:fe):Nat:=match H m with|some (.lst xs)=>xs.countP isF|_=>0
theorem Ahy (ms:Za5):(ms.map V.bl).countP isF=ms.count NH:=by
 induction ms with
 |nil=>rfl
 |cons b r ih=>cases b<;>simp[isF,zq,qb,ih]
theorem xH {m:fe}{ms:Za5}(h:H m=en (.lst (ms.map V.bl))):fAt H m=ms.count NH:=by
 unfold fAt;rw[h];exact Ahy ms
theorem uQ:∀{ms:Za5} {y:Nat},ms[y]?=en NH->(ms.set y NG).count NH+1=ms.count NH
 |[],_,h=>by cases h
 |b::r,0,h=>by
  cases h;simp
 |b::r,y+1,h=>by
  have ih:=uQ (ms:=r) (y:=y) h;rw[List.set_cons_succ,qb,qb];lia
inductive fA(vs:List V)(H:Hp)(Q:VK)(E:XK):Prop|mk(t:fe)(ns:Za4)(_:vs=[.ref t])(_:H t=en (.tup (nV ns)))(_:Ord ns)(_:ns.9<64)(_:∀p (rs:List fe) H',Ag H H'->H' p=en (.lst (rs.map V.ref))->RsW ns H' rs->rs.9<=64->Q (.ref p) H')
include T in
theorem jB (F:Fun K "rounds_of" "rounds_of" Lg f fd):Aq P w K mg base CX0 1 f fd ["order"] fA:=by
 exists F.ok De
 obtain⟨t,ns,rfl,ht,ho,hn,q⟩:=h;have hlV:(nV ns).9=ns.9:=by rw[fb]
 refine⟨_,(Ab (tst 1 De.nd (Ay Aa)) (Ab (tst 2 De.nd (Ak qX (Ay (tpa Hu Aa)) (Ao At (by rfl) T.c7 Cb (tpa (pv 0) Aa)))) (Ab (Cq im rfl (Db rfl T.c8 (tpa (Ao At (by rfl) T.c7 Cb (tpa (pv 0) Aa)) Aa)) (tgn 3 De.nd) (Ab (tst 4 De.nd (Ay Aa)) (Ab (tst 5 De.nd (pv 3)) (Ab (Eu im (Cw (B4 (tix Bp (pv 2) (pv 5)))) (Ab (rB Hu (qL (pv 2) (pv 5) T7)) (Ab (As (Cj gl ic gz Bf (pv 4) (tpa (pv 5) Aa))) (Ad (tst 5 De.nd (tix Bh (pv 0) (pv 5))))))) (Ad (Bl (ttc Ga (Ao At (by rfl) T.c7 Cb (tpa (pv 4) Aa)) Af) (Ad (As (Cj gl ic gz Bf (pv 1) (tpa (pv 4) Aa))))
  Au)))))) (Ad (Am (pv 1)))))),?_⟩
 apply{ij _,λp hp=>?_};obtain⟨t0,e0⟩:=Ar (o:=.lst []) hp;generalize upd H p _=H0 at *;apply{few (by simp),λp1 hp1=>?_};have t1:=Al (o:=.lst [V.bl NH]) hp1;have s1:=t0.trans t1;have e1:=t1 _ _ e0;have f1:=@Ae H0 p1 (.lst [V.bl NH]);generalize upd H0 p1 _=H1 at *;apply{t,_,rfl,.inr (SqT.of (s1 _ _ ht)),?_};apply{p1,_,_,rfl,rfl,f1,(),by rw[hlV];lia,gy (Ai (by simp;lia)),λm hm=>?_};have t2:=Al (o:=.lst (gd (((nV ns).9:Nat):Int).toNat [V.bl NH]).flatten) hm;have s2:=s1.trans t2;have hm0:=s1.free hm;have e2:=t2 _ _ e1;have hpm:p≠m:=An e1 hm;have hM:(upd H1 m (.lst (gd (((nV ns).9:Nat):Int).toNat [V.bl NH]).flatten)) m=en (.lst ((gd ns.9 NH).map V.bl)):=by
  rw[Ae,gr,hlV,xX]
 generalize (upd H1 m (.lst (gd (((nV ns).9:Nat):Int).toNat [V.bl NH]).flatten))=H2 at *;apply{t,_,rfl,.inr (SqT.of (s2 _ _ ht)),?_};apply{_,rfl,(),by rw[hlV];lia,?_};rw[hlV,gr];refine Gh (λi σ H3=>∃(rs:List fe) (ms:Za5) (v3 v4 v5:Option V),σ=[en (.ref t),en (.ref p),en (.ref m),v3,v4,v5]/\H3 p=en (.lst (rs.map V.ref))/\rs.9<=i/\RsW ns H3 rs/\(∀r∈rs,r≠p/\r≠m)/\H3 m=en (.lst (ms.map V.bl))/\ms.9=ns.9/\Ag H H3) ?_ ?_ ?_
 .exact{[],_,_,_,_,rfl,e2,fm _,(λr hr=>by cases hr),(λr hr=>by cases hr),hM,jl,s2}
 .rintro i σ H3 hi ⟨rs,ms,v3,v4,v5,rfl,hp3,hrl,hrs,hne,hm3,hml,s3⟩
  apply{ij _,λa ha=>?_};have ta:=Al (o:=.lst []) ha;have ha0:=s3.free ha;have hap:a≠p:=(An hp3 ha).symm;have ham:a≠m:=(An hm3 ha).symm;have har:∀r∈rs,r≠a:=λr hr=>by obtain⟨_,e,_⟩:=hrs r hr;exact An e ha
  have s4:=s3.trans ta;have hp4:=ta _ _ hp3;have hm4:=ta _ _ hm3;have hrs4:=hrs.same ta;have ha4:=@Ae H3 a (.lst []);generalize upd H3 a _=H4 at *;apply Fp (λσ H5=>∃(ms:Za5) (j:Nat),σ=[en (.ref t),en (.ref p),en (.ref m),en (.int (0+(i:Int))),en (.ref a),en (.int (itr ns j i))]/\H5 p=en (.lst (rs.map V.ref))/\RsW ns H5 rs/\H5 m=en (.lst (ms.map V.bl))/\ms.9=ns.9/\j+ms.count NH<=ns.9/\H5 a=en (.lst (nV (seg ns j i)))/\Ag H H5) (λ_ H5=>fAt H5 m)
   {ms,0,by simp[itr],hp4,hrs4,hm4,hml,by have:=List.count_le_length (a:=NH) (l:=ms);lia,ha4,s4} ?_
  rintro z σ H5 ⟨ms,j,rfl,hp5,hrs5,hm5,hml5,hj,ha5,s5⟩ hz;rw[xH hm5] at hz;have hy:=Hn ho hi j;have hsl:=tH ns j i;obtain⟨b,hb5⟩:∃b,ms[itr ns j i]?=en b:={_,fc (by rw[hml5];exact hy)};apply Cm (SqL.of hm5) (Bi (Ae8 hb5)) ?_
  cases b with
  |false=>
   apply Kv ?_;apply pU hm5 rfl (by rw[fb,hml5];exact hy) ?_;rw[Aar];have hct:=uQ hb5;have hm6:=@Ae H5 m (.lst ((ms.set (itr ns j i) NG).map V.bl));have s6:=A6 (o:=.lst ((ms.set (itr ns j i) NG).map V.bl)) s5 hm0;have ha6:upd H5 m (.lst ((ms.set (itr ns j i) NG).map V.bl)) a=en (.lst (nV (seg ns j i))):=by rw[Aj ham];exact ha5
   have hp6:upd H5 m (.lst ((ms.set (itr ns j i) NG).map V.bl)) p=en (.lst (rs.map V.ref)):=by rw[Aj hpm];exact hp5
   have hrs6:RsW ns (upd H5 m (.lst ((ms.set (itr ns j i) NG).map V.bl))) rs:=hrs5.upd λr hr=>(hne r hr).2;generalize upd H5 m _=H6 at *;apply{.inl {rfl,_,SqL.of ha6},?_};apply Bm ha6 (by rw[fb];exact Ai ()) ?_;apply Cc (SqT.of ((A6 s6 ha0) _ _ ht)) (Bi (Ae1 hy)) ?_;apply{{ms.set (itr ns j i) NG,j+1,rfl,by rw[Aj hap.symm];exact hp6,hrs6.upd har,by rw[Aj ham.symm];exact hm6,by rw[wu];exact hml5,(),by rw[Ae,Ku,yK],A6 s6 ha0},?_};rw[xH (ms:=ms.set (itr ns j i) NG) (by rw[Aj ham.symm];exact hm6)];lia
  |true=>
   apply{a,_,rfl,.inl (SqL.of ha5),?_};apply Bq (λhl=>?_) (λhl=>?_)
   .apply{.inl {rfl,_,SqL.of hp5},?_};apply Bm hp5 (by rw[fb];exact Ai ()) ?_;apply{rs++[a],ms,_,_,_,rfl,by rw[Ae,ge];rfl,by rw[fq];exact z7 hrl,λr hr=>?_,λr hr=>?_,by rw[Aj hpm.symm];exact hm5,hml5,A6 s5 hp}
    .rcases kj.mp hr with hr|hr
     .exact(hrs5.upd λr hr=>(hne r hr).1) r hr
     .rw[j0.mp hr]
      exact{_,by rw[Aj hap];exact ha5,Ac2 ho hi ()}
    .rcases kj.mp hr with hr|hr
     .exact hne r hr
     .rw[j0.mp hr]
      exact⟨hap,ham⟩
   .k_is
    exact{rs,ms,_,_,_,rfl,hp5,zl hrl,hrs5,hne,hm5,hml5,s5}
 .rintro σ H3 ⟨rs,ms,v3,v4,v5,rfl,hp3,hrl,hrs,hne,hm3,hml,s3⟩
  k_is;exact q p rs H3 s3 hp3 hrs ()
theorem Ahw {n:Nat}(h:n<=10000000):n<=sizeLine:=iy h (by decide)
theorem tZ {R:Za4}:∀{l:List V},(∀v∈l,v∈nV R)->∃ks:Za4,l=nV ks/\∀a∈ks,a∈R
 |[],_=>{[],rfl,λ_ h=>by cases h}
 |v::l,h=>by
  obtain⟨ks,rfl,hk⟩:=tZ λv hv=>h v (gw _ hv);obtain⟨a,ha,rfl⟩:=je.mp (h v gt);exact⟨a::ks,rfl,λb hb=>(i5.mp hb).elim (λe=>e▸ha) (hk b)⟩
inductive lZ(vs:List V)(H:Hp)(Q:VK)(E:XK):Prop|mk(t:fe)(ns:Za4)(st:Nat)(_:vs=[.ref t,.int st])(_:H t=en (.tup (nV ns)))(_:Ord ns)(_:ns.9<64)(_:0<st)(_:∀d kvs H',Ag H H'->H d=p9->H' d=en (.dK kvs)->Lps ns kvs->Q (.ref d) H')
include T in
theorem Ta (F:Fun K "shortcuts_of" "shortcuts_of" Ho f fd)(bY:T.ZC "rounds_of" 1 ["order"] fA):Aq P w K mg base CX0 2 f fd ["order","step"] lZ:=by
 exists F.ok Ez
 obtain⟨t,ns,st,rfl,ht,ho,hn,hst,q⟩:=h;refine⟨_,(Ab (tst 2 Ez.nd fJ) (Ab (Cq im rfl (Ey (Aw bY hr.m (tpa (pv 0) Aa))) (tgn 3 Ez.nd) (Ad (Bl (ttc Ga (Ao At (by rfl) T.c7 Cb (tpa (pv 3) Aa)) (pv 1)) (Ab (tst 4 Ez.nd (yZ (pv 3) (pv 1))) (Ad (As (Cj uz AI PySem.F.type_dict_update oF (pv 2) (tpa (zY rfl rfl T.ej rfl T.dU (tpa (pv 4) (tpa (Ak Jg (Co Ms (pv 4) (B5 (Fl Dc Af)) Ir) (Co Ms (pv 4) Ir (B5 (Fl Dc Af)))) Aa))) Aa)))))
  Au))) (Ad (Am (pv 2))))),?_⟩
 k_is;intro d hd;obtain⟨t0,e0⟩:=Ar (o:=.dK []) hd;generalize upd H d _=H0 at *;apply{t,ns,rfl,t0 _ _ ht,ho,(),λp rs H1 s1 e1 hrs hrl=>?_};have s01:=t0.trans s1;refine{p,rfl,{_,SqL.of e1},?_};refine Om (xs:=rs.map V.ref) (λi σ H2=>∃(v3 v4:Option V) (kvs:List (Key×V)),σ=[en (.ref t),en (.int st),en (.ref d),v3,v4]/\H2 d=en (.dK kvs)/\kvs.9<=64*i/\Lps ns kvs/\(∀b u,b≠d->H1 b=en u->H2 b=en u)) {_,_,_,rfl,s1 _ _ e0,fm _,(λp hp=>by cases hp),λb u _ e=>e} (λk σ H2 _ h=>?_) ?_ ?_
 .obtain⟨_,_,_,_,_,_,_,h⟩:=h
  exact SqL.of (h _ _ (λe=>by rw[e,s1 _ _ e0] at e1;cases e1) e1)
 .rintro i x σ H2 hx ⟨v3,v4,kvs,rfl,hd2,hkl,hL,s2⟩
  have hi:=Bt hx;rw[fb] at hi;obtain⟨r,hr,rfl⟩:=je.mp (ip hx);obtain⟨R,hR,hRn⟩:=hrs r hr;have hqr:=s2 _ _ (λe=>by rw[e,s1 _ _ e0] at hR;cases hR) hR;apply{r,_,rfl,.inl (SqL.of hqr),?_};apply Bq (λhlg=>?_) (λhlg=>?_)
  .apply{r,_,st,rfl,rfl,hst,SqL.of hqr,λa ha=>?_};have hpl:(oJ st (nV R)).9<=64:=by
    unfold oJ;refine iy (List.length_filterMap_le _ _) ?_;rw[fb,fv,fb];have h1:=hRn.len;have h2:R.9+st-1<=st*64:=by
     have:st*R.9<=st*63:=ER _ ();have:1*R.9<=st*R.9:=Nat.mul_le_mul_right _ hst;lia
    exact Nat.div_le_of_le_mul h2
   obtain⟨mk,hmk,hm⟩:=tZ (R:=R) (l:=oJ st (nV R)) λv hv=>by
    unfold oJ at hv;obtain⟨j,_,e⟩:=qc.mp hv;exact ip e
   rw[hmk] at hpl;rw[fb] at hpl;rw[hmk];obtain⟨t3,ha3⟩:=Ar (o:=.lst (nV mk)) ha;have hd3:=t3 _ _ hd2;generalize upd H2 a _=H3 at *;apply{.inr (.inr (.inl {rfl,.inl {_,hd3}})),?_};apply{a,_,rfl,SqL.of ha3,λb1 hb1=>?_};obtain⟨t4,hb4⟩:=Ar (o:=.lst (Fc (nV mk) (en (-1)) p9)) hb1;have ha4:=t4 _ _ ha3;generalize upd H3 b1 _=H4 at *;apply{a,_,rfl,SqL.of ha4,λb2 hb2=>?_};obtain⟨t5,hb5⟩:=Ar (o:=.lst (Fc (nV mk) p9 (en (-1)))) hb2;have ha5:=t5 _ _ ha4;have hc5:=t5 _ _ hb4;generalize upd H4 b2 _=H5 at *;k_is;have hcl:(Fc (nV mk) (en (-1)) p9++Fc (nV mk) p9 (en (-1))).9=mk.9:=by
    rw[mM,mE,fq,jb,gq,fb];lia
   refine{b1,b2,_,_,rfl,rfl,hc5,hb5,few (by rw[<-fq,hcl];lia),λc hc=>?_};have hcm:∀v∈Fc (nV mk) (en (-1)) p9++Fc (nV mk) p9 (en (-1)),v∈nV mk:=λv hv=>by
    rw[mM,mE] at hv;exact(kj.mp hv).elim xn xm
   generalize Fc (nV mk) (en (-1)) p9++Fc (nV mk) p9 (en (-1))=ys at *;obtain⟨t6,hc6⟩:=Ar (o:=.lst ys) hc;have ha6:=t6 _ _ ha5;generalize upd H5 c _=H6 at *;have hgl:=mZ (mk.map λn:Nat=>(n:Int)) ys [];rw[fb,kl,mz] at hgl;have hgL:Lps ns (Pn [] (mk.map λn:Nat=>(n:Int)) ys):=λp hp=>by
    rcases kM _ _ _ hp with h|⟨hv,i,hi,e⟩
    .cases h
    .obtain⟨k,hk,rfl⟩:=je.mp hi
     obtain⟨b,hb,e2⟩:=je.mp (hcm _ hv);exact{k,b,e,e2.symm,hRn.lt b (hm b hb),hRn.rc k (hm k hk) b (hm b hb)}
   refine{a,c,mk.map (λn:Nat=>(n:Int)),ys,rfl,by rw[jk];exact SqL.of ha6,SqL.of hc6,by rw[fb,hcl],by rw[fb];exact hgl,λg hg=>?_};generalize Pn [] (mk.map λn:Nat=>(n:Int)) ys=gs at *;obtain⟨t7,hg7⟩:=Ar (o:=.dK gs) hg;have s7:=((t3.trans t4).trans (t5.trans t6)).trans t7;have hd6:=(t4.trans (t5.trans t6)) _ _ hd3;have hdg:d≠g:=An hd6 hg;have hd7:=t7 _ _ hd6;generalize upd H6 g _=H7 at *;k_is;have hml:=Jn gs kvs;refine vM hdg hd7 hg7 (Ahw ()) ?_;k_is;exact{_,_,_,rfl,Ae,(),λp hp=>(U5 _ _ hp).elim (hL p) (hgL p),λb u nb e=>by rw[Aj nb];exact s7 _ _ (s2 b u nb e)}
  .k_is
   exact{_,_,kvs,rfl,hd2,(),hL,s2}
 .rintro σ H2 ⟨v3,v4,kvs,rfl,hd2,hkl,hL,s2⟩
  k_is;exact q d kvs H2 (λb u e=>s2 b u (An e hd) (s01 _ _ e)) hd hd2 hL
theorem wO (o:Ord ns):Afs (nV ns):=λj hj=>by
 rw[fb] at hj;refine{ns[j],Zs (fc hj),by rw[fb];exact o.lt _ (zo hj),λi hi e=>?_};rw[Zs (fc (show i<ns.9 by lia))] at e;have:=V.int.inj (fk e);exact(me.mp o.nd) i j () hj hi ()
def La (C:fe)(H:Hp)(x:fe)(ns:Za4)(st:Nat):Prop:=∃dx t d,H x=en (.ins C dx [("onward",.ref t),("leaps",.ref d)])/\H t=en (.tup (nV ns))/\∃kvs,H d=en (.dK kvs)/\Lps ns kvs
theorem La.kp {x:fe}{st:Nat}(h:La C H x ns st)(s:Kp H H'):La C H' x ns st:=by
 obtain⟨dx,t,d,h1,h2,kvs,h3,h4⟩:=h;exact{dx,t,d,s.k h1,s.k h2,kvs,s.k h3,h4}
inductive Mq (C:fe)(vs:List V)(H:Hp)(Q:VK)(E:XK):Prop|mk(x dx a:fe)(ns:Za4)(st:Nat)(_:vs=[.ref x,.ref a,.int st])(_:H x=en (.ins C dx []))(_:H a=en (.lst (nV ns)))(_:Ord ns)(_:ns.9<64)(_:0<st)(_:∀H',SameBut x H H'->La C H' x ns st->Q .non H')
variable (au:Qe K ag)
include T au in
theorem Qg (F:nZ K "__init__" "Shortcuts.__init__" Ca f fd)(bZ:T.ZC "check_order" 3 ["order"] mP)(ce:T.ZC "shortcuts_of" 2 ["order","step"] lZ):Aq P w K mg base (CXE P w) 4 f fd ["self","order","step"] (Mq ag):=by
 exists F.okE O0
 obtain⟨x,dx,a,ns,st,rfl,hx,ha,ho,hn,hst,q⟩:=h;refine{_,(Ab (As (Aw bZ hr.m (tpa (pv 1) Aa))) (Ab (tsf (pv 0) (Cn Eo (by rfl) T.dX Pd (tpa (pv 1) Aa))) (Ad (tsf (pv 0) (Aw ce hr.m (tpa (tfl (pv 0)) (tpa (pv 2) Aa))))))),?_}
 apply{a,nV ns,rfl,ha,wO ho,by rw[fb];lia,λH1 s1=>?_};have hx1:=s1 _ _ hx;have ha1:=s1 _ _ ha;apply{a,_,rfl,.inl {SqL.of ha1,λt ht=>?_}};have t2:=Al (o:=.tup (nV ns)) ht;have hx2:=t2 _ _ hx1;have ht2:=@Ae H1 t (.tup (nV ns));have s2:=s1.trans t2;generalize upd H1 t _=H2 at *;have htx:t≠x:=Iw ht2 hx2 (by intro z;cases z);apply Dx hx2 au.cl au.du (by decide) ?_;have hx3:upd H2 x (.ins ag dx (F5 "onward" (.ref t) [])) x=en (.ins ag dx [("onward",.ref t)]):=Ae;have ht3:upd H2 x (.ins ag dx (F5 "onward" (.ref t) [])) t=en (.tup (nV ns)):=by rw[Aj htx];exact ht2
 have s3:=s2.but.trans (Bc (H:=H2) (x:=x) (o:=.ins ag dx (F5 "onward" (.ref t) [])));generalize upd H2 x _=H3 at *;apply{x,ag,dx,_,.ref t,rfl,hx3,au.cl,au.du,rfl,?_};apply{t,ns,st,rfl,ht3,ho,hn,hst,λd kvs H4 s4 f4 e4 hL=>?_};have hdx:d≠x:=Iw e4 (s4 _ _ hx3) (by intro z;cases z);apply Dx (s4 _ _ hx3) au.cl au.d8 (show 1<1000 by decide) ?_;k_is;exact q _ ((s3.trans s4.but).trans Bc) {dx,t,d,Ae,by rw[Aj htx];exact s4 _ _ ht3,kvs,by rw[Aj hdx];exact e4,hL}
inductive tO (C:fe)(vs:List V)(H:Hp)(Q:VK)(E:XK):Prop|mk(x:fe)(ns:Za4)(st k v:Nat)(_:vs=[.ref x,.int k])(_:La C H x ns st)(_:ns[k]?=en v)(_:Q (.int v) H)
include T au in
theorem Wf (F:Fun K "there" "Shortcuts.there" Fz f fd):Aq P w K mg base CX0 1 f fd ["self","place"] (tO ag):=by
 exists F.ok Nz
 obtain⟨x,ns,st,k,v,rfl,⟨dx,t,d,hx,ht,hd⟩,hv,q⟩:=h;refine{_,(Ad (Am (tix Bh (tfl (pv 0)) (pv 1)))),?_};apply{x,ag,dx,_,.ref t,rfl,hx,au.cl,au.du,rfl,?_};k_is;exact Cc (SqT.of ht) (Bi (Zs hv)) q
inductive Abs (C:fe)(vs:List V)(H:Hp)(Q:VK)(E:XK):Prop|mk(x:fe)(ns:Za4)(st p:Nat)(_:vs=[.ref x,.int p])(_:La C H x ns st)(_:Ord ns)(_:p<ns.9)(_:ns.9<64)(_:∀a ws l H',Ag H H'->H' a=en (.lst (nV (ws++[l])))->ns[l]?=en p->Q (.ref a) H')
include T au in
theorem Qq (F:Fun K "way_back" "Shortcuts.way_back" D4 f fd):Aq P w K mg base CX0 1 f fd ["self","place"] (Abs ag):=by
 exists F.ok Br
 obtain⟨x,ns,st,p,rfl,⟨dx,t,d,hx,ht,kvs,hd,hL⟩,ho,hp,hn,q⟩:=h;obtain⟨t0,ht0,hT⟩:=pS ho hp;have hT:nx ns (itr ns t0 p)=p:=hT;refine⟨_,(Ab (tst 2 Br.nd (Ay (tpa (pv 1) Aa))) (Ab (tst 3 Br.nd (pv 1)) (Ab (Eu im (PW.pt (Rz (Iu wF (pv 3) (tfl (pv 0)) rfl) (Ma (ttc Na (tix Bh (tfl (pv 0)) (pv 3)) (pv 1))))) (Ab (tst 3 Br.nd (tix Bh (tfl (pv 0)) (pv 3))) (Ad (As (Cj gl ic gz Bf (pv 2) (tpa (pv 3) Aa)))))) (Ab (Rs (Iu Ahe (pv 3) (tfl (pv 0)) rfl) (Ab (tst 3 Br.nd (tix Aed (tfl (pv 0)) (pv 3))) (Ad (As (Cj gl ic gz Bf (pv 2) (tpa (pv 3) Aa)))))
  Au) (Ab (Eu im (ttc Na (tix Bh (tfl (pv 0)) (pv 3)) (pv 1)) (Ab (tst 3 Br.nd (tix Bh (tfl (pv 0)) (pv 3))) (Ad (As (Cj gl ic gz Bf (pv 2) (tpa (pv 3) Aa)))))) (Ad (Am (pv 2)))))))),?_⟩
 apply{few (by simp),λa ha=>?_};have s0:=Al (o:=.lst [V.int (p:Int)]) ha;have e0:upd H a (.lst [V.int (p:Int)]) a=en (.lst (nV ([]++[itr ns 0 p]))):=Ae;generalize upd H a _=H0 at *;apply Fp (λσ H1=>∃(i:Nat) (ws:Za4),σ=[en (.ref x),en (.int p),en (.ref a),en (.int (itr ns i p))]/\i<=t0/\ws.9=i/\H1 a=en (.lst (nV (ws++[itr ns i p])))/\Ag H H1) (λ_ H1=>t0+1-Z0 H1 a) {0,[],rfl,ij _,rfl,e0,s0} ?_;rintro z σ H1 ⟨i,ws,rfl,hi,hwl,ha1,s1⟩ hz;have hwl2:(ws++[itr ns i p]).9=i+1:=by rw[fq,hwl];rfl
 rw[Gz ha1,fb,hwl2] at hz;have hil:=Hn ho hp i;have onw:∀{G:Hp} {R:VK},Ag H G->∀y:Nat,y<ns.9->R (.int (nx ns y)) G->Aef K (.ref t) (.int y) G R:=λsg y hy r=>Cc (SqT.of (sg _ _ ht)) (Bi (Ae1 hy)) r;apply{x,ag,dx,_,.ref d,rfl,s1 _ _ hx,au.cl,au.d8,rfl,?_};refine Aaf (s1 _ _ hd) ?_
 by_cases hst:(Cd kvs (.inl ((itr ns i p:Nat):Int))).isSome=NG\/nx ns (itr ns i p)=p
 .refine' Pb (c:=(Cd kvs (.inl ((itr ns i p:Nat):Int))).isSome=NG) (S:=?S) ?a ?b ?r
  case a=>
   intro kp h;rw[h,Bool.not_true];k_is;exact kp.q
  case b=>
   intro kp h;rw[vb.mpr h,HB];apply{x,ag,dx,_,.ref t,rfl,s1 _ _ hx,au.cl,au.du,rfl,?_};apply onw s1 _ hil ?_;apply Oy (λz=>absurd (vN.mpr (hst.resolve_left h)) z) (λ_=>?_);exact kp.q
  apply Y9 (λσ H2=>∃(c:Nat) (vs:Za4),σ=[en (.ref x),en (.int p),en (.ref a),en (.int c)]/\vs.9<=64/\H2 a=en (.lst (nV (vs++[c])))/\c<ns.9/\Rc ns c p/\Ag H H2) ?_ ?_
  .apply{x,ag,dx,_,.ref d,rfl,s1 _ _ hx,au.cl,au.d8,rfl,?_};refine Akh (s1 _ _ hd) ?_
   cases hv:Cd kvs (.inl ((itr ns i p:Nat):Int)) with
   |none=>
    rw[hv] at hst;rw[Option.isSome_none];k_is;exact{_,ws,rfl,(),ha1,hil,{0,(),hst.resolve_left (by decide)},s1}
   |some y=>
    obtain⟨b,rfl,hb,hbr⟩:=hL.at' hv;rw[DU];apply{x,ag,dx,_,.ref d,rfl,s1 _ _ hx,au.cl,au.d8,rfl,?_};apply Ai9 (v:=.int b) (s1 _ _ hd) hv ?_;apply{.inl {rfl,_,SqL.of ha1},?_};apply Bm ha1 (by rw[fb,hwl2];exact Ai ()) ?_;k_is;exact{b,ws++[itr ns i p],rfl,(),by rw[Ae,Ku],hb,lJ ho hb hbr (uB ho hp i),A6 s1 ha}
  rintro σ H2 ⟨c,vs,rfl,hvl,ha2,hc,⟨u,hu,hF⟩,s2⟩;apply Fp (λσ H3=>∃(j:Nat) (ws:Za4),σ=[en (.ref x),en (.int p),en (.ref a),en (.int (itr ns j c))]/\j<=u/\ws.9=vs.9+j/\H3 a=en (.lst (nV (ws++[itr ns j c])))/\Ag H H3) (λ_ H3=>vs.9+u+1-Z0 H3 a) {0,vs,rfl,ij _,rfl,ha2,s2} ?_;rintro z σ H3 ⟨j,ws3,rfl,hj,hwl3,ha3,s3⟩ hz;have hwl4:(ws3++[itr ns j c]).9=vs.9+j+1:=by rw[fq,hwl3];rfl
  rw[Gz ha3,fb,hwl4] at hz;have hjl:=Hn ho hc j;apply{x,ag,dx,_,.ref t,rfl,s3 _ _ hx,au.cl,au.du,rfl,?_};apply onw s3 _ hjl ?_;apply Oy (λh=>?_) (λh=>?_)
  .have hju:j<u:=j5 hj λe=>h (vN.mpr (by rw[e];exact hF))
   apply Kv ?_;apply{x,ag,dx,_,.ref t,rfl,s3 _ _ hx,au.cl,au.du,rfl,?_};apply onw s3 _ hjl ?_;apply{.inl {rfl,_,SqL.of ha3},?_};apply Bm ha3 (by rw[fb,hwl4];exact Ai ()) ?_;apply{{j+1,_,rfl,hju,hwl4,by rw[Ae,Ku];rfl,A6 s3 ha},?_};rw[Gz Ae,fq,fb,hwl4,ii];lia
  .k_is
   exact q a ws3 _ H3 s3 ha3 (by rw[mS hjl,vN.mp h])
 .have hst1:(Cd kvs (.inl ((itr ns i p:Nat):Int))).isSome=NH:=vb.mpr λh=>hst (.inl h)
  have hlt:i<t0:=j5 hi λe=>hst (.inr (by rw[e];exact hT));rw[hst1,HB];apply{x,ag,dx,_,.ref t,rfl,s1 _ _ hx,au.cl,au.du,rfl,?_};apply onw s1 _ hil ?_;apply Oy (λ_=>?_) (λhc=>absurd (.inr (vN.mp hc)) hst);apply Kv ?_;apply{x,ag,dx,_,.ref t,rfl,s1 _ _ hx,au.cl,au.du,rfl,?_};apply onw s1 _ hil ?_;apply{.inl {rfl,_,SqL.of ha1},?_};apply Bm ha1 (by rw[fb,hwl2];exact Ai ()) ?_;apply{{i+1,_,rfl,hlt,hwl2,by rw[Ae,Ku];rfl,A6 s1 ha},?_};rw[Gz Ae,fq,fb,hwl2,ii];lia
inductive uF (C:fe)(vs:List V)(H:Hp)(Q:VK)(E:XK):Prop|mk(x:fe)(ns:Za4)(st p:Nat)(_:vs=[.ref x,.int p])(_:La C H x ns st)(_:Ord ns)(_:p<ns.9)(_:ns.9<64)(_:∀l H',Ag H H'->ns[l]?=en p->Q (.int (l:Nat)) H')
theorem Tm {v:V}(h:xs[xs.9-1]?=en v):atI xs (-1)=en v:=by
 have hl:=Bt h;unfold atI ixN;rw[if_neg (by decide),if_pos ()];show xs[((-1:Int)+(xs.9:Int)).toNat]?=_;rw[show((-1:Int)+(xs.9:Int)).toNat=xs.9-1 by lia];exact h
include T au in
theorem Wl (F:Fun K "back" "Shortcuts.back" Gj f fd)(cf:T.ZM ag "way_back" 1 ["self","place"] (Abs ag)):Aq P w K mg base CX0 2 f fd ["self","place"] (uF ag):=by
 exists F.ok Pe
 obtain⟨x,ns,st,p,rfl,hS,ho,hp,hn,q⟩:=h;obtain⟨dx,t,d,hx,_⟩:=id hS;refine{_,(Ad (Am (tix Bp (Av cf hr.m (pv 0) (tpa (pv 1) Aa)) (Fl Dc Af)))),?_};apply{x,dx,_,rfl,hx,rfl,?_};apply{x,ns,st,p,rfl,hS,ho,hp,hn,λa ws l H1 s1 e1 hl=>?_};apply Cm (SqL.of e1) (v:=.int (l:Nat)) (Tm (by rw[fb,fq,ii,qh];exact Zs ug)) ?_;k_is;exact q l H1 s1 hl
def hts (l:Za5)(i:Nat):List Int:=(ft i).map λj=>hgt l (j+1)
theorem Ab3 (l:Za5)(i:Nat):hts l (i+1)=hts l i++[hgt l (i+1)]:=by
 unfold hts;rw[jo,ge];rfl
def htB (l:Za5)(b:Int)(i:Nat):List Int:=(hts l i).map (b + ·)
inductive T6(vs:List V)(H:Hp)(Q:VK)(E:XK):Prop|mk(l:Za5)(bg:Int)(_:vs=[.str (Ax l),.int bg])(_:l.9<=1000)(_:∀p H',Ag H H'->H p=p9->H' p=en (.lst ((htB l bg l.9).map V.int))->Q (.ref p) H')
include T in
theorem Yj (F:Fun K "heights_of" "heights_of" Kb f fd):Aq P w K mg base CX0 1 f fd ["text","begin"] T6:=by
 exists F.ok Ep
 obtain⟨l,bg,rfl,hl,q⟩:=h;refine{_,(Ab (tst 2 Ep.nd (pv 1)) (Ab (tst 3 Ep.nd (Ay Aa)) (Ab (Cq im rfl (gG (pv 0)) (tgn 4 Ep.nd) (Ab (tau 2 Ep.nd (Ci (ttc C1 (pv 4) A5) Af (Fl Dc Af)) N3) (Ad (As (Cj gl ic gz Bf (pv 3) (tpa (pv 2) Aa)))))) (Ad (Am (pv 3)))))),?_}
 apply{ij _,λp hp=>?_};apply{_,rfl,?_};refine uD (λi σ H1=>∃v:Option V,σ=[en (.str (Ax l)),en (.int bg),en (.int (bg+hgt l i)),en (.ref p),v]/\H1 p=en (.lst ((htB l bg i).map V.int))/\Ag H H1) {_,by rw[show bg+hgt l 0=bg by unfold hgt;simp];rfl,Ae,Al hp} ?_ ?_
 .rintro i c σ H1 hc ⟨v,rfl,hp1,sm⟩
  obtain⟨b,hb,rfl⟩:=gU hc;have hi:=Bt hb;have hh:=K8 hb;have hz1:((htB l bg i).map V.int).9<sizeLine:=by
   rw[fb];unfold htB hts;rw[fb,fb,fv];exact Dr ()
  have fin:∀d:Int,hgt l (i+1)=hgt l i+d->∃v:Option V,[en (V.str (Ax l)),en (V.int bg),en (V.int (bg+hgt l i+d)),en (V.ref p),en (V.str (sgn (if b then 49 else 48)))]=[en (V.str (Ax l)),en (V.int bg),en (V.int (bg+hgt l (i+1))),en (V.ref p),v] /\
    (upd H1 p (.lst ((htB l bg i).map V.int++[V.int (bg+hgt l i+d)]))) p=en (.lst ((htB l bg (i+1)).map V.int))/\Ag H (upd H1 p (.lst ((htB l bg i).map V.int++[V.int (bg+hgt l i+d)]))):=λd hd=>by
   refine{_,by rw[hd,II],?_,λb' u e=>?_}
   .unfold htB
    rw[Ae,Ab3,hd,ge,ge,II];rfl
   .rw[Aj (An e hp)]
    exact sm _ _ e
  apply Bq (λh1=>?_) (λh1=>?_)
  .have hd:hgt l (i+1)=hgt l i+1:=by cases b with|true=>exact hh|false=>exact absurd h1 (by decide)
   apply{.inl {rfl,_,SqL.of hp1},?_};k_is;exact Bm hp1 hz1 (fin 1 hd)
  .have hd:hgt l (i+1)=hgt l i + -1:=by cases b with|false=>exact hh|true=>exact absurd rfl h1
   apply{.inl {rfl,_,SqL.of hp1},?_};k_is;exact Bm hp1 hz1 (fin (-1) hd)
 .rintro σ H1 ⟨v,rfl,hp1,sm⟩
  rw[show(Ax l).cps.size=l.9 from A9 l] at *;k_is;exact q p H1 sm hp hp1
inductive tU(vs:List V)(H:Hp)(Q:VK)(E:XK):Prop|mk(l:Za5)(_:vs=[.str (Ax l)])(_:Vs 0 l)(_:l.9<=8000)(_:∀H',Ag H H'->Q .non H')
include T in
theorem fY (F:Fun K "check_row" "check_row" Lr f fd):Aq P w K mg base CX0 1 f fd ["text"] tU:=by
 exists F.ok Fo
 obtain⟨l,rfl,hv,hn,q⟩:=h;refine⟨_,(Ab (Bl (Cw (B4 (Ao Cu (by rfl) T.de A8 (tpa (pv 0) (tpa (Gp (v:=.ty "str") rfl T.d7 rK rfl) Aa))))) (Ad C7)
  Au) (Ab (tst 1 Fo.nd Af) (Ab (Cq im rfl (Aa4 rfl T.dB (tpa (pv 0) Aa)) (Kt rfl (B6 (tgn 2 Fo.nd) (B6 (tgn 3 Fo.nd) Hd))) (Ab (tau 1 Fo.nd (Ci (ttc C1 (pv 3) A5) Af (Fl Dc Af)) N3) (Ad (Bl (PW.pt (Ie (Iu Oq (pv 3) A5 rfl) (Ie (ttc Ot (pv 1) Af) (Ij (ttc C1 (pv 2) (A7 rfl T.dM)))))) (Ad C7)
  Au)))) (Ad (Bl (ttc Ga (pv 1) Af) (Ad C7)
  Au))))),?_⟩
 apply{_,_,_,_,rfl,.str _,Sa,?_};apply{_,rfl,?_};refine xC (λi σ H1=>(∃v2 v3:Option V,σ=[en (.str (Ax l)),en (.int (hgt l i)),v2,v3])/\Ag H H1) {{_,_,rfl},Ag.refl _} ?_ ?_
 .rintro i c σ H1 t hc ⟨⟨v2,v3,rfl⟩,s1⟩ ht
  obtain⟨b,hb,rfl⟩:=gU hc;have hi:=Bt hb;have hs:=K8 hb;obtain⟨h,hh,_⟩:=Vv hv (i+1) ();have s2:=s1.trans (Al (o:=.tup [.int i,.str (sgn (if b then 49 else 48))]) ht);generalize upd H1 t _=H2 at *;k_is
  cases b with
  |true=>
   refine Bq (λ_=>?_) (λh=>absurd rfl h);apply{_,_,rfl,rfl,?_};k_is;have hs:hgt l (i+1)=hgt l i+1:=hs;rw[<-hs,hh];rw[show(!(!(mj ("01":Str) (sgn (if NG=NG then 49 else 48)) 0 ("01":Str).9 1).isEmpty))=NH by decide +kernel];apply Bq (λh=>()) (λ_=>?_);apply Bq (λh=>?_) (λ_=>?_)
   .have:=V.int.inj h
    lia
   k_is;exact{{_,_,rfl},s2}
  |false=>
   refine Bq (λh=>absurd h (by decide)) (λ_=>?_);apply{_,_,rfl,rfl,?_};k_is;have hs:hgt l (i+1)=hgt l i + -1:=hs;rw[<-hs,hh];rw[show(!(!(mj ("01":Str) (sgn (if NH=NG then 49 else 48)) 0 ("01":Str).9 1).isEmpty))=NH by decide +kernel];apply Bq (λh=>()) (λ_=>?_);apply Bq (λh=>?_) (λ_=>?_)
   .have:=V.int.inj h
    lia
   k_is;exact{{_,_,rfl},s2}
 .rintro σ H1 ⟨⟨v2,v3,rfl⟩,s1⟩
  rw[show(Ax l).cps.size=l.9 from A9 l];obtain⟨h,hh,hv2,_⟩:=Vv hv l.9 (fm _);rw[kh (fm _)] at hv2;have hv2:h=0:=hv2;apply Bq (λh=>()) (λ_=>?_);k_is;exact q H1 s1
def O2 (b:V):List (Str×V):=[("bits",b)]
def Kf (b c:V):List (Str×V):=[("bits",b),("counts",c)]
def Aci (b c n t o:V):List (Str×V):=[("bits",b),("counts",c),("length",n),("kept_table",t),("often_least",o)]
inductive rO (K:e7)(CP:fe)(vs:List V)(H:Hp)(Q:VK)(E:XK):Prop|mk(x dx:fe)(b c n t o:V)(_:vs=[.ref x,n,t,o])(_:H x=en (.ins CP dx (Kf b c)))(_:Q .non (upd H x (.ins CP dx (Aci b c n t o))))
variable (ai:Qa K aa)
include T ai in
theorem Ww (F:Fun K "__init__" "Heights.__init__" Hw f fd):Aq P w K mg base CX0 1 f fd ["self","length","table","often_least"] (rO K aa):=by
 exists F.ok Te
 obtain⟨x,dx,b,c,n,t,o,rfl,hx,q⟩:=h;refine{_,(Ab (tsf (pv 0) (pv 1)) (Ab (tsf (pv 0) (pv 2)) (Ad (tsf (pv 0) (pv 3))))),?_}
 apply Dx hx ai.cl ai.c9 (show 2<1000 by decide) ?_;apply Dx Ae ai.cl ai.dq (show 3<1000 by decide) ?_;rw[Tp];apply Dx Ae ai.cl ai.eO (show 4<1000 by decide) ?_;rw[Tp];exact q
inductive rZ (K:e7)(CC CP:fe)(vs:List V)(H:Hp)(Q:VK)(E:XK):Prop|mk(x dx c:fe)(fs:List (Str×V))(l:Za5)(n:Nat)(_:vs=[.ref x,.int n])(_:H x=en (.ins CP dx fs))(_:fs.lookup ("counts":Str)=en (.ref c))(_:A0 K CC H c l)(_:n<=l.9)(_:∀H',Ag H H'->Q (.int ((occ NG l n).9:Nat)) H')
variable (ba:T.ZM ac "ahead" 4 ["self","bit","place"] (uK K ac))
include T ai ba in
theorem Qv (F:Fun K "opens_ahead" "Pairs.opens_ahead" Ek f fd):Aq P w K mg base CX0 5 f fd ["self","place"] (rZ K ac aa):=by
 exists F.ok Lv
 obtain⟨x,dx,c,fs,l,n,rfl,hx,hc,hC,hn,q⟩:=h;refine{_,(Ad (Am (Av ba hr.m (tfl (pv 0)) (tpa Af (tpa (pv 1) Aa))))),?_};apply{x,aa,dx,fs,.ref c,rfl,hx,ai.cl,ai.eg,hc,?_};obtain⟨dc,t,u,hc1,_⟩:=id hC;apply{c,dc,_,rfl,hc1,rfl,?_};k_is;exact⟨c,l,NG,n,rfl,hC,hn,q⟩
inductive lW (K:e7)(CC CP:fe)(vs:List V)(H:Hp)(Q:VK)(E:XK):Prop|mk(x dx c:fe)(fs:List (Str×V))(l:Za5)(n:Nat)(_:vs=[.ref x,.int n])(_:H x=en (.ins CP dx fs))(_:fs.lookup ("counts":Str)=en (.ref c))(_:fs.lookup ("opens_ahead":Str)=p9)(_:A0 K CC H c l)(_:n<=l.9)(_:∀H',Ag H H'->Q (.int (2*((occ NG l n).9:Int)-n)) H')
variable (bc:T.ZM aa "opens_ahead" 5 ["self","place"] (rZ K ac aa))
include T ai bc in
theorem Wg (F:Fun K "height" "Heights.height" Gi f fd):Aq P w K mg base CX0 6 f fd ["self","place"] (lW K ac aa):=by
 exists F.ok Oj
 obtain⟨x,dx,c,fs,l,n,rfl,hx,hc,ho,hC,hn,q⟩:=h;refine{_,(Ad (Am (Ak B0 (Ak D6 Af (Av bc hr.m (pv 0) (tpa (pv 1) Aa))) (pv 1)))),?_};apply{x,dx,fs,rfl,hx,ho,?_};apply{x,dx,c,fs,l,n,rfl,hx,hc,hC,hn,λH' s=>?_};k_is;exact q H' s
inductive Vf (K:e7)(CB CP:fe)(vs:List V)(H:Hp)(Q:VK)(E:XK):Prop|mk(x dx b:fe)(fs:List (Str×V))(l:Za5)(i j:Nat)(_:vs=[.ref x,.int i,.int j])(_:H x=en (.ins CP dx fs))(_:fs.lookup ("bits":Str)=en (.ref b))(_:Ds K CB H b l)(_:i<=j)(_:j<=l.9)(_:∀H',Ag H H'->Q (.str (Ax ((l.drop i).take (j-i)))) H')
include T ai in
theorem Ws (F:Fun K "stretch" "Pairs.stretch" G7 f fd)(cg:T.ZM ad "stretch" 5 ["self","low","high"] (Zj K ad)):Aq P w K mg base CX0 6 f fd ["self","low","high"] (Vf K ad aa):=by
 exists F.ok R0
 obtain⟨x,dx,b,fs,l,i,j,rfl,hx,hb,hB,hij,hj,q⟩:=h;refine{_,(Ad (Am (Av cg hr.m (tfl (pv 0)) (tpa (pv 1) (tpa (pv 2) Aa))))),?_};apply{x,aa,dx,fs,.ref b,rfl,hx,ai.cl,ai.d4,hb,?_};obtain⟨db,t,hb1,_⟩:=id hB;apply{b,db,_,rfl,hb1,rfl,?_};k_is;exact⟨b,l,i,j,rfl,hB,hij,hj,q⟩
def bgH (l:Za5)(t:Nat):Int:=2*((occ NG l (t*256)).9:Int)-(t*256:Nat)
def sgH (l:Za5)(t:Nat):Za5:=(l.drop (t*256)).take 256
theorem Ac7 (l:Za5)(t:Nat):(sgH l t).9<=1000:=by unfold sgH;rw[gq];lia
def Xv (l:Za5)(t:Nat):List Int:=htB (sgH l t) (bgH l t) (sgH l t).9
def xW (l:Za5)(H:Hp)(r:fe)(j:Nat):Prop:=∃mn mx:Int,H r=en (.tup [.int (bgH l j),.int mn,.int mx])/\Mp (Xv l j) mn/\oP (Xv l j) mx
def Sr (l:Za5)(H:Hp)(t:fe):Prop:=∃rs:List fe,H t=en (.tup (rs.map V.ref))/\rs.9=(l.9+256-1)/256/\∀(j:Nat) r,rs[j]?=en r->xW l H r j
theorem Sr.keep {l:Za5}{t:fe}(k:∀b xs,H b=en (.tup xs)->H' b=en (.tup xs))(h:Sr l H t):Sr l H' t:=by
 obtain⟨rs,h1,h2,h3⟩:=h;refine{rs,k _ _ h1,h2,λj r e=>?_};obtain⟨mn,mx,e1,e2,e3⟩:=h3 j r e;exact{mn,mx,k _ _ e1,e2,e3}
theorem Sr.same {l:Za5}{t:fe}(s:Ag H H')(h:Sr l H t):Sr l H' t:=h.keep λb xs e=>s _ _ e
def Bo (K:e7)(CB CC CP:fe)(H:Hp)(x:fe)(l:Za5):Prop:=∃(dx b c t:fe) (o:V),H x=en (.ins CP dx (Aci (.ref b) (.ref c) (.int (l.9:Nat)) (.ref t) o))/\Ds K CB H b l/\A0 K CC H c l/\Sr l H t/\Vs 0 l/\l.9<=8192
theorem Bo.same {K:e7}{x:fe}{l:Za5}(h:Bo K CB CC CP H x l)(s:Ag H H'):Bo K CB CC CP H' x l:=by
 obtain⟨dx,b,c,t,o,h1,h2,h3,h4,h5⟩:=h;exact{dx,b,c,t,o,s _ _ h1,h2.same s,h3.same s,h4.same s,h5}
inductive gR (K:e7)(CB CC CP:fe)(vs:List V)(H:Hp)(Q:VK)(E:XK):Prop|mk(x:fe)(l:Za5)(_:vs=[.ref x])(_:Bo K CB CC CP H x l)(_:Q (.int (l.9:Nat)) H)
include T ai in
theorem Wx (F:Fun K "size" "Heights.size" Hq f fd):Aq P w K mg base CX0 1 f fd ["self"] (gR K ad ac aa):=by
 exists F.ok Tc
 obtain⟨x,l,rfl,⟨dx,b,c,t,o,hx,_⟩,q⟩:=h;refine{_,(Ad (Am (tfl (pv 0)))),?_};k_is;exact{x,aa,dx,_,_,rfl,hx,ai.cl,ai.c9,rfl,q}
inductive jA (K:e7)(CB CC CP:fe)(vs:List V)(H:Hp)(Q:VK)(E:XK):Prop|mk(x:fe)(l:Za5)(_:vs=[.ref x])(_:Bo K CB CC CP H x l)(_:∀H',Ag H H'->Q (.str (Ax l)) H')
variable (be:T.ZM aa "stretch" 6 ["self","low","high"] (Vf K ad aa))
include T ai be in
theorem Wy (F:Fun K "text" "Heights.text" Im f fd):Aq P w K mg base CX0 7 f fd ["self"] (jA K ad ac aa):=by
 exists F.ok S7
 obtain⟨x,l,rfl,⟨dx,b,c,t,o,hx,hB,hC,_⟩,q⟩:=h;refine{_,(Ad (Am (Av be hr.m (pv 0) (tpa Af (tpa (tfl (pv 0)) Aa))))),?_};apply{x,dx,_,rfl,hx,rfl,?_};apply{x,aa,dx,_,_,rfl,hx,ai.cl,ai.c9,rfl,?_};apply{x,dx,b,_,l,0,l.9,rfl,hx,rfl,hB,ij _,fm _,λH' s=>?_}
 simpa using q H' s
theorem Y7 {x:fe}(hx:H1 x=p9)(hd:H1 dx=p9)(s:SameBut x (upd (upd H1 dx (.own x)) x (.ins C dx [])) H2):Ag H1 H2:=λb u e=>s b u (An e hx) (by rw[Aj (An e hx),Aj (An e hd)];exact e)
theorem Kr {K:e7}{x b:fe}{l:Za5}(s:SameBut x H H')(n:Abh H x)(hne:b≠x)(h:A0 K C H b l):A0 K C H' b l:=by
 obtain⟨dx,t,u,h1,h2,h3,h4⟩:=h;exact{dx,t,u,s _ _ hne h1,s _ _ (λe=>by subst e;exact(n _).1 (.inl h2)) h2,s _ _ (λe=>by subst e;exact(n _).1 (.inl h3)) h3,h4}
inductive sY (K:e7)(CB CC CP:fe)(vs:List V)(H:Hp)(Q:VK)(E:XK):Prop|mk(x dx:fe)(l:Za5)(_:vs=[.ref x,.str (Ax l)])(_:H x=en (.ins CP dx []))(_:Vs 0 l)(_:l.9<=8000)(_:∀H',SameBut x H H'->Bo K CB CC CP H' x l->Q .non H')
variable (bf:T.ZC "check_row" 1 ["text"] tU) (aD:T.ZM aa "height" 6 ["self","place"] (lW K ac aa)) (bh:T.ZC "heights_of" 1 ["text","begin"] T6)
include T aY aZ ai bf aD bh in
theorem W7 (F:Fun K "__init__" "Pairs.__init__" Dh f fd)(W1:Acw P w K mg base "Heights" "__init__" 1 ["self","length","table","often_least"] (rO K aa)):Aq P w K mg base CX0 7 f fd ["self","text"] (sY K ad ac aa):=by
 exists F.ok Et
 obtain⟨x,dx,l,rfl,hx,hV,hl8,q⟩:=h;refine{_,(Ab (As (Aw bf hr.m (tpa (pv 1) Aa))) (Ab (tsf (pv 0) (Xc aZ hr.m (tpa (pv 1) Aa))) (Ab (tsf (pv 0) (Xc aY hr.m (tpa (tfl (pv 0)) Aa))) (Ab (tst 2 Et.nd (rC rfl rfl T.dD rfl T.c8 (tpa Af (tpa (Ao B2 (by rfl) T.c7 Cb (tpa (pv 1) Aa)) (tpa (A7 rfl T.dn) Aa))))) (Ab (Ly (i:=3) rfl S1 Et.nd rfl rfl (Ey (pv 2)) (λ_ _ _ _=>Cf) (λ_ _ _ _=>(Av aD hr.m (pv 1) (tpa (pv 0) Aa)))) (Ab (Rk (i:=4) rfl S0 Et.nd rfl rfl (fS rfl T.dU (tpa (pv 2) (tpa (pv 3) Aa))) (λ_ _ _ _=>Cf) (λ_ _ _ _=>(Aw bh hr.m (tpa (Co Py (pv 2) (B5 (pv 0)) (B5 (Ak Bd (pv 0) (A7 rfl T.dn)))) (tpa (pv 1) Aa))))) (Ab (Rk (i:=5) rfl Sz Et.nd rfl rfl (fS rfl T.dU (tpa (pv 3) (tpa (pv 4) Aa))) (λ_ _ _ _=>Cf) (λ_ _ _ _=>(Kk (tpa (pv 0) (tpa (Ao (U9 K rfl) (by rfl) T.dC Xs (tpa (pv 1) Aa)) (tpa (Ao (qS K rfl) (by rfl) T.eJ Afw (tpa (pv 1) Aa)) Aa)))))) (Ad (As (Aez W1 hr.m rfl (tpa (pv 0) (tpa (Ao B2 (by rfl) T.c7 Cb (tpa (pv 1) Aa)) (tpa (Cn Eo (by rfl) T.dX Pd (tpa (pv 5) Aa)) (tpa (Ja rfl Td (Ey (pv 4)) (λ_ _ _ _=>Cf) (λ_ _ _ _=>(Af2 K gl PySem.F.slot_list_count PySem.F.type_list_count uW (pv 0) (tpa (Ao (U9 K rfl) (by rfl) T.dC Xs (tpa (pv 0) Aa)) Aa)))) Aa)))))))))))))),?_}
 apply{l,rfl,hV,hl8,λH1 s1=>?_};have hl:l.9<=8192:=()
 have hx1:=s1 _ _ hx;k_is;intro b db hb hdb hbd;refine{b,db,l,rfl,Ae,(),λH2 s2 hB2=>{rfl,?_}};have s2:=Y7 hb hdb s2;have hx2:=s2 _ _ hx1;have nbx:b≠x:=(An hx1 hb).symm;apply Dx hx2 ai.cl ai.d4 (show 0<1000 by decide) ?_;rw[show F5 ("bits":Str) (V.ref b) []=(O2 (.ref b)) from rfl];have hB3:Ds K ad (upd H2 x (.ins aa dx (O2 (.ref b)))) b l:=Ik Bc (Fj hx2) nbx hB2;have hx3:=@Ae H2 x (.ins aa dx (O2 (.ref b)));have b3:SameBut x H2 (upd H2 x (.ins aa dx (O2 (.ref b)))):=Bc;generalize upd H2 x _=H3 at *;apply{x,aa,dx,_,.ref b,rfl,hx3,ai.cl,ai.d4,rfl,?_};k_is;intro c dc hc hdc hcd;refine{c,dc,b,l,rfl,Ae,hB3.same (Hs hc hdc),λH4 s4 hC4=>{rfl,?_}};have s4:=Y7 hc hdc s4;have hx4:=s4 _ _ hx3;have ncx:c≠x:=(An hx3 hc).symm;have hB4:=hB3.same s4;apply Dx hx4 ai.cl ai.eg (show 1<1000 by decide) ?_;rw[show F5 ("counts":Str) (V.ref c) (O2 (.ref b))=Kf (.ref b) (.ref c) from rfl];have hB5:Ds K ad (upd H4 x (.ins aa dx (Kf (.ref b) (.ref c)))) b l:=Ik Bc (Fj hx4) nbx hB4;have hC5:A0 K ac (upd H4 x (.ins aa dx (Kf (.ref b) (.ref c)))) c l:=Kr Bc (Fj hx4) ncx hC4;have hx5:=@Ae H4 x (.ins aa dx (Kf (.ref b) (.ref c)));have b5:SameBut x H4 (upd H4 x (.ins aa dx (Kf (.ref b) (.ref c)))):=Bc;have but5:SameBut x H (upd H4 x (.ins aa dx (Kf (.ref b) (.ref c)))):=(((s1.trans s2).but.trans b3).trans s4.but).trans b5;generalize upd H4 x _=H5 at *;apply{_,rfl,gy (Ai (by rw[A9];lia)),?_};rw[A9];apply{l.9,256,rfl,(),by decide,by decide,λlo hlo=>?_};obtain⟨u6,hlo6⟩:=Ar (o:=.lst ((ft ((l.9+256-1)/256)).map λt:Nat=>V.int (t*256:Nat))) hlo;have hx6:=u6 _ _ hx5;have hB6:=hB5.same u6;have hC6:=hC5.same u6;have but6:=but5.trans u6.but;generalize upd H5 lo _=H6 at *;obtain⟨m,hm⟩:∃m,(l.9+256-1)/256=m:={_,rfl};rw[hm] at hlo6;have hll:((ft m).map λt:Nat=>V.int (t*256:Nat)).9=m:=by rw[fb,fv]
 apply{lo,rfl,{_,SqL.of hlo6},?_};refine fT (xs:=(ft m).map λt:Nat=>V.int (t*256:Nat)) (SqL.of hlo6) (λi=>(ft i).map λt:Nat=>V.int (bgH l t)) rfl (λi hi=>?_) (λi y H7 R A hy s7 _ hA=>?_) (λD7 H7 hD7 s7 h7=>?_)
 .rw[fb,fv]
  exact Ai ()
 .have hi:i<m:=by have:=Bt hy;rw[hll] at this;exact this
  rw[fg,gn hi] at hy;obtain rfl:y=V.int (i*256:Nat):=(fk hy).symm;apply{x,dx,_,rfl,s7 _ _ hx6,rfl,?_};apply{x,dx,c,_,l,i*256,rfl,s7 _ _ hx6,rfl,rfl,hC6.same s7,(),λH8 s8=>?_};refine hA _ _ ?_ s8;rw[jo,ge];rfl
 rw[hll] at h7;have hx7:=s7 _ _ hx6;have hB7:=hB6.same s7;have hC7:=hC6.same s7;have but7:=but6.trans s7.but;have hlo7:=s7 _ _ hlo6;have hbl:((ft m).map λt:Nat=>V.int (bgH l t)).9=m:=by rw[fb,fv]
 apply{lo,D7,rfl,{_,SqL.of hlo7},{_,SqL.of h7},?_};refine iO (SqL.of hlo7) (SqL.of h7) (λD i zs H'=>∃rs:List fe,zs=rs.map V.ref/\rs.9=i/\∀(j:Nat) r,rs[j]?=en r->r≠D/\H' r=en (.lst ((Xv l j).map V.int))) (λD H' _ _=>{[],rfl,rfl,λj r e=>by cases e}) ?_ ?_ ?_ ?_ ?_
 .rintro D i zs H' us o hD ⟨rs,e1,e2,e3⟩
  exact{rs,e1,e2,λj r e=>{(e3 j r e).1,by rw[Aj (e3 j r e).1];exact(e3 j r e).2}}
 .rintro D i zs H' hi ⟨rs,rfl,e2,e3⟩
  rw[fb,e2];rw[hll,hbl] at hi;exact Ai ()
 .rintro D i zs H' H'' s ⟨rs,e1,e2,e3⟩
  exact{rs,e1,e2,λj r e=>{(e3 j r e).1,s _ _ (e3 j r e).2}}
 .intro D i zs y y2 H8 A R hy hy2 s8 hD0 hD8 hPv hA
  obtain⟨rs,rfl,e2,e3⟩:=hPv;have hi:i<m:=by have:=Bt hy;rw[hll] at this;exact this
  rw[fg,gn hi] at hy hy2;obtain rfl:y=V.int (i*256:Nat):=(fk hy).symm;obtain rfl:y2=V.int (bgH l i):=(fk hy2).symm;apply{_,rfl,gy (Ai (by rw[A9];lia)),?_};k_is;have ec:Pa (Ax l) (en ((i*256:Nat):Int)) (en (((i*256:Nat):Int)+256))=Ax (sgH l i):=by
   have:=P4 l (i*256) (i*256+256);rw[vw] at this;exact this
  rw[ec];refine{sgH l i,bgH l i,rfl,Ac7 l i,λp H9 s9 hp h9=>?_};refine hA _ _ s9 {rs++[p],by rw[ge];rfl,by rw[fq,e2];rfl,λj r e=>?_}
  by_cases hj:j<rs.9
  .rw[gv hj] at e
   exact{(e3 j r e).1,s9 _ _ (e3 j r e).2}
  .have hj2:=Bt e
   rw[fq] at hj2;have hj3:j=rs.9:=by simp at hj2;lia
   subst hj3;rw[ig (fm _),o8] at e;obtain rfl:p=r:=fk e;rw[e2];exact{(An hD8 hp).symm,h9}
 .intro D8 zs H8 hD8 s8 hPv h8
  obtain⟨rs,rfl,e2,e3⟩:=hPv;rw[hll,hbl,zk] at e2;have hx8:=s8 _ _ hx7;have hB8:=hB7.same s8;have hC8:=hC7.same s8;have but8:=but7.trans s8.but;have h78:=s8 _ _ h7;have hrl:(rs.map V.ref).9=m:=by rw[fb,e2]
  have hne:∀i,i<m->Xv l i≠[]:=λi hi e=>by
   have e:=congrArg DW e;unfold Xv htB hts sgH at e;simp at e;lia
  apply{D7,D8,rfl,{_,SqL.of h78},{_,SqL.of h8},?_};refine iO (SqL.of h78) (SqL.of h8) (λD i zs H'=>∃ts:List fe,zs=ts.map V.ref/\ts.9=i/\∀(j:Nat) r,ts[j]?=en r->xW l H' r j) (λD H' _ _=>{[],rfl,rfl,λj r e=>by cases e}) ?_ ?_ ?_ ?_ ?_
  .rintro D i zs H' us o hD ⟨ts,e1,e2,e3⟩
   refine{ts,e1,e2,λj r e=>?_};obtain⟨mn,mx,h1,h2⟩:=e3 j r e;exact{mn,mx,by rw[Aj (λz=>by rw[z,hD] at h1;cases h1)];exact h1,h2}
  .rintro D i zs H' hi ⟨ts,rfl,e2,e3⟩
   rw[hbl,hrl] at hi;rw[fb,e2];exact Ai ()
  .rintro D i zs H' H'' s ⟨ts,e1,e2,e3⟩
   refine{ts,e1,e2,λj r e=>?_};obtain⟨mn,mx,h1,h2⟩:=e3 j r e;exact{mn,mx,s _ _ h1,h2}
  .intro D i zs y y2 H9 A R hy hy2 s9 hD0 hD9 hPv hA
   obtain⟨ts,rfl,ts2,ts3⟩:=hPv;have hi:i<m:=by have:=Bt hy;rw[hbl] at this;exact this
   rw[fg,gn hi] at hy;obtain rfl:y=V.int (bgH l i):=(fk hy).symm;have er:rs[i]?=en (rs[i]'()):=fc _;generalize rs[i]'()=r at er;rw[fg,er] at hy2;obtain rfl:y2=V.ref r:=(fk hy2).symm;have hr9:=s9 _ _ (e3 i r er).2;apply{r,Xv l i,rfl,SqL.of hr9,hne i hi,λmn hmn=>?_};apply{r,Xv l i,rfl,SqL.of hr9,hne i hi,λmx hmx=>?_};apply{few (by simp),λtp htp=>?_};refine hA _ _ (Al htp) {ts++[tp],by rw[ge];rfl,by rw[fq,ts2];rfl,λj q e=>?_}
   by_cases hj:j<ts.9
   .rw[gv hj] at e
    obtain⟨mn',mx',h1,h2⟩:=ts3 j q e;exact{mn',mx',Al htp _ _ h1,h2}
   .have hj2:=Bt e
    rw[fq] at hj2;have hj3:j=ts.9:=by simp at hj2;lia
    subst hj3;rw[ig (fm _),o8] at e;obtain rfl:tp=q:=fk e;rw[ts2];exact⟨mn,mx,Ae,hmn,hmx⟩
  .intro D9 zs H9 hD9 s9 hPv h9
   rw[hbl,hrl,zk] at hPv;obtain⟨ts,rfl,ts2,ts3⟩:=hPv;have hx9:=s9 _ _ hx8;have hB9:=hB8.same s9;have hC9:=hC8.same s9;have but9:=but8.trans s9.but;have h89:=s9 _ _ h8;apply{_,rfl,gy (Ai (by rw[A9];lia)),?_};rw[A9];apply{D9,_,rfl,.inl {SqL.of h9,λtq htq=>?_}};have s10:=Al (o:=.tup (ts.map V.ref)) htq;have hx10:=s10 _ _ hx9;have hB10:=hB9.same s10;have hC10:=hC9.same s10;have but10:=but9.trans s10.but;have h810:=s10 _ _ h89;have e310:∀(j:Nat) r,rs[j]?=en r->upd H9 tq (.tup (ts.map V.ref)) r=en (.lst ((Xv l j).map V.int)):=λj r e=>s10 _ _ (s9 _ _ (e3 j r e).2);have hTab10:Sr l (upd H9 tq (.tup (ts.map V.ref))) tq:=⟨ts,Ae,by rw[ts2,hm],λj r e=>by
    obtain⟨mn,mx,h1,h2⟩:=ts3 j r e;exact{mn,mx,s10 _ _ h1,h2}⟩
   generalize upd H9 tq _=H10 at *;apply{D8,rfl,{_,SqL.of h810},?_};refine U1 (SqL.of h810) (λi ys H'=>ys.9=i) (λ_ _=>rfl) (λi ys H' D zs o _ h=>h) (λi ys H' hi h=>?_) ?_ ?_
   .rw[hrl] at hi
    rw[h];exact Ai ()
   .intro i ys y H11 A R hy s11 hPv hA
    have hi:i<m:=by have:=Bt hy;rw[hrl] at this;exact this
    have er:rs[i]?=en (rs[i]'()):=fc _;generalize rs[i]'()=r at er;rw[fg,er] at hy;obtain rfl:y=V.ref r:=(fk hy).symm;have hr:=s11 _ _ (e310 i r er);apply{.inl {rfl,_,SqL.of hr},?_};apply{r,Xv l i,rfl,SqL.of hr,hne i hi,λmn _=>?_};apply{r,_,_,rfl,rfl,hr,Mn _,rfl,?_};exact hA _ _ (Ag.refl _) (by rw[fq,hPv];rfl)
   .intro D12 ys H12 hD12 s12 hPv h12
    have hx12:=s12 _ _ hx10;apply{x,dx,.ref b,.ref c,.int (l.9:Nat),.ref tq,.ref D12,rfl,hx12,?_};exact q _ ((but10.trans s12.but).trans Bc) {dx,b,c,tq,_,Ae,Ik Bc (Fj hx12) nbx (hB10.same s12),Kr Bc (Fj hx12) ncx (hC10.same s12),(hTab10.same s12).keep (λb2 xs e=>by rw[Aj (λz=>by rw[z,hx12] at e;cases e)];exact e),hV,hl}
theorem Me (l:Za5)(i:Nat):2*((occ NG l i).9:Int)-(i:Int)=hgt l i:=by
 unfold hgt;rw[(Ti l i).1];rfl
theorem Acx (l:Za5)(a m j:Nat)(hj:j<=m):hgt l a+hgt ((l.drop a).take m) j=hgt l (a+j):=by
 unfold hgt;rw[HN,va,AT,j9 hj];lia
def hw (l:Za5)(lo hi:Nat):List Int:=(ft (hi-lo)).map λj=>hgt l (lo+j+1)
theorem Xm (l:Za5)(lo hi:Nat):(hw l lo hi).9=hi-lo:=by unfold hw;rw[fb,fv]
theorem Aae {l:Za5}{lo hi j:Nat}(h:j<hi-lo):(hw l lo hi)[j]?=en (hgt l (lo+j+1)):=by unfold hw;rw[fg,gn h];rfl
theorem Aki {l:Za5}{lo hi:Nat}{x:Int}(h:x∈hw l lo hi):∃i,lo<i/\i<=hi/\hgt l i=x:=by
 unfold hw at h;obtain⟨j,hj,e⟩:=je.mp h;have:=ki.mp hj;exact{lo+j+1,(),(),e}
theorem Uk {l:Za5}{lo hi i:Nat}(h1:lo<i)(h2:i<=hi):hgt l i∈hw l lo hi:=by
 unfold hw;exact je.mpr {i-lo-1,ki.mpr (),by rw[show lo+(i-lo-1)+1=i by lia]}
theorem Aao {l:Za5}{lo hi:Nat}(h1:lo<=hi)(h2:hi<=l.9):htB ((l.drop lo).take (hi-lo)) (hgt l lo) ((l.drop lo).take (hi-lo)).9=hw l lo hi:=by
 have e:((l.drop lo).take (hi-lo)).9=hi-lo:=by rw[gq,jb];lia
 rw[e];unfold htB hts hw;rw[jk];refine jg λj hj=>?_;have:=ki.mp hj;show hgt l lo+hgt ((l.drop lo).take (hi-lo)) (j+1)=_;rw[Acx l lo (hi-lo) (j+1) ()];rfl
theorem Ag5 (l:Za5)(t:Nat):bgH l t=hgt l (t*256):=Me l (t*256)
def Yd (l:Za5)(t:Nat):Nat:=min ((t+1)*256) l.9
theorem sF {l:Za5}{t:Nat}(h:t*256<=l.9):Xv l t=hw l (t*256) (Yd l t):=by
 have e:sgH l t=(l.drop (t*256)).take (Yd l t-t*256):=by
  unfold sgH Yd
  by_cases h2:(t+1)*256<=l.9
  .rw[j9 h2,show(t+1)*256-t*256=256 by lia]
  .rw[sh (),gp (by rw[jb];lia),gp (by rw[jb];exact fm _)]
 unfold Xv;rw[e,Ag5];exact Aao (by unfold Yd;lia) (by unfold Yd;lia)
inductive Sk(vs:List V)(H:Hp)(Q:VK)(E:XK):Prop|mk(x:V)(p:Nat)(_:vs=[x,.int p])(_:Q (.int ((p/256:Nat):Int)) H)
include T ai in
theorem Q9 (F:Fun K "stretch_at" "Pairs.stretch_at" E3 f fd):Aq P w K mg base CX0 1 f fd ["self","place"] Sk:=by
 exists F.ok M0
 obtain⟨x,p,rfl,q⟩:=h;refine{_,(Ad (Am (Ak Cg (pv 1) (A7 rfl T.dn)))),?_};k_is;rw[show((p:Int)/256)=((p/256:Nat):Int) by lia];exact q
inductive Ra (K:e7)(CB CC CP:fe)(vs:List V)(H:Hp)(Q:VK)(E:XK):Prop|mk(x:fe)(l:Za5)(n:Nat)(_:vs=[.ref x,.int n])(_:Bo K CB CC CP H x l)(_:Q (.int ((min (n*256) l.9:Nat):Int)) H)
include T ai in
theorem Wk (F:Fun K "begin_of" "Pairs.begin_of" Ge f fd):Aq P w K mg base CX0 1 f fd ["self","number"] (Ra K ad ac aa):=by
 exists F.ok Os
 obtain⟨x,l,n,rfl,⟨dx,b,c,t,o,hx,_⟩,q⟩:=h;refine{_,(Ad (Am (Ao (R5 rfl) (by rfl) T.dC Xs (tpa (Ak D6 (pv 1) (A7 rfl T.dn)) (tpa (tfl (pv 0)) Aa))))),?_};apply{x,aa,dx,_,_,rfl,hx,ai.cl,ai.c9,rfl,?_};apply{_,_,rfl,?_};have e:(if(l.9:Int)<(n:Int)*256 then(l.9:Int) else(n:Int)*256)=((min (n*256) l.9:Nat):Int):=by
  split<;>lia
 rw[e];exact q
def pM (lo hi:Nat):Nat:=if lo<hi then(hi-1)/256-lo/256+1 else 0
def loN (lo i:Nat):Nat:=if i=0 then lo else(lo/256+i)*256
def hiN (lo hi i:Nat):Nat:=if i=(hi-1)/256-lo/256 then hi else(lo/256+i+1)*256
def pLo (lo hi:Nat):Za4:=(ft (pM lo hi)).map (loN lo)
def pHi (lo hi:Nat):Za4:=(ft (pM lo hi)).map (hiN lo hi)
theorem Mh (lo hi:Nat):(pLo lo hi).9=pM lo hi:=by unfold pLo;rw[fb,fv]
theorem Tw (lo hi:Nat):(pHi lo hi).9=pM lo hi:=by unfold pHi;rw[fb,fv]
theorem Tv {lo hi i:Nat}(h:i<pM lo hi):lo<=loN lo i/\loN lo i<hiN lo hi i/\hiN lo hi i<=hi/\loN lo i/256=lo/256+i/\hiN lo hi i<=(lo/256+i+1)*256/\lo<hi:=by
 unfold pM at h;split at h
 .unfold loN hiN
  split<;>split<;>lia
 .lia
theorem N1 {lo hi:Nat}(h:lo<hi):loN lo 0=lo/\0<pM lo hi:={rfl,by unfold pM;rw[if_pos h];lia}
theorem Ru {lo hi i:Nat}(h:i+1<pM lo hi):hiN lo hi i=loN lo (i+1):=by
 unfold pM at h;split at h
 .unfold loN hiN
  rw[if_neg (),if_neg (),td]
 .lia
theorem Ri {lo hi i:Nat}(h:i+1=pM lo hi):hiN lo hi i=hi:=by
 unfold pM at h;split at h
 .unfold hiN
  rw[if_pos ()]
 .lia
inductive sZ (K:e7)(CB CC CP:fe)(vs:List V)(H:Hp)(Q:VK)(E:XK):Prop|mk(x:fe)(l:Za5)(lo:Nat)(hi:Int)(_:vs=[.ref x,.int lo,.int hi])(_:Bo K CB CC CP H x l)(_:hi<=(l.9:Int))(_:∀p as H',Ag H H'->H p=p9->H' p=en (.lst (as.map V.ref))->Aga H H' as (nV (pLo lo hi.toNat)) (nV (pHi lo hi.toNat))->Q (.ref p) H')
variable (aE:T.ZM aa "stretch_at" 1 ["self","place"] Sk) (aU:T.ZM aa "begin_of" 1 ["self","number"] (Ra K ad ac aa))
include T ai aE aU in
theorem Wm (F:Fun K "parts" "Heights.parts" Ew f fd):Aq P w K mg base CX0 2 f fd ["self","low","high"] (sZ K ad ac aa):=by
 exists F.ok Jr
 obtain⟨x,l,lo,hi,rfl,hP,hl,q⟩:=h;obtain⟨dx,b,c,t,o,hx,_,_,_,_,hl8⟩:=id hP;refine⟨_,(Ab (Bl (ttc Ae2 (pv 1) (pv 2)) (Ad (Am (Ay Aa)))
  Au) (Ab (Ly (i:=3) rfl N0 Jr.nd rfl rfl (Y8 rfl T.c8 (tpa (Ak Bd (Av aE hr.m (pv 0) (tpa (pv 1) Aa)) Af) (tpa (Ak Bd (Av aE hr.m (pv 0) (tpa (Ak B0 (pv 2) Af) Aa)) Af) Aa))) (λ_ _ _ _=>Cf) (λ_ _ _ _=>(Av aU hr.m (pv 1) (tpa (pv 0) Aa)))) (Ad (Am (Aem rfl rfl T.dD rfl T.dU (tpa (Ak Jg (Ay (tpa (pv 1) Aa)) (pv 3)) (tpa (Ak Jg (pv 3) (Ay (tpa (pv 2) Aa))) Aa))))))),?_⟩
 apply Bq (λh0=>?_) (λh0=>?_)
 .apply{ij _,λp hp=>?_};have e:pM lo hi.toNat=0:=by unfold pM;rw[if_neg ()]
  refine q p [] _ (Al hp) hp Ae {?_,λi t x y e=>by cases e};unfold pLo;rw[e];rfl
 .obtain⟨hn,rfl⟩:∃hn:Nat,hi=(hn:Int):={hi.toNat,()}
  rw[gr] at q;have hlt:lo<hn:=()
  obtain⟨k1,hk1⟩:∃k1,lo/256=k1:={_,rfl};obtain⟨k2,hk2⟩:∃k2,(hn-1)/256=k2:={_,rfl};have hk12:k1<=k2:=()
  have hk33:k2<=31:=()
  apply{x,dx,_,rfl,hx,rfl,?_};apply{.ref x,lo,rfl,?_};rw[hk1];apply{x,dx,_,rfl,hx,rfl,?_};apply{.ref x,hn-1,by rw[show((hn-1:Nat):Int)=(hn:Int)-1 by lia];rfl,?_};rw[hk2];apply{_,_,rfl,{(),(),(),()},?_};rw[show((k2:Int)+1-((k1:Int)+1)).toNat=k2-k1 by lia];refine Jy (λi=>nV ((ft i).map λj=>(k1+1+j)*256)) rfl (λi hi=>?_) (λi H1 R A hi s1 _ hA=>?_) (λD1 H1 hD1 s1 h1=>?_)
  .rw[Cp,fb,fv]
   exact Ai ()
  .apply{x,dx,_,rfl,s1 _ _ hx,rfl,?_};apply{x,l,k1+1+i,by rw[show((k1+1+i:Nat):Int)=(k1:Int)+1+(i:Int) by lia];rfl,hP.same s1,?_};refine hA _ _ ?_ (Ag.refl _);rw[j9 (),jo,ge];unfold nV;rw[ge];rfl
  apply{few (by simp),λa1 ha1=>?_};obtain⟨t1,e1⟩:=Ar (o:=.lst [V.int (lo:Int)]) ha1;have h12:=t1 _ _ h1;have s2:=s1.trans t1;generalize upd H1 a1 _=H2 at *;obtain⟨cs,hcs⟩:∃cs,cs=(ft (k2-k1)).map λj=>(k1+1+j)*256:={_,rfl};have hcl:cs.9=k2-k1:=by rw[hcs,fb,fv]
  rw[<-hcs] at h12;apply{a1,D1,_,_,rfl,rfl,e1,h12,gy (Ai (by rw[Cp,hcl,ii];lia)),λa2 ha2=>?_};have t2:=Al (o:=.lst ([V.int (lo:Int)]++nV cs)) ha2;have e2:upd H2 a2 (.lst ([V.int (lo:Int)]++nV cs)) a2=en (.lst (nV (lo::cs))):=Ae;have h13:=t2 _ _ h12;have s3:=s2.trans t2;generalize upd H2 a2 _=H3 at *;apply{few (by simp),λa3 ha3=>?_};obtain⟨t3,e3⟩:=Ar (o:=.lst [V.int (hn:Int)]) ha3;have h14:=t3 _ _ h13;have e23:=t3 _ _ e2;have s4:=s3.trans t3;generalize upd H3 a3 _=H4 at *;apply{D1,a3,_,_,rfl,rfl,h14,e3,gy (Ai (by rw[Cp,hcl,ii];lia)),λa4 ha4=>?_};have t4:=Al (o:=.lst (nV cs++[V.int (hn:Int)])) ha4;have e4:upd H4 a4 (.lst (nV cs++[V.int (hn:Int)])) a4=en (.lst (nV (cs++[hn]))):=by rw[Ae,<-Abd];rfl
  have e24:=t4 _ _ e23;have s5:=s4.trans t4;generalize upd H4 a4 _=H5 at *;have hpm:pM lo hn=k2-k1+1:=by unfold pM;rw[if_pos hlt,hk1,hk2]
  have eLo:lo::cs=pLo lo hn:=by
   refine qv λi=>?_;unfold pLo;rw[hpm]
   by_cases hi:i<k2-k1+1
   .rw[fg,gn hi]
    cases i with
    |zero=>rfl
    |succ i=>
     rw[List.getElem?_cons_succ,hcs,fg,gn ()];show en ((k1+1+i)*256)=en ((lo/256+(i+1))*256);rw[hk1,show k1+1+i=k1+(i+1) by lia]
   .rw[jc (by rw[iu,hcl];lia),jc (by rw[fb,fv];lia)]
  have eHi:cs++[hn]=pHi lo hn:=by
   refine qv λi=>?_;unfold pHi;rw[hpm]
   by_cases hi:i<k2-k1+1
   .rw[fg,gn hi]
    show _=en (hiN lo hn i);unfold hiN;rw[hk1,hk2]
    by_cases h2:i=k2-k1
    .rw[if_pos h2,ig (),h2,hcl,o8]
     rfl
    .rw[if_neg h2,gv (),hcs,fg,gn ()]
     show en ((k1+1+i)*256)=_;rw[show k1+1+i=k1+i+1 by lia]
   .rw[jc (by rw[fq,hcl,ii];lia),jc (by rw[fb,fv];lia)]
  rw[eLo] at e24;rw[eHi] at e4;apply{a2,a4,_,_,rfl,SqL.of e24,SqL.of e4,by rw[Cp,Cp,Mh,Tw],λp as H6 s6 hp0 hp hN=>?_};refine q p as H6 (s5.trans s6) (s5.free hp0) hp {hN.1,λi t' x' y' g1 g2 g3=>?_};obtain⟨n1,n2⟩:=hN.2 i t' x' y' g1 g2 g3;exact{s5.free n1,n2}
inductive Po (K:e7)(CB CC CP:fe)(vs:List V)(H:Hp)(Q:VK)(E:XK):Prop|mk(x:fe)(l:Za5)(lo:Nat)(h:Int)(_:vs=[.ref x,.int lo,.int h])(_:Bo K CB CC CP H x l)(_:lo<l.9)(_:∀b:Bool,(b=NH->∀i,lo/256*256<i->i<=Yd l (lo/256)->hgt l i≠h)->Q (.bl b) H)
include T ai aE in
theorem Qx (F:Fun K "may_meet" "Heights.may_meet" Fg f fd):Aq P w K mg base CX0 2 f fd ["self","low","height"] (Po K ad ac aa):=by
 exists F.ok Hb
 obtain⟨x,l,lo,h,rfl,hP,hl,q⟩:=h;obtain⟨dx,b,c,t,o,hx,_,_,⟨rs,ht,hrl,hrs⟩,_,hl8⟩:=id hP;refine{_,(Ab (tst 3 Hb.nd (tix Bh (tfl (pv 0)) (Av aE hr.m (pv 0) (tpa (pv 1) Aa)))) (Ad (Am (nO Vg Vg (tix Bh (pv 3) Af) (pv 2) (tix Bh (pv 3) Af))))),?_}
 apply{x,aa,dx,_,_,rfl,hx,ai.cl,ai.dq,rfl,?_};apply{x,dx,_,rfl,hx,rfl,?_};apply{.ref x,lo,rfl,?_};have hj:lo/256<rs.9:=()
 obtain⟨mn,mx,hr1,hmn,hmx⟩:=hrs _ _ (fc hj);rw[sF ()] at hmn hmx;apply Cc (SqT.of ht) (Bi (by rw[fg,fc hj];rfl)) ?_;apply Cc (SqT.of hr1) (v:=.int mn) rfl ?_;k_is
 by_cases h1:mn<=h
 .rw[decide_eq_true h1]
  apply Cc (SqT.of hr1) (v:=.int mx) rfl ?_;apply q _ λhb i hi1 hi2 he=>?_;have:=hmx.2 _ (Uk (l:=l) hi1 hi2);rw[he] at this;rw[decide_eq_true this] at hb;cases hb
 .rw[decide_eq_false h1]
  apply q NH λ_ i hi1 hi2 he=>?_;have:=hmn.2 _ (Uk (l:=l) hi1 hi2);lia
inductive Y6 (K:e7)(CB CC CP:fe)(vs:List V)(H:Hp)(Q:VK)(E:XK):Prop|mk(x:fe)(l:Za5)(lo hi:Nat)(_:vs=[.ref x,.int lo,.int hi])(_:Bo K CB CC CP H x l)(_:lo<=hi)(_:hi<=l.9)(_:hi-lo<=1000)(_:∀p H',Ag H H'->H p=p9->H' p=en (.lst ((hw l lo hi).map V.int))->Q (.ref p) H')
include T ai be aD bh in
theorem Qh (F:Fun K "heights_within" "Heights.heights_within" Cz f fd):Aq P w K mg base CX0 7 f fd ["self","low","high"] (Y6 K ad ac aa):=by
 exists F.ok Iq
 obtain⟨x,l,lo,hi,rfl,hP,h1,h2,h3,q⟩:=h;obtain⟨dx,b,c,t,o,hx,hB,hC,_⟩:=id hP;refine{_,(Ad (Am (Aw bh hr.m (tpa (Av be hr.m (pv 0) (tpa (pv 1) (tpa (pv 2) Aa))) (tpa (Av aD hr.m (pv 0) (tpa (pv 1) Aa)) Aa))))),?_};apply{x,dx,_,rfl,hx,rfl,?_};apply{x,dx,b,_,l,lo,hi,rfl,hx,rfl,hB,h1,h2,λH1 s1=>?_};apply{x,dx,_,rfl,s1 _ _ hx,rfl,?_};apply{x,dx,c,_,l,lo,rfl,s1 _ _ hx,rfl,rfl,hC.same s1,(),λH2 s2=>?_};rw[Me];apply{(l.drop lo).take (hi-lo),hgt l lo,rfl,by rw[gq];lia,λp H3 s3 hp0 hp=>?_};rw[Aao h1 h2] at hp;have s12:=s1.trans s2;exact q p H3 (s12.trans s3) (s12.free hp0) hp
def rL (l:Za5)(lo hi:Nat)(h:Int):Option Nat->Prop
 |some j=>lo<j/\j<=hi/\hgt l j=h/\∀i,lo<i->i<j->hgt l i≠h
 |none=>∀i,lo<i->i<=hi->hgt l i≠h
def Ajy (l:Za5)(lo hi:Nat)(h:Int):Option Nat->Prop
 |some j=>lo<j/\j<=hi/\hgt l j=h/\∀i,j<i->i<=hi->hgt l i≠h
 |none=>∀i,lo<i->i<=hi->hgt l i≠h
def gC:Option Nat->V
 |some j=>.int (j:Nat)
 |none=>.non
theorem Ul:∀{ns:List Int} {x:Int},x∈ns->∃j:Nat,ns[j]?=en x/\∀i:Nat,i<j->ns[i]?≠en x
 |y::ns,x,h=>by
  by_cases e:y=x
  .exact{0,by rw[e];rfl,λi hi=>absurd hi (xc _)}
  .obtain⟨j,h1,h2⟩:=Ul (List.mem_of_ne_of_mem (λz=>e z.symm) h)
   refine{j+1,h1,λi hi=>?_}
   cases i with
   |zero=>exact λz=>e (fk z)
   |succ i=>exact h2 i ()
theorem rP {w:List Int}{e:Int}:inV (.int e) (w.map V.int)=decide (e∈w):=by
 unfold inV;rw[List.any_map]
 by_cases h:e∈w
 .rw[decide_eq_true h,FS]
  exact{e,h,by simp[eqV]}
 .rw[decide_eq_false h]
  refine vb.mpr λhc=>?_;obtain⟨x,hx,hxe⟩:=FS.mp hc;have:x=e:=by simpa [eqV] using hxe
  exact h (this▸hx)
inductive tE (K:e7)(CB CC CP:fe)(vs:List V)(H:Hp)(Q:VK)(E:XK):Prop|mk(x:fe)(l:Za5)(lo hi:Nat)(h:Int)(_:vs=[.ref x,.int lo,.int hi,.int h])(_:Bo K CB CC CP H x l)(_:lo<=hi)(_:hi<=l.9)(_:hi-lo<=1000)(_:∀r H',rL l lo hi h r->Ag H H'->Q (gC r) H')
variable (aQ:T.ZM aa "heights_within" 7 ["self","low","high"] (Y6 K ad ac aa))
include T ai aQ in
theorem Ql (F:Fun K "next_within" "Heights.next_within" Du f fd):Aq P w K mg base CX0 8 f fd ["self","low","high","height"] (tE K ad ac aa):=by
 exists F.ok Fv
 obtain⟨x,l,lo,hi,h,rfl,hP,h1,h2,h3,q⟩:=h;obtain⟨dx,b,c,t,o,hx,_⟩:=id hP;refine{_,(Ab (tst 4 Fv.nd (Av aQ hr.m (pv 0) (tpa (pv 1) (tpa (pv 2) Aa)))) (Ad (Am (Ci (Iu Pr (pv 3) (pv 4) rfl) (Ak Bd (Ak Bd (pv 1) Af) (Cj gl AO AN jO (pv 4) (tpa (pv 3) Aa))) C9)))),?_}
 apply{x,dx,_,rfl,hx,rfl,?_};apply{x,l,lo,hi,rfl,hP,h1,h2,h3,λp H1 s1 hp0 hp=>?_};apply{p,_,rfl,.inl (SqL.of hp),rfl,Mn _,?_};rw[rP]
 by_cases hm:h∈hw l lo hi
 .rw[decide_eq_true hm,show(if NH=NG then !NG else NG)=NG by decide]
  obtain⟨j,hj,hno⟩:=Ul hm;have hjl:=Bt hj;rw[Xm] at hjl;apply{.inl {rfl,_,SqL.of hp},?_};apply{p,_,h,j,rfl,rfl,hp,hj,hno,?_};k_is;rw[Aae hjl] at hj;have:=q (en (lo+j+1)) H1 {(),(),fk hj,λi hi1 hi2 he=>?_} s1
  .rw[show gC (en (lo+j+1))=V.int ((lo:Int)+1+(j:Int)) by show V.int _=_;congr 1;lia] at this
   exact this
  .refine hno (i-lo-1) () ?_
   rw[Aae (),show lo+(i-lo-1)+1=i by lia,he]
 .rw[decide_eq_false hm,show(if NH=NG then !NH else NH)=NH by decide]
  k_is;exact q p9 H1 (λi hi1 hi2 he=>hm (he▸Uk hi1 hi2)) s1
inductive sL (K:e7)(CB CC CP:fe)(vs:List V)(H:Hp)(Q:VK)(E:XK):Prop|mk(x:fe)(l:Za5)(lo hi:Nat)(h:Int)(_:vs=[.ref x,.int lo,.int hi,.int h])(_:Bo K CB CC CP H x l)(_:lo<=hi)(_:hi<=l.9)(_:hi-lo<=1000)(_:∀r H',Ajy l lo hi h r->Ag H H'->Q (gC r) H')
include T ai aQ in
theorem Qk (F:Fun K "last_within" "Heights.last_within" Dw f fd):Aq P w K mg base CX0 8 f fd ["self","low","high","height"] (sL K ad ac aa):=by
 exists F.ok Fy
 obtain⟨x,l,lo,hi,h,rfl,hP,h1,h2,h3,q⟩:=h;obtain⟨dx,b,c,t,o,hx,_⟩:=id hP;refine{_,(Ab (tst 4 Fy.nd (Adc (Av aQ hr.m (pv 0) (tpa (pv 1) (tpa (pv 2) Aa))))) (Ad (Am (Ci (Iu Pr (pv 3) (pv 4) rfl) (Ak B0 (pv 2) (Cj gl AO AN jO (pv 4) (tpa (pv 3) Aa))) C9)))),?_}
 apply{x,dx,_,rfl,hx,rfl,?_};apply{x,l,lo,hi,rfl,hP,h1,h2,h3,λp H1 s1 hp0 hp=>?_};apply{p,_,rfl,SqL.of hp,λp2 hp2=>?_};have t2:=s1.trans (Al (o:=.lst ((hw l lo hi).map V.int).reverse) hp2);have e2:upd H1 p2 (.lst ((hw l lo hi).map V.int).reverse) p2=en (.lst ((hw l lo hi).reverse.map V.int)):=by rw[Ae,FP]
 generalize upd H1 p2 _=H2 at *;apply{p2,_,rfl,.inl (SqL.of e2),rfl,Mn _,?_};rw[rP]
 by_cases hm:h∈(hw l lo hi).reverse
 .rw[decide_eq_true hm,show(if NH=NG then !NG else NG)=NG by decide]
  obtain⟨j,hj,hno⟩:=Ul hm;have hjl:=Bt hj;rw[EI,Xm] at hjl;have rev:∀k,k<hi-lo->(hw l lo hi).reverse[k]?=en (hgt l (hi-k)):=λk hk=>by
   rw[List.getElem?_reverse (by rw[Xm];exact hk),Xm,Aae (),show lo+(hi-lo-1-k)+1=hi-k by lia]
  apply{.inl {rfl,_,SqL.of e2},?_};apply{p2,_,h,j,rfl,rfl,e2,hj,hno,?_};k_is;rw[rev j hjl] at hj;have:=q (en (hi-j)) H2 {(),(),fk hj,λi hi1 hi2 he=>?_} t2
  .rw[show gC (en (hi-j))=V.int ((hi:Int)-(j:Int)) by show V.int _=_;congr 1;lia] at this
   exact this
  .refine hno (hi-i) () ?_
   rw[rev _ (),show hi-(hi-i)=i by lia,he]
 .rw[decide_eq_false hm,show(if NH=NG then !NH else NH)=NH by decide]
  k_is;exact q p9 H2 (λi hi1 hi2 he=>hm (FO.mpr (he▸Uk hi1 hi2))) t2
inductive Ab2(vs:List V)(H:Hp)(Q:VK)(E:XK):Prop|mk(i:Int)(_:vs=[.int i])(_:Q .non H)
include T aO in
theorem Sx (F:Fun K "check_height" "check_height" Hv f fd):Aq P w K mg base CX0 3 f fd ["height"] Ab2:=by
 exists F.ok S3
 obtain⟨i,rfl,q⟩:=h;refine⟨_,(Ad (Bl (Cw (B4 (Aw aO hr.m (tpa (pv 0) Aa)))) (Ad C7)
  Au)),?_⟩
 apply{.int i,rfl,Je _,?_};k_is;exact q
inductive kP (K:e7)(CB CC CP:fe)(vs:List V)(H:Hp)(Q:VK)(E:XK):Prop|mk(x:fe)(l:Za5)(p:Nat)(h:Int)(_:vs=[.ref x,.int p,.int h])(_:Bo K CB CC CP H x l)(_:p<=l.9)(_:∀r H',rL l p l.9 h r->Ag H H'->Q (gC r) H')
def cov (lo hi i:Nat):Nat:=if i<pM lo hi then loN lo i else hi
theorem Aan {lo hi i:Nat}(h:i<pM lo hi):cov lo hi i=loN lo i/\cov lo hi (i+1)=hiN lo hi i:=by
 refine{if_pos h,?_};unfold cov
 by_cases h2:i+1<pM lo hi
 .rw[if_pos h2,Ru h2]
 .rw[if_neg h2,Ri ()]
variable (bi:T.ZC "check_height" 3 ["height"] Ab2) (aR:T.ZM aa "parts" 2 ["self","low","high"] (sZ K ad ac aa)) (bj:T.ZM aa "may_meet" 2 ["self","low","height"] (Po K ad ac aa))
include T aA ai bi aR bj in
theorem Wc (F:Fun K "next_at" "Heights.next_at" Fu f fd)(ci:T.ZM aa "next_within" 8 ["self","low","high","height"] (tE K ad ac aa)):Aq P w K mg base CX0 9 f fd ["self","place","height"] (kP K ad ac aa):=by
 exists F.ok Dg
 obtain⟨x,l,p,h,rfl,hP,hp,q⟩:=h;obtain⟨dx,b,c,t,o,hx,_,_,_,_,hl8⟩:=id hP;refine⟨_,(Ab (As (Aw aA hr.m (tpa (pv 1) (tpa (tfl (pv 0)) Aa)))) (Ab (As (Aw bi hr.m (tpa (pv 2) Aa))) (Ab (Cq im rfl (Ey (Av aR hr.m (pv 0) (tpa (pv 1) (tpa (tfl (pv 0)) Aa)))) (Kt rfl (B6 (tgn 3 Dg.nd) (B6 (tgn 4 Dg.nd) Hd))) (Ab (tst 5 Dg.nd (Ci (B4 (Av bj hr.m (pv 0) (tpa (pv 3) (tpa (pv 2) Aa)))) (Av ci hr.m (pv 0) (tpa (pv 3) (tpa (pv 4) (tpa (pv 2) Aa)))) C9)) (Ad (Bl (Nk (gJ (pv 5))) (Ad (Am (pv 5)))
  Au)))) (Ad (Am C9))))),?_⟩
 apply{x,aa,dx,_,_,rfl,hx,ai.cl,ai.c9,rfl,?_};apply{p,_,rfl,(),(),?_};apply{h,rfl,?_};apply{x,dx,_,rfl,hx,rfl,?_};apply{x,aa,dx,_,_,rfl,hx,ai.cl,ai.c9,rfl,?_};apply{x,l,p,(l.9:Int),rfl,hP,EJ _,λpa as H1 s1 hpa0 hpa hN=>?_};rw[gr] at hN;have hP1:=hP.same s1;have hal:as.9=pM p l.9:=by rw[hN.1,Cp,Mh]
 refine{pa,rfl,{_,SqL.of hpa},?_};refine vF (as:=as) (xs:=nV (pLo p l.9)) (ys:=nV (pHi p l.9)) hN.1 (by rw[hal,Cp,Tw]) (λi σ H2=>(∃v3 v4 v5:Option V,σ=[en (.ref x),en (.int (p:Nat)),en (.int h),v3,v4,v5])/\Ag H1 H2/\∀k,p<k->k<=cov p l.9 i->hgt l k≠h) ?_ (λi σ H2 _ h=>SqL.of (h.2.1 _ _ hpa)) (λi t x y σ H2 e1 e2 e3 h=>h.2.1 _ _ (hN.2 i t x y e1 e2 e3).2) ?_ ?_
 .refine{{_,_,_,rfl},Ag.refl _,λk hk1 hk2=>?_}
  unfold cov at hk2;split at hk2
  .exact absurd hk2 (by show ¬ k<=p;lia)
  .rename_i hz
   have:¬ p<l.9:=λh=>hz (N1 h).2;lia
 .rintro i y y2 σ H2 hy hy2 ⟨⟨v3,v4,v5,rfl⟩,s2,hno⟩
  have hi:i<pM p l.9:=by have:=Bt hy;rwa [Cp,Mh] at this
  obtain⟨ok1,ok2,ok3,ok4,ok5,ok6⟩:=Tv hi;obtain⟨cv1,cv2⟩:=Aan hi;unfold nV pLo at hy;unfold nV pHi at hy2;rw[fg,fg,gn hi] at hy hy2;obtain rfl:V.int ((loN p i:Nat):Int)=y:=fk hy;obtain rfl:V.int ((hiN p l.9 i:Nat):Int)=y2:=fk hy2;have hP2:=hP1.same s2;have hx2:=s2 _ _ (s1 _ _ hx);have go:(∀k,loN p i<k->k<=hiN p l.9 i->hgt l k≠h)->∀k,p<k->k<=cov p l.9 (i+1)->hgt l k≠h:=λhh k k1 k2=>by
   by_cases k3:k<=loN p i
   .exact hno k k1 (by rw[cv1];exact k3)
   .exact hh k () (by rw[<-cv2];exact k2)
  apply{x,dx,_,rfl,hx2,rfl,?_};apply{x,l,loN p i,h,rfl,hP2,(),λbb hbb=>?_}
  cases bb with
  |true=>
   apply{x,dx,_,rfl,hx2,rfl,?_};apply{x,l,loN p i,hiN p l.9 i,h,rfl,hP2,(),ok3,(),λr H3 hr3 s3=>?_}
   cases r with
   |some j=>
    k_is;obtain⟨j1,j2,j3,j4⟩:=hr3;refine q (en j) H3 {(),(),j3,λi' i1 i2 he=>?_} ((s1.trans s2).trans s3)
    by_cases k3:i'<=loN p i
    .exact hno i' i1 (by rw[cv1];exact k3) he
    .exact j4 i' () i2 he
   |none=>
    k_is;rw[show(!decide (gC p9=V.non))=NH from rfl];k_is;exact{{_,_,_,rfl},s2.trans s3,go hr3}
  |false=>
   k_is;rw[show(!decide (V.non=V.non))=NH from rfl];apply{{_,_,_,rfl},s2,go λk k1 k2=>hbb rfl k () ?_};unfold Yd;lia
 .rintro σ H2 ⟨⟨v3,v4,v5,rfl⟩,s2,hno⟩
  rw[hal] at hno;apply q p9 H2 (λi i1 i2=>hno i i1 ?_) (s1.trans s2);unfold cov;rw[if_neg (m5 _)];exact i2
def rH (l:Za5)(p:Nat)(h:Int):Option Nat->Prop
 |some j=>j<p/\hgt l j=h/\∀i,j<i->i<p->hgt l i≠h
 |none=>∀i,i<p->hgt l i≠h
inductive lO (K:e7)(CB CC CP:fe)(vs:List V)(H:Hp)(Q:VK)(E:XK):Prop|mk(x:fe)(l:Za5)(p:Nat)(h:Int)(_:vs=[.ref x,.int p,.int h])(_:Bo K CB CC CP H x l)(_:p<=l.9)(_:∀r H',rH l p h r->Ag H H'->Q (gC r) H')
def wH (hi i:Nat):Nat:=if i=0 then hi else loN 0 (pM 0 hi-i)
theorem xD {hi i:Nat}(h:i<pM 0 hi):wH hi i=hiN 0 hi (pM 0 hi-1-i)/\wH hi (i+1)=loN 0 (pM 0 hi-1-i):=by
 unfold wH;refine{?_,?_}
 .by_cases h0:i=0
  .rw[if_pos h0,Ri ()]
  .rw[if_neg h0,Ru (),show pM 0 hi-1-i+1=pM 0 hi-i by lia]
 .rw[if_neg (),show pM 0 hi-(i+1)=pM 0 hi-1-i by lia]
theorem Xi (l:Za5):hgt l 0=0:=by unfold hgt;simp
include T aA ai bi aR bj in
theorem Wb (F:Fun K "last_at" "Heights.last_at" F2 f fd)(cj:T.ZM aa "last_within" 8 ["self","low","high","height"] (sL K ad ac aa)):Aq P w K mg base CX0 9 f fd ["self","place","height"] (lO K ad ac aa):=by
 exists F.ok Dj
 obtain⟨x,l,p,h,rfl,hP,hp,q⟩:=h;obtain⟨dx,b,c,t,o,hx,_,_,_,_,hl8⟩:=id hP;refine⟨_,(Ab (As (Aw aA hr.m (tpa (pv 1) (tpa (tfl (pv 0)) Aa)))) (Ab (As (Aw bi hr.m (tpa (pv 2) Aa))) (Ab (Cq im rfl (Adv rfl T.eN (Av aR hr.m (pv 0) (tpa Af (tpa (Ak B0 (pv 1) Af) Aa)))) (Kt rfl (B6 (tgn 3 Dj.nd) (B6 (tgn 4 Dj.nd) Hd))) (Ab (tst 5 Dj.nd (Ci (B4 (Av bj hr.m (pv 0) (tpa (pv 3) (tpa (pv 2) Aa)))) (Av cj hr.m (pv 0) (tpa (pv 3) (tpa (pv 4) (tpa (pv 2) Aa)))) C9)) (Ad (Bl (Nk (gJ (pv 5))) (Ad (Am (pv 5)))
  Au)))) (Ad (Am (Ci (PW.pt (Rz (ttc Ga (pv 1) Af) (Ma (ttc C1 (pv 2) Af)))) Af C9)))))),?_⟩
 apply{x,aa,dx,_,_,rfl,hx,ai.cl,ai.c9,rfl,?_};apply{p,_,rfl,(),(),?_};apply{h,rfl,?_};apply{x,dx,_,rfl,hx,rfl,?_};apply{x,l,0,(p:Int)-1,rfl,hP,(),λpa as H1 s1 hpa0 hpa hN=>?_};rw[show((p:Int)-1).toNat=p-1 by lia] at hN;have hP1:=hP.same s1;have hal:as.9=pM 0 (p-1):=by rw[hN.1,Cp,Mh]
 refine{pa,_,rfl,SqL.of hpa,?_};rw[fb];refine rF (as:=as) (xs:=nV (pLo 0 (p-1))) (ys:=nV (pHi 0 (p-1))) hN.1 (by rw[hal,Cp,Tw]) (λi σ H2=>(∃v3 v4 v5:Option V,σ=[en (.ref x),en (.int (p:Nat)),en (.int h),v3,v4,v5])/\Ag H1 H2/\∀k,wH (p-1) i<k->k<p->hgt l k≠h) ?_ (λi σ H2 _ h=>SqL.of (h.2.1 _ _ hpa)) (λi j t x y σ H2 e1 e2 e3 h=>h.2.1 _ _ (hN.2 j t x y e1 e2 e3).2) ?_ ?_
 .refine{{_,_,_,rfl},Ag.refl _,λk hk1 hk2=>?_}
  have hk1:p-1<k:=hk1;lia
 .rintro i y y2 σ H2 hlt hy hy2 ⟨⟨v3,v4,v5,rfl⟩,s2,hno⟩
  rw[hal] at hlt hy hy2;obtain⟨j,hj⟩:∃j,pM 0 (p-1)-1-i=j:={_,rfl};have hi:j<pM 0 (p-1):=()
  obtain⟨cv1,cv2⟩:=xD hlt;rw[hj] at hy hy2 cv1 cv2;obtain⟨ok1,ok2,ok3,ok4,ok5,ok6⟩:=Tv hi;unfold nV pLo at hy;unfold nV pHi at hy2;rw[fg,fg,gn hi] at hy hy2;obtain rfl:V.int ((loN 0 j:Nat):Int)=y:=fk hy;obtain rfl:V.int ((hiN 0 (p-1) j:Nat):Int)=y2:=fk hy2;have hP2:=hP1.same s2;have hx2:=s2 _ _ (s1 _ _ hx);have go:(∀k,loN 0 j<k->k<=hiN 0 (p-1) j->hgt l k≠h)->∀k,wH (p-1) (i+1)<k->k<p->hgt l k≠h:=λhh k k1 k2=>by
   rw[cv2] at k1
   by_cases k3:k<=hiN 0 (p-1) j
   .exact hh k k1 k3
   .exact hno k (by rw[cv1];lia) k2
  apply{x,dx,_,rfl,hx2,rfl,?_};apply{x,l,loN 0 j,h,rfl,hP2,(),λbb hbb=>?_}
  cases bb with
  |true=>
   apply{x,dx,_,rfl,hx2,rfl,?_};apply{x,l,loN 0 j,hiN 0 (p-1) j,h,rfl,hP2,(),(),(),λr H3 hr3 s3=>?_}
   cases r with
   |some m=>
    k_is;obtain⟨j1,j2,j3,j4⟩:=hr3;refine q (en m) H3 {(),j3,λi' i1 i2 he=>?_} ((s1.trans s2).trans s3)
    by_cases k3:i'<=hiN 0 (p-1) j
    .exact j4 i' i1 k3 he
    .exact hno i' (by rw[cv1];lia) i2 he
   |none=>
    k_is;rw[show(!decide (gC p9=V.non))=NH from rfl];k_is;exact{{_,_,_,rfl},s2.trans s3,go hr3}
  |false=>
   k_is;rw[show(!decide (V.non=V.non))=NH from rfl];apply{{_,_,_,rfl},s2,go λk k1 k2=>hbb rfl k () ?_};unfold Yd;lia
 .rintro σ H2 ⟨⟨v3,v4,v5,rfl⟩,s2,hno⟩
  rw[hal] at hno;have hno:∀k,0<k->k<p->hgt l k≠h:=λk k1 k2=>by
   refine hno k ?_ k2;unfold wH;split
   .rename_i hz
    by_cases hp1:0<p-1
    .exact absurd hz (by have:=(N1 hp1).2;lia)
    .lia
   .rw[o8]
    exact k1
  apply Bq (λh1=>?_) (λh1=>?_)
  .apply Bq (λh2=>?_) (λh2=>?_)
   .k_is
    have h2:=V.int.inj h2;exact q (en 0) H2 {(),by rw[Xi,h2],hno} (s1.trans s2)
   .apply q p9 H2 (λi hi he=>?_) (s1.trans s2)
    by_cases i0:i=0
    .rw[i0,Xi] at he
     exact h2 (by rw[he])
    .exact hno i () hi he
  .k_is
   exact q p9 H2 (λi hi=>absurd hi ()) (s1.trans s2)
inductive Vc (K:e7)(CB CC CP:fe)(vs:List V)(H:Hp)(Q:VK)(E:XK):Prop|mk(x:fe)(l:Za5)(p:Nat)(_:vs=[.ref x,.int p])(_:Bo K CB CC CP H x l)(_:p<l.9)(_:Q (.bl (l.getD p NH)) H)
include T ai in
theorem Q8 (F:Fun K "is_opening" "Pairs.is_opening" E7 f fd)(ck:T.ZM ad "bit" 4 ["self","place"] (Ae6 K ad)):Aq P w K mg base CX0 5 f fd ["self","place"] (Vc K ad ac aa):=by
 exists F.ok My
 obtain⟨x,l,p,rfl,⟨dx,b,c,t,o,hx,hB,_⟩,hp,q⟩:=h;refine{_,(Ad (Am (tpc C1 (Av ck hr.m (tfl (pv 0)) (tpa (pv 1) Aa)) Af))),?_};apply{x,aa,dx,_,.ref b,rfl,hx,ai.cl,ai.d4,rfl,?_};obtain⟨db,tb,hb1,_⟩:=id hB;apply{b,db,_,rfl,hb1,rfl,?_};apply{b,l,p,rfl,hB,hp,?_};k_is
 cases hg:l.getD p NH with
 |true=>
  rw[hg] at q;exact q
 |false=>
  rw[hg] at q;exact q
theorem Aa3 {l:Za5}(hV:Vs 0 l){i:Nat}(hi:i<=l.9):0<=hgt l i:=by
 obtain⟨h,e,_⟩:=Vv hV i hi;lia
theorem rQ {l:Za5}(hV:Vs 0 l):hgt l l.9=0:=by
 obtain⟨h,e,v,_⟩:=Vv hV l.9 (fm _);rw[kh (fm _)] at v;have v:h=0:=v;lia
theorem O9 {l:Za5}{i:Nat}(hi:i<l.9):hgt l (i+1)=hgt l i+if l.getD i NH then 1 else -1:=by
 have h:=K8 (l:=l) (fc hi);rw[h];unfold l8;rw[fc hi];rfl
theorem Ahk {l:Za5}(hV:Vs 0 l){p:Nat}(hp:p<l.9)(ho:l.getD p NH=NG):¬ rL l p l.9 (hgt l p) p9:=λhn=>by
 have up:∀d,p+1+d<=l.9->hgt l p<hgt l (p+1+d):=λd=>by
  induction d with
  |zero=>
   intro _;have:=O9 hp;rw[ho] at this;have this:hgt l (p+1)=hgt l p+1:=this;show hgt l p<hgt l (p+1);lia
  |succ d ih=>
   intro hd;have h1:=ih ();have h2:=O9 (l:=l) (i:=p+1+d) ();have h3:=hn (p+1+(d+1)) () hd;have e:p+1+(d+1)=p+1+d+1:=()
   rw[e] at h3 ⊢;split at h2<;>lia
 have h1:=up (l.9-(p+1)) ();rw[show p+1+(l.9-(p+1))=l.9 by lia,rQ hV] at h1;have:=Aa3 hV (i:=p) ();lia
theorem Abc {l:Za5}{p:Nat}(hp:p<=l.9){m:Int}(h0:0<=m)(hm:m<hgt l p):¬ rH l p m p9:=λhn=>by
 have up:∀i,i<=p->hgt l i<=m:=λi=>by
  induction i with
  |zero=>
   intro _;rw[Xi];exact h0
  |succ i ih=>
   intro hi;have h1:=ih ();have h2:=O9 (l:=l) (i:=i) ();have h3:=hn i ();split at h2<;>lia
 have:=up p (fm _);lia
inductive U8 (K:e7)(CB CC CP:fe)(vs:List V)(H:Hp)(Q:VK)(E:XK):Prop|mk(x:fe)(l:Za5)(p:Nat)(_:vs=[.ref x,.int p])(_:Bo K CB CC CP H x l)(_:p<l.9)(_:∀(j:Nat) H',j<=l.9->Ag H H'->Q (.int (j:Nat)) H')
variable (bn:T.ZM aa "is_opening" 5 ["self","place"] (Vc K ad ac aa)) (bo:T.ZM aa "next_at" 9 ["self","place","height"] (kP K ad ac aa)) (bp:T.ZM aa "last_at" 9 ["self","place","height"] (lO K ad ac aa))
include T ai aD bn bo bp in
theorem Wd (F:Fun K "partner" "Heights.partner" Fx f fd):Aq P w K mg base CX0 10 f fd ["self","place"] (U8 K ad ac aa):=by
 exists F.ok N8
 obtain⟨x,l,p,rfl,hP,hp,q⟩:=h;obtain⟨dx,b,c,t,o,hx,_,hC,_,hV,hl8⟩:=id hP;refine⟨_,(Ab (Bl (B4 (Av bn hr.m (pv 0) (tpa (pv 1) Aa))) (Ad (Am (Ak B0 (Av bo hr.m (pv 0) (tpa (pv 1) (tpa (Av aD hr.m (pv 0) (tpa (pv 1) Aa)) Aa))) Af)))
  Au) (Ad (Am (Av bp hr.m (pv 0) (tpa (Ak Bd (pv 1) Af) (tpa (Av aD hr.m (pv 0) (tpa (Ak Bd (pv 1) Af) Aa)) Aa)))))),?_⟩
 apply{x,dx,_,rfl,hx,rfl,?_};apply{x,l,p,rfl,hP,hp,?_};have hs:=O9 hp
 cases hg:l.getD p NH with
 |true=>
  apply{x,dx,_,rfl,hx,rfl,?_};apply{x,dx,_,rfl,hx,rfl,?_};apply{x,dx,c,_,l,p,rfl,hx,rfl,rfl,hC,(),λH1 s1=>?_};rw[Me];apply{x,l,p,hgt l p,rfl,hP.same s1,(),λr H2 hr2 s2=>?_}
  cases r with
  |none=>exact absurd hr2 (Ahk hV hp hg)
  |some j=>
   obtain⟨j',rfl⟩:∃j',j=j'+1:={j-1,by have:=hr2.1;lia};rw[show gC (en (j'+1))=V.int ((j':Int)+1) by show V.int _=_;congr 1];k_is;rw[show((j':Int)+1-1)=(j':Int) by lia];exact q j' H2 (by have:=hr2.2.1;lia) (s1.trans s2)
 |false=>
  apply{x,dx,_,rfl,hx,rfl,?_};apply{x,dx,_,rfl,hx,rfl,?_};apply{x,dx,c,_,l,p+1,by rw[show((p+1:Nat):Int)=(p:Int)+1 by lia];rfl,hx,rfl,rfl,hC,(),λH1 s1=>?_};rw[Me];apply{x,l,p+1,hgt l (p+1),by rw[show((p+1:Nat):Int)=(p:Int)+1 by lia];rfl,hP.same s1,(),λr H2 hr2 s2=>?_};rw[hg] at hs;have hs:hgt l (p+1)=hgt l p + -1:=hs
  cases r with
  |none=>exact absurd (λi hi=>hr2 i ()) (Abc (m:=hgt l (p+1)) (gy hp) (Aa3 hV hp) ())
  |some j=>exact q j H2 (by have:=hr2.1;lia) (s1.trans s2)
inductive sE (K:e7)(CB CC CP:fe)(vs:List V)(H:Hp)(Q:VK)(E:XK):Prop|mk(x:fe)(l:Za5)(lo hi:Nat)(_:vs=[.ref x,.int lo,.int hi])(_:Bo K CB CC CP H x l)(_:lo<l.9)(_:∀b:Bool,(b=NG->lo=lo/256*256/\hi=Yd l (lo/256))->Q (.bl b) H)
include T ai aE aU in
theorem Qn (F:Fun K "is_stretch" "Heights.is_stretch" D0 f fd):Aq P w K mg base CX0 2 f fd ["self","low","high"] (sE K ad ac aa):=by
 exists F.ok Gb
 obtain⟨x,l,lo,hi,rfl,hP,hl,q⟩:=h;obtain⟨dx,b,c,t,o,hx,_⟩:=id hP;refine{_,(Ab (tst 3 Gb.nd (Av aE hr.m (pv 0) (tpa (pv 1) Aa))) (Ad (Am (fO (tpc C1 (pv 1) (Av aU hr.m (pv 0) (tpa (pv 3) Aa))) (iN (tpc C1 (pv 2) (Av aU hr.m (pv 0) (tpa (Ak Bd (pv 3) Af) Aa)))))))),?_}
 apply{x,dx,_,rfl,hx,rfl,?_};apply{.ref x,lo,rfl,?_};apply{x,dx,_,rfl,hx,rfl,?_};apply{x,l,lo/256,rfl,hP,?_};apply Bq (λh1=>?_) (λ_=>q NH λe=>by cases e);have h1:lo=lo/256*256:=by
  have:=V.int.inj h1;lia
 apply{x,dx,_,rfl,hx,rfl,?_};apply{x,l,lo/256+1,by rw[show((lo/256+1:Nat):Int)=((lo/256:Nat):Int)+1 by lia];rfl,hP,?_};apply q _ λhb=>{h1,?_};have:=V.int.inj (of_decide_eq_true hb);unfold Yd;lia
inductive mQ (K:e7)(CB CC CP:fe)(vs:List V)(H:Hp)(Q:VK)(E:XK):Prop|mk(x:fe)(l:Za5)(lo hi:Nat)(_:vs=[.ref x,.int lo,.int hi])(_:Bo K CB CC CP H x l)(_:lo<hi)(_:hi<=l.9)(_:hi-lo<=1000)(_:∀m H',Mp (hw l lo hi) m->Ag H H'->Q (.int m) H')
include T ai aE aQ in
theorem Qj (F:Fun K "least_within" "Heights.least_within" Dl f fd)(cm:T.ZM aa "is_stretch" 2 ["self","low","high"] (sE K ad ac aa)):Aq P w K mg base CX0 8 f fd ["self","low","high"] (mQ K ad ac aa):=by
 exists F.ok Jp
 obtain⟨x,l,lo,hi,rfl,hP,h1,h2,h3,q⟩:=h;obtain⟨dx,b,c,t,o,hx,_,_,⟨rs,ht,hrl,hrs⟩,_,hl8⟩:=id hP;refine⟨_,(Ab (Bl (B4 (Av cm hr.m (pv 0) (tpa (pv 1) (tpa (pv 2) Aa)))) (Ad (Am (tix Bh (tix Bh (tfl (pv 0)) (Av aE hr.m (pv 0) (tpa (pv 1) Aa))) Af)))
  Au) (Ad (Am (Ao (P0 rfl) (by rfl) T.dC Xs (tpa (Av aQ hr.m (pv 0) (tpa (pv 1) (tpa (pv 2) Aa))) Aa))))),?_⟩
 apply{x,dx,_,rfl,hx,rfl,?_};apply{x,l,lo,hi,rfl,hP,(),λbb hbb=>?_}
 cases bb with
 |true=>
  obtain⟨g1,g2⟩:=hbb rfl;apply{x,aa,dx,_,_,rfl,hx,ai.cl,ai.dq,rfl,?_};apply{x,dx,_,rfl,hx,rfl,?_};apply{.ref x,lo,rfl,?_};have hj:lo/256<rs.9:=()
  obtain⟨mn,mx,hr1,hmn,hmx⟩:=hrs _ _ (fc hj);rw[sF (),<-g1,<-g2] at hmn;apply Cc (SqT.of ht) (Bi (by rw[fg,fc hj];rfl)) ?_;apply Cc (SqT.of hr1) (v:=.int mn) rfl ?_;exact q mn H hmn (Ag.refl _)
 |false=>
  apply{x,dx,_,rfl,hx,rfl,?_};apply{x,l,lo,hi,rfl,hP,(),h2,h3,λp H1 s1 hp0 hp=>?_};apply{p,_,rfl,SqL.of hp,λe=>?_,λm hm=>?_}
  .have:=congrArg DW e
   rw[Xm,kl] at this;lia
  .exact q m H1 hm s1
def Afj (l:Za5)(lo hi:Nat)(m:Int):Prop:=(∃i,lo<=i/\i<=hi/\hgt l i=m)/\∀i,lo<=i->i<=hi->m<=hgt l i
inductive nK (K:e7)(CB CC CP:fe)(vs:List V)(H:Hp)(Q:VK)(E:XK):Prop|mk(x:fe)(l:Za5)(lo hi:Nat)(_:vs=[.ref x,.int lo,.int hi])(_:Bo K CB CC CP H x l)(_:lo<=hi)(_:hi<=l.9)(_:∀m v tp H',Afj l lo hi m->(m=hgt l lo->v=.int (lo:Nat))->(m≠hgt l lo->∃j,v=.int (j:Nat)/\rL l lo l.9 m (en j))->Ag H H'->H' tp=en (.tup [.int m,v])->Q (.ref tp) H')
def Afo (l:Za5)(lo hi i:Nat)(ms:List Int):Prop:=ms.9=i/\∀(j:Nat) m,ms[j]?=en m->Mp (hw l (loN lo j) (hiN lo hi j)) m
theorem vY {l:Za5}{lo hi:Nat}{ms:List Int}(h:Afo l lo hi (pM lo hi) ms){m:Int}(hlh:lo<=hi)(hm:Mp (hgt l lo::ms) m):Afj l lo hi m:=by
 have cover:∀d i,i<pM lo hi->i+d=pM lo hi->∀k,loN lo i<k->k<=hi->∃j,i<=j/\j<pM lo hi/\loN lo j<k/\k<=hiN lo hi j:=λd=>by
  induction d with
  |zero=>intro i h1 h2;lia
  |succ d ih=>
   intro i h1 h2 k k1 k2
   by_cases k3:k<=hiN lo hi i
   .exact{i,fm _,h1,k1,k3}
   .by_cases h3:i+1<pM lo hi
    .obtain⟨j,a1,a2,a3,a4⟩:=ih (i+1) h3 () k (by rw[<-Ru h3];lia) k2
     exact{j,(),a2,a3,a4}
    .rw[Ri (show i+1=pM lo hi by lia)] at k3
     lia
 refine{?_,λi i1 i2=>?_}
 .rcases i5.mp hm.1 with e|e
  .exact{lo,fm _,hlh,e.symm}
  .obtain⟨j,hj⟩:=xp e
   have hjl:=Bt hj;rw[h.1] at hjl;obtain⟨ok1,ok2,ok3,_⟩:=Tv hjl;obtain⟨i,a1,a2,a3⟩:=Aki (h.2 j m hj).1;exact{i,(),(),a3}
 .by_cases e:i=lo
  .rw[e]
   exact hm.2 _ gt
  .have hlt:lo<hi:=()
   obtain⟨j,_,j2,j3,j4⟩:=cover (pM lo hi) 0 (N1 hlt).2 (mz _) i (by show lo<i;lia) i2;have hj:ms[j]?=en (ms[j]'(by rw[h.1];exact j2)):=fc _;have h1:=(h.2 j _ hj).2 _ (Uk (l:=l) j3 j4);have h2:=hm.2 _ (gw _ (ip hj));exact ww h2 h1
include T aV ai aD aR bo in
theorem Wh (F:Fun K "lowest" "Heights.lowest" Eh f fd)(cn:T.ZM aa "least_within" 8 ["self","low","high"] (mQ K ad ac aa)):Aq P w K mg base CX0 10 f fd ["self","low","high"] (nK K ad ac aa):=by
 exists F.ok Ft
 obtain⟨x,l,lo,hi,rfl,hP,h1,h2,q⟩:=h;obtain⟨dx,b,c,t,o,hx,_,hC,_,hV,hl8⟩:=id hP;refine{_,(Ab (As (Aw aV hr.m (tpa (pv 1) (tpa (pv 2) (tpa (tfl (pv 0)) Aa))))) (Ab (tst 3 Ft.nd (Av aD hr.m (pv 0) (tpa (pv 1) Aa))) (Ab (tst 4 Ft.nd (Ao (P0 rfl) (by rfl) T.dC Xs (tpa (Ak Jg (Ay (tpa (pv 3) Aa)) (qT rfl M6 (Ey (Av aR hr.m (pv 0) (tpa (pv 1) (tpa (pv 2) Aa)))) (λ_ _ _ _=>Cf) (λ_ _ _ _=>(Av cn hr.m (pv 2) (tpa (pv 0) (tpa (pv 1) Aa)))))) Aa))) (Ad (Am (Kk (tpa (pv 4) (tpa (Ci (ttc C1 (pv 4) (pv 3)) (pv 1) (Av bo hr.m (pv 0) (tpa (pv 1) (tpa (pv 4) Aa)))) Aa)))))))),?_}
 apply{x,aa,dx,_,_,rfl,hx,ai.cl,ai.c9,rfl,?_};apply{lo,hi,_,rfl,(),(),(),?_}
 .apply{x,dx,_,rfl,hx,rfl,?_};apply{x,dx,c,_,l,lo,rfl,hx,rfl,rfl,hC,(),λH1 s1=>?_};rw[Me];have hP1:=hP.same s1;have hx1:=s1 _ _ hx;apply{few (by simp),λa1 ha1=>?_};obtain⟨t2,e1⟩:=Ar (o:=.lst [V.int (hgt l lo)]) ha1;have s2:=s1.trans t2;generalize upd H1 a1 _=H2 at *;have hx2:=s2 _ _ hx;have hP2:=hP.same s2;apply{x,dx,_,rfl,hx2,rfl,?_};apply{x,l,lo,(hi:Int),rfl,hP2,(),λpa as H3 s3 hpa0 hpa hN=>?_};rw[gr] at hN;have hal:as.9=pM lo hi:=by rw[hN.1,Cp,Mh]
  have hP3:=hP2.same s3;have hx3:=s3 _ _ hx2;have s13:=s2.trans s3;apply{pa,rfl,{_,SqL.of hpa},?_};refine wD (as:=as) (xs:=nV (pLo lo hi)) (ys:=nV (pHi lo hi)) hN.1 (by rw[hal,Cp,Tw]) (SqL.of hpa) (λi t x y g1 g2 g3=>(hN.2 i t x y g1 g2 g3).2) (λD i zs H'=>∃ms:List Int,zs=ms.map V.int/\Afo l lo hi i ms) (λD H' _ _=>{[],rfl,rfl,λj m e=>by cases e}) (λD i zs H' us o _ h=>h) (λD i zs H' hi h=>?_) (λD i zs H' H'' _ h=>h) ?_ ?_
  .obtain⟨ms,rfl,hms,_⟩:=h
   rw[fb,hms];rw[hal] at hi;unfold pM at hi;split at hi
   .exact Ai ()
   .lia
  .intro D i zs y y2 H4 A R hy hy2 s4 _ _ hPv _ hA
   obtain⟨ms,rfl,hms,hms2⟩:=hPv;have hii:i<pM lo hi:=by have:=Bt hy;rwa [Cp,Mh] at this
   obtain⟨ok1,ok2,ok3,ok4,ok5,ok6⟩:=Tv hii;unfold nV pLo at hy;unfold nV pHi at hy2;rw[fg,fg,gn hii] at hy hy2;obtain rfl:V.int ((loN lo i:Nat):Int)=y:=fk hy;obtain rfl:V.int ((hiN lo hi i:Nat):Int)=y2:=fk hy2;apply{x,dx,_,rfl,s4 _ _ hx3,rfl,?_};apply{x,l,loN lo i,hiN lo hi i,rfl,hP3.same s4,ok2,(),(),λm H5 hm s5=>?_};refine hA _ _ s5 {ms++[m],by rw[ge];rfl,by rw[fq,hms];rfl,λj m' e=>?_}
   by_cases hj:j<ms.9
   .rw[gv hj] at e
    exact hms2 j m' e
   .have hj2:=Bt e
    rw[fq] at hj2;have hj3:j=ms.9:=by simp at hj2;lia
    subst hj3;rw[ig (fm _),o8] at e;obtain rfl:m=m':=fk e;rw[hms];exact hm
  .intro D zs H4 hD s4 hPv hD4
   obtain⟨ms,rfl,hms⟩:=hPv;rw[hal] at hms;have s14:=s13.trans s4;have e14:=s4 _ _ (s3 _ _ e1);have hml:ms.9<=100:=by
    rw[hms.1];unfold pM;split<;>lia
   apply{a1,D,_,_,rfl,rfl,e14,hD4,gy (Ai (by rw[fb,ii];lia)),λa2 ha2=>?_};have t5:=Al (o:=.lst ([V.int (hgt l lo)]++ms.map V.int)) ha2;have e5:upd H4 a2 (.lst ([V.int (hgt l lo)]++ms.map V.int)) a2=en (.lst ((hgt l lo::ms).map V.int)):=Ae;have s15:=s14.trans t5;generalize upd H4 a2 _=H5 at *;apply{a2,_,rfl,SqL.of e5,(λe=>nomatch e),λm hm=>?_};have hlow:=vY hms h1 hm;apply Bq (λh3=>?_) (λh3=>?_)
   .have h3:=V.int.inj h3
    apply{few (by simp),λtp htp=>?_};exact q m _ tp _ hlow (λ_=>rfl) (λh=>absurd h3 h) (s15.trans (Al htp)) Ae
   .have h3:m≠hgt l lo:=λe=>h3 (congrArg V.int e)
    apply{x,dx,_,rfl,s15 _ _ hx,rfl,?_};apply{x,l,lo,m,rfl,hP.same s15,(),λr H6 hr6 s6=>?_}
    cases r with
    |none=>
     obtain⟨⟨i,i1,i2,i3⟩,_⟩:=hlow;exact absurd i3 (hr6 i (by
      by_cases e:i=lo
      .exact absurd (by rw[<-i3,e]) h3
      .lia) ())
    |some j=>
     apply{few (by simp),λtp htp=>?_};exact q m _ tp _ hlow (λh=>absurd h h3) (λ_=>⟨j,rfl,hr6⟩) ((s15.trans s6).trans (Al htp)) Ae
inductive Nj (K:e7)(CB CC CP:fe)(ts:List Tb)(vs:List V)(H:Hp)(Q:VK)(E:XK):Prop|mk(x:fe)(l:Za5)(n t:Nat)(_:vs=[.ref x,.int n])(_:Bo K CB CC CP H x l)(_:Tbs ts H)(_:(occ NG l l.9)[n]?=en t)(_:∀H',SmT ts H H'->Q (.int t) H')
include T ai in
theorem Wr (F:Fun K "opening" "Pairs.opening" G3 f fd)(cp:T.ZM ac "place_of" 5 ["self","bit","nth"] (Z2 K ac ts)):Aq P w K mg base CX0 6 f fd ["self","number"] (Nj K ad ac aa ts):=by
 exists F.ok R8
 obtain⟨x,l,n,t,rfl,⟨dx,b,c,tt,o,hx,hB,hC,_⟩,hT,ht,q⟩:=h;refine{_,(Ad (Am (Av cp hr.m (tfl (pv 0)) (tpa Af (tpa (pv 1) Aa))))),?_};apply{x,aa,dx,_,.ref c,rfl,hx,ai.cl,ai.eg,rfl,?_};obtain⟨dc,t1,u1,hc1,_⟩:=id hC;apply{c,dc,_,rfl,hc1,rfl,?_};k_is;exact⟨c,l,NG,n,t,rfl,hC,hT,ht,q⟩
inductive Aav(vs:List V)(H:Hp)(Q:VK)(E:XK):Prop|mk(a:fe)(ds:Za4)(_:vs=[.ref a])(_:H a=en (.lst ((F6 ds).map V.int)))(_:Dok ds)(_:ds.9<4000)(_:∀l H',Ag H H'->H' l=en (.lst ((F6 ds).map V.int))->Q (.ref l) H')
include T aO in
theorem qB (F:Fun K "look_at" "look_at" Rx f fd):Aq P w K mg base CX0 2 f fd ["elders"] Aav:=by
 exists F.ok Ke
 obtain⟨a,ds,rfl,ha,hD,hn,q⟩:=h;refine⟨_,(Ab (Bl (Cw (B4 (Ao Cu (by rfl) T.de A8 (tpa (pv 0) (tpa (Gp (v:=.ty "list") rfl T.dD Ng rfl) Aa))))) (Ad C7)
  Au) (Ab (tst 1 Ke.nd (Ay (tpa (Fl Dc Af) Aa))) (Ab (Cq im rfl (Mo rfl T.dB (tpa (pv 0) Aa)) (Kt rfl (B6 (tgn 2 Ke.nd) (B6 (tgn 3 Ke.nd) Hd))) (Ab (Bl (PW.pt (Ie (ttc C1 (pv 2) (A7 rfl T.dR)) (Ie (Cw (B4 (Aw aO hr.m (tpa (pv 3) Aa)))) (Ij (ttc Ot (pv 3) (Fl Dc Af)))))) (Ad C7)
  Au) (Ab (Eu im (ttc Ga (tix Bp (pv 1) (Fl Dc Af)) (pv 3)) (Ad (As (fU gl qu qq fG (pv 1))))) (Ab (Bl (ttc Na (tix Bp (pv 1) (Fl Dc Af)) (pv 3)) (Ad C7)
  Au) (Ad (As (Cj gl ic gz Bf (pv 1) (tpa (pv 2) Aa)))))))) (Ad (Am (Cn He (by rfl) T.dD Ng (tpa (pv 0) Aa))))))),?_⟩
 apply{_,_,_,_,rfl,.lst ha,X0,?_};apply{few (by simp),λp hp=>?_};k_is;have t0:=Al (o:=.lst [V.int (-1)]) hp;refine{a,rfl,{_,SqL.of (t0 _ _ ha)},?_};refine Lx (xs:=(F6 ds).map V.int) (λk σ H1=>(∃v2 v3:Option V,σ=[en (.ref a),en (.ref p),v2,v3])/\H1 p=en (.lst ((way ds k).map V.int))/\Ag H H1) {{_,_,rfl},Ae,t0} (λk σ H1 _ h=>SqL.of (h.2.2 _ _ ha)) ?_ ?_
 .rintro k x σ H1 t hx ⟨⟨v2,v3,rfl⟩,hp1,s1⟩ ht
  have hk:=Bt hx;rw[fb,F3] at hk;obtain⟨e,he,rfl⟩:=U6 hx;rw[uE hk] at he;obtain rfl:=fk he;have st:=Al (o:=.tup [.int k,.int (eld ds k)]) ht;have hp2:=st _ _ hp1;have s2:=s1.trans st;generalize upd H1 t _=H2 at *;apply Bq (λh=>?_) (λ_=>?_)
  .have:=V.int.inj h
   lia
  apply{_,rfl,Je _,?_};rw[show isI (.int (eld ds k))=NG from rfl];k_is;have hge:=Ahz hD hk;refine Bq (λh=>()) (λ_=>?_);k_is;have hl:=Hg hD k ();have hd:=hD k hk;refine Fp (λσ H3=>σ=[en (.ref a),en (.ref p),en (.int k),en (.int (eld ds k))]/\Ag H H3/\∃m,dAt ds k+1<=m/\m<=(way ds k).9/\H3 p=en (.lst (((way ds k).take m).map V.int))) (λ_ H3=>Z0 H3 p)
   {rfl,s2,(way ds k).9,(),fm _,by rw[gp (fm _)];exact hp2} ?_
  rintro z σ H3 ⟨rfl,s3,m,hm1,hm2,hp3⟩ hz;rw[Gz hp3,Jz hm2] at hz;k_is;have hx1:(way ds k)[m-1]?=en ((way ds k)[m-1]'()):=fc _;generalize (way ds k)[m-1]'()=y at hx1;refine Cm (SqL.of hp3) (Mg () hx1) ?_;k_is;have hea:=oW hD hk;refine Bq (λh=>?_) (λh=>?_)
  .have hne:m-1≠dAt ds k:=λe=>by
    rw[e,hea] at hx1;have:=fk hx1;lia
   refine Kv ?_;apply{.inl {rfl,_,SqL.of hp3},?_};refine{p,_,.int y,rfl,rfl,hp3,?_,?_}
   .rw[Jz hm2,sU (n:=y)]
    rw[jt ()];exact hx1
   k_is;rw[Zy hm2];refine{{rfl,A6 s3 hp,m-1,(),(),Ae},?_};rw[Gz Ae,Jz ()];lia
  .have hme:m=dAt ds k+1:=by
    by_cases e:m-1=dAt ds k
    .lia
    .have:=Acr hD k (dAt ds k) (m-1) _ _ () () hea hx1
     lia
   subst hme;have hy:y=eld ds k:=by
    rw[show dAt ds k+1-1=dAt ds k by lia,hea] at hx1;exact(fk hx1).symm
   apply Cm (SqL.of hp3) (Mg () hx1) ?_;apply Oy (λh1=>absurd (congrArg V.int hy) h1) (λ_=>?_);apply{.inl {rfl,_,SqL.of hp3},?_};apply Bm hp3 ?_ ?_
   .rw[Jz hm2]
    exact Ai (by have:=R1 hD k ();lia)
   apply{{_,_,rfl},?_,A6 s3 hp};rw[Ae];show _=en (HO.lst (((way ds k).take (dAt ds k+1)++[(k:Int)]).map V.int));rw[ge];rfl
 .rintro σ H1 ⟨⟨v2,v3,rfl⟩,hp1,s1⟩
  apply{a,_,rfl,.inl (SqL.of (s1 _ _ ha)),λl hl=>?_};exact q l _ (s1.trans (Al hl)) Ae
inductive kZ(vs:List V)(H:Hp)(Q:VK)(E:XK):Prop|mk(a:fe)(ds:Za4)(_:vs=[.ref a])(_:H a=en (.lst ((F6 ds).map V.int)))(_:Dok ds)(_:ds.9<4000)(_:∀l H',Ag H H'->H' l=en (.lst (nV ds))->Q (.ref l) H')
theorem Zm {ds:Za4}{k:Nat}(hk:k<ds.9):nV (ds.take k)++[V.int (dAt ds k:Nat)]=nV (ds.take (k+1)):=by
 rw[i6,fc hk,<-Abd];unfold dAt l8;rw[fc hk];rfl
include T in
theorem iI (F:Fun K "depths_of" "depths_of" K7 f fd):Aq P w K mg base CX0 1 f fd ["elders"] kZ:=by
 exists F.ok Ks
 obtain⟨a,ds,rfl,ha,hD,hn,q⟩:=h;refine{_,(Ab (tst 1 Ks.nd (Ay Aa)) (Ab (Cq im rfl (Ey (pv 0)) (tgn 2 Ks.nd) (Ad (As (Cj gl ic gz Bf (pv 1) (tpa (Ci (ttc C1 (pv 2) (Fl Dc Af)) Af (Ak Bd (tix Bp (pv 1) (pv 2)) Af)) Aa))))) (Ad (Am (pv 1))))),?_}
 apply{ij _,λp hp=>?_};k_is;have t0:=Al (o:=.lst []) hp;refine{a,rfl,{_,SqL.of (t0 _ _ ha)},?_};refine Om (xs:=(F6 ds).map V.int) (λk σ H1=>(∃v2:Option V,σ=[en (.ref a),en (.ref p),v2])/\H1 p=en (.lst (nV (ds.take k)))/\Ag H H1) {{_,rfl},Ae,t0} (λk σ H1 _ h=>SqL.of (h.2.2 _ _ ha)) ?_ ?_
 .rintro k x σ H1 hx ⟨⟨v2,rfl⟩,hp1,s1⟩
  have hk:=Bt hx;rw[fb,F3] at hk;obtain⟨e,he,rfl⟩:=U6 hx;rw[uE hk] at he;obtain rfl:=fk he;have hz:(nV (ds.take k)).9<sizeLine:=by
   rw[Cp,gq];exact Ai ()
  apply{.inl {rfl,_,SqL.of hp1},?_};apply Bq (λh=>?_) (λh=>?_)
  .have hd:=Ade hD hk (V.int.inj h)
   apply Bm hp1 hz ?_;apply{{_,rfl},?_,A6 s1 hp};rw[Ae,<-Zm hk,hd];rfl
  .obtain⟨v,hv,hlt,hd⟩:=kW hD hk (λe=>h (congrArg V.int e))
   k_is;rw[hv];refine Cm (SqL.of hp1) (v:=.int (dAt ds v:Nat)) ?_ ?_
   .refine Bi (Zs ?_)
    rw[jt hlt,fc ()];unfold dAt l8;rw[fc ()];rfl
   apply Bm hp1 hz ?_;apply{{_,rfl},?_,A6 s1 hp};rw[Ae,<-Zm hk,hd];rfl
 .rintro σ H1 ⟨⟨v2,rfl⟩,hp1,s1⟩
  rw[fb,F3,gp (fm _)] at hp1;k_is;exact q p H1 s1 hp1
inductive tF(vs:List V)(H:Hp)(Q:VK)(E:XK):Prop|mk(a:fe)(ds:Za4)(_:vs=[.ref a])(_:H a=en (.lst ((F6 ds).map V.int)))(_:Dok ds)(_:ds.9<4000)(_:∀H',Ag H H'->Q (.str (Ax (E6 ds))) H')
theorem qW {l:Za4}{i:Nat}{x:V}(h:(nV l)[i]?=en x):∃n,l[i]?=en n/\x=.int (n:Nat):=by
 unfold nV at h;rw[fg] at h
 cases e:l[i]? with
 |none=>rw[e] at h;cases h
 |some n=>
  rw[e] at h;exact{n,rfl,(fk h).symm}
theorem Agp {ds:Za4}{k n:Nat}(h:ds[k]?=en n):n=dAt ds k:=by
 unfold dAt l8;rw[h];rfl
include T in
theorem vB (F:Fun K "row_of" "row_of" Ut f fd)(cq:T.ZC "depths_of" 1 ["elders"] kZ)(cr:T.ZC "look_at" 2 ["elders"] Aav):Aq P w K mg base CX0 3 f fd ["elders"] tF:=by
 exists F.ok Jw
 obtain⟨a,ds,rfl,ha,hD,hn,q⟩:=h;refine{_,(Ab (tst 1 Jw.nd (Ay Aa)) (Ab (tst 2 Jw.nd Af) (Ab (Cq im rfl (Ey (Aw cq hr.m (tpa (Aw cr hr.m (tpa (pv 0) Aa)) Aa))) (tgn 3 Jw.nd) (Ab (As (Cj gl ic gz Bf (pv 1) (tpa (Ak Nm (Ak tT A5 (Ak B0 (pv 2) (pv 3))) A5) Aa))) (Ad (tst 2 Jw.nd (Ak Bd (pv 3) Af))))) (Ab (As (Cj gl ic gz Bf (pv 1) (tpa (Ak tT A5 (pv 2)) Aa))) (Ad (Am (Cj lg oj oi Oh A5 (tpa (pv 1) Aa)))))))),?_}
 apply{ij _,λp hp=>?_};k_is;have t0:=Al (o:=.lst []) hp;refine{a,ds,rfl,t0 _ _ ha,hD,hn,λl1 H1 s1 hl1=>?_};apply{l1,ds,rfl,hl1,hD,hn,λl2 H2 s2 hl2=>?_};apply{l2,rfl,{_,SqL.of hl2},?_};have s12:=s1.trans s2;have hp2:=s12 _ _ (Ae (H:=H) (a:=p) (o:=.lst []));have npl:l2≠p\/ds=[]:=by
  by_cases e:l2=p
  .subst e
   rw[hp2] at hl2;have:=HO.lst.inj (fk hl2)
   cases ds with
   |nil=>exact .inr rfl
   |cons d r=>cases this
  .exact .inl e
 refine Om (xs:=nV ds) (λk σ H3=>(∃v3:Option V,σ=[en (.ref a),en (.ref p),en (.int (opn ds k:Nat)),v3])/\H3 p=en (.lst ((ft k).map λi=>V.str (Ax (B8 ds i))))/\Ag H H3/\H3 l2=en (.lst (nV ds))) {{_,rfl},hp2,t0.trans s12,hl2} (λk σ H3 _ h=>SqL.of h.2.2.2) ?_ ?_
 .rintro k x σ H3 hx ⟨⟨v3,rfl⟩,hp3,s3,hl3⟩
  have hk:=Bt hx;rw[Cp] at hk;have nlp:l2≠p:=by
   rcases npl with h|h
   .exact h
   .rw[h] at hk;cases hk
  obtain⟨d,hd,rfl⟩:=qW hx;obtain rfl:=Agp hd;have hop:=R1 hD k ();have hdk:=hD k hk;apply{.inl {rfl,_,SqL.of hp3},?_};apply{"0",(opn ds k:Int)-(dAt ds k:Int),rfl,rfl,(),(),?_,few (by decide),?_}
  .exact gy (Ai (by rw[show("0":Str).9=1 by rfl];lia))
  have e0:Yp ("0":Str) ((opn ds k:Int)-(dAt ds k:Int)).toNat=Ax (gd (opn ds k-dAt ds k) NH):=by
   rw[show((opn ds k:Int)-(dAt ds k:Int)).toNat=opn ds k-dAt ds k by lia];exact Zd NH _
  rw[e0];k_is;have e1:Ax (gd (opn ds k-dAt ds k) NH)++("1":Str)=Ax (B8 ds k):=gX (gd (opn ds k-dAt ds k) NH) [NG];refine{_,"1",rfl,rfl,?_,?_}
  .rw[A9,jl]
   exact gy (Ai (by rw[show("1":Str).9=1 by rfl];lia))
  rw[e1];apply Bm hp3 (by rw[fb,fv];exact Ai ()) ?_;apply{{_,rfl},?_,A6 s3 hp,?_}
  .rw[Ae,jo,ge]
   rfl
  .rw[Aj nlp]
   exact hl3
 .rintro σ H3 ⟨⟨v3,rfl⟩,hp3,s3,hl3⟩
  rw[Cp] at *;have hop:=R1 hD ds.9 (fm _);apply{.inl {rfl,_,SqL.of hp3},?_};apply{"0",(opn ds ds.9:Int),rfl,rfl,(),(),?_,few (by decide),?_}
  .exact gy (Ai (by rw[show("0":Str).9=1 by rfl];lia))
  have e0:Yp ("0":Str) ((opn ds ds.9:Int)).toNat=Ax (gd (opn ds ds.9) NH):=by
   rw[gr];exact Zd NH _
  rw[e0];apply Bm hp3 (by rw[fb,fv];exact Ai ()) ?_;apply{rfl,?_};k_is;have ef:((ft ds.9).map (B8 ds)++[gd (opn ds ds.9) NH]).flatten=E6 ds:=by
   rw[yc,List.flatten_singleton];rfl
  refine nH (ls:=(ft ds.9).map (B8 ds)++[gd (opn ds ds.9) NH]) ?_ ?_ ?_
  .rw[Ae,ge,jk]
   rfl
  .rw[ef,Gv hD]
   lia
  .rw[ef]
   exact q _ (A6 s3 hp)
inductive Xl(vs:List V)(H:Hp)(Q:VK)(E:XK):Prop|mk(l:Za5)(_:vs=[.str (Ax l)])(_:Vs 0 l)(_:l.9<=8000)(_:∀p (ds:Za4) H',Ag H H'->H p=p9->H' p=en (.lst ((F6 ds).map V.int))->Dok ds->E6 ds=l->Q (.ref p) H')
include T bf in
theorem iV (F:Fun K "elders_of" "elders_of" K4 f fd):Aq P w K mg base CX0 2 f fd ["text"] Xl:=by
 exists F.ok Hh
 obtain⟨l,rfl,hv,hn,q⟩:=h;refine⟨_,(Ab (As (Aw bf hr.m (tpa (pv 0) Aa))) (Ab (Bl (ttc Ga (Ao B2 (by rfl) T.c7 Cb (tpa (pv 0) Aa)) (A7 rfl T.dP)) (Ad C7)
  Au) (Ab (tst 1 Hh.nd (Ay Aa)) (Ab (tst 2 Hh.nd (Ay (tpa (Fl Dc Af) Aa))) (Ab (Cq im rfl (gG (pv 0)) (tgn 3 Hh.nd) (Ad (Bl (ttc C1 (pv 3) A5) (Ab (As (Cj gl ic gz Bf (pv 1) (tpa (tix Bp (pv 2) (Fl Dc Af)) Aa))) (Ad (As (Cj gl ic gz Bf (pv 2) (tpa (Ak B0 (Ao At (by rfl) T.c7 Cb (tpa (pv 1) Aa)) Af) Aa))))) (Ad (As (fU gl qu qq fG (pv 2))))))) (Ad (Am (pv 1)))))))),?_⟩
 apply{l,rfl,hv,hn,λH1 s1=>?_};apply{_,rfl,by rw[A9];exact gy (Ai ()),?_};k_is;rw[A9];refine Bq (λh=>()) (λ_=>?_);apply{ij _,λp hp1=>?_};have hp:H p=p9:=s1.free hp1;have t1:=Al (o:=.lst []) hp1;apply{few (by simp),λy hy=>?_};have t2:=Al (o:=.lst [V.int (-1)]) hy;have hyH:H y=p9:=(s1.trans t1).free hy;apply{_,rfl,?_};refine uD (λi σ H2=>(∃(ds:Za4) (h:Nat) (v:Option V),σ=[en (.str (Ax l)),en (.ref p),en (.ref y),v]/\Dok ds/\ds.9<=i/\hgt l i=(h:Int)/\h<=opn ds ds.9/\l.take i=Xq ds ds.9++gd (opn ds ds.9-h) NH /\
   H2 p=en (.lst ((F6 ds).map V.int))/\H2 y=en (.lst (((way ds ds.9).take (h+1)).map V.int)))/\Ag H H2) {{[],0,_,rfl,(λk hk=>by cases hk),fm _,rfl,fm _,rfl,t2 _ _ Ae,Ae},(s1.trans t1).trans t2} ?_ ?_
 .have hpy:p≠y:=An Ae hy
  rintro i c σ H2 hc ⟨⟨ds,h,v,rfl,hD,hdl,hh,hop,htk,hp2,hy2⟩,s2⟩;obtain⟨b,hb,rfl⟩:=gU hc;have hi:=Bt hb;have hs:=K8 hb;have hw:=Hg hD ds.9 (fm _);obtain⟨h',hh',hvs,_⟩:=Vv hv i ();have e:h'=h:=()
  subst e;have tk1:l.take (i+1)=l.take i++[b]:=by rw[i6,hb];rfl
  have hx:(way ds ds.9)[h'+1-1]?=en ((way ds ds.9).getD h' 0):=by
   rw[qh];unfold l8;rw[fc ()];rfl
  k_is
  cases b with
  |true=>
   refine Bq (λ_=>?_) (λh=>absurd rfl h);have hs:hgt l (i+1)=hgt l i+1:=hs;apply{.inl {rfl,_,SqL.of hp2},?_};apply Cm (SqL.of hy2) (Mg () hx) ?_;apply Bm hp2 ?_ ?_
   .rw[fb,F3]
    exact Ai ()
   k_is;have hy3:upd H2 p (.lst ((F6 ds).map V.int++[V.int ((way ds ds.9).getD h' 0)])) y=en (.lst (((way ds ds.9).take (h'+1)).map V.int)):=by rw[Aj hpy.symm];exact hy2
   have hp3:=@Ae H2 p (.lst ((F6 ds).map V.int++[V.int ((way ds ds.9).getD h' 0)]));have s3:=A6 (o:=.lst ((F6 ds).map V.int++[V.int ((way ds ds.9).getD h' 0)])) s2 hp;generalize upd H2 p _=H3 at *;refine{.inl {rfl,_,SqL.of hy3},?_};apply{p,_,rfl,.inl (SqL.of hp3),?_};k_is;rw[fq,fb,F3];refine Bm hy3 ?_ ?_
   .rw[Jz ()]
    exact Ai (by have:=R1 hD ds.9 (fm _);lia)
   k_is;have hD2:=jZ (d:=h') hD hop;have hl2:(ds++[h']).9=ds.9+1:=by rw[fq];rfl
   have ho2:opn (ds++[h']) (ds.9+1)=h'+1:=by
    show dAt (ds++[h']) ds.9+1=_;rw[Pl]
   refine{{ds++[h'],h'+1,_,rfl,hD2,(),(),by rw[hl2,ho2];exact fm _,?_,?_,?_},A6 s3 hyH}
   .rw[tk1,htk,hl2,ho2,o8,List.replicate_zero,lu,Mu,Yv _ (fm _),jy]
    unfold B8;rw[O6 _ (fm _),Pl]
   .rw[Aj hpy,hp3,Z3,ge]
    rfl
   .have hwl:=Hg hD2 (ds.9+1) ()
    have ew:(way (ds++[h']) (ds.9+1)).take (h'+1+1)=(way ds ds.9).take (h'+1)++[(ds.9:Int)]:=by
     rw[gp (),jU]
    have ei:(((ds.9+[V.int ((way ds ds.9).getD h' 0)].9:Nat):Int)-1)=(ds.9:Int):=by
     simp only[iu,kl];lia
    rw[Ae,hl2,ew,ge,ei];rfl
  |false=>
   refine Bq (λh=>absurd h (by decide)) (λ_=>?_);have hs:hgt l (i+1)=hgt l i + -1:=hs;rw[sQ hb] at hvs;have hpos:=hvs.1;apply{.inl {rfl,_,SqL.of hy2},?_};refine{y,_,.int ((way ds ds.9).getD h' 0),rfl,rfl,hy2,?_,?_}
   .rw[Jz (),sU]
    rw[jt ()];exact hx
   k_is;rw[Zy ()];refine{{ds,h'-1,_,rfl,hD,(),(),(),?_,?_,?_},A6 s2 hyH}
   .rw[tk1,htk,jy,show opn ds ds.9-(h'-1)=opn ds ds.9-h'+1 by lia,List.replicate_succ']
   .rw[Aj hpy]
    exact hp2
   .rw[Ae,show h'-1+1=h'+1-1 by lia]
 .rintro σ H2 ⟨⟨ds,h,v,rfl,hD,hdl,hh,hop,htk,hp2,hy2⟩,s2⟩
  rw[show(Ax l).cps.size=l.9 from A9 l] at *;obtain⟨h',hh',hvs,_⟩:=Vv hv l.9 (fm _);rw[kh (fm _)] at hvs;have hvs:h'=0:=hvs;have e:h=0:=()
  subst e;rw[gp (fm _),uj] at htk;k_is;exact q p ds H2 s2 hp hp2 hD htk.symm
def oFs (p:V):List (Str×V):=[("pairs",p)]
inductive tP (K:e7)(CO:fe)(vs:List V)(H:Hp)(Q:VK)(E:XK):Prop|mk(x dx:fe)(p:V)(_:vs=[.ref x,p])(_:H x=en (.ins CO dx []))(_:Q .non (upd H x (.ins CO dx (oFs p))))
variable (ar:Qb K ae)
include T ar in
theorem Wq (F:Fun K "__init__" "Openings.__init__" G4 f fd):Aq P w K mg base CX0 1 f fd ["self","pairs"] (tP K ae):=by
 exists F.ok Rh
 obtain⟨x,dx,p,rfl,hx,q⟩:=h;refine{_,(Ad (tsf (pv 0) (pv 1))),?_};k_is;exact Dx hx ar.cl ar.dk (show 0<1000 by decide) q
theorem jR {K:e7}{x p:fe}{l:Za5}{fs:List (Str×V)}(s:SameBut x H H')(hx:H x=en (.ins C dx fs))(hf:fs.9<3)(h:Bo K CB CC CP H p l):Bo K CB CC CP H' p l:=by
 obtain⟨d,b,c,t,o,h1,h2,h3,h4,h5⟩:=h;have ne:∀{y C' d':fe} {gs:List (Str×V)},H y=en (.ins C' d' gs)->3<=gs.9->y≠x:=λhy hg e=>by
  rw[e,hx] at hy;cases hy;lia
 refine{d,b,c,t,o,s _ _ (ne h1 (show 3<=5 by decide)) h1,Ik s (Fj hx) ?_ h2,Kr s (Fj hx) ?_ h3,h4.keep (λy xs e=>s _ _ (λz=>by rw[z,hx] at e;cases e) e),h5}
 .obtain⟨d2,t2,k,_⟩:=h2
  exact ne k (fm 3)
 .obtain⟨d2,t2,u2,k,_⟩:=h3
  exact ne k (fm 3)
def Ch (K:e7)(CB CC CP CO:fe)(H:Hp)(x:fe)(ds:Za4):Prop:=∃(dx p:fe),H x=en (.ins CO dx (oFs (.ref p)))/\Bo K CB CC CP H p (E6 ds)/\Dok ds/\ds.9<=4000
theorem Bo.kp {K:e7}{x:fe}{l:Za5}(h:Bo K CB CC CP H x l)(s:Kp H H'):Bo K CB CC CP H' x l:=by
 obtain⟨d,b,c,t,o,h1,h2,h3,h4,h5⟩:=h;exact{d,b,c,t,o,s.k h1,h2.kp s,h3.kp s,h4.keep λb xs e=>s.k e,h5}
theorem Ch.kp {K:e7}{x:fe}{ds:Za4}(h:Ch K CB CC CP CO H x ds)(s:Kp H H'):Ch K CB CC CP CO H' x ds:=by
 obtain⟨dx,p,h1,h2,h3⟩:=h;exact{dx,p,s.k h1,h2.kp s,h3}
inductive jQ (K:e7)(CB CC CP CO:fe)(vs:List V)(H:Hp)(Q:VK)(E:XK):Prop|mk(x dx a:fe)(ds:Za4)(_:vs=[.ref x,.ref a])(_:H x=en (.ins CO dx []))(_:H a=en (.lst ((F6 ds).map V.int)))(_:Dok ds)(_:ds.9<4000)(_:∀H',SameBut x H H'->Ch K CB CC CP CO H' x ds->Q .non H')
include T ar in
theorem W4 (F:Fun K "__init__" "Opened.__init__" Jm f fd)(cu:T.ZC "row_of" 3 ["elders"] tF)(cw:Mkr P w K mg base "Pairs" aa 7 ["self","text"] (sY K ad ac aa))(Wt:Acw P w K mg base "Openings" "__init__" 1 ["self","pairs"] (tP K ae)):Aq P w K mg base CX0 9 f fd ["self","elders"] (jQ K ad ac aa ae):=by
 exists F.ok T9
 obtain⟨x,dx,a,ds,rfl,hx,ha,hD,hn,q⟩:=h;refine{_,(Ad (As (Aez Wt hr.m rfl (tpa (pv 0) (tpa (Xc cw hr.m (tpa (Aw cu hr.m (tpa (pv 1) Aa)) Aa)) Aa))))),?_};apply{a,ds,rfl,ha,hD,hn,λH1 s1=>?_};have hrl:=Gv hD;have hx1:=s1 _ _ hx;k_is;intro p dp hp hdp hpd;refine{p,dp,E6 ds,rfl,Ae,yW hD,(),λH5 s5 hP5=>{rfl,?_}};have s5:=Hk hp hdp s5;have hx5:=s5 _ _ hx1;apply{x,dx,_,rfl,hx5,?_};exact q _ ((s1.trans s5).but.trans Bc) {dx,p,Ae,jR Bc hx5 (show 0<3 by decide) hP5,hD,gy hn}
inductive kB (K:e7)(CB CC CP CO:fe)(vs:List V)(H:Hp)(Q:VK)(E:XK):Prop|mk(x:fe)(ds:Za4)(_:vs=[.ref x])(_:Ch K CB CC CP CO H x ds)(_:Q (.int (ds.9:Nat)) H)
include T ar in
theorem Qm (F:Fun K "many_knots" "Openings.many_knots" Dt f fd)(cx:T.ZM aa "size" 1 ["self"] (gR K ad ac aa)):Aq P w K mg base CX0 2 f fd ["self"] (kB K ad ac aa ae):=by
 exists F.ok Ka
 obtain⟨x,ds,rfl,⟨dx,p,hx,hP,hD,hn⟩,q⟩:=h;refine{_,(Ad (Am (Ak Cg (Jk cx hr.m (tfl (pv 0))) Af))),?_};apply{x,ae,dx,_,_,rfl,hx,ar.cl,ar.dk,rfl,?_};obtain⟨dp,b,c,t,o,hp,_⟩:=id hP;apply{p,dp,_,rfl,hp,rfl,?_};apply{p,E6 ds,rfl,hP,?_};k_is;rw[Gv hD,show(((2*ds.9:Nat):Int)/2)=(ds.9:Int) by lia];exact q
inductive Abo (K:e7)(CB CC CP CO:fe)(vs:List V)(H:Hp)(Q:VK)(E:XK):Prop|mk(x:fe)(ds:Za4)(_:vs=[.ref x])(_:Ch K CB CC CP CO H x ds)(_:∀H',Ag H H'->Q (.str (Ax (E6 ds))) H')
include T ar in
theorem W0 (F:Fun K "row" "Openings.row" Ht f fd)(cy:T.ZM aa "text" 7 ["self"] (jA K ad ac aa)):Aq P w K mg base CX0 8 f fd ["self"] (Abo K ad ac aa ae):=by
 exists F.ok Ss
 obtain⟨x,ds,rfl,⟨dx,p,hx,hP,hD,hn⟩,q⟩:=h;obtain⟨dp,b,c,t,o,hp,_⟩:=id hP;refine{_,(Ad (Am (Jk cy hr.m (tfl (pv 0))))),?_};apply{x,ae,dx,_,_,rfl,hx,ar.cl,ar.dk,rfl,?_};apply{p,dp,_,rfl,hp,rfl,?_};k_is;exact{p,_,rfl,hP,q}
inductive Zh (K:e7)(CB CC CP CO:fe)(vs:List V)(H:Hp)(Q:VK)(E:XK):Prop|mk(x:fe)(ds:Za4)(_:vs=[.ref x])(_:Ch K CB CC CP CO H x ds)(_:∀p H',Ag H H'->H p=p9->H' p=en (.lst ((F6 ds).map V.int))->Q (.ref p) H')
include T ar in
theorem We (F:Fun K "elders" "Openings.elders" Fr f fd)(cz:T.ZC "elders_of" 2 ["text"] Xl)(cA:T.ZM ae "row" 8 ["self"] (Abo K ad ac aa ae)):Aq P w K mg base CX0 9 f fd ["self"] (Zh K ad ac aa ae):=by
 exists F.ok Ny
 obtain⟨x,ds,rfl,hO,q⟩:=h;obtain⟨dx,p,hx,hP,hD,hn⟩:=id hO;have hrl:=Gv hD;refine{_,(Ad (Am (Aw cz hr.m (tpa (Jk cA hr.m (pv 0)) Aa)))),?_};apply{x,dx,_,rfl,hx,rfl,?_};apply{x,ds,rfl,hO,λH1 s1=>?_};apply{E6 ds,rfl,yW hD,(),λp ds' H2 s2 h0 h1 hD' e=>?_};obtain rfl:=zO hD' hD e;exact q p H2 (s1.trans s2) (s1.free h0) h1
theorem uM {b:Bool}{l:Za5}{n i j t u:Nat}(h:(occ b l n)[i]?=en t)(h2:(occ b l n)[j]?=en u)(hij:i<j):t<u:=by
 obtain⟨hi,rfl⟩:=gg.mp h;obtain⟨hj,rfl⟩:=gg.mp h2;exact me.mp (JH _ List.pairwise_lt_range) i j hi hj hij
inductive nA (K:e7)(CB CC CP CO:fe)(ts:List Tb)(vs:List V)(H:Hp)(Q:VK)(E:XK):Prop|mk(x:fe)(ds:Za4)(k:Nat)(_:vs=[.ref x,.int k])(_:Ch K CB CC CP CO H x ds)(_:Tbs ts H)(_:k<ds.9)(_:∀o H',(occ NG (E6 ds) (E6 ds).9)[k]?=en o->SmT ts H H'->Q (.int (o:Nat)) H')
variable (aS:yJ P w K mg base "check_knot" 3 ["k","many_knots"] (Sg K am)) (aI:T.ZM ae "many_knots" 2 ["self"] (kB K ad ac aa ae))
include T ar aS aI in
theorem Q7 (F:Fun K "opening" "Openings.opening" Fe f fd)(cC:T.ZM aa "opening" 6 ["self","number"] (Nj K ad ac aa ts)) :
  Aq P w K mg base CX0 7 f fd ["self","k"] (nA K ad ac aa ae ts):=by
 exists F.ok M5
 obtain⟨x,ds,k,rfl,hO,hT,hk,q⟩:=h;obtain⟨dx,p,hx,hP,hD,hn⟩:=id hO;obtain⟨dp,b,c,t,o,hp,_,_,_,hV,_⟩:=id hP;refine{_,(Ab (As (R6 aS hr.m oQ (tpa (pv 1) (tpa (Jk aI hr.m (pv 0)) Aa)))) (Ad (Am (Av cC hr.m (tfl (pv 0)) (tpa (pv 1) Aa))))),?_}
 apply{x,dx,_,rfl,hx,rfl,?_};apply{x,ds,rfl,hO,?_};apply{.int k,_,rfl,Je _,λ_=>?_,λe=>absurd e (by rw[Tj hk];decide)};apply{x,ae,dx,_,_,rfl,hx,ar.cl,ar.dk,rfl,?_};apply{p,dp,_,rfl,hp,rfl,?_};k_is;have he:=Me (E6 ds) (E6 ds).9;rw[rQ hV,Gv hD] at he;obtain⟨o,ho⟩:∃o,(occ NG (E6 ds) (E6 ds).9)[k]?=en o:={_,fc (by rw[Gv hD];lia)};exact{p,_,k,o,rfl,hP,hT,ho,λH'=>q o H' ho}
inductive Ml (K:e7)(CB CC CP CO:fe)(ts:List Tb)(vs:List V)(H:Hp)(Q:VK)(E:XK):Prop|mk(x:fe)(ds:Za4)(k:Nat)(_:vs=[.ref x,.int k])(_:Ch K CB CC CP CO H x ds)(_:Tbs ts H)(_:k<ds.9)(_:∀(i:Int) H',SmT ts H H'->Q (.int i) H')
variable (bq:T.ZM aa "partner" 10 ["self","place"] (U8 K ad ac aa)) (aF:T.ZM ae "opening" 7 ["self","k"] (nA K ad ac aa ae ts))
include T ar bq aF in
theorem Q4 (F:Fun K "closing" "Openings.closing" Ff f fd) :
  Aq P w K mg base CX0 11 f fd ["self","k"] (Ml K ad ac aa ae ts):=by
 exists F.ok M9
 obtain⟨x,ds,k,rfl,hO,hT,hk,q⟩:=h;obtain⟨dx,p,hx,hP,hD,hn⟩:=id hO;obtain⟨dp,b,c,t,o,hp,_⟩:=id hP;refine{_,(Ad (Am (Av bq hr.m (tfl (pv 0)) (tpa (Av aF hr.m (pv 0) (tpa (pv 1) Aa)) Aa)))),?_};apply{x,ae,dx,_,_,rfl,hx,ar.cl,ar.dk,rfl,?_};apply{p,dp,_,rfl,hp,rfl,?_};apply{x,dx,_,rfl,hx,rfl,?_};apply{x,ds,k,rfl,hO,hT,hk,λo H1 ho s1=>?_};k_is;exact{p,_,o,rfl,hP.kp s1.kp,(Uo ho).1,λj H2 _ s2=>q _ H2 (s1.then s2)}
inductive nY (K:e7)(CB CC CP CO:fe)(vs:List V)(H:Hp)(Q:VK)(E:XK):Prop|mk(x:fe)(ds:Za4)(o:Nat)(_:vs=[.ref x,.int o])(_:Ch K CB CC CP CO H x ds)(_:o<(E6 ds).9)(_:∀(i:Int) H',Ag H H'->Q (.int i) H')
include T bc bn ar bq in
theorem Q5 (F:Fun K "knot_at" "Openings.knot_at" Fb f fd) :
  Aq P w K mg base CX0 11 f fd ["self","place"] (nY K ad ac aa ae):=by
 exists F.ok M1
 obtain⟨x,ds,k,rfl,hO,hk,q⟩:=h;obtain⟨dx,p,hx,hP,hD,hn⟩:=id hO;obtain⟨dp,b,c,t,o,hp,hB,hC,_⟩:=id hP;refine{_,(Ad (Am (Av bc hr.m (tfl (pv 0)) (tpa (Ci (B4 (Av bn hr.m (tfl (pv 0)) (tpa (pv 1) Aa))) (pv 1) (Av bq hr.m (tfl (pv 0)) (tpa (pv 1) Aa))) Aa)))),?_};apply{x,ae,dx,_,_,rfl,hx,ar.cl,ar.dk,rfl,?_};apply{p,dp,_,rfl,hp,rfl,?_};apply{x,ae,dx,_,_,rfl,hx,ar.cl,ar.dk,rfl,?_};apply{p,dp,_,rfl,hp,rfl,?_};apply{p,_,k,rfl,hP,hk,?_}
 cases(E6 ds).getD k NH with
 |true=>
  k_is;exact{p,dp,c,_,_,k,rfl,hp,rfl,hC,(),λH1 s1=>q _ H1 s1}
 |false=>
  apply{x,ae,dx,_,_,rfl,hx,ar.cl,ar.dk,rfl,?_};apply{p,dp,_,rfl,hp,rfl,?_};apply{p,_,k,rfl,hP,hk,λj H1 hj s1=>?_};k_is;exact{p,dp,c,_,_,j,rfl,s1 _ _ hp,rfl,hC.same s1,hj,λH2 s2=>q _ H2 (s1.trans s2)}
include T ar aF in
theorem Q0 (F:Fun K "beneath" "Openings.beneath" Fa f fd)(cD:T.ZM ae "closing" 11 ["self","k"] (Ml K ad ac aa ae ts)) :
  Aq P w K mg base CX0 12 f fd ["self","k"] (Ml K ad ac aa ae ts):=by
 exists F.ok M2
 obtain⟨x,ds,k,rfl,hO,hT,hk,q⟩:=h;obtain⟨dx,p,hx,_⟩:=id hO;refine{_,(Ad (Am (Ak Cg (Ak B0 (Av cD hr.m (pv 0) (tpa (pv 1) Aa)) (Av aF hr.m (pv 0) (tpa (pv 1) Aa))) Af))),?_};apply{x,dx,_,rfl,hx,rfl,?_};apply{x,ds,k,rfl,hO,hT,hk,λi H1 s1=>?_};apply{x,dx,_,rfl,s1.k hx,rfl,?_};apply{x,ds,k,rfl,hO.kp s1.kp,s1.ok,hk,λo H2 _ s2=>?_};k_is;exact q _ H2 (s1.trans s2)
inductive lP (K:e7)(CB CC CP CO:fe)(ts:List Tb)(vs:List V)(H:Hp)(Q:VK)(E:XK):Prop|mk(x:fe)(ds:Za4)(a b:Nat)(_:vs=[.ref x,.int b,.int a])(_:Ch K CB CC CP CO H x ds)(_:Tbs ts H)(_:a<b)(_:b<ds.9)(_:∀r H',(r=.non\/∃c:Int,r=.int c)->SmT ts H H'->Q r H')
include T bp ar aF in
theorem Q6 (F:Fun K "nearest" "Openings.nearest" E8 f fd)(cE:T.ZM aa "lowest" 10 ["self","low","high"] (nK K ad ac aa))(cF:T.ZM ae "knot_at" 11 ["self","place"] (nY K ad ac aa ae)):Aq P w K mg base CX0 12 f fd ["self","one","other"] (lP K ad ac aa ae ts):=by
 exists F.ok C3
 obtain⟨x,ds,a,b,rfl,hO,hT,hab,hb,q⟩:=h;obtain⟨dx,p,hx,hP,hD,hn⟩:=id hO;obtain⟨dp,bb,c,t,o,hp,_⟩:=id hP;have one:∀{oo k:Nat},(occ NG (E6 ds) (E6 ds).9)[k]?=en oo->∀{o2:Nat},(occ NG (E6 ds) (E6 ds).9)[k]?=en o2->o2=oo:=λh1 _ h2=>fk (h2.symm.trans h1);refine⟨_,(Ab (tst 3 C3.nd (Ao (R5 rfl) (by rfl) T.dC Xs (tpa (Av aF hr.m (pv 0) (tpa (pv 1) Aa)) (tpa (Av aF hr.m (pv 0) (tpa (pv 2) Aa)) Aa)))) (Ab (tst 4 C3.nd (Ao (wM rfl) (by rfl) T.eJ Afw (tpa (Av aF hr.m (pv 0) (tpa (pv 1) Aa)) (tpa (Av aF hr.m (pv 0) (tpa (pv 2) Aa)) Aa)))) (Ab (Bl (ttc C1 (pv 3) (pv 4)) (Ad (Am (pv 1)))
  Au) (Ab (tst 5 C3.nd (Av cE hr.m (tfl (pv 0)) (tpa (Ak Bd (pv 3) Af) (tpa (pv 4) Aa)))) (Ad (Am (Ci (ttc Ga (tix Bh (pv 5) Af) Af) (Av cF hr.m (pv 0) (tpa (Av bp hr.m (tfl (pv 0)) (tpa (tix Bh (pv 5) Af) (tpa (Ak B0 (tix Bh (pv 5) Af) Af) Aa))) Aa)) C9))))))),?_⟩
 apply{x,dx,_,rfl,hx,rfl,?_};apply{x,ds,b,rfl,hO,hT,hb,λob H1 hob s1=>?_};apply{x,dx,_,rfl,s1.k hx,rfl,?_};apply{x,ds,a,rfl,hO.kp s1.kp,s1.ok,(),λoa H2 hoa s2=>?_};have hmo:=uM hoa hob hab;have hol:=(Uo hob).1;have s12:=s1.trans s2;apply{_,_,rfl,?_};rw[if_pos ()];apply{x,dx,_,rfl,s12.k hx,rfl,?_};apply{x,ds,b,rfl,hO.kp s12.kp,s12.ok,hb,λo3 H3 h3 s3=>?_};obtain rfl:=one hob h3;have s13:=s12.trans s3;apply{x,dx,_,rfl,s13.k hx,rfl,?_};apply{x,ds,a,rfl,hO.kp s13.kp,s13.ok,(),λo4 H4 h4 s4=>?_};obtain rfl:=one hoa h4;have s14:=s13.trans s4;apply{_,_,rfl,?_};rw[if_neg ()];apply Bq (λh=>absurd (V.int.inj h) ()) (λ_=>?_);apply{x,ae,dx,_,_,rfl,s14.k hx,ar.cl,ar.dk,rfl,?_};apply{p,dp,_,rfl,s14.k hp,rfl,?_};apply{p,_,o4+1,o3,rfl,hP.kp s14.kp,(),(),λmm v tp H5 _ hv1 hv2 s5 htp=>?_};have s15:=s14.then s5;obtain⟨j,rfl,hj1,hj2⟩:∃j:Nat,v=.int j/\j<=(E6 ds).9/\hgt (E6 ds) j=mm:=by
  by_cases e:mm=hgt (E6 ds) (o4+1)
  .exact{_,hv1 e,(),e.symm}
  .obtain⟨j,e1,e2,e3,e4,_⟩:=hv2 e
   exact⟨j,e1,e3,e4⟩
 apply Cc (SqT.of htp) (v:=.int mm) rfl ?_;apply Bq (λh0=>?_) (λh0=>?_)
 .apply{x,dx,_,rfl,s15.k hx,rfl,?_};apply{x,ae,dx,_,_,rfl,s15.k hx,ar.cl,ar.dk,rfl,?_};apply{p,dp,_,rfl,s15.k hp,rfl,?_};apply Cc (SqT.of htp) (v:=.int (j:Int)) rfl ?_;apply Cc (SqT.of htp) (v:=.int mm) rfl ?_;apply{p,_,j,_,rfl,hP.kp s15.kp,(),λr H6 hr6 s6=>?_};have s16:=s15.then s6
  cases r with
  |none=>exact absurd hr6 (Abc hj1 () ())
  |some i=>
   have hi:=hr6.1;k_is;exact{x,ds,i,rfl,hO.kp s16.kp,(),λc H7 s7=>q _ H7 (.inr {_,rfl}) (s16.then s7)}
 .k_is
  exact q _ H5 (.inl rfl) s15
theorem xL {x:Str}(hg:Gl X x)(hm:∃t,X.mg x=en (.str z t))(hd:autoParam ((x==("__debug__":Str))=NH) QF):PE X (.Name x pos) (tC (.str z)):=by
 obtain⟨t,h⟩:=hm;exact Fn hg h ⟨t,rfl⟩ hd
def nmV:V->Bool
 |.str z=>Rr z
 |_=>NH
theorem Yw (c:Nat):(!(mj ("abcdefghijklmnopqrstuvwxyz":Str) (sgn c) 0 ("abcdefghijklmnopqrstuvwxyz":Str).9 1).isEmpty)=K2 c:=by
 rw[show(!(mj ("abcdefghijklmnopqrstuvwxyz":Str) (sgn c) 0 ("abcdefghijklmnopqrstuvwxyz":Str).9 1).isEmpty)=decide (c∈("abcdefghijklmnopqrstuvwxyz":Str).cps.toList) from IT "abcdefghijklmnopqrstuvwxyz" c];unfold K2;refine decide_eq_decide.mpr ?_;rw[show("abcdefghijklmnopqrstuvwxyz":Str).cps.toList=(ft 26).map (97 + ·) by decide +kernel,je];exact{λ⟨i,hi,e⟩=>by have:=ki.mp hi;lia,λh=>{c-97,ki.mpr (),()}}
inductive O5 (K:e7)(vs:List V)(H:Hp)(Q:VK)(E:XK):Prop|mk(x:V)(_:vs=[x])(_:Rf K H x)(_:(∀z,x=.str z->z.9<=100))(_:∀H',Ag H H'->Q (.bl (nmV x)) H')
include T in
theorem oK (F:Fun K "is_name" "is_name" Mt f fd):Aq P w K mg base CX0 1 f fd ["thing"] (O5 K):=by
 exists F.ok pG
 obtain⟨x,rfl,hA,hz,q⟩:=h;refine⟨_,(Ab (Bl (PW.pt (Ie (Cw (B4 (Ao Cu (by rfl) T.de A8 (tpa (pv 0) (tpa (Gp (v:=.ty "str") rfl T.d7 rK rfl) Aa))))) (Ie (ttc C1 (Ao B2 (by rfl) T.c7 Cb (tpa (pv 0) Aa)) Af) (Ij (ttc Ga (Ao B2 (by rfl) T.c7 Cb (tpa (pv 0) Aa)) (A7 rfl T.dQ)))))) (Ad (Am Hu))
  Au) (Ad (Am (Ao (zF rfl) (by rfl) T.n_all Aj1 (tpa (Ja rfl fQ (gG (pv 0)) (λ_ _ _ _=>Cf) (λ_ _ _ _=>(rJ uZ (pv 0) (xL rfl T.dS) rfl))) Aa))))),?_⟩
 obtain⟨t,ht,hk⟩:=hA;apply{_,_,_,_,rfl,ht,hk,?_};k_is
 cases hb:isS x with
 |false=>
  have e:nmV x=NH:=by cases x<;>first|rfl|cases hb
  k_is;have:=q H (Ag.refl _);rw[e] at this;exact this
 |true=>
  obtain⟨z,rfl⟩:∃z,x=.str z:=by
   cases x with
   |str z=>exact⟨z,rfl⟩
   |_=>cases hb
  have hz:=hz z rfl;apply{z,rfl,gy (Ai ()),?_};apply Bq (λh=>?_) (λh0=>?_)
  .have e:nmV (.str z)=NH:=by
    have:=V.int.inj h;show(decide _&&_)=NH;rw[decide_eq_false (),xr]
   k_is;have:=q H (Ag.refl _);rw[e] at this;exact this
  have h0:z.9≠0:=λe=>h0 (by rw[e];rfl);apply{z,rfl,gy (Ai ()),?_};apply Bq (λh=>?_) (λh8=>?_)
  .have e:nmV (.str z)=NH:=by
    show(decide _&&_)=NH;rw[decide_eq_false (),xr]
   k_is;have:=q H (Ag.refl _);rw[e] at this;exact this
  apply{z,rfl,?_};refine Acs (λi=>((z.cps.toList.take i).map K2).map V.bl) rfl (λi hi=>?_) (λi c H1 R A hc s1 kR kA=>?_) (λD H1 hD s1 hD1=>?_)
  .rw[fb,fb,gq]
   have:z.cps.toList.9=z.9:=ie;exact Ai ()
  .apply{_,_,rfl,rfl,?_};rw[Yw];refine kA _ _ ?_ (Ag.refl _);rw[i6,show z.cps.7[i]?=en c by rw[j6];exact hc,ge,ge];rfl
  .have el:z.cps.toList.take z.cps.8=z.cps.7:=gp (by rw[ie];exact fm _)
   rw[el] at hD1;apply{D,_,rfl,SqL.of hD1,?_};have:=q H1 s1;have e:nmV (.str z)=(z.cps.toList.map K2).all id:=by
    show(decide _&&_)=_;rw[decide_eq_true (),yn,List.all_map];rfl
   rw[e] at this;exact this
def Zv (xs:List V)(k:Nat):Prop:=xs[k]?.map nmV=en NH/\(xs.take k).all nmV=NG
inductive Sf (K:e7)(CN:fe)(vs:List V)(H:Hp)(Q:VK)(E:XK):Prop|mk(a:fe)(xs:List V)(_:vs=[.ref a])(_:H a=en (.lst xs))(_:(∀x∈xs,NmT K H x))(_:xs.9<=4000)(_:(xs.all nmV=NG->∀H',Ag H H'->Q .non H'))(_:∀k,Zv xs k->fZ CN H E (.int (k:Nat)))
theorem Uz {x:Str}(h:Rr x=NG):1<=x.9/\x.9<=8:=of_decide_eq_true (xu.mp h).1
variable (bt:Agm P w K mg base "NoName" av ah 1 ["self","place"]) (bu:T.ZC "is_name" 1 ["thing"] (O5 K))
include T bt bu in
theorem Ua (F:Fun K "check_names" "check_names" Jh f fd):Aq P w K mg base (CXE P w) 3 f fd ["names"] (Sf K ah):=by
 exists F.okE Ib
 obtain⟨a,xs,rfl,ha,hN,hn,q,qe⟩:=h;refine⟨_,(Ad (Cq CQ rfl (Mo rfl T.dB (tpa (pv 0) Aa)) (Kt rfl (B6 (tgn 1 Ib.nd) (B6 (tgn 2 Ib.nd) Hd))) (Ad (Bl (Cw (B4 (Aw bu hr.m (tpa (pv 2) Aa)))) (Ad (Ys bt hr.m rfl (tpa (pv 1) Aa)))
  Au)))),?_⟩
 apply{a,rfl,{_,SqL.of ha},?_};refine Lx (xs:=xs) (λk σ H1=>(∃v2 v3:Option V,σ=[en (.ref a),v2,v3])/\(xs.take k).all nmV=NG/\Ag H H1) {{_,_,rfl},rfl,Ag.refl _} (λk σ H1 _ h=>SqL.of (h.2.2 _ _ ha)) ?_ ?_
 .rintro k x σ H1 t hx ⟨⟨v2,v3,rfl⟩,hb,s1⟩ ht
  have hm:=hN x (ip hx);have hk:=Bt hx;have s2:=s1.trans (Al (o:=.tup [.int k,x]) ht);generalize upd H1 t _=H2 at *;apply{x,rfl,hm.1.same s2,hm.2,λH3 s3=>?_};have s3:=s2.trans s3
  cases hx2:nmV x with
  |true=>
   apply{{_,_,rfl},?_,s3};rw[i6,hx,AC,hb];show(NG&&(nmV x&&NG))=NG;rw[hx2];rfl
  |false=>
   k_is;exact{_,rfl,uR (),λdx hd=>(qe k {by rw[hx];exact congrArg en hx2,hb}).out s3 hd}
 .rintro σ H1 ⟨⟨v2,v3,rfl⟩,hb,s1⟩
  rw[gp (fm _)] at hb;k_is;exact q hb H1 s1
def S8 (H:Hp)(as:List fe)(rows:List (Str×Nat×Nat)):Prop:=as.9=rows.9/\∀(i:Nat) a r,as[i]?=en a->rows[i]?=en r->H a=en (.tup [.str r.1,.int r.2.1,.int r.2.2])
theorem S8.kp {as:List fe}{rows:List (Str×Nat×Nat)}(h:S8 H as rows)(s:Kp H H'):S8 H' as rows:={h.1,λi a r e1 e2=>s.k (h.2 i a r e1 e2)}
theorem S8.snoc {as:List fe}{rows:List (Str×Nat×Nat)}{a:fe}{r:Str×Nat×Nat}(h:S8 H as rows)(ha:H a=en (.tup [.str r.1,.int r.2.1,.int r.2.2])):S8 H (as++[a]) (rows++[r]):=by
 refine{by rw[fq,fq,h.1];rfl,λi b q e1 e2=>?_}
 by_cases hi:i<as.9
 .rw[gv hi] at e1
  rw[gv (by rw[<-h.1];exact hi)] at e2;exact h.2 i b q e1 e2
 .rw[ig ()] at e1
  rw[ig (by rw[<-h.1];lia),<-h.1] at e2;have e0:i-as.9=0:=by have:=Bt e1;simp at this;lia
  rw[e0] at e1 e2;cases e1;cases e2;exact ha
theorem xA (xs:List V):Fc xs (en 1) p9=xs.drop 1:=by
 unfold Fc;rw[show((1:Int))=((1:Nat):Int) from rfl,_T.sIx_nat];show(xs.drop (min 1 xs.9)).take (xs.9-min 1 xs.9)=_;rw[gp (by rw[jb];lia)]
 by_cases h:1<=xs.9
 .rw[j9 h]
 .rw[kh (),kh ()]
theorem gL (S:Za6)(k:Nat):(bgs S k).9<=k:=by
 unfold bgs occ;have:=oq (λi=>(bgN S).getD i NH==NG) (ft k);rw[fv] at this;exact this
inductive Sb(vs:List V)(H:Hp)(Q:VK)(E:XK):Prop|mk(a:fe)(S:Za6)(_:vs=[.ref a])(_:H a=en (.lst (sV S)))(_:S.9<=4000)(_:∀l as H',Ag H H'->H l=p9->H' l=en (.lst (as.map V.ref))->S8 H' as (J3 S S.9)->Q (.ref l) H')
include T in
theorem S6 (F:Fun K "stretches_of" "stretches_of" Eb f fd):Aq P w K mg base CX0 1 f fd ["names"] Sb:=by
 exists F.ok K1
 obtain⟨a,S,rfl,ha,hn,q⟩:=h;refine{_,(Ab (Ly (i:=1) rfl O8 K1.nd rfl rfl (Db rfl T.c8 (tpa (Ao At (by rfl) T.c7 Cb (tpa (pv 0) Aa)) Aa)) (λ_ _ _ _=>Ty (PW.pt (Ie (ttc C1 (pv 0) Af) (Ij (ttc Na (tix (Lu K) (pv 1) (pv 0)) (tix (Lu K) (pv 1) (Ak B0 (pv 0) Af))))))) (λ_ _ _ _=>(pv 0))) (Ad (Am (qT rfl Pc (fS rfl T.dU (tpa (pv 1) (tpa (Ak Jg (Co Ms (pv 1) (B5 Af) Ir) (Ay (tpa (Ao At (by rfl) T.c7 Cb (tpa (pv 0) Aa)) Aa))) Aa))) (λ_ _ _ _=>Cf) (λ_ _ _ _=>(Kk (tpa (tix (Lu K) (pv 2) (pv 0)) (tpa (pv 0) (tpa (pv 1) Aa))))))))),?_}
 apply{a,_,rfl,.inl (SqL.of ha),?_};rw[Dm];apply{_,rfl,(),(),?_};rw[gr];refine Jy (λi=>nV (bgs S i)) rfl (λi hi=>?_) (λi H1 R A hi s1 kR kA=>?_) (λD H1 hD s1 hD1=>?_)
 .rw[Cp]
  exact Ai (by have:=gL S i;lia)
 .have hb:=Vj hi
  obtain⟨x,hx⟩:∃x,S[i]?=en x:={_,fc hi};rw[show(0+(i:Int))=(i:Int) by lia];have a1:=s1 _ _ ha
  by_cases h0:i=0
  .rw[if_pos (.inl h0)] at hb
   apply Bq (λ_=>?_) (λz=>absurd (by rw[h0];rfl) z);apply kA _ _ ?_ (Ag.refl _);rw[hb,Ku]
  .obtain⟨y,hy⟩:∃y,S[i-1]?=en y:={_,fc ()}
   apply Bq (λz=>absurd (V.int.inj z) ()) (λ_=>?_);apply Cm (SqL.of a1) (v:=.str x) (Bi (by rw[fg,hx];rfl)) ?_;k_is;rw[show((i:Int)-1)=((i-1:Nat):Int) by lia];refine Cm (SqL.of a1) (v:=.str y) (Bi (by rw[fg,hy];rfl)) ?_;refine{rfl,?_};apply Oy (λh=>?_) (λh=>?_)
   .rw[if_pos (.inr λz=>h (by rw[hx,hy] at z;rw[fk z]))] at hb
    apply kA _ _ ?_ (Ag.refl _);rw[hb,Ku]
   .have e:x=y:=V.str.inj h
    rw[if_neg (by rintro(z|z);exact h0 z;exact z (by rw[hx,hy,e])),lu] at hb;k_is;exact kR (by rw[hb]) _ (Ag.refl _)
 have h1:=s1 _ _ ha;apply{D,_,rfl,SqL.of hD1,λp hp=>?_};rw[xA] at *;obtain⟨u2,hp2⟩:=Ar (o:=.lst ((nV (bgs S S.9)).drop 1)) hp;have h2:=u2 _ _ h1;have hD2:=u2 _ _ hD1;have s2:=s1.trans u2;generalize upd H1 p _=H2 at *;apply{a,_,rfl,.inl (SqL.of h2),?_};rw[Dm];apply{few (by simp),λp3 hp3=>?_};obtain⟨u3,hp33⟩:=Ar (o:=.lst [V.int (S.9:Nat)]) hp3;have h3:=u3 _ _ h2;have hD3:=u3 _ _ hD2;have hp4:=u3 _ _ hp2;have s3:=s2.trans u3;generalize upd H2 p3 _=H3 at *;have hbl:=gL S S.9;have hdl:((nV (bgs S S.9)).drop 1).9=(bgs S S.9).9-1:=by rw[jb,Cp]
 refine{p,p3,_,_,rfl,rfl,hp4,hp33,gy (Ai (by rw[hdl,ii];lia)),λp5 hp5=>?_};obtain⟨u5,hp55⟩:=Ar (o:=.lst ((nV (bgs S S.9)).drop 1++[V.int (S.9:Nat)])) hp5;have h5:=u5 _ _ h3;have hD5:=u5 _ _ hD3;have s5:=s3.trans u5;generalize upd H3 p5 _=H5 at *;apply{D,p5,rfl,{_,SqL.of hD5},{_,SqL.of hp55},?_};have eE:(nV (bgs S S.9)).drop 1++[V.int (S.9:Nat)]=nV ((bgs S S.9).drop 1++[S.9]):=by
  unfold nV;rw[ge,sk];rfl
 rw[eE] at hp55;have eL:((bgs S S.9).drop 1++[S.9]).9=(bgs S S.9).9-1+1:=by rw[fq,jb,ii]
 refine iO (SqL.of hD5) (SqL.of hp55) (λD i zs H=>∃as:List fe,zs=as.map V.ref/\S8 H as ((J3 S S.9).take i)) (λD H _ _=>{[],rfl,rfl,λi a r e=>by cases e}) (λD i zs H us o hu ⟨as,e,hR⟩=>{as,e,hR.1,λi a r e1 e2=>?_})
  (λD i zs H hi ⟨as,e,hR⟩=>?_) (λD i zs H H' s ⟨as,e,hR⟩=>{as,e,hR.kp (Ag.kp s)}) (λD i zs x y H6 A R hx hy s6 _ _ hP hA=>?_) (λD2 zs H6 hD2 s6 hP h6=>?_)
 .rw[Aj (Iw (hR.2 i a r e1 e2) hu (by intro z;cases z))]
  exact hR.2 i a r e1 e2
 .rw[e,fb,hR.1,gq]
  rw[Cp,Cp] at hi;exact Ai ()
 .obtain⟨as,rfl,hR⟩:=hP
  obtain⟨b,hb,rfl⟩:=qW hx;obtain⟨e,he,rfl⟩:=qW hy;obtain⟨hlt,_⟩:=Uo hb;apply Cm (SqL.of (s6 _ _ h5)) (v:=.str (S.getD b {#[]})) (Bi (by rw[fg,iq,fc hlt];rfl)) ?_;apply{few (by simp),λt ht=>?_};refine hA _ _ (Al ht) {as++[t],by rw[ge];rfl,?_};have er:(J3 S S.9).take (i+1)=(J3 S S.9).take i++[Aal S b e]:=by
   rw[i6];congr 1;unfold J3;rw[fg,(mf (z:=(b,e))).mpr ⟨hb,he⟩];rfl
  rw[er];exact(hR.kp (Ag.kp (Al ht))).snoc (r:=Aal S b e) Ae
 .obtain⟨as,rfl,hR⟩:=hP
  rw[gp (by unfold J3;rw[fb,wt,Cp,Cp];exact fm _)] at hR;exact q D2 as H6 (s5.trans s6) (s5.free hD2) h6 hR
abbrev oI (nm:Za6)(v:Int):Str:=nm.getD v.toNat {#[]}
def alk (nm:Za6)(x:Str)(ws:List Int):List Int:=ws.filter λv=>decide (oI nm v=x)
theorem Pf (nm:Za6)(x:Str)(ws:List Int)(v:Int):alk nm x (ws++[v])=alk nm x ws++if oI nm v=x then[v] else[]:=by
 unfold alk;rw[lw]
 by_cases h:oI nm v=x
 .rw[if_pos h,FR,if_pos (decide_eq_true h)];rfl
 .rw[if_neg h,FR,if_neg (by rw[decide_eq_false h];decide)];rfl
structure Ups (nm:Za6) (H0 H:Hp) (u p t:fe) (ws:List Int) (kvs:List (Key×V)):Prop where
 hu:H u=en (.dK kvs)
 has:∀v∈ws,Cd kvs (.inr (oI nm v))≠p9
 at':∀x y,Cd kvs (.inr x)=en y->∃l,y=.ref l/\H0 l=p9/\l≠u/\l≠p/\l≠t/\H l=en (.lst ((alk nm x ws).map V.int))
 inj:∀x x' y,Cd kvs (.inr x)=en y->Cd kvs (.inr x')=en y->x=x'
theorem Ups.same {nm:Za6}{u p t:fe}{kvs:List (Key×V)}(h:Ups nm H0 H u p t ws kvs)(s:Ag H H'):Ups nm H0 H' u p t ws kvs:=
 {s _ _ h.hu,h.has,λx y e=>let ⟨l,a,b,c,d,e,f⟩:=h.at' x y e;{l,a,b,c,d,e,s _ _ f},h.inj}
theorem Ups.put {nm:Za6}{u p t c:fe}{o:HO}{kvs:List (Key×V)}(h:Ups nm H0 H u p t ws kvs)(hc:c=p\/c=t)(hn:c≠u):Ups nm H0 (upd H c o) u p t ws kvs:=
 ⟨by rw[Aj hn.symm];exact h.hu,h.has,λx y e=>let ⟨l,a,b,c1,d,e,f⟩:=h.at' x y e;⟨l,a,b,c1,d,e,by rw[Aj (by rcases hc with rfl|rfl<;>assumption)];exact f⟩,h.inj⟩
theorem Ups.empty {nm:Za6}{u p t:fe}{kvs:List (Key×V)}{x:Str}(h:Ups nm H0 H u p t ws kvs)(e:Cd kvs (.inr x)=p9):alk nm x ws=[]:=by
 unfold alk;rw[CV];intro v hv z;exact h.has v hv (by rw[of_decide_eq_true z];exact e)
theorem Ups.list {nm:Za6}{u p t l:fe}{ws':List Int}{kvs:List (Key×V)}{x:Str}(h:Ups nm H0 H u p t ws kvs)(e:Cd kvs (.inr x)=en (.ref l))(hw:∀v∈ws',v∈ws\/oI nm v=x)(ho:∀y,y≠x->alk nm y ws'=alk nm y ws) :
  Ups nm H0 (upd H l (.lst ((alk nm x ws').map V.int))) u p t ws' kvs:=by
 obtain⟨l',e',b,c,d,e2,f⟩:=h.at' x _ e;cases e';refine{by rw[Aj c.symm];exact h.hu,λv hv z=>?_,λy v hy=>?_,h.inj}
 .rcases hw v hv with hv|hv
  .exact h.has v hv z
  .rw[hv,e] at z;cases z
 .obtain⟨m,rfl,b',c',d',e3,f'⟩:=h.at' y v hy
  refine{m,rfl,b',c',d',e3,?_}
  by_cases hxy:y=x
  .subst hxy
   rw[e] at hy;cases hy;exact Ae
  .rw[Aj (λz=>hxy (h.inj y x _ hy (by rw[e,z]))),ho y hxy]
   exact f'
theorem Ups.new {nm:Za6}{u p t l:fe}{kvs:List (Key×V)}{x:Str}(h:Ups nm H0 H u p t ws kvs)(e:Cd kvs (.inr x)=p9)(hl:H l=en (.lst []))(h0:H0 l=p9)(hlp:l≠p)(hlt:l≠t)(hf:∀y v,Cd kvs (.inr y)=en v->v≠.ref l) :
  Ups nm H0 (upd H u (.dK (Gg kvs (.inr x) (.ref l)))) u p t ws (Gg kvs (.inr x) (.ref l)):=by
 have hlu:l≠u:=λz=>by rw[z,h.hu] at hl;cases hl
 refine{Ae,λv hv=>?_,λy v hy=>?_,λy y' v hy hy'=>?_}
 .rw[Lm]
  split
  .exact λz=>by cases z
  .exact h.has v hv
 .rw[Lm] at hy
  split at hy
  .rename_i hyx
   cases hy;obtain rfl:=y6 hyx;exact{l,rfl,h0,hlu,hlp,hlt,by rw[Aj hlu,h.empty e];exact hl}
  .obtain⟨m,rfl,b',c',d',e3,f'⟩:=h.at' y v hy
   exact{m,rfl,b',c',d',e3,by rw[Aj c'];exact f'}
 .rw[Lm] at hy hy'
  split at hy<;>split at hy'
  .rename_i a b
   exact(y6 a).trans (y6 b).symm
  .cases hy
   exact(hf _ _ hy' rfl).elim
  .cases hy'
   exact(hf _ _ hy rfl).elim
  .exact h.inj y y' v hy hy'
theorem Ups.setd {nm:Za6}{u p t l0:fe}{kvs:List (Key×V)}{x:Str}{Q:VK}(h:Ups nm H0 H u p t ws kvs)(hk:kvs.9<sizeLine)(hl:H l0=en (.lst []))(h0:H0 l0=p9)(hlp:l0≠p)(hlt:l0≠t)(hf:∀y v,Cd kvs (.inr y)=en v->v≠.ref l0)
  (q:∀l kvs' H',kvs'.9<=kvs.9+1->Ups nm H0 H' u p t ws kvs'->Cd kvs' (.inr x)=en (.ref l)->(∀b,b≠u->H' b=H b)->Q (.ref l) H'):fF (.ref u) [.str x,.ref l0] H Q:=by
 refine yX h.hu hk (λy hy=>?_) (λhn=>?_)
 .obtain⟨l,rfl,_⟩:=h.at' x y hy
  exact q l kvs H (qj _) h hy λ_ _=>rfl
 .exact q l0 _ _ (G0 _ _ _) (h.new hn hl h0 hlp hlt hf) (by rw[Lm,if_pos rfl]) λb hb=>Aj hb
def sI (ws:List Int):V:=match ws.getLast? with|none=>.non|some v=>.int v
theorem Aa0 (h:ws≠[]):(ws.map V.int)[(ws.map V.int).9-1]?=en (sI ws):=by
 unfold sI;rw[fb,fg,<-List.getLast?_eq_getElem?,List.getLast?_eq_getLast h];rfl
def Adj (n:Nat)(ts:List V):Prop:=ts.9=n/\∀(k:Nat) v,ts[k]?=en v->v=.non\/∃u:Nat,v=.int (u:Nat)/\u<k
inductive Ab0(vs:List V)(H:Hp)(Q:VK)(E:XK):Prop|mk(a b:fe)(nm:Za6)(es:List Int)(_:vs=[.ref a,.ref b])(_:H a=en (.lst (es.map V.int)))(_:H b=en (.lst (sV nm)))(_:nm.9=es.9)(_:es.9<=4000)(_:∀t ts H',Ag H H'->H t=p9->H' t=en (.tup ts)->Adj es.9 ts->Q (.ref t) H')
theorem uT {nm:Za6}{k:Nat}{x:Str}(h:nm[k]?=en x):oI nm (k:Int)=x:=by
 show nm.getD (yd (k:Int)) _=x;rw[gr,iq,h];rfl
theorem Md (ws:List Int)(v:Int):((ws++[v]).map V.int)[((ws++[v]).map V.int).9-1]?=en (.int v):=by
 rw[fb,fq,ii,qh];exact sU ug
include T in
theorem N4 (F:Fun K "namesakes_above" "namesakes_above" Fs f fd):Aq P w K mg base CX0 1 f fd ["elders","names"] Ab0:=by
 exists F.ok Bu
 obtain⟨a,b,nm,es,rfl,ha,hb,hnl,hn,q⟩:=h;refine{_,(Ab (tst 2 Bu.nd (Ay Aa)) (Ab (tst 3 Bu.nd (Ay Aa)) (Ab (tst 4 Bu.nd fJ) (Ab (Cq im rfl (Mo rfl T.dB (tpa (pv 0) Aa)) (Kt rfl (B6 (tgn 5 Bu.nd) (B6 (tgn 6 Bu.nd) Hd))) (Ab (Eu im (PW.pt (Rz (ttc Ga (Ao At (by rfl) T.c7 Cb (tpa (pv 3) Aa)) Af) (Ma (ttc Na (tix Bp (pv 3) (Fl Dc Af)) (pv 6))))) (Ad (As (fU gl qu qq fG (tix yL (pv 4) (tix Bp (pv 1) (fU gl qu qq fG (pv 3)))))))) (Ab (As (Cj gl ic gz Bf (pv 3) (tpa (pv 5) Aa))) (Ab (tst 7 Bu.nd (Cj uz zj PySem.F.type_dict_setdefault vC (pv 4) (tpa (tix Bp (pv 1) (pv 5)) (tpa (Ay Aa) Aa)))) (Ab (As (Cj gl ic gz Bf (pv 2) (tpa (Ci (ttc Ga (Ao At (by rfl) T.c7 Cb (tpa (pv 7) Aa)) Af) (tix Bp (pv 7) (Fl Dc Af)) C9) Aa))) (Ad (As (Cj gl ic gz Bf (pv 7) (tpa (pv 5) Aa))))))))) (Ad (Am (Cn Eo (by rfl) T.dX Pd (tpa (pv 2) Aa)))))))),?_}
 apply{ij _,λt ht=>?_};obtain⟨u1,ht1⟩:=Ar (o:=.lst []) ht;generalize upd H t _=H1 at *;apply{ij _,λp hp=>?_};have hp0:=u1.free hp;have npt:p≠t:=(An ht1 hp).symm;obtain⟨u2,hp1⟩:=Ar (o:=.lst []) hp;have ht2:=u2 _ _ ht1;have s2:=u1.trans u2;generalize upd H1 p _=H2 at *;k_is;intro u hu;have hu0:=s2.free hu;obtain⟨u3,hu1⟩:=Ar (o:=.dK []) hu;have nup:u≠p:=(An hp1 hu).symm;have nut:u≠t:=(An ht2 hu).symm;have ht3:=u3 _ _ ht2;have hp3:=u3 _ _ hp1;have s3:=s2.trans u3;generalize upd H2 u _=H3 at *;apply{a,rfl,{_,SqL.of (s3 _ _ ha)},?_};refine Lx (xs:=es.map V.int) (λk σ H4=>(∃v5 v6 v7:Option V,σ=[en (.ref a),en (.ref b),en (.ref t),en (.ref p),en (.ref u),v5,v6,v7])/\Ag H H4/\∃(ws:List Int) (ts:List V) (kvs:List (Key×V)),(∀v∈ws,∃u:Nat,v=(u:Int)/\u<k)/\ws.9<=k/\H4 p=en (.lst (ws.map V.int))/\H4 t=en (.lst ts)/\Adj k ts/\kvs.9<=k/\Ups nm H H4 u p t ws kvs)
  {{_,_,_,rfl},s3,[],[],[],(λv hv=>by cases hv),fm _,hp3,ht3,{rfl,λk v e=>by cases e},fm _,hu1,(λv hv=>by cases hv),(λx y e=>by cases e),λx x' y e=>by cases e} (λk σ H4 _ h=>SqL.of (h.2.1 _ _ ha)) ?_ ?_
 .rintro k x σ H4 r hx ⟨⟨v5,v6,v7,rfl⟩,s4,ws,ts,kvs,hw,hwl,hp4,ht4,hts,hkl,hU⟩ hr4
  have hk:=Bt hx;rw[fb] at hk;obtain⟨e,_,rfl⟩:=U6 hx;have st:=Al (o:=.tup [.int k,.int e]) hr4;have hp5:=st _ _ hp4;have ht5:=st _ _ ht4;have hU5:=hU.same st;have s5:=s4.trans st;generalize upd H4 r _=H5 at *;apply Fp (λσ H6=>σ=[en (.ref a),en (.ref b),en (.ref t),en (.ref p),en (.ref u),en (.int k),en (.int e),v7]/\Ag H H6/\H6 t=en (.lst ts)/\∃(ws:List Int) (kvs:List (Key×V)),(∀v∈ws,∃u:Nat,v=(u:Int)/\u<k)/\ws.9<=k/\H6 p=en (.lst (ws.map V.int))/\kvs.9<=k/\Ups nm H H6 u p t ws kvs) (λ_ H6=>Z0 H6 p)
   ⟨rfl,s5,ht5,ws,kvs,hw,hwl,hp5,hkl,hU5⟩ ?_
  rintro z σ H6 ⟨rfl,s6,ht6,ws,kvs6,hw,hwl,hp6,hkl6,hU6⟩ hz;rw[Gz hp6,fb] at hz;apply{p,_,rfl,.inl (SqL.of hp6),?_};rw[fb];k_is
  by_cases hst:ws=[]\/∃ws',ws=ws'++[e]
  .refine' Pb (c:=ws=[]) (S:=?S) ?a ?b ?r
   case a=>
    intro kp hm;refine Bq (λh=>absurd h (by rw[hm];decide)) (λ_=>?_);exact kp.q
   case b=>
    intro kp hm;refine Bq (λ_=>?_) (λh=>absurd (by have:=ue.mpr hm;lia) h);apply Cm (SqL.of hp6) (v:=.int e) ?_ ?_
    .obtain⟨ws',rfl⟩:=hst.resolve_left hm
     exact Tm (Md _ _)
    apply Oy (λh=>absurd rfl h) (λ_=>?_);exact kp.q
   apply{.inl {rfl,_,SqL.of hp6},?_};apply Bm hp6 (by rw[fb];exact Ai ()) ?_;rw[<-yt (f:=V.int) (a:=(k:Int)),<-ge];have s7:Ag H (upd H6 p (.lst ((ws++[(k:Int)]).map V.int))):=A6 s6 hp0;have hp7:=@Ae H6 p (.lst ((ws++[(k:Int)]).map V.int));have ht7:upd H6 p (.lst ((ws++[(k:Int)]).map V.int)) t=_:=(Aj npt.symm).trans ht6;have hU7:=hU6.put (o:=.lst ((ws++[(k:Int)]).map V.int)) (.inl rfl) nup.symm;generalize upd H6 p _=H7 at *;apply{.inr (.inr (.inl {rfl,.inl {_,hU7.hu}})),?_};k_is;obtain⟨x,hx⟩:∃x,nm[k]?=en x:={_,fc ()};have hnx:=uT hx;refine Cm (SqL.of (s7 _ _ hb)) (v:=.str x) (Bi (by rw[fg,hx];rfl)) ?_;apply{ij _,λl0 hl0=>?_};obtain⟨u8,hl8⟩:=Ar (o:=.lst []) hl0;have hp8:=u8 _ _ hp7;have ht8:=u8 _ _ ht7;have s8:=s7.trans u8;have hU8:=hU7.same u8;have hfr:∀y v,Cd kvs6 (.inr y)=en v->v≠.ref l0:=λy v e z=>by
    obtain⟨l,rfl,_,_,_,_,f⟩:=hU7.at' y v e;rw[V.ref.inj z,hl0] at f;cases f
   have n1:l0≠p:=(An hp7 hl0).symm;have n2:l0≠t:=(An ht7 hl0).symm;have h00:=s7.free hl0;generalize upd H7 l0 _=H8 at *;apply hU8.setd (Ai ()) hl8 h00 n1 n2 hfr λl kvs9 H9 hk9 hU9 hv9 k9=>?_;have hp9:=(k9 p nup.symm).trans hp8;have ht9:=(k9 t nut.symm).trans ht8;have s9:Ag H H9:=λb o e=>(k9 b (An e hu0)).trans (s8 b o e);obtain⟨l',e',hl0',hlu,hlp,hlt,hl9⟩:=hU9.at' x _ hv9;cases e';apply{.inl {rfl,_,SqL.of ht9},?_};apply{l,_,rfl,.inl (SqL.of hl9),?_};rw[fb];k_is;obtain⟨y,hy,hyn⟩:∃y,y=sI (alk nm x ws)/\Adj (k+1) (ts++[y]):=by
    refine{_,rfl,by rw[fq,hts.1];rfl,λj v hj=>?_};rcases FK j ts.9 with h|h|h
    .rw[gv h] at hj
     exact hts.2 j v hj
    .rw[h,ug] at hj
     obtain rfl:=fk hj;unfold sI
     cases e2:(alk nm x ws).getLast? with
     |none=>exact .inl rfl
     |some c=>
      obtain⟨u,rfl,l⟩:=hw c (tx.mp (List.mem_of_getLast? e2)).1;exact .inr {u,rfl,by rw[h,hts.1];exact l}
    .rw[jc (by rw[fq,ii];lia)] at hj
     cases hj
   refine' Pb (c:=alk nm x ws=[]) (S:=?S2) ?b2 ?a2 ?r2
   case a2=>
    intro kp hm;refine Bq (λ_=>?_) (λh=>absurd (by have:=ue.mpr hm;lia) h);apply Cm (SqL.of hl9) (v:=y) (by rw[hy];exact Tm (Aa0 hm)) ?_;exact kp.q
   case b2=>
    intro kp hm;refine Bq (λh=>absurd h (by rw[hm];decide)) (λ_=>?_);have z:=kp.q;rw[show y=V.non by rw[hy,hm];rfl] at z;exact z
   apply Bm ht9 (by rw[hts.1];exact Ai ()) ?_;have hp10:upd H9 t (.lst (ts++[y])) p=_:=(Aj npt).trans hp9;have ht10:=@Ae H9 t (.lst (ts++[y]));have hl10:upd H9 t (.lst (ts++[y])) l=_:=(Aj hlt).trans hl9;have hU10:=hU9.put (o:=.lst (ts++[y])) (.inr rfl) nut.symm;have s10:Ag H (upd H9 t (.lst (ts++[y]))):=A6 s9 ht;generalize upd H9 t _=H10 at *;apply{.inl {rfl,_,SqL.of hl10},?_};apply Bm hl10 (by rw[fb];exact Ai (by have:=oq (λv=>decide (oI nm v=x)) ws;unfold alk;lia)) ?_;k_is;have ea:(alk nm x ws).map V.int++[V.int (k:Int)]=(alk nm x (ws++[(k:Int)])).map V.int:=by
    rw[Pf,if_pos hnx,ge];rfl
   rw[ea];refine{{_,_,_,rfl},A6 s10 hl0',ws++[(k:Int)],_,kvs9,λv hv=>?_,by rw[fq];exact z7 hwl,(Aj hlp.symm).trans hp10,(Aj hlt.symm).trans ht10,hyn,(),?_}
   .rcases kj.mp hv with h|h
    .obtain⟨u,e1,l⟩:=hw v h
     exact{u,e1,()}
    .exact{k,j0.mp h,o9 k}
   refine hU10.list hv9 (λv hv=>?_) (λy hy=>?_)
   .rcases kj.mp hv with hv|hv
    .exact .inl hv
    .rw[j0.mp hv];exact .inr hnx
   .rw[Pf,if_neg (λz=>hy (z.symm.trans hnx)),lu]
  .obtain⟨ws',c,rfl⟩:∃ws' c,ws=ws'++[c]:={_,_,(List.dropLast_concat_getLast λh=>hst (.inl h)).symm}
   have hne:c≠e:=λz=>hst (.inr {ws',by rw[z]});obtain⟨v,rfl,hvk⟩:=hw c (by simp);rw[fq,ii] at hz hwl ⊢;refine Bq (λ_=>?_) (λh=>absurd () h);apply Cm (SqL.of hp6) (v:=.int v) (Tm (Md _ _)) ?_;apply Oy (λ_=>?_) (λh=>absurd (V.int.inj h) hne);refine Kv ?_;apply{.inl {rfl,_,SqL.of hp6},?_};refine{p,_,.int v,rfl,rfl,hp6,Md _ _,?_};k_is;rw[ge,show([(v:Int)].map V.int)=[V.int v] from rfl,DX];have hp7:=@Ae H6 p (.lst (ws'.map V.int));have ht7:upd H6 p (.lst (ws'.map V.int)) t=_:=(Aj npt.symm).trans ht6;have s7:Ag H (upd H6 p (.lst (ws'.map V.int))):=A6 s6 hp0;have hU7:=hU6.put (o:=.lst (ws'.map V.int)) (.inl rfl) nup.symm;generalize upd H6 p _=H7 at *;obtain⟨x,hx⟩:∃x,nm[v]?=en x:={_,fc ()};have hnx:=uT hx;refine Cm (SqL.of (s7 _ _ hb)) (v:=.str x) (Bi (by rw[fg,hx];rfl)) ?_;obtain⟨w',hw'⟩:=Option.ne_none_iff_exists'.mp (hnx▸hU7.has _ (ji _ gt));obtain⟨l,rfl,hl0',hlu,hlp,hlt,hl7⟩:=hU7.at' x _ hw';refine Ah9 hU7.hu hw' ?_;rw[Pf,if_pos hnx] at hl7;refine{.inl {rfl,_,SqL.of hl7},?_};refine{l,_,.int v,rfl,rfl,hl7,Md _ _,?_};rw[ge,show([(v:Int)].map V.int)=[V.int v] from rfl,DX];refine{{rfl,A6 s7 hl0',(Aj hlt.symm).trans ht7,ws',kvs6,λy hy=>hw y (tj _ hy),(),(Aj hlp.symm).trans hp7,hkl6,?_},?_}
   .refine hU7.list hw' (λv' hv'=>.inl (tj _ hv')) (λy hy=>?_)
    rw[Pf,if_neg (λz=>hy (z.symm.trans hnx)),lu]
   .rw[Gz ((Aj hlp.symm).trans hp7),fb]
    lia
 .rintro σ H4 ⟨⟨v5,v6,v7,rfl⟩,s4,ws,ts,kvs,hw,hwl,hp4,ht4,hts,hkl,hU⟩
  rw[fb] at hts;apply{t,_,rfl,.inl {SqL.of ht4,λr hr4=>?_}};exact q r _ _ (s4.trans (Al hr4)) (s4.free hr4) Ae hts
theorem SmB.hk {ts:List Tb}{x:fe}(s:SmB ts x H H'):Kp (P3 x H) H':=λb u n e=>s.keep b u (sT e).1 n (sT e).2
theorem Nl {x b:fe}{u:HO}{fs:List (Str×V)}(hx:H x=en (.ins C dx fs))(h:H b=en u)(n:∀C d gs,u=.ins C d gs->gs≠fs):P3 x H b=en u:=by
 rw[gF (λz=>by rw[z,hx] at h;exact n _ _ _ (fk h).symm rfl)];exact h
theorem Ch.hid {K:e7}{x:fe}{w:fe}{ds:Za4}(hx:H x=en (.ins C dx []))(h:Ch K CB CC CP CO H w ds):Ch K CB CC CP CO (P3 x H) w ds:=by
 have ni:∀{b C d:fe} {g:Str×V} {gs:List (Str×V)},H b=en (.ins C d (g::gs))->P3 x H b=en (.ins C d (g::gs)):=λe=>Nl hx e λ_ _ _ z e2=>by cases z;cases e2
 have nt:∀{b:fe} {xs:List V},H b=en (.tup xs)->P3 x H b=en (.tup xs):=λe=>Nl hx e λ_ _ _ z=>by cases z
 obtain⟨dw,p,h1,⟨d,b,c,t,o,a1,⟨d2,t2,b1,b2,b3⟩,⟨d3,t3,u3,c1,c2,c3,c4⟩,a4,a5⟩,h3⟩:=h;exact{dw,p,ni h1,{d,b,c,t,o,ni a1,{d2,t2,ni b1,nt b2,b3},{d3,t3,u3,ni c1,nt c2,nt c3,c4},a4.keep λb xs e=>nt e,a5},h3}
theorem A0.hid {K:e7}{x c:fe}{fs:List (Str×V)}{l:Za5}(hx:H x=en (.ins C dx fs))(n:c≠x)(h:A0 K CC H c l):A0 K CC (P3 x H) c l:=by
 have nt:∀{b:fe} {xs:List V},H b=en (.tup xs)->P3 x H b=en (.tup xs):=λe=>Nl hx e λ_ _ _ z=>by cases z
 obtain⟨d3,t3,u3,c1,c2,c3,c4⟩:=h;exact{d3,t3,u3,(gF n).trans c1,nt c2,nt c3,c4}
theorem La.hid {CS x s:fe}{fs:List (Str×V)}{st:Nat}(hx:H x=en (.ins C dx fs))(n:s≠x)(h:La CS H s ns st):La CS (P3 x H) s ns st:=by
 obtain⟨d,t,e,h1,h2,kvs,h3,h4⟩:=h;exact{d,t,e,(gF n).trans h1,Nl hx h2 (λ_ _ _ z=>by cases z),kvs,Nl hx h3 (λ_ _ _ z=>by cases z),h4}
theorem S8.hid {x:fe}{fs:List (Str×V)}{as:List fe}{rows:List (Str×Nat×Nat)}(hx:H x=en (.ins C dx fs))(h:S8 H as rows):S8 (P3 x H) as rows:={h.1,λi a r e1 e2=>Nl hx (h.2 i a r e1 e2) λ_ _ _ z=>by cases z}
def hZ (H:Hp)(cs es:List fe)(rows:List (Str×Nat×Nat)):Prop:=cs.9=rows.9/\es.9=rows.9/\∀(i:Nat) c e r,cs[i]?=en c->es[i]?=en e->rows[i]?=en r->H c=en (.tup [.str r.1,.ref e])/\H e=en (.tup [.int r.2.1,.int r.2.2])
theorem hZ.kp {cs es:List fe}{rows:List (Str×Nat×Nat)}(h:hZ H cs es rows)(k:Kp H H'):hZ H' cs es rows:={h.1,h.2.1,λi c e r e1 e2 e3=>{k.k (h.2.2 i c e r e1 e2 e3).1,k.k (h.2.2 i c e r e1 e2 e3).2}}
theorem Xd {α:Type}{l:List α}{x y:α}{i:Nat}(h:(l++[x])[i]?=en y):(i<l.9/\l[i]?=en y)\/(i=l.9/\x=y):=by
 by_cases hi:i<l.9
 .rw[gv hi] at h
  exact .inl ⟨hi,h⟩
 .rw[ig ()] at h
  have:=Bt h;have e0:i-l.9=0:=by simp at this;lia
  rw[e0] at h;exact .inr {(),fk h}
theorem hZ.snoc {cs es:List fe}{rows:List (Str×Nat×Nat)}{c e:fe}{r:Str×Nat×Nat}(h:hZ H cs es rows)(h1:H c=en (.tup [.str r.1,.ref e]))(h2:H e=en (.tup [.int r.2.1,.int r.2.2])):hZ H (cs++[c]) (es++[e]) (rows++[r]):=by
 refine{by rw[fq,fq,h.1];rfl,by rw[fq,fq,h.2.1];rfl,λi c' e' r' e1 e2 e3=>?_};have l1:=h.1;have l2:=h.2.1;rcases Xd e1 with⟨i1,e1⟩|⟨i1,rfl⟩
 .rcases Xd e2 with⟨i2,e2⟩|⟨i2,rfl⟩
  .rcases Xd e3 with⟨i3,e3⟩|⟨i3,rfl⟩
   .exact h.2.2 i c' e' r' e1 e2 e3
   .exact absurd i3 ()
  .exact absurd i2 ()
 .rcases Xd e2 with⟨i2,e2⟩|⟨i2,rfl⟩
  .exact absurd i2 ()
  .rcases Xd e3 with⟨i3,e3⟩|⟨i3,rfl⟩
   .exact absurd i3 ()
   .exact⟨h1,h2⟩
theorem Zi:∀(ks:Za6) (ys:List V) (kvs:List (Key×V)),(Jc kvs ks ys).9<=kvs.9+ks.9
 |[],_,_=>fm _
 |_::_,[],_=>ml _ _
 |k::ks,y::ys,kvs=>by
  have:=Zi ks ys (Gg kvs (.inr k) y);have:=G0 kvs (.inr k:Key) y;show(Jc (Gg kvs (.inr k) y) ks ys).9<=_;rw[iu];lia
theorem yF (S:Za6)(k:Nat):(J3 S k).9<=k:=by
 unfold J3;rw[fb,wt];have:=gL S k;lia
def nFs (w s b l sp ns:V):List (Str×V):=[("kept_wood",w),("places",s),("begins",b),("kept_stretches",l),("spans",sp),("namesakes",ns)]
def kJ (H:Hp)(es:List fe)(rows:List (Str×Nat×Nat)):Prop:=es.9=rows.9/\∀(i:Nat) e r,es[i]?=en e->rows[i]?=en r->H e=en (.tup [.int r.2.1,.int r.2.2])
theorem kJ.kp {es:List fe}{rows:List (Str×Nat×Nat)}(h:kJ H es rows)(k:Kp H H'):kJ H' es rows:={h.1,λi e r e1 e2=>k.k (h.2 i e r e1 e2)}
theorem kJ.hid {x:fe}{fs:List (Str×V)}{es:List fe}{rows:List (Str×Nat×Nat)}(hx:H x=en (.ins C dx fs))(h:kJ H es rows):kJ (P3 x H) es rows:={h.1,λi e r e1 e2=>Nl hx (h.2 i e r e1 e2) λ_ _ _ z=>by cases z}
theorem hZ.se {cs es:List fe}{rows:List (Str×Nat×Nat)}(h:hZ H cs es rows):kJ H es rows:=⟨h.2.1,λi e r e1 e2=>by
 have hi:i<cs.9:=by rw[h.1];exact Bt e2
 exact(h.2.2 i _ e r (fc hi) e1 e2).2⟩
noncomputable def sN (nm:Za6):Za6:=NE λzs=>zs.Perm nm/\vd zs=NG
theorem zJ {nm zs:Za6}(h:zs.Perm nm)(hs:vd zs=NG):zs=sN nm:=by
 have e:=ND (p:=λzs:Za6=>zs.Perm nm/\vd zs=NG) ⟨zs,h,hs⟩;exact T5 (h.trans e.1.symm) hs e.2
noncomputable abbrev jV (nm:Za6):List (Str×Nat×Nat):=J3 (sN nm) nm.9
structure Afe (nm:Za6) (os:Za4):Prop where
 ord:Ord os
 len:os.9=nm.9
 sl:(sN nm).9=nm.9
 at':∀(i p:Nat),os[i]?=en p->∃z,nm[p]?=en z/\(sN nm)[i]?=en z
theorem Adn {nm:Za6}{is:List Int}(h:Xb nm (Dk nm.9) is):∃os:Za4,is.map V.int=nV os/\Afe nm os:=by
 obtain⟨m,hp,hs,rfl⟩:=h;have hl:(Dk nm.9).9=nm.9:=by unfold Dk;rw[fb,fv]
 have h1:(m.map (·.1)).Perm nm:=by
  have:=hp.map (·.1)
  rwa [show(nm.zip (Dk nm.9)).map (·.1)=nm from List.map_fst_zip ()] at this
 have h2:(m.map (·.2)).Perm (Dk nm.9):=by
  have:=hp.map (·.2)
  rwa [show(nm.zip (Dk nm.9)).map (·.2)=Dk nm.9 from List.map_snd_zip ()] at this
 have e:=zJ h1 hs;have hml:m.9=nm.9:=by rw[hp.length_eq,wt];lia
 have hmem:∀p∈m,∃k:Nat,p.2=(k:Int)/\nm[k]?=en p.1:=λ⟨x,y⟩ hx=>by
  obtain⟨k,hk⟩:=xp (hp.mem_iff.mp hx);obtain⟨k1,k2⟩:=mf.mp hk;unfold Dk at k2;rw[fg,gn (Bt k1)] at k2;exact{k,(fk k2).symm,k1}
 have hnn:∀y∈m.map (·.2),(y.toNat:Int)=y:=λy hy=>by
  obtain⟨p,hp2,rfl⟩:=je.mp hy;obtain⟨k,hk,_⟩:=hmem p hp2;rw[hk];rfl
 refine{(m.map (·.2)).map yd,?_,{λx hx=>?_,?_},by rw[fb,fb,hml],by rw[<-e,fb,hml],λi p hi=>?_}
 .have key:∀ys:List Int,(∀y∈ys,(y.toNat:Int)=y)->ys.map V.int=(ys.map yd).map λn:Nat=>V.int n:=λys h=>by
   rw[jk];exact jg λy hy=>congrArg V.int (h y hy).symm
  exact key _ hnn
 .obtain⟨y,hy,rfl⟩:=je.mp hx
  obtain⟨p,hp2,rfl⟩:=je.mp hy;obtain⟨k,hk,hk2⟩:=hmem p hp2;have:=Bt hk2;rw[fb,fb,hml,hk,gr];exact this
 .have h3:=h2.map yd
  have e3:(Dk nm.9).map yd=ft nm.9:=by
   unfold Dk;rw[jk];exact List.map_id _
  rw[e3] at h3;exact h3.nodup_iff.mpr List.nodup_range
 .rw[fg,fg,xa] at hi
  obtain⟨q,hq,rfl⟩:=jj.mp hi;obtain⟨k,hk,hk2⟩:=hmem q (ip hq);refine{q.1,?_,by rw[<-e,fg,hq];rfl};show nm[q.2.toNat]?=_;rw[hk,gr];exact hk2
structure Tg (K:e7) (CB CC CP CO CS CN:fe) (H:Hp) (x:fe) (nm:Za6) (ds os:Za4) (dx w s b l sp nk:fe) (as es:List fe):Prop where
 hx:H x=en (.ins CN dx (nFs (.ref w) (.ref s) (.ref b) (.ref l) (.ref sp) (.ref nk)))
 hw:Ch K CB CC CP CO H w ds
 hs:La CS H s os 16
 hb:A0 K CC H b (bgN (sN nm))
 hl:H l=en (.lst (as.map V.ref))
 hr:S8 H as (jV nm)
 hp:H sp=en (.dK (Jc [] ((jV nm).map (·.1)) (es.map V.ref)))
 he:kJ H es (jV nm)
 hk:∃ts,H nk=en (.tup ts)/\Adj ds.9 ts
def Ex (K:e7)(CB CC CP CO CS CN:fe)(H:Hp)(x:fe)(nm:Za6)(ds os:Za4):Prop:=nm.9=ds.9/\nm.9<64/\Afe nm os/\∃dx w s b l sp nk as es,Tg K CB CC CP CO CS CN H x nm ds os dx w s b l sp nk as es
theorem Tg.kp {K:e7}{CS CN:fe}{x:fe}{nm:Za6}{ds os:Za4}{w s b l sp nk:fe}{as es:List fe}(h:Tg K CB CC CP CO CS CN H x nm ds os dx w s b l sp nk as es)(k:Kp H H'):Tg K CB CC CP CO CS CN H' x nm ds os dx w s b l sp nk as es:=
 {k.k h.hx,h.hw.kp k,h.hs.kp k,h.hb.kp k,k.k h.hl,h.hr.kp k,k.k h.hp,h.he.kp k,let ⟨ts,a,b⟩:=h.hk;{ts,k.k a,b}}
theorem Ex.kp {K:e7}{CS CN:fe}{x:fe}{nm:Za6}{ds os:Za4}(h:Ex K CB CC CP CO CS CN H x nm ds os)(k:Kp H H'):Ex K CB CC CP CO CS CN H' x nm ds os:=
 by obtain⟨h1,h2,h0,dx,w,s,b,l,sp,nk,as,es,h3⟩:=h;exact{h1,h2,h0,dx,w,s,b,l,sp,nk,as,es,h3.kp k}
theorem lB:∀{xs:List V},xs.all nmV=NG->∃nm:Za6,xs=sV nm/\∀z∈nm,Rr z=NG
 |[],_=>{[],rfl,λz h=>by cases h}
 |x::xs,h=>by
  rw[sq,ka] at h;obtain⟨nm,rfl,hn⟩:=lB h.2
  cases x with
  |str z=>exact⟨z::nm,rfl,λy hy=>(i5.mp hy).elim (λe=>e▸h.1) (hn y)⟩
  |_=>cases h.1
inductive Vt (K:e7)(CB CC CP CO CS CN CM CF:fe)(ts:List Tb)(vs:List V)(H:Hp)(Q:VK)(E:XK):Prop|mk(x dx w a:fe)(xs:List V)(ds:Za4)(_:vs=[.ref x,.ref w,.ref a])(_:H x=en (.ins CN dx []))(_:Ch K CB CC CP CO H w ds)(_:H a=en (.lst xs))(_:(∀x∈xs,NmT K H x))(_:xs.9<64)(_:Tbs ts H)(_:(∀nm,xs=sV nm->(∀z∈nm,Rr z=NG)->nm.9=ds.9->∀os H',SmB ts x H H'->Ex K CB CC CP CO CS CN H' x nm ds os->Q .non H'))(_:(∀k,Zv xs k->fZ CM H E (.int (k:Nat))))(_:(xs.all nmV=NG->xs.9≠ds.9->∀H',Ag H H'->E (.ref CF) p9 H'))
variable (aj:Qc K af) (ZO:Qb K ae)
include T hK hB aI aj ZO in
theorem W6 {f c:fe}(F:Tf K "__init__" "Named.__init__" Di f fd c Pt)(hts:({Pt,Ls,"Named.__init__.<locals>.<lambda>"}:Tb)∈ts)(cG:yJ P w K mg base "check_names" 3 ["names"] (Sf K ah))(cH:xK P w K mg base "Shortcuts" ag 4 ["self","order","step"] (Mq ag) [.int 16])(cI:T.ZC "begins_of" 5 ["things"] (Um K ac))(cJ:T.ZC "stretches_of" 1 ["names"] Sb)(cK:T.ZC "namesakes_above" 1 ["elders","names"] Ab0)(cL:T.ZM ae "elders" 9 ["self"] (Zh K ad ac aa ae)) :
  Aq P w K mg base (CXE P w) 10 f fd ["self","wood","names"] (Vt K ad ac aa ae ag af ah aq ts):=by
 refine F.okE X4 (λvs H Q E h=>?_) (λA outer s H vs Q E hr h=>?_)
 .obtain⟨x,dx,wd,a,xs,ds,rfl,_⟩:=h
  rfl
 .obtain⟨x,dx,wd,a,xs,ds,rfl,hx,hW,ha,hNt,h64,hT,q,qm,qf⟩:=h
  have hW0:=hW.hid hx;have nax:a≠x:=Iw ha hx (by intro z;cases z);have b0:SmB ts x H H:=SmB.refl hT;refine⟨_,(Ab (As (R6 cG hr.m (F1 rfl) (tpa (pv 2) Aa))) (Ab (Bl (ttc Na (Ao At (by rfl) T.c7 Cb (tpa (pv 2) Aa)) (Jk aI hr.m (pv 1))) (Ad (lV T.eS rfl (tpa A5 Aa)))
   Au) (Ab (tsf (pv 0) (pv 1)) (Ab (tsf (pv 0) (Ad8 cH hr.m (F1 rfl) (tpa (vR (qual:="Named.__init__.<locals>.<lambda>") (i:=2) (cl:=s.heap.objs.8+1) rfl hr.m rfl T.ed (Aee rfl T.c8 (tpa (Ao At (by rfl) T.c7 Cb (tpa (pv 2) Aa)) Aa)) (F.code hK) hB rfl rfl (by kernel_rfl) (by kernel_rfl) (by kernel_rfl) (by kernel_rfl) (λ_ _ _ _ _=>rfl)) Aa))) (Ab (tsf (pv 0) (Aw cI hr.m (tpa (Ao Pg (by rfl) T.ed Xo (tpa (pv 2) Aa)) Aa))) (Ab (tsf (pv 0) (Aw cJ hr.m (tpa (Ao Pg (by rfl) T.ed Xo (tpa (pv 2) Aa)) Aa))) (Ab (tsf (pv 0) (Cn (qO rfl) (by rfl) T.ej Ab5 (tpa (Ja rfl Sy (Ey (tfl (pv 0))) (λ_ _ _ _=>Cf) (λ_ _ _ _=>(Kk (tpa (tix (Tt K) (pv 0) Af) (tpa (Kk (tpa (tix (Tt K) (pv 0) Af) (tpa (tix (Tt K) (pv 0) Af) Aa))) Aa))))) Aa))) (Ad (tsf (pv 0) (Aw cK hr.m (tpa (Jk cL hr.m (pv 1)) (tpa (pv 2) Aa)))))))))))),?_⟩
  apply{a,xs,rfl,ha,hNt,(),λhall H1 s1=>?_,qm};obtain⟨nm,rfl,hN⟩:=lB hall;rw[Dm] at h64 qf;have b1:=b0.then s1;have hx1:=s1 _ _ hx;have ha1:=s1 _ _ ha;apply{a,_,rfl,.inl (SqL.of ha1),?_};rw[Dm];have hW1:=hW.kp (Ag.kp s1);obtain⟨dw,pw,hw1,_⟩:=id hW1;apply{wd,dw,_,rfl,hw1,rfl,?_};apply{wd,ds,rfl,hW1,?_};apply Oy (λh=>?_) (λhnl=>?_)
  .k_is
   exact{by decide,qf hall (λe=>h (by rw[e])) H1 s1}
  have hnl:nm.9=ds.9:=by have:=V.int.inj hnl;lia
  apply Mi hx1 aj.cl aj.dW (show 0<1000 by decide) b1 λH2 hx2 b2 _=>?_;have ha2:=b2.k ha nax;apply{a,_,rfl,.inl (SqL.of ha2),?_};rw[Dm];apply{nm.9,rfl,(),λr hr2=>?_};obtain⟨u3,hr3⟩:=Ar (o:=.rng 0 (nm.9:Int)) hr2;have b3:=b2.then u3;have hx3:=u3 _ _ hx2;have ha3:=u3 _ _ ha2;generalize upd H2 r _=H3 at *;refine{r,a,nm,rfl,rfl,ha3,h64,hr3,b3.ok.1 _ hts,λo is H4 sx t4 ho3 hso ho4=>?_};obtain⟨os,eos,hOs⟩:=Adn hso;rw[eos] at ho4;have k4:=Aa8 b3.ok hts sx t4;have b4:=b3.sm k4;have hx4:=k4.k hx3;have ha4:=k4.k ha3;k_is;intro sx dsx hsx hdsx hsxd;have nsx:sx≠x:=(An hx4 hsx).symm;refine{sx,dsx,o,os,16,rfl,Ae,Hs hsx hdsx _ _ ho4,hOs.ord,by rw[hOs.len];lia,by decide,λH5 s5 hS5=>{rfl,?_}};have s5:=Hk hsx hdsx s5;have b5:=b4.then s5;have hx5:=s5 _ _ hx4;have hS5:=hS5.hid hx5 nsx;apply Mi hx5 aj.cl aj.dH (show 1<1000 by decide) b5 λH6 hx6 b6 k6=>?_;have ha6:=b6.k ha nax;apply{a,nm,rfl,SqL.of ha6,h64,λzs q1 hz1 hz2 hq1=>?_};obtain rfl:=zJ hz1 hz2;obtain⟨u7,hq7⟩:=Ar (o:=.lst (sV (sN nm))) hq1;have b7:=b6.then u7;have hx7:=u7 _ _ hx6;have k7:=k6.then u7;generalize upd H6 q1 _=H7 at *;apply{q1,sN nm,rfl,hq7,by rw[hOs.sl];lia,λb H8 s8 hb8 hC8=>?_};have b8:=b7.then s8;have hx8:=s8 _ _ hx7;have k8:=k7.then s8;have hC8:=hC8.hid hx8 (An hx7 hb8).symm;apply Mi hx8 aj.cl aj.ez (show 2<1000 by decide) b8 λH9 hx9 b9 k9=>?_;have ha9:=b9.k ha nax;apply{a,nm,rfl,SqL.of ha9,h64,λzs q2 hz1 hz2 hq2=>?_};obtain rfl:=zJ hz1 hz2;obtain⟨u10,hq10⟩:=Ar (o:=.lst (sV (sN nm))) hq2;have b10:=b9.then u10;have hx10:=u10 _ _ hx9;have k10:=k9.then u10;generalize upd H9 q2 _=H10 at *;apply{q2,sN nm,rfl,hq10,by rw[hOs.sl];lia,λl as H11 s11 hl10 hl11 hR11=>?_};rw[hOs.sl] at hR11;have b11:=b10.then s11;have hx11:=s11 _ _ hx10;have k11:=k10.then s11;have nlx:l≠x:=(An hx10 hl10).symm;have hR11:=hR11.hid hx11;apply Mi hx11 aj.cl aj.eh (show 3<1000 by decide) b11 λH12 hx12 b12 k12=>?_;have hl12:=k12.k hl11 nlx;have hR12:=hR11.kp k12.hk;apply{x,af,dx,_,_,rfl,hx12,aj.cl,aj.eh,rfl,?_};apply{l,rfl,{_,SqL.of hl12},?_};refine U1 (SqL.of hl12) (λi ys H=>∃cs es:List fe,ys=cs.map V.ref/\hZ H cs es ((J3 (sN nm) nm.9).take i)) (λH _=>{[],[],rfl,rfl,rfl,λi c e r e1=>by cases e1}) (λi ys H D zs o hz ⟨cs,es,e,hP⟩=>{cs,es,e,hP.1,hP.2.1,λi c e r e1 e2 e3=>?_})
   (λi ys H hi ⟨cs,es,e,hP⟩=>?_) (λi ys y H13 A R hy s13 ⟨cs,es,e,hP⟩ hA=>?_) (λD ys H13 hD s13 ⟨cs,es,e,hP⟩ hD13=>?_)
  .obtain⟨a1,a2⟩:=hP.2.2 i c e r e1 e2 e3
   exact{by rw[Aj (Iw a1 hz (by intro z;cases z))];exact a1,by rw[Aj (Iw a2 hz (by intro z;cases z))];exact a2}
  .have:=yF (sN nm) nm.9
   rw[e,fb,hP.1,gq];exact Ai ()
  .subst e
   rw[fg] at hy;obtain⟨c,hc,rfl⟩:=jj.mp hy;obtain⟨rw3,hrw⟩:∃r,(J3 (sN nm) nm.9)[i]?=en r:={_,fc (by rw[<-hR12.1];exact Bt hc)};have hc13:=s13 _ _ (hR12.2 i c rw3 hc hrw);apply Cc (SqT.of hc13) (v:=.str rw3.1) rfl ?_;apply Cc (SqT.of hc13) (v:=.int rw3.2.1) rfl ?_;apply Cc (SqT.of hc13) (v:=.int rw3.2.2) rfl ?_;apply{few (by simp),λe he=>?_};obtain⟨u1,he1⟩:=Ar (o:=.tup [.int rw3.2.1,.int rw3.2.2]) he;generalize upd H13 e _=H14 at *;apply{few (by simp),λc2 hc2=>?_};have u2:=Al (o:=.tup [.str rw3.1,.ref e]) hc2;refine hA _ _ (u1.trans u2) {cs++[c2],es++[e],by rw[ge];rfl,?_};rw[i6,hrw];exact(hP.kp (Ag.kp (u1.trans u2))).snoc Ae (u2 _ _ he1)
  subst e;have hrl:(J3 (sN nm) nm.9).9=as.9:=hR12.1.symm;rw[gp (by rw[fb,hrl];exact fm _)] at hP;have b13:=b12.then s13;have hx13:=s13 _ _ hx12;have k13:=k12.then s13;apply{D,cs,(J3 (sN nm) nm.9).map (·.1),es.map V.ref,rfl,hD13,{by rw[fb,hP.1],by rw[fb,hP.1,hP.2.1],λi c k y e1 e2 e3=>?_},?_,λsp hsp=>?_}
  .rw[fg] at e2 e3
   obtain⟨r,hr,rfl⟩:=jj.mp e2;obtain⟨e,he,rfl⟩:=jj.mp e3;exact(hP.2.2 i c e r e1 he hr).1
  .have:=Zi ((J3 (sN nm) nm.9).map (·.1)) (es.map V.ref) []
   simpa using this
  have u14:=Al (o:=.dK (Jc [] ((J3 (sN nm) nm.9).map (·.1)) (es.map V.ref))) hsp;have b14:=b13.then u14;have hx14:=u14 _ _ hx13;have k14:=k13.then u14;have hsp14:=@Ae H13 sp (.dK (Jc [] ((J3 (sN nm) nm.9).map (·.1)) (es.map V.ref)));have nspx:sp≠x:=(An hx13 hsp).symm;have hE14:=(hP.se.kp (Ag.kp u14)).hid hx14;generalize upd H13 sp _=H14 at *;apply Mi hx14 aj.cl aj.eI (show 4<1000 by decide) b14 λH15 hx15 b15 k15=>?_;have hW15:=hW0.kp b15.hk;have ha15:=b15.k ha nax;obtain⟨dw',pw',hw15,_⟩:=id hW15;apply{wd,dw',_,rfl,hw15,rfl,?_};apply{wd,ds,rfl,hW15,λe H16 s16 _ he16=>?_};have hD:=hW15.choose_spec.choose_spec.2.2.1;apply{e,a,nm,F6 ds,rfl,he16,s16 _ _ ha15,by rw[F3];exact hnl,by rw[F3];lia,λnk nts H17 s17 _ hnk17 hnts=>?_};have s17:=s16.trans s17;have b17:=b15.then s17;have hx17:=s17 _ _ hx15;apply Mi hx17 aj.cl aj.eB (show 5<1000 by decide) b17 λH18 hx18 b18 k18=>?_;have K15:=(k15.then s17).trans k18;have K12:=k14.trans K15;have K9:=k11.trans K12;have K6:=k8.trans K9;have nnk:nk≠x:=Iw hnk17 hx17 (by intro z;cases z);exact q nm rfl hN hnl os H18 b18 {hnl,h64,hOs,dx,wd,sx,b,l,sp,nk,as,es,hx18,hW0.kp b18.hk,hS5.kp K6.hk,hC8.kp K9.hk,K12.k hl11 nlx,hR11.kp K12.hk,K15.k hsp14 nspx,hE14.kp K15.hk,nts,k18.k hnk17 nnk,F3 ds▸hnts}
inductive T4 (K:e7)(CB CC CP CO CS CN:fe)(vs:List V)(H:Hp)(Q:VK)(E:XK):Prop|mk(x:fe)(nm:Za6)(ds os:Za4)(lo hi:Nat)(_:vs=[.ref x,.int lo,.int hi])(_:Ex K CB CC CP CO CS CN H x nm ds os)(_:lo<=nm.9)(_:hi<=nm.9)(_:∀p H',Ag H H'->Q (.ref p) H')
variable (aJ:T.ZM ag "there" 1 ["self","place"] (tO ag))
include T aj aJ in
theorem Wj (F:Fun K "knots_at" "Named.knots_at" Eg f fd):Aq P w K mg base CX0 2 f fd ["self","low","high"] (T4 K ad ac aa ae ag af):=by
 exists F.ok O3
 obtain⟨x,nm,ds,os,lo,hi,rfl,⟨hnl,h64,hOs,dx,wd,sx,b,l,sp,nk,as,es,hN⟩,h1,h2,q⟩:=h;refine{_,(Ad (Am (Ja rfl M3 (Y8 rfl T.c8 (tpa (pv 1) (tpa (pv 2) Aa))) (λ_ _ _ _=>Cf) (λ_ _ _ _=>(Av aJ hr.m (sJ K (pv 1)) (tpa (pv 0) Aa)))))),?_};apply{_,_,rfl,{(),(),(),()},?_};rw[show((hi:Int)-(lo:Int)).toNat=hi-lo by lia];refine Jy (λi=>nV ((os.drop lo).take i)) rfl (λi hi=>?_) (λi H1 R A hi s1 kR kA=>?_) (λD H1 hD s1 hD1=>?_)
 .rw[Cp,gq]
  exact Ai ()
 .have hol:=hOs.len
  obtain⟨v,hv⟩:∃v,os[lo+i]?=en v:={_,fc ()};have hN1:=hN.kp (Ag.kp s1);obtain⟨d5,t5,e5,hs5,_⟩:=id hN1.hs;apply{x,af,dx,_,_,rfl,hN1.hx,aj.cl,aj.dH,rfl,?_};apply{sx,d5,_,rfl,hs5,rfl,?_};apply{sx,os,16,lo+i,v,by rw[HA];rfl,hN1.hs,hv,?_};refine kA _ _ ?_ (Ag.refl _);rw[i6,mi,hv];exact(Ku _ _).symm
 exact q D H1 s1
inductive T2 (K:e7)(CN:fe)(vs:List V)(H:Hp)(Q:VK)(E:XK):Prop|mk(x:V)(_:vs=[x])(_:NmT K H x)(_:(nmV x=NG->∀H',Ag H H'->Q .non H'))(_:(nmV x=NH->fZ CN H E .non))
include T bt bu in
theorem Yl (F:Fun K "check_name" "check_name" Kq f fd):Aq P w K mg base (CXE P w) 3 f fd ["name"] (T2 K ah):=by
 exists F.okE Yg
 obtain⟨x,rfl,hm,q,qe⟩:=h;refine⟨_,(Ad (Bl (Cw (B4 (Aw bu hr.m (tpa (pv 0) Aa)))) (Ad (Ys bt hr.m rfl (tpa C9 Aa)))
  Au)),?_⟩
 apply{x,rfl,hm.1,hm.2,λH1 s1=>?_}
 cases hx:nmV x with
 |true=>
  k_is;exact q hx H1 s1
 |false=>
  k_is;exact{_,rfl,trivial,λdx hd=>(qe hx).out s1 hd}
inductive gZ (K:e7)(CB CC CP CO CS CN CK CM:fe)(vs:List V)(H:Hp)(Q:VK)(E:XK):Prop|mk(x:fe)(nm:Za6)(ds os:Za4)(k z:V)(_:vs=[.ref x,k,z])(_:Ex K CB CC CP CO CS CN H x nm ds os)(_:Any K H k)(_:NmT K H z)(_:(inI k 0 ((ds.9:Int)-1)=NG->nmV z=NG->∀H',Ag H H'->Q .non H'))(_:(inI k 0 ((ds.9:Int)-1)=NH->E (.ref CK) p9 H))(_:(inI k 0 ((ds.9:Int)-1)=NG->nmV z=NH->fZ CM H E .non))
variable (bv:yJ P w K mg base "check_name" 3 ["name"] (T2 K ah))
include T aS aI aj bv in
theorem Qy (F:Fun K "check_both" "Named.check_both" Fd f fd) :
  Aq P w K mg base (CXE P w) 4 f fd ["self","k","name"] (gZ K ad ac aa ae ag af am ah):=by
 exists F.okE Mz
 obtain⟨x,nm,ds,os,k,z,rfl,⟨hnl,h64,hOs,dx,wd,sx,b,l,sp,nk,as,es,hN⟩,hk,hz,q,qk,qm⟩:=h;obtain⟨dw,pw,hw,_⟩:=id hN.hw;refine{_,(Ab (As (R6 aS hr.m (F1 rfl) (tpa (pv 1) (tpa (Jk aI hr.m (tfl (pv 0))) Aa)))) (Ad (As (R6 bv hr.m (F1 rfl) (tpa (pv 2) Aa))))),?_}
 apply{x,af,dx,_,_,rfl,hN.hx,aj.cl,aj.dW,rfl,?_};apply{wd,dw,_,rfl,hw,rfl,?_};apply{wd,ds,rfl,hN.hw,?_};apply{k,_,rfl,hk,λhi=>?_,qk};apply{z,rfl,hz,λhm H1 s1=>?_,qm hi};k_is;exact q hi hm H1 s1
theorem Tq {k:V}{n:Nat}(h:inI k 0 ((n:Int)-1)=NG):∃j:Nat,k=.int (j:Nat)/\j<n:=by
 cases k with
 |int i=>
  rw[Tx,ka] at h;have h1:=of_decide_eq_true h.1;have h2:=of_decide_eq_true h.2;obtain⟨j,rfl⟩:=lz h1;exact{j,rfl,()}
 |_=>cases h
inductive Zb (K:e7)(CB CC CP CO CS CN CK:fe)(vs:List V)(H:Hp)(Q:VK)(E:XK):Prop|mk(x:fe)(nm:Za6)(ds os:Za4)(k:V)(_:vs=[.ref x,k])(_:Ex K CB CC CP CO CS CN H x nm ds os)(_:Any K H k)(_:(∀(j:Nat) z,k=.int (j:Nat)->nm[j]?=en z->∀H',Ag H H'->Q (.str z) H'))(_:(inI k 0 ((ds.9:Int)-1)=NH->E (.ref CK) p9 H))
include T ba aS aI aj in
theorem Wn (F:Fun K "name_of" "Named.name_of" Ha f fd)(cM:T.ZM ag "back" 2 ["self","place"] (uF ag)):Aq P w K mg base (CXE P w) 5 f fd ["self","k"] (Zb K ad ac aa ae ag af am):=by
 exists F.okE Jt
 obtain⟨x,nm,ds,os,kv,rfl,⟨hnl,h64,hOs,dx,wd,sx,b,l,sp,nk,as,es,hN⟩,hA,q,qk⟩:=h;obtain⟨dw,pw,hw1,_⟩:=id hN.hw;refine{_,(Ab (As (R6 aS hr.m (F1 rfl) (tpa (pv 1) (tpa (Jk aI hr.m (tfl (pv 0))) Aa)))) (Ab (tst 2 Jt.nd (Ak B0 (Av ba hr.m (tfl (pv 0)) (tpa Af (tpa (Ak Bd (Av cM hr.m (tfl (pv 0)) (tpa (pv 1) Aa)) Af) Aa))) Af)) (Ad (Am (tix Bh (tix Bp (tfl (pv 0)) (pv 2)) Af))))),?_}
 apply{x,af,dx,_,_,rfl,hN.hx,aj.cl,aj.dW,rfl,?_};apply{wd,dw,_,rfl,hw1,rfl,?_};apply{wd,ds,rfl,hN.hw,?_};apply{kv,ds.9,rfl,hA,λhi=>?_,qk};obtain⟨k,rfl,hk⟩:=Tq hi;rw[<-hnl] at hk;obtain⟨z,hz⟩:∃z,nm[k]?=en z:={_,fc hk};have q:=q k z rfl hz;k_is;obtain⟨d6,t6,u6,hb6,_⟩:=id hN.hb;obtain⟨d5,t5,e5,hs5,_⟩:=id hN.hs;refine{x,af,dx,_,_,rfl,hN.hx,aj.cl,aj.ez,rfl,?_};refine{b,d6,_,rfl,hb6,rfl,?_};apply{x,af,dx,_,_,rfl,hN.hx,aj.cl,aj.dH,rfl,?_};apply{sx,d5,_,rfl,hs5,rfl,?_};k_is;have hO:=hOs.ord;have hol:=hOs.len;refine{sx,os,16,k,rfl,hN.hs,hO,(),(),λlp H1 s1 hlk=>?_};have hN1:=hN.kp (Ag.kp s1);obtain⟨z',hz',hsz⟩:=hOs.at' _ _ hlk;obtain rfl:z=z':=fk (hz.symm.trans hz');have hlt:=Bt hlk;have hsl:=hOs.sl;apply{b,_,NG,lp+1,rfl,hN1.hb,by unfold bgN;rw[fb,fv];lia,λH2 s2=>?_};have hN2:=hN1.kp (Ag.kp s2);obtain⟨c,hc,b9,e9,hrow⟩:=Acv hsz;rw[hsl] at hrow;rw[hc];apply{x,af,dx,_,_,rfl,hN2.hx,aj.cl,aj.eh,rfl,?_};k_is;have hcl:c<as.9:=by rw[hN2.hr.1];exact Bt hrow
 rw[show(((c+1:Nat):Int)-1)=(c:Int) by lia];refine Cm (SqL.of hN2.hl) (v:=.ref as[c]) (Bi (by rw[fg,fc hcl];rfl)) ?_;apply Cc (SqT.of (hN2.hr.2 c _ _ (fc hcl) hrow)) (v:=.str z) rfl ?_;k_is;exact q _ (s1.trans s2)
theorem oB {k:Key}{v:V}:∀(ks:Za6) (ys:List V) (kvs:List (Key×V)),Cd (Jc kvs ks ys) k=en v->v∈ys\/Cd kvs k=en v
 |[],_,_,h=>.inr h
 |_::_,[],_,h=>.inr h
 |x::ks,y::ys,kvs,h=>by
  rcases oB ks ys (Gg kvs (.inr x) y) h with h|h
  .exact .inl (gw _ h)
  .rw[Lm] at h
   by_cases e:k=.inr x
   .rw[if_pos e] at h
    exact .inl (by rw[fk h];exact gt)
   .rw[if_neg e] at h
    exact .inr h
theorem xG {k:Nat}{i:Nat}{r:Str×Nat×Nat}(h:(J3 S k)[i]?=en r):r.2.1<=r.2.2/\r.2.2<=k:=by
 unfold J3 at h;rw[fg] at h;obtain⟨p,hp,rfl⟩:=jj.mp h;obtain⟨h1,h2⟩:=mf.mp hp;have hi:=Bt h1;show p.1<=p.2/\p.2<=k
 by_cases hl:i+1<(bgs S k).9
 .rw[gv (by rw[jb];lia),mi] at h2
  exact{gy (uM h1 h2 ()),gy (Uo h2).1}
 .rw[ig (by rw[jb];lia),jb,show i-((bgs S k).9-1)=0 by lia] at h2
  have e:p.2=k:=(fk h2).symm;rw[e];exact{gy (Uo h1).1,fm _}
structure SpR (H:Hp) (x:fe) (z:Str) (lo hi:Nat):Prop where
 ex:∃C dx fs sp kvs,H x=en (.ins C dx fs)/\fs.lookup ("spans":Str)=en (V.ref sp)/\H sp=en (.dK kvs)/\((Cd kvs (.inr z:Key)=p9/\lo=0/\hi=0)\/∃e,Cd kvs (.inr z:Key)=en (.ref e)/\H e=en (.tup [.int (lo:Nat),.int (hi:Nat)]))
theorem SpR.kp {x:fe}{lo hi:Nat}(h:SpR H x z lo hi)(k:Kp H H'):SpR H' x z lo hi:=by
 obtain⟨C,dx,fs,sp,kvs,h1,h2,h3,h4⟩:=h.ex;exact{C,dx,fs,sp,kvs,k.k h1,h2,k.k h3,h4.imp id λ⟨e,e1,e2⟩=>{e,e1,k.k e2}}
theorem SpR.uniq {x:fe}{lo hi lo' hi':Nat}(h:SpR H x z lo hi)(h':SpR H x z lo' hi'):lo=lo'/\hi=hi':=by
 obtain⟨C,dx,fs,sp,kvs,h1,h2,h3,h4⟩:=h.ex;obtain⟨C',dx',fs',sp',kvs',g1,g2,g3,g4⟩:=h'.ex;rw[h1] at g1;cases g1;rw[h2] at g2;cases g2;rw[h3] at g3;cases g3;rcases h4 with⟨a1,a2,a3⟩|⟨e,a1,a2⟩
 .rcases g4 with⟨_,b2,b3⟩|⟨e',b1,_⟩
  .exact{a2.trans b2.symm,a3.trans b3.symm}
  .rw[a1] at b1
   cases b1
 .rcases g4 with⟨b1,_⟩|⟨e',b1,b2⟩
  .rw[a1] at b1
   cases b1
  .rw[a1] at b1
   cases b1;rw[a2] at b2
   injection b2 with b2
   injection b2 with b2
   injection b2 with c1 c2
   injection c2 with c2 _
   have:=V.int.inj c1;have:=V.int.inj c2;lia
inductive gI (K:e7)(CB CC CP CO CS CN:fe)(vs:List V)(H:Hp)(Q:VK)(E:XK):Prop|mk(x:fe)(nm:Za6)(ds os:Za4)(z:Str)(_:vs=[.ref x,.str z])(_:Ex K CB CC CP CO CS CN H x nm ds os)(_:∀(t:fe) (lo hi:Nat) H',SpR H x z lo hi->lo<=hi->hi<=nm.9->Ag H H'->H' t=en (.tup [.int lo,.int hi])->Q (.ref t) H')
include T aj in
theorem Wp (F:Fun K "span_of" "Named.span_of" G6 f fd) :
  Aq P w K mg base CX0 1 f fd ["self","name"] (gI K ad ac aa ae ag af):=by
 exists F.ok Rv
 obtain⟨x,nm,ds,os,z,rfl,⟨hnl,h64,hOs,dx,wd,sx,b,l,sp,nk,as,es,hN⟩,q⟩:=h;refine{_,(Ad (Am (Cj uz BQ PySem.F.type_dict_get Adq (tfl (pv 0)) (tpa (pv 1) (tpa (Kk (tpa Af (tpa Af Aa))) Aa))))),?_};apply{x,af,dx,_,_,rfl,hN.hx,aj.cl,aj.eI,rfl,?_};apply{.inr (.inr (.inl {rfl,.inl {_,hN.hp}})),?_};apply{few (by simp),λt ht=>?_};obtain⟨s1,ht1⟩:=Ar (o:=.tup [.int 0,.int 0]) ht;generalize upd H t _=H1 at *;apply{sp,_,z,_,rfl,rfl,s1 _ _ hN.hp,?_}
 cases hv:Cd (Jc [] ((jV nm).map (·.1)) (es.map V.ref)) (.inr z) with
 |none=>
  k_is;exact q t 0 0 H1 {_,_,_,_,_,hN.hx,rfl,hN.hp,.inl ⟨hv,rfl,rfl⟩} (fm _) (ij _) s1 ht1
 |some v=>
  rcases oB _ _ _ hv with h|h
  .obtain⟨e,he,rfl⟩:=je.mp h
   obtain⟨i,hi⟩:=xp he;obtain⟨r,hr1⟩:∃r,(jV nm)[i]?=en r:={_,fc (by rw[<-hN.he.1];exact Bt hi)};obtain⟨b1,b2⟩:=xG hr1;k_is;exact q e _ _ H1 {_,_,_,_,_,hN.hx,rfl,hN.hp,.inr {e,hv,hN.he.2 i e r hi hr1}} b1 b2 s1 (s1 _ _ (hN.he.2 i e r hi hr1))
  .cases h
inductive Xz (K:e7)(CB CC CP CO CS CN:fe)(ts:List Tb)(vs:List V)(H:Hp)(Q:VK)(E:XK):Prop|mk(x:fe)(nm:Za6)(ds os:Za4)(k:Int)(z:Str)(_:vs=[.ref x,.int k,.str z])(_:Ex K CB CC CP CO CS CN H x nm ds os)(_:Tbs ts H)(_:∀(lo m hi:Nat) H',SpR H x z lo hi->lo<=m->m<=hi->hi<=nm.9->(lo<m->∀v,os[m-1]?=en v->(v:Int)<k)->SmT ts H H'->Q (.int (m:Nat)) H')
variable (aK:T.ZM af "span_of" 1 ["self","name"] (gI K ad ac aa ae ag af))
include T hK hB aX aj aJ aK in
theorem Qz {f c:fe}(F:Tf K "first_from" "Named.first_from" Bv f fd c Pt)(hts:({Pt,Gw,"Named.first_from.<locals>.<lambda>"}:Tb)∈ts) :
  Aq P w K mg base CX0 4 f fd ["self","k","name"] (Xz K ad ac aa ae ag af ts):=by
 refine F.ok Hc (λvs H Q E h=>?_) (λA outer s H vs Q E hr h=>?_)
 .obtain⟨x,nm,ds,os,k,z,rfl,_⟩:=h
  rfl
 .obtain⟨x,nm,ds,os,k,z,rfl,hNm,hT,q⟩:=h
  obtain⟨hnl,h64,hOs,dx,wd,sx,b,l,sp,nk,as,es,hN⟩:=id hNm;refine{_,(Ab (tst 3 Hc.nd (Av aK hr.m (pv 0) (tpa (pv 2) Aa))) (Ad (Am (Aaa (qual:="Named.first_from.<locals>.<lambda>") (k:=1) aX hr.m (tix Bh (pv 3) Af) (tix Bh (pv 3) Af) (F.code hK) hB rfl (by kernel_rfl) J4 (λ_ _ _ _ _ _ _ hr=>(tpc Ae2 (Av aJ hr.m (sJ K (pv 2)) (tpa (pv 0) Aa)) (pv 1))))))),?_}
  apply{x,dx,_,rfl,hN.hx,rfl,?_};apply{x,nm,ds,os,z,rfl,hNm,λt lo hi H1 hS h1 h2 s1 ht=>?_};have hT1:=hT.same s1;have hN1:=hN.kp (SmT.of hT s1).kp;have hol:=hOs.len;apply Cc (SqT.of ht) (v:=.int (lo:Int)) rfl ?_;apply Cc (SqT.of ht) (v:=.int (hi:Int)) rfl ?_;k_is;have hk:=hT1.1 _ hts;refine{lo,hi,λi=>decide (k<=(os.getD i.toNat 0:Nat)),rfl,rfl,(),hk,λi H3 hi1 hi2 s3=>?_,λm H' hm1 hm2 hm3 hm4 s' t'=>?_}
  .obtain⟨pt,hpt⟩:=Tb.tbl hk
   have kp:Kp H1 H3:=λb u nt e=>s3 b u (λz=>by rw[z,hpt] at e;cases e;exact nt pt rfl) e;have hN3:=hN1.kp kp;obtain⟨ds',t',d',hsx,_⟩:=id hN3.hs;obtain⟨j,rfl⟩:=lz (show 0<=i by lia);obtain⟨v,hv⟩:∃v,os[j]?=en v:={_,fc ()};apply{x,af,dx,_,_,rfl,hN3.hx,aj.cl,aj.dH,rfl,?_};apply{sx,ds',_,rfl,hsx,rfl,?_};apply{sx,_,_,j,v,rfl,hN3.hs,hv,?_};apply{?_,Ag.refl _};rw[gr,iq,hv];rfl
  .obtain⟨j,rfl⟩:=lz (show 0<=m by lia)
   refine q lo j hi H' hS () () h2 (λhl v hv=>?_) ((SmT.of hT s1).trans (Aa8 hT1 hts s' t'));have:=hm3 ();dsimp only at this;rw[show((j:Int)-1).toNat=j-1 by lia,iq,hv] at this;exact Int.not_le.mp (of_decide_eq_false this)
inductive Ii (K:e7)(CB CC CP CO CS CN CK CM:fe)(ts:List Tb)(G:Nat->V->Hp->Prop)(vs:List V)(H:Hp)(Q:VK)(E:XK):Prop|mk(x:fe)(nm:Za6)(ds os:Za4)(k z:V)(_:vs=[.ref x,k,z])(_:Ex K CB CC CP CO CS CN H x nm ds os)(_:Tbs ts H)(_:Any K H k)(_:NmT K H z)(_:(inI k 0 ((ds.9:Int)-1)=NG->nmV z=NG->∀r H',G nm.9 r H'->SmT ts H H'->Q r H'))(_:(inI k 0 ((ds.9:Int)-1)=NH->E (.ref CK) p9 H))(_:(inI k 0 ((ds.9:Int)-1)=NG->nmV z=NH->fZ CM H E .non))
def GSp (n:Nat)(r:V)(H:Hp):Prop:=∃(t:fe) (lo hi:Nat),r=.ref t/\lo<=n/\hi<=n/\H t=en (.tup [.int lo,.int hi])
def jE (_:Nat)(_:V)(_:Hp):Prop:=True
theorem Th {z:V}(h:nmV z=NG):∃y,z=.str y:=by
 cases z with
 |str y=>exact⟨y,rfl⟩
 |_=>cases h
variable (aT:Xg P w K mg base af "check_both" 4 ["self","k","name"] (gZ K ad ac aa ae ag af am ah)) (aN:T.ZM af "first_from" 4 ["self","k","name"] (Xz K ad ac aa ae ag af ts))
include T aj aT aN in
theorem Qp (F:Fun K "span_beneath" "Named.span_beneath" Ed f fd)(cN:T.ZM ae "beneath" 12 ["self","k"] (Ml K ad ac aa ae ts)) :
  Aq P w K mg base (CXE P w) 13 f fd ["self","k","name"] (Ii K ad ac aa ae ag af am ah ts GSp):=by
 exists F.okE F9
 obtain⟨x,nm,ds,os,k,z,rfl,hNm,hT,hk,hz,q,qk,qm⟩:=h;obtain⟨hnl,h64,hOs,dx,wd,sx,b,l,sp,nk,as,es,hN⟩:=id hNm;obtain⟨dw,pw,hw,_⟩:=id hN.hw;refine{_,(Ab (As (Pu aT hr.m (F1 rfl) (pv 0) (tpa (pv 1) (tpa (pv 2) Aa)))) (Ab (tst 3 F9.nd (Ak Bd (Ak Bd (pv 1) (Av cN hr.m (tfl (pv 0)) (tpa (pv 1) Aa))) Af)) (Ad (Am (Kk (tpa (Av aN hr.m (pv 0) (tpa (pv 1) (tpa (pv 2) Aa))) (tpa (Av aN hr.m (pv 0) (tpa (pv 3) (tpa (pv 2) Aa))) Aa))))))),?_}
 apply{x,dx,_,rfl,hN.hx,rfl,?_};apply{x,nm,ds,os,k,z,rfl,hNm,hk,hz,λhi hm H1 s1=>?_,qk,qm};have q2:=q hi hm;obtain⟨k,rfl,hkl⟩:=Tq hi;obtain⟨z,rfl⟩:=Th hm;have r1:=SmT.of hT s1;apply{x,af,dx,_,_,rfl,r1.k hN.hx,aj.cl,aj.dW,rfl,?_};apply{wd,dw,_,rfl,r1.k hw,rfl,?_};apply{wd,ds,k,rfl,hN.hw.kp r1.kp,r1.ok,(),λi H2 s2=>?_};have r2:=r1.trans s2;apply{x,dx,_,rfl,r2.k hN.hx,rfl,?_};apply{x,nm,ds,os,k,z,rfl,hNm.kp r2.kp,r2.ok,λlo m hi H3 _ _ h1 h2 _ s3=>?_};have r3:=r2.trans s3;apply{x,dx,_,rfl,r3.k hN.hx,rfl,?_};apply{x,nm,ds,os,_,z,rfl,hNm.kp r3.kp,r3.ok,λlo' m' hi' H4 _ _ h1' h2' _ s4=>?_};have r4:=r3.trans s4;apply{few (by simp),λt ht=>?_};exact q2 _ _ {t,m,m',rfl,(),(),Ae} (r4.then (Al ht))
inductive Aax (K:e7)(CB CC CP CO CS CN CM:fe)(vs:List V)(H:Hp)(Q:VK)(E:XK):Prop|mk(x:fe)(nm:Za6)(ds os:Za4)(z:V)(_:vs=[.ref x,z])(_:Ex K CB CC CP CO CS CN H x nm ds os)(_:NmT K H z)(_:(nmV z=NG->∀r H',Ag H H'->Q r H'))(_:(nmV z=NH->fZ CM H E .non))
variable (bx:T.ZM af "knots_at" 2 ["self","low","high"] (T4 K ad ac aa ae ag af))
include T aj bv aK bx in
theorem Wz (F:Fun K "all_of" "Named.all_of" Ic f fd) :
  Aq P w K mg base (CXE P w) 4 f fd ["self","name"] (Aax K ad ac aa ae ag af ah):=by
 exists F.okE K0
 obtain⟨x,nm,ds,os,z,rfl,hNm,hz,q,qm⟩:=h;obtain⟨hnl,h64,hOs,dx,wd,sx,b,l,sp,nk,as,es,hN⟩:=id hNm;refine{_,(Ab (As (R6 bv hr.m (F1 rfl) (tpa (pv 1) Aa))) (Ab (tst 2 K0.nd (Av aK hr.m (pv 0) (tpa (pv 1) Aa))) (Ad (Am (Av bx hr.m (pv 0) (tpa (tix Bh (pv 2) Af) (tpa (tix Bh (pv 2) Af) Aa))))))),?_}
 apply{z,rfl,hz,λhm H1 s1=>?_,qm};have q2:=q hm;obtain⟨z,rfl⟩:=Th hm;apply{x,dx,_,rfl,s1 _ _ hN.hx,rfl,?_};apply{x,nm,ds,os,z,rfl,hNm.kp (Ag.kp s1),λt lo hi H2 _ h1 h2 s2 ht=>?_};have s12:=s1.trans s2;apply{x,dx,_,rfl,s12 _ _ hN.hx,rfl,?_};apply Cc (SqT.of ht) (v:=.int (lo:Int)) rfl ?_;apply Cc (SqT.of ht) (v:=.int (hi:Int)) rfl ?_;k_is;exact{x,nm,ds,os,lo,hi,rfl,hNm.kp (Ag.kp s12),(),h2,λp H3 s3=>q2 _ H3 (s12.trans s3)}
variable (bz:Xg P w K mg base af "span_beneath" 13 ["self","k","name"] (Ii K ad ac aa ae ag af am ah ts GSp))
include T aj bz in
theorem Qo (F:Fun K "many_beneath" "Named.many_beneath" Dz f fd) :
  Aq P w K mg base (CXE P w) 14 f fd ["self","k","name"] (Ii K ad ac aa ae ag af am ah ts jE):=by
 exists F.okE Gd
 obtain⟨x,nm,ds,os,k,z,rfl,hNm,hT,hk,hz,q,qk,qm⟩:=h;obtain⟨hnl,h64,hOs,dx,wd,sx,b,l,sp,nk,as,es,hN⟩:=id hNm;refine{_,(Ab (tst 3 Gd.nd (Pu bz hr.m (F1 rfl) (pv 0) (tpa (pv 1) (tpa (pv 2) Aa)))) (Ad (Am (Ak B0 (tix Bh (pv 3) Af) (tix Bh (pv 3) Af))))),?_}
 apply{x,dx,_,rfl,hN.hx,rfl,?_};apply{x,nm,ds,os,k,z,rfl,hNm,hT,hk,hz,λhi hm r H1 hG s1=>?_,qk,qm};obtain⟨t,lo,hi',rfl,h1,h2,ht⟩:=hG;apply Cc (SqT.of ht) (v:=.int (hi':Int)) rfl ?_;apply Cc (SqT.of ht) (v:=.int (lo:Int)) rfl ?_;k_is;exact q hi hm _ H1 trivial s1
include T aj bx bz in
theorem Qu (F:Fun K "all_beneath" "Named.all_beneath" El f fd) :
  Aq P w K mg base (CXE P w) 14 f fd ["self","k","name"] (Ii K ad ac aa ae ag af am ah ts jE):=by
 exists F.okE Gx
 obtain⟨x,nm,ds,os,k,z,rfl,hNm,hT,hk,hz,q,qk,qm⟩:=h;obtain⟨hnl,h64,hOs,dx,wd,sx,b,l,sp,nk,as,es,hN⟩:=id hNm;refine{_,(Ab (tst 3 Gx.nd (Pu bz hr.m (F1 rfl) (pv 0) (tpa (pv 1) (tpa (pv 2) Aa)))) (Ad (Am (Av bx hr.m (pv 0) (tpa (tix Bh (pv 3) Af) (tpa (tix Bh (pv 3) Af) Aa)))))),?_}
 apply{x,dx,_,rfl,hN.hx,rfl,?_};apply{x,nm,ds,os,k,z,rfl,hNm,hT,hk,hz,λhi hm r H1 hG s1=>?_,qk,qm};obtain⟨t,lo,hi',rfl,h1,h2,ht⟩:=hG;apply{x,dx,_,rfl,s1.k hN.hx,rfl,?_};apply Cc (SqT.of ht) (v:=.int (lo:Int)) rfl ?_;apply Cc (SqT.of ht) (v:=.int (hi':Int)) rfl ?_;k_is;exact{x,nm,ds,os,lo,hi',rfl,hNm.kp s1.kp,h1,h2,λp H2 s2=>q hi hm _ H2 trivial (s1.then s2)}
include T aj aJ aK aT aN in
theorem Wo (F:Fun K "next_of" "Named.next_of" G9 f fd) :
  Aq P w K mg base (CXE P w) 5 f fd ["self","k","name"] (Ii K ad ac aa ae ag af am ah ts jE):=by
 exists F.okE Js
 obtain⟨x,nm,ds,os,k,z,rfl,hNm,hT,hk,hz,q,qk,qm⟩:=h;obtain⟨hnl,h64,hOs,dx,wd,sx,b,l,sp,nk,as,es,hN⟩:=id hNm;refine{_,(Ab (As (Pu aT hr.m (F1 rfl) (pv 0) (tpa (pv 1) (tpa (pv 2) Aa)))) (Ab (tst 3 Js.nd (Av aN hr.m (pv 0) (tpa (pv 1) (tpa (pv 2) Aa)))) (Ad (Am (Ci (ttc Ot (pv 3) (tix Bh (Av aK hr.m (pv 0) (tpa (pv 2) Aa)) Af)) (Av aJ hr.m (tfl (pv 0)) (tpa (pv 3) Aa)) C9))))),?_}
 apply{x,dx,_,rfl,hN.hx,rfl,?_};apply{x,nm,ds,os,k,z,rfl,hNm,hk,hz,λhi hm H1 s1=>?_,qk,qm};have q2:=q hi hm;obtain⟨k,rfl,hkl⟩:=Tq hi;obtain⟨z,rfl⟩:=Th hm;have r1:=SmT.of hT s1;apply{x,dx,_,rfl,r1.k hN.hx,rfl,?_};apply{x,nm,ds,os,k,z,rfl,hNm.kp r1.kp,r1.ok,λlo m hi H2 hS _ _ _ _ s2=>?_};have r2:=r1.trans s2;have hS:=hS.kp s2.kp;apply{x,dx,_,rfl,r2.k hN.hx,rfl,?_};apply{x,nm,ds,os,z,rfl,hNm.kp r2.kp,λt lo' hi' H3 hS' _ h2 s3 ht=>?_};obtain⟨rfl,rfl⟩:=hS'.uniq hS;have r3:=r2.then s3;apply Cc (SqT.of ht) (v:=.int (hi':Int)) rfl ?_;apply Bq (λl=>?_) (λl=>?_)
 .obtain⟨v,hv⟩:∃v,os[m]?=en v:={_,fc (by rw[hOs.len];lia)}
  obtain⟨ds',t',d',hsx,_⟩:=id hN.hs;apply{x,af,dx,_,_,rfl,r3.k hN.hx,aj.cl,aj.dH,rfl,?_};apply{sx,ds',_,rfl,r3.k hsx,rfl,?_};k_is;exact{sx,_,_,m,v,rfl,hN.hs.kp r3.kp,hv,q2 _ H3 trivial r3}
 .k_is
  exact q2 _ H3 trivial r3
include T aj aJ aK aT aN in
theorem Wi (F:Fun K "elder_of" "Named.elder_of" Gf f fd)(cO:T.ZM ae "nearest" 12 ["self","one","other"] (lP K ad ac aa ae ts)) :
  Aq P w K mg base (CXE P w) 13 f fd ["self","k","name"] (Ii K ad ac aa ae ag af am ah ts jE):=by
 exists F.okE Cs
 obtain⟨x,nm,ds,os,k,z,rfl,hNm,hT,hk,hz,q,qk,qm⟩:=h;obtain⟨hnl,h64,hOs,dx,wd,sx,b,l,sp,nk,as,es,hN⟩:=id hNm;obtain⟨dw,pw,hw,_,hD,_⟩:=id hN.hw;refine⟨_,(Ab (As (Pu aT hr.m (F1 rfl) (pv 0) (tpa (pv 1) (tpa (pv 2) Aa)))) (Ab (tst 3 Cs.nd (Ak B0 (Av aN hr.m (pv 0) (tpa (pv 1) (tpa (pv 2) Aa))) Af)) (Ab (Bl (ttc Ot (pv 3) (tix Bh (Av aK hr.m (pv 0) (tpa (pv 2) Aa)) Af)) (Ad (Am C9))
  Au) (Ab (tst 4 Cs.nd (Av aJ hr.m (tfl (pv 0)) (tpa (pv 3) Aa))) (Ab (tst 5 Cs.nd (Av cO hr.m (tfl (pv 0)) (tpa (pv 1) (tpa (pv 4) Aa)))) (Ab (Eu CQ (PW.pt (Rz (Nk (gJ (pv 4))) (Ma (PW.pt (Ie (Nk (iD (pv 5))) (Ij (ttc Ga (pv 4) (pv 5)))))))) (Ad (tst 4 Cs.nd (tix Bh (tfl (pv 0)) (pv 4))))) (Ad (Am (pv 4))))))))),?_⟩
 apply{x,dx,_,rfl,hN.hx,rfl,?_};apply{x,nm,ds,os,k,z,rfl,hNm,hk,hz,λhi hm H1 s1=>?_,qk,qm};have q2:=q hi hm;obtain⟨k,rfl,hkl⟩:=Tq hi;obtain⟨z,rfl⟩:=Th hm;have r1:=SmT.of hT s1;apply{x,dx,_,rfl,r1.k hN.hx,rfl,?_};apply{x,nm,ds,os,k,z,rfl,hNm.kp r1.kp,r1.ok,λlo m hi H2 hS h1 h2 h3 h4 s2=>?_};have r2:=r1.trans s2;have hS:=hS.kp s2.kp;apply{x,dx,_,rfl,r2.k hN.hx,rfl,?_};apply{x,nm,ds,os,z,rfl,hNm.kp r2.kp,λt lo' hi' H3 hS' _ _ s3 ht=>?_};obtain⟨rfl,rfl⟩:=hS'.uniq hS;have r3:=r2.then s3;apply Cc (SqT.of ht) (v:=.int (lo':Int)) rfl ?_;apply Bq (λ_=>?_) (λhl=>?_)
 .k_is
  exact q2 _ H3 trivial r3
 obtain⟨v,hv⟩:∃v,os[m-1]?=en v:={_,fc (by rw[hOs.len];lia)};have hvk:v<k:=by have:=h4 () v hv;lia
 obtain⟨ds',t',d',hsx,_⟩:=id hN.hs;apply{x,af,dx,_,_,rfl,r3.k hN.hx,aj.cl,aj.dH,rfl,?_};apply{sx,ds',_,rfl,r3.k hsx,rfl,?_};apply{sx,_,_,m-1,v,by rw[show((m:Nat):Int)-1=((m-1:Nat):Int) by lia];rfl,hN.hs.kp r3.kp,hv,?_};apply{x,af,dx,_,_,rfl,r3.k hN.hx,aj.cl,aj.dW,rfl,?_};apply{wd,dw,_,rfl,r3.k hw,rfl,?_};apply{wd,ds,v,k,rfl,hN.hw.kp r3.kp,r3.ok,hvk,hkl,λr H4 hr4 s4=>?_};have r4:=r3.trans s4;apply{λt σ H5=>H5=H4/\∃y:V,σ=[en (.ref x),en (.int k),en (.str z),en (.int ((m:Nat)-1:Int)),en y,en r]/\(y=.non\/∃u:Nat,y=.int (u:Nat)/\u<ds.9/\u<t),{ds.9,rfl,_,rfl,.inr {v,rfl,(),()}},?_};rintro t σ H5 ⟨rfl,y,rfl,rfl|⟨u,rfl,hu,hut⟩⟩
 .k_is
  exact q2 _ H5 trivial r4
 k_is;refine' Pb (c:=r=.non) (S:=?S) ?a ?b ?r
 case a=>
  intro kp h0;rw[decide_eq_true h0];k_is;exact kp.q
 case b=>
  intro kp h0;obtain⟨c,rfl⟩:=hr4.resolve_left h0;rw[show decide (V.int c=V.non)=NH from rfl];apply Bq (λ_=>kp.q) (λ_=>?_);k_is;exact q2 _ H5 trivial r4
 refine{λQM H'=>∃m',m'<t/\H'=H5/\∃y:V,QM=[en (.ref x),en (.int k),en (.str z),en (.int ((m:Nat)-1:Int)),en y,en r]/\(y=.non\/∃u:Nat,y=.int (u:Nat)/\u<ds.9/\u<m'),λ_ _ h=>h,?_};apply{x,af,dx,_,_,rfl,r4.k hN.hx,aj.cl,aj.eB,rfl,?_};k_is;obtain⟨ts,hts,htl,hto⟩:=hN.hk;obtain⟨y,hy⟩:∃y,ts[u]?=en y:={_,fc ()};refine Cc (SqT.of (r4.k hts)) (v:=y) (Bi hy) ?_;k_is;rcases hto u y hy with e|⟨v',e,hv'⟩
 .exact{0,(),rfl,_,rfl,.inl e}
 .exact{u,hut,rfl,_,rfl,.inr {v',e,(),hv'}}
inductive Abu (K:e7)(vs:List V)(H:Hp)(Q:VK)(E:XK):Prop|mk(a:fe)(ns:List Int)(k:Nat)(_:vs=[.ref a,.int k])(_:SqL K H a (ns.map V.int))(_:∀c:Int,Q (.int c) H)
include T in
theorem U7 (F:Fun K "_law_cell_at" "_law_cell_at" Jj f fd):Aq P w K mg base CX0 1 f fd ["_law_script","_law_k"] (Abu K):=by
 exists F.ok Uc
 obtain⟨a,ns,k,rfl,hS,q⟩:=h;refine⟨_,(Ab (Bl (ttc Ot (pv 1) (Ao At (by rfl) T.c7 Cb (tpa (pv 0) Aa))) (Ad (Am (tix Bp (pv 0) (pv 1))))
  Au) (Ad (Am Af))),?_⟩
 apply{a,_,rfl,.inl hS,?_};k_is;rw[fb];refine Bq (λhb=>?_) (λhb=>?_)
 .k_is
  have hk:k<ns.9:=()
  refine Cm hS (v:=.int ns[k]) ?_ (q _);refine Bi ?_;rw[fg,fc hk];rfl
 .k_is
  exact q 0
inductive tI(vs:List V)(H:Hp)(Q:VK)(E:XK):Prop|mk(c k:Int)(_:vs=[.int c,.int k])(_:0<=k)(_:k<=1000)(_:∀r:Int,0<=r->r<2147483587->Q (.int r) H)
include T in
theorem fM (F:Fun K "_law_mixed" "_law_mixed" Lf f fd):Aq P w K mg base CX0 1 f fd ["_law_cell","_law_k"] tI:=by
 exists F.ok Oa
 obtain⟨c,k,rfl,h0,h1,q⟩:=h;refine{_,(Ab (tst 2 Oa.nd (Ak B1 (Ak D6 (Ak Bd (Ak B1 (pv 0) Af) Af) (Ak Bd Af (Ak D6 (Ak D6 Af (pv 1)) (pv 1)))) Af)) (Ad (Am (Ak B1 (Ak D6 (Ak Bd (pv 2) (Ak D6 Af (pv 1))) (Ak Bd Af (Ak D6 Af (pv 1)))) Af)))),?_}
 apply Xp () () ?_;k_is;have b1:=mw c (show(2147483647:Int)≠0 by decide);have b2:=lx c (show(0:Int)<2147483647 by decide);refine zH () () ?_;apply Xp () () ?_;k_is;exact q _ (mw _ (by decide)) (lx _ (by decide))
inductive lA (K:e7)(vs:List V)(H:Hp)(Q:VK)(E:XK):Prop|mk(a:fe)(ns:List Int)(k:Nat)(m:Int)(_:vs=[.ref a,.int k,.int m])(_:SqL K H a (ns.map V.int))(_:0<=m)(_:m<=100)(_:∀p (ds:List Int) H',Ag H H'->H p=p9->H' p=en (.lst (ds.map V.int))->ds.9=m.toNat->Q (.ref p) H')
variable (aL:T.ZC "_law_cell_at" 1 ["_law_script","_law_k"] (Abu K)) (aG:T.ZC "_law_mixed" 1 ["_law_cell","_law_k"] tI)
include T aL aG in
theorem Yi (F:Fun K "_law_digits" "_law_digits" J8 f fd) :
  Aq P w K mg base CX0 2 f fd ["_law_script","_law_at","_law_many"] (lA K):=by
 exists F.ok En
 obtain⟨a,ns,k,m,rfl,hS,h0,h1,q⟩:=h;refine{_,(Ab (tst 3 En.nd (Ak D6 (Ao Acm (by rfl) T.n_abs Aj3 (tpa (Aw aL hr.m (tpa (pv 0) (tpa (Ak Bd (pv 1) Af) Aa))) Aa)) (Ak B0 Af (Ak B1 (Aw aL hr.m (tpa (pv 0) (tpa (pv 1) Aa))) Af)))) (Ab (tst 4 En.nd (Ay Aa)) (Ab (Cq im rfl (Db rfl T.c8 (tpa (pv 2) Aa)) (tgn 5 En.nd) (Ad (Bl (ttc Ga (pv 3) Af) (Ab (As (Cj gl ic gz Bf (pv 4) (tpa (Ak B1 (pv 3) Af) Aa))) (Ad (tst 3 En.nd (Ak Cg (pv 3) Af)))) (Ad (As (Cj gl ic gz Bf (pv 4) (tpa (Ak B1 (Aw aG hr.m (tpa (Aw aL hr.m (tpa (pv 0) (tpa (Ak Bd (Ak Bd (pv 1) Af) (Ak B1 (pv 5) Af)) Aa))) (tpa (pv 5) Aa))) Af) Aa))))))) (Ad (Am (pv 4)))))),?_}
 apply{a,ns,k+1,rfl,hS,λc1=>?_};apply{_,rfl,?_};apply{a,ns,k,rfl,hS,λc2=>?_};apply Xp () () ?_;apply{ij _,λp hp=>?_};apply{m,rfl,(),(),?_};have s0:Ag H (upd H p (.lst [])):=Al hp;have push:∀{H1:Hp} {o:HO},Ag H H1->Ag H (upd H1 p o):=λs1 b u e=>by rw[Aj (An e hp)];exact s1 _ _ e
 have z1:∀{l:List Int} {i:Nat},l.9=i->i<m.toNat->(l.map V.int).9<sizeLine:=λe hi=>by
  rw[fb,e];exact Dr ()
 refine Gh (λi σ H1=>∃(ds:List Int) (x:Int) (v5:Option V),σ=[en (.ref a),en (.int k),en (.int m),en (.int x),en (.ref p),v5]/\ds.9=i/\H1 p=en (.lst (ds.map V.int))/\Ag H H1) {[],_,_,rfl,rfl,Ae,s0} ?_ ?_
 .rintro i σ H1 hi ⟨ds,x,v5,rfl,hd,hH,sm⟩
  apply Bq (λhb=>?_) (λhb=>?_)
  .apply{.inl {rfl,_,SqL.of hH},?_};apply Bm hH (z1 hd hi) ?_;k_is;exact{ds++[x%64],_,_,rfl,by rw[fq,hd];rfl,by rw[Ae,ge];rfl,push sm}
  .apply{.inl {rfl,_,SqL.of hH},?_};apply{a,ns,k+1+i%9,?_,sm.seq hS,λc3=>?_}
   .rw[show(k:Int)+1+(0+(i:Int))%9=((k+1+i%9:Nat):Int) by lia]
    rfl
   apply{c3,_,rfl,(),(),λr _ _=>?_};apply Bm hH (z1 hd hi) ?_;k_is;exact{ds++[r%64],_,_,rfl,by rw[fq,hd];rfl,by rw[Ae,ge];rfl,push sm}
 .rintro σ H1 ⟨ds,x,v5,rfl,hd,hH,sm⟩
  k_is;exact q p ds H1 sm hp hH hd
inductive yB(vs:List V)(H:Hp)(Q:VK)(E:XK):Prop|mk(a:fe)(gs:List Int)(_:vs=[.ref a])(_:H a=en (.lst (gs.map V.int)))(_:gs.9<=1000)(_:∀p (ds:Za4) H',Ag H H'->H p=p9->H' p=en (.lst ((F6 ds).map V.int))->Dok ds->ds.9=gs.9->Q (.ref p) H')
theorem Ah0 (xs:List V)(m:Nat):Fc xs p9 (en (m:Int))=xs.take m:=by
 unfold Fc;rw[_T.sIx_nat];show(xs.drop 0).take (min m xs.9-0)=xs.take m;rw[xq,uj]
 by_cases h:m<=xs.9
 .rw[j9 h]
 .rw[sh (),gp (fm _),gp ()]
include T in
theorem mC (F:Fun K "_law_wood" "_law_wood" N6 f fd):Aq P w K mg base CX0 1 f fd ["_law_digits_here"] yB:=by
 exists F.ok Fh
 obtain⟨a,gs,rfl,ha,hn,q⟩:=h;refine{_,(Ab (tst 1 Fh.nd (Ay Aa)) (Ab (tst 2 Fh.nd (Ay Aa)) (Ab (Cq im rfl (Db rfl T.c8 (tpa (Ao At (by rfl) T.c7 Cb (tpa (pv 0) Aa)) Aa)) (tgn 3 Fh.nd) (Ab (tst 2 Fh.nd (Co Ms (pv 2) Ir (B5 (Ak B0 (Ao At (by rfl) T.c7 Cb (tpa (pv 2) Aa)) (Ak B1 (tix Bp (pv 0) (pv 3)) (Ak Bd (Ao At (by rfl) T.c7 Cb (tpa (pv 2) Aa)) Af)))))) (Ab (As (Cj gl ic gz Bf (pv 1) (tpa (tix Bp (Ak Jg (Ay (tpa (Fl Dc Af) Aa)) (pv 2)) (Fl Dc Af)) Aa))) (Ad (tst 2 Fh.nd (Ak Jg (pv 2) (Ay (tpa (pv 3) Aa)))))))) (Ad (Am (pv 1)))))),?_}
 apply{ij _,λp hp=>?_};apply{ij _,λp0 hp0=>?_};have t0:=Al (o:=.lst []) hp;have t1:=Al (o:=.lst []) hp0;apply{a,_,rfl,.inl (SqL.of (t1 _ _ (t0 _ _ ha))),?_};k_is;rw[fb];refine{_,rfl,(),(),?_};rw[gr];refine Gh (λk σ H1=>(∃(q:fe) (ds:Za4) (v:Option V),σ=[en (.ref a),en (.ref p),en (.ref q),v]/\Dok ds/\ds.9=k/\H1 p=en (.lst ((F6 ds).map V.int))/\H1 q=en (.lst ((way ds k).tail.map V.int))/\p≠q)/\Ag H H1)
  {{p0,[],_,rfl,(λk hk=>by cases hk),rfl,t1 _ _ Ae,Ae,An Ae hp0},t0.trans t1} ?_ ?_
 .rintro k σ H1 hk ⟨⟨q1,ds,v,rfl,hD,hl,hp1,hq1,hne⟩,s1⟩
  have hw:=Hg hD k ();have hh:=Abj hD (k:=k) ();have hok:=R1 hD k ();have hwt:(way ds k).tail.length=opn ds k:=by rw[List.length_tail];lia
  apply{q1,_,rfl,.inl (SqL.of hq1),?_};k_is;rw[fb,hwt];obtain⟨g,hg⟩:∃g,gs[k]?=en g:={gs[k],fc hk};refine Cm (SqL.of (s1 _ _ ha)) (v:=.int g) ?_ ?_
  .rw[show(0+(k:Int))=(k:Int) by lia]
   exact Bi (sU hg)
  apply{q1,_,rfl,.inl (SqL.of hq1),?_};k_is;rw[fb,hwt];refine jM () ?_;k_is;obtain⟨d,hd,hd1⟩:∃d:Nat,(opn ds k:Int)-g%((opn ds k:Int)+1)=(d:Int)/\d<=opn ds k:=by
   have e0:=mw g (show(opn ds k:Int)+1≠0 by lia);have e1:=lx g (show 0<(opn ds k:Int)+1 by lia);exact{((opn ds k:Int)-g%((opn ds k:Int)+1)).toNat,(),()}
  rw[hd];refine{q1,_,rfl,SqL.of hq1,λq2 h2=>?_};rw[Ah0] at *;rw[<-pi] at *;have u2:=Al (o:=.lst (((way ds k).tail.take d).map V.int)) h2;apply{.inl {rfl,_,SqL.of (u2 _ _ hp1)},?_};apply{few (by simp),λq3 h3=>?_};have u3:=Al (o:=.lst [V.int (-1)]) h3;apply{q3,q2,_,_,rfl,rfl,Ae,u3 _ _ Ae,?_,λq4 h4=>?_}
  .rw[fb,gq]
   exact few (by simp only[iu,kl];lia)
  have ew:[V.int (-1)]++((way ds k).tail.take d).map V.int=((way ds k).take (d+1)).map V.int:=by
   rw[hh];rfl
  rw[ew] at *;have u4:=Al (o:=.lst (((way ds k).take (d+1)).map V.int)) h4;have hx:(way ds k)[d+1-1]?=en ((way ds k).getD d 0):=by
   rw[qh];unfold l8;rw[fc ()];rfl
  apply Cm (SqL.of Ae) (Mg () hx) ?_;k_is;have u24:=(u2.trans u3).trans u4;refine Bm (u24 _ _ hp1) ?_ ?_
  .rw[fb,F3]
   exact Ai ()
  have hpq2:q2≠p:=(An hp1 h2).symm;have hq2':upd (upd (upd (upd H1 q2 (.lst (((way ds k).tail.take d).map V.int))) q3 (.lst [V.int (-1)])) q4 (.lst (((way ds k).take (d+1)).map V.int))) p (.lst ((F6 ds).map V.int++[V.int ((way ds k).getD d 0)])) q2=en (.lst (((way ds k).tail.take d).map V.int)):=by
   rw[Aj hpq2];exact u4 _ _ (u3 _ _ Ae)
  have s5:=A6 (o:=.lst ((F6 ds).map V.int++[V.int ((way ds k).getD d 0)])) (s1.trans u24) hp;have hp5:upd (upd (upd (upd H1 q2 (.lst (((way ds k).tail.take d).map V.int))) q3 (.lst [V.int (-1)])) q4 (.lst (((way ds k).take (d+1)).map V.int))) p (.lst ((F6 ds).map V.int++[V.int ((way ds k).getD d 0)])) p=en (.lst ((F6 ds).map V.int++[V.int ((way ds k).getD d 0)])):=Ae;generalize upd (upd (upd (upd H1 q2 (.lst (((way ds k).tail.take d).map V.int))) q3 (.lst [V.int (-1)])) q4 (.lst (((way ds k).take (d+1)).map V.int))) p (.lst ((F6 ds).map V.int++[V.int ((way ds k).getD d 0)]))=H5 at *;apply{few (by simp),λq6 h6=>?_};have u6:=Al (o:=.lst [V.int (0+(k:Int))]) h6;refine{q2,q6,_,_,rfl,rfl,u6 _ _ hq2',Ae,?_,λq7 h7=>?_}
  .rw[fb,gq]
   exact few (by simp only[iu,kl];lia)
  have u7:=Al (o:=.lst (((way ds k).tail.take d).map V.int++[V.int (0+(k:Int))])) h7;k_is;have hp7:=u7 _ _ (u6 _ _ hp5);refine{{q7,ds++[d],_,rfl,jZ hD (by rw[hl];exact hd1),by rw[fq,hl];rfl,?_,?_,An (u6 _ _ hp5) h7},(s5.trans u6).trans u7}
  .rw[hp7,Z3,ge,hl]
   rfl
  .have e:=jU ds d
   rw[hl] at e;rw[Ae,e,show(0+(k:Int))=(k:Int) by lia];have e2:((way ds k).take (d+1)++[(k:Int)]).tail=(way ds k).tail.take d++[(k:Int)]:=by
    rw[hh];rfl
   rw[e2,ge];rfl
 .rintro σ H1 ⟨⟨q1,ds,v,rfl,hD,hl,hp1,hq1,hne⟩,s1⟩
  k_is;exact q p ds H1 s1 hp hp1 hD hl
theorem gE (l:Za6)(x:Str):sV l++[V.str x]=sV (l++[x]):=by
 unfold sV;rw[ge];rfl
def S9 (z:Str):Bool:=z.cps.toList.all K2
theorem sW (h1:1<=z.9)(h2:z.9<=8)(h3:S9 z=NG):Rr z=NG:=by
 unfold Rr;rw[decide_eq_true ⟨h1,h2⟩,yn];exact h3
theorem Ab8 (h:Rr z=NG):S9 z=NG:=(xu.mp h).2
theorem nR {a b:Str}(h1:S9 a=NG)(h2:S9 b=NG):S9 (a++b)=NG:=by
 show((a.cps++b.cps).toList.all K2)=NG;rw[ub,AC];exact xu.mpr ⟨h1,h2⟩
theorem uA (a b:Str):(a++b).9=a.9+b.9:=Array.size_append
theorem Aeb (z:Str)(lo hi:Option Int):∃i k,(Pa z lo hi).cps.toList=(z.cps.toList.drop i).take k:={_,_,lj ..}
theorem Xk (h:S9 z=NG)(lo hi:Option Int):S9 (Pa z lo hi)=NG:=by
 obtain⟨i,k,e⟩:=Aeb z lo hi;unfold S9;rw[e,jm];exact λc hc=>jm.mp h c (xn (xm hc))
theorem Ub (z:Str)(m:Nat):(Pa z p9 (en (m:Int))).9=min m z.9:=by
 show(ul _ (um _ _)).toArray.size=_;rw[gj,_T.sIx_nat];show(ul (min m z.cps.8-0) (um 0 z.cps.7)).9=_;rw[xq,uj,gq,ie];show min (min m z.9) z.9=_;lia
theorem gW (z:Str)(m:Nat):(Pa z (en (m:Int)) p9).9=z.9-m:=by
 show(ul _ (um _ _)).toArray.size=_;rw[gj,_T.sIx_nat];show(ul (z.cps.8-min m z.cps.8) (um (min m z.cps.8) z.cps.7)).9=_;rw[gq,jb,ie];show min (z.9-min m z.9) (z.9-min m z.9)=_;lia
def uO:Str:="abcdefghijklmnopqrstuvwxyz"
theorem P2 (i:Int):atI uO.cps.7 (i%26)=en (97+(i%26).toNat)/\S9 (sgn (97+(i%26).toNat))=NG:=by
 have h0:=mw i (show(26:Int)≠0 by decide);have h1:=lx i (show(0:Int)<26 by decide);have hl:uO.cps.7=(ft 26).map (97 + ·):=by decide +kernel
 refine{rR h0 ?_,?_}
 .rw[hl,fg,gn ()]
  rfl
 .show([97+(i%26).toNat].all K2)=NG
  rw[sq,IE,HP];exact decide_eq_true ()
theorem xV (cs:Za4)(h:∀c∈cs,K2 c=NG):S9 (uv ("":Str) (cs.map sgn))=NG/\(uv ("":Str) (cs.map sgn)).9=cs.9:=by
 have e:(uv ("":Str) (cs.map sgn)).cps.toList=cs:=by
  rw[N5,jk]
  induction cs with
  |nil=>rfl
  |cons c r ih=>
   rw[jh,jx,ih λc hc=>h c (gw _ hc)];rfl
 refine{by unfold S9;rw[e,jm];exact h,?_};show Array.size _=_;rw[<-ie,e]
inductive uP(vs:List V)(H:Hp)(Q:VK)(E:XK):Prop|mk(a:fe)(gs:List Int)(sd:Int)(_:vs=[.ref a,.int sd])(_:H a=en (.lst (gs.map V.int)))(_:gs.9<=1000)(_:∀p (nm:Za6) H',Ag H H'->H p=p9->H' p=en (.lst (sV nm))->nm.9=gs.9->(∀z∈nm,Rr z=NG)->Q (.ref p) H')
include T in
theorem jC (F:Fun K "_law_names" "_law_names" Fi f fd):Aq P w K mg base CX0 1 f fd ["_law_digits_here","_law_seed"] uP:=by
 exists F.ok Df
 obtain⟨a,gs,sd,rfl,ha,hn,q⟩:=h;refine⟨_,(Ab (P5 (i:=2) Df.nd rfl (BR rfl) A5) (Ab (P5 (i:=3) Df.nd rfl (BR rfl) (Ay Aa)) (Ab (tst 5 Df.nd (Cj lg oj oi Oh A5 (tpa (Ja rfl Vm (Db rfl T.c8 (tpa (Ak B1 (pv 1) Af) Aa)) (λ_ _ _ _=>Cf) (λ_ _ _ _=>(tix yM (pv 1) (Ak B1 (Ak Bd (Ak Cg (pv 2) Af) (Ak D6 (Ak D6 Af (pv 0)) (pv 0))) Af)))) Aa))) (Ab (tst 6 Df.nd (Ak B1 (Ak Cg (pv 1) Af) (Ak Bd (Ao B2 (by rfl) T.c7 Cb (tpa (pv 5) Aa)) Af))) (Ab (Cq im rfl (Db rfl T.c8 (tpa Af Aa)) (tgn 4 Df.nd) (Ad (As (Cj gl ic gz Bf (pv 3) (tpa (Ak Nm (Ak Nm (Co Py (pv 5) Ir (B5 (pv 6))) (tix yM (pv 2) (Ak B1 (Ak Bd (Ak Cg (pv 1) Af) (Ak D6 Af (pv 4))) Af))) (Co Py (pv 5) (B5 (pv 6)) Ir)) Aa))))) (Ab (Rs (ttc C1 (Ak B1 (pv 1) Af) Af) (Ad (P5 (i:=3) Df.nd rfl (BR rfl) (qT rfl Xr (Mo rfl T.dB (tpa (pv 3) Aa)) (λ_ _ _ _=>Cf) (λ_ _ _ _=>(Co Py (pv 1) Ir (B5 (Ak Bd Af (Ak B1 (pv 0) Af))))))))
  Au) (Ad (Am (Ja rfl Ud (Ey (pv 0)) (λ_ _ _ _=>Cf) (λ_ _ _ _=>(tix (Lu K) (pv 2) (Ak B1 (pv 0) (tix (Lu K) (Ay (tpa Af (tpa Af (tpa Af (tpa Af Aa))))) (Ak B1 (Ak Cg (pv 1) Af) Af)))))))))))))),?_⟩
 apply{ij _,λp hp=>?_};obtain⟨u1,hp1⟩:=Ar (o:=.lst []) hp;generalize upd H p _=H1 at *;apply{rfl,?_};k_is;have e0:=mw sd (show(8:Int)≠0 by decide);have e1:=lx sd (show(0:Int)<8 by decide);obtain⟨m,hm⟩:∃m:Nat,sd%8=(m:Int):={(sd%8).toNat,()};rw[hm];refine{_,rfl,(),(),?_};rw[gr];refine Jy (λi=>((ft i).map λk:Nat=>97+((sd/7+5*(k:Int)*(k:Int))%26).toNat).map λc=>V.str (sgn c)) rfl (λi hi=>?_) (λi H2 R A hi s2 kR kA=>?_) (λD H2 hD s2 hD2=>?_)
 .rw[fb,fb,fv]
  exact Ai ()
 .rw[show(0+(i:Int))=(i:Int) by lia]
  apply Xp () () ?_;k_is;obtain⟨hl1,hl2⟩:=P2 (sd/7+5*(i:Int)*(i:Int));refine{_,_,_,rfl,rfl,by decide,hl1,?_};refine kA _ _ ?_ (Ag.refl _);rw[jo,ge,ge];rfl
 have hcs:∀c∈(ft m).map λk:Nat=>97+((sd/7+5*(k:Int)*(k:Int))%26).toNat,K2 c=NG:=λc hc=>by
  obtain⟨k,_,rfl⟩:=je.mp hc;have:=(P2 (sd/7+5*(k:Int)*(k:Int))).2;have h3:([97+((sd/7+5*(k:Int)*(k:Int))%26).toNat].all K2)=NG:=this;rw[sq,IE,HP] at h3;exact h3
 have hcl:((ft m).map λk:Nat=>97+((sd/7+5*(k:Int)*(k:Int))%26).toNat).9=m:=by rw[fb,fv]
 generalize ((ft m).map λk:Nat=>97+((sd/7+5*(k:Int)*(k:Int))%26).toNat)=cs at *;obtain⟨j1,j2⟩:=xV cs hcs;have hp2:=s2 _ _ hp1;have s12:=u1.trans s2;apply{_,D,cs.map sgn,rfl,rfl,by rw[jk];exact SqL.of hD2,?_,?_}
 .rw[jk]
  have:∀l:Za4,(l.map λc=>(sgn c).9).sum=l.9:=λl=>by
   induction l with
   |nil=>rfl
   |cons c r ih=>rw[jh,yj,ih,iu];show 1+_=_;lia
  have h1:=this cs;have h2:(zc ((λx:Str=>x.9) ∘ sgn) cs).sum=cs.9:=h1;rw[h2,show("":Str).9=0 from rfl];lia
 rw[hcl] at j2;generalize uv ("":Str) (cs.map sgn)=bs at *;apply{bs,rfl,gy (Ai ()),?_};rw[j2];apply jM () ?_;k_is;have f0:=mw (sd/8) (show(m:Int)+1≠0 by lia);have f1:=lx (sd/8) (show 0<(m:Int)+1 by lia);obtain⟨at',hat⟩:∃n:Nat,sd/8%((m:Int)+1)=(n:Int):={(sd/8%((m:Int)+1)).toNat,()};rw[hat];refine{_,rfl,by decide,by decide,?_};rw[show((9:Int)).toNat=9 from rfl];refine Gh (λk σ H3=>(∃v4:Option V,σ=[en (.ref a),en (.int sd),en (.str "abcdefghijklmnopqrstuvwxyz"),en (.ref p),v4,en (.str bs),en (.int at')])/\Ag H H3/\∃ws:Za6,ws.9=k/\(∀z∈ws,Rr z=NG)/\H3 p=en (.lst (sV ws)))
  {{_,rfl},s12,[],rfl,(λz hz=>by cases hz),hp2} ?_ ?_
 .rintro k σ H3 hk ⟨⟨v4,rfl⟩,s3,ws,hwl,hwn,hp3⟩
  obtain⟨l1,l2⟩:=P2 (sd/64+3*(k:Int));rw[show(0+(k:Int))=(k:Int) by lia];apply{.inl {rfl,_,SqL.of hp3},?_};apply lT (gy (Ai ())) ?_;apply{_,_,_,rfl,rfl,by decide,l1,?_};have c1:=Ub bs at';have c2:=gW bs at';have w1:=Xk j1 p9 (en (at':Int));have w2:=Xk j1 (en (at':Int)) p9;generalize Pa bs p9 (en (at':Int))=x1 at *;have hg:({#[97+((sd/64+3*(k:Int))%26).toNat]}:Str).9=1:=rfl;have l2:S9 ({#[97+((sd/64+3*(k:Int))%26).toNat]}:Str)=NG:=l2;generalize ({#[97+((sd/64+3*(k:Int))%26).toNat]}:Str)=x2 at *;refine{_,_,rfl,rfl,gy (Ai ()),?_};apply lT (gy (Ai ())) ?_;generalize Pa bs (en (at':Int)) p9=x3 at *;have hs12:=uA x1 x2;have hs3:=uA (x1++x2) x3;refine{_,_,rfl,rfl,gy (Ai ()),?_};apply Bm hp3 (by rw[Dm];exact Ai ()) ?_;apply{{_,rfl},A6 s3 hp,ws++[x1++x2++x3],by rw[fq,hwl];rfl,λz hz=>?_,by rw[Ae,gE]};rcases kj.mp hz with hz|hz
  .exact hwn z hz
  .rw[j0.mp hz]
   exact sW () () (nR (nR w1 l2) w2)
 rintro σ H3 ⟨⟨v4,rfl⟩,s3,ws,hwl,hwn,hp3⟩;apply Y9 (λσ H4=>∃(p2:fe) (ws:Za6),σ=[en (.ref a),en (.int sd),en (.str "abcdefghijklmnopqrstuvwxyz"),en (.ref p2),v4,en (.str bs),en (.int at')]/\Ag H H4/\ws.9=9/\(∀z∈ws,Rr z=NG)/\H4 p2=en (.lst (sV ws))) ?_ ?_
 .apply Bq (λ_=>?_) (λ_=>?_)
  .apply{p,rfl,{_,SqL.of hp3},?_};refine yH (SqL.of hp3) (λD i zs H=>∃us:Za6,zs=sV us/\us.9=i/\∀z∈us,Rr z=NG) (λD H _ _=>{[],rfl,rfl,λz hz=>by cases hz}) (λD i zs H us o _ h=>h) (λD i zs H hi ⟨us,e,el,_⟩=>?_) (λD i zs H H' _ h=>h) (λD i zs x H4 A R hx s4 _ _ ⟨us,e,el,hu⟩ _ hA=>?_) (λD zs H4 hD s4 ⟨us,e,el,hu⟩ h4=>?_)
   .rw[Dm] at hi
    rw[e,Dm];exact Ai ()
   .obtain⟨z,hz,rfl⟩:=qA hx
    have hzn:=hwn z (ip hz);have hzl:=Uz hzn;apply lT (gy (Ai ())) ?_;obtain⟨mm,hmm⟩:∃mm:Nat,1+(i:Int)%8=(mm:Int):={(1+(i:Int)%8).toNat,()};rw[hmm];have c1:=Ub z mm;refine hA _ _ (Ag.refl _) {us++[Pa z p9 (en (mm:Int))],by rw[e,gE],by rw[fq,el];rfl,λy hy=>?_};rcases kj.mp hy with hy|hy
    .exact hu y hy
    .rw[j0.mp hy]
     exact sW () () (Xk (Ab8 hzn) _ _)
   .k_is
    rw[Dm] at el;exact{D,us,rfl,s3.trans s4,(),hu,by rw[h4,e]}
  .k_is
   exact⟨p,ws,rfl,s3,hwl,hwn,hp3⟩
 rintro σ H4 ⟨p2,ws,rfl,s4,hwl,hwn,hp4⟩;apply{a,rfl,{_,SqL.of (s4 _ _ ha)},?_};refine U1 (SqL.of (s4 _ _ ha)) (λi zs H=>∃us:Za6,zs=sV us/\us.9=i/\∀z∈us,Rr z=NG) (λH _=>{[],rfl,rfl,λz hz=>by cases hz}) (λi zs H D us o _ h=>h) (λi zs H hi ⟨us,e,el,_⟩=>?_) (λi zs x H5 A R hx s5 ⟨us,e,el,hu⟩ hA=>?_) (λD zs H5 hD s5 ⟨us,e,el,hu⟩ h5=>?_)
 .rw[fb] at hi
  rw[e,Dm];exact Ai ()
 .obtain⟨g,hg,rfl⟩:=U6 hx
  have hp5:=s5 _ _ hp4;apply{few (by simp),λl hl=>?_};obtain⟨u6,hl6⟩:=Ar (o:=.lst [V.int 9,V.int 3,V.int 2,V.int 1]) hl;have hp6:=u6 _ _ hp5;generalize upd H5 l _=H6 at *;have g0:=mw (sd/3) (show(4:Int)≠0 by decide);have g1:=lx (sd/3) (show(0:Int)<4 by decide);obtain⟨j,hj⟩:∃j:Nat,sd/3%4=(j:Int):={(sd/3%4).toNat,()};obtain⟨n,hn1,hn2,hn3⟩:∃n:Int,[V.int 9,V.int 3,V.int 2,V.int 1][j]?=en (.int n)/\1<=n/\n<=9:=by
   have:j=0\/j=1\/j=2\/j=3:=()
   rcases this with rfl|rfl|rfl|rfl
   .exact{9,rfl,by decide,by decide}
   .exact{3,rfl,by decide,by decide}
   .exact{2,rfl,by decide,by decide}
   .exact{1,rfl,by decide,by decide}
  k_is;rw[hj];refine Cm (SqL.of hl6) (v:=.int n) (Bi hn1) ?_;refine jM () ?_;have k0:=mw g (show n≠0 by lia);have k1:=lx g (show 0<n by lia);obtain⟨i',hi'⟩:∃i':Nat,g%n=(i':Int):={(g%n).toNat,()};rw[hi'];obtain⟨z,hz⟩:∃z,ws[i']?=en z:={_,fc ()};refine Cm (SqL.of hp6) (v:=.str z) (Bi (by rw[fg,hz];rfl)) ?_;refine hA _ _ u6 {us++[z],by rw[e,gE],by rw[fq,el];rfl,λy hy=>?_};rcases kj.mp hy with hy|hy
  .exact hu y hy
  .rw[j0.mp hy]
   exact hwn z (ip hz)
 .rw[fb] at el
  exact q D us H5 (s4.trans s5) (s4.free hD) (by rw[h5,e]) el hu
include T in
theorem fN (F:Fun K "_law_whole" "_law_whole" Lh f fd):Aq P w K mg base CX0 1 f fd ["_law_found"] (Ox K):=by
 exists F.ok iG
 obtain⟨x,rfl,⟨t,b1,b2,ty,k1,k2,e⟩,q⟩:=h;refine{_,(Ad (Am (fO (Ao Cu (by rfl) T.de A8 (tpa (pv 0) (tpa (Gp (v:=.ty "int") rfl T.dY mL rfl) Aa))) (iN (Abe (Ao Cu (by rfl) T.de A8 (tpa (pv 0) (tpa (Gp (v:=.ty "bool") rfl T.eA xZ rfl) Aa)))))))),?_};apply{_,_,_,_,rfl,ty,k1,?_};rw[<-e] at q
 cases b1 with
 |false=>
  k_is;exact q
 |true=>
  apply{_,_,_,_,rfl,ty,k2,?_};k_is;exact q
def KdN (CM CF CK:fe)(H:Hp)(C:fe)(od:Option fe)(r:List V):Prop:=(C=CM/\∃(dx:fe) (y:V),od=en dx/\H dx=en (.xd [("place",y)])/\plV y/\r=[.str "name",y])\/(C=CF/\r=[.str "fit"])\/(C=CK/\r=[.str "knot"])
theorem KdN.same {CM CF CK:fe}{r:List V}(h:KdN CM CF CK H C od r)(s:Ag H H'):KdN CM CF CK H' C od r:=h.imp (λ⟨a,dx,y,b,c,d⟩=>{a,dx,y,b,s _ _ c,d}) id
inductive lG (CM CF CK:fe)(vs:List V)(H:Hp)(Q:VK)(E:XK):Prop|mk(e C:fe)(od:Option fe)(r:List V)(_:vs=[.ref e])(_:H e=en (Us e C od))(_:KdN CM CF CK H C od r)(_:∀p H',Ag H H'->H' p=en (.lst r)->Q (.ref p) H')
include T in
theorem jH (F:Fun K "_law_kind" "_law_kind" Ko f fd):Aq P w K mg base CX0 1 f fd ["_law_e"] (lG ah aq am):=by
 exists F.ok L8
 obtain⟨e,C,od,r,rfl,he,ho,q⟩:=h;obtain⟨fo,O⟩:=T.eF;obtain⟨b0,b1,b2,hk,k0,k1,k2,k3,k4,k5,kv,h1f,hr2⟩:∃b0 b1 b2:Bool,Jx K C/\kitOne K (.ref C) (.ref ah)=en b0/\kitOne K (.ref C) (.ref aq)=en b1/\kitOne K (.ref C) (.ref am)=en b2/\kitOne K (.ref C) (.ref ax)=en NH/\kitOne K (.ref C) (.ref ay)=en NH/\kitOne K (.ref C) (.ref az)=en NH/\kitOne K (.ref C) (.type "ValueError")=en NG/\([b0,b1,b2].filter id).9=1/\((b0=NG/\C=ah/\∃(dx:fe) (y:V),od=en dx/\H dx=en (.xd [("place",y)])/\plV y/\r=[.str "name",y])\/(b0=NH/\r=[.str (if b2=NG then "knot" else "fit")])):=by
  rcases ho with⟨rfl,hw⟩|⟨rfl,rfl⟩|⟨rfl,rfl⟩
  .exact{_,_,_,T.d0,T.dg.1,T.dg.2.1,T.dg.2.2.1,T.dg.2.2.2.1,(T.dg.d 4).1,(T.dg.d 5).1,(T.dg.d 6).1,rfl,.inl ⟨rfl,rfl,hw⟩}
  .exact{_,_,_,T.eP,T.di.1,T.di.2.1,T.di.2.2.1,T.di.2.2.2.1,(T.di.d 4).1,(T.di.d 5).1,(T.di.d 6).1,rfl,.inr ⟨rfl,rfl⟩}
  .exact{_,_,_,T.eY,T.dh.1,T.dh.2.1,T.dh.2.2.1,T.dh.2.2.2.1,(T.dh.d 4).1,(T.dh.d 5).1,(T.dh.d 6).1,rfl,.inr ⟨rfl,rfl⟩}
 refine⟨_,(Ab (tst 1 L8.nd (Ay (tpa (Ao (Cy K) (by rfl) T.de A8 (tpa (pv 0) (tpa (Fn (v:=.ref _) rfl T.eC rfl) Aa))) (tpa (Ao (Cy K) (by rfl) T.de A8 (tpa (pv 0) (tpa (Fn (v:=.ref _) rfl T.eV rfl) Aa))) (tpa (Ao (Cy K) (by rfl) T.de A8 (tpa (pv 0) (tpa (Fn (v:=.ref _) rfl T.eT rfl) Aa))) Aa))))) (Ab (tst 2 L8.nd (Ay (tpa (Ao (Cy K) (by rfl) T.de A8 (tpa (pv 0) (tpa (Fn (v:=.ref _) rfl T.eZ rfl) Aa))) (tpa (Ao (Cy K) (by rfl) T.de A8 (tpa (pv 0) (tpa (Fn (v:=.ref _) rfl T.eQ rfl) Aa))) (tpa (Ao (Cy K) (by rfl) T.de A8 (tpa (pv 0) (tpa (Fn (v:=.ref _) rfl T.eX rfl) Aa))) Aa))))) (Ab (Bl (PW.pt (Ie (Iu Pr Hu (pv 2) rfl) (Ie (Cw (B4 (Ao (Cy K) (by rfl) T.de A8 (tpa (pv 0) (tpa (Gp (v:=.ty "ValueError") rfl T.eW gN rfl) Aa))))) (Ij (ttc Na (Ao At (by rfl) T.c7 Cb (tpa (Ja rfl Yn (Ey (pv 1)) (λ_ _ _ _=>Ty (B4 (pv 0))) (λ_ _ _ _=>(pv 0))) Aa)) Af))))) (Ad (Am (Ay (tpa A5 Aa))))
  Au) (Ab (Bl (B4 (tix Bp (pv 1) Af)) (Ad (Am (Ay (tpa A5 (tpa (Abt (pv 0)) Aa)))))
  Au) (Ad (Am (tix Bp (Ay (tpa (Ay (tpa A5 Aa)) (tpa (Ay (tpa A5 Aa)) Aa))) (Cn Y0 (by rfl) T.dY mL (tpa (tix Bp (pv 1) Af) Aa))))))))),?_⟩
 apply{e,C,od,_,_,_,rfl,he,hk,rfl,k0,?_};apply{e,C,od,_,_,_,rfl,he,hk,rfl,k1,?_};apply{e,C,od,_,_,_,rfl,he,hk,rfl,k2,?_};apply{few (by simp),λp1 h1=>?_};obtain⟨t1,e1⟩:=Ar (o:=.lst ([b0,b1,b2].map V.bl)) h1;generalize hH1:upd H p1 (.lst ([b0,b1,b2].map V.bl))=H1 at *;rw[show upd H p1 (.lst [V.bl b0,V.bl b1,V.bl b2])=H1 from hH1];k_is;have he:=t1 _ _ he;refine{e,C,od,_,_,_,rfl,he,hk,rfl,k3,?_};apply{e,C,od,_,_,_,rfl,he,hk,rfl,k4,?_};apply{e,C,od,_,_,_,rfl,he,hk,rfl,k5,?_};apply{few (by simp),λp2 h2=>?_};have t2:=t1.trans (Al (o:=.lst [V.bl NH,V.bl NH,V.bl NH]) h2);have e2:=@Ae H1 p2 (.lst [V.bl NH,V.bl NH,V.bl NH]);have e1:=(Al (o:=.lst [V.bl NH,V.bl NH,V.bl NH]) h2) _ _ e1;have he:=(Al (o:=.lst [V.bl NH,V.bl NH,V.bl NH]) h2) _ _ he;generalize upd H1 p2 _=H2 at *;apply{p2,_,rfl,.inl (SqL.of e2),rfl,rfl,?_};rw[show(if NH=NG then !inV (V.bl NG) [V.bl NH,V.bl NH,V.bl NH] else inV (V.bl NG) [V.bl NH,V.bl NH,V.bl NH])=NH by decide];apply{e,C,od,_,_,_,rfl,he,hk,rfl,kv,?_};k_is;obtain⟨bs,hbs⟩:∃bs,[b0,b1,b2]=bs:={_,rfl};have hb0:bs[0]?=en b0:=by rw[<-hbs];rfl
 have hb2:bs[2]?=en b2:=by rw[<-hbs];rfl
 have hbl:bs.9=3:=by rw[<-hbs];rfl
 rw[hbs] at h1f e1;clear hbs;refine{p1,rfl,{_,SqL.of e1},fT (SqL.of e1) (λi=>((bs.take i).filter id).map V.bl) rfl (λi hi=>?_) (λi x H5 R A' hx s5 kR kA=>?_) (λD5 H5 h5 s5 hD5=>?_)}
 .rw[fb]
  exact Ai (iy (oq _ _) (by rw[gq];lia))
 .rw[fg] at hx
  cases hb:bs[i]? with
  |none=>rw[hb] at hx;cases hx
  |some b=>
   rw[hb] at hx;obtain rfl:=fk hx
   cases b with
   |true=>
    k_is;exact kA _ _ (by rw[i6,hb,lw,ge];rfl) (Ag.refl _)
   |false=>
    k_is;exact kR (by rw[i6,hb,lw,ge];simp) _ (Ag.refl _)
 rw[fb,List.take_length] at hD5;have e5:=s5 _ _ e1;have w5:=t2.trans s5;apply{D5,_,rfl,.inl (SqL.of hD5),?_};rw[fb,h1f];apply Oy (λh=>absurd rfl h) (λ_=>?_);apply Cm (SqL.of e5) (v:=.bl b0) (Bi (j:=0) (by rw[fg,hb0];rfl)) ?_;rcases hr2 with⟨rfl,rfl,dx,y,rfl,hdx,hy,rfl⟩|⟨rfl,rfl⟩
 .apply{e,_,_,fo,dx,_,y,rfl,s5 _ _ he,O,T.d0,w5 _ _ hdx,rfl,hy,?_};apply{few (by simp),λp6 h6=>?_};exact q p6 _ (w5.trans (Al h6)) Ae
 .apply{few (by simp),λp6 h6=>?_};have w6:=w5.trans (Al (o:=.lst [V.str "fit"]) h6);have f6:=@Ae H5 p6 (.lst [V.str "fit"]);have e6:=(Al (o:=.lst [V.str "fit"]) h6) _ _ e5;generalize upd H5 p6 _=H6 at *;apply{few (by simp),λp7 h7=>?_};obtain⟨t7,f7⟩:=Ar (o:=.lst [V.str "knot"]) h7;generalize upd H6 p7 _=H7 at *;apply{few (by simp),λp8 h8=>?_};obtain⟨t8,f8⟩:=Ar (o:=.lst [V.ref p6,V.ref p7]) h8;generalize upd H7 p8 _=H8 at *;apply Cm (SqL.of (t8 _ _ (t7 _ _ e6))) (v:=.bl b2) (Bi (j:=2) (by rw[fg,hb2];rfl)) ?_;apply .inr {b2,rfl,?_}
  cases b2 with
  |true=>exact Cm (SqL.of f8) (v:=.ref p7) rfl (q p7 _ (w6.trans (t7.trans t8)) (t8 _ _ f7))
  |false=>exact Cm (SqL.of f8) (v:=.ref p6) rfl (q p6 _ (w6.trans (t7.trans t8)) (t8 _ _ (t7 _ _ f6)))
def jX (xs:List V)(n:Nat)(r:List V):Prop:=(∃k:Nat,Zv xs k/\r=[.str "name",.int (k:Nat)])\/(xs.all nmV=NG/\r=[.str (if xs.9=n then "good" else "fit")])
theorem mX {k j:Nat}(h:Zv xs k)(h2:Zv xs j):¬ k<j:=λl=>by
 obtain⟨x,hx,e⟩:=jj.mp h.1;have:=jm.mp h2.2 x (ip (i:=k) (by rw[jt l];exact hx));rw[e] at this;cases this
theorem Re {k:Nat}(h:Zv xs k):xs.all nmV≠NG:=λha=>by
 obtain⟨x,hx,e⟩:=jj.mp h.1;have:=jm.mp ha x (ip hx);rw[e] at this;cases this
theorem jX.uniq {n:Nat}{r s:List V}(h:jX xs n r)(h2:jX xs n s):r=s:=by
 rcases h with⟨k,hk,rfl⟩|⟨ha,rfl⟩
 .rcases h2 with⟨j,hj,rfl⟩|⟨hb,_⟩
  .have:=mX hk hj
   have:=mX hj hk;rw[show k=j by lia]
  .exact(Re hk hb).elim
 .rcases h2 with⟨j,hj,_⟩|⟨_,rfl⟩
  .exact(Re hj ha).elim
  .rfl
theorem jX.flat {n:Nat}{r:List V}(h:jX xs n r):r.all B7=NG:=by
 rcases h with⟨k,_,rfl⟩|⟨_,rfl⟩<;>rfl
inductive lE (K:e7)(CB CC CP CO:fe)(ts:List Tb)(vs:List V)(H:Hp)(Q:VK)(E:XK):Prop|mk(wd a:fe)(xs:List V)(ds:Za4)(_:vs=[.ref wd,.ref a])(_:Ch K CB CC CP CO H wd ds)(_:H a=en (.lst xs))(_:(∀x∈xs,NmT K H x))(_:xs.9<64)(_:Tbs ts H)(_:∀p r H',jX xs ds.9 r->SmT ts H H'->H' p=en (.lst r)->Q (.ref p) H')
variable (bA:zB P w K mg base "Named" af 10 ["self","wood","names"] (Vt K ad ac aa ae ag af ah aq ts)) (bC:T.ZC "_law_kind" 1 ["_law_e"] (lG ah aq am))
include T bA bC in
theorem mO (F:Fun K "_law_made" "_law_made" Ni f fd):Aq P w K mg base CX0 12 f fd ["_law_wood_here","_law_names_here"] (lE K ad ac aa ae ts):=by
 exists F.ok Jb
 obtain⟨wd,a,xs,ds,rfl,hW,ha,hN,h64,hT,q⟩:=h;refine⟨_,(Ab (tst 2 Jb.nd C9) (Ab (Aaz (i:=3) rfl rfl rfl Jb.nd rfl rfl rfl T.eD (λE pins σ=>(Cl (E9 (Aaw bA hr.m Gn (tpa (pv 0) (tpa (pv 1) Aa)))))) (λe=>(Ad (tst 2 Jb.nd (pv 3))))) (Ab (Bl (Nk (iD (pv 2))) (Ad (Am (Ay (tpa A5 Aa))))
  Au) (Ad (Am (Aw bC hr.m (tpa (pv 2) Aa))))))),?_⟩
 apply{λCv od H'=>∃C r,Cv=.ref C/\KdN ah aq am H' C od r/\jX xs ds.9 r/\SmT ts H H',?_,?_}
 .k_is
  intro x dx hx hdx hxd;have hs0:Ag H (upd (upd H dx (.own x)) x (.ins af dx [])):=Hs hx hdx;refine{x,dx,wd,a,xs,ds,rfl,Ae,hW.kp (Ag.kp hs0),hs0 _ _ ha,λy hy=>(hN y hy).same hs0,h64,hT.same hs0,λnm e hnm hnl _ H1 b1 _=>{rfl,?_},λk hk dy H1 s1 _ hy=>{_,_,rfl,.inl {rfl,dy,_,rfl,hy,uR ?_,rfl},.inl ⟨k,hk,rfl⟩,SmT.of hT (hs0.trans s1)},λhall hl H1 s1=>{_,_,rfl,.inr (.inl ⟨rfl,rfl⟩),.inr {hall,by rw[if_neg hl]},SmT.of hT (hs0.trans s1)}}
  .have k1:SmT ts H H1:=SmB.made hx hdx b1
   apply{few (by simp),λp hp=>?_};refine q p _ _ (.inr {?_,?_}) (k1.then (Al hp)) Ae
   .rw[e]
    exact jm.mpr λv hv=>by obtain⟨z,hz,rfl⟩:=je.mp hv;exact hnm z hz
   .rw[e,Dm,if_pos hnl]
  .obtain⟨y,hy,_⟩:=jj.mp hk.1
   have:=Bt hy;lia
 .rintro C od H' e ⟨C',r,hC,hK,hr,sH⟩ he
  obtain rfl:=zz hC;obtain⟨t1,he1⟩:=Ar (o:=Us e C od) he;have hK1:=hK.same t1;have s1:=sH.then t1;generalize upd H' e _=H1 at *;refine{?_,?_}
  .rcases hK with⟨rfl,_⟩|⟨rfl,_⟩|⟨rfl,_⟩
   .exact T.dv
   .exact T.dA
   .exact T.dF
  k_is;exact{e,C,od,r,rfl,he1,hK1,λp H2 s2 e2=>q p r H2 hr (s1.then s2) e2}
def ThV (H:Hp)(x:V):Prop:=(B7 x=NG/\∀z,x=.str z->z.9<=100)\/∃(a:fe) (xs:List V),x=.ref a/\xs.all B7=NG/\(H a=en (.lst xs)\/H a=en (.tup xs))
theorem ThV.kp {x:V}(h:ThV H x)(k:Kp H H'):ThV H' x:=h.imp id λ⟨a,xs,e,f,g⟩=>{a,xs,e,f,g.imp k.k k.k}
theorem vK {K:e7}{x:V}(h:B7 x=NG):Rf K H x:=by
 cases x with
 |int i=>exact yD i
 |bl b=>exact Ac1 b
 |non=>exact Aas
 |str z=>exact Ace z
 |_=>cases h
theorem Ab4 {K:e7}{x:V}(h:B7 x=NG):Any K H x:=by
 cases x with
 |int i=>exact Je i
 |bl b=>exact Ah5 b
 |non=>exact Adx
 |str z=>exact Ad1 z
 |_=>cases h
theorem ThV.nm {K:e7}{x:V}(h:ThV H x):NmT K H x:=by
 rcases h with⟨f,g⟩|⟨a,xs,rfl,_,h|h⟩
 .exact{vK f,g}
 .exact{zP h,λz e=>by cases e}
 .exact{Aak h,λz e=>by cases e}
theorem ThV.any {K:e7}{x:V}(h:ThV H x):Any K H x:=by
 rcases h with⟨f,_⟩|⟨a,xs,rfl,_,h|h⟩
 .exact Ab4 f
 .exact Acy h
 .exact Aew h
theorem ThV.same {K:e7}{x:V}{n:Nat}(h:ThV H x):Do K H (n+1) x x:=by
 rcases h with⟨f,_⟩|⟨a,xs,rfl,f,h|h⟩
 .exact .flat f
 .exact .lsts (SqL.of h) (SqL.of h) f
 .exact .tups (SqT.of h) (SqT.of h) f
theorem J0 {x:V}(h:B7 x=NG)(h2:∀z,x≠.str z):ThV H x:=.inl {h,λz e=>absurd e (h2 z)}
theorem Mc (h:z.9<=100):ThV H (.str z):=.inl {rfl,λy e=>by rw[<-V.str.inj e];exact h}
theorem Aag {i:Int}{k:Nat}(h:xs.9=k)(h0:0<=i)(h1:i<k):∃v,v∈xs/\atI xs i=en v:=by
 have hk:i.toNat<xs.9:=()
 exact{xs[i.toNat],zo hk,rR h0 (fc hk)}
theorem Abv {i j:Option Int}{x:V}(h:x∈Fc xs i j):x∈xs:=by
 unfold Fc at h;exact xn (xm h)
theorem Aej (xs:List V)(i j:Option Int):(Fc xs i j).9<=xs.9:=by
 unfold Fc;rw[gq,jb];lia
inductive sP (K:e7)(vs:List V)(H:Hp)(Q:VK)(E:XK):Prop|mk(a:fe)(nm:Za6)(r:Int)(_:vs=[.ref a,.int r])(_:H a=en (.lst (sV nm)))(_:(∀z∈nm,Rr z=NG))(_:nm.9<=30)(_:0<=r)(_:∀p xs H',Ag H H'->H' p=en (.lst xs)->xs.9<=33->(∀x∈xs,ThV H' x)->Q (.ref p) H')
include T aG in
theorem oM (F:Fun K "_law_put" "_law_put" Rt f fd):Aq P w K mg base CX0 2 f fd ["_law_names_here","_law_number"] (sP K):=by
 exists F.ok E4
 obtain⟨a,nm,r,rfl,ha,hnm,hnl,hr0,q⟩:=h;refine⟨_,(Aac.h (Ef (oN (i:=2) E4.nd rfl (y9 rfl) (qK (F7 C9 (F7 A5 (F7 A5 (F7 Af (F7 Hu (F7 (Ay (tpa A5 Aa)) (F7 A5 (F7 A5 (F7 (Kk (tpa A5 Aa)) pT rfl) rfl) rfl) rfl) rfl) rfl) rfl) rfl) rfl))) (Ef (si (tst 3 E4.nd (Cn He (by rfl) T.dD Ng (tpa (pv 0) Aa)))) (Ef (si (Cq im rfl (Db rfl T.c8 (tpa (Ak B1 (pv 1) Af) Aa)) (tgn 4 E4.nd) (Ab (tst 5 E4.nd (Aw aG hr.m (tpa (pv 1) (tpa (pv 4) Aa)))) (Ad (Rs (ttc (Agr (vZ hr)) (pv 3) (Ay Aa)) (Ad (rB (tix Bp (pv 2) (Ak B1 (Ak Cg (pv 5) Af) Af)) (qL (pv 3) (Ak B1 (pv 5) (Ao At (by rfl) T.c7 Cb (tpa (pv 3) Aa))) T7)))
  Au))))) (Ef (si (Rs (ttc C1 (Ak B1 (Ak Cg (pv 1) Af) Af) Af) (Ad (tst 3 E4.nd (Ak Jg (pv 3) (Ak qX (Ay (tpa A5 Aa)) (Ak Bd Af (Ak B1 (Ak Cg (pv 1) Af) Af))))))
  Au)) (Ef (si (Rs (ttc C1 (Ak B1 (Ak Cg (pv 1) Af) Af) Af) (Ad (tst 3 E4.nd (Co Ms (pv 3) (B5 (Ak Bd (Ak B1 (Ak Cg (pv 1) Af) Af) Af)) Ir)))
  Au)) (zU (si (Am (pv 3)))))))))),?_⟩
 apply{few (by simp),λl1 hl1=>?_};obtain⟨u1,f1⟩:=Ar (o:=.lst [V.str "a"]) hl1;generalize upd H l1 _=H1 at *;apply{few (by simp),λt1 ht1=>?_};obtain⟨u2,f2⟩:=Ar (o:=.tup [V.str "a"]) ht1;generalize upd H1 t1 _=H2 at *;apply{few (by simp),λb hb=>?_};have hin:∀x∈[V.non,V.str "",V.str "Ab",V.int 5,V.bl NG,V.ref l1,V.str "abcdefghi",V.str "a b",V.ref t1],(B7 x=NG/\∀z,x=.str z->z.9<=100)\/x=.ref l1\/x=.ref t1:=by
  have st:∀z:Str,z.9<=100->(B7 (.str z)=NG/\∀y,V.str z=.str y->y.9<=100)\/V.str z=.ref l1\/V.str z=.ref t1:=λz h=>.inl {rfl,λy e=>by rw[<-V.str.inj e];exact h};intro x hx;simp only[i5,kq,or_false] at hx;rcases hx with rfl|rfl|rfl|rfl|rfl|rfl|rfl|rfl|rfl
  .exact .inl {rfl,λ_ e=>by cases e}
  .exact st _ (by decide)
  .exact st _ (by decide)
  .exact .inl {rfl,λ_ e=>by cases e}
  .exact .inl {rfl,λ_ e=>by cases e}
  .exact .inr (.inl rfl)
  .exact st _ (by decide)
  .exact st _ (by decide)
  .exact .inr (.inr rfl)
 have hml:[V.non,V.str "",V.str "Ab",V.int 5,V.bl NG,V.ref l1,V.str "abcdefghi",V.str "a b",V.ref t1].9=9:=rfl;generalize [V.non,V.str "",V.str "Ab",V.int 5,V.bl NG,V.ref l1,V.str "abcdefghi",V.str "a b",V.ref t1]=ms at *;obtain⟨u3,f3⟩:=Ar (o:=.lst ms) hb;generalize upd H2 b _=H3 at *;have s3:=(u1.trans u2).trans u3;apply{a,_,rfl,.inl (SqL.of (s3 _ _ ha)),λc hc=>?_};obtain⟨u4,f4⟩:=Ar (o:=.lst (sV nm)) hc;generalize upd H3 c _=H4 at *;apply{_,rfl,(),(),?_};refine Gh (λi σ H5=>∃(v4 v5:Option V) (xs:List V),σ=[en (.ref a),en (.int r),en (.ref b),en (.ref c),v4,v5]/\H5 c=en (.lst xs)/\xs.9=nm.9/\(∀x∈xs,(B7 x=NG/\∀z,x=.str z->z.9<=100)\/x=.ref l1\/x=.ref t1)/\Ag H3 H5) {_,_,_,rfl,f4,Dm nm,λx hx=>?_,u4} ?_ ?_
 .obtain⟨z,hz,rfl⟩:=je.mp hx
  exact .inl {rfl,λy e=>by have:=Uz (hnm z hz);rw[<-V.str.inj e];lia}
 .rintro i σ H5 hi ⟨v4,v5,xs,rfl,h5,hxl,hx5,s5⟩
  apply{r,_,rfl,(),(),λm m0 m1=>?_};apply Y9 (λσ H6=>∃xs:List V,σ=[en (.ref a),en (.int r),en (.ref b),en (.ref c),en (.int (0+(i:Int))),en (.int m)]/\H6 c=en (.lst xs)/\xs.9=nm.9/\(∀x∈xs,(B7 x=NG/\∀z,x=.str z->z.9<=100)\/x=.ref l1\/x=.ref t1)/\Ag H3 H6) ?_ ?_
  .apply{ij _,λe he=>?_};obtain⟨u6,f6⟩:=Ar (o:=.lst []) he;have h6:=u6 _ _ h5;have s6:=s5.trans u6;generalize upd H5 e _=H6 at *;refine Aju (SqL.of h6) (SqL.of f6) ?_;apply Oy (λhne=>?_) (λ_=>?_)
   .have hpos:0<xs.9:=ue.mpr hne
    k_is;obtain⟨v,hv,hat⟩:=Aag (i:=m/64%9) hml () ();refine Cm (SqL.of (s6 _ _ f3)) hat ?_;apply{c,_,rfl,.inl (SqL.of h6),?_};apply jM () ?_;k_is;have e1:=mw m (show(xs.9:Int)≠0 by lia);have e2:=lx m (show(0:Int)<xs.9 by lia);refine pU h6 (j:=(m%(xs.9:Int)).toNat) () () ?_;apply{_,rfl,Ae,by rw[wu];exact hxl,λx hx=>?_,A6 s6 hc};rcases List.mem_or_eq_of_mem_set hx with h|rfl
    .exact hx5 x h
    .exact hin _ hv
   .k_is
    exact⟨xs,rfl,h6,hxl,hx5,s6⟩
  rintro σ H6 ⟨xs6,rfl,h6,hl6,hx6,s6⟩;k_is;exact{_,_,xs6,rfl,h6,hl6,hx6,s6}
 rintro σ H5 ⟨v4,v5,xs,rfl,h5,hxl,hx5,s5⟩;apply Y9 (λσ H6=>∃(c2:fe) (xs:List V),σ=[en (.ref a),en (.int r),en (.ref b),en (.ref c2),v4,v5]/\H6 c2=en (.lst xs)/\xs.9<=33/\(∀x∈xs,(B7 x=NG/\∀z,x=.str z->z.9<=100)\/x=.ref l1\/x=.ref t1)/\Ag H3 H6) ?_ ?_
 .apply Bq (λ_=>?_) (λ_=>?_)
  .apply{few (by simp),λe he=>?_};obtain⟨u6,f6⟩:=Ar (o:=.lst [V.str "a"]) he;have h6:=u6 _ _ h5;have s6:=s5.trans u6;generalize upd H5 e _=H6 at *;apply{e,_,_,rfl,rfl,f6,(),(),few (by rw[ii];lia),λg hg=>?_};obtain⟨u7,f7⟩:=Ar (o:=.lst (gd (1+r/12%3).toNat [V.str "a"]).flatten) hg;have h7:=u7 _ _ h6;have s7:=s6.trans u7;have hrl:=iY [V.str "a"] (1+r/12%3).toNat;have hrm:∀x∈(gd (1+r/12%3).toNat [V.str "a"]).flatten,x=V.str "a":=λx hx=>by
    obtain⟨l,hl,hxl⟩:=List.mem_flatten.mp hx;rw[(List.mem_replicate.mp hl).2] at hxl;exact j0.mp hxl
   rw[ii] at hrl;generalize (gd (1+r/12%3).toNat [V.str "a"]).flatten=ys at *;generalize upd H6 g _=H7 at *;refine{c,g,_,_,rfl,rfl,h7,f7,few (),λk hk=>?_};apply{k,_,rfl,Ae,by rw[fq];lia,λx hx=>?_,s7.trans (Al hk)};rcases kj.mp hx with h|h
   .exact hx5 x h
   .rw[hrm x h]
    exact .inl {rfl,λy e=>by rw[<-V.str.inj e];decide}
  .k_is
   exact{c,xs,rfl,h5,(),hx5,s5}
 rintro σ H6 ⟨c2,ys,rfl,h6,hl6,hx6,s6⟩;have fin:∀(c3:fe) (zs:List V) H7,Ag H3 H7->H7 c3=en (.lst zs)->zs.9<=33->(∀x∈zs,x∈ys)->Q (.ref c3) H7:=λc3 zs H7 s7 h7 l7 m7=>q c3 zs H7 (s3.trans s7) h7 l7 λx hx=>by
  rcases hx6 x (m7 x hx) with h|rfl|rfl
  .exact .inl h
  .exact .inr {l1,_,rfl,rfl,.inl (s7 _ _ (u3 _ _ (u2 _ _ f1)))}
  .exact .inr {t1,_,rfl,rfl,.inr (s7 _ _ (u3 _ _ f2))}
 apply Y9 (λσ H7=>∃(c3:fe),σ=[en (.ref a),en (.int r),en (.ref b),en (.ref c3),v4,v5]/\Q (.ref c3) H7) ?_ ?_
 .apply Bq (λ_=>?_) (λ_=>?_)
  .apply{c2,_,rfl,SqL.of h6,λc3 hc3=>?_};k_is;exact{c3,rfl,fin c3 _ _ (s6.trans (Al hc3)) Ae (iy (Aej _ _ _) hl6) λx hx=>Abv hx}
  .k_is
   exact{c2,rfl,fin c2 ys H6 s6 h6 hl6 λx hx=>hx}
 rintro σ H7 ⟨c3,rfl,q7⟩;k_is;exact q7
include T in
theorem Up (F:Fun K "_law_is_name" "_law_is_name" Gs f fd):Aq P w K mg base CX0 1 f fd ["_law_thing"] (O5 K):=by
 exists F.ok T1
 obtain⟨x,rfl,hA,hz,q⟩:=h;refine⟨_,(Ab (Bl (PW.pt (Ie (Cw (B4 (Ao Cu (by rfl) T.de A8 (tpa (pv 0) (tpa (Gp (v:=.ty "str") rfl T.d7 rK rfl) Aa))))) (Ij (Cw (jN Vg Vg Af (Ao B2 (by rfl) T.c7 Cb (tpa (pv 0) Aa)) Af))))) (Ad (Am Hu))
  Au) (Ad (Am (tpc (Ahj (vZ hr)) (Ja rfl Pq (gG (pv 0)) (λ_ _ _ _=>Ty (Iu Oq (pv 0) A5 rfl)) (λ_ _ _ _=>(pv 0))) (Ay Aa))))),?_⟩
 obtain⟨t,ht,hk⟩:=hA;apply{_,_,_,_,rfl,ht,hk,?_};k_is;have qn:nmV x=NH->Q (.bl NH) H:=λe=>e▸q H (Ag.refl _)
 cases hb:isS x with
 |false=>
  have e:nmV x=NH:=by cases x<;>first|rfl|cases hb
  k_is;exact qn e
 |true=>
  obtain⟨z,rfl⟩:∃z,x=.str z:=by
   cases x with
   |str z=>exact⟨z,rfl⟩
   |_=>cases hb
  have hz:=hz z rfl;have qn:¬(1<=z.9/\z.9<=8)->Q (.bl NH) H:=λh=>qn (by show(decide _&&_)=NH;rw[decide_eq_false h,xr]);apply{z,rfl,gy (Ai ()),?_};apply Bq (λh1=>?_) (λh1=>?_)
  .apply Oy (λh8=>?_) (λh8=>?_)
   .k_is
    exact qn ()
   apply{z,rfl,?_};refine Acs (λi=>((z.cps.toList.take i).filter λc=>!K2 c).map λc=>V.str (sgn c)) rfl (λi hi=>?_) (λi c H1 R A hc s1 kR kA=>?_) (λD H1 hD s1 hD1=>?_)
   .rw[fb]
    have:z.cps.toList.9=z.9:=ie;exact Ai (iy (oq _ _) (by rw[gq];lia))
   .have hc:z.cps.7[i]?=en c:=by rw[j6];exact hc
    apply{_,_,rfl,rfl,?_};rw[Yw]
    cases hl:K2 c with
    |true=>
     k_is;exact kR (by rw[i6,hc,lw,ge];simp[hl]) _ (Ag.refl _)
    |false=>
     k_is;exact kA _ _ (by rw[i6,hc,lw,ge];simp[hl]) (Ag.refl _)
   .have el:z.cps.toList.take z.cps.8=z.cps.7:=gp (by rw[ie];exact fm _)
    rw[el] at hD1;apply{ij _,λg hg=>?_};have u:=Al (o:=.lst []) hg;refine{D,g,_,_,rfl,rfl,SqL.of (u _ _ hD1),SqL.of Ae,jm.mpr λv hv=>by obtain⟨c,_,rfl⟩:=je.mp hv;rfl,rfl,?_};have:=q _ (s1.trans u);have e:nmV (.str z)=(NH != eqL ((z.cps.toList.filter λc=>!K2 c).map λc=>V.str (sgn c)) []):=by
     show(decide _&&_)=_;rw[decide_eq_true (),yn];unfold eqL
     cases hf:z.cps.toList.filter λc=>!K2 c with
     |nil=>
      rw[show z.cps.toList.all K2=NG from jm.mpr λc hc=>by
       have:=CV.mp hf c hc
       simpa using this]
      rfl
     |cons c cs=>
      have hc:=tx.mp (hf▸gt:c∈z.cps.toList.filter λc=>!K2 c);rw[show z.cps.toList.all K2=NH from List.all_eq_false.mpr {c,hc.1,by simpa using hc.2}];rfl
    rw[e] at this;exact this
  .k_is
   exact qn ()
inductive sK (K:e7)(vs:List V)(H:Hp)(Q:VK)(E:XK):Prop|mk(a:fe)(xs:List V)(n:Nat)(_:vs=[.ref a,.int n])(_:H a=en (.lst xs))(_:(∀x∈xs,NmT K H x))(_:xs.9<64)(_:∀p r H',jX xs n r->Ag H H'->H' p=en (.lst r)->Q (.ref p) H')
variable (bE:T.ZC "_law_is_name" 1 ["_law_thing"] (O5 K))
include T bE in
theorem qZ (F:Fun K "_law_due" "_law_due" Pw f fd):Aq P w K mg base CX0 2 f fd ["_law_names_here","_law_many"] (sK K):=by
 exists F.ok Xw
 obtain⟨a,xs,n,rfl,ha,hN,hl,q⟩:=h;refine⟨_,(Ab (Cq im rfl (Db rfl T.c8 (tpa (Ao At (by rfl) T.c7 Cb (tpa (pv 0) Aa)) Aa)) (tgn 2 Xw.nd) (Ad (Bl (Cw (B4 (Aw bE hr.m (tpa (tix Bp (pv 0) (pv 2)) Aa)))) (Ad (Am (Ay (tpa A5 (tpa (pv 2) Aa)))))
  Au))) (Ad (Am (tix Bp (Ay (tpa (Ay (tpa A5 Aa)) (tpa (Ay (tpa A5 Aa)) Aa))) (Cn Y0 (by rfl) T.dY mL (tpa (tpc C1 (Ao At (by rfl) T.c7 Cb (tpa (pv 0) Aa)) (pv 1)) Aa)))))),?_⟩
 apply{a,_,rfl,.inl (SqL.of ha),?_};apply{_,rfl,(),(),?_};refine Gh (λi σ H1=>(∃v2:Option V,σ=[en (.ref a),en (.int n),v2])/\(xs.take i).all nmV=NG/\Ag H H1) {{_,rfl},rfl,Ag.refl _} ?_ ?_
 .rintro i σ H1 hi ⟨⟨v2,rfl⟩,hb,s1⟩
  rw[gr] at hi;obtain⟨x,hx⟩:∃x,xs[i]?=en x:={_,fc hi};have hm:=hN x (ip hx);apply Cm (SqL.of (s1 _ _ ha)) (v:=x) (by rw[uo];exact Bi hx) ?_;apply{x,rfl,hm.1.same s1,hm.2,λH2 s2=>?_};have s2:=s1.trans s2
  cases hx2:nmV x with
  |true=>
   apply{{_,rfl},?_,s2};rw[i6,hx,AC,hb];show(NG&&(nmV x&&NG))=NG;rw[hx2];rfl
  |false=>
   apply{few (by simp),λp hp=>?_};exact q p _ _ (.inl {i,{by rw[hx];exact congrArg en hx2,hb},by rw[uo]}) (s2.trans (Al hp)) Ae
 .rintro σ H1 ⟨⟨v2,rfl⟩,hb,s1⟩
  rw[gr,gp (fm _)] at hb;apply{few (by simp),λp6 h6=>?_};have w6:=s1.trans (Al (o:=.lst [V.str "fit"]) h6);have f6:=@Ae H1 p6 (.lst [V.str "fit"]);generalize upd H1 p6 _=H6 at *;apply{few (by simp),λp7 h7=>?_};obtain⟨t7,f7⟩:=Ar (o:=.lst [V.str "good"]) h7;generalize upd H6 p7 _=H7 at *;apply{few (by simp),λp8 h8=>?_};obtain⟨t8,f8⟩:=Ar (o:=.lst [V.ref p6,V.ref p7]) h8;generalize upd H7 p8 _=H8 at *;have w8:=w6.trans (t7.trans t8);apply{a,_,rfl,.inl (SqL.of (w8 _ _ ha)),?_};apply .inr {_,rfl,?_}
  by_cases e:xs.9=n
  .rw[decide_eq_true (by rw[e])]
   exact Cm (SqL.of f8) (v:=.ref p7) rfl (q p7 _ _ (.inr {hb,by rw[if_pos e]}) w8 (t8 _ _ f7))
  .rw[decide_eq_false (λh=>e (by have:=V.int.inj h;lia))]
   exact Cm (SqL.of f8) (v:=.ref p6) rfl (q p6 _ _ (.inr {hb,by rw[if_neg e]}) w8 (t8 _ _ (t7 _ _ f6)))
def Oz (wy:Int)(n:Nat)(k z:V):List V:=if wy≠1/\inI k 0 ((n:Int)-1)=NH then[.str "knot"] else if wy≠0/\nmV z=NH then[.str "name",.non] else[.str "good"]
theorem wR (wy:Int)(n:Nat)(k z:V):(Oz wy n k z).all B7=NG:=by
 unfold Oz;split
 .rfl
 split<;>rfl
inductive Z9 (K:e7)(CB CC CP CO CS CN:fe)(ts:List Tb)(vs:List V)(H:Hp)(Q:VK)(E:XK):Prop|mk(x:fe)(nm:Za6)(ds os:Za4)(wy:Int)(k z:V)(_:vs=[.ref x,.int wy,k,z])(_:Ex K CB CC CP CO CS CN H x nm ds os)(_:Tbs ts H)(_:Any K H k)(_:NmT K H z)(_:∀p H',SmT ts H H'->H' p=en (.lst (Oz wy ds.9 k z))->Q (.ref p) H')
variable (bF:Xg P w K mg base af "name_of" 5 ["self","k"] (Zb K ad ac aa ae ag af am))
include T bC bF in
theorem fR (F:Fun K "_law_asked" "_law_asked" Lw f fd)(cP:Xg P w K mg base af "all_of" 4 ["self","name"] (Aax K ad ac aa ae ag af ah))(cQ:Xg P w K mg base af "many_beneath" 14 ["self","k","name"] (Ii K ad ac aa ae ag af am ah ts jE))(cR:Xg P w K mg base af "all_beneath" 14 ["self","k","name"] (Ii K ad ac aa ae ag af am ah ts jE))(cS:Xg P w K mg base af "next_of" 5 ["self","k","name"] (Ii K ad ac aa ae ag af am ah ts jE))(cT:Xg P w K mg base af "elder_of" 13 ["self","k","name"] (Ii K ad ac aa ae ag af am ah ts jE)) :
  Aq P w K mg base CX0 15 f fd ["_law_told","_law_way","_law_k","_law_name"] (Z9 K ad ac aa ae ag af ts):=by
 exists F.ok Hi
 obtain⟨x,nm,ds,os,wy,k,z,rfl,hNm,hT,hk,hz,q⟩:=h;obtain⟨hnl,h64,hOs,dx,wd,sx,b,l,sp,nk,as,es,hN⟩:=id hNm;refine⟨_,(Ab (tst 4 Hi.nd C9) (Ab (Aaz (i:=5) rfl rfl rfl Hi.nd rfl rfl rfl T.eD (λE pins σ=>(Cl (L9 (ttc C1 (pv 1) Af) (Cl (E9 (J1 bF hr.m Gn (pv 0) (tpa (pv 2) Aa)))) (Cl (L9 (ttc C1 (pv 1) Af) (Cl (E9 (J1 cP hr.m Gn (pv 0) (tpa (pv 3) Aa)))) (Cl (L9 (ttc C1 (pv 1) Af) (Cl (E9 (J1 cQ hr.m Gn (pv 0) (tpa (pv 2) (tpa (pv 3) Aa))))) (Cl (L9 (ttc C1 (pv 1) Af) (Cl (E9 (J1 cR hr.m Gn (pv 0) (tpa (pv 2) (tpa (pv 3) Aa))))) (Cl (L9 (ttc C1 (pv 1) Af) (Cl (E9 (J1 cS hr.m Gn (pv 0) (tpa (pv 2) (tpa (pv 3) Aa))))) (Cl (E9 (J1 cT hr.m Gn (pv 0) (tpa (pv 2) (tpa (pv 3) Aa)))))))))))))))) (λe=>(Ad (tst 4 Hi.nd (pv 5))))) (Ab (Bl (Nk (iD (pv 4))) (Ad (Am (Ay (tpa A5 Aa))))
  Au) (Ad (Am (Aw bC hr.m (tpa (pv 4) Aa))))))),?_⟩
 apply{λCv od H'=>∃C,Cv=.ref C/\KdN ah aq am H' C od (Oz wy ds.9 k z)/\SmT ts H H',?_,?_}
 .have eK:wy≠1->inI k 0 ((ds.9:Int)-1)=NH->∃C,iw am=.ref C/\KdN ah aq am H C p9 (Oz wy ds.9 k z)/\SmT ts H H:=λh1 h2=>{_,rfl,.inr (.inr {rfl,if_pos ⟨h1,h2⟩}),SmT.refl hT}
  have eM:wy≠0->(wy=1\/inI k 0 ((ds.9:Int)-1)=NG)->nmV z=NH->fZ ah H (λCv od H'=>∃C,Cv=.ref C/\KdN ah aq am H' C od (Oz wy ds.9 k z)/\SmT ts H H') .non:=λh0 h1 h2 dy H' s1 _ hy=>⟨_,rfl,.inl ⟨rfl,dy,.non,rfl,hy,trivial,by
   unfold Oz;rw[if_neg (λh=>h1.elim h.1 λe=>by rw[e] at h;cases h.2),if_pos ⟨h0,h2⟩]⟩,SmT.of hT s1⟩
  have eG:(wy=1\/inI k 0 ((ds.9:Int)-1)=NG)->(wy=0\/nmV z=NG)->∀p H',SmT ts H H'->H' p=en (.lst [.str "good"])->Q (.ref p) H':=λh1 h2 p H' s1 e=>q p H' s1 (by
   unfold Oz;rw[if_neg (λh=>h1.elim h.1 λe=>by rw[e] at h;cases h.2),if_neg (λh=>h2.elim h.1 λe=>by rw[e] at h;cases h.2)];exact e)
  apply Bq (λh0=>?_) (λh0=>?_)
  .have h0:=V.int.inj h0
   apply{x,dx,_,rfl,hN.hx,rfl,?_};apply{x,nm,ds,os,k,rfl,hNm,hk,λj y hj hy H1 s1=>?_,eK ()};apply{few (by simp),λp hp=>?_};have hlt:=Bt hy;exact eG (.inr (by rw[hj];exact Tj ())) (.inl h0) p _ ((SmT.of hT s1).then (Al hp)) Ae
  have h0:wy≠0:=λe=>h0 (by rw[e]);apply Bq (λh1=>?_) (λh1=>?_)
  .have h1:=V.int.inj h1
   apply{x,dx,_,rfl,hN.hx,rfl,?_};apply{x,nm,ds,os,z,rfl,hNm,hz,λhm r H1 s1=>?_,eM h0 (.inl h1)};apply{few (by simp),λp hp=>?_};exact eG (.inl h1) (.inr hm) p _ ((SmT.of hT s1).then (Al hp)) Ae
  have h1:wy≠1:=λe=>h1 (by rw[e]);have ask:∀{Q':VK},(∀r H',SmT ts H H'->inI k 0 ((ds.9:Int)-1)=NG->nmV z=NG->Q' r H')->Ii K ad ac aa ae ag af am ah ts jE [.ref x,k,z] H Q' (λCv od H'=>∃C,Cv=.ref C/\KdN ah aq am H' C od (Oz wy ds.9 k z)/\SmT ts H H'):=λh=>{x,nm,ds,os,k,z,rfl,hNm,hT,hk,hz,λhi hm r H1 _ s1=>h r H1 s1 hi hm,eK h1,λhi=>eM h0 (.inr hi)};apply Bq (λ_=>?_) (λ_=>?_)
  .apply{x,dx,_,rfl,hN.hx,rfl,?_};apply ask λr H1 s1 hi hm=>?_;k_is;exact{few (by simp),λp hp=>eG (.inr hi) (.inr hm) p _ (s1.then (Al hp)) Ae}
  apply Bq (λ_=>?_) (λ_=>?_)
  .apply{x,dx,_,rfl,hN.hx,rfl,?_};apply ask λr H1 s1 hi hm=>?_;k_is;exact{few (by simp),λp hp=>eG (.inr hi) (.inr hm) p _ (s1.then (Al hp)) Ae}
  apply Bq (λ_=>?_) (λ_=>?_)
  .apply{x,dx,_,rfl,hN.hx,rfl,?_};apply ask λr H1 s1 hi hm=>?_;k_is;exact{few (by simp),λp hp=>eG (.inr hi) (.inr hm) p _ (s1.then (Al hp)) Ae}
  apply{x,dx,_,rfl,hN.hx,rfl,?_};apply ask λr H1 s1 hi hm=>?_;k_is;exact{few (by simp),λp hp=>eG (.inr hi) (.inr hm) p _ (s1.then (Al hp)) Ae}
 .rintro C od H' e ⟨C',hC,hK,sH⟩ he
  obtain rfl:=zz hC;obtain⟨t1,he1⟩:=Ar (o:=Us e C od) he;have hK1:=hK.same t1;have s1:=sH.then t1;generalize upd H' e _=H1 at *;refine{?_,?_}
  .rcases hK with⟨rfl,_⟩|⟨rfl,_⟩|⟨rfl,_⟩
   .exact T.dv
   .exact T.dA
   .exact T.dF
  k_is;exact{e,C,od,_,rfl,he1,hK1,λp H2 s2 e2=>q p H2 (s1.then s2) e2}
inductive nL (K:e7)(vs:List V)(H:Hp)(Q:VK)(E:XK):Prop|mk(wy:Int)(n:Nat)(k z:V)(_:vs=[.int wy,.int n,k,z])(_:Any K H k)(_:NmT K H z)(_:∀p H',Ag H H'->H' p=en (.lst (Oz wy n k z))->Q (.ref p) H')
include T bE in
theorem Px (F:Fun K "_law_asked_due" "_law_asked_due" G2 f fd)(cU:T.ZC "_law_whole" 1 ["_law_found"] (Ox K)):Aq P w K mg base CX0 2 f fd ["_law_way","_law_many","_law_k","_law_name"] (nL K):=by
 exists F.ok Ry
 obtain⟨wy,n,k,z,rfl,hk,hz,q⟩:=h;refine⟨_,(Ab (Rs (PW.pt (Rz (ttc Na (pv 0) Af) (Ma (PW.pt (Ie (Cw (B4 (Aw cU hr.m (tpa (pv 2) Aa)))) (Ij (Cw (jN Vg Ot Af (pv 2) (pv 1))))))))) (Ad (Am (Ay (tpa A5 Aa))))
  Au) (Ab (Bl (PW.pt (Rz (ttc Na (pv 0) Af) (Ma (Cw (B4 (Aw bE hr.m (tpa (pv 3) Aa))))))) (Ad (Am (Ay (tpa A5 (tpa C9 Aa)))))
  Au) (Ad (Am (Ay (tpa A5 Aa)))))),?_⟩
 k_is;have qr:∀r (H1:Hp),Ag H H1->Oz wy n k z=r->∀p,H1 p=p9->Q (.ref p) (upd H1 p (.lst r)):=λr H1 s1 e p hp=>q p _ (s1.trans (Al hp)) (by rw[e];exact Ae);refine Y9 (λσ H'=>σ=[en (.int wy),en (.int n),en k,en z]/\H'=H/\(wy=1\/inI k 0 ((n:Int)-1)=NG)) ?_ ?_
 .have no:wy≠1->inI k 0 ((n:Int)-1)=NH->∀p,H p=p9->Q (.ref p) (upd H p (.lst [V.str "knot"])):=λh1 h2=>qr _ H (Ag.refl _) (if_pos ⟨h1,h2⟩)
  apply Oy (λh1=>?_) (λh1=>?_)
  .have h1:wy≠1:=λe=>h1 (by rw[e])
   apply{k,rfl,hk,?_}
   cases hi:isI k with
   |false=>
    k_is;exact{few (by simp),no h1 (by cases k<;>first|rfl|cases hi)}
   |true=>
    obtain⟨i,rfl⟩:∃i,k=.int i:=by
     cases k with
     |int i=>exact⟨i,rfl⟩
     |_=>cases hi
    rw[Tx] at *;apply Bq (λh2=>?_) (λh2=>?_)
    .apply Oy (λh3=>?_) (λh3=>?_)
     .k_is
      exact{few (by simp),no h1 (by rw[decide_eq_false (show ¬ i<=(n:Int)-1 by lia),Bool.and_false])}
     .k_is
      exact{rfl,rfl,.inr (by rw[decide_eq_true h2,decide_eq_true (show i<=(n:Int)-1 by lia)];rfl)}
    .k_is
     exact{few (by simp),no h1 (by rw[decide_eq_false h2];rfl)}
  .k_is
   exact{rfl,rfl,.inl (V.int.inj h1)}
 rintro σ H' ⟨rfl,rfl,h1⟩;have hn:¬(wy≠1/\inI k 0 ((n:Int)-1)=NH):=λh=>h1.elim h.1 λe=>by rw[e] at h;cases h.2
 apply Oy (λh0=>?_) (λh0=>?_)
 .have h0:wy≠0:=λe=>h0 (by rw[e])
  apply{z,rfl,hz.1,hz.2,λH1 s1=>?_}
  cases hm:nmV z with
  |false=>
   k_is;exact{few (by simp),qr _ H1 s1 (by unfold Oz;rw[if_neg hn,if_pos ⟨h0,hm⟩])}
  |true=>
   k_is;exact{few (by simp),qr _ H1 s1 (by unfold Oz;rw[if_neg hn,if_neg (λh=>by rw[hm] at h;cases h.2)])}
 .have h0:=V.int.inj h0
  k_is;exact{few (by simp),qr _ _ (Ag.refl _) (by unfold Oz;rw[if_neg hn,if_neg (λh=>h.1 h0)])}
theorem xP (h:xs.all B7=NG):eqL xs xs=NG:=by
 unfold eqL;rw[decide_eq_true rfl,yn];refine jm.mpr λj hj=>?_;have hj:=ki.mp hj;refine jK (jm.mp h _ ?_);rw[iq,fc hj];exact zo hj
theorem Adh (nm:Za6):(sV nm).all B7=NG:=jm.mpr λv hv=>by
 obtain⟨z,_,rfl⟩:=je.mp hv;rfl
theorem Ack {K:e7}{Q:VK}{a b:fe}(h1:SqL K H a xs)(h2:SqL K H b xs)(f1:xs.all B7=NG)(q:Q (.bl NH) H):Age K NG (.ref a) (.ref b) H Q:=by
 refine{a,b,xs,xs,rfl,rfl,h1,h2,f1,f1,?_};rw[xP f1];exact q
include T aj ZO aL aG bA bF in
theorem Ahd (F:Fun K "law" "law" Xy f fd)(cV:T.ZC "_law_wood" 1 ["_law_digits_here"] yB)(bJ:T.ZC "_law_digits" 2 ["_law_script","_law_at","_law_many"] (lA K))(cW:T.ZC "_law_names" 1 ["_law_digits_here","_law_seed"] uP)(cX:T.ZC "_law_put" 2 ["_law_names_here","_law_number"] (sP K))(cY:T.ZC "_law_made" 12 ["_law_wood_here","_law_names_here"] (lE K ad ac aa ae ts))(bK:Mkr P w K mg base "Opened" ae 9 ["self","elders"] (jQ K ad ac aa ae))(cZ:T.ZC "_law_due" 2 ["_law_names_here","_law_many"] (sK K))(c5:T.ZC "_law_asked" 15 ["_law_told","_law_way","_law_k","_law_name"] (Z9 K ad ac aa ae ag af ts))(c6:T.ZC "_law_asked_due" 2 ["_law_way","_law_many","_law_k","_law_name"] (nL K)):Aq P w K mg base CX0 16 f fd ["_law_script"] (tG K ts):=by
 exists F.ok Ei
 obtain⟨a,ns,rfl,hS,hlen,hT,q⟩:=h;refine⟨_,(Aac.h (Ef (si (tst 1 Ei.nd (Ak B1 (Aw aG hr.m (tpa (Aw aL hr.m (tpa (pv 0) (tpa Af Aa))) (tpa Af Aa))) Af))) (Ef (si (tst 2 Ei.nd (Aw cV hr.m (tpa (Aw bJ hr.m (tpa (pv 0) (tpa Af (tpa (pv 1) Aa)))) Aa)))) (Ef (si (tst 3 Ei.nd (Aw cW hr.m (tpa (Aw bJ hr.m (tpa (pv 0) (tpa Af (tpa (pv 1) Aa)))) (tpa (Aw aG hr.m (tpa (Aw aL hr.m (tpa (pv 0) (tpa Af Aa))) (tpa Af Aa))) Aa))))) (Ef (si (Cq im rfl (Db rfl T.c8 (tpa Af Aa)) (tgn 4 Ei.nd) (Ab (tst 5 Ei.nd (Aw cX hr.m (tpa (pv 3) (tpa (Aw aG hr.m (tpa (Aw aL hr.m (tpa (pv 0) (tpa (pv 4) Aa))) (tpa (Ak Bd Af (pv 4)) Aa))) Aa)))) (Ab (tst 6 Ei.nd (Cn He (by rfl) T.dD Ng (tpa (pv 5) Aa))) (Ad (Bl (PW.pt (Ie (ttc (pZ (vZ hr)) (Aw cY hr.m (tpa (Xc bK hr.m (tpa (pv 2) Aa)) (tpa (pv 6) Aa))) (Aw cZ hr.m (tpa (pv 5) (tpa (pv 1) Aa)))) (Ij (ttc (Ah6 (vZ hr)) (pv 6) (pv 5))))) (Ad (Am Hu))
  Au)))))) (Ef (si (P5 (i:=7) Ei.nd rfl (BR rfl) (Ag9 bA hr.m oQ (tpa (Xc bK hr.m (tpa (pv 2) Aa)) (tpa (Cn He (by rfl) T.dD Ng (tpa (pv 3) Aa)) Aa))))) (Ef (oN (i:=8) Ei.nd rfl (y9 rfl) (qK (F7 A5 (F7 C9 (F7 A5 (F7 A5 (F7 Af (F7 Hu (F7 (Ay (tpa A5 Aa)) (F7 A5 (F7 fJ pT rfl) rfl) rfl) rfl) rfl) rfl) rfl) rfl) rfl))) (Ef (oN (i:=9) Ei.nd rfl (y9 rfl) (qK (F7 Af (F7 (Ak B0 (pv 1) Af) (F7 (pv 1) (F7 (Fl Dc Af) (F7 C9 (F7 Hu (F7 A5 (F7 (Ay (tpa Af Aa)) (F7 (Kk (tpa Af Aa)) (F7 (Ak Agg Af Af) pT rfl) rfl) rfl) rfl) rfl) rfl) rfl) rfl) rfl) rfl))) (Ef (si (Cq im rfl (Mo rfl T.dB (tpa (Ak Jg (Co Ms (pv 0) (B5 Af) (B5 Af)) (Ay (tpa (Ao At (by rfl) T.c7 Cb (tpa (pv 0) Aa)) Aa))) Aa)) (Kt rfl (B6 (tgn 4 Ei.nd) (B6 (tgn 10 Ei.nd) Hd))) (Ab (tst 11 Ei.nd (Aw aG hr.m (tpa (pv 10) (tpa (pv 4) Aa)))) (Ab (tst 12 Ei.nd (tix Bp (pv 9) (Ak B1 (Ak Cg (pv 11) Af) Af))) (Ab (tst 13 Ei.nd (tix Bp (pv 8) (Ak B1 (Ak Cg (pv 11) Af) Af))) (Ab (tst 14 Ei.nd (Ak B1 (pv 11) Af)) (Ab (Bl (ttc (pZ (vZ hr)) (Aw c5 hr.m (tpa (pv 7) (tpa (pv 14) (tpa (pv 12) (tpa (pv 13) Aa))))) (Aw c6 hr.m (tpa (pv 14) (tpa (pv 1) (tpa (pv 12) (tpa (pv 13) Aa)))))) (Ad (Am Hu))
  Au) (Ad (Bl (ttc (pZ (vZ hr)) (Ja rfl Aat (Db rfl T.c8 (tpa (pv 1) Aa)) (λ_ _ _ _=>Cf) (λ_ _ _ _=>(Pu bF hr.m oQ (pv 1) (tpa (pv 0) Aa)))) (pv 3)) (Ad (Am Hu))
  Au))))))))) (zU (si (Am Hu)))))))))))),?_⟩
 apply{a,ns,0,rfl,hS,λc0=>?_};apply{c0,1,rfl,by decide,by decide,λr0 h0 h1=>?_};k_is;obtain⟨m,hm,hm1⟩:∃m:Nat,r0%31=(m:Int)/\m<=30:={(r0%31).toNat,(),()};rw[hm];apply{a,ns,2,m,rfl,hS,(),(),λp1 gs1 H1 s1 _ hp1 hg1=>?_};rw[gr] at hg1;apply{p1,gs1,rfl,hp1,(),λe ds H2 s2 _ he2 hD hdl=>?_};have s12:=s1.trans s2;apply{a,ns,13,m,rfl,s12.seq hS,(),(),λp3 gs3 H3 s3 _ hp3 hg3=>?_};rw[gr] at hg3;have s13:=s12.trans s3;apply{a,ns,1,rfl,s13.seq hS,λc1=>?_};apply{c1,2,rfl,by decide,by decide,λsd _ _=>?_};apply{p3,gs3,sd,rfl,hp3,(),λg nm H4 s4 _ hg4 hnl hnm=>?_};have r4:=SmT.of hT (s13.trans s4);have he4:=s4 _ _ (s3 _ _ he2);clear s4 s13 s3 s12 s2 s1 he2 hp1 hp3;apply{_,rfl,(),(),?_};refine Gh (λi σ H5=>(∃v4 v5 v6:Option V,σ=[en (.ref a),en (.int m),en (.ref e),en (.ref g),v4,v5,v6,p9,p9,p9,p9,p9,p9,p9,p9])/\SmT ts H4 H5) {{_,_,_,rfl},SmT.refl r4.ok} ?_ ?_
 .rintro i σ H5 hi ⟨⟨v4,v5,v6,rfl⟩,s5⟩
  have r5:=r4.trans s5;have hi:i<4:=hi;apply{a,ns,i,by rw[uo];rfl,r5.sm.seq hS,λc=>?_};apply{c,_,rfl,(),(),λr hr0 _=>?_};apply{g,nm,r,rfl,s5.k hg4,hnm,(),hr0,λp xs H6 s6 hp6 hxl hx6=>?_};have s6:=s5.then s6;apply{p,_,rfl,.inl (SqL.of hp6),λd hd=>?_};obtain⟨u7,hd7⟩:=Ar (o:=.lst xs) hd;have hp7:=u7 _ _ hp6;have hx7:∀x∈xs,ThV (upd H6 d (.lst xs)) x:=λx hx=>(hx6 x hx).kp (Ag.kp u7);have s7:=s6.then u7;generalize upd H6 d _=H7 at *;k_is;intro w1 dw hw1 hdw1 hwd;refine{w1,dw,e,ds,rfl,Ae,Hs hw1 hdw1 _ _ (s7.k he4),hD,(),λH8 s8 hO8=>{rfl,?_}};have u8:=Hk hw1 hdw1 s8;have s8:=s7.then u8;apply{w1,d,xs,ds,rfl,hO8,u8 _ _ hd7,λx hx=>((hx7 x hx).kp (Ag.kp u8)).nm,(),(r4.trans s8).ok,λp9 r9 H9 hr9 s9 hp9=>?_};have k9:=(SmT.of (r4.trans s7).ok u8).trans s9;have s9':=s8.trans s9;apply{p,xs,m,rfl,k9.k hp7,λx hx=>((hx7 x hx).kp k9.kp).nm,(),λp10 r10 H10 hr10 s10 hp10=>?_};obtain rfl:=hr9.uniq (by rw[show ds.9=m by lia];exact hr10);have k10:=k9.then s10;apply Ack (SqL.of (s10 _ _ hp9)) (SqL.of hp10) hr9.flat ?_;apply Ah1 (.lst (SqL.of (k10.k hd7)) (SqL.of (k10.k hp7)) rfl λj x y h1 h2=>?_) ?_
  .rw[h1] at h2
   cases h2;exact((hx7 x (ip h1)).kp k10.kp).same
  k_is;exact{{_,_,_,rfl},s9'.then s10}
 rintro σ H5 ⟨⟨v4,v5,v6,rfl⟩,s5⟩;have r5:=r4.trans s5;have hg5:=s5.k hg4;k_is;intro w1 dw hw1 hdw1 hwd;refine{w1,dw,e,ds,rfl,Ae,Hs hw1 hdw1 _ _ (s5.k he4),hD,(),λH6 s6 hO6=>{rfl,?_}};have u6:=Hk hw1 hdw1 s6;have r6:=r5.then u6;have hg6:=u6 _ _ hg5;apply{g,_,rfl,.inl (SqL.of hg6),λhd hhd=>?_};obtain⟨u7,hd7⟩:=Ar (o:=.lst (sV nm)) hhd;have hg7:=u7 _ _ hg6;have hO7:=hO6.kp (Ag.kp u7);have r7:=r6.then u7;generalize upd H6 hd _=H7 at *;k_is;intro x dx hx7 hdx hxd;have hs0:Ag H7 (upd (upd H7 dx (.own x)) x (.ins af dx [])):=λb u e=>Hs hx7 hdx b u e;have hall:(sV nm).all nmV=NG:=jm.mpr λv hv=>by obtain⟨z,hz,rfl⟩:=je.mp hv;exact hnm z hz
 have hnmT:∀y∈sV nm,NmT K (upd (upd H7 dx (.own x)) x (.ins af dx [])) y:=λy hy=>by
  obtain⟨z,hz,rfl⟩:=je.mp hy;have:=Uz (hnm z hz);exact(Mc ()).nm
 refine{x,dx,w1,hd,_,ds,rfl,Ae,hO7.kp (Ag.kp hs0),hs0 _ _ hd7,hnmT,by rw[Dm];lia,r7.ok.same hs0,λnm' e' _ _ os H8 b8 hI8=>{rfl,?_},λk hk=>(Re hk hall).elim,λ_ h=>absurd (by rw[Dm];lia) h};obtain rfl:nm=nm':=List.map_inj_right (λ_ _ h=>V.str.inj h) |>.mp e';have k8:SmT ts H7 H8:=SmB.made hx7 hdx b8;have hg8:=k8.k hg7;have r8:=r7.trans k8;clear k8 b8 hnmT hs0 hx7 hdx hd7 hhd u7 hO7 hO6 u6 s6 r7 r6 r5 hg7 hg6 hg5;apply⟨few (by simp),λl1 hl1=>?_⟩;obtain⟨u9,f9⟩:=Ar (o:=.lst [V.str "a"]) hl1;generalize upd H8 l1 _=H9 at *;k_is;intro d1 hd1;obtain⟨u10,f10⟩:=Ar (o:=.dK []) hd1;generalize upd H9 d1 _=H10 at *;apply{few (by simp),λb hb=>?_};obtain⟨u11,f11⟩:=Ar (o:=.lst [V.str "a",V.non,V.str "",V.str "Ab",V.int 7,V.bl NG,V.ref l1,V.str "abcdefghi",V.ref d1]) hb;generalize upd H10 b _=H11 at *;apply{few (by simp),λl2 hl2=>?_};obtain⟨u12,f12⟩:=Ar (o:=.lst [V.int 0]) hl2;generalize upd H11 l2 _=H12 at *;apply{few (by simp),λt2 ht2=>?_};obtain⟨u13,f13⟩:=Ar (o:=.tup [V.int 0]) ht2;generalize upd H12 t2 _=H13 at *;apply{10,30,rfl,rfl,{by decide,by decide,by decide},?_};obtain⟨z30,hz30⟩:∃z:Int,(10:Int) ^ (30:Int).toNat=z:={_,rfl};k_is;rw[hz30];refine{few (by simp),λc hc=>?_};obtain⟨u14,f14⟩:=Ar (o:=.lst [V.int 0,V.int ((m:Int)-1),V.int m,V.int (-1),V.non,V.bl NG,V.str "0",V.ref l2,V.ref t2,V.int z30]) hc;generalize upd H13 c _=H14 at *;have hth:∀v∈[V.str "a",V.non,V.str "",V.str "Ab",V.int 7,V.bl NG,V.ref l1,V.str "abcdefghi",V.ref d1],ThV H14 v\/v=.ref d1:=by
  exact fA_ (.inl (Mc (by decide))) (fA_ (.inl (J0 rfl λ_ e=>by cases e)) (fA_ (.inl (Mc (by decide))) (fA_ (.inl (Mc (by decide))) (fA_ (.inl (J0 rfl λ_ e=>by cases e)) (fA_ (.inl (J0 rfl λ_ e=>by cases e)) (fA_ (.inl (.inr {l1,_,rfl,rfl,.inl (u14 _ _ (u13 _ _ (u12 _ _ (u11 _ _ (u10 _ _ f9)))))})) (fA_ (.inl (Mc (by decide))) (fA_ (.inr rfl) fN_))))))))
 have hkn:∀v∈[V.int 0,V.int ((m:Int)-1),V.int m,V.int (-1),V.non,V.bl NG,V.str "0",V.ref l2,V.ref t2,V.int z30],ThV H14 v:=by
  have hi:∀i:Int,ThV H14 (.int i):=λi=>J0 rfl λ_ e=>by cases e
  exact fA_ (hi _) (fA_ (hi _) (fA_ (hi _) (fA_ (hi _) (fA_ (J0 rfl λ_ e=>by cases e) (fA_ (J0 rfl λ_ e=>by cases e) (fA_ (Mc (by decide)) (fA_ (.inr {l2,_,rfl,rfl,.inl (u14 _ _ (u13 _ _ f12))}) (fA_ (.inr {t2,_,rfl,rfl,.inr (u14 _ _ f13)}) (fA_ (hi _) fN_)))))))))
 have hd14:=u14 _ _ (u13 _ _ (u12 _ _ (u11 _ _ f10)));have hb14:=u14 _ _ (u13 _ _ (u12 _ _ f11));have u:=((((u9.trans u10).trans u11).trans u12).trans u13).trans u14;have hI:=hI8.kp (Ag.kp u);have hg:=u _ _ hg8;have r14:=r8.then u;have hml:[V.str "a",V.non,V.str "",V.str "Ab",V.int 7,V.bl NG,V.ref l1,V.str "abcdefghi",V.ref d1].9=9:=rfl;have hkl:[V.int 0,V.int ((m:Int)-1),V.int m,V.int (-1),V.non,V.bl NG,V.str "0",V.ref l2,V.ref t2,V.int z30].9=10:=rfl;generalize [V.str "a",V.non,V.str "",V.str "Ab",V.int 7,V.bl NG,V.ref l1,V.str "abcdefghi",V.ref d1]=ms at *;generalize [V.int 0,V.int ((m:Int)-1),V.int m,V.int (-1),V.non,V.bl NG,V.str "0",V.ref l2,V.ref t2,V.int z30]=ks at *;clear u u9 u10 u11 u12 u13 u14 f9 f10 f11 f12 f13 hI8 hg8 r8 hl1 hd1 hb hl2 ht2 hc;have hS14:=r14.sm.seq hS;apply{a,_,rfl,hS14,λc1 hc1=>?_};obtain⟨js,hjs,hjl⟩:=Aco ns (en 24) (en 44);rw[hjs];obtain⟨v1,g1⟩:=Ar (o:=.lst (js.map V.int)) hc1;have r15:=SmT.of r14.ok v1;generalize upd H14 c1 _=H15 at *;apply{a,_,rfl,.inl (r15.sm.seq hS14),?_};apply{few (by simp),λc2 hc2=>?_};obtain⟨v2,g2⟩:=Ar (o:=.lst [V.int ((ns.map V.int).9:Nat)]) hc2;have g1:=v2 _ _ g1;have r16:=r15.then v2;generalize upd H15 c2 _=H16 at *;refine{c1,c2,_,_,rfl,rfl,g1,g2,few (by rw[fb,ii];lia),λc3 hc3=>?_};rw[show js.map V.int++[V.int ((ns.map V.int).9:Nat)]=(js++[((ns.map V.int).9:Int)]).map V.int by rw[ge];rfl];have hzl:(js++[((ns.map V.int).9:Int)]).9<=64:=by rw[fq,ii];lia
 generalize js++[((ns.map V.int).9:Int)]=zs at *;obtain⟨v3,g3⟩:=Ar (o:=.lst (zs.map V.int)) hc3;have r17:=r16.then v3;generalize upd H16 c3 _=H17 at *;clear v1 v2 v3 g1 g2 r15 r16 hc1 hc2 hc3;apply{c3,rfl,{_,SqL.of g3},?_};refine Lx (xs:=zs.map V.int) (λk σ H18=>(∃v4 v10 v11 v12 v13 v14:Option V,σ=[en (.ref a),en (.int m),en (.ref e),en (.ref g),v4,v5,v6,en (.ref x),en (.ref b),en (.ref c),v10,v11,v12,v13,v14])/\SmT ts H17 H18) {{_,_,_,_,_,_,rfl},SmT.refl r17.ok} (λk σ H18 _ h=>SqL.of (h.2.k g3)) ?_ ?_
 .rintro k y σ H18 t hy ⟨⟨v4,v10,v11,v12,v13,v14,rfl⟩,s18⟩ ht
  have hkl2:=Bt hy;rw[fb] at hkl2;obtain⟨cl,hcl,rfl⟩:=U6 hy;have s19:=s18.then (Al (o:=.tup [.int k,.int cl]) ht);generalize upd H18 t _=H19 at *;have r19:=r17.trans s19;apply{cl,k,rfl,(),(),λr hr0 _=>?_};k_is;obtain⟨kn,hkm,hka⟩:=Aag (i:=r/8%10) hkl () ();refine Cm (SqL.of (r19.k f14)) hka ?_;k_is;obtain⟨nv,hnm2,hna⟩:=Aag (i:=r/128%9) hml () ();refine Cm (SqL.of (r19.k hb14)) hna ?_;k_is;have anyK:∀{H'},SmT ts H14 H'->Any K H' kn:=λs=>((hkn kn hkm).kp s.kp).any;have nmK:∀{H'},SmT ts H14 H'->NmT K H' nv:=λs=>by
   rcases hth nv hnm2 with h|rfl
   .exact(h.kp s.kp).nm
   .exact{Aay (s.k hd14),λz e=>by cases e}
  refine{x,nm,ds,os,_,kn,nv,rfl,hI.kp r19.kp,r19.ok,anyK r19,nmK r19,λp20 H20 s20 hp20=>?_};have r20:=r19.trans s20;apply{_,m,kn,nv,rfl,anyK r20,nmK r20,λp21 H21 s21 hp21=>?_};have r21:=r20.then s21;k_is;rw[show ds.9=m by lia] at hp20;refine Ack (SqL.of (s21 _ _ hp20)) (SqL.of hp21) (wR _ _ _ _) ?_;apply{_,rfl,(),(),?_};refine Jy (λi=>sV (nm.take i)) rfl (λi hi=>?_) (λi H22 R A hi s22 kR kA=>?_) (λD H22 hD s22 hD22=>?_)
  .rw[Dm,gq]
   exact Ai ()
  .have hi:i<m:=()
   obtain⟨z,hz⟩:∃z,nm[i]?=en z:={_,fc ()};have r22:=r21.then s22;obtain⟨_,_,_,dx2,wd2,sx2,b2,l2',sp2,nk2,as2,es2,hN2⟩:=hI.kp r22.kp;apply{x,dx2,_,rfl,hN2.hx,rfl,?_};apply{x,nm,ds,os,_,rfl,hI.kp r22.kp,Je _,λj y hj hy H23 s23=>?_,λhf=>?_}
   .obtain rfl:j=i:=by have:=V.int.inj hj;lia
    obtain rfl:=fk (hz.symm.trans hy);refine kA _ _ ?_ s23;rw[i6,hz];exact ge
   .rw[uo,Tj ()] at hf
    cases hf
  rw[gr,gp ()] at hD22;have r22:=r21.then s22;apply Ack (SqL.of hD22) (SqL.of (r22.k hg)) (Adh nm) ?_;k_is;exact{{_,_,_,_,_,_,rfl},((s19.trans s20).then s21).then s22}
 .rintro σ H18 ⟨⟨v4,v10,v11,v12,v13,v14,rfl⟩,s18⟩
  k_is;exact q H18
end
set_option maxHeartbeats 8000000 in
theorem all_mk:AllMk:=by
 intro l w K h mg fa X G hfa ad ac ag af aa ae bG bH f0 od0 an0 sl0 oc0 kV0 dc0 pm0 cd0 ct0 f27 aj5 aj6 aj7 aj8 aj9 ak0 ak1 ak2 ai5 f34 ak3 ai6 ak4 ak5 ai7 ai8 ai9 ag9 aj0 T34 aj1 aj2 ak6 f81 ak7 ak8 ak9 al0 al1 al2 al3 al4 aj3 f87 al5 al6 al7 al8 al9 am0 am1 am2 aj4 aB aa3 aa4 ac3 aC aa1 aa2 ac0 ae8 ae9 ae3 ae4 af0 ac4 ad5 ae5 ac5 ad6 af4 av ah aq am ax ay az nm_NoName qn_NoName N_NoName bs_NoName sn_NoName sub_NoName ab_NoName col_NoName dd_NoName k0_NoName k1_NoName k2_NoName k3_NoName k5_NoName af1 ad1 ad8 ab9 aa0 aa5 ac8 ab1 ae6 ab7 ad9 ac9 ad2 ac6 i0 a0 l0 c0 k0 g1 g2 g3 g4 g5 g6 g7 g8 g9 g10 g11 g12 g13 g14 g15 g16 g17 g18 g19 g20 g21 g22 g23 g24 g25 g26 i27 a27 l27 c27 k27 ah0 ah1 g28 g29 g30 g31 g32 g33 i34 a34 l34 c34 k34 ag7 ag8 ah2 g35 g36 g37 g38 g39 g40 g41 g42 g43 g44 g45 g46 g47 g48 g49 g50 g51 g52 g53 g54 g55 g56 g57 g58 g59 g60 g61 g62 g63 g64 g65 g66 g67 g68 g69 g70 g71 g72 g73 g74 g75 g76 g77 g78 g79 g80 i81 a81 l81 c81 k81 ah3 ah4 g82 g83 g84 g85 g86 i87 a87 l87 c87 k87 ah5 ah6 g88 g89 g90 g91 g92 g93 g94 g95 g96 g97 g98 g99 ah7 ah8 ah9 ai0 ai1 ai2 ai3 ai4 dE ab2 ab3 ab4 ab5 ab6 dN aa6 aa7 aa8 aa9 ab0 da dL dj dG dJ dM dn dR dP dQ dS af2 af8 af9 af5 ag0 ac1 af6 af3 af7 ac7 ag1 ag2 ag3 ag4 ag5 ae7 ag6 ad3 ac2 ab8 ae0 ad7 ad0 ae1 ad4 ae2 ex_WoodError bg_WoodError br_WoodError bi_WoodError sa_NoName pl_NoName xk_NoName dv dZ ex_NoFit xk_NoFit dA ex_NoKnot xk_NoKnot dF dg di dh ob_NoName;obtain⟨f107,d107,am7,ay7⟩:=ai4;obtain⟨_,_,am8,am9,an1,an2,an3,an4,_,rfl,_,_⟩:=am7.ex;have e:=hfa.symm.trans (i9 X G ay7);cases e;have d9:∀H,SqT K H aB (fB.map λn:Nat=>V.int n):=λH=>.inr ⟨aa3,aa4,ac3,ab2,ab3,ab4,ab5,ab6⟩;have ee:∀H,SqT K H aC (rT):=λH=>.inr ⟨aa1,aa2,ac0,aa6,aa7,aa8,aa9,ab0⟩;have O_NoName:Nw K av ah f0:={ex_WoodError,{_,_,_,_,_,_,_,_,_,_,_,_,_,_,ob_NoName},a0,beq_iff_eq.mp i0,sa_NoName,pl_NoName};have T0:∀base:i8,Txt l.prog w base tz K mg aB aC av ah aq am ax ay az:=λ_=>{i9 X G ab8,i9 X G ae0,i9 X G ad7,i9 X G ad0,i9 X G ae1,i9 X G ad4,i9 X G ae2,{i9 X G ab8,bg_WoodError,br_WoodError,bi_WoodError},xk_NoName,dv,dZ,{i9 X G ad7,ex_NoFit},xk_NoFit,dA,{i9 X G ad0,ex_NoKnot},xk_NoKnot,dF,dg,di,dh,i9 X G dE,d9,i9 X G dN,ee,{_,i9 X G da},{_,i9 X G dL},{_,i9 X G dj},{_,i9 X G dG},{_,i9 X G dJ},{_,i9 X G dM},{_,i9 X G dn},{_,i9 X G dR},{_,i9 X G dP},{_,i9 X G dQ},{_,i9 X G dS},kx X G af2,kx X G af8,kx X G af9,kx X G af5,kx X G ag0,kx X G ac1,kx X G af6,kx X G af3,kx X G af7,kx X G ac7,kx X G ag1,kx X G ag2,kx X G ag3,kx X G ag4,kx X G ag5,kx X G ae7,kx X G ag6,kx X G ad3,kx X G ac2,{_,O_NoName}};have Qf:Qf K ad:={ad1.cl,ad1.no 0,ad1.no 1,ad1.no 2};have Qd:Qd K ac:={ab9.cl,ab9.no 0,ab9.no 1,ab9.no 2};have Qe:Qe K ag:={aa5.cl,aa5.no 0,aa5.no 1};have Qc:Qc K af:={ab1.cl,ab1.no 0,ab1.no 1,ab1.no 2,ab1.no 3,ab1.no 4,ab1.no 5};have Qa:Qa K aa:={ab7.cl,ab7.no 0,ab7.no 1,ab7.no 2,ab7.no 3,ab7.no 4};have Qb:Qb K ae:={ac9.cl,ac9.no 0};have F0:=iJ (st:=Dq) l0 c0 k0;have b0:=F0.binds (ps:=["self","place"]) λ_ _ _ _ _ _=>us2 λ_ _=>rfl;have F27:=fX (st:=Bn) l27 c27 k27 ah0 ah1;have b27:=F27.binds (ps:=["self","bit","nth"]) λ_ _ _ _ _ _=>us3 λ_ _ _=>rfl;have F34:=Aeq (st:=Ca) l34 c34 ag7 ag8;have b34:=F34.binds (ps:=["self","order","step"]) λ_ _ _ _ _ _ _ us hl=>match us,hl with | [_,_,_],_=>⟨_,rfl,λ_=>rfl⟩
 have F81:=fX (st:=Di) l81 c81 k81 ah3 ah4;have b81:=F81.binds (ps:=["self","wood","names"]) λ_ _ _ _ _ _=>us3 λ_ _ _=>rfl;have F87:=fX (st:=Bv) l87 c87 k87 ah5 ah6;have b87:=F87.binds (ps:=["self","k","name"]) λ_ _ _ _ _ _=>us3 λ_ _ _=>rfl;refine{jq "law" "law" (Bz Xy) (Bg Xy) (Ac Xy) .none am8 am9 an1 an2 an3 an4,λs v=>.of_eq rfl,λbase hK _ hB=>?_};have T:=T0 base;have V0:Agm l.prog w K mg base "NoName" av ah 1 ["self","place"]:={{f0,_,W3 T F0,b0,O_NoName},T.eC,T.d0};have V1:=GD.cal X G g1 λF=>lM T F;have V2:=GD.cal X G g2 λF=>iM T V1 F;have V3:=GD.cal X G g3 λF=>iR T V2 F;have V4:=GD.cal X G g4 λF=>Vp T V2 F;have V5:=GD.cal X G g5 λF=>Rn T V4 F;have V6:=GD.calE X G g6 λF=>Ye T V2 F;have V7:=GD.cal X G g7 λF=>qD T F;have V8:=GD.cal X G g8 λF=>U4 T F;have V9:=GD.cal X G g9 λF=>oE T F V8;have V10:=GD.cal X G g10 λF=>vH T F;have V11:=GD.cal X G g11 λF=>qN T F;have V12:=GD.cal X G g12 λF=>nU T F V11;have V13:=GD.cal X G g13 λF=>kT T F;have V14:=MD.mkr X G af1 g14 λF=>W8 T Qf F V10 V12;have V15:=MD.mth Qf.cl g15 λF=>W9 T Qf F;have V16:=MD.mth Qf.cl g16 λF=>W5 T Qf F;have V17:=MD.mth Qf.cl g17 λF=>Wu T Qf V5 F V13;have V18:=MD.mth Qf.cl g18 λF=>Yb T V4 Qf F;have V19:=GD.cal X G g19 λF=>X9 T F;have V20:=GD.cal X G g20 λF=>Sw T F;have V21:=GD.cal X G g21 λF=>O7 T V7 F V20;have V22:=MD.mkr X G ad8 g22 λF=>W2 T Qd F V15 V16 V21;have V23:=MD.mth Qd.cl g23 λF=>Qs T V7 Qd F;have V24:=MD.mth Qd.cl g24 λF=>Wv T V4 Qd V3 F V23;have V25:=MD.mth Qd.cl g25 λF=>Qi T Qd F;have V26:=MD.mth Qd.cl g26 λF=>Qw T Qd V25 F;have V27:Mth l.prog w K mg base ac "block_with" 4 ["self","bit","nth"] (L4 K ac tz):={{f27,_,Qr T Qd V25 hK (hB (429,425) (by simp)) V19 F27 gt,b27,⟨a27,i27,k27⟩},Qd.cl};have V28:=MD.mth Qd.cl g28 λF=>Qt T V7 Qd F V9;have V29:=MD.mth Qd.cl g29 λF=>Wa T V4 Qd V3 V25 F V26 V27 V28;have V30:=GD.cal X G g30 λF=>iH T V22 V14 F;have V31:=GD.cal X G g31 λF=>Vu T V2 F;have V32:=GD.cal X G g32 λF=>jB T F;have V33:=GD.cal X G g33 λF=>Ta T F V32;have V34:zB l.prog w K mg base "Shortcuts" ag 4 ["self","order","step"] (Mq ag):={{f34,_,Qg T Qe F34 V31 V33,b34,⟨aa0.ma,a34,i34,aa0.kc⟩,i9 X G aa0.a}};have az0:=nZ.bindsD (x:="__init__") (qual:="Shortcuts.__init__") (st:=Ca) (ps:=["self","order","step"]) (kV:=ai7) (doc:=ai8) (pm:=ai9) (cdv:=ag9) (ct:=aj0) (an:=ai6) ag7 ag8 rfl (us2 λ_ _=>{_,rfl,rfl});have az1:xK l.prog w K mg base "Shortcuts" ag 4 ["self","order","step"] (Mq ag) [.int 16]:={{f34,_,_,Qg T Qe F34 V31 V33,az0,.cons ah2 .nil,⟨aa0.ma,a34,i34,aa0.kc⟩,i9 X G aa0.a}};have V35:=MD.mth Qe.cl g35 λF=>Wf T Qe F;have V36:=MD.mth Qe.cl g36 λF=>Qq T Qe F;have V37:=MD.mth Qe.cl g37 λF=>Wl T Qe F V36;have V38:=GD.cal X G g38 λF=>Yj T F;have V39:=GD.cal X G g39 λF=>fY T F;have V40:=BD.calC X G ad2 g40 λF=>Ww T Qa F;have V41:=MD.mth Qa.cl g41 λF=>Qv T Qa V24 F;have V42:=MD.mth Qa.cl g42 λF=>Wg T Qa V41 F;have V43:=MD.mth Qa.cl g43 λF=>Ws T Qa F V17;have V44:=MD.mth (sp:=(gR K ad ac aa)) Qa.cl g44 λF=>Wx T Qa F;have V45:=MD.mth (sp:=(jA K ad ac aa)) Qa.cl g45 λF=>Wy T Qa V43 F;have V46:=MD.mkr X G ae6 g46 λF=>W7 T V22 V14 Qa V39 V42 V38 F V40;have V47:=MD.mth Qa.cl g47 λF=>Q9 T Qa F;have V48:=MD.mth (sp:=(Ra K ad ac aa)) Qa.cl g48 λF=>Wk T Qa F;have V49:=MD.mth Qa.cl g49 λF=>Wm T Qa V47 V48 F;have V50:=MD.mth (sp:=(Po K ad ac aa)) Qa.cl g50 λF=>Qx T Qa V47 F;have V51:=MD.mth Qa.cl g51 λF=>Qh T Qa V43 V42 V38 F;have V52:=MD.mth Qa.cl g52 λF=>Ql T Qa V51 F;have V53:=MD.mth Qa.cl g53 λF=>Qk T Qa V51 F;have V54:=GD.cal X G g54 λF=>Sx T V1 F;have V55:=MD.mth Qa.cl g55 λF=>Wc T V4 Qa V54 V49 V50 F V52;have V56:=MD.mth Qa.cl g56 λF=>Wb T V4 Qa V54 V49 V50 F V53;have V57:=MD.mth (sp:=(Vc K ad ac aa)) Qa.cl g57 λF=>Q8 T Qa F V18;have V58:=MD.mth Qa.cl g58 λF=>Wd T Qa V42 V57 V55 V56 F;have V59:=MD.mth Qa.cl g59 λF=>Qn T Qa V47 V48 F;have V60:=MD.mth Qa.cl g60 λF=>Qj T Qa V47 V51 F V59;have V61:=MD.mth Qa.cl g61 λF=>Wh T V5 Qa V42 V49 V55 F V60;have V62:=MD.mth (sp:=(Nj K ad ac aa tz)) Qa.cl g62 λF=>Wr T Qa F V29;have V63:=GD.cal X G g63 λF=>qB T V1 F;have V64:=GD.cal X G g64 λF=>iI T F;have V65:=GD.cal X G g65 λF=>vB T F V64 V63;have V66:=GD.cal X G g66 λF=>iV T V39 F;have V67:=BD.calC X G ac6 g67 λF=>Wq T Qb F;have V68:=MD.mkr X G ad9 g68 λF=>W4 T Qb F V65 V46 V67;have V69:=MD.mth Qb.cl g69 λF=>Qm T Qb F V44;have V70:=MD.mth Qb.cl g70 λF=>W0 T Qb F V45;have V71:=MD.mth Qb.cl g71 λF=>We T Qb F V66 V70;have V72:=MD.mth Qb.cl g72 λF=>Q7 T Qb V6 V69 F V62;have V73:=MD.mth Qb.cl g73 λF=>Q4 T Qb V58 V72 F;have V74:=MD.mth Qb.cl g74 λF=>Q5 T V41 V57 Qb V58 F;have V75:=MD.mth Qb.cl g75 λF=>Q0 T Qb V72 F V73;have V76:=MD.mth Qb.cl g76 λF=>Q6 T V56 Qb V72 F V61 V74;have V77:=GD.cal X G g77 λF=>oK T F;have V78:=GD.calE X G g78 λF=>Ua T V0 V77 F;have V79:=GD.cal X G g79 λF=>S6 T F;have V80:=GD.cal X G g80 λF=>N4 T F;have V81:zB l.prog w K mg base "Named" af 10 ["self","wood","names"] (Vt K ad ac aa ae ag af ah aq tz):={{f81,_,W6 T hK (hB (562,560) (by simp)) V69 Qc Qb F81 (gw _ gt) V78 az1 V30 V79 V80 V71,b81,⟨ac8.ma,a81,i81,ac8.kc⟩,i9 X G ac8.a}};have V82:=MD.mth (sp:=(T4 K ad ac aa ae ag af)) Qc.cl g82 λF=>Wj T Qc V35 F;have V83:=GD.calE X G g83 λF=>Yl T V0 V77 F;have V84:=MD.mthE (sp:=(gZ K ad ac aa ae ag af am ah)) Qc.cl g84 λF=>Qy T V6 V69 Qc V83 F;have V85:=MD.mthE Qc.cl g85 λF=>Wn T V24 V6 V69 Qc F V37;have V86:=MD.mth (sp:=(gI K ad ac aa ae ag af)) Qc.cl g86 λF=>Wp T Qc F;have V87:Mth l.prog w K mg base af "first_from" 4 ["self","k","name"] (Xz K ad ac aa ae ag af tz):={{f87,_,Qz T hK (hB (651,647) (by simp)) V19 Qc V35 V86 F87 (gw _ (gw _ gt)),b87,⟨a87,i87,k87⟩},Qc.cl};have V88:=MD.mthE Qc.cl g88 λF=>Qp T Qc V84 V87 F V75;have V89:=MD.mthE Qc.cl g89 λF=>Wz T Qc V83 V86 V82 F;have V90:=MD.mthE Qc.cl g90 λF=>Qo T Qc V88 F;have V91:=MD.mthE Qc.cl g91 λF=>Qu T Qc V82 V88 F;have V92:=MD.mthE Qc.cl g92 λF=>Wo T Qc V35 V86 V84 V87 F;have V93:=MD.mthE Qc.cl g93 λF=>Wi T Qc V35 V86 V84 V87 F V76;have V94:=GD.cal X G g94 λF=>U7 T F;have V95:=GD.cal X G g95 λF=>fM T F;have V96:=GD.cal X G g96 λF=>Yi T V94 V95 F;have V97:=GD.cal X G g97 λF=>mC T F;have V98:=GD.cal X G g98 λF=>jC T F;have V99:=GD.cal X G g99 λF=>fN T F;have an5:=GD.cal X G ah7 λF=>jH T F;have az8:=GD.cal X G ah8 λF=>mO T V81 an5 F;have az9:=GD.cal X G ah9 λF=>oM T V95 F;have an6:=GD.cal X G ai0 λF=>Up T F;have ba0:=GD.cal X G ai1 λF=>qZ T an6 F;have ba1:=GD.cal X G ai2 λF=>fR T an5 V85 F V89 V90 V91 V92 V93;have ba2:=GD.cal X G ai3 λF=>Px T an6 F V99;exact Ahd T Qc Qb V94 V95 V81 V85 am7 V97 V96 V98 az9 az8 V68 ba0 ba1 ba2
end _K
end
theorem PySem.Challenge.cw_tightwood_k66_names_refused_holds : PySem.Challenge.rw_tightwood_k66_names_refused.Holds :=
 _K.HEAD @_K.all_mk
