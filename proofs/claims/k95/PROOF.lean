import PyProof.Rows.All
import Wide.All
import OpenK.AllK
import Wide.FinOn
import Lean
import PyProof.EqAt
import PyProof.EqKinds
import PyProof.TupleCall
import KE.KDictOf
import KE.KItemsList
import KE.KLam
import KE.KNest
import KE.KNestM
import KE.KRevIter
import KE.KSortKey
import KE.KSortTup
import KE.KTryMore
import KE.LcSums
import OpenK.KCls
import PyProof.AttrMissHeap
import PyProof.AutoSeq1
import PyProof.Draws
import PyProof.EnumMake
import PyProof.EnumStmt
import PyProof.FactsAll.list
import PyProof.InstStoreFacts
import PyProof.IsiH_list
import PyProof.ListNew
import PyProof.ListRange
import PyProof.ObjNew
import PyProof.Rows.SortRunsK
import PyProof.Rows.SortShell
import PyProof.Rows.SortStr
import PyProof.Rows.StrItems
import PyProof.Rows.StrSplitAre
import PyProof.SliceList
import PyProof.StrBlockL
import PyProof.StrCalls2
import PyProof.StrLawsChain
import PyProof.StrLawsIn
import PyProof.WalksEnum
import PyProof.ZipIter
import PySem.Challenge.RW_tightwood_k95_one_shape
set_option compiler.extract_closed false
set_option Elab.async false
set_option linter.all false
set_option maxRecDepth 100000
set_option maxHeartbeats 4000000
open Option renaming some->mn,none->tp
open Bool renaming true->MK,false->ML
open List renaming length_map->d4,getElem?_eq_getElem->d6,length_append->d7,replicate->d9,range->en,map_append->fb,getElem?_append_right->fg,append_assoc->fh,getElem?_map->fj,length_take->fk,length_range->fm,getElem?_eq_some_iff->fq,take_of_length_le->fv,getElem?_append_left->f7,length_cons->f8,size_toArray->gh,mem_of_getElem?->gi,mem_singleton->gl,mem_cons_of_mem->gn,append_nil->gp,getElem?_range->gr,map_cons->gt,length_replicate->gx,getElem?_take_of_lt->ic,take_add_one->ie,mem_cons_self->ii,flatten_append->ij,flatten_cons->im,take_append_drop->iq,getElem?_eq_none->ir,mem_range->iy,range_succ->iz,length_drop->i9,replicate_succ->ja,map_congr_left->jb,mem_append_right->jc,getElem?_drop->jd,mem_append->jf,length_nil->jg,take_append_of_le_length->jh,drop_of_length_le->jj,map_map->jm,mem_cons->jn,filter_cons_of_neg->jo,mem_map->jq,filter_append->ju,nil_append->jv,getD->jw,getElem?_take->jy,forall_mem_cons->kj,getD_eq_getElem?_getD->kr,filter_cons_of_pos->kx,length->k6,cons_append->k8,drop_eq_getElem_cons->lh,filter_eq_nil_iff->lj,getElem?_of_mem->l9,drop_drop->md,drop_append_of_le_length->mo,reverse_reverse->my,mem_of_mem_take->mz,flatten_singleton->m7,toList_toArray->m8,filterMap_cons->m9,sum_append->nh,length_singleton->nj,take_length->ny,not_mem_nil->nz,mem_reverse->n4,sum_cons->n8,map_take->n9,mem_append_left->oh,eq_nil_of_length_eq_zero->oi,getElem?_replicate->oj,take_succ_cons->oq,reverse_append->ot,length_reverse->ou,range_succ_eq_map->oy,take_zero->pf,map_replicate->ph,extract_eq_take_drop->pz,pairwise_append->p8,mem_of_mem_drop->p9,ext_getElem?->qa,drop_zero->qe,lookup->qk,foldl_cons->qp,filter_congr->qt,count_append->qu,take_take->rb,drop_length->re,all_eq_true->rf,length_set->se,count_cons->sf,pairwise_cons->sj,range'->sw,pairwise_singleton->sy,length_eq_zero_iff->td,range_add->ua,length_filter_le->uj,lookup_cons->uk,filter_cons->ul,eq_nil_iff_forall_not_mem->um,take_add->uy,of_mem_zip->vc,nodup_cons->vd,mem_map_of_mem->vg,length_pos_iff->vh,map_nil->vo,pairwise_iff_getElem->wg,map_drop->wo,mem_flatten->ww,getElem?_cons_succ->wx,head?_eq_getElem?->w6,mem_filter->xh,forIn_cons->xi,find?_cons->xj,mem_iff_getElem?->xl,getElem?_toArray->xm,length_flatten->x6,sum_singleton->yi,mem_filterMap->yj,reverse_cons->yy,map_set->yz,getElem?_set->y4,flatten_replicate_singleton->y6,length_tail->zr,ext_getElem->zt,countP_cons->zu,length_zip->AD,map->BH,getElem?_zip_eq_some->BV,count_replicate_self->BW,drop_one->CK,any_cons->CM,take->CW,length_eq_one_iff->DA,getElem?_set_self->DB,flatten->DC,replicate_succ'->DV,range'_append_1->DW,length_dropLast->DX,getElem?_set_ne->DY,filter->DZ,dropLast_concat->EA,getD_cons_succ->EO,filter_eq_self->EQ,map_singleton->EY,foldl->EZ,foldl_append->FO,take_append->FY,range'_succ->FZ,getElem_map->GA,foldlM_cons->GB,filter_nil->GL,sum->GS,forIn_nil->GT,foldl_nil->GU,take_nil->HF,all_cons->HG,map_id->IT,drop->KO
open PySem.W renaming Frag->d5,nsIn->je,fnOf->j2,mg_of->k0,keepIn->lp,findIn->lu,codeIn->ml,mg_none_of->mw,boot_heap->pj,isFn->sk,SharedT->uu,kia_one->vj,plainGet->wl,tabObj->xc,plainGet_of->xo,methodObj->yb,hasDictIn->yc,codeHd_of_K->yp,takerIn->ze,OpenLaw->zf,km_tabs_of->z0,boot_drawn->z4,TabsAt->z7,km_in_of->AH,kla_obj->AI,boot_toks->BN,cellsFrom_some->BP,methodCall_KW->CG,kla_codeExpr->CU,kla_callFunE->CV,CodeHd->DO,plainOver->DQ,kitx_list->DR,kitx_dict->DS,handedIn->EI,makesIn->EV,kla_fn->FJ,WalkO->FS,Frag->HH,OpenLaw->ME
open Nat renaming le_refl->d8,lt_of_lt_of_le->gq,zero_le->gy,le_of_lt->gz,ne_of_lt->ip,min_eq_left->iu,le_trans->iw,add_sub_cancel_left->i0,add_assoc->jt,sub_self->jx,le_add_right->jz,zero_add->k5,exists_eq_add_of_le->l6,lt_of_le_of_ne->me,eq_zero_or_pos->n5,add_zero->og,le_of_eq->oz,lt_irrefl->o7,sub_zero->qm,add_sub_cancel->qo,min_self->rh,min_eq_right->rj,add_comm->rk,not_lt->su,lt_of_le_of_lt->sv,lt_or_ge->ud,div_div_eq_div_mul->ue,min_le_right->uv,lt_succ_self->uw,and_two_pow_sub_one_eq_mod->ux,add_sub_cancel'->vn,ne_of_gt->vp,sub_add_cancel->vz,mod_mul_right_div_self->wb,mod_lt->wc,add_mul->wn,sub_le->xf,pow_succ->xg,lt_sub_iff_add_lt->xp,eq_of_testBit_eq->xt,add_le_add_left->yd,mod_mod_of_dvd->yr,lt_or_eq_of_le->yt,mul_comm->zg,lt_succ_of_lt->zh,add_sub_assoc->zi,div_eq_of_lt->z9,le_succ->AB,not_lt_zero->AS,min_le_left->AT,testBit_two_pow_sub_one->BG,zero_div->DL,succ_pos->DM,succ_mul->DN,le_of_ble_eq_true->DU,pow_le_pow_right->EJ,one_pos->EK,one_mul->EL,mul_le_mul_right->EM,div_le_div_right->EN,div_mul_le_self->EX,sub_lt->FN,le_of_lt_succ->FV,ble->FW,add_div_right->FX,succ->HC,mul_assoc->HV,zero_mul->IN,xor_zero->IP,mul_zero->IQ,min_zero->IR,div_zero->IS,div_one->KA,not_le->KM,le_min->KN
open PySem renaming Addr->ee,Value->ft,wpAny_pure->fu,Shared->fz,Program->gu,World->i7,Expr->jk,Around->jp,Stmt->jr,Heap->ki,FuncData->ky,mem_of_lookup->ly,codeAny_builtin->l5,wpAny_tryCatch->mh,plainId_quiet->mj,wpAny_seqItems->om,wpAny_truthy_bool->ow,wpAny_newObj_type->ox,Arguments->pq,wpAny_mono->p6,lookup_relabel_local->qd,wpAny_rule->qf,call_meets->qg,Scope->qh,Builtin->qw,Spec->qy,wpAny_letGo->rn,wpAny_field->rp,Builtin->rq,NameKind->sd,wpAny_updateSeq->tu,wpAny_callSpecial?_slot->uh,wpAny_typeOf->uo,builtinLookup_eq_fast->vb,wpAny_call_entry->vf,IsPair->wd,codeAny_mono->wk,wpAny_pyIter_enum->w4,wpAny_standAt->w9,typeIs_str->xr,wpAny_execs_nil->xw,typeLookup_type->xx,CmpOp->x9,wpAny_newFunctionEnv->ym,wpAny_loadName_local->yn,wpAny_ite_true->yo,Result->yq,Model->yu,IsRangeIter->yw,IsPart->yx,wpAny_dictSet_pairs->zc,wpAny_newList->zn,wpAny_attempt->zo,evalPart_none->zp,Value->zq,wpAny_pyIter_range->zx,wpAny_call->zy,wpAny_Name->zz,seqIndex_neg->AG,ZipApart->AJ,Keyword->AU,wpAny_pyIter_zip->BL,stored_length_le->BM,Params->BS,Paired->BU,seqIndex_of->BY,intItems_at->BZ,Fin->CJ,Within->CT,BindsTo->DF,wpAny_newTuple->DH,Operator->DK,wpAny_getItem_list_slice->ED,wpAny_comprehension_free->EE,call->EH,wpAny_getItem_str_slice->ET,wpAny_pyNext_range_end->FB,wpAny_pyNext_list_item->FC,wpAny_pyIter_rangeiter->FE,wpAny_nextOf_list_item->FF,wpAny_getItem_list_neg->FG,call_range_3->FK,Str->FM,wpAny_pyNext_list_end->FQ,wpAny_notOrdered_dict->FR,wpAny_raiseAttrError->GE,wpAny_Slice->GF,sizeLine_eq->GH,old_kept->GI,numAt_eq->GJ,wpAny_loadName_free->GN,wpAny_loadName_cell->GO,Program->GR,typeIs_int->GV,sub_AttributeError->GW,rawInt->GZ,PlainAttrs->HA,wpAny_sequenceKey->HK,wpAny_pyIter_list->HL,wpAny_loadPart_at->HM,Walks->HP,World->HU,kt_code_dict_new->IC,sliceRange_one->KH,pick_run->KJ,callType_codes->KL,GenState->KQ,DefRec->KR,rangeSize_one->KZ,nums_intItems->LA,intBits_le_64->LB,call_list_seq->LC,iter_intList->LY,call_range_1->MA
open PySem.Str renaming ofString->eh,ofString->ll,length->uq,empty->z6,ext'->MB
open Option.some renaming inj->fc
open PySem.Heap renaming get?_push_of_some->fe,lt_size->gd,get?_push_size->ik,get?_update_other->j0,get?_update_self->qr,size_push->vy,size_update->wy,SameBut->w8,get?_push_ne->y9,get?_none_of_le->EB
open Array renaming length_toList->f9,getElem?_toList->ge,toList_append->jl,getElem?_eq_getElem->mi,getElem?_eq_some_iff->pe,getElem?_eq_none->ql,toList_extract->ra,toList_reverse->u5,forIn_toList->vw,append_empty->vx,toList_inj->zm,toList_setIfInBounds->AX,mk->DP,append_assoc->ES,toList_push->FA,toList_map->FP,toList->HJ
open PyProof.Rows renaming wpS_bind->gg,wpS_pure->gv,Keyed->gw,callWith_type1->i8,SortSt->ke,slot_tuple_getitem->lz,IntsAre->ni,wpS_mono->o8,SortKind->ur,wpS_get->wj,wpS_modify->wq,AllBare->xu,get?_update_seq->xy,wpS_reverse->yk,wpS_lift->yl,size_push'->DI,Constant_none->ER,subscriptTail_builtinR->FH,listItems_at->FI,tail_any->GG,args_tuple_getitem->GX,count_cnt->JW,cnt_cons->JX,cnt->JY,callWith_builtin1->JZ,slicePart_none->KI,tupleItemsOf_->KY,plain_sorted->LX,entry_sorted->LZ
open PySem.F renaming plainAttrs_list->gj,type_list_append->i5,slot_list_append->i6,plainAttrs_str->kh,type_str_join->o3,slot_str_join->o6,type_str_count->sq,slot_str_count->sr,type_list_pop->tx,slot_zip_next->t8,slot_list_pop->t9,slot_list_getattribute->uc,slot_zip_getattribute->ui,kt_typeCall_dict_1->z8,type_list_extend->AL,slot_str_getitem->AN,slot_list_extend->AO,slot_dict_update->AQ,args_dict_init_2->AR,type_list_index->AY,type_list_count->AZ,slot_list_index->BA,slot_list_count->BB,entry_dict_init->BE,args_zip_next_1->BF,kt_called_dict->BQ,entry_zip_next->BR
open Int renaming toNat_natCast->ig,eq_ofNat_of_zero_le->l7,natCast_nonneg->mf,natCast_ediv->rl,emod_nonneg->vi,fdiv_eq_ediv_of_nonneg->we,emod_lt_of_pos->wf,natCast_add->xn,toNat_of_nonneg->ye,zero_add->zk,le_trans->zl,natCast_mul->AV,lt_irrefl->HX,add_assoc->HY,le_of_lt->IV,ediv_one->IW,le_refl->KC,not_lt->KP,toNat->LW
open PySem.PassesOwn renaming never->il
open Bool renaming false_ne_true->io,and_eq_true->km,false_eq_true->ku,eq_iff_iff->ol,or_eq_true->sh,toNat_false->zw,toNat_true->AF,false_and->BK,toNat_le->CN,false_or->HI,true_or->IA
open PySem.Challenge renaming pw_tightwood_k95_one_shape->ji,rw_tightwood_k95_one_shape->p7
open PySem.Around renaming under_plainId->j1,under->CQ,frames_deeper->DG
open PySem.Value renaming ref->ka,type->nq,int->nu,str->xq,none->ya,bool->AK,float->DJ,isStrOf->GP,builtin->GQ,isInt->HR,bytes->HS
open PySem.Builtin.Range renaming rangeSize->kl,small->pi,rangeFitsLong->ug
open PySem.Obj renaming mapSeq->lw
open False renaming elim->l8
open Option renaming isSome_iff_exists->mq,getD_some->qc,map_some->rz,map_eq_some_iff->tj,map_map->AA,getD_none->EW,none->HB
open PySem.Builtin.Str renaming strSliceIndices->mv,strKind->qi,occurrences->vt,strKind->BJ,tooLong->KW
open PySem.Builtin.SmallTypes renaming ownedTupleIsFree->nv,nextOf->ub
open PySem.Builtin renaming bitAnd->n6,bitNot->o0,bitXor->xk,bitOr->GC
open PySem.Calls renaming spliced_cons->o9,spliced_nil->tm,Name_function_global->AW,callWith_builtin->CZ
open PySem.Builtin.Builtins renaming bindParams->qb
open PySem.NameKind renaming free->qj,cell->AC
open PySem.Builtin.Slice renaming slicePlaces->qq,sliceAdjust->uz,sliceApplied->yh,slicePartIndex->IZ,sliceFields->JA
open PySem.Builtin.Tuple renaming tupleExact->qv,tupleItemsOf->yg
open PySem.Builtin.List renaming listTooLong->qx,listFitsIndex->KF,listExtendWith->KG
open Ne renaming symm->qz
open PySem.Builtin.Dict renaming updateFrom->rc,pairItems->rm,addKeywords->ve,selfAndRest->zb
open ForInStep renaming yield->rg,done->sg
open True renaming intro->si
open PyProof renaming noPylong_small->ss
open PySem.Heap.SameBut renaming update->uf,refl->KD
open List.Pairwise renaming nil->va,imp_of_mem->yv,map->IU
open PyProof.Rows.SortSt renaming mk'->vm
open List.cons renaming inj->vq
open Sum renaming inl->wm,inr->zd
open Or renaming inr->wu,inl->FU
open Nat.succ renaming inj->xz
open Function renaming comp_def->x8
open PySem.Heap.DictOf renaming new->yf
open PySem.IsRange renaming new->y8
open List.Perm renaming refl->zj
open PySem.Txt renaming split->z5,join->BO
open PySem.Heap.IsSliceOf renaming new->AE
open Classical renaming choose_spec->BI
open Decidable renaming of_not_not->BX,em->MG
open PySem.SeqAt.EqAt renaming str_int->CA,int_str->CF,str_str->LH,str_none->LI,str_bool->LJ,same->LK,none_str->LL,none_int->LM,none_bool->LN,int_none->LO,int_int->LP,int_bool->LQ,bool_str->LR,bool_none->LS,bool_int->LU,bool_bool->LV
open PySem.W.Hook renaming val->CH,obs->CI,says->JF,of->JG,keeps->JH
open PySem.Expr renaming Call->CY
open PySem.Code renaming isFrame->DD,frames->IX
open PySem.BindsTo renaming of_defaults->DE
open Prod renaming ext->DT
open PySem.Data renaming fields->EC,dict->KS,cell->KT
open PySem.WalksT renaming enumerateD->EF,enumerate->EU,zip2->GY
open PySem.SeqAt renaming EqAt->EG
open StateT renaming run_pure->FL
open Prod.mk renaming injEq->FT
open PySem.Paired renaming length->GK
open And renaming intro->GM
open Nat.le renaming dest->HE
open PySem.Walks renaming range->HN,list->ID
open PySem.W.WShape renaming has->HQ
open PySem.Meets renaming of_wp->HW
open PySem.CmpOp renaming NotIn->HZ,In->KU
open PySem.W.Looks renaming here->IE
open PySem.EqMixed renaming ne_str_int->IF,ne_str_bool->IG,ne_int_str->IH,ne_bool_str->II,eq_str_int->IJ,eq_str_bool->IK,eq_int_str->IL,eq_bool_str->IM
open PySem.W.WData renaming int->JB
open PySem.SeqAt.RcNeAt renaming lists_lengths->JC,lists->JD
open PySem.Within renaming cons->JE
open PySem.EqNone renaming ne_str_none->JI,ne_none_str->JJ,ne_none_none->JK,ne_none_int->JL,ne_none_bool->JM,ne_int_none->JN,ne_bool_none->JO,eq_str_none->JP,eq_none_str->JQ,eq_none_none->JR,eq_none_int->JS,eq_none_bool->JT,eq_int_none->JU,eq_bool_none->JV
open PyProof.Rows.IsTup renaming new->KB
open PySem.SeqAt.RcAt renaming lists_lengths->LF,lists->LG
open PySem.IsL renaming update->MC
open PySem.DictEntry renaming refKey->MF
open PySem.AutoListH renaming list___mul___list_int_3->MJ
open PySem.W (instObj lookIn emptyDict kitOne kia_one callWith_K CodeHd kla_obj kla_fn km_in_of codeHd_of_K km_tabs_of mg_none_of)
abbrev Za0:=zq->PySem.Shared->Prop
abbrev Za1:=List (PySem.Addr×PySem.Obj)
abbrev Za2:=FM->Option zq
abbrev Za3:=List zq
abbrev Za4:=List Nat
abbrev Za5:=List Bool
abbrev Za6:=List FM
abbrev Za7:=Option zq
theorem QC(h:True:=by rfl):True:=h
def QD:Lean.Syntax:=QC._auto_1
theorem QE(h:True:=by decide):True:=h
def QF:Lean.Syntax:=QE._auto_1
theorem QG(h:True:=by first|exact .inl rfl|exact .inr rfl|assumption):True:=h
def QH:Lean.Syntax:=QG._auto_1
theorem QI(h:True:=by intro _;rfl):True:=h
def QJ:Lean.Syntax:=QI._auto_1
theorem QK(h:True:=by (repeat intro _);rfl):True:=h
def QL:Lean.Syntax:=QK._auto_1
def OG:Lean.MacroM Unit:=do match (<-Lean.getRef).getHeadInfo with|.original ..=>pure .unit|_=>Lean.Macro.throwUnsupported
open Lean Parser in
def WN(s:String)(a:Array Syntax):Array (TSyntax ``Tactic.tacticSeq):=(s.splitOn " ").toArray.map λx=>⟨mkNode ``Tactic.tacticSeq #[mkNode ``Tactic.tacticSeq1Indented #[mkNullNode #[mkNode ``Tactic.refine #[mkAtom "refine",mkNode ``Term.app #[mkIdent (.mkSimple x),mkNullNode (a.push (mkNode ``Term.syntheticHole #[mkAtom "?",mkNode ``Term.hole #[mkAtom "_"]]))]]]]]⟩
open Lean in
local macro_rules(kind:=Lean.Parser.Command.declaration)|s=>do
 match s.getHeadInfo with|.original ..=>pure .unit|_=>Macro.throwUnsupported
 let s:=s.setHeadInfo .none
 if s[0][4].isNone&&(s[1].isOfKind ``Parser.Command.definition||s[1].isOfKind ``Parser.Command.abbrev) then return s.setArg 0 (s[0].setArg 4 (mkNullNode #[mkNode ``Parser.Command.noncomputable #[mkAtom "noncomputable"]]))
 return s
section
namespace HD
open PySem PySem.W PySem.Calls PyProof.Rows
def Iw (tb:String->Option qw)(p:gu)(w:i7)(m:Nat)(ann:Za7):Nat->uu->Thread->Option uu
 |0,_,_=>none
 |n+1,s,t=>match through t with
  |true=>some s
  |false=>match stepOk m ann t with
   |false=>none
   |true=>match stepT (denote tb) p w s t with
    |some (s',t')=>Iw tb p w m ann n s' t'
    |none=>none
theorem Yk {tb:String->Option qw}{p:gu}{w:i7}{m:Nat}{ann:Za7}:∀{n:Nat} {s s':uu} {t:Thread},Iw tb p w m ann n s t=some s'->topRun tb p w m ann n s.abs t=some s'.abs
 |0,_,_,_,h=>by cases h
 |n+1,s,s',t,h=>by
  unfold Iw at h;unfold topRun
  cases he:through t with
  |true=>rw[he] at h;cases h;rfl
  |false=>
   rw[he] at h
   cases hk:stepOk m ann t with
   |false=>rw[hk] at h;cases h
   |true=>
    rw[hk] at h
    cases hs:stepT (denote tb) p w s t with
    |none=>rw[hs] at h;cases h
    |some r=>obtain⟨QX,t₂⟩:=r;rw[hs] at h;rw[stepT_spec hs];exact Yk h
def Aan:List Obj->Nat->BT->BT
 |[],_,t=>t
 |o::l,n,t=>Aan l (n+1) (t.ins n o)
noncomputable def Ul (P:BS):BT:=Aan (pj P).objs.toList 0 .nil
def bootSize:Nat:=11
noncomputable def bootT (w:i7) (os:OsState):uu:=⟨Ul w.params,bootSize,(pj w.params).life,#[],z4,BN,os⟩
def nM {α:Type}(Yf:fz->α)(h0:ki)(p q:gu)(loose:Za6)(s:fz):=
 (staticsOk (importedModules p.main.body) h0 s.heap&&namesBound p s.heap&&gensDone s&&laidKept h0 s.heap,
  openSeen q loose (importedModules p.main.body) (λ_=>true) true s,Yf s)
def bothT {α:Type}(Yf:fz->α)(s0:uu)(h0:ki)(m:Nat)(p q:gu)(loose:Za6)(M:Nat)(w:i7):=
 (Iw treeTable p w m (some (.ref 6)) M s0 (topStub p)).map λs=>nM Yf h0 p q loose s.abs
theorem yM (P:BS):absHeap (Ul P) bootSize (pj P).life=pj P:=by kernel_rfl
theorem uO (P:BS):((pj P).isNs mainGlobals&&(#[]:Array KQ).size==0,(pj P).objs.size,(pj P).nsMap mainGlobals "__annotations__")=(true,bootSize,some (.ref 6)):=by kernel_rfl
theorem Acy {p q:gu}{loose:Za6}{α:Type}{Yf:fz->α}{Ya:i7->α}{M N:Nat}(e:opening p=plainProg p.main.scope.names)(f:∀s,fenceModules? p s=some s)(hN:FW 600 N=true)(le:FW M N=true)
  (Uw:∀w:i7,(λos=>bothT Yf (bootT w os) (pj w.params) bootSize p q loose M w)=λ_=>some (true,openGood q loose,Ya w)) :
  LeftO p q loose (λ_=>true) Yf Ya N:=λw=>by
 obtain⟨⟨h,gs,d,k,os⟩,e1,e'⟩:=tj.mp (boot_open e hN f w);obtain⟨rfl,rfl,rfl,rfl⟩:h=pj w.params/\gs=DP []/\d=z4/\k=BN:=by simpa using e'
 have b:=congrFun (Uw w) os;unfold bothT at b;obtain⟨s,r,l⟩:=tj.mp b;have r2:=Yk r;have r3:=topRun_mono (N-M) _ _ _ _ r2;rw[show M+(N-M)=N by have:=DU le;lia] at r3;have eb:(bootT w os).abs=⟨pj w.params,DP [],z4,BN,os⟩:=by
  show Shared.mk (absHeap (Ul w.params) bootSize (pj w.params).life) (DP []) z4 BN os=_;rw[yM]
 rw[eb] at r3;obtain⟨z1,z2,z3⟩:_/\_/\_:=by simpa only[FT] using uO w.params
 obtain⟨l1,l2,l3⟩:_/\_/\_:=by simpa only[nM,FT] using l
 have t:topFrom treeTable p w N ⟨pj w.params,DP [],z4,BN,os⟩=some s.abs:=by
  unfold topFrom;dsimp only;rw[z1,z2,z3,r3];show(match staticsOk (importedModules p.main.body) (pj w.params) s.abs.heap&&namesBound p s.abs.heap&&gensDone s.abs&&laidKept (pj w.params) s.abs.heap with|true=>_|false=>_)=_;rw[l1]
 unfold openEnds;rw[e1];show(topFrom treeTable p w N _).map _=_;rw[t];exact congrArg some (DT l2 l3)
def recOf:jr->KR
 |.FunctionDef n a b _ _ _ sc _ _ pos=>⟨n,a,b,sc,pos⟩
 |_=>⟨"",default,[],default,default⟩
end HD
lay_quick HD.bothT
end
section
namespace HD
open PySem PySem.W PySem.Calls PyProof.Rows
def oneA (s0:uu)(h0:ki)(m:Nat)(p:gu)(M:Nat)(w:i7):=
 (Iw treeTable p w m (some (.ref 6)) M s0 (topStub p)).map λs=>staticsOk (importedModules p.main.body) h0 s.abs.heap&&namesBound p s.abs.heap&&gensDone s.abs&&laidKept h0 s.abs.heap
def oneB (s0:uu)(m:Nat)(p q:gu)(loose:Za6)(M:Nat)(w:i7):=
 (Iw treeTable p w m (some (.ref 6)) M s0 (topStub p)).map λs=>openSeen q loose (importedModules p.main.body) (λ_=>true) true s.abs
def zD {α:Type}(Yf:fz->α)(s0:uu)(m:Nat)(p:gu)(M:Nat)(w:i7):=
 (Iw treeTable p w m (some (.ref 6)) M s0 (topStub p)).map λs=>Yf s.abs
theorem Ai7 {α:Type}{Yf:fz->α}{s0:uu}{h0:ki}{m:Nat}{p q:gu}{loose:Za6}{M:Nat}{w:i7}{a:α}
  (hA:oneA s0 h0 m p M w=some true)(hB:oneB s0 m p q loose M w=some (openGood q loose))(hC:zD Yf s0 m p M w=some a) :
  bothT Yf s0 h0 m p q loose M w=some (true,openGood q loose,a):=by
 unfold oneA at hA;unfold oneB at hB;unfold zD at hC;unfold bothT nM;obtain⟨s,r,l⟩:=tj.mp hA;rw[r] at hB hC ⊢;have hB:=fc hB;have hC:=fc hC;exact congrArg some (DT l (DT hB hC))
theorem left_of3 {p q:gu}{loose:Za6}{α:Type}{Yf:fz->α}{Ya:i7->α}{M N:Nat}(e:opening p=plainProg p.main.scope.names)(f:∀s,fenceModules? p s=some s)(hN:FW 600 N=true)(le:FW M N=true)
  (hA:∀w:i7,(λos=>oneA (bootT w os) (pj w.params) bootSize p M w)=λ_=>some true)(hB:∀w:i7,(λos=>oneB (bootT w os) bootSize p q loose M w)=λ_=>some (openGood q loose))
  (hC:∀w:i7,(λos=>zD Yf (bootT w os) bootSize p M w)=λ_=>some (Ya w)):LeftO p q loose (λ_=>true) Yf Ya N:=
 Acy e f hN le λw=>funext λos=>Ai7 (congrFun (hA w) os) (congrFun (hB w) os) (congrFun (hC w) os)
def kE (s:uu)(a:Nat):Option Obj:=match Nat.blt a s.n with
 |true=>(match s.tree.get a with
  |some o=>alive o
  |none=>none)
 |false=>none
theorem yA {s:uu}{a:Nat}{o:Obj}(h:kE s a=some o):s.abs.heap.get? a=some o:=by
 unfold kE at h
 cases hb:Nat.blt a s.n with
 |false=>rw[hb] at h;cases h
 |true=>
  rw[hb] at h
  cases hg:s.tree.get a with
  |none=>rw[hg] at h;cases h
  |some u=>
   rw[hg] at h;have hlt:a<s.n:=by
    have:=DU hb;lia
   exact(abs_get hlt hg).trans h
theorem Tx {s:uu}:∀{as:Za4} {L:List (Option Obj)},(∀x∈L,x.isSome=true)->as.map (kE s)=L->as.map s.abs.heap.get?=L
 |[],L,_,e=>e
 |a::as,[],_,e=>by cases e
 |a::as,x::L,h,e=>by
  obtain⟨e1,e2⟩:=vq e;obtain⟨o,ho⟩:=mq.mp (h x ii);subst ho;show s.abs.heap.get? a::as.map s.abs.heap.get?=_;rw[yA e1,Tx (λy hy=>h y (gn _ hy)) e2]
def oneP (as ts:List ee)(s0:uu)(m:Nat)(p:gu)(M:Nat)(w:i7):=
 (Iw treeTable p w m (some (.ref 6)) M s0 (topStub p)).map λs=>(as.map (kE s),ts.map (kE s))
theorem hC_km {K:BS->HH}{as:List ee}{e:∀P,as=(K P).map (·.1)}{ts:List ee}{p:gu}{M:Nat}
  (h:∀w:i7,(λos=>oneP as ts (bootT w os) bootSize p M w)=λ_=>some ((K w.params).map λq=>some q.2,ts.map λ_=>some (tabObj #[]))) :
  ∀w:i7,(λos=>zD (kmHook K as e ts).obs (bootT w os) bootSize p M w)=λ_=>some ((kmHook K as e ts).val w):=λw=>funext λos=>by
 have h:=congrFun (h w) os;unfold oneP at h;unfold zD;obtain⟨s,r,l⟩:=tj.mp h;obtain⟨l1,l2⟩:=Prod.mk.inj l;rw[r];show some (as.map s.abs.heap.get?,ts.map s.abs.heap.get?)=some ((K w.params).map λq=>some q.2,ts.map λ_=>some (tabObj #[]));rw[Tx (λx hx=>by obtain⟨q,_,rfl⟩:=jq.mp hx;rfl) l1,Tx (λx hx=>by obtain⟨q,_,rfl⟩:=jq.mp hx;rfl) l2]
end HD
lay_quick HD.oneP
theorem HD.oneP_eq:@HD.oneP=@PySem.W.Fast.tw13831889492591282369:=PySem.W.Fast.te13831889492591282369
lay_quick HD.oneA
lay_quick HD.oneB
theorem HD.oneA_eq:@HD.oneA=@PySem.W.Fast.tw6247638121477898359:=PySem.W.Fast.te6247638121477898359
theorem HD.oneB_eq:@HD.oneB=@PySem.W.Fast.tw4394042064226896843:=PySem.W.Fast.te4394042064226896843
end
section
noncomputable def PySem.W.Fast.tw3285902658030865851:GR:=ji
theorem PySem.W.Fast.te3285902658030865851:ji=PySem.W.Fast.tw3285902658030865851:=rfl
noncomputable def HD.loose:List FM:=[eh "_wall",eh "same_shape",eh "first_unlike",eh "WoodError",eh "NoBits",eh "NoPlace",eh "NoRow",eh "NoWood",eh "NoKnot",eh "NoOrder",eh "is_whole",eh "is_within",eh "check_bit",eh "check_place",eh "check_stretch",eh "check_from_nought",eh "check_knot",eh "WORD_BITS",eh "FULL_WORD",eh "ONES_OF_FOUR",eh "ones_in",eh "nth_of_four",eh "nth_one",eh "MOST_BITS",eh "SIGNS_OF_FOUR",eh "is_row",eh "word_of",eh "words_of",eh "signs_of",eh "Bits",eh "BLOCK_WORDS",eh "BLOCK_BITS",eh "first_that",eh "running_sums",eh "table_of_words",eh "Counts",eh "begins_of",eh "heights_of",eh "check_height",eh "Heights",eh "MOST_SIGNS_pairs",eh "STRETCH_BITS",eh "check_row",eh "Pairs",eh "MOST_KNOTS",eh "MOST_SIGNS_woods",eh "MARK_STEP",eh "look_at",eh "row_of",eh "elders_of",eh "depths_of",eh "level_order",eh "children_counted",eh "counted_row",eh "thin_rest",eh "Wood",eh "marked_depths",eh "Counted",eh "check_order",eh "rounds_of",eh "shortcuts_of",eh "Shortcuts",eh "level_row",eh "widest_of",eh "Levelled",eh "Openings",eh "Opened",eh "PIECE_SIGNS",eh "ENOUGH_SIGNS",eh "sums_of",eh "pieces_of",eh "Piece",eh "PiecedRow",eh "Shaped",eh "_law_cell_at",eh "_law_twice",eh "_law_grown",eh "_law_drawn",eh "_law_repeated",eh "_law_wood",eh "_law_made",eh "_law_way",eh "_law_second",eh "_law_first"]
def HD.LD:PySem.DefRec:=HD.recOf (ji.main.body.getD 101 (.Pass ⟨0,0,0,0⟩))
def HD.VQ:GR:=PySem.W.view ji [101]
theorem HD.A_ok (w:HU):(λos=>HD.oneA (HD.bootT w os) (PySem.W.boot_heap w.params) HD.bootSize ji 100000 w)=(λ_=>some true):=by rw[HD.oneA_eq];kernel_rfl
theorem HD.B_ok (w:HU):(λos=>HD.oneB (HD.bootT w os) HD.bootSize ji HD.VQ HD.loose 100000 w)=(λ_=>some (PySem.W.openGood HD.VQ HD.loose)):=by rw[HD.oneB_eq];kernel_rfl
end
namespace _Q
section
variable {a b c n:Nat}
theorem xa(h:b=a):a<=b:=Nat.le_of_eq h.symm
theorem xb(k:c=b)(h:a<b):a<c:=k▸h
theorem xd(k:b=c)(h:a<b):a<c:=k▸h
theorem xk:a<=a+n:=Nat.le_add_right ..
theorem xp(h:a+n<=b):a<=b:=Nat.le_trans (Nat.le_add_right ..) h
theorem xD(h:a<b):b-(a+1)<b-a:=Nat.sub_succ_lt_self _ _ h
theorem xG(h:¬b<a):a<=b:=Nat.not_lt.mp h
theorem xi(h:a<b):b=b-1+1:=(Nat.sub_add_cancel (Nat.zero_lt_of_lt h)).symm
theorem xu(h:a<b-n):n+a<b:=by have:=Nat.add_lt_of_lt_sub h;rwa [Nat.add_comm] at this
end
end _Q
open Lean in
local macro_rules|`(tactic|lia)=>do
 let g:Nat->Name->MacroM (TSyntax ``Parser.Tactic.tacticSeq):=λn x=>do let a:Array Term:=.replicate n (<-`((by assumption)));`(tacticSeq|exact $(mkIdent x) $a*)
 let ts:=(<-[`Nat.le_of_lt,`_Q.xp,`Nat.lt_of_succ_le,`Nat.le_of_eq,`_Q.xa,`Nat.succ_le_of_lt,`_Q.xG,`_Q.xD,`Nat.le_of_lt_succ,`Nat.pos_of_ne_zero,`Nat.add_sub_cancel',`Nat.lt_succ_of_lt,`_Q.xu,`_Q.xi].mapM (g 1))++(<-[`_Q.xb,`_Q.xd,`Nat.le_trans,`Nat.lt_of_lt_of_le,`Nat.lt_of_le_of_lt,`Nat.lt_trans].mapM (g 2))
 let ts:=ts.toArray
 `(tactic|first|(with_reducible first|assumption $[|$ts]*|exact _Q.xk)|lia (splits := 9)|omega)
local macro_rules|`(())=>do OG;`(by lia)
local macro_rules|`($x.$i:fieldIdx)=>do
 let n:=i.raw.isFieldIdx?.getD 0
 if n<5 then Lean.Macro.throwUnsupported
 `(($x).$(Lean.mkIdent (.mkSimple ("heap toArray toList size length".splitOn " ")[n-5]!)))
open Lean in
local macro_rules (kind:=«term{_}»)|s=>do OG;return mkNode ``Parser.Term.anonymousCtor #[mkAtom "⟨",s[1],mkAtom "⟩"]
section
set_option hygiene false in
local macro_rules | `(tactic| k_in)=>`(tactic| intro pins s G H Q I h)
set_option hygiene false in
local macro_rules | `(tactic| k_end)=>`(tactic| intro pins s G H D I h)
local macro_rules | `(tactic| k_cls)=>`(tactic| (constructor<;>first | rfl | decide +kernel))
namespace _L
theorem cpZ{G:Prop}(h:∀X:Prop,(G->X)->X):G:=h G id
open PySem PySem.Spec PyProof.Rows
variable {C CB CC CL CP CS Pt dx i1 i2 it l1 l2 z:ee} {params:pq} {A:jp} {items:Array ft} {op:x9} {X:Cx} {D:Jm} {env:Env} {tg:jk} {fd:ky} {base h h':ki} {H H' H1 H2:Hp} {J:It} {pins:Za1} {fp:List ee} {es:List jk} {kz ns:List Int} {l0:List gw} {cs ix:Za4} {N QQ ps:Za6} {xs ys:List V} {us vs:Za3} {M:yu} {n t':Nat} {oT:Obj} {an od:Option ee} {lpos pos:Pos} {B:Prop} {sc scope QP:qh} {pl:Sem Bool} {s:fz} {sp:Sp} {qual:Str} {te to:TE} {wi:TI} {y:V} {cdv ct doc oc pm:ft} {w:i7}
abbrev Key:=Sum Int Str
def Ye:Key->ft->Bool
 |.inl k,v=>HR k v
 |.inr x,v=>GP x v
def Ajn (w:i7):Key->Int
 |.inl k=>hashInt k
 |.inr x=>hashStr w x
theorem C4:∀{k:Key} {v:ft},Ye k v=MK->(∃i t,k=wm i/\v=nu i t)\/(∃x t,k=zd x/\v=xq x t)
 |.inl i,v,h=>by
  obtain⟨t,e⟩:=Value.isInt_shape (k:=i) (v:=v) h;exact .inl ⟨i,t,rfl,e⟩
 |.inr x,v,h=>by
  obtain⟨t,e⟩:=Value.isStrOf_shape (x:=x) (v:=v) h;exact .inr ⟨x,t,rfl,e⟩
theorem Afv (a b:Int):decide ((wm a:Key)=wm b)=(a==b):=by
 by_cases e:a=b
 .subst e;simp
 .have h:¬(wm a:Key)=wm b:=λq=>e (Sum.inl.inj q)
  rw[decide_eq_false h];exact(beq_eq_false_iff_ne.mpr e).symm
theorem Agu (a b:Str):decide ((zd a:Key)=zd b)=decide (a=b):=by
 by_cases e:a=b
 .subst e;simp
 .have h:¬(zd a:Key)=zd b:=λq=>e (Sum.inr.inj q)
  rw[decide_eq_false h,decide_eq_false e]
theorem Ag6 (a:Int)(b:Str):decide ((wm a:Key)=zd b)=ML:=decide_eq_false (λq=>nomatch q)
theorem Afs (a:Str)(b:Int):decide ((zd a:Key)=wm b)=ML:=decide_eq_false (λq=>nomatch q)
def Bu (prog:gu)(w:i7):PySem.KeyKind prog w Key where
 is:=Ye
 hash:=Ajn w
 inj:=λv a b ha hb=>by
  rcases C4 ha with⟨i,t,rfl,rfl⟩|⟨x,t,rfl,rfl⟩
  .rcases C4 hb with⟨j,u,rfl,e⟩|⟨y,u,rfl,e⟩
   .injection e with e1 _;rw[e1]
   .exact nomatch e
  .rcases C4 hb with⟨j,u,rfl,e⟩|⟨y,u,rfl,e⟩
   .exact nomatch e
   .injection e with e1 _;rw[e1]
 byValue:=λk v h=>by
  rcases C4 h with⟨i,t,rfl,rfl⟩|⟨x,t,rfl,rfl⟩<;>rfl
 pyHash:=λhv h=>by
  rcases C4 hv with⟨i,t,rfl,rfl⟩|⟨x,t,rfl,rfl⟩
  .exact wpAny_pyHash_int h
  .exact wpAny_pyHash_str h
 eqBool:=λhu hv h=>by
  rcases C4 hu with⟨i,t,rfl,rfl⟩|⟨x,t,rfl,rfl⟩
  .rcases C4 hv with⟨j,u,rfl,rfl⟩|⟨y,u,rfl,rfl⟩
   .rw[Afv] at h;exact wpAny_eqBool_int h
   .rw[Ag6] at h;exact CF i t y u _ _ _ _ h
  .rcases C4 hv with⟨j,u,rfl,rfl⟩|⟨y,u,rfl,rfl⟩
   .rw[Afs] at h;exact CA x t j u _ _ _ _ h
   .rw[Agu] at h;exact wpAny_eqBool_str h
 «strs»:=λk x t v h=>by
  rcases C4 h with⟨i,u,rfl,e⟩|⟨y,u,rfl,e⟩
  .exact nomatch e
  .injection e with e1 _
   subst e1;cases v<;>rfl
inductive V where
 |non|bl (b:Bool)|int (i:Int)|str (x:Str)|byt (b:Array UInt8)|flt (b:UInt64)|ref (a:ee)|ty (n:String)
 deriving DecidableEq
def Bh:V->ft->Prop
 |.non,u=>u=ya
 |.bl b,u=>u=AK b
 |.int i,u=>∃t,u=nu i t
 |.str x,u=>∃t,u=xq x t
 |.byt b,u=>∃t,u=HS b t
 |.flt b,u=>∃t,u=DJ b t
 |.ref a,u=>u=ka a
 |.ty n,u=>u=nq n
abbrev A5:List V->Za3->Prop:=BU Bh
def Op:Option V->Za7->Prop
 |some v,mn u=>Bh v u
 |none,tp=>True
 |_,_=>False
def KV {κ:Type}:List (κ×V)->List (κ×ft)->Prop:=BU λ(p:κ×V) (q:κ×ft)=>p.1=q.1/\Bh p.2 q.2
def kV:Key->V
 |.inl i=>.int i
 |.inr x=>.str x
inductive HO where
  |lst (xs:List V)
  |tup (xs:List V)
  |dK (kvs:List (Key×V))|dT (kvs:List (List Key×V))
  |set (S:Int->Bool) (n:Nat)
  |ins (C dx:ee) (fs:List (Str×V))
  |own (x:ee)
  |xd (fs:List (Str×V))
  |met (f x:ee)
  |rng (lo hi:Int)
  |frz (o:Obj) (u:HO)
  |tbl (ps:Array ft)
  |ext (φ:ki->Prop)
abbrev Hp:=ee->Option HO
section
variable (P:gu) (w:i7)
def De (H:Hp)(h:ki)(a:ee):HO->Prop
 |.lst xs=>xs.9<=sizeLine/\∃(its:Za3) (n:Nat),A5 xs its/\h.get? a=mn { cls:=.type "list",data:=.seq its.6 n }
 |.tup xs=>xs.9<=sizeLine/\∃its:Za3,A5 xs its/\IsTup h a its.6
 |.dK kvs=>kvs.9<=sizeLine/\(a==sysModules)=ML/\∃vs,KV kvs vs/\h.DictOf (Bu P w) a vs
 |.dT kvs=>kvs.9<=sizeLine/\(a==sysModules)=ML/\∃xs:List (List Key×ee×ft),
   BU (λ(p:List Key×V) (q:List Key×ee×ft)=>p.1=q.1/\H q.2.1=mn (.tup (p.1.map kV))/\Bh p.2 q.2.2) kvs xs /\
   ∃o es ep,h.get? a=mn o/\o.ExactDict/\o.data=.dict es ep/\es.7=xs.map (entryOfKey (tupleKind (Bu P w)))/\(xs.map (·.1)).Nodup
 |.set S n=>h.SetOf (intKind P w) a S n
 |.ins C dx fs=>H dx=mn (.own a)/\fs.9<=1000/\dx≠a/\h.get? a=mn (instObj C dx) /\
   ∃mA,h.Ns1 dx mA/\(∀f,Op (fs.lookup f) (mA f))/\CT mA (fs.map (·.1))
 |.own _=>∃o,h.get? a=mn o
 |.xd fs=>∃mA,h.Ns1 a mA/\∀f,Op (fs.lookup f) (mA f)
 |.rng lo hi=>∃t u v,h.get? a=mn { cls:=.type "range",data:=.fields #[.int lo t,.int hi u,.int 1 v] }
 |.frz o u=>h.get? a=mn o/\De H h a u
 |.tbl ps=>h.get? a=mn { cls:=.none,data:=.fields ps }
 |.met f x=>h.get? a=mn (yb (.ref f) (.ref x))
 |.ext φ=>φ h/\(∃o,h.get? a=mn o)/\∀h1 h2:ki,φ h1->(∀o,h1.get? a=mn o->h2.get? a=mn o)->φ h2
def HOk (H:Hp)(h:ki):Prop:=∀a o,H a=mn o->De P w H h a o
end
def Rd (H:Hp)(a:ee)(u:HO):Prop:=H a=mn u\/∃o,H a=mn (.frz o u)
structure Un (fs ex:List ee) (H H':Hp) (h h':ki):Prop where
 keep:∀b o,h.get? b=mn o->H b=tp->b∉fs->b∉ex->h'.get? b=mn o
 slot:∀b o,h.get? b=mn o->H b=tp->b∈fs->b∉ex->∃sl,h'.get? b=mn { o with slots:=sl }
 free:∀b o,h.get? b=mn o->H b=tp->b∉ex->H' b=tp
 there:∀b o,h.get? b=mn o->b∉ex->∃o',h'.get? b=mn o'
 tups:∀b xs,H b=mn (.tup xs)->H' b=mn (.tup xs)
 frzs:∀b o u,H b=mn (.frz o u)->H' b=mn (.frz o u)
 tbls:∀b ps,H b=mn (.tbl ps)->∃more,H' b=mn (.tbl (ps++more))
def trk (h:ki)(H:Hp):List ee:=(en h.objs.8).filter λa=>(H a).isSome
def fL (h:ki)(H:Hp):ki:=PySem.W.hideAll h (trk h H)
theorem uJ (h:ki)(H:Hp):(fL h H).objs.size=h.objs.8:=PySem.W.hideAll_size _ _
theorem Uq {b:ee}{o:Obj}(e:h.get? b=mn o)(n:H b=tp):(fL h H).get? b=mn o:=
 PySem.W.hideAll_get _ e λhm=>by
  have q:(H b).isSome=MK:=(xh.mp hm).2;rw[n] at q;simp at q
theorem Ab0 {b:ee}{o:Obj}(e:(fL h H).get? b=mn o):h.get? b=mn o/\H b=tp:=by
 have e':h.get? b=mn o:=PySem.W.of_hideAll (trk h H) e;refine{e',?_}
 cases q:H b with
 |none=>rfl
 |some x=>
  have hm:b∈trk h H:=xh.mpr {iy.mpr (gd e'),by simp[q]};have z:(fL h H).get? b=tp:=PySem.W.hideAll_none (trk h H) hm;rw[z] at e;cases e
structure Mod (K:d5) (mg:Za2) (base:ki):Prop where
 kin:K.In base
 glob:base.Ns mainGlobals mg
 blt:∃mb,base.Ns builtinsNs mb/\∀x:Str,x≠"__name__"->mb x=bootBuiltins x
 nolimit:base.NoLimit
def frs (l:List Env):List ee:=l.filterMap (·.frame)
abbrev XK:=ft->Option ee->Hp->Prop
abbrev VK:=V->Hp->Prop
def SqL (K:d5)(H:Hp)(a:ee)(xs:List V):Prop:=
 Rd H a (.lst xs) \/
  ∃(o:Obj) (its:Array ft) (n:Nat),K.lookup a=mn o/\o.cls=.type "list"/\o.dict=tp/\o.data=.seq its n/\its.8<=sizeLine/\A5 xs its.7
structure Cls (K:d5) (C:ee):Prop where
 pg:wl K C z6=MK
 hd:yc K C=MK
 po:DQ K C=MK
 sa:lu K (.ref C) "__setattr__"=mn (mn (.builtin "object.__setattr__"))
structure Cz (k:Nat) (A:jp):Prop where
 hd:A.handled=tp
 dp:A.depth+3*k+5<recursionLimit
 un:A.units+16*k+200<cLine
abbrev Sp:=List V->Hp->VK->XK->Prop
abbrev CXT:=List Env->Hp->fz->XK->Za0
structure Xq (P:gu) (w:i7) (K:d5) (mg:Za2) (base:ki) (A:jp) (outer:List Env) (s:fz) (H:Hp):Prop where
 frames:A.frames=mn outer
 mod:Mod K mg base
 bs:∀b o,base.get? b=mn o->s.heap.get? b=mn o/\H b=tp
 bsz:base.objs.8<=s.heap.objs.8
 funs:s.heap.FunFrames base outer
 frf:∀b∈frs outer,H b=tp
 hok:HOk P w H s.5
 bare:xu s.gens
def CE (outer:List Env)(P:gu)(w:i7)(H:Hp)(s:fz)(Q:VK)(u:ft)(s':fz):Prop:=
 ∃v H',s'.os=s.os/\xu s'.gens/\Un (frs outer) [] H H' s.5 s'.5/\HOk P w H' s'.5/\Bh v u/\Q v H'
def CR (CX:CXT)(outer:List Env)(P:gu)(w:i7)(H:Hp)(s:fz)(Q:VK)(E:XK)(r:yq)(s':fz):Prop:=
 match r with
 |.ok (.ret u)=>CE outer P w H s Q u s'
 |.ok _=>False
 |.error e=>CX outer H s E e s'
structure Av (P:gu) (w:i7) (K:d5) (mg:Za2) (base:ki) (CX:CXT) (k:Nat) (f:ee) (fd:ky) (ps:Za6) (sp:Sp):Prop where
 len:∀vs H Q E,sp vs H Q E->vs.9=ps.9
 run:∀(A:jp) (outer:List Env) (s:fz) (H:Hp) (args:Args) (us:Za3) (vs:List V) (Q:VK) (E:XK),Cz k A->Xq P w K mg base A outer s H->DF s fd args (ps.zip us)->A5 vs us->sp vs H Q E ->
  codeAny (model P w) A (.call (.ref f) args) (CR CX outer P w H s Q E) s
end _L
variable {C CB CC CL CP CS Pt dx i1 i2 it l1 l2 z:ee} {params:pq} {A:jp} {items:Array ft} {op:x9} {env:PySem.Env} {tg:jk} {fd:ky} {base h h':ki} {H H' H1 H2:_L.Hp} {pins:Za1} {fp:List ee} {es:List jk} {kz ns:List Int} {l0:List gw} {cs ix:Za4} {N QQ ps:Za6} {xs ys:List _L.V} {us vs:Za3} {M:yu} {n t':Nat} {oT:PySem.Obj} {an od:Option ee} {lpos pos:PySem.Pos} {B:Prop} {sc scope QP:qh} {pl:PySem.Sem Bool} {s:fz} {sp:_L.Sp} {qual:PySem.Str} {y:_L.V} {cdv ct doc oc pm:ft} {w:i7}
namespace _At
open PySem PySem.W PySem.Calls PyProof.Rows
theorem So {P:BS}{h:ki}:∀(ns:List Int) (vs:Za3),WellAll P h vs (ns.map JB)->ni vs ns:=by
 intro ns
 induction ns with
 |nil=>
  intro vs w;rw[vo] at w;cases w;exact .nil
 |cons n ns ih=>
  intro vs w;rw[gt] at w
  cases w with
  |cons a b=>
   cases a;exact .cons _ _ (ih _ b)
theorem vT {l:ME}{n:Nat}(hn:l.most=mn n){P:BS}{h:ki}{args:List WData}{vals:Za3}
    (hpre : l.row.toRowW.claim.pre args = MK)(hwl : WellAll P h vals args) :
    ∃ a vs ns, vals = [ka a]/\args = [WData.list (ns.map JB)]/\h.get? a = mn { cls := .type "list", data := .seq vs.6 }/\ni vs ns/\ns.9 <= n := by
  have hsh : WShape.hasAll [] args [.list .int] = MK := (pre_splitW hpre).1;have hc : l.pre.holds [] { args := args } = MK := (pre_splitW hpre).2;obtain ⟨d, r, rfl, h1, h2⟩ := hasAllW_cons hsh;obtain rfl := hasAllW_nil h2;obtain ⟨xs, rfl, h3⟩ := hasW_list h1;obtain ⟨ns, rfl⟩ := items_int h3;have hlen : ns.9 <= n := by
    unfold OpenLaw.pre at hc;have h4 : (WTm.not (.lt (.lit (.int (n : Int))) (.len (.arg 0)))).holds [] { args := [.list (ns.map .int)] } = MK := by
      have h4 := (holds_andW hc).1;rw [hn] at h4;exact h4
    have h5 := condW_of h4 (w_not (w_lt w_lit (w_len_list (w_arg rfl))));rw [d4] at h5;refine Nat.le_of_not_lt λq => ?_;have q' : (n : Int) < ((ns.9 : Nat) : Int) := by lia
    first
      | (rw [decide_eq_true q'] at h5; exact absurd h5 (by decide))
      | (simp at h5; lia)
  cases hwl with
  | cons w1 w2 =>
    cases w2
    cases w1 with
    | list ho hall => exact {_, _, ns, rfl, rfl, ho, So ns _ hall, hlen}
theorem vW (l:ME)(args:List WData):l.row.toRowW.claim.post args (.bool MK) args=MK:=
 postW_of (r:=l.row.toRowW) (X:=(MK==MK))
  (show HQ [] (.bool MK) .bool=MK by first|rfl|decide|simp[HQ,WShape.arms,WShape.armsAll])
  (show(WTm.eq .res (.lit (.bool MK))).value [] { args:=args,res:=mn (.bool MK),after:=args }=mn (.bool (MK==MK)) from w_eq_bool (w_res rfl) w_lit) rfl
theorem attach_call {l:ME}{n:Nat}{q:gu}{loose:Za6}{XP:(Za2)->ki->Prop}{YP:i7->ki->Prop}{d:KR}
  (hn:l.most=mn n)(hdf:d.params.defaults=[])
  (call:∀(w:i7) (QN QM:fz) (mg mb:Za2) (fa:ee) (o:Obj) (pm cd doc:ft) (a:ee) (vs:Za3) (ns:List Int),
   Ground q loose [] XP w QN mg mb QM.5->YP w QM.5 ->
   QM.heap.get? fa=mn o->o.data=.func (docDef d.name d.params d.body d.scope pm cd doc)->QM.heap.CodeRec cd d.name->mg d.name=mn (.ref fa) ->
   QM.heap.get? a=mn { cls:=.type "list",data:=.seq vs.6 }->ni vs ns->ns.9<=n->QM.gens=#[] ->
   codeAny (model l.prog w) callerA (.call (.ref fa) {[.ref a],[]}) (λr s'=>r=.ok (.ret (.bool MK))/\OldK QM.5 s'.5/\s'.os=QM.os/\xu s'.gens) QM) :
  WalkO q loose XP YP l.row.toRowW d [] (λf vs=>EH f vs):=by
 intro w QN QM mg mb G Y fa o pm cd doc dV kV ho hd hcd hD hmg hg args vals as hpre hlay hrd hwl hlo;obtain rfl:dV=.none:=Dflts.none hD hdf;obtain rfl:kV=.none:=Dflts.noKw hD;obtain⟨a,vs,ns,rfl,rfl,hobj,hints,hlen⟩:=vT hn hpre hwl;refine enter_call (wk (call w QN QM mg mb fa o pm cd doc a vs ns G Y ho (fd_plain hd) hcd hmg hobj hints hlen hg) λr s' hq=>?_);obtain⟨rfl,h2,h3,h4⟩:=hq;exact{.inl {.bool MK,.bool MK,[],rfl,λ_=>rfl,.bool MK,vW l _,λ_=>{va,λ_ hm=>(nomatch hm)}},h2,h3,h4}
end _At
namespace _L
open PySem PySem.Spec PyProof.Rows
theorem M3:∀{vs:Za3} {ns:List Int},ni vs ns->A5 (ns.map V.int) vs
 |_,_,.nil=>.nil
 |_,_,.cons n t h=>.cons ⟨t,rfl⟩ (M3 h)
def Aw (s:jr)(j:Nat):jr:=match s with
 |.ClassDef _ _ _ body _ _ _ _ _ _ _=>body.getD j (.Pass {0,0,0,0})
 |_=>.Pass {0,0,0,0}
def B3 (s:jr):pq:=match s with
 |.FunctionDef _ a _ _ _ _ _ _ _ _=>a
 |_=>{ posonlyargs:=[],args:=[],vararg:=tp,kwonlyargs:=[],kw_defaults:=[],kwarg:=tp,defaults:=[] }
def Br (s:jr):List jr:=match s with
 |.FunctionDef _ _ b _ _ _ _ _ _ _=>b
 |_=>[]
def Ad (s:jr):qh:=match s with
 |.FunctionDef _ _ _ _ _ _ sc _ _ _=>sc
 |_=>{ kind:=.function,names:=[],isGenerator:=ML,isCoroutine:=ML }
abbrev CX0:CXT:=λ_ _ _ _ _ _=>False
structure Fun (K:d5) (x qual:Str) (st:jr) (f:ee) (fd:ky):Prop where
 ex:∃(oc:ft) (od:Option ee) (kV doc pm:ft) (an:Option ee) (cdv ct:ft) (osl:Array (Za7)),
  fd=j2 x qual (B3 st) (Br st) (Ad st) .none kV doc pm an cdv ct/\K.lookup f=mn {oc,od,.func fd,osl}/\ml K cdv qual=MK
 kp:lp K (.ref f)=MK
section
variable {P:gu} {w:i7} {K:d5} {mg:Za2} {base:ki}
theorem pO {x:Str}{st:jr}{f:ee}{osl:Array (Za7)}{kV:ft}(l:K.lookup f=mn {oc,od,.func (j2 x qual (B3 st) (Br st) (Ad st) .none kV doc pm an cdv ct),osl})
  (c:ml K cdv qual=MK)(k:lp K (.ref f)=MK):Fun K x qual st f (j2 x qual (B3 st) (Br st) (Ad st) .none kV doc pm an cdv ct):={⟨oc,od,kV,doc,pm,an,cdv,ct,osl,rfl,l,c⟩,k}
end
end _L
section
namespace _W
def Y9:Za4:=[0,1,1,2,1,2,2,3,1,2,2,3,2,3,3,4]
end _W
end
section
namespace _L
open PySem PySem.Spec PyProof.Rows
open _W
def Zx (oc:Obj)(qual:Str):Prop:=∃vs t,oc.data=.fields vs/\vs[1]?=mn (.str qual t)
def Mj (H:Hp)(P:ee)(pos:Pos)(qual:Str):Prop:=∃ps:Array ft,H P=mn (.tbl ps)/\TriplesOk ps.7/\(codeAmong pos ps.7=tp\/∃c' oc,codeAmong pos ps.7=mn (.ref c')/\H c'=mn (.frz oc (.own 0))/\Zx oc qual)
open PySem.W
def Ir (o:Obj)(c P:ee):Prop:=∃vs file tf flags tg inF text tt,o.cls=.type "code"/\o.data=.fields vs/\vs[11]?=mn (.ref P)/\vs.getD 11 .none=.ref P/\vs.getD 18 .none=.str file tf /\
  vs.getD 7 .none=.int flags tg/\vs.getD 9 .none=.bool inF/\vs.getD 10 .none=.int text tt/\c≠P
theorem pE {P:gu}{K:d5}{mg mb:Za2}{CX:CXT}{k:Nat}{fa a:ee}{x:Str}{QM:fz}{tabs:List (ee×ee)}
  (hT:z7 tabs QM.5)(hTK:∀q∈tabs,K.lookup q.2=tp)(hB:∃bm ob,mg "__builtins__"=mn (.ref bm)/\bm≠builtinsNs/\QM.heap.get? bm=mn ob/\ob.cls=.type "module"/\ob.dict=mn builtinsNs/\ob.data=.plain)(KX:K.In QM.5)(hns:QM.heap.Ns mainGlobals mg)(hb:QM.heap.Ns builtinsNs mb)(hbb:∀x:Str,x≠"__name__"->mb x=bootBuiltins x)(hlim:QM.heap.NoLimit)(hg:QM.gens=#[])
  (ha:QM.heap.get? a=mn { cls:=.type "list",data:=.seq vs.6 })(hi:ni vs ns)(hl:ns.9<=sizeLine)(hr:Cz k callerA)
  (F:∀base:ki,K.In base->base.Ns mainGlobals mg->(∀q∈tabs,base.BuiltinsAt mg q.2)->Av P w K mg base CX k fa fd [x] sp)(hbind:∀(s:fz) (u:ft),DF s fd {[u],[]} [(x,u)])
  (hsp:∀H:Hp,(∀q∈tabs,H q.2=mn (.tbl #[]))->SqL K H a (ns.map V.int)->sp [.ref a] H (λv _=>v=.bl MK) λ_ _ _=>False)
  (hCX:∀H e s',CX [] H QM (λ_ _ _=>False) e s'->False) :
  codeAny (model P w) callerA (.call (.ref fa) {[.ref a],[]}) (λr s'=>r=.ok (.ret (.bool MK))/\OldK QM.5 s'.5/\s'.os=QM.os/\xu s'.gens) QM:=by
 have rv:=M3 hi;have tabAt:∀b,b∈tabs.map (·.2)->QM.heap.get? b=mn (xc #[])/\K.lookup b=tp/\isCodeTable QM.5 b:=λb hm=>by
  obtain⟨q,hq,rfl⟩:=jq.mp hm;exact{(hT q hq).2,hTK q hq,((hT q hq).1.tab (hT q hq).2).isCodeTable}
 have haT:a∉tabs.map (·.2):=λhm=>by
  have:=(tabAt a hm).1;rw[ha] at this;cases this
 let H:Hp:=λb=>if b∈tabs.map (·.2) then mn (.tbl #[]) else if b=a/\K.lookup a=tp then mn (.frz { cls:=.type "list",data:=.seq vs.6 } (.lst (ns.map V.int))) else tp
 have H1:∀b,b∈tabs.map (·.2)->H b=mn (.tbl #[]):=λb hm=>if_pos hm;have H2:∀b,b∉tabs.map (·.2)->¬(b=a/\K.lookup a=tp)->H b=tp:=λb h1 h2=>(if_neg h1).trans (if_neg h2);have H3:K.lookup a=tp->H a=mn (.frz { cls:=.type "list",data:=.seq vs.6 } (.lst (ns.map V.int))):=λh=>(if_neg haT).trans (if_pos ⟨rfl,h⟩);have cases3:∀b,(b∈tabs.map (·.2))\/(b=a/\K.lookup a=tp/\b∉tabs.map (·.2))\/(H b=tp):=λb=>by
  by_cases h1:b∈tabs.map (·.2)
  .exact .inl h1
  .by_cases h2:b=a/\K.lookup a=tp
   .exact .inr (.inl ⟨h2.1,h2.2,h1⟩)
   .exact .inr (.inr (H2 b h1 h2))
 have hok:HOk P w H QM.5:=λb o e=>by
  rcases cases3 b with h|⟨rfl,h1,_⟩|h
  .rw[H1 b h] at e
   cases e;exact(tabAt b h).1
  .rw[H3 h1] at e
   cases e;exact{ha,by rw[d4];exact hl,vs,_,rv,ha}
  .rw[h] at e
   cases e
 have noD:∀{b:ee} {o:Obj} {es:Array DictEntry} {ep:Nat},QM.heap.get? b=mn o->o.data=.dict es ep->H b=tp:=λ{b o es ep} e d=>by
  rcases cases3 b with h|⟨rfl,_,_⟩|h
  .rw[(tabAt b h).1] at e
   cases e;have d':EC #[]=KS es ep:=d;cases d'
  .rw[ha] at e
   cases e;have d':Data.seq vs.6 _=KS es ep:=d;cases d'
  .exact h
 have nsK:∀{b:ee} {m:Za2},QM.heap.Ns b m->(fL QM.5 H).Ns b m:=λ{b m} ⟨o,es,ep,e,d,r⟩=>{o,es,ep,Uq e (noD e d),d,r};have hKb:K.In (fL QM.5 H):=λb o e=>Uq (KX b o e) (by
  rcases cases3 b with h|⟨rfl,h1,_⟩|h
  .rw[(tabAt b h).2.1] at e;cases e
  .rw[h1] at e;cases e
  .exact h)
 have hBa:∀q∈tabs,(fL QM.5 H).BuiltinsAt mg q.2:=λq hq=>by
  obtain⟨bm,ob,b1,b2,b3,b4,b5,b6⟩:=hB;have n1:bm≠mainGlobals:=λz=>by
   obtain⟨o,es,ep,e,d,_⟩:=hns;rw[z,e] at b3;cases b3;rw[d] at b6;cases b6
  have nP:bm∉tabs.map (·.2):=λhm=>by
   have:=(tabAt bm hm).1;rw[b3] at this;cases this;cases b6
  have hn:H bm=tp:=by
   rcases cases3 bm with h|⟨h,_,_⟩|h
   .exact absurd h nP
   .rw[h,ha] at b3
    cases b3;cases b6
   .exact h
  exact{bm,ob,b1,b2,n1,λz=>nP (z▸vg hq),Uq b3 hn,b4,b5,b6}
 have hM:Mod K mg (fL QM.5 H):={hKb,nsK hns,{mb,nsK hb,hbb},let ⟨mc,h1,h2⟩:=hlim;{mc,nsK h1,h2}};have e0:Xq P w K mg (fL QM.5 H) callerA [] QM H:={rfl,hM,λb o e=>Ab0 e,oz (uJ _ _),trivial,λb hb=>absurd (show b∈([]:List ee) from hb) (by simp),hok,.of_eq hg};have hS:SqL K H a (ns.map V.int):=by
  cases hk:K.lookup a with
  |none=>exact .inl (.inr {_,H3 hk})
  |some o=>
   have e:=KX a o hk;rw[ha] at e;cases e;exact .inr {_,vs.6,_,hk,rfl,rfl,rfl,by rw[gh,hi.9];exact hl,by simpa using rv}
 refine wk ((F _ hKb (nsK hns) hBa).run callerA [] QM H {[.ref a],[]} [.ref a] [.ref a] _ _ hr e0 (hbind QM (.ref a)) (.cons rfl .nil) (hsp H (λq hq=>H1 _ (vg hq)) hS)) λr s' h=>?_
 cases r with
 |error e=>exact(hCX H e s' h).elim
 |ok fl=>
  cases fl with
  |next=>exact l8 h
  |brk=>exact l8 h
  |cont=>exact l8 h
  |ret u=>
   obtain⟨v,H',os,bare,un,hok',r',q⟩:=h;have q':v=.bl MK:=q;subst q';obtain rfl:u=AK MK:=r';have out:∀b o,QM.heap.get? b=mn o->(b∈tabs.map (·.2)/\∃more,s'.heap.get? b=mn (xc more))\/s'.heap.get? b=mn o:=λb o e=>by
    rcases cases3 b with h|⟨rfl,h1,_⟩|h
    .obtain⟨more,hm⟩:=un.tbls b _ (H1 b h)
     exact .inl {h,_,hok' b _ hm}
    .obtain⟨e2,_⟩:=hok' _ _ (un.frzs _ _ _ (H3 h1))
     rw[ha] at e;cases e;exact .inr e2
    .exact .inr (un.keep b o e h (by intro z;exact absurd (show b∈([]:List ee) from z) (by simp)) (by simp))
   refine{rfl,{λb o e=>?_,λb o e=>?_},os,bare}
   .rcases out b o e with⟨h,more,hm⟩|h
    .have e1:=(tabAt b h).1
     rw[e] at e1;cases e1;exact .inr (.inl {(tabAt b h).2.2,rfl,#[],more,rfl,by rw[Array.empty_append];exact hm})
    .exact .inl h
   .rcases out b o e with⟨_,more,hm⟩|h
    .exact{_,hm}
    .exact⟨o,h⟩
theorem tQ {l:zf}{k:Nat}{q:gu}{loose:Za6}{XP:(Za2)->ki->Prop}{YP:i7->ki->Prop}{d:KR}{K:BS->d5}{CX:i7->CXT}{sp:i7->Sp}{x:Str}{tabs:List (ee×ee)}
  (hn:l.most=mn n)(hn2:n<=sizeLine)(hdf:d.params.defaults=[])(hr:Cz k callerA)
  (hY:∀(w:i7) (h:ki),YP w h->(K w.params).In h)(hTb:∀(w:i7) (h:ki),YP w h->z7 tabs h)(hTK:∀w:i7,∀p∈tabs,(K w.params).lookup p.2=tp)
  (F:∀(w:i7) (mg:Za2) (fa:ee) (h:ki),(K w.params).In h->h.Ns mainGlobals mg->mg d.name=mn (.ref fa) ->
   ∃fd:ky,(∀(s:fz) (u:ft),DF s fd {[u],[]} [(x,u)]) /\
    ∀base:ki,(K w.params).In base->base.Ns mainGlobals mg->(∀q∈tabs,base.BuiltinsAt mg q.2)->Av l.prog w (K w.params) mg base (CX w) k fa fd [x] (sp w))
  (hsp:∀(w:i7) (H:Hp) (a:ee) (ns:List Int),ns.9<=n->(∀p∈tabs,H p.2=mn (.tbl #[]))->SqL (K w.params) H a (ns.map V.int)->sp w [.ref a] H (λv _=>v=.bl MK) λ_ _ _=>False)
  (hCX:∀(w:i7) (H:Hp) (s:fz) (e:ft) (s':fz),CX w [] H s (λ_ _ _=>False) e s'->False) :
  FS q loose XP YP l.row.toRowW d [] (λf vs=>EH f vs):=by
 refine _At.attach_call hn hdf λw QN QM mg mb fa o pm cd doc a vs ns G Y ho hd hcd hmg hobj hints hlen hg=>?_;have KX:=hY w _ Y;obtain⟨fd,hb,hF⟩:=F w mg fa _ KX G.T.g hmg;exact pE (hTb w _ Y) (hTK w) G.T.bmain KX G.T.g G.T.b G.T.builtins G.T.nolimit hg hobj hints (iw hlen hn2) hr hF hb (λH hO hS=>hsp w H a ns hlen hO hS) λH e s'=>hCX w H QM e s'
open Builtin.Str (occurrences partsBetween)
end _L
end
section
namespace _L
open PySem PySem.Spec PyProof.Rows
open PySem.W
def GD (K:HH)(x:Str)(st:jr):Prop:=∃(f:ee) (fd:ky),Fun K x x st f fd/\nsIn K mainGlobals x=mn (mn (.ref f))
def MD (K:HH)(C:ee)(x q:Str)(st:jr):Prop:=∃(f:ee) (fd:ky),Fun K x q st f fd/\findIn K (.ref C) x=mn (mn (.ref f))/\isFn K (.ref f)=MK
def BD (K:HH)(C:ee)(x q:Str)(st:jr):Prop:=∃(f:ee) (fd:ky),Fun K x q st f fd/\findCls K (.ref C) (.type "type") x=mn (.val (.ref f))
structure CD (K:HH) (C:ee) (x:Str):Prop where
 a:nsIn K mainGlobals x=mn (mn (.ref C))
 ma:makesIn K C=MK
 kc:keepIn K (.ref C)=MK
structure BC (K:HH) (C:ee) (x:Str):Prop where
 a:nsIn K mainGlobals x=mn (mn (.ref C))
 bg:specialIn K (.ref C) "__getattribute__"=mn (mn (.builtin "type.__getattribute__"))
 br:readsIn K C (.type "type")=MK
def noB:Option (Za7)->Bool
 |some tp=>MK
 |_=>ML
structure FD (K:HH) (C:ee) (fs:Za6):Prop where
 cl:Cls K C
 al:(fs.all λf=>noB (findIn K (.ref C) f))=MK
section
variable {P:gu} {w:i7} {K:HH} {mg:Za2} {base h:ki} {x q:Str} {st:jr} {f C:ee} {oc:ft} {od an:Option ee} {osl:Array (Za7)} {kV doc pm cdv ct:ft} {fs ps:Za6} {k:Nat} {sp:Sp}
theorem gD (a:nsIn K mainGlobals x=mn (mn (.ref f)))(l:K.lookup f=mn {oc,od,.func (fnOf x x (B3 st) (Br st) (Ad st) .none kV doc pm an cdv ct),osl})(c:codeIn K cdv x=MK)(k:keepIn K (.ref f)=MK):GD K x st:={f,_,pO l c k,a}
theorem mD (a:findIn K (.ref C) x=mn (mn (.ref f)))(i:isFn K (.ref f)=MK)(l:K.lookup f=mn {oc,od,.func (fnOf x q (B3 st) (Br st) (Ad st) .none kV doc pm an cdv ct),osl})(c:codeIn K cdv q=MK)(k:keepIn K (.ref f)=MK):MD K C x q st:={f,_,pO l c k,a,i}
theorem bD (a:findCls K (.ref C) (.type "type") x=mn (.val (.ref f)))(l:K.lookup f=mn {oc,od,.func (fnOf x q (B3 st) (Br st) (Ad st) .none kV doc pm an cdv ct),osl})(c:codeIn K cdv q=MK)(k:keepIn K (.ref f)=MK):BD K C x q st:={f,_,pO l c k,a}
theorem fD (pg:plainGet K C z6=MK)(hd:hasDictIn K C=MK)(po:plainOver K C=MK)(sa:findIn K (.ref C) "__setattr__"=mn (mn (.builtin "object.__setattr__")))(al:(fs.all λf=>noB (findIn K (.ref C) f))=MK):FD K C fs:={⟨pg,hd,po,sa⟩,al}
end
end _L
end
namespace _K
open PySem _L _W
def top (i:Nat):jr:=ji.main.body.getD i (.Pass {0,0,0,0})
abbrev N1:jr:=top 13
abbrev Mb:jr:=top 14
abbrev Lp:jr:=top 15
abbrev Jn:jr:=top 16
abbrev Gu:jr:=top 17
abbrev Re:jr:=top 24
abbrev Gh:jr:=top 25
abbrev Ry:jr:=top 26
abbrev W5:jr:=top 30
abbrev Ru:jr:=top 31
abbrev K7:jr:=top 32
abbrev K9:jr:=top 33
abbrev Lq:jr:=Aw (top 34) 0
abbrev L3:jr:=Aw (top 34) 1
abbrev Kr:jr:=Aw (top 34) 3
abbrev Fx:jr:=Aw (top 34) 5
abbrev K6:jr:=top 38
abbrev Hm:jr:=top 39
abbrev Dn:jr:=top 40
abbrev Jq:jr:=Aw (top 41) 0
abbrev Eu:jr:=Aw (top 41) 6
abbrev Hk:jr:=Aw (top 41) 2
abbrev Dk:jr:=Aw (top 41) 7
abbrev Fi:jr:=Aw (top 41) 8
abbrev Bt:jr:=Aw (top 41) 9
abbrev Es:jr:=Aw (top 41) 10
abbrev F5:jr:=Aw (top 41) 3
abbrev Ja:jr:=top 42
abbrev Jo:jr:=top 69
abbrev L8:jr:=top 70
abbrev Hg:jr:=top 71
abbrev Cd:jr:=Aw (top 72) 0
abbrev Rk:jr:=top 56
abbrev Lo:jr:=top 59
abbrev Dy:jr:=top 60
abbrev Fk:jr:=top 61
abbrev Gn:jr:=top 62
abbrev Ly:jr:=top 63
abbrev Iv:jr:=top 74
abbrev Lw:jr:=top 75
abbrev G2:jr:=Aw (top 76) 19
abbrev Ex:jr:=Aw (top 76) 20
abbrev Ec:jr:=Aw (top 76) 21
abbrev D6:jr:=Aw (top 76) 22
abbrev Gw:jr:=Aw (top 76) 0
abbrev Ck:jr:=Aw (top 76) 3
abbrev K0:jr:=top 44
abbrev Mp:jr:=top 50
abbrev Hv:jr:=Aw (top 46) 0
abbrev Ev:jr:=Aw (top 51) 4
abbrev Gf:jr:=Aw (top 46) 9
abbrev G1:jr:=Aw (top 51) 2
abbrev Ht:jr:=Aw (top 46) 8
abbrev Du:jr:=Aw (top 51) 0
abbrev T2:jr:=top 57
abbrev Lr:jr:=top 58
abbrev Gv:jr:=Aw (top 78) 0
abbrev Jp:jr:=Aw (top 80) 0
abbrev Hu:jr:=Aw (top 78) 3
abbrev F2:jr:=Aw (top 78) 2
abbrev Fh:jr:=top 66
abbrev Hy:jr:=Aw (top 67) 0
abbrev Jk:jr:=Aw (top 67) 2
abbrev Ep:jr:=Aw (top 67) 3
abbrev P7:jr:=top 84
abbrev Dd:jr:=Aw (top 46) 0
abbrev K4:jr:=Aw (top 86) 0
abbrev Gp:jr:=top 85
abbrev B2:jr:=Aw (top 87) 0
abbrev Bf:jr:=Aw (top 87) 5
abbrev Bi:jr:=Aw (top 87) 7
abbrev Df:jr:=Aw (top 87) 1
abbrev Dc:jr:=Aw (top 46) 8
abbrev Dr:jr:=Aw (top 78) 0
abbrev Eb:jr:=Aw (top 78) 3
abbrev C7:jr:=Aw (top 78) 2
abbrev Jh:jr:=Aw (top 89) 0
abbrev F4:jr:=top 3
abbrev K2:jr:=top 2
abbrev Jl:jr:=top 91
abbrev Ml:jr:=top 92
abbrev Lu:jr:=top 93
abbrev Mf:jr:=top 94
abbrev F3:jr:=top 95
abbrev N3:jr:=top 96
abbrev Nw:jr:=top 97
abbrev P0:jr:=top 98
abbrev Kk:jr:=top 99
abbrev L9:jr:=top 100
abbrev Yy:jr:=top 101
abbrev F6:Pos:={207,55,207,110}
abbrev Lg:Pos:={446,42,446,61}
abbrev E8:Pos:={897,52,897,98}
abbrev Fq:Pos:={903,52,903,95}
def tD:List V:=[.str "0000",.str "1000",.str "0100",.str "1100",.str "0010",.str "1010",.str "0110",.str "1110",.str "0001",.str "1001",.str "0101",.str "1101",.str "0011",.str "1011",.str "0111",.str "1111"]
structure Tb where
 P:ee
 pos:Pos
 qual:Str
def Tb.ok (t:Tb)(H:Hp):Prop:=Mj H t.P t.pos t.qual
def Tbs (ts:List Tb)(H:Hp):Prop:=(∀t∈ts,t.ok H)/\(ts.map (·.P)).Nodup
inductive rW (K:d5)(ts:List Tb)(vs:List V)(H:Hp)(Q:VK)(E:XK):Prop|mk(a:ee)(ns:List Int)(_:vs=[.ref a])(_:SqL K H a (ns.map V.int))(_:ns.9<=63)(_:Tbs ts H)(_:∀H',Q (.bl MK) H')
abbrev tz:List Tb:=[{406,F6,"Counts.block_with.<locals>.<lambda>"},{758,Lg,"level_order.<locals>.<lambda>"},{1538,E8,"PiecedRow.stretch_at.<locals>.<lambda>"},{1552,Fq,"PiecedRow.pieces_to.<locals>.<lambda>"}]
abbrev AllMk:Prop:=∀{l:zf} {w:i7} {K:d5} {h:ki} {mg:Za2} {fa:ee} (X:K.In h) (G:h.Ns mainGlobals mg) (hfa:mg "law"=mn (.ref fa))
  {ab aa ar ah ae ap am ag ad ao aV aW:ee}
  {f24:ee} {ai9 aj0:Option ee} {aj1:Array (Za7)} {aj2 aj3 aj4 aj5 aj6:ft}
  {ah8:Obj}
  {f31:ee} {aj7 ah9:Option ee} {aj8:Array (Za7)} {aj9 ai0 ai1 ai2 ag8 ai3:ft}
  {T31:ee} {ai4:Obj} {ai5:ft} {ak0:Nat}
  {f34:ee} {ak1 ak2:Option ee} {ak3:Array (Za7)} {ak4 ak5 ak6 ak7 ak8:ft}
  {ai6:Obj}
  {f69:ee} {ak9 al0:Option ee} {al1:Array (Za7)} {al2 al3 al4 al5 al6:ft}
  {ai7:Obj}
  {f70:ee} {al7 al8:Option ee} {al9:Array (Za7)} {am0 am1 am2 am3 am4:ft}
  {ai8:Obj}
  {ax:ee} {aa5:Obj} {aa6:Array ft} {ac7:Nat}
  {az:ee} {aa3:Obj} {aa4:Array ft} {ac3:Nat}
  {ae8 ae9 ae1 ae3 af0 ac8 ad7 ae4 ac9 af1 ae2:Tok}
  (af2:CD K ab "Bits")
  (ad4:FD K ab ["length","many_ones","kept_words"])
  (ad8:CD K aa "Counts")
  (ac0:FD K aa ["length","kept_words","kept_table"])
  (aa2:CD K ar "Shortcuts")
  (aa7:FD K ar ["onward","leaps"])
  (ad1:CD K ah "Levelled")
  (aa0:FD K ah ["knots","bits","counts","places","begins","level_count","widest_level","leaps"])
  (ae5:CD K ae "Pairs")
  (ab9:FD K ae ["bits","counts","length","kept_table","often_least"])
  (ad9:CD K ap "Opened")
  (ad3:FD K ap ["pairs"])
  (ad5:CD K am "Counted")
  (ab8:FD K am ["knots","pairs","marks"])
  (ae6:CD K ag "Piece")
  (ac1:FD K ag ["signs","kept_sums","greatest","often_least"])
  (ac4:CD K ad "PiecedRow")
  (aa1:FD K ad ["kept_pieces","begins","knots_ahead","length","kept_table","often_least"])
  (ae0:CD K ao "Shaped")
  (ac6:FD K ao ["pairs","earlier"])
  (ad0:BC K aV "Heights")
  (ac2:BC K aW "Openings")
  (g0:GD K "is_whole" N1)
  (g1:GD K "is_within" Mb)
  (g2:GD K "check_bit" Lp)
  (g3:GD K "check_place" Jn)
  (g4:GD K "check_stretch" Gu)
  (g5:GD K "ones_in" Re)
  (g6:GD K "nth_of_four" Gh)
  (g7:GD K "nth_one" Ry)
  (g8:GD K "is_row" W5)
  (g9:GD K "word_of" Ru)
  (g10:GD K "words_of" K7)
  (g11:GD K "signs_of" K9)
  (g12:MD K ab "__init__" "Bits.__init__" Lq)
  (g13:MD K ab "size" "Bits.size" L3)
  (g14:MD K ab "words" "Bits.words" Kr)
  (g15:MD K ab "stretch" "Bits.stretch" Fx)
  (g16:GD K "first_that" K6)
  (g17:GD K "running_sums" Hm)
  (g18:GD K "table_of_words" Dn)
  (g19:MD K aa "__init__" "Counts.__init__" Jq)
  (g20:MD K aa "ones_ahead" "Counts.ones_ahead" Eu)
  (g21:MD K aa "ahead" "Counts.ahead" Hk)
  (g22:MD K aa "ahead_of_block" "Counts.ahead_of_block" Dk)
  (g23:MD K aa "many_like" "Counts.many_like" Fi)
  (i24:sk K (.ref f24)=MK)
  (a24:lu K (.ref aa) "block_with"=mn (mn (.ref f24))) (l24:K.lookup f24=mn {aj2,ai9,.func (j2 "block_with" "Counts.block_with" (B3 Bt) (Br Bt) (Ad Bt) .none aj3 aj4 aj5 aj0 (.ref 410) aj6),aj1}) (c24:ml K (.ref 410) "Counts.block_with"=MK) (k24:lp K (.ref f24)=MK)
  (ag9:K.lookup 410=mn ah8) (ah0:Ir ah8 410 406)
  (g25:MD K aa "place_from" "Counts.place_from" Es)
  (g26:MD K aa "place_of" "Counts.place_of" F5)
  (g27:GD K "begins_of" Ja)
  (g28:GD K "check_order" Jo)
  (g29:GD K "rounds_of" L8)
  (g30:GD K "shortcuts_of" Hg)
  (i31:sk K (.ref f31)=MK)
  (a31:lu K (.ref ar) "__init__"=mn (mn (.ref f31))) (l31:K.lookup f31=mn {aj9,aj7,.func (j2 "__init__" "Shortcuts.__init__" (B3 Cd) (Br Cd) (Ad Cd) (.ref T31) ai0 ai1 ai2 ah9 ag8 ai3),aj8}) (c31:ml K ag8 "Shortcuts.__init__"=MK) (k31:lp K (.ref f31)=MK)
  (ag6:K.lookup T31=mn ai4) (ag7:ai4.data=.seq #[ai5] ak0)
  (ah1:Bh (.int 16) ai5)
  (g32:GD K "look_at" Rk)
  (g33:GD K "depths_of" Lo)
  (a34:je K mainGlobals "level_order"=mn (mn (.ref f34))) (l34:K.lookup f34=mn {ak4,ak1,.func (j2 "level_order" "level_order" (B3 Dy) (Br Dy) (Ad Dy) .none ak5 ak6 ak7 ak2 (.ref 762) ak8),ak3}) (c34:ml K (.ref 762) "level_order"=MK) (k34:lp K (.ref f34)=MK)
  (ah2:K.lookup 762=mn ai6) (ah3:Ir ai6 762 758)
  (g35:GD K "children_counted" Fk)
  (g36:GD K "counted_row" Gn)
  (g37:GD K "thin_rest" Ly)
  (g38:GD K "level_row" Iv)
  (g39:GD K "widest_of" Lw)
  (g40:MD K ah "down" "Levelled.down" G2)
  (g41:MD K ah "far_down" "Levelled.far_down" Ex)
  (g42:MD K ah "left_below" "Levelled.left_below" Ec)
  (g43:MD K ah "mark_leaps" "Levelled.mark_leaps" D6)
  (g44:MD K ah "__init__" "Levelled.__init__" Gw)
  (g45:MD K ah "elders" "Levelled.elders" Ck)
  (g46:GD K "heights_of" K0)
  (g47:GD K "check_row" Mp)
  (g48:BD K aV "__init__" "Heights.__init__" Hv)
  (g49:MD K ae "opens_ahead" "Pairs.opens_ahead" Ev)
  (g50:MD K ae "height" "Heights.height" Gf)
  (g51:MD K ae "stretch" "Pairs.stretch" G1)
  (g52:MD K ae "text" "Heights.text" Ht)
  (g53:MD K ae "__init__" "Pairs.__init__" Du)
  (g54:GD K "row_of" T2)
  (g55:GD K "elders_of" Lr)
  (g56:BD K aW "__init__" "Openings.__init__" Gv)
  (g57:MD K ap "__init__" "Opened.__init__" Jp)
  (g58:MD K ap "row" "Openings.row" Hu)
  (g59:MD K ap "elders" "Openings.elders" F2)
  (g60:GD K "marked_depths" Fh)
  (g61:MD K am "__init__" "Counted.__init__" Hy)
  (g62:MD K am "row" "Counted.row" Jk)
  (g63:MD K am "elders" "Counted.elders" Ep)
  (g64:GD K "sums_of" P7)
  (g65:BD K aV "__init__" "Heights.__init__" Dd)
  (g66:MD K ag "__init__" "Piece.__init__" K4)
  (g67:GD K "pieces_of" Gp)
  (g68:MD K ad "__init__" "PiecedRow.__init__" B2)
  (i69:sk K (.ref f69)=MK)
  (a69:lu K (.ref ad) "stretch_at"=mn (mn (.ref f69))) (l69:K.lookup f69=mn {al2,ak9,.func (j2 "stretch_at" "PiecedRow.stretch_at" (B3 Bf) (Br Bf) (Ad Bf) .none al3 al4 al5 al0 (.ref 1542) al6),al1}) (c69:ml K (.ref 1542) "PiecedRow.stretch_at"=MK) (k69:lp K (.ref f69)=MK)
  (ah4:K.lookup 1542=mn ai7) (ah5:Ir ai7 1542 1538)
  (i70:sk K (.ref f70)=MK)
  (a70:lu K (.ref ad) "pieces_to"=mn (mn (.ref f70))) (l70:K.lookup f70=mn {am0,al7,.func (j2 "pieces_to" "PiecedRow.pieces_to" (B3 Bi) (Br Bi) (Ad Bi) .none am1 am2 am3 al8 (.ref 1556) am4),al9}) (c70:ml K (.ref 1556) "PiecedRow.pieces_to"=MK) (k70:lp K (.ref f70)=MK)
  (ah6:K.lookup 1556=mn ai8) (ah7:Ir ai8 1556 1552)
  (g71:MD K ad "stretch" "PiecedRow.stretch" Df)
  (g72:MD K ad "text" "Heights.text" Dc)
  (g73:BD K aW "__init__" "Openings.__init__" Dr)
  (g74:MD K ao "row" "Openings.row" Eb)
  (g75:MD K ao "elders" "Openings.elders" C7)
  (g76:MD K ao "__init__" "Shaped.__init__" Jh)
  (g77:GD K "first_unlike" F4)
  (g78:GD K "same_shape" K2)
  (g79:GD K "_law_cell_at" Jl)
  (g80:GD K "_law_twice" Ml)
  (g81:GD K "_law_grown" Lu)
  (g82:GD K "_law_drawn" Mf)
  (g83:GD K "_law_repeated" F3)
  (g84:GD K "_law_wood" N3)
  (g85:GD K "_law_made" Nw)
  (g86:GD K "_law_way" P0)
  (g87:GD K "_law_second" Kk)
  (g88:GD K "_law_first" L9)
  (g89:GD K "law" Yy)
  (cZ:je K mainGlobals "ONES_OF_FOUR"=mn (mn (.ref ax))) (ab3:K.lookup ax=mn aa5) (ab4:aa5.cls=.type "tuple") (ab5:aa5.data=.seq aa6 ac7) (ab6:aa6.8<=sizeLine) (ab7:A5 (Y9.map λn:Nat=>V.int n) aa6.7)
  (dj:je K mainGlobals "SIGNS_OF_FOUR"=mn (mn (.ref az))) (aa8:K.lookup az=mn aa3) (aa9:aa3.cls=.type "tuple") (ab0:aa3.data=.seq aa4 ac3) (ab1:aa4.8<=sizeLine) (ab2:A5 (tD) aa4.7)
  (cL:je K mainGlobals "WORD_BITS"=mn (mn (.int 32 ae8)))
  (di:je K mainGlobals "MOST_BITS"=mn (mn (.int 20000 ae9)))
  (cP:je K mainGlobals "BLOCK_WORDS"=mn (mn (.int 8 ae1)))
  (dv:je K mainGlobals "BLOCK_BITS"=mn (mn (.int 256 ae3)))
  (dn:je K mainGlobals "FULL_WORD"=mn (mn (.int 4294967295 af0)))
  (dg:je K mainGlobals "MOST_SIGNS_pairs"=mn (mn (.int 8192 ac8)))
  (cY:je K mainGlobals "STRETCH_BITS"=mn (mn (.int 256 ad7)))
  (dw:je K mainGlobals "MOST_KNOTS"=mn (mn (.int 4000 ae4)))
  (du:je K mainGlobals "MOST_SIGNS_woods"=mn (mn (.int 8000 ac9)))
  (cN:je K mainGlobals "MARK_STEP"=mn (mn (.int 16 af1)))
  (df:je K mainGlobals "PIECE_SIGNS"=mn (mn (.int 128 ae2)))
  (af3:je K mainGlobals "range"=mn tp)
  (af8:je K mainGlobals "len"=mn tp)
  (af9:je K mainGlobals "int"=mn tp)
  (af5:je K mainGlobals "bool"=mn tp)
  (ag0:je K mainGlobals "str"=mn tp)
  (ac5:je K mainGlobals "isinstance"=mn tp)
  (af6:je K mainGlobals "list"=mn tp)
  (af4:je K mainGlobals "tuple"=mn tp)
  (af7:je K mainGlobals "dict"=mn tp)
  (ad2:je K mainGlobals "enumerate"=mn tp)
  (ag1:je K mainGlobals "zip"=mn tp)
  (ag2:je K mainGlobals "sum"=mn tp)
  (ag3:je K mainGlobals "abs"=mn tp)
  (ag4:je K mainGlobals "max"=mn tp)
  (ag5:je K mainGlobals "min"=mn tp)
  (ae7:je K mainGlobals "sorted"=mn tp)
  (ad6:je K mainGlobals "reversed"=mn tp),
   ∃fd:ky,(∀(s:fz) (v:ft),DF s fd {[v],[]} [("_law_script",v)])/\∀base:ki,K.In base->base.Ns mainGlobals mg->(∀q∈([(410,406),(762,758),(1542,1538),(1556,1552)]:List (ee×ee)),base.BuiltinsAt mg q.2)->Av l.prog w K mg base CX0 12 fa fd ["_law_script"] (rW K tz)
theorem walk {l:zf}{q:gu}{loose:Za6}{XP:(Za2)->ki->Prop}{YP:i7->ki->Prop}{d:KR}{K:BS->d5}(hn:l.most=mn 63)(hdf:d.params.defaults=[])
  (hY:∀(w:i7) (h:ki),YP w h->(K w.params).In h)(hTb:∀(w:i7) (h:ki),YP w h->z7 [(410,406),(762,758),(1542,1538),(1556,1552)] h)(hTK:∀w:i7,∀p∈([(410,406),(762,758),(1542,1538),(1556,1552)]:List (ee×ee)),(K w.params).lookup p.2=tp)
  (F:∀(w:i7) (mg:Za2) (fa:ee) (h:ki),(K w.params).In h->h.Ns mainGlobals mg->mg d.name=mn (.ref fa) ->
   ∃fd:ky,(∀(s:fz) (u:ft),DF s fd {[u],[]} [("_law_script",u)])/\∀base:ki,(K w.params).In base->base.Ns mainGlobals mg->(∀q∈([(410,406),(762,758),(1542,1538),(1556,1552)]:List (ee×ee)),base.BuiltinsAt mg q.2)->Av l.prog w (K w.params) mg base CX0 12 fa fd ["_law_script"] (rW (K w.params) tz)) :
  FS q loose XP YP l.row.toRowW d [] (λf vs=>EH f vs):=
 _L.tQ (n:=63) (k:=12) (x:="_law_script") (tabs:=[(410,406),(762,758),(1542,1538),(1556,1552)]) (CX:=λ_=>CX0) (sp:=λw=>(rW (K w.params) tz)) hn (by decide) hdf {rfl,by decide,by decide} hY hTb hTK F (λ_ _ a ns hl hO hS=>{a,ns,rfl,hS,hl,{kj.mpr {{#[],hO (410,406) (by simp),trivial,.inl rfl},kj.mpr {{#[],hO (762,758) (by simp),trivial,.inl rfl},kj.mpr {{#[],hO (1542,1538) (by simp),trivial,.inl rfl},kj.mpr {{#[],hO (1556,1552) (by simp),trivial,.inl rfl},λ_ h=>nomatch h}}}},by decide},λ_=>rfl}) λ_ _ _ _ _ z=>z
end _K
end
section
set_option hygiene false in
local macro_rules | `(tactic| o_head $H)=>`(tactic| (refine PySem.W.holds_open (q:=HD.VQ) (loose:=HD.loose) (d:=HD.LD) (kwd:=[]) (Xt:=λ_=>true) (XP:=λ_ _=>True) (Yf:=CI $H) (Ya:=CH $H) (YP:=JF $H) (N:=100000) (HD.left_of3 (p:=ji) (q:=HD.VQ) (loose:=HD.loose) (Yf:=CI $H) (Ya:=CH $H) (N:=100000) (M:=100000) (by kernel_rfl) (λ_=>by kernel_rfl) (by kernel_rfl) (by kernel_rfl) HD.A_ok HD.B_ok (HD.hC_km (λw=>by rw [HD.oneP_eq];kernel_rfl))) (JG $H) (JH $H) (λ_ _=>trivial) (λ_ _ _ _ _=>trivial) (by kernel_rfl) (by kernel_rfl) (by kernel_rfl) (λ_ _=>PySem.W.recFacts_nil rfl) rfl (by assumption) (by decide +kernel) ⟨rfl,rfl,rfl,rfl,rfl,by decide +kernel⟩ ?_ ?_))
open PySem PySem.W PyProof.Rows
set_option maxRecDepth 100000 in
set_option maxHeartbeats 0 in
theorem _K.HEAD (AM:_K.AllMk):p7.Holds:=by
 w_on;o_law;k_head
 ·w_witness2
 k_fill
 refine _K.walk (l:=p7) rfl (by kernel_rfl) (λw h Y=>AH Y) (λw h Y=>kj.mpr ⟨⟨yp (c:=410) (P:=406) (AH Y) (by kernel_rfl),z0 Y 406 (by simp)⟩,kj.mpr ⟨⟨yp (c:=762) (P:=758) (AH Y) (by kernel_rfl),z0 Y 758 (by simp)⟩,kj.mpr ⟨⟨yp (c:=1542) (P:=1538) (AH Y) (by kernel_rfl),z0 Y 1538 (by simp)⟩,kj.mpr ⟨⟨yp (c:=1556) (P:=1552) (AH Y) (by kernel_rfl),z0 Y 1552 (by simp)⟩,λ_ h=>nomatch h⟩⟩⟩⟩) (λw=>kj.mpr ⟨by kernel_rfl,kj.mpr ⟨by kernel_rfl,kj.mpr ⟨by kernel_rfl,kj.mpr ⟨by kernel_rfl,λ_ h=>nomatch h⟩⟩⟩⟩) ?F
 case F=>
  intro w mg fa h KX G hmg;refine' AM KX G hmg ?af2 ?ad4 ?ad8 ?ac0 ?aa2 ?aa7 ?ad1 ?aa0 ?ae5 ?ab9 ?ad9 ?ad3 ?ad5 ?ab8 ?ae6 ?ac1 ?ac4 ?aa1 ?ae0 ?ac6 ?ad0 ?ac2 ?g0 ?g1 ?g2 ?g3 ?g4 ?g5 ?g6 ?g7 ?g8 ?g9 ?g10 ?g11 ?g12 ?g13 ?g14 ?g15 ?g16 ?g17 ?g18 ?g19 ?g20 ?g21 ?g22 ?g23 ?i24 ?a24 ?l24 ?c24 ?k24 ?ag9 ?ah0 ?g25 ?g26 ?g27 ?g28 ?g29 ?g30 ?i31 ?a31 ?l31 ?c31 ?k31 ?ag6 ?ag7 ?ah1 ?g32 ?g33 ?a34 ?l34 ?c34 ?k34 ?ah2 ?ah3 ?g35 ?g36 ?g37 ?g38 ?g39 ?g40 ?g41 ?g42 ?g43 ?g44 ?g45 ?g46 ?g47 ?g48 ?g49 ?g50 ?g51 ?g52 ?g53 ?g54 ?g55 ?g56 ?g57 ?g58 ?g59 ?g60 ?g61 ?g62 ?g63 ?g64 ?g65 ?g66 ?g67 ?g68 ?i69 ?a69 ?l69 ?c69 ?k69 ?ah4 ?ah5 ?i70 ?a70 ?l70 ?c70 ?k70 ?ah6 ?ah7 ?g71 ?g72 ?g73 ?g74 ?g75 ?g76 ?g77 ?g78 ?g79 ?g80 ?g81 ?g82 ?g83 ?g84 ?g85 ?g86 ?g87 ?g88 ?g89 ?cZ ?ab3 ?ab4 ?ab5 ?ab6 ?ab7 ?dj ?aa8 ?aa9 ?ab0 ?ab1 ?ab2 ?cL ?di ?cP ?dv ?dn ?dg ?cY ?dw ?du ?cN ?df ?af3 ?af8 ?af9 ?af5 ?ag0 ?ac5 ?af6 ?af4 ?af7 ?ad2 ?ag1 ?ag2 ?ag3 ?ag4 ?ag5 ?ae7 ?ad6
  (case af2|ad8|aa2|ad1|ae5|ad9|ad5|ae6|ac4|ae0|ad0|ac2=>refine' ⟨?_,?_,?_⟩<;>try k_is)
  (case ad4|ac0|aa7|aa0|ab9|ad3|ab8|ac1|aa1|ac6=>refine' _L.fD ?_ ?_ ?_ ?_ ?_<;>try first|k_is|kernel_rfl)
  (case g0|g1|g2|g3|g4|g5|g6|g7|g8|g9|g10|g11|g16|g17|g18|g27|g28|g29|g30|g32|g33|g35|g36|g37|g38|g39|g46|g47|g54|g55|g60|g64|g67|g77|g78|g79|g80|g81|g82|g83|g84|g85|g86|g87|g88|g89=>as_aux_lemma=>(refine' _L.gD ?_ ?_ ?_ ?_<;>try k_is))
  (case g12|g13|g14|g15|g19|g20|g21|g22|g23|g25|g26|g40|g41|g42|g43|g44|g45|g49|g50|g51|g52|g53|g57|g58|g59|g61|g62|g63|g66|g68|g71|g72|g74|g75|g76=>as_aux_lemma=>(refine' _L.mD ?_ ?_ ?_ ?_ ?_<;>try k_is))
  (case g48|g56|g65|g73=>as_aux_lemma=>(refine' _L.bD ?_ ?_ ?_ ?_<;>try k_is))
  (case cL|di|cP|dv|dn|dg|cY|dw|du|cN|df|af3|af8|af9|af5|ag0|ac5|af6|af4|af7|ad2|ag1|ag2|ag3|ag4|ag5|ae7|ad6|a24|l24|c24|k24|i24|ag9=>k_is)
  (case ah0=>exact⟨_,_,_,_,_,_,_,_,rfl,rfl,rfl,rfl,rfl,rfl,rfl,rfl,by decide⟩)
  (case a31|l31|c31|k31|i31|ag6=>k_is)
  (case ag7=>rfl)
  (case ah1=>exact⟨_,rfl⟩)
  (case a34|l34|c34|k34|ah2=>k_is)
  (case ah3=>exact⟨_,_,_,_,_,_,_,_,rfl,rfl,rfl,rfl,rfl,rfl,rfl,rfl,by decide⟩)
  (case a69|l69|c69|k69|i69|ah4=>k_is)
  (case ah5=>exact⟨_,_,_,_,_,_,_,_,rfl,rfl,rfl,rfl,rfl,rfl,rfl,rfl,by decide⟩)
  (case a70|l70|c70|k70|i70|ah6=>k_is)
  (case ah7=>exact⟨_,_,_,_,_,_,_,_,rfl,rfl,rfl,rfl,rfl,rfl,rfl,rfl,by decide⟩)
  (case cZ|ab3=>k_is)
  (case ab4=>rfl);(case ab5=>rfl);(case ab6=>decide);(case ab7=>repeat (first|exact .nil|refine .cons ⟨_,rfl⟩ ?_))
  (case dj|aa8=>k_is)
  (case aa9=>rfl);(case ab0=>rfl);(case ab1=>decide);(case ab2=>repeat (first|exact .nil|refine .cons ⟨_,rfl⟩ ?_))
end
section
set_option hygiene false in
local macro_rules | `(tactic| k_in)=>`(tactic| intro pins s G H Q I h)
set_option hygiene false in
local macro_rules | `(tactic| k_end)=>`(tactic| intro pins s G H D I h)
local macro_rules | `(tactic| k_cls)=>`(tactic| (constructor<;>first | rfl | decide +kernel))
namespace _L
open PySem PySem.Spec PyProof.Rows
variable {C CB CC CL CP CS Pt dx i1 i2 it l1 l2 z:ee} {params:pq} {A:jp} {items:Array ft} {op:x9} {X:Cx} {D:Jm} {env:Env} {tg:jk} {fd:ky} {base h h':ki} {H H' H1 H2:Hp} {J:It} {pins:Za1} {fp:List ee} {es:List jk} {kz ns:List Int} {l0:List gw} {cs ix:Za4} {N QQ ps:Za6} {xs ys:List V} {us vs:Za3} {M:yu} {n t':Nat} {oT:Obj} {an od:Option ee} {lpos pos:Pos} {B:Prop} {sc scope QP:qh} {pl:Sem Bool} {s:fz} {sp:Sp} {qual:Str} {te to:TE} {wi:TI} {y:V} {cdv ct doc oc pm:ft} {w:i7}
theorem uX (i:Int)(t:Tok):Ye (.inl i) (.int i t)=MK:=by simp[Ye,HR]
theorem uE (x:Str)(t:Tok):Ye (.inr x) (.str x t)=MK:=by simp[Ye,GP]
theorem Ik (prog:gu)(w:i7)(i:Int)(t:Tok):(Bu prog w).is (.inl i) (.int i t)=MK:=uX i t
theorem lM (prog:gu)(w:i7)(x:Str)(t:Tok):(Bu prog w).is (.inr x) (.str x t)=MK:=uE x t
theorem A5.length (r:A5 xs us):xs.9=us.9:=GK r
theorem A5.get:∀{xs:List V} {us:Za3} {i:Nat} {x:V},A5 xs us->xs[i]?=mn x->∃u,us[i]?=mn u/\Bh x u
 |_,_,_,_,.nil,e=>by simp at e
 |_,_,0,_,.cons r _,e=>by simp at e;subst e;exact{_,rfl,r}
 |_,_,i+1,x,.cons _ t,e=>by
  obtain⟨u,h1,h2⟩:=A5.get (i:=i) (x:=x) t (by simpa using e);exact{u,by simpa using h1,h2}
theorem A5.set {x:V}{u:ft}(r:Bh x u):∀{xs:List V} {us:Za3} (i:Nat),A5 xs us->A5 (xs.set i x) (us.set i u)
 |_,_,_,.nil=>.nil
 |_,_,0,.cons _ t=>.cons r t
 |_,_,i+1,.cons q t=>.cons q (A5.set r i t)
theorem A5.append:∀{xs ys:List V} {us ws:Za3},A5 xs us->A5 ys ws->A5 (xs++ys) (us++ws)
 |_,_,_,_,.nil,s=>s
 |_,_,_,_,.cons r t,s=>.cons r (A5.append t s)
theorem A5.take:∀{xs:List V} {us:Za3} (n:Nat),A5 xs us->A5 (xs.take n) (us.take n)
 |_,_,0,_=>.nil
 |_,_,_+1,.nil=>.nil
 |_,_,n+1,.cons r t=>.cons r (A5.take n t)
theorem A5.drop:∀{xs:List V} {us:Za3} (n:Nat),A5 xs us->A5 (xs.drop n) (us.drop n)
 |_,_,0,r=>r
 |_,_,_+1,.nil=>.nil
 |_,_,n+1,.cons _ t=>A5.drop n t
def upd (H:Hp)(a:ee)(o:HO):Hp:=λb=>if b=a then mn o else H b
theorem Ac {H:Hp}{a:ee}{o:HO}:upd H a o a=mn o:=by unfold upd;rw[if_pos rfl]
theorem Al {a b:ee}{o:HO}(h:b≠a):upd H a o b=H b:=by unfold upd;rw[if_neg h]
theorem Kt {a:ee}{o u:HO}:upd (upd H a o) a u=upd H a u:=by
 funext b;unfold upd;split<;>rfl
theorem Ey {a b:ee}{o u:HO}(h:H a=mn o)(h':H b=mn u)(d:o≠u):a≠b:=by
 intro e;subst e;rw[h] at h';exact d (fc h')
theorem Am {a b:ee}{o:HO}(h:H a=mn o)(h':H b=tp):a≠b:=by
 intro e;subst e;rw[h] at h';cases h'
section
variable {P:gu} {w:i7} {H H':Hp} {h h':ki} {a:ee} {o:HO}
theorem De.lt (x:De P w H h a o):a<h.objs.8:=by
 cases o with
 |lst xs=>obtain⟨_,_,_,_,e⟩:=x;exact gd e
 |tup xs=>obtain⟨_,_,_,p⟩:=x;exact p.lt
 |dK kvs=>obtain⟨_,_,_,_,o,_,_,e,_⟩:=x;exact gd e
 |dT kvs=>obtain⟨_,_,_,_,o,_,_,e,_⟩:=x;exact gd e
 |set S n=>obtain⟨o,_,_,_,e,_⟩:=x;exact gd e
 |ins C dx fs=>obtain⟨_,_,_,e,_⟩:=x;exact gd e
 |own y=>obtain⟨_,e⟩:=x;exact gd e
 |xd fs=>obtain⟨_,⟨_,_,_,e,_⟩,_⟩:=x;exact gd e
 |rng lo hi=>obtain⟨_,_,_,e⟩:=x;exact gd e
 |frz ob u=>obtain⟨e,_⟩:=x;exact gd e
 |tbl ps=>exact gd (show h.get? a=mn _ from x)
 |met f y=>exact gd (show h.get? a=mn _ from x)
 |ext φ=>obtain⟨_,⟨_,e⟩,_⟩:=x;exact gd e
theorem BU.mapP {α β:Type}{F G:α->β->Prop}:∀{XG:List α} {XH:List β},BU F XG XH->(∀a b,F a b->G a b)->BU G XG XH
 |_,_,.nil,_=>.nil
 |_,_,.cons r t,f=>.cons (f _ _ r) (BU.mapP t f)
theorem De.stay (x:De P w H h a o)(k:∀b u,(b=a\/H b=mn (.own a))->h.get? b=mn u->h'.get? b=mn u)
  (ho:∀b,H b=mn (.own a)->H' b=mn (.own a))(ht:∀b xs,H b=mn (.tup xs)->H' b=mn (.tup xs)):De P w H' h' a o:=by
 induction o with
 |lst xs=>obtain⟨z,its,n,r,e⟩:=x;exact{z,its,n,r,k _ _ (.inl rfl) e}
 |tup xs=>obtain⟨z,its,r,ob,e,c⟩:=x;exact{z,its,r,ob,k _ _ (.inl rfl) e,c}
 |dK kvs=>obtain⟨z,y,vs,r,ob,es,ep,e,c⟩:=x;exact{z,y,vs,r,ob,es,ep,k _ _ (.inl rfl) e,c}
 |dT kvs=>
  obtain⟨z,y,xs,r,ob,es,ep,e,c⟩:=x;exact{z,y,xs,BU.mapP r λp q z=>{z.1,ht _ _ z.2.1,z.2.2},ob,es,ep,k _ _ (.inl rfl) e,c}
 |set S n=>obtain⟨ob,es,ep,t,e,c⟩:=x;exact{ob,es,ep,t,k _ _ (.inl rfl) e,c}
 |ins C dx fs=>
  obtain⟨d,z,ne,e,mA,⟨od,es,ep,e2,c⟩,r⟩:=x;exact{ho _ d,z,ne,k _ _ (.inl rfl) e,mA,{od,es,ep,k _ _ (.inr d) e2,c},r}
 |own y=>obtain⟨ob,e⟩:=x;exact{ob,k _ _ (.inl rfl) e}
 |xd fs=>obtain⟨mA,⟨od,es,ep,e,c⟩,r⟩:=x;exact{mA,{od,es,ep,k _ _ (.inl rfl) e,c},r}
 |rng lo hi=>obtain⟨t,u,v,e⟩:=x;exact{t,u,v,k _ _ (.inl rfl) e}
 |frz ob u ih=>obtain⟨e,q⟩:=x;exact{k _ _ (.inl rfl) e,ih q}
 |tbl ps=>
  have e:h.get? a=mn { cls:=.none,data:=.fields ps }:=x;show h'.get? a=mn { cls:=.none,data:=.fields ps };exact k a _ (.inl rfl) e
 |met f y=>
  have e:h.get? a=mn (yb (.ref f) (.ref y)):=x;show h'.get? a=mn (yb (.ref f) (.ref y));exact k a _ (.inl rfl) e
 |ext φ=>obtain⟨p,⟨o,e⟩,st⟩:=x;exact{st _ _ p λo q=>k _ _ (.inl rfl) q,{o,k _ _ (.inl rfl) e},st}
theorem HOk.lt (x:HOk P w H h)(e:H a=mn o):a<h.objs.8:=(x a o e).lt
theorem HOk.fresh (x:HOk P w H h)(e:h.objs.8<=a):H a=tp:=by
 cases q:H a with
 |none=>rfl
 |some u=>exact absurd (gq (x.lt q) e) (o7 _)
theorem HOk.kept (x:HOk P w H h)(k:∀b u,h.get? b=mn u->h'.get? b=mn u):HOk P w H h':=λa o e=>
 (x a o e).stay (λb u _ q=>k b u q) (λ_ q=>q) λ_ _ q=>q
theorem HOk.laid (x:HOk P w H h)(k:∀b u,h.get? b=mn u->h'.get? b=mn u)(hp:h.objs.8<=a)(new:De P w (upd H a o) h' a o):HOk P w (upd H a o) h':=λb u e=>by
 have hn:=x.fresh hp
 by_cases hb:b=a
 .subst hb;rw[Ac] at e;cases e;exact new
 .rw[Al hb] at e
  exact(x b u e).stay (λc v _ q=>k c v q) (λc q=>by rw[Al (Am q hn)];exact q) λc xs q=>by rw[Al (Am q hn)];exact q
end
theorem Rd.ok {P:gu}{a:ee}{u:HO}(r:Rd H a u)(x:HOk P w H h):De P w H h a u:=by
 rcases r with r|⟨o,r⟩
 .exact x a u r
 .obtain⟨_,q⟩:=x a _ r
  exact q
def Mut:Option HO->Prop
 |some (.lst _)=>True
 |some (.dK _)=>True
 |some (.dT _)=>True
 |some (.set _ _)=>True
 |some (.ins _ _ _)=>True
 |some (.ext _)=>True
 |_=>False
section
variable {P:gu} {w:i7} {H:Hp} {h h':ki} {x e:ee} {o':HO}
theorem HOk.write (ok:HOk P w H h)(mu:Mut (H x))(he:e=x\/H e=mn (.own x))(k:∀b u,b≠e->h.get? b=mn u->h'.get? b=mn u)(heo:∃u,h'.get? e=mn u)
  (new:De P w (upd H x o') h' x o'):HOk P w (upd H x o') h':=λb u q=>by
 have nown:∀c y,H c=mn (.own y)->c≠x:=λc y r z=>by subst z;rw[r] at mu;exact mu
 have ntup:∀c xs,H c=mn (.tup xs)->c≠x:=λc xs r z=>by subst z;rw[r] at mu;exact mu
 by_cases hb:b=x
 .subst hb;rw[Ac] at q;cases q;exact new
 .rw[Al hb] at q
  by_cases hbe:b=e
  .have q':H b=mn (.own x):=by
    rcases he with z|z
    .exact absurd (hbe.trans z) hb
    .rw[hbe];exact z
   rw[q] at q';cases q';obtain⟨v,hv⟩:=heo;exact{v,by rw[hbe];exact hv}
  .refine(ok b u q).stay (λc v hc r=>k c v ?_ r) (λc r=>by rw[Al (nown c b r)];exact r) λc xs r=>by rw[Al (ntup c xs r)];exact r
   rcases hc with rfl|hc
   .exact hbe
   .rintro rfl
    rcases he with z|z
    .exact nown c b hc z
    .rw[hc] at z;cases z;exact hb rfl
end
section
variable {fs fs' ex ex':List ee} {H H1 H2:Hp} {h h1 h2 h':ki} {a x e:ee} {o:HO}
theorem Un.any (u:Un fs ex H H1 h h1){b:ee}{ob:Obj}(q:h.get? b=mn ob)(n:H b=tp)(hx:b∉ex):∃sl,h1.get? b=mn { ob with slots:=sl }:=by
 by_cases hb:b∈fs
 .exact u.slot b ob q n hb hx
 .exact{ob.slots,u.keep b ob q n hb hx}
theorem Un.trans (a:Un fs ex H H1 h h1)(b:Un fs ex H1 H2 h1 h2):Un fs ex H H2 h h2 where
 keep:=λc ob q n hc hx=>b.keep c ob (a.keep c ob q n hc hx) (a.free c ob q n hx) hc hx
 slot:=λc ob q n hc hx=>by
  obtain⟨sl,e1⟩:=a.slot c ob q n hc hx;obtain⟨sl',e2⟩:=b.slot c _ e1 (a.free c ob q n hx) hc hx;exact⟨sl',e2⟩
 free:=λc ob q n hx=>by
  obtain⟨o',e1⟩:=a.there c ob q hx;exact b.free c o' e1 (a.free c ob q n hx) hx
 there:=λc ob q hx=>by
  obtain⟨o',e1⟩:=a.there c ob q hx;exact b.there c o' e1 hx
 tups:=λc xs q=>b.tups c xs (a.tups c xs q)
 frzs:=λc ob xs q=>b.frzs c ob xs (a.frzs c ob xs q)
 tbls:=λc ps q=>by
  obtain⟨m1,e1⟩:=a.tbls c ps q;obtain⟨m2,e2⟩:=b.tbls c _ e1;exact{m1++m2,by rw[e2,ES]}
theorem Un.kept (k:∀b u,h.get? b=mn u->h'.get? b=mn u):Un fs ex H H h h':=
 {λb ob q _ _ _=>k b ob q,λb ob q _ _ _=>{ob.slots,k b ob q},λ_ _ _ n _=>n,λb ob q _=>{ob,k b ob q},λ_ _ q=>q,λ_ _ _ q=>q,λ_ ps q=>{#[],by rw[q];simp}}
theorem Un.refl:Un fs ex H H h h:=Un.kept λ_ _ q=>q
theorem Un.laid (k:∀b u,h.get? b=mn u->h'.get? b=mn u)(hp:h.objs.8<=a)(hn:H a=tp):Un fs ex H (upd H a o) h h' where
 keep:=λb u q _ _ _=>k b u q
 slot:=λb u q _ _ _=>{u.slots,k b u q}
 free:=λb u q n _=>by rw[Al (ip (gq (gd q) hp))];exact n
 there:=λb u q _=>{u,k b u q}
 tups:=λb xs q=>by rw[Al (Am q hn)];exact q
 frzs:=λb u xs q=>by rw[Al (Am q hn)];exact q
 tbls:=λb ps q=>{#[],by rw[Al (Am q hn),q];simp}
theorem Un.write (mu:Mut (H x))(he:e=x\/H e=mn (.own x))(k:∀b u,b≠e->h.get? b=mn u->h'.get? b=mn u)(heo:∃u,h'.get? e=mn u):Un fs ex H (upd H x o) h h':=by
 have hx:∀b,H b=tp->b≠x:=λb n z=>by subst z;rw[n] at mu;exact mu
 have hb:∀b,H b=tp->b≠e:=λb n z=>by
  subst z;rcases he with r|r
  .exact hx b n r
  .rw[n] at r;cases r
 have hm:∀b u,H b=mn u->¬ Mut (mn u)->b≠x:=λb u q nm z=>by subst z;rw[q] at mu;exact nm mu
 refine⟨λb u q n _ _=>k b u (hb b n) q,λb u q n _ _=>{u.slots,k b u (hb b n) q},λb u q n _=>by rw[Al (hx b n)];exact n,λb u q _=>?_,
  λb xs q=>by rw[Al (hm b _ q λz=>z)];exact q,λb u xs q=>by rw[Al (hm b _ q λz=>z)];exact q,λb ps q=>{#[],by rw[Al (hm b _ q λz=>z),q];simp}⟩
 by_cases hbe:b=e
 .subst hbe;exact heo
 .exact{u,k b u hbe q}
end
structure Cx where
 prog:gu
 w:i7
 K:d5
 mg:Za2
 base:ki
 A:jp
 N:Za6
 QN:fz
 QZ:Hp
 env:Env
 outer:List Env
 stack:List Env
 ex:List ee
 fn:Str->Bool
 calm:Bool
 pn:Za1
 xe:Za0
abbrev Cx.fs (X:Cx):List ee:=frs X.outer
def Vis (sc:qh)(x:Str):Prop:=sc.names.lookup x=mn .local\/sc.names.lookup x=mn .cell\/sc.names.lookup x=mn .free
def Loc (sc:qh)(x:Str):Prop:=sc.names.lookup x=mn .local\/sc.names.lookup x=mn .cell
def Aji (env:Env)(h:ki)(m:Za2)(x:Str)(u:ft):Prop:=
 (env.kindOf x=mn .local/\m x=mn u)\/((env.kindOf x=mn .cell\/env.kindOf x=mn .free)/\∃c,env.cells.lookup x=mn c/\h.IsCell c (mn u))
structure Cx.Ok (X:Cx):Prop where
 mod:Mod X.K X.mg X.base
 kind:X.env.scope.kind=.function
 glob:X.env.globals=mainGlobals
 blt:X.env.builtins=builtinsNs
 above:X.QN.heap.objs.8<=X.env.locals
 inj:∀x y c,X.env.cells.lookup x=mn c->X.env.cells.lookup y=mn c->x=y
 has:∀x,(X.env.kindOf x=mn .cell\/X.env.kindOf x=mn .free)->∃c,X.env.cells.lookup x=mn c
 cab:∀x c,X.fn x=MK->X.env.cells.lookup x=mn c->X.QN.heap.objs.8<=c
 hd:X.calm=MK->X.A.handled=tp
 frames:X.A.frames=mn X.stack
 stk:X.stack=X.outer\/(X.stack=X.env::X.outer/\X.env.frame=mn X.env.locals)
 exf:∀b∈X.ex,b≠X.env.locals/\∀x c,X.env.cells.lookup x=mn c->c≠b
 bs:∀b o,X.base.get? b=mn o->X.QN.heap.get? b=mn o/\X.QZ b=tp
 bsz:X.base.objs.8<=X.QN.heap.objs.8
 noex:∀b o,X.base.get? b=mn o->b∉X.ex
 exfs:∀b∈X.ex,b∉X.fs
 funs:X.QN.heap.FunFrames X.base X.outer
 frf:∀b∈X.fs,X.QZ b=tp
structure Inv (X:Cx) (pins:Za1) (G:List (Option V)) (H:Hp) (s:fz):Prop where
 ok:X.Ok
 os:s.os=X.QN.os
 bare:xu s.gens
 base:Un X.fs X.ex X.QZ H X.QN.5 s.5
 loc:∃m,s.heap.Ns X.env.locals m/\∀(i:Nat) (x:Str) (v:V),X.N[i]?=mn x->G[i]?=mn (mn v)->Vis X.env.scope x->∃u,Bh v u/\Aji X.env s.5 m x u
 cell:∀x c,X.env.cells.lookup x=mn c->∃v,s.heap.IsCell c v
 free:H X.env.locals=tp
 freeC:∀x c,X.env.cells.lookup x=mn c->H c=tp
 pin:∀p∈X.pn++pins,s.heap.get? p.1=mn p.2/\H p.1=tp/\p.1≠X.env.locals/\p.1∉X.fs/\∀v,p.2.data≠.cell v
 hok:HOk X.prog X.w H s.5
 len:G.9=X.N.9
section
variable {X:Cx} {pins:Za1} {G:List (Option V)} {H H':Hp} {s:fz} {h':ki}
theorem Cx.Ok.nofr (ok:X.Ok){b:ee}{o:Obj}(e:X.base.get? b=mn o):b∉X.fs:=λhb=>by
 have:=(ok.funs.mem hb).1;rw[e] at this;cases this
theorem Inv.bs (I:Inv X pins G H s):∀b o,X.base.get? b=mn o->s.heap.get? b=mn o/\H b=tp:=λb o e=>
 {I.base.keep b o (I.ok.bs b o e).1 (I.ok.bs b o e).2 (I.ok.nofr e) (I.ok.noex b o e),I.base.free b o (I.ok.bs b o e).1 (I.ok.bs b o e).2 (I.ok.noex b o e)}
theorem Inv.bk (I:Inv X pins G H s):∀b o,X.base.get? b=mn o->s.heap.get? b=mn o:=λb o e=>(I.bs b o e).1
theorem Inv.mod (I:Inv X pins G H s):Mod X.K X.mg X.base:=I.ok.mod
theorem Inv.kIn (I:Inv X pins G H s):X.K.In s.5:=I.ok.mod.kin.keeps I.bk
theorem Inv.fr (I:Inv X pins G H s):∃m,Fr X.base X.env.locals s.5 m:=
 let ⟨m,hn,_⟩:=I.loc
 {m,hn,I.bk,iw I.ok.bsz I.ok.above}
theorem Inv.lt (I:Inv X pins G H s):X.env.locals<s.heap.objs.8:=let ⟨_,hn,_⟩:=I.loc;hn.lt
theorem Inv.sz (I:Inv X pins G H s):X.QN.heap.objs.8<=s.heap.objs.8:=iw I.ok.above (gz I.lt)
theorem Inv.nofs (I:Inv X pins G H s){a:ee}(h:s.heap.objs.8<=a):a∉X.fs:=λhb=>by
 obtain⟨_,o,ho,_⟩:=I.ok.funs.mem hb;exact absurd (gq (gd ho) (iw I.sz h)) (o7 _)
theorem Inv.cne (I:Inv X pins G H s):∀x c,X.env.cells.lookup x=mn c->c≠X.env.locals:=λx c e z=>by
 obtain⟨v,o,ho,hd⟩:=I.cell x c e;obtain⟨m,⟨o',es,ep,ho',hd',_⟩,_⟩:=I.loc;rw[z,ho'] at ho;cases ho;rw[hd'] at hd;cases hd
theorem Inv.funs (I:Inv X pins G H s):s.heap.FunFrames X.base X.outer:=by
 have all:∀(l:List Env),(∀b∈frs l,b∈X.fs)->X.QN.heap.FunFrames X.base l->s.heap.FunFrames X.base l:=by
  intro l
  induction l with
  |nil=>intro _ _;trivial
  |cons env r ih=>
   intro hs hl;obtain⟨hk,⟨L,o,hf,hn,ho,hd⟩,hr⟩:=hl;have hL:L∈X.fs:=hs L (by unfold frs;rw[m9,hf];exact ii);obtain⟨sl,e⟩:=I.base.slot L o ho (I.ok.frf L hL) hL λz=>I.ok.exfs L z hL;exact{hk,{L,_,hf,hn,e,hd},ih (λb hb=>hs b (by unfold frs;rw[m9,hf];exact gn _ hb)) hr}
 exact all X.outer (λ_ hb=>hb) I.ok.funs
theorem Inv.stack (I:Inv X pins G H s):s.heap.FunFrames X.base X.stack:=by
 rcases I.ok.stk with e|⟨e,hf⟩
 .rw[e];exact I.funs
 .rw[e]
  obtain⟨m,hn,_⟩:=I.loc;refine .cons (by rw[I.ok.kind];decide) hf hn ?_ I.funs;exact EB (iw I.ok.bsz I.ok.above)
theorem Inv.stkSub (I:Inv X pins G H s):∀b∈frs X.stack,b∈X.env.locals::X.fs:=λb hb=>by
 rcases I.ok.stk with e|⟨e,hf⟩
 .rw[e] at hb;exact gn _ hb
 .rw[e] at hb
  unfold frs at hb;rw[m9,hf] at hb;exact hb
theorem Inv.stkFree (I:Inv X pins G H s):∀b∈frs X.stack,H b=tp:=λb hb=>by
 rcases jn.mp (I.stkSub b hb) with e|hb
 .rw[e];exact I.free
 .obtain⟨_,o,ho,_⟩:=I.ok.funs.mem hb
  exact I.base.free b o ho (I.ok.frf b hb) λz=>I.ok.exfs b z hb
theorem Inv.step {g':Array KQ}{d':Drawn}{ch:List ee}(I:Inv X pins G H s)
  (hch:∀b∈ch,(b∈X.ex\/X.QN.heap.objs.8<=b)/\b≠X.env.locals/\(∀x c,X.env.cells.lookup x=mn c->c≠b)/\∀p∈X.pn++pins,p.1≠b)
  (keep:∀b o,b≠X.env.locals->b∉X.fs->b∉ch->s.heap.get? b=mn o->H b=tp->h'.get? b=mn o)
  (slot:∀b o,b≠X.env.locals->b∈X.fs->b∉ch->s.heap.get? b=mn o->H b=tp->∃sl,h'.get? b=mn { o with slots:=sl })(free:∀b o,b∉ch->s.heap.get? b=mn o->H b=tp->H' b=tp)
  (there:∀b o,b∉ch->s.heap.get? b=mn o->∃o',h'.get? b=mn o')
  (tups:∀b xs,H b=mn (.tup xs)->H' b=mn (.tup xs))(frzs:∀b o u,H b=mn (.frz o u)->H' b=mn (.frz o u))(tbls:∀b ps,H b=mn (.tbl ps)->∃more,H' b=mn (.tbl (ps++more)))
  (ns:∀m,s.heap.Ns X.env.locals m->h'.Ns X.env.locals m)(hok:HOk X.prog X.w H' h')(hg:xu g') :
  Inv X pins G H' { s with heap:=h',gens:=g',drawn:=d',toks:=t' }:=by
 have neL:∀b o,X.QN.heap.get? b=mn o->b≠X.env.locals:=λb o e=>ip (gq (gd e) I.ok.above);have neC:∀b o,X.QN.heap.get? b=mn o->b∉X.ex->b∉ch:=λb o e hx hb=>by
  rcases(hch b hb).1 with z|z
  .exact hx z
  .exact absurd (gq (gd e) z) (o7 _)
 have cellK:∀x c,X.env.cells.lookup x=mn c->∀v,s.heap.IsCell c v->h'.IsCell c v:=λx c e v ⟨o,ho,hd⟩=>by
  have nch:c∉ch:=λz=>(hch c z).2.2.1 x c e rfl
  by_cases hc:c∈X.fs
  .obtain⟨sl,q⟩:=slot c o (I.cne x c e) hc nch ho (I.freeC x c e)
   exact{_,q,hd}
  .exact{o,keep c o (I.cne x c e) hc nch ho (I.freeC x c e),hd}
 refine{I.ok,I.os,hg,{λb o e n hb hx=>?_,λb o e n hb hx=>?_,λb o e n hx=>?_,λb o e hx=>?_,λb xs e=>tups b xs (I.base.tups b xs e),λb o xs e=>frzs b o xs (I.base.frzs b o xs e),λb ps e=>?_},?_,λx c e=>?_,?_,λx c e=>?_,λp hp=>?_,hok,I.len}
 .exact keep b o (neL b o e) hb (neC b o e hx) (I.base.keep b o e n hb hx) (I.base.free b o e n hx)
 .obtain⟨sl,e1⟩:=I.base.slot b o e n hb hx
  obtain⟨sl',e2⟩:=slot b _ (neL b o e) hb (neC b o e hx) e1 (I.base.free b o e n hx);exact⟨sl',e2⟩
 .obtain⟨o',e1⟩:=I.base.there b o e hx
  exact free b o' (neC b o e hx) e1 (I.base.free b o e n hx)
 .obtain⟨o',e1⟩:=I.base.there b o e hx
  exact there b o' (neC b o e hx) e1
 .obtain⟨m1,e1⟩:=I.base.tbls b ps e
  obtain⟨m2,e2⟩:=tbls b _ e1;exact{m1++m2,by rw[e2,ES]}
 .obtain⟨m,hn,hl⟩:=I.loc
  refine{m,ns m hn,λi x v e1 e2 e3=>?_};obtain⟨u,r,l⟩:=hl i x v e1 e2 e3;refine{u,r,?_};rcases l with l|⟨k,c,e,z⟩
  .exact .inl l
  .exact .inr {k,c,e,cellK x c e _ z}
 .obtain⟨v,z⟩:=I.cell x c e
  exact{v,cellK x c e v z}
 .obtain⟨m,⟨o,_,_,ho,_⟩,_⟩:=I.loc
  exact free _ o (λz=>(hch _ z).2.1 rfl) ho I.free
 .obtain⟨v,o,ho,hd⟩:=I.cell x c e
  exact free c o (λz=>(hch c z).2.2.1 x c e rfl) ho (I.freeC x c e)
 .obtain⟨e,n,ne,nf,d⟩:=I.pin p hp
  have nch:p.1∉ch:=λz=>(hch p.1 z).2.2.2 p hp rfl;exact{keep p.1 p.2 ne nf nch e n,free p.1 p.2 nch e n,ne,nf,d}
theorem Inv.un (I:Inv X pins G H s)(u:Un X.fs [] H H' s.5 h')(hok:HOk X.prog X.w H' h'):Inv X pins G H' { s with heap:=h',toks:=t' }:=by
 obtain⟨m,⟨o,es,ep,ho,r⟩,_⟩:=id I.loc;obtain⟨sl,hL⟩:=u.any ho I.free (by simp);exact I.step (g':=s.gens) (d':=s.drawn) (ch:=[]) (λ_ z=>nomatch z) (λb o _ hb _ e n=>u.keep b o e n hb (by simp)) (λb o _ hb _ e n=>u.slot b o e n hb (by simp)) (λb o _ e n=>u.free b o e n (by simp)) (λb o _ e=>u.there b o e (by simp)) u.tups u.frzs u.tbls (λm' hm=>by
  obtain⟨o',es',ep',ho',r'⟩:=hm;rw[ho] at ho';cases ho';exact{_,es',ep',hL,r'}) hok I.bare
theorem Inv.call {g':Array KQ}{d':Drawn}{ch:List ee}(I:Inv X pins G H s)(u:Un (frs X.stack) ch H H' s.5 h')(hok:HOk X.prog X.w H' h')(hg:xu g')
  (hch:∀b∈ch,(b∈X.ex\/X.QN.heap.objs.8<=b)/\b≠X.env.locals/\(∀x c,X.env.cells.lookup x=mn c->c≠b)/\∀p∈X.pn++pins,p.1≠b) :
  Inv X pins G H' { s with heap:=h',gens:=g',drawn:=d',toks:=t' }:=by
 obtain⟨m,⟨o,es,ep,ho,r⟩,_⟩:=id I.loc;obtain⟨sl,hL⟩:=u.any ho I.free λz=>(hch _ z).2.1 rfl;exact I.step (ch:=ch) hch (λb o hL hb hc e n=>u.keep b o e n (λz=>(jn.mp (I.stkSub b z)).elim hL hb) hc) (λb o _ _ hc e n=>u.any e n hc) (λb o hc e n=>u.free b o e n hc) (λb o hc e=>u.there b o e hc) u.tups u.frzs u.tbls (λm' hm=>by
  obtain⟨o',es',ep',ho',r'⟩:=hm;rw[ho] at ho';cases ho';exact{_,es',ep',hL,r'}) hok hg
theorem Inv.turned (I:Inv X pins G H s)(k:∀b o,b≠it->s.heap.get? b=mn o->h'.get? b=mn o)(hn:H it=tp)(hL:it≠X.env.locals)
  (h1:it∈X.ex\/X.QN.heap.objs.8<=it)(h2:∀x c,X.env.cells.lookup x=mn c->c≠it)(h3:∀p∈X.pn++pins,p.1≠it):Inv X pins G H { s with heap:=h',toks:=t' }:=by
 have nit:∀b u,H b=mn u->b≠it:=λb u e z=>by rw[z,hn] at e;cases e
 refine I.step (g':=s.gens) (d':=s.drawn) (ch:=[it]) (λb hb=>?_) (λb o _ _ hc e _=>k b o (λz=>hc (by simp[z])) e) (λb o _ _ hc e _=>{o.slots,k b o (λz=>hc (by simp[z])) e}) (λ_ _ _ _ n=>n)
  (λb o hc e=>{o,k b o (λz=>hc (by simp[z])) e}) (λ_ _ e=>e) (λ_ _ _ e=>e) (λb ps e=>{#[],by rw[e];simp}) (λm hm=>?_) (λb u e=>?_) I.bare
 .have e:b=it:=by simpa using hb
  subst e;exact⟨h1,hL,h2,h3⟩
 .obtain⟨o,es,ep,ho,r⟩:=hm
  exact{o,es,ep,k _ o (qz hL) ho,r}
 .refine(I.hok b u e).stay (λc v hc q=>k c v ?_ q) (λ_ q=>q) λ_ _ q=>q
  rcases hc with z|z
  .rw[z];exact nit b u e
  .exact nit c _ z
theorem Inv.tok (I:Inv X pins G H s)(t:Nat):Inv X pins G H { s with toks:=t }:=I.un (h':=s.5) (t':=t) Un.refl I.hok
theorem Inv.kept (I:Inv X pins G H s)(k:∀b u,s.heap.get? b=mn u->h'.get? b=mn u):Inv X pins G H { s with heap:=h',toks:=t' }:=I.un (Un.kept k) (I.hok.kept k)
theorem Inv.laid {a:ee}{o:HO}(I:Inv X pins G H s)(k:∀b u,s.heap.get? b=mn u->h'.get? b=mn u)(hp:s.heap.objs.8<=a)(new:De X.prog X.w (upd H a o) h' a o) :
  Inv X pins G (upd H a o) { s with heap:=h',toks:=t' }:=I.un (Un.laid k hp (I.hok.fresh hp)) (I.hok.laid k hp new)
theorem Inv.write {x e:ee}{o:HO}(I:Inv X pins G H s)(mu:Mut (H x))(he:e=x\/H e=mn (.own x))(k:∀b u,b≠e->s.heap.get? b=mn u->h'.get? b=mn u)(heo:∃u,h'.get? e=mn u)
  (new:De X.prog X.w (upd H x o) h' x o):Inv X pins G (upd H x o) { s with heap:=h',toks:=t' }:=I.un (Un.write mu he k heo) (I.hok.write mu he k heo new)
theorem Inv.weak {mt:List (Option V)}(I:Inv X pins G H s)(hl:mt.9=G.9)(w:∀(i:Nat) v,mt[i]?=mn (mn v)->G[i]?=mn (mn v)):Inv X pins mt H s:=
 {I.ok,I.os,I.bare,I.base,let ⟨m,hn,hl'⟩:=I.loc;{m,hn,λi x v e1 e2 e3=>hl' i x v e1 (w i v e2) e3},I.cell,I.free,I.freeC,I.pin,I.hok,hl.trans I.len}
theorem Inv.pins_of {pins':Za1}(I:Inv X pins G H s)(h:∀p∈pins',s.heap.get? p.1=mn p.2/\H p.1=tp/\p.1≠X.env.locals/\p.1∉X.fs/\∀v,p.2.data≠.cell v):Inv X pins' G H s:=
 {I.ok,I.os,I.bare,I.base,I.loc,I.cell,I.free,I.freeC,λp hp=>(jf.mp hp).elim (λz=>I.pin p (oh _ z)) (h p),I.hok,I.len}
theorem iX (hN:N.Nodup){i j:Nat}{x:Str}(a:N[i]?=mn x)(b:N[j]?=mn x):i=j:=by
 obtain⟨h1,e1⟩:=fq.mp a;obtain⟨h2,e2⟩:=fq.mp b;exact(List.getElem_inj hN).mp (e1.trans e2.symm)
theorem uY {E:Za0}{i:Nat}{x:Str}{v:V}{u:ft}{Q:Unit->fz->Prop}(I:Inv X pins G H s)(hN:X.N.Nodup)(hi:X.N[i]?=mn x)(hx:Loc X.env.scope x)(r:Bh v u)
  (h:∀s',Inv X pins (G.set i (mn v)) H s'->(∃a,w8 a s.5 s'.5/\(a=X.env.locals\/X.env.cells.lookup x=mn a))->Q .unit s')(hf:autoParam (X.fn x=MK\/X.env.scope.names.lookup x=mn .local) QH):wpAny M A (storeName X.env x u) Q E s:=by
 obtain⟨m,hn,hl⟩:=id I.loc;have hcls:(X.env.scope.kind==.class||(X.env.scope.kind==.module&&X.env.locals != X.env.globals))=ML:=by rw[I.ok.kind];rfl
 have XI:i<G.9:=by rw[I.len];exact(fq.mp hi).1
 have cne:=I.cne;have tracked:∀{a:ee} {h':ki},(∃o,s.heap.get? a=mn o/\H a=tp)->w8 a s.5 h'->HOk X.prog X.w H h':=λ{a h'} ha hs b ob e=>by
  obtain⟨_,_,hfree⟩:=ha;refine(I.hok b ob e).stay (λc w' hc q=>(hs.2 c ?_).trans q) (λ_ q=>q) λ_ _ q=>q;rintro rfl;rcases hc with rfl|hc
  .rw[hfree] at e;cases e
  .rw[hfree] at hc;cases hc
 rcases hx with hk|hk
 .refine wpAny_storeName_local hk hn (λh' hn' hs=>?_) hcls
  obtain⟨oL,_,_,hoL,_⟩:=id hn;refine h _ {I.ok,I.os,I.bare,{λb o e n hb hx=>?_,λb o e n hb hx=>?_,I.base.free,λb o e hx=>?_,I.base.tups,I.base.frzs,I.base.tbls},{_,hn',λj y v' e1 e2 e3=>?_},λy c e=>?_,I.free,I.freeC,λp hp=>?_,tracked ⟨oL,hoL,I.free⟩ hs,by simpa using I.len} {_,hs,.inl rfl}
  .exact(hs.2 b (ip (gq (gd e) I.ok.above))).trans (I.base.keep b o e n hb hx)
  .obtain⟨sl,e1⟩:=I.base.slot b o e n hb hx
   exact{sl,(hs.2 b (ip (gq (gd e) I.ok.above))).trans e1}
  .obtain⟨o',e1⟩:=I.base.there b o e hx
   exact{o',(hs.2 b (ip (gq (gd e) I.ok.above))).trans e1}
  .by_cases hj:j=i
   .subst hj
    rw[hi] at e1;cases e1;rw[DB XI] at e2;cases e2;exact{u,r,.inl {hk,by simp}}
   .rw[DY (qz hj)] at e2
    obtain⟨u',r',q⟩:=hl j y v' e1 e2 e3;refine{u',r',?_};rcases q with⟨k,e⟩|⟨k,c,e,z⟩
    .refine .inl {k,?_}
     have:y≠x:=λe=>hj (iX hN e1 (e▸hi));simp[this,e]
    .exact .inr {k,c,e,z.sameBut hs (cne y c e)}
  .obtain⟨w',z⟩:=I.cell y c e
   exact{w',z.sameBut hs (cne y c e)}
  .obtain⟨e,n,ne,nf,d⟩:=I.pin p hp
   exact{(hs.2 p.1 ne).trans e,n,ne,nf,d}
 .have hfn:X.fn x=MK:=by
   rcases hf with z|z
   .exact z
   .rw[z] at hk;cases hk
  obtain⟨c,hc⟩:=I.ok.has x (.inl hk);obtain⟨w',z⟩:=I.cell x c hc;refine wpAny_storeName_cell I.ok.kind hk hc z (λh' hc' hs=>?_);obtain⟨oc,hoc,hocd⟩:=id z;refine h { s with heap:=h' } ⟨I.ok,I.os,I.bare,⟨λb o e n hb hx=>?_,λb o e n hb hx=>?_,I.base.free,λb o e hx=>?_,I.base.tups,I.base.frzs,I.base.tbls⟩,⟨m,hn.sameBut hs (qz (cne x c hc)),λj y v' e1 e2 e3=>?_⟩,λy c' e=>?_,I.free,I.freeC,λp hp=>?_,tracked ⟨oc,hoc,I.freeC x c hc⟩ hs,by simpa using I.len⟩ ⟨c,hs,.inr hc⟩
  .exact(hs.2 b (ip (gq (gd e) (I.ok.cab x c hfn hc)))).trans (I.base.keep b o e n hb hx)
  .obtain⟨sl,e1⟩:=I.base.slot b o e n hb hx
   exact{sl,(hs.2 b (ip (gq (gd e) (I.ok.cab x c hfn hc)))).trans e1}
  .obtain⟨o',e1⟩:=I.base.there b o e hx
   exact{o',(hs.2 b (ip (gq (gd e) (I.ok.cab x c hfn hc)))).trans e1}
  .by_cases hj:j=i
   .subst hj
    rw[hi] at e1;cases e1;rw[DB XI] at e2;cases e2;exact{u,r,.inr {.inl hk,c,hc,hc'}}
   .rw[DY (qz hj)] at e2
    obtain⟨u',r',q⟩:=hl j y v' e1 e2 e3;refine{u',r',?_};rcases q with q|⟨k,c',e,z'⟩
    .exact .inl q
    .refine .inr {k,c',e,z'.sameBut hs ?_}
     rintro rfl;exact hj (iX hN e1 (I.ok.inj _ _ _ e hc▸hi))
  .by_cases hcc:c'=c
   .subst hcc;exact{_,hc'}
   .obtain⟨w2,z2⟩:=I.cell y c' e
    exact{w2,z2.sameBut hs hcc}
  .obtain⟨e,n,ne,nf,d⟩:=I.pin p hp
   refine{(hs.2 p.1 ?_).trans e,n,ne,nf,d};intro q;rw[q,hoc] at e;have q':oc=p.2:=fc e;exact d w' (by rw[<-q'];exact hocd)
theorem Vb {E:Za0}{i:Nat}{x:Str}{v:V}{u:ft}{Q:Unit->fz->Prop}(I:Inv X pins G H s)(hN:X.N.Nodup)(hi:X.N[i]?=mn x)(hx:Loc X.env.scope x)(r:Bh v u)
  (h:∀s',Inv X pins (G.set i (mn v)) H s'->Q .unit s')(hf:autoParam (X.fn x=MK\/X.env.scope.names.lookup x=mn .local) QH):wpAny M A (storeName X.env x u) Q E s:=
 uY I hN hi hx r (λs' I' _=>h s' I') hf
theorem Inv.call' {s':fz}{ch:List ee}(I:Inv X pins G H s)(ho:s'.os=s.os)(u:Un (frs X.stack) ch H H' s.5 s'.5)(hok:HOk X.prog X.w H' s'.5)(hg:xu s'.gens)
  (hch:∀b∈ch,(b∈X.ex\/X.QN.heap.objs.8<=b)/\b≠X.env.locals/\(∀x c,X.env.cells.lookup x=mn c->c≠b)/\∀p∈X.pn++pins,p.1≠b):Inv X pins G H' s':=by
 obtain⟨h',g',d',t',o'⟩:=s';have e:o'=s.os:=ho;subst e;exact I.call (g':=g') (t':=t') (d':=d') u hok hg hch
end
abbrev St:=List (Option V)
abbrev TE:=St->Hp->VK->Prop
abbrev TT:=St->Hp->(Bool->Hp->Prop)->Prop
abbrev TA:=St->Hp->(List V->Hp->Prop)->Prop
structure Jm where
 nx:St->Hp->Prop
 rt:VK
 bk:St->Hp->Prop:=λ_ _=>False
 ct:St->Hp->Prop:=λ_ _=>False
abbrev TS:=Jm->St->Hp->Prop
def EP (X:Cx)(pins:Za1)(G:St)(Q:VK)(u:ft)(s':fz):Prop:=∃v H',Inv X pins G H' s'/\Bh v u/\Q v H'
def TP (X:Cx)(pins:Za1)(G:St)(Q:Bool->Hp->Prop)(b:Bool)(s':fz):Prop:=∃H',Inv X pins G H' s'/\Q b H'
def AP (X:Cx)(pins:Za1)(G:St)(Q:List V->Hp->Prop)(us:Za3)(s':fz):Prop:=∃vs H',Inv X pins G H' s'/\A5 vs us/\Q vs H'
def SP (X:Cx)(pins:Za1)(D:Jm)(f:Flow)(s':fz):Prop:=
 match f with
 |.next=>∃mt H',Inv X pins mt H' s'/\D.nx mt H'
 |.brk=>∃mt H',Inv X pins mt H' s'/\D.bk mt H'
 |.cont=>∃mt H',Inv X pins mt H' s'/\D.ct mt H'
 |.ret u=>∃v mt H',Inv X pins mt H' s'/\Bh v u/\D.rt v H'
def PE (X:Cx)(e:jk)(t:TE):Prop:=
 ∀(pins:Za1) (s:fz) (G:St) (H:Hp) (Q:VK),Inv X pins G H s->t G H Q->wpAny (model X.prog X.w) X.A (eval e X.env) (EP X pins G Q) X.xe s
def PT (X:Cx)(e:jk)(t:TT):Prop:=
 ∀(pins:Za1) (s:fz) (G:St) (H:Hp) (Q:Bool->Hp->Prop),Inv X pins G H s->t G H Q->wpAny (model X.prog X.w) X.A (isTrue e X.env (eval e X.env)) (TP X pins G Q) X.xe s
def PW (X:Cx)(e:jk)(t:TT):Prop:=
 ∀(whole:Sem ft) (pins:Za1) (s:fz) (G:St) (H:Hp) (Q:Bool->Hp->Prop),Inv X pins G H s->t G H Q->wpAny (model X.prog X.w) X.A (isTrue e X.env whole) (TP X pins G Q) X.xe s
theorem PW.pt {e:jk}{t:TT}(h:PW X e t):PT X e t:=h _
def PA (X:Cx)(es:List jk)(t:TA):Prop:=
 ∀(pos:Pos) (pins:Za1) (s:fz) (G:St) (H:Hp) (Q:List V->Hp->Prop),Inv X pins G H s->t G H Q->wpAny (model X.prog X.w) X.A (spliced (backTo pos (starEach es X.env))) (AP X pins G Q) X.xe s
def PS (X:Cx)(st:jr)(t:TS):Prop:=
 ∀(pins:Za1) (s:fz) (G:St) (H:Hp) (D:Jm),Inv X pins G H s->t D G H->wpAny (model X.prog X.w) X.A (exec st X.env) (SP X pins D) X.xe s
def PSs (X:Cx)(st:List jr)(t:TS):Prop:=
 ∀(pins:Za1) (s:fz) (G:St) (H:Hp) (D:Jm),Inv X pins G H s->t D G H->wpAny (model X.prog X.w) X.A (execs st X.env) (SP X pins D) X.xe s
theorem thn {α:Type}{t:Sem α}{Q Q':α->fz->Prop}{E:Za0}(h:wpAny M A t Q E s)(hQ:∀a s,Q a s->Q' a s):wpAny M A t Q' E s:=p6 h hQ λ_ _ x=>x
theorem thE {G:St}{e:jk}{t:TE}{Q:VK}{Q':Za0}(he:PE X e t)(I:Inv X pins G H s)(h:t G H Q)(k:∀u s1 x H1,Inv X pins G H1 s1->Bh x u->Q x H1->Q' u s1):wpAny (model X.prog X.w) X.A (eval e X.env) Q' X.xe s:=thn (he pins s G H Q I h) λu s1 ⟨x,H1,a,b,c⟩=>k u s1 x H1 a b c
theorem thA {G:St}{e:List jk}{t:TA}{Q:List V->Hp->Prop}{Q':Za3->fz->Prop}(he:PA X e t)(I:Inv X pins G H s)(h:t G H Q)(k:∀u s1 x H1,Inv X pins G H1 s1->A5 x u->Q x H1->Q' u s1):wpAny (model X.prog X.w) X.A (spliced (backTo pos (starEach e X.env))) Q' X.xe s:=thn (he pos pins s G H Q I h) λu s1 ⟨x,H1,a,b,c⟩=>k u s1 x H1 a b c
section
variable {X:Cx}
def kX (i:Nat):TE:=λG H Q=>∃v,G[i]?=mn (mn v)/\Q v H
def tC (v:V):TE:=λ_ H Q=>Q v H
theorem Aao {i:Nat}{x:Str}(hN:X.N[i]?=mn x)(hv:Vis X.env.scope x)(hd:autoParam ((x==("__debug__":Str))=ML) QF)(hcd:autoParam ((x==("__classdict__":Str))=ML) QF):PE X (.Name x pos) (kX i):=by
 k_in;obtain⟨v,e,h⟩:=h;obtain⟨m,hn,hl⟩:=I.loc;obtain⟨u,r,l⟩:=hl i x v hN e hv;have fin:EP X pins G Q u s:=⟨v,H,I,r,h⟩;rcases l with⟨hk,hm⟩|⟨hk,c,hc,hcell⟩
 .exact zz (yn I.ok.kind hk hn hm fin) hd
 .rcases hk with hk|hk
  .exact zz (GO I.ok.kind hk hc hcell fin) hd
  .exact zz (GN I.ok.kind hk hc hcell fin hcd) hd
theorem Af {i j pos}:PE X (.Constant (.int i) j pos) (tC (.int i)):=λ_ _ _ H _ I h=>wpAny_Constant_int {.int i,H,I.tok _,{_,rfl},h}
theorem Of {b j pos}:PE X (.Constant (.bool b) j pos) (tC (.bl b)):=λ_ _ _ H _ I h=>Constant_bool {.bl b,H,I,rfl,h}
theorem P3 {j pos}:PE X (.Constant .none j pos) (tC .non):=λ_ _ _ H _ I h=>ER {.non,H,I,rfl,h}
theorem Cy {x j pos}:PE X (.Constant (.str x) j pos) (tC (.str x)):=λ_ _ _ H _ I h=>Calls.Constant_str {.str x,H,I.tok _,{_,rfl},h}
def Gl (X:Cx)(x:Str):Prop:=X.env.kindOf x=mn .globalImplicit
theorem Pa {E:Za0}{G:St}{x:Str}{u:ft}{Q:Za0}(I:Inv X pins G H s)(hg:Gl X x)(hm:X.mg x=mn u)(h:Q u s)
  (hd:autoParam ((x==("__debug__":Str))=ML) QF):wpAny (model X.prog X.w) X.A (eval (.Name x pos) X.env) Q E s:=
 AW I.ok.kind hg (Calls.loadGlobal_global (by rw[I.ok.glob];exact I.mod.glob.keeps I.bk) hm h) hd
theorem Ee {E:Za0}{G:St}{x:Str}{u:ft}{Q:Za0}(I:Inv X pins G H s)(hg:Gl X x)(hm:X.mg x=tp)(hv:bootBuiltins x=mn u)(h:Q u s)
  (hn:autoParam (x≠"__name__") QF)(hd:autoParam ((x==("__debug__":Str))=ML) QF):wpAny (model X.prog X.w) X.A (eval (.Name x pos) X.env) Q E s:=by
 obtain⟨mb,h1,h2⟩:=I.mod.blt;exact AW I.ok.kind hg (Calls.loadGlobal_builtin (by rw[I.ok.glob];exact I.mod.glob.keeps I.bk) hm (by rw[I.ok.blt];exact h1.keeps I.bk) ((h2 x hn).trans hv) h) hd
theorem Td {x:Str}{v:V}{u:ft}(hg:Gl X x)(hm:X.mg x=mn u)(r:Bh v u)(hd:autoParam ((x==("__debug__":Str))=ML) QF):PE X (.Name x pos) (tC v):=
 λ_ _ _ H _ I h=>Pa I hg hm ⟨v,H,I,r,h⟩ hd
theorem Jb {x:Str}{v:V}{u:ft}(hg:Gl X x)(hm:X.mg x=tp)(hv:bootBuiltins x=mn u)(r:Bh v u)(hn:autoParam (x≠"__name__") QF)(hd:autoParam ((x==("__debug__":Str))=ML) QF):PE X (.Name x pos) (tC v):=
 λ_ _ _ H _ I h=>Ee I hg hm hv ⟨v,H,I,r,h⟩ hn hd
variable {a b:jk} {ta tb:TE} {pos:Pos}
def PC (X:Cx)(op:x9)(a b:jk)(t:TE):Prop:=
 ∀(pins:Za1) (s:fz) (G:St) (H:Hp) (Q:VK),Inv X pins G H s->t G H Q ->
  wpAny (model X.prog X.w) X.A (eval a X.env) (λv QM=>wpAny (model X.prog X.w) X.A (eval b X.env) (λu QX=>wpAny (model X.prog X.w) X.A (compareOp op v u) (EP X pins G Q) X.xe QX) X.xe QM) X.xe s
theorem jF (b:jk)(h:op≠.In)(h2:op≠.NotIn):behindInMarks op b=ML:=by
 have e1:(op==KU)=ML:=by cases op<;>first|rfl|exact absurd rfl h
 have e2:(op==HZ)=ML:=by cases op<;>first|rfl|exact absurd rfl h2
 cases b<;>simp[behindInMarks,e1,e2]
def Ai3 (ta:TE):TE:=λG H Q=>ta G H λx H1=>Q (.bl (decide (x=.non))) H1
def Aeb (ta:TE):TE:=λG H Q=>ta G H λx H1=>Q (.bl (!decide (x=.non))) H1
theorem Bh.none_iff {x:V}{v:ft}(r:Bh x v):(v==ya)=decide (x=.non):=by
 cases x with
 |non=>cases r;rfl
 |bl _=>cases r;rfl
 |int _=>obtain⟨t,rfl⟩:=r;rfl
 |str _=>obtain⟨t,rfl⟩:=r;rfl
 |byt _=>obtain⟨t,rfl⟩:=r;rfl
 |flt _=>obtain⟨t,rfl⟩:=r;rfl
 |ref _=>cases r;rfl
 |ty _=>cases r;rfl
theorem pR {j pos'}(ha:PE X a ta):PC X .Is a (.Constant .none j pos') (Ai3 ta):=by
 k_in;refine thE ha I h λv s1 x H1 I1 r1 q1=>?_;exact ER (is_none_gen {.bl _,H1,I1,by rw[r1.none_iff];rfl,q1})
theorem tO {j pos'}(ha:PE X a ta):PC X .IsNot a (.Constant .none j pos') (Aeb ta):=by
 k_in;refine thE ha I h λv s1 x H1 I1 r1 q1=>?_;exact ER (isnot_none_gen {.bl _,H1,I1,by rw[r1.none_iff];rfl,q1})
def tB (t:TE):TT:=λG H Q=>t G H λx H1=>∃c,x=.bl c/\Q c H1
theorem yR {t:TE}(h:PC X op a b t)(h1:behindInMarks op b=ML:=by first|exact jF _ (by decide) (by decide)|rfl):PE X (.Compare a [op] [b] pos) t:=λpins s G H Q I hw=>wpAny_Compare1 (h pins s G H Q I hw) h1
theorem mX {t:TE}(h:PC X op a b t)(h1:behindInMarks op b=ML:=by first|exact jF _ (by decide) (by decide)|rfl):PT X (.Compare a [op] [b] pos) (tB t):=by
 intro pins s G H Q I hw;refine wpAny_isTrue_Compare1 (thn (h pins s G H _ I hw) λv s1 h1=>thn h1 λu s2 h2=>thn h2 λc s3 ⟨x,H1,I1,r1,q1⟩=>?_) h1;obtain⟨d,rfl,q⟩:=q1;cases r1;exact ow ⟨H1,I1,q⟩
theorem Fl {e:jk}{t:TE}(h:PE X e t)(he:autoParam (∀whole,isTrue e X.env whole=(do let v <-whole;standAt e.pos;holding [v] (truthy v))) QJ):PT X e (tB t):=by
 intro pins s G H Q I hw;refine isTrue_plain (thE h I hw λv s1 x H1 I1 r1 q1=>?_) (he _);obtain⟨d,rfl,q⟩:=q1;cases r1;exact ow ⟨H1,I1,q⟩
variable {tA tB':TT} {Rr:List jk}
def Ail (t u:TT):TT:=λG H Q=>t G H λc H1=>if c=MK then u G H1 Q else Q ML H1
def tOr (t u:TT):TT:=λG H Q=>t G H λc H1=>if c=MK then Q MK H1 else u G H1 Q
def Aje (t:TT):TT:=λG H Q=>t G H λc H1=>Q (!c) H1
theorem Tj (ha:PT X a tA):PW X (.BoolOp .And [a] pos) tA:=by
 intro wh pins s G H Q I h;refine isTrue_and (thn (ha pins s G H Q I h) λc s1 e=>?_)
 cases c with
 |true=>exact isTrue_and_nil e
 |false=>exact e
theorem N4 (ha:PT X a tA):PW X (.BoolOp .Or [a] pos) tA:=by
 intro wh pins s G H Q I h;refine isTrue_or (thn (ha pins s G H Q I h) λc s1 e=>?_)
 cases c with
 |false=>exact isTrue_or_nil e
 |true=>exact e
theorem fQ (ha:PT X a tA)(hb:PW X (.BoolOp .And (b::Rr) pos) tB'):PW X (.BoolOp .And (a::b::Rr) pos) (Ail tA tB'):=by
 intro wh pins s G H Q I h;refine isTrue_and (thn (ha pins s G H _ I h) λc s1 ⟨H1,I1,q1⟩=>?_)
 cases c with
 |true=>exact hb wh pins s1 G H1 Q I1 q1
 |false=>exact⟨H1,I1,q1⟩
theorem Nt (ha:PT X a tA)(hb:PW X (.BoolOp .Or (b::Rr) pos) tB'):PW X (.BoolOp .Or (a::b::Rr) pos) (tOr tA tB'):=by
 intro wh pins s G H Q I h;refine isTrue_or (thn (ha pins s G H _ I h) λc s1 ⟨H1,I1,q1⟩=>?_)
 cases c with
 |true=>exact⟨H1,I1,q1⟩
 |false=>exact hb wh pins s1 G H1 Q I1 q1
theorem Ic (ha:PT X a tA):PT X (.UnaryOp .Not a pos) (Aje tA):=by
 k_in;exact isTrue_not (ha pins s G H (λc H1=>Q (!c) H1) I h)
def Aey (ta tb:TE):TE:=λG H Q=>ta G H λx H1=>∃c,x=.bl c/\if c=MK then tb G H1 Q else Q (.bl ML) H1
def Aej (ta:TE):TE:=λG H Q=>ta G H λx H1=>∃c,x=.bl c/\Q (.bl (!c)) H1
theorem mT {op}{t:TE}(h:PE X a t):PE X (.BoolOp op [a] pos) t:=λpins s G H Q I hw=>BoolOp_one (h pins s G H Q I hw)
theorem pN (ha:PE X a ta)(hb:PE X (.BoolOp .And (b::Rr) pos) tb):PE X (.BoolOp .And (a::b::Rr) pos) (Aey ta tb):=by
 k_in;refine BoolOp_and (thE ha I h λv s1 x H1 I1 r1 q1=>?_);obtain⟨c,rfl,q1⟩:=q1;cases r1;refine ow ?_
 cases c with
 |true=>exact hb pins s1 G H1 Q I1 q1
 |false=>exact{.bl ML,H1,I1,rfl,q1}
theorem Afq (ha:PE X a ta):PE X (.UnaryOp .Not a pos) (Aej ta):=by
 k_in;refine UnaryOp_ (thE ha I h λv s1 x H1 I1 r1 q1=>?_);obtain⟨c,rfl,q1⟩:=q1;cases r1;exact not_of (ow {.bl (!c),H1,I1,rfl,q1})
def tIf (t:TT)(ta tb:TE):TE:=λG H Q=>t G H λc H1=>if c=MK then ta G H1 Q else tb G H1 Q
theorem E5 {c:jk}(hc:PT X c tA)(ha:PE X a ta)(hb:PE X b tb):PE X (.IfExp c a b pos) (tIf tA ta tb):=by
 k_in;refine wpAny_IfExp (thn (hc pins s G H _ I h) λd s1 ⟨H1,I1,q1⟩=>?_)
 cases d with
 |true=>exact ha pins s1 G H1 Q I1 q1
 |false=>exact hb pins s1 G H1 Q I1 q1
end
def SqT (K:d5)(H:Hp)(a:ee)(xs:List V):Prop:=
 Rd H a (.tup xs) \/
  ∃(o:Obj) (its:Array ft) (n:Nat),K.lookup a=mn o/\o.cls=.type "tuple"/\o.data=.seq its n/\its.8<=sizeLine/\A5 xs its.7
def Ajx:ft->Option V
 |.none=>mn .non
 |.bool b=>mn (.bl b)
 |.int i _=>mn (.int i)
 |.str x _=>mn (.str x)
 |.bytes b _=>mn (.byt b)
 |.float b _=>mn (.flt b)
 |.ref a=>mn (.ref a)
 |.type n=>mn (.ty n)
 |_=>tp
theorem Bh.abs {x:V}{u:ft}(r:Bh x u):Ajx u=mn x:=by
 cases x with
 |non=>cases r;rfl
 |bl _=>cases r;rfl
 |int _=>obtain⟨t,rfl⟩:=r;rfl
 |str _=>obtain⟨t,rfl⟩:=r;rfl
 |byt _=>obtain⟨t,rfl⟩:=r;rfl
 |flt _=>obtain⟨t,rfl⟩:=r;rfl
 |ref _=>cases r;rfl
 |ty _=>cases r;rfl
theorem Bh.inj {x:V}{u:ft}(r:Bh x u)(q:Bh y u):x=y:=fc (r.abs.symm.trans q.abs)
theorem A5.inj:∀{xs ys:List V} {us:Za3},A5 xs us->A5 ys us->xs=ys
 |_,_,_,.nil,.nil=>rfl
 |_,_,_,.cons r t,.cons r' t'=>by rw[r.inj r',A5.inj t t']
section
variable {X:Cx} {pins:Za1} {G:St} {H:Hp} {s:fz} {a:ee} {xs ys:List V}
theorem SqL.of {K:d5}(h:H a=mn (.lst xs)):SqL K H a xs:=.inl (.inl h)
theorem SqT.of {K:d5}(h:H a=mn (.tup xs)):SqT K H a xs:=.inl (.inl h)
theorem Inv.list (I:Inv X pins G H s)(h:SqL X.K H a xs):∃its:Za3,A5 xs its/\PlainL s.5 a its.6/\xs.9<=sizeLine:=by
 rcases h with h|⟨o,its,n,hk,hc,hd,hs,hz,r⟩
 .obtain⟨z,its,n,r,e⟩:=h.ok I.hok
  exact{its,r,{_,n,e,rfl,rfl,rfl},z}
 .refine{its.7,r,{o,n,I.kIn a o hk,hc,hd,by simpa using hs},?_}
  have e:=r.9;simp only[f9] at e;lia
theorem Inv.tuple (I:Inv X pins G H s)(h:SqT X.K H a xs):∃its:Za3,A5 xs its/\IsTup s.5 a its.6/\xs.9<=sizeLine:=by
 rcases h with h|⟨o,its,n,hk,hc,hs,hz,r⟩
 .obtain⟨z,its,r,p⟩:=h.ok I.hok
  exact⟨its,r,p,z⟩
 .refine{its.7,r,{o,I.kIn a o hk,hc,n,by simpa using hs},?_}
  have e:=r.9;simp only[f9] at e;lia
theorem Inv.list_inj (I:Inv X pins G H s)(h:SqL X.K H a xs)(h':SqL X.K H a ys):xs=ys:=by
 obtain⟨its,r,⟨o,n,e,_,_,d⟩,_⟩:=I.list h;obtain⟨its',r',⟨o',n',e',_,_,d'⟩,_⟩:=I.list h';rw[e] at e';cases e';rw[d] at d'
 injection d' with d1 _
 have:its=its':=by simpa using congrArg HJ d1
 subst this;exact r.inj r'
theorem Inv.tuple_inj (I:Inv X pins G H s)(h:SqT X.K H a xs)(h':SqT X.K H a ys):xs=ys:=by
 obtain⟨its,r,⟨o,e,_,n,d⟩,_⟩:=I.tuple h;obtain⟨its',r',⟨o',e',_,n',d'⟩,_⟩:=I.tuple h';rw[e] at e';cases e';rw[d] at d'
 injection d' with d1 _
 have:its=its':=by simpa using congrArg HJ d1
 subst this;exact r.inj r'
end
abbrev Cx.wish (X:Cx)(E:Za0):Cx:={ X with xe:=E }
abbrev Cx.nox (X:Cx):Cx:=X.wish λ_ _=>False
theorem Cx.Ok.wish (ok:X.Ok)(E:Za0):(X.wish E).Ok:=
 ⟨ok.mod,ok.kind,ok.glob,ok.blt,ok.above,ok.inj,ok.has,ok.cab,ok.hd,ok.frames,ok.stk,ok.exf,ok.bs,ok.bsz,ok.noex,ok.exfs,ok.funs,ok.frf⟩
theorem Cx.Ok.unwish {E:Za0}(ok:(X.wish E).Ok):X.Ok:=
 ⟨ok.mod,ok.kind,ok.glob,ok.blt,ok.above,ok.inj,ok.has,ok.cab,ok.hd,ok.frames,ok.stk,ok.exf,ok.bs,ok.bsz,ok.noex,ok.exfs,ok.funs,ok.frf⟩
section
variable {X:Cx} {pins:Za1} {G:St} {H:Hp} {s:fz} {E:Za0}
theorem Inv.wish (I:Inv X pins G H s)(E:Za0):Inv (X.wish E) pins G H s:={I.ok.wish E,I.os,I.bare,I.base,I.loc,I.cell,I.free,I.freeC,I.pin,I.hok,I.len}
theorem Inv.unwish (I:Inv (X.wish E) pins G H s):Inv X pins G H s:=⟨I.ok.unwish,I.os,I.bare,I.base,I.loc,I.cell,I.free,I.freeC,I.pin,I.hok,I.len⟩
theorem SP.unwish {f:Flow}{s':fz}(h:SP (X.wish E) pins D f s'):SP X pins D f s':=by
 cases f with
 |next=>obtain⟨mt,H',I,q⟩:=h;exact⟨mt,H',I.unwish,q⟩
 |brk=>obtain⟨mt,H',I,q⟩:=h;exact⟨mt,H',I.unwish,q⟩
 |cont=>obtain⟨mt,H',I,q⟩:=h;exact⟨mt,H',I.unwish,q⟩
 |ret u=>obtain⟨v,mt,H',I,r,q⟩:=h;exact⟨v,mt,H',I.unwish,r,q⟩
theorem PSs.nox {st:List jr}{t:TS}(h:PSs X.nox st t):PSs X st t:=λpins s G H D I hw=>
 p6 (h pins s G H D (I.wish _) hw) (λ_ _ q=>q.unwish) λ_ _ z=>l8 z
end
section
variable {X:Cx} {st:jr} {Rr:List jr} {t u:TS} {e:jk} {te:TE} {pos:Pos}
def Ad6:TS:=λD G H=>D.nx G H
def Ahu (t u:TS):TS:=λD G H=>t { D with nx:=u D } G H
theorem A8:PSs X [] Ad6:=λ_ _ G H _ I h=>xw ⟨G,H,I,h⟩
theorem Aa (h1:PS X st t)(h2:PSs X Rr u):PSs X (st::Rr) (Ahu t u):=by
 k_end;refine wpAny_execs_cons (thn (h1 pins s G H { D with nx:=u D } I h) λf s1 q=>?_)
 cases f with
 |next=>
  obtain⟨mt,H',I',q⟩:=q;exact h2 pins s1 mt H' D I' q
 |ret v=>exact q
 |brk=>exact q
 |cont=>exact q
theorem Ae (h1:PS X st t):PSs X [st] t:=by
 k_end;refine wpAny_execs_cons (thn (h1 pins s G H D I h) λf s1 q=>?_)
 cases f with
 |next=>exact xw q
 |ret v=>exact q
 |brk=>exact q
 |cont=>exact q
theorem Inv.quiet {G:St}(I:Inv X pins G H s):interactive X.env=ML:=by simp[interactive,I.ok.kind]
def Aez (te:TE):TS:=λD G H=>te G H λ_ H1=>D.nx G H1
theorem A6 (he:PE X e te)(hs:autoParam (swapsWith e tp pos.line X.env=pure ML) QD):PS X (.Expr e pos) (Aez te):=by
 k_end;exact wpAny_Expr_any (thE he I h λv s1 x H1 I1 r1 q1=>⟨G,H1,I1,q1⟩) I.quiet hs
def Ah9 (te:TE):TS:=λD G H=>te G H D.rt
theorem Ap (he:PE X e te):PS X (.Return (mn e) pos) (Ah9 te):=by
 k_end;exact wpAny_Return_some (thE he I h λv s1 x H1 I1 r1 q1=>⟨x,G,H1,I1,r1,q1⟩)
def Aie (c:TT)(t u:TS):TS:=λD G H=>c G H λb H1=>if b=MK then t D G H1 else u D G H1
theorem B8 {c:jk}{a b:List jr}{tc:TT}(hc:PT X c tc)(ha:PSs X a t)(hb:PSs X b u):PS X (.If c a b pos) (Aie tc t u):=by
 k_end;refine wpAny_If (thn (hc pins s G H _ I h) λd s1 ⟨H1,I1,q1⟩=>?_)
 cases d with
 |true=>exact ha pins s1 G H1 D I1 q1
 |false=>exact hb pins s1 G H1 D I1 q1
def Agf:TS:=λ_ _ _=>False
theorem Dv:PS X st Agf:=λ_ _ _ _ _ _ h=>h.elim
end
abbrev TG:=V->St->Hp->(St->Hp->Prop)->Prop
abbrev TGs:=List V->St->Hp->(St->Hp->Prop)->Prop
def PG (X:Cx)(target:jk)(t:TG):Prop:=
 ∀(pins:Za1) (s:fz) (G:St) (H:Hp) (v:V) (u:ft) (Q:St->Hp->Prop),Inv X pins G H s->Bh v u->t v G H Q ->
  wpAny (model X.prog X.w) X.A (assign target X.env u) (λ_ s'=>∃mt H',Inv X pins mt H' s'/\Q mt H') X.xe s
def PGs (X:Cx)(ts:List jk)(t:TGs):Prop:=
 ∀(pins:Za1) (s:fz) (G:St) (H:Hp) (vs:List V) (us:Za3) (Q:St->Hp->Prop),Inv X pins G H s->A5 vs us->t vs G H Q ->
  wpAny (model X.prog X.w) X.A (assignInOrder ((assignEach ts X.env).map (·.2)) us) (λ_ s'=>∃mt H',Inv X pins mt H' s'/\Q mt H') X.xe s
abbrev lI:=V->V->V->Hp->(Hp->Prop)->Prop
def Acl (X:Cx)(t:lI):Prop:=
 ∀(pins:Za1) (s:fz) (G:St) (H:Hp) (o i v:V) (ov iv u:ft) (Q:Hp->Prop),Inv X pins G H s->Bh o ov->Bh i iv->Bh v u->t o i v H Q ->
  wpAny (model X.prog X.w) X.A (setItem ov iv u) (λ_ s'=>∃H',Inv X pins G H' s'/\Q H') X.xe s
abbrev TIp:=V->V->Hp->VK->Prop
def PIp (X:Cx)(op:DK)(t:TIp):Prop:=
 ∀(pins:Za1) (s:fz) (G:St) (H:Hp) (x y:V) (v u:ft) (Q:VK),Inv X pins G H s->Bh x v->Bh y u->t x y H Q ->
  wpAny (model X.prog X.w) X.A (inplaceOp op v u) (EP X pins G Q) X.xe s
section
variable {X:Cx} {pos:Pos}
def Eg (i:Nat):TG:=λv G H Q=>Q (G.set i (mn v)) H
theorem Og {i:Nat}{x:Str}(hN:X.N.Nodup)(hi:X.N[i]?=mn x)(hx:Loc X.env.scope x)(hf:autoParam (X.fn x=MK\/X.env.scope.names.lookup x=mn .local) QH):PG X (.Name x pos) (Eg i):=by
 intro pins s G H v u Q I r h;exact wpAny_assign_Name (Vb I hN hi hx r (λs' I'=>{_,H,I',h}) hf)
def nY:TGs:=λvs G H Q=>vs=[]/\Q G H
def J3 (t:TG)(u:TGs):TGs:=λvs G H Q=>∃v r,vs=v::r/\t v G H λmt H'=>u r mt H' Q
theorem Pj:PGs X [] nY:=by
 intro pins s G H vs us Q I r h;obtain⟨e,h⟩:=h;subst e;cases r;exact assignInOrder_nil ⟨G,H,I,h⟩
theorem E1 {e:jk}{t:TG}{u:TGs}(h1:PG X e t)(h2:PGs X es u)
  (hs:autoParam ((assignEach (e::es) X.env).map (·.2)=assign e X.env::(assignEach es X.env).map (·.2)) QD):PGs X (e::es) (J3 t u):=by
 intro pins s G H vs us Q I r h;obtain⟨v,vr,e1,h⟩:=h;subst e1
 cases r with
 |cons r rr=>
  rw[hs];refine assignInOrder_cons (thn (h1 pins s G H _ _ _ I r h) λ_ s1 ⟨XA,H1,I1,q1⟩=>?_);exact h2 pins s1 XA H1 _ _ Q I1 rr q1
def oR (K:d5)(n:Nat)(t:TGs):TG:=λv G H Q=>∃a xs,v=.ref a/\SqT K H a xs/\xs.9=n/\t xs G H Q
theorem Uf {k:Nat}{t:TGs}(hc:X.calm=MK)(h:PGs X es t)
  (hn:autoParam ((assignEach es X.env).9=n) QD)(hst:autoParam ((assignEach es X.env).findIdx? (·.1)=tp) QD):PG X (.Tuple es k pos) (oR X.K n t):=by
 intro pins s G H v u Q I r hw;obtain⟨a,xs,e1,hq,hl,hw⟩:=hw;subst e1;cases r;obtain⟨its,rv,ht,hz⟩:=I.tuple hq;refine assign_Tuple_tuple (I.ok.hd hc) ht (by simp[hn,<-hl,rv.9]) hst λh' hx=>?_;have I1:Inv X pins G H { s with heap:=h' }:=I.kept (t':=s.toks) λb o e=>hx b o (ip (gd e)) e;exact h pins _ G H xs _ Q I1 (by simpa using rv) hw
def Air (to ti:TE)(t:lI):TG:=λv G H Q=>to G H λo H1=>ti G H1 λi H2=>t o i v H2 λH3=>Q G H3
theorem nE {o i:jk}{ti:TE}{t:lI}(ho:PE X o to)(hi:PE X i ti)(hs:Acl X t)
  (ha:autoParam (∀v,assign (.Subscript o i pos) X.env v=(do
   let ov <-holding [v] (eval o X.env)
   let iv <-holding [v,ov] (eval i X.env)
   standAt pos
   holding [v,ov,iv] (setItem ov iv v)
   release [v,ov,iv] [])) QJ):PG X (.Subscript o i pos) (Air to ti t):=by
 intro pins s G H v u Q I r h;rw[ha];refine wpAny_bind (wpAny_holding (thE ho I h λov s1 x H1 I1 r1 q1=>?_));refine wpAny_bind (wpAny_holding (thE hi I1 q1 λiv s2 y H2 I2 r2 q2=>?_));refine wpAny_bind (w9 (wpAny_bind (wpAny_holding (thn (hs pins s2 G H2 x y v ov iv u _ I2 r1 r2 r q2) λ_ s3 ⟨H3,I3,q3⟩=>?_))));exact wpAny_release ⟨G,H3,I3,q3⟩
def pQ (te:TE)(g:TG):TS:=λD G H=>te G H λx H1=>g x G H1 D.nx
theorem mJ {e:jk}{g:TG}(he:PE X e te)(hg:PG X tg g)(hs:autoParam (swapsWithSole [tg] e pos.line X.env=pure ML) QD)(hw:autoParam (swappedStores [tg] e X.env=pure tp) QD)
  (h1:autoParam ((assignEach [tg] X.env).map (·.2)=[assign tg X.env]) QD):PS X (.Assign [tg] e pos) (pQ te g):=by
 k_end;refine wpAny_Assign_stores (thE he I h λv s1 x H1 I1 r1 q1=>?_) hs hw;rw[h1];exact thn (hg pins s1 G H1 x v _ I1 r1 q1) λ_ s2 q=>q
theorem Jg {i:Nat}{x:Str}{e:jk}{pos':Pos}(hN:X.N.Nodup)(hi:X.N[i]?=mn x)(hx:Loc X.env.scope x)(he:PE X e te)(hs:autoParam (swapsWith e (mn (.Name x pos')) pos.line X.env=pure ML) QD)(hf:autoParam (X.fn x=MK\/X.env.scope.names.lookup x=mn .local) QH) :
  PS X (.Assign [.Name x pos'] e pos) (pQ te (Eg i)):=by
 k_end;refine wpAny_Assign_Name (thE he I h λv s1 y H1 I1 r1 q1=>?_) hs;exact Vb I1 hN hi hx r1 (λs2 I2=>{_,H1,I2,q1}) hf
def Afu (i:Nat)(te:TE)(ti:TIp):TS:=λD G H=>∃x,G[i]?=mn (mn x)/\te G H λy H1=>ti x y H1 λz H2=>D.nx (G.set i (mn z)) H2
theorem Ag0 {i:Nat}{x:Str}{e:jk}{op:DK}{ti:TIp}{pos':Pos}(hN:X.N.Nodup)(hi:X.N[i]?=mn x)(hx:Loc X.env.scope x)(he:PE X e te)(ho:PIp X op ti)(hf:autoParam (X.fn x=MK\/X.env.scope.names.lookup x=mn .local) QH) :
  PS X (.AugAssign (.Name x pos') op e pos) (Afu i te ti):=by
 k_end;obtain⟨v,e1,h⟩:=h;obtain⟨m,hn,hl⟩:=I.loc;have vis:Vis X.env.scope x:=by rcases hx with k|k;exact .inl k;exact .inr (.inl k)
 obtain⟨u,r,l⟩:=hl i x v hi e1 vis;refine wpAny_AugAssign_Name ?_;have go:wpAny (model X.prog X.w) X.A (eval e X.env) (λw QX=>wpAny (model X.prog X.w) X.A (inplaceOp op u w) (λr XJ=>wpAny (model X.prog X.w) X.A (storeName X.env x r) (λ_=>SP X pins D .next) X.xe XJ) X.xe QX) X.xe s:=by
  refine thE he I h λw s1 y H1 I1 r1 q1=>?_;refine thn (ho pins s1 G H1 v y u w _ I1 r r1 q1) λz s2 ⟨zv,H2,I2,r2,q2⟩=>?_;exact Vb I2 hN hi hx r2 (λs3 I3=>{_,H2,I3,q2}) hf
 rcases l with⟨hk,hm⟩|⟨hk,c,hc,hcell⟩
 .exact yn I.ok.kind hk hn hm go
 .rcases hk with hk|hk
  .exact GO I.ok.kind hk hc hcell go
  .rcases hx with k|k
   .have:X.env.scope.names.lookup x=mn .free:=hk
    rw[k] at this;cases this
   .have:X.env.scope.names.lookup x=mn .free:=hk
    rw[k] at this;cases this
def Aen (to ti te:TE)(tget:V->V->Hp->VK->Prop)(tip:TIp)(tset:lI):TS:=λD G H=>to G H λo H1=>ti G H1 λi H2=>tget o i H2 λx H3=>te G H3 λy H4=>tip x y H4 λz H5=>tset o i z H5 λH6=>D.nx G H6
def Aib (X:Cx)(t:V->V->Hp->VK->Prop):Prop:=
 ∀(pins:Za1) (s:fz) (G:St) (H:Hp) (o i:V) (ov iv:ft) (Q:VK),Inv X pins G H s->Bh o ov->Bh i iv->t o i H Q ->
  wpAny (model X.prog X.w) X.A (getItem ov iv) (EP X pins G Q) X.xe s
theorem Z7 {o i e:jk}{ti:TE}{tget:V->V->Hp->VK->Prop}{tip:TIp}{tset:lI}{op:DK}{tpos:Pos}(ho:PE X o to)(hi:PE X i ti)(hg:Aib X tget)(he:PE X e te)(hp:PIp X op tip)(hs:Acl X tset)
  (ha:∀ov iv new,augStore i ov iv new=(do holding [new,ov,iv] (setItem ov iv new);release [new,ov,iv] [];pure .next):=by intros;rfl):PS X (.AugAssign (.Subscript o i tpos) op e pos) (Aen to ti te tget tip tset):=by
 k_end;refine wpAny_AugAssign_SubscriptAny (thE ho I h λov s1 x1 H1 I1 r1 q1=>?_) ha;refine thE hi I1 q1 λiv s2 x2 H2 I2 r2 q2=>?_;refine thn (hg pins s2 G H2 x1 x2 ov iv _ I2 r1 r2 q2) λold s3 ⟨x3,H3,I3,r3,q3⟩=>?_;refine thE he I3 q3 λv s4 x4 H4 I4 r4 q4=>?_;refine thn (hp pins s4 G H4 x3 x4 old v _ I4 r3 r4 q4) λnew s5 ⟨x5,H5,I5,r5,q5⟩=>?_;exact thn (hs pins s5 G H5 x1 x2 x5 ov iv new _ I5 r1 r2 r5 q5) λ_ s6 ⟨H6,I6,q6⟩=>⟨G,H6,I6,q6⟩
def ipI (f:Int->Int->Int):TIp:=λx y H Q=>∃i j,x=.int i/\y=.int j/\Q (.int (f i j)) H
theorem Hl:PIp X .Add (ipI λi j=>i+j):=by
 intro pins s G H x y v u Q I r1 r2 h;obtain⟨i,j,e1,e2,q⟩:=h;subst e1;subst e2;obtain⟨t,rfl⟩:=r1;obtain⟨t',rfl⟩:=r2;exact iadd_int {.int _,H,I.tok _,{_,rfl},q}
theorem Zv:PIp X .Sub (ipI λi j=>i-j):=by
 intro pins s G H x y v u Q I r1 r2 h;obtain⟨i,j,e1,e2,q⟩:=h;subst e1;subst e2;obtain⟨t,rfl⟩:=r1;obtain⟨t',rfl⟩:=r2;exact isub_int {.int _,H,I.tok _,{_,rfl},q}
end
section
variable {X:Cx} {pos:Pos}
def Aah (c:TT)(tb:TS):TS:=λD G H=>∃W:Nat->St->Hp->Prop,(∃m,W m G H)/\∀m G H,W m G H ->
 c G H λb H1=>if b=MK then ∃N:St->Hp->Prop,(∀mt H',N mt H'->∃m',m'<m/\W m' mt H')/\tb { D with nx:=N,ct:=N,bk:=D.nx } G H1 else D.nx G H1
theorem E6 {c:jk}{body:List jr}{tc:TT}{tb:TS}(hp:PassesOwn (model X.prog X.w) X.A X.env X.xe)(hc:PT X c tc)(hb:PSs X body tb):PS X (.While c body [] pos) (Aah tc tb):=by
 k_end;obtain⟨W,⟨m0,w0⟩,turn⟩:=h;refine wpAny_While (codeAny_whileLoop (λn s'=>∃mt H',Inv X pins mt H' s'/\W n mt H') ?_ m0 ⟨G,H,I,w0⟩);rintro n s1 ⟨XA,H1,I1,w1⟩;refine wpAny_passesOwn hp (thn (hc pins s1 XA H1 _ I1 (turn n XA H1 w1)) λb s2 ⟨H2,I2,q2⟩=>?_)
 cases b with
 |true=>
  obtain⟨N,hN,q2⟩:=q2;rw[if_pos rfl];refine wpAny_passesOwn hp (thn (hb pins s2 XA H2 _ I2 q2) λf s3 q3=>?_)
  cases f with
  |next=>
   obtain⟨QV,H3,I3,n3⟩:=q3;obtain⟨m',hm,w3⟩:=hN QV H3 n3;exact⟨m',hm,QV,H3,I3,w3⟩
  |cont=>
   obtain⟨QV,H3,I3,n3⟩:=q3;obtain⟨m',hm,w3⟩:=hN QV H3 n3;exact⟨m',hm,QV,H3,I3,w3⟩
  |brk=>exact q3
  |ret v=>exact q3
 |false=>
  rw[if_neg io];exact xw ⟨XA,H2,I2,q2⟩
end
structure It where
 go:Nat->Hp->Prop
 yld:Nat->Hp->V->Hp->Prop
 stop:Nat->Hp->Prop
def U3 (X:Cx)(pins:Za1)(H:Hp)(b:ee):Prop:=
 H b=tp/\b≠X.env.locals/\b∉X.fs/\(b∈X.ex\/X.QN.heap.objs.8<=b)/\(∀x c,X.env.cells.lookup x=mn c->c≠b)/\∀p∈X.pn++pins,p.1≠b
theorem Inv.fpOk {G:St}{b:ee}(I:Inv X pins G H s)(hb:s.heap.objs.8<=b)(hn:H' b=tp):U3 X pins H' b:=by
 refine{hn,vp (gq I.lt hb),I.nofs hb,.inr (iw I.sz hb),λx c e z=>?_,λp hp z=>?_}
 .obtain⟨v,q⟩:=I.cell x c e
  exact absurd (gq q.lt (by rw[z];exact hb)) (o7 _)
 .exact absurd (gq (gd (I.pin p hp).1) (by rw[z];exact hb)) (o7 _)
structure Vf (P:gu) (w:i7) (K:d5) (tg:jk) (J:It) (fp:List ee) (it:ee) (tn:Nat->ki->Prop):Prop where
 mem:it∈fp
 obj:∀i h,tn i h->∀b∈fp,∃o,h.get? b=mn o/\∀v,o.data≠.cell v
 keep:∀i h h',tn i h->(∀b∈fp,∀o,h.get? b=mn o->h'.get? b=mn o)->tn i h'
 item:∀(X:Cx),X.prog=P->X.w=w->X.K=K->X.calm=MK->∀(i:Nat) (pins:Za1) (s:fz) (G:St) (H:Hp) (E:Za0),Inv X pins G H s->(∀b∈fp,U3 X pins H b)->tn i s.5->J.go i H ->
  wpAny (model P w) X.A (pyNext (.ref it)) (λr s1=>∃u,r=mn u /\
   wpAny (model P w) X.A (letOwnedTupleGo tg (.ref it) u) (λ_ s2=>∃x H',Inv X pins G H' s2/\Bh x u/\J.yld i H x H'/\tn (i+1) s2.5/\∀b∈fp,H' b=tp) E s1) E s
 done:∀(X:Cx),X.prog=P->X.w=w->X.K=K->X.calm=MK->∀(i:Nat) (pins:Za1) (s:fz) (G:St) (H:Hp) (E:Za0),Inv X pins G H s->(∀b∈fp,U3 X pins H b)->tn i s.5->J.stop i H ->
  wpAny (model P w) X.A (pyNext (.ref it)) (λr s1=>r=tp/\Inv X pins G H s1) E s
 self:∀(A:jp) (i:Nat) (s:fz) (Q:Za0) (E:Za0),tn i s.5->Q (.ref it) s->wpAny (model P w) A (pyIter (.ref it)) Q E s
abbrev TI:=St->Hp->(It->Hp->Prop)->Prop
def PIE (X:Cx)(pins:Za1)(G:St)(tg:jk)(R:It->Hp->Prop)(itv:ft)(s2:fz):Prop:=
 ∃(it:ee) (fp:List ee) (tn:Nat->ki->Prop) (J:It) (H':Hp),itv=.ref it/\Inv X pins G H' s2/\Vf X.prog X.w X.K tg J fp it tn/\tn 0 s2.5/\(∀b∈fp,U3 X pins H' b)/\R J H'
def PI (X:Cx)(tg iter:jk)(wi:TI):Prop:=
 ∀(pins:Za1) (s:fz) (G:St) (H:Hp) (R:It->Hp->Prop),Inv X pins G H s->wi G H R ->
  wpAny (model X.prog X.w) X.A (eval iter X.env) (λv s1=>wpAny (model X.prog X.w) X.A (pyIter v) (PIE X pins G tg R) X.xe s1) X.xe s
theorem gW {E:Za0}{u:ft}{o:Obj}{n:String}{vs:Array ft}{Q:Unit->fz->Prop}(ho:s.heap.get? it=mn o)(hc:o.cls=.type n)(hd:o.data=.fields vs)
    (hn : ["enumerate", "zip", "dict_itemiterator", "dict_reverseitemiterator", "odict_iterator", "itertools.zip_longest", "itertools.pairwise"].contains n = ML)(hQ : Q .unit s) : wpAny M A (letOwnedTupleGo tg (.ref it) u) Q E s := by
  unfold letOwnedTupleGo;cases tg <;> first
    | exact fu hQ
    | (cases u <;> first
        | exact fu hQ
        | (refine wpAny_bind (wpAny_load ho ?_)
           rw [hc, hd];show wpAny M A (if (["enumerate", "zip", "dict_itemiterator", "dict_reverseitemiterator", "odict_iterator", "itertools.zip_longest", "itertools.pairwise"].contains n && vs[0]? == mn (rawInt _)) = MK then _ else _) Q E s;rw [if_neg (by intro h; rw [hn, BK] at h; cases h)];exact fu hQ))
def Itl (K:d5)(a:ee):It:=
 {λi H=>∃xs x,SqL K H a xs/\xs[i]?=mn x,λi H x H'=>H'=H/\∀xs,SqL K H a xs->xs[i]?=mn x,λi H=>∃xs,SqL K H a xs/\xs.9<=i}
def Itt (K:d5)(a:ee):It:=
 {λi H=>∃xs x,SqT K H a xs/\xs[i]?=mn x,λi H x H'=>H'=H/\∀xs,SqT K H a xs->xs[i]?=mn x,λi H=>∃xs,SqT K H a xs/\xs.9<=i}
def Itr (lo:Int)(n:Nat):It:={λi _=>i<n,λi H x H'=>H'=H/\x=.int (lo+i),λi _=>n<=i}
theorem tU {P:gu}{K:d5}(a it:ee):Vf P w K tg (Itl K a) [it] it (λi h=>h.IsListIter it a i) where
 mem:=by simp
 obj:=λi h st b hb=>by
  have e:b=it:=by simpa using hb
  subst e;obtain⟨o,e,c,d⟩:=st;exact{o,e,λv z=>by rw[d] at z;cases z}
 keep:=λi h h' st k=>st.at λo e=>k it (by simp) o e
 item:=by
  intro X hP hw hK hc i pins s G H E I hf st hg;subst hP hw hK;obtain⟨xs,x,hq,hx⟩:=hg;obtain⟨its,rv,p,hz⟩:=I.list hq;obtain⟨u,hu,ru⟩:=rv.get hx;obtain⟨f0,f1,f2,f3,f4,f5⟩:=hf it (by simp);refine FC st p.isList (x:=u) (by simpa using hu) λh' st' sb=>?_;have I1:Inv X pins G H { s with heap:=h' }:=I.turned (t':=s.toks) (λb o hb e=>(sb.2 b hb).trans e) f0 f1 f3 f4 f5;obtain⟨o,e,c,d⟩:=id st';exact⟨u,rfl,gW (s:={ s with heap:=h' }) e c d (by decide) ⟨x,H,I1,ru,⟨rfl,λys hy=>by rw[I.list_inj hy hq];exact hx⟩,st',λb hb=>(hf b hb).1⟩⟩
 done:=by
  intro X hP hw hK hc i pins s G H E I hf st hg;subst hP hw hK;obtain⟨xs,hq,hx⟩:=hg;obtain⟨its,rv,p,hz⟩:=I.list hq;obtain⟨f0,f1,f2,f3,f4,f5⟩:=hf it (by simp);have hl:=rv.9;exact FQ (I.ok.hd hc) st p.isList (by simp;lia) λh' eb=>{rfl,I.turned (t':=s.toks) (λb o hb e=>eb b o hb e) f0 f1 f3 f4 f5}
 self:=λ_ _ _ _ _ st h=>wpAny_pyIter_listiter st h
theorem pK {P:gu}{K:d5}(a it:ee):Vf P w K tg (Itt K a) [it] it (λi h=>h.IsTupleIter it a i) where
 mem:=by simp
 obj:=λi h st b hb=>by
  have e:b=it:=by simpa using hb
  subst e;obtain⟨o,e,c,d⟩:=st;exact{o,e,λv z=>by rw[d] at z;cases z}
 keep:=λi h h' st k=>st.at λo e=>k it (by simp) o e
 item:=by
  intro X hP hw hK hc i pins s G H E I hf st hg;subst hP hw hK;obtain⟨xs,x,hq,hx⟩:=hg;obtain⟨its,rv,p,hz⟩:=I.tuple hq;obtain⟨u,hu,ru⟩:=rv.get hx;obtain⟨f0,f1,f2,f3,f4,f5⟩:=hf it (by simp);refine wpAny_pyNext_tuple_item st (show s.heap.IsTuple a its.6 from p) (x:=u) (by simpa using hu) λh' st' sb=>?_;have I1:Inv X pins G H { s with heap:=h' }:=I.turned (t':=s.toks) (λb o hb e=>(sb.2 b hb).trans e) f0 f1 f3 f4 f5;obtain⟨o,e,c,d⟩:=id st';exact⟨u,rfl,gW (s:={ s with heap:=h' }) e c d (by decide) ⟨x,H,I1,ru,⟨rfl,λys hy=>by rw[I.tuple_inj hy hq];exact hx⟩,st',λb hb=>(hf b hb).1⟩⟩
 done:=by
  intro X hP hw hK hc i pins s G H E I hf st hg;subst hP hw hK;obtain⟨xs,hq,hx⟩:=hg;obtain⟨its,rv,p,hz⟩:=I.tuple hq;obtain⟨f0,f1,f2,f3,f4,f5⟩:=hf it (by simp);have hl:=rv.9;exact wpAny_pyNext_tuple_end (I.ok.hd hc) st (show s.heap.IsTuple a its.6 from p) (by simp;lia) λh' eb=>{rfl,I.turned (t':=s.toks) (λb o hb e=>eb b o hb e) f0 f1 f3 f4 f5}
 self:=λ_ _ _ _ _ st h=>wpAny_pyIter_tupleiter st h
theorem pV {P:gu}{K:d5}(it:ee)(lo:Int)(n:Nat):Vf P w K tg (Itr lo n) [it] it (λi h=>yw h it (lo+(i:Nat)*1) ((n:Int)-(i:Nat)) 1) where
 mem:=by simp
 obj:=λi h st b hb=>by
  have e:b=it:=by simpa using hb
  subst e;exact⟨_,st,λv z=>by
   have z':EC _=KT v:=z;cases z'⟩
 keep:=λi h h' st k=>k it (by simp) _ st
 item:=by
  intro X hP hw hK hc i pins s G H E I hf st hg;subst hP hw hK;obtain⟨f0,f1,f2,f3,f4,f5⟩:=hf it (by simp);have W:=HN (prog:=X.prog) (w:=X.w) (I.ok.hd hc) it lo 1 n;refine W.item i s _ _ hg st λv h' tk hv st' kk=>?_;obtain⟨t,rfl⟩:=hv;have I1:Inv X pins G H { s with heap:=h',toks:=tk }:=I.turned (λb o hb e=>kk b o (by simpa using hb) e) f0 f1 f3 f4 f5;refine⟨_,rfl,gW (s:={ s with heap:=h',toks:=tk }) (n:="range_iterator") st' rfl rfl (by decide) ⟨.int (lo+i),H,I1,⟨t,?_⟩,⟨rfl,rfl⟩,st',λb hb=>(hf b hb).1⟩⟩;rw[Int.mul_one]
 done:=by
  intro X hP hw hK hc i pins s G H E I hf st hg;subst hP hw hK;obtain⟨f0,f1,f2,f3,f4,f5⟩:=hf it (by simp);exact FB (I.ok.hd hc) st (by have:n<=i:=hg;lia) λh' eb=>{rfl,I.turned (t':=s.toks) (λb o hb e=>eb b o hb e) f0 f1 f3 f4 f5}
 self:=λ_ _ _ _ _ st h=>FE st h
section
variable {X:Cx} {tg:jk}
def Aev (K:d5)(tl:TE):TI:=λG H R=>tl G H λx H1=>∃a,x=.ref a/\(∃xs,SqL K H1 a xs)/\R (Itl K a) H1
def Af3 (K:d5)(tl:TE):TI:=λG H R=>tl G H λx H1=>∃a,x=.ref a/\(∃xs,SqT K H1 a xs)/\R (Itt K a) H1
theorem Cs {l:jk}{tl:TE}(hl:PE X l tl):PI X tg l (Aev X.K tl):=by
 intro pins s G H R I h;refine thE hl I h λv s1 x H1 I1 r1 q1=>?_;obtain⟨a,e,⟨xs,hq⟩,q⟩:=q1;subst e;cases r1;obtain⟨its,rv,p,hz⟩:=I1.list hq;refine HL p.isList ?_;refine{s1.heap.objs.8,[s1.heap.objs.8],_,_,H1,rfl,I1.kept (t':=s1.toks) λb o e=>fe _ e,tU a _,{_,ik _ rfl,rfl,rfl},λb hb=>?_,q};have e:b=s1.heap.objs.8:=by simpa using hb
 subst e;exact I1.fpOk (d8 _) (I1.hok.fresh (d8 _))
theorem oU {l:jk}{tl:TE}(hl:PE X l tl):PI X tg l (Af3 X.K tl):=by
 intro pins s G H R I h;refine thE hl I h λv s1 x H1 I1 r1 q1=>?_;obtain⟨a,e,⟨xs,hq⟩,q⟩:=q1;subst e;cases r1;obtain⟨its,rv,p,hz⟩:=I1.tuple hq;refine wpAny_pyIter_tuple (show s1.heap.IsTuple a its.6 from p) ?_;refine{s1.heap.objs.8,[s1.heap.objs.8],_,_,H1,rfl,I1.kept (t':=s1.toks) λb o e=>fe _ e,pK a _,{_,ik _ rfl,rfl,rfl},λb hb=>?_,q};have e:b=s1.heap.objs.8:=by simpa using hb
 subst e;exact I1.fpOk (d8 _) (I1.hok.fresh (d8 _))
theorem lN {G:St}{R:It->Hp->Prop}{E:Za0}{lo hi:Int}{t u v:Tok}{tk:Nat}(I:Inv X pins G H s)(h1:-(2 ^ 62)<=lo)(h2:lo<2 ^ 62)(h3:-(2 ^ 62)<=hi)(h4:hi<2 ^ 62)
  (q:R (Itr lo (hi-lo).toNat) H):wpAny (model X.prog X.w) X.A (pyIter (.ref s.heap.objs.8)) (PIE X pins G tg R) E { s with heap:=s.heap.push { cls:=.type "range",data:=.fields #[.int lo t,.int hi u,.int 1 v] },toks:=tk }:=by
 refine zx (y8 ..) (small_one h1 h2 h3 h4) ?_;have I1:Inv X pins G H { s with heap:=s.heap.push { cls:=.type "range",data:=.fields #[.int lo t,.int hi u,.int 1 v] },toks:=tk }:=I.kept λb o e=>fe _ e;refine⟨(s.heap.push { cls:=.type "range",data:=.fields #[.int lo t,.int hi u,.int 1 v] }).objs.size,[(s.heap.push { cls:=.type "range",data:=.fields #[.int lo t,.int hi u,.int 1 v] }).objs.size],_,_,H,rfl,
  I1.kept (t':=tk) λb o e=>fe _ e,pV _ lo (hi-lo).toNat,?_,λb hb=>?_,q⟩
 .have e1:lo+((0:Nat):Int)*1=lo:=by simp
  have e2:(((hi-lo).toNat:Nat):Int)-((0:Nat):Int)=kl lo hi 1:=by rw[KZ];split<;>lia
  show yw _ _ (lo+((0:Nat):Int)*1) ((((hi-lo).toNat:Nat):Int)-((0:Nat):Int)) 1;rw[e1,e2];exact ik _ rfl
 .have e:b=(s.heap.push { cls:=.type "range",data:=.fields #[.int lo t,.int hi u,.int 1 v] }).objs.size:=by simpa using hb
  subst e;exact I1.fpOk (d8 _) (I1.hok.fresh (d8 _))
def Aet (ta:TA):TI:=λG H R=>ta G H λvs H1=>∃j:Int,vs=[.int j]/\-(2 ^ 62)<=j/\j<2 ^ 62/\R (Itr 0 j.toNat) H1
def Ae1 (ta:TA):TI:=λG H R=>ta G H λvs H1=>∃i j:Int,vs=[.int i,.int j]/\(-(2 ^ 62)<=i/\i<2 ^ 62/\-(2 ^ 62)<=j/\j<2 ^ 62)/\R (Itr i (j-i).toNat) H1
theorem D0 {a:jk}{ta:TA}{p:Pos}(hg:Gl X "range")(hm:X.mg "range"=tp)(ha:PA X [a] ta)(hs:autoParam (starEach [a] X.env=[(ML,eval a X.env)]) QD):PI X tg (.Call (.Name "range" p) [a] [] pos) (Aet ta):=by
 intro pins s G H R I h;refine Call_ (Ee I hg hm boot_range (i8 (thA ha I h λus s1 vs H1 I1 r1 q1=>?_) hs rfl));obtain⟨j,e,q1,q2,q⟩:=q1;subst e
 cases r1 with
 |cons r rr=>
  cases rr;obtain⟨t,rfl⟩:=r;exact MA (lN I1 () () q1 q2 (by simpa using q))
theorem uN {a b:jk}{ta:TA}{p:Pos}(hg:Gl X "range")(hm:X.mg "range"=tp)(ha:PA X [a,b] ta)(hs:autoParam (starEach [a,b] X.env=[(ML,eval a X.env),(ML,eval b X.env)]) QD)(hs2:autoParam (starEach [b] X.env=[(ML,eval b X.env)]) QD) :
  PI X tg (.Call (.Name "range" p) [a,b] [] pos) (Ae1 ta):=by
 intro pins s G H R I h;refine Call_ (Ee I hg hm boot_range (i8 (thA ha I h λus s1 vs H1 I1 r1 q1=>?_) (by rw[hs,hs2]) (by rw[hs2];rfl)));obtain⟨i,j,e,⟨q1,q2,q3,q4⟩,q⟩:=q1;subst e
 cases r1 with
 |cons r rr=>
  cases rr with
  |cons r' rr=>
   cases rr;obtain⟨t,rfl⟩:=r;obtain⟨t',rfl⟩:=r';exact call_range_2 (lN I1 q1 q2 q3 q4 q)
def Ai4 (wi:TI)(g:TG)(tb:TS):TS:=λD G H=>wi G H λJ H1=>∃W:Nat->Nat->St->Hp->Prop,(∃m,W 0 m G H1)/\∀i m G H,W i m G H ->
 (J.stop i H/\D.nx G H)\/(J.go i H/\∃N:St->Hp->Prop,(∀mt H',N mt H'->∃m',m'<m/\W (i+1) m' mt H')/\∀x H',J.yld i H x H'->g x G H' λQR H2=>tb { D with nx:=N,ct:=N,bk:=D.nx } QR H2)
def U2 (fp:List ee)(h:ki):Za1:=fp.filterMap λb=>(h.get? b).map λo=>(b,o)
theorem Kz {b:ee}{o:Obj}(hb:b∈fp)(e:h.get? b=mn o):(b,o)∈U2 fp h:=yj.mpr {b,hb,by rw[e];rfl}
theorem uC {p:ee×Obj}(hp:p∈U2 fp h):p.1∈fp/\h.get? p.1=mn p.2:=by
 obtain⟨b,hb,e⟩:=yj.mp hp
 cases q:h.get? b with
 |none=>rw[q] at e;cases e
 |some o=>
  rw[q] at e;have e':(b,o)=p:=fc e;subst e';exact⟨hb,q⟩
theorem Inv.pinned {G:St}(I:Inv X pins G H s)(hf:∀b∈fp,U3 X pins H b)(ho:∀b∈fp,∃o,s.heap.get? b=mn o/\∀v,o.data≠.cell v):Inv X (pins++U2 fp s.5) G H s:=
 I.pins_of λp hp=>(jf.mp hp).elim (λz=>I.pin p (jc _ z)) λz=>by
  obtain⟨hb,e⟩:=uC z;obtain⟨f0,f1,f2,_⟩:=hf p.1 hb;obtain⟨o,e',d⟩:=ho p.1 hb;rw[e] at e';cases e';exact⟨e,f0,f1,f2,d⟩
theorem Inv.unpinned {pl:Za1}{G:St}(I:Inv X (pins++pl) G H s):Inv X pins G H s:=I.pins_of λp hp=>I.pin p (jc _ (oh _ hp))
theorem C0 {iter:jk}{body:List jr}{g:TG}{tb:TS}(hp:PassesOwn (model X.prog X.w) X.A X.env X.xe)(hc:X.calm=MK)(hi:PI X tg iter wi)(hg:PG X tg g)(hb:PSs X body tb)
  (hs:autoParam (∀x,foldedSetIterable iter X.env x=pure x) QJ):PS X (.For tg iter body [] pos) (Ai4 wi g tb):=by
 k_end;refine wpAny_For (thn (hi pins s G H _ I h) λv s1 h1=>thn h1 λitv s2 h2=>?_) hs;obtain⟨it,fp,tn,J,H2,e,I2,T,st2,f2,W,⟨m0,w0⟩,turn⟩:=h2;subst e
 -- what stays MK of the iterator's objects through the loop
 have stat:∀{H':Hp},(∀b∈fp,H' b=tp)->∀b∈fp,U3 X pins H' b:=λhn b hb=>{hn b hb,(f2 b hb).2};refine codeAny_forLoop_any (λn s'=>∃i mt H',Inv X pins mt H' s'/\tn i s'.5/\(∀b∈fp,H' b=tp)/\W i n mt H') ?_ m0 {0,G,H2,I2,st2,λb hb=>(f2 b hb).1,w0};rintro n s3 ⟨i,QV,H3,I3,st3,fr3,w3⟩;rcases turn i n QV H3 w3 with⟨stop,qn⟩|⟨go,N,hN,step⟩
 .refine wpAny_passesOwn hp (thn (T.done X rfl rfl rfl hc i pins s3 QV H3 X.xe I3 (stat fr3) st3 stop) λr s4 ⟨hr,I4⟩=>?_)
  subst hr;exact xw ⟨QV,H3,I4,qn⟩
 .refine wpAny_passesOwn hp (thn (T.item X rfl rfl rfl hc i pins s3 QV H3 X.xe I3 (stat fr3) st3 go) λr s4 ⟨u,hr,h4⟩=>?_)
  subst hr;refine wpAny_passesOwn hp (thn h4 λ_ s5 ⟨x,H5,I5,r5,y5,st5,fr5⟩=>?_);have I5':=I5.pinned (stat fr5) (T.obj _ _ st5);refine wpAny_passesOwn hp (thn (hg _ s5 QV H5 x u _ I5' r5 (step x H5 y5)) λ_ s6 ⟨σ6,H6,I6,q6⟩=>?_);refine wpAny_passesOwn hp (thn (hb _ s6 σ6 H6 _ I6 q6) λf s7 q7=>?_);have again:∀{QW:St} {H7:Hp},Inv X (pins++U2 fp s5.5) QW H7 s7->N QW H7->∃m,m<n/\∃i mt H',Inv X pins mt H' s7/\tn i s7.5/\(∀b∈fp,H' b=tp)/\W i m mt H':=λ{QW H7} I7 n7=>by
   obtain⟨m',hm,w7⟩:=hN QW H7 n7;refine{m',hm,i+1,QW,H7,I7.unpinned,T.keep _ _ _ st5 λb hb o e=>(I7.pin (b,o) (jc _ (jc _ (Kz hb e)))).1,λb hb=>?_,w7};obtain⟨o,e,d⟩:=T.obj _ _ st5 b hb;exact(I7.pin (b,o) (jc _ (jc _ (Kz hb e)))).2.1
  cases f with
  |next=>obtain⟨QW,H7,I7,n7⟩:=q7;exact again I7 n7
  |cont=>obtain⟨QW,H7,I7,n7⟩:=q7;exact again I7 n7
  |brk=>obtain⟨QW,H7,I7,q7⟩:=q7;exact⟨QW,H7,I7.unpinned,q7⟩
  |ret v=>obtain⟨x7,QW,H7,I7,r7,q7⟩:=q7;exact⟨x7,QW,H7,I7.unpinned,r7,q7⟩
end
theorem Ho {K:d5}{a:ee}{g:TG}{tb:TS}{G:St}(Pv:Nat->St->Hp->Prop)(h0:Pv 0 G H)(hl:∀i G H,i<=xs.9->Pv i G H->SqL K H a xs)
  (hs:∀i x G H,xs[i]?=mn x->Pv i G H->g x G H λQR H2=>tb { D with nx:=Pv (i+1),ct:=Pv (i+1),bk:=D.nx } QR H2)(hd:∀G H,Pv xs.9 G H->D.nx G H) :
  ∃W:Nat->Nat->St->Hp->Prop,(∃m,W 0 m G H)/\∀i m G H,W i m G H ->
   ((Itl K a).stop i H/\D.nx G H)\/((Itl K a).go i H/\∃N:St->Hp->Prop,(∀mt H',N mt H'->∃m',m'<m/\W (i+1) m' mt H')/\∀x H',(Itl K a).yld i H x H'->g x G H' λQR H2=>tb { D with nx:=N,ct:=N,bk:=D.nx } QR H2):=by
 refine{λi m G H=>m=xs.9-i/\i<=xs.9/\Pv i G H,{xs.9,by simp,gy _,h0},?_};rintro i m G H ⟨rfl,hi,p⟩;have q:=hl i G H hi p
 by_cases hlt:i<xs.9
 .refine .inr {{xs,xs[i],q,by simp[hlt]},Pv (i+1),λmt H' p'=>{xs.9-(i+1),(),rfl,hlt,p'},λx H' y=>?_}
  obtain⟨e,y⟩:=y;subst e;exact hs i x G _ (y xs q) p
 .have e:i=xs.9:=()
  subst e;exact .inl {{xs,q,d8 _},hd G H p}
theorem Ac1 {K:d5}{a:ee}{g:TG}{tb:TS}{G:St}(Pv:Nat->St->Hp->Prop)(h0:Pv 0 G H)(hl:∀i G H,i<=xs.9->Pv i G H->SqT K H a xs)
  (hs:∀i x G H,xs[i]?=mn x->Pv i G H->g x G H λQR H2=>tb { D with nx:=Pv (i+1),ct:=Pv (i+1),bk:=D.nx } QR H2)(hd:∀G H,Pv xs.9 G H->D.nx G H) :
  ∃W:Nat->Nat->St->Hp->Prop,(∃m,W 0 m G H)/\∀i m G H,W i m G H ->
   ((Itt K a).stop i H/\D.nx G H)\/((Itt K a).go i H/\∃N:St->Hp->Prop,(∀mt H',N mt H'->∃m',m'<m/\W (i+1) m' mt H')/\∀x H',(Itt K a).yld i H x H'->g x G H' λQR H2=>tb { D with nx:=N,ct:=N,bk:=D.nx } QR H2):=by
 refine{λi m G H=>m=xs.9-i/\i<=xs.9/\Pv i G H,{xs.9,by simp,gy _,h0},?_};rintro i m G H ⟨rfl,hi,p⟩;have q:=hl i G H hi p
 by_cases hlt:i<xs.9
 .refine .inr {{xs,xs[i],q,by simp[hlt]},Pv (i+1),λmt H' p'=>{xs.9-(i+1),(),rfl,hlt,p'},λx H' y=>?_}
  obtain⟨e,y⟩:=y;subst e;exact hs i x G _ (y xs q) p
 .have e:i=xs.9:=()
  subst e;exact .inl {{xs,q,d8 _},hd G H p}
theorem Gc {lo:Int}{g:TG}{tb:TS}{G:St}(Pv:Nat->St->Hp->Prop)(h0:Pv 0 G H)
  (hs:∀i G H,i<n->Pv i G H->g (.int (lo+i)) G H λQR H2=>tb { D with nx:=Pv (i+1),ct:=Pv (i+1),bk:=D.nx } QR H2)(hd:∀G H,Pv n G H->D.nx G H) :
  ∃W:Nat->Nat->St->Hp->Prop,(∃m,W 0 m G H)/\∀i m G H,W i m G H ->
   ((Itr lo n).stop i H/\D.nx G H)\/((Itr lo n).go i H/\∃N:St->Hp->Prop,(∀mt H',N mt H'->∃m',m'<m/\W (i+1) m' mt H')/\∀x H',(Itr lo n).yld i H x H'->g x G H' λQR H2=>tb { D with nx:=N,ct:=N,bk:=D.nx } QR H2):=by
 refine{λi m G H=>m=n-i/\i<=n/\Pv i G H,{n,by simp,gy _,h0},?_};rintro i m G H ⟨rfl,hi,p⟩
 by_cases hlt:i<n
 .refine .inr {hlt,Pv (i+1),λmt H' p'=>{n-(i+1),(),rfl,hlt,p'},λx H' y=>?_}
  obtain⟨e,y⟩:=y;subst e y;exact hs i G _ hlt p
 .have e:i=n:=()
  subst e;exact .inl {d8 _,hd G H p}
abbrev R2:=V->V->Hp->VK->Prop
def OpR (X:Cx)(f:ft->ft->Sem ft)(r:R2):Prop:=
 ∀(pins:Za1) (s:fz) (G:St) (H:Hp) (x y:V) (v u:ft) (Q:VK),Inv X pins G H s->Bh x v->Bh y u->r x y H Q ->
  wpAny (model X.prog X.w) X.A (f v u) (EP X pins G Q) X.xe s
def UnR (X:Cx)(f:ft->Sem ft)(r:V->Hp->VK->Prop):Prop:=
 ∀(pins:Za1) (s:fz) (G:St) (H:Hp) (x:V) (v:ft) (Q:VK),Inv X pins G H s->Bh x v->r x H Q ->
  wpAny (model X.prog X.w) X.A (f v) (EP X pins G Q) X.xe s
def Fw (X:Cx)(f:ft)(r:List V->Hp->VK->Prop):Prop:=
 ∀(pins:Za1) (s:fz) (G:St) (H:Hp) (xs:List V) (us:Za3) (Q:VK),Inv X pins G H s->A5 xs us->r xs H Q ->
  wpAny (model X.prog X.w) X.A (call f us) (EP X pins G Q) X.xe s
def tOp (r:R2)(ta tb:TE):TE:=λG H Q=>ta G H λx H1=>tb G H1 λy H2=>r x y H2 Q
def tUn (r:V->Hp->VK->Prop)(ta:TE):TE:=λG H Q=>ta G H λx H1=>r x H1 Q
def rI (C:Int->Int->Prop)(g:Int->Int->V):R2:=λx y H Q=>∃i j,x=.int i/\y=.int j/\C i j/\Q (g i j) H
def rI0 (g:Int->Int->V):R2:=λx y H Q=>∃i j,x=.int i/\y=.int j/\Q (g i j) H
def rU (g:Int->V):V->Hp->VK->Prop:=λx H Q=>∃i,x=.int i/\Q (g i) H
section
variable {X:Cx} {a b c:jk} {ta tb tc:TE} {pos:Pos}
theorem Aga (ha:PE X a ta)(hb:PE X b tb){G:St}{R:V->V->Hp->Prop}(I:Inv X pins G H s)
  (h:ta G H λx H1=>tb G H1 λy H2=>R x y H2){Q:Za0}{f:ft->ft->Sem ft}
  (hf:∀v u s2 x y H2,Inv X pins G H2 s2->Bh x v->Bh y u->R x y H2->wpAny (model X.prog X.w) X.A (f v u) Q X.xe s2) :
  wpAny (model X.prog X.w) X.A (eval a X.env) (λv QM=>wpAny (model X.prog X.w) X.A (eval b X.env) (λu QX=>wpAny (model X.prog X.w) X.A (f v u) Q X.xe QX) X.xe QM) X.xe s:=by
 refine thE ha I h λv s1 x H1 I1 r1 q1=>?_;refine thE hb I1 q1 λu s2 y H2 I2 r2 q2=>?_;exact hf v u s2 x y H2 I2 r1 r2 q2
theorem Ak {op:DK}{r:R2}(ho:OpR X (binaryOp op) r)(ha:PE X a ta)(hb:PE X b tb):PE X (.BinOp a op b pos) (tOp r ta tb):=by
 k_in;exact wpAny_BinOp (Aga ha hb I h λv u s2 x y H2 I2 rx ry q=>ho pins s2 G H2 x y v u Q I2 rx ry q)
theorem Dl {op:UnaryOp}{r:V->Hp->VK->Prop}(ho:UnR X (unaryOp op) r)(ha:PE X a ta):PE X (.UnaryOp op a pos) (tUn r ta):=by
 k_in;exact UnaryOp_ (thE ha I h λv s1 x H1 I1 r1 q1=>ho pins s1 G H1 x v Q I1 r1 q1)
theorem opI {f:ft->ft->Sem ft}{C:Int->Int->Prop}{g:Int->Int->Int}
  (rule:∀(i j:Int) (t u:Tok) (s:fz) (Q:Za0) (E:Za0),C i j->Q (.int (g i j) s.toks) { s with toks:=s.toks+1 }->wpAny (model X.prog X.w) X.A (f (.int i t) (.int j u)) Q E s) :
  OpR X f (rI C λi j=>.int (g i j)):=by
 intro pins s G H x y v u Q I rx ry h;obtain⟨i,j,rfl,rfl,hc,q⟩:=h;obtain⟨t,rfl⟩:=rx;obtain⟨t',rfl⟩:=ry;exact rule i j t t' s _ _ hc {.int (g i j),H,I.tok _,{_,rfl},q}
theorem Ab9 {f:ft->ft->Sem ft}{g:Int->Int->Int}
  (rule:∀(i j:Int) (t u:Tok) (s:fz) (Q:Za0) (E:Za0),Q (.int (g i j) s.toks) { s with toks:=s.toks+1 }->wpAny (model X.prog X.w) X.A (f (.int i t) (.int j u)) Q E s) :
  OpR X f (rI0 λi j=>.int (g i j)):=by
 intro pins s G H x y v u Q I rx ry h;obtain⟨i,j,rfl,rfl,q⟩:=h;obtain⟨t,rfl⟩:=rx;obtain⟨t',rfl⟩:=ry;exact rule i j t t' s _ _ {.int (g i j),H,I.tok _,{_,rfl},q}
theorem Adv {f:ft->ft->Sem ft}{g:Int->Int->Bool}
  (rule:∀(i j:Int) (t u:Tok) (s:fz) (Q:Za0) (E:Za0),Q (.bool (g i j)) s->wpAny (model X.prog X.w) X.A (f (.int i t) (.int j u)) Q E s) :
  OpR X f (rI0 λi j=>.bl (g i j)):=by
 intro pins s G H x y v u Q I rx ry h;obtain⟨i,j,rfl,rfl,q⟩:=h;obtain⟨t,rfl⟩:=rx;obtain⟨t',rfl⟩:=ry;exact rule i j t t' s _ _ {.bl (g i j),H,I,rfl,q}
def Ahg (i j:Int):Prop:=0<j/\j<1073741824
def Ah7 (i j:Int):Prop:=0<=j/\j<=1000000/\i.natAbs<2 ^ 64
def xI (i j:Int):Prop:=(-(2 ^ 64)<i/\i<2 ^ 64)\/(-(2 ^ 64)<j/\j<2 ^ 64)
theorem xI.ok {i j:Int}(h:xI i j):IntMulOk i j:=by
 rcases h with⟨h1,h2⟩|⟨h1,h2⟩
 .exact .of_left (LB h1 h2)
 .exact .of_right (LB h1 h2)
theorem Wz (k:Nat):(0:Int)<=2 ^ k:=by
 rw[two_pow_cast];exact mf _
theorem Bc:OpR X (binaryOp .Add) (rI0 λi j=>.int (i+j)):=Ab9 λ_ _ _ _ _ _ _ q=>add_int q
theorem Ce:OpR X (binaryOp .Sub) (rI0 λi j=>.int (i-j)):=Ab9 λ_ _ _ _ _ _ _ q=>sub_int q
theorem G4:OpR X (binaryOp .Mult) (rI xI λi j=>.int (i*j)):=opI λ_ _ _ _ _ _ _ hc q=>mul_int q hc.ok
theorem Cp:OpR X (binaryOp .FloorDiv) (rI Ahg λi j=>.int (i/j)):=opI λi j _ _ _ _ _ hc q=>by
 have h1:(0:Int)<j:=hc.1;have h2:j<1073741824:=hc.2;exact floordiv_int () (by rw[we i ()];exact q) (.inl (ss ()))
theorem Cv:OpR X (binaryOp .Mod) (rI (λ_ j=>0<j) λi j=>.int (i%j)):=opI λi j _ _ _ _ _ hc q=>by
 have h1:(0:Int)<j:=hc;exact mod_int' () (by rw[Int.fmod_eq_emod_of_nonneg i ()];exact q)
theorem Af6:OpR X (binaryOp .Pow) (rI Ah7 λi j=>.int (i ^ j.toNat)):=opI λ_ _ _ _ _ _ _ hc q=>pow_int_small hc.1 hc.2.1 hc.2.2 q
theorem Agk:OpR X (binaryOp .LShift) (rI Ah7 λi j=>.int (i*2 ^ j.toNat)):=opI λ_ _ _ _ _ _ _ hc q=>lshift_int_small hc.1 hc.2.1 hc.2.2 q
theorem wC:OpR X (binaryOp .RShift) (rI (λ_ j=>0<=j) λi j=>.int (i/2 ^ j.toNat)):=opI λi j _ _ _ _ _ hc q=>
 rshift_int hc (by rw[we i (Wz _)];exact q)
theorem P1:OpR X (binaryOp .BitAnd) (rI0 λi j=>.int (n6 i j)):=Ab9 λ_ _ _ _ _ _ _ q=>and_int q
theorem pH:OpR X (binaryOp .BitXor) (rI0 λi j=>.int (xk i j)):=Ab9 λ_ _ _ _ _ _ _ q=>xor_int q
theorem rX:OpR X (inplaceOp .RShift) (rI (λ_ j=>0<=j) λi j=>.int (i/2 ^ j.toNat)):=opI λi j _ _ _ _ _ hc q=>
 irshift_int hc (by rw[we i (Wz _)];exact q)
theorem unI {f:ft->Sem ft}{g:Int->Int}
  (rule:∀(i:Int) (t:Tok) (s:fz) (Q:Za0) (E:Za0),Q (.int (g i) s.toks) { s with toks:=s.toks+1 }->wpAny (model X.prog X.w) X.A (f (.int i t)) Q E s) :
  UnR X f (rU λi=>.int (g i)):=by
 intro pins s G H x v Q I rx h;obtain⟨i,rfl,q⟩:=h;obtain⟨t,rfl⟩:=rx;exact rule i t s _ _ {.int (g i),H,I.tok _,{_,rfl},q}
theorem Cf:UnR X (unaryOp .USub) (rU λi=>.int (-i)):=unI λ_ _ _ _ _ q=>neg_int q
end
def zR:V->V->Bool
 |.non,.non=>MK|.non,.int _=>MK|.int _,.non=>MK|.non,.bl _=>MK|.bl _,.non=>MK|.non,.str _=>MK|.str _,.non=>MK
 |.int _,.int _=>MK|.bl _,.bl _=>MK|.str _,.str _=>MK|.byt _,.byt _=>MK
 |.int _,.str _=>MK|.str _,.int _=>MK|.bl _,.str _=>MK|.str _,.bl _=>MK
 |_,_=>ML
def rEq:R2:=λx y H Q=>zR x y=MK/\Q (.bl (decide (x=y))) H
def rNe:R2:=λx y H Q=>zR x y=MK/\Q (.bl (!decide (x=y))) H
theorem qV {i j:Int}:decide (V.int i=V.int j)=(i==j):=by
 rw[ol];simp
theorem Aba {i j:Bool}:decide (V.bl i=V.bl j)=(i==j):=by
 rw[ol];simp
theorem sL {i j:Str}:decide (V.str i=V.str j)=(i==j):=by
 rw[ol];simp
theorem rM {i j:Array UInt8}:decide (V.byt i=V.byt j)=(i.7==j.7):=by
 rw[ol];cases i;cases j;simp
section
variable {X:Cx} {a b c:jk} {ta tb tc:TE} {pos:Pos}
theorem B5 {G:St}{Q:VK}{k k':Bool}(I:Inv X pins G H s)(q:Q (.bl k) H)(e:k=k'):EP X pins G Q (.bool k') s:=by
 subst e;exact{.bl k,H,I,rfl,q}
theorem Ed:OpR X (compareOp .Eq) rEq:=by
 intro pins s G H x y v u Q I rx ry h;obtain⟨hs,q⟩:=h
 cases x with
 |non=>
  cases rx
  cases y with
  |non=>cases ry;exact JR (B5 I q (by simp))
  |bl j=>cases ry;exact JT (B5 I q (by simp))
  |int j=>obtain⟨t',rfl⟩:=ry;exact JS (B5 I q (by simp))
  |str j=>obtain⟨t',rfl⟩:=ry;exact JQ (B5 I q (by simp))
  |_=>exact absurd (show ML=MK from hs) io
 |bl i=>
  cases rx
  cases y with
  |non=>cases ry;exact JV (B5 I q (by simp))
  |bl j=>cases ry;exact eq_bool (B5 I q Aba)
  |str j=>obtain⟨t',rfl⟩:=ry;exact IM (B5 I q (by simp))
  |_=>exact absurd (show ML=MK from hs) io
 |int i=>
  obtain⟨t,rfl⟩:=rx
  cases y with
  |non=>cases ry;exact JU (B5 I q (by simp))
  |int j=>obtain⟨t',rfl⟩:=ry;exact eq_int (B5 I q qV)
  |str j=>obtain⟨t',rfl⟩:=ry;exact IL (B5 I q (by simp))
  |_=>exact absurd (show ML=MK from hs) io
 |str i=>
  obtain⟨t,rfl⟩:=rx
  cases y with
  |non=>cases ry;exact JP (B5 I q (by simp))
  |bl j=>cases ry;exact IK (B5 I q (by simp))
  |int j=>obtain⟨t',rfl⟩:=ry;exact IJ (B5 I q (by simp))
  |str j=>obtain⟨t',rfl⟩:=ry;exact eq_str (B5 I q sL)
  |_=>exact absurd (show ML=MK from hs) io
 |byt i=>
  obtain⟨t,rfl⟩:=rx
  cases y with
  |byt j=>obtain⟨t',rfl⟩:=ry;exact PySem.W.eq_bytes (B5 I q rM)
  |_=>exact absurd (show ML=MK from hs) io
 |_=>cases y<;>exact absurd (show ML=MK from hs) io
theorem kN:OpR X (compareOp .NotEq) rNe:=by
 intro pins s G H x y v u Q I rx ry h;obtain⟨hs,q⟩:=h
 cases x with
 |non=>
  cases rx
  cases y with
  |non=>cases ry;exact JK (B5 I q (by simp))
  |bl j=>cases ry;exact JM (B5 I q (by simp))
  |int j=>obtain⟨t',rfl⟩:=ry;exact JL (B5 I q (by simp))
  |str j=>obtain⟨t',rfl⟩:=ry;exact JJ (B5 I q (by simp))
  |_=>exact absurd (show ML=MK from hs) io
 |bl i=>
  cases rx
  cases y with
  |non=>cases ry;exact JO (B5 I q (by simp))
  |bl j=>cases ry;exact ne_bool (B5 I q (congrArg not Aba))
  |str j=>obtain⟨t',rfl⟩:=ry;exact II (B5 I q (by simp))
  |_=>exact absurd (show ML=MK from hs) io
 |int i=>
  obtain⟨t,rfl⟩:=rx
  cases y with
  |non=>cases ry;exact JN (B5 I q (by simp))
  |int j=>obtain⟨t',rfl⟩:=ry;exact ne_int (B5 I q (congrArg not qV))
  |str j=>obtain⟨t',rfl⟩:=ry;exact IH (B5 I q (by simp))
  |_=>exact absurd (show ML=MK from hs) io
 |str i=>
  obtain⟨t,rfl⟩:=rx
  cases y with
  |non=>cases ry;exact JI (B5 I q (by simp))
  |bl j=>cases ry;exact IG (B5 I q (by simp))
  |int j=>obtain⟨t',rfl⟩:=ry;exact IF (B5 I q (by simp))
  |str j=>obtain⟨t',rfl⟩:=ry;exact ne_str (B5 I q (congrArg not sL))
  |_=>exact absurd (show ML=MK from hs) io
 |byt i=>
  obtain⟨t,rfl⟩:=rx
  cases y with
  |byt j=>obtain⟨t',rfl⟩:=ry;exact PySem.W.ne_bytes (B5 I q (congrArg not rM))
  |_=>exact absurd (show ML=MK from hs) io
 |_=>cases y<;>exact absurd (show ML=MK from hs) io
theorem O2:OpR X (compareOp .Lt) (rI0 λi j=>.bl (decide (i<j))):=Adv λ_ _ _ _ _ _ _ q=>lt_int q
theorem Aeh:OpR X (compareOp .LtE) (rI0 λi j=>.bl (decide (i<=j))):=Adv λ_ _ _ _ _ _ _ q=>le_int q
theorem Gr:OpR X (compareOp .Gt) (rI0 λi j=>.bl (decide (j<i))):=Adv λ_ _ _ _ _ _ _ q=>gt_int q
theorem rG:OpR X (compareOp .GtE) (rI0 λi j=>.bl (decide (j<=i))):=Adv λ_ _ _ _ _ _ _ q=>ge_int q
theorem yQ (b:jk)(h:autoParam (op≠.In) QF)(h2:autoParam (op≠.NotIn) QF):behindInMarks op b=ML:=by
 have e1:(op==KU)=ML:=by cases op<;>first|rfl|exact absurd rfl h
 have e2:(op==HZ)=ML:=by cases op<;>first|rfl|exact absurd rfl h2
 cases b<;>simp[behindInMarks,e1,e2]
theorem Ada {r:R2}(ho:OpR X (compareOp op) r)(ha:PE X a ta)(hb:PE X b tb)(hm:behindInMarks op b=ML):PE X (.Compare a [op] [b] pos) (tOp r ta tb):=by
 k_in;exact wpAny_Compare1 (Aga ha hb I h λv u s2 x y H2 I2 rx ry q=>ho pins s2 G H2 x y v u Q I2 rx ry q) hm
def Abd (t:TE):TT:=λG H Q=>t G H λx H'=>∃k,x=.bl k/\Q k H'
theorem Th {r:R2}(ho:OpR X (compareOp op) r)(ha:PE X a ta)(hb:PE X b tb)(hm:behindInMarks op b=ML):PT X (.Compare a [op] [b] pos) (Abd (tOp r ta tb)):=by
 k_in;refine wpAny_isTrue_Compare1 (thE ha I h λv s1 x H1 I1 r1 q1=>thE hb I1 q1 λu s2 y H2 I2 r2 q2=>
  thn (ho pins s2 G H2 x y v u _ I2 r1 r2 q2) λc s3 ⟨z,H3,I3,r3,k,e,q3⟩=>?_) hm
 subst e;cases r3;exact ow ⟨H3,I3,q3⟩
def zN (r r':R2)(ta tb tc:TE):TE:=λG H Q=>ta G H λx H1=>tb G H1 λy H2=>r x y H2 λz H3=>∃k,z=.bl k /\
 (if k=MK then tc G H3 λw' H4=>r' y w' H4 Q else Q (.bl ML) H3)
theorem Aap {op':x9}{r r':R2}(ho:OpR X (compareOp op) r)(ho':OpR X (compareOp op') r')(ha:PE X a ta)(hb:PE X b tb)(hc:PE X c tc)
  (hm:lastMarks [op,op'] [b,c]=ML:=by with_unfolding_all rfl):PE X (.Compare a [op,op'] [b,c] pos) (zN r r' ta tb tc):=by
 k_in;refine Compare_chain (thE ha I h λv s1 x H1 I1 r1 q1=>chain_link (thE hb I1 q1 λu s2 y H2 I2 r2 q2=>
  thn (ho pins s2 G H2 x y v u _ I2 r1 r2 q2) λd s3 ⟨z,H3,I3,r3,k,e,q3⟩=>?_)) hm
 subst e;cases r3;refine ow ?_
 cases k with
 |false=>exact ite_ff {.bl ML,H3,I3,rfl,q3}
 |true=>exact ite_tt (chain_last (thn (hc pins s3 G H3 _ I3 q3) λw' s4 ⟨z',H4,I4,r4,q4⟩=>ho' pins s4 G H4 y z' u w' Q I4 r2 r4 q4))
theorem Md:(sizeLine:Nat)<2 ^ 63:=by rw[GH];decide
theorem Oa:OpR X (binaryOp .Add) (λx y H Q=>∃i j,x=.str i/\y=.str j/\i.9+j.9<=sizeLine/\Q (.str (i++j)) H):=by
 intro pins s G H x y v u Q I rx ry h;obtain⟨i,j,rfl,rfl,hz,q⟩:=h;obtain⟨t,rfl⟩:=rx;obtain⟨t',rfl⟩:=ry;exact add_str (λt' tk=>{.str (i++j),H,I.tok _,{_,rfl},q}) hz
theorem E4 {x:V}(r:A5 [x] us):∃u,us=[u]/\Bh x u:=by
 cases r with
 |cons r1 r2=>cases r2;exact{_,rfl,r1}
theorem Vp {x:V}(r:A5 [x,y] us):∃u w',us=[u,w']/\Bh x u/\Bh y w':=by
 cases r with
 |cons r1 r2=>
  cases r2 with
  |cons r3 r4=>cases r4;exact{_,_,rfl,r1,r3}
theorem Aa1:Fw X (.builtin "abs") (λxs H Q=>∃i,xs=[.int i]/\Q (.int (if i<0 then -i else i)) H):=by
 intro pins s G H xs us Q I r h;obtain⟨i,rfl,q⟩:=h;obtain⟨u,rfl,t,rfl⟩:=E4 r;exact call_abs_int λu tk=>{.int (if i<0 then -i else i),H,I.tok _,{_,rfl},q}
theorem Yz (hc:X.calm=MK):Fw X (.builtin "max") (λxs H Q=>∃i j,xs=[.int i,.int j]/\Q (.int (if j>i then j else i)) H):=by
 intro pins s G H xs us Q I r h;obtain⟨i,j,rfl,q⟩:=h;obtain⟨u,w',rfl,⟨t,rfl⟩,⟨t',rfl⟩⟩:=Vp r;refine max_two_ints (I.ok.hd hc) λh' tk k=>{_,H,I.kept k,?_,q}
 by_cases hj:j>i
 .rw[if_pos hj,if_pos hj];exact{_,rfl}
 .rw[if_neg hj,if_neg hj];exact{_,rfl}
theorem Rj (hc:X.calm=MK):Fw X (.builtin "min") (λxs H Q=>∃i j,xs=[.int i,.int j]/\Q (.int (if j<i then j else i)) H):=by
 intro pins s G H xs us Q I r h;obtain⟨i,j,rfl,q⟩:=h;obtain⟨u,w',rfl,⟨t,rfl⟩,⟨t',rfl⟩⟩:=Vp r;refine min_two_ints (I.ok.hd hc) λh' tk k=>{_,H,I.kept k,?_,q}
 by_cases hj:j<i
 .rw[if_pos hj,if_pos hj];exact{_,rfl}
 .rw[if_neg hj,if_neg hj];exact{_,rfl}
end
structure mL (h:ki) (x dx C:ee) (mA:Za2):Prop where
 obj:h.get? x=mn (instObj C dx)
 ns:h.Ns1 dx mA
 ne:dx≠x
theorem uZ {mA:Za2}(n:h.Ns1 dx mA):∃od,h.get? dx=mn od/\∀name,lookIn name od=mn (mA name):=by
 obtain⟨o,es,ep,ho,hd,hk,_,hm⟩:=n;refine{o,ho,λname=>?_};have e:=hm name;unfold nsFind findBy at e;rw[<-Array.find?_toList] at e;unfold lookIn;rw[hd];dsimp only;split
 .rename_i y q
  rw[q] at e;exact congrArg mn e
 .rename_i q
  rw[q] at e;have a:es.toList.any (·.refKey)=ML:=by
   rw[List.any_eq_false];intro y hy;obtain⟨z,t,hkey⟩:=hk y (Array.mem_toList_iff.mp hy);simp[MF,hkey]
  have a':¬ es.toList.any (·.refKey)=MK:=by rw[a];exact io
  rw[if_neg a'];exact congrArg mn e
theorem mL.look {x:ee}{mA:Za2}(I:mL h x dx C mA):∃od,PySem.W.InstAt h x (instObj C dx) C (mn od)/\∀name,lookIn name od=mn (mA name):=
 let ⟨od,ho,hl⟩:=uZ I.ns
 {od,⟨I.obj,rfl,rfl,ho⟩,hl}
section
variable {prog:gu} {w:i7} {A:jp} {E:Za0} {s:fz} {K:d5} {x dx C f:ee} {mA:Za2} {name:Str} {v:ft}
theorem Ac3 {expr:Bool}{Q:Za0}(X:K.In s.5)(I:mL s.5 x dx C mA)(hg:wl K C name=MK)(hh:yc K C=MK)
  (ha:lu K (.ref C) name=mn tp)(hv:mA name=mn v)(hv':EI v=MK)(h:Q v { s with toks:=s.toks+1 }) :
  wpAny (model prog w) A (getAttr (.ref x) name expr) Q E s:=by
 obtain⟨od,J,hl⟩:=I.look;exact PySem.W.get_value X J (xo hg).1 (PySem.W.findObj_own hh ha rfl (by rw[hl,hv])) hv' h
theorem wO {Q:ft×Za3->fz->Prop}(X:K.In s.5)(I:mL s.5 x dx C mA)(hg:wl K C name=MK)
  (hf:lu K (.ref C) name=mn (mn (.ref f)))(ht:sk K (.ref f)=MK)(hv:mA name=tp)(h:Q (.ref f,[.ref x]) s) :
  wpAny (model prog w) A (getMethod (.ref x) name pl) Q E s:=by
 obtain⟨od,J,hl⟩:=I.look;exact PySem.W.method_fn X J (xo hg).1 (xo hg).2 hf (beq_iff_eq.mp ht) (by show(lookIn name od).map (·.isSome)=mn ML;rw[hl,hv];rfl) h
theorem Acz {ns:Za6}{Q:Unit->fz->Prop}(X:K.In s.5)(I:mL s.5 x dx C mA)
  (hs:lu K (.ref C) "__setattr__"=mn (mn (.builtin "object.__setattr__")))(hp:DQ K C=MK)(ht:ze K C name=mn tp)(hh:yc K C=MK)
  (hw:CT mA ns)(hsz:ns.9<=sizeLine)
  (h:∀h',mL h' x dx C (λy=>if y=name then mn v else mA y)->w8 dx s.5 h'->Q .unit { s with heap:=h',toks:=s.toks+2 }) :
  wpAny (model prog w) A (setAttr (.ref x) name v) Q E s:=by
 obtain⟨od,J,hl⟩:=I.look;refine PySem.W.set_plain X J hs (PySem.W.osa_open (s:={ s with toks:=s.toks+1 }) (r:=tp) X J hp ht λb=>?_);obtain⟨cd,hc,hd'⟩:=PySem.W.any_some hh;have hx:s.heap.get? x=mn {.ref C,mn dx,.plain,#[]}:=I.obj;refine wpAny_bind (fu (wpAny_bind (wpAny_bind (wpAny_loadPart hx (wpAny_bind (IE (s:={ s with toks:=s.toks+1 }) (PySem.W.looks_clsIn X hc) ?_))))));rw[hd'];refine fu (a:=mn dx) (wpAny_bind (fu (wpAny_bind ?_)));refine wpAny_nsSet1 (s:={ s with toks:=s.toks+1 }) I.ns λh' hn2 hs2=>?_;obtain⟨oD,esD,epD,hoD,hdD,hcD⟩:=hn2.count (JE name v hw);refine wpAny_bind (wpAny_lookBehind hoD (by rw[hdD];exact pastItsLine_dict (iw hcD (by rw[f8];lia))) ?_);exact fu (h _ {(hs2.2 _ (qz I.ne)).trans I.obj,hn2,I.ne} hs2)
theorem Abm {R:yq->fz->Prop}{kw:List (Str×ft)}(X:K.In s.5)(hm:EV K C=MK)
  (hi:lu K (.ref C) "__init__"=mn (mn (.ref f)))(hf:PySem.W.typeIn K (.ref f)=mn (.type "function"))
  (h:codeAny (model prog w) (A.under (.builtin "type.__call__" {.ref C::vs,kw})) (.call (.ref f) {.ref (s.heap.objs.8+1)::vs,kw}) (PySem.W.InitBack (s.heap.objs.8+1) R)
   { s with heap:=(s.heap.push emptyDict).push (instObj C s.heap.objs.8) }) :
  codeAny (model prog w) A (.call (.ref C) ⟨vs,kw⟩) R s:=by
 obtain⟨hh,g,d,t,os⟩:=s;exact PySem.W.make_core (PySem.W.makes_of X hm) (PySem.W.looks_findIn X hi) (λself=>PySem.W.bind_fn X self hf) (.inl rfl) h
end
def Co (f : Str)(v : V) : List (Str × V)->List (Str × V)
  | [] => [(f, v)]
  | (g, x) :: r => if g = f then (g, v) :: r else (g, x) :: Co f v r
theorem Sk (f g:Str)(v:V):∀ fs:List (Str×V),(Co f v fs).lookup g=if g=f then mn v else fs.lookup g
  | [] => by
    show qk g [(f, v)] = _
    by_cases h : g = f
    · have hb : (g == f) = MK := beq_iff_eq.mpr h
      simp only [qk, hb, if_pos h]
    · have hb : (g == f) = ML := beq_eq_false_iff_ne.mpr h
      simp only [qk, hb, if_neg h]
  | (k, x) :: r => by
    have ih := Sk f g v r;rw [show Co f v ((k, x) :: r) = (if k = f then (k, v) :: r else (k, x) :: Co f v r) from rfl]
    by_cases hk : k = f
    · rw [if_pos hk]
      by_cases h : g = k
      · have hb : (g == k) = MK := beq_iff_eq.mpr h
        simp only [qk, hb, if_pos (h.trans hk)]
      · have hb : (g == k) = ML := beq_eq_false_iff_ne.mpr h
        simp only [qk, hb, if_neg (λe : g = f => h (e.trans hk.symm))]
    · rw [if_neg hk]
      by_cases h : g = k
      · have hb : (g == k) = MK := beq_iff_eq.mpr h
        simp only [qk, hb, if_neg (λe : g = f => hk (h.symm.trans e))]
      · have hb : (g == k) = ML := beq_eq_false_iff_ne.mpr h
        simp only [qk, hb];exact ih
theorem Rt (f:Str)(v:V):∀ fs:List (Str×V),f∈(Co f v fs).map (·.1)/\∀ g,g∈fs.map (·.1)->g∈(Co f v fs).map (·.1)
  | [] => {by simp [Co], λg h => by simp at h}
  | (k, x) :: r => by
    obtain ⟨i1, i2⟩ := Rt f v r;rw [show Co f v ((k, x) :: r) = (if k = f then (k, v) :: r else (k, x) :: Co f v r) from rfl]
    by_cases hk : k = f
    · rw [if_pos hk]
      subst hk;exact {by simp, λg h => by simpa using h}
    · rw [if_neg hk]
      refine {?_, λg h => ?_}
      · rw [gt]
        exact gn _ i1
      · rw [gt] at h ⊢
        rcases jn.mp h with e | e
        · exact jn.mpr (.inl e)
        · exact gn _ (i2 g e)
theorem Sa (f:Str)(v:V):∀ fs:List (Str×V),(Co f v fs).9<=fs.9+1
  | [] => by simp [Co]
  | (k, x) :: r => by
    have ih := Sa f v r;rw [show Co f v ((k, x) :: r) = (if k = f then (k, v) :: r else (k, x) :: Co f v r) from rfl]
    by_cases hk : k = f
    · rw [if_pos hk, f8, f8]; lia
    · rw [if_neg hk, f8, f8]; lia
theorem Op.some_of {v:V}{o:Za7}(r:Op (mn v) o):∃u,o=mn u/\Bh v u:=by
 cases o with
 |none=>exact(show False from r).elim
 |some u=>exact⟨u,rfl,r⟩
theorem Op.none_of {o:Za7}(r:Op tp o):o=tp:=by
 cases o with
 |none=>rfl
 |some u=>exact(show False from r).elim
theorem vD {v:V}{u:ft}(r:Bh v u):EI u=MK:=by
 cases v with
 |non=>cases(show u=ya from r);rfl
 |bl b=>cases(show u=AK b from r);rfl
 |int i=>obtain⟨t,e⟩:=(show ∃t,u=nu i t from r);cases e;rfl
 |str x=>obtain⟨t,e⟩:=(show ∃t,u=xq x t from r);cases e;rfl
 |byt b=>obtain⟨t,e⟩:=(show ∃t,u=HS b t from r);cases e;rfl
 |flt b=>obtain⟨t,e⟩:=(show ∃t,u=DJ b t from r);cases e;rfl
 |ref a=>cases(show u=ka a from r);rfl
 |ty n=>cases(show u=nq n from r);rfl
section
variable {P:gu} {w:i7} {H H':Hp} {h h':ki} {a C dx:ee} {fs fs':List (Str×V)}
theorem Tq (hok:HOk P w H h)(e:H a=mn (.ins C dx fs)):∃mA,mL h a dx C mA/\(∀f,Op (fs.lookup f) (mA f))/\CT mA (fs.map (·.1))/\fs.9<=1000/\H dx=mn (.own a):=by
 obtain⟨d,z,ne,ob,mA,n,r,q⟩:=(show De P w H h a (.ins C dx fs) from hok a _ e);exact{mA,⟨ob,n,ne⟩,r,q,z,d}
end
theorem Cls.get {K:d5}(c:Cls K C)(f:Str):wl K C f=MK:=c.pg
def Ay (K:d5)(C:ee)(f:Str):Prop:=lu K (.ref C) f=mn tp
theorem Ay.taker {K:d5}{f:Str}(n:Ay K C f):ze K C f=mn tp:=by
 unfold ze;rw[show lu K (.ref C) f=mn tp from n];rfl
structure Acw (K:d5) (C:ee) (m:Str) (f:ee):Prop where
 at_:lu K (.ref C) m=mn (mn (.ref f))
 fn:sk K (.ref f)=MK
 kp:lp K (.ref f)=MK
section
variable {X:Cx} {pins:Za1} {G:St} {H:Hp} {s:fz} {a C dx:ee} {fs:List (Str×V)} {f:Str} {v:V} {A:jp} {E:Za0}
theorem oN {b:Bool}{Q:Za0}(I:Inv X pins G H s)(e:H a=mn (.ins C dx fs))(c:Cls X.K C)(n:Ay X.K C f)(l:fs.lookup f=mn v)
  (h:∀u s',Inv X pins G H s'->Bh v u->Q u s'):wpAny (model X.prog X.w) A (getAttr (.ref a) f b) Q E s:=by
 obtain⟨mA,O,r,_,_,_⟩:=Tq I.hok e;obtain⟨u,hu,ru⟩:=Op.some_of (v:=v) (o:=mA f) (by rw[<-l];exact r f);exact Ac3 I.kIn O (c.get f) c.hd n hu (vD ru) (h u _ (I.tok _) ru)
theorem Xa {m:Str}{g:ee}{Q:ft×Za3->fz->Prop}(I:Inv X pins G H s)(e:H a=mn (.ins C dx fs))(c:Cls X.K C)(k:Acw X.K C m g)(l:fs.lookup m=tp)
  (h:Q (.ref g,[.ref a]) s):wpAny (model X.prog X.w) A (getMethod (.ref a) m pl) Q E s:=by
 obtain⟨mA,O,r,_,_,_⟩:=Tq I.hok e;have hn:mA m=tp:=Op.none_of (by rw[<-l];exact r m);exact wO I.kIn O (c.get m) k.at_ k.fn hn h
theorem oG {u:ft}{Q:Unit->fz->Prop}(I:Inv X pins G H s)(e:H a=mn (.ins C dx fs))(c:Cls X.K C)(n:Ay X.K C f)(hl:fs.9<1000)(ry:Bh y u)
  (h:∀s',Inv X pins G (upd H a (.ins C dx (Co f y fs))) s'->Q .unit s'):wpAny (model X.prog X.w) A (setAttr (.ref a) f u) Q E s:=by
 obtain⟨mA,O,r,wi,_,ho⟩:=Tq I.hok e;have hz:(fs.map (·.1)).9<=sizeLine:=by rw[d4,GH];lia
 refine Acz I.kIn O c.sa c.po n.taker c.hd wi hz λh' O' sb=>h _ ?_;have hd:∃o,h'.get? dx=mn o:=let ⟨o,_,_,e',_⟩:=O'.ns;⟨o,e'⟩;refine I.write (x:=a) (e:=dx) (by rw[e];exact si) (.inr ho) (λb q hb z=>(sb.2 b hb).trans z) hd ?_;refine{by rw[Al O.ne];exact ho,?_,O.ne,O'.obj,_,O'.ns,λg=>?_,λg hg=>?_}
 .have:=Sa f y fs;lia
 .show Op ((Co f y fs).lookup g) (if g=f then mn u else mA g)
  rw[Sk]
  by_cases q:g=f
  .rw[if_pos q,if_pos q];exact ry
  .rw[if_neg q,if_neg q];exact r g
 .by_cases q:g=f
  .rw[q];exact(Rt f y fs).1
  .refine(Rt f y fs).2 g (wi g λz=>hg ?_)
   show(if g=f then mn u else mA g)=tp;rw[if_neg q];exact z
theorem Inv.made (I:Inv X pins G H s):Inv X pins G (upd (upd H s.heap.objs.8 (.own (s.heap.objs.8+1))) (s.heap.objs.8+1) (.ins C s.heap.objs.8 []))
  { s with heap:=(s.heap.push emptyDict).push (instObj C s.heap.objs.8) }:=by
 have e1:(s.heap.push emptyDict).get? s.heap.objs.8=mn emptyDict:=ik s.5 rfl;have e2:((s.heap.push emptyDict).push (instObj C s.heap.objs.8)).get? (s.heap.objs.8+1)=mn (instObj C s.heap.objs.8):=by
  have:=ik (s.heap.push emptyDict) (o:=instObj C s.heap.objs.8) rfl
  rwa [vy] at this
 have e3:(s.heap.push emptyDict).Ns s.heap.objs.8 (λ_=>tp):={emptyDict,#[],_,e1,rfl,(λe he=>absurd he (by simp)),λ_=>rfl};have I1:=I.laid (a:=s.heap.objs.8) (o:=.own (s.heap.objs.8+1)) (h':=s.heap.push emptyDict) (t':=s.toks) (λb u q=>fe _ q) (d8 _) {_,e1};refine I1.laid (a:=s.heap.objs.8+1) (o:=.ins C s.heap.objs.8 []) (t':=s.toks) (λb u q=>fe _ q) (oz (vy _ _)) ?_;have ne:s.heap.objs.8≠s.heap.objs.8+1:=ip (uw _);refine{by rw[Al ne,Ac],gy _,ne,e2,λ_=>tp,(Heap.Ns1.of_empty e3).at λo q=>fe _ q,λ_=>si,λy hy=>absurd rfl hy}
theorem Abx {prog:gu}{e:jk}{f:Str}{Q:Za0}(hb:attributeBase e f env (eval e env)=eval e env)
  (h:wpAny (model prog w) A (eval e env) (λo QM=>wpAny (model prog w) A (getAttr o f MK) Q E QM) E s):wpAny (model prog w) A (eval (.Attribute e f pos) env) Q E s:=
 Attribute_any_ h (by rw[arm_eval_Attribute,hb])
end
def Ado (K:d5)(ta:TE)(f:Str):TE:=λG H Q=>ta G H λx H1=>∃a C dx fs v,x=.ref a/\H1 a=mn (.ins C dx fs)/\Cls K C/\Ay K C f/\fs.lookup f=mn v/\Q v H1
def Agi (K:d5)(ta tv:TE)(f:Str):TS:=λD G H=>tv G H λy H1=>ta G H1 λx H2=>∃a C dx fs,x=.ref a/\H2 a=mn (.ins C dx fs)/\Cls K C/\Ay K C f/\fs.9<1000 /\
 D.nx G (upd H2 a (.ins C dx (Co f y fs)))
section
variable {X:Cx} {o e value:jk} {f:Str} {pos pos' tpos:Pos} {ta tv:TE}
theorem wI (he:PE X e ta)(hb:attributeBase e f X.env (eval e X.env)=eval e X.env):PE X (.Attribute e f pos) (Ado X.K ta f):=by
 k_in;refine Abx hb (thE he I h λu s1 x H1 I1 rx ⟨a,C,dx,fs,v,ex,ea,c,n,l,q⟩=>?_);subst ex;obtain rfl:u=ka a:=rx;exact oN I1 ea c n l λu' s2 I2 ru=>⟨v,H1,I2,ru,q⟩
theorem Afm (ha:PE X o ta)(hv:PE X value tv)(hs:swapsWith value (mn (.Attribute o f pos')) pos.line X.env=pure ML):PS X (.Assign [.Attribute o f pos'] value pos) (Agi X.K ta tv f):=by
 k_end;refine plainObj_wpAny_Assign_Attribute (thE hv I h λu s1 y H1 I1 ry q=>thE ha I1 q λov s2 x H2 I2 rx ⟨a,C,dx,fs,ex,ea,c,n,l,q2⟩=>?_) hs;subst ex;obtain rfl:ov=ka a:=rx;exact oG I2 ea c n l ry λs3 I3=>{G,_,I3,q2}
end
section
variable {X:Cx} {pins:Za1} {G:St} {H:Hp} {s:fz} {A:jp} {E:Za0} {Q:Za0} {c:ft} {b:Bool}
inductive Rf (K:d5) (H:Hp):V->ft->Prop where
 |non:Rf K H .non (.type "NoneType")
 |bl (x:Bool):Rf K H (.bl x) (.type "bool")
 |int (i:Int):Rf K H (.int i) (.type "int")
 |str (x:Str):Rf K H (.str x) (.type "str")
 |flt (x:UInt64):Rf K H (.flt x) (.type "float")
 |lst {a:ee} {xs:List V} (e:H a=mn (.lst xs)):Rf K H (.ref a) (.type "list")
 |frz {a:ee} {o:Obj} {xs:List V} (e:H a=mn (.frz o (.lst xs))):Rf K H (.ref a) (.type "list")
 |tup {a:ee} {xs:List V} (e:H a=mn (.tup xs)):Rf K H (.ref a) (.type "tuple")
 |dK {a:ee} {kvs:List (Key×V)} (e:H a=mn (.dK kvs)):Rf K H (.ref a) (.type "dict")
 |dT {a:ee} {kvs:List (List Key×V)} (e:H a=mn (.dT kvs)):Rf K H (.ref a) (.type "dict")
 |ins {a C dx:ee} {fs:List (Str×V)} (e:H a=mn (.ins C dx fs)) (cl:Cls K C) (ha:lu K (.ref C) "__class__"=mn (mn (.builtin "object.__class__")))
   (hn:PySem.W.specialIn K (.builtin "object.__class__") "__get__"=mn (mn (.builtin "getset_descriptor.__get__"))) (htk:PySem.W.takesIn K (.builtin "object.__class__")=mn MK)
   (hm:PySem.W.mroIn K C (.type "object")=mn MK):Rf K H (.ref a) (.ref C)
theorem uT {x:V}{u t:ft}(I:Inv X pins G H s)(rx:Bh x u)(ty:Rf X.K H x t)(e:kitOne X.K t c=mn b)(h:∀tk,Q (.bool b) { s with toks:=tk }) :
  wpAny (model X.prog X.w) A (call (.builtin "isinstance") [u,c]) Q E s:=by
 cases ty with
 |non=>cases(show u=ya from rx);exact vj PySem.W.kitx_none I.kIn si e (λz=>nomatch z) h
 |bl y=>cases(show u=AK y from rx);exact vj PySem.W.kitx_bool I.kIn si e (λz=>nomatch z) h
 |int i=>obtain⟨t,q⟩:=(show ∃t,u=nu i t from rx);cases q;exact vj PySem.W.kitx_int I.kIn si e (λz=>nomatch z) h
 |str y=>obtain⟨t,q⟩:=(show ∃t,u=xq y t from rx);cases q;exact vj PySem.W.kitx_str I.kIn si e (λz=>nomatch z) h
 |flt y=>obtain⟨t,q⟩:=(show ∃t,u=DJ y t from rx);cases q;exact vj PySem.W.kitx_float I.kIn si e (λz=>nomatch z) h
 | @lst a xs ea=>
  cases(show u=ka a from rx);obtain⟨_,_,n,_,h1⟩:=(show De X.prog X.w H s.5 a (.lst xs) from I.hok a _ ea);exact vj DR I.kIn {_,h1,rfl} e (λz=>nomatch z) h
 | @frz a ob xs ea=>
  cases(show u=ka a from rx);obtain⟨_,_,_,n,_,h1⟩:=(show De X.prog X.w H s.5 a (.frz ob (.lst xs)) from I.hok a _ ea);exact vj DR I.kIn {_,h1,rfl} e (λz=>nomatch z) h
 | @tup a xs ea=>
  cases(show u=ka a from rx);obtain⟨_,_,_,p⟩:=(show De X.prog X.w H s.5 a (.tup xs) from I.hok a _ ea);obtain⟨o,h1,h2,_⟩:=p;exact vj PySem.W.kitx_tuple I.kIn ⟨o,h1,h2⟩ e (λz=>nomatch z) h
 | @dK a kvs ea=>
  cases(show u=ka a from rx);obtain⟨_,_,vs,_,p⟩:=(show De X.prog X.w H s.5 a (.dK kvs) from I.hok a _ ea);obtain⟨o,es,ep,h1,h2,_⟩:=p;exact vj DS I.kIn ⟨o,h1,h2.1⟩ e (λz=>nomatch z) h
 | @dT a kvs ea=>
  cases(show u=ka a from rx);obtain⟨_,_,xs,_,o,es,ep,h1,h2,_⟩:=(show De X.prog X.w H s.5 a (.dT kvs) from I.hok a _ ea);exact vj DS I.kIn ⟨o,h1,h2.1⟩ e (λz=>nomatch z) h
 | @ins a C dx fs ea cl ha hn htk hm=>
  cases(show u=ka a from rx);obtain⟨mA,O,_⟩:=Tq I.hok ea;obtain⟨od,J,_⟩:=O.look;exact vj (PySem.W.kitx_own (cl.get _) cl.hd ha hn htk hm) I.kIn J e (λz=>nomatch z) h
end
theorem Cz.mono {j k:Nat}(r:Cz k A)(h:j<=k):Cz j A:={r.hd,by have:=r.dp;lia,by have:=r.un;lia}
theorem Cz.m {j k:Nat}(r:Cz k A)(h:autoParam (j<=k) QF):Cz j A:=r.mono h
theorem Cz.deeper {k:Nat}(r:Cz (k+1) A)(env:Env):Cz k (A.deeper env):=
 {r.hd,by have:=r.dp;show A.depth+1+3*k+5<_;lia,by have:=r.un;show A.units+3+16*k+200<_;lia}
theorem nZ {kw:List (Str×ft)}:(A.under (.builtin "type.__call__" {.ref C::us,kw})).depth=A.depth+1:=by
 first|rfl|simp[CQ,Code.weight,Code.isCreation,Code.isGuard,Code.isCaller,IX,DD,guardIds]
theorem pD {kw:List (Str×ft)}:(A.under (.builtin "type.__call__" {.ref C::us,kw})).units=A.units+1:=by
 first|rfl|simp[CQ,Code.cUnits,IX,DD]
theorem Cz.make {k:Nat}(r:Cz (k+1) A)(C:ee)(us:Za3)(kw:List (Str×ft)):Cz k (A.under (.builtin "type.__call__" {.ref C::us,kw})):=
 {r.hd,by have:=r.dp;rw[nZ];lia,by have:=r.un;rw[pD];lia}
theorem Cz.depth {k:Nat}(r:Cz k A):A.depth<recursionLimit:=by have:=r.dp;lia
theorem Cz.units {k:Nat}(r:Cz k A):A.units+64<cLine:=by have:=r.un;lia
def Sx:TA:=λ_ H Q=>Q [] H
def Yt (ta:TE)(tr:TA):TA:=λG H Q=>ta G H λx H1=>tr G H1 λxs H2=>Q (x::xs) H2
section
variable {X:Cx} {e:jk} {es:List jk} {te:TE} {t:TA} {pos:Pos}
theorem Ab:PA X [] Sx:=λ_ _ _ _ H Q I h=>tm {[],H,I,.nil,h}
theorem tN (ha:PE X e te)(hr:PA X es t)(hs:autoParam (starEach (e::es) X.env=(ML,eval e X.env)::starEach es X.env) QD):PA X (e::es) (Yt te t):=by
 intro pos pins s G H Q I h;rw[hs];show wpAny _ _ (spliced ((ML,eval e X.env)::backTo pos (starEach es X.env))) _ _ s;refine o9 (thE ha I h λu s1 x H1 I1 r1 q1=>?_);exact thA hr I1 q1 λus s2 xs H2 I2 r2 q2=>⟨x::xs,H2,I2,.cons r1 r2,q2⟩
def Aiy (t:TA):TE:=λG H Q=>t G H λxs H1=>xs.9<=sizeLine/\∀p,H1 p=tp->Q (.ref p) (upd H1 p (.tup xs))
def Ahm (t:TA):TE:=λG H Q=>t G H λxs H1=>xs.9<=sizeLine/\∀p,H1 p=tp->Q (.ref p) (upd H1 p (.lst xs))
theorem Lb {x1}(h:PA X es t):PE X (.Tuple es x1 pos) (Aiy t):=by
 intro pins s G H Q I hq;refine wpAny_Tuple_spliced (thA h I hq λus s1 xs H1 I1 r ⟨z,q⟩=>{by rw[<-r.9];exact z,?_});have hf:H1 s1.heap.objs.8=tp:=I1.hok.fresh (d8 _);refine{.ref s1.heap.objs.8,upd H1 s1.heap.objs.8 (.tup xs),I1.laid (t':=s1.toks) (λb u e=>fe _ e) (d8 _) ?_,rfl,q _ hf};exact{z,us,r,{_,ik _ rfl,rfl,_,rfl}}
theorem Bs (h:PA X es t):PE X (.List es pos) (Ahm t):=by
 intro pins s G H Q I hq;refine wpAny_List_spliced (thA h I hq λus s1 xs H1 I1 r ⟨z,q⟩=>{by rw[<-r.9];exact z,?_});have hf:H1 s1.heap.objs.8=tp:=I1.hok.fresh (d8 _);refine{.ref s1.heap.objs.8,upd H1 s1.heap.objs.8 (.lst xs),I1.laid (t':=s1.toks) (λb u e=>fe _ e) (d8 _) ?_,rfl,q _ hf};exact{z,us,0,r,ik _ rfl}
end
theorem Xq.make {P:gu}{K:d5}{mg:Za2}{outer:List Env}(e:Xq P w K mg base A outer s H)(C:ee)(us:Za3)(kw:List (Str×ft)) :
  Xq P w K mg base (A.under (.builtin "type.__call__" {.ref C::us,kw})) outer s H:=⟨by first|exact e.frames|(simpa [CQ,Code.envs,DD,pushEnvs] using e.frames),e.mod,e.bs,e.bsz,e.funs,e.frf,e.hok,e.bare⟩
section
variable {X:Cx} {pins:Za1} {G:St} {H:Hp} {s s':fz}
theorem Inv.env0 (I:Inv X pins G H s):Xq X.prog X.w X.K X.mg X.base X.A X.stack s H:=
 {I.ok.frames,I.ok.mod,I.bs,iw I.ok.bsz I.sz,I.stack,I.stkFree,I.hok,I.bare}
theorem Inv.after {Q:VK}{u:ft}(I:Inv X pins G H s)(h:CE X.stack X.prog X.w H s Q u s'):EP X pins G Q u s':=by
 obtain⟨v,H',os,bare,un,hok,r,q⟩:=h;obtain⟨hh,g,d,t,os'⟩:=s';obtain rfl:os'=s.os:=os;exact{v,H',I.call (h':=hh) (g':=g) (d':=d) (t':=t) (ch:=[]) un hok bare (λb z=>absurd z (by simp)),r,q}
end
def qH (sp:Sp)(dvs:List V)(E:XK)(t:TA):TE:=λG H Q=>t G H λvs H1=>sp (vs++dvs) H1 Q E
def Oi (C:ee)(m:Str)(sp:Sp)(dvs:List V)(E:XK)(ta:TE)(t:TA):TE:=λG H Q=>ta G H λx H1=>∃a dx fs,x=.ref a/\H1 a=mn (.ins C dx fs)/\fs.lookup m=tp /\
 t G H1 λvs H2=>sp (x::(vs++dvs)) H2 Q E
def qD (C:ee)(sp:Sp)(dvs:List V)(E:XK)(t:TA):TE:=λG H Q=>t G H λvs H1=>∀x dx,H1 x=tp->H1 dx=tp->dx≠x ->
 sp (.ref x::(vs++dvs)) (upd (upd H1 dx (.own x)) x (.ins C dx [])) (λv H2=>v=.non/\Q (.ref x) H2) E
def Fu (K:d5)(fd:ky)(ps:Za6)(ds:Za3):Prop:=
 ∀(s:fz) (us:Za3),K.In s.5->(us++ds).9=ps.9->DF s fd {us,[]} (ps.zip (us++ds))
theorem Fu.all {K:d5}(h:∀us:Za3,us.9=ps.9->bindArgs fd {us,[]}=pure (ps.zip us)):Fu K fd ps []:=λs us _ hl=>by
 rw[gp] at hl ⊢;exact .of_eq (h us hl)
def K8 (CX:CXT)(X:Cx)(E:XK):Prop:=∀(pins:Za1) (G:St) (H:Hp) (s:fz) (e:ft) (s':fz),Inv X pins G H s->CX X.stack H s E e s'->X.xe e s'
section
variable {X:Cx} {CX:CXT} {k:Nat} {f C:ee} {fd:ky} {ps:Za6} {sp:Sp} {dvs:List V} {ds:Za3} {E:XK} {x m:Str} {p pos apos:Pos} {e o:jk} {es:List jk} {ta:TE} {t:TA}
theorem Z6 {G:St}{Q:VK}{vs:List V}(F:Av X.prog X.w X.K X.mg X.base CX k f fd ps sp)(hr:Cz k X.A)(hb:Fu X.K fd ps ds)(hd:A5 dvs ds)(hx:K8 CX X E)
  (I:Inv X pins G H s)(r:A5 vs us)(h:sp (vs++dvs) H Q E):wpAny (model X.prog X.w) X.A (call (.ref f) us) (EP X pins G Q) X.xe s:=by
 have r2:A5 (vs++dvs) (us++ds):=r.append hd;have hl:(us++ds).9=ps.9:=by rw[<-r2.9];exact F.len _ _ _ _ h
 refine zy (wk (F.run X.A X.stack s H {us,[]} (us++ds) (vs++dvs) Q E hr I.env0 (hb s us I.kIn hl) r2 h) λr s' hq=>?_)
 cases r with
 |error e=>exact hx pins G H s e s' I hq
 |ok fl=>
  cases fl with
  |ret u=>exact I.after hq
  |next=>exact l8 hq
  |brk=>exact l8 hq
  |cont=>exact l8 hq
theorem Aci (F:Av X.prog X.w X.K X.mg X.base CX k f fd ps sp)(hr:Cz k X.A)(hg:Gl X x)(hm:X.mg x=mn (.ref f))(hk:lp X.K (.ref f)=MK)(hb:Fu X.K fd ps ds)(hd:A5 dvs ds)(hx:K8 CX X E)
  (ha:PA X (e::es) t)(hdb:autoParam ((x==("__debug__":Str))=ML) QF)(he:autoParam (starEach (e::es) X.env=(ML,eval e X.env)::starEach es X.env) QD)(hpl:autoParam ((backTo pos (starEach es X.env)).any (·.1)=ML) QD) :
  PE X (.Call (.Name x p) (e::es) [] pos) (qH sp dvs E t):=by
 k_in;refine wpAny_Call_Name_kw (Pa I hg hm ?_ hdb);refine callWith_K (h₀:=X.base) I.ok.mod.kin hk (thA ha I h λus s1 vs H1 I1 r q=>{I1.kIn,?_}) he hpl;exact Z6 F hr hb hd hx I1 r q
theorem Adn (he:PE X o ta)(c:Cls X.K C)(hm:Acw X.K C m f)(F:Av X.prog X.w X.K X.mg X.base CX k f fd ps sp)(hr:Cz k X.A)(hb:Fu X.K fd ps ds)(hd:A5 dvs ds)(hx:K8 CX X E)(ha:PA X (e::es) t)
  (hst:autoParam (starEach (e::es) X.env=(ML,eval e X.env)::starEach es X.env) QD)(hpl:autoParam ((backTo pos (starEach es X.env)).any (·.1)=ML) QD)
  (ht:autoParam (eval (.Call (.Attribute o m apos) (e::es) [] pos) X.env=(do
   let ov <-eval o X.env
   standAt apos.atName
   let (f,first) <-holding [ov] (getMethod ov m pl)
   callWith pos f first (backTo pos (starEach (e::es) X.env)) (backToKw pos (keywordEach [] X.env)))) QD) :
  PE X (.Call (.Attribute o m apos) (e::es) [] pos) (Oi C m sp dvs E ta t):=by
 k_in;refine CG (pl:=pl) (thE he I h λu s1 x H1 I1 rx ⟨a,dx,fs,ex,ea,l,q⟩=>?_) ht;subst ex;obtain rfl:u=ka a:=rx;refine Xa I1 ea c hm l ?_;refine callWith_K (first:=[.ref a]) (h₀:=X.base) I.ok.mod.kin hm.kp (thA ha I1 q λus s2 vs H2 I2 r q2=>{I2.kIn,?_}) hst hpl;exact Z6 (us:=.ref a::us) (vs:=.ref a::vs) F hr hb hd hx I2 (.cons rfl r) q2
theorem Aaw (he:PE X o ta)(c:Cls X.K C)(hm:Acw X.K C m f)(F:Av X.prog X.w X.K X.mg X.base CX k f fd ps sp)(hr:Cz k X.A)(hb:Fu X.K fd ps ds)(hd:A5 dvs ds)(hx:K8 CX X E)
  (ht:autoParam (eval (.Call (.Attribute o m apos) [] [] pos) X.env=(do
   let ov <-eval o X.env
   standAt apos.atName
   let (f,first) <-holding [ov] (getMethod ov m pl)
   callWith pos f first (backTo pos (starEach [] X.env)) (backToKw pos (keywordEach [] X.env)))) QD) :
  PE X (.Call (.Attribute o m apos) [] [] pos) (Oi C m sp dvs E ta Sx):=by
 k_in;refine CG (pl:=pl) (thE he I h λu s1 x H1 I1 rx ⟨a,dx,fs,ex,ea,l,q⟩=>?_) ht;subst ex;obtain rfl:u=ka a:=rx;refine Xa I1 ea c hm l ?_;exact PySem.W.callWith_K0 (first:=[.ref a]) I1.kIn hm.kp (Z6 (us:=[.ref a]) (vs:=[.ref a]) F hr hb hd hx I1 (.cons rfl .nil) q)
structure Mk (K:d5) (C f:ee):Prop where
 makes:EV K C=MK
 init:lu K (.ref C) "__init__"=mn (mn (.ref f))
 fn:sk K (.ref f)=MK
 kp:lp K (.ref C)=MK
theorem zU {G:St}{Q:VK}{vs:List V}(M:Mk X.K C f)(F:Av X.prog X.w X.K X.mg X.base CX k f fd ps sp)(hr:Cz (k+1) X.A)(hb:Fu X.K fd ps ds)(hd:A5 dvs ds)
  (hx:K8 CX X E)(I:Inv X pins G H s)(r:A5 vs us)
  (h:∀x dx,H x=tp->H dx=tp->dx≠x->sp (.ref x::(vs++dvs)) (upd (upd H dx (.own x)) x (.ins C dx [])) (λv H2=>v=.non/\Q (.ref x) H2) E) :
  wpAny (model X.prog X.w) X.A (call (.ref C) us) (EP X pins G Q) X.xe s:=by
 have hq:=h (s.heap.objs.8+1) s.heap.objs.8 (I.hok.fresh (AB _)) (I.hok.fresh (d8 _)) (ip (uw _));have I2:=Inv.made (C:=C) I;have r2:A5 (V.ref (s.heap.objs.8+1)::(vs++dvs)) (ka (s.heap.objs.8+1)::(us++ds)):=.cons rfl (r.append hd);have hl:(ka (s.heap.objs.8+1)::us++ds).9=ps.9:=by
  have e:=r2.9;rw[F.len _ _ _ _ hq] at e;exact e.symm
 refine zy (Abm (f:=f) I.kIn M.makes M.init (beq_iff_eq.mp M.fn) (wk (F.run _ X.stack _ _ {ka (s.heap.objs.8+1)::us,[]} (ka (s.heap.objs.8+1)::(us++ds)) _ _ E (hr.make C us [])
  (I2.env0.make C us []) (hb _ (ka (s.heap.objs.8+1)::us) I2.kIn hl) r2 hq) λr s' hq'=>?_))
 cases r with
 |error e=>exact hx pins G _ _ e s' I2 hq'
 |ok fl=>
  cases fl with
  |ret u=>
   obtain⟨v,H',I3,rv,ev,q3⟩:=I2.after hq';subst ev;exact{rv,{V.ref (s.heap.objs.8+1),H',I3,rfl,q3}}
  |next=>exact l8 hq'
  |brk=>exact l8 hq'
  |cont=>exact l8 hq'
theorem rO (M:Mk X.K C f)(F:Av X.prog X.w X.K X.mg X.base CX k f fd ps sp)(hr:Cz (k+1) X.A)(hg:Gl X x)(hm:X.mg x=mn (.ref C))(hb:Fu X.K fd ps ds)(hd:A5 dvs ds)(hx:K8 CX X E)
  (ha:PA X (e::es) t)(hdb:autoParam ((x==("__debug__":Str))=ML) QF)(he:autoParam (starEach (e::es) X.env=(ML,eval e X.env)::starEach es X.env) QD)(hpl:autoParam ((backTo pos (starEach es X.env)).any (·.1)=ML) QD) :
  PE X (.Call (.Name x p) (e::es) [] pos) (qD C sp dvs E t):=by
 k_in;refine wpAny_Call_Name_kw (Pa I hg hm ?_ hdb);refine callWith_K (h₀:=X.base) I.ok.mod.kin M.kp (thA ha I h λus s1 vs H1 I1 r q=>{I1.kIn,?_}) he hpl;exact zU M F hr hb hd hx I1 r q
end
def PK (X:Cx)(kws:List AU)(t:TA):Prop:=
 ∀(pos:Pos) (pins:Za1) (s:fz) (G:St) (H:Hp) (Q:List V->Hp->Prop),Inv X pins G H s->t G H Q->wpAny (model X.prog X.w) X.A (evalAll ((backToKw pos (keywordEach kws X.env)).map (·.2))) (AP X pins G Q) X.xe s
section
variable {X:Cx} {CX:CXT} {k:Nat} {f C:ee} {fd:ky} {ps ks:Za6} {sp:Sp} {E:XK} {x m:Str} {p pos apos kpos:Pos} {e o:jk} {es:List jk} {kws:List AU} {te ta:TE} {t tk:TA} {nm:Option Str}
theorem Aaa:PK X [] Sx:=λ_ _ _ _ H Q I h=>wpAny_evalAll_nil {[],H,I,.nil,h}
theorem rQ (ha:PE X e te)(hr:PK X kws t):PK X (⟨nm,e,kpos⟩::kws) (Yt te t):=by
 intro pos pins s G H Q I h;show wpAny _ _ (evalAll ((do let v <-eval e X.env;standAt pos;pure v)::(backToKw pos (keywordEach kws X.env)).map (·.2))) _ _ s;refine wpAny_evalAll_cons (wpAny_bind (thE ha I h λu s1 x H1 I1 r1 q1=>wpAny_bind (w9 (fu ?_))));exact thn (hr pos pins s1 G H1 _ I1 q1) λus s2 ⟨xs,H2,I2,r2,q2⟩=>⟨x::xs,H2,I2,.cons r1 r2,q2⟩
variable {g:Za3->Za3->Za3} {gV:List V->List V->List V}
end
structure Aj (N P:Za6) (sc:qh):Prop where
 kind:sc.kind=.function
 co:sc.isCoroutine=ML
 gen:sc.isGenerator=ML
 nd:N.Nodup
 pre:N.take P.9=P
 par:∀x∈P,sc.names.lookup x=mn .local\/sc.names.lookup x=mn .cell
 nofree:∀y∈sc.names,y.2≠.free
theorem X3 {kindOf:Str->Option sd}{x:Str}:∀ {binds:List (Str×ft)} {m:Za2},(∀ v,(x,v)∉binds)->bindL kindOf binds m x=m x
  | [], _, _ => rfl
  | (n, v) :: r, m, h => by
    unfold bindL;rw [X3 λw hw => h w (gn _ hw)];split
    · have : x ≠ n := by rintro rfl; exact h v ii
      simp [this]
    · rfl
theorem Y4 {kindOf:Str->Option sd}{x:Str}:∀ {binds:List (Str×ft)} {m:Za2},(∀ v,(x,v)∉binds)->bindC kindOf binds m x=m x
  | [], _, _ => rfl
  | (n, v) :: r, m, h => by
    unfold bindC;rw [Y4 λw hw => h w (gn _ hw)];split
    · rfl
    · have : x ≠ n := by rintro rfl; exact h v ii
      simp [this]
theorem Y6 {kindOf:Str->Option sd}{x:Str}{v:ft}:∀{P:Za6} {vs:Za3} {i:Nat} {m:Za2},P.Nodup->P[i]?=mn x->vs[i]?=mn v->kindOf x=mn .local ->
  bindL kindOf (P.zip vs) m x=mn v
 |[],_,_,_,_,h,_,_=>by simp at h
 |_::_,[],_,_,_,_,h,_=>by simp at h
 |p::P,w::vs,0,m,nd,h1,h2,hk=>by
  simp at h1 h2;subst h1;subst h2;show bindL kindOf ((p,w)::P.zip vs) m p=_;unfold bindL;rw[X3 λv hv=>(vd.mp nd).1 (vc hv).1,if_pos hk];simp
 |p::P,w::vs,i+1,m,nd,h1,h2,hk=>by
  show bindL kindOf ((p,w)::P.zip vs) m x=_;unfold bindL;exact Y6 (i:=i) (vd.mp nd).2 (by simpa using h1) (by simpa using h2) hk
theorem Yq {kindOf:Str->Option sd}{x:Str}{v:ft}:∀{P:Za6} {vs:Za3} {i:Nat} {m:Za2},P.Nodup->P[i]?=mn x->vs[i]?=mn v->kindOf x≠mn .local ->
  bindC kindOf (P.zip vs) m x=mn v
 |[],_,_,_,_,h,_,_=>by simp at h
 |_::_,[],_,_,_,_,h,_=>by simp at h
 |p::P,w::vs,0,m,nd,h1,h2,hk=>by
  simp at h1 h2;subst h1;subst h2;show bindC kindOf ((p,w)::P.zip vs) m p=_;unfold bindC;rw[Y4 λv hv=>(vd.mp nd).1 (vc hv).1,if_neg hk];simp
 |p::P,w::vs,i+1,m,nd,h1,h2,hk=>by
  show bindC kindOf ((p,w)::P.zip vs) m x=_;unfold bindC;exact Yq (i:=i) (vd.mp nd).2 (by simpa using h1) (by simpa using h2) hk
def Np (N:Za6)(vs:List V):St:=vs.map mn++d9 (N.9-vs.9) tp
def gL (CX:CXT)(P:gu)(w:i7)(K:d5)(mg:Za2)(base:ki)(N:Za6)(qual:Str)(scope:qh)(f:ee)(cd:ft)(A:jp)(outer:List Env)(s:fz)(H:Hp)(E:XK):Cx where
 prog:=P
 w:=w
 K:=K
 mg:=mg
 base:=base
 A:=A.deeper (envOfC qual scope s.heap.objs.8 f cd)
 N:=N
 QN:=s
 QZ:=H
 env:=envOfC qual scope s.heap.objs.8 f cd
 outer:=outer
 stack:=envOfC qual scope s.heap.objs.8 f cd::outer
 ex:=[]
 calm:=MK
 fn:=λ_=>MK
 pn:=[]
 xe:=λe s'=>wpAny (model P w) (A.deeper (envOfC qual scope s.heap.objs.8 f cd)) (leaving (envOfC qual scope s.heap.objs.8 f cd) e) (λ_ s''=>CX outer H s E e s'') (λe' s''=>CX outer H s E e' s'') s'
theorem kI {x:Str}(h:sc.names.lookup x=mn .cell):∃c,(cellsFrom n sc.names []).lookup x=mn c:=by
 have q:=BP sc.names n [] (.inl h);exact mq.mp q
theorem vA {CX:CXT}{P:gu}{K:d5}{mg:Za2}{f:ee}{cd:ft}{outer:List Env}{s1:fz}{E:XK}{vs:List V}
  (S:Aj N ps scope)(hd:A.handled=tp)(e0:Xq P w K mg base A outer s H)(hl:vs.9=ps.9)(r:A5 vs us)
  (x:InCallC s s.heap.objs.8 (bindL (envOfC qual scope s.heap.objs.8 f cd).kindOf (ps.zip us) λ_=>tp) (cellsFrom (s.heap.objs.8+1) scope.names []) (bindC (envOfC qual scope s.heap.objs.8 f cd).kindOf (ps.zip us) λ_=>tp) s1) :
  Inv (gL CX P w K mg base N qual scope f cd A outer s H E) [] (Np N vs) H s1:=by
 have hpl:ps.9<=N.9:=by have:=congrArg k6 S.pre;rw[fk] at this;lia
 obtain⟨h1,tk,rfl,hk⟩:=x.done;have noA:∀b:ee,b∉(gL CX P w K mg base N qual scope f cd A outer s H E).ex:=λb z=>absurd (show b∈([]:List ee) from z) (by simp);refine⟨{e0.mod,S.kind,rfl,rfl,d8 _,λy z c h1 h2=>?_,λy hy=>?_,λy c _ h=>?_,λ_=>hd,DG e0.frames,.inr ⟨rfl,rfl⟩,λb z=>absurd z (noA b),e0.bs,e0.bsz,λb _ _=>noA b,λb z=>absurd z (noA b),e0.funs,e0.frf},
  rfl,e0.bare,Un.kept hk,{_,x.toInCall.ns,λi y v h1 h2 h3=>?_},λy c h=>{_,x.cell y c h},e0.hok.fresh (d8 _),λy c h=>?_,λp hp=>absurd (show p∈([]:Za1) from hp) (by simp),e0.hok.kept hk,?_⟩
 .exact name_of_addr x.apart (ly h1) (ly h2)
 .have hy:scope.names.lookup y=mn .cell\/scope.names.lookup y=mn .free:=hy
  rcases hy with hy|hy
  .exact kI hy
  .exact absurd rfl (S.nofree _ (ly hy))
 .exact gz (x.above y c (ly h))
 .have hi:i<vs.9:=by
   unfold Np at h2
   by_cases hi:i<vs.9
   .exact hi
   .rw[fg (by simpa using hi)] at h2
    rw[oj] at h2;split at h2<;>cases h2
  have ha:vs[i]?=mn v:=by
   unfold Np at h2;rw[f7 (by simpa using hi),fj] at h2
   cases e:vs[i]? with
   |none=>rw[e] at h2;cases h2
   |some a=>rw[e] at h2;cases h2;rfl
  obtain⟨u,hu,rv⟩:=r.get ha;have hp:ps[i]?=mn y:=by
   rw[<-S.pre,ic ()];exact h1
  have ndP:ps.Nodup:=by rw[<-S.pre];exact S.nd.sublist (List.take_sublist _ _)
  refine{u,rv,?_};rcases S.par y (gi hp) with k|k
  .exact .inl {k,Y6 ndP hp hu k}
  .obtain⟨c,e⟩:=kI (n:=s.heap.objs.8+1) k
   refine .inr {.inl k,c,e,?_};have q:=x.cell y c e;rw[Yq ndP hp hu (by show scope.names.lookup y≠_;rw[k];decide)] at q;exact q
 .exact e0.hok.fresh (gz (x.above y c (ly h)))
 .unfold Np
  show _=N.9;rw[d7,d4,gx];lia
theorem wD {CX:CXT}{P:gu}{K:d5}{mg:Za2}{k:Nat}{f:ee}{name:Str}{body:List jr}{dV kV:ft} 
  {osl:Array (Za7)}(lk:K.lookup f=mn {oc,od,.func (j2 name qual params body scope dV kV doc pm an cdv ct),osl})(hcd:ml K cdv qual=MK)(S:Aj N ps scope)
  (len:∀vs H Q E,sp vs H Q E->vs.9=ps.9)
  (hbody:∀(A:jp) (outer:List Env) (s:fz) (H:Hp) (vs:List V) (Q:VK) (E:XK),Cz k (A.deeper (envOfC qual scope s.heap.objs.8 f cdv))->sp vs H Q E ->
   ∃t,PSs (gL CX P w K mg base N qual scope f cdv A outer s H E) body t/\t { nx:=λ_ H'=>Q .non H',rt:=Q } (Np N vs) H) :
  Av P w K mg base CX (k+1) f (j2 name qual params body scope dV kV doc pm an cdv ct) ps sp:=by
 refine{len,λA outer s H args us vs Q E hr e0 hb r hsp=>?_};have hl:=len _ _ _ _ hsp;have KX:K.In s.5:=e0.mod.kin.keeps λb o e=>(e0.bs b o e).1;have lim:s.heap.NoLimit:=e0.mod.nolimit.keeps λb o e=>(e0.bs b o e).1;have hkind:∀y∈ps.zip us,scope.names.lookup y.1=mn .local\/(scope.names.lookup y.1=mn .cell/\((cellsFrom (s.heap.objs.8+1) scope.names []).lookup y.1).isSome=MK):=λ⟨n,v⟩ hy=>by
  rcases S.par n (vc hy).1 with q|q
  .exact .inl q
  .exact .inr {q,BP _ _ _ (.inl q)}
 refine codeAny_call_function hr.depth (KX _ _ lk) rfl S.co S.gen rfl (PySem.W.codeRec_of KX hcd) (hb _ _ _ _ ?_);refine wpAny_newFunctionEnv_cells S.kind hkind λenv he s1 x=>?_;subst he;refine{lim.keeps x.toInCall.keep,codeAny_func ?_};obtain⟨t,ht,hq⟩:=hbody A outer s H vs Q E (hr.deeper _) hsp;have I:Inv (gL CX P w K mg base N qual scope f cdv A outer s H E) [] (Np N vs) H s1:=vA S hr.hd e0 hl r x;refine p6 (ht [] s1 (Np N vs) H _ I hq) (λfl s' hs=>?_) λe s' hs=>hs;have fin:∀{mt:St} {H':Hp} {v:V} {u:ft},Inv (gL CX P w K mg base N qual scope f cdv A outer s H E) [] mt H' s'->Bh v u->Q v H'->CE outer P w H s Q u s':=
  λ{mt H' v u} J rv q=>⟨v,H',J.os,J.bare,J.base,J.hok,rv,q⟩
 cases fl with
 |ret u=>
  obtain⟨v,mt,H',J,rv,q⟩:=hs;exact fin J rv q
 |next=>
  obtain⟨mt,H',J,q⟩:=hs;exact fin (v:=V.non) (u:=ya) J rfl q
 |brk=>
  obtain⟨_,_,_,q⟩:=hs;exact l8 q
 |cont=>
  obtain⟨_,_,_,q⟩:=hs;exact l8 q
section
variable {X:Cx} {x:Str} {p pos:Pos} {e:jk} {es:List jk} {t:TA} {id T:String} {r:List V->Hp->VK->Prop}
def tCB (r:List V->Hp->VK->Prop)(t:TA):TE:=λG H Q=>t G H λvs H1=>r vs H1 Q
theorem An (hc:Fw X (.builtin id) r)(hg:Gl X x)(hm:X.mg x=tp)(hv:bootBuiltins x=mn (.builtin id))(ha:PA X (e::es) t)(hn:autoParam (x≠"__name__") QF)(hdb:autoParam ((x==("__debug__":Str))=ML) QF)
  (he:autoParam (starEach (e::es) X.env=(ML,eval e X.env)::starEach es X.env) QD)(hpl:autoParam ((backTo pos (starEach es X.env)).any (·.1)=ML) QD):PE X (.Call (.Name x p) (e::es) [] pos) (tCB r t):=by
 k_in;refine wpAny_Call_Name_kw (Ee I hg hm hv ?_ hn hdb);exact JZ (thA ha I h λus s1 vs H1 I1 r1 q1=>hc pins s1 G H1 vs us Q I1 r1 q1) he hpl
theorem Cj (hc:Fw X (.type T) r)(hg:Gl X x)(hm:X.mg x=tp)(hv:bootBuiltins x=mn (.type T))(ha:PA X (e::es) t)(hn:autoParam (x≠"__name__") QF)(hdb:autoParam ((x==("__debug__":Str))=ML) QF)
  (he:autoParam (starEach (e::es) X.env=(ML,eval e X.env)::starEach es X.env) QD)(hpl:autoParam ((backTo pos (starEach es X.env)).any (·.1)=ML) QD):PE X (.Call (.Name x p) (e::es) [] pos) (tCB r t):=by
 k_in;refine wpAny_Call_Name_kw (Ee I hg hm hv ?_ hn hdb);exact i8 (thA ha I h λus s1 vs H1 I1 r1 q1=>hc pins s1 G H1 vs us Q I1 r1 q1) he hpl
end
end _L
variable {C CB CC CL CP CS Pt dx i1 i2 it l1 l2 z:ee} {params:pq} {A:jp} {items:Array ft} {op:x9} {X:_L.Cx} {D:_L.Jm} {env:PySem.Env} {tg:jk} {fd:ky} {base h h':ki} {H H' H1 H2:_L.Hp} {J:_L.It} {pins:Za1} {fp:List ee} {es:List jk} {kz ns:List Int} {l0:List gw} {cs ix:Za4} {N QQ ps:Za6} {xs ys:List _L.V} {us vs:Za3} {M:yu} {n t':Nat} {oT:PySem.Obj} {an od:Option ee} {lpos pos:PySem.Pos} {B:Prop} {sc scope QP:qh} {pl:PySem.Sem Bool} {s:fz} {sp:_L.Sp} {qual:PySem.Str} {te to:_L.TE} {wi:_L.TI} {y:_L.V} {cdv ct doc oc pm:ft} {w:i7}
namespace _T
open PySem PyProof.Rows
section
variable {prog:gu} {w:i7} {A:jp} {E:Za0} {s:fz}
def sIx (n d:Nat):Option Int->Nat
 |none=>d
 |some v=>if v<0 then(v+(n:Int)).toNat else min v.toNat n
theorem sIx_nat (n d k:Nat):sIx n d (mn (k:Int))=min k n:=by
 show(if(k:Int)<0 then((k:Int)+(n:Int)).toNat else min (k:Int).toNat n)=min k n;rw[if_neg (),ig]
theorem sIx_le (n d:Nat)(hd:d<=n)(o:Option Int):sIx n d o<=n:=by
 cases o with
 |none=>exact hd
 |some v=>
  show(if v<0 then(v+(n:Int)).toNat else min v.toNat n)<=n
  by_cases hv:v<0
  .rw[if_pos hv];lia
  .rw[if_neg hv];exact uv _ _
theorem rC (v:Int)(n d:Nat):(if v<0 then max (v+(n:Int)) 0 else min v (n:Int))=((sIx n d (mn v):Nat):Int):=by
 show(if v<0 then max (v+(n:Int)) 0 else min v (n:Int))=(((if v<0 then(v+(n:Int)).toNat else min v.toNat n):Nat):Int)
 by_cases hv:v<0
 .simp only[if_pos hv];lia
 .simp only[if_neg hv]
  obtain⟨m,rfl⟩:=l7 (KP.mp hv);rw[ig];lia
theorem pZ (lo hi:Option Int)(n:Nat):uz lo hi 1 (n:Int)=(((sIx n 0 lo:Nat):Int),((sIx n n hi:Nat):Int)):=by
 have h1:¬((1:Int)<0):=()
 unfold uz;simp only[h1,if_false];refine DT ?_ ?_
 .cases lo with
  |none=>rfl
  |some v=>exact rC v n 0
 .cases hi with
  |none=>rfl
  |some v=>exact rC v n n
theorem oV (i j:Nat):qq (i:Int) (j:Int) 1=j-i:=by
 unfold qq;have h1:(1:Int)>0:=()
 simp only[h1,if_true,IW];split<;>lia
theorem Uz {v:ft}{o:Option Int}{Q:Option Int->fz->Prop}(p:yx v o)(h:Q o s):wpAny (model prog w) A (IZ v) Q E s:=by
 cases p with
 |none=>exact KI h
 |int i t=>exact slicePart_int h
theorem sliceApplied_gen {sl:ee}{vl vu:ft}{lo hi:Option Int}{n:Nat}{Q:Int×Int×Nat->fz->Prop}(hs:s.heap.IsSliceOf sl vl vu .none)(pl:yx vl lo)(pu:yx vu hi)
  (h:Q (((sIx n 0 lo:Nat):Int),1,sIx n n hi-sIx n 0 lo) s):wpAny (model prog w) A (yh (.ref sl) (pure (n:Int))) Q E s:=by
 obtain⟨os,hos,hcs,hds⟩:=id hs;unfold yh JA;refine wpAny_bind (wpAny_bind (rp hos hds (x:=vl) rfl (wpAny_bind (rp hos hds (x:=vu) rfl (wpAny_bind (rp hos hds (x:=.none) rfl (fu ?_)))))));refine wpAny_bind (KI ?_);show wpAny _ _ (if((1:Int)==0)=MK then _ else _) _ _ s;rw[if_neg (by decide)];refine wpAny_bind (Uz pl (wpAny_bind (Uz pu (wpAny_bind (fu ?_)))));show wpAny _ _ (match uz lo hi 1 (n:Int) with|(lo,hi)=>pure (lo,(1:Int),qq lo hi 1)) _ _ s;rw[pZ lo hi n];show wpAny _ _ (pure (((sIx n 0 lo:Nat):Int),(1:Int),qq ((sIx n 0 lo:Nat):Int) ((sIx n n hi:Nat):Int) 1)) _ _ s;rw[oV];exact fu h
theorem yD (xs:Array ft)(i k:Nat):((en k).filterMap λ(m:Nat)=>xs[((i:Int)+(m:Int)*1).toNat]?).6=((xs.toList.drop i).take k).6:=by
 have e:(λ(m:Nat)=>xs[((i:Int)+(m:Int)*1).toNat]?)=λm=>xs[i+m]?:=by
  funext m
  have:((i:Int)+(m:Int)*1).toNat=i+m:=()
  rw[this]
 rw[e];have:=KJ xs i k;rw[List.filterMap_map] at this;have e2:((λx=>xs[x]?) ∘ λx=>i+x)=λm=>xs[i+m]?:=rfl;rw[e2] at this;rw[this]
theorem getItem_tuple_cut {t sl:ee}{items:Array ft}{vl vu:ft}{lo hi:Option Int}{Q:Za0}(ht:IsTup s.5 t items)(hs:s.heap.IsSliceOf sl vl vu .none)(pl:yx vl lo)(pu:yx vu hi)
  (hw:¬(sIx items.8 0 lo=0/\sIx items.8 items.8 hi=items.8))
  (h:Q (.ref s.heap.objs.8) { s with heap:=s.heap.push { cls:=.type "tuple",data:=.seq ((items.toList.drop (sIx items.8 0 lo)).take (sIx items.8 items.8 hi-sIx items.8 0 lo)).6 } })
  (hsz:items.8<=sizeLine):wpAny (model prog w) A (getItem (.ref t) (.ref sl)) Q E s:=by
 have htake:sizeOk (.seq ((items.toList.drop (sIx items.8 0 lo)).take (sIx items.8 items.8 hi-sIx items.8 0 lo)).6):=by
  show((items.toList.drop (sIx items.8 0 lo)).take (sIx items.8 items.8 hi-sIx items.8 0 lo)).toArray.size<=sizeLine;rw[gh,fk,i9,f9];exact iw (uv _ _) (iw (xf _ _) hsz)
 have hj:sIx items.8 items.8 hi<=items.8:=sIx_le _ _ (d8 _) hi;obtain⟨os,hos,hcs,hds⟩:=id hs;have hTs:s.TypeIs (.ref sl) "slice":=⟨os,hos,hcs⟩;unfold getItem
 try with_reducible refine wpAny_holding ?_
 first|refine wpAny_bind (fu ?_)|skip
 refine wpAny_bind (HK ht.typeIs (by decide) ?_);refine wpAny_bind (uh (name:=ll "__getitem__") ht.typeIs lz
  (vf lz ht.typeIs entry_tuple_getitem ?_ (GX _ _)))
 show wpAny _ _ (yg (.ref t) >>= _) _ _ s;refine wpAny_bind (KY ht ?_);refine wpAny_bind (uo hTs ?_);rw[if_pos (by decide)];refine wpAny_bind (sliceApplied_gen hs pl pu ?_);have hno:¬((((sIx items.8 0 lo:Nat):Int)==0&&(1:Int)==1&&(sIx items.8 items.8 hi-sIx items.8 0 lo)==items.8)=MK):=by
  intro q;rw[km,km] at q;have q1:((sIx items.8 0 lo:Nat):Int)=0:=eq_of_beq q.1.1;have q2:sIx items.8 items.8 hi-sIx items.8 0 lo=items.8:=eq_of_beq q.2;exact hw {(),()}
 show wpAny _ _ (if(((sIx items.8 0 lo:Nat):Int)==0&&(1:Int)==1&&(sIx items.8 items.8 hi-sIx items.8 0 lo)==items.8)=MK then _ else _) _ _ s;rw[if_neg hno,yD]
 first
  |exact wpAny_bind (m:=qv _) (ox (fu {_,rfl,fu h}) htake)
  |exact wpAny_bind (m:=qv _) (ox (wpAny_bind (fu (fu {_,rfl,fu h}))) htake)
  |exact wpAny_bind (wpAny_bind (m:=qv _) (ox (fu (fu {_,rfl,fu h})) htake))
  |exact wpAny_bind (wpAny_bind (m:=qv _) (ox (fu {_,rfl,fu h}) htake))
end
end _T
namespace _L
open PySem PySem.Spec PyProof.Rows
abbrev TO:=St->Hp->(Option Int->Hp->Prop)->Prop
def PO (X:Cx)(e:Option jk)(t:TO):Prop:=
 ∀(pins:Za1) (s:fz) (G:St) (H:Hp) (Q:Option Int->Hp->Prop),Inv X pins G H s->t G H Q ->
  wpAny (model X.prog X.w) X.A (evalPart e X.env) (λu s'=>∃o H',Inv X pins G H' s'/\yx u o/\Q o H') X.xe s
def qR:TO:=λ_ H Q=>Q tp H
def Ae0 (t:TE):TO:=λG H Q=>t G H λx H1=>∃i,x=.int i/\Q (mn i) H1
theorem T6:∀{us:Za3},A5 (ns.map V.int) us->ni us ns:=by
 induction ns with
 |nil=>intro us r;rw[vo] at r;cases r;exact .nil
 |cons n ns ih=>
  intro us r;rw[gt] at r
  cases r with
  |cons r1 r2=>
   obtain⟨t,e⟩:=r1;subst e;exact .cons n t (ih r2)
section
variable {X:Cx} {e:jk} {te:TE} {lo hi:Option jk} {tl th:TO} {pos p2:Pos}
theorem Kv:PO X tp qR:=by
 k_in;rw[zp];exact fu {tp,H,I,.none,h}
theorem Bl (h:PE X e te):PO X (mn e) (Ae0 te):=by
 intro pins s G H Q I hw;rw[evalPart_some];refine thE h I hw λu s1 x H1 I1 r1 q1=>?_;obtain⟨i,rfl,q⟩:=q1;obtain⟨t,rfl⟩:=r1;exact{mn i,H1,I1,.int i t,q}
def SlR (X:Cx)(r:V->Option Int->Option Int->Hp->VK->Prop):Prop:=
 ∀(pins:Za1) (s:fz) (G:St) (H:Hp) (x:V) (v vl vu:ft) (lo hi:Option Int) (sl:ee) (Q:VK),Inv X pins G H s->Bh x v->s.heap.IsSliceOf sl vl vu .none->yx vl lo->yx vu hi->r x lo hi H Q ->
  ∃T id,typeLookup (.type T) "__getitem__"=pure (mn (.builtin id))/\s.TypeIs v T/\wpAny (model X.prog X.w) X.A (getItem v (.ref sl)) (EP X pins G Q) X.xe s
def tSl (r:V->Option Int->Option Int->Hp->VK->Prop)(te:TE)(tl th:TO):TE:=λG H Q=>te G H λx H1=>tl G H1 λl H2=>th G H2 λu H3=>r x l u H3 Q
theorem B9 {r:V->Option Int->Option Int->Hp->VK->Prop}(hr:SlR X r)(he:PE X e te)(hl:PO X lo tl)(hu:PO X hi th):PE X (.Subscript e (.Slice lo hi tp p2) pos) (tSl r te tl th):=by
 k_in;refine Subscript_ (thE he I h λv s1 x H1 I1 r1 q1=>?_);refine GF (thn (hl pins s1 G H1 _ I1 q1) λvl s2 ⟨l,H2,I2,pl,q2⟩=>thn (hu pins s2 G H2 _ I2 q2) λvu s3 ⟨u,H3,I3,pu,q3⟩=>?_);rw[zp];refine fu ?_;have I4:Inv X pins G H3 { s3 with heap:=s3.heap.push { cls:=.type "slice",data:=.fields #[vl,vu,.none] } }:=I3.kept (t':=s3.toks) λb ob q=>fe _ q;obtain⟨T,id,hT,ht,hg⟩:=hr pins { s3 with heap:=s3.heap.push { cls:=.type "slice",data:=.fields #[vl,vu,.none] } } G H3 x v vl vu l u s3.heap.objs.8 Q I4 r1 (AE ..) pl pu q3;show wpAny (model X.prog X.w) X.A (subscriptTail e (.Slice lo hi tp p2) v (.ref s3.heap.objs.8)) (EP X pins G Q) X.xe { s3 with heap:=s3.heap.push { cls:=.type "slice",data:=.fields #[vl,vu,.none] } };exact GG (ops:=[.ref s3.heap.objs.8,v]) ht hT hg (by with_unfolding_all rfl)
def Ha (xs:List V)(lo hi:Option Int):List V:=(xs.drop (_T.sIx xs.9 0 lo)).take (_T.sIx xs.9 xs.9 hi-_T.sIx xs.9 0 lo)
theorem Sc (xs:List V)(lo hi:Option Int):(Ha xs lo hi).9<=xs.9:=by
 unfold Ha;rw[fk,i9];exact iw (uv _ _) (xf _ _)
def Ajy (K:d5):V->Option Int->Option Int->Hp->VK->Prop:=λx lo hi H Q=>∃a xs,x=.ref a/\SqT K H a xs /\
 ¬(_T.sIx xs.9 0 lo=0/\_T.sIx xs.9 xs.9 hi=xs.9)/\∀p,H p=tp->Q (.ref p) (upd H p (.tup (Ha xs lo hi)))
theorem Afr:SlR X (Ajy X.K):=by
 intro pins s G H x v vl vu lo hi sl Q I rx hs pl pu h;obtain⟨a,xs,rfl,hx,hw,q⟩:=h;cases rx;obtain⟨its,r,ht,hz⟩:=I.tuple hx;have hlen:its.toArray.8=xs.9:=by rw[gh];exact r.length.symm
 refine{"tuple",_,lz.lookup,ht.typeIs,?_};refine _T.getItem_tuple_cut ht hs pl pu (by rw[hlen];exact hw) ?_ (by rw[hlen];exact hz);rw[hlen];refine{.ref s.heap.objs.8,_,I.laid (t':=s.toks) (o:=.tup (Ha xs lo hi)) (λb ob q=>fe _ q) (d8 _) ?_,rfl,q _ (I.hok.fresh (d8 _))};exact{iw (Sc xs lo hi) hz,_,(r.drop (_T.sIx xs.9 0 lo)).take (_T.sIx xs.9 xs.9 hi-_T.sIx xs.9 0 lo),KB _ _}
end
def ixN (n:Nat)(i:Int):Option Nat:=if 0<=i then(if i<n then mn i.toNat else tp) else if -(n:Int)<=i then mn (i+n).toNat else tp
def atI {α:Type}(xs:List α)(i:Int):Option α:=(ixN xs.9 i).bind λj=>xs[j]?
theorem sH {i:Int}{j:Nat}(h:ixN n i=mn j):seqIndex? i n=mn j/\j<n/\-(n:Int)<=i/\i<n:=by
 unfold ixN at h
 by_cases h0:0<=i
 .rw[if_pos h0] at h
  by_cases h1:i<n
  .rw[if_pos h1] at h
   have e:i.toNat=j:=fc h;exact{by rw[BY h0 h1,e],(),(),h1}
  .rw[if_neg h1] at h;cases h
 .rw[if_neg h0] at h
  by_cases h1:-(n:Int)<=i
  .rw[if_pos h1] at h
   have e:(i+n).toNat=j:=fc h;exact{by rw[AG () h1,e],(),h1,()}
  .rw[if_neg h1] at h;cases h
theorem Zd {α:Type}{xs:List α}{i:Int}{v:α}(h:atI xs i=mn v):∃j,seqIndex? i xs.9=mn j/\xs[j]?=mn v/\j<xs.9/\-(xs.9:Int)<=i/\i<xs.9:=by
 unfold atI at h
 cases e:ixN xs.9 i with
 |none=>rw[e] at h;cases h
 |some j=>
  rw[e] at h;obtain⟨h1,h2,h3,h4⟩:=sH e;exact⟨j,h1,h,h2,h3,h4⟩
theorem Bg {α:Type}{xs:List α}{j:Nat}{v:α}(h:xs[j]?=mn v):atI xs (j:Int)=mn v:=by
 have hj:j<xs.9:=(fq.mp h).1;have e:ixN xs.9 (j:Int)=mn j:=by
  unfold ixN;rw[if_pos (),if_pos ()];simp
 unfold atI;rw[e];exact h
theorem Ow {α:Type}(xs:List α)(v:α):atI (xs++[v]) (-1)=mn v:=by
 have hl:(xs++[v]).9=xs.9+1:=by simp
 have e:ixN (xs++[v]).9 (-1)=mn xs.9:=by
  unfold ixN;rw[hl,if_neg (by decide),if_pos ()];congr 1;lia
 unfold atI;rw[e];show(xs++[v])[xs.9]?=mn v;simp
def qY (b:jk):Prop:=∀o i,subscripted b ML o i=operate [o,i] (getItem o i)
def IxR (X:Cx)(r:R2):Prop:=
 ∀(value Oe:jk) (pins:Za1) (s:fz) (G:St) (H:Hp) (x y:V) (v u:ft) (Q:VK),Inv X pins G H s->Bh x v->Bh y u->r x y H Q ->
  subscripted Oe ML v u=operate [v,u] (getItem v u)->wpAny (model X.prog X.w) X.A (subscriptTail value Oe v u) (EP X pins G Q) X.xe s
def MtR (X:Cx)(id:String)(r:V->List V->Hp->VK->Prop):Prop:=
 ∀(pins:Za1) (s:fz) (G:St) (H:Hp) (x:V) (xs:List V) (v:ft) (us:Za3) (Q:VK),Inv X pins G H s->Bh x v->A5 xs us->r x xs H Q ->
  wpAny (model X.prog X.w) X.A (call (.builtin id) (v::us)) (EP X pins G Q) X.xe s
section
variable {X:Cx} {a b:jk} {ta tb:TE} {pos:Pos}
theorem Ai0 {r:R2}(hr:IxR X r)(ha:PE X a ta)(hb:PE X b tb)(hs:qY b):PE X (.Subscript a b pos) (tOp r ta tb):=by
 k_in;exact Subscript_ (Aga ha hb I h λv u s2 x y H2 I2 rx ry q=>hr a b pins s2 G H2 x y v u Q I2 rx ry q (hs _ _))
def Acn (K:d5):R2:=λx y H Q=>∃p xs i v,x=.ref p/\y=.int i/\SqL K H p xs/\atI xs i=mn v/\Q v H
def Ag7 (K:d5):R2:=λx y H Q=>∃p xs i v,x=.ref p/\y=.int i/\SqT K H p xs/\atI xs i=mn v/\Q v H
theorem By:IxR X (Acn X.K):=by
 intro value Oe pins s G H x y v u Q I rx ry h hs;obtain⟨p,xs,i,z,rfl,rfl,hq,he,q⟩:=h;cases rx;obtain⟨t,rfl⟩:=ry;obtain⟨its,r,pl,hz⟩:=I.list hq;obtain⟨j,h1,h2,h3,h4,h5⟩:=Zd he;obtain⟨w,ew,rw'⟩:=r.get h2;have hl:=r.9;have hn:=Md;have fin:EP X pins G Q w s:=⟨z,H,I,rw',q⟩
 by_cases h0:0<=i
 .have hj:i.toNat=j:=by
   rw[BY h0 h5] at h1;exact fc h1
  exact item_listR pl.isList h0 () (by rw[hj];simpa using ew) fin hs
 .have hj:(i+(its.toArray.8:Int)).toNat=j:=by
   rw[AG () h4] at h1;rw[gh,<-hl];exact fc h1
  exact FH (x:=w) pl.isList.typeIs slot_list_getitem.lookup
   (FG (Q:=λr s'=>r=w/\EP X pins G Q r s') pl.isList () (by rw[gh]<;>lia) () (by rw[hj];simpa using ew) ⟨rfl,fin⟩) hs
theorem Fm:IxR X (Ag7 X.K):=by
 intro value Oe pins s G H x y v u Q I rx ry h hs;obtain⟨p,xs,i,z,rfl,rfl,hq,he,q⟩:=h;cases rx;obtain⟨t,rfl⟩:=ry;obtain⟨its,r,pl,hz⟩:=I.tuple hq;obtain⟨j,h1,h2,h3,h4,h5⟩:=Zd he;obtain⟨w,ew,rw'⟩:=r.get h2;have hl:=r.9;have hn:=Md;have fin:EP X pins G Q w s:=⟨z,H,I,rw',q⟩;exact FH (x:=w) pl.typeIs slot_tuple_getitem.lookup
  (getItem_tuple (j:=j) (Q:=λr s'=>r=w/\EP X pins G Q r s') pl () () (by rw[gh,<-hl];exact h1) (by simpa using ew) ⟨rfl,fin⟩) hs
theorem mV (its:Za3)(n j:Nat)(u:ft):lw (·.setIfInBounds j u) { cls:=.type "list",data:=.seq its.6 n }={ cls:=.type "list",data:=.seq (its.set j u).6 n }:=by
 simp[lw]
theorem Inv.lst {G:St}{p:ee}(I:Inv X pins G H s)(h:H p=mn (.lst xs)) :
  ∃(its:Za3) (n:Nat),A5 xs its/\s.heap.get? p=mn { cls:=.type "list",data:=.seq its.6 n }/\xs.9<=sizeLine:=by
 obtain⟨z,its,n,r,e⟩:=I.hok p _ h;exact⟨its,n,r,e,z⟩
theorem Inv.lstUpd {G:St}{p:ee}{its its':Za3}{n':Nat}{f:Obj->Obj}(I:Inv X pins G H s)(h:H p=mn (.lst xs))
  (ho:s.heap.get? p=mn { cls:=.type "list",data:=.seq its.6 n })(hf:f { cls:=.type "list",data:=.seq its.6 n }={ cls:=.type "list",data:=.seq its'.6 n' })(r:A5 ys its')(hz:ys.9<=sizeLine)(t:Nat) :
  Inv X pins G (upd H p (.lst ys)) { s with heap:=s.heap.update p f,toks:=t }:=by
 have e:(s.heap.update p f).get? p=mn { cls:=.type "list",data:=.seq its'.6 n' }:=by
  rw[qr f ho (by rw[hf]<;>rfl),hf]
 refine I.write (x:=p) (e:=p) (by rw[h];trivial) (.inl rfl) (λb u hb q=>(j0 _ _ (qz hb)).trans q) {_,e} ?_;exact⟨hz,its',n',r,e⟩
def Aem:V->V->V->Hp->(Hp->Prop)->Prop:=λo i v H Q=>∃p xs k j,o=.ref p/\i=.int k/\H p=mn (.lst xs)/\ixN xs.9 k=mn j/\Q (upd H p (.lst (xs.set j v)))
theorem Ma:Acl X Aem:=by
 intro pins s G H o i v ov iv u Q I ro ri rv h;obtain⟨p,xs,k,j,rfl,rfl,hp,hj,q⟩:=h;cases ro;obtain⟨t,rfl⟩:=ri;obtain⟨its,n,r,ho,hz⟩:=I.lst hp;obtain⟨h1,h2,h3,h4⟩:=sH hj;have hl:=r.9;have hn:=Md;have I':Inv X pins G (upd H p (.lst (xs.set j v))) { s with heap:=s.heap.update p (lw (·.setIfInBounds j u)) }:=
  I.lstUpd hp ho (mV its n j u) (r.set rv j) (by rw[se];exact hz) s.toks
 by_cases h0:0<=k
 .have hk:k.toNat=j:=by
   rw[BY h0 h4] at h1;exact fc h1
  exact PySem.W.ki_setAt ho h0 () (by rw[gh,<-hl];exact h4) (by rw[hk];exact{_,I',q})
 .have hk:(k+(its.toArray.8:Int)).toNat=j:=by
   rw[AG () h3] at h1;rw[gh,<-hl];exact fc h1
  exact PySem.W.ki_setBack ho () (by rw[gh,<-hl];exact h3) () (by rw[hk];exact{_,I',q})
theorem Zi (lo hi:Option Int)(n:Nat):(sliceBounds lo hi tp n).1=((_T.sIx n 0 lo:Nat):Int)/\(sliceBounds lo hi tp n).2.1=((_T.sIx n n hi:Nat):Int)/\(sliceBounds lo hi tp n).2.2=1:=by
 refine{?_,?_,rfl}
 .cases lo with
  |none=>simp[sliceBounds,_T.sIx]
  |some i=>
   simp only[sliceBounds,_T.sIx,EW,show(1:Int)>0 by decide,if_true]
   by_cases h:i<0
   .simp only[h,if_true]<;>lia
   .simp only[h,if_false]
    obtain⟨m,rfl⟩:=l7 (KP.mp h);rw[ig];lia
 .cases hi with
  |none=>simp[sliceBounds,_T.sIx]
  |some i=>
   simp only[sliceBounds,_T.sIx,EW,show(1:Int)>0 by decide,if_true]
   by_cases h:i<0
   .simp only[h,if_true]<;>lia
   .simp only[h,if_false]<;>lia
theorem Xo (its:Za3)(lo hi:Option Int):slicePick its.6 lo hi tp=((its.drop (_T.sIx its.9 0 lo)).take (_T.sIx its.9 its.9 hi-_T.sIx its.9 0 lo)).6:=by
 obtain⟨h1,h2,h3⟩:=Zi lo hi its.toArray.8;unfold slicePick;rw[h1,h2,h3];simp only[KH,KJ,gh]<;>rfl
def Aj2 (K:d5):V->Option Int->Option Int->Hp->VK->Prop:=λx lo hi H Q=>∃a xs,x=.ref a/\SqL K H a xs/\∀p,H p=tp->Q (.ref p) (upd H p (.lst (Ha xs lo hi)))
theorem G9:SlR X (Aj2 X.K):=by
 intro pins s G H x v vl vu lo hi sl Q I rx hs pl pu h;obtain⟨a,xs,rfl,hx,q⟩:=h;cases rx;obtain⟨its,r,ht,hz⟩:=I.list hx;have hlen:=r.9;refine{"list",_,slot_list_getitem.lookup,ht.isList.typeIs,?_};refine ED ht.isList hs pl pu .none (by simp) ?_ (by rw[gh]<;>lia)
 rw[Xo,<-hlen];refine{.ref s.heap.objs.8,_,I.laid (t':=s.toks) (o:=.lst (Ha xs lo hi)) (λb ob q=>fe _ q) (d8 _) ?_,rfl,q _ (I.hok.fresh (d8 _))};exact{iw (Sc xs lo hi) hz,_,0,(r.drop (_T.sIx xs.9 0 lo)).take (_T.sIx xs.9 xs.9 hi-_T.sIx xs.9 0 lo),ik _ rfl}
def Io:V->Bool
 |.non=>MK
 |.bl _=>MK
 |.int _=>MK
 |.str _=>MK
 |_=>ML
def eqV:V->V->Bool
 |.non,.non=>MK
 |.bl a,.bl b=>a==b
 |.bl a,.int b=>(if a then 1 else 0)==b
 |.int a,.bl b=>a==(if b then 1 else 0)
 |.int a,.int b=>a==b
 |.str a,.str b=>a==b
 |_,_=>ML
theorem wE {x:V}{u v:ft}(ry:Bh y u)(rx:Bh x v)(fy:Io y=MK)(fx:Io x=MK):EG A s u v (eqV y x):=by
 cases y with
 |non=>
  cases ry
  cases x with
  |non=>cases rx;exact LK _
  |bl b=>cases rx;exact LN b
  |int b=>obtain⟨t,rfl⟩:=rx;exact LM b t
  |str b=>obtain⟨t,rfl⟩:=rx;exact LL b t
  |_=>exact absurd (show ML=MK from fx) io
 |bl a=>
  cases ry
  cases x with
  |non=>cases rx;exact LS a
  |bl b=>cases rx;exact LV a b
  |int b=>obtain⟨t,rfl⟩:=rx;exact LU a b t
  |str b=>obtain⟨t,rfl⟩:=rx;exact LR a b t
  |_=>exact absurd (show ML=MK from fx) io
 |int a=>
  obtain⟨t',rfl⟩:=ry
  cases x with
  |non=>cases rx;exact LO a t'
  |bl b=>cases rx;exact LQ a t' b
  |int b=>obtain⟨t,rfl⟩:=rx;exact LP a t' b t
  |str b=>obtain⟨t,rfl⟩:=rx;exact CF a t' b t
  |_=>exact absurd (show ML=MK from fx) io
 |str a=>
  obtain⟨t',rfl⟩:=ry
  cases x with
  |non=>cases rx;exact LI a t'
  |bl b=>cases rx;exact LJ a t' b
  |int b=>obtain⟨t,rfl⟩:=rx;exact CA a t' b t
  |str b=>obtain⟨t,rfl⟩:=rx;exact LH a t' b t
  |_=>exact absurd (show ML=MK from fx) io
 |_=>exact absurd (show ML=MK from fy) io
def eqU (x:V)(u:ft):Bool:=match u with
 |.none=>eqV .non x
 |.bool b=>eqV (.bl b) x
 |.int i _=>eqV (.int i) x
 |.str z _=>eqV (.str z) x
 |_=>ML
theorem mW {x:V}{u:ft}(r:Bh y u)(f:Io y=MK):eqU x u=eqV y x:=by
 cases y with
 |non=>cases r;rfl
 |bl b=>cases r;rfl
 |int i=>obtain⟨t,rfl⟩:=r;rfl
 |str z=>obtain⟨t,rfl⟩:=r;rfl
 |_=>exact absurd (show ML=MK from f) io
theorem Ug {A:jp}{s:fz}{x:V}{v:ft}(rx:Bh x v)(fx:Io x=MK):∀{xs:List V} {us:Za3},A5 xs us->xs.all Io=MK->∀u∈us,EG A s u v (eqU x u)
 |_,_,.nil,_=>λu hu=>by cases hu
 |y::xs,u::us,.cons r t,f=>λu' hu=>by
  rw[HG,km] at f;rcases jn.mp hu with rfl|hu
  .rw[mW r f.1];exact wE r rx f.1 fx
  .exact Ug rx fx t f.2 u' hu
theorem eF:OpR X (compareOp .NotIn) (λx y H Q=>∃i j,x=.str i/\y=.str j/\Q (.bl (!(!(vt j i 0 j.9 1).isEmpty))) H):=by
 intro pins s G H x y v u Q I rx ry h;obtain⟨i,j,rfl,rfl,q⟩:=h;obtain⟨t,rfl⟩:=rx;obtain⟨t',rfl⟩:=ry;exact notIn_str {.bl _,H,I,rfl,q}
theorem Ao:Fw X (.builtin "len") (λxs H Q=>∃p ys,xs=[.ref p]/\(SqL X.K H p ys\/SqT X.K H p ys)/\Q (.int ys.9) H):=by
 intro pins s G H xs us Q I r h;obtain⟨p,ys,rfl,hq,q⟩:=h;obtain⟨u,rfl,rx⟩:=E4 r;cases rx;have hn:=Md;rcases hq with hq|hq
 .obtain⟨its,r',pl,hz⟩:=I.list hq
  have hlen:=r'.9;exact Calls.call_len_list pl.isList (by simp only[gh]<;>lia) {.int ys.9,H,I.tok _,{s.toks+1,by rw[gh,hlen]},q}
 .obtain⟨its,r',pl,hz⟩:=I.tuple hq
  have hlen:=r'.9;exact len_tuple pl (by simp only[gh]<;>lia) {.int ys.9,H,I.tok _,{s.toks+1,by rw[gh,hlen]},q}
theorem Bw:Fw X (.builtin "len") (λxs H Q=>∃z,xs=[.str z]/\z.9<=sizeLine/\Q (.int z.9) H):=by
 intro pins s G H xs us Q I r h;obtain⟨z,rfl,hz,q⟩:=h;obtain⟨u,rfl,t,rfl⟩:=E4 r;have hn:=Md;exact len_str () {.int z.9,H,I.tok _,{_,rfl},q}
theorem C6:Fw X (.type "list") (λxs H Q=>∃p ys,xs=[.ref p]/\(SqL X.K H p ys\/SqT X.K H p ys)/\∀l,H l=tp->Q (.ref l) (upd H l (.lst ys))):=by
 intro pins s G H xs us Q I r h;obtain⟨p,ys,rfl,hq,q⟩:=h;obtain⟨u,rfl,rx⟩:=E4 r;cases rx;have fin:∀(its:Za3),A5 ys its->ys.9<=sizeLine->∀(h':ki) (c':Nat),(∀b o',s.heap.get? b=mn o'->h'.get? b=mn o') ->
   h'.get? s.heap.objs.8=mn { cls:=.type "list",dict:=tp,data:=.seq its.6 c',slots:=#[] }->EP X pins G Q (.ref s.heap.objs.8) { s with heap:=h' }:=λits r' hz h' c' kp e=>
  {.ref s.heap.objs.8,_,I.laid (t':=s.toks) kp (d8 _) (show De X.prog X.w _ h' _ (.lst ys) from⟨hz,its,c',r',e⟩),rfl,q _ (I.hok.fresh (d8 _))}
 rcases hq with hq|hq
 .obtain⟨its,r',pl,hz⟩:=I.list hq
  have hlen:=r'.9;obtain⟨o,ho,hc,n,hd⟩:=pl.isList;exact LC p (.inl rfl) ho hc hd (λh' c' kp e=>fin its r' hz h' c' kp e) (by simp only[gh]<;>lia)
 .obtain⟨its,r',pl,hz⟩:=I.tuple hq
  have hlen:=r'.9;obtain⟨o,ho,hc,n,hd⟩:=pl;exact LC p (.inr rfl) ho hc hd (λh' c' kp e=>fin its r' hz h' c' kp e) (by simp only[gh]<;>lia)
theorem Gi:Fw X (.type "tuple") (λxs H Q=>∃p ys,xs=[.ref p]/\((SqL X.K H p ys/\∀l,H l=tp->Q (.ref l) (upd H l (.tup ys)))\/(SqT X.K H p ys/\Q (.ref p) H))):=by
 intro pins s G H xs us Q I r h;obtain⟨p,ys,rfl,h⟩:=h;obtain⟨u,rfl,rx⟩:=E4 r;cases rx;rcases h with⟨hq,q⟩|⟨hq,q⟩
 .obtain⟨its,r',pl,hz⟩:=I.list hq
  have hlen:=r'.9;refine call_tuple_list pl.isList (λh' kp=>?_) (by simp only[gh]<;>lia)
  have I1:Inv X pins G H { s with heap:=h' }:=I.kept (t':=s.toks) kp;have I2:Inv X pins G (upd H h'.objs.8 (.tup ys)) { s with heap:=h'.push { cls:=.type "tuple",data:=.seq its.6 } }:=
   I1.laid (t':=s.toks) (λb o e=>fe _ e) (d8 _) (show De X.prog X.w _ _ _ (.tup ys) from{hz,its,r',KB _ _})
  exact{.ref h'.objs.8,_,I2,rfl,q _ (I1.hok.fresh (d8 _))}
 .obtain⟨its,r',pl,hz⟩:=I.tuple hq
  exact call_tuple_same pl {.ref p,H,I,rfl,q}
def tyV (K:d5)(T:String)(x:V)(H:Hp):Prop:=match x with
 |.str _=>T="str"
 |.int _=>T="int"
 |.ref p=>(T="list"/\∃xs,SqL K H p xs)\/(T="tuple"/\∃o,K.lookup p=mn o/\o.cls=.type "tuple"/\o.dict=tp) \/
   (T="dict"/\((∃kvs,H p=mn (.dK kvs))\/∃kvs,H p=mn (.dT kvs)))\/(T="set"/\∃S n,H p=mn (.set S n))
 |_=>False
theorem zW {G:St}{T:String}{x:V}{v:ft}(I:Inv X pins G H s)(r:Bh x v)(ty:tyV X.K T x H) :
  s.TypeIs v T/\∀a,v=.ref a->∃ob,s.heap.get? a=mn ob/\ob.dict=tp:=by
 cases x with
 |str z=>
  obtain⟨t,rfl⟩:=r;cases(show T="str" from ty);exact{xr s z t,λ_ e=>nomatch e}
 |int i=>
  obtain⟨t,rfl⟩:=r;cases(show T="int" from ty);exact{GV s i t,λ_ e=>nomatch e}
 |ref p=>
  cases r;rcases ty with⟨rfl,xs,hq⟩|⟨rfl,o,hk,hc,hd⟩|⟨rfl,hk⟩|⟨rfl,S,n,hk⟩
  .obtain⟨its,_,pl,_⟩:=I.list hq
   refine{pl.isList.typeIs,λa e=>?_};cases e;obtain⟨o,n,e,c,hd,_⟩:=pl;exact⟨o,e,hd⟩
  .refine{{o,I.kIn p o hk,hc},λa e=>?_}
   cases e;exact{o,I.kIn _ o hk,hd}
  .have z:∃o,s.heap.get? p=mn o/\o.ExactDict:=by
    rcases hk with⟨kvs,hk⟩|⟨kvs,hk⟩
    .obtain⟨_,_,_,_,o,_,_,e,ex,_⟩:=I.hok p _ hk
     exact⟨o,e,ex⟩
    .obtain⟨_,_,_,_,o,_,_,e,ex,_⟩:=I.hok p _ hk
     exact⟨o,e,ex⟩
   obtain⟨o,e,ex⟩:=z;refine{⟨o,e,ex.1⟩,λa e2=>?_};cases e2;exact⟨o,e,ex.2.1⟩
  .obtain⟨o,_,_,_,e,ex,_⟩:=I.hok p _ hk
   refine{⟨o,e,ex.1⟩,λa e2=>?_};cases e2;exact⟨o,e,ex.2.1⟩
 |_=>exact l8 ty
def Ahz (K:d5)(T:String)(r:V->List V->Hp->VK->Prop)(to:TE):TE:=λG H Q=>to G H λx H1=>tyV K T x H1/\r x [] H1 Q
def tBM (K:d5)(T:String)(r:V->List V->Hp->VK->Prop)(to:TE)(t:TA):TE:=λG H Q=>to G H λx H1=>tyV K T x H1/\t G H1 λxs H2=>r x xs H2 Q
variable {o e:jk} {es:List jk} {to:TE} {t:TA} {name:Str} {apos cpos:Pos} {T id:String} {r:V->List V->Hp->VK->Prop}
theorem fH (pa:HA T)(slot:Slot T name id)(hty:typeOf (.builtin id)=pure (.type "method_descriptor"))(hm:MtR X id r)(ho:PE X o to)
  (hbase:autoParam (attributeBase o name X.env (eval o X.env)=eval o X.env) QD)(hline:autoParam ((apos.endLine==cpos.line)=MK) QD):PE X (.Call (.Attribute o name apos) [] [] cpos) (Ahz X.K T r to):=by
 k_in;refine wpAny_Call_method0_late hbase hline (thE ho I h λv s1 x H1 I1 r1 ⟨ty,q1⟩=>?_);obtain⟨h1,h2⟩:=zW I1 r1 ty;exact{T,id,pa,slot,hty,h1,h2,CZ rfl (PySem.evalArgs_none (hm pins s1 G H1 x [] v [] Q I1 r1 .nil q1))}
theorem Cl (pa:HA T)(slot:Slot T name id)(hty:typeOf (.builtin id)=pure (.type "method_descriptor"))(hm:MtR X id r)(ho:PE X o to)(ha:PA X (e::es) t)
  (hbase:autoParam (attributeBase o name X.env (eval o X.env)=eval o X.env) QD)
  (hfew:autoParam (((backTo cpos (starEach (e::es) X.env)).all (λx=>!x.1)&&(backToKw cpos (keywordEach [] X.env)).all (λx=>x.1.isSome)
   && decide ((e::es).9+([]:List AU).9+(if([]:List AU).isEmpty then 0 else 1)<30))=MK) QD)
  (hline:autoParam ((apos.endLine==cpos.line)=MK) QD)(hs:autoParam (starEach (e::es) X.env=(ML,eval e X.env)::starEach es X.env) QD)(hplain:autoParam ((backTo cpos (starEach es X.env)).any (·.1)=ML) QD) :
  PE X (.Call (.Attribute o name apos) (e::es) [] cpos) (tBM X.K T r to t):=by
 k_in;refine wpAny_Call_method_late hbase hfew hline rfl (thE ho I h λv s1 x H1 I1 r1 ⟨ty,q1⟩=>?_);obtain⟨h1,h2⟩:=zW I1 r1 ty;refine{T,id,pa,slot,hty,h1,h2,?_};have hA:=ha cpos pins s1 G H1 _ I1 q1;rw[hs] at hA ⊢;refine CZ (by show(ML||(backTo cpos (starEach es X.env)).any (·.1))=ML;rw[hplain]<;>rfl) (Calls.evalArgs_plain ?_)
 exact thn hA λus s2 ⟨vs,H2,I2,r2,q2⟩=>hm pins s2 G H2 x vs v us Q I2 r1 r2 q2
/- xs.append(e),list.index on a module's tuple .. are MtR facts of 06m -/
end
def MtM (X:Cx)(id:String)(r:V->List V->Hp->VK->Prop):Prop:=
 ∀(pins:Za1) (s:fz) (G:St) (H:Hp) (x:V) (xs:List V) (v:ft) (us:Za3) (Q:VK),Inv X pins G H s->Bh x v->A5 xs us->r x xs H Q ->
  wpAny (model X.prog X.w) X.A (call (.builtin id) (v::us)) (EP X pins G Q) X.xe s
theorem A5.one:∀{x:V} {us:Za3},A5 [x] us->∃u,us=[u]/\Bh x u
 |_,_,.cons r .nil=>{_,rfl,r}
theorem A5.zero:∀{us:Za3},A5 [] us->us=[]
 |_,.nil=>rfl
theorem A5.dropLast (h:A5 xs us):A5 xs.dropLast us.dropLast:=by
 induction h with
 |nil=>exact .nil
 |cons r t ih=>
  cases t with
  |nil=>exact .nil
  |cons q t'=>exact .cons r ih
theorem A5.rep {xs:List V}{us:Za3}(h:A5 xs us):∀k:Nat,A5 (d9 k xs).flatten (d9 k us).flatten
 |0=>.nil
 |k+1=>by
  rw[ja,ja,im,im];exact A5.append h (A5.rep h k)
theorem nA {α:Type}(l:List α):l.eraseIdx (l.9-1)=l.dropLast:=by
 induction l with
 |nil=>rfl
 |cons a r ih=>
  cases r with
  |nil=>rfl
  |cons b r=>
   have e:(a::b::r).9-1=((b::r).9-1)+1:=by
    have h1:(a::b::r).9=r.9+2:=rfl;have h2:(b::r).9=r.9+1:=rfl;lia
   rw[e,List.eraseIdx_cons_succ,ih]
   all_goals rfl
theorem Yg (its:Za3):∀(k:Nat) (acc:Za3),
  EZ (λx1 x2=>x1++x2) acc.6 (d9 k its.6)=(acc++(d9 k its).flatten).6
 |0,acc=>by simp
 |k+1,acc=>by
  have e:acc.6++its.6=(acc++its).6:=by simp
  have e2:(acc++its)++(d9 k its).flatten=acc++(d9 (k+1) its).flatten:=by
   rw[ja,im,fh]
  rw[<-e2,<-Yg its k (acc++its),<-e,ja,qp]
section
variable {X:Cx} {pins:Za1} {G:St} {H:Hp} {s:fz} {l b:ee} {xs ys zs:List V}
theorem Inv.lset {its its':Za3}{f:Array ft->Array ft}(I:Inv X pins G H s)(hH:H l=mn (.lst xs))
  (e:s.heap.get? l=mn { cls:=.type "list",data:=.seq its.6 n })(hf:f its.6=its'.6)(hv:A5 ys its')(hz:ys.9<=sizeLine) :
  Inv X pins G (upd H l (.lst ys)) { s with heap:=s.heap.update l (lw f),toks:=t' }:=by
 have q:=MC e f;rw[hf] at q;refine I.write (x:=l) (e:=l) (by rw[hH];exact trivial) (.inl rfl) (λb' u hb hu=>(j0 s.5 (lw f) (qz hb)).trans hu) {_,q} ?_;exact{hz,its',_,hv,q}
theorem Inv.lnew {its:Za3}(I:Inv X pins G H s)(hv:A5 ys its)(hz:ys.9<=sizeLine) :
  Inv X pins G (upd H s.heap.objs.8 (.lst ys)) { s with heap:=s.heap.push { cls:=.type "list",data:=.seq its.6 },toks:=t' }:=
 I.laid (λ_ _ q=>fe _ q) (d8 _) {hz,its,0,hv,ik _ rfl}
theorem Inv.fresh (I:Inv X pins G H s):H s.heap.objs.8=tp:=I.hok.fresh (d8 _)
theorem Inv.lstM (I:Inv X pins G H s)(hH:H l=mn (.lst xs)):xs.9<=sizeLine/\∃(its:Za3) (n:Nat),A5 xs its/\xs.9=its.9/\s.heap.get? l=mn { cls:=.type "list",data:=.seq its.6 n }:=by
 obtain⟨z,its,n,r,e⟩:=I.hok l _ hH;exact⟨z,its,n,r,r.9,e⟩
theorem mC (h:n<=sizeLine):qx n=ML:=by
 unfold qx;exact decide_eq_false ()
end
section
variable {X:Cx}
def sA:V->List V->Hp->VK->Prop:=λx vs H Q=>∃l xs y,x=.ref l/\vs=[y]/\H l=mn (.lst xs)/\xs.9<sizeLine/\Q .non (upd H l (.lst (xs++[y])))
theorem B0:MtM X "list.append" sA:=by
 intro pins s G H x vs v us Q I rx rv h;obtain⟨l,xs,y,rfl,rfl,hH,hz,q⟩:=h;cases rx;obtain⟨u,rfl,ru⟩:=rv.one;obtain⟨z,its,n,r,hl,e⟩:=I.lstM hH;refine qg F.slot_list_append {_,e,rfl} F.entry_list_append (F.args_list_append_2 _ _) (PySem.list_append l its.6 n u (by rw[gh];lia)) {e,?_};refine{.non,_,I.lset (its':=its++[u]) hH e (by simp) (r.append (.cons ru .nil)) ?_,rfl,q};rw[d7,nj];lia
def Adk:V->List V->Hp->VK->Prop:=λx vs H Q=>∃l b xs zs,x=.ref l/\vs=[.ref b]/\H l=mn (.lst xs)/\H b=mn (.lst zs)/\xs.9+zs.9<=sizeLine/\Q .non (upd H l (.lst (xs++zs)))
theorem Yu:MtM X "list.extend" Adk:=by
 intro pins s G H x vs v us Q I rx rv h;obtain⟨l,b,xs,zs,rfl,rfl,hH,hB,hz,q⟩:=h;cases rx;obtain⟨u,rfl,ru⟩:=rv.one;cases ru;obtain⟨z,its,n,r,hl,e⟩:=I.lstM hH;obtain⟨z2,its2,n2,r2,hl2,e2⟩:=I.lstM hB;have hsz:its.toArray.8+its2.toArray.8<=sizeLine:=by rw[gh,gh];lia
 have hlong:¬(!its.toArray.isEmpty&&qx (its.toArray.8+its2.toArray.8))=MK:=by
  rw[mC hsz,Bool.and_false];exact io
 refine qg F.slot_list_extend {_,e,rfl} F.entry_list_extend (F.args_list_extend_2 _ _)
  (AutoSeq1.list_extend_list_list_0 l its.6 n b its2.6 n2 hlong (by rw[gh];lia) ()) {e,e2,?_}
 refine{.non,_,I.lset (its':=its++its2) hH e (by simp) (r.append r2) ?_,rfl,q};rw[d7];lia
def Ajp:V->List V->Hp->VK->Prop:=λx vs H Q=>∃l xs y,x=.ref l/\vs=[]/\H l=mn (.lst xs)/\xs[xs.9-1]?=mn y/\Q y (upd H l (.lst xs.dropLast))
theorem fK:MtM X "list.pop" Ajp:=by
 intro pins s G H x vs v us Q I rx rv h;obtain⟨l,xs,y,rfl,rfl,hH,hy,q⟩:=h;cases rx;have hus:=rv.zero;subst hus;obtain⟨z,its,n,r,hl,e⟩:=I.lstM hH;obtain⟨u,hu,ru⟩:=r.get hy;have hy':its.6[its.toArray.8-1]?=mn u:=by
  show its.6[its.9-1]?=mn u;rw[<-ge,<-hl];exact hu
 refine qg F.slot_list_pop {_,e,rfl} F.entry_list_pop (F.args_list_pop_1 _) (MeetsSeq.list_pop_last l its.6 n u hy' (by rw[gh];lia)) {e,?_};refine{y,_,I.lset (its':=its.dropLast) hH e ?_ r.dropLast ?_,ru,q}
 .show its.toArray.eraseIdxIfInBounds (its.toArray.8-1)=its.dropLast.6
  rw[gh,List.eraseIdxIfInBounds_toArray,nA]
 .rw[DX]
  lia
def Aj4:R2:=λx y H Q=>∃l b xs zs,x=.ref l/\y=.ref b/\H l=mn (.lst xs)/\H b=mn (.lst zs)/\xs.9+zs.9<=sizeLine/\∀p,H p=tp->Q (.ref p) (upd H p (.lst (xs++zs)))
theorem Jj:OpR X (binaryOp .Add) Aj4:=by
 intro pins s G H x y v u Q I rx ry h;obtain⟨l,b,xs,zs,rfl,rfl,hH,hB,hz,q⟩:=h;cases rx;cases ry;obtain⟨z,its,n,r,hl,e⟩:=I.lstM hH;obtain⟨z2,its2,n2,r2,hl2,e2⟩:=I.lstM hB;refine PySem.P.add_list e e2 ?_ (by rw[gh,gh];lia);have ea:its.6++its2.6=(its++its2).6:=by simp
 rw[ea];exact{.ref _,_,I.lnew (t':=s.toks) (r.append r2) (by rw[d7];lia),rfl,q _ I.fresh}
def Aj5:R2:=λx y H Q=>∃l k xs,x=.ref l/\y=.int k/\H l=mn (.lst xs)/\-(2 ^ 63)<=k/\k<2 ^ 63/\xs.9*k.toNat<=sizeLine /\
 ∀p,H p=tp->Q (.ref p) (upd H p (.lst (d9 k.toNat xs).flatten))
theorem sR {α:Type}(xs:List α)(k:Nat):(d9 k xs).flatten.length=k*xs.9:=by
 induction k with
 |zero=>simp
 |succ k ih=>rw[ja,im,d7,ih,DN,rk]
theorem Nx:OpR X (binaryOp .Mult) Aj5:=by
 intro pins s G H x y v u Q I rx ry h;obtain⟨l,k,xs,rfl,rfl,hH,h1,h2,hz,q⟩:=h;cases rx;obtain⟨t,rfl⟩:=ry;obtain⟨z,its,n,r,hl,e⟩:=I.lstM hH;have hlen:its.toArray.8*k.toNat<=sizeLine:=by rw[gh,<-hl];exact hz
 have hcap:¬ its.toArray.8*k.toNat>(2 ^ 63-1)/8:=by
  have:(sizeLine:Nat)<=(2 ^ 63-1)/8:=by decide
  lia
 have hfit:¬(!KF k)=MK:=by
  rw[fitsIndex_both h1 h2];exact io
 have hlong:¬ qx (its.toArray.8*k.toNat)=MK:=by
  rw[mC hlen];exact io
 have hnew:EZ (λx1 x2=>x1++x2) #[] (d9 (if its.toArray.isEmpty=MK then 0 else k.toNat) its.6)=(d9 k.toNat its).flatten.toArray:=by
  have f0:∀m:Nat,EZ (λx1 x2=>x1++x2) #[] (d9 m its.6)=(d9 m its).flatten.toArray:=λm=>by
   have:=Yg its m [];rw[jv] at this;exact this
  rw[f0]
  cases its with
  |nil=>simp
  |cons a r'=>rw[if_neg (by simp)]
 refine wpAny_binaryOp_repeat_ref (T:="list") (U:="int") (by decide) {_,e,rfl} (λs'=>GV s' k t) noFill_list_mul F.fills_int_mul F.slot_int_rmul repeat_list F.slot_int_index.lookup
  (qg F.slot_int_rmul (GV s k t) F.entry_int_rmul (F.args_int_rmul_2 _ _) (int___rmul___int_list k t l its.6 n)
   {e,rfl,{_,e,rfl},qg F.slot_list_mul {_,e,rfl} F.entry_list_mul (F.args_list_mul_2 _ _) (MJ l its.6 n k t hfit hcap hlong) {e,?_}})
 rw[hnew];exact{.ref _,_,I.lnew (t':=s.toks) (r.rep k.toNat) (by rw[sR,zg];exact hz),rfl,q _ I.fresh}
end
end _L
namespace _L
open PySem PySem.Spec PyProof.Rows
abbrev E0:XK:=λ_ _ _=>False
theorem gN:K8 CX0 X E0:=λ_ _ _ _ _ _ _ h=>h.elim
section
variable {P:gu} {w:i7} {K:d5} {mg:Za2} {base:ki}
theorem Fun.ok {x:Str}{st:jr}{f:ee}{k:Nat}(F:Fun K x qual st f fd)(S:Aj N ps (Ad st))(len:∀vs H Q E,sp vs H Q E->vs.9=ps.9)
  (hbody:∀(cdv:ft) (A:jp) (outer:List Env) (s:fz) (H:Hp) (vs:List V) (Q:VK) (E:XK),Cz k (A.deeper (envOfC qual (Ad st) s.heap.objs.8 f cdv))->sp vs H Q E ->
   ∃t,PSs (gL CX0 P w K mg base N qual (Ad st) f cdv A outer s H E).nox (Br st) t/\t { nx:=λ_ H'=>Q .non H',rt:=Q } (Np N vs) H):Av P w K mg base CX0 (k+1) f fd ps sp:=by
 obtain⟨oc,od,kV,doc,pm,an,cdv,ct,osl,rfl,lk,hcd⟩:=F.ex;refine wD lk hcd S len λA outer s H vs Q E hr hsp=>?_;obtain⟨t,h,q⟩:=hbody cdv A outer s H vs Q E hr hsp;exact⟨t,h.nox,q⟩
theorem Fun.binds {x:Str}{st:jr}{f:ee}(F:Fun K x qual st f fd)
  (h:∀(kV doc pm:ft) (an:Option ee) (cdv ct:ft) (us:Za3),us.9=ps.9->bindArgs (j2 x qual (B3 st) (Br st) (Ad st) .none kV doc pm an cdv ct) {us,[]}=pure (ps.zip us)):Fu K fd ps []:=by
 obtain⟨oc,od,kV,doc,pm,an,cdv,ct,osl,rfl,lk,hcd⟩:=F.ex;exact .all (h kV doc pm an cdv ct)
end
theorem Em (h:n<=1000):n<sizeLine:=sv h (by decide)
section
variable {X:Cx}
theorem pv (i:Nat){x:Str}(hN:autoParam (X.N[i]?=mn x) QD)(hv:Vis X.env.scope x:=by first|exact FU rfl|exact wu (FU rfl)|exact wu (wu rfl))(hd:autoParam ((x==("__debug__":Str))=ML) QF)
  (hcd:autoParam ((x==("__classdict__":Str))=ML) QF):PE X (.Name x pos) (kX i):=Aao hN hv hd hcd
end
theorem Aj1 {A:Prop}(h:B):if ML=MK then A else B:=by
 rw[if_neg io];exact h
theorem Ajz {A:Prop}(h:A):if MK=MK then A else B:=by
 rw[if_pos rfl];exact h
def Ah (H H':Hp):Prop:=∀b o,H b=mn o->H' b=mn o
theorem Ah.refl (H:Hp):Ah H H:=λ_ _ h=>h
theorem Ah.trans (a:Ah H H1)(b:Ah H1 H2):Ah H H2:=λc o h=>b c o (a c o h)
theorem Ah.free (e:Ah H H'){l:ee}(h:H' l=HB):H l=HB:=by
 cases q:H l with
 |none=>rfl
 |some o=>
  rw[e l o q] at h;cases h
theorem Ah.seq {K:d5}{a:ee}(e:Ah H H')(h:SqL K H a xs):SqL K H' a xs:=by
 rcases h with(h|⟨o,h⟩)|h
 .exact .inl (.inl (e _ _ h))
 .exact .inl (.inr {o,e _ _ h})
 .exact .inr h
end _L
section
namespace _L
open PySem PySem.Spec PyProof.Rows
section
variable {prog:gu} {w:i7} {A:jp} {R:yq->fz->Prop} {s:fz}
def rL (ifs:List jk)(env:Env):Sem Bool:=
 forIn ifs MK λc r=>if r=MK then do let ok <-isTrue c env (eval c env);pure (rg ok) else pure (rg r)
theorem Abv {elt tg iter:jk}{ifs:List jk}{scope:qh}{pos:Pos}{it acc:ft}{env:Env}(J:Nat->fz->Prop)
  (turn:∀n s,J n s->wpAny (model prog w) A (pyNext it) (λr s1=>match r with
   |none=>R (.ok .next) s1
   |some v=>wpAny (model prog w) A (letOwnedTupleGo tg it v) (λ_ s2=>wpAny (model prog w) A (assign tg env v) (λ_ s3=>wpAny (model prog w) A (rL ifs env) (λok s4=>
     if ok=MK then wpAny (model prog w) A (eval elt env) (λx s5=>wpAny (model prog w) A (call (.builtin "list.append") [acc,x]) (λ_ s6=>∃m,m<n/\J m s6) (λ_ _=>False) s5) (λ_ _=>False) s4
     else ∃m,m<n/\J m s4) (λ_ _=>False) s3) (λ_ _=>False) s2) (λ_ _=>False) s1) (λ_ _=>False) s)
  (n:Nat)(h:J n s):codeAny (model prog w) A (.compLoop (.ListComp elt [{tg,iter,ifs,0}] scope pos) 0 it acc env) R s:=by
 refine codeAny_loop rfl J (λn s hJ=>?_) n h;show wpAny _ A (Sem.onRaise (compTurn (.ListComp elt [{tg,iter,ifs,0}] scope pos) 0 it acc env) _) _ _ s;refine wpAny_noted ?_;rw[compTurn_list];refine wpAny_bind (w9 (wpAny_bind (p6 (turn n s hJ) (λr s1 h1=>?_) (λ_ _ z=>z.elim))))
 cases r with
 |none=>exact fu h1
 |some v=>
  refine wpAny_bind (p6 h1 (λ_ s2 h2=>wpAny_bind (p6 h2 (λ_ s3 h3=>wpAny_bind (p6 h3 (λok s4 h4=>?_) (λ_ _ z=>z.elim))) (λ_ _ z=>z.elim))) (λ_ _ z=>z.elim))
  cases ok with
  |false=>exact fu ⟨rfl,h4⟩
  |true=>exact wpAny_bind (wpAny_bind (p6 h4 (λx s5 h5=>wpAny_bind (p6 h5 (λ_ s6 h6=>fu (fu ⟨rfl,h6⟩)) (λ_ _ z=>z.elim))) (λ_ _ z=>z.elim)))
end
def Fs (env:Env):List (Str×sd)->List (Str×ee)->List (Str×ee)
 |[],cs=>cs
 |y::r,cs=>if y.2=.free then Fs env r ((y.1,(env.cells.lookup y.1).getD 0)::cs) else Fs env r cs
theorem eC {env:Env}(f:Str×sd->List (Str×ee)->Sem (ForInStep (List (Str×ee))))
  (h1:∀y cs c,y.2=.free->env.cells.lookup y.1=mn c->f y cs=pure (.yield ((y.1,c)::cs)))(h2:∀y cs,y.2≠.free->f y cs=pure (.yield cs)) :
  ∀(ns:List (Str×sd)) (cs:List (Str×ee)),(∀y∈ns,y.2=.free->∃c,env.cells.lookup y.1=mn c)->forIn ns cs f=(pure (Fs env ns cs):Sem (List (Str×ee)))
 |[],cs,_=>by simp[Fs]
 |y::r,cs,h=>by
  have hr:∀z∈r,z.2=.free->∃c,env.cells.lookup z.1=mn c:=λz hz=>h z (gn _ hz);rw[xi]
  by_cases hy:y.2=.free
  .obtain⟨c,hc⟩:=h y ii hy
   rw[h1 y cs c hy hc];simp only[Fs,if_pos hy,hc,qc];exact eC f h1 h2 r _ hr
  .rw[h2 y cs hy]
   simp only[Fs,if_neg hy];exact eC f h1 h2 r _ hr
theorem Ob (h:∀y∈scope.names,y.2=.free->∃c,env.cells.lookup y.1=mn c):closureFor scope env=pure (Fs env scope.names []):=by
 unfold closureFor;dsimp only;rw[eC (env:=env) _ (λy cs c hy hc=>?_) (λy cs hy=>?_) scope.names [] h]
 .rfl
 .obtain⟨n,k⟩:=y
  dsimp only at hy hc ⊢;subst hy;simp only[cellOf,hc,beq_self_eq_true,if_true];rfl
 .obtain⟨n,k⟩:=y
  have e:(k==qj)=ML:=by simpa using hy
  simp only[e,ku,if_false]
theorem Mr {env:Env}:∀(ns:List (Str×sd)) (cs:List (Str×ee)) (x:Str) (c:ee),(∀y∈ns,y.2=.free->∃c,env.cells.lookup y.1=mn c) ->
  (∀z d,cs.lookup z=mn d->env.cells.lookup z=mn d)->(Fs env ns cs).lookup x=mn c->env.cells.lookup x=mn c
 |[],cs,x,c,_,hc,h=>hc x c h
 |y::r,cs,x,c,hy,hc,h=>by
  have hr:∀z∈r,z.2=.free->∃c,env.cells.lookup z.1=mn c:=λz hz=>hy z (gn _ hz);unfold Fs at h;split at h
  .rename_i hk
   obtain⟨d,hd⟩:=hy y ii hk;rw[hd] at h;refine Mr r _ x c hr (λz e hz=>?_) h;rw[uk] at hz;split at hz
   .rename_i hzy
    cases hz;rw[eq_of_beq hzy];exact hd
   .exact hc z e hz
  .exact Mr r _ x c hr hc h
theorem N0 {env:Env}:∀(ns:List (Str×sd)) (cs:List (Str×ee)) (x:Str),(cs.lookup x).isSome=MK->((Fs env ns cs).lookup x).isSome=MK
 |[],_,_,h=>h
 |y::r,cs,x,h=>by
  unfold Fs;split
  .refine N0 r _ x ?_
   rw[uk];split
   .rfl
   .exact h
  .exact N0 r _ x h
theorem Hb {env:Env}:∀(ns:List (Str×sd)) (cs:List (Str×ee)) (x:Str),(x,qj)∈ns->((Fs env ns cs).lookup x).isSome=MK
 |[],_,_,h=>by simp at h
 |y::r,cs,x,h=>by
  rcases jn.mp h with e|e
  .subst e
   unfold Fs;rw[if_pos rfl];exact N0 r _ x (by simp)
  .unfold Fs
   split
   .exact Hb r _ x e
   .exact Hb r _ x e
theorem Um {x:Str}{k:sd}(h:(relabel scope env).names.lookup x=mn k):(x,k)∈scope.names\/((x,qj)∈scope.names/\k=AC):=by
 have m:=ly h;obtain⟨⟨n,k'⟩,hm,e⟩:=jq.mp m;dsimp only at e;split at e
 .rename_i hk
  cases e;simp only[km,beq_iff_eq] at hk;rw[hk.1.1] at hm;exact .inr ⟨hm,rfl⟩
 .cases e
  exact .inl hm
theorem eE (hk:env.scope.kind=.function){x:Str}(hx:env.kindOf x=mn .cell)(h:scope.names.lookup x=mn .free):(relabel scope env).names.lookup x=mn .cell:=by
 unfold relabel;show(scope.names.map _).lookup x=mn AC;generalize scope.names=ns at h
 induction ns with
 |nil=>simp at h
 |cons y r ih=>
  obtain⟨n,k⟩:=y;rw[uk] at h;rw[gt];split at h
  .rename_i hn
   cases h;rw[<-eq_of_beq hn];simp[hk,hx]
  .rename_i hn
   dsimp only;split
   .rw[uk,hn];exact ih h
   .rw[uk,hn];exact ih h
def Ek (X:Cx)(scope:qh)(N:Za6)(C:ee)(s:fz)(H:Hp)(fp:List ee):Cx:=
 { X with N:=N,QN:=s,QZ:=H,env:=compEnvC scope (Fs X.env scope.names []) C X.env,outer:=X.stack,ex:=fp,fn:=λ_=>ML,pn:=[],xe:=λ_ _=>False }
structure A7 (QQ:Za6) (QP sc:qh) (x:Str) (N:Za6) (ix:Za4):Prop where
 kind:sc.kind=.function
 nocell:∀y∈sc.names,y.2≠.cell
 names:∀y∈sc.names,y.2=.local->sc.names.lookup y.1=mn .local
 free:∀y∈sc.names,y.2=.free->QP.names.lookup y.1=mn .cell
 nd:N.Nodup
 hd:N.head?=mn x
 loc:sc.names.lookup x=mn .local
 len:N.9=ix.9+1
 at_:∀p∈N.tail.zip ix,QQ[p.2]?=mn p.1/\sc.names.lookup p.1=mn .free
def frV (G:St)(ix:Za4):St:=ix.map λj=>(G[j]?).getD tp
def PIf (X:Cx)(ifs:List jk)(t:TT):Prop:=
 ∀(pins:Za1) (s:fz) (G:St) (H:Hp) (Q:Bool->Hp->Prop),Inv X pins G H s->t G H Q->wpAny (model X.prog X.w) X.A (rL ifs X.env) (TP X pins G Q) X.xe s
def Ahv:TT:=λ_ H Q=>Q MK H
theorem Bx:PIf X [] Ahv:=λpins s G H Q I h=>wpAny_tests_nil ⟨H,I,h⟩
theorem Ta {c:jk}{t:TT}(h:PT X c t):PIf X [c] t:=λpins s G H Q I hw=>wpAny_tests_one (h pins s G H Q I hw)
def Lk (J:It)(H1:Hp)(fr:St)(tc:TT)(te:TE)(Q:VK):Prop:=∀D,H1 D=tp->∃W:Nat->Nat->Hp->Prop,(∃m,W 0 m (upd H1 D (.lst [])))/\∀i m H,W i m H ->
 (J.stop i H/\Q (.ref D) H)\/(J.go i H/\∀x H',J.yld i H x H'->tc (mn x::fr) H' λb H3=>
  if b=MK then te (mn x::fr) H3 λy H4=>∃ys,H4 D=mn (.lst ys)/\ys.9<sizeLine/\∃m',m'<m/\W (i+1) m' (upd H4 D (.lst (ys++[y]))) else ∃m',m'<m/\W (i+1) m' H3)
def rdG (A:V->Hp->List V->Prop)(J:It)(H1:Hp)(fr:St)(tc:TT)(te:TE)(Q:VK):Prop:=∀D,H1 D=tp->∃W:Nat->Nat->Hp->Prop,(∃m,W 0 m (upd H1 D (.lst [])))/\∀i m H,W i m H ->
 (J.stop i H/\Q (.ref D) H)\/(J.go i H/\∀v H',J.yld i H v H'->∃vs,A v H' vs/\tc (vs.map mn++fr) H' λb H3=>
  if b=MK then te (vs.map mn++fr) H3 λy H4=>∃ys,H4 D=mn (.lst ys)/\ys.9<sizeLine/\∃m',m'<m/\W (i+1) m' (upd H4 D (.lst (ys++[y]))) else ∃m',m'<m/\W (i+1) m' H3)
def Tk (n:Nat)(A:V->Hp->List V->Prop)(g:TG):Prop:=∀y H vs (fr:St),A y H vs->vs.9=n/\g y (d9 n tp++fr) H λG H1=>G=vs.map mn++fr/\H1=H
structure LcG (QQ:Za6) (QP sc:qh) (n:Nat) (N:Za6) (ix:Za4):Prop where
 kind:sc.kind=.function
 nocell:∀y∈sc.names,y.2≠.cell
 names:∀y∈sc.names,y.2=.local->sc.names.lookup y.1=mn .local
 free:∀y∈sc.names,y.2=.free->QP.names.lookup y.1=mn .cell
 nd:N.Nodup
 len:N.9=ix.9+n
 at_:∀p∈(N.drop n).zip ix,QQ[p.2]?=mn p.1/\sc.names.lookup p.1=mn .free
def tLc (wi:TI)(ix:Za4)(tc:TT)(te:TE):TE:=λG H Q=>wi G H λJ H1=>Lk J H1 (frV G ix) tc te Q
section
variable {X:Cx} {scope:qh} {N:Za6} {ix:Za4} {x:Str} {px:Pos} {elt iter:jk} {ifs:List jk} {tc:TT} {te:TE} {pos:Pos}
theorem Ahc {G:St}{s2:fz}{tn:Nat->ki->Prop}(L:LcG X.N X.env.scope scope n N ix)(I2:Inv X pins G H2 s2)
  (T:Vf X.prog X.w X.K tg J fp it tn)(st2:tn 0 s2.5)(f2:∀b∈fp,U3 X pins H2 b){s3 s4:fz}{H3:Hp}(I3:Inv X pins G H3 s3)(I4:Inv X pins G H3 s4)(hle:s2.heap.objs.8<=s3.heap.objs.8)
  (hC:C=s3.heap.objs.8)(ho:s4.os=s3.os)(kp:∀b u,s3.heap.get? b=mn u->s4.heap.get? b=mn u){m:Za2}(hns:s4.heap.Ns C m):Inv (Ek X scope N C s3 H3 fp) [] (d9 n tp++frV G ix) H3 s4:=by
 have hfree:∀y∈scope.names,y.2=.free->∃c,X.env.cells.lookup y.1=mn c:=λy hy hf=>I2.ok.has y.1 (.inl (L.free y hy hf));have sub:∀y c,(Fs X.env scope.names []).lookup y=mn c->X.env.cells.lookup y=mn c:=λy c h=>Mr _ _ y c hfree (λ_ _ z=>by simp at z) h;have lt2:∀b∈fp,b<s2.heap.objs.8:=λb hb=>by obtain⟨o,e,_⟩:=T.obj _ _ st2 b hb;exact gd e
 have okY:(Ek X scope N C s3 H3 fp).Ok:=by
  refine⟨I2.ok.mod,L.kind,I2.ok.glob,I2.ok.blt,oz hC.symm,λy z c h1 h2=>I2.ok.inj y z c (sub y c h1) (sub z c h2),λy hy=>?_,λy c z _=>?_,I2.ok.hd,I2.ok.frames,.inl rfl,λb hb=>{?_,λy c h=>(f2 b hb).2.2.2.2.1 y c (sub y c h)},
   I3.bs,iw I3.ok.bsz I3.sz,λb o e hb=>?_,λb hb z=>?_,I3.stack,I3.stkFree⟩
  .have hk:(y,qj)∈scope.names:=by
    rcases hy with hy|hy
    .rcases Um hy with q|q
     .exact absurd rfl (L.nocell _ q)
     .exact q.1
    .rcases Um hy with q|q
     .exact q
     .exact absurd q.2 (by decide)
   exact mq.mp (Hb _ _ y hk)
  .cases(show ML=MK from z)
  .have l:=lt2 b hb
   show b≠C;rw[hC];exact ip (gq l hle)
  .rcases(f2 b hb).2.2.2.1 with q|q
   .exact I2.ok.noex b o e q
   .exact absurd (gq (gd e) (iw I2.ok.bsz q)) (o7 _)
  .rcases jn.mp (I2.stkSub b z) with q|q
   .exact(f2 b hb).2.1 q
   .exact(f2 b hb).2.2.1 q
 refine{okY,ho,I4.bare,Un.kept kp,{m,hns,λi y v h1 h2 h3=>?_},λy c e=>I4.cell y c (sub y c e),?_,λy c e=>I4.freeC y c (sub y c e),λp hp=>absurd (show p∈([]:Za1) from hp) (by simp),I4.hok,?_}
 .rcases ud i n with l|l
  .rw[f7 (by rw[gx];exact l),oj,if_pos l] at h2
   cases h2
  .obtain⟨k,rfl⟩:=l6 l
   rw[fg (by rw[gx];lia),gx,i0] at h2;unfold frV at h2;rw[fj] at h2
   cases hj:ix[k]? with
   |none=>rw[hj] at h2;cases h2
   |some j=>
    rw[hj] at h2;have h2:(G[j]?).getD tp=mn v:=fc h2;have h2':G[j]?=mn (mn v):=by
     cases e:G[j]? with
     |none=>rw[e] at h2;cases h2
     |some z=>rw[e] at h2;exact congrArg mn h2
    have ht:(N.drop n)[k]?=mn y:=by rw[jd];exact h1
    have hz:(y,j)∈(N.drop n).zip ix:=gi (i:=k) (by rw[BV];exact⟨ht,hj⟩);obtain⟨q1,q2⟩:=L.at_ _ hz;have hm:=ly q2;have hcell:=L.free _ hm rfl;obtain⟨m',hn',hl'⟩:=I4.loc;obtain⟨u,r,lk⟩:=hl' j y v q1 h2' (.inr (.inl hcell));refine{u,r,.inr {.inl (eE I2.ok.kind hcell q2),?_}};rcases lk with lk|⟨_,c,e,z⟩
    .rw[show X.env.kindOf y=mn .cell from hcell] at lk
     cases lk.1
    .obtain⟨c',e'⟩:=mq.mp (Hb (env:=X.env) scope.names [] y hm)
     have e2:=sub y c' e';rw[e] at e2;cases e2;exact⟨c,e',z⟩
 .show H3 C=tp
  exact I3.hok.fresh (oz hC.symm)
 .show(d9 n tp++frV G ix).9=N.9
  rw[L.len,d7,gx];simp[frV,rk]
theorem yE {A:V->Hp->List V->Prop}{g:TG}{tgt:jk}(hA:Tk n A g){G:St}{s2:fz}{tn:Nat->ki->Prop}(hc:X.calm=MK)(L:LcG X.N X.env.scope scope n N ix)(I2:Inv X pins G H2 s2)
  (T:Vf X.prog X.w X.K tgt J fp it tn)(st2:tn 0 s2.5)(f2:∀b∈fp,U3 X pins H2 b)
  (hif:∀C s H,PIf (Ek X scope N C s H fp) ifs tc)(he:∀C s H,PE (Ek X scope N C s H fp) elt te){Q:VK}(hg:∀C s H,PG (Ek X scope N C s H fp) tgt g)(rd:rdG A J H2 (frV G ix) tc te Q){RR:ft->ee->yq->fz->Prop}{E:Za0}
  (fin:∀D C H' s' m,Inv X pins G H' s'->s2.heap.objs.8<=C->H' C=tp->s'.heap.Ns C m->Q (.ref D) H'->RR (.ref D) C (.ok .next) s') :
  wpAny (model X.prog X.w) X.A (newList []) (λacc s3=>wpAny (model X.prog X.w) X.A (newFunctionEnv scope X.env.globals (Fs X.env scope.names []) [] X.env.qual tp .none (mn X.env)) (λcenv s4=>
   codeAny (model X.prog X.w) X.A (.compStart (.ListComp elt [{tgt,iter,ifs,0}] scope pos) 0 (.ref it) acc { cenv with scope:=relabel scope X.env }) (RR acc cenv.locals) s4) E s3) E s2:=by
 refine ox (ym L.nocell (by intro y hy;simp at hy) (λh1 hns hsb=>?_) L.kind);dsimp only at hns hsb ⊢;have I3:Inv X pins G (upd H2 s2.heap.objs.8 (.lst [])) { s2 with heap:=s2.heap.push { cls:=.type "list",dict:=tp,data:=.seq ([]:Za3).6 } }:=I2.lnew (its:=[]) (t':=s2.toks) .nil (gy _);generalize hH3:s2.heap.push { cls:=.type "list",dict:=tp,data:=.seq ([]:Za3).6 }=h3 at hns hsb I3 ⊢;have hsz:h3.objs.8=s2.heap.objs.8+1:=by rw[<-hH3,vy]
 have kp34:∀b u,h3.get? b=mn u->h1.get? b=mn u:=λb u e=>hsb.extBut b u (ip (gd e)) (fe _ e);have I4:Inv X pins G (upd H2 s2.heap.objs.8 (.lst [])) { s2 with heap:=h1,toks:=s2.toks+([]:List (Str×ft)).9 }:=I3.kept (t':=s2.toks+([]:List (Str×ft)).9) kp34;have kp24:∀b u,s2.heap.get? b=mn u->h1.get? b=mn u:=λb u e=>kp34 b u (by rw[<-hH3];exact fe _ e);have IY:=Ahc (C:=h3.objs.8) (s3:={ s2 with heap:=h3 }) L I2 T st2 f2 I3 I4 (by show s2.heap.objs.8<=h3.objs.8;lia) rfl rfl kp34 hns;have fD:H2 s2.heap.objs.8=tp:=I2.hok.fresh (d8 _);have lt2:∀b∈fp,b<s2.heap.objs.8:=λb hb=>by obtain⟨o,e,_⟩:=T.obj _ _ st2 b hb;exact gd e
 have st4:tn 0 h1:=T.keep _ _ _ st2 λb _ o e=>kp24 b o e;have stat:∀{pn:Za1} {H':Hp},pn=[]->(∀b∈fp,H' b=tp)->∀b∈fp,U3 (Ek X scope N h3.objs.8 { s2 with heap:=h3 } (upd H2 s2.heap.objs.8 (.lst [])) fp) pn H' b:=λhp hn b hb=>by
  subst hp;exact{hn b hb,(IY.ok.exf b hb).1,IY.ok.exfs b hb,.inl hb,(IY.ok.exf b hb).2,λp hp=>absurd (show p∈([]:Za1) from hp) (by simp)}
 obtain⟨W,⟨m0,w0⟩,turn⟩:=rd _ fD;have loop:codeAny (model X.prog X.w) X.A (.compLoop (.ListComp elt [{tgt,iter,ifs,0}] scope pos) 0 (.ref it) (.ref s2.heap.objs.8) (compEnvC scope (Fs X.env scope.names []) h3.objs.8 X.env)) (RR (.ref s2.heap.objs.8) h3.objs.8)
   { s2 with heap:=h1,toks:=s2.toks+([]:List (Str×ft)).9 }:=by
  refine Abv (λμ s'=>∃i H',Inv (Ek X scope N h3.objs.8 { s2 with heap:=h3 } (upd H2 s2.heap.objs.8 (.lst [])) fp) [] (d9 n tp++frV G ix) H' s'/\tn i s'.5/\(∀b∈fp,H' b=tp)/\W i μ H') ?_ m0
   {0,_,IY,st4,λb hb=>by rw[Al (ip (lt2 b hb))];exact(f2 b hb).1,w0}
  rintro μ s5 ⟨i,H5,I5,st5,fr5,w5⟩;rcases turn i μ H5 w5 with⟨stop,q⟩|⟨go,step⟩
  .refine thn (T.done (Ek X scope N h3.objs.8 { s2 with heap:=h3 } (upd H2 s2.heap.objs.8 (.lst [])) fp) rfl rfl rfl hc i [] s5 _ H5 (λ_ _=>False) I5 (stat rfl fr5) st5 stop) λr s6 ⟨hr,I6⟩=>?_
   subst hr;obtain⟨m6,hn6,_⟩:=I6.loc;have u1:Un (frs X.stack) fp H2 (upd H2 s2.heap.objs.8 (.lst [])) s2.5 h3:=Un.laid (λb u e=>by rw[<-hH3];exact fe _ e) (d8 _) fD;have back:Inv X pins G H5 s6:=I2.call' (ch:=fp) (I6.os.trans rfl) (u1.trans I6.base) I6.hok I6.bare λb hb=>{(f2 b hb).2.2.2.1,(f2 b hb).2.1,(f2 b hb).2.2.2.2.1,(f2 b hb).2.2.2.2.2};exact fin _ _ H5 s6 m6 back () I6.free hn6 q
  .refine thn (T.item (Ek X scope N h3.objs.8 { s2 with heap:=h3 } (upd H2 s2.heap.objs.8 (.lst [])) fp) rfl rfl rfl hc i [] s5 _ H5 (λ_ _=>False) I5 (stat rfl fr5) st5 go) λr s6 ⟨u,hr,h6⟩=>?_
   subst hr;refine thn h6 λ_ s7 ⟨y,H7,I7,r7,y7,st7,fr7⟩=>?_;have I7':=I7.pinned (stat rfl fr7) (T.obj _ _ st7);obtain⟨vs,hvs,hst⟩:=step y _ y7;obtain⟨hvl,hgv⟩:=hA _ _ _ (frV G ix) hvs;refine thn (hg _ _ _ _ s7 _ H7 y u _ I7' r7 hgv) λ_ s8 ⟨σ8,H8,I8,e8,e8'⟩=>?_;subst e8 e8';refine thn (hif _ _ _ _ s8 _ _ _ I8 hst) λok s9 ⟨H9,I9,q9⟩=>?_;have again:∀{sz:fz} {Hz:Hp} {m':Nat},Inv (Ek X scope N h3.objs.8 { s2 with heap:=h3 } (upd H2 s2.heap.objs.8 (.lst [])) fp) ([]++U2 fp s7.5) (vs.map mn++frV G ix) Hz sz->m'<μ->W (i+1) m' Hz ->
     ∃m,m<μ/\∃i H',Inv (Ek X scope N h3.objs.8 { s2 with heap:=h3 } (upd H2 s2.heap.objs.8 (.lst [])) fp) [] (d9 n tp++frV G ix) H' sz/\tn i sz.5/\(∀b∈fp,H' b=tp)/\W i m H':=λ{sz Hz m'} Iz hm wz=>by
    refine{m',hm,i+1,Hz,Iz.unpinned.weak (by simp[hvl]) (λj v e=>?_),T.keep _ _ _ st7 λb hb o e=>(Iz.pin (b,o) (jc _ (jc _ (Kz hb e)))).1,λb hb=>?_,wz}
    .rcases ud j n with l|l
     .rw[f7 (by rw[gx];exact l),oj,if_pos l] at e
      cases e
     .rw[fg (by rw[gx];exact l),gx] at e
      rw[fg (by rw[d4,hvl];exact l),d4,hvl];exact e
    .obtain⟨o,e,d⟩:=T.obj _ _ st7 b hb
     exact(Iz.pin (b,o) (jc _ (jc _ (Kz hb e)))).2.1
   cases ok with
   |false=>
    obtain⟨m',hm,wz⟩:=q9;exact again I9 hm wz
   |true=>
    refine thn (he _ _ _ _ s9 _ _ _ I9 q9) λxv s10 ⟨z,H10,I10,r10,ys,hD,hl,m',hm,wz⟩=>?_;refine thn (B0 _ s10 _ H10 (.ref s2.heap.objs.8) [z] (.ref s2.heap.objs.8) [xv] (λ_ Hz=>Hz=upd H10 s2.heap.objs.8 (.lst (ys++[z]))) I10 rfl (.cons r10 .nil) {_,ys,z,rfl,rfl,hD,hl,rfl}) λ_ s11 ⟨_,H11,I11,_,q11⟩=>?_;subst q11;exact again I11 hm wz
 exact codeAny_compStart_list loop (T.self X.A 0 _ _ _ st4 loop)
theorem xA {A:V->Hp->List V->Prop}{g:TG}{tgt:jk}{rd:It->Hp->St->VK->Prop}(hA:Tk n A g)(hgt:∀C s H fp,PG (Ek X scope N C s H fp) tgt g)(hrd:∀{J H1 fr Q},rd J H1 fr Q->rdG A J H1 fr tc te Q)(hc:X.calm=MK)(L:LcG X.N X.env.scope scope n N ix)(hi:PI X tgt iter wi)(hif:∀C s H fp,PIf (Ek X scope N C s H fp) ifs tc)(he:∀C s H fp,PE (Ek X scope N C s H fp) elt te)
  (hs:autoParam (∀z,foldedSetIterable iter X.env z=pure z) QJ):PE X (.ListComp elt [{tgt,iter,ifs,0}] scope pos) (λG H Q=>wi G H λJ H1=>rd J H1 (frV G ix) Q):=by
 k_in;have hfree:∀y∈scope.names,y.2=.free->∃c,X.env.cells.lookup y.1=mn c:=λy hy hf=>I.ok.has y.1 (.inl (L.free y hy hf));rw[eval_ListComp];refine EE (use:=tp) rfl hs (Ob hfree) L.kind L.names (thn (hi pins s G H _ I h) λv s1 h1=>thn h1 λitv s2 h2=>?_);obtain⟨it,fp,tn,J,H2,e,I2,T,st2,f2,rd⟩:=h2;subst e;refine yE (RR:=λacc C=>compPost (model X.prog X.w) X.A X.xe tp _ acc C) hA hc L I2 T st2 f2 (λC s H=>hif C s H fp) (λC s H=>he C s H fp) (λC s H=>hgt C s H fp) (hrd rd) λD C H' s' m I' hC hf hn q=>?_;refine{m,hn,λh' hsb=>{.ref D,H',?_,rfl,q}};have l2:=I2.lt;refine I'.turned (t':=s'.toks) (it:=C) (λb o hb e=>hsb.extBut b o hb e) hf (vp (gq l2 hC)) (.inr (iw I2.sz hC)) (λy c e=>?_) λp hp=>?_
 .obtain⟨v,hv⟩:=I2.cell y c e
  exact ip (gq hv.lt hC)
 .exact ip (gq (gd (I2.pin p hp).1) hC)
theorem Zc {A:V->Hp->List V->Prop}{g:TG}{tgt:jk}{rd:It->Hp->St->VK->Prop}{i:Nat}{y:Str}{py spos:Pos}(hA:Tk n A g)(hgt:∀C s H fp,PG (Ek X scope N C s H fp) tgt g)(hrd:∀{J H1 fr Q},rd J H1 fr Q->rdG A J H1 fr tc te Q)(hc:X.calm=MK)(L:LcG X.N X.env.scope scope n N ix)(hN:X.N.Nodup)(hy:X.N[i]?=mn y)(hl:X.env.scope.names.lookup y=mn .local)
  (hi:PI X tgt iter wi)(hif:∀C s H fp,PIf (Ek X scope N C s H fp) ifs tc)(he:∀C s H fp,PE (Ek X scope N C s H fp) elt te)
  (hsw:autoParam (swapsWith (.ListComp elt [{tgt,iter,ifs,0}] scope pos) (mn (.Name y py)) spos.line X.env=pure MK) QD)
  (hs:autoParam (∀z,foldedSetIterable iter X.env z=pure z) QJ):PS X (.Assign [.Name y py] (.ListComp elt [{tgt,iter,ifs,0}] scope pos) spos) (pQ (λG H Q=>wi G H λJ H1=>rd J H1 (frV G ix) Q) (Eg i)):=by
 k_end;have hfree:∀y∈scope.names,y.2=.free->∃c,X.env.cells.lookup y.1=mn c:=λy hy hf=>I.ok.has y.1 (.inl (L.free y hy hf));rw[exec_Assign_Name_used _ _ _ _ hsw];refine wpAny_bind (w9 (wpAny_bind ?_));show wpAny _ X.A (do let _ <-comprehension (.ListComp elt [{tgt,iter,ifs,0}] scope pos) scope X.env _ (newList []) ML (eval iter X.env) (mn (assign (.Name y py) X.env))) _ _ s;refine wpAny_bind (thn (Q:=λ_ s'=>SP X pins D .next s') (EE (use:=mn (assign (.Name y py) X.env)) rfl hs (Ob hfree) L.kind L.names (thn (hi pins s G H _ I h) λv s1 h1=>thn h1 λitv s2 h2=>?_)) λ_ s' hq=>fu (fu hq));obtain⟨it,fp,tn,J,H2,e,I2,T,st2,f2,rd⟩:=h2;subst e;refine yE (RR:=λacc C=>compPost (model X.prog X.w) X.A X.xe (mn (assign (.Name y py) X.env)) _ acc C) hA hc L I2 T st2 f2 (λC s H=>hif C s H fp) (λC s H=>he C s H fp) (λC s H=>hgt C s H fp) (hrd rd) λDa C H' s' m I' hC hf hn q=>?_;have l2:=I2.lt;have nC:C≠X.env.locals:=vp (gq l2 hC);have nF:C∉X.fs:=I2.nofs hC;obtain⟨oC,es,ep,hget,hdat,hrest⟩:=id hn;have Ip:Inv X (pins++[(C,oC)]) G H' s':=I'.pins_of λp hp=>(jf.mp hp).elim (λz=>I'.pin p (jc _ z)) λz=>by
  have e:p=(C,oC):=by simpa using z
  subst e;exact{hget,hf,nC,nF,λv z=>by rw[hdat] at z;cases z}
 have hg:PG X (.Name y py) (Eg i):=Og hN hy (.inl hl) (.inr hl);show wpAny _ X.A (assign (.Name y py) X.env (.ref Da)) _ _ s';refine thn (hg _ s' G H' (.ref Da) (.ref Da) D.nx Ip rfl q) λ_ s'' ⟨XL,H'',I'',q''⟩=>?_;obtain⟨g1,g2,_⟩:=I''.pin (C,oC) (jc _ (jc _ (by simp)));refine{m,⟨oC,es,ep,g1,hdat,hrest⟩,λh' hsb=>{XL,H'',?_,q''}};refine I''.unpinned.turned (t':=s''.toks) (it:=C) (λb o hb e=>hsb.extBut b o hb e) g2 nC (.inr (iw I2.sz hC)) (λy c e=>?_) λp hp=>?_
 .obtain⟨v,hv⟩:=I2.cell y c e
  exact ip (gq hv.lt hC)
 .exact ip (gq (gd (I2.pin p hp).1) hC)
theorem A7.g {x:Str}(L:A7 QQ QP sc x N ix):LcG QQ QP sc 1 N ix:={L.kind,L.nocell,L.names,L.free,L.nd,L.len,by rw[CK];exact L.at_}
theorem zH:Tk 1 (λv _ vs=>vs=[v]) (Eg 0):=λ_ _ _ _ h=>by subst h;exact⟨rfl,rfl,rfl⟩
theorem A7.pg (L:A7 X.N X.env.scope scope x N ix)(C:ee)(s:fz)(H:Hp)(fp:List ee):PG (Ek X scope N C s H fp) (.Name x px) (Eg 0):=Og L.nd (by have:=L.hd;rwa [w6] at this) (.inl (qd L.loc)) (.inr (qd L.loc))
theorem Lk.g {fr:St}{Q:VK}(h:Lk J H1 fr tc te Q):rdG (λv _ vs=>vs=[v]) J H1 fr tc te Q:=λD hD=>by
 obtain⟨W,a,b⟩:=h D hD;exact{W,a,λi m H w=>(b i m H w).imp id λ⟨p,q⟩=>{p,λv H' y=>{[v],rfl,q v H' y}}}
theorem Iy (hc:X.calm=MK)(L:A7 X.N X.env.scope scope x N ix)(hi:PI X (.Name x px) iter wi)(hif:∀C s H fp,PIf (Ek X scope N C s H fp) ifs tc)(he:∀C s H fp,PE (Ek X scope N C s H fp) elt te)
  (hs:autoParam (∀z,foldedSetIterable iter X.env z=pure z) QJ):PE X (.ListComp elt [{.Name x px,iter,ifs,0}] scope pos) (tLc wi ix tc te):=xA (rd:=λJ H1 fr Q=>Lk J H1 fr tc te Q) zH L.pg Lk.g hc L.g hi hif he hs
theorem Gq {i:Nat}{y:Str}{py spos:Pos}(hc:X.calm=MK)(L:A7 X.N X.env.scope scope x N ix)(hN:X.N.Nodup)(hy:X.N[i]?=mn y)(hl:X.env.scope.names.lookup y=mn .local)
  (hi:PI X (.Name x px) iter wi)(hif:∀C s H fp,PIf (Ek X scope N C s H fp) ifs tc)(he:∀C s H fp,PE (Ek X scope N C s H fp) elt te)
  (hsw:autoParam (swapsWith (.ListComp elt [{.Name x px,iter,ifs,0}] scope pos) (mn (.Name y py)) spos.line X.env=pure MK) QD)
  (hs:autoParam (∀z,foldedSetIterable iter X.env z=pure z) QJ):PS X (.Assign [.Name y py] (.ListComp elt [{.Name x px,iter,ifs,0}] scope pos) spos) (pQ (tLc wi ix tc te) (Eg i)):=Zc (rd:=λJ H1 fr Q=>Lk J H1 fr tc te Q) zH L.pg Lk.g hc L.g hN hy hl hi hif he hsw hs
end
theorem Ai {D:ee}{o:HO}(h:H D=tp):Ah H (upd H D o):=λb u e=>by rw[Al (Am e h)];exact e
theorem Bz {D:ee}{o:HO}(h:H D=tp):Ah H (upd H D o)/\upd H D o D=mn o:={Ai h,Ac}
theorem Te {fr:St}{tc:TT}{Q:VK}(n:Nat)(item:Nat->V)(acc:Nat->List V)(h0:acc 0=[])(hz:∀i,i<n->(acc i).9<sizeLine)
  (hgo:∀i H,i<n->Ah H1 H->J.go i H)(hy:∀i H x H',i<n->Ah H1 H->J.yld i H x H'->x=item i/\H'=H)(hst:∀H,Ah H1 H->J.stop n H)
  (turn:∀i H (R:Hp->Prop) (A:VK),i<n->Ah H1 H->(acc (i+1)=acc i->∀H',Ah H H'->R H')->(∀y H',acc (i+1)=acc i++[y]->Ah H H'->A y H') ->
   tc (mn (item i)::fr) H λb H3=>if b=MK then te (mn (item i)::fr) H3 A else R H3)
  (fin:∀D H,H1 D=tp->Ah H1 H->H D=mn (.lst (acc n))->Q (.ref D) H):Lk J H1 fr tc te Q:=by
 intro D hD;refine{λi m H=>i<=n/\m=n-i/\Ah H1 H/\H D=mn (.lst (acc i)),{n,gy _,rfl,Ai hD,by rw[Ac,h0]},?_};rintro i m H ⟨hi,rfl,sm,hl⟩
 by_cases h:i=n
 .subst h
  exact .inl {hst H sm,fin D H hD sm hl}
 .have hlt:i<n:=me hi h
  refine .inr {hgo i H hlt sm,λx H' hyl=>?_};obtain⟨rfl,rfl⟩:=hy i H x H' hlt sm hyl;refine turn i H' _ _ hlt sm (λea H3 s3=>?_) (λy H4 ea s4=>?_)
  .exact{n-(i+1),(),(),rfl,sm.trans s3,by rw[ea];exact s3 _ _ hl}
  .refine{acc i,s4 _ _ hl,hz i hlt,n-(i+1),(),(),rfl,λb u e=>?_,by rw[Ac,ea]}
   rw[Al (Am e hD)];exact s4 _ _ (sm _ _ e)
theorem Vj {lo:Int}{fr:St}{tc:TT}{Q:VK}(acc:Nat->List V)(h0:acc 0=[])(hz:∀i,i<n->(acc i).9<sizeLine)
  (turn:∀(i:Nat) H (R:Hp->Prop) (A:VK),i<n->Ah H1 H->(acc (i+1)=acc i->∀H',Ah H H'->R H')->(∀y H',acc (i+1)=acc i++[y]->Ah H H'->A y H') ->
   tc (mn (.int (lo+i))::fr) H λb H3=>if b=MK then te (mn (.int (lo+i))::fr) H3 A else R H3)
  (fin:∀D H,H1 D=tp->Ah H1 H->H D=mn (.lst (acc n))->Q (.ref D) H):Lk (Itr lo n) H1 fr tc te Q:=
 Te n (λi=>.int (lo+i)) acc h0 hz (λi H hi _=>hi) (λi H x H' _ _ h=>⟨h.2,h.1⟩) (λH _=>d8 n) turn fin
theorem G5 {K:d5}{a:ee}{fr:St}{tc:TT}{Q:VK}(hl:SqL K H1 a xs)(acc:Nat->List V)(h0:acc 0=[])(hz:∀i,i<xs.9->(acc i).9<sizeLine)
  (turn:∀(i:Nat) x H (R:Hp->Prop) (A:VK),xs[i]?=mn x->Ah H1 H->(acc (i+1)=acc i->∀H',Ah H H'->R H')->(∀y H',acc (i+1)=acc i++[y]->Ah H H'->A y H') ->
   tc (mn x::fr) H λb H3=>if b=MK then te (mn x::fr) H3 A else R H3)
  (fin:∀D H,H1 D=tp->Ah H1 H->H D=mn (.lst (acc xs.9))->Q (.ref D) H):Lk (Itl K a) H1 fr tc te Q:=by
 refine Te xs.9 (λi=>xs.getD i .non) acc h0 hz (λi H hi sm=>{xs,xs[i],sm.seq hl,by simp[hi]}) (λi H x H' hi sm h=>{?_,h.1}) (λH sm=>{xs,sm.seq hl,d8 _}) (λi H R A hi sm=>turn i _ H R A (by simp[hi]) sm) fin;have:=h.2 xs (sm.seq hl);simp[jw,this]
theorem Ah.seqT {K:d5}{a:ee}(e:Ah H H')(h:SqT K H a xs):SqT K H' a xs:=by
 rcases h with(h|⟨o,h⟩)|h
 .exact .inl (.inl (e _ _ h))
 .exact .inl (.inr {o,e _ _ h})
 .exact .inr h
theorem Aag {K:d5}{a:ee}{fr:St}{tc:TT}{Q:VK}(hl:SqT K H1 a xs)(acc:Nat->List V)(h0:acc 0=[])(hz:∀i,i<xs.9->(acc i).9<sizeLine)
  (turn:∀(i:Nat) x H (R:Hp->Prop) (A:VK),xs[i]?=mn x->Ah H1 H->(acc (i+1)=acc i->∀H',Ah H H'->R H')->(∀y H',acc (i+1)=acc i++[y]->Ah H H'->A y H') ->
   tc (mn x::fr) H λb H3=>if b=MK then te (mn x::fr) H3 A else R H3)
  (fin:∀D H,H1 D=tp->Ah H1 H->H D=mn (.lst (acc xs.9))->Q (.ref D) H):Lk (Itt K a) H1 fr tc te Q:=by
 refine Te xs.9 (λi=>xs.getD i .non) acc h0 hz (λi H hi sm=>{xs,xs[i],sm.seqT hl,by simp[hi]}) (λi H x H' hi sm h=>{?_,h.1}) (λH sm=>{xs,sm.seqT hl,d8 _}) (λi H R A hi sm=>turn i _ H R A (by simp[hi]) sm) fin;have:=h.2 xs (sm.seqT hl);simp[jw,this]
theorem wM:bootBuiltins "int"=mn (.type "int"):=by decide +kernel
theorem Aei:bootBuiltins "str"=mn (.type "str"):=by decide +kernel
theorem nR:bootBuiltins "bool"=mn (.type "bool"):=by decide +kernel
theorem Ji:bootBuiltins "list"=mn (.type "list"):=by decide +kernel
theorem Tl:bootBuiltins "tuple"=mn (.type "tuple"):=by decide +kernel
theorem wF:bootBuiltins "dict"=mn (.type "dict"):=by decide +kernel
theorem Bp:bootBuiltins "len"=mn (.builtin "len"):=by decide +kernel
theorem C2:bootBuiltins "isinstance"=mn (.builtin "isinstance"):=by decide +kernel
theorem Aiv:bootBuiltins "sum"=mn (.builtin "sum"):=by decide +kernel
theorem Se:bootBuiltins "min"=mn (.builtin "min"):=by decide +kernel
theorem Uk:bootBuiltins "max"=mn (.builtin "max"):=by decide +kernel
theorem U4:bootBuiltins "sorted"=mn (.builtin "sorted"):=by decide +kernel
structure Cal (P:gu) (w:i7) (K:d5) (mg:Za2) (base:ki) (name:Str) (k:Nat) (ps:Za6) (sp:Sp):Prop where
 ex:∃(f:ee) (fd:ky),Av P w K mg base CX0 k f fd ps sp/\Fu K fd ps []/\mg name=mn (.ref f)/\lp K (.ref f)=MK
section
variable {X:Cx} {k:Nat} {ps:Za6} {sp:Sp} {name m:Str} {p pos apos:Pos} {e o:jk} {es:List jk} {ta:TE} {t:TA}
theorem Au (C:Cal X.prog X.w X.K X.mg X.base name k ps sp)(hr:Cz k X.A)(ha:PA X (e::es) t)(hg:autoParam (Gl X name) QD)(hdb:autoParam ((name==("__debug__":Str))=ML) QF)
  (he:autoParam (starEach (e::es) X.env=(ML,eval e X.env)::starEach es X.env) QD)(hpl:autoParam ((backTo pos (starEach es X.env)).any (·.1)=ML) QD):PE X (.Call (.Name name p) (e::es) [] pos) (qH sp [] E0 t):=by
 obtain⟨f,fd,F,b,hm,hk⟩:=C.ex;exact Aci F hr hg hm hk b .nil gN ha hdb he hpl
end
section
variable {X:Cx}
def Ajt (K:d5):List V->Hp->VK->Prop:=λxs H Q=>∃x n t b,xs=[x,.ty n]/\Rf K H x t/\kitOne K t (.type n)=mn b/\Q (.bl b) H
theorem Do:Fw X (.builtin "isinstance") (Ajt X.K):=by
 intro pins s G H xs us Q I r h;obtain⟨x,n,t,b,rfl,ty,e,q⟩:=h;obtain⟨u,w',rfl,ru,rw'⟩:=Vp r;cases(show w'=nq n from rw');exact uT I ru ty e λtk=>{.bl b,H,I.tok tk,rfl,q}
theorem Pl {K:d5}:kitOne K (.type "int") (.type "bool")=mn ML:=by rfl
theorem Sh {K:d5}:kitOne K (.type "int") (.type "int")=mn MK:=by rfl
theorem R5 {K:d5}:kitOne K (.type "str") (.type "str")=mn MK:=by rfl
end
theorem Il {x y:Str}(h:x.cps.7=y.cps.7):x=y:=by
 obtain⟨a⟩:=x;obtain⟨b⟩:=y;have:a=b:=zm.mp h;rw[this]
def sgn (c:Nat):Str:={#[c]}
def Uo (x:Str)(k:Nat):Str:={(d9 k x.cps.7).flatten.toArray}
theorem gC (x:Str)(k:Nat):(Uo x k).9=k*x.9:=by
 show(d9 k x.cps.7).flatten.toArray.size=k*x.cps.8;rw[gh,sR];simp
theorem Yl (a:Array Nat):∀(k:Nat) (acc:Array Nat),((d9 k a).foldl (·++·) acc).7=acc.7++(d9 k a.7).flatten
 |0,acc=>by simp
 |k+1,acc=>by
  rw[ja,qp,Yl a k,ja];simp[fh]
section
variable {X:Cx}
def Ahr:R2:=λx y H Q=>∃z k,x=.str z/\y=.int k/\-(2 ^ 40)<k/\k<2 ^ 40/\z.9*k.toNat<=sizeLine/\z.9<=sizeLine/\Q (.str (Uo z k.toNat)) H
theorem fS:OpR X (binaryOp .Mult) Ahr:=by
 intro pins s G H x y v u Q I rx ry h;obtain⟨z,k,rfl,rfl,k1,k2,hz,hz2,q⟩:=h;obtain⟨t,rfl⟩:=rx;obtain⟨t',rfl⟩:=ry;have hs:=Md;have hs':=GH;refine PySem.P.mul_str ?_ ?_ ?_ ?_
 .rw[decide_eq_false (),decide_eq_false ()];rfl
 .intro h1 _ hgt
  have hk:k<=2 ^ 40:=()
  have:(z.9:Int)<=(2 ^ 63-1)/k:=by
   rw[Int.le_ediv_iff_mul_le ()];have e:(z.9:Int)*k=((z.9*k.toNat:Nat):Int):=by
    rw[AV,ye ()]
   rw[e];lia
  lia
 .intro _ _
  unfold KW
  simpa using hz
 .split
  .rename_i h1
   have e:Uo z k.toNat=z6:=by
    rw[show k.toNat=0 by lia];rfl
   rw[e] at q;exact{by decide,.str z6,H,I.tok _,{_,rfl},q}
  .rename_i h1
   split
   .rename_i h2
    have e:Uo z k.toNat=z:=by
     refine Il ?_;show(d9 k.toNat z.cps.7).flatten.toArray.toList=_;rcases Bool.or_eq_true_iff.mp h2 with h2|h2
     .have:k=1:=by simpa using h2
      subst this;simp
     .have:z.9=0:=by simpa using h2
      have e0:z.cps.7=[]:=by
       have:z.cps.8=0:=this
       simpa using this
      rw[e0];simp
    rw[e] at q;exact{.str z,H,I,{_,rfl},q}
   .have e:({(d9 k.toNat z.cps).foldl (·++·) #[]}:Str)=Uo z k.toNat:=by
     refine Il ?_;show((d9 k.toNat z.cps).foldl (·++·) #[]).7=_;rw[Yl];simp[Uo]
    refine{?_,.str (Uo z k.toNat),H,I.tok _,{s.toks,by rw[e]},q};rw[e,gC,zg];exact hz
theorem oZ {ys:Za6}:∀{us:Za3},A5 (ys.map V.str) us->StrsAre us ys:=by
 induction ys with
 |nil=>intro us r;rw[vo] at r;cases r;exact .nil
 |cons y ys ih=>
  intro us r;rw[gt] at r
  cases r with
  |cons r1 r2=>
   obtain⟨t,e⟩:=r1;subst e;exact .cons y t (ih r2)
def Aam (K:d5):V->List V->Hp->VK->Prop:=λx vs H Q=>∃sep p ys,x=.str sep/\vs=[.ref p]/\SqL K H p (ys.map V.str)/\(ys.map (·.length)).sum+ys.9*sep.9<=16777216/\Q (.str (BO sep ys)) H
theorem M5:MtM X "str.join" (Aam X.K):=by
 intro pins s G H x vs v us Q I rx rv h;obtain⟨sep,p,ys,rfl,rfl,hp,hz,q⟩:=h;obtain⟨t,rfl⟩:=rx;obtain⟨u,rfl,ru⟩:=rv.one;cases ru;obtain⟨its,r,pl,_⟩:=I.list hp;exact join_list pl.isList (by simpa using oZ r) hz λt' k=>{.str (BO sep ys),H,I.tok k,⟨t',rfl⟩,q}
theorem Zb:∀(ys:Za6) (a:Array Nat),(ys.foldl (λacc p=>acc++("":Str).cps++p.cps) a).7=a.7++(ys.map λy=>y.cps.7).flatten
 |[],a=>by simp
 |y::r,a=>by
  rw[qp,Zb r];have e:("":Str).cps=#[]:=rfl;rw[e];simp[fh]
theorem Tw (ys:Za6):(BO ("":Str) ys).cps.toList=(ys.map λy=>y.cps.7).flatten:=by
 show((ys.drop 1).foldl (λacc p=>acc++("":Str).cps++p.cps) (ys.headD z6).cps).7=_;rw[Zb]
 cases ys with
 |nil=>rfl
 |cons y r=>simp
end
def nX:jk->Bool
 |.Starred ..=>ML
 |_=>MK
theorem jB {e:jk}(h:nX e=MK):starEach (e::es) env=(ML,eval e env)::starEach es env:=by
 cases e<;>first|rfl|cases h
section
variable {X:Cx} {e:jk} {es:List jk} {te:TE} {t:TA}
theorem Aj3 (ha:PE X e te)(hr:PA X es t)(hs:nX e=MK):PA X (e::es) (Yt te t):=tN ha hr (jB hs)
end
theorem us1 {P:Za3->Prop}(h:∀a,P [a]):∀us:Za3,us.9=1->P us
 |[_],_=>h _
theorem us2 {P:Za3->Prop}(h:∀a b,P [a,b]):∀us:Za3,us.9=2->P us
 |[_,_],_=>h _ _
theorem us3 {P:Za3->Prop}(h:∀a b c,P [a,b,c]):∀us:Za3,us.9=3->P us
 |[_,_,_],_=>h _ _ _
section
variable {G:St} {H:Hp} {D:Jm} {Q:VK} {t u:TS} {te ta tb:TE} {QB:Bool->Hp->Prop}
theorem Aix (h:t { D with nx:=u D } G H):Ahu t u D G H:=h
theorem Agj (h:D.nx G H):Ad6 D G H:=h
theorem Ajf {g:TG}(h:te G H λx H1=>g x G H1 D.nx):pQ te g D G H:=h
theorem Adu {i:Nat}{v:V}{R:St->Hp->Prop}(h:R (G.set i (mn v)) H):Eg i v G H R:=h
theorem Ahy (h:te G H D.rt):Ah9 te D G H:=h
theorem Ag3 (h:te G H λ_ H1=>D.nx G H1):Aez te D G H:=h
theorem Aio {c:TT}(h:c G H λb H1=>if b=MK then t D G H1 else u D G H1):Aie c t u D G H:=h
theorem Ait {i:Nat}{ti:TIp}{x:V}(e:G[i]?=mn (mn x))(h:te G H λy H1=>ti x y H1 λz H2=>D.nx (G.set i (mn z)) H2):Afu i te ti D G H:=⟨x,e,h⟩
theorem Aiz {i:Nat}{v:V}(e:G[i]?=mn (mn v))(h:Q v H):kX i G H Q:=⟨v,e,h⟩
theorem r_c {v:V}(h:Q v H):tC v G H Q:=h
theorem Ajg {r:R2}(h:ta G H λx H1=>tb G H1 λy H2=>r x y H2 Q):tOp r ta tb G H Q:=h
theorem Ajk {r:V->Hp->VK->Prop}(h:ta G H λx H1=>r x H1 Q):tUn r ta G H Q:=h
theorem Ajo {g:Int->V}{i:Int}(h:Q (g i) H):rU g (.int i) H Q:=⟨i,rfl,h⟩
theorem Ad8 {g:Int->Int->V}{i j:Int}(h:Q (g i j) H):rI0 g (.int i) (.int j) H Q:=⟨i,j,rfl,rfl,h⟩
theorem Ajs {C:Int->Int->Prop}{g:Int->Int->V}{i j:Int}(c:C i j)(h:Q (g i j) H):rI C g (.int i) (.int j) H Q:=⟨i,j,rfl,rfl,c,h⟩
theorem Ah6 {f:Int->Int->Int}{i j:Int}(h:Q (.int (f i j)) H):ipI f (.int i) (.int j) H Q:=⟨i,j,rfl,rfl,h⟩
theorem Ai6 {x:V}(e:zR x y=MK)(h:Q (.bl (decide (x=y))) H):rEq x y H Q:=⟨e,h⟩
theorem Ahf {x:V}(e:zR x y=MK)(h:Q (.bl (!decide (x=y))) H):rNe x y H Q:=⟨e,h⟩
theorem Agl (h:te G H λx H'=>∃k,x=.bl k/\QB k H'):Abd te G H QB:=h
theorem Aj0 (h:te G H λx H'=>∃k,x=.bl k/\QB k H'):tB te G H QB:=h
theorem Aj7 {k:Bool}{P:Bool->Prop}(h:P k):∃k',V.bl k=.bl k'/\P k':=⟨k,rfl,h⟩
theorem Ah5 {c:TT}(h:c G H λb H1=>QB (!b) H1):Aje c G H QB:=h
theorem Ahx {c d:TT}(h:c G H λb H1=>if b=MK then d G H1 QB else QB ML H1):Ail c d G H QB:=h
theorem Ajj {c d:TT}(h:c G H λb H1=>if b=MK then QB MK H1 else d G H1 QB):tOr c d G H QB:=h
theorem Ago (h:ta G H λx H1=>∃c,x=.bl c/\if c=MK then tb G H1 Q else Q (.bl ML) H1):Aey ta tb G H Q:=h
theorem Af5 (h:ta G H λx H1=>∃c,x=.bl c/\Q (.bl (!c)) H1):Aej ta G H Q:=h
theorem Ahk {c:TT}(h:c G H λb H1=>if b=MK then ta G H1 Q else tb G H1 Q):tIf c ta tb G H Q:=h
theorem Ah0 (h:ta G H λx H1=>Q (.bl (decide (x=.non))) H1):Ai3 ta G H Q:=h
theorem Afy (h:ta G H λx H1=>Q (.bl (!decide (x=.non))) H1):Aeb ta G H Q:=h
theorem Adt {r r':R2}{tc:TE}(h:ta G H λx H1=>tb G H1 λy H2=>r x y H2 λz H3=>∃k,z=.bl k/\(if k=MK then tc G H3 λw' H4=>r' y w' H4 Q else Q (.bl ML) H3)):zN r r' ta tb tc G H Q:=h
theorem Aiw (h:QB MK H):Ahv G H QB:=h
variable {tA tR:TA} {QA:List V->Hp->Prop}
theorem Ai8 (h:QA [] H):Sx G H QA:=h
theorem Afc (h:te G H λx H1=>tR G H1 λxs H2=>QA (x::xs) H2):Yt te tR G H QA:=h
theorem Ag1 {E:XK}(h:tA G H λvs H1=>sp (vs++[]) H1 Q E):qH sp [] E tA G H Q:=h
theorem Aj6 {r:List V->Hp->VK->Prop}(h:tA G H λvs H1=>r vs H1 Q):tCB r tA G H Q:=h
theorem Ahj (h:tA G H λxs H1=>xs.9<=sizeLine/\∀p,H1 p=tp->Q (.ref p) (upd H1 p (.lst xs))):Ahm tA G H Q:=h
theorem Ai2 (h:tA G H λxs H1=>xs.9<=sizeLine/\∀p,H1 p=tp->Q (.ref p) (upd H1 p (.tup xs))):Aiy tA G H Q:=h
theorem Ajr {K:d5}{T:String}{r:V->List V->Hp->VK->Prop}(h:te G H λx H1=>tyV K T x H1/\tA G H1 λxs H2=>r x xs H2 Q):tBM K T r te tA G H Q:=h
theorem Ajq {r:V->Option Int->Option Int->Hp->VK->Prop}{tl th:TO}(h:te G H λx H1=>tl G H1 λl H2=>th G H2 λu H3=>r x l u H3 Q):tSl r te tl th G H Q:=h
theorem yU {QO:Option Int->Hp->Prop}(h:QO tp H):qR G H QO:=h
theorem Agd {QO:Option Int->Hp->Prop}(h:te G H λx H1=>∃i,x=.int i/\QO (mn i) H1):Ae0 te G H QO:=h
theorem Aii {P:Int->Prop}{i:Int}(h:P i):∃j,V.int i=.int j/\P j:=⟨i,rfl,h⟩
def vI (J:It)(g:TG)(tb:TS)(D:Jm)(G:St)(H1:Hp):Prop:=∃W:Nat->Nat->St->Hp->Prop,(∃m,W 0 m G H1)/\∀i m G H,W i m G H ->
 (J.stop i H/\D.nx G H)\/(J.go i H/\∃N:St->Hp->Prop,(∀mt H',N mt H'->∃m',m'<m/\W (i+1) m' mt H')/\∀x H',J.yld i H x H'->g x G H' λQR H2=>tb { D with nx:=N,ct:=N,bk:=D.nx } QR H2)
theorem Aiq {g:TG}(h:wi G H λJ H1=>vI J g t D G H1):Ai4 wi g t D G H:=h
theorem Agn {R:It->Hp->Prop}(h:tA G H λvs H1=>∃j:Int,vs=[.int j]/\-(2 ^ 62)<=j/\j<2 ^ 62/\R (Itr 0 j.toNat) H1):Aet tA G H R:=h
theorem Ag8 {R:It->Hp->Prop}(h:tA G H λvs H1=>∃i j:Int,vs=[.int i,.int j]/\(-(2 ^ 62)<=i/\i<2 ^ 62/\-(2 ^ 62)<=j/\j<2 ^ 62)/\R (Itr i (j-i).toNat) H1):Ae1 tA G H R:=h
theorem Abq {K:d5}{R:It->Hp->Prop}(h:te G H λx H1=>∃a,x=.ref a/\(∃xs,SqL K H1 a xs)/\R (Itl K a) H1):Aev K te G H R:=h
theorem Ag4 {K:d5}{R:It->Hp->Prop}(h:te G H λx H1=>∃a,x=.ref a/\(∃xs,SqT K H1 a xs)/\R (Itt K a) H1):Af3 K te G H R:=h
theorem Ajm {tc:TT}(h:wi G H λJ H1=>Lk J H1 (frV G ix) tc te Q):tLc wi ix tc te G H Q:=h
theorem Cw {K:d5}{p:ee}{i:Int}{v:V}(hs:SqL K H p xs)(e:atI xs i=mn v)(h:Q v H):Acn K (.ref p) (.int i) H Q:=⟨p,xs,i,v,rfl,rfl,hs,e,h⟩
theorem Gs {K:d5}{p:ee}{i:Int}{v:V}(hs:SqT K H p xs)(e:atI xs i=mn v)(h:Q v H):Ag7 K (.ref p) (.int i) H Q:=⟨p,xs,i,v,rfl,rfl,hs,e,h⟩
theorem Ca {l:ee}(hl:H l=mn (.lst xs))(hz:xs.9<sizeLine)(h:Q .non (upd H l (.lst (xs++[y])))):sA (.ref l) [y] H Q:=⟨l,xs,y,rfl,rfl,hl,hz,h⟩
end
theorem Fz {c:TT}{tb:TS}{G:St}(Pv:St->Hp->Prop)(μ:St->Hp->Nat)(h0:Pv G H)
  (hs:∀m G H,Pv G H->μ G H=m->c G H λb H1=>if b=MK then ∃N:St->Hp->Prop,(∀mt H',N mt H'->∃m',m'<m/\(Pv mt H'/\μ mt H'=m'))/\tb { D with nx:=N,ct:=N,bk:=D.nx } G H1 else D.nx G H1):Aah c tb D G H:=
 {λm G H=>Pv G H/\μ G H=m,{_,h0,rfl},λm G H h=>hs m G H h.1 h.2}
theorem Kl {tb:TS}{rt:VK}{bk:St->Hp->Prop}{G:St}{Pv:St->Hp->Prop}{μ:St->Hp->Nat}{m:Nat}
  (h:tb { nx:=λmt H'=>Pv mt H'/\μ mt H'<m,rt:=rt,bk:=bk,ct:=λmt H'=>Pv mt H'/\μ mt H'<m } G H1) :
  ∃N:St->Hp->Prop,(∀mt H',N mt H'->∃m',m'<m/\(Pv mt H'/\μ mt H'=m'))/\tb { nx:=N,rt:=rt,bk:=bk,ct:=N } G H1:={_,λmt H' z=>{_,z.2,z.1,rfl},h}
section
variable {H:Hp} {Q:VK} {g:Int->Int->V} {i j:Int}
theorem gP (c:0<j)(h:Q (g i j) H):rI (λ_ j=>0<j) g (.int i) (.int j) H Q:=⟨i,j,rfl,rfl,c,h⟩
theorem Abf (c:0<=j)(h:Q (g i j) H):rI (λ_ j=>0<=j) g (.int i) (.int j) H Q:=⟨i,j,rfl,rfl,c,h⟩
theorem rV (c1:0<j)(c2:j<1073741824)(h:Q (g i j) H):rI Ahg g (.int i) (.int j) H Q:={i,j,rfl,rfl,⟨c1,c2⟩,h}
theorem mS (c1:-(2 ^ 64)<j)(c2:j<2 ^ 64)(h:Q (g i j) H):rI xI g (.int i) (.int j) H Q:={i,j,rfl,rfl,.inr ⟨c1,c2⟩,h}
theorem Agp (c1:-(2 ^ 64)<i)(c2:i<2 ^ 64)(h:Q (g i j) H):rI xI g (.int i) (.int j) H Q:={i,j,rfl,rfl,.inl ⟨c1,c2⟩,h}
end
theorem B6 {c A:Prop}[Decidable c](h1:c->A)(h2:¬ c->B):if decide c=MK then A else B:=by
 by_cases h:c
 .rw[decide_eq_true h,if_pos rfl]
  exact h1 h
 .rw[decide_eq_false h,if_neg io]
  exact h2 h
theorem uF {c A:Prop}[Decidable c](h1:¬ c->A)(h2:c->B):if(!decide c)=MK then A else B:=by
 by_cases h:c
 .rw[decide_eq_true h,if_neg (by decide)]
  exact h2 h
 .rw[decide_eq_false h,if_pos (by decide)]
  exact h1 h
def Ain (c:TT)(t u:TS):TS:=λD G H=>∃J:St->Hp->Prop,(∀G H,J G H->D.nx G H)/\c G H λb H1=>if b=MK then t { D with nx:=J } G H1 else u { D with nx:=J } G H1
theorem pB {c:jk}{a b:List jr}{tc:TT}{t u:TS}(hc:PT X c tc)(ha:PSs X a t)(hb:PSs X b u):PS X (.If c a b pos) (Ain tc t u):=by
 k_end;obtain⟨J,hJ,h⟩:=h;refine thn (B8 hc ha hb pins s G H { D with nx:=J } I h) λf s' q=>?_
 cases f with
 |next=>
  obtain⟨mt,H',I',q'⟩:=q;exact{mt,H',I',hJ _ _ q'}
 |brk=>exact q
 |cont=>exact q
 |ret u=>exact q
theorem yN {c:TT}{t u:TS}{G:St}(J:St->Hp->Prop)(h:c G H λb H1=>if b=MK then t { D with nx:=J } G H1 else u { D with nx:=J } G H1)(hJ:∀G H,J G H->D.nx G H):Ain c t u D G H:=⟨J,hJ,h⟩
def eK (lo st:Int)(n:Nat):It:={λi _=>i<n,λi H x H'=>H'=H/\x=.int (lo+i*st),λi _=>n<=i}
def C1 (lo hi st:Int):Nat:=((hi-lo+st-1)/st).toNat
theorem R7 {P:gu}{K:d5}(it:ee)(lo dt:Int)(n:Nat):Vf P w K tg (eK lo dt n) [it] it (λi h=>yw h it (lo+(i:Nat)*dt) ((n:Int)-(i:Nat)) dt) where
 mem:=by simp
 obj:=λi h st b hb=>by
  have e:b=it:=by simpa using hb
  subst e;exact⟨_,st,λv z=>by
   have z':EC _=KT v:=z;cases z'⟩
 keep:=λi h h' st k=>k it (by simp) _ st
 item:=by
  intro X hP hw hK hc i pins s G H E I hf st hg;subst hP hw hK;obtain⟨f0,f1,f2,f3,f4,f5⟩:=hf it (by simp);have W:=HN (prog:=X.prog) (w:=X.w) (I.ok.hd hc) it lo dt n;refine W.item i s _ _ hg st λv h' tk hv st' kk=>?_;obtain⟨t,rfl⟩:=hv;have I1:Inv X pins G H { s with heap:=h',toks:=tk }:=I.turned (λb o hb e=>kk b o (by simpa using hb) e) f0 f1 f3 f4 f5;exact⟨_,rfl,gW (s:={ s with heap:=h',toks:=tk }) (n:="range_iterator") st' rfl rfl (by decide) ⟨.int _,H,I1,⟨t,rfl⟩,⟨rfl,rfl⟩,st',λb hb=>(hf b hb).1⟩⟩
 done:=by
  intro X hP hw hK hc i pins s G H E I hf st hg;subst hP hw hK;obtain⟨f0,f1,f2,f3,f4,f5⟩:=hf it (by simp);exact FB (I.ok.hd hc) st (by have:n<=i:=hg;lia) λh' eb=>{rfl,I.turned (t':=s.toks) (λb o hb e=>eb b o hb e) f0 f1 f3 f4 f5}
 self:=λ_ _ _ _ _ st h=>FE st h
theorem Wv {lo hi st:Int}(h:0<st):kl lo hi st=(C1 lo hi st:Int):=by
 unfold kl C1;rw[if_pos h]
 by_cases hl:lo<hi
 .rw[if_pos hl]
  have e:(hi-lo+st-1)/st=(hi-lo-1)/st+1:=by
   rw[show hi-lo+st-1=(hi-lo-1)+st*1 by lia,Int.add_mul_ediv_left _ _ ()]
  rw[e];have:0<=(hi-lo-1)/st:=Int.ediv_nonneg () ();exact(ye (Int.add_nonneg this (by decide))).symm
 .rw[if_neg hl]
  have:(hi-lo+st-1)/st<=0:=by
   have:=Int.ediv_le_ediv h (show hi-lo+st-1<=st-1 by lia);rw[Int.ediv_eq_zero_of_lt (show 0<=st-1 by lia) ()] at this;exact this
  lia
theorem gE {lo hi st:Int}(h:0<st)(h1:-(2 ^ 61)<=lo)(h2:lo<2 ^ 61)(h3:-(2 ^ 61)<=hi)(h4:hi<2 ^ 61)(h5:st<2 ^ 61):pi lo hi st=MK:=by
 unfold pi;rw[Wv h];have hb:(C1 lo hi st:Int)*st<=hi-lo+st-1\/(C1 lo hi st:Int)=0:=by
  unfold C1
  by_cases hz:0<=(hi-lo+st-1)/st
  .left
   rw[ye hz];exact Int.ediv_mul_le _ ()
  .right
   lia
 have hn:(C1 lo hi st:Int)<=(C1 lo hi st:Int)*st:=by
  have:=Int.mul_le_mul_of_nonneg_left (show(1:Int)<=st by lia) (mf (C1 lo hi st));lia
 have hmul:lo+(C1 lo hi st:Int)*st<2 ^ 63/\-(2 ^ 63)<=lo+(C1 lo hi st:Int)*st:=by
  have h0:0<=(C1 lo hi st:Int)*st:=Int.mul_nonneg (mf _) ();rcases hb with hb|hb
  .lia
  .rw[hb] at h0 ⊢
   lia
 have h0:0<=(C1 lo hi st:Int):=mf _;have hs:(C1 lo hi st:Int)<2 ^ 63:=by
  rcases hb with hb|hb
  .lia
  .lia
 rw[if_pos h];simp only[ug,km,sh,decide_eq_true_eq,beq_iff_eq];refine{{{{?_,?_},?_},?_},.inr ?_}<;>lia
section
variable {X:Cx} {tg:jk}
def Ae4 (ta:TA):TI:=λG H R=>ta G H λvs H1=>∃i j k:Int,vs=[.int i,.int j,.int k]/\(-(2 ^ 40)<=i/\i<2 ^ 40/\-(2 ^ 40)<=j/\j<2 ^ 40/\0<k/\k<2 ^ 29)/\R (eK i k (C1 i j k)) H1
theorem Px {a b c:jk}{ta:TA}{p:Pos}(hg:Gl X "range")(hm:X.mg "range"=tp)(ha:PA X [a,b,c] ta)(hs:autoParam (starEach [a,b,c] X.env=[(ML,eval a X.env),(ML,eval b X.env),(ML,eval c X.env)]) QD)
  (hs2:autoParam (starEach [b,c] X.env=[(ML,eval b X.env),(ML,eval c X.env)]) QD):PI X tg (.Call (.Name "range" p) [a,b,c] [] pos) (Ae4 ta):=by
 intro pins s G H R I h;refine Call_ (Ee I hg hm boot_range (i8 (thA ha I h λus s1 vs H1 I1 r1 q1=>?_) (by rw[hs,hs2]) (by rw[hs2];rfl)));obtain⟨i,j,k,e,⟨q1,q2,q3,q4,q5,q6⟩,q⟩:=q1;subst e
 cases r1 with
 |cons r rr=>
  cases rr with
  |cons r' rr=>
   cases rr with
   |cons r'' rr=>
    cases rr;obtain⟨t,rfl⟩:=r;obtain⟨t',rfl⟩:=r';obtain⟨t'',rfl⟩:=r'';refine FK () ?_ (.inl (ss ()));refine zx (y8 ..) (gE q5 () () () () ()) ?_;have I2:Inv X pins G H1 { s1 with heap:=s1.heap.push { cls:=.type "range",data:=.fields #[.int i t,.int j t',.int k t''] },toks:=s1.toks }:=I1.kept λb o e=>fe _ e;refine{_,[_],_,_,H1,rfl,I2.kept (t':=s1.toks) λb o e=>fe _ e,R7 _ i k (C1 i j k),?_,λb hb=>?_,q}
    .have e1:i+((0:Nat):Int)*k=i:=by simp
     have e2:((C1 i j k:Nat):Int)-((0:Nat):Int)=kl i j k:=by rw[Wv q5];simp
     show yw _ _ (i+((0:Nat):Int)*k) (((C1 i j k:Nat):Int)-((0:Nat):Int)) k;rw[e1,e2];exact ik _ rfl
    .have e:=gl.mp hb
     subst e;exact I2.fpOk (d8 _) (I2.hok.fresh (d8 _))
end
theorem uA {lo st:Int}{g:TG}{tb:TS}{G:St}(Pv:Nat->St->Hp->Prop)(h0:Pv 0 G H)
  (hs:∀(i:Nat) G H,i<n->Pv i G H->g (.int (lo+i*st)) G H λQR H2=>tb { D with nx:=Pv (i+1),ct:=Pv (i+1),bk:=D.nx } QR H2)(hd:∀G H,Pv n G H->D.nx G H):vI (eK lo st n) g tb D G H:=by
 refine{λi m G H=>i<=n/\m=n-i/\Pv i G H,{n,gy _,rfl,h0},?_};rintro i m G H ⟨hi,rfl,hP⟩
 by_cases h:i=n
 .subst h
  exact .inl {d8 _,hd G H hP}
 .have hlt:i<n:=me hi h
  refine .inr {hlt,Pv (i+1),λmt H' hN=>{n-(i+1),(),hlt,rfl,hN},λx H' hy=>?_};obtain⟨rfl,rfl⟩:=hy;exact hs i G _ hlt hP
theorem jH {lo st:Int}{fr:St}{tc:TT}{Q:VK}(acc:Nat->List V)(h0:acc 0=[])(hz:∀i,i<n->(acc i).9<sizeLine)
  (turn:∀(i:Nat) H (R:Hp->Prop) (A:VK),i<n->Ah H1 H->(acc (i+1)=acc i->∀H',Ah H H'->R H')->(∀y H',acc (i+1)=acc i++[y]->Ah H H'->A y H') ->
   tc (mn (.int (lo+i*st))::fr) H λb H3=>if b=MK then te (mn (.int (lo+i*st))::fr) H3 A else R H3)
  (fin:∀D H,H1 D=tp->Ah H1 H->H D=mn (.lst (acc n))->Q (.ref D) H):Lk (eK lo st n) H1 fr tc te Q:=
 Te n (λi=>.int (lo+i*st)) acc h0 hz (λi H hi _=>hi) (λi H x H' _ _ h=>⟨h.2,h.1⟩) (λH _=>d8 n) turn fin
def Its (z:Str):It:={λi _=>i<z.cps.8,λi H x H'=>H'=H/\∃c,z.cps[i]?=mn c/\x=.str (sgn c),λi _=>z.cps.8<=i}
section
variable {X:Cx} {tg:jk}
def Aif (tl:TE):TI:=λG H R=>tl G H λx H1=>∃z,x=.str z/\R (Its z) H1
theorem Abh {P:gu}{K:d5}{z:Str}{ty:String}{t:Tok}(hty:ty="str_ascii_iterator"\/ty="str_iterator")
  (W:∀A':jp,A'.handled=tp->HP P w A' it [it] [it] z.cps.8 (SignAt z) (λi h=>h.IsStrIter it ty z t i))
  (hself:∀(A:jp) (i:Nat) (s:fz) (Q:Za0) (E:Za0),s.heap.IsStrIter it ty z t i->Q (.ref it) s->wpAny (model P w) A (pyIter (.ref it)) Q E s):Vf P w K tg (Its z) [it] it (λi h=>h.IsStrIter it ty z t i) where
 mem:=by simp
 obj:=λi h st b hb=>by
  have e:b=it:=by simpa using hb
  subst e;obtain⟨o,e,c,d⟩:=st;exact{o,e,λv z=>by rw[d] at z;cases z}
 keep:=λi h h' st k=>let ⟨o,ho,r⟩:=st;{o,k it (by simp) o ho,r}
 item:=by
  intro X hP hw hK hc i pins s G H E I hf st hg;subst hP hw hK;obtain⟨f0,f1,f2,f3,f4,f5⟩:=hf it (by simp);refine(W X.A (I.ok.hd hc)).item i s _ _ hg st λv h' tk hv st' kk=>?_;obtain⟨c,u,hc',rfl⟩:=hv;have I1:Inv X pins G H { s with heap:=h',toks:=tk }:=I.turned (λb o hb e=>kk b o (by simpa using hb) e) f0 f1 f3 f4 f5;obtain⟨o,e,cc,d⟩:=id st';exact⟨_,rfl,gW (s:={ s with heap:=h',toks:=tk }) e cc d (by rcases hty with rfl|rfl<;>decide) ⟨.str (sgn c),H,I1,⟨u,rfl⟩,⟨rfl,c,hc',rfl⟩,st',λb hb=>(hf b hb).1⟩⟩
 done:=by
  intro X hP hw hK hc i pins s G H E I hf st hg;subst hP hw hK;obtain⟨f0,f1,f2,f3,f4,f5⟩:=hf it (by simp);rcases hty with rfl|rfl
  .exact wpAny_pyNext_ascii_end (I.ok.hd hc) st (ql hg) λh' eb=>{rfl,I.turned (t':=s.toks) (λb o hb e=>eb b o hb e) f0 f1 f3 f4 f5}
  .exact wpAny_pyNext_wide_end (I.ok.hd hc) st (ql hg) λh' eb=>{rfl,I.turned (t':=s.toks) (λb o hb e=>eb b o hb e) f0 f1 f3 f4 f5}
 self:=λA i s Q E st h=>hself A i s Q E st h
theorem Abc {l:jk}{tl:TE}(hl:PE X l tl):PI X tg l (Aif tl):=by
 intro pins s G H R I h;refine thE hl I h λv s1 x H1 I1 r1 q1=>?_;obtain⟨z,e,q⟩:=q1;subst e;obtain⟨t,rfl⟩:=r1;have fin:∀(o:Obj) (ty:String),(ty="str_ascii_iterator"\/ty="str_iterator")->(∀A':jp,A'.handled=tp->HP X.prog X.w A' s1.heap.objs.8 [s1.heap.objs.8] [s1.heap.objs.8] z.cps.8 (SignAt z) (λi h=>h.IsStrIter s1.heap.objs.8 ty z t i)) ->
   (∀(A:jp) (i:Nat) (s:fz) (Q:Za0) (E:Za0),s.heap.IsStrIter s1.heap.objs.8 ty z t i->Q (.ref s1.heap.objs.8) s->wpAny (model X.prog X.w) A (pyIter (.ref s1.heap.objs.8)) Q E s) ->
   (s1.heap.push o).IsStrIter s1.heap.objs.8 ty z t 0->PIE X pins G tg R (.ref s1.heap.objs.8) { s1 with heap:=s1.heap.push o }:=λo ty hty W hs h0=>by
  refine{s1.heap.objs.8,[s1.heap.objs.8],_,_,H1,rfl,I1.kept (t':=s1.toks) λb o e=>fe _ e,Abh hty W hs,h0,λb hb=>?_,q};have e:b=s1.heap.objs.8:=by simpa using hb
  subst e;exact I1.fpOk (d8 _) (I1.hok.fresh (d8 _))
 cases ha:z.cps.all (· < 128)
 .exact wpAny_pyIter_wide ha (fin _ _ (.inr rfl) (λA' hA=>Walks.strWide hA _ z t) (λA i s Q E st h=>wpAny_pyIter_striter_wide st h) {_,ik _ rfl,rfl,rfl})
 .exact wpAny_pyIter_ascii ha (fin _ _ (.inl rfl) (λA' hA=>Walks.strAscii hA _ z t) (λA i s Q E st h=>wpAny_pyIter_striter_ascii st h) {_,ik _ rfl,rfl,rfl})
end
theorem Afh {tl:TE}{G:St}{R:It->Hp->Prop}(h:tl G H λx H1=>∃z,x=.str z/\R (Its z) H1):Aif tl G H R:=h
theorem Aft {tA:TA}{G:St}{R:It->Hp->Prop}(h:tA G H λvs H1=>∃i j k:Int,vs=[.int i,.int j,.int k]/\(-(2 ^ 40)<=i/\i<2 ^ 40/\-(2 ^ 40)<=j/\j<2 ^ 40/\0<k/\k<2 ^ 29)/\R (eK i k (C1 i j k)) H1):Ae4 tA G H R:=h
def Z0 (z:Str)(lo hi:Option Int):Str:={((z.cps.toList.drop (_T.sIx z.cps.8 0 lo)).take (_T.sIx z.cps.8 z.cps.8 hi-_T.sIx z.cps.8 0 lo)).6}
def Ahp:V->Option Int->Option Int->Hp->VK->Prop:=λx lo hi H Q=>∃z,x=.str z/\z.9<=sizeLine/\Q (.str (Z0 z lo hi)) H
theorem Ajc (lo hi:Option Int)(n:Nat):mv lo hi 1 n=(en (_T.sIx n n hi-_T.sIx n 0 lo)).map (_T.sIx n 0 lo + ·):=by
 have e:mv lo hi 1 n=sliceRange ((_T.sIx n 0 lo:Nat):Int) ((_T.sIx n n hi:Nat):Int) 1:=by
  unfold mv;dsimp only;congr 1
  .cases lo with
   |none=>simp[_T.sIx]
   |some i=>
    simp only[_T.sIx,show(1:Int)>0 by decide,if_true]
    by_cases h:i<0
    .simp only[h,if_true]
     lia
    .simp only[h,if_false]
     lia
  .cases hi with
   |none=>simp[_T.sIx]
   |some i=>
    simp only[_T.sIx,show(1:Int)>0 by decide,if_true]
    by_cases h:i<0
    .simp only[h,if_true]
     lia
    .simp only[h,if_false]
     lia
 rw[e,KH]
theorem xB (z:Str)(t:Tok)(l u:Option (Int×Tok)):(sliceMade z t l u tp=.val (.str z t)/\Z0 z (l.map (·.1)) (u.map (·.1))=z)\/sliceMade z t l u tp=.str (Z0 z (l.map (·.1)) (u.map (·.1))):=by
 have hp:slicePicked z l u tp=(en (_T.sIx z.9 z.9 (u.map (·.1))-_T.sIx z.9 0 (l.map (·.1)))).map (_T.sIx z.9 0 (l.map (·.1)) + ·):=Ajc _ _ _;have hc:(slicePicked z l u tp).filterMap (z.cps[·]?)=(Z0 z (l.map (·.1)) (u.map (·.1))).cps.toList:=by
  rw[hp,KJ];rfl
 unfold sliceMade;split
 .rename_i hw
  left
  refine{rfl,Il ?_};have hlen:(slicePicked z l u tp).9=z.9:=by simpa using hw
  rw[hp,d4,fm] at hlen;have h1:=_T.sIx_le z.9 0 (gy _) (l.map (·.1));have h2:=_T.sIx_le z.9 z.9 (d8 _) (u.map (·.1));have e1:_T.sIx z.9 0 (l.map (·.1))=0\/z.9=0:=()
  show((z.cps.toList.drop (_T.sIx z.cps.8 0 (l.map (·.1)))).take _).toArray.toList=_;rw[show z.cps.8=z.9 from rfl] at *;rcases e1 with e1|e1
  .rw[e1,qm] at hlen
   rw[e1,hlen,qm,qe,m8];exact fv (by simp[uq])
  .have:z.cps.7=[]:=by
    have:z.cps.8=0:=e1
    simpa using this
   rw[this];simp
 .right
  rw[hc]
section
variable {X:Cx}
theorem Rn:SlR X Ahp:=by
 intro pins s G H x v vl vu lo hi sl Q I rx hs pl pu h;obtain⟨z,rfl,hz,q⟩:=h;obtain⟨t,rfl⟩:=rx;refine{"str",_,AN.lookup,xr _ _ _,?_};obtain⟨l,el,el'⟩:∃l:Option (Int×Tok),vl=partValue l/\lo=l.map (·.1):=by
  cases pl with
  |none=>exact⟨tp,rfl,rfl⟩
  |int i t=>exact{mn (i,t),rfl,rfl}
 obtain⟨u,eu,eu'⟩:∃u:Option (Int×Tok),vu=partValue u/\hi=u.map (·.1):=by
  cases pu with
  |none=>exact⟨tp,rfl,rfl⟩
  |int i t=>exact{mn (i,t),rfl,rfl}
 subst el el' eu eu';refine ET (l:=l) (u:=u) (st:=tp) hs rfl ?_;rcases xB z t l u with⟨e,e2⟩|e
 .rw[e]
  rw[e2] at q;exact{.str z,H,I,⟨t,rfl⟩,q}
 .rw[e]
  refine{?_,.str _,H,I.tok _,{_,rfl},q};refine iw ?_ hz;show(CW _ (KO _ z.cps.7)).toArray.size<=z.cps.8;rw[gh,fk,i9];simp;lia
def Xs (z:Str):Str:=⟨z.cps.toList.reverse.6⟩
def Aim (te:TE):TE:=λG H Q=>te G H λx H1=>∃z,x=.str z/\z.9<=sizeLine/\Q (.str (Xs z)) H1
end
theorem Aef:bootBuiltins "zip"=mn (.type "zip"):=by decide +kernel
theorem Sg:bootBuiltins "enumerate"=mn (.type "enumerate"):=by decide +kernel
theorem Inv.turnT {G:List (Option V)}{wr:List ee}{T:ee}(I:Inv X pins G H s)
  (k:∀b o,b∉wr->s.heap.get? b=mn o->h'.get? b=mn o)(hf:∀b∈wr,U3 X pins H b)(hT:s.heap.objs.8<=T)(hI:h'.IsTuple T us.6)(rv:A5 xs us)(hz:xs.9<=sizeLine) :
  Inv X pins G (upd H T (.tup xs)) { s with heap:=h',toks:=t' }:=by
 have hn:H T=tp:=I.hok.fresh hT;have nT:∀b u,H b=mn u->b≠T:=λb u e=>Am e hn;have nW:∀b u,H b=mn u->b∉wr:=λb u e z=>by rw[(hf b z).1] at e;cases e
 refine I.step (g':=s.gens) (d':=s.drawn) (ch:=wr) (λb hb=>?_) (λb o _ _ hc e _=>k b o hc e) (λb o _ _ hc e _=>{o.slots,k b o hc e}) (λb o hc e n=>?_)
  (λb o hc e=>{o,k b o hc e}) (λb xs e=>by rw[Al (nT _ _ e)];exact e) (λb o u e=>by rw[Al (nT _ _ e)];exact e) (λb ps e=>{#[],by rw[Al (nT _ _ e),e];simp}) (λm hm=>?_) (λb u e=>?_) I.bare
 .obtain⟨_,f1,_,f3,f4,f5⟩:=hf b hb
  exact⟨f3,f1,f4,f5⟩
 .rw[Al (ip (gq (gd e) hT))]
  exact n
 .obtain⟨o,es,ep,ho,r⟩:=hm
  exact{o,es,ep,k _ o (λz=>(hf _ z).2.1 rfl) ho,r}
 .by_cases hb:b=T
  .subst hb
   rw[Ac] at e;cases e;exact⟨hz,us,rv,hI⟩
  .rw[Al hb] at e
   refine(I.hok b u e).stay (λc v hc q=>k c v ?_ q) (λc q=>by rw[Al (nT _ _ q)];exact q) λc ys q=>by rw[Al (nT _ _ q)];exact q
   rcases hc with z|z
   .rw[z];exact nW b u e
   .exact nW c _ z
theorem Inv.turnW {G:List (Option V)}{wr:List ee}(I:Inv X pins G H s)
  (k:∀b o,b∉wr->s.heap.get? b=mn o->h'.get? b=mn o)(hf:∀b∈wr,U3 X pins H b):Inv X pins G H { s with heap:=h',toks:=t' }:=by
 have nW:∀b u,H b=mn u->b∉wr:=λb u e z=>by rw[(hf b z).1] at e;cases e
 refine I.step (g':=s.gens) (d':=s.drawn) (ch:=wr) (λb hb=>?_) (λb o _ _ hc e _=>k b o hc e) (λb o _ _ hc e _=>{o.slots,k b o hc e}) (λb o hc e n=>n)
  (λb o hc e=>{o,k b o hc e}) (λ_ _ e=>e) (λ_ _ _ e=>e) (λb ps e=>{#[],by rw[e];simp}) (λm hm=>?_) (λb u e=>?_) I.bare
 .obtain⟨_,f1,_,f3,f4,f5⟩:=hf b hb
  exact⟨f3,f1,f4,f5⟩
 .obtain⟨o,es,ep,ho,r⟩:=hm
  exact{o,es,ep,k _ o (λz=>(hf _ z).2.1 rfl) ho,r}
 .refine(I.hok b u e).stay (λc v hc q=>k c v ?_ q) (λ_ q=>q) λ_ _ q=>q
  rcases hc with z|z
  .rw[z];exact nW b u e
  .exact nW c _ z
theorem Gx {a b:ee}{o u:Obj}(h1:h.get? a=mn o)(h2:h.get? b=mn u)(d:o.cls≠u.cls):a≠b:=λe=>by
 subst e;rw[h1] at h2;cases h2;exact d rfl
def Itz (K:d5)(a b:ee):It:=
 ⟨λi H=>∃xs ys x y,SqL K H a xs/\SqL K H b ys/\xs[i]?=mn x/\ys[i]?=mn y,
  λi H v H'=>∃t x y,H t=tp/\v=.ref t/\(∀xs,SqL K H a xs->xs[i]?=mn x)/\(∀ys,SqL K H b ys->ys[i]?=mn y)/\H'=upd H t (.tup [x,y]),
  λi H=>∃xs ys,SqL K H a xs/\SqL K H b ys/\i=min xs.9 ys.9⟩
def StZ (z TI TO i1 i2 l1 l2:ee)(i:Nat)(h:ki):Prop:=IsZip h z TI TO .none/\wd h TI (.ref i1) (.ref i2)/\(∃a b,wd h TO a b)/\h.IsListIter i1 l1 i/\h.IsListIter i2 l2 i
structure qA (z TI TO i1 i2:ee):Prop where
 TIz:TI≠z
 TOz:TO≠z
 i1z:i1≠z
 i2z:i2≠z
 TITO:TI≠TO
 TIi1:TI≠i1
 TIi2:TI≠i2
 TOi1:TO≠i1
 TOi2:TO≠i2
 i12:i1≠i2
theorem mM {TI TO a b:ee}{i:Nat}{xs ys:Array ft}(D:qA z TI TO i1 i2)(st:StZ z TI TO i1 i2 a b i h)(ha:h.IsList a xs)(hb:h.IsList b ys):AJ z TI TO i1 i2 a b:=by
 obtain⟨hz,hTI,⟨u,v,hTO⟩,⟨o1,e1,c1,_⟩,⟨o2,e2,c2,_⟩⟩:=st;obtain⟨oa,ea,ca,_⟩:=ha;obtain⟨ob,eb,cb,_⟩:=hb;refine{D.TIz,D.TOz,D.i1z,D.i2z,D.TITO,D.TIi1,D.TIi2,D.TOi1,D.TOi2,D.i12,Gx ea hz ?_,Gx ea hTO ?_,Gx ea e1 ?_,Gx ea e2 ?_,Gx eb hz ?_,Gx eb hTO ?_,Gx eb e1 ?_,Gx eb e2 ?_}
 .rw[ca];exact show nq "list"≠nq "zip" by decide
 .rw[ca];exact show nq "list"≠nq "tuple" by decide
 .rw[ca,c1];decide
 .rw[ca,c2];decide
 .rw[cb];exact show nq "list"≠nq "zip" by decide
 .rw[cb];exact show nq "list"≠nq "tuple" by decide
 .rw[cb,c1];decide
 .rw[cb,c2];decide
theorem W7 (n:Nat):qA (n+4) (n+2) (n+3) n (n+1):=by
 constructor<;>(intro h;have h:(_:Nat)=_:=h;lia)
theorem Ai9 {c:Nat}(h:c=n+4\/c=n+2\/c=n+3\/c=n\/c=n+1):n<=c:=()
theorem Ad3 {c:Nat}(h:c=n+1\/c=n):n<=c:=()
theorem Ad2 (n:Nat):n+1≠n:=()
theorem Aaf {P:gu}{K:d5}{elts:List jk}{k:Nat}(z TI TO i1 i2 a b:ee)(D:qA z TI TO i1 i2) :
  Vf P w K (.Tuple elts k pos) (Itz K a b) [z,TI,TO,i1,i2] z (StZ z TI TO i1 i2 a b) where
 mem:=by simp
 obj:=λi h st c hc=>by
  obtain⟨hz,hTI,⟨u,v,hTO⟩,⟨o1,e1,c1,d1⟩,⟨o2,e2,c2,d2⟩⟩:=st;simp only[jn,nz,or_false] at hc;rcases hc with rfl|rfl|rfl|rfl|rfl
  .exact{_,hz,λv z=>by cases z}
  .exact{_,hTI,λv z=>by cases z}
  .exact{_,hTO,λv z=>by cases z}
  .exact{_,e1,λv z=>by rw[d1] at z;cases z}
  .exact{_,e2,λv z=>by rw[d2] at z;cases z}
 keep:=λi h h' st kk=>by
  obtain⟨hz,hTI,⟨u,v,hTO⟩,h1,h2⟩:=st;exact{kk _ (by simp) _ hz,kk _ (by simp) _ hTI,{u,v,kk _ (by simp) _ hTO},h1.at λo e=>kk _ (by simp) o e,h2.at λo e=>kk _ (by simp) o e}
 item:=by
  intro X hP hw hK hc i pins s G H E I hf st hg;subst hP hw hK;obtain⟨xs,ys,x,y,ha,hb,hx,hy⟩:=hg;obtain⟨its,rv,p,hz⟩:=I.list ha;obtain⟨its2,rv2,p2,hz2⟩:=I.list hb;have W:=GY (prog:=X.prog) (w:=X.w) (A:=X.A) (I.ok.hd hc) z TI TO i1 i2 a b (mM D st p.isList p2.isList) its.6 its2.6;obtain⟨u1,hu1,ru1⟩:=rv.get hx;obtain⟨u2,hu2,ru2⟩:=rv2.get hy;have l1:=(fq.mp hu1).1;have l2:=(fq.mp hu2).1;obtain⟨s1,s2,s3,s4,s5⟩:=id st;refine W.item i s _ _ (by simp;lia) ⟨s1,s2,s3,s4,s5,p.isList,p2.isList⟩ λT vals h' tk hv hT hTu mid kk=>?_;obtain⟨v1,v2,e1,e2,rfl⟩:=hv;have e1:v1=u1:=by have:=e1;simp only[xm] at this;rw[hu1] at this;exact(fc this).symm
  have e2:v2=u2:=by have:=e2;simp only[xm] at this;rw[hu2] at this;exact(fc this).symm
  subst e1 e2;have nT:=W.apart i T h' mid;refine⟨.ref T,rfl,W.go elts k pos i T { s with heap:=h',toks:=tk } _ _ mid λh'' st'' kk2=>?_⟩;have hTu2:h''.IsTuple T ([v1,v2]:Za3).6:=by
   obtain⟨o,e,r⟩:=hTu;exact{o,kk2 T o nT e,r}
  have I2:Inv X pins G (upd H T (.tup [x,y])) { s with heap:=h'',toks:=tk }:=I.turnT (t':=tk) (λb o hb e=>kk2 b o hb (kk b o hb e)) (λb hb=>hf b (by simp at hb ⊢;rcases hb with rfl|rfl|rfl|rfl<;>simp)) hT hTu2 (.cons ru1 (.cons ru2 .nil)) (show 2<=sizeLine by decide)
  refine{.ref T,_,I2,rfl,{T,x,y,I.hok.fresh hT,rfl,λxs' h=>by rw[I.list_inj h ha];exact hx,λys' h=>by rw[I.list_inj h hb];exact hy,rfl},⟨st''.1,st''.2.1,st''.2.2.1,st''.2.2.2.1,st''.2.2.2.2.1⟩,λc hc'=>?_};have hlt:c<s.heap.objs.8:=by
   obtain⟨q,⟨t1,t2,t3⟩⟩:c∈[z,TI,TO,i1,i2]/\(IsZip s.5 z TI TO .none/\wd s.5 TI (.ref i1) (.ref i2)/\True):=⟨hc',s1,s2,trivial⟩;obtain⟨u,v,s3⟩:=s3;obtain⟨o4,s4,_⟩:=s4;obtain⟨o5,s5,_⟩:=s5;simp only[jn,nz,or_false] at hc';rcases hc' with rfl|rfl|rfl|rfl|rfl
   .exact gd s1
   .exact gd s2
   .exact gd s3
   .exact gd s4
   .exact gd s5
  rw[Al (ip (gq hlt hT))];exact(hf c hc').1
 done:=by
  intro X hP hw hK hc i pins s G H E I hf st hg;subst hP hw hK;obtain⟨xs,ys,ha,hb,hi⟩:=hg;obtain⟨its,rv,p,hz⟩:=I.list ha;obtain⟨its2,rv2,p2,hz2⟩:=I.list hb;have W:=GY (prog:=X.prog) (w:=X.w) (A:=X.A) (I.ok.hd hc) z TI TO i1 i2 a b (mM D st p.isList p2.isList) its.6 its2.6;have hl:=rv.9;have hl2:=rv2.9;have hi2:i=min its.toArray.8 its2.toArray.8:=by rw[hi,hl,hl2];simp
  obtain⟨s1,s2,s3,s4,s5⟩:=id st;refine W.done s _ _ (by rw[<-hi2];exact⟨s1,s2,s3,s4,s5,p.isList,p2.isList⟩) λh' tk kk=>{rfl,?_};exact I.turnW (t':=tk) kk λb hb=>hf b (by simp at hb ⊢;rcases hb with rfl|rfl|rfl|rfl<;>simp)
 self:=λ_ _ _ _ _ st h=>BL st.1 h
section
variable {X:Cx} {elts:List jk} {k:Nat} {tpos:Pos}
def Aid (K:d5)(ta:TA):TI:=λG H R=>ta G H λvs H1=>∃a b,vs=[.ref a,.ref b]/\(∃xs,SqL K H1 a xs)/\(∃ys,SqL K H1 b ys)/\R (Itz K a b) H1
theorem Ro {a b:jk}{ta:TA}{p:Pos}(hg:Gl X "zip")(hm:X.mg "zip"=tp)(ha:PA X [a,b] ta)(hs:autoParam (starEach [a,b] X.env=[(ML,eval a X.env),(ML,eval b X.env)]) QD)(hs2:autoParam (starEach [b] X.env=[(ML,eval b X.env)]) QD) :
  PI X (.Tuple elts k tpos) (.Call (.Name "zip" p) [a,b] [] pos) (Aid X.K ta):=by
 intro pins s G H R I h;refine Call_ (Ee I hg hm Aef (i8 (thA ha I h λus s1 vs H1 I1 r1 q1=>?_) (by rw[hs,hs2]) (by rw[hs2];rfl)));obtain⟨a,b,e,⟨xs,hx⟩,⟨ys,hy⟩,q⟩:=q1;subst e;obtain⟨u,v,rfl,ru,rv⟩:=Vp r1;cases ru;cases rv;obtain⟨its,rv,p,hz⟩:=I1.list hx;obtain⟨its2,rv2,p2,hz2⟩:=I1.list hy;refine call_zip_2 p.isList p2.isList λh' g1 g2 g3 g4 g5 hsz kk=>?_;refine BL (s:={ s1 with heap:=h' }) g1 ?_;refine⟨s1.heap.objs.8+4,[s1.heap.objs.8+4,s1.heap.objs.8+2,s1.heap.objs.8+3,s1.heap.objs.8,s1.heap.objs.8+1],_,_,H1,rfl,I1.kept (t':=s1.toks) kk,
  Aaf _ _ _ _ _ a b (W7 _),{g1,g2,{_,_,g3},g4,g5},λc hc=>?_,q⟩
 have hle:s1.heap.objs.8<=c:=by
  simp only[jn,nz,or_false] at hc;exact Ai9 hc
 exact I1.fpOk hle (I1.hok.fresh hle)
end
def Ite (K:d5)(a:ee):It:=
 ⟨λi H=>∃xs x,SqL K H a xs/\xs[i]?=mn x,
  λi H v H'=>∃t x,H t=tp/\v=.ref t/\(∀xs,SqL K H a xs->xs[i]?=mn x)/\H'=upd H t (.tup [.int i,x]),
  λi H=>∃xs,SqL K H a xs/\i=xs.9⟩
def StE (e it l:ee)(i:Nat)(h:ki):Prop:=(∃old,IsEnum h e it i old)/\h.IsListIter it l i
theorem tT {P:gu}{K:d5}{elts:List jk}{k:Nat}(e it a:ee)(D:e≠it) :
  Vf P w K (.Tuple elts k pos) (Ite K a) [e,it] e (StE e it a) where
 mem:=by simp
 obj:=λi h st c hc=>by
  obtain⟨⟨old,he⟩,⟨o1,e1,c1,d1⟩⟩:=st;simp only[jn,nz,or_false] at hc;rcases hc with rfl|rfl
  .exact{_,he,λv z=>by cases z}
  .exact{_,e1,λv z=>by rw[d1] at z;cases z}
 keep:=λi h h' st kk=>by
  obtain⟨⟨old,he⟩,h1⟩:=st;exact{{old,kk _ (by simp) _ he},h1.at λo e=>kk _ (by simp) o e}
 item:=by
  intro X hP hw hK hc i pins s G H E I hf st hg;subst hP hw hK;obtain⟨xs,x,ha,hx⟩:=hg;obtain⟨its,rv,p,hz⟩:=I.list ha;obtain⟨⟨old,s1⟩,s2⟩:=id st;have n1:a≠e:=by obtain⟨oa,ea,ca,_⟩:=p.isList;exact Gx ea s1 (by rw[ca];exact show nq "list"≠nq "enumerate" by decide)
  have n2:a≠it:=by obtain⟨oa,ea,ca,_⟩:=p.isList;obtain⟨o1,e1,c1,_⟩:=s2;exact Gx ea e1 (by rw[ca,c1];decide)
  have W:=EU (prog:=X.prog) (w:=X.w) (A:=X.A) (I.ok.hd hc) e it a D n1 n2 its.6;obtain⟨u1,hu1,ru1⟩:=rv.get hx;have l1:=(fq.mp hu1).1;refine W.item i s _ _ (by simpa using l1) {⟨old,s1⟩,s2,p.isList} λT vals h' tk hv hT hTu mid kk=>?_;obtain⟨t,v1,e1,rfl⟩:=hv;have e1:v1=u1:=by have:=e1;simp only[xm] at this;rw[hu1] at this;exact(fc this).symm
  subst e1;have nT:=W.apart i T h' mid;refine⟨.ref T,rfl,W.go elts k pos i T { s with heap:=h',toks:=tk } _ _ mid λh'' st'' kk2=>?_⟩;have hTu2:h''.IsTuple T ([nu (i:Int) t,v1]:Za3).6:=by
   obtain⟨o,e,r⟩:=hTu;exact{o,kk2 T o nT e,r}
  have I2:Inv X pins G (upd H T (.tup [.int i,x])) { s with heap:=h'',toks:=tk }:=I.turnT (t':=tk) (λb o hb e=>kk2 b o hb (kk b o hb e)) (λb hb=>hf b hb) hT hTu2 (.cons ⟨t,rfl⟩ (.cons ru1 .nil)) (show 2<=sizeLine by decide);refine{.ref T,_,I2,rfl,{T,x,I.hok.fresh hT,rfl,λxs' h=>by rw[I.list_inj h ha];exact hx,rfl},{?_,st''.2.1},λc hc'=>?_}
  .exact st''.1
  have hlt:c<s.heap.objs.8:=by
   obtain⟨o5,s5,_⟩:=s2;simp only[jn,nz,or_false] at hc';rcases hc' with rfl|rfl
   .exact gd s1
   .exact gd s5
  rw[Al (ip (gq hlt hT))];exact(hf c hc').1
 done:=by
  intro X hP hw hK hc i pins s G H E I hf st hg;subst hP hw hK;obtain⟨xs,ha,hi⟩:=hg;obtain⟨its,rv,p,hz⟩:=I.list ha;obtain⟨⟨old,s1⟩,s2⟩:=id st;have n1:a≠e:=by obtain⟨oa,ea,ca,_⟩:=p.isList;exact Gx ea s1 (by rw[ca];exact show nq "list"≠nq "enumerate" by decide)
  have n2:a≠it:=by obtain⟨oa,ea,ca,_⟩:=p.isList;obtain⟨o1,e1,c1,_⟩:=s2;exact Gx ea e1 (by rw[ca,c1];decide)
  have W:=EU (prog:=X.prog) (w:=X.w) (A:=X.A) (I.ok.hd hc) e it a D n1 n2 its.6;have hl:=rv.9;have hi2:i=its.toArray.8:=by rw[hi,hl];simp
  refine W.done s _ _ (by rw[<-hi2];exact{⟨old,s1⟩,s2,p.isList}) λh' tk kk=>{rfl,?_};exact I.turnW (t':=tk) kk λb hb=>hf b hb
 self:=λ_ _ _ _ _ st h=>w4 (BI st.1) h
section
variable {X:Cx} {elts:List jk} {k:Nat} {tpos:Pos}
def Aec (K:d5)(ta:TA):TI:=λG H R=>ta G H λvs H1=>∃a,vs=[.ref a]/\(∃xs,SqL K H1 a xs)/\R (Ite K a) H1
theorem fM {a:jk}{ta:TA}{p:Pos}(hg:Gl X "enumerate")(hm:X.mg "enumerate"=tp)(ha:PA X [a] ta)(hs:autoParam (starEach [a] X.env=[(ML,eval a X.env)]) QD) :
  PI X (.Tuple elts k tpos) (.Call (.Name "enumerate" p) [a] [] pos) (Aec X.K ta):=by
 intro pins s G H R I h;refine Call_ (Ee I hg hm Sg (i8 (thA ha I h λus s1 vs H1 I1 r1 q1=>?_) hs rfl));obtain⟨a,e,⟨xs,hx⟩,q⟩:=q1;subst e;obtain⟨u,rfl,ru⟩:=E4 r1;cases ru;obtain⟨its,rv,p,hz⟩:=I1.list hx;refine call_enumerate_list p.isList λh' g1 g2 hsz kk=>?_;refine w4 (s:={ s1 with heap:=h' }) g1 ?_;refine⟨s1.heap.objs.8+1,[s1.heap.objs.8+1,s1.heap.objs.8],_,_,H1,rfl,I1.kept (t':=s1.toks) kk,
  tT _ _ a (Ad2 _),{{_,g1},g2},λc hc=>?_,q⟩
 have hle:s1.heap.objs.8<=c:=by
  simp only[jn,nz,or_false] at hc;exact Ad3 hc
 exact I1.fpOk hle (I1.hok.fresh hle)
end
structure Dj (QQ:Za6) (QP sc:qh) (x1 x2:Str) (N:Za6) (ix:Za4):Prop where
 kind:sc.kind=.function
 nocell:∀y∈sc.names,y.2≠.cell
 names:∀y∈sc.names,y.2=.local->sc.names.lookup y.1=mn .local
 free:∀y∈sc.names,y.2=.free->QP.names.lookup y.1=mn .cell
 nd:N.Nodup
 hd:N[0]?=mn x1
 hd2:N[1]?=mn x2
 loc:sc.names.lookup x1=mn .local
 loc2:sc.names.lookup x2=mn .local
 len:N.9=ix.9+2
 at_:∀p∈N.tail.tail.zip ix,QQ[p.2]?=mn p.1/\sc.names.lookup p.1=mn .free
def Hh (K:d5)(J:It)(H1:Hp)(fr:St)(tc:TT)(te:TE)(Q:VK):Prop:=∀D,H1 D=tp->∃W:Nat->Nat->Hp->Prop,(∃m,W 0 m (upd H1 D (.lst [])))/\∀i m H,W i m H ->
 (J.stop i H/\Q (.ref D) H)\/(J.go i H/\∀v H',J.yld i H v H'->∃a x y,v=.ref a/\SqT K H' a [x,y]/\tc (mn x::mn y::fr) H' λb H3=>
  if b=MK then te (mn x::mn y::fr) H3 λy H4=>∃ys,H4 D=mn (.lst ys)/\ys.9<sizeLine/\∃m',m'<m/\W (i+1) m' (upd H4 D (.lst (ys++[y]))) else ∃m',m'<m/\W (i+1) m' H3)
def Agr (K:d5)(wi:TI)(ix:Za4)(tc:TT)(te:TE):TE:=λG H Q=>wi G H λJ H1=>Hh K J H1 (frV G ix) tc te Q
section
variable {X:Cx} {scope:qh} {N:Za6} {ix:Za4} {x1 x2:Str} {px px2 ppos:Pos} {kk:Nat} {elt iter:jk} {ifs:List jk} {tc:TT} {te:TE} {pos:Pos}
theorem Dj.g (L:Dj QQ QP sc x1 x2 N ix):LcG QQ QP sc 2 N ix:={L.kind,L.nocell,L.names,L.free,L.nd,L.len,by rw[show N.drop 2=N.tail.tail by rw[<-CK,<-CK,md]];exact L.at_}
def Two (K:d5)(v:V)(H:Hp)(vs:List V):Prop:=∃a x y,v=.ref a/\SqT K H a [x,y]/\vs=[x,y]
theorem zA {K:d5}:Tk 2 (Two K) (oR K 2 (J3 (Eg 0) (J3 (Eg 1) nY))):=λ_ _ _ _ ⟨a,x,y,e,h,r⟩=>by subst r;exact{rfl,a,[x,y],e,h,rfl,x,[y],rfl,y,[],rfl,rfl,rfl,rfl}
theorem Dj.pg (L:Dj X.N X.env.scope scope x1 x2 N ix)(hc:X.calm=MK)(C:ee)(s:fz)(H:Hp)(fp:List ee):PG (Ek X scope N C s H fp) (.Tuple [.Name x1 px,.Name x2 px2] kk ppos) (oR X.K 2 (J3 (Eg 0) (J3 (Eg 1) nY))):=
 Uf hc (E1 (Og L.nd L.hd (.inl (qd L.loc)) (.inr (qd L.loc))) (E1 (Og L.nd L.hd2 (.inl (qd L.loc2)) (.inr (qd L.loc2))) Pj))
theorem Hh.g {K:d5}{fr:St}{Q:VK}(h:Hh K J H1 fr tc te Q):rdG (Two K) J H1 fr tc te Q:=λD hD=>by
 obtain⟨W,a,b⟩:=h D hD;exact{W,a,λi m H w=>(b i m H w).imp id λ⟨p,q⟩=>{p,λv H' y=>let ⟨a,x,y,e,h,r⟩:=q v H' y;{[x,y],⟨a,x,y,e,h,rfl⟩,r}}}
theorem Aa8 (hc:X.calm=MK)(L:Dj X.N X.env.scope scope x1 x2 N ix)(hi:PI X (.Tuple [.Name x1 px,.Name x2 px2] kk ppos) iter wi)(hif:∀C s H fp,PIf (Ek X scope N C s H fp) ifs tc)(he:∀C s H fp,PE (Ek X scope N C s H fp) elt te)
  (hs:autoParam (∀z,foldedSetIterable iter X.env z=pure z) QJ):PE X (.ListComp elt [{.Tuple [.Name x1 px,.Name x2 px2] kk ppos,iter,ifs,0}] scope pos) (Agr X.K wi ix tc te):=xA (rd:=λJ H1 fr Q=>Hh X.K J H1 fr tc te Q) zA (L.pg hc) Hh.g hc L.g hi hif he hs
theorem Kd {i:Nat}{y:Str}{py spos:Pos}(hc:X.calm=MK)(L:Dj X.N X.env.scope scope x1 x2 N ix)(hN:X.N.Nodup)(hy:X.N[i]?=mn y)(hl:X.env.scope.names.lookup y=mn .local)
  (hi:PI X (.Tuple [.Name x1 px,.Name x2 px2] kk ppos) iter wi)(hif:∀C s H fp,PIf (Ek X scope N C s H fp) ifs tc)(he:∀C s H fp,PE (Ek X scope N C s H fp) elt te)
  (hsw:autoParam (swapsWith (.ListComp elt [{.Tuple [.Name x1 px,.Name x2 px2] kk ppos,iter,ifs,0}] scope pos) (mn (.Name y py)) spos.line X.env=pure MK) QD)
  (hs:autoParam (∀z,foldedSetIterable iter X.env z=pure z) QJ):PS X (.Assign [.Name y py] (.ListComp elt [{.Tuple [.Name x1 px,.Name x2 px2] kk ppos,iter,ifs,0}] scope pos) spos) (pQ (Agr X.K wi ix tc te) (Eg i)):=Zc (rd:=λJ H1 fr Q=>Hh X.K J H1 fr tc te Q) zA (L.pg hc) Hh.g hc L.g hN hy hl hi hif he hsw hs
end
theorem Afl {K:d5}{tA:TA}{G:St}{R:It->Hp->Prop}(h:tA G H λvs H1=>∃a b,vs=[.ref a,.ref b]/\(∃xs,SqL K H1 a xs)/\(∃ys,SqL K H1 b ys)/\R (Itz K a b) H1):Aid K tA G H R:=h
theorem Acv {K:d5}{tA:TA}{G:St}{R:It->Hp->Prop}(h:tA G H λvs H1=>∃a,vs=[.ref a]/\(∃xs,SqL K H1 a xs)/\R (Ite K a) H1):Aec K tA G H R:=h
theorem Ajd {K:d5}{G:St}{Q:VK}{tc:TT}(h:wi G H λJ H1=>Hh K J H1 (frV G ix) tc te Q):Agr K wi ix tc te G H Q:=h
theorem Z3 {K:d5}{G:St}{R:St->Hp->Prop}{a:ee}{x:V}{i j:Nat}(hs:SqT K H a [x,y])(h:R ((G.set i (mn x)).set j (mn y)) H):oR K 2 (J3 (Eg i) (J3 (Eg j) nY)) (.ref a) G H R:=
 {a,[x,y],rfl,hs,rfl,x,[y],rfl,y,[],rfl,rfl,h}
theorem xZ {K:d5}{fr:St}{tc:TT}{Q:VK}(n:Nat)(f1 f2:Nat->V)(acc:Nat->List V)(h0:acc 0=[])(hz:∀i,i<n->(acc i).9<sizeLine)
  (hgo:∀i H,i<n->Ah H1 H->J.go i H)(hy:∀i H v H',i<n->Ah H1 H->J.yld i H v H'->∃a,v=.ref a/\SqT K H' a [f1 i,f2 i]/\Ah H H')(hst:∀H,Ah H1 H->J.stop n H)
  (turn:∀i H (R:Hp->Prop) (A:VK),i<n->Ah H1 H->(acc (i+1)=acc i->∀H',Ah H H'->R H')->(∀y H',acc (i+1)=acc i++[y]->Ah H H'->A y H') ->
   tc (mn (f1 i)::mn (f2 i)::fr) H λb H3=>if b=MK then te (mn (f1 i)::mn (f2 i)::fr) H3 A else R H3)
  (fin:∀D H,H1 D=tp->Ah H1 H->H D=mn (.lst (acc n))->Q (.ref D) H):Hh K J H1 fr tc te Q:=by
 intro D hD;refine{λi m H=>i<=n/\m=n-i/\Ah H1 H/\H D=mn (.lst (acc i)),{n,gy _,rfl,Ai hD,by rw[Ac,h0]},?_};rintro i m H ⟨hi,rfl,sm,hl⟩
 by_cases h:i=n
 .subst h
  exact .inl {hst H sm,fin D H hD sm hl}
 .have hlt:i<n:=me hi h
  refine .inr {hgo i H hlt sm,λv H' hyl=>?_};obtain⟨a,rfl,ht,s2⟩:=hy i H v H' hlt sm hyl;refine{a,_,_,rfl,ht,turn i H' _ _ hlt (sm.trans s2) (λea H3 s3=>?_) (λy H4 ea s4=>?_)}
  .exact{n-(i+1),(),(),rfl,(sm.trans s2).trans s3,by rw[ea];exact s3 _ _ (s2 _ _ hl)}
  .refine{acc i,s4 _ _ (s2 _ _ hl),hz i hlt,n-(i+1),(),(),rfl,λb u e=>?_,by rw[Ac,ea]}
   rw[Al (Am e hD)];exact s4 _ _ (s2 _ _ (sm _ _ e))
theorem Aad {K:d5}{a b:ee}{fr:St}{tc:TT}{Q:VK}(ha:SqL K H1 a xs)(hb:SqL K H1 b ys)(acc:Nat->List V)(h0:acc 0=[])(hz:∀i,i<min xs.9 ys.9->(acc i).9<sizeLine)
  (turn:∀(i:Nat) x y H (R:Hp->Prop) (A:VK),xs[i]?=mn x->ys[i]?=mn y->Ah H1 H->(acc (i+1)=acc i->∀H',Ah H H'->R H')->(∀y H',acc (i+1)=acc i++[y]->Ah H H'->A y H') ->
   tc (mn x::mn y::fr) H λb H3=>if b=MK then te (mn x::mn y::fr) H3 A else R H3)
  (fin:∀D H,H1 D=tp->Ah H1 H->H D=mn (.lst (acc (min xs.9 ys.9)))->Q (.ref D) H):Hh K (Itz K a b) H1 fr tc te Q:=by
 refine xZ (min xs.9 ys.9) (λi=>xs.getD i .non) (λi=>ys.getD i .non) acc h0 hz (λi H hi sm=>{xs,ys,xs[i]'(),ys[i]'(),sm.seq ha,sm.seq hb,by simp,by simp}) (λi H v H' hi sm h=>?_)
  (λH sm=>{xs,ys,sm.seq ha,sm.seq hb,rfl}) (λi H R A hi sm=>turn i _ _ H R A (by simp[show i<xs.9 by lia]) (by simp[show i<ys.9 by lia]) sm) fin
 obtain⟨t,x,y,hn,rfl,h1,h2,rfl⟩:=h;have e1:=h1 xs (sm.seq ha);have e2:=h2 ys (sm.seq hb);refine{t,rfl,?_,Ai hn};simp only[jw,e1,e2,qc];exact SqT.of Ac
theorem kW {K:d5}{a:ee}{i1 i2:Nat}{tb:TS}{G:St}(Pv:Nat->St->Hp->Prop)(h0:Pv 0 G H)(hl:∀i G H,i<=xs.9->Pv i G H->SqL K H a xs)
  (step:∀i x G H t,xs[i]?=mn x->Pv i G H->H t=tp->tb { D with nx:=Pv (i+1),ct:=Pv (i+1),bk:=D.nx } ((G.set i1 (mn (.int i))).set i2 (mn x)) (upd H t (.tup [.int i,x])))
  (fin:∀G H,Pv xs.9 G H->D.nx G H):vI (Ite K a) (oR K 2 (J3 (Eg i1) (J3 (Eg i2) nY))) tb D G H:=by
 refine{λi m G H=>i<=xs.9/\m=xs.9-i/\Pv i G H,{_,gy _,rfl,h0},?_};rintro i m G H ⟨hi,rfl,hp⟩
 by_cases h:i=xs.9
 .exact .inl {{xs,hl i G H hi hp,h},fin G H (h▸hp)}
 .have hlt:i<xs.9:=me hi h
  refine .inr {{xs,xs[i],hl i G H hi hp,by simp},Pv (i+1),λmt H' q=>{xs.9-(i+1),(),hlt,rfl,q},λv H' hy=>?_};obtain⟨t,x,hn,rfl,hx,rfl⟩:=hy;exact Z3 (SqT.of Ac) (step i x G H t (hx xs (hl i G H hi hp)) hp hn)
def Adj (z:Str):It:=
 {λi _=>i<z.cps.8,λi H v H'=>∃t c,H t=tp/\v=.ref t/\z.cps[i]?=mn c/\H'=upd H t (.tup [.int i,.str (sgn c)]),λi _=>i=z.cps.8}
theorem mP {P:gu}{K:d5}{elts:List jk}{k:Nat}{e:ee}{z:Str}{ty:String}{t:Tok}(hne:e≠it)
  (D:∀A':jp,A'.handled=tp->Draws P w A' it [it] z.cps.8 (λi v=>∃c u,z.cps[i]?=mn c/\v=.str {#[c]} u) (λi h=>h.IsStrIter it ty z t i)) :
  Vf P w K (.Tuple elts k pos) (Adj z) [e,it] e (λi h=>(∃old,IsEnum h e it i old)/\h.IsStrIter it ty z t i) where
 mem:=by simp
 obj:=λi h st c hc=>by
  obtain⟨⟨old,he⟩,⟨o1,e1,c1,d1⟩⟩:=st;simp only[jn,nz,or_false] at hc;rcases hc with rfl|rfl
  .exact{_,he,λv z=>by cases z}
  .exact{_,e1,λv z=>by rw[d1] at z;cases z}
 keep:=λi h h' st kk=>by
  obtain⟨⟨old,he⟩,⟨o,ho,r⟩⟩:=st;exact{{old,kk _ (by simp) _ he},{o,kk _ (by simp) o ho,r}}
 item:=by
  intro X hP hw hK hc i pins s G H E I hf st hg;subst hP hw hK;have W:=EF (D X.A.in1 (I.ok.hd hc)) e hne (by simpa using hne) (by simp);refine W.item i s _ _ hg st λT vals h' tk hv hT hTu mid kk=>?_;obtain⟨t1,x,⟨c,u,hc',rfl⟩,rfl⟩:=hv;have nT:=W.apart i T h' mid;refine⟨.ref T,rfl,W.go elts k pos i T { s with heap:=h',toks:=tk } _ _ mid λh'' st'' kk2=>?_⟩;have hTu2:h''.IsTuple T ([nu (i:Int) t1,xq {#[c]} u]:Za3).6:=by
   obtain⟨o,e,r⟩:=hTu;exact{o,kk2 T o nT e,r}
  have I2:Inv X pins G (upd H T (.tup [.int i,.str (sgn c)])) { s with heap:=h'',toks:=tk }:=I.turnT (t':=tk) (λb o hb e=>kk2 b o hb (kk b o hb e)) (λb hb=>hf b hb) hT hTu2 (.cons ⟨t1,rfl⟩ (.cons ⟨u,rfl⟩ .nil)) (show 2<=sizeLine by decide);refine{.ref T,_,I2,rfl,{T,c,I.hok.fresh hT,rfl,hc',rfl},st'',λb hb=>?_};have hlt:b<s.heap.objs.8:=by
   obtain⟨⟨old,s1⟩,⟨o5,s5,_⟩⟩:=id st;simp only[jn,nz,or_false] at hb;rcases hb with rfl|rfl
   .exact gd s1
   .exact gd s5
  rw[Al (ip (gq hlt hT))];exact(hf b hb).1
 done:=by
  intro X hP hw hK hc i pins s G H E I hf st hg;subst hP hw hK;have W:=EF (D X.A.in1 (I.ok.hd hc)) e hne (by simpa using hne) (by simp);have hi:i=z.cps.8:=hg;refine W.done s _ _ (by rw[<-hi];exact st) λh' tk kk=>{rfl,?_};exact I.turnW (t':=tk) kk λb hb=>hf b hb
 self:=λ_ _ _ _ _ st h=>w4 (BI st.1) h
section
variable {X:Cx} {elts:List jk} {k:Nat} {tpos:Pos}
def Abg (ta:TA):TI:=λG H R=>ta G H λvs H1=>∃z,vs=[.str z]/\R (Adj z) H1
theorem yV {a:jk}{ta:TA}{p:Pos}(hg:Gl X "enumerate")(hm:X.mg "enumerate"=tp)(ha:PA X [a] ta)(hs:autoParam (starEach [a] X.env=[(ML,eval a X.env)]) QD) :
  PI X (.Tuple elts k tpos) (.Call (.Name "enumerate" p) [a] [] pos) (Abg ta):=by
 intro pins s G H R I h;refine Call_ (Ee I hg hm Sg (i8 (thA ha I h λus s1 vs H1 I1 r1 q1=>?_) hs rfl));obtain⟨z,e,q⟩:=q1;subst e;obtain⟨u,rfl,⟨t,rfl⟩⟩:=E4 r1;refine call_enumerate_str λh' g1 g2 hsz kk=>?_;refine w4 (s:={ s1 with heap:=h' }) g1 ?_;have fin:∀ty:String,h'.IsStrIter s1.heap.objs.8 ty z t 0->(∀A':jp,A'.handled=tp->Draws X.prog X.w A' s1.heap.objs.8 [s1.heap.objs.8] z.cps.8 (λi v=>∃c u,z.cps[i]?=mn c/\v=.str {#[c]} u) (λi h=>h.IsStrIter s1.heap.objs.8 ty z t i)) ->
   PIE X pins G (.Tuple elts k tpos) R (.ref (s1.heap.objs.8+1)) { s1 with heap:=h' }:=λty g2 D=>by
  refine{s1.heap.objs.8+1,[s1.heap.objs.8+1,s1.heap.objs.8],_,_,H1,rfl,I1.kept (t':=s1.toks) kk,mP (Ad2 _) D,{{_,g1},g2},λc hc=>?_,q};have hle:s1.heap.objs.8<=c:=by
   simp only[jn,nz,or_false] at hc;exact Ad3 hc
  exact I1.fpOk hle (I1.hok.fresh hle)
 by_cases ha:z.cps.all (· < 128)=MK
 .have e:strIterType z="str_ascii_iterator":=by unfold strIterType;rw[if_pos ha]
  exact fin _ (e▸g2) λA' hA=>Draws.strAscii hA _ z t
 .have e:strIterType z="str_iterator":=by unfold strIterType;rw[if_neg ha]
  exact fin _ (e▸g2) λA' hA=>Draws.strWide hA _ z t
end
theorem zB {tA:TA}{G:St}{R:It->Hp->Prop}(h:tA G H λvs H1=>∃z,vs=[.str z]/\R (Adj z) H1):Abg tA G H R:=h
theorem uH {K:d5}{z:Str}{i1 i2:Nat}{tb:TS}{G:St}(Pv:Nat->St->Hp->Prop)(h0:Pv 0 G H)
  (step:∀i c G H t,z.cps[i]?=mn c->Pv i G H->H t=tp->tb { D with nx:=Pv (i+1),ct:=Pv (i+1),bk:=D.nx } ((G.set i1 (mn (.int i))).set i2 (mn (.str (sgn c)))) (upd H t (.tup [.int i,.str (sgn c)])))
  (fin:∀G H,Pv z.cps.8 G H->D.nx G H):vI (Adj z) (oR K 2 (J3 (Eg i1) (J3 (Eg i2) nY))) tb D G H:=by
 refine{λi m G H=>i<=z.cps.8/\m=z.cps.8-i/\Pv i G H,{_,gy _,rfl,h0},?_};rintro i m G H ⟨hi,rfl,hp⟩
 by_cases h:i=z.cps.8
 .exact .inl {h,fin G H (h▸hp)}
 .have hlt:i<z.cps.8:=me hi h
  refine .inr {hlt,Pv (i+1),λmt H' q=>{z.cps.8-(i+1),(),hlt,rfl,q},λv H' hy=>?_};obtain⟨t,c,hn,rfl,hx,rfl⟩:=hy;exact Z3 (SqT.of Ac) (step i c G H t hx hp hn)
structure Mth (P:gu) (w:i7) (K:d5) (mg:Za2) (base:ki) (C:ee) (m:Str) (k:Nat) (ps:Za6) (sp:Sp):Prop where
 ex:∃(f:ee) (fd:ky),Av P w K mg base CX0 k f fd ps sp/\Fu K fd ps []/\Acw K C m f
 cl:Cls K C
structure Mkr (P:gu) (w:i7) (K:d5) (mg:Za2) (base:ki) (name:Str) (C:ee) (k:Nat) (ps:Za6) (sp:Sp):Prop where
 ex:∃(f:ee) (fd:ky),Av P w K mg base CX0 k f fd ps sp/\Fu K fd ps []/\Mk K C f/\mg name=mn (.ref C)
section
variable {X:Cx} {k:Nat} {C:ee} {ps:Za6} {sp:Sp} {name m:Str} {p pos apos:Pos} {e o:jk} {es:List jk} {ta:TE} {t:TA} {pl:Sem Bool}
theorem Ij (M:Mkr X.prog X.w X.K X.mg X.base name C k ps sp)(hr:Cz (k+1) X.A)(ha:PA X (e::es) t)(hg:autoParam (Gl X name) QD)(hdb:autoParam ((name==("__debug__":Str))=ML) QF)
  (he:autoParam (starEach (e::es) X.env=(ML,eval e X.env)::starEach es X.env) QD)(hpl:autoParam ((backTo pos (starEach es X.env)).any (·.1)=ML) QD):PE X (.Call (.Name name p) (e::es) [] pos) (qD C sp [] E0 t):=by
 obtain⟨f,fd,F,b,M,hm⟩:=M.ex;exact rO M F hr hg hm b .nil gN ha hdb he hpl
theorem Er (M:Mth X.prog X.w X.K X.mg X.base C m k ps sp)(hr:Cz k X.A)(ho:PE X o ta)(ha:PA X (e::es) t)
  (hst:autoParam (starEach (e::es) X.env=(ML,eval e X.env)::starEach es X.env) QD)(hpl:autoParam ((backTo pos (starEach es X.env)).any (·.1)=ML) QD)
  (ht:autoParam (eval (.Call (.Attribute o m apos) (e::es) [] pos) X.env=(do
   let ov <-eval o X.env
   standAt apos.atName
   let (f,first) <-holding [ov] (getMethod ov m pl)
   callWith pos f first (backTo pos (starEach (e::es) X.env)) (backToKw pos (keywordEach [] X.env)))) QD) :
  PE X (.Call (.Attribute o m apos) (e::es) [] pos) (Oi C m sp [] E0 ta t):=by
 obtain⟨f,fd,F,b,hm⟩:=M.ex;exact Adn ho M.cl hm F hr b .nil gN ha hst hpl ht
theorem Cr (M:Mth X.prog X.w X.K X.mg X.base C m k ps sp)(hr:Cz k X.A)(ho:PE X o ta)
  (ht:autoParam (eval (.Call (.Attribute o m apos) [] [] pos) X.env=(do
   let ov <-eval o X.env
   standAt apos.atName
   let (f,first) <-holding [ov] (getMethod ov m pl)
   callWith pos f first (backTo pos (starEach [] X.env)) (backToKw pos (keywordEach [] X.env)))) QD) :
  PE X (.Call (.Attribute o m apos) [] [] pos) (Oi C m sp [] E0 ta Sx):=by
 obtain⟨f,fd,F,b,hm⟩:=M.ex;exact Aaw ho M.cl hm F hr b .nil gN ht
end
section
variable {G:St} {H:Hp} {D:Jm} {Q:VK} {te ta tv:TE} {tA:TA} {K:d5}
theorem Aja {f:Str}(h:te G H λx H1=>∃a C dx fs v,x=.ref a/\H1 a=mn (.ins C dx fs)/\Cls K C/\Ay K C f/\fs.lookup f=mn v/\Q v H1):Ado K te f G H Q:=h
theorem zI {a:ee}{fs:List (Str×V)}{f:Str}{v:V}(h:H a=mn (.ins C dx fs))(c:Cls K C)(n:Ay K C f)(l:fs.lookup f=mn v)(q:Q v H) :
  ∃a' C' dx' fs' v',V.ref a=.ref a'/\H a'=mn (.ins C' dx' fs')/\Cls K C'/\Ay K C' f/\fs'.lookup f=mn v'/\Q v' H:=⟨a,C,dx,fs,v,rfl,h,c,n,l,q⟩
theorem Agt {f:Str}(h:tv G H λy H1=>ta G H1 λx H2=>∃a C dx fs,x=.ref a/\H2 a=mn (.ins C dx fs)/\Cls K C/\Ay K C f/\fs.9<1000/\D.nx G (upd H2 a (.ins C dx (Co f y fs)))):Agi K ta tv f D G H:=h
theorem Bj {a:ee}{fs:List (Str×V)}{f:Str}{R:Hp->Prop}(h:H a=mn (.ins C dx fs))(c:Cls K C)(n:Ay K C f)(l:fs.9<1000)(q:R (upd H a (.ins C dx (Co f y fs)))) :
  ∃a' C' dx' fs',V.ref a=.ref a'/\H a'=mn (.ins C' dx' fs')/\Cls K C'/\Ay K C' f/\fs'.9<1000/\R (upd H a' (.ins C' dx' (Co f y fs'))):=⟨a,C,dx,fs,rfl,h,c,n,l,q⟩
theorem Af9 {E:XK}(h:tA G H λvs H1=>∀x dx,H1 x=tp->H1 dx=tp->dx≠x->sp (.ref x::(vs++[])) (upd (upd H1 dx (.own x)) x (.ins C dx [])) (λv H2=>v=.non/\Q (.ref x) H2) E):qD C sp [] E tA G H Q:=h
theorem Ae7 {m:Str}{E:XK}(h:ta G H λx H1=>∃a dx fs,x=.ref a/\H1 a=mn (.ins C dx fs)/\fs.lookup m=tp/\tA G H1 λvs H2=>sp (x::(vs++[])) H2 Q E):Oi C m sp [] E ta tA G H Q:=h
end
section
variable {X:Cx}
def Rv (z:Str)(c:Nat):Nat:=z.cps.toList.count c
theorem Ym (c:Nat):∀l:Za4,JY c l=(l.count c:Nat)
 |[]=>rfl
 |n::r=>by
  rw[JX,Ym c r,sf]
  by_cases h:n=c
  .subst h;simp;lia
  .simp[h]
def Agy:V->List V->Hp->VK->Prop:=λx vs H Q=>∃z c,x=.str z/\vs=[.str (sgn c)]/\Q (.int (Rv z c:Nat)) H
theorem Oh:MtM X "str.count" Agy:=by
 intro pins s G H x vs v us Q I rx rv h;obtain⟨z,c,rfl,rfl,q⟩:=h;obtain⟨t,rfl⟩:=rx;obtain⟨u,rfl,ru⟩:=rv.one;obtain⟨t',rfl⟩:=ru;have e:Txt.count z (sgn c)=(Rv z c:Nat):=(JW z c).trans (Ym c _);refine SC.count ?_;rw[e];exact{.int (Rv z c:Nat),H,I.tok _,{_,rfl},q}
def Aij (K:d5):List V->Hp->VK->Prop:=λxs H Q=>∃(p:ee) (ns:List Int),xs=[.ref p]/\SqL K H p (ns.map V.int)/\Q (.int ns.sum) H
theorem yW (hc:X.calm=MK):Fw X (.builtin "sum") (Aij X.K):=by
 intro pins s G H xs us Q I r h;obtain⟨p,ns,rfl,hp,q⟩:=h;obtain⟨u,rfl,ru⟩:=E4 r;cases ru;obtain⟨its,r,pl,_⟩:=I.list hp;have hi:=T6 r;obtain⟨ys,e⟩:=hi.allInts.items;have hl:=pl.isList;have hs:(numsOf its).sum=ns.sum:=by rw[hi.numsOf]
 rw[e] at hl;refine sum_intListG (I.ok.hd hc) hl λh' tk t' hk=>?_;refine{.int ns.sum,H,I.kept hk,{t',?_},q};rw[preSum_eq,fv (by simp),<-hs];have e2:=LA ys;rw[<-e] at e2;rw[show its=its.toArray.7 from rfl,e2]
end
namespace IB
open PySem.NumText PySem.Calls
def bits (cs:Za4):Prop:=∀c∈cs,c=48\/c=49
def v2 (cs:Za4):Nat:=cs.foldl (λa c=>a*2+(c-48)) 0
theorem iC {c:Nat}(ds:Array Nat)(b:Bool)(h:c=48\/c=49):step 2 (ds,b) c=mn (ds.push (c-48),MK):=by rcases h with rfl|rfl<;>rfl
theorem Uj:∀(cs:Za4) (ds:Array Nat),bits cs->cs.foldlM (step 2) (ds,MK)=mn (cs.foldl (λacc c=>acc.push (c-48)) ds,MK)
 |[],ds,_=>rfl
 |c::cs,ds,h=>by
  rw[GB,iC ds MK (h c ii)];exact Uj cs _ λd hd=>h d (gn _ hd)
theorem fW (h:bits cs)(hne:cs≠[]):digits? 2 cs=mn (cs.foldl (λacc c=>acc.push (c-48)) #[]):=by
 cases cs with
 |nil=>exact absurd rfl hne
 |cons c cs=>
  unfold digits?;rw[GB,iC #[] ML (h c ii)];show((cs.foldlM (step 2) (#[].push (c-48),MK)).bind _)=_;rw[Uj cs _ λd hd=>h d (gn _ hd)];rfl
theorem U8:∀(cs:Za4) (ds:Array Nat),(cs.foldl (λacc c=>acc.push (c-48)) ds).foldl (λacc d=>acc*2+d) 0=cs.foldl (λacc c=>acc*2+(c-48)) (ds.foldl (λacc d=>acc*2+d) 0)
 |[],ds=>rfl
 |c::cs,ds=>by
  rw[qp,U8 cs,qp,Array.foldl_push]
theorem Za (h:bits cs):cs.dropWhile blank=cs:=by
 cases cs with
 |nil=>rfl
 |cons c cs=>
  rw[List.dropWhile_cons,if_neg];rcases h c ii with rfl|rfl<;>decide
theorem vC (h:bits cs):sign cs=(ML,cs):=by
 cases cs with
 |nil=>rfl
 |cons c cs=>rcases h c ii with rfl|rfl<;>rfl
theorem pU (h:bits cs):based 2 cs=(2,ML,cs):=by
 have hp:prefix? cs=tp:=by
  match cs,h with
  |[],_=>rfl
  |[c],h=>rcases h c ii with rfl|rfl<;>rfl
  |c::d::r,h=>
   rcases h c ii with rfl|rfl
   .rcases h d (gn _ ii) with rfl|rfl<;>rfl
   .rfl
 unfold based;rw[hp];rfl
theorem vJ (h:bits cs)(hne:cs≠[]):(int_private% "readNumeral") 0 2 cs=(int_private% "Numeral.value") (v2 cs:Nat):=by
 refine(readNumeral_eq 0 2 cs).trans ?_;have hr:bits cs.reverse:=λc hc=>h c (n4.mp hc);rw[Za h,vC h];dsimp only;rw[pU h];dsimp only;rw[Za hr,my,fW h hne];have e:(cs.foldl (λacc c=>acc.push (c-48)) #[]).foldl (λacc d=>acc*2+d) 0=v2 cs:=U8 cs #[];unfold judge;dsimp only;rw[e];rfl
theorem Ac8 {E:Za0}{Q:Za0}{v:ft}{text:Za4}{n:Int}
    (hs : (text.takeWhile (· != 0)).9 <= 640)(hr : (int_private% "readNumeral") 0 2 (text.takeWhile (· != 0)) = (int_private% "Numeral.value") n)
    (ha : ((text.takeWhile (· != 0)).9 == text.9) = MK)(h : Q (.int n s.toks) { s with toks := s.toks + 1 }) :
    wpAny M A ((int_private% "intFromText") v text 2) Q E s := by
  obtain ⟨hp, g, d, tk, os⟩ := s
  repeat (any_goals (first
    | assumption
    | (with_reducible refine yo (decide_eq_true hs) ?_)
    | (with_reducible refine yo (decide_eq_true ha) ?_)
    | wp_step))
  all_goals (try rw [hr])
  all_goals (try dsimp only)
  repeat (any_goals (first
    | assumption
    | (with_reducible refine yo (decide_eq_true hs) ?_)
    | (with_reducible refine yo (decide_eq_true ha) ?_)
    | wp_step))
theorem typeCall_int_2 (a b:ft):checkTypeCall "int" {[a,b],[]}=pure .unit:=by kernel_rfl
theorem newCall_int_2 (a b:ft):checkBuiltinCall "int.__new__" {[.type "int",a,b],[]}=pure .unit:=by kernel_rfl
structure Hid (p:Prop):Prop where
 out:p
theorem eV {x:Str}(h:bits x.cps.7):(if x.cps.all (· < 128) then x.cps.7 else Unicode.numberText x.cps.7)=x.cps.7:=by
 rw[if_pos];rw[Array.all_eq_true'];intro c hc;have:=h c (by simpa using hc);rcases this with rfl|rfl<;>decide
theorem J4 (h:bits cs):cs.takeWhile (· != 0)=cs:=takeWhile_all λc hc=>by rcases h c hc with rfl|rfl<;>decide
set_option maxHeartbeats 4000000 in
theorem gives_bits {x:Str}{u v:Tok}(hl:x.9<=640)(hb:bits x.cps.7)(hne:x.cps.7≠[]):Gives (qw.«int.__new__» {[.type "int",.str x u,.int 2 v],[]}) (.int (v2 x.cps.7:Nat)) :=
  .of_wp λM A E s Q h => by
    obtain ⟨hp, g, d, tk, os⟩ := s;have f1 := F.conv_sub_int;have f2 := F.madeHere_int;have f6 : typeOf (.str x u) = pure (.type "str") := rfl;have hs : ((x.cps.7).takeWhile (· != 0)).9 <= 640 := by rw [J4 hb]; simpa [uq] using hl
    have hr := vJ hb hne;rw [<- J4 hb] at hr;rw [J4 hb] at hr;have hr : (int_private% "readNumeral") 0 2 ((x.cps.7).takeWhile (· != 0)) = (int_private% "Numeral.value") (v2 x.cps.7 : Nat) := by rw [J4 hb]; exact hr
    have ha : (((x.cps.7).takeWhile (· != 0)).9 == (x.cps.7).9) = MK := by rw [J4 hb]; simp
    have ht := eV hb;have hk := Hid.mk (GM hs (GM hr (GM ha ht)));clear hs hr hl ha ht hne
    repeat (any_goals (first
      | assumption
      | ((with_reducible show wpAny _ _ ((int_private% "intFromText") _ _ _) _ _ _); rw [hk.out.2.2.2]; refine Ac8 hk.out.1 hk.out.2.1 hk.out.2.2.1 ?_)
      | wp_step))
    all_goals first | exact {_, rfl, h} | skip
end IB
section
variable {X:Cx}
def Ahn:List V->Hp->VK->Prop:=λxs H Q=>∃z,xs=[.str z,.int 2]/\z.9<=640/\IB.bits z.cps.7/\z.cps.7≠[]/\Q (.int (IB.v2 z.cps.7:Nat)) H
theorem Xm:Fw X (.type "int") Ahn:=by
 intro pins s G H xs us Q I r h;obtain⟨z,rfl,hl,hb,hne,q⟩:=h;obtain⟨u,w',rfl,ru,rw'⟩:=Vp r;obtain⟨t,rfl⟩:=ru;obtain⟨t',rfl⟩:=rw';exact callType_new F.called_int F.newNe_int (IB.typeCall_int_2 _ _) (IB.newCall_int_2 _ _) (λobj=>F.args_object_init_3 obj _ _) F.entry_int_new (IB.gives_bits hl hb hne).meets (show(Made.int _).post _ s from{rfl,.int (IB.v2 z.cps.7:Nat),H,I.tok _,{_,rfl},q})
end
theorem nG (n:Nat):mv tp tp (-1) n=(en n).map λk=>n-1-k:=by
 unfold mv;dsimp only;rw[if_neg (by decide),if_neg (by decide)];unfold sliceRange;dsimp only;rw[if_neg (by decide)];have e:(if((n:Int)-1 > -1) then((n:Int)-1 - -1 - -1-1)/(- -1) else 0).toNat=n:=by
  split
  .simp
  .lia
 rw[e];refine jb λk hk=>?_;have:=iy.mp hk;lia
theorem Y5 (l:Za4):∀n,n<=l.9->((en n).map λk=>n-1-k).filterMap (l[·]?)=(l.take n).reverse
 |0,_=>by simp
 |n+1,h=>by
  have hl:n<l.9:=h;rw[oy,gt,jm,m9];have e:((λk=>n+1-1-k) ∘ HC)=λk=>n-1-k:=by
   funext k
   show n+1-1-(k+1)=n-1-k;lia
  rw[e,show n+1-1-0=n by lia,d6 hl];dsimp only;rw[Y5 l n (),ie,d6 hl,Option.toList_some,ot];rfl
section
variable {X:Cx} {e:jk} {te:TE} {p1 p2 p3 pos:Pos} {j:Nat}
theorem Mn (z:Str):(Xs z).9=z.9:=by
 show z.cps.toList.reverse.toArray.8=z.cps.8;simp
theorem Ac7 {x1}(he:PE X e te):PE X (.Subscript e (.Slice tp tp (mn (.UnaryOp .USub (.Constant (.int 1) x1 p1) p2)) p3) pos) (Aim te):=by
 k_in;refine Subscript_ (thE he I h λv s1 x H1 I1 r1 q1=>?_);obtain⟨z,rfl,hz,q⟩:=q1;obtain⟨t,rfl⟩:=r1;refine GF ?_;rw[zp];refine fu (fu ?_);rw[evalPart_some];have hm:PE X (.UnaryOp .USub (.Constant (.int 1) x1 p1) p2) (tUn (rU λi=>.int (-i)) (tC (.int 1))):=Dl Cf Af;refine thn (hm pins s1 G H1 (λy H2=>y=.int (-1)/\H2=H1) I1 {1,rfl,rfl,rfl}) λw s2 ⟨y,H2,I2,r2,e2,e3⟩=>?_;subst e2 e3;obtain⟨t2,rfl⟩:=r2;have I4:Inv X pins G H2 { s2 with heap:=s2.heap.push { cls:=.type "slice",data:=.fields #[.none,.none,.int (-1) t2] } }:=I2.kept (t':=s2.toks) λb ob q=>fe _ q;have hs:(s2.heap.push { cls:=.type "slice",data:=.fields #[.none,.none,.int (-1) t2] }).IsSlice s2.heap.objs.8 tp tp (mn (-1,t2)):={_,ik _ rfl,rfl,rfl};refine GG (ops:=[.ref s2.heap.objs.8,.str z t]) (xr _ _ _) AN.lookup ?_ (by with_unfolding_all rfl);refine ET hs rfl ?_;have em:sliceMade z t tp tp (mn (-1,t2))=.str (Xs z):=by
  unfold sliceMade;rw[if_neg (by simp)];show Made.str {((mv tp tp (-1) z.9).filterMap (z.cps[·]?)).6}=_;rw[nG];have:=Y5 z.cps.7 z.cps.toList.9 (d8 _);have e1:z.cps.toList.9=z.9:=by simp[uq]
  rw[e1] at this;have e2:(λi:Nat=>z.cps[i]?)=λi:Nat=>z.cps.7[i]?:=by funext i;simp
  rw[e2,this,fv (by simp[uq])];rfl
 rw[em];refine{?_,.str (Xs z),H2,I4.tok _,{_,rfl},q};show(Xs z).9<=_;rw[Mn];exact hz
end
theorem Ahl {G:St}{Q:VK}(h:te G H λx H1=>∃z,x=.str z/\z.9<=sizeLine/\Q (.str (Xs z)) H1):Aim te G H Q:=h
theorem Ge (ns:List Int):(ns.map V.int).all Io=MK:=by simp[rf,Io]
theorem Aha {k:Nat}(hr:Cz k A):A.units+60<cLine:=by have:=hr.units;lia
def eqL (xs ys:List V):Bool:=decide (xs.9=ys.9)&&(en xs.9).all λj=>eqV (xs.getD j .non) (ys.getD j .non)
def Abr (K:d5)(n:Bool):R2:=λx y H Q=>∃a b xs ys,x=.ref a/\y=.ref b/\SqL K H a xs/\SqL K H b ys/\xs.all Io=MK/\ys.all Io=MK/\Q (.bl (n != eqL xs ys)) H
section
variable {X:Cx} {pins:Za1} {G:St} {H:Hp} {s:fz}
theorem X4 (f1:xs.all Io=MK)(f2:ys.all Io=MK)(r1:A5 xs us)(r2:A5 ys vs)(j:Nat)(h1:j<us.9)(h2:j<vs.9) :
  EG A s us[j] vs[j] (eqV (xs.getD j .non) (ys.getD j .non)):=by
 have l1:=r1.9;have l2:=r2.9;have e1:xs[j]?=mn (xs[j]'()):=d6 _;have e2:ys[j]?=mn (ys[j]'()):=d6 _;obtain⟨u,eu,ru⟩:=r1.get e1;obtain⟨v,ev,rv⟩:=r2.get e2;rw[d6 h1] at eu;rw[d6 h2] at ev;cases eu;cases ev;simp only[jw,e1,e2,qc];exact wE ru rv (rf.mp f1 _ (gi e1)) (rf.mp f2 _ (gi e2))
end
section
variable {X:Cx}
theorem zO (hu:X.A.units+60<cLine):OpR X (compareOp .Eq) (Abr X.K ML):=by
 intro pins s G H x y v u Q I rx ry h;obtain⟨a,b,xs,ys,rfl,rfl,h1,h2,f1,f2,q⟩:=h;cases rx;cases ry;obtain⟨is,r1,p1,_⟩:=I.list h1;obtain⟨js,r2,p2,_⟩:=I.list h2;have l1:=r1.9;have l2:=r2.9
 by_cases hl:xs.9=ys.9
 .have:=LG (A:=X.A) (e:=λj=>eqV (xs.getD j .non) (ys.getD j .non)) p1.isList p2.isList (by simp;lia) () λj a1 a2=>X4 (s:=s) f1 f2 r1 r2 j (by simpa using a1) (by simpa using a2)
  refine this _ _ _ _ {.bl (ML != eqL xs ys),H,I,?_,q};unfold eqL;rw[decide_eq_true hl];simp[Bh,<-l1]
 .have:=LF (A:=X.A) p1.isList p2.isList (by simp;lia) ()
  refine this _ _ _ _ {.bl (ML != eqL xs ys),H,I,?_,q};unfold eqL;rw[decide_eq_false hl];simp[Bh]
theorem Afj (hu:X.A.units+60<cLine):OpR X (compareOp .NotEq) (Abr X.K MK):=by
 intro pins s G H x y v u Q I rx ry h;obtain⟨a,b,xs,ys,rfl,rfl,h1,h2,f1,f2,q⟩:=h;cases rx;cases ry;obtain⟨is,r1,p1,_⟩:=I.list h1;obtain⟨js,r2,p2,_⟩:=I.list h2;have l1:=r1.9;have l2:=r2.9
 by_cases hl:xs.9=ys.9
 .have:=JD (A:=X.A) (e:=λj=>eqV (xs.getD j .non) (ys.getD j .non)) p1.isList p2.isList (by simp;lia) () λj a1 a2=>X4 (s:=s) f1 f2 r1 r2 j (by simpa using a1) (by simpa using a2)
  refine this _ _ _ _ {.bl (MK != eqL xs ys),H,I,?_,q};unfold eqL;rw[decide_eq_true hl];simp[Bh,<-l1]
 .have:=JC (A:=X.A) p1.isList p2.isList (by simp;lia) ()
  refine this _ _ _ _ {.bl (MK != eqL xs ys),H,I,?_,q};unfold eqL;rw[decide_eq_false hl];simp[Bh]
end
theorem lZ (ns ms:List Int):eqL (ns.map V.int) (ms.map V.int)=decide (ns=ms):=by
 unfold eqL;rw[d4,d4]
 by_cases hl:ns.9=ms.9
 .rw[decide_eq_true hl,Bool.true_and]
  by_cases h:ns=ms
  .subst h
   rw[decide_eq_true rfl,rf];intro j hj;have hj:j<ns.9:=iy.mp hj;simp[jw,hj,eqV]
  .rw[decide_eq_false h]
   refine Bool.eq_false_iff.mpr λhc=>h (zt hl λj h1 h2=>?_);have:=rf.mp hc j (iy.mpr h1);simp[jw,h1,h2,eqV] at this;exact this
 .rw[decide_eq_false hl,BK,decide_eq_false]
  intro e;exact hl (by rw[e])
theorem Aeu {K:d5}{Q:VK}{a b:ee}{ms:List Int}(h1:SqL K H a (ns.map V.int))(h2:SqL K H b (ms.map V.int))(q:Q (.bl (decide (ns=ms))) H):Abr K ML (.ref a) (.ref b) H Q:=by
 refine{a,b,_,_,rfl,rfl,h1,h2,Ge _,Ge _,?_};rw[lZ];cases hd:decide (ns=ms)<;>(rw[hd] at q;exact q)
theorem Ah1 {K:d5}{Q:VK}{a b:ee}{ms:List Int}(h1:SqL K H a (ns.map V.int))(h2:SqL K H b (ms.map V.int))(q:Q (.bl (!decide (ns=ms))) H):Abr K MK (.ref a) (.ref b) H Q:=by
 refine{a,b,_,_,rfl,rfl,h1,h2,Ge _,Ge _,?_};rw[lZ];cases hd:decide (ns=ms)<;>(rw[hd] at q;exact q)
theorem Yo (lo hi:Int):kl lo hi (-1)=((lo-hi).toNat:Int):=by
 unfold kl;rw[if_neg ()]
 by_cases h:lo>hi
 .rw[if_pos h]
  rw[show(-(-1):Int)=1 by decide,IW];lia
 .rw[if_neg h]
  lia
theorem mU {lo hi:Int}(h1:-(2 ^ 40)<=lo)(h2:lo<2 ^ 40)(h3:-(2 ^ 40)<=hi)(h4:hi<2 ^ 40):pi lo hi (-1)=MK:=by
 unfold pi;rw[Yo,if_neg ()];simp only[ug,km,sh,decide_eq_true_eq,beq_iff_eq];refine{{{{?_,?_},?_},?_},.inr ?_}<;>lia
section
variable {X:Cx} {tg:jk}
def Ad4 (ta:TA):TI:=λG H R=>ta G H λvs H1=>∃i j:Int,vs=[.int i,.int j,.int (-1)]/\(-(2 ^ 40)<=i/\i<2 ^ 40/\-(2 ^ 40)<=j/\j<2 ^ 40)/\R (eK i (-1) (i-j).toNat) H1
theorem Ri {a b c:jk}{ta:TA}{p:Pos}(hg:Gl X "range")(hm:X.mg "range"=tp)(ha:PA X [a,b,c] ta)(hs:autoParam (starEach [a,b,c] X.env=[(ML,eval a X.env),(ML,eval b X.env),(ML,eval c X.env)]) QD)
  (hs2:autoParam (starEach [b,c] X.env=[(ML,eval b X.env),(ML,eval c X.env)]) QD):PI X tg (.Call (.Name "range" p) [a,b,c] [] pos) (Ad4 ta):=by
 intro pins s G H R I h;refine Call_ (Ee I hg hm boot_range (i8 (thA ha I h λus s1 vs H1 I1 r1 q1=>?_) (by rw[hs,hs2]) (by rw[hs2];rfl)));obtain⟨i,j,e,⟨q1,q2,q3,q4⟩,q⟩:=q1;subst e
 cases r1 with
 |cons r rr=>
  cases rr with
  |cons r' rr=>
   cases rr with
   |cons r'' rr=>
    cases rr;obtain⟨t,rfl⟩:=r;obtain⟨t',rfl⟩:=r';obtain⟨t'',rfl⟩:=r'';refine FK () ?_ (.inl (ss ()));refine zx (y8 ..) (mU () () () ()) ?_;have I2:Inv X pins G H1 { s1 with heap:=s1.heap.push { cls:=.type "range",data:=.fields #[.int i t,.int j t',.int (-1) t''] },toks:=s1.toks }:=I1.kept λb o e=>fe _ e;refine{_,[_],_,_,H1,rfl,I2.kept (t':=s1.toks) λb o e=>fe _ e,R7 _ i (-1) (i-j).toNat,?_,λb hb=>?_,q}
    .have e1:i+((0:Nat):Int)*(-1)=i:=by simp
     have e2:(((i-j).toNat:Nat):Int)-((0:Nat):Int)=kl i j (-1):=by rw[Yo];simp
     show yw _ _ (i+((0:Nat):Int)*(-1)) ((((i-j).toNat:Nat):Int)-((0:Nat):Int)) (-1);rw[e1,e2];exact ik _ rfl
    .have e:=gl.mp hb
     subst e;exact I2.fpOk (d8 _) (I2.hok.fresh (d8 _))
theorem Afk {tA:TA}{G:St}{R:It->Hp->Prop}(h:tA G H λvs H1=>∃i j:Int,vs=[.int i,.int j,.int (-1)]/\(-(2 ^ 40)<=i/\i<2 ^ 40/\-(2 ^ 40)<=j/\j<2 ^ 40)/\R (eK i (-1) (i-j).toNat) H1):Ad4 tA G H R:=h
def Agm:V->List V->Hp->VK->Prop:=λx vs H Q=>∃(l:ee) (ns:List Int) (k:Int) (j:Nat),x=.ref l/\vs=[.int k]/\H l=mn (.lst (ns.map V.int))/\ns[j]?=mn k/\(∀i:Nat,i<j->ns[i]?≠mn k)/\Q (.int (j:Nat)) H
theorem lE:MtM X "list.index" Agm:=by
 intro pins s G H x vs v us Q I rx rv h;obtain⟨l,ns,k,j,rfl,rfl,hH,hj,hno,q⟩:=h;cases rx;obtain⟨u,rfl,t,rfl⟩:=E4 rv;obtain⟨z,its,n,r,hl,e⟩:=I.lstM hH;have fl:=Ge ns;have hjl:=(fq.mp hj).1;have hln:ns.9=its.9:=by rw[<-hl,d4]
 have at':∀i (hi:i<its.9),eqU (.int k) its[i]=decide (ns[i]?=mn k):=λi hi=>by
  have e1:(ns.map V.int)[i]?=mn (.int (ns[i]'())):=by rw[fj,d6 ()];rfl
  obtain⟨u,eu,ru⟩:=r.get e1;rw[d6 hi] at eu;cases eu;rw[mW ru rfl,d6 ()];show(ns[i]==k)=decide (mn ns[i]=mn k)
  by_cases h:ns[i]=k
  .rw[decide_eq_true (congrArg mn h)]
   simpa using h
  .rw[decide_eq_false λz=>h (fc z)]
   simpa using h
 have sl:=Md;refine qg F.slot_list_index {_,e,rfl} F.entry_list_index (F.args_list_index_2 _ _)
  (SeqAt.list_indexAt l its.6 n tp #[] (.int k t) (eqU (.int k)) j (by simp;lia) (by rw[d4] at z;lia) ?_ ?_) {e,λy hy=>Ug (x:=.int k) (v:=.int k t) ⟨t,rfl⟩ rfl r fl y (by simpa using hy),?_}
 .show eqU (.int k) its[j]=MK
  rw[at' j (),decide_eq_true hj]
 .intro i hi hlt
  show eqU (.int k) its[i]=ML;rw[at' i (by simpa using hi),decide_eq_false (hno i hlt)]
 .exact{.int j,H,I.tok _,{_,rfl},q}
end
section
variable {prog:gu} {w:i7} {A:jp} {E:Za0} {s:fz}
theorem Ni {t sl:ee}{vl vu:ft}{lo hi:Option Int}{Q:Za0}(ht:IsTup s.5 t items)(hs:s.heap.IsSliceOf sl vl vu .none)(pl:yx vl lo)(pu:yx vu hi)
  (h1:_T.sIx items.8 0 lo=0)(h2:_T.sIx items.8 items.8 hi=items.8)(h:Q (.ref t) s):wpAny (model prog w) A (getItem (.ref t) (.ref sl)) Q E s:=by
 obtain⟨os,hos,hcs,hds⟩:=id hs;have hTs:s.TypeIs (.ref sl) "slice":=⟨os,hos,hcs⟩;unfold getItem
 try with_reducible refine wpAny_holding ?_
 first|refine wpAny_bind (fu ?_)|skip
 refine wpAny_bind (HK ht.typeIs (by decide) ?_);refine wpAny_bind (uh (name:=ll "__getitem__") ht.typeIs lz
  (vf lz ht.typeIs entry_tuple_getitem ?_ (GX _ _)))
 show wpAny _ _ (yg (.ref t) >>= _) _ _ s;refine wpAny_bind (KY ht ?_);refine wpAny_bind (uo hTs ?_);rw[if_pos (by decide)];refine wpAny_bind (_T.sliceApplied_gen hs pl pu ?_);show wpAny _ _ (if(((_T.sIx items.8 0 lo:Nat):Int)==0&&(1:Int)==1&&(_T.sIx items.8 items.8 hi-_T.sIx items.8 0 lo)==items.8)=MK then _ else _) _ _ s;rw[if_pos (by rw[h1,h2];simp)];refine wpAny_bind (wpAny_bind (uo ht.typeIs (fu ?_)));rw[if_pos (by decide)];refine wpAny_bind (qf ?_);exact wpAny_bind (fu (fu {_,rfl,fu h}))
end
section
variable {X:Cx}
def Aia (K:d5):V->Option Int->Option Int->Hp->VK->Prop:=λx lo hi H Q=>∃a xs,x=.ref a/\SqT K H a xs/\∀p H',Ah H H'->SqT K H' p (Ha xs lo hi)->Q (.ref p) H'
theorem Ze:SlR X (Aia X.K):=by
 intro pins s G H x v vl vu lo hi sl Q I rx hs pl pu h;obtain⟨a,xs,rfl,hx,q⟩:=h
 by_cases hw:_T.sIx xs.9 0 lo=0/\_T.sIx xs.9 xs.9 hi=xs.9
 .cases rx
  obtain⟨its,r,ht,hz⟩:=I.tuple hx;have hlen:its.toArray.8=xs.9:=by rw[gh];exact r.length.symm
  refine{"tuple",_,lz.lookup,ht.typeIs,?_};refine Ni ht hs pl pu (by rw[hlen];exact hw.1) (by rw[hlen];exact hw.2) {.ref a,H,I,rfl,q a H (Ah.refl _) ?_};have:Ha xs lo hi=xs:=by
   unfold Ha;rw[hw.1,hw.2];simp
  rw[this];exact hx
 .exact Afr pins s G H _ v vl vu lo hi sl Q I rx hs pl pu {a,xs,rfl,hx,hw,λp hp=>q p _ (Ai hp) (SqT.of Ac)}
theorem Az {x:Str}{i:Int}(hg:Gl X x)(hm:∃t,X.mg x=mn (.int i t))(hd:autoParam ((x==("__debug__":Str))=ML) QF):PE X (.Name x pos) (tC (.int i)):=by
 obtain⟨t,h⟩:=hm;exact Td hg h ⟨t,rfl⟩ hd
end
section
variable {G:St} {H:Hp} {D:Jm} {Q:VK} {te:TE} {QB:Bool->Hp->Prop} {tA:TA}
theorem Aht {K:d5}{T:String}{r:V->List V->Hp->VK->Prop}(h:te G H λx H1=>tyV K T x H1/\r x [] H1 Q):Ahz K T r te G H Q:=h
theorem Ad5 {z:Str}{lo hi:Option Int}(h1:z.9<=sizeLine)(h:Q (.str (Z0 z lo hi)) H):Ahp (.str z) lo hi H Q:=⟨z,rfl,h1,h⟩
end
theorem Ah4 {A:Prop}(h:B):if(!MK)=MK then A else B:=by
 rw[if_neg (by decide)];exact h
theorem Ahw {A:Prop}(h:A):if(!ML)=MK then A else B:=by
 rw[if_pos (by decide)];exact h
def SameBut (x:ee)(H H':Hp):Prop:=∀b o,b≠x->H b=mn o->H' b=mn o
theorem Ah.but {x:ee}(h:Ah H H'):SameBut x H H':=λb o _ e=>h b o e
theorem SameBut.trans {x:ee}(a:SameBut x H H1)(b:SameBut x H1 H2):SameBut x H H2:=λc o n h=>b c o n (a c o n h)
def wS (H:Hp)(x:ee):Prop:=∀u,¬ Rd H x (.tup u)/\¬ Rd H x (.lst u)
theorem Fo {x:ee}{fs:List (Str×V)}(h:H x=mn (.ins C dx fs)):wS H x:=λu=>by
 constructor<;>(rintro(e|⟨o,e⟩)<;>(rw[h] at e;cases e))
theorem As {x:ee}{o:HO}:SameBut x H (upd H x o):=λb u n e=>by rw[Al n];exact e
theorem Aai {fr:St}{tc:TT}{Q:VK}(n:Nat)(item:Nat->V)(Pv:Nat->List V->Hp->Prop)(h0:∀H,Ah H1 H->Pv 0 [] H)
  (stab:∀i ys H D xs o,H D=mn (.lst xs)->Pv i ys H->Pv i ys (upd H D o))(hz:∀i ys H,i<n->Pv i ys H->ys.9<sizeLine)
  (hgo:∀i H,i<n->Ah H1 H->J.go i H)(hy:∀i H x H',i<n->Ah H1 H->J.yld i H x H'->x=item i/\H'=H)(hst:∀H,Ah H1 H->J.stop n H)
  (turn:∀i ys H (A:VK) (R:Hp->Prop),i<n->Ah H1 H->Pv i ys H->(∀y H',Ah H H'->Pv (i+1) (ys++[y]) H'->A y H')->tc (mn (item i)::fr) H λb H3=>if b=MK then te (mn (item i)::fr) H3 A else R H3)
  (fin:∀D ys H,H1 D=tp->Ah H1 H->Pv n ys H->H D=mn (.lst ys)->Q (.ref D) H):Lk J H1 fr tc te Q:=by
 intro D hD;refine{λi m H=>i<=n/\m=n-i/\Ah H1 H/\∃ys,H D=mn (.lst ys)/\Pv i ys H,{n,gy _,rfl,Ai hD,[],Ac,h0 _ (Ai hD)},?_};rintro i m H ⟨hi,rfl,sm,ys,hl,hp⟩
 by_cases h:i=n
 .subst h
  exact .inl {hst H sm,fin D ys H hD sm hp hl}
 .have hlt:i<n:=me hi h
  refine .inr {hgo i H hlt sm,λx H' hyl=>?_};obtain⟨rfl,rfl⟩:=hy i H x H' hlt sm hyl;refine turn i ys H' _ _ hlt sm hp (λy H4 s4 hp4=>?_);refine{ys,s4 _ _ hl,hz i ys _ hlt hp,n-(i+1),(),(),rfl,λb u e=>?_,ys++[y],Ac,stab _ _ _ _ _ _ (s4 _ _ hl) hp4};rw[Al (Am e hD)];exact s4 _ _ (sm _ _ e)
theorem Yd {lo st:Int}{fr:St}{tc:TT}{Q:VK}(Pv:Nat->List V->Hp->Prop)(h0:∀H,Ah H1 H->Pv 0 [] H)
  (stab:∀i ys H D xs o,H D=mn (.lst xs)->Pv i ys H->Pv i ys (upd H D o))(hz:∀i ys H,i<n->Pv i ys H->ys.9<sizeLine)
  (turn:∀(i:Nat) ys H (A:VK) (R:Hp->Prop),i<n->Ah H1 H->Pv i ys H->(∀y H',Ah H H'->Pv (i+1) (ys++[y]) H'->A y H')->tc (mn (.int (lo+i*st))::fr) H λb H3=>if b=MK then te (mn (.int (lo+i*st))::fr) H3 A else R H3)
  (fin:∀D ys H,H1 D=tp->Ah H1 H->Pv n ys H->H D=mn (.lst ys)->Q (.ref D) H):Lk (eK lo st n) H1 fr tc te Q:=
 Aai n (λi=>.int (lo+i*st)) Pv h0 stab hz (λi H hi _=>hi) (λi H x H' _ _ h=>⟨h.2,h.1⟩) (λH _=>d8 n) turn fin
theorem Acb {s0:fz}{H0:Hp}{x:Str}{N2:Za6}{px:Pos}{elt iter:jk}{ifs:List jk}{tc:TT} 
  (hc:X.calm=MK)(L:∀QP,A7 N QP scope x N2 ix)(hi:PI (Ek X sc N C s0 H0 fp) (.Name x px) iter wi)
  (hif:∀C' s' H' fp',PIf (Ek (Ek X sc N C s0 H0 fp) scope N2 C' s' H' fp') ifs tc)(he:∀C' s' H' fp',PE (Ek (Ek X sc N C s0 H0 fp) scope N2 C' s' H' fp') elt te)
  (hs:autoParam (∀z,foldedSetIterable iter (Ek X sc N C s0 H0 fp).env z=pure z) QJ):PE (Ek X sc N C s0 H0 fp) (.ListComp elt [{.Name x px,iter,ifs,0}] scope pos) (tLc wi ix tc te):=
 Iy (X:=Ek X sc N C s0 H0 fp) hc (L _) hi hif he hs
theorem Acr (K:d5){l:jk}{tl:TE}(hl:PE X l tl)(h:autoParam (X.K=K) QD):PI X tg l (Af3 K tl):=by
 subst h;exact oU hl
theorem vU (K:d5)(hc:X.calm=MK)(h:autoParam (X.K=K) QD):Fw X (.builtin "sum") (Aij K):=by
 subst h;exact yW hc
theorem yT (K:d5)(h:autoParam (X.K=K) QD):SlR X (Aia K):=by
 subst h;exact Ze
theorem Aig:bootBuiltins "abs"=mn (.builtin "abs"):=by decide +kernel
def Pb (ns:List Int)(m:Int):Prop:=m∈ns/\∀a∈ns,m<=a
def Zl (ns:List Int)(m:Int):Prop:=m∈ns/\∀a∈ns,a<=m
section
variable {X:Cx}
def Aea (K:d5):List V->Hp->VK->Prop:=λxs H Q=>∃(p:ee) (ns:List Int),xs=[.ref p]/\SqL K H p (ns.map V.int)/\ns≠[]/\∀m,Pb ns m->Q (.int m) H
def Ad7 (K:d5):List V->Hp->VK->Prop:=λxs H Q=>∃(p:ee) (ns:List Int),xs=[.ref p]/\SqL K H p (ns.map V.int)/\ns≠[]/\∀m,Zl ns m->Q (.int m) H
theorem Mw {G:St}{p:ee}(I:Inv X pins G H s)(hp:SqL X.K H p (ns.map V.int)):∃ys:Array (Int×Tok),s.heap.IsList p (intItems ys)/\ns=ys.toList.map (·.1):=by
 obtain⟨its,r,pl,_⟩:=I.list hp;have hi:=T6 r;obtain⟨ys,e⟩:=hi.allInts.items;have hl:=pl.isList;rw[e] at hl;exact{ys,hl,by rw[<-hi.numsOf,<-LA,<-e]}
theorem lR {ys:Array (Int×Tok)}{v:ft}(hz:0<ys.8)(hv:(intItems ys)[argBest (λi j=>decide (numAt ys i<numAt ys j)) (ys.8-1)]?=mn v):∃m t,v=.int m t/\Pb (ys.toList.map (·.1)) m:=by
 obtain⟨t,rfl⟩:=BZ hv;obtain⟨h1,h2⟩:=argBest_lt (numAt ys) (ys.8-1);refine{_,t,rfl,?_,λa ha=>?_}
 .rw[GJ]
  exact getD_mem (by rw[d4,f9];lia)
 .obtain⟨j,hj,rfl⟩:=mem_getD ha
  rw[d4,f9] at hj;rw[<-GJ];exact h2 j ()
theorem qM {ys:Array (Int×Tok)}{v:ft}(hz:0<ys.8)(hv:(intItems ys)[argBest (λi j=>decide (numAt ys i>numAt ys j)) (ys.8-1)]?=mn v):∃m t,v=.int m t/\Zl (ys.toList.map (·.1)) m:=by
 obtain⟨t,rfl⟩:=BZ hv;obtain⟨h1,h2⟩:=argBest_gt (numAt ys) (ys.8-1);refine{_,t,rfl,?_,λa ha=>?_}
 .rw[GJ]
  exact getD_mem (by rw[d4,f9];lia)
 .obtain⟨j,hj,rfl⟩:=mem_getD ha
  rw[d4,f9] at hj;rw[<-GJ];exact h2 j ()
theorem Ts {ys:Array (Int×Tok)}(e:ns=ys.toList.map (·.1))(h:ns≠[]):0<ys.8:=by
 rcases n5 ys.8 with z|z
 .exfalso
  apply h;rw[e,oi (l:=ys.7) (by rw[f9];exact z)];rfl
 .exact z
theorem R0 (hc:X.calm=MK):Fw X (.builtin "min") (Aea X.K):=by
 intro pins s G H xs us Q I r h;obtain⟨p,ns,rfl,hp,hne,q⟩:=h;obtain⟨u,rfl,ru⟩:=E4 r;cases ru;obtain⟨ys,hl,e⟩:=Mw I hp;have hz:=Ts e hne;refine min_intList (I.ok.hd hc) hl hz λv h' tk hv hk=>?_;obtain⟨m,t,rfl,hm⟩:=lR hz hv;exact{.int m,H,I.kept hk,⟨t,rfl⟩,q m (e▸hm)}
theorem M0 (hc:X.calm=MK):Fw X (.builtin "max") (Ad7 X.K):=by
 intro pins s G H xs us Q I r h;obtain⟨p,ns,rfl,hp,hne,q⟩:=h;obtain⟨u,rfl,ru⟩:=E4 r;cases ru;obtain⟨ys,hl,e⟩:=Mw I hp;have hz:=Ts e hne;refine max_intList (I.ok.hd hc) hl hz λv h' tk hv hk=>?_;obtain⟨m,t,rfl,hm⟩:=qM hz hv;exact{.int m,H,I.kept hk,⟨t,rfl⟩,q m (e▸hm)}
end
section
variable {prog:gu} {w:i7} {A:jp} {R:yq->fz->Prop} {I S:ee} {fp wr:List ee} {n:Nat} {P:Nat->ft->Prop} {St:Nat->ki->Prop} {d:ft}
abbrev Zo (I S:ee)(d:ft):Args:={[.ref I,.none,.ref S],[(ll "default",d)]}
theorem M8:(toString "min"++toString ".loop":String)="min.loop":=by decide
theorem Act (W:HP prog w A.in1 I fp wr n P St)(bt:Nat->Nat->Bool)(hc:CmpOf prog w A.in1 .Lt P bt)(nS:S∉fp):∀(k j:Nat) (s:fz) (b:ft) (c:Nat),n-(j+1)=k->j+1<=n->St (j+1) s.5->P (argBest bt j) b ->
  s.heap.get? S=mn { cls:=.type "list",dict:=tp,data:=.seq #[b,b] c,slots:=#[] } ->
  (∀v h' tk,P (argBest bt (n-1)) v->(∀a o,a∉wr->a≠S->s.heap.get? a=mn o->h'.get? a=mn o)->R (.ok (.ret v)) { s with heap:=h',toks:=tk })->codeAny (model prog w) A (.builtin "min.loop" (Zo I S d)) R s:=by
 have nw:S∉wr:=λh=>nS (W.sub _ h);intro k
 induction k with
 |zero=>
  intro j s b c hk hj st hb eS hR;have hn:j+1=n:=()
  refine l5 F.entry_min_loop ?_;rw[j1 F.plain_min_loop _];show wpAny _ A.in1 (seqItems? (.ref S) >>= _) _ _ s;refine wpAny_bind (om eS rfl ?_);show wpAny _ A.in1 (tryCatch (pyNext (.ref I)) _ >>= _) _ _ s;refine wpAny_bind (mh (W.done s _ _ (hn▸st) λh' tk kp=>?_));have eS':=kp S _ nw eS;show wpAny _ A.in1 (updateSeq S (λ_=>#[]) >>= _) _ _ _;refine wpAny_bind ?_;refine tu eS' rfl (wpAny_bind (rn (fu ?_)));exact hR b _ tk (by rw[<-hn];exact hb) λa o aw aS e=>(j0 _ _ (qz aS)).trans (kp a o aw e)
 |succ k ih=>
  intro j s b c hk hj st hb eS hR;have hn:j+1<n:=()
  refine l5 F.entry_min_loop ?_;rw[j1 F.plain_min_loop _];show wpAny _ A.in1 (seqItems? (.ref S) >>= _) _ _ s;refine wpAny_bind (om eS rfl ?_);show wpAny _ A.in1 (tryCatch (pyNext (.ref I)) _ >>= _) _ _ s;refine wpAny_bind (mh (W.item (j+1) s _ _ hn st λv h' tk hv st' kp=>?_));have eS':=kp S _ nw eS;show wpAny _ A.in1 (tryCatch (holding [v,v] (richCompare .Lt v b >>= _)) _ >>= _) _ _ _;refine wpAny_bind (mh (wpAny_holding (wpAny_bind (hc (j+1) (argBest bt j) v b _ _ _ hv hb ?_))));refine wpAny_bind (wpAny_holding (ow ?_));refine wpAny_bind (rn (fu ?_))
  cases t:bt (j+1) (argBest bt j) with
  |true=>
   simp only[if_true];refine wpAny_bind ?_;refine tu eS' rfl (wpAny_bind (rn ?_));rw[M8];refine fu {mj F.plain_min_loop _,ih (j+1) _ v _ () hn (W.frame _ _ _ st' λa af o e=>?_) (by simp only[argBest,t,if_true];exact hv) (qr _ eS' rfl) λv' h2 tk2 hv' kp2=>?_}
   .exact(j0 _ _ (λz:S=a=>nS (by rw[z];exact af))).trans e
   .exact hR v' h2 tk2 hv' λa o aw aS e=>kp2 a o aw aS ((j0 _ _ (qz aS)).trans (kp a o aw e))
  |false=>
   simp only[ku,if_false];refine wpAny_bind (rn ?_);rw[M8];refine fu {mj F.plain_min_loop _,ih (j+1) _ b c () hn st' (by simp only[argBest,t,ku,if_false];exact hb) eS' λv' h2 tk2 hv' kp2=>?_};exact hR v' h2 tk2 hv' λa o aw aS e=>kp2 a o aw aS (kp a o aw e)
theorem oX (W:HP prog w A.in1 I fp wr n P St)(bt:Nat->Nat->Bool)(hc:CmpOf prog w A.in1 .Lt P bt)(nS:S∉fp){c:Nat}(st:St 0 s.5)(eS:s.heap.get? S=mn { cls:=.type "list",dict:=tp,data:=.seq #[] c,slots:=#[] })
  (h0:n=0->∀h' tk,(∀a o,a∉wr->a≠S->s.heap.get? a=mn o->h'.get? a=mn o)->R (.ok (.ret d)) { s with heap:=h',toks:=tk })
  (hR:0<n->∀v h' tk,P (argBest bt (n-1)) v->(∀a o,a∉wr->a≠S->s.heap.get? a=mn o->h'.get? a=mn o)->R (.ok (.ret v)) { s with heap:=h',toks:=tk }):codeAny (model prog w) A (.builtin "min.loop" (Zo I S d)) R s:=by
 have nw:S∉wr:=λh=>nS (W.sub _ h);refine l5 F.entry_min_loop ?_;rw[j1 F.plain_min_loop _];show wpAny _ A.in1 (seqItems? (.ref S) >>= _) _ _ s;refine wpAny_bind (om eS rfl ?_);show wpAny _ A.in1 (tryCatch (pyNext (.ref I)) _ >>= _) _ _ s;rcases n5 n with hn|hn
 .refine wpAny_bind (mh (W.done s _ _ (hn▸st) λh' tk kp=>?_))
  exact wpAny_bind (qf (fu (h0 hn h' tk λa o aw _ e=>kp a o aw e)))
 .refine wpAny_bind (mh (W.item 0 s _ _ hn st λv h' tk hv st' kp=>?_))
  have eS':=kp S _ nw eS;show wpAny _ A.in1 (updateSeq S (λ_=>#[v,v]) >>= _) _ _ _;refine wpAny_bind ?_;refine tu eS' rfl ?_;rw[M8];refine fu {mj F.plain_min_loop _,Act W bt hc nS _ 0 _ v _ rfl hn (W.frame _ _ _ st' λa af o e=>?_) hv (qr _ eS' rfl) λv' h2 tk2 hv' kp2=>?_}
  .exact(j0 _ _ (λz:S=a=>nS (by rw[z];exact af))).trans e
  .exact hR hn v' h2 tk2 hv' λa o aw aS e=>kp2 a o aw aS ((j0 _ _ (qz aS)).trans (kp a o aw e))
end
section
variable {prog:gu} {w:i7} {A:jp} {E:Za0} {s:fz}
theorem uS (a v:ft):argsOk "min" {[a],[(ll "default",v)]}:=by unfold argsOk;kernel_rfl
theorem tX (d:ft):qb "min" ["key","default"] 0 {[],[(ll "default",d)]}=pure [tp,mn d]:=by kernel_rfl
theorem tS {l:ee}{ys:Array (Int×Tok)}{d:ft}{Q:Za0}(hh:A.handled=tp)(hl:s.heap.IsList l (intItems ys))(h0:ys.8=0->∀h' tk,(∀b o,s.heap.get? b=mn o->h'.get? b=mn o)->Q d { s with heap:=h',toks:=tk })
  (h1:0<ys.8->∀v h' tk,(intItems ys)[argBest (λi j=>decide (numAt ys i<numAt ys j)) (ys.8-1)]?=mn v->(∀b o,s.heap.get? b=mn o->h'.get? b=mn o)->Q v { s with heap:=h',toks:=tk }) :
  wpAny (model prog w) A (call (.builtin "min") [.ref l] [(ll "default",d)]) Q E s:=by
 refine kmb_tree F.kind_min F.plain_min F.entry_min (uS _ _) ?_;show wpAny _ A.in1 (qb "min" ["key","default"] 0 {[],[(ll "default",d)]} >>= _) _ _ s;refine wpAny_bind (wpAny_of_eq (tX d) ?_);refine wpAny_bind (fu ?_);refine wpAny_bind (LY hl λQX e st hfp hlI=>?_);subst e;have hsz:(intItems ys).8=ys.8:=by simp[intItems]
 refine wpAny_bind (ox ?_);rw[M8];refine fu {mj F.plain_min_loop _,?_};refine oX (ID (A:=A.in1) hh _ l hlI (intItems ys)) _ (CmpOf.ints_lt (numAt ys) (λ_ _=>BZ)) (λhm=>o7 _ (hfp _ hm)) {st.1.at λo e=>fe _ e,st.2.push _} (ik _ rfl) (λhz h' tk kp=>?_) (λhz v h' tk hv kp=>?_)
 .refine h0 (by rw[<-hsz];exact hz) h' tk (GI λb o hb e=>kp b o hb (ip (gd e)) (fe _ e))
 .rw[hsz] at hz
  refine h1 hz v h' tk (by simpa [intItems] using hv) (GI λb o hb e=>kp b o hb (ip (gd e)) (fe _ e))
end
section
variable {X:Cx} {x:Str} {p pos:Pos} {e:jk} {es:List jk} {kws:List AU} {t tk:TA} {id:String} {ks:Za6}
def oA (X:Cx)(f:ft)(ks:Za6)(r:List V->List V->Hp->VK->Prop):Prop:=
 ∀(pins:Za1) (s:fz) (G:St) (H:Hp) (xs zs:List V) (us ws:Za3) (Q:VK),Inv X pins G H s->A5 xs us->A5 zs ws->r xs zs H Q->wpAny (model X.prog X.w) X.A (call f us (ks.zip ws)) (EP X pins G Q) X.xe s
def Ais (r:List V->List V->Hp->VK->Prop)(t tk:TA):TE:=λG H Q=>t G H λvs H1=>tk G H1 λzs H2=>r vs zs H2 Q
theorem Yx {r:List V->List V->Hp->VK->Prop}(hc:oA X (.builtin id) ks r)(hg:Gl X x)(hm:X.mg x=tp)(hv:bootBuiltins x=mn (.builtin id))(ha:PA X (e::es) t)(hkw:PK X kws tk)(hks:autoParam ((backToKw pos (keywordEach kws X.env)).filterMap (·.1)=ks) QD)
  (hn:autoParam (x≠"__name__") QF)(hdb:autoParam ((x==("__debug__":Str))=ML) QF)(he:autoParam (backTo pos (starEach (e::es) X.env)=(ML,eval e X.env)::backTo pos (starEach es X.env)) QD)(hpl:autoParam ((backTo pos (starEach (e::es) X.env)).any (·.1)=ML) QD)
  (hall:autoParam ((backToKw pos (keywordEach kws X.env)).all (·.1.isSome)=MK) QD)(hnone:autoParam ((backToKw pos (keywordEach kws X.env)).any (·.1.isNone)=ML) QD):PE X (.Call (.Name x p) (e::es) kws pos) (Ais r t tk):=by
 k_in;refine wpAny_Call_Name_kw (Ee I hg hm hv ?_ hn hdb);refine callWith_kw (thA ha I h λus s1 vs H1 I1 r1 q1=>?_) he hpl hall hnone;refine thn (hkw pos pins s1 G H1 _ I1 q1) λws s2 ⟨zs,H2,I2,r2,q2⟩=>?_;rw[hks];exact hc pins s2 G H2 vs zs us ws Q I2 r1 r2 q2
def Aho (K:d5):List V->List V->Hp->VK->Prop:=λxs zs H Q=>∃(p:ee) (ns:List Int) (d:V),xs=[.ref p]/\zs=[d]/\SqL K H p (ns.map V.int)/\(ns=[]->Q d H)/\∀m,Pb ns m->Q (.int m) H
theorem uR (hc:X.calm=MK):oA X (.builtin "min") ["default"] (Aho X.K):=by
 intro pins s G H xs zs us ws Q I r r2 h;obtain⟨p,ns,d,rfl,rfl,hp,q0,q1⟩:=h;obtain⟨u,rfl,ru⟩:=E4 r;obtain⟨u2,rfl,ru2⟩:=E4 r2;cases ru;obtain⟨ys,hl,e⟩:=Mw I hp;refine tS (I.ok.hd hc) hl (λhz h' tk hk=>?_) (λhz v h' tk hv hk=>?_)
 .refine{d,H,I.kept hk,ru2,q0 ?_}
  rw[e,oi (l:=ys.7) (by rw[f9];exact hz)];rfl
 .obtain⟨m,t,rfl,hm⟩:=lR hz hv
  exact{.int m,H,I.kept hk,⟨t,rfl⟩,q1 m (e▸hm)}
theorem Ahe {r:List V->List V->Hp->VK->Prop}{G:St}{Q:VK}(h:t G H λvs H1=>tk G H1 λzs H2=>r vs zs H2 Q):Ais r t tk G H Q:=h
end
theorem sV {z:Str}{g:TG}{tb:TS}{G:St}(Pv:Nat->St->Hp->Prop)(h0:Pv 0 G H)
  (hs:∀(i c:Nat) G H,z.cps[i]?=mn c->Pv i G H->g (.str (sgn c)) G H λQR H2=>tb { D with nx:=Pv (i+1),ct:=Pv (i+1),bk:=D.nx } QR H2)(hd:∀G H,Pv z.cps.8 G H->D.nx G H):vI (Its z) g tb D G H:=by
 refine{λi m G H=>i<=z.cps.8/\m=z.cps.8-i/\Pv i G H,{_,gy _,rfl,h0},?_};rintro i m G H ⟨hi,rfl,hP⟩
 by_cases h:i=z.cps.8
 .subst h
  exact .inl {d8 _,hd G H hP}
 .have hlt:i<z.cps.8:=me hi h
  refine .inr {hlt,Pv (i+1),λmt H' hN=>{z.cps.8-(i+1),(),hlt,rfl,hN},λx H' hy=>?_};obtain⟨rfl,c,hc,rfl⟩:=hy;exact hs i c G _ hc hP
section
variable {prog:gu} {w:i7} {A:jp} {R:yq->fz->Prop} {I S:ee} {fp wr:List ee} {n:Nat} {P:Nat->ft->Prop} {St:Nat->ki->Prop} {d:ft}
theorem Mq:(toString "max"++toString ".loop":String)="max.loop":=by decide
theorem Adx (W:HP prog w A.in1 I fp wr n P St)(bt:Nat->Nat->Bool)(hc:CmpOf prog w A.in1 .Gt P bt)(nS:S∉fp):∀(k j:Nat) (s:fz) (b:ft) (c:Nat),n-(j+1)=k->j+1<=n->St (j+1) s.5->P (argBest bt j) b ->
  s.heap.get? S=mn { cls:=.type "list",dict:=tp,data:=.seq #[b,b] c,slots:=#[] } ->
  (∀v h' tk,P (argBest bt (n-1)) v->(∀a o,a∉wr->a≠S->s.heap.get? a=mn o->h'.get? a=mn o)->R (.ok (.ret v)) { s with heap:=h',toks:=tk })->codeAny (model prog w) A (.builtin "max.loop" (Zo I S d)) R s:=by
 have nw:S∉wr:=λh=>nS (W.sub _ h);intro k
 induction k with
 |zero=>
  intro j s b c hk hj st hb eS hR;have hn:j+1=n:=()
  refine l5 F.entry_max_loop ?_;rw[j1 F.plain_max_loop _];show wpAny _ A.in1 (seqItems? (.ref S) >>= _) _ _ s;refine wpAny_bind (om eS rfl ?_);show wpAny _ A.in1 (tryCatch (pyNext (.ref I)) _ >>= _) _ _ s;refine wpAny_bind (mh (W.done s _ _ (hn▸st) λh' tk kp=>?_));have eS':=kp S _ nw eS;show wpAny _ A.in1 (updateSeq S (λ_=>#[]) >>= _) _ _ _;refine wpAny_bind ?_;refine tu eS' rfl (wpAny_bind (rn (fu ?_)));exact hR b _ tk (by rw[<-hn];exact hb) λa o aw aS e=>(j0 _ _ (qz aS)).trans (kp a o aw e)
 |succ k ih=>
  intro j s b c hk hj st hb eS hR;have hn:j+1<n:=()
  refine l5 F.entry_max_loop ?_;rw[j1 F.plain_max_loop _];show wpAny _ A.in1 (seqItems? (.ref S) >>= _) _ _ s;refine wpAny_bind (om eS rfl ?_);show wpAny _ A.in1 (tryCatch (pyNext (.ref I)) _ >>= _) _ _ s;refine wpAny_bind (mh (W.item (j+1) s _ _ hn st λv h' tk hv st' kp=>?_));have eS':=kp S _ nw eS;show wpAny _ A.in1 (tryCatch (holding [v,v] (richCompare .Gt v b >>= _)) _ >>= _) _ _ _;refine wpAny_bind (mh (wpAny_holding (wpAny_bind (hc (j+1) (argBest bt j) v b _ _ _ hv hb ?_))));refine wpAny_bind (wpAny_holding (ow ?_));refine wpAny_bind (rn (fu ?_))
  cases t:bt (j+1) (argBest bt j) with
  |true=>
   simp only[if_true];refine wpAny_bind ?_;refine tu eS' rfl (wpAny_bind (rn ?_));rw[Mq];refine fu {mj F.plain_max_loop _,ih (j+1) _ v _ () hn (W.frame _ _ _ st' λa af o e=>?_) (by simp only[argBest,t,if_true];exact hv) (qr _ eS' rfl) λv' h2 tk2 hv' kp2=>?_}
   .exact(j0 _ _ (λz:S=a=>nS (by rw[z];exact af))).trans e
   .exact hR v' h2 tk2 hv' λa o aw aS e=>kp2 a o aw aS ((j0 _ _ (qz aS)).trans (kp a o aw e))
  |false=>
   simp only[ku,if_false];refine wpAny_bind (rn ?_);rw[Mq];refine fu {mj F.plain_max_loop _,ih (j+1) _ b c () hn st' (by simp only[argBest,t,ku,if_false];exact hb) eS' λv' h2 tk2 hv' kp2=>?_};exact hR v' h2 tk2 hv' λa o aw aS e=>kp2 a o aw aS (kp a o aw e)
theorem oH (W:HP prog w A.in1 I fp wr n P St)(bt:Nat->Nat->Bool)(hc:CmpOf prog w A.in1 .Gt P bt)(nS:S∉fp){c:Nat}(st:St 0 s.5)(eS:s.heap.get? S=mn { cls:=.type "list",dict:=tp,data:=.seq #[] c,slots:=#[] })
  (h0:n=0->∀h' tk,(∀a o,a∉wr->a≠S->s.heap.get? a=mn o->h'.get? a=mn o)->R (.ok (.ret d)) { s with heap:=h',toks:=tk })
  (hR:0<n->∀v h' tk,P (argBest bt (n-1)) v->(∀a o,a∉wr->a≠S->s.heap.get? a=mn o->h'.get? a=mn o)->R (.ok (.ret v)) { s with heap:=h',toks:=tk }):codeAny (model prog w) A (.builtin "max.loop" (Zo I S d)) R s:=by
 have nw:S∉wr:=λh=>nS (W.sub _ h);refine l5 F.entry_max_loop ?_;rw[j1 F.plain_max_loop _];show wpAny _ A.in1 (seqItems? (.ref S) >>= _) _ _ s;refine wpAny_bind (om eS rfl ?_);show wpAny _ A.in1 (tryCatch (pyNext (.ref I)) _ >>= _) _ _ s;rcases n5 n with hn|hn
 .refine wpAny_bind (mh (W.done s _ _ (hn▸st) λh' tk kp=>?_))
  exact wpAny_bind (qf (fu (h0 hn h' tk λa o aw _ e=>kp a o aw e)))
 .refine wpAny_bind (mh (W.item 0 s _ _ hn st λv h' tk hv st' kp=>?_))
  have eS':=kp S _ nw eS;show wpAny _ A.in1 (updateSeq S (λ_=>#[v,v]) >>= _) _ _ _;refine wpAny_bind ?_;refine tu eS' rfl ?_;rw[Mq];refine fu {mj F.plain_max_loop _,Adx W bt hc nS _ 0 _ v _ rfl hn (W.frame _ _ _ st' λa af o e=>?_) hv (qr _ eS' rfl) λv' h2 tk2 hv' kp2=>?_}
  .exact(j0 _ _ (λz:S=a=>nS (by rw[z];exact af))).trans e
  .exact hR hn v' h2 tk2 hv' λa o aw aS e=>kp2 a o aw aS ((j0 _ _ (qz aS)).trans (kp a o aw e))
end
section
variable {prog:gu} {w:i7} {A:jp} {E:Za0} {s:fz}
theorem vH (a v:ft):argsOk "max" {[a],[(ll "default",v)]}:=by unfold argsOk;kernel_rfl
theorem uU (d:ft):qb "max" ["key","default"] 0 {[],[(ll "default",d)]}=pure [tp,mn d]:=by kernel_rfl
theorem vG {l:ee}{ys:Array (Int×Tok)}{d:ft}{Q:Za0}(hh:A.handled=tp)(hl:s.heap.IsList l (intItems ys))(h0:ys.8=0->∀h' tk,(∀b o,s.heap.get? b=mn o->h'.get? b=mn o)->Q d { s with heap:=h',toks:=tk })
  (h1:0<ys.8->∀v h' tk,(intItems ys)[argBest (λi j=>decide (numAt ys i>numAt ys j)) (ys.8-1)]?=mn v->(∀b o,s.heap.get? b=mn o->h'.get? b=mn o)->Q v { s with heap:=h',toks:=tk }) :
  wpAny (model prog w) A (call (.builtin "max") [.ref l] [(ll "default",d)]) Q E s:=by
 refine kmb_tree F.kind_max F.plain_max F.entry_max (vH _ _) ?_;show wpAny _ A.in1 (qb "max" ["key","default"] 0 {[],[(ll "default",d)]} >>= _) _ _ s;refine wpAny_bind (wpAny_of_eq (uU d) ?_);refine wpAny_bind (fu ?_);refine wpAny_bind (LY hl λQX e st hfp hlI=>?_);subst e;have hsz:(intItems ys).8=ys.8:=by simp[intItems]
 refine wpAny_bind (ox ?_);rw[Mq];refine fu {mj F.plain_max_loop _,?_};refine oH (ID (A:=A.in1) hh _ l hlI (intItems ys)) _ (CmpOf.ints_gt (numAt ys) (λ_ _=>BZ)) (λhm=>o7 _ (hfp _ hm)) {st.1.at λo e=>fe _ e,st.2.push _} (ik _ rfl) (λhz h' tk kp=>?_) (λhz v h' tk hv kp=>?_)
 .refine h0 (by rw[<-hsz];exact hz) h' tk (GI λb o hb e=>kp b o hb (ip (gd e)) (fe _ e))
 .rw[hsz] at hz
  refine h1 hz v h' tk (by simpa [intItems] using hv) (GI λb o hb e=>kp b o hb (ip (gd e)) (fe _ e))
end
section
variable {X:Cx}
def Aex (K:d5):List V->List V->Hp->VK->Prop:=λxs zs H Q=>∃(p:ee) (ns:List Int) (d:V),xs=[.ref p]/\zs=[d]/\SqL K H p (ns.map V.int)/\(ns=[]->Q d H)/\∀m,Zl ns m->Q (.int m) H
theorem uV (hc:X.calm=MK):oA X (.builtin "max") ["default"] (Aex X.K):=by
 intro pins s G H xs zs us ws Q I r r2 h;obtain⟨p,ns,d,rfl,rfl,hp,q0,q1⟩:=h;obtain⟨u,rfl,ru⟩:=E4 r;obtain⟨u2,rfl,ru2⟩:=E4 r2;cases ru;obtain⟨ys,hl,e⟩:=Mw I hp;refine vG (I.ok.hd hc) hl (λhz h' tk hk=>?_) (λhz v h' tk hv hk=>?_)
 .refine{d,H,I.kept hk,ru2,q0 ?_}
  rw[e,oi (l:=ys.7) (by rw[f9];exact hz)];rfl
 .obtain⟨m,t,rfl,hm⟩:=qM hz hv
  exact{.int m,H,I.kept hk,⟨t,rfl⟩,q1 m (e▸hm)}
end
end _L
end
section
namespace _W
def val:Za5->Nat
 |[]=>0
 |b::r=>b.toNat+2*val r
def plc:Nat->Za5->Za4
 |_,[]=>[]
 |k,b::r=>if b then k::plc (k+1) r else plc (k+1) r
theorem Aac:∀l:Za5,val l<2 ^ l.9
 |[]=>by simp[val]
 |b::r=>by
  have:=Aac r;simp only[val,f8,xg];have hb:b.toNat<=1:=CN b;lia
theorem iD (b:Bool):∀(l:Za5) (k:Nat),plc k (l++[b])=plc k l++(if b then[k+l.9] else[])
 |[],k=>by cases b<;>simp[plc]
 |a::r,k=>by
  cases a<;>simp[plc,iD b r,jt,rk 1]
theorem L0:∀(l:Za5) (k:Nat),plc (k+1) l=(plc k l).map (·+1)
 |[],k=>rfl
 |a::r,k=>by cases a<;>simp[plc,L0 r]
theorem Vc:∀(l:Za5) (k:Nat),(plc k l).9=l.count MK
 |[],k=>rfl
 |a::r,k=>by cases a<;>simp[plc,Vc r]
def pc (n:Nat):Nat:=if n=0 then 0 else n%2+pc (n/2)
termination_by n
decreasing_by lia
theorem Tc:pc 0=0:=by rw[pc];rfl
theorem G8 (n:Nat):pc n=n%2+pc (n/2):=by
 by_cases h:n=0
 .subst h;simp[Tc]
 .rw[pc,if_neg h]
theorem Nv:∀l:Za5,pc (val l)=l.count MK
 |[]=>by simp[val,Tc]
 |b::r=>by
  rw[G8];have e1:val (b::r)%2=b.toNat:=by simp only[val];have:=CN b;lia
  have e2:val (b::r)/2=val r:=by simp only[val];have:=CN b;lia
  rw[e1,e2,Nv r];cases b<;>simp[sf,rk]
theorem Ai1 (n:Nat):n%16%2=n%2:=yr n (by decide)
theorem Ah8 (n:Nat):n%16/2%2=n/2%2:=(congrArg (·%2) (wb n 2 8)).trans (yr _ (by decide))
theorem Ahs (n:Nat):n%16/4%2=n/4%2:=(congrArg (·%2) (wb n 4 4)).trans (yr _ (by decide))
theorem Ahd (n:Nat):n%16/8%2=n/8%2:=(congrArg (·%2) (wb n 8 2)).trans (Nat.mod_mod _ _)
theorem Ajv (n:Nat):pc n=pc (n%16)+pc (n/16):=by
 have a:pc n=n%2+(n/2%2+(n/4%2+(n/8%2+pc (n/16)))):=by
  rw[G8 n,G8 (n/2),G8 (n/2/2),G8 (n/2/2/2)];simp only[ue]
 have b:pc (n%16)=n%16%2+(n%16/2%2+(n%16/4%2+(n%16/8%2+pc (n%16/16)))):=by
  rw[G8 (n%16),G8 (n%16/2),G8 (n%16/2/2),G8 (n%16/2/2/2)];simp only[ue]
 have c:pc (n%16/16)=0:=by
  rw[z9 (wc n (by decide)),Tc]
 rw[a,b,c,Ai1,Ah8,Ahs,Ahd,og,jt,jt,jt]
theorem yC:∀r:Nat,r<16->Y9[r]?=mn (pc r):=by
 have h:∀b0 b1 b2 b3:Bool,Y9[val [b0,b1,b2,b3]]?=mn ([b0,b1,b2,b3].count MK):=by decide
 intro r hr;have e:r=val [r.testBit 0,r.testBit 1,r.testBit 2,r.testBit 3]:=by
  have:∀r:Fin 16,r.val=val [r.val.testBit 0,r.val.testBit 1,r.val.testBit 2,r.val.testBit 3]:=by decide
  exact this ⟨r,hr⟩
 rw[e,h,Nv]
def nth (n k:Nat):Option Nat:=
 if n=0 then tp else if n%2=1 then(if k=0 then mn 0 else(nth (n/2) (k-1)).map (·+1)) else(nth (n/2) k).map (·+1)
termination_by n
decreasing_by all_goals lia
theorem W1 (k:Nat):nth 0 k=tp:=by rw[nth];rfl
theorem jC (b:Bool)(m k:Nat):nth (b.toNat+2*m) k=if b then(if k=0 then mn 0 else(nth m (k-1)).map (·+1)) else(nth m k).map (·+1):=by
 cases b with
 |false=>
  by_cases h:m=0
  .subst h;simp[W1]
  .rw[nth,if_neg (by simp only[zw];lia),if_neg (by simp only[zw];lia)]
   simp only[zw,k5,ku,if_false];rw[show 2*m/2=m by lia]
 |true=>
  rw[nth,if_neg (by simp only[AF];lia),if_pos (by simp only[AF];lia)];have e:(true.toNat+2*m)/2=m:=by simp only[AF];lia
  rw[e];simp
theorem fG:∀(l:Za5) (k:Nat),nth (val l) k=(plc 0 l)[k]?
 |[],k=>by simp[val,plc,W1]
 |b::r,k=>by
  simp only[val,jC]
  cases b with
  |false=>simp[plc,L0,fG r]
  |true=>
   cases k with
   |zero=>simp[plc]
   |succ k=>simp[plc,L0,fG r]
def Zp (r:Nat):Za4:=(en 4).filter λp=>decide (r/2 ^ p%2=1)
theorem Adl:∀r:Nat,r<16->(Zp r).9=pc r:=by
 have h:∀b0 b1 b2 b3:Bool,(Zp (val [b0,b1,b2,b3])).9=([b0,b1,b2,b3].count MK):=by decide
 intro r hr;have e:r=val [r.testBit 0,r.testBit 1,r.testBit 2,r.testBit 3]:=by
  have:∀r:Fin 16,r.val=val [r.val.testBit 0,r.val.testBit 1,r.val.testBit 2,r.val.testBit 3]:=by decide
  exact this ⟨r,hr⟩
 rw[e,h,Nv]
theorem qT:∀(w:Za5) (m k:Nat),nth (val w+2 ^ w.9*m) k=if k<w.count MK then(plc 0 w)[k]? else(nth m (k-w.count MK)).map (·+w.9)
 |[],m,k=>by simp[val]
 |b::r,m,k=>by
  have e:val (b::r)+2 ^ (b::r).9*m=b.toNat+2*(val r+2 ^ r.9*m):=by
   rw[val,f8,xg,Nat.mul_add,jt,zg (2 ^ r.9) 2,HV]
  have ih:=qT r m;rw[e,jC]
  cases b with
  |false=>
   rw[if_neg io,ih,show(ML::r).count MK=r.count MK by simp]
   by_cases h:k<r.count MK
   .rw[if_pos h,if_pos h]
    simp[plc,L0]
   .rw[if_neg h,if_neg h,AA]
    rfl
  |true=>
   rw[if_pos rfl,show(MK::r).count MK=r.count MK+1 by simp]
   cases k with
   |zero=>rw[if_pos rfl,if_pos (DM _)];rfl
   |succ k=>
    rw[if_neg (Nat.succ_ne_zero k),qo,ih]
    by_cases h:k<r.count MK
    .rw[if_pos h,if_pos (Nat.succ_lt_succ h)]
     simp[plc,L0]
    .rw[if_neg h,if_neg (λz=>h (Nat.lt_of_succ_lt_succ z)),Nat.add_sub_add_right,AA]
     rfl
theorem Aik (n k:Nat):nth n k=if k<pc (n%16) then(Zp (n%16))[k]? else(nth (n/16) (k-pc (n%16))).map (·+4):=by
 have h:∀b0 b1 b2 b3:Bool,Zp (val [b0,b1,b2,b3])=plc 0 [b0,b1,b2,b3]:=by decide
 have g:∀r:Fin 16,r.val=val [r.val.testBit 0,r.val.testBit 1,r.val.testBit 2,r.val.testBit 3]:=by decide
 obtain⟨w,hw,e,h4⟩:∃w:Za5,w.9=4/\n%16=val w/\Zp (val w)=plc 0 w:={_,rfl,g {n%16,wc _ (by decide)},h _ _ _ _};have:=qT w (n/16) k;rw[hw,<-e,show n%16+2 ^ 4*(n/16)=n from Nat.mod_add_div n 16] at this;rw[this,e,Nv,h4]
def A4 (l:Za5)(j:Nat):Za5:=(l.drop (32*j)).take 32
def B7 (n:Nat):Nat:=(n+31)/32
def wordsOf (l:Za5):Za4:=(en (B7 l.9)).map λj=>val (A4 l j)
def cnt (l:Za5)(k:Nat):Nat:=(l.take k).count MK
theorem sK (l:Za5)(a b:Nat):cnt l (a+b)=cnt l a+((l.drop a).take b).count MK:=by
 unfold cnt;rw[uy,qu]
theorem Tg (l:Za5){k:Nat}(h:l.9<=k):cnt l k=l.count MK:=by
 unfold cnt;rw[fv h]
theorem iS (l:Za5)(j:Nat):cnt l (32*(j+1))=cnt l (32*j)+pc (val (A4 l j)):=by
 rw[Nv,show 32*(j+1)=32*j+32 by lia,sK];rfl
theorem Y8 (l:Za5)(a:Nat):∀k:Nat,((en k).map λi=>pc (val (A4 l (a+i)))).sum+cnt l (32*a)=cnt l (32*(a+k))
 |0=>by simp
 |k+1=>by
  rw[iz,fb,nh,EY,yi];have:=Y8 l a k;have e:=iS l (a+k);rw[show a+(k+1)=a+k+1 by lia,e];lia
theorem fX (n:Nat):n<=32*B7 n:=by unfold B7;lia
theorem fV {n j:Nat}(h:j<B7 n):32*j<n:=by unfold B7 at h;lia
theorem vO (l:Za5)(b:Nat)(k:Nat)(hk:k=min 8 (B7 l.9-8*b)):((en k).map λi=>pc (val (A4 l (8*b+i)))).sum+cnt l (256*b)=cnt l (256*(b+1)):=by
 have h:=Y8 l (8*b) k;rw[show 32*(8*b)=256*b by lia] at h;rw[h]
 by_cases hh:8<=B7 l.9-8*b
 .rw[hk.trans (iu hh),show 32*(8*b+8)=256*(b+1) by lia]
 .have ek:=hk.trans (rj (gz (KM.mp hh)))
  have h2:=iw (fX l.9) (Nat.mul_le_mul_left 32 (Nat.sub_le_iff_le_add'.mp (oz ek.symm)));rw[<-ek] at hh;rw[Tg l h2,Tg l (k:=256*(b+1)) (by clear hk ek h;lia)]
theorem sZ:∀(l:Za5) (a:Nat),(l.reverse.foldl (λacc b=>acc*2+b.toNat) a)=a*2 ^ l.9+val l
 |[],a=>by simp[val]
 |b::r,a=>by
  rw[yy,FO,sZ r a];simp only[qp,GU,val,f8,xg];rw[wn,HV];lia
theorem fO:∀(w:Za5) (k:Nat),val w/2 ^ k%2=(w.getD k ML).toNat
 |[],k=>by simp[val]
 |b::r,0=>by
  cases b<;>simp[val]<;>lia
 |b::r,k+1=>by
  have ih:=fO r k;have e:val (b::r)/2 ^ (k+1)=val r/2 ^ k:=by
   rw[xg,zg (2 ^ k) 2,<-ue];congr 1;cases b<;>simp[val]<;>lia
  rw[e,ih];simp
theorem Sb (l:Za5)(j:Nat){p:Nat}(hp:p<32):(A4 l j).getD p ML=l.getD (32*j+p) ML:=by
 unfold A4;simp only[kr,jy,jd,hp,if_true]
def Oz (n:Nat):Za5:=(en 32).map λp=>decide (n/2 ^ p%2=1)
theorem vP (b:Bool):decide (b.toNat=1)=b:=by cases b<;>rfl
theorem vV (l:Za5)(j:Nat):Oz (val (A4 l j))=(en 32).map λp=>l.getD (32*j+p) ML:=by
 unfold Oz;refine jb λp hp=>?_;rw[fO,vP,Sb l j (iy.mp hp)]
theorem P5 {α:Type}(d:Nat)(f:Nat->α):∀m:Nat,((en m).map λj=>(en d).map λp=>f (d*j+p)).flatten=(en (d*m)).map f
 |0=>by simp
 |m+1=>by
  rw[iz,fb,ij,P5 d f m,Nat.mul_succ,ua,fb];simp[x8]
def nO (r:Nat):Za5:=(en 4).map λk=>decide (r/2 ^ k%2=1)
theorem Aav (n j:Nat):nO (n/2 ^ (4*j)%16)=(en 4).map λk=>decide (n/2 ^ (4*j+k)%2=1):=by
 unfold nO;refine jb λk hk=>?_;have hk:=iy.mp hk;rw[Nat.pow_add,<-ue];generalize n/2 ^ (4*j)=m;congr 1;have:k=0\/k=1\/k=2\/k=3:=()
 rcases this with rfl|rfl|rfl|rfl
 .rw[Nat.pow_zero,KA,KA,Ai1]
 .exact congrArg (·=1) (Ah8 m)
 .exact congrArg (·=1) (Ahs m)
 .exact congrArg (·=1) (Ahd m)
theorem W8 (n:Nat):((en 8).map λj=>nO (n/2 ^ (4*j)%16)).flatten=Oz n:=by
 have e:((en 8).map λj=>nO (n/2 ^ (4*j)%16))=(en 8).map λj=>(en 4).map λk=>decide (n/2 ^ (4*j+k)%2=1):=jb λj _=>Aav n j;rw[e];exact P5 4 (λp=>decide (n/2 ^ p%2=1)) 8
theorem Vy (l:Za5)(a m:Nat):((en m).map λi=>Oz (val (A4 l (a+i)))).flatten=(en (32*m)).map λp=>l.getD (32*a+p) ML:=by
 have e:((en m).map λi=>Oz (val (A4 l (a+i))))=(en m).map λj=>(en 32).map λp=>l.getD (32*a+(32*j+p)) ML:=jb λj _=>by
  rw[vV];refine jb λp _=>?_;congr 1;lia
 rw[e];exact P5 32 (λp=>l.getD (32*a+p) ML) m
theorem zL (l:Za5)(a m low c:Nat)(h0:32*a<=low)(h1:low+c<=l.9)(h2:low+c<=32*(a+m)) :
  (((en (32*m)).map λp=>l.getD (32*a+p) ML).drop (low-32*a)).take c=(l.drop low).take c:=by
 refine qa λi=>?_;rw[jy,jy]
 by_cases hi:i<c
 .rw[if_pos hi,if_pos hi,jd,jd,fj,gr ()]
  rw[d6 (show low+i<l.9 by lia)];simp only[rz,kr];rw[show 32*a+(low-32*a+i)=low+i by lia,d6 (show low+i<l.9 by lia)];rfl
 .rw[if_neg hi,if_neg hi]
theorem X9 (l:Za5)(a k:Nat):((wordsOf l).drop a).take k=(en (min k (B7 l.9-a))).map λi=>val (A4 l (a+i)):=by
 refine qa λi=>?_;unfold wordsOf;rw[jy,fj]
 by_cases hi:i<k
 .rw[if_pos hi,jd,fj]
  by_cases h2:a+i<B7 l.9
  .rw[gr h2,gr (Nat.lt_min.mpr {hi,xp.mpr (by rw[rk];exact h2)})]
   rfl
  .have h3:=su.mp h2
   rw[ir (by rw[fm];exact h3),ir (by rw[fm];exact iw (uv _ _) (Nat.sub_le_iff_le_add.mpr (by rw[rk];exact h3)))];rfl
 .rw[if_neg hi,ir (by rw[fm];exact iw (AT _ _) (su.mp hi))]
  rfl
theorem zK (f:Nat->Bool)(n:Nat):[n].filter f=if f n then[n] else[]:=by
 cases h:f n<;>simp[DZ,h]
def occ (b:Bool)(l:Za5)(n:Nat):Za4:=(en n).filter λi=>l.getD i ML==b
theorem Oo (b:Bool)(l:Za5)(n:Nat):occ b l (n+1)=occ b l n++if l.getD n ML==b then[n] else[]:=by
 unfold occ;rw[iz,ju,zK]
theorem S9 (b:Bool)(l:Za5)(n:Nat):∀d:Nat,occ b l (n+d)=occ b l n++((en d).filter λp=>l.getD (n+p) ML==b).map (n + ·)
 |0=>by simp
 |d+1=>by
  rw[show n+(d+1)=n+d+1 by lia,Oo,S9 b l n d,iz,ju,fb,fh,zK];congr 2;cases l.getD (n+d) ML==b<;>rfl
theorem Zh {b:Bool}{l:Za5}{n m i:Nat}(h:n<=m)(hi:i<(occ b l n).9):(occ b l m)[i]?=(occ b l n)[i]?:=by
 obtain⟨d,rfl⟩:=HE h;rw[S9,f7 hi]
theorem Afd {b:Bool}{l:Za5}{n m:Nat}(h:n<=m):(occ b l n).9<=(occ b l m).9:=by
 obtain⟨d,rfl⟩:=HE h;rw[S9,d7];lia
theorem Ti (l:Za5):∀n:Nat,(occ MK l n).9=cnt l n/\(occ ML l n).9+cnt l n=n
 |0=>by simp[occ,cnt]
 |n+1=>by
  obtain⟨h1,h2⟩:=Ti l n;have e:cnt l (n+1)=cnt l n+(l.getD n ML).toNat:=by
   unfold cnt;rw[ie,qu,kr]
   cases hx:l[n]? with
   |none=>simp
   |some b=>cases b<;>simp
  rw[Oo,Oo,e];cases l.getD n ML<;>simp<;>lia
def Nb (b:Bool)(l:Za5)(j:Nat):Za4:=(en 32).filter λp=>l.getD (32*j+p) ML==b
theorem T9 (b:Bool)(l:Za5)(j:Nat):occ b l (32*(j+1))=occ b l (32*j)++(Nb b l j).map (32*j + ·):=by
 rw[show 32*(j+1)=32*j+32 by lia,S9];rfl
theorem Rl (f:Nat->Bool):∀n:Nat,plc 0 ((en n).map f)=(en n).filter f
 |0=>rfl
 |n+1=>by
  rw[iz,fb,EY,iD,Rl f n,ju,d4,fm,zK,k5]
theorem eL (w:Za5)(k:Nat):(val w).testBit k=w.getD k ML:=by
 rw[Nat.testBit_eq_decide_div_mod_eq,fO];cases w.getD k ML<;>rfl
def Pe (b:Bool):Nat:=if b then 0 else 4294967295
theorem Mt (b:Bool)(l:Za5)(j:Nat):val (A4 l j) ^^^ Pe b=val ((en 32).map λp=>l.getD (32*j+p) ML==b):=by
 refine xt λi=>?_;rw[Nat.testBit_xor,eL,eL];have hf:(Pe b).testBit i=(!b&&decide (i<32)):=by
  cases b
  .show(2 ^ 32-1).testBit i=_
   rw[BG];rfl
  .show(0:Nat).testBit i=_
   rw[Nat.zero_testBit];rfl
 rw[hf]
 by_cases hi:i<32
 .rw[Sb l j hi,kr (l:=BH _ _),fj,gr hi]
  show _=(l.getD (32*j+i) ML==b);rw[decide_eq_true hi];cases l.getD (32*j+i) ML<;>cases b<;>rfl
 .rw[decide_eq_false hi,kr,ir (by unfold A4;rw[fk];lia),kr,ir (by rw[d4,fm];lia)]
  simp
theorem kT (b:Bool)(l:Za5)(j k:Nat):nth (val (A4 l j) ^^^ Pe b) k=(Nb b l j)[k]?:=by
 rw[Mt,fG,Rl];rfl
theorem Ace (b:Bool)(l:Za5)(j:Nat):pc (val (A4 l j) ^^^ Pe b)=(Nb b l j).9:=by
 rw[Mt,Nv,<-Vc _ 0,Rl];rfl
theorem xG (w:Za5)(k:Nat):val w%2 ^ k=val (w.take k):=by
 refine xt λi=>?_;rw[Nat.testBit_mod_two_pow,eL,eL,kr,kr,jy]
 by_cases hi:i<k<;>simp[hi]
def dAt (ds:Za4)(k:Nat):Nat:=ds.getD k 0
def opn (ds:Za4):Nat->Nat
 |0=>0
 |k+1=>dAt ds k+1
def way (ds:Za4):Nat->List Int
 |0=>[-1]
 |k+1=>(way ds k).take (dAt ds k+1)++[(k:Int)]
def Dok (ds:Za4):Prop:=∀k,k<ds.9->dAt ds k<=opn ds k
def eld (ds:Za4)(k:Nat):Int:=(way ds k).getD (dAt ds k) 0
def Ax (ds:Za4):List Int:=(en ds.9).map (eld ds)
theorem Bq {ds:Za4}(h:Dok ds):∀k,k<=ds.9->(way ds k).9=opn ds k+1
 |0,_=>rfl
 |k+1,hk=>by
  show((way ds k).take (dAt ds k+1)++[(k:Int)]).9=dAt ds k+1+1;have:=Bq h k ();have:=h k ();rw[d7,fk];simp only[f8,jg];lia
theorem Ke {ds:Za4}(h:Dok ds):∀k,k<=ds.9->(way ds k)[0]?=mn (-1)
 |0,_=>rfl
 |k+1,hk=>by
  show((way ds k).take (dAt ds k+1)++[(k:Int)])[0]?=mn (-1);have e:=Ke h k ();have hl:=Bq h k ();rw[f7 (by rw[fk];lia),ic ()];exact e
theorem Ku {ds:Za4}(h:Dok ds):∀(k j:Nat) (x:Int),k<=ds.9->(way ds k)[j+1]?=mn x->∃v:Nat,x=(v:Int)/\v<k/\dAt ds v=j
 |0,j,x,_,e=>by cases e
 |k+1,j,x,hk,e=>by
  have e:((way ds k).take (dAt ds k+1)++[(k:Int)])[j+1]?=mn x:=e;have hl:=Bq h k ();have hd:=h k ();have hl2:((way ds k).take (dAt ds k+1)).9=dAt ds k+1:=by rw[fk];lia
  by_cases hj:j+1<dAt ds k+1
  .rw[f7 (),ic hj] at e
   obtain⟨v,hv,hlt,hdv⟩:=Ku h k j x () e;exact{v,hv,(),hdv}
  .rw[fg (),hl2] at e
   have e0:j+1-(dAt ds k+1)=0:=by
    have:=(fq.mp e).1;simp only[f8,jg] at this;lia
   rw[e0] at e;have e:=fc e;exact{k,e.symm,(),()}
theorem Rh {ds:Za4}(h:Dok ds):∀(k i j:Nat) (x y:Int),k<=ds.9->i<j->(way ds k)[i]?=mn x->(way ds k)[j]?=mn y->x<y
 |0,i,j,x,y,_,hij,e1,e2=>by
  have:=(fq.mp e2).1;simp only[way,f8,jg] at this;lia
 |k+1,i,j,x,y,hk,hij,e1,e2=>by
  have hl:=Bq h k ();have hd:=h k ();have hl2:((way ds k).take (dAt ds k+1)).9=dAt ds k+1:=by rw[fk];lia
  have e2':((way ds k).take (dAt ds k+1)++[(k:Int)])[j]?=mn y:=e2;have e1':((way ds k).take (dAt ds k+1)++[(k:Int)])[i]?=mn x:=e1
  by_cases hj:j<dAt ds k+1
  .rw[f7 (),ic hj] at e2'
   rw[f7 (),ic ()] at e1';exact Rh h k i j x y () hij e1' e2'
  .rw[fg (),hl2] at e2'
   have e0:j-(dAt ds k+1)=0:=by
    have:=(fq.mp e2').1;simp only[f8,jg] at this;lia
   rw[e0] at e2';have ey:=fc e2';rw[f7 (),ic ()] at e1'
   cases i with
   |zero=>
    rw[Ke h k ()] at e1';have:=fc e1';lia
   |succ i=>
    obtain⟨v,hv,hlt,_⟩:=Ku h k i x () e1';lia
theorem G0 {ds:Za4}(h:Dok ds){k:Nat}(hk:k<ds.9):(way ds k)[dAt ds k]?=mn (eld ds k):=by
 have hl:=Bq h k ();have hd:=h k hk;unfold eld jw;rw[d6 ()];rfl
theorem Zk {ds:Za4}(h:Dok ds){k:Nat}(hk:k<ds.9)(e:eld ds k=-1):dAt ds k=0:=by
 have ha:=G0 h hk
 cases hd:dAt ds k with
 |zero=>rfl
 |succ j=>
  rw[hd] at ha;obtain⟨v,hv,_⟩:=Ku h k j _ () ha;lia
theorem E7 {ds:Za4}(h:Dok ds){k:Nat}(hk:k<ds.9)(e:eld ds k≠-1):∃v:Nat,eld ds k=(v:Int)/\v<k/\dAt ds k=dAt ds v+1:=by
 have ha:=G0 h hk
 cases hd:dAt ds k with
 |zero=>
  rw[hd,Ke h k ()] at ha;exact absurd (fc ha).symm e
 |succ j=>
  rw[hd] at ha;obtain⟨v,hv,hlt,hdv⟩:=Ku h k j _ () ha;exact{v,hv,hlt,()}
theorem fR {ds:Za4}(h:Dok ds){k:Nat}(hk:k<ds.9):-1<=eld ds k:=by
 by_cases e:eld ds k=-1
 .lia
 .obtain⟨v,hv,_⟩:=E7 h hk e
  lia
theorem Bd (ds:Za4):(Ax ds).9=ds.9:=by unfold Ax;rw[d4,fm]
theorem Ou {ds:Za4}{k:Nat}(hk:k<ds.9):(Ax ds)[k]?=mn (eld ds k):=by
 unfold Ax;rw[fj,gr hk];rfl
def Cb (ds:Za4)(k:Nat):Za5:=d9 (opn ds k-dAt ds k) ML++[MK]
def Uh (ds:Za4)(k:Nat):Za5:=((en k).map (Cb ds)).flatten
def Km (ds:Za4):Za5:=Uh ds ds.9++d9 (opn ds ds.9) ML
theorem Mz (ds:Za4)(k:Nat):Uh ds (k+1)=Uh ds k++Cb ds k:=by
 unfold Uh;rw[iz,fb,ij];simp
theorem iK {ds:Za4}(h:Dok ds):∀k,k<=ds.9->(Uh ds k).9+opn ds k=2*k
 |0,_=>rfl
 |k+1,hk=>by
  have:=iK h k ();have:=h k ();rw[Mz,d7];show(Uh ds k).9+(d9 (opn ds k-dAt ds k) ML++[MK]).9+(dAt ds k+1)=2*(k+1);rw[d7,gx];simp only[f8,jg];lia
theorem Hw {ds:Za4}(h:Dok ds):(Km ds).9=2*ds.9:=by
 unfold Km;rw[d7,gx];exact iK h _ (d8 _)
def Vs:Nat->Za5->Prop
 |h,[]=>h=0
 |h,ML::s=>0<h/\Vs (h-1) s
 |h,MK::s=>Vs (h+1) s
theorem Ve:∀(m h:Nat) (s:Za5),Vs h s->Vs (h+m) (d9 m ML++s)
 |0,h,s,v=>v
 |m+1,h,s,v=>by
  rw[ja];refine{(),?_};show Vs (h+(m+1)-1) (d9 m ML++s);rw[show h+(m+1)-1=h+m by lia];exact Ve m h s v
theorem sB {ds:Za4}(h:Dok ds):∀(m k:Nat),k+m=ds.9->Vs (opn ds k) (((en m).map λi=>Cb ds (k+i)).flatten++d9 (opn ds ds.9) ML)
 |0,k,e=>by
  have e:k=ds.9:=()
  subst e;have:=Ve (opn ds ds.9) 0 [] rfl;rw[k5,gp] at this;exact this
 |m+1,k,e=>by
  have ih:=sB h m (k+1) ();have hd:=h k ();rw[oy,gt,jm,im];have e1:((λi=>Cb ds (k+i)) ∘ HC)=λi=>Cb ds (k+1+i):=by
   funext i
   show Cb ds (k+(i+1))=Cb ds (k+1+i);rw[show k+(i+1)=k+1+i by lia]
  rw[e1];show Vs (opn ds k) ((d9 (opn ds k-dAt ds (k+0)) ML++[MK]++_)++_);rw[og,fh,fh];have:=Ve (opn ds k-dAt ds k) (dAt ds k) (MK::(((en m).map λi=>Cb ds (k+1+i)).flatten++d9 (opn ds ds.9) ML)) ih;rw[show dAt ds k+(opn ds k-dAt ds k)=opn ds k by lia] at this;exact this
theorem oJ {ds:Za4}(h:Dok ds):Vs 0 (Km ds):=by
 have:=sB h ds.9 0 ();unfold Km Uh;have e:(λi=>Cb ds (0+i))=Cb ds:=by funext i;rw[k5]
 rw[e] at this;exact this
theorem Tv:∀(m n:Nat) (s t:Za5),d9 m ML++MK::s=d9 n ML++MK::t->m=n/\s=t
 |0,0,s,t,e=>{rfl,by simpa using e}
 |0,n+1,s,t,e=>by rw[ja] at e;cases e
 |m+1,0,s,t,e=>by rw[ja] at e;cases e
 |m+1,n+1,s,t,e=>by
  rw[ja,ja] at e;obtain⟨a,b⟩:=Tv m n s t (vq e).2;exact{(),b}
theorem lK {ds es:Za4}(h1:Dok ds)(h2:Dok es)(hl:ds.9=es.9):∀(m k:Nat),k+m=ds.9->opn ds k=opn es k ->
  ((en m).map λi=>Cb ds (k+i)).flatten++d9 (opn ds ds.9) ML=((en m).map λi=>Cb es (k+i)).flatten++d9 (opn es es.9) ML->∀i,k<=i->i<ds.9->dAt ds i=dAt es i
 |0,k,e,_,_=>λi a b=>()
 |m+1,k,e,ho,hr=>λi a b=>by
  have f:∀xs:Za4,((en (m+1)).map λi=>Cb xs (k+i)).flatten=d9 (opn xs k-dAt xs k) ML++MK::((en m).map λi=>Cb xs (k+1+i)).flatten:=λxs=>by
   rw[oy,gt,jm,im];have e1:((λi=>Cb xs (k+i)) ∘ HC)=λi=>Cb xs (k+1+i):=by
    funext i
    show Cb xs (k+(i+1))=Cb xs (k+1+i);rw[show k+(i+1)=k+1+i by lia]
   rw[e1];show(d9 (opn xs k-dAt xs (k+0)) ML++[MK])++_=_;rw[og,fh];rfl
  rw[f,f,fh,fh,k8,k8] at hr;obtain⟨e1,e2⟩:=Tv _ _ _ _ hr;have d1:=h1 k ();have d2:=h2 k ();have hk:dAt ds k=dAt es k:=()
  by_cases hi:i=k
  .rw[hi];exact hk
  .exact lK h1 h2 hl m (k+1) () (by show dAt ds k+1=dAt es k+1;lia) e2 i () b
theorem jD {ds es:Za4}(h1:Dok ds)(h2:Dok es)(e:Km ds=Km es):ds=es:=by
 have hl:ds.9=es.9:=by
  have a:=Hw h1;have b:=Hw h2;rw[e] at a;lia
 have z:∀xs:Za4,Km xs=((en xs.9).map λi=>Cb xs (0+i)).flatten++d9 (opn xs xs.9) ML:=λxs=>by
  unfold Km Uh;have e:(λi=>Cb xs (0+i))=Cb xs:=by funext i;rw[k5]
  rw[e]
 have key:=lK h1 h2 hl ds.9 0 () rfl (by rw[<-z,e,z,hl]);refine zt hl λk a b=>?_;have:=key k () a;unfold dAt at this
 simpa [jw,a,b] using this
theorem mG {A:Za4}(hA:Dok A)(h:0<A.9):(way A A.9)[opn A A.9]?=mn ((A.9:Int)-1):=by
 obtain⟨n,hn⟩:∃n,A.9=n+1:={A.9-1,()};have hl:=Bq hA n ();have hd:=hA n ();rw[hn];show((way A n).take (dAt A n+1)++[(n:Int)])[dAt A n+1]?=_;rw[fg (by rw[fk];lia),fk,iu (),jx];show mn (n:Int)=mn (((n+1:Nat):Int)-1);congr 1;lia
end _W
end
section
namespace _L
open PySem PySem.Spec PyProof.Rows
def Ajh (B:ki)(l:List Env)(e:ee)(cls a0:ft)(od:Option ee)(h:ki):Prop:=Heap.FlyingW B l e cls a0 h/\∃o,h.get? e=mn o/\o.dict=od
structure Aiu (outer:List Env) (H':Hp) (h h':ki) (e C:ee) (od:Option ee):Prop where
 new:h.get? e=tp
 unt:H' e=tp
 fly:∃a0 B,Ajh B outer e (.ref C) a0 od h'/\∀b o,h'.get? b=mn o->B.get? b=tp->b=e\/b∈frs outer\/(h.get? b=tp/\H' b=tp)
def CXE (P:gu)(w:i7):CXT:=λouter H s E ex s'=>∃e C od H',ex=.ref e/\s'.os=s.os/\xu s'.gens/\Un (frs outer) [] H H' s.5 s'.5/\HOk P w H' s'.5/\(∀b∈frs outer,H' b=tp)/\Aiu outer H' s.5 s'.5 e C od/\E (.ref C) od H'
theorem Ahb {P:gu}:K8 (CXE P w) X E0:=λ_ _ _ _ _ _ _ h=>by
 obtain⟨_,_,_,_,_,_,_,_,_,_,_,z⟩:=h;exact z.elim
structure Aju (P:gu) (w:i7) (K:d5) (mg:Za2) (base:ki) (name:Str) (C:ee) (k:Nat) (ps:Za6) (sp:Sp):Prop where
 ex:∃(f:ee) (fd:ky),Av P w K mg base (CXE P w) k f fd ps sp/\Fu K fd ps []/\Mk K C f/\mg name=mn (.ref C)
theorem Z1 (K:d5)(h:autoParam (X.K=K) QD):IxR X (Ag7 K):=by
 subst h;exact Fm
theorem Mg (K:d5)(h:autoParam (X.K=K) QD):IxR X (Acn K):=by
 subst h;exact By
open PySem.W Builtin.Getset_descriptor
theorem eR {G:St}(I:Inv X pins G H s):sysModules<s.heap.objs.8:=
 Nat.lt_trans (by decide) (show mainGlobals<s.heap.objs.8 from(I.mod.glob.keeps I.bk).lt)
def Aep:TE:=λ_ H Q=>∀p,H p=tp->Q (.ref p) (upd H p (.dK []))
theorem Aa9 {P:gu}(h:ki)(hb:sysModules<h.objs.8):De P w H (h.push { cls:=.type "dict",data:=.dict #[] }) h.objs.8 (.dK []):=
 {gy _,beq_eq_false_iff_ne.mpr (qz (ip hb)),[],.nil,yf h}
theorem sI:PE X (.Dict [] [] pos) Aep:=λpins s G H Q I h=>
 wpAny_Dict_empty {.ref s.heap.objs.8,_,I.laid (a:=s.heap.objs.8) (o:=.dK []) (t':=s.toks) (λ_ _ q=>fe _ q) (d8 _) (Aa9 s.5 (eR I)),rfl,h _ (I.hok.fresh (d8 _))}
theorem Agc {G:St}{Q:VK}(h:∀p,H p=tp->Q (.ref p) (upd H p (.dK []))):Aep G H Q:=h
section
variable {X:Cx}
def Ac0:V->List V->Hp->VK->Prop:=λx vs H Q=>∃(l:ee) (xs:List V) (y:V),x=.ref l/\vs=[y]/\H l=mn (.lst xs)/\xs.all Io=MK/\Io y=MK/\Q (.int (xs.countP (λz=>eqV z y):Nat)) H
theorem T1 {y:V}:∀{xs:List V} {us:Za3},A5 xs us->xs.all Io=MK->us.countP (eqU y)=xs.countP λz=>eqV z y
 |_,_,.nil,_=>rfl
 |x::xs,u::us,.cons r t,f=>by
  rw[HG,km] at f;rw[zu,zu,T1 t f.2,mW r f.1]
theorem Yj:MtM X "list.count" Ac0:=by
 intro pins s G H x vs v us Q I rx rv h;obtain⟨l,xs,y,rfl,rfl,hH,hf,hy,q⟩:=h;cases rx;obtain⟨u,rfl,ru⟩:=E4 rv;obtain⟨z,its,n,r,hl,e⟩:=I.lstM hH;refine qg F.slot_list_count {_,e,rfl} F.entry_list_count (F.args_list_count_2 _ _) (SeqAt.list_countAt l its.6 n tp #[] u (eqU y)) {e,λw hw=>Ug ru hy r hf w (by simpa using hw),?_};rw[show its.toArray.7=its from rfl,T1 r hf];exact{.int _,H,I.tok _,{_,rfl},q}
end
open Builtin.Str (occurrences partsBetween)
section
variable {X:Cx}
theorem Aas (l:List (Str×Tok)):A5 ((l.map (·.1)).map V.str) (strValues l):=by
 induction l with
 |nil=>exact .nil
 |cons p r ih=>exact .cons {_,rfl} ih
end
def Ae2 (K:d5)(te ts:TE):TE:=λG H Q=>te G H λx H1=>ts G H1 λy H2=>∃a xs st,x=.ref a/\y=.int st/\0<st/\SqL K H2 a xs /\
 ∀p ys,H2 p=tp->(∀v∈ys,v∈xs)->ys.9<=xs.9->Q (.ref p) (upd H2 p (.lst ys))
theorem P6 {xs:List V}{us:Za3}(r:A5 xs us):∀is:Za4,A5 (is.filterMap λi=>xs[i]?) (is.filterMap λi=>us[i]?)
 |[]=>.nil
 |i::is=>by
  have ih:=P6 r is;have l:=r.9
  by_cases h:i<us.9
  .obtain⟨u,eu,ru⟩:=r.get (d6 (show i<xs.9 by lia))
   rw[m9,m9,d6 (show i<xs.9 by lia),eu];exact .cons ru ih
  .rw[m9,m9,ir (show us.9<=i by lia),ir (show xs.9<=i by lia)]
   exact ih
section
variable {X:Cx} {e st:jk} {te ts:TE} {pos p2:Pos}
theorem Adi (he:PE X e te)(hst:PE X st ts):PE X (.Subscript e (.Slice tp tp (mn st) p2) pos) (Ae2 X.K te ts):=by
 k_in;refine Subscript_ (thE he I h λv s1 x H1 I1 r1 q1=>?_);refine GF ?_;rw[zp];refine fu ?_;refine fu ?_;rw[evalPart_some];refine thE hst I1 q1 λu s3 y H3 I3 r3 ⟨a,xs,k,ex,ey,hk,hs,q⟩=>?_;subst ex ey;obtain rfl:v=ka a:=r1;obtain⟨t,rfl⟩:=r3;have I4:Inv X pins G H3 { s3 with heap:=s3.heap.push { cls:=.type "slice",data:=.fields #[.none,.none,.int k t] } }:=I3.kept (t':=s3.toks) λb ob q=>fe _ q;obtain⟨its,r,pl,hz⟩:=I4.list hs;have e1:=r.9;show wpAny (model X.prog X.w) X.A (subscriptTail e (.Slice tp tp (mn st) p2) (.ref a) (.ref s3.heap.objs.8)) (EP X pins G Q) X.xe { s3 with heap:=s3.heap.push { cls:=.type "slice",data:=.fields #[.none,.none,.int k t] } };refine GG (ops:=[.ref a,.ref s3.heap.objs.8]) pl.isList.typeIs list_getitem_lookup ?_ (by with_unfolding_all rfl);refine ED pl.isList (AE ..) .none .none (.int k t) (by intro z;have:=fc z;lia) ?_ (by rw[gh];lia);have hp:slicePick its.6 tp tp (mn k)=((sliceRange (sliceBounds tp tp (mn k) its.9).1 (sliceBounds tp tp (mn k) its.9).2.1 (sliceBounds tp tp (mn k) its.9).2.2).filterMap λi=>its[i]?).6:=by
  unfold slicePick;simp
 rw[hp];generalize sliceRange (sliceBounds tp tp (mn k) its.9).1 (sliceBounds tp tp (mn k) its.9).2.1 (sliceBounds tp tp (mn k) its.9).2.2=is at *;have hlen:(is.filterMap λi=>xs[i]?).9<=xs.9:=by
  have:=slicePick_size_le its.6 tp tp (mn k);rw[hp,gh,<-(P6 r is).9,gh] at this;lia
 exact⟨.ref _,_,I4.lnew (t':=s3.toks) (P6 r is) (),rfl,q _ _ (I4.hok.fresh (d8 _)) (λv hv=>by
  obtain⟨i,_,hi⟩:=yj.mp hv;exact gi hi) hlen⟩
theorem Afi {K:d5}{G:St}{Q:VK}(h:te G H λx H1=>ts G H1 λy H2=>∃a xs st,x=.ref a/\y=.int st/\0<st/\SqL K H2 a xs /\
 ∀p ys,H2 p=tp->(∀v∈ys,v∈xs)->ys.9<=xs.9->Q (.ref p) (upd H2 p (.lst ys))):Ae2 K te ts G H Q:=h
end
theorem Zq:entryFor table "zip.__getattribute__"=mn qw.«object.__getattribute__» :=
 entryFor_alias (id':="object.__getattribute__") (by kernel_rfl) (by first|rfl|decide +kernel) (by decide +kernel) (by kernel_rfl)
theorem jQ:typeLookup (.type "zip") "keys"=pure tp:=by rw[xx,vb];kernel_rfl
theorem mF:typeLookup (.type "zip") "__getattr__"=pure tp:=by rw[xx,vb];kernel_rfl
abbrev Afa (vs:Array ft):Obj:={ cls:=.type "zip",dict:=tp,data:=.fields vs,slots:=#[] }
theorem oP (a:ee)(vs:Array ft)(u:Tok):Meets (qw.«object.__getattribute__» {[.ref a,.str "keys" u],[]}) (λA R s=>s.heap.get? a=mn (Afa vs)/\raisesAttr (.ref a) "keys" A R s):=
 HW λprog w A R s hs=>by
  obtain⟨hp,g,d,tk,os⟩:=s;obtain⟨hx,hs⟩:=hs;have hT:(⟨hp,g,d,tk,os⟩:fz).TypeIs (.ref a) "zip":={_,hx,rfl};have f4:=jQ
  repeat (any_goals (first|assumption|with_reducible refine HM hx ?_|wp_step))
  exact GE hs.1 hs.2 (by decide +kernel)
section
variable {prog:gu} {w:i7} {A:jp} {E:Za0} {s:fz}
theorem Ac4 {a:ee}{vs:Array ft}{Q:Za7->fz->Prop}(hx:s.heap.get? a=mn (Afa vs))(hA:A.handled=tp)(q:∀h' tk,(∀b o,s.heap.get? b=mn o->h'.get? b=mn o)->Q tp { s with heap:=h',toks:=tk }) :
  wpAny (model prog w) A (getAttr? (.ref a) "keys") Q E s:=by
 obtain⟨hp,g,d,tk,os⟩:=s;have hT:∀tk',(⟨hp,g,d,tk',os⟩:fz).TypeIs (.ref a) "zip":=λ_=>{_,hx,rfl};have f1:=GW;have f3:=ui.lookup;have f4:=ui.bind (.ref a);have f5:=mF;unfold getAttr? getAttrBy? getAttrBy
 repeat (any_goals (first|assumption|exact hT _|((with_reducible show wpAny _ _ (call (GQ "zip.__getattribute__") _ _) _ _ _);refine qg ui (hT _) Zq (PySem.F.args_zip_getattribute_2 _ _) (oP a vs _) ⟨hx,hA,λh' tk' e hx'=>?_⟩)|wp_step))
 obtain⟨t',u',he⟩:=hx'.there;show wpAny _ _ (getattributeRaised _ _ _ _ _ _ _) _ _ _;unfold getattributeRaised
 repeat (any_goals (first|assumption|wp_step))
 exact q _ _ hx'.keeps
end
abbrev Pr (h:ki)(z TI TO T:ee)(c:Bool):Prop:=h.get? z=mn (Afa #[rawInt T,.bool c,.bool ML,.ref TI,.ref TO])
section
variable {prog:gu} {w:i7} {A:jp} {E:Za0} {s:fz}
theorem yK {a:ee}{Q:Option Obj->fz->Prop}(h:Q (s.heap.get? a) s):wpAny (model prog w) A (loadIfAlive a) Q E s:=λΓ p hΓ=>by
 show Sem.wp _ _ (.loadIfAlive a _) _ _ _ _;rw[Sem.wp_loadIfAlive];exact h
theorem Yi {TI TO T:ee}{c:Bool}{Q:Bool->fz->Prop}(hz:Pr s.5 z TI TO T c)(hT:s.heap.get? T=mn oT)(q:∀h',Pr h' z TI TO T MK->w8 z s.5 h'->Q ML { s with heap:=h' }) :
  wpAny (model prog w) A (nv (.ref z)) Q E s:=by
 unfold nv;refine wpAny_bind (rp hz rfl (x:=rawInt T) rfl ?_);show wpAny _ _ (loadIfAlive (LW (T:Int)) >>= _) _ _ _;refine wpAny_bind (yK ?_);rw[ig,hT];show wpAny _ _ (field (.ref z) 1 >>= _) _ _ _;refine wpAny_bind (rp hz rfl (x:=.bool c) rfl ?_)
 cases c with
 |true=>
  exact fu (q s.5 hz (KD _ _))
 |false=>
  refine wpAny_bind (wpAny_setField_rec hz (by simp) λQT XC QU=>?_);exact fu (q QT XC QU)
theorem uM {TI TO T:ee}{k1 k2:Nat}{xs ys:Array ft}{x y:ft}{c:Bool}{Q:Za0}(D:AJ z TI TO i1 i2 l1 l2)
  (hz:Pr s.5 z TI TO T c)(hT:s.heap.get? T=mn oT)(hTI:wd s.5 TI (.ref i1) (.ref i2))(h1:s.heap.IsListIter i1 l1 k1)(h2:s.heap.IsListIter i2 l2 k2)(hl1:s.heap.IsList l1 xs)(hl2:s.heap.IsList l2 ys)(hx:xs[k1]?=mn x)(hy:ys[k2]?=mn y)
  (hQ:∀h',Pr h' z TI TO T MK->h'.IsListIter i1 l1 (k1+1)->h'.IsListIter i2 l2 (k2+1)->wd h' s.heap.objs.8 x y->h'.objs.8=s.heap.objs.8+1->(∀b o,b≠z->b≠i1->b≠i2->s.heap.get? b=mn o->h'.get? b=mn o)->Q (.ref s.heap.objs.8) { s with heap:=h' }) :
  wpAny (model prog w) A (qw.«zip.__next__» {[.ref z],[]}) (λfin s'=>∃v,fin=.done (.ret v)/\Q v s') E s:=by
 show wpAny _ _ (field (.ref z) 2 >>= _) _ _ _;refine wpAny_bind (rp hz rfl (x:=.bool ML) rfl ?_);show wpAny _ _ (field (.ref z) 3 >>= _) _ _ _;refine wpAny_bind (rp hz rfl (x:=.ref TI) rfl ?_);refine wpAny_bind (om hTI rfl ?_);show wpAny _ _ (nv (.ref z) >>= _) _ _ _;refine wpAny_bind (Yi hz hT λQT XC QU=>?_);rw[if_neg (by decide)];refine wpAny_bind ?_;rw[<-vw];simp only[xi,GT];refine wpAny_bind (wpAny_bind (wpAny_holding ?_));show wpAny _ _ (ub (.ref i1) >>= _) _ _ _;refine wpAny_bind (FF (h1.extBut QU.extBut D.i1z) (hl1.extBut QU.extBut D.l1z) hx λXM XN QY=>fu ?_);refine fu ?_;refine wpAny_bind (wpAny_bind (wpAny_holding ?_));show wpAny _ _ (ub (.ref i2) >>= _) _ _ _;refine wpAny_bind (FF ((h2.extBut QU.extBut D.i2z).extBut QY.extBut D.i12.symm) ((hl2.extBut QU.extBut D.l2z).extBut QY.extBut D.l2i1) hy λXD XO XE=>fu ?_);refine fu (fu ?_);have hsz:XD.objs.8=s.heap.objs.8:=by rw[XE.1,QY.1,QU.1]
 have kp:∀b o,b≠z->b≠i1->b≠i2->s.heap.get? b=mn o->XD.get? b=mn o:=λb o b1 b2 b3 e=>XE.extBut _ _ b3 (QY.extBut _ _ b2 (QU.extBut _ _ b1 e));have XQ:Pr XD z TI TO T MK:=XE.extBut _ _ D.i2z.symm (QY.extBut _ _ D.i1z.symm XC);show wpAny _ _ (newTuple [x,y] >>= _) _ _ _;refine wpAny_bind (DH (fu {_,rfl,?_}));have hp:XD.objs.8=s.heap.objs.8:=hsz;rw[hp];refine hQ _ (fe _ XQ) ((XN.extBut XE.extBut D.i12).at λo e=>fe _ e) (XO.at λo e=>fe _ e) ?_ (by rw[vy,hp]) λb o b1 b2 b3 e=>fe _ (kp b o b1 b2 b3 e);rw[<-hp];exact ik _ rfl
theorem vN {TI TO T:ee}{k1 k2:Nat}{xs ys:Array ft}{x y:ft}{c:Bool}{Q:Za7->fz->Prop}(D:AJ z TI TO i1 i2 l1 l2)
  (hz:Pr s.5 z TI TO T c)(hT:s.heap.get? T=mn oT)(hTI:wd s.5 TI (.ref i1) (.ref i2))(h1:s.heap.IsListIter i1 l1 k1)(h2:s.heap.IsListIter i2 l2 k2)(hl1:s.heap.IsList l1 xs)(hl2:s.heap.IsList l2 ys)(hx:xs[k1]?=mn x)(hy:ys[k2]?=mn y)
  (hQ:∀h',Pr h' z TI TO T MK->h'.IsListIter i1 l1 (k1+1)->h'.IsListIter i2 l2 (k2+1)->wd h' s.heap.objs.8 x y->h'.objs.8=s.heap.objs.8+1->(∀b o,b≠z->b≠i1->b≠i2->s.heap.get? b=mn o->h'.get? b=mn o)->Q (mn (.ref s.heap.objs.8)) { s with heap:=h' }) :
  wpAny (model prog w) A (pyNext (.ref z)) Q E s:=by
 have hTy:s.TypeIs (.ref z) "zip":={_,hz,rfl};unfold pyNext;exact wpAny_bind (zo (uh (name:=ll "__next__") hTy t8
  (vf t8 hTy BR
   (uM D hz hT hTI h1 h2 hl1 hl2 hx hy λh' a1 a2 a3 a4 a5 a6=>fu (hQ h' a1 a2 a3 a4 a5 a6)) (BF _))))
theorem Aa7 {TI TO T:ee}{k1:Nat}{xs:Array ft}{c:Bool}{Q:Za7->fz->Prop}(hh:A.handled=tp)(D:AJ z TI TO i1 i2 l1 l2)
  (hz:Pr s.5 z TI TO T c)(hT:s.heap.get? T=mn oT)(hTI:wd s.5 TI (.ref i1) (.ref i2))(h1:s.heap.IsListIter i1 l1 k1)(hl1:s.heap.IsList l1 xs)(hx:xs[k1]?=tp)
  (hQ:∀h',(∀b o,b≠z->b≠i1->b≠i2->s.heap.get? b=mn o->h'.get? b=mn o)->Q tp { s with heap:=h' }) :
  wpAny (model prog w) A (pyNext (.ref z)) Q E s:=by
 have hTy:s.TypeIs (.ref z) "zip":={_,hz,rfl};unfold pyNext;refine wpAny_bind (zo (uh (name:=ll "__next__") hTy t8
  (vf t8 hTy BR ?_ (BF _))))
 show wpAny _ _ (field (.ref z) 2 >>= _) _ _ _;refine wpAny_bind (rp hz rfl (x:=.bool ML) rfl ?_);show wpAny _ _ (field (.ref z) 3 >>= _) _ _ _;refine wpAny_bind (rp hz rfl (x:=.ref TI) rfl ?_);refine wpAny_bind (om hTI rfl ?_);show wpAny _ _ (nv (.ref z) >>= _) _ _ _;refine wpAny_bind (Yi hz hT λQT XC QU=>?_);rw[if_neg (by decide)];refine wpAny_bind ?_;rw[<-vw];simp only[xi,GT];refine wpAny_bind (wpAny_bind (wpAny_holding ?_));show wpAny _ _ (ub (.ref i1) >>= _) _ _ _;refine wpAny_bind (wpAny_nextOf_list_end hh (h1.extBut QU.extBut D.i1z) (hl1.extBut QU.extBut D.l1z) hx λXM e QY he=>?_);obtain⟨oe,hoe,hce⟩:=he;show wpAny _ _ (isInstance (.ref e) (.type "StopIteration") >>= _) _ _ _;refine wpAny_bind (wpAny_isInstance (T:="StopIteration") (b:=MK) ⟨oe,hoe,hce⟩ isSubtype_stop ?_);exact fu (hQ _ λb o b1 b2 b3 e=>QY _ _ b2 (QU.extBut _ _ b1 e))
end
def Lf (vs:List (Key×ft)):Prop:=∀p∈vs,∃y:V,Bh y p.2
theorem Up:∀vs:List (Key×ft),Lf vs->∃kvs:List (Key×V),KV kvs vs
 |[],_=>{[],.nil}
 |p::r,h=>by
  obtain⟨kvs,hk⟩:=Up r λq hq=>h q (gn _ hq);obtain⟨y,hy⟩:=h p ii;exact{(p.1,y)::kvs,.cons ⟨rfl,hy⟩ hk}
theorem T7:∀{kvs:List (Key×V)} {vs:List (Key×ft)},KV kvs vs->Lf vs
 |_,_,.nil=>λp hp=>by cases hp
 |_,_,.cons h t=>λp hp=>by
  rcases jn.mp hp with rfl|hp
  .exact{_,h.2}
  .exact T7 t p hp
theorem Kq {vs:List (Key×ft)}{k:Key}{u:ft}(h:Lf vs)(hu:∃y:V,Bh y u):Lf (stored vs k u):=by
 intro p hp;unfold stored at hp;split at hp
 .obtain⟨q,hq,e⟩:=jq.mp hp
  split at e
  .rw[<-e];exact hu
  .rw[<-e];exact h q hq
 .rcases jf.mp hp with hp|hp
  .exact h p hp
  .rw[gl.mp hp];exact hu
theorem Zz {vs more:List (Key×ft)}(h:Lf vs)(hm:Lf more):Lf (merged vs more):=by
 unfold merged
 induction more generalizing vs with
 |nil=>exact h
 |cons p r ih=>exact ih (Kq h (hm p ii)) λq hq=>hm q (gn _ hq)
section
variable {prog:gu} {w:i7} {A:jp} {E:Za0} {R:yq->fz->Prop}
theorem Bv:plainId "dict.update.loop"=MK:=by decide +kernel
theorem Ei:entryFor table "dict.update.loop"=mn qw.«dict.update.loop»:=entryFor_of_tree (by kernel_rfl)
theorem Xb {T:ee}{x y:ft}{Q:Za3->fz->Prop}(hT:wd s.5 T x y)(h:Q [x,y] s):wpAny (model prog w) A (rm (.ref T)) Q E s:=by
 have ty:s.TypeIs (.ref T) "tuple":={_,hT,rfl};unfold rm;refine wpAny_bind (uo ty ?_);rw[if_pos (by decide)];exact wpAny_bind (om hT rfl (fu h))
structure DzA (d z TI TO i1 i2 l1 l2:ee):Prop where
 za:AJ z TI TO i1 i2 l1 l2
 dz:d≠z
 dI:d≠TI
 dO:d≠TO
 d1:d≠i1
 d2:d≠i2
 dl:d≠l1
 dm:d≠l2
theorem Afb {d TI TO T:ee}{xs ys:Array ft}(D:DzA d z TI TO i1 i2 l1 l2)(hTz:T≠z)(hT1:T≠i1)(hT2:T≠i2)(hTd:T≠d)(hh:A.handled=tp)(he:xs.8=ys.8)
  (hk:∀(i:Nat) x,xs[i]?=mn x->∃n t,x=nu n t)(hv:∀(i:Nat) y,ys[i]?=mn y->∃v:V,Bh v y):∀(m i:Nat) (s:fz) (tk:Tok) (c:Bool) (vs:List (Key×ft)) (oT:Obj),xs.8-i=m->i<=xs.8->Pr s.5 z TI TO T c->s.heap.get? T=mn oT->wd s.5 TI (.ref i1) (.ref i2) ->
   s.heap.IsListIter i1 l1 i->s.heap.IsListIter i2 l2 i->s.heap.IsList l1 xs->s.heap.IsList l2 ys->s.heap.DictOf (Bu prog w) d vs->Lf vs->vs.9+(xs.8-i)<=sizeLine ->
   (∀h' k vs',h'.DictOf (Bu prog w) d vs'->Lf vs'->vs'.9<=vs.9+(xs.8-i)->(∀b o,b≠z->b≠i1->b≠i2->b≠d->s.heap.get? b=mn o->h'.get? b=mn o)->R (.ok (.ret .none)) { s with heap:=h',toks:=k }) ->
   codeAny (model prog w) A (.builtin "dict.update.loop" {[.ref d,.ref z,.int i tk,.none],[]}) R s:=by
 intro m
 induction m with
 |zero=>
  intro i s tk c vs oT hm hi hz hT hTI h1 h2 hl1 hl2 hd hkn hsz q;refine l5 Ei ?_;rw[j1 Bv _];show wpAny _ A.in1 (pyNext (.ref z) >>= _) _ _ s;refine wpAny_bind (Aa7 (by exact hh) D.za hz hT hTI h1 hl1 (ql ()) λh' kp=>?_);show wpAny _ A.in1 (ve d [] >>= _) _ _ _;refine wpAny_bind (fu (fu ?_));obtain⟨o,es,ep,ho,r⟩:=hd;exact q h' s.toks vs {o,es,ep,kp _ _ D.dz D.d1 D.d2 ho,r} hkn (jz _ _) λb o b1 b2 b3 _ e=>kp b o b1 b2 b3 e
 |succ m ih=>
  intro i s tk c vs oT hm _ hz hT hTI h1 h2 hl1 hl2 hd hkn hsz q;have hi:i<xs.8:=Nat.lt_of_sub_eq_succ hm;have em:xs.8-(i+1)=m:=by rw[Nat.sub_add_eq,hm];rfl
  rw[hm] at hsz q;obtain⟨x,hx⟩:∃x,xs[i]?=mn x:={_,mi hi};obtain⟨y,hy⟩:∃y,ys[i]?=mn y:={_,mi (he▸hi)};obtain⟨n,t,rfl⟩:=hk i x hx;refine l5 Ei ?_;rw[j1 Bv _];show wpAny _ A.in1 (pyNext (.ref z) >>= _) _ _ s;refine wpAny_bind (vN D.za hz hT hTI h1 h2 hl1 hl2 hx hy λh' hz' h1' h2' hp hsz' kp=>?_);have hd':h'.DictOf (Bu prog w) d vs:=by
   obtain⟨o,es,ep,ho,r⟩:=hd;exact{o,es,ep,kp _ _ D.dz D.d1 D.d2 ho,r}
  show wpAny _ A.in1 (holding _ _ >>= _) _ _ _;refine wpAny_bind (wpAny_holding (wpAny_bind (mh (Xb hp ?_))));show wpAny _ A.in1 (holding _ (dictSet d (.int n t) y)) _ _ _;refine wpAny_holding (zc (knd:=Bu prog w) (k:=.inl n) (Ik prog w n t) hd' (λh2 dd' hs=>?_) ());have k2:∀b o,b≠z->b≠i1->b≠i2->b≠d->s.heap.get? b=mn o->h2.get? b=mn o:=λb o b1 b2 b3 b4 e=>(hs.2 b b4).trans (kp b o b1 b2 b3 e);have st:∀b o,b≠d->h'.get? b=mn o->h2.get? b=mn o:=λb o b4 e=>(hs.2 b b4).trans e;have hln:=BM vs (wm n:Key) y;refine fu {mj Bv _,?_};refine ih (i+1) _ _ MK _ oT em hi (st _ _ D.dz.symm hz') (k2 _ _ hTz hT1 hT2 hTd hT) (k2 _ _ D.za.TIz D.za.TIi1 D.za.TIi2 D.dI.symm hTI) (h1'.at λo e=>st _ o D.d1.symm e) (h2'.at λo e=>st _ o D.d2.symm e)
   (hl1.at λo e=>k2 _ o D.za.l1z D.za.l1i1 D.za.l1i2 D.dl.symm e) (hl2.at λo e=>k2 _ o D.za.l2z D.za.l2i1 D.za.l2i2 D.dm.symm e) dd' (Kq hkn (hv i y hy)) (by rw[em];lia) λh3 k vs' hd3 hkn3 hl3 kp3=>?_
  exact q h3 k vs' hd3 hkn3 (by rw[em] at hl3;lia) λb o b1 b2 b3 b4 e=>kp3 b o b1 b2 b3 b4 (k2 b o b1 b2 b3 b4 e)
theorem tV {tk:Tok}{d TI TO:ee}{a b:ft}{xs ys:Array ft}{vs:List (Key×ft)}(D:DzA d z TI TO i1 i2 l1 l2)(hh:A.handled=tp)(he:xs.8=ys.8)
  (hk:∀(i:Nat) x,xs[i]?=mn x->∃n t,x=nu n t)(hv:∀(i:Nat) y,ys[i]?=mn y->∃v:V,Bh v y)(hz:IsZip s.5 z TI TO .none)(hTO:wd s.5 TO a b)(hTI:wd s.5 TI (.ref i1) (.ref i2))
  (h1:s.heap.IsListIter i1 l1 0)(h2:s.heap.IsListIter i2 l2 0)(hl1:s.heap.IsList l1 xs)(hl2:s.heap.IsList l2 ys)(hd:s.heap.DictOf (Bu prog w) d vs)(hkn:Lf vs)(hsz:vs.9+xs.8<=sizeLine)
  (q:∀h' k vs',h'.DictOf (Bu prog w) d vs'->Lf vs'->vs'.9<=vs.9+xs.8->(∀b o,b≠z->b≠TO->b≠i1->b≠i2->b≠d->s.heap.get? b=mn o->h'.get? b=mn o)->R (.ok (.ret .none)) { s with heap:=h',toks:=k }) :
  codeAny (model prog w) A (.builtin "dict.update.loop" {[.ref d,.ref z,.int 0 tk,.none],[]}) R s:=by
 refine l5 Ei ?_;rw[j1 Bv _];show wpAny _ A.in1 (pyNext (.ref z) >>= _) _ _ s;rcases n5 xs.8 with h0|h0
 .refine wpAny_bind (wpAny_pyNext_zip_end (by exact hh) D.za hz hTI hTO h1 h2 hl1 hl2 (.inl (ql ())) λh' kp=>?_)
  show wpAny _ A.in1 (ve d [] >>= _) _ _ _;refine wpAny_bind (fu (fu ?_));obtain⟨o,es,ep,ho,r⟩:=hd;exact q h' s.toks vs {o,es,ep,kp _ _ D.dz D.dO D.d1 D.d2 ho,r} hkn (jz _ _) λb o b1 b2 b3 b4 _ e=>kp b o b1 b2 b3 b4 e
 .obtain⟨x,hx⟩:∃x,xs[0]?=mn x:={_,mi h0}
  obtain⟨y,hy⟩:∃y,ys[0]?=mn y:={_,mi (show 0<ys.8 by lia)};obtain⟨n,t,rfl⟩:=hk 0 x hx;refine wpAny_bind (wpAny_pyNext_zip_item D.za hz hTI hTO h1 h2 hl1 hl2 hx hy λh' hz' _ h1' h2' hp hsz' kp=>?_);have hd':h'.DictOf (Bu prog w) d vs:=by
   obtain⟨o,es,ep,ho,r⟩:=hd;exact{o,es,ep,kp _ _ D.dz D.dO D.d1 D.d2 ho,r}
  have lt:∀{c o},s.heap.get? c=mn o->s.heap.objs.8≠c:=λe=>vp (gd e);have ltd:s.heap.objs.8≠d:=by
   obtain⟨o,es,ep,ho,r⟩:=hd;exact lt ho
  show wpAny _ A.in1 (holding _ _ >>= _) _ _ _;refine wpAny_bind (wpAny_holding (wpAny_bind (mh (Xb hp ?_))));show wpAny _ A.in1 (holding _ (dictSet d (.int n t) y)) _ _ _;refine wpAny_holding (zc (knd:=Bu prog w) (k:=.inl n) (Ik prog w n t) hd' (λhb dd' hs=>?_) ());have k2:∀b o,b≠z->b≠TO->b≠i1->b≠i2->b≠d->s.heap.get? b=mn o->hb.get? b=mn o:=λb o b1 b2 b3 b5 b4 e=>(hs.2 b b4).trans (kp b o b1 b2 b3 b5 e);have st:∀b o,b≠d->h'.get? b=mn o->hb.get? b=mn o:=λb o b4 e=>(hs.2 b b4).trans e;have hln:=BM vs (wm n:Key) y;refine fu {mj Bv _,?_};refine Afb D (T:=s.heap.objs.8) (lt hz) (by obtain⟨_,e,_⟩:=h1;exact lt e) (by obtain⟨_,e,_⟩:=h2;exact lt e) ltd hh he hk hv _ 1 _ _ ML _ _ rfl h0 (st _ _ D.dz.symm hz') (st _ _ ltd hp) (k2 _ _ D.za.TIz D.za.TITO D.za.TIi1 D.za.TIi2 D.dI.symm hTI) (h1'.at λo e=>st _ o D.d1.symm e) (h2'.at λo e=>st _ o D.d2.symm e)
   (hl1.at λo e=>k2 _ o D.za.l1z D.za.l1TO D.za.l1i1 D.za.l1i2 D.dl.symm e) (hl2.at λo e=>k2 _ o D.za.l2z D.za.l2TO D.za.l2i1 D.za.l2i2 D.dm.symm e) dd' (Kq hkn (hv 0 y hy)) (by have e1:=vz h0;generalize xs.8-1=m at e1 ⊢;lia) λh3 k vs' hd3 hkn3 hl3 kp3=>?_
  exact q h3 k vs' hd3 hkn3 (by have e1:=vz h0;generalize xs.8-1=m at e1 hl3;lia) λb o b1 b2 b3 b5 b4 e=>kp3 b o b1 b3 b5 b4 (k2 b o b1 b2 b3 b5 b4 e)
theorem Xj {TI TO:ee}{a b:ft}{xs ys:Array ft}{Q:Za0}(D:AJ z TI TO i1 i2 l1 l2)(hh:A.handled=tp)(he:xs.8=ys.8)
  (hk:∀(i:Nat) x,xs[i]?=mn x->∃n t,x=nu n t)(hv:∀(i:Nat) y,ys[i]?=mn y->∃v:V,Bh v y)(hz:IsZip s.5 z TI TO .none)(hTO:wd s.5 TO a b)(hTI:wd s.5 TI (.ref i1) (.ref i2))
  (h1:s.heap.IsListIter i1 l1 0)(h2:s.heap.IsListIter i2 l2 0)(hl1:s.heap.IsList l1 xs)(hl2:s.heap.IsList l2 ys)(hsz:xs.8<=sizeLine)
  (q:∀h' k vs',h'.DictOf (Bu prog w) s.heap.objs.8 vs'->Lf vs'->vs'.9<=xs.8->(∀b o,b≠z->b≠TO->b≠i1->b≠i2->s.heap.get? b=mn o->h'.get? b=mn o)->Q (.ref s.heap.objs.8) { s with heap:=h',toks:=k }) :
  wpAny (model prog w) A (call (.type "dict") [.ref z]) Q E s:=by
 refine KL (Q₁:=λobj QM=>obj=.ref s.heap.objs.8/\QM={ s with heap:=s.heap.push { cls:=.type "dict",data:=.dict #[] } }) BQ (z8 _) BE (IC _ ⟨rfl,rfl⟩) ?_;rintro obj QM ⟨rfl,rfl⟩;have hnew:(s.heap.push { cls:=.type "dict",data:=.dict #[] }).DictOf (Bu prog w) s.heap.objs.8 []:=yf s.5;have up:∀b o,s.heap.get? b=mn o->(s.heap.push { cls:=.type "dict",data:=.dict #[] }).get? b=mn o:=λb o e=>fe _ e;have lt:∀{c o},s.heap.get? c=mn o->s.heap.objs.8≠c:=λe=>vp (gd e);refine{hnew.typeIs,AR _ _,?_};unfold qw.«dict.__init__»;refine wpAny_bind ?_;unfold zb;refine wpAny_bind (FR hnew.typeIs ?_);show wpAny _ _ (pure (s.heap.objs.8,[ka z])) _ _ _;refine fu ?_;show wpAny _ _ (rc "dict.__init__" s.heap.objs.8 (.ref z) [] .none) _ _ _;unfold rc;have hz':=up _ _ hz;refine wpAny_bind (uo (T:="zip") {_,hz',rfl} ?_);rw[if_pos (by decide)];refine wpAny_bind (Ac4 hz' (by exact hh) λh' tk kp=>?_);rw[if_pos (by rfl)];refine wpAny_bind (qf (wpAny_bind (BL (kp _ _ hz') ?_)));have up2:∀b o,s.heap.get? b=mn o->h'.get? b=mn o:=λb o e=>kp _ _ (up b o e);have hd':h'.DictOf (Bu prog w) s.heap.objs.8 []:=by
  obtain⟨o,es,ep,ho,r⟩:=hnew;exact{o,es,ep,kp _ _ ho,r}
 refine fu {mj Bv _,?_};refine tV (a:=a) (b:=b) (vs:=[]) {D,lt hz,lt hTI,lt hTO,?_,?_,?_,?_} (by exact hh) he hk hv (up2 _ _ hz) (up2 _ _ hTO) (up2 _ _ hTI) (h1.at λo e=>up2 _ o e) (h2.at λo e=>up2 _ o e) (hl1.at λo e=>up2 _ o e) (hl2.at λo e=>up2 _ o e) hd' (λp hp=>by cases hp) (by simpa using hsz) λh3 k vs' hd3 hkn3 hl3 kp3=>?_
 .obtain⟨_,e,_⟩:=h1;exact lt e
 .obtain⟨_,e,_⟩:=h2;exact lt e
 .obtain⟨_,e,_⟩:=hl1;exact lt e
 .obtain⟨_,e,_⟩:=hl2;exact lt e
 .exact{rfl,q h3 k vs' hd3 hkn3 (by simpa using hl3) λb o b1 b2 b3 b4 e=>kp3 b o b1 b2 b3 b4 (lt e).symm (up2 _ _ e)}
end
theorem J1:∀{kvs:List (Key×V)} {vs:List (Key×ft)},KV kvs vs->kvs.9=vs.9
 |_,_,.nil=>rfl
 |_,_,.cons _ t=>congrArg (·+1) (J1 t)
section
variable {X:Cx}
def Ad9 (K:d5)(ta:TA):TE:=λG H Q=>ta G H λvs H1=>∃a b ns ys,vs=[.ref a,.ref b]/\SqL K H1 a (BH V.int ns)/\SqL K H1 b ys/\ns.9=ys.9/\∀p kvs,H1 p=tp->kvs.9<=ns.9->Q (.ref p) (upd H1 p (.dK kvs))
theorem Abo {a b:jk}{ta:TA}{p q pos2:Pos}(hcal:X.calm=MK)(hg:Gl X "dict")(hm:X.mg "dict"=tp)(hg2:Gl X "zip")(hm2:X.mg "zip"=tp)(ha:PA X [a,b] ta)
  (hs:autoParam (starEach [a,b] X.env=[(ML,eval a X.env),(ML,eval b X.env)]) QD)(hs2:autoParam (starEach [b] X.env=[(ML,eval b X.env)]) QD)
  (hs3:autoParam (starEach [CY (.Name "zip" q) [a,b] [] pos2] X.env=[(ML,eval (.Call (.Name "zip" q) [a,b] [] pos2) X.env)]) QD) :
  PE X (.Call (.Name "dict" p) [.Call (.Name "zip" q) [a,b] [] pos2] [] pos) (Ad9 X.K ta):=by
 k_in;refine wpAny_Call_Name_kw (Ee I hg hm wF (i8 ?_ hs3 rfl) (by decide) (by decide));rw[hs3];refine o9 ?_;show wpAny _ _ (eval (CY (.Name "zip" q) [a,b] [] pos2) X.env) _ _ _;refine wpAny_Call_Name_kw (Ee I hg2 hm2 Aef (i8 (thA ha I h λus s1 vs H1 I1 r1 q1=>?_) (by rw[hs,hs2]) (by rw[hs2];rfl)) (by decide) (by decide));obtain⟨a,b,ns,ys,e,hx,hy,hl,q⟩:=q1;subst e;obtain⟨u,v,rfl,ru,rv⟩:=Vp r1;cases ru;cases rv;obtain⟨its,rv,p,hz⟩:=I1.list hx;obtain⟨its2,rv2,p2,hz2⟩:=I1.list hy;have l1:=rv.9;have l2:=rv2.9;rw[d4] at l1;refine call_zip_2 p.isList p2.isList λh' g1 g2 g3 g4 g5 hsz kk=>?_;refine tm ?_;have A1:h'.IsList a its.6:=p.isList.at λo e=>kk _ o e;have A2:h'.IsList b its2.6:=p2.isList.at λo e=>kk _ o e;have D:=mM (W7 _) ({g1,g2,{_,_,g3},g4,g5}:StZ _ _ _ _ _ a b 0 h') A1 A2;refine Xj (s:={ s1 with heap:=h' }) D (I1.ok.hd hcal) (by simp;lia) (λi x e=>?_) (λi y e=>?_) g1 g3 g2 g4 g5 A1 A2 (by simp;rw[d4] at hz;lia) λh2 k vs' d2 kn lv kp=>?_
 .have e':its[i]?=mn x:=by simpa using e
  have li:=(fq.mp e').1;have hn:(BH V.int ns)[i]?=mn (.int (ns[i]'())):=by rw[fj,d6 ()];rfl
  obtain⟨u,hu,t,rfl⟩:=rv.get hn;rw[e'] at hu;cases hu;exact{_,_,rfl}
 .have e':its2[i]?=mn y:=by simpa using e
  have li:=(fq.mp e').1;obtain⟨u,hu,rr⟩:=rv2.get (d6 (show i<ys.9 by lia));rw[e'] at hu;cases hu;exact{_,rr}
 .obtain⟨kvs,hk⟩:=Up vs' kn
  have lk:=J1 hk;have hle:s1.heap.objs.8<=h'.objs.8:=()
  have lns:kvs.9<=ns.9:=by simp at lv;lia
  refine{.ref h'.objs.8,_,I1.laid (a:=h'.objs.8) (o:=.dK kvs) (t':=k) (λb o e=>?_) hle {?_,?_,vs',hk,d2},rfl,q _ kvs (I1.hok.fresh hle) lns}
  .have lt:=gd e
   have ne:∀c,s1.heap.objs.8<=c->b≠c:=λc hc z=>o7 _ (gq lt (z▸hc));exact kp b o (ne _ (jz _ _)) (ne _ (jz _ _)) (ne _ (d8 _)) (ne _ (jz _ _)) (kk _ _ e)
  .rw[d4] at hz;lia
  .exact beq_eq_false_iff_ne.mpr (qz (ip (gq (eR I1) hle)))
theorem Af1 {G:St}{Q:VK}{ta:TA}{K:d5}(h:ta G H λvs H1=>∃a b ns ys,vs=[.ref a,.ref b]/\SqL K H1 a (BH V.int ns)/\SqL K H1 b ys/\ns.9=ys.9/\∀p kvs,H1 p=tp->kvs.9<=ns.9->Q (.ref p) (upd H1 p (.dK kvs))):Ad9 K ta G H Q:=h
def qZ:V->List V->Hp->VK->Prop:=λx vs H Q=>∃a b kvs kvs2,x=.ref a/\vs=[.ref b]/\a≠b/\H a=mn (.dK kvs)/\H b=mn (.dK kvs2)/\kvs.9+kvs2.9<=sizeLine/\∀kvs',kvs'.9<=kvs.9+kvs2.9->Q .non (upd H a (.dK kvs'))
theorem tP:MtM X "dict.update" qZ:=by
 intro pins s G H x vs v us Q I rx rv h;obtain⟨a,b,kvs,kvs2,rfl,rfl,hne,hA,hB,hz,q⟩:=h;cases rx;obtain⟨u,rfl,ru⟩:=E4 rv;cases ru;obtain⟨z1,m1,v1,k1,d1⟩:=(show De X.prog X.w H s.5 a (.dK kvs) from I.hok a _ hA);obtain⟨z2,m2,v2,k2,d2⟩:=(show De X.prog X.w H s.5 b (.dK kvs2) from I.hok b _ hB);have e1:=J1 k1;have e2:=J1 k2;refine call_meetsIn AQ d1.typeIs PySem.F.entry_dict_update (PySem.F.args_dict_update_2 _ _) (meets_dict_update (Bu X.prog X.w) a b hne m2)
  {v1,v2,d1,d2,(),λh' dd _ hs=>?_}
 have lm:=merged_length_le v1 v2;obtain⟨kvs',hk⟩:=Up (merged v1 v2) (Zz (T7 k1) (T7 k2));have lk:=J1 hk;refine{.non,_,I.write (x:=a) (e:=a) (o:=.dK kvs') (t':=s.toks) (by rw[hA];trivial) (.inl rfl) (λb u hb e=>(hs.2 b hb).trans e) ?_ {(),m1,_,hk,dd},rfl,q kvs' ()};obtain⟨o,es,ep,ho,r⟩:=dd;exact⟨o,ho⟩
end
theorem Ur:∀{xs:List V} {us:Za3},xs.9=us.9->(∀(i:Nat) x u,xs[i]?=mn x->us[i]?=mn u->Bh x u)->A5 xs us
 |[],[],_,_=>.nil
 |x::xs,u::us,hl,h=>.cons (h 0 x u rfl rfl) (Ur (xz hl) λi y v e1 e2=>h (i+1) y v e1 e2)
structure jJ (K:d5) (x qual:Str) (st:jr) (f:ee) (fd:ky):Prop where
 ex:∃(oc:ft) (od:Option ee) (T:ee) (kV doc pm:ft) (an:Option ee) (cdv ct:ft) (osl:Array (Za7)) (o:Obj) (v:ft) (n:Nat),
  fd=j2 x qual (B3 st) (Br st) (Ad st) (.ref T) kV doc pm an cdv ct/\K.lookup f=mn {oc,od,.func fd,osl}/\ml K cdv qual=MK/\K.lookup T=mn o/\o.data=.seq #[v] n
section
variable {P:gu} {w:i7} {K:d5} {mg:Za2} {base:ki}
theorem jJ.okE {x:Str}{st:jr}{f:ee}{k:Nat}(F:jJ K x qual st f fd)(S:Aj N ps (Ad st))(len:∀vs H Q E,sp vs H Q E->vs.9=ps.9)
  (hbody:∀(cdv:ft) (A:jp) (outer:List Env) (s:fz) (H:Hp) (vs:List V) (Q:VK) (E:XK),Cz k (A.deeper (envOfC qual (Ad st) s.heap.objs.8 f cdv))->sp vs H Q E ->
   ∃t,PSs (gL (CXE P w) P w K mg base N qual (Ad st) f cdv A outer s H E) (Br st) t/\t { nx:=λ_ H'=>Q .non H',rt:=Q } (Np N vs) H):Av P w K mg base (CXE P w) (k+1) f fd ps sp:=by
 obtain⟨oc,od,T,kV,doc,pm,an,cdv,ct,osl,o,v,n,rfl,lk,hcd,_⟩:=F.ex;exact wD lk hcd S len λA outer s H vs Q E hr hsp=>hbody cdv A outer s H vs Q E hr hsp
theorem jJ.binds {x:Str}{st:jr}{f:ee}(F:jJ K x qual st f fd)
  (h:∀(T:ee) (kV doc pm:ft) (an:Option ee) (cdv ct:ft) (us:Za3),us.9=ps.9->∃k,bindArgs (j2 x qual (B3 st) (Br st) (Ad st) (.ref T) kV doc pm an cdv ct) {us,[]}=seqItems? (.ref T) >>= k/\∀v,k (mn #[v])=pure (ps.zip us)):Fu K fd ps []:=by
 obtain⟨oc,od,T,kV,doc,pm,an,cdv,ct,osl,o,v,n,rfl,lk,hcd,hT,hd⟩:=F.ex;intro s us KX hl;rw[gp] at hl ⊢;obtain⟨k,h1,h2⟩:=h T kV doc pm an cdv ct us hl;exact DE rfl (KX _ _ hT) hd h1 (h2 v)
theorem Ac2 {x:Str}{st:jr}{f T:ee}{osl:Array (Za7)}{kV v:ft}{o:Obj}(l:K.lookup f=mn {oc,od,.func (j2 x qual (B3 st) (Br st) (Ad st) (.ref T) kV doc pm an cdv ct),osl})
  (c:ml K cdv qual=MK)(hT:K.lookup T=mn o)(hd:o.data=.seq #[v] n):jJ K x qual st f (j2 x qual (B3 st) (Br st) (Ad st) (.ref T) kV doc pm an cdv ct):={⟨oc,od,T,kV,doc,pm,an,cdv,ct,osl,o,v,n,rfl,l,c,hT,hd⟩}
end
section
variable {G:St} {H:Hp}
theorem Ae5 {ti:TE}{t:lI}{v:V}{R:St->Hp->Prop}(h:to G H λo H1=>ti G H1 λi H2=>t o i v H2 λH3=>R G H3):Air to ti t v G H R:=h
theorem Adg {j:Nat}(h:j<n):ixN n (j:Int)=mn j:=by
 unfold ixN;rw[if_pos (),if_pos ()];simp
theorem Vw {p:ee}{j:Nat}{i:Int}{v:V}{R:Hp->Prop}(h:H p=mn (.lst xs))(hi:i=j)(hj:j<xs.9)(q:R (upd H p (.lst (xs.set j v)))):Aem (.ref p) (.int i) v H R:=
 {p,xs,i,j,rfl,rfl,h,by rw[hi];exact Adg hj,q}
theorem xU {a b:ee}{kvs kvs2:List (Key×V)}{Q:VK}(hn:a≠b)(h1:H a=mn (.dK kvs))(h2:H b=mn (.dK kvs2))(hz:kvs.9+kvs2.9<=sizeLine)(q:∀kvs',kvs'.9<=kvs.9+kvs2.9->Q .non (upd H a (.dK kvs'))):qZ (.ref a) [.ref b] H Q:=
 ⟨a,b,kvs,kvs2,rfl,rfl,hn,h1,h2,hz,q⟩
end
section
variable {κ:Type} [DecidableEq κ]
def Hq (kvs:List (κ×V))(k:κ):Option V:=(kvs.find? λkv=>decide (kv.1=k)).map (·.2)
def Lm (kvs:List (κ×V))(k:κ)(v:V):List (κ×V):=
 if(kvs.any λkv=>decide (kv.1=k))=MK then kvs.map (λkv=>if kv.1=k then(kv.1,v) else kv) else kvs++[(k,v)]
theorem E9 {p:κ×V}{r:List (κ×V)}{k:κ}(e:p.1=k):Hq (p::r) k=mn p.2:=by simp[Hq,xj,e]
theorem Fc {p:κ×V}{r:List (κ×V)}{k:κ}(e:¬ p.1=k):Hq (p::r) k=Hq r k:=by simp[Hq,xj,e]
theorem W6 (k:κ):∀kvs:List (κ×V),(kvs.any λkv=>decide (kv.1=k))=(Hq kvs k).isSome
 |[]=>rfl
 |p::r=>by
  rw[CM]
  by_cases e:p.1=k
  .simp only[E9 e,decide_eq_true e,IA,Option.isSome_some]
  .rw[Fc e,decide_eq_false e,HI];exact W6 k r
theorem iZ (k j:κ)(y:V):∀kvs:List (κ×V),Hq (kvs.map λkv=>if kv.1=k then(kv.1,y) else kv) j=(Hq kvs j).map λx=>if j=k then y else x
 |[]=>rfl
 |p::r=>by
  have ih:=iZ k j y r;rw[gt]
  by_cases h:p.1=k
  .rw[if_pos h]
   by_cases e:p.1=j
   .rw[E9 (p:=(p.1,y)) e,E9 e,rz,if_pos (e.symm.trans h)]
   .rw[Fc (p:=(p.1,y)) e,Fc e,ih]
  .rw[if_neg h]
   by_cases e:p.1=j
   .rw[E9 (p:=p) e,E9 e,rz,if_neg (λz=>h (e.trans z))]
   .rw[Fc (p:=p) e,Fc e,ih]
theorem Y0 (k j:κ)(y:V):∀kvs:List (κ×V),Hq kvs k=tp->Hq (kvs++[(k,y)]) j=if j=k then mn y else Hq kvs j
 |[],_=>by
  by_cases e:k=j
  .rw[if_pos e.symm];exact E9 (p:=(k,y)) e
  .rw[if_neg (λz=>e z.symm)];exact Fc (p:=(k,y)) e
 |p::r,hn=>by
  rw[k8];have hk:¬ p.1=k:=λz=>by rw[E9 z] at hn;cases hn
  rw[Fc hk] at hn;have ih:=Y0 k j y r hn
  by_cases e:p.1=j
  .rw[E9 e,E9 e,if_neg (λz=>hk (e.trans z))]
  .rw[Fc e,Fc e,ih]
theorem zX (kvs:List (κ×V))(k j:κ)(y:V):Hq (Lm kvs k y) j=if j=k then mn y else Hq kvs j:=by
 unfold Lm
 by_cases a:(kvs.any λkv=>decide (kv.1=k))=MK
 .rw[if_pos a,iZ]
  rw[W6] at a
  by_cases e:j=k
  .obtain⟨x,hx⟩:=mq.mp a
   rw[if_pos e,e,hx,rz,if_pos rfl]
  .rw[if_neg e]
   cases Hq kvs j with
   |none=>rfl
   |some x=>rw[rz,if_neg e]
 .rw[if_neg a]
  refine Y0 k j y kvs ?_;rw[W6] at a
  cases q:Hq kvs k with
  |none=>rfl
  |some x=>rw[q] at a;exact(a rfl).elim
theorem L6 (kvs:List (κ×V))(k:κ)(v:V):(Lm kvs k v).9<=kvs.9+1:=by
 unfold Lm;split
 .rw[d4];lia
 .rw[d7,f8,jg];lia
theorem Op.isSome_eq {o:Option V}{u:Za7}(r:Op o u):o.isSome=u.isSome:=by
 cases o with
 |none=>cases u with
  |none=>rfl
  |some _=>exact(show False from r).elim
 |some _=>cases u with
  |none=>exact(show False from r).elim
  |some _=>rfl
theorem KV.val {kvs:List (κ×V)}{vs:List (κ×ft)}(r:KV kvs vs)(k:κ):Op (Hq kvs k) (valueAt vs k):=by
 unfold KV at r
 induction r with
 |nil=>exact si
 | @cons p q ps qs h t ih=>
  obtain⟨h1,h2⟩:=h
  by_cases e:p.1=k
  .have e':q.1=k:=h1.symm.trans e
   have b:valueAt (q::qs) k=mn q.2:=by simp[valueAt,xj,e']
   rw[E9 e,b];exact h2
  .have e':¬ q.1=k:=λz=>e (h1.trans z)
   have b:valueAt (q::qs) k=valueAt qs k:=by simp[valueAt,xj,e']
   rw[Fc e,b];exact ih
theorem KV.any {kvs:List (κ×V)}{vs:List (κ×ft)}(r:KV kvs vs)(k:κ):(kvs.any λkv=>decide (kv.1=k))=vs.any λkv=>decide (kv.1=k):=by
 unfold KV at r
 induction r with
 |nil=>rfl
 |cons h t ih=>rw[CM,CM,ih,h.1]
theorem KV.repl {kvs:List (κ×V)}{vs:List (κ×ft)}(r:KV kvs vs)(k:κ){u:ft}(ry:Bh y u) :
  KV (kvs.map λkv=>if kv.1=k then(kv.1,y) else kv) (vs.map λkv=>if kv.1=k then(kv.1,u) else kv):=by
 unfold KV at r ⊢
 induction r with
 |nil=>exact .nil
 | @cons p q ps qs h t ih=>
  rw[gt,gt];refine .cons ?_ ih;obtain⟨h1,h2⟩:=h
  by_cases e:p.1=k
  .rw[if_pos e,if_pos (h1.symm.trans e)];exact⟨h1,ry⟩
  .rw[if_neg e,if_neg (λz=>e (h1.trans z))];exact⟨h1,h2⟩
theorem KV.put {kvs:List (κ×V)}{vs:List (κ×ft)}(r:KV kvs vs)(k:κ){u:ft}(ry:Bh y u):KV (Lm kvs k y) (stored vs k u):=by
 unfold Lm stored;rw[r.any k]
 by_cases e:(vs.any λkv=>decide (kv.1=k))=MK
 .rw[if_pos e,if_pos e];exact r.repl k ry
 .rw[if_neg e,if_neg e];exact Paired.snoc r ⟨rfl,ry⟩
theorem KV.length {kvs:List (κ×V)}{vs:List (κ×ft)}(r:KV kvs vs):kvs.9=vs.9:=GK r
end
theorem wN {P:gu}{k:Key}{u:ft}(r:Bh (kV k) u):(Bu P w).is k u=MK:=by
 cases k with
 |inl i=>obtain⟨t,e⟩:=(show ∃t,u=nu i t from r);subst e;exact Ik P w i t
 |inr x=>obtain⟨t,e⟩:=(show ∃t,u=xq x t from r);subst e;exact lM P w x t
section
variable {P:gu} {w:i7} {H:Hp} {h:ki} {a:ee}
theorem Ajb {u:HO}(ok:HOk P w H h)(e:Rd H a u):De P w H h a u:=e.ok ok
theorem Ah3 {kvs:List (Key×V)}(ok:HOk P w H h)(e:Rd H a (.dK kvs)):kvs.9<=sizeLine/\(a==sysModules)=ML/\∃vs,KV kvs vs/\h.DictOf (Bu P w) a vs:=
 show De P w H h a (.dK kvs) from Ajb ok e
theorem lV {kvs:List (Key×V)}(ok:HOk P w H h)(e:H a=mn (.dK kvs)):kvs.9<=sizeLine/\(a==sysModules)=ML/\∃vs,KV kvs vs/\h.DictOf (Bu P w) a vs:=Ah3 ok (.inl e)
end
section
variable {X:Cx} {pins:Za1} {G:St} {H:Hp} {s:fz} {a:ee} {y v:V} {u r:ft} {o:Option V} {A:jp} {E:Za0}
theorem Acq {ob:HO}(I:Inv X pins G H s)(mu:Mut (H a))(hs:w8 a s.5 h')(he:∃q,h'.get? a=mn q)(new:De X.prog X.w (upd H a ob) h' a ob) :
  Inv X pins G (upd H a ob) { s with heap:=h',toks:=t' }:=
 I.write (x:=a) (e:=a) mu (.inl rfl) (λb q hb z=>(hs.2 b hb).trans z) he new
theorem Af0 {P:gu}{kvs:List (Key×V)}{vs:List (Key×ft)}(z:kvs.9<=sizeLine)(hd:(a==sysModules)=ML)(rel:KV kvs vs)(dd:h'.DictOf (Bu P w) a vs) :
  De P w H' h' a (.dK kvs):=⟨z,hd,vs,rel,dd⟩
end
end _L
end
section
namespace _L
open PySem PySem.Spec PyProof.Rows
def iO (vs:List (Key×ft)):List Int->Za3->List (Key×ft)
 |k::ks,u::us=>iO (stored vs (.inl k) u) ks us
 |_,_=>vs
theorem xD {vs:List (Key×ft)}:∀(ks:List Int),iO vs ks []=vs
 |[]=>rfl
 |_::_=>rfl
theorem Adb {vs:List (Key×ft)}{ks:List Int}{i:Nat}{n:Int}{u:ft}(h1:ks[i]?=mn n)(h2:us[i]?=mn u):iO vs (ks.drop i) (us.drop i)=iO (stored vs (.inl n) u) (ks.drop (i+1)) (us.drop (i+1)):=by
 obtain⟨l1,e1⟩:=fq.mp h1;obtain⟨l2,e2⟩:=fq.mp h2;rw[lh l1,lh l2,e1,e2];rfl
def eX (kvs:List (Key×V)):List Int->List V->List (Key×V)
 |k::ks,y::ys=>eX (Lm kvs (.inl k) y) ks ys
 |_,_=>kvs
theorem wA:∀{ks:List Int} {ys:List V} {us:Za3} {kvs:List (Key×V)} {vs:List (Key×ft)},KV kvs vs->A5 ys us->KV (eX kvs ks ys) (iO vs ks us)
 |[],_,_,_,_,h,_=>h
 |_::_,_,_,_,_,h,.nil=>h
 |k::ks,y::ys,u::us,kvs,vs,h,.cons r t=>by
  show KV (eX (Lm kvs (.inl k) y) ks ys) (iO (stored vs (.inl k) u) ks us);exact wA (h.put (.inl k) r) t
section
variable {X:Cx}
def Ahh:R2:=λx y H Q=>∃d kvs k,x=.int k/\y=.ref d/\H d=mn (.dK kvs)/\Q (.bl (Hq kvs (.inl k)).isSome) H
theorem Aa6:OpR X (compareOp .In) Ahh:=by
 intro pins s G H x y v u Q I rx ry h;obtain⟨d,kvs,k,rfl,rfl,hd,q⟩:=h;cases ry;obtain⟨z,hs,vs,rel,dd⟩:=lV I.hok hd;refine wpAny_in_of (wN (k:=.inl k) rx) hs dd.mapOf ?_;refine{.bl _,H,I.tok _,?_,q};rw[(rel.val (.inl k)).isSome_eq];rfl
theorem Aeg {Q:VK}{d:ee}{kvs:List (Key×V)}{k:Int}(hd:H d=mn (.dK kvs))(q:Q (.bl (Hq kvs (.inl k)).isSome) H):Ahh (.int k) (.ref d) H Q:=⟨d,kvs,k,rfl,rfl,hd,q⟩
def Ai5:R2:=λx y H Q=>∃d kvs k v,x=.ref d/\y=.int k/\H d=mn (.dK kvs)/\Hq kvs (.inl k)=mn v/\Q v H
theorem sF:IxR X Ai5:=by
 intro value Oe pins s G H x y v u Q I rx ry h hs;obtain⟨d,kvs,k,z,rfl,rfl,hd,hv,q⟩:=h;cases rx;obtain⟨_,_,vs,rel,dd⟩:=lV I.hok hd;obtain⟨w',hw,rw'⟩:=Op.some_of (v:=z) (o:=valueAt vs (.inl k)) (by rw[<-hv];exact rel.val (.inl k));exact GG dd.typeIs PySem.F.slot_dict_getitem.lookup (wpAny_getItem_of (wN (k:=.inl k) ry) dd.mapOf hw {z,H,I.tok _,rw',q}) hs
theorem Ae3 {Q:VK}{d:ee}{kvs:List (Key×V)}{k:Int}{v:V}(hd:H d=mn (.dK kvs))(hv:Hq kvs (.inl k)=mn v)(q:Q v H):Ai5 (.ref d) (.int k) H Q:=⟨d,kvs,k,v,rfl,rfl,hd,hv,q⟩
def Aed:lI:=λo i v H Q=>∃d kvs k,o=.ref d/\i=.int k/\H d=mn (.dK kvs)/\kvs.9<sizeLine/\Q (upd H d (.dK (Lm kvs (.inl k) v)))
theorem xP:Acl X Aed:=by
 intro pins s G H o i v ov iv u Q I ro ri rv h;obtain⟨d,kvs,k,rfl,rfl,hd,hl,q⟩:=h;cases ro;obtain⟨z,hm,vs,rel,dd⟩:=lV I.hok hd;have hz:vs.9<=sizeLine:=by rw[<-rel.9];exact z
 have hl:(Lm kvs (.inl k) v).9<=sizeLine:=by have:=L6 kvs (.inl k:Key) v;lia
 refine wpAny_setItem_pairs (hsz:=hz) (wN (k:=.inl k) ri) dd λh' dd' hs=>{_,?_,q};have he:∃q,h'.get? d=mn q:=let ⟨q,_,_,hq,_⟩:=dd';⟨q,hq⟩;exact Acq I (by rw[hd];exact si) hs he (Af0 hl hm (rel.put (.inl k) rv) dd')
theorem Afz {d:ee}{kvs:List (Key×V)}{k:Int}{v:V}{R:Hp->Prop}(hd:H d=mn (.dK kvs))(hl:kvs.9<sizeLine)(q:R (upd H d (.dK (Lm kvs (.inl k) v)))):Aed (.ref d) (.int k) v H R:=⟨d,kvs,k,rfl,rfl,hd,hl,q⟩
end
structure Aat (P:gu) (w:i7) (K:d5) (mg:Za2) (base:ki) (name:Str) (C:ee) (k:Nat) (ps:Za6) (sp:Sp) (dvs:List V):Prop where
 ex:∃(f:ee) (fd:ky) (ds:Za3),Av P w K mg base (CXE P w) k f fd ps sp/\Fu K fd ps ds/\A5 dvs ds/\Mk K C f/\mg name=mn (.ref C)
section
variable {X:Cx} {k:Nat} {C:ee} {ps:Za6} {sp:Sp} {dvs:List V} {name m:Str} {p pos apos:Pos} {e o:jk} {es:List jk} {ta:TE} {t:TA} {E:XK}
theorem Abt (M:Aat X.prog X.w X.K X.mg X.base name C k ps sp dvs)(hr:Cz (k+1) X.A)(hx:K8 (CXE X.prog X.w) X E)(ha:PA X (e::es) t)(hg:autoParam (Gl X name) QD)(hdb:autoParam ((name==("__debug__":Str))=ML) QF)
  (he:autoParam (starEach (e::es) X.env=(ML,eval e X.env)::starEach es X.env) QD)(hpl:autoParam ((backTo pos (starEach es X.env)).any (·.1)=ML) QD):PE X (.Call (.Name name p) (e::es) [] pos) (qD C sp dvs E t):=by
 obtain⟨f,fd,ds,F,b,rd,M,hm⟩:=M.ex;exact rO M F hr hg hm b rd hx ha hdb he hpl
end
theorem jJ.bindsD {K:d5}{x:Str}{st:jr}{T:ee}{kV v:ft}{o:Obj}{m:Nat}(hT:K.lookup T=mn o)(hd:o.data=.seq #[v] n)(hm:ps.9=m+1)
  (h:∀(us:Za3),us.9=m->∃k,bindArgs (j2 x qual (B3 st) (Br st) (Ad st) (.ref T) kV doc pm an cdv ct) {us,[]}=seqItems? (.ref T) >>= k/\k (mn #[v])=pure (ps.zip (us++[v]))):Fu K (j2 x qual (B3 st) (Br st) (Ad st) (.ref T) kV doc pm an cdv ct) ps [v]:=by
 intro s us KX hl;obtain⟨k,h1,h2⟩:=h us (by rw[d7,hm] at hl;exact xz hl);exact DE rfl (KX _ _ hT) hd h1 h2
end _L
end
section
namespace _W
section
variable {α:Type} (lt:α->α->Bool)
def mg:List α->List α->List α
 |[],ys=>ys
 |x::xs,[]=>x::xs
 |x::xs,y::ys=>if lt y x=MK then y::mg (x::xs) ys else x::mg xs (y::ys)
termination_by xs ys=>xs.9+ys.9
theorem Ea (ys:List α):mg lt [] ys=ys:=by rw[mg]
theorem B4 (xs:List α):mg lt xs []=xs:=by cases xs<;>rw[mg]
theorem Gk (x y:α)(xs ys:List α):mg lt (x::xs) (y::ys)=if lt y x=MK then y::mg lt (x::xs) ys else x::mg lt xs (y::ys):=by rw[mg]
theorem S6 {x y:α}{xs ys:List α}(h:lt y x=MK):mg lt (x::xs) (y::ys)=y::mg lt (x::xs) ys:=by rw[Gk,if_pos h]
theorem Xv {x y:α}{xs ys:List α}(h:lt y x=ML):mg lt (x::xs) (y::ys)=x::mg lt xs (y::ys):=by rw[Gk,if_neg (by rw[h];decide)]
theorem El {ys:List α}:∀{as xs:List α},(∀a∈as,∀y∈ys,lt y a=ML)->mg lt (as++xs) ys=as++mg lt xs ys
 |[],_,_=>rfl
 |a::as,xs,h=>by
  cases ys with
  |nil=>rw[B4,B4]
  |cons y ys=>
   rw[k8,Xv lt (h a ii y ii),El λb hb=>h b (gn _ hb)];rfl
theorem D1 {xs:List α}:∀{bs ys:List α},(∀b∈bs,∀x∈xs,lt b x=MK)->mg lt xs (bs++ys)=bs++mg lt xs ys
 |[],_,_=>rfl
 |b::bs,ys,h=>by
  cases xs with
  |nil=>rw[Ea,Ea]
  |cons x xs=>
   rw[k8,S6 lt (h b ii x ii),D1 λc hc=>h c (gn _ hc)];rfl
theorem M4 {as:List α}:∀(xs ys:List α),(∀a∈as,∀y∈ys,lt y a=MK)->mg lt (xs++as) ys=mg lt xs ys++as
 |[],ys,h=>by
  have:=D1 lt (xs:=as) (bs:=ys) (ys:=[]) λb hb x hx=>h x hx b hb;rw[gp,B4] at this;rw[jv,this,Ea]
 |x::xs,[],h=>by rw[B4,B4]
 |x::xs,y::ys,h=>by
  rw[k8,Gk,Gk];split
  .have:=M4 (x::xs) ys λa ha z hz=>h a ha z (gn _ hz)
   rw[k8] at this;rw[this];rfl
  .rw[M4 xs (y::ys) h]
   rfl
termination_by xs ys=>xs.9+ys.9
theorem M2 {bs:List α}:∀(xs ys:List α),(∀b∈bs,∀x∈xs,lt b x=ML)->mg lt xs (ys++bs)=mg lt xs ys++bs
 |[],ys,h=>by rw[Ea,Ea]
 |x::xs,[],h=>by
  have:=El lt (ys:=bs) (as:=x::xs) (xs:=[]) λa ha y hy=>h y hy a ha;rw[gp,Ea] at this;rw[jv,this,B4]
 |x::xs,y::ys,h=>by
  rw[k8,Gk,Gk];split
  .rw[M2 (x::xs) ys h]
   rfl
  .have:=M2 xs (y::ys) λb hb z hz=>h b hb z (gn _ hz)
   rw[k8] at this;rw[this];rfl
termination_by xs ys=>xs.9+ys.9
theorem Ms:∀(xs ys:List α),(mg lt xs ys).Perm (xs++ys)
 |[],ys=>by rw[Ea];exact zj _
 |x::xs,[]=>by rw[B4,gp]
 |x::xs,y::ys=>by
  rw[Gk];split
  .exact((Ms (x::xs) ys).cons y).trans List.perm_middle.symm
  .exact(Ms xs (y::ys)).cons x
termination_by xs ys=>xs.9+ys.9
def Srt (l:List α):Prop:=l.Pairwise λa b=>lt b a=ML
structure Swo:Prop where
 irr:∀a,lt a a=ML
 tr:∀a b c,lt a b=MK->lt b c=MK->lt a c=MK
 ng:∀a b c,lt a c=MK->lt a b=MK\/lt b c=MK
variable {lt}
section
variable (o:Swo lt)
include o
theorem Swo.asy {a b:α}(h:lt a b=MK):lt b a=ML:=by
 cases e:lt b a with
 |false=>rfl
 |true=>have:=o.tr _ _ _ h e;rw[o.irr] at this;cases this
theorem Swo.le {a b c:α}(h1:lt b a=ML)(h2:lt c b=ML):lt c a=ML:=by
 cases e:lt c a with
 |false=>rfl
 |true=>
  rcases o.ng c b a e with h|h
  .rw[h2] at h;cases h
  .rw[h1] at h;cases h
theorem Swo.ltle {a b c:α}(h1:lt a b=MK)(h2:lt c b=ML):lt a c=MK:=by
 rcases o.ng a c b h1 with h|h
 .exact h
 .rw[h2] at h;cases h
theorem Swo.lelt {a b c:α}(h1:lt b a=ML)(h2:lt b c=MK):lt a c=MK:=by
 rcases o.ng b a c h2 with h|h
 .rw[h1] at h;cases h
 .exact h
theorem Me:∀a b c:List α,mg lt (mg lt a b) c=mg lt a (mg lt b c)
 |[],b,c=>by rw[Ea,Ea]
 |x::a,[],c=>by rw[B4,Ea]
 |x::a,y::b,[]=>by rw[B4,B4]
 |x::a,y::b,z::c=>by
  cases h1:lt y x with
  |true=>
   cases h2:lt z y with
   |true=>
    have ih:=Me (x::a) (y::b) c;rw[S6 lt h1] at ih ⊢;rw[S6 lt h2,S6 lt h2,S6 lt (o.tr _ _ _ h2 h1),ih]
   |false=>
    have ih:=Me (x::a) b (z::c);rw[S6 lt h1,Xv lt h2,Xv lt h2,S6 lt h1,ih]
  |false=>
   cases h3:lt z x with
   |true=>
    have h2:lt z y=MK:=by
     rcases o.ng z y x h3 with h|h
     .exact h
     .rw[h1] at h;cases h
    have ih:=Me (x::a) (y::b) c;rw[Xv lt h1] at ih ⊢;rw[S6 lt h3,S6 lt h2,S6 lt h3,ih]
   |false=>
    have ih:=Me a (y::b) (z::c);rw[Xv lt h1,Xv lt h3,ih]
    cases h2:lt z y with
    |true=>rw[S6 lt h2,Xv lt h3]
    |false=>rw[Xv lt h2,Xv lt h1]
termination_by a b c=>a.9+b.9+c.9
theorem oS:∀{xs ys:List α},Srt lt xs->Srt lt ys->Srt lt (mg lt xs ys)
 |[],ys,_,h=>by rw[Ea];exact h
 |x::xs,[],h,_=>by rw[B4];exact h
 |x::xs,y::ys,h1,h2=>by
  have a1:=sj.mp h1;have a2:=sj.mp h2;rw[Gk];split
  .rename_i hl
   refine sj.mpr {λz hz=>?_,oS h1 a2.2};rcases jf.mp ((Ms lt _ _).mem_iff.mp hz) with hz|hz
   .rcases jn.mp hz with rfl|hz
    .exact o.asy hl
    .exact o.le (o.asy hl) (a1.1 z hz)
   .exact a2.1 z hz
  .rename_i hl
   have hl:lt y x=ML:=by simpa using hl
   refine sj.mpr {λz hz=>?_,oS a1.2 h2};rcases jf.mp ((Ms lt _ _).mem_iff.mp hz) with hz|hz
   .exact a1.1 z hz
   .rcases jn.mp hz with rfl|hz
    .exact hl
    .exact o.le hl (a2.1 z hz)
termination_by xs ys=>xs.9+ys.9
end
variable (lt)
def At (l:List α):List α:=l.foldl (λa x=>mg lt a [x]) []
theorem C8 (l:List α)(x:α):At lt (l++[x])=mg lt (At lt l) [x]:=by unfold At;rw[FO];rfl
theorem C9 (l:List α):(At lt l).Perm l:=by
 have key:∀(l a:List α),(l.foldl (λa x=>mg lt a [x]) a).Perm (a++l):=λl=>by
  induction l with
  |nil=>intro a;rw[gp];exact zj _
  |cons x l ih=>
   intro a;refine(ih _).trans ?_;refine((Ms lt a [x]).append_right l).trans ?_;rw[fh];exact zj _
 exact key l []
theorem Dg (l:List α):(At lt l).9=l.9:=(C9 lt l).length_eq
theorem Jz {P:List α->Prop}(h0:P [])(h1:∀l x,P l->P (l++[x]))(l:List α):P l:=by
 have key:∀n,∀l:List α,l.9=n->P l:=λn=>by
  induction n with
  |zero=>intro l h;rw[td.mp h];exact h0
  |succ n ih=>
   intro l h;have hne:l≠[]:=λe=>by rw[e] at h;cases h
   rw[<-List.dropLast_concat_getLast hne];exact h1 _ _ (ih _ (by rw[DX];lia))
 exact key _ l rfl
variable {lt}
theorem Yv (o:Swo lt)(a:List α)(b:List α):At lt (a++b)=mg lt (At lt a) (At lt b):=by
 induction b using Jz with
 |h0=>rw[gp];exact(B4 lt _).symm
 |h1 l x ih=>rw[<-fh,C8,C8,ih,Me o]
theorem M1 (o:Swo lt)(a:List α):Srt lt (At lt a):=by
 induction a using Jz with
 |h0=>exact va
 |h1 l x ih=>rw[C8];exact oS o ih (sy _ _)
theorem Ka {a:List α}(h:Srt lt a):At lt a=a:=by
 induction a using Jz with
 |h0=>rfl
 |h1 l x ih=>
  have hp:=p8.mp h;rw[C8,ih hp.1];have:=El lt (ys:=[x]) (as:=l) (xs:=[]) λa ha y hy=>by rw[gl.mp hy];exact hp.2.2 a ha x (gl.mpr rfl)
  rw[gp,Ea] at this;exact this
theorem pJ {β:Type}{lt':β->β->Bool}{f:α->β}(h:∀a b,lt' (f a) (f b)=lt a b):∀xs ys:List α,mg lt' (xs.map f) (ys.map f)=(mg lt xs ys).map f
 |[],ys=>by rw[Ea];exact Ea _ _
 |x::xs,[]=>by rw[B4];exact B4 _ _
 |x::xs,y::ys=>by
  rw[gt,gt,Gk,Gk,h];split
  .have:=pJ h (x::xs) ys
   rw[gt] at this;rw[this];rfl
  .have:=pJ h xs (y::ys)
   rw[gt] at this;rw[this];rfl
termination_by xs ys=>xs.9+ys.9
theorem M6 {β:Type}{lt':β->β->Bool}{f:α->β}(h:∀a b,lt' (f a) (f b)=lt a b)(l:List α):At lt' (l.map f)=(At lt l).map f:=by
 induction l using Jz with
 |h0=>rfl
 |h1 l x ih=>
  rw[fb,gt,vo,C8,C8,ih];exact pJ h _ [x]
end
theorem iE {α:Type}{R:α->α->Prop}{l:List α}(h:l.9<2):l.Pairwise R:=match l,h with
 |[],_=>va
 |[x],_=>sy _ _
section
variable {α:Type} {lt:α->α->Bool}
theorem Ff {l:List α}{i:Nat}{x:α}(h:l[i]?=mn x):l.drop i=x::l.drop (i+1):=by
 obtain⟨hl,e⟩:=fq.mp h;rw[lh hl,e]
theorem G7 {l:List α}{i:Nat}{x:α}(h:l[i]?=mn x):l.take (i+1)=l.take i++[x]:=by rw[ie,h];rfl
theorem Aff {l:List α}(h:Srt lt l){i j:Nat}{x y:α}(hij:i<j)(hx:l[i]?=mn x)(hy:l[j]?=mn y):lt y x=ML:=by
 obtain⟨h1,e1⟩:=fq.mp hx;obtain⟨h2,e2⟩:=fq.mp hy;have:=(wg.mp h) i j h1 h2 hij;rw[e1,e2] at this;exact this
theorem Et (o:Swo lt){l:List α}(h:Srt lt l){i j:Nat}{x y:α}(hij:i<=j)(hx:l[i]?=mn x)(hy:l[j]?=mn y):lt y x=ML:=by
 rcases yt hij with hl|hl
 .exact Aff h hl hx hy
 .rw[hl,hy] at hx
  cases hx;exact o.irr _
theorem U9 {l:List α}{i:Nat}{x:α}(h:x∈l.drop i):∃j,i<=j/\l[j]?=mn x:=by
 obtain⟨k,hk⟩:=l9 h;rw[jd] at hk;exact{i+k,jz _ _,hk}
theorem Kh {l:List α}{i:Nat}{x:α}(h:x∈l.take i):∃j,j<i/\l[j]?=mn x:=by
 obtain⟨k,hk⟩:=l9 h;rw[jy] at hk;split at hk
 .exact{k,by assumption,hk}
 .cases hk
theorem Dp {l:List α}{i k:Nat}{x:α}(h:x∈(l.drop i).take k):∃j,j<k/\l[i+j]?=mn x:=by
 obtain⟨j,hj,e⟩:=Kh h;rw[jd] at e;exact⟨j,hj,e⟩
theorem F8 (l:List α)(i k:Nat):l.drop i=(l.drop i).take k++l.drop (i+k):=by
 rw[<-md,iq]
variable (o:Swo lt) {la lb out:List α} {ia ib:Nat}
def MI (lt:α->α->Bool)(la lb out:List α)(ia ib:Nat):Prop:=out++mg lt (la.drop ia) (lb.drop ib)=mg lt la lb
theorem MI.b {x y:α}(h:MI lt la lb out ia ib)(hx:la[ia]?=mn x)(hy:lb[ib]?=mn y)(hl:lt y x=MK):MI lt la lb (out++[y]) ia (ib+1):=by
 unfold MI at h ⊢;rw[<-h,Ff hx,Ff hy,S6 lt hl,fh];rfl
theorem MI.a {x y:α}(h:MI lt la lb out ia ib)(hx:la[ia]?=mn x)(hy:lb[ib]?=mn y)(hl:lt y x=ML):MI lt la lb (out++[x]) (ia+1) ib:=by
 unfold MI at h ⊢;rw[<-h,Ff hx,Ff hy,Xv lt hl,fh];rfl
theorem MI.doneB (h:MI lt la lb out ia ib)(hb:lb.9<=ib):out++la.drop ia++lb.drop ib=mg lt la lb:=by
 unfold MI at h;rw[<-h,jj hb,B4,gp]
theorem MI.doneA (h:MI lt la lb out ia ib)(hb:la.9<=ia):out++la.drop ia++lb.drop ib=mg lt la lb:=by
 unfold MI at h;rw[<-h,jj hb,Ea,gp]
theorem MI.lastA (h:MI lt la lb out ia ib){x:α}(hx:la[ia]?=mn x)(he:la.9<=ia+1)(hl:∀y∈lb,lt y x=MK):out++lb.drop ib++la.drop ia=mg lt la lb:=by
 unfold MI at h;have e:=D1 lt (xs:=la.drop ia) (bs:=lb.drop ib) (ys:=[]) λb hb z hz=>by
  rw[Ff hx,jj he] at hz;rw[gl.mp hz];exact hl b (p9 hb)
 rw[gp,B4] at e;rw[<-h,e,fh]
include o in
theorem MI.as (h:MI lt la lb out ia ib)(sb:Srt lt lb){k:Nat}{y:α}(hy:lb[ib]?=mn y)(hk:∀i x,i<k->la[ia+i]?=mn x->lt y x=ML):MI lt la lb (out++(la.drop ia).take k) (ia+k) ib:=by
 unfold MI at h ⊢;rw[<-h]
 conv=>rhs;rw[F8 la ia k]
 rw[El lt λa ha z hz=>?_,fh];obtain⟨i,hi,e⟩:=Dp ha;obtain⟨j,hj,e2⟩:=U9 hz;exact o.le (hk i a hi e) (Et o sb hj hy e2)
include o in
theorem MI.bs (h:MI lt la lb out ia ib)(sa:Srt lt la){k:Nat}{x:α}(hx:la[ia]?=mn x)(hk:∀i y,i<k->lb[ib+i]?=mn y->lt y x=MK):MI lt la lb (out++(lb.drop ib).take k) ia (ib+k):=by
 unfold MI at h ⊢;rw[<-h]
 conv=>rhs;rw[F8 lb ib k]
 rw[D1 lt λb hb z hz=>?_,fh];obtain⟨i,hi,e⟩:=Dp hb;obtain⟨j,hj,e2⟩:=U9 hz;exact o.ltle (hk i b hi e) (Et o sa hj hx e2)
variable {na nb:Nat}
def MH (lt:α->α->Bool)(la lb out:List α)(na nb:Nat):Prop:=mg lt (la.take na) (lb.take nb)++out.reverse=mg lt la lb
theorem Fj (l:List α){c n:Nat}(h:c<=n):l.take n=l.take c++(l.drop c).take (n-c):=by
 rw[show n=c+(n-c) by lia,uy];congr 2;lia
include o in
theorem MH.as (h:MH lt la lb out na nb)(sb:Srt lt lb){c:Nat}{y:α}(hc:c<=na)(hn:0<nb)(hy:lb[nb-1]?=mn y)(hk:∀i x,c<=i->i<na->la[i]?=mn x->lt y x=MK):MH lt la lb (out++((la.drop c).take (na-c)).reverse) c nb:=by
 unfold MH at h ⊢;rw[<-h,Fj la hc,M4 lt _ _ λa ha z hz=>?_,ot,my,fh];obtain⟨i,hi,e⟩:=Dp ha;obtain⟨j,hj,e2⟩:=Kh hz;exact o.lelt (Et o sb (show j<=nb-1 by lia) e2 hy) (hk (c+i) a () () e)
include o in
theorem MH.bs (h:MH lt la lb out na nb)(sa:Srt lt la){c:Nat}{x:α}(hc:c<=nb)(hn:0<na)(hx:la[na-1]?=mn x)(hk:∀i y,c<=i->i<nb->lb[i]?=mn y->lt y x=ML):MH lt la lb (out++((lb.drop c).take (nb-c)).reverse) na c:=by
 unfold MH at h ⊢;rw[<-h,Fj lb hc,M2 lt _ _ λb hb z hz=>?_,ot,my,fh];obtain⟨i,hi,e⟩:=Dp hb;obtain⟨j,hj,e2⟩:=Kh hz;exact o.le (Et o sa (show j<=na-1 by lia) e2 hx) (hk (c+i) b () () e)
theorem Sf {l:List α}{c n:Nat}{x:α}(hn:n=c+1)(h:l[c]?=mn x):((l.drop c).take (n-c)).reverse=[x]:=by
 rw[hn,show c+1-c=1 by lia,Ff h];rfl
include o in
theorem MH.a {x y:α}(h:MH lt la lb out na nb)(sb:Srt lt lb)(hna:0<na)(hnb:0<nb)(hx:la[na-1]?=mn x)(hy:lb[nb-1]?=mn y)(hl:lt y x=MK):MH lt la lb (out++[x]) (na-1) nb:=by
 have:=h.as o sb (c:=na-1) () hnb hy λi z h1 h2 e=>by
  have:i=na-1:=()
  rw[this,hx] at e;cases e;exact hl
 rw[Sf () hx] at this;exact this
include o in
theorem MH.b {x y:α}(h:MH lt la lb out na nb)(sa:Srt lt la)(hna:0<na)(hnb:0<nb)(hx:la[na-1]?=mn x)(hy:lb[nb-1]?=mn y)(hl:lt y x=ML):MH lt la lb (out++[y]) na (nb-1):=by
 have:=h.bs o sa (c:=nb-1) () hna hx λi z h1 h2 e=>by
  have:i=nb-1:=()
  rw[this,hy] at e;cases e;exact hl
 rw[Sf () hy] at this;exact this
theorem MH.doneA (h:MH lt la lb out 0 nb):la.take 0++lb.take nb++out.reverse=mg lt la lb:=by
 unfold MH at h;rw[<-h,pf,Ea,jv]
theorem MH.doneB (h:MH lt la lb out na 0):la.take na++lb.take 0++out.reverse=mg lt la lb:=by
 unfold MH at h;rw[<-h,pf,B4,gp]
theorem MH.firstB (h:MH lt la lb out na 1){y:α}(hy:lb[0]?=mn y)(hl:∀x∈la,lt y x=MK):lb.take 1++la.take na++out.reverse=mg lt la lb:=by
 unfold MH at h;have e:=D1 lt (xs:=la.take na) (bs:=lb.take 1) (ys:=[]) λb hb z hz=>by
  rw[G7 hy,pf,jv] at hb;rw[gl.mp hb];exact hl z (mz hz)
 rw[gp,B4] at e;rw[<-h,e]
end
end _W
end
section
namespace _L
open PySem PySem.Spec PyProof.Rows
def Aca:Bool->gw->Array gw->Nat->Nat->Nat->StateT ke Sem (Option Nat):=sortPriv% PySem.Builtin.gallop
def Adm (left:Bool)(key:gw)(arr:Array gw)(base i:Nat):StateT ke Sem (Option Bool):=do
 let x <-elem' arr (base+i)
 if left=MK then lt' x key else do
  let r <-lt' key x
  pure (r.map λx=>!x)
section
variable {prog:gu} {w:i7} {A:jp} {E:Za0} {s:fz}
def nK (prog:gu)(w:i7)(A:jp)(E:Za0)(s:fz)(kd:ur)(P:gw->Prop)(blt:gw->gw->Bool):Prop:=
 ∀(x y:gw) (st:ke) (Q:Option Bool->ke->Prop),P x->P y->kindOf st=kd->Q (mn (blt x y)) st->wpS (model prog w) A E s (lt' x y) Q st
theorem Bo {arr:Array gw}{i:Nat}{p:gw}{st:ke}{Q:gw->ke->Prop}(e:arr[i]?=mn p)(h:Q p st):wpS (model prog w) A E s (elem' arr i) Q st:=by
 rw[elem'_eq,e];exact gv h
theorem Bb {α:Type}{c:Prop}[Decidable c]{x y:StateT ke Sem α}{Q:α->ke->Prop}{st:ke}(h:c)(k:wpS (model prog w) A E s x Q st):wpS (model prog w) A E s (if c then x else y) Q st:=by rw[if_pos h];exact k
theorem Ba {α:Type}{c:Prop}[Decidable c]{x y:StateT ke Sem α}{Q:α->ke->Prop}{st:ke}(h:¬ c)(k:wpS (model prog w) A E s y Q st):wpS (model prog w) A E s (if c then x else y) Q st:=by rw[if_neg h];exact k
variable {kd:ur} {P:gw->Prop} {blt:gw->gw->Bool} (L:nK prog w A E s kd P blt)
include L
def iG (blt:gw->gw->Bool)(left:Bool)(key x:gw):Bool:=if left=MK then blt x key else !(blt key x)
theorem Adr {left:Bool}{key x:gw}{arr:Array gw}{base i:Nat}{st:ke}{Q:Option Bool->ke->Prop}(hk:kindOf st=kd)(hP:P key)(hx:arr[base+i]?=mn x)(hPx:P x)(h:Q (mn (iG blt left key x)) st) :
  wpS (model prog w) A E s (Adm left key arr base i) Q st:=by
 unfold Adm;refine gg (Bo hx ?_)
 cases left with
 |true=>exact L _ _ _ _ hPx hP hk h
 |false=>exact gg (L _ _ _ _ hP hPx hk (gv h))
theorem F9 {left:Bool}{key:gw}{arr:Array gw}{base hint:Nat}{bey:Nat->Bool}{st:ke}{Q:Option Nat->ke->Prop}(hk:kindOf st=kd)(hP:P key)(hh:hint<n)
    (hb : ∀ i, i < n->∃ x, arr[base + i]? = mn x/\P x/\iG blt left key x = bey i)(mono : ∀ i j, i <= j->j < n->bey j = MK->bey i = MK)
    (h : ∀ c, c <= n->(∀ i, i < c->bey i = MK)->(∀ i, c <= i->i < n->bey i = ML)->Q (mn c) st) : wpS (model prog w) A E s (Aca left key arr base n hint) Q st := by
  have hB : ∀ (i : Nat) (R : Option Bool->ke->Prop), i < n->R (mn (bey i)) st->wpS (model prog w) A E s (Adm left key arr base i) R st := λi R hi r => by
    obtain ⟨x, e1, e2, e3⟩ := hb i hi;exact Adr L hk hP e1 e2 (by rw [e3]; exact r)
  have monoF : ∀ i j, i <= j->j < n->bey i = ML->bey j = ML := λi j h1 h2 h3 => by
    cases e : bey j with
    | false => rfl
    | true => rw [mono i j h1 h2 e] at h3; cases h3
  refine gg (hB hint _ hh ?_);dsimp only
  -- the last part: halving
  have last : ∀ (lo hi : Nat) (F : Nat->Option (Option Nat) × Nat × Nat->StateT ke Sem (ForInStep (Option (Option Nat) × Nat × Nat))),
      (∀ x lo hi, F x (tp, lo, hi) = if lo >= hi then pure (sg (tp, lo, hi)) else do
        let r <- Adm left key arr base (lo + (hi - lo) / 2)
        match r with
        | some more => if more = MK then pure (rg (tp, lo + (hi - lo) / 2 + 1, hi)) else pure (rg (tp, lo, lo + (hi - lo) / 2))
        | x => pure (sg (mn tp, lo, hi))) ->
      lo <= hi->hi <= n->(∀ i, i < lo->bey i = MK)->(∀ i, hi <= i->i < n->bey i = ML) ->
      wpS (model prog w) A E s (forIn [:n] (tp, lo, hi) F) (λr st' => r.1 = tp/\st' = st/\r.2.2 <= n/\(∀ i, i < r.2.2->bey i = MK)/\(∀ i, r.2.2 <= i->i < n->bey i = ML)) st := by
    intro lo hi F hF hle hin h1 h2;refine wpS_forRange (I := λx c st' => ∃ lo hi, c = (tp, lo, hi)/\st' = st/\lo <= hi/\hi <= n/\hi - lo + x <= n/\(∀ i, i < lo->bey i = MK)/\(∀ i, hi <= i->i < n->bey i = ML)) ?_ ?_ {lo, hi, rfl, rfl, hle, hin, by lia, h1, h2}
    · rintro x c st' _ hx ⟨lo, hi, rfl, rfl, hle, hin, hd, h1, h2⟩
      rw [hF]
      by_cases hge : lo >= hi
      · rw [if_pos hge]
        exact gv {rfl, rfl, hin, λi hi' => h1 i (by dsimp only at hi'; lia), h2}
      · rw [if_neg hge]
        have ht : lo + (hi - lo) / 2 < hi := by lia
        generalize (hi - lo) / 2 = t at *;refine gg (hB _ _ (gq ht hin) ?_);dsimp only
        cases e : bey (lo + t) with
        | true =>
          rw [if_pos rfl];exact gv {_, _, rfl, rfl, by lia, hin, by lia, λi hi' => mono i _ () () e, h2}
        | false =>
          rw [if_neg (by decide)];exact gv {_, _, rfl, rfl, by lia, by lia, by lia, h1, λi hi1 hi2 => monoF _ i hi1 hi2 e}
    · rintro c st' ⟨lo, hi, rfl, rfl, hle, hin, hd, h1, h2⟩
      have : max 0 n = n := by lia
      rw [this] at hd;exact {rfl, rfl, hin, λi hi' => h1 i (by dsimp only at hi'; lia), h2}
  cases e0 : bey hint with
  | true =>
    rw [if_pos rfl];refine gg (o8 (wpS_forRange (I := λx c st' => ∃ lo of, c = (tp, lo, of)/\st' = st/\lo < of/\x + 1 <= of/\lo < n - hint/\bey (hint + lo) = MK)
      (Q := λc st' => ∃ lo of, c = (tp, lo, of)/\st' = st/\lo < of/\lo < n - hint/\bey (hint + lo) = MK/\(n - hint <= of\/(of < n - hint/\bey (hint + of) = ML))) ?_ ?_ {0, 1, rfl, rfl, by lia, by lia, by lia, e0}) ?_)
    · rintro x c st' _ hx ⟨lo, of, rfl, rfl, h1, h2, h3, h4⟩
      dsimp only
      by_cases hge : of >= n - hint
      · rw [if_pos hge]
        exact gv {lo, of, rfl, rfl, h1, h3, h4, .inl hge}
      · rw [if_neg hge]
        refine gg (hB _ _ () ?_);dsimp only
        cases e : bey (hint + of) with
        | true => exact gv {of, 2 * of + 1, rfl, rfl, by lia, by lia, by lia, e}
        | false => exact gv {lo, of, rfl, rfl, h1, h3, h4, .inr {(), e}}
    · rintro c st' ⟨lo, of, rfl, rfl, h1, h2, h3, h4⟩
      exact ⟨lo, of, rfl, rfl, h1, h3, h4, .inl (by have : max 0 n = n := by lia
                                                    lia)⟩
    · rintro c st' ⟨lo, of, rfl, rfl, h1, h3, h4, h5⟩
      dsimp only;refine gg (o8 (last _ _ _ (λx lo hi => rfl) ?_ ?_ ?_ ?_) ?_)
      · exact yd (KN.mpr ⟨h1, h3⟩) hint
      · exact iw (yd (uv _ _) hint) (oz (vn (gz hh)))
      · intro i hi
        exact mono i (hint + lo) () () h4
      · intro i hi1 hi2
        rcases h5 with h5 | ⟨h5, h6⟩
        · lia
        · exact monoF (hint + of) i () hi2 h6
      · rintro ⟨r, lo2, hi2⟩ st' ⟨e1, e2, e3, e4, e5⟩
        dsimp only at e1 e2 e3 e4 e5;subst e1 e2;exact gv (h hi2 e3 e4 e5)
  | false =>
    rw [if_neg (by decide)];refine gg (o8 (wpS_forRange (I := λx c st' => ∃ lo of, c = (tp, lo, of)/\st' = st/\lo < of/\x + 1 <= of/\lo < hint + 1/\bey (hint - lo) = ML)
      (Q := λc st' => ∃ lo of, c = (tp, lo, of)/\st' = st/\lo < of/\lo < hint + 1/\bey (hint - lo) = ML/\(hint + 1 <= of\/(of < hint + 1/\bey (hint - of) = MK))) ?_ ?_ {0, 1, rfl, rfl, by lia, by lia, by lia, e0}) ?_)
    · rintro x c st' _ hx ⟨lo, of, rfl, rfl, h1, h2, h3, h4⟩
      dsimp only
      by_cases hge : of >= hint + 1
      · rw [if_pos hge]
        exact gv {lo, of, rfl, rfl, h1, h3, h4, .inl hge}
      · rw [if_neg hge]
        refine gg (hB _ _ () ?_);dsimp only
        cases e : bey (hint - of) with
        | true => exact gv {lo, of, rfl, rfl, h1, h3, h4, .inr {(), e}}
        | false => exact gv {of, 2 * of + 1, rfl, rfl, by lia, by lia, by lia, e}
    · rintro c st' ⟨lo, of, rfl, rfl, h1, h2, h3, h4⟩
      exact ⟨lo, of, rfl, rfl, h1, h3, h4, .inl (by have : max 0 n = n := by lia
                                                    lia)⟩
    · rintro c st' ⟨lo, of, rfl, rfl, h1, h3, h4, h5⟩
      dsimp only;refine gg (o8 (last _ _ _ (λx lo hi => rfl) ?_ ?_ ?_ ?_) ?_)
      · rcases Nat.le_total of (hint + 1) with z | z
        · rw [iu z]
          exact iw (Nat.sub_le_sub_left h1 (hint + 1)) (oz (Nat.succ_sub_succ hint lo))
        · rw [rj z, jx]
          exact gy _
      · lia
      · intro i hi
        rcases h5 with h5 | ⟨h5, h6⟩
        · lia
        · exact mono i (hint - of) () () h6
      · intro i hi1 hi2
        exact monoF (hint - lo) i () hi2 h4
      · rintro ⟨r, lo2, hi2⟩ st' ⟨e1, e2, e3, e4, e5⟩
        dsimp only at e1 e2 e3 e4 e5;subst e1 e2;exact gv (h hi2 e3 e4 e5)
end
open _W
structure Ahq (S:Prop):Prop where
 h:S
theorem Hf {c S T:Prop}[Decidable c](h1:Ahq S->c->T)(h2:Ahq S->¬ c->T)(h:S):T:=(MG c).elim (h1 ⟨h⟩) (h2 ⟨h⟩)
def xR:Array gw->Array gw->StateT ke Sem (Array gw):=sortPriv% PySem.Builtin.mergeLo
abbrev N5 (st:ke)(g:Nat):ke:=vm (kindOf st) (arrOf st) (pendingOf st) g (failedOf st)
theorem Jf (out:Array gw)(x:gw):(out.push x).7=out.7++[x]:=FA ..
theorem xY (out a:Array gw)(i k:Nat):(out++a.extract i (i+k)).7=out.7++(a.toList.drop i).take k:=by
 rw[jl,ra,pz];congr 2;lia
theorem My (a:Array gw)(i:Nat):(a.extract i a.8).7=a.toList.drop i:=by
 rw[ra,pz,fv (by rw[i9,f9];exact d8 _)]
theorem Bm {a:Array gw}{i:Nat}{x:gw}(h:a[i]?=mn x):a.7[i]?=mn x:=by rw[ge];exact h
theorem Bn {a:Array gw}{i:Nat}(h:i<a.8):∃x,a[i]?=mn x:={_,mi h}
section
variable {prog:gu} {w:i7} {A:jp} {E:Za0} {s:fz}
theorem Pm {g:Nat}{st:ke}{Q:Unit->ke->Prop}(h:Q .unit (N5 st g)):wpS (model prog w) A E s ((sortPriv% PySem.Builtin.setMinGallop) g) Q st:=wq h
variable {kd:ur} {P:gw->Prop} {blt:gw->gw->Bool} (L:nK prog w A E s kd P blt) (o:Swo blt)
include L o
theorem mE {a b:Array gw}{st:ke}{Q:Array gw->ke->Prop}(hk:kindOf st=kd)(ha:0<a.8)(hb:0<b.8)(pa:∀x∈a.7,P x)(pb:∀x∈b.7,P x)(sa:Srt blt a.7)(sb:Srt blt b.7)
  (hf:∀x y,a[0]?=mn x->b[0]?=mn y->blt y x=MK)(hl:∀x,a[a.8-1]?=mn x->∀y∈b.7,blt y x=MK)
  (h:∀r g,r.7=mg blt a.7 b.7->Q r (N5 st g)):wpS (model prog w) A E s (xR a b) Q st:=by
 have la:a.toList.9=a.8:=f9;have lb:b.toList.9=b.8:=f9;have PA:∀{i x},a[i]?=mn x->P x:=λe=>pa _ (gi (Bm e));have PB:∀{i x},b[i]?=mn x->P x:=λe=>pb _ (gi (Bm e));obtain⟨b0,eb0⟩:=Bn hb;obtain⟨a0,ea0⟩:=Bn ha;have h0:MI blt a.7 b.7 [b0] 0 1:=(show MI blt a.7 b.7 [] 0 0 from rfl).b (Bm ea0) (Bm eb0) (hf _ _ ea0 eb0);have fin1:∀{out:Array gw} {ia ib:Nat},MI blt a.7 b.7 out.7 ia ib->b.8<=ib->(out++a.extract ia a.8++b.extract ib b.8).7=mg blt a.7 b.7:=λm e=>by
  rw[jl,jl,My,My];exact m.doneB (by rw[lb];exact e)
 have fin2:∀{out:Array gw} {ia ib:Nat},MI blt a.7 b.7 out.7 ia ib->a.8<=ia->(out++a.extract ia a.8++b.extract ib b.8).7=mg blt a.7 b.7:=λm e=>by
  rw[jl,jl,My,My];exact m.doneA (by rw[la];exact e)
 have fin3:∀{out:Array gw} {ia ib:Nat},MI blt a.7 b.7 out.7 ia ib->ia+1=a.8->(out++b.extract ib b.8++a.extract ia a.8).7=mg blt a.7 b.7:=λ{out ia ib} m e=>by
  obtain⟨x,ex⟩:=Bn (show ia<a.8 by lia);rw[jl,jl,My,My];exact m.lastA (Bm ex) (by rw[la];lia) (hl x (by rw[<-e];exact ex))
 refine gg (yl (qf {rfl,?_}));refine gg (Bo eb0 ?_)
 by_cases c1:(1==b.8)=MK
 .refine Bb c1 ?_
  exact gv (h _ (gallopOf st) (fin1 (out:=#[b0]) h0 (by rw[beq_iff_eq] at c1;lia)))
 refine Ba c1 ?_
 by_cases c2:(0+1==a.8)=MK
 .refine Bb c2 ?_
  exact gv (h _ (gallopOf st) (fin3 (out:=#[b0]) h0 (by rw[beq_iff_eq] at c2;lia)))
 refine Ba c2 ?_;rw[beq_iff_eq] at c1 c2;refine gg (wj ?_);refine gg (o8 (wpS_forRange
  (I:=λx c st'=>∃(out:Array gw) (ia ib g g':Nat),c=(tp,out,ia,ib,g)/\st'=N5 st g'/\MI blt a.7 b.7 out.7 ia ib/\ia+1<a.8/\ib<b.8/\x<=ia+ib)
  (Q:=λc st'=>∃(r:Array gw) (g':Nat),c.1=mn r/\st'=N5 st g'/\r.7=mg blt a.7 b.7) ?_ ?_ {#[b0],0,1,_,gallopOf st,rfl,rfl,h0,(),(),gy _}) ?_)
 .intro x c st' _ hx h0;refine cpZ λX0 k0=>?_;obtain⟨out,ia,ib,g,g',rfl,rfl,m,hia,hib,hpr⟩:=h0<;>refine k0 ?_
  try dsimp only
  refine gg (o8 (wpS_forRange
   (I:=λy c st'=>∃(out:Array gw) (ia' ib' ac bc:Nat),c=(tp,out,ia',ib',ac,bc)/\st'=N5 st g'/\MI blt a.7 b.7 out.7 ia' ib'/\ia'+1<a.8/\ib'<b.8/\y+(ia+ib)<=ia'+ib')
   (Q:=λc st'=>st'=N5 st g'/\((∃r:Array gw,∃cc,c=(mn r,cc)/\r.7=mg blt a.7 b.7)\/∃(out:Array gw) (ia' ib' ac bc:Nat),c=(tp,out,ia',ib',ac,bc)/\MI blt a.7 b.7 out.7 ia' ib'/\ia'+1<a.8/\ib'<b.8/\ia+ib+1<=ia'+ib')) ?_ ?_ {out,ia,ib,0,0,rfl,rfl,m,hia,hib,()}) ?_)
  .intro y c st' _ hy h0;refine cpZ λX0 k0=>?_;obtain⟨out,ia,ib,ac,bc,rfl,rfl,m,hia,hib,hpr⟩:=h0;obtain⟨xa,ea⟩:=Bn (show ia<a.8 by lia);obtain⟨xb,eb⟩:=Bn hib;refine k0 ?_
   try dsimp only
   refine gg (Bo eb (gg (Bo ea (gg (L _ _ _ _ (PB eb) (PA ea) hk ?_)))))
   cases hlt:blt xb xa with
   |true=>
    refine Bb rfl ?_;refine gg (Bo eb ?_);have m':MI blt a.7 b.7 (out.push xb).7 ia (ib+1):=by rw[Jf];exact m.b (Bm ea) (Bm eb) hlt
    by_cases c3:(ib+1==b.8)=MK
    .refine Bb c3 ?_
     exact gv {rfl,.inl {_,_,rfl,fin1 m' (by rw[beq_iff_eq] at c3;lia)}}
    .refine Ba c3 ?_
     rw[beq_iff_eq] at c3
     by_cases c4:bc+1>=g
     .refine Bb c4 ?_
      exact gv {rfl,.inr {_,_,_,_,_,rfl,m',hia,(),()}}
     .refine Ba c4 ?_
      exact gv {_,_,_,_,_,rfl,rfl,m',hia,(),()}
   |false=>
    refine Ba (by decide) ?_;refine gg (Bo ea ?_);have m':MI blt a.7 b.7 (out.push xa).7 (ia+1) ib:=by rw[Jf];exact m.a (Bm ea) (Bm eb) hlt
    by_cases c3:(ia+1+1==a.8)=MK
    .refine Bb c3 ?_
     exact gv {rfl,.inl {_,_,rfl,fin3 m' (by rw[beq_iff_eq] at c3;lia)}}
    .refine Ba c3 ?_
     rw[beq_iff_eq] at c3
     by_cases c4:ac+1>=g
     .refine Bb c4 ?_
      exact gv {rfl,.inr {_,_,_,_,_,rfl,m',(),hib,()}}
     .refine Ba c4 ?_
      exact gv {_,_,_,_,_,rfl,rfl,m',(),hib,()}
  .intro c st' h0;exfalso;obtain⟨out,ia',ib',ac,bc,rfl,rfl,m,hia',hib',hpr'⟩:=h0
   have:max 0 (a.8+b.8)=a.8+b.8:=()
   lia
  .intro c st' h0;refine cpZ λX0 k0=>?_;obtain⟨rfl,⟨r,cc,rfl,hr⟩|⟨out,ia1,ib1,ac,bc,rfl,m1,hia1,hib1,hpr1⟩⟩:=h0<;>refine k0 ?_
   .dsimp only
    exact gv ⟨r,g',rfl,rfl,hr⟩
   .dsimp only
    refine gg (yl (qf {rfl,?_}));refine gg (o8 (wpS_forRange
     (I:=λy c st'=>∃(out:Array gw) (ia' ib' mg' ac bc g2:Nat),c=(tp,out,ia',ib',mg',ac,bc)/\st'=N5 st g2/\MI blt a.7 b.7 out.7 ia' ib'/\ia'+1<a.8/\ib'<b.8/\y+(ia1+ib1)<=ia'+ib')
     (Q:=λc st'=>∃g2,st'=N5 st g2/\((∃r:Array gw,∃cc,c=(mn r,cc)/\r.7=mg blt a.7 b.7)\/∃(out:Array gw) (ia' ib' mg' ac bc:Nat),c=(tp,out,ia',ib',mg',ac,bc)/\MI blt a.7 b.7 out.7 ia' ib'/\ia'+1<a.8/\ib'<b.8/\ia1+ib1<=ia'+ib')) ?_ ?_ {out,ia1,ib1,_,ac,bc,g',rfl,rfl,m1,hia1,hib1,()}) ?_)
    .intro y c st' _ hy h0;refine cpZ λX0 k0=>?_;obtain⟨out,ia,ib,mg',ac,bc,g2,rfl,rfl,m,hia,hib,hpr⟩:=h0;obtain⟨xb,eb⟩:=Bn hib;refine k0 ?_
     try dsimp only
     apply Hf (c:=mg'>1)
     case h1=>
      intro key cg;refine Bb cg ?_;generalize mg'-1=mg2
      revert mg2
      exact key.h
     case h2=>
      intro key cg;refine Ba cg ?_;generalize mg'=mg2
      revert mg2
      exact key.h
     case h=>
      intro mg2;refine gg (Pm (gg (Bo eb ?_)));have gb:∀i,i<a.8-ia->∃x,a[ia+i]?=mn x/\P x/\iG blt ML xb x=(λi=>match a[ia+i]? with|some x=>!(blt xb x)|none=>ML) i:=λi hi=>by
       obtain⟨x,ex⟩:=Bn (show ia+i<a.8 by lia);exact{x,ex,PA ex,by dsimp only;rw[ex];rfl}
      have gm:∀i j,i<=j->j<a.8-ia->(λi=>match a[ia+i]? with|some x=>!(blt xb x)|none=>ML) j=MK->(λi=>match a[ia+i]? with|some x=>!(blt xb x)|none=>ML) i=MK:=λi j hij hj e=>by
       obtain⟨x,ex⟩:=Bn (show ia+i<a.8 by lia);obtain⟨z,ez⟩:=Bn (show ia+j<a.8 by lia)
       try dsimp only at e ⊢
       rw[ex];rw[ez] at e
       try dsimp only at e ⊢
       cases e1:blt xb x with
       |false=>rfl
       |true=>
        have:=o.ltle e1 (Et o sa (show ia+i<=ia+j by lia) (Bm ex) (Bm ez));rw[this] at e;cases e
      refine gg (F9 L hk (PB eb) (show 0<a.8-ia by lia) gb gm (λc hc1 hc2 hc3=>?_));have hA1:∀i x,i<c->a.7[ia+i]?=mn x->blt xb x=ML:=λi x hi ex=>by
       rw[ge] at ex;have:=hc2 i hi
       try dsimp only at this
       rw[ex] at this
       simpa using this
      have hA2:∀i x,c<=i->a[ia+i]?=mn x->blt xb x=MK:=λi x hi ex=>by
       have hl:=(pe.mp ex).1;have:=hc3 i hi ()
       try dsimp only at this
       rw[ex] at this
       simpa using this
      have m2:MI blt a.7 b.7 (out++a.extract ia (ia+c)).7 (ia+c) ib:=by rw[xY];exact m.as o sb (Bm eb) hA1
      try dsimp only
      apply Hf (c:=c>0)
      case h1=>
       intro key hc0;refine Bb hc0 ?_
       by_cases c5:(ia+c+1==a.8)=MK
       .refine Bb c5 ?_
        exact gv {_,rfl,.inl {_,_,rfl,fin3 m2 (by rw[beq_iff_eq] at c5;lia)}}
       refine Ba c5 ?_
       by_cases c6:(ia+c==a.8)=MK
       .refine Bb c6 ?_
        exact gv {_,rfl,.inl {_,_,rfl,fin2 m2 (by rw[beq_iff_eq] at c6;lia)}}
       refine Ba c6 ?_;rw[beq_iff_eq] at c5 c6;have hi2:ia+c+1<a.8:=()
       have hA3:∀x,a[ia+c]?=mn x->blt xb x=MK:=λx ex=>hA2 c x (d8 _) ex;have hp2:y+(ia1+ib1)<=ia+c+ib:=()
       have m2:=m2
       revert hp2 hA3 hi2 m2
       generalize out++a.extract ia (ia+c)=out2;generalize ia+c=ia2
       revert ia2 out2
       exact key.h
      case h2=>
       intro key hc0;refine Ba hc0 ?_;have e0:c=0:=()
       have hi2:ia+1<a.8:=()
       have hA3:∀x,a[ia]?=mn x->blt xb x=MK:=λx ex=>hA2 0 x () ex;have hp2:y+(ia1+ib1)<=ia+ib:=()
       clear m2;have m2:=m
       revert hp2 hA3 hi2 m2
       generalize out=out2;generalize ia=ia2
       revert ia2 out2
       exact key.h
      case h=>
       intro out2 ia2 hi2 hA3 hp2 m2;obtain⟨xa,ea⟩:=Bn (show ia2<a.8 by lia);refine gg (Bo eb ?_);have m3:MI blt a.7 b.7 (out2.push xb).7 ia2 (ib+1):=by rw[Jf];exact m2.b (Bm ea) (Bm eb) (hA3 xa ea)
       by_cases c7:(ib+1==b.8)=MK
       .refine Bb c7 ?_
        exact gv {_,rfl,.inl {_,_,rfl,fin1 m3 (by rw[beq_iff_eq] at c7;lia)}}
       refine Ba c7 ?_;rw[beq_iff_eq] at c7;refine gg (Bo ea ?_);have gb:∀i,i<b.8-(ib+1)->∃x,b[ib+1+i]?=mn x/\P x/\iG blt MK xa x=(λi=>match b[ib+1+i]? with|some x=>blt x xa|none=>ML) i:=λi hi=>by
        obtain⟨x,ex⟩:=Bn (show ib+1+i<b.8 by lia);exact{x,ex,PB ex,by dsimp only;rw[ex];rfl}
       have gm:∀i j,i<=j->j<b.8-(ib+1)->(λi=>match b[ib+1+i]? with|some x=>blt x xa|none=>ML) j=MK->(λi=>match b[ib+1+i]? with|some x=>blt x xa|none=>ML) i=MK:=λi j hij hj e=>by
        obtain⟨x,ex⟩:=Bn (show ib+1+i<b.8 by lia);obtain⟨z,ez⟩:=Bn (show ib+1+j<b.8 by lia)
        try dsimp only at e ⊢
        rw[ex];rw[ez] at e
        try dsimp only at e ⊢
        exact o.lelt (Et o sb (show ib+1+i<=ib+1+j by lia) (Bm ex) (Bm ez)) e
       refine gg (F9 L hk (PA ea) (show 0<b.8-(ib+1) by lia) gb gm (λd hd1 hd2 hd3=>?_));have hB1:∀i x,i<d->b.7[ib+1+i]?=mn x->blt x xa=MK:=λi x hi ex=>by
        rw[ge] at ex;have:=hd2 i hi
        try dsimp only at this
        rw[ex] at this;exact this
       have hB2:∀i x,d<=i->b[ib+1+i]?=mn x->blt x xa=ML:=λi x hi ex=>by
        have hl:=(pe.mp ex).1;have:=hd3 i hi ()
        try dsimp only at this
        rw[ex] at this;exact this
       have m4:MI blt a.7 b.7 (out2.push xb++b.extract (ib+1) (ib+1+d)).7 ia2 (ib+1+d):=by rw[xY];exact m3.bs o sa (Bm ea) hB1
       try dsimp only
       apply Hf (c:=d>0)
       case h1=>
        intro key hd0;refine Bb hd0 ?_
        by_cases c8:(ib+1+d==b.8)=MK
        .refine Bb c8 ?_
         exact gv {_,rfl,.inl {_,_,rfl,fin1 m4 (by rw[beq_iff_eq] at c8;lia)}}
        refine Ba c8 ?_;rw[beq_iff_eq] at c8;have hi4:ib+1+d<b.8:=()
        have hB3:∀x,b[ib+1+d]?=mn x->blt x xa=ML:=λx ex=>hB2 d x (d8 _) ex;have hp4:y+(ia1+ib1)+1<=ia2+(ib+1+d):=()
        have m4:=m4
        revert hp4 hB3 hi4 m4
        generalize out2.push xb++b.extract (ib+1) (ib+1+d)=out4;generalize ib+1+d=ib4
        revert ib4 out4
        exact key.h
       case h2=>
        intro key hd0;refine Ba hd0 ?_;have hi4:ib+1<b.8:=()
        have hB3:∀x,b[ib+1]?=mn x->blt x xa=ML:=λx ex=>hB2 0 x () ex;have hp4:y+(ia1+ib1)+1<=ia2+(ib+1):=()
        clear m4;have m4:=m3
        revert hp4 hB3 hi4 m4
        generalize out2.push xb=out4;generalize ib+1=ib4
        revert ib4 out4
        exact key.h
       case h=>
        intro out4 ib4 hi4 hB3 hp4 m4;obtain⟨xb4,eb4⟩:=Bn hi4;refine gg (Bo ea ?_);have m5:MI blt a.7 b.7 (out4.push xa).7 (ia2+1) ib4:=by rw[Jf];exact m4.a (Bm ea) (Bm eb4) (hB3 xb4 eb4)
        by_cases c9:(ia2+1+1==a.8)=MK
        .refine Bb c9 ?_
         exact gv {_,rfl,.inl {_,_,rfl,fin3 m5 (by rw[beq_iff_eq] at c9;lia)}}
        refine Ba c9 ?_;rw[beq_iff_eq] at c9
        by_cases c10:(decide (c<7)&&decide (d<7))=MK
        .refine Bb c10 ?_
         exact gv {_,rfl,.inr {_,_,_,_,_,_,rfl,m5,(),hi4,()}}
        .refine Ba c10 ?_
         exact gv {_,_,_,_,_,_,_,rfl,rfl,m5,(),hi4,()}
    .intro c st' h0;exfalso;obtain⟨out,ia',ib',mg',ac,bc,g2,rfl,rfl,m,hia',hib',hpr'⟩:=h0
     have:max 0 (a.8+b.8)=a.8+b.8:=()
     lia
    .intro c st' h0;refine cpZ λX0 k0=>?_;obtain⟨g2,rfl,⟨r,cc,rfl,hr⟩|⟨out,ia2,ib2,mg2,ac,bc,rfl,m2,hia2,hib2,hpr2⟩⟩:=h0<;>refine k0 ?_
     .dsimp only
      exact gv ⟨r,g2,rfl,rfl,hr⟩
     .dsimp only
      refine gg (Pm (gv {_,_,_,_,_,rfl,rfl,m2,hia2,hib2,()}))
 .intro c st' h0;exfalso;obtain⟨out,ia,ib,g,g',rfl,rfl,m,hia,hib,hpr⟩:=h0
  have:max 0 (a.8+b.8)=a.8+b.8:=()
  lia
 .rintro⟨c,cc⟩ st' ⟨r,g',e,rfl,hr⟩
  try dsimp only at e
  subst e
  try dsimp only
  exact gv (h r g' hr)
end
def wU:Array gw->Array gw->StateT ke Sem (Array gw):=sortPriv% PySem.Builtin.mergeHi
theorem M7 (a:Array gw)(n:Nat):(a.extract 0 n).7=a.toList.take n:=by
 rw[ra,pz,qe,qm]
theorem Aaz (out a:Array gw)(c n:Nat):(out++(a.extract c n).reverse).7=out.7++((a.toList.drop c).take (n-c)).reverse:=by
 rw[jl,u5,ra,pz]
section
variable {prog:gu} {w:i7} {A:jp} {E:Za0} {s:fz}
variable {kd:ur} {P:gw->Prop} {blt:gw->gw->Bool} (L:nK prog w A E s kd P blt) (o:Swo blt)
include L o
theorem jX {a b:Array gw}{st:ke}{Q:Array gw->ke->Prop}(hk:kindOf st=kd)(ha:0<a.8)(hb:0<b.8)(pa:∀x∈a.7,P x)(pb:∀x∈b.7,P x)(sa:Srt blt a.7)(sb:Srt blt b.7)
  (hf:∀y,b[0]?=mn y->∀x∈a.7,blt y x=MK)(hl:∀x,a[a.8-1]?=mn x->∀y∈b.7,blt y x=MK)
  (h:∀r g,r.7=mg blt a.7 b.7->Q r (N5 st g)):wpS (model prog w) A E s (wU a b) Q st:=by
 have la:a.toList.9=a.8:=f9;have lb:b.toList.9=b.8:=f9;have PA:∀{i x},a[i]?=mn x->P x:=λe=>pa _ (gi (Bm e));have PB:∀{i x},b[i]?=mn x->P x:=λe=>pb _ (gi (Bm e));obtain⟨b0,eb0⟩:=Bn hb;obtain⟨al,eal⟩:=Bn (show a.8-1<a.8 by lia);have h0:MH blt a.7 b.7 [al] (a.8-1) b.8:=by
  have e:=M4 blt (as:=[al]) (a.toList.take (a.8-1)) b.7 λx hx y hy=>by rw[gl.mp hx];exact hl al eal y hy
  rw[<-G7 (Bm eal),vz ha,<-la,ny] at e;unfold MH;rw[<-lb,ny,e,la];rfl
 have finA:∀{out:Array gw} {na nb:Nat},MH blt a.7 b.7 out.7 na nb->na=0->(a.extract 0 na++b.extract 0 nb++out.reverse).7=mg blt a.7 b.7:=λm e=>by
  subst e;rw[jl,jl,M7,M7,u5];exact m.doneA
 have finB:∀{out:Array gw} {na nb:Nat},MH blt a.7 b.7 out.7 na nb->nb=0->(a.extract 0 na++b.extract 0 nb++out.reverse).7=mg blt a.7 b.7:=λm e=>by
  subst e;rw[jl,jl,M7,M7,u5];exact m.doneB
 have finF:∀{out:Array gw} {na nb:Nat},MH blt a.7 b.7 out.7 na nb->nb=1->(b.extract 0 nb++a.extract 0 na++out.reverse).7=mg blt a.7 b.7:=λm e=>by
  subst e;rw[jl,jl,M7,M7,u5];exact m.firstB (Bm eb0) (hf b0 eb0)
 refine gg (yl (qf {rfl,?_}));refine gg (Bo eal ?_)
 by_cases c1:(a.8-1==0)=MK
 .refine Bb c1 ?_
  exact gv (h _ (gallopOf st) (finA (out:=#[al]) h0 (by rw[beq_iff_eq] at c1;exact c1)))
 refine Ba c1 ?_
 by_cases c2:(b.8==1)=MK
 .refine Bb c2 ?_
  exact gv (h _ (gallopOf st) (finF (out:=#[al]) h0 (by rw[beq_iff_eq] at c2;exact c2)))
 refine Ba c2 ?_;rw[beq_iff_eq] at c1 c2;refine gg (wj ?_);refine gg (o8 (wpS_forRange
  (I:=λx c st'=>∃(out:Array gw) (na nb g g':Nat),c=(tp,na,nb,out,g)/\st'=N5 st g'/\MH blt a.7 b.7 out.7 na nb/\0<na/\na<=a.8/\1<nb/\nb<=b.8/\x+(na+nb)<=a.8+b.8)
  (Q:=λc st'=>∃(r:Array gw) (g':Nat),c.1=mn r/\st'=N5 st g'/\r.7=mg blt a.7 b.7) ?_ ?_ {#[al],a.8-1,b.8,_,gallopOf st,rfl,rfl,h0,(),(),(),(),()}) ?_)
 .intro x c st' _ hx h0;refine cpZ λX0 k0=>?_;obtain⟨out,na,nb,g,g',rfl,rfl,m,hna,hna2,hnb,hnb2,hpr⟩:=h0<;>refine k0 ?_
  try dsimp only
  refine gg (o8 (wpS_forRange
   (I:=λy c st'=>∃(out:Array gw) (na' nb' ac bc:Nat),c=(tp,na',nb',out,ac,bc)/\st'=N5 st g'/\MH blt a.7 b.7 out.7 na' nb'/\0<na'/\na'<=a.8/\1<nb'/\nb'<=b.8/\y+(na'+nb')<=na+nb)
   (Q:=λc st'=>st'=N5 st g'/\((∃r:Array gw,∃cc,c=(mn r,cc)/\r.7=mg blt a.7 b.7)\/∃(out:Array gw) (na' nb' ac bc:Nat),c=(tp,na',nb',out,ac,bc)/\MH blt a.7 b.7 out.7 na' nb'/\0<na'/\na'<=a.8/\1<nb'/\nb'<=b.8/\na'+nb'+1<=na+nb)) ?_ ?_ {out,na,nb,0,0,rfl,rfl,m,hna,hna2,hnb,hnb2,()}) ?_)
  .intro y c st' _ hy h0;refine cpZ λX0 k0=>?_;obtain⟨out,na,nb,ac,bc,rfl,rfl,m,hna,hna2,hnb,hnb2,hpr⟩:=h0;obtain⟨xa,ea⟩:=Bn (show na-1<a.8 by lia);obtain⟨xb,eb⟩:=Bn (show nb-1<b.8 by lia);refine k0 ?_
   try dsimp only
   refine gg (Bo eb (gg (Bo ea (gg (L _ _ _ _ (PB eb) (PA ea) hk ?_)))))
   cases hlt:blt xb xa with
   |true=>
    refine Bb rfl ?_;refine gg (Bo ea ?_);have m':MH blt a.7 b.7 (out.push xa).7 (na-1) nb:=by rw[Jf];exact m.a o sb hna () (Bm ea) (Bm eb) hlt
    by_cases c3:(na-1==0)=MK
    .refine Bb c3 ?_
     exact gv {rfl,.inl {_,_,rfl,finA m' (by rw[beq_iff_eq] at c3;exact c3)}}
    .refine Ba c3 ?_
     rw[beq_iff_eq] at c3
     by_cases c4:ac+1>=g
     .refine Bb c4 ?_
      exact gv {rfl,.inr {_,_,_,_,_,rfl,m',(),(),hnb,hnb2,()}}
     .refine Ba c4 ?_
      exact gv {_,_,_,_,_,rfl,rfl,m',(),(),hnb,hnb2,()}
   |false=>
    refine Ba (by decide) ?_;refine gg (Bo eb ?_);have m':MH blt a.7 b.7 (out.push xb).7 na (nb-1):=by rw[Jf];exact m.b o sa hna () (Bm ea) (Bm eb) hlt
    by_cases c3:(nb-1==1)=MK
    .refine Bb c3 ?_
     exact gv {rfl,.inl {_,_,rfl,finF m' (by rw[beq_iff_eq] at c3;exact c3)}}
    .refine Ba c3 ?_
     rw[beq_iff_eq] at c3
     by_cases c4:bc+1>=g
     .refine Bb c4 ?_
      exact gv {rfl,.inr {_,_,_,_,_,rfl,m',hna,hna2,(),(),()}}
     .refine Ba c4 ?_
      exact gv {_,_,_,_,_,rfl,rfl,m',hna,hna2,(),(),()}
  .intro c st' h0;exfalso;obtain⟨out,na',nb',ac,bc,rfl,rfl,m,h1,h2,h3,h4,h5⟩:=h0
   have:max 0 (a.8+b.8)=a.8+b.8:=()
   lia
  .intro c st' h0;refine cpZ λX0 k0=>?_;obtain⟨rfl,⟨r,cc,rfl,hr⟩|⟨out,na1,nb1,ac,bc,rfl,m1,q1,q2,q3,q4,q5⟩⟩:=h0<;>refine k0 ?_
   .try dsimp only
    exact gv ⟨r,g',rfl,rfl,hr⟩
   .try dsimp only
    refine gg (yl (qf {rfl,?_}));refine gg (o8 (wpS_forRange
     (I:=λy c st'=>∃(out:Array gw) (na' nb' mg' ac bc g2:Nat),c=(tp,na',nb',out,mg',ac,bc)/\st'=N5 st g2/\MH blt a.7 b.7 out.7 na' nb'/\0<na'/\na'<=a.8/\1<nb'/\nb'<=b.8/\y+(na'+nb')<=na1+nb1)
     (Q:=λc st'=>∃g2,st'=N5 st g2/\((∃r:Array gw,∃cc,c=(mn r,cc)/\r.7=mg blt a.7 b.7)\/∃(out:Array gw) (na' nb' mg' ac bc:Nat),c=(tp,na',nb',out,mg',ac,bc)/\MH blt a.7 b.7 out.7 na' nb'/\0<na'/\na'<=a.8/\1<nb'/\nb'<=b.8/\na'+nb'<=na1+nb1)) ?_ ?_ {out,na1,nb1,_,ac,bc,g',rfl,rfl,m1,q1,q2,q3,q4,()}) ?_)
    .intro y c st' _ hy h0;refine cpZ λX0 k0=>?_;obtain⟨out,na,nb,mg',ac,bc,g2,rfl,rfl,m,hna,hna2,hnb,hnb2,hpr⟩:=h0;obtain⟨xb,eb⟩:=Bn (show nb-1<b.8 by lia);refine k0 ?_
     try dsimp only
     apply Hf (c:=mg'>1)
     case h1=>
      intro way cg;refine Bb cg ?_;generalize mg'-1=mg2
      revert mg2
      exact way.h
     case h2=>
      intro way cg;refine Ba cg ?_;generalize mg'=mg2
      revert mg2
      exact way.h
     case h=>
      intro mg2;refine gg (Pm (gg (Bo eb ?_)));have gb:∀i,i<na->∃x,a[0+i]?=mn x/\P x/\iG blt ML xb x=(λi=>match a[0+i]? with|some x=>!(blt xb x)|none=>ML) i:=λi hi=>by
       obtain⟨x,ex⟩:=Bn (show 0+i<a.8 by lia);exact{x,ex,PA ex,by dsimp only;rw[ex];rfl}
      have gm:∀i j,i<=j->j<na->(λi=>match a[0+i]? with|some x=>!(blt xb x)|none=>ML) j=MK->(λi=>match a[0+i]? with|some x=>!(blt xb x)|none=>ML) i=MK:=λi j hij hj e=>by
       obtain⟨x,ex⟩:=Bn (show 0+i<a.8 by lia);obtain⟨z,ez⟩:=Bn (show 0+j<a.8 by lia);dsimp only at e ⊢;rw[ex];rw[ez] at e
       try dsimp only at e ⊢
       cases e1:blt xb x with
       |false=>rfl
       |true=>
        have:=o.ltle e1 (Et o sa (show 0+i<=0+j by lia) (Bm ex) (Bm ez));rw[this] at e;cases e
      refine gg (F9 L hk (PB eb) (show na-1<na by lia) gb gm (λc hc1 hc2 hc3=>?_));have hA1:∀i x,i<c->a[i]?=mn x->blt xb x=ML:=λi x hi ex=>by
       have:=hc2 i hi
       try dsimp only at this
       rw[k5,ex] at this
       simpa using this
      have hA2:∀i x,c<=i->i<na->a.7[i]?=mn x->blt xb x=MK:=λi x hi1 hi2 ex=>by
       rw[ge] at ex;have:=hc3 i hi1 hi2
       try dsimp only at this
       rw[k5,ex] at this
       simpa using this
      have m2:MH blt a.7 b.7 (out++(a.extract c na).reverse).7 c nb:=by rw[Aaz];exact m.as o sb hc1 () (Bm eb) hA2
      try dsimp only
      apply Hf (c:=na-c>0)
      case h1=>
       intro way hc0;refine Bb hc0 ?_
       by_cases c5:(c==0)=MK
       .refine Bb c5 ?_
        exact gv {_,rfl,.inl {_,_,rfl,finA m2 (by rw[beq_iff_eq] at c5;exact c5)}}
       refine Ba c5 ?_;rw[beq_iff_eq] at c5;have hi2:0<c:=()
       have hA3:∀x,a[c-1]?=mn x->blt xb x=ML:=λx ex=>hA1 (c-1) x () ex;have hp2:y+(c+nb)<=na1+nb1:=()
       have hq2:c<=a.8:=()
       have m2:=m2
       revert hi2 hA3 hp2 hq2 m2
       generalize out++(a.extract c na).reverse=out2;generalize na-c=kk;generalize c=na2
       revert out2 kk na2
       exact way.h
      case h2=>
       intro way hc0;refine Ba hc0 ?_;have e0:c=na:=()
       have hi2:0<na:=hna;have hA3:∀x,a[na-1]?=mn x->blt xb x=ML:=λx ex=>hA1 (na-1) x () ex;have hp2:y+(na+nb)<=na1+nb1:=()
       have hq2:na<=a.8:=hna2;clear m2;have m2:=m
       revert hi2 hA3 hp2 hq2 m2
       generalize out=out2;generalize na-c=kk;generalize na=na2
       revert out2 kk na2
       exact way.h
      case h=>
       intro out2 kk na2 hi2 hA3 hp2 hq2 m2;obtain⟨xa,ea⟩:=Bn (show na2-1<a.8 by lia);refine gg (Bo eb ?_);have m3:MH blt a.7 b.7 (out2.push xb).7 na2 (nb-1):=by rw[Jf];exact m2.b o sa hi2 () (Bm ea) (Bm eb) (hA3 xa ea)
       by_cases c7:(nb-1==1)=MK
       .refine Bb c7 ?_
        exact gv {_,rfl,.inl {_,_,rfl,finF m3 (by rw[beq_iff_eq] at c7;exact c7)}}
       refine Ba c7 ?_;rw[beq_iff_eq] at c7;refine gg (Bo ea ?_);have gb:∀i,i<nb-1->∃x,b[0+i]?=mn x/\P x/\iG blt MK xa x=(λi=>match b[0+i]? with|some x=>blt x xa|none=>ML) i:=λi hi=>by
        obtain⟨x,ex⟩:=Bn (show 0+i<b.8 by lia);exact{x,ex,PB ex,by dsimp only;rw[ex];rfl}
       have gm:∀i j,i<=j->j<nb-1->(λi=>match b[0+i]? with|some x=>blt x xa|none=>ML) j=MK->(λi=>match b[0+i]? with|some x=>blt x xa|none=>ML) i=MK:=λi j hij hj e=>by
        obtain⟨x,ex⟩:=Bn (show 0+i<b.8 by lia);obtain⟨z,ez⟩:=Bn (show 0+j<b.8 by lia);dsimp only at e ⊢;rw[ex];rw[ez] at e
        try dsimp only at e ⊢
        exact o.lelt (Et o sb (show 0+i<=0+j by lia) (Bm ex) (Bm ez)) e
       refine gg (F9 L hk (PA ea) (show nb-1-1<nb-1 by lia) gb gm (λd hd1 hd2 hd3=>?_));have hB1:∀i x,i<d->b[i]?=mn x->blt x xa=MK:=λi x hi ex=>by
        have:=hd2 i hi
        try dsimp only at this
        rw[k5,ex] at this;exact this
       have hB2:∀i x,d<=i->i<nb-1->b.7[i]?=mn x->blt x xa=ML:=λi x hi1 hi2 ex=>by
        rw[ge] at ex;have:=hd3 i hi1 hi2
        try dsimp only at this
        rw[k5,ex] at this;exact this
       have m4:MH blt a.7 b.7 (out2.push xb++(b.extract d (nb-1)).reverse).7 na2 d:=by rw[Aaz];exact m3.bs o sa hd1 hi2 (Bm ea) hB2
       try dsimp only
       apply Hf (c:=nb-1-d>0)
       case h1=>
        intro way hd0;refine Bb hd0 ?_
        by_cases c8:(d==1)=MK
        .refine Bb c8 ?_
         exact gv {_,rfl,.inl {_,_,rfl,finF m4 (by rw[beq_iff_eq] at c8;exact c8)}}
        refine Ba c8 ?_
        by_cases c9:(d==0)=MK
        .refine Bb c9 ?_
         exact gv {_,rfl,.inl {_,_,rfl,finB m4 (by rw[beq_iff_eq] at c9;exact c9)}}
        refine Ba c9 ?_;rw[beq_iff_eq] at c8 c9;have hi4:1<d:=()
        have hB3:∀x,b[d-1]?=mn x->blt x xa=MK:=λx ex=>hB1 (d-1) x () ex;have hp4:y+(na2+d)+1<=na1+nb1:=()
        have hq4:d<=b.8:=()
        have m4:=m4
        revert hi4 hB3 hp4 hq4 m4
        generalize out2.push xb++(b.extract d (nb-1)).reverse=out4;generalize nb-1-d=kd4;generalize d=nb4
        revert out4 kd4 nb4
        exact way.h
       case h2=>
        intro way hd0;refine Ba hd0 ?_;have hi4:1<nb-1:=()
        have hB3:∀x,b[nb-1-1]?=mn x->blt x xa=MK:=λx ex=>hB1 (nb-1-1) x () ex;have hp4:y+(na2+(nb-1))+1<=na1+nb1:=()
        have hq4:nb-1<=b.8:=()
        clear m4;have m4:=m3
        revert hi4 hB3 hp4 hq4 m4
        generalize out2.push xb=out4;generalize nb-1-d=kd4;generalize nb-1=nb4
        revert out4 kd4 nb4
        exact way.h
       case h=>
        intro out4 kd4 nb4 hi4 hB3 hp4 hq4 m4;obtain⟨xb4,eb4⟩:=Bn (show nb4-1<b.8 by lia);refine gg (Bo ea ?_);have m5:MH blt a.7 b.7 (out4.push xa).7 (na2-1) nb4:=by rw[Jf];exact m4.a o sb hi2 () (Bm ea) (Bm eb4) (hB3 xb4 eb4)
        by_cases c9:(na2-1==0)=MK
        .refine Bb c9 ?_
         exact gv {_,rfl,.inl {_,_,rfl,finA m5 (by rw[beq_iff_eq] at c9;exact c9)}}
        refine Ba c9 ?_;rw[beq_iff_eq] at c9
        by_cases c10:(decide (kk<7)&&decide (kd4<7))=MK
        .refine Bb c10 ?_
         exact gv {_,rfl,.inr {_,_,_,_,_,_,rfl,m5,(),(),hi4,hq4,()}}
        .refine Ba c10 ?_
         exact gv {_,_,_,_,_,_,_,rfl,rfl,m5,(),(),hi4,hq4,()}
    .intro c st' h0;exfalso;obtain⟨out,na',nb',mg',ac,bc,g2,rfl,rfl,m,h1,h2,h3,h4,h5⟩:=h0
     have:max 0 (a.8+b.8)=a.8+b.8:=()
     lia
    .intro c st' h0;refine cpZ λX0 k0=>?_;obtain⟨g2,rfl,⟨r,cc,rfl,hr⟩|⟨out,na2,nb2,mg2,ac,bc,rfl,m2,r1,r2,r3,r4,r5⟩⟩:=h0<;>refine k0 ?_
     .try dsimp only
      exact gv ⟨r,g2,rfl,rfl,hr⟩
     .try dsimp only
      refine gg (Pm (gv {_,_,_,_,_,rfl,rfl,m2,r1,r2,r3,r4,()}))
 .intro c st' h0;exfalso;obtain⟨out,na,nb,g,g',rfl,rfl,m,h1,h2,h3,h4,h5⟩:=h0
  have:max 0 (a.8+b.8)=a.8+b.8:=()
  lia
 .rintro⟨c,cc⟩ st' ⟨r,g',e,rfl,hr⟩
  dsimp only at e;subst e
  try dsimp only
  exact gv (h r g' hr)
end
theorem iF {xs:Array gw}{src d:Nat}(hs:src<xs.8)(hd:d<=src){x:gw}(hx:xs[src]?=mn x) :
  (bubble xs src d).7=xs.toList.take (src-d)++[x]++(xs.toList.drop (src-d)).take d++xs.toList.drop (src+1):=by
 have hl:xs.toList.9=xs.8:=f9;refine qa λk=>?_;rw[ge,getElem?_bubble hs d hd k];obtain⟨a,rfl⟩:=l6 hd;rw[i0];have l1:(xs.toList.take a).9=a:=by rw[fk,hl];exact iu ()
 have l2:((xs.toList.drop a).take d).9=d:=by rw[fk,i9,hl];exact iu ()
 have l3:(xs.toList.take a++[x]).9=a+1:=by rw[d7,l1];rfl
 have l4:(xs.toList.take a++[x]++(xs.toList.drop a).take d).9=a+1+d:=by rw[d7,l3,l2]
 by_cases h1:k=a
 .subst h1
  rw[if_pos rfl,hx,fh,fh,fg (oz l1),l1,jx];rfl
 .rw[if_neg h1]
  by_cases h2:a<k/\k<=d+a
  .obtain⟨i,rfl⟩:=l6 (show a+1<=k from h2.1)
   rw[if_pos h2,f7 (by rw[l4];lia),fg (by rw[l3];exact jz _ _),l3,i0,jy,if_pos (),jd,ge,Nat.add_right_comm,qo]
  .rw[if_neg h2]
   by_cases h3:k<a
   .rw[fh,fh,f7 (by rw[l1];exact h3),jy,if_pos h3,ge]
   .obtain⟨i,rfl⟩:=l6 (show a+1+d<=k by lia)
    rw[fg (by rw[l4];exact jz _ _),l4,i0,jd,ge,show d+a+1+i=a+1+d+i by lia]
theorem jR {xs:Array gw}{i j:Nat}(hij:i<=j)(hj:j<=xs.8) :
  (mirror xs i j ((j-i)/2)).7=xs.toList.take i++((xs.toList.drop i).take (j-i)).reverse++xs.toList.drop j:=by
 have hl:xs.toList.9=xs.8:=f9;refine qa λk=>?_;rw[ge,getElem?_mirror_all (i:=i) hj k];obtain⟨m,rfl⟩:=l6 hij;rw[i0];have l1:(xs.toList.take i).9=i:=by rw[fk,hl];exact iu ()
 have l2:((xs.toList.drop i).take m).9=m:=by rw[fk,i9,hl];exact iu ()
 have l3:(xs.toList.take i++((xs.toList.drop i).take m).reverse).9=i+m:=by rw[d7,ou,l1,l2]
 by_cases h2:k<i
 .rw[if_neg (λz=>KM.mpr h2 z.1),fh,f7 (by rw[l1];exact h2),jy,if_pos h2,ge]
 .obtain⟨r,rfl⟩:=l6 (su.mp h2)
  by_cases h1:r<m
  .obtain⟨q,rfl⟩:=l6 (show r+1<=m from h1)
   rw[if_pos {jz _ _,()},f7 (by rw[l3];lia),fg (by rw[l1];exact jz _ _),l1,i0,
    List.getElem?_reverse (by rw[l2];exact h1),l2,jy,if_pos (),jd,ge]
   congr 1;lia
  .obtain⟨q,rfl⟩:=l6 (su.mp h1)
   rw[if_neg (),fg (by rw[l3];lia),l3,jd,ge,<-jt,i0]
theorem iY (sa:Nat):∀(l:List gw) (k:Nat) (xs:Array gw),sa+k+l.9<=xs.8 ->
  ((l.zipIdx k).foldl (λa q=>a.setIfInBounds (sa+q.2) q.1) xs).7=xs.toList.take (sa+k)++l++xs.toList.drop (sa+k+l.9)
 |[],k,xs,h=>by
  rw[List.zipIdx_nil,GU,gp,jg,og,iq]
 |p::l,k,xs,h=>by
  have hl:xs.toList.9=xs.8:=f9;rw[f8] at h;rw[List.zipIdx_cons,qp,iY sa l (k+1) _ (by rw[Array.size_setIfInBounds];lia),AX,f8];have e1:(xs.toList.set (sa+k) p).take (sa+(k+1))=xs.toList.take (sa+k)++[p]:=by
   rw[show sa+(k+1)=sa+k+1 by lia,G7 (x:=p) (by rw[y4,if_pos rfl,if_pos ()]),List.take_set_of_le ()]
  have e2:(xs.toList.set (sa+k) p).drop (sa+(k+1)+l.9)=xs.toList.drop (sa+k+(l.9+1)):=by
   rw[List.drop_set_of_lt ()];congr 1;lia
  rw[e1,e2,fh,fh,fh];rfl
section
variable {prog:gu} {w:i7} {A:jp} {E:Za0} {s:fz}
theorem Acf {G:Type}{st st':G}{Q:PUnit->G->Prop}(h:Q ⟨⟩ st'):wpS M A E s (set st':StateT G Sem PUnit) Q st:=by
 unfold wpS;rw[StateT.run_set];exact fu ⟨rfl,h⟩
theorem Ej {l:List gw}{i j:Nat}(h:j<n):((l.drop i).take n)[j]?=l[i+j]?:=by rw[jy,if_pos h,jd]
theorem Im {l:List gw}{i:Nat}(h:i+n<=l.9):((l.drop i).take n).9=n:=by rw[fk,i9];lia
theorem jK (a:Array gw)(i j:Nat):(a.extract i j).7=(a.toList.drop i).take (j-i):=by rw[ra,pz]
variable {kd:ur} {P:gw->Prop} {blt:gw->gw->Bool} (L:nK prog w A E s kd P blt) (o:Swo blt)
include L o
theorem jL {st:ke}{i sa na nb p p':Nat}{Q:Bool->ke->Prop}(hk:kindOf st=kd)(hf:failedOf st=tp)(h1:(pendingOf st)[i]?=mn (sa,na,p))(h2:(pendingOf st)[i+1]?=mn (sa+na,nb,p'))(hn:0<na)(hm:0<nb)
  (hsz:sa+na+nb<=(arrOf st).8)(hP:∀x∈(arrOf st).7,P x)(sU:Srt blt (((arrOf st).toList.drop sa).take na))(sW:Srt blt (((arrOf st).toList.drop (sa+na)).take nb))
  (h:∀st':ke,kindOf st'=kd->failedOf st'=tp->pendingOf st'=((pendingOf st).setIfInBounds i (sa,na+nb,p)).eraseIdxIfInBounds (i+1) ->
   (arrOf st').7=(arrOf st).toList.take sa++mg blt (((arrOf st).toList.drop sa).take na) (((arrOf st).toList.drop (sa+na)).take nb)++(arrOf st).toList.drop (sa+na+nb)->Q MK st') :
  wpS (model prog w) A E s (mergeAt' i) Q st:=by
 have hl:(arrOf st).toList.length=(arrOf st).8:=f9;have PA:∀{i x},(arrOf st)[i]?=mn x->P x:=λe=>hP _ (gi (Bm e));have lU:(((arrOf st).toList.drop sa).take na).9=na:=Im ();have lW:(((arrOf st).toList.drop (sa+na)).take nb).9=nb:=Im ();have whole:(arrOf st).toList.take sa++(((arrOf st).toList.drop sa).take na++((arrOf st).toList.drop (sa+na)).take nb)++(arrOf st).toList.drop (sa+na+nb)=(arrOf st).7:=by
  rw[<-fh,fh,<-F8,fh,<-F8,iq]
 refine gg (wj ?_);rw[h1,h2];dsimp only;obtain⟨w0,e0⟩:=Bn (show sa+na<(arrOf st).8 by lia);refine gg (Acf ?_);refine gg (Bo e0 ?_);have gb:∀j,j<na->∃x,(arrOf st)[sa+j]?=mn x/\P x/\iG blt ML w0 x=(λj=>match (arrOf st)[sa+j]? with|some x=>!(blt w0 x)|none=>ML) j:=λj hj=>by
  obtain⟨x,ex⟩:=Bn (show sa+j<(arrOf st).8 by lia);exact{x,ex,PA ex,by dsimp only;rw[ex];rfl}
 have gm:∀j j',j<=j'->j'<na->(λj=>match (arrOf st)[sa+j]? with|some x=>!(blt w0 x)|none=>ML) j'=MK->(λj=>match (arrOf st)[sa+j]? with|some x=>!(blt w0 x)|none=>ML) j=MK:=λj j' hij hj e=>by
  obtain⟨x,ex⟩:=Bn (show sa+j<(arrOf st).8 by lia);obtain⟨z,ez⟩:=Bn (show sa+j'<(arrOf st).8 by lia);dsimp only at e ⊢;rw[ex];rw[ez] at e
  try dsimp only at e ⊢
  cases e1:blt w0 x with
  |false=>rfl
  |true=>
   have:=o.ltle e1 (Et o sU hij (by rw[Ej ()];exact Bm ex) (by rw[Ej hj];exact Bm ez));rw[this] at e;cases e
 refine gg (F9 L hk (PA e0) hn gb gm (λc hc1 hc2 hc3=>?_));have hA1:∀j x,j<c->(arrOf st)[sa+j]?=mn x->blt w0 x=ML:=λj x hj ex=>by
  have:=hc2 j hj
  try dsimp only at this
  rw[ex] at this
  simpa using this
 have hA2:∀j x,c<=j->j<na->(arrOf st)[sa+j]?=mn x->blt w0 x=MK:=λj x hj1 hj2 ex=>by
  have:=hc3 j hj1 hj2
  try dsimp only at this
  rw[ex] at this
  simpa using this
 clear gb gm hc2 hc3
 -- the first c stay ahead of all
 have hw0:(((arrOf st).toList.drop (sa+na)).take nb)[0]?=mn w0:=by rw[Ej hm];exact Bm e0
 have eU:mg blt (((arrOf st).toList.drop sa).take na) (((arrOf st).toList.drop (sa+na)).take nb)=((arrOf st).toList.drop sa).take c++mg blt (((arrOf st).toList.drop (sa+c)).take (na-c)) (((arrOf st).toList.drop (sa+na)).take nb):=by
  have e1:((arrOf st).toList.drop sa).take na=((arrOf st).toList.drop sa).take c++((arrOf st).toList.drop (sa+c)).take (na-c):=by
   rw[Fj _ hc1,md]
  rw[e1,El blt λx hx y hy=>?_];obtain⟨j,hj,ex⟩:=Dp hx;obtain⟨j',ey⟩:=l9 hy;rw[ge] at ex;exact o.le (hA1 j x hj ex) (Et o sW (gy j') hw0 ey)
 try dsimp only
 by_cases c1:(na-c==0)=MK
 .rw[if_pos c1]
  rw[beq_iff_eq] at c1;refine gv (h _ hk hf rfl ?_);have:c=na:=()
  rw[eU,this,jx,pf,Ea,whole]
 rw[if_neg c1];rw[beq_iff_eq] at c1;have hnc:c+(na-c)=na:=vn hc1;have hn1:1<=na-c:=Nat.pos_of_ne_zero c1;have ia:sa+c+(na-c)-1=sa+na-1:=by rw[jt,hnc]
 have ia2:sa+c+(na-c-1)=sa+na-1:=(zi hn1 _).symm.trans ia;obtain⟨al,eal⟩:=Bn (show sa+na-1<(arrOf st).8 by lia);refine gg (Bo (by rw[ia];exact eal) ?_);have gb:∀j,j<nb->∃x,(arrOf st)[sa+na+j]?=mn x/\P x/\iG blt MK al x=(λj=>match (arrOf st)[sa+na+j]? with|some x=>blt x al|none=>ML) j:=λj hj=>by
  obtain⟨x,ex⟩:=Bn (show sa+na+j<(arrOf st).8 by lia);exact{x,ex,PA ex,by dsimp only;rw[ex];rfl}
 have gm:∀j j',j<=j'->j'<nb->(λj=>match (arrOf st)[sa+na+j]? with|some x=>blt x al|none=>ML) j'=MK->(λj=>match (arrOf st)[sa+na+j]? with|some x=>blt x al|none=>ML) j=MK:=λj j' hij hj e=>by
  obtain⟨x,ex⟩:=Bn (show sa+na+j<(arrOf st).8 by lia);obtain⟨z,ez⟩:=Bn (show sa+na+j'<(arrOf st).8 by lia);dsimp only at e ⊢;rw[ex];rw[ez] at e
  try dsimp only at e ⊢
  exact o.lelt (Et o sW hij (by rw[Ej ()];exact Bm ex) (by rw[Ej hj];exact Bm ez)) e
 refine gg (F9 L hk (PA eal) (show nb-1<nb by lia) gb gm (λd hd1 hd2 hd3=>?_));have hB1:∀j x,j<d->(arrOf st)[sa+na+j]?=mn x->blt x al=MK:=λj x hj ex=>by
  have:=hd2 j hj
  try dsimp only at this
  rw[ex] at this;exact this
 have hB2:∀j x,d<=j->j<nb->(arrOf st)[sa+na+j]?=mn x->blt x al=ML:=λj x hj1 hj2 ex=>by
  have:=hd3 j hj1 hj2
  try dsimp only at this
  rw[ex] at this;exact this
 clear gb gm hd2 hd3;have lX:(((arrOf st).toList.drop (sa+c)).take (na-c)).9=na-c:=Im ();have lY:(((arrOf st).toList.drop (sa+na)).take d).9=d:=Im ();have sX:Srt blt (((arrOf st).toList.drop (sa+c)).take (na-c)):=by
  have e1:((arrOf st).toList.drop sa).take na=((arrOf st).toList.drop sa).take c++((arrOf st).toList.drop (sa+c)).take (na-c):=by
   rw[Fj _ hc1,md]
  rw[e1] at sU;exact(p8.mp sU).2.1
 have eW1:((arrOf st).toList.drop (sa+na)).take nb=((arrOf st).toList.drop (sa+na)).take d++((arrOf st).toList.drop (sa+na+d)).take (nb-d):=by
  rw[Fj _ hd1,md]
 have sY:Srt blt (((arrOf st).toList.drop (sa+na)).take d):=by
  rw[eW1] at sW;exact(p8.mp sW).1
 have hal:(((arrOf st).toList.drop (sa+c)).take (na-c))[na-c-1]?=mn al:=by
  rw[Ej (FN hn1 EK),ia2];exact Bm eal
 have eW:mg blt (((arrOf st).toList.drop (sa+c)).take (na-c)) (((arrOf st).toList.drop (sa+na)).take nb)=mg blt (((arrOf st).toList.drop (sa+c)).take (na-c)) (((arrOf st).toList.drop (sa+na)).take d)++((arrOf st).toList.drop (sa+na+d)).take (nb-d):=by
  rw[eW1,M2 blt _ _ λy hy x hx=>?_];obtain⟨j,hj,ey⟩:=Dp hy;obtain⟨j',ex⟩:=l9 hx;have hj':=(fq.mp ex).1;rw[lX] at hj';rw[ge,jt] at ey;exact o.le (Et o sX (Nat.le_sub_one_of_lt hj') ex hal) (hB2 (d+j) y () () ey)
 try dsimp only
 by_cases c2:(d==0)=MK
 .rw[if_pos c2]
  rw[beq_iff_eq] at c2;refine gv (h _ hk hf rfl ?_);rw[eU,eW,c2,pf,B4,og,qm];have e1:((arrOf st).toList.drop sa).take na=((arrOf st).toList.drop sa).take c++((arrOf st).toList.drop (sa+c)).take (na-c):=by
   rw[Fj _ hc1,md]
  rw[<-fh (((arrOf st).toList.drop sa).take c),<-e1];exact whole.symm
 rw[if_neg c2];rw[beq_iff_eq] at c2
 -- Uw stretches
 have xL:((arrOf st).extract (sa+c) (sa+na)).7=((arrOf st).toList.drop (sa+c)).take (na-c):=by
  rw[jK,show sa+na-(sa+c)=na-c by lia]
 have yL:((arrOf st).extract (sa+na) (sa+na+d)).7=((arrOf st).toList.drop (sa+na)).take d:=by
  rw[jK,show sa+na+d-(sa+na)=d by lia]
 have xS:((arrOf st).extract (sa+c) (sa+na)).8=na-c:=by rw[<-f9,xL,lX]
 have yS:((arrOf st).extract (sa+na) (sa+na+d)).8=d:=by rw[<-f9,yL,lY]
 have x0:∀{i x},((arrOf st).extract (sa+c) (sa+na))[i]?=mn x->i<na-c/\(arrOf st)[sa+c+i]?=mn x:=λ{i x} e=>by
  have hi:=(pe.mp e).1;rw[xS] at hi;have:=Bm e;rw[xL,Ej hi,ge] at this;exact⟨hi,this⟩
 have y0:∀{i x},((arrOf st).extract (sa+na) (sa+na+d))[i]?=mn x->i<d/\(arrOf st)[sa+na+i]?=mn x:=λ{i x} e=>by
  have hi:=(pe.mp e).1;rw[yS] at hi;have:=Bm e;rw[yL,Ej hi,ge] at this;exact⟨hi,this⟩
 have hlast:∀x,((arrOf st).extract (sa+c) (sa+na))[((arrOf st).extract (sa+c) (sa+na)).8-1]?=mn x->∀y∈((arrOf st).extract (sa+na) (sa+na+d)).7,blt y x=MK:=λx ex y hy=>by
  obtain⟨_,e2⟩:=x0 ex;rw[xS,ia2,eal] at e2;cases e2;rw[yL] at hy;obtain⟨j,hj,ey⟩:=Dp hy;rw[ge] at ey;exact hB1 j y hj ey
 have hfirst:∀y,((arrOf st).extract (sa+na) (sa+na+d))[0]?=mn y->∀x∈((arrOf st).extract (sa+c) (sa+na)).7,blt y x=MK:=λy ey x hx=>by
  obtain⟨_,e2⟩:=y0 ey;rw[og,e0] at e2;cases e2;rw[xL] at hx;obtain⟨j,hj,ex⟩:=Dp hx;rw[ge,jt] at ex;exact hA2 (c+j) x (jz _ _) (by rw[rk];exact Nat.add_lt_of_lt_sub hj) ex
 have fin:∀(r:Array gw) (st1:ke),r.7=mg blt ((arrOf st).extract (sa+c) (sa+na)).7 ((arrOf st).extract (sa+na) (sa+na+d)).7->kindOf st1=kd->failedOf st1=tp ->
   pendingOf st1=((pendingOf st).setIfInBounds i (sa,na+nb,p)).eraseIdxIfInBounds (i+1)->arrOf st1=arrOf st ->
   Q MK (setArr st1 (r.toList.zipIdx.foldl (λa q=>a.setIfInBounds (sa+c+q.2) q.1) (arrOf st1))):=λr st1 hr q1 q2 q3 q4=>by
  refine h _ q1 q2 q3 ?_;show(r.toList.zipIdx.foldl (λa q=>a.setIfInBounds (sa+c+q.2) q.1) (arrOf st1)).7=_;have lr:r.toList.9=na-c+d:=by rw[hr,(Ms blt _ _).length_eq,d7,xL,yL,lX,lY]
  rw[q4,iY (sa+c) r.7 0 (arrOf st) (by rw[lr,og,<-jt,jt sa,hnc];lia),og,lr,hr,xL,yL,eU,eW];have e3:(arrOf st).toList.take (sa+c)=(arrOf st).toList.take sa++((arrOf st).toList.drop sa).take c:=by rw[uy]
  have e4:(arrOf st).toList.drop (sa+c+(na-c+d))=((arrOf st).toList.drop (sa+na+d)).take (nb-d)++(arrOf st).toList.drop (sa+na+nb):=by
   rw[<-jt,jt sa,hnc,show sa+na+nb=sa+na+d+(nb-d) by rw[jt (sa+na),vn hd1]];exact F8 _ _ _
  rw[e3,e4];simp only[fh]
 have pX:∀x∈((arrOf st).extract (sa+c) (sa+na)).7,P x:=λx hx=>by rw[xL] at hx;exact hP x (p9 (mz hx))
 have pY:∀x∈((arrOf st).extract (sa+na) (sa+na+d)).7,P x:=λx hx=>by rw[yL] at hx;exact hP x (p9 (mz hx))
 have done:∀(r:Array gw) (g:Nat),r.7=mg blt ((arrOf st).extract (sa+c) (sa+na)).7 ((arrOf st).extract (sa+na) (sa+na+d)).7 ->
   Q (failedOf st).isNone (setArr (vm (kindOf st) (arrOf st) (((pendingOf st).setIfInBounds i (sa,na+nb,p)).eraseIdxIfInBounds (i+1)) g (failedOf st)) (r.toList.zipIdx.foldl (λa q=>a.setIfInBounds (sa+c+q.2) q.1) (arrOf st))):=λr g hr=>by
  have:=fin r (vm (kindOf st) (arrOf st) (((pendingOf st).setIfInBounds i (sa,na+nb,p)).eraseIdxIfInBounds (i+1)) g (failedOf st)) hr hk hf rfl rfl;rw[show(failedOf st).isNone=MK by rw[hf];rfl];exact this
 by_cases c3:na-c<=d
 .rw[if_pos c3]
  refine gg (mE L o hk (by rw[xS];lia) (by rw[yS];lia) pX pY (by rw[xL];exact sX) (by rw[yL];exact sY) (λx y ex ey=>hfirst y ey x (gi (Bm ex))) hlast λr g hr=>?_);exact gg (wq (gg (wj (gv (done r g hr)))))
 .rw[if_neg c3]
  refine gg (jX L o hk (by rw[xS];lia) (by rw[yS];lia) pX pY (by rw[xL];exact sX) (by rw[yL];exact sY) hfirst hlast λr g hr=>?_);exact gg (wq (gg (wj (gv (done r g hr)))))
end
theorem Aaj {blt:gw->gw->Bool}(o:Swo blt){l:List gw}{x y:gw}(h:Srt blt l)(hy:l[l.9-1]?=mn y)(hx:blt x y=ML):Srt blt (l++[x]):=by
 refine p8.mpr {h,sy _ _,λa ha b hb=>?_};rw[gl.mp hb];obtain⟨j,hj⟩:=l9 ha;have hl:=(fq.mp hj).1;exact o.le (Et o h (show j<=l.9-1 by lia) hj hy) hx
theorem Ia {xs:Array gw}{U V W:List gw}{i j:Nat}(e:xs.7=U++V++W)(hi:i=U.9)(hj:j=U.9+V.9):(mirror xs i j ((j-i)/2)).7=U++V.reverse++W:=by
 have hl:xs.8=U.9+V.9+W.9:=by rw[<-f9,e,d7,d7]
 rw[jR () (),e,hi,hj];have e1:(U++V++W).take U.9=U:=by rw[fh,jh (d8 _),ny]
 have e2:(U++V++W).drop U.9=V++W:=by rw[fh,mo (d8 _),re,jv]
 have e3:(U++V++W).drop (U.9+V.9)=W:=by rw[<-md,e2,mo (d8 _),re,jv]
 rw[e1,e2,e3,i0,jh (d8 _),ny]
theorem pI {blt:gw->gw->Bool}(o:Swo blt){a b:List gw}(h:Srt blt (At blt a++b)):At blt (a++b)=At blt a++b:=by
 have hp:=p8.mp h;rw[Yv o,Ka hp.2.1];have:=El blt (ys:=b) (as:=At blt a) (xs:=[]) λx hx y hy=>hp.2.2 x hx y hy;rw[gp,Ea] at this;exact this
section
variable {prog:gu} {w:i7} {A:jp} {E:Za0} {s:fz}
variable {kd:ur} {P:gw->Prop} {blt:gw->gw->Bool} (L:nK prog w A E s kd P blt) (o:Swo blt)
include L
theorem Js {st:ke}{i j:Nat}{x y:gw}{Q:Option Bool->ke->Prop}(hk:kindOf st=kd)(hi:(arrOf st)[i]?=mn x)(hj:(arrOf st)[j]?=mn y)(px:P x)(py:P y)(h:Q (mn (blt x y)) st) :
  wpS (model prog w) A E s (ltAt' i j) Q st:=by
 rw[ltAt'_eq];refine gg (wj ?_);exact gg (Bo hi (gg (Bo hj (L _ _ _ _ px py hk h))))
include o
theorem gY {st:ke}{lo a nrem:Nat}{T C D:List gw}{F:Nat->Option (Option Nat)×Nat->StateT ke Sem (ForInStep (Option (Option Nat)×Nat))}{Q:Option (Option Nat)×Nat->ke->Prop}
  (hF:∀x n,F x (tp,n)=(do
   let r <-ltAt' (lo+n) (lo+n-1)
   match r with
   |some smaller=>if smaller=MK then pure (sg (tp,n)) else pure (rg (tp,n+1))
   |x=>pure (sg (mn tp,n))))
  (hk:kindOf st=kd)(hP:∀x∈(arrOf st).7,P x)(hT:T.9=lo)(hD:D.9=nrem)(ha:1<=a)(han:a<=nrem)(hC:C.9=a)(e:(arrOf st).7=T++C++D.drop a)(sC:Srt blt C)
  (h:∀n,a<=n->n<=nrem->Srt blt (C++(D.drop a).take (n-a))->(n=nrem\/∃x y,(C++D.drop a)[n]?=mn x/\(C++D.drop a)[n-1]?=mn y/\blt x y=MK)->Q (tp,n) st) :
  wpS (model prog w) A E s (forIn [a:nrem] (tp,a) F) Q st:=by
 have hl:(C++D.drop a).9=nrem:=by rw[d7,i9];lia
 have at_:∀j,(arrOf st)[lo+j]?=(C++D.drop a)[j]?:=λj=>by
  rw[<-ge,e,fh,fg (),hT,i0]
 have ctk:∀n,a<=n->n<=nrem->C++(D.drop a).take (n-a)=(C++D.drop a).take n:=λn h1 h2=>by
  rw[FY,fv (l:=C) (),hC]
 refine wpS_forRange (I:=λx c st'=>st'=st/\c=(tp,x)/\Srt blt ((C++D.drop a).take x)) ?_ ?_ {rfl,rfl,?_}
 .rintro x c st' hx1 hx2 ⟨rfl,rfl,hs⟩
  rw[hF];obtain⟨u,eu⟩:∃u,(C++D.drop a)[x]?=mn u:={_,d6 ()};obtain⟨v,ev⟩:∃v,(C++D.drop a)[x-1]?=mn v:={_,d6 ()};have pu:(arrOf st')[lo+x]?=mn u:=by rw[at_];exact eu
  have pv:(arrOf st')[lo+x-1]?=mn v:=by rw[show lo+x-1=lo+(x-1) by lia,at_];exact ev
  refine gg (Js L hk pu pv (hP _ (gi (Bm pu))) (hP _ (gi (Bm pv))) ?_);dsimp only
  cases hb:blt u v with
  |true=>
   rw[if_pos rfl];exact gv (h x hx1 () (by rw[ctk x hx1 ()];exact hs) (.inr ⟨u,v,eu,ev,hb⟩))
  |false=>
   rw[if_neg (by decide)];refine gv {rfl,rfl,?_};rw[G7 eu];refine Aaj o hs ?_ hb;rw[fk,hl,iu (gz hx2),jy,if_pos (FN () EK)];exact ev
 .rintro c st' ⟨rfl,rfl,hs⟩
  have:max a nrem=nrem:=()
  rw[this] at hs ⊢;exact h nrem han (d8 _) (by rw[ctk nrem han (d8 _)];exact hs) (.inl rfl)
 .rw[<-ctk a (d8 _) han,jx,pf,gp]
  exact sC
theorem Xc {st:ke}{lo nrem:Nat}{Q:Option Nat->ke->Prop}(hk:kindOf st=kd)(hP:∀x∈(arrOf st).7,P x)(hn:lo+nrem=(arrOf st).8)(h1:1<=nrem)
  (h:∀m (xs:Array gw),1<=m->m<=nrem->xs.7=(arrOf st).toList.take lo++At blt (((arrOf st).toList.drop lo).take m)++((arrOf st).toList.drop lo).drop m->Q (mn m) (setArr st xs)) :
  wpS (model prog w) A E s (countRun' lo nrem) Q st:=by
 have hl:(arrOf st).toList.length=(arrOf st).8:=f9;generalize hT:(arrOf st).toList.take lo=T at *;generalize hD:(arrOf st).toList.drop lo=D at *;have e:(arrOf st).7=T++D:=by rw[<-hT,<-hD,iq]
 have lT:T.9=lo:=by rw[<-hT,fk];lia
 have lD:D.9=nrem:=by rw[<-hD,i9];lia
 obtain⟨d0,e0⟩:∃d0,D[0]?=mn d0:={_,d6 ()};have eD:D.take 1++D.drop 1=D:=iq 1 D;refine gg (gY L o (T:=T) (C:=D.take 1) (D:=D) (λx n=>rfl) hk hP lT lD (d8 1) h1 (by rw[fk];lia) (by rw[fh,eD];exact e) (by rw[G7 e0];exact sy _ _) λn hn1 hn2 sn hor=>?_);have etk:D.take 1++(D.drop 1).take (n-1)=D.take n:=by rw[show n=1+(n-1) by lia,uy,i0]
 rw[etk] at sn;rw[eD] at hor;dsimp only;have PD:∀y∈D,P y:=λy hy=>hP y (by rw[e];exact jc _ hy)
 by_cases c1:(n==nrem)=MK
 .rw[if_pos c1]
  refine gv (h n (arrOf st) hn1 hn2 ?_);rw[Ka sn,fh,iq];exact e
 rw[if_neg c1];rw[beq_iff_eq] at c1;obtain⟨x,y,ex,ey,hxy⟩:=hor.resolve_left c1;have lDn:(D.take n).9=n:=by rw[fk];lia
 apply Hf (c:=n>1)
 case h1=>
  intro way hgt;rw[if_pos hgt];have a0:(arrOf st)[lo]?=mn d0:=by rw[<-ge,e,fg (),lT,jx];exact e0
  have ay:(arrOf st)[lo+n-1]?=mn y:=by rw[zi hn1,<-ge,e,fg (by rw[lT];exact jz _ _),lT,i0];exact ey
  refine gg (Js L hk a0 ay (PD _ (gi e0)) (PD _ (gi ey)) ?_);dsimp only
  by_cases hrose:blt d0 y=MK
  .rw[if_pos hrose]
   refine gv (h n (arrOf st) hn1 hn2 ?_);rw[Ka sn,fh,iq];exact e
  rw[if_neg hrose];have hrose:blt d0 y=ML:=by simpa using hrose
  have key:∀j z,j<n->D[j]?=mn z->blt z y=ML:=λj z hj ez=>by
   have h2:=Et o sn (gy j) (by rw[jy,if_pos ()];exact e0) (by rw[jy,if_pos hj];exact ez)
   cases hc:blt z y with
   |false=>rfl
   |true=>
    rcases o.ng z d0 y hc with h3|h3
    .rw[h2] at h3;cases h3
    .rw[hrose] at h3;cases h3
  have hall:∀z∈D.take n,blt x z=MK:=λz hz=>by
   obtain⟨j,hj,ez⟩:=Kh hz;exact o.ltle hxy (key j z hj ez)
  refine gg (yk ?_);have m1:=Ia (xs:=arrOf st) (U:=T) (V:=D.take n) (W:=D.drop n) (i:=lo) (j:=lo+n) (by rw[fh,iq];exact e) lT.symm (by rw[lDn,lT])
  revert hall m1
  generalize mirror (arrOf st) lo (lo+n) ((lo+n-lo)/2)=xs1
  revert xs1
  exact way.h
 case h2=>
  intro way hgt;rw[if_neg hgt];have n1:n=1:=()
  have hall:∀z∈D.take n,blt x z=MK:=λz hz=>by
   obtain⟨j,hj,ez⟩:=Kh hz;have:j=n-1:=()
   rw[this,ey] at ez;cases ez;exact hxy
  have m1:(arrOf st).7=T++(D.take n).reverse++D.drop n:=by
   rw[n1,G7 e0,pf,jv,List.reverse_singleton,e,fh];show T++D=T++(d0::D.drop (0+1));rw[<-Ff e0,qe]
  exact way.h (arrOf st) hall m1
 case h=>
  intro xs1 hall m1;refine gg (yl (qf {rfl,?_}));refine gg (o8 (wpS_forRange
   (I:=λu c st'=>∃(neq:Nat) (xs:Array gw) (hd tl:List gw),c=(tp,u,neq)/\st'=setArr st xs/\xs.7=T++(hd++tl)++D.drop u/\(hd++tl).9=u/\tl.9=neq+1/\At blt (D.take u)=tl++hd.reverse/\(∀a∈hd,∀b∈tl,blt b a=MK)/\(∀a∈tl,∀b∈tl,blt a b=ML))
   (Q:=λc st'=>∃(m neq:Nat) (xs:Array gw) (hd tl:List gw),c=(tp,m,neq)/\n+1<=m/\m<=nrem/\st'=setArr st xs/\xs.7=T++(hd++tl)++D.drop m/\(hd++tl).9=m/\tl.9=neq+1/\At blt (D.take m)=tl++hd.reverse) ?_ ?_ {0,xs1,(D.take n).reverse,[x],rfl,rfl,?_,?_,rfl,?_,?_,?_}) ?_)
  .intro u c st' hu1 hu2 h0;refine cpZ λX0 k0=>?_;obtain⟨neq,xs,hd,tl,rfl,rfl,q1,q2,q3,q4,q5,q6⟩:=h0<;>refine k0 ?_
   dsimp only;obtain⟨v,ev⟩:∃v,D[u]?=mn v:={_,d6 ()};obtain⟨t,et⟩:∃t,tl[tl.9-1]?=mn t:={_,d6 ()};have htl:=gi et;have PT:∀z∈tl,P z:=λz hz=>PD z (mz ((C9 blt (D.take u)).mem_iff.mp (by rw[q4];exact oh _ hz)));have pv:(arrOf (setArr st xs))[lo+u]?=mn v:=by
    show xs[lo+u]?=mn v;rw[<-ge,q1,fg (by rw[d7];lia),d7,q2,lT,jx,jd,og];exact ev
   have pt:(arrOf (setArr st xs))[lo+u-1]?=mn t:=by
    show xs[lo+u-1]?=mn t;have hu:1<=u:=()
    have q2':=q2;rw[d7] at q2';rw[zi hu,<-ge,q1,fh,fg (by rw[lT];exact jz _ _),lT,i0,f7 (by rw[q2];exact FN hu EK),fg (),show u-1-hd.9=tl.9-1 by lia];exact et
   refine gg (Js L hk pv pt (PD _ (gi ev)) (PT _ htl) ?_);dsimp only;have esn:At blt (D.take (u+1))=mg blt (tl++hd.reverse) [v]:=by rw[G7 ev,C8,q4]
   have edr:=Ff ev
   cases hs:blt v t with
   |true=>
    rw[if_pos rfl];have v1:∀z∈tl,blt v z=MK:=λz hz=>o.ltle hs (q6 z hz t htl);have v2:∀z∈hd,blt v z=MK:=λz hz=>o.tr _ _ _ hs (q5 z hz t htl);have e5:At blt (D.take (u+1))=[v]++(hd++tl.reverse).reverse:=by
     rw[esn,ot,my];have:=D1 blt (xs:=tl++hd.reverse) (bs:=[v]) (ys:=[]) λb hb z hz=>by
      rw[gl.mp hb];rcases jf.mp hz with hz|hz
      .exact v1 z hz
      .exact v2 z (n4.mp hz)
     rw[gp,B4] at this;exact this
    have fin:∀ys:Array gw,ys.7=T++(hd++tl.reverse)++D.drop u->∃(neq':Nat) (xs':Array gw) (hd' tl':List gw),((tp,u+1,0):Option (Option Nat)×Nat×Nat)=(tp,u+1,neq')/\setArr st ys=setArr st xs'/\xs'.7=T++(hd'++tl')++D.drop (u+1)/\(hd'++tl').9=u+1/\tl'.9=neq'+1/\At blt (D.take (u+1))=tl'++hd'.reverse/\(∀a∈hd',∀b∈tl',blt b a=MK)/\(∀a∈tl',∀b∈tl',blt a b=ML):=λys ey=>by
     refine{0,ys,hd++tl.reverse,[v],rfl,rfl,?_,?_,rfl,e5,?_,?_}
     .rw[ey,edr]
      simp only[fh,k8,jv]
     .rw[d7,d7,ou,<-d7,q2]
      rfl
     .intro a ha b hb
      rw[gl.mp hb];rcases jf.mp ha with ha|ha
      .exact v2 a ha
      .exact v1 a (n4.mp ha)
     .intro a ha b hb
      rw[gl.mp ha,gl.mp hb];exact o.irr v
    by_cases hq:neq>0
    .rw[if_pos hq]
     refine gg (yk (gv (fin _ ?_)));have hlen:hd.9+tl.9=u:=by rw[<-d7];exact q2
     have:=Ia (xs:=xs) (U:=T++hd) (V:=tl) (W:=D.drop u) (i:=lo+u-(neq+1)) (j:=lo+u) (by rw[q1];simp only[fh]) (by rw[d7,lT,<-hlen,q3,<-jt,qo]) (by rw[d7,lT,<-hlen,<-jt]);show(mirror xs _ _ _).7=_;rw[this];simp only[fh]
    .rw[if_neg hq]
     refine gv (fin _ ?_);have:tl.reverse=tl:=by
      obtain⟨z,rfl⟩:=DA.mp (show tl.9=1 by lia);rfl
     rw[this];exact q1
   |false=>
    rw[if_neg (by decide)];refine gg (Js L hk pt pv (PT _ htl) (PD _ (gi ev)) ?_);dsimp only
    cases hg:blt t v with
    |true=>
     rw[if_pos rfl];exact gv {u,neq,xs,hd,tl,rfl,hu1,(),rfl,q1,q2,q3,q4}
    |false=>
     rw[if_neg (by decide)];have v1:∀z∈tl,blt v z=ML:=λz hz=>o.le (q6 t htl z hz) hs;have v3:∀z∈tl,blt z v=ML:=λz hz=>o.le hg (q6 z hz t htl);have v2:∀z∈hd,blt v z=MK:=λz hz=>o.lelt hg (q5 z hz t htl);refine gv {neq+1,xs,hd,tl++[v],rfl,rfl,?_,?_,?_,?_,?_,?_}
     .rw[q1,edr]
      simp only[fh,k8,jv]
     .rw[<-fh,d7,q2]
      rfl
     .rw[d7,q3]
      rfl
     .rw[esn,El blt λa ha z hz=>by rw[gl.mp hz];exact v1 a ha]
      have:=D1 blt (xs:=hd.reverse) (bs:=[v]) (ys:=[]) λb hb z hz=>by
       rw[gl.mp hb];exact v2 z (n4.mp hz)
      rw[gp,B4] at this;rw[this,fh]
     .intro a ha b hb
      rcases jf.mp hb with hb|hb
      .exact q5 a ha b hb
      .rw[gl.mp hb];exact v2 a ha
     .intro a ha b hb
      rcases jf.mp ha with ha|ha
      .rcases jf.mp hb with hb|hb
       .exact q6 a ha b hb
       .rw[gl.mp hb];exact v3 a ha
      .rw[gl.mp ha]
       rcases jf.mp hb with hb|hb
       .exact v1 b hb
       .rw[gl.mp hb];exact o.irr v
  .intro c st' h0;refine cpZ λX0 k0=>?_;obtain⟨neq,xs,hd,tl,rfl,rfl,q1,q2,q3,q4,q5,q6⟩:=h0<;>refine k0 ?_
   have hmx:max (n+1) nrem=nrem:=()
   rw[hmx] at q1 q2 q4 ⊢;exact{nrem,neq,xs,hd,tl,rfl,(),d8 _,rfl,q1,q2,q3,q4}
  .rw[m1,Ff ex]
   simp only[fh,k8,jv]
  .rw[d7,ou,lDn]
   rfl
  .rw[G7 ex,C8,Ka sn,my]
   have:=D1 blt (xs:=D.take n) (bs:=[x]) (ys:=[]) λb hb z hz=>by
    rw[gl.mp hb];exact hall z hz
   rw[gp,B4] at this;exact this
  .intro a ha b hb
   rw[gl.mp hb];exact hall a (n4.mp ha)
  .intro a ha b hb
   rw[gl.mp ha,gl.mp hb];exact o.irr x
  .intro c st' h0;refine cpZ λX0 k0=>?_;obtain⟨m,neq,xs,hd,tl,rfl,hm1,hm2,rfl,q1,q2,q3,q4⟩:=h0<;>refine k0 ?_
   dsimp only;have hlen:hd.9+tl.9=m:=by rw[<-d7];exact q2
   have last:∀ys:Array gw,ys.7=T++(tl++hd.reverse)++D.drop m->∀F:Nat->Option (Option Nat)×Nat->StateT ke Sem (ForInStep (Option (Option Nat)×Nat)),
     (∀x n,F x (tp,n)=(do
      let r <-ltAt' (lo+n) (lo+n-1)
      match r with
      |some smaller=>if smaller=MK then pure (sg (tp,n)) else pure (rg (tp,n+1))
      |x=>pure (sg (mn tp,n)))) ->
     wpS (model prog w) A E s (forIn [m:nrem] (tp,m) F) (λr st'=>∃m',r=(tp,m')/\Q (mn m') st') (setArr st ys):=λys ey F hF=>by
    have sC:Srt blt (tl++hd.reverse):=by rw[<-q4];exact M1 o _
    refine gY L o (T:=T) (C:=tl++hd.reverse) (D:=D) hF hk ?_ lT lD () hm2 (by rw[d7,ou];lia) ey sC λn' hn1' hn2' sn' _=>{n',rfl,h n' ys () hn2' ?_}
    .intro z hz
     have hz:z∈ys.7:=hz;rw[ey] at hz;rcases jf.mp hz with hz|hz
     .rcases jf.mp hz with hz|hz
      .exact hP z (by rw[e];exact oh _ hz)
      .rw[<-q4] at hz
       exact PD z (mz ((C9 blt _).mem_iff.mp hz))
     .exact PD z (p9 hz)
    .rw[<-q4] at sn'
     have e7:D.take n'=D.take m++(D.drop m).take (n'-m):=by rw[Fj D hn1']
     rw[e7,pI o sn',ey,q4];have e8:D.drop m=(D.drop m).take (n'-m)++D.drop n':=by
      have:=F8 D m (n'-m);rw[vn hn1'] at this;exact this
     conv=>lhs;rw[e8]
     simp only[fh]
   by_cases hq:neq>0
   .rw[if_pos hq]
    have r1:=Ia (xs:=xs) (U:=T++hd) (V:=tl) (W:=D.drop m) (i:=lo+m-(neq+1)) (j:=lo+m) (by rw[q1];simp only[fh]) (by rw[d7,lT,<-hlen,q3,<-jt,qo]) (by rw[d7,lT,<-hlen,<-jt]);refine gg (yk ?_);refine gg (yk ?_);have r2:=Ia (xs:=mirror xs (lo+m-(neq+1)) (lo+m) ((lo+m-(lo+m-(neq+1)))/2)) (U:=T) (V:=hd++tl.reverse) (W:=D.drop m) (i:=lo) (j:=lo+m) (by rw[r1];simp only[fh]) lT.symm (by rw[d7,ou];lia);rw[ot,my] at r2;refine gg (o8 (last _ r2 _ (λx n=>rfl)) ?_);rintro c st' ⟨m',rfl,hQ⟩;exact gv hQ
   .rw[if_neg hq]
    have hrv:tl.reverse=tl:=by
     obtain⟨z,rfl⟩:=DA.mp (show tl.9=1 by lia);rfl
    refine gg (yk ?_);have r2:=Ia (xs:=xs) (U:=T) (V:=hd++tl) (W:=D.drop m) (i:=lo) (j:=lo+m) q1 lT.symm (by rw[q2];lia);rw[ot,hrv] at r2;refine gg (o8 (last _ r2 _ (λx n=>rfl)) ?_);rintro c st' ⟨m',rfl,hQ⟩;exact gv hQ
end
def J9:Nat->List (List gw)->List (Nat×Nat×Nat)->Prop
 |_,[],[]=>True
 |s,g::gs,(s',n,_)::q=>s'=s/\n=g.9/\J9 (s+g.9) gs q
 |_,_,_=>False
theorem P4:∀{s:Nat} {A B:List (List gw)} {q:List (Nat×Nat×Nat)},J9 s (A++B) q->∃q1 q2,q=q1++q2/\q1.9=A.9/\J9 s A q1/\J9 (s+A.flatten.9) B q2
 |s,[],B,q,h=>{[],q,rfl,rfl,trivial,h}
 |s,g::A,B,(s',n,p)::q,h=>by
  obtain⟨h1,h2,h3⟩:=h;obtain⟨q1,q2,e,l,a,b⟩:=P4 h3;refine{(s',n,p)::q1,q2,by rw[e];rfl,by rw[f8,l];rfl,⟨h1,h2,a⟩,?_};rw[im,d7,<-jt];exact b
 |s,g::A,B,[],h=>h.elim
theorem N8:∀{s:Nat} {A B:List (List gw)} {q1 q2:List (Nat×Nat×Nat)},J9 s A q1->J9 (s+A.flatten.9) B q2->J9 s (A++B) (q1++q2)
 |s,[],B,[],q2,_,h=>h
 |s,g::A,B,(s',n,p)::q1,q2,⟨h1,h2,h3⟩,h=>{h1,h2,N8 h3 (by rw[im,d7,<-jt] at h;exact h)}
 |s,[],B,_::_,q2,h,_=>h.elim
 |s,g::A,B,[],q2,h,_=>h.elim
theorem Xy {s:Nat}{A:List (List gw)}{q:List (Nat×Nat×Nat)}(h:J9 s A q):q.9=A.9:=by
 rw[show A=A++[] by rw[gp]] at h;obtain⟨q1,q2,e,l,_,b⟩:=P4 h
 cases q2 with
 |nil=>rw[e,gp,l]
 |cons x r=>exact b.elim
theorem vM {α:Type}{q1 q2:List α}{x y z:α}{i:Nat}(h:q1.9=i):((q1++x::y::q2).set i z).eraseIdx (i+1)=q1++z::q2:=by
 subst h;rw[List.set_append_right _ _ (d8 _),jx,List.set_cons_zero,List.eraseIdx_append_of_length_le (AB _),show q1.length.succ-q1.9=1 by lia];rfl
theorem Oy {pw:Nat}:∀{s:Nat} {A:List (List gw)} {q:List (Nat×Nat×Nat)} (i:Nat),J9 s A q->J9 s A (q.modify i λx=>(x.1,x.2.1,pw))
 |_,[],[],i,_=>by cases i<;>trivial
 |_,g::A,(s',n,p)::q,0,⟨h1,h2,h3⟩=>⟨h1,h2,h3⟩
 |_,g::A,(s',n,p)::q,i+1,⟨h1,h2,h3⟩=>{h1,h2,Oy i h3}
 |_,[],_::_,_,h=>h.elim
 |_,_::_,[],_,h=>h.elim
theorem Kc (blt:gw->gw->Bool):∀A:List (List gw),((A.map (At blt)).flatten).9=A.flatten.9
 |[]=>rfl
 |g::A=>by rw[gt,im,im,d7,d7,Dg,Kc blt A]
theorem iT (blt:gw->gw->Bool){x:gw}:∀{A:List (List gw)},x∈(A.map (At blt)).flatten->x∈A.flatten
 |[],h=>h
 |g::A,h=>by
  rw[gt,im] at h;rw[im];rcases jf.mp h with h|h
  .exact oh _ ((C9 blt g).mem_iff.mp h)
  .exact jc _ (iT blt h)
theorem R4 {U V W:List gw}:(U++(V++W)).take U.9=U/\(U++(V++W)).drop U.9=V++W/\((U++(V++W)).drop U.9).take V.9=V/\(U++(V++W)).drop (U.9+V.9)=W:=by
 have e2:(U++(V++W)).drop U.9=V++W:=by rw[mo (d8 _),re,jv]
 refine{by rw[jh (d8 _),ny],e2,?_,?_}
 .rw[e2,jh (d8 _),ny]
 .rw[<-md,e2,mo (d8 _),re,jv]
structure SI (kd:ur) (blt:gw->gw->Bool) (l0:List gw) (segs:List (List gw)) (lo:Nat) (st:ke):Prop where
 ne:∀g∈segs,g≠[]
 all:segs.flatten++l0.drop lo=l0
 len:segs.flatten.9=lo
 arr:(arrOf st).7=(segs.map (At blt)).flatten++l0.drop lo
 pend:J9 0 segs (pendingOf st).7
 kind:kindOf st=kd
 fail:failedOf st=tp
theorem SI.few {kd:ur}{blt:gw->gw->Bool}{segs:List (List gw)}{lo:Nat}{st:ke}(h:SI kd blt l0 segs lo st):segs.9<=lo:=by
 have key:∀A:List (List gw),(∀g∈A,g≠[])->A.9<=A.flatten.9:=λA=>by
  induction A with
  |nil=>intro _;exact d8 _
  |cons g A ih=>
   intro hn;have h1:=ih λx hx=>hn x (gn _ hx);have h2:=vh.mpr (hn g ii);rw[im,d7,f8];lia
 have:=key segs h.ne;rw[h.len] at this;exact this
theorem SI.size {kd:ur}{blt:gw->gw->Bool}{segs:List (List gw)}{lo:Nat}{st:ke}(h:SI kd blt l0 segs lo st):(arrOf st).8=l0.9:=by
 rw[<-f9,h.arr,d7,Kc];have:=congrArg k6 h.all;rw[d7] at this;exact this
theorem SI.mem {kd:ur}{blt:gw->gw->Bool}{segs:List (List gw)}{lo:Nat}{st:ke}(h:SI kd blt l0 segs lo st){x:gw}(hx:x∈(arrOf st).7):x∈l0:=by
 rw[h.arr] at hx;rw[<-h.all];rcases jf.mp hx with hx|hx
 .exact oh _ (iT blt hx)
 .exact jc _ hx
section
variable {prog:gu} {w:i7} {A:jp} {E:Za0} {s:fz}
variable {kd:ur} {P:gw->Prop} {blt:gw->gw->Bool} (L:nK prog w A E s kd P blt) (o:Swo blt)
include L o
theorem S7 {st:ke}{lo ok:Nat}{T D:List gw}{Q:Bool->ke->Prop}(hk:kindOf st=kd)(hP:∀x∈D,P x)(hT:T.9=lo)(hok:1<=ok)(hn:ok<=n)(hD:n<=D.9)
  (e:(arrOf st).7=T++At blt (D.take ok)++D.drop ok)(h:∀xs:Array gw,xs.7=T++At blt (D.take n)++D.drop n->Q MK (setArr st xs)) :
  wpS (model prog w) A E s (binarySort' lo n ok) Q st:=by
 have hmx:max ok 1=ok:=()
 refine gg (o8 (wpS_forRange (I:=λk c st'=>c=(tp,.unit)/\k<=n/\∃xs:Array gw,st'=setArr st xs/\xs.7=T++At blt (D.take k)++D.drop k)
  (Q:=λc st'=>c=(tp,.unit)/\∃xs:Array gw,st'=setArr st xs/\xs.7=T++At blt (D.take n)++D.drop n) ?_ ?_ {rfl,(),arrOf st,rfl,by rw[hmx];exact e}) ?_)
 .intro k c st' hk1 hk2 h0;refine cpZ λX0 k0=>?_;obtain⟨rfl,_,xs,rfl,ex⟩:=h0<;>refine k0 ?_
  dsimp only;obtain⟨v,ev⟩:∃v,D[k]?=mn v:={_,d6 ()};have lS:(At blt (D.take k)).9=k:=by rw[Dg,fk];lia
  have sS:=M1 o (D.take k);have pS:∀x∈At blt (D.take k),P x:=λx hx=>hP x (mz ((C9 blt _).mem_iff.mp hx));have esn:At blt (D.take (k+1))=mg blt (At blt (D.take k)) [v]:=by rw[G7 ev,C8]
  generalize At blt (D.take k)=S at *;have pv:xs[lo+k]?=mn v:=by
   rw[<-ge,ex,fg (by rw[d7];lia),d7,lS,hT,jx,jd,og];exact ev
  have pm:∀m,m<k->xs[lo+m]?=S[m]?:=λm hm=>by
   rw[<-ge,ex,fh,fg (),hT,i0,f7 ()]
  refine gg (o8 (wpS_forRange (I:=λx c st'=>∃l r,c=(tp,l,r)/\st'=setArr st xs/\l<=r/\r<=k/\r-l+x<=k/\(∀i z,i<l->S[i]?=mn z->blt v z=ML)/\(∀i z,r<=i->S[i]?=mn z->blt v z=MK))
   (Q:=λc st'=>∃l r,c=(tp,l,r)/\st'=setArr st xs/\l<=k/\(∀i z,i<l->S[i]?=mn z->blt v z=ML)/\(∀i z,l<=i->S[i]?=mn z->blt v z=MK)) ?_ ?_ {0,k,rfl,rfl,(),(),(),?_,?_}) ?_)
  .intro x c st' _ hx h0;refine cpZ λX0 k0=>?_;obtain⟨l,r,rfl,rfl,q1,q2,q3,q4,q5⟩:=h0<;>refine k0 ?_
   dsimp only
   by_cases hge:l>=r
   .rw[if_pos hge]
    exact gv {l,r,rfl,rfl,(),q4,λi z hi ez=>q5 i z () ez}
   .rw[if_neg hge]
    have ht1:l<=(l+r)/2:=()
    have ht2:(l+r)/2<r:=()
    generalize (l+r)/2=t at *;obtain⟨z,ez⟩:∃z,S[t]?=mn z:={_,d6 ()};refine gg (Js L hk pv (by show xs[_]?=_;rw[pm _ ()];exact ez) (hP _ (gi ev)) (pS _ (gi ez)) ?_);dsimp only
    cases hb:blt v z with
    |true=>
     rw[if_pos rfl];exact gv {_,_,rfl,rfl,(),(),(),q4,λi z' hi ez'=>o.ltle hb (Et o sS hi ez ez')}
    |false=>
     rw[if_neg (by decide)];exact gv {_,_,rfl,rfl,(),(),(),(λi z' hi ez'=>o.le (Et o sS (show i<=t by lia) ez' ez) hb),q5}
  .intro c st' h0;refine cpZ λX0 k0=>?_;obtain⟨l,r,rfl,rfl,q1,q2,q3,q4,q5⟩:=h0<;>refine k0 ?_
   have:max 0 k=k:=()
   rw[this] at q3;exact{l,r,rfl,rfl,(),q4,λi z hi ez=>q5 i z () ez}
  .intro i z hi
   lia
  .intro i z hi ez
   have:=(fq.mp ez).1;lia
  .intro c st' h0;refine cpZ λX0 k0=>?_;obtain⟨l,r,rfl,rfl,q1,q4,q5⟩:=h0<;>refine k0 ?_
   dsimp only;refine gg (?_:wpS (model prog w) A E s (moveDown' (lo+k) (lo+l)) _ _);rw[moveDown'_eq];refine wq (gv {rfl,(),bubble xs (lo+k) (lo+k-(lo+l)),rfl,?_});have hsz:xs.8=lo+D.9:=by
    rw[<-f9,ex,d7,d7,lS,hT,i9];lia
   rw[iF () () pv,Nat.sub_sub_self (yd () lo),Nat.add_sub_add_left,ex];have hl:T.9+(S.take l).9=lo+l:=by rw[fk];lia
   have e1:T++S++D.drop k=(T++S.take l)++(S.drop l++D.drop k):=by
    conv=>lhs;rw[<-iq l S]
    simp only[fh]
   have hl2:(S.drop l).9=k-l:=by rw[i9,lS]
   obtain⟨m1,m2,m3,m4⟩:=R4 (U:=T++S.take l) (V:=S.drop l) (W:=D.drop k);rw[d7,hl] at m1 m2 m3 m4;rw[hl2] at m3 m4;have e2:(T++S++D.drop k).drop (lo+k+1)=D.drop (k+1):=by
    rw[<-md,e1,show lo+k=lo+l+(k-l) by lia,m4,md]
   rw[e2,e1,m1,m3,esn];have hS:S=S.take l++S.drop l:=(iq l S).symm
   conv=>rhs;rw[hS]
   rw[El blt λa ha y hy=>?_]
   .have:=D1 blt (xs:=S.drop l) (bs:=[v]) (ys:=[]) λb hb z hz=>by
     rw[gl.mp hb];obtain⟨j,hj,ez⟩:=U9 hz;exact q5 j z hj ez
    rw[gp,B4] at this;rw[this];simp only[fh]
   .rw[gl.mp hy]
    obtain⟨j,hj,ez⟩:=Kh ha;exact q4 j a hj ez
 .intro c st' h0;refine cpZ λX0 k0=>?_;obtain⟨rfl,hle,xs,rfl,ex⟩:=h0<;>refine k0 ?_
  rw[hmx] at hle ex;have:max ok n=n:=()
  rw[this] at ex;exact⟨rfl,xs,rfl,ex⟩
 .rintro c st' ⟨rfl,xs,rfl,ex⟩
  exact gv (h xs ex)
theorem Sj {segs:List (List gw)}{lo i:Nat}{st:ke}{Q:Bool->ke->Prop}(hP:∀x∈l0,P x)(S:SI kd blt l0 segs lo st)(hi:i+1<segs.9)
  (h:∀segs' st',segs'.9+1=segs.9->SI kd blt l0 segs' lo st'->Q MK st'):wpS (model prog w) A E s (mergeAt' i) Q st:=by
 obtain⟨A1,g,g',B,rfl,hA⟩:∃A1 g g' B,segs=A1++g::g'::B/\A1.9=i:=by
  refine{segs.take i,segs[i],segs[i+1],segs.drop (i+2),?_,by rw[fk];lia};rw[<-lh,<-lh,iq]
 obtain⟨q1,q2,eq,lq,p1,p2⟩:=P4 S.pend;obtain⟨s1,n1,w1,q3,rfl⟩:∃s1 n1 w1 q3,q2=(s1,n1,w1)::q3:=by
  cases q2 with
  |nil=>exact p2.elim
  |cons t r=>exact⟨t.1,t.2.1,t.2.2,r,rfl⟩
 obtain⟨es1,en1,p3⟩:=p2;obtain⟨s2,n2,w2,q4,rfl⟩:∃s2 n2 w2 q4,q3=(s2,n2,w2)::q4:=by
  cases q3 with
  |nil=>exact p3.elim
  |cons t r=>exact⟨t.1,t.2.1,t.2.2,r,rfl⟩
 obtain⟨es2,en2,p4⟩:=p3;rw[k5] at es1 es2 p4;subst es1 en1 es2 en2;have hg:g≠[]:=S.ne g (by simp);have hg':g'≠[]:=S.ne g' (by simp);have earr:(arrOf st).7=(A1.map (At blt)).flatten++(At blt g++(At blt g'++((B.map (At blt)).flatten++l0.drop lo))):=by
  rw[S.arr,fb,gt,gt,ij,im,im];simp only[fh]
 have lA:((A1.map (At blt)).flatten).9=A1.flatten.9:=Kc blt A1;have lg:(At blt g).9=g.9:=Dg blt g;have lg':(At blt g').9=g'.9:=Dg blt g';obtain⟨m1,m2,m3,m4⟩:=R4 (U:=(A1.map (At blt)).flatten) (V:=At blt g) (W:=At blt g'++((B.map (At blt)).flatten++l0.drop lo));rw[<-earr,lA] at m1 m2 m3 m4;rw[lg] at m3 m4;obtain⟨_,_,m5,m6⟩:=R4 (U:=(A1.map (At blt)).flatten++At blt g) (V:=At blt g') (W:=(B.map (At blt)).flatten++l0.drop lo);rw[fh,<-earr,d7,lA,lg,lg'] at m5 m6;have hsz:A1.flatten.9+g.9+g'.9<=(arrOf st).8:=by
  rw[<-f9,earr];simp only[d7,lA,lg,lg'];lia
 have i1:(pendingOf st)[i]?=mn (A1.flatten.9,g.9,w1):=by
  rw[<-ge,eq,fg (),lq,hA,jx];rfl
 have i2:(pendingOf st)[i+1]?=mn (A1.flatten.9+g.9,g'.9,w2):=by
  rw[<-ge,eq,fg (),lq,hA,show i+1-i=1 by lia];rfl
 refine jL L o S.kind S.fail i1 i2 (vh.mpr hg) (vh.mpr hg') hsz (λx hx=>hP x (S.mem hx)) (by rw[m3];exact M1 o _) (by rw[m5];exact M1 o _) λst' k1 k2 k3 k4=>?_;refine h (A1++(g++g')::B) st' (by simp only[d7,f8];lia) {λx hx=>?_,?_,?_,?_,?_,k1,k2}
 .rcases jf.mp hx with hx|hx
  .exact S.ne x (oh _ hx)
  .rcases jn.mp hx with rfl|hx
   .exact λe=>hg (List.append_eq_nil_iff.mp e).1
   .exact S.ne x (jc _ (gn _ (gn _ hx)))
 .have:=S.all
  simp only[ij,im,fh] at this ⊢;exact this
 .have:=S.len
  simp only[ij,im,d7] at this ⊢;lia
 .rw[k4,m1,m3,m5,m6,<-Yv o,fb,gt,ij,im]
  simp only[fh]
 .rw[k3,Array.toList_eraseIdxIfInBounds,AX,eq,vM ()]
  refine N8 p1 {by rw[k5],by rw[d7],?_};rw[k5,d7,<-jt];exact p4
theorem No {st:ke}{Q:Unit->ke->Prop}(hk:kindOf st=kd)(hf:failedOf st=tp)(hp:pendingOf st=#[])(e:(arrOf st).7=l0)(hP:∀x∈l0,P x)(h2:1<=l0.9)
  (h:∀st':ke,failedOf st'=tp->(arrOf st').7=At blt l0->Q .unit st'):wpS (model prog w) A E s sortRuns' Q st:=by
 have hsz:(arrOf st).8=l0.9:=by rw[<-f9,e]
 have S0:SI kd blt l0 [] 0 st:={(λg hg=>by cases hg),by rw[qe];rfl,rfl,by rw[e,qe];rfl,by rw[hp];trivial,hk,hf};refine gg (wj ?_);dsimp only;generalize (arrOf st).8=sz at *;subst hsz;generalize (sortPriv% PySem.Builtin.minRun) l0.9 l0.9 0=mr;refine gg (o8 (wpS_forRange (I:=λx c st'=>∃lo segs,c=(tp,lo)/\x<=lo/\lo<=l0.9/\SI kd blt l0 segs lo st')
  (Q:=λc st'=>∃segs,c=(tp,l0.9)/\SI kd blt l0 segs l0.9 st') ?_ ?_ {0,[],rfl,d8 _,gy _,S0}) ?_)
 .intro x c st1 _ hx h0;refine cpZ λX0 k0=>?_;obtain⟨lo,segs,rfl,hxl,hlo,S⟩:=h0<;>refine k0 ?_
  dsimp only
  by_cases hge:lo>=l0.9
  .rw[if_pos hge]
   have:lo=l0.9:=()
   subst this;exact gv ⟨segs,rfl,S⟩
  rw[if_neg hge];have lF:((segs.map (At blt)).flatten).9=lo:=by rw[Kc,S.len]
  have dlo:(arrOf st1).toList.drop lo=l0.drop lo:=by rw[S.arr,mo (),jj (),jv]
  have tlo:(arrOf st1).toList.take lo=(segs.map (At blt)).flatten:=by rw[S.arr,jh (),fv ()]
  have lD:(l0.drop lo).9=l0.9-lo:=i9;have hD:∀x∈l0.drop lo,P x:=λx hx=>hP x (p9 hx);refine gg (Xc L o S.kind (λx hx=>hP x (S.mem hx)) (by rw[S.8];lia) () λm xs hm1 hm2 ex=>?_);rw[dlo,tlo] at ex;dsimp only
  by_cases hlt:m<mr
  case' pos=>
   rw[if_pos hlt];refine gg (yl (qf {rfl,?_}));refine gg (S7 L o (st:=setArr st1 xs) (lo:=lo) (n:=min (l0.9-lo) mr) (ok:=m) (T:=(segs.map (At blt)).flatten) (D:=l0.drop lo) S.kind hD lF hm1 () () ex λxs2 ex2=>?_);rw[if_neg (by decide)];have hn1:1<=min (l0.9-lo) mr:=KN.mpr {(),()};have hn2:min (l0.9-lo) mr<=l0.9-lo:=AT _ _;clear ex;have ex:=ex2;clear ex2 hm1 hm2 hlt;have hm1:=hn1;have hm2:=hn2;clear hn1 hn2;generalize min (l0.9-lo) mr=n at *;show wpS _ _ _ _ _ _ (setArr st1 xs2);generalize xs2=xs3 at *
  case' neg=>
   rw[if_neg hlt];clear hlt;generalize m=n at *;generalize xs=xs3 at *
  all_goals
   have hl0':((l0.take lo++(At blt ((l0.drop lo).take n)++(l0.drop lo).drop n)).drop lo)=At blt ((l0.drop lo).take n)++(l0.drop lo).drop n:=by
    rw[mo (by rw[fk];lia),jj (by rw[fk];lia),jv]
   have hsf:segs.flatten=l0.take lo:=by
    have:=congrArg (CW lo) S.all;rw[jh (by rw[S.len];exact d8 _),fv (by rw[S.len];exact d8 _)] at this;exact this
   have S':SI kd blt (l0.take lo++(At blt ((l0.drop lo).take n)++(l0.drop lo).drop n)) segs lo (setArr st1 xs3):=
    {S.ne,by rw[hl0',hsf],S.len,by show xs3.7=_;rw[ex,hl0',fh],S.pend,S.kind,S.fail}
   have hP':∀x∈l0.take lo++(At blt ((l0.drop lo).take n)++(l0.drop lo).drop n),P x:=λx hx=>by
    rcases jf.mp hx with hx|hx
    .exact hP x (mz hx)
    .rcases jf.mp hx with hx|hx
     .exact hD x (mz ((C9 blt _).mem_iff.mp hx))
     .exact hD x (p9 hx)
   have fin:∀(segs':List (List gw)) (st3:ke) (q:Array (Nat×Nat×Nat)),SI kd blt (l0.take lo++(At blt ((l0.drop lo).take n)++(l0.drop lo).drop n)) segs' lo st3->J9 0 segs' q.7 ->
     SI kd blt l0 (segs'++[(l0.drop lo).take n]) (lo+n) (setPending st3 (q.push (lo,n,0))):=λsegs' st3 q S3 hq=>by
    have hsf':segs'.flatten=l0.take lo:=by
     have:=congrArg (CW lo) S3.all;rw[jh (by rw[S3.len];exact d8 _),fv (by rw[S3.len];exact d8 _),jh (by rw[fk];lia),fv (l:=l0.take lo) (by rw[fk];lia)] at this;exact this
    have ln:((l0.drop lo).take n).9=n:=by rw[fk];lia
    refine{λg hg=>?_,?_,?_,?_,?_,S3.kind,S3.fail}
    .rcases jf.mp hg with hg|hg
     .exact S3.ne g hg
     .rw[gl.mp hg]
      exact λz=>by rw[z] at ln;simp at ln;lia
    .rw[ij,m7,hsf',<-md,fh,iq,iq]
    .rw[ij,m7,d7,S3.len,ln]
    .show(arrOf st3).7=_
     rw[S3.arr,hl0',fb,gt,vo,ij,m7,<-md,fh]
    .show J9 0 _ (q.push (lo,n,0)).7
     rw[FA];refine N8 hq {?_,ln.symm,trivial};rw[k5,S3.len]
   refine gg (wj ?_);dsimp only
   cases hb:(pendingOf (setArr st1 xs3)).back? with
   |none=>
    dsimp only;exact gg (wq (gv {lo+n,_,rfl,(),(),fin segs (setArr st1 xs3) (pendingOf st1) S' S.pend}))
   |some t=>
    obtain⟨s1,n1,w1⟩:=t;dsimp only;generalize (sortPriv% PySem.Builtin.power) l0.9 (2*s1+n1) (2*s1+n1+n1+n) l0.9=pw;refine gg (o8 (wpS_forRange (I:=λx c st'=>c=(tp,.unit)/\∃segs',SI kd blt (l0.take lo++(At blt ((l0.drop lo).take n)++(l0.drop lo).drop n)) segs' lo st')
     (Q:=λc st'=>c=(tp,.unit)/\∃segs',SI kd blt (l0.take lo++(At blt ((l0.drop lo).take n)++(l0.drop lo).drop n)) segs' lo st') ?_ ?_ ⟨rfl,segs,S'⟩) ?_)
    .rintro y c st4 _ hy ⟨rfl,segs',S4⟩
     refine gg (wj ?_)
     try dsimp only
     have hpl:(pendingOf st4).8=segs'.9:=by rw[<-f9];exact Xy S4.pend
     by_cases c1:(pendingOf st4).8>1
     .rw[if_pos c1]
      obtain⟨t,et⟩:∃t,(pendingOf st4)[(pendingOf st4).8-2]?=mn t:={_,mi ()};rw[et];obtain⟨a1,a2,older⟩:=t;dsimp only
      by_cases c2:older<=pw
      .rw[if_pos c2]
       exact gv ⟨rfl,segs',S4⟩
      .rw[if_neg c2]
       refine gg (Sj L o (i:=(pendingOf st4).8-2) hP' S4 () λsegs5 st5 _ S5=>?_);exact gv ⟨rfl,segs5,S5⟩
     .rw[if_neg c1]
      exact gv ⟨rfl,segs',S4⟩
    .rintro c st4 ⟨rfl,segs',S4⟩
     exact⟨rfl,segs',S4⟩
    .rintro c st4 ⟨rfl,segs',S4⟩
     try dsimp only
     refine gg (wq (gg (wq (gv {lo+n,_,rfl,(),(),fin segs' st4 ((pendingOf st4).modify ((pendingOf st4).8-1) λx=>(x.1,x.2.1,pw)) S4 ?_}))));rw[Array.toList_modify];exact Oy _ S4.pend
 .intro c st1 h0;refine cpZ λX0 k0=>?_;obtain⟨lo,segs,rfl,hxl,hlo,S⟩:=h0<;>refine k0 ?_
  have:max 0 l0.9=l0.9:=()
  rw[this] at hxl;have:lo=l0.9:=()
  subst this;exact⟨segs,rfl,S⟩
 .rintro c st1 ⟨segs,rfl,S⟩
  dsimp only;refine gg (o8 (wpS_forRange (I:=λx c st'=>c=(tp,.unit)/\∃segs,segs.9+x<=l0.9/\SI kd blt l0 segs l0.9 st')
   (Q:=λc st'=>c=(tp,.unit)/\∃segs,segs.9<=1/\SI kd blt l0 segs l0.9 st') ?_ ?_ ⟨rfl,segs,S.few,S⟩) ?_)
  .rintro x c st1 _ hx ⟨rfl,segs,hl,S⟩
   refine gg (wj ?_)
   try dsimp only
   have hpl:(pendingOf st1).8=segs.9:=by rw[<-f9];exact Xy S.pend
   by_cases c1:(pendingOf st1).8<=1
   .rw[if_pos c1]
    exact gv {rfl,segs,(),S}
   rw[if_neg c1];have h9:∀c:Bool,(if c=MK then(pendingOf st1).8-2-1 else(pendingOf st1).8-2)<=(pendingOf st1).8-2:=λc=>by
    cases c
    .exact d8 _
    .exact xf _ _
   refine gg (Sj L o hP S (sv (Nat.succ_le_succ (h9 _)) ()) λsegs' st2 hl2 S2=>?_);exact gv {rfl,segs',(),S2}
  .rintro c st1 ⟨rfl,segs,hl,S⟩
   have:max 0 l0.9=l0.9:=()
   rw[this] at hl;exact{rfl,segs,(),S}
  .rintro c st1 ⟨rfl,segs,hl,S⟩
   refine gv (h st1 S.fail ?_);have hlen:=S.len;have hall:=S.all;rw[re,gp] at hall;obtain⟨g,rfl⟩:∃g,segs=[g]:=by
    cases segs with
    |nil=>rw[List.flatten_nil,jg] at hlen;lia
    |cons g r=>
     rw[f8] at hl;exact{g,by rw[td.mp (show r.9=0 by lia)]}
   rw[m7] at hall;rw[S.arr,re,gp,gt,vo,m7,hall]
end
def Uw (N H:Hp):Hp:=λb=>match N b with|some o=>mn o|none=>H b
theorem Mc {N:Hp}{b:ee}{o:HO}(h:N b=mn o):Uw N H b=mn o:=by unfold Uw;rw[h]
theorem Go {N:Hp}{b:ee}(h:N b=tp):Uw N H b=H b:=by unfold Uw;rw[h]
section
variable {X:Cx} {pins:Za1} {G:St} {H:Hp} {s:fz}
theorem Inv.grown {P:ee}{ps more:Array ft}{N:Hp}(I:Inv X pins G H s)(hP:H P=mn (.tbl ps))(k:∀b u,b≠P->s.heap.get? b=mn u->h'.get? b=mn u)(hT:h'.get? P=mn (xc (ps++more)))
  (hp:∀b o,N b=mn o->s.heap.objs.8<=b)(new:∀b o,N b=mn o->De X.prog X.w (Uw N (upd H P (.tbl (ps++more)))) h' b o):Inv X pins G (Uw N (upd H P (.tbl (ps++more)))) { s with heap:=h',toks:=t' }:=by
 have hlt:P<s.heap.objs.8:=(I.hok P _ hP).lt;have hNP:N P=tp:=by
  cases e:N P with
  |none=>rfl
  |some o=>exact absurd hlt (su.mpr (hp P o e))
 have hn:∀b o,N b=mn o->H b=tp:=λb o e=>I.hok.fresh (hp b o e);have old:∀b u,s.heap.get? b=mn u->N b=tp:=λb u e=>by
  cases hN:N b with
  |none=>rfl
  |some o=>exact absurd (gd e) (su.mpr (hp b o hN))
 have sm:∀b o,b≠P->H b=mn o->Uw N (upd H P (.tbl (ps++more))) b=mn o:=λb o hb e=>by
  have:N b=tp:=by
   cases hN:N b with
   |none=>rfl
   |some u=>rw[hn b u hN] at e;cases e
  rw[Go this,Al hb];exact e
 have neP:∀b,H b=tp->b≠P:=λb e z=>by rw[z,hP] at e;cases e
 refine I.un {λb u q n _ _=>k b u (neP b n) q,λb u q n _ _=>{u.slots,k b u (neP b n) q},λb u q n _=>by rw[Go (old b u q),Al (neP b n)];exact n,λb u q _=>?_,λb xs q=>sm _ _ (λz=>by rw[z,hP] at q;cases q) q,λb u xs q=>sm _ _ (λz=>by rw[z,hP] at q;cases q) q,λb qs q=>?_} λb o e=>?_
 .by_cases hb:b=P
  .rw[hb];exact{_,hT}
  .exact{u,k b u hb q}
 .by_cases hb:b=P
  .rw[hb,hP] at q
   cases q;exact{more,by rw[hb,Go hNP,Ac]}
  .exact{#[],by rw[sm b _ hb q];simp}
 .cases hN:N b with
  |some u=>
   rw[Mc hN] at e;cases e;exact new b _ hN
  |none=>
   rw[Go hN] at e
   by_cases hb:b=P
   .rw[hb,Ac] at e
    cases e;rw[hb];exact hT
   .rw[Al hb] at e
    refine(I.hok b o e).stay (λc v hc q=>k c v (λz=>?_) q) (λc q=>sm _ _ (λz=>by rw[z,hP] at q;cases q) q) λc xs q=>sm _ _ (λz=>by rw[z,hP] at q;cases q) q;rcases hc with h|h
    .exact hb (h▸z)
    .rw[z,hP] at h;cases h
end
def Nr (P:ee)(H H':Hp):Prop:=∀b u,b≠P->H b=mn u->H' b=mn u
section
variable {X:Cx} {pins:Za1} {G:St} {H:Hp} {s:fz} {M:yu} {A:jp} {E:Za0} {Q:Za0} {c P:ee} {pos:Pos} {qual:Str} {params:pq} {body:jk} {scope:qh} {clos:List (Str×ee)}
theorem kC (I:Inv X pins G H s)(T:Mj H P pos qual)(C:DO X.base c P)(hb:X.base.BuiltinsAt X.mg P)(hcode:X.env.code=.ref c)(hcl:closureFor scope X.env=pure clos)(hdef:defaultsOf params X.env=([],[]))(hq:X.env.qual++"<lambda>"=qual)
  (h:∀(f c':ee) (oc:Obj) (pm ctv:ft) (s':fz) (H':Hp),Inv X pins G H' s'->Mj H' P pos qual->Nr P H H'->H f=tp->H' f=mn (.frz (AI "<lambda>" qual params body scope clos pm c' ctv) (.own 0))->H' c'=mn (.frz oc (.own 0))->Zx oc qual->Q (.ref f) s') :
  wpAny M A (eval (.Lambda params body scope pos) X.env) Q E s:=by
 obtain⟨ps,hP,ht,hc⟩:=T;refine PySem.W.kla_eval hdef ?_;rw[hq];have hPs:s.heap.get? P=mn (xc ps):=I.hok P _ hP;have hg:s.heap.Ns mainGlobals X.mg:=I.mod.glob.keeps I.bk;have hgP:mainGlobals≠P:=λe=>by
  obtain⟨o,es,ep,e1,d,_⟩:=I.mod.glob;have:=(I.bs _ _ e1).2;rw[e,hP] at this;cases this
 have hb':s.heap.BuiltinsAt X.mg P:=by
  obtain⟨bm,o,a1,a2,a3,a4,a5,a6⟩:=hb;exact{bm,o,a1,a2,a3,a4,I.bk _ _ a5,a6}
 rcases hc with hc|⟨c',oc,hc,hc',ho⟩
 .refine PySem.W.kla_makeFunction hcl I.ok.glob hg hcode (C.keeps I.bk) hPs ht hc hgP hb' λc' ctv h' tk hx hge hlt hrec htb=>?_
  obtain⟨c₂,oc,vs,t,e2,hoc,hd,hv⟩:=hrec;cases e2
  let fo:=AI "<lambda>" qual params body scope clos ((X.mg "__name__").getD .none) c' ctv
  let N:Hp:=λb=>if b=h'.objs.8 then mn (.frz fo (.own 0)) else if b=c' then mn (.frz oc (.own 0)) else tp
  have n1:N h'.objs.8=mn (.frz fo (.own 0)):=if_pos rfl;have n2:N c'=mn (.frz oc (.own 0)):=(if_neg (ip hlt)).trans (if_pos rfl);have n3:∀b o,N b=mn o->(b=h'.objs.8/\o=.frz fo (.own 0))\/(b=c'/\o=.frz oc (.own 0)):=λb o e=>by
   by_cases h1:b=h'.objs.8
   .rw[h1,n1] at e;cases e;exact .inl ⟨h1,rfl⟩
   .by_cases h2:b=c'
    .rw[h2,n2] at e;cases e;exact .inr ⟨h2,rfl⟩
    .have:N b=tp:=(if_neg h1).trans (if_neg h2)
     rw[this] at e;cases e
  have hp:∀b o,N b=mn o->s.heap.objs.8<=b:=λb o e=>by
   rcases n3 b o e with⟨r,_⟩|⟨r,_⟩<;>rw[r]
   .exact iw hge (gz hlt)
   .exact hge
  have hNP:N P=tp:=by
   cases e:N P with
   |none=>rfl
   |some o=>exact absurd (I.hok P _ hP).lt (su.mpr (hp P o e))
  have gf:(h'.push fo).get? h'.objs.8=mn fo:=ik _ rfl;have gc:(h'.push fo).get? c'=mn oc:=fe _ hoc;have I':=Inv.grown (N:=N) (more:=#[GZ pos.line,GZ pos.col,.ref c']) (h':=h'.push fo) (t':=tk) I hP (λb u hb e=>fe _ (hx b u hb e)) (fe _ htb) hp λb o e=>by
   rcases n3 b o e with⟨r,r'⟩|⟨r,r'⟩<;>rw[r,r']
   .exact{gf,_,gf}
   .exact{gc,_,gc}
  refine h _ c' oc _ ctv _ _ I' {_,by rw[Go hNP,Ac],?_,.inr {c',oc,?_,Mc n2,vs,t,hd,hv}} (λb u hb e=>?_) (I.hok.fresh (hp _ _ n1)) (Mc n1) (Mc n2) ⟨vs,t,hd,hv⟩
  .rw[jl];exact TriplesOk_snoc _ _ _ _ ht
  .rw[jl];exact codeAmong_snoc _ ht hc
  .have:N b=tp:=by
    cases hN:N b with
    |none=>rfl
    |some o=>rw[I.hok.fresh (hp b o hN)] at e;cases e
   rw[Go this,Al hb];exact e
 .refine PySem.W.kla_makeFunctionHit hcl I.ok.glob hg hcode (C.keeps I.bk) hPs ht hc hb' λctv h' tk hk hsz=>?_
  let fo:=AI "<lambda>" qual params body scope clos ((X.mg "__name__").getD .none) c' ctv
  let N:Hp:=λb=>if b=h'.objs.8 then mn (.frz fo (.own 0)) else tp
  have n1:N h'.objs.8=mn (.frz fo (.own 0)):=if_pos rfl;have n3:∀b o,N b=mn o->b=h'.objs.8/\o=.frz fo (.own 0):=λb o e=>by
   by_cases h1:b=h'.objs.8
   .rw[h1,n1] at e;cases e;exact⟨h1,rfl⟩
   .have:N b=tp:=if_neg h1
    rw[this] at e;cases e
  have hp:∀b o,N b=mn o->s.heap.objs.8<=b:=λb o e=>by rw[(n3 b o e).1];exact hsz
  have hn:∀b u,H b=mn u->N b=tp:=λb u e=>by
   cases hN:N b with
   |none=>rfl
   |some o=>rw[I.hok.fresh (hp b o hN)] at e;cases e
  have gf:(h'.push fo).get? h'.objs.8=mn fo:=ik _ rfl;have I':=Inv.grown (N:=N) (more:=#[]) (h':=h'.push fo) (t':=tk) I hP (λb u _ e=>fe _ (hk b u e)) (by rw[vx];exact fe _ (hk _ _ hPs)) hp λb o e=>by
   rw[(n3 b o e).1,(n3 b o e).2];exact{gf,_,gf}
  rw[vx] at I';have old:∀b u,b≠P->H b=mn u->Uw N (upd H P (.tbl ps)) b=mn u:=λb u hb e=>by rw[Go (hn b u e),Al hb];exact e
  have hcP:c'≠P:=Ey hc' hP (by intro q;cases q);exact h _ c' oc _ ctv _ _ I' {ps,by rw[Go (hn P _ hP),Ac],ht,.inr {c',oc,hc,old _ _ hcP hc',ho}} old (I.hok.fresh (hp _ _ n1)) (Mc n1) (old _ _ hcP hc') ho
end
section
variable {prog:gu} {w:i7} {A:jp} {R:yq->fz->Prop} {s:fz}
theorem xQ {f c' c a:ee}{k d:Str}{cl:List (Str×ee)}{ctv u v:ft}{pk pd pp:Pos}{its:Array ft}{i:Int}{ti:Tok}
  (ho:s.heap.get? f=mn (AI "<lambda>" qual params (.Subscript (.Name d pd) (.Name k pk) pp) scope cl pm c' ctv))(hcd:s.heap.CodeRec (.ref c') qual)(hroom:A.depth<recursionLimit)(hlim:s.heap.NoLimit)
  (hbind:bindArgs (FJ "<lambda>" qual params (.Subscript (.Name d pd) (.Name k pk) pp) scope cl pm (.ref c') ctv) {[.int i ti],[]}=pure [(k,.int i ti)])
  (hk:scope.kind=.function)(hco:scope.isCoroutine=ML)(hgen:scope.isGenerator=ML)(lk:scope.names.lookup k=mn .local)(ld:scope.names.lookup d=mn .free)(hcell:∀x∈scope.names,x.2≠.cell)(hcl:cl.lookup d=mn c)
  (hd:(d==("__classdict__":Str))=ML)(nk:(k==("__debug__":Str))=ML)(nd:(d==("__debug__":Str))=ML)
  (hcv:s.heap.IsCell c (mn (.ref a)))(hl:s.heap.IsList a its)(h0:0<=i)(hfit:i<2 ^ 63)(hv:its[i.toNat]?=mn v)
  (h:∀(h':ki) (tk:Tok),(∀b o,s.heap.get? b=mn o->h'.get? b=mn o)->R (.ok (.ret v)) { s with heap:=h',toks:=tk }) :
  codeAny (model prog w) A (.call (.ref f) {[.int i ti],[]}) R s:=by
 refine CV hroom ho rfl hco hgen rfl hcd ?_;rw[hbind];refine fu (ym hcell (λy hy=>by cases gl.mp hy;exact lk) (λQT hns hsb=>{hlim.fresh _ hsb,?_}) hk);have XB:∀b o,s.heap.get? b=mn o->QT.get? b=mn o:=λb o e=>hsb.extBut b o (ip (gd e)) (fe _ e);refine CU (Subscript_ (zz (GN hk ld hcl (hcv.keeps XB) (zz (yn hk lk hns (v:=.int i ti) (by simp) (item_listR (let ⟨o,e,r⟩:=hl;{o,XB _ _ e,r}) h0 hfit hv (h QT _ XB))) nk) hd) nd))
end
open PySem.W
def ltK (x y:gw):Bool:=decide (numOf x.1<numOf y.1)
def Vu (x y:Int×ft):Bool:=decide (x.1<y.1)
theorem rY:Swo ltK:=by
 refine{λa=>by simp[ltK],λa b c h1 h2=>?_,λa b c h1=>?_}
 .simp only[ltK,decide_eq_true_eq] at h1 h2 ⊢;lia
 .simp only[ltK,decide_eq_true_eq] at h1 ⊢;lia
section
variable {prog:gu} {w:i7} {A:jp} {E:Za0} {s:fz}
theorem X8:nK prog w A E s oneType' (λx=>∃n t,x.1=nu n t) ltK:=by
 intro x y st Q hx hy hk h;obtain⟨x1,x2⟩:=x;obtain⟨y1,y2⟩:=y;obtain⟨a,t,e1⟩:=hx;obtain⟨b,u,e2⟩:=hy;dsimp only at e1 e2;subst e1 e2;rw[lt'_eq];refine gg (wj ?_);rw[hk];refine gg (yl (zo ?_));exact kat_lt_int {rfl,gv h}
theorem Abw {keys:Array ft}(hk:ni keys.7 kz):(At ltK (keys.zip vs.6).7).map (·.2)=(At Vu (kz.zip vs)).map (·.2):=by
 have e2:(keys.toList.zip vs).map (λp:gw=>(numOf p.1,p.2))=kz.zip vs:=by
  rw[<-hk.nums,List.zip_map_left];exact jb λ⟨x,y⟩ _=>rfl
 rw[<-e2,M6 (lt:=ltK) (f:=λp:gw=>(numOf p.1,p.2)) (λ_ _=>rfl),jm,ksk_zip];rfl
theorem jA {a kS:ee}{keys:Array ft}{e e1:Nat}{st:ke}{P:CJ->fz->Prop}(gk:s.heap.get? kS=mn (seqObj "list" keys e))(ga:s.heap.get? a=mn (seqObj "list" #[] e1))(hka:kS≠a)
  (hk:ni keys.7 kz)(hlen:kz.9=vs.9)(hz:vs.9<=sizeLine)(hs:(arrOf st).7=At ltK (keys.zip vs.6).7)(hfl:failedOf st=tp)
  (h:∀h' out c,(∀b o,b≠a->b≠kS->s.heap.get? b=mn o->h'.get? b=mn o)->h'.get? a=mn (seqObj "list" out c)->out.7=(At Vu (kz.zip vs)).map (·.2)->P (.done (.ret .none)) { s with heap:=h' }) :
  wpAny (model prog w) A (ksk_tail a ML e1 (.ref kS) st) P E s:=by
 have hsz:keys.8=vs.9:=by
  have h1:=hk.9;rw[f9] at h1;lia
 have s1:=uf s.5 kS (lw λ_=>(#[]:Array ft));have na1:(s.heap.update kS (lw λ_=>(#[]:Array ft))).get? a=mn (seqObj "list" #[] e1):=(s1.2 a hka.symm).trans ga;have s2:=uf (s.heap.update kS (lw λ_=>(#[]:Array ft))) a (lw λ_=>(arrOf st).map (·.2));obtain⟨c2,hc2⟩:∃c2,((s.heap.update kS (lw λ_=>(#[]:Array ft))).update a (lw λ_=>(arrOf st).map (·.2))).get? a=mn (seqObj "list" ((arrOf st).map (·.2)) c2):={_,xy na1 λ_=>(arrOf st).map (·.2)};have eo:((arrOf st).map (·.2)).7=(At Vu (kz.zip vs)).map (·.2):=by
  rw[FP,hs,Abw hk]
 have so:((arrOf st).map (·.2)).8<=sizeLine+1:=by
  rw[<-f9,eo,d4,Dg,AD];lia
 unfold ksk_tail
 try dsimp only
 refine wpAny_bind (listUpdate_at gk rfl ?_ (by rw[hsz];exact hz) (gy _));refine wpAny_bind (rn ?_);refine wpAny_bind (seqEpoch_at na1 rfl ?_);simp only[ku,if_false];refine wpAny_bind (listUpdate_at na1 rfl ?_ (gy _) so);rw[hfl];simp only[bne_self_eq_false,ku,if_false];exact fu (h _ _ c2 (λb o h1 h2 q=>(s2.2 b h1).trans ((s1.2 b h2).trans q)) hc2 eo)
theorem Acj {a kS:ee}{keys:Array ft}{e e1:Nat}{P:CJ->fz->Prop}(gk:s.heap.get? kS=mn (seqObj "list" keys e))(ga:s.heap.get? a=mn (seqObj "list" #[] e1))(hka:kS≠a)
  (hk:ni keys.7 kz)(hlen:kz.9=vs.9)(hz:vs.9<=sizeLine)
  (h:∀h' out c,(∀b o,b≠a->b≠kS->s.heap.get? b=mn o->h'.get? b=mn o)->h'.get? a=mn (seqObj "list" out c)->out.7=(At Vu (kz.zip vs)).map (·.2)->P (.done (.ret .none)) { s with heap:=h' }) :
  wpAny (model prog w) A (ksk_end a ML vs.6 e1 (.ref kS) keys) P E s:=by
 have hsz:keys.8=vs.9:=by
  have h1:=hk.9;rw[f9] at h1;lia
 have hzs:(keys.zip vs.6).8=vs.9:=by rw[Array.size_zip,hsz,gh,rh]
 unfold ksk_end
 try dsimp only
 simp only[ku,if_false]
 by_cases h2:vs.toArray.8<2
 .rw[if_pos h2,if_pos h2]
  refine wpAny_bind (fu ?_);rw[FL];refine wpAny_bind (fu ?_)
  try dsimp only
  refine jA (st:=vm general' (keys.zip vs.6) #[] 7 tp) gk ga hka hk hlen hz ?_ rfl h;show(keys.zip vs.6).7=_;refine(Ka ?_).symm;have hl:(keys.zip vs.6).toList.length<2:=by rw[f9,hzs];rw[gh] at h2;exact h2
  exact iE hl
 .rw[if_neg h2,if_neg h2]
  rw[gh] at h2;rw[ksk_kind hk (by rw[hsz];lia)];refine wpAny_bind (fu ?_);refine wpAny_bind (p6 (No (P:=λx=>∃n t,x.1=nu n t) X8 rY (l0:=(keys.zip vs.6).7) (st:=vm oneType' (keys.zip vs.6) #[] 7 tp)
   (Q:=λ_ st'=>failedOf st'=tp/\(arrOf st').7=At ltK (keys.zip vs.6).7) rfl rfl rfl rfl (λx hx=>?_) (by rw[f9,hzs];lia) λst' a1 a2=>⟨a1,a2⟩) ?_ λ_ _ e=>e)
  .rw[ksk_zip] at hx
   obtain⟨x,y⟩:=x;exact hk.all _ (vc hx).1
  rintro⟨⟨⟩,st'⟩ s' ⟨rfl,hf,hs⟩
  try dsimp only
  exact jA gk ga hka hk hlen hz hs hf h
end
section
variable {prog:gu} {w:i7} {A:jp} {E:Za0} {s:fz}
def Mx (a:ee)(h h':ki):Prop:=∀b o,b≠a->h.get? b=mn o->h'.get? b=mn o
theorem yJ {a kS:ee}{f:ft}{e1:Nat}{QN:fz}{P:CJ->fz->Prop}(gk:s.heap.get? kS=mn (seqObj "list" #[] 0))(ga:s.heap.get? a=mn (seqObj "list" #[] e1))(hka:kS≠a)(hn:QN.heap.get? kS=tp)
    (keep : Mx a QN.5 s.5)(hlen : kz.9 = vs.9)(hz : vs.9 <= sizeLine)
    (turn : ∀ (i : Nat) (v : ft) (k : Int), vs[i]? = mn v->kz[i]? = mn k->∀ (h : ki) (tk : Nat) (Q : ft->fz->Prop), Mx a QN.5 h ->
      (∀ t h' tk', (∀ b o, h.get? b = mn o->h'.get? b = mn o)->Q (.int k t) { s with heap := h', toks := tk' })->wpAny (model prog w) A (call f [v]) Q (λ_ _ => False) { s with heap := h, toks := tk })
    (h : ∀ h' tk out c, Mx a QN.5 h'->h'.get? a = mn (seqObj "list" out c)->out.7 = (At Vu (kz.zip vs)).map (·.2)->P (.done (.ret .none)) { s with heap := h', toks := tk }) :
    wpAny (model prog w) A (ksk_rest a f ML vs.6 e1 (.ref kS)) P E s := by
  unfold ksk_rest;refine wpAny_bind (qf ?_)
  first
    | rw [List.forIn_toArray]
    | (rw [<- vw]; simp only [m8])
    | rw [<- vw]
  refine wpAny_bind (ksk_fold (λi s' => ∃ h' tk kA e, s' = { s with heap := h', toks := tk }/\Mx a QN.5 h'/\h'.get? kS = mn (seqObj "list" kA e)/\h'.get? a = mn (seqObj "list" #[] e1)/\ni kA.7 (kz.take i)) vs 0 s
    {s.5, s.toks, #[], 0, rfl, keep, gk, ga, by simpa using IntsAre.nil} ?step ?done)
  case step =>
    rintro j x s' hx ⟨h', tk, kA, e, rfl, K', gk', ga', hk⟩;simp only [k5] at hk ⊢;have hj : j < vs.9 := (fq.mp hx).1;obtain ⟨k, hkj⟩ : ∃ k, kz[j]? = mn k := {_, d6 ()};have hz2 : kA.8 < vs.9 := by
      have h1 := hk.9;rw [f9, fk] at h1;lia
    refine wpAny_bind (zo (p6 (turn j x k hx hkj h' tk (λv s'' => ∃ (t : Tok) (g : ki) (tk2 : Nat), v = .int k t/\s'' = { s with heap := g, toks := tk2 }/\∀ b o, h'.get? b = mn o->g.get? b = mn o) K' λt2 g tk2 kg => ⟨t2, g, tk2, rfl, rfl, kg⟩) (λv s'' he => ?_) λ_ _ hF => hF.elim));obtain ⟨t2, g, tk2, rfl, rfl, kg⟩ := he
    try dsimp only
    have s1 := uf g kS (lw (·.push (.int k t2)));obtain ⟨c2, hc2⟩ : ∃ c2, (g.update kS (lw (·.push (.int k t2)))).get? kS = mn (seqObj "list" (kA.push (.int k t2)) c2) := {_, xy (kg _ _ gk') (·.push (.int k t2))};have ek : kz.take (j + 1) = kz.take j ++ [k] := by rw [ie, hkj]; simp
    have ea : (kA.push (nu k t2)).7 = kA.7 ++ [nu k t2] := by simp
    refine wpAny_bind (listUpdate_at (kg _ _ gk') rfl ?_ () (iw (oz (Array.size_push ..)) ()));exact fu {rfl, _, _, kA.push (.int k t2), c2, rfl, λb o hb q => (s1.2 b (λz => by rw [z, hn] at q; cases q)).trans (kg _ _ (K' b o hb q)), hc2, (s1.2 a hka.symm).trans (kg _ _ ga'), by rw [ea, ek]; exact ksk_snoc hk}
  case done =>
    rintro s' ⟨h', tk, kA, e, rfl, K', gk', ga', hk⟩;have hk' : ni kA.7 kz := by
      have e3 : kz.take (0 + vs.9) = kz := fv ();rw [e3] at hk;exact hk
    try dsimp only
    refine wpAny_bind (FI gk' rfl ?_);exact Acj gk' ga' hka hk' hlen hz λh3 out c k3 g3 e3 => h h3 tk out c (λb o hb q => k3 b o hb (λz => by rw [z, hn] at q; cases q) (K' b o hb q)) g3 e3
theorem Aa3 {a:ee}{f:ft}{P:CJ->fz->Prop}(ho:s.heap.get? a=mn (seqObj "list" vs.6 n))(hlen:kz.9=vs.9)(hz:vs.9<=sizeLine)
  (turn:∀(i:Nat) (v:ft) (k:Int),vs[i]?=mn v->kz[i]?=mn k->∀(h:ki) (tk:Nat) (Q:Za0),Mx a s.5 h ->
   (∀t h' tk',(∀b o,h.get? b=mn o->h'.get? b=mn o)->Q (.int k t) { s with heap:=h',toks:=tk' })->wpAny (model prog w) A (call f [v]) Q (λ_ _=>False) { s with heap:=h,toks:=tk })
  (h:∀h' tk out c,Mx a s.5 h'->h'.get? a=mn (seqObj "list" out c)->out.7=(At Vu (kz.zip vs)).map (·.2)->P (.done (.ret .none)) { s with heap:=h',toks:=tk }) :
  wpAny (model prog w) A (ksk_tree a f ML) P E s:=by
 have ha:a<s.heap.objs.8:=gd ho;have s1:=uf s.5 a (lw λ_=>(#[]:Array ft));obtain⟨e1,ho1⟩:∃e1,(s.heap.update a (lw λ_=>(#[]:Array ft))).get? a=mn (seqObj "list" #[] e1):={_,xy ho λ_=>#[]};have hkS:((s.heap.update a (lw λ_=>(#[]:Array ft))).push (seqObj "tuple" vs.6 0)).objs.size=s.heap.objs.8+1:=by rw[DI,wy]
 unfold ksk_tree;refine wpAny_bind (FI ho rfl ?_);refine wpAny_bind (listUpdate_at ho rfl ?_ (by simpa using hz) (gy _));refine wpAny_bind (seqEpoch_at ho1 rfl ?_);refine wpAny_bind (DH ?_ (by show vs.9<=_;exact hz));refine wpAny_bind (zn ?_ (gy _));refine wpAny_holding ?_;exact yJ (QN:=s) (s:={ s with heap:=((s.heap.update a (lw λ_=>(#[]:Array ft))).push (seqObj "tuple" vs.6 0)).push (seqObj "list" #[] 0) }) (kS:=((s.heap.update a (lw λ_=>(#[]:Array ft))).push (seqObj "tuple" vs.6 0)).objs.size)
  (ik _ rfl) (fe _ (fe _ ho1)) (by rw[hkS];exact vp (zh ha)) (by rw[hkS];exact EB (AB _))
  (λb o hb q=>fe _ (fe _ ((s1.2 b hb).trans q))) hlen hz turn h
end
section
variable {prog:gu} {w:i7} {A:jp} {s:fz}
theorem iR {l:ee}(hl:s.heap.IsList l vs.6)(hz:vs.9<=sizeLine)(E':Za0)(Q':Za3->fz->Prop)
  (h:∀h' tk,(∀b o,s.heap.get? b=mn o->h'.get? b=mn o)->s.heap.objs.8<=h'.objs.8->Q' vs { s with heap:=h',toks:=tk }):wpAny (model prog w) A (collect (.ref l)) Q' E' s:=by
 refine collect_list hl (h _ s.toks (λb o q=>?_) (by rw[wy,DI];exact AB _)) hz;have hlt:b<s.heap.objs.8:=gd q;rw[Heap.get?_update_ne _ _ _ _ (ip hlt),y9 _ _ _ (ip hlt)];exact q
end
theorem Vx:∀{us:Za3} {ns:List Int},us.9=ns.9->(∀(i:Nat) u n,us[i]?=mn u->ns[i]?=mn n->∃t,u=.int n t)->ni us ns
 |[],[],_,_=>.nil
 |u::us,n::ns,hl,h=>by
  obtain⟨t,rfl⟩:=h 0 u n rfl rfl;exact .cons n t (Vx (xz hl) λi v m e1 e2=>h (i+1) v m e1 e2)
theorem M9:∀{us:Za3} {ns:List Int},A5 (ns.map V.int) us->ni us ns
 |[],[],_=>.nil
 |_::_,[],h=>by cases h
 |[],_::_,h=>by cases h
 |u::us,n::ns,h=>by
  cases h with
  |cons h1 h2=>obtain⟨t,rfl⟩:=h1;exact .cons n t (M9 h2)
def ltI (x y:Int×Int):Bool:=decide (x.1<y.1)
def Eh (kz ns:List Int):List Int:=(At ltI (kz.zip ns)).map (·.2)
theorem L4:∀l:Za3,(∀v∈l,∃n t,v=nu n t)->ni l (l.map numOf)
 |[],_=>.nil
 |v::l,h=>by
  obtain⟨n,t,rfl⟩:=h _ (ii ..);exact .cons n t (L4 l λu hu=>h u (gn _ hu))
theorem Aak (h:ni vs ns):ni ((At Vu (kz.zip vs)).map (·.2)) (Eh kz ns):=by
 have e1:(At Vu (kz.zip vs)).map (λp:Int×ft=>(p.1,numOf p.2))=At ltI (kz.zip ns):=by
  rw[<-M6 (f:=λp:Int×ft=>(p.1,numOf p.2)) (lt:=Vu) (lt':=ltI) (λ_ _=>rfl)];congr 1;rw[<-h.nums,List.zip_map_right];exact jb λ⟨x,y⟩ _=>rfl
 have e2:Eh kz ns=((At Vu (kz.zip vs)).map (·.2)).map numOf:=by
  unfold Eh;rw[<-e1,jm,jm];rfl
 rw[e2];refine L4 _ λv hv=>?_;obtain⟨p,hp,rfl⟩:=jq.mp hv;have:=(C9 (lt:=Vu) (kz.zip vs)).mem_iff.mp hp;obtain⟨x,y⟩:=p;exact h.all _ (vc this).2
section
variable {prog:gu} {w:i7} {A:jp} {E:Za0} {s:fz}
theorem vB {r:ee}{t u v:Tok}(hh:A.handled=tp)(hr:IsRange s.5 r 0 n 1 t u v)(hn:n<=100000)(E':Za0)(Q':Za3->fz->Prop)
  (h:∀vs h' tk,ni vs ((en n).map λi:Nat=>(i:Int))->(∀b o,s.heap.get? b=mn o->h'.get? b=mn o)->s.heap.objs.8<=h'.objs.8->Q' vs { s with heap:=h',toks:=tk }):wpAny (model prog w) A (collect (.ref r)) Q' E' s:=by
 have e2:kl 0 (n:Int) 1=n:=by rw[KZ];split<;>lia
 have key:∀R:yq->fz->Prop,(∀(h':ki) (tk:Nat) (acc':Array ft) (c':Nat),(∀b o,s.heap.get? b=mn o->h'.get? b=mn o)->h'.get? s.heap.objs.8=mn { cls:=.type "list",dict:=tp,data:=.seq acc' c',slots:=#[] } ->
   ItemsOf (λi v=>∃t,v=.int (0+(i:Int)*1) t) acc' n->R (.ok (.ret (.ref s.heap.objs.8))) { s with heap:=h',toks:=tk })->codeAny (model prog w) A (.builtin "proto.collect" ⟨[.ref r],[]⟩) R s:=λR hR=>by
  refine l5 F.entry_proto_collect ?_;rw[j1 F.plain_proto_collect _];show wpAny _ A.in1 (newList [] >>= λl=>again (.builtin "list.__iadd__" {[l,.ref r],[]})) _ _ s;refine wpAny_bind (ox ?_);refine fu {mj F.plain_list_iadd _,l5 F.entry_list_iadd ?_};rw[j1 F.plain_list_iadd _];have XR:(s.heap.push { cls:=.type "list",data:=.seq ([]:Za3).6 }).get? s.heap.objs.8=mn { cls:=.type "list",data:=.seq ([]:Za3).6 }:=ik _ rfl;show wpAny _ A.in1 (KG (.ref s.heap.objs.8) (.ref r) (.ref s.heap.objs.8)) _ _ _;exact wpAny_extend_range (R:=R) (s:={ s with heap:=s.heap.push { cls:=.type "list",data:=.seq ([]:Za3).6 } }) hh (fe _ hr) (small_one () () () ()) e2 () _ _ _ XR λh' tk acc' c' hk hS' hacc=>
   hR h' tk acc' c' (λb o q=>hk b o (ip (gd q)) (fe _ q)) hS' hacc
 unfold collect;refine wpAny_bind (wpAny_runValue (key _ λh' tk acc' c' hk hS' hacc=>?_));show wpAny _ A (load s.heap.objs.8 >>= _) _ _ _;refine wpAny_bind (wpAny_load hS' ?_);refine fu (h _ h' tk ?_ hk (gz (gd hS')));refine Vx (by rw[d4,fm,f9,hacc.1]) λi x y e1 e3=>?_;have hi:i<n:=by have:=(fq.mp e3).1;simpa using this
 rw[fj,gr hi] at e3;cases e3;have e4:acc'[i]?=mn x:=by rw[<-ge];exact e1
 obtain⟨t,e5⟩:=hacc.2 i x e4;exact{t,by rw[e5];simp}
theorem jM {arg:ft}{q:ee}{Q:Za0}(hlen:kz.9=ns.9)(hz:ns.9<=sizeLine)
  (hcol:∀(E':Za0) (Q':Za3->fz->Prop),(∀vs h' tk,ni vs ns->(∀b o,s.heap.get? b=mn o->h'.get? b=mn o)->s.heap.objs.8<=h'.objs.8->Q' vs { s with heap:=h',toks:=tk })->wpAny (model prog w) A.in1 (collect arg) Q' E' s)
  (turn:∀(i:Nat) (n k:Int) (t:Tok),ns[i]?=mn n->kz[i]?=mn k->∀(h:ki) (tk:Nat) (Q:Za0),(∀b o,s.heap.get? b=mn o->h.get? b=mn o) ->
   (∀t h' tk',(∀b o,h.get? b=mn o->h'.get? b=mn o)->Q (.int k t) { s with heap:=h',toks:=tk' })->wpAny (model prog w) A.in1.in1 (call (.ref q) [.int n t]) Q (λ_ _=>False) { s with heap:=h,toks:=tk })
  (h:∀D h' tk out c,s.heap.objs.8<=D->(∀b o,s.heap.get? b=mn o->h'.get? b=mn o)->h'.get? D=mn (seqObj "list" out c)->ni out.7 (Eh kz ns)->Q (.ref D) { s with heap:=h',toks:=tk }) :
  wpAny (model prog w) A (call (.builtin "sorted") [arg] [(ll "key",.ref q)]) Q E s:=by
 refine call_function_entry_kw kind_sorted LX LZ (ksk_s1 _ _) ?_;unfold qw.«sorted»;refine wpAny_bind (m:=checkCount "sorted" 1 1 _) (fu ?_);refine wpAny_bind (hcol _ _ λvs h1 tk1 hI k1 z1=>?_);have hlv:vs.9=ns.9:=hI.9;refine wpAny_bind (zn ?_ (by rw[hlv];exact hz));have hoL:(h1.push (seqObj "list" vs.6 0)).get? h1.objs.8=mn (seqObj "list" vs.6 0):=ik _ rfl;have keep:∀b o,s.heap.get? b=mn o->(h1.push (seqObj "list" vs.6 0)).get? b=mn o:=λb o q=>fe _ (k1 b o q);have nD:∀b o,s.heap.get? b=mn o->b≠h1.objs.8:=λb o q=>ip (gq (gd q) z1);show wpAny _ _ _ _ _ { s with heap:=h1.push (seqObj "list" vs.6 0),toks:=tk1 };refine wpAny_bind (wpAny_holding (wpAny_call_entry_kw slot_list_sort {_,hoL,rfl} entry_list_sort ?body (ksk_l1 _ _)))
 case body=>
  show wpAny (model prog w) A.in1.in1 (qw.«list.sort» {[.ref h1.objs.8],[(ll "key",.ref q)]}) _ _ _;rw[ksk_t1];refine Aa3 (kz:=kz) (s:={ s with heap:=h1.push (seqObj "list" vs.6 0),toks:=tk1 }) hoL (by rw[hlv];exact hlen) (by rw[hlv];exact hz) (λi v k e1 e2 h2 tk Q2 kb q2=>?_) λh2 tk out c kb g e=>?_
  .obtain⟨n,t,rfl,e3⟩:=hI.at i v e1
   exact turn i n k t e3 e2 h2 tk Q2 (λb o q=>kb b o (nD b o q) (keep b o q)) q2
  .exact{_,rfl,fu {_,rfl,h _ h2 tk out c z1 (λb o q=>kb b o (nD b o q) (keep b o q)) g (by rw[e];exact Aak hI)}}
end
abbrev Zu (k:Str)(pa:Pos):pq:={ posonlyargs:=[],args:=[{ arg:=k,annotation:=tp,pos:=pa }],vararg:=tp,kwonlyargs:=[],kw_defaults:=[],kwarg:=tp,defaults:=[] }
abbrev Ph (k d:Str):qh:={.function,[(k,.local),(d,.free)],ML,ML,[]}
abbrev eA (k d:Str)(pd pk pp:Pos):jk:=.Subscript (.Name d pd) (.Name k pk) pp
section
variable {X:Cx}
def Aek (ta:TA):TE:=λG H Q=>ta G H λvs H1=>∃j:Nat,vs=[.int j]/\j<=100000/\∀p,H1 p=tp->Q (.ref p) (upd H1 p (.rng 0 j))
theorem Acu {a:jk}{ta:TA}{q pos2:Pos}(hg2:Gl X "range")(hm2:X.mg "range"=tp)(ha:PA X [a] ta)(hs:autoParam (starEach [a] X.env=[(ML,eval a X.env)]) QD) :
  PE X (.Call (.Name "range" q) [a] [] pos2) (Aek ta):=by
 k_in;refine wpAny_Call_Name_kw (Ee I hg2 hm2 boot_range (i8 (thA ha I h λus s1 vs H1 I1 r1 q1=>?_) hs rfl) (by decide) (by decide));obtain⟨j,e,hj,q⟩:=q1;subst e;obtain⟨u,rfl,t,rfl⟩:=E4 r1;refine MA ?_;exact{.ref _,_,I1.laid (o:=.rng 0 j) (λb o e=>fe _ e) (d8 _) {_,_,_,ik _ rfl},rfl,q _ (I1.hok.fresh (d8 _))}
theorem Agw {G:St}{Q:VK}{ta:TA}(h:ta G H λvs H1=>∃j:Nat,vs=[.int j]/\j<=100000/\∀p,H1 p=tp->Q (.ref p) (upd H1 p (.rng 0 j))):Aek ta G H Q:=h
def Cg (n:Nat):List Int:=(en n).map λj:Nat=>(j:Int)
def wH (P:ee)(lpos:Pos)(qual:Str)(i:Nat)(ta:TE):TE:=λG H Q=>ta G H λx H1=>∃r l ds,x=.ref r/\G[i]?=mn (mn (.ref l))/\H1 l=mn (.lst (ds.map V.int))/\ds.9<=100000 /\
 (H1 r=mn (.lst ((Cg ds.9).map V.int))\/H1 r=mn (.rng 0 ds.9))/\Mj H1 P lpos qual /\
 ∀p H',Nr P H1 H'->Mj H' P lpos qual->H1 p=tp->H' p=mn (.lst ((Eh ds (Cg ds.9)).map V.int))->Q (.ref p) H'
theorem Ab1 {P:ee}{i:Nat}{ta:TE}{G:St}{Q:VK}(h:ta G H λx H1=>∃r l ds,x=.ref r/\G[i]?=mn (mn (.ref l))/\H1 l=mn (.lst (ds.map V.int))/\ds.9<=100000 /\
 (H1 r=mn (.lst ((Cg ds.9).map V.int))\/H1 r=mn (.rng 0 ds.9))/\Mj H1 P lpos qual /\
 ∀p H',Nr P H1 H'->Mj H' P lpos qual->H1 p=tp->H' p=mn (.lst ((Eh ds (Cg ds.9)).map V.int))->Q (.ref p) H'):wH P lpos qual i ta G H Q:=h
theorem wP {a:jk}{ta:TE}{p pa pd pk pp kpos:Pos}{d k:Str}{i:Nat}{c P cl:ee}(hcal:X.calm=MK)(hr:Cz 1 X.A)(hg:Gl X "sorted")(hm:X.mg "sorted"=tp)(ha:PE X a ta)
  (C:DO X.base c P)(hb:X.base.BuiltinsAt X.mg P)(hcode:X.env.code=.ref c)(hN:X.N[i]?=mn d)(hkd:X.env.scope.names.lookup d=mn .cell)(hce:X.env.cells.lookup d=mn cl)
  (hcl:closureFor (Ph k d) X.env=pure [(d,cl)])(hq:X.env.qual++"<lambda>"=qual)
  (hbind:∀(pm cv ctv:ft) (n:Int) (t:Tok),bindArgs (FJ "<lambda>" qual (Zu k pa) (eA k d pd pk pp) (Ph k d) [(d,cl)] pm cv ctv) {[.int n t],[]}=pure [(k,.int n t)])(hs:autoParam (starEach [a] X.env=[(ML,eval a X.env)]) QD)
  (ek:autoParam ((d==k)=ML) QF)(hd:autoParam ((d==("__classdict__":Str))=ML) QF)(nk:autoParam ((k==("__debug__":Str))=ML) QF)(nd:autoParam ((d==("__debug__":Str))=ML) QF) :
  PE X (.Call (.Name "sorted" p) [a] [{mn "key",.Lambda (Zu k pa) (eA k d pd pk pp) (Ph k d) lpos,kpos}] pos) (wH P lpos qual i ta):=by
 k_in;refine wpAny_Call_Name_kw (Ee I hg hm U4 (callWith_kw ?_ (by rw[hs];rfl) (by rw[hs];rfl) rfl rfl) (by decide) (by decide));rw[hs];refine o9 ?_;show wpAny _ _ (eval a X.env) _ _ _;refine thE ha I h λv s1 x H1 I1 r1 ⟨r,l,ds,ex,XF,hl,hz,hrr,hT,q⟩=>?_;subst ex;obtain rfl:v=ka r:=r1;refine tm ?_;show wpAny _ _ (evalAll [(do let v <-eval (.Lambda (Zu k pa) (eA k d pd pk pp) (Ph k d) lpos) X.env;standAt pos;pure v)]) _ _ _;unfold evalAll;refine wpAny_bind (wpAny_bind (kC I1 hT C hb hcode hcl rfl hq λf c' oc pm ctv s2 H2 I2 hT2 sm hf0 hf hc' hoc=>?_));refine wpAny_bind (w9 (fu ?_));unfold evalAll;refine wpAny_bind (wpAny_holding (fu (fu ?_)));show wpAny _ _ (call (.builtin "sorted") [.ref r] [(ll "key",.ref f)]) _ _ _;have hlP:l≠P:=λe=>by obtain⟨ps,e1,_⟩:=hT;rw[e,e1] at hl;cases hl
 have hl2:H2 l=mn (.lst (ds.map V.int)):=sm _ _ hlP hl;obtain⟨_,its,nn,hv,hit⟩:=I2.hok l _ hl2;have hiI:ni its ds:=M9 hv;have hfo:s2.heap.get? f=mn _:=(I2.hok f _ hf).1;have hco:s2.heap.get? c'=mn oc:=(I2.hok c' _ hc').1;have hcell:s2.heap.IsCell cl (mn (.ref l)):=by
  obtain⟨m,_,hlo⟩:=I2.loc;obtain⟨u,ru,lk⟩:=hlo i d (.ref l) hN XF (.inr (.inl hkd));obtain rfl:u=ka l:=ru;rcases lk with⟨hk,_⟩|⟨_,c2,hc2,hx⟩
  .have:mn AC=mn sd.local:=hkd.symm.trans hk
   cases this
  .rw[hce] at hc2
   cases hc2;exact hx
 have hlen:(Cg ds.9).9=ds.9:=by unfold Cg;rw[d4,fm]
 refine jM (ns:=Cg ds.9) (kz:=ds) hlen.symm (by rw[hlen];exact iw hz (by decide)) (λE' Q' hQ=>?_) (λj n kk t e1 e2 h3 tk Q3 kp q3=>?_) λD h' tk out cc hD kp hat hout=>?_
 .rcases hrr with hr1|hr1
  .have hrP:r≠P:=λe=>by obtain⟨ps,e1,_⟩:=hT;rw[e,e1] at hr1;cases hr1
   obtain⟨_,vs,nr,hv2,hit2⟩:=I2.hok r _ (sm _ _ hrP hr1);exact iR (vs:=vs) {_,hit2,rfl,_,rfl} (by rw[<-hv2.9,d4,hlen];exact iw hz (by decide)) E' Q' λh' tk kp z=>hQ vs h' tk (M9 hv2) kp z
  .have hrP:r≠P:=λe=>by obtain⟨ps,e1,_⟩:=hT;rw[e,e1] at hr1;cases hr1
   obtain⟨t,u,v,hit2⟩:=I2.hok r _ (sm _ _ hrP hr1);exact vB (A:=X.A.in1) (n:=ds.9) (I.ok.hd hcal) hit2 hz E' Q' hQ
 .have hj:j<ds.9:=(fq.mp e2).1
  obtain rfl:(j:Int)=n:=by
   unfold Cg at e1;rw[fj,gr hj] at e1;cases e1;rfl
  obtain⟨vk,hvk⟩:∃vk,its[j]?=mn vk:={_,d6 (by rw[hiI.9];exact hj)};obtain⟨k2,tk2,rfl,e3⟩:=hiI.at j vk hvk;rw[e2] at e3;cases e3;refine zy (xQ (u:=.none) (kp _ _ hfo) (let ⟨vs,t,e1,e2⟩:=hoc;{c',oc,vs,t,rfl,kp _ _ hco,e1,e2}) (show X.A.depth<recursionLimit from Cz.depth hr) ((I2.mod.nolimit.keeps I2.bk).keeps kp) (hbind _ _ _ _ _) rfl rfl rfl (by simp) ?_ (by simp) (by simp) hd nk nd (hcell.keeps kp) (its:=its.6) {_,kp _ _ hit,rfl,_,rfl} () () (by simpa using hvk) λh4 tk4 k4=>q3 tk2 h4 tk4 k4);show qk d [(k,sd.local),(d,qj)]=mn .free;simp[qk,ek]
 .have I3:Inv X pins G (upd H2 D (.lst ((Eh ds (Cg ds.9)).map V.int))) { s2 with heap:=h',toks:=tk }:=I2.laid kp hD ⟨by
    have h1:=hout.9;rw[d4];unfold Eh;rw[d4,Dg,AD,hlen,rh];exact iw hz (by decide),out.7,cc,M3 hout,hat⟩
  have hD2:H2 D=tp:=I2.hok.fresh hD;have hD1:H1 D=tp:=by
   cases e:H1 D with
   |none=>rfl
   |some u=>
    by_cases hDP:D=P
    .obtain⟨ps,e1,_⟩:=hT2
     rw[hDP,e1] at hD2;cases hD2
    .rw[sm D u hDP e] at hD2;cases hD2
  refine{.ref D,_,I3,rfl,q D _ (λb u hb e=>?_) ?_ hD1 Ac}
  .rw[Al (λz=>by rw[z,hD1] at e;cases e)]
   exact sm b u hb e
  .obtain⟨ps,e1,e2,e3⟩:=hT2
   have nP:P≠D:=λz=>by rw[z,hD2] at e1;cases e1
   refine{ps,by rw[Al nP];exact e1,e2,e3.imp id λ⟨c2,oc2,a1,a2,a3⟩=>{c2,oc2,a1,?_,a3}};rw[Al (λz=>by rw[z,hD2] at a2;cases a2)];exact a2
end
theorem Ir.at {o:Obj}{c P:ee}(x:Ir o c P)(e:h.get? c=mn o):DO h c P:=by
 obtain⟨vs,file,tf,flags,tg,inF,text,tt,a1,a2,a3,a4,a5,a6,a7,a8,a9⟩:=x;exact⟨o,vs,file,tf,flags,tg,inF,text,tt,e,a1,a2,a3,a4,a5,a6,a7,a8,a9⟩
structure U5 (K:d5) (x qual:Str) (st:jr) (f:ee) (fd:ky) (c P:ee):Prop where
 ex:∃(oc:ft) (od:Option ee) (kV doc pm:ft) (an:Option ee) (ct:ft) (osl:Array (Za7)),
  fd=j2 x qual (B3 st) (Br st) (Ad st) .none kV doc pm an (.ref c) ct/\K.lookup f=mn {oc,od,.func fd,osl}/\ml K (.ref c) qual=MK
 kp:lp K (.ref f)=MK
 hd:∃oc,K.lookup c=mn oc/\Ir oc c P
section
variable {P:gu} {w:i7} {K:d5} {mg:Za2} {base:ki}
theorem U5.ok {x:Str}{st:jr}{f c:ee}{k:Nat}(F:U5 K x qual st f fd c Pt)(S:Aj N ps (Ad st))(len:∀vs H Q E,sp vs H Q E->vs.9=ps.9)
  (hbody:∀(A:jp) (outer:List Env) (s:fz) (H:Hp) (vs:List V) (Q:VK) (E:XK),Cz k (A.deeper (envOfC qual (Ad st) s.heap.objs.8 f (.ref c)))->sp vs H Q E ->
   ∃t,PSs (gL CX0 P w K mg base N qual (Ad st) f (.ref c) A outer s H E).nox (Br st) t/\t { nx:=λ_ H'=>Q .non H',rt:=Q } (Np N vs) H):Av P w K mg base CX0 (k+1) f fd ps sp:=by
 obtain⟨oc,od,kV,doc,pm,an,ct,osl,rfl,lk,hcd⟩:=F.ex;refine wD lk hcd S len λA outer s H vs Q E hr hsp=>?_;obtain⟨t,h,q⟩:=hbody A outer s H vs Q E hr hsp;exact⟨t,h.nox,q⟩
theorem U5.code {x:Str}{st:jr}{f c:ee}(F:U5 K x qual st f fd c Pt)(hK:K.In base):DO base c Pt:=let ⟨oc,e,h⟩:=F.hd;h.at (hK _ _ e)
theorem U5.binds {x:Str}{st:jr}{f c:ee}(F:U5 K x qual st f fd c Pt)
  (h:∀(kV doc pm:ft) (an:Option ee) (cdv ct:ft) (us:Za3),us.9=ps.9->bindArgs (j2 x qual (B3 st) (Br st) (Ad st) .none kV doc pm an cdv ct) {us,[]}=pure (ps.zip us)):Fu K fd ps []:=by
 obtain⟨oc,od,kV,doc,pm,an,ct,osl,rfl,lk,hcd⟩:=F.ex;exact .all (h kV doc pm an (.ref c) ct)
theorem To {x:Str}{st:jr}{f c:ee}{osl:Array (Za7)}{kV:ft}{oo:Obj}(l:K.lookup f=mn {oc,od,.func (j2 x qual (B3 st) (Br st) (Ad st) .none kV doc pm an (.ref c) ct),osl})
  (cc:ml K (.ref c) qual=MK)(k:lp K (.ref f)=MK)(lc:K.lookup c=mn oo)(hc:Ir oo c Pt):U5 K x qual st f (j2 x qual (B3 st) (Br st) (Ad st) .none kV doc pm an (.ref c) ct) c Pt:={⟨oc,od,kV,doc,pm,an,ct,osl,rfl,l,cc⟩,k,oo,lc,hc}
end
def InC (cl:List (Str×ee))(b:ee):Prop:=∃x,cl.lookup x=mn b
open Classical in
noncomputable def J7 (H:Hp) (cl:List (Str×ee)):Hp:=λb=>if InC cl b then tp else H b
open Classical in
noncomputable def Jy (H:Hp) (h:ki) (cl:List (Str×ee)):Hp:=λb=>if InC cl b then(h.get? b).map λo=>.frz o (.own 0) else H b
theorem Mm {cl:List (Str×ee)}{b:ee}(h:InC cl b):J7 H cl b=tp:=if_pos h
theorem Gg {cl:List (Str×ee)}{b:ee}(h:¬ InC cl b):J7 H cl b=H b:=if_neg h
theorem Pi {cl:List (Str×ee)}{b:ee}{o:Obj}(hb:InC cl b)(e:h.get? b=mn o):Jy H h cl b=mn (.frz o (.own 0)):=by
 unfold Jy;rw[if_pos hb,e];rfl
theorem Dm {cl:List (Str×ee)}{b:ee}(hb:¬ InC cl b):Jy H h cl b=H b:=if_neg hb
theorem Fn {cl:List (Str×ee)}{b:ee}(h:H b=tp):J7 H cl b=tp:=by
 by_cases hb:InC cl b
 .exact Mm hb
 .rw[Gg hb];exact h
theorem mR {cl:List (Str×ee)}{b:ee}{o:HO}(h:J7 H cl b=mn o):¬ InC cl b/\H b=mn o:=by
 by_cases hb:InC cl b
 .rw[Mm hb] at h;cases h
 .rw[Gg hb] at h;exact⟨hb,h⟩
theorem gQ {P:gu}{cl:List (Str×ee)}(hk:HOk P w H h)(hc:∀b,InC cl b->∃o u,H b=mn (.frz o u)):HOk P w (J7 H cl) h:=λb o e=>by
 obtain⟨hb,e⟩:=mR e;refine(hk b o e).stay (λ_ _ _ q=>q) (λc q=>?_) λc xs q=>?_
 .rw[Gg λz=>?_]
  .exact q
  .obtain⟨o,u,e⟩:=hc c z
   rw[q] at e;cases e
 .rw[Gg λz=>?_]
  .exact q
  .obtain⟨o,u,e⟩:=hc c z
   rw[q] at e;cases e
theorem mH {P:gu}{w:i7}{H:Hp}{h:ki}{cl:List (Str×ee)}(hk:HOk P w H h)(hn:∀b,InC cl b->H b=tp):HOk P w (Jy H h cl) h:=λb o e=>by
 by_cases hb:InC cl b
 .unfold Jy at e
  rw[if_pos hb] at e
  cases g:h.get? b with
  |none=>rw[g] at e;cases e
  |some ob=>
   rw[g] at e;cases e;exact{g,_,g}
 .rw[Dm hb] at e
  refine(hk b o e).stay (λ_ _ _ q=>q) (λc q=>?_) λc xs q=>?_
  .rw[Dm λz=>by rw[hn c z] at q;cases q];exact q
  .rw[Dm λz=>by rw[hn c z] at q;cases q];exact q
def lH (P:gu)(w:i7)(K:d5)(mg:Za2)(base:ki)(k:Nat)(H:Hp)(f:ee)(dom:Int->Prop)(p:Int->Bool):Prop:=
 (∃oc od fd sl u,H f=mn (.frz {oc,od,.func fd,sl} u))/\∀(A:jp) (outer:List Env) (s:fz) (H1:Hp) (i:Int) (t:Tok),Cz k A->Xq P w K mg base A outer s H1->Ah H H1->dom i ->
  codeAny (model P w) A (.call (.ref f) {[.int i t],[]}) (CR CX0 outer P w H1 s (λv H2=>v=.bl (p i)/\Ah H1 H2) E0) s
theorem lH.same {P:gu}{K:d5}{mg:Za2}{k:Nat}{f:ee}{dom:Int->Prop}{p:Int->Bool}(a:lH P w K mg base k H f dom p)(s:Ah H H'):lH P w K mg base k H' f dom p:=
 {let ⟨oc,od,fd,sl,u,e⟩:=a.1;{oc,od,fd,sl,u,s _ _ e},λA outer st H1 i t hr e0 sm hd=>a.2 A outer st H1 i t hr e0 (λb o e=>sm _ _ (s _ _ e)) hd}
section
variable {X:Cx} {x:Str} {i:Nat} {k:Nat} {a:jk} {ta:TE} {q pos:Pos}
def Ahi (P:gu)(w:i7)(K:d5)(mg:Za2)(base:ki)(k i:Nat)(ta:TE):TE:=λG H Q=>∃(f:ee) (dom:Int->Prop) (p:Int->Bool),G[i]?=mn (mn (.ref f))/\lH P w K mg base k H f dom p /\
 ta G H λv H1=>Sx G H1 λvs H2=>∃z:Int,v::vs=[.int z]/\Ah H H2/\dom z/\∀H3,Ah H2 H3->Q (.bl (p z)) H3
theorem Ah2 {P:gu}{K:d5}{mg:Za2}{G:St}{Q:VK}(h:∃(f:ee) (dom:Int->Prop) (p:Int->Bool),G[i]?=mn (mn (.ref f))/\lH P w K mg base k H f dom p /\
 ta G H λv H1=>Sx G H1 λvs H2=>∃z:Int,v::vs=[.int z]/\Ah H H2/\dom z/\∀H3,Ah H2 H3->Q (.bl (p z)) H3):Ahi P w K mg base k i ta G H Q:=h
theorem Afg (hr:Cz k X.A)(hN:X.N[i]?=mn x)(hv:X.env.scope.names.lookup x=mn .local)(ha:PE X a ta)(hdb:autoParam ((x==("__debug__":Str))=ML) QF)(hcd:autoParam ((x==("__classdict__":Str))=ML) QF)
  (he:autoParam (starEach [a] X.env=[(ML,eval a X.env)]) QD) :
  PE X (.Call (.Name x q) [a] [] pos) (Ahi X.prog X.w X.K X.mg X.base k i ta):=by
 intro pins s G H Q I ⟨f,dom,p,XF,hA,h⟩;have hn:PE X (.Name x q) (kX i):=Aao hN (.inl hv) hdb hcd;refine wpAny_Call_Name_kw (thn (hn pins s G H (λv H1=>v=.ref f/\H1=H) I {_,XF,rfl,rfl}) λu s0 ⟨v0,H0,I0,r0,e0,e1⟩=>?_);subst e0 e1;obtain rfl:u=ka f:=r0;have fnAt:∀{s':fz} {H':Hp},Inv X pins G H' s'->Ah H0 H'->PySem.W.FnAt f s'.5:=λI' sm=>by
  obtain⟨oc,od,fd,sl,u,e⟩:=hA.1;exact{oc,od,fd,sl,(I'.hok _ _ (sm _ _ e)).1}
 have hp:PA X [a] (Yt ta Sx):=tN ha Ab he;refine PySem.W.callWith_F (fnAt I0 (λ_ _ e=>e)) (thn (hp pos pins s0 G H0 (λvs H1=>∃z:Int,vs=[.int z]/\Ah H0 H1/\dom z/\∀H3,Ah H1 H3->Q (.bl (p z)) H3) I0 ?_) λus s1 ⟨vs,H1,I1,r1,z,e1,sm,hz,q1⟩=>{fnAt I1 sm,?_}) he rfl
 .exact h
 subst e1;obtain⟨u,rfl,t,rfl⟩:=E4 r1;refine zy (wk (hA.2 X.A X.stack s1 H1 z t hr I1.env0 sm hz) λr s' hq=>?_)
 cases r with
 |error e=>exact hq.elim
 |ok fl=>
  cases fl with
  |ret u=>
   obtain⟨v,H',os,bare,un,hok,r,e2,sm2⟩:=hq;subst e2;exact I1.after {_,H',os,bare,un,hok,r,q1 _ sm2}
  |next=>exact l8 hq
  |brk=>exact l8 hq
  |cont=>exact l8 hq
end
abbrev vQ (qual:Str)(scope:qh)(cl:List (Str×ee))(C f:ee)(cd:ft):Env:=newEnv scope C mainGlobals cl (qual++ll ".<locals>.") (mn f) cd tp builtinsNs
def Yb (P:gu)(w:i7)(K:d5)(mg:Za2)(base:ki)(N:Za6)(qual:Str)(scope:qh)(cl:List (Str×ee))(f:ee)(cd:ft)(A:jp)(outer:List Env)(s:fz)(H:Hp):Cx where
 prog:=P
 w:=w
 K:=K
 mg:=mg
 base:=base
 A:=A.deeper (vQ qual scope cl s.heap.objs.8 f cd)
 N:=N
 QN:=s
 QZ:=H
 env:=vQ qual scope cl s.heap.objs.8 f cd
 outer:=outer
 stack:=vQ qual scope cl s.heap.objs.8 f cd::outer
 ex:=[]
 fn:=λ_=>ML
 calm:=MK
 pn:=[]
 xe:=λ_ _=>False
section
variable {P:gu} {w:i7} {K:d5} {mg:Za2} {base:ki}
theorem Ach {x:Str}{cl:List (Str×ee)}{f:ee}{cd:ft}{outer:List Env}{G:St}{QT:ki}{tk:Nat}{v0:V}{u0:ft}{k:Nat}
  (L:A7 QQ QP scope x N ix)(hr:Cz (k+1) A)(e0:Xq P w K mg base A outer s H1)
  (hinj:∀y z c,cl.lookup y=mn c->cl.lookup z=mn c->y=z)(hhas:∀y,(y,qj)∈scope.names->∃c,cl.lookup y=mn c)
  (hcs:∀y c,cl.lookup y=mn c->∃o v,H1 c=mn (.frz o (.own 0))/\o.data=.cell v)
  (hval:∀y j v,(y,j)∈N.tail.zip ix->G[j]?=mn (mn v)->∃c o u,cl.lookup y=mn c/\H1 c=mn (.frz o (.own 0))/\o.data=.cell (mn u)/\Bh v u)
  (hr0:Bh v0 u0)(hns:QT.Ns s.heap.objs.8 λz=>qk z [(x,u0)].reverse)(hk:∀b o,s.heap.get? b=mn o->QT.get? b=mn o) :
  Inv (Yb P w K mg base N qual scope cl f cd A outer s (J7 H1 cl)) [] (mn v0::frV G ix) (J7 H1 cl) { s with heap:=QT,toks:=tk }:=by
 have noA:∀b:ee,b∉(Yb P w K mg base N qual scope cl f cd A outer s (J7 H1 cl)).ex:=λb z=>absurd (show b∈([]:List ee) from z) (by simp);have kf:∀y,scope.names.lookup y≠mn .cell:=λy e=>L.nocell _ (ly e) rfl;refine⟨{e0.mod,L.kind,rfl,rfl,d8 _,λy z c h1 h2=>hinj y z c h1 h2,λy hy=>?_,λy c z _=>?_,λ_=>(hr.deeper _).hd,DG e0.frames,.inr ⟨rfl,rfl⟩,λb z=>absurd z (noA b),λb o e=>{(e0.bs b o e).1,Fn (e0.bs b o e).2},e0.bsz,λb _ _=>noA b,λb z=>absurd z (noA b),e0.funs,λb hb=>Fn (e0.frf b hb)},
  rfl,e0.bare,Un.kept hk,{_,hns,λi y v h1 h2 h3=>?_},λy c e=>?_,Fn (e0.hok.fresh (d8 _)),λy c e=>Mm ⟨y,e⟩,λp hp=>absurd (show p∈([]:Za1) from hp) (by simp),?_,?_⟩
 .have hy:scope.names.lookup y=mn .cell\/scope.names.lookup y=mn .free:=hy
  rcases hy with hy|hy
  .exact absurd hy (kf y)
  .exact hhas y (ly hy)
 .cases(show ML=MK from z)
 .cases i with
  |zero=>
   have h1:N[0]?=mn y:=h1;have h2:mn (mn v0)=mn (mn v):=h2;cases h2;have hx:N[0]?=mn x:=by have:=L.hd;rwa [w6] at this
   rw[h1] at hx;cases hx;exact{u0,hr0,.inl {L.loc,by simp}}
  |succ j=>
   have h1:N[j+1]?=mn y:=h1;have h2:(frV G ix)[j]?=mn (mn v):=h2;unfold frV at h2;rw[fj] at h2
   cases hj:ix[j]? with
   |none=>rw[hj] at h2;cases h2
   |some m=>
    rw[hj] at h2;have h2:(G[m]?).getD tp=mn v:=fc h2;have h2':G[m]?=mn (mn v):=by
     cases e:G[m]? with
     |none=>rw[e] at h2;cases h2
     |some z=>rw[e] at h2;exact congrArg mn h2
    have ht:N.tail[j]?=mn y:=by rw[List.getElem?_tail];exact h1
    have hz:(y,m)∈N.tail.zip ix:=gi (i:=j) (by rw[BV];exact⟨ht,hj⟩);obtain⟨c,o,u,e1,e2,e3,r⟩:=hval y m v hz h2';exact{u,r,.inr {.inr (L.at_ _ hz).2,c,e1,o,hk _ _ (e0.hok _ _ e2).1,e3}}
 .obtain⟨o,v,e1,e2⟩:=hcs y c e
  exact{v,o,hk _ _ (e0.hok _ _ e1).1,e2}
 .exact(gQ e0.hok λb ⟨y,e⟩=>let ⟨o,v,e1,_⟩:=hcs y b e;{o,_,e1}).kept hk
 .show(mn v0::frV G ix).9=N.9
  rw[L.len];simp[frV]
theorem xM {x:Str}{cl:List (Str×ee)}{f c':ee}{G:St}{k:Nat}{body:jk}{ctv:ft}{oc:Obj}{dom:Int->Prop}{p:Int->Bool}
  (L:A7 QQ QP scope x N ix)(hco:scope.isCoroutine=ML)(hgen:scope.isGenerator=ML)
  (hinj:∀y z c,cl.lookup y=mn c->cl.lookup z=mn c->y=z)(hhas:∀y,(y,qj)∈scope.names->∃c,cl.lookup y=mn c)
  (hcs:∀y c,cl.lookup y=mn c->∃o v,H c=mn (.frz o (.own 0))/\o.data=.cell v)
  (hval:∀y j v,(y,j)∈N.tail.zip ix->G[j]?=mn (mn v)->∃c o u,cl.lookup y=mn c/\H c=mn (.frz o (.own 0))/\o.data=.cell (mn u)/\Bh v u)
  (hf:H f=mn (.frz (AI "<lambda>" qual params body scope cl pm c' ctv) (.own 0)))(hc':H c'=mn (.frz oc (.own 0)))(hoc:Zx oc qual)
  (hbind:∀(n:Int) (t:Tok),bindArgs (FJ "<lambda>" qual params body scope cl pm (.ref c') ctv) {[.int n t],[]}=pure [(x,.int n t)])
  (hbody:∀(A:jp) (outer:List Env) (s:fz) (H1:Hp),Cz k (A.deeper (vQ qual scope cl s.heap.objs.8 f (.ref c')))->PE (Yb P w K mg base N qual scope cl f (.ref c') A outer s H1) body te)
  (hte:∀(i:Int) (H1:Hp),dom i->(∀b u,¬ InC cl b->H b=mn u->H1 b=mn u)->te (mn (.int i)::frV G ix) H1 λv H2=>v=.bl (p i)/\Ah H1 H2):lH P w K mg base (k+1) H f dom p:=by
 refine{{_,_,_,_,_,hf},λA outer s H1 i t hr e0 sm hd=>?_};have hfo:s.heap.get? f=mn (AI "<lambda>" qual params body scope cl pm c' ctv):=(e0.hok _ _ (sm _ _ hf)).1;have hco':s.heap.get? c'=mn oc:=(e0.hok _ _ (sm _ _ hc')).1;have lim:s.heap.NoLimit:=e0.mod.nolimit.keeps λb o e=>(e0.bs b o e).1;refine CV hr.depth hfo rfl hco hgen rfl (let ⟨vs,t,e1,e2⟩:=hoc;⟨c',oc,vs,t,rfl,hco',e1,e2⟩) ?_;rw[hbind];refine fu (ym L.nocell (λy hy=>by cases gl.mp hy;exact L.loc) (λQT hns hsb=>{lim.fresh _ hsb,?_}) L.kind);have XB:∀b o,s.heap.get? b=mn o->QT.get? b=mn o:=λb o e=>hsb.extBut b o (ip (gd e)) (fe _ e);have inH:∀b,InC cl b->∃o v,H1 b=mn (.frz o (.own 0))/\o.data=.cell v:=λb ⟨y,e⟩=>let ⟨o,v,e1,e2⟩:=hcs y b e;{o,v,sm _ _ e1,e2};have I':=Ach (qual:=qual) (f:=f) (cd:=.ref c') (tk:=s.toks+[(x,nu i t)].9) (v0:=.int i) (u0:=.int i t) L hr e0 hinj hhas (λy c e=>let ⟨o,v,e1,e2⟩:=hcs y c e;{o,v,sm _ _ e1,e2})
  (λy j v h1 h2=>let ⟨c,o,u,a1,a2,a3,a4⟩:=hval y j v h1 h2;{c,o,u,a1,sm _ _ a2,a3,a4}) ⟨t,rfl⟩ hns XB
 refine CU (p6 (hbody A outer s (J7 H1 cl) (hr.deeper _) [] _ _ _ _ I' (hte i _ hd λb u hb e=>by rw[Gg hb];exact sm _ _ e)) (λv s' ⟨v',H2,I2,r,ev,sm2⟩=>?_) λe s' z=>z.elim);have nfr:∀b,InC cl b->b∉frs outer:=λb hb z=>by
  obtain⟨o,v,e1,_⟩:=inH b hb;rw[e0.frf b z] at e1;cases e1
 have cell':∀b o u,InC cl b->H1 b=mn (.frz o u)->s'.heap.get? b=mn o/\u=.own 0:=λb o u hb e=>by
  obtain⟨o2,v2,e1,_⟩:=inH b hb;rw[e] at e1;cases e1;exact{I2.base.keep b o (e0.hok _ _ e).1 (Mm hb) (nfr b hb) (by simp[Yb]),rfl}
 have same':∀b u,H1 b=mn u->(∀ps,u≠.tbl ps)\/True->Jy H2 s'.5 cl b=mn u:=λb u e _=>by
  by_cases hb:InC cl b
  .obtain⟨o,v,e1,_⟩:=inH b hb
   rw[e] at e1;cases e1;exact Pi hb (cell' b o _ hb e).1
  .rw[Dm hb]
   exact sm2 _ _ (by rw[Gg hb];exact e)
 refine{v',Jy H2 s'.5 cl,I2.os,I2.bare,{λb o e n hf hx=>I2.base.keep b o e (Fn n) hf hx,λb o e n hf hx=>I2.base.slot b o e (Fn n) hf hx,λb o e n hx=>?_,λb o e hx=>I2.base.there b o e hx,λb xs e=>same' _ _ e (.inr trivial),λb o u e=>same' _ _ e (.inr trivial),λb ps e=>{#[],by rw[vx];exact same' _ _ e (.inr trivial)}},mH I2.hok λb ⟨y,e⟩=>I2.freeC y b e,r,ev,λb u e=>same' b u e (.inr trivial)};have hb:¬ InC cl b:=λhb=>by
  obtain⟨o,v,e1,_⟩:=inH b hb;rw[n] at e1;cases e1
 rw[Dm hb];exact I2.base.free b o e (Fn n) hx
end
inductive Tm (P:gu)(w:i7)(K:d5)(mg:Za2)(base:ki)(k:Nat)(vs:List V)(H:Hp)(Q:VK)(E:XK):Prop|mk(lo hi:Int)(f:ee)(p:Int->Bool)(_:vs=[.int lo,.int hi,.ref f])(_:lo<=hi)(_:lH P w K mg base k H f (λi=>lo<=i/\i<hi) p)(_:∀m H',lo<=m->m<=hi->(lo<m->p (m-1)=ML)->(m<hi->p m=MK)->Ah H H'->Q (.int m) H')
def mQ (Pt:ee)(lpos:Pos)(qual:Str)(ix:Za4)(te ta tb:TE):TE:=λG H Q=>ta G H λv H1=>tb G H1 λu H2=>∃(lo hi:Int) (p:Int->Bool),v=.int lo/\u=.int hi/\lo<=hi/\Mj H2 Pt lpos qual /\
 (∀(i:Int) (H3:Hp),lo<=i->i<hi->Nr Pt H2 H3->te (mn (.int i)::frV G ix) H3 λv H4=>v=.bl (p i)/\Ah H3 H4) /\
 ∀(m:Int) (H':Hp),lo<=m->m<=hi->(lo<m->p (m-1)=ML)->(m<hi->p m=MK)->Nr Pt H2 H'->Mj H' Pt lpos qual->Q (.int m) H'
theorem Adc {ta tb:TE}{G:St}{Q:VK}(h:ta G H λv H1=>tb G H1 λu H2=>∃(lo hi:Int) (p:Int->Bool),v=.int lo/\u=.int hi/\lo<=hi/\Mj H2 Pt lpos qual /\
 (∀(i:Int) (H3:Hp),lo<=i->i<hi->Nr Pt H2 H3->te (mn (.int i)::frV G ix) H3 λv H4=>v=.bl (p i)/\Ah H3 H4) /\
 ∀(m:Int) (H':Hp),lo<=m->m<=hi->(lo<m->p (m-1)=ML)->(m<hi->p m=MK)->Nr Pt H2 H'->Mj H' Pt lpos qual->Q (.int m) H'):mQ Pt lpos qual ix te ta tb G H Q:=h
section
variable {X:Cx}
theorem xJ {g x:Str}{a b body:jk}{ta tb:TE}{q:Pos}{ff c:ee}{kf k:Nat} 
  (F:Av X.prog X.w X.K X.mg X.base CX0 kf ff fd ps (Tm X.prog X.w X.K X.mg X.base (k+1)))(hr:Cz kf X.A)(hg:Gl X g)(hm:X.mg g=mn (.ref ff))(hkp:lp X.K (.ref ff)=MK)(hb:Fu X.K fd ps [])
  (ha:PE X a ta)(hbb:PE X b tb)(hfn:X.fn=λ_=>MK)
  (C:DO X.base c Pt)(hB:X.base.BuiltinsAt X.mg Pt)(hcode:X.env.code=.ref c)(hq:X.env.qual++"<lambda>"=qual)
  (L:A7 X.N X.env.scope scope x N ix)(hco:scope.isCoroutine=ML)(hgen:scope.isGenerator=ML)(hdef:defaultsOf params X.env=([],[]))
  (hbind:∀(cl:List (Str×ee)) (pm cv ctv:ft) (n:Int) (t:Tok),bindArgs (FJ "<lambda>" qual params body scope cl pm cv ctv) {[.int n t],[]}=pure [(x,.int n t)])
  (hbody:∀(cl:List (Str×ee)) (f c':ee) (A:jp) (outer:List Env) (s:fz) (H1:Hp),Cz k (A.deeper (vQ qual scope cl s.heap.objs.8 f (.ref c')))->PE (Yb X.prog X.w X.K X.mg X.base N qual scope cl f (.ref c') A outer s H1) body te)
  (hdb:autoParam ((g==("__debug__":Str))=ML) QF)(he1:autoParam (starEach [a,b,.Lambda params body scope lpos] X.env=(ML,eval a X.env)::starEach [b,.Lambda params body scope lpos] X.env) QD)(he2:autoParam (starEach [b,.Lambda params body scope lpos] X.env=(ML,eval b X.env)::starEach [.Lambda params body scope lpos] X.env) QD)
  (he3:autoParam (starEach [.Lambda params body scope lpos] X.env=[(ML,eval (.Lambda params body scope lpos) X.env)]) QD)(hpl:autoParam ((backTo pos (starEach [b,.Lambda params body scope lpos] X.env)).any (·.1)=ML) QD) :
  PE X (.Call (.Name g q) [a,b,.Lambda params body scope lpos] [] pos) (mQ Pt lpos qual ix te ta tb):=by
 k_in;refine wpAny_Call_Name_kw (Pa I hg hm ?_ hdb);refine callWith_K (h₀:=X.base) I.ok.mod.kin hkp ?_ he1 hpl;rw[he1];show wpAny _ _ (spliced ((ML,eval a X.env)::backTo pos (starEach [b,.Lambda params body scope lpos] X.env))) _ _ s;refine o9 (thE ha I h λu1 s1 v1 H1 I1 r1 q1=>?_);rw[he2];show wpAny _ _ (spliced ((ML,eval b X.env)::backTo pos (starEach [.Lambda params body scope lpos] X.env))) _ _ s1;refine o9 (thE hbb I1 q1 λu2 s2 v2 H2 I2 r2 ⟨lo,hi,p,e1,e2,hle,hT,hbd,q2⟩=>?_);subst e1 e2;rw[he3];show wpAny _ _ (spliced [(ML,eval (.Lambda params body scope lpos) X.env)]) _ _ s2;have hfree:∀y∈scope.names,y.2=.free->∃c,X.env.cells.lookup y.1=mn c:=λy hy hf=>I.ok.has y.1 (.inl (L.free y hy hf));have sub:∀y c,(Fs X.env scope.names []).lookup y=mn c->X.env.cells.lookup y=mn c:=λy c h=>Mr _ _ y c hfree (λ_ _ z=>by simp at z) h;refine o9 (kC I2 hT C hB hcode (Ob hfree) hdef hq λf c' oc pm ctv s3 H3 I3 hT3 sm hf0 hf hc' hoc=>?_);refine tm ?_;generalize hcl:Fs X.env scope.names []=cl at hf sub;have inj:∀y z c,cl.lookup y=mn c->cl.lookup z=mn c->y=z:=λy z c h1 h2=>I.ok.inj y z c (sub y c h1) (sub z c h2);have n3:∀b,InC cl b->H3 b=tp:=λb ⟨y,e⟩=>I3.freeC y b (sub y b e);have cellAt:∀y c,cl.lookup y=mn c->∃o v,s3.heap.get? c=mn o/\o.data=.cell v:=λy c e=>let ⟨v,o,e1,e2⟩:=I3.cell y c (sub y c e);⟨o,v,e1,e2⟩;have nLoc:∀b,InC cl b->b≠X.env.locals:=λb ⟨y,e⟩=>I3.cne y b (sub y b e);have hab:∀b,InC cl b->X.QN.heap.objs.8<=b:=λb ⟨y,e⟩=>I3.ok.cab y b (by rw[hfn]) (sub y b e);have nfr:∀b,InC cl b->b∉frs X.stack:=λb hb z=>by
  rcases jn.mp (I3.stkSub b z) with e|hz
  .exact nLoc b hb e
  .obtain⟨_,o,ho,_⟩:=I3.ok.funs.mem hz
   exact absurd (gd ho) (su.mpr (hab b hb))
 have e0:Xq X.prog X.w X.K X.mg X.base X.A X.stack s3 (Jy H3 s3.5 cl):=by
  have z:=I3.env0;refine{z.frames,z.mod,λb o e=>{(z.bs b o e).1,?_},z.bsz,z.funs,λb hb=>?_,mH z.hok n3,z.bare}
  .rw[Dm λhb=>?_]
   .exact(z.bs b o e).2
   .exact absurd (gd e) (su.mpr (iw I3.ok.bsz (hab b hb)))
  .rw[Dm λh=>nfr b h hb]
   exact z.frf b hb
 have out:∀b u,H3 b=mn u->Jy H3 s3.5 cl b=mn u:=λb u e=>by
  rw[Dm λhb=>by rw[n3 b hb] at e;cases e];exact e
 have asks:lH X.prog X.w X.K X.mg X.base (k+1) (Jy H3 s3.5 cl) f (λi=>lo<=i/\i<hi) p:=by
  refine xM (G:=G) (te:=te) L hco hgen inj (λy hy=>?_) (λy c e=>?_) (λy j v hz hj=>?_) (out _ _ hf) (out _ _ hc') hoc (hbind _ _ _ _) (λA outer s H1 hr=>hbody _ _ _ A outer s H1 hr) λi H4 hi k4=>?_
  .rw[<-hcl];exact mq.mp (Hb _ _ y hy)
  .obtain⟨o,v,e1,e2⟩:=cellAt y c e
   exact{o,v,Pi ⟨y,e⟩ e1,e2}
  .obtain⟨b1,b2⟩:=L.at_ _ hz
   have hm:=ly b2;have hcell:=L.free _ hm rfl;obtain⟨m',hn',hl'⟩:=I3.loc;obtain⟨u,r,lk⟩:=hl' j y v b1 hj (.inr (.inl hcell));rcases lk with lk|⟨_,c2,e,o,z1,z2⟩
   .rw[show X.env.kindOf y=mn .cell from hcell] at lk
    cases lk.1
   .obtain⟨c3,e'⟩:=mq.mp (Hb (env:=X.env) scope.names [] y hm)
    rw[hcl] at e';have e2:=sub y c3 e';rw[e] at e2;cases e2;exact{c2,o,u,e',Pi ⟨y,e'⟩ z1,z2,r}
  .refine hbd i H4 hi.1 hi.2 λb u hb e=>?_
   have e3:=sm b u hb e;exact k4 b u (λhc=>by rw[n3 b hc] at e3;cases e3) (out b u e3)
 refine{I3.kIn,?_};show wpAny _ _ (call (.ref ff) [u1,u2,.ref f]) _ _ s3;have rv:A5 [V.int lo,V.int hi,V.ref f] [u1,u2,.ref f]:=.cons r1 (.cons r2 (.cons rfl .nil));have hl:([u1,u2,ka f]++[]).9=ps.9:=by
  have:=F.len [.int lo,.int hi,.ref f] (Jy H3 s3.5 cl) (λ_ _=>True) E0 {lo,hi,f,p,rfl,hle,asks,λ_ _ _ _ _ _ _=>trivial};exact this
 refine zy (wk (F.run X.A X.stack s3 (Jy H3 s3.5 cl) {[u1,u2,.ref f],[]} ([u1,u2,.ref f]++[]) [.int lo,.int hi,.ref f] (λv H'=>∃m,v=.int m/\lo<=m/\m<=hi/\(lo<m->p (m-1)=ML)/\(m<hi->p m=MK)/\Ah (Jy H3 s3.5 cl) H') E0 hr e0 (hb s3 _ I3.kIn hl) (by simpa using rv)
  {lo,hi,f,p,rfl,hle,asks,λm H' a1 a2 a3 a4 a5=>⟨m,rfl,a1,a2,a3,a4,a5⟩}) λr s' hq=>?_)
 cases r with
 |error e=>exact hq.elim
 |ok fl=>
  cases fl with
  |next=>exact l8 hq
  |brk=>exact l8 hq
  |cont=>exact l8 hq
  |ret u=>
   obtain⟨v,H4,os,bare,un,hok,rr,m,ev,a1,a2,a3,a4,sm4⟩:=hq;subst ev;have c4:∀b,InC cl b->∃o,s3.heap.get? b=mn o/\H4 b=mn (.frz o (.own 0)):=λb ⟨y,e⟩=>by
    obtain⟨o,v,e1,_⟩:=cellAt y b e;exact{o,e1,sm4 _ _ (Pi ⟨y,e⟩ e1)}
   have sm5:∀b u,H3 b=mn u->J7 H4 cl b=mn u:=λb u e=>by
    rw[Gg λhb=>by rw[n3 b hb] at e;cases e];exact sm4 _ _ (out _ _ e)
   have un2:Un (frs X.stack) [] H3 (J7 H4 cl) s3.5 s'.5:=by
    refine{λb o e n hf hx=>?_,λb o e n hf hx=>?_,λb o e n hx=>?_,λb o e hx=>un.there b o e hx,λb xs e=>sm5 _ _ e,λb o u e=>sm5 _ _ e,λb ps e=>{#[],by rw[vx];exact sm5 _ _ e}}
    .by_cases hb:InC cl b
     .obtain⟨o2,z1,z2⟩:=c4 b hb
      rw[e] at z1;cases z1;exact(hok _ _ z2).1
     .exact un.keep b o e (by rw[Dm hb];exact n) hf hx
    .have hb:¬ InC cl b:=λhb=>nfr b hb hf
     exact un.slot b o e (by rw[Dm hb];exact n) hf hx
    .by_cases hb:InC cl b
     .exact Mm hb
     .exact Fn (un.free b o e (by rw[Dm hb];exact n) hx)
   have hok2:HOk X.prog X.w (J7 H4 cl) s'.5:=gQ hok λb hb=>let ⟨o,_,z⟩:=c4 b hb;{o,_,z};refine I3.after {_,J7 H4 cl,os,bare,un2,hok2,rr,q2 m _ a1 a2 a3 a4 (λb u hb e=>sm5 _ _ (sm b u hb e)) ?_};obtain⟨pps,t1,t2,t3⟩:=hT3;exact{pps,sm5 _ _ t1,t2,t3.imp id λ⟨c2,oc2,z1,z2,z3⟩=>{c2,oc2,z1,sm5 _ _ z2,z3}}
theorem pF {g x:Str}{a b body:jk}{ta tb:TE}{q:Pos}{c:ee}{kf k:Nat} 
  (F:Cal X.prog X.w X.K X.mg X.base g kf ps (Tm X.prog X.w X.K X.mg X.base (k+1)))(hr:Cz kf X.A)(ha:PE X a ta)(hbb:PE X b tb)(C:DO X.base c Pt)(hB:X.base.BuiltinsAt X.mg Pt)(hcode:X.env.code=.ref c)(hq:X.env.qual++"<lambda>"=qual)
  (L:A7 X.N X.env.scope scope x N ix)(hbody:∀(cl:List (Str×ee)) (f c':ee) (A:jp) (outer:List Env) (s:fz) (H1:Hp),Cz k (A.deeper (vQ qual scope cl s.heap.objs.8 f (.ref c')))->PE (Yb X.prog X.w X.K X.mg X.base N qual scope cl f (.ref c') A outer s H1) body te)
  (hfn:autoParam (X.fn=λ_=>MK) QD)(hg:autoParam (Gl X g) QD)(hco:autoParam (scope.isCoroutine=ML) QD)(hgen:autoParam (scope.isGenerator=ML) QD)(hdef:autoParam (defaultsOf params X.env=([],[])) QD)
  (hbind:∀(cl:List (Str×ee)) (pm cv ctv:ft) (n:Int) (t:Tok),bindArgs (FJ "<lambda>" qual params body scope cl pm cv ctv) {[.int n t],[]}=pure [(x,.int n t)]:=by intros;rfl)
  (hdb:autoParam ((g==("__debug__":Str))=ML) QF)(he1:autoParam (starEach [a,b,.Lambda params body scope lpos] X.env=(ML,eval a X.env)::starEach [b,.Lambda params body scope lpos] X.env) QD)(he2:autoParam (starEach [b,.Lambda params body scope lpos] X.env=(ML,eval b X.env)::starEach [.Lambda params body scope lpos] X.env) QD)
  (he3:autoParam (starEach [.Lambda params body scope lpos] X.env=[(ML,eval (.Lambda params body scope lpos) X.env)]) QD)(hpl:autoParam ((backTo pos (starEach [b,.Lambda params body scope lpos] X.env)).any (·.1)=ML) QD) :
  PE X (.Call (.Name g q) [a,b,.Lambda params body scope lpos] [] pos) (mQ Pt lpos qual ix te ta tb):=by
 obtain⟨f,fd,F,bb,hm,hk⟩:=F.ex;exact xJ F hr hg hm hk bb ha hbb hfn C hB hcode hq L hco hgen hdef hbind hbody hdb he1 he2 he3 hpl
end
def ltV (x y:ft):Bool:=decide (numOf x<numOf y)
def ltJ (x y:Int):Bool:=decide (x<y)
section
variable {prog:gu} {w:i7} {A:jp} {E:Za0} {s:fz}
theorem Ue {a:ee}{R:Fin->fz->Prop}(ho:s.heap.get? a=mn (seqObj "list" vs.6 n))(hi:ni vs ns)(hz:vs.9<=sizeLine)
  (h:∀out:Array ft,out.7=At ltV vs->R (.done (.ret .none)) { s with heap:=sortedHeap s.5 a vs out }) :
  wpAny (model prog w) A (qw.«list.sort» {[.ref a],[]}) R E s:=by
 rw[list_sort_plain];have ha:a<s.heap.objs.8:=gd ho;refine wpAny_bind (FI ho rfl ?_);refine wpAny_bind (listUpdate_at ho rfl ?_ (by simpa using hz) (by simp));obtain⟨e1,ho1⟩:∃e1,(s.heap.update a (lw λ_=>#[])).get? a=mn (seqObj "list" #[] e1):={_,xy ho (λ_=>#[])};refine wpAny_bind (seqEpoch_at ho1 rfl ?_);refine wpAny_bind (DH ?_);refine wpAny_bind (zn ?_);refine wpAny_holding ?_;have ho6:(((s.heap.update a (lw λ_=>#[])).push (seqObj "tuple" vs.6 0)).push (seqObj "list" #[] 0)).get? a=mn (seqObj "list" #[] e1):=by
  rw[y9 _ _ _ (by rw[DI,wy];exact ip (zh ha)),y9 _ _ _ (by rw[wy];exact ip ha)];exact ho1
 show wpAny (model prog w) A _ R E { s with heap:=((s.heap.update a (lw λ_=>#[])).push (seqObj "tuple" vs.6 0)).push (seqObj "list" #[] 0) };dsimp only;have hsz:vs.toArray.8=vs.9:=by simp
 have ez:(vs.toArray.zip vs.6).7=vs.map λv=>(v,v):=by
  rw[Array.toList_zip];generalize vs=l
  induction l with
  |nil=>rfl
  |cons x l ih=>exact congrArg _ ih
 have fin:∀st':ke,(arrOf st').7=At ltK (vs.map λv=>(v,v))->R (.done (.ret .none)) { s with heap:=sortedHeap s.5 a vs ((arrOf st').map (·.2)) }:=λst' e=>by
  refine h _ ?_;rw[FP,e,M6 (lt:=ltV) (f:=λv=>((v,v):gw)) λ_ _=>rfl,jm];exact IT _
 have szo:∀st':ke,(arrOf st').7=At ltK (vs.map λv=>(v,v))->((arrOf st').map (·.2)).8<=sizeLine+1:=λst' e=>by
  rw[Array.size_map,<-f9,e,Dg,d4];lia
 by_cases h2:vs.toArray.8<2
 .rw[if_pos h2,if_pos h2]
  refine wpAny_bind (fu ?_);rw[FL];refine wpAny_bind (fu ?_);dsimp only;have e0:(arrOf (vm general' (vs.toArray.zip vs.6) #[] 7 tp)).7=At ltK (vs.map λv=>(v,v)):=by
   show(vs.toArray.zip vs.6).7=_;rw[ez];refine(Ka ?_).symm;have hl:(vs.map λv=>((v,v):gw)).9<2:=by rw[d4];lia
   exact iE hl
  refine wpAny_bind (seqEpoch_at ho6 rfl ?_);refine wpAny_bind (listUpdate_at ho6 rfl ?_ (hsz2:=szo _ e0));simp only[bne_self_eq_false,ku,if_false];exact fu (fin _ e0)
 .rw[if_neg h2,if_neg h2]
  rw[ksk_kind (keys:=vs.6) (kz:=ns) (by simpa using hi) ()];refine wpAny_bind (fu ?_);refine wpAny_bind (p6 (No (P:=λx=>∃n t,x.1=nu n t) X8 rY (l0:=vs.map λv=>(v,v)) (st:=vm oneType' (vs.toArray.zip vs.6) #[] 7 tp)
   (Q:=λ_ st'=>failedOf st'=tp/\(arrOf st').7=At ltK (vs.map λv=>(v,v))) rfl rfl rfl ez (λx hx=>?_) (by rw[d4];lia) λst' a1 a2=>⟨a1,a2⟩) ?_ λ_ _ e=>e)
  .obtain⟨v,hvm,rfl⟩:=jq.mp hx
   exact hi.all v hvm
  rintro⟨⟨⟩,st'⟩ s' ⟨rfl,hf,hs⟩;dsimp only;refine wpAny_bind (seqEpoch_at ho6 rfl ?_);refine wpAny_bind (listUpdate_at ho6 rfl ?_ (hsz2:=szo _ hs));rw[hf];simp only[bne_self_eq_false,ku,if_false];exact fu (fin st' hs)
end
theorem wY (h:ni vs ns):ni (At ltV vs) (At ltJ ns):=by
 have e:At ltJ ns=(At ltV vs).map numOf:=by
  rw[<-M6 (f:=numOf) (lt:=ltV) (lt':=ltJ) (λ_ _=>rfl),h.nums]
 rw[e];exact L4 _ λv hv=>h.all _ ((C9 (lt:=ltV) vs).mem_iff.mp hv)
section
variable {X:Cx}
def Af7 (K:d5):List V->Hp->VK->Prop:=λxs H Q=>∃(a:ee) (ns:List Int),xs=[.ref a]/\SqL K H a (ns.map V.int)/\∀p,H p=tp->Q (.ref p) (upd H p (.lst ((At ltJ ns).map V.int)))
theorem O0:Fw X (.builtin "sorted") (Af7 X.K):=by
 intro pins s G H xs us Q I r h;obtain⟨p,ns,rfl,hp,q⟩:=h;obtain⟨u,rfl,ru⟩:=E4 r;cases ru;obtain⟨its,rv,pl,hz⟩:=I.list hp;have hI:ni its ns:=M9 rv;have hzL:its.9<=sizeLine:=by rw[hI.9];rw[d4] at hz;exact hz
 refine Calls.call_function_entry kind_sorted LX LZ (args_sorted1 _) ?_;unfold qw.«sorted»;refine wpAny_bind (m:=checkCount "sorted" 1 1 _) (fu ?_);refine wpAny_bind (iR pl.isList hzL _ _ λh' tk hk hle=>?_);refine wpAny_bind (zn ?_ hzL);have hoL:(h'.push (seqObj "list" its.6 0)).get? h'.objs.8=mn (seqObj "list" its.6 0):=ik _ rfl;refine wpAny_bind (wpAny_holding (vf slot_list_sort {_,hoL,rfl} entry_list_sort (Ue hoL hI hzL λout eo=>{_,rfl,?_}) (args_list_sort _)));refine fu {_,rfl,?_};obtain⟨e9,hat⟩:=sortedHeap_at (out:=out) hoL;have hfin:∀b ob,s.heap.get? b=mn ob->(sortedHeap (h'.push (seqObj "list" its.6 0)) h'.objs.8 its out).get? b=mn ob:=λb ob e=>by
  have e':=hk b ob e;rw[sortedHeap_old (ip (gd e')) (by rw[DI];exact zh (gd e'))];exact fe _ e'
 have hIo:ni out.7 (At ltJ ns):=by rw[eo];exact wY hI
 refine{.ref h'.objs.8,upd H h'.objs.8 (.lst ((At ltJ ns).map V.int)),I.laid hfin hle {?_,out.7,e9,M3 hIo,?_},rfl,q _ (I.hok.fresh hle)}
 .rw[d4,Dg];rw[d4] at hz;exact hz
 .exact hat
end
theorem fN:typeLookup (.type "list") "keys"=pure tp:=by rw[xx,vb];kernel_rfl
theorem Z8:typeLookup (.type "list") "__getattr__"=pure tp:=by rw[xx,vb];kernel_rfl
theorem jN (a:ee)(vs:Array ft)(n:Nat)(u:Tok):Meets (qw.«object.__getattribute__» {[.ref a,.str "keys" u],[]}) (λA R s=>s.heap.get? a=mn (seqObj "list" vs n)/\raisesAttr (.ref a) "keys" A R s):=
 HW λprog w A R s hs=>by
  obtain⟨hp,g,d,tk,os⟩:=s;obtain⟨hx,hs⟩:=hs;have hT:(⟨hp,g,d,tk,os⟩:fz).TypeIs (.ref a) "list":={_,hx,rfl};have f4:=fN
  repeat (any_goals (first|assumption|with_reducible refine HM hx ?_|wp_step))
  exact GE hs.1 hs.2 (by decide +kernel)
section
variable {prog:gu} {w:i7} {A:jp} {E:Za0} {s:fz}
theorem wZ {a:ee}{vs:Array ft}{Q:Za7->fz->Prop}(hx:s.heap.get? a=mn (seqObj "list" vs n))(hA:A.handled=tp)(q:∀h' tk,(∀b o,s.heap.get? b=mn o->h'.get? b=mn o)->Q tp { s with heap:=h',toks:=tk }) :
  wpAny (model prog w) A (getAttr? (.ref a) "keys") Q E s:=by
 obtain⟨hp,g,d,tk,os⟩:=s;have hT:∀tk',(⟨hp,g,d,tk',os⟩:fz).TypeIs (.ref a) "list":=λ_=>{_,hx,rfl};have f1:=GW;have f3:=uc.lookup;have f4:=uc.bind (.ref a);have f5:=Z8;unfold getAttr? getAttrBy? getAttrBy
 repeat (any_goals (first|assumption|exact hT _|((with_reducible show wpAny _ _ (call (GQ "list.__getattribute__") _ _) _ _ _);refine qg uc (hT _) PySem.F.entry_list_ga (PySem.F.args_list_getattribute_2 _ _) (jN a vs n _) ⟨hx,hA,λh' tk' e hx'=>?_⟩)|wp_step))
 obtain⟨t',u',he⟩:=hx'.there;show wpAny _ _ (getattributeRaised _ _ _ _ _ _ _) _ _ _;unfold getattributeRaised
 repeat (any_goals (first|assumption|wp_step))
 exact q _ _ hx'.keeps
end
def gZ (h:ki)(T:ee)(x y:ft):Prop:=∃o n,h.get? T=mn o/\o.cls=.type "tuple"/\o.data=.seq #[x,y] n
theorem gZ.keep {T:ee}{x y:ft}(p:gZ h T x y)(k:∀o,h.get? T=mn o->h'.get? T=mn o):gZ h' T x y:=let ⟨o,n,e,r⟩:=p;{o,n,k o e,r}
section
variable {prog:gu} {w:i7} {A:jp} {E:Za0} {R:yq->fz->Prop}
theorem jU {T:ee}{x y:ft}{Q:Za3->fz->Prop}(hT:gZ s.5 T x y)(h:Q [x,y] s):wpAny (model prog w) A (rm (.ref T)) Q E s:=by
 obtain⟨o,n,e,c,d⟩:=hT;have ty:s.TypeIs (.ref T) "tuple":={_,e,c};unfold rm;refine wpAny_bind (uo ty ?_);rw[if_pos (by decide)];exact wpAny_bind (om e d (fu h))
theorem Acd {d l:ee}{ys:Za3}{ks:List Int}(hdi:d≠it)(hli:l≠it)(hld:l≠d)(hh:A.handled=tp):∀(m i:Nat) (s:fz) (tk:Tok) (vs:List (Key×ft)),items.8-i=m->i<=items.8 ->
   (∀(j:Nat) x,items[j]?=mn x->∃n t y T,ks[j]?=mn n/\ys[j]?=mn y/\x=ka T/\T≠it/\T≠d/\gZ s.5 T (.int n t) y)->ks.9=items.8->ys.9=items.8 ->
   s.heap.IsListIter it l i->s.heap.IsList l items->s.heap.DictOf (Bu prog w) d vs->vs.9+(items.8-i)<=sizeLine ->
   (∀h' k vs',h'.DictOf (Bu prog w) d vs'->vs'=iO vs (ks.drop i) (ys.drop i)->(∀b o,b≠it->b≠d->s.heap.get? b=mn o->h'.get? b=mn o)->R (.ok (.ret .none)) { s with heap:=h',toks:=k }) ->
   codeAny (model prog w) A (.builtin "dict.update.loop" {[.ref d,.ref it,.int i tk,.none],[]}) R s:=by
 intro m
 induction m with
 |zero=>
  intro i s tk vs hm hi hp hk hy h1 hl hd hsz q;refine l5 Ei ?_;rw[j1 Bv _];show wpAny _ A.in1 (pyNext (.ref it) >>= _) _ _ s;refine wpAny_bind (FQ (by exact hh) h1 hl (ql ()) λh' kp=>?_);show wpAny _ A.in1 (ve d [] >>= _) _ _ _;refine wpAny_bind (fu (fu ?_));obtain⟨o,es,ep,ho,r⟩:=hd;exact q h' s.toks vs {o,es,ep,kp _ _ hdi ho,r} (by rw[jj (l:=ys) (),xD]) λb o b1 _ e=>kp b o b1 e
 |succ m ih=>
  intro i s tk vs hm hi hp hk hy h1 hl hd hsz q;obtain⟨x,hx⟩:∃x,items[i]?=mn x:={_,mi (show i<items.8 by lia)};obtain⟨n,t,y,T,hn,hyi,rfl,hTi,hTd,hT⟩:=hp i x hx;refine l5 Ei ?_;rw[j1 Bv _];show wpAny _ A.in1 (pyNext (.ref it) >>= _) _ _ s;refine wpAny_bind (FC h1 hl hx λh' h1' sb=>?_);have kp:∀b o,b≠it->s.heap.get? b=mn o->h'.get? b=mn o:=λb o hb e=>(sb.2 b hb).trans e;have hd':h'.DictOf (Bu prog w) d vs:=by
   obtain⟨o,es,ep,ho,r⟩:=hd;exact{o,es,ep,kp _ _ hdi ho,r}
  show wpAny _ A.in1 (holding _ _ >>= _) _ _ _;refine wpAny_bind (wpAny_holding (wpAny_bind (mh (jU (hT.keep λo e=>kp _ _ hTi e) ?_))));show wpAny _ A.in1 (holding _ (dictSet d (.int n t) y)) _ _ _;refine wpAny_holding (zc (knd:=Bu prog w) (k:=.inl n) (Ik prog w n t) hd' (λh2 dd' hs=>?_) ());have k2:∀b o,b≠it->b≠d->s.heap.get? b=mn o->h2.get? b=mn o:=λb o b1 b4 e=>(hs.2 b b4).trans (kp b o b1 e);have hln:=BM vs (wm n:Key) y;refine fu {mj Bv _,?_};refine ih (i+1) _ _ _ () () (λj x hx=>?_) hk hy (h1'.at λo e=>(hs.2 _ hdi.symm).trans e) (hl.at λo e=>k2 _ o hli hld e) dd' () λh3 k vs' hd3 e3 kp3=>?_
  .obtain⟨n,t,y,T,a1,a2,a3,a4,a5,a6⟩:=hp j x hx
   exact{n,t,y,T,a1,a2,a3,a4,a5,a6.keep λo e=>k2 _ _ a4 a5 e}
  .exact q h3 k vs' hd3 (by rw[e3,Adb hn hyi]) λb o b1 b4 e=>kp3 b o b1 b4 (k2 b o b1 b4 e)
theorem Sm {l:ee}{n0:Nat}{ys:Za3}{ks:List Int}{Q:Za0}(hh:A.handled=tp)(hl:s.heap.get? l=mn (seqObj "list" items n0))(hk:ks.9=items.8)(hy:ys.9=items.8)(hsz:items.8<=sizeLine)
  (hp:∀(j:Nat) x,items[j]?=mn x->∃n t y T,ks[j]?=mn n/\ys[j]?=mn y/\x=ka T/\gZ s.5 T (.int n t) y)
  (q:∀h' k vs',h'.DictOf (Bu prog w) s.heap.objs.8 vs'->vs'=iO [] ks ys->(∀b o,s.heap.get? b=mn o->h'.get? b=mn o)->Q (.ref s.heap.objs.8) { s with heap:=h',toks:=k }) :
  wpAny (model prog w) A (call (.type "dict") [.ref l]) Q E s:=by
 refine KL (Q₁:=λobj QM=>obj=.ref s.heap.objs.8/\QM={ s with heap:=s.heap.push { cls:=.type "dict",data:=.dict #[] } }) BQ (z8 _) BE (IC _ ⟨rfl,rfl⟩) ?_;rintro obj QM ⟨rfl,rfl⟩;have hnew:(s.heap.push { cls:=.type "dict",data:=.dict #[] }).DictOf (Bu prog w) s.heap.objs.8 []:=yf s.5;have up:∀b o,s.heap.get? b=mn o->(s.heap.push { cls:=.type "dict",data:=.dict #[] }).get? b=mn o:=λb o e=>fe _ e;have lt:∀{c o},s.heap.get? c=mn o->c≠s.heap.objs.8:=λe=>ip (gd e);refine{hnew.typeIs,AR _ _,?_};unfold qw.«dict.__init__»;refine wpAny_bind ?_;unfold zb;refine wpAny_bind (FR hnew.typeIs ?_);show wpAny _ _ (pure (s.heap.objs.8,[ka l])) _ _ _;refine fu ?_;show wpAny _ _ (rc "dict.__init__" s.heap.objs.8 (.ref l) [] .none) _ _ _;unfold rc;have hl':=up _ _ hl;refine wpAny_bind (uo (T:="list") {_,hl',rfl} ?_);rw[if_pos (by decide)];refine wpAny_bind (wZ hl' (by exact hh) λh' tk kp=>?_);rw[if_pos (by rfl)];have hli:h'.IsList l items:={_,kp _ _ hl',rfl,_,rfl};refine wpAny_bind (qf (wpAny_bind (HL hli ?_)));have up2:∀b o,s.heap.get? b=mn o->h'.get? b=mn o:=λb o e=>kp _ _ (up b o e);obtain⟨od,esd,epd,hod,rd⟩:=hnew;have hd2:=kp _ _ hod;have nI:∀{c o},h'.get? c=mn o->c≠h'.objs.8:=λe=>ip (gd e);refine fu {mj Bv _,?_};refine Acd (ks:=ks) (ys:=ys) (l:=l) (items:=items) (nI hd2) (nI (kp _ _ hl')) (lt hl) (by exact hh) _ 0 _ _ [] rfl (gy _) (λj x hx=>?_) hk hy {_,ik _ rfl,rfl,rfl} {_,fe _ (kp _ _ hl'),rfl,_,rfl} {od,esd,epd,fe _ hd2,rd} (by simpa using hsz) λh3 k vs' hd3 e3 kp3=>?_
 .obtain⟨n,t,y,T,a1,a2,a3,a4⟩:=hp j x hx
  exact{n,t,y,T,a1,a2,a3,(by obtain⟨o,_,e,_⟩:=a4;exact nI (up2 _ _ e)),(by obtain⟨o,_,e,_⟩:=a4;exact lt e),a4.keep λo e=>fe _ (up2 _ _ e)}
 .exact{rfl,q h3 k vs' hd3 (by simpa using e3) λb o e=>kp3 b o (nI (up2 _ _ e)) (lt e) (fe _ (up2 _ _ e))}
end
def Aeq (H:Hp)(as:List ee)(ks:List Int)(ys:List V):Prop:=as.9=ks.9/\as.9=ys.9/\∀(i:Nat) a k y,as[i]?=mn a->ks[i]?=mn k->ys[i]?=mn y->H a=mn (.tup [.int k,y])
def Agh:List V->Hp->VK->Prop:=λxs H Q=>∃(l:ee) (as:List ee) (ks:List Int) (ys:List V),xs=[.ref l]/\H l=mn (.lst (as.map V.ref))/\Aeq H as ks ys/\(eX [] ks ys).9<=ks.9/\∀p,H p=tp->Q (.ref p) (upd H p (.dK (eX [] ks ys)))
theorem Yw:∀{as:List ee} {us:Za3},A5 (as.map V.ref) us->us=as.map ka
 |[],_,h=>by cases h;rfl
 |a::as,_,h=>by
  cases h with
  |cons h1 h2=>rw[show _=ka a from h1,Yw h2];rfl
theorem rF:∀{ys:List V} (f:Nat->ft),(∀(i:Nat) y,ys[i]?=mn y->Bh y (f i))->A5 ys ((en ys.9).map f)
 |[],_,_=>.nil
 |y::ys,f,h=>by
  rw[f8,oy,gt,jm];exact .cons (h 0 y rfl) (rF (λi=>f (i+1)) λi z e=>h (i+1) z e)
theorem oO (hcal:X.calm=MK):Fw X (.type "dict") Agh:=by
 intro pins s G H xs us Q I r h;obtain⟨l,as,ks,ys,rfl,hl,⟨h1,h2,hp⟩,hml,q⟩:=h;obtain⟨u,rfl,ru⟩:=E4 r;cases ru;obtain⟨hz,its,n0,rv,hit⟩:=I.hok l _ hl;obtain rfl:=Yw rv;rw[d4] at hz;have pr:∀i:Nat,∃u:ft,∀a k y,as[i]?=mn a->ks[i]?=mn k->ys[i]?=mn y->Bh y u/\∃t,gZ s.5 a (.int k t) u:=λi=>by
  by_cases hi:i<as.9
  .have e:=hp i _ _ _ (d6 hi) (d6 ()) (d6 ())
   obtain⟨_,its,rv,o,e1,e2,n,e3⟩:=I.hok _ _ e;obtain⟨u1,u2,rfl,r1,r3⟩:=Vp rv;obtain⟨t,rfl⟩:=r1;refine{u2,λa k y a1 a2 a3=>?_};rw[d6 hi] at a1;rw[d6 ()] at a2 a3;cases a1;cases a2;cases a3;exact⟨r3,t,o,n,e1,e2,e3⟩
  .exact{.none,λa k y a1 _ _=>absurd (fq.mp a1).1 hi}
 let f:Nat->ft:=λi=>(pr i).choose
 have hf:∀i a k y,as[i]?=mn a->ks[i]?=mn k->ys[i]?=mn y->Bh y (f i)/\∃t,gZ s.5 a (.int k t) (f i):=λi=>(pr i).choose_spec;have hy:A5 ys ((en ys.9).map f):=rF f λi y e=>by
  have hi:=(fq.mp e).1;exact(hf i _ _ y (d6 ()) (d6 ()) e).1
 refine Sm (ks:=ks) (ys:=(en ys.9).map f) (I.ok.hd hcal) hit (by simp;lia) (by simp;lia) (by simpa using hz) (λj x hx=>?_) λh' k vs' d2 ev kp=>?_
 .have hj:j<as.9:=by have:=(pe.mp hx).1;simpa using this
  have ex:x=ka as[j]:=by
   have:(as.map ka)[j]?=mn x:=by simpa using hx
   rw[fj,d6 hj] at this;exact(fc this).symm
  obtain⟨_,t,hpr⟩:=hf j _ _ _ (d6 hj) (d6 (by lia:j<ks.9)) (d6 (by lia:j<ys.9));exact{_,t,f j,as[j],d6 (),by rw[fj,gr ()];rfl,ex,hpr}
 .have hk:KV (eX [] ks ys) vs':=by rw[ev];exact wA .nil hy
  refine{.ref s.heap.objs.8,_,I.laid (o:=.dK (eX [] ks ys)) (t':=k) kp (d8 _) {(),?_,vs',hk,d2},rfl,q _ (I.hok.fresh (d8 _))};exact beq_eq_false_iff_ne.mpr (qz (ip (eR I)))
theorem P9:Aib X (Acn X.K):=by
 intro pins s G H x y v u Q I rx ry h;obtain⟨p,xs,i,z,rfl,rfl,hq,he,q⟩:=h;cases rx;obtain⟨t,rfl⟩:=ry;obtain⟨its,r,pl,hz⟩:=I.list hq;obtain⟨j,h1,h2,h3,h4,h5⟩:=Zd he;obtain⟨w,ew,rw'⟩:=r.get h2;have hl:=r.9;have hn:=Md;have fin:EP X pins G Q w s:=⟨z,H,I,rw',q⟩
 by_cases h0:0<=i
 .have hj:i.toNat=j:=by
   rw[BY h0 h5] at h1;exact fc h1
  exact wpAny_getItem_list pl.isList h0 () (by rw[hj];simpa using ew) fin
 .have hj:(i+(its.toArray.8:Int)).toNat=j:=by
   rw[AG () h4] at h1;rw[gh,<-hl];exact fc h1
  exact FG pl.isList () (by rw[gh]<;>lia) () (by rw[hj];simpa using ew) fin
section
variable {to ti te:TE} {tget:V->V->Hp->VK->Prop} {tip:TIp} {tset:lI} {D:Jm} {G:St} {H:Hp}
theorem Afn (h:to G H λo H1=>ti G H1 λi H2=>tget o i H2 λx H3=>te G H3 λy H4=>tip x y H4 λz H5=>tset o i z H5 λH6=>D.nx G H6):Aen to ti te tget tip tset D G H:=h
end
open Builtin.Str (occurrences partsBetween)
section
variable {X:Cx}
def Adz:V->List V->Hp->VK->Prop:=λx vs H Q=>∃z y,x=.str z/\vs=[.str y]/\(y.9==0)=ML/\z.9<=100000/\∀D,H D=tp->Q (.ref D) (upd H D (.lst ((z5 z y).map V.str)))
theorem tZ:MtM X "str.split" Adz:=by
 intro pins s G H x vs v us Q I rx rv h;obtain⟨z,y,rfl,rfl,hy,hz,q⟩:=h;obtain⟨t,rfl⟩:=rx;obtain⟨u,rfl,ru⟩:=rv.one;obtain⟨t',rfl⟩:=ru;have sl:200000<=sizeLine:=by decide
 have fin:∀(l:List (Str×Tok)) (n tk:Nat),l.map (·.1)=z5 z y->EP X pins G Q (.ref s.heap.objs.8) { s with heap:=s.heap.push { cls:=.type "list",data:=.seq (strValues l).6 n },toks:=tk }:=λl n tk e=>by
  have hl:=len_le_of_split e;refine{.ref s.heap.objs.8,upd H s.heap.objs.8 (.lst ((l.map (·.1)).map V.str)),I.laid (λb o w=>fe _ w) (d8 _) {?_,strValues l,n,Aas l,ik _ rfl},rfl,e▸q _ (I.hok.fresh (d8 _))};rw[d4,d4];lia
 cases h1:(decide (z.9<y.9)||decide (BJ z<BJ y))
 .cases hf:(occurrences z y 0 z.9 (z.9+1)).isEmpty
  .have hp:(partsBetween z (occurrences z y 0 z.9 (z.9+1)) y.9).9<=sizeLine:=by
    rw[len_partsBetween];have:=StrLaws.occ_length_le z y 0 z.9 (z.9+1);lia
   refine qg F.slot_str_split (xr _ _ _) F.entry_str_split (F.args_str_split_2 _ _) (meets_str_split_sep z y t t' h1 hy hf () hp) ?_;show wants _ _ _ { s with toks:=_,heap:=s.heap.push { cls:=.type "list",data:=.seq (strsFrom s.toks (partsBetween z (occurrences z y 0 z.9 (z.9+1)) y.9)).6 } };rw[strsFrom_eq];exact fin (numbered s.toks _) _ _ ((numbered_texts _ _).trans ((if_neg (ne_true_of_eq_false h1)).trans (if_neg (ne_true_of_eq_false hf))).symm)
  .exact qg F.slot_str_split (xr _ _ _) F.entry_str_split (F.args_str_split_2 _ _) (meets_str_split_not_found z y t t' h1 hy hf) (fin [(z,t)] _ _ ((if_neg (ne_true_of_eq_false h1)).trans (if_pos hf)).symm)
 .exact qg F.slot_str_split (xr _ _ _) F.entry_str_split (F.args_str_split_2 _ _) (meets_str_split_cannot_occur z y t t' h1) (fin [(z,t)] _ _ (if_pos h1).symm)
end
end _L
end
section
namespace _W
open PySem PySem.StrLaws PySem.Builtin.Str
theorem eN (x:Str)(c:Nat):∀(m a:Nat) (st:Array Nat×Nat),st.2<=a->st.1.8<=a->a+m<=x.9+1 ->
  (forIn (sw a m) st (occBody x {#[c]} x.9 (x.9+1))).run.fst.toList=st.1.7++(sw a m).filter λi=>x.cps.7[i]?==mn c
 |0,a,st,_,_,_=>by
  rw[List.range'_zero,GL,gp];rfl
 |m+1,a,st,h1,h2,h3=>by
  rw[FZ,xi];unfold occBody
  by_cases hc:x.cps.7[a]?=mn c
  .have hs:=(subAt_one x c a).mpr hc
   rw[if_pos {{{(),h1},hs.1},hs.2}];have ih:=eN x c m (a+1) (st.1.push a,a+1) (d8 _) (by simp;lia) ();refine Eq.trans ih ?_;rw[kx (by simp[hc])];simp
  .rw[if_neg (λh=>hc ((subAt_one x c a).mp ⟨h.1.2,h.2⟩))]
   have ih:=eN x c m (a+1) st () () ();refine Eq.trans ih ?_;rw[jo (by simpa using hc)]
theorem Acx (x:Str)(c:Nat):occurrences x {#[c]} 0 x.9 (x.9+1)=(sw 0 (x.9+1)).filter λi=>x.cps.7[i]?==mn c:=by
 rw[occ_eq];exact eN x c (x.9+1) 0 (#[],0) (d8 _) (d8 _) ()
def grC (ns:Za4):Za4:=(ns.map λn=>d9 n 49++[48]).flatten
def mY:Nat->Za4->Za4
 |_,[]=>[]
 |a,n::r=>(a+n)::mY (a+n+1) r
theorem fU (L:Za4):∀(n a:Nat),(∀i,a<=i->i<a+n->L[i]?=mn 49)->(sw a n).filter (λi=>L[i]?==mn 48)=[]
 |0,_,_=>rfl
 |n+1,a,h=>by
  rw[FZ,jo (by rw[h a (d8 _) ()];simp)];exact fU L n (a+1) λi h1 h2=>h i () ()
theorem gU:∀(ns pre:Za4),(sw pre.9 ((grC ns).9+1)).filter (λi=>(pre++grC ns)[i]?==mn 48)=mY pre.9 ns
 |[],pre=>by
  show(sw pre.9 1).filter _=[];rw[show sw pre.9 1=[pre.9] from rfl,jo]
  .rfl
  .rw[ir (by simp[grC])]
   simp
 |n::r,pre=>by
  have e:grC (n::r)=d9 n 49++(48::grC r):=by
   show d9 n 49++[48]++grC r=_;rw[fh];rfl
  have el:(grC (n::r)).9+1=n+(1+((grC r).9+1)):=by rw[e];simp;lia
  rw[el,<-DW,ju,<-DW,ju];have h1:∀i,pre.9<=i->i<pre.9+n->(pre++grC (n::r))[i]?=mn 49:=λi h1 h2=>by
   rw[e,fg h1,f7 (by simp;lia),oj,if_pos ()]
  rw[fU _ n _ h1,jv];have h2:(pre++grC (n::r))[pre.9+n]?=mn 48:=by
   rw[e,fg (),fg (by simp)];simp
  rw[show sw (pre.9+n) 1=[pre.9+n] from rfl,kx (by rw[h2];rfl)];have ih:=gU r (pre++d9 n 49++[48]);have el2:(pre++d9 n 49++[48]).9=pre.9+n+1:=by simp;lia
  have el3:pre++d9 n 49++[48]++grC r=pre++grC (n::r):=by rw[e];simp
  rw[el2,el3] at ih;show(pre.9+n)::(DZ _ [])++_=_;rw[GL];show(pre.9+n)::DZ _ _=(pre.9+n)::mY (pre.9+n+1) r;rw[ih]
theorem U1:∀(ns pre:Za4) (x:Str),x.cps.7=pre++grC ns->partsFrom x 1 pre.9 (mY pre.9 ns)=(ns.map λn=>({(d9 n 49).6}:Str))++[{#[]}]
 |[],pre,x,h=>by
  show[strSub x pre.9 x.9]=[_];congr 1;apply MB;apply zm.mp;rw[strSub_toList,h];simp[grC]
 |n::r,pre,x,h=>by
  have e:grC (n::r)=d9 n 49++(48::grC r):=by
   show d9 n 49++[48]++grC r=_;rw[fh];rfl
  have ih:=U1 r (pre++d9 n 49++[48]) x (by rw[h,e];simp);have el2:(pre++d9 n 49++[48]).9=pre.9+n+1:=by simp;lia
  rw[el2] at ih;show strSub x pre.9 (pre.9+n)::partsFrom x 1 (pre.9+n+1) (mY (pre.9+n+1) r)=({(d9 n 49).6}:Str)::((r.map λn=>({(d9 n 49).6}:Str))++[{#[]}]);rw[ih];congr 1;apply MB;apply zm.mp;rw[strSub_toList,h,e];simp
theorem eY (ns:Za4):z5 ({(grC ns).6}:Str) {#[48]}=(ns.map λn=>({(d9 n 49).6}:Str))++[{#[]}]:=by
 have p:=U1 ns [] {(grC ns).6} (by simp);have f:=gU ns [];have o:=Acx {(grC ns).6} 48;rw[show({(grC ns).6}:Str).9=(grC ns).9 from by simp[uq]] at o;have o2:occurrences ({(grC ns).6}:Str) {#[48]} 0 (grC ns).9 ((grC ns).9+1)=mY 0 ns:=by
  rw[o];exact f
 cases ns with
 |nil=>rfl
 |cons n r=>
  have hl:({(grC (n::r)).6}:Str).9=(grC (n::r)).9:=by simp[uq]
  have h1:1<=(grC (n::r)).9:=by
   show 1<=(d9 n 49++[48]++grC r).9;simp;lia
  have k1:∀x:Str,1<=qi x:=λx=>by unfold qi;split;lia;split<;>lia
  unfold z5;rw[if_neg,hl,o2,if_neg,partsBetween_eq]
  .exact p
  .simp[mY]
  .rw[hl]
   have:=k1 {(grC (n::r)).6};have e2:qi ({#[48]}:Str)=1:=by simp[qi]
   rw[e2];simp;have e3:({#[48]}:Str).9=1:=rfl;lia
def Gd:Nat->Za4->Prop
 |h,[]=>h=0
 |h,n::r=>0<h/\Gd (h+n-1) r
theorem Gd.at:∀{ns:Za4} {h:Nat},Gd h ns->∀i,i<ns.9->i<h+(ns.take i).sum
 |[],h,g,i,hi=>by cases hi
 |n::r,h,⟨h1,h2⟩,0,hi=>by simpa using h1
 |n::r,h,⟨h1,h2⟩,i+1,hi=>by
  have:=h2.at i (by simpa using hi);rw[oq,n8];lia
theorem Ael:∀{ns:Za4} {h:Nat},ns.9=h+ns.sum->(∀i,i<ns.9->i<h+(ns.take i).sum)->Gd h ns
 |[],h,e,_=>by
  show h=0;simp at e;lia
 |n::r,h,e,g=>by
  have g0:=g 0 (by simp);rw[f8,n8] at e;have g0:0<h:=by simpa using g0
  refine{g0,Ael () λi hi=>?_};have:=g (i+1) (by simpa using hi);rw[oq,n8] at this;lia
def pre (ns:Za4)(g:Nat):Nat:=(ns.take g).sum
theorem Ud {ns:Za4}{g:Nat}(h:g<ns.9):pre ns (g+1)=pre ns g+ns[g]:=by
 unfold pre;rw[ie,d6 h,nh];simp
theorem wV (ns:Za4){a b:Nat}(h:a<=b):pre ns a<=pre ns b:=by
 unfold pre;have e:ns.take a=(ns.take b).take a:=by rw[rb,iu h]
 rw[e];generalize ns.take b=l;have:=congrArg GS (iq a l);rw[nh] at this;lia
theorem fE (ns:Za4)(a:Nat):pre ns a<=ns.sum:=by
 have:=congrArg GS (iq a ns);rw[nh] at this;unfold pre;lia
def Hr (a b:Nat):Za4:=(en (a-b)).map λi=>a-i
theorem O5 (a b:Nat):(Hr a b).9=a-b:=by unfold Hr;rw[d4,fm]
theorem iJ {a b x:Nat}(h:x∈Hr a b):b<x/\x<=a:=by
 obtain⟨i,hi,rfl⟩:=jq.mp h;have:=xp.mp (iy.mp hi);exact{xp.mpr (by rw[rk];exact this),xf _ _}
def lvS (ns:Za4)(s:Za4×Za4):Za4×Za4:=
 match s.2 with
 |[]=>s
 |g::w=>(s.1++[ns.getD g 0],(Hr (pre ns (g+1)) (pre ns g)).reverse++w)
def lvN (ns:Za4):Nat->Za4×Za4
 |0=>([],[0])
 |m+1=>lvS ns (lvN ns m)
theorem Z4 {ds:Za4}(h:Dok ds):∀k,k<=ds.9->opn ds k<=k
 |0,_=>d8 _
 |k+1,hk=>by
  have:=h k ();have:=Z4 h k ();show dAt ds k+1<=k+1;lia
theorem oF {ds:Za4}(h:Dok ds){k:Nat}(hk:k<ds.9):dAt ds k<=k:=iw (h k hk) (Z4 h k ())
theorem Tp {ds:Za4}(h:Dok ds):∀(k p v:Nat),k<=ds.9->(way ds k)[p+1]?=mn (v:Int)->∀j,v<j->j<k->p<dAt ds j
 |0,p,v,_,e,j,_,hj=>by cases hj
 |k+1,p,v,hk,e,j,h1,h2=>by
  have e:((way ds k).take (dAt ds k+1)++[(k:Int)])[p+1]?=mn (v:Int):=e;have hl:=Bq h k ();have hd:=h k ();have hl2:((way ds k).take (dAt ds k+1)).9=dAt ds k+1:=by rw[fk];lia
  by_cases hp:p+1<dAt ds k+1
  .rw[f7 (),ic hp] at e
   by_cases hjk:j=k
   .subst hjk;lia
   .exact Tp h k p v () e j h1 ()
  .rw[fg (),hl2] at e
   have e0:p+1-(dAt ds k+1)=0:=by
    have:=(fq.mp e).1;simp only[f8,jg] at this;lia
   rw[e0] at e;have e:=fc e;lia
theorem Ty {ds:Za4}(h:Dok ds){k:Nat}(hk:k<ds.9):eld ds k<k:=by
 by_cases e:eld ds k=-1
 .lia
 .obtain⟨v,e1,e2,_⟩:=E7 h hk e
  lia
theorem wR {ds:Za4}(h:Dok ds){k d:Nat}(hk:k<ds.9)(hd:dAt ds k=d+1):∃v:Nat,eld ds k=(v:Int)/\v<k/\dAt ds v=d/\∀j,v<j->j<k->d<dAt ds j:=by
 have e:=G0 h hk;rw[hd] at e;obtain⟨v,e1,e2,e3⟩:=Ku h k d _ () e;refine{v,e1,e2,e3,Tp h k d v () (by rw[e,e1])}
def Bk (ds:Za4)(k:Nat)(v:Int):Za4:=(en k).filter λj=>decide (eld ds j=v)
theorem rZ (ds:Za4)(k:Nat)(v:Int):(Bk ds k v).9<=k:=by
 unfold Bk;exact iw (uj ..) (by rw[fm];exact d8 _)
theorem Ua {ds:Za4}{k:Nat}{v:Int}(h:eld ds k=v):Bk ds (k+1) v=Bk ds k v++[k]:=by
 unfold Bk;rw[iz,ju,kx (by simpa using h)];rfl
theorem eT {ds:Za4}{k:Nat}{v:Int}(h:eld ds k≠v):Bk ds (k+1) v=Bk ds k v:=by
 unfold Bk;rw[iz,ju,jo (by simpa using h)];simp
theorem Ps {ds:Za4}{k j:Nat}{v:Int}:j∈Bk ds k v↔j<k/\eld ds j=v:=by
 unfold Bk;rw[xh,iy];simp
theorem uB {ds:Za4}(h:Dok ds){k v:Nat}(hk:k<=ds.9)(hv:k<=v+1):Bk ds k v=[]:=by
 apply um.mpr;intro j hj;obtain⟨h1,h2⟩:=Ps.mp hj;have:=Ty h (k:=j) ();lia
def lev (ds:Za4)(k d:Nat):Za4:=(en k).filter λj=>decide (dAt ds j=d)
theorem Om {ds:Za4}{k d:Nat}(h:dAt ds k=d):lev ds (k+1) d=lev ds k d++[k]:=by
 unfold lev;rw[iz,ju,kx (by simpa using h)];rfl
theorem Ln {ds:Za4}{k d:Nat}(h:dAt ds k≠d):lev ds (k+1) d=lev ds k d:=by
 unfold lev;rw[iz,ju,jo (by simpa using h)];simp
theorem Fy {ds:Za4}{k j d:Nat}:j∈lev ds k d↔j<k/\dAt ds j=d:=by
 unfold lev;rw[xh,iy];simp
theorem jE {ds:Za4}{v d:Nat}:∀ k,v<=k->(∀ j,v<=j->j<k->dAt ds j≠d)->lev ds k d=lev ds v d
  | 0, hv, _ => by obtain rfl : v = 0 := by lia
                   rfl
  | k + 1, hv, hj => by
    by_cases e : v = k + 1
    · rw [e]
    · rw [Ln (hj k () ())]
      exact jE k () λj h1 h2 => hj j h1 ()
theorem wK {ds:Za4}(h:Dok ds){k d:Nat}(hk:k<ds.9)(hd:dAt ds k=d+1):∃v:Nat,eld ds k=(v:Int)/\lev ds k d=lev ds v d++[v]/\v<k:=by
 obtain⟨v,e1,e2,e3,e4⟩:=wR h hk hd;refine{v,e1,?_,e2};rw[jE (v:=v+1) k () (λj h1 h2=>by have:=e4 j () h2;lia),Om e3]
theorem mI {ds:Za4}(h:Dok ds):∀k,k<=ds.9->lev ds k 0=Bk ds k (-1)
 |0,_=>rfl
 |k+1,hk=>by
  have ih:=mI h k ()
  by_cases e:dAt ds k=0
  .have e2:eld ds k=-1:=by
    have e1:=G0 h (k:=k) ();rw[e,Ke h k ()] at e1;exact(fc e1).symm
   rw[Om e,Ua e2,ih]
  .have e2:eld ds k≠-1:=λe1=>e (Zk h () e1)
   rw[Ln e,eT e2,ih]
theorem Jd {ds:Za4}{k:Nat}:∀{l:Za4},(∀v∈l,eld ds k≠(v:Int))->(l.map λv:Nat=>Bk ds (k+1) v)=l.map λv:Nat=>Bk ds k v
 |[],_=>rfl
 |v::l,h=>by
  rw[gt,gt,eT (h v (by simp)),Jd λw hw=>h w (by simp[hw])]
theorem gO {ds:Za4}(h:Dok ds)(d:Nat):∀k,k<=ds.9->lev ds k (d+1)=((lev ds k d).map λv:Nat=>Bk ds k v).flatten
 |0,_=>rfl
 |k+1,hk=>by
  have ih:=gO h d k ()
  by_cases e1:dAt ds k=d+1
  .obtain⟨v,v1,v2,v3⟩:=wK h (k:=k) () e1
   rw[Om e1,ih,Ln (),v2,fb,fb,ij,ij];rw[Jd (l:=lev ds v d) λw hw e=>by
    have:=Fy.mp hw;lia]
   show _++(Bk ds k v++[])++[k]=_++(Bk ds (k+1) v++[]);rw[Ua v1];simp
  .by_cases e2:dAt ds k=d
   .rw[Ln e1,Om e2,fb,ij]
    rw[Jd (l:=lev ds k d) λw hw e=>by
     have hw:=Fy.mp hw;have e3:eld ds k≠-1:=()
     obtain⟨v,v1,v2,v3⟩:=E7 h (k:=k) () e3;obtain rfl:v=w:=()
     lia,<-ih]
    show _=_++(Bk ds (k+1) k++[]);rw[uB h hk ()];simp
   .rw[Ln e1,Ln e2]
    rw[Jd (l:=lev ds k d) λw hw e=>by
     have hw:=Fy.mp hw;have e3:eld ds k≠-1:=()
     obtain⟨v,v1,v2,v3⟩:=E7 h (k:=k) () e3;obtain rfl:v=w:=()
     lia,<-ih]
def lvo (ds:Za4)(k D:Nat):Za4:=((en D).map (lev ds k)).flatten
theorem Ez (ds:Za4)(k D:Nat):lvo ds k (D+1)=lvo ds k D++lev ds k D:=by
 unfold lvo;rw[iz,fb,ij];simp
theorem kU {ds:Za4}(h:Dok ds){k:Nat}(hk:k<=ds.9):∀D,lvo ds k (D+1)=Bk ds k (-1)++((lvo ds k D).map λv:Nat=>Bk ds k v).flatten
 |0=>by
  rw[Ez];show[]++lev ds k 0=_++[].flatten;rw[mI h k hk];simp
 |D+1=>by
  have ih:=kU h hk D;have e:=Ez ds k D;rw[e,fb,ij,<-fh,<-ih,<-gO h D k hk];exact Ez ds k (D+1)
theorem Abl {ds:Za4}(h:Dok ds){k D:Nat}(hk:k<=ds.9)(hD:k<=D):lev ds k D=[]:=by
 apply um.mpr;intro j hj;obtain⟨h1,h2⟩:=Fy.mp hj;have:=oF h (k:=j) ();lia
theorem kY {ds:Za4}(h:Dok ds){k:Nat}(hk:k<=ds.9):∀ D,k<=D->lvo ds k D=lvo ds k k
  | 0, hD => by obtain rfl : k = 0 := by lia
                rfl
  | D + 1, hD => by
    by_cases e : k = D + 1
    · rw [<- e]
    · rw [Ez, Abl h hk (), gp]
      exact kY h hk D ()
theorem Ac9 {ds:Za4}(h:Dok ds){k:Nat}(hk:k<=ds.9):lvo ds k k=Bk ds k (-1)++((lvo ds k k).map λv:Nat=>Bk ds k v).flatten:=by
 rw[<-kU h hk k];exact(kY h hk (k+1) ()).symm
theorem xK {ds:Za4}{k:Nat}:∀D,D<=dAt ds k->lvo ds (k+1) D=lvo ds k D
 |0,_=>rfl
 |D+1,hD=>by rw[Ez,Ez,xK D (),Ln ()]
def ltZ (x y:Int×Int):Bool:=decide (x.1<y.1)
theorem Rq (ds:Za4)(k d:Nat):∀e,lvo ds k (d+e)=lvo ds k d++((en e).map λi=>lev ds k (d+i)).flatten
 |0=>by simp
 |e+1=>by
  rw[show d+(e+1)=d+e+1 by lia,Ez,Rq ds k d e,iz,fb,ij];simp
theorem wX {ds:Za4}{k D:Nat}(hD:dAt ds k<D):∃A B,lvo ds k D=A++B/\lvo ds (k+1) D=A++k::B/\(∀j∈A,dAt ds j<=dAt ds k)/\∀j∈B,dAt ds k<dAt ds j:=by
 obtain⟨e,rfl⟩:∃e,D=dAt ds k+1+e:={D-(dAt ds k+1),()};have e2:((en e).map λi=>lev ds (k+1) (dAt ds k+1+i))=(en e).map λi=>lev ds k (dAt ds k+1+i):=
  jb λi _=>Ln ()
 refine{lvo ds k (dAt ds k+1),((en e).map λi=>lev ds k (dAt ds k+1+i)).flatten,Rq ..,?_,?_,?_}
 .rw[Rq,Ez,xK _ (d8 _),Om rfl,e2,Ez,fh,fh,fh]
  rfl
 .intro j hj
  unfold lvo at hj;obtain⟨l,hl,hjl⟩:=ww.mp hj;obtain⟨d,hd,rfl⟩:=jq.mp hl;have:=iy.mp hd;have:=Fy.mp hjl;lia
 .intro j hj
  obtain⟨l,hl,hjl⟩:=ww.mp hj;obtain⟨i,hd,rfl⟩:=jq.mp hl;have:=Fy.mp hjl;lia
theorem W0 {ds:Za4}(h:Dok ds):∀k,k<=ds.9->At ltZ ((en k).map λj:Nat=>((dAt ds j:Int),(j:Int)))=(lvo ds k ds.9).map λj:Nat=>((dAt ds j:Int),(j:Int))
 |0,_=>by
  have:lvo ds 0 ds.9=[]:=by
   apply um.mpr;intro j hj;unfold lvo at hj;obtain⟨l,hl,hjl⟩:=ww.mp hj;obtain⟨d,hd,rfl⟩:=jq.mp hl;have:=Fy.mp hjl;lia
  rw[this];rfl
 |k+1,hk=>by
  obtain⟨A,B,e1,e2,e3,e4⟩:=wX (ds:=ds) (k:=k) (D:=ds.9) (by have:=oF h (k:=k) ();lia);rw[iz,fb];show At ltZ (_++[((dAt ds k:Int),(k:Int))])=_;rw[C8,W0 h k (),e1,e2,fb,El,fb,gt]
  .congr 1
   have:=D1 (lt:=ltZ) (xs:=B.map λj:Nat=>((dAt ds j:Int),(j:Int))) (bs:=[((dAt ds k:Int),(k:Int))]) (ys:=[]) (λb hb x hx=>by
    rw[gl.mp hb];obtain⟨j,hj,rfl⟩:=jq.mp hx;have:=e4 j hj;exact decide_eq_true (by show(dAt ds k:Int)<dAt ds j;lia))
   rw[gp] at this;rw[this,B4];rfl
  .intro a ha y hy
   rw[gl.mp hy];obtain⟨j,hj,rfl⟩:=jq.mp ha;have:=e3 j hj;exact decide_eq_false (by show ¬(dAt ds k:Int)<dAt ds j;lia)
theorem Mu {ds:Za4}(h:Dok ds):(lvo ds ds.9 ds.9).9=ds.9:=by
 have e:=congrArg k6 (W0 h ds.9 (d8 _));rw[Dg,d4,fm,d4] at e;exact e.symm
theorem qQ (ds:Za4)(k:Nat):∀D,(lvo ds k D).Pairwise λa b=>dAt ds a<=dAt ds b
 |0=>va
 |D+1=>by
  rw[Ez,p8];refine{qQ ds k D,?_,λa ha b hb=>?_}
  .refine yv (R:=λa b=>True) (λha hb _=>?_) ?_
   .rw[(Fy.mp ha).2,(Fy.mp hb).2]
    exact d8 _
   .exact List.pairwise_of_forall λ_ _=>trivial
  .unfold lvo at ha
   obtain⟨l,hl,hjl⟩:=ww.mp ha;obtain⟨d,hd,rfl⟩:=jq.mp hl;have:=iy.mp hd;rw[(Fy.mp hjl).2,(Fy.mp hb).2];lia
def gsL (ds:Za4):Za4:=(Bk ds ds.9 (-1)).9::(lvo ds ds.9 ds.9).map λv:Nat=>(Bk ds ds.9 v).9
def gsC (ds:Za4):Za4:=(Bk ds ds.9 (-1)).9::(en ds.9).map λv:Nat=>(Bk ds ds.9 v).9
def Ls (ds:Za4):List (Za4):=Bk ds ds.9 (-1)::(lvo ds ds.9 ds.9).map λv:Nat=>Bk ds ds.9 v
theorem Oc (ds:Za4):gsL ds=(Ls ds).map k6:=by
 unfold gsL Ls;rw[gt,jm];rfl
theorem eQ {ds:Za4}(h:Dok ds):(Ls ds).flatten=lvo ds ds.9 ds.9:=by
 unfold Ls;rw[im];exact(Ac9 h (d8 _)).symm
theorem Oe:∀(L:List (Za4)) (g:Nat),g<L.9->(L.flatten.drop (pre (L.map k6) g)).take ((L.getD g []).9)=L.getD g []
 |[],g,hg=>by cases hg
 |a::L,0,_=>by
  show(((a::L).flatten).drop 0).take a.9=a;rw[qe,im,List.take_left' rfl]
 |a::L,g+1,hg=>by
  have ih:=Oe L g (by simpa using hg);have e:pre ((a::L).map k6) (g+1)=a.9+pre (L.map k6) g:=by
   unfold pre;rw[gt,oq,n8]
  rw[e,im,List.drop_append,jj (),jv,i0,EO];exact ih
theorem Gm {ds:Za4}(h:Dok ds):(gsL ds).9=ds.9+1/\(gsL ds).sum=ds.9:=by
 constructor
 .unfold gsL
  rw[f8,d4,Mu h]
 .rw[Oc,<-x6,eQ h,Mu h]
theorem zZ (ns:Za4)(s:Nat):∀m i,pre ns i<=s->s<pre ns (i+m)->∃g,i<=g/\g<i+m/\pre ns g<=s/\s<pre ns (g+1)
 |0,i,h1,h2=>by rw[og] at h2;lia
 |m+1,i,h1,h2=>by
  by_cases h:s<pre ns (i+1)
  .exact{i,d8 _,(),h1,h}
  .obtain⟨g,a1,a2,a3,a4⟩:=zZ ns s m (i+1) () (by rw[show i+1+m=i+(m+1) by lia];exact h2)
   exact{g,(),(),a3,a4}
theorem Abb {ds:Za4}{g:Nat}(hg:g<ds.9)(h:Dok ds):(Ls ds).getD (g+1) []=Bk ds ds.9 ((lvo ds ds.9 ds.9).getD g 0:Nat):=by
 unfold Ls;rw[EO];unfold jw;rw[fj,d6 (by rw[Mu h];exact hg)];rfl
theorem yG {ds:Za4}(h:Dok ds):Gd 1 (gsL ds):=by
 obtain⟨hl,hs⟩:=Gm h;refine Ael () λi hi=>?_;show i<1+pre (gsL ds) i
 by_cases hc:i<=pre (gsL ds) i
 .lia
 .exfalso
  have hs2:pre (gsL ds) (i+(ds.9+1-i))=ds.9:=by
   rw[show i+(ds.9+1-i)=(gsL ds).9 by lia];unfold pre;rw[fv (d8 _),hs]
  obtain⟨g,g1,g2,g3,g4⟩:=zZ (gsL ds) (pre (gsL ds) i) (ds.9+1-i) i (d8 _) ();generalize hsd:pre (gsL ds) i=s at *;have hg0:0<g:=()
  obtain⟨g',rfl⟩:∃g',g=g'+1:={g-1,()};have sl:=Oe (Ls ds) (g'+1) (by rw[<-d4 (f:=k6),<-Oc];lia);rw[<-Oc,eQ h,Abb () h] at sl;have hgl:g'+1<(gsL ds).9:=()
  have hps:=Ud hgl;have hgv:(gsL ds)[g'+1]=(Bk ds ds.9 ((lvo ds ds.9 ds.9).getD g' 0:Nat)).9:=by
   have e:(gsL ds)[g'+1]?=mn ((Bk ds ds.9 ((lvo ds ds.9 ds.9).getD g' 0:Nat)).9):=by
    unfold gsL jw;rw[wx,fj,d6 (by rw[Mu h];lia)];rfl
   rw[d6 hgl] at e;exact fc e
  have hol:=Mu h
  -- the knot at s
  have hso:s<(lvo ds ds.9 ds.9).9:=()
  have hmem:(lvo ds ds.9 ds.9)[s]∈Bk ds ds.9 ((lvo ds ds.9 ds.9).getD g' 0:Nat):=by
   rw[<-sl];refine xl.mpr {s-pre (gsL ds) (g'+1),?_};rw[ic (),jd,show pre (gsL ds) (g'+1)+(s-pre (gsL ds) (g'+1))=s by lia];exact d6 hso
  obtain⟨m1,m2⟩:=Ps.mp hmem;have hgo:g'<(lvo ds ds.9 ds.9).9:=()
  have egd:(lvo ds ds.9 ds.9).getD g' 0=(lvo ds ds.9 ds.9)[g']:=by
   unfold jw;rw[d6 hgo];rfl
  rw[egd] at m2;obtain⟨v,v1,v2,v3⟩:=E7 h m1 ();have ev:v=(lvo ds ds.9 ds.9)[g']:=()
  rw[ev] at v3;have hsg:s<=g':=()
  by_cases e:s=g'
  .subst e
   lia
  .have:=wg.mp (qQ ds ds.9 ds.9) s g' hso hgo ()
   lia
theorem rH {ds:Za4}(h:Dok ds){k:Nat}:∀i,k<i->i<=ds.9->(∀j,k<j->j<i->dAt ds k<dAt ds j)->(way ds i)[dAt ds k+1]?=mn (k:Int)
 |0,hk,_,_=>by cases hk
 |i+1,hk,hi,hg=>by
  show((way ds i).take (dAt ds i+1)++[(i:Int)])[dAt ds k+1]?=mn (k:Int);have hl:=Bq h i ();have hd:=h i ();have hl2:((way ds i).take (dAt ds i+1)).9=dAt ds i+1:=by rw[fk];lia
  by_cases e:i=k
  .subst e
   rw[fg (),hl2,jx];rfl
  .have:=hg i () ()
   rw[f7 (),ic ()];exact rH h i () () λj h1 h2=>hg j h1 ()
theorem Af8 {ds:Za4}(h:Dok ds){k i j:Nat}(h1:k<i)(h2:i<j)(hj:j<ds.9)(e:eld ds j=k):(k:Int)<=eld ds i:=by
 obtain⟨v,v1,v2,v3⟩:=E7 h hj ();obtain rfl:v=k:=()
 have ej:=G0 h hj;rw[v3,e] at ej;have gap:=Tp h j (dAt ds v) v () ej;have hw:=rH h i h1 () λx a b=>gap x a ();have hd:=gap i h1 h2;have ei:=G0 h (k:=i) ()
 by_cases e2:dAt ds v+1=dAt ds i
 .rw[<-e2,hw] at ei
  have:=fc ei;lia
 .have:=Rh h i (dAt ds v+1) (dAt ds i) _ _ () () hw ei
  lia
theorem Vq {p q:Nat->Bool}:∀{l:Za4},(∀a∈l,¬(p a=MK/\q a=MK))->l.Pairwise (λa b=>¬(q a=MK/\p b=MK))->l.filter (λa=>p a||q a)=l.filter p++l.filter q
 |[],_,_=>rfl
 |a::l,h1,h2=>by
  rw[sj] at h2;have ih:=Vq (l:=l) (λb hb=>h1 b (by simp[hb])) h2.2;have h0:=h1 a (by simp)
  cases hp:p a with
  |true=>
   have hq:q a=ML:=by
    cases hq:q a with
    |true=>exact absurd ⟨hp,hq⟩ h0
    |false=>rfl
   rw[kx (by simp[hp]),kx (by simp[hp]),jo (by simp[hq]),ih];rfl
  |false=>
   cases hq:q a with
   |true=>
    have hn:l.filter p=[]:=lj.mpr λb hb hpb=>h2.1 b hb ⟨hq,hpb⟩;rw[kx (by simp[hq]),jo (by simp[hp]),kx (by simp[hq]),ih,hn];rfl
   |false=>
    rw[jo (by simp[hp,hq]),jo (by simp[hp]),jo (by simp[hq]),ih]
def pend (ds:Za4)(k:Nat):Za4:=(en ds.9).filter λj=>decide (k<=j)&&decide (eld ds j<k)
def Rr (ds:Za4)(k:Nat):Za4:=(en ds.9).filter λj=>decide (k<j)&&decide (eld ds j<k)
theorem Xw {ds:Za4}(h:Dok ds){k:Nat}(hk:k<ds.9):pend ds k=k::Rr ds k:=by
 have e:∀l:Za4,l=en ds.9->l.filter (λj=>decide (k<=j)&&decide (eld ds j<k))=k::l.filter (λj=>decide (k<j)&&decide (eld ds j<k)):=by
  intro l hl;have hs:en ds.9=en k++(k::(en (ds.9-k-1)).map (k+1 + ·)):=by
   rw[show ds.9=k+(1+(ds.9-k-1)) by lia,ua,ua];simp[jm,x8,jt]
  rw[hl,hs,ju,ju];have n1:(en k).filter (λj=>decide (k<=j)&&decide (eld ds j<k))=[]:=lj.mpr λj hj=>by
   have:=iy.mp hj;simp;lia
  have n2:(en k).filter (λj=>decide (k<j)&&decide (eld ds j<k))=[]:=lj.mpr λj hj=>by
   have:=iy.mp hj;simp;lia
  rw[n1,n2,jv,jv,kx (by have:=Ty h hk;simp;lia),jo (by simp)];congr 1;refine qt λj hj=>?_;obtain⟨i,hi,rfl⟩:=jq.mp hj;rw[decide_eq_true (show k<=k+1+i by lia),decide_eq_true (show k<k+1+i by lia)]
 exact e _ rfl
theorem uP {ds:Za4}(h:Dok ds)(k:Nat):pend ds (k+1)=Bk ds ds.9 k++Rr ds k:=by
 unfold pend Bk Rr;rw[<-Vq]
 .refine qt λj hj=>?_
  have hj:=iy.mp hj;have hl:=Ty h hj;rw[ol];simp only[km,sh,decide_eq_true_eq];lia
 .intro a ha
  simp only[km,decide_eq_true_eq];lia
 .refine yv (R:=λa b=>a<b) (λ{a b} ha hb hab=>?_) List.pairwise_lt_range
  have hb:=iy.mp hb;simp only[km,decide_eq_true_eq];rintro⟨⟨q1,q2⟩,p1⟩;have:=Af8 h q1 hab hb p1;lia
theorem Y3 {ds:Za4}(h:Dok ds):pend ds 0=Bk ds ds.9 (-1):=by
 unfold pend Bk;refine qt λj hj=>?_;have hj:=iy.mp hj;have hg:=fR h hj;rw[ol];simp only[km,decide_eq_true_eq];lia
theorem zY (ds:Za4):pend ds ds.9=[]:=lj.mpr λj hj=>by
 have:=iy.mp hj;simp;lia
def atO (ds:Za4)(g:Nat):Nat:=(lvo ds ds.9 ds.9).getD (g-1) 0
theorem tG (l:Za4):∀(m a:Nat),a+m<=l.9->((Hr (a+m) a).reverse.map λg=>l.getD (g-1) 0)=(l.drop a).take m
 |0,a,_=>by
  unfold Hr;rw[og,jx];rfl
 |m+1,a,h=>by
  have ih:=tG l m a ();have e:(Hr (a+(m+1)) a).reverse=(Hr (a+m) a).reverse++[a+m+1]:=by
   have:Hr (a+(m+1)) a=(a+m+1)::Hr (a+m) a:=by
    unfold Hr;rw[show a+(m+1)-a=m+1 by lia,show a+m-a=m by lia,oy,gt,jm];refine congr (congrArg _ rfl) (jb λi hi=>?_);show a+(m+1)-(i+1)=a+m-i;lia
   rw[this,yy]
  rw[e,fb,ih,ie,jd,d6 ()];congr 1;show[l.getD (a+m+1-1) 0]=_;unfold jw;rw[qo,d6 ()];rfl
theorem Jc (ds:Za4):(gsC ds).9=ds.9+1:=by unfold gsC;rw[f8,d4,fm]
theorem Vh {ds:Za4}{k:Nat}(hk:k<ds.9):(gsC ds)[k+1]?=mn (Bk ds ds.9 k).9:=by
 unfold gsC;rw[wx,fj,gr hk];rfl
theorem slots {ds:Za4}(h:Dok ds){g:Nat}(hg:g<ds.9+1):((Hr (pre (gsL ds) (g+1)) (pre (gsL ds) g)).reverse.map (atO ds))=(Ls ds).getD g []/\(gsL ds).getD g 0=((Ls ds).getD g []).9:=by
 obtain⟨hl,hs⟩:=Gm h;have hgl:g<(gsL ds).9:=()
 have hps:=Ud hgl;have sl:=Oe (Ls ds) g (by rw[<-d4 (f:=k6),<-Oc];exact hgl);have hgv:(gsL ds)[g]?=mn ((Ls ds).getD g []).9:=by
  have hLl:g<(Ls ds).9:=by rw[<-d4 (f:=k6),<-Oc];exact hgl
  rw[Oc,fj];unfold jw;rw[d6 hLl];rfl
 have hge:(gsL ds)[g]=((Ls ds).getD g []).9:=by
  rw[d6 hgl] at hgv;exact fc hgv
 constructor
 .rw[hps,hge,show atO ds=λg=>(lvo ds ds.9 ds.9).getD (g-1) 0 from rfl,tG]
  .rw[<-Oc,eQ h] at sl
   exact sl
  .have:=fE (gsL ds) (g+1)
   rw[Mu h];lia
 .unfold jw at hgv ⊢
  rw[hgv];rfl
theorem Vl {ds:Za4}(h:Dok ds):∀k,k<=ds.9->∃W,lvN (gsL ds) (k+1)=((gsC ds).take (k+1),W)/\W.map (atO ds)=pend ds k/\∀g∈W,0<g/\g<ds.9+1
 |0,_=>by
  obtain⟨s1,s2⟩:=slots h (g:=0) ();refine{(Hr (pre (gsL ds) (0+1)) (pre (gsL ds) 0)).reverse++[],?_,?_,?_}
  .show lvS (gsL ds) ([],[0])=_
   unfold lvS;show([]++[(gsL ds).getD 0 0],_)=_;rfl
  .rw[gp,s1,Y3 h]
   rfl
  .intro g hg
   rw[gp] at hg;have hd:=iJ (n4.mp hg);have:=fE (gsL ds) (0+1);have:=(Gm h).2;lia
 |k+1,hk=>by
  obtain⟨W,e1,e2,e3⟩:=Vl h k ();rw[Xw h ()] at e2
  cases W with
  |nil=>cases e2
  |cons g w=>
   rw[gt] at e2;obtain⟨a1,a2⟩:=vq e2;obtain⟨g0,g1⟩:=e3 g (by simp);obtain⟨s1,s2⟩:=slots h (g:=g) g1;have hL:(Ls ds).getD g []=Bk ds ds.9 k:=by
    obtain⟨g',rfl⟩:∃g',g=g'+1:={g-1,()};rw[Abb () h];have a1:(lvo ds ds.9 ds.9).getD g' 0=k:=a1;rw[a1]
   rw[hL] at s1 s2;refine{(Hr (pre (gsL ds) (g+1)) (pre (gsL ds) g)).reverse++w,?_,?_,?_}
   .show lvS (gsL ds) (lvN (gsL ds) (k+1))=_
    rw[e1];unfold lvS;show((gsC ds).take (k+1)++[(gsL ds).getD g 0],_)=_;rw[s2,ie (i:=k+1),Vh ()];rfl
   .rw[fb,s1,a2,uP h]
   .intro x hx
    rcases jf.mp hx with hx|hx
    .have hd:=iJ (n4.mp hx)
     have:=fE (gsL ds) (g+1);have:=(Gm h).2;lia
    .exact e3 x (by simp[hx])
theorem Acp {ds:Za4}(h:Dok ds):lvN (gsL ds) (ds.9+1)=(gsC ds,[]):=by
 obtain⟨W,e1,e2,_⟩:=Vl h ds.9 (d8 _);rw[zY] at e2;rw[e1,List.map_eq_nil_iff.mp e2,fv (by rw[Jc];exact d8 _)]
def Ll (ds:Za4)(k:Nat)(v:Int):Nat:=((en ds.9).filter λj=>decide (k<=j)&&decide (eld ds j=v)).9
theorem Yh {ds:Za4}{k:Nat}(hk:k<ds.9)(v:Int):Ll ds k v=Ll ds (k+1) v+if eld ds k=v then 1 else 0:=by
 have hs:en ds.9=en k++(k::(en (ds.9-k-1)).map (k+1 + ·)):=by
  rw[show ds.9=k+(1+(ds.9-k-1)) by lia,ua,ua];simp[jm,x8,jt]
 unfold Ll;rw[hs,ju,ju,d7,d7];have n1:(en k).filter (λj=>decide (k<=j)&&decide (eld ds j=v))=[]:=lj.mpr λj hj=>by
  have:=iy.mp hj;simp;lia
 have n2:(en k).filter (λj=>decide (k+1<=j)&&decide (eld ds j=v))=[]:=lj.mpr λj hj=>by
  have:=iy.mp hj;simp;lia
 have n3:((en (ds.9-k-1)).map (k+1 + ·)).filter (λj=>decide (k<=j)&&decide (eld ds j=v))=((en (ds.9-k-1)).map (k+1 + ·)).filter (λj=>decide (k+1<=j)&&decide (eld ds j=v)):=qt λj hj=>by
  obtain⟨i,hi,rfl⟩:=jq.mp hj;rw[decide_eq_true (show k<=k+1+i by lia),decide_eq_true (show k+1<=k+1+i by lia)]
 rw[n1,n2,jo (p:=λj=>decide (k+1<=j)&&decide (eld ds j=v)) (by simp;lia)]
 by_cases e:eld ds k=v
 .rw[kx (by simp[e]),n3,if_pos e,f8]
  lia
 .rw[jo (by simp[e]),n3,if_neg e]
  lia
theorem vR {ds:Za4}(h:Dok ds)(k:Nat):Ll ds (k+1) k=(Bk ds ds.9 k).9:=by
 unfold Ll Bk;congr 1;refine qt λj hj=>?_;have hj:=iy.mp hj;have hl:=Ty h hj;rw[ol];simp only[km,decide_eq_true_eq];lia
theorem uI {ds:Za4}(v:Int):Ll ds 0 v=(Bk ds ds.9 v).9:=by
 unfold Ll Bk;congr 1
theorem rP {ds:Za4}(h:Dok ds){k:Nat}(hk:k<ds.9):∀j,k<j->j<=ds.9->∀(p:Nat) (x:Int),(way ds j)[p]?=mn x->x<k->p<=dAt ds k/\(way ds k)[p]?=mn x
 |0,hj,_,_,_,_,_=>by cases hj
 |j+1,hj,hl,p,x,e,hx=>by
  have e:((way ds j).take (dAt ds j+1)++[(j:Int)])[p]?=mn x:=e;have hwl:=Bq h j ();have hd:=h j ();have hl2:((way ds j).take (dAt ds j+1)).9=dAt ds j+1:=by rw[fk];lia
  by_cases hp:p<dAt ds j+1
  .rw[f7 (),ic hp] at e
   by_cases ej:j=k
   .subst ej
    exact{(),e}
   .exact rP h hk j () () p x e hx
  .rw[fg (),hl2] at e
   have e0:p-(dAt ds j+1)=0:=by
    have:=(fq.mp e).1;simp only[f8,jg] at this;lia
   rw[e0] at e;have e:=fc e;lia
theorem xO {ds:Za4}(h:Dok ds){k p:Nat}{x:Int}(hk:k<ds.9)(e:(way ds k)[p]?=mn x)(hp:dAt ds k<p):Ll ds k x=0:=by
 unfold Ll;rw[td,lj];intro j hj;have hj:=iy.mp hj;simp only[km,decide_eq_true_eq];rintro⟨h1,h2⟩;have ej:=G0 h hj;rw[h2] at ej;have hxk:x<k:=by
  cases p with
  |zero=>cases hp
  |succ p=>
   obtain⟨v,v1,v2,_⟩:=Ku h k p x () e;lia
 have e2:(way ds k)[dAt ds j]?=mn x/\dAt ds j<=dAt ds k:=by
  by_cases ejk:j=k
  .subst ejk
   exact{ej,d8 _}
  .obtain⟨a,b⟩:=rP h hk j () () _ x ej hxk
   exact⟨b,a⟩
 have:=Rh h k (dAt ds j) p x x () () e2.1 e;lia
end _W
end
section
namespace _L
open PySem PySem.Spec PyProof.Rows
theorem Aco {K:d5}{fr:St}{tc:TT}{Q:VK}(n:Nat)(f1 f2:Nat->V)(Pv:ee->Nat->List V->Hp->Prop)(h0:∀D H,H1 D=tp->Ah H1 H->Pv D 0 [] H)
  (stab:∀D i ys H xs o,H D=mn (.lst xs)->Pv D i ys H->Pv D i ys (upd H D o))(hz:∀D i ys H,i<n->Pv D i ys H->ys.9<sizeLine)(psame:∀D i ys H H',Ah H H'->Pv D i ys H->Pv D i ys H')
  (hgo:∀i H,i<n->Ah H1 H->J.go i H)(hy:∀i H v H',i<n->Ah H1 H->J.yld i H v H'->∃a,v=.ref a/\SqT K H' a [f1 i,f2 i]/\Ah H H')(hst:∀H,Ah H1 H->J.stop n H)
  (turn:∀D i ys H (A:VK) (R:Hp->Prop),i<n->Ah H1 H->H1 D=tp->H D=mn (.lst ys)->Pv D i ys H->(∀y H',Ah H H'->Pv D (i+1) (ys++[y]) H'->A y H') ->
   tc (mn (f1 i)::mn (f2 i)::fr) H λb H3=>if b=MK then te (mn (f1 i)::mn (f2 i)::fr) H3 A else R H3)
  (fin:∀D ys H,H1 D=tp->Ah H1 H->Pv D n ys H->H D=mn (.lst ys)->Q (.ref D) H):Hh K J H1 fr tc te Q:=by
 intro D hD;refine{λi m H=>i<=n/\m=n-i/\Ah H1 H/\∃ys,H D=mn (.lst ys)/\Pv D i ys H,{n,gy _,rfl,Ai hD,[],Ac,h0 D _ hD (Ai hD)},?_};rintro i m H ⟨hi,rfl,sm,ys,hl,hp⟩
 by_cases h:i=n
 .subst h
  exact .inl {hst H sm,fin D ys H hD sm hp hl}
 .have hlt:i<n:=me hi h
  refine .inr {hgo i H hlt sm,λv H' hyl=>?_};obtain⟨a,rfl,ht,s2⟩:=hy i H v H' hlt sm hyl;refine{a,_,_,rfl,ht,turn D i ys H' _ _ hlt (sm.trans s2) hD (s2 _ _ hl) (psame _ _ _ _ _ s2 hp) (λy H4 s4 hp4=>?_)};refine{ys,s4 _ _ (s2 _ _ hl),hz D i ys _ hlt hp,n-(i+1),(),(),rfl,λb u e=>?_,ys++[y],Ac,stab _ _ _ _ _ _ (s4 _ _ (s2 _ _ hl)) hp4};rw[Al (Am e hD)];exact s4 _ _ (s2 _ _ (sm _ _ e))
theorem Zg {K:d5}{a b:ee}{fr:St}{tc:TT}{Q:VK}(ha:SqL K H1 a xs)(hb:SqL K H1 b ys)(Pv:ee->Nat->List V->Hp->Prop)(h0:∀D H,H1 D=tp->Ah H1 H->Pv D 0 [] H)
  (stab:∀D i zs H us o,H D=mn (.lst us)->Pv D i zs H->Pv D i zs (upd H D o))(hz:∀D i zs H,i<min xs.9 ys.9->Pv D i zs H->zs.9<sizeLine)(psame:∀D i zs H H',Ah H H'->Pv D i zs H->Pv D i zs H')
  (turn:∀D (i:Nat) zs x y H (A:VK) (R:Hp->Prop),xs[i]?=mn x->ys[i]?=mn y->Ah H1 H->H1 D=tp->H D=mn (.lst zs)->Pv D i zs H->(∀y H',Ah H H'->Pv D (i+1) (zs++[y]) H'->A y H') ->
   tc (mn x::mn y::fr) H λb H3=>if b=MK then te (mn x::mn y::fr) H3 A else R H3)
  (fin:∀D zs H,H1 D=tp->Ah H1 H->Pv D (min xs.9 ys.9) zs H->H D=mn (.lst zs)->Q (.ref D) H):Hh K (Itz K a b) H1 fr tc te Q:=by
 refine Aco (min xs.9 ys.9) (λi=>xs.getD i .non) (λi=>ys.getD i .non) Pv h0 stab hz psame (λi H hi sm=>{xs,ys,xs[i]'(),ys[i]'(),sm.seq ha,sm.seq hb,by simp,by simp}) (λi H v H' hi sm h=>?_)
  (λH sm=>{xs,ys,sm.seq ha,sm.seq hb,rfl}) (λD i zs H A R hi sm=>turn D i zs _ _ H A R (by simp[show i<xs.9 by lia]) (by simp[show i<ys.9 by lia]) sm) fin
 obtain⟨t,x,y,hn,rfl,h1,h2,rfl⟩:=h;have e1:=h1 xs (sm.seq ha);have e2:=h2 ys (sm.seq hb);refine{t,rfl,?_,Ai hn};simp only[jw,e1,e2,qc];exact SqT.of Ac
section
variable {X:Cx}
def yZ (ta:TA):TE:=λG H Q=>ta G H λvs H1=>∃j k:Nat,vs=[.int 0,.int j,.int k]/\j<=100000/\0<k/\k<=100000/\∀p,H1 p=tp->Q (.ref p) (upd H1 p (.lst ((en ((j+k-1)/k)).map λt:Nat=>V.int (t*k:Nat))))
theorem pL {a b c:jk}{ta:TA}{p q pos2:Pos}(hcal:X.calm=MK)(hg:Gl X "list")(hm:X.mg "list"=tp)(hg2:Gl X "range")(hm2:X.mg "range"=tp)(ha:PA X [a,b,c] ta)
  (hs:autoParam (starEach [a,b,c] X.env=[(ML,eval a X.env),(ML,eval b X.env),(ML,eval c X.env)]) QD)(hs2:autoParam (starEach [b,c] X.env=[(ML,eval b X.env),(ML,eval c X.env)]) QD)
  (hs3:autoParam (starEach [CY (.Name "range" q) [a,b,c] [] pos2] X.env=[(ML,eval (.Call (.Name "range" q) [a,b,c] [] pos2) X.env)]) QD) :
  PE X (.Call (.Name "list" p) [.Call (.Name "range" q) [a,b,c] [] pos2] [] pos) (yZ ta):=by
 k_in;refine wpAny_Call_Name_kw (Ee I hg hm Ji (i8 ?_ hs3 rfl) (by decide) (by decide));rw[hs3];refine o9 ?_;show wpAny _ _ (eval (CY (.Name "range" q) [a,b,c] [] pos2) X.env) _ _ _;refine wpAny_Call_Name_kw (Ee I hg2 hm2 boot_range (i8 (thA ha I h λus s1 vs H1 I1 r1 q1=>?_) (by rw[hs,hs2]) (by rw[hs2];rfl)) (by decide) (by decide));obtain⟨j,k,e,hj,hk,hk2,q⟩:=q1;subst e
 cases r1 with
 |cons r rr=>
  cases rr with
  |cons r' rr=>
   cases rr with
   |cons r'' rr=>
    cases rr;obtain⟨t,rfl⟩:=r;obtain⟨t',rfl⟩:=r';obtain⟨t'',rfl⟩:=r'';refine FK () (tm ?_) (.inl (ss ()));have e2:kl (0:Int) (j:Int) (k:Int)=(((j+k-1)/k:Nat):Int):=by
     unfold kl;rw[if_pos ()]
     by_cases hj0:j=0
     .subst hj0
      rw[if_neg (),z9 ()];rfl
     .rw[if_pos (),show((j:Int)-0-1)=((j-1:Nat):Int) by lia,<-rl,show j+k-1=j-1+k by lia,FX _ hk]
      rfl
    have hn:(j+k-1)/k<=j:=by
     by_cases hj0:j=0
     .subst hj0
      rw[z9 ()];exact d8 _
     .rw[show j+k-1=j-1+k by lia,FX _ hk]
      have:=Nat.div_le_self (j-1) k;lia
    generalize (j+k-1)/k=m at *;have hsm:pi (0:Int) (j:Int) (k:Int)=MK:=by
     unfold pi;rw[e2,if_pos ()];simp only[ug,km,sh,decide_eq_true_eq,beq_iff_eq];refine{{{{?_,?_},?_},?_},.inr ?_}<;>lia
    refine call_list_range (I1.ok.hd hcal) (y8 ..) hsm e2 () λh' tk acc c kp ho it=>?_;have hv:A5 ((en (m)).map λt:Nat=>V.int (t*k:Nat)) acc.7:=Ur (by rw[d4,fm,f9,it.1]) λi x u e1 e3=>by
     have hi:i<m:=by have:=(fq.mp e1).1;simpa using this
     rw[fj,gr hi] at e1;cases e1;have e4:acc[i]?=mn u:=by rw[<-ge];exact e3
     obtain⟨t,e5⟩:=it.2 i u e4;exact{t,by rw[e5,show(0:Int)+(i:Int)*(k:Int)=((i*k:Nat):Int) by rw[zk,AV]]}
    have up:∀b o,s1.heap.get? b=mn o->h'.get? b=mn o:=λb o e=>kp _ _ (fe _ e);have hle:s1.heap.objs.8<=(s1.heap.push { cls:=.type "range",data:=.fields #[.int 0 t,.int j t',.int k t''] }).objs.size:=by rw[vy];lia
    refine{.ref _,_,I1.laid (t':=tk) (o:=.lst _) up hle {?_,acc.7,c,hv,ho},rfl,q _ (I1.hok.fresh hle)};rw[d4,fm];exact gz (sv (show m<=100000 by lia) (by decide))
theorem Acc {G:St}{Q:VK}{ta:TA}(h:ta G H λvs H1=>∃j k:Nat,vs=[.int 0,.int j,.int k]/\j<=100000/\0<k/\k<=100000/\∀p,H1 p=tp->Q (.ref p) (upd H1 p (.lst ((en ((j+k-1)/k)).map λt:Nat=>V.int (t*k:Nat))))):yZ ta G H Q:=h
end
section
variable {X:Cx}
theorem U7 (K:d5)(hc:X.calm=MK)(h:autoParam (X.K=K) QD):Fw X (.builtin "min") (Aea K):=by
 subst h;exact R0 hc
theorem mK (K:d5)(hc:X.calm=MK)(h:autoParam (X.K=K) QD):Fw X (.builtin "max") (Ad7 K):=by
 subst h;exact M0 hc
theorem Agq (K:d5){T name id:String}{r:V->List V->Hp->VK->Prop}{o e:jk}{t:TA}{apos cpos:Pos}(pa:HA T)(slot:Slot T name id)(hty:typeOf (.builtin id)=pure (.type "method_descriptor"))(hm:MtR X id r)(ho:PE X o to)(ha:PA X (e::es) t)(h:autoParam (X.K=K) QD)
  (hbase:autoParam (attributeBase o name X.env (eval o X.env)=eval o X.env) QD)
  (hfew:autoParam (((backTo cpos (starEach (e::es) X.env)).all (λx=>!x.1)&&(backToKw cpos (keywordEach [] X.env)).all (λx=>x.1.isSome)
   && decide ((e::es).9+([]:List AU).9+(if([]:List AU).isEmpty then 0 else 1)<30))=MK) QD)
  (hline:autoParam ((apos.endLine==cpos.line)=MK) QD)(hs:autoParam (starEach (e::es) X.env=(ML,eval e X.env)::starEach es X.env) QD)(hplain:autoParam ((backTo cpos (starEach es X.env)).any (·.1)=ML) QD) :
  PE X (.Call (.Attribute o name apos) (e::es) [] cpos) (tBM K T r to t):=by
 subst h;exact Cl pa slot hty hm ho ha hbase hfew hline hs hplain
end
theorem jZ {K:d5}{a:ee}{fr:St}{tc:TT}{Q:VK}(hl:SqL K H1 a xs)(Pv:Nat->List V->Hp->Prop)(h0:∀H,Ah H1 H->Pv 0 [] H)
  (stab:∀i ys H D zs o,H D=mn (.lst zs)->Pv i ys H->Pv i ys (upd H D o))(hz:∀i ys H,i<xs.9->Pv i ys H->ys.9<sizeLine)
  (turn:∀(i:Nat) ys x H (A:VK) (R:Hp->Prop),xs[i]?=mn x->Ah H1 H->Pv i ys H->(∀y H',Ah H H'->Pv (i+1) (ys++[y]) H'->A y H')->tc (mn x::fr) H λb H3=>if b=MK then te (mn x::fr) H3 A else R H3)
  (fin:∀D ys H,H1 D=tp->Ah H1 H->Pv xs.9 ys H->H D=mn (.lst ys)->Q (.ref D) H):Lk (Itl K a) H1 fr tc te Q:=by
 refine Aai xs.9 (λi=>xs.getD i .non) Pv h0 stab hz (λi H hi sm=>{xs,xs[i],sm.seq hl,by simp[hi]}) (λi H x H' hi sm h=>{?_,h.1}) (λH sm=>{xs,sm.seq hl,d8 _}) (λi ys H A R hi sm=>turn i ys _ H A R (by simp[hi]) sm) fin;have:=h.2 xs (sm.seq hl);simp[jw,this]
open PySem.W
structure tW (P:gu) (w:i7) (K:d5) (mg:Za2) (base:ki) (x m:Str) (k:Nat) (ps:Za6) (sp:Sp):Prop where
 ex:∃(W f:ee) (fd:ky),Av P w K mg base CX0 k f fd ps sp/\Fu K fd ps []/\mg x=mn (.ref W)/\specialIn K (.ref W) "__getattribute__"=mn (mn (.builtin "type.__getattribute__")) /\
  readsIn K W (.type "type")=MK/\findCls K (.ref W) (.type "type") m=mn (.val (.ref f))/\keepIn K (.ref f)=MK
section
variable {X:Cx} {x m:Str} {k:Nat} {ps:Za6} {sp:Sp} {np apos pos:Pos} {e:jk} {es:List jk} {t:TA} {pl:Sem Bool}
theorem qF (M:tW X.prog X.w X.K X.mg X.base x m k ps sp)(hr:Cz k X.A)(hg:Gl X x)(ha:PA X (e::es) t)(hdb:autoParam ((x==("__debug__":Str))=ML) QF)
  (hst:autoParam (starEach (e::es) X.env=(ML,eval e X.env)::starEach es X.env) QD)(hpl:autoParam ((backTo pos (starEach es X.env)).any (·.1)=ML) QD)
  (ht:autoParam (eval (.Call (.Attribute (.Name x np) m apos) (e::es) [] pos) X.env=(do
   let ov <-eval (.Name x np) X.env
   standAt apos.atName
   let (f,first) <-holding [ov] (getMethod ov m pl)
   callWith pos f first (backTo pos (starEach (e::es) X.env)) (backToKw pos (keywordEach [] X.env)))) QD) :
  PE X (.Call (.Attribute (.Name x np) m apos) (e::es) [] pos) (qH sp [] E0 t):=by
 obtain⟨W,f,fd,F,hb,hm,ga,rd,ini,kp⟩:=M.ex;k_in;refine methodCall_KW (Pa I hg hm ?_ hdb) ht;refine method_cls I.kIn ga (cls_value I.kIn rd ini rfl ?_);refine callWith_K (h₀:=X.base) I.ok.mod.kin kp (thn (ha pos pins _ G H _ (I.tok (s.toks+1)) h) λus s1 ⟨vs,H1,I1,r,q⟩=>{I1.kIn,?_}) hst hpl;exact Z6 F hr hb .nil gN I1 r q
end
theorem lQ {K:d5}{fr:St}{tc:TT}{Q:VK}(n:Nat)(f1 f2:Nat->V)(Pv:ee->Nat->List V->Hp->Prop)(h0:∀D H,H1 D=tp->Ah H1 H->Pv D 0 [] H)
  (stab:∀D i ys H xs o,H D=mn (.lst xs)->Pv D i ys H->Pv D i ys (upd H D o))(hz:∀D i ys H,i<n->Pv D i ys H->ys.9<sizeLine)(psame:∀D i ys H H',Ah H H'->Pv D i ys H->Pv D i ys H')
  (hgo:∀i H,i<n->Ah H1 H->J.go i H)(hy:∀i H v H',i<n->Ah H1 H->J.yld i H v H'->∃a,v=.ref a/\SqT K H' a [f1 i,f2 i]/\Ah H H')(hst:∀H,Ah H1 H->J.stop n H)
  (turn:∀D i ys H (A:VK) (R:Hp->Prop),i<n->Ah H1 H->H1 D=tp->H D=mn (.lst ys)->Pv D i ys H->(∀H',Ah H H'->Pv D (i+1) ys H'->R H')->(∀y H',Ah H H'->Pv D (i+1) (ys++[y]) H'->A y H') ->
   tc (mn (f1 i)::mn (f2 i)::fr) H λb H3=>if b=MK then te (mn (f1 i)::mn (f2 i)::fr) H3 A else R H3)
  (fin:∀D ys H,H1 D=tp->Ah H1 H->Pv D n ys H->H D=mn (.lst ys)->Q (.ref D) H):Hh K J H1 fr tc te Q:=by
 intro D hD;refine{λi m H=>i<=n/\m=n-i/\Ah H1 H/\∃ys,H D=mn (.lst ys)/\Pv D i ys H,{n,gy _,rfl,Ai hD,[],Ac,h0 D _ hD (Ai hD)},?_};rintro i m H ⟨hi,rfl,sm,ys,hl,hp⟩
 by_cases h:i=n
 .subst h
  exact .inl {hst H sm,fin D ys H hD sm hp hl}
 .have hlt:i<n:=me hi h
  refine .inr {hgo i H hlt sm,λv H' hyl=>?_};obtain⟨a,rfl,ht,s2⟩:=hy i H v H' hlt sm hyl;refine{a,_,_,rfl,ht,turn D i ys H' _ _ hlt (sm.trans s2) hD (s2 _ _ hl) (psame _ _ _ _ _ s2 hp) (λH3 s3 hp3=>?_) (λy H4 s4 hp4=>?_)}
  .exact{n-(i+1),(),(),rfl,(sm.trans s2).trans s3,ys,s3 _ _ (s2 _ _ hl),hp3}
  refine{ys,s4 _ _ (s2 _ _ hl),hz D i ys _ hlt hp,n-(i+1),(),(),rfl,λb u e=>?_,ys++[y],Ac,stab _ _ _ _ _ _ (s4 _ _ (s2 _ _ hl)) hp4};rw[Al (Am e hD)];exact s4 _ _ (s2 _ _ (sm _ _ e))
theorem zP {K:d5}{a:ee}{fr:St}{tc:TT}{Q:VK}(ha:SqL K H1 a xs)(Pv:ee->Nat->List V->Hp->Prop)(h0:∀D H,H1 D=tp->Ah H1 H->Pv D 0 [] H)
  (stab:∀D i zs H us o,H D=mn (.lst us)->Pv D i zs H->Pv D i zs (upd H D o))(hz:∀D i zs H,i<xs.9->Pv D i zs H->zs.9<sizeLine)(psame:∀D i zs H H',Ah H H'->Pv D i zs H->Pv D i zs H')
  (turn:∀D (i:Nat) zs x H (A:VK) (R:Hp->Prop),xs[i]?=mn x->Ah H1 H->H1 D=tp->H D=mn (.lst zs)->Pv D i zs H->(∀H',Ah H H'->Pv D (i+1) zs H'->R H')->(∀y H',Ah H H'->Pv D (i+1) (zs++[y]) H'->A y H') ->
   tc (mn (.int i)::mn x::fr) H λb H3=>if b=MK then te (mn (.int i)::mn x::fr) H3 A else R H3)
  (fin:∀D zs H,H1 D=tp->Ah H1 H->Pv D xs.9 zs H->H D=mn (.lst zs)->Q (.ref D) H):Hh K (Ite K a) H1 fr tc te Q:=by
 refine lQ xs.9 (λi=>.int i) (λi=>xs.getD i .non) Pv h0 stab hz psame (λi H hi sm=>{xs,xs[i]'(),sm.seq ha,by simp}) (λi H v H' hi sm h=>?_)
  (λH sm=>{xs,sm.seq ha,rfl}) (λD i zs H A R hi sm=>turn D i zs _ H A R (by simp[hi]) sm) fin
 obtain⟨t,x,hn,rfl,h1,rfl⟩:=h;have e1:=h1 xs (sm.seq ha);refine{t,rfl,?_,Ai hn};simp only[jw,e1,qc];exact SqT.of Ac
theorem vL {K:d5}{a:ee}{as:List ee}{i1 i2:Nat}{tb:TS}{G:St}(hx:as.9=xs.9)(hy:as.9=ys.9)(Pv:Nat->St->Hp->Prop)(h0:Pv 0 G H)
  (hl:∀i G H,i<=as.9->Pv i G H->SqL K H a (as.map V.ref))(ht:∀(i:Nat) t x y G H,as[i]?=mn t->xs[i]?=mn x->ys[i]?=mn y->Pv i G H->H t=mn (.tup [x,y]))
  (step:∀(i:Nat) x y G H,xs[i]?=mn x->ys[i]?=mn y->Pv i G H->tb { D with nx:=Pv (i+1),ct:=Pv (i+1),bk:=D.nx } ((G.set i1 (mn x)).set i2 (mn y)) H)
  (fin:∀G H,Pv as.9 G H->D.nx G H):vI (Itl K a) (oR K 2 (J3 (Eg i1) (J3 (Eg i2) nY))) tb D G H:=by
 refine{λi m G H=>i<=as.9/\m=as.9-i/\Pv i G H,{_,gy _,rfl,h0},?_};rintro i m G H ⟨hi,rfl,hp⟩
 by_cases h:i=as.9
 .exact .inl {{_,hl i G H hi hp,by rw[d4];lia},fin G H (h▸hp)}
 .have hlt:i<as.9:=me hi h
  refine .inr {{_,.ref as[i],hl i G H hi hp,by rw[fj,d6 hlt];rfl},Pv (i+1),λmt H' q=>{as.9-(i+1),(),hlt,rfl,q},λv H' hyl=>?_};obtain⟨rfl,hv⟩:=hyl;have hv:=hv _ (hl i G H' hi hp);rw[fj,d6 hlt] at hv;obtain rfl:=fc hv;exact Z3 (SqT.of (ht i _ _ _ G H' (d6 hlt) (d6 ()) (d6 ()) hp)) (step i _ _ G H' (d6 ()) (d6 ()) hp)
theorem yX {K:d5}{a b:ee}{fr:St}{tc:TT}{Q:VK}(ha:SqL K H1 a xs)(hb:SqL K H1 b ys)(Pv:ee->Nat->List V->Hp->Prop)(h0:∀D H,H1 D=tp->Ah H1 H->Pv D 0 [] H)
  (stab:∀D i zs H us o,H D=mn (.lst us)->Pv D i zs H->Pv D i zs (upd H D o))(hz:∀D i zs H,i<min xs.9 ys.9->Pv D i zs H->zs.9<sizeLine)(psame:∀D i zs H H',Ah H H'->Pv D i zs H->Pv D i zs H')
  (turn:∀D (i:Nat) zs x y H (A:VK) (R:Hp->Prop),xs[i]?=mn x->ys[i]?=mn y->Ah H1 H->H1 D=tp->H D=mn (.lst zs)->Pv D i zs H->(∀H',Ah H H'->Pv D (i+1) zs H'->R H')->(∀y H',Ah H H'->Pv D (i+1) (zs++[y]) H'->A y H') ->
   tc (mn x::mn y::fr) H λb H3=>if b=MK then te (mn x::mn y::fr) H3 A else R H3)
  (fin:∀D zs H,H1 D=tp->Ah H1 H->Pv D (min xs.9 ys.9) zs H->H D=mn (.lst zs)->Q (.ref D) H):Hh K (Itz K a b) H1 fr tc te Q:=by
 refine lQ (min xs.9 ys.9) (λi=>xs.getD i .non) (λi=>ys.getD i .non) Pv h0 stab hz psame (λi H hi sm=>{xs,ys,xs[i]'(),ys[i]'(),sm.seq ha,sm.seq hb,by simp,by simp}) (λi H v H' hi sm h=>?_)
  (λH sm=>{xs,ys,sm.seq ha,sm.seq hb,rfl}) (λD i zs H A R hi sm=>turn D i zs _ _ H A R (by simp[show i<xs.9 by lia]) (by simp[show i<ys.9 by lia]) sm) fin
 obtain⟨t,x,y,hn,rfl,h1,h2,rfl⟩:=h;have e1:=h1 xs (sm.seq ha);have e2:=h2 ys (sm.seq hb);refine{t,rfl,?_,Ai hn};simp only[jw,e1,e2,qc];exact SqT.of Ac
theorem Je (K:d5){e:jk}{f:Str}{ta:TE}(he:PE X e ta)(h:autoParam (X.K=K) QD)(hb:autoParam (attributeBase e f X.env (eval e X.env)=eval e X.env) QD):PE X (.Attribute e f pos) (Ado K ta f):=by
 subst h;exact wI he hb
section
variable {P:gu} {w:i7} {K:HH} {mg:Za2} {base h:ki} {x q:Str} {st:jr} {f C:ee} {oc:ft} {od an:Option ee} {osl:Array (Za7)} {kV doc pm cdv ct:ft} {fs ps:Za6} {k:Nat} {sp:Sp}
theorem FD.no (D:FD K C fs)(i:Nat){g:Str}(h:autoParam (fs[i]?=mn g) QD):Ay K C g:=by
 have:=rf.mp D.al g (gi h);show findIn K (.ref C) g=mn tp
 cases e:findIn K (.ref C) g with
 |none=>rw[e] at this;cases this
 |some o=>
  cases o with
  |none=>rfl
  |some v=>rw[e] at this;cases this
def Cur:Nat->(Za3->Prop)->Prop
 |0,P=>P []
 |n+1,P=>∀a,Cur n λl=>P (a::l)
theorem Cur.all:∀{n:Nat} {P:Za3->Prop},Cur n P->∀us:Za3,us.9=n->P us
 |0,_,h,[],_=>h
 |n+1,_,h,a::l,e=>Cur.all (n:=n) (h a) l (xz e)
abbrev L7 (x q:Str)(st:jr)(ps:Za6):Prop:=∀(kV doc pm:ft) (an:Option ee) (cdv ct:ft),Cur ps.9 λus=>bindArgs (fnOf x q (B3 st) (Br st) (Ad st) .none kV doc pm an cdv ct) {us,[]}=pure (ps.zip us)
theorem Fun.bd (F:Fun K x q st f fd)(hb:L7 x q st ps):Fu K fd ps []:=F.binds λa b c d e g=>(hb a b c d e g).all
theorem GD.cal (X:K.In h)(G:h.Ns mainGlobals mg)(g:GD K x st)(ok:∀{f fd},Fun K x x st f fd->Av P w K mg base CX0 k f fd ps sp)
  (hb:autoParam (L7 x x st ps) QL):Cal P w K mg base x k ps sp:=
 let ⟨f,fd,F,a⟩:=g
 {{f,fd,ok F,F.bd hb,mg_of X G a,F.kp}}
theorem MD.mth (c:Cls K C)(g:MD K C x q st)(ok:∀{f fd},Fun K x q st f fd->Av P w K mg base CX0 k f fd ps sp)
  (hb:autoParam (L7 x q st ps) QL):Mth P w K mg base C x k ps sp:=
 let ⟨f,fd,F,a,i⟩:=g
 {{f,fd,ok F,F.bd hb,⟨a,i,F.kp⟩},c}
theorem MD.mkr {y:Str}(X:K.In h)(G:h.Ns mainGlobals mg)(c:CD K C y)(g:MD K C "__init__" q st)(ok:∀{f fd},Fun K "__init__" q st f fd->Av P w K mg base CX0 k f fd ps sp)
  (hb:autoParam (L7 "__init__" q st ps) QL):Mkr P w K mg base y C k ps sp:=
 let ⟨f,fd,F,a,i⟩:=g
 {{f,fd,ok F,F.bd hb,⟨c.ma,a,i,c.kc⟩,mg_of X G c.a}}
theorem BD.calC {y:Str}(X:K.In h)(G:h.Ns mainGlobals mg)(c:BC K C y)(g:BD K C x q st)(ok:∀{f fd},Fun K x q st f fd->Av P w K mg base CX0 k f fd ps sp)
  (hb:autoParam (L7 x q st ps) QL):tW P w K mg base y x k ps sp:=
 let ⟨f,fd,F,a⟩:=g
 {{C,f,fd,ok F,F.bd hb,mg_of X G c.a,c.bg,c.br,a,F.kp}}
end
end _L
end
section
namespace _W
def jP (ds:Za4)(k:Nat):Nat->Nat->Nat
 |0,j=>j
 |m+1,j=>if(k:Int)<=eld ds j then jP ds k m (j+1) else j
def Jt (ds:Za4)(k:Nat):Nat:=jP ds k (ds.9-(k+1)) (k+1)
theorem qB (ds:Za4)(k:Nat):∀m j,k<j->(∀i,k<i->i<j->(k:Int)<=eld ds i)->j<=jP ds k m j/\jP ds k m j<=j+m/\(∀i,k<i->i<jP ds k m j->(k:Int)<=eld ds i)/\(jP ds k m j<j+m->eld ds (jP ds k m j)<k)
 |0,j,h1,h2=>{d8 _,d8 _,h2,λh=>absurd h (o7 _)}
 |m+1,j,h1,h2=>by
  unfold jP
  by_cases h:(k:Int)<=eld ds j
  .rw[if_pos h]
   obtain⟨a,b,c,d⟩:=qB ds k m (j+1) () (λi h3 h4=>by
    by_cases e:i=j
    .rw[e];exact h
    .exact h2 i h3 ())
   exact{(),(),c,λh5=>d ()}
  .rw[if_neg h]
   exact{d8 _,(),h2,λ_=>()}
theorem O9 {ds:Za4}{k:Nat}(hk:k<ds.9):k<Jt ds k/\Jt ds k<=ds.9/\(∀i,k<i->i<Jt ds k->(k:Int)<=eld ds i)/\(Jt ds k<ds.9->eld ds (Jt ds k)<k):=by
 obtain⟨a,b,c,d⟩:=qB ds k (ds.9-(k+1)) (k+1) () (λi h1 h2=>());unfold Jt;exact{(),(),c,λh=>d ()}
def Ajl (ds:Za4)(j:Nat):Nat:=((en ds.9).filter λi=>decide (j<i)&&decide (eld ds i<j)).9
theorem Ab4 {p q:Nat->Bool}{l:Za4}(h:∀i∈l,p i=q i):(l.filter p).9=(l.filter q).9:=by rw[qt h]
theorem qS {ds:Za4}(h:Dok ds){k:Nat}(hk:k<ds.9):eld ds k<k:=by
 by_cases e:eld ds k=-1
 .lia
 .obtain⟨v,hv,hvk,_⟩:=E7 h hk e
  lia
def Kj (ds:Za4)(j:Nat):Nat:=((en ds.9).filter λi=>decide (eld ds i<j)).9
theorem Uy {p q r:Nat->Bool}:∀{l:Za4},(∀i∈l,r i=(p i||q i))->(∀i∈l,p i=MK->q i=ML)->(l.filter r).9=(l.filter p).9+(l.filter q).9
 |[],_,_=>rfl
 |x::t,h1,h2=>by
  have ih:=Uy (l:=t) (λi hi=>h1 i (by simp[hi])) (λi hi=>h2 i (by simp[hi]));have hx:=h1 x (by simp);have hy:=h2 x (by simp);rw[ul,ul,ul,hx];cases hp:p x<;>cases hq:q x
  .simpa using ih
  .simp only[HI,ku,if_false,if_true,f8,ih];lia
  .simp only[IA,ku,if_false,if_true,f8,ih];lia
  .rw[hy hp] at hq;cases hq
theorem lP {ds:Za4}(h:Dok ds):Kj ds 0=(Bk ds ds.9 (-1)).9:=by
 unfold Kj Bk;refine Ab4 λi hi=>decide_eq_decide.mpr ?_;have:=fR h (iy.mp hi);lia
theorem iW {ds:Za4}(j:Nat):Kj ds (j+1)=Kj ds j+(Bk ds ds.9 j).9:=by
 unfold Kj Bk;refine Uy (λi hi=>?_) (λi hi hp=>?_)
 .rw[ol,sh,decide_eq_true_iff,decide_eq_true_iff,decide_eq_true_iff]
  lia
 .rw[decide_eq_true_iff] at hp
  exact decide_eq_false ()
theorem Zw {ds:Za4}(h:Dok ds):∀j,j<=ds.9->((gsC ds).take (j+1)).sum=Kj ds j
 |0,_=>by
  rw[lP h];unfold gsC;simp
 |j+1,hj=>by
  rw[ie,Vh (),nh,Zw h j (),iW];simp
theorem Af2 {n j:Nat}(h:j<n):((en n).filter λi=>decide (i<=j)).9=j+1:=by
 have e:(en n).filter (λi=>decide (i<=j))=en (j+1):=by
  obtain⟨d,rfl⟩:∃d,n=j+1+d:={n-(j+1),()};rw[ua,ju,EQ.mpr (λi hi=>decide_eq_true (by have:=iy.mp hi;lia)),lj.mpr (λi hi=>by
   obtain⟨x,hx,rfl⟩:=jq.mp hi;rw[decide_eq_true_iff];lia),gp]
 rw[e,fm]
theorem oW {ds:Za4}(h:Dok ds){j:Nat}(hj:j<ds.9):Kj ds j=j+1+Ajl ds j:=by
 rw[<-Af2 hj];refine Uy (λi hi=>?_) (λi hi hp=>?_)
 .have h1:=qS h (iy.mp hi)
  rw[ol,sh,km,decide_eq_true_iff,decide_eq_true_iff,decide_eq_true_iff];lia
 .rw[decide_eq_true_iff] at hp
  rw[decide_eq_false (show ¬ j<i by lia),BK]
theorem pA {ds:Za4}(h:Dok ds):Kj ds ds.9=ds.9:=by
 unfold Kj;rw[EQ.mpr (λi hi=>decide_eq_true (by have:=qS h (iy.mp hi);have:=iy.mp hi;lia)),fm]
theorem xH:∀{ns:Za4} {h:Nat},(∀j,j<ns.9->j+1<=h+(ns.take j).sum)->h+ns.sum=ns.9->Gd h ns
 |[],h,_,e=>e
 |n::r,h,h1,e=>by
  have h0:=h1 0 (DM _);rw[pf,List.sum_nil] at h0;refine{(),xH (λj hj=>?_) ?_}
  .have:=h1 (j+1) (by rw[f8];lia)
   rw[oq,n8] at this;lia
  .rw[n8,f8] at e
   lia
theorem iL {ds:Za4}(h:Dok ds):(gsC ds).sum=ds.9:=by
 have h1:=Zw h ds.9 (d8 _);rw[fv (by rw[Jc];exact d8 _),pA h] at h1;exact h1
theorem Ae8 {ds:Za4}(h:Dok ds):Gd 1 (gsC ds):=by
 refine xH (λj hj=>?_) (by rw[iL h,Jc];lia);rw[Jc] at hj
 cases j with
 |zero=>exact jz _ _
 |succ j=>
  rw[Zw h j (),oW h ()];lia
theorem Agg {ds:Za4}(h:Dok ds){k:Nat}(hk:k<ds.9):∀i,k<i->i<Jt ds k->dAt ds k<dAt ds i:=λi=>by
 obtain⟨a,b,c,d⟩:=O9 (ds:=ds) hk
 induction i using Nat.strongRecOn with
 |_ i ih=>
  intro h1 h2;have h3:=c i h1 h2;obtain⟨v,hv,hvi,hd⟩:=E7 h (show i<ds.9 by lia) ()
  by_cases e:v=k
  .rw[hd,e];lia
  .have:=ih v hvi () ()
   lia
end _W
end
section
namespace _W
def dk:Nat->Za4->Prop
 |_,[]=>True
 |h,d::ds=>d<=h/\dk (d+1) ds
theorem lV:∀(B:Za4) (h:Nat),(∀k,k<B.9->dAt B k<=if k=0 then h else dAt B (k-1)+1)->dk h B
 |[],_,_=>trivial
 |d::B,h,hh=>⟨hh 0 (by simp),lV B (d+1) λk hk=>by
  have:=hh (k+1) (by simp;exact hk);rw[if_neg ()] at this
  cases k with
  |zero=>exact this
  |succ k=>exact this⟩
theorem Zm {ds:Za4}(h:Dok ds){k:Nat}(hk:k<ds.9):∀d,k+1+d<=Jt ds k->(way ds (k+1+d))[dAt ds k+1]?=mn (k:Int)
 |0,_=>by
  have hl:=Bq h k ();have hd:=h k hk;show((way ds k).take (dAt ds k+1)++[(k:Int)])[dAt ds k+1]?=_;rw[fg (by rw[fk];lia),fk,iu (),jx];rfl
 |d+1,hd=>by
  have ih:=Zm h hk d ();obtain⟨a,b,c,_⟩:=O9 (ds:=ds) hk;have hl:=Bq h (k+1+d) ();have h2:=h (k+1+d) ();have h3:=Agg h hk (k+1+d) () ();show((way ds (k+1+d)).take (dAt ds (k+1+d)+1)++[((k+1+d:Nat):Int)])[dAt ds k+1]?=_;rw[f7 (by rw[fk];lia),ic ()];exact ih
theorem Ads {ds:Za4}(h:Dok ds){k:Nat}(hk:k<ds.9)(he:Jt ds k<ds.9):dAt ds (Jt ds k)<=dAt ds k:=by
 obtain⟨a,b,c,d⟩:=O9 (ds:=ds) hk;have h1:=d he;have h2:=Zm h hk (Jt ds k-(k+1)) ();rw[show k+1+(Jt ds k-(k+1))=Jt ds k by lia] at h2;have h3:=G0 h he
 by_cases hlt:dAt ds (Jt ds k)<=dAt ds k
 .exact hlt
 .exfalso
  by_cases e:dAt ds (Jt ds k)=dAt ds k+1
  .rw[e,h2] at h3
   have:=fc h3;lia
  .have:=Rh h _ _ _ _ _ b (show dAt ds k+1<dAt ds (Jt ds k) by lia) h2 h3
   lia
theorem Adw {ds:Za4}(h:Dok ds){k j:Nat}(hk:k<ds.9)(h1:k<j)(h2:j<Jt ds k):eld ds j=(k:Int)↔dAt ds j=dAt ds k+1:=by
 obtain⟨a,b,c,d⟩:=O9 (ds:=ds) hk;have h3:=Zm h hk (j-(k+1)) ();rw[show k+1+(j-(k+1))=j by lia] at h3;have h4:=G0 h (show j<ds.9 by lia)
 constructor
 .intro e
  obtain⟨v,hv,_,hd⟩:=E7 h (show j<ds.9 by lia) ();obtain rfl:v=k:=()
  exact hd
 .intro e
  rw[e,h3] at h4;exact(fc h4).symm
def hg (l:Za5)(i:Nat):Int:=2*((l.take i).count MK:Int)-i
def GAt (ds:Za4)(ko:Option Nat)(place a off:Nat)(top:Int):Prop:=match ko with
 |some k=>k<ds.9/\off=dAt ds k+1/\top=(k:Int)/\k<a/\a<=Jt ds k/\(Bk ds a k).9=place/\(a=Jt ds k\/a<Jt ds k/\eld ds a=(k:Int))
 |none=>off=0/\top=-1/\a<=ds.9/\(Bk ds a (-1)).9=place/\(a=ds.9\/a<ds.9/\eld ds a=-1)
theorem GAt.ok {ds:Za4}(h:Dok ds){ko:Option Nat}{place a off:Nat}{top:Int}(g:GAt ds ko place a off top):a<=ds.9/\off<=opn ds a/\(a<ds.9->dAt ds a<=off)/\(way ds a)[off]?=mn top:=by
 cases ko with
 |none=>
  obtain⟨rfl,rfl,h3,h4,h5⟩:=g;refine{h3,gy _,λhlt=>?_,Ke h a h3};rcases h5 with h5|h5
  .lia
  .rw[Zk h hlt h5.2]
   exact d8 _
 |some k=>
  obtain⟨hk,rfl,rfl,h3,h4,h5,h6⟩:=g;obtain⟨e1,e2,_⟩:=O9 (ds:=ds) hk;have hw:=Zm h hk (a-(k+1)) ();rw[show k+1+(a-(k+1))=a by lia] at hw;have hl:=Bq h a ();have hlt:=(fq.mp hw).1;refine{(),(),λhlt=>?_,hw};rcases h6 with h6|h6
  .have:=Ads h hk ()
   rw[<-h6] at this;lia
  .exact oz ((Adw h hk h3 h6.1).mp h6.2)
end _W
end
section
namespace _L
open PySem PySem.Spec PyProof.Rows
section
variable {X:Cx} {e a b o value:jk} {es:List jk} {te ta tb tv:TE} {t:TA} {pos pos':Pos} {x f:Str}
theorem tpa (ha:PE X e te)(hr:PA X es t)(hs:autoParam (nX e=MK) QD):PA X (e::es) (Yt te t):=Aj3 ha hr hs
theorem tix {r:R2}(hr:IxR X r)(ha:PE X a ta)(hb:PE X b tb)(hs:qY b:=by exact λ_ _=>rfl):PE X (.Subscript a b pos) (tOp r ta tb):=Ai0 hr ha hb hs
theorem tpc {r:R2}(ho:OpR X (compareOp op) r)(ha:PE X a ta)(hb:PE X b tb)(hm:behindInMarks op b=ML:=by exact yQ _):PE X (.Compare a [op] [b] pos) (tOp r ta tb):=Ada ho ha hb hm
theorem ttc {r:R2}(ho:OpR X (compareOp op) r)(ha:PE X a ta)(hb:PE X b tb)(hm:behindInMarks op b=ML:=by exact yQ _):PT X (.Compare a [op] [b] pos) (Abd (tOp r ta tb)):=Th ho ha hb hm
theorem tfl (he:PE X e ta)(hb:autoParam (attributeBase e f X.env (eval e X.env)=eval e X.env) QD):PE X (.Attribute e f pos) (Ado X.K ta f):=wI he hb
theorem tsf (ha:PE X o ta)(hv:PE X value tv)(hs:autoParam (swapsWith value (mn (.Attribute o f pos')) pos.line X.env=pure ML) QD):PS X (.Assign [.Attribute o f pos'] value pos) (Agi X.K ta tv f):=Afm ha hv hs
theorem tst (i:Nat)(hN:X.N.Nodup)(he:PE X e te)(hi:autoParam (X.N[i]?=mn x) QD)(hx:Loc X.env.scope x:=by exact FU rfl)(hs:autoParam (swapsWith e (mn (.Name x pos')) pos.line X.env=pure ML) QD)(hf:autoParam (X.fn x=MK\/X.env.scope.names.lookup x=mn .local) QH) :
  PS X (.Assign [.Name x pos'] e pos) (pQ te (Eg i)):=Jg hN hi hx he hs hf
theorem tgn (i:Nat)(hN:X.N.Nodup)(hi:autoParam (X.N[i]?=mn x) QD)(hx:Loc X.env.scope x:=by exact FU rfl)(hf:autoParam (X.fn x=MK\/X.env.scope.names.lookup x=mn .local) QH):PG X (.Name x pos) (Eg i):=Og hN hi hx hf
theorem tau (i:Nat){op:DK}{ti:TIp}(hN:X.N.Nodup)(he:PE X e te)(ho:PIp X op ti)(hi:autoParam (X.N[i]?=mn x) QD)(hx:Loc X.env.scope x:=by exact FU rfl)(hf:autoParam (X.fn x=MK\/X.env.scope.names.lookup x=mn .local) QH) :
  PS X (.AugAssign (.Name x pos') op e pos) (Afu i te ti):=Ag0 hN hi hx he ho hf
end
open _W
open PySem.W
section
variable {X:Cx}
def Agv (h:ki)(v:ft)(q:Str×Int):Prop:=∃a t u o n,v=.ref a/\h.get? a=mn o/\o.cls=.type "tuple"/\o.data=.seq #[.str q.1 t,.int q.2 u] n
theorem Agv.keep {v:ft}{q:Str×Int}(x:Agv h v q)(k:∀b o,h.get? b=mn o->h'.get? b=mn o):Agv h' v q:=by
 obtain⟨a,t,u,o,n,e,g,c,d⟩:=x;exact{a,t,u,o,n,e,k _ _ g,c,d}
end
section
variable {X:Cx}
def Aih:R2:=λx y H Q=>∃a b,x=.bl a/\y=.bl b/\Q (.bl (!(a==b))) H
theorem Adf:OpR X (compareOp .IsNot) Aih:=by
 intro pins s G H x y v u Q I rx ry h;obtain⟨a,b,rfl,rfl,q⟩:=h;cases rx;cases ry;refine wpAny_isNot_plain rfl {.bl _,H,I,?_,q};cases a<;>cases b<;>rfl
end
end _L
end
section
namespace _W
def anc (ds:Za4)(k:Nat):List Int:=(way ds k).tail.take (dAt ds k)
theorem lO {ds:Za4}(h:Dok ds){a m:Nat}:∀b,a<b->b<=ds.9->(∀i,a<i->i<b->m<=dAt ds i)->(way ds b).take (m+1)=(way ds (a+1)).take (m+1)
 |0,h1,_,_=>()
 |b+1,h1,h2,hi=>by
  by_cases e:a=b
  .rw[e]
  .have hm:=hi b () ()
   have hl:=Bq h b ();have hd:=h b ();show((way ds b).take (dAt ds b+1)++[(b:Int)]).take (m+1)=_;rw[jh (by rw[fk];lia),rb,iu ()];exact lO h b () () λi h3 h4=>hi i h3 ()
theorem vF {l l':List Int}{m:Nat}(h:l.take (m+1)=l'.take (m+1)):l.tail.take m=l'.tail.take m:=by
 have e:∀l:List Int,l.tail.take m=(l.take (m+1)).tail:=λl=>by cases l<;>simp
 rw[e,e,h]
theorem Ae9 {ds:Za4}(h:Dok ds){c s v:Nat}(hc:c<=ds.9)(e:(way ds c)[s+1]?=mn (v:Int)):dAt ds v=s/\v<c/\anc ds v=(way ds c).tail.take s:=by
 obtain⟨v',hv',hlt,hd⟩:=Ku h c s _ hc e;obtain rfl:v=v':=()
 have hk:=lO h (a:=v) (m:=s) c hlt hc λi h1 h2=>gz (Tp h c s v hc e i h1 h2);have hl:=Bq h v ();have hdv:=h v ();refine{hd,hlt,?_};unfold anc;rw[hd];refine vF ?_;rw[hk];show _=((way ds v).take (dAt ds v+1)++[(v:Int)]).take (s+1);rw[jh (by rw[fk];lia),rb,iu ()]
end _W
end
namespace _K
open PySem _L _W
theorem jW:Aj ["thing"] ["thing"] (Ad N1):=by k_cls
theorem Zt:Aj ["thing","low","high"] ["thing","low","high"] (Ad Mb):=by k_cls
theorem eP:Aj ["bit"] ["bit"] (Ad Lp):=by k_cls
theorem Vt:Aj ["place","greatest"] ["place","greatest"] (Ad Jn):=by k_cls
theorem Rb:Aj ["low","high","greatest"] ["low","high","greatest"] (Ad Gu):=by k_cls
theorem K5:Aj ["word","ones"] ["word"] (Ad Re):=by k_cls
theorem Mi:Aj ["four","nth","places"] ["four","nth"] (Ad Gh):=by k_cls
theorem Rc:A7 ["four","nth","places"] (Ad Gh) {.function,[(".0",.local),("place",.local),("four",.free)],ML,ML,[]} "place" ["place","four"] [0]:=by k_cls
theorem F7:Aj ["word","nth","low","ones"] ["word","nth"] (Ad Ry):=by k_cls
theorem uQ:Aj ["thing"] ["thing"] (Ad W5):=by k_cls
theorem pW:Aj ["signs"] ["signs"] (Ad Ru):=by k_cls
theorem kF:Aj ["text"] ["text"] (Ad K7):=by k_cls
theorem Xf:A7 ["text"] (Ad K7) {.function,[(".0",.local),("low",.local),("word_of",.globalImplicit),("WORD_BITS",.globalImplicit),("text",.free)],ML,ML,[]} "low" ["low","text"] [0]:=by k_cls
theorem jT:Aj ["word"] ["word"] (Ad K9):=by k_cls
theorem Xu:A7 ["word"] (Ad K9) {.function,[(".0",.local),("low",.local),("SIGNS_OF_FOUR",.globalImplicit),("word",.free)],ML,ML,[]} "low" ["low","word"] [0]:=by k_cls
theorem Z2:Aj ["self","text"] ["self","text"] (Ad Lq):=by k_cls
theorem Zs:Aj ["self"] ["self"] (Ad L3):=by k_cls
theorem Xe:Aj ["self"] ["self"] (Ad Kr):=by k_cls
theorem Dx:Aj ["self","low","high","first","beyond","signs","begin"] ["self","low","high"] (Ad Fx):=by k_cls
theorem O3:A7 ["self","low","high","first","beyond","signs","begin"] (Ad Fx) {.function,[(".0",.local),("word",.local),("signs_of",.globalImplicit)],ML,ML,[]} "word" ["word"] []:=by k_cls
theorem Gj:Aj ["low","high","holds","middle"] ["low","high","holds"] (Ad K6):=by k_cls
theorem Gy:Aj ["numbers","sums","number"] ["numbers"] (Ad Hm):=by k_cls
theorem Iq:Aj ["words","blocks"] ["words"] (Ad Dn):=by k_cls
theorem Nc:A7 ["words","blocks"] (Ad Dn) {.function,[(".0",.local),("low",.local),("BLOCK_WORDS",.globalImplicit),("words",.free)],ML,ML,[]} "low" ["low","words"] [0]:=by k_cls
theorem Nf:A7 ["words","blocks"] (Ad Dn) {.function,[(".0",.local),("block",.local),("sum",.globalImplicit)],ML,ML,[]} "block" ["block"] []:=by k_cls
theorem Nd (QP:qh):A7 ["block"] QP {.function,[(".0",.local),("word",.local),("ones_in",.globalImplicit)],ML,ML,[]} "word" ["word"] []:={rfl,by decide +kernel,by decide +kernel,(λy hy h=>absurd h ((by decide +kernel:∀y∈({.function,[(".0",.local),("word",.local),("ones_in",.globalImplicit)],ML,ML,[]}:qh).names,y.2≠qj) y hy)),by decide +kernel,rfl,rfl,rfl,by decide +kernel}
theorem Vv:Aj ["self","bits"] ["self","bits"] (Ad Jq):=by k_cls
theorem Be:Aj ["self","place","number","block","ones","word","rest"] ["self","place"] (Ad Eu):=by k_cls
theorem Li:Aj ["self","bit","place","ones"] ["self","bit","place"] (Ad Hk):=by k_cls
theorem Fa:Aj ["self","bit","block","ones"] ["self","bit","block"] (Ad Dk):=by k_cls
theorem Nh:Aj ["self","bit"] ["self","bit"] (Ad Fi):=by k_cls
theorem Lv:Aj ["self","bit","nth"] ["self","bit","nth"] (Ad Bt):=by k_cls
theorem Ju:A7 ["self","bit","nth"] (Ad Bt) {.function,[("block",.local),("bit",.free),("nth",.free),("self",.free)],ML,ML,[]} "block" ["block","bit","nth","self"] [1,2,0]:=by k_cls
theorem B1:Aj ["self","bit","number","nth","flip","inside"] ["self","bit","number","nth"] (Ad Es):=by k_cls
theorem Hn:Aj ["self","bit","nth","block"] ["self","bit","nth"] (Ad F5):=by k_cls
theorem Ov:Aj ["things","signs"] ["things"] (Ad Ja):=by k_cls
theorem Vk:Dj ["things","signs"] (Ad Ja) {.function,[(".0",.local),("ahead",.local),("own",.local)],ML,ML,[]} "ahead" "own" ["ahead","own"] []:=by k_cls
theorem Fv:Aj ["order","met","place","number"] ["order"] (Ad Jo):=by k_cls
theorem Dq:Aj ["order","rounds","met","least","places","place"] ["order"] (Ad L8):=by k_cls
theorem Fe:Aj ["order","step","shortcuts","places","marked"] ["order","step"] (Ad Hg):=by k_cls
theorem Ot:Aj ["self","order","step"] ["self","order","step"] (Ad Cd):=by k_cls
theorem Ky:Aj ["elders","path","k","elder"] ["elders"] (Ad Rk):=by k_cls
theorem Kn:Aj ["elders","depths","elder"] ["elders"] (Ad Lo):=by k_cls
theorem Uc:Aj ["depths"] ["depths"] (Ad Dy):=by k_cls
theorem Ew:Aj ["elders","many","elder"] ["elders"] (Ad Fk):=by k_cls
theorem T3:Aj ["many"] ["many"] (Ad Gn):=by k_cls
theorem Rp:A7 ["many"] (Ad Gn) {.function,[(".0",.local),("one",.local)],ML,ML,[]} "one" ["one"] []:=by k_cls
theorem Ko:Aj ["depths","many","depth"] ["depths"] (Ad Ly):=by k_cls
theorem Pn:Aj ["elders","order","many"] ["elders","order"] (Ad Iv):=by k_cls
theorem Va:A7 ["elders","order","many"] (Ad Iv) {.function,[(".0",.local),("k",.local),("many",.free)],ML,ML,[]} "k" ["k","many"] [2]:=by k_cls
theorem Le:Aj ["depths","many","depth"] ["depths"] (Ad Lw):=by k_cls
theorem Rx:Aj ["self","number"] ["self","number"] (Ad G2):=by k_cls
theorem Ch:Aj ["self","number","steps"] ["self","number","steps"] (Ad Ex):=by k_cls
theorem Ct:Aj ["self","number","left"] ["self","number"] (Ad Ec):=by k_cls
theorem Ds:Aj ["self","depths","rest","number"] ["self","depths"] (Ad D6):=by k_cls
theorem Eo:Aj ["self","elders","wood","depths","order"] ["self","elders"] (Ad Gw):=by k_cls
theorem Cc:Aj ["self","firsts","elders","waiting","one","number"] ["self"] (Ad Ck):=by k_cls
theorem Mh:A7 ["self","firsts","elders","waiting","one","number"] (Ad Ck) {.function,[(".0",.local),("k",.local),("self",.free)],ML,ML,[]} "k" ["k","self"] [0]:=by k_cls
theorem Lx:A7 ["self","firsts","elders","waiting","one","number"] (Ad Ck) {.function,[(".0",.local),("k",.local)],ML,ML,[]} "k" ["k"] []:=by k_cls
theorem Lz:A7 ["self","firsts","elders","waiting","one","number"] (Ad Ck) {.function,[(".0",.local),("k",.local),("number",.free)],ML,ML,[]} "k" ["k","number"] [5]:=by k_cls
theorem Fd:Aj ["text","begin","height","heights","sign"] ["text","begin"] (Ad K0):=by k_cls
theorem F1:Aj ["text","height","place","sign"] ["text"] (Ad Mp):=by k_cls
theorem Sq:Aj ["self","length","table","often_least"] ["self","length","table","often_least"] (Ad Hv):=by k_cls
theorem L1:Aj ["self","place"] ["self","place"] (Ad Ev):=by k_cls
theorem Pc:Aj ["self","place"] ["self","place"] (Ad Gf):=by k_cls
theorem P8:Aj ["self","low","high"] ["self","low","high"] (Ad G1):=by k_cls
theorem Su:Aj ["self"] ["self"] (Ad Ht):=by k_cls
theorem E2:Aj ["self","text","lows","begins","heights","table"] ["self","text"] (Ad Du):=by k_cls
theorem Ss:A7 ["self","text","lows","begins","heights","table"] (Ad Du) {.function,[(".0",.local),("low",.local),("self",.free)],ML,ML,[]} "low" ["low","self"] [0]:=by k_cls
theorem Sr:Dj ["self","text","lows","begins","heights","table"] (Ad Du) {.function,[(".0",.local),("low",.local),("begin",.local),("heights_of",.globalImplicit),("STRETCH_BITS",.globalImplicit),("text",.free)],ML,ML,[]} "low" "begin" ["low","begin","text"] [1]:=by k_cls
theorem Sy:Dj ["self","text","lows","begins","heights","table"] (Ad Du) {.function,[(".0",.local),("begin",.local),("some",.local),("min",.globalImplicit),("max",.globalImplicit)],ML,ML,[]} "begin" "some" ["begin","some"] []:=by k_cls
theorem Sz:A7 ["self","text","lows","begins","heights","table"] (Ad Du) {.function,[(".0",.local),("some",.local),("min",.globalImplicit)],ML,ML,[]} "some" ["some"] []:=by k_cls
theorem Kf:Aj ["elders","signs","still_opened","depth"] ["elders"] (Ad T2):=by k_cls
theorem G6:Aj ["text","elders","path","sign"] ["text"] (Ad Lr):=by k_cls
theorem Rs:Aj ["self","pairs"] ["self","pairs"] (Ad Gv):=by k_cls
theorem Vd:Aj ["self","elders"] ["self","elders"] (Ad Jp):=by k_cls
theorem Sw:Aj ["self"] ["self"] (Ad Hu):=by k_cls
theorem Nz:Aj ["self"] ["self"] (Ad F2):=by k_cls
theorem Gb:Aj ["elders","depths","rest"] ["elders"] (Ad Fh):=by k_cls
theorem N9:Dj ["elders","depths","rest"] (Ad Fh) {.function,[(".0",.local),("k",.local),("depth",.local),("MARK_STEP",.globalImplicit),("rest",.free)],ML,ML,[]} "k" "depth" ["k","depth","rest"] [2]:=by k_cls
theorem Lh:Aj ["self","elders","wood"] ["self","elders"] (Ad Hy):=by k_cls
theorem T8:Aj ["self"] ["self"] (Ad Jk):=by k_cls
theorem C5:Aj ["self","many","elders","waiting","k"] ["self"] (Ad Ep):=by k_cls
theorem Nl:A7 ["self","many","elders","waiting","k"] (Ad Ep) {.function,[(".0",.local),("group",.local),("len",.globalImplicit)],ML,ML,[]} "group" ["group"] []:=by k_cls
theorem W9:Aj ["text","heights"] ["text"] (Ad P7):=by k_cls
theorem Ie:Aj ["self","length","table","often_least"] ["self","length","table","often_least"] (Ad Dd):=by k_cls
theorem Nu:Aj ["self","signs","heights"] ["self","signs"] (Ad K4):=by k_cls
theorem Kx:Aj ["text","many","cuts"] ["text"] (Ad Gp):=by k_cls
theorem Vr:A7 ["text","many","cuts"] (Ad Gp) {.function,[(".0",.local),("number",.local),("len",.globalImplicit),("many",.free),("text",.free)],ML,ML,[]} "number" ["number","many","text"] [1,0]:=by k_cls
theorem Us:Dj ["text","many","cuts"] (Ad Gp) {.function,[(".0",.local),("low",.local),("high",.local),("Piece",.globalImplicit),("text",.free)],ML,ML,[]} "low" "high" ["low","high","text"] [0]:=by k_cls
theorem F0:Aj ["self","pieces","heights","table"] ["self","pieces"] (Ad B2):=by k_cls
theorem Nn:Dj ["self","pieces","heights","table"] (Ad B2) {.function,[(".0",.local),("knots",.local),("begin",.local)],ML,ML,[]} "knots" "begin" ["knots","begin"] []:=by k_cls
theorem Na:Dj ["self","pieces","heights","table"] (Ad B2) {.function,[(".0",.local),("height",.local),("piece",.local)],ML,ML,[]} "height" "piece" ["height","piece"] []:=by k_cls
theorem Nm:A7 ["self","pieces","heights","table"] (Ad B2) {.function,[(".0",.local),("piece",.local),("len",.globalImplicit)],ML,ML,[]} "piece" ["piece"] []:=by k_cls
theorem Nk:A7 ["self","pieces","heights","table"] (Ad B2) {.function,[(".0",.local),("piece",.local)],ML,ML,[]} "piece" ["piece"] []:=by k_cls
theorem Nj:A7 ["self","pieces","heights","table"] (Ad B2) {.function,[(".0",.local),("piece",.local)],ML,ML,[]} "piece" ["piece"] []:=by k_cls
theorem Kb:Aj ["self","place"] ["self","place"] (Ad Bf):=by k_cls
theorem Hx:A7 ["self","place"] (Ad Bf) {.function,[("number",.local),("place",.free),("self",.free)],ML,ML,[]} "number" ["number","place","self"] [1,0]:=by k_cls
theorem La:Aj ["self","place"] ["self","place"] (Ad Bi):=by k_cls
theorem Ig:A7 ["self","place"] (Ad Bi) {.function,[("number",.local),("place",.free),("self",.free)],ML,ML,[]} "number" ["number","place","self"] [1,0]:=by k_cls
theorem C3:Aj ["self","low","high","first","signs","begin"] ["self","low","high"] (Ad Df):=by k_cls
theorem Ks:A7 ["self","low","high","first","signs","begin"] (Ad Df) {.function,[(".0",.local),("piece",.local)],ML,ML,[]} "piece" ["piece"] []:=by k_cls
theorem Ih:Aj ["self"] ["self"] (Ad Dc):=by k_cls
theorem J6:Aj ["self","pairs"] ["self","pairs"] (Ad Dr):=by k_cls
theorem Ld:Aj ["self"] ["self"] (Ad Eb):=by k_cls
theorem Ii:Aj ["self"] ["self"] (Ad C7):=by k_cls
theorem U0:Aj ["self","elders"] ["self","elders"] (Ad Jh):=by k_cls
theorem Dw:Aj ["one","other","elders","others","fewer","unlike"] ["one","other"] (Ad F4):=by k_cls
theorem Od:A7 ["one","other","elders","others","fewer","unlike"] (Ad F4) {.function,[(".0",.local),("k",.local),("elders",.free),("others",.free)],ML,ML,[]} "k" ["k","elders","others"] [2,3]:=by k_cls
theorem Xn:Aj ["one","other"] ["one","other"] (Ad K2):=by k_cls
theorem Vi:Aj ["_law_script","_law_k"] ["_law_script","_law_k"] (Ad Jl):=by k_cls
theorem O8:Aj ["_law_cell","_law_k","_law_number"] ["_law_cell","_law_k"] (Ad Ml):=by k_cls
theorem Dt:Aj ["_law_cell","_law_many","_law_elders","_law_way_here","_law_k","_law_at"] ["_law_cell","_law_many"] (Ad Lu):=by k_cls
theorem Cu:Aj ["_law_script","_law_many","_law_elders","_law_way_here","_law_k","_law_number","_law_size","_law_turn","_law_at"] ["_law_script","_law_many"] (Ad Mf):=by k_cls
theorem Cn:Aj ["_law_elders","_law_times","_law_hung","_law_found","_law_turn","_law_size","_law_base"] ["_law_elders","_law_times","_law_hung"] (Ad F3):=by k_cls
theorem Pg:A7 ["_law_elders","_law_times","_law_hung","_law_found","_law_turn","_law_size","_law_base"] (Ad F3) {.function,[(".0",.local),("_law_elder",.local),("_law_base",.free),("_law_size",.free)],ML,ML,[]} "_law_elder" ["_law_elder","_law_base","_law_size"] [6,5]:=by k_cls
theorem Fp:Aj ["_law_script","_law_most","_law_large","_law_number","_law_many","_law_elders"] ["_law_script","_law_most","_law_large"] (Ad N3):=by k_cls
theorem gX:Aj ["_law_elders","_law_kind"] ["_law_elders","_law_kind"] (Ad Nw):=by k_cls
theorem Ki:Aj ["_law_elders","_law_way_here","_law_k"] ["_law_elders"] (Ad P0):=by k_cls
theorem Dz:Aj ["_law_elders","_law_cell","_law_left","_law_found","_law_turn","_law_way_here"] ["_law_elders","_law_cell"] (Ad Kk):=by k_cls
theorem Pf:Aj ["_law_one","_law_other","_law_k"] ["_law_one","_law_other"] (Ad L9):=by k_cls
theorem Hd:Aj ["_law_script","_law_elders","_law_cell","_law_second_here","_law_one","_law_other","_law_due","_law_first_here","_law_behind","_law_same","_law_found"] ["_law_script"] (Ad Yy):=by k_cls
def Aq (l:Za5):Str:={(l.map λb=>if b then 49 else 48).6}
def Aic:Option Nat->V
 |none=>.non
 |some p=>.int p
theorem qC (m:Nat):n6 (m:Int) 15=((m%16:Nat):Int):=by
 unfold n6;rw[decide_eq_true (mf m),decide_eq_true (by decide:(0:Int)<=15)];show((m &&& 15:Nat):Int)=_;rw[show(15:Nat)=2 ^ 4-1 by decide,ux]
theorem Ack (m:Nat):(m:Int)/2 ^ (4:Int).toNat=((m/16:Nat):Int):=by
 show(m:Int)/16=_;lia
theorem sP (r:Nat)(h:r<16):atI (Y9.map λn:Nat=>V.int (n:Int)) (r:Int)=mn (.int (pc r)):=by
 refine Bg ?_;rw[fj,yC r h];rfl
theorem Ajw (m:Nat):n6 (m:Int) 1=((m%2:Nat):Int):=by
 unfold n6;rw[decide_eq_true (mf m),decide_eq_true (by decide:(0:Int)<=1)];show((m &&& 1:Nat):Int)=_;rw[Nat.and_one_is_mod]
theorem Ar (l:Za5):(Aq l).9=l.9:=by
 show(l.map _).toArray.size=_;rw[gh,d4]
theorem Pz (b:Bool)(k:Nat):Uo (sgn (if b then 49 else 48)) k=Aq (d9 k b):=by
 refine Il ?_;show(d9 k [if b then 49 else 48]).flatten.toArray.toList=((d9 k b).map _).toArray.toList;rw[m8,m8,ph]
 induction k with
 |zero=>rfl
 |succ k ih=>
  rw[ja,im,ih,ja];rfl
theorem Di (l:Za5):(Aq l).cps.toList=l.map λb=>if b then 49 else 48:=by
 show(l.map _).toArray.toList=_;rw[m8]
theorem nN (l:Za5):IB.bits (Aq l).cps.toList:=λc hc=>by
 rw[Di] at hc;obtain⟨b,_,rfl⟩:=jq.mp hc;cases b
 .exact .inl rfl
 .exact .inr rfl
theorem K3 (a b:Za5):Aq a++Aq b=Aq (a++b):=by
 refine Il ?_;show((Aq a).cps++(Aq b).cps).7=_;rw[jl,Di,Di,Di,fb]
theorem Nq {α:Type}(l:List α)(a b:Nat):(l.drop (min a l.9)).take (min b l.9-min a l.9)=(l.drop a).take (b-a):=by
 by_cases h:a<=l.9
 .rw[iu h]
  by_cases h2:b<=l.9
  .rw[iu h2]
  .rw[rj (),fv (by rw[i9];lia),fv (by rw[i9];lia)]
 .have e:min a l.9=l.9:=()
  rw[e,jj (d8 _),jj ()];simp
theorem Hc (l:Za5)(a b:Nat):Z0 (Aq l) (mn (a:Int)) (mn (b:Int))=Aq ((l.drop a).take (b-a)):=by
 refine Il ?_;show(CW _ (KO _ _)).toArray.toList=_;rw[m8,_T.sIx_nat,_T.sIx_nat];have e:(Aq l).cps.size=l.9:=Ar l;rw[e,Di,Di,n9,wo];have:=Nq (l.map λb=>if b=MK then 49 else 48) a b;rw[d4] at this;exact this
theorem Ol (xs:List V)(a b:Nat):Ha xs (mn (a:Int)) (mn (b:Int))=(xs.drop a).take (b-a):=by
 unfold Ha;rw[_T.sIx_nat,_T.sIx_nat];exact Nq xs a b
theorem Rw (l:Za5):Rv (Aq l) 49=l.count MK/\Rv (Aq l) 48+Rv (Aq l) 49=l.9:=by
 unfold Rv;rw[Di]
 induction l with
 |nil=>exact⟨rfl,rfl⟩
 |cons b r ih=>cases b<;>simp[sf]<;>lia
theorem Agx (l:Za5):IB.v2 (Xs (Aq l)).cps.toList=val l:=by
 show IB.v2 (Aq l).cps.toList.reverse.toArray.toList=_;rw[m8,Di,<-List.map_reverse];unfold IB.v2;rw[List.foldl_map];have e:=sZ l 0;rw[IN,k5] at e;rw[<-e];congr 1
 funext a b
 cases b<;>rfl
abbrev nV (ns:Za4):List V:=ns.map λn:Nat=>V.int n
theorem Zf (ns:Za4):nV ns=(ns.map λn:Nat=>(n:Int)).map V.int:=by rw[jm];rfl
theorem Jr (f:Nat->Nat)(i:Nat):nV ((en (i+1)).map f)=nV ((en i).map f)++[V.int (f i:Nat)]:=by
 unfold nV;rw[iz,fb,fb];rfl
theorem zT (ns:Za4):(ns.map λn:Nat=>(n:Int)).sum=(ns.sum:Nat):=by
 induction ns with
 |nil=>rfl
 |cons n r ih=>rw[gt,n8,ih,n8];lia
theorem Ui (n d:Nat)(hd:0<d):C1 0 (n:Int) (d:Int)=(n+d-1)/d:=by
 unfold C1;rw[show(n:Int)-0+(d:Int)-1=((n+d-1:Nat):Int) by lia,<-rl,ig]
theorem few (h:n<=1000):n<=sizeLine:=gz (Em h)
theorem Ag (h:n<=100000):n<sizeLine:=sv h (by decide)
theorem eH {l:Za5}{i c:Nat}(h:(Aq l).cps[i]?=mn c):∃b,l[i]?=mn b/\c=if b then 49 else 48:=by
 have e:(Aq l).cps.toList[i]?=mn c:=by rw[ge];exact h
 rw[Di,fj] at e
 cases hb:l[i]? with
 |none=>rw[hb] at e;cases e
 |some b=>
  rw[hb] at e;exact{b,rfl,(fc e).symm}
theorem Ci {α:Type}{l:List α}{i:Nat}{b:α}(h:l[i]?=mn b):i<l.9:=(fq.mp h).1
def isI:V->Bool
 |.int _=>MK
 |_=>ML
theorem Tr {l:Za5}{j:Nat}(h:j<B7 l.9):atI (nV (wordsOf l)) (j:Int)=mn (.int (val (A4 l j):Nat)):=by
 refine Bg ?_;unfold nV _W.wordsOf;rw[fj,fj,gr h];rfl
theorem En {H5 H6:Hp}{xb dxb:ee}(nb1:H5 xb=tp)(nb2:H5 dxb=tp)(s6:SameBut xb (upd (upd H5 dxb (.own xb)) xb (.ins C dxb [])) H6):Ah H5 H6:=λb u e=>by
 have e1:b≠xb:=Am e nb1;have e2:b≠dxb:=Am e nb2;exact s6 _ _ e1 (by rw[Al e1,Al e2];exact e)
theorem Vm (r:Int)(n:Nat):∃k:Nat,r%((n:Int)+1)=(k:Int)/\k<=n:=by
 have h0:=vi r (show((n:Int)+1)≠0 by lia);have h1:=wf r (show(0:Int)<(n:Int)+1 by lia);exact{(r%((n:Int)+1)).toNat,(),()}
theorem xV (m k:Nat){j:Int}(h:j=(k:Int)):n6 (m:Int) (1*2 ^ j.toNat-1)=((m%2 ^ k:Nat):Int):=by
 subst h;rw[ig,Int.one_mul];have e:((2:Int) ^ k-1)=((2 ^ k-1:Nat):Int):=by
  have:1<=2 ^ k:=Nat.one_le_two_pow;rw[Int.natCast_sub this,Int.natCast_pow];rfl
 rw[e];unfold n6;rw[decide_eq_true (mf m),decide_eq_true (mf (2 ^ k-1))];show((m &&& (2 ^ k-1):Nat):Int)=_;rw[ux]
theorem Adh (h:n<2 ^ 32):n ||| 4294967295=4294967295:=by
 refine xt λi=>?_;rw[Nat.testBit_or,show(4294967295:Nat)=2 ^ 32-1 by decide,BG]
 by_cases hi:i<32
 .rw[decide_eq_true hi,Bool.or_true]
 .rw[decide_eq_false hi,Bool.or_false]
  exact Nat.testBit_lt_two_pow (gq h (EJ (by decide) ()))
theorem mZ (m k:Nat):xk (m:Int) (k:Int)=((m ||| k:Nat):Int)-((m &&& k:Nat):Int):=by
 have hn:∀x:Int,o0 (o0 x)=x:=λx=>by unfold o0;lia
 have ho:GC (m:Int) (k:Int)=((m ||| k:Nat):Int):=by
  unfold GC n6;rw[decide_eq_false (show ¬(0:Int)<=o0 (m:Int) by unfold o0;lia),decide_eq_false (show ¬(0:Int)<=o0 (k:Int) by unfold o0;lia)];show o0 (o0 _)=_;rw[hn,hn,hn,ig,ig]
 have ha:n6 (m:Int) (k:Int)=((m &&& k:Nat):Int):=by
  unfold n6;rw[decide_eq_true (mf m),decide_eq_true (mf k)];rfl
 unfold xk;rw[ho,ha]
theorem X7:∀w:Za5,val w+val (w.map λb=>!b)+1=2 ^ w.9
 |[]=>rfl
 |b::r=>by
  have:=X7 r;rw[gt,f8,xg];cases b<;>simp[val]<;>lia
theorem Ux (b:Bool)(l:Za5)(j:Nat):xk ((val (A4 l j):Nat):Int) ((Pe b:Nat):Int)=((val (A4 l j) ^^^ Pe b:Nat):Int):=by
 have hlt:val (A4 l j)<2 ^ 32:=gq (Aac _) (EJ (by decide) (by unfold A4;rw[fk];lia));have h1:=Mt MK l j;have h0:=Mt b l j;rw[mZ,h0]
 cases b with
 |true=>
  rw[<-h0];show(((val (A4 l j) ||| 0:Nat):Int)-((val (A4 l j) &&& 0:Nat):Int))=((val (A4 l j) ^^^ 0:Nat):Int);rw[Nat.or_zero,Nat.and_zero,IP];lia
 |false=>
  show(((val (A4 l j) ||| 4294967295:Nat):Int)-((val (A4 l j) &&& 4294967295:Nat):Int))=_;rw[Adh hlt,show(4294967295:Nat)=2 ^ 32-1 by decide,ux,Nat.mod_eq_of_lt hlt];have hc:=X7 ((en 32).map λp=>l.getD (32*j+p) ML==MK);rw[<-h1,jm,d4,fm] at hc;have e:((en 32).map ((λb=>!b) ∘ λp=>l.getD (32*j+p) ML==MK))=(en 32).map λp=>l.getD (32*j+p) ML==ML:=jb λp _=>by
   show(!(l.getD (32*j+p) ML==MK))=_;cases l.getD (32*j+p) ML<;>rfl
  rw[e] at hc;have e0:val (A4 l j) ^^^ Pe MK=val (A4 l j):=IP _;rw[e0] at hc;lia
theorem Dh (l:Za4):(nV l).9=l.9:=by unfold nV;rw[d4]
theorem tE {l:Za4}{i:Nat}(h:l[i]?=mn n):(nV l)[i]?=mn (.int (n:Nat)):=by
 unfold nV;rw[fj,h];rfl
theorem Afp (l m:Za4):nV l++nV m=nV (l++m):=by unfold nV;rw[fb]
theorem A9 {a:ee}{o:HO}(s:Ah H H1)(h:H a=tp):Ah H (upd H1 a o):=λb u e=>by
 rw[Al (Am e h)];exact s _ _ e
theorem Xp {K:d5}:kitOne K (.type "list") (.type "list")=mn MK:=by rfl
theorem Sd {l:List Int}{i:Nat}{n:Int}(h:l[i]?=mn n):(l.map V.int)[i]?=mn (.int n):=by
 rw[fj,h];rfl
theorem Ny {l:List Int}{i:Nat}{x:V}(h:(l.map V.int)[i]?=mn x):∃n,l[i]?=mn n/\x=.int n:=by
 rw[fj] at h
 cases e:l[i]? with
 |none=>rw[e] at h;cases h
 |some n=>
  rw[e] at h;exact{n,rfl,(fc h).symm}
theorem R1 {l:List Int}{m:Nat}{x:Int}(h0:0<m)(h:l[m-1]?=mn x):atI ((l.take m).map V.int) (-1)=mn (.int x):=by
 have hm:=Ci h;have e:l.take m=l.take (m-1)++[x]:=by
  rw[show m=m-1+1 by lia,ie,h];rfl
 rw[e,fb];exact Ow _ _
theorem Jv {l:List Int}{m:Nat}(h:m<=l.9):((l.take m).map V.int).9=m:=by rw[d4,fk];lia
theorem X6 {l:List Int}{m:Nat}(h:m<=l.9):((l.take m).map V.int).dropLast=(l.take (m-1)).map V.int:=by
 rw[<-List.map_dropLast,List.dropLast_eq_take,rb,fk];congr 2;lia
def rT (H:Hp)(p:ee):Nat:=match H p with|some (.lst xs)=>xs.9|_=>0
theorem O4 {p:ee}(h:H p=mn (.lst xs)):rT H p=xs.9:=by unfold rT;rw[h]
theorem O1 {K:d5}{Q:VK}{p:ee}{ls:List (Za5)}(hl:H1 p=mn (.lst (ls.map λl=>.str (Aq l))))(hz:ls.flatten.9<=100000)(q:Q (.str (Aq ls.flatten)) H1):Aam K (.str "") [.ref p] H1 Q:=by
 refine{"",p,ls.map Aq,rfl,rfl,SqL.of ?_,?_,?_}
 .rw[hl,jm]
  rfl
 .have e:((ls.map Aq).map (·.length)).sum=ls.flatten.9:=by
   rw[x6,jm];congr 1;refine jb λl _=>?_;exact Ar l
  rw[e];show ls.flatten.9+_*0<=_;lia
 .have e:BO ("":Str) (ls.map Aq)=Aq ls.flatten:=by
   refine Il ?_;rw[Tw,jm];show((ls.map λl=>(l.map λb=>if b then 49 else 48).toArray.toList)).flatten=(ls.flatten.map _).toArray.toList;simp only[m8];rw[List.map_flatten]
  rw[e];exact q
theorem N7 {ds:Za4}(h:Dok ds):∀k,k<=ds.9->opn ds k<=k
 |0,_=>d8 _
 |k+1,hk=>by
  show dAt ds k+1<=k+1;have:=h k ();have:=N7 h k ();lia
theorem J0 {ds:Za4}{d j:Nat}(h:j<ds.9):dAt (ds++[d]) j=dAt ds j:=by
 unfold dAt jw;rw[f7 h]
theorem Mv (ds:Za4)(d:Nat):dAt (ds++[d]) ds.9=d:=by
 unfold dAt jw;rw[fg (d8 _),jx];rfl
theorem Kg {ds:Za4}{d:Nat}:∀k,k<=ds.9->opn (ds++[d]) k=opn ds k
 |0,_=>rfl
 |k+1,h=>by
  show dAt (ds++[d]) k+1=dAt ds k+1;rw[J0 ()]
theorem Oq {ds:Za4}{d:Nat}:∀k,k<=ds.9->way (ds++[d]) k=way ds k
 |0,_=>rfl
 |k+1,h=>by
  show(way (ds++[d]) k).take (dAt (ds++[d]) k+1)++[(k:Int)]=_;rw[Oq k (),J0 ()];rfl
theorem J5 {ds:Za4}{d:Nat}(h:Dok ds)(hd:d<=opn ds ds.9):Dok (ds++[d]):=λk hk=>by
 rw[d7] at hk;simp only[f8,jg] at hk
 by_cases e:k=ds.9
 .subst e
  rw[Mv,Kg _ (d8 _)];exact hd
 .rw[J0 (),Kg k ()]
  exact h k ()
theorem Ft (ds:Za4)(d:Nat):Ax (ds++[d])=Ax ds++[(way ds ds.9).getD d 0]:=by
 unfold Ax;rw[d7];show(en (ds.9+1)).map _=_;rw[iz,fb];congr 1
 .refine jb λk hk=>?_
  have hk:=iy.mp hk;unfold eld;rw[Oq k (),J0 hk]
 .show[eld (ds++[d]) ds.9]=_
  unfold eld;rw[Oq _ (d8 _),Mv]
theorem J8 (ds:Za4)(d:Nat):way (ds++[d]) (ds.9+1)=(way ds ds.9).take (d+1)++[(ds.9:Int)]:=by
 show(way (ds++[d]) ds.9).take (dAt (ds++[d]) ds.9+1)++_=_;rw[Oq _ (d8 _),Mv]
theorem Fb {ds:Za4}(h:Dok ds){k:Nat}(hk:k<=ds.9):way ds k=-1::(way ds k).tail:=by
 have e:=Ke h k hk
 cases hw:way ds k with
 |nil=>rw[hw] at e;cases e
 |cons x r=>
  rw[hw] at e;obtain rfl:=fc e;rfl
def hgt (l:Za5)(i:Nat):Int:=2*((l.take i).count MK:Int)-i
theorem On {l:Za5}{i:Nat}{b:Bool}(h:l[i]?=mn b):hgt l (i+1)=hgt l i+if b then 1 else -1:=by
 unfold hgt;rw[ie,h,qu];cases b<;>simp<;>lia
theorem Y2 {ds:Za4}{d:Nat}:∀k,k<=ds.9->Uh (ds++[d]) k=Uh ds k
 |0,_=>rfl
 |k+1,h=>by
  rw[Mz,Mz,Y2 k ()];unfold Cb;rw[Kg k (),J0 ()]
theorem Ff {row:Za5}{i:Nat}{b:Bool}(h:row[i]?=mn b):row.drop i=b::row.drop (i+1):=by
 have hi:=Ci h;rw[lh hi];rw[d6 hi] at h;rw[fc h]
theorem kP {row:Za5}(hv:Vs 0 row):∀i,i<=row.9->∃h:Nat,hgt row i=(h:Int)/\Vs h (row.drop i)/\True
 |0,_=>{0,rfl,hv,trivial}
 |i+1,hi=>by
  obtain⟨h,h1,h2,_⟩:=kP hv i ();obtain⟨b,hb⟩:∃b,row[i]?=mn b:={row[i],d6 ()};have hs:=On hb;rw[Ff hb] at h2
  cases b with
  |false=>
   obtain⟨g,rfl⟩:∃g,h=g+1:={h-1,by have:=h2.1;lia};have hs:hgt row (i+1)=hgt row i + -1:=hs;exact{g,(),h2.2,trivial}
  |true=>
   have hs:hgt row (i+1)=hgt row i+1:=hs;exact{h+1,(),h2,trivial}
theorem Zn (xs:List V)(m:Nat):Ha xs tp (mn (m:Int))=xs.take m:=by
 unfold Ha;rw[_T.sIx_nat];show(xs.drop 0).take (min m xs.9-0)=xs.take m;rw[qe,qm]
 by_cases h:m<=xs.9
 .rw[iu h]
 .rw[rj (),fv (d8 _),fv ()]
theorem iU {ds:Za4}{d:Nat}(h:Dok (ds++[d])):Dok ds/\d<=opn ds ds.9:=by
 refine{λk hk=>?_,?_}
 .have:=h k (by rw[d7];lia)
  rw[J0 hk,Kg k ()] at this;exact this
 .have:=h ds.9 (by rw[d7];simp)
  rw[Mv,Kg _ (d8 _)] at this;exact this
def shI (n:Nat)(b e:Int):Int:=if e<0 then b else e+n
def Jx (ds:Za4)(D:Nat)(es:Za4):Za4:=ds++es.map (·+D)
theorem iM (ds:Za4)(D:Nat)(es:Za4):(Jx ds D es).9=ds.9+es.9:=by unfold Jx;rw[d7,d4]
theorem Abs {ds:Za4}(h1:Dok ds){D:Nat}(hD:D<=opn ds ds.9)(es:Za4)(h2:Dok es):Dok (Jx ds D es)/\Ax (Jx ds D es)=Ax ds++(Ax es).map (shI ds.9 ((way ds ds.9).getD D 0)) /\
  (es≠[]->way (Jx ds D es) (Jx ds D es).9=(way ds ds.9).take (D+1)++(way es es.9).tail.map (λx:Int=>x+(ds.9:Int))):=by
 have hw:=Bq h1 ds.9 (d8 _)
 induction es using Jz with
 |h0=>
  have e:Jx ds D []=ds:=by unfold Jx;simp
  rw[e];exact{h1,by show Ax ds=Ax ds++[];simp,λz=>absurd rfl z}
 |h1 es d ih=>
  obtain⟨h2a,hd⟩:=iU h2;obtain⟨k1,k2,k3⟩:=ih h2a;have ec:Jx ds D (es++[d])=Jx ds D es++[d+D]:=by unfold Jx;rw[fb,<-fh];rfl
  have hwe:=Bq h2a es.9 (d8 _);have hhe:=Fb h2a (k:=es.9) (d8 _);have htl:(way es es.9).tail.length=opn es es.9:=by rw[zr];lia
  have hwc:=Bq k1 (Jx ds D es).9 (d8 _)
  by_cases he:es=[]
  .subst he
   have e0:Jx ds D []=ds:=by unfold Jx;simp
   have d0:d=0:=Nat.le_zero.mp hd;subst d0;rw[ec,e0,k5];refine{J5 h1 hD,?_,λ_=>?_}
   .rw[Ft]
    rfl
   .rw[d7]
    show way (ds++[D]) (ds.9+1)=_;rw[J8];congr 1;show[(ds.9:Int)]=[(0:Int)+(ds.9:Int)];rw[zk]
  .have k3:=k3 he
   have htk:((way ds ds.9).take (D+1)).9=D+1:=by rw[fk];lia
   have hopn:opn (Jx ds D es) (Jx ds D es).9=D+opn es es.9:=by
    rw[k3,d7,d4,htl,htk] at hwc;lia
   rw[ec];refine{J5 k1 (by rw[hopn];lia),?_,λ_=>?_}
   .rw[Ft,Ft,k2,fb,<-fh]
    congr 1;show[_]=[_];congr 1;rw[k3]
    cases d with
    |zero=>
     have e1:(way es es.9).getD 0 0=-1:=by rw[hhe];rfl
     rw[e1,k5];unfold shI;rw[if_pos (by decide)];unfold jw;rw[f7 (),ic ()]
    |succ d=>
     have hx:(way es es.9)[d+1]?=mn ((way es es.9)[d+1]'()):=d6 _;generalize (way es es.9)[d+1]'()=x at hx;obtain⟨v,rfl,_⟩:=Ku h2a es.9 d x (d8 _) hx;have e1:(way es es.9).getD (d+1) 0=(v:Int):=by unfold jw;rw[hx];rfl
     rw[e1];unfold shI;rw[if_neg ()];unfold jw;rw[fg (),htk,fj,show d+1+D-(D+1)=d by lia];rw[hhe] at hx;rw[wx] at hx;rw[hx];rfl
   .have e2:(Jx ds D es++[d+D]).9=(Jx ds D es).9+1:=by rw[d7];rfl
    have e3:(es++[d]).9=es.9+1:=by rw[d7];rfl
    rw[e2,J8,e3,J8,k3];have e4:((way es es.9).take (d+1)++[(es.9:Int)]).tail=(way es es.9).tail.take d++[(es.9:Int)]:=by
     rw[hhe];rfl
    rw[e4,fb,<-fh];have e5:((way ds ds.9).take (D+1)++(way es es.9).tail.map (λx:Int=>x+(ds.9:Int))).take (d+D+1)=(way ds ds.9).take (D+1)++((way es es.9).tail.take d).map (λx:Int=>x+(ds.9:Int)):=by
     rw[FY,htk,fv (),show d+D+1-(D+1)=d by lia,n9]
    rw[e5];congr 1;show[((Jx ds D es).9:Int)]=[(es.9:Int)+(ds.9:Int)];rw[iM];congr 1;lia
theorem N6 {l:Za4}{i:Nat}{x:V}(h:(nV l)[i]?=mn x):∃n,l[i]?=mn n/\x=.int (n:Nat):=by
 unfold nV at h;rw[fj] at h
 cases e:l[i]? with
 |none=>rw[e] at h;cases h
 |some n=>
  rw[e] at h;exact{n,rfl,(fc h).symm}
def grB (ns:Za4):Za5:=(ns.map λn=>d9 n MK++[ML]).flatten
theorem Pq (ns:Za4):(grB ns).9=ns.sum+ns.9:=by
 induction ns with
 |nil=>rfl
 |cons n r ih=>
  show(d9 n MK++[ML]++grB r).9=_;rw[d7,ih];simp;lia
theorem Uv {ns:Za4}{i:Nat}(h:ns[i]?=mn n):n<=ns.sum:=by
 induction ns generalizing i with
 |nil=>cases h
 |cons m r ih=>
  cases i with
  |zero=>cases h;simp
  |succ i=>have:=ih (i:=i) h;simp;lia
inductive kJ(vs:List V)(H:Hp)(Q:VK)(E:XK):Prop|mk(l:ee)(ns:Za4)(_:vs=[.ref l])(_:H l=mn (.lst (nV ns)))(_:ns.sum+ns.9<=20000)(_:∀H',Ah H H'->Q (.str (Aq (grB ns))) H')
theorem Ab6 (ns:Za4):Aq (grB ns)={(grC ns).6}:=by
 unfold Aq;congr 2
 induction ns with
 |nil=>rfl
 |cons n r ih=>
  show(d9 n MK++[ML]++grB r).map _=d9 n 49++[48]++grC r;rw[fb,ih];simp
theorem Yr:∀(n h:Nat) (s:Za5),Vs (h+n) s->Vs h (d9 n MK++s)
 |0,h,s,v=>v
 |n+1,h,s,v=>by
  rw[ja,k8];exact Yr n (h+1) s (by rw[show h+1+n=h+(n+1) by lia];exact v)
theorem X0:∀{ns:Za4} {h:Nat},Gd h ns->Vs h (grB ns)
 |[],h,g=>g
 |n::r,h,g=>by
  show Vs h (d9 n MK++[ML]++grB r);rw[fh];refine Yr n h _ {by have:=g.1;lia,?_};exact X0 g.2
structure Hj (H H':Hp):Prop where
 keep:∀b u,(∀ps,u≠.tbl ps)->H b=mn u->H' b=mn u
 tb:∀b ps,H b=mn (.tbl ps)->∃ps',H' b=mn (.tbl ps')
theorem Hj.refl (H:Hp):Hj H H:={λ_ _ _ e=>e,λ_ ps e=>⟨ps,e⟩}
theorem Hj.trans (a:Hj H H1)(b:Hj H1 H2):Hj H H2:={λc u n e=>b.keep c u n (a.keep c u n e),λc ps e=>let ⟨ps',e'⟩:=a.tb c ps e;b.tb c ps' e'}
theorem Hj.tup (s:Hj H H'){a:ee}(h:H a=mn (.tup xs)):H' a=mn (.tup xs):=s.keep _ _ (by intro ps e;cases e) h
theorem Aa0 (s:Ah H H'):Hj H H':={λb u _ e=>s b u e,λb ps e=>{ps,s b _ e}}
theorem Hj.free (s:Hj H H'){l:ee}(e:H' l=tp):H l=tp:=by
 cases q:H l with
 |none=>rfl
 |some o=>
  by_cases ho:∃ps,o=.tbl ps
  .obtain⟨ps,rfl⟩:=ho
   obtain⟨ps',e2⟩:=s.tb l ps q;rw[e2] at e;cases e
  .rw[s.keep l o (λps z=>ho ⟨ps,z⟩) q] at e;cases e
theorem Tb.same {t:Tb}(s:Ah H H')(h:t.ok H):t.ok H':=by
 obtain⟨ps,e1,e2,e3⟩:=h;exact{ps,s _ _ e1,e2,e3.imp id λ⟨c,oc,a1,a2,a3⟩=>{c,oc,a1,s _ _ a2,a3}}
theorem Tb.sameX {t:Tb}{P:ee}(s:Nr P H H')(hP:∃ps,H P=mn (.tbl ps))(n:t.P≠P)(h:t.ok H):t.ok H':=by
 obtain⟨ps,e1,e2,e3⟩:=h;obtain⟨ps',hP⟩:=hP;exact{ps,s _ _ n e1,e2,e3.imp id λ⟨c,oc,a1,a2,a3⟩=>{c,oc,a1,s _ _ (λz=>by rw[z,hP] at a2;cases a2) a2,a3}}
theorem Acs {P:ee}(s:Nr P H H')(hP:∃ps,H P=mn (.tbl ps))(hP':∃ps,H' P=mn (.tbl ps)):Hj H H':=by
 refine{λb u n e=>s b u (λz=>?_) e,λb ps e=>?_}
 .obtain⟨ps,hP⟩:=hP
  rw[z,hP] at e;cases e;exact n ps rfl
 .by_cases hb:b=P
  .rw[hb];exact hP'
  .exact{ps,s b _ hb e}
theorem Tb.tbl {t:Tb}(h:t.ok H):∃ps,H t.P=mn (.tbl ps):=let ⟨ps,e,_⟩:=h;⟨ps,e⟩
structure SmT (ts:List Tb) (H H':Hp):Prop where
 sm:Hj H H'
 ok:Tbs ts H'
theorem Tbs.same {ts:List Tb}(h:Tbs ts H)(s:Ah H H'):Tbs ts H':={λt ht=>Tb.same s (h.1 t ht),h.2}
theorem SmT.of {ts:List Tb}(h:Tbs ts H)(s:Ah H H'):SmT ts H H':={Aa0 s,h.same s}
theorem SmT.refl {ts:List Tb}(h:Tbs ts H):SmT ts H H:={Hj.refl _,h}
theorem SmT.trans {ts:List Tb}(a:SmT ts H H1)(b:SmT ts H1 H2):SmT ts H H2:={a.sm.trans b.sm,b.ok}
theorem SmT.then {ts:List Tb}(a:SmT ts H H1)(b:Ah H1 H2):SmT ts H H2:=a.trans (.of a.ok b)
theorem SmT.k {ts:List Tb}(s:SmT ts H H'){b:ee}{u:HO}(h:H b=mn u)(n:∀ps,u≠.tbl ps:=by intro ps e;cases e):H' b=mn u:=s.sm.keep _ _ n h
theorem Aaq:∀{ts:List Tb} {t u:Tb},(ts.map (·.P)).Nodup->t∈ts->u∈ts->t.P=u.P->t=u
 |[],_,_,_,h,_,_=>nomatch h
 |x::r,t,u,hn,ht,hu,e=>by
  rw[gt,vd] at hn;rcases jn.mp ht with rfl|ht'<;>rcases jn.mp hu with rfl|hu'
  .rfl
  .exact absurd (vg (f:=(·.P)) hu') (by rw[<-e];exact hn.1)
  .exact absurd (vg (f:=(·.P)) ht') (by rw[e];exact hn.1)
  .exact Aaq hn.2 ht' hu' e
theorem sM {ts:List Tb}{t:Tb}(h:Tbs ts H)(ht:t∈ts)(s:Nr t.P H H')(ok:t.ok H'):SmT ts H H':=by
 have hP:=Tb.tbl (h.1 t ht);refine{Acs s hP (Tb.tbl ok),λu hu=>?_,h.2}
 by_cases e:u.P=t.P
 .have:u=t:=Aaq h.2 hu ht e
  rw[this];exact ok
 .exact Tb.sameX s hP e (h.1 u hu)
abbrev iN (ds:Za4):List Int:=ds.map λn:Nat=>(n:Int)
def Lj (ds:Za4):List Int:=Eh (iN ds) (Cg ds.9)
theorem gS (ds:Za4):nV ds=(iN ds).map V.int:=by unfold nV iN;rw[jm];rfl
theorem Hi (ds:Za4):(Lj ds).9=ds.9:=by
 unfold Lj Eh Cg;rw[d4,Dg,AD,d4,d4,fm,rh]
theorem Y7 (ds:Za4):(Lj ds).Perm (Cg ds.9):=by
 have h:=(C9 (lt:=ltI) ((iN ds).zip (Cg ds.9))).map (·.2);have e:((iN ds).zip (Cg ds.9)).map (·.2)=Cg ds.9:=by
  rw[List.map_snd_zip];unfold Cg;rw[d4,d4,fm];exact d8 _
 rw[e] at h;exact h
theorem Xi (n:Nat):(Cg n).Nodup:=by
 unfold Cg;exact IU _ (λa b h e=>h ()) List.nodup_range
theorem jG {x:Int}(h:x∈Cg n):0<=x/\x.toNat<n:=by
 unfold Cg at h;obtain⟨j,hj,rfl⟩:=jq.mp h;have:=iy.mp hj;exact{(),()}
theorem jI {ds:Za4}{x:Int}(h:x∈Lj ds):0<=x/\x.toNat<ds.9:=jG ((Y7 ds).mem_iff.mp h)
theorem nL (ds:Za4):(Lj ds).Nodup:=(Y7 ds).nodup_iff.mpr (Xi _)
theorem qI {α β γ:Type}(f:γ->α)(g:γ->β):∀l:List γ,(l.map f).zip (l.map g)=l.map λx=>(f x,g x)
 |[]=>rfl
 |x::l=>by rw[gt,gt,gt,List.zip_cons_cons,qI f g l]
theorem yP (ds:Za4):iN ds=(en ds.9).map λj:Nat=>(dAt ds j:Int):=by
 refine zt (by simp[iN]) λi h1 h2=>?_;have hi:i<ds.9:=by simpa [iN] using h1
 rw[GA,GA,List.getElem_range];unfold dAt jw;rw[d6 hi];rfl
theorem Aax {ds:Za4}(h:Dok ds):Lj ds=(lvo ds ds.9 ds.9).map λj:Nat=>(j:Int):=by
 unfold Lj Eh;have e:(iN ds).zip (Cg ds.9)=(en ds.9).map λj:Nat=>((dAt ds j:Int),(j:Int)):=by
  rw[yP];exact qI _ _ _
 rw[e,show(ltI:Int×Int->Int×Int->Bool)=ltZ from rfl,W0 h ds.9 (d8 _),jm];rfl
def Aip (xs:List V)(k:Nat):Prop:=∃n:Nat,xs[k]?=mn (.int n)/\n<xs.9/\∀j,j<k->xs[j]?≠mn (.int n)
def qG (xs:List V):Prop:=∀j,j<xs.9->Aip xs j
def Met (xs:List V)(k:Nat)(ms:Za5):Prop:=ms.9=xs.9/\∀(i:Nat) b,ms[i]?=mn b->(b=MK↔∃j,j<k/\xs[j]?=mn (.int i))
theorem zJ (xs:List V):Met xs 0 (d9 xs.9 ML):=by
 refine{gx,λi b h=>?_};rw[oj] at h;split at h
 .cases h
  exact{λz=>by(cases z),λ⟨j,hj,_⟩=>absurd hj (AS _)}
 .cases h
theorem zS {k:Nat}{ms:Za5}(h:Met xs k ms)(hk:xs[k]?=mn (.int n)):Met xs (k+1) (ms.set n MK):=by
 refine{by rw[se];exact h.1,λi b hb=>?_};rw[y4] at hb
 by_cases e:n=i
 .rw[if_pos e] at hb
  split at hb
  .cases hb
   exact{λ_=>{k,uw _,by rw[hk,e]},λ_=>rfl}
  .cases hb
 .rw[if_neg e] at hb
  rw[h.2 i b hb]
  constructor
  .rintro⟨j,hj,hx⟩
   exact{j,(),hx}
  .rintro⟨j,hj,hx⟩
   rcases yt (FV hj) with h1|h1
   .exact⟨j,h1,hx⟩
   .rw[h1,hk] at hx
    have:=V.int.inj (fc hx);lia
theorem zE (ms:Za5)(n:Nat)(b:Bool):(ms.map V.bl).set n (.bl b)=(ms.set n b).map V.bl:=by rw[yz]
theorem xC (n:Nat):(d9 n [V.bl ML]).flatten=(d9 n ML).map V.bl:=by
 induction n with
 |zero=>rfl
 |succ n ih=>rw[ja,im,ih,ja];rfl
theorem Ad0 {ms:Za5}{i:Nat}{b:Bool}(h:ms[i]?=mn b):(ms.map V.bl)[i]?=mn (.bl b):=by
 rw[fj,h];rfl
def gB (ms:Za4)(g:Nat):Nat:=(ms.take g).sum+g
theorem Jw (m:Nat)(r:Za4):grB (m::r)=(d9 m MK++[ML])++grB r:=rfl
theorem X2:∀ns:Za4,(grB ns).count MK=ns.sum
 |[]=>rfl
 |n::r=>by
  rw[Jw,qu,qu,X2 r,BW];simp
theorem kB:∀{ms:Za4} {g m x:Nat},ms[g]?=mn m->x<=m->(grB ms).take (gB ms g+x)=grB (ms.take g)++d9 x MK
 |[],g,m,x,h,_=>by cases h
 |n::r,0,m,x,h,hx=>by
  obtain rfl:n=m:=fc h;rw[Jw,show gB (n::r) 0+x=x from k5 x,fh,jh (by rw[gx];exact hx),List.take_replicate,iu hx];rfl
 |n::r,g+1,m,x,h,hx=>by
  have ih:=kB (ms:=r) (g:=g) h hx;have e:gB (n::r) (g+1)+x=(d9 n MK++[ML]).9+(gB r g+x):=by
   unfold gB;rw[oq,n8,d7,gx];simp;lia
  rw[Jw,e,List.take_length_add_append,ih,oq,Jw];simp only[fh]
theorem gJ:∀{ms:Za4} {g m:Nat},ms[g]?=mn m->(grB ms)[gB ms g+m]?=mn ML
 |[],g,m,h=>by cases h
 |n::r,0,m,h=>by
  obtain rfl:n=m:=fc h;rw[Jw,show gB (n::r) 0+n=n from k5 n,fh,fg (by rw[gx];exact d8 _),gx,jx];rfl
 |n::r,g+1,m,h=>by
  have ih:=gJ (ms:=r) (g:=g) h;have e:gB (n::r) (g+1)+m=(d9 n MK++[ML]).9+(gB r g+m):=by
   unfold gB;rw[oq,n8,d7,gx];simp;lia
  rw[Jw,e,fg (jz _ _),i0];exact ih
theorem Afx {ms:Za4}{g m x:Nat}(h:ms[g]?=mn m)(hx:x<=m):((grB ms).take (gB ms g+x)).count MK=(ms.take g).sum+x:=by
 rw[kB h hx,qu,X2,BW]
theorem Ags {ms:Za4}{g m x:Nat}(h:ms[g]?=mn m)(hx:x<=m):(occ ML (grB ms) (gB ms g+x)).9=g:=by
 have h1:=(Ti (grB ms) (gB ms g+x)).2;have h2:cnt (grB ms) (gB ms g+x)=(ms.take g).sum+x:=Afx h hx;rw[h2] at h1;unfold gB at *;lia
theorem xF {ms:Za4}{g m:Nat}(h:ms[g]?=mn m):(occ ML (grB ms) (grB ms).9)[g]?=mn (gB ms g+m)/\gB ms g+m<(grB ms).9/\(grB ms).getD (gB ms g+m) ML=ML:=by
 have hz:=gJ h;have hlt:=Ci hz;have hd:(grB ms).getD (gB ms g+m) ML=ML:=by unfold jw;rw[hz];rfl
 have ho:=Ags h (d8 m);refine{?_,hlt,hd};have e:occ ML (grB ms) (gB ms g+m+1)=occ ML (grB ms) (gB ms g+m)++[gB ms g+m]:=by
  rw[Oo,hd];rfl
 rw[Zh (n:=gB ms g+m+1) () (by rw[e,d7,ho];exact uw _),e,fg (by rw[ho];exact d8 _),ho,jx];rfl
theorem E3 {x:ee}{o o':HO}(hx:H1 x=tp)(hd:H1 dx=tp):Ah H1 (upd (upd H1 dx o) x o'):=λb u e=>by rw[Al (Am e hx),Al (Am e hd)];exact e
theorem Tbs.keepN {ts:List Tb}{p:ee}{o o':HO}(h:Tbs ts H)(hp:H p=mn o')(nt:∀ps,o'≠.tbl ps:=by intro ps e;cases e)(nf:∀a b,o'≠.frz a b:=by intro a b e;cases e):Tbs ts (upd H p o):=by
 refine{λt ht=>?_,h.2};obtain⟨ps,e1,e2,e3⟩:=h.1 t ht;exact{ps,by rw[Al (λz=>by rw[z,hp] at e1;exact nt _ (fc e1))];exact e1,e2,e3.imp id λ⟨c,oc,a1,a2,a3⟩=>{c,oc,a1,by rw[Al (λz=>by rw[z,hp] at a2;exact nf _ _ (fc a2))];exact a2,a3}}
theorem SmT.push {ts:List Tb}{p:ee}{o:HO}(s:SmT ts H H1)(hp:H p=tp)(hl:H1 p=mn (.lst xs)):SmT ts H (upd H1 p o):=by
 refine{{λb u n e=>?_,λb ps e=>?_},s.ok.keepN hl}
 .rw[Al (Am e hp)]
  exact s.sm.keep b u n e
 .rw[Al (Am e hp)]
  exact s.sm.tb b ps e
theorem uG {ts:List Tb}{lo:Int}{fr:St}{tc:TT}{Q:VK}(hT:Tbs ts H1)(acc:Nat->List V)(h0:acc 0=[])(hz:∀i,i<n->(acc i).9<sizeLine)
  (turn:∀(i:Nat) H (R:Hp->Prop) (A:VK),i<n->SmT ts H1 H->(∀y H',acc (i+1)=acc i++[y]->SmT ts H H'->A y H')->tc (mn (.int (lo+i))::fr) H λb H3=>if b=MK then te (mn (.int (lo+i))::fr) H3 A else R H3)
  (fin:∀D H,H1 D=tp->SmT ts H1 H->H D=mn (.lst (acc n))->Q (.ref D) H):Lk (Itr lo n) H1 fr tc te Q:=by
 intro D hD;refine{λi m H=>i+m=n/\SmT ts H1 H/\H D=mn (.lst (acc i)),{n,(),SmT.of hT (Ai hD),by rw[Ac,h0]},?_};rintro i m H ⟨him,sm,hd⟩
 by_cases hi:i<n
 .refine .inr {hi,λx H' h=>?_}
  obtain⟨rfl,rfl⟩:=h;exact turn i _ _ _ hi sm λy H'' e s2=>{acc i,s2.k hd,hz i hi,m-1,(),(),(sm.trans s2).push hD (s2.k hd),by rw[Ac,e]}
 .obtain rfl:i=n:=()
  exact .inl {d8 _,fin D H hD sm hd}
structure SmB (ts:List Tb) (x:ee) (H H':Hp):Prop where
 keep:∀b u,b≠x->(∀ps,u≠.tbl ps)->H b=mn u->H' b=mn u
 tb:∀b ps,H b=mn (.tbl ps)->∃ps',H' b=mn (.tbl ps')
 ok:Tbs ts H'
theorem SmB.k {ts:List Tb}{x:ee}(s:SmB ts x H H'){b:ee}{u:HO}(h:H b=mn u)(ne:b≠x)(n:∀ps,u≠.tbl ps:=by intro ps e;cases e):H' b=mn u:=s.keep _ _ ne n h
theorem SmB.refl {ts:List Tb}{x:ee}(h:Tbs ts H):SmB ts x H H:={λ_ _ _ _ e=>e,λ_ ps e=>⟨ps,e⟩,h}
theorem SmB.trans {ts:List Tb}{x:ee}(a:SmB ts x H H1)(b:SmB ts x H1 H2):SmB ts x H H2:={λc u n1 n2 e=>b.keep c u n1 n2 (a.keep c u n1 n2 e),λc ps e=>let ⟨ps',e'⟩:=a.tb c ps e;b.tb c ps' e',b.ok}
theorem SmB.sm {ts:List Tb}{x:ee}(a:SmB ts x H H1)(b:SmT ts H1 H2):SmB ts x H H2:=a.trans {λc u _ n e=>b.sm.keep c u n e,b.sm.tb,b.ok}
theorem SmB.then {ts:List Tb}{x:ee}(a:SmB ts x H H1)(b:Ah H1 H2):SmB ts x H H2:=a.sm (.of a.ok b)
theorem SmB.put {ts:List Tb}{x:ee}{o o':HO}(a:SmB ts x H H1)(hx:H1 x=mn o)(nt:∀ps,o≠.tbl ps:=by intro ps e;cases e)(nf:∀a b,o≠.frz a b:=by intro a b e;cases e):SmB ts x H (upd H1 x o'):=by
 refine a.trans {λb u n _ e=>by rw[Al n];exact e,λb ps e=>{ps,?_},a.ok.keepN hx nt nf};rw[Al (λz=>by rw[z,hx] at e;exact nt _ (fc e))];exact e
theorem Ix {K:d5}{ts:List Tb}{x:ee}{H0:Hp}{fs:List (Str×V)}{f:Str}{R:Hp->Prop}(h:H x=mn (.ins C dx fs))(c:Cls K C)(n:Ay K C f)(l:fs.9<1000)(b:SmB ts x H0 H)(q:∀H',H' x=mn (.ins C dx (Co f y fs))->SmB ts x H0 H'->SmB ts x H H'->R H') :
  ∃a' C' dx' fs',V.ref x=.ref a'/\H a'=mn (.ins C' dx' fs')/\Cls K C'/\Ay K C' f/\fs'.9<1000/\R (upd H a' (.ins C' dx' (Co f y fs'))):=
 {x,C,dx,fs,rfl,h,c,n,l,q _ Ac (b.put h) ((SmB.refl b.ok).put h)}
theorem SmB.made {ts:List Tb}{x:ee}(hx:H x=tp)(hdx:H dx=tp)(s:SmB ts x (upd (upd H dx (.own x)) x (.ins C dx [])) H'):SmT ts H H':=by
 have kp:∀b u,H b=mn u->b≠x/\upd (upd H dx (.own x)) x (.ins C dx []) b=mn u:=λb u e=>by
  have e1:b≠x:=Am e hx;have e2:b≠dx:=Am e hdx;exact{e1,by rw[Al e1,Al e2];exact e}
 exact{{λb u n e=>s.keep b u (kp b u e).1 n (kp b u e).2,λb ps e=>s.tb b ps (kp b _ e).2},s.ok}
theorem SmB.free {ts:List Tb}{x d:ee}{o:HO}(s:SmB ts x H H')(hx:H' x=mn o)(e:H' d=tp):H d=tp:=by
 cases q:H d with
 |none=>rfl
 |some u=>
  by_cases hu:∃ps,u=.tbl ps
  .obtain⟨ps,rfl⟩:=hu
   obtain⟨ps',e2⟩:=s.tb d ps q;rw[e2] at e;cases e
  .by_cases hdx:d=x
   .rw[hdx,hx] at e;cases e
   .rw[s.keep d u hdx (λps z=>hu ⟨ps,z⟩) q] at e;cases e
theorem Agz {K:d5}{Q:VK}{p:ee}(hs:SqL K H p (ns.map V.int))(q:∀m:Int,(ns=[]->m=-1)->(ns≠[]->Zl ns m)->Q (.int m) H):Aex K [.ref p] [.int (-1)] H Q:=
 {p,ns,_,rfl,rfl,hs,λh=>q (-1) (λ_=>rfl) (λn=>absurd h n),λm hm=>q m (λh=>by rw[h] at hm;cases hm.1) (λ_=>hm)}
theorem SmB.new {ts:List Tb}{x d:ee}(a:SmB ts x H H1)(b:SmB ts d H1 H2)(hd:H d=tp):SmB ts x H H2:=
 {λc u n1 n2 e=>b.keep c u (Am e hd) n2 (a.keep c u n1 n2 e),λc ps e=>let ⟨ps',e'⟩:=a.tb c ps e;b.tb c ps' e',b.ok}
theorem SmB.kp {ts:List Tb}{x b:ee}{o:HO}(s:SmB ts x H H')(hx:H x=mn o)(hb:b≠x)(no:∀xs,o≠.tup xs:=by intro xs e;cases e):∀c u,(∀ps,u≠.tbl ps)->(c=b\/∃xs,u=.tup xs)->H c=mn u->H' c=mn u:=λc u n h e=>by
 refine s.keep c u (λz=>?_) n e;rcases h with h|⟨xs,h⟩
 .exact hb (h▸z)
 .rw[z,hx,h] at e
  exact no _ (fc e)
theorem SmT.kq {ts:List Tb}{b:ee}(s:SmT ts H H'):∀c u,(∀ps,u≠.tbl ps)->(c=b\/∃xs,u=.tup xs)->H c=mn u->H' c=mn u:=λc u n _ e=>s.sm.keep c u n e
theorem vX (ds:Za4):qG ((Lj ds).map V.int):=λj hj=>by
 rw[d4,Hi] at hj;have hj2:j<(Lj ds).9:=by rw[Hi];exact hj
 have hm:=jI (List.getElem_mem hj2);have e:(Lj ds)[j]?=mn (Lj ds)[j]:=d6 hj2;generalize (Lj ds)[j]=x at hm e;obtain⟨n,rfl⟩:∃n:Nat,x=(n:Int):={x.toNat,()};refine{n,Sd e,by rw[d4,Hi];lia,λi hi he=>?_};obtain⟨y,hy,hz⟩:=Ny he;rw[<-V.int.inj hz] at hy;have:=wg.mp (nL ds) i j () hj2 hi;rw[d6 (show i<(Lj ds).9 by lia)] at hy;rw[d6 hj2] at e;exact this ((fc hy).trans (fc e).symm)
theorem Ade {ds:Za4}(h:Dok ds):(Bk ds ds.9 (-1)).9::(Lj ds).map (λv=>(Bk ds ds.9 v).9)=gsL ds:=by
 unfold gsL;rw[Aax h,jm];rfl
theorem jY {ds:Za4}(h:Dok ds)(k:Nat):pre (gsL ds) k<=ds.9:=(Gm h).2▸fE (gsL ds) k
theorem Adp {ds:Za4}(h:Dok ds){k:Nat}(hk:k<ds.9):k<pre (gsL ds) (k+1):=by
 have h1:k+1<1+((gsL ds).take (k+1)).sum:=(yG h).at (k+1) (by rw[(Gm h).1];lia);show k<((gsL ds).take (k+1)).sum;lia
theorem Abu {ns:Za4}{g:Nat}(hg:g<ns.9):(occ ML (grB ns) (grB ns).9)[g]?=mn (pre ns (g+1)+g):=by
 have h:=(xF (d6 hg)).1;rw[h];congr 1;unfold gB;rw[Ud hg];unfold pre;lia
def Kp (H H':Hp):Prop:=∀b u,(∀ps,u≠HO.tbl ps)->H b=mn u->H' b=mn u
theorem Ah.kp (s:Ah H H'):Kp H H':=λb u _ e=>s b u e
theorem SmT.kp {ts:List Tb}(s:SmT ts H H'):Kp H H':=λb u n e=>s.sm.keep b u n e
theorem Kp.k (s:Kp H H'){b:ee}{u:HO}(h:H b=mn u)(n:∀ps,u≠.tbl ps:=by intro ps e;cases e):H' b=mn u:=s b u n h
def bgn (ls:List (Za5))(j:Nat):Nat:=(ls.take j).flatten.length
theorem kM (ls:List (Za5)):bgn ls 0=0:=rfl
theorem eJ (ls:List (Za5)):bgn ls ls.9=ls.flatten.9:=by unfold bgn;rw[ny]
theorem kO {ls:List (Za5)}{j:Nat}{x:Za5}(h:ls[j]?=mn x):bgn ls (j+1)=bgn ls j+x.9:=by
 unfold bgn;rw[ie,h,ij,d7];simp
theorem Aa4 {ls:List (Za5)}{i j:Nat}(h:i<=j):bgn ls i<=bgn ls j:=by
 unfold bgn;have e:ls.take i=(ls.take j).take i:=by rw[rb,iu h]
 have e2:=congrArg k6 (congrArg DC (iq i (ls.take j)));rw[<-e,ij,d7] at e2;lia
theorem zV (ls:List (Za5))(j:Nat):((ls.map k6).take j).sum=bgn ls j:=by
 unfold bgn;rw[x6,n9]
theorem tY (ls:List (Za5))(j:Nat):(ls.drop j).flatten=ls.flatten.drop (bgn ls j):=by
 have e:=congrArg DC (iq j ls);rw[ij] at e;rw[<-e];unfold bgn;rw[List.drop_left]
theorem vK (ls:List (Za5))(j:Nat):(ls.take j).flatten=ls.flatten.take (bgn ls j):=by
 have e:=congrArg DC (iq j ls);rw[ij] at e;rw[<-e];unfold bgn;rw[List.take_left]
theorem xX (ls:List (Za5))(i j:Nat):bgn (ls.drop i) j=bgn ls (i+j)-bgn ls i:=by
 have e:ls.take (i+j)=ls.take i++(ls.drop i).take j:=by rw[uy]
 unfold bgn;rw[e,ij,d7];lia
theorem gF (ls:List (Za5)){i j:Nat}(h:i<=j):((ls.drop i).take (j-i)).flatten=(ls.flatten.drop (bgn ls i)).take (bgn ls j-bgn ls i):=by
 rw[vK,tY,xX,show i+(j-i)=j by lia]
theorem Ab2 (l:Za5){b e lo hi:Nat}(h1:b<=lo)(h2:lo<=hi)(h3:hi<=e):(((l.drop b).take (e-b)).drop (lo-b)).take (hi-lo)=(l.drop lo).take (hi-lo):=by
 rw[List.drop_take,rb,md,show b+(lo-b)=lo by lia,iu ()]
def pcM (L:Nat):Nat:=(L+127)/128
def Cq (L k:Nat):Nat:=k*L/pcM L
def pcs (l:Za5):List (Za5):=(en (pcM l.9)).map λk=>(l.drop (Cq l.9 k)).take (Cq l.9 (k+1)-Cq l.9 k)
theorem X1 (L:Nat):Cq L 0=0:=by unfold Cq;rw[IN,DL]
theorem Wx {L:Nat}(h:0<L):Cq L (pcM L)=L:=by
 unfold Cq;exact Nat.mul_div_cancel_left L (by unfold pcM;lia)
theorem Ys {L i j:Nat}(h:i<=j):Cq L i<=Cq L j:=EN (EM L h)
theorem Ab3 {L k:Nat}(h:k<=pcM L):Cq L k<=L:=by
 by_cases h0:L=0
 .subst h0;unfold Cq;rw[IQ,DL];exact gy _
 .have:=Ys (L:=L) h
  rw[Wx ()] at this;exact this
theorem Rg {L k:Nat}(h:0<L):Cq L k+1<=Cq L (k+1)/\Cq L (k+1)<=Cq L k+128:=by
 have hm:0<pcM L:=by unfold pcM;lia
 have h1:pcM L<=L:=by unfold pcM;lia
 have h2:L<=pcM L*128:=by unfold pcM;lia
 unfold Cq
 constructor
 .rw[Nat.le_div_iff_mul_le hm,wn,EL,DN]
  have:=EX (k*L) (pcM L);lia
 .have h3:(k+1)*L<=k*L+128*pcM L:=by rw[DN];lia
  have:=EN (c:=pcM L) h3;rw[Nat.add_mul_div_right _ _ hm] at this;exact this
theorem Tf (l:Za5):(pcs l).9=pcM l.9:=by unfold pcs;rw[d4,fm]
theorem mN {l:Za5}{k:Nat}(h:k<pcM l.9):(pcs l)[k]?=mn ((l.drop (Cq l.9 k)).take (Cq l.9 (k+1)-Cq l.9 k)):=by
 unfold pcs;rw[fj,gr h];rfl
theorem fT {l:Za5}{k:Nat}(h:k<pcM l.9):((l.drop (Cq l.9 k)).take (Cq l.9 (k+1)-Cq l.9 k)).9=Cq l.9 (k+1)-Cq l.9 k:=by
 have:=Ab3 (L:=l.9) (k:=k+1) h;rw[fk,i9];lia
def kK (ls:List (Za5)):Prop:=∀(k:Nat) (x:Za5),ls[k]?=mn x->0<x.9/\x.9<=128
theorem qE {L k:Nat}(h:k<pcM L):0<L:=by unfold pcM at h;lia
theorem uK (l:Za5):kK (pcs l):=λk x h=>by
 have hk:=(fq.mp h).1;rw[Tf] at hk;rw[mN hk] at h;obtain rfl:=fc h;rw[fT hk];have:=Rg (k:=k) (qE hk);lia
theorem rA (l:Za5):∀k,k<=pcM l.9->((pcs l).take k).flatten=l.take (Cq l.9 k)
 |0,_=>by rw[X1];rfl
 |k+1,h=>by
  rw[ie,mN (),ij,rA l k ()];have hm:=Ys (L:=l.9) (show k<=k+1 by lia);show _++([_]:List (Za5)).flatten=_;rw[m7];have:Cq l.9 (k+1)=Cq l.9 k+(Cq l.9 (k+1)-Cq l.9 k):=()
  conv=>rhs;rw[this,uy]
theorem Vg (l:Za5):(pcs l).flatten=l:=by
 have:=rA l (pcM l.9) (d8 _);rw[fv (by rw[Tf];exact d8 _)] at this;rw[this]
 by_cases h:l.9=0
 .rw[oi h];rfl
 .rw[Wx (),ny]
theorem G3 {e:jk}{t u:TE}(h:PE X e t)(k:PE X e u):PE X e (λG H Q=>t G H Q\/u G H Q):=λpins s G H Q I z=>z.elim (h pins s G H Q I) (k pins s G H Q I)
end _K
end
section
set_option hygiene false in
local macro_rules | `(tactic| exists $x)=>`(tactic| (refine $x (λvs H Q E h=>?_) (λcdv A outer s H vs Q E hr h=>?_);focus(first|(cases h;subst_vars;rfl)|(obtain⟨_,h⟩:=h;cases h;subst_vars;rfl))))
set_option hygiene false in
local macro_rules|`(tactic|walk_at "rd")=>do
 let d:=(<-`((by decide))).raw
 let r:=(<-`(rfl)).raw
 let ts:=WN "Afc Ai8 Ajg r_c Aix Adu Ajf Ad8 Aj7 Aj6 Ag1 Ahy Agl Aja Agj Ag3 Aio Agt Ajr Ahj Ajz Ae7 Aii Agd Ajk Ajo Aiw Aiq Ajm Abq Ah6 Ajq Aj0 Af9 Aj1 Ajj Ah4 Ah5 Agn Ahk Ai2 yU Ajd Afl Ahx Aht Ah0 Aft Ag4 Ahe Acv Afk Afn Adc Ae5 Afy Afh Ago Ah2 r_retN Ag8 Adt r_orV Af5 Ahl zB r_lzip r_revL r_lrev r_lrng Acc Ab1 Agw r_revR Af1 Afi Agc Ahw" #[]++WN "gP Abf" #[d]++WN "rV mS Agp" #[d,d]++WN "Ai6 Ahf" #[r]
 `(tactic|repeat (first|(with_reducible first $[|$ts]*) | refine Aiz rfl ?_ | refine Ait rfl ?_ | dsimp only))
namespace _K
open PySem _L _W
variable {C CB CC CL CP CS Pt dx i1 i2 it l1 l2 z:ee} {params:pq} {A:jp} {items:Array ft} {op:x9} {X:Cx} {D:Jm} {env:Env} {tg:jk} {fd:ky} {base h h':ki} {H H' H1 H2:Hp} {J:It} {pins:Za1} {fp:List ee} {es:List jk} {kz ns:List Int} {l0:List gw} {cs ix:Za4} {N QQ ps:Za6} {xs ys:List V} {us vs:Za3} {M:yu} {n t':Nat} {oT:Obj} {an od:Option ee} {lpos pos:Pos} {B:Prop} {sc scope QP:qh} {pl:Sem Bool} {s:fz} {sp:Sp} {qual:Str} {te to:TE} {wi:TI} {y:V} {cdv ct doc oc pm:ft} {w:i7}
local macro_rules | `(tactic| k_is)=>`(tactic| walk_at "rd")
local macro_rules | `(tactic| apply $t)=>`(tactic| (k_is;refine $t))
structure Qh (K:d5) (C:ee):Prop where
 cl:Cls K C
 cM:Ay K C "length"
 dW:Ay K C "many_ones"
 cO:Ay K C "kept_words"
structure Qb (K:d5) (C:ee):Prop where
 cl:Cls K C
 cM:Ay K C "length"
 cO:Ay K C "kept_words"
 cR:Ay K C "kept_table"
structure Qi (K:d5) (C:ee):Prop where
 cl:Cls K C
 dR:Ay K C "onward"
 cT:Ay K C "leaps"
structure Qc (K:d5) (C:ee):Prop where
 cl:Cls K C
 cU:Ay K C "knots"
 dq:Ay K C "bits"
 dy:Ay K C "counts"
 dS:Ay K C "places"
 cW:Ay K C "begins"
 dU:Ay K C "level_count"
 dY:Ay K C "widest_level"
 cT:Ay K C "leaps"
structure Qd (K:d5) (C:ee):Prop where
 cl:Cls K C
 dq:Ay K C "bits"
 dy:Ay K C "counts"
 cM:Ay K C "length"
 cR:Ay K C "kept_table"
 dh:Ay K C "often_least"
structure Qf (K:d5) (C:ee):Prop where
 cl:Cls K C
 cX:Ay K C "pairs"
structure Qe (K:d5) (C:ee):Prop where
 cl:Cls K C
 cU:Ay K C "knots"
 cX:Ay K C "pairs"
 dZ:Ay K C "marks"
structure Qk (K:d5) (C:ee):Prop where
 cl:Cls K C
 dG:Ay K C "signs"
 dE:Ay K C "kept_sums"
 dP:Ay K C "greatest"
 dh:Ay K C "often_least"
structure Qa (K:d5) (C:ee):Prop where
 cl:Cls K C
 dC:Ay K C "kept_pieces"
 cW:Ay K C "begins"
 dM:Ay K C "knots_ahead"
 cM:Ay K C "length"
 cR:Ay K C "kept_table"
 dh:Ay K C "often_least"
structure Qg (K:d5) (C:ee):Prop where
 cl:Cls K C
 cX:Ay K C "pairs"
 dX:Ay K C "earlier"
structure Txt (P:gu) (w:i7) (base:ki) (ts:List Tb) (K:d5) (mg:Za2) (ax:ee) (az:ee):Prop where
 cZ:mg "ONES_OF_FOUR"=mn (.ref ax)
 dD:∀H,SqT K H ax (Y9.map λn:Nat=>V.int n)
 dj:mg "SIGNS_OF_FOUR"=mn (.ref az)
 dF:∀H,SqT K H az (tD)
 cL:∃t,mg "WORD_BITS"=mn (.int 32 t)
 di:∃t,mg "MOST_BITS"=mn (.int 20000 t)
 cP:∃t,mg "BLOCK_WORDS"=mn (.int 8 t)
 dv:∃t,mg "BLOCK_BITS"=mn (.int 256 t)
 dn:∃t,mg "FULL_WORD"=mn (.int 4294967295 t)
 dg:∃t,mg "MOST_SIGNS_pairs"=mn (.int 8192 t)
 cY:∃t,mg "STRETCH_BITS"=mn (.int 256 t)
 dw:∃t,mg "MOST_KNOTS"=mn (.int 4000 t)
 du:∃t,mg "MOST_SIGNS_woods"=mn (.int 8000 t)
 cN:∃t,mg "MARK_STEP"=mn (.int 16 t)
 df:∃t,mg "PIECE_SIGNS"=mn (.int 128 t)
 cK:mg "range"=tp
 cJ:mg "len"=tp
 dL:mg "int"=tp
 dJ:mg "bool"=tp
 dQ:mg "str"=tp
 cV:mg "isinstance"=tp
 cQ:mg "list"=tp
 dB:mg "tuple"=tp
 dN:mg "dict"=tp
 dA:mg "enumerate"=tp
 de:mg "zip"=tp
 n_sum:mg "sum"=tp
 n_abs:mg "abs"=tp
 da:mg "max"=tp
 cS:mg "min"=tp
 dH:mg "sorted"=tp
 d3:mg "reversed"=tp
section
variable {P:gu} {w:i7} {K:d5} {mg:Za2} {base:ki} {ax az:ee} {ab aa ar ah ae ap am ag ad ao:ee} {f:ee} {fd:ky} {ts:List Tb}
seal PE PA PT PW PS PSs PI PG
inductive iB(vs:List V)(H:Hp)(Q:VK)(E:XK):Prop|mk(i:Int)(_:vs=[.int i])(_:Q (.bl MK) H)
abbrev Txt.ZA(_:Txt P w base ts K mg ax az):=@Av P w K mg base CX0
abbrev Txt.ZC(_:Txt P w base ts K mg ax az):=@Cal P w K mg base
abbrev Txt.ZM(_:Txt P w base ts K mg ax az):=@Mth P w K mg base
abbrev Txt.ZN(_:Txt P w base ts K mg ax az):=@Mkr P w K mg base
variable (T:Txt P w base ts K mg ax az)
include T in
theorem kZ (F:Fun K "is_whole" "is_whole" N1 f fd):T.ZA 1 f fd ["thing"] iB:=by
 exists F.ok jW
 obtain⟨i,rfl,q⟩:=h;refine{_,(Ae (Ap (pN (An Do (by rfl) T.cV C2 (tpa (pv 0) (tpa (Jb (v:=.ty "int") rfl T.dL wM rfl) Ab))) (mT (Afq (An Do (by rfl) T.cV C2 (tpa (pv 0) (tpa (Jb (v:=.ty "bool") rfl T.dJ nR rfl) Ab)))))))),?_};apply{_,_,_,_,rfl,.int _,Sh,?_};apply{_,_,_,_,rfl,.int _,Pl,?_};k_is;exact q
inductive Y1(vs:List V)(H:Hp)(Q:VK)(E:XK):Prop|mk(x lo hi:Int)(_:vs=[.int x,.int lo,.int hi])(_:lo<=x)(_:x<=hi)(_:Q (.bl MK) H)
variable (aX:T.ZC "is_whole" 1 ["thing"] iB)
include T aX in
theorem fC (F:Fun K "is_within" "is_within" Mb f fd):T.ZA 2 f fd ["thing","low","high"] Y1:=by
 exists F.ok Zt
 obtain⟨x,lo,hi,rfl,h1,h2,q⟩:=h;refine{_,(Ae (Ap (pN (Au aX hr.m (tpa (pv 0) Ab)) (mT (Aap Aeh Aeh (pv 1) (pv 0) (pv 2)))))),?_};apply{x,rfl,?_};apply B6 (λ_=>?_) (λh=>absurd h1 h);k_is;rw[decide_eq_true h2];exact q
inductive yI(vs:List V)(H:Hp)(Q:VK)(E:XK):Prop|mk(b:Bool)(_:vs=[.int (b.toNat:Nat)])(_:Q .non H)
variable (aF:T.ZC "is_within" 2 ["thing","low","high"] Y1)
include T aF in
theorem fJ (F:Fun K "check_bit" "check_bit" Lp f fd):T.ZA 3 f fd ["bit"] yI:=by
 exists F.ok eP
 obtain⟨b,rfl,q⟩:=h;refine⟨_,(Ae (B8 (Ic (Fl (Au aF hr.m (tpa (pv 0) (tpa Af (tpa Af Ab)))))) (Ae Dv)
  A8)),?_⟩
 apply{_,0,1,rfl,(),by cases b<;>decide,?_}
 k_is;exact q
inductive kL(vs:List V)(H:Hp)(Q:VK)(E:XK):Prop|mk(n g:Int)(_:vs=[.int n,.int g])(_:0<=n)(_:n<=g)(_:Q .non H)
include T aF in
theorem Wy (F:Fun K "check_place" "check_place" Jn f fd):T.ZA 3 f fd ["place","greatest"] kL:=by
 exists F.ok Vt
 obtain⟨n,g,rfl,h0,h1,q⟩:=h;refine⟨_,(Ae (B8 (Ic (Fl (Au aF hr.m (tpa (pv 0) (tpa Af (tpa (pv 1) Ab)))))) (Ae Dv)
  A8)),?_⟩
 apply{n,0,g,rfl,h0,h1,?_};k_is;exact q
inductive xT(vs:List V)(H:Hp)(Q:VK)(E:XK):Prop|mk(i j g:Int)(_:vs=[.int i,.int j,.int g])(_:0<=i)(_:i<=j)(_:j<=g)(_:Q .non H)
variable (aD:T.ZC "check_place" 3 ["place","greatest"] kL)
include T aD in
theorem Rz (F:Fun K "check_stretch" "check_stretch" Gu f fd):T.ZA 4 f fd ["low","high","greatest"] xT:=by
 exists F.ok Rb
 obtain⟨i,j,g,rfl,h0,h1,h2,q⟩:=h;refine⟨_,(Aa (A6 (Au aD hr.m (tpa (pv 0) (tpa (pv 2) Ab)))) (Aa (A6 (Au aD hr.m (tpa (pv 1) (tpa (pv 2) Ab)))) (Ae (B8 (ttc Gr (pv 0) (pv 1)) (Ae Dv)
  A8)))),?_⟩
 apply{i,g,rfl,h0,(),?_};apply{j,g,rfl,(),h2,?_};apply B6 (λh=>absurd h ()) (λ_=>?_);k_is;exact q
inductive zM(vs:List V)(H:Hp)(Q:VK)(E:XK):Prop|mk(n:Nat)(_:vs=[.int n])(_:Q (.int (pc n)) H)
include T in
theorem nQ (F:Fun K "ones_in" "ones_in" Re f fd):T.ZA 1 f fd ["word"] zM:=by
 exists F.ok K5
 obtain⟨n,rfl,q⟩:=h;refine{_,(Aa (tst 1 K5.nd Af) (Aa (E6 il (ttc Gr (pv 0) Af) (Aa (tau 1 K5.nd (tix Fm (Td (v:=.ref _) rfl T.cZ rfl) (Ak P1 (pv 0) Af)) Hl) (Ae (tau 0 K5.nd Af rX)))) (Ae (Ap (pv 1))))),?_}
 apply Fz (λG H'=>∃m o:Nat,G=[mn (.int m),mn (.int o)]/\pc n=o+pc m/\H'=H) (λG _=>match G with|some (.int m)::_=>m.toNat|_=>0) ⟨n,0,rfl,by simp,rfl⟩ ?_;rintro k G H' ⟨m,o,rfl,e,rfl⟩ hk;apply B6 (λhm=>?_) (λhm=>?_)
 .refine Kl ?_
  apply Gs (T.dD _) (v:=.int (pc (m%16))) ?_ ?_
  .rw[qC]
   exact sP _ (wc _ (by decide))
  .apply{{m/16,o+pc (m%16),?_,?_,rfl},?_}
   .show[mn (V.int ((m:Int)/2 ^ (4:Int).toNat)),mn (V.int ((o:Int)+(pc (m%16):Int)))]=_
    rw[Ack];rfl
   .rw[e,Ajv m]
    lia
   .show((m:Int)/2 ^ (4:Int).toNat).toNat<k
    rw[Ack,<-hk];show m/16<m;lia
 .k_is
  have:m=0:=()
  subst this;rw[Tc] at e;show Q (.int (o:Int)) H';rw[show o=pc n by lia];exact q
inductive Aau(vs:List V)(H:Hp)(Q:VK)(E:XK):Prop|mk(r k p:Nat)(_:vs=[.int r,.int k])(_:(Zp r)[k]?=mn p)(_:∀H',Ah H H'->Q (.int p) H')
include T in
theorem Tz (F:Fun K "nth_of_four" "nth_of_four" Gh f fd):T.ZA 1 f fd ["four","nth"] Aau:=by
 exists F.ok Mi
 obtain⟨r,k,p,rfl,hp,q⟩:=h;refine{_,(Aa (Gq (i:=2) rfl Rc Mi.nd rfl rfl (D0 rfl T.cK (tpa Af Ab)) (λ_ _ _ _=>Ta (ttc Ed (Ak P1 (Ak wC (pv 1) (pv 0)) Af) Af)) (λ_ _ _ _=>(pv 0))) (Ae (Ap (tix By (pv 2) (pv 1))))),?_}
 apply{4,rfl,by decide,by decide,?_};refine Vj (λi=>((en i).filter λp=>decide (r/2 ^ p%2=1)).map λp:Nat=>V.int (p:Int)) rfl (λi hi=>?_) (λi H1 R A hi sm kR kA=>?_) (λD H1 hD sm hl=>?_)
 .have h4:i<4:=hi
  rw[d4];exact sv (iw (uj _ _) (oz fm)) (Em ())
 .apply Abf () ?_;k_is;have e1:(r:Int)/2 ^ (0+(i:Int)).toNat=((r/2 ^ i:Nat):Int):=by
   rw[show(0+(i:Int)).toNat=i by lia];exact(rl r (2 ^ i)).symm
  rw[e1,Ajw];have e2:((en (i+1)).filter λp=>decide (r/2 ^ p%2=1))=((en i).filter λp=>decide (r/2 ^ p%2=1))++if r/2 ^ i%2=1 then[i] else[]:=by
   rw[iz,ju];congr 1
   by_cases h:r/2 ^ i%2=1
   .rw[if_pos h]
    simp[h]
   .rw[if_neg h]
    simp[h]
  refine B6 (λhb=>?_) (λhb=>?_)
  .have hb:r/2 ^ i%2=1:=by
    have:=V.int.inj hb;lia
   apply kA _ _ ?_ (Ah.refl _);rw[e2,if_pos hb,fb,show(0+(i:Int))=(i:Int) by lia];rfl
  .have hb:¬ r/2 ^ i%2=1:=by
    intro z;exact hb (by rw[z];rfl)
   refine kR ?_ _ (Ah.refl _);rw[e2,if_neg hb,gp]
 .apply Cw (SqL.of hl) (v:=.int p) ?_ (q _ sm);refine Bg ?_;rw[fj];show Option.map _ ((Zp r)[k]?)=_;rw[hp];rfl
inductive Ad1(vs:List V)(H:Hp)(Q:VK)(E:XK):Prop|mk(n k:Nat)(_:vs=[.int n,.int k])(_:∀H',Ah H H'->Q (Aic (nth n k)) H')
include T in
theorem mO (F:Fun K "nth_one" "nth_one" Ry f fd)(bv:T.ZC "nth_of_four" 1 ["four","nth"] Aau):T.ZA 2 f fd ["word","nth"] Ad1:=by
 exists F.ok F7
 obtain⟨n,k,rfl,q⟩:=h;refine⟨_,(Aa (B8 (ttc O2 (pv 1) Af) (Ae (Ap P3))
  A8) (Aa (tst 2 F7.nd Af) (Aa (E6 il (ttc Gr (pv 0) Af) (Aa (tst 3 F7.nd (tix Fm (Td (v:=.ref _) rfl T.cZ rfl) (Ak P1 (pv 0) Af))) (Aa (B8 (ttc O2 (pv 1) (pv 3)) (Ae (Ap (Ak Bc (pv 2) (Au bv hr.m (tpa (Ak P1 (pv 0) Af) (tpa (pv 1) Ab))))))
  A8) (Aa (tau 1 F7.nd (pv 3) Zv) (Aa (tau 0 F7.nd Af rX) (Ae (tau 2 F7.nd Af Hl))))))) (Ae (Ap P3))))),?_⟩
 apply B6 (λhb=>absurd hb ()) (λ_=>?_);apply Fz (λG H'=>∃(m j low:Nat) (v:Option V),G=[mn (.int m),mn (.int j),mn (.int low),v]/\nth n k=(nth m j).map (·+low)/\H'=H) (λG _=>match G with|some (.int m)::_=>m.toNat|_=>0) ⟨n,k,0,tp,rfl,by simp,rfl⟩ ?_;rintro μ G H' ⟨m,j,low,v,rfl,e,rfl⟩ hk;apply B6 (λhm=>?_) (λhm=>?_)
 .refine Kl ?_
  apply Gs (T.dD _) (v:=.int (pc (m%16))) ?_ ?_
  .rw[qC]
   exact sP _ (wc _ (by decide))
  .k_is
   have e16:=Aik m j;refine B6 (λhj=>?_) (λhj=>?_)
   .have hj:j<pc (m%16):=()
    k_is;rw[if_pos hj] at e16;rw[qC];obtain⟨p,hp⟩:∃p,(Zp (m%16))[j]?=mn p:=by
     have:j<(Zp (m%16)).9:=by rw[Adl _ (wc _ (by decide))];exact hj
     exact{_,d6 this}
    refine{m%16,j,p,rfl,hp,λH1 s1=>?_};k_is;have:=q H1 s1;rw[e,e16,hp] at this;rw[show(low:Int)+(p:Int)=((p+low:Nat):Int) by lia];exact this
   .have hj:¬ j<pc (m%16):=()
    k_is;rw[if_neg hj] at e16;refine{{m/16,j-pc (m%16),low+4,mn (.int (pc (m%16))),?_,?_,rfl},?_}
    .show[mn (V.int ((m:Int)/2 ^ (4:Int).toNat)),mn (V.int ((j:Int)-(pc (m%16):Int))),mn (V.int ((low:Int)+4)),mn (V.int (pc (m%16)))]=_
     rw[Ack,show(j:Int)-(pc (m%16):Int)=((j-pc (m%16):Nat):Int) by lia];rfl
    .rw[e,e16,AA]
     congr 1
     funext x
     show x+4+low=x+(low+4);lia
    .show((m:Int)/2 ^ (4:Int).toNat).toNat<μ
     rw[Ack,<-hk];show m/16<m;lia
 .k_is
  have:m=0:=()
  subst this;rw[W1] at e;have:=q H' (Ah.refl _);rw[e] at this;exact this
def Ady (z:Str):Bool:=if z.9>20000 then ML else decide (Rv z 48+Rv z 49=z.9)
inductive rE(vs:List V)(H:Hp)(Q:VK)(E:XK):Prop|mk(z:Str)(_:vs=[.str z])(_:z.9<=sizeLine)(_:Q (.bl (Ady z)) H)
include T in
theorem vS (F:Fun K "is_row" "is_row" W5 f fd):T.ZA 1 f fd ["thing"] rE:=by
 exists F.ok uQ
 obtain⟨z,rfl,hz,q⟩:=h;refine⟨_,(Aa (B8 (PW.pt (Nt (Ic (Fl (An Do (by rfl) T.cV C2 (tpa (pv 0) (tpa (Jb (v:=.ty "str") rfl T.dQ Aei rfl) Ab))))) (N4 (ttc Gr (An Bw (by rfl) T.cJ Bp (tpa (pv 0) Ab)) (Az rfl T.di))))) (Ae (Ap Of))
  A8) (Ae (Ap (tpc Ed (Ak Bc (Cl kh sr sq Oh (pv 0) (tpa Cy Ab)) (Cl kh sr sq Oh (pv 0) (tpa Cy Ab))) (An Bw (by rfl) T.cJ Bp (tpa (pv 0) Ab)))))),?_⟩
 apply{_,_,_,_,rfl,.str _,R5,?_};apply{z,rfl,hz,?_};k_is;unfold Ady at q;refine B6 (λhb=>?_) (λhb=>?_)
 .k_is
  rw[if_pos ()] at q;exact q
 .k_is
  rw[if_neg ()] at q;refine{rfl,?_};apply{z,48,rfl,rfl,?_};apply{rfl,?_};apply{z,49,rfl,rfl,?_};apply{z,rfl,hz,?_};k_is;have e:decide (V.int ((Rv z 48:Int)+(Rv z 49:Int))=V.int (z.9:Int))=decide (Rv z 48+Rv z 49=z.9):=by
   refine decide_eq_decide.mpr {λh=>?_,λh=>?_}
   .have:=V.int.inj h
    lia
   .rw[<-h]
    congr 1
  rw[e];exact q
inductive Abj(vs:List V)(H:Hp)(Q:VK)(E:XK):Prop|mk(l:Za5)(_:vs=[.str (Aq l)])(_:0<l.9)(_:l.9<=32)(_:Q (.int (val l:Nat)) H)
include T in
theorem nU (F:Fun K "word_of" "word_of" Ru f fd):T.ZA 1 f fd ["signs"] Abj:=by
 exists F.ok pW
 obtain⟨l,rfl,h0,h1,q⟩:=h;refine{_,(Ae (Ap (Cj Xm (by rfl) T.dL wM (tpa (Ac7 (pv 0)) (tpa Af Ab))))),?_};apply{_,rfl,?_,?_}
 .rw[Ar]
  exact gz (Em ())
 apply{_,rfl,?_,?_,?_,?_}
 .rw[Mn,Ar]
  lia
 .intro c hc
  have:c∈(Aq l).cps.toList:=by
   have h:c∈(Aq l).cps.toList.reverse.toArray.toList:=hc
   simpa using h
  exact nN l c this
 .intro z
  have e:(Xs (Aq l)).cps.toList.length=0:=by rw[z];rfl
  have e2:(Xs (Aq l)).cps.toList.length=(Xs (Aq l)).9:=by simp[uq]
  rw[e2,Mn,Ar] at e;lia
 .rw[Agx]
  exact q
inductive tM (K:d5)(vs:List V)(H:Hp)(Q:VK)(E:XK):Prop|mk(l:Za5)(_:vs=[.str (Aq l)])(_:l.9<=20000)(_:∀p H',Ah H H'->H p=tp->H' p=mn (.tup (nV (wordsOf l)))->Q (.ref p) H')
include T in
theorem kQ (F:Fun K "words_of" "words_of" K7 f fd)(bw:T.ZC "word_of" 1 ["signs"] Abj):T.ZA 2 f fd ["text"] (tM K):=by
 exists F.ok kF
 obtain⟨l,rfl,hl,q⟩:=h;have hz:(Aq l).9<=sizeLine:=by rw[Ar];exact gz (Ag ())
 refine{_,(Ae (Ap (Cj Gi (by rfl) T.dB Tl (tpa (Iy rfl Xf (Px rfl T.cK (tpa Af (tpa (An Bw (by rfl) T.cJ Bp (tpa (pv 0) Ab)) (tpa (Az rfl T.cL) Ab)))) (λ_ _ _ _=>Bx) (λ_ _ _ _=>(Au bw hr.m (tpa (B9 Rn (pv 1) (Bl (pv 0)) (Bl (Ak Bc (pv 0) (Az rfl T.cL)))) Ab)))) Ab)))),?_};apply{_,rfl,hz,?_};rw[Ar];apply{0,l.9,32,rfl,(),?_};have hn:C1 0 (l.9:Int) 32=B7 l.9:=Ui l.9 32 (by decide);rw[hn];refine jH (λi=>nV ((en i).map λj=>val (A4 l j))) rfl (λi hi=>?_) (λi H1 R A hi sm kR kA=>?_) (λD H1 hD sm hl'=>?_)
 .have:=fV hi
  rw[d4,d4,fm];exact Ag ()
 .apply Ad5 hz ?_;have hi':=fV hi;rw[show(0+(i:Int)*32)=((32*i:Nat):Int) by lia,show(((32*i:Nat):Int)+32)=((32*i+32:Nat):Int) by lia,Hc];apply{A4 l i,?_,?_,?_,?_}
  .unfold A4
   rw[show 32*i+32-32*i=32 by lia];rfl
  .unfold A4
   rw[fk,i9];lia
  .unfold A4
   rw[fk];lia
  .refine kA _ _ ?_ (Ah.refl _)
   exact Jr _ _
 .apply{D,_,rfl,.inl {SqL.of hl',λp hp=>?_}};exact q p _ (sm.trans (Ai hp)) (sm.free hp) Ac
theorem vZ:∀r:Nat,r<16->tD[r]?=mn (.str (Aq (nO r))):=by
 intro r hr;have:r=0\/r=1\/r=2\/r=3\/r=4\/r=5\/r=6\/r=7\/r=8\/r=9\/r=10\/r=11\/r=12\/r=13\/r=14\/r=15:=()
 rcases this with rfl|rfl|rfl|rfl|rfl|rfl|rfl|rfl|rfl|rfl|rfl|rfl|rfl|rfl|rfl|rfl<;>rfl
theorem xE (ls:List (Za5)):BO ("":Str) (ls.map Aq)=Aq ls.flatten:=by
 refine Il ?_;rw[Tw,Di]
 induction ls with
 |nil=>rfl
 |cons a r ih=>
  rw[gt,gt,im,ih,im,fb,Di]
theorem Kc (ls:List (Za5)):((ls.map Aq).map (·.length)).sum=ls.flatten.9:=by
 induction ls with
 |nil=>rfl
 |cons a r ih=>rw[gt,gt,n8,ih,im,d7,Ar]
theorem gH {K:d5}{Q:VK}{p:ee}{ls:List (Za5)}(hl:H1 p=mn (.lst (ls.map λl=>V.str (Aq l))))(hz:ls.flatten.9<=100000)(q:Q (.str (Aq ls.flatten)) H1):Aam K (.str "") [.ref p] H1 Q:=by
 refine{"",p,ls.map Aq,rfl,rfl,SqL.of ?_,?_,?_}
 .rw[hl,jm]
  rfl
 .rw[Kc]
  show ls.flatten.9+_*0<=_;lia
 .rw[xE]
  exact q
theorem Ac6 (n k:Nat){j:Int}(h:j=(k:Int)):(n:Int)/2 ^ j.toNat=((n/2 ^ k:Nat):Int):=by
 subst h;rw[ig];exact(rl n (2 ^ k)).symm
inductive Xx (K:d5)(vs:List V)(H:Hp)(Q:VK)(E:XK):Prop|mk(n:Nat)(_:vs=[.int n])(_:∀H',Ah H H'->Q (.str (Aq (Oz n))) H')
include T in
theorem jO (F:Fun K "signs_of" "signs_of" K9 f fd):T.ZA 1 f fd ["word"] (Xx K):=by
 exists F.ok jT
 obtain⟨n,rfl,q⟩:=h;refine{_,(Ae (Ap (Cl kh o6 o3 M5 Cy (tpa (Iy rfl Xu (Px rfl T.cK (tpa Af (tpa (Az rfl T.cL) (tpa Af Ab)))) (λ_ _ _ _=>Bx) (λ_ _ _ _=>(tix (Z1 K) (Td (v:=.ref _) rfl T.dj rfl) (Ak P1 (Ak wC (pv 1) (pv 0)) Af)))) Ab)))),?_};apply{rfl,?_};apply{0,32,4,rfl,(),?_};refine jH (λi=>((en i).map λj=>nO (n/2 ^ (4*j)%16)).map λl=>V.str (Aq l)) rfl (λi hi=>?_) (λi H1 R A hi sm kR kA=>?_) (λD H1 hD sm hl=>?_)
 .have hi:i<8:=hi
  rw[d4,d4,fm];exact Em ()
 .have hi:i<8:=hi
  apply Abf () ?_;k_is;rw[Ac6 n (4*i) (),qC];refine Gs (T.dF _) (Bg (vZ _ (wc _ (by decide)))) ?_;refine kA _ _ ?_ (Ah.refl _);rw[iz,fb,fb];rfl
 .k_is
  have hl:H1 D=mn (.lst (((en 8).map λj=>nO (n/2 ^ (4*j)%16)).map λl=>V.str (Aq l))):=hl;refine gH hl ?_ ?_
  .rw[W8]
   unfold Oz;rw[d4,fm];decide
  .rw[W8]
   exact q _ sm
def zF (l:Za5)(t:ee):List (Str×V):=[("length",.int (l.9:Nat)),("many_ones",.int (l.count MK:Nat)),("kept_words",.ref t)]
def Db (K:d5)(C:ee)(H:Hp)(a:ee)(l:Za5):Prop:=∃dx t,H a=mn (.ins C dx (zF l t))/\H t=mn (.tup (nV (wordsOf l)))/\l.9<=20000
theorem Ib {K:d5}{x b:ee}{l:Za5}(s:SameBut x H H')(n:wS H x)(hne:b≠x)(h:Db K C H b l):Db K C H' b l:=by
 obtain⟨dx,t,h1,h2,h3⟩:=h;exact{dx,t,s _ _ hne h1,s _ _ (λe=>by subst e;exact(n _).1 (.inl h2)) h2,h3}
theorem Db.same {K:d5}{b:ee}{l:Za5}(s:Ah H H')(h:Db K C H b l):Db K C H' b l:=by
 obtain⟨dx,t,h1,h2,h3⟩:=h;exact{dx,t,s _ _ h1,s _ _ h2,h3}
inductive Ut (K:d5)(C:ee)(vs:List V)(H:Hp)(Q:VK)(E:XK):Prop|mk(x dx:ee)(l:Za5)(_:vs=[.ref x,.str (Aq l)])(_:H x=mn (.ins C dx []))(_:l.9<=20000)(_:∀H',SameBut x H H'->Db K C H' x l->Q .non H')
theorem oY {l:Za5}(h:l.9<=20000):Ady (Aq l)=MK:=by
 unfold Ady;rw[Ar,if_neg ()];exact decide_eq_true (Rw l).2
variable (au:Qh K ab)
include T au in
theorem Wt (F:Fun K "__init__" "Bits.__init__" Lq f fd)(bx:T.ZC "is_row" 1 ["thing"] rE)(bz:T.ZC "words_of" 2 ["text"] (tM K)) :
  T.ZA 3 f fd ["self","text"] (Ut K ab):=by
 exists F.ok Z2
 obtain⟨x,dx,l,rfl,hx,hl,q⟩:=h;have hz:(Aq l).9<=sizeLine:=by rw[Ar];exact gz (Ag ())
 refine⟨_,(Aa (B8 (Ic (Fl (Au bx hr.m (tpa (pv 1) Ab)))) (Ae Dv)
  A8) (Aa (tsf (pv 0) (An Bw (by rfl) T.cJ Bp (tpa (pv 1) Ab))) (Aa (tsf (pv 0) (Cl kh sr sq Oh (pv 1) (tpa Cy Ab))) (Ae (tsf (pv 0) (Au bz hr.m (tpa (pv 1) Ab))))))),?_⟩
 apply{_,rfl,hz,?_};rw[oY hl];apply{_,rfl,hz,?_};rw[Ar];apply Bj hx au.cl au.cM (by decide) ?_;apply{rfl,?_};apply{_,49,rfl,rfl,?_};rw[(Rw l).1];apply Bj Ac au.cl au.dW (show 1<1000 by decide) ?_;rw[Kt];apply{l,rfl,hl,λt H' sm hf ht=>?_};apply Bj (sm _ _ Ac) au.cl au.cO (show 2<1000 by decide) ?_;apply q _ ((As.trans sm.but).trans As) {dx,t,Ac,?_,hl};have hne:t≠x:=λe=>by
  subst e;rw[Ac] at hf;cases hf
 rw[Al hne];exact ht
inductive Uu (K:d5)(C:ee)(vs:List V)(H:Hp)(Q:VK)(E:XK):Prop|mk(x:ee)(l:Za5)(_:vs=[.ref x])(_:Db K C H x l)(_:Q (.int (l.9:Nat)) H)
include T au in
theorem Wu (F:Fun K "size" "Bits.size" L3 f fd):T.ZA 1 f fd ["self"] (Uu K ab):=by
 exists F.ok Zs
 obtain⟨x,l,rfl,⟨dx,t,hx,ht,hl⟩,q⟩:=h;refine{_,(Ae (Ap (tfl (pv 0)))),?_};k_is;exact zI hx au.cl au.cM rfl q
inductive R6 (K:d5)(C:ee)(vs:List V)(H:Hp)(Q:VK)(E:XK):Prop|mk(x:ee)(l:Za5)(_:vs=[.ref x])(_:Db K C H x l)(_:∀t,H t=mn (.tup (nV (wordsOf l)))->Q (.ref t) H)
include T au in
theorem Wq (F:Fun K "words" "Bits.words" Kr f fd):T.ZA 1 f fd ["self"] (R6 K ab):=by
 exists F.ok Xe
 obtain⟨x,l,rfl,⟨dx,t,hx,ht,hl⟩,q⟩:=h;refine{_,(Ae (Ap (tfl (pv 0)))),?_};k_is;exact zI hx au.cl au.cO rfl (q t ht)
inductive Yn (K:d5)(C:ee)(vs:List V)(H:Hp)(Q:VK)(E:XK):Prop|mk(a:ee)(l:Za5)(low high:Nat)(_:vs=[.ref a,.int low,.int high])(_:Db K C H a l)(_:low<=high)(_:high<=l.9)(_:∀H',Ah H H'->Q (.str (Aq ((l.drop low).take (high-low)))) H')
include T au in
theorem Wg (F:Fun K "stretch" "Bits.stretch" Fx f fd)(bA:T.ZC "check_stretch" 4 ["low","high","greatest"] xT)(bB:T.ZC "signs_of" 1 ["word"] (Xx K)) :
  T.ZA 5 f fd ["self","low","high"] (Yn K ab):=by
 exists F.ok Dx
 obtain⟨a,l,low,high,rfl,⟨dx,t,hx,ht,hl⟩,h1,h2,q1⟩:=h;refine{_,(Aa (A6 (Au bA hr.m (tpa (pv 1) (tpa (pv 2) (tpa (tfl (pv 0)) Ab))))) (Aa (tst 3 Dx.nd (Ak Cp (pv 1) (Az rfl T.cL))) (Aa (tst 4 Dx.nd (Ak Cp (Ak Ce (Ak Bc (pv 2) (Az rfl T.cL)) Af) (Az rfl T.cL))) (Aa (tst 5 Dx.nd (Cl kh o6 o3 M5 Cy (tpa (Iy rfl O3 (oU (B9 Ze (tfl (pv 0)) (Bl (pv 3)) (Bl (pv 4)))) (λ_ _ _ _=>Bx) (λ_ _ _ _=>(Au bB hr.m (tpa (pv 0) Ab)))) Ab))) (Aa (tst 6 Dx.nd (Ak G4 (pv 3) (Az rfl T.cL))) (Ae (Ap (B9 Rn (pv 5) (Bl (Ak Ce (pv 1) (pv 6))) (Bl (Ak Ce (pv 2) (pv 6))))))))))),?_}
 apply{a,ab,dx,_,_,rfl,hx,au.cl,au.cM,rfl,?_};apply{low,high,_,rfl,(),(),(),?_};apply{rfl,?_};apply{a,ab,dx,_,_,rfl,hx,au.cl,au.cO,rfl,?_};apply{t,_,rfl,SqT.of ht,λp2 H2 s2 hp2=>?_};rw[show((low:Int)/32)=((low/32:Nat):Int) by lia,show((high:Int)+32-1)/32=(((high+31)/32:Nat):Int) by lia,Ol] at hp2;have hW:(wordsOf l).9=B7 l.9:=by unfold _W.wordsOf;rw[d4,fm]
 have e8:((nV (wordsOf l)).drop (low/32)).take ((high+31)/32-low/32)=nV ((en ((high+31)/32-low/32)).map λj=>val (A4 l (low/32+j))):=by
  unfold nV;have:min ((high+31)/32-low/32) (B7 l.9-low/32)=(high+31)/32-low/32:=by unfold B7;lia
  rw[<-wo,<-n9,X9,this]
 rw[e8] at hp2;refine{p2,rfl,{_,hp2},?_};generalize hm:(high+31)/32-low/32=m at hp2;refine Aag hp2 (λj=>((en j).map λi=>Oz (val (A4 l (low/32+i)))).map λl=>V.str (Aq l)) rfl (λj hj=>?_) (λj z H3 R A hz s3 kR kA=>?_) (λD H3 hD s3 hl3=>?_)
 .rw[d4,d4,fm] at hj
  rw[d4,d4,fm];exact Em ()
 .have hj:j<m:=by
   have:=(fq.mp hz).1
   rwa [d4,d4,fm] at this
  have hze:z=.int (val (A4 l (low/32+j)):Nat):=by
   unfold nV at hz;rw[fj,fj,gr hj] at hz;exact(fc hz).symm
  subst hze;apply{_,rfl,λH4 s4=>?_};refine kA _ _ ?_ s4;rw[iz,fb,fb];rfl
 .rw[d4,d4,fm] at hl3
  have hfl:((en m).map λi=>Oz (val (A4 l (low/32+i)))).flatten.length<=100000:=by
   rw[Vy,d4,fm];lia
  apply gH hl3 hfl ?_;apply Ad5 ?_ ?_
  .rw[Ar]
   exact gz (Ag hfl)
  rw[Vy,show((low:Int)-(low:Int)/32*32)=((low-32*(low/32):Nat):Int) by lia,show((high:Int)-(low:Int)/32*32)=((high-32*(low/32):Nat):Int) by lia,Hc,
   show high-32*(low/32)-(low-32*(low/32))=high-low by lia,zL l (low/32) m low (high-low) () () ()]
  exact q1 _ (s2.trans s3)
include T in
theorem Xh (F:Fun K "first_that" "first_that" K6 f fd):T.ZA 3 f fd ["low","high","holds"] (Tm P w K mg base 2):=by
 exists F.ok Gj
 obtain⟨lo,hi,g,p,rfl,hle,hA,q⟩:=h;refine{_,(Aa (E6 il (ttc O2 (pv 0) (pv 1)) (Aa (tst 3 Gj.nd (Ak Cp (Ak Bc (pv 0) (pv 1)) Af)) (Ae (B8 (Fl (Afg (k:=2) hr.m (i:=2) rfl rfl (pv 3))) (Ae (tst 1 Gj.nd (pv 3))) (Ae (tst 0 Gj.nd (Ak Bc (pv 3) Af))))))) (Ae (Ap (pv 0)))),?_}
 apply Fz (λG H'=>Ah H H'/\∃(x y:Int) (v:Option V),G=[mn (.int x),mn (.int y),mn (.ref g),v]/\lo<=x/\x<=y/\y<=hi/\(lo<x->p (x-1)=ML)/\(y<hi->p y=MK)) (λG _=>match G with | [mn (.int x),mn (.int y),_,_]=>(y-x).toNat|_=>0) ⟨Ah.refl _,lo,hi,tp,rfl,KC _,hle,KC _,λz=>absurd z (HX _),λz=>absurd z (HX _)⟩ ?_;rintro μ G H' ⟨sm,x,y,v,rfl,h1,h2,h3,h4,h5⟩ QS;apply B6 (λhw=>?_) (λhw=>?_)
 .refine Kl ?_
  apply{g,_,p,rfl,hA.same sm,?_};k_is;have ht1:x<=(x+y)/2:=()
  have ht2:(x+y)/2<y:=()
  refine{_,rfl,Ah.refl _,{zl h1 ht1,Int.lt_of_lt_of_le ht2 h3},λH2 s2=>?_};k_is;have hμ':y-x=(μ:Int):=by
   have:(y-x).toNat=μ:=QS;lia
  cases hp:p ((x+y)/2) with
  |true=>
   apply{{sm.trans s2,x,(x+y)/2,_,rfl,h1,ht1,zl (IV ht2) h3,h4,λ_=>hp},?_};show((x+y)/2-x).toNat<μ;generalize (x+y)/2=t at *;lia
  |false=>
   apply{{sm.trans s2,(x+y)/2+1,y,_,rfl,zl h1 (zl ht1 (IV (Int.lt_succ _))),ht2,h3,λ_=>by rw[Int.add_sub_cancel];exact hp,h5},?_};show(y-((x+y)/2+1)).toNat<μ;generalize (x+y)/2=t at *;lia
 .k_is
  obtain rfl:x=y:=()
  exact q x H' h1 h3 h4 h5 sm
inductive Aer(vs:List V)(H:Hp)(Q:VK)(E:XK):Prop|mk(a:ee)(xs:Za4)(_:vs=[.ref a])(_:H a=mn (.lst (nV xs)))(_:xs.9<=1000)(_:∀p H',Ah H H'->H p=tp->H' p=mn (.lst (nV ((en (xs.9+1)).map λi=>(xs.take i).sum)))->Q (.ref p) H')
include T in
theorem Sv (F:Fun K "running_sums" "running_sums" Hm f fd):T.ZA 1 f fd ["numbers"] Aer:=by
 exists F.ok Gy
 obtain⟨a,xs,rfl,ha,hn,q⟩:=h;refine{_,(Aa (tst 1 Gy.nd (Bs (tpa Af Ab))) (Aa (C0 il rfl (Cs (pv 0)) (tgn 2 Gy.nd) (Ae (A6 (Cl gj i6 i5 B0 (pv 1) (tpa (Ak Bc (tix By (pv 1) (Dl Cf Af)) (pv 2)) Ab))))) (Ae (Ap (pv 1))))),?_}
 apply{few (by simp),λp hp=>?_};have t0:=Ai (o:=.lst [V.int 0]) hp;apply{a,rfl,{_,SqL.of (t0 _ _ ha)},?_};refine Ho (xs:=nV xs) (λi G H1=>(∃v:Option V,G=[mn (.ref a),mn (.ref p),v])/\H1 p=mn (.lst (nV ((en (i+1)).map λi=>(xs.take i).sum)))/\Ah H H1) {{_,rfl},Ac,t0} (λi G H1 _ h=>SqL.of (h.2.2 _ _ ha)) ?_ ?_
 .rintro i x G H1 hx ⟨⟨v,rfl⟩,hp1,s1⟩
  have hi:=Ci hx;rw[show(nV xs).9=xs.9 by unfold nV;rw[d4]] at hi;obtain rfl:x=.int (xs[i]:Nat):=by
   unfold nV at hx;rw[fj,d6 hi] at hx;exact(fc hx).symm
  apply{.inl {rfl,_,SqL.of hp1},?_};apply Cw (SqL.of hp1) (v:=.int ((xs.take i).sum:Nat)) ?_ ?_
  .rw[Jr]
   exact Ow _ _
  apply Ca hp1 ?_ ?_
  .unfold nV
   rw[d4,d4,fm];exact Ag ()
  apply{{_,rfl},?_,λb u e=>?_}
  .rw[Ac,Jr _ (i+1),ie,d6 hi,nh]
   show mn (HO.lst (_++[V.int (((xs.take i).sum:Nat)+(xs[i]:Nat):Int)]))=mn (HO.lst (_++[V.int (((xs.take i).sum+[xs[i]].sum:Nat):Int)]));rw[yi,xn]
  .rw[Al (Am e hp)]
   exact s1 _ _ e
 .rintro G H1 ⟨⟨v,rfl⟩,hp1,s1⟩
  rw[show(nV xs).9=xs.9 by unfold nV;rw[d4]] at hp1;k_is;exact q p H1 s1 hp hp1
def Cm (n:Nat):Nat:=(B7 n+7)/8
def Iu (l:Za5):Za4:=(en (Cm l.9+1)).map λb=>cnt l (256*b)
inductive sD (K:d5)(vs:List V)(H:Hp)(Q:VK)(E:XK):Prop|mk(t:ee)(l:Za5)(_:vs=[.ref t])(_:H t=mn (.tup (nV (wordsOf l))))(_:l.9<=20000)(_:∀p H',Ah H H'->H p=tp->H' p=mn (.tup (nV (Iu l)))->Q (.ref p) H')
theorem gT (l:Za5)(b:Nat):((wordsOf l).drop (8*b)).take 8=(en (min 8 (B7 l.9-8*b))).map λi=>val (A4 l (8*b+i)):=by
 unfold _W.wordsOf;refine qa λi=>?_;rw[jy]
 by_cases h8:i<8
 .rw[if_pos h8,jd,fj,fj]
  by_cases hm:8*b+i<B7 l.9
  .rw[gr hm,gr ()]
   rfl
  .rw[ir (by rw[fm];lia),ir (by rw[fm];lia)]
   rfl
 .rw[if_neg h8,ir (by rw[d4,fm];lia)]
def blk (l:Za5)(i:Nat):Za4:=(en (min 8 (B7 l.9-8*i))).map λj=>val (A4 l (8*i+j))
def oI (l:Za5)(i:Nat):Nat:=((en (min 8 (B7 l.9-8*i))).map λm=>pc (val (A4 l (8*i+m)))).sum
theorem hX (l:Za5):∀i,(((en i).map (oI l)).sum)=cnt l (256*i)
 |0=>by
  show 0=cnt l 0;rfl
 |i+1=>by
  rw[iz,fb,nh,hX l i];show cnt l (256*i)+[oI l i].sum=_;rw[yi];have:=vO l i (min 8 (B7 l.9-8*i)) rfl;unfold oI;lia
def uW (K:d5)(l:Za5)(i:Nat)(ys:List V)(H:Hp):Prop:=ys.9=i/\∀j y,ys[j]?=mn y->∃a,y=.ref a/\SqT K H a (nV (blk l j))
theorem Aae {K:d5}{l:Za5}{i:Nat}{D:ee}{o:HO}(hD:H D=mn (.lst xs))(h:uW K l i ys H):uW K l i ys (upd H D o):=⟨h.1,λj y e=>by
 obtain⟨a,rfl,ht⟩:=h.2 j y e;refine{a,rfl,?_};rcases ht with(ht|⟨ob,ht⟩)|ht
 .exact .inl (.inl (by rw[Al (Ey ht hD (by intro z;cases z))];exact ht))
 .exact .inl (.inr {ob,by rw[Al (Ey ht hD (by intro z;cases z))];exact ht})
 .exact .inr ht⟩
theorem uW.same {K:d5}{l:Za5}{i:Nat}(h:uW K l i ys H)(s:Ah H H'):uW K l i ys H':=⟨h.1,λj y e=>by
 obtain⟨a,rfl,ht⟩:=h.2 j y e;exact{a,rfl,s.seqT ht}⟩
variable (aE:T.ZC "ones_in" 1 ["word"] zM) (aT:T.ZC "running_sums" 1 ["numbers"] Aer)
include T aE aT in
theorem Os (F:Fun K "table_of_words" "table_of_words" Dn f fd):T.ZA 2 f fd ["words"] (sD K):=by
 exists F.ok Iq
 obtain⟨t,l,rfl,ht,hl,q⟩:=h;have hW:(wordsOf l).9=B7 l.9:=by unfold _W.wordsOf;rw[d4,fm]
 have hM:B7 l.9<=626:=by unfold B7;lia
 have hB:Cm l.9<=80:=by unfold Cm;lia
 refine{_,(Aa (Gq (i:=1) rfl Nc Iq.nd rfl rfl (Px rfl T.cK (tpa Af (tpa (An Ao (by rfl) T.cJ Bp (tpa (pv 0) Ab)) (tpa (Az rfl T.cP) Ab)))) (λ_ _ _ _=>Bx) (λ_ _ _ _=>(B9 (yT K) (pv 1) (Bl (pv 0)) (Bl (Ak Bc (pv 0) (Az rfl T.cP)))))) (Ae (Ap (Cj Gi (by rfl) T.dB Tl (tpa (Au aT hr.m (tpa (Iy rfl Nf (Cs (pv 1)) (λ_ _ _ _=>Bx) (λ_ _ _ _=>(An (vU K rfl) (by rfl) T.n_sum Aiv (tpa (Acb rfl Nd (Acr K (pv 0)) (λ_ _ _ _=>Bx) (λ_ _ _ _=>(Au aE hr.m (tpa (pv 0) Ab)))) Ab)))) Ab)) Ab))))),?_}
 apply{t,_,rfl,.inr (SqT.of ht),?_};k_is;rw[d4,hW];refine{0,B7 l.9,8,rfl,(),?_};have hn:C1 0 (B7 l.9:Int) 8=Cm l.9:=Ui (B7 l.9) 8 (by decide);rw[hn];refine Yd (λi ys H1=>uW K l i ys H1) (λH1 _=>{rfl,λj y e=>by cases e}) (λi ys H1 D xs o hD h=>Aae hD h) (λi ys H1 hi h=>by rw[h.1];exact Em ()) (λi ys H1 A R hi s1 hP kA=>?_) (λD ys H1 hD s1 hP hDl=>?_)
 .apply{t,_,rfl,SqT.of (s1 _ _ ht),λp2 H2 s2 hp2=>?_};rw[show(0+(i:Int)*8)=((8*i:Nat):Int) by lia,show(((8*i:Nat):Int)+8)=((8*i+8:Nat):Int) by lia,Ol,show 8*i+8-8*i=8 by lia] at hp2;have e8:((nV (wordsOf l)).drop (8*i)).take 8=nV (blk l i):=by
   unfold nV blk;rw[<-wo,<-n9,gT]
  rw[e8] at hp2;refine kA _ _ s2 {by rw[d7,hP.1];rfl,λj y e=>?_}
  by_cases hj:j<ys.9
  .rw[f7 hj] at e
   exact(hP.same s2).2 j y e
  .rw[fg ()] at e
   have e0:j-ys.9=0:=by
    have:=Ci e;simp only[f8,jg] at this;lia
   rw[e0] at e;obtain rfl:=fc e;have:j=i:=by have:=hP.1;lia
   subst this;exact⟨p2,rfl,hp2⟩
 .apply{D,rfl,{_,SqL.of hDl},?_};refine G5 (SqL.of hDl) (λi=>nV ((en i).map (oI l))) rfl (λi hi=>?_) (λi x H2 R A hx s2 kR kA=>?_) (λD2 H2 hD2 s2 hl2=>?_)
  .unfold nV
   rw[d4,d4,fm];rw[hP.1] at hi;exact Em ()
  .obtain⟨b,rfl,hb⟩:=(hP.same s2).2 i x hx
   apply{b,rfl,{_,hb},?_};refine Aag hb (λj=>nV ((en j).map λm=>pc (val (A4 l (8*i+m))))) rfl (λj hj=>?_) (λj x H3 R3 A3 hx3 s3 kR3 kA3=>?_) (λD3 H3 hD3 s3 hl3=>?_)
   .unfold blk nV at hj
    rw[d4,d4,fm] at hj;rw[d4,d4,fm];exact Em ()
   .have hj:j<min 8 (B7 l.9-8*i):=by
     have:=(fq.mp hx3).1;unfold blk nV at this
     rwa [d4,d4,fm] at this
    have hxe:x=.int (val (A4 l (8*i+j)):Nat):=by
     unfold nV blk at hx3;rw[fj,fj,gr hj] at hx3;exact(fc hx3).symm
    subst hxe;apply{_,rfl,?_};refine kA3 _ _ ?_ (Ah.refl _);exact Jr _ _
   .unfold blk at hl3
    rw[d4,d4,fm] at hl3;apply{D3,_,rfl,SqL.of (by rw[hl3,Zf]),?_};rw[zT];refine kA _ _ ?_ s3;exact Jr _ _
  .rw[hP.1] at hl2
   apply{D2,(en (Cm l.9)).map (oI l),rfl,hl2,by rw[d4,fm];lia,λp4 H4 s4 hp4 hl4=>?_};apply{p4,_,rfl,.inl {SqL.of hl4,λp5 hp5=>?_}};have et:(en (((en (Cm l.9)).map (oI l)).9+1)).map (λi=>(((en (Cm l.9)).map (oI l)).take i).sum)=Iu l:=by
    rw[d4,fm];unfold Iu;refine jb λi hi=>?_;have hi:=iy.mp hi;rw[<-n9,List.take_range,iu (),hX]
   rw[et] at *;exact q p5 _ (((s1.trans s2).trans s4).trans (Ai hp5)) (((s1.trans s2).trans s4).free hp5) Ac
def Abi (l:Za5)(t u:ee):List (Str×V):=[("length",.int (l.9:Nat)),("kept_words",.ref t),("kept_table",.ref u)]
def A0 (K:d5)(C:ee)(H:Hp)(a:ee)(l:Za5):Prop:=∃dx t u,H a=mn (.ins C dx (Abi l t u))/\H t=mn (.tup (nV (wordsOf l)))/\H u=mn (.tup (nV (Iu l)))/\l.9<=20000
theorem A0.same {K:d5}{b:ee}{l:Za5}(s:Ah H H')(h:A0 K C H b l):A0 K C H' b l:=by
 obtain⟨dx,t,u,h1,h2,h3,h4⟩:=h;exact{dx,t,u,s _ _ h1,s _ _ h2,s _ _ h3,h4}
inductive Oj (K:d5)(CB C:ee)(vs:List V)(H:Hp)(Q:VK)(E:XK):Prop|mk(x dx b:ee)(l:Za5)(_:vs=[.ref x,.ref b])(_:H x=mn (.ins C dx []))(_:Db K CB H b l)(_:∀H',SameBut x H H'->A0 K C H' x l->Q .non H')
variable (aj:Qb K aa)
include T aj in
theorem Wn (F:Fun K "__init__" "Counts.__init__" Jq f fd)(bC:T.ZM ab "size" 1 ["self"] (Uu K ab))(bE:T.ZM ab "words" 1 ["self"] (R6 K ab))(bF:T.ZC "table_of_words" 2 ["words"] (sD K)) :
  T.ZA 3 f fd ["self","bits"] (Oj K ab aa):=by
 exists F.ok Vv
 obtain⟨x,dx,b,l,rfl,hx,hb,q⟩:=h;have hb0:=hb;obtain⟨dxb,t,hbx,ht,hl⟩:=hb0;have hbne:b≠x:=Ey hbx hx (by intro z;cases z);refine{_,(Aa (tsf (pv 0) (Cr bC hr.m (pv 1))) (Aa (tsf (pv 0) (Cr bE hr.m (pv 1))) (Ae (tsf (pv 0) (Au bF hr.m (tpa (tfl (pv 0)) Ab)))))),?_}
 apply{b,dxb,_,rfl,hbx,rfl,?_};apply{b,l,rfl,hb,?_};apply Bj hx aj.cl aj.cM (by decide) ?_;apply{b,dxb,zF l t,rfl,by rw[Al hbne];exact hbx,rfl,?_};apply{b,l,rfl,Ib As (Fo hx) hbne hb,λt2 ht2=>?_};apply Bj Ac aj.cl aj.cO (show 1<1000 by decide) ?_;rw[Kt];have ht3:(upd H x (.ins aa dx (Co "kept_words" (.ref t2) (Co "length" (.int (l.9:Nat)) [])))) t2=mn (.tup (nV (wordsOf l))):=by
  have hne:t2≠x:=Ey ht2 Ac (by intro z;cases z);rw[Al hne] at ht2 ⊢;exact ht2
 apply{x,aa,dx,_,.ref t2,rfl,Ac,aj.cl,aj.cO,rfl,?_};apply{t2,l,rfl,ht3,hl,λu H' sm hf hu=>?_};apply Bj (sm _ _ Ac) aj.cl aj.cR (show 2<1000 by decide) ?_;k_is;have hix:=sm _ _ (Ac (H:=H) (a:=x));have n1:t2≠x:=Ey (sm _ _ ht3) hix (by intro z;cases z);have n2:u≠x:=Ey hu hix (by intro z;cases z);exact q _ ((As.trans sm.but).trans As) {dx,t2,u,Ac,by rw[Al n1];exact sm _ _ ht3,by rw[Al n2];exact hu,hl}
theorem lG {l:Za5}{b:Nat}(h:b<=Cm l.9):atI (nV (Iu l)) (b:Int)=mn (.int (cnt l (256*b):Nat)):=by
 refine Bg ?_;unfold nV Iu;rw[fj,fj,gr ()];rfl
inductive R9 (K:d5)(C:ee)(vs:List V)(H:Hp)(Q:VK)(E:XK):Prop|mk(a:ee)(l:Za5)(n:Nat)(_:vs=[.ref a,.int n])(_:A0 K C H a l)(_:n<=l.9)(_:∀H',Ah H H'->Q (.int (cnt l n:Nat)) H')
include T aE aj in
theorem Qy (F:Fun K "ones_ahead" "Counts.ones_ahead" Eu f fd):T.ZA 2 f fd ["self","place"] (R9 K aa):=by
 exists F.ok Be
 obtain⟨a,l,n,rfl,⟨dx,t,u,hx,ht,hu,hl⟩,hn,q⟩:=h;refine⟨_,(Aa (tst 2 Be.nd (Ak Cp (pv 1) (Az rfl T.cL))) (Aa (tst 3 Be.nd (Ak Cp (pv 2) (Az rfl T.cP))) (Aa (tst 4 Be.nd (tix Fm (tfl (pv 0)) (pv 3))) (Aa (C0 il rfl (oU (B9 Ze (tfl (pv 0)) (Bl (Ak G4 (pv 3) (Az rfl T.cP))) (Bl (pv 2)))) (tgn 5 Be.nd) (Ae (tau 4 Be.nd (Au aE hr.m (tpa (pv 5) Ab)) Hl))) (Aa (tst 6 Be.nd (Ak Cv (pv 1) (Az rfl T.cL))) (Aa (B8 (ttc Gr (pv 6) Af) (Ae (tau 4 Be.nd (Au aE hr.m (tpa (Ak P1 (tix Fm (tfl (pv 0)) (pv 2)) (Ak Ce (Ak Agk Af (pv 6)) Af)) Ab)) Hl))
  A8) (Ae (Ap (pv 4))))))))),?_⟩
 apply{a,aa,dx,_,_,rfl,hx,aj.cl,aj.cR,rfl,?_};k_is;rw[show((n:Int)/32/8)=((n/256:Nat):Int) by lia,show((n:Int)/32)=((n/32:Nat):Int) by lia];refine Gs (SqT.of hu) (lG (by unfold Cm B7;lia)) ?_;apply{a,aa,dx,_,_,rfl,hx,aj.cl,aj.cO,rfl,?_};apply{t,_,rfl,SqT.of ht,λp2 H2 s2 hp2=>?_};rw[show((n/256:Nat):Int)*8=((8*(n/256):Nat):Int) by lia,Ol] at hp2;have e8:((nV (wordsOf l)).drop (8*(n/256))).take (n/32-8*(n/256))=nV ((en (n/32-8*(n/256))).map λj=>val (A4 l (8*(n/256)+j))):=by
  unfold nV;have:min (n/32-8*(n/256)) (B7 l.9-8*(n/256))=n/32-8*(n/256):=iu (Nat.sub_le_sub_right (by unfold B7;lia) _);rw[<-wo,<-n9,X9,this]
 rw[e8] at hp2;refine{p2,rfl,{_,hp2},?_};generalize hm:n/32-8*(n/256)=m at hp2;refine Ac1 (xs:=nV ((en m).map λj=>val (A4 l (8*(n/256)+j)))) (λi G H'=>H'=H2/\∃v5 v6:Option V,G=[mn (.ref a),mn (.int n),mn (.int ((n/32:Nat):Int)),mn (.int ((n/256:Nat):Int)),mn (.int (cnt l (32*(8*(n/256)+i)):Nat)),v5,v6]) ?_ (λi G H' _ h=>by rw[h.1];exact hp2) ?_ ?_
 .refine{rfl,tp,tp,?_}
  rw[show 32*(8*(n/256)+0)=256*(n/256) by lia];rfl
 .rintro i x G H' hx' ⟨rfl,v5,v6,rfl⟩
  have hi:i<m:=by
   have:=(fq.mp hx').1
   rwa [d4,d4,fm] at this
  have hze:x=.int (val (A4 l (8*(n/256)+i)):Nat):=by
   unfold nV at hx';rw[fj,fj,gr hi] at hx';exact(fc hx').symm
  subst hze;apply{_,rfl,?_};apply{rfl,mn (.int (val (A4 l (8*(n/256)+i)):Nat)),v6,?_};have:=iS l (8*(n/256)+i);rw[show 8*(n/256)+(i+1)=8*(n/256)+i+1 by lia,this];rfl
 .rintro G H' ⟨rfl,v5,v6,rfl⟩
  rw[show(nV ((en m).map λj=>val (A4 l (8*(n/256)+j)))).9=m by unfold nV;rw[d4,d4,fm],show 8*(n/256)+m=n/32 by lia];k_is;have ec:cnt l n=cnt l (32*(n/32))+((l.drop (32*(n/32))).take (n%32)).count MK:=by
   rw[<-sK];congr 1;lia
  refine B6 (λhr'=>?_) (λhr'=>?_)
  .have hr0:0<n%32:=()
   apply{a,aa,dx,_,_,rfl,s2 _ _ hx,aj.cl,aj.cO,rfl,?_};apply Gs (SqT.of (s2 _ _ ht)) (Tr (by unfold B7;lia)) ?_;apply Ajs {(),(),by decide} ?_;k_is;rw[xV _ (n%32) ()];refine{_,rfl,?_};k_is;rw[xG,Nv];have e2:(A4 l (n/32)).take (n%32)=(l.drop (32*(n/32))).take (n%32):=by
    unfold A4;rw[rb,iu ()]
   rw[e2];have:=q _ s2;rw[ec] at this;exact this
  .have hr0:n%32=0:=()
   k_is;have:=q _ s2;rw[ec,hr0,pf] at this;exact this
inductive qJ (K:d5)(C:ee)(vs:List V)(H:Hp)(Q:VK)(E:XK):Prop|mk(a:ee)(l:Za5)(b:Bool)(n:Nat)(_:vs=[.ref a,.int (b.toNat:Nat),.int n])(_:A0 K C H a l)(_:n<=l.9)(_:∀H',Ah H H'->Q (.int ((occ b l n).9:Nat)) H')
variable (aY:T.ZC "check_bit" 3 ["bit"] yI)
include T aD aj aY in
theorem Wi (F:Fun K "ahead" "Counts.ahead" Hk f fd)(bG:T.ZM aa "ones_ahead" 2 ["self","place"] (R9 K aa)):T.ZA 4 f fd ["self","bit","place"] (qJ K aa):=by
 exists F.ok Li
 obtain⟨a,l,b,n,rfl,hC,hn,q1⟩:=h;obtain⟨dx,t,u,hx,ht,hu,hl⟩:=id hC;refine{_,(Aa (A6 (Au aY hr.m (tpa (pv 1) Ab))) (Aa (A6 (Au aD hr.m (tpa (pv 2) (tpa (tfl (pv 0)) Ab)))) (Aa (tst 3 Li.nd (Er bG hr.m (pv 0) (tpa (pv 2) Ab))) (Ae (Ap (E5 (ttc Ed (pv 1) Af) (pv 3) (Ak Ce (pv 2) (pv 3)))))))),?_}
 apply{b,rfl,?_};apply{a,aa,dx,_,_,rfl,hx,aj.cl,aj.cM,rfl,?_};apply{n,_,rfl,(),(),?_};apply{a,dx,_,rfl,hx,rfl,?_};apply{a,l,n,rfl,hC,hn,λH' s'=>?_};k_is;have ho:=Ti l n
 cases b with
 |true=>
  refine B6 (λ_=>?_) (λz=>absurd rfl z);k_is;have:=q1 H' s';rw[ho.1] at this;exact this
 |false=>
  refine B6 (λz=>absurd z (by decide)) (λ_=>?_);k_is;have:=q1 H' s';rw[show((n:Int)-(cnt l n:Nat))=((occ ML l n).9:Nat) by lia];exact this
inductive Pk (K:d5)(C:ee)(vs:List V)(H:Hp)(Q:VK)(E:XK):Prop|mk(a:ee)(l:Za5)(b:Bool)(k:Nat)(_:vs=[.ref a,.int (b.toNat:Nat),.int k])(_:A0 K C H a l)(_:k<=Cm l.9)(_:Q (.int ((occ b l (min (256*k) l.9)).9:Nat)) H)
include T aj in
theorem Qq (F:Fun K "ahead_of_block" "Counts.ahead_of_block" Dk f fd):T.ZA 1 f fd ["self","bit","block"] (Pk K aa):=by
 exists F.ok Fa
 obtain⟨a,l,b,k,rfl,⟨dx,t,u,hx,ht,hu,hl⟩,hk,q⟩:=h;have ec:cnt l (256*k)=cnt l (min (256*k) l.9):=by
  by_cases h:256*k<=l.9
  .rw[iu h]
  .rw[rj (),Tg l (),Tg l (d8 _)]
 refine{_,(Aa (tst 3 Fa.nd (tix Fm (tfl (pv 0)) (pv 2))) (Ae (Ap (E5 (ttc Ed (pv 1) Af) (pv 3) (Ak Ce (An (Rj rfl) (by rfl) T.cS Se (tpa (Ak G4 (pv 2) (Az rfl T.dv)) (tpa (tfl (pv 0)) Ab))) (pv 3)))))),?_}
 apply{a,aa,dx,_,_,rfl,hx,aj.cl,aj.cR,rfl,?_};apply Gs (SqT.of hu) (lG hk) ?_;k_is;have ho:=Ti l (min (256*k) l.9)
 cases b with
 |true=>
  refine B6 (λ_=>?_) (λz=>absurd rfl z);k_is;rw[ho.1] at q;rw[ec];exact q
 |false=>
  refine B6 (λz=>absurd z (by decide)) (λ_=>?_);apply{a,aa,dx,_,_,rfl,hx,aj.cl,aj.cM,rfl,?_};apply{_,_,rfl,?_};k_is;have em:(if((l.9:Nat):Int)<(k:Int)*256 then((l.9:Nat):Int) else(k:Int)*256)=((min (256*k) l.9:Nat):Int):=by
   split<;>lia
  rw[em,ec,show((min (256*k) l.9:Nat):Int)-(cnt l (min (256*k) l.9):Nat)=((occ ML l (min (256*k) l.9)).9:Nat) by lia];exact q
inductive T4 (K:d5)(C:ee)(vs:List V)(H:Hp)(Q:VK)(E:XK):Prop|mk(a:ee)(l:Za5)(b:Bool)(_:vs=[.ref a,.int (b.toNat:Nat)])(_:A0 K C H a l)(_:Q (.int ((occ b l l.9).9:Nat)) H)
theorem Yp (l:Za5):(nV (Iu l)).9=Cm l.9+1:=by
 unfold nV Iu;rw[d4,d4,fm]
theorem oQ (l:Za5):min (256*Cm l.9) l.9=l.9:=by unfold Cm B7;lia
variable (aG:T.ZM aa "ahead_of_block" 1 ["self","bit","block"] (Pk K aa))
include T aj aG in
theorem Q5 (F:Fun K "many_like" "Counts.many_like" Fi f fd):T.ZA 2 f fd ["self","bit"] (T4 K aa):=by
 exists F.ok Nh
 obtain⟨a,l,b,rfl,hC,q⟩:=h;obtain⟨dx,t,u,hx,ht,hu,hl⟩:=id hC;refine{_,(Ae (Ap (Er aG hr.m (pv 0) (tpa (pv 1) (tpa (Ak Ce (An Ao (by rfl) T.cJ Bp (tpa (tfl (pv 0)) Ab)) Af) Ab))))),?_};apply{a,dx,_,rfl,hx,rfl,?_};apply{a,aa,dx,_,_,rfl,hx,aj.cl,aj.cR,rfl,?_};apply{u,_,rfl,.inr (SqT.of hu),?_};rw[Yp];apply{a,l,b,Cm l.9,?_,hC,d8 _,?_}
 .rw[show(((Cm l.9+1:Nat):Int)-1)=((Cm l.9:Nat):Int) by lia]
  rfl
 .rw[oQ]
  exact q
theorem A0.sameT {K:d5}{b:ee}{l:Za5}(s:Hj H H')(h:A0 K C H b l):A0 K C H' b l:=by
 obtain⟨dx,t,u,h1,h2,h3,h4⟩:=h;exact{dx,t,u,s.keep _ _ (by intro ps e;cases e) h1,s.tup h2,s.tup h3,h4}
theorem A0.sm {K:d5}{b:ee}{ts:List Tb}{l:Za5}(h:A0 K C H b l)(s:SmT ts H H'):A0 K C H' b l:=h.sameT s.sm
inductive Mo (K:d5)(C:ee)(ts:List Tb)(vs:List V)(H:Hp)(Q:VK)(E:XK):Prop|mk(a:ee)(l:Za5)(b:Bool)(n:Nat)(_:vs=[.ref a,.int (b.toNat:Nat),.int n])(_:A0 K C H a l)(_:n<(occ b l l.9).9)(_:Tbs ts H)(_:∀(k:Nat) (H':Hp),k<Cm l.9->(occ b l (256*k)).9<=n->SmT ts H H'->Q (.int k) H')
variable (hK:K.In base) (hB:base.BuiltinsAt mg Pt) (aH:T.ZC "first_that" 3 ["low","high","holds"] (Tm P w K mg base 2))
include T aj aG hK hB aH in
theorem Qx {f c:ee}(F:U5 K "block_with" "Counts.block_with" Bt f fd c Pt)(hts:({Pt,F6,"Counts.block_with.<locals>.<lambda>"}:Tb)∈ts):T.ZA 4 f fd ["self","bit","nth"] (Mo K aa ts):=by
 refine F.ok Lv (λvs H Q E h=>?_) (λA outer s H vs Q E hr h=>?_)
 .obtain⟨a,l,b,n,rfl,_⟩:=h
  rfl
 .obtain⟨a,l,b,n,rfl,hC,hn,hT,q⟩:=h
  obtain⟨dx,t,u,hx,ht,hu,hl⟩:=id hC;have hpos:0<Cm l.9:=by
   have:0<l.9:=by
    rcases n5 l.9 with z|z
    .rw[z] at hn
     exact absurd hn (AS _)
    .exact z
   unfold Cm B7;lia
  refine{_,(Ae (Ap (pF (qual:="Counts.block_with.<locals>.<lambda>") (k:=1) aH hr.m Af (Ak Ce (An Ao (by rfl) T.cJ Bp (tpa (tfl (pv 0)) Ab)) Af) (F.code hK) hB rfl (by kernel_rfl) Ju (λ_ _ _ _ _ _ _ hr=>(tpc Gr (Er aG hr.m (pv 3) (tpa (pv 1) (tpa (Ak Bc (pv 0) Af) Ab))) (pv 2)))))),?_};apply{a,aa,dx,_,_,rfl,hx,aj.cl,aj.cR,rfl,?_};apply{u,_,rfl,.inr (SqT.of hu),?_};rw[Yp];k_is;have hk:=hT.1 _ hts;refine{0,((Cm l.9-1:Nat):Int),λi=>decide (n<(occ b l (min (256*(i.toNat+1)) l.9)).9),rfl,?_,(),hk,λi H3 hi1 hi2 s3=>?_,λm H' hm1 hm2 hm3 hm4 s' t'=>?_}
  .rw[show(((Cm l.9+1:Nat):Int)-2)=((Cm l.9-1:Nat):Int) by lia]
  .obtain⟨pt,hpt⟩:=Tb.tbl hk
   have kp:∀{b:ee} {u:HO},(∀ps,u≠.tbl ps)->H b=mn u->H3 b=mn u:=λ{b u} nt e=>s3 b u (λz=>by rw[z,hpt] at e;cases e;exact nt pt rfl) e;have hx3:=kp (by intro ps e;cases e) hx;have hC3:A0 K aa H3 a l:={dx,t,u,hx3,kp (by intro ps e;cases e) ht,kp (by intro ps e;cases e) hu,hl};apply{a,dx,_,rfl,hx3,rfl,?_};k_is;obtain⟨k,rfl⟩:=l7 hi1;refine{a,l,b,k+1,rfl,hC3,(),?_};apply{?_,Ah.refl _};rw[ig];exact congrArg V.bl (decide_eq_decide.mpr ())
  .obtain⟨k,rfl⟩:=l7 hm1
   have hk1:k<Cm l.9:=()
   have h256:256*k<=l.9:=by unfold Cm B7 at hk1;lia
   refine q k H' hk1 ?_ (sM hT hts s' t');rcases n5 k with rfl|hk0
   .exact gy _
   .have:=hm3 ()
    dsimp only at this;rw[show(((k:Int)-1).toNat+1)=k by lia,iu h256] at this;have:=of_decide_eq_false this;lia
inductive Sl (K:d5)(C:ee)(vs:List V)(H:Hp)(Q:VK)(E:XK):Prop|mk(a:ee)(l:Za5)(b:Bool)(j k t:Nat)(_:vs=[.ref a,.int (b.toNat:Nat),.int j,.int k])(_:A0 K C H a l)(_:(occ b l (32*B7 l.9))[(occ b l (32*j)).9+k]?=mn t)(_:∀H',Ah H H'->Q (.int t) H')
theorem O6 {b:Bool}{l:Za5}{W j k t:Nat}(h:(occ b l (32*W))[(occ b l (32*j)).9+k]?=mn t):j<W:=by
 rcases ud j W with z|z
 .exact z
 .exfalso
  have h1:=(fq.mp h).1;have h2:=Afd (b:=b) (l:=l) (show 32*W<=32*j by lia);lia
theorem oM {b:Bool}{l:Za5}{W j k t p:Nat}(h:(occ b l (32*W))[(occ b l (32*j)).9+k]?=mn t)(hp:(Nb b l j)[k]?=mn p):t=32*j+p:=by
 have hj:=O6 h;have hk:=(fq.mp hp).1;have hlen:(occ b l (32*(j+1))).9=(occ b l (32*j)).9+(Nb b l j).9:=by rw[T9,d7,d4]
 rw[Zh (show 32*(j+1)<=32*W by lia) (),T9,fg (jz _ _),i0,fj,hp] at h;exact(fc h).symm
theorem pG {b:Bool}{l:Za5}{W j k t:Nat}(h:(occ b l (32*W))[(occ b l (32*j)).9+k]?=mn t)(hp:(Nb b l j)[k]?=tp):(Nb b l j).9<=k/\(occ b l (32*W))[(occ b l (32*(j+1))).9+(k-(Nb b l j).9)]?=mn t:=by
 have hk:=List.getElem?_eq_none_iff.mp hp;refine{hk,?_};rw[T9,d7,d4,show(occ b l (32*j)).9+(Nb b l j).9+(k-(Nb b l j).9)=(occ b l (32*j)).9+k by lia];exact h
include T aE aj in
theorem Qz (F:Fun K "place_from" "Counts.place_from" Es f fd)(bp:T.ZC "nth_one" 2 ["word","nth"] Ad1):T.ZA 3 f fd ["self","bit","number","nth"] (Sl K aa):=by
 exists F.ok B1
 obtain⟨a,l,b,j,k,t,rfl,⟨dx,tw,u,hx,ht,hu,hl⟩,hp,q⟩:=h;refine{_,(Aa (tst 4 B1.nd (E5 (ttc Ed (pv 1) Af) Af (Az rfl T.dn))) (Aa (tst 5 B1.nd (Au bp hr.m (tpa (Ak pH (tix Fm (tfl (pv 0)) (pv 2)) (pv 4)) (tpa (pv 3) Ab)))) (Aa (E6 il (mX (pR (pv 5))) (Aa (tau 3 B1.nd (Au aE hr.m (tpa (Ak pH (tix Fm (tfl (pv 0)) (pv 2)) (pv 4)) Ab)) Zv) (Aa (tau 2 B1.nd Af Hl) (Ae (tst 5 B1.nd (Au bp hr.m (tpa (Ak pH (tix Fm (tfl (pv 0)) (pv 2)) (pv 4)) (tpa (pv 3) Ab)))))))) (Ae (Ap (Ak Bc (Ak G4 (pv 2) (Az rfl T.cL)) (pv 5))))))),?_}
 have hfl:∀{G:St} {H1:Hp} {Q':VK},Q' (.int (Pe b:Nat)) H1->(if decide (V.int (b.toNat:Nat)=V.int 1)=MK then tC (.int 0) G H1 Q' else tC (.int 4294967295) G H1 Q'):=λ{G H1 Q'} h=>by
  cases b with
  |true=>exact B6 (λ_=>h) (λz=>absurd rfl z)
  |false=>exact B6 (λz=>absurd z (by decide)) (λ_=>h)
 have hj0:=O6 hp;apply hfl ?_;apply{a,aa,dx,_,_,rfl,hx,aj.cl,aj.cO,rfl,?_};apply Gs (SqT.of ht) (Tr hj0) ?_;k_is;rw[Ux];refine{_,k,rfl,λH1 s1=>?_};rw[kT];apply Fz (λG H'=>Ah H H'/\∃j k:Nat,G=[mn (.ref a),mn (.int (b.toNat:Nat)),mn (.int j),mn (.int k),mn (.int (Pe b:Nat)),mn (Aic ((Nb b l j)[k]?))]/\(occ b l (32*B7 l.9))[(occ b l (32*j)).9+k]?=mn t) (λG _=>match G with | [_,_,mn (.int j),_,_,_]=>B7 l.9-j.toNat|_=>0) ⟨s1,j,k,rfl,hp⟩ ?_;rintro μ G H2 ⟨s2,j,k,rfl,hp⟩ QS;have hj:=O6 hp;have QS:B7 l.9-j=μ:=QS;k_is
 cases hw:(Nb b l j)[k]? with
 |some p=>
  have:=oM hp hw;subst this;refine B6 (λz=>absurd z (by intro y;cases y)) (λ_=>?_);k_is;have:=q H2 s2;show rI0 _ _ (V.int ((p:Nat):Int)) H2 Q;refine Ad8 ?_;rw[show((j:Int)*32+((p:Nat):Int))=((32*j+p:Nat):Int) by lia];exact this
 |none=>
  obtain⟨hk,hp'⟩:=pG hp hw;refine B6 (λ_=>?_) (λz=>absurd rfl z);refine Kl ?_;apply{a,aa,dx,_,_,rfl,s2 _ _ hx,aj.cl,aj.cO,rfl,?_};apply Gs (SqT.of (s2 _ _ ht)) (Tr hj) ?_;k_is;rw[Ux];refine{_,rfl,?_};rw[Ace];apply{a,aa,dx,_,_,rfl,s2 _ _ hx,aj.cl,aj.cO,rfl,?_};k_is;rw[show((j:Int)+1)=((j+1:Nat):Int) by lia,show((k:Int)-((Nb b l j).9:Nat))=((k-(Nb b l j).9:Nat):Int) by lia];refine Gs (SqT.of (s2 _ _ ht)) (Tr (O6 hp')) ?_;k_is;rw[Ux];refine{_,k-(Nb b l j).9,rfl,λH3 s3=>?_};rw[kT];apply{{s2.trans s3,j+1,k-(Nb b l j).9,rfl,hp'},?_};show B7 l.9-(j+1)<μ;lia
inductive Yc (K:d5)(C:ee)(ts:List Tb)(vs:List V)(H:Hp)(Q:VK)(E:XK):Prop|mk(a:ee)(l:Za5)(b:Bool)(n tt:Nat)(_:vs=[.ref a,.int (b.toNat:Nat),.int n])(_:A0 K C H a l)(_:Tbs ts H)(_:(occ b l l.9)[n]?=mn tt)(_:∀H',SmT ts H H'->Q (.int tt) H')
include T aD aj aY aG in
theorem Q6 (F:Fun K "place_of" "Counts.place_of" F5 f fd)(bH:T.ZM aa "many_like" 2 ["self","bit"] (T4 K aa))(bI:T.ZM aa "block_with" 4 ["self","bit","nth"] (Mo K aa ts))(bJ:T.ZM aa "place_from" 3 ["self","bit","number","nth"] (Sl K aa)):T.ZA 5 f fd ["self","bit","nth"] (Yc K aa ts):=by
 exists F.ok Hn
 obtain⟨a,l,b,n,tt,rfl,hC,hT,htt,q1⟩:=h;obtain⟨dx,t,u,hx,ht,hu,hl⟩:=id hC;refine{_,(Aa (A6 (Au aY hr.m (tpa (pv 1) Ab))) (Aa (A6 (Au aD hr.m (tpa (pv 2) (tpa (Ak Ce (Er bH hr.m (pv 0) (tpa (pv 1) Ab)) Af) Ab)))) (Aa (tst 3 Hn.nd (Er bI hr.m (pv 0) (tpa (pv 1) (tpa (pv 2) Ab)))) (Ae (Ap (Er bJ hr.m (pv 0) (tpa (pv 1) (tpa (Ak G4 (pv 3) (Az rfl T.cP)) (tpa (Ak Ce (pv 2) (Er aG hr.m (pv 0) (tpa (pv 1) (tpa (pv 3) Ab)))) Ab))))))))),?_}
 apply{b,rfl,?_};apply{a,dx,_,rfl,hx,rfl,?_};apply{a,l,b,rfl,hC,?_};k_is;have hn:=Ci htt;refine{n,_,rfl,(),(),?_};apply{a,dx,_,rfl,hx,rfl,?_};apply{a,l,b,n,rfl,hC,hn,hT,λkb H1 hkb hle s1=>?_};have h256:256*kb<=l.9:=by unfold Cm B7 at hkb;lia
 have hx1:=s1.k hx;have hC1:=hC.sm s1;apply{a,dx,_,rfl,hx1,rfl,?_};apply{a,dx,_,rfl,hx1,rfl,?_};apply{a,l,b,kb,rfl,hC1,(),?_};rw[iu h256];apply{a,l,b,8*kb,n-(occ b l (256*kb)).9,tt,?_,hC1,?_,λH' s'=>?_}
 .rw[show((kb:Int)*8)=((8*kb:Nat):Int) by lia,show((n:Int)-((occ b l (256*kb)).9:Nat))=((n-(occ b l (256*kb)).9:Nat):Int) by lia]
  rfl
 .rw[show 32*(8*kb)=256*kb by lia,show(occ b l (256*kb)).9+(n-(occ b l (256*kb)).9)=n by lia,Zh (fX l.9) hn]
  exact htt
 .k_is
  exact q1 H' (s1.then s')
theorem Db.keep {K:d5}{b:ee}{l:Za5}(h:Db K C H b l)(k:∀c u,(∀ps,u≠.tbl ps)->(c=b\/∃xs,u=.tup xs)->H c=mn u->H' c=mn u):Db K C H' b l:=by
 obtain⟨dx,t,h1,h2,h3⟩:=h;exact{dx,t,k _ _ (by intro ps e;cases e) (.inl rfl) h1,k _ _ (by intro ps e;cases e) (.inr {_,rfl}) h2,h3}
theorem A0.keep {K:d5}{b:ee}{l:Za5}(h:A0 K C H b l)(k:∀c u,(∀ps,u≠.tbl ps)->(c=b\/∃xs,u=.tup xs)->H c=mn u->H' c=mn u):A0 K C H' b l:=by
 obtain⟨dx,t,u,h1,h2,h3,h4⟩:=h;exact{dx,t,u,k _ _ (by intro ps e;cases e) (.inl rfl) h1,k _ _ (by intro ps e;cases e) (.inr {_,rfl}) h2,k _ _ (by intro ps e;cases e) (.inr {_,rfl}) h3,h4}
def ahV (es:Za4)(i:Nat):V:=if i=0 then .non else .int (es.getD (i-1) 0:Nat)
theorem lC (l:Za5):(l.map λb=>[b]).flatten=l:=by
 induction l with
 |nil=>rfl
 |cons b r ih=>rw[gt,im,ih];rfl
def bgB (es:Za4):Za5:=(en es.9).map λi=>!decide (V.int (es.getD i 0:Nat)=ahV es i)
inductive Vn (K:d5)(CC:ee)(vs:List V)(H:Hp)(Q:VK)(E:XK):Prop|mk(l:ee)(es:Za4)(_:vs=[.ref l])(_:H l=mn (.lst (nV es)))(_:es.9<=4000)(_:∀c H',Ah H H'->H c=tp->A0 K CC H' c (bgB es)->Q (.ref c) H')
variable (aI:T.ZN "Counts" aa 3 ["self","bits"] (Oj K ab aa)) (aJ:T.ZN "Bits" ab 3 ["self","text"] (Ut K ab))
include T aI aJ in
theorem eZ (F:Fun K "begins_of" "begins_of" Ja f fd):T.ZA 5 f fd ["things"] (Vn K aa):=by
 exists F.ok Ov
 obtain⟨l,es,rfl,hl,hn,q⟩:=h;refine{_,(Aa (Kd (i:=1) rfl Vk Ov.nd rfl rfl (Ro rfl T.de (tpa (Ak Jj (Bs (tpa P3 Ab)) (pv 0)) (tpa (pv 0) Ab))) (λ_ _ _ _=>Bx) (λ_ _ _ _=>(E5 (ttc kN (pv 1) (pv 0)) Cy Cy))) (Ae (Ap (Ij aI hr.m (tpa (Ij aJ hr.m (tpa (Cl kh o6 o3 M5 Cy (tpa (pv 1) Ab)) Ab)) Ab))))),?_}
 apply{few (by simp),λp hp=>?_};obtain⟨u1,hp1⟩:=Bz (o:=.lst [V.non]) hp;have hl1:=u1 _ _ hl;generalize upd H p _=H1 at *;apply{p,l,_,_,rfl,rfl,hp1,hl1,gz (Ag (by rw[Dh,nj];lia)),λp2 hp2=>?_};obtain⟨u2,hp3⟩:=Bz (o:=.lst ([V.non]++nV es)) hp2;have hl2:=u2 _ _ hl1;have s2:=u1.trans u2;generalize upd H1 p2 _=H2 at *;apply{p2,l,rfl,{_,SqL.of hp3},{_,SqL.of hl2},?_};refine Aad (SqL.of hp3) (SqL.of hl2) (λi=>((bgB es).take i).map λb:Bool=>V.str (Aq [b])) rfl (λi hi=>?_) (λi x y H3 R A hx hy s3 _ hA=>?_) (λD H3 hD3 s3 h3=>?_)
 .rw[d4,fk]
  rw[Dh] at hi;exact Ag (iw (AT _ _) ())
 .obtain⟨n,hn2,rfl⟩:=N6 hy
  have hi:=Ci hn2;obtain rfl:x=ahV es i:=by
   cases i with
   |zero=>exact(fc hx).symm
   |succ j=>
    have hx:(nV es)[j]?=mn x:=hx;obtain⟨m,hm,rfl⟩:=N6 hx;unfold ahV jw;rw[if_neg (),show j+1-1=j by lia,hm];rfl
  have hsc:zR (V.int (n:Nat)) (ahV es i)=MK:=by
   unfold ahV;split<;>rfl
  have hb:(bgB es)[i]?=mn (!decide (V.int (n:Nat)=ahV es i)):=by
   unfold bgB jw;rw[fj,gr hi];simp only[rz,hn2,qc]
  apply{hsc,?_}
  cases hb2:(!decide (V.int (n:Nat)=ahV es i)) with
  |true=>
   apply hA _ _ ?_ (Ah.refl _);rw[ie,hb,hb2,fb];rfl
  |false=>
   apply hA _ _ ?_ (Ah.refl _);rw[ie,hb,hb2,fb];rfl
 have hbl:(bgB es).9=es.9:=by unfold bgB;rw[d4,fm]
 apply{rfl,?_};apply O1 (ls:=(bgB es).map λb=>[b]) ?_ ?_ ?_
 .rw[h3,fv (by rw[hbl,Dh,d7,Dh,nj];lia),jm]
  rfl
 .rw[lC,hbl]
  lia
 rw[lC];k_is;intro b db hb hdb hbd;refine{b,db,bgB es,rfl,Ac,(),λH5 s5 hB=>{rfl,?_}};have s5:=En hb hdb s5;k_is;intro c dc hc hdc hcd;refine{c,dc,b,_,rfl,Ac,(hB.keep λc u _ _ e=>E3 hc hdc _ _ e),λH6 s6 hC=>{rfl,?_}};have s6:=En hc hdc s6;have s25:=(s2.trans s3).trans s5;exact q c H6 (s25.trans s6) (s25.free hc) hC
inductive kH(vs:List V)(H:Hp)(Q:VK)(E:XK):Prop|mk(a:ee)(xs:List V)(_:vs=[.ref a])(_:H a=mn (.lst xs))(_:qG xs)(_:xs.9<=5000)(_:∀H',Ah H H'->Q .non H')
include T aF in
theorem W2 (F:Fun K "check_order" "check_order" Jo f fd):T.ZA 3 f fd ["order"] kH:=by
 exists F.ok Fv
 obtain⟨a,xs,rfl,ha,hG,hn,q⟩:=h;refine⟨_,(Aa (tst 1 Fv.nd (Ak Nx (Bs (tpa Of Ab)) (An Ao (by rfl) T.cJ Bp (tpa (pv 0) Ab)))) (Ae (C0 il rfl (fM rfl T.dA (tpa (pv 0) Ab)) (Uf rfl (E1 (tgn 2 Fv.nd) (E1 (tgn 3 Fv.nd) Pj))) (Aa (B8 (PW.pt (Nt (Ic (Fl (Au aF hr.m (tpa (pv 3) (tpa Af (tpa (Ak Ce (An Ao (by rfl) T.cJ Bp (tpa (pv 0) Ab)) Af) Ab)))))) (N4 (Fl (tix By (pv 1) (pv 3)))))) (Ae Dv)
  A8) (Ae (mJ Of (nE (pv 1) (pv 3) Ma))))))),?_⟩
 apply{few (by simp),λp hp=>?_};have t0:=Ai (o:=.lst [V.bl ML]) hp;apply{a,_,rfl,.inl (SqL.of (t0 _ _ ha)),?_};apply{p,xs.9,_,rfl,rfl,Ac,(),(),gz (Ag (by simp;lia)),λm hm=>?_};have hm0:=t0.free hm;have t1:=t0.trans (Ai (o:=.lst (d9 ((xs.9:Nat):Int).toNat [V.bl ML]).flatten) hm);have hM:(upd (upd H p (.lst [V.bl ML])) m (.lst (d9 ((xs.9:Nat):Int).toNat [V.bl ML]).flatten)) m=mn (.lst ((d9 xs.9 ML).map V.bl)):=by
  rw[Ac,ig,xC]
 generalize (upd (upd H p (.lst [V.bl ML])) m (.lst (d9 ((xs.9:Nat):Int).toNat [V.bl ML]).flatten))=H0 at *;apply{a,rfl,{_,SqL.of (t1 _ _ ha)},?_};refine kW (xs:=xs) (λk G H1=>(∃(ms:Za5) (v2 v3:Option V),G=[mn (.ref a),mn (.ref m),v2,v3]/\Met xs k ms/\H1 m=mn (.lst (ms.map V.bl)))/\Ah H H1) ?_ (λk G H1 _ h=>SqL.of (h.2 _ _ ha)) ?_ ?_
 .exact{{_,_,_,rfl,zJ xs,hM},t1}
 .rintro k x G H1 t hx ⟨⟨ms,v2,v3,rfl,hms,hm1⟩,s1⟩ ht
  have hk:=Ci hx;have st:=Ai (o:=.tup [.int k,x]) ht;have hm2:=st _ _ hm1;have s2:=s1.trans st;generalize upd H1 t _=H2 at *;obtain⟨n,hxn,hnl,hno⟩:=hG k hk;rw[hx] at hxn;obtain rfl:=fc hxn;obtain⟨b,hb⟩:∃b,ms[n]?=mn b:={_,d6 (by rw[hms.1];exact hnl)};obtain rfl:b=ML:=by
   cases b with
   |false=>rfl
   |true=>
    obtain⟨j,hj,hxj⟩:=(hms.2 n MK hb).mp rfl;exact absurd hxj (hno j hj)
  apply{a,_,rfl,.inl (SqL.of (s2 _ _ ha)),?_};apply{n,0,_,rfl,(),(),?_};apply Cw (SqL.of hm2) (Bg (Ad0 hb)) ?_;apply Vw hm2 rfl (by rw[d4,hms.1];exact hnl) ?_;rw[zE];k_is;exact{{_,_,_,rfl,zS hms hx,Ac},A9 s2 hm0}
 .rintro G H1 ⟨⟨ms,v2,v3,rfl,hms,hm1⟩,s1⟩
  exact q H1 s1
def isF:V->Bool
 |.bl ML=>MK
 |_=>ML
def fAt (H:Hp)(m:ee):Nat:=match H m with|some (.lst xs)=>xs.countP isF|_=>0
theorem Ag5 (ms:Za5):(ms.map V.bl).countP isF=ms.count ML:=by
 induction ms with
 |nil=>rfl
 |cons b r ih=>cases b<;>simp[isF,zu,sf,ih]
theorem xN {m:ee}{ms:Za5}(h:H m=mn (.lst (ms.map V.bl))):fAt H m=ms.count ML:=by
 unfold fAt;rw[h];exact Ag5 ms
theorem qL:∀{ms:Za5} {y:Nat},ms[y]?=mn ML->(ms.set y MK).count ML+1=ms.count ML
 |[],_,h=>by cases h
 |b::r,0,h=>by
  cases h;simp
 |b::r,y+1,h=>by
  have ih:=qL (ms:=r) (y:=y) h;rw[List.set_cons_succ,sf,sf];lia
def Ef (H:Hp)(n:Nat)(rs:List ee):Prop:=∀r∈rs,∃ns:List Int,ns.9<=n/\H r=mn (.lst (ns.map V.int))
theorem Ef.same {rs:List ee}(s:Ah H H')(h:Ef H n rs):Ef H' n rs:=λr hr=>let ⟨ns,hl,e⟩:=h r hr;{ns,hl,s _ _ e}
theorem Ef.upd {rs:List ee}{a:ee}{o:HO}(h:Ef H n rs)(hn:∀r∈rs,r≠a):Ef (upd H a o) n rs:=λr hr=>by
 obtain⟨ns,hl,e⟩:=h r hr;exact{ns,hl,by rw[Al (hn r hr)];exact e}
inductive mB(vs:List V)(H:Hp)(Q:VK)(E:XK):Prop|mk(t:ee)(ns:Za4)(_:vs=[.ref t])(_:H t=mn (.tup (nV ns)))(_:(∀x∈ns,x<ns.9))(_:ns.9<=5000)(_:∀p (rs:List ee) H',Ah H H'->H p=tp->H' p=mn (.lst (rs.map V.ref))->rs.9<=ns.9->Ef H' ns.9 rs->Q (.ref p) H')
include T in
theorem eO (F:Fun K "rounds_of" "rounds_of" L8 f fd):T.ZA 1 f fd ["order"] mB:=by
 exists F.ok Dq
 obtain⟨t,ns,rfl,ht,hb,hn,q⟩:=h;have hlV:(nV ns).9=ns.9:=by rw[d4]
 refine⟨_,(Aa (tst 1 Dq.nd (Bs Ab)) (Aa (tst 2 Dq.nd (Ak Nx (Bs (tpa Of Ab)) (An Ao (by rfl) T.cJ Bp (tpa (pv 0) Ab)))) (Aa (C0 il rfl (D0 rfl T.cK (tpa (An Ao (by rfl) T.cJ Bp (tpa (pv 0) Ab)) Ab)) (tgn 3 Dq.nd) (Aa (tst 4 Dq.nd (Bs Ab)) (Aa (tst 5 Dq.nd (pv 3)) (Aa (E6 il (Ic (Fl (tix By (pv 2) (pv 5)))) (Aa (mJ Of (nE (pv 2) (pv 5) Ma)) (Aa (A6 (Cl gj i6 i5 B0 (pv 4) (tpa (pv 5) Ab))) (Ae (tst 5 Dq.nd (tix Fm (pv 0) (pv 5))))))) (Ae (B8 (ttc Gr (An Ao (by rfl) T.cJ Bp (tpa (pv 4) Ab)) Af) (Ae (A6 (Cl gj i6 i5 B0 (pv 1) (tpa (pv 4) Ab))))
  A8)))))) (Ae (Ap (pv 1)))))),?_⟩
 apply{gy _,λp hp=>?_};obtain⟨t0,e0⟩:=Bz (o:=.lst []) hp;generalize upd H p _=H0 at *;apply{few (by simp),λp1 hp1=>?_};have t1:=Ai (o:=.lst [V.bl ML]) hp1;have s1:=t0.trans t1;have e1:=t1 _ _ e0;have f1:=@Ac H0 p1 (.lst [V.bl ML]);generalize upd H0 p1 _=H1 at *;apply{t,_,rfl,.inr (SqT.of (s1 _ _ ht)),?_};apply{p1,_,_,rfl,rfl,f1,(),by rw[hlV];lia,gz (Ag (by simp;lia)),λm hm=>?_};have t2:=Ai (o:=.lst (d9 (((nV ns).9:Nat):Int).toNat [V.bl ML]).flatten) hm;have s2:=s1.trans t2;have hm0:=s1.free hm;have e2:=t2 _ _ e1;have hpm:p≠m:=Am e1 hm;have hM:(upd H1 m (.lst (d9 (((nV ns).9:Nat):Int).toNat [V.bl ML]).flatten)) m=mn (.lst ((d9 ns.9 ML).map V.bl)):=by
  rw[Ac,ig,hlV,xC]
 generalize (upd H1 m (.lst (d9 (((nV ns).9:Nat):Int).toNat [V.bl ML]).flatten))=H2 at *;apply{t,_,rfl,.inr (SqT.of (s2 _ _ ht)),?_};apply{_,rfl,(),by rw[hlV];lia,?_};rw[hlV,ig];refine Gc (λi G H3=>∃(rs:List ee) (ms:Za5) (v3 v4 v5:Option V),G=[mn (.ref t),mn (.ref p),mn (.ref m),v3,v4,v5]/\H3 p=mn (.lst (rs.map V.ref))/\rs.9<=i/\Ef H3 ns.9 rs/\(∀r∈rs,r≠p/\r≠m)/\H3 m=mn (.lst (ms.map V.bl))/\ms.9=ns.9/\Ah H H3) ?_ ?_ ?_
 .exact{[],_,_,_,_,rfl,e2,d8 _,(λr hr=>by cases hr),(λr hr=>by cases hr),hM,gx,s2}
 .rintro i G H3 hi ⟨rs,ms,v3,v4,v5,rfl,hp3,hrl,hrs,hne,hm3,hml,s3⟩
  apply{gy _,λa ha=>?_};have ta:=Ai (o:=.lst []) ha;have ha0:=s3.free ha;have hap:a≠p:=(Am hp3 ha).symm;have ham:a≠m:=(Am hm3 ha).symm;have har:∀r∈rs,r≠a:=λr hr=>by obtain⟨_,_,e⟩:=hrs r hr;exact Am e ha
  have s4:=s3.trans ta;have hp4:=ta _ _ hp3;have hm4:=ta _ _ hm3;have hrs4:=hrs.same ta;have ha4:=@Ac H3 a (.lst []);generalize upd H3 a _=H4 at *;apply Fz (λG H5=>∃(ms:Za5) (qs:List Int) (y:Nat),G=[mn (.ref t),mn (.ref p),mn (.ref m),mn (.int (0+(i:Int))),mn (.ref a),mn (.int y)]/\y<ns.9/\H5 p=mn (.lst (rs.map V.ref))/\Ef H5 ns.9 rs/\H5 m=mn (.lst (ms.map V.bl))/\ms.9=ns.9/\H5 a=mn (.lst (qs.map V.int))/\qs.9+ms.count ML<=ns.9/\Ah H H5) (λ_ H5=>fAt H5 m)
   {ms,[],i,by simp,hi,hp4,hrs4,hm4,hml,ha4,by have:=List.count_le_length (a:=ML) (l:=ms);simp;lia,s4} ?_
  rintro z G H5 ⟨ms,qs,y,rfl,hy,hp5,hrs5,hm5,hml5,ha5,hc5,s5⟩ hz;rw[xN hm5] at hz;obtain⟨b,hb5⟩:∃b,ms[y]?=mn b:={_,d6 ()};apply Cw (SqL.of hm5) (Bg (Ad0 hb5)) ?_
  cases b with
  |false=>
   apply Kl ?_;apply Vw hm5 rfl (by rw[d4];lia) ?_;rw[zE];have hct:=qL hb5;have hm6:=@Ac H5 m (.lst ((ms.set y MK).map V.bl));have s6:=A9 (o:=.lst ((ms.set y MK).map V.bl)) s5 hm0;have ha6:upd H5 m (.lst ((ms.set y MK).map V.bl)) a=mn (.lst (qs.map V.int)):=by rw[Al ham];exact ha5
   have hp6:upd H5 m (.lst ((ms.set y MK).map V.bl)) p=mn (.lst (rs.map V.ref)):=by rw[Al hpm];exact hp5
   have hrs6:Ef (upd H5 m (.lst ((ms.set y MK).map V.bl))) ns.9 rs:=hrs5.upd λr hr=>(hne r hr).2;generalize upd H5 m _=H6 at *;apply{.inl {rfl,_,SqL.of ha6},?_};apply Ca ha6 (by rw[d4];exact Ag ()) ?_;k_is;have hx:ns[y]?=mn ns[y]:=d6 hy;have hlt:=hb _ (gi hx);generalize ns[y]=x at hx hlt;refine Gs (SqT.of ((A9 s6 ha0) _ _ ht)) (v:=.int x) (Bg (by rw[fj,hx];rfl)) ?_;apply{{ms.set y MK,qs++[(y:Int)],x,rfl,hlt,by rw[Al hap.symm];exact hp6,hrs6.upd har,by rw[Al ham.symm];exact hm6,by rw[se];exact hml5,by rw[Ac,fb];rfl,by rw[d7];simp;lia,A9 s6 ha0},?_};rw[xN (ms:=ms.set y MK) (by rw[Al ham.symm];exact hm6)];lia
  |true=>
   apply{a,_,rfl,.inl (SqL.of ha5),?_};apply B6 (λ_=>?_) (λ_=>?_)
   .apply{.inl {rfl,_,SqL.of hp5},?_};apply Ca hp5 (by rw[d4];exact Ag ()) ?_;apply{rs++[a],ms,_,_,_,rfl,by rw[Ac,fb];rfl,by rw[d7];simp;lia,λr hr=>?_,λr hr=>?_,by rw[Al hpm.symm];exact hm5,hml5,A9 s5 hp}
    .rcases jf.mp hr with hr|hr
     .exact(hrs5.upd λr hr=>(hne r hr).1) r hr
     .rw[gl.mp hr]
      exact{qs,(),by rw[Al hap];exact ha5}
    .rcases jf.mp hr with hr|hr
     .exact hne r hr
     .rw[gl.mp hr]
      exact⟨hap,ham⟩
   .k_is
    exact{rs,ms,_,_,_,rfl,hp5,(),hrs5,hne,hm5,hml5,s5}
 .rintro G H3 ⟨rs,ms,v3,v4,v5,rfl,hp3,hrl,hrs,hne,hm3,hml,s3⟩
  k_is;exact q p rs H3 s3 hp hp3 hrl hrs
theorem pP (ys:List V):(Ha ys (mn (-1)) tp++Ha ys tp (mn (-1))).9=ys.9:=by
 rw[d7];unfold Ha;rw[fk,fk,i9,i9];show min (ys.9-(if(-1:Int)<0 then((-1:Int)+(ys.9:Int)).toNat else min (-1:Int).toNat ys.9)) (ys.9-(if(-1:Int)<0 then((-1:Int)+(ys.9:Int)).toNat else min (-1:Int).toNat ys.9))
  + min ((if(-1:Int)<0 then((-1:Int)+(ys.9:Int)).toNat else min (-1:Int).toNat ys.9)-0) (ys.9-0)=ys.9
 rw[if_pos (by decide),show((-1:Int)+(ys.9:Int)).toNat=ys.9-1 by lia,rh,qm,qm,iu (xf _ _)];exact vz (xf _ _)
theorem Mw {qs:List Int}(h:∀v∈ys,v∈qs.map V.int):∃zs:List Int,ys=zs.map V.int:=by
 induction ys with
 |nil=>exact{[],rfl}
 |cons y r ih=>
  obtain⟨zs,e⟩:=ih λv hv=>h v (gn _ hv);obtain⟨z,_,hz⟩:=jq.mp (h y ii);exact⟨z::zs,by rw[e,<-hz];rfl⟩
inductive sG(vs:List V)(H:Hp)(Q:VK)(E:XK):Prop|mk(t:ee)(ns:Za4)(st:Int)(_:vs=[.ref t,.int st])(_:H t=mn (.tup (nV ns)))(_:(∀x∈ns,x<ns.9))(_:ns.9<=3000)(_:0<st)(_:∀d (kvs:List (Key×V)) H',Ah H H'->H d=tp->H' d=mn (.dK kvs)->Q (.ref d) H')
theorem yO (h:n<=10000000):n<=sizeLine:=iw h (by decide)
include T in
theorem S1 (F:Fun K "shortcuts_of" "shortcuts_of" Hg f fd)(bK:T.ZC "rounds_of" 1 ["order"] mB):T.ZA 2 f fd ["order","step"] sG:=by
 exists F.ok Fe
 obtain⟨t,ns,st,rfl,ht,hb,hn,hst,q⟩:=h;refine⟨_,(Aa (tst 2 Fe.nd sI) (Aa (C0 il rfl (Cs (Au bK hr.m (tpa (pv 0) Ab))) (tgn 3 Fe.nd) (Ae (B8 (ttc Gr (An Ao (by rfl) T.cJ Bp (tpa (pv 3) Ab)) (pv 1)) (Aa (tst 4 Fe.nd (Adi (pv 3) (pv 1))) (Ae (A6 (Cl PySem.F.plainAttrs_dict AQ PySem.F.type_dict_update tP (pv 2) (tpa (Abo rfl rfl T.dN rfl T.de (tpa (pv 4) (tpa (Ak Jj (B9 G9 (pv 4) (Bl (Dl Cf Af)) Kv) (B9 G9 (pv 4) Kv (Bl (Dl Cf Af)))) Ab))) Ab)))))
  A8))) (Ae (Ap (pv 2))))),?_⟩
 k_is;intro d hd;obtain⟨t0,e0⟩:=Bz (o:=.dK []) hd;generalize upd H d _=H0 at *;apply{t,ns,rfl,t0 _ _ ht,hb,(),λp rs H1 s1 f1 e1 hl hrs=>?_};have s01:=t0.trans s1;refine{p,rfl,{_,SqL.of e1},?_};refine Ho (xs:=rs.map V.ref) (λi G H2=>∃(kvs:List (Key×V)) (v3 v4:Option V),G=[mn (.ref t),mn (.int st),mn (.ref d),v3,v4]/\H2 d=mn (.dK kvs)/\kvs.9<=i*3000/\H2 p=mn (.lst (rs.map V.ref))/\Ef H2 ns.9 rs/\Ah H H2) ?_ (λk G H2 _ h=>by obtain⟨_,_,_,_,_,_,h,_⟩:=h;exact SqL.of h) ?_ ?_
 .exact{[],_,_,rfl,s1 _ _ e0,gy _,e1,hrs,s01}
 .rintro i x G H2 hx ⟨kvs,v3,v4,rfl,hd2,hk,hp2,hrs2,s2⟩
  have hi:=Ci hx;rw[d4] at hi;rw[fj] at hx;obtain⟨r,hr,rfl⟩:∃r,rs[i]?=mn r/\V.ref r=x:=by
   cases e:rs[i]? with
   |none=>rw[e] at hx;cases hx
   |some r=>rw[e] at hx;exact{r,rfl,fc hx}
  obtain⟨qs,hql,hqr⟩:=hrs2 r (gi hr);apply{r,_,rfl,.inl (SqL.of hqr),?_};apply B6 (λ_=>?_) (λ_=>?_)
  .apply{r,_,st,rfl,rfl,hst,SqL.of hqr,λa ys ha hys hyl=>?_};obtain⟨zs,rfl⟩:=Mw hys;rw[d4,d4] at hyl;have t3:=Ai (o:=.lst (zs.map V.int)) ha;have s3:=s2.trans t3;have ha3:=@Ac H2 a (.lst (zs.map V.int));have hd3:=t3 _ _ hd2;have hp3:=t3 _ _ hp2;have hrs3:=hrs2.same t3;generalize upd H2 a _=H3 at *;apply{.inr (.inr (.inl {rfl,.inl {_,hd3}})),?_};apply{a,_,rfl,SqL.of ha3,λb1 hb1=>?_};obtain⟨t4,hb4⟩:=Bz (o:=.lst (Ha (zs.map V.int) (mn (-1)) tp)) hb1;have ha4:=t4 _ _ ha3;have s4:=s3.trans t4;have hd4:=t4 _ _ hd3;have hp4:=t4 _ _ hp3;have hrs4:=hrs3.same t4;generalize upd H3 b1 _=H4 at *;apply{a,_,rfl,SqL.of ha4,λb2 hb2=>?_};obtain⟨t5,hb5⟩:=Bz (o:=.lst (Ha (zs.map V.int) tp (mn (-1)))) hb2;have ha5:=t5 _ _ ha4;have hc5:=t5 _ _ hb4;have s5:=s4.trans t5;have hd5:=t5 _ _ hd4;have hp5:=t5 _ _ hp4;have hrs5:=hrs4.same t5;generalize upd H4 b2 _=H5 at *;have hlen:=pP (zs.map V.int);rw[d7,d4] at hlen;apply{b1,b2,_,_,rfl,rfl,hc5,hb5,yO (),λc hc=>?_};obtain⟨t6,hc6⟩:=Bz (o:=.lst (Ha (zs.map V.int) (mn (-1)) tp++Ha (zs.map V.int) tp (mn (-1)))) hc;have ha6:=t6 _ _ ha5;have s6:=s5.trans t6;have hd6:=t6 _ _ hd5;have hp6:=t6 _ _ hp5;have hrs6:=hrs5.same t6;generalize upd H5 c _=H6 at *;refine{a,c,zs,_,rfl,SqL.of ha6,SqL.of hc6,by rw[d7];lia,λg kvs2 hg hkl=>?_};obtain⟨t7,hg7⟩:=Bz (o:=.dK kvs2) hg;have s7:=s6.trans t7;have hd7:=t7 _ _ hd6;have hp7:=t7 _ _ hp6;have hrs7:=hrs6.same t7;have hdg:d≠g:=Am hd6 hg;generalize upd H6 g _=H7 at *;have hk5:kvs.9<=3000*3000:=iw hk (Nat.mul_le_mul () (d8 _));apply xU hdg hd7 hg7 (yO ()) λkvs' hk'=>?_;apply{kvs',_,_,rfl,Ac,by rw[wn];lia,?_,hrs7.upd λr hr e=>?_,A9 s7 hd}
   .have hne:p≠d:=Ey hp7 hd7 (by intro z;cases z)
    rw[Al hne];exact hp7
   .obtain⟨_,_,er⟩:=hrs7 r hr
    rw[e,hd7] at er;cases er
  .k_is
   exact{kvs,_,_,rfl,hd2,by rw[wn];lia,hp2,hrs2,s2}
 .rintro G H2 ⟨kvs,v3,v4,rfl,hd2,hk,hp2,hrs2,s2⟩
  k_is;exact q d kvs H2 s2 hd hd2
theorem nJ (h:qG xs):∃ns:Za4,xs=nV ns/\∀x∈ns,x<ns.9:=by
 have key:∀ys:List V,(∀y∈ys,∃n:Nat,y=V.int n/\n<xs.9)->∃ns:Za4,ys=nV ns/\∀x∈ns,x<xs.9:=λys=>by
  induction ys with
  |nil=>exact λ_=>{[],rfl,λx hx=>by cases hx}
  |cons y r ih=>
   intro hy;obtain⟨ns,e,hb⟩:=ih λv hv=>hy v (gn _ hv);obtain⟨n,e1,hn⟩:=hy y ii;refine⟨n::ns,by rw[e,e1];rfl,λx hx=>?_⟩;rcases jn.mp hx with rfl|hx
   .exact hn
   .exact hb x hx
 obtain⟨ns,e,hb⟩:=key xs λy hy=>by
  obtain⟨j,hj⟩:=l9 hy;obtain⟨n,h1,h2,_⟩:=h j (Ci hj);rw[hj] at h1;exact{n,fc h1,h2}
 refine{ns,e,λx hx=>?_};have:=hb x hx;rw[e,d4] at this;exact this
inductive Ox (C:ee)(vs:List V)(H:Hp)(Q:VK)(E:XK):Prop|mk(x dx a:ee)(xs:List V)(st:Int)(_:vs=[.ref x,.ref a,.int st])(_:H x=mn (.ins C dx []))(_:H a=mn (.lst xs))(_:qG xs)(_:xs.9<=3000)(_:0<st)(_:∀H',SameBut x H H'->Q .non H')
include T in
theorem Qm (F:jJ K "__init__" "Shortcuts.__init__" Cd f fd)(Z:Qi K ar)(bL:T.ZC "check_order" 3 ["order"] kH)(bM:T.ZC "shortcuts_of" 2 ["order","step"] sG):Av P w K mg base (CXE P w) 4 f fd ["self","order","step"] (Ox ar):=by
 exists F.okE Ot
 obtain⟨x,dx,a,xs,st,rfl,hx,ha,hG,hn,hst,q⟩:=h;refine{_,(Aa (A6 (Au bL hr.m (tpa (pv 1) Ab))) (Aa (tsf (pv 0) (Cj Gi (by rfl) T.dB Tl (tpa (pv 1) Ab))) (Ae (tsf (pv 0) (Au bM hr.m (tpa (tfl (pv 0)) (tpa (pv 2) Ab))))))),?_}
 apply{a,xs,rfl,ha,hG,(),λH1 s1=>?_};obtain⟨ns,rfl,hb⟩:=nJ hG;have hx1:=s1 _ _ hx;have ha1:=s1 _ _ ha;apply{a,_,rfl,.inl {SqL.of ha1,λt ht=>?_}};have t2:=Ai (o:=.tup (nV ns)) ht;have hx2:=t2 _ _ hx1;have ht2:=@Ac H1 t (.tup (nV ns));have s2:=s1.trans t2;generalize upd H1 t _=H2 at *;have htx:t≠x:=Ey ht2 hx2 (by intro z;cases z);apply Bj hx2 Z.cl Z.dR (by decide) ?_;have hx3:upd H2 x (.ins ar dx (Co "onward" (.ref t) [])) x=mn (.ins ar dx [("onward",.ref t)]):=Ac;have ht3:upd H2 x (.ins ar dx (Co "onward" (.ref t) [])) t=mn (.tup (nV ns)):=by rw[Al htx];exact ht2
 have s3:=s2.but.trans (As (H:=H2) (x:=x) (o:=.ins ar dx (Co "onward" (.ref t) [])));generalize upd H2 x _=H3 at *;apply{x,ar,dx,_,.ref t,rfl,hx3,Z.cl,Z.dR,rfl,?_};apply{t,ns,st,rfl,ht3,hb,by rw[d4] at hn;exact hn,hst,λd kvs H4 s4 f4 e4=>?_};apply Bj (s4 _ _ hx3) Z.cl Z.cT (show 1<1000 by decide) ?_;k_is;exact q _ ((s3.trans s4.but).trans As)
inductive Aar(vs:List V)(H:Hp)(Q:VK)(E:XK):Prop|mk(a:ee)(ds:Za4)(_:vs=[.ref a])(_:H a=mn (.lst ((Ax ds).map V.int)))(_:Dok ds)(_:ds.9<4000)(_:∀l H',Ah H H'->H' l=mn (.lst ((Ax ds).map V.int))->Q (.ref l) H')
include T aX in
theorem pT (F:Fun K "look_at" "look_at" Rk f fd):T.ZA 2 f fd ["elders"] Aar:=by
 exists F.ok Ky
 obtain⟨a,ds,rfl,ha,hD,hn,q⟩:=h;refine⟨_,(Aa (B8 (Ic (Fl (An Do (by rfl) T.cV C2 (tpa (pv 0) (tpa (Jb (v:=.ty "list") rfl T.cQ Ji rfl) Ab))))) (Ae Dv)
  A8) (Aa (tst 1 Ky.nd (Bs (tpa (Dl Cf Af) Ab))) (Aa (C0 il rfl (fM rfl T.dA (tpa (pv 0) Ab)) (Uf rfl (E1 (tgn 2 Ky.nd) (E1 (tgn 3 Ky.nd) Pj))) (Aa (B8 (PW.pt (Nt (ttc Ed (pv 2) (Az rfl T.dw)) (Nt (Ic (Fl (Au aX hr.m (tpa (pv 3) Ab)))) (N4 (ttc O2 (pv 3) (Dl Cf Af)))))) (Ae Dv)
  A8) (Aa (E6 il (ttc Gr (tix By (pv 1) (Dl Cf Af)) (pv 3)) (Ae (A6 (fH gj t9 tx fK (pv 1))))) (Aa (B8 (ttc kN (tix By (pv 1) (Dl Cf Af)) (pv 3)) (Ae Dv)
  A8) (Ae (A6 (Cl gj i6 i5 B0 (pv 1) (tpa (pv 2) Ab)))))))) (Ae (Ap (Cj C6 (by rfl) T.cQ Ji (tpa (pv 0) Ab))))))),?_⟩
 apply{_,_,_,_,rfl,.lst ha,Xp,?_};apply{few (by simp),λp hp=>?_};k_is;have t0:=Ai (o:=.lst [V.int (-1)]) hp;refine{a,rfl,{_,SqL.of (t0 _ _ ha)},?_};refine kW (xs:=(Ax ds).map V.int) (λk G H1=>(∃v2 v3:Option V,G=[mn (.ref a),mn (.ref p),v2,v3])/\H1 p=mn (.lst ((way ds k).map V.int))/\Ah H H1) {{_,_,rfl},Ac,t0} (λk G H1 _ h=>SqL.of (h.2.2 _ _ ha)) ?_ ?_
 .rintro k x G H1 t hx ⟨⟨v2,v3,rfl⟩,hp1,s1⟩ ht
  have hk:=Ci hx;rw[d4,Bd] at hk;obtain⟨e,he,rfl⟩:=Ny hx;rw[Ou hk] at he;obtain rfl:=fc he;have st:=Ai (o:=.tup [.int k,.int (eld ds k)]) ht;have hp2:=st _ _ hp1;have s2:=s1.trans st;generalize upd H1 t _=H2 at *;apply B6 (λh=>?_) (λ_=>?_)
  .have:=V.int.inj h
   lia
  apply{_,rfl,?_};k_is;have hge:=fR hD hk;refine B6 (λh=>()) (λ_=>?_);k_is;have hl:=Bq hD k ();have hd:=hD k hk;refine Fz (λG H3=>G=[mn (.ref a),mn (.ref p),mn (.int k),mn (.int (eld ds k))]/\Ah H H3/\∃m,dAt ds k+1<=m/\m<=(way ds k).9/\H3 p=mn (.lst (((way ds k).take m).map V.int))) (λ_ H3=>rT H3 p)
   {rfl,s2,(way ds k).9,(),d8 _,by rw[fv (d8 _)];exact hp2} ?_
  rintro z G H3 ⟨rfl,s3,m,hm1,hm2,hp3⟩ hz;rw[O4 hp3,Jv hm2] at hz;k_is;have hx1:(way ds k)[m-1]?=mn ((way ds k)[m-1]'()):=d6 _;generalize (way ds k)[m-1]'()=y at hx1;refine Cw (SqL.of hp3) (R1 () hx1) ?_;k_is;have hea:=G0 hD hk;refine B6 (λh=>?_) (λh=>?_)
  .have hne:m-1≠dAt ds k:=λe=>by
    rw[e,hea] at hx1;have:=fc hx1;lia
   refine Kl ?_;apply{.inl {rfl,_,SqL.of hp3},?_};refine{p,_,.int y,rfl,rfl,hp3,?_,?_}
   .rw[Jv hm2,Sd (n:=y)]
    rw[ic ()];exact hx1
   k_is;rw[X6 hm2];refine{{rfl,A9 s3 hp,m-1,(),(),Ac},?_};rw[O4 Ac,Jv ()];lia
  .have hme:m=dAt ds k+1:=by
    by_cases e:m-1=dAt ds k
    .lia
    .have:=Rh hD k (dAt ds k) (m-1) _ _ () () hea hx1
     lia
   subst hme;have hy:y=eld ds k:=by
    rw[show dAt ds k+1-1=dAt ds k by lia,hea] at hx1;exact(fc hx1).symm
   apply Cw (SqL.of hp3) (R1 () hx1) ?_;apply uF (λh1=>absurd (congrArg V.int hy) h1) (λ_=>?_);apply{.inl {rfl,_,SqL.of hp3},?_};apply Ca hp3 ?_ ?_
   .rw[Jv hm2]
    exact Ag (by have:=N7 hD k ();lia)
   apply{{_,_,rfl},?_,A9 s3 hp};rw[Ac];show _=mn (HO.lst (((way ds k).take (dAt ds k+1)++[(k:Int)]).map V.int));rw[fb];rfl
 .rintro G H1 ⟨⟨v2,v3,rfl⟩,hp1,s1⟩
  apply{a,_,rfl,.inl (SqL.of (s1 _ _ ha)),λl hl=>?_};exact q l _ (s1.trans (Ai hl)) Ac
inductive gM(vs:List V)(H:Hp)(Q:VK)(E:XK):Prop|mk(a:ee)(ds:Za4)(_:vs=[.ref a])(_:H a=mn (.lst ((Ax ds).map V.int)))(_:Dok ds)(_:ds.9<4000)(_:∀l H',Ah H H'->H' l=mn (.lst (nV ds))->Q (.ref l) H')
theorem Xz {ds:Za4}{k:Nat}(hk:k<ds.9):nV (ds.take k)++[V.int (dAt ds k:Nat)]=nV (ds.take (k+1)):=by
 rw[ie,d6 hk,<-Afp];unfold dAt jw;rw[d6 hk];rfl
include T in
theorem eB (F:Fun K "depths_of" "depths_of" Lo f fd):T.ZA 1 f fd ["elders"] gM:=by
 exists F.ok Kn
 obtain⟨a,ds,rfl,ha,hD,hn,q⟩:=h;refine{_,(Aa (tst 1 Kn.nd (Bs Ab)) (Aa (C0 il rfl (Cs (pv 0)) (tgn 2 Kn.nd) (Ae (A6 (Cl gj i6 i5 B0 (pv 1) (tpa (E5 (ttc Ed (pv 2) (Dl Cf Af)) Af (Ak Bc (tix By (pv 1) (pv 2)) Af)) Ab))))) (Ae (Ap (pv 1))))),?_}
 apply{gy _,λp hp=>?_};k_is;have t0:=Ai (o:=.lst []) hp;refine{a,rfl,{_,SqL.of (t0 _ _ ha)},?_};refine Ho (xs:=(Ax ds).map V.int) (λk G H1=>(∃v2:Option V,G=[mn (.ref a),mn (.ref p),v2])/\H1 p=mn (.lst (nV (ds.take k)))/\Ah H H1) {{_,rfl},Ac,t0} (λk G H1 _ h=>SqL.of (h.2.2 _ _ ha)) ?_ ?_
 .rintro k x G H1 hx ⟨⟨v2,rfl⟩,hp1,s1⟩
  have hk:=Ci hx;rw[d4,Bd] at hk;obtain⟨e,he,rfl⟩:=Ny hx;rw[Ou hk] at he;obtain rfl:=fc he;have hz:(nV (ds.take k)).9<sizeLine:=by
   rw[Dh,fk];exact Ag ()
  apply{.inl {rfl,_,SqL.of hp1},?_};apply B6 (λh=>?_) (λh=>?_)
  .have hd:=Zk hD hk (V.int.inj h)
   apply Ca hp1 hz ?_;apply{{_,rfl},?_,A9 s1 hp};rw[Ac,<-Xz hk,hd];rfl
  .obtain⟨v,hv,hlt,hd⟩:=E7 hD hk (λe=>h (congrArg V.int e))
   k_is;rw[hv];refine Cw (SqL.of hp1) (v:=.int (dAt ds v:Nat)) ?_ ?_
   .refine Bg (tE ?_)
    rw[ic hlt,d6 ()];unfold dAt jw;rw[d6 ()];rfl
   apply Ca hp1 hz ?_;apply{{_,rfl},?_,A9 s1 hp};rw[Ac,<-Xz hk,hd];rfl
 .rintro G H1 ⟨⟨v2,rfl⟩,hp1,s1⟩
  rw[d4,Bd,fv (d8 _)] at hp1;k_is;exact q p H1 s1 hp1
inductive oB (ts:List Tb)(vs:List V)(H:Hp)(Q:VK)(E:XK):Prop|mk(l:ee)(ds:Za4)(_:vs=[.ref l])(_:H l=mn (.lst (nV ds)))(_:ds.9<=10000)(_:Tbs ts H)(_:∀p H',SmT ts H H'->H p=tp->H' p=mn (.lst ((Lj ds).map V.int))->Q (.ref p) H')
include T hK hB in
theorem W3 {f c:ee}(F:U5 K "level_order" "level_order" Dy f fd c Pt)(hts:({Pt,Lg,"level_order.<locals>.<lambda>"}:Tb)∈ts):T.ZA 2 f fd ["depths"] (oB ts):=by
 refine F.ok Uc (λvs H Q E h=>?_) (λA outer s H vs Q E hr h=>?_)
 .obtain⟨l,ds,rfl,_⟩:=h
  rfl
 .obtain⟨l,ds,rfl,hl,hn,ht,q⟩:=h
  refine{_,(Ae (Ap (wP (qual:="level_order.<locals>.<lambda>") (i:=0) (cl:=s.heap.objs.8+1) rfl hr.m rfl T.dH (Acu rfl T.cK (tpa (An Ao (by rfl) T.cJ Bp (tpa (pv 0) Ab)) Ab)) (F.code hK) hB rfl rfl (by kernel_rfl) (by kernel_rfl) (by kernel_rfl) (by kernel_rfl) (λ_ _ _ _ _=>rfl)))),?_};apply{l,_,rfl,.inl (SqL.of hl),?_};k_is;have e1:(nV ds).9=ds.9:=by unfold nV;rw[d4]
  rw[e1];refine{ds.9,rfl,(),λp hp=>?_};have s1:=Ai (o:=.rng 0 (ds.9:Int)) hp;have el:(iN ds).9=ds.9:=d4 ..;have ht1:=ht.same s1;refine{p,l,iN ds,rfl,rfl,by rw[<-gS];exact s1 _ _ hl,by rw[el];lia,.inr (by rw[el];exact Ac),ht1.1 _ hts,λp2 H' sx t2 hp2 hp3=>?_};refine q p2 H' ((SmT.of ht s1).trans (sM ht1 hts sx t2)) (s1.free hp2) ?_;rw[hp3,el];rfl
theorem X5 (n:Nat):(d9 n [V.int 0]).flatten=(d9 n (0:Int)).map V.int:=by
 induction n with
 |zero=>rfl
 |succ n ih=>rw[ja,im,ih,ja];rfl
def gsK (ds:Za4)(k:Nat):Za4:=(en (ds.9+1)).map λj:Nat=>(Bk ds k ((j:Int)-1)).9
theorem Pp (ds:Za4)(k:Nat):(gsK ds k).9=ds.9+1:=by unfold gsK;rw[d4,fm]
theorem eM {ds:Za4}{k j:Nat}(hj:j<ds.9+1):(gsK ds k)[j]?=mn (Bk ds k ((j:Int)-1)).9:=by unfold gsK;rw[fj,gr hj];rfl
theorem yF (ds:Za4):gsK ds 0=d9 (ds.9+1) 0:=by
 refine qa λj=>?_
 by_cases hj:j<ds.9+1
 .rw[eM hj,oj,if_pos hj];rfl
 .rw[ir (by rw[Pp];lia),ir (by rw[gx];lia)]
theorem Abp (ds:Za4):gsK ds ds.9=gsC ds:=by
 unfold gsK gsC;rw[oy,gt,jm];refine congr (congrArg List.cons rfl) (jb λj _=>?_);show(Bk ds ds.9 (((j+1:Nat):Int)-1)).9=_;rw[show(((j+1:Nat):Int)-1)=(j:Int) by lia]
theorem Aa2 {ds:Za4}{k e:Nat}(he:eld ds k=(e:Int)-1)(h1:e<ds.9+1):gsK ds (k+1)=(gsK ds k).set e ((Bk ds k ((e:Int)-1)).9+1):=by
 refine qa λj=>?_
 by_cases hj:j<ds.9+1
 .rw[eM hj,y4]
  by_cases hje:e=j
  .subst hje
   rw[if_pos rfl,if_pos (by rw[Pp];exact h1),Ua he,d7];rfl
  .rw[if_neg hje,eM hj,eT (by rw[he];lia)]
 .rw[ir (by rw[Pp];lia),ir (by rw[se,Pp];lia)]
inductive Ww(vs:List V)(H:Hp)(Q:VK)(E:XK):Prop|mk(l:ee)(ds:Za4)(_:vs=[.ref l])(_:H l=mn (.lst ((Ax ds).map V.int)))(_:Dok ds)(_:ds.9<=4000)(_:∀p H',Ah H H'->H p=tp->H' p=mn (.lst (nV (gsC ds)))->Q (.ref p) H')
include T in
theorem Ng (F:Fun K "children_counted" "children_counted" Fk f fd):T.ZA 1 f fd ["elders"] Ww:=by
 exists F.ok Ew
 obtain⟨l,ds,rfl,hl,hD,hn,q⟩:=h;have hel:((Ax ds).map V.int).9=ds.9:=by unfold Ax;rw[d4,d4,fm]
 refine{_,(Aa (tst 1 Ew.nd (Ak Nx (Bs (tpa Af Ab)) (Ak Bc (An Ao (by rfl) T.cJ Bp (tpa (pv 0) Ab)) Af))) (Aa (C0 il rfl (Cs (pv 0)) (tgn 2 Ew.nd) (Ae (Z7 (pv 1) (Ak Bc (pv 2) Af) P9 Af Hl Ma))) (Ae (Ap (pv 1))))),?_}
 apply{few (by simp),λp hp=>?_};have u0:=Ai (o:=.lst [V.int 0]) hp;apply{l,_,rfl,.inl (SqL.of (u0 _ _ hl)),?_};k_is;rw[hel];refine{p,((ds.9+1:Nat):Int),_,rfl,rfl,Ac,(),(),gz (Ag (by simp;lia)),λm hm=>?_};have u1:=u0.trans (Ai (o:=.lst (d9 (((ds.9+1:Nat):Int)).toNat [V.int 0]).flatten) hm);have hm0:H m=tp:=u0.free hm;have hM:(upd (upd H p (.lst [V.int 0])) m (.lst (d9 (((ds.9+1:Nat):Int)).toNat [V.int 0]).flatten)) m=mn (.lst (nV (gsK ds 0))):=by
  rw[Ac,ig,X5,yF];unfold nV;rw[ph,ph];rfl
 generalize (upd (upd H p (.lst [V.int 0])) m (.lst (d9 (((ds.9+1:Nat):Int)).toNat [V.int 0]).flatten))=H2 at *;apply{l,rfl,{_,SqL.of (u1 _ _ hl)},?_};refine Ho (xs:=(Ax ds).map V.int) (λk G H3=>(∃v2:Option V,G=[mn (.ref l),mn (.ref m),v2])/\H3 m=mn (.lst (nV (gsK ds k)))/\Ah H H3) {{_,rfl},hM,u1} (λk G H3 _ h=>SqL.of (h.2.2 _ _ hl)) ?_ ?_
 .rintro k x G H3 hx ⟨⟨v2,rfl⟩,hm3,s3⟩
  obtain⟨n,hn2,rfl⟩:=Ny hx;have hk:k<ds.9:=by have:=Ci hn2;unfold Ax at this;rwa [d4,fm] at this
  obtain rfl:eld ds k=n:=by
   unfold Ax at hn2;rw[fj,gr hk] at hn2;exact fc hn2
  have h1:=fR hD hk;have h2:=Ty hD hk;obtain⟨e,he⟩:∃e:Nat,eld ds k=(e:Int)-1:={(eld ds k+1).toNat,()};have he1:e<ds.9+1:=()
  have hix:eld ds k+1=(e:Int):=()
  k_is;rw[hix];refine Cw (SqL.of hm3) (v:=.int ((Bk ds k ((e:Int)-1)).9:Nat)) (Bg (by unfold nV;rw[fj,eM he1];rfl)) ?_;apply Vw hm3 rfl (by rw[Dh,Pp];exact he1) ?_;refine{{_,rfl},?_,A9 s3 hm0};rw[Ac,Aa2 he he1];unfold nV;rw[yz];rfl
 .rintro G H3 ⟨⟨v2,rfl⟩,hm3,s3⟩
  rw[hel,Abp] at hm3;k_is;exact q m H3 s3 hm0 hm3
include T in
theorem W4 (F:Fun K "counted_row" "counted_row" Gn f fd):T.ZA 1 f fd ["many"] kJ:=by
 exists F.ok T3
 obtain⟨l,ns,rfl,hl,hn,q⟩:=h;refine{_,(Ae (Ap (Cl kh o6 o3 M5 Cy (tpa (Iy rfl Rp (Cs (pv 0)) (λ_ _ _ _=>Bx) (λ_ _ _ _=>(Ak Oa (Ak fS Cy (pv 0)) Cy))) Ab)))),?_};apply{rfl,?_};apply{_,rfl,{_,SqL.of hl},?_};refine G5 (xs:=nV ns) (SqL.of hl) (λi=>(ns.take i).map λn=>V.str (Aq (d9 n MK++[ML]))) rfl (λi hi=>?_) (λi x H1 R A hx s1 _ hA=>?_) (λD H1 hD s1 h1=>?_)
 .rw[d4,fk]
  exact Ag ()
 .obtain⟨n,hn1,rfl⟩:=N6 hx
  have hns:=Uv hn1;apply{"1",(n:Int),rfl,rfl,(),(),?_,few (by decide),?_}
  .exact gz (Ag (by rw[show("1":Str).9=1 by rfl];lia))
  have e0:Uo ("1":Str) ((n:Int)).toNat=Aq (d9 n MK):=by
   rw[ig];exact Pz MK _
  rw[e0];k_is;have e1:Aq (d9 n MK)++("0":Str)=Aq (d9 n MK++[ML]):=K3 (d9 n MK) [ML];refine{_,"0",rfl,rfl,?_,?_}
  .rw[Ar,gx]
   exact gz (Ag (by rw[show("0":Str).9=1 by rfl];lia))
  rw[e1];refine hA _ _ ?_ (Ah.refl _);rw[ie,hn1,fb];rfl
 .apply O1 (ls:=ns.map λn=>d9 n MK++[ML]) ?_ ?_ (q _ s1)
  .rw[h1,Dh,fv (d8 _),jm]
   rfl
  .show(grB ns).9<=_
   rw[Pq];lia
theorem Tt:∀{ns:List Int} {x:Int},x∈ns->∃j:Nat,ns[j]?=mn x/\∀i:Nat,i<j->ns[i]?≠mn x
 |y::ns,x,h=>by
  by_cases e:y=x
  .exact{0,by rw[e];rfl,λi hi=>absurd hi (AS _)}
  .obtain⟨j,h1,h2⟩:=Tt (List.mem_of_ne_of_mem (λz=>e z.symm) h)
   refine{j+1,h1,λi hi=>?_}
   cases i with
   |zero=>exact λz=>e (fc z)
   |succ i=>exact h2 i ()
inductive Aa5(vs:List V)(H:Hp)(Q:VK)(E:XK):Prop|mk(l:ee)(ds:Za4)(_:vs=[.ref l])(_:H l=mn (.lst (nV ds)))(_:ds.9<=4000)(_:∀(r:Nat) H',r<16->Ah H H'->Q (.int r) H')
include T in
theorem eG (F:Fun K "thin_rest" "thin_rest" Ly f fd):T.ZA 1 f fd ["depths"] Aa5:=by
 exists F.ok Ko
 obtain⟨l,ds,rfl,hl,hn,q⟩:=h;refine{_,(Aa (tst 1 Ko.nd (Ak Nx (Bs (tpa Af Ab)) (Az rfl T.cN))) (Aa (C0 il rfl (Cs (pv 0)) (tgn 2 Ko.nd) (Ae (Z7 (pv 1) (Ak Cv (pv 2) (Az rfl T.cN)) P9 Af Hl Ma))) (Ae (Ap (Cl gj BA AY lE (pv 1) (tpa (An (R0 rfl) (by rfl) T.cS Se (tpa (pv 1) Ab)) Ab)))))),?_}
 apply{few (by simp),λp hp=>?_};have u0:=Ai (o:=.lst [V.int 0]) hp;apply{p,16,_,rfl,rfl,Ac,(),(),gz (Ag (by decide)),λm hm=>?_};have u1:=u0.trans (Ai (o:=.lst (d9 (16:Int).toNat [V.int 0]).flatten) hm);have hm0:H m=tp:=u0.free hm;have hM:(upd (upd H p (.lst [V.int 0])) m (.lst (d9 (16:Int).toNat [V.int 0]).flatten)) m=mn (.lst (nV (d9 16 0))):=by
  rw[Ac];rfl
 generalize (upd (upd H p (.lst [V.int 0])) m (.lst (d9 (16:Int).toNat [V.int 0]).flatten))=H2 at *;apply{l,rfl,{_,SqL.of (u1 _ _ hl)},?_};refine Ho (xs:=nV ds) (λk G H3=>(∃v2:Option V,G=[mn (.ref l),mn (.ref m),v2])/\(∃cs:Za4,cs.9=16/\H3 m=mn (.lst (nV cs)))/\Ah H H3) {{_,rfl},{_,gx,hM},u1} (λk G H3 _ h=>SqL.of (h.2.2 _ _ hl)) ?_ ?_
 .rintro k x G H3 hx ⟨⟨v2,rfl⟩,⟨cs,hc,hm3⟩,s3⟩
  obtain⟨n,hn2,rfl⟩:=N6 hx;k_is;rw[show((n:Int)%16)=((n%16:Nat):Int) by lia];have hlt:n%16<cs.9:=()
  refine Cw (SqL.of hm3) (v:=.int (cs[n%16]:Nat)) (Bg (by unfold nV;rw[fj,d6 hlt];rfl)) ?_;apply Vw hm3 rfl (by rw[Dh];exact hlt) ?_;refine{{_,rfl},{cs.set (n%16) (cs[n%16]+1),by rw[se];exact hc,?_},A9 s3 hm0};rw[Ac];unfold nV;rw[yz];rfl
 .rintro G H3 ⟨⟨v2,rfl⟩,⟨cs,hc,hm3⟩,s3⟩
  apply{.inl {rfl,_,SqL.of hm3},?_};k_is;have hm4:=hm3;rw[Zf] at hm4;refine{m,_,rfl,SqL.of hm4,λz=>?_,λx hx=>?_}
  .have:=congrArg k6 z
   rw[d4,hc] at this;cases this
  .k_is
   obtain⟨j,hj,hno⟩:=Tt hx.1;refine{m,_,x,j,rfl,rfl,hm4,hj,hno,?_};have:=Ci hj;rw[d4,hc] at this;exact q j H3 this s3
inductive T5(vs:List V)(H:Hp)(Q:VK)(E:XK):Prop|mk(l o:ee)(ds:Za4)(_:vs=[.ref l,.ref o])(_:H l=mn (.lst ((Ax ds).map V.int)))(_:H o=mn (.lst ((Lj ds).map V.int)))(_:Dok ds)(_:ds.9<4000)(_:∀H',Ah H H'->Q (.str (Aq (grB (gsL ds)))) H')
variable (aZ:T.ZC "children_counted" 1 ["elders"] Ww) (ba:T.ZC "counted_row" 1 ["many"] kJ)
include T aZ ba in
theorem Zj (F:Fun K "level_row" "level_row" Iv f fd):T.ZA 2 f fd ["elders","order"] T5:=by
 exists F.ok Pn
 obtain⟨l,o,ds,rfl,hl,ho,hD,hn,q⟩:=h;have hgl:=Gm hD;refine{_,(Aa (Jg (i:=2) Pn.nd rfl (wu rfl) (Au aZ hr.m (tpa (pv 0) Ab))) (Ae (Ap (Au ba hr.m (tpa (Ak Jj (B9 G9 (pv 2) Kv (Bl Af)) (Iy rfl Va (Cs (pv 1)) (λ_ _ _ _=>Bx) (λ_ _ _ _=>(tix (Mg K) (pv 1) (Ak Bc (pv 0) Af))))) Ab))))),?_}
 apply{l,ds,rfl,hl,hD,(),λm H1 s1 hm0 hm=>?_};have ho1:=s1 _ _ ho;apply{m,_,rfl,SqL.of hm,λq1 h1=>?_};have e1:Ha (nV (gsC ds)) tp (mn 1)=nV [(Bk ds ds.9 (-1)).9]:=by
  rw[show(mn 1:Option Int)=mn ((1:Nat):Int) from rfl,Zn];rfl
 rw[e1];obtain⟨u1,hq1⟩:=Bz (o:=.lst (nV [(Bk ds ds.9 (-1)).9])) h1;have ho2:=u1 _ _ ho1;have hm2:=u1 _ _ hm;have s2:=s1.trans u1;generalize upd H1 q1 _=H2 at *;apply{o,rfl,{_,SqL.of ho2},?_};refine G5 (SqL.of ho2) (λi=>nV (((Lj ds).take i).map λv=>(Bk ds ds.9 v).9)) rfl (λi hi=>?_) (λi y H3 R A hy s3 _ hA=>?_) (λD H3 hD3 s3 h3=>?_)
 .rw[d4,Hi] at hi
  rw[Dh,d4,fk,Hi];exact Ag ()
 .obtain⟨v,hv,rfl⟩:=Ny hy
  obtain⟨v0,v1⟩:=jI (gi hv);obtain⟨n,rfl⟩:∃n:Nat,v=(n:Int):={v.toNat,()};apply Cw (SqL.of (s3 _ _ hm2)) (v:=.int ((Bk ds ds.9 n).9:Nat)) ?_ ?_
  .rw[show((n:Int)+1)=((n+1:Nat):Int) by lia]
   exact Bg (tE (Vh ()))
  refine hA _ _ ?_ (Ah.refl _);rw[ie,hv,fb];unfold nV;rw[fb];rfl
 rw[d4,fv (d8 _)] at h3;have hq3:=s3 _ _ hq1;refine{q1,D,_,_,rfl,rfl,hq3,h3,gz (Ag (by rw[Dh,Dh,d4,Hi];simp only[f8,jg];lia)),λq4 h4=>?_};have e4:nV [(Bk ds ds.9 (-1)).9]++nV ((Lj ds).map λv=>(Bk ds ds.9 v).9)=nV (gsL ds):=by
  rw[<-Ade hD];rfl
 rw[e4];apply{q4,gsL ds,rfl,Ac,(),λH5 s5=>?_};exact q H5 (((s2.trans s3).trans (Ai h4)).trans s5)
theorem Af4 {ds:Za4}(h:Dok ds){x:Int}(hx:x∈iN ds):0<=x/\x<ds.9:=by
 obtain⟨n,hn,rfl⟩:=jq.mp hx;obtain⟨j,hj,rfl⟩:=List.getElem_of_mem hn;have:=oF h hj;unfold dAt jw at this;rw[d6 hj] at this;have:ds[j]<=j:=this;lia
inductive lB(vs:List V)(H:Hp)(Q:VK)(E:XK):Prop|mk(l:ee)(ds:Za4)(_:vs=[.ref l])(_:H l=mn (.lst (nV ds)))(_:Dok ds)(_:ds.9<=4000)(_:∀(v:V) H',Ah H H'->Q v H')
include T in
theorem eI (F:Fun K "widest_of" "widest_of" Lw f fd):T.ZA 1 f fd ["depths"] lB:=by
 exists F.ok Le
 obtain⟨l,ds,rfl,hl,hD,hn,q⟩:=h;refine⟨_,(Aa (B8 (ttc Ed (An Ao (by rfl) T.cJ Bp (tpa (pv 0) Ab)) Af) (Ae (Ap P3))
  A8) (Aa (tst 1 Le.nd (Ak Nx (Bs (tpa Af Ab)) (Ak Bc (An (M0 rfl) (by rfl) T.da Uk (tpa (pv 0) Ab)) Af))) (Aa (C0 il rfl (Cs (pv 0)) (tgn 2 Le.nd) (Ae (Z7 (pv 1) (pv 2) P9 Af Hl Ma))) (Ae (Ap (Cl gj BA AY lE (pv 1) (tpa (An (M0 rfl) (by rfl) T.da Uk (tpa (pv 1) Ab)) Ab))))))),?_⟩
 apply{l,_,rfl,.inl (SqL.of hl),?_};rw[Dh];apply B6 (λ_=>?_) (λh0=>?_)
 .k_is
  exact q _ H (Ah.refl _)
 have hpos:0<ds.9:=by
  rcases n5 ds.9 with z|z
  .exact absurd (by rw[z];rfl) h0
  .exact z
 apply{few (by simp),λp hp=>?_};obtain⟨u0,hp1⟩:=Bz (o:=.lst [V.int 0]) hp;have hl1:=u0 _ _ hl;generalize upd H p _=H1 at *;apply{l,iN ds,rfl,by rw[<-gS];exact SqL.of hl1,λz=>?_,λx hx=>?_}
 .have e:(iN ds).9=0:=by rw[z];rfl
  rw[d4] at e;lia
 obtain⟨x0,x1⟩:=Af4 hD hx.1;obtain⟨mx,rfl⟩:∃mx:Nat,x=(mx:Int):={x.toNat,()};apply{p,((mx+1:Nat):Int),_,rfl,by rw[xn];rfl,hp1,(),(),gz (Ag (by simp;lia)),λm hm=>?_};have u1:=u0.trans (Ai (o:=.lst (d9 ((mx+1:Nat):Int).toNat [V.int 0]).flatten) hm);have hm0:H m=tp:=u0.free hm;have hM:(upd H1 m (.lst (d9 ((mx+1:Nat):Int).toNat [V.int 0]).flatten)) m=mn (.lst (nV (d9 (mx+1) 0))):=by
  rw[Ac,ig,X5];unfold nV;rw[ph,ph];rfl
 generalize (upd H1 m (.lst (d9 ((mx+1:Nat):Int).toNat [V.int 0]).flatten))=H2 at *;apply{l,rfl,{_,SqL.of (u1 _ _ hl)},?_};refine Ho (xs:=nV ds) (λk G H3=>(∃v2:Option V,G=[mn (.ref l),mn (.ref m),v2])/\(∃cs:Za4,cs.9=mx+1/\H3 m=mn (.lst (nV cs)))/\Ah H H3) {{_,rfl},{_,gx,hM},u1} (λk G H3 _ h=>SqL.of (h.2.2 _ _ hl)) ?_ ?_
 .rintro k y G H3 hy ⟨⟨v2,rfl⟩,⟨cs,hc,hm3⟩,s3⟩
  obtain⟨n,hn2,rfl⟩:=N6 hy;have hle:=hx.2 (n:Int) (jq.mpr {n,gi hn2,rfl});k_is;have hlt:n<cs.9:=()
  refine Cw (SqL.of hm3) (v:=.int (cs[n]:Nat)) (Bg (by unfold nV;rw[fj,d6 hlt];rfl)) ?_;apply Vw hm3 rfl (by rw[Dh];exact hlt) ?_;refine{{_,rfl},{cs.set n (cs[n]+1),by rw[se];exact hc,?_},A9 s3 hm0};rw[Ac];unfold nV;rw[yz];rfl
 .rintro G H3 ⟨⟨v2,rfl⟩,⟨cs,hc,hm3⟩,s3⟩
  apply{.inl {rfl,_,SqL.of hm3},?_};k_is;have hm4:=hm3;rw[Zf] at hm4;refine{m,_,rfl,SqL.of hm4,λz=>?_,λx hx=>?_}
  .have:=congrArg k6 z
   rw[d4,hc] at this;cases this
  .k_is
   obtain⟨j,hj,hno⟩:=Tt hx.1;exact{m,_,x,j,rfl,rfl,hm4,hj,hno,q _ H3 s3}
def lFs (n:Nat)(b c:ee)(s g v w:V)(d:ee):List (Str×V):=[("knots",.int n),("bits",.ref b),("counts",.ref c),("places",s),("begins",g),("level_count",v),("widest_level",w),("leaps",.ref d)]
def Acg (H:Hp)(n:Nat)(kvs:List (Key×V)):Prop:=∀k v,Hq kvs (.inl k)=mn v->∃(t:ee) (m:Nat) (l:Int),v=.ref t/\H t=mn (.tup [.int m,.int l])/\m<=n
theorem Acg.keep {kvs:List (Key×V)}(h:Acg H n kvs)(k:∀b xs,H b=mn (.tup xs)->H' b=mn (.tup xs)):Acg H' n kvs:=λy v e=>by
 obtain⟨t,m,l,h1,h2,h3⟩:=h y v e;exact{t,m,l,h1,k _ _ h2,h3}
structure R8 (K:d5) (CB CC CL:ee) (H:Hp) (x:ee) (ds:Za4) (dx b c:ee) (s g v w:V) (d:ee) (kvs:List (Key×V)):Prop where
 hx:H x=mn (.ins CL dx (lFs ds.9 b c s g v w d))
 hb:Db K CB H b (grB (gsL ds))
 hc:A0 K CC H c (grB (gsL ds))
 hd:H d=mn (.dK kvs)
 hl:Acg H ds.9 kvs
 ok:Dok ds
 few:ds.9<3000
def Pd (K:d5)(CB CC CL:ee)(H:Hp)(x:ee)(ds:Za4):Prop:=∃dx b c s g v w d kvs,R8 K CB CC CL H x ds dx b c s g v w d kvs
theorem R8.sm {K:d5}{x b c d:ee}{ts:List Tb}{ds:Za4}{s g v w:V}{kvs:List (Key×V)}(h:R8 K CB CC CL H x ds dx b c s g v w d kvs)(m:SmT ts H H'):R8 K CB CC CL H' x ds dx b c s g v w d kvs:=
 {m.k h.hx,h.hb.keep m.kq,h.hc.keep m.kq,m.k h.hd,h.hl.keep λb xs e=>m.k e,h.ok,h.few}
theorem Pd.sm {K:d5}{x:ee}{ts:List Tb}{ds:Za4}(h:Pd K CB CC CL H x ds)(m:SmT ts H H'):Pd K CB CC CL H' x ds:=by
 obtain⟨dx,b,c,s,g,v,w,d,kvs,h⟩:=h;exact{dx,b,c,s,g,v,w,d,kvs,h.sm m}
inductive pM (K:d5)(CB CC CL:ee)(ts:List Tb)(vs:List V)(H:Hp)(Q:VK)(E:XK):Prop|mk(x:ee)(ds:Za4)(k:Nat)(_:vs=[.ref x,.int k])(_:Pd K CB CC CL H x ds)(_:Tbs ts H)(_:k<=ds.9)(_:∀H',SmT ts H H'->Q (.int (pre (gsL ds) (k+1):Nat)) H')
variable (ai:Qc K ah)
include T ai in
theorem Wc (F:Fun K "down" "Levelled.down" G2 f fd)(bN:T.ZM aa "place_of" 5 ["self","bit","nth"] (Yc K aa ts)):T.ZA 6 f fd ["self","number"] (pM K ab aa ah ts):=by
 exists F.ok Rx
 obtain⟨x,ds,k,rfl,⟨dx,b,c,s,g,v,w,d,kvs,h⟩,hT,hk,q⟩:=h;have hC:=h.hc;obtain⟨dc,t1,u1,hc1,_⟩:=id hC;refine{_,(Ae (Ap (Ak Ce (Er bN hr.m (tfl (pv 0)) (tpa Af (tpa (pv 1) Ab))) (pv 1)))),?_};apply{x,ah,dx,_,.ref c,rfl,h.hx,ai.cl,ai.dy,rfl,?_};apply{c,dc,_,rfl,hc1,rfl,?_};apply{c,_,ML,k,_,rfl,hC,hT,Abu (by rw[(Gm h.ok).1];lia),λH1 s1=>?_};k_is;rw[show(((pre (gsL ds) (k+1)+k:Nat):Int)-(k:Int))=((pre (gsL ds) (k+1):Nat):Int) by lia];exact q H1 s1
def stM:St->Nat
 |[_,_,mn (.int z)]=>z.toNat
 |_=>0
inductive Aes (K:d5)(CB CC CL:ee)(ts:List Tb)(vs:List V)(H:Hp)(Q:VK)(E:XK):Prop|mk(x:ee)(ds:Za4)(k:Nat)(st:Int)(_:vs=[.ref x,.int k,.int st])(_:Pd K CB CC CL H x ds)(_:Tbs ts H)(_:k<=ds.9)(_:∀(r:Nat) H',r<=ds.9->SmT ts H H'->Q (.int r) H')
variable (aK:T.ZM ah "down" 6 ["self","number"] (pM K ab aa ah ts))
include T ai aK in
theorem Q0 (F:Fun K "far_down" "Levelled.far_down" Ex f fd):T.ZA 7 f fd ["self","number","steps"] (Aes K ab aa ah ts):=by
 exists F.ok Ch
 obtain⟨x,ds,k,st,rfl,⟨dx,b,c,s,g,v,w,d,kvs,h⟩,hT,hk,q⟩:=h;refine{_,(Aa (E6 il (ttc Gr (pv 2) Af) (Ae (B8 (PW.pt (fQ (ttc rG (pv 2) (Az rfl T.cN)) (Tj (Th Aa6 (pv 1) (tfl (pv 0)) rfl)))) (Aa (tst 1 Ch.nd (tix Fm (tix sF (tfl (pv 0)) (pv 1)) Af)) (Ae (tau 2 Ch.nd (Az rfl T.cN) Zv))) (Aa (tst 1 Ch.nd (Er aK hr.m (pv 0) (tpa (pv 1) Ab))) (Ae (tau 2 Ch.nd Af Zv)))))) (Ae (Ap (pv 1)))),?_}
 apply Fz (λG H'=>∃(m:Nat) (z:Int),G=[mn (.ref x),mn (.int m),mn (.int z)]/\m<=ds.9/\SmT ts H H') (λG _=>stM G) {k,st,rfl,hk,SmT.refl hT} ?_;rintro μ G H1 ⟨m,z,rfl,hm,s1⟩ QS;have QS:z.toNat=μ:=QS;have h1:=h.sm s1;apply B6 (λhz=>?_) (λ_=>?_)
 .refine Kl ?_
  apply B6 (λhz2=>?_) (λ_=>?_)
  .apply{x,ah,dx,_,.ref d,rfl,h1.hx,ai.cl,ai.cT,rfl,?_};refine Aeg h1.hd ?_
   cases hv:Hq kvs (.inl (m:Int)) with
   |some vv=>
    obtain⟨t,m2,l2,rfl,ht,hm2⟩:=h1.hl _ _ hv;rw[show(mn (V.ref t):Option V).isSome=MK from rfl];apply{x,ah,dx,_,.ref d,rfl,h1.hx,ai.cl,ai.cT,rfl,?_};apply Ae3 h1.hd hv ?_;apply Gs (SqT.of ht) (v:=.int m2) rfl ?_;apply{{m2,_,rfl,hm2,s1},?_};show(z-16).toNat<μ;lia
   |none=>
    rw[show(tp:Option V).isSome=ML from rfl];apply{x,dx,_,rfl,h1.hx,rfl,?_};apply{x,ds,m,rfl,{dx,b,c,_,_,_,_,d,kvs,h1},s1.ok,hm,λH2 s2=>?_};apply{{_,_,rfl,jY h.ok _,s1.trans s2},?_};show(z-1).toNat<μ;lia
  .apply{x,dx,_,rfl,h1.hx,rfl,?_};apply{x,ds,m,rfl,{dx,b,c,_,_,_,_,d,kvs,h1},s1.ok,hm,λH2 s2=>?_};apply{{_,_,rfl,jY h.ok _,s1.trans s2},?_};show(z-1).toNat<μ;lia
 .k_is
  exact q m H1 hm s1
def lbM (n:Nat):St->Nat
 |[_,mn (.int m),_]=>n-m.toNat
 |_=>0
inductive tJ (K:d5)(CB CC CL:ee)(ts:List Tb)(vs:List V)(H:Hp)(Q:VK)(E:XK):Prop|mk(x:ee)(ds:Za4)(k:Nat)(_:vs=[.ref x,.int k])(_:Pd K CB CC CL H x ds)(_:Tbs ts H)(_:k<=ds.9)(_:∀(r:Int) H',SmT ts H H'->Q (.int r) H')
include T ai aK in
theorem Qt (F:Fun K "left_below" "Levelled.left_below" Ec f fd):T.ZA 7 f fd ["self","number"] (tJ K ab aa ah ts):=by
 exists F.ok Ct
 obtain⟨x,ds,k,rfl,⟨dx,b,c,s,g,v,w,d,kvs,h⟩,hT,hk,q⟩:=h;refine⟨_,(Aa (tst 2 Ct.nd Af) (Aa (E6 il (ttc O2 (pv 1) (tfl (pv 0))) (Aa (B8 (Th Aa6 (pv 1) (tfl (pv 0)) rfl) (Ae (Ap (Ak Bc (pv 2) (tix Fm (tix sF (tfl (pv 0)) (pv 1)) Af))))
  A8) (Aa (tst 1 Ct.nd (Er aK hr.m (pv 0) (tpa (pv 1) Ab))) (Ae (tau 2 Ct.nd (Ak Ce (tfl (pv 0)) (pv 1)) Hl))))) (Ae (Ap (pv 2))))),?_⟩
 apply Fz (λG H'=>∃(m:Nat) (z:Int),G=[mn (.ref x),mn (.int m),mn (.int z)]/\m<=ds.9/\SmT ts H H') (λG _=>lbM ds.9 G) {k,0,rfl,hk,SmT.refl hT} ?_;rintro μ G H1 ⟨m,z,rfl,hm,s1⟩ QS;have QS:ds.9-(m:Int).toNat=μ:=QS;have h1:=h.sm s1;apply{x,ah,dx,_,_,rfl,h1.hx,ai.cl,ai.cU,rfl,?_};apply B6 (λhz=>?_) (λ_=>?_)
 .refine Kl ?_
  apply{x,ah,dx,_,.ref d,rfl,h1.hx,ai.cl,ai.cT,rfl,?_};refine Aeg h1.hd ?_
  cases hv:Hq kvs (.inl (m:Int)) with
  |some vv=>
   obtain⟨t,m2,l2,rfl,ht,hm2⟩:=h1.hl _ _ hv;rw[show(mn (V.ref t):Option V).isSome=MK from rfl];apply{x,ah,dx,_,.ref d,rfl,h1.hx,ai.cl,ai.cT,rfl,?_};apply Ae3 h1.hd hv ?_;apply Gs (SqT.of ht) (v:=.int l2) rfl ?_;k_is;exact q _ H1 s1
  |none=>
   rw[show(tp:Option V).isSome=ML from rfl];apply{x,dx,_,rfl,h1.hx,rfl,?_};apply{x,ds,m,rfl,{dx,b,c,_,_,_,_,d,kvs,h1},s1.ok,hm,λH2 s2=>?_};apply{x,ah,dx,_,_,rfl,s2.k h1.hx,ai.cl,ai.cU,rfl,?_};apply{{_,_,rfl,jY h.ok _,s1.trans s2},?_};have:=Adp h.ok (k:=m) ();show ds.9-((pre (gsL ds) (m+1):Nat):Int).toNat<μ;rw[ig] at QS ⊢;lia
 .k_is
  exact q z H1 s1
inductive wQ (K:d5)(CB CC CL:ee)(ts:List Tb)(vs:List V)(H:Hp)(Q:VK)(E:XK):Prop|mk(x l dx b c d:ee)(ds es:Za4)(s g v w:V)(_:vs=[.ref x,.ref l])(_:R8 K CB CC CL H x ds dx b c s g v w d [])(_:H l=mn (.lst (nV es)))(_:es.9=ds.9)(_:Tbs ts H)(_:∀kvs H',SmB ts d H H'->R8 K CB CC CL H' x ds dx b c s g v w d kvs->Q .non H')
variable (be:T.ZC "thin_rest" 1 ["depths"] Aa5)
include T ai be in
theorem Qu (F:Fun K "mark_leaps" "Levelled.mark_leaps" D6 f fd)(bO:T.ZM ah "far_down" 7 ["self","number","steps"] (Aes K ab aa ah ts))(bP:T.ZM ah "left_below" 7 ["self","number"] (tJ K ab aa ah ts)):T.ZA 8 f fd ["self","depths"] (wQ K ab aa ah ts):=by
 exists F.ok Ds
 obtain⟨x,l,dx,b,c,d,ds,es,s,g,v,w,rfl,h,hl,he,hT,q⟩:=h;have hn:=h.few;have nx:x≠d:=Ey h.hx h.hd (by intro z;cases z);have nl:l≠d:=Ey hl h.hd (by intro z;cases z);have nb:b≠d:=by
  obtain⟨_,_,hb1,_⟩:=h.hb;exact Ey hb1 h.hd (by intro z;cases z)
 have nc:c≠d:=by
  obtain⟨_,_,_,hc1,_⟩:=h.hc;exact Ey hc1 h.hd (by intro z;cases z)
 refine⟨_,(Aa (tst 2 Ds.nd (Au be hr.m (tpa (pv 1) Ab))) (Ae (C0 il rfl (Ri rfl T.cK (tpa (Ak Ce (tfl (pv 0)) Af) (tpa (Dl Cf Af) (tpa (Dl Cf Af) Ab)))) (tgn 3 Ds.nd) (Ae (B8 (ttc Ed (Ak Cv (tix By (pv 1) (pv 3)) (Az rfl T.cN)) (pv 2)) (Ae (mJ (Lb (tpa (Er bO hr.m (pv 0) (tpa (pv 3) (tpa (Az rfl T.cN) Ab))) (tpa (Er bP hr.m (pv 0) (tpa (pv 3) Ab)) Ab))) (nE (tfl (pv 0)) (pv 3) xP)))
  A8))))),?_⟩
 apply{l,es,rfl,hl,(),λr H1 hr1 s1=>?_};have h1:=h.sm (SmT.of hT s1);apply{x,ah,dx,_,_,rfl,h1.hx,ai.cl,ai.cU,rfl,?_};apply{(ds.9:Int)-1,-1,rfl,{(),(),(),()},?_};rw[show((ds.9:Int)-1 - -1).toNat=ds.9 by lia];refine uA (λi G H'=>(∃v3:Option V,G=[mn (.ref x),mn (.ref l),mn (.int r),v3])/\SmB ts d H H'/\∃kvs,kvs.9<=i/\R8 K ab aa ah H' x ds dx b c s g v w d kvs) {{_,rfl},(SmB.refl hT).then s1,[],d8 _,h1} ?_ ?_
 .rintro i G H2 hi ⟨⟨v3,rfl⟩,s2,kvs,hkl,h2⟩
  obtain⟨k,hk⟩:∃k:Nat,(ds.9:Int)-1+(i:Int) * -1=(k:Int):={ds.9-1-i,()};rw[hk];have hkn:k<es.9:=()
  apply Cw (SqL.of (s2.k hl nl)) (v:=.int (es[k]:Nat)) (Bg (tE (d6 hkn))) ?_;apply B6 (λ_=>?_) (λ_=>?_)
  .apply{x,dx,_,rfl,h2.hx,rfl,?_};apply{x,ds,k,_,rfl,{_,_,_,_,_,_,_,_,_,h2},s2.ok,(),λm H3 hm s3=>?_};have h3:=h2.sm s3;apply{x,dx,_,rfl,h3.hx,rfl,?_};apply{x,ds,k,rfl,{_,_,_,_,_,_,_,_,_,h3},s3.ok,(),λlb H4 s4=>?_};have h4:=h3.sm s4;have s24:=(s2.sm s3).sm s4;apply{few (by simp),λt ht=>?_};obtain⟨ut,ht1⟩:=Bz (o:=.tup [V.int (m:Int),V.int lb]) ht;have h5:=h4.sm (SmT.of s24.ok ut);have s25:=s24.then ut;generalize upd H4 t _=H5 at *;apply{x,ah,dx,_,.ref d,rfl,h5.hx,ai.cl,ai.cT,rfl,?_};apply Afz h5.hd (Ag ()) ?_;have s26:SmB ts d H (upd H5 d (.dK (Lm kvs (.inl (k:Int)) (.ref t)))):=s25.put h5.hd;have s56:SmB ts d H5 (upd H5 d (.dK (Lm kvs (.inl (k:Int)) (.ref t)))):=(SmB.refl s25.ok).put h5.hd;refine{{_,rfl},s26,Lm kvs (.inl (k:Int)) (.ref t),iw (L6 kvs _ _) (),?_};refine{s56.k h5.hx nx,h5.hb.keep (s56.kp h5.hd nb),h5.hc.keep (s56.kp h5.hd nc),Ac,λy vv e=>?_,h.ok,h.few};rw[zX] at e;have kt:∀{a:ee} {xs:List V},H5 a=mn (.tup xs)->upd H5 d (.dK (Lm kvs (.inl (k:Int)) (.ref t))) a=mn (.tup xs):=λ{a xs} e=>s56.k e (Ey e h5.hd (by intro z;cases z));split at e
   .obtain rfl:=fc e
    exact{t,m,lb,rfl,kt ht1,hm}
   .obtain⟨t2,m2,l2,e1,e2,e3⟩:=h5.hl _ _ e
    exact{t2,m2,l2,e1,kt e2,e3}
  .k_is
   exact{{_,rfl},s2,kvs,(),h2}
 .rintro G H2 ⟨⟨v3,rfl⟩,s2,kvs,_,h2⟩
  exact q kvs H2 s2 h2
inductive tI (K:d5)(CB CC CL:ee)(ts:List Tb)(vs:List V)(H:Hp)(Q:VK)(E:XK):Prop|mk(x dx a:ee)(ds:Za4)(_:vs=[.ref x,.ref a])(_:H x=mn (.ins CL dx []))(_:H a=mn (.lst ((Ax ds).map V.int)))(_:Dok ds)(_:ds.9<3000)(_:Tbs ts H)(_:∀H',SmB ts x H H'->Pd K CB CC CL H' x ds->Q .non H')
theorem vE {y:Int}(h:y∈At ltJ ns):y∈ns:=(C9 (lt:=ltJ) ns).mem_iff.mp h
theorem pC (ds:Za4):∃es:Za4,(At ltJ (iN ds)).map V.int=nV es/\es.9=ds.9:=by
 refine{(At ltJ (iN ds)).map LW,?_,by rw[d4,Dg,d4]};unfold nV;rw[jm];refine jb λy hy=>?_;obtain⟨n,_,rfl⟩:=jq.mp (vE hy);rfl
variable (aL:T.ZC "look_at" 2 ["elders"] Aar) (aM:T.ZC "depths_of" 1 ["elders"] gM)
include T aI aJ ai aL aM in
theorem Wd (F:Fun K "__init__" "Levelled.__init__" Gw f fd)(bQ:T.ZC "level_order" 2 ["depths"] (oB ts))(bR:T.ZC "level_row" 2 ["elders","order"] T5)(bS:Aat P w K mg base "Shortcuts" ar 4 ["self","order","step"] (Ox ar) [.int 16])(bT:T.ZC "begins_of" 5 ["things"] (Vn K aa))(bU:T.ZC "widest_of" 1 ["depths"] lB)(bV:T.ZM ah "mark_leaps" 8 ["self","depths"] (wQ K ab aa ah ts)):T.ZA 9 f fd ["self","elders"] (tI K ab aa ah ts):=by
 exists F.ok Eo
 obtain⟨x,dx,a,ds,rfl,hx,ha,hD,hn,hT,q⟩:=h;have hgl:=Gm hD;have hel:(Ax ds).9=ds.9:=Bd ds;have nlx:∀{H:Hp} {l:ee} {xs:List V} {fs:List (Str×V)},H x=mn (.ins ah dx fs)->H l=mn (.lst xs)->l≠x:=λh1 h2=>Ey h2 h1 (by intro z;cases z);refine{_,(Aa (tst 2 Eo.nd (Au aL hr.m (tpa (pv 1) Ab))) (Aa (tst 3 Eo.nd (Au aM hr.m (tpa (pv 2) Ab))) (Aa (tst 4 Eo.nd (Au bQ hr.m (tpa (pv 3) Ab))) (Aa (tsf (pv 0) (An Ao (by rfl) T.cJ Bp (tpa (pv 2) Ab))) (Aa (tsf (pv 0) (Ij aJ hr.m (tpa (Au bR hr.m (tpa (pv 2) (tpa (pv 4) Ab))) Ab))) (Aa (tsf (pv 0) (Ij aI hr.m (tpa (tfl (pv 0)) Ab))) (Aa (tsf (pv 0) (Abt bS hr.m Ahb (tpa (pv 4) Ab))) (Aa (tsf (pv 0) (Au bT hr.m (tpa (An O0 (by rfl) T.dH U4 (tpa (pv 3) Ab)) Ab))) (Aa (tsf (pv 0) (Ak Bc (Yx (uV rfl) (by rfl) T.da Uk (tpa (pv 3) Ab) (rQ (Dl Cf Af) Aaa)) Af)) (Aa (tsf (pv 0) (Au bU hr.m (tpa (pv 3) Ab))) (Aa (tsf (pv 0) sI) (Ae (A6 (Er bV hr.m (pv 0) (tpa (An O0 (by rfl) T.dH U4 (tpa (pv 3) Ab)) Ab))))))))))))))),?_}
 apply{a,ds,rfl,ha,hD,(),λl1 H1 s1 hl1=>?_};apply{l1,ds,rfl,hl1,hD,(),λl2 H2 s2 hl2=>?_};have hT2:=(hT.same s1).same s2;apply{l2,ds,rfl,hl2,(),hT2,λl3 H3 s3 _ hl3=>?_};have b3:SmB ts x H H3:=(((SmB.refl hT).then s1).then s2).sm s3;have hx3:H3 x=mn (.ins ah dx []):=s3.k (s2 _ _ (s1 _ _ hx));have i3:H3 l1=mn (.lst ((Ax ds).map V.int)):=s3.k (s2 _ _ hl1);have r3:=hl3;have j3:H3 l2=mn (.lst (nV ds)):=s3.k hl2;apply{l1,_,rfl,.inl (SqL.of i3),?_};rw[d4,hel];apply Ix hx3 ai.cl ai.cU (show 0<1000 by decide) b3 λH4 hx4 b4 k4=>?_;have i4:=k4.k i3 (nlx hx3 i3);have j4:=k4.k j3 (nlx hx3 j3);have r4:=k4.k r3 (nlx hx3 r3);apply{l1,l3,ds,rfl,i4,r4,hD,(),λH5 s5=>?_};have hx5:=s5 _ _ hx4;have b5:=b4.then s5;have j5:=s5 _ _ j4;have r5:=s5 _ _ r4;k_is;intro b db hb hdb hbd;have nbx:b≠x:=(Am hx5 hb).symm;refine{b,db,grB (gsL ds),rfl,Ac,by rw[Pq];lia,λH6 s6 hB6=>{rfl,?_}};have s6:=En hb hdb s6;have hx6:=s6 _ _ hx5;have b6:=b5.then s6;have j6:=s6 _ _ j5;have r6:=s6 _ _ r5;apply Ix hx6 ai.cl ai.dq (show 1<1000 by decide) b6 λH7 hx7 b7 k7=>?_;have j7:=k7.k j6 (nlx hx6 j6);have r7:=k7.k r6 (nlx hx6 r6);have hB7:=hB6.keep (k7.kp hx6 nbx);apply{x,ah,dx,_,.ref b,rfl,hx7,ai.cl,ai.dq,rfl,?_};k_is;intro c dc hc hdc hcd;have ncx:c≠x:=(Am hx7 hc).symm;refine{c,dc,b,_,rfl,Ac,(hB7.keep λc u _ _ e=>E3 hc hdc _ _ e),λH8 s8 hC8=>{rfl,?_}};have s8:=En hc hdc s8;have hx8:=s8 _ _ hx7;have b8:=b7.then s8;have j8:=s8 _ _ j7;have r8:=s8 _ _ r7;have hB8:=hB7.keep (SmT.of b7.ok s8).kq;apply Ix hx8 ai.cl ai.dy (show 2<1000 by decide) b8 λH9 hx9 b9 k9=>?_;have j9:=k9.k j8 (nlx hx8 j8);have r9:=k9.k r8 (nlx hx8 r8);have hB9:=hB8.keep (k9.kp hx8 nbx);have hC9:=hC8.keep (k9.kp hx8 ncx);k_is;intro sx dsx hsx hdsx hsxd;refine{sx,dsx,l3,_,16,rfl,Ac,E3 hsx hdsx _ _ r9,vX ds,by rw[d4,Hi];lia,by decide,λH10 s10=>{rfl,?_}};have s10:=En hsx hdsx s10;have hx10:=s10 _ _ hx9;have b10:=b9.then s10;have j10:=s10 _ _ j9;have hB10:=hB9.keep (SmT.of b9.ok s10).kq;have hC10:=hC9.keep (SmT.of b9.ok s10).kq;apply Ix hx10 ai.cl ai.dS (show 3<1000 by decide) b10 λH11 hx11 b11 k11=>?_;have j11:=k11.k j10 (nlx hx10 j10);have hB11:=hB10.keep (k11.kp hx10 nbx);have hC11:=hC10.keep (k11.kp hx10 ncx);obtain⟨es,he1,he2⟩:=pC ds;apply{l2,iN ds,rfl,by rw[<-gS];exact SqL.of j11,λq1 hq1=>?_};rw[he1];obtain⟨s12,hq12⟩:=Bz (o:=.lst (nV es)) hq1;generalize upd H11 q1 _=H12 at *;have hx12:=s12 _ _ hx11;have b12:=b11.then s12;have j12:=s12 _ _ j11;have hB12:=hB11.keep (SmT.of b11.ok s12).kq;have hC12:=hC11.keep (SmT.of b11.ok s12).kq;apply{q1,es,rfl,hq12,(),λg H13 s13 _ _=>?_};have hx13:=s13 _ _ hx12;have b13:=b12.then s13;have j13:=s13 _ _ j12;have hB13:=hB12.keep (SmT.of b12.ok s13).kq;have hC13:=hC12.keep (SmT.of b12.ok s13).kq;apply Ix hx13 ai.cl ai.cW (show 4<1000 by decide) b13 λH14 hx14 b14 k14=>?_;have j14:=k14.k j13 (nlx hx13 j13);have hB14:=hB13.keep (k14.kp hx13 nbx);have hC14:=hC13.keep (k14.kp hx13 ncx);apply Agz (ns:=iN ds) (by rw[<-gS];exact SqL.of j14) λmm _ _=>?_;apply Ix hx14 ai.cl ai.dU (show 5<1000 by decide) b14 λH15 hx15 b15 k15=>?_;have j15:=k15.k j14 (nlx hx14 j14);have hB15:=hB14.keep (k15.kp hx14 nbx);have hC15:=hC14.keep (k15.kp hx14 ncx);apply{l2,ds,rfl,j15,hD,(),λwv H16 s16=>?_};have hx16:=s16 _ _ hx15;have b16:=b15.then s16;have j16:=s16 _ _ j15;have hB16:=hB15.keep (SmT.of b15.ok s16).kq;have hC16:=hC15.keep (SmT.of b15.ok s16).kq;apply Ix hx16 ai.cl ai.dY (show 6<1000 by decide) b16 λH17 hx17 b17 k17=>?_;have j17:=k17.k j16 (nlx hx16 j16);have hB17:=hB16.keep (k17.kp hx16 nbx);have hC17:=hC16.keep (k17.kp hx16 ncx);k_is;intro d hd;have dnH:H d=tp:=b17.free hx17 hd;have ndx:d≠x:=(Am hx17 hd).symm;obtain⟨s18,hd18⟩:=Bz (o:=.dK []) hd;generalize upd H17 d _=H18 at *;have hx18:=s18 _ _ hx17;have b18:=b17.then s18;have j18:=s18 _ _ j17;have hB18:=hB17.keep (SmT.of b17.ok s18).kq;have hC18:=hC17.keep (SmT.of b17.ok s18).kq;apply Ix hx18 ai.cl ai.cT (show 7<1000 by decide) b18 λH19 hx19 b19 k19=>?_;have j19:=k19.k j18 (nlx hx18 j18);have hB19:=hB18.keep (k19.kp hx18 nbx);have hC19:=hC18.keep (k19.kp hx18 ncx);have hd19:=k19.k hd18 ndx;apply{x,dx,_,rfl,hx19,rfl,?_};apply{l2,iN ds,rfl,by rw[<-gS];exact SqL.of j19,λq2 hq2=>?_};rw[he1];obtain⟨s20,hq20⟩:=Bz (o:=.lst (nV es)) hq2;have hd20:=s20 _ _ hd19;generalize upd H19 q2 _=H20 at *;have hx20:=s20 _ _ hx19;have b20:=b19.then s20;have hB20:=hB19.keep (SmT.of b19.ok s20).kq;have hC20:=hC19.keep (SmT.of b19.ok s20).kq;k_is;have hL:R8 K ab aa ah H20 x ds dx b c (.ref sx) (.ref g) (.int (mm+1)) wv d []:={hx20,hB20,hC20,hd20,(λk v e=>by cases e),hD,hn};refine{x,q2,dx,b,c,d,ds,es,_,_,_,_,rfl,hL,hq20,he2,b20.ok,λkvs H21 s21 h21=>?_};exact q H21 (b20.new s21 dnH) {_,_,_,_,_,_,_,_,_,h21}
def wtI (ds:Za4)(g:Nat):List V:=[.int ((g:Int)-1),.int (eld ds (atO ds g))]
def Po (H:Hp)(ds:Za4)(as:List ee)(W:Za4):Prop:=as.9=W.9/\∀(i:Nat) (a:ee) (g:Nat),as[i]?=mn a->W[i]?=mn g->H a=mn (.tup (wtI ds g))
theorem Po.keep {ds:Za4}{as:List ee}{W:Za4}(h:Po H ds as W)(k:∀b xs,H b=mn (.tup xs)->H' b=mn (.tup xs)):Po H' ds as W:={h.1,λi a g h1 h2=>k _ _ (h.2 i a g h1 h2)}
theorem Po.app {ds:Za4}{as bs:List ee}{W U:Za4}(h:Po H ds as W)(k:Po H ds bs U):Po H ds (as++bs) (W++U):=by
 refine{by rw[d7,d7,h.1,k.1],λi a g h1 h2=>?_}
 by_cases hi:i<as.9
 .rw[f7 hi] at h1
  rw[f7 (by rw[<-h.1];exact hi)] at h2;exact h.2 i a g h1 h2
 .rw[fg ()] at h1
  rw[fg (by rw[<-h.1];lia),<-h.1] at h2;exact k.2 _ a g h1 h2
theorem Po.last {ds:Za4}{as:List ee}{W:Za4}{g:Nat}(h:Po H ds as (W++[g])):∃bs a,as=bs++[a]/\Po H ds bs W/\H a=mn (.tup (wtI ds g)):=by
 have hl:=h.1;rw[d7,nj] at hl;have hla:W.9<as.9:=()
 have e:as=as.take W.9++[as[W.9]]:=by
  have:=(iq W.9 as).symm;rw[lh hla,jj ()] at this;exact this
 refine{as.take W.9,as[W.9],e,{by rw[fk];lia,λi a g' h1 h2=>?_},?_}
 .have hi:=Ci h2
  rw[ic hi] at h1;exact h.2 i a g' h1 (by rw[f7 hi];exact h2)
 .exact h.2 W.9 _ g (d6 hla) (by rw[fg (d8 _),jx];rfl)
def wL (ds:Za4)(k:Nat):Za4:=(lvN (gsL ds) (k+1)).2
theorem rJ (ds:Za4):wL ds 0=(Hr (pre (gsL ds) 1) 0).reverse:=by
 show(lvS (gsL ds) ([],[0])).2=_;unfold lvS;show(Hr (pre (gsL ds) (0+1)) (pre (gsL ds) 0)).reverse++[]=_;rw[gp];rfl
theorem Ag9 {ds:Za4}(h:Dok ds):wL ds ds.9=[]:=by
 unfold wL;rw[Acp h]
theorem Aby {ds:Za4}(h:Dok ds){k:Nat}(hk:k<ds.9):∃g w,wL ds k=g::w/\atO ds g=k/\0<g/\g<ds.9+1/\wL ds (k+1)=(Hr (pre (gsL ds) (g+1)) (pre (gsL ds) g)).reverse++w/\∀u∈Hr (pre (gsL ds) (g+1)) (pre (gsL ds) g),eld ds (atO ds u)=k:=by
 obtain⟨W,e1,e2,e3⟩:=Vl h k ();rw[Xw h hk] at e2;have hW:wL ds k=W:=by unfold wL;rw[e1]
 cases W with
 |nil=>cases e2
 |cons g w=>
  rw[gt] at e2;obtain⟨a1,a2⟩:=vq e2;obtain⟨g0,g1⟩:=e3 g (by simp);refine{g,w,hW,a1,g0,g1,?_,λu hu=>?_}
  .show(lvS (gsL ds) (lvN (gsL ds) (k+1))).2=_
   rw[e1];rfl
  .obtain⟨s1,_⟩:=slots h (g:=g) g1
   obtain⟨g',rfl⟩:∃g',g=g'+1:={g-1,()};have hL:(Ls ds).getD (g'+1) []=Bk ds ds.9 k:=by
    rw[Abb () h];have a1:(lvo ds ds.9 ds.9).getD g' 0=k:=a1;rw[a1]
   rw[hL] at s1;have hm:atO ds u∈Bk ds ds.9 k:=by
    rw[<-s1];exact jq.mpr {u,n4.mpr hu,rfl}
   exact(Ps.mp hm).2
theorem Afo {ds:Za4}(h:Dok ds):∀u∈Hr (pre (gsL ds) 1) 0,eld ds (atO ds u)=-1:=λu hu=>by
 obtain⟨W,e1,e2,_⟩:=Vl h 0 ();have hW:wL ds 0=W:=by unfold wL;rw[e1]
 rw[rJ] at hW;have hm:atO ds u∈pend ds 0:=by
  rw[<-e2,<-hW];exact jq.mpr {u,n4.mpr hu,rfl}
 rw[Y3 h] at hm;exact(Ps.mp hm).2
theorem Age {ds:Za4}(h:Dok ds){k:Nat}(hk:k<=ds.9):(wL ds k).9<=ds.9:=by
 obtain⟨W,e1,e2,_⟩:=Vl h k hk;have hW:wL ds k=W:=by unfold wL;rw[e1]
 rw[hW,<-d4 (f:=atO ds),e2];unfold pend;exact iw (uj _ _) (by rw[fm];exact d8 _)
def fsL (ds:Za4):List V:=nV ((en (ds.9+1)).map λk=>pre (gsL ds) (k+1))
inductive Pw (K:d5)(CB CC CL:ee)(ts:List Tb)(vs:List V)(H:Hp)(Q:VK)(E:XK):Prop|mk(x:ee)(ds:Za4)(_:vs=[.ref x])(_:Pd K CB CC CL H x ds)(_:Tbs ts H)(_:∀p H',SmT ts H H'->H p=tp->H' p=mn (.lst ((Ax ds).map V.int))->Q (.ref p) H')
theorem jV {a b i u:Nat}(h:(Hr a b)[i]?=mn u):u=a-i/\i<a-b:=by
 have hi:=Ci h;rw[O5] at hi;unfold Hr at h;rw[fj,gr hi] at h;exact{(fc h).symm,hi}
theorem sO {lo:Int}{fr:St}{tc:TT}{Q:VK}(ds:Za4)(U:Za4)(hU:U.9=n)(hn:n<=5000)
  (turn:∀(i:Nat) (g:Nat) H (A:VK) (R:Hp->Prop),U[i]?=mn g->Ah H1 H->(∀a,H a=tp->A (.ref a) (upd H a (.tup (wtI ds g))))->tc (mn (.int (lo+i * -1))::fr) H λb H3=>if b=MK then te (mn (.int (lo+i * -1))::fr) H3 A else R H3)
  (fin:∀D as H,H1 D=tp->Ah H1 H->Po H ds as U->H D=mn (.lst (as.map V.ref))->Q (.ref D) H):Lk (eK lo (-1) n) H1 fr tc te Q:=by
 refine Yd (λi ys H=>∃as:List ee,ys=as.map V.ref/\Po H ds as (U.take i)) (λH _=>{[],rfl,rfl,λi a g h=>by cases h}) (λi ys H D xs o hD ⟨as,e,h⟩=>{as,e,h.keep λb zs hb=>by rw[Al (Ey hb hD (by intro z;cases z))];exact hb}) (λi ys H hi ⟨as,e,h⟩=>?_) (λi ys H A R hi s1 ⟨as,e,h⟩ hA=>?_) (λD ys H hD s1 ⟨as,e,h⟩ hd=>?_)
 .have:=h.1
  rw[fk] at this;rw[e,d4];exact Ag ()
 .obtain⟨g,hg⟩:∃g,U[i]?=mn g:={_,d6 ()}
  refine turn i g H A R hg s1 λa ha=>hA _ _ (Ai ha) {as++[a],by rw[e,fb];rfl,?_};rw[ie,hg];refine(h.keep λb xs hb=>Ai ha _ _ hb).app {rfl,λj a' g' h1 h2=>?_}
  cases j with
  |zero=>
   obtain rfl:a=a':=fc h1;obtain rfl:g=g':=fc h2;exact Ac
  |succ j=>cases h1
 .rw[fv ()] at h
  exact fin D as H hD s1 h (by rw[hd,e])
include T ai aK in
theorem Q7 (F:Fun K "elders" "Levelled.elders" Ck f fd):T.ZA 7 f fd ["self"] (Pw K ab aa ah ts):=by
 exists F.ok Cc
 obtain⟨x,ds,rfl,hL,hT,q⟩:=h;obtain⟨dx,b,c,s,g,v,w,d,kvs,h⟩:=id hL;have hD:=h.ok;have hn:=h.few;have hgl:=Gm hD;refine{_,(Aa (Gq (i:=1) rfl Mh Cc.nd rfl rfl (D0 rfl T.cK (tpa (Ak Bc (tfl (pv 0)) Af) Ab)) (λ_ _ _ _=>Bx) (λ_ _ _ _=>(Er aK hr.m (pv 1) (tpa (pv 0) Ab)))) (Aa (tst 2 Cc.nd (Bs Ab)) (Aa (Gq (i:=3) rfl Lx Cc.nd rfl rfl (Ri rfl T.cK (tpa (Ak Ce (tix By (pv 1) Af) Af) (tpa (Dl Cf Af) (tpa (Dl Cf Af) Ab)))) (λ_ _ _ _=>Bx) (λ_ _ _ _=>(Lb (tpa (pv 0) (tpa (Dl Cf Af) Ab))))) (Aa (E6 il (ttc Gr (An Ao (by rfl) T.cJ Bp (tpa (pv 3) Ab)) Af) (Aa (tst 4 Cc.nd (fH gj t9 tx fK (pv 3))) (Aa (Jg (i:=5) Cc.nd rfl (wu rfl) (An Ao (by rfl) T.cJ Bp (tpa (pv 2) Ab))) (Aa (A6 (Cl gj i6 i5 B0 (pv 2) (tpa (tix Fm (pv 4) Af) Ab))) (Ae (A6 (Cl gj AO AL Yu (pv 3) (tpa (Iy rfl Lz (Ri rfl T.cK (tpa (Ak Ce (tix By (pv 1) (Ak Bc (tix Fm (pv 4) Af) Af)) Af) (tpa (Ak Ce (tix By (pv 1) (tix Fm (pv 4) Af)) Af) (tpa (Dl Cf Af) Ab)))) (λ_ _ _ _=>Bx) (λ_ _ _ _=>(Lb (tpa (pv 0) (tpa (pv 1) Ab))))) Ab)))))))) (Ae (Ap (pv 2))))))),?_}
 apply{x,ah,dx,_,_,rfl,h.hx,ai.cl,ai.cU,rfl,?_};apply{((ds.9+1:Nat):Int),by rw[xn];rfl,(),(),?_};rw[ig];refine uG hT (λi=>nV ((en i).map λk=>pre (gsL ds) (k+1))) rfl (λi hi=>?_) (λi H1 R A hi s1 hA=>?_) (λfi H1 hfi s1 hf1=>?_)
 .rw[Dh,d4,fm]
  exact Ag ()
 .apply{x,dx,_,rfl,s1.k h.hx,rfl,?_};apply{x,ds,i,by rw[show(0+(i:Int))=(i:Int) by lia];rfl,hL.sm s1,s1.ok,(),λH2 s2=>?_};refine hA _ _ ?_ s2;rw[iz,fb];unfold nV;rw[fb];rfl
 have hf1:H1 fi=mn (.lst (fsL ds)):=hf1;have fat:∀{H':Hp} {k:Nat},k<=ds.9->H' fi=mn (.lst (fsL ds))->atI (fsL ds) (k:Int)=mn (.int (pre (gsL ds) (k+1):Nat)):=λ{H' k} hk _=>by unfold fsL;exact Bg (tE (by rw[fj,gr ()];rfl))
 apply{gy _,λel hel=>?_};obtain⟨u1,he1⟩:=Bz (o:=.lst []) hel;have hf2:=u1 _ _ hf1;have nfe:fi≠el:=Am hf1 hel;have nel:H el=tp:=s1.sm.free hel;have s2:=s1.then u1;generalize upd H1 el _=H2 at *;apply Cw (SqL.of hf2) (fat (k:=0) () hf2) ?_;k_is;have hp1:=jY hD 1;refine{((pre (gsL ds) 1:Nat):Int)-1,-1,rfl,{(),(),(),()},?_};rw[show(((pre (gsL ds) 1:Nat):Int)-1 - -1).toNat=pre (gsL ds) 1 by lia];refine sO ds (Hr (pre (gsL ds) 1) 0) (by rw[O5];lia) () (λi u H3 A R hu s3 hA=>?_) (λwa as H3 hwa s3 hW hw3=>?_)
 .obtain⟨hu1,hu2⟩:=jV hu
  have e0:wtI ds u=[V.int (((pre (gsL ds) 1:Nat):Int)-1+(i:Int) * -1),V.int (-1)]:=by
   unfold wtI;rw[Afo hD u (gi hu),show((u:Nat):Int)-1=((pre (gsL ds) 1:Nat):Int)-1+(i:Int) * -1 by lia]
  rw[e0] at hA;k_is;exact{few (by simp),hA}
 have nwa:H wa=tp:=s2.sm.free hwa;have nwe:el≠wa:=Am he1 hwa;have nwf:fi≠wa:=Am hf2 hwa;have hW0:Po H3 ds as (wL ds 0).reverse:=by rw[rJ,my];exact hW
 apply Fz (λG H6=>∃(k:Nat) (as:List ee) (v4 v5:Option V),G=[mn (.ref x),mn (.ref fi),mn (.ref el),mn (.ref wa),v4,v5]/\k<=ds.9/\SmT ts H H6/\Po H6 ds as (wL ds k).reverse/\H6 wa=mn (.lst (as.map V.ref))/\H6 el=mn (.lst (((Ax ds).take k).map V.int))/\H6 fi=mn (.lst (fsL ds))) (λ_ H6=>ds.9+1-rT H6 el) {0,as,_,_,rfl,gy _,s2.then s3,hW0,hw3,s3 _ _ he1,s3 _ _ hf2} ?_;clear hW0 hW hw3 s3 he1 hf2 hwa s2 hel u1;rintro μ G H6 ⟨k,as,v4,v5,rfl,hk,s6,hW6,hw6,he6,hf6⟩ QS;have hel2:(((Ax ds).take k).map V.int).9=k:=by rw[d4,fk,Bd];lia
 apply{wa,_,rfl,.inl (SqL.of hw6),?_};rw[d4,hW6.1,ou];k_is
 by_cases hkn:k=ds.9
 .subst hkn
  rw[Ag9 hD];refine B6 (λz=>absurd z (by simp)) (λ_=>?_);apply q el H6 s6 nel ?_;rw[he6,fv (by rw[Bd];exact d8 _)]
 .obtain⟨g,w,e1,e2,e3,e4,e5,e6⟩:=Aby hD (k:=k) ()
  have hwl:=Age hD (k:=k) ();rw[e1] at hW6 hwl ⊢;rw[yy] at hW6;obtain⟨bs,a,rfl,hW7,ha6⟩:=hW6.last;have nwa6:a≠wa:=Ey ha6 hw6 (by intro z;cases z);have nae6:a≠el:=Ey ha6 he6 (by intro z;cases z);refine B6 (λ_=>?_) (λz=>absurd (by simp only[f8];lia) z);refine Kl ?_;apply{.inl {rfl,_,SqL.of hw6},?_};apply{wa,_,.ref a,rfl,rfl,hw6,by rw[fb,d7,fg (by simp)];simp,?_};rw[show((bs++[a]).map V.ref).dropLast=bs.map V.ref by rw[fb];exact EA];have s7:SmT ts H (upd H6 wa (.lst (bs.map V.ref))):=s6.push nwa hw6;have kt:∀{y:ee} {xs:List V},H6 y=mn (.tup xs)->upd H6 wa (.lst (bs.map V.ref)) y=mn (.tup xs):=λ{y xs} e=>by rw[Al (Ey e hw6 (by intro z;cases z))];exact e
  have hW8:=hW7.keep λ_ _ e=>kt e;have ha7:=kt ha6;have hw7:=@Ac H6 wa (.lst (bs.map V.ref));have he7:upd H6 wa (.lst (bs.map V.ref)) el=mn (.lst (((Ax ds).take k).map V.int)):=by rw[Al nwe];exact he6
  have hf7:upd H6 wa (.lst (bs.map V.ref)) fi=mn (.lst (fsL ds)):=by rw[Al nwf];exact hf6
  generalize upd H6 wa _=H7 at *;apply{el,_,rfl,.inl (SqL.of he7),?_};rw[hel2];apply{.inl {rfl,_,SqL.of he7},?_};apply Gs (SqT.of ha7) (v:=.int (eld ds k)) (by unfold wtI;rw[e2];rfl) ?_;apply Ca he7 ?_ ?_
  .rw[hel2]
   exact Ag ()
  have eel:((Ax ds).take k).map V.int++[V.int (eld ds k)]=((Ax ds).take (k+1)).map V.int:=by
   rw[ie,Ou (show k<ds.9 by lia),fb];rfl
  rw[eel];have s8:SmT ts H (upd H7 el (.lst (((Ax ds).take (k+1)).map V.int))):=s7.push nel he7;have kt8:∀{y:ee} {xs:List V},H7 y=mn (.tup xs)->upd H7 el (.lst (((Ax ds).take (k+1)).map V.int)) y=mn (.tup xs):=λ{y xs} e=>by rw[Al (Ey e he7 (by intro z;cases z))];exact e
  have hW9:=hW8.keep λ_ _ e=>kt8 e;have ha8:=kt8 ha7;have he8:=@Ac H7 el (.lst (((Ax ds).take (k+1)).map V.int));have hw8:upd H7 el (.lst (((Ax ds).take (k+1)).map V.int)) wa=mn (.lst (bs.map V.ref)):=by rw[Al nwe.symm];exact hw7
  have hf8:upd H7 el (.lst (((Ax ds).take (k+1)).map V.int)) fi=mn (.lst (fsL ds)):=by rw[Al nfe];exact hf7
  generalize upd H7 el _=H8 at *;apply{.inl {rfl,_,SqL.of hw8},?_};apply Gs (SqT.of ha8) (v:=.int ((g:Int)-1)) rfl ?_;apply Cw (SqL.of hf8) (v:=.int (pre (gsL ds) (g+1):Nat)) (by rw[show(g:Int)-1+1=(g:Int) by lia];exact fat () hf8) ?_;apply Gs (SqT.of ha8) (v:=.int ((g:Int)-1)) rfl ?_;apply Cw (SqL.of hf8) (v:=.int (pre (gsL ds) g:Nat)) (by rw[show(g:Int)-1=((g-1:Nat):Int) by lia,fat (k:=g-1) () hf8,show g-1+1=g by lia]) ?_;k_is;have hpg:=jY hD (g+1);have hpm:=wV (gsL ds) (show g<=g+1 by lia);refine{((pre (gsL ds) (g+1):Nat):Int)-1,((pre (gsL ds) g:Nat):Int)-1,rfl,{(),(),(),()},?_};rw[show(((pre (gsL ds) (g+1):Nat):Int)-1-(((pre (gsL ds) g:Nat):Int)-1)).toNat=pre (gsL ds) (g+1)-pre (gsL ds) g by lia];refine sO ds (Hr (pre (gsL ds) (g+1)) (pre (gsL ds) g)) (by rw[O5]) () (λi u H9 A R hu s9 hA=>?_) (λD cs H9 hD9 s9 hU hc9=>?_)
  .obtain⟨hu1,hu2⟩:=jV hu
   have e0:wtI ds u=[V.int (((pre (gsL ds) (g+1):Nat):Int)-1+(i:Int) * -1),V.int (k:Int)]:=by
    unfold wtI;rw[e6 u (gi hu),show((u:Nat):Int)-1=((pre (gsL ds) (g+1):Nat):Int)-1+(i:Int) * -1 by lia]
   rw[e0] at hA;k_is;exact{few (by simp),hA}
  have hw9:=s9 _ _ hw8;have hcl:cs.9=pre (gsL ds) (g+1)-pre (gsL ds) g:=by rw[hU.1,O5]
  have hbl:bs.9=w.9:=by rw[hW9.1,ou]
  simp only[f8] at hwl;apply{wa,D,_,_,rfl,rfl,hw9,hc9,gz (Ag (by rw[d4,d4];lia)),?_};have s10:=s8.then s9;have kt9:∀{y:ee} {xs:List V},H9 y=mn (.tup xs)->upd H9 wa (.lst (bs.map V.ref++cs.map V.ref)) y=mn (.tup xs):=λ{y xs} e=>by rw[Al (Ey e hw9 (by intro z;cases z))];exact e
  refine{{k+1,bs++cs,_,_,rfl,(),s10.push nwa hw9,?_,by rw[Ac,fb],by rw[Al nwe];exact s9 _ _ he8,by rw[Al nwf];exact s9 _ _ hf8},?_}
  .rw[e5,ot,my]
   exact((hW9.keep λ_ _ e=>s9 _ _ e).app hU).keep λ_ _ e=>kt9 e
  .rw[O4 (show upd H9 wa _ el=_ by rw[Al nwe];exact s9 _ _ he8),<-QS,O4 he6,hel2,d4,fk,Bd,iu (show k+1<=ds.9 by lia)]
   exact Nat.sub_succ_lt_self _ _ ()
def hts (l:Za5)(i:Nat):List Int:=(en i).map λj=>hgt l (j+1)
theorem iQ (l:Za5)(i:Nat):hts l (i+1)=hts l i++[hgt l (i+1)]:=by
 unfold hts;rw[iz,fb];rfl
def htB (l:Za5)(b:Int)(i:Nat):List Int:=(hts l i).map (b + ·)
inductive Vz(vs:List V)(H:Hp)(Q:VK)(E:XK):Prop|mk(l:Za5)(bg:Int)(_:vs=[.str (Aq l),.int bg])(_:l.9<=1000)(_:∀p H',Ah H H'->H p=tp->H' p=mn (.lst ((htB l bg l.9).map V.int))->Q (.ref p) H')
include T in
theorem Xg (F:Fun K "heights_of" "heights_of" K0 f fd):T.ZA 1 f fd ["text","begin"] Vz:=by
 exists F.ok Fd
 obtain⟨l,bg,rfl,hl,q⟩:=h;refine{_,(Aa (tst 2 Fd.nd (pv 1)) (Aa (tst 3 Fd.nd (Bs Ab)) (Aa (C0 il rfl (Abc (pv 0)) (tgn 4 Fd.nd) (Aa (tau 2 Fd.nd (E5 (ttc Ed (pv 4) Cy) Af (Dl Cf Af)) Hl) (Ae (A6 (Cl gj i6 i5 B0 (pv 3) (tpa (pv 2) Ab)))))) (Ae (Ap (pv 3)))))),?_}
 apply{gy _,λp hp=>?_};apply{_,rfl,?_};refine sV (λi G H1=>∃v:Option V,G=[mn (.str (Aq l)),mn (.int bg),mn (.int (bg+hgt l i)),mn (.ref p),v]/\H1 p=mn (.lst ((htB l bg i).map V.int))/\Ah H H1) {_,by rw[show bg+hgt l 0=bg by unfold hgt;simp];rfl,Ac,Ai hp} ?_ ?_
 .rintro i c G H1 hc ⟨v,rfl,hp1,sm⟩
  obtain⟨b,hb,rfl⟩:=eH hc;have hi:=Ci hb;have hh:=On hb;have hz1:((htB l bg i).map V.int).9<sizeLine:=by
   rw[d4];unfold htB hts;rw[d4,d4,fm];exact Em ()
  have fin:∀d:Int,hgt l (i+1)=hgt l i+d->∃v:Option V,[mn (V.str (Aq l)),mn (V.int bg),mn (V.int (bg+hgt l i+d)),mn (V.ref p),mn (V.str (sgn (if b then 49 else 48)))]=[mn (V.str (Aq l)),mn (V.int bg),mn (V.int (bg+hgt l (i+1))),mn (V.ref p),v] /\
    (upd H1 p (.lst ((htB l bg i).map V.int++[V.int (bg+hgt l i+d)]))) p=mn (.lst ((htB l bg (i+1)).map V.int))/\Ah H (upd H1 p (.lst ((htB l bg i).map V.int++[V.int (bg+hgt l i+d)]))):=λd hd=>by
   refine{_,by rw[hd,HY],?_,λb' u e=>?_}
   .unfold htB
    rw[Ac,iQ,hd,fb,fb,HY];rfl
   .rw[Al (Am e hp)]
    exact sm _ _ e
  apply B6 (λh1=>?_) (λh1=>?_)
  .have hd:hgt l (i+1)=hgt l i+1:=by cases b with|true=>exact hh|false=>exact absurd h1 (by decide)
   apply{.inl {rfl,_,SqL.of hp1},?_};k_is;exact Ca hp1 hz1 (fin 1 hd)
  .have hd:hgt l (i+1)=hgt l i + -1:=by cases b with|false=>exact hh|true=>exact absurd rfl h1
   apply{.inl {rfl,_,SqL.of hp1},?_};k_is;exact Ca hp1 hz1 (fin (-1) hd)
 .rintro G H1 ⟨v,rfl,hp1,sm⟩
  rw[show(Aq l).cps.size=l.9 from Ar l] at *;k_is;exact q p H1 sm hp hp1
inductive qK(vs:List V)(H:Hp)(Q:VK)(E:XK):Prop|mk(l:Za5)(_:vs=[.str (Aq l)])(_:Vs 0 l)(_:l.9<=8000)(_:∀H',Ah H H'->Q .non H')
include T in
theorem fI (F:Fun K "check_row" "check_row" Mp f fd):T.ZA 1 f fd ["text"] qK:=by
 exists F.ok F1
 obtain⟨l,rfl,hv,hn,q⟩:=h;refine⟨_,(Aa (B8 (Ic (Fl (An Do (by rfl) T.cV C2 (tpa (pv 0) (tpa (Jb (v:=.ty "str") rfl T.dQ Aei rfl) Ab))))) (Ae Dv)
  A8) (Aa (tst 1 F1.nd Af) (Aa (C0 il rfl (yV rfl T.dA (tpa (pv 0) Ab)) (Uf rfl (E1 (tgn 2 F1.nd) (E1 (tgn 3 F1.nd) Pj))) (Aa (tau 1 F1.nd (E5 (ttc Ed (pv 3) Cy) Af (Dl Cf Af)) Hl) (Ae (B8 (PW.pt (Nt (Th eF (pv 3) Cy rfl) (Nt (ttc O2 (pv 1) Af) (N4 (ttc Ed (pv 2) (Az rfl T.dg)))))) (Ae Dv)
  A8)))) (Ae (B8 (ttc Gr (pv 1) Af) (Ae Dv)
  A8))))),?_⟩
 apply{_,_,_,_,rfl,.str _,R5,?_};apply{_,rfl,?_};refine uH (λi G H1=>(∃v2 v3:Option V,G=[mn (.str (Aq l)),mn (.int (hgt l i)),v2,v3])/\Ah H H1) {{_,_,rfl},Ah.refl _} ?_ ?_
 .rintro i c G H1 t hc ⟨⟨v2,v3,rfl⟩,s1⟩ ht
  obtain⟨b,hb,rfl⟩:=eH hc;have hi:=Ci hb;have hs:=On hb;obtain⟨h,hh,_⟩:=kP hv (i+1) ();have s2:=s1.trans (Ai (o:=.tup [.int i,.str (sgn (if b then 49 else 48))]) ht);generalize upd H1 t _=H2 at *;k_is
  cases b with
  |true=>
   refine B6 (λ_=>?_) (λh=>absurd rfl h);apply{_,_,rfl,rfl,?_};k_is;have hs:hgt l (i+1)=hgt l i+1:=hs;rw[<-hs,hh];rw[show(!(!(vt ("01":Str) (sgn (if MK=MK then 49 else 48)) 0 ("01":Str).9 1).isEmpty))=ML by decide +kernel];apply B6 (λh=>()) (λ_=>?_);apply B6 (λh=>?_) (λ_=>?_)
   .have:=V.int.inj h
    lia
   k_is;exact{{_,_,rfl},s2}
  |false=>
   refine B6 (λh=>absurd h (by decide)) (λ_=>?_);apply{_,_,rfl,rfl,?_};k_is;have hs:hgt l (i+1)=hgt l i + -1:=hs;rw[<-hs,hh];rw[show(!(!(vt ("01":Str) (sgn (if ML=MK then 49 else 48)) 0 ("01":Str).9 1).isEmpty))=ML by decide +kernel];apply B6 (λh=>()) (λ_=>?_);apply B6 (λh=>?_) (λ_=>?_)
   .have:=V.int.inj h
    lia
   k_is;exact{{_,_,rfl},s2}
 .rintro G H1 ⟨⟨v2,v3,rfl⟩,s1⟩
  rw[show(Aq l).cps.size=l.9 from Ar l];obtain⟨h,hh,hv2,_⟩:=kP hv l.9 (d8 _);rw[jj (d8 _)] at hv2;have hv2:h=0:=hv2;apply B6 (λh=>()) (λ_=>?_);k_is;exact q H1 s1
def O7 (b:V):List (Str×V):=[("bits",b)]
def Kw (b c:V):List (Str×V):=[("bits",b),("counts",c)]
def yY (b c n t o:V):List (Str×V):=[("bits",b),("counts",c),("length",n),("kept_table",t),("often_least",o)]
inductive qN (K:d5)(CP:ee)(vs:List V)(H:Hp)(Q:VK)(E:XK):Prop|mk(x dx:ee)(b c n t o:V)(_:vs=[.ref x,n,t,o])(_:H x=mn (.ins CP dx (Kw b c)))(_:Q .non (upd H x (.ins CP dx (yY b c n t o))))
variable (aq:Qd K ae)
include T aq in
theorem Wj (F:Fun K "__init__" "Heights.__init__" Hv f fd):T.ZA 1 f fd ["self","length","table","often_least"] (qN K ae):=by
 exists F.ok Sq
 obtain⟨x,dx,b,c,n,t,o,rfl,hx,q⟩:=h;refine{_,(Aa (tsf (pv 0) (pv 1)) (Aa (tsf (pv 0) (pv 2)) (Ae (tsf (pv 0) (pv 3))))),?_}
 apply Bj hx aq.cl aq.cM (show 2<1000 by decide) ?_;apply Bj Ac aq.cl aq.cR (show 3<1000 by decide) ?_;rw[Kt];apply Bj Ac aq.cl aq.dh (show 4<1000 by decide) ?_;rw[Kt];exact q
def bgH (l:Za5)(t:Nat):Int:=2*((occ MK l (t*256)).9:Int)-(t*256:Nat)
def sgH (l:Za5)(t:Nat):Za5:=(l.drop (t*256)).take 256
theorem Ac5 (l:Za5)(t:Nat):(sgH l t).9<=1000:=by unfold sgH;rw[fk];lia
def oK (l:Za5)(t:Nat):List Int:=htB (sgH l t) (bgH l t) (sgH l t).9
def Fg (K:d5)(CB CC CP:ee)(H:Hp)(x:ee)(l:Za5):Prop:=∃(dx b c t:ee) (o:V),H x=mn (.ins CP dx (yY (.ref b) (.ref c) (.int (l.9:Nat)) (.ref t) o))/\Db K CB H b l/\A0 K CC H c l/\Vs 0 l/\l.9<=8192
theorem Fg.same {K:d5}{x:ee}{l:Za5}(h:Fg K CB CC CP H x l)(s:Ah H H'):Fg K CB CC CP H' x l:=by
 obtain⟨dx,b,c,t,o,h1,h2,h3,h5⟩:=h;exact{dx,b,c,t,o,s _ _ h1,h2.same s,h3.same s,h5}
inductive qW (K:d5)(CC CP:ee)(vs:List V)(H:Hp)(Q:VK)(E:XK):Prop|mk(x dx c:ee)(fs:List (Str×V))(l:Za5)(n:Nat)(_:vs=[.ref x,.int n])(_:H x=mn (.ins CP dx fs))(_:fs.lookup ("counts":Str)=mn (.ref c))(_:A0 K CC H c l)(_:n<=l.9)(_:∀H',Ah H H'->Q (.int ((occ MK l n).9:Nat)) H')
include T aq in
theorem Q1 (F:Fun K "opens_ahead" "Pairs.opens_ahead" Ev f fd)(bW:T.ZM aa "ahead" 4 ["self","bit","place"] (qJ K aa)):T.ZA 5 f fd ["self","place"] (qW K aa ae):=by
 exists F.ok L1
 obtain⟨x,dx,c,fs,l,n,rfl,hx,hc,hC,hn,q⟩:=h;refine{_,(Ae (Ap (Er bW hr.m (tfl (pv 0)) (tpa Af (tpa (pv 1) Ab))))),?_};apply{x,ae,dx,fs,.ref c,rfl,hx,aq.cl,aq.dy,hc,?_};obtain⟨dc,t,u,hc1,_⟩:=id hC;apply{c,dc,_,rfl,hc1,rfl,?_};k_is;exact⟨c,l,MK,n,rfl,hC,hn,q⟩
inductive iI (K:d5)(CC CP:ee)(vs:List V)(H:Hp)(Q:VK)(E:XK):Prop|mk(x dx c:ee)(fs:List (Str×V))(l:Za5)(n:Nat)(_:vs=[.ref x,.int n])(_:H x=mn (.ins CP dx fs))(_:fs.lookup ("counts":Str)=mn (.ref c))(_:fs.lookup ("opens_ahead":Str)=tp)(_:A0 K CC H c l)(_:n<=l.9)(_:∀H',Ah H H'->Q (.int (2*((occ MK l n).9:Int)-n)) H')
include T aq in
theorem Wa (F:Fun K "height" "Heights.height" Gf f fd)(bX:T.ZM ae "opens_ahead" 5 ["self","place"] (qW K aa ae)):T.ZA 6 f fd ["self","place"] (iI K aa ae):=by
 exists F.ok Pc
 obtain⟨x,dx,c,fs,l,n,rfl,hx,hc,ho,hC,hn,q⟩:=h;refine{_,(Ae (Ap (Ak Ce (Ak G4 Af (Er bX hr.m (pv 0) (tpa (pv 1) Ab))) (pv 1)))),?_};apply{x,dx,fs,rfl,hx,ho,?_};apply{x,dx,c,fs,l,n,rfl,hx,hc,hC,hn,λH' s=>?_};k_is;exact q H' s
inductive U6 (K:d5)(CB CP:ee)(vs:List V)(H:Hp)(Q:VK)(E:XK):Prop|mk(x dx b:ee)(fs:List (Str×V))(l:Za5)(i j:Nat)(_:vs=[.ref x,.int i,.int j])(_:H x=mn (.ins CP dx fs))(_:fs.lookup ("bits":Str)=mn (.ref b))(_:Db K CB H b l)(_:i<=j)(_:j<=l.9)(_:∀H',Ah H H'->Q (.str (Aq ((l.drop i).take (j-i)))) H')
include T aq in
theorem Wf (F:Fun K "stretch" "Pairs.stretch" G1 f fd)(bY:T.ZM ab "stretch" 5 ["self","low","high"] (Yn K ab)):T.ZA 6 f fd ["self","low","high"] (U6 K ab ae):=by
 exists F.ok P8
 obtain⟨x,dx,b,fs,l,i,j,rfl,hx,hb,hB,hij,hj,q⟩:=h;refine{_,(Ae (Ap (Er bY hr.m (tfl (pv 0)) (tpa (pv 1) (tpa (pv 2) Ab))))),?_};apply{x,ae,dx,fs,.ref b,rfl,hx,aq.cl,aq.dq,hb,?_};obtain⟨db,t,hb1,_⟩:=id hB;apply{b,db,_,rfl,hb1,rfl,?_};k_is;exact⟨b,l,i,j,rfl,hB,hij,hj,q⟩
inductive Zr (K:d5)(CB CC CP:ee)(vs:List V)(H:Hp)(Q:VK)(E:XK):Prop|mk(x:ee)(l:Za5)(_:vs=[.ref x])(_:Fg K CB CC CP H x l)(_:∀H',Ah H H'->Q (.str (Aq l)) H')
include T aq in
theorem Wk (F:Fun K "text" "Heights.text" Ht f fd)(bZ:T.ZM ae "stretch" 6 ["self","low","high"] (U6 K ab ae)):T.ZA 7 f fd ["self"] (Zr K ab aa ae):=by
 exists F.ok Su
 obtain⟨x,l,rfl,⟨dx,b,c,t,o,hx,hB,hC,_⟩,q⟩:=h;refine{_,(Ae (Ap (Er bZ hr.m (pv 0) (tpa Af (tpa (tfl (pv 0)) Ab))))),?_};apply{x,dx,_,rfl,hx,rfl,?_};apply{x,ae,dx,_,_,rfl,hx,aq.cl,aq.cM,rfl,?_};apply{x,dx,b,_,l,0,l.9,rfl,hx,rfl,hB,gy _,d8 _,λH' s=>?_}
 simpa using q H' s
theorem J2 {x:ee}(hx:H1 x=tp)(hd:H1 dx=tp)(s:SameBut x (upd (upd H1 dx (.own x)) x (.ins C dx [])) H2):Ah H1 H2:=λb u e=>s b u (Am e hx) (by rw[Al (Am e hx),Al (Am e hd)];exact e)
theorem Lc {K:d5}{x b:ee}{l:Za5}(s:SameBut x H H')(n:wS H x)(hne:b≠x)(h:A0 K C H b l):A0 K C H' b l:=by
 obtain⟨dx,t,u,h1,h2,h3,h4⟩:=h;exact{dx,t,u,s _ _ hne h1,s _ _ (λe=>by subst e;exact(n _).1 (.inl h2)) h2,s _ _ (λe=>by subst e;exact(n _).1 (.inl h3)) h3,h4}
inductive qO (K:d5)(CB CC CP:ee)(vs:List V)(H:Hp)(Q:VK)(E:XK):Prop|mk(x dx:ee)(l:Za5)(_:vs=[.ref x,.str (Aq l)])(_:H x=mn (.ins CP dx []))(_:Vs 0 l)(_:l.9<=8000)(_:∀H',SameBut x H H'->Fg K CB CC CP H' x l->Q .non H')
variable (bf:T.ZC "check_row" 1 ["text"] qK) (aN:T.ZC "heights_of" 1 ["text","begin"] Vz)
include T aI aJ aq bf aN in
theorem Wr (F:Fun K "__init__" "Pairs.__init__" Du f fd)(ce:T.ZM ae "height" 6 ["self","place"] (iI K aa ae))(Ql:tW P w K mg base "Heights" "__init__" 1 ["self","length","table","often_least"] (qN K ae)):T.ZA 7 f fd ["self","text"] (qO K ab aa ae):=by
 exists F.ok E2
 obtain⟨x,dx,l,rfl,hx,hV,hl8,q⟩:=h;refine{_,(Aa (A6 (Au bf hr.m (tpa (pv 1) Ab))) (Aa (tsf (pv 0) (Ij aJ hr.m (tpa (pv 1) Ab))) (Aa (tsf (pv 0) (Ij aI hr.m (tpa (tfl (pv 0)) Ab))) (Aa (tst 2 E2.nd (pL rfl rfl T.cQ rfl T.cK (tpa Af (tpa (An Bw (by rfl) T.cJ Bp (tpa (pv 1) Ab)) (tpa (Az rfl T.cY) Ab))))) (Aa (Gq (i:=3) rfl Ss E2.nd rfl rfl (Cs (pv 2)) (λ_ _ _ _=>Bx) (λ_ _ _ _=>(Er ce hr.m (pv 1) (tpa (pv 0) Ab)))) (Aa (Kd (i:=4) rfl Sr E2.nd rfl rfl (Ro rfl T.de (tpa (pv 2) (tpa (pv 3) Ab))) (λ_ _ _ _=>Bx) (λ_ _ _ _=>(Au aN hr.m (tpa (B9 Rn (pv 2) (Bl (pv 0)) (Bl (Ak Bc (pv 0) (Az rfl T.cY)))) (tpa (pv 1) Ab))))) (Aa (Kd (i:=5) rfl Sy E2.nd rfl rfl (Ro rfl T.de (tpa (pv 3) (tpa (pv 4) Ab))) (λ_ _ _ _=>Bx) (λ_ _ _ _=>(Lb (tpa (pv 0) (tpa (An (U7 K rfl) (by rfl) T.cS Se (tpa (pv 1) Ab)) (tpa (An (mK K rfl) (by rfl) T.da Uk (tpa (pv 1) Ab)) Ab)))))) (Ae (A6 (qF Ql hr.m rfl (tpa (pv 0) (tpa (An Bw (by rfl) T.cJ Bp (tpa (pv 1) Ab)) (tpa (Cj Gi (by rfl) T.dB Tl (tpa (pv 5) Ab)) (tpa (Iy rfl Sz (Cs (pv 4)) (λ_ _ _ _=>Bx) (λ_ _ _ _=>(Agq K gj BB AZ Yj (pv 0) (tpa (An (U7 K rfl) (by rfl) T.cS Se (tpa (pv 0) Ab)) Ab)))) Ab)))))))))))))),?_}
 apply{l,rfl,hV,hl8,λH1 s1=>?_};have hl:l.9<=8192:=()
 have hx1:=s1 _ _ hx;k_is;intro b db hb hdb hbd;refine{b,db,l,rfl,Ac,(),λH2 s2 hB2=>{rfl,?_}};have s2:=J2 hb hdb s2;have hx2:=s2 _ _ hx1;have nbx:b≠x:=(Am hx1 hb).symm;apply Bj hx2 aq.cl aq.dq (show 0<1000 by decide) ?_;rw[show Co ("bits":Str) (V.ref b) []=(O7 (.ref b)) from rfl];have hB3:Db K ab (upd H2 x (.ins ae dx (O7 (.ref b)))) b l:=Ib As (Fo hx2) nbx hB2;have hx3:=@Ac H2 x (.ins ae dx (O7 (.ref b)));have b3:SameBut x H2 (upd H2 x (.ins ae dx (O7 (.ref b)))):=As;generalize upd H2 x _=H3 at *;apply{x,ae,dx,_,.ref b,rfl,hx3,aq.cl,aq.dq,rfl,?_};k_is;intro c dc hc hdc hcd;refine{c,dc,b,l,rfl,Ac,hB3.same (E3 hc hdc),λH4 s4 hC4=>{rfl,?_}};have s4:=J2 hc hdc s4;have hx4:=s4 _ _ hx3;have ncx:c≠x:=(Am hx3 hc).symm;have hB4:=hB3.same s4;apply Bj hx4 aq.cl aq.dy (show 1<1000 by decide) ?_;rw[show Co ("counts":Str) (V.ref c) (O7 (.ref b))=Kw (.ref b) (.ref c) from rfl];have hB5:Db K ab (upd H4 x (.ins ae dx (Kw (.ref b) (.ref c)))) b l:=Ib As (Fo hx4) nbx hB4;have hC5:A0 K aa (upd H4 x (.ins ae dx (Kw (.ref b) (.ref c)))) c l:=Lc As (Fo hx4) ncx hC4;have hx5:=@Ac H4 x (.ins ae dx (Kw (.ref b) (.ref c)));have b5:SameBut x H4 (upd H4 x (.ins ae dx (Kw (.ref b) (.ref c)))):=As;have but5:SameBut x H (upd H4 x (.ins ae dx (Kw (.ref b) (.ref c)))):=(((s1.trans s2).but.trans b3).trans s4.but).trans b5;generalize upd H4 x _=H5 at *;apply{_,rfl,gz (Ag (by rw[Ar];lia)),?_};rw[Ar];apply{l.9,256,rfl,(),by decide,by decide,λlo hlo=>?_};obtain⟨u6,hlo6⟩:=Bz (o:=.lst ((en ((l.9+256-1)/256)).map λt:Nat=>V.int (t*256:Nat))) hlo;have hx6:=u6 _ _ hx5;have hB6:=hB5.same u6;have hC6:=hC5.same u6;have but6:=but5.trans u6.but;generalize upd H5 lo _=H6 at *;obtain⟨m,hm⟩:∃m,(l.9+256-1)/256=m:={_,rfl};rw[hm] at hlo6;have hll:((en m).map λt:Nat=>V.int (t*256:Nat)).9=m:=by rw[d4,fm]
 apply{lo,rfl,{_,SqL.of hlo6},?_};refine G5 (xs:=(en m).map λt:Nat=>V.int (t*256:Nat)) (SqL.of hlo6) (λi=>(en i).map λt:Nat=>V.int (bgH l t)) rfl (λi hi=>?_) (λi y H7 R A hy s7 _ hA=>?_) (λD7 H7 hD7 s7 h7=>?_)
 .rw[d4,fm]
  exact Ag ()
 .have hi:i<m:=by have:=Ci hy;rw[hll] at this;exact this
  rw[fj,gr hi] at hy;obtain rfl:y=V.int (i*256:Nat):=(fc hy).symm;apply{x,dx,_,rfl,s7 _ _ hx6,rfl,?_};apply{x,dx,c,_,l,i*256,rfl,s7 _ _ hx6,rfl,rfl,hC6.same s7,(),λH8 s8=>?_};refine hA _ _ ?_ s8;rw[iz,fb];rfl
 rw[hll] at h7;have hx7:=s7 _ _ hx6;have hB7:=hB6.same s7;have hC7:=hC6.same s7;have but7:=but6.trans s7.but;have hlo7:=s7 _ _ hlo6;have hbl:((en m).map λt:Nat=>V.int (bgH l t)).9=m:=by rw[d4,fm]
 apply{lo,D7,rfl,{_,SqL.of hlo7},{_,SqL.of h7},?_};refine Zg (SqL.of hlo7) (SqL.of h7) (λD i zs H'=>∃rs:List ee,zs=rs.map V.ref/\rs.9=i/\∀(j:Nat) r,rs[j]?=mn r->r≠D/\H' r=mn (.lst ((oK l j).map V.int))) (λD H' _ _=>{[],rfl,rfl,λj r e=>by cases e}) ?_ ?_ ?_ ?_ ?_
 .rintro D i zs H' us o hD ⟨rs,e1,e2,e3⟩
  exact{rs,e1,e2,λj r e=>{(e3 j r e).1,by rw[Al (e3 j r e).1];exact(e3 j r e).2}}
 .rintro D i zs H' hi ⟨rs,rfl,e2,e3⟩
  rw[d4,e2];rw[hll,hbl] at hi;exact Ag ()
 .rintro D i zs H' H'' s ⟨rs,e1,e2,e3⟩
  exact{rs,e1,e2,λj r e=>{(e3 j r e).1,s _ _ (e3 j r e).2}}
 .intro D i zs y y2 H8 A R hy hy2 s8 hD0 hD8 hPv hA
  obtain⟨rs,rfl,e2,e3⟩:=hPv;have hi:i<m:=by have:=Ci hy;rw[hll] at this;exact this
  rw[fj,gr hi] at hy hy2;obtain rfl:y=V.int (i*256:Nat):=(fc hy).symm;obtain rfl:y2=V.int (bgH l i):=(fc hy2).symm;apply{_,rfl,gz (Ag (by rw[Ar];lia)),?_};k_is;have ec:Z0 (Aq l) (mn ((i*256:Nat):Int)) (mn (((i*256:Nat):Int)+256))=Aq (sgH l i):=by
   have:=Hc l (i*256) (i*256+256);rw[i0] at this;exact this
  rw[ec];refine{sgH l i,bgH l i,rfl,Ac5 l i,λp H9 s9 hp h9=>?_};refine hA _ _ s9 {rs++[p],by rw[fb];rfl,by rw[d7,e2];rfl,λj r e=>?_}
  by_cases hj:j<rs.9
  .rw[f7 hj] at e
   exact{(e3 j r e).1,s9 _ _ (e3 j r e).2}
  .have hj2:=Ci e
   rw[d7] at hj2;have hj3:j=rs.9:=by simp at hj2;lia
   subst hj3;rw[fg (d8 _),jx] at e;obtain rfl:p=r:=fc e;rw[e2];exact{(Am hD8 hp).symm,h9}
 .intro D8 zs H8 hD8 s8 hPv h8
  obtain⟨rs,rfl,e2,e3⟩:=hPv;rw[hll,hbl,rh] at e2;have hx8:=s8 _ _ hx7;have hB8:=hB7.same s8;have hC8:=hC7.same s8;have but8:=but7.trans s8.but;have h78:=s8 _ _ h7;have hrl:(rs.map V.ref).9=m:=by rw[d4,e2]
  have hne:∀i,i<m->oK l i≠[]:=λi hi e=>by
   have e:=congrArg k6 e;unfold oK htB hts sgH at e;simp at e;lia
  apply{D7,D8,rfl,{_,SqL.of h78},{_,SqL.of h8},?_};refine Zg (SqL.of h78) (SqL.of h8) (λD i zs H'=>zs.9=i) (λD H' _ _=>rfl) (λD i zs H' us o _ h=>h) (λD i zs H' hi h=>?_) (λD i zs H' H'' _ h=>h) ?_ ?_
  .rw[hbl,hrl] at hi
   rw[h];exact Ag ()
  .intro D i zs y y2 H9 A R hy hy2 s9 hD0 hD9 hPv hA
   have hi:i<m:=by have:=Ci hy;rw[hbl] at this;exact this
   rw[fj,gr hi] at hy;obtain rfl:y=V.int (bgH l i):=(fc hy).symm;have er:rs[i]?=mn (rs[i]'()):=d6 _;generalize rs[i]'()=r at er;rw[fj,er] at hy2;obtain rfl:y2=V.ref r:=(fc hy2).symm;have hr9:=s9 _ _ (e3 i r er).2;apply{r,oK l i,rfl,SqL.of hr9,hne i hi,λmn _=>?_};apply{r,oK l i,rfl,SqL.of hr9,hne i hi,λmx _=>?_};apply{few (by simp),λtp htp=>?_};exact hA _ _ (Ai htp) (by rw[d7,hPv];rfl)
  .intro D9 zs H9 hD9 s9 hPv h9
   have hx9:=s9 _ _ hx8;have hB9:=hB8.same s9;have hC9:=hC8.same s9;have but9:=but8.trans s9.but;have h89:=s9 _ _ h8;apply{_,rfl,gz (Ag (by rw[Ar];lia)),?_};rw[Ar];apply{D9,_,rfl,.inl {SqL.of h9,λtq htq=>?_}};have s10:=Ai (o:=.tup zs) htq;have hx10:=s10 _ _ hx9;have hB10:=hB9.same s10;have hC10:=hC9.same s10;have but10:=but9.trans s10.but;have h810:=s10 _ _ h89;have e310:∀(j:Nat) r,rs[j]?=mn r->upd H9 tq (.tup zs) r=mn (.lst ((oK l j).map V.int)):=λj r e=>s10 _ _ (s9 _ _ (e3 j r e).2);generalize upd H9 tq _=H10 at *;apply{D8,rfl,{_,SqL.of h810},?_};refine jZ (SqL.of h810) (λi ys H'=>ys.9=i) (λ_ _=>rfl) (λi ys H' D zs o _ h=>h) (λi ys H' hi h=>?_) ?_ ?_
   .rw[hrl] at hi
    rw[h];exact Ag ()
   .intro i ys y H11 A R hy s11 hPv hA
    have hi:i<m:=by have:=Ci hy;rw[hrl] at this;exact this
    have er:rs[i]?=mn (rs[i]'()):=d6 _;generalize rs[i]'()=r at er;rw[fj,er] at hy;obtain rfl:y=V.ref r:=(fc hy).symm;have hr:=s11 _ _ (e310 i r er);apply{.inl {rfl,_,SqL.of hr},?_};apply{r,oK l i,rfl,SqL.of hr,hne i hi,λmn _=>?_};apply{r,_,_,rfl,rfl,hr,Ge _,rfl,?_};exact hA _ _ (Ah.refl _) (by rw[d7,hPv];rfl)
   .intro D12 ys H12 hD12 s12 hPv h12
    have hx12:=s12 _ _ hx10;apply{x,dx,.ref b,.ref c,.int (l.9:Nat),.ref tq,.ref D12,rfl,hx12,?_};exact q _ ((but10.trans s12.but).trans As) {dx,b,c,tq,_,Ac,Ib As (Fo hx12) nbx (hB10.same s12),Lc As (Fo hx12) ncx (hC10.same s12),hV,hl}
inductive qX(vs:List V)(H:Hp)(Q:VK)(E:XK):Prop|mk(a:ee)(ds:Za4)(_:vs=[.ref a])(_:H a=mn (.lst ((Ax ds).map V.int)))(_:Dok ds)(_:ds.9<4000)(_:∀H',Ah H H'->Q (.str (Aq (Km ds))) H')
theorem Ag2 {ds:Za4}{k:Nat}(h:ds[k]?=mn n):n=dAt ds k:=by
 unfold dAt jw;rw[h];rfl
include T aL aM in
theorem uL (F:Fun K "row_of" "row_of" T2 f fd):T.ZA 3 f fd ["elders"] qX:=by
 exists F.ok Kf
 obtain⟨a,ds,rfl,ha,hD,hn,q⟩:=h;refine{_,(Aa (tst 1 Kf.nd (Bs Ab)) (Aa (tst 2 Kf.nd Af) (Aa (C0 il rfl (Cs (Au aM hr.m (tpa (Au aL hr.m (tpa (pv 0) Ab)) Ab))) (tgn 3 Kf.nd) (Aa (A6 (Cl gj i6 i5 B0 (pv 1) (tpa (Ak Oa (Ak fS Cy (Ak Ce (pv 2) (pv 3))) Cy) Ab))) (Ae (tst 2 Kf.nd (Ak Bc (pv 3) Af))))) (Aa (A6 (Cl gj i6 i5 B0 (pv 1) (tpa (Ak fS Cy (pv 2)) Ab))) (Ae (Ap (Cl kh o6 o3 M5 Cy (tpa (pv 1) Ab)))))))),?_}
 apply{gy _,λp hp=>?_};k_is;have t0:=Ai (o:=.lst []) hp;refine{a,ds,rfl,t0 _ _ ha,hD,hn,λl1 H1 s1 hl1=>?_};apply{l1,ds,rfl,hl1,hD,hn,λl2 H2 s2 hl2=>?_};apply{l2,rfl,{_,SqL.of hl2},?_};have s12:=s1.trans s2;have hp2:=s12 _ _ (Ac (H:=H) (a:=p) (o:=.lst []));have npl:l2≠p\/ds=[]:=by
  by_cases e:l2=p
  .subst e
   rw[hp2] at hl2;have:=HO.lst.inj (fc hl2)
   cases ds with
   |nil=>exact .inr rfl
   |cons d r=>cases this
  .exact .inl e
 refine Ho (xs:=nV ds) (λk G H3=>(∃v3:Option V,G=[mn (.ref a),mn (.ref p),mn (.int (opn ds k:Nat)),v3])/\H3 p=mn (.lst ((en k).map λi=>V.str (Aq (Cb ds i))))/\Ah H H3/\H3 l2=mn (.lst (nV ds))) {{_,rfl},hp2,t0.trans s12,hl2} (λk G H3 _ h=>SqL.of h.2.2.2) ?_ ?_
 .rintro k x G H3 hx ⟨⟨v3,rfl⟩,hp3,s3,hl3⟩
  have hk:=Ci hx;rw[Dh] at hk;have nlp:l2≠p:=by
   rcases npl with h|h
   .exact h
   .rw[h] at hk;cases hk
  obtain⟨d,hd,rfl⟩:=N6 hx;obtain rfl:=Ag2 hd;have hop:=N7 hD k ();have hdk:=hD k hk;apply{.inl {rfl,_,SqL.of hp3},?_};apply{"0",(opn ds k:Int)-(dAt ds k:Int),rfl,rfl,(),(),?_,few (by decide),?_}
  .exact gz (Ag (by rw[show("0":Str).9=1 by rfl];lia))
  have e0:Uo ("0":Str) ((opn ds k:Int)-(dAt ds k:Int)).toNat=Aq (d9 (opn ds k-dAt ds k) ML):=by
   rw[show((opn ds k:Int)-(dAt ds k:Int)).toNat=opn ds k-dAt ds k by lia];exact Pz ML _
  rw[e0];k_is;have e1:Aq (d9 (opn ds k-dAt ds k) ML)++("1":Str)=Aq (Cb ds k):=K3 (d9 (opn ds k-dAt ds k) ML) [MK];refine{_,"1",rfl,rfl,?_,?_}
  .rw[Ar,gx]
   exact gz (Ag (by rw[show("1":Str).9=1 by rfl];lia))
  rw[e1];apply Ca hp3 (by rw[d4,fm];exact Ag ()) ?_;apply{{_,rfl},?_,A9 s3 hp,?_}
  .rw[Ac,iz,fb]
   rfl
  .rw[Al nlp]
   exact hl3
 .rintro G H3 ⟨⟨v3,rfl⟩,hp3,s3,hl3⟩
  rw[Dh] at *;have hop:=N7 hD ds.9 (d8 _);apply{.inl {rfl,_,SqL.of hp3},?_};apply{"0",(opn ds ds.9:Int),rfl,rfl,(),(),?_,few (by decide),?_}
  .exact gz (Ag (by rw[show("0":Str).9=1 by rfl];lia))
  have e0:Uo ("0":Str) ((opn ds ds.9:Int)).toNat=Aq (d9 (opn ds ds.9) ML):=by
   rw[ig];exact Pz ML _
  rw[e0];apply Ca hp3 (by rw[d4,fm];exact Ag ()) ?_;apply{rfl,?_};k_is;have ef:((en ds.9).map (Cb ds)++[d9 (opn ds ds.9) ML]).flatten=Km ds:=by
   rw[ij,m7];rfl
  refine O1 (ls:=(en ds.9).map (Cb ds)++[d9 (opn ds ds.9) ML]) ?_ ?_ ?_
  .rw[Ac,fb,jm]
   rfl
  .rw[ef,Hw hD]
   lia
  .rw[ef]
   exact q _ (A9 s3 hp)
inductive Vo(vs:List V)(H:Hp)(Q:VK)(E:XK):Prop|mk(l:Za5)(_:vs=[.str (Aq l)])(_:Vs 0 l)(_:l.9<=8000)(_:∀p (ds:Za4) H',Ah H H'->H p=tp->H' p=mn (.lst ((Ax ds).map V.int))->Dok ds->Km ds=l->Q (.ref p) H')
include T bf in
theorem fA (F:Fun K "elders_of" "elders_of" Lr f fd):T.ZA 2 f fd ["text"] Vo:=by
 exists F.ok G6
 obtain⟨l,rfl,hv,hn,q⟩:=h;refine⟨_,(Aa (A6 (Au bf hr.m (tpa (pv 0) Ab))) (Aa (B8 (ttc Gr (An Bw (by rfl) T.cJ Bp (tpa (pv 0) Ab)) (Az rfl T.du)) (Ae Dv)
  A8) (Aa (tst 1 G6.nd (Bs Ab)) (Aa (tst 2 G6.nd (Bs (tpa (Dl Cf Af) Ab))) (Aa (C0 il rfl (Abc (pv 0)) (tgn 3 G6.nd) (Ae (B8 (ttc Ed (pv 3) Cy) (Aa (A6 (Cl gj i6 i5 B0 (pv 1) (tpa (tix By (pv 2) (Dl Cf Af)) Ab))) (Ae (A6 (Cl gj i6 i5 B0 (pv 2) (tpa (Ak Ce (An Ao (by rfl) T.cJ Bp (tpa (pv 1) Ab)) Af) Ab))))) (Ae (A6 (fH gj t9 tx fK (pv 2))))))) (Ae (Ap (pv 1)))))))),?_⟩
 apply{l,rfl,hv,hn,λH1 s1=>?_};apply{_,rfl,by rw[Ar];exact gz (Ag ()),?_};k_is;rw[Ar];refine B6 (λh=>()) (λ_=>?_);apply{gy _,λp hp1=>?_};have hp:H p=tp:=s1.free hp1;have t1:=Ai (o:=.lst []) hp1;apply{few (by simp),λy hy=>?_};have t2:=Ai (o:=.lst [V.int (-1)]) hy;have hyH:H y=tp:=(s1.trans t1).free hy;apply{_,rfl,?_};refine sV (λi G H2=>(∃(ds:Za4) (h:Nat) (v:Option V),G=[mn (.str (Aq l)),mn (.ref p),mn (.ref y),v]/\Dok ds/\ds.9<=i/\hgt l i=(h:Int)/\h<=opn ds ds.9/\l.take i=Uh ds ds.9++d9 (opn ds ds.9-h) ML /\
   H2 p=mn (.lst ((Ax ds).map V.int))/\H2 y=mn (.lst (((way ds ds.9).take (h+1)).map V.int)))/\Ah H H2) {{[],0,_,rfl,(λk hk=>by cases hk),d8 _,rfl,d8 _,rfl,t2 _ _ Ac,Ac},(s1.trans t1).trans t2} ?_ ?_
 .have hpy:p≠y:=Am Ac hy
  rintro i c G H2 hc ⟨⟨ds,h,v,rfl,hD,hdl,hh,hop,htk,hp2,hy2⟩,s2⟩;obtain⟨b,hb,rfl⟩:=eH hc;have hi:=Ci hb;have hs:=On hb;have hw:=Bq hD ds.9 (d8 _);obtain⟨h',hh',hvs,_⟩:=kP hv i ();have e:h'=h:=()
  subst e;have tk1:l.take (i+1)=l.take i++[b]:=by rw[ie,hb];rfl
  have hx:(way ds ds.9)[h'+1-1]?=mn ((way ds ds.9).getD h' 0):=by
   rw[qo];unfold jw;rw[d6 ()];rfl
  k_is
  cases b with
  |true=>
   refine B6 (λ_=>?_) (λh=>absurd rfl h);have hs:hgt l (i+1)=hgt l i+1:=hs;apply{.inl {rfl,_,SqL.of hp2},?_};apply Cw (SqL.of hy2) (R1 () hx) ?_;apply Ca hp2 ?_ ?_
   .rw[d4,Bd]
    exact Ag ()
   k_is;have hy3:upd H2 p (.lst ((Ax ds).map V.int++[V.int ((way ds ds.9).getD h' 0)])) y=mn (.lst (((way ds ds.9).take (h'+1)).map V.int)):=by rw[Al hpy.symm];exact hy2
   have hp3:=@Ac H2 p (.lst ((Ax ds).map V.int++[V.int ((way ds ds.9).getD h' 0)]));have s3:=A9 (o:=.lst ((Ax ds).map V.int++[V.int ((way ds ds.9).getD h' 0)])) s2 hp;generalize upd H2 p _=H3 at *;refine{.inl {rfl,_,SqL.of hy3},?_};apply{p,_,rfl,.inl (SqL.of hp3),?_};k_is;rw[d7,d4,Bd];refine Ca hy3 ?_ ?_
   .rw[Jv ()]
    exact Ag (by have:=N7 hD ds.9 (d8 _);lia)
   k_is;have hD2:=J5 (d:=h') hD hop;have hl2:(ds++[h']).9=ds.9+1:=by rw[d7];rfl
   have ho2:opn (ds++[h']) (ds.9+1)=h'+1:=by
    show dAt (ds++[h']) ds.9+1=_;rw[Mv]
   refine{{ds++[h'],h'+1,_,rfl,hD2,(),(),by rw[hl2,ho2];exact d8 _,?_,?_,?_},A9 s3 hyH}
   .rw[tk1,htk,hl2,ho2,jx,List.replicate_zero,gp,Mz,Y2 _ (d8 _),fh]
    unfold Cb;rw[Kg _ (d8 _),Mv]
   .rw[Al hpy,hp3,Ft,fb]
    rfl
   .have hwl:=Bq hD2 (ds.9+1) ()
    have ew:(way (ds++[h']) (ds.9+1)).take (h'+1+1)=(way ds ds.9).take (h'+1)++[(ds.9:Int)]:=by
     rw[fv (),J8]
    have ei:(((ds.9+[V.int ((way ds ds.9).getD h' 0)].9:Nat):Int)-1)=(ds.9:Int):=by
     simp only[f8,jg];lia
    rw[Ac,hl2,ew,fb,ei];rfl
  |false=>
   refine B6 (λh=>absurd h (by decide)) (λ_=>?_);have hs:hgt l (i+1)=hgt l i + -1:=hs;rw[Ff hb] at hvs;have hpos:=hvs.1;apply{.inl {rfl,_,SqL.of hy2},?_};refine{y,_,.int ((way ds ds.9).getD h' 0),rfl,rfl,hy2,?_,?_}
   .rw[Jv (),Sd]
    rw[ic ()];exact hx
   k_is;rw[X6 ()];refine{{ds,h'-1,_,rfl,hD,(),(),(),?_,?_,?_},A9 s2 hyH}
   .rw[tk1,htk,fh,show opn ds ds.9-(h'-1)=opn ds ds.9-h'+1 by lia,DV]
   .rw[Al hpy]
    exact hp2
   .rw[Ac,show h'-1+1=h'+1-1 by lia]
 .rintro G H2 ⟨⟨ds,h,v,rfl,hD,hdl,hh,hop,htk,hp2,hy2⟩,s2⟩
  rw[show(Aq l).cps.size=l.9 from Ar l] at *;obtain⟨h',hh',hvs,_⟩:=kP hv l.9 (d8 _);rw[jj (d8 _)] at hvs;have hvs:h'=0:=hvs;have e:h=0:=()
  subst e;rw[fv (d8 _),qm] at htk;k_is;exact q p ds H2 s2 hp hp2 hD htk.symm
def oFs (p:V):List (Str×V):=[("pairs",p)]
inductive qP (K:d5)(CO:ee)(vs:List V)(H:Hp)(Q:VK)(E:XK):Prop|mk(x dx:ee)(p:V)(_:vs=[.ref x,p])(_:H x=mn (.ins CO dx []))(_:Q .non (upd H x (.ins CO dx (oFs p))))
variable (aC:Qf K ap)
include T aC in
theorem We (F:Fun K "__init__" "Openings.__init__" Gv f fd):T.ZA 1 f fd ["self","pairs"] (qP K ap):=by
 exists F.ok Rs
 obtain⟨x,dx,p,rfl,hx,q⟩:=h;refine{_,(Ae (tsf (pv 0) (pv 1))),?_};k_is;exact Bj hx aC.cl aC.cX (show 0<1000 by decide) q
theorem Db.kp {K:d5}{b:ee}{l:Za5}(h:Db K C H b l)(k:Kp H H'):Db K C H' b l:=by
 obtain⟨dx,t,h1,h2,h3⟩:=h;exact{dx,t,k.k h1,k.k h2,h3}
theorem A0.kp {K:d5}{b:ee}{l:Za5}(h:A0 K C H b l)(k:Kp H H'):A0 K C H' b l:=by
 obtain⟨dx,t,u,h1,h2,h3,h4⟩:=h;exact{dx,t,u,k.k h1,k.k h2,k.k h3,h4}
theorem L5 {K:d5}{x p:ee}{l:Za5}{fs:List (Str×V)}(s:SameBut x H H')(hx:H x=mn (.ins C dx fs))(hf:fs.9<3)(h:Fg K CB CC CP H p l):Fg K CB CC CP H' p l:=by
 obtain⟨d,b,c,t,o,h1,h2,h3,h5⟩:=h;have ne:∀{y C' d':ee} {gs:List (Str×V)},H y=mn (.ins C' d' gs)->3<=gs.9->y≠x:=λhy hg e=>by
  rw[e,hx] at hy;cases hy;lia
 refine{d,b,c,t,o,s _ _ (ne h1 (show 3<=5 by decide)) h1,Ib s (Fo hx) ?_ h2,Lc s (Fo hx) ?_ h3,h5}
 .obtain⟨d2,t2,k,_⟩:=h2
  exact ne k (d8 3)
 .obtain⟨d2,t2,u2,k,_⟩:=h3
  exact ne k (d8 3)
def Hs (K:d5)(CB CC CP CO:ee)(H:Hp)(x:ee)(ds:Za4):Prop:=∃(dx p:ee),H x=mn (.ins CO dx (oFs (.ref p)))/\Fg K CB CC CP H p (Km ds)/\Dok ds/\ds.9<=4000
theorem Fg.kp {K:d5}{x:ee}{l:Za5}(h:Fg K CB CC CP H x l)(s:Kp H H'):Fg K CB CC CP H' x l:=by
 obtain⟨d,b,c,t,o,h1,h2,h3,h5⟩:=h;exact{d,b,c,t,o,s.k h1,h2.kp s,h3.kp s,h5}
theorem Hs.kp {K:d5}{CO:ee}{x:ee}{ds:Za4}(h:Hs K CB CC CP CO H x ds)(s:Kp H H'):Hs K CB CC CP CO H' x ds:=by
 obtain⟨dx,p,h1,h2,h3⟩:=h;exact{dx,p,s.k h1,h2.kp s,h3}
inductive kD (K:d5)(CB CC CP CO:ee)(vs:List V)(H:Hp)(Q:VK)(E:XK):Prop|mk(x dx a:ee)(ds:Za4)(_:vs=[.ref x,.ref a])(_:H x=mn (.ins CO dx []))(_:H a=mn (.lst ((Ax ds).map V.int)))(_:Dok ds)(_:ds.9<4000)(_:∀H',SameBut x H H'->Hs K CB CC CP CO H' x ds->Q .non H')
variable (bh:T.ZC "row_of" 3 ["elders"] qX) (bi:T.ZN "Pairs" ae 7 ["self","text"] (qO K ab aa ae))
include T aC bh bi in
theorem Wo (F:Fun K "__init__" "Opened.__init__" Jp f fd)(Qj:tW P w K mg base "Openings" "__init__" 1 ["self","pairs"] (qP K ap)):T.ZA 9 f fd ["self","elders"] (kD K ab aa ae ap):=by
 exists F.ok Vd
 obtain⟨x,dx,a,ds,rfl,hx,ha,hD,hn,q⟩:=h;refine{_,(Ae (A6 (qF Qj hr.m rfl (tpa (pv 0) (tpa (Ij bi hr.m (tpa (Au bh hr.m (tpa (pv 1) Ab)) Ab)) Ab))))),?_};apply{a,ds,rfl,ha,hD,hn,λH1 s1=>?_};have hrl:=Hw hD;have hx1:=s1 _ _ hx;k_is;intro p dp hp hdp hpd;refine{p,dp,Km ds,rfl,Ac,oJ hD,(),λH5 s5 hP5=>{rfl,?_}};have s5:=En hp hdp s5;have hx5:=s5 _ _ hx1;apply{x,dx,_,rfl,hx5,?_};exact q _ ((s1.trans s5).but.trans As) {dx,p,Ac,L5 As hx5 (show 0<3 by decide) hP5,hD,gz hn}
inductive wG (K:d5)(CB CC CP CO:ee)(vs:List V)(H:Hp)(Q:VK)(E:XK):Prop|mk(x:ee)(ds:Za4)(_:vs=[.ref x])(_:Hs K CB CC CP CO H x ds)(_:∀H',Ah H H'->Q (.str (Aq (Km ds))) H')
variable (bj:T.ZM ae "text" 7 ["self"] (Zr K ab aa ae))
include T aC bj in
theorem Wl (F:Fun K "row" "Openings.row" Hu f fd):T.ZA 8 f fd ["self"] (wG K ab aa ae ap):=by
 exists F.ok Sw
 obtain⟨x,ds,rfl,⟨dx,p,hx,hP,hD,hn⟩,q⟩:=h;obtain⟨dp,b,c,t,o,hp,_⟩:=id hP;refine{_,(Ae (Ap (Cr bj hr.m (tfl (pv 0))))),?_};apply{x,ap,dx,_,_,rfl,hx,aC.cl,aC.cX,rfl,?_};apply{p,dp,_,rfl,hp,rfl,?_};k_is;exact{p,_,rfl,hP,q}
inductive P2 (K:d5)(CB CC CP CO:ee)(vs:List V)(H:Hp)(Q:VK)(E:XK):Prop|mk(x:ee)(ds:Za4)(_:vs=[.ref x])(_:Hs K CB CC CP CO H x ds)(_:∀p H',Ah H H'->H p=tp->H' p=mn (.lst ((Ax ds).map V.int))->Q (.ref p) H')
variable (bn:T.ZC "elders_of" 2 ["text"] Vo)
include T aC bn in
theorem Q8 (F:Fun K "elders" "Openings.elders" F2 f fd)(cf:T.ZM ap "row" 8 ["self"] (wG K ab aa ae ap)):T.ZA 9 f fd ["self"] (P2 K ab aa ae ap):=by
 exists F.ok Nz
 obtain⟨x,ds,rfl,hO,q⟩:=h;obtain⟨dx,p,hx,hP,hD,hn⟩:=id hO;have hrl:=Hw hD;refine{_,(Ae (Ap (Au bn hr.m (tpa (Cr cf hr.m (pv 0)) Ab)))),?_};apply{x,dx,_,rfl,hx,rfl,?_};apply{x,ds,rfl,hO,λH1 s1=>?_};apply{Km ds,rfl,oJ hD,(),λp ds' H2 s2 h0 h1 hD' e=>?_};obtain rfl:=jD hD' hD e;exact q p H2 (s1.trans s2) (s1.free h0) h1
inductive jS(vs:List V)(H:Hp)(Q:VK)(E:XK):Prop|mk(a:ee)(ds:Za4)(_:vs=[.ref a])(_:H a=mn (.lst ((Ax ds).map V.int)))(_:Dok ds)(_:ds.9<4000)(_:∀p kvs H',Ah H H'->H p=tp->H' p=mn (.dK kvs)->Q (.ref p) H')
def Xd (n:Nat)(H:Hp)(zs:List V):Prop:=∃(as:List ee) (ks:List Int) (ys:List V),zs=as.map V.ref/\Aeq H as ks ys/\as.9<=n
theorem Xd.same {zs:List V}(s:Ah H H')(h:Xd n H zs):Xd n H' zs:=by
 obtain⟨as,ks,ys,e,⟨h1,h2,h3⟩,hn⟩:=h;exact{as,ks,ys,e,{h1,h2,λi a k y e1 e2 e3=>s _ _ (h3 i a k y e1 e2 e3)},hn}
theorem Xd.but {D:ee}{us:List V}{o:HO}{zs:List V}(hd:H D=mn (.lst us))(h:Xd n H zs):Xd n (upd H D o) zs:=by
 obtain⟨as,ks,ys,e,⟨h1,h2,h3⟩,hn⟩:=h;refine{as,ks,ys,e,{h1,h2,λi a k y e1 e2 e3=>?_},hn};have:=h3 i a k y e1 e2 e3;rw[Al (λz=>by rw[z,hd] at this;cases this)];exact this
theorem Xd.more {zs:List V}(h:Xd n H zs){t:ee}{k:Int}(ht:H t=mn (.tup [.int k,y])):Xd (n+1) H (zs++[.ref t]):=by
 obtain⟨as,ks,ys,rfl,⟨h1,h2,h3⟩,hn⟩:=h;refine{as++[t],ks++[k],ys++[y],by rw[fb];rfl,{by rw[d7,d7,h1];rfl,by rw[d7,d7,h2];rfl,λi a k' y' e1 e2 e3=>?_},by rw[d7];simpa using hn}
 by_cases hi:i<as.9
 .rw[f7 hi] at e1
  rw[f7 ()] at e2 e3;exact h3 i a k' y' e1 e2 e3
 .have hi2:i=as.9:=by have:=Ci e1;rw[d7] at this;simp at this;lia
  rw[fg (),hi2,jx] at e1;rw[fg (),show i-ks.9=0 by lia] at e2;rw[fg (),show i-ys.9=0 by lia] at e3;rw[<-fc e1,<-fc e2,<-fc e3];exact ht
theorem iP:∀(ks:List Int) (ys:List V) (kvs:List (Key×V)),(eX kvs ks ys).9<=kvs.9+ks.9
 |[],ys,kvs=>by cases ys<;>exact d8 _
 |k::ks,[],kvs=>jz _ _
 |k::ks,y::ys,kvs=>by
  have h1:=iP ks ys (Lm kvs (.inl k) y);have h2:=L6 kvs (.inl k:Key) y;show(eX (Lm kvs (.inl k) y) ks ys).9<=_;rw[f8];lia
include T be aM in
theorem Rm (F:Fun K "marked_depths" "marked_depths" Fh f fd):T.ZA 2 f fd ["elders"] jS:=by
 exists F.ok Gb
 obtain⟨a,ds,rfl,ha,hD,hn,q⟩:=h;refine{_,(Aa (tst 1 Gb.nd (Au aM hr.m (tpa (pv 0) Ab))) (Aa (Jg (i:=2) Gb.nd rfl (wu rfl) (Au be hr.m (tpa (pv 1) Ab))) (Ae (Ap (Cj (oO rfl) (by rfl) T.dN wF (tpa (Aa8 rfl N9 (fM rfl T.dA (tpa (pv 1) Ab)) (λ_ _ _ _=>Ta (ttc Ed (Ak Cv (pv 1) (Az rfl T.cN)) (pv 2))) (λ_ _ _ _=>(Lb (tpa (pv 0) (tpa (pv 1) Ab))))) Ab)))))),?_}
 apply{a,ds,rfl,ha,hD,hn,λl H1 s1 hl=>?_};apply{l,ds,rfl,hl,(),λr H2 hr2 s2=>?_};k_is;have hl2:=s2 _ _ hl;refine{l,rfl,{_,SqL.of hl2},?_};refine zP (SqL.of hl2) (λD i zs H3=>Xd i H3 zs) (λD H3 _ _=>{[],[],[],rfl,{rfl,rfl,λi a k y e=>by cases e},gy _}) (λD i zs H3 us o hD3 h=>h.but hD3) (λD i zs H3 hi h=>?_) (λD i zs H3 H4 s4 h=>h.same s4) (λD i zs x H3 A R hx s3 hD1 hD3 hM hR hA=>?_) (λD zs H3 hD1 s3 hM hD3=>?_)
 .obtain⟨as,ks,ys,rfl,_,hle⟩:=h
  rw[Dh] at hi;rw[d4];exact Ag ()
 .obtain⟨n,hn2,rfl⟩:=N6 hx
  apply B6 (λ_=>?_) (λ_=>?_)
  .apply{few (by simp),λt ht=>?_};refine hA _ _ (Ai ht) ?_;exact(hM.same (Ai ht)).more Ac
  .refine hR _ (Ah.refl _) ?_
   obtain⟨as,ks,ys,e,h1,h2⟩:=hM;exact{as,ks,ys,e,h1,()}
 .obtain⟨as,ks,ys,rfl,h1,hle⟩:=hM
  k_is;have sm:=(s1.trans s2).trans s3;refine{D,as,ks,ys,rfl,hD3,h1,?_,λp hp=>?_}
  .have:=iP ks ys []
   simpa using this
  .exact q p _ _ (sm.trans (Ai hp)) (sm.free hp) Ac
def Pu (ds:Za4):Za5:=MK::grB (gsC ds)
theorem Tn {ds:Za4}(h:Dok ds):(gsC ds).sum=ds.9:=iL h
theorem iH {ds:Za4}(h:Dok ds):(Pu ds).9=2*ds.9+2:=by
 unfold Pu;rw[f8,Pq,Tn h,Jc];lia
theorem Abz {ds:Za4}(h:Dok ds):Vs 0 (Pu ds):=X0 (Ae8 h)
def Aab (n:Nat):List (Str×V):=[("knots",.int n)]
def zC (n:Nat)(p:V):List (Str×V):=[("knots",.int n),("pairs",p)]
def cFs (n:Nat)(p m:V):List (Str×V):=[("knots",.int n),("pairs",p),("marks",m)]
def Ga (K:d5)(CB CC CP CD:ee)(H:Hp)(x:ee)(ds:Za4):Prop:=∃(dx p:ee) (m:V),H x=mn (.ins CD dx (cFs ds.9 (.ref p) m))/\Fg K CB CC CP H p (Pu ds)/\Dok ds/\ds.9<4000
inductive rD (K:d5)(CB CC CP CD:ee)(vs:List V)(H:Hp)(Q:VK)(E:XK):Prop|mk(x dx a:ee)(ds:Za4)(_:vs=[.ref x,.ref a])(_:H x=mn (.ins CD dx []))(_:H a=mn (.lst ((Ax ds).map V.int)))(_:Dok ds)(_:ds.9<4000)(_:∀H',SameBut x H H'->Ga K CB CC CP CD H' x ds->Q .non H')
variable (av:Qe K am)
include T aZ ba aL bi av in
theorem Wh (F:Fun K "__init__" "Counted.__init__" Hy f fd)(ci:T.ZC "marked_depths" 2 ["elders"] jS):T.ZA 9 f fd ["self","elders"] (rD K ab aa ae am):=by
 exists F.ok Lh
 obtain⟨x,dx,a,ds,rfl,hx,ha,hD,hn,q⟩:=h;refine{_,(Aa (tst 2 Lh.nd (Au aL hr.m (tpa (pv 1) Ab))) (Aa (tsf (pv 0) (An Ao (by rfl) T.cJ Bp (tpa (pv 2) Ab))) (Aa (tsf (pv 0) (Ij bi hr.m (tpa (Ak Oa Cy (Au ba hr.m (tpa (Au aZ hr.m (tpa (pv 2) Ab)) Ab))) Ab))) (Ae (tsf (pv 0) (Au ci hr.m (tpa (pv 2) Ab))))))),?_}
 apply{a,ds,rfl,ha,hD,hn,λl H1 s1 hl=>?_};have hx1:=s1 _ _ hx;apply{l,_,rfl,.inl (SqL.of hl),?_};rw[d4,Bd];apply Bj hx1 av.cl av.cU (show 0<1000 by decide) ?_;rw[show Co ("knots":Str) (V.int (ds.9:Nat)) []=(Aab ds.9) from rfl];have hx2:=@Ac H1 x (.ins am dx (Aab ds.9));have lx:l≠x:=λe=>by rw[e,hx1] at hl;cases hl
 have b2:SameBut x H (upd H1 x (.ins am dx (Aab ds.9))):=s1.but.trans As;have hl2:upd H1 x (.ins am dx (Aab ds.9)) l=mn (.lst ((Ax ds).map V.int)):=by rw[Al lx];exact hl
 generalize upd H1 x _=H2 at *;apply{l,ds,rfl,hl2,hD,(),λg H3 s3 hg0 hg=>?_};apply{g,gsC ds,rfl,hg,by rw[Tn hD,Jc];lia,λH4 s4=>?_};apply{_,_,rfl,rfl,?_,?_}
 .exact gz (Ag (by rw[Ar,Pq,Tn hD,Jc,show("1":Str).9=1 from rfl];lia))
 rw[show("1":Str)++Aq (grB (gsC ds))=Aq (Pu ds) from K3 [MK] _];k_is;have s34:=s3.trans s4;intro p dp hp hdp hpd;refine{p,dp,Pu ds,rfl,Ac,Abz hD,by rw[iH hD];lia,λH5 s5 hP5=>{rfl,?_}};have s5:=J2 hp hdp s5;have s25:=s34.trans s5;have hx5:=s25 _ _ hx2;have hl5:=s25 _ _ hl2;have b5:=b2.trans s25.but;apply Bj hx5 av.cl av.cX (show 1<1000 by decide) ?_;rw[show Co ("pairs":Str) (V.ref p) (Aab ds.9)=zC ds.9 (.ref p) from rfl];have hx6:=@Ac H5 x (.ins am dx (zC ds.9 (.ref p)));have b6:SameBut x H5 (upd H5 x (.ins am dx (zC ds.9 (.ref p)))):=As;have hl6:upd H5 x (.ins am dx (zC ds.9 (.ref p))) l=mn (.lst ((Ax ds).map V.int)):=by rw[Al lx];exact hl5
 have hP6:=L5 b6 hx5 (show 1<3 by decide) hP5;have b26:=b5.trans b6;generalize upd H5 x _=H6 at *;apply{l,ds,rfl,hl6,hD,hn,λm kvs H7 s7 hm0 hm=>?_};have hx7:=s7 _ _ hx6;apply Bj hx7 av.cl av.dZ (show 2<1000 by decide) ?_;rw[show Co ("marks":Str) (V.ref m) (zC ds.9 (.ref p))=cFs ds.9 (.ref p) (.ref m) from rfl];exact q _ ((b26.trans s7.but).trans As) {dx,p,_,Ac,L5 As hx7 (show 2<3 by decide) (hP6.same s7),hD,hn}
inductive wB (K:d5)(CB CC CP CD:ee)(vs:List V)(H:Hp)(Q:VK)(E:XK):Prop|mk(x:ee)(ds:Za4)(_:vs=[.ref x])(_:Ga K CB CC CP CD H x ds)(_:∀H',Ah H H'->Q (.str (Aq (grB (gsC ds)))) H')
include T bj av in
theorem Wm (F:Fun K "row" "Counted.row" Jk f fd):T.ZA 8 f fd ["self"] (wB K ab aa ae am):=by
 exists F.ok T8
 obtain⟨x,ds,rfl,⟨dx,p,m,hx,hP,hD,hn⟩,q⟩:=h;refine{_,(Ae (Ap (B9 Rn (Cr bj hr.m (tfl (pv 0))) (Bl Af) Kv))),?_};apply{x,am,dx,_,_,rfl,hx,av.cl,av.cX,rfl,?_};obtain⟨dp,b,c,t,o,hp,_⟩:=id hP;apply{p,dp,_,rfl,hp,rfl,?_};apply{p,Pu ds,rfl,hP,λH1 s1=>?_};apply{_,rfl,gz (Ag (by rw[Ar,iH hD];lia)),?_};have ec:Z0 (Aq (Pu ds)) (mn 1) tp=Aq (grB (gsC ds)):=by
  have h1:=Hc (Pu ds) 1 (Pu ds).9;rw[fv (by rw[i9];exact d8 _)] at h1;rw[<-show(Pu ds).drop 1=grB (gsC ds) from rfl,<-h1];unfold Z0;rw[_T.sIx_nat,show(Aq (Pu ds)).cps.size=(Pu ds).9 from Ar _,rh];rfl
 k_is;rw[ec];exact q H1 s1
def wt (ds:Za4)(k:Nat):List Int:=((way ds k).map λx=>d9 (Ll ds k x) x).flatten
theorem qU (ds:Za4):wt ds 0=d9 (Bk ds ds.9 (-1)).9 (-1):=by
 show(d9 (Ll ds 0 (-1)) (-1:Int))++[]=_;rw[gp,uI]
theorem tK {ds:Za4}(h:Dok ds){k:Nat}(hk:k<ds.9):∃B:List Int,wt ds k=B++[eld ds k]/\wt ds (k+1)=B++d9 (Bk ds ds.9 k).9 (k:Int):=by
 have ea:=G0 h hk;have ew:way ds (k+1)=(way ds k).take (dAt ds k)++[eld ds k]++[(k:Int)]:=by
  show(way ds k).take (dAt ds k+1)++[(k:Int)]=_;rw[ie,ea];rfl
 have ew0:way ds k=(way ds k).take (dAt ds k)++[eld ds k]++(way ds k).drop (dAt ds k+1):=by
  have:=(iq (dAt ds k+1) (way ds k)).symm;rw[ie,ea] at this;exact this
 have em:((way ds k).take (dAt ds k)).map (λx=>d9 (Ll ds (k+1) x) x)=((way ds k).take (dAt ds k)).map (λx=>d9 (Ll ds k x) x):=jb λx hx=>by
  obtain⟨i,hi⟩:=xl.mp hx;have hil:i<dAt ds k:=by
   have:=(fq.mp hi).1;rw[fk] at this;lia
  rw[ic hil] at hi;have:=Rh h k i (dAt ds k) _ _ () hil hi ea;rw[Yh hk x,if_neg ()];rfl
 have ed:(((way ds k).drop (dAt ds k+1)).map (λx=>d9 (Ll ds k x) x)).flatten=[]:=by
  rw[List.flatten_eq_nil_iff];intro l hl;obtain⟨x,hx,rfl⟩:=jq.mp hl;obtain⟨i,hi⟩:=xl.mp hx;rw[jd] at hi;rw[xO h hk hi ()];rfl
 have hs:=Yh hk (eld ds k);rw[if_pos rfl] at hs;refine{(((way ds k).take (dAt ds k)).map (λx=>d9 (Ll ds k x) x)).flatten++d9 (Ll ds (k+1) (eld ds k)) (eld ds k),?_,?_}
 .unfold wt
  rw[ew0,fb,fb,ij,ij,ed,gp,fh];rw[<-ew0];congr 1;show d9 (Ll ds k (eld ds k)) (eld ds k)++[]=_;rw[gp,hs,DV]
 .unfold wt
  rw[ew,fb,fb,ij,ij,em];congr 1
  .congr 1
   show _++[]=_;rw[gp]
  .show d9 (Ll ds (k+1) k) (k:Int)++[]=_
   rw[gp,vR h]
theorem zQ {ds:Za4}(h:Dok ds):∀k,k<=ds.9->(wt ds k).9+k=((gsC ds).take (k+1)).sum
 |0,_=>by
  rw[qU,gx];unfold gsC;simp
 |k+1,hk=>by
  obtain⟨B,e1,e2⟩:=tK h (show k<ds.9 by lia);have ih:=zQ h k ();rw[e1,d7] at ih;rw[e2,d7,gx,ie,Vh (show k<ds.9 by lia),nh];simp at ih ⊢;lia
theorem gG (ns:Za4)(k:Nat):(ns.take k).sum<=ns.sum:=by
 have:=congrArg GS (iq k ns);rw[nh] at this;lia
inductive Ra (K:d5)(CB CC CP CD:ee)(vs:List V)(H:Hp)(Q:VK)(E:XK):Prop|mk(x:ee)(ds:Za4)(_:vs=[.ref x])(_:Ga K CB CC CP CD H x ds)(_:∀p H',Ah H H'->H p=tp->H' p=mn (.lst ((Ax ds).map V.int))->Q (.ref p) H')
include T av in
theorem Q9 (F:Fun K "elders" "Counted.elders" Ep f fd)(cj:T.ZM am "row" 8 ["self"] (wB K ab aa ae am)):T.ZA 9 f fd ["self"] (Ra K ab aa ae am):=by
 exists F.ok C5
 obtain⟨x,ds,rfl,hC,q⟩:=h;obtain⟨dx,p,m,hx,hP,hD,hn⟩:=id hC;refine{_,(Aa (Gq (i:=1) rfl Nl C5.nd rfl rfl (Cs (Cl kh PySem.F.slot_str_split PySem.F.type_str_split tZ (Cr cj hr.m (pv 0)) (tpa Cy Ab))) (λ_ _ _ _=>Bx) (λ_ _ _ _=>(An Bw (by rfl) T.cJ Bp (tpa (pv 0) Ab)))) (Aa (tst 2 C5.nd (Bs Ab)) (Aa (tst 3 C5.nd (Ak Nx (Bs (tpa (Dl Cf Af) Ab)) (tix By (pv 1) Af))) (Aa (C0 il rfl (D0 rfl T.cK (tpa (tfl (pv 0)) Ab)) (tgn 4 C5.nd) (Aa (A6 (Cl gj i6 i5 B0 (pv 2) (tpa (fH gj t9 tx fK (pv 3)) Ab))) (Ae (A6 (Cl gj AO AL Yu (pv 3) (tpa (Ak Nx (Bs (tpa (pv 4) Ab)) (tix By (pv 1) (Ak Bc (pv 4) Af))) Ab)))))) (Ae (Ap (pv 2))))))),?_}
 apply{x,dx,_,rfl,hx,rfl,?_};apply{x,ds,rfl,hC,λH1 s1=>?_};have hs0:=Tn hD;have hl0:=Jc ds;have es:z5 (Aq (grB (gsC ds))) ("0":Str)=((gsC ds).map λn=>({(d9 n 49).6}:Str))++[{#[]}]:=by
  rw[Ab6];exact eY (gsC ds)
 apply{rfl,?_};refine{_,_,rfl,rfl,rfl,?_,λD hD0=>?_}
 .rw[Ar,Pq]
  lia
 rw[es];have s2:=s1.trans (Ai (o:=.lst ((((gsC ds).map λn=>({(d9 n 49).6}:Str))++[({#[]}:Str)]).map V.str)) hD0);have hD1:=@Ac H1 D (.lst ((((gsC ds).map λn=>({(d9 n 49).6}:Str))++[({#[]}:Str)]).map V.str));generalize upd H1 D _=H2 at *;have eg:(((gsC ds).map λn=>({(d9 n 49).6}:Str))++[({#[]}:Str)]).map V.str=(gsC ds++[0]).map λn=>V.str {(d9 n 49).6}:=by
  rw[fb,fb,jm];rfl
 rw[eg] at hD1;obtain⟨gs,hgs⟩:∃gs,gs=gsC ds++[0]:={_,rfl};rw[<-hgs] at hD1;have hgl:gs.9=ds.9+2:=by rw[hgs,d7,hl0];rfl
 have hgsum:gs.sum=ds.9:=by rw[hgs,nh,hs0];rfl
 refine{_,rfl,{_,SqL.of hD1},?_};refine G5 (SqL.of hD1) (λi=>nV (gs.take i)) rfl (λi hi=>?_) (λi x H3 R A hx s3 _ hA=>?_) (λD4 H4 hD4 s4 h4=>?_)
 .rw[Dh,fk]
  exact Ag ()
 .rw[fj] at hx
  cases e:gs[i]? with
  |none=>rw[e] at hx;cases hx
  |some n=>
   rw[e] at hx;cases hx;have hns:=Uv e;k_is;have hl:({(d9 n 49).6}:Str).9=n:=by simp[uq]
   refine{_,rfl,by rw[hl];exact gz (Ag ()),?_};rw[hl];refine hA _ _ ?_ (Ah.refl _);rw[ie,e];unfold nV;rw[fb];rfl
 rw[d4,fv (d8 _)] at h4;have s24:=s2.trans s4;apply{gy _,λel hel=>?_};have t1:=Ai (o:=.lst []) hel;have nDe:D4≠el:=Am h4 hel;have he1:=@Ac H4 el (.lst []);have h41:=t1 _ _ h4;have s14:=s24.trans t1;have nel:H el=tp:=s24.free hel;generalize upd H4 el _=H5 at *;apply{few (by simp),λw0 hw0=>?_};obtain⟨t2,hw1⟩:=Bz (o:=.lst [V.int (-1)]) hw0;have h42:=t2 _ _ h41;have he2:=t2 _ _ he1;have s15:=s14.trans t2;generalize upd H5 w0 _=H6 at *;apply Cw (SqL.of h42) (v:=.int ((Bk ds ds.9 (-1)).9:Nat)) (Bg (by rw[hgs];rfl)) ?_;have hk0:=rZ ds ds.9 (-1);refine{w0,((Bk ds ds.9 (-1)).9:Nat),_,rfl,rfl,hw1,(),(),gz (Ag (by simp;lia)),λwa hwa=>?_};have t3:=Ai (o:=.lst (d9 (((Bk ds ds.9 (-1)).9:Nat):Int).toNat [V.int (-1)]).flatten) hwa;have hW:(upd H6 wa (.lst (d9 (((Bk ds ds.9 (-1)).9:Nat):Int).toNat [V.int (-1)]).flatten)) wa=mn (.lst ((wt ds 0).map V.int)):=by
  rw[Ac,ig,qU,ph,y6]
 have h43:=t3 _ _ h42;have he3:=t3 _ _ he2;have s16:=s15.trans t3;have nwa:H wa=tp:=s15.free hwa;have newa:el≠wa:=Am he2 hwa;have nDw:D4≠wa:=Am h42 hwa;generalize upd H6 wa _=H7 at *;apply{x,am,dx,_,_,rfl,s16 _ _ hx,av.cl,av.cU,rfl,?_};apply{_,rfl,(),(),?_};rw[ig];refine Gc (λk G H8=>(∃v4:Option V,G=[mn (.ref x),mn (.ref D4),mn (.ref el),mn (.ref wa),v4])/\H8 el=mn (.lst (((Ax ds).take k).map V.int))/\H8 wa=mn (.lst ((wt ds k).map V.int))/\H8 D4=mn (.lst (nV gs))/\Ah H H8) {{_,rfl},he3,hW,h43,s16} ?_ ?_
 .rintro k G H8 hk ⟨⟨v4,rfl⟩,hel8,hwa8,hg8,s8⟩
  obtain⟨B,e1,e2⟩:=tK hD hk;have hlen:=zQ hD k ();have hts:=gG (gsC ds) (k+1);apply{.inl {rfl,_,SqL.of hel8},?_};apply{.inl {rfl,_,SqL.of hwa8},?_};refine{wa,_,.int (eld ds k),rfl,rfl,hwa8,?_,?_}
  .rw[e1,fb,d7,d4,fg (by simp)]
   simp
  k_is;have hdl:((wt ds k).map V.int).dropLast=B.map V.int:=by
   rw[e1,fb];exact EA
  rw[hdl];refine Ca (by rw[Al newa];exact hel8) ?_ ?_
  .rw[d4,fk,Bd]
   exact Ag ()
  have hel9:upd (upd H8 wa (.lst (B.map V.int))) el (.lst (((Ax ds).take k).map V.int++[V.int (eld ds k)])) el=mn (.lst (((Ax ds).take (k+1)).map V.int)):=by
   rw[Ac,ie,Ou hk,fb];rfl
  have hwa9:upd (upd H8 wa (.lst (B.map V.int))) el (.lst (((Ax ds).take k).map V.int++[V.int (eld ds k)])) wa=mn (.lst (B.map V.int)):=by rw[Al newa.symm,Ac]
  have hg9:upd (upd H8 wa (.lst (B.map V.int))) el (.lst (((Ax ds).take k).map V.int++[V.int (eld ds k)])) D4=mn (.lst (nV gs)):=by rw[Al nDe,Al nDw];exact hg8
  have s9:Ah H (upd (upd H8 wa (.lst (B.map V.int))) el (.lst (((Ax ds).take k).map V.int++[V.int (eld ds k)]))):=A9 (A9 s8 nwa) nel;generalize upd (upd H8 wa (.lst (B.map V.int))) el (.lst (((Ax ds).take k).map V.int++[V.int (eld ds k)]))=H9 at *;have hBl:B.9<=ds.9:=by rw[e1,d7] at hlen;lia
  apply{.inl {rfl,_,SqL.of hwa9},?_};apply{few (by simp),λc0 hc0=>?_};obtain⟨t4,hc1⟩:=Bz (o:=.lst [V.int (0+(k:Int))]) hc0;have hel10:=t4 _ _ hel9;have hwa10:=t4 _ _ hwa9;have hg10:=t4 _ _ hg9;have s10:=s9.trans t4;generalize upd H9 c0 _=H10 at *;k_is;have hkk:=rZ ds ds.9 (k:Int);refine Cw (SqL.of hg10) (v:=.int ((Bk ds ds.9 k).9:Nat)) ?_ ?_
  .rw[show(0+(k:Int)+1)=((k+1:Nat):Int) by lia]
   refine Bg ?_;rw[hgs];unfold nV;rw[fj,f7 (),Vh hk];rfl
  apply{c0,((Bk ds ds.9 k).9:Nat),_,rfl,rfl,hc1,(),(),gz (Ag (by simp;lia)),λc2 hc2=>?_};have t5:=Ai (o:=.lst (d9 (((Bk ds ds.9 k).9:Nat):Int).toNat [V.int (0+(k:Int))]).flatten) hc2;have hc3:upd H10 c2 (.lst (d9 (((Bk ds ds.9 k).9:Nat):Int).toNat [V.int (0+(k:Int))]).flatten) c2=mn (.lst ((d9 (Bk ds ds.9 k).9 (k:Int)).map V.int)):=by
   rw[Ac,ig,y6,ph,zk]
  have hel11:=t5 _ _ hel10;have hwa11:=t5 _ _ hwa10;have hg11:=t5 _ _ hg10;have s11:=s10.trans t5;generalize upd H10 c2 _=H11 at *;refine{wa,c2,_,_,rfl,rfl,hwa11,hc3,?_,?_}
  .rw[d4,d4,gx]
   exact gz (Ag ())
  apply{{_,rfl},?_,?_,?_,A9 s11 nwa}
  .rw[Al newa]
   exact hel11
  .rw[Ac,e2,fb]
  .rw[Al nDw]
   exact hg11
 .rintro G H8 ⟨⟨v4,rfl⟩,hel8,hwa8,hg8,s8⟩
  apply q el H8 s8 nel ?_;rw[hel8,fv (by rw[Bd];exact d8 _)]
theorem iA (l:Za5)(i:Nat):htB l 0 i=hts l i:=by
 unfold htB;refine(jb λx _=>?_).trans (IT _);exact zk x
def nB (l:Za5)(m:Int):Prop:=(l=[]/\m=0)\/Pb (hts l l.9) m
def rR (l:Za5)(m:Int):List V:=[.int (l.count MK:Nat),.int (hgt l l.9),.int m]
inductive Aay (K:d5)(vs:List V)(H:Hp)(Q:VK)(E:XK):Prop|mk(l:Za5)(_:vs=[.str (Aq l)])(_:l.9<=1000)(_:∀m t H',nB l m->Ah H H'->H t=tp->H' t=mn (.tup (rR l m))->Q (.ref t) H')
include T aN in
theorem oE (F:Fun K "sums_of" "sums_of" P7 f fd):T.ZA 2 f fd ["text"] (Aay K):=by
 exists F.ok W9
 obtain⟨l,rfl,hl,q⟩:=h;refine{_,(Aa (tst 1 W9.nd (Au aN hr.m (tpa (pv 0) (tpa Af Ab)))) (Ae (Ap (Lb (tpa (Cl kh sr sq Oh (pv 0) (tpa Cy Ab)) (tpa (E5 (ttc Gr (An Ao (by rfl) T.cJ Bp (tpa (pv 1) Ab)) Af) (tix By (pv 1) (Dl Cf Af)) Af) (tpa (Yx (uR rfl) (by rfl) T.cS Se (tpa (pv 1) Ab) (rQ Af Aaa)) Ab))))))),?_}
 apply{l,0,rfl,hl,λp H1 sm hp hp1=>?_};rw[iA] at hp1;apply{rfl,?_};apply{Aq l,49,rfl,rfl,?_};k_is;rw[(Rw l).1];have hlen:((hts l l.9).map V.int).9=l.9:=by rw[d4];unfold hts;rw[d4,fm]
 refine{p,_,rfl,.inl (SqL.of hp1),?_};rw[hlen];k_is;have fin:∀m,nB l m->∀t,H1 t=tp->Q (.ref t) (upd H1 t (.tup (rR l m))):=λm hm t ht=>q m t _ hm (sm.trans (Ai ht)) (sm.free ht) Ac;have fin2:∃(a:ee) (ns:List Int) (d:V),([V.ref p]:List V)=[.ref a]/\([V.int 0]:List V)=[d]/\SqL K H1 a (ns.map V.int)/\(ns=[]->[V.int (l.count MK:Nat),V.int (hgt l l.9),d].9<=sizeLine/\∀t,H1 t=tp->Q (.ref t) (upd H1 t (.tup [V.int (l.count MK:Nat),V.int (hgt l l.9),d]))) /\
   (∀m,Pb ns m->[V.int (l.count MK:Nat),V.int (hgt l l.9),V.int m].9<=sizeLine/\∀t,H1 t=tp->Q (.ref t) (upd H1 t (.tup [V.int (l.count MK:Nat),V.int (hgt l l.9),V.int m]))):=by
  refine{p,hts l l.9,.int 0,rfl,rfl,SqL.of hp1,λe=>?_,λm hm=>?_}
  .refine{few (by simp),λt ht=>fin 0 (.inl {?_,rfl}) t ht}
   cases l with
   |nil=>rfl
   |cons b r=>exact absurd e (by simp[hts,iz])
  .exact{few (by simp),λt ht=>fin m (.inr hm) t ht}
 refine B6 (λh1=>?_) (λh1=>?_)
 .apply Cw (SqL.of hp1) (v:=.int (hgt l l.9)) ?_ ?_
  .obtain⟨n,hn⟩:∃n,l.9=n+1:={l.9-1,()}
   rw[hn,iQ,fb];exact Ow _ _
  k_is;exact fin2
 .have e0:l=[]:=td.mp ()
  have e1:hgt l l.9=0:=by rw[e0];rfl
  rw[e1] at fin2;k_is;exact fin2
def pFs (s t g o:V):List (Str×V):=[("signs",s),("kept_sums",t),("greatest",g),("often_least",o)]
def K1 (C:ee)(H:Hp)(a:ee)(x:Za5):Prop:=∃(dx t:ee) (m g:Int) (o:V),H a=mn (.ins C dx (pFs (.str (Aq x)) (.ref t) (.int g) o))/\H t=mn (.tup (rR x m))/\nB x m
theorem K1.kp {a:ee}{x:Za5}(h:K1 C H a x)(s:Kp H H'):K1 C H' a x:=by
 obtain⟨dx,t,m,g,o,h1,h2,h3⟩:=h;exact{dx,t,m,g,o,s.k h1,s.k h2,h3}
def Pcs (C:ee)(H:Hp)(as:List ee)(ls:List (Za5)):Prop:=as.9=ls.9/\∀(k:Nat) (a:ee) (x:Za5),as[k]?=mn a->ls[k]?=mn x->K1 C H a x
theorem Pcs.kp {as:List ee}{ls:List (Za5)}(h:Pcs C H as ls)(s:Kp H H'):Pcs C H' as ls:={h.1,λk a x e1 e2=>(h.2 k a x e1 e2).kp s}
theorem Pcs.get {as:List ee}{ls:List (Za5)}(h:Pcs C H as ls){k:Nat}{v:V}(e:(as.map V.ref)[k]?=mn v):∃a x,v=.ref a/\as[k]?=mn a/\ls[k]?=mn x/\K1 C H a x:=by
 rw[fj] at e
 cases ea:as[k]? with
 |none=>rw[ea] at e;cases e
 |some a=>
  rw[ea] at e;have hk:=(fq.mp ea).1;have hx:ls[k]?=mn (ls[k]'(by rw[<-h.1];exact hk)):=d6 _;exact{a,_,(fc e).symm,rfl,hx,h.2 k a _ ea hx}
theorem Pcs.but {C' x:ee}{as:List ee}{ls:List (Za5)}{fs:List (Str×V)}(h:Pcs C H as ls)(s:SameBut x H H')(hx:H x=mn (.ins C' dx fs))(hne:∀a∈as,a≠x):Pcs C H' as ls:=⟨h.1,λk a y e1 e2=>by
 obtain⟨d,t,m,g,o,h1,h2,h3⟩:=h.2 k a y e1 e2;refine{d,t,m,g,o,s _ _ (hne a (gi e1)) h1,s _ _ (λe=>?_) h2,h3};rw[e,hx] at h2;cases h2⟩
def tH (p:V):List (Str×V):=[("kept_pieces",p)]
def rB (p b:V):List (Str×V):=[("kept_pieces",p),("begins",b)]
def sJ (p b k:V):List (Str×V):=[("kept_pieces",p),("begins",b),("knots_ahead",k)]
def Ae6 (p b k n t o:V):List (Str×V):=[("kept_pieces",p),("begins",b),("knots_ahead",k),("length",n),("kept_table",t),("often_least",o)]
def bgs (ls:List (Za5)):List V:=nV ((en (ls.9+1)).map λj=>bgn ls j)
theorem rS (ls:List (Za5)):(bgs ls).9=ls.9+1:=by unfold bgs nV;rw[d4,d4,fm]
theorem Z5 {ls:List (Za5)}{j:Nat}(h:j<=ls.9):(bgs ls)[j]?=mn (.int (bgn ls j:Nat)):=by
 unfold bgs nV;rw[fj,fj,gr ()];rfl
structure Ab5 (C:ee) (H:Hp) (p b:ee) (ls:List (Za5)):Prop where
 pcs:∃as:List ee,H p=mn (.lst (as.map V.ref))/\Pcs C H as ls
 bg:H b=mn (.lst (bgs ls))
 sz:kK ls
 fw:ls.9<=400
def Gz (C CR:ee)(H:Hp)(x:ee)(ls:List (Za5)):Prop:=∃(dx p b:ee) (k t o:V),H x=mn (.ins CR dx (Ae6 (.ref p) (.ref b) k (.int (ls.flatten.9:Nat)) t o))/\Ab5 C H p b ls
theorem Ab5.kp {p b:ee}{ls:List (Za5)}(h:Ab5 C H p b ls)(s:Kp H H'):Ab5 C H' p b ls:=by
 obtain⟨as,h1,h2⟩:=h.pcs;exact{{as,s.k h1,h2.kp s},s.k h.bg,h.sz,h.fw}
theorem Gz.kp {CR x:ee}{ls:List (Za5)}(h:Gz C CR H x ls)(s:Kp H H'):Gz C CR H' x ls:=by
 obtain⟨dx,p,b,k,t,o,h1,h2⟩:=h;exact{dx,p,b,k,t,o,s.k h1,h2.kp s}
def Ab7 (p e:V):List (Str×V):=[("pairs",p),("earlier",e)]
def He (C CR CS:ee)(H:Hp)(x:ee)(ls:List (Za5)):Prop:=∃(dx r:ee) (e:V),H x=mn (.ins CS dx (Ab7 (.ref r) e))/\Gz C CR H r ls
theorem He.kp {CR x:ee}{ls:List (Za5)}(h:He C CR CS H x ls)(s:Kp H H'):He C CR CS H' x ls:=by
 obtain⟨dx,r,e,h1,h2⟩:=h;exact{dx,r,e,s.k h1,h2.kp s}
inductive fY (CR:ee)(vs:List V)(H:Hp)(Q:VK)(E:XK):Prop|mk(x dx:ee)(p b k n t o:V)(_:vs=[.ref x,n,t,o])(_:H x=mn (.ins CR dx (sJ p b k)))(_:Q .non (upd H x (.ins CR dx (Ae6 p b k n t o))))
variable (ak:Qa K ad)
include T ak in
theorem Qn (F:Fun K "__init__" "Heights.__init__" Dd f fd):T.ZA 1 f fd ["self","length","table","often_least"] (fY ad):=by
 exists F.ok Ie
 obtain⟨x,dx,p,b,k,n,t,o,rfl,hx,q⟩:=h;refine{_,(Aa (tsf (pv 0) (pv 1)) (Aa (tsf (pv 0) (pv 2)) (Ae (tsf (pv 0) (pv 3))))),?_}
 apply Bj hx ak.cl ak.cM (show 3<1000 by decide) ?_;apply Bj Ac ak.cl ak.cR (show 4<1000 by decide) ?_;rw[Kt];apply Bj Ac ak.cl ak.dh (show 5<1000 by decide) ?_;rw[Kt];exact q
inductive lL (C:ee)(vs:List V)(H:Hp)(Q:VK)(E:XK):Prop|mk(x dx:ee)(l:Za5)(_:vs=[.ref x,.str (Aq l)])(_:H x=mn (.ins C dx []))(_:0<l.9)(_:l.9<=128)(_:∀H',SameBut x H H'->K1 C H' x l->Q .non H')
include T aN in
theorem Ws (F:Fun K "__init__" "Piece.__init__" K4 f fd)(Z:Qk K ag)(ck:T.ZC "sums_of" 2 ["text"] (Aay K)):T.ZA 3 f fd ["self","signs"] (lL ag):=by
 exists F.ok Nu
 obtain⟨x,dx,l,rfl,hx,h0,h1,q⟩:=h;refine{_,(Aa (tst 2 Nu.nd (Au aN hr.m (tpa (pv 1) (tpa Af Ab)))) (Aa (tsf (pv 0) (pv 1)) (Aa (tsf (pv 0) (Au ck hr.m (tpa (pv 1) Ab))) (Aa (tsf (pv 0) (An (M0 rfl) (by rfl) T.da Uk (tpa (pv 2) Ab))) (Ae (tsf (pv 0) (Cl gj BB AZ Yj (pv 2) (tpa (An (R0 rfl) (by rfl) T.cS Se (tpa (pv 2) Ab)) Ab)))))))),?_}
 apply{l,0,rfl,(),λp H1 s1 hp0 hp=>?_};rw[iA] at hp;have hx1:=s1 _ _ hx;apply Bj hx1 Z.cl Z.dG (show 0<1000 by decide) ?_;have hpx:p≠x:=(Am hx hp0).symm;have hp2:upd H1 x (.ins ag dx (Co "signs" (V.str (Aq l)) [])) p=mn (.lst ((hts l l.9).map V.int)):=by rw[Al hpx];exact hp
 have b2:SameBut x H1 (upd H1 x (.ins ag dx (Co "signs" (V.str (Aq l)) []))):=As;have hx2:=@Ac H1 x (.ins ag dx (Co "signs" (V.str (Aq l)) []));generalize upd H1 x _=H2 at *;apply{l,rfl,(),λm t H3 hm s3 ht0 ht=>?_};have hx3:=s3 _ _ hx2;have hp3:=s3 _ _ hp2;have htx:t≠x:=(Am hx2 ht0).symm;apply Bj hx3 Z.cl Z.dE (show 1<1000 by decide) ?_;have hp4:upd H3 x (.ins ag dx (Co "kept_sums" (V.ref t) (Co "signs" (V.str (Aq l)) []))) p=mn (.lst ((hts l l.9).map V.int)):=by rw[Al hpx];exact hp3
 have ht4:upd H3 x (.ins ag dx (Co "kept_sums" (V.ref t) (Co "signs" (V.str (Aq l)) []))) t=mn (.tup (rR l m)):=by rw[Al htx];exact ht
 have b4:SameBut x H3 (upd H3 x (.ins ag dx (Co "kept_sums" (V.ref t) (Co "signs" (V.str (Aq l)) [])))):=As;have hx4:=@Ac H3 x (.ins ag dx (Co "kept_sums" (V.ref t) (Co "signs" (V.str (Aq l)) [])));have but4:SameBut x H (upd H3 x (.ins ag dx (Co "kept_sums" (V.ref t) (Co "signs" (V.str (Aq l)) [])))):=((s1.but.trans b2).trans s3.but).trans b4;generalize upd H3 x _=H4 at *;have hne:hts l l.9≠[]:=λe=>by
  have:=congrArg k6 e;unfold hts at this;rw[d4,fm,jg] at this;lia
 apply{p,hts l l.9,rfl,SqL.of hp4,hne,λg hg=>?_};apply Bj hx4 Z.cl Z.dP (show 2<1000 by decide) ?_;have hp5:upd H4 x (.ins ag dx (Co "greatest" (V.int g) (Co "kept_sums" (V.ref t) (Co "signs" (V.str (Aq l)) [])))) p=mn (.lst ((hts l l.9).map V.int)):=by rw[Al hpx];exact hp4
 apply{.inl {rfl,_,SqL.of hp5},?_};apply{p,hts l l.9,rfl,SqL.of hp5,hne,λmn _=>?_};apply{p,_,_,rfl,rfl,hp5,Ge _,rfl,?_};apply Bj Ac Z.cl Z.dh (show 3<1000 by decide) ?_;rw[Kt];refine q _ (but4.trans As) {dx,t,m,g,_,Ac,?_,hm};rw[Al htx];exact ht4
inductive Ub (C:ee)(vs:List V)(H:Hp)(Q:VK)(E:XK):Prop|mk(l:Za5)(_:vs=[.str (Aq l)])(_:l.9<=20000)(_:∀p (as:List ee) H',Ah H H'->H p=tp->H' p=mn (.lst (as.map V.ref))->Pcs C H' as (pcs l)->Q (.ref p) H')
include T in
theorem fB (F:Fun K "pieces_of" "pieces_of" Gp f fd)(cm:T.ZN "Piece" ag 3 ["self","signs"] (lL ag)):T.ZA 5 f fd ["text"] (Ub ag):=by
 exists F.ok Kx
 obtain⟨l,rfl,hl,q⟩:=h;refine{_,(Aa (Jg (i:=1) Kx.nd rfl (wu rfl) (Ak Cp (Ak Ce (Ak Bc (An Bw (by rfl) T.cJ Bp (tpa (pv 0) Ab)) (Az rfl T.df)) Af) (Az rfl T.df))) (Aa (Gq (i:=2) rfl Vr Kx.nd rfl rfl (uN rfl T.cK (tpa Af (tpa (pv 1) Ab))) (λ_ _ _ _=>Bx) (λ_ _ _ _=>(Ak Cp (Ak G4 (pv 0) (An Bw (by rfl) T.cJ Bp (tpa (pv 2) Ab))) (pv 1)))) (Ae (Ap (Aa8 rfl Us (Ro rfl T.de (tpa (Ak Jj (Bs (tpa Af Ab)) (pv 2)) (tpa (Ak Jj (pv 2) (Bs (tpa (An Bw (by rfl) T.cJ Bp (tpa (pv 0) Ab)) Ab))) Ab))) (λ_ _ _ _=>Ta (ttc O2 (pv 0) (pv 1))) (λ_ _ _ _=>(Ij cm hr.m (tpa (B9 Rn (pv 2) (Bl (pv 0)) (Bl (pv 1))) Ab)))))))),?_}
 have hs:(Aq l).9=l.9:=Ar l;apply{_,rfl,gz (Ag (by rw[Ar];lia)),?_};rw[Ar];k_is;have hm:((l.9:Nat):Int)+128-1=((l.9+127:Nat):Int):=()
 have hm2:(((l.9:Nat):Int)+128-1)/128=((pcM l.9:Nat):Int):=by rw[hm];unfold pcM;lia
 rw[hm2];have hM:pcM l.9<=200:=by unfold pcM;lia
 obtain⟨n,hn⟩:∃n,n=pcM l.9-1:={_,rfl};have hn2:(((pcM l.9:Nat):Int)-1).toNat=n:=()
 have hx:∀i,(((i+1)*l.9/pcM l.9:Nat):Int)=(1+(i:Int))*(l.9:Int)/(pcM l.9:Int):=λi=>by rw[rl,AV,xn,Int.add_comm];rfl
 refine{1,(pcM l.9:Nat),rfl,{by decide,by decide,(),()},?_};rw[hn2];refine Vj (λi=>(en i).map λk:Nat=>V.int (Cq l.9 (k+1):Nat)) rfl (λi hi=>?_) (λi H1 R A hi s1 _ hA=>?_) (λD H1 hD s1 h1=>?_)
 .rw[d4,fm]
  exact Ag ()
 .apply{_,rfl,gz (Ag (by rw[Ar];lia)),?_};rw[Ar];apply mS () () ?_;apply rV () () ?_;apply hA _ _ ?_ (Ah.refl _);rw[iz,fb,<-hx i];rfl
 .have hcl:((en n).map λk:Nat=>V.int (Cq l.9 (k+1):Nat)).9=n:=by rw[d4,fm]
  apply{few (by simp),λz1 hz1=>?_};have u1:=Ai (o:=.lst [V.int 0]) hz1;apply{z1,D,_,_,rfl,rfl,Ac,u1 _ _ h1,?_,λp1 hp1=>?_}
  .rw[hcl]
   exact few (by simp only[f8,jg];lia)
  have u2:=Ai (o:=.lst ([V.int 0]++(en n).map λk:Nat=>V.int (Cq l.9 (k+1):Nat))) hp1;have hq1:upd (upd H1 z1 (.lst [V.int 0])) p1 (.lst ([V.int 0]++(en n).map λk:Nat=>V.int (Cq l.9 (k+1):Nat))) p1=_:=Ac;have s2:=(s1.trans u1).trans u2;have h2:=u2 _ _ (u1 _ _ h1);generalize upd (upd H1 z1 (.lst [V.int 0])) p1 (.lst ([V.int 0]++(en n).map λk:Nat=>V.int (Cq l.9 (k+1):Nat)))=H2 at *;apply{_,rfl,gz (Ag (by rw[Ar];lia)),?_};rw[Ar];apply{few (by simp),λz2 hz2=>?_};have u3:=Ai (o:=.lst [V.int (l.9:Nat)]) hz2;apply{D,z2,_,_,rfl,rfl,u3 _ _ h2,Ac,?_,λp2 hp2=>?_}
  .rw[hcl]
   exact few (by simp only[f8,jg];lia)
  have u4:=Ai (o:=.lst (((en n).map λk:Nat=>V.int (Cq l.9 (k+1):Nat))++[V.int (l.9:Nat)])) hp2;have hq2:upd (upd H2 z2 (.lst [V.int (l.9:Nat)])) p2 (.lst (((en n).map λk:Nat=>V.int (Cq l.9 (k+1):Nat))++[V.int (l.9:Nat)])) p2=_:=Ac;have s4:=(s2.trans u3).trans u4;have hq14:=u4 _ _ (u3 _ _ hq1);generalize upd (upd H2 z2 (.lst [V.int (l.9:Nat)])) p2 (.lst (((en n).map λk:Nat=>V.int (Cq l.9 (k+1):Nat))++[V.int (l.9:Nat)]))=H4 at *;have hl1:([V.int 0]++(en n).map λk:Nat=>V.int (Cq l.9 (k+1):Nat)).9=n+1:=by rw[d7,hcl];simp only[f8,jg];lia
  have hl2:(((en n).map λk:Nat=>V.int (Cq l.9 (k+1):Nat))++[V.int (l.9:Nat)]).9=n+1:=by rw[d7,hcl];rfl
  have ha1:∀i,i<=n->([V.int 0]++(en n).map λk:Nat=>V.int (Cq l.9 (k+1):Nat))[i]?=mn (V.int (Cq l.9 i:Nat)):=λi hi=>by
   cases i with
   |zero=>rw[X1];rfl
   |succ i=>
    show((en n).map λk:Nat=>V.int (Cq l.9 (k+1):Nat))[i]?=_;rw[fj,gr ()];rfl
  have hL:l.9=Cq l.9 (n+1):=by
   by_cases h0:l.9=0
   .rw[h0];unfold Cq;rw[IQ,DL]
   .have:n+1=pcM l.9:=by unfold pcM at hn ⊢;lia
    rw[this,Wx ()]
  have ha2:∀i,i<=n->(((en n).map λk:Nat=>V.int (Cq l.9 (k+1):Nat))++[V.int (l.9:Nat)])[i]?=mn (V.int (Cq l.9 (i+1):Nat)):=λi hi=>by
   by_cases h:i<n
   .rw[f7 (by rw[hcl];exact h),fj,gr h]
    rfl
   .obtain rfl:i=n:=()
    rw[fg (by rw[hcl];exact d8 _),hcl,jx,<-hL];rfl
  apply{p1,p2,rfl,{_,SqL.of hq14},{_,SqL.of hq2},?_};refine yX (SqL.of hq14) (SqL.of hq2) (λD i zs H'=>∃as:List ee,zs=as.map V.ref/\as.9=min i (pcM l.9)/\∀(k:Nat) a x,as[k]?=mn a->(pcs l)[k]?=mn x->K1 ag H' a x) (λD H' _ _=>{[],rfl,by rw[Nat.zero_min];rfl,λk a x e=>by cases e}) ?_ ?_ ?_ ?_ ?_
  .rintro D i zs H' us o hD ⟨as,e1,e2,e3⟩
   refine{as,e1,e2,λk a x k1 k2=>?_};obtain⟨d,t,m,g,o',x1,x2,x3⟩:=e3 k a x k1 k2;exact{d,t,m,g,o',by rw[Al (λe=>by rw[e,hD] at x1;cases x1)];exact x1,by rw[Al (λe=>by rw[e,hD] at x2;cases x2)];exact x2,x3}
  .rintro D i zs H' hi ⟨as,rfl,e2,e3⟩
   rw[d4,e2];exact Ag ()
  .rintro D i zs H' H'' s ⟨as,e1,e2,e3⟩
   exact{as,e1,e2,λk a x k1 k2=>(e3 k a x k1 k2).kp (Ah.kp s)}
  .intro D i zs y y2 H5 A R hy hy2 s5 hD0 hD5 hPv hR hA
   obtain⟨as,rfl,e2,e3⟩:=hPv;have hi:i<=n:=by have:=Ci hy;rw[hl1] at this;lia
   rw[ha1 i hi] at hy;rw[ha2 i hi] at hy2;obtain rfl:=fc hy;obtain rfl:=fc hy2;apply B6 (λhlt=>?_) (λhlt=>?_)
   .have hlt:Cq l.9 i<Cq l.9 (i+1):=()
    have hiM:i<pcM l.9:=by
     by_cases h0:pcM l.9=0
     .unfold Cq at hlt
      rw[h0,IS,IS] at hlt;lia
     .lia
    have hsz:=fT hiM;have hst:=Rg (k:=i) (qE hiM);apply{_,rfl,gz (Ag (by rw[Ar];lia)),?_};rw[Hc];k_is;intro x dx hx0 hdx hxd;refine{x,dx,_,rfl,Ac,by rw[hsz];lia,by rw[hsz];lia,λH6 s6 hP6=>{rfl,?_}};have s6:=J2 hx0 hdx s6;refine hA _ _ s6 {as++[x],by rw[fb];rfl,by rw[d7,e2];simp only[f8,jg];lia,λk a y k1 k2=>?_};rw[iu ()] at e2
    by_cases hk:k<as.9
    .rw[f7 hk] at k1
     exact(e3 k a y k1 k2).kp (Ah.kp s6)
    .have hk2:=Ci k1
     rw[d7] at hk2;obtain rfl:k=as.9:=by simp only[f8,jg] at hk2;lia
     rw[fg (d8 _),jx] at k1;obtain rfl:x=a:=fc k1;rw[e2,mN hiM] at k2;obtain rfl:=fc k2;exact hP6
   .refine hR _ (Ah.refl _) {as,rfl,?_,e3}
    have hM0:pcM l.9=0:=by
     by_cases h0:l.9=0
     .rw[h0];rfl
     .exfalso
      have:=Rg (k:=i) (show 0<l.9 by lia);lia
    rw[e2,hM0,IR,IR]
  .intro D5 zs H5 hD5 s5 hPv h5
   obtain⟨as,rfl,e2,e3⟩:=hPv;rw[hl1,hl2,rh] at e2;refine q D5 as H5 (s4.trans s5) (s4.free hD5) h5 {?_,e3};rw[e2,Tf];lia
def kns (ls:List (Za5)):Za4:=ls.map λx=>x.count MK
inductive kG (C CR:ee)(vs:List V)(H:Hp)(Q:VK)(E:XK):Prop|mk(x dx p:ee)(as:List ee)(ls:List (Za5))(_:vs=[.ref x,.ref p])(_:H x=mn (.ins CR dx []))(_:H p=mn (.lst (as.map V.ref)))(_:Pcs C H as ls)(_:kK ls)(_:ls.9<=400)(_:∀H',SameBut x H H'->Gz C CR H' x ls->(∃dr fs,H' x=mn (.ins CR dr (("kept_pieces",.ref p)::fs)))->Q .non H')
variable (Y:Qk K ag)
include T aT ak Y in
theorem Wb (F:Fun K "__init__" "PiecedRow.__init__" B2 f fd)(Ql:tW P w K mg base "Heights" "__init__" 1 ["self","length","table","often_least"] (fY ad)):T.ZA 2 f fd ["self","pieces"] (kG ag ad):=by
 exists F.ok F0
 obtain⟨x,dx,p,as,ls,rfl,hx,hp,hP,hZ,hn,q⟩:=h;refine{_,(Aa (tsf (pv 0) (pv 1)) (Aa (tsf (pv 0) (Au aT hr.m (tpa (Iy rfl Nm (Cs (pv 1)) (λ_ _ _ _=>Bx) (λ_ _ _ _=>(An Bw (by rfl) T.cJ Bp (tpa (Je K (pv 0)) Ab)))) Ab))) (Aa (tsf (pv 0) (Au aT hr.m (tpa (Iy rfl Nk (Cs (pv 1)) (λ_ _ _ _=>Bx) (λ_ _ _ _=>(tix (Z1 K) (Je K (pv 0)) Af))) Ab))) (Aa (Kd (i:=2) rfl Nn F0.nd rfl rfl (Ro rfl T.de (tpa (tfl (pv 0)) (tpa (tfl (pv 0)) Ab))) (λ_ _ _ _=>Bx) (λ_ _ _ _=>(Ak Ce (Ak G4 Af (pv 0)) (pv 1)))) (Aa (Kd (i:=3) rfl Na F0.nd rfl rfl (Ro rfl T.de (tpa (pv 2) (tpa (pv 1) Ab))) (λ_ _ _ _=>Bx) (λ_ _ _ _=>(Lb (tpa (pv 0) (tpa (Ak Bc (pv 0) (tix (Z1 K) (Je K (pv 1)) Af)) (tpa (Ak Bc (pv 0) (Je K (pv 1))) Ab)))))) (Ae (A6 (qF Ql hr.m rfl (tpa (pv 0) (tpa (tix By (tfl (pv 0)) (Dl Cf Af)) (tpa (pv 3) (tpa (Iy rfl Nj (Cs (pv 1)) (λ_ _ _ _=>Bx) (λ_ _ _ _=>(Je K (pv 0)))) Ab)))))))))))),?_}
 have hne:∀a∈as,a≠x:=λa ha e=>by
  obtain⟨k,hk⟩:=l9 ha;have hk1:=(fq.mp hk).1;have hx2:ls[k]?=mn (ls[k]'(by rw[<-hP.1];exact hk1)):=d6 _;obtain⟨d,t,m,g,o,h1,_⟩:=hP.2 k a _ hk hx2;rw[e,hx] at h1;cases h1
 have hpx:p≠x:=λe=>by rw[e,hx] at hp;cases hp
 have hal:(as.map V.ref).9=ls.9:=by rw[d4,hP.1]
 apply Bj hx ak.cl ak.dC (show 0<1000 by decide) ?_;rw[show Co ("kept_pieces":Str) (V.ref p) []=tH (.ref p) from rfl];have hx1:=@Ac H x (.ins ad dx (tH (.ref p)));have b1:SameBut x H (upd H x (.ins ad dx (tH (.ref p)))):=As;have hP1:=hP.but b1 hx hne;have hp1:=b1 _ _ hpx hp;generalize upd H x _=H1 at *;apply{p,rfl,{_,SqL.of hp1},?_};refine G5 (SqL.of hp1) (λi=>nV ((ls.map k6).take i)) rfl (λi hi=>?_) (λi v H2 R A hv s2 _ hA=>?_) (λD2 H2 hD2 s2 h2=>?_)
 .unfold nV
  rw[d4,fk];exact Ag ()
 .obtain⟨a,y,rfl,ea,ey,hy⟩:=hP1.get hv
  obtain⟨d,t,m,g,o,y1,y2,y3⟩:=hy;apply{a,ag,d,_,_,rfl,s2 _ _ y1,Y.cl,Y.dG,rfl,?_};k_is;have:=hZ i y ey;refine{_,rfl,gz (Ag (by rw[Ar];lia)),?_};rw[Ar];refine hA _ _ ?_ (Ah.refl _);rw[ie,fj,ey];unfold nV;rw[fb];rfl
 rw[hal,fv (by rw[d4];exact d8 _)] at h2;apply{D2,ls.map k6,rfl,h2,by rw[d4];lia,λbg H3 s3 hb3 hbg=>?_};have hbe:nV ((en ((ls.map k6).9+1)).map λi=>((ls.map k6).take i).sum)=bgs ls:=by
  unfold bgs;rw[d4];exact congrArg nV (jb λj _=>zV ls j)
 rw[hbe] at hbg;have s13:=s2.trans s3;have hbx:bg≠x:=(Am (s2 _ _ hx1) hb3).symm;have hx3:=s13 _ _ hx1;have hp3:=s13 _ _ hp1;have hP3:=hP1.kp (Ah.kp s13);have but3:=b1.trans s13.but;apply Bj hx3 ak.cl ak.cW (show 1<1000 by decide) ?_;rw[show Co ("begins":Str) (V.ref bg) (tH (.ref p))=rB (.ref p) (.ref bg) from rfl];have hx4:=@Ac H3 x (.ins ad dx (rB (.ref p) (.ref bg)));have b4:SameBut x H3 (upd H3 x (.ins ad dx (rB (.ref p) (.ref bg)))):=As;have hP4:=hP3.but b4 hx3 hne;have hp4:=b4 _ _ hpx hp3;have hbg4:=b4 _ _ hbx hbg;have but4:=but3.trans b4;generalize upd H3 x _=H4 at *;apply{p,rfl,{_,SqL.of hp4},?_};refine G5 (SqL.of hp4) (λi=>nV ((kns ls).take i)) rfl (λi hi=>?_) (λi v H5 R A hv s5 _ hA=>?_) (λD5 H5 hD5 s5 h5=>?_)
 .unfold nV
  rw[d4,fk];exact Ag ()
 .obtain⟨a,y,rfl,ea,ey,hy⟩:=hP4.get hv
  obtain⟨d,t,m,g,o,y1,y2,y3⟩:=hy;apply{a,ag,d,_,_,rfl,s5 _ _ y1,Y.cl,Y.dE,rfl,?_};apply Gs (SqT.of (s5 _ _ y2)) (v:=.int (y.count MK:Nat)) rfl ?_;refine hA _ _ ?_ (Ah.refl _);unfold kns;rw[ie,fj,ey];unfold nV;rw[fb];rfl
 rw[hal,fv (by unfold kns;rw[d4];exact d8 _)] at h5;apply{D5,kns ls,rfl,h5,by unfold kns;rw[d4];lia,λkn H6 s6 hk6 hkn=>?_};have hkl:(kns ls).9=ls.9:=by unfold kns;rw[d4]
 rw[hkl] at hkn;have s46:=s5.trans s6;have hkx:kn≠x:=(Am (s5 _ _ hx4) hk6).symm;have hx6:=s46 _ _ hx4;have hp6:=s46 _ _ hp4;have hbg6:=s46 _ _ hbg4;have hP6:=hP4.kp (Ah.kp s46);have but6:=but4.trans s46.but;apply Bj hx6 ak.cl ak.dM (show 2<1000 by decide) ?_;rw[show Co ("knots_ahead":Str) (V.ref kn) (rB (.ref p) (.ref bg))=sJ (.ref p) (.ref bg) (.ref kn) from rfl];have hx7:=@Ac H6 x (.ins ad dx (sJ (.ref p) (.ref bg) (.ref kn)));have b7:SameBut x H6 (upd H6 x (.ins ad dx (sJ (.ref p) (.ref bg) (.ref kn)))):=As;have hP7:=hP6.but b7 hx6 hne;have hp7:=b7 _ _ hpx hp6;have hbg7:=b7 _ _ hbx hbg6;have hkn7:=b7 _ _ hkx hkn;have but7:=but6.trans b7;generalize upd H6 x _=H7 at *;apply{x,ad,dx,_,.ref kn,rfl,hx7,ak.cl,ak.dM,rfl,?_};apply{x,ad,dx,_,.ref bg,rfl,hx7,ak.cl,ak.cW,rfl,?_};apply{kn,bg,rfl,{_,SqL.of hkn7},{_,SqL.of hbg7},?_};have hkl2:(nV ((en (ls.9+1)).map λi=>((kns ls).take i).sum)).9=ls.9+1:=by unfold nV;rw[d4,d4,fm]
 have kat:∀{i:Nat} {v:V},(nV ((en (ls.9+1)).map λi=>((kns ls).take i).sum))[i]?=mn v->v=.int (((kns ls).take i).sum:Nat):=λ{i v} e=>by
  have hi:=Ci e;rw[hkl2] at hi;unfold nV at e;rw[fj,fj,gr hi] at e;exact(fc e).symm
 refine Aad (SqL.of hkn7) (SqL.of hbg7) (λi=>((en i).map λj=>2*(((kns ls).take j).sum:Int)-(bgn ls j:Int)).map V.int) rfl (λi hi=>?_) (λi v v2 H8 R A hv hv2 s8 _ hA=>?_) (λD8 H8 hD8 s8 h8=>?_)
 .rw[hkl2,rS] at hi
  rw[d4,d4,fm];exact Ag ()
 .have hi:=Ci hv
  rw[hkl2] at hi;rw[Z5 ()] at hv2;obtain rfl:=kat hv;obtain rfl:=fc hv2;apply hA _ _ ?_ (Ah.refl _);rw[iz,fb,fb];rfl
 rw[hkl2,rS,rh] at h8;have hx8:=s8 _ _ hx7;have hp8:=s8 _ _ hp7;have hbg8:=s8 _ _ hbg7;have hP8:=hP7.kp (Ah.kp s8);have but8:=but7.trans s8.but;have hll:(((en (ls.9+1)).map λj=>2*(((kns ls).take j).sum:Int)-(bgn ls j:Int)).map V.int).9=ls.9+1:=by rw[d4,d4,fm]
 apply{D8,p,rfl,{_,SqL.of h8},{_,SqL.of hp8},?_};refine Zg (SqL.of h8) (SqL.of hp8) (λD i zs H'=>zs.9=i) (λD H' _ _=>rfl) (λD i zs H' us o _ h=>h) ?_ (λD i zs H' H'' _ h=>h) ?_ ?_
 .intro D i zs H' hi h
  rw[h];rw[hll,hal] at hi;exact Ag ()
 .intro D i zs y y2 H9 A R hy hy2 s9 _ _ hPv hA
  obtain⟨z,_,rfl⟩:=Ny hy;obtain⟨a,c,rfl,ea,ec,hc⟩:=hP8.get hy2;obtain⟨d,t,m,g,o,y1,y2,y3⟩:=hc;apply{a,ag,d,_,_,rfl,s9 _ _ y1,Y.cl,Y.dE,rfl,?_};apply Gs (SqT.of (s9 _ _ y2)) (v:=.int m) rfl ?_;apply{a,ag,d,_,_,rfl,s9 _ _ y1,Y.cl,Y.dP,rfl,?_};apply{few (by simp),λtp htp=>?_};exact hA _ _ (Ai htp) (by rw[d7,hPv];rfl)
 .intro D9 zs H9 hD9 s9 hPv h9
  have hx9:=s9 _ _ hx8;have hp9:=s9 _ _ hp8;have hbg9:=s9 _ _ hbg8;have hP9:=hP8.kp (Ah.kp s9);have but9:=but8.trans s9.but;apply{x,ad,dx,_,.ref bg,rfl,hx9,ak.cl,ak.cW,rfl,?_};apply Cw (SqL.of hbg9) (v:=.int (ls.flatten.9:Nat)) ?_ ?_
  .unfold bgs
   rw[Jr,eJ];exact Ow _ _
  apply{p,rfl,{_,SqL.of hp9},?_};refine jZ (SqL.of hp9) (λi ys H'=>ys.9=i) (λ_ _=>rfl) (λi ys H' D zs o _ h=>h) (λi ys H' hi h=>?_) ?_ ?_
  .rw[h]
   rw[hal] at hi;exact Ag ()
  .intro i ys y H10 A R hy s10 hPv2 hA
   obtain⟨a,c,rfl,ea,ec,hc⟩:=hP9.get hy;obtain⟨d,t,m,g,o,y1,y2,y3⟩:=hc;apply{a,ag,d,_,_,rfl,s10 _ _ y1,Y.cl,Y.dh,rfl,?_};exact hA _ _ (Ah.refl _) (by rw[d7,hPv2];rfl)
  .intro D10 ys H10 hD10 s10 hPv2 h10
   have hx10:=s10 _ _ hx9;apply{x,dx,.ref p,.ref bg,.ref kn,_,_,_,rfl,hx10,?_};have b11:SameBut x H10 (upd H10 x (.ins ad dx (Ae6 (.ref p) (.ref bg) (.ref kn) (.int (ls.flatten.9:Nat)) (.ref D9) (.ref D10)))):=As;refine q _ ((but9.trans s10.but).trans b11) {dx,p,bg,_,_,_,Ac,{as,b11 _ _ hpx (s10 _ _ hp9),(hP9.kp (Ah.kp s10)).but b11 hx10 hne},b11 _ _ hbx (s10 _ _ hbg9),hZ,hn} {dx,_,Ac}
inductive wT (C CR:ee)(ts:List Tb)(vs:List V)(H:Hp)(Q:VK)(E:XK):Prop|mk(x:ee)(ls:List (Za5))(n:Nat)(_:vs=[.ref x,.int n])(_:Gz C CR H x ls)(_:Tbs ts H)(_:∀(k:Nat) H',k<=ls.9->bgn ls k<=n->(k<ls.9->n<bgn ls (k+1))->SmT ts H H'->Q (.int k) H')
include T hK hB aH ak in
theorem Qs {f c:ee}(F:U5 K "stretch_at" "PiecedRow.stretch_at" Bf f fd c Pt)(hts:({Pt,E8,"PiecedRow.stretch_at.<locals>.<lambda>"}:Tb)∈ts):T.ZA 4 f fd ["self","place"] (wT ag ad ts):=by
 refine F.ok Kb (λvs H Q E h=>?_) (λA outer s H vs Q E hr h=>?_)
 .obtain⟨x,ls,n,rfl,_⟩:=h
  rfl
 .obtain⟨x,ls,n,rfl,hR,hT,q⟩:=h
  obtain⟨dx,p,b,k,t,o,hx,hW⟩:=id hR;obtain⟨as,hp,hP⟩:=hW.pcs;refine{_,(Ae (Ap (pF (qual:="PiecedRow.stretch_at.<locals>.<lambda>") (k:=1) aH hr.m Af (An Ao (by rfl) T.cJ Bp (tpa (tfl (pv 0)) Ab)) (F.code hK) hB rfl (by kernel_rfl) Hx (λ_ _ _ _ _ _ _ hr=>(tpc Gr (tix (Mg K) (Je K (pv 2)) (Ak Bc (pv 0) Af)) (pv 1)))))),?_};apply{x,ad,dx,_,_,rfl,hx,ak.cl,ak.dC,rfl,?_};apply{p,_,rfl,.inl (SqL.of hp),?_};rw[show(as.map V.ref).9=ls.9 by rw[d4,hP.1]];k_is;have hk:=hT.1 _ hts;refine{0,(ls.9:Nat),λi=>decide (n<bgn ls (i.toNat+1)),rfl,rfl,(),hk,λi H3 hi1 hi2 s3=>?_,λm H' hm1 hm2 hm3 hm4 s' t'=>?_}
  .obtain⟨pt,hpt⟩:=Tb.tbl hk
   have kp:∀{b:ee} {u:HO},(∀ps,u≠.tbl ps)->H b=mn u->H3 b=mn u:=λ{b u} nt e=>s3 b u (λz=>by rw[z,hpt] at e;cases e;exact nt pt rfl) e;have hx3:=kp (by intro ps e;cases e) hx;have hb3:=kp (by intro ps e;cases e) hW.bg;apply{x,ad,dx,_,_,rfl,hx3,ak.cl,ak.cW,rfl,?_};k_is;obtain⟨k,rfl⟩:=l7 hi1;refine Cw (SqL.of hb3) (v:=.int (bgn ls (k+1):Nat)) (Bg (j:=k+1) (Z5 (show k+1<=ls.9 by lia))) ?_;apply{?_,Ah.refl _};rw[ig];exact congrArg V.bl (decide_eq_decide.mpr ())
  .obtain⟨k,rfl⟩:=l7 hm1
   refine q k H' () ?_ (λhlt=>?_) (sM hT hts s' t')
   .rcases n5 k with rfl|hk0
    .rw[kM];exact gy _
    .have:=hm3 ()
     dsimp only at this;rw[show(((k:Int)-1).toNat+1)=k by lia] at this;have:=of_decide_eq_false this;lia
   .have:=hm4 ()
    dsimp only at this;rw[ig] at this;exact of_decide_eq_true this
inductive zG (C CR:ee)(ts:List Tb)(vs:List V)(H:Hp)(Q:VK)(E:XK):Prop|mk(x:ee)(ls:List (Za5))(n:Nat)(_:vs=[.ref x,.int n])(_:Gz C CR H x ls)(_:Tbs ts H)(_:∀(k:Nat) H',k<=ls.9->(0<k->bgn ls (k-1)<n)->(k<ls.9->n<=bgn ls k)->SmT ts H H'->Q (.int k) H')
include T hK hB aH ak in
theorem Qw {f c:ee}(F:U5 K "pieces_to" "PiecedRow.pieces_to" Bi f fd c Pt)(hts:({Pt,Fq,"PiecedRow.pieces_to.<locals>.<lambda>"}:Tb)∈ts):T.ZA 4 f fd ["self","place"] (zG ag ad ts):=by
 refine F.ok La (λvs H Q E h=>?_) (λA outer s H vs Q E hr h=>?_)
 .obtain⟨x,ls,n,rfl,_⟩:=h
  rfl
 .obtain⟨x,ls,n,rfl,hR,hT,q⟩:=h
  obtain⟨dx,p,b,k,t,o,hx,hW⟩:=id hR;obtain⟨as,hp,hP⟩:=hW.pcs;refine{_,(Ae (Ap (pF (qual:="PiecedRow.pieces_to.<locals>.<lambda>") (k:=1) aH hr.m Af (An Ao (by rfl) T.cJ Bp (tpa (tfl (pv 0)) Ab)) (F.code hK) hB rfl (by kernel_rfl) Ig (λ_ _ _ _ _ _ _ hr=>(tpc rG (tix (Mg K) (Je K (pv 2)) (pv 0)) (pv 1)))))),?_};apply{x,ad,dx,_,_,rfl,hx,ak.cl,ak.dC,rfl,?_};apply{p,_,rfl,.inl (SqL.of hp),?_};rw[show(as.map V.ref).9=ls.9 by rw[d4,hP.1]];k_is;have hk:=hT.1 _ hts;refine{0,(ls.9:Nat),λi=>decide (n<=bgn ls i.toNat),rfl,rfl,(),hk,λi H3 hi1 hi2 s3=>?_,λm H' hm1 hm2 hm3 hm4 s' t'=>?_}
  .obtain⟨pt,hpt⟩:=Tb.tbl hk
   have kp:∀{b:ee} {u:HO},(∀ps,u≠.tbl ps)->H b=mn u->H3 b=mn u:=λ{b u} nt e=>s3 b u (λz=>by rw[z,hpt] at e;cases e;exact nt pt rfl) e;have hx3:=kp (by intro ps e;cases e) hx;have hb3:=kp (by intro ps e;cases e) hW.bg;apply{x,ad,dx,_,_,rfl,hx3,ak.cl,ak.cW,rfl,?_};k_is;obtain⟨k,rfl⟩:=l7 hi1;refine Cw (SqL.of hb3) (v:=.int (bgn ls k:Nat)) (Bg (j:=k) (Z5 (show k<=ls.9 by lia))) ?_;apply{?_,Ah.refl _};rw[ig];exact congrArg V.bl (decide_eq_decide.mpr ())
  .obtain⟨k,rfl⟩:=l7 hm1
   refine q k H' () (λhk0=>?_) (λhlt=>?_) (sM hT hts s' t')
   .have:=hm3 ()
    dsimp only at this;rw[show((k:Int)-1).toNat=k-1 by lia] at this;have:=of_decide_eq_false this;lia
   .have:=hm4 ()
    dsimp only at this;rw[ig] at this;exact of_decide_eq_true this
inductive Si (C CR:ee)(ts:List Tb)(vs:List V)(H:Hp)(Q:VK)(E:XK):Prop|mk(x:ee)(ls:List (Za5))(lo hi:Nat)(_:vs=[.ref x,.int lo,.int hi])(_:Gz C CR H x ls)(_:Tbs ts H)(_:lo<=hi)(_:hi<=ls.flatten.9)(_:∀H',SmT ts H H'->Q (.str (Aq ((ls.flatten.drop lo).take (hi-lo)))) H')
theorem xW (xs:List V){a b:Nat}(h:b<=xs.9):Ha xs (mn (a:Int)) (mn (b:Int))=(xs.drop a).take (b-a):=by
 unfold Ha;rw[_T.sIx_nat,_T.sIx_nat,iu h]
 by_cases ha:a<=xs.9
 .rw[iu ha]
 .rw[rj (),jj (d8 _),jj (),HF,HF]
theorem Afw {ls:List (Za5)}(hZ:kK ls){i j:Nat}(h:i<j)(hj:j<=ls.9):bgn ls i<bgn ls j:=by
 have hi:i<ls.9:=()
 have:=kO (d6 hi);have h1:=(hZ i _ (d6 hi)).1;have h2:=Aa4 (ls:=ls) (show i+1<=j by lia);lia
theorem wW {ls:List (Za5)}(hZ:kK ls):∀j,j<=ls.9->bgn ls j<=128*j
 |0,_=>by rw[kM];exact gy _
 |j+1,h=>by
  have h1:=wW hZ j ();have h2:=(hZ j _ (d6 (show j<ls.9 by lia))).2;rw[kO (d6 (show j<ls.9 by lia))];lia
include T ak Y in
theorem Q4 (F:Fun K "stretch" "PiecedRow.stretch" Df f fd)(cn:T.ZM ad "stretch_at" 4 ["self","place"] (wT ag ad ts))(cp:T.ZM ad "pieces_to" 4 ["self","place"] (zG ag ad ts)):T.ZA 5 f fd ["self","low","high"] (Si ag ad ts):=by
 exists F.ok C3
 obtain⟨x,ls,lo,hi,rfl,hR,hT,hlh,hhi,q⟩:=h;obtain⟨dx,p,b,k,t,o,hx,hW⟩:=id hR;obtain⟨as,hp,hP⟩:=id hW.pcs;refine{_,(Aa (tst 3 C3.nd (Er cn hr.m (pv 0) (tpa (pv 1) Ab))) (Aa (tst 4 C3.nd (Cl kh o6 o3 M5 Cy (tpa (Iy rfl Ks (Cs (B9 G9 (tfl (pv 0)) (Bl (pv 3)) (Bl (Er cp hr.m (pv 0) (tpa (pv 2) Ab))))) (λ_ _ _ _=>Bx) (λ_ _ _ _=>(Je K (pv 0)))) Ab))) (Aa (tst 5 C3.nd (tix By (tfl (pv 0)) (pv 3))) (Ae (Ap (B9 Rn (pv 4) (Bl (Ak Ce (pv 1) (pv 5))) (Bl (Ak Ce (pv 2) (pv 5))))))))),?_}
 apply{x,dx,_,rfl,hx,rfl,?_};apply{x,ls,lo,rfl,hR,hT,λk1 H1 hk1 ha1 hb1 s1=>?_};have hx1:=s1.k hx;have hR1:=hR.kp s1.kp;apply{rfl,?_};apply{x,ad,dx,_,_,rfl,hx1,ak.cl,ak.dC,rfl,?_};apply{x,dx,_,rfl,hx1,rfl,?_};apply{x,ls,hi,rfl,hR1,s1.ok,λk2 H2 hk2 ha2 hb2 s2=>?_};have s12:=s1.trans s2;have hx2:=s12.k hx;have hp2:=s12.k hp;have hW2:=hW.kp s12.kp;have hP2:=hP.kp s12.kp;have hkk:k1<=k2:=by
  by_cases h:k1<=k2
  .exact h
  .exfalso
   have h1:=hb2 ();have h2:=Afw hW.sz (show k2<k1 by lia) hk1;lia
 have hend:hi<=bgn ls k2:=by
  by_cases h:k2<ls.9
  .exact hb2 h
  .rw[show k2=ls.9 by lia,eJ];exact hhi
 have hal:(as.map V.ref).9=ls.9:=by rw[d4,hP.1]
 apply{p,_,rfl,SqL.of hp2,λD hD=>?_};rw[xW _ (by rw[hal];exact hk2)] at *;obtain⟨uD,hD2⟩:=Bz (o:=.lst (((as.map V.ref).drop k1).take (k2-k1))) hD;have hP3:=hP2.kp (Ah.kp uD);have hx3:=uD _ _ hx2;have hbg3:=uD _ _ hW2.bg;have s3:=s12.then uD;generalize upd H2 D _=H3 at *;have hcl:(((as.map V.ref).drop k1).take (k2-k1)).9=k2-k1:=by rw[fk,i9,hal];lia
 have hfw:=hW.fw;apply{D,rfl,{_,SqL.of hD2},?_};refine G5 (SqL.of hD2) (λi=>(((ls.drop k1).take (k2-k1)).take i).map λl=>V.str (Aq l)) rfl (λi hi=>?_) (λi v H4 R A hv s4 _ hA=>?_) (λD4 H4 hD4 s4 h4=>?_)
 .rw[d4,fk,fk,i9]
  exact Ag ()
 .have hi:=Ci hv
  rw[hcl] at hi;rw[ic hi,jd] at hv;obtain⟨a,y,rfl,ea,ey,hy⟩:=hP3.get hv;obtain⟨d,t,m,g,o,y1,y2,y3⟩:=hy;apply{a,ag,d,_,_,rfl,s4 _ _ y1,Y.cl,Y.dG,rfl,?_};refine hA _ _ ?_ (Ah.refl _);rw[ie,ic hi,jd,ey,fb];rfl
 rw[hcl,fv (by rw[fk];lia)] at h4;have hfl:ls.flatten.9<=60000:=by
  have:=wW hW.sz ls.9 (d8 _);rw[eJ] at this;lia
 apply O1 (ls:=(ls.drop k1).take (k2-k1)) h4 ?_ ?_
 .rw[gF ls hkk,fk,i9]
  lia
 rw[gF ls hkk];apply{x,ad,dx,_,_,rfl,s4 _ _ hx3,ak.cl,ak.cW,rfl,?_};apply Cw (SqL.of (s4 _ _ hbg3)) (v:=.int (bgn ls k1:Nat)) (Bg (j:=k1) (Z5 hk1)) ?_;apply{_,rfl,gz (Ag (by rw[Ar,fk,i9];lia)),?_};rw[show(lo:Int)-(bgn ls k1:Nat)=((lo-bgn ls k1:Nat):Int) by lia,show(hi:Int)-(bgn ls k1:Nat)=((hi-bgn ls k1:Nat):Int) by lia,Hc,show hi-bgn ls k1-(lo-bgn ls k1)=hi-lo by lia,Ab2 ls.flatten ha1 hlh hend];exact q _ (s3.then s4)
inductive sE (C CR:ee)(ts:List Tb)(vs:List V)(H:Hp)(Q:VK)(E:XK):Prop|mk(x:ee)(ls:List (Za5))(_:vs=[.ref x])(_:Gz C CR H x ls)(_:Tbs ts H)(_:∀H',SmT ts H H'->Q (.str (Aq ls.flatten)) H')
include T ak in
theorem Qo (F:Fun K "text" "Heights.text" Dc f fd)(cq:T.ZM ad "stretch" 5 ["self","low","high"] (Si ag ad ts)):T.ZA 6 f fd ["self"] (sE ag ad ts):=by
 exists F.ok Ih
 obtain⟨x,ls,rfl,hR,hT,q⟩:=h;obtain⟨dx,p,b,k,t,o,hx,hW⟩:=id hR;refine{_,(Ae (Ap (Er cq hr.m (pv 0) (tpa Af (tpa (tfl (pv 0)) Ab))))),?_};apply{x,dx,_,rfl,hx,rfl,?_};apply{x,ad,dx,_,_,rfl,hx,ak.cl,ak.cM,rfl,?_};apply{x,ls,0,ls.flatten.9,rfl,hR,hT,gy _,d8 _,λH' s'=>?_};rw[qe,qm,ny];exact q H' s'
inductive gI (CS:ee)(vs:List V)(H:Hp)(Q:VK)(E:XK):Prop|mk(x dx:ee)(p:V)(_:vs=[.ref x,p])(_:H x=mn (.ins CS dx []))(_:Q .non (upd H x (.ins CS dx [("pairs",p)])))
variable (aA:Qg K ao)
include T aA in
theorem Qr (F:Fun K "__init__" "Openings.__init__" Dr f fd):T.ZA 1 f fd ["self","pairs"] (gI ao):=by
 exists F.ok J6
 obtain⟨x,dx,p,rfl,hx,q⟩:=h;refine{_,(Ae (tsf (pv 0) (pv 1))),?_};k_is;exact Bj hx aA.cl aA.cX (show 0<1000 by decide) q
inductive yH (C CR CS:ee)(ts:List Tb)(vs:List V)(H:Hp)(Q:VK)(E:XK):Prop|mk(x:ee)(ls:List (Za5))(_:vs=[.ref x])(_:He C CR CS H x ls)(_:Tbs ts H)(_:∀H',SmT ts H H'->Q (.str (Aq ls.flatten)) H')
include T aA in
theorem Qv (F:Fun K "row" "Openings.row" Eb f fd)(cr:T.ZM ad "text" 6 ["self"] (sE ag ad ts)):T.ZA 7 f fd ["self"] (yH ag ad ao ts):=by
 exists F.ok Ld
 obtain⟨x,ls,rfl,⟨dx,r,e,hx,hR⟩,hT,q⟩:=h;obtain⟨dp,p,b,k,t,o,hp,_⟩:=id hR;refine{_,(Ae (Ap (Cr cr hr.m (tfl (pv 0))))),?_};apply{x,ao,dx,_,_,rfl,hx,aA.cl,aA.cX,rfl,?_};apply{r,dp,_,rfl,hp,rfl,?_};k_is;exact⟨r,ls,rfl,hR,hT,q⟩
inductive Py (C CR CS:ee)(ts:List Tb)(vs:List V)(H:Hp)(Q:VK)(E:XK):Prop|mk(x:ee)(ls:List (Za5))(_:vs=[.ref x])(_:He C CR CS H x ls)(_:Tbs ts H)(_:Vs 0 ls.flatten)(_:ls.flatten.9<=8000)(_:∀p (ds:Za4) H',SmT ts H H'->H p=tp->H' p=mn (.lst ((Ax ds).map V.int))->Dok ds->Km ds=ls.flatten->Q (.ref p) H')
include T bn aA in
theorem Qp (F:Fun K "elders" "Openings.elders" C7 f fd)(cu:T.ZM ao "row" 7 ["self"] (yH ag ad ao ts)):T.ZA 8 f fd ["self"] (Py ag ad ao ts):=by
 exists F.ok Ii
 obtain⟨x,ls,rfl,hS,hT,hv,hl,q⟩:=h;obtain⟨dx,r,e,hx,hR⟩:=id hS;refine{_,(Ae (Ap (Au bn hr.m (tpa (Cr cu hr.m (pv 0)) Ab)))),?_};apply{x,dx,_,rfl,hx,rfl,?_};apply{x,ls,rfl,hS,hT,λH1 s1=>?_};k_is;exact{ls.flatten,rfl,hv,hl,λp ds H2 s2 h0 h1 hD e=>q p ds H2 (s1.then s2) (s1.sm.free h0) h1 hD e}
theorem Gz.but {CR x r:ee}{ls:List (Za5)}{fs:List (Str×V)}(h:Gz C CR H r ls)(s:SameBut x H H')(hx:H x=mn (.ins CS dx fs))(hf:fs.9<4):Gz C CR H' r ls:=by
 obtain⟨d,p,b,k,t,o,h1,⟨as,hp,hP⟩,hb,hz,hn⟩:=h;refine{d,p,b,k,t,o,s _ _ (λe=>?_) h1,{as,s _ _ (λe=>?_) hp,hP.but s hx λa ha e=>?_},s _ _ (λe=>?_) hb,hz,hn}
 .rw[e,hx] at h1
  cases h1;exact absurd hf (by show ¬ 6<4;decide)
 .rw[e,hx] at hp
  cases hp
 .obtain⟨k,hk⟩:=l9 ha
  have hk1:=(fq.mp hk).1;obtain⟨d,t,m,g,o,h1,_⟩:=hP.2 k a _ hk (d6 (by rw[<-hP.1];exact hk1));rw[e,hx] at h1;cases h1;exact absurd hf (by show ¬ 4<4;decide)
 .rw[e,hx] at hb
  cases hb
inductive rK (C CR CS:ee)(vs:List V)(H:Hp)(Q:VK)(E:XK):Prop|mk(x dx a:ee)(ds:Za4)(_:vs=[.ref x,.ref a])(_:H x=mn (.ins CS dx []))(_:H a=mn (.lst ((Ax ds).map V.int)))(_:Dok ds)(_:ds.9<4000)(_:∀p r H',SameBut x H H'->He C CR CS H' x (pcs (Km ds))->H p=tp->(∃d e,H' x=mn (.ins CS d (Ab7 (.ref r) e)))->(∃d fs,H' r=mn (.ins CR d (("kept_pieces",.ref p)::fs)))->Q .non H')
include T bh aA in
theorem Wp (F:Fun K "__init__" "Shaped.__init__" Jh f fd)(cw:T.ZC "pieces_of" 5 ["text"] (Ub ag))(cx:T.ZN "PiecedRow" ad 2 ["self","pieces"] (kG ag ad))(Qj:tW P w K mg base "Openings" "__init__" 1 ["self","pairs"] (gI ao)):T.ZA 6 f fd ["self","elders"] (rK ag ad ao):=by
 exists F.ok U0
 obtain⟨x,dx,a,ds,rfl,hx,ha,hD,hn,q⟩:=h;refine{_,(Aa (A6 (qF Qj hr.m rfl (tpa (pv 0) (tpa (Ij cx hr.m (tpa (Au cw hr.m (tpa (Au bh hr.m (tpa (pv 1) Ab)) Ab)) Ab)) Ab)))) (Ae (tsf (pv 0) (Bs Ab)))),?_}
 have hrl:=Hw hD;apply{a,ds,rfl,ha,hD,hn,λH1 s1=>?_};apply{Km ds,rfl,(),λp as H2 s2 hp0 hp hP=>?_};have s12:=s1.trans s2;have hx2:=s12 _ _ hx;k_is;intro r dr hr0 hdr hrd;have sN:Ah H2 (upd (upd H2 dr (.own r)) r (.ins ad dr [])):=E3 hr0 hdr;refine{r,dr,p,as,_,rfl,Ac,sN _ _ hp,hP.kp (Ah.kp sN),uK _,?_,λH3 s3 hR3 hF3=>{rfl,?_}}
 .rw[Tf]
  unfold pcM;lia
 have s23:=J2 hr0 hdr s3;have s13:=s12.trans s23;have hx3:=s13 _ _ hx;have hrx:r≠x:=(Am hx2 hr0).symm;apply{x,dx,.ref r,rfl,hx3,?_};have b4:SameBut x H3 (upd H3 x (.ins ao dx [("pairs",.ref r)])):=As;have hR4:=hR3.but b4 hx3 (by decide);obtain⟨dr3,fs3,hF3⟩:=hF3;have hF4:=b4 _ _ hrx hF3;have hx4:=@Ac H3 x (.ins ao dx [("pairs",.ref r)]);have but4:=s13.but.trans b4;generalize upd H3 x _=H4 at *;apply{gy _,λe he=>?_};have s5:=Ai (o:=.lst []) he;have hR5:=hR4.kp (Ah.kp s5);have hF5:=s5 _ _ hF4;have hx5:=s5 _ _ hx4;have but5:=but4.trans s5.but;generalize upd H4 e _=H5 at *;apply Bj hx5 aA.cl aA.dX (show 1<1000 by decide) ?_;rw[show Co ("earlier":Str) (V.ref e) [("pairs",.ref r)]=Ab7 (.ref r) (.ref e) from rfl];have b6:SameBut x H5 (upd H5 x (.ins ao dx (Ab7 (.ref r) (.ref e)))):=As;exact q p r _ (but5.trans b6) {dx,r,_,Ac,hR5.but b6 hx5 (by show 1<4;decide)} (s1.free hp0) {dx,_,Ac} {dr3,fs3,b6 _ _ hrx hF5}
theorem Ab8 (l:Za4)(n:Nat):nV l++[V.int n]=nV (l++[n]):=by
 show _=BH _ _;rw[fb];rfl
def Abn:Option Nat->V
 |none=>.non
 |some n=>.int n
inductive Fst (a b:List Int):Option Nat->Prop
 |no:(∀i:Nat,a[i]?=b[i]?)->Fst a b tp
 |at' (k:Nat):a[k]?≠b[k]?->(∀i:Nat,i<k->a[i]?=b[i]?)->Fst a b (mn k)
theorem Fst.uniq {a b:List Int}{r s:Option Nat}(h:Fst a b r)(k:Fst a b s):r=s:=by
 cases h with
 |no h=>
  cases k with
  |no=>rfl
  |at' j c=>exact absurd (h j) c
 |at' i h1 h2=>
  cases k with
  |no k=>exact absurd (k i) h1
  |at' j k1 k2=>
   rcases Nat.lt_trichotomy i j with l|l|l
   .exact absurd (k2 i l) h1
   .rw[l]
   .exact absurd (h2 j l) k1
theorem Fst.symm {a b:List Int}{r:Option Nat}(h:Fst a b r):Fst b a r:=by
 cases h with
 |no h=>exact .no λi=>(h i).symm
 |at' k h1 h2=>exact .at' k (λe=>h1 e.symm) λi hi=>(h2 i hi).symm
theorem Fst.self {a:List Int}{r:Option Nat}(h:Fst a a r):r=tp:=h.uniq (.no λ_=>rfl)
def IsW (K:d5)(CB CC CP CO CL CD C CR CS:ee)(H:Hp)(x:ee)(ds:Za4):Prop:=Hs K CB CC CP CO H x ds\/Pd K CB CC CL H x ds\/Ga K CB CC CP CD H x ds\/He C CR CS H x (pcs (Km ds))/\Dok ds/\ds.9<4000
theorem yB {p:Nat->Bool}(i:Nat):(en (i+1)).filter p=(en i).filter p++if p i=MK then[i] else[]:=by
 rw[iz,ju]
 by_cases h:p i=MK
 .rw[if_pos h,ul,if_pos h];rfl
 .rw[if_neg h,ul,if_neg h];rfl
theorem Ga.kp {K:d5}{CD x:ee}{ds:Za4}(h:Ga K CB CC CP CD H x ds)(k:Kp H H'):Ga K CB CC CP CD H' x ds:=by
 obtain⟨dx,p,m,h1,h2,h3⟩:=h;exact{dx,p,m,k.k h1,h2.kp k,h3}
theorem IsW.sm {K:d5}{CO CD CR x:ee}{ts:List Tb}{ds:Za4}(h:IsW K CB CC CP CO CL CD C CR CS H x ds)(s:SmT ts H H'):IsW K CB CC CP CO CL CD C CR CS H' x ds:=
 h.imp (λh=>h.kp s.kp) λh=>h.imp (λh=>h.sm s) λh=>h.imp (λh=>h.kp s.kp) λh=>{h.1.kp s.kp,h.2}
theorem IsW.eld {K:d5}{CO CD CR x:ee}{ts:List Tb}{ds:Za4}{G:St}{Q:VK}(h:IsW K CB CC CP CO CL CD C CR CS H x ds)(hv:G[n]?=mn (mn (.ref x)))(hT:Tbs ts H)(q:∀p H',SmT ts H H'->H p=tp->H' p=mn (.lst ((Ax ds).map V.int))->Q (.ref p) H') :
  Oi CO "elders" (P2 K CB CC CP CO) [] E0 (kX n) Sx G H Q\/Oi CL "elders" (Pw K CB CC CL ts) [] E0 (kX n) Sx G H Q\/Oi CD "elders" (Ra K CB CC CP CD) [] E0 (kX n) Sx G H Q\/Oi CS "elders" (Py C CR CS ts) [] E0 (kX n) Sx G H Q:=by
 rcases h with h|h|h|⟨h,hD,hn⟩
 .obtain⟨dx,p,hx,_⟩:=id h
  exact .inl {_,hv,x,dx,_,rfl,hx,rfl,x,ds,rfl,h,λp H' s a b=>q p H' (.of hT s) a b}
 .obtain⟨dx,b,c,s,g,v,w,d,kvs,z⟩:=id h
  exact .inr (.inl {_,hv,x,dx,_,rfl,z.hx,rfl,x,ds,rfl,h,hT,q})
 .obtain⟨dx,p,m,hx,_⟩:=id h
  exact .inr (.inr (.inl {_,hv,x,dx,_,rfl,hx,rfl,x,ds,rfl,h,λp H' s a b=>q p H' (.of hT s) a b}))
 .obtain⟨dx,r,e,hx,_⟩:=id h
  refine .inr (.inr (.inr {_,hv,x,dx,_,rfl,hx,rfl,x,_,rfl,h,hT,?_,?_,λp es H' s a b hE e=>q p H' s a ?_}))
  .rw[Vg];exact oJ hD
  .rw[Vg,Hw hD];lia
  .rw[Vg] at e
   rw[<-jD hE hD e];exact b
inductive gK (K:d5)(CB CC CP CO CL CD C CR CS:ee)(ts:List Tb)(vs:List V)(H:Hp)(Q:VK)(E:XK):Prop|mk(x y:ee)(ds es:Za4)(_:vs=[.ref x,.ref y])(_:IsW K CB CC CP CO CL CD C CR CS H x ds)(_:IsW K CB CC CP CO CL CD C CR CS H y es)(_:ds.9<=500)(_:es.9<=500)(_:Tbs ts H)(_:∀r H',Fst (Ax ds) (Ax es) r->SmT ts H H'->Q (Abn r) H')
variable (aO:T.ZM ap "elders" 9 ["self"] (P2 K ab aa ae ap)) (aP:T.ZM ah "elders" 7 ["self"] (Pw K ab aa ah ts)) (aQ:T.ZM am "elders" 9 ["self"] (Ra K ab aa ae am)) (aR:T.ZM ao "elders" 8 ["self"] (Py ag ad ao ts))
include T aO aP aQ aR in
theorem Sn (F:Fun K "first_unlike" "first_unlike" F4 f fd) :
  T.ZA 10 f fd ["one","other"] (gK K ab aa ae ap ah am ag ad ao ts):=by
 exists F.ok Dw
 obtain⟨x,y,ds,es,rfl,hx,hy,hn,hm,hT,q⟩:=h;refine⟨_,(Aa (Jg (i:=2) Dw.nd rfl (wu rfl) (G3 (Cr aO hr.m (pv 0)) (G3 (Cr aP hr.m (pv 0)) (G3 (Cr aQ hr.m (pv 0)) (Cr aR hr.m (pv 0)))))) (Aa (Jg (i:=3) Dw.nd rfl (wu rfl) (G3 (Cr aO hr.m (pv 1)) (G3 (Cr aP hr.m (pv 1)) (G3 (Cr aQ hr.m (pv 1)) (Cr aR hr.m (pv 1)))))) (Aa (tst 4 Dw.nd (An (Rj rfl) (by rfl) T.cS Se (tpa (An Ao (by rfl) T.cJ Bp (tpa (pv 2) Ab)) (tpa (An Ao (by rfl) T.cJ Bp (tpa (pv 3) Ab)) Ab)))) (Aa (Gq (i:=5) rfl Od Dw.nd rfl rfl (D0 rfl T.cK (tpa (pv 4) Ab)) (λ_ _ _ _=>Ta (ttc kN (tix (Mg K) (pv 1) (pv 0)) (tix (Mg K) (pv 2) (pv 0)))) (λ_ _ _ _=>(pv 0))) (Aa (B8 (ttc Gr (An Ao (by rfl) T.cJ Bp (tpa (pv 5) Ab)) Af) (Ae (Ap (tix By (pv 5) Af)))
  A8) (Ae (Ap (E5 (ttc Ed (An Ao (by rfl) T.cJ Bp (tpa (pv 2) Ab)) (An Ao (by rfl) T.cJ Bp (tpa (pv 3) Ab))) P3 (pv 4))))))))),?_⟩
 apply hx.eld rfl hT λa H1 s1 _ ha=>?_;apply(hy.sm s1).eld rfl s1.ok λb H2 s2 _ hb=>?_;have s12:=s1.trans s2;have ha2:=s2.k ha;have el:=Bd ds;have em:=Bd es;generalize Ax ds=xs at *;generalize Ax es=ys at *;apply{a,_,rfl,.inl (SqL.of ha2),?_};apply{b,_,rfl,.inl (SqL.of hb),?_};rw[d4,d4];apply{_,_,rfl,?_};obtain⟨m,hm1,hm2⟩:∃m:Nat,(if(ys.9:Int)<(xs.9:Int) then(ys.9:Int) else(xs.9:Int))=(m:Int)/\m=min xs.9 ys.9:={min xs.9 ys.9,by split<;>lia,rfl}
 rw[hm1];apply{_,rfl,(),(),?_};rw[ig];refine Vj (λi=>nV ((en i).filter λk=>decide (xs[k]?≠ys[k]?))) rfl (λi hi=>?_) (λi H3 R A hi s3 kR kA=>?_) (λD H3 hD s3 h3=>?_)
 .rw[Dh]
  have:=uj (λk=>decide (xs[k]?≠ys[k]?)) (en i);rw[fm] at this;exact Ag ()
 .have hf:=yB (p:=λk=>decide (xs[k]?≠ys[k]?)) i
  obtain⟨u,hu⟩:∃u,xs[i]?=mn u:={_,d6 ()};obtain⟨v,hv⟩:∃v,ys[i]?=mn v:={_,d6 ()};rw[show(0+(i:Int))=(i:Int) by lia];apply Cw (SqL.of (s3 _ _ ha2)) (v:=.int u) (Bg (Sd hu)) ?_;apply Cw (SqL.of (s3 _ _ hb)) (v:=.int v) (Bg (Sd hv)) ?_;apply uF (λh=>?_) (λh=>?_)
  .have hne:xs[i]?≠ys[i]?:=λz=>h (by rw[hu,hv] at z;rw[fc z])
   rw[if_pos (decide_eq_true hne)] at hf;apply kA _ _ ?_ (Ah.refl _);rw[hf,Ab8]
  .rw[if_neg (λc=>(of_decide_eq_true c:xs[i]?≠ys[i]?) (by rw[hu,hv,V.int.inj h])),gp] at hf
   k_is;exact kR (by rw[hf]) _ (Ah.refl _)
 have r3:=s12.then s3;have hall:∀i:Nat,m<=i->(xs.9=ys.9->xs[i]?=ys[i]?)/\(xs.9≠ys.9->i=m->xs[i]?≠ys[i]?):=λi hi=>by
  refine{λe=>by rw[ir (),ir ()],λe1 e2 z=>?_};rcases ud i xs.9 with l|l
  .rw[ir (l:=ys) (),d6 l] at z
   cases z
  .rw[ir (l:=xs) l,d6 (show i<ys.9 by lia)] at z
   cases z
 apply{D,_,rfl,.inl (SqL.of h3),?_};rw[Dh];k_is;have hfd:=List.head?_filter (p:=λk=>decide (xs[k]?≠ys[k]?)) (l:=en m);refine B6 (λh=>?_) (λh=>?_)
 .k_is
  obtain⟨k,hk⟩:∃k,((en m).filter λk=>decide (xs[k]?≠ys[k]?))[0]?=mn k:={_,d6 ()};refine Cw (SqL.of h3) (v:=.int (k:Nat)) (Bg (j:=0) (by rw[fj,hk];rfl)) ?_;rw[w6,hk] at hfd;obtain⟨f1,f2,f3⟩:=List.find?_range_eq_some.mp hfd.symm;exact q (mn k) H3 (.at' k (of_decide_eq_true f1) λi hi=>BX λz=>by have:=f3 i hi;rw[decide_eq_true z] at this;cases this) r3
 .have hl0:((en m).filter λk=>decide (xs[k]?≠ys[k]?))=[]:=oi ()
  have hb0:∀i:Nat,i<m->xs[i]?=ys[i]?:=λi hi=>BX λz=>by
   have:=lj.mp hl0 i (iy.mpr hi);exact this (decide_eq_true z)
  apply{a,_,rfl,.inl (SqL.of (s3 _ _ ha2)),?_};apply{b,_,rfl,.inl (SqL.of (s3 _ _ hb)),?_};rw[d4,d4];apply B6 (λh=>?_) (λh=>?_)
  .have h:=V.int.inj h
   k_is;exact q tp H3 (.no λi=>by
    rcases ud i m with l|l
    .exact hb0 i l
    .exact(hall i l).1 ()) r3
  .k_is
   exact q (mn m) H3 (.at' m ((hall m (d8 _)).2 (λe=>h (by rw[e])) rfl) hb0) r3
inductive Abe (K:d5)(CB CC CP CO CL CD C CR CS:ee)(ts:List Tb)(vs:List V)(H:Hp)(Q:VK)(E:XK):Prop|mk(x y:ee)(ds es:Za4)(_:vs=[.ref x,.ref y])(_:IsW K CB CC CP CO CL CD C CR CS H x ds)(_:IsW K CB CC CP CO CL CD C CR CS H y es)(_:ds.9<=500)(_:es.9<=500)(_:Tbs ts H)(_:∀r H',Fst (Ax ds) (Ax es) r->SmT ts H H'->Q (.bl (decide (Abn r=.non))) H')
variable (aU:T.ZC "first_unlike" 10 ["one","other"] (gK K ab aa ae ap ah am ag ad ao ts))
include T aU in
theorem Xr (F:Fun K "same_shape" "same_shape" K2 f fd) :
  T.ZA 11 f fd ["one","other"] (Abe K ab aa ae ap ah am ag ad ao ts):=by
 exists F.ok Xn
 obtain⟨x,y,ds,es,rfl,hx,hy,hn,hm,hT,q⟩:=h;refine{_,(Ae (Ap (yR (pR (Au aU hr.m (tpa (pv 0) (tpa (pv 1) Ab))))))),?_};k_is;exact{x,y,ds,es,rfl,hx,hy,hn,hm,hT,λr H1 hf s1=>q r H1 hf s1}
inductive Aal (K:d5)(vs:List V)(H:Hp)(Q:VK)(E:XK):Prop|mk(a:ee)(ns:List Int)(k:Nat)(_:vs=[.ref a,.int k])(_:SqL K H a (ns.map V.int))(_:∀c:Int,Q (.int c) H)
include T in
theorem Tu (F:Fun K "_law_cell_at" "_law_cell_at" Jl f fd):T.ZA 1 f fd ["_law_script","_law_k"] (Aal K):=by
 exists F.ok Vi
 obtain⟨a,ns,k,rfl,hS,q⟩:=h;refine⟨_,(Aa (B8 (ttc O2 (pv 1) (An Ao (by rfl) T.cJ Bp (tpa (pv 0) Ab))) (Ae (Ap (tix By (pv 0) (pv 1))))
  A8) (Ae (Ap Af))),?_⟩
 apply{a,_,rfl,.inl hS,?_};k_is;rw[d4];refine B6 (λhb=>?_) (λhb=>?_)
 .k_is
  have hk:k<ns.9:=()
  refine Cw hS (v:=.int ns[k]) ?_ (q _);refine Bg ?_;rw[fj,d6 hk];rfl
 .k_is
  exact q 0
inductive sQ(vs:List V)(H:Hp)(Q:VK)(E:XK):Prop|mk(c:Int)(k:Nat)(_:vs=[.int c,.int k])(_:k<=1000)(_:∀r:Nat,r<300000000->Q (.int r) H)
include T in
theorem Z9 (F:Fun K "_law_twice" "_law_twice" Ml f fd):T.ZA 1 f fd ["_law_cell","_law_k"] sQ:=by
 exists F.ok O8
 obtain⟨c,k,rfl,hk,q⟩:=h;refine{_,(Aa (tst 2 O8.nd (Ak Cv (Ak G4 (Ak Bc (Ak Bc (Ak Bc (Ak Cv (pv 0) Af) (Ak G4 (Ak G4 Af (pv 1)) (pv 1))) (pv 1)) Af) Af) Af)) (Ae (Ap (Ak Cp (Ak Cv (Ak G4 (Ak Bc (pv 2) (pv 1)) Af) Af) Af)))),?_}
 apply mS () () ?_;k_is;generalize ((c%2147483647+7919*(k:Int)*k+k+1)*48271%2147483629+k)*69621=z;have h0:=vi z (show(2147483647:Int)≠0 by decide);have h1:=wf z (show(0:Int)<2147483647 by decide);have e:z%2147483647/8=((z%2147483647/8).toNat:Int):=()
 rw[e];exact q _ ()
inductive tL(vs:List V)(H:Hp)(Q:VK)(E:XK):Prop|mk(c:Int)(n:Nat)(_:vs=[.int c,.int n])(_:n<=60)(_:∀p (ds:Za4) H',Ah H H'->H p=tp->H' p=mn (.lst ((Ax ds).map V.int))->Dok ds->ds.9=n->Q (.ref p) H')
theorem iV {ds:Za4}(h:Dok ds){k:Nat}(hk:k<=ds.9):[V.int (-1)]++(way ds k).tail.map V.int=(way ds k).map V.int:=by
 rw[Fb h hk];rfl
theorem fZ {ds:Za4}(h:Dok ds){k d:Nat}(hk:k<=ds.9)(hd:d<=opn ds k):atI ((way ds k).map V.int) (d:Int)=mn (.int ((way ds k).getD d 0)):=by
 refine Bg (Sd ?_);have hw:=Bq h k hk;unfold jw;rw[d6 ()];rfl
include T in
theorem Zy (F:Fun K "_law_grown" "_law_grown" Lu f fd):T.ZA 1 f fd ["_law_cell","_law_many"] tL:=by
 exists F.ok Dt
 obtain⟨c,n,rfl,hn,q⟩:=h;refine{_,(Aa (tst 2 Dt.nd (Bs Ab)) (Aa (tst 3 Dt.nd (Bs Ab)) (Aa (C0 il rfl (D0 rfl T.cK (tpa (pv 1) Ab)) (tgn 4 Dt.nd) (Aa (tst 5 Dt.nd (Ak Cv (pv 0) (Ak Bc (An Ao (by rfl) T.cJ Bp (tpa (pv 3) Ab)) Af))) (Aa (tst 0 Dt.nd (Ak Cp (pv 0) (Ak Bc (An Ao (by rfl) T.cJ Bp (tpa (pv 3) Ab)) Af))) (Aa (A6 (Cl gj i6 i5 B0 (pv 2) (tpa (tix By (Ak Jj (Bs (tpa (Dl Cf Af) Ab)) (pv 3)) (pv 5)) Ab))) (Ae (tst 3 Dt.nd (Ak Jj (B9 G9 (pv 3) Kv (Bl (pv 5))) (Bs (tpa (pv 4) Ab))))))))) (Ae (Ap (pv 2)))))),?_}
 apply{gy _,λp hp=>?_};apply{gy _,λp0 hp0=>?_};have t0:=Ai (o:=.lst []) hp;have t1:=Ai (o:=.lst []) hp0;apply{_,rfl,(),(),?_};rw[ig];refine Gc (λk G H1=>(∃(q:ee) (ds:Za4) (g:Int) (v w:Option V),G=[mn (.int g),mn (.int n),mn (.ref p),mn (.ref q),v,w]/\Dok ds/\ds.9=k/\H1 p=mn (.lst ((Ax ds).map V.int))/\H1 q=mn (.lst ((way ds k).tail.map V.int))/\p≠q)/\Ah H H1) ?_ ?_ ?_
 .exact{{p0,[],_,_,_,rfl,(λk hk=>by cases hk),rfl,t1 _ _ Ac,Ac,Am Ac hp0},t0.trans t1}
 .rintro k G H1 hk ⟨⟨q1,ds,g,v,w',rfl,hD,hl,hp1,hq1,hne⟩,s1⟩
  have hw:=Bq hD k ();have hok:=N7 hD k ();have hwt:(way ds k).tail.length=opn ds k:=by rw[zr];lia
  apply{q1,_,rfl,.inl (SqL.of hq1),?_};k_is;rw[d4,hwt];refine gP () ?_;k_is;obtain⟨d,hd,hd1⟩:=Vm g (opn ds k);rw[hd];refine{q1,_,rfl,.inl (SqL.of hq1),?_};k_is;rw[d4,hwt];refine rV () () ?_;apply{.inl {rfl,_,SqL.of hp1},?_};apply{few (by simp),λq3 h3=>?_};have u3:=Ai (o:=.lst [V.int (-1)]) h3;apply{q3,q1,_,_,rfl,rfl,Ac,u3 _ _ hq1,?_,λq4 h4=>?_}
  .rw[d4,hwt]
   exact few (by simp only[f8,jg];lia)
  rw[iV hD ()] at *;have u4:=u3.trans (Ai (o:=.lst ((way ds k).map V.int)) h4);have h44:(upd (upd H1 q3 (.lst [V.int (-1)])) q4 (.lst ((way ds k).map V.int))) q4=mn (.lst ((way ds k).map V.int)):=Ac;generalize (upd (upd H1 q3 (.lst [V.int (-1)])) q4 (.lst ((way ds k).map V.int)))=H4 at *;apply Cw (SqL.of h44) (fZ hD () hd1) ?_;apply Ca (u4 _ _ hp1) ?_ ?_
  .rw[d4,Bd]
   exact Ag ()
  have s5:=A9 (o:=.lst ((Ax ds).map V.int++[V.int ((way ds k).getD d 0)])) (s1.trans u4) hp;have hq5:upd H4 p (.lst ((Ax ds).map V.int++[V.int ((way ds k).getD d 0)])) q1=mn (.lst ((way ds k).tail.map V.int)):=by rw[Al hne.symm];exact u4 _ _ hq1
  have hp5:=@Ac H4 p (.lst ((Ax ds).map V.int++[V.int ((way ds k).getD d 0)]));generalize upd H4 p _=H5 at *;apply{q1,_,rfl,SqL.of hq5,λq6 h6=>?_};rw[Zn,<-n9] at *;have u6:=Ai (o:=.lst (((way ds k).tail.take d).map V.int)) h6;apply{few (by simp),λq7 h7=>?_};have u7:=Ai (o:=.lst [V.int (0+(k:Int))]) h7;refine{q6,q7,_,_,rfl,rfl,u7 _ _ Ac,Ac,?_,λq8 h8=>?_}
  .rw[d4,fk]
   exact few (by simp only[f8,jg];lia)
  have u8:=Ai (o:=.lst (((way ds k).tail.take d).map V.int++[V.int (0+(k:Int))])) h8;k_is;have hp8:=u8 _ _ (u7 _ _ (u6 _ _ hp5));refine{{q8,ds++[d],_,_,_,rfl,J5 hD (by rw[hl];exact hd1),by rw[d7,hl];rfl,?_,?_,Am (u7 _ _ (u6 _ _ hp5)) h8},((s5.trans u6).trans u7).trans u8}
  .rw[hp8,Ft,fb,hl]
   rfl
  .have e:=J8 ds d
   rw[hl] at e;rw[Ac,e,show(0+(k:Int))=(k:Int) by lia];have e2:((way ds k).take (d+1)++[(k:Int)]).tail=(way ds k).tail.take d++[(k:Int)]:=by
    rw[Fb hD ()];rfl
   rw[e2,fb];rfl
 .rintro G H1 ⟨⟨q1,ds,g,v,w',rfl,hD,hl,hp1,hq1,hne⟩,s1⟩
  k_is;exact q p ds H1 s1 hp hp1 hD hl
inductive rN (K:d5)(vs:List V)(H:Hp)(Q:VK)(E:XK):Prop|mk(a:ee)(ns:List Int)(n:Nat)(_:vs=[.ref a,.int n])(_:SqL K H a (ns.map V.int))(_:n<=60)(_:∀p (ds:Za4) H',Ah H H'->H p=tp->H' p=mn (.lst ((Ax ds).map V.int))->Dok ds->ds.9=n->Q (.ref p) H')
variable (aB:T.ZC "_law_cell_at" 1 ["_law_script","_law_k"] (Aal K))
include T aB in
theorem fP (F:Fun K "_law_drawn" "_law_drawn" Mf f fd)(cy:T.ZC "_law_twice" 1 ["_law_cell","_law_k"] sQ):T.ZA 2 f fd ["_law_script","_law_many"] (rN K):=by
 exists F.ok Cu
 obtain⟨a,ns,n,rfl,hS,hn,q⟩:=h;refine{_,(Aa (tst 2 Cu.nd (Bs Ab)) (Aa (tst 3 Cu.nd (Bs Ab)) (Aa (C0 il rfl (D0 rfl T.cK (tpa (pv 1) Ab)) (tgn 4 Cu.nd) (Aa (tst 5 Cu.nd (Au cy hr.m (tpa (Au aB hr.m (tpa (pv 0) (tpa (Ak Bc Af (pv 4)) Ab))) (tpa (pv 4) Ab)))) (Aa (tst 6 Cu.nd (An Ao (by rfl) T.cJ Bp (tpa (pv 3) Ab))) (Aa (tst 7 Cu.nd (Ak Cv (Ak Cp (pv 5) Af) (Ak Bc (pv 6) Af))) (Aa (tst 8 Cu.nd (tix By (Bs (tpa (pv 7) (tpa (pv 6) (tpa (An (Yz rfl) (by rfl) T.da Uk (tpa Af (tpa (Ak Ce (pv 6) (Ak Cv (Ak Cp (pv 5) Af) Af)) Ab))) (tpa (An (Rj rfl) (by rfl) T.cS Se (tpa (pv 7) (tpa Af Ab))) Ab))))) (Ak Cv (pv 5) Af))) (Aa (A6 (Cl gj i6 i5 B0 (pv 2) (tpa (tix By (Ak Jj (Bs (tpa (Dl Cf Af) Ab)) (pv 3)) (pv 8)) Ab))) (Ae (tst 3 Cu.nd (Ak Jj (B9 G9 (pv 3) Kv (Bl (pv 8))) (Bs (tpa (pv 4) Ab))))))))))) (Ae (Ap (pv 2)))))),?_}
 apply{gy _,λp hp=>?_};apply{gy _,λp0 hp0=>?_};have t0:=Ai (o:=.lst []) hp;have t1:=Ai (o:=.lst []) hp0;apply{_,rfl,(),(),?_};rw[ig];refine Gc (λk G H1=>(∃(q:ee) (ds:Za4) (v4 v5 v6 v7 v8:Option V),G=[mn (.ref a),mn (.int n),mn (.ref p),mn (.ref q),v4,v5,v6,v7,v8]/\Dok ds/\ds.9=k/\H1 p=mn (.lst ((Ax ds).map V.int))/\H1 q=mn (.lst ((way ds k).tail.map V.int))/\p≠q)/\Ah H H1) ?_ ?_ ?_
 .exact{{p0,[],_,_,_,_,_,rfl,(λk hk=>by cases hk),rfl,t1 _ _ Ac,Ac,Am Ac hp0},t0.trans t1}
 .rintro k G H1 hk ⟨⟨q1,ds,v4,v5,v6,v7,v8,rfl,hD,hl,hp1,hq1,hne⟩,s1⟩
  have hw:=Bq hD k ();have hok:=N7 hD k ();have hwt:(way ds k).tail.length=opn ds k:=by rw[zr];lia
  apply{a,ns,3+k,by simp,s1.seq hS,λc=>?_};apply{c,k,by simp,(),λr hr1=>?_};apply{q1,_,rfl,.inl (SqL.of hq1),?_};k_is;rw[d4,hwt];refine gP () ?_;k_is;obtain⟨d0,hd0,hd01⟩:=Vm ((r:Int)/4) (opn ds k);rw[hd0];apply{_,_,rfl,?_};apply{_,_,rfl,?_};apply{few (by simp),λq9 h9=>?_};k_is;obtain⟨d,hat,hd1⟩:∃d:Nat,atI [V.int (d0:Int),V.int (opn ds k:Int),V.int (if(opn ds k:Int)-(r:Int)/4%3>0 then(opn ds k:Int)-(r:Int)/4%3 else 0),V.int (if(2:Int)<(d0:Int) then 2 else(d0:Int))] ((r:Int)%4)=mn (.int d)/\d<=opn ds k:=by
   have h4:(r:Int)%4=((r%4:Nat):Int):=(Int.natCast_emod r 4).symm;rw[h4];have hr4:r%4<4:=wc _ (by decide);generalize r%4=m at *
   match m,hr4 with
   |0,_=>exact{d0,Bg rfl,hd01}
   |1,_=>exact{opn ds k,Bg rfl,d8 _}
   |2,_=>
    have he:0<=(r:Int)/4%3:=vi _ (by decide);generalize (r:Int)/4%3=e at *;refine{((opn ds k:Int)-e).toNat,(Bg rfl).trans ?_,()};congr 2;split<;>lia
   |3,_=>
    refine{min 2 d0,(Bg rfl).trans ?_,()};congr 2;split<;>lia
  have u9:=Ai (o:=.lst [V.int (d0:Int),V.int (opn ds k:Int),V.int (if(opn ds k:Int)-(r:Int)/4%3>0 then(opn ds k:Int)-(r:Int)/4%3 else 0),V.int (if(2:Int)<(d0:Int) then 2 else(d0:Int))]) h9;refine Cw (SqL.of Ac) hat ?_
  replace hp1:=u9 _ _ hp1
  replace hq1:=u9 _ _ hq1
  replace s1:=s1.trans u9
  generalize upd H1 q9 _=H1 at *;apply{.inl {rfl,_,SqL.of hp1},?_};apply{few (by simp),λq3 h3=>?_};have u3:=Ai (o:=.lst [V.int (-1)]) h3;apply{q3,q1,_,_,rfl,rfl,Ac,u3 _ _ hq1,?_,λq4 h4=>?_}
  .rw[d4,hwt]
   exact few (by simp only[f8,jg];lia)
  rw[iV hD ()] at *;have u4:=u3.trans (Ai (o:=.lst ((way ds k).map V.int)) h4);have h44:(upd (upd H1 q3 (.lst [V.int (-1)])) q4 (.lst ((way ds k).map V.int))) q4=mn (.lst ((way ds k).map V.int)):=Ac;generalize (upd (upd H1 q3 (.lst [V.int (-1)])) q4 (.lst ((way ds k).map V.int)))=H4 at *;apply Cw (SqL.of h44) (fZ hD () hd1) ?_;apply Ca (u4 _ _ hp1) ?_ ?_
  .rw[d4,Bd]
   exact Ag ()
  have s5:=A9 (o:=.lst ((Ax ds).map V.int++[V.int ((way ds k).getD d 0)])) (s1.trans u4) hp;have hq5:upd H4 p (.lst ((Ax ds).map V.int++[V.int ((way ds k).getD d 0)])) q1=mn (.lst ((way ds k).tail.map V.int)):=by rw[Al hne.symm];exact u4 _ _ hq1
  have hp5:=@Ac H4 p (.lst ((Ax ds).map V.int++[V.int ((way ds k).getD d 0)]));generalize upd H4 p _=H5 at *;apply{q1,_,rfl,SqL.of hq5,λq6 h6=>?_};rw[Zn,<-n9] at *;have u6:=Ai (o:=.lst (((way ds k).tail.take d).map V.int)) h6;apply{few (by simp),λq7 h7=>?_};have u7:=Ai (o:=.lst [V.int (0+(k:Int))]) h7;refine{q6,q7,_,_,rfl,rfl,u7 _ _ Ac,Ac,?_,λq8 h8=>?_}
  .rw[d4,fk]
   exact few (by simp only[f8,jg];lia)
  have u8:=Ai (o:=.lst (((way ds k).tail.take d).map V.int++[V.int (0+(k:Int))])) h8;k_is;have hp8:=u8 _ _ (u7 _ _ (u6 _ _ hp5));refine{{q8,ds++[d],_,_,_,_,_,rfl,J5 hD (by rw[hl];exact hd1),by rw[d7,hl];rfl,?_,?_,Am (u7 _ _ (u6 _ _ hp5)) h8},((s5.trans u6).trans u7).trans u8}
  .rw[hp8,Ft,fb,hl]
   rfl
  .have e:=J8 ds d
   rw[hl] at e;rw[Ac,e,show(0+(k:Int))=(k:Int) by lia];have e2:((way ds k).take (d+1)++[(k:Int)]).tail=(way ds k).tail.take d++[(k:Int)]:=by
    rw[Fb hD ()];rfl
   rw[e2,fb];rfl
 .rintro G H1 ⟨⟨q1,ds,v4,v5,v6,v7,v8,rfl,hD,hl,hp1,hq1,hne⟩,s1⟩
  k_is;exact q p ds H1 s1 hp hp1 hD hl
inductive Aew(vs:List V)(H:Hp)(Q:VK)(E:XK):Prop|mk(a:ee)(ds:Za4)(m:Nat)(b:Bool)(_:vs=[.ref a,.int m,.bl b])(_:H a=mn (.lst ((Ax ds).map V.int)))(_:Dok ds)(_:0<ds.9)(_:m*ds.9<=1000)(_:ds.9<=60)(_:∀p (es:Za4) H',Ah H H'->H p=tp->H' p=mn (.lst ((Ax es).map V.int))->Dok es->es.9=(m+1)*ds.9->Q (.ref p) H')
theorem vY {ds:Za4}(h:Dok ds)(hp:0<ds.9):(way ds ds.9).getD (opn ds ds.9) 0=(ds.9:Int)-1:=by
 obtain⟨k,hk⟩:∃k,ds.9=k+1:={ds.9-1,()};rw[hk];show((way ds k).take (dAt ds k+1)++[(k:Int)]).getD (dAt ds k+1) 0=_;have hw:=Bq h k ();have:=h k ();unfold jw;rw[fg (by rw[fk];lia),fk,iu (),jx];show(k:Int)=((k+1:Nat):Int)-1;lia
include T in
theorem S8 (F:Fun K "_law_repeated" "_law_repeated" F3 f fd):T.ZA 1 f fd ["_law_elders","_law_times","_law_hung"] Aew:=by
 exists F.ok Cn
 obtain⟨a,ds,m,b,rfl,ha,hD,hpos,hm,hn,q⟩:=h;have hm1:m<=1000:=iw (Nat.le_mul_of_pos_right m hpos) hm;refine⟨_,(Aa (tst 3 Cn.nd (Cj C6 (by rfl) T.cQ Ji (tpa (pv 0) Ab))) (Aa (C0 il rfl (D0 rfl T.cK (tpa (pv 1) Ab)) (tgn 4 Cn.nd) (Aa (Jg (i:=5) Cn.nd rfl (wu rfl) (An Ao (by rfl) T.cJ Bp (tpa (pv 3) Ab))) (Aa (Jg (i:=6) Cn.nd rfl (wu rfl) (Dl Cf Af)) (Aa (pB (Fl (pv 2)) (Ae (Jg (i:=6) Cn.nd rfl (wu rfl) (Ak Ce (pv 5) Af)))
  A8) (Ae (tst 3 Cn.nd (Ak Jj (pv 3) (Iy rfl Pg (Cs (pv 0)) (λ_ _ _ _=>Bx) (λ_ _ _ _=>(E5 (ttc O2 (pv 0) Af) (pv 1) (Ak Bc (pv 0) (pv 2)))))))))))) (Ae (Ap (pv 3))))),?_⟩
 apply{a,_,rfl,.inl (SqL.of ha),λp hp=>?_};have t0:=Ai (o:=.lst ((Ax ds).map V.int)) hp;apply{_,rfl,(),(),?_};rw[ig];refine Gc (λk G H1=>(∃(p1:ee) (es:Za4) (v4 v5 v6:Option V),G=[mn (.ref a),mn (.int m),mn (.bl b),mn (.ref p1),v4,v5,v6]/\Dok es/\es.9=(k+1)*ds.9/\H p1=tp/\H1 p1=mn (.lst ((Ax es).map V.int)))/\Ah H H1) ?_ ?_ ?_
 .exact{{p,ds,_,_,_,rfl,hD,(),hp,Ac},t0}
 .rintro k G H1 hk ⟨⟨p1,es,v4,v5,v6,rfl,hE,hl,hp0,hp1⟩,s1⟩
  have hlm:(k+1)*ds.9<=1000:=iw (EM _ ()) hm;have hlp:0<es.9:=by rw[hl];exact Nat.mul_pos (DM _) hpos
  apply{p1,_,rfl,.inl (SqL.of hp1),?_};k_is;rw[d4,Bd];refine yN (λG H'=>H'=H1/\∃D:Nat,D<=opn es es.9/\G=[mn (.ref a),mn (.int m),mn (.bl b),mn (.ref p1),mn (.int (0+(k:Int))),mn (.int (es.9:Int)),mn (.int ((way es es.9).getD D 0))]) ?_ ?_
  .k_is
   cases b with
   |true=>
    apply{rfl,opn es es.9,d8 _,?_};rw[vY hE hlp];rfl
   |false=>
    apply{rfl,0,gy _,?_};have e1:(way es es.9).getD 0 0=-1:=by rw[Fb hE (d8 _)];rfl
    rw[e1];rfl
  .rintro G H' ⟨rfl,D,hDo,rfl⟩
   k_is;generalize hbs:(way es es.9).getD D 0=bs;refine{a,rfl,{_,SqL.of (s1 _ _ ha)},?_};refine G5 (SqL.of (s1 _ _ ha)) (λi=>((Ax ds).take i |>.map (shI es.9 bs)).map V.int) rfl (λi hi=>?_) (λi x H2 R A hx s2 kR kA=>?_) (λD2 H2 hD2 s2 hl2=>?_)
   .rw[d4,d4,fk]
    exact Ag (by rw[Bd];lia)
   .obtain⟨n,hn2,rfl⟩:=Ny hx
    have hacc:(((Ax ds).take (i+1)).map (shI es.9 bs)).map V.int=(((Ax ds).take i).map (shI es.9 bs)).map V.int++[.int (shI es.9 bs n)]:=by
     rw[ie,hn2,fb,fb];rfl
    apply B6 (λh=>?_) (λh=>?_)
    .apply kA _ _ ?_ (Ah.refl _);rw[hacc];unfold shI;rw[if_pos h]
    .apply kA _ _ ?_ (Ah.refl _);rw[hacc];unfold shI;rw[if_neg h]
   .rw[fv (by rw[d4];exact d8 _)] at hl2
    obtain⟨c1,c2,_⟩:=Abs hE hDo ds hD;rw[hbs] at c2;apply{p1,D2,_,_,rfl,rfl,s2 _ _ hp1,hl2,?_,λp3 hp3=>?_}
    .simp only[d4,Bd]
     exact gz (Ag ())
    have u3:=Ai (o:=.lst ((Ax es).map V.int++((Ax ds).map (shI es.9 bs)).map V.int)) hp3;apply{{p3,Jx es D ds,_,_,_,rfl,c1,?_,(s1.trans s2).free hp3,?_},(s1.trans s2).trans u3}
    .rw[iM,hl,wn (k+1) 1,EL]
    .rw[Ac,c2,fb]
 .rintro G H1 ⟨⟨p1,es,v4,v5,v6,rfl,hE,hl,hp0,hp1⟩,s1⟩
  k_is;exact q p1 es H1 s1 hp0 hp1 hE hl
inductive sT (K:d5)(vs:List V)(H:Hp)(Q:VK)(E:XK):Prop|mk(a:ee)(ns:List Int)(L:Nat)(_:vs=[.ref a,.int 60,.int L])(_:SqL K H a (ns.map V.int))(_:L<=400)(_:∀p (ds:Za4) H',Ah H H'->H p=tp->H' p=mn (.lst ((Ax ds).map V.int))->Dok ds->ds.9<=460->Q (.ref p) H')
variable (bo:T.ZC "_law_grown" 1 ["_law_cell","_law_many"] tL)
include T aB bo in
theorem gA (F:Fun K "_law_wood" "_law_wood" N3 f fd)(cz:T.ZC "_law_drawn" 2 ["_law_script","_law_many"] (rN K))(cA:T.ZC "_law_repeated" 1 ["_law_elders","_law_times","_law_hung"] Aew):T.ZA 3 f fd ["_law_script","_law_most","_law_large"] (sT K):=by
 exists F.ok Fp
 obtain⟨a,ns,L,rfl,hS,hL,q⟩:=h;refine⟨_,(Aa (tst 3 Fp.nd (Au aB hr.m (tpa (pv 0) (tpa Af Ab)))) (Aa (tst 4 Fp.nd (Ak Cv (Ak Cp (pv 3) Af) (Ak Bc (pv 1) Af))) (Aa (tst 5 Fp.nd (Au cz hr.m (tpa (pv 0) (tpa (pv 4) Ab)))) (Aa (pB (PW.pt (fQ (ttc Ed (Ak Cv (pv 3) Af) Af) (Tj (ttc rG (An Aa1 (by rfl) T.n_abs Aig (tpa (Au aB hr.m (tpa (pv 0) (tpa Af Ab))) Ab)) (Ak Af6 Af Af))))) (Ae (tst 5 Fp.nd (Au bo hr.m (tpa (Au aB hr.m (tpa (pv 0) (tpa Af Ab))) (tpa (pv 4) Ab)))))
  A8) (Aa (pB (PW.pt (fQ (ttc Ed (Ak Cv (Ak Cp (pv 3) Af) Af) Af) (Tj (ttc Gr (pv 4) Af)))) (Ae (tst 5 Fp.nd (Au cA hr.m (tpa (pv 5) (tpa (Ak Cp (pv 2) (pv 4)) (tpa (tpc Ed (Ak Cv (Au aB hr.m (tpa (pv 0) (tpa Af Ab))) Af) Af) Ab))))))
  A8) (Ae (Ap (pv 5)))))))),?_⟩
 apply{a,ns,0,rfl,hS,λc=>?_};k_is;obtain⟨n,hn,hn1⟩:=Vm (c/8) 60;have hn':c/8%(60+1)=(n:Int):=hn;rw[hn'];refine{a,ns,n,rfl,hS,hn1,λp0 d0 H1 s1 hp0 h0 hD0 hl0=>?_};apply yN (λG H'=>Ah H H'/\∃(p:ee) (ds:Za4),G=[mn (.ref a),mn (.int 60),mn (.int L),mn (.int c),mn (.int n),mn (.ref p)]/\H p=tp/\H' p=mn (.lst ((Ax ds).map V.int))/\Dok ds/\ds.9=n) ?_ ?_
 .k_is
  have keep:Ah H H1/\∃(p:ee) (ds:Za4),[mn (V.ref a),mn (.int 60),mn (.int L),mn (.int c),mn (.int n),mn (.ref p0)]=[mn (V.ref a),mn (.int 60),mn (.int L),mn (.int c),mn (.int n),mn (.ref p)]/\H p=tp/\H1 p=mn (.lst ((Ax ds).map V.int))/\Dok ds/\ds.9=n:=⟨s1,p0,d0,rfl,hp0,h0,hD0,hl0⟩;refine B6 (λh2=>?_) (λh2=>?_)
  .apply{a,ns,1,rfl,s1.seq hS,λc1=>?_};apply{_,rfl,?_};apply{10,18,rfl,rfl,{by decide,by decide,by decide},?_};apply B6 (λh3=>?_) (λh3=>?_)
   .apply{a,ns,1,rfl,s1.seq hS,λc2=>?_};apply{c2,n,rfl,hn1,λp1 d1 H3 s3 hp1 h1 hD1 hl1=>?_};k_is;exact{s1.trans s3,p1,d1,rfl,s1.free hp1,h1,hD1,hl1}
   .k_is
    exact keep
  .k_is
   exact keep
 .rintro G H2 ⟨s2,p,ds,rfl,hp,h2,hD,hl⟩
  apply yN (λG H'=>Ah H H'/\∃(p:ee) (es:Za4),G=[mn (.ref a),mn (.int 60),mn (.int L),mn (.int c),mn (.int n),mn (.ref p)]/\H p=tp/\H' p=mn (.lst ((Ax es).map V.int))/\Dok es/\es.9<=460) ?_ ?_
  .have keep:Ah H H2/\∃(q:ee) (es:Za4),[mn (V.ref a),mn (.int 60),mn (.int L),mn (.int c),mn (.int n),mn (.ref p)]=[mn (V.ref a),mn (.int 60),mn (.int L),mn (.int c),mn (.int n),mn (.ref q)]/\H q=tp/\H2 q=mn (.lst ((Ax es).map V.int))/\Dok es/\es.9<=460:={s2,p,ds,rfl,hp,h2,hD,()}
   apply B6 (λh4=>?_) (λh4=>?_)
   .apply B6 (λh5=>?_) (λh5=>?_)
    .apply rV () () ?_;apply{a,ns,2,rfl,s2.seq hS,λc3=>?_};k_is;have e1:(L:Int)/(n:Int)=((L/n:Nat):Int):=(rl L n).symm;have hm:L/n*n<=L:=EX L n;rw[e1];refine{p,ds,L/n,_,rfl,h2,hD,(),by rw[hl];lia,(),λp4 es H4 s4 hp4 h44 hE hle=>?_};apply{s2.trans s4,p4,es,rfl,s2.free hp4,h44,hE,?_};rw[hle,hl,wn,EL];lia
    .k_is
     exact keep
   .k_is
    exact keep
  .rintro G H5 ⟨s5,p5,es,rfl,hp5,h5,hE,hle⟩
   k_is;exact q p5 es H5 s5 hp5 h5 hE hle
inductive wJ (K:d5)(CB CC CP CO CL CD C CR CS:ee)(ts:List Tb)(vs:List V)(H:Hp)(Q:VK)(E:XK):Prop|mk(a:ee)(ds:Za4)(k:Int)(_:vs=[.ref a,.int k])(_:H a=mn (.lst ((Ax ds).map V.int)))(_:Dok ds)(_:ds.9<=500)(_:Tbs ts H)(_:∀x H',SmT ts H H'->IsW K CB CC CP CO CL CD C CR CS H' x ds->Q (.ref x) H')
include T in
theorem gR (F:Fun K "_law_made" "_law_made" Nw f fd)(cB:T.ZN "Opened" ap 9 ["self","elders"] (kD K ab aa ae ap))(cC:T.ZN "Levelled" ah 9 ["self","elders"] (tI K ab aa ah ts))(cD:T.ZN "Counted" am 9 ["self","elders"] (rD K ab aa ae am))(cE:T.ZN "Shaped" ao 6 ["self","elders"] (rK ag ad ao)) :
  T.ZA 11 f fd ["_law_elders","_law_kind"] (wJ K ab aa ae ap ah am ag ad ao ts):=by
 exists F.ok gX
 obtain⟨a,ds,k,rfl,ha,hD,hn,hT,q⟩:=h;have key:∀(l:ee),H l=tp->Ah H (upd H l (.lst ((Ax ds).map V.int)))/\upd H l (.lst ((Ax ds).map V.int)) l=mn (.lst ((Ax ds).map V.int)):=λl hl=>{Ai hl,Ac};refine⟨_,(Aa (B8 (ttc Ed (pv 1) Af) (Ae (Ap (Ij cB hr.m (tpa (Cj C6 (by rfl) T.cQ Ji (tpa (pv 0) Ab)) Ab))))
  A8) (Aa (B8 (ttc Ed (pv 1) Af) (Ae (Ap (Ij cC hr.m (tpa (Cj C6 (by rfl) T.cQ Ji (tpa (pv 0) Ab)) Ab))))
  A8) (Aa (B8 (ttc Ed (pv 1) Af) (Ae (Ap (Ij cD hr.m (tpa (Cj C6 (by rfl) T.cQ Ji (tpa (pv 0) Ab)) Ab))))
  A8) (Ae (Ap (Ij cE hr.m (tpa (Cj C6 (by rfl) T.cQ Ji (tpa (pv 0) Ab)) Ab))))))),?_⟩
 apply B6 (λ_=>?_) (λ_=>?_)
 .apply{a,_,rfl,.inl (SqL.of ha),λl hl=>?_};obtain⟨u,hl1⟩:=key l hl;generalize upd H l _=H1 at *;k_is;intro x dx hx hdx _;refine{x,dx,l,ds,rfl,Ac,E3 hx hdx _ _ hl1,hD,(),λH2 s2 hO=>{rfl,?_}};exact q x H2 (.of hT (u.trans (En hx hdx s2))) (.inl hO)
 apply B6 (λ_=>?_) (λ_=>?_)
 .apply{a,_,rfl,.inl (SqL.of ha),λl hl=>?_};obtain⟨u,hl1⟩:=key l hl;generalize upd H l _=H1 at *;k_is;intro x dx hx hdx _;have hT1:=hT.same u;refine{x,dx,l,ds,rfl,Ac,E3 hx hdx _ _ hl1,hD,(),hT1.same (λb u e=>E3 hx hdx b u e),λH2 s2 hO=>{rfl,?_}};exact q x H2 ((SmT.of hT u).trans (SmB.made hx hdx s2)) (.inr (.inl hO))
 apply B6 (λ_=>?_) (λ_=>?_)
 .apply{a,_,rfl,.inl (SqL.of ha),λl hl=>?_};obtain⟨u,hl1⟩:=key l hl;generalize upd H l _=H1 at *;k_is;intro x dx hx hdx _;refine{x,dx,l,ds,rfl,Ac,E3 hx hdx _ _ hl1,hD,(),λH2 s2 hO=>{rfl,?_}};exact q x H2 (.of hT (u.trans (En hx hdx s2))) (.inr (.inr (.inl hO)))
 apply{a,_,rfl,.inl (SqL.of ha),λl hl=>?_};obtain⟨u,hl1⟩:=key l hl;generalize upd H l _=H1 at *;k_is;intro x dx hx hdx _;refine{x,dx,l,ds,rfl,Ac,E3 hx hdx _ _ hl1,hD,(),λp r H2 s2 hO _ _ _=>{rfl,?_}};exact q x H2 (.of hT (u.trans (En hx hdx s2))) (.inr (.inr (.inr {hO,hD,()})))
theorem Agb {ds:Za4}(h:Dok ds){k t v:Nat}(hk:k<=ds.9)(e:(way ds k)[t+1]?=mn (v:Int)):(way ds k)[t]?=mn (eld ds v):=by
 obtain⟨h1,h2,h3⟩:=Ae9 h hk e;have he:=G0 h (show v<ds.9 by lia);rw[h1] at he;rw[<-he]
 cases t with
 |zero=>rw[Fb h (k:=k) hk,Fb h (k:=v) ()];rfl
 |succ t=>
  have e1:(anc ds v)[t]?=((way ds k).tail.take (t+1))[t]?:=by rw[h3]
  unfold anc at e1;rw[h1,ic (),ic ()] at e1;rw[Fb h (k:=k) hk,Fb h (k:=v) ()];exact e1.symm
theorem mG {ds:Za4}(h:Dok ds):∀n,n<=ds.9->(way ds n)[opn ds n]?=mn ((n:Int)-1)
 |0,_=>rfl
 |n+1,hn=>by
  have h1:=Bq h n ();have h2:=h n ();show((way ds n).take (dAt ds n+1)++[(n:Int)])[dAt ds n+1]?=_;have e:((way ds n).take (dAt ds n+1)).9=dAt ds n+1:=by rw[fk];lia
  rw[fg (),e,jx];show mn (n:Int)=mn _;congr 1;lia
inductive Aee(vs:List V)(H:Hp)(Q:VK)(E:XK):Prop|mk(a:ee)(ds:Za4)(_:vs=[.ref a])(_:H a=mn (.lst ((Ax ds).map V.int)))(_:Dok ds)(_:ds.9<=500)(_:∀p (ws:List Int) H',Ah H H'->H p=tp->H' p=mn (.lst (ws.map V.int))->ws≠[]->(∀y∈ws,y∈way ds ds.9)->ws.9<=600->Q (.ref p) H')
include T in
theorem nH (F:Fun K "_law_way" "_law_way" P0 f fd):T.ZA 1 f fd ["_law_elders"] Aee:=by
 exists F.ok Ki
 obtain⟨a,ds,rfl,ha,hD,hn,q⟩:=h;have hW:=Fb hD (k:=ds.9) (d8 _);have hwl:=Bq hD ds.9 (d8 _);have hop:=Z4 hD ds.9 (d8 _);refine{_,(Aa (tst 1 Ki.nd (Bs (tpa (Dl Cf Af) Ab))) (Aa (tst 2 Ki.nd (Ak Ce (An Ao (by rfl) T.cJ Bp (tpa (pv 0) Ab)) Af)) (Aa (E6 il (ttc rG (pv 2) Af) (Aa (A6 (Cl gj i6 i5 B0 (pv 1) (tpa (pv 2) Ab))) (Ae (tst 2 Ki.nd (tix By (pv 0) (pv 2)))))) (Ae (Ap (pv 1)))))),?_}
 apply{few (by simp),λp hp=>?_};have u1:=Ai (o:=.lst [V.int (-1)]) hp;have hp1:upd H p (.lst [V.int (-1)]) p=mn (.lst ([(-1:Int)].map V.int)):=Ac;generalize upd H p _=H1 at *;apply{a,_,rfl,.inl (SqL.of (u1 _ _ ha)),?_};rw[d4,Bd];apply{λj G H2=>j<(way ds ds.9).9/\Ah H H2/\∃(y:Int) (ws:List Int),G=[mn (.ref a),mn (.ref p),mn (.int y)]/\(way ds ds.9)[j]?=mn y/\H2 p=mn (.lst (ws.map V.int))/\ws≠[]/\(∀z∈ws,z∈way ds ds.9)/\ws.9+j<=(way ds ds.9).9,?_,?_}
 .refine{opn ds ds.9,(),u1,_,[-1],rfl,?_,hp1,by simp,λz hz=>?_,by rw[nj];lia}
  .exact mG hD _ (d8 _)
  .rw[gl.mp hz,hW]
   exact ii
 rintro j G H2 ⟨hj,s2,y,ws,rfl,hy,hp2,hne,hmem,hwj⟩;k_is
 cases j with
 |zero=>
  rw[hW] at hy;obtain rfl:=fc hy;refine B6 (λh=>absurd h (by decide)) (λ_=>?_);k_is;exact q p ws H2 s2 hp hp2 hne hmem ()
 |succ t=>
  obtain⟨v,rfl,hv,_⟩:=Ku hD ds.9 t y (d8 _) hy;refine B6 (λ_=>?_) (λh=>absurd () h);refine{λmt H'=>∃m',m'<t+1/\m'<(way ds ds.9).9/\Ah H H'/\∃(y:Int) (ws:List Int),mt=[mn (.ref a),mn (.ref p),mn (.int y)]/\(way ds ds.9)[m']?=mn y/\H' p=mn (.lst (ws.map V.int))/\ws≠[]/\(∀z∈ws,z∈way ds ds.9)/\ws.9+m'<=(way ds ds.9).9,λ_ _ h=>h,?_};apply{.inl {rfl,_,SqL.of hp2},?_};apply Ca hp2 (by rw[d4];exact Ag ()) ?_;have s3:=A9 (o:=.lst (ws.map V.int++[V.int (v:Int)])) s2 hp;have hp3:upd H2 p (.lst (ws.map V.int++[V.int (v:Int)])) p=mn (.lst ((ws++[(v:Int)]).map V.int)):=by rw[Ac,fb];rfl
  generalize upd H2 p _=H3 at *;apply Cw (SqL.of (s3 _ _ ha)) (v:=.int (eld ds v)) (Bg (Sd (Ou ()))) ?_;apply{t,uw _,(),s3,_,ws++[(v:Int)],rfl,Agb hD (d8 _) hy,hp3,by simp,λz hz=>?_,by rw[d7,nj];lia};rcases jf.mp hz with hz|hz
  .exact hmem z hz
  .rw[gl.mp hz]
   exact gi hy
theorem Adq {ds:Za4}(es:Za4):Dok (ds++es)->Dok ds/\(Ax (ds++es)).take ds.9=Ax ds:=by
 induction es using Jz with
 |h0=>
  intro h;rw[gp] at h ⊢;exact{h,fv (by rw[Bd];exact d8 _)}
 |h1 es d ih=>
  intro h;rw[<-fh] at h ⊢;obtain⟨h1,h2⟩:=ih (iU h).1;refine{h1,?_};rw[Ft,jh (by rw[Bd,d7];lia),h2]
theorem Abk {ds:Za4}(h:Dok ds)(m:Nat)(hm:m<=ds.9):Dok (ds.take m)/\(Ax ds).take m=Ax (ds.take m):=by
 have e:=(iq m ds).symm;rw[e] at h;obtain⟨h1,h2⟩:=Adq _ h;rw[<-e,fk,iu hm] at h2;exact⟨h1,h2⟩
inductive lJ(vs:List V)(H:Hp)(Q:VK)(E:XK):Prop|mk(a:ee)(ds:Za4)(c:Int)(_:vs=[.ref a,.int c])(_:H a=mn (.lst ((Ax ds).map V.int)))(_:Dok ds)(_:ds.9<=480)(_:∀p (es:Za4) H',Ah H H'->H' p=mn (.lst ((Ax es).map V.int))->Dok es->es.9<=490->Q (.ref p) H')
include T bo in
theorem Xk (F:Fun K "_law_second" "_law_second" Kk f fd)(cF:T.ZC "_law_way" 1 ["_law_elders"] Aee):T.ZA 2 f fd ["_law_elders","_law_cell"] lJ:=by
 exists F.ok Dz
 obtain⟨a,ds,c,rfl,ha,hD,hn,q⟩:=h;refine⟨_,(Aa (tst 2 Dz.nd (Ak Cp (pv 1) Af)) (Aa (B8 (ttc Ed (Ak Cv (pv 1) Af) Af) (Ae (Ap (Cj C6 (by rfl) T.cQ Ji (tpa (pv 0) Ab))))
  A8) (Aa (B8 (ttc Ed (Ak Cv (pv 1) Af) Af) (Ae (Ap (B9 G9 (pv 0) Kv (Bl (Ak Cv (pv 2) (Ak Bc (An Ao (by rfl) T.cJ Bp (tpa (pv 0) Ab)) Af))))))
  A8) (Aa (B8 (ttc Ed (Ak Cv (pv 1) Af) Af) (Aa (tst 3 Dz.nd (Cj C6 (by rfl) T.cQ Ji (tpa (pv 0) Ab))) (Aa (C0 il rfl (D0 rfl T.cK (tpa (Ak Bc Af (Ak Cv (pv 2) Af)) Ab)) (tgn 4 Dz.nd) (Aa (tst 5 Dz.nd (Au cF hr.m (tpa (pv 3) Ab))) (Aa (tst 2 Dz.nd (Ak Cp (pv 2) Af)) (Ae (A6 (Cl gj i6 i5 B0 (pv 3) (tpa (tix By (pv 5) (Ak Cv (pv 2) (An Ao (by rfl) T.cJ Bp (tpa (pv 5) Ab)))) Ab))))))) (Ae (Ap (pv 3)))))
  A8) (Ae (Ap (Au bo hr.m (tpa (Ak Cp (pv 2) Af) (tpa (Ak Cv (pv 2) Af) Ab))))))))),?_⟩
 apply B6 (λ_=>?_) (λ_=>?_)
 .apply{a,_,rfl,.inl (SqL.of ha),λl hl=>?_};exact q l ds _ (Ai hl) Ac hD ()
 apply B6 (λ_=>?_) (λ_=>?_)
 .apply{a,_,rfl,.inl (SqL.of ha),?_};rw[d4,Bd];apply gP () ?_;obtain⟨m,hm,hm1⟩:∃m:Nat,c/4%((ds.9:Int)+1)=(m:Int)/\m<=ds.9:=by
   have h2:=vi (c/4) (show((ds.9:Int)+1)≠0 by lia);have h3:=wf (c/4) (show(0:Int)<(ds.9:Int)+1 by lia);exact{(c/4%((ds.9:Int)+1)).toNat,(),()}
  rw[hm];apply{a,_,rfl,SqL.of ha,λl hl=>?_};obtain⟨d1,d2⟩:=Abk hD m hm1;refine q l (ds.take m) _ (Ai hl) ?_ d1 (by rw[fk];lia);rw[Ac,Zn,<-d2,n9]
 apply B6 (λ_=>?_) (λ_=>?_)
 .apply{a,_,rfl,.inl (SqL.of ha),λl hl=>?_};obtain⟨u1,hl1⟩:=Bz (o:=.lst ((Ax ds).map V.int)) hl;generalize upd H l _=H1 at *;apply{_,rfl,(),(),?_};obtain⟨m,hm,hm1⟩:∃m:Nat,(1+c/4%3).toNat=m/\m<=3:={_,rfl,()};rw[hm];refine Gc (λi G H2=>Ah H H2/\∃(lf:Int) (v w:Option V) (es:Za4),G=[mn (.ref a),mn (.int c),mn (.int lf),mn (.ref l),v,w]/\H2 l=mn (.lst ((Ax es).map V.int))/\Dok es/\es.9<=ds.9+i) {u1,_,_,_,ds,rfl,hl1,hD,()} ?_ ?_
  .rintro i G H2 hi ⟨s2,lf,v,w',es,rfl,hl2,hE,he⟩
   apply{l,es,rfl,hl2,hE,(),λp ws H3 s3 hp2 hp3 hne hmem hwl=>?_};apply{.inl {rfl,_,SqL.of (s3 _ _ hl2)},?_};apply{p,_,rfl,.inl (SqL.of hp3),?_};rw[d4];have hpos:=vh.mpr hne;refine gP () ?_;obtain⟨j,hj,hj1⟩:∃j:Nat,lf/3%(ws.9:Int)=(j:Int)/\j<ws.9:=by
    have h2:=vi (lf/3) (show(ws.9:Int)≠0 by lia);have h3:=wf (lf/3) (show(0:Int)<(ws.9:Int) by lia);exact{(lf/3%(ws.9:Int)).toNat,(),()}
   rw[hj];obtain⟨y,hy⟩:∃y,ws[j]?=mn y:={_,d6 hj1};refine Cw (SqL.of hp3) (v:=.int y) (Bg (Sd hy)) ?_;apply Ca (s3 _ _ hl2) (by rw[d4,Bd];exact Ag ()) ?_;obtain⟨d,hd⟩:=l9 (hmem y (gi hy));have hdl:=Ci hd;rw[Bq hE es.9 (d8 _)] at hdl;apply{A9 (s2.trans s3) hl,_,_,_,es++[d],rfl,?_,J5 hE (),by rw[d7,nj];lia};rw[Ac,Ft,fb,kr,hd];rfl
  .rintro G H2 ⟨s2,lf,v,w',es,rfl,hl2,hE,he⟩
   k_is;exact q l es H2 s2 hl2 hE ()
 k_is;obtain⟨m,hm,hm1⟩:∃m:Nat,c/4%61=(m:Int)/\m<=60:={(c/4%61).toNat,(),()};rw[hm];refine{_,m,rfl,hm1,λp es H1 s1 _ h1 hE he=>?_};exact q p es H1 s1 h1 hE ()
theorem tF (xs:List Int)(k:Nat):Ha (xs.map V.int) (mn (k:Int)) (mn ((k+1:Nat):Int))=(xs[k]?.toList).map V.int:=by
 rw[Ol,show k+1-k=1 by lia,<-wo,<-n9];congr 1;rcases ud k xs.9 with l|l
 .rw[lh l,d6 l];rfl
 .rw[jj l,ir l];rfl
theorem Acm:∀(o o':Option Int),o.7=o'.7->o=o'
 |none,tp,_=>rfl
 |some _,mn _,e=>congrArg mn (vq e).1
inductive Aeo(vs:List V)(H:Hp)(Q:VK)(E:XK):Prop|mk(a b:ee)(xs ys:List Int)(_:vs=[.ref a,.ref b])(_:H a=mn (.lst (xs.map V.int)))(_:H b=mn (.lst (ys.map V.int)))(_:xs.9<=500)(_:ys.9<=500)(_:∀r H',Fst xs ys r->Ah H H'->Q (Abn r) H')
include T in
theorem fF (F:Fun K "_law_first" "_law_first" L9 f fd):T.ZA 1 f fd ["_law_one","_law_other"] Aeo:=by
 exists F.ok Pf
 obtain⟨a,b,xs,ys,rfl,ha,hb,hn,hm,q⟩:=h;refine⟨_,(Aa (C0 il rfl (D0 rfl T.cK (tpa (An (Yz rfl) (by rfl) T.da Uk (tpa (An Ao (by rfl) T.cJ Bp (tpa (pv 0) Ab)) (tpa (An Ao (by rfl) T.cJ Bp (tpa (pv 1) Ab)) Ab))) Ab)) (tgn 2 Pf.nd) (Ae (B8 (ttc (Afj (Aha hr)) (B9 G9 (pv 0) (Bl (pv 2)) (Bl (Ak Bc (pv 2) Af))) (B9 G9 (pv 1) (Bl (pv 2)) (Bl (Ak Bc (pv 2) Af)))) (Ae (Ap (pv 2)))
  A8))) (Ae (Ap P3))),?_⟩
 apply{a,_,rfl,.inl (SqL.of ha),?_};apply{b,_,rfl,.inl (SqL.of hb),?_};rw[d4,d4];apply{_,_,rfl,?_};apply{_,rfl,by split<;>lia,by split<;>lia,?_}
 obtain⟨m,hm1,hm2⟩:∃m:Nat,(if(ys.9:Int)>(xs.9:Int) then(ys.9:Int) else(xs.9:Int)).toNat=m/\m=max xs.9 ys.9:={_,rfl,by split<;>lia}
 rw[hm1];refine Gc (λi G H1=>Ah H H1/\(∀j:Nat,j<i->xs[j]?=ys[j]?)/\∃v:Option V,G=[mn (.ref a),mn (.ref b),v]) {Ah.refl _,(λj hj=>()),_,rfl} ?_ ?_
 .rintro i G H1 hi ⟨s1,hal,v,rfl⟩
  rw[show(0+(i:Int))=(i:Int) by lia];apply{a,_,rfl,SqL.of (s1 _ _ ha),λp hp=>?_};rw[show((i:Int)+1)=((i+1:Nat):Int) by lia,tF];obtain⟨u2,hp2⟩:=Bz (o:=.lst (xs[i]?.toList.map V.int)) hp;generalize upd H1 p _=H2 at *;apply{b,_,rfl,SqL.of (u2 _ _ (s1 _ _ hb)),λr hr=>?_};rw[show((i:Int)+1)=((i+1:Nat):Int) by lia,tF];obtain⟨u3,hr3⟩:=Bz (o:=.lst (ys[i]?.toList.map V.int)) hr;generalize upd H2 r _=H3 at *;have s3:=(s1.trans u2).trans u3;refine Ah1 (SqL.of (u3 _ _ hp2)) (SqL.of hr3) ?_;apply uF (λh=>?_) (λh=>?_)
  .k_is
   exact q (mn i) H3 (.at' i (λe=>h (by rw[e])) hal) s3
  .apply{s3,λj hj=>?_,_,rfl};rcases yt (FV hj) with l|l
   .exact hal j l
   .rw[l];exact Acm _ _ h
 .rintro G H1 ⟨s1,hal,v,rfl⟩
  k_is;exact q tp H1 (.no λi=>by
   rcases ud i m with l|l
   .exact hal i l
   .rw[ir (),ir ()]) s1
theorem Xl {K:d5}:kitOne K (.type "bool") (.type "bool")=mn MK:=by rfl
include T aO aP aQ aR aU aB in
theorem Afe (F:Fun K "law" "law" Yy f fd)(cG:T.ZC "_law_wood" 3 ["_law_script","_law_most","_law_large"] (sT K))(cH:T.ZC "_law_second" 2 ["_law_elders","_law_cell"] lJ)(bq:T.ZC "_law_made" 11 ["_law_elders","_law_kind"] (wJ K ab aa ae ap ah am ag ad ao ts))(cI:T.ZC "_law_first" 1 ["_law_one","_law_other"] Aeo)(bu:T.ZC "same_shape" 11 ["one","other"] (Abe K ab aa ae ap ah am ag ad ao ts)) :
  T.ZA 12 f fd ["_law_script"] (rW K ts):=by
 exists F.ok Hd
 obtain⟨a,ns,rfl,hS,hlen,hT,q⟩:=h;refine⟨_,(Aa (tst 1 Hd.nd (Au cG hr.m (tpa (pv 0) (tpa Af (tpa Af Ab))))) (Aa (tst 2 Hd.nd (Au aB hr.m (tpa (pv 0) (tpa Af Ab)))) (Aa (tst 3 Hd.nd (Au cH hr.m (tpa (pv 1) (tpa (Ak Cp (pv 2) Af) Ab)))) (Aa (tst 4 Hd.nd (Au bq hr.m (tpa (pv 1) (tpa (Ak Cv (pv 2) Af) Ab)))) (Aa (tst 5 Hd.nd (Au bq hr.m (tpa (pv 3) (tpa (Ak Cv (Ak Cp (pv 2) Af) Af) Ab)))) (Aa (tst 6 Hd.nd (Au cI hr.m (tpa (pv 1) (tpa (pv 3) Ab)))) (Aa (C0 il rfl (Cs (Bs (tpa (Lb (tpa (pv 4) (tpa (pv 5) Ab))) (tpa (Lb (tpa (pv 5) (tpa (pv 4) Ab))) Ab)))) (Uf rfl (E1 (tgn 7 Hd.nd) (E1 (tgn 8 Hd.nd) Pj))) (Aa (tst 9 Hd.nd (Au bu hr.m (tpa (pv 7) (tpa (pv 8) Ab)))) (Aa (tst 10 Hd.nd (Au aU hr.m (tpa (pv 7) (tpa (pv 8) Ab)))) (Aa (B8 (PW.pt (Nt (Ic (Fl (An Do (by rfl) T.cV C2 (tpa (pv 9) (tpa (Jb (v:=.ty "bool") rfl T.dJ nR rfl) Ab))))) (Nt (ttc kN (pv 9) (yR (pR (pv 6)))) (N4 (ttc kN (pv 10) (pv 6)))))) (Ae (Ap Of))
  A8) (Ae (B8 (PW.pt (fQ (mX (tO (pv 10))) (Tj (PW.pt (Nt (Ic (Fl (An Do (by rfl) T.cV C2 (tpa (pv 10) (tpa (Jb (v:=.ty "int") rfl T.dL wM rfl) Ab))))) (N4 (Fl (An Do (by rfl) T.cV C2 (tpa (pv 10) (tpa (Jb (v:=.ty "bool") rfl T.dJ nR rfl) Ab)))))))))) (Ae (Ap Of))
  A8)))))) (Aa (B8 (PW.pt (Nt (ttc Adf (Au bu hr.m (tpa (pv 4) (tpa (pv 4) Ab))) Of) (N4 (mX (tO (Au aU hr.m (tpa (pv 5) (tpa (pv 5) Ab)))))))) (Ae (Ap Of))
  A8) (Ae (Ap (pN (tpc (zO (Aha hr)) (G3 (Cr aO hr.m (pv 4)) (G3 (Cr aP hr.m (pv 4)) (G3 (Cr aQ hr.m (pv 4)) (Cr aR hr.m (pv 4))))) (pv 1)) (mT (tpc (zO (Aha hr)) (G3 (Cr aO hr.m (pv 5)) (G3 (Cr aP hr.m (pv 5)) (G3 (Cr aQ hr.m (pv 5)) (Cr aR hr.m (pv 5))))) (pv 3)))))))))))))),?_⟩
 apply{a,ns,200,rfl,hS,(),λe ds H1 s1 _ he hD hdl=>?_};apply{a,ns,2,rfl,s1.seq hS,λc=>?_};apply{e,ds,_,rfl,he,hD,(),λp es H2 s2 hp hE hel=>?_};have s12:=s1.trans s2;have he2:=s2 _ _ he;have hT2:=hT.same s12;apply{e,ds,_,rfl,he2,hD,(),hT2,λx H3 s3 hx3=>?_};apply{p,es,_,rfl,s3.k hp,hE,(),s3.ok,λy H4 s4 hy4=>?_};have s34:=s3.trans s4;have hx4:=hx3.sm s4;have he4:=s34.k he2;have hp4:=s34.k hp;apply{e,p,_,_,rfl,he4,hp4,by rw[Bd];lia,by rw[Bd];lia,λr H5 hr5 s5=>?_};have s45:=s34.then s5;have hx5:=hx4.sm (SmT.of s34.ok s5);have hy5:=hy4.sm (SmT.of s34.ok s5);apply{few (by simp),λt1 ht1=>?_};obtain⟨u6,ht16⟩:=Bz (o:=.tup [V.ref x,V.ref y]) ht1;generalize upd H5 t1 _=H6 at *;apply{few (by simp),λt2 ht2=>?_};obtain⟨u7,ht27⟩:=Bz (o:=.tup [V.ref y,V.ref x]) ht2;have ht17:=u7 _ _ ht16;generalize upd H6 t2 _=H7 at *;apply{few (by simp),λl hl=>?_};obtain⟨u8,hl8⟩:=Bz (o:=.lst [V.ref t1,V.ref t2]) hl;have ht18:=u8 _ _ ht17;have ht28:=u8 _ _ ht27;generalize upd H7 l _=H8 at *;have s58:=(u6.trans u7).trans u8;have s48:=s45.then s58;have m58:=SmT.of s45.ok s58;have hx8:=hx5.sm m58;have hy8:=hy5.sm m58;have he8:=s58 _ _ (s5 _ _ he4);have hp8:=s58 _ _ (s5 _ _ hp4);refine{l,rfl,{_,SqL.of hl8},?_};refine vL (as:=[t1,t2]) (xs:=[.ref x,.ref y]) (ys:=[.ref y,.ref x]) rfl rfl (λi G H9=>SmT ts H8 H9/\∃v7 v8 v9 v10:Option V,G=[mn (.ref a),mn (.ref e),mn (.int c),mn (.ref p),mn (.ref x),mn (.ref y),mn (Abn r),v7,v8,v9,v10]) {SmT.refl s48.ok,_,_,_,_,rfl} (λi G H9 _ h=>SqL.of (h.1.k hl8)) (λi t u v G H9 e1 e2 e3 h=>?_) ?_ ?_
 .have hi:=Ci e1
  have h2:i=0\/i=1:=by simp at hi;lia
  rcases h2 with rfl|rfl
  .cases e1;cases e2;cases e3
   exact h.1.k ht18
  .cases e1;cases e2;cases e3
   exact h.1.k ht28
 .rintro i u v G H9 e2 e3 ⟨s9,v7,v8,v9,v10,rfl⟩
  obtain⟨u',v',d1,d2,rfl,rfl,hu,hv,l1,l2,hF⟩:∃(u' v':ee) (d1 d2:Za4),u=.ref u'/\v=.ref v'/\IsW K ab aa ae ap ah am ag ad ao H8 u' d1/\IsW K ab aa ae ap ah am ag ad ao H8 v' d2/\d1.9<=500/\d2.9<=500/\Fst (Ax d1) (Ax d2) r:=by
   have hi:=Ci e2;have h2:i=0\/i=1:=by simp at hi;lia
   rcases h2 with rfl|rfl
   .cases e2;cases e3
    exact{x,y,ds,es,rfl,rfl,hx8,hy8,(),(),hr5}
   .cases e2;cases e3
    exact{y,x,es,ds,rfl,rfl,hy8,hx8,(),(),hr5.symm}
  apply{u',v',d1,d2,rfl,hu.sm s9,hv.sm s9,l1,l2,s9.ok,λr' H10 hf s10=>?_};obtain rfl:=hf.uniq hF;have s910:=s9.trans s10;apply{u',v',d1,d2,rfl,hu.sm s910,hv.sm s910,l1,l2,s910.ok,λr2 H11 hf s11=>?_};obtain rfl:=hf.uniq hF;have s911:=s910.trans s11;apply{_,_,_,_,rfl,.bl _,Xl,?_};apply uF (λh=>absurd rfl h) (λ_=>?_)
  cases r2 with
  |none=>
   apply uF (λh=>absurd rfl h) (λ_=>?_);k_is;exact{s911,_,_,_,_,rfl}
  |some k=>
   apply uF (λh=>absurd rfl h) (λ_=>?_);apply{_,_,_,_,rfl,.int _,Sh,?_};apply{_,_,_,_,rfl,.int _,Pl,?_};k_is;exact{s911,_,_,_,_,rfl}
 .rintro G H9 ⟨s9,v7,v8,v9,v10,rfl⟩
  apply{x,x,ds,ds,rfl,hx8.sm s9,hx8.sm s9,(),(),s9.ok,λr' H10 hf s10=>?_};obtain rfl:=hf.self;have s910:=s9.trans s10;apply{_,_,rfl,rfl,?_};rw[show(!decide (Abn tp=V.non)==MK)=ML from rfl];apply{y,y,es,es,rfl,hy8.sm s910,hy8.sm s910,(),(),s910.ok,λr2 H11 hf s11=>?_};obtain rfl:=hf.self;have s911:=s910.trans s11;apply(hx8.sm s911).eld rfl s911.ok λb1 H12 s12 _ hb1=>?_;have s912:=s911.trans s12;apply Aeu (SqL.of hb1) (SqL.of (s912.k he8)) ?_;refine{_,rfl,?_};rw[if_pos (decide_eq_true rfl)];apply(hy8.sm s912).eld rfl s912.ok λb2 H13 s13 _ hb2=>?_;have s913:=s912.trans s13;apply Aeu (SqL.of hb2) (SqL.of (s913.k hp8)) ?_;rw[decide_eq_true rfl];exact q H13
end
set_option maxHeartbeats 8000000 in
theorem all_mk:AllMk:=by
 intro l w K h mg fa X G hfa ab aa ar ah ae ap am ag ad ao aV aW f24 ai9 aj0 aj1 aj2 aj3 aj4 aj5 aj6 ah8 f31 aj7 ah9 aj8 aj9 ai0 ai1 ai2 ag8 ai3 T31 ai4 ai5 ak0 f34 ak1 ak2 ak3 ak4 ak5 ak6 ak7 ak8 ai6 f69 ak9 al0 al1 al2 al3 al4 al5 al6 ai7 f70 al7 al8 al9 am0 am1 am2 am3 am4 ai8 ax aa5 aa6 ac7 az aa3 aa4 ac3 ae8 ae9 ae1 ae3 af0 ac8 ad7 ae4 ac9 af1 ae2 af2 ad4 ad8 ac0 aa2 aa7 ad1 aa0 ae5 ab9 ad9 ad3 ad5 ab8 ae6 ac1 ac4 aa1 ae0 ac6 ad0 ac2 g0 g1 g2 g3 g4 g5 g6 g7 g8 g9 g10 g11 g12 g13 g14 g15 g16 g17 g18 g19 g20 g21 g22 g23 i24 a24 l24 c24 k24 ag9 ah0 g25 g26 g27 g28 g29 g30 i31 a31 l31 c31 k31 ag6 ag7 ah1 g32 g33 a34 l34 c34 k34 ah2 ah3 g35 g36 g37 g38 g39 g40 g41 g42 g43 g44 g45 g46 g47 g48 g49 g50 g51 g52 g53 g54 g55 g56 g57 g58 g59 g60 g61 g62 g63 g64 g65 g66 g67 g68 i69 a69 l69 c69 k69 ah4 ah5 i70 a70 l70 c70 k70 ah6 ah7 g71 g72 g73 g74 g75 g76 g77 g78 g79 g80 g81 g82 g83 g84 g85 g86 g87 g88 g89 cZ ab3 ab4 ab5 ab6 ab7 dj aa8 aa9 ab0 ab1 ab2 cL di cP dv dn dg cY dw du cN df af3 af8 af9 af5 ag0 ac5 af6 af4 af7 ad2 ag1 ag2 ag3 ag4 ag5 ae7 ad6;obtain⟨f89,d89,F89,a89⟩:=g89;obtain⟨_,_,aw5,aw6,aw7,aw8,aw9,ax0,_,rfl,_,_⟩:=F89.ex;have e:=hfa.symm.trans (k0 X G a89);cases e;have dD:∀H,SqT K H ax (Y9.map λn:Nat=>V.int n):=λH=>.inr ⟨aa5,aa6,ac7,ab3,ab4,ab5,ab6,ab7⟩;have dF:∀H,SqT K H az (tD):=λH=>.inr ⟨aa3,aa4,ac3,aa8,aa9,ab0,ab1,ab2⟩;have T0:∀base:ki,Txt l.prog w base tz K mg ax az:=λ_=>{k0 X G cZ,dD,k0 X G dj,dF,{_,k0 X G cL},{_,k0 X G di},{_,k0 X G cP},{_,k0 X G dv},{_,k0 X G dn},{_,k0 X G dg},{_,k0 X G cY},{_,k0 X G dw},{_,k0 X G du},{_,k0 X G cN},{_,k0 X G df},mw X G af3,mw X G af8,mw X G af9,mw X G af5,mw X G ag0,mw X G ac5,mw X G af6,mw X G af4,mw X G af7,mw X G ad2,mw X G ag1,mw X G ag2,mw X G ag3,mw X G ag4,mw X G ag5,mw X G ae7,mw X G ad6};have Qh:Qh K ab:={ad4.cl,ad4.no 0,ad4.no 1,ad4.no 2};have Qb:Qb K aa:={ac0.cl,ac0.no 0,ac0.no 1,ac0.no 2};have Qi:Qi K ar:={aa7.cl,aa7.no 0,aa7.no 1};have Qc:Qc K ah:={aa0.cl,aa0.no 0,aa0.no 1,aa0.no 2,aa0.no 3,aa0.no 4,aa0.no 5,aa0.no 6,aa0.no 7};have Qd:Qd K ae:={ab9.cl,ab9.no 0,ab9.no 1,ab9.no 2,ab9.no 3,ab9.no 4};have Qf:Qf K ap:={ad3.cl,ad3.no 0};have Qe:Qe K am:={ab8.cl,ab8.no 0,ab8.no 1,ab8.no 2};have Qk:Qk K ag:={ac1.cl,ac1.no 0,ac1.no 1,ac1.no 2,ac1.no 3};have Qa:Qa K ad:={aa1.cl,aa1.no 0,aa1.no 1,aa1.no 2,aa1.no 3,aa1.no 4,aa1.no 5};have Qg:Qg K ao:={ac6.cl,ac6.no 0,ac6.no 1};have F24:=To (st:=Bt) l24 c24 k24 ag9 ah0;have b24:=F24.binds (ps:=["self","bit","nth"]) λ_ _ _ _ _ _=>us3 λ_ _ _=>rfl;have F31:=Ac2 (st:=Cd) l31 c31 ag6 ag7;have b31:=F31.binds (ps:=["self","order","step"]) λ_ _ _ _ _ _ _ us hl=>match us,hl with | [_,_,_],_=>⟨_,rfl,λ_=>rfl⟩
 have F34:=To (st:=Dy) l34 c34 k34 ah2 ah3;have b34:=F34.binds (ps:=["depths"]) λ_ _ _ _ _ _=>us1 λ_=>rfl;have F69:=To (st:=Bf) l69 c69 k69 ah4 ah5;have b69:=F69.binds (ps:=["self","place"]) λ_ _ _ _ _ _=>us2 λ_ _=>rfl;have F70:=To (st:=Bi) l70 c70 k70 ah6 ah7;have b70:=F70.binds (ps:=["self","place"]) λ_ _ _ _ _ _=>us2 λ_ _=>rfl;refine{j2 "law" "law" (B3 Yy) (Br Yy) (Ad Yy) .none aw5 aw6 aw7 aw8 aw9 ax0,λs v=>.of_eq rfl,λbase hK _ hB=>?_};have T:=T0 base;have V0:=GD.cal X G g0 λF=>kZ T F;have V1:=GD.cal X G g1 λF=>fC T V0 F;have V2:=GD.cal X G g2 λF=>fJ T V1 F;have V3:=GD.cal X G g3 λF=>Wy T V1 F;have V4:=GD.cal X G g4 λF=>Rz T V3 F;have V5:=GD.cal X G g5 λF=>nQ T F;have V6:=GD.cal X G g6 λF=>Tz T F;have V7:=GD.cal X G g7 λF=>mO T F V6;have V8:=GD.cal X G g8 λF=>vS T F;have V9:=GD.cal X G g9 λF=>nU T F;have V10:=GD.cal X G g10 λF=>kQ T F V9;have V11:=GD.cal X G g11 λF=>jO T F;have V12:=MD.mkr X G af2 g12 λF=>Wt T Qh F V8 V10;have V13:=MD.mth Qh.cl g13 λF=>Wu T Qh F;have V14:=MD.mth Qh.cl g14 λF=>Wq T Qh F;have V15:=MD.mth Qh.cl g15 λF=>Wg T Qh F V4 V11;have V16:=GD.cal X G g16 λF=>Xh T F;have V17:=GD.cal X G g17 λF=>Sv T F;have V18:=GD.cal X G g18 λF=>Os T V5 V17 F;have V19:=MD.mkr X G ad8 g19 λF=>Wn T Qb F V13 V14 V18;have V20:=MD.mth Qb.cl g20 λF=>Qy T V5 Qb F;have V21:=MD.mth Qb.cl g21 λF=>Wi T V3 Qb V2 F V20;have V22:=MD.mth Qb.cl g22 λF=>Qq T Qb F;have V23:=MD.mth Qb.cl g23 λF=>Q5 T Qb V22 F;have V24:Mth l.prog w K mg base aa "block_with" 4 ["self","bit","nth"] (Mo K aa tz):={{f24,_,Qx T Qb V22 hK (hB (410,406) (by simp)) V16 F24 ii,b24,⟨a24,i24,k24⟩},Qb.cl};have V25:=MD.mth Qb.cl g25 λF=>Qz T V5 Qb F V7;have V26:=MD.mth Qb.cl g26 λF=>Q6 T V3 Qb V2 V22 F V23 V24 V25;have V27:=GD.cal X G g27 λF=>eZ T V19 V12 F;have V28:=GD.cal X G g28 λF=>W2 T V1 F;have V29:=GD.cal X G g29 λF=>eO T F;have V30:=GD.cal X G g30 λF=>S1 T F V29;have V31:Aju l.prog w K mg base "Shortcuts" ar 4 ["self","order","step"] (Ox ar):={{f31,_,Qm T F31 Qi V28 V30,b31,⟨aa2.ma,a31,i31,aa2.kc⟩,k0 X G aa2.a}};have ax6:=jJ.bindsD (x:="__init__") (qual:="Shortcuts.__init__") (st:=Cd) (ps:=["self","order","step"]) (kV:=ai0) (doc:=ai1) (pm:=ai2) (cdv:=ag8) (ct:=ai3) (an:=ah9) ag6 ag7 rfl (us2 λ_ _=>{_,rfl,rfl});have ax7:Aat l.prog w K mg base "Shortcuts" ar 4 ["self","order","step"] (Ox ar) [.int 16]:={{f31,_,_,Qm T F31 Qi V28 V30,ax6,.cons ah1 .nil,⟨aa2.ma,a31,i31,aa2.kc⟩,k0 X G aa2.a}};have V32:=GD.cal X G g32 λF=>pT T V0 F;have V33:=GD.cal X G g33 λF=>eB T F;have V34:Cal l.prog w K mg base "level_order" 2 ["depths"] (oB tz):={{f34,_,W3 T hK (hB (762,758) (by simp)) F34 (gn _ ii),b34,k0 X G a34,k34}};have V35:=GD.cal X G g35 λF=>Ng T F;have V36:=GD.cal X G g36 λF=>W4 T F;have V37:=GD.cal X G g37 λF=>eG T F;have V38:=GD.cal X G g38 λF=>Zj T V35 V36 F;have V39:=GD.cal X G g39 λF=>eI T F;have V40:=MD.mth (sp:=(pM K ab aa ah tz)) Qc.cl g40 λF=>Wc T Qc F V26;have V41:=MD.mth Qc.cl g41 λF=>Q0 T Qc V40 F;have V42:=MD.mth Qc.cl g42 λF=>Qt T Qc V40 F;have V43:=MD.mth Qc.cl g43 λF=>Qu T Qc V37 F V41 V42;have V44:=MD.mkr X G ad1 g44 λF=>Wd T V19 V12 Qc V32 V33 F V34 V38 ax7 V27 V39 V43;have V45:=MD.mth Qc.cl g45 λF=>Q7 T Qc V40 F;have V46:=GD.cal X G g46 λF=>Xg T F;have V47:=GD.cal X G g47 λF=>fI T F;have V48:=BD.calC X G ad0 g48 λF=>Wj T Qd F;have V49:=MD.mth Qd.cl g49 λF=>Q1 T Qd F V21;have V50:=MD.mth Qd.cl g50 λF=>Wa T Qd F V49;have V51:=MD.mth Qd.cl g51 λF=>Wf T Qd F V15;have V52:=MD.mth (sp:=(Zr K ab aa ae)) Qd.cl g52 λF=>Wk T Qd F V51;have V53:=MD.mkr X G ae5 g53 λF=>Wr T V19 V12 Qd V47 V46 F V50 V48;have V54:=GD.cal X G g54 λF=>uL T V32 V33 F;have V55:=GD.cal X G g55 λF=>fA T V47 F;have V56:=BD.calC X G ac2 g56 λF=>We T Qf F;have V57:=MD.mkr X G ad9 g57 λF=>Wo T Qf V54 V53 F V56;have V58:=MD.mth Qf.cl g58 λF=>Wl T Qf V52 F;have V59:=MD.mth Qf.cl g59 λF=>Q8 T Qf V55 F V58;have V60:=GD.cal X G g60 λF=>Rm T V37 V33 F;have V61:=MD.mkr X G ad5 g61 λF=>Wh T V35 V36 V32 V53 Qe F V60;have V62:=MD.mth Qe.cl g62 λF=>Wm T V52 Qe F;have V63:=MD.mth Qe.cl g63 λF=>Q9 T Qe F V62;have V64:=GD.cal X G g64 λF=>oE T V46 F;have V65:=BD.calC X G ad0 g65 λF=>Qn T Qa F;have V66:=MD.mkr X G ae6 g66 λF=>Ws T V46 F Qk V64;have V67:=GD.cal X G g67 λF=>fB T F V66;have V68:=MD.mkr X G ac4 g68 λF=>Wb T V17 Qa Qk F V65;have V69:Mth l.prog w K mg base ad "stretch_at" 4 ["self","place"] (wT ag ad tz):={{f69,_,Qs T hK (hB (1542,1538) (by simp)) V16 Qa F69 (gn _ (gn _ ii)),b69,⟨a69,i69,k69⟩},Qa.cl};have V70:Mth l.prog w K mg base ad "pieces_to" 4 ["self","place"] (zG ag ad tz):={{f70,_,Qw T hK (hB (1556,1552) (by simp)) V16 Qa F70 (gn _ (gn _ (gn _ ii))),b70,⟨a70,i70,k70⟩},Qa.cl};have V71:=MD.mth Qa.cl g71 λF=>Q4 T Qa Qk F V69 V70;have V72:=MD.mth Qa.cl g72 λF=>Qo T Qa F V71;have V73:=BD.calC X G ac2 g73 λF=>Qr T Qg F;have V74:=MD.mth Qg.cl g74 λF=>Qv T Qg F V72;have V75:=MD.mth Qg.cl g75 λF=>Qp T V55 Qg F V74;have V76:=MD.mkr X G ae0 g76 λF=>Wp T V54 Qg F V67 V68 V73;have V77:=GD.cal X G g77 λF=>Sn T V59 V45 V63 V75 F;have V78:=GD.cal X G g78 λF=>Xr T V77 F;have V79:=GD.cal X G g79 λF=>Tu T F;have V80:=GD.cal X G g80 λF=>Z9 T F;have V81:=GD.cal X G g81 λF=>Zy T F;have V82:=GD.cal X G g82 λF=>fP T V79 F V80;have V83:=GD.cal X G g83 λF=>S8 T F;have V84:=GD.cal X G g84 λF=>gA T V79 V81 F V82 V83;have V85:=GD.cal X G g85 λF=>gR T F V57 V44 V61 V76;have V86:=GD.cal X G g86 λF=>nH T F;have V87:=GD.cal X G g87 λF=>Xk T V81 F V86;have V88:=GD.cal X G g88 λF=>fF T F;exact Afe T V59 V45 V63 V75 V77 V79 F89 V84 V87 V85 V88 V78
end _K
end
theorem PySem.Challenge.cw_tightwood_k95_one_shape_holds : PySem.Challenge.rw_tightwood_k95_one_shape.Holds :=
 _K.HEAD @_K.all_mk
#print axioms PySem.Challenge.cw_tightwood_k95_one_shape_holds
