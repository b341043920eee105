import PyProof.Rows.All
import Wide.All
import OpenK.AllK
import Wide.FinOn
import Lean
import PyProof.EqAt
import PyProof.EqKinds
import PyProof.TupleCall
import KE.KDictOf
import KE.KItemsList
import KE.KLam
import KE.KNest
import KE.KNestM
import KE.KRevIter
import KE.KSortKey
import KE.KSortTup
import KE.KTryMore
import OpenK.KCls
import PyProof.AttrMissHeap
import PyProof.Draws
import PyProof.EnumMake
import PyProof.EnumStmt
import PyProof.FactsAll.list
import PyProof.InstStoreFacts
import PyProof.IsiH_list
import PyProof.ListNew
import PyProof.ListRange
import PyProof.ObjNew
import PyProof.Rows.SortShell
import PyProof.Rows.SortStr
import PyProof.SliceList
import PyProof.StrBlockL
import PyProof.StrLawsChain
import PyProof.StrLawsIn
import PyProof.WalksEnum
import PyProof.ZipIter
import PySem.Challenge.RW_tightwood_k44_refused_by_levels
set_option compiler.extract_closed false
set_option Elab.async false
set_option linter.all false
set_option maxRecDepth 100000
set_option maxHeartbeats 4000000
open PySem.W renaming Frag->eh,nsIn->ij,mg_of->iy,fnOf->kl,keepIn->k8,findIn->lf,mg_none_of->mi,emptyDict->mz,codeIn->m7,boot_heap->o7,methodCall_KW->tq,excIn->ui,looks_findIn->uu,kia_one->uv,SharedT->uy,isFn->vn,plainGet->wt,cellsFrom_some->w9,tabObj->xy,plainGet_of->yi,hideAll_get->yj,methodObj->y3,hasDictIn->y4,km_in_of->zp,takerIn->z9,OpenLaw->AA,of_hideAll->AV,boot_drawn->AW,TabsAt->AY,kla_obj->BM,boot_toks->CJ,funFrames_hide->CM,looks_mroIn->CY,kla_codeExpr->DR,kla_callFunE->DS,hideAll_none->DT,codeHd_of_K->DY,km_tabs_of->EK,codeRec_of->EL,CodeHd->ER,specialIn->ET,plainOver->EU,kitx_list->EV,kitx_dict->EW,handedIn->FH,makesIn->FR,kla_fn->GC,WalkO->GQ,looks_clsIn->HP,Looks->HS,Frag->KD,mg_of->MJ,OpenLaw->NW
open List renaming length_map->fb,getElem?_eq_getElem->fc,length_append->fe,append_assoc->fm,replicate->fu,length_take->f7,getElem?_append_right->f8,map_append->f9,getElem?_map->gd,getElem?_eq_some_iff->ge,mem_of_getElem?->gg,size_toArray->gn,range->gp,take_of_length_le->gq,length_range->gr,length_cons->gu,mem_singleton->gw,mem_cons_of_mem->gz,getElem?_append_left->ie,mem_append_right->ii,map_cons->ik,mem_cons_self->il,append_nil->ip,flatten_cons->iw,length_replicate->iz,mem_append->i5,mem_cons->i9,getElem?_range->jd,getElem?_take_of_lt->jf,take_append_drop->jg,length_drop->jh,getElem?_eq_none->jk,mem_map->jl,take_add_one->jn,length_nil->jq,replicate_succ->jt,nil_append->ju,getD->jy,take_append_of_le_length->jz,map_map->j1,getElem?_drop->ka,mem_range->kh,flatten_append->kj,drop_of_length_le->km,range_succ->kr,getElem?_take->ku,map_congr_left->kx,cons_append->lh,filter_cons_of_neg->lz,mem_of_mem_take->l6,getElem?_of_mem->l7,getD_eq_getElem?_getD->l8,filter_append->l9,drop_append_of_le_length->mf,reverse_reverse->mn,not_mem_nil->mq,filter_cons_of_pos->mw,drop_drop->nh,toList_toArray->ni,filterMap_cons->nj,mem_reverse->nz,mem_of_mem_drop->n4,mem_append_left->n5,length->n6,getElem?_replicate->n9,take_succ_cons->og,reverse_append->oh,length_reverse->oi,lookup->ou,all_eq_true->oy,extract_eq_take_drop->pf,pairwise_append->ph,forall_mem_cons->pi,ext_getElem?->pj,map_take->p7,take_zero->qc,drop_zero->qd,flatten_singleton->qk,foldl_cons->qm,sum_cons->qp,length_singleton->qq,take_length->rc,drop_length->rf,drop_eq_getElem_cons->rh,sum_append->rz,of_mem_zip->sd,length_set->se,count_cons->sf,pairwise_cons->sj,mem_filterMap->sk,map_replicate->sq,pairwise_singleton->sv,getElem?_cons_succ->sw,filter_eq_nil_iff->tx,count_append->t8,lookup_cons->uk,eq_nil_iff_forall_not_mem->um,nodup_cons->vp,mem_map_of_mem->vt,map_nil->vy,getElem?_tail->wd,pairwise_iff_getElem->wm,getElem?_zip_eq_some->wn,any_cons->wy,mem_flatten->xi,range_succ_eq_map->xo,getElem?_set_self->xp,mem_filter->yc,find?_cons->yd,getElem?_toArray->yg,getElem?_set_ne->yn,length_pos_iff->yw,take_add->y8,sum_singleton->zf,reverse_cons->zx,map_set->zy,getElem?_set->zz,filter_congr->z0,take->AL,length_tail->AN,ext_getElem->AO,countP_cons->AQ,eq_nil_of_length_eq_zero->BB,length_zip->BG,forIn_cons->BH,take_take->CG,map->CH,count_replicate_self->CU,map_drop->DK,all_cons->DL,length_eq_zero_iff->DV,length_eq_one_iff->EA,head?_eq_getElem?->EB,length_filter_le->EO,length_dropLast->EZ,take_replicate->FK,length_flatten->FL,getD_cons_succ->FM,map_singleton->FT,foldl->FU,foldl_append->GJ,take_append->GT,getElem_mem->GU,getElem_map->GV,foldlM_cons->GW,drop->GX,any_eq_true->GY,range_add->IE,forIn_nil->IF,foldl_nil->IG,map_id->JZ,sum->NL
open PySem renaming Addr->fg,wpAny_pure->ft,Value->fv,Shared->fw,Program->gv,World->ir,Expr->jc,Around->ji,Heap->jo,Stmt->jr,FuncData->ke,mem_of_lookup->k6,wpAny_newObj_type->oj,Scope->ol,wpAny_call->om,codeAny_builtin->oq,Arguments->o8,wpAny_truthy_bool->p9,lookup_relabel_local->qa,codeAny_mono->qb,wpAny_standAt->qf,wpAny_rule->qr,Builtin->qu,Spec->qx,plainId_quiet->ra,wpAny_loadPart_at->rb,wpAny_tryCatch->rj,wpAny_field->rk,codeAny_call_builtin->rl,Builtin->rm,NameKind->rn,wpAny_attempt->tj,wpAny_execs_nil->tm,call_meets->ub,wpAny_callSpecial?_slot->uh,wpAny_seqItems->uo,wpAny_call_entry->vq,wpAny_newFunctionEnv->vz,IsPair->wk,wpAny_comprehension_free->xw,Model->yl,wpAny_typeOf->yo,Result->yp,CmpOp->yx,wpAny_of_eq->zj,wpAny_loadPart->zk,wpAny_loadName_local->zl,wpAny_letGo->zm,wpAny_ite_true->zn,IsRangeIter->zu,IsPart->zw,wpAny_isSubtype_exc->z6,wpAny_newList->AI,evalPart_none->AJ,Value->AK,wpAny_pyIter_range->AT,wpAny_Name->AU,seqIndex_neg->BL,ZipApart->BN,Keyword->BR,BindsTo->BX,wpAny_pyIter_zip->CI,frameOf->CK,Params->CS,Paired->CT,seqIndex_of->CV,Fin->DE,wpAny_updateSeq->DO,Within->DQ,wpAny_newTuple->EG,wpAny_newFunctionEnv_cells->EH,Operator->EM,wpAny_getItem_list_slice->FB,strLen_append->FC,call->FG,wpAny_getItem_str_slice->FP,wpAny_pyNext_range_end->FW,wpAny_pyIter_rangeiter->FX,wpAny_nextOf_list_item->FY,wpAny_getItem_list_neg->FZ,codeAny_compStart_list->GE,Str->GG,exec_Assign_Name_used->GN,codeAny_call_function->GO,builtinLookup_eq_fast->GP,wpAny_Slice->HK,sizeLine_eq->HM,numAt_eq->HN,intItems_at->HQ,GenState->HU,wpAny_loadName_free->HW,wpAny_loadName_cell->HX,wpAny_dictSet_pairs->HY,Program->IC,typeIs_str->IL,typeIs_int->IM,rawInt->IQ,PlainAttrs->IR,wpAny_sequenceKey->IV,wpAny_pyIter_enum->IW,World->JC,wpAny_lookBehind->JK,stored_length_le->JL,pastItsLine_dict->JM,typeLookup_type->KJ,sliceRange_one->MC,refuseLoop_ref->MF,pick_run->MG,DefRec->MO,rangeSize_one->MT,nums_intItems->MU,intBits_le_64->MV,call_list_seq->MW,wpAny_nsSet1->NN,wpAny_mkText->NO,codeAny_func->NR,call_range_3->NS,call_range_1->NT,OwnTail->NV
open PySem.Heap renaming get?_push_of_some->fh,lt_size->gh,get?_push_size->iq,get?_update_other->ko,get?_update_self->o6,get?_none_of_le->vm,size_push->we,MadeExcOf->wf,size_update->xj,SameBut->xq,FlyingW->xr,get?_push_ne->z4,HeldW->LY
open PySem.Str renaming ofString->fj,ofString->me,empty->yu,length->zo
open Nat renaming le_refl->fk,lt_of_lt_of_le->gi,ne_of_lt->ig,le_trans->io,zero_le->i6,add_sub_cancel_left->jb,min_eq_left->jm,add_assoc->jv,le_of_lt->jx,le_add_right->kq,zero_add->lx,sub_self->ly,exists_eq_add_of_le->my,le_of_eq->ot,add_zero->p6,lt_irrefl->p8,eq_zero_or_pos->ql,not_lt->sr,lt_of_le_of_ne->ss,add_sub_cancel->su,sub_zero->uc,ne_of_gt->ue,add_comm->uf,mod_lt->va,min_le_right->vb,min_eq_right->vc,lt_succ_self->vd,and_two_pow_sub_one_eq_mod->ve,le_succ->vo,add_sub_cancel'->vx,mod_mul_right_div_self->wg,lt_of_le_of_lt->wj,sub_le->xz,pow_succ->ya,div_div_eq_div_mul->yb,not_lt_zero->yf,lt_sub_iff_add_lt->yk,eq_of_testBit_eq->yq,add_mul->yr,add_le_add_left->y6,mod_mod_of_dvd->zq,lt_or_eq_of_le->zr,mul_comm->AB,min_self->AC,lt_succ_of_lt->AD,add_sub_assoc->AE,testBit_two_pow_sub_one->CA,le_of_ble_eq_true->EY,pow_le_pow_right->FI,one_pos->FJ,sub_lt->GH,sub_add_cancel->GI,ble->GS,min_le_left->ID,mul_assoc->JF,xor_zero->JX,succ_pos->JY,one_mul->LU
open Option.some renaming inj->fq
open Array renaming length_toList->gj,getElem?_toList->gt,toList_append->jj,getElem?_eq_getElem->nq,toList_extract->qy,getElem?_eq_some_iff->qz,toList_reverse->vh,forIn_toList->wb,append_empty->wc,append_assoc->zd,toList_setIfInBounds->BY,getElem?_eq_none->DX,mk->ES,toList_push->FV,toList_map->GM,toList->IU
open PyProof.Rows renaming wpS_bind->gl,wpS_pure->gy,Keyed->ic,SortSt->j0,callWith_type1->j2,slot_tuple_getitem->lw,IntsAre->nu,wpS_mono->oz,SortKind->uw,wpS_get->wq,AllBare->ww,wpS_modify->w8,get?_update_seq->yt,wpS_reverse->zh,wpS_lift->zi,size_push'->EI,Constant_none->FN,subscriptTail_builtinR->GA,listItems_at->GB,tail_any->HL,args_tuple_getitem->IN,count_cnt->LO,cnt_cons->LQ,cnt->LR,callWith_builtin1->LS,slicePart_none->ME,joinParts_cons->MK,tupleItemsOf_->MS,plain_sorted->NP,entry_sorted->NQ
open Bool renaming false_ne_true->im,and_eq_true->ky,false_eq_true->mj,eq_iff_iff->sh,eq_false_iff->wu,toNat_false->AS,toNat_true->BJ,or_eq_true->BK,toNat_le->DM,noConfusion->HJ,false_and->IJ,and_false->IK,or_true->JJ
open PySem.Challenge renaming pw_tightwood_k44_refused_by_levels->iu,rw_tightwood_k44_refused_by_levels->n8
open PySem.F renaming plainAttrs_list->i7,type_list_append->ll,slot_list_append->lp,plainAttrs_str->qg,plain_max_loop->qi,type_list_index->rp,slot_list_index->rq,slot_zip_next->tu,slot_zip_getattribute->uj,type_str_count->xc,slot_str_count->xf,excBase_ValueError->AZ,excAttr_ValueError->BA,slot_str_getitem->BP,slot_dict_update->BQ,entry_max_loop->BV,args_zip_next_1->BZ,entry_zip_next->CO,type_str_join->DF,type_list_pop->DG,slot_str_join->DH,slot_list_pop->DI,excAttr_ValueError->GL,args_list_index_2->GZ,entry_list_index->HV,slot_list_index->IH,plain_list_iadd->II,slot_int_rmul->JH
open Int renaming toNat_natCast->i8,natCast_nonneg->md,eq_ofNat_of_zero_le->td,fdiv_eq_ediv_of_nonneg->wl,toNat->xl,natCast_ediv->xm,toNat_of_nonneg->y9,le_trans->AG,natCast_add->BS,emod_nonneg->BU,emod_lt_of_pos->GK,lt_irrefl->JG,le_of_lt->KB,ediv_one->KC,le_refl->LW,not_lt->MM
open PySem.PassesOwn renaming never->ja,leaving->DZ
open PySem.Value renaming ref->je,type->m9,int->nv,none->qw,str->z7,bool->BO,float->EJ,isStrOf->HZ,builtin->IA,isInt->JA,bytes->JB
open Option renaming isSome_iff_exists->jw,map_eq_some_iff->sy,map_some->vi,getD_some->wx,map_map->BE,getD_none->FS,none->IS,map->JD
open PySem.Obj renaming mapSeq->lj,mapFields->JE
open PySem.Builtin.Range renaming rangeSize->lu,small->ua,rangeFitsLong->yy
open False renaming elim->l5
open PySem.Builtin.Str renaming strSliceIndices->mh,tooLong->MR
open PySem.Around renaming under_plainId->ml,frames_deeper->yh,under->DN
open PySem.Builtin renaming bitAnd->m8,bitNot->ow,bitXor->ye,bitOr->HB
open PySem.Builtin.SmallTypes renaming ownedTupleIsFree->ny,nextOf->t9
open True renaming intro->o3
open PySem.NameKind renaming free->o9,cell->BF
open Ne renaming symm->qh
open PySem.Calls renaming spliced_cons->qj,evalArgs_plain->vf,spliced_nil->wo,callWith_builtin->xn,Name_function_global->BW,Constant_str->FO
open PySem.Builtin.Slice renaming slicePlaces->qo,sliceAdjust->vg,sliceApplied->zc,slicePartIndex->KH,sliceFields->KI
open PySem.Builtin.Tuple renaming tupleExact->qt,tupleItemsOf->zb
open PySem.Builtin.List renaming listTooLong->qv,listFitsIndex->LZ,listExtendWith->MA
open ForInStep renaming yield->rg,done->sg
open PySem.Heap.SameBut renaming update->ug,refl->LX
open List.Pairwise renaming nil->vj,imp_of_mem->zt,map->KA
open PyProof.Rows.SortSt renaming mk'->vw
open PyProof renaming noPylong_small->xg
open PySem.Builtin.ObjectAttr renaming ownThenClass->xh,storeInDict->xk,storeInOwnDict->HC,ownDict->HE,newKeyGuard->HF,inOwnDict->HG,find->HH,dataDescriptor?->HI
open PySem.EntryCells renaming newEntry->xu
open Sum renaming inl->xx,inr->z8
open PySem.Builtin.Builtins renaming bindParams->ym
open PySem.SeqAt.RcAt renaming lists->yv,tuples->DP,lists_lengths->MX
open PySem.SeqAt renaming EqAt->yz,list_indexAt->FF
open PySem.SeqAt.EqAt renaming same->ze,str_int->CZ,of_refs->DA,int_str->DB,str_str->MY,str_none->MZ,str_bool->NA,none_str->NB,none_int->NC,none_bool->ND,int_none->NE,int_int->NF,int_bool->NG,bool_str->NH,bool_none->NI,bool_int->NJ,bool_bool->NK
open PySem.Code renaming quiet_builtin->zg,isFrame->ED,frames->KG
open PySem.Builtin.Dict renaming addKeywords->z5,updateFrom->AH,pairItems->AR,selfAndRest->MB
open List.Perm renaming refl->AF
open PySem.Value.ref renaming inj->AX
open List.cons renaming inj->BC
open Or renaming inr->BD,inl->DJ
open PySem.Heap.IsSliceOf renaming new->BI
open Nat.succ renaming inj->CF
open PySem.W.Hook renaming val->DC,obs->DD,says->KR,of->KS,keeps->KT
open PySem.Manifest renaming signature?->DU
open PySem.IsRange renaming new->DW
open PySem.Heap.DictOf renaming new->EC
open PySem.BindsTo renaming of_defaults->EE
open And renaming intro->EF
open PySem.W.Looks renaming ld->EN,ld->JN,here->JO
open PySem.Heap.Ns1 renaming of_empty->EQ
open Prod renaming ext->EX
open PySem.Data renaming fields->FA,dict->HA,cell->MP
open PySem.Txt renaming join->FE
open PySem.WalksT renaming enumerate->FQ,zip2->IP
open StateT renaming run_pure->GF
open Prod.mk renaming injEq->GR
open PySem.Paired renaming length->HR
open Nat.le renaming dest->IT
open PySem.Walks renaming range->IX
open PySem.W.WShape renaming has->IZ
open PySem.CmpOp renaming NotIn->JI,In->MQ
open PySem.EqMixed renaming ne_str_int->JP,ne_str_bool->JQ,ne_int_str->JR,ne_bool_str->JS,eq_str_int->JT,eq_str_bool->JU,eq_int_str->JV,eq_bool_str->JW
open PySem.W.WData renaming int->KM
open PySem.SeqAt.RcNeAt renaming tuples->KN,lists->KO
open PySem.Sem renaming wp_mono->KP,wp->ML
open PySem.Within renaming cons->KQ
open PySem.EqNone renaming ne_str_none->KU,ne_none_str->KW,ne_none_none->KY,ne_none_int->KZ,ne_none_bool->LA,ne_int_none->LC,ne_bool_none->LG,eq_str_none->LH,eq_none_str->LI,eq_none_none->LJ,eq_none_int->LK,eq_none_bool->LL,eq_int_none->LM,eq_bool_none->LN
open PyProof.Rows.IsTup renaming new->LV
open PySem.Expr renaming Call->MN
open PySem.W.KF renaming slot_gs->NM
open PySem.IsL renaming update->NU
open PySem.DictEntry renaming refKey->NX
open Decidable renaming em->NY
open Classical renaming choose_spec->NZ
open PySem.AutoListH renaming list___mul___list_int_3->OA
open PySem.W (instObj hideAll of_hideAll lookIn kitOne kia_one callWith_K exmOne kitAny CodeHd kla_obj kla_fn mg_none_of)
abbrev Za0:=AK->PySem.Shared->Prop
abbrev Za1:=List (PySem.Addr×PySem.Obj)
abbrev Za2:=GG->Option AK
abbrev Za3:=List AK
abbrev Za4:=List Nat
abbrev Za5:=List Bool
abbrev Za6:=List GG
abbrev Za7:=Option AK
set_option hygiene false in
local macro_rules | `(tactic| lia)=>`(tactic| first | with_reducible first | assumption | exact Nat.le_of_lt (by assumption) | exact Nat.not_le.mp (by assumption) | exact Nat.lt_of_le_of_lt (by assumption) (by assumption) | exact Nat.le_trans (by assumption) (by assumption) | exact Nat.lt_trans (by assumption) (by assumption) | exact Nat.lt_succ_of_lt (by assumption) | exact Nat.sub_le _ _ | exact Nat.lt_of_lt_of_le (by assumption) (by assumption) | exact Nat.le_of_lt_succ (by assumption) | exact Nat.pos_of_ne_zero (by assumption) | exact Nat.zero_le _ | exact Nat.sub_succ_lt_self _ _ (by assumption) | exact Nat.sub_lt (Nat.zero_lt_of_lt (by assumption)) Nat.one_pos | exact Nat.lt_of_lt_of_le (Nat.sub_lt (Nat.zero_lt_of_lt (by assumption)) Nat.one_pos) (by assumption) | lia (splits := 9) | omega)
theorem QC(h:True:=by rfl):True:=h
def QD:Lean.Syntax:=QC._auto_1
theorem QE(h:True:=by decide):True:=h
def QF:Lean.Syntax:=QE._auto_1
theorem QG(h:True:=by first|exact .inl rfl|exact .inr rfl|assumption):True:=h
def QH:Lean.Syntax:=QG._auto_1
theorem QI(h:True:=by intro _;rfl):True:=h
def QJ:Lean.Syntax:=QI._auto_1
theorem QK(h:True:=by (repeat intro _);rfl):True:=h
def QL:Lean.Syntax:=QK._auto_1
section
set_option hygiene false in
local macro_rules | `(tactic| k_in)=>`(tactic| intro pins s G H Q I h)
set_option hygiene false in
local macro_rules | `(tactic| k_end)=>`(tactic| intro pins s G H D I h)
local macro_rules | `(tactic| k_cls)=>`(tactic| (constructor<;>first | rfl | decide +kernel))
namespace L2
open PySem PySem.Spec PyProof.Rows
variable {C Pt dx i1 i2 it l1 l2 z:fg} {params:o8} {A:ji} {CX:CXT} {op:yx} {X:Cx} {env:Env} {tg:jc} {fd:ke} {base h h' h1:jo} {H H' H1 H2:Hp} {J:It} {pins:Za1} {fp:List fg} {outer:List Env} {es:List jc} {kz ns:List Int} {l0:List ic} {cs ix:Za4} {N ps:Za6} {xs ys:List V} {us vs:Za3} {M:yl} {t':Nat} {oT:Obj} {an od:Option fg} {cpos lpos pos:Pos} {scope:ol} {pl:Sem Bool} {s s2:fw} {sp:Sp} {qual:Str} {te to:TE} {wi:TI} {y:V} {cdv ct doc oc pm:fv} {w:ir}
abbrev Key:=Sum Int Str
def Vm:Key->fv->Bool
 |.inl k,v=>JA k v
 |.inr x,v=>HZ x v
def Af4 (w:ir):Key->Int
 |.inl k=>hashInt k
 |.inr x=>hashStr w x
theorem Ck:∀{k:Key} {v:fv},Vm k v=true->(∃i t,k=xx i/\v=nv i t)\/(∃x t,k=z8 x/\v=z7 x t)
 |.inl i,v,h=>by
  obtain⟨t,e⟩:=Value.isInt_shape (k:=i) (v:=v) h;exact .inl ⟨i,t,rfl,e⟩
 |.inr x,v,h=>by
  obtain⟨t,e⟩:=Value.isStrOf_shape (x:=x) (v:=v) h;exact .inr ⟨x,t,rfl,e⟩
theorem mR (i:Int)(t:Tok):Vm (.inl i) (.int i t)=true:=by simp[Vm,JA]
theorem mV (x:Str)(t:Tok):Vm (.inr x) (.str x t)=true:=by simp[Vm,HZ]
theorem Aah (a b:Int):decide ((xx a:Key)=xx b)=(a==b):=by
 by_cases e:a=b
 ·subst e;simp
 ·have h:¬(xx a:Key)=xx b:=λq=>e (Sum.inl.inj q)
  rw[decide_eq_false h];exact(beq_eq_false_iff_ne.mpr e).symm
theorem Aar (a b:Str):decide ((z8 a:Key)=z8 b)=decide (a=b):=by
 by_cases e:a=b
 ·subst e;simp
 ·have h:¬(z8 a:Key)=z8 b:=λq=>e (Sum.inr.inj q)
  rw[decide_eq_false h,decide_eq_false e]
theorem Abn (a:Int)(b:Str):decide ((xx a:Key)=z8 b)=false:=decide_eq_false (λq=>nomatch q)
theorem Aao (a:Str)(b:Int):decide ((z8 a:Key)=xx b)=false:=decide_eq_false (λq=>nomatch q)
def B7 (prog:gv)(w:ir):PySem.KeyKind prog w Key where
 is:=Vm
 hash:=Af4 w
 inj:=λv a b ha hb=>by
  rcases Ck ha with⟨i,t,rfl,rfl⟩|⟨x,t,rfl,rfl⟩
  ·rcases Ck hb with⟨j,u,rfl,e⟩|⟨y,u,rfl,e⟩
   ·injection e with e1 _;rw[e1]
   ·exact nomatch e
  ·rcases Ck hb with⟨j,u,rfl,e⟩|⟨y,u,rfl,e⟩
   ·exact nomatch e
   ·injection e with e1 _;rw[e1]
 byValue:=λk v h=>by
  rcases Ck h with⟨i,t,rfl,rfl⟩|⟨x,t,rfl,rfl⟩<;>rfl
 pyHash:=λhv h=>by
  rcases Ck hv with⟨i,t,rfl,rfl⟩|⟨x,t,rfl,rfl⟩
  ·exact wpAny_pyHash_int h
  ·exact wpAny_pyHash_str h
 eqBool:=λhu hv h=>by
  rcases Ck hu with⟨i,t,rfl,rfl⟩|⟨x,t,rfl,rfl⟩
  ·rcases Ck hv with⟨j,u,rfl,rfl⟩|⟨y,u,rfl,rfl⟩
   ·rw[Aah] at h;exact wpAny_eqBool_int h
   ·rw[Abn] at h;exact DB i t y u _ _ _ _ h
  ·rcases Ck hv with⟨j,u,rfl,rfl⟩|⟨y,u,rfl,rfl⟩
   ·rw[Aao] at h;exact CZ x t j u _ _ _ _ h
   ·rw[Aar] at h;exact wpAny_eqBool_str h
 «strs»:=λk x t v h=>by
  rcases Ck h with⟨i,u,rfl,e⟩|⟨y,u,rfl,e⟩
  ·exact nomatch e
  ·injection e with e1 _
   subst e1;cases v<;>rfl
theorem K7 (prog:gv)(w:ir)(i:Int)(t:Tok):(B7 prog w).is (.inl i) (.int i t)=true:=mR i t
theorem Zl (prog:gv)(w:ir)(x:Str)(t:Tok):(B7 prog w).is (.inr x) (.str x t)=true:=mV x t
inductive V where
 |non|bl (b:Bool)|int (i:Int)|str (x:Str)|byt (b:Array UInt8)|flt (b:UInt64)|ref (a:fg)|ty (n:String)
 deriving DecidableEq
def A9:V->fv->Prop
 |.non,u=>u=qw
 |.bl b,u=>u=BO b
 |.int i,u=>∃t,u=nv i t
 |.str x,u=>∃t,u=z7 x t
 |.byt b,u=>∃t,u=JB b t
 |.flt b,u=>∃t,u=EJ b t
 |.ref a,u=>u=je a
 |.ty n,u=>u=m9 n
abbrev Av:List V->Za3->Prop:=CT A9
theorem Av.length (r:Av xs us):xs.length=us.length:=HR r
theorem Av.get:∀{xs:List V} {us:Za3} {i:Nat} {x:V},Av xs us->xs[i]?=some x->∃u,us[i]?=some u/\A9 x u
 |_,_,_,_,.nil,e=>by simp at e
 |_,_,0,_,.cons r _,e=>by simp at e;subst e;exact⟨_,rfl,r⟩
 |_,_,i+1,x,.cons _ t,e=>by
  obtain⟨u,h1,h2⟩:=Av.get (i:=i) (x:=x) t (by simpa using e);exact⟨u,by simpa using h1,h2⟩
theorem Av.set {x:V}{u:fv}(r:A9 x u):∀{xs:List V} {us:Za3} (i:Nat),Av xs us->Av (xs.set i x) (us.set i u)
 |_,_,_,.nil=>.nil
 |_,_,0,.cons _ t=>.cons r t
 |_,_,i+1,.cons q t=>.cons q (Av.set r i t)
theorem Av.append:∀{xs ys:List V} {us ws:Za3},Av xs us->Av ys ws->Av (xs++ys) (us++ws)
 |_,_,_,_,.nil,s=>s
 |_,_,_,_,.cons r t,s=>.cons r (Av.append t s)
theorem Av.take:∀{xs:List V} {us:Za3} (n:Nat),Av xs us->Av (xs.take n) (us.take n)
 |_,_,0,_=>.nil
 |_,_,_+1,.nil=>.nil
 |_,_,n+1,.cons r t=>.cons r (Av.take n t)
theorem Av.drop:∀{xs:List V} {us:Za3} (n:Nat),Av xs us->Av (xs.drop n) (us.drop n)
 |_,_,0,r=>r
 |_,_,_+1,.nil=>.nil
 |_,_,n+1,.cons _ t=>Av.drop n t
def L7:Option V->Za7->Prop
 |some v,some u=>A9 v u
 |none,none=>True
 |_,_=>False
def KV {κ:Type}:List (κ×V)->List (κ×fv)->Prop:=CT λ(p:κ×V) (q:κ×fv)=>p.1=q.1/\A9 p.2 q.2
def kV:Key->V
 |.inl i=>.int i
 |.inr x=>.str x
inductive HO where
  |lst (xs:List V)
  |tup (xs:List V)
  |dK (kvs:List (Key×V))|dT (kvs:List (List Key×V))
  |set (S:Int->Bool) (n:Nat)
  |ins (C dx:fg) (fs:List (Str×V))
  |own (x:fg)
  |xd (fs:List (Str×V))
  |met (f x:fg)
  |rng (lo hi:Int)
  |frz (o:Obj) (u:HO)
  |tbl (ps:Array fv)
  |ext (φ:jo->Prop)
abbrev Hp:=fg->Option HO
def upd (H:Hp)(a:fg)(o:HO):Hp:=λb=>if b=a then some o else H b
theorem Ac {H:Hp}{a:fg}{o:HO}:upd H a o a=some o:=by unfold upd;rw[if_pos rfl]
theorem Ai {a b:fg}{o:HO}(h:b≠a):upd H a o b=H b:=by unfold upd;rw[if_neg h]
theorem lH {a:fg}{o u:HO}:upd (upd H a o) a u=upd H a u:=by
 funext b;unfold upd;split<;>rfl
theorem Ee {a b:fg}{o u:HO}(h:H a=some o)(h':H b=some u)(d:o≠u):a≠b:=by
 intro e;subst e;rw[h] at h';exact d (fq h')
theorem Al {a b:fg}{o:HO}(h:H a=some o)(h':H b=none):a≠b:=by
 intro e;subst e;rw[h] at h';cases h'
section
variable (P:gv) (w:ir)
def Bp (H:Hp)(h:jo)(a:fg):HO->Prop
 |.lst xs=>xs.length<=sizeLine/\∃(its:Za3) (n:Nat),Av xs its/\h.get? a=some { cls:=.type "list",data:=.seq its.toArray n }
 |.tup xs=>xs.length<=sizeLine/\∃its:Za3,Av xs its/\IsTup h a its.toArray
 |.dK kvs=>kvs.length<=sizeLine/\(a==sysModules)=false/\∃vs,KV kvs vs/\h.DictOf (B7 P w) a vs
 |.dT kvs=>kvs.length<=sizeLine/\(a==sysModules)=false/\∃xs:List (List Key×fg×fv),
   CT (λ(p:List Key×V) (q:List Key×fg×fv)=>p.1=q.1/\H q.2.1=some (.tup (p.1.map kV))/\A9 p.2 q.2.2) kvs xs /\
   ∃o es ep,h.get? a=some o/\o.ExactDict/\o.data=.dict es ep/\es.toList=xs.map (entryOfKey (tupleKind (B7 P w)))/\(xs.map (·.1)).Nodup
 |.set S n=>h.SetOf (intKind P w) a S n
 |.ins C dx fs=>H dx=some (.own a)/\fs.length<=1000/\dx≠a/\h.get? a=some (instObj C dx) /\
   ∃mA,h.Ns1 dx mA/\(∀f,L7 (fs.lookup f) (mA f))/\DQ mA (fs.map (·.1))
 |.own _=>∃o,h.get? a=some o
 |.xd fs=>∃mA,h.Ns1 a mA/\∀f,L7 (fs.lookup f) (mA f)
 |.rng lo hi=>∃t u v,h.get? a=some { cls:=.type "range",data:=.fields #[.int lo t,.int hi u,.int 1 v] }
 |.frz o u=>h.get? a=some o/\Bp H h a u
 |.tbl ps=>h.get? a=some { cls:=.none,data:=.fields ps }
 |.met f x=>h.get? a=some (y3 (.ref f) (.ref x))
 |.ext φ=>φ h/\(∃o,h.get? a=some o)/\∀h1 h2:jo,φ h1->(∀o,h1.get? a=some o->h2.get? a=some o)->φ h2
def HOk (H:Hp)(h:jo):Prop:=∀a o,H a=some o->Bp P w H h a o
end
section
variable {P:gv} {w:ir} {H H':Hp} {h h':jo} {a:fg} {o:HO}
theorem Bp.lt (x:Bp P w H h a o):a<h.objs.size:=by
 cases o with
 |lst xs=>obtain⟨_,_,_,_,e⟩:=x;exact gh e
 |tup xs=>obtain⟨_,_,_,p⟩:=x;exact p.lt
 |dK kvs=>obtain⟨_,_,_,_,o,_,_,e,_⟩:=x;exact gh e
 |dT kvs=>obtain⟨_,_,_,_,o,_,_,e,_⟩:=x;exact gh e
 |set S n=>obtain⟨o,_,_,_,e,_⟩:=x;exact gh e
 |ins C dx fs=>obtain⟨_,_,_,e,_⟩:=x;exact gh e
 |own y=>obtain⟨_,e⟩:=x;exact gh e
 |xd fs=>obtain⟨_,⟨_,_,_,e,_⟩,_⟩:=x;exact gh e
 |rng lo hi=>obtain⟨_,_,_,e⟩:=x;exact gh e
 |frz ob u=>obtain⟨e,_⟩:=x;exact gh e
 |tbl ps=>exact gh (show h.get? a=some _ from x)
 |met f y=>exact gh (show h.get? a=some _ from x)
 |ext φ=>obtain⟨_,⟨_,e⟩,_⟩:=x;exact gh e
theorem CT.mapP {α β:Type}{F G:α->β->Prop}:∀{XL:List α} {XM:List β},CT F XL XM->(∀a b,F a b->G a b)->CT G XL XM
 |_,_,.nil,_=>.nil
 |_,_,.cons r t,f=>.cons (f _ _ r) (CT.mapP t f)
theorem Bp.stay (x:Bp P w H h a o)(k:∀b u,(b=a\/H b=some (.own a))->h.get? b=some u->h'.get? b=some u)
  (ho:∀b,H b=some (.own a)->H' b=some (.own a))(ht:∀b xs,H b=some (.tup xs)->H' b=some (.tup xs)):Bp P w H' h' a o:=by
 induction o with
 |lst xs=>obtain⟨z,its,n,r,e⟩:=x;exact⟨z,its,n,r,k _ _ (.inl rfl) e⟩
 |tup xs=>obtain⟨z,its,r,ob,e,c⟩:=x;exact⟨z,its,r,ob,k _ _ (.inl rfl) e,c⟩
 |dK kvs=>obtain⟨z,y,vs,r,ob,es,ep,e,c⟩:=x;exact⟨z,y,vs,r,ob,es,ep,k _ _ (.inl rfl) e,c⟩
 |dT kvs=>
  obtain⟨z,y,xs,r,ob,es,ep,e,c⟩:=x;exact⟨z,y,xs,CT.mapP r λp q z=>⟨z.1,ht _ _ z.2.1,z.2.2⟩,ob,es,ep,k _ _ (.inl rfl) e,c⟩
 |set S n=>obtain⟨ob,es,ep,t,e,c⟩:=x;exact⟨ob,es,ep,t,k _ _ (.inl rfl) e,c⟩
 |ins C dx fs=>
  obtain⟨d,z,ne,e,mA,⟨od,es,ep,e2,c⟩,r⟩:=x;exact⟨ho _ d,z,ne,k _ _ (.inl rfl) e,mA,⟨od,es,ep,k _ _ (.inr d) e2,c⟩,r⟩
 |own y=>obtain⟨ob,e⟩:=x;exact⟨ob,k _ _ (.inl rfl) e⟩
 |xd fs=>obtain⟨mA,⟨od,es,ep,e,c⟩,r⟩:=x;exact⟨mA,⟨od,es,ep,k _ _ (.inl rfl) e,c⟩,r⟩
 |rng lo hi=>obtain⟨t,u,v,e⟩:=x;exact⟨t,u,v,k _ _ (.inl rfl) e⟩
 |frz ob u ih=>obtain⟨e,q⟩:=x;exact⟨k _ _ (.inl rfl) e,ih q⟩
 |tbl ps=>
  have e:h.get? a=some { cls:=.none,data:=.fields ps }:=x;show h'.get? a=some { cls:=.none,data:=.fields ps };exact k a _ (.inl rfl) e
 |met f y=>
  have e:h.get? a=some (y3 (.ref f) (.ref y)):=x;show h'.get? a=some (y3 (.ref f) (.ref y));exact k a _ (.inl rfl) e
 |ext φ=>obtain⟨p,⟨o,e⟩,st⟩:=x;exact⟨st _ _ p λo q=>k _ _ (.inl rfl) q,⟨o,k _ _ (.inl rfl) e⟩,st⟩
theorem HOk.lt (x:HOk P w H h)(e:H a=some o):a<h.objs.size:=(x a o e).lt
theorem HOk.fresh (x:HOk P w H h)(e:h.objs.size<=a):H a=none:=by
 cases q:H a with
 |none=>rfl
 |some u=>exact absurd (gi (x.lt q) e) (p8 _)
theorem HOk.kept (x:HOk P w H h)(k:∀b u,h.get? b=some u->h'.get? b=some u):HOk P w H h':=λa o e=>
 (x a o e).stay (λb u _ q=>k b u q) (λ_ q=>q) λ_ _ q=>q
theorem HOk.laid (x:HOk P w H h)(k:∀b u,h.get? b=some u->h'.get? b=some u)(hp:h.objs.size<=a)(new:Bp P w (upd H a o) h' a o):HOk P w (upd H a o) h':=λb u e=>by
 have hn:=x.fresh hp
 by_cases hb:b=a
 ·subst hb;rw[Ac] at e;cases e;exact new
 ·rw[Ai hb] at e
  exact(x b u e).stay (λc v _ q=>k c v q) (λc q=>by rw[Ai (Al q hn)];exact q) λc xs q=>by rw[Ai (Al q hn)];exact q
end
def Rd (H:Hp)(a:fg)(u:HO):Prop:=H a=some u\/∃o,H a=some (.frz o u)
theorem Rd.ok {P:gv}{a:fg}{u:HO}(r:Rd H a u)(x:HOk P w H h):Bp P w H h a u:=by
 rcases r with r|⟨o,r⟩
 ·exact x a u r
 ·obtain⟨_,q⟩:=x a _ r
  exact q
def Mut:Option HO->Prop
 |some (.lst _)=>True
 |some (.dK _)=>True
 |some (.dT _)=>True
 |some (.set _ _)=>True
 |some (.ins _ _ _)=>True
 |some (.ext _)=>True
 |_=>False
section
variable {P:gv} {w:ir} {H:Hp} {h h':jo} {x e:fg} {o':HO}
theorem HOk.write (ok:HOk P w H h)(mu:Mut (H x))(he:e=x\/H e=some (.own x))(k:∀b u,b≠e->h.get? b=some u->h'.get? b=some u)(heo:∃u,h'.get? e=some u)
  (new:Bp P w (upd H x o') h' x o'):HOk P w (upd H x o') h':=λb u q=>by
 have nown:∀c y,H c=some (.own y)->c≠x:=λc y r z=>by subst z;rw[r] at mu;exact mu
 have ntup:∀c xs,H c=some (.tup xs)->c≠x:=λc xs r z=>by subst z;rw[r] at mu;exact mu
 by_cases hb:b=x
 ·subst hb;rw[Ac] at q;cases q;exact new
 ·rw[Ai hb] at q
  by_cases hbe:b=e
  ·have q':H b=some (.own x):=by
    rcases he with z|z
    ·exact absurd (hbe.trans z) hb
    ·rw[hbe];exact z
   rw[q] at q';cases q';obtain⟨v,hv⟩:=heo;exact⟨v,by rw[hbe];exact hv⟩
  ·refine(ok b u q).stay (λc v hc r=>k c v ?_ r) (λc r=>by rw[Ai (nown c b r)];exact r) λc xs r=>by rw[Ai (ntup c xs r)];exact r
   rcases hc with rfl|hc
   ·exact hbe
   ·rintro rfl
    rcases he with z|z
    ·exact nown c b hc z
    ·rw[hc] at z;cases z;exact hb rfl
end
structure Un (fs ex:List fg) (H H':Hp) (h h':jo):Prop where
 keep:∀b o,h.get? b=some o->H b=none->b∉fs->b∉ex->h'.get? b=some o
 slot:∀b o,h.get? b=some o->H b=none->b∈fs->b∉ex->∃sl,h'.get? b=some { o with slots:=sl }
 free:∀b o,h.get? b=some o->H b=none->b∉ex->H' b=none
 there:∀b o,h.get? b=some o->b∉ex->∃o',h'.get? b=some o'
 tups:∀b xs,H b=some (.tup xs)->H' b=some (.tup xs)
 frzs:∀b o u,H b=some (.frz o u)->H' b=some (.frz o u)
 tbls:∀b ps,H b=some (.tbl ps)->∃more,H' b=some (.tbl (ps++more))
section
variable {fs fs' ex ex':List fg} {H H1 H2:Hp} {h h1 h2 h':jo} {a x e:fg} {o:HO}
theorem Un.any (u:Un fs ex H H1 h h1){b:fg}{ob:Obj}(q:h.get? b=some ob)(n:H b=none)(hx:b∉ex):∃sl,h1.get? b=some { ob with slots:=sl }:=by
 by_cases hb:b∈fs
 ·exact u.slot b ob q n hb hx
 ·exact⟨ob.slots,u.keep b ob q n hb hx⟩
theorem Un.trans (a:Un fs ex H H1 h h1)(b:Un fs ex H1 H2 h1 h2):Un fs ex H H2 h h2 where
 keep:=λc ob q n hc hx=>b.keep c ob (a.keep c ob q n hc hx) (a.free c ob q n hx) hc hx
 slot:=λc ob q n hc hx=>by
  obtain⟨sl,e1⟩:=a.slot c ob q n hc hx;obtain⟨sl',e2⟩:=b.slot c _ e1 (a.free c ob q n hx) hc hx;exact⟨sl',e2⟩
 free:=λc ob q n hx=>by
  obtain⟨o',e1⟩:=a.there c ob q hx;exact b.free c o' e1 (a.free c ob q n hx) hx
 there:=λc ob q hx=>by
  obtain⟨o',e1⟩:=a.there c ob q hx;exact b.there c o' e1 hx
 tups:=λc xs q=>b.tups c xs (a.tups c xs q)
 frzs:=λc ob xs q=>b.frzs c ob xs (a.frzs c ob xs q)
 tbls:=λc ps q=>by
  obtain⟨m1,e1⟩:=a.tbls c ps q;obtain⟨m2,e2⟩:=b.tbls c _ e1;exact⟨m1++m2,by rw[e2,zd]⟩
theorem Un.kept (k:∀b u,h.get? b=some u->h'.get? b=some u):Un fs ex H H h h':=
 ⟨λb ob q _ _ _=>k b ob q,λb ob q _ _ _=>⟨ob.slots,k b ob q⟩,λ_ _ _ n _=>n,λb ob q _=>⟨ob,k b ob q⟩,λ_ _ q=>q,λ_ _ _ q=>q,λ_ ps q=>⟨#[],by rw[q];simp⟩⟩
theorem Un.refl:Un fs ex H H h h:=Un.kept λ_ _ q=>q
theorem Un.laid (k:∀b u,h.get? b=some u->h'.get? b=some u)(hp:h.objs.size<=a)(hn:H a=none):Un fs ex H (upd H a o) h h' where
 keep:=λb u q _ _ _=>k b u q
 slot:=λb u q _ _ _=>⟨u.slots,k b u q⟩
 free:=λb u q n _=>by rw[Ai (ig (gi (gh q) hp))];exact n
 there:=λb u q _=>⟨u,k b u q⟩
 tups:=λb xs q=>by rw[Ai (Al q hn)];exact q
 frzs:=λb u xs q=>by rw[Ai (Al q hn)];exact q
 tbls:=λb ps q=>⟨#[],by rw[Ai (Al q hn),q];simp⟩
theorem Un.write (mu:Mut (H x))(he:e=x\/H e=some (.own x))(k:∀b u,b≠e->h.get? b=some u->h'.get? b=some u)(heo:∃u,h'.get? e=some u):Un fs ex H (upd H x o) h h':=by
 have hx:∀b,H b=none->b≠x:=λb n z=>by subst z;rw[n] at mu;exact mu
 have hb:∀b,H b=none->b≠e:=λb n z=>by
  subst z;rcases he with r|r
  ·exact hx b n r
  ·rw[n] at r;cases r
 have hm:∀b u,H b=some u->¬ Mut (some u)->b≠x:=λb u q nm z=>by subst z;rw[q] at mu;exact nm mu
 refine⟨λb u q n _ _=>k b u (hb b n) q,λb u q n _ _=>⟨u.slots,k b u (hb b n) q⟩,λb u q n _=>by rw[Ai (hx b n)];exact n,λb u q _=>?_,
  λb xs q=>by rw[Ai (hm b _ q λz=>z)];exact q,λb u xs q=>by rw[Ai (hm b _ q λz=>z)];exact q,λb ps q=>⟨#[],by rw[Ai (hm b _ q λz=>z),q];simp⟩⟩
 by_cases hbe:b=e
 ·subst hbe;exact heo
 ·exact⟨u,k b u hbe q⟩
end
def trk (h:jo)(H:Hp):List fg:=(gp h.objs.size).filter λa=>(H a).isSome
def Xd (h:jo)(H:Hp):jo:=hideAll h (trk h H)
theorem oO (h:jo)(H:Hp):(Xd h H).objs.size=h.objs.size:=PySem.W.hideAll_size _ _
theorem Tv {b:fg}{o:Obj}(e:h.get? b=some o)(n:H b=none):(Xd h H).get? b=some o:=
 yj _ e λhm=>by
  have q:(H b).isSome=true:=(yc.mp hm).2;rw[n] at q;simp at q
theorem wS {b:fg}{o:Obj}(e:(Xd h H).get? b=some o):h.get? b=some o/\H b=none:=by
 have e':h.get? b=some o:=AV (trk h H) e;refine⟨e',?_⟩
 cases q:H b with
 |none=>rfl
 |some x=>
  have hm:b∈trk h H:=yc.mpr ⟨kh.mpr (gh e'),by simp[q]⟩;have z:(Xd h H).get? b=none:=DT (trk h H) hm;rw[z] at e;cases e
structure Mod (K:eh) (mg:Za2) (base:jo):Prop where
 kin:K.In base
 glob:base.Ns mainGlobals mg
 blt:∃mb,base.Ns builtinsNs mb/\∀x:Str,x≠"__name__"->mb x=bootBuiltins x
 nolimit:base.NoLimit
structure Cx where
 prog:gv
 w:ir
 K:eh
 mg:Za2
 base:jo
 A:ji
 N:Za6
 mt:fw
 QP:Hp
 env:Env
 outer:List Env
 stack:List Env
 ex:List fg
 fn:Str->Bool
 calm:Bool
 pn:Za1
 xe:Za0
def frs (l:List Env):List fg:=l.filterMap (·.frame)
abbrev Cx.fs (X:Cx):List fg:=frs X.outer
def Vis (sc:ol)(x:Str):Prop:=sc.names.lookup x=some .local\/sc.names.lookup x=some .cell\/sc.names.lookup x=some .free
def Loc (sc:ol)(x:Str):Prop:=sc.names.lookup x=some .local\/sc.names.lookup x=some .cell
def Afw (env:Env)(h:jo)(m:Za2)(x:Str)(u:fv):Prop:=
 (env.kindOf x=some .local/\m x=some u)\/((env.kindOf x=some .cell\/env.kindOf x=some .free)/\∃c,env.cells.lookup x=some c/\h.IsCell c (some u))
structure Cx.Ok (X:Cx):Prop where
 mod:Mod X.K X.mg X.base
 kind:X.env.scope.kind=.function
 glob:X.env.globals=mainGlobals
 blt:X.env.builtins=builtinsNs
 above:X.mt.heap.objs.size<=X.env.locals
 inj:∀x y c,X.env.cells.lookup x=some c->X.env.cells.lookup y=some c->x=y
 has:∀x,(X.env.kindOf x=some .cell\/X.env.kindOf x=some .free)->∃c,X.env.cells.lookup x=some c
 cab:∀x c,X.fn x=true->X.env.cells.lookup x=some c->X.mt.heap.objs.size<=c
 hd:X.calm=true->X.A.handled=none
 frames:X.A.frames=some X.stack
 stk:X.stack=X.outer\/(X.stack=X.env::X.outer/\X.env.frame=some X.env.locals)
 exf:∀b∈X.ex,b≠X.env.locals/\∀x c,X.env.cells.lookup x=some c->c≠b
 bs:∀b o,X.base.get? b=some o->X.mt.heap.get? b=some o/\X.QP b=none
 bsz:X.base.objs.size<=X.mt.heap.objs.size
 noex:∀b o,X.base.get? b=some o->b∉X.ex
 exfs:∀b∈X.ex,b∉X.fs
 funs:X.mt.heap.FunFrames X.base X.outer
 frf:∀b∈X.fs,X.QP b=none
structure Inv (X:Cx) (pins:Za1) (G:List (Option V)) (H:Hp) (s:fw):Prop where
 ok:X.Ok
 os:s.os=X.mt.os
 bare:ww s.gens
 base:Un X.fs X.ex X.QP H X.mt.heap s.heap
 loc:∃m,s.heap.Ns X.env.locals m/\∀(i:Nat) (x:Str) (v:V),X.N[i]?=some x->G[i]?=some (some v)->Vis X.env.scope x->∃u,A9 v u/\Afw X.env s.heap m x u
 cell:∀x c,X.env.cells.lookup x=some c->∃v,s.heap.IsCell c v
 free:H X.env.locals=none
 freeC:∀x c,X.env.cells.lookup x=some c->H c=none
 pin:∀p∈X.pn++pins,s.heap.get? p.1=some p.2/\H p.1=none/\p.1≠X.env.locals/\p.1∉X.fs/\∀v,p.2.data≠.cell v
 hok:HOk X.prog X.w H s.heap
 len:G.length=X.N.length
section
variable {X:Cx} {pins:Za1} {G:List (Option V)} {H H':Hp} {s:fw} {h':jo}
theorem Cx.Ok.nofr (ok:X.Ok){b:fg}{o:Obj}(e:X.base.get? b=some o):b∉X.fs:=λhb=>by
 have:=(ok.funs.mem hb).1;rw[e] at this;cases this
theorem Inv.bs (I:Inv X pins G H s):∀b o,X.base.get? b=some o->s.heap.get? b=some o/\H b=none:=λb o e=>
 ⟨I.base.keep b o (I.ok.bs b o e).1 (I.ok.bs b o e).2 (I.ok.nofr e) (I.ok.noex b o e),I.base.free b o (I.ok.bs b o e).1 (I.ok.bs b o e).2 (I.ok.noex b o e)⟩
theorem Inv.bk (I:Inv X pins G H s):∀b o,X.base.get? b=some o->s.heap.get? b=some o:=λb o e=>(I.bs b o e).1
theorem Inv.mod (I:Inv X pins G H s):Mod X.K X.mg X.base:=I.ok.mod
theorem Inv.kIn (I:Inv X pins G H s):X.K.In s.heap:=I.ok.mod.kin.keeps I.bk
theorem Inv.fr (I:Inv X pins G H s):∃m,Fr X.base X.env.locals s.heap m:=
 let ⟨m,hn,_⟩:=I.loc
 ⟨m,hn,I.bk,io I.ok.bsz I.ok.above⟩
theorem Inv.lt (I:Inv X pins G H s):X.env.locals<s.heap.objs.size:=let ⟨_,hn,_⟩:=I.loc;hn.lt
theorem Inv.sz (I:Inv X pins G H s):X.mt.heap.objs.size<=s.heap.objs.size:=io I.ok.above (jx I.lt)
theorem Inv.nofs (I:Inv X pins G H s){a:fg}(h:s.heap.objs.size<=a):a∉X.fs:=λhb=>by
 obtain⟨_,o,ho,_⟩:=I.ok.funs.mem hb;exact absurd (gi (gh ho) (io I.sz h)) (p8 _)
theorem Inv.cne (I:Inv X pins G H s):∀x c,X.env.cells.lookup x=some c->c≠X.env.locals:=λx c e z=>by
 obtain⟨v,o,ho,hd⟩:=I.cell x c e;obtain⟨m,⟨o',es,ep,ho',hd',_⟩,_⟩:=I.loc;rw[z,ho'] at ho;cases ho;rw[hd'] at hd;cases hd
theorem Inv.funs (I:Inv X pins G H s):s.heap.FunFrames X.base X.outer:=by
 have all:∀(l:List Env),(∀b∈frs l,b∈X.fs)->X.mt.heap.FunFrames X.base l->s.heap.FunFrames X.base l:=by
  intro l
  induction l with
  |nil=>intro _ _;trivial
  |cons env r ih=>
   intro hs hl;obtain⟨hk,⟨L,o,hf,hn,ho,hd⟩,hr⟩:=hl;have hL:L∈X.fs:=hs L (by unfold frs;rw[nj,hf];exact il);obtain⟨sl,e⟩:=I.base.slot L o ho (I.ok.frf L hL) hL λz=>I.ok.exfs L z hL;exact⟨hk,⟨L,_,hf,hn,e,hd⟩,ih (λb hb=>hs b (by unfold frs;rw[nj,hf];exact gz _ hb)) hr⟩
 exact all X.outer (λ_ hb=>hb) I.ok.funs
theorem Inv.stack (I:Inv X pins G H s):s.heap.FunFrames X.base X.stack:=by
 rcases I.ok.stk with e|⟨e,hf⟩
 ·rw[e];exact I.funs
 ·rw[e]
  obtain⟨m,hn,_⟩:=I.loc;refine .cons (by rw[I.ok.kind];decide) hf hn ?_ I.funs;exact vm (io I.ok.bsz I.ok.above)
theorem Inv.stkSub (I:Inv X pins G H s):∀b∈frs X.stack,b∈X.env.locals::X.fs:=λb hb=>by
 rcases I.ok.stk with e|⟨e,hf⟩
 ·rw[e] at hb;exact gz _ hb
 ·rw[e] at hb
  unfold frs at hb;rw[nj,hf] at hb;exact hb
theorem Inv.stkFree (I:Inv X pins G H s):∀b∈frs X.stack,H b=none:=λb hb=>by
 rcases i9.mp (I.stkSub b hb) with e|hb
 ·rw[e];exact I.free
 ·obtain⟨_,o,ho,_⟩:=I.ok.funs.mem hb
  exact I.base.free b o ho (I.ok.frf b hb) λz=>I.ok.exfs b z hb
theorem Inv.step {g':Array HU}{d':Drawn}{ch:List fg}(I:Inv X pins G H s)
  (hch:∀b∈ch,(b∈X.ex\/X.mt.heap.objs.size<=b)/\b≠X.env.locals/\(∀x c,X.env.cells.lookup x=some c->c≠b)/\∀p∈X.pn++pins,p.1≠b)
  (keep:∀b o,b≠X.env.locals->b∉X.fs->b∉ch->s.heap.get? b=some o->H b=none->h'.get? b=some o)
  (slot:∀b o,b≠X.env.locals->b∈X.fs->b∉ch->s.heap.get? b=some o->H b=none->∃sl,h'.get? b=some { o with slots:=sl })(free:∀b o,b∉ch->s.heap.get? b=some o->H b=none->H' b=none)
  (there:∀b o,b∉ch->s.heap.get? b=some o->∃o',h'.get? b=some o')
  (tups:∀b xs,H b=some (.tup xs)->H' b=some (.tup xs))(frzs:∀b o u,H b=some (.frz o u)->H' b=some (.frz o u))(tbls:∀b ps,H b=some (.tbl ps)->∃more,H' b=some (.tbl (ps++more)))
  (ns:∀m,s.heap.Ns X.env.locals m->h'.Ns X.env.locals m)(hok:HOk X.prog X.w H' h')(hg:ww g') :
  Inv X pins G H' { s with heap:=h',gens:=g',drawn:=d',toks:=t' }:=by
 have neL:∀b o,X.mt.heap.get? b=some o->b≠X.env.locals:=λb o e=>ig (gi (gh e) I.ok.above);have neC:∀b o,X.mt.heap.get? b=some o->b∉X.ex->b∉ch:=λb o e hx hb=>by
  rcases(hch b hb).1 with z|z
  ·exact hx z
  ·exact absurd (gi (gh e) z) (p8 _)
 have cellK:∀x c,X.env.cells.lookup x=some c->∀v,s.heap.IsCell c v->h'.IsCell c v:=λx c e v ⟨o,ho,hd⟩=>by
  have nch:c∉ch:=λz=>(hch c z).2.2.1 x c e rfl
  by_cases hc:c∈X.fs
  ·obtain⟨sl,q⟩:=slot c o (I.cne x c e) hc nch ho (I.freeC x c e)
   exact⟨_,q,hd⟩
  ·exact⟨o,keep c o (I.cne x c e) hc nch ho (I.freeC x c e),hd⟩
 refine⟨I.ok,I.os,hg,⟨λb o e n hb hx=>?_,λb o e n hb hx=>?_,λb o e n hx=>?_,λb o e hx=>?_,λb xs e=>tups b xs (I.base.tups b xs e),λb o xs e=>frzs b o xs (I.base.frzs b o xs e),λb ps e=>?_⟩,?_,λx c e=>?_,?_,λx c e=>?_,λp hp=>?_,hok,I.len⟩
 ·exact keep b o (neL b o e) hb (neC b o e hx) (I.base.keep b o e n hb hx) (I.base.free b o e n hx)
 ·obtain⟨sl,e1⟩:=I.base.slot b o e n hb hx
  obtain⟨sl',e2⟩:=slot b _ (neL b o e) hb (neC b o e hx) e1 (I.base.free b o e n hx);exact⟨sl',e2⟩
 ·obtain⟨o',e1⟩:=I.base.there b o e hx
  exact free b o' (neC b o e hx) e1 (I.base.free b o e n hx)
 ·obtain⟨o',e1⟩:=I.base.there b o e hx
  exact there b o' (neC b o e hx) e1
 ·obtain⟨m1,e1⟩:=I.base.tbls b ps e
  obtain⟨m2,e2⟩:=tbls b _ e1;exact⟨m1++m2,by rw[e2,zd]⟩
 ·obtain⟨m,hn,hl⟩:=I.loc
  refine⟨m,ns m hn,λi x v e1 e2 e3=>?_⟩;obtain⟨u,r,l⟩:=hl i x v e1 e2 e3;refine⟨u,r,?_⟩;rcases l with l|⟨k,c,e,z⟩
  ·exact .inl l
  ·exact .inr ⟨k,c,e,cellK x c e _ z⟩
 ·obtain⟨v,z⟩:=I.cell x c e
  exact⟨v,cellK x c e v z⟩
 ·obtain⟨m,⟨o,_,_,ho,_⟩,_⟩:=I.loc
  exact free _ o (λz=>(hch _ z).2.1 rfl) ho I.free
 ·obtain⟨v,o,ho,hd⟩:=I.cell x c e
  exact free c o (λz=>(hch c z).2.2.1 x c e rfl) ho (I.freeC x c e)
 ·obtain⟨e,n,ne,nf,d⟩:=I.pin p hp
  have nch:p.1∉ch:=λz=>(hch p.1 z).2.2.2 p hp rfl;exact⟨keep p.1 p.2 ne nf nch e n,free p.1 p.2 nch e n,ne,nf,d⟩
theorem Inv.un (I:Inv X pins G H s)(u:Un X.fs [] H H' s.heap h')(hok:HOk X.prog X.w H' h'):Inv X pins G H' { s with heap:=h',toks:=t' }:=by
 obtain⟨m,⟨o,es,ep,ho,r⟩,_⟩:=id I.loc;obtain⟨sl,hL⟩:=u.any ho I.free (by simp);exact I.step (g':=s.gens) (d':=s.drawn) (ch:=[]) (λ_ z=>nomatch z) (λb o _ hb _ e n=>u.keep b o e n hb (by simp)) (λb o _ hb _ e n=>u.slot b o e n hb (by simp)) (λb o _ e n=>u.free b o e n (by simp)) (λb o _ e=>u.there b o e (by simp)) u.tups u.frzs u.tbls (λm' hm=>by
  obtain⟨o',es',ep',ho',r'⟩:=hm;rw[ho] at ho';cases ho';exact⟨_,es',ep',hL,r'⟩) hok I.bare
theorem Inv.call {g':Array HU}{d':Drawn}{ch:List fg}(I:Inv X pins G H s)(u:Un (frs X.stack) ch H H' s.heap h')(hok:HOk X.prog X.w H' h')(hg:ww g')
  (hch:∀b∈ch,(b∈X.ex\/X.mt.heap.objs.size<=b)/\b≠X.env.locals/\(∀x c,X.env.cells.lookup x=some c->c≠b)/\∀p∈X.pn++pins,p.1≠b) :
  Inv X pins G H' { s with heap:=h',gens:=g',drawn:=d',toks:=t' }:=by
 obtain⟨m,⟨o,es,ep,ho,r⟩,_⟩:=id I.loc;obtain⟨sl,hL⟩:=u.any ho I.free λz=>(hch _ z).2.1 rfl;exact I.step (ch:=ch) hch (λb o hL hb hc e n=>u.keep b o e n (λz=>(i9.mp (I.stkSub b z)).elim hL hb) hc) (λb o _ _ hc e n=>u.any e n hc) (λb o hc e n=>u.free b o e n hc) (λb o hc e=>u.there b o e hc) u.tups u.frzs u.tbls (λm' hm=>by
  obtain⟨o',es',ep',ho',r'⟩:=hm;rw[ho] at ho';cases ho';exact⟨_,es',ep',hL,r'⟩) hok hg
theorem Inv.turned (I:Inv X pins G H s)(k:∀b o,b≠it->s.heap.get? b=some o->h'.get? b=some o)(hn:H it=none)(hL:it≠X.env.locals)
  (h1:it∈X.ex\/X.mt.heap.objs.size<=it)(h2:∀x c,X.env.cells.lookup x=some c->c≠it)(h3:∀p∈X.pn++pins,p.1≠it):Inv X pins G H { s with heap:=h',toks:=t' }:=by
 have nit:∀b u,H b=some u->b≠it:=λb u e z=>by rw[z,hn] at e;cases e
 refine I.step (g':=s.gens) (d':=s.drawn) (ch:=[it]) (λb hb=>?_) (λb o _ _ hc e _=>k b o (λz=>hc (by simp[z])) e) (λb o _ _ hc e _=>⟨o.slots,k b o (λz=>hc (by simp[z])) e⟩) (λ_ _ _ _ n=>n)
  (λb o hc e=>⟨o,k b o (λz=>hc (by simp[z])) e⟩) (λ_ _ e=>e) (λ_ _ _ e=>e) (λb ps e=>⟨#[],by rw[e];simp⟩) (λm hm=>?_) (λb u e=>?_) I.bare
 ·have e:b=it:=by simpa using hb
  subst e;exact⟨h1,hL,h2,h3⟩
 ·obtain⟨o,es,ep,ho,r⟩:=hm
  exact⟨o,es,ep,k _ o (qh hL) ho,r⟩
 ·refine(I.hok b u e).stay (λc v hc q=>k c v ?_ q) (λ_ q=>q) λ_ _ q=>q
  rcases hc with z|z
  ·rw[z];exact nit b u e
  ·exact nit c _ z
theorem Inv.tok (I:Inv X pins G H s)(t:Nat):Inv X pins G H { s with toks:=t }:=I.un (h':=s.heap) (t':=t) Un.refl I.hok
theorem Inv.kept (I:Inv X pins G H s)(k:∀b u,s.heap.get? b=some u->h'.get? b=some u):Inv X pins G H { s with heap:=h',toks:=t' }:=I.un (Un.kept k) (I.hok.kept k)
theorem Inv.laid {a:fg}{o:HO}(I:Inv X pins G H s)(k:∀b u,s.heap.get? b=some u->h'.get? b=some u)(hp:s.heap.objs.size<=a)(new:Bp X.prog X.w (upd H a o) h' a o) :
  Inv X pins G (upd H a o) { s with heap:=h',toks:=t' }:=I.un (Un.laid k hp (I.hok.fresh hp)) (I.hok.laid k hp new)
theorem Inv.write {x e:fg}{o:HO}(I:Inv X pins G H s)(mu:Mut (H x))(he:e=x\/H e=some (.own x))(k:∀b u,b≠e->s.heap.get? b=some u->h'.get? b=some u)(heo:∃u,h'.get? e=some u)
  (new:Bp X.prog X.w (upd H x o) h' x o):Inv X pins G (upd H x o) { s with heap:=h',toks:=t' }:=I.un (Un.write mu he k heo) (I.hok.write mu he k heo new)
theorem Inv.weak {QM:List (Option V)}(I:Inv X pins G H s)(hl:QM.length=G.length)(w:∀(i:Nat) v,QM[i]?=some (some v)->G[i]?=some (some v)):Inv X pins QM H s:=
 ⟨I.ok,I.os,I.bare,I.base,let ⟨m,hn,hl'⟩:=I.loc;⟨m,hn,λi x v e1 e2 e3=>hl' i x v e1 (w i v e2) e3⟩,I.cell,I.free,I.freeC,I.pin,I.hok,hl.trans I.len⟩
theorem Inv.pins_of {pins':Za1}(I:Inv X pins G H s)(h:∀p∈pins',s.heap.get? p.1=some p.2/\H p.1=none/\p.1≠X.env.locals/\p.1∉X.fs/\∀v,p.2.data≠.cell v):Inv X pins' G H s:=
 ⟨I.ok,I.os,I.bare,I.base,I.loc,I.cell,I.free,I.freeC,λp hp=>(i5.mp hp).elim (λz=>I.pin p (n5 _ z)) (h p),I.hok,I.len⟩
theorem Sc (hN:N.Nodup){i j:Nat}{x:Str}(a:N[i]?=some x)(b:N[j]?=some x):i=j:=by
 obtain⟨h1,e1⟩:=ge.mp a;obtain⟨h2,e2⟩:=ge.mp b;exact(List.getElem_inj hN).mp (e1.trans e2.symm)
theorem nM {E:Za0}{i:Nat}{x:Str}{v:V}{u:fv}{Q:Unit->fw->Prop}(I:Inv X pins G H s)(hN:X.N.Nodup)(hi:X.N[i]?=some x)(hx:Loc X.env.scope x)(r:A9 v u)
  (h:∀s',Inv X pins (G.set i (some v)) H s'->(∃a,xq a s.heap s'.heap/\(a=X.env.locals\/X.env.cells.lookup x=some a))->Q () s')(hf:autoParam (X.fn x=true\/X.env.scope.names.lookup x=some .local) QH):wpAny M A (storeName X.env x u) Q E s:=by
 obtain⟨m,hn,hl⟩:=id I.loc;have hcls:(X.env.scope.kind==.class||(X.env.scope.kind==.module&&X.env.locals != X.env.globals))=false:=by rw[I.ok.kind];rfl
 have XE:i<G.length:=by rw[I.len];exact(ge.mp hi).1
 have cne:=I.cne;have tracked:∀{a:fg} {h':jo},(∃o,s.heap.get? a=some o/\H a=none)->xq a s.heap h'->HOk X.prog X.w H h':=λ{a h'} ha hs b ob e=>by
  obtain⟨_,_,hfree⟩:=ha;refine(I.hok b ob e).stay (λc w' hc q=>(hs.2 c ?_).trans q) (λ_ q=>q) λ_ _ q=>q;rintro rfl;rcases hc with rfl|hc
  ·rw[hfree] at e;cases e
  ·rw[hfree] at hc;cases hc
 rcases hx with hk|hk
 ·refine wpAny_storeName_local hk hn (λh' hn' hs=>?_) hcls
  obtain⟨oL,_,_,hoL,_⟩:=id hn;refine h _ ⟨I.ok,I.os,I.bare,⟨λb o e n hb hx=>?_,λb o e n hb hx=>?_,I.base.free,λb o e hx=>?_,I.base.tups,I.base.frzs,I.base.tbls⟩,⟨_,hn',λj y v' e1 e2 e3=>?_⟩,λy c e=>?_,I.free,I.freeC,λp hp=>?_,tracked ⟨oL,hoL,I.free⟩ hs,by simpa using I.len⟩ ⟨_,hs,.inl rfl⟩
  ·exact(hs.2 b (ig (gi (gh e) I.ok.above))).trans (I.base.keep b o e n hb hx)
  ·obtain⟨sl,e1⟩:=I.base.slot b o e n hb hx
   exact⟨sl,(hs.2 b (ig (gi (gh e) I.ok.above))).trans e1⟩
  ·obtain⟨o',e1⟩:=I.base.there b o e hx
   exact⟨o',(hs.2 b (ig (gi (gh e) I.ok.above))).trans e1⟩
  ·by_cases hj:j=i
   ·subst hj
    rw[hi] at e1;cases e1;rw[xp XE] at e2;cases e2;exact⟨u,r,.inl ⟨hk,by simp⟩⟩
   ·rw[yn (qh hj)] at e2
    obtain⟨u',r',q⟩:=hl j y v' e1 e2 e3;refine⟨u',r',?_⟩;rcases q with⟨k,e⟩|⟨k,c,e,z⟩
    ·refine .inl ⟨k,?_⟩
     have:y≠x:=λe=>hj (Sc hN e1 (e▸hi));simp[this,e]
    ·exact .inr ⟨k,c,e,z.sameBut hs (cne y c e)⟩
  ·obtain⟨w',z⟩:=I.cell y c e
   exact⟨w',z.sameBut hs (cne y c e)⟩
  ·obtain⟨e,n,ne,nf,d⟩:=I.pin p hp
   exact⟨(hs.2 p.1 ne).trans e,n,ne,nf,d⟩
 ·have hfn:X.fn x=true:=by
   rcases hf with z|z
   ·exact z
   ·rw[z] at hk;cases hk
  obtain⟨c,hc⟩:=I.ok.has x (.inl hk);obtain⟨w',z⟩:=I.cell x c hc;refine wpAny_storeName_cell I.ok.kind hk hc z (λh' hc' hs=>?_);obtain⟨oc,hoc,hocd⟩:=id z;refine h { s with heap:=h' } ⟨I.ok,I.os,I.bare,⟨λb o e n hb hx=>?_,λb o e n hb hx=>?_,I.base.free,λb o e hx=>?_,I.base.tups,I.base.frzs,I.base.tbls⟩,⟨m,hn.sameBut hs (qh (cne x c hc)),λj y v' e1 e2 e3=>?_⟩,λy c' e=>?_,I.free,I.freeC,λp hp=>?_,tracked ⟨oc,hoc,I.freeC x c hc⟩ hs,by simpa using I.len⟩ ⟨c,hs,.inr hc⟩
  ·exact(hs.2 b (ig (gi (gh e) (I.ok.cab x c hfn hc)))).trans (I.base.keep b o e n hb hx)
  ·obtain⟨sl,e1⟩:=I.base.slot b o e n hb hx
   exact⟨sl,(hs.2 b (ig (gi (gh e) (I.ok.cab x c hfn hc)))).trans e1⟩
  ·obtain⟨o',e1⟩:=I.base.there b o e hx
   exact⟨o',(hs.2 b (ig (gi (gh e) (I.ok.cab x c hfn hc)))).trans e1⟩
  ·by_cases hj:j=i
   ·subst hj
    rw[hi] at e1;cases e1;rw[xp XE] at e2;cases e2;exact⟨u,r,.inr ⟨.inl hk,c,hc,hc'⟩⟩
   ·rw[yn (qh hj)] at e2
    obtain⟨u',r',q⟩:=hl j y v' e1 e2 e3;refine⟨u',r',?_⟩;rcases q with q|⟨k,c',e,z'⟩
    ·exact .inl q
    ·refine .inr ⟨k,c',e,z'.sameBut hs ?_⟩
     rintro rfl;exact hj (Sc hN e1 (I.ok.inj _ _ _ e hc▸hi))
  ·by_cases hcc:c'=c
   ·subst hcc;exact⟨_,hc'⟩
   ·obtain⟨w2,z2⟩:=I.cell y c' e
    exact⟨w2,z2.sameBut hs hcc⟩
  ·obtain⟨e,n,ne,nf,d⟩:=I.pin p hp
   refine⟨(hs.2 p.1 ?_).trans e,n,ne,nf,d⟩;intro q;rw[q,hoc] at e;have q':oc=p.2:=fq e;exact d w' (by rw[<-q'];exact hocd)
theorem N6 {E:Za0}{i:Nat}{x:Str}{v:V}{u:fv}{Q:Unit->fw->Prop}(I:Inv X pins G H s)(hN:X.N.Nodup)(hi:X.N[i]?=some x)(hx:Loc X.env.scope x)(r:A9 v u)
  (h:∀s',Inv X pins (G.set i (some v)) H s'->Q () s')(hf:autoParam (X.fn x=true\/X.env.scope.names.lookup x=some .local) QH):wpAny M A (storeName X.env x u) Q E s:=
 nM I hN hi hx r (λs' I' _=>h s' I') hf
theorem Inv.call' {s':fw}{ch:List fg}(I:Inv X pins G H s)(ho:s'.os=s.os)(u:Un (frs X.stack) ch H H' s.heap s'.heap)(hok:HOk X.prog X.w H' s'.heap)(hg:ww s'.gens)
  (hch:∀b∈ch,(b∈X.ex\/X.mt.heap.objs.size<=b)/\b≠X.env.locals/\(∀x c,X.env.cells.lookup x=some c->c≠b)/\∀p∈X.pn++pins,p.1≠b):Inv X pins G H' s':=by
 obtain⟨h',g',d',t',o'⟩:=s';have e:o'=s.os:=ho;subst e;exact I.call (g':=g') (t':=t') (d':=d') u hok hg hch
end
abbrev XK:=fv->Option fg->Hp->Prop
abbrev St:=List (Option V)
abbrev VK:=V->Hp->Prop
abbrev TE:=St->Hp->VK->Prop
abbrev TT:=St->Hp->(Bool->Hp->Prop)->Prop
abbrev TA:=St->Hp->(List V->Hp->Prop)->Prop
structure Iw where
 nx:St->Hp->Prop
 rt:VK
 bk:St->Hp->Prop:=λ_ _=>False
 ct:St->Hp->Prop:=λ_ _=>False
abbrev TS:=Iw->St->Hp->Prop
def EP (X:Cx)(pins:Za1)(G:St)(Q:VK)(u:fv)(s':fw):Prop:=∃v H',Inv X pins G H' s'/\A9 v u/\Q v H'
def TP (X:Cx)(pins:Za1)(G:St)(Q:Bool->Hp->Prop)(b:Bool)(s':fw):Prop:=∃H',Inv X pins G H' s'/\Q b H'
def AP (X:Cx)(pins:Za1)(G:St)(Q:List V->Hp->Prop)(us:Za3)(s':fw):Prop:=∃vs H',Inv X pins G H' s'/\Av vs us/\Q vs H'
def SP (X:Cx)(pins:Za1)(D:Iw)(f:Flow)(s':fw):Prop:=
 match f with
 |.next=>∃QM H',Inv X pins QM H' s'/\D.nx QM H'
 |.brk=>∃QM H',Inv X pins QM H' s'/\D.bk QM H'
 |.cont=>∃QM H',Inv X pins QM H' s'/\D.ct QM H'
 |.ret u=>∃v QM H',Inv X pins QM H' s'/\A9 v u/\D.rt v H'
def PE (X:Cx)(e:jc)(t:TE):Prop:=
 ∀(pins:Za1) (s:fw) (G:St) (H:Hp) (Q:VK),Inv X pins G H s->t G H Q->wpAny (model X.prog X.w) X.A (eval e X.env) (EP X pins G Q) X.xe s
def PT (X:Cx)(e:jc)(t:TT):Prop:=
 ∀(pins:Za1) (s:fw) (G:St) (H:Hp) (Q:Bool->Hp->Prop),Inv X pins G H s->t G H Q->wpAny (model X.prog X.w) X.A (isTrue e X.env (eval e X.env)) (TP X pins G Q) X.xe s
def PW (X:Cx)(e:jc)(t:TT):Prop:=
 ∀(whole:Sem fv) (pins:Za1) (s:fw) (G:St) (H:Hp) (Q:Bool->Hp->Prop),Inv X pins G H s->t G H Q->wpAny (model X.prog X.w) X.A (isTrue e X.env whole) (TP X pins G Q) X.xe s
theorem PW.pt {e:jc}{t:TT}(h:PW X e t):PT X e t:=h _
def PA (X:Cx)(es:List jc)(t:TA):Prop:=
 ∀(pos:Pos) (pins:Za1) (s:fw) (G:St) (H:Hp) (Q:List V->Hp->Prop),Inv X pins G H s->t G H Q->wpAny (model X.prog X.w) X.A (spliced (backTo pos (starEach es X.env))) (AP X pins G Q) X.xe s
def PS (X:Cx)(st:jr)(t:TS):Prop:=
 ∀(pins:Za1) (s:fw) (G:St) (H:Hp) (D:Iw),Inv X pins G H s->t D G H->wpAny (model X.prog X.w) X.A (exec st X.env) (SP X pins D) X.xe s
def PSs (X:Cx)(st:List jr)(t:TS):Prop:=
 ∀(pins:Za1) (s:fw) (G:St) (H:Hp) (D:Iw),Inv X pins G H s->t D G H->wpAny (model X.prog X.w) X.A (execs st X.env) (SP X pins D) X.xe s
theorem thn {α:Type}{t:Sem α}{Q Q':α->fw->Prop}{E:Za0}(h:wpAny M A t Q E s)(hQ:∀a s,Q a s->Q' a s):wpAny M A t Q' E s:=wpAny_mono h hQ λ_ _ x=>x
theorem thE {G:St}{e:jc}{t:TE}{Q:VK}{Q':Za0}(he:PE X e t)(I:Inv X pins G H s)(h:t G H Q)(k:∀u s1 x H1,Inv X pins G H1 s1->A9 x u->Q x H1->Q' u s1):wpAny (model X.prog X.w) X.A (eval e X.env) Q' X.xe s:=thn (he pins s G H Q I h) λu s1 ⟨x,H1,a,b,c⟩=>k u s1 x H1 a b c
theorem thA {G:St}{e:List jc}{t:TA}{Q:List V->Hp->Prop}{Q':Za3->fw->Prop}(he:PA X e t)(I:Inv X pins G H s)(h:t G H Q)(k:∀u s1 x H1,Inv X pins G H1 s1->Av x u->Q x H1->Q' u s1):wpAny (model X.prog X.w) X.A (spliced (backTo pos (starEach e X.env))) Q' X.xe s:=thn (he pos pins s G H Q I h) λu s1 ⟨x,H1,a,b,c⟩=>k u s1 x H1 a b c
section
variable {X:Cx}
theorem bin {a b:jc}{ta tb:TE}(ha:PE X a ta)(hb:PE X b tb){G:St}{R:V->V->Hp->Prop}(I:Inv X pins G H s)(h:ta G H λx H1=>tb G H1 λy H2=>R x y H2)
  {α:Type}{Q:α->fw->Prop}{f:fv->fv->Sem α}
  (hf:∀v u s2 x y H2,Inv X pins G H2 s2->A9 x v->A9 y u->R x y H2->wpAny (model X.prog X.w) X.A (f v u) Q X.xe s2) :
  wpAny (model X.prog X.w) X.A (eval a X.env) (λv QN=>wpAny (model X.prog X.w) X.A (eval b X.env) (λu QR=>wpAny (model X.prog X.w) X.A (f v u) Q X.xe QR) X.xe QN) X.xe s:=by
 refine thE ha I h λv s1 x H1 I1 r1 q1=>?_;refine thE hb I1 q1 λu s2 y H2 I2 r2 q2=>?_;exact hf v u s2 x y H2 I2 r1 r2 q2
def yB (i:Nat):TE:=λG H Q=>∃v,G[i]?=some (some v)/\Q v H
def tC (v:V):TE:=λ_ H Q=>Q v H
theorem vF {i:Nat}{x:Str}(hN:X.N[i]?=some x)(hv:Vis X.env.scope x)(hd:autoParam ((x==("__debug__":Str))=false) QF)(hcd:autoParam ((x==("__classdict__":Str))=false) QF):PE X (.Name x pos) (yB i):=by
 k_in;obtain⟨v,e,h⟩:=h;obtain⟨m,hn,hl⟩:=I.loc;obtain⟨u,r,l⟩:=hl i x v hN e hv;have fin:EP X pins G Q u s:=⟨v,H,I,r,h⟩;rcases l with⟨hk,hm⟩|⟨hk,c,hc,hcell⟩
 ·exact AU (zl I.ok.kind hk hn hm fin) hd
 ·rcases hk with hk|hk
  ·exact AU (HX I.ok.kind hk hc hcell fin) hd
  ·exact AU (HW I.ok.kind hk hc hcell fin hcd) hd
theorem Ad {i j pos}:PE X (.Constant (.int i) j pos) (tC (.int i)):=λ_ _ _ H _ I h=>wpAny_Constant_int ⟨.int i,H,I.tok _,⟨_,rfl⟩,h⟩
theorem Fd {b j pos}:PE X (.Constant (.bool b) j pos) (tC (.bl b)):=λ_ _ _ H _ I h=>Constant_bool ⟨.bl b,H,I,rfl,h⟩
theorem Gw {j pos}:PE X (.Constant .none j pos) (tC .non):=λ_ _ _ H _ I h=>FN ⟨.non,H,I,rfl,h⟩
theorem Ar {x j pos}:PE X (.Constant (.str x) j pos) (tC (.str x)):=λ_ _ _ H _ I h=>FO ⟨.str x,H,I.tok _,⟨_,rfl⟩,h⟩
def Gl (X:Cx)(x:Str):Prop:=X.env.kindOf x=some .globalImplicit
theorem F3 {E:Za0}{G:St}{x:Str}{u:fv}{Q:Za0}(I:Inv X pins G H s)(hg:Gl X x)(hm:X.mg x=some u)(h:Q u s)
  (hd:autoParam ((x==("__debug__":Str))=false) QF):wpAny (model X.prog X.w) X.A (eval (.Name x pos) X.env) Q E s:=
 BW I.ok.kind hg (Calls.loadGlobal_global (by rw[I.ok.glob];exact I.mod.glob.keeps I.bk) hm h) hd
theorem Fv {E:Za0}{G:St}{x:Str}{u:fv}{Q:Za0}(I:Inv X pins G H s)(hg:Gl X x)(hm:X.mg x=none)(hv:bootBuiltins x=some u)(h:Q u s)
  (hn:autoParam (x≠"__name__") QF)(hd:autoParam ((x==("__debug__":Str))=false) QF):wpAny (model X.prog X.w) X.A (eval (.Name x pos) X.env) Q E s:=by
 obtain⟨mb,h1,h2⟩:=I.mod.blt;exact BW I.ok.kind hg (Calls.loadGlobal_builtin (by rw[I.ok.glob];exact I.mod.glob.keeps I.bk) hm (by rw[I.ok.blt];exact h1.keeps I.bk) ((h2 x hn).trans hv) h) hd
theorem Ce {x:Str}{v:V}{u:fv}(hg:Gl X x)(hm:X.mg x=some u)(r:A9 v u)(hd:autoParam ((x==("__debug__":Str))=false) QF):PE X (.Name x pos) (tC v):=
 λ_ _ _ H _ I h=>F3 I hg hm ⟨v,H,I,r,h⟩ hd
theorem Hu {x:Str}{v:V}{u:fv}(hg:Gl X x)(hm:X.mg x=none)(hv:bootBuiltins x=some u)(r:A9 v u)(hn:autoParam (x≠"__name__") QF)(hd:autoParam ((x==("__debug__":Str))=false) QF):PE X (.Name x pos) (tC v):=
 λ_ _ _ H _ I h=>Fv I hg hm hv ⟨v,H,I,r,h⟩ hn hd
variable {a b:jc} {ta tb:TE} {pos:Pos}
def PC (X:Cx)(op:yx)(a b:jc)(t:TE):Prop:=
 ∀(pins:Za1) (s:fw) (G:St) (H:Hp) (Q:VK),Inv X pins G H s->t G H Q ->
  wpAny (model X.prog X.w) X.A (eval a X.env) (λv QN=>wpAny (model X.prog X.w) X.A (eval b X.env) (λu QR=>wpAny (model X.prog X.w) X.A (compareOp op v u) (EP X pins G Q) X.xe QR) X.xe QN) X.xe s
theorem qW (b:jc)(h:op≠.In)(h2:op≠.NotIn):behindInMarks op b=false:=by
 have e1:(op==MQ)=false:=by cases op<;>first|rfl|exact absurd rfl h
 have e2:(op==JI)=false:=by cases op<;>first|rfl|exact absurd rfl h2
 cases b<;>simp[behindInMarks,e1,e2]
def Ady (ta:TE):TE:=λG H Q=>ta G H λx H1=>Q (.bl (decide (x=.non))) H1
def zB (ta:TE):TE:=λG H Q=>ta G H λx H1=>Q (.bl (!decide (x=.non))) H1
theorem A9.none_iff {x:V}{v:fv}(r:A9 x v):(v==qw)=decide (x=.non):=by
 cases x with
 |non=>cases r;rfl
 |bl _=>cases r;rfl
 |int _=>obtain⟨t,rfl⟩:=r;rfl
 |str _=>obtain⟨t,rfl⟩:=r;rfl
 |byt _=>obtain⟨t,rfl⟩:=r;rfl
 |flt _=>obtain⟨t,rfl⟩:=r;rfl
 |ref _=>cases r;rfl
 |ty _=>cases r;rfl
theorem Aap {j pos'}(ha:PE X a ta):PC X .Is a (.Constant .none j pos') (Ady ta):=by
 k_in;refine thE ha I h λv s1 x H1 I1 r1 q1=>?_;exact FN (is_none_gen ⟨.bl _,H1,I1,by rw[r1.none_iff];rfl,q1⟩)
theorem xZ {j pos'}(ha:PE X a ta):PC X .IsNot a (.Constant .none j pos') (zB ta):=by
 k_in;refine thE ha I h λv s1 x H1 I1 r1 q1=>?_;exact FN (isnot_none_gen ⟨.bl _,H1,I1,by rw[r1.none_iff];rfl,q1⟩)
def tB (t:TE):TT:=λG H Q=>t G H λx H1=>∃c,x=.bl c/\Q c H1
theorem tN {t:TE}(h:PC X op a b t)(h1:behindInMarks op b=false:=by first|exact qW _ (by decide) (by decide)|rfl):PT X (.Compare a [op] [b] pos) (tB t):=by
 intro pins s G H Q I hw;refine wpAny_isTrue_Compare1 (thn (h pins s G H _ I hw) λv s1 h1=>thn h1 λu s2 h2=>thn h2 λc s3 ⟨x,H1,I1,r1,q1⟩=>?_) h1;obtain⟨d,rfl,q⟩:=q1;cases r1;exact p9 ⟨H1,I1,q⟩
theorem Cw {e:jc}{t:TE}(h:PE X e t)(he:autoParam (∀whole,isTrue e X.env whole=(do let v <-whole;standAt e.pos;holding [v] (truthy v))) QJ):PT X e (tB t):=by
 intro pins s G H Q I hw;refine isTrue_plain (thE h I hw λv s1 x H1 I1 r1 q1=>?_) (he _);obtain⟨d,rfl,q⟩:=q1;cases r1;exact p9 ⟨H1,I1,q⟩
variable {tA tB':TT} {Fj:List jc}
def Adn (t u:TT):TT:=λG H Q=>t G H λc H1=>if c=true then u G H1 Q else Q false H1
def tOr (t u:TT):TT:=λG H Q=>t G H λc H1=>if c=true then Q true H1 else u G H1 Q
def Ad4 (t:TT):TT:=λG H Q=>t G H λc H1=>Q (!c) H1
theorem Jy (ha:PT X a tA):PW X (.BoolOp .And [a] pos) tA:=by
 intro wh pins s G H Q I h;refine isTrue_and (thn (ha pins s G H Q I h) λc s1 e=>?_)
 cases c with
 |true=>exact isTrue_and_nil e
 |false=>exact e
theorem Mm (ha:PT X a tA):PW X (.BoolOp .Or [a] pos) tA:=by
 intro wh pins s G H Q I h;refine isTrue_or (thn (ha pins s G H Q I h) λc s1 e=>?_)
 cases c with
 |false=>exact isTrue_or_nil e
 |true=>exact e
theorem My (ha:PT X a tA)(hb:PW X (.BoolOp .And (b::Fj) pos) tB'):PW X (.BoolOp .And (a::b::Fj) pos) (Adn tA tB'):=by
 intro wh pins s G H Q I h;refine isTrue_and (thn (ha pins s G H _ I h) λc s1 ⟨H1,I1,q1⟩=>?_)
 cases c with
 |true=>exact hb wh pins s1 G H1 Q I1 q1
 |false=>exact⟨H1,I1,q1⟩
theorem Nm (ha:PT X a tA)(hb:PW X (.BoolOp .Or (b::Fj) pos) tB'):PW X (.BoolOp .Or (a::b::Fj) pos) (tOr tA tB'):=by
 intro wh pins s G H Q I h;refine isTrue_or (thn (ha pins s G H _ I h) λc s1 ⟨H1,I1,q1⟩=>?_)
 cases c with
 |true=>exact⟨H1,I1,q1⟩
 |false=>exact hb wh pins s1 G H1 Q I1 q1
theorem E8 (ha:PT X a tA):PT X (.UnaryOp .Not a pos) (Ad4 tA):=by
 k_in;exact isTrue_not (ha pins s G H (λc H1=>Q (!c) H1) I h)
def zF (ta tb:TE):TE:=λG H Q=>ta G H λx H1=>∃c,x=.bl c/\if c=true then tb G H1 Q else Q (.bl false) H1
def Aae (ta:TE):TE:=λG H Q=>ta G H λx H1=>∃c,x=.bl c/\Q (.bl (!c)) H1
theorem vL {op}{t:TE}(h:PE X a t):PE X (.BoolOp op [a] pos) t:=λpins s G H Q I hw=>BoolOp_one (h pins s G H Q I hw)
theorem sM (ha:PE X a ta)(hb:PE X (.BoolOp .And (b::Fj) pos) tb):PE X (.BoolOp .And (a::b::Fj) pos) (zF ta tb):=by
 k_in;refine BoolOp_and (thE ha I h λv s1 x H1 I1 r1 q1=>?_);obtain⟨c,rfl,q1⟩:=q1;cases r1;refine p9 ?_
 cases c with
 |true=>exact hb pins s1 G H1 Q I1 q1
 |false=>exact⟨.bl false,H1,I1,rfl,q1⟩
theorem Abv (ha:PE X a ta):PE X (.UnaryOp .Not a pos) (Aae ta):=by
 k_in;refine UnaryOp_ (thE ha I h λv s1 x H1 I1 r1 q1=>?_);obtain⟨c,rfl,q1⟩:=q1;cases r1;exact not_of (p9 ⟨.bl (!c),H1,I1,rfl,q1⟩)
def tIf (t:TT)(ta tb:TE):TE:=λG H Q=>t G H λc H1=>if c=true then ta G H1 Q else tb G H1 Q
theorem Gk {c:jc}(hc:PT X c tA)(ha:PE X a ta)(hb:PE X b tb):PE X (.IfExp c a b pos) (tIf tA ta tb):=by
 k_in;refine wpAny_IfExp (thn (hc pins s G H _ I h) λd s1 ⟨H1,I1,q1⟩=>?_)
 cases d with
 |true=>exact ha pins s1 G H1 Q I1 q1
 |false=>exact hb pins s1 G H1 Q I1 q1
end
def SqL (K:eh)(H:Hp)(a:fg)(xs:List V):Prop:=
 Rd H a (.lst xs) \/
  ∃(o:Obj) (its:Array fv) (n:Nat),K.lookup a=some o/\o.cls=.type "list"/\o.dict=none/\o.data=.seq its n/\its.size<=sizeLine/\Av xs its.toList
def SqT (K:eh)(H:Hp)(a:fg)(xs:List V):Prop:=
 Rd H a (.tup xs) \/
  ∃(o:Obj) (its:Array fv) (n:Nat),K.lookup a=some o/\o.cls=.type "tuple"/\o.data=.seq its n/\its.size<=sizeLine/\Av xs its.toList
def Afo:fv->Option V
 |.none=>some .non
 |.bool b=>some (.bl b)
 |.int i _=>some (.int i)
 |.str x _=>some (.str x)
 |.bytes b _=>some (.byt b)
 |.float b _=>some (.flt b)
 |.ref a=>some (.ref a)
 |.type n=>some (.ty n)
 |_=>none
theorem A9.abs {x:V}{u:fv}(r:A9 x u):Afo u=some x:=by
 cases x with
 |non=>cases r;rfl
 |bl _=>cases r;rfl
 |int _=>obtain⟨t,rfl⟩:=r;rfl
 |str _=>obtain⟨t,rfl⟩:=r;rfl
 |byt _=>obtain⟨t,rfl⟩:=r;rfl
 |flt _=>obtain⟨t,rfl⟩:=r;rfl
 |ref _=>cases r;rfl
 |ty _=>cases r;rfl
theorem A9.inj {x:V}{u:fv}(r:A9 x u)(q:A9 y u):x=y:=fq (r.abs.symm.trans q.abs)
theorem Av.inj:∀{xs ys:List V} {us:Za3},Av xs us->Av ys us->xs=ys
 |_,_,_,.nil,.nil=>rfl
 |_,_,_,.cons r t,.cons r' t'=>by rw[r.inj r',Av.inj t t']
section
variable {X:Cx} {pins:Za1} {G:St} {H:Hp} {s:fw} {a:fg} {xs ys:List V}
theorem SqL.of {K:eh}(h:H a=some (.lst xs)):SqL K H a xs:=.inl (.inl h)
theorem SqT.of {K:eh}(h:H a=some (.tup xs)):SqT K H a xs:=.inl (.inl h)
theorem Inv.list (I:Inv X pins G H s)(h:SqL X.K H a xs):∃its:Za3,Av xs its/\PlainL s.heap a its.toArray/\xs.length<=sizeLine:=by
 rcases h with h|⟨o,its,n,hk,hc,hd,hs,hz,r⟩
 ·obtain⟨z,its,n,r,e⟩:=h.ok I.hok
  exact⟨its,r,⟨_,n,e,rfl,rfl,rfl⟩,z⟩
 ·refine⟨its.toList,r,⟨o,n,I.kIn a o hk,hc,hd,by simpa using hs⟩,?_⟩
  have e:=r.length;simp only[gj] at e;lia
theorem Inv.tuple (I:Inv X pins G H s)(h:SqT X.K H a xs):∃its:Za3,Av xs its/\IsTup s.heap a its.toArray/\xs.length<=sizeLine:=by
 rcases h with h|⟨o,its,n,hk,hc,hs,hz,r⟩
 ·obtain⟨z,its,r,p⟩:=h.ok I.hok
  exact⟨its,r,p,z⟩
 ·refine⟨its.toList,r,⟨o,I.kIn a o hk,hc,n,by simpa using hs⟩,?_⟩
  have e:=r.length;simp only[gj] at e;lia
theorem Inv.list_inj (I:Inv X pins G H s)(h:SqL X.K H a xs)(h':SqL X.K H a ys):xs=ys:=by
 obtain⟨its,r,⟨o,n,e,_,_,d⟩,_⟩:=I.list h;obtain⟨its',r',⟨o',n',e',_,_,d'⟩,_⟩:=I.list h';rw[e] at e';cases e';rw[d] at d'
 injection d' with d1 _
 have:its=its':=by simpa using congrArg IU d1
 subst this;exact r.inj r'
theorem Inv.tuple_inj (I:Inv X pins G H s)(h:SqT X.K H a xs)(h':SqT X.K H a ys):xs=ys:=by
 obtain⟨its,r,⟨o,e,_,n,d⟩,_⟩:=I.tuple h;obtain⟨its',r',⟨o',e',_,n',d'⟩,_⟩:=I.tuple h';rw[e] at e';cases e';rw[d] at d'
 injection d' with d1 _
 have:its=its':=by simpa using congrArg IU d1
 subst this;exact r.inj r'
end
abbrev Cx.wish (X:Cx)(E:Za0):Cx:={ X with xe:=E }
abbrev Cx.nox (X:Cx):Cx:=X.wish λ_ _=>False
theorem Cx.Ok.wish (ok:X.Ok)(E:Za0):(X.wish E).Ok:=
 ⟨ok.mod,ok.kind,ok.glob,ok.blt,ok.above,ok.inj,ok.has,ok.cab,ok.hd,ok.frames,ok.stk,ok.exf,ok.bs,ok.bsz,ok.noex,ok.exfs,ok.funs,ok.frf⟩
theorem Cx.Ok.unwish {E:Za0}(ok:(X.wish E).Ok):X.Ok:=
 ⟨ok.mod,ok.kind,ok.glob,ok.blt,ok.above,ok.inj,ok.has,ok.cab,ok.hd,ok.frames,ok.stk,ok.exf,ok.bs,ok.bsz,ok.noex,ok.exfs,ok.funs,ok.frf⟩
section
variable {X:Cx} {pins:Za1} {G:St} {H:Hp} {s:fw} {E:Za0}
theorem Inv.wish (I:Inv X pins G H s)(E:Za0):Inv (X.wish E) pins G H s:=⟨I.ok.wish E,I.os,I.bare,I.base,I.loc,I.cell,I.free,I.freeC,I.pin,I.hok,I.len⟩
theorem Inv.unwish (I:Inv (X.wish E) pins G H s):Inv X pins G H s:=⟨I.ok.unwish,I.os,I.bare,I.base,I.loc,I.cell,I.free,I.freeC,I.pin,I.hok,I.len⟩
theorem SP.unwish {D:Iw}{f:Flow}{s':fw}(h:SP (X.wish E) pins D f s'):SP X pins D f s':=by
 cases f with
 |next=>obtain⟨QM,H',I,q⟩:=h;exact⟨QM,H',I.unwish,q⟩
 |brk=>obtain⟨QM,H',I,q⟩:=h;exact⟨QM,H',I.unwish,q⟩
 |cont=>obtain⟨QM,H',I,q⟩:=h;exact⟨QM,H',I.unwish,q⟩
 |ret u=>obtain⟨v,QM,H',I,r,q⟩:=h;exact⟨v,QM,H',I.unwish,r,q⟩
theorem PSs.nox {st:List jr}{t:TS}(h:PSs X.nox st t):PSs X st t:=λpins s G H D I hw=>
 wpAny_mono (h pins s G H D (I.wish _) hw) (λ_ _ q=>q.unwish) λ_ _ z=>l5 z
end
section
variable {X:Cx} {st:jr} {Fj:List jr} {t u:TS} {e:jc} {te:TE} {pos:Pos}
def zM:TS:=λD G H=>D.nx G H
def Ab0 (t u:TS):TS:=λD G H=>t { D with nx:=u D } G H
theorem Ax:PSs X [] zM:=λ_ _ G H _ I h=>tm ⟨G,H,I,h⟩
theorem Ab (h1:PS X st t)(h2:PSs X Fj u):PSs X (st::Fj) (Ab0 t u):=by
 k_end;refine wpAny_execs_cons (thn (h1 pins s G H { D with nx:=u D } I h) λf s1 q=>?_)
 cases f with
 |next=>
  obtain⟨QM,H',I',q⟩:=q;exact h2 pins s1 QM H' D I' q
 |ret v=>exact q
 |brk=>exact q
 |cont=>exact q
theorem Af (h1:PS X st t):PSs X [st] t:=by
 k_end;refine wpAny_execs_cons (thn (h1 pins s G H D I h) λf s1 q=>?_)
 cases f with
 |next=>exact tm q
 |ret v=>exact q
 |brk=>exact q
 |cont=>exact q
theorem Inv.quiet {G:St}(I:Inv X pins G H s):interactive X.env=false:=by simp[interactive,I.ok.kind]
def pG (te:TE):TS:=λD G H=>te G H λ_ H1=>D.nx G H1
theorem Be (he:PE X e te)(hs:autoParam (swapsWith e none pos.line X.env=pure false) QD):PS X (.Expr e pos) (pG te):=by
 k_end;exact wpAny_Expr_any (thE he I h λv s1 x H1 I1 r1 q1=>⟨G,H1,I1,q1⟩) I.quiet hs
def Aes (te:TE):TS:=λD G H=>te G H D.rt
theorem An (he:PE X e te):PS X (.Return (some e) pos) (Aes te):=by
 k_end;exact wpAny_Return_some (thE he I h λv s1 x H1 I1 r1 q1=>⟨x,G,H1,I1,r1,q1⟩)
def Acs (c:TT)(t u:TS):TS:=λD G H=>c G H λb H1=>if b=true then t D G H1 else u D G H1
theorem Bt {c:jc}{a b:List jr}{tc:TT}(hc:PT X c tc)(ha:PSs X a t)(hb:PSs X b u):PS X (.If c a b pos) (Acs tc t u):=by
 k_end;refine wpAny_If (thn (hc pins s G H _ I h) λd s1 ⟨H1,I1,q1⟩=>?_)
 cases d with
 |true=>exact ha pins s1 G H1 D I1 q1
 |false=>exact hb pins s1 G H1 D I1 q1
def Abl:TS:=λ_ _ _=>False
theorem Bq:PS X st Abl:=λ_ _ _ _ _ _ h=>h.elim
end
abbrev TG:=V->St->Hp->(St->Hp->Prop)->Prop
abbrev TGs:=List V->St->Hp->(St->Hp->Prop)->Prop
def PG (X:Cx)(target:jc)(t:TG):Prop:=
 ∀(pins:Za1) (s:fw) (G:St) (H:Hp) (v:V) (u:fv) (Q:St->Hp->Prop),Inv X pins G H s->A9 v u->t v G H Q ->
  wpAny (model X.prog X.w) X.A (assign target X.env u) (λ_ s'=>∃QM H',Inv X pins QM H' s'/\Q QM H') X.xe s
def PGs (X:Cx)(ts:List jc)(t:TGs):Prop:=
 ∀(pins:Za1) (s:fw) (G:St) (H:Hp) (vs:List V) (us:Za3) (Q:St->Hp->Prop),Inv X pins G H s->Av vs us->t vs G H Q ->
  wpAny (model X.prog X.w) X.A (assignInOrder ((assignEach ts X.env).map (·.2)) us) (λ_ s'=>∃QM H',Inv X pins QM H' s'/\Q QM H') X.xe s
abbrev Zq:=V->V->V->Hp->(Hp->Prop)->Prop
def xQ (X:Cx)(t:Zq):Prop:=
 ∀(pins:Za1) (s:fw) (G:St) (H:Hp) (o i v:V) (ov iv u:fv) (Q:Hp->Prop),Inv X pins G H s->A9 o ov->A9 i iv->A9 v u->t o i v H Q ->
  wpAny (model X.prog X.w) X.A (setItem ov iv u) (λ_ s'=>∃H',Inv X pins G H' s'/\Q H') X.xe s
abbrev TIp:=V->V->Hp->VK->Prop
def PIp (X:Cx)(op:EM)(t:TIp):Prop:=
 ∀(pins:Za1) (s:fw) (G:St) (H:Hp) (x y:V) (v u:fv) (Q:VK),Inv X pins G H s->A9 x v->A9 y u->t x y H Q ->
  wpAny (model X.prog X.w) X.A (inplaceOp op v u) (EP X pins G Q) X.xe s
section
variable {X:Cx} {pos:Pos}
def Gm (i:Nat):TG:=λv G H Q=>Q (G.set i (some v)) H
theorem Lh {i:Nat}{x:Str}(hN:X.N.Nodup)(hi:X.N[i]?=some x)(hx:Loc X.env.scope x)(hf:autoParam (X.fn x=true\/X.env.scope.names.lookup x=some .local) QH):PG X (.Name x pos) (Gm i):=by
 intro pins s G H v u Q I r h;exact wpAny_assign_Name (N6 I hN hi hx r (λs' I'=>⟨_,H,I',h⟩) hf)
def yJ:TGs:=λvs G H Q=>vs=[]/\Q G H
def Ti (t:TG)(u:TGs):TGs:=λvs G H Q=>∃v r,vs=v::r/\t v G H λQM H'=>u r QM H' Q
theorem Nz:PGs X [] yJ:=by
 intro pins s G H vs us Q I r h;obtain⟨e,h⟩:=h;subst e;cases r;exact assignInOrder_nil ⟨G,H,I,h⟩
theorem Eh {e:jc}{t:TG}{u:TGs}(h1:PG X e t)(h2:PGs X es u)
  (hs:autoParam ((assignEach (e::es) X.env).map (·.2)=assign e X.env::(assignEach es X.env).map (·.2)) QD):PGs X (e::es) (Ti t u):=by
 intro pins s G H vs us Q I r h;obtain⟨v,vr,e1,h⟩:=h;subst e1
 cases r with
 |cons r rr=>
  rw[hs];refine assignInOrder_cons (thn (h1 pins s G H _ _ _ I r h) λ_ s1 ⟨XB,H1,I1,q1⟩=>?_);exact h2 pins s1 XB H1 _ _ Q I1 rr q1
def xF (K:eh)(n:Nat)(t:TGs):TG:=λv G H Q=>∃a xs,v=.ref a/\SqT K H a xs/\xs.length=n/\t xs G H Q
theorem R1 {k:Nat}{t:TGs}{n:Nat}(hc:X.calm=true)(h:PGs X es t)
  (hn:autoParam ((assignEach es X.env).length=n) QD)(hst:autoParam ((assignEach es X.env).findIdx? (·.1)=none) QD):PG X (.Tuple es k pos) (xF X.K n t):=by
 intro pins s G H v u Q I r hw;obtain⟨a,xs,e1,hq,hl,hw⟩:=hw;subst e1;cases r;obtain⟨its,rv,ht,hz⟩:=I.tuple hq;refine assign_Tuple_tuple (I.ok.hd hc) ht (by simp[hn,<-hl,rv.length]) hst λh' hx=>?_;have I1:Inv X pins G H { s with heap:=h' }:=I.kept (t':=s.toks) λb o e=>hx b o (ig (gh e)) e;exact h pins _ G H xs _ Q I1 (by simpa using rv) hw
def Aff (to ti:TE)(t:Zq):TG:=λv G H Q=>to G H λo H1=>ti G H1 λi H2=>t o i v H2 λH3=>Q G H3
theorem gQ {o i:jc}{ti:TE}{t:Zq}(ho:PE X o to)(hi:PE X i ti)(hs:xQ X t)
  (ha:autoParam (∀v,assign (.Subscript o i pos) X.env v=(do
   let ov <-holding [v] (eval o X.env)
   let iv <-holding [v,ov] (eval i X.env)
   standAt pos
   holding [v,ov,iv] (setItem ov iv v)
   release [v,ov,iv] [])) QJ):PG X (.Subscript o i pos) (Aff to ti t):=by
 intro pins s G H v u Q I r h;rw[ha];refine wpAny_bind (wpAny_holding (thE ho I h λov s1 x H1 I1 r1 q1=>?_));refine wpAny_bind (wpAny_holding (thE hi I1 q1 λiv s2 y H2 I2 r2 q2=>?_));refine wpAny_bind (qf (wpAny_bind (wpAny_holding (thn (hs pins s2 G H2 x y v ov iv u _ I2 r1 r2 r q2) λ_ s3 ⟨H3,I3,q3⟩=>?_))));exact wpAny_release ⟨G,H3,I3,q3⟩
def iR (te:TE)(g:TG):TS:=λD G H=>te G H λx H1=>g x G H1 D.nx
theorem fV {e:jc}{g:TG}(he:PE X e te)(hg:PG X tg g)(hs:autoParam (swapsWithSole [tg] e pos.line X.env=pure false) QD)(hw:autoParam (swappedStores [tg] e X.env=pure none) QD)
  (h1:autoParam ((assignEach [tg] X.env).map (·.2)=[assign tg X.env]) QD):PS X (.Assign [tg] e pos) (iR te g):=by
 k_end;refine wpAny_Assign_stores (thE he I h λv s1 x H1 I1 r1 q1=>?_) hs hw;rw[h1];exact thn (hg pins s1 G H1 x v _ I1 r1 q1) λ_ s2 q=>q
theorem Mv {i:Nat}{x:Str}{e:jc}{pos':Pos}(hN:X.N.Nodup)(hi:X.N[i]?=some x)(hx:Loc X.env.scope x)(he:PE X e te)(hs:autoParam (swapsWith e (some (.Name x pos')) pos.line X.env=pure false) QD)(hf:autoParam (X.fn x=true\/X.env.scope.names.lookup x=some .local) QH) :
  PS X (.Assign [.Name x pos'] e pos) (iR te (Gm i)):=by
 k_end;refine wpAny_Assign_Name (thE he I h λv s1 y H1 I1 r1 q1=>?_) hs;exact N6 I1 hN hi hx r1 (λs2 I2=>⟨_,H1,I2,q1⟩) hf
def Aal (i:Nat)(te:TE)(ti:TIp):TS:=λD G H=>∃x,G[i]?=some (some x)/\te G H λy H1=>ti x y H1 λz H2=>D.nx (G.set i (some z)) H2
theorem Acr {i:Nat}{x:Str}{e:jc}{op:EM}{ti:TIp}{pos':Pos}(hN:X.N.Nodup)(hi:X.N[i]?=some x)(hx:Loc X.env.scope x)(he:PE X e te)(ho:PIp X op ti)(hf:autoParam (X.fn x=true\/X.env.scope.names.lookup x=some .local) QH) :
  PS X (.AugAssign (.Name x pos') op e pos) (Aal i te ti):=by
 k_end;obtain⟨v,e1,h⟩:=h;obtain⟨m,hn,hl⟩:=I.loc;have vis:Vis X.env.scope x:=by rcases hx with k|k;exact .inl k;exact .inr (.inl k)
 obtain⟨u,r,l⟩:=hl i x v hi e1 vis;refine wpAny_AugAssign_Name ?_;have go:wpAny (model X.prog X.w) X.A (eval e X.env) (λw QR=>wpAny (model X.prog X.w) X.A (inplaceOp op u w) (λr QY=>wpAny (model X.prog X.w) X.A (storeName X.env x r) (λ_=>SP X pins D .next) X.xe QY) X.xe QR) X.xe s:=by
  refine thE he I h λw s1 y H1 I1 r1 q1=>?_;refine thn (ho pins s1 G H1 v y u w _ I1 r r1 q1) λz s2 ⟨zv,H2,I2,r2,q2⟩=>?_;exact N6 I2 hN hi hx r2 (λs3 I3=>⟨_,H2,I3,q2⟩) hf
 rcases l with⟨hk,hm⟩|⟨hk,c,hc,hcell⟩
 ·exact zl I.ok.kind hk hn hm go
 ·rcases hk with hk|hk
  ·exact HX I.ok.kind hk hc hcell go
  ·rcases hx with k|k
   ·have:X.env.scope.names.lookup x=some .free:=hk
    rw[k] at this;cases this
   ·have:X.env.scope.names.lookup x=some .free:=hk
    rw[k] at this;cases this
def zS (to ti te:TE)(tget:V->V->Hp->VK->Prop)(tip:TIp)(tset:Zq):TS:=λD G H=>to G H λo H1=>ti G H1 λi H2=>tget o i H2 λx H3=>te G H3 λy H4=>tip x y H4 λz H5=>tset o i z H5 λH6=>D.nx G H6
def Ac6 (X:Cx)(t:V->V->Hp->VK->Prop):Prop:=
 ∀(pins:Za1) (s:fw) (G:St) (H:Hp) (o i:V) (ov iv:fv) (Q:VK),Inv X pins G H s->A9 o ov->A9 i iv->t o i H Q ->
  wpAny (model X.prog X.w) X.A (getItem ov iv) (EP X pins G Q) X.xe s
theorem Vw {o i e:jc}{ti:TE}{tget:V->V->Hp->VK->Prop}{tip:TIp}{tset:Zq}{op:EM}{tpos:Pos}(ho:PE X o to)(hi:PE X i ti)(hg:Ac6 X tget)(he:PE X e te)(hp:PIp X op tip)(hs:xQ X tset)
  (ha:∀ov iv new,augStore i ov iv new=(do holding [new,ov,iv] (setItem ov iv new);release [new,ov,iv] [];pure .next):=by intros;rfl):PS X (.AugAssign (.Subscript o i tpos) op e pos) (zS to ti te tget tip tset):=by
 k_end;refine wpAny_AugAssign_SubscriptAny (thE ho I h λov s1 x1 H1 I1 r1 q1=>?_) ha;refine thE hi I1 q1 λiv s2 x2 H2 I2 r2 q2=>?_;refine thn (hg pins s2 G H2 x1 x2 ov iv _ I2 r1 r2 q2) λold s3 ⟨x3,H3,I3,r3,q3⟩=>?_;refine thE he I3 q3 λv s4 x4 H4 I4 r4 q4=>?_;refine thn (hp pins s4 G H4 x3 x4 old v _ I4 r3 r4 q4) λnew s5 ⟨x5,H5,I5,r5,q5⟩=>?_;exact thn (hs pins s5 G H5 x1 x2 x5 ov iv new _ I5 r1 r2 r5 q5) λ_ s6 ⟨H6,I6,q6⟩=>⟨G,H6,I6,q6⟩
def ipI (f:Int->Int->Int):TIp:=λx y H Q=>∃i j,x=.int i/\y=.int j/\Q (.int (f i j)) H
theorem Jl:PIp X .Add (ipI λi j=>i+j):=by
 intro pins s G H x y v u Q I r1 r2 h;obtain⟨i,j,e1,e2,q⟩:=h;subst e1;subst e2;obtain⟨t,rfl⟩:=r1;obtain⟨t',rfl⟩:=r2;exact iadd_int ⟨.int _,H,I.tok _,⟨_,rfl⟩,q⟩
theorem Xg:PIp X .Sub (ipI λi j=>i-j):=by
 intro pins s G H x y v u Q I r1 r2 h;obtain⟨i,j,e1,e2,q⟩:=h;subst e1;subst e2;obtain⟨t,rfl⟩:=r1;obtain⟨t',rfl⟩:=r2;exact isub_int ⟨.int _,H,I.tok _,⟨_,rfl⟩,q⟩
end
section
variable {X:Cx} {pos:Pos}
def qT (c:TT)(tb:TS):TS:=λD G H=>∃W:Nat->St->Hp->Prop,(∃m,W m G H)/\∀m G H,W m G H ->
 c G H λb H1=>if b=true then ∃N:St->Hp->Prop,(∀QM H',N QM H'->∃m',m'<m/\W m' QM H')/\tb { D with nx:=N,ct:=N,bk:=D.nx } G H1 else D.nx G H1
theorem Fh {c:jc}{body:List jr}{tc:TT}{tb:TS}(hp:PassesOwn (model X.prog X.w) X.A X.env X.xe)(hc:PT X c tc)(hb:PSs X body tb):PS X (.While c body [] pos) (qT tc tb):=by
 k_end;obtain⟨W,⟨m0,w0⟩,turn⟩:=h;refine wpAny_While (codeAny_whileLoop (λn s'=>∃QM H',Inv X pins QM H' s'/\W n QM H') ?_ m0 ⟨G,H,I,w0⟩);rintro n s1 ⟨XB,H1,I1,w1⟩;refine wpAny_passesOwn hp (thn (hc pins s1 XB H1 _ I1 (turn n XB H1 w1)) λb s2 ⟨H2,I2,q2⟩=>?_)
 cases b with
 |true=>
  obtain⟨N,hN,q2⟩:=q2;rw[if_pos rfl];refine wpAny_passesOwn hp (thn (hb pins s2 XB H2 _ I2 q2) λf s3 q3=>?_)
  cases f with
  |next=>
   obtain⟨QV,H3,I3,n3⟩:=q3;obtain⟨m',hm,w3⟩:=hN QV H3 n3;exact⟨m',hm,QV,H3,I3,w3⟩
  |cont=>
   obtain⟨QV,H3,I3,n3⟩:=q3;obtain⟨m',hm,w3⟩:=hN QV H3 n3;exact⟨m',hm,QV,H3,I3,w3⟩
  |brk=>exact q3
  |ret v=>exact q3
 |false=>
  rw[if_neg im];exact tm ⟨XB,H2,I2,q2⟩
end
structure It where
 go:Nat->Hp->Prop
 yld:Nat->Hp->V->Hp->Prop
 stop:Nat->Hp->Prop
def M3 (X:Cx)(pins:Za1)(H:Hp)(b:fg):Prop:=
 H b=none/\b≠X.env.locals/\b∉X.fs/\(b∈X.ex\/X.mt.heap.objs.size<=b)/\(∀x c,X.env.cells.lookup x=some c->c≠b)/\∀p∈X.pn++pins,p.1≠b
theorem Inv.fpOk {G:St}{b:fg}(I:Inv X pins G H s)(hb:s.heap.objs.size<=b)(hn:H' b=none):M3 X pins H' b:=by
 refine⟨hn,ue (gi I.lt hb),I.nofs hb,.inr (io I.sz hb),λx c e z=>?_,λp hp z=>?_⟩
 ·obtain⟨v,q⟩:=I.cell x c e
  exact absurd (gi q.lt (by rw[z];exact hb)) (p8 _)
 ·exact absurd (gi (gh (I.pin p hp).1) (by rw[z];exact hb)) (p8 _)
structure R9 (P:gv) (w:ir) (K:eh) (tg:jc) (J:It) (fp:List fg) (it:fg) (tn:Nat->jo->Prop):Prop where
 mem:it∈fp
 obj:∀i h,tn i h->∀b∈fp,∃o,h.get? b=some o/\∀v,o.data≠.cell v
 keep:∀i h h',tn i h->(∀b∈fp,∀o,h.get? b=some o->h'.get? b=some o)->tn i h'
 item:∀(X:Cx),X.prog=P->X.w=w->X.K=K->X.calm=true->∀(i:Nat) (pins:Za1) (s:fw) (G:St) (H:Hp) (E:Za0),Inv X pins G H s->(∀b∈fp,M3 X pins H b)->tn i s.heap->J.go i H ->
  wpAny (model P w) X.A (pyNext (.ref it)) (λr s1=>∃u,r=some u /\
   wpAny (model P w) X.A (letOwnedTupleGo tg (.ref it) u) (λ_ s2=>∃x H',Inv X pins G H' s2/\A9 x u/\J.yld i H x H'/\tn (i+1) s2.heap/\∀b∈fp,H' b=none) E s1) E s
 done:∀(X:Cx),X.prog=P->X.w=w->X.K=K->X.calm=true->∀(i:Nat) (pins:Za1) (s:fw) (G:St) (H:Hp) (E:Za0),Inv X pins G H s->(∀b∈fp,M3 X pins H b)->tn i s.heap->J.stop i H ->
  wpAny (model P w) X.A (pyNext (.ref it)) (λr s1=>r=none/\Inv X pins G H s1) E s
 self:∀(A:ji) (i:Nat) (s:fw) (Q:Za0) (E:Za0),tn i s.heap->Q (.ref it) s->wpAny (model P w) A (pyIter (.ref it)) Q E s
abbrev TI:=St->Hp->(It->Hp->Prop)->Prop
def PIE (X:Cx)(pins:Za1)(G:St)(tg:jc)(R:It->Hp->Prop)(itv:fv)(s2:fw):Prop:=
 ∃(it:fg) (fp:List fg) (tn:Nat->jo->Prop) (J:It) (H':Hp),itv=.ref it/\Inv X pins G H' s2/\R9 X.prog X.w X.K tg J fp it tn/\tn 0 s2.heap/\(∀b∈fp,M3 X pins H' b)/\R J H'
def PI (X:Cx)(tg iter:jc)(wi:TI):Prop:=
 ∀(pins:Za1) (s:fw) (G:St) (H:Hp) (R:It->Hp->Prop),Inv X pins G H s->wi G H R ->
  wpAny (model X.prog X.w) X.A (eval iter X.env) (λv s1=>wpAny (model X.prog X.w) X.A (pyIter v) (PIE X pins G tg R) X.xe s1) X.xe s
theorem kN {E:Za0}{u:fv}{o:Obj}{n:String}{vs:Array fv}{Q:Unit->fw->Prop}(ho:s.heap.get? it=some o)(hc:o.cls=.type n)(hd:o.data=.fields vs)
    (hn : ["enumerate", "zip", "dict_itemiterator", "dict_reverseitemiterator", "odict_iterator", "itertools.zip_longest", "itertools.pairwise"].contains n = false)(hQ : Q () s) : wpAny M A (letOwnedTupleGo tg (.ref it) u) Q E s := by
  unfold letOwnedTupleGo;cases tg <;> first
    | exact ft hQ
    | (cases u <;> first
        | exact ft hQ
        | (refine wpAny_bind (wpAny_load ho ?_)
           rw [hc, hd];show wpAny M A (if (["enumerate", "zip", "dict_itemiterator", "dict_reverseitemiterator", "odict_iterator", "itertools.zip_longest", "itertools.pairwise"].contains n && vs[0]? == some (rawInt _)) = true then _ else _) Q E s;rw [if_neg (by intro h; rw [hn, IJ] at h; cases h)];exact ft hQ))
def Itl (K:eh)(a:fg):It:=
 ⟨λi H=>∃xs x,SqL K H a xs/\xs[i]?=some x,λi H x H'=>H'=H/\∀xs,SqL K H a xs->xs[i]?=some x,λi H=>∃xs,SqL K H a xs/\xs.length<=i⟩
def Itt (K:eh)(a:fg):It:=
 ⟨λi H=>∃xs x,SqT K H a xs/\xs[i]?=some x,λi H x H'=>H'=H/\∀xs,SqT K H a xs->xs[i]?=some x,λi H=>∃xs,SqT K H a xs/\xs.length<=i⟩
def Itr (lo:Int)(n:Nat):It:=⟨λi _=>i<n,λi H x H'=>H'=H/\x=.int (lo+i),λi _=>n<=i⟩
theorem nO {P:gv}{K:eh}(a it:fg):R9 P w K tg (Itl K a) [it] it (λi h=>h.IsListIter it a i) where
 mem:=by simp
 obj:=λi h st b hb=>by
  have e:b=it:=by simpa using hb
  subst e;obtain⟨o,e,c,d⟩:=st;exact⟨o,e,λv z=>by rw[d] at z;cases z⟩
 keep:=λi h h' st k=>st.at λo e=>k it (by simp) o e
 item:=by
  intro X hP hw hK hc i pins s G H E I hf st hg;subst hP hw hK;obtain⟨xs,x,hq,hx⟩:=hg;obtain⟨its,rv,p,hz⟩:=I.list hq;obtain⟨u,hu,ru⟩:=rv.get hx;obtain⟨f0,f1,f2,f3,f4,f5⟩:=hf it (by simp);refine wpAny_pyNext_list_item st p.isList (x:=u) (by simpa using hu) λh' st' sb=>?_;have I1:Inv X pins G H { s with heap:=h' }:=I.turned (t':=s.toks) (λb o hb e=>(sb.2 b hb).trans e) f0 f1 f3 f4 f5;obtain⟨o,e,c,d⟩:=id st';exact⟨u,rfl,kN (s:={ s with heap:=h' }) e c d (by decide) ⟨x,H,I1,ru,⟨rfl,λys hy=>by rw[I.list_inj hy hq];exact hx⟩,st',λb hb=>(hf b hb).1⟩⟩
 done:=by
  intro X hP hw hK hc i pins s G H E I hf st hg;subst hP hw hK;obtain⟨xs,hq,hx⟩:=hg;obtain⟨its,rv,p,hz⟩:=I.list hq;obtain⟨f0,f1,f2,f3,f4,f5⟩:=hf it (by simp);have hl:=rv.length;exact wpAny_pyNext_list_end (I.ok.hd hc) st p.isList (by simp;lia) λh' eb=>⟨rfl,I.turned (t':=s.toks) (λb o hb e=>eb b o hb e) f0 f1 f3 f4 f5⟩
 self:=λ_ _ _ _ _ st h=>wpAny_pyIter_listiter st h
theorem gH {P:gv}{K:eh}(a it:fg):R9 P w K tg (Itt K a) [it] it (λi h=>h.IsTupleIter it a i) where
 mem:=by simp
 obj:=λi h st b hb=>by
  have e:b=it:=by simpa using hb
  subst e;obtain⟨o,e,c,d⟩:=st;exact⟨o,e,λv z=>by rw[d] at z;cases z⟩
 keep:=λi h h' st k=>st.at λo e=>k it (by simp) o e
 item:=by
  intro X hP hw hK hc i pins s G H E I hf st hg;subst hP hw hK;obtain⟨xs,x,hq,hx⟩:=hg;obtain⟨its,rv,p,hz⟩:=I.tuple hq;obtain⟨u,hu,ru⟩:=rv.get hx;obtain⟨f0,f1,f2,f3,f4,f5⟩:=hf it (by simp);refine wpAny_pyNext_tuple_item st (show s.heap.IsTuple a its.toArray from p) (x:=u) (by simpa using hu) λh' st' sb=>?_;have I1:Inv X pins G H { s with heap:=h' }:=I.turned (t':=s.toks) (λb o hb e=>(sb.2 b hb).trans e) f0 f1 f3 f4 f5;obtain⟨o,e,c,d⟩:=id st';exact⟨u,rfl,kN (s:={ s with heap:=h' }) e c d (by decide) ⟨x,H,I1,ru,⟨rfl,λys hy=>by rw[I.tuple_inj hy hq];exact hx⟩,st',λb hb=>(hf b hb).1⟩⟩
 done:=by
  intro X hP hw hK hc i pins s G H E I hf st hg;subst hP hw hK;obtain⟨xs,hq,hx⟩:=hg;obtain⟨its,rv,p,hz⟩:=I.tuple hq;obtain⟨f0,f1,f2,f3,f4,f5⟩:=hf it (by simp);have hl:=rv.length;exact wpAny_pyNext_tuple_end (I.ok.hd hc) st (show s.heap.IsTuple a its.toArray from p) (by simp;lia) λh' eb=>⟨rfl,I.turned (t':=s.toks) (λb o hb e=>eb b o hb e) f0 f1 f3 f4 f5⟩
 self:=λ_ _ _ _ _ st h=>wpAny_pyIter_tupleiter st h
theorem fF {P:gv}{K:eh}(it:fg)(lo:Int)(n:Nat):R9 P w K tg (Itr lo n) [it] it (λi h=>zu h it (lo+(i:Nat)*1) ((n:Int)-(i:Nat)) 1) where
 mem:=by simp
 obj:=λi h st b hb=>by
  have e:b=it:=by simpa using hb
  subst e;exact⟨_,st,λv z=>by
   have z':FA _=MP v:=z;cases z'⟩
 keep:=λi h h' st k=>k it (by simp) _ st
 item:=by
  intro X hP hw hK hc i pins s G H E I hf st hg;subst hP hw hK;obtain⟨f0,f1,f2,f3,f4,f5⟩:=hf it (by simp);have W:=IX (prog:=X.prog) (w:=X.w) (I.ok.hd hc) it lo 1 n;refine W.item i s _ _ hg st λv h' tk hv st' kk=>?_;obtain⟨t,rfl⟩:=hv;have I1:Inv X pins G H { s with heap:=h',toks:=tk }:=I.turned (λb o hb e=>kk b o (by simpa using hb) e) f0 f1 f3 f4 f5;refine⟨_,rfl,kN (s:={ s with heap:=h',toks:=tk }) (n:="range_iterator") st' rfl rfl (by decide) ⟨.int (lo+i),H,I1,⟨t,?_⟩,⟨rfl,rfl⟩,st',λb hb=>(hf b hb).1⟩⟩;rw[Int.mul_one]
 done:=by
  intro X hP hw hK hc i pins s G H E I hf st hg;subst hP hw hK;obtain⟨f0,f1,f2,f3,f4,f5⟩:=hf it (by simp);exact FW (I.ok.hd hc) st (by have:n<=i:=hg;lia) λh' eb=>⟨rfl,I.turned (t':=s.toks) (λb o hb e=>eb b o hb e) f0 f1 f3 f4 f5⟩
 self:=λ_ _ _ _ _ st h=>FX st h
section
variable {X:Cx} {tg:jc}
def yQ (K:eh)(tl:TE):TI:=λG H R=>tl G H λx H1=>∃a,x=.ref a/\(∃xs,SqL K H1 a xs)/\R (Itl K a) H1
def Ab1 (K:eh)(tl:TE):TI:=λG H R=>tl G H λx H1=>∃a,x=.ref a/\(∃xs,SqT K H1 a xs)/\R (Itt K a) H1
theorem F5 {l:jc}{tl:TE}(hl:PE X l tl):PI X tg l (yQ X.K tl):=by
 intro pins s G H R I h;refine thE hl I h λv s1 x H1 I1 r1 q1=>?_;obtain⟨a,e,⟨xs,hq⟩,q⟩:=q1;subst e;cases r1;obtain⟨its,rv,p,hz⟩:=I1.list hq;refine wpAny_pyIter_list p.isList ?_;refine⟨s1.heap.objs.size,[s1.heap.objs.size],_,_,H1,rfl,I1.kept (t':=s1.toks) λb o e=>fh _ e,nO a _,⟨_,iq _ rfl,rfl,rfl⟩,λb hb=>?_,q⟩;have e:b=s1.heap.objs.size:=by simpa using hb
 subst e;exact I1.fpOk (fk _) (I1.hok.fresh (fk _))
theorem sI {l:jc}{tl:TE}(hl:PE X l tl):PI X tg l (Ab1 X.K tl):=by
 intro pins s G H R I h;refine thE hl I h λv s1 x H1 I1 r1 q1=>?_;obtain⟨a,e,⟨xs,hq⟩,q⟩:=q1;subst e;cases r1;obtain⟨its,rv,p,hz⟩:=I1.tuple hq;refine wpAny_pyIter_tuple (show s1.heap.IsTuple a its.toArray from p) ?_;refine⟨s1.heap.objs.size,[s1.heap.objs.size],_,_,H1,rfl,I1.kept (t':=s1.toks) λb o e=>fh _ e,gH a _,⟨_,iq _ rfl,rfl,rfl⟩,λb hb=>?_,q⟩;have e:b=s1.heap.objs.size:=by simpa using hb
 subst e;exact I1.fpOk (fk _) (I1.hok.fresh (fk _))
theorem qC {G:St}{R:It->Hp->Prop}{E:Za0}{lo hi:Int}{t u v:Tok}{tk:Nat}(I:Inv X pins G H s)(h1:-(2 ^ 62)<=lo)(h2:lo<2 ^ 62)(h3:-(2 ^ 62)<=hi)(h4:hi<2 ^ 62)
  (q:R (Itr lo (hi-lo).toNat) H):wpAny (model X.prog X.w) X.A (pyIter (.ref s.heap.objs.size)) (PIE X pins G tg R) E { s with heap:=s.heap.push { cls:=.type "range",data:=.fields #[.int lo t,.int hi u,.int 1 v] },toks:=tk }:=by
 refine AT (DW ..) (small_one h1 h2 h3 h4) ?_;have I1:Inv X pins G H { s with heap:=s.heap.push { cls:=.type "range",data:=.fields #[.int lo t,.int hi u,.int 1 v] },toks:=tk }:=I.kept λb o e=>fh _ e;refine⟨(s.heap.push { cls:=.type "range",data:=.fields #[.int lo t,.int hi u,.int 1 v] }).objs.size,[(s.heap.push { cls:=.type "range",data:=.fields #[.int lo t,.int hi u,.int 1 v] }).objs.size],_,_,H,rfl,
  I1.kept (t':=tk) λb o e=>fh _ e,fF _ lo (hi-lo).toNat,?_,λb hb=>?_,q⟩
 ·have e1:lo+((0:Nat):Int)*1=lo:=by simp
  have e2:(((hi-lo).toNat:Nat):Int)-((0:Nat):Int)=lu lo hi 1:=by rw[MT];split<;>lia
  show zu _ _ (lo+((0:Nat):Int)*1) ((((hi-lo).toNat:Nat):Int)-((0:Nat):Int)) 1;rw[e1,e2];exact iq _ rfl
 ·have e:b=(s.heap.push { cls:=.type "range",data:=.fields #[.int lo t,.int hi u,.int 1 v] }).objs.size:=by simpa using hb
  subst e;exact I1.fpOk (fk _) (I1.hok.fresh (fk _))
def zR (ta:TA):TI:=λG H R=>ta G H λvs H1=>∃j:Int,vs=[.int j]/\-(2 ^ 62)<=j/\j<2 ^ 62/\R (Itr 0 j.toNat) H1
theorem Fp {a:jc}{ta:TA}{p:Pos}(hg:Gl X "range")(hm:X.mg "range"=none)(ha:PA X [a] ta)(hs:autoParam (starEach [a] X.env=[(false,eval a X.env)]) QD):PI X tg (.Call (.Name "range" p) [a] [] pos) (zR ta):=by
 intro pins s G H R I h;refine Call_ (Fv I hg hm boot_range (j2 (thA ha I h λus s1 vs H1 I1 r1 q1=>?_) hs rfl));obtain⟨j,e,q1,q2,q⟩:=q1;subst e
 cases r1 with
 |cons r rr=>
  cases rr;obtain⟨t,rfl⟩:=r;exact NT (qC I1 (by lia) (by lia) q1 q2 (by simpa using q))
def Adu (wi:TI)(g:TG)(tb:TS):TS:=λD G H=>wi G H λJ H1=>∃W:Nat->Nat->St->Hp->Prop,(∃m,W 0 m G H1)/\∀i m G H,W i m G H ->
 (J.stop i H/\D.nx G H)\/(J.go i H/\∃N:St->Hp->Prop,(∀QM H',N QM H'->∃m',m'<m/\W (i+1) m' QM H')/\∀x H',J.yld i H x H'->g x G H' λQQ H2=>tb { D with nx:=N,ct:=N,bk:=D.nx } QQ H2)
def Ou (fp:List fg)(h:jo):Za1:=fp.filterMap λb=>(h.get? b).map λo=>(b,o)
theorem Fq {b:fg}{o:Obj}(hb:b∈fp)(e:h.get? b=some o):(b,o)∈Ou fp h:=sk.mpr ⟨b,hb,by rw[e];rfl⟩
theorem oW {p:fg×Obj}(hp:p∈Ou fp h):p.1∈fp/\h.get? p.1=some p.2:=by
 obtain⟨b,hb,e⟩:=sk.mp hp
 cases q:h.get? b with
 |none=>rw[q] at e;cases e
 |some o=>
  rw[q] at e;have e':(b,o)=p:=fq e;subst e';exact⟨hb,q⟩
theorem Inv.pinned {G:St}(I:Inv X pins G H s)(hf:∀b∈fp,M3 X pins H b)(ho:∀b∈fp,∃o,s.heap.get? b=some o/\∀v,o.data≠.cell v):Inv X (pins++Ou fp s.heap) G H s:=
 I.pins_of λp hp=>(i5.mp hp).elim (λz=>I.pin p (ii _ z)) λz=>by
  obtain⟨hb,e⟩:=oW z;obtain⟨f0,f1,f2,_⟩:=hf p.1 hb;obtain⟨o,e',d⟩:=ho p.1 hb;rw[e] at e';cases e';exact⟨e,f0,f1,f2,d⟩
theorem Inv.unpinned {pl:Za1}{G:St}(I:Inv X (pins++pl) G H s):Inv X pins G H s:=I.pins_of λp hp=>I.pin p (ii _ (n5 _ hp))
theorem Dy {iter:jc}{body:List jr}{g:TG}{tb:TS}(hp:PassesOwn (model X.prog X.w) X.A X.env X.xe)(hc:X.calm=true)(hi:PI X tg iter wi)(hg:PG X tg g)(hb:PSs X body tb)
  (hs:autoParam (∀x,foldedSetIterable iter X.env x=pure x) QJ):PS X (.For tg iter body [] pos) (Adu wi g tb):=by
 k_end;refine wpAny_For (thn (hi pins s G H _ I h) λv s1 h1=>thn h1 λitv s2 h2=>?_) hs;obtain⟨it,fp,tn,J,H2,e,I2,T,st2,f2,W,⟨m0,w0⟩,turn⟩:=h2;subst e
 -- what stays true of the iterator's objects through the loop
 have stat:∀{H':Hp},(∀b∈fp,H' b=none)->∀b∈fp,M3 X pins H' b:=λhn b hb=>⟨hn b hb,(f2 b hb).2⟩;refine codeAny_forLoop_any (λn s'=>∃i QM H',Inv X pins QM H' s'/\tn i s'.heap/\(∀b∈fp,H' b=none)/\W i n QM H') ?_ m0 ⟨0,G,H2,I2,st2,λb hb=>(f2 b hb).1,w0⟩;rintro n s3 ⟨i,QV,H3,I3,st3,fr3,w3⟩;rcases turn i n QV H3 w3 with⟨stop,qn⟩|⟨go,N,hN,step⟩
 ·refine wpAny_passesOwn hp (thn (T.done X rfl rfl rfl hc i pins s3 QV H3 X.xe I3 (stat fr3) st3 stop) λr s4 ⟨hr,I4⟩=>?_)
  subst hr;exact tm ⟨QV,H3,I4,qn⟩
 ·refine wpAny_passesOwn hp (thn (T.item X rfl rfl rfl hc i pins s3 QV H3 X.xe I3 (stat fr3) st3 go) λr s4 ⟨u,hr,h4⟩=>?_)
  subst hr;refine wpAny_passesOwn hp (thn h4 λ_ s5 ⟨x,H5,I5,r5,y5,st5,fr5⟩=>?_);have I5':=I5.pinned (stat fr5) (T.obj _ _ st5);refine wpAny_passesOwn hp (thn (hg _ s5 QV H5 x u _ I5' r5 (step x H5 y5)) λ_ s6 ⟨σ6,H6,I6,q6⟩=>?_);refine wpAny_passesOwn hp (thn (hb _ s6 σ6 H6 _ I6 q6) λf s7 q7=>?_);have again:∀{QW:St} {H7:Hp},Inv X (pins++Ou fp s5.heap) QW H7 s7->N QW H7->∃m,m<n/\∃i QM H',Inv X pins QM H' s7/\tn i s7.heap/\(∀b∈fp,H' b=none)/\W i m QM H':=λ{QW H7} I7 n7=>by
   obtain⟨m',hm,w7⟩:=hN QW H7 n7;refine⟨m',hm,i+1,QW,H7,I7.unpinned,T.keep _ _ _ st5 λb hb o e=>(I7.pin (b,o) (ii _ (ii _ (Fq hb e)))).1,λb hb=>?_,w7⟩;obtain⟨o,e,d⟩:=T.obj _ _ st5 b hb;exact(I7.pin (b,o) (ii _ (ii _ (Fq hb e)))).2.1
  cases f with
  |next=>obtain⟨QW,H7,I7,n7⟩:=q7;exact again I7 n7
  |cont=>obtain⟨QW,H7,I7,n7⟩:=q7;exact again I7 n7
  |brk=>obtain⟨QW,H7,I7,q7⟩:=q7;exact⟨QW,H7,I7.unpinned,q7⟩
  |ret v=>obtain⟨x7,QW,H7,I7,r7,q7⟩:=q7;exact⟨x7,QW,H7,I7.unpinned,r7,q7⟩
end
theorem Ja {K:eh}{a:fg}{g:TG}{tb:TS}{D:Iw}{G:St}(Pv:Nat->St->Hp->Prop)(h0:Pv 0 G H)(hl:∀i G H,i<=xs.length->Pv i G H->SqL K H a xs)
  (hs:∀i x G H,xs[i]?=some x->Pv i G H->g x G H λQQ H2=>tb { D with nx:=Pv (i+1),ct:=Pv (i+1),bk:=D.nx } QQ H2)(hd:∀G H,Pv xs.length G H->D.nx G H) :
  ∃W:Nat->Nat->St->Hp->Prop,(∃m,W 0 m G H)/\∀i m G H,W i m G H ->
   ((Itl K a).stop i H/\D.nx G H)\/((Itl K a).go i H/\∃N:St->Hp->Prop,(∀QM H',N QM H'->∃m',m'<m/\W (i+1) m' QM H')/\∀x H',(Itl K a).yld i H x H'->g x G H' λQQ H2=>tb { D with nx:=N,ct:=N,bk:=D.nx } QQ H2):=by
 refine⟨λi m G H=>m=xs.length-i/\i<=xs.length/\Pv i G H,⟨xs.length,by simp,i6 _,h0⟩,?_⟩;rintro i m G H ⟨rfl,hi,p⟩;have q:=hl i G H hi p
 by_cases hlt:i<xs.length
 ·refine .inr ⟨⟨xs,xs[i],q,by simp[hlt]⟩,Pv (i+1),λQM H' p'=>⟨xs.length-(i+1),by lia,rfl,hlt,p'⟩,λx H' y=>?_⟩
  obtain⟨e,y⟩:=y;subst e;exact hs i x G _ (y xs q) p
 ·have e:i=xs.length:=by lia
  subst e;exact .inl ⟨⟨xs,q,fk _⟩,hd G H p⟩
theorem wQ {K:eh}{a:fg}{g:TG}{tb:TS}{D:Iw}{G:St}(Pv:Nat->St->Hp->Prop)(h0:Pv 0 G H)(hl:∀i G H,i<=xs.length->Pv i G H->SqT K H a xs)
  (hs:∀i x G H,xs[i]?=some x->Pv i G H->g x G H λQQ H2=>tb { D with nx:=Pv (i+1),ct:=Pv (i+1),bk:=D.nx } QQ H2)(hd:∀G H,Pv xs.length G H->D.nx G H) :
  ∃W:Nat->Nat->St->Hp->Prop,(∃m,W 0 m G H)/\∀i m G H,W i m G H ->
   ((Itt K a).stop i H/\D.nx G H)\/((Itt K a).go i H/\∃N:St->Hp->Prop,(∀QM H',N QM H'->∃m',m'<m/\W (i+1) m' QM H')/\∀x H',(Itt K a).yld i H x H'->g x G H' λQQ H2=>tb { D with nx:=N,ct:=N,bk:=D.nx } QQ H2):=by
 refine⟨λi m G H=>m=xs.length-i/\i<=xs.length/\Pv i G H,⟨xs.length,by simp,i6 _,h0⟩,?_⟩;rintro i m G H ⟨rfl,hi,p⟩;have q:=hl i G H hi p
 by_cases hlt:i<xs.length
 ·refine .inr ⟨⟨xs,xs[i],q,by simp[hlt]⟩,Pv (i+1),λQM H' p'=>⟨xs.length-(i+1),by lia,rfl,hlt,p'⟩,λx H' y=>?_⟩
  obtain⟨e,y⟩:=y;subst e;exact hs i x G _ (y xs q) p
 ·have e:i=xs.length:=by lia
  subst e;exact .inl ⟨⟨xs,q,fk _⟩,hd G H p⟩
theorem Jc {lo:Int}{n:Nat}{g:TG}{tb:TS}{D:Iw}{G:St}(Pv:Nat->St->Hp->Prop)(h0:Pv 0 G H)
  (hs:∀i G H,i<n->Pv i G H->g (.int (lo+i)) G H λQQ H2=>tb { D with nx:=Pv (i+1),ct:=Pv (i+1),bk:=D.nx } QQ H2)(hd:∀G H,Pv n G H->D.nx G H) :
  ∃W:Nat->Nat->St->Hp->Prop,(∃m,W 0 m G H)/\∀i m G H,W i m G H ->
   ((Itr lo n).stop i H/\D.nx G H)\/((Itr lo n).go i H/\∃N:St->Hp->Prop,(∀QM H',N QM H'->∃m',m'<m/\W (i+1) m' QM H')/\∀x H',(Itr lo n).yld i H x H'->g x G H' λQQ H2=>tb { D with nx:=N,ct:=N,bk:=D.nx } QQ H2):=by
 refine⟨λi m G H=>m=n-i/\i<=n/\Pv i G H,⟨n,by simp,i6 _,h0⟩,?_⟩;rintro i m G H ⟨rfl,hi,p⟩
 by_cases hlt:i<n
 ·refine .inr ⟨hlt,Pv (i+1),λQM H' p'=>⟨n-(i+1),by lia,rfl,hlt,p'⟩,λx H' y=>?_⟩
  obtain⟨e,y⟩:=y;subst e y;exact hs i G _ hlt p
 ·have e:i=n:=by lia
  subst e;exact .inl ⟨fk _,hd G H p⟩
abbrev R2:=V->V->Hp->VK->Prop
def OpR (X:Cx)(f:fv->fv->Sem fv)(r:R2):Prop:=
 ∀(pins:Za1) (s:fw) (G:St) (H:Hp) (x y:V) (v u:fv) (Q:VK),Inv X pins G H s->A9 x v->A9 y u->r x y H Q ->
  wpAny (model X.prog X.w) X.A (f v u) (EP X pins G Q) X.xe s
def UnR (X:Cx)(f:fv->Sem fv)(r:V->Hp->VK->Prop):Prop:=
 ∀(pins:Za1) (s:fw) (G:St) (H:Hp) (x:V) (v:fv) (Q:VK),Inv X pins G H s->A9 x v->r x H Q ->
  wpAny (model X.prog X.w) X.A (f v) (EP X pins G Q) X.xe s
def Ey (X:Cx)(f:fv)(r:List V->Hp->VK->Prop):Prop:=
 ∀(pins:Za1) (s:fw) (G:St) (H:Hp) (xs:List V) (us:Za3) (Q:VK),Inv X pins G H s->Av xs us->r xs H Q ->
  wpAny (model X.prog X.w) X.A (call f us) (EP X pins G Q) X.xe s
def tOp (r:R2)(ta tb:TE):TE:=λG H Q=>ta G H λx H1=>tb G H1 λy H2=>r x y H2 Q
def tUn (r:V->Hp->VK->Prop)(ta:TE):TE:=λG H Q=>ta G H λx H1=>r x H1 Q
def rI (C:Int->Int->Prop)(g:Int->Int->V):R2:=λx y H Q=>∃i j,x=.int i/\y=.int j/\C i j/\Q (g i j) H
def rI0 (g:Int->Int->V):R2:=λx y H Q=>∃i j,x=.int i/\y=.int j/\Q (g i j) H
def rU (g:Int->V):V->Hp->VK->Prop:=λx H Q=>∃i,x=.int i/\Q (g i) H
section
variable {X:Cx} {a b c:jc} {ta tb tc:TE} {pos:Pos}
theorem Ace (ha:PE X a ta)(hb:PE X b tb){G:St}{R:V->V->Hp->Prop}(I:Inv X pins G H s)
  (h:ta G H λx H1=>tb G H1 λy H2=>R x y H2){Q:Za0}{f:fv->fv->Sem fv}
  (hf:∀v u s2 x y H2,Inv X pins G H2 s2->A9 x v->A9 y u->R x y H2->wpAny (model X.prog X.w) X.A (f v u) Q X.xe s2) :
  wpAny (model X.prog X.w) X.A (eval a X.env) (λv QN=>wpAny (model X.prog X.w) X.A (eval b X.env) (λu QR=>wpAny (model X.prog X.w) X.A (f v u) Q X.xe QR) X.xe QN) X.xe s:=by
 refine thE ha I h λv s1 x H1 I1 r1 q1=>?_;refine thE hb I1 q1 λu s2 y H2 I2 r2 q2=>?_;exact hf v u s2 x y H2 I2 r1 r2 q2
theorem Ah {op:EM}{r:R2}(ho:OpR X (binaryOp op) r)(ha:PE X a ta)(hb:PE X b tb):PE X (.BinOp a op b pos) (tOp r ta tb):=by
 k_in;exact wpAny_BinOp (Ace ha hb I h λv u s2 x y H2 I2 rx ry q=>ho pins s2 G H2 x y v u Q I2 rx ry q)
theorem Cy {op:UnaryOp}{r:V->Hp->VK->Prop}(ho:UnR X (unaryOp op) r)(ha:PE X a ta):PE X (.UnaryOp op a pos) (tUn r ta):=by
 k_in;exact UnaryOp_ (thE ha I h λv s1 x H1 I1 r1 q1=>ho pins s1 G H1 x v Q I1 r1 q1)
theorem opI {f:fv->fv->Sem fv}{C:Int->Int->Prop}{g:Int->Int->Int}
  (rule:∀(i j:Int) (t u:Tok) (s:fw) (Q:Za0) (E:Za0),C i j->Q (.int (g i j) s.toks) { s with toks:=s.toks+1 }->wpAny (model X.prog X.w) X.A (f (.int i t) (.int j u)) Q E s) :
  OpR X f (rI C λi j=>.int (g i j)):=by
 intro pins s G H x y v u Q I rx ry h;obtain⟨i,j,rfl,rfl,hc,q⟩:=h;obtain⟨t,rfl⟩:=rx;obtain⟨t',rfl⟩:=ry;exact rule i j t t' s _ _ hc ⟨.int (g i j),H,I.tok _,⟨_,rfl⟩,q⟩
theorem vX {f:fv->fv->Sem fv}{g:Int->Int->Int}
  (rule:∀(i j:Int) (t u:Tok) (s:fw) (Q:Za0) (E:Za0),Q (.int (g i j) s.toks) { s with toks:=s.toks+1 }->wpAny (model X.prog X.w) X.A (f (.int i t) (.int j u)) Q E s) :
  OpR X f (rI0 λi j=>.int (g i j)):=by
 intro pins s G H x y v u Q I rx ry h;obtain⟨i,j,rfl,rfl,q⟩:=h;obtain⟨t,rfl⟩:=rx;obtain⟨t',rfl⟩:=ry;exact rule i j t t' s _ _ ⟨.int (g i j),H,I.tok _,⟨_,rfl⟩,q⟩
theorem yC {f:fv->fv->Sem fv}{g:Int->Int->Bool}
  (rule:∀(i j:Int) (t u:Tok) (s:fw) (Q:Za0) (E:Za0),Q (.bool (g i j)) s->wpAny (model X.prog X.w) X.A (f (.int i t) (.int j u)) Q E s) :
  OpR X f (rI0 λi j=>.bl (g i j)):=by
 intro pins s G H x y v u Q I rx ry h;obtain⟨i,j,rfl,rfl,q⟩:=h;obtain⟨t,rfl⟩:=rx;obtain⟨t',rfl⟩:=ry;exact rule i j t t' s _ _ ⟨.bl (g i j),H,I,rfl,q⟩
def Ada (i j:Int):Prop:=0<j/\j<1073741824
def Afd (i j:Int):Prop:=0<=j/\j<=1000000/\i.natAbs<2 ^ 64
def qK (i j:Int):Prop:=(-(2 ^ 64)<i/\i<2 ^ 64)\/(-(2 ^ 64)<j/\j<2 ^ 64)
theorem qK.ok {i j:Int}(h:qK i j):IntMulOk i j:=by
 rcases h with⟨h1,h2⟩|⟨h1,h2⟩
 ·exact .of_left (MV h1 h2)
 ·exact .of_right (MV h1 h2)
theorem S9 (k:Nat):(0:Int)<=2 ^ k:=by
 rw[two_pow_cast];exact md _
theorem A7:OpR X (binaryOp .Add) (rI0 λi j=>.int (i+j)):=vX λ_ _ _ _ _ _ _ q=>add_int q
theorem Co:OpR X (binaryOp .Sub) (rI0 λi j=>.int (i-j)):=vX λ_ _ _ _ _ _ _ q=>sub_int q
theorem Lb:OpR X (binaryOp .Mult) (rI qK λi j=>.int (i*j)):=opI λ_ _ _ _ _ _ _ hc q=>mul_int q hc.ok
theorem Cm:OpR X (binaryOp .FloorDiv) (rI Ada λi j=>.int (i/j)):=opI λi j _ _ _ _ _ hc q=>by
 have h1:(0:Int)<j:=hc.1;have h2:j<1073741824:=hc.2;exact floordiv_int (by lia) (by rw[wl i (by lia)];exact q) (.inl (xg (by lia)))
theorem Cf:OpR X (binaryOp .Mod) (rI (λ_ j=>0<j) λi j=>.int (i%j)):=opI λi j _ _ _ _ _ hc q=>by
 have h1:(0:Int)<j:=hc;exact mod_int' (by lia) (by rw[Int.fmod_eq_emod_of_nonneg i (by lia)];exact q)
theorem Xc:OpR X (binaryOp .Pow) (rI Afd λi j=>.int (i ^ j.toNat)):=opI λ_ _ _ _ _ _ _ hc q=>pow_int_small hc.1 hc.2.1 hc.2.2 q
theorem Acb:OpR X (binaryOp .LShift) (rI Afd λi j=>.int (i*2 ^ j.toNat)):=opI λ_ _ _ _ _ _ _ hc q=>lshift_int_small hc.1 hc.2.1 hc.2.2 q
theorem tF:OpR X (binaryOp .RShift) (rI (λ_ j=>0<=j) λi j=>.int (i/2 ^ j.toNat)):=opI λi j _ _ _ _ _ hc q=>
 rshift_int hc (by rw[wl i (S9 _)];exact q)
theorem Ow:OpR X (binaryOp .BitAnd) (rI0 λi j=>.int (m8 i j)):=vX λ_ _ _ _ _ _ _ q=>and_int q
theorem gE:OpR X (binaryOp .BitXor) (rI0 λi j=>.int (ye i j)):=vX λ_ _ _ _ _ _ _ q=>xor_int q
theorem kX:OpR X (inplaceOp .RShift) (rI (λ_ j=>0<=j) λi j=>.int (i/2 ^ j.toNat)):=opI λi j _ _ _ _ _ hc q=>
 irshift_int hc (by rw[wl i (S9 _)];exact q)
theorem unI {f:fv->Sem fv}{g:Int->Int}
  (rule:∀(i:Int) (t:Tok) (s:fw) (Q:Za0) (E:Za0),Q (.int (g i) s.toks) { s with toks:=s.toks+1 }->wpAny (model X.prog X.w) X.A (f (.int i t)) Q E s) :
  UnR X f (rU λi=>.int (g i)):=by
 intro pins s G H x v Q I rx h;obtain⟨i,rfl,q⟩:=h;obtain⟨t,rfl⟩:=rx;exact rule i t s _ _ ⟨.int (g i),H,I.tok _,⟨_,rfl⟩,q⟩
theorem Bw:UnR X (unaryOp .USub) (rU λi=>.int (-i)):=unI λ_ _ _ _ _ q=>neg_int q
end
def uB:V->V->Bool
 |.non,.non=>true|.non,.int _=>true|.int _,.non=>true|.non,.bl _=>true|.bl _,.non=>true|.non,.str _=>true|.str _,.non=>true
 |.int _,.int _=>true|.bl _,.bl _=>true|.str _,.str _=>true|.byt _,.byt _=>true
 |.int _,.str _=>true|.str _,.int _=>true|.bl _,.str _=>true|.str _,.bl _=>true
 |_,_=>false
def rEq:R2:=λx y H Q=>uB x y=true/\Q (.bl (decide (x=y))) H
def rNe:R2:=λx y H Q=>uB x y=true/\Q (.bl (!decide (x=y))) H
theorem jI {i j:Int}:decide (V.int i=V.int j)=(i==j):=by
 rw[sh];simp
theorem rE {i j:Bool}:decide (V.bl i=V.bl j)=(i==j):=by
 rw[sh];simp
theorem kD {i j:Str}:decide (V.str i=V.str j)=(i==j):=by
 rw[sh];simp
theorem kZ {i j:Array UInt8}:decide (V.byt i=V.byt j)=(i.toList==j.toList):=by
 rw[sh];cases i;cases j;simp
section
variable {X:Cx} {a b c:jc} {ta tb tc:TE} {pos:Pos}
theorem Bn {G:St}{Q:VK}{k k':Bool}(I:Inv X pins G H s)(q:Q (.bl k) H)(e:k=k'):EP X pins G Q (.bool k') s:=by
 subst e;exact⟨.bl k,H,I,rfl,q⟩
theorem Cj:OpR X (compareOp .Eq) rEq:=by
 intro pins s G H x y v u Q I rx ry h;obtain⟨hs,q⟩:=h
 cases x with
 |non=>
  cases rx
  cases y with
  |non=>cases ry;exact LJ (Bn I q (by simp))
  |bl j=>cases ry;exact LL (Bn I q (by simp))
  |int j=>obtain⟨t',rfl⟩:=ry;exact LK (Bn I q (by simp))
  |str j=>obtain⟨t',rfl⟩:=ry;exact LI (Bn I q (by simp))
  |_=>exact absurd (show false=true from hs) im
 |bl i=>
  cases rx
  cases y with
  |non=>cases ry;exact LN (Bn I q (by simp))
  |bl j=>cases ry;exact eq_bool (Bn I q rE)
  |str j=>obtain⟨t',rfl⟩:=ry;exact JW (Bn I q (by simp))
  |_=>exact absurd (show false=true from hs) im
 |int i=>
  obtain⟨t,rfl⟩:=rx
  cases y with
  |non=>cases ry;exact LM (Bn I q (by simp))
  |int j=>obtain⟨t',rfl⟩:=ry;exact eq_int (Bn I q jI)
  |str j=>obtain⟨t',rfl⟩:=ry;exact JV (Bn I q (by simp))
  |_=>exact absurd (show false=true from hs) im
 |str i=>
  obtain⟨t,rfl⟩:=rx
  cases y with
  |non=>cases ry;exact LH (Bn I q (by simp))
  |bl j=>cases ry;exact JU (Bn I q (by simp))
  |int j=>obtain⟨t',rfl⟩:=ry;exact JT (Bn I q (by simp))
  |str j=>obtain⟨t',rfl⟩:=ry;exact eq_str (Bn I q kD)
  |_=>exact absurd (show false=true from hs) im
 |byt i=>
  obtain⟨t,rfl⟩:=rx
  cases y with
  |byt j=>obtain⟨t',rfl⟩:=ry;exact PySem.W.eq_bytes (Bn I q kZ)
  |_=>exact absurd (show false=true from hs) im
 |_=>cases y<;>exact absurd (show false=true from hs) im
theorem Pq:OpR X (compareOp .NotEq) rNe:=by
 intro pins s G H x y v u Q I rx ry h;obtain⟨hs,q⟩:=h
 cases x with
 |non=>
  cases rx
  cases y with
  |non=>cases ry;exact KY (Bn I q (by simp))
  |bl j=>cases ry;exact LA (Bn I q (by simp))
  |int j=>obtain⟨t',rfl⟩:=ry;exact KZ (Bn I q (by simp))
  |str j=>obtain⟨t',rfl⟩:=ry;exact KW (Bn I q (by simp))
  |_=>exact absurd (show false=true from hs) im
 |bl i=>
  cases rx
  cases y with
  |non=>cases ry;exact LG (Bn I q (by simp))
  |bl j=>cases ry;exact ne_bool (Bn I q (congrArg not rE))
  |str j=>obtain⟨t',rfl⟩:=ry;exact JS (Bn I q (by simp))
  |_=>exact absurd (show false=true from hs) im
 |int i=>
  obtain⟨t,rfl⟩:=rx
  cases y with
  |non=>cases ry;exact LC (Bn I q (by simp))
  |int j=>obtain⟨t',rfl⟩:=ry;exact ne_int (Bn I q (congrArg not jI))
  |str j=>obtain⟨t',rfl⟩:=ry;exact JR (Bn I q (by simp))
  |_=>exact absurd (show false=true from hs) im
 |str i=>
  obtain⟨t,rfl⟩:=rx
  cases y with
  |non=>cases ry;exact KU (Bn I q (by simp))
  |bl j=>cases ry;exact JQ (Bn I q (by simp))
  |int j=>obtain⟨t',rfl⟩:=ry;exact JP (Bn I q (by simp))
  |str j=>obtain⟨t',rfl⟩:=ry;exact ne_str (Bn I q (congrArg not kD))
  |_=>exact absurd (show false=true from hs) im
 |byt i=>
  obtain⟨t,rfl⟩:=rx
  cases y with
  |byt j=>obtain⟨t',rfl⟩:=ry;exact PySem.W.ne_bytes (Bn I q (congrArg not kZ))
  |_=>exact absurd (show false=true from hs) im
 |_=>cases y<;>exact absurd (show false=true from hs) im
theorem Pg:OpR X (compareOp .Lt) (rI0 λi j=>.bl (decide (i<j))):=yC λ_ _ _ _ _ _ _ q=>lt_int q
theorem yU:OpR X (compareOp .LtE) (rI0 λi j=>.bl (decide (i<=j))):=yC λ_ _ _ _ _ _ _ q=>le_int q
theorem Jb:OpR X (compareOp .Gt) (rI0 λi j=>.bl (decide (j<i))):=yC λ_ _ _ _ _ _ _ q=>gt_int q
theorem Aaf:OpR X (compareOp .GtE) (rI0 λi j=>.bl (decide (j<=i))):=yC λ_ _ _ _ _ _ _ q=>ge_int q
theorem qZ (b:jc)(h:autoParam (op≠.In) QF)(h2:autoParam (op≠.NotIn) QF):behindInMarks op b=false:=by
 have e1:(op==MQ)=false:=by cases op<;>first|rfl|exact absurd rfl h
 have e2:(op==JI)=false:=by cases op<;>first|rfl|exact absurd rfl h2
 cases b<;>simp[behindInMarks,e1,e2]
theorem wO {r:R2}(ho:OpR X (compareOp op) r)(ha:PE X a ta)(hb:PE X b tb)(hm:behindInMarks op b=false):PE X (.Compare a [op] [b] pos) (tOp r ta tb):=by
 k_in;exact wpAny_Compare1 (Ace ha hb I h λv u s2 x y H2 I2 rx ry q=>ho pins s2 G H2 x y v u Q I2 rx ry q) hm
def rH (t:TE):TT:=λG H Q=>t G H λx H'=>∃k,x=.bl k/\Q k H'
theorem Rm {r:R2}(ho:OpR X (compareOp op) r)(ha:PE X a ta)(hb:PE X b tb)(hm:behindInMarks op b=false):PT X (.Compare a [op] [b] pos) (rH (tOp r ta tb)):=by
 k_in;refine wpAny_isTrue_Compare1 (thE ha I h λv s1 x H1 I1 r1 q1=>thE hb I1 q1 λu s2 y H2 I2 r2 q2=>
  thn (ho pins s2 G H2 x y v u _ I2 r1 r2 q2) λc s3 ⟨z,H3,I3,r3,k,e,q3⟩=>?_) hm
 subst e;cases r3;exact p9 ⟨H3,I3,q3⟩
def rG (r r':R2)(ta tb tc:TE):TE:=λG H Q=>ta G H λx H1=>tb G H1 λy H2=>r x y H2 λz H3=>∃k,z=.bl k /\
 (if k=true then tc G H3 λw' H4=>r' y w' H4 Q else Q (.bl false) H3)
theorem rB {op':yx}{r r':R2}(ho:OpR X (compareOp op) r)(ho':OpR X (compareOp op') r')(ha:PE X a ta)(hb:PE X b tb)(hc:PE X c tc)
  (hm:lastMarks [op,op'] [b,c]=false:=by with_unfolding_all rfl):PE X (.Compare a [op,op'] [b,c] pos) (rG r r' ta tb tc):=by
 k_in;refine Compare_chain (thE ha I h λv s1 x H1 I1 r1 q1=>chain_link (thE hb I1 q1 λu s2 y H2 I2 r2 q2=>
  thn (ho pins s2 G H2 x y v u _ I2 r1 r2 q2) λd s3 ⟨z,H3,I3,r3,k,e,q3⟩=>?_)) hm
 subst e;cases r3;refine p9 ?_
 cases k with
 |false=>exact ite_ff ⟨.bl false,H3,I3,rfl,q3⟩
 |true=>exact ite_tt (chain_last (thn (hc pins s3 G H3 _ I3 q3) λw' s4 ⟨z',H4,I4,r4,q4⟩=>ho' pins s4 G H4 y z' u w' Q I4 r2 r4 q4))
theorem Jt:(sizeLine:Nat)<2 ^ 63:=by rw[HM];decide
theorem iQ:OpR X (binaryOp .Add) (λx y H Q=>∃i j,x=.str i/\y=.str j/\i.length+j.length<=sizeLine/\Q (.str (i++j)) H):=by
 intro pins s G H x y v u Q I rx ry h;obtain⟨i,j,rfl,rfl,hz,q⟩:=h;obtain⟨t,rfl⟩:=rx;obtain⟨t',rfl⟩:=ry;exact add_str (λt' tk=>⟨.str (i++j),H,I.tok _,⟨_,rfl⟩,q⟩) hz
theorem Fm {x:V}(r:Av [x] us):∃u,us=[u]/\A9 x u:=by
 cases r with
 |cons r1 r2=>cases r2;exact⟨_,rfl,r1⟩
theorem Na {x:V}(r:Av [x,y] us):∃u w',us=[u,w']/\A9 x u/\A9 y w':=by
 cases r with
 |cons r1 r2=>
  cases r2 with
  |cons r3 r4=>cases r4;exact⟨_,_,rfl,r1,r3⟩
theorem uM:Ey X (.builtin "abs") (λxs H Q=>∃i,xs=[.int i]/\Q (.int (if i<0 then -i else i)) H):=by
 intro pins s G H xs us Q I r h;obtain⟨i,rfl,q⟩:=h;obtain⟨u,rfl,t,rfl⟩:=Fm r;exact call_abs_int λu tk=>⟨.int (if i<0 then -i else i),H,I.tok _,⟨_,rfl⟩,q⟩
theorem oJ (hc:X.calm=true):Ey X (.builtin "max") (λxs H Q=>∃i j,xs=[.int i,.int j]/\Q (.int (if j>i then j else i)) H):=by
 intro pins s G H xs us Q I r h;obtain⟨i,j,rfl,q⟩:=h;obtain⟨u,w',rfl,⟨t,rfl⟩,⟨t',rfl⟩⟩:=Na r;refine max_two_ints (I.ok.hd hc) λh' tk k=>⟨_,H,I.kept k,?_,q⟩
 by_cases hj:j>i
 ·rw[if_pos hj,if_pos hj];exact⟨_,rfl⟩
 ·rw[if_neg hj,if_neg hj];exact⟨_,rfl⟩
theorem Vf (hc:X.calm=true):Ey X (.builtin "min") (λxs H Q=>∃i j,xs=[.int i,.int j]/\Q (.int (if j<i then j else i)) H):=by
 intro pins s G H xs us Q I r h;obtain⟨i,j,rfl,q⟩:=h;obtain⟨u,w',rfl,⟨t,rfl⟩,⟨t',rfl⟩⟩:=Na r;refine min_two_ints (I.ok.hd hc) λh' tk k=>⟨_,H,I.kept k,?_,q⟩
 by_cases hj:j<i
 ·rw[if_pos hj,if_pos hj];exact⟨_,rfl⟩
 ·rw[if_neg hj,if_neg hj];exact⟨_,rfl⟩
end
structure iM (h:jo) (x dx C:fg) (mA:Za2):Prop where
 obj:h.get? x=some (instObj C dx)
 ns:h.Ns1 dx mA
 ne:dx≠x
theorem mT {mA:Za2}(n:h.Ns1 dx mA):∃od,h.get? dx=some od/\∀name,lookIn name od=some (mA name):=by
 obtain⟨o,es,ep,ho,hd,hk,_,hm⟩:=n;refine⟨o,ho,λname=>?_⟩;have e:=hm name;unfold nsFind findBy at e;rw[<-Array.find?_toList] at e;unfold lookIn;rw[hd];dsimp only;split
 ·rename_i y q
  rw[q] at e;exact congrArg some e
 ·rename_i q
  rw[q] at e;have a:es.toList.any (·.refKey)=false:=by
   rw[List.any_eq_false];intro y hy;obtain⟨z,t,hkey⟩:=hk y (Array.mem_toList_iff.mp hy);simp[NX,hkey]
  have a':¬ es.toList.any (·.refKey)=true:=by rw[a];exact im
  rw[if_neg a'];exact congrArg some e
theorem iM.look {x:fg}{mA:Za2}(I:iM h x dx C mA):∃od,PySem.W.InstAt h x (instObj C dx) C (some od)/\∀name,lookIn name od=some (mA name):=
 let ⟨od,ho,hl⟩:=mT I.ns
 ⟨od,⟨I.obj,rfl,rfl,ho⟩,hl⟩
section
variable {prog:gv} {w:ir} {A:ji} {E:Za0} {s:fw} {K:eh} {x dx C f:fg} {mA:Za2} {name:Str} {v:fv}
theorem vS {expr:Bool}{Q:Za0}(X:K.In s.heap)(I:iM s.heap x dx C mA)(hg:wt K C name=true)(hh:y4 K C=true)
  (ha:lf K (.ref C) name=some none)(hv:mA name=some v)(hv':FH v=true)(h:Q v { s with toks:=s.toks+1 }) :
  wpAny (model prog w) A (getAttr (.ref x) name expr) Q E s:=by
 obtain⟨od,J,hl⟩:=I.look;exact PySem.W.get_value X J (yi hg).1 (PySem.W.findObj_own hh ha rfl (by rw[hl,hv])) hv' h
theorem tG {Q:fv×Za3->fw->Prop}(X:K.In s.heap)(I:iM s.heap x dx C mA)(hg:wt K C name=true)
  (hf:lf K (.ref C) name=some (some (.ref f)))(ht:vn K (.ref f)=true)(hv:mA name=none)(h:Q (.ref f,[.ref x]) s) :
  wpAny (model prog w) A (getMethod (.ref x) name pl) Q E s:=by
 obtain⟨od,J,hl⟩:=I.look;exact PySem.W.method_fn X J (yi hg).1 (yi hg).2 hf (beq_iff_eq.mp ht) (by show(lookIn name od).map (·.isSome)=some false;rw[hl,hv];rfl) h
theorem wZ {ns:Za6}{Q:Unit->fw->Prop}(X:K.In s.heap)(I:iM s.heap x dx C mA)
  (hs:lf K (.ref C) "__setattr__"=some (some (.builtin "object.__setattr__")))(hp:EU K C=true)(ht:z9 K C name=some none)(hh:y4 K C=true)
  (hw:DQ mA ns)(hsz:ns.length<=sizeLine)
  (h:∀h',iM h' x dx C (λy=>if y=name then some v else mA y)->xq dx s.heap h'->Q () { s with heap:=h',toks:=s.toks+2 }) :
  wpAny (model prog w) A (setAttr (.ref x) name v) Q E s:=by
 obtain⟨od,J,hl⟩:=I.look;refine PySem.W.set_plain X J hs (PySem.W.osa_open (s:={ s with toks:=s.toks+1 }) (r:=none) X J hp ht λb=>?_);obtain⟨cd,hc,hd'⟩:=PySem.W.any_some hh;have hx:s.heap.get? x=some ⟨.ref C,some dx,.plain,#[]⟩:=I.obj;refine wpAny_bind (ft (wpAny_bind (wpAny_bind (zk hx (wpAny_bind (JO (s:={ s with toks:=s.toks+1 }) (PySem.W.looks_clsIn X hc) ?_))))));rw[hd'];refine ft (a:=some dx) (wpAny_bind (ft (wpAny_bind ?_)));refine NN (s:={ s with toks:=s.toks+1 }) I.ns λh' hn2 hs2=>?_;obtain⟨oD,esD,epD,hoD,hdD,hcD⟩:=hn2.count (KQ name v hw);refine wpAny_bind (JK hoD (by rw[hdD];exact JM (io hcD (by rw[gu];lia))) ?_);exact ft (h _ ⟨(hs2.2 _ (qh I.ne)).trans I.obj,hn2,I.ne⟩ hs2)
theorem Yq {R:yp->fw->Prop}{kw:List (Str×fv)}(X:K.In s.heap)(hm:FR K C=true)
  (hi:lf K (.ref C) "__init__"=some (some (.ref f)))(hf:PySem.W.typeIn K (.ref f)=some (.type "function"))
  (h:codeAny (model prog w) (A.under (.builtin "type.__call__" ⟨.ref C::vs,kw⟩)) (.call (.ref f) ⟨.ref (s.heap.objs.size+1)::vs,kw⟩) (PySem.W.InitBack (s.heap.objs.size+1) R)
   { s with heap:=(s.heap.push mz).push (instObj C s.heap.objs.size) }) :
  codeAny (model prog w) A (.call (.ref C) ⟨vs,kw⟩) R s:=by
 obtain⟨hh,g,d,t,os⟩:=s;exact PySem.W.make_core (PySem.W.makes_of X hm) (PySem.W.looks_findIn X hi) (λself=>PySem.W.bind_fn X self hf) (.inl rfl) h
end
def Eg (f : Str)(v : V) : List (Str × V)->List (Str × V)
  | [] => [(f, v)]
  | (g, x) :: r => if g = f then (g, v) :: r else (g, x) :: Eg f v r
theorem Pp (f g:Str)(v:V):∀ fs:List (Str×V),(Eg f v fs).lookup g=if g=f then some v else fs.lookup g
  | [] => by
    show ou g [(f, v)] = _
    by_cases h : g = f
    · have hb : (g == f) = true := beq_iff_eq.mpr h
      simp only [ou, hb, if_pos h]
    · have hb : (g == f) = false := beq_eq_false_iff_ne.mpr h
      simp only [ou, hb, if_neg h]
  | (k, x) :: r => by
    have ih := Pp f g v r;rw [show Eg f v ((k, x) :: r) = (if k = f then (k, v) :: r else (k, x) :: Eg f v r) from rfl]
    by_cases hk : k = f
    · rw [if_pos hk]
      by_cases h : g = k
      · have hb : (g == k) = true := beq_iff_eq.mpr h
        simp only [ou, hb, if_pos (h.trans hk)]
      · have hb : (g == k) = false := beq_eq_false_iff_ne.mpr h
        simp only [ou, hb, if_neg (λe : g = f => h (e.trans hk.symm))]
    · rw [if_neg hk]
      by_cases h : g = k
      · have hb : (g == k) = true := beq_iff_eq.mpr h
        simp only [ou, hb, if_neg (λe : g = f => hk (h.symm.trans e))]
      · have hb : (g == k) = false := beq_eq_false_iff_ne.mpr h
        simp only [ou, hb];exact ih
theorem O4 (f:Str)(v:V):∀ fs:List (Str×V),f∈(Eg f v fs).map (·.1)/\∀ g,g∈fs.map (·.1)->g∈(Eg f v fs).map (·.1)
  | [] => ⟨by simp [Eg], λg h => by simp at h⟩
  | (k, x) :: r => by
    obtain ⟨i1, i2⟩ := O4 f v r;rw [show Eg f v ((k, x) :: r) = (if k = f then (k, v) :: r else (k, x) :: Eg f v r) from rfl]
    by_cases hk : k = f
    · rw [if_pos hk]
      subst hk;exact ⟨by simp, λg h => by simpa using h⟩
    · rw [if_neg hk]
      refine ⟨?_, λg h => ?_⟩
      · rw [ik]
        exact gz _ i1
      · rw [ik] at h ⊢
        rcases i9.mp h with e | e
        · exact i9.mpr (.inl e)
        · exact gz _ (i2 g e)
theorem Po (f:Str)(v:V):∀ fs:List (Str×V),(Eg f v fs).length<=fs.length+1
  | [] => by simp [Eg]
  | (k, x) :: r => by
    have ih := Po f v r;rw [show Eg f v ((k, x) :: r) = (if k = f then (k, v) :: r else (k, x) :: Eg f v r) from rfl]
    by_cases hk : k = f
    · rw [if_pos hk, gu, gu]; lia
    · rw [if_neg hk, gu, gu]; lia
theorem L7.some_of {v:V}{o:Za7}(r:L7 (some v) o):∃u,o=some u/\A9 v u:=by
 cases o with
 |none=>exact(show False from r).elim
 |some u=>exact⟨u,rfl,r⟩
theorem L7.none_of {o:Za7}(r:L7 none o):o=none:=by
 cases o with
 |none=>rfl
 |some u=>exact(show False from r).elim
theorem oB {v:V}{u:fv}(r:A9 v u):FH u=true:=by
 cases v with
 |non=>cases(show u=qw from r);rfl
 |bl b=>cases(show u=BO b from r);rfl
 |int i=>obtain⟨t,e⟩:=(show ∃t,u=nv i t from r);cases e;rfl
 |str x=>obtain⟨t,e⟩:=(show ∃t,u=z7 x t from r);cases e;rfl
 |byt b=>obtain⟨t,e⟩:=(show ∃t,u=JB b t from r);cases e;rfl
 |flt b=>obtain⟨t,e⟩:=(show ∃t,u=EJ b t from r);cases e;rfl
 |ref a=>cases(show u=je a from r);rfl
 |ty n=>cases(show u=m9 n from r);rfl
section
variable {P:gv} {w:ir} {H H':Hp} {h h':jo} {a C dx:fg} {fs fs':List (Str×V)}
theorem Re (hok:HOk P w H h)(e:H a=some (.ins C dx fs)):∃mA,iM h a dx C mA/\(∀f,L7 (fs.lookup f) (mA f))/\DQ mA (fs.map (·.1))/\fs.length<=1000/\H dx=some (.own a):=by
 obtain⟨d,z,ne,ob,mA,n,r,q⟩:=(show Bp P w H h a (.ins C dx fs) from hok a _ e);exact⟨mA,⟨ob,n,ne⟩,r,q,z,d⟩
end
structure Cls (K:eh) (C:fg):Prop where
 pg:wt K C yu=true
 hd:y4 K C=true
 po:EU K C=true
 sa:lf K (.ref C) "__setattr__"=some (some (.builtin "object.__setattr__"))
theorem Cls.get {K:eh}(c:Cls K C)(f:Str):wt K C f=true:=c.pg
def Bo (K:eh)(C:fg)(f:Str):Prop:=lf K (.ref C) f=some none
theorem Bo.taker {K:eh}{f:Str}(n:Bo K C f):z9 K C f=some none:=by
 unfold z9;rw[show lf K (.ref C) f=some none from n];rfl
structure nJ (K:eh) (C:fg) (m:Str) (f:fg):Prop where
 at_:lf K (.ref C) m=some (some (.ref f))
 fn:vn K (.ref f)=true
 kp:k8 K (.ref f)=true
section
variable {X:Cx} {pins:Za1} {G:St} {H:Hp} {s:fw} {a C dx:fg} {fs:List (Str×V)} {f:Str} {v:V} {A:ji} {E:Za0}
theorem hV {b:Bool}{Q:Za0}(I:Inv X pins G H s)(e:H a=some (.ins C dx fs))(c:Cls X.K C)(n:Bo X.K C f)(l:fs.lookup f=some v)
  (h:∀u s',Inv X pins G H s'->A9 v u->Q u s'):wpAny (model X.prog X.w) A (getAttr (.ref a) f b) Q E s:=by
 obtain⟨mA,O,r,_,_,_⟩:=Re I.hok e;obtain⟨u,hu,ru⟩:=L7.some_of (v:=v) (o:=mA f) (by rw[<-l];exact r f);exact vS I.kIn O (c.get f) c.hd n hu (oB ru) (h u _ (I.tok _) ru)
theorem Jh {m:Str}{g:fg}{Q:fv×Za3->fw->Prop}(I:Inv X pins G H s)(e:H a=some (.ins C dx fs))(c:Cls X.K C)(k:nJ X.K C m g)(l:fs.lookup m=none)
  (h:Q (.ref g,[.ref a]) s):wpAny (model X.prog X.w) A (getMethod (.ref a) m pl) Q E s:=by
 obtain⟨mA,O,r,_,_,_⟩:=Re I.hok e;have hn:mA m=none:=L7.none_of (by rw[<-l];exact r m);exact tG I.kIn O (c.get m) k.at_ k.fn hn h
theorem fZ {u:fv}{Q:Unit->fw->Prop}(I:Inv X pins G H s)(e:H a=some (.ins C dx fs))(c:Cls X.K C)(n:Bo X.K C f)(hl:fs.length<1000)(ry:A9 y u)
  (h:∀s',Inv X pins G (upd H a (.ins C dx (Eg f y fs))) s'->Q () s'):wpAny (model X.prog X.w) A (setAttr (.ref a) f u) Q E s:=by
 obtain⟨mA,O,r,wi,_,ho⟩:=Re I.hok e;have hz:(fs.map (·.1)).length<=sizeLine:=by rw[fb,HM];lia
 refine wZ I.kIn O c.sa c.po n.taker c.hd wi hz λh' O' sb=>h _ ?_;have hd:∃o,h'.get? dx=some o:=let ⟨o,_,_,e',_⟩:=O'.ns;⟨o,e'⟩;refine I.write (x:=a) (e:=dx) (by rw[e];exact o3) (.inr ho) (λb q hb z=>(sb.2 b hb).trans z) hd ?_;refine⟨by rw[Ai O.ne];exact ho,?_,O.ne,O'.obj,_,O'.ns,λg=>?_,λg hg=>?_⟩
 ·have:=Po f y fs;lia
 ·show L7 ((Eg f y fs).lookup g) (if g=f then some u else mA g)
  rw[Pp]
  by_cases q:g=f
  ·rw[if_pos q,if_pos q];exact ry
  ·rw[if_neg q,if_neg q];exact r g
 ·by_cases q:g=f
  ·rw[q];exact(O4 f y fs).1
  ·refine(O4 f y fs).2 g (wi g λz=>hg ?_)
   show(if g=f then some u else mA g)=none;rw[if_neg q];exact z
theorem Inv.made (I:Inv X pins G H s):Inv X pins G (upd (upd H s.heap.objs.size (.own (s.heap.objs.size+1))) (s.heap.objs.size+1) (.ins C s.heap.objs.size []))
  { s with heap:=(s.heap.push mz).push (instObj C s.heap.objs.size) }:=by
 have e1:(s.heap.push mz).get? s.heap.objs.size=some mz:=iq s.heap rfl;have e2:((s.heap.push mz).push (instObj C s.heap.objs.size)).get? (s.heap.objs.size+1)=some (instObj C s.heap.objs.size):=by
  have:=iq (s.heap.push mz) (o:=instObj C s.heap.objs.size) rfl
  rwa [we] at this
 have e3:(s.heap.push mz).Ns s.heap.objs.size (λ_=>none):=⟨mz,#[],_,e1,rfl,(λe he=>absurd he (by simp)),λ_=>rfl⟩;have I1:=I.laid (a:=s.heap.objs.size) (o:=.own (s.heap.objs.size+1)) (h':=s.heap.push mz) (t':=s.toks) (λb u q=>fh _ q) (fk _) ⟨_,e1⟩;refine I1.laid (a:=s.heap.objs.size+1) (o:=.ins C s.heap.objs.size []) (t':=s.toks) (λb u q=>fh _ q) (ot (we _ _)) ?_;have ne:s.heap.objs.size≠s.heap.objs.size+1:=ig (vd _);refine⟨by rw[Ai ne,Ac],i6 _,ne,e2,λ_=>none,(EQ e3).at λo q=>fh _ q,λ_=>o3,λy hy=>absurd rfl hy⟩
theorem kW {prog:gv}{e:jc}{f:Str}{Q:Za0}(hb:attributeBase e f env (eval e env)=eval e env)
  (h:wpAny (model prog w) A (eval e env) (λo QN=>wpAny (model prog w) A (getAttr o f true) Q E QN) E s):wpAny (model prog w) A (eval (.Attribute e f pos) env) Q E s:=
 Attribute_any_ h (by rw[arm_eval_Attribute,hb])
end
def Acf (K:eh)(ta:TE)(f:Str):TE:=λG H Q=>ta G H λx H1=>∃a C dx fs v,x=.ref a/\H1 a=some (.ins C dx fs)/\Cls K C/\Bo K C f/\fs.lookup f=some v/\Q v H1
def Abf (K:eh)(ta tv:TE)(f:Str):TS:=λD G H=>tv G H λy H1=>ta G H1 λx H2=>∃a C dx fs,x=.ref a/\H2 a=some (.ins C dx fs)/\Cls K C/\Bo K C f/\fs.length<1000 /\
 D.nx G (upd H2 a (.ins C dx (Eg f y fs)))
section
variable {X:Cx} {o e value:jc} {f:Str} {pos pos' tpos:Pos} {ta tv:TE}
theorem Acl (he:PE X e ta)(hb:attributeBase e f X.env (eval e X.env)=eval e X.env):PE X (.Attribute e f pos) (Acf X.K ta f):=by
 k_in;refine kW hb (thE he I h λu s1 x H1 I1 rx ⟨a,C,dx,fs,v,ex,ea,c,n,l,q⟩=>?_);subst ex;obtain rfl:u=je a:=rx;exact hV I1 ea c n l λu' s2 I2 ru=>⟨v,H1,I2,ru,q⟩
theorem Ab8 (ha:PE X o ta)(hv:PE X value tv)(hs:swapsWith value (some (.Attribute o f pos')) pos.line X.env=pure false):PS X (.Assign [.Attribute o f pos'] value pos) (Abf X.K ta tv f):=by
 k_end;refine plainObj_wpAny_Assign_Attribute (thE hv I h λu s1 y H1 I1 ry q=>thE ha I1 q λov s2 x H2 I2 rx ⟨a,C,dx,fs,ex,ea,c,n,l,q2⟩=>?_) hs;subst ex;obtain rfl:ov=je a:=rx;exact fZ I2 ea c n l ry λs3 I3=>⟨G,_,I3,q2⟩
theorem zO {m:Str}{apos:Pos}{args:List jc}{G:St}{Q:Za0}(he:PE X e te)(I:Inv X pins G H s)
  (h:te G H λx H1=>∃a C dx fs g,x=.ref a/\H1 a=some (.ins C dx fs)/\Cls X.K C/\nJ X.K C m g/\fs.lookup m=none /\
   ∀s1,Inv X pins G H1 s1->wpAny (model X.prog X.w) X.A (callWith pos (.ref g) [.ref a] (backTo pos (starEach args X.env)) (backToKw pos (keywordEach [] X.env))) Q X.xe s1)
  (ht:eval (.Call (.Attribute e m apos) args [] pos) X.env=(do
   let ov <-eval e X.env
   standAt apos.atName
   let (f,first) <-holding [ov] (getMethod ov m pl)
   callWith pos f first (backTo pos (starEach args X.env)) (backToKw pos (keywordEach [] X.env)))) :
  wpAny (model X.prog X.w) X.A (eval (.Call (.Attribute e m apos) args [] pos) X.env) Q X.xe s:=by
 refine tq (pl:=pl) (thE he I h λu s1 x H1 I1 rx ⟨a,C,dx,fs,g,ex,ea,c,k,l,q⟩=>?_) ht;subst ex;obtain rfl:u=je a:=rx;exact Jh I1 ea c k l (q s1 I1)
end
section
variable {X:Cx} {pins:Za1} {G:St} {H:Hp} {s:fw} {A:ji} {E:Za0} {Q:Za0} {c:fv} {b:Bool}
inductive G0 (K:eh) (H:Hp):V->fv->Prop where
 |non:G0 K H .non (.type "NoneType")
 |bl (x:Bool):G0 K H (.bl x) (.type "bool")
 |int (i:Int):G0 K H (.int i) (.type "int")
 |str (x:Str):G0 K H (.str x) (.type "str")
 |flt (x:UInt64):G0 K H (.flt x) (.type "float")
 |lst {a:fg} {xs:List V} (e:H a=some (.lst xs)):G0 K H (.ref a) (.type "list")
 |frz {a:fg} {o:Obj} {xs:List V} (e:H a=some (.frz o (.lst xs))):G0 K H (.ref a) (.type "list")
 |tup {a:fg} {xs:List V} (e:H a=some (.tup xs)):G0 K H (.ref a) (.type "tuple")
 |dK {a:fg} {kvs:List (Key×V)} (e:H a=some (.dK kvs)):G0 K H (.ref a) (.type "dict")
 |dT {a:fg} {kvs:List (List Key×V)} (e:H a=some (.dT kvs)):G0 K H (.ref a) (.type "dict")
 |ins {a C dx:fg} {fs:List (Str×V)} (e:H a=some (.ins C dx fs)) (cl:Cls K C) (ha:lf K (.ref C) "__class__"=some (some (.builtin "object.__class__")))
   (hn:ET K (.builtin "object.__class__") "__get__"=some (some (.builtin "getset_descriptor.__get__"))) (htk:PySem.W.takesIn K (.builtin "object.__class__")=some true)
   (hm:PySem.W.mroIn K C (.type "object")=some true):G0 K H (.ref a) (.ref C)
theorem nZ {x:V}{u t:fv}(I:Inv X pins G H s)(rx:A9 x u)(ty:G0 X.K H x t)(e:kitOne X.K t c=some b)(h:∀tk,Q (.bool b) { s with toks:=tk }) :
  wpAny (model X.prog X.w) A (call (.builtin "isinstance") [u,c]) Q E s:=by
 cases ty with
 |non=>cases(show u=qw from rx);exact uv PySem.W.kitx_none I.kIn o3 e (λz=>nomatch z) h
 |bl y=>cases(show u=BO y from rx);exact uv PySem.W.kitx_bool I.kIn o3 e (λz=>nomatch z) h
 |int i=>obtain⟨t,q⟩:=(show ∃t,u=nv i t from rx);cases q;exact uv PySem.W.kitx_int I.kIn o3 e (λz=>nomatch z) h
 |str y=>obtain⟨t,q⟩:=(show ∃t,u=z7 y t from rx);cases q;exact uv PySem.W.kitx_str I.kIn o3 e (λz=>nomatch z) h
 |flt y=>obtain⟨t,q⟩:=(show ∃t,u=EJ y t from rx);cases q;exact uv PySem.W.kitx_float I.kIn o3 e (λz=>nomatch z) h
 | @lst a xs ea=>
  cases(show u=je a from rx);obtain⟨_,_,n,_,h1⟩:=(show Bp X.prog X.w H s.heap a (.lst xs) from I.hok a _ ea);exact uv EV I.kIn ⟨_,h1,rfl⟩ e (λz=>nomatch z) h
 | @frz a ob xs ea=>
  cases(show u=je a from rx);obtain⟨_,_,_,n,_,h1⟩:=(show Bp X.prog X.w H s.heap a (.frz ob (.lst xs)) from I.hok a _ ea);exact uv EV I.kIn ⟨_,h1,rfl⟩ e (λz=>nomatch z) h
 | @tup a xs ea=>
  cases(show u=je a from rx);obtain⟨_,_,_,p⟩:=(show Bp X.prog X.w H s.heap a (.tup xs) from I.hok a _ ea);obtain⟨o,h1,h2,_⟩:=p;exact uv PySem.W.kitx_tuple I.kIn ⟨o,h1,h2⟩ e (λz=>nomatch z) h
 | @dK a kvs ea=>
  cases(show u=je a from rx);obtain⟨_,_,vs,_,p⟩:=(show Bp X.prog X.w H s.heap a (.dK kvs) from I.hok a _ ea);obtain⟨o,es,ep,h1,h2,_⟩:=p;exact uv EW I.kIn ⟨o,h1,h2.1⟩ e (λz=>nomatch z) h
 | @dT a kvs ea=>
  cases(show u=je a from rx);obtain⟨_,_,xs,_,o,es,ep,h1,h2,_⟩:=(show Bp X.prog X.w H s.heap a (.dT kvs) from I.hok a _ ea);exact uv EW I.kIn ⟨o,h1,h2.1⟩ e (λz=>nomatch z) h
 | @ins a C dx fs ea cl ha hn htk hm=>
  cases(show u=je a from rx);obtain⟨mA,O,_⟩:=Re I.hok ea;obtain⟨od,J,_⟩:=O.look;exact uv (PySem.W.kitx_own (cl.get _) cl.hd ha hn htk hm) I.kIn J e (λz=>nomatch z) h
end
structure Bv (k:Nat) (A:ji):Prop where
 hd:A.handled=none
 dp:A.depth+3*k+5<recursionLimit
 un:A.units+16*k+200<cLine
theorem Bv.mono {j k:Nat}(r:Bv k A)(h:j<=k):Bv j A:=⟨r.hd,by have:=r.dp;lia,by have:=r.un;lia⟩
theorem Bv.m {j k:Nat}(r:Bv k A)(h:autoParam (j<=k) QF):Bv j A:=r.mono h
theorem Bv.deeper {k:Nat}(r:Bv (k+1) A)(env:Env):Bv k (A.deeper env):=
 ⟨r.hd,by have:=r.dp;show A.depth+1+3*k+5<_;lia,by have:=r.un;show A.units+3+16*k+200<_;lia⟩
theorem fY {kw:List (Str×fv)}:(A.under (.builtin "type.__call__" ⟨.ref C::us,kw⟩)).depth=A.depth+1:=by
 first|rfl|simp[DN,Code.weight,Code.isCreation,Code.isGuard,Code.isCaller,KG,ED,guardIds]
theorem gX {kw:List (Str×fv)}:(A.under (.builtin "type.__call__" ⟨.ref C::us,kw⟩)).units=A.units+1:=by
 first|rfl|simp[DN,Code.cUnits,KG,ED]
theorem Bv.make {k:Nat}(r:Bv (k+1) A)(C:fg)(us:Za3)(kw:List (Str×fv)):Bv k (A.under (.builtin "type.__call__" ⟨.ref C::us,kw⟩)):=
 ⟨r.hd,by have:=r.dp;rw[fY];lia,by have:=r.un;rw[gX];lia⟩
theorem Bv.depth {k:Nat}(r:Bv k A):A.depth<recursionLimit:=by have:=r.dp;lia
theorem Bv.units {k:Nat}(r:Bv k A):A.units+64<cLine:=by have:=r.un;lia
def Xl:TA:=λ_ H Q=>Q [] H
def Te (ta:TE)(tr:TA):TA:=λG H Q=>ta G H λx H1=>tr G H1 λxs H2=>Q (x::xs) H2
section
variable {X:Cx} {e:jc} {es:List jc} {te:TE} {t:TA} {pos:Pos}
theorem Aa:PA X [] Xl:=λ_ _ _ _ H Q I h=>wo ⟨[],H,I,.nil,h⟩
theorem jB (ha:PE X e te)(hr:PA X es t)(hs:autoParam (starEach (e::es) X.env=(false,eval e X.env)::starEach es X.env) QD):PA X (e::es) (Te te t):=by
 intro pos pins s G H Q I h;rw[hs];show wpAny _ _ (spliced ((false,eval e X.env)::backTo pos (starEach es X.env))) _ _ s;refine qj (thE ha I h λu s1 x H1 I1 r1 q1=>?_);exact thA hr I1 q1 λus s2 xs H2 I2 r2 q2=>⟨x::xs,H2,I2,.cons r1 r2,q2⟩
def Ad5 (t:TA):TE:=λG H Q=>t G H λxs H1=>xs.length<=sizeLine/\∀p,H1 p=none->Q (.ref p) (upd H1 p (.tup xs))
def Acn (t:TA):TE:=λG H Q=>t G H λxs H1=>xs.length<=sizeLine/\∀p,H1 p=none->Q (.ref p) (upd H1 p (.lst xs))
theorem Gn {x1}(h:PA X es t):PE X (.Tuple es x1 pos) (Ad5 t):=by
 intro pins s G H Q I hq;refine wpAny_Tuple_spliced (thA h I hq λus s1 xs H1 I1 r ⟨z,q⟩=>⟨by rw[<-r.length];exact z,?_⟩);have hf:H1 s1.heap.objs.size=none:=I1.hok.fresh (fk _);refine⟨.ref s1.heap.objs.size,upd H1 s1.heap.objs.size (.tup xs),I1.laid (t':=s1.toks) (λb u e=>fh _ e) (fk _) ?_,rfl,q _ hf⟩;exact⟨z,us,r,⟨_,iq _ rfl,rfl,_,rfl⟩⟩
theorem A8 (h:PA X es t):PE X (.List es pos) (Acn t):=by
 intro pins s G H Q I hq;refine wpAny_List_spliced (thA h I hq λus s1 xs H1 I1 r ⟨z,q⟩=>⟨by rw[<-r.length];exact z,?_⟩);have hf:H1 s1.heap.objs.size=none:=I1.hok.fresh (fk _);refine⟨.ref s1.heap.objs.size,upd H1 s1.heap.objs.size (.lst xs),I1.laid (t':=s1.toks) (λb u e=>fh _ e) (fk _) ?_,rfl,q _ hf⟩;exact⟨z,us,0,r,iq _ rfl⟩
end
abbrev Sp:=List V->Hp->VK->XK->Prop
abbrev CXT:=List Env->Hp->fw->XK->Za0
structure P7 (P:gv) (w:ir) (K:eh) (mg:Za2) (base:jo) (A:ji) (outer:List Env) (s:fw) (H:Hp):Prop where
 frames:A.frames=some outer
 mod:Mod K mg base
 bs:∀b o,base.get? b=some o->s.heap.get? b=some o/\H b=none
 bsz:base.objs.size<=s.heap.objs.size
 funs:s.heap.FunFrames base outer
 frf:∀b∈frs outer,H b=none
 hok:HOk P w H s.heap
 bare:ww s.gens
def CE (outer:List Env)(P:gv)(w:ir)(H:Hp)(s:fw)(Q:VK)(u:fv)(s':fw):Prop:=
 ∃v H',s'.os=s.os/\ww s'.gens/\Un (frs outer) [] H H' s.heap s'.heap/\HOk P w H' s'.heap/\A9 v u/\Q v H'
def CR (CX:CXT)(outer:List Env)(P:gv)(w:ir)(H:Hp)(s:fw)(Q:VK)(E:XK)(r:yp)(s':fw):Prop:=
 match r with
 |.ok (.ret u)=>CE outer P w H s Q u s'
 |.ok _=>False
 |.error e=>CX outer H s E e s'
structure As (P:gv) (w:ir) (K:eh) (mg:Za2) (base:jo) (CX:CXT) (k:Nat) (f:fg) (fd:ke) (ps:Za6) (sp:Sp):Prop where
 len:∀vs H Q E,sp vs H Q E->vs.length=ps.length
 run:∀(A:ji) (outer:List Env) (s:fw) (H:Hp) (args:Args) (us:Za3) (vs:List V) (Q:VK) (E:XK),Bv k A->P7 P w K mg base A outer s H->BX s fd args (ps.zip us)->Av vs us->sp vs H Q E ->
  codeAny (model P w) A (.call (.ref f) args) (CR CX outer P w H s Q E) s
theorem P7.make {P:gv}{K:eh}{mg:Za2}(e:P7 P w K mg base A outer s H)(C:fg)(us:Za3)(kw:List (Str×fv)) :
  P7 P w K mg base (A.under (.builtin "type.__call__" ⟨.ref C::us,kw⟩)) outer s H:=⟨by first|exact e.frames|(simpa [DN,Code.envs,ED,pushEnvs] using e.frames),e.mod,e.bs,e.bsz,e.funs,e.frf,e.hok,e.bare⟩
section
variable {X:Cx} {pins:Za1} {G:St} {H:Hp} {s s':fw}
theorem Inv.env0 (I:Inv X pins G H s):P7 X.prog X.w X.K X.mg X.base X.A X.stack s H:=
 ⟨I.ok.frames,I.ok.mod,I.bs,io I.ok.bsz I.sz,I.stack,I.stkFree,I.hok,I.bare⟩
theorem Inv.after {Q:VK}{u:fv}(I:Inv X pins G H s)(h:CE X.stack X.prog X.w H s Q u s'):EP X pins G Q u s':=by
 obtain⟨v,H',os,bare,un,hok,r,q⟩:=h;obtain⟨hh,g,d,t,os'⟩:=s';obtain rfl:os'=s.os:=os;exact⟨v,H',I.call (h':=hh) (g':=g) (d':=d) (t':=t) (ch:=[]) un hok bare (λb z=>absurd z (by simp)),r,q⟩
end
def Zg (sp:Sp)(dvs:List V)(E:XK)(t:TA):TE:=λG H Q=>t G H λvs H1=>sp (vs++dvs) H1 Q E
def Th (C:fg)(m:Str)(sp:Sp)(dvs:List V)(E:XK)(ta:TE)(t:TA):TE:=λG H Q=>ta G H λx H1=>∃a dx fs,x=.ref a/\H1 a=some (.ins C dx fs)/\fs.lookup m=none /\
 t G H1 λvs H2=>sp (x::(vs++dvs)) H2 Q E
def U5 (C:fg)(sp:Sp)(dvs:List V)(E:XK)(t:TA):TE:=λG H Q=>t G H λvs H1=>∀x dx,H1 x=none->H1 dx=none->dx≠x ->
 sp (.ref x::(vs++dvs)) (upd (upd H1 dx (.own x)) x (.ins C dx [])) (λv H2=>v=.non/\Q (.ref x) H2) E
def Dn (K:eh)(fd:ke)(ps:Za6)(ds:Za3):Prop:=
 ∀(s:fw) (us:Za3),K.In s.heap->(us++ds).length=ps.length->BX s fd ⟨us,[]⟩ (ps.zip (us++ds))
theorem Dn.all {K:eh}(h:∀us:Za3,us.length=ps.length->bindArgs fd ⟨us,[]⟩=pure (ps.zip us)):Dn K fd ps []:=λs us _ hl=>by
 rw[ip] at hl ⊢;exact .of_eq (h us hl)
def Ft (CX:CXT)(X:Cx)(E:XK):Prop:=∀(pins:Za1) (G:St) (H:Hp) (s:fw) (e:fv) (s':fw),Inv X pins G H s->CX X.stack H s E e s'->X.xe e s'
section
variable {X:Cx} {CX:CXT} {k:Nat} {f C:fg} {fd:ke} {ps:Za6} {sp:Sp} {dvs:List V} {ds:Za3} {E:XK} {x m:Str} {p pos apos:Pos} {e o:jc} {es:List jc} {ta:TE} {t:TA}
theorem fP {G:St}{Q:VK}{vs:List V}(F:As X.prog X.w X.K X.mg X.base CX k f fd ps sp)(hr:Bv k X.A)(hb:Dn X.K fd ps ds)(hd:Av dvs ds)(hx:Ft CX X E)
  (I:Inv X pins G H s)(r:Av vs us)(h:sp (vs++dvs) H Q E):wpAny (model X.prog X.w) X.A (call (.ref f) us) (EP X pins G Q) X.xe s:=by
 have r2:Av (vs++dvs) (us++ds):=r.append hd;have hl:(us++ds).length=ps.length:=by rw[<-r2.length];exact F.len _ _ _ _ h
 refine om (qb (F.run X.A X.stack s H ⟨us,[]⟩ (us++ds) (vs++dvs) Q E hr I.env0 (hb s us I.kIn hl) r2 h) λr s' hq=>?_)
 cases r with
 |error e=>exact hx pins G H s e s' I hq
 |ok fl=>
  cases fl with
  |ret u=>exact I.after hq
  |next=>exact l5 hq
  |brk=>exact l5 hq
  |cont=>exact l5 hq
theorem jZ (F:As X.prog X.w X.K X.mg X.base CX k f fd ps sp)(hr:Bv k X.A)(hg:Gl X x)(hm:X.mg x=some (.ref f))(hk:k8 X.K (.ref f)=true)(hb:Dn X.K fd ps ds)(hd:Av dvs ds)(hx:Ft CX X E)
  (ha:PA X (e::es) t)(hdb:autoParam ((x==("__debug__":Str))=false) QF)(he:autoParam (starEach (e::es) X.env=(false,eval e X.env)::starEach es X.env) QD)(hpl:autoParam ((backTo pos (starEach es X.env)).any (·.1)=false) QD) :
  PE X (.Call (.Name x p) (e::es) [] pos) (Zg sp dvs E t):=by
 k_in;refine wpAny_Call_Name_kw (F3 I hg hm ?_ hdb);refine callWith_K (h₀:=X.base) I.ok.mod.kin hk (thA ha I h λus s1 vs H1 I1 r q=>⟨I1.kIn,?_⟩) he hpl;exact fP F hr hb hd hx I1 r q
theorem jH (he:PE X o ta)(c:Cls X.K C)(hm:nJ X.K C m f)(F:As X.prog X.w X.K X.mg X.base CX k f fd ps sp)(hr:Bv k X.A)(hb:Dn X.K fd ps ds)(hd:Av dvs ds)(hx:Ft CX X E)(ha:PA X (e::es) t)
  (hst:autoParam (starEach (e::es) X.env=(false,eval e X.env)::starEach es X.env) QD)(hpl:autoParam ((backTo pos (starEach es X.env)).any (·.1)=false) QD)
  (ht:autoParam (eval (.Call (.Attribute o m apos) (e::es) [] pos) X.env=(do
   let ov <-eval o X.env
   standAt apos.atName
   let (f,first) <-holding [ov] (getMethod ov m pl)
   callWith pos f first (backTo pos (starEach (e::es) X.env)) (backToKw pos (keywordEach [] X.env)))) QD) :
  PE X (.Call (.Attribute o m apos) (e::es) [] pos) (Th C m sp dvs E ta t):=by
 k_in;refine tq (pl:=pl) (thE he I h λu s1 x H1 I1 rx ⟨a,dx,fs,ex,ea,l,q⟩=>?_) ht;subst ex;obtain rfl:u=je a:=rx;refine Jh I1 ea c hm l ?_;refine callWith_K (first:=[.ref a]) (h₀:=X.base) I.ok.mod.kin hm.kp (thA ha I1 q λus s2 vs H2 I2 r q2=>⟨I2.kIn,?_⟩) hst hpl;exact fP (us:=.ref a::us) (vs:=.ref a::vs) F hr hb hd hx I2 (.cons rfl r) q2
theorem uG (he:PE X o ta)(c:Cls X.K C)(hm:nJ X.K C m f)(F:As X.prog X.w X.K X.mg X.base CX k f fd ps sp)(hr:Bv k X.A)(hb:Dn X.K fd ps ds)(hd:Av dvs ds)(hx:Ft CX X E)
  (ht:autoParam (eval (.Call (.Attribute o m apos) [] [] pos) X.env=(do
   let ov <-eval o X.env
   standAt apos.atName
   let (f,first) <-holding [ov] (getMethod ov m pl)
   callWith pos f first (backTo pos (starEach [] X.env)) (backToKw pos (keywordEach [] X.env)))) QD) :
  PE X (.Call (.Attribute o m apos) [] [] pos) (Th C m sp dvs E ta Xl):=by
 k_in;refine tq (pl:=pl) (thE he I h λu s1 x H1 I1 rx ⟨a,dx,fs,ex,ea,l,q⟩=>?_) ht;subst ex;obtain rfl:u=je a:=rx;refine Jh I1 ea c hm l ?_;exact PySem.W.callWith_K0 (first:=[.ref a]) I1.kIn hm.kp (fP (us:=[.ref a]) (vs:=[.ref a]) F hr hb hd hx I1 (.cons rfl .nil) q)
structure Mk (K:eh) (C f:fg):Prop where
 makes:FR K C=true
 init:lf K (.ref C) "__init__"=some (some (.ref f))
 fn:vn K (.ref f)=true
 kp:k8 K (.ref C)=true
theorem sO {G:St}{Q:VK}{vs:List V}(M:Mk X.K C f)(F:As X.prog X.w X.K X.mg X.base CX k f fd ps sp)(hr:Bv (k+1) X.A)(hb:Dn X.K fd ps ds)(hd:Av dvs ds)
  (hx:Ft CX X E)(I:Inv X pins G H s)(r:Av vs us)
  (h:∀x dx,H x=none->H dx=none->dx≠x->sp (.ref x::(vs++dvs)) (upd (upd H dx (.own x)) x (.ins C dx [])) (λv H2=>v=.non/\Q (.ref x) H2) E) :
  wpAny (model X.prog X.w) X.A (call (.ref C) us) (EP X pins G Q) X.xe s:=by
 have hq:=h (s.heap.objs.size+1) s.heap.objs.size (I.hok.fresh (vo _)) (I.hok.fresh (fk _)) (ig (vd _));have I2:=Inv.made (C:=C) I;have r2:Av (V.ref (s.heap.objs.size+1)::(vs++dvs)) (je (s.heap.objs.size+1)::(us++ds)):=.cons rfl (r.append hd);have hl:(je (s.heap.objs.size+1)::us++ds).length=ps.length:=by
  have e:=r2.length;rw[F.len _ _ _ _ hq] at e;exact e.symm
 refine om (Yq (f:=f) I.kIn M.makes M.init (beq_iff_eq.mp M.fn) (qb (F.run _ X.stack _ _ ⟨je (s.heap.objs.size+1)::us,[]⟩ (je (s.heap.objs.size+1)::(us++ds)) _ _ E (hr.make C us [])
  (I2.env0.make C us []) (hb _ (je (s.heap.objs.size+1)::us) I2.kIn hl) r2 hq) λr s' hq'=>?_))
 cases r with
 |error e=>exact hx pins G _ _ e s' I2 hq'
 |ok fl=>
  cases fl with
  |ret u=>
   obtain⟨v,H',I3,rv,ev,q3⟩:=I2.after hq';subst ev;exact⟨rv,⟨V.ref (s.heap.objs.size+1),H',I3,rfl,q3⟩⟩
  |next=>exact l5 hq'
  |brk=>exact l5 hq'
  |cont=>exact l5 hq'
theorem W4 (M:Mk X.K C f)(F:As X.prog X.w X.K X.mg X.base CX k f fd ps sp)(hr:Bv (k+1) X.A)(hg:Gl X x)(hm:X.mg x=some (.ref C))(hb:Dn X.K fd ps ds)(hd:Av dvs ds)(hx:Ft CX X E)
  (ha:PA X (e::es) t)(hdb:autoParam ((x==("__debug__":Str))=false) QF)(he:autoParam (starEach (e::es) X.env=(false,eval e X.env)::starEach es X.env) QD)(hpl:autoParam ((backTo pos (starEach es X.env)).any (·.1)=false) QD) :
  PE X (.Call (.Name x p) (e::es) [] pos) (U5 C sp dvs E t):=by
 k_in;refine wpAny_Call_Name_kw (F3 I hg hm ?_ hdb);refine callWith_K (h₀:=X.base) I.ok.mod.kin M.kp (thA ha I h λus s1 vs H1 I1 r q=>⟨I1.kIn,?_⟩) he hpl;exact sO M F hr hb hd hx I1 r q
end
def PK (X:Cx)(kws:List BR)(t:TA):Prop:=
 ∀(pos:Pos) (pins:Za1) (s:fw) (G:St) (H:Hp) (Q:List V->Hp->Prop),Inv X pins G H s->t G H Q->wpAny (model X.prog X.w) X.A (evalAll ((backToKw pos (keywordEach kws X.env)).map (·.2))) (AP X pins G Q) X.xe s
section
variable {X:Cx} {CX:CXT} {k:Nat} {f C:fg} {fd:ke} {ps ks:Za6} {sp:Sp} {E:XK} {x m:Str} {p pos apos kpos:Pos} {e o:jc} {es:List jc} {kws:List BR} {te ta:TE} {t tk:TA} {nm:Option Str}
theorem Ab2:PK X [] Xl:=λ_ _ _ _ H Q I h=>wpAny_evalAll_nil ⟨[],H,I,.nil,h⟩
theorem xA (ha:PE X e te)(hr:PK X kws t):PK X (⟨nm,e,kpos⟩::kws) (Te te t):=by
 intro pos pins s G H Q I h;show wpAny _ _ (evalAll ((do let v <-eval e X.env;standAt pos;pure v)::(backToKw pos (keywordEach kws X.env)).map (·.2))) _ _ s;refine wpAny_evalAll_cons (wpAny_bind (thE ha I h λu s1 x H1 I1 r1 q1=>wpAny_bind (qf (ft ?_))));exact thn (hr pos pins s1 G H1 _ I1 q1) λus s2 ⟨xs,H2,I2,r2,q2⟩=>⟨x::xs,H2,I2,.cons r1 r2,q2⟩
variable {g:Za3->Za3->Za3} {gV:List V->List V->List V}
end
structure Aj (N P:Za6) (sc:ol):Prop where
 kind:sc.kind=.function
 co:sc.isCoroutine=false
 gen:sc.isGenerator=false
 nd:N.Nodup
 pre:N.take P.length=P
 par:∀x∈P,sc.names.lookup x=some .local\/sc.names.lookup x=some .cell
 nofree:∀y∈sc.names,y.2≠.free
theorem Uq {kindOf:Str->Option rn}{x:Str}:∀ {binds:List (Str×fv)} {m:Za2},(∀ v,(x,v)∉binds)->bindL kindOf binds m x=m x
  | [], _, _ => rfl
  | (n, v) :: r, m, h => by
    unfold bindL;rw [Uq λw hw => h w (gz _ hw)];split
    · have : x ≠ n := by rintro rfl; exact h v il
      simp [this]
    · rfl
theorem Uv {kindOf:Str->Option rn}{x:Str}:∀ {binds:List (Str×fv)} {m:Za2},(∀ v,(x,v)∉binds)->bindC kindOf binds m x=m x
  | [], _, _ => rfl
  | (n, v) :: r, m, h => by
    unfold bindC;rw [Uv λw hw => h w (gz _ hw)];split
    · rfl
    · have : x ≠ n := by rintro rfl; exact h v il
      simp [this]
theorem Va {kindOf:Str->Option rn}{x:Str}{v:fv}:∀{P:Za6} {vs:Za3} {i:Nat} {m:Za2},P.Nodup->P[i]?=some x->vs[i]?=some v->kindOf x=some .local ->
  bindL kindOf (P.zip vs) m x=some v
 |[],_,_,_,_,h,_,_=>by simp at h
 |_::_,[],_,_,_,_,h,_=>by simp at h
 |p::P,w::vs,0,m,nd,h1,h2,hk=>by
  simp at h1 h2;subst h1;subst h2;show bindL kindOf ((p,w)::P.zip vs) m p=_;unfold bindL;rw[Uq λv hv=>(vp.mp nd).1 (sd hv).1,if_pos hk];simp
 |p::P,w::vs,i+1,m,nd,h1,h2,hk=>by
  show bindL kindOf ((p,w)::P.zip vs) m x=_;unfold bindL;exact Va (i:=i) (vp.mp nd).2 (by simpa using h1) (by simpa using h2) hk
theorem Up {kindOf:Str->Option rn}{x:Str}{v:fv}:∀{P:Za6} {vs:Za3} {i:Nat} {m:Za2},P.Nodup->P[i]?=some x->vs[i]?=some v->kindOf x≠some .local ->
  bindC kindOf (P.zip vs) m x=some v
 |[],_,_,_,_,h,_,_=>by simp at h
 |_::_,[],_,_,_,_,h,_=>by simp at h
 |p::P,w::vs,0,m,nd,h1,h2,hk=>by
  simp at h1 h2;subst h1;subst h2;show bindC kindOf ((p,w)::P.zip vs) m p=_;unfold bindC;rw[Uv λv hv=>(vp.mp nd).1 (sd hv).1,if_neg hk];simp
 |p::P,w::vs,i+1,m,nd,h1,h2,hk=>by
  show bindC kindOf ((p,w)::P.zip vs) m x=_;unfold bindC;exact Up (i:=i) (vp.mp nd).2 (by simpa using h1) (by simpa using h2) hk
def Hk (N:Za6)(vs:List V):St:=vs.map some++fu (N.length-vs.length) none
def By (CX:CXT)(P:gv)(w:ir)(K:eh)(mg:Za2)(base:jo)(N:Za6)(qual:Str)(scope:ol)(f:fg)(cd:fv)(A:ji)(outer:List Env)(s:fw)(H:Hp)(E:XK):Cx where
 prog:=P
 w:=w
 K:=K
 mg:=mg
 base:=base
 A:=A.deeper (envOfC qual scope s.heap.objs.size f cd)
 N:=N
 mt:=s
 QP:=H
 env:=envOfC qual scope s.heap.objs.size f cd
 outer:=outer
 stack:=envOfC qual scope s.heap.objs.size f cd::outer
 ex:=[]
 calm:=true
 fn:=λ_=>true
 pn:=[]
 xe:=λe s'=>wpAny (model P w) (A.deeper (envOfC qual scope s.heap.objs.size f cd)) (leaving (envOfC qual scope s.heap.objs.size f cd) e) (λ_ s''=>CX outer H s E e s'') (λe' s''=>CX outer H s E e' s'') s'
theorem Y0 {sc:ol}{n:Nat}{x:Str}(h:sc.names.lookup x=some .cell):∃c,(cellsFrom n sc.names []).lookup x=some c:=by
 have q:=w9 sc.names n [] (.inl h);exact jw.mp q
theorem Uj {P:gv}{K:eh}{mg:Za2}{f:fg}{cd:fv}{s1:fw}{E:XK}{vs:List V}
  (S:Aj N ps scope)(hd:A.handled=none)(e0:P7 P w K mg base A outer s H)(hl:vs.length=ps.length)(r:Av vs us)
  (x:InCallC s s.heap.objs.size (bindL (envOfC qual scope s.heap.objs.size f cd).kindOf (ps.zip us) λ_=>none) (cellsFrom (s.heap.objs.size+1) scope.names []) (bindC (envOfC qual scope s.heap.objs.size f cd).kindOf (ps.zip us) λ_=>none) s1) :
  Inv (By CX P w K mg base N qual scope f cd A outer s H E) [] (Hk N vs) H s1:=by
 have hpl:ps.length<=N.length:=by have:=congrArg n6 S.pre;rw[f7] at this;lia
 obtain⟨h1,tk,rfl,hk⟩:=x.done;have noA:∀b:fg,b∉(By CX P w K mg base N qual scope f cd A outer s H E).ex:=λb z=>absurd (show b∈([]:List fg) from z) (by simp);refine⟨⟨e0.mod,S.kind,rfl,rfl,fk _,λy z c h1 h2=>?_,λy hy=>?_,λy c _ h=>?_,λ_=>hd,yh e0.frames,.inr ⟨rfl,rfl⟩,λb z=>absurd z (noA b),e0.bs,e0.bsz,λb _ _=>noA b,λb z=>absurd z (noA b),e0.funs,e0.frf⟩,
  rfl,e0.bare,Un.kept hk,⟨_,x.toInCall.ns,λi y v h1 h2 h3=>?_⟩,λy c h=>⟨_,x.cell y c h⟩,e0.hok.fresh (fk _),λy c h=>?_,λp hp=>absurd (show p∈([]:Za1) from hp) (by simp),e0.hok.kept hk,?_⟩
 ·exact name_of_addr x.apart (k6 h1) (k6 h2)
 ·have hy:scope.names.lookup y=some .cell\/scope.names.lookup y=some .free:=hy
  rcases hy with hy|hy
  ·exact Y0 hy
  ·exact absurd rfl (S.nofree _ (k6 hy))
 ·exact jx (x.above y c (k6 h))
 ·have hi:i<vs.length:=by
   unfold Hk at h2
   by_cases hi:i<vs.length
   ·exact hi
   ·rw[f8 (by simpa using hi)] at h2
    rw[n9] at h2;split at h2<;>cases h2
  have ha:vs[i]?=some v:=by
   unfold Hk at h2;rw[ie (by simpa using hi),gd] at h2
   cases e:vs[i]? with
   |none=>rw[e] at h2;cases h2
   |some a=>rw[e] at h2;cases h2;rfl
  obtain⟨u,hu,rv⟩:=r.get ha;have hp:ps[i]?=some y:=by
   rw[<-S.pre,jf (by lia)];exact h1
  have ndP:ps.Nodup:=by rw[<-S.pre];exact S.nd.sublist (List.take_sublist _ _)
  refine⟨u,rv,?_⟩;rcases S.par y (gg hp) with k|k
  ·exact .inl ⟨k,Va ndP hp hu k⟩
  ·obtain⟨c,e⟩:=Y0 (n:=s.heap.objs.size+1) k
   refine .inr ⟨.inl k,c,e,?_⟩;have q:=x.cell y c e;rw[Up ndP hp hu (by show scope.names.lookup y≠_;rw[k];decide)] at q;exact q
 ·exact e0.hok.fresh (jx (x.above y c (k6 h)))
 ·unfold Hk
  show _=N.length;rw[fe,fb,iz];lia
theorem jR {P:gv}{K:eh}{mg:Za2}{k:Nat}{f:fg}{name:Str}{body:List jr}{dV kV:fv} 
  {osl:Array (Za7)}(lk:K.lookup f=some ⟨oc,od,.func (kl name qual params body scope dV kV doc pm an cdv ct),osl⟩)(hcd:m7 K cdv qual=true)(S:Aj N ps scope)
  (len:∀vs H Q E,sp vs H Q E->vs.length=ps.length)
  (hbody:∀(A:ji) (outer:List Env) (s:fw) (H:Hp) (vs:List V) (Q:VK) (E:XK),Bv k (A.deeper (envOfC qual scope s.heap.objs.size f cdv))->sp vs H Q E ->
   ∃t,PSs (By CX P w K mg base N qual scope f cdv A outer s H E) body t/\t { nx:=λ_ H'=>Q .non H',rt:=Q } (Hk N vs) H) :
  As P w K mg base CX (k+1) f (kl name qual params body scope dV kV doc pm an cdv ct) ps sp:=by
 refine⟨len,λA outer s H args us vs Q E hr e0 hb r hsp=>?_⟩;have hl:=len _ _ _ _ hsp;have KX:K.In s.heap:=e0.mod.kin.keeps λb o e=>(e0.bs b o e).1;have lim:s.heap.NoLimit:=e0.mod.nolimit.keeps λb o e=>(e0.bs b o e).1;have hkind:∀y∈ps.zip us,scope.names.lookup y.1=some .local\/(scope.names.lookup y.1=some .cell/\((cellsFrom (s.heap.objs.size+1) scope.names []).lookup y.1).isSome=true):=λ⟨n,v⟩ hy=>by
  rcases S.par n (sd hy).1 with q|q
  ·exact .inl q
  ·exact .inr ⟨q,w9 _ _ _ (.inl q)⟩
 refine GO hr.depth (KX _ _ lk) rfl S.co S.gen rfl (EL KX hcd) (hb _ _ _ _ ?_);refine EH S.kind hkind λenv he s1 x=>?_;subst he;refine⟨lim.keeps x.toInCall.keep,NR ?_⟩;obtain⟨t,ht,hq⟩:=hbody A outer s H vs Q E (hr.deeper _) hsp;have I:Inv (By CX P w K mg base N qual scope f cdv A outer s H E) [] (Hk N vs) H s1:=Uj S hr.hd e0 hl r x;refine wpAny_mono (ht [] s1 (Hk N vs) H _ I hq) (λfl s' hs=>?_) λe s' hs=>hs;have fin:∀{QM:St} {H':Hp} {v:V} {u:fv},Inv (By CX P w K mg base N qual scope f cdv A outer s H E) [] QM H' s'->A9 v u->Q v H'->CE outer P w H s Q u s':=
  λ{QM H' v u} J rv q=>⟨v,H',J.os,J.bare,J.base,J.hok,rv,q⟩
 cases fl with
 |ret u=>
  obtain⟨v,QM,H',J,rv,q⟩:=hs;exact fin J rv q
 |next=>
  obtain⟨QM,H',J,q⟩:=hs;exact fin (v:=V.non) (u:=qw) J rfl q
 |brk=>
  obtain⟨_,_,_,q⟩:=hs;exact l5 q
 |cont=>
  obtain⟨_,_,_,q⟩:=hs;exact l5 q
section
variable {X:Cx} {x:Str} {p pos:Pos} {e:jc} {es:List jc} {t:TA} {id T:String} {r:List V->Hp->VK->Prop}
def tCB (r:List V->Hp->VK->Prop)(t:TA):TE:=λG H Q=>t G H λvs H1=>r vs H1 Q
theorem Am (hc:Ey X (.builtin id) r)(hg:Gl X x)(hm:X.mg x=none)(hv:bootBuiltins x=some (.builtin id))(ha:PA X (e::es) t)(hn:autoParam (x≠"__name__") QF)(hdb:autoParam ((x==("__debug__":Str))=false) QF)
  (he:autoParam (starEach (e::es) X.env=(false,eval e X.env)::starEach es X.env) QD)(hpl:autoParam ((backTo pos (starEach es X.env)).any (·.1)=false) QD):PE X (.Call (.Name x p) (e::es) [] pos) (tCB r t):=by
 k_in;refine wpAny_Call_Name_kw (Fv I hg hm hv ?_ hn hdb);exact LS (thA ha I h λus s1 vs H1 I1 r1 q1=>hc pins s1 G H1 vs us Q I1 r1 q1) he hpl
theorem Es (hc:Ey X (.type T) r)(hg:Gl X x)(hm:X.mg x=none)(hv:bootBuiltins x=some (.type T))(ha:PA X (e::es) t)(hn:autoParam (x≠"__name__") QF)(hdb:autoParam ((x==("__debug__":Str))=false) QF)
  (he:autoParam (starEach (e::es) X.env=(false,eval e X.env)::starEach es X.env) QD)(hpl:autoParam ((backTo pos (starEach es X.env)).any (·.1)=false) QD):PE X (.Call (.Name x p) (e::es) [] pos) (tCB r t):=by
 k_in;refine wpAny_Call_Name_kw (Fv I hg hm hv ?_ hn hdb);exact j2 (thA ha I h λus s1 vs H1 I1 r1 q1=>hc pins s1 G H1 vs us Q I1 r1 q1) he hpl
end
end L2
namespace HT
open PySem PyProof.Rows
section
open PySem.SeqAt
open PySem.AutoSeq1 (wpAny_loadPart')
open PySem.MeetsSeq PySem.MeetsSeq2 PySem.MeetsSeq3
end
section
variable {prog:gv} {w:ir} {A:ji} {E:Za0} {s:fw}
def sIx (n d:Nat):Option Int->Nat
 |none=>d
 |some v=>if v<0 then(v+(n:Int)).toNat else min v.toNat n
theorem sIx_nat (n d k:Nat):sIx n d (some (k:Int))=min k n:=by
 show(if(k:Int)<0 then((k:Int)+(n:Int)).toNat else min (k:Int).toNat n)=min k n;rw[if_neg (by lia),i8]
theorem sIx_le (n d:Nat)(hd:d<=n)(o:Option Int):sIx n d o<=n:=by
 cases o with
 |none=>exact hd
 |some v=>
  show(if v<0 then(v+(n:Int)).toNat else min v.toNat n)<=n
  by_cases hv:v<0
  ·rw[if_pos hv];lia
  ·rw[if_neg hv];exact vb _ _
theorem kE (v:Int)(n d:Nat):(if v<0 then max (v+(n:Int)) 0 else min v (n:Int))=((sIx n d (some v):Nat):Int):=by
 show(if v<0 then max (v+(n:Int)) 0 else min v (n:Int))=(((if v<0 then(v+(n:Int)).toNat else min v.toNat n):Nat):Int)
 by_cases hv:v<0
 ·simp only[if_pos hv];lia
 ·simp only[if_neg hv]
  obtain⟨m,rfl⟩:=td (MM.mp hv);rw[i8];lia
theorem fK (lo hi:Option Int)(n:Nat):vg lo hi 1 (n:Int)=(((sIx n 0 lo:Nat):Int),((sIx n n hi:Nat):Int)):=by
 have h1:¬((1:Int)<0):=by lia
 unfold vg;simp only[h1,if_false];refine EX ?_ ?_
 ·cases lo with
  |none=>rfl
  |some v=>exact kE v n 0
 ·cases hi with
  |none=>rfl
  |some v=>exact kE v n n
theorem gJ (i j:Nat):qo (i:Int) (j:Int) 1=j-i:=by
 unfold qo;have h1:(1:Int)>0:=by lia
 simp only[h1,if_true,KC];split<;>lia
theorem Sq {v:fv}{o:Option Int}{Q:Option Int->fw->Prop}(p:zw v o)(h:Q o s):wpAny (model prog w) A (KH v) Q E s:=by
 cases p with
 |none=>exact ME h
 |int i t=>exact slicePart_int h
theorem sliceApplied_gen {sl:fg}{vl vu:fv}{lo hi:Option Int}{n:Nat}{Q:Int×Int×Nat->fw->Prop}(hs:s.heap.IsSliceOf sl vl vu .none)(pl:zw vl lo)(pu:zw vu hi)
  (h:Q (((sIx n 0 lo:Nat):Int),1,sIx n n hi-sIx n 0 lo) s):wpAny (model prog w) A (zc (.ref sl) (pure (n:Int))) Q E s:=by
 obtain⟨os,hos,hcs,hds⟩:=id hs;unfold zc KI;refine wpAny_bind (wpAny_bind (rk hos hds (x:=vl) rfl (wpAny_bind (rk hos hds (x:=vu) rfl (wpAny_bind (rk hos hds (x:=.none) rfl (ft ?_)))))));refine wpAny_bind (ME ?_);show wpAny _ _ (if((1:Int)==0)=true then _ else _) _ _ s;rw[if_neg (by decide)];refine wpAny_bind (Sq pl (wpAny_bind (Sq pu (wpAny_bind (ft ?_)))));show wpAny _ _ (match vg lo hi 1 (n:Int) with|(lo,hi)=>pure (lo,(1:Int),qo lo hi 1)) _ _ s;rw[fK lo hi n];show wpAny _ _ (pure (((sIx n 0 lo:Nat):Int),(1:Int),qo ((sIx n 0 lo:Nat):Int) ((sIx n n hi:Nat):Int) 1)) _ _ s;rw[gJ];exact ft h
theorem qQ (xs:Array fv)(i k:Nat):((gp k).filterMap λ(m:Nat)=>xs[((i:Int)+(m:Int)*1).toNat]?).toArray=((xs.toList.drop i).take k).toArray:=by
 have e:(λ(m:Nat)=>xs[((i:Int)+(m:Int)*1).toNat]?)=λm=>xs[i+m]?:=by
  funext m
  have:((i:Int)+(m:Int)*1).toNat=i+m:=by lia
  rw[this]
 rw[e];have:=MG xs i k;rw[List.filterMap_map] at this;have e2:((λx=>xs[x]?) ∘ λx=>i+x)=λm=>xs[i+m]?:=rfl;rw[e2] at this;rw[this]
theorem getItem_tuple_cut {t sl:fg}{items:Array fv}{vl vu:fv}{lo hi:Option Int}{Q:Za0}(ht:IsTup s.heap t items)(hs:s.heap.IsSliceOf sl vl vu .none)(pl:zw vl lo)(pu:zw vu hi)
  (hw:¬(sIx items.size 0 lo=0/\sIx items.size items.size hi=items.size))
  (h:Q (.ref s.heap.objs.size) { s with heap:=s.heap.push { cls:=.type "tuple",data:=.seq ((items.toList.drop (sIx items.size 0 lo)).take (sIx items.size items.size hi-sIx items.size 0 lo)).toArray } })
  (hsz:items.size<=sizeLine):wpAny (model prog w) A (getItem (.ref t) (.ref sl)) Q E s:=by
 have htake:sizeOk (.seq ((items.toList.drop (sIx items.size 0 lo)).take (sIx items.size items.size hi-sIx items.size 0 lo)).toArray):=by
  show((items.toList.drop (sIx items.size 0 lo)).take (sIx items.size items.size hi-sIx items.size 0 lo)).toArray.size<=sizeLine;rw[gn,f7,jh,gj];exact io (vb _ _) (io (xz _ _) hsz)
 have hj:sIx items.size items.size hi<=items.size:=sIx_le _ _ (fk _) hi;obtain⟨os,hos,hcs,hds⟩:=id hs;have hTs:s.TypeIs (.ref sl) "slice":=⟨os,hos,hcs⟩;unfold getItem
 try with_reducible refine wpAny_holding ?_
 first|refine wpAny_bind (ft ?_)|skip
 refine wpAny_bind (IV ht.typeIs (by decide) ?_);refine wpAny_bind (uh (name:=me "__getitem__") ht.typeIs lw
  (vq lw ht.typeIs entry_tuple_getitem ?_ (IN _ _)))
 show wpAny _ _ (zb (.ref t) >>= _) _ _ s;refine wpAny_bind (MS ht ?_);refine wpAny_bind (yo hTs ?_);rw[if_pos (by decide)];refine wpAny_bind (sliceApplied_gen hs pl pu ?_);have hno:¬((((sIx items.size 0 lo:Nat):Int)==0&&(1:Int)==1&&(sIx items.size items.size hi-sIx items.size 0 lo)==items.size)=true):=by
  intro q;rw[ky,ky] at q;have q1:((sIx items.size 0 lo:Nat):Int)=0:=eq_of_beq q.1.1;have q2:sIx items.size items.size hi-sIx items.size 0 lo=items.size:=eq_of_beq q.2;exact hw ⟨by lia,by lia⟩
 show wpAny _ _ (if(((sIx items.size 0 lo:Nat):Int)==0&&(1:Int)==1&&(sIx items.size items.size hi-sIx items.size 0 lo)==items.size)=true then _ else _) _ _ s;rw[if_neg hno,qQ]
 first
  |exact wpAny_bind (m:=qt _) (oj (ft ⟨_,rfl,ft h⟩) htake)
  |exact wpAny_bind (m:=qt _) (oj (wpAny_bind (ft (ft ⟨_,rfl,ft h⟩))) htake)
  |exact wpAny_bind (wpAny_bind (m:=qt _) (oj (ft (ft ⟨_,rfl,ft h⟩)) htake))
  |exact wpAny_bind (wpAny_bind (m:=qt _) (oj (ft ⟨_,rfl,ft h⟩) htake))
end
end HT
namespace L2
open PySem PySem.Spec PyProof.Rows
variable {C Pt dx i1 i2 it l1 l2 z:fg} {params:o8} {A:ji} {CX:CXT} {op:yx} {X:Cx} {env:Env} {tg:jc} {fd:ke} {base h h' h1:jo} {H H' H1 H2:Hp} {J:It} {pins:Za1} {fp:List fg} {outer:List Env} {es:List jc} {kz ns:List Int} {l0:List ic} {cs ix:Za4} {N ps:Za6} {xs ys:List V} {us vs:Za3} {M:yl} {t':Nat} {oT:Obj} {an od:Option fg} {cpos lpos pos:Pos} {scope:ol} {pl:Sem Bool} {s s2:fw} {sp:Sp} {qual:Str} {te to:TE} {wi:TI} {y:V} {cdv ct doc oc pm:fv} {w:ir}
abbrev TO:=St->Hp->(Option Int->Hp->Prop)->Prop
def PO (X:Cx)(e:Option jc)(t:TO):Prop:=
 ∀(pins:Za1) (s:fw) (G:St) (H:Hp) (Q:Option Int->Hp->Prop),Inv X pins G H s->t G H Q ->
  wpAny (model X.prog X.w) X.A (evalPart e X.env) (λu s'=>∃o H',Inv X pins G H' s'/\zw u o/\Q o H') X.xe s
def kF:TO:=λ_ H Q=>Q none H
def yP (t:TE):TO:=λG H Q=>t G H λx H1=>∃i,x=.int i/\Q (some i) H1
theorem Ry:∀{us:Za3},Av (ns.map V.int) us->nu us ns:=by
 induction ns with
 |nil=>intro us r;rw[vy] at r;cases r;exact .nil
 |cons n ns ih=>
  intro us r;rw[ik] at r
  cases r with
  |cons r1 r2=>
   obtain⟨t,e⟩:=r1;subst e;exact .cons n t (ih r2)
section
variable {X:Cx} {e:jc} {te:TE} {lo hi:Option jc} {tl th:TO} {pos p2:Pos}
theorem Gc:PO X none kF:=by
 k_in;rw[AJ];exact ft ⟨none,H,I,.none,h⟩
theorem Cq (h:PE X e te):PO X (some e) (yP te):=by
 intro pins s G H Q I hw;rw[evalPart_some];refine thE h I hw λu s1 x H1 I1 r1 q1=>?_;obtain⟨i,rfl,q⟩:=q1;obtain⟨t,rfl⟩:=r1;exact⟨some i,H1,I1,.int i t,q⟩
def SlR (X:Cx)(r:V->Option Int->Option Int->Hp->VK->Prop):Prop:=
 ∀(pins:Za1) (s:fw) (G:St) (H:Hp) (x:V) (v vl vu:fv) (lo hi:Option Int) (sl:fg) (Q:VK),Inv X pins G H s->A9 x v->s.heap.IsSliceOf sl vl vu .none->zw vl lo->zw vu hi->r x lo hi H Q ->
  ∃T id,typeLookup (.type T) "__getitem__"=pure (some (.builtin id))/\s.TypeIs v T/\wpAny (model X.prog X.w) X.A (getItem v (.ref sl)) (EP X pins G Q) X.xe s
def tSl (r:V->Option Int->Option Int->Hp->VK->Prop)(te:TE)(tl th:TO):TE:=λG H Q=>te G H λx H1=>tl G H1 λl H2=>th G H2 λu H3=>r x l u H3 Q
theorem Cz {r:V->Option Int->Option Int->Hp->VK->Prop}(hr:SlR X r)(he:PE X e te)(hl:PO X lo tl)(hu:PO X hi th):PE X (.Subscript e (.Slice lo hi none p2) pos) (tSl r te tl th):=by
 k_in;refine Subscript_ (thE he I h λv s1 x H1 I1 r1 q1=>?_);refine HK (thn (hl pins s1 G H1 _ I1 q1) λvl s2 ⟨l,H2,I2,pl,q2⟩=>thn (hu pins s2 G H2 _ I2 q2) λvu s3 ⟨u,H3,I3,pu,q3⟩=>?_);rw[AJ];refine ft ?_;have I4:Inv X pins G H3 { s3 with heap:=s3.heap.push { cls:=.type "slice",data:=.fields #[vl,vu,.none] } }:=I3.kept (t':=s3.toks) λb ob q=>fh _ q;obtain⟨T,id,hT,ht,hg⟩:=hr pins { s3 with heap:=s3.heap.push { cls:=.type "slice",data:=.fields #[vl,vu,.none] } } G H3 x v vl vu l u s3.heap.objs.size Q I4 r1 (BI ..) pl pu q3;show wpAny (model X.prog X.w) X.A (subscriptTail e (.Slice lo hi none p2) v (.ref s3.heap.objs.size)) (EP X pins G Q) X.xe { s3 with heap:=s3.heap.push { cls:=.type "slice",data:=.fields #[vl,vu,.none] } };exact HL (ops:=[.ref s3.heap.objs.size,v]) ht hT hg (by with_unfolding_all rfl)
def G3 (xs:List V)(lo hi:Option Int):List V:=(xs.drop (HT.sIx xs.length 0 lo)).take (HT.sIx xs.length xs.length hi-HT.sIx xs.length 0 lo)
theorem Pm (xs:List V)(lo hi:Option Int):(G3 xs lo hi).length<=xs.length:=by
 unfold G3;rw[f7,jh];exact io (vb _ _) (xz _ _)
def Af2 (K:eh):V->Option Int->Option Int->Hp->VK->Prop:=λx lo hi H Q=>∃a xs,x=.ref a/\SqT K H a xs /\
 ¬(HT.sIx xs.length 0 lo=0/\HT.sIx xs.length xs.length hi=xs.length)/\∀p,H p=none->Q (.ref p) (upd H p (.tup (G3 xs lo hi)))
theorem Aa4:SlR X (Af2 X.K):=by
 intro pins s G H x v vl vu lo hi sl Q I rx hs pl pu h;obtain⟨a,xs,rfl,hx,hw,q⟩:=h;cases rx;obtain⟨its,r,ht,hz⟩:=I.tuple hx;have hlen:its.toArray.size=xs.length:=by rw[gn];exact r.length.symm
 refine⟨"tuple",_,lw.lookup,ht.typeIs,?_⟩;refine HT.getItem_tuple_cut ht hs pl pu (by rw[hlen];exact hw) ?_ (by rw[hlen];exact hz);rw[hlen];refine⟨.ref s.heap.objs.size,_,I.laid (t':=s.toks) (o:=.tup (G3 xs lo hi)) (λb ob q=>fh _ q) (fk _) ?_,rfl,q _ (I.hok.fresh (fk _))⟩;exact⟨io (Pm xs lo hi) hz,_,(r.drop (HT.sIx xs.length 0 lo)).take (HT.sIx xs.length xs.length hi-HT.sIx xs.length 0 lo),LV _ _⟩
end
def ixN (n:Nat)(i:Int):Option Nat:=if 0<=i then(if i<n then some i.toNat else none) else if -(n:Int)<=i then some (i+n).toNat else none
def atI {α:Type}(xs:List α)(i:Int):Option α:=(ixN xs.length i).bind λj=>xs[j]?
theorem jT {n:Nat}{i:Int}{j:Nat}(h:ixN n i=some j):seqIndex? i n=some j/\j<n/\-(n:Int)<=i/\i<n:=by
 unfold ixN at h
 by_cases h0:0<=i
 ·rw[if_pos h0] at h
  by_cases h1:i<n
  ·rw[if_pos h1] at h
   have e:i.toNat=j:=fq h;exact⟨by rw[CV h0 h1,e],by lia,by lia,h1⟩
  ·rw[if_neg h1] at h;cases h
 ·rw[if_neg h0] at h
  by_cases h1:-(n:Int)<=i
  ·rw[if_pos h1] at h
   have e:(i+n).toNat=j:=fq h;exact⟨by rw[BL (by lia) h1,e],by lia,h1,by lia⟩
  ·rw[if_neg h1] at h;cases h
theorem W7 {α:Type}{xs:List α}{i:Int}{v:α}(h:atI xs i=some v):∃j,seqIndex? i xs.length=some j/\xs[j]?=some v/\j<xs.length/\-(xs.length:Int)<=i/\i<xs.length:=by
 unfold atI at h
 cases e:ixN xs.length i with
 |none=>rw[e] at h;cases h
 |some j=>
  rw[e] at h;obtain⟨h1,h2,h3,h4⟩:=jT e;exact⟨j,h1,h,h2,h3,h4⟩
theorem Bl {α:Type}{xs:List α}{j:Nat}{v:α}(h:xs[j]?=some v):atI xs (j:Int)=some v:=by
 have hj:j<xs.length:=(ge.mp h).1;have e:ixN xs.length (j:Int)=some j:=by
  unfold ixN;rw[if_pos (by lia),if_pos (by lia)];simp
 unfold atI;rw[e];exact h
theorem eA {α:Type}(xs:List α)(v:α):atI (xs++[v]) (-1)=some v:=by
 have hl:(xs++[v]).length=xs.length+1:=by simp
 have e:ixN (xs++[v]).length (-1)=some xs.length:=by
  unfold ixN;rw[hl,if_neg (by decide),if_pos (by lia)];congr 1;lia
 unfold atI;rw[e];show(xs++[v])[xs.length]?=some v;simp
def Xb (b:jc):Prop:=∀o i,subscripted b false o i=operate [o,i] (getItem o i)
def IxR (X:Cx)(r:R2):Prop:=
 ∀(value N9:jc) (pins:Za1) (s:fw) (G:St) (H:Hp) (x y:V) (v u:fv) (Q:VK),Inv X pins G H s->A9 x v->A9 y u->r x y H Q ->
  subscripted N9 false v u=operate [v,u] (getItem v u)->wpAny (model X.prog X.w) X.A (subscriptTail value N9 v u) (EP X pins G Q) X.xe s
def MtR (X:Cx)(id:String)(r:V->List V->Hp->VK->Prop):Prop:=
 ∀(pins:Za1) (s:fw) (G:St) (H:Hp) (x:V) (xs:List V) (v:fv) (us:Za3) (Q:VK),Inv X pins G H s->A9 x v->Av xs us->r x xs H Q ->
  wpAny (model X.prog X.w) X.A (call (.builtin id) (v::us)) (EP X pins G Q) X.xe s
section
variable {X:Cx} {a b:jc} {ta tb:TE} {pos:Pos}
theorem zU {r:R2}(hr:IxR X r)(ha:PE X a ta)(hb:PE X b tb)(hs:Xb b):PE X (.Subscript a b pos) (tOp r ta tb):=by
 k_in;exact Subscript_ (Ace ha hb I h λv u s2 x y H2 I2 rx ry q=>hr a b pins s2 G H2 x y v u Q I2 rx ry q (hs _ _))
def yI (K:eh):R2:=λx y H Q=>∃p xs i v,x=.ref p/\y=.int i/\SqL K H p xs/\atI xs i=some v/\Q v H
def Ae5 (K:eh):R2:=λx y H Q=>∃p xs i v,x=.ref p/\y=.int i/\SqT K H p xs/\atI xs i=some v/\Q v H
theorem B2:IxR X (yI X.K):=by
 intro value N9 pins s G H x y v u Q I rx ry h hs;obtain⟨p,xs,i,z,rfl,rfl,hq,he,q⟩:=h;cases rx;obtain⟨t,rfl⟩:=ry;obtain⟨its,r,pl,hz⟩:=I.list hq;obtain⟨j,h1,h2,h3,h4,h5⟩:=W7 he;obtain⟨w,ew,rw'⟩:=r.get h2;have hl:=r.length;have hn:=Jt;have fin:EP X pins G Q w s:=⟨z,H,I,rw',q⟩
 by_cases h0:0<=i
 ·have hj:i.toNat=j:=by
   rw[CV h0 h5] at h1;exact fq h1
  exact item_listR pl.isList h0 (by lia) (by rw[hj];simpa using ew) fin hs
 ·have hj:(i+(its.toArray.size:Int)).toNat=j:=by
   rw[BL (by lia) h4] at h1;rw[gn,<-hl];exact fq h1
  exact GA (x:=w) pl.isList.typeIs slot_list_getitem.lookup
   (FZ (Q:=λr s'=>r=w/\EP X pins G Q r s') pl.isList (by lia) (by rw[gn]<;>lia) (by lia) (by rw[hj];simpa using ew) ⟨rfl,fin⟩) hs
theorem Em:IxR X (Ae5 X.K):=by
 intro value N9 pins s G H x y v u Q I rx ry h hs;obtain⟨p,xs,i,z,rfl,rfl,hq,he,q⟩:=h;cases rx;obtain⟨t,rfl⟩:=ry;obtain⟨its,r,pl,hz⟩:=I.tuple hq;obtain⟨j,h1,h2,h3,h4,h5⟩:=W7 he;obtain⟨w,ew,rw'⟩:=r.get h2;have hl:=r.length;have hn:=Jt;have fin:EP X pins G Q w s:=⟨z,H,I,rw',q⟩;exact GA (x:=w) pl.typeIs slot_tuple_getitem.lookup
  (getItem_tuple (j:=j) (Q:=λr s'=>r=w/\EP X pins G Q r s') pl (by lia) (by lia) (by rw[gn,<-hl];exact h1) (by simpa using ew) ⟨rfl,fin⟩) hs
theorem iC (its:Za3)(n j:Nat)(u:fv):lj (·.setIfInBounds j u) { cls:=.type "list",data:=.seq its.toArray n }={ cls:=.type "list",data:=.seq (its.set j u).toArray n }:=by
 simp[lj]
theorem Inv.lst {G:St}{p:fg}(I:Inv X pins G H s)(h:H p=some (.lst xs)) :
  ∃(its:Za3) (n:Nat),Av xs its/\s.heap.get? p=some { cls:=.type "list",data:=.seq its.toArray n }/\xs.length<=sizeLine:=by
 obtain⟨z,its,n,r,e⟩:=I.hok p _ h;exact⟨its,n,r,e,z⟩
theorem Inv.lstUpd {G:St}{p:fg}{its its':Za3}{n n':Nat}{f:Obj->Obj}(I:Inv X pins G H s)(h:H p=some (.lst xs))
  (ho:s.heap.get? p=some { cls:=.type "list",data:=.seq its.toArray n })(hf:f { cls:=.type "list",data:=.seq its.toArray n }={ cls:=.type "list",data:=.seq its'.toArray n' })(r:Av ys its')(hz:ys.length<=sizeLine)(t:Nat) :
  Inv X pins G (upd H p (.lst ys)) { s with heap:=s.heap.update p f,toks:=t }:=by
 have e:(s.heap.update p f).get? p=some { cls:=.type "list",data:=.seq its'.toArray n' }:=by
  rw[o6 f ho (by rw[hf]<;>rfl),hf]
 refine I.write (x:=p) (e:=p) (by rw[h];trivial) (.inl rfl) (λb u hb q=>(ko _ _ (qh hb)).trans q) ⟨_,e⟩ ?_;exact⟨hz,its',n',r,e⟩
def zG:V->V->V->Hp->(Hp->Prop)->Prop:=λo i v H Q=>∃p xs k j,o=.ref p/\i=.int k/\H p=some (.lst xs)/\ixN xs.length k=some j/\Q (upd H p (.lst (xs.set j v)))
theorem Kq:xQ X zG:=by
 intro pins s G H o i v ov iv u Q I ro ri rv h;obtain⟨p,xs,k,j,rfl,rfl,hp,hj,q⟩:=h;cases ro;obtain⟨t,rfl⟩:=ri;obtain⟨its,n,r,ho,hz⟩:=I.lst hp;obtain⟨h1,h2,h3,h4⟩:=jT hj;have hl:=r.length;have hn:=Jt;have I':Inv X pins G (upd H p (.lst (xs.set j v))) { s with heap:=s.heap.update p (lj (·.setIfInBounds j u)) }:=
  I.lstUpd hp ho (iC its n j u) (r.set rv j) (by rw[se];exact hz) s.toks
 by_cases h0:0<=k
 ·have hk:k.toNat=j:=by
   rw[CV h0 h4] at h1;exact fq h1
  exact PySem.W.ki_setAt ho h0 (by lia) (by rw[gn,<-hl];exact h4) (by rw[hk];exact⟨_,I',q⟩)
 ·have hk:(k+(its.toArray.size:Int)).toNat=j:=by
   rw[BL (by lia) h3] at h1;rw[gn,<-hl];exact fq h1
  exact PySem.W.ki_setBack ho (by lia) (by rw[gn,<-hl];exact h3) (by lia) (by rw[hk];exact⟨_,I',q⟩)
theorem Xn (lo hi:Option Int)(n:Nat):(sliceBounds lo hi none n).1=((HT.sIx n 0 lo:Nat):Int)/\(sliceBounds lo hi none n).2.1=((HT.sIx n n hi:Nat):Int)/\(sliceBounds lo hi none n).2.2=1:=by
 refine⟨?_,?_,rfl⟩
 ·cases lo with
  |none=>simp[sliceBounds,HT.sIx]
  |some i=>
   simp only[sliceBounds,HT.sIx,FS,show(1:Int)>0 by decide,if_true]
   by_cases h:i<0
   ·simp only[h,if_true]<;>lia
   ·simp only[h,if_false]
    obtain⟨m,rfl⟩:=td (MM.mp h);rw[i8];lia
 ·cases hi with
  |none=>simp[sliceBounds,HT.sIx]
  |some i=>
   simp only[sliceBounds,HT.sIx,FS,show(1:Int)>0 by decide,if_true]
   by_cases h:i<0
   ·simp only[h,if_true]<;>lia
   ·simp only[h,if_false]<;>lia
theorem Ug (its:Za3)(lo hi:Option Int):slicePick its.toArray lo hi none=((its.drop (HT.sIx its.length 0 lo)).take (HT.sIx its.length its.length hi-HT.sIx its.length 0 lo)).toArray:=by
 obtain⟨h1,h2,h3⟩:=Xn lo hi its.toArray.size;unfold slicePick;rw[h1,h2,h3];simp only[MC,MG,gn]<;>rfl
def Afp (K:eh):V->Option Int->Option Int->Hp->VK->Prop:=λx lo hi H Q=>∃a xs,x=.ref a/\SqL K H a xs/\∀p,H p=none->Q (.ref p) (upd H p (.lst (G3 xs lo hi)))
theorem Ga:SlR X (Afp X.K):=by
 intro pins s G H x v vl vu lo hi sl Q I rx hs pl pu h;obtain⟨a,xs,rfl,hx,q⟩:=h;cases rx;obtain⟨its,r,ht,hz⟩:=I.list hx;have hlen:=r.length;refine⟨"list",_,slot_list_getitem.lookup,ht.isList.typeIs,?_⟩;refine FB ht.isList hs pl pu .none (by simp) ?_ (by rw[gn]<;>lia)
 rw[Ug,<-hlen];refine⟨.ref s.heap.objs.size,_,I.laid (t':=s.toks) (o:=.lst (G3 xs lo hi)) (λb ob q=>fh _ q) (fk _) ?_,rfl,q _ (I.hok.fresh (fk _))⟩;exact⟨io (Pm xs lo hi) hz,_,0,(r.drop (HT.sIx xs.length 0 lo)).take (HT.sIx xs.length xs.length hi-HT.sIx xs.length 0 lo),iq _ rfl⟩
def Dt:V->Bool
 |.non=>true
 |.bl _=>true
 |.int _=>true
 |.str _=>true
 |_=>false
def eqV:V->V->Bool
 |.non,.non=>true
 |.bl a,.bl b=>a==b
 |.bl a,.int b=>(if a then 1 else 0)==b
 |.int a,.bl b=>a==(if b then 1 else 0)
 |.int a,.int b=>a==b
 |.str a,.str b=>a==b
 |_,_=>false
theorem fC {x:V}{u v:fv}(ry:A9 y u)(rx:A9 x v)(fy:Dt y=true)(fx:Dt x=true):yz A s u v (eqV y x):=by
 cases y with
 |non=>
  cases ry
  cases x with
  |non=>cases rx;exact ze _
  |bl b=>cases rx;exact ND b
  |int b=>obtain⟨t,rfl⟩:=rx;exact NC b t
  |str b=>obtain⟨t,rfl⟩:=rx;exact NB b t
  |_=>exact absurd (show false=true from fx) im
 |bl a=>
  cases ry
  cases x with
  |non=>cases rx;exact NI a
  |bl b=>cases rx;exact NK a b
  |int b=>obtain⟨t,rfl⟩:=rx;exact NJ a b t
  |str b=>obtain⟨t,rfl⟩:=rx;exact NH a b t
  |_=>exact absurd (show false=true from fx) im
 |int a=>
  obtain⟨t',rfl⟩:=ry
  cases x with
  |non=>cases rx;exact NE a t'
  |bl b=>cases rx;exact NG a t' b
  |int b=>obtain⟨t,rfl⟩:=rx;exact NF a t' b t
  |str b=>obtain⟨t,rfl⟩:=rx;exact DB a t' b t
  |_=>exact absurd (show false=true from fx) im
 |str a=>
  obtain⟨t',rfl⟩:=ry
  cases x with
  |non=>cases rx;exact MZ a t'
  |bl b=>cases rx;exact NA a t' b
  |int b=>obtain⟨t,rfl⟩:=rx;exact CZ a t' b t
  |str b=>obtain⟨t,rfl⟩:=rx;exact MY a t' b t
  |_=>exact absurd (show false=true from fx) im
 |_=>exact absurd (show false=true from fy) im
def eqU (x:V)(u:fv):Bool:=match u with
 |.none=>eqV .non x
 |.bool b=>eqV (.bl b) x
 |.int i _=>eqV (.int i) x
 |.str z _=>eqV (.str z) x
 |_=>false
theorem Rq {x:V}{u:fv}(r:A9 y u)(f:Dt y=true):eqU x u=eqV y x:=by
 cases y with
 |non=>cases r;rfl
 |bl b=>cases r;rfl
 |int i=>obtain⟨t,rfl⟩:=r;rfl
 |str z=>obtain⟨t,rfl⟩:=r;rfl
 |_=>exact absurd (show false=true from f) im
theorem W1 {x:V}:∀{xs:List V} {us:Za3},Av xs us->xs.all Dt=true->us.any (eqU x)=xs.any λy=>eqV y x
 |_,_,.nil,_=>rfl
 |y::xs,u::us,.cons r t,f=>by
  rw[DL,ky] at f;rw[wy,wy,Rq r f.1,W1 t f.2]
theorem Ix {A:ji}{s:fw}{x:V}{v:fv}(rx:A9 x v)(fx:Dt x=true):∀{xs:List V} {us:Za3},Av xs us->xs.all Dt=true->∀u∈us,yz A s u v (eqU x u)
 |_,_,.nil,_=>λu hu=>by cases hu
 |y::xs,u::us,.cons r t,f=>λu' hu=>by
  rw[DL,ky] at f;rcases i9.mp hu with rfl|hu
  ·rw[Rq r f.1];exact fC r rx f.1 fx
  ·exact Ix rx fx t f.2 u' hu
def inV (x:V)(xs:List V):Bool:=xs.any λy=>eqV y x
def rIn (K:eh)(neg:Bool):R2:=λx y H Q=>∃p xs,y=.ref p/\(SqL K H p xs\/SqT K H p xs)/\Dt x=true/\xs.all Dt=true/\Q (.bl (if neg then !inV x xs else inV x xs)) H
theorem Xf:OpR X (compareOp .NotIn) (rIn X.K true):=by
 intro pins s G H x y v u Q I rx ry h;obtain⟨p,xs,rfl,hq,fx,fs,q⟩:=h;cases ry;rcases hq with hq|hq
 ·obtain⟨its,r,pl,hz⟩:=I.list hq
  refine SeqAt.notIn_listAt (eqU x) pl.isList (λw hw=>Ix rx fx r fs w (by simpa using hw)) ⟨.bl _,H,I,rfl,?_⟩;rw[show its.toArray.any (eqU x)=its.any (eqU x) by simp,W1 r fs];exact q
 ·obtain⟨its,r,pl,hz⟩:=I.tuple hq
  refine SeqAt.notIn_tupleAt (eqU x) pl (λw hw=>Ix rx fx r fs w (by simpa using hw)) ⟨.bl _,H,I,rfl,?_⟩;rw[show its.toArray.any (eqU x)=its.any (eqU x) by simp,W1 r fs];exact q
theorem Aq:Ey X (.builtin "len") (λxs H Q=>∃p ys,xs=[.ref p]/\(SqL X.K H p ys\/SqT X.K H p ys)/\Q (.int ys.length) H):=by
 intro pins s G H xs us Q I r h;obtain⟨p,ys,rfl,hq,q⟩:=h;obtain⟨u,rfl,rx⟩:=Fm r;cases rx;have hn:=Jt;rcases hq with hq|hq
 ·obtain⟨its,r',pl,hz⟩:=I.list hq
  have hlen:=r'.length;exact Calls.call_len_list pl.isList (by simp only[gn]<;>lia) ⟨.int ys.length,H,I.tok _,⟨s.toks+1,by rw[gn,hlen]⟩,q⟩
 ·obtain⟨its,r',pl,hz⟩:=I.tuple hq
  have hlen:=r'.length;exact len_tuple pl (by simp only[gn]<;>lia) ⟨.int ys.length,H,I.tok _,⟨s.toks+1,by rw[gn,hlen]⟩,q⟩
theorem Gz:Ey X (.builtin "len") (λxs H Q=>∃z,xs=[.str z]/\z.length<=sizeLine/\Q (.int z.length) H):=by
 intro pins s G H xs us Q I r h;obtain⟨z,rfl,hz,q⟩:=h;obtain⟨u,rfl,t,rfl⟩:=Fm r;have hn:=Jt;exact len_str (by lia) ⟨.int z.length,H,I.tok _,⟨_,rfl⟩,q⟩
theorem Jv:Ey X (.type "list") (λxs H Q=>∃p ys,xs=[.ref p]/\(SqL X.K H p ys\/SqT X.K H p ys)/\∀l,H l=none->Q (.ref l) (upd H l (.lst ys))):=by
 intro pins s G H xs us Q I r h;obtain⟨p,ys,rfl,hq,q⟩:=h;obtain⟨u,rfl,rx⟩:=Fm r;cases rx;have fin:∀(its:Za3),Av ys its->ys.length<=sizeLine->∀(h':jo) (c':Nat),(∀b o',s.heap.get? b=some o'->h'.get? b=some o') ->
   h'.get? s.heap.objs.size=some { cls:=.type "list",dict:=none,data:=.seq its.toArray c',slots:=#[] }->EP X pins G Q (.ref s.heap.objs.size) { s with heap:=h' }:=λits r' hz h' c' kp e=>
  ⟨.ref s.heap.objs.size,_,I.laid (t':=s.toks) kp (fk _) (show Bp X.prog X.w _ h' _ (.lst ys) from⟨hz,its,c',r',e⟩),rfl,q _ (I.hok.fresh (fk _))⟩
 rcases hq with hq|hq
 ·obtain⟨its,r',pl,hz⟩:=I.list hq
  have hlen:=r'.length;obtain⟨o,ho,hc,n,hd⟩:=pl.isList;exact MW p (.inl rfl) ho hc hd (λh' c' kp e=>fin its r' hz h' c' kp e) (by simp only[gn]<;>lia)
 ·obtain⟨its,r',pl,hz⟩:=I.tuple hq
  have hlen:=r'.length;obtain⟨o,ho,hc,n,hd⟩:=pl;exact MW p (.inr rfl) ho hc hd (λh' c' kp e=>fin its r' hz h' c' kp e) (by simp only[gn]<;>lia)
theorem F4:Ey X (.type "tuple") (λxs H Q=>∃p ys,xs=[.ref p]/\((SqL X.K H p ys/\∀l,H l=none->Q (.ref l) (upd H l (.tup ys)))\/(SqT X.K H p ys/\Q (.ref p) H))):=by
 intro pins s G H xs us Q I r h;obtain⟨p,ys,rfl,h⟩:=h;obtain⟨u,rfl,rx⟩:=Fm r;cases rx;rcases h with⟨hq,q⟩|⟨hq,q⟩
 ·obtain⟨its,r',pl,hz⟩:=I.list hq
  have hlen:=r'.length;refine call_tuple_list pl.isList (λh' kp=>?_) (by simp only[gn]<;>lia)
  have I1:Inv X pins G H { s with heap:=h' }:=I.kept (t':=s.toks) kp;have I2:Inv X pins G (upd H h'.objs.size (.tup ys)) { s with heap:=h'.push { cls:=.type "tuple",data:=.seq its.toArray } }:=
   I1.laid (t':=s.toks) (λb o e=>fh _ e) (fk _) (show Bp X.prog X.w _ _ _ (.tup ys) from⟨hz,its,r',LV _ _⟩)
  exact⟨.ref h'.objs.size,_,I2,rfl,q _ (I1.hok.fresh (fk _))⟩
 ·obtain⟨its,r',pl,hz⟩:=I.tuple hq
  exact call_tuple_same pl ⟨.ref p,H,I,rfl,q⟩
def tyV (K:eh)(T:String)(x:V)(H:Hp):Prop:=match x with
 |.str _=>T="str"
 |.int _=>T="int"
 |.ref p=>(T="list"/\∃xs,SqL K H p xs)\/(T="tuple"/\∃o,K.lookup p=some o/\o.cls=.type "tuple"/\o.dict=none) \/
   (T="dict"/\((∃kvs,H p=some (.dK kvs))\/∃kvs,H p=some (.dT kvs)))\/(T="set"/\∃S n,H p=some (.set S n))
 |_=>False
theorem pN {G:St}{T:String}{x:V}{v:fv}(I:Inv X pins G H s)(r:A9 x v)(ty:tyV X.K T x H) :
  s.TypeIs v T/\∀a,v=.ref a->∃ob,s.heap.get? a=some ob/\ob.dict=none:=by
 cases x with
 |str z=>
  obtain⟨t,rfl⟩:=r;cases(show T="str" from ty);exact⟨IL s z t,λ_ e=>nomatch e⟩
 |int i=>
  obtain⟨t,rfl⟩:=r;cases(show T="int" from ty);exact⟨IM s i t,λ_ e=>nomatch e⟩
 |ref p=>
  cases r;rcases ty with⟨rfl,xs,hq⟩|⟨rfl,o,hk,hc,hd⟩|⟨rfl,hk⟩|⟨rfl,S,n,hk⟩
  ·obtain⟨its,_,pl,_⟩:=I.list hq
   refine⟨pl.isList.typeIs,λa e=>?_⟩;cases e;obtain⟨o,n,e,c,hd,_⟩:=pl;exact⟨o,e,hd⟩
  ·refine⟨⟨o,I.kIn p o hk,hc⟩,λa e=>?_⟩
   cases e;exact⟨o,I.kIn _ o hk,hd⟩
  ·have z:∃o,s.heap.get? p=some o/\o.ExactDict:=by
    rcases hk with⟨kvs,hk⟩|⟨kvs,hk⟩
    ·obtain⟨_,_,_,_,o,_,_,e,ex,_⟩:=I.hok p _ hk
     exact⟨o,e,ex⟩
    ·obtain⟨_,_,_,_,o,_,_,e,ex,_⟩:=I.hok p _ hk
     exact⟨o,e,ex⟩
   obtain⟨o,e,ex⟩:=z;refine⟨⟨o,e,ex.1⟩,λa e2=>?_⟩;cases e2;exact⟨o,e,ex.2.1⟩
  ·obtain⟨o,_,_,_,e,ex,_⟩:=I.hok p _ hk
   refine⟨⟨o,e,ex.1⟩,λa e2=>?_⟩;cases e2;exact⟨o,e,ex.2.1⟩
 |_=>exact l5 ty
def Afb (K:eh)(T:String)(r:V->List V->Hp->VK->Prop)(to:TE):TE:=λG H Q=>to G H λx H1=>tyV K T x H1/\r x [] H1 Q
def tBM (K:eh)(T:String)(r:V->List V->Hp->VK->Prop)(to:TE)(t:TA):TE:=λG H Q=>to G H λx H1=>tyV K T x H1/\t G H1 λxs H2=>r x xs H2 Q
variable {o e:jc} {es:List jc} {to:TE} {t:TA} {name:Str} {apos cpos:Pos} {T id:String} {r:V->List V->Hp->VK->Prop}
theorem tJ (pa:IR T)(slot:Slot T name id)(hty:typeOf (.builtin id)=pure (.type "method_descriptor"))(hm:MtR X id r)(ho:PE X o to)
  (hbase:autoParam (attributeBase o name X.env (eval o X.env)=eval o X.env) QD)(hline:autoParam ((apos.endLine==cpos.line)=true) QD):PE X (.Call (.Attribute o name apos) [] [] cpos) (Afb X.K T r to):=by
 k_in;refine wpAny_Call_method0_late hbase hline (thE ho I h λv s1 x H1 I1 r1 ⟨ty,q1⟩=>?_);obtain⟨h1,h2⟩:=pN I1 r1 ty;exact⟨T,id,pa,slot,hty,h1,h2,xn rfl (PySem.evalArgs_none (hm pins s1 G H1 x [] v [] Q I1 r1 .nil q1))⟩
theorem E9 (pa:IR T)(slot:Slot T name id)(hty:typeOf (.builtin id)=pure (.type "method_descriptor"))(hm:MtR X id r)(ho:PE X o to)(ha:PA X (e::es) t)
  (hbase:autoParam (attributeBase o name X.env (eval o X.env)=eval o X.env) QD)
  (hfew:autoParam (((backTo cpos (starEach (e::es) X.env)).all (λx=>!x.1)&&(backToKw cpos (keywordEach [] X.env)).all (λx=>x.1.isSome)
   && decide ((e::es).length+([]:List BR).length+(if([]:List BR).isEmpty then 0 else 1)<30))=true) QD)
  (hline:autoParam ((apos.endLine==cpos.line)=true) QD)(hs:autoParam (starEach (e::es) X.env=(false,eval e X.env)::starEach es X.env) QD)(hplain:autoParam ((backTo cpos (starEach es X.env)).any (·.1)=false) QD) :
  PE X (.Call (.Attribute o name apos) (e::es) [] cpos) (tBM X.K T r to t):=by
 k_in;refine wpAny_Call_method_late hbase hfew hline rfl (thE ho I h λv s1 x H1 I1 r1 ⟨ty,q1⟩=>?_);obtain⟨h1,h2⟩:=pN I1 r1 ty;refine⟨T,id,pa,slot,hty,h1,h2,?_⟩;have hA:=ha cpos pins s1 G H1 _ I1 q1;rw[hs] at hA ⊢;refine xn (by show(false||(backTo cpos (starEach es X.env)).any (·.1))=false;rw[hplain]<;>rfl) (vf ?_)
 exact thn hA λus s2 ⟨vs,H2,I2,r2,q2⟩=>hm pins s2 G H2 x vs v us Q I2 r1 r2 q2
/- xs.append(e),list.index on a module's tuple .. are MtR facts of 06m -/
end
def MtM (X:Cx)(id:String)(r:V->List V->Hp->VK->Prop):Prop:=
 ∀(pins:Za1) (s:fw) (G:St) (H:Hp) (x:V) (xs:List V) (v:fv) (us:Za3) (Q:VK),Inv X pins G H s->A9 x v->Av xs us->r x xs H Q ->
  wpAny (model X.prog X.w) X.A (call (.builtin id) (v::us)) (EP X pins G Q) X.xe s
theorem Av.one:∀{x:V} {us:Za3},Av [x] us->∃u,us=[u]/\A9 x u
 |_,_,.cons r .nil=>⟨_,rfl,r⟩
theorem Av.zero:∀{us:Za3},Av [] us->us=[]
 |_,.nil=>rfl
theorem Av.dropLast (h:Av xs us):Av xs.dropLast us.dropLast:=by
 induction h with
 |nil=>exact .nil
 |cons r t ih=>
  cases t with
  |nil=>exact .nil
  |cons q t'=>exact .cons r ih
theorem Av.rep {xs:List V}{us:Za3}(h:Av xs us):∀k:Nat,Av (fu k xs).flatten (fu k us).flatten
 |0=>.nil
 |k+1=>by
  rw[jt,jt,iw,iw];exact Av.append h (Av.rep h k)
theorem fA {α:Type}(l:List α):l.eraseIdx (l.length-1)=l.dropLast:=by
 induction l with
 |nil=>rfl
 |cons a r ih=>
  cases r with
  |nil=>rfl
  |cons b r=>
   have e:(a::b::r).length-1=((b::r).length-1)+1:=by
    have h1:(a::b::r).length=r.length+2:=rfl;have h2:(b::r).length=r.length+1:=rfl;lia
   rw[e,List.eraseIdx_cons_succ,ih]
   all_goals rfl
theorem Vc (its:Za3):∀(k:Nat) (acc:Za3),
  FU (λx1 x2=>x1++x2) acc.toArray (fu k its.toArray)=(acc++(fu k its).flatten).toArray
 |0,acc=>by simp
 |k+1,acc=>by
  have e:acc.toArray++its.toArray=(acc++its).toArray:=by simp
  have e2:(acc++its)++(fu k its).flatten=acc++(fu (k+1) its).flatten:=by
   rw[jt,iw,fm]
  rw[<-e2,<-Vc its k (acc++its),<-e,jt,qm]
section
variable {X:Cx} {pins:Za1} {G:St} {H:Hp} {s:fw} {l b:fg} {xs ys zs:List V}
theorem Inv.lset {its its':Za3}{n:Nat}{f:Array fv->Array fv}(I:Inv X pins G H s)(hH:H l=some (.lst xs))
  (e:s.heap.get? l=some { cls:=.type "list",data:=.seq its.toArray n })(hf:f its.toArray=its'.toArray)(hv:Av ys its')(hz:ys.length<=sizeLine) :
  Inv X pins G (upd H l (.lst ys)) { s with heap:=s.heap.update l (lj f),toks:=t' }:=by
 have q:=NU e f;rw[hf] at q;refine I.write (x:=l) (e:=l) (by rw[hH];exact trivial) (.inl rfl) (λb' u hb hu=>(ko s.heap (lj f) (qh hb)).trans hu) ⟨_,q⟩ ?_;exact⟨hz,its',_,hv,q⟩
theorem Inv.lnew {its:Za3}(I:Inv X pins G H s)(hv:Av ys its)(hz:ys.length<=sizeLine) :
  Inv X pins G (upd H s.heap.objs.size (.lst ys)) { s with heap:=s.heap.push { cls:=.type "list",data:=.seq its.toArray },toks:=t' }:=
 I.laid (λ_ _ q=>fh _ q) (fk _) ⟨hz,its,0,hv,iq _ rfl⟩
theorem Inv.fresh (I:Inv X pins G H s):H s.heap.objs.size=none:=I.hok.fresh (fk _)
theorem Inv.lstM (I:Inv X pins G H s)(hH:H l=some (.lst xs)):xs.length<=sizeLine/\∃(its:Za3) (n:Nat),Av xs its/\xs.length=its.length/\s.heap.get? l=some { cls:=.type "list",data:=.seq its.toArray n }:=by
 obtain⟨z,its,n,r,e⟩:=I.hok l _ hH;exact⟨z,its,n,r,r.length,e⟩
theorem Z3 {n:Nat}(h:n<=sizeLine):qv n=false:=by
 unfold qv;exact decide_eq_false (by lia)
end
section
variable {X:Cx}
def kI:V->List V->Hp->VK->Prop:=λx vs H Q=>∃l xs y,x=.ref l/\vs=[y]/\H l=some (.lst xs)/\xs.length<sizeLine/\Q .non (upd H l (.lst (xs++[y])))
theorem Dh:MtM X "list.append" kI:=by
 intro pins s G H x vs v us Q I rx rv h;obtain⟨l,xs,y,rfl,rfl,hH,hz,q⟩:=h;cases rx;obtain⟨u,rfl,ru⟩:=rv.one;obtain⟨z,its,n,r,hl,e⟩:=I.lstM hH;refine ub F.slot_list_append ⟨_,e,rfl⟩ F.entry_list_append (F.args_list_append_2 _ _) (PySem.list_append l its.toArray n u (by rw[gn];lia)) ⟨e,?_⟩;refine⟨.non,_,I.lset (its':=its++[u]) hH e (by simp) (r.append (.cons ru .nil)) ?_,rfl,q⟩;rw[fe,qq];lia
def vM:V->List V->Hp->VK->Prop:=λx vs H Q=>∃l b xs zs,x=.ref l/\vs=[.ref b]/\H l=some (.lst xs)/\H b=some (.lst zs)/\xs.length+zs.length<=sizeLine/\Q .non (upd H l (.lst (xs++zs)))
theorem nQ:MtM X "list.extend" vM:=by
 intro pins s G H x vs v us Q I rx rv h;obtain⟨l,b,xs,zs,rfl,rfl,hH,hB,hz,q⟩:=h;cases rx;obtain⟨u,rfl,ru⟩:=rv.one;cases ru;obtain⟨z,its,n,r,hl,e⟩:=I.lstM hH;obtain⟨z2,its2,n2,r2,hl2,e2⟩:=I.lstM hB;have hsz:its.toArray.size+its2.toArray.size<=sizeLine:=by rw[gn,gn];lia
 have hlong:¬(!its.toArray.isEmpty&&qv (its.toArray.size+its2.toArray.size))=true:=by
  rw[Z3 hsz,IK];exact im
 refine ub F.slot_list_extend ⟨_,e,rfl⟩ F.entry_list_extend (F.args_list_extend_2 _ _)
  (AutoSeq1.list_extend_list_list_0 l its.toArray n b its2.toArray n2 hlong (by rw[gn];lia) (by lia)) ⟨e,e2,?_⟩
 refine⟨.non,_,I.lset (its':=its++its2) hH e (by simp) (r.append r2) ?_,rfl,q⟩;rw[fe];lia
def Afn:V->List V->Hp->VK->Prop:=λx vs H Q=>∃l xs y,x=.ref l/\vs=[]/\H l=some (.lst xs)/\xs[xs.length-1]?=some y/\Q y (upd H l (.lst xs.dropLast))
theorem rF:MtM X "list.pop" Afn:=by
 intro pins s G H x vs v us Q I rx rv h;obtain⟨l,xs,y,rfl,rfl,hH,hy,q⟩:=h;cases rx;have hus:=rv.zero;subst hus;obtain⟨z,its,n,r,hl,e⟩:=I.lstM hH;obtain⟨u,hu,ru⟩:=r.get hy;have hy':its.toArray[its.toArray.size-1]?=some u:=by
  show its.toArray[its.length-1]?=some u;rw[<-gt,<-hl];exact hu
 refine ub F.slot_list_pop ⟨_,e,rfl⟩ F.entry_list_pop (F.args_list_pop_1 _) (MeetsSeq.list_pop_last l its.toArray n u hy' (by rw[gn];lia)) ⟨e,?_⟩;refine⟨y,_,I.lset (its':=its.dropLast) hH e ?_ r.dropLast ?_,ru,q⟩
 ·show its.toArray.eraseIdxIfInBounds (its.toArray.size-1)=its.dropLast.toArray
  rw[gn,List.eraseIdxIfInBounds_toArray,fA]
 ·rw[EZ]
  lia
def Afj:R2:=λx y H Q=>∃l b xs zs,x=.ref l/\y=.ref b/\H l=some (.lst xs)/\H b=some (.lst zs)/\xs.length+zs.length<=sizeLine/\∀p,H p=none->Q (.ref p) (upd H p (.lst (xs++zs)))
theorem E1:OpR X (binaryOp .Add) Afj:=by
 intro pins s G H x y v u Q I rx ry h;obtain⟨l,b,xs,zs,rfl,rfl,hH,hB,hz,q⟩:=h;cases rx;cases ry;obtain⟨z,its,n,r,hl,e⟩:=I.lstM hH;obtain⟨z2,its2,n2,r2,hl2,e2⟩:=I.lstM hB;refine PySem.P.add_list e e2 ?_ (by rw[gn,gn];lia);have ea:its.toArray++its2.toArray=(its++its2).toArray:=by simp
 rw[ea];exact⟨.ref _,_,I.lnew (t':=s.toks) (r.append r2) (by rw[fe];lia),rfl,q _ I.fresh⟩
def Aft:R2:=λx y H Q=>∃l k xs,x=.ref l/\y=.int k/\H l=some (.lst xs)/\-(2 ^ 63)<=k/\k<2 ^ 63/\xs.length*k.toNat<=sizeLine /\
 ∀p,H p=none->Q (.ref p) (upd H p (.lst (fu k.toNat xs).flatten))
theorem iZ {α:Type}(xs:List α)(k:Nat):(fu k xs).flatten.length=k*xs.length:=by
 induction k with
 |zero=>simp
 |succ k ih=>rw[jt,iw,fe,ih,Nat.succ_mul,uf]
theorem Ox:OpR X (binaryOp .Mult) Aft:=by
 intro pins s G H x y v u Q I rx ry h;obtain⟨l,k,xs,rfl,rfl,hH,h1,h2,hz,q⟩:=h;cases rx;obtain⟨t,rfl⟩:=ry;obtain⟨z,its,n,r,hl,e⟩:=I.lstM hH;have hlen:its.toArray.size*k.toNat<=sizeLine:=by rw[gn,<-hl];exact hz
 have hcap:¬ its.toArray.size*k.toNat>(2 ^ 63-1)/8:=by
  have:(sizeLine:Nat)<=(2 ^ 63-1)/8:=by decide
  lia
 have hfit:¬(!LZ k)=true:=by
  rw[fitsIndex_both h1 h2];exact im
 have hlong:¬ qv (its.toArray.size*k.toNat)=true:=by
  rw[Z3 hlen];exact im
 have hnew:FU (λx1 x2=>x1++x2) #[] (fu (if its.toArray.isEmpty=true then 0 else k.toNat) its.toArray)=(fu k.toNat its).flatten.toArray:=by
  have f0:∀m:Nat,FU (λx1 x2=>x1++x2) #[] (fu m its.toArray)=(fu m its).flatten.toArray:=λm=>by
   have:=Vc its m [];rw[ju] at this;exact this
  rw[f0]
  cases its with
  |nil=>simp
  |cons a r'=>rw[if_neg (by simp)]
 refine wpAny_binaryOp_repeat_ref (T:="list") (U:="int") (by decide) ⟨_,e,rfl⟩ (λs'=>IM s' k t) noFill_list_mul F.fills_int_mul JH repeat_list F.slot_int_index.lookup
  (ub JH (IM s k t) F.entry_int_rmul (F.args_int_rmul_2 _ _) (int___rmul___int_list k t l its.toArray n)
   ⟨e,rfl,⟨_,e,rfl⟩,ub F.slot_list_mul ⟨_,e,rfl⟩ F.entry_list_mul (F.args_list_mul_2 _ _) (OA l its.toArray n k t hfit hcap hlong) ⟨e,?_⟩⟩)
 rw[hnew];exact⟨.ref _,_,I.lnew (t':=s.toks) (r.rep k.toNat) (by rw[iZ,AB];exact hz),rfl,q _ I.fresh⟩
end
end L2
namespace Att
open PySem PySem.W PySem.Calls PyProof.Rows
theorem P5 {P:CS}{h:jo}:∀(ns:List Int) (vs:Za3),WellAll P h vs (ns.map KM)->nu vs ns:=by
 intro ns
 induction ns with
 |nil=>
  intro vs w;rw[vy] at w;cases w;exact .nil
 |cons n ns ih=>
  intro vs w;rw[ik] at w
  cases w with
  |cons a b=>
   cases a;exact .cons _ _ (ih _ b)
theorem oG {l:NW}{n:Nat}(hn:l.most=some n){P:CS}{h:jo}{args:List WData}{vals:Za3}
    (hpre : l.row.toRowW.claim.pre args = true)(hwl : WellAll P h vals args) :
    ∃ a vs ns, vals = [je a]/\args = [WData.list (ns.map KM)]/\h.get? a = some { cls := .type "list", data := .seq vs.toArray }/\nu vs ns/\ns.length <= n := by
  have hsh : WShape.hasAll [] args [.list .int] = true := (pre_splitW hpre).1;have hc : l.pre.holds [] { args := args } = true := (pre_splitW hpre).2;obtain ⟨d, r, rfl, h1, h2⟩ := hasAllW_cons hsh;obtain rfl := hasAllW_nil h2;obtain ⟨xs, rfl, h3⟩ := hasW_list h1;obtain ⟨ns, rfl⟩ := items_int h3;have hlen : ns.length <= n := by
    unfold OpenLaw.pre at hc;have h4 : (WTm.not (.lt (.lit (.int (n : Int))) (.len (.arg 0)))).holds [] { args := [.list (ns.map .int)] } = true := by
      have h4 := (holds_andW hc).1;rw [hn] at h4;exact h4
    have h5 := condW_of h4 (w_not (w_lt w_lit (w_len_list (w_arg rfl))));rw [fb] at h5;refine Nat.le_of_not_lt λq => ?_;have q' : (n : Int) < ((ns.length : Nat) : Int) := by lia
    first
      | (rw [decide_eq_true q'] at h5; exact absurd h5 (by decide))
      | (simp at h5; lia)
  cases hwl with
  | cons w1 w2 =>
    cases w2
    cases w1 with
    | list ho hall => exact ⟨_, _, ns, rfl, rfl, ho, P5 ns _ hall, hlen⟩
theorem nA (l:NW)(args:List WData):l.row.toRowW.claim.post args (.bool true) args=true:=
 postW_of (r:=l.row.toRowW) (X:=(true==true))
  (show IZ [] (.bool true) .bool=true by first|rfl|decide|simp[IZ,WShape.arms,WShape.armsAll])
  (show(WTm.eq .res (.lit (.bool true))).value [] { args:=args,res:=some (.bool true),after:=args }=some (.bool (true==true)) from w_eq_bool (w_res rfl) w_lit) rfl
theorem attach_call {l:NW}{n:Nat}{q:gv}{loose:Za6}{XP:(Za2)->jo->Prop}{YP:ir->jo->Prop}{d:MO}
  (hn:l.most=some n)(hdf:d.params.defaults=[])
  (call:∀(w:ir) (mt QN:fw) (mg mb:Za2) (fa:fg) (o:Obj) (pm cd doc:fv) (a:fg) (vs:Za3) (ns:List Int),
   Ground q loose [] XP w mt mg mb QN.heap->YP w QN.heap ->
   QN.heap.get? fa=some o->o.data=.func (docDef d.name d.params d.body d.scope pm cd doc)->QN.heap.CodeRec cd d.name->mg d.name=some (.ref fa) ->
   QN.heap.get? a=some { cls:=.type "list",data:=.seq vs.toArray }->nu vs ns->ns.length<=n->QN.gens=#[] ->
   codeAny (model l.prog w) callerA (.call (.ref fa) ⟨[.ref a],[]⟩) (λr s'=>r=.ok (.ret (.bool true))/\OldK QN.heap s'.heap/\s'.os=QN.os/\ww s'.gens) QN) :
  WalkO q loose XP YP l.row.toRowW d [] (λf vs=>FG f vs):=by
 intro w mt QN mg mb G Y fa o pm cd doc dV kV ho hd hcd hD hmg hg args vals as hpre hlay hrd hwl hlo;obtain rfl:dV=.none:=Dflts.none hD hdf;obtain rfl:kV=.none:=Dflts.noKw hD;obtain⟨a,vs,ns,rfl,rfl,hobj,hints,hlen⟩:=oG hn hpre hwl;refine enter_call (qb (call w mt QN mg mb fa o pm cd doc a vs ns G Y ho (fd_plain hd) hcd hmg hobj hints hlen hg) λr s' hq=>?_);obtain⟨rfl,h2,h3,h4⟩:=hq;exact⟨.inl ⟨.bool true,.bool true,[],rfl,λ_=>rfl,.bool true,nA l _,λ_=>⟨vj,λ_ hm=>(nomatch hm)⟩⟩,h2,h3,h4⟩
section
variable {prog:gv} {w:ir} {A:ji} {E:Za0} {s:fw} {K:KD}
end
end Att
namespace L2
open PySem PySem.Spec PyProof.Rows
variable {C Pt dx i1 i2 it l1 l2 z:fg} {params:o8} {A:ji} {CX:CXT} {op:yx} {X:Cx} {env:Env} {tg:jc} {fd:ke} {base h h' h1:jo} {H H' H1 H2:Hp} {J:It} {pins:Za1} {fp:List fg} {outer:List Env} {es:List jc} {kz ns:List Int} {l0:List ic} {cs ix:Za4} {N ps:Za6} {xs ys:List V} {us vs:Za3} {M:yl} {t':Nat} {oT:Obj} {an od:Option fg} {cpos lpos pos:Pos} {scope:ol} {pl:Sem Bool} {s s2:fw} {sp:Sp} {qual:Str} {te to:TE} {wi:TI} {y:V} {cdv ct doc oc pm:fv} {w:ir}
theorem Lj:∀{vs:Za3} {ns:List Int},nu vs ns->Av (ns.map V.int) vs
 |_,_,.nil=>.nil
 |_,_,.cons n t h=>.cons ⟨t,rfl⟩ (Lj h)
def Az (s:jr)(j:Nat):jr:=match s with
 |.ClassDef _ _ _ body _ _ _ _ _ _ _=>body.getD j (.Pass ⟨0,0,0,0⟩)
 |_=>.Pass ⟨0,0,0,0⟩
def Bs (s:jr):o8:=match s with
 |.FunctionDef _ a _ _ _ _ _ _ _ _=>a
 |_=>{ posonlyargs:=[],args:=[],vararg:=none,kwonlyargs:=[],kw_defaults:=[],kwarg:=none,defaults:=[] }
def Bf (s:jr):List jr:=match s with
 |.FunctionDef _ _ b _ _ _ _ _ _ _=>b
 |_=>[]
def Ae (s:jr):ol:=match s with
 |.FunctionDef _ _ _ _ _ _ sc _ _ _=>sc
 |_=>{ kind:=.function,names:=[],isGenerator:=false,isCoroutine:=false }
abbrev CX0:CXT:=λ_ _ _ _ _ _=>False
abbrev E0:XK:=λ_ _ _=>False
theorem jY:Ft CX0 X E0:=λ_ _ _ _ _ _ _ h=>h.elim
structure Fun (K:eh) (x qual:Str) (st:jr) (f:fg) (fd:ke):Prop where
 ex:∃(oc:fv) (od:Option fg) (kV doc pm:fv) (an:Option fg) (cdv ct:fv) (osl:Array (Za7)),
  fd=kl x qual (Bs st) (Bf st) (Ae st) .none kV doc pm an cdv ct/\K.lookup f=some ⟨oc,od,.func fd,osl⟩/\m7 K cdv qual=true
 kp:k8 K (.ref f)=true
section
variable {P:gv} {w:ir} {K:eh} {mg:Za2} {base:jo}
theorem Fun.ok {x:Str}{st:jr}{f:fg}{k:Nat}(F:Fun K x qual st f fd)(S:Aj N ps (Ae st))(len:∀vs H Q E,sp vs H Q E->vs.length=ps.length)
  (hbody:∀(cdv:fv) (A:ji) (outer:List Env) (s:fw) (H:Hp) (vs:List V) (Q:VK) (E:XK),Bv k (A.deeper (envOfC qual (Ae st) s.heap.objs.size f cdv))->sp vs H Q E ->
   ∃t,PSs (By CX0 P w K mg base N qual (Ae st) f cdv A outer s H E).nox (Bf st) t/\t { nx:=λ_ H'=>Q .non H',rt:=Q } (Hk N vs) H):As P w K mg base CX0 (k+1) f fd ps sp:=by
 obtain⟨oc,od,kV,doc,pm,an,cdv,ct,osl,rfl,lk,hcd⟩:=F.ex;refine jR lk hcd S len λA outer s H vs Q E hr hsp=>?_;obtain⟨t,h,q⟩:=hbody cdv A outer s H vs Q E hr hsp;exact⟨t,h.nox,q⟩
theorem Fun.binds {x:Str}{st:jr}{f:fg}(F:Fun K x qual st f fd)
  (h:∀(kV doc pm:fv) (an:Option fg) (cdv ct:fv) (us:Za3),us.length=ps.length->bindArgs (kl x qual (Bs st) (Bf st) (Ae st) .none kV doc pm an cdv ct) ⟨us,[]⟩=pure (ps.zip us)):Dn K fd ps []:=by
 obtain⟨oc,od,kV,doc,pm,an,cdv,ct,osl,rfl,lk,hcd⟩:=F.ex;exact .all (h kV doc pm an cdv ct)
theorem iW {x:Str}{st:jr}{f:fg}{osl:Array (Za7)}{kV:fv}(l:K.lookup f=some ⟨oc,od,.func (kl x qual (Bs st) (Bf st) (Ae st) .none kV doc pm an cdv ct),osl⟩)
  (c:m7 K cdv qual=true)(k:k8 K (.ref f)=true):Fun K x qual st f (kl x qual (Bs st) (Bf st) (Ae st) .none kV doc pm an cdv ct):=⟨⟨oc,od,kV,doc,pm,an,cdv,ct,osl,rfl,l,c⟩,k⟩
end
theorem G2 {n:Nat}(h:n<=1000):n<sizeLine:=wj h (by decide)
section
variable {X:Cx}
theorem pv (i:Nat){x:Str}(hN:autoParam (X.N[i]?=some x) QD)(hv:Vis X.env.scope x:=by first|exact DJ rfl|exact BD (DJ rfl)|exact BD (BD rfl))(hd:autoParam ((x==("__debug__":Str))=false) QF)
  (hcd:autoParam ((x==("__classdict__":Str))=false) QF):PE X (.Name x pos) (yB i):=vF hN hv hd hcd
end
theorem Afy {A B:Prop}(h:B):if false=true then A else B:=by
 rw[if_neg im];exact h
theorem Af6 {A B:Prop}(h:A):if true=true then A else B:=by
 rw[if_pos rfl];exact h
def Ak (H H':Hp):Prop:=∀b o,H b=some o->H' b=some o
theorem Ak.refl (H:Hp):Ak H H:=λ_ _ h=>h
theorem Ak.trans (a:Ak H H1)(b:Ak H1 H2):Ak H H2:=λc o h=>b c o (a c o h)
theorem Ak.free (e:Ak H H'){l:fg}(h:H' l=IS):H l=IS:=by
 cases q:H l with
 |none=>rfl
 |some o=>
  rw[e l o q] at h;cases h
theorem Ak.seq {K:eh}{a:fg}(e:Ak H H')(h:SqL K H a xs):SqL K H' a xs:=by
 rcases h with(h|⟨o,h⟩)|h
 ·exact .inl (.inl (e _ _ h))
 ·exact .inl (.inr ⟨o,e _ _ h⟩)
 ·exact .inr h
end L2
section
namespace L2
open PySem PySem.Spec PyProof.Rows
variable {C Pt dx i1 i2 it l1 l2 z:fg} {params:o8} {A:ji} {CX:CXT} {op:yx} {X:Cx} {env:Env} {tg:jc} {fd:ke} {base h h' h1:jo} {H H' H1 H2:Hp} {J:It} {pins:Za1} {fp:List fg} {outer:List Env} {es:List jc} {kz ns:List Int} {l0:List ic} {cs ix:Za4} {N ps:Za6} {xs ys:List V} {us vs:Za3} {M:yl} {t':Nat} {oT:Obj} {an od:Option fg} {cpos lpos pos:Pos} {scope:ol} {pl:Sem Bool} {s s2:fw} {sp:Sp} {qual:Str} {te to:TE} {wi:TI} {y:V} {cdv ct doc oc pm:fv} {w:ir}
section
variable {prog:gv} {w:ir} {A:ji} {R:yp->fw->Prop} {s:fw}
def mB (ifs:List jc)(env:Env):Sem Bool:=
 forIn ifs true λc r=>if r=true then do let ok <-isTrue c env (eval c env);pure (rg ok) else pure (rg r)
theorem lB {elt tg iter:jc}{ifs:List jc}{scope:ol}{pos:Pos}{it acc:fv}{env:Env}(J:Nat->fw->Prop)
  (turn:∀n s,J n s->wpAny (model prog w) A (pyNext it) (λr s1=>match r with
   |none=>R (.ok .next) s1
   |some v=>wpAny (model prog w) A (letOwnedTupleGo tg it v) (λ_ s2=>wpAny (model prog w) A (assign tg env v) (λ_ s3=>wpAny (model prog w) A (mB ifs env) (λok s4=>
     if ok=true then wpAny (model prog w) A (eval elt env) (λx s5=>wpAny (model prog w) A (call (.builtin "list.append") [acc,x]) (λ_ s6=>∃m,m<n/\J m s6) (λ_ _=>False) s5) (λ_ _=>False) s4
     else ∃m,m<n/\J m s4) (λ_ _=>False) s3) (λ_ _=>False) s2) (λ_ _=>False) s1) (λ_ _=>False) s)
  (n:Nat)(h:J n s):codeAny (model prog w) A (.compLoop (.ListComp elt [⟨tg,iter,ifs,0⟩] scope pos) 0 it acc env) R s:=by
 refine codeAny_loop rfl J (λn s hJ=>?_) n h;show wpAny _ A (Sem.onRaise (compTurn (.ListComp elt [⟨tg,iter,ifs,0⟩] scope pos) 0 it acc env) _) _ _ s;refine wpAny_noted ?_;rw[compTurn_list];refine wpAny_bind (qf (wpAny_bind (wpAny_mono (turn n s hJ) (λr s1 h1=>?_) (λ_ _ z=>z.elim))))
 cases r with
 |none=>exact ft h1
 |some v=>
  refine wpAny_bind (wpAny_mono h1 (λ_ s2 h2=>wpAny_bind (wpAny_mono h2 (λ_ s3 h3=>wpAny_bind (wpAny_mono h3 (λok s4 h4=>?_) (λ_ _ z=>z.elim))) (λ_ _ z=>z.elim))) (λ_ _ z=>z.elim))
  cases ok with
  |false=>exact ft ⟨rfl,h4⟩
  |true=>exact wpAny_bind (wpAny_bind (wpAny_mono h4 (λx s5 h5=>wpAny_bind (wpAny_mono h5 (λ_ s6 h6=>ft (ft ⟨rfl,h6⟩)) (λ_ _ z=>z.elim))) (λ_ _ z=>z.elim)))
end
def Ds (env:Env):List (Str×rn)->List (Str×fg)->List (Str×fg)
 |[],cs=>cs
 |y::r,cs=>if y.2=.free then Ds env r ((y.1,(env.cells.lookup y.1).getD 0)::cs) else Ds env r cs
theorem Wv {env:Env}(f:Str×rn->List (Str×fg)->Sem (ForInStep (List (Str×fg))))
  (h1:∀y cs c,y.2=.free->env.cells.lookup y.1=some c->f y cs=pure (.yield ((y.1,c)::cs)))(h2:∀y cs,y.2≠.free->f y cs=pure (.yield cs)) :
  ∀(ns:List (Str×rn)) (cs:List (Str×fg)),(∀y∈ns,y.2=.free->∃c,env.cells.lookup y.1=some c)->forIn ns cs f=(pure (Ds env ns cs):Sem (List (Str×fg)))
 |[],cs,_=>by simp[Ds]
 |y::r,cs,h=>by
  have hr:∀z∈r,z.2=.free->∃c,env.cells.lookup z.1=some c:=λz hz=>h z (gz _ hz);rw[BH]
  by_cases hy:y.2=.free
  ·obtain⟨c,hc⟩:=h y il hy
   rw[h1 y cs c hy hc];simp only[Ds,if_pos hy,hc,wx];exact Wv f h1 h2 r _ hr
  ·rw[h2 y cs hy]
   simp only[Ds,if_neg hy];exact Wv f h1 h2 r _ hr
theorem Jg (h:∀y∈scope.names,y.2=.free->∃c,env.cells.lookup y.1=some c):closureFor scope env=pure (Ds env scope.names []):=by
 unfold closureFor;dsimp only;rw[Wv (env:=env) _ (λy cs c hy hc=>?_) (λy cs hy=>?_) scope.names [] h]
 ·rfl
 ·obtain⟨n,k⟩:=y
  dsimp only at hy hc ⊢;subst hy;simp only[cellOf,hc,beq_self_eq_true,if_true];rfl
 ·obtain⟨n,k⟩:=y
  have e:(k==o9)=false:=by simpa using hy
  simp only[e,mj,if_false]
theorem Ii {env:Env}:∀(ns:List (Str×rn)) (cs:List (Str×fg)) (x:Str) (c:fg),(∀y∈ns,y.2=.free->∃c,env.cells.lookup y.1=some c) ->
  (∀z d,cs.lookup z=some d->env.cells.lookup z=some d)->(Ds env ns cs).lookup x=some c->env.cells.lookup x=some c
 |[],cs,x,c,_,hc,h=>hc x c h
 |y::r,cs,x,c,hy,hc,h=>by
  have hr:∀z∈r,z.2=.free->∃c,env.cells.lookup z.1=some c:=λz hz=>hy z (gz _ hz);unfold Ds at h;split at h
  ·rename_i hk
   obtain⟨d,hd⟩:=hy y il hk;rw[hd] at h;refine Ii r _ x c hr (λz e hz=>?_) h;rw[uk] at hz;split at hz
   ·rename_i hzy
    cases hz;rw[eq_of_beq hzy];exact hd
   ·exact hc z e hz
  ·exact Ii r _ x c hr hc h
theorem Mx {env:Env}:∀(ns:List (Str×rn)) (cs:List (Str×fg)) (x:Str),(cs.lookup x).isSome=true->((Ds env ns cs).lookup x).isSome=true
 |[],_,_,h=>h
 |y::r,cs,x,h=>by
  unfold Ds;split
  ·refine Mx r _ x ?_
   rw[uk];split
   ·rfl
   ·exact h
  ·exact Mx r _ x h
theorem Ev {env:Env}:∀(ns:List (Str×rn)) (cs:List (Str×fg)) (x:Str),(x,o9)∈ns->((Ds env ns cs).lookup x).isSome=true
 |[],_,_,h=>by simp at h
 |y::r,cs,x,h=>by
  rcases i9.mp h with e|e
  ·subst e
   unfold Ds;rw[if_pos rfl];exact Mx r _ x (by simp)
  ·unfold Ds
   split
   ·exact Ev r _ x e
   ·exact Ev r _ x e
theorem Jq {x:Str}{k:rn}(h:(relabel scope env).names.lookup x=some k):(x,k)∈scope.names\/((x,o9)∈scope.names/\k=BF):=by
 have m:=k6 h;obtain⟨⟨n,k'⟩,hm,e⟩:=jl.mp m;dsimp only at e;split at e
 ·rename_i hk
  cases e;simp only[ky,beq_iff_eq] at hk;rw[hk.1.1] at hm;exact .inr ⟨hm,rfl⟩
 ·cases e
  exact .inl hm
theorem N8 (hk:env.scope.kind=.function){x:Str}(hx:env.kindOf x=some .cell)(h:scope.names.lookup x=some .free):(relabel scope env).names.lookup x=some .cell:=by
 unfold relabel;show(scope.names.map _).lookup x=some BF;generalize scope.names=ns at h
 induction ns with
 |nil=>simp at h
 |cons y r ih=>
  obtain⟨n,k⟩:=y;rw[uk] at h;rw[ik];split at h
  ·rename_i hn
   cases h;rw[<-eq_of_beq hn];simp[hk,hx]
  ·rename_i hn
   dsimp only;split
   ·rw[uk,hn];exact ih h
   ·rw[uk,hn];exact ih h
def Do (X:Cx)(scope:ol)(N:Za6)(C:fg)(s:fw)(H:Hp)(fp:List fg):Cx:=
 { X with N:=N,mt:=s,QP:=H,env:=compEnvC scope (Ds X.env scope.names []) C X.env,outer:=X.stack,ex:=fp,fn:=λ_=>false,pn:=[],xe:=λ_ _=>False }
structure B4 (QZ:Za6) (QX sc:ol) (x:Str) (N:Za6) (ix:Za4):Prop where
 kind:sc.kind=.function
 nocell:∀y∈sc.names,y.2≠.cell
 names:∀y∈sc.names,y.2=.local->sc.names.lookup y.1=some .local
 free:∀y∈sc.names,y.2=.free->QX.names.lookup y.1=some .cell
 nd:N.Nodup
 hd:N.head?=some x
 loc:sc.names.lookup x=some .local
 len:N.length=ix.length+1
 at_:∀p∈N.tail.zip ix,QZ[p.2]?=some p.1/\sc.names.lookup p.1=some .free
def frV (G:St)(ix:Za4):St:=ix.map λj=>(G[j]?).getD none
def PIf (X:Cx)(ifs:List jc)(t:TT):Prop:=
 ∀(pins:Za1) (s:fw) (G:St) (H:Hp) (Q:Bool->Hp->Prop),Inv X pins G H s->t G H Q->wpAny (model X.prog X.w) X.A (mB ifs X.env) (TP X pins G Q) X.xe s
def Ae6:TT:=λ_ H Q=>Q true H
theorem Fb:PIf X [] Ae6:=λpins s G H Q I h=>wpAny_tests_nil ⟨H,I,h⟩
theorem wH {c:jc}{t:TT}(h:PT X c t):PIf X [c] t:=λpins s G H Q I hw=>wpAny_tests_one (h pins s G H Q I hw)
def P2 (J:It)(H1:Hp)(fr:St)(tc:TT)(te:TE)(Q:VK):Prop:=∀D,H1 D=none->∃W:Nat->Nat->Hp->Prop,(∃m,W 0 m (upd H1 D (.lst [])))/\∀i m H,W i m H ->
 (J.stop i H/\Q (.ref D) H)\/(J.go i H/\∀x H',J.yld i H x H'->tc (some x::fr) H' λb H3=>
  if b=true then te (some x::fr) H3 λy H4=>∃ys,H4 D=some (.lst ys)/\ys.length<sizeLine/\∃m',m'<m/\W (i+1) m' (upd H4 D (.lst (ys++[y]))) else ∃m',m'<m/\W (i+1) m' H3)
def tLc (wi:TI)(ix:Za4)(tc:TT)(te:TE):TE:=λG H Q=>wi G H λJ H1=>P2 J H1 (frV G ix) tc te Q
section
variable {X:Cx} {scope:ol} {N:Za6} {ix:Za4} {x:Str} {px:Pos} {elt iter:jc} {ifs:List jc} {tc:TT} {te:TE} {pos:Pos}
theorem Ac7 {G:St}{tn:Nat->jo->Prop}(L:B4 X.N X.env.scope scope x N ix)(I2:Inv X pins G H2 s2)
  (T:R9 X.prog X.w X.K tg J fp it tn)(st2:tn 0 s2.heap)(f2:∀b∈fp,M3 X pins H2 b){s3 s4:fw}{H3:Hp}(I3:Inv X pins G H3 s3)(I4:Inv X pins G H3 s4)(hle:s2.heap.objs.size<=s3.heap.objs.size)
  (hC:C=s3.heap.objs.size)(ho:s4.os=s3.os)(kp:∀b u,s3.heap.get? b=some u->s4.heap.get? b=some u){m:Za2}(hns:s4.heap.Ns C m):Inv (Do X scope N C s3 H3 fp) [] (none::frV G ix) H3 s4:=by
 have hfree:∀y∈scope.names,y.2=.free->∃c,X.env.cells.lookup y.1=some c:=λy hy hf=>I2.ok.has y.1 (.inl (L.free y hy hf));have sub:∀y c,(Ds X.env scope.names []).lookup y=some c->X.env.cells.lookup y=some c:=λy c h=>Ii _ _ y c hfree (λ_ _ z=>by simp at z) h;have lt2:∀b∈fp,b<s2.heap.objs.size:=λb hb=>by obtain⟨o,e,_⟩:=T.obj _ _ st2 b hb;exact gh e
 have okY:(Do X scope N C s3 H3 fp).Ok:=by
  refine⟨I2.ok.mod,L.kind,I2.ok.glob,I2.ok.blt,ot hC.symm,λy z c h1 h2=>I2.ok.inj y z c (sub y c h1) (sub z c h2),λy hy=>?_,λy c z _=>?_,I2.ok.hd,I2.ok.frames,.inl rfl,λb hb=>⟨?_,λy c h=>(f2 b hb).2.2.2.2.1 y c (sub y c h)⟩,
   I3.bs,io I3.ok.bsz I3.sz,λb o e hb=>?_,λb hb z=>?_,I3.stack,I3.stkFree⟩
  ·have hk:(y,o9)∈scope.names:=by
    rcases hy with hy|hy
    ·rcases Jq hy with q|q
     ·exact absurd rfl (L.nocell _ q)
     ·exact q.1
    ·rcases Jq hy with q|q
     ·exact q
     ·exact absurd q.2 (by decide)
   exact jw.mp (Ev _ _ y hk)
  ·cases(show false=true from z)
  ·have l:=lt2 b hb
   show b≠C;rw[hC];exact ig (gi l hle)
  ·rcases(f2 b hb).2.2.2.1 with q|q
   ·exact I2.ok.noex b o e q
   ·exact absurd (gi (gh e) (io I2.ok.bsz q)) (p8 _)
  ·rcases i9.mp (I2.stkSub b z) with q|q
   ·exact(f2 b hb).2.1 q
   ·exact(f2 b hb).2.2.1 q
 refine⟨okY,ho,I4.bare,Un.kept kp,⟨m,hns,λi y v h1 h2 h3=>?_⟩,λy c e=>I4.cell y c (sub y c e),?_,λy c e=>I4.freeC y c (sub y c e),λp hp=>absurd (show p∈([]:Za1) from hp) (by simp),I4.hok,?_⟩
 ·cases i with
  |zero=>cases(show some none=some (some v) from h2)
  |succ k=>
   have h2:(frV G ix)[k]?=some (some v):=h2;have h1:N[k+1]?=some y:=h1;unfold frV at h2;rw[gd] at h2
   cases hj:ix[k]? with
   |none=>rw[hj] at h2;cases h2
   |some j=>
    rw[hj] at h2;have h2:(G[j]?).getD none=some v:=fq h2;have h2':G[j]?=some (some v):=by
     cases e:G[j]? with
     |none=>rw[e] at h2;cases h2
     |some z=>rw[e] at h2;exact congrArg some h2
    have ht:N.tail[k]?=some y:=by rw[wd];exact h1
    have hz:(y,j)∈N.tail.zip ix:=gg (i:=k) (by rw[wn];exact⟨ht,hj⟩);obtain⟨q1,q2⟩:=L.at_ _ hz;have hm:=k6 q2;have hcell:=L.free _ hm rfl;obtain⟨m',hn',hl'⟩:=I4.loc;obtain⟨u,r,lk⟩:=hl' j y v q1 h2' (.inr (.inl hcell));refine⟨u,r,.inr ⟨.inl (N8 I2.ok.kind hcell q2),?_⟩⟩;rcases lk with lk|⟨_,c,e,z⟩
    ·rw[show X.env.kindOf y=some .cell from hcell] at lk
     cases lk.1
    ·obtain⟨c',e'⟩:=jw.mp (Ev (env:=X.env) scope.names [] y hm)
     have e2:=sub y c' e';rw[e] at e2;cases e2;exact⟨c,e',z⟩
 ·show H3 C=none
  exact I3.hok.fresh (ot hC.symm)
 ·show(none::frV G ix).length=N.length
  rw[L.len];simp[frV]
theorem pI {tgt:jc}(htg:tgt=.Name x px){G:St}{tn:Nat->jo->Prop}(hc:X.calm=true)(L:B4 X.N X.env.scope scope x N ix)(I2:Inv X pins G H2 s2)
  (T:R9 X.prog X.w X.K tgt J fp it tn)(st2:tn 0 s2.heap)(f2:∀b∈fp,M3 X pins H2 b)
  (hif:∀C s H,PIf (Do X scope N C s H fp) ifs tc)(he:∀C s H,PE (Do X scope N C s H fp) elt te){Q:VK}(rd:P2 J H2 (frV G ix) tc te Q){RR:fv->fg->yp->fw->Prop}{E:Za0}
  (fin:∀D C H' s' m,Inv X pins G H' s'->s2.heap.objs.size<=C->H' C=none->s'.heap.Ns C m->Q (.ref D) H'->RR (.ref D) C (.ok .next) s') :
  wpAny (model X.prog X.w) X.A (newList []) (λacc s3=>wpAny (model X.prog X.w) X.A (newFunctionEnv scope X.env.globals (Ds X.env scope.names []) [] X.env.qual none .none (some X.env)) (λcenv s4=>
   codeAny (model X.prog X.w) X.A (.compStart (.ListComp elt [⟨tgt,iter,ifs,0⟩] scope pos) 0 (.ref it) acc { cenv with scope:=relabel scope X.env }) (RR acc cenv.locals) s4) E s3) E s2:=by
 refine oj (vz L.nocell (by intro y hy;simp at hy) (λh1 hns hsb=>?_) L.kind);dsimp only at hns hsb ⊢;have I3:Inv X pins G (upd H2 s2.heap.objs.size (.lst [])) { s2 with heap:=s2.heap.push { cls:=.type "list",dict:=none,data:=.seq ([]:Za3).toArray } }:=I2.lnew (its:=[]) (t':=s2.toks) .nil (i6 _);generalize hH3:s2.heap.push { cls:=.type "list",dict:=none,data:=.seq ([]:Za3).toArray }=h3 at hns hsb I3 ⊢;have hsz:h3.objs.size=s2.heap.objs.size+1:=by rw[<-hH3,we]
 have kp34:∀b u,h3.get? b=some u->h1.get? b=some u:=λb u e=>hsb.extBut b u (ig (gh e)) (fh _ e);have I4:Inv X pins G (upd H2 s2.heap.objs.size (.lst [])) { s2 with heap:=h1,toks:=s2.toks+([]:List (Str×fv)).length }:=I3.kept (t':=s2.toks+([]:List (Str×fv)).length) kp34;have kp24:∀b u,s2.heap.get? b=some u->h1.get? b=some u:=λb u e=>kp34 b u (by rw[<-hH3];exact fh _ e);have IY:=Ac7 (C:=h3.objs.size) (s3:={ s2 with heap:=h3 }) L I2 T st2 f2 I3 I4 (by show s2.heap.objs.size<=h3.objs.size;lia) rfl rfl kp34 hns;have fD:H2 s2.heap.objs.size=none:=I2.hok.fresh (fk _);have lt2:∀b∈fp,b<s2.heap.objs.size:=λb hb=>by obtain⟨o,e,_⟩:=T.obj _ _ st2 b hb;exact gh e
 have st4:tn 0 h1:=T.keep _ _ _ st2 λb _ o e=>kp24 b o e;have stat:∀{pn:Za1} {H':Hp},pn=[]->(∀b∈fp,H' b=none)->∀b∈fp,M3 (Do X scope N h3.objs.size { s2 with heap:=h3 } (upd H2 s2.heap.objs.size (.lst [])) fp) pn H' b:=λhp hn b hb=>by
  subst hp;exact⟨hn b hb,(IY.ok.exf b hb).1,IY.ok.exfs b hb,.inl hb,(IY.ok.exf b hb).2,λp hp=>absurd (show p∈([]:Za1) from hp) (by simp)⟩
 obtain⟨W,⟨m0,w0⟩,turn⟩:=rd _ fD;have loop:codeAny (model X.prog X.w) X.A (.compLoop (.ListComp elt [⟨tgt,iter,ifs,0⟩] scope pos) 0 (.ref it) (.ref s2.heap.objs.size) (compEnvC scope (Ds X.env scope.names []) h3.objs.size X.env)) (RR (.ref s2.heap.objs.size) h3.objs.size)
   { s2 with heap:=h1,toks:=s2.toks+([]:List (Str×fv)).length }:=by
  refine lB (λn s'=>∃i H',Inv (Do X scope N h3.objs.size { s2 with heap:=h3 } (upd H2 s2.heap.objs.size (.lst [])) fp) [] (none::frV G ix) H' s'/\tn i s'.heap/\(∀b∈fp,H' b=none)/\W i n H') ?_ m0
   ⟨0,_,IY,st4,λb hb=>by rw[Ai (ig (lt2 b hb))];exact(f2 b hb).1,w0⟩
  rintro n s5 ⟨i,H5,I5,st5,fr5,w5⟩;rcases turn i n H5 w5 with⟨stop,q⟩|⟨go,step⟩
  ·refine thn (T.done (Do X scope N h3.objs.size { s2 with heap:=h3 } (upd H2 s2.heap.objs.size (.lst [])) fp) rfl rfl rfl hc i [] s5 _ H5 (λ_ _=>False) I5 (stat rfl fr5) st5 stop) λr s6 ⟨hr,I6⟩=>?_
   subst hr;obtain⟨m6,hn6,_⟩:=I6.loc;have u1:Un (frs X.stack) fp H2 (upd H2 s2.heap.objs.size (.lst [])) s2.heap h3:=Un.laid (λb u e=>by rw[<-hH3];exact fh _ e) (fk _) fD;have back:Inv X pins G H5 s6:=I2.call' (ch:=fp) (I6.os.trans rfl) (u1.trans I6.base) I6.hok I6.bare λb hb=>⟨(f2 b hb).2.2.2.1,(f2 b hb).2.1,(f2 b hb).2.2.2.2.1,(f2 b hb).2.2.2.2.2⟩;exact fin _ _ H5 s6 m6 back (by lia) I6.free hn6 q
  ·refine thn (T.item (Do X scope N h3.objs.size { s2 with heap:=h3 } (upd H2 s2.heap.objs.size (.lst [])) fp) rfl rfl rfl hc i [] s5 _ H5 (λ_ _=>False) I5 (stat rfl fr5) st5 go) λr s6 ⟨u,hr,h6⟩=>?_
   subst hr;refine thn h6 λ_ s7 ⟨y,H7,I7,r7,y7,st7,fr7⟩=>?_;have I7':=I7.pinned (stat rfl fr7) (T.obj _ _ st7);have hg:PG (Do X scope N h3.objs.size { s2 with heap:=h3 } (upd H2 s2.heap.objs.size (.lst [])) fp) tgt (Gm 0):=by
    rw[htg];have hi:N[0]?=some x:=by have:=L.hd;rwa [EB] at this
    exact Lh L.nd hi (.inl (qa L.loc)) (.inr (qa L.loc))
   refine thn (hg _ s7 _ H7 y u (λQM H'=>QM=some y::frV G ix/\H'=H7) I7' r7 ⟨rfl,rfl⟩) λ_ s8 ⟨XC,H8,I8,e8,e8'⟩=>?_;subst e8 e8';refine thn (hif _ _ _ _ s8 _ _ _ I8 (step y _ y7)) λok s9 ⟨H9,I9,q9⟩=>?_;have again:∀{sz:fw} {Hz:Hp} {m':Nat},Inv (Do X scope N h3.objs.size { s2 with heap:=h3 } (upd H2 s2.heap.objs.size (.lst [])) fp) ([]++Ou fp s7.heap) (some y::frV G ix) Hz sz->m'<n->W (i+1) m' Hz ->
     ∃m,m<n/\∃i H',Inv (Do X scope N h3.objs.size { s2 with heap:=h3 } (upd H2 s2.heap.objs.size (.lst [])) fp) [] (none::frV G ix) H' sz/\tn i sz.heap/\(∀b∈fp,H' b=none)/\W i m H':=λ{sz Hz m'} Iz hm wz=>by
    refine⟨m',hm,i+1,Hz,Iz.unpinned.weak (by simp) (λj v e=>?_),T.keep _ _ _ st7 λb hb o e=>(Iz.pin (b,o) (ii _ (ii _ (Fq hb e)))).1,λb hb=>?_,wz⟩
    ·cases j with
     |zero=>cases e
     |succ j=>exact e
    ·obtain⟨o,e,d⟩:=T.obj _ _ st7 b hb
     exact(Iz.pin (b,o) (ii _ (ii _ (Fq hb e)))).2.1
   cases ok with
   |false=>
    obtain⟨m',hm,wz⟩:=q9;exact again I9 hm wz
   |true=>
    refine thn (he _ _ _ _ s9 _ _ _ I9 q9) λxv s10 ⟨z,H10,I10,r10,ys,hD,hl,m',hm,wz⟩=>?_;refine thn (Dh _ s10 _ H10 (.ref s2.heap.objs.size) [z] (.ref s2.heap.objs.size) [xv] (λ_ Hz=>Hz=upd H10 s2.heap.objs.size (.lst (ys++[z]))) I10 rfl (.cons r10 .nil) ⟨_,ys,z,rfl,rfl,hD,hl,rfl⟩) λ_ s11 ⟨_,H11,I11,_,q11⟩=>?_;subst q11;exact again I11 hm wz
 exact GE loop (T.self X.A 0 _ _ _ st4 loop)
theorem Sn (hc:X.calm=true)(L:B4 X.N X.env.scope scope x N ix)(hi:PI X (.Name x px) iter wi)(hif:∀C s H fp,PIf (Do X scope N C s H fp) ifs tc)(he:∀C s H fp,PE (Do X scope N C s H fp) elt te)
  (hs:autoParam (∀z,foldedSetIterable iter X.env z=pure z) QJ):PE X (.ListComp elt [⟨.Name x px,iter,ifs,0⟩] scope pos) (tLc wi ix tc te):=by
 k_in;have hfree:∀y∈scope.names,y.2=.free->∃c,X.env.cells.lookup y.1=some c:=λy hy hf=>I.ok.has y.1 (.inl (L.free y hy hf));rw[eval_ListComp];refine xw (use:=none) rfl hs (Jg hfree) L.kind L.names (thn (hi pins s G H _ I h) λv s1 h1=>thn h1 λitv s2 h2=>?_);obtain⟨it,fp,tn,J,H2,e,I2,T,st2,f2,rd⟩:=h2;subst e;refine pI (RR:=λacc C=>compPost (model X.prog X.w) X.A X.xe none _ acc C) rfl hc L I2 T st2 f2 (λC s H=>hif C s H fp) (λC s H=>he C s H fp) rd λD C H' s' m I' hC hf hn q=>?_;refine⟨m,hn,λh' hsb=>⟨.ref D,H',?_,rfl,q⟩⟩;have l2:=I2.lt;refine I'.turned (t':=s'.toks) (it:=C) (λb o hb e=>hsb.extBut b o hb e) hf (ue (gi l2 hC)) (.inr (io I2.sz hC)) (λy c e=>?_) λp hp=>?_
 ·obtain⟨v,hv⟩:=I2.cell y c e
  exact ig (gi hv.lt hC)
 ·exact ig (gi (gh (I2.pin p hp).1) hC)
theorem M6 {i:Nat}{y:Str}{py spos:Pos}(hc:X.calm=true)(L:B4 X.N X.env.scope scope x N ix)(hN:X.N.Nodup)(hy:X.N[i]?=some y)(hl:X.env.scope.names.lookup y=some .local)
  (hi:PI X (.Name x px) iter wi)(hif:∀C s H fp,PIf (Do X scope N C s H fp) ifs tc)(he:∀C s H fp,PE (Do X scope N C s H fp) elt te)
  (hsw:autoParam (swapsWith (.ListComp elt [⟨.Name x px,iter,ifs,0⟩] scope pos) (some (.Name y py)) spos.line X.env=pure true) QD)
  (hs:autoParam (∀z,foldedSetIterable iter X.env z=pure z) QJ):PS X (.Assign [.Name y py] (.ListComp elt [⟨.Name x px,iter,ifs,0⟩] scope pos) spos) (iR (tLc wi ix tc te) (Gm i)):=by
 k_end;have hfree:∀y∈scope.names,y.2=.free->∃c,X.env.cells.lookup y.1=some c:=λy hy hf=>I.ok.has y.1 (.inl (L.free y hy hf));rw[GN _ _ _ _ hsw];refine wpAny_bind (qf (wpAny_bind ?_));show wpAny _ X.A (do let _ <-comprehension (.ListComp elt [⟨.Name x px,iter,ifs,0⟩] scope pos) scope X.env _ (newList []) false (eval iter X.env) (some (assign (.Name y py) X.env))) _ _ s;refine wpAny_bind (thn (Q:=λ_ s'=>SP X pins D .next s') (xw (use:=some (assign (.Name y py) X.env)) rfl hs (Jg hfree) L.kind L.names (thn (hi pins s G H _ I h) λv s1 h1=>thn h1 λitv s2 h2=>?_)) λ_ s' hq=>ft (ft hq));obtain⟨it,fp,tn,J,H2,e,I2,T,st2,f2,rd⟩:=h2;subst e;refine pI (RR:=λacc C=>compPost (model X.prog X.w) X.A X.xe (some (assign (.Name y py) X.env)) _ acc C) rfl hc L I2 T st2 f2 (λC s H=>hif C s H fp) (λC s H=>he C s H fp) rd λDa C H' s' m I' hC hf hn q=>?_;have l2:=I2.lt;have nC:C≠X.env.locals:=ue (gi l2 hC);have nF:C∉X.fs:=I2.nofs hC;obtain⟨oC,es,ep,hget,hdat,hrest⟩:=id hn;have Ip:Inv X (pins++[(C,oC)]) G H' s':=I'.pins_of λp hp=>(i5.mp hp).elim (λz=>I'.pin p (ii _ z)) λz=>by
  have e:p=(C,oC):=by simpa using z
  subst e;exact⟨hget,hf,nC,nF,λv z=>by rw[hdat] at z;cases z⟩
 have hg:PG X (.Name y py) (Gm i):=Lh hN hy (.inl hl) (.inr hl);show wpAny _ X.A (assign (.Name y py) X.env (.ref Da)) _ _ s';refine thn (hg _ s' G H' (.ref Da) (.ref Da) D.nx Ip rfl q) λ_ s'' ⟨XI,H'',I'',q''⟩=>?_;obtain⟨g1,g2,_⟩:=I''.pin (C,oC) (ii _ (ii _ (by simp)));refine⟨m,⟨oC,es,ep,g1,hdat,hrest⟩,λh' hsb=>⟨XI,H'',?_,q''⟩⟩;refine I''.unpinned.turned (t':=s''.toks) (it:=C) (λb o hb e=>hsb.extBut b o hb e) g2 nC (.inr (io I2.sz hC)) (λy c e=>?_) λp hp=>?_
 ·obtain⟨v,hv⟩:=I2.cell y c e
  exact ig (gi hv.lt hC)
 ·exact ig (gi (gh (I2.pin p hp).1) hC)
end
theorem Ag {D:fg}{o:HO}(h:H D=none):Ak H (upd H D o):=λb u e=>by rw[Ai (Al e h)];exact e
theorem Au {D:fg}{o:HO}(h:H D=none):Ak H (upd H D o)/\upd H D o D=some o:=⟨Ag h,Ac⟩
theorem Rn {fr:St}{tc:TT}{Q:VK}(n:Nat)(item:Nat->V)(acc:Nat->List V)(h0:acc 0=[])(hz:∀i,i<n->(acc i).length<sizeLine)
  (hgo:∀i H,i<n->Ak H1 H->J.go i H)(hy:∀i H x H',i<n->Ak H1 H->J.yld i H x H'->x=item i/\H'=H)(hst:∀H,Ak H1 H->J.stop n H)
  (turn:∀i H (R:Hp->Prop) (A:VK),i<n->Ak H1 H->(acc (i+1)=acc i->∀H',Ak H H'->R H')->(∀y H',acc (i+1)=acc i++[y]->Ak H H'->A y H') ->
   tc (some (item i)::fr) H λb H3=>if b=true then te (some (item i)::fr) H3 A else R H3)
  (fin:∀D H,H1 D=none->Ak H1 H->H D=some (.lst (acc n))->Q (.ref D) H):P2 J H1 fr tc te Q:=by
 intro D hD;refine⟨λi m H=>i<=n/\m=n-i/\Ak H1 H/\H D=some (.lst (acc i)),⟨n,i6 _,rfl,Ag hD,by rw[Ac,h0]⟩,?_⟩;rintro i m H ⟨hi,rfl,sm,hl⟩
 by_cases h:i=n
 ·subst h
  exact .inl ⟨hst H sm,fin D H hD sm hl⟩
 ·have hlt:i<n:=ss hi h
  refine .inr ⟨hgo i H hlt sm,λx H' hyl=>?_⟩;obtain⟨rfl,rfl⟩:=hy i H x H' hlt sm hyl;refine turn i H' _ _ hlt sm (λea H3 s3=>?_) (λy H4 ea s4=>?_)
  ·exact⟨n-(i+1),by lia,by lia,rfl,sm.trans s3,by rw[ea];exact s3 _ _ hl⟩
  ·refine⟨acc i,s4 _ _ hl,hz i hlt,n-(i+1),by lia,by lia,rfl,λb u e=>?_,by rw[Ac,ea]⟩
   rw[Ai (Al e hD)];exact s4 _ _ (sm _ _ e)
theorem sL {lo:Int}{n:Nat}{fr:St}{tc:TT}{Q:VK}(acc:Nat->List V)(h0:acc 0=[])(hz:∀i,i<n->(acc i).length<sizeLine)
  (turn:∀(i:Nat) H (R:Hp->Prop) (A:VK),i<n->Ak H1 H->(acc (i+1)=acc i->∀H',Ak H H'->R H')->(∀y H',acc (i+1)=acc i++[y]->Ak H H'->A y H') ->
   tc (some (.int (lo+i))::fr) H λb H3=>if b=true then te (some (.int (lo+i))::fr) H3 A else R H3)
  (fin:∀D H,H1 D=none->Ak H1 H->H D=some (.lst (acc n))->Q (.ref D) H):P2 (Itr lo n) H1 fr tc te Q:=
 Rn n (λi=>.int (lo+i)) acc h0 hz (λi H hi _=>hi) (λi H x H' _ _ h=>⟨h.2,h.1⟩) (λH _=>fk n) turn fin
theorem Rg {K:eh}{a:fg}{fr:St}{tc:TT}{Q:VK}(hl:SqL K H1 a xs)(acc:Nat->List V)(h0:acc 0=[])(hz:∀i,i<xs.length->(acc i).length<sizeLine)
  (turn:∀(i:Nat) x H (R:Hp->Prop) (A:VK),xs[i]?=some x->Ak H1 H->(acc (i+1)=acc i->∀H',Ak H H'->R H')->(∀y H',acc (i+1)=acc i++[y]->Ak H H'->A y H') ->
   tc (some x::fr) H λb H3=>if b=true then te (some x::fr) H3 A else R H3)
  (fin:∀D H,H1 D=none->Ak H1 H->H D=some (.lst (acc xs.length))->Q (.ref D) H):P2 (Itl K a) H1 fr tc te Q:=by
 refine Rn xs.length (λi=>xs.getD i .non) acc h0 hz (λi H hi sm=>⟨xs,xs[i],sm.seq hl,by simp[hi]⟩) (λi H x H' hi sm h=>⟨?_,h.1⟩) (λH sm=>⟨xs,sm.seq hl,fk _⟩) (λi H R A hi sm=>turn i _ H R A (by simp[hi]) sm) fin;have:=h.2 xs (sm.seq hl);simp[jy,this]
theorem Ak.seqT {K:eh}{a:fg}(e:Ak H H')(h:SqT K H a xs):SqT K H' a xs:=by
 rcases h with(h|⟨o,h⟩)|h
 ·exact .inl (.inl (e _ _ h))
 ·exact .inl (.inr ⟨o,e _ _ h⟩)
 ·exact .inr h
theorem Ack {K:eh}{a:fg}{fr:St}{tc:TT}{Q:VK}(hl:SqT K H1 a xs)(acc:Nat->List V)(h0:acc 0=[])(hz:∀i,i<xs.length->(acc i).length<sizeLine)
  (turn:∀(i:Nat) x H (R:Hp->Prop) (A:VK),xs[i]?=some x->Ak H1 H->(acc (i+1)=acc i->∀H',Ak H H'->R H')->(∀y H',acc (i+1)=acc i++[y]->Ak H H'->A y H') ->
   tc (some x::fr) H λb H3=>if b=true then te (some x::fr) H3 A else R H3)
  (fin:∀D H,H1 D=none->Ak H1 H->H D=some (.lst (acc xs.length))->Q (.ref D) H):P2 (Itt K a) H1 fr tc te Q:=by
 refine Rn xs.length (λi=>xs.getD i .non) acc h0 hz (λi H hi sm=>⟨xs,xs[i],sm.seqT hl,by simp[hi]⟩) (λi H x H' hi sm h=>⟨?_,h.1⟩) (λH sm=>⟨xs,sm.seqT hl,fk _⟩) (λi H R A hi sm=>turn i _ H R A (by simp[hi]) sm) fin;have:=h.2 xs (sm.seqT hl);simp[jy,this]
theorem tL:bootBuiltins "int"=some (.type "int"):=by decide +kernel
theorem Ae7:bootBuiltins "str"=some (.type "str"):=by decide +kernel
theorem iS:bootBuiltins "bool"=some (.type "bool"):=by decide +kernel
theorem Wl:bootBuiltins "list"=some (.type "list"):=by decide +kernel
theorem Rf:bootBuiltins "tuple"=some (.type "tuple"):=by decide +kernel
theorem Aa9:bootBuiltins "dict"=some (.type "dict"):=by decide +kernel
theorem C7:bootBuiltins "len"=some (.builtin "len"):=by decide +kernel
theorem Ba:bootBuiltins "isinstance"=some (.builtin "isinstance"):=by decide +kernel
theorem Afe:bootBuiltins "sum"=some (.builtin "sum"):=by decide +kernel
theorem pH:bootBuiltins "min"=some (.builtin "min"):=by decide +kernel
theorem lC:bootBuiltins "max"=some (.builtin "max"):=by decide +kernel
theorem Rt:bootBuiltins "sorted"=some (.builtin "sorted"):=by decide +kernel
structure Cal (P:gv) (w:ir) (K:eh) (mg:Za2) (base:jo) (name:Str) (k:Nat) (ps:Za6) (sp:Sp):Prop where
 ex:∃(f:fg) (fd:ke),As P w K mg base CX0 k f fd ps sp/\Dn K fd ps []/\mg name=some (.ref f)/\k8 K (.ref f)=true
section
variable {X:Cx} {k:Nat} {ps:Za6} {sp:Sp} {name m:Str} {p pos apos:Pos} {e o:jc} {es:List jc} {ta:TE} {t:TA}
theorem Aw (C:Cal X.prog X.w X.K X.mg X.base name k ps sp)(hr:Bv k X.A)(ha:PA X (e::es) t)(hg:autoParam (Gl X name) QD)(hdb:autoParam ((name==("__debug__":Str))=false) QF)
  (he:autoParam (starEach (e::es) X.env=(false,eval e X.env)::starEach es X.env) QD)(hpl:autoParam ((backTo pos (starEach es X.env)).any (·.1)=false) QD):PE X (.Call (.Name name p) (e::es) [] pos) (Zg sp [] E0 t):=by
 obtain⟨f,fd,F,b,hm,hk⟩:=C.ex;exact jZ F hr hg hm hk b .nil jY ha hdb he hpl
end
section
variable {X:Cx}
def Adx (K:eh):List V->Hp->VK->Prop:=λxs H Q=>∃x n t b,xs=[x,.ty n]/\G0 K H x t/\kitOne K t (.type n)=some b/\Q (.bl b) H
theorem Du:Ey X (.builtin "isinstance") (Adx X.K):=by
 intro pins s G H xs us Q I r h;obtain⟨x,n,t,b,rfl,ty,e,q⟩:=h;obtain⟨u,w',rfl,ru,rw'⟩:=Na r;cases(show w'=m9 n from rw');exact nZ I ru ty e λtk=>⟨.bl b,H,I.tok tk,rfl,q⟩
theorem Wf {K:eh}:kitOne K (.type "int") (.type "bool")=some false:=by rfl
theorem Z5 {K:eh}:kitOne K (.type "str") (.type "str")=some true:=by rfl
end
theorem Jw {x y:Str}(h:x.cps.toList=y.cps.toList):x=y:=by
 obtain⟨a⟩:=x;obtain⟨b⟩:=y;have:a=b:=Array.toList_inj.mp h;rw[this]
def sgn (c:Nat):Str:=⟨#[c]⟩
def Xx (x:Str)(k:Nat):Str:=⟨(fu k x.cps.toList).flatten.toArray⟩
theorem Yb (x:Str)(k:Nat):(Xx x k).length=k*x.length:=by
 show(fu k x.cps.toList).flatten.toArray.size=k*x.cps.size;rw[gn,iZ];simp
theorem U7 (a:Array Nat):∀(k:Nat) (acc:Array Nat),((fu k a).foldl (·++·) acc).toList=acc.toList++(fu k a.toList).flatten
 |0,acc=>by simp
 |k+1,acc=>by
  rw[jt,qm,U7 a k,jt];simp[fm]
section
variable {X:Cx}
def Adj:R2:=λx y H Q=>∃z k,x=.str z/\y=.int k/\-(2 ^ 40)<k/\k<2 ^ 40/\z.length*k.toNat<=sizeLine/\z.length<=sizeLine/\Q (.str (Xx z k.toNat)) H
theorem vV:OpR X (binaryOp .Mult) Adj:=by
 intro pins s G H x y v u Q I rx ry h;obtain⟨z,k,rfl,rfl,k1,k2,hz,hz2,q⟩:=h;obtain⟨t,rfl⟩:=rx;obtain⟨t',rfl⟩:=ry;have hs:=Jt;have hs':=HM;refine PySem.P.mul_str ?_ ?_ ?_ ?_
 ·rw[decide_eq_false (by lia),decide_eq_false (by lia)];rfl
 ·intro h1 _ hgt
  have hk:k<=2 ^ 40:=by lia
  have:(z.length:Int)<=(2 ^ 63-1)/k:=by
   rw[Int.le_ediv_iff_mul_le (by lia)];have e:(z.length:Int)*k=((z.length*k.toNat:Nat):Int):=by
    rw[Int.natCast_mul,y9 (by lia)]
   rw[e];lia
  lia
 ·intro _ _
  unfold MR
  simpa using hz
 ·split
  ·rename_i h1
   have e:Xx z k.toNat=yu:=by
    rw[show k.toNat=0 by lia];rfl
   rw[e] at q;exact⟨by decide,.str yu,H,I.tok _,⟨_,rfl⟩,q⟩
  ·rename_i h1
   split
   ·rename_i h2
    have e:Xx z k.toNat=z:=by
     refine Jw ?_;show(fu k.toNat z.cps.toList).flatten.toArray.toList=_;rcases Bool.or_eq_true_iff.mp h2 with h2|h2
     ·have:k=1:=by simpa using h2
      subst this;simp
     ·have:z.length=0:=by simpa using h2
      have e0:z.cps.toList=[]:=by
       have:z.cps.size=0:=this
       simpa using this
      rw[e0];simp
    rw[e] at q;exact⟨.str z,H,I,⟨_,rfl⟩,q⟩
   ·have e:(⟨(fu k.toNat z.cps).foldl (·++·) #[]⟩:Str)=Xx z k.toNat:=by
     refine Jw ?_;show((fu k.toNat z.cps).foldl (·++·) #[]).toList=_;rw[U7];simp[Xx]
    refine⟨?_,.str (Xx z k.toNat),H,I.tok _,⟨s.toks,by rw[e]⟩,q⟩;rw[e,Yb,AB];exact hz
theorem iO {ys:Za6}:∀{us:Za3},Av (ys.map V.str) us->StrsAre us ys:=by
 induction ys with
 |nil=>intro us r;rw[vy] at r;cases r;exact .nil
 |cons y ys ih=>
  intro us r;rw[ik] at r
  cases r with
  |cons r1 r2=>
   obtain⟨t,e⟩:=r1;subst e;exact .cons y t (ih r2)
def zJ (K:eh):V->List V->Hp->VK->Prop:=λx vs H Q=>∃sep p ys,x=.str sep/\vs=[.ref p]/\SqL K H p (ys.map V.str)/\(ys.map (·.length)).sum+ys.length*sep.length<=16777216/\Q (.str (FE sep ys)) H
theorem lP:MtM X "str.join" (zJ X.K):=by
 intro pins s G H x vs v us Q I rx rv h;obtain⟨sep,p,ys,rfl,rfl,hp,hz,q⟩:=h;obtain⟨t,rfl⟩:=rx;obtain⟨u,rfl,ru⟩:=rv.one;cases ru;obtain⟨its,r,pl,_⟩:=I.list hp;exact join_list pl.isList (by simpa using iO r) hz λt' k=>⟨.str (FE sep ys),H,I.tok k,⟨t',rfl⟩,q⟩
theorem U4:∀(ys:Za6) (a:Array Nat),(ys.foldl (λacc p=>acc++("":Str).cps++p.cps) a).toList=a.toList++(ys.map λy=>y.cps.toList).flatten
 |[],a=>by simp
 |y::r,a=>by
  rw[qm,U4 r];have e:("":Str).cps=#[]:=rfl;rw[e];simp[fm]
theorem gS (ys:Za6):(FE ("":Str) ys).cps.toList=(ys.map λy=>y.cps.toList).flatten:=by
 show((ys.drop 1).foldl (λacc p=>acc++("":Str).cps++p.cps) (ys.headD yu).cps).toList=_;rw[U4]
 cases ys with
 |nil=>rfl
 |cons y r=>simp
end
def Wh:jc->Bool
 |.Starred ..=>false
 |_=>true
theorem Yn {e:jc}(h:Wh e=true):starEach (e::es) env=(false,eval e env)::starEach es env:=by
 cases e<;>first|rfl|cases h
section
variable {X:Cx} {e:jc} {es:List jc} {te:TE} {t:TA}
theorem Aeb (ha:PE X e te)(hr:PA X es t)(hs:Wh e=true):PA X (e::es) (Te te t):=jB ha hr (Yn hs)
end
structure PAi (X:Cx) (es:List jc) (t:TA):Prop where
 h:PA X es t
structure PEi (X:Cx) (e:jc) (t:TE):Prop where
 h:PE X e t
structure PSi (X:Cx) (st:jr) (t:TS):Prop where
 h:PS X st t
structure uN (X:Cx) (sts:List jr) (t:TS):Prop where
 h:PSs X sts t
section
variable {X:Cx} {e a b:jc} {es:List jc} {te ta tb:TE} {t:TA} {pos:Pos} {st:jr} {Fj:List jr} {u u2:TS}
theorem rN:PAi X [] Xl:=⟨Aa⟩
theorem Hj (ha:PE X e te)(hr:PAi X es t)(hs:Wh e=true):PAi X (e::es) (Te te t):=⟨Aeb ha hr.h hs⟩
theorem tP (h:PAi X es t):PEi X (.List es pos) (Acn t):=⟨A8 h.h⟩
theorem Ac5 {r:R2}(hr:IxR X r)(ha:PEi X a ta)(hb:PE X b tb)(hs:Xb b):PEi X (.Subscript a b pos) (tOp r ta tb):=⟨zU hr ha.h hb hs⟩
theorem si (h:PS X st u):PSi X st u:=⟨h⟩
theorem sA {i:Nat}{x:Str}{pos':Pos}(hN:X.N.Nodup)(hi:X.N[i]?=some x)(hx:Loc X.env.scope x)(he:PEi X e te)(hs:autoParam (swapsWith e (some (.Name x pos')) pos.line X.env=pure false) QD)(hf:autoParam (X.fn x=true\/X.env.scope.names.lookup x=some .local) QH) :
  PSi X (.Assign [.Name x pos'] e pos) (iR te (Gm i)):=⟨Mv hN hi hx he.h hs hf⟩
theorem Ra (h1:PSi X st u)(h2:uN X Fj u2):uN X (st::Fj) (Ab0 u u2):=⟨Ab h1.h h2.h⟩
theorem uH (h1:PSi X st u):uN X [st] u:=⟨Af h1.h⟩
end
theorem us1 {P:Za3->Prop}(h:∀a,P [a]):∀us:Za3,us.length=1->P us
 |[_],_=>h _
theorem us2 {P:Za3->Prop}(h:∀a b,P [a,b]):∀us:Za3,us.length=2->P us
 |[_,_],_=>h _ _
theorem us3 {P:Za3->Prop}(h:∀a b c,P [a,b,c]):∀us:Za3,us.length=3->P us
 |[_,_,_],_=>h _ _ _
section
variable {G:St} {H:Hp} {D:Iw} {Q:VK} {t u:TS} {te ta tb:TE} {QB:Bool->Hp->Prop}
theorem Adp (h:t { D with nx:=u D } G H):Ab0 t u D G H:=h
theorem Ab4 (h:D.nx G H):zM D G H:=h
theorem Ad1 {g:TG}(h:te G H λx H1=>g x G H1 D.nx):iR te g D G H:=h
theorem xU {i:Nat}{v:V}{R:St->Hp->Prop}(h:R (G.set i (some v)) H):Gm i v G H R:=h
theorem Aep (h:te G H D.rt):Aes te D G H:=h
theorem Aay (h:te G H λ_ H1=>D.nx G H1):pG te D G H:=h
theorem Aer {c:TT}(h:c G H λb H1=>if b=true then t D G H1 else u D G H1):Acs c t u D G H:=h
theorem Adg {i:Nat}{ti:TIp}{x:V}(e:G[i]?=some (some x))(h:te G H λy H1=>ti x y H1 λz H2=>D.nx (G.set i (some z)) H2):Aal i te ti D G H:=⟨x,e,h⟩
theorem Aey {i:Nat}{v:V}(e:G[i]?=some (some v))(h:Q v H):yB i G H Q:=⟨v,e,h⟩
theorem r_c {v:V}(h:Q v H):tC v G H Q:=h
theorem Af5 {r:R2}(h:ta G H λx H1=>tb G H1 λy H2=>r x y H2 Q):tOp r ta tb G H Q:=h
theorem Af1 {r:V->Hp->VK->Prop}(h:ta G H λx H1=>r x H1 Q):tUn r ta G H Q:=h
theorem Afs {g:Int->V}{i:Int}(h:Q (g i) H):rU g (.int i) H Q:=⟨i,rfl,h⟩
theorem yR {g:Int->Int->V}{i j:Int}(h:Q (g i j) H):rI0 g (.int i) (.int j) H Q:=⟨i,j,rfl,rfl,h⟩
theorem Afh {C:Int->Int->Prop}{g:Int->Int->V}{i j:Int}(c:C i j)(h:Q (g i j) H):rI C g (.int i) (.int j) H Q:=⟨i,j,rfl,rfl,c,h⟩
theorem Aed {f:Int->Int->Int}{i j:Int}(h:Q (.int (f i j)) H):ipI f (.int i) (.int j) H Q:=⟨i,j,rfl,rfl,h⟩
theorem Ads {x:V}(e:uB x y=true)(h:Q (.bl (decide (x=y))) H):rEq x y H Q:=⟨e,h⟩
theorem Adr {x:V}(e:uB x y=true)(h:Q (.bl (!decide (x=y))) H):rNe x y H Q:=⟨e,h⟩
theorem Aau (h:te G H λx H'=>∃k,x=.bl k/\QB k H'):rH te G H QB:=h
theorem Afk (h:te G H λx H'=>∃k,x=.bl k/\QB k H'):tB te G H QB:=h
theorem Afu {k:Bool}{P:Bool->Prop}(h:P k):∃k',V.bl k=.bl k'/\P k':=⟨k,rfl,h⟩
theorem Afc {c:TT}(h:c G H λb H1=>QB (!b) H1):Ad4 c G H QB:=h
theorem Ado {c d:TT}(h:c G H λb H1=>if b=true then d G H1 QB else QB false H1):Adn c d G H QB:=h
theorem Afq {c d:TT}(h:c G H λb H1=>if b=true then QB true H1 else d G H1 QB):tOr c d G H QB:=h
theorem Abb (h:ta G H λx H1=>∃c,x=.bl c/\if c=true then tb G H1 Q else Q (.bl false) H1):zF ta tb G H Q:=h
theorem Acc (h:ta G H λx H1=>∃c,x=.bl c/\Q (.bl (!c)) H1):Aae ta G H Q:=h
theorem Aeu {c:TT}(h:c G H λb H1=>if b=true then ta G H1 Q else tb G H1 Q):tIf c ta tb G H Q:=h
theorem Adm (h:ta G H λx H1=>Q (.bl (decide (x=.non))) H1):Ady ta G H Q:=h
theorem Aam (h:ta G H λx H1=>Q (.bl (!decide (x=.non))) H1):zB ta G H Q:=h
theorem vN {r r':R2}{tc:TE}(h:ta G H λx H1=>tb G H1 λy H2=>r x y H2 λz H3=>∃k,z=.bl k/\(if k=true then tc G H3 λw' H4=>r' y w' H4 Q else Q (.bl false) H3)):rG r r' ta tb tc G H Q:=h
theorem Ae3 (h:QB true H):Ae6 G H QB:=h
variable {tA tR:TA} {QA:List V->Hp->Prop}
theorem Adz (h:QA [] H):Xl G H QA:=h
theorem Acy (h:te G H λx H1=>tR G H1 λxs H2=>QA (x::xs) H2):Te te tR G H QA:=h
theorem Acv {E:XK}(h:tA G H λvs H1=>sp (vs++[]) H1 Q E):Zg sp [] E tA G H Q:=h
theorem Afl {r:List V->Hp->VK->Prop}(h:tA G H λvs H1=>r vs H1 Q):tCB r tA G H Q:=h
theorem Adh (h:tA G H λxs H1=>xs.length<=sizeLine/\∀p,H1 p=none->Q (.ref p) (upd H1 p (.lst xs))):Acn tA G H Q:=h
theorem Aeq (h:tA G H λxs H1=>xs.length<=sizeLine/\∀p,H1 p=none->Q (.ref p) (upd H1 p (.tup xs))):Ad5 tA G H Q:=h
theorem Afg {K:eh}{T:String}{r:V->List V->Hp->VK->Prop}(h:te G H λx H1=>tyV K T x H1/\tA G H1 λxs H2=>r x xs H2 Q):tBM K T r te tA G H Q:=h
theorem Afi {r:V->Option Int->Option Int->Hp->VK->Prop}{tl th:TO}(h:te G H λx H1=>tl G H1 λl H2=>th G H2 λu H3=>r x l u H3 Q):tSl r te tl th G H Q:=h
theorem qN {QO:Option Int->Hp->Prop}(h:QO none H):kF G H QO:=h
theorem Aba {QO:Option Int->Hp->Prop}(h:te G H λx H1=>∃i,x=.int i/\QO (some i) H1):yP te G H QO:=h
theorem Ac9 {P:Int->Prop}{i:Int}(h:P i):∃j,V.int i=.int j/\P j:=⟨i,rfl,h⟩
def Aby (J:It)(g:TG)(tb:TS)(D:Iw)(G:St)(H1:Hp):Prop:=∃W:Nat->Nat->St->Hp->Prop,(∃m,W 0 m G H1)/\∀i m G H,W i m G H ->
 (J.stop i H/\D.nx G H)\/(J.go i H/\∃N:St->Hp->Prop,(∀QM H',N QM H'->∃m',m'<m/\W (i+1) m' QM H')/\∀x H',J.yld i H x H'->g x G H' λQQ H2=>tb { D with nx:=N,ct:=N,bk:=D.nx } QQ H2)
theorem Adc {g:TG}(h:wi G H λJ H1=>Aby J g t D G H1):Adu wi g t D G H:=h
theorem Aa6 {R:It->Hp->Prop}(h:tA G H λvs H1=>∃j:Int,vs=[.int j]/\-(2 ^ 62)<=j/\j<2 ^ 62/\R (Itr 0 j.toNat) H1):zR tA G H R:=h
theorem wC {K:eh}{R:It->Hp->Prop}(h:te G H λx H1=>∃a,x=.ref a/\(∃xs,SqL K H1 a xs)/\R (Itl K a) H1):yQ K te G H R:=h
theorem Aat {K:eh}{R:It->Hp->Prop}(h:te G H λx H1=>∃a,x=.ref a/\(∃xs,SqT K H1 a xs)/\R (Itt K a) H1):Ab1 K te G H R:=h
theorem Afz {tc:TT}(h:wi G H λJ H1=>P2 J H1 (frV G ix) tc te Q):tLc wi ix tc te G H Q:=h
theorem Cv {K:eh}{p:fg}{i:Int}{v:V}(hs:SqL K H p xs)(e:atI xs i=some v)(h:Q v H):yI K (.ref p) (.int i) H Q:=⟨p,xs,i,v,rfl,rfl,hs,e,h⟩
theorem G9 {K:eh}{p:fg}{i:Int}{v:V}(hs:SqT K H p xs)(e:atI xs i=some v)(h:Q v H):Ae5 K (.ref p) (.int i) H Q:=⟨p,xs,i,v,rfl,rfl,hs,e,h⟩
theorem Fc {l:fg}(hl:H l=some (.lst xs))(hz:xs.length<sizeLine)(h:Q .non (upd H l (.lst (xs++[y])))):kI (.ref l) [y] H Q:=⟨l,xs,y,rfl,rfl,hl,hz,h⟩
end
theorem Fg {c:TT}{tb:TS}{D:Iw}{G:St}(Pv:St->Hp->Prop)(μ:St->Hp->Nat)(h0:Pv G H)
  (hs:∀m G H,Pv G H->μ G H=m->c G H λb H1=>if b=true then ∃N:St->Hp->Prop,(∀QM H',N QM H'->∃m',m'<m/\(Pv QM H'/\μ QM H'=m'))/\tb { D with nx:=N,ct:=N,bk:=D.nx } G H1 else D.nx G H1):qT c tb D G H:=
 ⟨λm G H=>Pv G H/\μ G H=m,⟨_,h0,rfl⟩,λm G H h=>hs m G H h.1 h.2⟩
theorem Jx {tb:TS}{rt:VK}{bk:St->Hp->Prop}{G:St}{Pv:St->Hp->Prop}{μ:St->Hp->Nat}{m:Nat}
  (h:tb { nx:=λQM H'=>Pv QM H'/\μ QM H'<m,rt:=rt,bk:=bk,ct:=λQM H'=>Pv QM H'/\μ QM H'<m } G H1) :
  ∃N:St->Hp->Prop,(∀QM H',N QM H'->∃m',m'<m/\(Pv QM H'/\μ QM H'=m'))/\tb { nx:=N,rt:=rt,bk:=bk,ct:=N } G H1:=⟨_,λQM H' z=>⟨_,z.2,z.1,rfl⟩,h⟩
section
variable {H:Hp} {Q:VK} {g:Int->Int->V} {i j:Int}
theorem Yw (c:0<j)(h:Q (g i j) H):rI (λ_ j=>0<j) g (.int i) (.int j) H Q:=⟨i,j,rfl,rfl,c,h⟩
theorem pF (c:0<=j)(h:Q (g i j) H):rI (λ_ j=>0<=j) g (.int i) (.int j) H Q:=⟨i,j,rfl,rfl,c,h⟩
theorem sB (c1:0<j)(c2:j<1073741824)(h:Q (g i j) H):rI Ada g (.int i) (.int j) H Q:=⟨i,j,rfl,rfl,⟨c1,c2⟩,h⟩
theorem tS (c1:-(2 ^ 64)<j)(c2:j<2 ^ 64)(h:Q (g i j) H):rI qK g (.int i) (.int j) H Q:=⟨i,j,rfl,rfl,.inr ⟨c1,c2⟩,h⟩
theorem Aav (c1:-(2 ^ 64)<i)(c2:i<2 ^ 64)(h:Q (g i j) H):rI qK g (.int i) (.int j) H Q:=⟨i,j,rfl,rfl,.inl ⟨c1,c2⟩,h⟩
end
theorem Cg {c A B:Prop}[Decidable c](h1:c->A)(h2:¬ c->B):if decide c=true then A else B:=by
 by_cases h:c
 ·rw[decide_eq_true h,if_pos rfl]
  exact h1 h
 ·rw[decide_eq_false h,if_neg im]
  exact h2 h
theorem Aec {c A B:Prop}[Decidable c](h1:¬ c->A)(h2:c->B):if(!decide c)=true then A else B:=by
 by_cases h:c
 ·rw[decide_eq_true h,if_neg (by decide)]
  exact h2 h
 ·rw[decide_eq_false h,if_pos (by decide)]
  exact h1 h
def Aez (c:TT)(t u:TS):TS:=λD G H=>∃J:St->Hp->Prop,(∀G H,J G H->D.nx G H)/\c G H λb H1=>if b=true then t { D with nx:=J } G H1 else u { D with nx:=J } G H1
theorem fT {c:jc}{a b:List jr}{tc:TT}{t u:TS}(hc:PT X c tc)(ha:PSs X a t)(hb:PSs X b u):PS X (.If c a b pos) (Aez tc t u):=by
 k_end;obtain⟨J,hJ,h⟩:=h;refine thn (Bt hc ha hb pins s G H { D with nx:=J } I h) λf s' q=>?_
 cases f with
 |next=>
  obtain⟨QM,H',I',q'⟩:=q;exact⟨QM,H',I',hJ _ _ q'⟩
 |brk=>exact q
 |cont=>exact q
 |ret u=>exact q
theorem tT {c:TT}{t u:TS}{D:Iw}{G:St}(J:St->Hp->Prop)(h:c G H λb H1=>if b=true then t { D with nx:=J } G H1 else u { D with nx:=J } G H1)(hJ:∀G H,J G H->D.nx G H):Aez c t u D G H:=⟨J,hJ,h⟩
def Wd (lo st:Int)(n:Nat):It:=⟨λi _=>i<n,λi H x H'=>H'=H/\x=.int (lo+i*st),λi _=>n<=i⟩
def Ci (lo hi st:Int):Nat:=((hi-lo+st-1)/st).toNat
theorem Pn {P:gv}{K:eh}(it:fg)(lo dt:Int)(n:Nat):R9 P w K tg (Wd lo dt n) [it] it (λi h=>zu h it (lo+(i:Nat)*dt) ((n:Int)-(i:Nat)) dt) where
 mem:=by simp
 obj:=λi h st b hb=>by
  have e:b=it:=by simpa using hb
  subst e;exact⟨_,st,λv z=>by
   have z':FA _=MP v:=z;cases z'⟩
 keep:=λi h h' st k=>k it (by simp) _ st
 item:=by
  intro X hP hw hK hc i pins s G H E I hf st hg;subst hP hw hK;obtain⟨f0,f1,f2,f3,f4,f5⟩:=hf it (by simp);have W:=IX (prog:=X.prog) (w:=X.w) (I.ok.hd hc) it lo dt n;refine W.item i s _ _ hg st λv h' tk hv st' kk=>?_;obtain⟨t,rfl⟩:=hv;have I1:Inv X pins G H { s with heap:=h',toks:=tk }:=I.turned (λb o hb e=>kk b o (by simpa using hb) e) f0 f1 f3 f4 f5;exact⟨_,rfl,kN (s:={ s with heap:=h',toks:=tk }) (n:="range_iterator") st' rfl rfl (by decide) ⟨.int _,H,I1,⟨t,rfl⟩,⟨rfl,rfl⟩,st',λb hb=>(hf b hb).1⟩⟩
 done:=by
  intro X hP hw hK hc i pins s G H E I hf st hg;subst hP hw hK;obtain⟨f0,f1,f2,f3,f4,f5⟩:=hf it (by simp);exact FW (I.ok.hd hc) st (by have:n<=i:=hg;lia) λh' eb=>⟨rfl,I.turned (t':=s.toks) (λb o hb e=>eb b o hb e) f0 f1 f3 f4 f5⟩
 self:=λ_ _ _ _ _ st h=>FX st h
theorem Se {lo hi st:Int}(h:0<st):lu lo hi st=(Ci lo hi st:Int):=by
 unfold lu Ci;rw[if_pos h]
 by_cases hl:lo<hi
 ·rw[if_pos hl]
  have e:(hi-lo+st-1)/st=(hi-lo-1)/st+1:=by
   rw[show hi-lo+st-1=(hi-lo-1)+st*1 by lia,Int.add_mul_ediv_left _ _ (by lia)]
  rw[e];have:0<=(hi-lo-1)/st:=Int.ediv_nonneg (by lia) (by lia);exact(y9 (Int.add_nonneg this (by decide))).symm
 ·rw[if_neg hl]
  have:(hi-lo+st-1)/st<=0:=by
   have:=Int.ediv_le_ediv h (show hi-lo+st-1<=st-1 by lia);rw[Int.ediv_eq_zero_of_lt (show 0<=st-1 by lia) (by lia)] at this;exact this
  lia
theorem Y1 {lo hi st:Int}(h:0<st)(h1:-(2 ^ 61)<=lo)(h2:lo<2 ^ 61)(h3:-(2 ^ 61)<=hi)(h4:hi<2 ^ 61)(h5:st<2 ^ 61):ua lo hi st=true:=by
 unfold ua;rw[Se h];have hb:(Ci lo hi st:Int)*st<=hi-lo+st-1\/(Ci lo hi st:Int)=0:=by
  unfold Ci
  by_cases hz:0<=(hi-lo+st-1)/st
  ·left
   rw[y9 hz];exact Int.ediv_mul_le _ (by lia)
  ·right
   lia
 have hn:(Ci lo hi st:Int)<=(Ci lo hi st:Int)*st:=by
  have:=Int.mul_le_mul_of_nonneg_left (show(1:Int)<=st by lia) (md (Ci lo hi st));lia
 have hmul:lo+(Ci lo hi st:Int)*st<2 ^ 63/\-(2 ^ 63)<=lo+(Ci lo hi st:Int)*st:=by
  have h0:0<=(Ci lo hi st:Int)*st:=Int.mul_nonneg (md _) (by lia);rcases hb with hb|hb
  ·lia
  ·rw[hb] at h0 ⊢
   lia
 have h0:0<=(Ci lo hi st:Int):=md _;have hs:(Ci lo hi st:Int)<2 ^ 63:=by
  rcases hb with hb|hb
  ·lia
  ·lia
 rw[if_pos h];simp only[yy,ky,BK,decide_eq_true_eq,beq_iff_eq];refine⟨⟨⟨⟨?_,?_⟩,?_⟩,?_⟩,.inr ?_⟩<;>lia
section
variable {X:Cx} {tg:jc}
def zW (ta:TA):TI:=λG H R=>ta G H λvs H1=>∃i j k:Int,vs=[.int i,.int j,.int k]/\(-(2 ^ 40)<=i/\i<2 ^ 40/\-(2 ^ 40)<=j/\j<2 ^ 40/\0<k/\k<2 ^ 29)/\R (Wd i k (Ci i j k)) H1
theorem Vb {a b c:jc}{ta:TA}{p:Pos}(hg:Gl X "range")(hm:X.mg "range"=none)(ha:PA X [a,b,c] ta)(hs:autoParam (starEach [a,b,c] X.env=[(false,eval a X.env),(false,eval b X.env),(false,eval c X.env)]) QD)
  (hs2:autoParam (starEach [b,c] X.env=[(false,eval b X.env),(false,eval c X.env)]) QD):PI X tg (.Call (.Name "range" p) [a,b,c] [] pos) (zW ta):=by
 intro pins s G H R I h;refine Call_ (Fv I hg hm boot_range (j2 (thA ha I h λus s1 vs H1 I1 r1 q1=>?_) (by rw[hs,hs2]) (by rw[hs2];rfl)));obtain⟨i,j,k,e,⟨q1,q2,q3,q4,q5,q6⟩,q⟩:=q1;subst e
 cases r1 with
 |cons r rr=>
  cases rr with
  |cons r' rr=>
   cases rr with
   |cons r'' rr=>
    cases rr;obtain⟨t,rfl⟩:=r;obtain⟨t',rfl⟩:=r';obtain⟨t'',rfl⟩:=r'';refine NS (by lia) ?_ (.inl (xg (by lia)));refine AT (DW ..) (Y1 q5 (by lia) (by lia) (by lia) (by lia) (by lia)) ?_;have I2:Inv X pins G H1 { s1 with heap:=s1.heap.push { cls:=.type "range",data:=.fields #[.int i t,.int j t',.int k t''] },toks:=s1.toks }:=I1.kept λb o e=>fh _ e;refine⟨_,[_],_,_,H1,rfl,I2.kept (t':=s1.toks) λb o e=>fh _ e,Pn _ i k (Ci i j k),?_,λb hb=>?_,q⟩
    ·have e1:i+((0:Nat):Int)*k=i:=by simp
     have e2:((Ci i j k:Nat):Int)-((0:Nat):Int)=lu i j k:=by rw[Se q5];simp
     show zu _ _ (i+((0:Nat):Int)*k) (((Ci i j k:Nat):Int)-((0:Nat):Int)) k;rw[e1,e2];exact iq _ rfl
    ·have e:=gw.mp hb
     subst e;exact I2.fpOk (fk _) (I2.hok.fresh (fk _))
end
theorem oN {lo st:Int}{n:Nat}{g:TG}{tb:TS}{D:Iw}{G:St}(Pv:Nat->St->Hp->Prop)(h0:Pv 0 G H)
  (hs:∀(i:Nat) G H,i<n->Pv i G H->g (.int (lo+i*st)) G H λQQ H2=>tb { D with nx:=Pv (i+1),ct:=Pv (i+1),bk:=D.nx } QQ H2)(hd:∀G H,Pv n G H->D.nx G H):Aby (Wd lo st n) g tb D G H:=by
 refine⟨λi m G H=>i<=n/\m=n-i/\Pv i G H,⟨n,i6 _,rfl,h0⟩,?_⟩;rintro i m G H ⟨hi,rfl,hP⟩
 by_cases h:i=n
 ·subst h
  exact .inl ⟨fk _,hd G H hP⟩
 ·have hlt:i<n:=ss hi h
  refine .inr ⟨hlt,Pv (i+1),λQM H' hN=>⟨n-(i+1),by lia,hlt,rfl,hN⟩,λx H' hy=>?_⟩;obtain⟨rfl,rfl⟩:=hy;exact hs i G _ hlt hP
theorem pU {lo st:Int}{n:Nat}{fr:St}{tc:TT}{Q:VK}(acc:Nat->List V)(h0:acc 0=[])(hz:∀i,i<n->(acc i).length<sizeLine)
  (turn:∀(i:Nat) H (R:Hp->Prop) (A:VK),i<n->Ak H1 H->(acc (i+1)=acc i->∀H',Ak H H'->R H')->(∀y H',acc (i+1)=acc i++[y]->Ak H H'->A y H') ->
   tc (some (.int (lo+i*st))::fr) H λb H3=>if b=true then te (some (.int (lo+i*st))::fr) H3 A else R H3)
  (fin:∀D H,H1 D=none->Ak H1 H->H D=some (.lst (acc n))->Q (.ref D) H):P2 (Wd lo st n) H1 fr tc te Q:=
 Rn n (λi=>.int (lo+i*st)) acc h0 hz (λi H hi _=>hi) (λi H x H' _ _ h=>⟨h.2,h.1⟩) (λH _=>fk n) turn fin
theorem Abs {tA:TA}{G:St}{R:It->Hp->Prop}(h:tA G H λvs H1=>∃i j k:Int,vs=[.int i,.int j,.int k]/\(-(2 ^ 40)<=i/\i<2 ^ 40/\-(2 ^ 40)<=j/\j<2 ^ 40/\0<k/\k<2 ^ 29)/\R (Wd i k (Ci i j k)) H1):zW tA G H R:=h
def oI (z:Str)(lo hi:Option Int):Str:=⟨((z.cps.toList.drop (HT.sIx z.cps.size 0 lo)).take (HT.sIx z.cps.size z.cps.size hi-HT.sIx z.cps.size 0 lo)).toArray⟩
def Aef:V->Option Int->Option Int->Hp->VK->Prop:=λx lo hi H Q=>∃z,x=.str z/\z.length<=sizeLine/\Q (.str (oI z lo hi)) H
theorem Aeg (lo hi:Option Int)(n:Nat):mh lo hi 1 n=(gp (HT.sIx n n hi-HT.sIx n 0 lo)).map (HT.sIx n 0 lo + ·):=by
 have e:mh lo hi 1 n=sliceRange ((HT.sIx n 0 lo:Nat):Int) ((HT.sIx n n hi:Nat):Int) 1:=by
  unfold mh;dsimp only;congr 1
  ·cases lo with
   |none=>simp[HT.sIx]
   |some i=>
    simp only[HT.sIx,show(1:Int)>0 by decide,if_true]
    by_cases h:i<0
    ·simp only[h,if_true]
     lia
    ·simp only[h,if_false]
     lia
  ·cases hi with
   |none=>simp[HT.sIx]
   |some i=>
    simp only[HT.sIx,show(1:Int)>0 by decide,if_true]
    by_cases h:i<0
    ·simp only[h,if_true]
     lia
    ·simp only[h,if_false]
     lia
 rw[e,MC]
theorem sJ (z:Str)(t:Tok)(l u:Option (Int×Tok)):(sliceMade z t l u none=.val (.str z t)/\oI z (l.map (·.1)) (u.map (·.1))=z)\/sliceMade z t l u none=.str (oI z (l.map (·.1)) (u.map (·.1))):=by
 have hp:slicePicked z l u none=(gp (HT.sIx z.length z.length (u.map (·.1))-HT.sIx z.length 0 (l.map (·.1)))).map (HT.sIx z.length 0 (l.map (·.1)) + ·):=Aeg _ _ _;have hc:(slicePicked z l u none).filterMap (z.cps[·]?)=(oI z (l.map (·.1)) (u.map (·.1))).cps.toList:=by
  rw[hp,MG];rfl
 unfold sliceMade;split
 ·rename_i hw
  left
  refine⟨rfl,Jw ?_⟩;have hlen:(slicePicked z l u none).length=z.length:=by simpa using hw
  rw[hp,fb,gr] at hlen;have h1:=HT.sIx_le z.length 0 (i6 _) (l.map (·.1));have h2:=HT.sIx_le z.length z.length (fk _) (u.map (·.1));have e1:HT.sIx z.length 0 (l.map (·.1))=0\/z.length=0:=by lia
  show((z.cps.toList.drop (HT.sIx z.cps.size 0 (l.map (·.1)))).take _).toArray.toList=_;rw[show z.cps.size=z.length from rfl] at *;rcases e1 with e1|e1
  ·rw[e1,uc] at hlen
   rw[e1,hlen,uc,qd,ni];exact gq (by simp[zo])
  ·have:z.cps.toList=[]:=by
    have:z.cps.size=0:=e1
    simpa using this
   rw[this];simp
 ·right
  rw[hc]
section
variable {X:Cx}
theorem Abt:SlR X Aef:=by
 intro pins s G H x v vl vu lo hi sl Q I rx hs pl pu h;obtain⟨z,rfl,hz,q⟩:=h;obtain⟨t,rfl⟩:=rx;refine⟨"str",_,BP.lookup,IL _ _ _,?_⟩;obtain⟨l,el,el'⟩:∃l:Option (Int×Tok),vl=partValue l/\lo=l.map (·.1):=by
  cases pl with
  |none=>exact⟨none,rfl,rfl⟩
  |int i t=>exact⟨some (i,t),rfl,rfl⟩
 obtain⟨u,eu,eu'⟩:∃u:Option (Int×Tok),vu=partValue u/\hi=u.map (·.1):=by
  cases pu with
  |none=>exact⟨none,rfl,rfl⟩
  |int i t=>exact⟨some (i,t),rfl,rfl⟩
 subst el el' eu eu';refine FP (l:=l) (u:=u) (st:=none) hs rfl ?_;rcases sJ z t l u with⟨e,e2⟩|e
 ·rw[e]
  rw[e2] at q;exact⟨.str z,H,I,⟨t,rfl⟩,q⟩
 ·rw[e]
  refine⟨?_,.str _,H,I.tok _,⟨_,rfl⟩,q⟩;refine io ?_ hz;show(AL _ (GX _ z.cps.toList)).toArray.size<=z.cps.size;rw[gn,f7,jh];simp;lia
def T4 (z:Str):Str:=⟨z.cps.toList.reverse.toArray⟩
def Adl (te:TE):TE:=λG H Q=>te G H λx H1=>∃z,x=.str z/\z.length<=sizeLine/\Q (.str (T4 z)) H1
end
theorem Aad:bootBuiltins "zip"=some (.type "zip"):=by decide +kernel
theorem Z9:bootBuiltins "enumerate"=some (.type "enumerate"):=by decide +kernel
theorem Inv.turnT {G:List (Option V)}{wr:List fg}{T:fg}(I:Inv X pins G H s)
  (k:∀b o,b∉wr->s.heap.get? b=some o->h'.get? b=some o)(hf:∀b∈wr,M3 X pins H b)(hT:s.heap.objs.size<=T)(hI:h'.IsTuple T us.toArray)(rv:Av xs us)(hz:xs.length<=sizeLine) :
  Inv X pins G (upd H T (.tup xs)) { s with heap:=h',toks:=t' }:=by
 have hn:H T=none:=I.hok.fresh hT;have nT:∀b u,H b=some u->b≠T:=λb u e=>Al e hn;have nW:∀b u,H b=some u->b∉wr:=λb u e z=>by rw[(hf b z).1] at e;cases e
 refine I.step (g':=s.gens) (d':=s.drawn) (ch:=wr) (λb hb=>?_) (λb o _ _ hc e _=>k b o hc e) (λb o _ _ hc e _=>⟨o.slots,k b o hc e⟩) (λb o hc e n=>?_)
  (λb o hc e=>⟨o,k b o hc e⟩) (λb xs e=>by rw[Ai (nT _ _ e)];exact e) (λb o u e=>by rw[Ai (nT _ _ e)];exact e) (λb ps e=>⟨#[],by rw[Ai (nT _ _ e),e];simp⟩) (λm hm=>?_) (λb u e=>?_) I.bare
 ·obtain⟨_,f1,_,f3,f4,f5⟩:=hf b hb
  exact⟨f3,f1,f4,f5⟩
 ·rw[Ai (ig (gi (gh e) hT))]
  exact n
 ·obtain⟨o,es,ep,ho,r⟩:=hm
  exact⟨o,es,ep,k _ o (λz=>(hf _ z).2.1 rfl) ho,r⟩
 ·by_cases hb:b=T
  ·subst hb
   rw[Ac] at e;cases e;exact⟨hz,us,rv,hI⟩
  ·rw[Ai hb] at e
   refine(I.hok b u e).stay (λc v hc q=>k c v ?_ q) (λc q=>by rw[Ai (nT _ _ q)];exact q) λc ys q=>by rw[Ai (nT _ _ q)];exact q
   rcases hc with z|z
   ·rw[z];exact nW b u e
   ·exact nW c _ z
theorem Inv.turnW {G:List (Option V)}{wr:List fg}(I:Inv X pins G H s)
  (k:∀b o,b∉wr->s.heap.get? b=some o->h'.get? b=some o)(hf:∀b∈wr,M3 X pins H b):Inv X pins G H { s with heap:=h',toks:=t' }:=by
 have nW:∀b u,H b=some u->b∉wr:=λb u e z=>by rw[(hf b z).1] at e;cases e
 refine I.step (g':=s.gens) (d':=s.drawn) (ch:=wr) (λb hb=>?_) (λb o _ _ hc e _=>k b o hc e) (λb o _ _ hc e _=>⟨o.slots,k b o hc e⟩) (λb o hc e n=>n)
  (λb o hc e=>⟨o,k b o hc e⟩) (λ_ _ e=>e) (λ_ _ _ e=>e) (λb ps e=>⟨#[],by rw[e];simp⟩) (λm hm=>?_) (λb u e=>?_) I.bare
 ·obtain⟨_,f1,_,f3,f4,f5⟩:=hf b hb
  exact⟨f3,f1,f4,f5⟩
 ·obtain⟨o,es,ep,ho,r⟩:=hm
  exact⟨o,es,ep,k _ o (λz=>(hf _ z).2.1 rfl) ho,r⟩
 ·refine(I.hok b u e).stay (λc v hc q=>k c v ?_ q) (λ_ q=>q) λ_ _ q=>q
  rcases hc with z|z
  ·rw[z];exact nW b u e
  ·exact nW c _ z
theorem Gv {a b:fg}{o u:Obj}(h1:h.get? a=some o)(h2:h.get? b=some u)(d:o.cls≠u.cls):a≠b:=λe=>by
 subst e;rw[h1] at h2;cases h2;exact d rfl
def Itz (K:eh)(a b:fg):It:=
 ⟨λi H=>∃xs ys x y,SqL K H a xs/\SqL K H b ys/\xs[i]?=some x/\ys[i]?=some y,
  λi H v H'=>∃t x y,H t=none/\v=.ref t/\(∀xs,SqL K H a xs->xs[i]?=some x)/\(∀ys,SqL K H b ys->ys[i]?=some y)/\H'=upd H t (.tup [x,y]),
  λi H=>∃xs ys,SqL K H a xs/\SqL K H b ys/\i=min xs.length ys.length⟩
def StZ (z TI TO i1 i2 l1 l2:fg)(i:Nat)(h:jo):Prop:=IsZip h z TI TO .none/\wk h TI (.ref i1) (.ref i2)/\(∃a b,wk h TO a b)/\h.IsListIter i1 l1 i/\h.IsListIter i2 l2 i
structure iT (z TI TO i1 i2:fg):Prop where
 TIz:TI≠z
 TOz:TO≠z
 i1z:i1≠z
 i2z:i2≠z
 TITO:TI≠TO
 TIi1:TI≠i1
 TIi2:TI≠i2
 TOi1:TO≠i1
 TOi2:TO≠i2
 i12:i1≠i2
theorem iD {TI TO a b:fg}{i:Nat}{xs ys:Array fv}(D:iT z TI TO i1 i2)(st:StZ z TI TO i1 i2 a b i h)(ha:h.IsList a xs)(hb:h.IsList b ys):BN z TI TO i1 i2 a b:=by
 obtain⟨hz,hTI,⟨u,v,hTO⟩,⟨o1,e1,c1,_⟩,⟨o2,e2,c2,_⟩⟩:=st;obtain⟨oa,ea,ca,_⟩:=ha;obtain⟨ob,eb,cb,_⟩:=hb;refine⟨D.TIz,D.TOz,D.i1z,D.i2z,D.TITO,D.TIi1,D.TIi2,D.TOi1,D.TOi2,D.i12,Gv ea hz ?_,Gv ea hTO ?_,Gv ea e1 ?_,Gv ea e2 ?_,Gv eb hz ?_,Gv eb hTO ?_,Gv eb e1 ?_,Gv eb e2 ?_⟩
 ·rw[ca];exact show m9 "list"≠m9 "zip" by decide
 ·rw[ca];exact show m9 "list"≠m9 "tuple" by decide
 ·rw[ca,c1];decide
 ·rw[ca,c2];decide
 ·rw[cb];exact show m9 "list"≠m9 "zip" by decide
 ·rw[cb];exact show m9 "list"≠m9 "tuple" by decide
 ·rw[cb,c1];decide
 ·rw[cb,c2];decide
theorem Ss (n:Nat):iT (n+4) (n+2) (n+3) n (n+1):=by
 constructor<;>(intro h;have h:(_:Nat)=_:=h;lia)
theorem Adf {n c:Nat}(h:c=n+4\/c=n+2\/c=n+3\/c=n\/c=n+1):n<=c:=by lia
theorem Ae4 {n c:Nat}(h:c=n+1\/c=n):n<=c:=by lia
theorem Aem (n:Nat):n+1≠n:=by lia
theorem uJ {P:gv}{K:eh}{elts:List jc}{k:Nat}(z TI TO i1 i2 a b:fg)(D:iT z TI TO i1 i2) :
  R9 P w K (.Tuple elts k pos) (Itz K a b) [z,TI,TO,i1,i2] z (StZ z TI TO i1 i2 a b) where
 mem:=by simp
 obj:=λi h st c hc=>by
  obtain⟨hz,hTI,⟨u,v,hTO⟩,⟨o1,e1,c1,d1⟩,⟨o2,e2,c2,d2⟩⟩:=st;simp only[i9,mq,or_false] at hc;rcases hc with rfl|rfl|rfl|rfl|rfl
  ·exact⟨_,hz,λv z=>by cases z⟩
  ·exact⟨_,hTI,λv z=>by cases z⟩
  ·exact⟨_,hTO,λv z=>by cases z⟩
  ·exact⟨_,e1,λv z=>by rw[d1] at z;cases z⟩
  ·exact⟨_,e2,λv z=>by rw[d2] at z;cases z⟩
 keep:=λi h h' st kk=>by
  obtain⟨hz,hTI,⟨u,v,hTO⟩,h1,h2⟩:=st;exact⟨kk _ (by simp) _ hz,kk _ (by simp) _ hTI,⟨u,v,kk _ (by simp) _ hTO⟩,h1.at λo e=>kk _ (by simp) o e,h2.at λo e=>kk _ (by simp) o e⟩
 item:=by
  intro X hP hw hK hc i pins s G H E I hf st hg;subst hP hw hK;obtain⟨xs,ys,x,y,ha,hb,hx,hy⟩:=hg;obtain⟨its,rv,p,hz⟩:=I.list ha;obtain⟨its2,rv2,p2,hz2⟩:=I.list hb;have W:=IP (prog:=X.prog) (w:=X.w) (A:=X.A) (I.ok.hd hc) z TI TO i1 i2 a b (iD D st p.isList p2.isList) its.toArray its2.toArray;obtain⟨u1,hu1,ru1⟩:=rv.get hx;obtain⟨u2,hu2,ru2⟩:=rv2.get hy;have l1:=(ge.mp hu1).1;have l2:=(ge.mp hu2).1;obtain⟨s1,s2,s3,s4,s5⟩:=id st;refine W.item i s _ _ (by simp;lia) ⟨s1,s2,s3,s4,s5,p.isList,p2.isList⟩ λT vals h' tk hv hT hTu mid kk=>?_;obtain⟨v1,v2,e1,e2,rfl⟩:=hv;have e1:v1=u1:=by have:=e1;simp only[yg] at this;rw[hu1] at this;exact(fq this).symm
  have e2:v2=u2:=by have:=e2;simp only[yg] at this;rw[hu2] at this;exact(fq this).symm
  subst e1 e2;have nT:=W.apart i T h' mid;refine⟨.ref T,rfl,W.go elts k pos i T { s with heap:=h',toks:=tk } _ _ mid λh'' st'' kk2=>?_⟩;have hTu2:h''.IsTuple T ([v1,v2]:Za3).toArray:=by
   obtain⟨o,e,r⟩:=hTu;exact⟨o,kk2 T o nT e,r⟩
  have I2:Inv X pins G (upd H T (.tup [x,y])) { s with heap:=h'',toks:=tk }:=I.turnT (t':=tk) (λb o hb e=>kk2 b o hb (kk b o hb e)) (λb hb=>hf b (by simp at hb ⊢;rcases hb with rfl|rfl|rfl|rfl<;>simp)) hT hTu2 (.cons ru1 (.cons ru2 .nil)) (show 2<=sizeLine by decide)
  refine⟨.ref T,_,I2,rfl,⟨T,x,y,I.hok.fresh hT,rfl,λxs' h=>by rw[I.list_inj h ha];exact hx,λys' h=>by rw[I.list_inj h hb];exact hy,rfl⟩,⟨st''.1,st''.2.1,st''.2.2.1,st''.2.2.2.1,st''.2.2.2.2.1⟩,λc hc'=>?_⟩;have hlt:c<s.heap.objs.size:=by
   obtain⟨q,⟨t1,t2,t3⟩⟩:c∈[z,TI,TO,i1,i2]/\(IsZip s.heap z TI TO .none/\wk s.heap TI (.ref i1) (.ref i2)/\True):=⟨hc',s1,s2,trivial⟩;obtain⟨u,v,s3⟩:=s3;obtain⟨o4,s4,_⟩:=s4;obtain⟨o5,s5,_⟩:=s5;simp only[i9,mq,or_false] at hc';rcases hc' with rfl|rfl|rfl|rfl|rfl
   ·exact gh s1
   ·exact gh s2
   ·exact gh s3
   ·exact gh s4
   ·exact gh s5
  rw[Ai (ig (gi hlt hT))];exact(hf c hc').1
 done:=by
  intro X hP hw hK hc i pins s G H E I hf st hg;subst hP hw hK;obtain⟨xs,ys,ha,hb,hi⟩:=hg;obtain⟨its,rv,p,hz⟩:=I.list ha;obtain⟨its2,rv2,p2,hz2⟩:=I.list hb;have W:=IP (prog:=X.prog) (w:=X.w) (A:=X.A) (I.ok.hd hc) z TI TO i1 i2 a b (iD D st p.isList p2.isList) its.toArray its2.toArray;have hl:=rv.length;have hl2:=rv2.length;have hi2:i=min its.toArray.size its2.toArray.size:=by rw[hi,hl,hl2];simp
  obtain⟨s1,s2,s3,s4,s5⟩:=id st;refine W.done s _ _ (by rw[<-hi2];exact⟨s1,s2,s3,s4,s5,p.isList,p2.isList⟩) λh' tk kk=>⟨rfl,?_⟩;exact I.turnW (t':=tk) kk λb hb=>hf b (by simp at hb ⊢;rcases hb with rfl|rfl|rfl|rfl<;>simp)
 self:=λ_ _ _ _ _ st h=>CI st.1 h
section
variable {X:Cx} {elts:List jc} {k:Nat} {tpos:Pos}
def Adb (K:eh)(ta:TA):TI:=λG H R=>ta G H λvs H1=>∃a b,vs=[.ref a,.ref b]/\(∃xs,SqL K H1 a xs)/\(∃ys,SqL K H1 b ys)/\R (Itz K a b) H1
theorem Abr {a b:jc}{ta:TA}{p:Pos}(hg:Gl X "zip")(hm:X.mg "zip"=none)(ha:PA X [a,b] ta)(hs:autoParam (starEach [a,b] X.env=[(false,eval a X.env),(false,eval b X.env)]) QD)(hs2:autoParam (starEach [b] X.env=[(false,eval b X.env)]) QD) :
  PI X (.Tuple elts k tpos) (.Call (.Name "zip" p) [a,b] [] pos) (Adb X.K ta):=by
 intro pins s G H R I h;refine Call_ (Fv I hg hm Aad (j2 (thA ha I h λus s1 vs H1 I1 r1 q1=>?_) (by rw[hs,hs2]) (by rw[hs2];rfl)));obtain⟨a,b,e,⟨xs,hx⟩,⟨ys,hy⟩,q⟩:=q1;subst e;obtain⟨u,v,rfl,ru,rv⟩:=Na r1;cases ru;cases rv;obtain⟨its,rv,p,hz⟩:=I1.list hx;obtain⟨its2,rv2,p2,hz2⟩:=I1.list hy;refine call_zip_2 p.isList p2.isList λh' g1 g2 g3 g4 g5 hsz kk=>?_;refine CI (s:={ s1 with heap:=h' }) g1 ?_;refine⟨s1.heap.objs.size+4,[s1.heap.objs.size+4,s1.heap.objs.size+2,s1.heap.objs.size+3,s1.heap.objs.size,s1.heap.objs.size+1],_,_,H1,rfl,I1.kept (t':=s1.toks) kk,
  uJ _ _ _ _ _ a b (Ss _),⟨g1,g2,⟨_,_,g3⟩,g4,g5⟩,λc hc=>?_,q⟩
 have hle:s1.heap.objs.size<=c:=by
  simp only[i9,mq,or_false] at hc;exact Adf hc
 exact I1.fpOk hle (I1.hok.fresh hle)
end
def Ite (K:eh)(a:fg):It:=
 ⟨λi H=>∃xs x,SqL K H a xs/\xs[i]?=some x,
  λi H v H'=>∃t x,H t=none/\v=.ref t/\(∀xs,SqL K H a xs->xs[i]?=some x)/\H'=upd H t (.tup [.int i,x]),
  λi H=>∃xs,SqL K H a xs/\i=xs.length⟩
def StE (e it l:fg)(i:Nat)(h:jo):Prop:=(∃old,IsEnum h e it i old)/\h.IsListIter it l i
theorem mF {P:gv}{K:eh}{elts:List jc}{k:Nat}(e it a:fg)(D:e≠it) :
  R9 P w K (.Tuple elts k pos) (Ite K a) [e,it] e (StE e it a) where
 mem:=by simp
 obj:=λi h st c hc=>by
  obtain⟨⟨old,he⟩,⟨o1,e1,c1,d1⟩⟩:=st;simp only[i9,mq,or_false] at hc;rcases hc with rfl|rfl
  ·exact⟨_,he,λv z=>by cases z⟩
  ·exact⟨_,e1,λv z=>by rw[d1] at z;cases z⟩
 keep:=λi h h' st kk=>by
  obtain⟨⟨old,he⟩,h1⟩:=st;exact⟨⟨old,kk _ (by simp) _ he⟩,h1.at λo e=>kk _ (by simp) o e⟩
 item:=by
  intro X hP hw hK hc i pins s G H E I hf st hg;subst hP hw hK;obtain⟨xs,x,ha,hx⟩:=hg;obtain⟨its,rv,p,hz⟩:=I.list ha;obtain⟨⟨old,s1⟩,s2⟩:=id st;have n1:a≠e:=by obtain⟨oa,ea,ca,_⟩:=p.isList;exact Gv ea s1 (by rw[ca];exact show m9 "list"≠m9 "enumerate" by decide)
  have n2:a≠it:=by obtain⟨oa,ea,ca,_⟩:=p.isList;obtain⟨o1,e1,c1,_⟩:=s2;exact Gv ea e1 (by rw[ca,c1];decide)
  have W:=FQ (prog:=X.prog) (w:=X.w) (A:=X.A) (I.ok.hd hc) e it a D n1 n2 its.toArray;obtain⟨u1,hu1,ru1⟩:=rv.get hx;have l1:=(ge.mp hu1).1;refine W.item i s _ _ (by simpa using l1) ⟨⟨old,s1⟩,s2,p.isList⟩ λT vals h' tk hv hT hTu mid kk=>?_;obtain⟨t,v1,e1,rfl⟩:=hv;have e1:v1=u1:=by have:=e1;simp only[yg] at this;rw[hu1] at this;exact(fq this).symm
  subst e1;have nT:=W.apart i T h' mid;refine⟨.ref T,rfl,W.go elts k pos i T { s with heap:=h',toks:=tk } _ _ mid λh'' st'' kk2=>?_⟩;have hTu2:h''.IsTuple T ([nv (i:Int) t,v1]:Za3).toArray:=by
   obtain⟨o,e,r⟩:=hTu;exact⟨o,kk2 T o nT e,r⟩
  have I2:Inv X pins G (upd H T (.tup [.int i,x])) { s with heap:=h'',toks:=tk }:=I.turnT (t':=tk) (λb o hb e=>kk2 b o hb (kk b o hb e)) (λb hb=>hf b hb) hT hTu2 (.cons ⟨t,rfl⟩ (.cons ru1 .nil)) (show 2<=sizeLine by decide);refine⟨.ref T,_,I2,rfl,⟨T,x,I.hok.fresh hT,rfl,λxs' h=>by rw[I.list_inj h ha];exact hx,rfl⟩,⟨?_,st''.2.1⟩,λc hc'=>?_⟩
  ·exact st''.1
  have hlt:c<s.heap.objs.size:=by
   obtain⟨o5,s5,_⟩:=s2;simp only[i9,mq,or_false] at hc';rcases hc' with rfl|rfl
   ·exact gh s1
   ·exact gh s5
  rw[Ai (ig (gi hlt hT))];exact(hf c hc').1
 done:=by
  intro X hP hw hK hc i pins s G H E I hf st hg;subst hP hw hK;obtain⟨xs,ha,hi⟩:=hg;obtain⟨its,rv,p,hz⟩:=I.list ha;obtain⟨⟨old,s1⟩,s2⟩:=id st;have n1:a≠e:=by obtain⟨oa,ea,ca,_⟩:=p.isList;exact Gv ea s1 (by rw[ca];exact show m9 "list"≠m9 "enumerate" by decide)
  have n2:a≠it:=by obtain⟨oa,ea,ca,_⟩:=p.isList;obtain⟨o1,e1,c1,_⟩:=s2;exact Gv ea e1 (by rw[ca,c1];decide)
  have W:=FQ (prog:=X.prog) (w:=X.w) (A:=X.A) (I.ok.hd hc) e it a D n1 n2 its.toArray;have hl:=rv.length;have hi2:i=its.toArray.size:=by rw[hi,hl];simp
  refine W.done s _ _ (by rw[<-hi2];exact⟨⟨old,s1⟩,s2,p.isList⟩) λh' tk kk=>⟨rfl,?_⟩;exact I.turnW (t':=tk) kk λb hb=>hf b hb
 self:=λ_ _ _ _ _ st h=>IW (NZ st.1) h
section
variable {X:Cx} {elts:List jc} {k:Nat} {tpos:Pos}
def Aac (K:eh)(ta:TA):TI:=λG H R=>ta G H λvs H1=>∃a,vs=[.ref a]/\(∃xs,SqL K H1 a xs)/\R (Ite K a) H1
theorem Rh {a:jc}{ta:TA}{p:Pos}(hg:Gl X "enumerate")(hm:X.mg "enumerate"=none)(ha:PA X [a] ta)(hs:autoParam (starEach [a] X.env=[(false,eval a X.env)]) QD) :
  PI X (.Tuple elts k tpos) (.Call (.Name "enumerate" p) [a] [] pos) (Aac X.K ta):=by
 intro pins s G H R I h;refine Call_ (Fv I hg hm Z9 (j2 (thA ha I h λus s1 vs H1 I1 r1 q1=>?_) hs rfl));obtain⟨a,e,⟨xs,hx⟩,q⟩:=q1;subst e;obtain⟨u,rfl,ru⟩:=Fm r1;cases ru;obtain⟨its,rv,p,hz⟩:=I1.list hx;refine call_enumerate_list p.isList λh' g1 g2 hsz kk=>?_;refine IW (s:={ s1 with heap:=h' }) g1 ?_;refine⟨s1.heap.objs.size+1,[s1.heap.objs.size+1,s1.heap.objs.size],_,_,H1,rfl,I1.kept (t':=s1.toks) kk,
  mF _ _ a (Aem _),⟨⟨_,g1⟩,g2⟩,λc hc=>?_,q⟩
 have hle:s1.heap.objs.size<=c:=by
  simp only[i9,mq,or_false] at hc;exact Ae4 hc
 exact I1.fpOk hle (I1.hok.fresh hle)
end
structure Nh (QZ:Za6) (QX sc:ol) (x1 x2:Str) (N:Za6) (ix:Za4):Prop where
 kind:sc.kind=.function
 nocell:∀y∈sc.names,y.2≠.cell
 names:∀y∈sc.names,y.2=.local->sc.names.lookup y.1=some .local
 free:∀y∈sc.names,y.2=.free->QX.names.lookup y.1=some .cell
 nd:N.Nodup
 hd:N[0]?=some x1
 hd2:N[1]?=some x2
 loc:sc.names.lookup x1=some .local
 loc2:sc.names.lookup x2=some .local
 len:N.length=ix.length+2
 at_:∀p∈N.tail.tail.zip ix,QZ[p.2]?=some p.1/\sc.names.lookup p.1=some .free
def Zm (K:eh)(J:It)(H1:Hp)(fr:St)(tc:TT)(te:TE)(Q:VK):Prop:=∀D,H1 D=none->∃W:Nat->Nat->Hp->Prop,(∃m,W 0 m (upd H1 D (.lst [])))/\∀i m H,W i m H ->
 (J.stop i H/\Q (.ref D) H)\/(J.go i H/\∀v H',J.yld i H v H'->∃a x y,v=.ref a/\SqT K H' a [x,y]/\tc (some x::some y::fr) H' λb H3=>
  if b=true then te (some x::some y::fr) H3 λy H4=>∃ys,H4 D=some (.lst ys)/\ys.length<sizeLine/\∃m',m'<m/\W (i+1) m' (upd H4 D (.lst (ys++[y]))) else ∃m',m'<m/\W (i+1) m' H3)
def Aek (K:eh)(wi:TI)(ix:Za4)(tc:TT)(te:TE):TE:=λG H Q=>wi G H λJ H1=>Zm K J H1 (frV G ix) tc te Q
section
variable {X:Cx} {scope:ol} {N:Za6} {ix:Za4} {x1 x2:Str} {px px2 ppos:Pos} {kk:Nat} {elt iter:jc} {ifs:List jc} {tc:TT} {te:TE} {pos:Pos}
theorem Abu {G:St}{tn:Nat->jo->Prop}(L:Nh X.N X.env.scope scope x1 x2 N ix)(I2:Inv X pins G H2 s2)
  (T:R9 X.prog X.w X.K tg J fp it tn)(st2:tn 0 s2.heap)(f2:∀b∈fp,M3 X pins H2 b){s3 s4:fw}{H3:Hp}(I3:Inv X pins G H3 s3)(I4:Inv X pins G H3 s4)(hle:s2.heap.objs.size<=s3.heap.objs.size)
  (hC:C=s3.heap.objs.size)(ho:s4.os=s3.os)(kp:∀b u,s3.heap.get? b=some u->s4.heap.get? b=some u){m:Za2}(hns:s4.heap.Ns C m):Inv (Do X scope N C s3 H3 fp) [] (none::none::frV G ix) H3 s4:=by
 have hfree:∀y∈scope.names,y.2=.free->∃c,X.env.cells.lookup y.1=some c:=λy hy hf=>I2.ok.has y.1 (.inl (L.free y hy hf));have sub:∀y c,(Ds X.env scope.names []).lookup y=some c->X.env.cells.lookup y=some c:=λy c h=>Ii _ _ y c hfree (λ_ _ z=>by simp at z) h;have lt2:∀b∈fp,b<s2.heap.objs.size:=λb hb=>by obtain⟨o,e,_⟩:=T.obj _ _ st2 b hb;exact gh e
 have okY:(Do X scope N C s3 H3 fp).Ok:=by
  refine⟨I2.ok.mod,L.kind,I2.ok.glob,I2.ok.blt,ot hC.symm,λy z c h1 h2=>I2.ok.inj y z c (sub y c h1) (sub z c h2),λy hy=>?_,λy c z _=>?_,I2.ok.hd,I2.ok.frames,.inl rfl,λb hb=>⟨?_,λy c h=>(f2 b hb).2.2.2.2.1 y c (sub y c h)⟩,
   I3.bs,io I3.ok.bsz I3.sz,λb o e hb=>?_,λb hb z=>?_,I3.stack,I3.stkFree⟩
  ·have hk:(y,o9)∈scope.names:=by
    rcases hy with hy|hy
    ·rcases Jq hy with q|q
     ·exact absurd rfl (L.nocell _ q)
     ·exact q.1
    ·rcases Jq hy with q|q
     ·exact q
     ·exact absurd q.2 (by decide)
   exact jw.mp (Ev _ _ y hk)
  ·cases(show false=true from z)
  ·have l:=lt2 b hb
   show b≠C;rw[hC];exact ig (gi l hle)
  ·rcases(f2 b hb).2.2.2.1 with q|q
   ·exact I2.ok.noex b o e q
   ·exact absurd (gi (gh e) (io I2.ok.bsz q)) (p8 _)
  ·rcases i9.mp (I2.stkSub b z) with q|q
   ·exact(f2 b hb).2.1 q
   ·exact(f2 b hb).2.2.1 q
 refine⟨okY,ho,I4.bare,Un.kept kp,⟨m,hns,λi y v h1 h2 h3=>?_⟩,λy c e=>I4.cell y c (sub y c e),?_,λy c e=>I4.freeC y c (sub y c e),λp hp=>absurd (show p∈([]:Za1) from hp) (by simp),I4.hok,?_⟩
 ·cases i with
  |zero=>cases(show some none=some (some v) from h2)
  |succ k=>
   cases k with
   |zero=>cases(show some none=some (some v) from h2)
   |succ k=>
   have h2:(frV G ix)[k]?=some (some v):=h2;have h1:N[k+1+1]?=some y:=h1;unfold frV at h2;rw[gd] at h2
   cases hj:ix[k]? with
   |none=>rw[hj] at h2;cases h2
   |some j=>
    rw[hj] at h2;have h2:(G[j]?).getD none=some v:=fq h2;have h2':G[j]?=some (some v):=by
     cases e:G[j]? with
     |none=>rw[e] at h2;cases h2
     |some z=>rw[e] at h2;exact congrArg some h2
    have ht:N.tail.tail[k]?=some y:=by rw[wd,wd];exact h1
    have hz:(y,j)∈N.tail.tail.zip ix:=gg (i:=k) (by rw[wn];exact⟨ht,hj⟩);obtain⟨q1,q2⟩:=L.at_ _ hz;have hm:=k6 q2;have hcell:=L.free _ hm rfl;obtain⟨m',hn',hl'⟩:=I4.loc;obtain⟨u,r,lk⟩:=hl' j y v q1 h2' (.inr (.inl hcell));refine⟨u,r,.inr ⟨.inl (N8 I2.ok.kind hcell q2),?_⟩⟩;rcases lk with lk|⟨_,c,e,z⟩
    ·rw[show X.env.kindOf y=some .cell from hcell] at lk
     cases lk.1
    ·obtain⟨c',e'⟩:=jw.mp (Ev (env:=X.env) scope.names [] y hm)
     have e2:=sub y c' e';rw[e] at e2;cases e2;exact⟨c,e',z⟩
 ·show H3 C=none
  exact I3.hok.fresh (ot hC.symm)
 ·show(none::none::frV G ix).length=N.length
  rw[L.len];simp[frV]
theorem wU {tgt:jc}(htg:tgt=.Tuple [.Name x1 px,.Name x2 px2] kk ppos){G:St}{tn:Nat->jo->Prop}(hc:X.calm=true)(L:Nh X.N X.env.scope scope x1 x2 N ix)(I2:Inv X pins G H2 s2)
  (T:R9 X.prog X.w X.K tgt J fp it tn)(st2:tn 0 s2.heap)(f2:∀b∈fp,M3 X pins H2 b)
  (hif:∀C s H,PIf (Do X scope N C s H fp) ifs tc)(he:∀C s H,PE (Do X scope N C s H fp) elt te){Q:VK}(rd:Zm X.K J H2 (frV G ix) tc te Q){RR:fv->fg->yp->fw->Prop}{E:Za0}
  (fin:∀D C H' s' m,Inv X pins G H' s'->s2.heap.objs.size<=C->H' C=none->s'.heap.Ns C m->Q (.ref D) H'->RR (.ref D) C (.ok .next) s') :
  wpAny (model X.prog X.w) X.A (newList []) (λacc s3=>wpAny (model X.prog X.w) X.A (newFunctionEnv scope X.env.globals (Ds X.env scope.names []) [] X.env.qual none .none (some X.env)) (λcenv s4=>
   codeAny (model X.prog X.w) X.A (.compStart (.ListComp elt [⟨tgt,iter,ifs,0⟩] scope pos) 0 (.ref it) acc { cenv with scope:=relabel scope X.env }) (RR acc cenv.locals) s4) E s3) E s2:=by
 refine oj (vz L.nocell (by intro y hy;simp at hy) (λh1 hns hsb=>?_) L.kind);dsimp only at hns hsb ⊢;have I3:Inv X pins G (upd H2 s2.heap.objs.size (.lst [])) { s2 with heap:=s2.heap.push { cls:=.type "list",dict:=none,data:=.seq ([]:Za3).toArray } }:=I2.lnew (its:=[]) (t':=s2.toks) .nil (i6 _);generalize hH3:s2.heap.push { cls:=.type "list",dict:=none,data:=.seq ([]:Za3).toArray }=h3 at hns hsb I3 ⊢;have hsz:h3.objs.size=s2.heap.objs.size+1:=by rw[<-hH3,we]
 have kp34:∀b u,h3.get? b=some u->h1.get? b=some u:=λb u e=>hsb.extBut b u (ig (gh e)) (fh _ e);have I4:Inv X pins G (upd H2 s2.heap.objs.size (.lst [])) { s2 with heap:=h1,toks:=s2.toks+([]:List (Str×fv)).length }:=I3.kept (t':=s2.toks+([]:List (Str×fv)).length) kp34;have kp24:∀b u,s2.heap.get? b=some u->h1.get? b=some u:=λb u e=>kp34 b u (by rw[<-hH3];exact fh _ e);have IY:=Abu (C:=h3.objs.size) (s3:={ s2 with heap:=h3 }) L I2 T st2 f2 I3 I4 (by show s2.heap.objs.size<=h3.objs.size;lia) rfl rfl kp34 hns;have fD:H2 s2.heap.objs.size=none:=I2.hok.fresh (fk _);have lt2:∀b∈fp,b<s2.heap.objs.size:=λb hb=>by obtain⟨o,e,_⟩:=T.obj _ _ st2 b hb;exact gh e
 have st4:tn 0 h1:=T.keep _ _ _ st2 λb _ o e=>kp24 b o e;have stat:∀{pn:Za1} {H':Hp},pn=[]->(∀b∈fp,H' b=none)->∀b∈fp,M3 (Do X scope N h3.objs.size { s2 with heap:=h3 } (upd H2 s2.heap.objs.size (.lst [])) fp) pn H' b:=λhp hn b hb=>by
  subst hp;exact⟨hn b hb,(IY.ok.exf b hb).1,IY.ok.exfs b hb,.inl hb,(IY.ok.exf b hb).2,λp hp=>absurd (show p∈([]:Za1) from hp) (by simp)⟩
 obtain⟨W,⟨m0,w0⟩,turn⟩:=rd _ fD;have loop:codeAny (model X.prog X.w) X.A (.compLoop (.ListComp elt [⟨tgt,iter,ifs,0⟩] scope pos) 0 (.ref it) (.ref s2.heap.objs.size) (compEnvC scope (Ds X.env scope.names []) h3.objs.size X.env)) (RR (.ref s2.heap.objs.size) h3.objs.size)
   { s2 with heap:=h1,toks:=s2.toks+([]:List (Str×fv)).length }:=by
  refine lB (λn s'=>∃i H',Inv (Do X scope N h3.objs.size { s2 with heap:=h3 } (upd H2 s2.heap.objs.size (.lst [])) fp) [] (none::none::frV G ix) H' s'/\tn i s'.heap/\(∀b∈fp,H' b=none)/\W i n H') ?_ m0
   ⟨0,_,IY,st4,λb hb=>by rw[Ai (ig (lt2 b hb))];exact(f2 b hb).1,w0⟩
  rintro n s5 ⟨i,H5,I5,st5,fr5,w5⟩;rcases turn i n H5 w5 with⟨stop,q⟩|⟨go,step⟩
  ·refine thn (T.done (Do X scope N h3.objs.size { s2 with heap:=h3 } (upd H2 s2.heap.objs.size (.lst [])) fp) rfl rfl rfl hc i [] s5 _ H5 (λ_ _=>False) I5 (stat rfl fr5) st5 stop) λr s6 ⟨hr,I6⟩=>?_
   subst hr;obtain⟨m6,hn6,_⟩:=I6.loc;have u1:Un (frs X.stack) fp H2 (upd H2 s2.heap.objs.size (.lst [])) s2.heap h3:=Un.laid (λb u e=>by rw[<-hH3];exact fh _ e) (fk _) fD;have back:Inv X pins G H5 s6:=I2.call' (ch:=fp) (I6.os.trans rfl) (u1.trans I6.base) I6.hok I6.bare λb hb=>⟨(f2 b hb).2.2.2.1,(f2 b hb).2.1,(f2 b hb).2.2.2.2.1,(f2 b hb).2.2.2.2.2⟩;exact fin _ _ H5 s6 m6 back (by lia) I6.free hn6 q
  ·refine thn (T.item (Do X scope N h3.objs.size { s2 with heap:=h3 } (upd H2 s2.heap.objs.size (.lst [])) fp) rfl rfl rfl hc i [] s5 _ H5 (λ_ _=>False) I5 (stat rfl fr5) st5 go) λr s6 ⟨u,hr,h6⟩=>?_
   subst hr;refine thn h6 λ_ s7 ⟨y,H7,I7,r7,y7,st7,fr7⟩=>?_;have I7':=I7.pinned (stat rfl fr7) (T.obj _ _ st7);have hg:PG (Do X scope N h3.objs.size { s2 with heap:=h3 } (upd H2 s2.heap.objs.size (.lst [])) fp) tgt (xF X.K 2 (Ti (Gm 0) (Ti (Gm 1) yJ))):=by
    rw[htg];exact R1 hc (Eh (Lh L.nd L.hd (.inl (qa L.loc)) (.inr (qa L.loc))) (Eh (Lh L.nd L.hd2 (.inl (qa L.loc2)) (.inr (qa L.loc2))) Nz))
   obtain⟨ta,y1,y2,ey,hTu,hst⟩:=step y _ y7;refine thn (hg _ s7 _ H7 y u (λQM H'=>QM=some y1::some y2::frV G ix/\H'=H7) I7' r7 ⟨ta,[y1,y2],ey,hTu,rfl,y1,[y2],rfl,y2,[],rfl,rfl,rfl,rfl⟩) λ_ s8 ⟨XC,H8,I8,e8,e8'⟩=>?_;subst e8 e8';refine thn (hif _ _ _ _ s8 _ _ _ I8 hst) λok s9 ⟨H9,I9,q9⟩=>?_;have again:∀{sz:fw} {Hz:Hp} {m':Nat},Inv (Do X scope N h3.objs.size { s2 with heap:=h3 } (upd H2 s2.heap.objs.size (.lst [])) fp) ([]++Ou fp s7.heap) (some y1::some y2::frV G ix) Hz sz->m'<n->W (i+1) m' Hz ->
     ∃m,m<n/\∃i H',Inv (Do X scope N h3.objs.size { s2 with heap:=h3 } (upd H2 s2.heap.objs.size (.lst [])) fp) [] (none::none::frV G ix) H' sz/\tn i sz.heap/\(∀b∈fp,H' b=none)/\W i m H':=λ{sz Hz m'} Iz hm wz=>by
    refine⟨m',hm,i+1,Hz,Iz.unpinned.weak (by simp) (λj v e=>?_),T.keep _ _ _ st7 λb hb o e=>(Iz.pin (b,o) (ii _ (ii _ (Fq hb e)))).1,λb hb=>?_,wz⟩
    ·cases j with
     |zero=>cases e
     |succ j=>
      cases j with
      |zero=>cases e
      |succ j=>exact e
    ·obtain⟨o,e,d⟩:=T.obj _ _ st7 b hb
     exact(Iz.pin (b,o) (ii _ (ii _ (Fq hb e)))).2.1
   cases ok with
   |false=>
    obtain⟨m',hm,wz⟩:=q9;exact again I9 hm wz
   |true=>
    refine thn (he _ _ _ _ s9 _ _ _ I9 q9) λxv s10 ⟨z,H10,I10,r10,ys,hD,hl,m',hm,wz⟩=>?_;refine thn (Dh _ s10 _ H10 (.ref s2.heap.objs.size) [z] (.ref s2.heap.objs.size) [xv] (λ_ Hz=>Hz=upd H10 s2.heap.objs.size (.lst (ys++[z]))) I10 rfl (.cons r10 .nil) ⟨_,ys,z,rfl,rfl,hD,hl,rfl⟩) λ_ s11 ⟨_,H11,I11,_,q11⟩=>?_;subst q11;exact again I11 hm wz
 exact GE loop (T.self X.A 0 _ _ _ st4 loop)
theorem pE {i:Nat}{y:Str}{py spos:Pos}(hc:X.calm=true)(L:Nh X.N X.env.scope scope x1 x2 N ix)(hN:X.N.Nodup)(hy:X.N[i]?=some y)(hl:X.env.scope.names.lookup y=some .local)
  (hi:PI X (.Tuple [.Name x1 px,.Name x2 px2] kk ppos) iter wi)(hif:∀C s H fp,PIf (Do X scope N C s H fp) ifs tc)(he:∀C s H fp,PE (Do X scope N C s H fp) elt te)
  (hsw:autoParam (swapsWith (.ListComp elt [⟨.Tuple [.Name x1 px,.Name x2 px2] kk ppos,iter,ifs,0⟩] scope pos) (some (.Name y py)) spos.line X.env=pure true) QD)
  (hs:autoParam (∀z,foldedSetIterable iter X.env z=pure z) QJ):PS X (.Assign [.Name y py] (.ListComp elt [⟨.Tuple [.Name x1 px,.Name x2 px2] kk ppos,iter,ifs,0⟩] scope pos) spos) (iR (Aek X.K wi ix tc te) (Gm i)):=by
 k_end;have hfree:∀y∈scope.names,y.2=.free->∃c,X.env.cells.lookup y.1=some c:=λy hy hf=>I.ok.has y.1 (.inl (L.free y hy hf));rw[GN _ _ _ _ hsw];refine wpAny_bind (qf (wpAny_bind ?_));show wpAny _ X.A (do let _ <-comprehension (.ListComp elt [⟨.Tuple [.Name x1 px,.Name x2 px2] kk ppos,iter,ifs,0⟩] scope pos) scope X.env _ (newList []) false (eval iter X.env) (some (assign (.Name y py) X.env))) _ _ s;refine wpAny_bind (thn (Q:=λ_ s'=>SP X pins D .next s') (xw (use:=some (assign (.Name y py) X.env)) rfl hs (Jg hfree) L.kind L.names (thn (hi pins s G H _ I h) λv s1 h1=>thn h1 λitv s2 h2=>?_)) λ_ s' hq=>ft (ft hq));obtain⟨it,fp,tn,J,H2,e,I2,T,st2,f2,rd⟩:=h2;subst e;refine wU (RR:=λacc C=>compPost (model X.prog X.w) X.A X.xe (some (assign (.Name y py) X.env)) _ acc C) rfl hc L I2 T st2 f2 (λC s H=>hif C s H fp) (λC s H=>he C s H fp) rd λDa C H' s' m I' hC hf hn q=>?_;have l2:=I2.lt;have nC:C≠X.env.locals:=ue (gi l2 hC);have nF:C∉X.fs:=I2.nofs hC;obtain⟨oC,es,ep,hget,hdat,hrest⟩:=id hn;have Ip:Inv X (pins++[(C,oC)]) G H' s':=I'.pins_of λp hp=>(i5.mp hp).elim (λz=>I'.pin p (ii _ z)) λz=>by
  have e:p=(C,oC):=by simpa using z
  subst e;exact⟨hget,hf,nC,nF,λv z=>by rw[hdat] at z;cases z⟩
 have hg:PG X (.Name y py) (Gm i):=Lh hN hy (.inl hl) (.inr hl);show wpAny _ X.A (assign (.Name y py) X.env (.ref Da)) _ _ s';refine thn (hg _ s' G H' (.ref Da) (.ref Da) D.nx Ip rfl q) λ_ s'' ⟨XI,H'',I'',q''⟩=>?_;obtain⟨g1,g2,_⟩:=I''.pin (C,oC) (ii _ (ii _ (by simp)));refine⟨m,⟨oC,es,ep,g1,hdat,hrest⟩,λh' hsb=>⟨XI,H'',?_,q''⟩⟩;refine I''.unpinned.turned (t':=s''.toks) (it:=C) (λb o hb e=>hsb.extBut b o hb e) g2 nC (.inr (io I2.sz hC)) (λy c e=>?_) λp hp=>?_
 ·obtain⟨v,hv⟩:=I2.cell y c e
  exact ig (gi hv.lt hC)
 ·exact ig (gi (gh (I2.pin p hp).1) hC)
end
theorem Ach {K:eh}{tA:TA}{G:St}{R:It->Hp->Prop}(h:tA G H λvs H1=>∃a b,vs=[.ref a,.ref b]/\(∃xs,SqL K H1 a xs)/\(∃ys,SqL K H1 b ys)/\R (Itz K a b) H1):Adb K tA G H R:=h
theorem xV {K:eh}{tA:TA}{G:St}{R:It->Hp->Prop}(h:tA G H λvs H1=>∃a,vs=[.ref a]/\(∃xs,SqL K H1 a xs)/\R (Ite K a) H1):Aac K tA G H R:=h
theorem Aet {K:eh}{G:St}{Q:VK}{tc:TT}(h:wi G H λJ H1=>Zm K J H1 (frV G ix) tc te Q):Aek K wi ix tc te G H Q:=h
theorem xK {K:eh}{G:St}{R:St->Hp->Prop}{a:fg}{x:V}{i j:Nat}(hs:SqT K H a [x,y])(h:R ((G.set i (some x)).set j (some y)) H):xF K 2 (Ti (Gm i) (Ti (Gm j) yJ)) (.ref a) G H R:=
 ⟨a,[x,y],rfl,hs,rfl,x,[y],rfl,y,[],rfl,rfl,h⟩
theorem qF {K:eh}{fr:St}{tc:TT}{Q:VK}(n:Nat)(f1 f2:Nat->V)(acc:Nat->List V)(h0:acc 0=[])(hz:∀i,i<n->(acc i).length<sizeLine)
  (hgo:∀i H,i<n->Ak H1 H->J.go i H)(hy:∀i H v H',i<n->Ak H1 H->J.yld i H v H'->∃a,v=.ref a/\SqT K H' a [f1 i,f2 i]/\Ak H H')(hst:∀H,Ak H1 H->J.stop n H)
  (turn:∀i H (R:Hp->Prop) (A:VK),i<n->Ak H1 H->(acc (i+1)=acc i->∀H',Ak H H'->R H')->(∀y H',acc (i+1)=acc i++[y]->Ak H H'->A y H') ->
   tc (some (f1 i)::some (f2 i)::fr) H λb H3=>if b=true then te (some (f1 i)::some (f2 i)::fr) H3 A else R H3)
  (fin:∀D H,H1 D=none->Ak H1 H->H D=some (.lst (acc n))->Q (.ref D) H):Zm K J H1 fr tc te Q:=by
 intro D hD;refine⟨λi m H=>i<=n/\m=n-i/\Ak H1 H/\H D=some (.lst (acc i)),⟨n,i6 _,rfl,Ag hD,by rw[Ac,h0]⟩,?_⟩;rintro i m H ⟨hi,rfl,sm,hl⟩
 by_cases h:i=n
 ·subst h
  exact .inl ⟨hst H sm,fin D H hD sm hl⟩
 ·have hlt:i<n:=ss hi h
  refine .inr ⟨hgo i H hlt sm,λv H' hyl=>?_⟩;obtain⟨a,rfl,ht,s2⟩:=hy i H v H' hlt sm hyl;refine⟨a,_,_,rfl,ht,turn i H' _ _ hlt (sm.trans s2) (λea H3 s3=>?_) (λy H4 ea s4=>?_)⟩
  ·exact⟨n-(i+1),by lia,by lia,rfl,(sm.trans s2).trans s3,by rw[ea];exact s3 _ _ (s2 _ _ hl)⟩
  ·refine⟨acc i,s4 _ _ (s2 _ _ hl),hz i hlt,n-(i+1),by lia,by lia,rfl,λb u e=>?_,by rw[Ac,ea]⟩
   rw[Ai (Al e hD)];exact s4 _ _ (s2 _ _ (sm _ _ e))
theorem Ac1 {K:eh}{a b:fg}{fr:St}{tc:TT}{Q:VK}(ha:SqL K H1 a xs)(hb:SqL K H1 b ys)(acc:Nat->List V)(h0:acc 0=[])(hz:∀i,i<min xs.length ys.length->(acc i).length<sizeLine)
  (turn:∀(i:Nat) x y H (R:Hp->Prop) (A:VK),xs[i]?=some x->ys[i]?=some y->Ak H1 H->(acc (i+1)=acc i->∀H',Ak H H'->R H')->(∀y H',acc (i+1)=acc i++[y]->Ak H H'->A y H') ->
   tc (some x::some y::fr) H λb H3=>if b=true then te (some x::some y::fr) H3 A else R H3)
  (fin:∀D H,H1 D=none->Ak H1 H->H D=some (.lst (acc (min xs.length ys.length)))->Q (.ref D) H):Zm K (Itz K a b) H1 fr tc te Q:=by
 refine qF (min xs.length ys.length) (λi=>xs.getD i .non) (λi=>ys.getD i .non) acc h0 hz (λi H hi sm=>⟨xs,ys,xs[i]'(by lia),ys[i]'(by lia),sm.seq ha,sm.seq hb,by simp,by simp⟩) (λi H v H' hi sm h=>?_)
  (λH sm=>⟨xs,ys,sm.seq ha,sm.seq hb,rfl⟩) (λi H R A hi sm=>turn i _ _ H R A (by simp[show i<xs.length by lia]) (by simp[show i<ys.length by lia]) sm) fin
 obtain⟨t,x,y,hn,rfl,h1,h2,rfl⟩:=h;have e1:=h1 xs (sm.seq ha);have e2:=h2 ys (sm.seq hb);refine⟨t,rfl,?_,Ag hn⟩;simp only[jy,e1,e2,wx];exact SqT.of Ac
theorem Nv {K:eh}{a:fg}{i1 i2:Nat}{tb:TS}{D:Iw}{G:St}(Pv:Nat->St->Hp->Prop)(h0:Pv 0 G H)(hl:∀i G H,i<=xs.length->Pv i G H->SqL K H a xs)
  (step:∀i x G H t,xs[i]?=some x->Pv i G H->H t=none->tb { D with nx:=Pv (i+1),ct:=Pv (i+1),bk:=D.nx } ((G.set i1 (some (.int i))).set i2 (some x)) (upd H t (.tup [.int i,x])))
  (fin:∀G H,Pv xs.length G H->D.nx G H):Aby (Ite K a) (xF K 2 (Ti (Gm i1) (Ti (Gm i2) yJ))) tb D G H:=by
 refine⟨λi m G H=>i<=xs.length/\m=xs.length-i/\Pv i G H,⟨_,i6 _,rfl,h0⟩,?_⟩;rintro i m G H ⟨hi,rfl,hp⟩
 by_cases h:i=xs.length
 ·exact .inl ⟨⟨xs,hl i G H hi hp,h⟩,fin G H (h▸hp)⟩
 ·have hlt:i<xs.length:=ss hi h
  refine .inr ⟨⟨xs,xs[i],hl i G H hi hp,by simp⟩,Pv (i+1),λQM H' q=>⟨xs.length-(i+1),by lia,hlt,rfl,q⟩,λv H' hy=>?_⟩;obtain⟨t,x,hn,rfl,hx,rfl⟩:=hy;exact xK (SqT.of Ac) (step i x G H t (hx xs (hl i G H hi hp)) hp hn)
structure Mth (P:gv) (w:ir) (K:eh) (mg:Za2) (base:jo) (C:fg) (m:Str) (k:Nat) (ps:Za6) (sp:Sp):Prop where
 ex:∃(f:fg) (fd:ke),As P w K mg base CX0 k f fd ps sp/\Dn K fd ps []/\nJ K C m f
 cl:Cls K C
structure Mkr (P:gv) (w:ir) (K:eh) (mg:Za2) (base:jo) (name:Str) (C:fg) (k:Nat) (ps:Za6) (sp:Sp):Prop where
 ex:∃(f:fg) (fd:ke),As P w K mg base CX0 k f fd ps sp/\Dn K fd ps []/\Mk K C f/\mg name=some (.ref C)
section
variable {X:Cx} {k:Nat} {C:fg} {ps:Za6} {sp:Sp} {name m:Str} {p pos apos:Pos} {e o:jc} {es:List jc} {ta:TE} {t:TA} {pl:Sem Bool}
theorem kJ (M:Mkr X.prog X.w X.K X.mg X.base name C k ps sp)(hr:Bv (k+1) X.A)(ha:PA X (e::es) t)(hg:autoParam (Gl X name) QD)(hdb:autoParam ((name==("__debug__":Str))=false) QF)
  (he:autoParam (starEach (e::es) X.env=(false,eval e X.env)::starEach es X.env) QD)(hpl:autoParam ((backTo pos (starEach es X.env)).any (·.1)=false) QD):PE X (.Call (.Name name p) (e::es) [] pos) (U5 C sp [] E0 t):=by
 obtain⟨f,fd,F,b,M,hm⟩:=M.ex;exact W4 M F hr hg hm b .nil jY ha hdb he hpl
theorem Fn (M:Mth X.prog X.w X.K X.mg X.base C m k ps sp)(hr:Bv k X.A)(ho:PE X o ta)(ha:PA X (e::es) t)
  (hst:autoParam (starEach (e::es) X.env=(false,eval e X.env)::starEach es X.env) QD)(hpl:autoParam ((backTo pos (starEach es X.env)).any (·.1)=false) QD)
  (ht:autoParam (eval (.Call (.Attribute o m apos) (e::es) [] pos) X.env=(do
   let ov <-eval o X.env
   standAt apos.atName
   let (f,first) <-holding [ov] (getMethod ov m pl)
   callWith pos f first (backTo pos (starEach (e::es) X.env)) (backToKw pos (keywordEach [] X.env)))) QD) :
  PE X (.Call (.Attribute o m apos) (e::es) [] pos) (Th C m sp [] E0 ta t):=by
 obtain⟨f,fd,F,b,hm⟩:=M.ex;exact jH ho M.cl hm F hr b .nil jY ha hst hpl ht
theorem gY (M:Mth X.prog X.w X.K X.mg X.base C m k ps sp)(hr:Bv k X.A)(ho:PE X o ta)
  (ht:autoParam (eval (.Call (.Attribute o m apos) [] [] pos) X.env=(do
   let ov <-eval o X.env
   standAt apos.atName
   let (f,first) <-holding [ov] (getMethod ov m pl)
   callWith pos f first (backTo pos (starEach [] X.env)) (backToKw pos (keywordEach [] X.env)))) QD) :
  PE X (.Call (.Attribute o m apos) [] [] pos) (Th C m sp [] E0 ta Xl):=by
 obtain⟨f,fd,F,b,hm⟩:=M.ex;exact uG ho M.cl hm F hr b .nil jY ht
end
section
variable {G:St} {H:Hp} {D:Iw} {Q:VK} {te ta tv:TE} {tA:TA} {K:eh}
theorem Aeo {f:Str}(h:te G H λx H1=>∃a C dx fs v,x=.ref a/\H1 a=some (.ins C dx fs)/\Cls K C/\Bo K C f/\fs.lookup f=some v/\Q v H1):Acf K te f G H Q:=h
theorem uV {a:fg}{fs:List (Str×V)}{f:Str}{v:V}(h:H a=some (.ins C dx fs))(c:Cls K C)(n:Bo K C f)(l:fs.lookup f=some v)(q:Q v H) :
  ∃a' C' dx' fs' v',V.ref a=.ref a'/\H a'=some (.ins C' dx' fs')/\Cls K C'/\Bo K C' f/\fs'.lookup f=some v'/\Q v' H:=⟨a,C,dx,fs,v,rfl,h,c,n,l,q⟩
theorem Abz {f:Str}(h:tv G H λy H1=>ta G H1 λx H2=>∃a C dx fs,x=.ref a/\H2 a=some (.ins C dx fs)/\Cls K C/\Bo K C f/\fs.length<1000/\D.nx G (upd H2 a (.ins C dx (Eg f y fs)))):Abf K ta tv f D G H:=h
theorem Cr {a:fg}{fs:List (Str×V)}{f:Str}{R:Hp->Prop}(h:H a=some (.ins C dx fs))(c:Cls K C)(n:Bo K C f)(l:fs.length<1000)(q:R (upd H a (.ins C dx (Eg f y fs)))) :
  ∃a' C' dx' fs',V.ref a=.ref a'/\H a'=some (.ins C' dx' fs')/\Cls K C'/\Bo K C' f/\fs'.length<1000/\R (upd H a' (.ins C' dx' (Eg f y fs'))):=⟨a,C,dx,fs,rfl,h,c,n,l,q⟩
theorem Aaw {E:XK}(h:tA G H λvs H1=>∀x dx,H1 x=none->H1 dx=none->dx≠x->sp (.ref x::(vs++[])) (upd (upd H1 dx (.own x)) x (.ins C dx [])) (λv H2=>v=.non/\Q (.ref x) H2) E):U5 C sp [] E tA G H Q:=h
theorem Abw {m:Str}{E:XK}(h:ta G H λx H1=>∃a dx fs,x=.ref a/\H1 a=some (.ins C dx fs)/\fs.lookup m=none/\tA G H1 λvs H2=>sp (x::(vs++[])) H2 Q E):Th C m sp [] E ta tA G H Q:=h
end
section
variable {X:Cx}
def O3 (z:Str)(c:Nat):Nat:=z.cps.toList.count c
theorem U8 (c:Nat):∀l:Za4,LR c l=(l.count c:Nat)
 |[]=>rfl
 |n::r=>by
  rw[LQ,U8 c r,sf]
  by_cases h:n=c
  ·subst h;simp;lia
  ·simp[h]
def Aaq:V->List V->Hp->VK->Prop:=λx vs H Q=>∃z c,x=.str z/\vs=[.str (sgn c)]/\Q (.int (O3 z c:Nat)) H
theorem Td:MtM X "str.count" Aaq:=by
 intro pins s G H x vs v us Q I rx rv h;obtain⟨z,c,rfl,rfl,q⟩:=h;obtain⟨t,rfl⟩:=rx;obtain⟨u,rfl,ru⟩:=rv.one;obtain⟨t',rfl⟩:=ru;have e:Txt.count z (sgn c)=(O3 z c:Nat):=(LO z c).trans (U8 c _);refine SC.count ?_;rw[e];exact⟨.int (O3 z c:Nat),H,I.tok _,⟨_,rfl⟩,q⟩
def Ad7 (K:eh):List V->Hp->VK->Prop:=λxs H Q=>∃(p:fg) (ns:List Int),xs=[.ref p]/\SqL K H p (ns.map V.int)/\Q (.int ns.sum) H
theorem vH (hc:X.calm=true):Ey X (.builtin "sum") (Ad7 X.K):=by
 intro pins s G H xs us Q I r h;obtain⟨p,ns,rfl,hp,q⟩:=h;obtain⟨u,rfl,ru⟩:=Fm r;cases ru;obtain⟨its,r,pl,_⟩:=I.list hp;have hi:=Ry r;obtain⟨ys,e⟩:=hi.allInts.items;have hl:=pl.isList;have hs:(numsOf its).sum=ns.sum:=by rw[hi.numsOf]
 rw[e] at hl;refine sum_intListG (I.ok.hd hc) hl λh' tk t' hk=>?_;refine⟨.int ns.sum,H,I.kept hk,⟨t',?_⟩,q⟩;rw[preSum_eq,gq (by simp),<-hs];have e2:=MU ys;rw[<-e] at e2;rw[show its=its.toArray.toList from rfl,e2]
end
namespace IB
open PySem.NumText PySem.Calls
def bits (cs:Za4):Prop:=∀c∈cs,c=48\/c=49
def v2 (cs:Za4):Nat:=cs.foldl (λa c=>a*2+(c-48)) 0
theorem eR {c:Nat}(ds:Array Nat)(b:Bool)(h:c=48\/c=49):step 2 (ds,b) c=some (ds.push (c-48),true):=by rcases h with rfl|rfl<;>rfl
theorem Tc:∀(cs:Za4) (ds:Array Nat),bits cs->cs.foldlM (step 2) (ds,true)=some (cs.foldl (λacc c=>acc.push (c-48)) ds,true)
 |[],ds,_=>rfl
 |c::cs,ds,h=>by
  rw[GW,eR ds true (h c il)];exact Tc cs _ λd hd=>h d (gz _ hd)
theorem Yl (h:bits cs)(hne:cs≠[]):digits? 2 cs=some (cs.foldl (λacc c=>acc.push (c-48)) #[]):=by
 cases cs with
 |nil=>exact absurd rfl hne
 |cons c cs=>
  unfold digits?;rw[GW,eR #[] false (h c il)];show((cs.foldlM (step 2) (#[].push (c-48),true)).bind _)=_;rw[Tc cs _ λd hd=>h d (gz _ hd)];rfl
theorem Tx:∀(cs:Za4) (ds:Array Nat),(cs.foldl (λacc c=>acc.push (c-48)) ds).foldl (λacc d=>acc*2+d) 0=cs.foldl (λacc c=>acc*2+(c-48)) (ds.foldl (λacc d=>acc*2+d) 0)
 |[],ds=>rfl
 |c::cs,ds=>by
  rw[qm,Tx cs,qm,Array.foldl_push]
theorem Ve (h:bits cs):cs.dropWhile blank=cs:=by
 cases cs with
 |nil=>rfl
 |cons c cs=>
  rw[List.dropWhile_cons,if_neg];rcases h c il with rfl|rfl<;>decide
theorem oK (h:bits cs):sign cs=(false,cs):=by
 cases cs with
 |nil=>rfl
 |cons c cs=>rcases h c il with rfl|rfl<;>rfl
theorem fO (h:bits cs):based 2 cs=(2,false,cs):=by
 have hp:prefix? cs=none:=by
  match cs,h with
  |[],_=>rfl
  |[c],h=>rcases h c il with rfl|rfl<;>rfl
  |c::d::r,h=>
   rcases h c il with rfl|rfl
   ·rcases h d (gz _ il) with rfl|rfl<;>rfl
   ·rfl
 unfold based;rw[hp];rfl
theorem pB (h:bits cs)(hne:cs≠[]):(int_private% "readNumeral") 0 2 cs=(int_private% "Numeral.value") (v2 cs:Nat):=by
 refine(readNumeral_eq 0 2 cs).trans ?_;have hr:bits cs.reverse:=λc hc=>h c (nz.mp hc);rw[Ve h,oK h];dsimp only;rw[fO h];dsimp only;rw[Ve hr,mn,Yl h hne];have e:(cs.foldl (λacc c=>acc.push (c-48)) #[]).foldl (λacc d=>acc*2+d) 0=v2 cs:=Tx cs #[];unfold judge;dsimp only;rw[e];rfl
theorem wD {E:Za0}{Q:Za0}{v:fv}{text:Za4}{n:Int}
    (hs : (text.takeWhile (· != 0)).length <= 640)(hr : (int_private% "readNumeral") 0 2 (text.takeWhile (· != 0)) = (int_private% "Numeral.value") n)
    (ha : ((text.takeWhile (· != 0)).length == text.length) = true)(h : Q (.int n s.toks) { s with toks := s.toks + 1 }) :
    wpAny M A ((int_private% "intFromText") v text 2) Q E s := by
  obtain ⟨hp, g, d, tk, os⟩ := s
  repeat (any_goals (first
    | assumption
    | (with_reducible refine zn (decide_eq_true hs) ?_)
    | (with_reducible refine zn (decide_eq_true ha) ?_)
    | wp_step))
  all_goals (try rw [hr])
  all_goals (try dsimp only)
  repeat (any_goals (first
    | assumption
    | (with_reducible refine zn (decide_eq_true hs) ?_)
    | (with_reducible refine zn (decide_eq_true ha) ?_)
    | wp_step))
theorem typeCall_int_2 (a b:fv):checkTypeCall "int" ⟨[a,b],[]⟩=pure ():=by kernel_rfl
theorem newCall_int_2 (a b:fv):checkBuiltinCall "int.__new__" ⟨[.type "int",a,b],[]⟩=pure ():=by kernel_rfl
structure Hid (p:Prop):Prop where
 out:p
theorem Wt {x:Str}(h:bits x.cps.toList):(if x.cps.all (· < 128) then x.cps.toList else Unicode.numberText x.cps.toList)=x.cps.toList:=by
 rw[if_pos];rw[Array.all_eq_true'];intro c hc;have:=h c (by simpa using hc);rcases this with rfl|rfl<;>decide
theorem Ij (h:bits cs):cs.takeWhile (· != 0)=cs:=takeWhile_all λc hc=>by rcases h c hc with rfl|rfl<;>decide
set_option maxHeartbeats 4000000 in
theorem gives_bits {x:Str}{u v:Tok}(hl:x.length<=640)(hb:bits x.cps.toList)(hne:x.cps.toList≠[]):Gives (qu.«int.__new__» ⟨[.type "int",.str x u,.int 2 v],[]⟩) (.int (v2 x.cps.toList:Nat)) :=
  .of_wp λM A E s Q h => by
    obtain ⟨hp, g, d, tk, os⟩ := s;have f1 := F.conv_sub_int;have f2 := F.madeHere_int;have f6 : typeOf (.str x u) = pure (.type "str") := rfl;have hs : ((x.cps.toList).takeWhile (· != 0)).length <= 640 := by rw [Ij hb]; simpa [zo] using hl
    have hr := pB hb hne;rw [<- Ij hb] at hr;rw [Ij hb] at hr;have hr : (int_private% "readNumeral") 0 2 ((x.cps.toList).takeWhile (· != 0)) = (int_private% "Numeral.value") (v2 x.cps.toList : Nat) := by rw [Ij hb]; exact hr
    have ha : (((x.cps.toList).takeWhile (· != 0)).length == (x.cps.toList).length) = true := by rw [Ij hb]; simp
    have ht := Wt hb;have hk := Hid.mk (EF hs (EF hr (EF ha ht)));clear hs hr hl ha ht hne
    repeat (any_goals (first
      | assumption
      | ((with_reducible show wpAny _ _ ((int_private% "intFromText") _ _ _) _ _ _); rw [hk.out.2.2.2]; refine wD hk.out.1 hk.out.2.1 hk.out.2.2.1 ?_)
      | wp_step))
    all_goals first | exact ⟨_, rfl, h⟩ | skip
end IB
section
variable {X:Cx}
def Aew:List V->Hp->VK->Prop:=λxs H Q=>∃z,xs=[.str z,.int 2]/\z.length<=640/\IB.bits z.cps.toList/\z.cps.toList≠[]/\Q (.int (IB.v2 z.cps.toList:Nat)) H
theorem T5:Ey X (.type "int") Aew:=by
 intro pins s G H xs us Q I r h;obtain⟨z,rfl,hl,hb,hne,q⟩:=h;obtain⟨u,w',rfl,ru,rw'⟩:=Na r;obtain⟨t,rfl⟩:=ru;obtain⟨t',rfl⟩:=rw';exact callType_new F.called_int F.newNe_int (IB.typeCall_int_2 _ _) (IB.newCall_int_2 _ _) (λobj=>F.args_object_init_3 obj _ _) F.entry_int_new (IB.gives_bits hl hb hne).meets (show(Made.int _).post _ s from⟨rfl,.int (IB.v2 z.cps.toList:Nat),H,I.tok _,⟨_,rfl⟩,q⟩)
end
theorem iK (n:Nat):mh none none (-1) n=(gp n).map λk=>n-1-k:=by
 unfold mh;dsimp only;rw[if_neg (by decide),if_neg (by decide)];unfold sliceRange;dsimp only;rw[if_neg (by decide)];have e:(if((n:Int)-1 > -1) then((n:Int)-1 - -1 - -1-1)/(- -1) else 0).toNat=n:=by
  split
  ·simp
  ·lia
 rw[e];refine kx λk hk=>?_;have:=kh.mp hk;lia
theorem U1 (l:Za4):∀n,n<=l.length->((gp n).map λk=>n-1-k).filterMap (l[·]?)=(l.take n).reverse
 |0,_=>by simp
 |n+1,h=>by
  have hl:n<l.length:=h;rw[xo,ik,j1,nj];have e:((λk=>n+1-1-k) ∘ Nat.succ)=λk=>n-1-k:=by
   funext k
   show n+1-1-(k+1)=n-1-k;lia
  rw[e,show n+1-1-0=n by lia,fc hl];dsimp only;rw[U1 l n (by lia),jn,fc hl,Option.toList_some,oh];rfl
section
variable {X:Cx} {e:jc} {te:TE} {p1 p2 p3 pos:Pos} {j:Nat}
theorem Kg (z:Str):(T4 z).length=z.length:=by
 show z.cps.toList.reverse.toArray.size=z.cps.size;simp
theorem yN {x1}(he:PE X e te):PE X (.Subscript e (.Slice none none (some (.UnaryOp .USub (.Constant (.int 1) x1 p1) p2)) p3) pos) (Adl te):=by
 k_in;refine Subscript_ (thE he I h λv s1 x H1 I1 r1 q1=>?_);obtain⟨z,rfl,hz,q⟩:=q1;obtain⟨t,rfl⟩:=r1;refine HK ?_;rw[AJ];refine ft (ft ?_);rw[evalPart_some];have hm:PE X (.UnaryOp .USub (.Constant (.int 1) x1 p1) p2) (tUn (rU λi=>.int (-i)) (tC (.int 1))):=Cy Bw Ad;refine thn (hm pins s1 G H1 (λy H2=>y=.int (-1)/\H2=H1) I1 ⟨1,rfl,rfl,rfl⟩) λw s2 ⟨y,H2,I2,r2,e2,e3⟩=>?_;subst e2 e3;obtain⟨t2,rfl⟩:=r2;have I4:Inv X pins G H2 { s2 with heap:=s2.heap.push { cls:=.type "slice",data:=.fields #[.none,.none,.int (-1) t2] } }:=I2.kept (t':=s2.toks) λb ob q=>fh _ q;have hs:(s2.heap.push { cls:=.type "slice",data:=.fields #[.none,.none,.int (-1) t2] }).IsSlice s2.heap.objs.size none none (some (-1,t2)):=⟨_,iq _ rfl,rfl,rfl⟩;refine HL (ops:=[.ref s2.heap.objs.size,.str z t]) (IL _ _ _) BP.lookup ?_ (by with_unfolding_all rfl);refine FP hs rfl ?_;have em:sliceMade z t none none (some (-1,t2))=.str (T4 z):=by
  unfold sliceMade;rw[if_neg (by simp)];show Made.str ⟨((mh none none (-1) z.length).filterMap (z.cps[·]?)).toArray⟩=_;rw[iK];have:=U1 z.cps.toList z.cps.toList.length (fk _);have e1:z.cps.toList.length=z.length:=by simp[zo]
  rw[e1] at this;have e2:(λi:Nat=>z.cps[i]?)=λi:Nat=>z.cps.toList[i]?:=by funext i;simp
  rw[e2,this,gq (by simp[zo])];rfl
 rw[em];refine⟨?_,.str (T4 z),H2,I4.tok _,⟨_,rfl⟩,q⟩;show(T4 z).length<=_;rw[Kg];exact hz
end
theorem Ac8 {G:St}{Q:VK}(h:te G H λx H1=>∃z,x=.str z/\z.length<=sizeLine/\Q (.str (T4 z)) H1):Adl te G H Q:=h
inductive C6 (K:eh) (H:Hp):Nat->V->V->Prop where
 |flat {n:Nat} {x:V} (h:Dt x=true):C6 K H n x x
 |tup {n:Nat} {a b:fg} {xs ys:List V} (h1:SqT K H a xs) (h2:SqT K H b ys) (hl:xs.length=ys.length) (h:∀(j:Nat) (x y:V),xs[j]?=some x->ys[j]?=some y->C6 K H n x y):C6 K H (n+1) (.ref a) (.ref b)
 |lst {n:Nat} {a b:fg} {xs ys:List V} (h1:SqL K H a xs) (h2:SqL K H b ys) (hl:xs.length=ys.length) (h:∀(j:Nat) (x y:V),xs[j]?=some x->ys[j]?=some y->C6 K H n x y):C6 K H (n+1) (.ref a) (.ref b)
theorem sK {x:V}(h:Dt x=true):eqV x x=true:=by
 cases x<;>first|rfl|(simp[eqV];done)|cases h
theorem C6.flats {K:eh}{n:Nat}(h:xs.all Dt=true):∀(j:Nat) (x y:V),xs[j]?=some x->xs[j]?=some y->C6 K H n x y:=λj x y h1 h2=>by
 rw[h1] at h2;cases h2;exact .flat (oy.mp h x (gg h1))
theorem C6.tups {K:eh}{n:Nat}{a b:fg}(h1:SqT K H a xs)(h2:SqT K H b xs)(h:xs.all Dt=true):C6 K H (n+1) (.ref a) (.ref b):=.tup h1 h2 rfl (C6.flats h)
theorem Lm (ns:List Int):(ns.map V.int).all Dt=true:=by simp[oy,Dt]
section
variable {X:Cx} {pins:Za1} {G:St} {H:Hp} {s:fw}
theorem Iv {n:Nat}{e:Nat->Bool}(h:∀j,e j=true):(gp n).all e=true:=by simp[h]
mutual
theorem C6.eqAt (I:Inv X pins G H s):∀{n:Nat} {x y:V} {A:ji} {u v:fv},A.units+n<cLine->C6 X.K H n x y->A9 x u->A9 y v->yz A s u v true
 |_,_,_,A,u,v,hu,.flat h,ru,rv=>by
  have:=fC (A:=A) (s:=s) ru rv h h;rw[sK h] at this;exact this
 |n+1,.ref a,.ref b,A,u,v,hu,.tup (xs:=xs) (ys:=ys) h1 h2 hl h,ru,rv=>by
  cases ru;cases rv
  by_cases hab:a=b
  ·subst hab;exact ze _
  ·obtain⟨is,r1,p1,_⟩:=I.tuple h1
   obtain⟨js,r2,p2,_⟩:=I.tuple h2;have l1:=r1.length;have l2:=r2.length;have:=DP (A:=A) (e:=λ_=>true) p1 p2 (by omega (splitDisjunctions:=true)) λj a1 a2=>C6.items I (by show A.units+1+n<cLine;omega (splitDisjunctions:=true)) h r1 r2 j (by simpa using a1) (by simpa using a2);refine DA hab ?_;rw[Iv λ_=>rfl] at this
   simpa [<-l1,<-l2,hl] using this
 |n+1,.ref a,.ref b,A,u,v,hu,.lst (xs:=xs) (ys:=ys) h1 h2 hl h,ru,rv=>by
  cases ru;cases rv
  by_cases hab:a=b
  ·subst hab;exact ze _
  ·obtain⟨is,r1,p1,_⟩:=I.list h1
   obtain⟨js,r2,p2,_⟩:=I.list h2;have l1:=r1.length;have l2:=r2.length;have:=yv (A:=A) (e:=λ_=>true) p1.isList p2.isList (by simp;omega (splitDisjunctions:=true)) (by omega (splitDisjunctions:=true)) λj a1 a2=>C6.items I (by show A.units+1+n<cLine;omega (splitDisjunctions:=true)) h r1 r2 j (by simpa using a1) (by simpa using a2);refine DA hab ?_;rw[Iv λ_=>rfl] at this;exact this
theorem C6.items (I:Inv X pins G H s){n:Nat}{A:ji}{xs ys:List V}{us vs:Za3}(hu:A.units+n<cLine)(h:∀(j:Nat) (x y:V),xs[j]?=some x->ys[j]?=some y->C6 X.K H n x y)(r1:Av xs us)(r2:Av ys vs)(j:Nat)(h1:j<us.length)(h2:j<vs.length) :
  yz A s us[j] vs[j] true:=by
 have l1:=r1.length;have l2:=r2.length;obtain⟨x,ex⟩:∃x,xs[j]?=some x:=⟨_,fc (by omega (splitDisjunctions:=true))⟩;obtain⟨y,ey⟩:∃y,ys[j]?=some y:=⟨_,fc (by omega (splitDisjunctions:=true))⟩;obtain⟨u,eu,ru⟩:=r1.get ex;obtain⟨v,ev,rv⟩:=r2.get ey;rw[fc h1] at eu;rw[fc h2] at ev;cases eu;cases ev;exact C6.eqAt I hu (h j x y ex ey) ru rv
end
end
def jO (K:eh)(r:Bool):R2:=λx y H Q=>∃a b,x=.ref a/\y=.ref b/\C6 K H 60 x y/\Q (.bl r) H
section
variable {X:Cx}
theorem Af0 (hu:X.A.units+60<cLine):OpR X (compareOp .Eq) (jO X.K true):=by
 intro pins s G H x y v u Q I rx ry h;obtain⟨a,b,rfl,rfl,hs,q⟩:=h;cases rx;cases ry
 cases hs with
 |flat h=>cases h
 | @tup n _ _ xs ys h1 h2 hl h=>
  obtain⟨is,r1,p1,_⟩:=I.tuple h1;obtain⟨js,r2,p2,_⟩:=I.tuple h2;have l1:=r1.length;have l2:=r2.length;have:=DP (A:=X.A) (e:=λ_=>true) p1 p2 (by lia) λj a1 a2=>C6.items I (by show X.A.units+1+59<cLine;lia) h r1 r2 j (by simpa using a1) (by simpa using a2);rw[Iv λ_=>rfl] at this;refine this _ _ _ _ ⟨.bl true,H,I,?_,q⟩;simp[A9,<-l1,<-l2,hl]
 | @lst n _ _ xs ys h1 h2 hl h=>
  obtain⟨is,r1,p1,_⟩:=I.list h1;obtain⟨js,r2,p2,_⟩:=I.list h2;have l1:=r1.length;have l2:=r2.length;have:=yv (A:=X.A) (e:=λ_=>true) p1.isList p2.isList (by simp;lia) (by lia) λj a1 a2=>C6.items I (by show X.A.units+1+59<cLine;lia) h r1 r2 j (by simpa using a1) (by simpa using a2);rw[Iv λ_=>rfl] at this;exact this _ _ _ _ ⟨.bl true,H,I,rfl,q⟩
theorem iH (hu:X.A.units+60<cLine):OpR X (compareOp .NotEq) (jO X.K false):=by
 intro pins s G H x y v u Q I rx ry h;obtain⟨a,b,rfl,rfl,hs,q⟩:=h;cases rx;cases ry
 cases hs with
 |flat h=>cases h
 | @tup n _ _ xs ys h1 h2 hl h=>
  obtain⟨is,r1,p1,_⟩:=I.tuple h1;obtain⟨js,r2,p2,_⟩:=I.tuple h2;have l1:=r1.length;have l2:=r2.length;have:=KN (A:=X.A) (e:=λ_=>true) p1 p2 (by lia) λj a1 a2=>C6.items I (by show X.A.units+1+59<cLine;lia) h r1 r2 j (by simpa using a1) (by simpa using a2);rw[Iv λ_=>rfl] at this;refine this _ _ _ _ ⟨.bl false,H,I,?_,q⟩;simp[A9,<-l1,<-l2,hl]
 | @lst n _ _ xs ys h1 h2 hl h=>
  obtain⟨is,r1,p1,_⟩:=I.list h1;obtain⟨js,r2,p2,_⟩:=I.list h2;have l1:=r1.length;have l2:=r2.length;have:=KO (A:=X.A) (e:=λ_=>true) p1.isList p2.isList (by simp;lia) (by lia) λj a1 a2=>C6.items I (by show X.A.units+1+59<cLine;lia) h r1 r2 j (by simpa using a1) (by simpa using a2);rw[Iv λ_=>rfl] at this;exact this _ _ _ _ ⟨.bl false,H,I,rfl,q⟩
end
theorem gN {K:eh}{Q:VK}{a b:fg}{r:Bool}(h:C6 K H 60 (.ref a) (.ref b))(q:Q (.bl r) H):jO K r (.ref a) (.ref b) H Q:=⟨a,b,rfl,rfl,h,q⟩
theorem xC {k:Nat}(hr:Bv k A):A.units+60<cLine:=by have:=hr.units;lia
def eqL (xs ys:List V):Bool:=decide (xs.length=ys.length)&&(gp xs.length).all λj=>eqV (xs.getD j .non) (ys.getD j .non)
def Aej (K:eh)(n:Bool):R2:=λx y H Q=>∃a b xs ys,x=.ref a/\y=.ref b/\SqL K H a xs/\SqL K H b ys/\xs.all Dt=true/\ys.all Dt=true/\Q (.bl (n != eqL xs ys)) H
section
variable {X:Cx} {pins:Za1} {G:St} {H:Hp} {s:fw}
theorem oS (f1:xs.all Dt=true)(f2:ys.all Dt=true)(r1:Av xs us)(r2:Av ys vs)(j:Nat)(h1:j<us.length)(h2:j<vs.length) :
  yz A s us[j] vs[j] (eqV (xs.getD j .non) (ys.getD j .non)):=by
 have l1:=r1.length;have l2:=r2.length;have e1:xs[j]?=some (xs[j]'(by lia)):=fc _;have e2:ys[j]?=some (ys[j]'(by lia)):=fc _;obtain⟨u,eu,ru⟩:=r1.get e1;obtain⟨v,ev,rv⟩:=r2.get e2;rw[fc h1] at eu;rw[fc h2] at ev;cases eu;cases ev;simp only[jy,e1,e2,wx];exact fC ru rv (oy.mp f1 _ (gg e1)) (oy.mp f2 _ (gg e2))
end
section
variable {X:Cx}
theorem Acu (hu:X.A.units+60<cLine):OpR X (compareOp .Eq) (Aej X.K false):=by
 intro pins s G H x y v u Q I rx ry h;obtain⟨a,b,xs,ys,rfl,rfl,h1,h2,f1,f2,q⟩:=h;cases rx;cases ry;obtain⟨is,r1,p1,_⟩:=I.list h1;obtain⟨js,r2,p2,_⟩:=I.list h2;have l1:=r1.length;have l2:=r2.length
 by_cases hl:xs.length=ys.length
 ·have:=yv (A:=X.A) (e:=λj=>eqV (xs.getD j .non) (ys.getD j .non)) p1.isList p2.isList (by simp;lia) (by lia) λj a1 a2=>oS (s:=s) f1 f2 r1 r2 j (by simpa using a1) (by simpa using a2)
  refine this _ _ _ _ ⟨.bl (false != eqL xs ys),H,I,?_,q⟩;unfold eqL;rw[decide_eq_true hl];simp[A9,<-l1]
 ·have:=MX (A:=X.A) p1.isList p2.isList (by simp;lia) (by lia)
  refine this _ _ _ _ ⟨.bl (false != eqL xs ys),H,I,?_,q⟩;unfold eqL;rw[decide_eq_false hl];simp[A9]
end
theorem sD (ns ms:List Int):eqL (ns.map V.int) (ms.map V.int)=decide (ns=ms):=by
 unfold eqL;rw[fb,fb]
 by_cases hl:ns.length=ms.length
 ·rw[decide_eq_true hl,Bool.true_and]
  by_cases h:ns=ms
  ·subst h
   rw[decide_eq_true rfl,oy];intro j hj;have hj:j<ns.length:=kh.mp hj;simp[jy,hj,eqV]
  ·rw[decide_eq_false h]
   refine wu.mpr λhc=>h (AO hl λj h1 h2=>?_);have:=oy.mp hc j (kh.mpr h1);simp[jy,h1,h2,eqV] at this;exact this
 ·rw[decide_eq_false hl,IJ,decide_eq_false]
  intro e;exact hl (by rw[e])
theorem yT {K:eh}{Q:VK}{a b:fg}{ms:List Int}(h1:SqL K H a (ns.map V.int))(h2:SqL K H b (ms.map V.int))(q:Q (.bl (decide (ns=ms))) H):Aej K false (.ref a) (.ref b) H Q:=by
 refine⟨a,b,_,_,rfl,rfl,h1,h2,Lm _,Lm _,?_⟩;rw[sD];cases hd:decide (ns=ms)<;>(rw[hd] at q;exact q)
theorem Uk (lo hi:Int):lu lo hi (-1)=((lo-hi).toNat:Int):=by
 unfold lu;rw[if_neg (by lia)]
 by_cases h:lo>hi
 ·rw[if_pos h]
  rw[show(-(-1):Int)=1 by decide,KC];lia
 ·rw[if_neg h]
  lia
theorem fI {lo hi:Int}(h1:-(2 ^ 40)<=lo)(h2:lo<2 ^ 40)(h3:-(2 ^ 40)<=hi)(h4:hi<2 ^ 40):ua lo hi (-1)=true:=by
 unfold ua;rw[Uk,if_neg (by lia)];simp only[yy,ky,BK,decide_eq_true_eq,beq_iff_eq];refine⟨⟨⟨⟨?_,?_⟩,?_⟩,?_⟩,.inr ?_⟩<;>lia
section
variable {X:Cx} {tg:jc}
def yW (ta:TA):TI:=λG H R=>ta G H λvs H1=>∃i j:Int,vs=[.int i,.int j,.int (-1)]/\(-(2 ^ 40)<=i/\i<2 ^ 40/\-(2 ^ 40)<=j/\j<2 ^ 40)/\R (Wd i (-1) (i-j).toNat) H1
theorem On {a b c:jc}{ta:TA}{p:Pos}(hg:Gl X "range")(hm:X.mg "range"=none)(ha:PA X [a,b,c] ta)(hs:autoParam (starEach [a,b,c] X.env=[(false,eval a X.env),(false,eval b X.env),(false,eval c X.env)]) QD)
  (hs2:autoParam (starEach [b,c] X.env=[(false,eval b X.env),(false,eval c X.env)]) QD):PI X tg (.Call (.Name "range" p) [a,b,c] [] pos) (yW ta):=by
 intro pins s G H R I h;refine Call_ (Fv I hg hm boot_range (j2 (thA ha I h λus s1 vs H1 I1 r1 q1=>?_) (by rw[hs,hs2]) (by rw[hs2];rfl)));obtain⟨i,j,e,⟨q1,q2,q3,q4⟩,q⟩:=q1;subst e
 cases r1 with
 |cons r rr=>
  cases rr with
  |cons r' rr=>
   cases rr with
   |cons r'' rr=>
    cases rr;obtain⟨t,rfl⟩:=r;obtain⟨t',rfl⟩:=r';obtain⟨t'',rfl⟩:=r'';refine NS (by lia) ?_ (.inl (xg (by lia)));refine AT (DW ..) (fI (by lia) (by lia) (by lia) (by lia)) ?_;have I2:Inv X pins G H1 { s1 with heap:=s1.heap.push { cls:=.type "range",data:=.fields #[.int i t,.int j t',.int (-1) t''] },toks:=s1.toks }:=I1.kept λb o e=>fh _ e;refine⟨_,[_],_,_,H1,rfl,I2.kept (t':=s1.toks) λb o e=>fh _ e,Pn _ i (-1) (i-j).toNat,?_,λb hb=>?_,q⟩
    ·have e1:i+((0:Nat):Int)*(-1)=i:=by simp
     have e2:(((i-j).toNat:Nat):Int)-((0:Nat):Int)=lu i j (-1):=by rw[Uk];simp
     show zu _ _ (i+((0:Nat):Int)*(-1)) ((((i-j).toNat:Nat):Int)-((0:Nat):Int)) (-1);rw[e1,e2];exact iq _ rfl
    ·have e:=gw.mp hb
     subst e;exact I2.fpOk (fk _) (I2.hok.fresh (fk _))
theorem Ab5 {tA:TA}{G:St}{R:It->Hp->Prop}(h:tA G H λvs H1=>∃i j:Int,vs=[.int i,.int j,.int (-1)]/\(-(2 ^ 40)<=i/\i<2 ^ 40/\-(2 ^ 40)<=j/\j<2 ^ 40)/\R (Wd i (-1) (i-j).toNat) H1):yW tA G H R:=h
def Abj:V->List V->Hp->VK->Prop:=λx vs H Q=>∃(l:fg) (ns:List Int) (k:Int) (j:Nat),x=.ref l/\vs=[.int k]/\H l=some (.lst (ns.map V.int))/\ns[j]?=some k/\(∀i:Nat,i<j->ns[i]?≠some k)/\Q (.int (j:Nat)) H
theorem R0:MtM X "list.index" Abj:=by
 intro pins s G H x vs v us Q I rx rv h;obtain⟨l,ns,k,j,rfl,rfl,hH,hj,hno,q⟩:=h;cases rx;obtain⟨u,rfl,t,rfl⟩:=Fm rv;obtain⟨z,its,n,r,hl,e⟩:=I.lstM hH;have fl:=Lm ns;have hjl:=(ge.mp hj).1;have hln:ns.length=its.length:=by rw[<-hl,fb]
 have at':∀i (hi:i<its.length),eqU (.int k) its[i]=decide (ns[i]?=some k):=λi hi=>by
  have e1:(ns.map V.int)[i]?=some (.int (ns[i]'(by lia))):=by rw[gd,fc (by lia)];rfl
  obtain⟨u,eu,ru⟩:=r.get e1;rw[fc hi] at eu;cases eu;rw[Rq ru rfl,fc (by lia)];show(ns[i]==k)=decide (some ns[i]=some k)
  by_cases h:ns[i]=k
  ·rw[decide_eq_true (congrArg some h)]
   simpa using h
  ·rw[decide_eq_false λz=>h (fq z)]
   simpa using h
 have sl:=Jt;refine ub IH ⟨_,e,rfl⟩ HV (GZ _ _)
  (FF l its.toArray n none #[] (.int k t) (eqU (.int k)) j (by simp;lia) (by rw[fb] at z;lia) ?_ ?_) ⟨e,λy hy=>Ix (x:=.int k) (v:=.int k t) ⟨t,rfl⟩ rfl r fl y (by simpa using hy),?_⟩
 ·show eqU (.int k) its[j]=true
  rw[at' j (by lia),decide_eq_true hj]
 ·intro i hi hlt
  show eqU (.int k) its[i]=false;rw[at' i (by simpa using hi),decide_eq_false (hno i hlt)]
 ·exact⟨.int j,H,I.tok _,⟨_,rfl⟩,q⟩
end
section
variable {prog:gv} {w:ir} {A:ji} {E:Za0} {s:fw}
theorem L5 {t sl:fg}{items:Array fv}{vl vu:fv}{lo hi:Option Int}{Q:Za0}(ht:IsTup s.heap t items)(hs:s.heap.IsSliceOf sl vl vu .none)(pl:zw vl lo)(pu:zw vu hi)
  (h1:HT.sIx items.size 0 lo=0)(h2:HT.sIx items.size items.size hi=items.size)(h:Q (.ref t) s):wpAny (model prog w) A (getItem (.ref t) (.ref sl)) Q E s:=by
 obtain⟨os,hos,hcs,hds⟩:=id hs;have hTs:s.TypeIs (.ref sl) "slice":=⟨os,hos,hcs⟩;unfold getItem
 try with_reducible refine wpAny_holding ?_
 first|refine wpAny_bind (ft ?_)|skip
 refine wpAny_bind (IV ht.typeIs (by decide) ?_);refine wpAny_bind (uh (name:=me "__getitem__") ht.typeIs lw
  (vq lw ht.typeIs entry_tuple_getitem ?_ (IN _ _)))
 show wpAny _ _ (zb (.ref t) >>= _) _ _ s;refine wpAny_bind (MS ht ?_);refine wpAny_bind (yo hTs ?_);rw[if_pos (by decide)];refine wpAny_bind (HT.sliceApplied_gen hs pl pu ?_);show wpAny _ _ (if(((HT.sIx items.size 0 lo:Nat):Int)==0&&(1:Int)==1&&(HT.sIx items.size items.size hi-HT.sIx items.size 0 lo)==items.size)=true then _ else _) _ _ s;rw[if_pos (by rw[h1,h2];simp)];refine wpAny_bind (wpAny_bind (yo ht.typeIs (ft ?_)));rw[if_pos (by decide)];refine wpAny_bind (qr ?_);exact wpAny_bind (ft (ft ⟨_,rfl,ft h⟩))
end
section
variable {X:Cx}
def Ade (K:eh):V->Option Int->Option Int->Hp->VK->Prop:=λx lo hi H Q=>∃a xs,x=.ref a/\SqT K H a xs/\∀p H',Ak H H'->SqT K H' p (G3 xs lo hi)->Q (.ref p) H'
theorem kY:SlR X (Ade X.K):=by
 intro pins s G H x v vl vu lo hi sl Q I rx hs pl pu h;obtain⟨a,xs,rfl,hx,q⟩:=h
 by_cases hw:HT.sIx xs.length 0 lo=0/\HT.sIx xs.length xs.length hi=xs.length
 ·cases rx
  obtain⟨its,r,ht,hz⟩:=I.tuple hx;have hlen:its.toArray.size=xs.length:=by rw[gn];exact r.length.symm
  refine⟨"tuple",_,lw.lookup,ht.typeIs,?_⟩;refine L5 ht hs pl pu (by rw[hlen];exact hw.1) (by rw[hlen];exact hw.2) ⟨.ref a,H,I,rfl,q a H (Ak.refl _) ?_⟩;have:G3 xs lo hi=xs:=by
   unfold G3;rw[hw.1,hw.2];simp
  rw[this];exact hx
 ·exact Aa4 pins s G H _ v vl vu lo hi sl Q I rx hs pl pu ⟨a,xs,rfl,hx,hw,λp hp=>q p _ (Ag hp) (SqT.of Ac)⟩
theorem Bg {x:Str}{i:Int}(hg:Gl X x)(hm:∃t,X.mg x=some (.int i t))(hd:autoParam ((x==("__debug__":Str))=false) QF):PE X (.Name x pos) (tC (.int i)):=by
 obtain⟨t,h⟩:=hm;exact Ce hg h ⟨t,rfl⟩ hd
end
section
variable {G:St} {H:Hp} {D:Iw} {Q:VK} {te:TE} {QB:Bool->Hp->Prop} {tA:TA}
theorem Ad3 {K:eh}{T:String}{r:V->List V->Hp->VK->Prop}(h:te G H λx H1=>tyV K T x H1/\r x [] H1 Q):Afb K T r te G H Q:=h
theorem Ad8 {z:Str}{lo hi:Option Int}(h1:z.length<=sizeLine)(h:Q (.str (oI z lo hi)) H):Aef (.str z) lo hi H Q:=⟨z,rfl,h1,h⟩
end
theorem Adi {A B:Prop}(h:B):if(!true)=true then A else B:=by
 rw[if_neg (by decide)];exact h
theorem Adk {A B:Prop}(h:A):if(!false)=true then A else B:=by
 rw[if_pos (by decide)];exact h
def SameBut (x:fg)(H H':Hp):Prop:=∀b o,b≠x->H b=some o->H' b=some o
theorem Ak.but {x:fg}(h:Ak H H'):SameBut x H H':=λb o _ e=>h b o e
theorem SameBut.trans {x:fg}(a:SameBut x H H1)(b:SameBut x H1 H2):SameBut x H H2:=λc o n h=>b c o n (a c o n h)
def zV (H:Hp)(x:fg):Prop:=∀u,¬ Rd H x (.tup u)/\¬ Rd H x (.lst u)
theorem oQ {x:fg}{fs:List (Str×V)}(h:H x=some (.ins C dx fs)):zV H x:=λu=>by
 constructor<;>(rintro(e|⟨o,e⟩)<;>(rw[h] at e;cases e))
theorem Dq {x:fg}{o:HO}:SameBut x H (upd H x o):=λb u n e=>by rw[Ai n];exact e
theorem Abp {fr:St}{tc:TT}{Q:VK}(n:Nat)(item:Nat->V)(Pv:Nat->List V->Hp->Prop)(h0:∀H,Ak H1 H->Pv 0 [] H)
  (stab:∀i ys H D xs o,H D=some (.lst xs)->Pv i ys H->Pv i ys (upd H D o))(hz:∀i ys H,i<n->Pv i ys H->ys.length<sizeLine)
  (hgo:∀i H,i<n->Ak H1 H->J.go i H)(hy:∀i H x H',i<n->Ak H1 H->J.yld i H x H'->x=item i/\H'=H)(hst:∀H,Ak H1 H->J.stop n H)
  (turn:∀i ys H (A:VK) (R:Hp->Prop),i<n->Ak H1 H->Pv i ys H->(∀y H',Ak H H'->Pv (i+1) (ys++[y]) H'->A y H')->tc (some (item i)::fr) H λb H3=>if b=true then te (some (item i)::fr) H3 A else R H3)
  (fin:∀D ys H,H1 D=none->Ak H1 H->Pv n ys H->H D=some (.lst ys)->Q (.ref D) H):P2 J H1 fr tc te Q:=by
 intro D hD;refine⟨λi m H=>i<=n/\m=n-i/\Ak H1 H/\∃ys,H D=some (.lst ys)/\Pv i ys H,⟨n,i6 _,rfl,Ag hD,[],Ac,h0 _ (Ag hD)⟩,?_⟩;rintro i m H ⟨hi,rfl,sm,ys,hl,hp⟩
 by_cases h:i=n
 ·subst h
  exact .inl ⟨hst H sm,fin D ys H hD sm hp hl⟩
 ·have hlt:i<n:=ss hi h
  refine .inr ⟨hgo i H hlt sm,λx H' hyl=>?_⟩;obtain⟨rfl,rfl⟩:=hy i H x H' hlt sm hyl;refine turn i ys H' _ _ hlt sm hp (λy H4 s4 hp4=>?_);refine⟨ys,s4 _ _ hl,hz i ys _ hlt hp,n-(i+1),by lia,by lia,rfl,λb u e=>?_,ys++[y],Ac,stab _ _ _ _ _ _ (s4 _ _ hl) hp4⟩;rw[Ai (Al e hD)];exact s4 _ _ (sm _ _ e)
theorem Ux {lo st:Int}{n:Nat}{fr:St}{tc:TT}{Q:VK}(Pv:Nat->List V->Hp->Prop)(h0:∀H,Ak H1 H->Pv 0 [] H)
  (stab:∀i ys H D xs o,H D=some (.lst xs)->Pv i ys H->Pv i ys (upd H D o))(hz:∀i ys H,i<n->Pv i ys H->ys.length<sizeLine)
  (turn:∀(i:Nat) ys H (A:VK) (R:Hp->Prop),i<n->Ak H1 H->Pv i ys H->(∀y H',Ak H H'->Pv (i+1) (ys++[y]) H'->A y H')->tc (some (.int (lo+i*st))::fr) H λb H3=>if b=true then te (some (.int (lo+i*st))::fr) H3 A else R H3)
  (fin:∀D ys H,H1 D=none->Ak H1 H->Pv n ys H->H D=some (.lst ys)->Q (.ref D) H):P2 (Wd lo st n) H1 fr tc te Q:=
 Abp n (λi=>.int (lo+i*st)) Pv h0 stab hz (λi H hi _=>hi) (λi H x H' _ _ h=>⟨h.2,h.1⟩) (λH _=>fk n) turn fin
theorem vQ {sc:ol}{s0:fw}{H0:Hp}{x:Str}{N2:Za6}{px:Pos}{elt iter:jc}{ifs:List jc}{tc:TT} 
  (hc:X.calm=true)(L:∀QX,B4 N QX scope x N2 ix)(hi:PI (Do X sc N C s0 H0 fp) (.Name x px) iter wi)
  (hif:∀C' s' H' fp',PIf (Do (Do X sc N C s0 H0 fp) scope N2 C' s' H' fp') ifs tc)(he:∀C' s' H' fp',PE (Do (Do X sc N C s0 H0 fp) scope N2 C' s' H' fp') elt te)
  (hs:autoParam (∀z,foldedSetIterable iter (Do X sc N C s0 H0 fp).env z=pure z) QJ):PE (Do X sc N C s0 H0 fp) (.ListComp elt [⟨.Name x px,iter,ifs,0⟩] scope pos) (tLc wi ix tc te):=
 Sn (X:=Do X sc N C s0 H0 fp) hc (L _) hi hif he hs
theorem xX (K:eh){l:jc}{tl:TE}(hl:PE X l tl)(h:autoParam (X.K=K) QD):PI X tg l (Ab1 K tl):=by
 subst h;exact sI hl
theorem oP (K:eh)(hc:X.calm=true)(h:autoParam (X.K=K) QD):Ey X (.builtin "sum") (Ad7 K):=by
 subst h;exact vH hc
theorem tD (K:eh)(h:autoParam (X.K=K) QD):SlR X (Ade K):=by
 subst h;exact kY
theorem Ae2:bootBuiltins "abs"=some (.builtin "abs"):=by decide +kernel
def lM (ns:List Int)(m:Int):Prop:=m∈ns/\∀a∈ns,m<=a
def Xr (ns:List Int)(m:Int):Prop:=m∈ns/\∀a∈ns,a<=m
section
variable {X:Cx}
def Adw (K:eh):List V->Hp->VK->Prop:=λxs H Q=>∃(p:fg) (ns:List Int),xs=[.ref p]/\SqL K H p (ns.map V.int)/\ns≠[]/\∀m,lM ns m->Q (.int m) H
def Ael (K:eh):List V->Hp->VK->Prop:=λxs H Q=>∃(p:fg) (ns:List Int),xs=[.ref p]/\SqL K H p (ns.map V.int)/\ns≠[]/\∀m,Xr ns m->Q (.int m) H
theorem M1 {G:St}{p:fg}(I:Inv X pins G H s)(hp:SqL X.K H p (ns.map V.int)):∃ys:Array (Int×Tok),s.heap.IsList p (intItems ys)/\ns=ys.toList.map (·.1):=by
 obtain⟨its,r,pl,_⟩:=I.list hp;have hi:=Ry r;obtain⟨ys,e⟩:=hi.allInts.items;have hl:=pl.isList;rw[e] at hl;exact⟨ys,hl,by rw[<-hi.numsOf,<-MU,<-e]⟩
theorem sQ {ys:Array (Int×Tok)}{v:fv}(hz:0<ys.size)(hv:(intItems ys)[argBest (λi j=>decide (numAt ys i<numAt ys j)) (ys.size-1)]?=some v):∃m t,v=.int m t/\lM (ys.toList.map (·.1)) m:=by
 obtain⟨t,rfl⟩:=HQ hv;obtain⟨h1,h2⟩:=argBest_lt (numAt ys) (ys.size-1);refine⟨_,t,rfl,?_,λa ha=>?_⟩
 ·rw[HN]
  exact getD_mem (by rw[fb,gj];lia)
 ·obtain⟨j,hj,rfl⟩:=mem_getD ha
  rw[fb,gj] at hj;rw[<-HN];exact h2 j (by lia)
theorem kH {ys:Array (Int×Tok)}{v:fv}(hz:0<ys.size)(hv:(intItems ys)[argBest (λi j=>decide (numAt ys i>numAt ys j)) (ys.size-1)]?=some v):∃m t,v=.int m t/\Xr (ys.toList.map (·.1)) m:=by
 obtain⟨t,rfl⟩:=HQ hv;obtain⟨h1,h2⟩:=argBest_gt (numAt ys) (ys.size-1);refine⟨_,t,rfl,?_,λa ha=>?_⟩
 ·rw[HN]
  exact getD_mem (by rw[fb,gj];lia)
 ·obtain⟨j,hj,rfl⟩:=mem_getD ha
  rw[fb,gj] at hj;rw[<-HN];exact h2 j (by lia)
theorem Tn {ys:Array (Int×Tok)}(e:ns=ys.toList.map (·.1))(h:ns≠[]):0<ys.size:=by
 rcases ql ys.size with z|z
 ·exfalso
  apply h;rw[e,BB (l:=ys.toList) (by rw[gj];exact z)];rfl
 ·exact z
theorem oY (hc:X.calm=true):Ey X (.builtin "min") (Adw X.K):=by
 intro pins s G H xs us Q I r h;obtain⟨p,ns,rfl,hp,hne,q⟩:=h;obtain⟨u,rfl,ru⟩:=Fm r;cases ru;obtain⟨ys,hl,e⟩:=M1 I hp;have hz:=Tn e hne;refine min_intList (I.ok.hd hc) hl hz λv h' tk hv hk=>?_;obtain⟨m,t,rfl,hm⟩:=sQ hz hv;exact⟨.int m,H,I.kept hk,⟨t,rfl⟩,q m (e▸hm)⟩
theorem U2 (hc:X.calm=true):Ey X (.builtin "max") (Ael X.K):=by
 intro pins s G H xs us Q I r h;obtain⟨p,ns,rfl,hp,hne,q⟩:=h;obtain⟨u,rfl,ru⟩:=Fm r;cases ru;obtain⟨ys,hl,e⟩:=M1 I hp;have hz:=Tn e hne;refine max_intList (I.ok.hd hc) hl hz λv h' tk hv hk=>?_;obtain⟨m,t,rfl,hm⟩:=kH hz hv;exact⟨.int m,H,I.kept hk,⟨t,rfl⟩,q m (e▸hm)⟩
end
section
variable {prog:gv} {w:ir} {A:ji} {R:yp->fw->Prop} {I S:fg} {fp wr:List fg} {n:Nat} {P:Nat->fv->Prop} {St:Nat->jo->Prop} {d:fv}
abbrev tU (I S:fg)(d:fv):Args:=⟨[.ref I,.none,.ref S],[(me "default",d)]⟩
end
section
variable {X:Cx} {x:Str} {p pos:Pos} {e:jc} {es:List jc} {kws:List BR} {t tk:TA} {id:String} {ks:Za6}
def qU (X:Cx)(f:fv)(ks:Za6)(r:List V->List V->Hp->VK->Prop):Prop:=
 ∀(pins:Za1) (s:fw) (G:St) (H:Hp) (xs zs:List V) (us ws:Za3) (Q:VK),Inv X pins G H s->Av xs us->Av zs ws->r xs zs H Q->wpAny (model X.prog X.w) X.A (call f us (ks.zip ws)) (EP X pins G Q) X.xe s
def Ae8 (r:List V->List V->Hp->VK->Prop)(t tk:TA):TE:=λG H Q=>t G H λvs H1=>tk G H1 λzs H2=>r vs zs H2 Q
theorem nL {r:List V->List V->Hp->VK->Prop}(hc:qU X (.builtin id) ks r)(hg:Gl X x)(hm:X.mg x=none)(hv:bootBuiltins x=some (.builtin id))(ha:PA X (e::es) t)(hkw:PK X kws tk)(hks:autoParam ((backToKw pos (keywordEach kws X.env)).filterMap (·.1)=ks) QD)
  (hn:autoParam (x≠"__name__") QF)(hdb:autoParam ((x==("__debug__":Str))=false) QF)(he:autoParam (backTo pos (starEach (e::es) X.env)=(false,eval e X.env)::backTo pos (starEach es X.env)) QD)(hpl:autoParam ((backTo pos (starEach (e::es) X.env)).any (·.1)=false) QD)
  (hall:autoParam ((backToKw pos (keywordEach kws X.env)).all (·.1.isSome)=true) QD)(hnone:autoParam ((backToKw pos (keywordEach kws X.env)).any (·.1.isNone)=false) QD):PE X (.Call (.Name x p) (e::es) kws pos) (Ae8 r t tk):=by
 k_in;refine wpAny_Call_Name_kw (Fv I hg hm hv ?_ hn hdb);refine callWith_kw (thA ha I h λus s1 vs H1 I1 r1 q1=>?_) he hpl hall hnone;refine thn (hkw pos pins s1 G H1 _ I1 q1) λws s2 ⟨zs,H2,I2,r2,q2⟩=>?_;rw[hks];exact hc pins s2 G H2 vs zs us ws Q I2 r1 r2 q2
theorem Ae0 {r:List V->List V->Hp->VK->Prop}{G:St}{Q:VK}(h:t G H λvs H1=>tk G H1 λzs H2=>r vs zs H2 Q):Ae8 r t tk G H Q:=h
end
section
variable {prog:gv} {w:ir} {A:ji} {R:yp->fw->Prop} {I S:fg} {fp wr:List fg} {n:Nat} {P:Nat->fv->Prop} {St:Nat->jo->Prop} {d:fv}
theorem Lw:(toString "max"++toString ".loop":String)="max.loop":=by decide
theorem wW (W:Walks prog w A.in1 I fp wr n P St)(bt:Nat->Nat->Bool)(hc:CmpOf prog w A.in1 .Gt P bt)(nS:S∉fp):∀(k j:Nat) (s:fw) (b:fv) (c:Nat),n-(j+1)=k->j+1<=n->St (j+1) s.heap->P (argBest bt j) b ->
  s.heap.get? S=some { cls:=.type "list",dict:=none,data:=.seq #[b,b] c,slots:=#[] } ->
  (∀v h' tk,P (argBest bt (n-1)) v->(∀a o,a∉wr->a≠S->s.heap.get? a=some o->h'.get? a=some o)->R (.ok (.ret v)) { s with heap:=h',toks:=tk })->codeAny (model prog w) A (.builtin "max.loop" (tU I S d)) R s:=by
 have nw:S∉wr:=λh=>nS (W.sub _ h);intro k
 induction k with
 |zero=>
  intro j s b c hk hj st hb eS hR;have hn:j+1=n:=by lia
  refine oq BV ?_;rw[ml qi _];show wpAny _ A.in1 (seqItems? (.ref S) >>= _) _ _ s;refine wpAny_bind (uo eS rfl ?_);show wpAny _ A.in1 (tryCatch (pyNext (.ref I)) _ >>= _) _ _ s;refine wpAny_bind (rj (W.done s _ _ (hn▸st) λh' tk kp=>?_));have eS':=kp S _ nw eS;show wpAny _ A.in1 (updateSeq S (λ_=>#[]) >>= _) _ _ _;refine wpAny_bind ?_;refine DO eS' rfl (wpAny_bind (zm (ft ?_)));exact hR b _ tk (by rw[<-hn];exact hb) λa o aw aS e=>(ko _ _ (qh aS)).trans (kp a o aw e)
 |succ k ih=>
  intro j s b c hk hj st hb eS hR;have hn:j+1<n:=by lia
  refine oq BV ?_;rw[ml qi _];show wpAny _ A.in1 (seqItems? (.ref S) >>= _) _ _ s;refine wpAny_bind (uo eS rfl ?_);show wpAny _ A.in1 (tryCatch (pyNext (.ref I)) _ >>= _) _ _ s;refine wpAny_bind (rj (W.item (j+1) s _ _ hn st λv h' tk hv st' kp=>?_));have eS':=kp S _ nw eS;show wpAny _ A.in1 (tryCatch (holding [v,v] (richCompare .Gt v b >>= _)) _ >>= _) _ _ _;refine wpAny_bind (rj (wpAny_holding (wpAny_bind (hc (j+1) (argBest bt j) v b _ _ _ hv hb ?_))));refine wpAny_bind (wpAny_holding (p9 ?_));refine wpAny_bind (zm (ft ?_))
  cases t:bt (j+1) (argBest bt j) with
  |true=>
   simp only[if_true];refine wpAny_bind ?_;refine DO eS' rfl (wpAny_bind (zm ?_));rw[Lw];refine ft ⟨ra qi _,ih (j+1) _ v _ (by lia) hn (W.frame _ _ _ st' λa af o e=>?_) (by simp only[argBest,t,if_true];exact hv) (o6 _ eS' rfl) λv' h2 tk2 hv' kp2=>?_⟩
   ·exact(ko _ _ (λz:S=a=>nS (by rw[z];exact af))).trans e
   ·exact hR v' h2 tk2 hv' λa o aw aS e=>kp2 a o aw aS ((ko _ _ (qh aS)).trans (kp a o aw e))
  |false=>
   simp only[mj,if_false];refine wpAny_bind (zm ?_);rw[Lw];refine ft ⟨ra qi _,ih (j+1) _ b c (by lia) hn st' (by simp only[argBest,t,mj,if_false];exact hb) eS' λv' h2 tk2 hv' kp2=>?_⟩;exact hR v' h2 tk2 hv' λa o aw aS e=>kp2 a o aw aS (kp a o aw e)
theorem fJ (W:Walks prog w A.in1 I fp wr n P St)(bt:Nat->Nat->Bool)(hc:CmpOf prog w A.in1 .Gt P bt)(nS:S∉fp){c:Nat}(st:St 0 s.heap)(eS:s.heap.get? S=some { cls:=.type "list",dict:=none,data:=.seq #[] c,slots:=#[] })
  (h0:n=0->∀h' tk,(∀a o,a∉wr->a≠S->s.heap.get? a=some o->h'.get? a=some o)->R (.ok (.ret d)) { s with heap:=h',toks:=tk })
  (hR:0<n->∀v h' tk,P (argBest bt (n-1)) v->(∀a o,a∉wr->a≠S->s.heap.get? a=some o->h'.get? a=some o)->R (.ok (.ret v)) { s with heap:=h',toks:=tk }):codeAny (model prog w) A (.builtin "max.loop" (tU I S d)) R s:=by
 have nw:S∉wr:=λh=>nS (W.sub _ h);refine oq BV ?_;rw[ml qi _];show wpAny _ A.in1 (seqItems? (.ref S) >>= _) _ _ s;refine wpAny_bind (uo eS rfl ?_);show wpAny _ A.in1 (tryCatch (pyNext (.ref I)) _ >>= _) _ _ s;rcases ql n with hn|hn
 ·refine wpAny_bind (rj (W.done s _ _ (hn▸st) λh' tk kp=>?_))
  exact wpAny_bind (qr (ft (h0 hn h' tk λa o aw _ e=>kp a o aw e)))
 ·refine wpAny_bind (rj (W.item 0 s _ _ hn st λv h' tk hv st' kp=>?_))
  have eS':=kp S _ nw eS;show wpAny _ A.in1 (updateSeq S (λ_=>#[v,v]) >>= _) _ _ _;refine wpAny_bind ?_;refine DO eS' rfl ?_;rw[Lw];refine ft ⟨ra qi _,wW W bt hc nS _ 0 _ v _ rfl hn (W.frame _ _ _ st' λa af o e=>?_) hv (o6 _ eS' rfl) λv' h2 tk2 hv' kp2=>?_⟩
  ·exact(ko _ _ (λz:S=a=>nS (by rw[z];exact af))).trans e
  ·exact hR hn v' h2 tk2 hv' λa o aw aS e=>kp2 a o aw aS ((ko _ _ (qh aS)).trans (kp a o aw e))
end
section
variable {prog:gv} {w:ir} {A:ji} {E:Za0} {s:fw}
theorem oV (a v:fv):argsOk "max" ⟨[a],[(me "default",v)]⟩:=by unfold argsOk;kernel_rfl
theorem mP (d:fv):ym "max" ["key","default"] 0 ⟨[],[(me "default",d)]⟩=pure [none,some d]:=by kernel_rfl
theorem oH {l:fg}{ys:Array (Int×Tok)}{d:fv}{Q:Za0}(hh:A.handled=none)(hl:s.heap.IsList l (intItems ys))(h0:ys.size=0->∀h' tk,(∀b o,s.heap.get? b=some o->h'.get? b=some o)->Q d { s with heap:=h',toks:=tk })
  (h1:0<ys.size->∀v h' tk,(intItems ys)[argBest (λi j=>decide (numAt ys i>numAt ys j)) (ys.size-1)]?=some v->(∀b o,s.heap.get? b=some o->h'.get? b=some o)->Q v { s with heap:=h',toks:=tk }) :
  wpAny (model prog w) A (call (.builtin "max") [.ref l] [(me "default",d)]) Q E s:=by
 refine kmb_tree F.kind_max F.plain_max F.entry_max (oV _ _) ?_;show wpAny _ A.in1 (ym "max" ["key","default"] 0 ⟨[],[(me "default",d)]⟩ >>= _) _ _ s;refine wpAny_bind (zj (mP d) ?_);refine wpAny_bind (ft ?_);refine wpAny_bind (iter_intList hl λQR e st hfp hlI=>?_);subst e;have hsz:(intItems ys).size=ys.size:=by simp[intItems]
 refine wpAny_bind (oj ?_);rw[Lw];refine ft ⟨ra qi _,?_⟩;refine fJ (Walks.list (A:=A.in1) hh _ l hlI (intItems ys)) _ (CmpOf.ints_gt (numAt ys) (λ_ _=>HQ)) (λhm=>p8 _ (hfp _ hm)) ⟨st.1.at λo e=>fh _ e,st.2.push _⟩ (iq _ rfl) (λhz h' tk kp=>?_) (λhz v h' tk hv kp=>?_)
 ·refine h0 (by rw[<-hsz];exact hz) h' tk (old_kept λb o hb e=>kp b o hb (ig (gh e)) (fh _ e))
 ·rw[hsz] at hz
  refine h1 hz v h' tk (by simpa [intItems] using hv) (old_kept λb o hb e=>kp b o hb (ig (gh e)) (fh _ e))
end
section
variable {X:Cx}
def zC (K:eh):List V->List V->Hp->VK->Prop:=λxs zs H Q=>∃(p:fg) (ns:List Int) (d:V),xs=[.ref p]/\zs=[d]/\SqL K H p (ns.map V.int)/\(ns=[]->Q d H)/\∀m,Xr ns m->Q (.int m) H
theorem mH (hc:X.calm=true):qU X (.builtin "max") ["default"] (zC X.K):=by
 intro pins s G H xs zs us ws Q I r r2 h;obtain⟨p,ns,d,rfl,rfl,hp,q0,q1⟩:=h;obtain⟨u,rfl,ru⟩:=Fm r;obtain⟨u2,rfl,ru2⟩:=Fm r2;cases ru;obtain⟨ys,hl,e⟩:=M1 I hp;refine oH (I.ok.hd hc) hl (λhz h' tk hk=>?_) (λhz v h' tk hv hk=>?_)
 ·refine⟨d,H,I.kept hk,ru2,q0 ?_⟩
  rw[e,BB (l:=ys.toList) (by rw[gj];exact hz)];rfl
 ·obtain⟨m,t,rfl,hm⟩:=kH hz hv
  exact⟨.int m,H,I.kept hk,⟨t,rfl⟩,q1 m (e▸hm)⟩
end
end L2
end
section
namespace TW
def val:Za5->Nat
 |[]=>0
 |b::r=>b.toNat+2*val r
def plc:Nat->Za5->Za4
 |_,[]=>[]
 |k,b::r=>if b then k::plc (k+1) r else plc (k+1) r
theorem sZ:∀l:Za5,val l<2 ^ l.length
 |[]=>by simp[val]
 |b::r=>by
  have:=sZ r;simp only[val,gu,ya];have hb:b.toNat<=1:=DM b;lia
theorem Z6 (b:Bool):∀(l:Za5) (k:Nat),plc k (l++[b])=plc k l++(if b then[k+l.length] else[])
 |[],k=>by cases b<;>simp[plc]
 |a::r,k=>by
  cases a<;>simp[plc,Z6 b r,jv,uf 1]
theorem Kf:∀(l:Za5) (k:Nat),plc (k+1) l=(plc k l).map (·+1)
 |[],k=>rfl
 |a::r,k=>by cases a<;>simp[plc,Kf r]
theorem So:∀(l:Za5) (k:Nat),(plc k l).length=l.count true
 |[],k=>rfl
 |a::r,k=>by cases a<;>simp[plc,So r]
def pc (n:Nat):Nat:=if n=0 then 0 else n%2+pc (n/2)
termination_by n
decreasing_by lia
theorem Ri:pc 0=0:=by rw[pc];rfl
theorem Gy (n:Nat):pc n=n%2+pc (n/2):=by
 by_cases h:n=0
 ·subst h;simp[Ri]
 ·rw[pc,if_neg h]
theorem Mt:∀l:Za5,pc (val l)=l.count true
 |[]=>by simp[val,Ri]
 |b::r=>by
  rw[Gy];have e1:val (b::r)%2=b.toNat:=by simp only[val];have:=DM b;lia
  have e2:val (b::r)/2=val r:=by simp only[val];have:=DM b;lia
  rw[e1,e2,Mt r];cases b<;>simp[sf,uf]
theorem Afv (n:Nat):n%16%2=n%2:=zq n (by decide)
theorem Afm (n:Nat):n%16/2%2=n/2%2:=(congrArg (·%2) (wg n 2 8)).trans (zq _ (by decide))
theorem Afx (n:Nat):n%16/4%2=n/4%2:=(congrArg (·%2) (wg n 4 4)).trans (zq _ (by decide))
theorem Af3 (n:Nat):n%16/8%2=n/8%2:=(congrArg (·%2) (wg n 8 2)).trans (Nat.mod_mod _ _)
theorem Af7 (n:Nat):pc n=pc (n%16)+pc (n/16):=by
 have a:pc n=n%2+(n/2%2+(n/4%2+(n/8%2+pc (n/16)))):=by
  rw[Gy n,Gy (n/2),Gy (n/2/2),Gy (n/2/2/2)];simp only[yb]
 have b:pc (n%16)=n%16%2+(n%16/2%2+(n%16/4%2+(n%16/8%2+pc (n%16/16)))):=by
  rw[Gy (n%16),Gy (n%16/2),Gy (n%16/2/2),Gy (n%16/2/2/2)];simp only[yb]
 have c:pc (n%16/16)=0:=by
  rw[Nat.div_eq_of_lt (va n (by decide)),Ri]
 rw[a,b,c,Afv,Afm,Afx,Af3,p6,jv,jv,jv]
def Vn:Za4:=[0,1,1,2,1,2,2,3,1,2,2,3,2,3,3,4]
theorem sF:∀r:Nat,r<16->Vn[r]?=some (pc r):=by
 have h:∀b0 b1 b2 b3:Bool,Vn[val [b0,b1,b2,b3]]?=some ([b0,b1,b2,b3].count true):=by decide
 intro r hr;have e:r=val [r.testBit 0,r.testBit 1,r.testBit 2,r.testBit 3]:=by
  have:∀r:Fin 16,r.val=val [r.val.testBit 0,r.val.testBit 1,r.val.testBit 2,r.val.testBit 3]:=by decide
  exact this ⟨r,hr⟩
 rw[e,h,Mt]
def nth (n k:Nat):Option Nat:=
 if n=0 then none else if n%2=1 then(if k=0 then some 0 else(nth (n/2) (k-1)).map (·+1)) else(nth (n/2) k).map (·+1)
termination_by n
decreasing_by all_goals lia
theorem Sa (k:Nat):nth 0 k=none:=by rw[nth];rfl
theorem Zp (b:Bool)(m k:Nat):nth (b.toNat+2*m) k=if b then(if k=0 then some 0 else(nth m (k-1)).map (·+1)) else(nth m k).map (·+1):=by
 cases b with
 |false=>
  by_cases h:m=0
  ·subst h;simp[Sa]
  ·rw[nth,if_neg (by simp only[AS];lia),if_neg (by simp only[AS];lia)]
   simp only[AS,lx,mj,if_false];rw[show 2*m/2=m by lia]
 |true=>
  rw[nth,if_neg (by simp only[BJ];lia),if_pos (by simp only[BJ];lia)];have e:(true.toNat+2*m)/2=m:=by simp only[BJ];lia
  rw[e];simp
theorem Wj:∀(l:Za5) (k:Nat),nth (val l) k=(plc 0 l)[k]?
 |[],k=>by simp[val,plc,Sa]
 |b::r,k=>by
  simp only[val,Zp]
  cases b with
  |false=>simp[plc,Kf,Wj r]
  |true=>
   cases k with
   |zero=>simp[plc]
   |succ k=>simp[plc,Kf,Wj r]
def W6 (r:Nat):Za4:=(gp 4).filter λp=>decide (r/2 ^ p%2=1)
theorem vR:∀r:Nat,r<16->(W6 r).length=pc r:=by
 have h:∀b0 b1 b2 b3:Bool,(W6 (val [b0,b1,b2,b3])).length=([b0,b1,b2,b3].count true):=by decide
 intro r hr;have e:r=val [r.testBit 0,r.testBit 1,r.testBit 2,r.testBit 3]:=by
  have:∀r:Fin 16,r.val=val [r.val.testBit 0,r.val.testBit 1,r.val.testBit 2,r.val.testBit 3]:=by decide
  exact this ⟨r,hr⟩
 rw[e,h,Mt]
theorem jC:∀(w:Za5) (m k:Nat),nth (val w+2 ^ w.length*m) k=if k<w.count true then(plc 0 w)[k]? else(nth m (k-w.count true)).map (·+w.length)
 |[],m,k=>by simp[val]
 |b::r,m,k=>by
  have e:val (b::r)+2 ^ (b::r).length*m=b.toNat+2*(val r+2 ^ r.length*m):=by
   rw[val,gu,ya,Nat.mul_add,jv,AB (2 ^ r.length) 2,JF]
  have ih:=jC r m;rw[e,Zp]
  cases b with
  |false=>
   rw[if_neg im,ih,show(false::r).count true=r.count true by simp]
   by_cases h:k<r.count true
   ·rw[if_pos h,if_pos h]
    simp[plc,Kf]
   ·rw[if_neg h,if_neg h,BE]
    rfl
  |true=>
   rw[if_pos rfl,show(true::r).count true=r.count true+1 by simp]
   cases k with
   |zero=>rw[if_pos rfl,if_pos (JY _)];rfl
   |succ k=>
    rw[if_neg (Nat.succ_ne_zero k),su,ih]
    by_cases h:k<r.count true
    ·rw[if_pos h,if_pos (Nat.succ_lt_succ h)]
     simp[plc,Kf]
    ·rw[if_neg h,if_neg (λz=>h (Nat.lt_of_succ_lt_succ z)),Nat.add_sub_add_right,BE]
     rfl
theorem Aen (n k:Nat):nth n k=if k<pc (n%16) then(W6 (n%16))[k]? else(nth (n/16) (k-pc (n%16))).map (·+4):=by
 have h:∀b0 b1 b2 b3:Bool,W6 (val [b0,b1,b2,b3])=plc 0 [b0,b1,b2,b3]:=by decide
 have g:∀r:Fin 16,r.val=val [r.val.testBit 0,r.val.testBit 1,r.val.testBit 2,r.val.testBit 3]:=by decide
 obtain⟨w,hw,e,h4⟩:∃w:Za5,w.length=4/\n%16=val w/\W6 (val w)=plc 0 w:=⟨_,rfl,g ⟨n%16,va _ (by decide)⟩,h _ _ _ _⟩;have:=jC w (n/16) k;rw[hw,<-e,show n%16+2 ^ 4*(n/16)=n from Nat.mod_add_div n 16] at this;rw[this,e,Mt,h4]
def A0 (l:Za5)(j:Nat):Za5:=(l.drop (32*j)).take 32
def Br (n:Nat):Nat:=(n+31)/32
def wordsOf (l:Za5):Za4:=(gp (Br l.length)).map λj=>val (A0 l j)
def cnt (l:Za5)(k:Nat):Nat:=(l.take k).count true
theorem kO (l:Za5)(a b:Nat):cnt l (a+b)=cnt l a+((l.drop a).take b).count true:=by
 unfold cnt;rw[y8,t8]
theorem Rj (l:Za5){k:Nat}(h:l.length<=k):cnt l k=l.count true:=by
 unfold cnt;rw[gq h]
theorem Yg (l:Za5)(j:Nat):cnt l (32*(j+1))=cnt l (32*j)+pc (val (A0 l j)):=by
 rw[Mt,show 32*(j+1)=32*j+32 by lia,kO];rfl
theorem U3 (l:Za5)(a:Nat):∀k:Nat,((gp k).map λi=>pc (val (A0 l (a+i)))).sum+cnt l (32*a)=cnt l (32*(a+k))
 |0=>by simp
 |k+1=>by
  rw[kr,f9,rz,FT,zf];have:=U3 l a k;have e:=Yg l (a+k);rw[show a+(k+1)=a+k+1 by lia,e];lia
theorem Zh (n:Nat):n<=32*Br n:=by unfold Br;lia
theorem Ym {n j:Nat}(h:j<Br n):32*j<n:=by unfold Br at h;lia
theorem nN (l:Za5)(b:Nat)(k:Nat)(hk:k=min 8 (Br l.length-8*b)):((gp k).map λi=>pc (val (A0 l (8*b+i)))).sum+cnt l (256*b)=cnt l (256*(b+1)):=by
 have h:=U3 l (8*b) k;rw[show 32*(8*b)=256*b by lia] at h;rw[h]
 by_cases hh:8<=Br l.length-8*b
 ·rw[hk.trans (Nat.min_eq_left hh),show 32*(8*b+8)=256*(b+1) by lia]
 ·have ek:=hk.trans (Nat.min_eq_right (Nat.le_of_lt (Nat.not_le.mp hh)))
  have h2:=Nat.le_trans (Zh l.length) (Nat.mul_le_mul_left 32 (Nat.sub_le_iff_le_add'.mp (Nat.le_of_eq ek.symm)));rw[<-ek] at hh;rw[Rj l h2,Rj l (k:=256*(b+1)) (by clear hk ek h;lia)]
theorem lE:∀(l:Za5) (a:Nat),(l.reverse.foldl (λacc b=>acc*2+b.toNat) a)=a*2 ^ l.length+val l
 |[],a=>by simp[val]
 |b::r,a=>by
  rw[zx,GJ,lE r a];simp only[qm,IG,val,gu,ya];rw[yr,JF];lia
theorem Xz:∀(w:Za5) (k:Nat),val w/2 ^ k%2=(w.getD k false).toNat
 |[],k=>by simp[val]
 |b::r,0=>by
  cases b<;>simp[val]<;>lia
 |b::r,k+1=>by
  have ih:=Xz r k;have e:val (b::r)/2 ^ (k+1)=val r/2 ^ k:=by
   rw[ya,AB (2 ^ k) 2,<-yb];congr 1;cases b<;>simp[val]<;>lia
  rw[e,ih];simp
theorem Pl (l:Za5)(j:Nat){p:Nat}(hp:p<32):(A0 l j).getD p false=l.getD (32*j+p) false:=by
 unfold A0;simp only[l8,ku,ka,hp,if_true]
theorem mE (l:Za5)(a k:Nat):((wordsOf l).drop a).take k=(gp (min k (Br l.length-a))).map λi=>val (A0 l (a+i)):=by
 refine pj λi=>?_;unfold wordsOf;rw[ku,gd]
 by_cases hi:i<k
 ·rw[if_pos hi,ka,gd]
  by_cases h2:a+i<Br l.length
  ·rw[jd h2,jd (Nat.lt_min.mpr ⟨hi,yk.mpr (by rw[uf];exact h2)⟩)]
   rfl
  ·have h3:=sr.mp h2
   rw[jk (by rw[gr];exact h3),jk (by rw[gr];exact io (vb _ _) (Nat.sub_le_iff_le_add.mpr (by rw[uf];exact h3)))];rfl
 ·rw[if_neg hi,jk (by rw[gr];exact io (ID _ _) (sr.mp hi))]
  rfl
theorem uW (f:Nat->Bool)(n:Nat):[n].filter f=if f n then[n] else[]:=by
 cases h:f n<;>simp[List.filter,h]
def occ (b:Bool)(l:Za5)(n:Nat):Za4:=(gp n).filter λi=>l.getD i false==b
theorem M5 (b:Bool)(l:Za5)(n:Nat):occ b l (n+1)=occ b l n++if l.getD n false==b then[n] else[]:=by
 unfold occ;rw[kr,l9,uW]
theorem Rc (b:Bool)(l:Za5)(n:Nat):∀d:Nat,occ b l (n+d)=occ b l n++((gp d).filter λp=>l.getD (n+p) false==b).map (n + ·)
 |0=>by simp
 |d+1=>by
  rw[show n+(d+1)=n+d+1 by lia,M5,Rc b l n d,kr,l9,f9,fm,uW];congr 2;cases l.getD (n+d) false==b<;>rfl
theorem Xa {b:Bool}{l:Za5}{n m i:Nat}(h:n<=m)(hi:i<(occ b l n).length):(occ b l m)[i]?=(occ b l n)[i]?:=by
 obtain⟨d,rfl⟩:=IT h;rw[Rc,ie hi]
theorem Aan {b:Bool}{l:Za5}{n m:Nat}(h:n<=m):(occ b l n).length<=(occ b l m).length:=by
 obtain⟨d,rfl⟩:=IT h;rw[Rc,fe];lia
theorem Rk (l:Za5):∀n:Nat,(occ true l n).length=cnt l n/\(occ false l n).length+cnt l n=n
 |0=>by simp[occ,cnt]
 |n+1=>by
  obtain⟨h1,h2⟩:=Rk l n;have e:cnt l (n+1)=cnt l n+(l.getD n false).toNat:=by
   unfold cnt;rw[jn,t8,l8]
   cases hx:l[n]? with
   |none=>simp
   |some b=>cases b<;>simp
  rw[M5,M5,e];cases l.getD n false<;>simp<;>lia
def L6 (b:Bool)(l:Za5)(j:Nat):Za4:=(gp 32).filter λp=>l.getD (32*j+p) false==b
theorem R4 (b:Bool)(l:Za5)(j:Nat):occ b l (32*(j+1))=occ b l (32*j)++(L6 b l j).map (32*j + ·):=by
 rw[show 32*(j+1)=32*j+32 by lia,Rc];rfl
theorem Pa (f:Nat->Bool):∀n:Nat,plc 0 ((gp n).map f)=(gp n).filter f
 |0=>rfl
 |n+1=>by
  rw[kr,f9,FT,Z6,Pa f n,l9,fb,gr,uW,lx]
theorem Xh (w:Za5)(k:Nat):(val w).testBit k=w.getD k false:=by
 rw[Nat.testBit_eq_decide_div_mod_eq,Xz];cases w.getD k false<;>rfl
def Nk (b:Bool):Nat:=if b then 0 else 4294967295
theorem Le (b:Bool)(l:Za5)(j:Nat):val (A0 l j) ^^^ Nk b=val ((gp 32).map λp=>l.getD (32*j+p) false==b):=by
 refine yq λi=>?_;rw[Nat.testBit_xor,Xh,Xh];have hf:(Nk b).testBit i=(!b&&decide (i<32)):=by
  cases b
  ·show(2 ^ 32-1).testBit i=_
   rw[CA];rfl
  ·show(0:Nat).testBit i=_
   rw[Nat.zero_testBit];rfl
 rw[hf]
 by_cases hi:i<32
 ·rw[Pl l j hi,l8 (l:=CH _ _),gd,jd hi]
  show _=(l.getD (32*j+i) false==b);rw[decide_eq_true hi];cases l.getD (32*j+i) false<;>cases b<;>rfl
 ·rw[decide_eq_false hi,l8,jk (by unfold A0;rw[f7];lia),l8,jk (by rw[fb,gr];lia)]
  simp
theorem Zc (b:Bool)(l:Za5)(j k:Nat):nth (val (A0 l j) ^^^ Nk b) k=(L6 b l j)[k]?:=by
 rw[Le,Wj,Pa];rfl
theorem wM (b:Bool)(l:Za5)(j:Nat):pc (val (A0 l j) ^^^ Nk b)=(L6 b l j).length:=by
 rw[Le,Mt,<-So _ 0,Pa];rfl
theorem uD (w:Za5)(k:Nat):val w%2 ^ k=val (w.take k):=by
 refine yq λi=>?_;rw[Nat.testBit_mod_two_pow,Xh,Xh,l8,l8,ku]
 by_cases hi:i<k<;>simp[hi]
def dAt (ds:Za4)(k:Nat):Nat:=ds.getD k 0
def opn (ds:Za4):Nat->Nat
 |0=>0
 |k+1=>dAt ds k+1
def way (ds:Za4):Nat->List Int
 |0=>[-1]
 |k+1=>(way ds k).take (dAt ds k+1)++[(k:Int)]
def Dok (ds:Za4):Prop:=∀k,k<ds.length->dAt ds k<=opn ds k
def eld (ds:Za4)(k:Nat):Int:=(way ds k).getD (dAt ds k) 0
def Ay (ds:Za4):List Int:=(gp ds.length).map (eld ds)
theorem Cs {ds:Za4}(h:Dok ds):∀k,k<=ds.length->(way ds k).length=opn ds k+1
 |0,_=>rfl
 |k+1,hk=>by
  show((way ds k).take (dAt ds k+1)++[(k:Int)]).length=dAt ds k+1+1;have:=Cs h k (by lia);have:=h k (by lia);rw[fe,f7];simp only[gu,jq];lia
theorem E5 {ds:Za4}(h:Dok ds):∀k,k<=ds.length->(way ds k)[0]?=some (-1)
 |0,_=>rfl
 |k+1,hk=>by
  show((way ds k).take (dAt ds k+1)++[(k:Int)])[0]?=some (-1);have e:=E5 h k (by lia);have hl:=Cs h k (by lia);rw[ie (by rw[f7];lia),jf (by lia)];exact e
theorem Mu {ds:Za4}(h:Dok ds):∀(k j:Nat) (x:Int),k<=ds.length->(way ds k)[j+1]?=some x->∃v:Nat,x=(v:Int)/\v<k/\dAt ds v=j
 |0,j,x,_,e=>by cases e
 |k+1,j,x,hk,e=>by
  have e:((way ds k).take (dAt ds k+1)++[(k:Int)])[j+1]?=some x:=e;have hl:=Cs h k (by lia);have hd:=h k (by lia);have hl2:((way ds k).take (dAt ds k+1)).length=dAt ds k+1:=by rw[f7];lia
  by_cases hj:j+1<dAt ds k+1
  ·rw[ie (by lia),jf hj] at e
   obtain⟨v,hv,hlt,hdv⟩:=Mu h k j x (by lia) e;exact⟨v,hv,by lia,hdv⟩
  ·rw[f8 (by lia),hl2] at e
   have e0:j+1-(dAt ds k+1)=0:=by
    have:=(ge.mp e).1;simp only[gu,jq] at this;lia
   rw[e0] at e;have e:=fq e;exact⟨k,e.symm,by lia,by lia⟩
theorem Oq {ds:Za4}(h:Dok ds):∀(k i j:Nat) (x y:Int),k<=ds.length->i<j->(way ds k)[i]?=some x->(way ds k)[j]?=some y->x<y
 |0,i,j,x,y,_,hij,e1,e2=>by
  have:=(ge.mp e2).1;simp only[way,gu,jq] at this;lia
 |k+1,i,j,x,y,hk,hij,e1,e2=>by
  have hl:=Cs h k (by lia);have hd:=h k (by lia);have hl2:((way ds k).take (dAt ds k+1)).length=dAt ds k+1:=by rw[f7];lia
  have e2':((way ds k).take (dAt ds k+1)++[(k:Int)])[j]?=some y:=e2;have e1':((way ds k).take (dAt ds k+1)++[(k:Int)])[i]?=some x:=e1
  by_cases hj:j<dAt ds k+1
  ·rw[ie (by lia),jf hj] at e2'
   rw[ie (by lia),jf (by lia)] at e1';exact Oq h k i j x y (by lia) hij e1' e2'
  ·rw[f8 (by lia),hl2] at e2'
   have e0:j-(dAt ds k+1)=0:=by
    have:=(ge.mp e2').1;simp only[gu,jq] at this;lia
   rw[e0] at e2';have ey:=fq e2';rw[ie (by lia),jf (by lia)] at e1'
   cases i with
   |zero=>
    rw[E5 h k (by lia)] at e1';have:=fq e1';lia
   |succ i=>
    obtain⟨v,hv,hlt,_⟩:=Mu h k i x (by lia) e1';lia
theorem Hy {ds:Za4}(h:Dok ds){k:Nat}(hk:k<ds.length):(way ds k)[dAt ds k]?=some (eld ds k):=by
 have hl:=Cs h k (by lia);have hd:=h k hk;unfold eld jy;rw[fc (by lia)];rfl
theorem P9 {ds:Za4}(h:Dok ds){k:Nat}(hk:k<ds.length)(e:eld ds k=-1):dAt ds k=0:=by
 have ha:=Hy h hk
 cases hd:dAt ds k with
 |zero=>rfl
 |succ j=>
  rw[hd] at ha;obtain⟨v,hv,_⟩:=Mu h k j _ (by lia) ha;lia
theorem E2 {ds:Za4}(h:Dok ds){k:Nat}(hk:k<ds.length)(e:eld ds k≠-1):∃v:Nat,eld ds k=(v:Int)/\v<k/\dAt ds k=dAt ds v+1:=by
 have ha:=Hy h hk
 cases hd:dAt ds k with
 |zero=>
  rw[hd,E5 h k (by lia)] at ha;exact absurd (fq ha).symm e
 |succ j=>
  rw[hd] at ha;obtain⟨v,hv,hlt,hdv⟩:=Mu h k j _ (by lia) ha;exact⟨v,hv,hlt,by lia⟩
theorem rM {ds:Za4}(h:Dok ds){k:Nat}(hk:k<ds.length):-1<=eld ds k:=by
 by_cases e:eld ds k=-1
 ·lia
 ·obtain⟨v,hv,_⟩:=E2 h hk e
  lia
theorem Bu (ds:Za4):(Ay ds).length=ds.length:=by unfold Ay;rw[fb,gr]
theorem J0 {ds:Za4}{k:Nat}(hk:k<ds.length):(Ay ds)[k]?=some (eld ds k):=by
 unfold Ay;rw[gd,jd hk];rfl
theorem vA {ds es:Za4}(h1:Dok ds)(h2:Dok es)(e:Ay ds=Ay es):ds=es:=by
 have hl:ds.length=es.length:=by rw[<-Bu ds,<-Bu es,e]
 have key:∀k,k<ds.length->dAt ds k=dAt es k:=by
  intro k
  induction k using Nat.strongRecOn with
  |_ k ih=>
   intro hk;have ek:eld ds k=eld es k:=by
    have a:=J0 hk;have b:=J0 (ds:=es) (k:=k) (by lia);rw[e] at a;rw[a] at b;exact fq b
   by_cases ht:eld ds k=-1
   ·rw[P9 h1 hk ht,P9 h2 (by lia) (by rw[<-ek];exact ht)]
   ·obtain⟨v,hv,hlt,hd⟩:=E2 h1 hk ht
    obtain⟨u,hu,hlu,hd2⟩:=E2 h2 (k:=k) (by lia) (by rw[<-ek];exact ht);have:v=u:=by lia
    subst this;rw[hd,hd2,ih v hlt (by lia)]
 refine AO hl λk a b=>?_;have:=key k a;unfold dAt at this
 simpa [jy,a,b] using this
end TW
end
section
namespace L2
open PySem PySem.Spec PyProof.Rows
variable {C Pt dx i1 i2 it l1 l2 z:fg} {params:o8} {A:ji} {CX:CXT} {op:yx} {X:Cx} {env:Env} {tg:jc} {fd:ke} {base h h' h1:jo} {H H' H1 H2:Hp} {J:It} {pins:Za1} {fp:List fg} {outer:List Env} {es:List jc} {kz ns:List Int} {l0:List ic} {cs ix:Za4} {N ps:Za6} {xs ys:List V} {us vs:Za3} {M:yl} {t':Nat} {oT:Obj} {an od:Option fg} {cpos lpos pos:Pos} {scope:ol} {pl:Sem Bool} {s s2:fw} {sp:Sp} {qual:Str} {te to:TE} {wi:TI} {y:V} {cdv ct doc oc pm:fv} {w:ir}
def Kd {α:Type}:Sem α->Prop
 |.pure _=>True
 |.raise _=>True
 |.unsupported _=>True
 |.finish _=>True
 |.rule _ k=>Kd (k ())
 |.at _ k=>Kd (k ())
 |.load _ _ k=>∀o,Kd (k o)
 |.update _ _ f k=>(∀o,(f o).dict=o.dict/\(f o).isFreed=o.isFreed)/\Kd (k ())
 |.alloc _ k=>∀a,Kd (k a)
 |.loadIfAlive _ k=>∀o,Kd (k o)
 |.point _ k=>Kd (k ())
 |.fresh k=>∀t,Kd (k t)
 |.ask k=>∀x,Kd (k x)
 |.stack k=>∀x,Kd (k x)
 |.handled _ k=>∀x,Kd (k x)
 |.thread k=>∀x,Kd (k x)
 |_=>False
theorem Kd.bind {α β:Type}{m:Sem α}{f:α->Sem β}(h:Kd m)(hf:∀a,Kd (f a)):Kd (m >>= f):=by
 show Kd (m.bind f)
 induction m<;>first|exact hf _|exact h.elim|exact trivial|skip
 all_goals (rename_i ih;first|exact ih _ h|exact λo=>ih o (h o)|exact⟨h.1,ih _ h.2⟩)
def J4 (h h':jo):Prop:=∀b o,h.get? b=some o->∃o',h'.get? b=some o'/\o'.dict=o.dict
theorem J4.refl (h:jo):J4 h h:=λ_ o e=>⟨o,e,rfl⟩
theorem J4.trans {h2 h3:jo}(a:J4 h1 h2)(b:J4 h2 h3):J4 h1 h3:=λx o e=>by
 obtain⟨o1,e1,d1⟩:=a x o e;obtain⟨o2,e2,d2⟩:=b x o1 e1;exact⟨o2,e2,d2.trans d1⟩
theorem iE (h:jo)(o:Obj):J4 h (h.push o):=λ_ u e=>⟨u,fh _ e,rfl⟩
theorem mQ {a:fg}{f:Obj->Obj}(hf:∀o,(f o).dict=o.dict/\(f o).isFreed=o.isFreed):J4 h (h.update a f):=λb o e=>by
 by_cases hb:b=a
 ·subst hb
  have fr:=(Heap.get?_some_iff.mp e).2;exact⟨f o,o6 f e (by rw[(hf o).2];exact fr),(hf o).1⟩
 ·exact⟨o,(ko _ _ (qh hb)).trans e,rfl⟩
theorem Ad6 {α:Type}{Γ:PySem.Ctx}{m:Sem α}:∀{Q:α->Pos->fw->Prop} {E:fv->Pos->fw->Prop} {p:Pos} {s:fw},Kd m->ML M Γ m Q E p s->ML M Γ m (λa p' s'=>Q a p' s'/\J4 s.heap s'.heap) E p s:=by
 induction m with
 |pure x=>exact λ_ h=>⟨h,J4.refl _⟩
 |raise v=>exact λ_ h=>h
 |unsupported=>exact λ_ h=>h
 |finish=>exact λ_ h=>h
 |rule _ k ih=>exact λq h=>ih _ q h
 | «at» _ k ih=>exact λq h=>ih _ q h
 |load a _ k ih=>
  intro Q E p s q h;obtain⟨o,ho,h⟩:=h;exact⟨o,ho,ih o (q o) h⟩
 |update a _ f k ih=>
  intro Q E p s q h;obtain⟨ha,h⟩:=h;exact⟨ha,KP _ _ _ (λ_ _ _ z=>⟨z.1,(mQ q.1).trans z.2⟩) (λ_ _ _ z=>z) _ _ (ih _ q.2 h)⟩
 |alloc o k ih=>
  intro Q E p s q h;exact KP _ _ _ (λ_ _ _ z=>⟨z.1,(iE _ o).trans z.2⟩) (λ_ _ _ z=>z) _ _ (ih _ (q _) h)
 |loadIfAlive _ k ih=>exact λq h=>ih _ (q _) h
 |point _ k ih=>exact λq h=>ih _ q h
 |fresh k ih=>exact λq h=>ih _ (q _) h
 |ask k ih=>exact λq h=>ih _ (q _) h
 |stack k ih=>exact λq h=>ih _ (q _) h
 |handled _ k ih=>exact λq h=>ih _ (q _) h
 |thread k ih=>exact λq h=>ih _ (q _) h
 |_=>exact λq=>q.elim
theorem Oh {α:Type}{m:Sem α}{Q:α->fw->Prop}{E:Za0}(q:Kd m)(h:wpAny M A m Q E s):wpAny M A m (λa s'=>Q a s'/\J4 s.heap s'.heap) E s:=λΓ p hΓ=>Ad6 q (h Γ p hΓ)
theorem Wu (a:fg):Kd (load a):=λ_=>trivial
theorem Yy (v:fv):Kd (fieldsOf v):=by
 unfold fieldsOf;split
 ·exact Kd.bind (Wu _) λo=>by split<;>exact trivial
 ·exact trivial
theorem Oc (v:fv)(i:Nat):Kd (field v i):=Kd.bind (Yy v) λa=>by split<;>exact trivial
theorem xP (f:Array fv->Array fv)(o:Obj):(JE f o).dict=o.dict/\(JE f o).isFreed=o.isFreed:=by
 obtain⟨c,d,dt,sl⟩:=o;cases dt<;>exact⟨rfl,rfl⟩
theorem Kw (v:fv)(i:Nat)(x:fv):Kd (setField v i x):=by
 unfold setField;split
 ·unfold updateField
  refine Kd.bind (Wu _) λo=>?_;split
  ·split
   ·exact⟨xP _,trivial⟩
   ·exact trivial
  ·exact trivial
 ·exact trivial
theorem Ji (e:fv)(f:Option fg):Kd (setFlight e f):=by
 unfold setFlight;refine Kd.bind (Oc _ _) λtb=>?_;split
 ·exact Kw _ _ _
 ·exact trivial
theorem eB:∀l:List Env,Kd (readyFrames l)
 |[]=>trivial
 |env::outer=>by
  unfold readyFrames;split
  ·rename_i f hf
   refine Kd.bind (Wu _) λo=>?_;split
   ·exact trivial
   ·refine Kd.bind ?_ λi=>Kd.bind ?_ λb=>⟨λo=>?_,eB outer⟩
    ·unfold behindIsImport
     split
     ·exact trivial
     ·split
      ·exact trivial
      ·exact Kd.bind (Oc _ _) λ_=>trivial
    ·unfold keptBack
     split
     ·split
      ·exact trivial
      ·refine Kd.bind ?_ λ_=>trivial
       unfold underTheClaimsCaller;exact λ_=>trivial
     ·exact trivial
    ·obtain⟨c,d,dt,sl⟩:=o
     cases dt<;>exact⟨rfl,rfl⟩
  ·exact trivial
theorem iB (env:Env):Kd (CK env):=by
 unfold CK;refine Kd.bind (λ_=>trivial) λl=>Kd.bind ?_ λo=>?_
 ·unfold frameObject
  split
  ·exact trivial
  ·exact Kd.bind (eB _) λ_=>trivial
 ·split<;>exact trivial
theorem qJ (f:fg)(b:Bool):Kd (entryPlaceOf f b):=by
 unfold entryPlaceOf;refine Kd.bind (λ_=>trivial) λl=>?_;split<;>exact trivial
theorem pO (a b c d e:fv)(l:Za3):Kd (xu a b c d e l):=by
 unfold xu newFields;generalize ([a,b,c,d,e]++if l.isEmpty=true then fu 6 qw else l).toArray=vs;unfold newObj;dsimp only;have as_is:Kd (newObjAsIs (.type "traceback") (.fields vs) none):=Kd.bind (m:=alloc _) (λ_=>trivial) λ_=>trivial;split
 ·exact Kd.bind (m:=unsupported _) trivial λ_=>as_is
 ·exact as_is
theorem kL (e:fv)(env:Env):Kd (noteFrame e env):=by
 unfold noteFrame;have jp:∀(f:fg) (head:fv),Kd (do
   let a <-CK env
   let b <-entryPlaceOf f (head != qw)
   let c <-xu head a qw (rawInt ↑f) qw b
   setField e 1 c):=λf head=>Kd.bind (iB _) λ_=>Kd.bind (qJ _ _) λ_=>Kd.bind (pO _ _ _ _ _ _) λ_=>Kw _ _ _
 split
 ·refine Kd.bind (Oc _ _) λhead=>?_
  dsimp only;split
  ·refine Kd.bind (Oc _ _) λv=>?_
   split
   ·exact trivial
   ·exact Kd.bind (Kw _ _ _) λ_=>jp _ _
  ·exact jp _ _
 ·exact trivial
theorem Mr (e:fv)(env:Env):Kd (leaving env e):=Kd.bind (kL _ _) λ_=>Ji _ _
def P4 (B:jo)(l:List Env)(e:fg)(cls a0:fv)(od:Option fg)(h:jo):Prop:=xr B l e cls a0 h/\∃o,h.get? e=some o/\o.dict=od
def zZ (B:jo)(l:List Env)(e:fg)(cls a0:fv)(od:Option fg)(L:fg)(h:jo):Prop:=LY B l e cls a0 L h/\∃o,h.get? e=some o/\o.dict=od
theorem P4.first {B:jo}{l:List Env}{e:fg}{cls a0:fv}(x:P4 B l e cls a0 od h):∃oe vs,h.get? e=some oe/\oe.cls=cls/\oe.data=.fields vs/\oe.dict=od:=by
 obtain⟨f,o,ho,hd⟩:=x;obtain⟨oe,vs,he,hc,hv,_⟩:=f.first;rw[ho] at he;cases he;exact⟨o,vs,ho,hc,hv,hd⟩
section
variable {M:yl} {A:ji} {E:Za0} {s:fw} {B:jo} {env:Env} {outer l:List Env} {L e:fg} {cls a0:fv} {od:Option fg} {Q:Unit->fw->Prop}
theorem Lq (k:J4 h h')(x:∃o,h.get? e=some o/\o.dict=od):∃o,h'.get? e=some o/\o.dict=od:=by
 obtain⟨o,ho,hd⟩:=x;obtain⟨o2,ho2,hd2⟩:=k e o ho;exact⟨o2,ho2,hd2.trans hd⟩
theorem fN (hfr:A.frames=some (env::outer))(hf:env.frame=some L)(fl:P4 B (env::outer) e cls a0 od s.heap)(q:∀h',P4 B outer e cls a0 od h'->s.heap.UpToSlots h'->Q () { s with heap:=h' }):wpAny M A (leaving env (.ref e)) Q E s:=by
 refine wpAny_mono (Oh (Mr _ _) (wpAny_leaves_onW (Q:=λ_ s'=>∃h',s'={ s with heap:=h' }/\xr B outer e cls a0 h'/\s.heap.UpToSlots h') hfr hf fl.1 λh' f u=>⟨h',rfl,f,u⟩)) (λ_ s' z=>?_) λ_ _ z=>z;obtain⟨⟨h',rfl,f,u⟩,k⟩:=z;exact q h' ⟨f,Lq k fl.2⟩ u
theorem oU (hfr:A.frames=some (env::outer))(hf:env.frame=some L)(fl:P4 B (env::outer) e cls a0 od s.heap)(q:∀h',zZ B (env::outer) e cls a0 od L h'->s.heap.UpToSlots h'->Q () { s with heap:=h' }):wpAny M A (noteFrame (.ref e) env) Q E s:=by
 refine wpAny_mono (Oh (kL _ _) (wpAny_looks_onW (Q:=λ_ s'=>∃h',s'={ s with heap:=h' }/\LY B (env::outer) e cls a0 L h'/\s.heap.UpToSlots h') hfr hf fl.1 λh' f u=>⟨h',rfl,f,u⟩)) (λ_ s' z=>?_) λ_ _ z=>z;obtain⟨⟨h',rfl,f,u⟩,k⟩:=z;exact q h' ⟨f,Lq k fl.2⟩ u
theorem Aa7 (hh:zZ B l e cls a0 od L s.heap)(q:∀h',P4 B l e cls a0 od h'->s.heap.UpToSlots h'->Q () { s with heap:=h' }):wpAny M A (setFlight (.ref e) none) Q E s:=by
 refine wpAny_mono (Oh (Ji _ _) (wpAny_landsW (Q:=λ_ s'=>∃h',s'={ s with heap:=h' }/\xr B l e cls a0 h'/\s.heap.UpToSlots h') hh.1 λh' f u=>⟨h',rfl,f,u⟩)) (λ_ s' z=>?_) λ_ _ z=>z;obtain⟨⟨h',rfl,f,u⟩,k⟩:=z;exact q h' ⟨f,Lq k hh.2⟩ u
theorem Abe (fl:P4 B l e cls a0 od s.heap)(q:∀h',P4 B l e cls a0 od h'->s.heap.UpToSlots h'->Q () { s with heap:=h' }):wpAny M A (setFlight (.ref e) none) Q E s:=by
 refine wpAny_mono (Oh (Ji _ _) (lands_againW (Q:=λ_ s'=>∃h',s'={ s with heap:=h' }/\xr B l e cls a0 h'/\s.heap.UpToSlots h') fl.1 λh' f u=>⟨h',rfl,f,u⟩)) (λ_ s' z=>?_) λ_ _ z=>z;obtain⟨⟨h',rfl,f,u⟩,k⟩:=z;exact q h' ⟨f,Lq k fl.2⟩ u
theorem Wi {args:Za3}(hfr:A.frames=some (env::outer))(hf:env.frame=some L)(hkb:B.StaysIn h)(hl:h.FunFrames B (env::outer))(hx:wf h s.heap e cls args)
  (q:∀h' t,P4 B outer e cls (.ref t) none h'->s.heap.UpToSlots h'->Q () { s with heap:=h' }):wpAny M A (leaving env (.ref e)) Q E s:=by
 refine wpAny_mono (Oh (Mr _ _) (wpAny_leaves_madeW (Q:=λ_ s'=>∃h' t,s'={ s with heap:=h' }/\xr B outer e cls (.ref t) h'/\s.heap.UpToSlots h') hfr hf hkb hl hx λh' t f _ _ u=>⟨h',t,rfl,f,u⟩)) (λ_ s' z=>?_) λ_ _ z=>z;obtain⟨⟨h',t,rfl,f,u⟩,k⟩:=z;obtain⟨_,he,_⟩:=hx.there;exact q h' t ⟨f,Lq k ⟨_,he,rfl⟩⟩ u
end
structure Ad9 (outer:List Env) (H':Hp) (h h':jo) (e C:fg) (od:Option fg):Prop where
 new:h.get? e=none
 unt:H' e=none
 fly:∃a0 B,P4 B outer e (.ref C) a0 od h'/\∀b o,h'.get? b=some o->B.get? b=none->b=e\/b∈frs outer\/(h.get? b=none/\H' b=none)
theorem Bp.there {P:gv}{a:fg}{o:HO}(x:Bp P w H h a o):∃ob,h.get? a=some ob:=by
 cases o with
 |lst xs=>obtain⟨_,_,_,_,e⟩:=x;exact⟨_,e⟩
 |tup xs=>obtain⟨_,_,_,o,e,_⟩:=x;exact⟨_,e⟩
 |dK kvs=>obtain⟨_,_,_,_,o,_,_,e,_⟩:=x;exact⟨_,e⟩
 |dT kvs=>obtain⟨_,_,_,_,o,_,_,e,_⟩:=x;exact⟨_,e⟩
 |set S n=>obtain⟨o,_,_,_,e,_⟩:=x;exact⟨_,e⟩
 |ins C dx fs=>obtain⟨_,_,_,e,_⟩:=x;exact⟨_,e⟩
 |own y=>exact x
 |xd fs=>obtain⟨_,⟨_,_,_,e,_⟩,_⟩:=x;exact⟨_,e⟩
 |rng lo hi=>obtain⟨_,_,_,e⟩:=x;exact⟨_,e⟩
 |frz ob u=>obtain⟨e,_⟩:=x;exact⟨_,e⟩
 |tbl ps=>exact⟨_,(show h.get? a=some _ from x)⟩
 |met f y=>exact⟨_,(show h.get? a=some _ from x)⟩
 |ext φ=>obtain⟨_,e,_⟩:=x;exact e
def CXE (P:gv)(w:ir):CXT:=λouter H s E ex s'=>∃e C od H',ex=.ref e/\s'.os=s.os/\ww s'.gens/\Un (frs outer) [] H H' s.heap s'.heap/\HOk P w H' s'.heap/\(∀b∈frs outer,H' b=none)/\Ad9 outer H' s.heap s'.heap e C od/\E (.ref C) od H'
theorem jK {P:gv}{w:ir}{H:Hp}{h h':jo}{B:jo}{outer:List Env}{e:fg}{n:jo}(ok:HOk P w H h)(st:B.StaysIn h')(he:H e=none)(hf:∀b∈frs outer,H b=none)
  (hB:∀b o,h.get? b=some o->B.get? b=none->b=e\/b∈frs outer\/(n.get? b=none/\H b=none))(hBh:∀b o,B.get? b=some o->h.get? b=some o):HOk P w H h':=λa u ea=>by
 have tr:∀b v,H b=some v->∀o,h.get? b=some o->h'.get? b=some o:=λb v ev o eo=>by
  cases q:B.get? b with
  |some o'=>
   have:=hBh b o' q;rw[eo] at this;cases this;exact st b o q
  |none=>
   rcases hB b o eo q with z|z|z
   ·rw[z,he] at ev;cases ev
   ·rw[hf b z] at ev;cases ev
   ·rw[z.2] at ev;cases ev
 refine(ok a u ea).stay (λb o hb q=>?_) (λ_ q=>q) λ_ _ q=>q;rcases hb with z|z
 ·subst z;exact tr b u ea o q
 ·exact tr b _ z o q
section
variable {P:gv} {w:ir} {K:eh} {mg:Za2} {base:jo} {N:Za6} {qual:Str} {scope:ol} {f:fg} {cd:fv} {A:ji} {outer:List Env} {mt:fw} {QP:Hp} {E:XK}
theorem We {G:St}{e:fg}{a0:fv}{B h2:jo}{g:Array HU}{d:Drawn}{t:Nat}(I:Inv (By CX P w K mg base N qual scope f cd A outer mt QP E) pins G H s)
  (un:Un (frs (By CX P w K mg base N qual scope f cd A outer mt QP E).stack) [] H H' s.heap h1)(hok:HOk P w H' h1)(hfr:∀b∈frs (By CX P w K mg base N qual scope f cd A outer mt QP E).stack,H' b=none)(hg:ww g)
  (hn:s.heap.get? e=none)(hu:H' e=none)(hB:∀b o,h1.get? b=some o->B.get? b=none->b=e\/b∈frs (By CX P w K mg base N qual scope f cd A outer mt QP E).stack\/(s.heap.get? b=none/\H' b=none))(hBh:B.StaysIn h1)
  (fl:P4 B outer e (.ref C) a0 od h2)(up:h1.UpToSlots h2)(q:E (.ref C) od H'):CXE P w outer QP mt E (.ref e) { s with heap:=h2,gens:=g,drawn:=d,toks:=t }:=by
 have hBst:B.StaysIn h2:=fl.1.1;have st:∀b,b∈frs (By CX P w K mg base N qual scope f cd A outer mt QP E).stack->b=mt.heap.objs.size\/b∈frs outer:=λb hb=>by
  rcases i9.mp (I.stkSub b hb) with z|z
  ·exact .inl z
  ·exact .inr z
 have so:∀b,b∈frs outer->b∈frs (By CX P w K mg base N qual scope f cd A outer mt QP E).stack:=λb hb=>gz _ hb;have neL:∀b o,mt.heap.get? b=some o->b≠mt.heap.objs.size:=λb o z=>ig (gh z);have inS:∀b o,mt.heap.get? b=some o->∃o',s.heap.get? b=some o':=λb o z=>I.base.there b o z (by intro y;cases y);have in1:∀b o,s.heap.get? b=some o->∃o',h1.get? b=some o':=λb o z=>un.there b o z (by simp);have fz:∀b∈frs (By CX P w K mg base N qual scope f cd A outer mt QP E).stack,∀o,h1.get? b=some o->∃sl,h2.get? b=some { o with slots:=sl }:=λb hb o z=>by
  refine up b o z λvs y=>?_;obtain⟨_,o',ho',hd⟩:=I.stack.mem hb;obtain⟨sl,z2⟩:=un.any ho' (I.stkFree b hb) (by simp);rw[z] at z2;cases z2;exact hd vs y
 have keep1:∀b o,s.heap.get? b=some o->h1.get? b=some o->b∉frs (By CX P w K mg base N qual scope f cd A outer mt QP E).stack->h2.get? b=some o:=λb o z z1 nf=>by
  cases y:B.get? b with
  |some o'=>
   have:=hBh b o' y;rw[z1] at this;cases this;exact hBst b o y
  |none=>
   rcases hB b o z1 y with r|r|r
   ·rw[r,hn] at z;cases z
   ·exact absurd r nf
   ·rw[r.1] at z;cases z
 refine⟨e,C,od,H',rfl,I.os,hg,⟨λb o z n nf _=>?_,λb o z n nf _=>?_,λb o z n _=>?_,λb o z _=>?_,λb xs z=>un.tups b xs (I.base.tups b xs z),λb o u z=>un.frzs b o u (I.base.frzs b o u z),λb ps z=>?_⟩,?_,λb hb=>hfr b (so b hb),⟨?_,hu,a0,B,fl,λb o z y=>?_⟩,q⟩
 ·have z1:=I.base.keep b o z n nf (by intro y;cases y)
  have n1:=I.base.free b o z n (by intro y;cases y);have nf1:b∉frs (By CX P w K mg base N qual scope f cd A outer mt QP E).stack:=λy=>(st b y).elim (neL b o z) nf;exact keep1 b o z1 (un.keep b o z1 n1 nf1 (by simp)) nf1
 ·obtain⟨sl,z1⟩:=I.base.slot b o z n nf (by intro y;cases y)
  have n1:=I.base.free b o z n (by intro y;cases y);obtain⟨sl2,z2⟩:=un.any z1 n1 (by simp);obtain⟨sl3,z3⟩:=fz b (so b nf) _ z2;exact⟨sl3,z3⟩
 ·obtain⟨o',z1⟩:=inS b o z
  exact un.free b o' z1 (I.base.free b o z n (by intro y;cases y)) (by simp)
 ·obtain⟨o1,z1⟩:=inS b o z
  obtain⟨o2,z2⟩:=in1 b o1 z1
  cases y:B.get? b with
  |some o'=>exact⟨o',hBst b o' y⟩
  |none=>
   rcases hB b o2 z2 y with r|r|r
   ·rw[r,hn] at z1;cases z1
   ·obtain⟨sl,z3⟩:=fz b r o2 z2
    exact⟨_,z3⟩
   ·rw[r.1] at z1;cases z1
 ·obtain⟨m1,e1⟩:=I.base.tbls b ps z
  obtain⟨m2,e2⟩:=un.tbls b _ e1;exact⟨m1++m2,by rw[e2,zd]⟩
 ·exact jK (n:=s.heap) (e:=e) (outer:=(By CX P w K mg base N qual scope f cd A outer mt QP E).stack) hok hBst hu hfr hB hBh
 ·cases y:mt.heap.get? e with
  |none=>rfl
  |some o=>
   obtain⟨o',z⟩:=inS e o y;rw[hn] at z;cases z
 ·cases y1:h1.get? b with
  |none=>
   refine .inr (.inr ⟨?_,?_⟩)
   ·cases y2:mt.heap.get? b with
    |none=>rfl
    |some o0=>
     obtain⟨o1,z1⟩:=inS b o0 y2;obtain⟨o2,z2⟩:=in1 b o1 z1;rw[y1] at z2;cases z2
   ·cases y2:H' b with
    |none=>rfl
    |some v=>
     have:=(hok b v y2).there;obtain⟨o2,z2⟩:=this;rw[y1] at z2;cases z2
  |some o1=>
   rcases hB b o1 y1 y with r|r|r
   ·exact .inl r
   ·rcases st b r with r2|r2
    ·refine .inr (.inr ⟨?_,hfr b r⟩)
     cases y2:mt.heap.get? b with
     |none=>rfl
     |some o0=>exact absurd r2 (neL b o0 y2)
    ·exact .inr (.inl r2)
   ·refine .inr (.inr ⟨?_,r.2⟩)
    cases y2:mt.heap.get? b with
    |none=>rfl
    |some o0=>
     obtain⟨o1,z1⟩:=inS b o0 y2;rw[r.1] at z1;cases z1
theorem Cl (hCX:CX=CXE P w):Ft (CXE P w) (By CX P w K mg base N qual scope f cd A outer mt QP E) E:=by
 subst hCX;intro pins G H s ex s' I h;obtain⟨e,C,od,H',rfl,ho,hg,un,hok,hfr,⟨hn,hu,a0,B,fl,hB⟩,q⟩:=h;show wpAny (model P w) (A.deeper (envOfC qual scope mt.heap.objs.size f cd)) (leaving (envOfC qual scope mt.heap.objs.size f cd) (.ref e)) _ _ s';refine fN (L:=mt.heap.objs.size) I.ok.frames rfl fl λh2 fl2 up=>?_;obtain⟨hp,g,d,t,os⟩:=s';have ho:os=s.os:=ho;subst ho;exact We (s:=s) (g:=g) (d:=d) (t:=t) I un hok hfr hg hn hu hB fl.1.1 fl2 up q
theorem iJ (hCX:CX=CXE P w){G:St}{e:fg}(I:Inv (By CX P w K mg base N qual scope f cd A outer mt QP E) pins G H s)
  (mx:wf s.heap h1 e (.ref C) vs)(q:E (.ref C) none H):(By CX P w K mg base N qual scope f cd A outer mt QP E).xe (.ref e) { s with heap:=h1 }:=by
 subst hCX;show wpAny (model P w) (A.deeper (envOfC qual scope mt.heap.objs.size f cd)) (leaving (envOfC qual scope mt.heap.objs.size f cd) (.ref e)) _ _ _;have hin:∀env∈(By (CXE P w) P w K mg base N qual scope f cd A outer mt QP E).stack,∀b,env.frame=some b->b∈frs (By (CXE P w) P w K mg base N qual scope f cd A outer mt QP E).stack:=λenv he b hb=>sk.mpr ⟨env,he,hb⟩;refine Wi (L:=mt.heap.objs.size) (s:={ s with heap:=h1 }) (B:=hideAll s.heap (frs (By (CXE P w) P w K mg base N qual scope f cd A outer mt QP E).stack)) I.ok.frames rfl (λb o z=>AV _ z) (CM I.stack hin) mx λh2 tt fl2 up=>?_;have hBh:(hideAll s.heap (frs (By (CXE P w) P w K mg base N qual scope f cd A outer mt QP E).stack)).StaysIn h1:=λb o z=>mx.keeps b o (AV _ z);refine We (s:=s) (g:=s.gens) (d:=s.drawn) (t:=s.toks) I (Un.kept mx.keeps) (I.hok.kept mx.keeps) I.stkFree I.bare mx.new ?_ (λb o z y=>?_) hBh fl2 up q
 ·cases y:H e with
  |none=>rfl
  |some v=>
   obtain⟨o,z⟩:=(I.hok e v y).there;rw[mx.new] at z;cases z
 ·by_cases hf:b∈frs (By (CXE P w) P w K mg base N qual scope f cd A outer mt QP E).stack
  ·exact .inr (.inl hf)
  ·cases z2:s.heap.get? b with
   |some o2=>
    rw[yj _ z2 hf] at y;cases y
   |none=>
    refine .inr (.inr ⟨rfl,?_⟩)
    cases y2:H b with
    |none=>rfl
    |some v=>
     obtain⟨o,z3⟩:=(I.hok b v y2).there;rw[z2] at z3;cases z3
end
abbrev Fk:Za3:=[.type "ValueError",.type "Exception",.type "BaseException",.type "object"]
structure Exc (K:eh) (mg:Za2) (x:Str) (C:fg):Prop where
 at_:mg x=some (.ref C)
 ex:ui K C Fk "ValueError.__new__"=true
theorem lK {K:eh}{bB:Za3}{nid:String}(X:K.In h)(q:ui K C bB nid=true) :
  ∃bm N nm qn bs hdct sn sub ab col dd k0 k1 k2 k3 k5 mN,h.get? C=some (excClassObj nm qn C N bs bm hdct sn sub ab col dd k0 k1 k2 k3 k5 nid)/\h.Ns N mN/\mN "__init__"=none/\NV h bB bm:=by
 unfold ui at q;split at q
 case h_2=>exact HJ q
 case h_1 d1 c1 l1 look=>
  split at q
  case h_2=>exact HJ q
  case h_1 C2 m2 r0 r1 r2 r3 nn r5 eqm eqs=>
   simp only[ky,beq_iff_eq,Bool.not_eq_true'] at q;obtain⟨⟨⟨⟨⟨w1,w2⟩,w3⟩,w4⟩,w5⟩,w6⟩:=q;subst w1 w2;obtain⟨x1,x2,x3,x4,x5,x6,x7,x8,x9,x10,x11⟩:=c1;dsimp only at eqm w3 w5 w6;subst eqm w3;have l2:l1=#[r0,r1,r2,r3,some (.builtin nn),r5]:=by
    have:=congrArg List.toArray eqs
    simpa using this
   subst l2;exact⟨m2,x4,x1,x5,x2,x6,x7,x8,x9,x10,d1,r0,r1,r2,r3,r5,h.nsMap x4,X _ _ look,.of_isNs (PySem.W.isNs_of_in X w5),PySem.W.nsMap_none_of_in X w5 w6,PySem.W.tail_of_in X w4⟩
theorem mY {l:Za3}(t:NV h Fk l):l.contains (.type "BaseException")=true:=by
 induction t with
 |base=>decide
 |own _ _ _ _ ih=>rw[List.contains_cons,ih,JJ]
def Ab9 (C:fg)(E:XK)(t:TA):TS:=λ_ G H=>t G H λvs H1=>vs.length<=sizeLine/\E (.ref C) none H1
section
variable {P:gv} {w:ir} {K:eh} {mg:Za2} {base:jo} {N:Za6} {qual:Str} {scope:ol} {f:fg} {cd:fv} {A:ji} {outer:List Env} {mt:fw} {QP:Hp} {E:XK}
theorem Zw {x:Str}{np:Pos}{a:jc}{as:List jc}{t:TA}(X:Exc K mg x C)(hg:Gl (By (CXE P w) P w K mg base N qual scope f cd A outer mt QP E) x)(ha:PA (By (CXE P w) P w K mg base N qual scope f cd A outer mt QP E) (a::as) t)
  (hdb:autoParam ((x==("__debug__":Str))=false) QF)
  (he:autoParam (starEach (a::as) (By (CXE P w) P w K mg base N qual scope f cd A outer mt QP E).env=(false,eval a (By (CXE P w) P w K mg base N qual scope f cd A outer mt QP E).env)::starEach as (By (CXE P w) P w K mg base N qual scope f cd A outer mt QP E).env) QD)
  (hpl:autoParam ((backTo cpos (starEach as (By (CXE P w) P w K mg base N qual scope f cd A outer mt QP E).env)).any (·.1)=false) QD) :
  PS (By (CXE P w) P w K mg base N qual scope f cd A outer mt QP E) (.Raise (some (.Call (.Name x np) (a::as) [] cpos)) none pos) (Ab9 C E t):=by
 k_end;obtain⟨bm,Nn,nm,qn,bs,hdct,sn,sub,ab,col,dd,k0,k1,k2,k3,k5,mN,hC,hN,hni,hT⟩:=lK I.ok.mod.kin X.ex;refine wpAny_Raise_call_subT (C:=C) (N:=Nn) (nm:=nm) (q:=qn) (bs:=bs) (bm:=bm) (hdct:=hdct) (sn:=sn) (sub:=sub) (ab:=ab) (col:=col) (dd:=dd) (k0:=k0) (k1:=k1) (k2:=k2) (k3:=k3) (k5:=k5) (mN:=mN) F.excBase_ValueError (mY hT) (I.ok.hd rfl) ?_ hni ?_
 ·rw[he]
  show((false||(backTo cpos (starEach as _)).any (·.1)))=false;rw[hpl];rfl
 ·refine F3 I hg X.at_ ⟨rfl,?_⟩ hdb
  have hs:=ha cpos pins s G H _ I h;rw[he] at hs ⊢;refine vf (thn hs λus s1 ⟨vs,H1,I1,r,hl,q⟩=>⟨rfl,?_,I1.bk _ _ hC,hN.keeps I1.bk,hT.keeps I1.bk,λh1 e mx=>?_⟩)
  ·have:=r.length
   show us.length<=sizeLine;lia
  ·exact iJ rfl I1 mx q
end
def Cx.re (X:Cx)(A':ji)(c:Bool)(xe':Za0):Cx:={ X with A:=A',calm:=c,xe:=xe' }
section
variable {X:Cx} {pins:Za1} {G:St} {H:Hp} {s:fw} {A':ji} {c:Bool} {xe':Za0}
theorem Inv.re (I:Inv X pins G H s)(hf:A'.frames=some X.stack)(hh:c=true->A'.handled=none):Inv (X.re A' c xe') pins G H s:=
 ⟨⟨I.ok.mod,I.ok.kind,I.ok.glob,I.ok.blt,I.ok.above,I.ok.inj,I.ok.has,I.ok.cab,hh,hf,I.ok.stk,I.ok.exf,I.ok.bs,I.ok.bsz,I.ok.noex,I.ok.exfs,I.ok.funs,I.ok.frf⟩,I.os,I.bare,I.base,I.loc,I.cell,I.free,I.freeC,I.pin,I.hok,I.len⟩
theorem Inv.unre (ok:X.Ok)(I:Inv (X.re A' c xe') pins G H s):Inv X pins G H s:=⟨ok,I.os,I.bare,I.base,I.loc,I.cell,I.free,I.freeC,I.pin,I.hok,I.len⟩
end
section
variable {X:Cx} {pins:Za1} {G:St} {H H':Hp} {s s':fw} {e C:fg} {B h1 h2:jo}
theorem yK (I:Inv X pins G H s)(un:Un (frs X.stack) [] H H' s.heap h1)(hB:∀b o,h1.get? b=some o->B.get? b=none->b=e\/b∈frs X.stack\/(s.heap.get? b=none/\H' b=none))(hBh:B.StaysIn h1)(st:B.StaysIn h2)(up:h1.UpToSlots h2)
  (hn:s.heap.get? e=none):Un (frs X.stack) [] H H' s.heap h2:=by
 have fz:∀b∈frs X.stack,∀o,h1.get? b=some o->∃sl,h2.get? b=some { o with slots:=sl }:=λb hb o z=>by
  refine up b o z λvs y=>?_;obtain⟨_,o',ho',hd⟩:=I.stack.mem hb;obtain⟨sl,z2⟩:=un.any ho' (I.stkFree b hb) (by simp);rw[z] at z2;cases z2;exact hd vs y
 refine⟨λb o z n nf nx=>?_,λb o z n nf nx=>?_,un.free,λb o z nx=>?_,un.tups,un.frzs,un.tbls⟩
 ·have z1:=un.keep b o z n nf nx
  cases y:B.get? b with
  |some o'=>
   have:=hBh b o' y;rw[z1] at this;cases this;exact st b o y
  |none=>
   rcases hB b o z1 y with r|r|r
   ·rw[r,hn] at z;cases z
   ·exact absurd r nf
   ·rw[r.1] at z;cases z
 ·obtain⟨sl,z1⟩:=un.slot b o z n nf nx
  obtain⟨sl2,z2⟩:=fz b nf _ z1;exact⟨sl2,z2⟩
 ·obtain⟨o1,z1⟩:=un.there b o z nx
  cases y:B.get? b with
  |some o'=>exact⟨o',st b o' y⟩
  |none=>
   rcases hB b o1 z1 y with r|r|r
   ·rw[r,hn] at z;cases z
   ·obtain⟨sl,z3⟩:=fz b r o1 z1
    exact⟨_,z3⟩
   ·rw[r.1] at z;cases z
def U6 (e C:fg)(od:Option fg)(h:jo):Prop:=∃o vs,h.get? e=some o/\o.cls=.ref C/\o.data=.fields vs/\o.dict=od
def O7 (e C:fg)(od:Option fg):HO:=.ext (U6 e C od)
theorem eL {h2:jo}(x:U6 e C od h1)(k:∀o,h1.get? e=some o->h2.get? e=some o):U6 e C od h2:=let ⟨o,vs,e1,r⟩:=x;⟨o,vs,k o e1,r⟩
theorem Inv.track (I0:Inv X pins G H s)(hex:X.ex=[])(hn0:s.heap.get? e=none)(I:Inv X pins G H' s')(hu:H' e=none)(he:U6 e C od s'.heap):Inv X pins G (upd H' e (O7 e C od)) s':=by
 have nl:X.env.locals≠e:=λz=>by
  obtain⟨m,⟨o,_,_,ho,_⟩,_⟩:=I0.loc;rw[z,hn0] at ho;cases ho
 have nc:∀x c,X.env.cells.lookup x=some c->c≠e:=λx c q z=>by
  obtain⟨v,o,ho,_⟩:=I0.cell x c q;rw[z,hn0] at ho;cases ho
 have np:∀p∈X.pn++pins,p.1≠e:=λp hp z=>by
  have:=(I0.pin p hp).1;rw[z,hn0] at this;cases this
 have n0:∀b o,X.mt.heap.get? b=some o->b≠e:=λb o q z=>by
  subst z;obtain⟨o',q'⟩:=I0.base.there b o q (by rw[hex];simp);rw[hn0] at q';cases q'
 have nt:∀{b:fg} {u:HO},H' b=some u->b≠e:=λq=>Al q hu;refine⟨I.ok,I.os,I.bare,⟨I.base.keep,I.base.slot,λb o q n nx=>?_,I.base.there,λb xs q=>?_,λb o u q=>?_,λb ps q=>?_⟩,I.loc,I.cell,?_,λx c q=>?_,λp hp=>?_,λb u q=>?_,I.len⟩
 ·rw[Ai (n0 b o q)];exact I.base.free b o q n nx
 ·have:=I.base.tups b xs q;rw[Ai (nt this)];exact this
 ·have:=I.base.frzs b o u q;rw[Ai (nt this)];exact this
 ·obtain⟨m,q'⟩:=I.base.tbls b ps q;exact⟨m,by rw[Ai (nt q')];exact q'⟩
 ·rw[Ai nl];exact I.free
 ·rw[Ai (nc x c q)];exact I.freeC x c q
 ·obtain⟨q1,q2,q3⟩:=I.pin p hp
  exact⟨q1,by rw[Ai (np p hp)];exact q2,q3⟩
 ·by_cases hb:b=e
  ·subst hb
   rw[Ac] at q;cases q;obtain⟨o,vs,he1,r⟩:=id he;exact⟨he,⟨o,he1⟩,λh1 h2 x k=>eL x k⟩
  ·rw[Ai hb] at q
   exact(I.hok b u q).stay (λ_ _ _ z=>z) (λc z=>by rw[Ai (nt z)];exact z) λc xs z=>by rw[Ai (nt z)];exact z
theorem Lp {E:Za0}{n:Str}{i:Nat}{Q:Unit->fw->Prop}(I:Inv X pins G H s)(hN:X.N.Nodup)(hi:X.N[i]?=some n)(hl:X.env.kindOf n=some .local)
  (h:∀s',Inv X pins (G.set i none) H s'->Q () s'):wpAny M A (do bindName X.env n .none;unbindBehindTheSuite X.env n pos) Q E s:=by
 obtain⟨m,hn,hlk⟩:=id I.loc;have hcls:(X.env.scope.kind==.class||(X.env.scope.kind==.module&&X.env.locals != X.env.globals))=false:=by rw[I.ok.kind];rfl
 have XE:i<G.length:=by rw[I.len];exact(ge.mp hi).1
 have cne:=I.cne;refine wpAny_nameGoes_keeps hl hn hcls λh' v hn' hs=>?_;have old:∀b o,X.mt.heap.get? b=some o->b≠X.env.locals:=λb o q=>ig (gi (gh q) I.ok.above);refine h _ ⟨I.ok,I.os,I.bare,⟨λb o q n nf nx=>?_,λb o q n nf nx=>?_,I.base.free,λb o q nx=>?_,I.base.tups,I.base.frzs,I.base.tbls⟩,⟨_,hn',λj y v' e1 e2 e3=>?_⟩,λy c q=>?_,I.free,I.freeC,λp hp=>?_,λb u q=>?_,by simpa using I.len⟩
 ·exact(hs.2 b (old b o q)).trans (I.base.keep b o q n nf nx)
 ·obtain⟨sl,z⟩:=I.base.slot b o q n nf nx
  exact⟨sl,(hs.2 b (old b o q)).trans z⟩
 ·obtain⟨o',z⟩:=I.base.there b o q nx
  exact⟨o',(hs.2 b (old b o q)).trans z⟩
 ·by_cases hj:j=i
  ·subst hj
   rw[xp XE] at e2;cases e2
  ·rw[yn (qh hj)] at e2
   obtain⟨u',r',q⟩:=hlk j y v' e1 e2 e3;refine⟨u',r',?_⟩;rcases q with⟨k,z⟩|⟨k,c,z,z2⟩
   ·refine .inl ⟨k,?_⟩
    have:y≠n:=λw=>hj (Sc hN e1 (w▸hi));simp[this,z]
   ·exact .inr ⟨k,c,z,z2.sameBut hs (cne y c z)⟩
 ·obtain⟨w',z⟩:=I.cell y c q
  exact⟨w',z.sameBut hs (cne y c q)⟩
 ·obtain⟨q1,q2,q3,q4,q5⟩:=I.pin p hp
  exact⟨(hs.2 p.1 q3).trans q1,q2,q3,q4,q5⟩
 ·refine(I.hok b u q).stay (λc w' hc z=>(hs.2 c ?_).trans z) (λ_ z=>z) λ_ _ z=>z
  rintro rfl;rcases hc with hc|hc
  ·rw[<-hc,I.free] at q;cases q
  ·rw[I.free] at hc;cases hc
end
def lV (X:Cx)(pins:Za1)(G:St)(st:List jr)(t:TS):Prop:=∀(s:fw) (H:Hp) (D:Iw),Inv X pins G H s->t D G H->wpAny (model X.prog X.w) X.A (execs st X.env) (SP X pins D) X.xe s
def Aa1 (X:Cx)(pins:Za1)(G:St)(st:jr)(t:TS):Prop:=∀(s:fw) (H:Hp) (D:Iw),Inv X pins G H s->t D G H->wpAny (model X.prog X.w) X.A (exec st X.env) (SP X pins D) X.xe s
def Aaz (X:Cx)(pins:Za1)(G:St)(e:jc)(t:TE):Prop:=∀(s:fw) (H:Hp) (Q:VK),Inv X pins G H s->t G H Q->wpAny (model X.prog X.w) X.A (eval e X.env) (EP X pins G Q) X.xe s
def Vt (CX:CXT)(X:Cx)(pins:Za1)(G:St)(E:XK):Prop:=∀(H:Hp) (s:fw) (e:fv) (s':fw),Inv X pins G H s->CX X.stack H s E e s'->X.xe e s'
section
variable {X:Cx} {pins:Za1} {G:St} {pos:Pos} {e:jc} {te:TE} {t u:TS}
theorem Bz (he:Aaz X pins G e te)(hs:autoParam (swapsWith e none pos.line X.env=pure false) QD):Aa1 X pins G (.Expr e pos) (pG te):=by
 intro s H D I h;exact wpAny_Expr_any (thn (he s H _ I h) λv s1 ⟨x,H1,I1,r1,q1⟩=>⟨G,H1,I1,q1⟩) I.quiet hs
theorem Dv {c:jc}{a b:List jr}{tc:TT}(hc:PT X c tc)(ha:lV X pins G a t)(hb:lV X pins G b u):Aa1 X pins G (.If c a b pos) (Acs tc t u):=by
 intro s H D I h;refine wpAny_If (thn (hc pins s G H _ I h) λd s1 ⟨H1,I1,q1⟩=>?_)
 cases d with
 |true=>exact ha s1 H1 D I1 (by simpa using q1)
 |false=>exact hb s1 H1 D I1 (by simpa using q1)
theorem At {st:jr}(h1:Aa1 X pins G st t):lV X pins G [st] t:=by
 intro s H D I h;refine wpAny_execs_cons (thn (h1 s H D I h) λf s1 q=>?_)
 cases f with
 |next=>exact tm q
 |brk=>exact q
 |cont=>exact q
 |ret v=>exact q
end
theorem Abd {P:gv}:Ft (CXE P w) X E0:=λ_ _ _ _ _ _ _ h=>by
 obtain⟨_,_,_,_,_,_,_,_,_,_,_,z⟩:=h;exact z.elim
structure tQ (P:gv) (w:ir) (K:eh) (mg:Za2) (base:jo) (name:Str) (k:Nat) (ps:Za6) (sp:Sp):Prop where
 ex:∃(f:fg) (fd:ke),As P w K mg base (CXE P w) k f fd ps sp/\Dn K fd ps []/\mg name=some (.ref f)/\k8 K (.ref f)=true
structure Mb (P:gv) (w:ir) (K:eh) (mg:Za2) (base:jo) (C:fg) (m:Str) (k:Nat) (ps:Za6) (sp:Sp):Prop where
 ex:∃(f:fg) (fd:ke),As P w K mg base (CXE P w) k f fd ps sp/\Dn K fd ps []/\nJ K C m f
 cl:Cls K C
structure uT (P:gv) (w:ir) (K:eh) (mg:Za2) (base:jo) (name:Str) (C:fg) (k:Nat) (ps:Za6) (sp:Sp):Prop where
 ex:∃(f:fg) (fd:ke),As P w K mg base (CXE P w) k f fd ps sp/\Dn K fd ps []/\Mk K C f/\mg name=some (.ref C)
section
variable {X:Cx} {k:Nat} {C:fg} {ps:Za6} {sp:Sp} {name m:Str} {p pos apos:Pos} {e o:jc} {es:List jc} {ta:TE} {t:TA} {pl:Sem Bool} {E:XK} {pins:Za1} {G:St} {CX:CXT} {f:fg} {fd:ke}
theorem Je (C:tQ X.prog X.w X.K X.mg X.base name k ps sp)(hr:Bv k X.A)(hx:Ft (CXE X.prog X.w) X E)(ha:PA X (e::es) t)(hg:autoParam (Gl X name) QD)(hdb:autoParam ((name==("__debug__":Str))=false) QF)
  (he:autoParam (starEach (e::es) X.env=(false,eval e X.env)::starEach es X.env) QD)(hpl:autoParam ((backTo pos (starEach es X.env)).any (·.1)=false) QD):PE X (.Call (.Name name p) (e::es) [] pos) (Zg sp [] E t):=by
 obtain⟨f,fd,F,b,hm,hk⟩:=C.ex;exact jZ F hr hg hm hk b .nil hx ha hdb he hpl
theorem Acd (M:uT X.prog X.w X.K X.mg X.base name C k ps sp)(hr:Bv (k+1) X.A)(hx:Ft (CXE X.prog X.w) X E)(ha:PA X (e::es) t)(hg:autoParam (Gl X name) QD)(hdb:autoParam ((name==("__debug__":Str))=false) QF)
  (he:autoParam (starEach (e::es) X.env=(false,eval e X.env)::starEach es X.env) QD)(hpl:autoParam ((backTo pos (starEach es X.env)).any (·.1)=false) QD):PE X (.Call (.Name name p) (e::es) [] pos) (U5 C sp [] E t):=by
 obtain⟨f,fd,F,b,M,hm⟩:=M.ex;exact W4 M F hr hg hm b .nil hx ha hdb he hpl
theorem Mq (M:Mb X.prog X.w X.K X.mg X.base C m k ps sp)(hr:Bv k X.A)(hx:Ft (CXE X.prog X.w) X E)(ho:PE X o ta)(ha:PA X (e::es) t)
  (hst:autoParam (starEach (e::es) X.env=(false,eval e X.env)::starEach es X.env) QD)(hpl:autoParam ((backTo pos (starEach es X.env)).any (·.1)=false) QD)
  (ht:autoParam (eval (.Call (.Attribute o m apos) (e::es) [] pos) X.env=(do
   let ov <-eval o X.env
   standAt apos.atName
   let (f,first) <-holding [ov] (getMethod ov m pl)
   callWith pos f first (backTo pos (starEach (e::es) X.env)) (backToKw pos (keywordEach [] X.env)))) QD) :
  PE X (.Call (.Attribute o m apos) (e::es) [] pos) (Th C m sp [] E ta t):=by
 obtain⟨f,fd,F,b,hm⟩:=M.ex;exact jH ho M.cl hm F hr b .nil hx ha hst hpl ht
theorem Aca {Q:VK}{vs:List V}(F:As X.prog X.w X.K X.mg X.base CX k f fd ps sp)(hr:Bv k X.A)(hb:Dn X.K fd ps [])(hx:Vt CX X pins G E)(I:Inv X pins G H s)(r:Av vs us)(h:sp (vs++[]) H Q E) :
  wpAny (model X.prog X.w) X.A (call (.ref f) us) (EP X pins G Q) X.xe s:=by
 have r2:Av (vs++[]) (us++[]):=r.append .nil;have hl:(us++[]).length=ps.length:=by rw[<-r2.length];exact F.len _ _ _ _ h
 refine om (qb (F.run X.A X.stack s H ⟨us,[]⟩ (us++[]) (vs++[]) Q E hr I.env0 (hb s us I.kIn hl) r2 h) λr s' hq=>?_)
 cases r with
 |error e=>exact hx H s e s' I hq
 |ok fl=>
  cases fl with
  |ret u=>exact I.after hq
  |next=>exact hq.elim
  |brk=>exact hq.elim
  |cont=>exact hq.elim
theorem De (M:Mb X.prog X.w X.K X.mg X.base C m k ps sp)(hr:Bv k X.A)(hx:Vt (CXE X.prog X.w) X pins G E)(ho:PE X o ta)(ha:PA X (e::es) t)
  (hst:autoParam (starEach (e::es) X.env=(false,eval e X.env)::starEach es X.env) QD)(hpl:autoParam ((backTo pos (starEach es X.env)).any (·.1)=false) QD)
  (ht:autoParam (eval (.Call (.Attribute o m apos) (e::es) [] pos) X.env=(do
   let ov <-eval o X.env
   standAt apos.atName
   let (f,first) <-holding [ov] (getMethod ov m pl)
   callWith pos f first (backTo pos (starEach (e::es) X.env)) (backToKw pos (keywordEach [] X.env)))) QD) :
  Aaz X pins G (.Call (.Attribute o m apos) (e::es) [] pos) (Th C m sp [] E ta t):=by
 obtain⟨f,fd,F,b,hm⟩:=M.ex;intro s H Q I h;refine tq (pl:=pl) (thE ho I h λu s1 x H1 I1 rx ⟨a,dx,fs,ex,ea,l,q⟩=>?_) ht;subst ex;obtain rfl:u=je a:=rx;refine Jh I1 ea M.cl hm l ?_;refine callWith_K (first:=[.ref a]) (h₀:=X.base) I.ok.mod.kin hm.kp (thA ha I1 q λus s2 vs H2 I2 r q2=>⟨I2.kIn,?_⟩) hst hpl;exact Aca (us:=.ref a::us) (vs:=.ref a::vs) F hr b hx I2 (.cons rfl r) q2
end
section
variable {X:Cx} {k:Nat} {C:fg} {ps:Za6} {sp:Sp} {name:Str} {p pos:Pos} {e:jc} {es:List jc} {t:TA} {E:XK} {pins:Za1} {G:St}
theorem qB (M:uT X.prog X.w X.K X.mg X.base name C k ps sp)(hr:Bv (k+1) X.A)(hx:Vt (CXE X.prog X.w) X pins G E)(ha:PA X (e::es) t)(hg:autoParam (Gl X name) QD)(hdb:autoParam ((name==("__debug__":Str))=false) QF)
  (he:autoParam (starEach (e::es) X.env=(false,eval e X.env)::starEach es X.env) QD)(hpl:autoParam ((backTo pos (starEach es X.env)).any (·.1)=false) QD):Aaz X pins G (.Call (.Name name p) (e::es) [] pos) (U5 C sp [] E t):=by
 obtain⟨f,fd,F,hb,M,hm⟩:=M.ex;intro s0 H0 Q I0 h0;refine wpAny_Call_Name_kw (F3 I0 hg hm ?_ hdb);refine callWith_K (h₀:=X.base) I0.ok.mod.kin M.kp (thn (ha pos pins s0 G H0 _ I0 h0) λus s vs'=>?_) he hpl;obtain⟨vs,H,I,r,h⟩:=vs';refine⟨I.kIn,?_⟩;have hq:=h (s.heap.objs.size+1) s.heap.objs.size (I.hok.fresh (vo _)) (I.hok.fresh (fk _)) (ig (vd _));have I2:=Inv.made (C:=C) I;have r2:Av (V.ref (s.heap.objs.size+1)::(vs++[])) (je (s.heap.objs.size+1)::(us++[])):=.cons rfl (r.append .nil);have hl:(je (s.heap.objs.size+1)::us++[]).length=ps.length:=by
  have e:=r2.length;rw[F.len _ _ _ _ hq] at e;exact e.symm
 refine om (Yq (f:=f) I.kIn M.makes M.init (beq_iff_eq.mp M.fn) (qb (F.run _ X.stack _ _ ⟨je (s.heap.objs.size+1)::us,[]⟩ (je (s.heap.objs.size+1)::(us++[])) _ _ E (hr.make C us []) (I2.env0.make C us []) (by have z:=hb _ (je (s.heap.objs.size+1)::us) I2.kIn hl;rwa [lh] at z) r2 hq) λr s' hq'=>?_))
 cases r with
 |error e=>exact hx _ _ e s' I2 hq'
 |ok fl=>
  cases fl with
  |ret u=>
   obtain⟨v,H',I3,rv,ev,q3⟩:=I2.after hq';subst ev;exact⟨rv,⟨V.ref (s.heap.objs.size+1),H',I3,rfl,q3⟩⟩
  |next=>exact hq'.elim
  |brk=>exact hq'.elim
  |cont=>exact hq'.elim
end
def zE (X:Cx)(E:XK)(pins:Za1)(G:St):Za0:=λex s1=>∃H0 s0,Inv X pins G H0 s0/\CXE X.prog X.w X.stack H0 s0 E ex s1
theorem Ch {E:XK}{G:St}:Vt (CXE X.prog X.w) (X.wish (zE X E pins G)) pins G E:=λH s e s' I h=>⟨H,s,I.unwish,h⟩
def Afr (K:eh)(i:Nat)(C0:fv)(tb:XK->TS)(th:TS):TS:=λD G H=>∃E:XK,tb E D G H/\∀C od H' e,E (.ref C) od H'->H' e=none->exmOne K (.ref C) C0=some true /\
 th { nx:=λQM H2=>D.nx (QM.set i none) H2,rt:=D.rt,bk:=λQM H2=>D.bk (QM.set i none) H2,ct:=λQM H2=>D.ct (QM.set i none) H2 } (G.set i (some (.ref e))) (upd H' e (O7 e C od))
section
variable {X:Cx} {i:Nat} {n x:Str} {C0:fv} {np hpos pos:Pos} {body suite:List jr} {b0:jr} {tb:XK->TS} {th:TS}
theorem Py {v:Za7}:(A.mark v).frames=A.frames:=rfl
theorem rS (hst:X.stack=X.env::X.outer)(hfr:X.env.frame=some X.env.locals)(hex:X.ex=[])(hN:X.N.Nodup)(hi:X.N[i]?=some n)(hl:X.env.kindOf n=some .local)(hg:Gl X x)(hm:X.mg x=some C0)
  (hb:∀E pins G,lV (X.wish (zE X E pins G)) pins G body (tb E))(hs:∀e,PSs (X.re (X.A.mark (some (.ref e))) false λ_ _=>False) (b0::suite) th)(hdb:autoParam ((x==("__debug__":Str))=false) QF) :
  PS X (.Try body [.ExceptHandler (some (.Name x np)) (some n) (b0::suite) hpos] [] [] pos) (Afr X.K i C0 tb th):=by
 k_end;obtain⟨E,hb1,hh⟩:=h;refine wpAny_Try_except (wpAny_mono (hb E pins G s H D (I.wish _) hb1) (λf s1 q=>?_) λex s1 q=>?_)
 ·have q:=q.unwish
  cases f with
  |next=>exact tm q
  |brk=>exact q
  |cont=>exact q
  |ret v=>exact q
 ·obtain⟨H0,s0,I0,e,C,od,H',rfl,ho,hgn,un,hok,hfree,⟨hn,hu,a0,B,fl,hB⟩,hE⟩:=q
  have fl':=fl;rw[hst] at fl';refine oU (by rw[I.ok.frames,hst]) hfr fl' λh4 held4 up4=>?_;refine Aa7 held4 λh5 fl5 up5=>?_;have inv:∀h6,B.StaysIn h6->s1.heap.UpToSlots h6->Inv X pins G H' { s1 with heap:=h6 }:=λh6 st up=>
   I0.call' (s':={ s1 with heap:=h6 }) (ch:=[]) ho (yK I0 un hB fl.1.1 st up hn) (jK (n:=s0.heap) (e:=e) (outer:=X.stack) hok st hu hfree hB fl.1.1) hgn (λb z=>absurd z (by simp))
  have I5:=inv h5 fl5.1.1 (up4.trans up5);refine wpAny_handleBy_cons (codeAny_handlers_test ?_) (by intro q;cases q);refine F3 (X:=X.re (X.A.mark (some (.ref e))) false λ_ _=>False) (I5.re (by rw[Py];exact I.ok.frames) (by intro z;cases z)) hg hm ?_ hdb;obtain⟨hx,hth⟩:=hh C od H' e hE hu;have LT:PySem.W.Looks (model X.prog X.w) h5 (typeOf (.ref e)) (.ref C):=by
   obtain⟨ob,hob,hc⟩:=fl5.1.there;exact hc▸(JN hob).andThen .now
  refine(PySem.W.exm_one I5.kIn LT hx).here ?_;refine codeAny_handlers_suite_as ?_;refine Abe fl5 λh6 fl6 up6=>?_;have I6:=inv h6 fl6.1.1 ((up4.trans up5).trans up6);obtain⟨oe,ws,hoe,hoec,hoed,hodd⟩:=fl6.first;have I6t:=Inv.track I0 hex hn I6 hu ⟨oe,ws,hoe,hoec,hoed,hodd⟩;have I6m:Inv (X.re (X.A.mark (some (.ref e))) false λ_ _=>False) pins G (upd H' e (O7 e C od)) { s1 with heap:=h6 }:=I6t.re (by rw[Py];exact I.ok.frames) (by intro z;cases z);refine N6 (X:=X.re (X.A.mark (some (.ref e))) false λ_ _=>False) (v:=.ref e) I6m hN hi (.inl hl) rfl (λs7 I7=>?_) (.inr hl);refine wpAny_mono (hs e pins s7 _ _ _ I7 hth) (λf s8 q8=>?_) (λ_ _ z=>z.elim)
  cases f with
  |next=>
   obtain⟨XC,H8,I8,q⟩:=q8;exact Lp (I8.unre I.ok) hN hi hl λs9 I9=>⟨_,H8,I9,q⟩
  |brk=>
   obtain⟨XC,H8,I8,q⟩:=q8;exact Lp (I8.unre I.ok) hN hi hl λs9 I9=>⟨_,H8,I9,q⟩
  |cont=>
   obtain⟨XC,H8,I8,q⟩:=q8;exact Lp (I8.unre I.ok) hN hi hl λs9 I9=>⟨_,H8,I9,q⟩
  |ret v=>
   obtain⟨v8,XC,H8,I8,r8,q⟩:=q8;exact Lp (I8.unre I.ok) hN hi hl λs9 I9=>⟨v8,_,H8,I9,r8,q⟩
end
section
variable {P:gv} {w:ir} {K:eh} {mg:Za2} {base:jo}
theorem Fun.okE {x:Str}{st:jr}{f:fg}{k:Nat}(F:Fun K x qual st f fd)(S:Aj N ps (Ae st))(len:∀vs H Q E,sp vs H Q E->vs.length=ps.length)
  (hbody:∀(cdv:fv) (A:ji) (outer:List Env) (s:fw) (H:Hp) (vs:List V) (Q:VK) (E:XK),Bv k (A.deeper (envOfC qual (Ae st) s.heap.objs.size f cdv))->sp vs H Q E ->
   ∃t,PSs (By (CXE P w) P w K mg base N qual (Ae st) f cdv A outer s H E) (Bf st) t/\t { nx:=λ_ H'=>Q .non H',rt:=Q } (Hk N vs) H):As P w K mg base (CXE P w) (k+1) f fd ps sp:=by
 obtain⟨oc,od,kV,doc,pm,an,cdv,ct,osl,rfl,lk,hcd⟩:=F.ex;exact jR lk hcd S len λA outer s H vs Q E hr hsp=>hbody cdv A outer s H vs Q E hr hsp
end
structure Ru (k:Nat) (A:ji):Prop where
 dp:A.depth+3*k+5<recursionLimit
 un:A.units+16*k+200<cLine
theorem Ru.deeper {k:Nat}(r:Ru (k+1) A)(env:Env):Ru k (A.deeper env):=
 ⟨by have:=r.dp;show A.depth+1+3*k+5<_;lia,by have:=r.un;show A.units+3+16*k+200<_;lia⟩
structure jS (P:gv) (w:ir) (K:eh) (mg:Za2) (base:jo) (k:Nat) (f:fg) (fd:ke) (ps:Za6) (sp:Sp):Prop where
 len:∀vs H Q E,sp vs H Q E->vs.length=ps.length
 run:∀(A:ji) (outer:List Env) (s:fw) (H:Hp) (args:Args) (us:Za3) (vs:List V) (Q:VK),Ru k A->P7 P w K mg base A outer s H->BX s fd args (ps.zip us)->Av vs us->sp vs H Q E0 ->
  codeAny (model P w) A (.call (.ref f) args) (CR CX0 outer P w H s Q E0) s
section
variable {P:gv} {w:ir} {K:eh} {mg:Za2} {base:jo}
theorem Fun.okU {x:Str}{st:jr}{f:fg}{k:Nat}(F:Fun K x qual st f fd)(S:Aj N ps (Ae st))(len:∀vs H Q E,sp vs H Q E->vs.length=ps.length)
  (hbody:∀(cdv:fv) (A A2:ji) (outer:List Env) (s:fw) (H:Hp) (vs:List V) (Q:VK),Ru k (A.deeper (envOfC qual (Ae st) s.heap.objs.size f cdv))->sp vs H Q E0 ->
   ∃t,PSs ((By CX0 P w K mg base N qual (Ae st) f cdv A2 outer s H E0).re (A.deeper (envOfC qual (Ae st) s.heap.objs.size f cdv)) false λ_ _=>False) (Bf st) t/\t { nx:=λ_ H'=>Q .non H',rt:=Q } (Hk N vs) H):jS P w K mg base (k+1) f fd ps sp:=by
 obtain⟨oc,od,kV,doc,pm,an,cdv,ct,osl,rfl,lk,hcd⟩:=F.ex;refine⟨len,λA outer s H args us vs Q hr e0 hb r hsp=>?_⟩;have hl:=len _ _ _ _ hsp;have KX:K.In s.heap:=e0.mod.kin.keeps λb o e=>(e0.bs b o e).1;have lim:s.heap.NoLimit:=e0.mod.nolimit.keeps λb o e=>(e0.bs b o e).1;have hkind:∀y∈ps.zip us,(Ae st).names.lookup y.1=some .local\/((Ae st).names.lookup y.1=some .cell/\((cellsFrom (s.heap.objs.size+1) (Ae st).names []).lookup y.1).isSome=true):=λ⟨n,v⟩ hy=>by
  rcases S.par n (sd hy).1 with q|q
  ·exact .inl q
  ·exact .inr ⟨q,w9 _ _ _ (.inl q)⟩
 refine GO (by have:=hr.dp;lia) (KX _ _ lk) rfl S.co S.gen rfl (EL KX hcd) (hb _ _ _ _ ?_);refine EH S.kind hkind λenv he s1 x=>?_;subst he;refine⟨lim.keeps x.toInCall.keep,NR ?_⟩;have e2:P7 P w K mg base { A with handled:=none } outer s H:=⟨e0.frames,e0.mod,e0.bs,e0.bsz,e0.funs,e0.frf,e0.hok,e0.bare⟩;obtain⟨t,ht,hq⟩:=hbody cdv A { A with handled:=none } outer s H vs Q (hr.deeper _) hsp;have I:=Uj (CX:=CX0) (E:=E0) (cd:=cdv) (f:=f) (qual:=qual) S rfl e2 hl r x;have I2:Inv ((By CX0 P w K mg base N qual (Ae st) f cdv { A with handled:=none } outer s H E0).re (A.deeper (envOfC qual (Ae st) s.heap.objs.size f cdv)) false λ_ _=>False) [] (Hk N vs) H s1:=I.re (yh e0.frames) (by intro z;cases z);refine wpAny_mono (ht [] s1 (Hk N vs) H _ I2 hq) (λfl s' hs=>?_) λe s' hs=>hs.elim
 cases fl with
 |ret u=>
  obtain⟨v,QM,H',J,rv,q⟩:=hs;exact⟨v,H',J.os,J.bare,J.base,J.hok,rv,q⟩
 |next=>
  obtain⟨QM,H',J,q⟩:=hs;exact⟨.non,H',J.os,J.bare,J.base,J.hok,rfl,q⟩
 |brk=>
  obtain⟨_,_,_,q⟩:=hs;exact q.elim
 |cont=>
  obtain⟨_,_,_,q⟩:=hs;exact q.elim
end
structure Ac0 (P:gv) (w:ir) (K:eh) (mg:Za2) (base:jo) (name:Str) (k:Nat) (ps:Za6) (sp:Sp):Prop where
 ex:∃(f:fg) (fd:ke),jS P w K mg base k f fd ps sp/\Dn K fd ps []/\mg name=some (.ref f)/\k8 K (.ref f)=true
theorem uL {k:Nat}{name:Str}{p:Pos}{e:jc}{t:TA}(C:Ac0 X.prog X.w X.K X.mg X.base name k ps sp)(hr:Ru k X.A)(ha:PA X (e::es) t)(hg:autoParam (Gl X name) QD)(hdb:autoParam ((name==("__debug__":Str))=false) QF)
  (he:autoParam (starEach (e::es) X.env=(false,eval e X.env)::starEach es X.env) QD)(hpl:autoParam ((backTo pos (starEach es X.env)).any (·.1)=false) QD):PE X (.Call (.Name name p) (e::es) [] pos) (Zg sp [] E0 t):=by
 obtain⟨f,fd,F,hb,hm,hk⟩:=C.ex;k_in;refine wpAny_Call_Name_kw (F3 I hg hm ?_ hdb);refine callWith_K (h₀:=X.base) I.ok.mod.kin hk (thA ha I h λus s1 vs H1 I1 r q=>⟨I1.kIn,?_⟩) he hpl;have r2:Av (vs++[]) (us++[]):=r.append .nil;have hl:(us++[]).length=ps.length:=by rw[<-r2.length];exact F.len _ _ _ _ q
 refine om (qb (F.run X.A X.stack s1 H1 ⟨us,[]⟩ (us++[]) (vs++[]) Q hr I1.env0 (hb s1 us I1.kIn hl) r2 q) λr s' hq=>?_)
 cases r with
 |error e=>exact hq.elim
 |ok fl=>
  cases fl with
  |ret u=>exact I1.after hq
  |next=>exact hq.elim
  |brk=>exact hq.elim
  |cont=>exact hq.elim
theorem eV (K:eh)(h:autoParam (X.K=K) QD):IxR X (yI K):=by
 subst h;exact B2
open PySem.W Builtin.Getset_descriptor
structure Id (K:eh) (D:fg):Prop where
 ga:findIn K (.ref D) "__getattribute__"=some (some (.builtin "BaseException.__getattribute__"))
 gx:findIn K (.ref D) "__getattr__"=some none
 ca:findIn K (.ref D) "__class__"=some (some (.builtin "object.__class__"))
 sp:specialIn K (.builtin "object.__class__") "__get__"=some (some (.builtin "getset_descriptor.__get__"))
 tk:takesIn K (.builtin "object.__class__")=some true
 mo:mroIn K D (.type "object")=some true
 mb:mroIn K D (.type "BaseException")=some true
theorem Id.cl {K:eh}{D:fg}(Z:Id K D):(clsIn K D).isSome=true:=by
 obtain⟨cd,a,_⟩:=Option.bind_eq_some_iff.mp Z.mo;rw[a];rfl
section
variable {prog:gv} {w:ir} {A:ji} {E:Za0} {s:fw} {K:eh} {x D:fg} {ox:Obj} {od0:Option Obj} {od:Option fg}
theorem uA (Z:Id K D)(X:K.In h):HS M h (HH (.ref x) (.ref D) "__class__") (.bind (.builtin "getset_descriptor.__get__") (.builtin "object.__class__")):=by
 have L3:=looks_takesIn (M:=M) X Z.tk;refine(uu X Z.ca).andThen ((looks_specialIn X Z.sp).andThen ?_);exact(show HS M h (HI (some (.builtin "object.__class__")) (some (.builtin "getset_descriptor.__get__"))) (some (.builtin "getset_descriptor.__get__",.builtin "object.__class__")) from L3.andThen .now).andThen (Looks.tag .now)
theorem xT {R:yp->fw->Prop}{tp:fv}(X:K.In s.heap)(L0:HS (model prog w) s.heap (typeOf (.ref x)) (.ref D))(hm:mroIn K D (.type "object")=some true)(h:R (.ok (.ret (.ref D))) s) :
  codeAny (model prog w) A (.call (.builtin "getset_descriptor.__get__") ⟨[.builtin "object.__class__",.ref x,tp],[]⟩) R s:=by
 obtain⟨hh,g,dr,t,os⟩:=s;have L1:=CY (M:=model prog w) X hm;refine rl NM.plain KF.entry_gs (NM.check _ _ _ _ _ _ _ _ KF.type_class (KF.args_gs _ _ _) ?_);unfold qu.«getset_descriptor.__get__» descrGet;rw[dga_obj];refine wpAny_bind (ft ?_);unfold descrGetter descrCheckInstance descrNameAndClass isInstance;simp only[KF.owner_class];repeat lk
 refine⟨zg _ (by decide +kernel),oq KF.entry_class ?_⟩;unfold qu.«object.__class__» shownTypeOf;repeat lk
 exact h
theorem mL {Q:Za7->fw->Prop}(Z:Id K D)(X:K.In s.heap)(I:U6 x D od s.heap)(h:Q (some (.ref D)) { s with toks:=s.toks+1 }):wpAny (model prog w) A (getAttr? (.ref x) "__class__") Q E s:=by
 obtain⟨hh,g,d,t,os⟩:=s;obtain⟨ox,ws,hox,hoc,_⟩:=I;have L0:HS (model prog w) hh (typeOf (.ref x)) (.ref D):=hoc▸(EN hox).andThen .now;have L1:=uu (M:=model prog w) X Z.ga;have L2:=uu (M:=model prog w) X Z.gx;have LF:=uA (M:=model prog w) (x:=x) Z X;have LB:=CY (M:=model prog w) X Z.mb;unfold getAttr? getAttrBy? getAttrBy;refine wpAny_bind (NO (wpAny_bind (tj (wpAny_holding (wpAny_bind (L0.at (wpAny_bind (L1.at ?_))))))));show wpAny _ _ (getAttrByItsOwn _ _ _ _ _ _) _ _ _;unfold getAttrByItsOwn hookBefore;refine wpAny_bind (L2.at (wpAny_bind (tj (wpAny_holding ?_))));show wpAny _ _ (boundAndCalled _ _ _) _ _ _;unfold boundAndCalled;refine wpAny_bind (zj (GL.ga.bind (.ref x)) ?_);show wpAny _ _ (call (.builtin "BaseException.__getattribute__") [.ref x,.str "__class__" t]) _ _ _;refine om (rl GL.ga.plain F.entry_bexc_ga ?_);have hk:builtinKind "BaseException.__getattribute__"=some .slot:=by decide +kernel
 have hsp:splitId "BaseException.__getattribute__"=some ("BaseException","__getattribute__"):=by decide +kernel
 simp only[checkBuiltinCall,hk,hsp];have ha:=F.args_bexc_ga (.ref x) (.str "__class__" t);refine wpAny_bind ?_;unfold isInstance
 iterate 4 lk
 refine zj (a:=()) ?_ ?_
 ·have ha':=ha
  unfold argsOk at ha'
  cases hsig:DU "BaseException.__getattribute__" with
  |none=>rfl
  |some sig=>
   rw[hsig] at ha';exact ha'
 unfold qu.«object.__getattribute__»;refine wpAny_bind (ft ?_);refine wpAny_bind (ft (wpAny_bind (L0.at (wpAny_bind (LF.at ?_)))));show wpAny _ _ (holding [IA "object.__class__"] (call (.builtin "getset_descriptor.__get__") [.builtin "object.__class__",.ref x,.ref D]) >>= ret) _ _ _;refine wpAny_bind (wpAny_holding (om (xT (s:=⟨hh,g,d,t+1,os⟩) X L0 Z.mo (ft ?_))));exact handed_on rfl (ft h)
theorem Zj (Z:Id K D):KitX K (.ref x) (.ref D) (U6 x D od) where
 ty:=λM h X p=>by
  obtain⟨ox,ws,hox,hoc,_⟩:=p;exact hoc▸(EN hox).andThen .now
 it:=λM h X p=>by
  obtain⟨cd,hc⟩:=jw.mp Z.cl;unfold clsIn at hc;split at hc
  ·rename_i c' d' cd' sl' ho
   intro A' Q' E' s' k q;unfold isType loadHead;exact wpAny_bind (zk (k _ _ (X _ _ ho)) (ft q))
  ·cases hc
 ne:=λh tp dd its n sl X htp=>by
  obtain⟨cd,hc⟩:=jw.mp Z.cl;refine wu.mpr λq=>?_;have e:D=tp:=AX (beq_iff_eq.mp q);subst e;unfold clsIn at hc;split at hc
  ·rename_i c' d' cd' sl' ho
   have z:=(X _ _ ho).symm.trans htp;cases z
  ·cases hc
 ca:=λX p k=>mL Z X p k
end
def Adq:V->fv->Prop
 |.ty n,v=>v=.type n
 |.ref a,v=>v=.ref a
 |_,_=>False
def Ad0 (K:eh):List V->Hp->VK->Prop:=λxs H Q=>∃e C od c cv b,xs=[.ref e,c]/\H e=some (O7 e C od)/\Id K C/\Adq c cv/\kitOne K (.ref C) cv=some b/\Q (.bl b) H
theorem Wr:Ey X (.builtin "isinstance") (Ad0 X.K):=by
 intro pins s G H xs us Q I r h;obtain⟨e,C,od,c,cv,b,rfl,he,Z,hcv,hk,q⟩:=h;obtain⟨u,w',rfl,ru,rw'⟩:=Na r;cases(show u=je e from ru);have hw:w'=cv:=by
  cases c<;>first|exact hcv.elim|exact(show w'=_ from rw').trans (show cv=_ from hcv).symm
 subst hw;obtain⟨p,_,_⟩:=(show Bp X.prog X.w H s.heap e (O7 e C od) from I.hok e _ he);exact uv (Zj Z) I.kIn p hk (λz=>nomatch z) λtk=>⟨.bl b,H,I.tok tk,rfl,q⟩
theorem Ei (K:eh)(h:autoParam (X.K=K) QD):Ey X (.builtin "isinstance") (Ad0 K):=by
 subst h;exact Wr
theorem Bv.mark {k:Nat}{v:Za7}(r:Bv k A):Ru k (A.mark v):=⟨r.dp,r.un⟩
theorem Wk:bootBuiltins "ValueError"=some (.type "ValueError"):=by decide +kernel
section
variable {X:Cx}
def uS:List V->Za3->Prop
 |[],[]=>True
 |c::r,v::s=>Adq c v/\uS r s
 |_,_=>False
theorem Y7:∀{cs:List V} {vs us:Za3},uS cs vs->Av cs us->us=vs
 |[],[],_,_,.nil=>rfl
 |[],_::_,_,h,_=>h.elim
 |_::_,[],_,h,_=>h.elim
 |c::r,v::s,_,h,.cons (b:=u) h1 h2=>by
  have e:u=v:=by
   have h0:=h.1;cases c<;>first|exact h0.elim|exact(show u=_ from h1).trans (show v=_ from h0).symm
  rw[e,Y7 h.2 h2]
def Aeh (K:eh):List V->Hp->VK->Prop:=λxs H Q=>∃e C od t cs cvs b,xs=[.ref e,.ref t]/\H e=some (O7 e C od)/\Id K C/\H t=some (.tup cs)/\uS cs cvs/\kitAny K (.ref C) cvs=some b/\Q (.bl b) H
theorem Md (K:eh)(h:autoParam (X.K=K) QD):Ey X (.builtin "isinstance") (Aeh K):=by
 subst h;intro pins s G H xs us Q I r h;obtain⟨e,C,od,t,cs,cvs,b,rfl,he,Z,ht,hcs,hk,q⟩:=h;obtain⟨u,w',rfl,ru,rw'⟩:=Na r;cases(show u=je e from ru);cases(show w'=je t from rw');obtain⟨p,_,_⟩:=(show Bp X.prog X.w H s.heap e (O7 e C od) from I.hok e _ he);obtain⟨_,its,rv,hT⟩:=(show Bp X.prog X.w H s.heap t (.tup cs) from I.hok t _ ht);have hi:=Y7 hcs rv;subst hi;obtain⟨o,eo,h1,n,h2⟩:=hT;obtain⟨c,d,da,sl⟩:=o;obtain rfl:=h1;obtain rfl:=h2;exact PySem.W.kia_tup (Zj Z) I.kIn p eo hk (λz=>nomatch z) λtk=>⟨.bl b,H,I.tok tk,rfl,q⟩
end
theorem jD {G:St}(I:Inv X pins G H s):sysModules<s.heap.objs.size:=
 Nat.lt_trans (by decide) (show mainGlobals<s.heap.objs.size from(I.mod.glob.keeps I.bk).lt)
def Aag:TE:=λ_ H Q=>∀p,H p=none->Q (.ref p) (upd H p (.dK []))
theorem uE {P:gv}(h:jo)(hb:sysModules<h.objs.size):Bp P w H (h.push { cls:=.type "dict",data:=.dict #[] }) h.objs.size (.dK []):=
 ⟨i6 _,beq_eq_false_iff_ne.mpr (qh (ig hb)),[],.nil,EC h⟩
theorem Rp:PE X (.Dict [] [] pos) Aag:=λpins s G H Q I h=>
 wpAny_Dict_empty ⟨.ref s.heap.objs.size,_,I.laid (a:=s.heap.objs.size) (o:=.dK []) (t':=s.toks) (λ_ _ q=>fh _ q) (fk _) (uE s.heap (jD I)),rfl,h _ (I.hok.fresh (fk _))⟩
theorem Aa2 {G:St}{Q:VK}(h:∀p,H p=none->Q (.ref p) (upd H p (.dK []))):Aag G H Q:=h
abbrev J2 (C t:fg)(od:Option fg):Obj:={ cls:=.ref C,dict:=od,data:=.fields #[.ref t,.none,.none,.none,.bool false,.none] }
structure Mp (K:eh) (W C f:fg):Prop where
 wex:excIn K W Fk "ValueError.__new__"=true
 ob:∃nm qn N bs sn sub ab col dd k0 k1 k2 k3 k5,K.lookup C=some (excClassObj nm qn C N bs (.ref W::Fk) true sn sub ab col dd k0 k1 k2 k3 k5 "ValueError.__new__")
 ini:findIn K (.ref C) "__init__"=some (some (.ref f))
 fn:typeIn K (.ref f)=some (.type "function")
 sa:findIn K (.ref C) "__setattr__"=some (some (.builtin "object.__setattr__"))
 pl:findIn K (.ref C) "place"=some none
section
variable {prog:gv} {w:ir} {A:ji} {E:Za0} {s:fw} {K:eh} {W C f e t:fg} {od:Option fg}
theorem Zk (X:K.In h)(q:excIn K W Fk "ValueError.__new__"=true):NV h Fk (.ref W::Fk):=by
 obtain⟨bm,N,nm,qn,bs,hdct,sn,sub,ab,col,dd,k0,k1,k2,k3,k5,mN,hC,hN,hni,hT⟩:=lK X q;exact .own hC hN hni .base
theorem iV {v:fv}{Q:Za0}(O:Mp K W C f)(X:K.In s.heap)(he:s.heap.get? e=some (J2 C t od))
  (q:∀h' t',(∀b o,b≠e->s.heap.get? b=some o->h'.get? b=some o)->h'.get? e=some (J2 C t' od)->Q .none { s with heap:=h' }):wpAny (model prog w) A (call (.builtin "ValueError.__init__") [.ref e,v]) Q E s:=by
 obtain⟨hh,g,d,tk,os⟩:=s;obtain⟨nm,qn,N,bs,sn,sub,ab,col,dd,k0,k1,k2,k3,k5,lk⟩:=O.ob;have hC:=X _ _ lk;have T:=Zk X O.wex;have B:=AZ;refine om (rl B.init.plain B.initEntry (wpAny_check_init_subT B T hC he rfl ?_))
 wp_walk
 refine q _ hh.objs.size (λb o hb z=>?_) ?_
 ·exact(ko _ _ (qh hb)).trans (fh _ z)
 ·exact o6 _ (fh _ he) rfl
theorem nU {v:fv}{Q:Unit->fw->Prop}(O:Mp K W C f)(Z:Id K C)(X:K.In s.heap)(he:s.heap.get? e=some (J2 C t none))
  (q:∀h' dx tk,(∀b o,b≠e->s.heap.get? b=some o->h'.get? b=some o)->h'.get? e=some (J2 C t (some dx))->dx≠e->s.heap.objs.size<=dx->h'.Ns1 dx (λy=>if y="place" then some v else none)->Q () { s with heap:=h',toks:=tk }) :
  wpAny (model prog w) A (setAttr (.ref e) "place" v) Q E s:=by
 obtain⟨hh,g,d,tk,os⟩:=s;have X:K.In hh:=X;have he:hh.get? e=some (J2 C t none):=he;obtain⟨nm,qn,N,bs,sn,sub,ab,col,dd,k0,k1,k2,k3,k5,lk⟩:=O.ob;have SF:=PySem.F.store_object;have J:InstAt hh e (J2 C t none) C none:=⟨he,rfl,rfl,o3⟩;have hc:clsIn K C=some ⟨nm,bs,.ref C::.ref W::Fk,N,qn,true,sn,sub,ab,col,false⟩:=by
  unfold clsIn;rw[lk]
 have isO:HS (model prog w) hh (isInstance (.ref e) (.type "object")) true:=J.type.andThen (CY X Z.mo);have hm:HS (model prog w) hh (mroOf (.ref C)) (.ref C::.ref W::Fk):=(HP X hc).andThen .now;refine set_plain X J O.sa ?_;refine rl SF.slot.plain SF.entry (@check_slot (model prog w) _ _ ⟨hh,g,d,tk+1,os⟩ "object.__setattr__" "object" "__setattr__" (.ref e) [.str "place" tk,v] [] _ SF.kind SF.split isO (SF.args (.ref e) (.str "place" tk) v) ?_);rw[osa_eq,refuse_eq];refine wpAny_bind (wpAny_bind (J.type.here (wpAny_bind (hm.here ?_))));rw[MF,MF,show refuseLoop (.ref e) "__setattr__" Fk=pure () from PySem.F.store_ValueError.passes _];refine ft (wpAny_bind (J.type.here (wpAny_bind ((uu X O.pl).here (wpAny_bind ?_)))));refine ft ?_;show wpAny _ _ (HC (.ref e) (.ref C) (.str "place" tk) "place" v false) _ _ _;have hcl:=X _ _ lk;have he1:(hh.push emptyDict).get? e=some (J2 C t none):=fh _ he;have hes:e≠hh.objs.size:=ig (gh he);refine wpAny_bind (ft (wpAny_bind ?_));refine wpAny_bind (zk he (wpAny_bind ((HP X hc).here ?_)));show wpAny _ _ (do
  let d <-alloc { cls:=m9 "dict",data:=HA #[] }
  update e λo=>{ cls:=o.cls,dict:=some d,data:=o.data,slots:=o.slots }
  dictMade (.ref C) e d) _ _ _
 refine wpAny_bind (wpAny_alloc' (wpAny_bind (wpAny_update' he1 (ft ?_))));show wpAny _ _ (xk hh.objs.size (.str "place" tk) "place" v) _ _ _;have hd2:((hh.push emptyDict).update e λo=>{ cls:=o.cls,dict:=some hh.objs.size,data:=o.data,slots:=o.slots }).get? hh.objs.size=some emptyDict:=
  (ko _ _ hes).trans (iq hh rfl)
 have hn2:((hh.push emptyDict).update e λo=>{ cls:=o.cls,dict:=some hh.objs.size,data:=o.data,slots:=o.slots }).Ns hh.objs.size (λ_=>none):=⟨_,#[],_,hd2,rfl,(λen hen=>absurd hen (by simp)),λ_=>rfl⟩;have he2:((hh.push emptyDict).update e λo=>{ cls:=o.cls,dict:=some hh.objs.size,data:=o.data,slots:=o.slots }).get? e=some (J2 C t (some hh.objs.size)):=o6 _ he1 rfl;have hk2:∀b o,b≠e->hh.get? b=some o->((hh.push emptyDict).update e λo=>{ cls:=o.cls,dict:=some hh.objs.size,data:=o.data,slots:=o.slots }).get? b=some o:=λb o hb z=>(ko _ _ (qh hb)).trans (fh _ z);unfold xk HF;refine wpAny_bind (ft (wpAny_bind (NN (EQ hn2) λh' hn' hs=>?_)));obtain⟨ob1,es1,ep1,at1,da1,ct1⟩:=hn'.count (Within.cons "place" v Within.nil);refine wpAny_bind (JK at1 (da1▸JM (io ct1 (by decide))) ?_);refine ft ?_;refine q h' hh.objs.size _ (λb o hb z=>(hs.2 b (ig (gh z))).trans (hk2 b o hb z)) ((hs.2 e hes).trans he2) (qh hes) (fk _) ?_;obtain⟨o',es,ep,e1,e2,e3,eu,e4⟩:=hn';exact⟨o',es,ep,e1,e2,e3,eu,λy=>by rw[e4 y]⟩
theorem oM {v:fv}{o:Obj}{vs:Array fv}{mA:Za2}{Q:Za0}(O:Mp K W C f)(Z:Id K C)(X:K.In s.heap)(he:s.heap.get? e=some o)(hoc:o.cls=.ref C)(hod:o.data=.fields vs)(hdx:o.dict=some dx)
  (hn:s.heap.Ns1 dx mA)(hm:mA "place"=some v)(hh':handedIn v=true)(q:∀tk,Q v { s with toks:=tk }):wpAny (model prog w) A (getAttr (.ref e) "place" true) Q E s:=by
 obtain⟨hh,g,d,tk,os⟩:=s;have X:K.In hh:=X;obtain⟨oc,odi,oda,osl⟩:=o;dsimp only at hoc hod hdx;subst hoc hod hdx;obtain⟨nm,qn,N,bs,sn,sub,ab,col,dd,k0,k1,k2,k3,k5,lk⟩:=O.ob;have hc:clsIn K C=some ⟨nm,bs,.ref C::.ref W::Fk,N,qn,true,sn,sub,ab,col,false⟩:=by
  unfold clsIn;rw[lk]
 have L0:HS (model prog w) hh (typeOf (.ref e)) (.ref C):=(EN he).andThen .now;have L1:=uu (M:=model prog w) X Z.ga;have L2:=uu (M:=model prog w) X Z.gx;have LB:=CY (M:=model prog w) X Z.mb;have LP:=uu (M:=model prog w) X O.pl;unfold getAttr getAttrBy;refine wpAny_bind (NO (wpAny_holding (wpAny_bind (L0.at (wpAny_bind (L1.at ?_))))));show wpAny _ _ (getAttrByItsOwn _ _ _ _ _ _) _ _ _;unfold getAttrByItsOwn hookBefore;refine wpAny_bind (L2.at (wpAny_bind (tj (wpAny_holding ?_))));show wpAny _ _ (boundAndCalled _ _ _) _ _ _;unfold boundAndCalled;refine wpAny_bind (zj (BA.ga.bind (.ref e)) ?_);show wpAny _ _ (call (.builtin "BaseException.__getattribute__") [.ref e,.str "place" tk]) _ _ _;refine om (rl BA.ga.plain PySem.F.entry_bexc_ga ?_);have kd:builtinKind "BaseException.__getattribute__"=some .slot:=by decide +kernel
 have sp:splitId "BaseException.__getattribute__"=some ("BaseException","__getattribute__"):=by decide +kernel
 simp only[checkBuiltinCall,kd,sp];have ha:=PySem.F.args_bexc_ga (.ref e) (.str "place" tk);refine wpAny_bind ?_;unfold isInstance
 iterate 4 lk
 refine zj (a:=()) ?_ ?_
 ·unfold argsOk at ha
  cases hsig:DU "BaseException.__getattribute__" with
  |none=>rfl
  |some sig=>
   rw[hsig] at ha;exact ha
 unfold qu.«object.__getattribute__»;refine wpAny_bind (ft ?_);refine wpAny_bind (ft (wpAny_bind (L0.at (wpAny_bind ?_))));refine wpAny_bind (LP.at ?_);refine wpAny_bind (ft (wpAny_bind (ft ?_)));show wpAny _ _ (xh (.ref e) "place" none none) _ _ _;unfold xh HG HE;refine wpAny_bind (wpAny_bind ?_);refine wpAny_bind ((EN he).at ?_);show wpAny _ _ (instanceDict e false) _ _ _;refine wpAny_bind (zk he (wpAny_bind ((HP X hc).here (ft ?_))));show wpAny _ _ (nsGet dx "place") _ _ _;refine wpAny_nsGet hn.ns ?_;rw[hm];refine wpAny_bind (qr (ft ?_));exact ft (handed_on hh' (q _))
theorem qS {Fj:Za3}{Q:Za0}(O:Mp K W C f)(X:K.In s.heap)(hr:Fj.length<=sizeLine)
  (q:∀h' e,wf s.heap h' e (.ref C) Fj->s.heap.objs.size<=e->wpAny (model prog w) (A.under (.builtin "type.__call__" ⟨.ref C::Fj,[]⟩)) (call (.ref f) (.ref e::Fj)) (λr s'=>r=.none/\Q (.ref e) s') E { s with heap:=h' }) :
  wpAny (model prog w) A (call (.ref C) Fj) Q E s:=by
 obtain⟨hh,g,d,tk,os⟩:=s;have X:K.In hh:=X;obtain⟨nm,qn,N,bs,sn,sub,ab,col,dd,k0,k1,k2,k3,k5,lk⟩:=O.ob;have hC:hh.get? C=_:=X _ _ lk;have T:=Zk X O.wex;have B:=AZ;have f1:=tc_lookup;have f2:=tc_bind (.ref C);have tC:(⟨hh,g,d,tk,os⟩:fw).TypeIs (.ref C) "type":=⟨_,hC,rfl⟩;refine om (codeAny_of_tree ?_);show wpAny _ _ (callAny (.ref C) _) _ _ _
 repeat (any_goals (first|assumption|with_reducible refine rb hC ?_|wp_step))
 refine⟨rfl,codeAny_call_builtin_at (zg _ (by decide +kernel)) entry_typeCall (wpAny_check_type_call_sub hC ?_)⟩
 repeat (first|with_reducible refine rb hC ?_|with_reducible refine wpAny_madeBy_exc hC ?_|wp_step)
 refine codeAny_call_builtin_code (zg _ B.quiet) (wpAny_check_new_subT B T hC (codeAny_exc_new_subT B T hC ?_ hr));show wpAny _ _ _ _ _ _;have hget:((hh.push { cls:=.type "tuple",data:=.seq Fj.toArray }).push (J2 C hh.objs.size none)).get? (hh.objs.size+1)=some (J2 C hh.objs.size none):=by heap_get
 have kp:∀b o,hh.get? b=some o->((hh.push { cls:=.type "tuple",data:=.seq Fj.toArray }).push (J2 C hh.objs.size none)).get? b=some o:=λb o z=>fh _ (fh _ z);have XN:=kp _ _ hC;have hcC:(je C::.ref W::Fk).contains (.ref C)=true:=by simp
 have X1:K.In ((hh.push { cls:=.type "tuple",data:=.seq Fj.toArray }).push (J2 C hh.objs.size none)):=λb o z=>kp b o (X b o z);have mx:wf hh ((hh.push { cls:=.type "tuple",data:=.seq Fj.toArray }).push (J2 C hh.objs.size none)) (hh.objs.size+1) (.ref C) Fj:=by
  refine⟨kp,vm (vo _),hh.objs.size,hget,vm (fk _),?_⟩;exact fh _ (iq hh rfl)
 have J:InstAt ((hh.push { cls:=.type "tuple",data:=.seq Fj.toArray }).push (J2 C hh.objs.size none)) (hh.objs.size+1) (J2 C hh.objs.size none) C none:=⟨hget,rfl,rfl,o3⟩;unfold isInstance
 repeat (first|with_reducible refine rb hget ?_|(with_reducible refine z6 XN ?_;rw[hcC])|wp_step)
 refine z6 XN ?_;rw[hcC];rw[if_neg (by decide)];refine wpAny_bind (wpAny_holding (special_fn X1 J O.ini O.fn ?_));refine wpAny_mono (q _ _ mx (vo _)) (λv s' z=>?_) λ_ _ z=>z;obtain⟨rfl,z⟩:=z;exact ft z
end
def zD (e C:fg)(od:Option fg)(h:jo):Prop:=∃t,h.get? e=some (J2 C t od)
def He (e C:fg)(od:Option fg):HO:=.ext (zD e C od)
theorem iI {P:gv}{e:fg}(x:zD e C od h):Bp P w H h e (He e C od):=
 ⟨x,let ⟨_,z⟩:=x;⟨_,z⟩,λ_ _ ⟨t,z⟩ k=>⟨t,k _ z⟩⟩
structure zA (K:eh) (mg:Za2) (x:Str) (W:fg):Prop where
 at_:mg x=some (.ref W)
 ga:specialIn K (.ref W) "__getattribute__"=some (some (.builtin "type.__getattribute__"))
 rd:readsIn K W (.type "type")=true
 ini:findCls K (.ref W) (.type "type") "__init__"=some (.val (.builtin "ValueError.__init__"))
theorem Aas {e:fg}{o:HO}(h:H e=some o):upd H e o=H:=by
 funext b
 by_cases hb:b=e
 ·subst hb;rw[Ac,h]
 ·rw[Ai hb]
section
variable {X:Cx} {x:Str} {W C f:fg} {np apos pos p1 p2 pos':Pos} {a o e value:jc} {as:List jc} {t:TA} {te ta tv:TE} {pl:Sem Bool}
def rY (K:eh)(W:fg)(t:TA):TE:=λG H Q=>t G H λvs H1=>∃e C f od z,vs=[.ref e,.str z]/\H1 e=some (He e C od)/\Mp K W C f/\Q .non H1
theorem tZ (B:zA X.K X.mg x W)(hg:Gl X x)(ha:PA X (a::as) t)(hdb:autoParam ((x==("__debug__":Str))=false) QF)
  (he:autoParam (backTo pos (starEach (a::as) X.env)=(false,eval a X.env)::backTo pos (starEach as X.env)) QD)(hpl:autoParam ((backTo pos (starEach (a::as) X.env)).any (·.1)=false) QD)
  (ht:autoParam (eval (.Call (.Attribute (.Name x np) "__init__" apos) (a::as) [] pos) X.env=(do
   let ov <-eval (.Name x np) X.env
   standAt apos.atName
   let (f,first) <-holding [ov] (getMethod ov "__init__" pl)
   callWith pos f first (backTo pos (starEach (a::as) X.env)) (backToKw pos (keywordEach [] X.env)))) QD) :
  PE X (.Call (.Attribute (.Name x np) "__init__" apos) (a::as) [] pos) (rY X.K W t):=by
 k_in;refine methodCall_KW (F3 I hg B.at_ ?_ hdb) ht;refine method_cls I.kIn B.ga (cls_value I.kIn B.rd B.ini rfl ?_);refine xn hpl ?_;have hs:=ha pos pins _ G H _ (I.tok (s.toks+1)) h;rw[he] at hs ⊢;refine vf (thn hs λus s1 ⟨vs,H1,I1,r,e,C,f,od,z,ev,hx,O,q⟩=>?_);subst ev;obtain⟨u,u2,rfl,ru,ru2⟩:=Na r;obtain rfl:u=je e:=ru;obtain⟨⟨t0,h0⟩,_,_⟩:=(show Bp X.prog X.w H1 s1.heap e (He e C od) from I1.hok e _ hx);refine iV O I1.kIn h0 λh' t' hk he'=>⟨.non,H1,?_,rfl,q⟩;have z:=I1.write (x:=e) (e:=e) (o:=He e C od) (h':=h') (t':=s1.toks) (by rw[hx];exact o3) (.inl rfl) hk ⟨_,he'⟩ (iI ⟨t',he'⟩);rw[Aas hx] at z;exact z
def yZ (te:TE):TE:=λG H Q=>te G H λv H1=>∃i:Int,v=.int i/\i.natAbs<10 ^ 12/\∀z,Q (.str z) H1
theorem pC {n:Nat}(h:n<10 ^ 12):n.log2<1920:=by
 have:n.log2<40:=by
  by_cases h0:n=0
  ·subst h0;decide
  ·exact(Nat.log2_lt h0).mpr (gi h (by decide))
 lia
theorem wT {c:Str}{j:Nat}(hc:c.length<=1000)(he:PE X e te):PE X (.JoinedStr [.Constant (.str c) j p1,.FormattedValue e (-1) none p2] pos) (yZ te):=by
 k_in;have sl:2000<=sizeLine:=by decide
 refine JoinedStr_many (MK (FO ⟨?_,MK (FormattedValue_plain (thn (he pins _ G H _ (I.tok _) h) λu s1 ⟨v,H1,I1,r,i,ev,hi,q⟩=>?_))⟩))
 ·rw[FC]
  show 0+c.length<=_;lia
 ·subst ev
  obtain⟨tk,rfl⟩:=r;have hl:=int_text_length_le10 (k:=12) (by decide) hi;have hz:(yu++c++(me (toString i))).length<=sizeLine:=by
   rw[FC,FC];show 0+c.length+_<=_;have:(me (toString i)).length<=13:=by rw[PySem.ofString_length];exact hl
   lia
  refine formatField_int_small (pC hi) ⟨hz,joinParts_nil ⟨.str _,H1,I1.tok _,⟨_,rfl⟩,q _⟩ hz⟩
def sP (K:eh)(ta tv:TE):TS:=λD G H=>tv G H λy H1=>ta G H1 λx H2=>∃e W C f,x=.ref e/\H2 e=some (He e C none)/\Mp K W C f/\Id K C /\
 ∀dx,H2 dx=none->D.nx G (upd (upd H2 dx (.xd [("place",y)])) e (He e C (some dx)))
theorem rO (ha:PE X o ta)(hv:PE X value tv)(hs:autoParam (swapsWith value (some (.Attribute o "place" pos')) pos.line X.env=pure false) QD):PS X (.Assign [.Attribute o "place" pos'] value pos) (sP X.K ta tv):=by
 k_end;refine plainObj_wpAny_Assign_Attribute (thE hv I h λu s1 y H1 I1 ry q=>thE ha I1 q λov s2 x H2 I2 rx ⟨e,W,C,f,ex,hx,O,Z,q2⟩=>?_) hs;subst ex;obtain rfl:ov=je e:=rx;obtain⟨⟨t0,h0⟩,_,_⟩:=(show Bp X.prog X.w H2 s2.heap e (He e C none) from I2.hok e _ hx);refine nU O Z I2.kIn h0 λh' dx tk hk he' hne hsz hn=>⟨G,_,?_,q2 dx (I2.hok.fresh hsz)⟩;have fr:=I2.hok.fresh hsz;have nb:∀b ob,s2.heap.get? b=some ob->b≠dx:=λb ob z=>ig (gi (gh z) hsz);have nt:∀{b:fg} {u:HO},H2 b=some u->b≠dx:=λz=>Al z fr;have ne:∀{b:fg},H2 b=none->b≠e:=λz y=>by rw[y,hx] at z;cases z
 have mv:∀{b:fg},b≠e->b≠dx->upd (upd H2 dx (.xd [("place",y)])) e (He e C (some dx)) b=H2 b:=λz z2=>by rw[Ai z,Ai z2]
 have xt:∀{b:fg} {u:HO},H2 b=some u->u≠He e C none->b≠e:=λz n y=>by rw[y,hx] at z;cases z;exact n rfl
 refine I2.un (t':=tk) ⟨λb ob z n _ _=>hk b ob (ne n) z,λb ob z n _ _=>⟨ob.slots,hk b ob (ne n) z⟩,λb ob z n _=>by rw[mv (ne n) (nb b ob z)];exact n,λb ob z _=>?_,λb xs z=>?_,λb ob u z=>?_,λb ps z=>?_⟩ λb ob z=>?_
 ·by_cases hb:b=e
  ·subst hb;exact⟨_,he'⟩
  ·exact⟨ob,hk b ob hb z⟩
 ·rw[mv (xt z (by intro y;cases y)) (nt z)];exact z
 ·rw[mv (xt z (by intro y;cases y)) (nt z)];exact z
 ·exact⟨#[],by rw[mv (xt z (by intro y;cases y)) (nt z)];simpa using z⟩
 ·by_cases hb:b=e
  ·subst hb
   rw[Ac] at z;cases z;exact iI ⟨t0,he'⟩
  ·rw[Ai hb] at z
   by_cases hb2:b=dx
   ·subst hb2
    rw[Ac] at z;cases z;refine⟨_,hn,λf=>?_⟩
    by_cases hf:f="place"
    ·subst hf
     simpa [L7] using ry
    ·have:ou f [(("place":Str),y)]=none:=by
      rw[ou,show(f==("place":Str))=false from beq_eq_false_iff_ne.mpr hf];rfl
     rw[this];simp[L7,hf]
   ·rw[Ai hb2] at z
    refine(I2.hok b ob z).stay (λc w' hc y=>hk c w' ?_ y) (λc y=>?_) λc xs y=>?_
    ·rcases hc with rfl|hc
     ·exact hb
     ·exact xt hc (by intro y;cases y)
    ·rw[mv (xt y (by intro y;cases y)) (nt y)];exact y
    ·rw[mv (xt y (by intro y;cases y)) (nt y)];exact y
def gU (K:eh)(te:TE):TE:=λG H Q=>te G H λx H1=>∃e W C f dx fs i,x=.ref e/\H1 e=some (O7 e C (some dx))/\Mp K W C f/\Id K C/\H1 dx=some (.xd fs)/\fs.lookup ("place":Str)=some (V.int i)/\Q (.int i) H1
theorem pT (he:PE X e te)(hb:autoParam (attributeBase e "place" X.env (eval e X.env)=eval e X.env) QD):PE X (.Attribute e "place" pos) (gU X.K te):=by
 k_in;refine kW hb (thE he I h λu s1 y H1 I1 ry ⟨x,W,C,f,dx,fs,i,ey,hx,O,Z,hd,hl,q⟩=>?_);subst ey;obtain rfl:u=je x:=ry;obtain⟨⟨ox,ws,hox,hoc,hod,hdd⟩,_,_⟩:=(show Bp X.prog X.w H1 s1.heap x (O7 x C (some dx)) from I1.hok x _ hx);obtain⟨mA,hn,hr⟩:=(show Bp X.prog X.w H1 s1.heap dx (.xd fs) from I1.hok dx _ hd);have rr:=hr "place";rw[hl] at rr
 cases em:mA "place" with
 |none=>rw[em] at rr;exact rr.elim
 |some v=>
  rw[em] at rr;obtain⟨tk,rfl⟩:=(show ∃tk,v=nv i tk from rr);exact oM O Z I1.kIn hox hoc hod hdd hn em rfl λtk'=>⟨.int i,H1,I1.tok _,⟨_,rfl⟩,q⟩
end
section
variable {M:yl} {prog:gv} {w:ir} {A:ji} {E:Za0} {s:fw} {env:Env} {K:eh} {W C f:fg}
theorem mW {x:Sem fv}{Q:Flow->fw->Prop}(O:Mp K W C f)(hh:A.handled=none)(q:wpAny M A x (λv QN=>∃e t od,v=.ref e/\K.In QN.heap/\QN.heap.get? e=some (J2 C t od)/\E (.ref e) QN) E s) :
  wpAny M A (raiseStmt env (some x) none) Q E s:=by
 have cB:(je C::.ref W::Fk).contains (.type "BaseException")=true:=by simp[Fk]
 unfold raiseStmt;refine wpAny_bind (thn q λv QN ⟨e,t,od,ev,X,hx,hE⟩=>?_);subst ev;obtain⟨nm,qn,N,bs,sn,sub,ab,col,dd,k0,k1,k2,k3,k5,lk⟩:=O.ob;have hC:=X _ _ lk;obtain⟨hp,g,d,tk,os⟩:=QN
 repeat (first|with_reducible refine rb hx ?_|with_reducible refine rb hC ?_|(with_reducible refine z6 hC ?_;rw[cB])|wp_step)
 exact wpAny_raiseNew_none hh hE
theorem mM {x:Str}{np:Pos}{args:List jc}{Q:Flow->fw->Prop}(O:Mp K W C f)(hh:A.handled=none)(hplain:(backTo cpos (starEach args env)).any (·.1)=false)
  (q:wpAny (model prog w) A (eval (.Name x np) env) (λv QN=>v=.ref C/\wpAny (model prog w) A (evalArgs (.ref C) true (backTo cpos (starEach args env)) []) (λa QR=>a.kw=[]/\a.pos.length<=sizeLine/\K.In QR.heap /\
   ∀h' e,wf QR.heap h' e (.ref C) a.pos->QR.heap.objs.size<=e->wpAny (model prog w) (A.under (.builtin "type.__call__" ⟨.ref C::a.pos,[]⟩)) (call (.ref f) (.ref e::a.pos)) (λr QY=>r=.none/\∃t od,K.In QY.heap/\QY.heap.get? e=some (J2 C t od)/\E (.ref e) QY) E { QR with heap:=h' }) E QN) E s) :
  wpAny (model prog w) A (exec (.Raise (some (.Call (.Name x np) args [] cpos)) none pos) env) Q E s:=by
 rw[arm_exec_Raise];simp only[evalOpt,JD];refine wpAny_bind (qf (mW O hh (wpAny_bind (thn (wpAny_Call_ofName (thn q λv QN q1=>?_)) λv QY q3=>wpAny_bind (qf (ft q3))))));obtain⟨rfl,q1⟩:=q1;unfold callWith;refine wpAny_bind (wpAny_holding (thn q1 λa QR q2=>wpAny_bind (qf ?_)));obtain⟨ap,ak⟩:=a;obtain⟨hk,hl,X,q2⟩:=q2;obtain rfl:ak=[]:=hk;obtain⟨nm,qn,N,bs,sn,sub,ab,col,dd,k0,k1,k2,k3,k5,lk⟩:=O.ob;obtain⟨hp,g,d,tk,os⟩:=QR;simp only[hplain];refine wpAny_bind (wpAny_keeperOf_exc (X _ _ lk) ?_);refine wpAny_bind (qS O X hl λh' e mx he=>thn (q2 h' e mx he) λr QY q3=>⟨q3.1,wpAny_bind (wpAny_holding (wpAny_point (ft ?_)))⟩);obtain⟨_,t,od,X3,h3,q3⟩:=q3;exact⟨e,t,od,rfl,X3,h3,q3⟩
end
inductive rX (C:fg)(vs:List V)(H:Hp)(Q:VK)(E:XK):Prop|mk(e:fg)(i:Int)(_:vs=[.ref e,.int i])(_:H e=some (He e C none))(_:i.natAbs<10 ^ 12)(_:∀dx,H dx=none->Q .non (upd (upd H dx (.xd [("place",.int i)])) e (He e C (some dx))))
structure Acz (P:gv) (w:ir) (K:eh) (mg:Za2) (base:jo) (name:Str) (W C:fg) (k:Nat) (ps:Za6):Prop where
 ex:∃(f:fg) (fd:ke),As P w K mg base CX0 k f fd ps (rX C)/\Dn K fd ps []/\Mp K W C f
 at_:mg name=some (.ref C)
 ek:Id K C
def jX (C:fg)(E:XK)(t:TA):TS:=λ_ G H=>t G H λvs H1=>∃i:Int,vs=[.int i]/\i.natAbs<10 ^ 12/\∀dx,H1 dx=none->E (.ref C) (some dx) (upd H1 dx (.xd [("place",.int i)]))
section
variable {P:gv} {w:ir} {K:eh} {mg:Za2} {base:jo} {N:Za6} {qual:Str} {scope:ol} {f:fg} {cd:fv} {A:ji} {outer:List Env} {mt:fw} {QP:Hp} {E:XK}
theorem fU {G:St}{s3:fw}{e t:fg}(I:Inv (By (CXE P w) P w K mg base N qual scope f cd A outer mt QP E) pins G H s)(hn:s.heap.get? e=none)(ho:s3.os=s.os)(hg:ww s3.gens)
  (un:Un (frs (By (CXE P w) P w K mg base N qual scope f cd A outer mt QP E).stack) [] H H' s.heap s3.heap)(hok:HOk P w H' s3.heap)(hu:H' e=none)(he:s3.heap.get? e=some (J2 C t od))(q:E (.ref C) od H') :
  (By (CXE P w) P w K mg base N qual scope f cd A outer mt QP E).xe (.ref e) s3:=by
 show wpAny (model P w) (A.deeper (envOfC qual scope mt.heap.objs.size f cd)) (leaving (envOfC qual scope mt.heap.objs.size f cd) (.ref e)) _ _ _;have I3:=I.call' ho un hok hg (by simp);have hfr:∀b∈frs (By (CXE P w) P w K mg base N qual scope f cd A outer mt QP E).stack,H' b=none:=I3.stkFree;have hin:∀env∈(By (CXE P w) P w K mg base N qual scope f cd A outer mt QP E).stack,∀b,env.frame=some b->b∈e::frs (By (CXE P w) P w K mg base N qual scope f cd A outer mt QP E).stack:=λenv he b hb=>gz _ (sk.mpr ⟨env,he,hb⟩);have hen:(hideAll s3.heap (e::frs (By (CXE P w) P w K mg base N qual scope f cd A outer mt QP E).stack)).get? e=none:=DT _ il;have hBh:(hideAll s3.heap (e::frs (By (CXE P w) P w K mg base N qual scope f cd A outer mt QP E).stack)).StaysIn s3.heap:=λb o z=>AV _ z;refine wpAny_mono (Oh (Mr _ _) (wpAny_leaving_firstW (L:=mt.heap.objs.size) (outer:=outer) (base:=hideAll s3.heap (e::frs (By (CXE P w) P w K mg base N qual scope f cd A outer mt QP E).stack)) (a0:=.ref t)
  (Q:=λ_ s'=>∃h2,s'={ s3 with heap:=h2 }/\Heap.LeftW (hideAll s3.heap (e::frs (By (CXE P w) P w K mg base N qual scope f cd A outer mt QP E).stack)) (envOfC qual scope mt.heap.objs.size f cd::outer) e (.ref C) (.ref t) s3.heap h2)
  I.ok.frames (CM I3.stack hin) rfl he hBh hen rfl rfl rfl λh2 L=>⟨h2,rfl,L⟩)) (λ_ s' z=>?_) λ_ _ z=>z
 obtain⟨⟨h2,rfl,k1,⟨_,_,k2⟩,k3,k4⟩,kd⟩:=z;obtain⟨hp,g,d,tt,os⟩:=s3;have ho:os=s.os:=ho;subst ho;refine We (s:=s) (g:=g) (d:=d) (t:=tt) (h1:=hp) I un hok hfr hg hn hu (λb o z y=>?_) hBh (⟨⟨k1,hen,k2,k3⟩,Lq kd ⟨_,he,rfl⟩⟩:P4 _ outer e (.ref C) (.ref t) od h2) k4 q
 by_cases hb:b∈e::frs (By (CXE P w) P w K mg base N qual scope f cd A outer mt QP E).stack
 ·rcases i9.mp hb with z|z
  ·exact .inl z
  ·exact .inr (.inl z)
 ·rw[yj _ z hb] at y
  cases y
theorem Op {x:Str}{W:fg}{k:Nat}{np:Pos}{a:jc}{as:List jc}{t:TA}(Y:Acz P w K mg base x W C k ps)(hr:Bv (k+1) (By (CXE P w) P w K mg base N qual scope f cd A outer mt QP E).A)(hg:Gl (By (CXE P w) P w K mg base N qual scope f cd A outer mt QP E) x)
  (ha:PA (By (CXE P w) P w K mg base N qual scope f cd A outer mt QP E) (a::as) t)(hdb:autoParam ((x==("__debug__":Str))=false) QF)
  (he:autoParam (starEach (a::as) (By (CXE P w) P w K mg base N qual scope f cd A outer mt QP E).env=(false,eval a (By (CXE P w) P w K mg base N qual scope f cd A outer mt QP E).env)::starEach as (By (CXE P w) P w K mg base N qual scope f cd A outer mt QP E).env) QD)
  (hpl:autoParam ((backTo cpos (starEach as (By (CXE P w) P w K mg base N qual scope f cd A outer mt QP E).env)).any (·.1)=false) QD) :
  PS (By (CXE P w) P w K mg base N qual scope f cd A outer mt QP E) (.Raise (some (.Call (.Name x np) (a::as) [] cpos)) none pos) (jX C E t):=by
 k_end;obtain⟨fi,fd,F,B,O⟩:=Y.ex;refine mM O (I.ok.hd rfl) ?_ ?_
 ·rw[he]
  show((false||(backTo cpos (starEach as _)).any (·.1)))=false;rw[hpl];rfl
 refine F3 I hg Y.at_ ⟨rfl,?_⟩ hdb;have hs:=ha cpos pins s G H _ I h;rw[he] at hs ⊢;refine vf (thn hs λus s2 ⟨vs,H1,I1,r,i,ev,hi,q⟩=>⟨rfl,?_,I1.kIn,λh1 e mx hsz=>?_⟩)
 ·have:=r.length
  subst ev;show us.length<=sizeLine;rw[<-this];show 1<=sizeLine;decide
 subst ev;have new:H1 e=none:=I1.hok.fresh hsz;obtain⟨t,het,_⟩:=mx.there;have I2:=I1.laid (a:=e) (o:=He e C none) (t':=s2.toks) mx.keeps hsz (iI ⟨t,het⟩);have hl:(je e::us).length=ps.length:=by
  rw[<-F.len [.ref e,.int i] (upd H1 e (He e C none)) (λ_ _=>True) E0 ⟨e,i,rfl,Ac,hi,λ_ _=>o3⟩];show us.length+1=_;rw[<-r.length];rfl
 refine om (qb (F.run _ _ _ (upd H1 e (He e C none)) ⟨.ref e::us,[]⟩ (.ref e::us) [.ref e,.int i] (λv H2=>v=.non/\∃dx,upd H1 e (He e C none) dx=none/\H2=upd (upd (upd H1 e (He e C none)) dx (.xd [("place",.int i)])) e (He e C (some dx))) E0
  (hr.make C us []) (I2.env0.make C us []) (by have:=B _ (je e::us) I2.kIn (by simpa using hl);simpa using this) (.cons rfl r) ⟨e,i,rfl,Ac,hi,λdx hd=>⟨rfl,dx,hd,rfl⟩⟩) λr' s3 hq=>?_)
 cases r' with
 |error x=>exact hq.elim
 |ok fl=>
  cases fl with
  |next=>exact hq.elim
  |brk=>exact hq.elim
  |cont=>exact hq.elim
  |ret u=>
   obtain⟨v,H3,ho,hg3,un,hok,rv,evn,dx,hd,eH⟩:=hq;subst evn;obtain rfl:u=qw:=rv;have hde:dx≠e:=λz=>by rw[z,Ac] at hd;cases hd
   have hd1:H1 dx=none:=by rw[Ai hde] at hd;exact hd
   have e3:H3 e=some (He e C (some dx)):=by rw[eH,Ac]
   obtain⟨⟨t3,he3⟩,_,_⟩:=(show Bp P w H3 s3.heap e (He e C (some dx)) from hok e _ e3);have mv:∀b,b≠e->H3 b=upd H1 dx (.xd [("place",.int i)]) b:=λb hb=>by
    rw[eH,Ai hb]
    by_cases h2:b=dx
    ·subst h2;rw[Ac,Ac]
    ·rw[Ai h2,Ai h2,Ai hb]
   have hu:upd H1 dx (.xd [("place",.int i)]) e=none:=by rw[Ai (qh hde)];exact new
   have nb:∀b o,s2.heap.get? b=some o->b≠e:=λb o z y=>by rw[y,mx.new] at z;cases z
   have nt:∀{b:fg} {o:HO},H1 b=some o->b≠e:=λz=>Al z new;have m1:∀b,b≠e->upd H1 e (He e C none) b=H1 b:=λb hb=>Ai hb;have I3:=I2.call' ho un hok hg3 (by simp);refine⟨rfl,t3,some dx,I3.kIn,he3,fU (H':=upd H1 dx (.xd [("place",.int i)])) I1 mx.new ho hg3 ⟨λb o z n nf nx=>?_,λb o z n nf nx=>?_,λb o z n nx=>?_,λb o z nx=>?_,λb xs z=>?_,λb o u z=>?_,λb ps z=>?_⟩ (λb o z=>?_) hu he3 (q dx hd1)⟩
   ·exact un.keep b o (mx.keeps b o z) (by rw[m1 b (nb b o z)];exact n) nf nx
   ·exact un.slot b o (mx.keeps b o z) (by rw[m1 b (nb b o z)];exact n) nf nx
   ·rw[<-mv b (nb b o z)];exact un.free b o (mx.keeps b o z) (by rw[m1 b (nb b o z)];exact n) nx
   ·exact un.there b o (mx.keeps b o z) nx
   ·rw[<-mv b (nt z)];exact un.tups b xs (by rw[m1 b (nt z)];exact z)
   ·rw[<-mv b (nt z)];exact un.frzs b o u (by rw[m1 b (nt z)];exact z)
   ·rw[<-mv b (nt z)];exact un.tbls b ps (by rw[m1 b (nt z)];exact z)
   ·have hb:b≠e:=λy=>by rw[y,hu] at z;cases z
    rw[<-mv b hb] at z;refine(hok b o z).stay (λ_ _ _ y=>y) (λc y=>?_) λc xs y=>?_
    ·rw[<-mv c (λy2=>by rw[y2,e3] at y;cases y)];exact y
    ·rw[<-mv c (λy2=>by rw[y2,e3] at y;cases y)];exact y
end
section
variable {X:Cx}
def xG:V->List V->Hp->VK->Prop:=λx vs H Q=>∃(l:fg) (xs:List V) (y:V),x=.ref l/\vs=[y]/\H l=some (.lst xs)/\xs.all Dt=true/\Dt y=true/\Q (.int (xs.countP (λz=>eqV z y):Nat)) H
theorem Sv {y:V}:∀{xs:List V} {us:Za3},Av xs us->xs.all Dt=true->us.countP (eqU y)=xs.countP λz=>eqV z y
 |_,_,.nil,_=>rfl
 |x::xs,u::us,.cons r t,f=>by
  rw[DL,ky] at f;rw[AQ,AQ,Sv t f.2,Rq r f.1]
theorem nH:MtM X "list.count" xG:=by
 intro pins s G H x vs v us Q I rx rv h;obtain⟨l,xs,y,rfl,rfl,hH,hf,hy,q⟩:=h;cases rx;obtain⟨u,rfl,ru⟩:=Fm rv;obtain⟨z,its,n,r,hl,e⟩:=I.lstM hH;refine ub F.slot_list_count ⟨_,e,rfl⟩ F.entry_list_count (F.args_list_count_2 _ _) (SeqAt.list_countAt l its.toArray n none #[] u (eqU y)) ⟨e,λw hw=>Ix ru hy r hf w (by simpa using hw),?_⟩;rw[show its.toArray.toList=its from rfl,Sv r hf];exact⟨.int _,H,I.tok _,⟨_,rfl⟩,q⟩
def xH:V->List V->Hp->VK->Prop:=λx vs H Q=>∃(l:fg) (xs:List V) (y:V) (j:Nat),x=.ref l/\vs=[y]/\H l=some (.lst xs)/\xs.all Dt=true/\Dt y=true/\(xs[j]?.map λz=>eqV z y)=some true/\(∀i:Nat,i<j->(xs[i]?.map λz=>eqV z y)≠some true)/\Q (.int (j:Nat)) H
theorem mU:MtM X "list.index" xH:=by
 intro pins s G H x vs v us Q I rx rv h;obtain⟨l,xs,y,j,rfl,rfl,hH,hf,hy,hj,hno,q⟩:=h;cases rx;obtain⟨u,rfl,ru⟩:=Fm rv;obtain⟨z,its,n,r,hl,e⟩:=I.lstM hH;have at':∀i (hi:i<its.length),(xs[i]?.map λz=>eqV z y)=some (eqU y its[i]):=λi hi=>by
  have e1:xs[i]?=some (xs[i]'(by lia)):=fc _;obtain⟨u,eu,ru⟩:=r.get e1;rw[fc hi] at eu;cases eu;rw[Rq ru (oy.mp hf _ (GU _)),e1];rfl
 have hjl:j<its.length:=by
  cases ej:xs[j]? with
  |none=>rw[ej] at hj;cases hj
  |some w=>have:=(ge.mp ej).1;lia
 have sl:=Jt;refine ub IH ⟨_,e,rfl⟩ HV (GZ _ _)
  (FF l its.toArray n none #[] u (eqU y) j (by simpa using hjl) (by lia) ?_ ?_) ⟨e,λw hw=>Ix ru hy r hf w (by simpa using hw),?_⟩
 ·show eqU y its[j]=true
  rw[at' j hjl] at hj;exact fq hj
 ·intro i hi hlt
  show eqU y its[i]=false;have:=hno i hlt;rw[at' i (by simpa using hi)] at this;exact wu.mpr λz=>this (congrArg some z)
 ·exact⟨.int j,H,I.tok _,⟨_,rfl⟩,q⟩
end
section
variable {G:St} {H:Hp} {D:Iw} {Q:VK} {te ta tv:TE} {t:TA} {K:eh} {W C:fg} {E:XK}
theorem vP (h:t G H λvs H1=>∃e C f od z,vs=[.ref e,.str z]/\H1 e=some (He e C od)/\Mp K W C f/\Q .non H1):rY K W t G H Q:=h
theorem Acg (h:te G H λv H1=>∃i:Int,v=.int i/\i.natAbs<10 ^ 12/\∀z,Q (.str z) H1):yZ te G H Q:=h
theorem rP (h:tv G H λy H1=>ta G H1 λx H2=>∃e W C f,x=.ref e/\H2 e=some (He e C none)/\Mp K W C f/\Id K C/\∀dx,H2 dx=none->D.nx G (upd (upd H2 dx (.xd [("place",y)])) e (He e C (some dx)))):sP K ta tv D G H:=h
theorem xO (h:te G H λx H1=>∃e W C f dx fs i,x=.ref e/\H1 e=some (O7 e C (some dx))/\Mp K W C f/\Id K C/\H1 dx=some (.xd fs)/\fs.lookup ("place":Str)=some (V.int i)/\Q (.int i) H1):gU K te G H Q:=h
theorem tX (h:t G H λvs H1=>∃i:Int,vs=[.int i]/\i.natAbs<10 ^ 12/\∀dx,H1 dx=none->E (.ref C) (some dx) (upd H1 dx (.xd [("place",.int i)]))):jX C E t D G H:=h
end
theorem gP (K:eh)(h:autoParam (X.K=K) QD):Ey X (.builtin "isinstance") (Adx K):=by
 subst h;exact Du
def zX (K:eh)(te ts:TE):TE:=λG H Q=>te G H λx H1=>ts G H1 λy H2=>∃a xs st,x=.ref a/\y=.int st/\0<st/\SqL K H2 a xs /\
 ∀p ys,H2 p=none->(∀v∈ys,v∈xs)->ys.length<=xs.length->Q (.ref p) (upd H2 p (.lst ys))
theorem Oz {xs:List V}{us:Za3}(r:Av xs us):∀is:Za4,Av (is.filterMap λi=>xs[i]?) (is.filterMap λi=>us[i]?)
 |[]=>.nil
 |i::is=>by
  have ih:=Oz r is;have l:=r.length
  by_cases h:i<us.length
  ·obtain⟨u,eu,ru⟩:=r.get (fc (show i<xs.length by lia))
   rw[nj,nj,fc (show i<xs.length by lia),eu];exact .cons ru ih
  ·rw[nj,nj,jk (show us.length<=i by lia),jk (show xs.length<=i by lia)]
   exact ih
section
variable {X:Cx} {e st:jc} {te ts:TE} {pos p2:Pos}
theorem vT (he:PE X e te)(hst:PE X st ts):PE X (.Subscript e (.Slice none none (some st) p2) pos) (zX X.K te ts):=by
 k_in;refine Subscript_ (thE he I h λv s1 x H1 I1 r1 q1=>?_);refine HK ?_;rw[AJ];refine ft ?_;refine ft ?_;rw[evalPart_some];refine thE hst I1 q1 λu s3 y H3 I3 r3 ⟨a,xs,k,ex,ey,hk,hs,q⟩=>?_;subst ex ey;obtain rfl:v=je a:=r1;obtain⟨t,rfl⟩:=r3;have I4:Inv X pins G H3 { s3 with heap:=s3.heap.push { cls:=.type "slice",data:=.fields #[.none,.none,.int k t] } }:=I3.kept (t':=s3.toks) λb ob q=>fh _ q;obtain⟨its,r,pl,hz⟩:=I4.list hs;have e1:=r.length;show wpAny (model X.prog X.w) X.A (subscriptTail e (.Slice none none (some st) p2) (.ref a) (.ref s3.heap.objs.size)) (EP X pins G Q) X.xe { s3 with heap:=s3.heap.push { cls:=.type "slice",data:=.fields #[.none,.none,.int k t] } };refine HL (ops:=[.ref a,.ref s3.heap.objs.size]) pl.isList.typeIs list_getitem_lookup ?_ (by with_unfolding_all rfl);refine FB pl.isList (BI ..) .none .none (.int k t) (by intro z;have:=fq z;lia) ?_ (by rw[gn];lia);have hp:slicePick its.toArray none none (some k)=((sliceRange (sliceBounds none none (some k) its.length).1 (sliceBounds none none (some k) its.length).2.1 (sliceBounds none none (some k) its.length).2.2).filterMap λi=>its[i]?).toArray:=by
  unfold slicePick;simp
 rw[hp];generalize sliceRange (sliceBounds none none (some k) its.length).1 (sliceBounds none none (some k) its.length).2.1 (sliceBounds none none (some k) its.length).2.2=is at *;have hlen:(is.filterMap λi=>xs[i]?).length<=xs.length:=by
  have:=slicePick_size_le its.toArray none none (some k);rw[hp,gn,<-(Oz r is).length,gn] at this;lia
 exact⟨.ref _,_,I4.lnew (t':=s3.toks) (Oz r is) (by lia),rfl,q _ _ (I4.hok.fresh (fk _)) (λv hv=>by
  obtain⟨i,_,hi⟩:=sk.mp hv;exact gg hi) hlen⟩
theorem Aa8 {K:eh}{G:St}{Q:VK}(h:te G H λx H1=>ts G H1 λy H2=>∃a xs st,x=.ref a/\y=.int st/\0<st/\SqL K H2 a xs /\
 ∀p ys,H2 p=none->(∀v∈ys,v∈xs)->ys.length<=xs.length->Q (.ref p) (upd H2 p (.lst ys))):zX K te ts G H Q:=h
end
theorem Wp:entryFor table "zip.__getattribute__"=some qu.«object.__getattribute__» :=
 entryFor_alias (id':="object.__getattribute__") (by kernel_rfl) (by first|rfl|decide +kernel) (by decide +kernel) (by kernel_rfl)
theorem X8:typeLookup (.type "zip") "keys"=pure none:=by rw[KJ,GP];kernel_rfl
theorem Yv:typeLookup (.type "zip") "__getattr__"=pure none:=by rw[KJ,GP];kernel_rfl
abbrev Ac2 (vs:Array fv):Obj:={ cls:=.type "zip",dict:=none,data:=.fields vs,slots:=#[] }
theorem gM (a:fg)(vs:Array fv)(u:Tok):Meets (qu.«object.__getattribute__» ⟨[.ref a,.str "keys" u],[]⟩) (λA R s=>s.heap.get? a=some (Ac2 vs)/\raisesAttr (.ref a) "keys" A R s):=
 Meets.of_wp λprog w A R s hs=>by
  obtain⟨hp,g,d,tk,os⟩:=s;obtain⟨hx,hs⟩:=hs;have hT:(⟨hp,g,d,tk,os⟩:fw).TypeIs (.ref a) "zip":=⟨_,hx,rfl⟩;have f4:=X8
  repeat (any_goals (first|assumption|with_reducible refine rb hx ?_|wp_step))
  exact wpAny_raiseAttrError hs.1 hs.2 (by decide +kernel)
section
variable {prog:gv} {w:ir} {A:ji} {E:Za0} {s:fw}
theorem vW {a:fg}{vs:Array fv}{Q:Za7->fw->Prop}(hx:s.heap.get? a=some (Ac2 vs))(hA:A.handled=none)(q:∀h' tk,(∀b o,s.heap.get? b=some o->h'.get? b=some o)->Q none { s with heap:=h',toks:=tk }) :
  wpAny (model prog w) A (getAttr? (.ref a) "keys") Q E s:=by
 obtain⟨hp,g,d,tk,os⟩:=s;have hT:∀tk',(⟨hp,g,d,tk',os⟩:fw).TypeIs (.ref a) "zip":=λ_=>⟨_,hx,rfl⟩;have f1:=sub_AttributeError;have f3:=uj.lookup;have f4:=uj.bind (.ref a);have f5:=Yv;unfold getAttr? getAttrBy? getAttrBy
 repeat (any_goals (first|assumption|exact hT _|((with_reducible show wpAny _ _ (call (IA "zip.__getattribute__") _ _) _ _ _);refine ub uj (hT _) Wp (PySem.F.args_zip_getattribute_2 _ _) (gM a vs _) ⟨hx,hA,λh' tk' e hx'=>?_⟩)|wp_step))
 obtain⟨t',u',he⟩:=hx'.there;show wpAny _ _ (getattributeRaised _ _ _ _ _ _ _) _ _ _;unfold getattributeRaised
 repeat (any_goals (first|assumption|wp_step))
 exact q _ _ hx'.keeps
end
abbrev Oa (h:jo)(z TI TO T:fg)(c:Bool):Prop:=h.get? z=some (Ac2 #[rawInt T,.bool c,.bool false,.ref TI,.ref TO])
section
variable {prog:gv} {w:ir} {A:ji} {E:Za0} {s:fw}
theorem pR {a:fg}{Q:Option Obj->fw->Prop}(h:Q (s.heap.get? a) s):wpAny (model prog w) A (loadIfAlive a) Q E s:=λΓ p hΓ=>by
 show ML _ _ (.loadIfAlive a _) _ _ _ _;rw[Sem.wp_loadIfAlive];exact h
theorem Uw {TI TO T:fg}{c:Bool}{Q:Bool->fw->Prop}(hz:Oa s.heap z TI TO T c)(hT:s.heap.get? T=some oT)(q:∀h',Oa h' z TI TO T true->xq z s.heap h'->Q false { s with heap:=h' }) :
  wpAny (model prog w) A (ny (.ref z)) Q E s:=by
 unfold ny;refine wpAny_bind (rk hz rfl (x:=rawInt T) rfl ?_);show wpAny _ _ (loadIfAlive (xl (T:Int)) >>= _) _ _ _;refine wpAny_bind (pR ?_);rw[i8,hT];show wpAny _ _ (field (.ref z) 1 >>= _) _ _ _;refine wpAny_bind (rk hz rfl (x:=.bool c) rfl ?_)
 cases c with
 |true=>
  exact ft (q s.heap hz (LX _ _))
 |false=>
  refine wpAny_bind (wpAny_setField_rec hz (by simp) λQT XF QU=>?_);exact ft (q QT XF QU)
theorem nR {TI TO T:fg}{k1 k2:Nat}{xs ys:Array fv}{x y:fv}{c:Bool}{Q:Za0}(D:BN z TI TO i1 i2 l1 l2)
  (hz:Oa s.heap z TI TO T c)(hT:s.heap.get? T=some oT)(hTI:wk s.heap TI (.ref i1) (.ref i2))(h1:s.heap.IsListIter i1 l1 k1)(h2:s.heap.IsListIter i2 l2 k2)(hl1:s.heap.IsList l1 xs)(hl2:s.heap.IsList l2 ys)(hx:xs[k1]?=some x)(hy:ys[k2]?=some y)
  (hQ:∀h',Oa h' z TI TO T true->h'.IsListIter i1 l1 (k1+1)->h'.IsListIter i2 l2 (k2+1)->wk h' s.heap.objs.size x y->h'.objs.size=s.heap.objs.size+1->(∀b o,b≠z->b≠i1->b≠i2->s.heap.get? b=some o->h'.get? b=some o)->Q (.ref s.heap.objs.size) { s with heap:=h' }) :
  wpAny (model prog w) A (qu.«zip.__next__» ⟨[.ref z],[]⟩) (λfin s'=>∃v,fin=.done (.ret v)/\Q v s') E s:=by
 show wpAny _ _ (field (.ref z) 2 >>= _) _ _ _;refine wpAny_bind (rk hz rfl (x:=.bool false) rfl ?_);show wpAny _ _ (field (.ref z) 3 >>= _) _ _ _;refine wpAny_bind (rk hz rfl (x:=.ref TI) rfl ?_);refine wpAny_bind (uo hTI rfl ?_);show wpAny _ _ (ny (.ref z) >>= _) _ _ _;refine wpAny_bind (Uw hz hT λQT XF QU=>?_);rw[if_neg (by decide)];refine wpAny_bind ?_;rw[<-wb];simp only[BH,IF];refine wpAny_bind (wpAny_bind (wpAny_holding ?_));show wpAny _ _ (t9 (.ref i1) >>= _) _ _ _;refine wpAny_bind (FY (h1.extBut QU.extBut D.i1z) (hl1.extBut QU.extBut D.l1z) hx λXO XQ XA=>ft ?_);refine ft ?_;refine wpAny_bind (wpAny_bind (wpAny_holding ?_));show wpAny _ _ (t9 (.ref i2) >>= _) _ _ _;refine wpAny_bind (FY ((h2.extBut QU.extBut D.i2z).extBut XA.extBut D.i12.symm) ((hl2.extBut QU.extBut D.l2z).extBut XA.extBut D.l2i1) hy λXG XR XH=>ft ?_);refine ft (ft ?_);have hsz:XG.objs.size=s.heap.objs.size:=by rw[XH.1,XA.1,QU.1]
 have kp:∀b o,b≠z->b≠i1->b≠i2->s.heap.get? b=some o->XG.get? b=some o:=λb o b1 b2 b3 e=>XH.extBut _ _ b3 (XA.extBut _ _ b2 (QU.extBut _ _ b1 e));have XS:Oa XG z TI TO T true:=XH.extBut _ _ D.i2z.symm (XA.extBut _ _ D.i1z.symm XF);show wpAny _ _ (newTuple [x,y] >>= _) _ _ _;refine wpAny_bind (EG (ft ⟨_,rfl,?_⟩));have hp:XG.objs.size=s.heap.objs.size:=hsz;rw[hp];refine hQ _ (fh _ XS) ((XQ.extBut XH.extBut D.i12).at λo e=>fh _ e) (XR.at λo e=>fh _ e) ?_ (by rw[we,hp]) λb o b1 b2 b3 e=>fh _ (kp b o b1 b2 b3 e);rw[<-hp];exact iq _ rfl
theorem mS {TI TO T:fg}{k1 k2:Nat}{xs ys:Array fv}{x y:fv}{c:Bool}{Q:Za7->fw->Prop}(D:BN z TI TO i1 i2 l1 l2)
  (hz:Oa s.heap z TI TO T c)(hT:s.heap.get? T=some oT)(hTI:wk s.heap TI (.ref i1) (.ref i2))(h1:s.heap.IsListIter i1 l1 k1)(h2:s.heap.IsListIter i2 l2 k2)(hl1:s.heap.IsList l1 xs)(hl2:s.heap.IsList l2 ys)(hx:xs[k1]?=some x)(hy:ys[k2]?=some y)
  (hQ:∀h',Oa h' z TI TO T true->h'.IsListIter i1 l1 (k1+1)->h'.IsListIter i2 l2 (k2+1)->wk h' s.heap.objs.size x y->h'.objs.size=s.heap.objs.size+1->(∀b o,b≠z->b≠i1->b≠i2->s.heap.get? b=some o->h'.get? b=some o)->Q (some (.ref s.heap.objs.size)) { s with heap:=h' }) :
  wpAny (model prog w) A (pyNext (.ref z)) Q E s:=by
 have hTy:s.TypeIs (.ref z) "zip":=⟨_,hz,rfl⟩;unfold pyNext;exact wpAny_bind (tj (uh (name:=me "__next__") hTy tu
  (vq tu hTy CO
   (nR D hz hT hTI h1 h2 hl1 hl2 hx hy λh' a1 a2 a3 a4 a5 a6=>ft (hQ h' a1 a2 a3 a4 a5 a6)) (BZ _))))
theorem qA {TI TO T:fg}{k1:Nat}{xs:Array fv}{c:Bool}{Q:Za7->fw->Prop}(hh:A.handled=none)(D:BN z TI TO i1 i2 l1 l2)
  (hz:Oa s.heap z TI TO T c)(hT:s.heap.get? T=some oT)(hTI:wk s.heap TI (.ref i1) (.ref i2))(h1:s.heap.IsListIter i1 l1 k1)(hl1:s.heap.IsList l1 xs)(hx:xs[k1]?=none)
  (hQ:∀h',(∀b o,b≠z->b≠i1->b≠i2->s.heap.get? b=some o->h'.get? b=some o)->Q none { s with heap:=h' }) :
  wpAny (model prog w) A (pyNext (.ref z)) Q E s:=by
 have hTy:s.TypeIs (.ref z) "zip":=⟨_,hz,rfl⟩;unfold pyNext;refine wpAny_bind (tj (uh (name:=me "__next__") hTy tu
  (vq tu hTy CO ?_ (BZ _))))
 show wpAny _ _ (field (.ref z) 2 >>= _) _ _ _;refine wpAny_bind (rk hz rfl (x:=.bool false) rfl ?_);show wpAny _ _ (field (.ref z) 3 >>= _) _ _ _;refine wpAny_bind (rk hz rfl (x:=.ref TI) rfl ?_);refine wpAny_bind (uo hTI rfl ?_);show wpAny _ _ (ny (.ref z) >>= _) _ _ _;refine wpAny_bind (Uw hz hT λQT XF QU=>?_);rw[if_neg (by decide)];refine wpAny_bind ?_;rw[<-wb];simp only[BH,IF];refine wpAny_bind (wpAny_bind (wpAny_holding ?_));show wpAny _ _ (t9 (.ref i1) >>= _) _ _ _;refine wpAny_bind (wpAny_nextOf_list_end hh (h1.extBut QU.extBut D.i1z) (hl1.extBut QU.extBut D.l1z) hx λXO e XA he=>?_);obtain⟨oe,hoe,hce⟩:=he;show wpAny _ _ (isInstance (.ref e) (.type "StopIteration") >>= _) _ _ _;refine wpAny_bind (wpAny_isInstance (T:="StopIteration") (b:=true) ⟨oe,hoe,hce⟩ isSubtype_stop ?_);exact ft (hQ _ λb o b1 b2 b3 e=>XA _ _ b2 (QU.extBut _ _ b1 e))
end
def J6 (vs:List (Key×fv)):Prop:=∀p∈vs,∃y:V,A9 y p.2
theorem Si:∀vs:List (Key×fv),J6 vs->∃kvs:List (Key×V),KV kvs vs
 |[],_=>⟨[],.nil⟩
 |p::r,h=>by
  obtain⟨kvs,hk⟩:=Si r λq hq=>h q (gz _ hq);obtain⟨y,hy⟩:=h p il;exact⟨(p.1,y)::kvs,.cons ⟨rfl,hy⟩ hk⟩
theorem Tw:∀{kvs:List (Key×V)} {vs:List (Key×fv)},KV kvs vs->J6 vs
 |_,_,.nil=>λp hp=>by cases hp
 |_,_,.cons h t=>λp hp=>by
  rcases i9.mp hp with rfl|hp
  ·exact⟨_,h.2⟩
  ·exact Tw t p hp
theorem J1 {vs:List (Key×fv)}{k:Key}{u:fv}(h:J6 vs)(hu:∃y:V,A9 y u):J6 (stored vs k u):=by
 intro p hp;unfold stored at hp;split at hp
 ·obtain⟨q,hq,e⟩:=jl.mp hp
  split at e
  ·rw[<-e];exact hu
  ·rw[<-e];exact h q hq
 ·rcases i5.mp hp with hp|hp
  ·exact h p hp
  ·rw[gw.mp hp];exact hu
theorem W9 {vs more:List (Key×fv)}(h:J6 vs)(hm:J6 more):J6 (merged vs more):=by
 unfold merged
 induction more generalizing vs with
 |nil=>exact h
 |cons p r ih=>exact ih (J1 h (hm p il)) λq hq=>hm q (gz _ hq)
section
variable {prog:gv} {w:ir} {A:ji} {E:Za0} {R:yp->fw->Prop}
theorem Cu:plainId "dict.update.loop"=true:=by decide +kernel
theorem G6:entryFor table "dict.update.loop"=some qu.«dict.update.loop»:=entryFor_of_tree (by kernel_rfl)
theorem Tf {T:fg}{x y:fv}{Q:Za3->fw->Prop}(hT:wk s.heap T x y)(h:Q [x,y] s):wpAny (model prog w) A (AR (.ref T)) Q E s:=by
 have ty:s.TypeIs (.ref T) "tuple":=⟨_,hT,rfl⟩;unfold AR;refine wpAny_bind (yo ty ?_);rw[if_pos (by decide)];exact wpAny_bind (uo hT rfl (ft h))
structure DzA (d z TI TO i1 i2 l1 l2:fg):Prop where
 za:BN z TI TO i1 i2 l1 l2
 dz:d≠z
 dI:d≠TI
 dO:d≠TO
 d1:d≠i1
 d2:d≠i2
 dl:d≠l1
 dm:d≠l2
theorem Aax {d TI TO T:fg}{xs ys:Array fv}(D:DzA d z TI TO i1 i2 l1 l2)(hTz:T≠z)(hT1:T≠i1)(hT2:T≠i2)(hTd:T≠d)(hh:A.handled=none)(he:xs.size=ys.size)
  (hk:∀(i:Nat) x,xs[i]?=some x->∃n t,x=nv n t)(hv:∀(i:Nat) y,ys[i]?=some y->∃v:V,A9 v y):∀(m i:Nat) (s:fw) (tk:Tok) (c:Bool) (vs:List (Key×fv)) (oT:Obj),xs.size-i=m->i<=xs.size->Oa s.heap z TI TO T c->s.heap.get? T=some oT->wk s.heap TI (.ref i1) (.ref i2) ->
   s.heap.IsListIter i1 l1 i->s.heap.IsListIter i2 l2 i->s.heap.IsList l1 xs->s.heap.IsList l2 ys->s.heap.DictOf (B7 prog w) d vs->J6 vs->vs.length+(xs.size-i)<=sizeLine ->
   (∀h' k vs',h'.DictOf (B7 prog w) d vs'->J6 vs'->vs'.length<=vs.length+(xs.size-i)->(∀b o,b≠z->b≠i1->b≠i2->b≠d->s.heap.get? b=some o->h'.get? b=some o)->R (.ok (.ret .none)) { s with heap:=h',toks:=k }) ->
   codeAny (model prog w) A (.builtin "dict.update.loop" ⟨[.ref d,.ref z,.int i tk,.none],[]⟩) R s:=by
 intro m
 induction m with
 |zero=>
  intro i s tk c vs oT hm hi hz hT hTI h1 h2 hl1 hl2 hd hkn hsz q;refine oq G6 ?_;rw[ml Cu _];show wpAny _ A.in1 (pyNext (.ref z) >>= _) _ _ s;refine wpAny_bind (qA (by exact hh) D.za hz hT hTI h1 hl1 (DX (by lia)) λh' kp=>?_);show wpAny _ A.in1 (z5 d [] >>= _) _ _ _;refine wpAny_bind (ft (ft ?_));obtain⟨o,es,ep,ho,r⟩:=hd;exact q h' s.toks vs ⟨o,es,ep,kp _ _ D.dz D.d1 D.d2 ho,r⟩ hkn (kq _ _) λb o b1 b2 b3 _ e=>kp b o b1 b2 b3 e
 |succ m ih=>
  intro i s tk c vs oT hm _ hz hT hTI h1 h2 hl1 hl2 hd hkn hsz q;have hi:i<xs.size:=Nat.lt_of_sub_eq_succ hm;have em:xs.size-(i+1)=m:=by rw[Nat.sub_add_eq,hm];rfl
  rw[hm] at hsz q;obtain⟨x,hx⟩:∃x,xs[i]?=some x:=⟨_,nq hi⟩;obtain⟨y,hy⟩:∃y,ys[i]?=some y:=⟨_,nq (he ▸ hi)⟩;obtain⟨n,t,rfl⟩:=hk i x hx;refine oq G6 ?_;rw[ml Cu _];show wpAny _ A.in1 (pyNext (.ref z) >>= _) _ _ s;refine wpAny_bind (mS D.za hz hT hTI h1 h2 hl1 hl2 hx hy λh' hz' h1' h2' hp hsz' kp=>?_);have hd':h'.DictOf (B7 prog w) d vs:=by
   obtain⟨o,es,ep,ho,r⟩:=hd;exact⟨o,es,ep,kp _ _ D.dz D.d1 D.d2 ho,r⟩
  show wpAny _ A.in1 (holding _ _ >>= _) _ _ _;refine wpAny_bind (wpAny_holding (wpAny_bind (rj (Tf hp ?_))));show wpAny _ A.in1 (holding _ (dictSet d (.int n t) y)) _ _ _;refine wpAny_holding (HY (knd:=B7 prog w) (k:=.inl n) (K7 prog w n t) hd' (λh2 dd' hs=>?_) (by lia));have k2:∀b o,b≠z->b≠i1->b≠i2->b≠d->s.heap.get? b=some o->h2.get? b=some o:=λb o b1 b2 b3 b4 e=>(hs.2 b b4).trans (kp b o b1 b2 b3 e);have st:∀b o,b≠d->h'.get? b=some o->h2.get? b=some o:=λb o b4 e=>(hs.2 b b4).trans e;have hln:=JL vs (xx n:Key) y;refine ft ⟨ra Cu _,?_⟩;refine ih (i+1) _ _ true _ oT em hi (st _ _ D.dz.symm hz') (k2 _ _ hTz hT1 hT2 hTd hT) (k2 _ _ D.za.TIz D.za.TIi1 D.za.TIi2 D.dI.symm hTI) (h1'.at λo e=>st _ o D.d1.symm e) (h2'.at λo e=>st _ o D.d2.symm e)
   (hl1.at λo e=>k2 _ o D.za.l1z D.za.l1i1 D.za.l1i2 D.dl.symm e) (hl2.at λo e=>k2 _ o D.za.l2z D.za.l2i1 D.za.l2i2 D.dm.symm e) dd' (J1 hkn (hv i y hy)) (by rw[em];lia) λh3 k vs' hd3 hkn3 hl3 kp3=>?_
  exact q h3 k vs' hd3 hkn3 (by rw[em] at hl3;lia) λb o b1 b2 b3 b4 e=>kp3 b o b1 b2 b3 b4 (k2 b o b1 b2 b3 b4 e)
theorem nX {tk:Tok}{d TI TO:fg}{a b:fv}{xs ys:Array fv}{vs:List (Key×fv)}(D:DzA d z TI TO i1 i2 l1 l2)(hh:A.handled=none)(he:xs.size=ys.size)
  (hk:∀(i:Nat) x,xs[i]?=some x->∃n t,x=nv n t)(hv:∀(i:Nat) y,ys[i]?=some y->∃v:V,A9 v y)(hz:IsZip s.heap z TI TO .none)(hTO:wk s.heap TO a b)(hTI:wk s.heap TI (.ref i1) (.ref i2))
  (h1:s.heap.IsListIter i1 l1 0)(h2:s.heap.IsListIter i2 l2 0)(hl1:s.heap.IsList l1 xs)(hl2:s.heap.IsList l2 ys)(hd:s.heap.DictOf (B7 prog w) d vs)(hkn:J6 vs)(hsz:vs.length+xs.size<=sizeLine)
  (q:∀h' k vs',h'.DictOf (B7 prog w) d vs'->J6 vs'->vs'.length<=vs.length+xs.size->(∀b o,b≠z->b≠TO->b≠i1->b≠i2->b≠d->s.heap.get? b=some o->h'.get? b=some o)->R (.ok (.ret .none)) { s with heap:=h',toks:=k }) :
  codeAny (model prog w) A (.builtin "dict.update.loop" ⟨[.ref d,.ref z,.int 0 tk,.none],[]⟩) R s:=by
 refine oq G6 ?_;rw[ml Cu _];show wpAny _ A.in1 (pyNext (.ref z) >>= _) _ _ s;rcases ql xs.size with h0|h0
 ·refine wpAny_bind (wpAny_pyNext_zip_end (by exact hh) D.za hz hTI hTO h1 h2 hl1 hl2 (.inl (DX (by lia))) λh' kp=>?_)
  show wpAny _ A.in1 (z5 d [] >>= _) _ _ _;refine wpAny_bind (ft (ft ?_));obtain⟨o,es,ep,ho,r⟩:=hd;exact q h' s.toks vs ⟨o,es,ep,kp _ _ D.dz D.dO D.d1 D.d2 ho,r⟩ hkn (kq _ _) λb o b1 b2 b3 b4 _ e=>kp b o b1 b2 b3 b4 e
 ·obtain⟨x,hx⟩:∃x,xs[0]?=some x:=⟨_,nq h0⟩
  obtain⟨y,hy⟩:∃y,ys[0]?=some y:=⟨_,nq (show 0<ys.size by lia)⟩;obtain⟨n,t,rfl⟩:=hk 0 x hx;refine wpAny_bind (wpAny_pyNext_zip_item D.za hz hTI hTO h1 h2 hl1 hl2 hx hy λh' hz' _ h1' h2' hp hsz' kp=>?_);have hd':h'.DictOf (B7 prog w) d vs:=by
   obtain⟨o,es,ep,ho,r⟩:=hd;exact⟨o,es,ep,kp _ _ D.dz D.dO D.d1 D.d2 ho,r⟩
  have lt:∀{c o},s.heap.get? c=some o->s.heap.objs.size≠c:=λe=>ue (gh e);have ltd:s.heap.objs.size≠d:=by
   obtain⟨o,es,ep,ho,r⟩:=hd;exact lt ho
  show wpAny _ A.in1 (holding _ _ >>= _) _ _ _;refine wpAny_bind (wpAny_holding (wpAny_bind (rj (Tf hp ?_))));show wpAny _ A.in1 (holding _ (dictSet d (.int n t) y)) _ _ _;refine wpAny_holding (HY (knd:=B7 prog w) (k:=.inl n) (K7 prog w n t) hd' (λhb dd' hs=>?_) (by lia));have k2:∀b o,b≠z->b≠TO->b≠i1->b≠i2->b≠d->s.heap.get? b=some o->hb.get? b=some o:=λb o b1 b2 b3 b5 b4 e=>(hs.2 b b4).trans (kp b o b1 b2 b3 b5 e);have st:∀b o,b≠d->h'.get? b=some o->hb.get? b=some o:=λb o b4 e=>(hs.2 b b4).trans e;have hln:=JL vs (xx n:Key) y;refine ft ⟨ra Cu _,?_⟩;refine Aax D (T:=s.heap.objs.size) (lt hz) (by obtain⟨_,e,_⟩:=h1;exact lt e) (by obtain⟨_,e,_⟩:=h2;exact lt e) ltd hh he hk hv _ 1 _ _ false _ _ rfl h0 (st _ _ D.dz.symm hz') (st _ _ ltd hp) (k2 _ _ D.za.TIz D.za.TITO D.za.TIi1 D.za.TIi2 D.dI.symm hTI) (h1'.at λo e=>st _ o D.d1.symm e) (h2'.at λo e=>st _ o D.d2.symm e)
   (hl1.at λo e=>k2 _ o D.za.l1z D.za.l1TO D.za.l1i1 D.za.l1i2 D.dl.symm e) (hl2.at λo e=>k2 _ o D.za.l2z D.za.l2TO D.za.l2i1 D.za.l2i2 D.dm.symm e) dd' (J1 hkn (hv 0 y hy)) (by have e1:=Nat.sub_add_cancel h0;generalize xs.size-1=m at e1 ⊢;lia) λh3 k vs' hd3 hkn3 hl3 kp3=>?_
  exact q h3 k vs' hd3 hkn3 (by have e1:=Nat.sub_add_cancel h0;generalize xs.size-1=m at e1 hl3;lia) λb o b1 b2 b3 b5 b4 e=>kp3 b o b1 b3 b5 b4 (k2 b o b1 b2 b3 b5 b4 e)
theorem T9 {TI TO:fg}{a b:fv}{xs ys:Array fv}{Q:Za0}(D:BN z TI TO i1 i2 l1 l2)(hh:A.handled=none)(he:xs.size=ys.size)
  (hk:∀(i:Nat) x,xs[i]?=some x->∃n t,x=nv n t)(hv:∀(i:Nat) y,ys[i]?=some y->∃v:V,A9 v y)(hz:IsZip s.heap z TI TO .none)(hTO:wk s.heap TO a b)(hTI:wk s.heap TI (.ref i1) (.ref i2))
  (h1:s.heap.IsListIter i1 l1 0)(h2:s.heap.IsListIter i2 l2 0)(hl1:s.heap.IsList l1 xs)(hl2:s.heap.IsList l2 ys)(hsz:xs.size<=sizeLine)
  (q:∀h' k vs',h'.DictOf (B7 prog w) s.heap.objs.size vs'->J6 vs'->vs'.length<=xs.size->(∀b o,b≠z->b≠TO->b≠i1->b≠i2->s.heap.get? b=some o->h'.get? b=some o)->Q (.ref s.heap.objs.size) { s with heap:=h',toks:=k }) :
  wpAny (model prog w) A (call (.type "dict") [.ref z]) Q E s:=by
 refine callType_codes (Q₁:=λobj QN=>obj=.ref s.heap.objs.size/\QN={ s with heap:=s.heap.push { cls:=.type "dict",data:=.dict #[] } }) PySem.F.kt_called_dict (PySem.F.kt_typeCall_dict_1 _) PySem.F.entry_dict_init (kt_code_dict_new _ ⟨rfl,rfl⟩) ?_;rintro obj QN ⟨rfl,rfl⟩;have hnew:(s.heap.push { cls:=.type "dict",data:=.dict #[] }).DictOf (B7 prog w) s.heap.objs.size []:=EC s.heap;have up:∀b o,s.heap.get? b=some o->(s.heap.push { cls:=.type "dict",data:=.dict #[] }).get? b=some o:=λb o e=>fh _ e;have lt:∀{c o},s.heap.get? c=some o->s.heap.objs.size≠c:=λe=>ue (gh e);refine⟨hnew.typeIs,PySem.F.args_dict_init_2 _ _,?_⟩;unfold qu.«dict.__init__»;refine wpAny_bind ?_;unfold MB;refine wpAny_bind (wpAny_notOrdered_dict hnew.typeIs ?_);show wpAny _ _ (pure (s.heap.objs.size,[je z])) _ _ _;refine ft ?_;show wpAny _ _ (AH "dict.__init__" s.heap.objs.size (.ref z) [] .none) _ _ _;unfold AH;have hz':=up _ _ hz;refine wpAny_bind (yo (T:="zip") ⟨_,hz',rfl⟩ ?_);rw[if_pos (by decide)];refine wpAny_bind (vW hz' (by exact hh) λh' tk kp=>?_);rw[if_pos (by rfl)];refine wpAny_bind (qr (wpAny_bind (CI (kp _ _ hz') ?_)));have up2:∀b o,s.heap.get? b=some o->h'.get? b=some o:=λb o e=>kp _ _ (up b o e);have hd':h'.DictOf (B7 prog w) s.heap.objs.size []:=by
  obtain⟨o,es,ep,ho,r⟩:=hnew;exact⟨o,es,ep,kp _ _ ho,r⟩
 refine ft ⟨ra Cu _,?_⟩;refine nX (a:=a) (b:=b) (vs:=[]) ⟨D,lt hz,lt hTI,lt hTO,?_,?_,?_,?_⟩ (by exact hh) he hk hv (up2 _ _ hz) (up2 _ _ hTO) (up2 _ _ hTI) (h1.at λo e=>up2 _ o e) (h2.at λo e=>up2 _ o e) (hl1.at λo e=>up2 _ o e) (hl2.at λo e=>up2 _ o e) hd' (λp hp=>by cases hp) (by simpa using hsz) λh3 k vs' hd3 hkn3 hl3 kp3=>?_
 ·obtain⟨_,e,_⟩:=h1;exact lt e
 ·obtain⟨_,e,_⟩:=h2;exact lt e
 ·obtain⟨_,e,_⟩:=hl1;exact lt e
 ·obtain⟨_,e,_⟩:=hl2;exact lt e
 ·exact⟨rfl,q h3 k vs' hd3 hkn3 (by simpa using hl3) λb o b1 b2 b3 b4 e=>kp3 b o b1 b2 b3 b4 (lt e).symm (up2 _ _ e)⟩
end
theorem Io:∀{kvs:List (Key×V)} {vs:List (Key×fv)},KV kvs vs->kvs.length=vs.length
 |_,_,.nil=>rfl
 |_,_,.cons _ t=>congrArg (·+1) (Io t)
section
variable {X:Cx}
def zI (K:eh)(ta:TA):TE:=λG H Q=>ta G H λvs H1=>∃a b ns ys,vs=[.ref a,.ref b]/\SqL K H1 a (CH V.int ns)/\SqL K H1 b ys/\ns.length=ys.length/\∀p kvs,H1 p=none->kvs.length<=ns.length->Q (.ref p) (upd H1 p (.dK kvs))
theorem xW {a b:jc}{ta:TA}{p q pos2:Pos}(hcal:X.calm=true)(hg:Gl X "dict")(hm:X.mg "dict"=none)(hg2:Gl X "zip")(hm2:X.mg "zip"=none)(ha:PA X [a,b] ta)
  (hs:autoParam (starEach [a,b] X.env=[(false,eval a X.env),(false,eval b X.env)]) QD)(hs2:autoParam (starEach [b] X.env=[(false,eval b X.env)]) QD)
  (hs3:autoParam (starEach [MN (.Name "zip" q) [a,b] [] pos2] X.env=[(false,eval (.Call (.Name "zip" q) [a,b] [] pos2) X.env)]) QD) :
  PE X (.Call (.Name "dict" p) [.Call (.Name "zip" q) [a,b] [] pos2] [] pos) (zI X.K ta):=by
 k_in;refine wpAny_Call_Name_kw (Fv I hg hm Aa9 (j2 ?_ hs3 rfl) (by decide) (by decide));rw[hs3];refine qj ?_;show wpAny _ _ (eval (MN (.Name "zip" q) [a,b] [] pos2) X.env) _ _ _;refine wpAny_Call_Name_kw (Fv I hg2 hm2 Aad (j2 (thA ha I h λus s1 vs H1 I1 r1 q1=>?_) (by rw[hs,hs2]) (by rw[hs2];rfl)) (by decide) (by decide));obtain⟨a,b,ns,ys,e,hx,hy,hl,q⟩:=q1;subst e;obtain⟨u,v,rfl,ru,rv⟩:=Na r1;cases ru;cases rv;obtain⟨its,rv,p,hz⟩:=I1.list hx;obtain⟨its2,rv2,p2,hz2⟩:=I1.list hy;have l1:=rv.length;have l2:=rv2.length;rw[fb] at l1;refine call_zip_2 p.isList p2.isList λh' g1 g2 g3 g4 g5 hsz kk=>?_;refine wo ?_;have A1:h'.IsList a its.toArray:=p.isList.at λo e=>kk _ o e;have A2:h'.IsList b its2.toArray:=p2.isList.at λo e=>kk _ o e;have D:=iD (Ss _) (⟨g1,g2,⟨_,_,g3⟩,g4,g5⟩:StZ _ _ _ _ _ a b 0 h') A1 A2;refine T9 (s:={ s1 with heap:=h' }) D (I1.ok.hd hcal) (by simp;lia) (λi x e=>?_) (λi y e=>?_) g1 g3 g2 g4 g5 A1 A2 (by simp;rw[fb] at hz;lia) λh2 k vs' d2 kn lv kp=>?_
 ·have e':its[i]?=some x:=by simpa using e
  have li:=(ge.mp e').1;have hn:(CH V.int ns)[i]?=some (.int (ns[i]'(by lia))):=by rw[gd,fc (by lia)];rfl
  obtain⟨u,hu,t,rfl⟩:=rv.get hn;rw[e'] at hu;cases hu;exact⟨_,_,rfl⟩
 ·have e':its2[i]?=some y:=by simpa using e
  have li:=(ge.mp e').1;obtain⟨u,hu,rr⟩:=rv2.get (fc (show i<ys.length by lia));rw[e'] at hu;cases hu;exact⟨_,rr⟩
 ·obtain⟨kvs,hk⟩:=Si vs' kn
  have lk:=Io hk;have hle:s1.heap.objs.size<=h'.objs.size:=by lia
  have lns:kvs.length<=ns.length:=by simp at lv;lia
  refine⟨.ref h'.objs.size,_,I1.laid (a:=h'.objs.size) (o:=.dK kvs) (t':=k) (λb o e=>?_) hle ⟨?_,?_,vs',hk,d2⟩,rfl,q _ kvs (I1.hok.fresh hle) lns⟩
  ·have lt:=gh e
   have ne:∀c,s1.heap.objs.size<=c->b≠c:=λc hc z=>p8 _ (gi lt (z▸hc));exact kp b o (ne _ (kq _ _)) (ne _ (kq _ _)) (ne _ (fk _)) (ne _ (kq _ _)) (kk _ _ e)
  ·rw[fb] at hz;lia
  ·exact beq_eq_false_iff_ne.mpr (qh (ig (gi (jD I1) hle)))
theorem Aci {G:St}{Q:VK}{ta:TA}{K:eh}(h:ta G H λvs H1=>∃a b ns ys,vs=[.ref a,.ref b]/\SqL K H1 a (CH V.int ns)/\SqL K H1 b ys/\ns.length=ys.length/\∀p kvs,H1 p=none->kvs.length<=ns.length->Q (.ref p) (upd H1 p (.dK kvs))):zI K ta G H Q:=h
def jU:V->List V->Hp->VK->Prop:=λx vs H Q=>∃a b kvs kvs2,x=.ref a/\vs=[.ref b]/\a≠b/\H a=some (.dK kvs)/\H b=some (.dK kvs2)/\kvs.length+kvs2.length<=sizeLine/\∀kvs',kvs'.length<=kvs.length+kvs2.length->Q .non (upd H a (.dK kvs'))
theorem pD:MtM X "dict.update" jU:=by
 intro pins s G H x vs v us Q I rx rv h;obtain⟨a,b,kvs,kvs2,rfl,rfl,hne,hA,hB,hz,q⟩:=h;cases rx;obtain⟨u,rfl,ru⟩:=Fm rv;cases ru;obtain⟨z1,m1,v1,k1,d1⟩:=(show Bp X.prog X.w H s.heap a (.dK kvs) from I.hok a _ hA);obtain⟨z2,m2,v2,k2,d2⟩:=(show Bp X.prog X.w H s.heap b (.dK kvs2) from I.hok b _ hB);have e1:=Io k1;have e2:=Io k2;refine call_meetsIn BQ d1.typeIs PySem.F.entry_dict_update (PySem.F.args_dict_update_2 _ _) (meets_dict_update (B7 X.prog X.w) a b hne m2)
  ⟨v1,v2,d1,d2,by lia,λh' dd _ hs=>?_⟩
 have lm:=merged_length_le v1 v2;obtain⟨kvs',hk⟩:=Si (merged v1 v2) (W9 (Tw k1) (Tw k2));have lk:=Io hk;refine⟨.non,_,I.write (x:=a) (e:=a) (o:=.dK kvs') (t':=s.toks) (by rw[hA];trivial) (.inl rfl) (λb u hb e=>(hs.2 b hb).trans e) ?_ ⟨by lia,m1,_,hk,dd⟩,rfl,q kvs' (by lia)⟩;obtain⟨o,es,ep,ho,r⟩:=dd;exact⟨o,ho⟩
end
structure Yr (K:eh) (x qual:Str) (st:jr) (f:fg) (fd:ke):Prop where
 ex:∃(oc:fv) (od:Option fg) (T:fg) (kV doc pm:fv) (an:Option fg) (cdv ct:fv) (osl:Array (Za7)) (o:Obj) (v:fv) (n:Nat),
  fd=kl x qual (Bs st) (Bf st) (Ae st) (.ref T) kV doc pm an cdv ct/\K.lookup f=some ⟨oc,od,.func fd,osl⟩/\m7 K cdv qual=true/\K.lookup T=some o/\o.data=.seq #[v] n
section
variable {P:gv} {w:ir} {K:eh} {mg:Za2} {base:jo}
theorem Yr.okE {x:Str}{st:jr}{f:fg}{k:Nat}(F:Yr K x qual st f fd)(S:Aj N ps (Ae st))(len:∀vs H Q E,sp vs H Q E->vs.length=ps.length)
  (hbody:∀(cdv:fv) (A:ji) (outer:List Env) (s:fw) (H:Hp) (vs:List V) (Q:VK) (E:XK),Bv k (A.deeper (envOfC qual (Ae st) s.heap.objs.size f cdv))->sp vs H Q E ->
   ∃t,PSs (By (CXE P w) P w K mg base N qual (Ae st) f cdv A outer s H E) (Bf st) t/\t { nx:=λ_ H'=>Q .non H',rt:=Q } (Hk N vs) H):As P w K mg base (CXE P w) (k+1) f fd ps sp:=by
 obtain⟨oc,od,T,kV,doc,pm,an,cdv,ct,osl,o,v,n,rfl,lk,hcd,_⟩:=F.ex;exact jR lk hcd S len λA outer s H vs Q E hr hsp=>hbody cdv A outer s H vs Q E hr hsp
theorem Yr.binds {x:Str}{st:jr}{f:fg}(F:Yr K x qual st f fd)
  (h:∀(T:fg) (kV doc pm:fv) (an:Option fg) (cdv ct:fv) (us:Za3),us.length=ps.length->∃k,bindArgs (kl x qual (Bs st) (Bf st) (Ae st) (.ref T) kV doc pm an cdv ct) ⟨us,[]⟩=seqItems? (.ref T) >>= k/\∀v,k (some #[v])=pure (ps.zip us)):Dn K fd ps []:=by
 obtain⟨oc,od,T,kV,doc,pm,an,cdv,ct,osl,o,v,n,rfl,lk,hcd,hT,hd⟩:=F.ex;intro s us KX hl;rw[ip] at hl ⊢;obtain⟨k,h1,h2⟩:=h T kV doc pm an cdv ct us hl;exact EE rfl (KX _ _ hT) hd h1 (h2 v)
theorem wG {x:Str}{st:jr}{f T:fg}{osl:Array (Za7)}{kV v:fv}{o:Obj}{n:Nat}(l:K.lookup f=some ⟨oc,od,.func (kl x qual (Bs st) (Bf st) (Ae st) (.ref T) kV doc pm an cdv ct),osl⟩)
  (c:m7 K cdv qual=true)(hT:K.lookup T=some o)(hd:o.data=.seq #[v] n):Yr K x qual st f (kl x qual (Bs st) (Bf st) (Ae st) (.ref T) kV doc pm an cdv ct):=⟨⟨oc,od,T,kV,doc,pm,an,cdv,ct,osl,o,v,n,rfl,l,c,hT,hd⟩⟩
end
section
variable {G:St} {H:Hp}
theorem Abq {ti:TE}{t:Zq}{v:V}{R:St->Hp->Prop}(h:to G H λo H1=>ti G H1 λi H2=>t o i v H2 λH3=>R G H3):Aff to ti t v G H R:=h
theorem wN {n j:Nat}(h:j<n):ixN n (j:Int)=some j:=by
 unfold ixN;rw[if_pos (by lia),if_pos (by lia)];simp
theorem Tz {p:fg}{j:Nat}{i:Int}{v:V}{R:Hp->Prop}(h:H p=some (.lst xs))(hi:i=j)(hj:j<xs.length)(q:R (upd H p (.lst (xs.set j v)))):zG (.ref p) (.int i) v H R:=
 ⟨p,xs,i,j,rfl,rfl,h,by rw[hi];exact wN hj,q⟩
theorem tI {a b:fg}{kvs kvs2:List (Key×V)}{Q:VK}(hn:a≠b)(h1:H a=some (.dK kvs))(h2:H b=some (.dK kvs2))(hz:kvs.length+kvs2.length<=sizeLine)(q:∀kvs',kvs'.length<=kvs.length+kvs2.length->Q .non (upd H a (.dK kvs'))):jU (.ref a) [.ref b] H Q:=
 ⟨a,b,kvs,kvs2,rfl,rfl,hn,h1,h2,hz,q⟩
end
section
variable {κ:Type} [DecidableEq κ]
def Hb (kvs:List (κ×V))(k:κ):Option V:=(kvs.find? λkv=>decide (kv.1=k)).map (·.2)
def Pc (kvs:List (κ×V))(k:κ)(v:V):List (κ×V):=
 if(kvs.any λkv=>decide (kv.1=k))=true then kvs.map (λkv=>if kv.1=k then(kv.1,v) else kv) else kvs++[(k,v)]
theorem Ed {p:κ×V}{r:List (κ×V)}{k:κ}(e:p.1=k):Hb (p::r) k=some p.2:=by simp[Hb,yd,e]
theorem Ef {p:κ×V}{r:List (κ×V)}{k:κ}(e:¬ p.1=k):Hb (p::r) k=Hb r k:=by simp[Hb,yd,e]
theorem Sl (k:κ):∀kvs:List (κ×V),(kvs.any λkv=>decide (kv.1=k))=(Hb kvs k).isSome
 |[]=>rfl
 |p::r=>by
  rw[wy]
  by_cases e:p.1=k
  ·simp only[Ed e,decide_eq_true e,Bool.true_or,Option.isSome_some]
  ·rw[Ef e,decide_eq_false e,Bool.false_or];exact Sl k r
theorem Z8 (k j:κ)(y:V):∀kvs:List (κ×V),Hb (kvs.map λkv=>if kv.1=k then(kv.1,y) else kv) j=(Hb kvs j).map λx=>if j=k then y else x
 |[]=>rfl
 |p::r=>by
  have ih:=Z8 k j y r;rw[ik]
  by_cases h:p.1=k
  ·rw[if_pos h]
   by_cases e:p.1=j
   ·rw[Ed (p:=(p.1,y)) e,Ed e,vi,if_pos (e.symm.trans h)]
   ·rw[Ef (p:=(p.1,y)) e,Ef e,ih]
  ·rw[if_neg h]
   by_cases e:p.1=j
   ·rw[Ed (p:=p) e,Ed e,vi,if_neg (λz=>h (e.trans z))]
   ·rw[Ef (p:=p) e,Ef e,ih]
theorem Ui (k j:κ)(y:V):∀kvs:List (κ×V),Hb kvs k=none->Hb (kvs++[(k,y)]) j=if j=k then some y else Hb kvs j
 |[],_=>by
  by_cases e:k=j
  ·rw[if_pos e.symm];exact Ed (p:=(k,y)) e
  ·rw[if_neg (λz=>e z.symm)];exact Ef (p:=(k,y)) e
 |p::r,hn=>by
  rw[lh];have hk:¬ p.1=k:=λz=>by rw[Ed z] at hn;cases hn
  rw[Ef hk] at hn;have ih:=Ui k j y r hn
  by_cases e:p.1=j
  ·rw[Ed e,Ed e,if_neg (λz=>hk (e.trans z))]
  ·rw[Ef e,Ef e,ih]
theorem qL (kvs:List (κ×V))(k j:κ)(y:V):Hb (Pc kvs k y) j=if j=k then some y else Hb kvs j:=by
 unfold Pc
 by_cases a:(kvs.any λkv=>decide (kv.1=k))=true
 ·rw[if_pos a,Z8]
  rw[Sl] at a
  by_cases e:j=k
  ·obtain⟨x,hx⟩:=jw.mp a
   rw[if_pos e,e,hx,vi,if_pos rfl]
  ·rw[if_neg e]
   cases Hb kvs j with
   |none=>rfl
   |some x=>rw[vi,if_neg e]
 ·rw[if_neg a]
  refine Ui k j y kvs ?_;rw[Sl] at a
  cases q:Hb kvs k with
  |none=>rfl
  |some x=>rw[q] at a;exact(a rfl).elim
theorem Pf (kvs:List (κ×V))(k:κ)(v:V):(Pc kvs k v).length<=kvs.length+1:=by
 unfold Pc;split
 ·rw[fb];lia
 ·rw[fe,gu,jq];lia
theorem L7.isSome_eq {o:Option V}{u:Za7}(r:L7 o u):o.isSome=u.isSome:=by
 cases o with
 |none=>cases u with
  |none=>rfl
  |some _=>exact(show False from r).elim
 |some _=>cases u with
  |none=>exact(show False from r).elim
  |some _=>rfl
theorem KV.val {kvs:List (κ×V)}{vs:List (κ×fv)}(r:KV kvs vs)(k:κ):L7 (Hb kvs k) (valueAt vs k):=by
 unfold KV at r
 induction r with
 |nil=>exact o3
 | @cons p q ps qs h t ih=>
  obtain⟨h1,h2⟩:=h
  by_cases e:p.1=k
  ·have e':q.1=k:=h1.symm.trans e
   have b:valueAt (q::qs) k=some q.2:=by simp[valueAt,yd,e']
   rw[Ed e,b];exact h2
  ·have e':¬ q.1=k:=λz=>e (h1.trans z)
   have b:valueAt (q::qs) k=valueAt qs k:=by simp[valueAt,yd,e']
   rw[Ef e,b];exact ih
theorem KV.any {kvs:List (κ×V)}{vs:List (κ×fv)}(r:KV kvs vs)(k:κ):(kvs.any λkv=>decide (kv.1=k))=vs.any λkv=>decide (kv.1=k):=by
 unfold KV at r
 induction r with
 |nil=>rfl
 |cons h t ih=>rw[wy,wy,ih,h.1]
theorem KV.repl {kvs:List (κ×V)}{vs:List (κ×fv)}(r:KV kvs vs)(k:κ){u:fv}(ry:A9 y u) :
  KV (kvs.map λkv=>if kv.1=k then(kv.1,y) else kv) (vs.map λkv=>if kv.1=k then(kv.1,u) else kv):=by
 unfold KV at r ⊢
 induction r with
 |nil=>exact .nil
 | @cons p q ps qs h t ih=>
  rw[ik,ik];refine .cons ?_ ih;obtain⟨h1,h2⟩:=h
  by_cases e:p.1=k
  ·rw[if_pos e,if_pos (h1.symm.trans e)];exact⟨h1,ry⟩
  ·rw[if_neg e,if_neg (λz=>e (h1.trans z))];exact⟨h1,h2⟩
theorem KV.put {kvs:List (κ×V)}{vs:List (κ×fv)}(r:KV kvs vs)(k:κ){u:fv}(ry:A9 y u):KV (Pc kvs k y) (stored vs k u):=by
 unfold Pc stored;rw[r.any k]
 by_cases e:(vs.any λkv=>decide (kv.1=k))=true
 ·rw[if_pos e,if_pos e];exact r.repl k ry
 ·rw[if_neg e,if_neg e];exact Paired.snoc r ⟨rfl,ry⟩
theorem KV.length {kvs:List (κ×V)}{vs:List (κ×fv)}(r:KV kvs vs):kvs.length=vs.length:=HR r
end
theorem rR {P:gv}{k:Key}{u:fv}(r:A9 (kV k) u):(B7 P w).is k u=true:=by
 cases k with
 |inl i=>obtain⟨t,e⟩:=(show ∃t,u=nv i t from r);subst e;exact K7 P w i t
 |inr x=>obtain⟨t,e⟩:=(show ∃t,u=z7 x t from r);subst e;exact Zl P w x t
section
variable {P:gv} {w:ir} {H:Hp} {h:jo} {a:fg}
theorem Ad2 {u:HO}(ok:HOk P w H h)(e:Rd H a u):Bp P w H h a u:=e.ok ok
theorem Aev {kvs:List (Key×V)}(ok:HOk P w H h)(e:Rd H a (.dK kvs)):kvs.length<=sizeLine/\(a==sysModules)=false/\∃vs,KV kvs vs/\h.DictOf (B7 P w) a vs:=
 show Bp P w H h a (.dK kvs) from Ad2 ok e
theorem vD {kvs:List (Key×V)}(ok:HOk P w H h)(e:H a=some (.dK kvs)):kvs.length<=sizeLine/\(a==sysModules)=false/\∃vs,KV kvs vs/\h.DictOf (B7 P w) a vs:=Aev ok (.inl e)
end
section
variable {X:Cx} {pins:Za1} {G:St} {H:Hp} {s:fw} {a:fg} {y v:V} {u r:fv} {o:Option V} {A:ji} {E:Za0}
theorem xY {ob:HO}(I:Inv X pins G H s)(mu:Mut (H a))(hs:xq a s.heap h')(he:∃q,h'.get? a=some q)(new:Bp X.prog X.w (upd H a ob) h' a ob) :
  Inv X pins G (upd H a ob) { s with heap:=h',toks:=t' }:=
 I.write (x:=a) (e:=a) mu (.inl rfl) (λb q hb z=>(hs.2 b hb).trans z) he new
theorem Aa3 {P:gv}{kvs:List (Key×V)}{vs:List (Key×fv)}(z:kvs.length<=sizeLine)(hd:(a==sysModules)=false)(rel:KV kvs vs)(dd:h'.DictOf (B7 P w) a vs) :
  Bp P w H' h' a (.dK kvs):=⟨z,hd,vs,rel,dd⟩
end
end L2
end
section
namespace L2
open PySem PySem.Spec PyProof.Rows
variable {C Pt dx i1 i2 it l1 l2 z:fg} {params:o8} {A:ji} {CX:CXT} {op:yx} {X:Cx} {env:Env} {tg:jc} {fd:ke} {base h h' h1:jo} {H H' H1 H2:Hp} {J:It} {pins:Za1} {fp:List fg} {outer:List Env} {es:List jc} {kz ns:List Int} {l0:List ic} {cs ix:Za4} {N ps:Za6} {xs ys:List V} {us vs:Za3} {M:yl} {t':Nat} {oT:Obj} {an od:Option fg} {cpos lpos pos:Pos} {scope:ol} {pl:Sem Bool} {s s2:fw} {sp:Sp} {qual:Str} {te to:TE} {wi:TI} {y:V} {cdv ct doc oc pm:fv} {w:ir}
section
variable {X:Cx}
def Adv:R2:=λx y H Q=>∃d kvs k,x=.int k/\y=.ref d/\H d=some (.dK kvs)/\Q (.bl (Hb kvs (.inl k)).isSome) H
theorem vK:OpR X (compareOp .In) Adv:=by
 intro pins s G H x y v u Q I rx ry h;obtain⟨d,kvs,k,rfl,rfl,hd,q⟩:=h;cases ry;obtain⟨z,hs,vs,rel,dd⟩:=vD I.hok hd;refine wpAny_in_of (rR (k:=.inl k) rx) hs dd.mapOf ?_;refine⟨.bl _,H,I.tok _,?_,q⟩;rw[(rel.val (.inl k)).isSome_eq];rfl
theorem yY {Q:VK}{d:fg}{kvs:List (Key×V)}{k:Int}(hd:H d=some (.dK kvs))(q:Q (.bl (Hb kvs (.inl k)).isSome) H):Adv (.int k) (.ref d) H Q:=⟨d,kvs,k,rfl,rfl,hd,q⟩
def Ae9:R2:=λx y H Q=>∃d kvs k v,x=.ref d/\y=.int k/\H d=some (.dK kvs)/\Hb kvs (.inl k)=some v/\Q v H
theorem jQ:IxR X Ae9:=by
 intro value N9 pins s G H x y v u Q I rx ry h hs;obtain⟨d,kvs,k,z,rfl,rfl,hd,hv,q⟩:=h;cases rx;obtain⟨_,_,vs,rel,dd⟩:=vD I.hok hd;obtain⟨w',hw,rw'⟩:=L7.some_of (v:=z) (o:=valueAt vs (.inl k)) (by rw[<-hv];exact rel.val (.inl k));exact HL dd.typeIs PySem.F.slot_dict_getitem.lookup (wpAny_getItem_of (rR (k:=.inl k) ry) dd.mapOf hw ⟨z,H,I.tok _,rw',q⟩) hs
theorem zT {Q:VK}{d:fg}{kvs:List (Key×V)}{k:Int}{v:V}(hd:H d=some (.dK kvs))(hv:Hb kvs (.inl k)=some v)(q:Q v H):Ae9 (.ref d) (.int k) H Q:=⟨d,kvs,k,v,rfl,rfl,hd,hv,q⟩
def Aaa:Zq:=λo i v H Q=>∃d kvs k,o=.ref d/\i=.int k/\H d=some (.dK kvs)/\kvs.length<sizeLine/\Q (upd H d (.dK (Pc kvs (.inl k) v)))
theorem uP:xQ X Aaa:=by
 intro pins s G H o i v ov iv u Q I ro ri rv h;obtain⟨d,kvs,k,rfl,rfl,hd,hl,q⟩:=h;cases ro;obtain⟨z,hm,vs,rel,dd⟩:=vD I.hok hd;have hz:vs.length<=sizeLine:=by rw[<-rel.length];exact z
 have hl:(Pc kvs (.inl k) v).length<=sizeLine:=by have:=Pf kvs (.inl k:Key) v;lia
 refine wpAny_setItem_pairs (hsz:=hz) (rR (k:=.inl k) ri) dd λh' dd' hs=>⟨_,?_,q⟩;have he:∃q,h'.get? d=some q:=let ⟨q,_,_,hq,_⟩:=dd';⟨q,hq⟩;exact xY I (by rw[hd];exact o3) hs he (Aa3 hl hm (rel.put (.inl k) rv) dd')
theorem Acw {d:fg}{kvs:List (Key×V)}{k:Int}{v:V}{R:Hp->Prop}(hd:H d=some (.dK kvs))(hl:kvs.length<sizeLine)(q:R (upd H d (.dK (Pc kvs (.inl k) v)))):Aaa (.ref d) (.int k) v H R:=⟨d,kvs,k,rfl,rfl,hd,hl,q⟩
end
structure vJ (P:gv) (w:ir) (K:eh) (mg:Za2) (base:jo) (name:Str) (C:fg) (k:Nat) (ps:Za6) (sp:Sp) (dvs:List V):Prop where
 ex:∃(f:fg) (fd:ke) (ds:Za3),As P w K mg base (CXE P w) k f fd ps sp/\Dn K fd ps ds/\Av dvs ds/\Mk K C f/\mg name=some (.ref C)
section
variable {X:Cx} {k:Nat} {C:fg} {ps:Za6} {sp:Sp} {dvs:List V} {name m:Str} {p pos apos:Pos} {e o:jc} {es:List jc} {ta:TE} {t:TA} {E:XK}
theorem yA (M:vJ X.prog X.w X.K X.mg X.base name C k ps sp dvs)(hr:Bv (k+1) X.A)(hx:Ft (CXE X.prog X.w) X E)(ha:PA X (e::es) t)(hg:autoParam (Gl X name) QD)(hdb:autoParam ((name==("__debug__":Str))=false) QF)
  (he:autoParam (starEach (e::es) X.env=(false,eval e X.env)::starEach es X.env) QD)(hpl:autoParam ((backTo pos (starEach es X.env)).any (·.1)=false) QD):PE X (.Call (.Name name p) (e::es) [] pos) (U5 C sp dvs E t):=by
 obtain⟨f,fd,ds,F,b,rd,M,hm⟩:=M.ex;exact W4 M F hr hg hm b rd hx ha hdb he hpl
end
theorem Yr.bindsD {K:eh}{x:Str}{st:jr}{T:fg}{kV v:fv}{o:Obj}{n m:Nat}(hT:K.lookup T=some o)(hd:o.data=.seq #[v] n)(hm:ps.length=m+1)
  (h:∀(us:Za3),us.length=m->∃k,bindArgs (kl x qual (Bs st) (Bf st) (Ae st) (.ref T) kV doc pm an cdv ct) ⟨us,[]⟩=seqItems? (.ref T) >>= k/\k (some #[v])=pure (ps.zip (us++[v]))):Dn K (kl x qual (Bs st) (Bf st) (Ae st) (.ref T) kV doc pm an cdv ct) ps [v]:=by
 intro s us KX hl;obtain⟨k,h1,h2⟩:=h us (by rw[fe,hm] at hl;exact CF hl);exact EE rfl (KX _ _ hT) hd h1 h2
end L2
end
section
namespace TW
section
variable {α:Type} (lt:α->α->Bool)
def mg:List α->List α->List α
 |[],ys=>ys
 |x::xs,[]=>x::xs
 |x::xs,y::ys=>if lt y x=true then y::mg (x::xs) ys else x::mg xs (y::ys)
termination_by xs ys=>xs.length+ys.length
theorem Dm (ys:List α):mg lt [] ys=ys:=by rw[mg]
theorem Bm (xs:List α):mg lt xs []=xs:=by cases xs<;>rw[mg]
theorem F6 (x y:α)(xs ys:List α):mg lt (x::xs) (y::ys)=if lt y x=true then y::mg lt (x::xs) ys else x::mg lt xs (y::ys):=by rw[mg]
theorem Pz {x y:α}{xs ys:List α}(h:lt y x=true):mg lt (x::xs) (y::ys)=y::mg lt (x::xs) ys:=by rw[F6,if_pos h]
theorem Uc {x y:α}{xs ys:List α}(h:lt y x=false):mg lt (x::xs) (y::ys)=x::mg lt xs (y::ys):=by rw[F6,if_neg (by rw[h];decide)]
theorem Dz {ys:List α}:∀{as xs:List α},(∀a∈as,∀y∈ys,lt y a=false)->mg lt (as++xs) ys=as++mg lt xs ys
 |[],_,_=>rfl
 |a::as,xs,h=>by
  cases ys with
  |nil=>rw[Bm,Bm]
  |cons y ys=>
   rw[lh,Uc lt (h a il y il),Dz λb hb=>h b (gz _ hb)];rfl
theorem Dg {xs:List α}:∀{bs ys:List α},(∀b∈bs,∀x∈xs,lt b x=true)->mg lt xs (bs++ys)=bs++mg lt xs ys
 |[],_,_=>rfl
 |b::bs,ys,h=>by
  cases xs with
  |nil=>rw[Dm,Dm]
  |cons x xs=>
   rw[lh,Pz lt (h b il x il),Dg λc hc=>h c (gz _ hc)];rfl
theorem Lu {as:List α}:∀(xs ys:List α),(∀a∈as,∀y∈ys,lt y a=true)->mg lt (xs++as) ys=mg lt xs ys++as
 |[],ys,h=>by
  have:=Dg lt (xs:=as) (bs:=ys) (ys:=[]) λb hb x hx=>h x hx b hb;rw[ip,Bm] at this;rw[ju,this,Dm]
 |x::xs,[],h=>by rw[Bm,Bm]
 |x::xs,y::ys,h=>by
  rw[lh,F6,F6];split
  ·have:=Lu (x::xs) ys λa ha z hz=>h a ha z (gz _ hz)
   rw[lh] at this;rw[this];rfl
  ·rw[Lu xs (y::ys) h]
   rfl
termination_by xs ys=>xs.length+ys.length
theorem Lg {bs:List α}:∀(xs ys:List α),(∀b∈bs,∀x∈xs,lt b x=false)->mg lt xs (ys++bs)=mg lt xs ys++bs
 |[],ys,h=>by rw[Dm,Dm]
 |x::xs,[],h=>by
  have:=Dz lt (ys:=bs) (as:=x::xs) (xs:=[]) λa ha y hy=>h y hy a ha;rw[ip,Dm] at this;rw[ju,this,Bm]
 |x::xs,y::ys,h=>by
  rw[lh,F6,F6];split
  ·rw[Lg (x::xs) ys h]
   rfl
  ·have:=Lg xs (y::ys) λb hb z hz=>h b hb z (gz _ hz)
   rw[lh] at this;rw[this];rfl
termination_by xs ys=>xs.length+ys.length
theorem Li:∀(xs ys:List α),(mg lt xs ys).Perm (xs++ys)
 |[],ys=>by rw[Dm];exact AF _
 |x::xs,[]=>by rw[Bm,ip]
 |x::xs,y::ys=>by
  rw[F6];split
  ·exact((Li (x::xs) ys).cons y).trans List.perm_middle.symm
  ·exact(Li xs (y::ys)).cons x
termination_by xs ys=>xs.length+ys.length
def Srt (l:List α):Prop:=l.Pairwise λa b=>lt b a=false
structure Swo:Prop where
 irr:∀a,lt a a=false
 tr:∀a b c,lt a b=true->lt b c=true->lt a c=true
 ng:∀a b c,lt a c=true->lt a b=true\/lt b c=true
variable {lt}
section
variable (o:Swo lt)
include o
theorem Swo.asy {a b:α}(h:lt a b=true):lt b a=false:=by
 cases e:lt b a with
 |false=>rfl
 |true=>have:=o.tr _ _ _ h e;rw[o.irr] at this;cases this
theorem Swo.le {a b c:α}(h1:lt b a=false)(h2:lt c b=false):lt c a=false:=by
 cases e:lt c a with
 |false=>rfl
 |true=>
  rcases o.ng c b a e with h|h
  ·rw[h2] at h;cases h
  ·rw[h1] at h;cases h
theorem Swo.ltle {a b c:α}(h1:lt a b=true)(h2:lt c b=false):lt a c=true:=by
 rcases o.ng a c b h1 with h|h
 ·exact h
 ·rw[h2] at h;cases h
theorem Swo.lelt {a b c:α}(h1:lt b a=false)(h2:lt b c=true):lt a c=true:=by
 rcases o.ng b a c h2 with h|h
 ·rw[h1] at h;cases h
 ·exact h
theorem Ki:∀a b c:List α,mg lt (mg lt a b) c=mg lt a (mg lt b c)
 |[],b,c=>by rw[Dm,Dm]
 |x::a,[],c=>by rw[Bm,Dm]
 |x::a,y::b,[]=>by rw[Bm,Bm]
 |x::a,y::b,z::c=>by
  cases h1:lt y x with
  |true=>
   cases h2:lt z y with
   |true=>
    have ih:=Ki (x::a) (y::b) c;rw[Pz lt h1] at ih ⊢;rw[Pz lt h2,Pz lt h2,Pz lt (o.tr _ _ _ h2 h1),ih]
   |false=>
    have ih:=Ki (x::a) b (z::c);rw[Pz lt h1,Uc lt h2,Uc lt h2,Pz lt h1,ih]
  |false=>
   cases h3:lt z x with
   |true=>
    have h2:lt z y=true:=by
     rcases o.ng z y x h3 with h|h
     ·exact h
     ·rw[h1] at h;cases h
    have ih:=Ki (x::a) (y::b) c;rw[Uc lt h1] at ih ⊢;rw[Pz lt h3,Pz lt h2,Pz lt h3,ih]
   |false=>
    have ih:=Ki a (y::b) (z::c);rw[Uc lt h1,Uc lt h3,ih]
    cases h2:lt z y with
    |true=>rw[Pz lt h2,Uc lt h3]
    |false=>rw[Uc lt h2,Uc lt h1]
termination_by a b c=>a.length+b.length+c.length
theorem fL:∀{xs ys:List α},Srt lt xs->Srt lt ys->Srt lt (mg lt xs ys)
 |[],ys,_,h=>by rw[Dm];exact h
 |x::xs,[],h,_=>by rw[Bm];exact h
 |x::xs,y::ys,h1,h2=>by
  have a1:=sj.mp h1;have a2:=sj.mp h2;rw[F6];split
  ·rename_i hl
   refine sj.mpr ⟨λz hz=>?_,fL h1 a2.2⟩;rcases i5.mp ((Li lt _ _).mem_iff.mp hz) with hz|hz
   ·rcases i9.mp hz with rfl|hz
    ·exact o.asy hl
    ·exact o.le (o.asy hl) (a1.1 z hz)
   ·exact a2.1 z hz
  ·rename_i hl
   have hl:lt y x=false:=by simpa using hl
   refine sj.mpr ⟨λz hz=>?_,fL a1.2 h2⟩;rcases i5.mp ((Li lt _ _).mem_iff.mp hz) with hz|hz
   ·exact a1.1 z hz
   ·rcases i9.mp hz with rfl|hz
    ·exact hl
    ·exact o.le hl (a2.1 z hz)
termination_by xs ys=>xs.length+ys.length
end
variable (lt)
def Ao (l:List α):List α:=l.foldl (λa x=>mg lt a [x]) []
theorem Cn (l:List α)(x:α):Ao lt (l++[x])=mg lt (Ao lt l) [x]:=by unfold Ao;rw[GJ];rfl
theorem Cp (l:List α):(Ao lt l).Perm l:=by
 have key:∀(l a:List α),(l.foldl (λa x=>mg lt a [x]) a).Perm (a++l):=λl=>by
  induction l with
  |nil=>intro a;rw[ip];exact AF _
  |cons x l ih=>
   intro a;refine(ih _).trans ?_;refine((Li lt a [x]).append_right l).trans ?_;rw[fm];exact AF _
 exact key l []
theorem Ct (l:List α):(Ao lt l).length=l.length:=(Cp lt l).length_eq
theorem Ko {P:List α->Prop}(h0:P [])(h1:∀l x,P l->P (l++[x]))(l:List α):P l:=by
 have key:∀n,∀l:List α,l.length=n->P l:=λn=>by
  induction n with
  |zero=>intro l h;rw[DV.mp h];exact h0
  |succ n ih=>
   intro l h;have hne:l≠[]:=λe=>by rw[e] at h;cases h
   rw[<-List.dropLast_concat_getLast hne];exact h1 _ _ (ih _ (by rw[EZ];lia))
 exact key _ l rfl
variable {lt}
theorem Um (o:Swo lt)(a:List α)(b:List α):Ao lt (a++b)=mg lt (Ao lt a) (Ao lt b):=by
 induction b using Ko with
 |h0=>rw[ip];exact(Bm lt _).symm
 |h1 l x ih=>rw[<-fm,Cn,Cn,ih,Ki o]
theorem Lf (o:Swo lt)(a:List α):Srt lt (Ao lt a):=by
 induction a using Ko with
 |h0=>exact vj
 |h1 l x ih=>rw[Cn];exact fL o ih (sv _ _)
theorem Ir {a:List α}(h:Srt lt a):Ao lt a=a:=by
 induction a using Ko with
 |h0=>rfl
 |h1 l x ih=>
  have hp:=ph.mp h;rw[Cn,ih hp.1];have:=Dz lt (ys:=[x]) (as:=l) (xs:=[]) λa ha y hy=>by rw[gw.mp hy];exact hp.2.2 a ha x (gw.mpr rfl)
  rw[ip,Dm] at this;exact this
theorem gF {β:Type}{lt':β->β->Bool}{f:α->β}(h:∀a b,lt' (f a) (f b)=lt a b):∀xs ys:List α,mg lt' (xs.map f) (ys.map f)=(mg lt xs ys).map f
 |[],ys=>by rw[Dm];exact Dm _ _
 |x::xs,[]=>by rw[Bm];exact Bm _ _
 |x::xs,y::ys=>by
  rw[ik,ik,F6,F6,h];split
  ·have:=gF h (x::xs) ys
   rw[ik] at this;rw[this];rfl
  ·have:=gF h xs (y::ys)
   rw[ik] at this;rw[this];rfl
termination_by xs ys=>xs.length+ys.length
theorem Lr {β:Type}{lt':β->β->Bool}{f:α->β}(h:∀a b,lt' (f a) (f b)=lt a b)(l:List α):Ao lt' (l.map f)=(Ao lt l).map f:=by
 induction l using Ko with
 |h0=>rfl
 |h1 l x ih=>
  rw[f9,ik,vy,Cn,Cn,ih];exact gF h _ [x]
end
theorem Yj {α:Type}{R:α->α->Prop}{l:List α}(h:l.length<2):l.Pairwise R:=match l,h with
 |[],_=>vj
 |[x],_=>sv _ _
section
variable {α:Type} {lt:α->α->Bool}
theorem G1 {l:List α}{i:Nat}{x:α}(h:l[i]?=some x):l.drop i=x::l.drop (i+1):=by
 obtain⟨hl,e⟩:=ge.mp h;rw[rh hl,e]
theorem Ek {l:List α}{i:Nat}{x:α}(h:l[i]?=some x):l.take (i+1)=l.take i++[x]:=by rw[jn,h];rfl
theorem Acj {l:List α}(h:Srt lt l){i j:Nat}{x y:α}(hij:i<j)(hx:l[i]?=some x)(hy:l[j]?=some y):lt y x=false:=by
 obtain⟨h1,e1⟩:=ge.mp hx;obtain⟨h2,e2⟩:=ge.mp hy;have:=(wm.mp h) i j h1 h2 hij;rw[e1,e2] at this;exact this
theorem Ea (o:Swo lt){l:List α}(h:Srt lt l){i j:Nat}{x y:α}(hij:i<=j)(hx:l[i]?=some x)(hy:l[j]?=some y):lt y x=false:=by
 rcases zr hij with hl|hl
 ·exact Acj h hl hx hy
 ·rw[hl,hy] at hx
  cases hx;exact o.irr _
theorem Sm {l:List α}{i:Nat}{x:α}(h:x∈l.drop i):∃j,i<=j/\l[j]?=some x:=by
 obtain⟨k,hk⟩:=l7 h;rw[ka] at hk;exact⟨i+k,kq _ _,hk⟩
theorem Ih {l:List α}{i:Nat}{x:α}(h:x∈l.take i):∃j,j<i/\l[j]?=some x:=by
 obtain⟨k,hk⟩:=l7 h;rw[ku] at hk;split at hk
 ·exact⟨k,by assumption,hk⟩
 ·cases hk
theorem C8 {l:List α}{i k:Nat}{x:α}(h:x∈(l.drop i).take k):∃j,j<k/\l[i+j]?=some x:=by
 obtain⟨j,hj,e⟩:=Ih h;rw[ka] at e;exact⟨j,hj,e⟩
theorem Fo (l:List α)(i k:Nat):l.drop i=(l.drop i).take k++l.drop (i+k):=by
 rw[<-nh,jg]
variable (o:Swo lt) {la lb out:List α} {ia ib:Nat}
def MI (lt:α->α->Bool)(la lb out:List α)(ia ib:Nat):Prop:=out++mg lt (la.drop ia) (lb.drop ib)=mg lt la lb
theorem MI.b {x y:α}(h:MI lt la lb out ia ib)(hx:la[ia]?=some x)(hy:lb[ib]?=some y)(hl:lt y x=true):MI lt la lb (out++[y]) ia (ib+1):=by
 unfold MI at h ⊢;rw[<-h,G1 hx,G1 hy,Pz lt hl,fm];rfl
theorem MI.a {x y:α}(h:MI lt la lb out ia ib)(hx:la[ia]?=some x)(hy:lb[ib]?=some y)(hl:lt y x=false):MI lt la lb (out++[x]) (ia+1) ib:=by
 unfold MI at h ⊢;rw[<-h,G1 hx,G1 hy,Uc lt hl,fm];rfl
theorem MI.doneB (h:MI lt la lb out ia ib)(hb:lb.length<=ib):out++la.drop ia++lb.drop ib=mg lt la lb:=by
 unfold MI at h;rw[<-h,km hb,Bm,ip]
theorem MI.doneA (h:MI lt la lb out ia ib)(hb:la.length<=ia):out++la.drop ia++lb.drop ib=mg lt la lb:=by
 unfold MI at h;rw[<-h,km hb,Dm,ip]
theorem MI.lastA (h:MI lt la lb out ia ib){x:α}(hx:la[ia]?=some x)(he:la.length<=ia+1)(hl:∀y∈lb,lt y x=true):out++lb.drop ib++la.drop ia=mg lt la lb:=by
 unfold MI at h;have e:=Dg lt (xs:=la.drop ia) (bs:=lb.drop ib) (ys:=[]) λb hb z hz=>by
  rw[G1 hx,km he] at hz;rw[gw.mp hz];exact hl b (n4 hb)
 rw[ip,Bm] at e;rw[<-h,e,fm]
include o in
theorem MI.as (h:MI lt la lb out ia ib)(sb:Srt lt lb){k:Nat}{y:α}(hy:lb[ib]?=some y)(hk:∀i x,i<k->la[ia+i]?=some x->lt y x=false):MI lt la lb (out++(la.drop ia).take k) (ia+k) ib:=by
 unfold MI at h ⊢;rw[<-h]
 conv=>rhs;rw[Fo la ia k]
 rw[Dz lt λa ha z hz=>?_,fm];obtain⟨i,hi,e⟩:=C8 ha;obtain⟨j,hj,e2⟩:=Sm hz;exact o.le (hk i a hi e) (Ea o sb hj hy e2)
include o in
theorem MI.bs (h:MI lt la lb out ia ib)(sa:Srt lt la){k:Nat}{x:α}(hx:la[ia]?=some x)(hk:∀i y,i<k->lb[ib+i]?=some y->lt y x=true):MI lt la lb (out++(lb.drop ib).take k) ia (ib+k):=by
 unfold MI at h ⊢;rw[<-h]
 conv=>rhs;rw[Fo lb ib k]
 rw[Dg lt λb hb z hz=>?_,fm];obtain⟨i,hi,e⟩:=C8 hb;obtain⟨j,hj,e2⟩:=Sm hz;exact o.ltle (hk i b hi e) (Ea o sa hj hx e2)
variable {na nb:Nat}
def MH (lt:α->α->Bool)(la lb out:List α)(na nb:Nat):Prop:=mg lt (la.take na) (lb.take nb)++out.reverse=mg lt la lb
theorem Ep (l:List α){c n:Nat}(h:c<=n):l.take n=l.take c++(l.drop c).take (n-c):=by
 rw[show n=c+(n-c) by lia,y8];congr 2;lia
include o in
theorem MH.as (h:MH lt la lb out na nb)(sb:Srt lt lb){c:Nat}{y:α}(hc:c<=na)(hn:0<nb)(hy:lb[nb-1]?=some y)(hk:∀i x,c<=i->i<na->la[i]?=some x->lt y x=true):MH lt la lb (out++((la.drop c).take (na-c)).reverse) c nb:=by
 unfold MH at h ⊢;rw[<-h,Ep la hc,Lu lt _ _ λa ha z hz=>?_,oh,mn,fm];obtain⟨i,hi,e⟩:=C8 ha;obtain⟨j,hj,e2⟩:=Ih hz;exact o.lelt (Ea o sb (show j<=nb-1 by lia) e2 hy) (hk (c+i) a (by lia) (by lia) e)
include o in
theorem MH.bs (h:MH lt la lb out na nb)(sa:Srt lt la){c:Nat}{x:α}(hc:c<=nb)(hn:0<na)(hx:la[na-1]?=some x)(hk:∀i y,c<=i->i<nb->lb[i]?=some y->lt y x=false):MH lt la lb (out++((lb.drop c).take (nb-c)).reverse) na c:=by
 unfold MH at h ⊢;rw[<-h,Ep lb hc,Lg lt _ _ λb hb z hz=>?_,oh,mn,fm];obtain⟨i,hi,e⟩:=C8 hb;obtain⟨j,hj,e2⟩:=Ih hz;exact o.le (Ea o sa (show j<=na-1 by lia) e2 hx) (hk (c+i) b (by lia) (by lia) e)
theorem Pj {l:List α}{c n:Nat}{x:α}(hn:n=c+1)(h:l[c]?=some x):((l.drop c).take (n-c)).reverse=[x]:=by
 rw[hn,show c+1-c=1 by lia,G1 h];rfl
include o in
theorem MH.a {x y:α}(h:MH lt la lb out na nb)(sb:Srt lt lb)(hna:0<na)(hnb:0<nb)(hx:la[na-1]?=some x)(hy:lb[nb-1]?=some y)(hl:lt y x=true):MH lt la lb (out++[x]) (na-1) nb:=by
 have:=h.as o sb (c:=na-1) (by lia) hnb hy λi z h1 h2 e=>by
  have:i=na-1:=by lia
  rw[this,hx] at e;cases e;exact hl
 rw[Pj (by lia) hx] at this;exact this
include o in
theorem MH.b {x y:α}(h:MH lt la lb out na nb)(sa:Srt lt la)(hna:0<na)(hnb:0<nb)(hx:la[na-1]?=some x)(hy:lb[nb-1]?=some y)(hl:lt y x=false):MH lt la lb (out++[y]) na (nb-1):=by
 have:=h.bs o sa (c:=nb-1) (by lia) hna hx λi z h1 h2 e=>by
  have:i=nb-1:=by lia
  rw[this,hy] at e;cases e;exact hl
 rw[Pj (by lia) hy] at this;exact this
theorem MH.doneA (h:MH lt la lb out 0 nb):la.take 0++lb.take nb++out.reverse=mg lt la lb:=by
 unfold MH at h;rw[<-h,qc,Dm,ju]
theorem MH.doneB (h:MH lt la lb out na 0):la.take na++lb.take 0++out.reverse=mg lt la lb:=by
 unfold MH at h;rw[<-h,qc,Bm,ip]
theorem MH.firstB (h:MH lt la lb out na 1){y:α}(hy:lb[0]?=some y)(hl:∀x∈la,lt y x=true):lb.take 1++la.take na++out.reverse=mg lt la lb:=by
 unfold MH at h;have e:=Dg lt (xs:=la.take na) (bs:=lb.take 1) (ys:=[]) λb hb z hz=>by
  rw[Ek hy,qc,ju] at hb;rw[gw.mp hb];exact hl z (l6 hz)
 rw[ip,Bm] at e;rw[<-h,e]
end
end TW
end
section
namespace L2
open PySem PySem.Spec PyProof.Rows
variable {C Pt dx i1 i2 it l1 l2 z:fg} {params:o8} {A:ji} {CX:CXT} {op:yx} {X:Cx} {env:Env} {tg:jc} {fd:ke} {base h h' h1:jo} {H H' H1 H2:Hp} {J:It} {pins:Za1} {fp:List fg} {outer:List Env} {es:List jc} {kz ns:List Int} {l0:List ic} {cs ix:Za4} {N ps:Za6} {xs ys:List V} {us vs:Za3} {M:yl} {t':Nat} {oT:Obj} {an od:Option fg} {cpos lpos pos:Pos} {scope:ol} {pl:Sem Bool} {s s2:fw} {sp:Sp} {qual:Str} {te to:TE} {wi:TI} {y:V} {cdv ct doc oc pm:fv} {w:ir}
def yD:Bool->ic->Array ic->Nat->Nat->Nat->StateT j0 Sem (Option Nat):=sortPriv% PySem.Builtin.gallop
def xJ (left:Bool)(key:ic)(arr:Array ic)(base i:Nat):StateT j0 Sem (Option Bool):=do
 let x <-elem' arr (base+i)
 if left=true then lt' x key else do
  let r <-lt' key x
  pure (r.map λx=>!x)
section
variable {prog:gv} {w:ir} {A:ji} {E:Za0} {s:fw}
def eX (prog:gv)(w:ir)(A:ji)(E:Za0)(s:fw)(kd:uw)(P:ic->Prop)(blt:ic->ic->Bool):Prop:=
 ∀(x y:ic) (st:j0) (Q:Option Bool->j0->Prop),P x->P y->kindOf st=kd->Q (some (blt x y)) st->wpS (model prog w) A E s (lt' x y) Q st
theorem Bc {arr:Array ic}{i:Nat}{p:ic}{st:j0}{Q:ic->j0->Prop}(e:arr[i]?=some p)(h:Q p st):wpS (model prog w) A E s (elem' arr i) Q st:=by
 rw[elem'_eq,e];exact gy h
theorem A4 {α:Type}{c:Prop}[Decidable c]{x y:StateT j0 Sem α}{Q:α->j0->Prop}{st:j0}(h:c)(k:wpS (model prog w) A E s x Q st):wpS (model prog w) A E s (if c then x else y) Q st:=by rw[if_pos h];exact k
theorem A5 {α:Type}{c:Prop}[Decidable c]{x y:StateT j0 Sem α}{Q:α->j0->Prop}{st:j0}(h:¬ c)(k:wpS (model prog w) A E s y Q st):wpS (model prog w) A E s (if c then x else y) Q st:=by rw[if_neg h];exact k
variable {kd:uw} {P:ic->Prop} {blt:ic->ic->Bool} (L:eX prog w A E s kd P blt)
include L
def eJ (blt:ic->ic->Bool)(left:Bool)(key x:ic):Bool:=if left=true then blt x key else !(blt key x)
theorem yF {left:Bool}{key x:ic}{arr:Array ic}{base i:Nat}{st:j0}{Q:Option Bool->j0->Prop}(hk:kindOf st=kd)(hP:P key)(hx:arr[base+i]?=some x)(hPx:P x)(h:Q (some (eJ blt left key x)) st) :
  wpS (model prog w) A E s (xJ left key arr base i) Q st:=by
 unfold xJ;refine gl (Bc hx ?_)
 cases left with
 |true=>exact L _ _ _ _ hPx hP hk h
 |false=>exact gl (L _ _ _ _ hP hPx hk (gy h))
theorem Fy {left:Bool}{key:ic}{arr:Array ic}{base n hint:Nat}{bey:Nat->Bool}{st:j0}{Q:Option Nat->j0->Prop}(hk:kindOf st=kd)(hP:P key)(hh:hint<n)
    (hb : ∀ i, i < n->∃ x, arr[base + i]? = some x/\P x/\eJ blt left key x = bey i)(mono : ∀ i j, i <= j->j < n->bey j = true->bey i = true)
    (h : ∀ c, c <= n->(∀ i, i < c->bey i = true)->(∀ i, c <= i->i < n->bey i = false)->Q (some c) st) : wpS (model prog w) A E s (yD left key arr base n hint) Q st := by
  have hB : ∀ (i : Nat) (R : Option Bool->j0->Prop), i < n->R (some (bey i)) st->wpS (model prog w) A E s (xJ left key arr base i) R st := λi R hi r => by
    obtain ⟨x, e1, e2, e3⟩ := hb i hi;exact yF L hk hP e1 e2 (by rw [e3]; exact r)
  have monoF : ∀ i j, i <= j->j < n->bey i = false->bey j = false := λi j h1 h2 h3 => by
    cases e : bey j with
    | false => rfl
    | true => rw [mono i j h1 h2 e] at h3; cases h3
  refine gl (hB hint _ hh ?_);dsimp only
  -- the last part: halving
  have last : ∀ (lo hi : Nat) (F : Nat->Option (Option Nat) × Nat × Nat->StateT j0 Sem (ForInStep (Option (Option Nat) × Nat × Nat))),
      (∀ x lo hi, F x (none, lo, hi) = if lo >= hi then pure (sg (none, lo, hi)) else do
        let r <- xJ left key arr base (lo + (hi - lo) / 2)
        match r with
        | some more => if more = true then pure (rg (none, lo + (hi - lo) / 2 + 1, hi)) else pure (rg (none, lo, lo + (hi - lo) / 2))
        | x => pure (sg (some none, lo, hi))) ->
      lo <= hi->hi <= n->(∀ i, i < lo->bey i = true)->(∀ i, hi <= i->i < n->bey i = false) ->
      wpS (model prog w) A E s (forIn [:n] (none, lo, hi) F) (λr st' => r.1 = none/\st' = st/\r.2.2 <= n/\(∀ i, i < r.2.2->bey i = true)/\(∀ i, r.2.2 <= i->i < n->bey i = false)) st := by
    intro lo hi F hF hle hin h1 h2;refine wpS_forRange (I := λx c st' => ∃ lo hi, c = (none, lo, hi)/\st' = st/\lo <= hi/\hi <= n/\hi - lo + x <= n/\(∀ i, i < lo->bey i = true)/\(∀ i, hi <= i->i < n->bey i = false)) ?_ ?_ ⟨lo, hi, rfl, rfl, hle, hin, by lia, h1, h2⟩
    · rintro x c st' _ hx ⟨lo, hi, rfl, rfl, hle, hin, hd, h1, h2⟩
      rw [hF]
      by_cases hge : lo >= hi
      · rw [if_pos hge]
        exact gy ⟨rfl, rfl, hin, λi hi' => h1 i (by dsimp only at hi'; lia), h2⟩
      · rw [if_neg hge]
        have ht : lo + (hi - lo) / 2 < hi := by lia
        generalize (hi - lo) / 2 = t at *;refine gl (hB _ _ (gi ht hin) ?_);dsimp only
        cases e : bey (lo + t) with
        | true =>
          rw [if_pos rfl];exact gy ⟨_, _, rfl, rfl, by lia, hin, by lia, λi hi' => mono i _ (by lia) (by lia) e, h2⟩
        | false =>
          rw [if_neg (by decide)];exact gy ⟨_, _, rfl, rfl, by lia, by lia, by lia, h1, λi hi1 hi2 => monoF _ i hi1 hi2 e⟩
    · rintro c st' ⟨lo, hi, rfl, rfl, hle, hin, hd, h1, h2⟩
      have : max 0 n = n := by lia
      rw [this] at hd;exact ⟨rfl, rfl, hin, λi hi' => h1 i (by dsimp only at hi'; lia), h2⟩
  cases e0 : bey hint with
  | true =>
    rw [if_pos rfl];refine gl (oz (wpS_forRange (I := λx c st' => ∃ lo of, c = (none, lo, of)/\st' = st/\lo < of/\x + 1 <= of/\lo < n - hint/\bey (hint + lo) = true)
      (Q := λc st' => ∃ lo of, c = (none, lo, of)/\st' = st/\lo < of/\lo < n - hint/\bey (hint + lo) = true/\(n - hint <= of\/(of < n - hint/\bey (hint + of) = false))) ?_ ?_ ⟨0, 1, rfl, rfl, by lia, by lia, by lia, e0⟩) ?_)
    · rintro x c st' _ hx ⟨lo, of, rfl, rfl, h1, h2, h3, h4⟩
      dsimp only
      by_cases hge : of >= n - hint
      · rw [if_pos hge]
        exact gy ⟨lo, of, rfl, rfl, h1, h3, h4, .inl hge⟩
      · rw [if_neg hge]
        refine gl (hB _ _ (by lia) ?_);dsimp only
        cases e : bey (hint + of) with
        | true => exact gy ⟨of, 2 * of + 1, rfl, rfl, by lia, by lia, by lia, e⟩
        | false => exact gy ⟨lo, of, rfl, rfl, h1, h3, h4, .inr ⟨by lia, e⟩⟩
    · rintro c st' ⟨lo, of, rfl, rfl, h1, h2, h3, h4⟩
      exact ⟨lo, of, rfl, rfl, h1, h3, h4, .inl (by have : max 0 n = n := by lia
                                                    lia)⟩
    · rintro c st' ⟨lo, of, rfl, rfl, h1, h3, h4, h5⟩
      dsimp only;refine gl (oz (last _ _ _ (λx lo hi => rfl) ?_ ?_ ?_ ?_) ?_)
      · exact y6 (Nat.le_min.mpr ⟨h1, h3⟩) hint
      · exact io (y6 (vb _ _) hint) (ot (vx (jx hh)))
      · intro i hi
        exact mono i (hint + lo) (by lia) (by lia) h4
      · intro i hi1 hi2
        rcases h5 with h5 | ⟨h5, h6⟩
        · lia
        · exact monoF (hint + of) i (by lia) hi2 h6
      · rintro ⟨r, lo2, hi2⟩ st' ⟨e1, e2, e3, e4, e5⟩
        dsimp only at e1 e2 e3 e4 e5;subst e1 e2;exact gy (h hi2 e3 e4 e5)
  | false =>
    rw [if_neg (by decide)];refine gl (oz (wpS_forRange (I := λx c st' => ∃ lo of, c = (none, lo, of)/\st' = st/\lo < of/\x + 1 <= of/\lo < hint + 1/\bey (hint - lo) = false)
      (Q := λc st' => ∃ lo of, c = (none, lo, of)/\st' = st/\lo < of/\lo < hint + 1/\bey (hint - lo) = false/\(hint + 1 <= of\/(of < hint + 1/\bey (hint - of) = true))) ?_ ?_ ⟨0, 1, rfl, rfl, by lia, by lia, by lia, e0⟩) ?_)
    · rintro x c st' _ hx ⟨lo, of, rfl, rfl, h1, h2, h3, h4⟩
      dsimp only
      by_cases hge : of >= hint + 1
      · rw [if_pos hge]
        exact gy ⟨lo, of, rfl, rfl, h1, h3, h4, .inl hge⟩
      · rw [if_neg hge]
        refine gl (hB _ _ (by lia) ?_);dsimp only
        cases e : bey (hint - of) with
        | true => exact gy ⟨lo, of, rfl, rfl, h1, h3, h4, .inr ⟨by lia, e⟩⟩
        | false => exact gy ⟨of, 2 * of + 1, rfl, rfl, by lia, by lia, by lia, e⟩
    · rintro c st' ⟨lo, of, rfl, rfl, h1, h2, h3, h4⟩
      exact ⟨lo, of, rfl, rfl, h1, h3, h4, .inl (by have : max 0 n = n := by lia
                                                    lia)⟩
    · rintro c st' ⟨lo, of, rfl, rfl, h1, h3, h4, h5⟩
      dsimp only;refine gl (oz (last _ _ _ (λx lo hi => rfl) ?_ ?_ ?_ ?_) ?_)
      · rcases Nat.le_total of (hint + 1) with z | z
        · rw [jm z]
          exact io (Nat.sub_le_sub_left h1 (hint + 1)) (ot (Nat.succ_sub_succ hint lo))
        · rw [vc z, ly]
          exact i6 _
      · lia
      · intro i hi
        rcases h5 with h5 | ⟨h5, h6⟩
        · lia
        · exact mono i (hint - of) (by lia) (by lia) h6
      · intro i hi1 hi2
        exact monoF (hint - lo) i (by lia) hi2 h4
      · rintro ⟨r, lo2, hi2⟩ st' ⟨e1, e2, e3, e4, e5⟩
        dsimp only at e1 e2 e3 e4 e5;subst e1 e2;exact gy (h hi2 e3 e4 e5)
end
open TW
structure Adt (S:Prop):Prop where
 h:S
theorem G7 {c S T:Prop}[Decidable c](h1:Adt S->c->T)(h2:Adt S->¬ c->T)(h:S):T:=(NY c).elim (h1 ⟨h⟩) (h2 ⟨h⟩)
def sR:Array ic->Array ic->StateT j0 Sem (Array ic):=sortPriv% PySem.Builtin.mergeLo
abbrev Ml (st:j0)(g:Nat):j0:=vw (kindOf st) (arrOf st) (pendingOf st) g (failedOf st)
theorem Ht (out:Array ic)(x:ic):(out.push x).toList=out.toList++[x]:=FV ..
theorem qG (out a:Array ic)(i k:Nat):(out++a.extract i (i+k)).toList=out.toList++(a.toList.drop i).take k:=by
 rw[jj,qy,pf];congr 2;lia
theorem Lk (a:Array ic)(i:Nat):(a.extract i a.size).toList=a.toList.drop i:=by
 rw[qy,pf,gq (by rw[jh,gj];exact fk _)]
theorem Bb {a:Array ic}{i:Nat}{x:ic}(h:a[i]?=some x):a.toList[i]?=some x:=by rw[gt];exact h
theorem Bd {a:Array ic}{i:Nat}(h:i<a.size):∃x,a[i]?=some x:=⟨_,nq h⟩
section
variable {prog:gv} {w:ir} {A:ji} {E:Za0} {s:fw}
theorem Nx {g:Nat}{st:j0}{Q:Unit->j0->Prop}(h:Q () (Ml st g)):wpS (model prog w) A E s ((sortPriv% PySem.Builtin.setMinGallop) g) Q st:=w8 h
variable {kd:uw} {P:ic->Prop} {blt:ic->ic->Bool} (L:eX prog w A E s kd P blt) (o:Swo blt)
include L o
theorem Z4 {a b:Array ic}{st:j0}{Q:Array ic->j0->Prop}(hk:kindOf st=kd)(ha:0<a.size)(hb:0<b.size)(pa:∀x∈a.toList,P x)(pb:∀x∈b.toList,P x)(sa:Srt blt a.toList)(sb:Srt blt b.toList)
  (hf:∀x y,a[0]?=some x->b[0]?=some y->blt y x=true)(hl:∀x,a[a.size-1]?=some x->∀y∈b.toList,blt y x=true)
  (h:∀r g,r.toList=mg blt a.toList b.toList->Q r (Ml st g)):wpS (model prog w) A E s (sR a b) Q st:=by
 have la:a.toList.length=a.size:=gj;have lb:b.toList.length=b.size:=gj;have PA:∀{i x},a[i]?=some x->P x:=λe=>pa _ (gg (Bb e));have PB:∀{i x},b[i]?=some x->P x:=λe=>pb _ (gg (Bb e));obtain⟨b0,eb0⟩:=Bd hb;obtain⟨a0,ea0⟩:=Bd ha;have h0:MI blt a.toList b.toList [b0] 0 1:=(show MI blt a.toList b.toList [] 0 0 from rfl).b (Bb ea0) (Bb eb0) (hf _ _ ea0 eb0);have fin1:∀{out:Array ic} {ia ib:Nat},MI blt a.toList b.toList out.toList ia ib->b.size<=ib->(out++a.extract ia a.size++b.extract ib b.size).toList=mg blt a.toList b.toList:=λm e=>by
  rw[jj,jj,Lk,Lk];exact m.doneB (by rw[lb];exact e)
 have fin2:∀{out:Array ic} {ia ib:Nat},MI blt a.toList b.toList out.toList ia ib->a.size<=ia->(out++a.extract ia a.size++b.extract ib b.size).toList=mg blt a.toList b.toList:=λm e=>by
  rw[jj,jj,Lk,Lk];exact m.doneA (by rw[la];exact e)
 have fin3:∀{out:Array ic} {ia ib:Nat},MI blt a.toList b.toList out.toList ia ib->ia+1=a.size->(out++b.extract ib b.size++a.extract ia a.size).toList=mg blt a.toList b.toList:=λ{out ia ib} m e=>by
  obtain⟨x,ex⟩:=Bd (show ia<a.size by lia);rw[jj,jj,Lk,Lk];exact m.lastA (Bb ex) (by rw[la];lia) (hl x (by rw[<-e];exact ex))
 refine gl (zi (qr ⟨rfl,?_⟩));refine gl (Bc eb0 ?_)
 by_cases c1:(1==b.size)=true
 ·refine A4 c1 ?_
  exact gy (h _ (gallopOf st) (fin1 (out:=#[b0]) h0 (by rw[beq_iff_eq] at c1;lia)))
 refine A5 c1 ?_
 by_cases c2:(0+1==a.size)=true
 ·refine A4 c2 ?_
  exact gy (h _ (gallopOf st) (fin3 (out:=#[b0]) h0 (by rw[beq_iff_eq] at c2;lia)))
 refine A5 c2 ?_;rw[beq_iff_eq] at c1 c2;refine gl (wq ?_);refine gl (oz (wpS_forRange
  (I:=λx c st'=>∃(out:Array ic) (ia ib g g':Nat),c=(none,out,ia,ib,g)/\st'=Ml st g'/\MI blt a.toList b.toList out.toList ia ib/\ia+1<a.size/\ib<b.size/\x<=ia+ib)
  (Q:=λc st'=>∃(r:Array ic) (g':Nat),c.1=some r/\st'=Ml st g'/\r.toList=mg blt a.toList b.toList) ?_ ?_ ⟨#[b0],0,1,_,gallopOf st,rfl,rfl,h0,by lia,by lia,i6 _⟩) ?_)
 ·rintro x c st' _ hx ⟨out,ia,ib,g,g',rfl,rfl,m,hia,hib,hpr⟩
  try dsimp only
  refine gl (oz (wpS_forRange
   (I:=λy c st'=>∃(out:Array ic) (ia' ib' ac bc:Nat),c=(none,out,ia',ib',ac,bc)/\st'=Ml st g'/\MI blt a.toList b.toList out.toList ia' ib'/\ia'+1<a.size/\ib'<b.size/\y+(ia+ib)<=ia'+ib')
   (Q:=λc st'=>st'=Ml st g'/\((∃r:Array ic,∃cc,c=(some r,cc)/\r.toList=mg blt a.toList b.toList)\/∃(out:Array ic) (ia' ib' ac bc:Nat),c=(none,out,ia',ib',ac,bc)/\MI blt a.toList b.toList out.toList ia' ib'/\ia'+1<a.size/\ib'<b.size/\ia+ib+1<=ia'+ib')) ?_ ?_ ⟨out,ia,ib,0,0,rfl,rfl,m,hia,hib,by lia⟩) ?_)
  ·rintro y c st' _ hy ⟨out,ia,ib,ac,bc,rfl,rfl,m,hia,hib,hpr⟩
   try dsimp only
   obtain⟨xa,ea⟩:=Bd (show ia<a.size by lia);obtain⟨xb,eb⟩:=Bd hib;refine gl (Bc eb (gl (Bc ea (gl (L _ _ _ _ (PB eb) (PA ea) hk ?_)))))
   cases hlt:blt xb xa with
   |true=>
    refine A4 rfl ?_;refine gl (Bc eb ?_);have m':MI blt a.toList b.toList (out.push xb).toList ia (ib+1):=by rw[Ht];exact m.b (Bb ea) (Bb eb) hlt
    by_cases c3:(ib+1==b.size)=true
    ·refine A4 c3 ?_
     exact gy ⟨rfl,.inl ⟨_,_,rfl,fin1 m' (by rw[beq_iff_eq] at c3;lia)⟩⟩
    ·refine A5 c3 ?_
     rw[beq_iff_eq] at c3
     by_cases c4:bc+1>=g
     ·refine A4 c4 ?_
      exact gy ⟨rfl,.inr ⟨_,_,_,_,_,rfl,m',hia,by lia,by lia⟩⟩
     ·refine A5 c4 ?_
      exact gy ⟨_,_,_,_,_,rfl,rfl,m',hia,by lia,by lia⟩
   |false=>
    refine A5 (by decide) ?_;refine gl (Bc ea ?_);have m':MI blt a.toList b.toList (out.push xa).toList (ia+1) ib:=by rw[Ht];exact m.a (Bb ea) (Bb eb) hlt
    by_cases c3:(ia+1+1==a.size)=true
    ·refine A4 c3 ?_
     exact gy ⟨rfl,.inl ⟨_,_,rfl,fin3 m' (by rw[beq_iff_eq] at c3;lia)⟩⟩
    ·refine A5 c3 ?_
     rw[beq_iff_eq] at c3
     by_cases c4:ac+1>=g
     ·refine A4 c4 ?_
      exact gy ⟨rfl,.inr ⟨_,_,_,_,_,rfl,m',by lia,hib,by lia⟩⟩
     ·refine A5 c4 ?_
      exact gy ⟨_,_,_,_,_,rfl,rfl,m',by lia,hib,by lia⟩
  ·rintro c st' ⟨out,ia',ib',ac,bc,rfl,rfl,m,hia',hib',hpr'⟩
   exfalso;have:max 0 (a.size+b.size)=a.size+b.size:=by lia
   lia
  ·rintro c st' ⟨rfl,⟨r,cc,rfl,hr⟩|⟨out,ia1,ib1,ac,bc,rfl,m1,hia1,hib1,hpr1⟩⟩
   ·dsimp only
    exact gy ⟨r,g',rfl,rfl,hr⟩
   ·dsimp only
    refine gl (zi (qr ⟨rfl,?_⟩));refine gl (oz (wpS_forRange
     (I:=λy c st'=>∃(out:Array ic) (ia' ib' mg' ac bc g2:Nat),c=(none,out,ia',ib',mg',ac,bc)/\st'=Ml st g2/\MI blt a.toList b.toList out.toList ia' ib'/\ia'+1<a.size/\ib'<b.size/\y+(ia1+ib1)<=ia'+ib')
     (Q:=λc st'=>∃g2,st'=Ml st g2/\((∃r:Array ic,∃cc,c=(some r,cc)/\r.toList=mg blt a.toList b.toList)\/∃(out:Array ic) (ia' ib' mg' ac bc:Nat),c=(none,out,ia',ib',mg',ac,bc)/\MI blt a.toList b.toList out.toList ia' ib'/\ia'+1<a.size/\ib'<b.size/\ia1+ib1<=ia'+ib')) ?_ ?_ ⟨out,ia1,ib1,_,ac,bc,g',rfl,rfl,m1,hia1,hib1,by lia⟩) ?_)
    ·rintro y c st' _ hy ⟨out,ia,ib,mg',ac,bc,g2,rfl,rfl,m,hia,hib,hpr⟩
     try dsimp only
     obtain⟨xb,eb⟩:=Bd hib;apply G7 (c:=mg'>1)
     case h1=>
      intro key cg;refine A4 cg ?_;generalize mg'-1=mg2
      revert mg2
      exact key.h
     case h2=>
      intro key cg;refine A5 cg ?_;generalize mg'=mg2
      revert mg2
      exact key.h
     case h=>
      intro mg2;refine gl (Nx (gl (Bc eb ?_)));have gb:∀i,i<a.size-ia->∃x,a[ia+i]?=some x/\P x/\eJ blt false xb x=(λi=>match a[ia+i]? with|some x=>!(blt xb x)|none=>false) i:=λi hi=>by
       obtain⟨x,ex⟩:=Bd (show ia+i<a.size by lia);exact⟨x,ex,PA ex,by dsimp only;rw[ex];rfl⟩
      have gm:∀i j,i<=j->j<a.size-ia->(λi=>match a[ia+i]? with|some x=>!(blt xb x)|none=>false) j=true->(λi=>match a[ia+i]? with|some x=>!(blt xb x)|none=>false) i=true:=λi j hij hj e=>by
       obtain⟨x,ex⟩:=Bd (show ia+i<a.size by lia);obtain⟨z,ez⟩:=Bd (show ia+j<a.size by lia)
       try dsimp only at e ⊢
       rw[ex];rw[ez] at e
       try dsimp only at e ⊢
       cases e1:blt xb x with
       |false=>rfl
       |true=>
        have:=o.ltle e1 (Ea o sa (show ia+i<=ia+j by lia) (Bb ex) (Bb ez));rw[this] at e;cases e
      refine gl (Fy L hk (PB eb) (show 0<a.size-ia by lia) gb gm (λc hc1 hc2 hc3=>?_));have hA1:∀i x,i<c->a.toList[ia+i]?=some x->blt xb x=false:=λi x hi ex=>by
       rw[gt] at ex;have:=hc2 i hi
       try dsimp only at this
       rw[ex] at this
       simpa using this
      have hA2:∀i x,c<=i->a[ia+i]?=some x->blt xb x=true:=λi x hi ex=>by
       have hl:=(qz.mp ex).1;have:=hc3 i hi (by lia)
       try dsimp only at this
       rw[ex] at this
       simpa using this
      have m2:MI blt a.toList b.toList (out++a.extract ia (ia+c)).toList (ia+c) ib:=by rw[qG];exact m.as o sb (Bb eb) hA1
      try dsimp only
      apply G7 (c:=c>0)
      case h1=>
       intro key hc0;refine A4 hc0 ?_
       by_cases c5:(ia+c+1==a.size)=true
       ·refine A4 c5 ?_
        exact gy ⟨_,rfl,.inl ⟨_,_,rfl,fin3 m2 (by rw[beq_iff_eq] at c5;lia)⟩⟩
       refine A5 c5 ?_
       by_cases c6:(ia+c==a.size)=true
       ·refine A4 c6 ?_
        exact gy ⟨_,rfl,.inl ⟨_,_,rfl,fin2 m2 (by rw[beq_iff_eq] at c6;lia)⟩⟩
       refine A5 c6 ?_;rw[beq_iff_eq] at c5 c6;have hi2:ia+c+1<a.size:=by lia
       have hA3:∀x,a[ia+c]?=some x->blt xb x=true:=λx ex=>hA2 c x (fk _) ex;have hp2:y+(ia1+ib1)<=ia+c+ib:=by lia
       have m2:=m2
       revert hp2 hA3 hi2 m2
       generalize out++a.extract ia (ia+c)=out2;generalize ia+c=ia2
       revert ia2 out2
       exact key.h
      case h2=>
       intro key hc0;refine A5 hc0 ?_;have e0:c=0:=by lia
       have hi2:ia+1<a.size:=by lia
       have hA3:∀x,a[ia]?=some x->blt xb x=true:=λx ex=>hA2 0 x (by lia) ex;have hp2:y+(ia1+ib1)<=ia+ib:=by lia
       clear m2;have m2:=m
       revert hp2 hA3 hi2 m2
       generalize out=out2;generalize ia=ia2
       revert ia2 out2
       exact key.h
      case h=>
       intro out2 ia2 hi2 hA3 hp2 m2;obtain⟨xa,ea⟩:=Bd (show ia2<a.size by lia);refine gl (Bc eb ?_);have m3:MI blt a.toList b.toList (out2.push xb).toList ia2 (ib+1):=by rw[Ht];exact m2.b (Bb ea) (Bb eb) (hA3 xa ea)
       by_cases c7:(ib+1==b.size)=true
       ·refine A4 c7 ?_
        exact gy ⟨_,rfl,.inl ⟨_,_,rfl,fin1 m3 (by rw[beq_iff_eq] at c7;lia)⟩⟩
       refine A5 c7 ?_;rw[beq_iff_eq] at c7;refine gl (Bc ea ?_);have gb:∀i,i<b.size-(ib+1)->∃x,b[ib+1+i]?=some x/\P x/\eJ blt true xa x=(λi=>match b[ib+1+i]? with|some x=>blt x xa|none=>false) i:=λi hi=>by
        obtain⟨x,ex⟩:=Bd (show ib+1+i<b.size by lia);exact⟨x,ex,PB ex,by dsimp only;rw[ex];rfl⟩
       have gm:∀i j,i<=j->j<b.size-(ib+1)->(λi=>match b[ib+1+i]? with|some x=>blt x xa|none=>false) j=true->(λi=>match b[ib+1+i]? with|some x=>blt x xa|none=>false) i=true:=λi j hij hj e=>by
        obtain⟨x,ex⟩:=Bd (show ib+1+i<b.size by lia);obtain⟨z,ez⟩:=Bd (show ib+1+j<b.size by lia)
        try dsimp only at e ⊢
        rw[ex];rw[ez] at e
        try dsimp only at e ⊢
        exact o.lelt (Ea o sb (show ib+1+i<=ib+1+j by lia) (Bb ex) (Bb ez)) e
       refine gl (Fy L hk (PA ea) (show 0<b.size-(ib+1) by lia) gb gm (λd hd1 hd2 hd3=>?_));have hB1:∀i x,i<d->b.toList[ib+1+i]?=some x->blt x xa=true:=λi x hi ex=>by
        rw[gt] at ex;have:=hd2 i hi
        try dsimp only at this
        rw[ex] at this;exact this
       have hB2:∀i x,d<=i->b[ib+1+i]?=some x->blt x xa=false:=λi x hi ex=>by
        have hl:=(qz.mp ex).1;have:=hd3 i hi (by lia)
        try dsimp only at this
        rw[ex] at this;exact this
       have m4:MI blt a.toList b.toList (out2.push xb++b.extract (ib+1) (ib+1+d)).toList ia2 (ib+1+d):=by rw[qG];exact m3.bs o sa (Bb ea) hB1
       try dsimp only
       apply G7 (c:=d>0)
       case h1=>
        intro key hd0;refine A4 hd0 ?_
        by_cases c8:(ib+1+d==b.size)=true
        ·refine A4 c8 ?_
         exact gy ⟨_,rfl,.inl ⟨_,_,rfl,fin1 m4 (by rw[beq_iff_eq] at c8;lia)⟩⟩
        refine A5 c8 ?_;rw[beq_iff_eq] at c8;have hi4:ib+1+d<b.size:=by lia
        have hB3:∀x,b[ib+1+d]?=some x->blt x xa=false:=λx ex=>hB2 d x (fk _) ex;have hp4:y+(ia1+ib1)+1<=ia2+(ib+1+d):=by lia
        have m4:=m4
        revert hp4 hB3 hi4 m4
        generalize out2.push xb++b.extract (ib+1) (ib+1+d)=out4;generalize ib+1+d=ib4
        revert ib4 out4
        exact key.h
       case h2=>
        intro key hd0;refine A5 hd0 ?_;have hi4:ib+1<b.size:=by lia
        have hB3:∀x,b[ib+1]?=some x->blt x xa=false:=λx ex=>hB2 0 x (by lia) ex;have hp4:y+(ia1+ib1)+1<=ia2+(ib+1):=by lia
        clear m4;have m4:=m3
        revert hp4 hB3 hi4 m4
        generalize out2.push xb=out4;generalize ib+1=ib4
        revert ib4 out4
        exact key.h
       case h=>
        intro out4 ib4 hi4 hB3 hp4 m4;obtain⟨xb4,eb4⟩:=Bd hi4;refine gl (Bc ea ?_);have m5:MI blt a.toList b.toList (out4.push xa).toList (ia2+1) ib4:=by rw[Ht];exact m4.a (Bb ea) (Bb eb4) (hB3 xb4 eb4)
        by_cases c9:(ia2+1+1==a.size)=true
        ·refine A4 c9 ?_
         exact gy ⟨_,rfl,.inl ⟨_,_,rfl,fin3 m5 (by rw[beq_iff_eq] at c9;lia)⟩⟩
        refine A5 c9 ?_;rw[beq_iff_eq] at c9
        by_cases c10:(decide (c<7)&&decide (d<7))=true
        ·refine A4 c10 ?_
         exact gy ⟨_,rfl,.inr ⟨_,_,_,_,_,_,rfl,m5,by lia,hi4,by lia⟩⟩
        ·refine A5 c10 ?_
         exact gy ⟨_,_,_,_,_,_,_,rfl,rfl,m5,by lia,hi4,by lia⟩
    ·rintro c st' ⟨out,ia',ib',mg',ac,bc,g2,rfl,rfl,m,hia',hib',hpr'⟩
     exfalso;have:max 0 (a.size+b.size)=a.size+b.size:=by lia
     lia
    ·rintro c st' ⟨g2,rfl,⟨r,cc,rfl,hr⟩|⟨out,ia2,ib2,mg2,ac,bc,rfl,m2,hia2,hib2,hpr2⟩⟩
     ·dsimp only
      exact gy ⟨r,g2,rfl,rfl,hr⟩
     ·dsimp only
      refine gl (Nx (gy ⟨_,_,_,_,_,rfl,rfl,m2,hia2,hib2,by lia⟩))
 ·rintro c st' ⟨out,ia,ib,g,g',rfl,rfl,m,hia,hib,hpr⟩
  exfalso;have:max 0 (a.size+b.size)=a.size+b.size:=by lia
  lia
 ·rintro⟨c,cc⟩ st' ⟨r,g',e,rfl,hr⟩
  try dsimp only at e
  subst e
  try dsimp only
  exact gy (h r g' hr)
end
def sT:Array ic->Array ic->StateT j0 Sem (Array ic):=sortPriv% PySem.Builtin.mergeHi
theorem Ll (a:Array ic)(n:Nat):(a.extract 0 n).toList=a.toList.take n:=by
 rw[qy,pf,qd,uc]
theorem qV (out a:Array ic)(c n:Nat):(out++(a.extract c n).reverse).toList=out.toList++((a.toList.drop c).take (n-c)).reverse:=by
 rw[jj,vh,qy,pf]
section
variable {prog:gv} {w:ir} {A:ji} {E:Za0} {s:fw}
variable {kd:uw} {P:ic->Prop} {blt:ic->ic->Bool} (L:eX prog w A E s kd P blt) (o:Swo blt)
include L o
theorem Zz {a b:Array ic}{st:j0}{Q:Array ic->j0->Prop}(hk:kindOf st=kd)(ha:0<a.size)(hb:0<b.size)(pa:∀x∈a.toList,P x)(pb:∀x∈b.toList,P x)(sa:Srt blt a.toList)(sb:Srt blt b.toList)
  (hf:∀y,b[0]?=some y->∀x∈a.toList,blt y x=true)(hl:∀x,a[a.size-1]?=some x->∀y∈b.toList,blt y x=true)
  (h:∀r g,r.toList=mg blt a.toList b.toList->Q r (Ml st g)):wpS (model prog w) A E s (sT a b) Q st:=by
 have la:a.toList.length=a.size:=gj;have lb:b.toList.length=b.size:=gj;have PA:∀{i x},a[i]?=some x->P x:=λe=>pa _ (gg (Bb e));have PB:∀{i x},b[i]?=some x->P x:=λe=>pb _ (gg (Bb e));obtain⟨b0,eb0⟩:=Bd hb;obtain⟨al,eal⟩:=Bd (show a.size-1<a.size by lia);have h0:MH blt a.toList b.toList [al] (a.size-1) b.size:=by
  have e:=Lu blt (as:=[al]) (a.toList.take (a.size-1)) b.toList λx hx y hy=>by rw[gw.mp hx];exact hl al eal y hy
  rw[<-Ek (Bb eal),GI ha,<-la,rc] at e;unfold MH;rw[<-lb,rc,e,la];rfl
 have finA:∀{out:Array ic} {na nb:Nat},MH blt a.toList b.toList out.toList na nb->na=0->(a.extract 0 na++b.extract 0 nb++out.reverse).toList=mg blt a.toList b.toList:=λm e=>by
  subst e;rw[jj,jj,Ll,Ll,vh];exact m.doneA
 have finB:∀{out:Array ic} {na nb:Nat},MH blt a.toList b.toList out.toList na nb->nb=0->(a.extract 0 na++b.extract 0 nb++out.reverse).toList=mg blt a.toList b.toList:=λm e=>by
  subst e;rw[jj,jj,Ll,Ll,vh];exact m.doneB
 have finF:∀{out:Array ic} {na nb:Nat},MH blt a.toList b.toList out.toList na nb->nb=1->(b.extract 0 nb++a.extract 0 na++out.reverse).toList=mg blt a.toList b.toList:=λm e=>by
  subst e;rw[jj,jj,Ll,Ll,vh];exact m.firstB (Bb eb0) (hf b0 eb0)
 refine gl (zi (qr ⟨rfl,?_⟩));refine gl (Bc eal ?_)
 by_cases c1:(a.size-1==0)=true
 ·refine A4 c1 ?_
  exact gy (h _ (gallopOf st) (finA (out:=#[al]) h0 (by rw[beq_iff_eq] at c1;exact c1)))
 refine A5 c1 ?_
 by_cases c2:(b.size==1)=true
 ·refine A4 c2 ?_
  exact gy (h _ (gallopOf st) (finF (out:=#[al]) h0 (by rw[beq_iff_eq] at c2;exact c2)))
 refine A5 c2 ?_;rw[beq_iff_eq] at c1 c2;refine gl (wq ?_);refine gl (oz (wpS_forRange
  (I:=λx c st'=>∃(out:Array ic) (na nb g g':Nat),c=(none,na,nb,out,g)/\st'=Ml st g'/\MH blt a.toList b.toList out.toList na nb/\0<na/\na<=a.size/\1<nb/\nb<=b.size/\x+(na+nb)<=a.size+b.size)
  (Q:=λc st'=>∃(r:Array ic) (g':Nat),c.1=some r/\st'=Ml st g'/\r.toList=mg blt a.toList b.toList) ?_ ?_ ⟨#[al],a.size-1,b.size,_,gallopOf st,rfl,rfl,h0,by lia,by lia,by lia,by lia,by lia⟩) ?_)
 ·rintro x c st' _ hx ⟨out,na,nb,g,g',rfl,rfl,m,hna,hna2,hnb,hnb2,hpr⟩
  try dsimp only
  refine gl (oz (wpS_forRange
   (I:=λy c st'=>∃(out:Array ic) (na' nb' ac bc:Nat),c=(none,na',nb',out,ac,bc)/\st'=Ml st g'/\MH blt a.toList b.toList out.toList na' nb'/\0<na'/\na'<=a.size/\1<nb'/\nb'<=b.size/\y+(na'+nb')<=na+nb)
   (Q:=λc st'=>st'=Ml st g'/\((∃r:Array ic,∃cc,c=(some r,cc)/\r.toList=mg blt a.toList b.toList)\/∃(out:Array ic) (na' nb' ac bc:Nat),c=(none,na',nb',out,ac,bc)/\MH blt a.toList b.toList out.toList na' nb'/\0<na'/\na'<=a.size/\1<nb'/\nb'<=b.size/\na'+nb'+1<=na+nb)) ?_ ?_ ⟨out,na,nb,0,0,rfl,rfl,m,hna,hna2,hnb,hnb2,by lia⟩) ?_)
  ·rintro y c st' _ hy ⟨out,na,nb,ac,bc,rfl,rfl,m,hna,hna2,hnb,hnb2,hpr⟩
   try dsimp only
   obtain⟨xa,ea⟩:=Bd (show na-1<a.size by lia);obtain⟨xb,eb⟩:=Bd (show nb-1<b.size by lia);refine gl (Bc eb (gl (Bc ea (gl (L _ _ _ _ (PB eb) (PA ea) hk ?_)))))
   cases hlt:blt xb xa with
   |true=>
    refine A4 rfl ?_;refine gl (Bc ea ?_);have m':MH blt a.toList b.toList (out.push xa).toList (na-1) nb:=by rw[Ht];exact m.a o sb hna (by lia) (Bb ea) (Bb eb) hlt
    by_cases c3:(na-1==0)=true
    ·refine A4 c3 ?_
     exact gy ⟨rfl,.inl ⟨_,_,rfl,finA m' (by rw[beq_iff_eq] at c3;exact c3)⟩⟩
    ·refine A5 c3 ?_
     rw[beq_iff_eq] at c3
     by_cases c4:ac+1>=g
     ·refine A4 c4 ?_
      exact gy ⟨rfl,.inr ⟨_,_,_,_,_,rfl,m',by lia,by lia,hnb,hnb2,by lia⟩⟩
     ·refine A5 c4 ?_
      exact gy ⟨_,_,_,_,_,rfl,rfl,m',by lia,by lia,hnb,hnb2,by lia⟩
   |false=>
    refine A5 (by decide) ?_;refine gl (Bc eb ?_);have m':MH blt a.toList b.toList (out.push xb).toList na (nb-1):=by rw[Ht];exact m.b o sa hna (by lia) (Bb ea) (Bb eb) hlt
    by_cases c3:(nb-1==1)=true
    ·refine A4 c3 ?_
     exact gy ⟨rfl,.inl ⟨_,_,rfl,finF m' (by rw[beq_iff_eq] at c3;exact c3)⟩⟩
    ·refine A5 c3 ?_
     rw[beq_iff_eq] at c3
     by_cases c4:bc+1>=g
     ·refine A4 c4 ?_
      exact gy ⟨rfl,.inr ⟨_,_,_,_,_,rfl,m',hna,hna2,by lia,by lia,by lia⟩⟩
     ·refine A5 c4 ?_
      exact gy ⟨_,_,_,_,_,rfl,rfl,m',hna,hna2,by lia,by lia,by lia⟩
  ·rintro c st' ⟨out,na',nb',ac,bc,rfl,rfl,m,h1,h2,h3,h4,h5⟩
   exfalso;have:max 0 (a.size+b.size)=a.size+b.size:=by lia
   lia
  ·rintro c st' ⟨rfl,⟨r,cc,rfl,hr⟩|⟨out,na1,nb1,ac,bc,rfl,m1,q1,q2,q3,q4,q5⟩⟩
   ·try dsimp only
    exact gy ⟨r,g',rfl,rfl,hr⟩
   ·try dsimp only
    refine gl (zi (qr ⟨rfl,?_⟩));refine gl (oz (wpS_forRange
     (I:=λy c st'=>∃(out:Array ic) (na' nb' mg' ac bc g2:Nat),c=(none,na',nb',out,mg',ac,bc)/\st'=Ml st g2/\MH blt a.toList b.toList out.toList na' nb'/\0<na'/\na'<=a.size/\1<nb'/\nb'<=b.size/\y+(na'+nb')<=na1+nb1)
     (Q:=λc st'=>∃g2,st'=Ml st g2/\((∃r:Array ic,∃cc,c=(some r,cc)/\r.toList=mg blt a.toList b.toList)\/∃(out:Array ic) (na' nb' mg' ac bc:Nat),c=(none,na',nb',out,mg',ac,bc)/\MH blt a.toList b.toList out.toList na' nb'/\0<na'/\na'<=a.size/\1<nb'/\nb'<=b.size/\na'+nb'<=na1+nb1)) ?_ ?_ ⟨out,na1,nb1,_,ac,bc,g',rfl,rfl,m1,q1,q2,q3,q4,by lia⟩) ?_)
    ·rintro y c st' _ hy ⟨out,na,nb,mg',ac,bc,g2,rfl,rfl,m,hna,hna2,hnb,hnb2,hpr⟩
     try dsimp only
     obtain⟨xb,eb⟩:=Bd (show nb-1<b.size by lia);apply G7 (c:=mg'>1)
     case h1=>
      intro way cg;refine A4 cg ?_;generalize mg'-1=mg2
      revert mg2
      exact way.h
     case h2=>
      intro way cg;refine A5 cg ?_;generalize mg'=mg2
      revert mg2
      exact way.h
     case h=>
      intro mg2;refine gl (Nx (gl (Bc eb ?_)));have gb:∀i,i<na->∃x,a[0+i]?=some x/\P x/\eJ blt false xb x=(λi=>match a[0+i]? with|some x=>!(blt xb x)|none=>false) i:=λi hi=>by
       obtain⟨x,ex⟩:=Bd (show 0+i<a.size by lia);exact⟨x,ex,PA ex,by dsimp only;rw[ex];rfl⟩
      have gm:∀i j,i<=j->j<na->(λi=>match a[0+i]? with|some x=>!(blt xb x)|none=>false) j=true->(λi=>match a[0+i]? with|some x=>!(blt xb x)|none=>false) i=true:=λi j hij hj e=>by
       obtain⟨x,ex⟩:=Bd (show 0+i<a.size by lia);obtain⟨z,ez⟩:=Bd (show 0+j<a.size by lia);dsimp only at e ⊢;rw[ex];rw[ez] at e
       try dsimp only at e ⊢
       cases e1:blt xb x with
       |false=>rfl
       |true=>
        have:=o.ltle e1 (Ea o sa (show 0+i<=0+j by lia) (Bb ex) (Bb ez));rw[this] at e;cases e
      refine gl (Fy L hk (PB eb) (show na-1<na by lia) gb gm (λc hc1 hc2 hc3=>?_));have hA1:∀i x,i<c->a[i]?=some x->blt xb x=false:=λi x hi ex=>by
       have:=hc2 i hi
       try dsimp only at this
       rw[lx,ex] at this
       simpa using this
      have hA2:∀i x,c<=i->i<na->a.toList[i]?=some x->blt xb x=true:=λi x hi1 hi2 ex=>by
       rw[gt] at ex;have:=hc3 i hi1 hi2
       try dsimp only at this
       rw[lx,ex] at this
       simpa using this
      have m2:MH blt a.toList b.toList (out++(a.extract c na).reverse).toList c nb:=by rw[qV];exact m.as o sb hc1 (by lia) (Bb eb) hA2
      try dsimp only
      apply G7 (c:=na-c>0)
      case h1=>
       intro way hc0;refine A4 hc0 ?_
       by_cases c5:(c==0)=true
       ·refine A4 c5 ?_
        exact gy ⟨_,rfl,.inl ⟨_,_,rfl,finA m2 (by rw[beq_iff_eq] at c5;exact c5)⟩⟩
       refine A5 c5 ?_;rw[beq_iff_eq] at c5;have hi2:0<c:=by lia
       have hA3:∀x,a[c-1]?=some x->blt xb x=false:=λx ex=>hA1 (c-1) x (by lia) ex;have hp2:y+(c+nb)<=na1+nb1:=by lia
       have hq2:c<=a.size:=by lia
       have m2:=m2
       revert hi2 hA3 hp2 hq2 m2
       generalize out++(a.extract c na).reverse=out2;generalize na-c=kk;generalize c=na2
       revert out2 kk na2
       exact way.h
      case h2=>
       intro way hc0;refine A5 hc0 ?_;have e0:c=na:=by lia
       have hi2:0<na:=hna;have hA3:∀x,a[na-1]?=some x->blt xb x=false:=λx ex=>hA1 (na-1) x (by lia) ex;have hp2:y+(na+nb)<=na1+nb1:=by lia
       have hq2:na<=a.size:=hna2;clear m2;have m2:=m
       revert hi2 hA3 hp2 hq2 m2
       generalize out=out2;generalize na-c=kk;generalize na=na2
       revert out2 kk na2
       exact way.h
      case h=>
       intro out2 kk na2 hi2 hA3 hp2 hq2 m2;obtain⟨xa,ea⟩:=Bd (show na2-1<a.size by lia);refine gl (Bc eb ?_);have m3:MH blt a.toList b.toList (out2.push xb).toList na2 (nb-1):=by rw[Ht];exact m2.b o sa hi2 (by lia) (Bb ea) (Bb eb) (hA3 xa ea)
       by_cases c7:(nb-1==1)=true
       ·refine A4 c7 ?_
        exact gy ⟨_,rfl,.inl ⟨_,_,rfl,finF m3 (by rw[beq_iff_eq] at c7;exact c7)⟩⟩
       refine A5 c7 ?_;rw[beq_iff_eq] at c7;refine gl (Bc ea ?_);have gb:∀i,i<nb-1->∃x,b[0+i]?=some x/\P x/\eJ blt true xa x=(λi=>match b[0+i]? with|some x=>blt x xa|none=>false) i:=λi hi=>by
        obtain⟨x,ex⟩:=Bd (show 0+i<b.size by lia);exact⟨x,ex,PB ex,by dsimp only;rw[ex];rfl⟩
       have gm:∀i j,i<=j->j<nb-1->(λi=>match b[0+i]? with|some x=>blt x xa|none=>false) j=true->(λi=>match b[0+i]? with|some x=>blt x xa|none=>false) i=true:=λi j hij hj e=>by
        obtain⟨x,ex⟩:=Bd (show 0+i<b.size by lia);obtain⟨z,ez⟩:=Bd (show 0+j<b.size by lia);dsimp only at e ⊢;rw[ex];rw[ez] at e
        try dsimp only at e ⊢
        exact o.lelt (Ea o sb (show 0+i<=0+j by lia) (Bb ex) (Bb ez)) e
       refine gl (Fy L hk (PA ea) (show nb-1-1<nb-1 by lia) gb gm (λd hd1 hd2 hd3=>?_));have hB1:∀i x,i<d->b[i]?=some x->blt x xa=true:=λi x hi ex=>by
        have:=hd2 i hi
        try dsimp only at this
        rw[lx,ex] at this;exact this
       have hB2:∀i x,d<=i->i<nb-1->b.toList[i]?=some x->blt x xa=false:=λi x hi1 hi2 ex=>by
        rw[gt] at ex;have:=hd3 i hi1 hi2
        try dsimp only at this
        rw[lx,ex] at this;exact this
       have m4:MH blt a.toList b.toList (out2.push xb++(b.extract d (nb-1)).reverse).toList na2 d:=by rw[qV];exact m3.bs o sa hd1 hi2 (Bb ea) hB2
       try dsimp only
       apply G7 (c:=nb-1-d>0)
       case h1=>
        intro way hd0;refine A4 hd0 ?_
        by_cases c8:(d==1)=true
        ·refine A4 c8 ?_
         exact gy ⟨_,rfl,.inl ⟨_,_,rfl,finF m4 (by rw[beq_iff_eq] at c8;exact c8)⟩⟩
        refine A5 c8 ?_
        by_cases c9:(d==0)=true
        ·refine A4 c9 ?_
         exact gy ⟨_,rfl,.inl ⟨_,_,rfl,finB m4 (by rw[beq_iff_eq] at c9;exact c9)⟩⟩
        refine A5 c9 ?_;rw[beq_iff_eq] at c8 c9;have hi4:1<d:=by lia
        have hB3:∀x,b[d-1]?=some x->blt x xa=true:=λx ex=>hB1 (d-1) x (by lia) ex;have hp4:y+(na2+d)+1<=na1+nb1:=by lia
        have hq4:d<=b.size:=by lia
        have m4:=m4
        revert hi4 hB3 hp4 hq4 m4
        generalize out2.push xb++(b.extract d (nb-1)).reverse=out4;generalize nb-1-d=kd4;generalize d=nb4
        revert out4 kd4 nb4
        exact way.h
       case h2=>
        intro way hd0;refine A5 hd0 ?_;have hi4:1<nb-1:=by lia
        have hB3:∀x,b[nb-1-1]?=some x->blt x xa=true:=λx ex=>hB1 (nb-1-1) x (by lia) ex;have hp4:y+(na2+(nb-1))+1<=na1+nb1:=by lia
        have hq4:nb-1<=b.size:=by lia
        clear m4;have m4:=m3
        revert hi4 hB3 hp4 hq4 m4
        generalize out2.push xb=out4;generalize nb-1-d=kd4;generalize nb-1=nb4
        revert out4 kd4 nb4
        exact way.h
       case h=>
        intro out4 kd4 nb4 hi4 hB3 hp4 hq4 m4;obtain⟨xb4,eb4⟩:=Bd (show nb4-1<b.size by lia);refine gl (Bc ea ?_);have m5:MH blt a.toList b.toList (out4.push xa).toList (na2-1) nb4:=by rw[Ht];exact m4.a o sb hi2 (by lia) (Bb ea) (Bb eb4) (hB3 xb4 eb4)
        by_cases c9:(na2-1==0)=true
        ·refine A4 c9 ?_
         exact gy ⟨_,rfl,.inl ⟨_,_,rfl,finA m5 (by rw[beq_iff_eq] at c9;exact c9)⟩⟩
        refine A5 c9 ?_;rw[beq_iff_eq] at c9
        by_cases c10:(decide (kk<7)&&decide (kd4<7))=true
        ·refine A4 c10 ?_
         exact gy ⟨_,rfl,.inr ⟨_,_,_,_,_,_,rfl,m5,by lia,by lia,hi4,hq4,by lia⟩⟩
        ·refine A5 c10 ?_
         exact gy ⟨_,_,_,_,_,_,_,rfl,rfl,m5,by lia,by lia,hi4,hq4,by lia⟩
    ·rintro c st' ⟨out,na',nb',mg',ac,bc,g2,rfl,rfl,m,h1,h2,h3,h4,h5⟩
     exfalso;have:max 0 (a.size+b.size)=a.size+b.size:=by lia
     lia
    ·rintro c st' ⟨g2,rfl,⟨r,cc,rfl,hr⟩|⟨out,na2,nb2,mg2,ac,bc,rfl,m2,r1,r2,r3,r4,r5⟩⟩
     ·try dsimp only
      exact gy ⟨r,g2,rfl,rfl,hr⟩
     ·try dsimp only
      refine gl (Nx (gy ⟨_,_,_,_,_,rfl,rfl,m2,r1,r2,r3,r4,by lia⟩))
 ·rintro c st' ⟨out,na,nb,g,g',rfl,rfl,m,h1,h2,h3,h4,h5⟩
  exfalso;have:max 0 (a.size+b.size)=a.size+b.size:=by lia
  lia
 ·rintro⟨c,cc⟩ st' ⟨r,g',e,rfl,hr⟩
  dsimp only at e;subst e
  try dsimp only
  exact gy (h r g' hr)
end
theorem eP {xs:Array ic}{src d:Nat}(hs:src<xs.size)(hd:d<=src){x:ic}(hx:xs[src]?=some x) :
  (bubble xs src d).toList=xs.toList.take (src-d)++[x]++(xs.toList.drop (src-d)).take d++xs.toList.drop (src+1):=by
 have hl:xs.toList.length=xs.size:=gj;refine pj λk=>?_;rw[gt,getElem?_bubble hs d hd k];obtain⟨a,rfl⟩:=my hd;rw[jb];have l1:(xs.toList.take a).length=a:=by rw[f7,hl];exact jm (by lia)
 have l2:((xs.toList.drop a).take d).length=d:=by rw[f7,jh,hl];exact jm (by lia)
 have l3:(xs.toList.take a++[x]).length=a+1:=by rw[fe,l1];rfl
 have l4:(xs.toList.take a++[x]++(xs.toList.drop a).take d).length=a+1+d:=by rw[fe,l3,l2]
 by_cases h1:k=a
 ·subst h1
  rw[if_pos rfl,hx,fm,fm,f8 (ot l1),l1,ly];rfl
 ·rw[if_neg h1]
  by_cases h2:a<k/\k<=d+a
  ·obtain⟨i,rfl⟩:=my (show a+1<=k from h2.1)
   rw[if_pos h2,ie (by rw[l4];lia),f8 (by rw[l3];exact kq _ _),l3,jb,ku,if_pos (by lia),ka,gt,Nat.add_right_comm,su]
  ·rw[if_neg h2]
   by_cases h3:k<a
   ·rw[fm,fm,ie (by rw[l1];exact h3),ku,if_pos h3,gt]
   ·obtain⟨i,rfl⟩:=my (show a+1+d<=k by lia)
    rw[f8 (by rw[l4];exact kq _ _),l4,jb,ka,gt,show d+a+1+i=a+1+d+i by lia]
theorem Ys {xs:Array ic}{i j:Nat}(hij:i<=j)(hj:j<=xs.size) :
  (mirror xs i j ((j-i)/2)).toList=xs.toList.take i++((xs.toList.drop i).take (j-i)).reverse++xs.toList.drop j:=by
 have hl:xs.toList.length=xs.size:=gj;refine pj λk=>?_;rw[gt,getElem?_mirror_all (i:=i) hj k];obtain⟨m,rfl⟩:=my hij;rw[jb];have l1:(xs.toList.take i).length=i:=by rw[f7,hl];exact jm (by lia)
 have l2:((xs.toList.drop i).take m).length=m:=by rw[f7,jh,hl];exact jm (by lia)
 have l3:(xs.toList.take i++((xs.toList.drop i).take m).reverse).length=i+m:=by rw[fe,oi,l1,l2]
 by_cases h2:k<i
 ·rw[if_neg (λz=>Nat.not_le.mpr h2 z.1),fm,ie (by rw[l1];exact h2),ku,if_pos h2,gt]
 ·obtain⟨r,rfl⟩:=my (sr.mp h2)
  by_cases h1:r<m
  ·obtain⟨q,rfl⟩:=my (show r+1<=m from h1)
   rw[if_pos ⟨kq _ _,by lia⟩,ie (by rw[l3];lia),f8 (by rw[l1];exact kq _ _),l1,jb,
    List.getElem?_reverse (by rw[l2];exact h1),l2,ku,if_pos (by lia),ka,gt]
   congr 1;lia
  ·obtain⟨q,rfl⟩:=my (sr.mp h1)
   rw[if_neg (by lia),f8 (by rw[l3];lia),l3,ka,gt,<-jv,jb]
theorem eT (sa:Nat):∀(l:List ic) (k:Nat) (xs:Array ic),sa+k+l.length<=xs.size ->
  ((l.zipIdx k).foldl (λa q=>a.setIfInBounds (sa+q.2) q.1) xs).toList=xs.toList.take (sa+k)++l++xs.toList.drop (sa+k+l.length)
 |[],k,xs,h=>by
  rw[List.zipIdx_nil,IG,ip,jq,p6,jg]
 |p::l,k,xs,h=>by
  have hl:xs.toList.length=xs.size:=gj;rw[gu] at h;rw[List.zipIdx_cons,qm,eT sa l (k+1) _ (by rw[Array.size_setIfInBounds];lia),BY,gu];have e1:(xs.toList.set (sa+k) p).take (sa+(k+1))=xs.toList.take (sa+k)++[p]:=by
   rw[show sa+(k+1)=sa+k+1 by lia,Ek (x:=p) (by rw[zz,if_pos rfl,if_pos (by lia)]),List.take_set_of_le (by lia)]
  have e2:(xs.toList.set (sa+k) p).drop (sa+(k+1)+l.length)=xs.toList.drop (sa+k+(l.length+1)):=by
   rw[List.drop_set_of_lt (by lia)];congr 1;lia
  rw[e1,e2,fm,fm,fm];rfl
section
variable {prog:gv} {w:ir} {A:ji} {E:Za0} {s:fw}
theorem vO {G:Type}{st st':G}{Q:PUnit->G->Prop}(h:Q ⟨⟩ st'):wpS M A E s (set st':StateT G Sem PUnit) Q st:=by
 unfold wpS;rw[StateT.run_set];exact ft ⟨rfl,h⟩
theorem Dw {l:List ic}{i n j:Nat}(h:j<n):((l.drop i).take n)[j]?=l[i+j]?:=by rw[ku,if_pos h,ka]
theorem Hs {l:List ic}{i n:Nat}(h:i+n<=l.length):((l.drop i).take n).length=n:=by rw[f7,jh];lia
theorem Yo (a:Array ic)(i j:Nat):(a.extract i j).toList=(a.toList.drop i).take (j-i):=by rw[qy,pf]
variable {kd:uw} {P:ic->Prop} {blt:ic->ic->Bool} (L:eX prog w A E s kd P blt) (o:Swo blt)
include L o
theorem Zi {st:j0}{i sa na nb p p':Nat}{Q:Bool->j0->Prop}(hk:kindOf st=kd)(hf:failedOf st=none)(h1:(pendingOf st)[i]?=some (sa,na,p))(h2:(pendingOf st)[i+1]?=some (sa+na,nb,p'))(hn:0<na)(hm:0<nb)
  (hsz:sa+na+nb<=(arrOf st).size)(hP:∀x∈(arrOf st).toList,P x)(sU:Srt blt (((arrOf st).toList.drop sa).take na))(sW:Srt blt (((arrOf st).toList.drop (sa+na)).take nb))
  (h:∀st':j0,kindOf st'=kd->failedOf st'=none->pendingOf st'=((pendingOf st).setIfInBounds i (sa,na+nb,p)).eraseIdxIfInBounds (i+1) ->
   (arrOf st').toList=(arrOf st).toList.take sa++mg blt (((arrOf st).toList.drop sa).take na) (((arrOf st).toList.drop (sa+na)).take nb)++(arrOf st).toList.drop (sa+na+nb)->Q true st') :
  wpS (model prog w) A E s (mergeAt' i) Q st:=by
 have hl:(arrOf st).toList.length=(arrOf st).size:=gj;have PA:∀{i x},(arrOf st)[i]?=some x->P x:=λe=>hP _ (gg (Bb e));have lU:(((arrOf st).toList.drop sa).take na).length=na:=Hs (by lia);have lW:(((arrOf st).toList.drop (sa+na)).take nb).length=nb:=Hs (by lia);have whole:(arrOf st).toList.take sa++(((arrOf st).toList.drop sa).take na++((arrOf st).toList.drop (sa+na)).take nb)++(arrOf st).toList.drop (sa+na+nb)=(arrOf st).toList:=by
  rw[<-fm,fm,<-Fo,fm,<-Fo,jg]
 refine gl (wq ?_);rw[h1,h2];dsimp only;obtain⟨w0,e0⟩:=Bd (show sa+na<(arrOf st).size by lia);refine gl (vO ?_);refine gl (Bc e0 ?_);have gb:∀j,j<na->∃x,(arrOf st)[sa+j]?=some x/\P x/\eJ blt false w0 x=(λj=>match (arrOf st)[sa+j]? with|some x=>!(blt w0 x)|none=>false) j:=λj hj=>by
  obtain⟨x,ex⟩:=Bd (show sa+j<(arrOf st).size by lia);exact⟨x,ex,PA ex,by dsimp only;rw[ex];rfl⟩
 have gm:∀j j',j<=j'->j'<na->(λj=>match (arrOf st)[sa+j]? with|some x=>!(blt w0 x)|none=>false) j'=true->(λj=>match (arrOf st)[sa+j]? with|some x=>!(blt w0 x)|none=>false) j=true:=λj j' hij hj e=>by
  obtain⟨x,ex⟩:=Bd (show sa+j<(arrOf st).size by lia);obtain⟨z,ez⟩:=Bd (show sa+j'<(arrOf st).size by lia);dsimp only at e ⊢;rw[ex];rw[ez] at e
  try dsimp only at e ⊢
  cases e1:blt w0 x with
  |false=>rfl
  |true=>
   have:=o.ltle e1 (Ea o sU hij (by rw[Dw (by lia)];exact Bb ex) (by rw[Dw hj];exact Bb ez));rw[this] at e;cases e
 refine gl (Fy L hk (PA e0) hn gb gm (λc hc1 hc2 hc3=>?_));have hA1:∀j x,j<c->(arrOf st)[sa+j]?=some x->blt w0 x=false:=λj x hj ex=>by
  have:=hc2 j hj
  try dsimp only at this
  rw[ex] at this
  simpa using this
 have hA2:∀j x,c<=j->j<na->(arrOf st)[sa+j]?=some x->blt w0 x=true:=λj x hj1 hj2 ex=>by
  have:=hc3 j hj1 hj2
  try dsimp only at this
  rw[ex] at this
  simpa using this
 clear gb gm hc2 hc3
 -- the first c stay ahead of all
 have hw0:(((arrOf st).toList.drop (sa+na)).take nb)[0]?=some w0:=by rw[Dw hm];exact Bb e0
 have eU:mg blt (((arrOf st).toList.drop sa).take na) (((arrOf st).toList.drop (sa+na)).take nb)=((arrOf st).toList.drop sa).take c++mg blt (((arrOf st).toList.drop (sa+c)).take (na-c)) (((arrOf st).toList.drop (sa+na)).take nb):=by
  have e1:((arrOf st).toList.drop sa).take na=((arrOf st).toList.drop sa).take c++((arrOf st).toList.drop (sa+c)).take (na-c):=by
   rw[Ep _ hc1,nh]
  rw[e1,Dz blt λx hx y hy=>?_];obtain⟨j,hj,ex⟩:=C8 hx;obtain⟨j',ey⟩:=l7 hy;rw[gt] at ex;exact o.le (hA1 j x hj ex) (Ea o sW (i6 j') hw0 ey)
 try dsimp only
 by_cases c1:(na-c==0)=true
 ·rw[if_pos c1]
  rw[beq_iff_eq] at c1;refine gy (h _ hk hf rfl ?_);have:c=na:=by lia
  rw[eU,this,ly,qc,Dm,whole]
 rw[if_neg c1];rw[beq_iff_eq] at c1;have hnc:c+(na-c)=na:=vx hc1;have hn1:1<=na-c:=Nat.pos_of_ne_zero c1;have ia:sa+c+(na-c)-1=sa+na-1:=by rw[jv,hnc]
 have ia2:sa+c+(na-c-1)=sa+na-1:=(AE hn1 _).symm.trans ia;obtain⟨al,eal⟩:=Bd (show sa+na-1<(arrOf st).size by lia);refine gl (Bc (by rw[ia];exact eal) ?_);have gb:∀j,j<nb->∃x,(arrOf st)[sa+na+j]?=some x/\P x/\eJ blt true al x=(λj=>match (arrOf st)[sa+na+j]? with|some x=>blt x al|none=>false) j:=λj hj=>by
  obtain⟨x,ex⟩:=Bd (show sa+na+j<(arrOf st).size by lia);exact⟨x,ex,PA ex,by dsimp only;rw[ex];rfl⟩
 have gm:∀j j',j<=j'->j'<nb->(λj=>match (arrOf st)[sa+na+j]? with|some x=>blt x al|none=>false) j'=true->(λj=>match (arrOf st)[sa+na+j]? with|some x=>blt x al|none=>false) j=true:=λj j' hij hj e=>by
  obtain⟨x,ex⟩:=Bd (show sa+na+j<(arrOf st).size by lia);obtain⟨z,ez⟩:=Bd (show sa+na+j'<(arrOf st).size by lia);dsimp only at e ⊢;rw[ex];rw[ez] at e
  try dsimp only at e ⊢
  exact o.lelt (Ea o sW hij (by rw[Dw (by lia)];exact Bb ex) (by rw[Dw hj];exact Bb ez)) e
 refine gl (Fy L hk (PA eal) (show nb-1<nb by lia) gb gm (λd hd1 hd2 hd3=>?_));have hB1:∀j x,j<d->(arrOf st)[sa+na+j]?=some x->blt x al=true:=λj x hj ex=>by
  have:=hd2 j hj
  try dsimp only at this
  rw[ex] at this;exact this
 have hB2:∀j x,d<=j->j<nb->(arrOf st)[sa+na+j]?=some x->blt x al=false:=λj x hj1 hj2 ex=>by
  have:=hd3 j hj1 hj2
  try dsimp only at this
  rw[ex] at this;exact this
 clear gb gm hd2 hd3;have lX:(((arrOf st).toList.drop (sa+c)).take (na-c)).length=na-c:=Hs (by lia);have lY:(((arrOf st).toList.drop (sa+na)).take d).length=d:=Hs (by lia);have sX:Srt blt (((arrOf st).toList.drop (sa+c)).take (na-c)):=by
  have e1:((arrOf st).toList.drop sa).take na=((arrOf st).toList.drop sa).take c++((arrOf st).toList.drop (sa+c)).take (na-c):=by
   rw[Ep _ hc1,nh]
  rw[e1] at sU;exact(ph.mp sU).2.1
 have eW1:((arrOf st).toList.drop (sa+na)).take nb=((arrOf st).toList.drop (sa+na)).take d++((arrOf st).toList.drop (sa+na+d)).take (nb-d):=by
  rw[Ep _ hd1,nh]
 have sY:Srt blt (((arrOf st).toList.drop (sa+na)).take d):=by
  rw[eW1] at sW;exact(ph.mp sW).1
 have hal:(((arrOf st).toList.drop (sa+c)).take (na-c))[na-c-1]?=some al:=by
  rw[Dw (GH hn1 FJ),ia2];exact Bb eal
 have eW:mg blt (((arrOf st).toList.drop (sa+c)).take (na-c)) (((arrOf st).toList.drop (sa+na)).take nb)=mg blt (((arrOf st).toList.drop (sa+c)).take (na-c)) (((arrOf st).toList.drop (sa+na)).take d)++((arrOf st).toList.drop (sa+na+d)).take (nb-d):=by
  rw[eW1,Lg blt _ _ λy hy x hx=>?_];obtain⟨j,hj,ey⟩:=C8 hy;obtain⟨j',ex⟩:=l7 hx;have hj':=(ge.mp ex).1;rw[lX] at hj';rw[gt,jv] at ey;exact o.le (Ea o sX (Nat.le_sub_one_of_lt hj') ex hal) (hB2 (d+j) y (by lia) (by lia) ey)
 try dsimp only
 by_cases c2:(d==0)=true
 ·rw[if_pos c2]
  rw[beq_iff_eq] at c2;refine gy (h _ hk hf rfl ?_);rw[eU,eW,c2,qc,Bm,p6,uc];have e1:((arrOf st).toList.drop sa).take na=((arrOf st).toList.drop sa).take c++((arrOf st).toList.drop (sa+c)).take (na-c):=by
   rw[Ep _ hc1,nh]
  rw[<-fm (((arrOf st).toList.drop sa).take c),<-e1];exact whole.symm
 rw[if_neg c2];rw[beq_iff_eq] at c2
 -- Ty stretches
 have xL:((arrOf st).extract (sa+c) (sa+na)).toList=((arrOf st).toList.drop (sa+c)).take (na-c):=by
  rw[Yo,show sa+na-(sa+c)=na-c by lia]
 have yL:((arrOf st).extract (sa+na) (sa+na+d)).toList=((arrOf st).toList.drop (sa+na)).take d:=by
  rw[Yo,show sa+na+d-(sa+na)=d by lia]
 have xS:((arrOf st).extract (sa+c) (sa+na)).size=na-c:=by rw[<-gj,xL,lX]
 have yS:((arrOf st).extract (sa+na) (sa+na+d)).size=d:=by rw[<-gj,yL,lY]
 have x0:∀{i x},((arrOf st).extract (sa+c) (sa+na))[i]?=some x->i<na-c/\(arrOf st)[sa+c+i]?=some x:=λ{i x} e=>by
  have hi:=(qz.mp e).1;rw[xS] at hi;have:=Bb e;rw[xL,Dw hi,gt] at this;exact⟨hi,this⟩
 have y0:∀{i x},((arrOf st).extract (sa+na) (sa+na+d))[i]?=some x->i<d/\(arrOf st)[sa+na+i]?=some x:=λ{i x} e=>by
  have hi:=(qz.mp e).1;rw[yS] at hi;have:=Bb e;rw[yL,Dw hi,gt] at this;exact⟨hi,this⟩
 have hlast:∀x,((arrOf st).extract (sa+c) (sa+na))[((arrOf st).extract (sa+c) (sa+na)).size-1]?=some x->∀y∈((arrOf st).extract (sa+na) (sa+na+d)).toList,blt y x=true:=λx ex y hy=>by
  obtain⟨_,e2⟩:=x0 ex;rw[xS,ia2,eal] at e2;cases e2;rw[yL] at hy;obtain⟨j,hj,ey⟩:=C8 hy;rw[gt] at ey;exact hB1 j y hj ey
 have hfirst:∀y,((arrOf st).extract (sa+na) (sa+na+d))[0]?=some y->∀x∈((arrOf st).extract (sa+c) (sa+na)).toList,blt y x=true:=λy ey x hx=>by
  obtain⟨_,e2⟩:=y0 ey;rw[p6,e0] at e2;cases e2;rw[xL] at hx;obtain⟨j,hj,ex⟩:=C8 hx;rw[gt,jv] at ex;exact hA2 (c+j) x (kq _ _) (by rw[uf];exact Nat.add_lt_of_lt_sub hj) ex
 have fin:∀(r:Array ic) (st1:j0),r.toList=mg blt ((arrOf st).extract (sa+c) (sa+na)).toList ((arrOf st).extract (sa+na) (sa+na+d)).toList->kindOf st1=kd->failedOf st1=none ->
   pendingOf st1=((pendingOf st).setIfInBounds i (sa,na+nb,p)).eraseIdxIfInBounds (i+1)->arrOf st1=arrOf st ->
   Q true (setArr st1 (r.toList.zipIdx.foldl (λa q=>a.setIfInBounds (sa+c+q.2) q.1) (arrOf st1))):=λr st1 hr q1 q2 q3 q4=>by
  refine h _ q1 q2 q3 ?_;show(r.toList.zipIdx.foldl (λa q=>a.setIfInBounds (sa+c+q.2) q.1) (arrOf st1)).toList=_;have lr:r.toList.length=na-c+d:=by rw[hr,(Li blt _ _).length_eq,fe,xL,yL,lX,lY]
  rw[q4,eT (sa+c) r.toList 0 (arrOf st) (by rw[lr,p6,<-jv,jv sa,hnc];lia),p6,lr,hr,xL,yL,eU,eW];have e3:(arrOf st).toList.take (sa+c)=(arrOf st).toList.take sa++((arrOf st).toList.drop sa).take c:=by rw[y8]
  have e4:(arrOf st).toList.drop (sa+c+(na-c+d))=((arrOf st).toList.drop (sa+na+d)).take (nb-d)++(arrOf st).toList.drop (sa+na+nb):=by
   rw[<-jv,jv sa,hnc,show sa+na+nb=sa+na+d+(nb-d) by rw[jv (sa+na),vx hd1]];exact Fo _ _ _
  rw[e3,e4];simp only[fm]
 have pX:∀x∈((arrOf st).extract (sa+c) (sa+na)).toList,P x:=λx hx=>by rw[xL] at hx;exact hP x (n4 (l6 hx))
 have pY:∀x∈((arrOf st).extract (sa+na) (sa+na+d)).toList,P x:=λx hx=>by rw[yL] at hx;exact hP x (n4 (l6 hx))
 have done:∀(r:Array ic) (g:Nat),r.toList=mg blt ((arrOf st).extract (sa+c) (sa+na)).toList ((arrOf st).extract (sa+na) (sa+na+d)).toList ->
   Q (failedOf st).isNone (setArr (vw (kindOf st) (arrOf st) (((pendingOf st).setIfInBounds i (sa,na+nb,p)).eraseIdxIfInBounds (i+1)) g (failedOf st)) (r.toList.zipIdx.foldl (λa q=>a.setIfInBounds (sa+c+q.2) q.1) (arrOf st))):=λr g hr=>by
  have:=fin r (vw (kindOf st) (arrOf st) (((pendingOf st).setIfInBounds i (sa,na+nb,p)).eraseIdxIfInBounds (i+1)) g (failedOf st)) hr hk hf rfl rfl;rw[show(failedOf st).isNone=true by rw[hf];rfl];exact this
 by_cases c3:na-c<=d
 ·rw[if_pos c3]
  refine gl (Z4 L o hk (by rw[xS];lia) (by rw[yS];lia) pX pY (by rw[xL];exact sX) (by rw[yL];exact sY) (λx y ex ey=>hfirst y ey x (gg (Bb ex))) hlast λr g hr=>?_);exact gl (w8 (gl (wq (gy (done r g hr)))))
 ·rw[if_neg c3]
  refine gl (Zz L o hk (by rw[xS];lia) (by rw[yS];lia) pX pY (by rw[xL];exact sX) (by rw[yL];exact sY) hfirst hlast λr g hr=>?_);exact gl (w8 (gl (wq (gy (done r g hr)))))
end
theorem tH {blt:ic->ic->Bool}(o:Swo blt){l:List ic}{x y:ic}(h:Srt blt l)(hy:l[l.length-1]?=some y)(hx:blt x y=false):Srt blt (l++[x]):=by
 refine ph.mpr ⟨h,sv _ _,λa ha b hb=>?_⟩;rw[gw.mp hb];obtain⟨j,hj⟩:=l7 ha;have hl:=(ge.mp hj).1;exact o.le (Ea o h (show j<=l.length-1 by lia) hj hy) hx
theorem G4 {xs:Array ic}{U V W:List ic}{i j:Nat}(e:xs.toList=U++V++W)(hi:i=U.length)(hj:j=U.length+V.length):(mirror xs i j ((j-i)/2)).toList=U++V.reverse++W:=by
 have hl:xs.size=U.length+V.length+W.length:=by rw[<-gj,e,fe,fe]
 rw[Ys (by lia) (by lia),e,hi,hj];have e1:(U++V++W).take U.length=U:=by rw[fm,jz (fk _),rc]
 have e2:(U++V++W).drop U.length=V++W:=by rw[fm,mf (fk _),rf,ju]
 have e3:(U++V++W).drop (U.length+V.length)=W:=by rw[<-nh,e2,mf (fk _),rf,ju]
 rw[e1,e2,e3,jb,jz (fk _),rc]
theorem gO {blt:ic->ic->Bool}(o:Swo blt){a b:List ic}(h:Srt blt (Ao blt a++b)):Ao blt (a++b)=Ao blt a++b:=by
 have hp:=ph.mp h;rw[Um o,Ir hp.2.1];have:=Dz blt (ys:=b) (as:=Ao blt a) (xs:=[]) λx hx y hy=>hp.2.2 x hx y hy;rw[ip,Dm] at this;exact this
section
variable {prog:gv} {w:ir} {A:ji} {E:Za0} {s:fw}
variable {kd:uw} {P:ic->Prop} {blt:ic->ic->Bool} (L:eX prog w A E s kd P blt) (o:Swo blt)
include L
theorem Il {st:j0}{i j:Nat}{x y:ic}{Q:Option Bool->j0->Prop}(hk:kindOf st=kd)(hi:(arrOf st)[i]?=some x)(hj:(arrOf st)[j]?=some y)(px:P x)(py:P y)(h:Q (some (blt x y)) st) :
  wpS (model prog w) A E s (ltAt' i j) Q st:=by
 rw[ltAt'_eq];refine gl (wq ?_);exact gl (Bc hi (gl (Bc hj (L _ _ _ _ px py hk h))))
include o
theorem Za {st:j0}{lo a nrem:Nat}{T C D:List ic}{F:Nat->Option (Option Nat)×Nat->StateT j0 Sem (ForInStep (Option (Option Nat)×Nat))}{Q:Option (Option Nat)×Nat->j0->Prop}
  (hF:∀x n,F x (none,n)=(do
   let r <-ltAt' (lo+n) (lo+n-1)
   match r with
   |some smaller=>if smaller=true then pure (sg (none,n)) else pure (rg (none,n+1))
   |x=>pure (sg (some none,n))))
  (hk:kindOf st=kd)(hP:∀x∈(arrOf st).toList,P x)(hT:T.length=lo)(hD:D.length=nrem)(ha:1<=a)(han:a<=nrem)(hC:C.length=a)(e:(arrOf st).toList=T++C++D.drop a)(sC:Srt blt C)
  (h:∀n,a<=n->n<=nrem->Srt blt (C++(D.drop a).take (n-a))->(n=nrem\/∃x y,(C++D.drop a)[n]?=some x/\(C++D.drop a)[n-1]?=some y/\blt x y=true)->Q (none,n) st) :
  wpS (model prog w) A E s (forIn [a:nrem] (none,a) F) Q st:=by
 have hl:(C++D.drop a).length=nrem:=by rw[fe,jh];lia
 have at_:∀j,(arrOf st)[lo+j]?=(C++D.drop a)[j]?:=λj=>by
  rw[<-gt,e,fm,f8 (by lia),hT,jb]
 have ctk:∀n,a<=n->n<=nrem->C++(D.drop a).take (n-a)=(C++D.drop a).take n:=λn h1 h2=>by
  rw[GT,gq (l:=C) (by lia),hC]
 refine wpS_forRange (I:=λx c st'=>st'=st/\c=(none,x)/\Srt blt ((C++D.drop a).take x)) ?_ ?_ ⟨rfl,rfl,?_⟩
 ·rintro x c st' hx1 hx2 ⟨rfl,rfl,hs⟩
  rw[hF];obtain⟨u,eu⟩:∃u,(C++D.drop a)[x]?=some u:=⟨_,fc (by lia)⟩;obtain⟨v,ev⟩:∃v,(C++D.drop a)[x-1]?=some v:=⟨_,fc (by lia)⟩;have pu:(arrOf st')[lo+x]?=some u:=by rw[at_];exact eu
  have pv:(arrOf st')[lo+x-1]?=some v:=by rw[show lo+x-1=lo+(x-1) by lia,at_];exact ev
  refine gl (Il L hk pu pv (hP _ (gg (Bb pu))) (hP _ (gg (Bb pv))) ?_);dsimp only
  cases hb:blt u v with
  |true=>
   rw[if_pos rfl];exact gy (h x hx1 (by lia) (by rw[ctk x hx1 (by lia)];exact hs) (.inr ⟨u,v,eu,ev,hb⟩))
  |false=>
   rw[if_neg (by decide)];refine gy ⟨rfl,rfl,?_⟩;rw[Ek eu];refine tH o hs ?_ hb;rw[f7,hl,jm (jx hx2),ku,if_pos (GH (by lia) FJ)];exact ev
 ·rintro c st' ⟨rfl,rfl,hs⟩
  have:max a nrem=nrem:=by lia
  rw[this] at hs ⊢;exact h nrem han (fk _) (by rw[ctk nrem han (fk _)];exact hs) (.inl rfl)
 ·rw[<-ctk a (fk _) han,ly,qc,ip]
  exact sC
theorem Ub {st:j0}{lo nrem:Nat}{Q:Option Nat->j0->Prop}(hk:kindOf st=kd)(hP:∀x∈(arrOf st).toList,P x)(hn:lo+nrem=(arrOf st).size)(h1:1<=nrem)
  (h:∀m (xs:Array ic),1<=m->m<=nrem->xs.toList=(arrOf st).toList.take lo++Ao blt (((arrOf st).toList.drop lo).take m)++((arrOf st).toList.drop lo).drop m->Q (some m) (setArr st xs)) :
  wpS (model prog w) A E s (countRun' lo nrem) Q st:=by
 have hl:(arrOf st).toList.length=(arrOf st).size:=gj;generalize hT:(arrOf st).toList.take lo=T at *;generalize hD:(arrOf st).toList.drop lo=D at *;have e:(arrOf st).toList=T++D:=by rw[<-hT,<-hD,jg]
 have lT:T.length=lo:=by rw[<-hT,f7];lia
 have lD:D.length=nrem:=by rw[<-hD,jh];lia
 obtain⟨d0,e0⟩:∃d0,D[0]?=some d0:=⟨_,fc (by lia)⟩;have eD:D.take 1++D.drop 1=D:=jg 1 D;refine gl (Za L o (T:=T) (C:=D.take 1) (D:=D) (λx n=>rfl) hk hP lT lD (fk 1) h1 (by rw[f7];lia) (by rw[fm,eD];exact e) (by rw[Ek e0];exact sv _ _) λn hn1 hn2 sn hor=>?_);have etk:D.take 1++(D.drop 1).take (n-1)=D.take n:=by rw[show n=1+(n-1) by lia,y8,jb]
 rw[etk] at sn;rw[eD] at hor;dsimp only;have PD:∀y∈D,P y:=λy hy=>hP y (by rw[e];exact ii _ hy)
 by_cases c1:(n==nrem)=true
 ·rw[if_pos c1]
  refine gy (h n (arrOf st) hn1 hn2 ?_);rw[Ir sn,fm,jg];exact e
 rw[if_neg c1];rw[beq_iff_eq] at c1;obtain⟨x,y,ex,ey,hxy⟩:=hor.resolve_left c1;have lDn:(D.take n).length=n:=by rw[f7];lia
 apply G7 (c:=n>1)
 case h1=>
  intro way hgt;rw[if_pos hgt];have a0:(arrOf st)[lo]?=some d0:=by rw[<-gt,e,f8 (by lia),lT,ly];exact e0
  have ay:(arrOf st)[lo+n-1]?=some y:=by rw[AE hn1,<-gt,e,f8 (by rw[lT];exact kq _ _),lT,jb];exact ey
  refine gl (Il L hk a0 ay (PD _ (gg e0)) (PD _ (gg ey)) ?_);dsimp only
  by_cases hrose:blt d0 y=true
  ·rw[if_pos hrose]
   refine gy (h n (arrOf st) hn1 hn2 ?_);rw[Ir sn,fm,jg];exact e
  rw[if_neg hrose];have hrose:blt d0 y=false:=by simpa using hrose
  have key:∀j z,j<n->D[j]?=some z->blt z y=false:=λj z hj ez=>by
   have h2:=Ea o sn (i6 j) (by rw[ku,if_pos (by lia)];exact e0) (by rw[ku,if_pos hj];exact ez)
   cases hc:blt z y with
   |false=>rfl
   |true=>
    rcases o.ng z d0 y hc with h3|h3
    ·rw[h2] at h3;cases h3
    ·rw[hrose] at h3;cases h3
  have hall:∀z∈D.take n,blt x z=true:=λz hz=>by
   obtain⟨j,hj,ez⟩:=Ih hz;exact o.ltle hxy (key j z hj ez)
  refine gl (zh ?_);have m1:=G4 (xs:=arrOf st) (U:=T) (V:=D.take n) (W:=D.drop n) (i:=lo) (j:=lo+n) (by rw[fm,jg];exact e) lT.symm (by rw[lDn,lT])
  revert hall m1
  generalize mirror (arrOf st) lo (lo+n) ((lo+n-lo)/2)=xs1
  revert xs1
  exact way.h
 case h2=>
  intro way hgt;rw[if_neg hgt];have n1:n=1:=by lia
  have hall:∀z∈D.take n,blt x z=true:=λz hz=>by
   obtain⟨j,hj,ez⟩:=Ih hz;have:j=n-1:=by lia
   rw[this,ey] at ez;cases ez;exact hxy
  have m1:(arrOf st).toList=T++(D.take n).reverse++D.drop n:=by
   rw[n1,Ek e0,qc,ju,List.reverse_singleton,e,fm];show T++D=T++(d0::D.drop (0+1));rw[<-G1 e0,qd]
  exact way.h (arrOf st) hall m1
 case h=>
  intro xs1 hall m1;refine gl (zi (qr ⟨rfl,?_⟩));refine gl (oz (wpS_forRange
   (I:=λu c st'=>∃(neq:Nat) (xs:Array ic) (hd tl:List ic),c=(none,u,neq)/\st'=setArr st xs/\xs.toList=T++(hd++tl)++D.drop u/\(hd++tl).length=u/\tl.length=neq+1/\Ao blt (D.take u)=tl++hd.reverse/\(∀a∈hd,∀b∈tl,blt b a=true)/\(∀a∈tl,∀b∈tl,blt a b=false))
   (Q:=λc st'=>∃(m neq:Nat) (xs:Array ic) (hd tl:List ic),c=(none,m,neq)/\n+1<=m/\m<=nrem/\st'=setArr st xs/\xs.toList=T++(hd++tl)++D.drop m/\(hd++tl).length=m/\tl.length=neq+1/\Ao blt (D.take m)=tl++hd.reverse) ?_ ?_ ⟨0,xs1,(D.take n).reverse,[x],rfl,rfl,?_,?_,rfl,?_,?_,?_⟩) ?_)
  ·rintro u c st' hu1 hu2 ⟨neq,xs,hd,tl,rfl,rfl,q1,q2,q3,q4,q5,q6⟩
   dsimp only;obtain⟨v,ev⟩:∃v,D[u]?=some v:=⟨_,fc (by lia)⟩;obtain⟨t,et⟩:∃t,tl[tl.length-1]?=some t:=⟨_,fc (by lia)⟩;have htl:=gg et;have PT:∀z∈tl,P z:=λz hz=>PD z (l6 ((Cp blt (D.take u)).mem_iff.mp (by rw[q4];exact n5 _ hz)));have pv:(arrOf (setArr st xs))[lo+u]?=some v:=by
    show xs[lo+u]?=some v;rw[<-gt,q1,f8 (by rw[fe];lia),fe,q2,lT,ly,ka,p6];exact ev
   have pt:(arrOf (setArr st xs))[lo+u-1]?=some t:=by
    show xs[lo+u-1]?=some t;have hu:1<=u:=by lia
    have q2':=q2;rw[fe] at q2';rw[AE hu,<-gt,q1,fm,f8 (by rw[lT];exact kq _ _),lT,jb,ie (by rw[q2];exact GH hu FJ),f8 (by lia),show u-1-hd.length=tl.length-1 by lia];exact et
   refine gl (Il L hk pv pt (PD _ (gg ev)) (PT _ htl) ?_);dsimp only;have esn:Ao blt (D.take (u+1))=mg blt (tl++hd.reverse) [v]:=by rw[Ek ev,Cn,q4]
   have edr:=G1 ev
   cases hs:blt v t with
   |true=>
    rw[if_pos rfl];have v1:∀z∈tl,blt v z=true:=λz hz=>o.ltle hs (q6 z hz t htl);have v2:∀z∈hd,blt v z=true:=λz hz=>o.tr _ _ _ hs (q5 z hz t htl);have e5:Ao blt (D.take (u+1))=[v]++(hd++tl.reverse).reverse:=by
     rw[esn,oh,mn];have:=Dg blt (xs:=tl++hd.reverse) (bs:=[v]) (ys:=[]) λb hb z hz=>by
      rw[gw.mp hb];rcases i5.mp hz with hz|hz
      ·exact v1 z hz
      ·exact v2 z (nz.mp hz)
     rw[ip,Bm] at this;exact this
    have fin:∀ys:Array ic,ys.toList=T++(hd++tl.reverse)++D.drop u->∃(neq':Nat) (xs':Array ic) (hd' tl':List ic),((none,u+1,0):Option (Option Nat)×Nat×Nat)=(none,u+1,neq')/\setArr st ys=setArr st xs'/\xs'.toList=T++(hd'++tl')++D.drop (u+1)/\(hd'++tl').length=u+1/\tl'.length=neq'+1/\Ao blt (D.take (u+1))=tl'++hd'.reverse/\(∀a∈hd',∀b∈tl',blt b a=true)/\(∀a∈tl',∀b∈tl',blt a b=false):=λys ey=>by
     refine⟨0,ys,hd++tl.reverse,[v],rfl,rfl,?_,?_,rfl,e5,?_,?_⟩
     ·rw[ey,edr]
      simp only[fm,lh,ju]
     ·rw[fe,fe,oi,<-fe,q2]
      rfl
     ·intro a ha b hb
      rw[gw.mp hb];rcases i5.mp ha with ha|ha
      ·exact v2 a ha
      ·exact v1 a (nz.mp ha)
     ·intro a ha b hb
      rw[gw.mp ha,gw.mp hb];exact o.irr v
    by_cases hq:neq>0
    ·rw[if_pos hq]
     refine gl (zh (gy (fin _ ?_)));have hlen:hd.length+tl.length=u:=by rw[<-fe];exact q2
     have:=G4 (xs:=xs) (U:=T++hd) (V:=tl) (W:=D.drop u) (i:=lo+u-(neq+1)) (j:=lo+u) (by rw[q1];simp only[fm]) (by rw[fe,lT,<-hlen,q3,<-jv,su]) (by rw[fe,lT,<-hlen,<-jv]);show(mirror xs _ _ _).toList=_;rw[this];simp only[fm]
    ·rw[if_neg hq]
     refine gy (fin _ ?_);have:tl.reverse=tl:=by
      obtain⟨z,rfl⟩:=EA.mp (show tl.length=1 by lia);rfl
     rw[this];exact q1
   |false=>
    rw[if_neg (by decide)];refine gl (Il L hk pt pv (PT _ htl) (PD _ (gg ev)) ?_);dsimp only
    cases hg:blt t v with
    |true=>
     rw[if_pos rfl];exact gy ⟨u,neq,xs,hd,tl,rfl,hu1,by lia,rfl,q1,q2,q3,q4⟩
    |false=>
     rw[if_neg (by decide)];have v1:∀z∈tl,blt v z=false:=λz hz=>o.le (q6 t htl z hz) hs;have v3:∀z∈tl,blt z v=false:=λz hz=>o.le hg (q6 z hz t htl);have v2:∀z∈hd,blt v z=true:=λz hz=>o.lelt hg (q5 z hz t htl);refine gy ⟨neq+1,xs,hd,tl++[v],rfl,rfl,?_,?_,?_,?_,?_,?_⟩
     ·rw[q1,edr]
      simp only[fm,lh,ju]
     ·rw[<-fm,fe,q2]
      rfl
     ·rw[fe,q3]
      rfl
     ·rw[esn,Dz blt λa ha z hz=>by rw[gw.mp hz];exact v1 a ha]
      have:=Dg blt (xs:=hd.reverse) (bs:=[v]) (ys:=[]) λb hb z hz=>by
       rw[gw.mp hb];exact v2 z (nz.mp hz)
      rw[ip,Bm] at this;rw[this,fm]
     ·intro a ha b hb
      rcases i5.mp hb with hb|hb
      ·exact q5 a ha b hb
      ·rw[gw.mp hb];exact v2 a ha
     ·intro a ha b hb
      rcases i5.mp ha with ha|ha
      ·rcases i5.mp hb with hb|hb
       ·exact q6 a ha b hb
       ·rw[gw.mp hb];exact v3 a ha
      ·rw[gw.mp ha]
       rcases i5.mp hb with hb|hb
       ·exact v1 b hb
       ·rw[gw.mp hb];exact o.irr v
  ·rintro c st' ⟨neq,xs,hd,tl,rfl,rfl,q1,q2,q3,q4,q5,q6⟩
   have hmx:max (n+1) nrem=nrem:=by lia
   rw[hmx] at q1 q2 q4 ⊢;exact⟨nrem,neq,xs,hd,tl,rfl,by lia,fk _,rfl,q1,q2,q3,q4⟩
  ·rw[m1,G1 ex]
   simp only[fm,lh,ju]
  ·rw[fe,oi,lDn]
   rfl
  ·rw[Ek ex,Cn,Ir sn,mn]
   have:=Dg blt (xs:=D.take n) (bs:=[x]) (ys:=[]) λb hb z hz=>by
    rw[gw.mp hb];exact hall z hz
   rw[ip,Bm] at this;exact this
  ·intro a ha b hb
   rw[gw.mp hb];exact hall a (nz.mp ha)
  ·intro a ha b hb
   rw[gw.mp ha,gw.mp hb];exact o.irr x
  ·rintro c st' ⟨m,neq,xs,hd,tl,rfl,hm1,hm2,rfl,q1,q2,q3,q4⟩
   dsimp only;have hlen:hd.length+tl.length=m:=by rw[<-fe];exact q2
   have last:∀ys:Array ic,ys.toList=T++(tl++hd.reverse)++D.drop m->∀F:Nat->Option (Option Nat)×Nat->StateT j0 Sem (ForInStep (Option (Option Nat)×Nat)),
     (∀x n,F x (none,n)=(do
      let r <-ltAt' (lo+n) (lo+n-1)
      match r with
      |some smaller=>if smaller=true then pure (sg (none,n)) else pure (rg (none,n+1))
      |x=>pure (sg (some none,n)))) ->
     wpS (model prog w) A E s (forIn [m:nrem] (none,m) F) (λr st'=>∃m',r=(none,m')/\Q (some m') st') (setArr st ys):=λys ey F hF=>by
    have sC:Srt blt (tl++hd.reverse):=by rw[<-q4];exact Lf o _
    refine Za L o (T:=T) (C:=tl++hd.reverse) (D:=D) hF hk ?_ lT lD (by lia) hm2 (by rw[fe,oi];lia) ey sC λn' hn1' hn2' sn' _=>⟨n',rfl,h n' ys (by lia) hn2' ?_⟩
    ·intro z hz
     have hz:z∈ys.toList:=hz;rw[ey] at hz;rcases i5.mp hz with hz|hz
     ·rcases i5.mp hz with hz|hz
      ·exact hP z (by rw[e];exact n5 _ hz)
      ·rw[<-q4] at hz
       exact PD z (l6 ((Cp blt _).mem_iff.mp hz))
     ·exact PD z (n4 hz)
    ·rw[<-q4] at sn'
     have e7:D.take n'=D.take m++(D.drop m).take (n'-m):=by rw[Ep D hn1']
     rw[e7,gO o sn',ey,q4];have e8:D.drop m=(D.drop m).take (n'-m)++D.drop n':=by
      have:=Fo D m (n'-m);rw[vx hn1'] at this;exact this
     conv=>lhs;rw[e8]
     simp only[fm]
   by_cases hq:neq>0
   ·rw[if_pos hq]
    have r1:=G4 (xs:=xs) (U:=T++hd) (V:=tl) (W:=D.drop m) (i:=lo+m-(neq+1)) (j:=lo+m) (by rw[q1];simp only[fm]) (by rw[fe,lT,<-hlen,q3,<-jv,su]) (by rw[fe,lT,<-hlen,<-jv]);refine gl (zh ?_);refine gl (zh ?_);have r2:=G4 (xs:=mirror xs (lo+m-(neq+1)) (lo+m) ((lo+m-(lo+m-(neq+1)))/2)) (U:=T) (V:=hd++tl.reverse) (W:=D.drop m) (i:=lo) (j:=lo+m) (by rw[r1];simp only[fm]) lT.symm (by rw[fe,oi];lia);rw[oh,mn] at r2;refine gl (oz (last _ r2 _ (λx n=>rfl)) ?_);rintro c st' ⟨m',rfl,hQ⟩;exact gy hQ
   ·rw[if_neg hq]
    have hrv:tl.reverse=tl:=by
     obtain⟨z,rfl⟩:=EA.mp (show tl.length=1 by lia);rfl
    refine gl (zh ?_);have r2:=G4 (xs:=xs) (U:=T) (V:=hd++tl) (W:=D.drop m) (i:=lo) (j:=lo+m) q1 lT.symm (by rw[q2];lia);rw[oh,hrv] at r2;refine gl (oz (last _ r2 _ (λx n=>rfl)) ?_);rintro c st' ⟨m',rfl,hQ⟩;exact gy hQ
end
def Iq:Nat->List (List ic)->List (Nat×Nat×Nat)->Prop
 |_,[],[]=>True
 |s,g::gs,(s',n,_)::q=>s'=s/\n=g.length/\Iq (s+g.length) gs q
 |_,_,_=>False
theorem O6:∀{s:Nat} {A B:List (List ic)} {q:List (Nat×Nat×Nat)},Iq s (A++B) q->∃q1 q2,q=q1++q2/\q1.length=A.length/\Iq s A q1/\Iq (s+A.flatten.length) B q2
 |s,[],B,q,h=>⟨[],q,rfl,rfl,trivial,h⟩
 |s,g::A,B,(s',n,p)::q,h=>by
  obtain⟨h1,h2,h3⟩:=h;obtain⟨q1,q2,e,l,a,b⟩:=O6 h3;refine⟨(s',n,p)::q1,q2,by rw[e];rfl,by rw[gu,l];rfl,⟨h1,h2,a⟩,?_⟩;rw[iw,fe,<-jv];exact b
 |s,g::A,B,[],h=>h.elim
theorem Mi:∀{s:Nat} {A B:List (List ic)} {q1 q2:List (Nat×Nat×Nat)},Iq s A q1->Iq (s+A.flatten.length) B q2->Iq s (A++B) (q1++q2)
 |s,[],B,[],q2,_,h=>h
 |s,g::A,B,(s',n,p)::q1,q2,⟨h1,h2,h3⟩,h=>⟨h1,h2,Mi h3 (by rw[iw,fe,<-jv] at h;exact h)⟩
 |s,[],B,_::_,q2,h,_=>h.elim
 |s,g::A,B,[],q2,h,_=>h.elim
theorem Vg {s:Nat}{A:List (List ic)}{q:List (Nat×Nat×Nat)}(h:Iq s A q):q.length=A.length:=by
 rw[show A=A++[] by rw[ip]] at h;obtain⟨q1,q2,e,l,_,b⟩:=O6 h
 cases q2 with
 |nil=>rw[e,ip,l]
 |cons x r=>exact b.elim
theorem nE {α:Type}{q1 q2:List α}{x y z:α}{i:Nat}(h:q1.length=i):((q1++x::y::q2).set i z).eraseIdx (i+1)=q1++z::q2:=by
 subst h;rw[List.set_append_right _ _ (fk _),ly,List.set_cons_zero,List.eraseIdx_append_of_length_le (vo _),show q1.length.succ-q1.length=1 by lia];rfl
theorem Nd {pw:Nat}:∀{s:Nat} {A:List (List ic)} {q:List (Nat×Nat×Nat)} (i:Nat),Iq s A q->Iq s A (q.modify i λx=>(x.1,x.2.1,pw))
 |_,[],[],i,_=>by cases i<;>trivial
 |_,g::A,(s',n,p)::q,0,⟨h1,h2,h3⟩=>⟨h1,h2,h3⟩
 |_,g::A,(s',n,p)::q,i+1,⟨h1,h2,h3⟩=>⟨h1,h2,Nd i h3⟩
 |_,[],_::_,_,h=>h.elim
 |_,_::_,[],_,h=>h.elim
theorem N3 (blt:ic->ic->Bool):∀A:List (List ic),((A.map (Ao blt)).flatten).length=A.flatten.length
 |[]=>rfl
 |g::A=>by rw[ik,iw,iw,fe,fe,Ct,N3 blt A]
theorem Y8 (blt:ic->ic->Bool){x:ic}:∀{A:List (List ic)},x∈(A.map (Ao blt)).flatten->x∈A.flatten
 |[],h=>h
 |g::A,h=>by
  rw[ik,iw] at h;rw[iw];rcases i5.mp h with h|h
  ·exact n5 _ ((Cp blt g).mem_iff.mp h)
  ·exact ii _ (Y8 blt h)
theorem Ol {U V W:List ic}:(U++(V++W)).take U.length=U/\(U++(V++W)).drop U.length=V++W/\((U++(V++W)).drop U.length).take V.length=V/\(U++(V++W)).drop (U.length+V.length)=W:=by
 have e2:(U++(V++W)).drop U.length=V++W:=by rw[mf (fk _),rf,ju]
 refine⟨by rw[jz (fk _),rc],e2,?_,?_⟩
 ·rw[e2,jz (fk _),rc]
 ·rw[<-nh,e2,mf (fk _),rf,ju]
structure SI (kd:uw) (blt:ic->ic->Bool) (l0:List ic) (segs:List (List ic)) (lo:Nat) (st:j0):Prop where
 ne:∀g∈segs,g≠[]
 all:segs.flatten++l0.drop lo=l0
 len:segs.flatten.length=lo
 arr:(arrOf st).toList=(segs.map (Ao blt)).flatten++l0.drop lo
 pend:Iq 0 segs (pendingOf st).toList
 kind:kindOf st=kd
 fail:failedOf st=none
theorem SI.few {kd:uw}{blt:ic->ic->Bool}{segs:List (List ic)}{lo:Nat}{st:j0}(h:SI kd blt l0 segs lo st):segs.length<=lo:=by
 have key:∀A:List (List ic),(∀g∈A,g≠[])->A.length<=A.flatten.length:=λA=>by
  induction A with
  |nil=>intro _;exact fk _
  |cons g A ih=>
   intro hn;have h1:=ih λx hx=>hn x (gz _ hx);have h2:=yw.mpr (hn g il);rw[iw,fe,gu];lia
 have:=key segs h.ne;rw[h.len] at this;exact this
theorem SI.size {kd:uw}{blt:ic->ic->Bool}{segs:List (List ic)}{lo:Nat}{st:j0}(h:SI kd blt l0 segs lo st):(arrOf st).size=l0.length:=by
 rw[<-gj,h.arr,fe,N3];have:=congrArg n6 h.all;rw[fe] at this;exact this
theorem SI.mem {kd:uw}{blt:ic->ic->Bool}{segs:List (List ic)}{lo:Nat}{st:j0}(h:SI kd blt l0 segs lo st){x:ic}(hx:x∈(arrOf st).toList):x∈l0:=by
 rw[h.arr] at hx;rw[<-h.all];rcases i5.mp hx with hx|hx
 ·exact n5 _ (Y8 blt hx)
 ·exact ii _ hx
section
variable {prog:gv} {w:ir} {A:ji} {E:Za0} {s:fw}
variable {kd:uw} {P:ic->Prop} {blt:ic->ic->Bool} (L:eX prog w A E s kd P blt) (o:Swo blt)
include L o
theorem P1 {st:j0}{lo n ok:Nat}{T D:List ic}{Q:Bool->j0->Prop}(hk:kindOf st=kd)(hP:∀x∈D,P x)(hT:T.length=lo)(hok:1<=ok)(hn:ok<=n)(hD:n<=D.length)
  (e:(arrOf st).toList=T++Ao blt (D.take ok)++D.drop ok)(h:∀xs:Array ic,xs.toList=T++Ao blt (D.take n)++D.drop n->Q true (setArr st xs)) :
  wpS (model prog w) A E s (binarySort' lo n ok) Q st:=by
 have hmx:max ok 1=ok:=by lia
 refine gl (oz (wpS_forRange (I:=λk c st'=>c=(none,())/\k<=n/\∃xs:Array ic,st'=setArr st xs/\xs.toList=T++Ao blt (D.take k)++D.drop k)
  (Q:=λc st'=>c=(none,())/\∃xs:Array ic,st'=setArr st xs/\xs.toList=T++Ao blt (D.take n)++D.drop n) ?_ ?_ ⟨rfl,by lia,arrOf st,rfl,by rw[hmx];exact e⟩) ?_)
 ·rintro k c st' hk1 hk2 ⟨rfl,_,xs,rfl,ex⟩
  dsimp only;obtain⟨v,ev⟩:∃v,D[k]?=some v:=⟨_,fc (by lia)⟩;have lS:(Ao blt (D.take k)).length=k:=by rw[Ct,f7];lia
  have sS:=Lf o (D.take k);have pS:∀x∈Ao blt (D.take k),P x:=λx hx=>hP x (l6 ((Cp blt _).mem_iff.mp hx));have esn:Ao blt (D.take (k+1))=mg blt (Ao blt (D.take k)) [v]:=by rw[Ek ev,Cn]
  generalize Ao blt (D.take k)=S at *;have pv:xs[lo+k]?=some v:=by
   rw[<-gt,ex,f8 (by rw[fe];lia),fe,lS,hT,ly,ka,p6];exact ev
  have pm:∀m,m<k->xs[lo+m]?=S[m]?:=λm hm=>by
   rw[<-gt,ex,fm,f8 (by lia),hT,jb,ie (by lia)]
  refine gl (oz (wpS_forRange (I:=λx c st'=>∃l r,c=(none,l,r)/\st'=setArr st xs/\l<=r/\r<=k/\r-l+x<=k/\(∀i z,i<l->S[i]?=some z->blt v z=false)/\(∀i z,r<=i->S[i]?=some z->blt v z=true))
   (Q:=λc st'=>∃l r,c=(none,l,r)/\st'=setArr st xs/\l<=k/\(∀i z,i<l->S[i]?=some z->blt v z=false)/\(∀i z,l<=i->S[i]?=some z->blt v z=true)) ?_ ?_ ⟨0,k,rfl,rfl,by lia,by lia,by lia,?_,?_⟩) ?_)
  ·rintro x c st' _ hx ⟨l,r,rfl,rfl,q1,q2,q3,q4,q5⟩
   dsimp only
   by_cases hge:l>=r
   ·rw[if_pos hge]
    exact gy ⟨l,r,rfl,rfl,by lia,q4,λi z hi ez=>q5 i z (by lia) ez⟩
   ·rw[if_neg hge]
    have ht1:l<=(l+r)/2:=by lia
    have ht2:(l+r)/2<r:=by lia
    generalize (l+r)/2=t at *;obtain⟨z,ez⟩:∃z,S[t]?=some z:=⟨_,fc (by lia)⟩;refine gl (Il L hk pv (by show xs[_]?=_;rw[pm _ (by lia)];exact ez) (hP _ (gg ev)) (pS _ (gg ez)) ?_);dsimp only
    cases hb:blt v z with
    |true=>
     rw[if_pos rfl];exact gy ⟨_,_,rfl,rfl,by lia,by lia,by lia,q4,λi z' hi ez'=>o.ltle hb (Ea o sS hi ez ez')⟩
    |false=>
     rw[if_neg (by decide)];exact gy ⟨_,_,rfl,rfl,by lia,by lia,by lia,(λi z' hi ez'=>o.le (Ea o sS (show i<=t by lia) ez' ez) hb),q5⟩
  ·rintro c st' ⟨l,r,rfl,rfl,q1,q2,q3,q4,q5⟩
   have:max 0 k=k:=by lia
   rw[this] at q3;exact⟨l,r,rfl,rfl,by lia,q4,λi z hi ez=>q5 i z (by lia) ez⟩
  ·intro i z hi
   lia
  ·intro i z hi ez
   have:=(ge.mp ez).1;lia
  ·rintro c st' ⟨l,r,rfl,rfl,q1,q4,q5⟩
   dsimp only;refine gl (?_:wpS (model prog w) A E s (moveDown' (lo+k) (lo+l)) _ _);rw[moveDown'_eq];refine w8 (gy ⟨rfl,by lia,bubble xs (lo+k) (lo+k-(lo+l)),rfl,?_⟩);have hsz:xs.size=lo+D.length:=by
    rw[<-gj,ex,fe,fe,lS,hT,jh];lia
   rw[eP (by lia) (by lia) pv,Nat.sub_sub_self (y6 (by lia) lo),Nat.add_sub_add_left,ex];have hl:T.length+(S.take l).length=lo+l:=by rw[f7];lia
   have e1:T++S++D.drop k=(T++S.take l)++(S.drop l++D.drop k):=by
    conv=>lhs;rw[<-jg l S]
    simp only[fm]
   have hl2:(S.drop l).length=k-l:=by rw[jh,lS]
   obtain⟨m1,m2,m3,m4⟩:=Ol (U:=T++S.take l) (V:=S.drop l) (W:=D.drop k);rw[fe,hl] at m1 m2 m3 m4;rw[hl2] at m3 m4;have e2:(T++S++D.drop k).drop (lo+k+1)=D.drop (k+1):=by
    rw[<-nh,e1,show lo+k=lo+l+(k-l) by lia,m4,nh]
   rw[e2,e1,m1,m3,esn];have hS:S=S.take l++S.drop l:=(jg l S).symm
   conv=>rhs;rw[hS]
   rw[Dz blt λa ha y hy=>?_]
   ·have:=Dg blt (xs:=S.drop l) (bs:=[v]) (ys:=[]) λb hb z hz=>by
     rw[gw.mp hb];obtain⟨j,hj,ez⟩:=Sm hz;exact q5 j z hj ez
    rw[ip,Bm] at this;rw[this];simp only[fm]
   ·rw[gw.mp hy]
    obtain⟨j,hj,ez⟩:=Ih ha;exact q4 j a hj ez
 ·rintro c st' ⟨rfl,hle,xs,rfl,ex⟩
  rw[hmx] at hle ex;have:max ok n=n:=by lia
  rw[this] at ex;exact⟨rfl,xs,rfl,ex⟩
 ·rintro c st' ⟨rfl,xs,rfl,ex⟩
  exact gy (h xs ex)
theorem Pw {segs:List (List ic)}{lo i:Nat}{st:j0}{Q:Bool->j0->Prop}(hP:∀x∈l0,P x)(S:SI kd blt l0 segs lo st)(hi:i+1<segs.length)
  (h:∀segs' st',segs'.length+1=segs.length->SI kd blt l0 segs' lo st'->Q true st'):wpS (model prog w) A E s (mergeAt' i) Q st:=by
 obtain⟨A1,g,g',B,rfl,hA⟩:∃A1 g g' B,segs=A1++g::g'::B/\A1.length=i:=by
  refine⟨segs.take i,segs[i],segs[i+1],segs.drop (i+2),?_,by rw[f7];lia⟩;rw[<-rh,<-rh,jg]
 obtain⟨q1,q2,eq,lq,p1,p2⟩:=O6 S.pend;obtain⟨s1,n1,w1,q3,rfl⟩:∃s1 n1 w1 q3,q2=(s1,n1,w1)::q3:=by
  cases q2 with
  |nil=>exact p2.elim
  |cons t r=>exact⟨t.1,t.2.1,t.2.2,r,rfl⟩
 obtain⟨es1,en1,p3⟩:=p2;obtain⟨s2,n2,w2,q4,rfl⟩:∃s2 n2 w2 q4,q3=(s2,n2,w2)::q4:=by
  cases q3 with
  |nil=>exact p3.elim
  |cons t r=>exact⟨t.1,t.2.1,t.2.2,r,rfl⟩
 obtain⟨es2,en2,p4⟩:=p3;rw[lx] at es1 es2 p4;subst es1 en1 es2 en2;have hg:g≠[]:=S.ne g (by simp);have hg':g'≠[]:=S.ne g' (by simp);have earr:(arrOf st).toList=(A1.map (Ao blt)).flatten++(Ao blt g++(Ao blt g'++((B.map (Ao blt)).flatten++l0.drop lo))):=by
  rw[S.arr,f9,ik,ik,kj,iw,iw];simp only[fm]
 have lA:((A1.map (Ao blt)).flatten).length=A1.flatten.length:=N3 blt A1;have lg:(Ao blt g).length=g.length:=Ct blt g;have lg':(Ao blt g').length=g'.length:=Ct blt g';obtain⟨m1,m2,m3,m4⟩:=Ol (U:=(A1.map (Ao blt)).flatten) (V:=Ao blt g) (W:=Ao blt g'++((B.map (Ao blt)).flatten++l0.drop lo));rw[<-earr,lA] at m1 m2 m3 m4;rw[lg] at m3 m4;obtain⟨_,_,m5,m6⟩:=Ol (U:=(A1.map (Ao blt)).flatten++Ao blt g) (V:=Ao blt g') (W:=(B.map (Ao blt)).flatten++l0.drop lo);rw[fm,<-earr,fe,lA,lg,lg'] at m5 m6;have hsz:A1.flatten.length+g.length+g'.length<=(arrOf st).size:=by
  rw[<-gj,earr];simp only[fe,lA,lg,lg'];lia
 have i1:(pendingOf st)[i]?=some (A1.flatten.length,g.length,w1):=by
  rw[<-gt,eq,f8 (by lia),lq,hA,ly];rfl
 have i2:(pendingOf st)[i+1]?=some (A1.flatten.length+g.length,g'.length,w2):=by
  rw[<-gt,eq,f8 (by lia),lq,hA,show i+1-i=1 by lia];rfl
 refine Zi L o S.kind S.fail i1 i2 (yw.mpr hg) (yw.mpr hg') hsz (λx hx=>hP x (S.mem hx)) (by rw[m3];exact Lf o _) (by rw[m5];exact Lf o _) λst' k1 k2 k3 k4=>?_;refine h (A1++(g++g')::B) st' (by simp only[fe,gu];lia) ⟨λx hx=>?_,?_,?_,?_,?_,k1,k2⟩
 ·rcases i5.mp hx with hx|hx
  ·exact S.ne x (n5 _ hx)
  ·rcases i9.mp hx with rfl|hx
   ·exact λe=>hg (List.append_eq_nil_iff.mp e).1
   ·exact S.ne x (ii _ (gz _ (gz _ hx)))
 ·have:=S.all
  simp only[kj,iw,fm] at this ⊢;exact this
 ·have:=S.len
  simp only[kj,iw,fe] at this ⊢;lia
 ·rw[k4,m1,m3,m5,m6,<-Um o,f9,ik,kj,iw]
  simp only[fm]
 ·rw[k3,Array.toList_eraseIdxIfInBounds,BY,eq,nE (by lia)]
  refine Mi p1 ⟨by rw[lx],by rw[fe],?_⟩;rw[lx,fe,<-jv];exact p4
theorem Mg {st:j0}{Q:Unit->j0->Prop}(hk:kindOf st=kd)(hf:failedOf st=none)(hp:pendingOf st=#[])(e:(arrOf st).toList=l0)(hP:∀x∈l0,P x)(h2:1<=l0.length)
  (h:∀st':j0,failedOf st'=none->(arrOf st').toList=Ao blt l0->Q () st'):wpS (model prog w) A E s sortRuns' Q st:=by
 have hsz:(arrOf st).size=l0.length:=by rw[<-gj,e]
 have S0:SI kd blt l0 [] 0 st:=⟨(λg hg=>by cases hg),by rw[qd];rfl,rfl,by rw[e,qd];rfl,by rw[hp];trivial,hk,hf⟩;refine gl (wq ?_);dsimp only;generalize (arrOf st).size=sz at *;subst hsz;generalize (sortPriv% PySem.Builtin.minRun) l0.length l0.length 0=mr;refine gl (oz (wpS_forRange (I:=λx c st'=>∃lo segs,c=(none,lo)/\x<=lo/\lo<=l0.length/\SI kd blt l0 segs lo st')
  (Q:=λc st'=>∃segs,c=(none,l0.length)/\SI kd blt l0 segs l0.length st') ?_ ?_ ⟨0,[],rfl,fk _,i6 _,S0⟩) ?_)
 ·rintro x c st1 _ hx ⟨lo,segs,rfl,hxl,hlo,S⟩
  dsimp only
  by_cases hge:lo>=l0.length
  ·rw[if_pos hge]
   have:lo=l0.length:=by lia
   subst this;exact gy ⟨segs,rfl,S⟩
  rw[if_neg hge];have lF:((segs.map (Ao blt)).flatten).length=lo:=by rw[N3,S.len]
  have dlo:(arrOf st1).toList.drop lo=l0.drop lo:=by rw[S.arr,mf (by lia),km (by lia),ju]
  have tlo:(arrOf st1).toList.take lo=(segs.map (Ao blt)).flatten:=by rw[S.arr,jz (by lia),gq (by lia)]
  have lD:(l0.drop lo).length=l0.length-lo:=jh;have hD:∀x∈l0.drop lo,P x:=λx hx=>hP x (n4 hx);refine gl (Ub L o S.kind (λx hx=>hP x (S.mem hx)) (by rw[S.size];lia) (by lia) λm xs hm1 hm2 ex=>?_);rw[dlo,tlo] at ex;dsimp only
  by_cases hlt:m<mr
  case' pos=>
   rw[if_pos hlt];refine gl (zi (qr ⟨rfl,?_⟩));refine gl (P1 L o (st:=setArr st1 xs) (lo:=lo) (n:=min (l0.length-lo) mr) (ok:=m) (T:=(segs.map (Ao blt)).flatten) (D:=l0.drop lo) S.kind hD lF hm1 (by lia) (by lia) ex λxs2 ex2=>?_);rw[if_neg (by decide)];have hn1:1<=min (l0.length-lo) mr:=Nat.le_min.mpr ⟨by lia,by lia⟩
   have hn2:min (l0.length-lo) mr<=l0.length-lo:=Nat.min_le_left _ _
   clear ex;have ex:=ex2;clear ex2 hm1 hm2 hlt;have hm1:=hn1;have hm2:=hn2;clear hn1 hn2;generalize min (l0.length-lo) mr=n at *;show wpS _ _ _ _ _ _ (setArr st1 xs2);generalize xs2=xs3 at *
  case' neg=>
   rw[if_neg hlt];clear hlt;generalize m=n at *;generalize xs=xs3 at *
  all_goals
   have hl0':((l0.take lo++(Ao blt ((l0.drop lo).take n)++(l0.drop lo).drop n)).drop lo)=Ao blt ((l0.drop lo).take n)++(l0.drop lo).drop n:=by
    rw[mf (by rw[f7];lia),km (by rw[f7];lia),ju]
   have hsf:segs.flatten=l0.take lo:=by
    have:=congrArg (AL lo) S.all;rw[jz (by rw[S.len];exact fk _),gq (by rw[S.len];exact fk _)] at this;exact this
   have S':SI kd blt (l0.take lo++(Ao blt ((l0.drop lo).take n)++(l0.drop lo).drop n)) segs lo (setArr st1 xs3):=
    ⟨S.ne,by rw[hl0',hsf],S.len,by show xs3.toList=_;rw[ex,hl0',fm],S.pend,S.kind,S.fail⟩
   have hP':∀x∈l0.take lo++(Ao blt ((l0.drop lo).take n)++(l0.drop lo).drop n),P x:=λx hx=>by
    rcases i5.mp hx with hx|hx
    ·exact hP x (l6 hx)
    ·rcases i5.mp hx with hx|hx
     ·exact hD x (l6 ((Cp blt _).mem_iff.mp hx))
     ·exact hD x (n4 hx)
   have fin:∀(segs':List (List ic)) (st3:j0) (q:Array (Nat×Nat×Nat)),SI kd blt (l0.take lo++(Ao blt ((l0.drop lo).take n)++(l0.drop lo).drop n)) segs' lo st3->Iq 0 segs' q.toList ->
     SI kd blt l0 (segs'++[(l0.drop lo).take n]) (lo+n) (setPending st3 (q.push (lo,n,0))):=λsegs' st3 q S3 hq=>by
    have hsf':segs'.flatten=l0.take lo:=by
     have:=congrArg (AL lo) S3.all;rw[jz (by rw[S3.len];exact fk _),gq (by rw[S3.len];exact fk _),jz (by rw[f7];lia),gq (l:=l0.take lo) (by rw[f7];lia)] at this;exact this
    have ln:((l0.drop lo).take n).length=n:=by rw[f7];lia
    refine⟨λg hg=>?_,?_,?_,?_,?_,S3.kind,S3.fail⟩
    ·rcases i5.mp hg with hg|hg
     ·exact S3.ne g hg
     ·rw[gw.mp hg]
      exact λz=>by rw[z] at ln;simp at ln;lia
    ·rw[kj,qk,hsf',<-nh,fm,jg,jg]
    ·rw[kj,qk,fe,S3.len,ln]
    ·show(arrOf st3).toList=_
     rw[S3.arr,hl0',f9,ik,vy,kj,qk,<-nh,fm]
    ·show Iq 0 _ (q.push (lo,n,0)).toList
     rw[FV];refine Mi hq ⟨?_,ln.symm,trivial⟩;rw[lx,S3.len]
   refine gl (wq ?_);dsimp only
   cases hb:(pendingOf (setArr st1 xs3)).back? with
   |none=>
    dsimp only;exact gl (w8 (gy ⟨lo+n,_,rfl,by lia,by lia,fin segs (setArr st1 xs3) (pendingOf st1) S' S.pend⟩))
   |some t=>
    obtain⟨s1,n1,w1⟩:=t;dsimp only;generalize (sortPriv% PySem.Builtin.power) l0.length (2*s1+n1) (2*s1+n1+n1+n) l0.length=pw;refine gl (oz (wpS_forRange (I:=λx c st'=>c=(none,())/\∃segs',SI kd blt (l0.take lo++(Ao blt ((l0.drop lo).take n)++(l0.drop lo).drop n)) segs' lo st')
     (Q:=λc st'=>c=(none,())/\∃segs',SI kd blt (l0.take lo++(Ao blt ((l0.drop lo).take n)++(l0.drop lo).drop n)) segs' lo st') ?_ ?_ ⟨rfl,segs,S'⟩) ?_)
    ·rintro y c st4 _ hy ⟨rfl,segs',S4⟩
     refine gl (wq ?_)
     try dsimp only
     have hpl:(pendingOf st4).size=segs'.length:=by rw[<-gj];exact Vg S4.pend
     by_cases c1:(pendingOf st4).size>1
     ·rw[if_pos c1]
      obtain⟨t,et⟩:∃t,(pendingOf st4)[(pendingOf st4).size-2]?=some t:=⟨_,nq (by lia)⟩;rw[et];obtain⟨a1,a2,older⟩:=t;dsimp only
      by_cases c2:older<=pw
      ·rw[if_pos c2]
       exact gy ⟨rfl,segs',S4⟩
      ·rw[if_neg c2]
       refine gl (Pw L o (i:=(pendingOf st4).size-2) hP' S4 (by lia) λsegs5 st5 _ S5=>?_);exact gy ⟨rfl,segs5,S5⟩
     ·rw[if_neg c1]
      exact gy ⟨rfl,segs',S4⟩
    ·rintro c st4 ⟨rfl,segs',S4⟩
     exact⟨rfl,segs',S4⟩
    ·rintro c st4 ⟨rfl,segs',S4⟩
     try dsimp only
     refine gl (w8 (gl (w8 (gy ⟨lo+n,_,rfl,by lia,by lia,fin segs' st4 ((pendingOf st4).modify ((pendingOf st4).size-1) λx=>(x.1,x.2.1,pw)) S4 ?_⟩))));rw[Array.toList_modify];exact Nd _ S4.pend
 ·rintro c st1 ⟨lo,segs,rfl,hxl,hlo,S⟩
  have:max 0 l0.length=l0.length:=by lia
  rw[this] at hxl;have:lo=l0.length:=by lia
  subst this;exact⟨segs,rfl,S⟩
 ·rintro c st1 ⟨segs,rfl,S⟩
  dsimp only;refine gl (oz (wpS_forRange (I:=λx c st'=>c=(none,())/\∃segs,segs.length+x<=l0.length/\SI kd blt l0 segs l0.length st')
   (Q:=λc st'=>c=(none,())/\∃segs,segs.length<=1/\SI kd blt l0 segs l0.length st') ?_ ?_ ⟨rfl,segs,S.few,S⟩) ?_)
  ·rintro x c st1 _ hx ⟨rfl,segs,hl,S⟩
   refine gl (wq ?_)
   try dsimp only
   have hpl:(pendingOf st1).size=segs.length:=by rw[<-gj];exact Vg S.pend
   by_cases c1:(pendingOf st1).size<=1
   ·rw[if_pos c1]
    exact gy ⟨rfl,segs,by lia,S⟩
   rw[if_neg c1];have h9:∀c:Bool,(if c=true then(pendingOf st1).size-2-1 else(pendingOf st1).size-2)<=(pendingOf st1).size-2:=λc=>by
    cases c
    ·exact fk _
    ·exact xz _ _
   refine gl (Pw L o hP S (wj (Nat.succ_le_succ (h9 _)) (by lia)) λsegs' st2 hl2 S2=>?_);exact gy ⟨rfl,segs',by lia,S2⟩
  ·rintro c st1 ⟨rfl,segs,hl,S⟩
   have:max 0 l0.length=l0.length:=by lia
   rw[this] at hl;exact⟨rfl,segs,by lia,S⟩
  ·rintro c st1 ⟨rfl,segs,hl,S⟩
   refine gy (h st1 S.fail ?_);have hlen:=S.len;have hall:=S.all;rw[rf,ip] at hall;obtain⟨g,rfl⟩:∃g,segs=[g]:=by
    cases segs with
    |nil=>rw[List.flatten_nil,jq] at hlen;lia
    |cons g r=>
     rw[gu] at hl;exact⟨g,by rw[DV.mp (show r.length=0 by lia)]⟩
   rw[qk] at hall;rw[S.arr,rf,ip,ik,vy,qk,hall]
end
def Ty (N H:Hp):Hp:=λb=>match N b with|some o=>some o|none=>H b
theorem Kv {N:Hp}{b:fg}{o:HO}(h:N b=some o):Ty N H b=some o:=by unfold Ty;rw[h]
theorem Ge {N:Hp}{b:fg}(h:N b=none):Ty N H b=H b:=by unfold Ty;rw[h]
def Wq (oc:Obj)(qual:Str):Prop:=∃vs t,oc.data=.fields vs/\vs[1]?=some (.str qual t)
def Ky (H:Hp)(P:fg)(pos:Pos)(qual:Str):Prop:=∃ps:Array fv,H P=some (.tbl ps)/\TriplesOk ps.toList/\(codeAmong pos ps.toList=none\/∃c' oc,codeAmong pos ps.toList=some (.ref c')/\H c'=some (.frz oc (.own 0))/\Wq oc qual)
section
variable {X:Cx} {pins:Za1} {G:St} {H:Hp} {s:fw}
theorem Inv.grown {P:fg}{ps more:Array fv}{N:Hp}(I:Inv X pins G H s)(hP:H P=some (.tbl ps))(k:∀b u,b≠P->s.heap.get? b=some u->h'.get? b=some u)(hT:h'.get? P=some (xy (ps++more)))
  (hp:∀b o,N b=some o->s.heap.objs.size<=b)(new:∀b o,N b=some o->Bp X.prog X.w (Ty N (upd H P (.tbl (ps++more)))) h' b o):Inv X pins G (Ty N (upd H P (.tbl (ps++more)))) { s with heap:=h',toks:=t' }:=by
 have hlt:P<s.heap.objs.size:=(I.hok P _ hP).lt;have hNP:N P=none:=by
  cases e:N P with
  |none=>rfl
  |some o=>exact absurd hlt (sr.mpr (hp P o e))
 have hn:∀b o,N b=some o->H b=none:=λb o e=>I.hok.fresh (hp b o e);have old:∀b u,s.heap.get? b=some u->N b=none:=λb u e=>by
  cases hN:N b with
  |none=>rfl
  |some o=>exact absurd (gh e) (sr.mpr (hp b o hN))
 have sm:∀b o,b≠P->H b=some o->Ty N (upd H P (.tbl (ps++more))) b=some o:=λb o hb e=>by
  have:N b=none:=by
   cases hN:N b with
   |none=>rfl
   |some u=>rw[hn b u hN] at e;cases e
  rw[Ge this,Ai hb];exact e
 have neP:∀b,H b=none->b≠P:=λb e z=>by rw[z,hP] at e;cases e
 refine I.un ⟨λb u q n _ _=>k b u (neP b n) q,λb u q n _ _=>⟨u.slots,k b u (neP b n) q⟩,λb u q n _=>by rw[Ge (old b u q),Ai (neP b n)];exact n,λb u q _=>?_,λb xs q=>sm _ _ (λz=>by rw[z,hP] at q;cases q) q,λb u xs q=>sm _ _ (λz=>by rw[z,hP] at q;cases q) q,λb qs q=>?_⟩ λb o e=>?_
 ·by_cases hb:b=P
  ·rw[hb];exact⟨_,hT⟩
  ·exact⟨u,k b u hb q⟩
 ·by_cases hb:b=P
  ·rw[hb,hP] at q
   cases q;exact⟨more,by rw[hb,Ge hNP,Ac]⟩
  ·exact⟨#[],by rw[sm b _ hb q];simp⟩
 ·cases hN:N b with
  |some u=>
   rw[Kv hN] at e;cases e;exact new b _ hN
  |none=>
   rw[Ge hN] at e
   by_cases hb:b=P
   ·rw[hb,Ac] at e
    cases e;rw[hb];exact hT
   ·rw[Ai hb] at e
    refine(I.hok b o e).stay (λc v hc q=>k c v (λz=>?_) q) (λc q=>sm _ _ (λz=>by rw[z,hP] at q;cases q) q) λc xs q=>sm _ _ (λz=>by rw[z,hP] at q;cases q) q;rcases hc with h|h
    ·exact hb (h▸z)
    ·rw[z,hP] at h;cases h
end
def Me (P:fg)(H H':Hp):Prop:=∀b u,b≠P->H b=some u->H' b=some u
section
variable {X:Cx} {pins:Za1} {G:St} {H:Hp} {s:fw} {M:yl} {A:ji} {E:Za0} {Q:Za0} {c P:fg} {pos:Pos} {qual:Str} {params:o8} {body:jc} {scope:ol} {clos:List (Str×fg)}
theorem Y2 (I:Inv X pins G H s)(T:Ky H P pos qual)(C:ER X.base c P)(hb:X.base.BuiltinsAt X.mg P)(hcode:X.env.code=.ref c)(hcl:closureFor scope X.env=pure clos)(hdef:defaultsOf params X.env=([],[]))(hq:X.env.qual++"<lambda>"=qual)
  (h:∀(f c':fg) (oc:Obj) (pm ctv:fv) (s':fw) (H':Hp),Inv X pins G H' s'->Ky H' P pos qual->Me P H H'->H f=none->H' f=some (.frz (BM "<lambda>" qual params body scope clos pm c' ctv) (.own 0))->H' c'=some (.frz oc (.own 0))->Wq oc qual->Q (.ref f) s') :
  wpAny M A (eval (.Lambda params body scope pos) X.env) Q E s:=by
 obtain⟨ps,hP,ht,hc⟩:=T;refine PySem.W.kla_eval hdef ?_;rw[hq];have hPs:s.heap.get? P=some (xy ps):=I.hok P _ hP;have hg:s.heap.Ns mainGlobals X.mg:=I.mod.glob.keeps I.bk;have hgP:mainGlobals≠P:=λe=>by
  obtain⟨o,es,ep,e1,d,_⟩:=I.mod.glob;have:=(I.bs _ _ e1).2;rw[e,hP] at this;cases this
 have hb':s.heap.BuiltinsAt X.mg P:=by
  obtain⟨bm,o,a1,a2,a3,a4,a5,a6⟩:=hb;exact⟨bm,o,a1,a2,a3,a4,I.bk _ _ a5,a6⟩
 rcases hc with hc|⟨c',oc,hc,hc',ho⟩
 ·refine PySem.W.kla_makeFunction hcl I.ok.glob hg hcode (C.keeps I.bk) hPs ht hc hgP hb' λc' ctv h' tk hx hge hlt hrec htb=>?_
  obtain⟨c₂,oc,vs,t,e2,hoc,hd,hv⟩:=hrec;cases e2
  let fo:=BM "<lambda>" qual params body scope clos ((X.mg "__name__").getD .none) c' ctv
  let N:Hp:=λb=>if b=h'.objs.size then some (.frz fo (.own 0)) else if b=c' then some (.frz oc (.own 0)) else none
  have n1:N h'.objs.size=some (.frz fo (.own 0)):=if_pos rfl;have n2:N c'=some (.frz oc (.own 0)):=(if_neg (ig hlt)).trans (if_pos rfl);have n3:∀b o,N b=some o->(b=h'.objs.size/\o=.frz fo (.own 0))\/(b=c'/\o=.frz oc (.own 0)):=λb o e=>by
   by_cases h1:b=h'.objs.size
   ·rw[h1,n1] at e;cases e;exact .inl ⟨h1,rfl⟩
   ·by_cases h2:b=c'
    ·rw[h2,n2] at e;cases e;exact .inr ⟨h2,rfl⟩
    ·have:N b=none:=(if_neg h1).trans (if_neg h2)
     rw[this] at e;cases e
  have hp:∀b o,N b=some o->s.heap.objs.size<=b:=λb o e=>by
   rcases n3 b o e with⟨r,_⟩|⟨r,_⟩<;>rw[r]
   ·exact io hge (jx hlt)
   ·exact hge
  have hNP:N P=none:=by
   cases e:N P with
   |none=>rfl
   |some o=>exact absurd (I.hok P _ hP).lt (sr.mpr (hp P o e))
  have gf:(h'.push fo).get? h'.objs.size=some fo:=iq _ rfl;have gc:(h'.push fo).get? c'=some oc:=fh _ hoc;have I':=Inv.grown (N:=N) (more:=#[IQ pos.line,IQ pos.col,.ref c']) (h':=h'.push fo) (t':=tk) I hP (λb u hb e=>fh _ (hx b u hb e)) (fh _ htb) hp λb o e=>by
   rcases n3 b o e with⟨r,r'⟩|⟨r,r'⟩<;>rw[r,r']
   ·exact⟨gf,_,gf⟩
   ·exact⟨gc,_,gc⟩
  refine h _ c' oc _ ctv _ _ I' ⟨_,by rw[Ge hNP,Ac],?_,.inr ⟨c',oc,?_,Kv n2,vs,t,hd,hv⟩⟩ (λb u hb e=>?_) (I.hok.fresh (hp _ _ n1)) (Kv n1) (Kv n2) ⟨vs,t,hd,hv⟩
  ·rw[jj];exact TriplesOk_snoc _ _ _ _ ht
  ·rw[jj];exact codeAmong_snoc _ ht hc
  ·have:N b=none:=by
    cases hN:N b with
    |none=>rfl
    |some o=>rw[I.hok.fresh (hp b o hN)] at e;cases e
   rw[Ge this,Ai hb];exact e
 ·refine PySem.W.kla_makeFunctionHit hcl I.ok.glob hg hcode (C.keeps I.bk) hPs ht hc hb' λctv h' tk hk hsz=>?_
  let fo:=BM "<lambda>" qual params body scope clos ((X.mg "__name__").getD .none) c' ctv
  let N:Hp:=λb=>if b=h'.objs.size then some (.frz fo (.own 0)) else none
  have n1:N h'.objs.size=some (.frz fo (.own 0)):=if_pos rfl;have n3:∀b o,N b=some o->b=h'.objs.size/\o=.frz fo (.own 0):=λb o e=>by
   by_cases h1:b=h'.objs.size
   ·rw[h1,n1] at e;cases e;exact⟨h1,rfl⟩
   ·have:N b=none:=if_neg h1
    rw[this] at e;cases e
  have hp:∀b o,N b=some o->s.heap.objs.size<=b:=λb o e=>by rw[(n3 b o e).1];exact hsz
  have hn:∀b u,H b=some u->N b=none:=λb u e=>by
   cases hN:N b with
   |none=>rfl
   |some o=>rw[I.hok.fresh (hp b o hN)] at e;cases e
  have gf:(h'.push fo).get? h'.objs.size=some fo:=iq _ rfl;have I':=Inv.grown (N:=N) (more:=#[]) (h':=h'.push fo) (t':=tk) I hP (λb u _ e=>fh _ (hk b u e)) (by rw[wc];exact fh _ (hk _ _ hPs)) hp λb o e=>by
   rw[(n3 b o e).1,(n3 b o e).2];exact⟨gf,_,gf⟩
  rw[wc] at I';have old:∀b u,b≠P->H b=some u->Ty N (upd H P (.tbl ps)) b=some u:=λb u hb e=>by rw[Ge (hn b u e),Ai hb];exact e
  have hcP:c'≠P:=Ee hc' hP (by intro q;cases q);exact h _ c' oc _ ctv _ _ I' ⟨ps,by rw[Ge (hn P _ hP),Ac],ht,.inr ⟨c',oc,hc,old _ _ hcP hc',ho⟩⟩ old (I.hok.fresh (hp _ _ n1)) (Kv n1) (old _ _ hcP hc') ho
end
section
variable {prog:gv} {w:ir} {A:ji} {R:yp->fw->Prop} {s:fw}
theorem tV {f c' c a:fg}{k d:Str}{cl:List (Str×fg)}{ctv u v:fv}{pk pd pp:Pos}{its:Array fv}{i:Int}{ti:Tok}
  (ho:s.heap.get? f=some (BM "<lambda>" qual params (.Subscript (.Name d pd) (.Name k pk) pp) scope cl pm c' ctv))(hcd:s.heap.CodeRec (.ref c') qual)(hroom:A.depth<recursionLimit)(hlim:s.heap.NoLimit)
  (hbind:bindArgs (GC "<lambda>" qual params (.Subscript (.Name d pd) (.Name k pk) pp) scope cl pm (.ref c') ctv) ⟨[.int i ti],[]⟩=pure [(k,.int i ti)])
  (hk:scope.kind=.function)(hco:scope.isCoroutine=false)(hgen:scope.isGenerator=false)(lk:scope.names.lookup k=some .local)(ld:scope.names.lookup d=some .free)(hcell:∀x∈scope.names,x.2≠.cell)(hcl:cl.lookup d=some c)
  (hd:(d==("__classdict__":Str))=false)(nk:(k==("__debug__":Str))=false)(nd:(d==("__debug__":Str))=false)
  (hcv:s.heap.IsCell c (some (.ref a)))(hl:s.heap.IsList a its)(h0:0<=i)(hfit:i<2 ^ 63)(hv:its[i.toNat]?=some v)
  (h:∀(h':jo) (tk:Tok),(∀b o,s.heap.get? b=some o->h'.get? b=some o)->R (.ok (.ret v)) { s with heap:=h',toks:=tk }) :
  codeAny (model prog w) A (.call (.ref f) ⟨[.int i ti],[]⟩) R s:=by
 refine DS hroom ho rfl hco hgen rfl hcd ?_;rw[hbind];refine ft (vz hcell (λy hy=>by cases gw.mp hy;exact lk) (λQT hns hsb=>⟨hlim.fresh _ hsb,?_⟩) hk);have XD:∀b o,s.heap.get? b=some o->QT.get? b=some o:=λb o e=>hsb.extBut b o (ig (gh e)) (fh _ e);refine DR (Subscript_ (AU (HW hk ld hcl (hcv.keeps XD) (AU (zl hk lk hns (v:=.int i ti) (by simp) (item_listR (let ⟨o,e,r⟩:=hl;⟨o,XD _ _ e,r⟩) h0 hfit hv (h QT _ XD))) nk) hd) nd))
end
open PySem.W
def ltK (x y:ic):Bool:=decide (numOf x.1<numOf y.1)
def S1 (x y:Int×fv):Bool:=decide (x.1<y.1)
theorem lJ:Swo ltK:=by
 refine⟨λa=>by simp[ltK],λa b c h1 h2=>?_,λa b c h1=>?_⟩
 ·simp only[ltK,decide_eq_true_eq] at h1 h2 ⊢;lia
 ·simp only[ltK,decide_eq_true_eq] at h1 ⊢;lia
section
variable {prog:gv} {w:ir} {A:ji} {E:Za0} {s:fw}
theorem U9:eX prog w A E s oneType' (λx=>∃n t,x.1=nv n t) ltK:=by
 intro x y st Q hx hy hk h;obtain⟨x1,x2⟩:=x;obtain⟨y1,y2⟩:=y;obtain⟨a,t,e1⟩:=hx;obtain⟨b,u,e2⟩:=hy;dsimp only at e1 e2;subst e1 e2;rw[lt'_eq];refine gl (wq ?_);rw[hk];refine gl (zi (tj ?_));exact kat_lt_int ⟨rfl,gy h⟩
theorem xR {keys:Array fv}(hk:nu keys.toList kz):(Ao ltK (keys.zip vs.toArray).toList).map (·.2)=(Ao S1 (kz.zip vs)).map (·.2):=by
 have e2:(keys.toList.zip vs).map (λp:ic=>(numOf p.1,p.2))=kz.zip vs:=by
  rw[<-hk.nums,List.zip_map_left];exact kx λ⟨x,y⟩ _=>rfl
 rw[<-e2,Lr (lt:=ltK) (f:=λp:ic=>(numOf p.1,p.2)) (λ_ _=>rfl),j1,ksk_zip];rfl
theorem Z7 {a kS:fg}{keys:Array fv}{e e1:Nat}{st:j0}{P:DE->fw->Prop}(gk:s.heap.get? kS=some (seqObj "list" keys e))(ga:s.heap.get? a=some (seqObj "list" #[] e1))(hka:kS≠a)
  (hk:nu keys.toList kz)(hlen:kz.length=vs.length)(hz:vs.length<=sizeLine)(hs:(arrOf st).toList=Ao ltK (keys.zip vs.toArray).toList)(hfl:failedOf st=none)
  (h:∀h' out c,(∀b o,b≠a->b≠kS->s.heap.get? b=some o->h'.get? b=some o)->h'.get? a=some (seqObj "list" out c)->out.toList=(Ao S1 (kz.zip vs)).map (·.2)->P (.done (.ret .none)) { s with heap:=h' }) :
  wpAny (model prog w) A (ksk_tail a false e1 (.ref kS) st) P E s:=by
 have hsz:keys.size=vs.length:=by
  have h1:=hk.length;rw[gj] at h1;lia
 have s1:=ug s.heap kS (lj λ_=>(#[]:Array fv));have na1:(s.heap.update kS (lj λ_=>(#[]:Array fv))).get? a=some (seqObj "list" #[] e1):=(s1.2 a hka.symm).trans ga;have s2:=ug (s.heap.update kS (lj λ_=>(#[]:Array fv))) a (lj λ_=>(arrOf st).map (·.2));obtain⟨c2,hc2⟩:∃c2,((s.heap.update kS (lj λ_=>(#[]:Array fv))).update a (lj λ_=>(arrOf st).map (·.2))).get? a=some (seqObj "list" ((arrOf st).map (·.2)) c2):=⟨_,yt na1 λ_=>(arrOf st).map (·.2)⟩;have eo:((arrOf st).map (·.2)).toList=(Ao S1 (kz.zip vs)).map (·.2):=by
  rw[GM,hs,xR hk]
 have so:((arrOf st).map (·.2)).size<=sizeLine+1:=by
  rw[<-gj,eo,fb,Ct,BG];lia
 unfold ksk_tail
 try dsimp only
 refine wpAny_bind (listUpdate_at gk rfl ?_ (by rw[hsz];exact hz) (i6 _));refine wpAny_bind (zm ?_);refine wpAny_bind (seqEpoch_at na1 rfl ?_);simp only[mj,if_false];refine wpAny_bind (listUpdate_at na1 rfl ?_ (i6 _) so);rw[hfl];simp only[bne_self_eq_false,mj,if_false];exact ft (h _ _ c2 (λb o h1 h2 q=>(s2.2 b h1).trans ((s1.2 b h2).trans q)) hc2 eo)
theorem wV {a kS:fg}{keys:Array fv}{e e1:Nat}{P:DE->fw->Prop}(gk:s.heap.get? kS=some (seqObj "list" keys e))(ga:s.heap.get? a=some (seqObj "list" #[] e1))(hka:kS≠a)
  (hk:nu keys.toList kz)(hlen:kz.length=vs.length)(hz:vs.length<=sizeLine)
  (h:∀h' out c,(∀b o,b≠a->b≠kS->s.heap.get? b=some o->h'.get? b=some o)->h'.get? a=some (seqObj "list" out c)->out.toList=(Ao S1 (kz.zip vs)).map (·.2)->P (.done (.ret .none)) { s with heap:=h' }) :
  wpAny (model prog w) A (ksk_end a false vs.toArray e1 (.ref kS) keys) P E s:=by
 have hsz:keys.size=vs.length:=by
  have h1:=hk.length;rw[gj] at h1;lia
 have hzs:(keys.zip vs.toArray).size=vs.length:=by rw[Array.size_zip,hsz,gn,AC]
 unfold ksk_end
 try dsimp only
 simp only[mj,if_false]
 by_cases h2:vs.toArray.size<2
 ·rw[if_pos h2,if_pos h2]
  refine wpAny_bind (ft ?_);rw[GF];refine wpAny_bind (ft ?_)
  try dsimp only
  refine Z7 (st:=vw general' (keys.zip vs.toArray) #[] 7 none) gk ga hka hk hlen hz ?_ rfl h;show(keys.zip vs.toArray).toList=_;refine(Ir ?_).symm;have hl:(keys.zip vs.toArray).toList.length<2:=by rw[gj,hzs];rw[gn] at h2;exact h2
  exact Yj hl
 ·rw[if_neg h2,if_neg h2]
  rw[gn] at h2;rw[ksk_kind hk (by rw[hsz];lia)];refine wpAny_bind (ft ?_);refine wpAny_bind (wpAny_mono (Mg (P:=λx=>∃n t,x.1=nv n t) U9 lJ (l0:=(keys.zip vs.toArray).toList) (st:=vw oneType' (keys.zip vs.toArray) #[] 7 none)
   (Q:=λ_ st'=>failedOf st'=none/\(arrOf st').toList=Ao ltK (keys.zip vs.toArray).toList) rfl rfl rfl rfl (λx hx=>?_) (by rw[gj,hzs];lia) λst' a1 a2=>⟨a1,a2⟩) ?_ λ_ _ e=>e)
  ·rw[ksk_zip] at hx
   obtain⟨x,y⟩:=x;exact hk.all _ (sd hx).1
  rintro⟨⟨⟩,st'⟩ s' ⟨rfl,hf,hs⟩
  try dsimp only
  exact Z7 gk ga hka hk hlen hz hs hf h
end
section
variable {prog:gv} {w:ir} {A:ji} {E:Za0} {s:fw}
def Ln (a:fg)(h h':jo):Prop:=∀b o,b≠a->h.get? b=some o->h'.get? b=some o
theorem pK {a kS:fg}{f:fv}{e1:Nat}{mt:fw}{P:DE->fw->Prop}(gk:s.heap.get? kS=some (seqObj "list" #[] 0))(ga:s.heap.get? a=some (seqObj "list" #[] e1))(hka:kS≠a)(hn:mt.heap.get? kS=none)
    (keep : Ln a mt.heap s.heap)(hlen : kz.length = vs.length)(hz : vs.length <= sizeLine)
    (turn : ∀ (i : Nat) (v : fv) (k : Int), vs[i]? = some v->kz[i]? = some k->∀ (h : jo) (tk : Nat) (Q : fv->fw->Prop), Ln a mt.heap h ->
      (∀ t h' tk', (∀ b o, h.get? b = some o->h'.get? b = some o)->Q (.int k t) { s with heap := h', toks := tk' })->wpAny (model prog w) A (call f [v]) Q (λ_ _ => False) { s with heap := h, toks := tk })
    (h : ∀ h' tk out c, Ln a mt.heap h'->h'.get? a = some (seqObj "list" out c)->out.toList = (Ao S1 (kz.zip vs)).map (·.2)->P (.done (.ret .none)) { s with heap := h', toks := tk }) :
    wpAny (model prog w) A (ksk_rest a f false vs.toArray e1 (.ref kS)) P E s := by
  unfold ksk_rest;refine wpAny_bind (qr ?_)
  first
    | rw [List.forIn_toArray]
    | (rw [<- wb]; simp only [ni])
    | rw [<- wb]
  refine wpAny_bind (ksk_fold (λi s' => ∃ h' tk kA e, s' = { s with heap := h', toks := tk }/\Ln a mt.heap h'/\h'.get? kS = some (seqObj "list" kA e)/\h'.get? a = some (seqObj "list" #[] e1)/\nu kA.toList (kz.take i)) vs 0 s
    ⟨s.heap, s.toks, #[], 0, rfl, keep, gk, ga, by simpa using IntsAre.nil⟩ ?step ?done)
  case step =>
    rintro j x s' hx ⟨h', tk, kA, e, rfl, K', gk', ga', hk⟩;simp only [lx] at hk ⊢;have hj : j < vs.length := (ge.mp hx).1;obtain ⟨k, hkj⟩ : ∃ k, kz[j]? = some k := ⟨_, fc (by lia)⟩;have hz2 : kA.size < vs.length := by
      have h1 := hk.length;rw [gj, f7] at h1;lia
    refine wpAny_bind (tj (wpAny_mono (turn j x k hx hkj h' tk (λv s'' => ∃ (t : Tok) (g : jo) (tk2 : Nat), v = .int k t/\s'' = { s with heap := g, toks := tk2 }/\∀ b o, h'.get? b = some o->g.get? b = some o) K' λt2 g tk2 kg => ⟨t2, g, tk2, rfl, rfl, kg⟩) (λv s'' he => ?_) λ_ _ hF => hF.elim));obtain ⟨t2, g, tk2, rfl, rfl, kg⟩ := he
    try dsimp only
    have s1 := ug g kS (lj (·.push (.int k t2)));obtain ⟨c2, hc2⟩ : ∃ c2, (g.update kS (lj (·.push (.int k t2)))).get? kS = some (seqObj "list" (kA.push (.int k t2)) c2) := ⟨_, yt (kg _ _ gk') (·.push (.int k t2))⟩;have ek : kz.take (j + 1) = kz.take j ++ [k] := by rw [jn, hkj]; simp
    have ea : (kA.push (nv k t2)).toList = kA.toList ++ [nv k t2] := by simp
    refine wpAny_bind (listUpdate_at (kg _ _ gk') rfl ?_ (by lia) (io (ot (Array.size_push ..)) (by lia)));exact ft ⟨rfl, _, _, kA.push (.int k t2), c2, rfl, λb o hb q => (s1.2 b (λz => by rw [z, hn] at q; cases q)).trans (kg _ _ (K' b o hb q)), hc2, (s1.2 a hka.symm).trans (kg _ _ ga'), by rw [ea, ek]; exact ksk_snoc hk⟩
  case done =>
    rintro s' ⟨h', tk, kA, e, rfl, K', gk', ga', hk⟩;have hk' : nu kA.toList kz := by
      have e3 : kz.take (0 + vs.length) = kz := gq (by lia);rw [e3] at hk;exact hk
    try dsimp only
    refine wpAny_bind (GB gk' rfl ?_);exact wV gk' ga' hka hk' hlen hz λh3 out c k3 g3 e3 => h h3 tk out c (λb o hb q => k3 b o hb (λz => by rw [z, hn] at q; cases q) (K' b o hb q)) g3 e3
theorem qM {a:fg}{f:fv}{n:Nat}{P:DE->fw->Prop}(ho:s.heap.get? a=some (seqObj "list" vs.toArray n))(hlen:kz.length=vs.length)(hz:vs.length<=sizeLine)
  (turn:∀(i:Nat) (v:fv) (k:Int),vs[i]?=some v->kz[i]?=some k->∀(h:jo) (tk:Nat) (Q:Za0),Ln a s.heap h ->
   (∀t h' tk',(∀b o,h.get? b=some o->h'.get? b=some o)->Q (.int k t) { s with heap:=h',toks:=tk' })->wpAny (model prog w) A (call f [v]) Q (λ_ _=>False) { s with heap:=h,toks:=tk })
  (h:∀h' tk out c,Ln a s.heap h'->h'.get? a=some (seqObj "list" out c)->out.toList=(Ao S1 (kz.zip vs)).map (·.2)->P (.done (.ret .none)) { s with heap:=h',toks:=tk }) :
  wpAny (model prog w) A (ksk_tree a f false) P E s:=by
 have ha:a<s.heap.objs.size:=gh ho;have s1:=ug s.heap a (lj λ_=>(#[]:Array fv));obtain⟨e1,ho1⟩:∃e1,(s.heap.update a (lj λ_=>(#[]:Array fv))).get? a=some (seqObj "list" #[] e1):=⟨_,yt ho λ_=>#[]⟩;have hkS:((s.heap.update a (lj λ_=>(#[]:Array fv))).push (seqObj "tuple" vs.toArray 0)).objs.size=s.heap.objs.size+1:=by rw[EI,xj]
 unfold ksk_tree;refine wpAny_bind (GB ho rfl ?_);refine wpAny_bind (listUpdate_at ho rfl ?_ (by simpa using hz) (i6 _));refine wpAny_bind (seqEpoch_at ho1 rfl ?_);refine wpAny_bind (EG ?_ (by show vs.length<=_;exact hz));refine wpAny_bind (AI ?_ (i6 _));refine wpAny_holding ?_;exact pK (mt:=s) (s:={ s with heap:=((s.heap.update a (lj λ_=>(#[]:Array fv))).push (seqObj "tuple" vs.toArray 0)).push (seqObj "list" #[] 0) }) (kS:=((s.heap.update a (lj λ_=>(#[]:Array fv))).push (seqObj "tuple" vs.toArray 0)).objs.size)
  (iq _ rfl) (fh _ (fh _ ho1)) (by rw[hkS];exact ue (AD ha)) (by rw[hkS];exact vm (vo _))
  (λb o hb q=>fh _ (fh _ ((s1.2 b hb).trans q))) hlen hz turn h
end
section
variable {prog:gv} {w:ir} {A:ji} {s:fw}
theorem X7 {l:fg}(hl:s.heap.IsList l vs.toArray)(hz:vs.length<=sizeLine)(E':Za0)(Q':Za3->fw->Prop)
  (h:∀h' tk,(∀b o,s.heap.get? b=some o->h'.get? b=some o)->s.heap.objs.size<=h'.objs.size->Q' vs { s with heap:=h',toks:=tk }):wpAny (model prog w) A (collect (.ref l)) Q' E' s:=by
 refine collect_list hl (h _ s.toks (λb o q=>?_) (by rw[xj,EI];exact vo _)) hz;have hlt:b<s.heap.objs.size:=gh q;rw[Heap.get?_update_ne _ _ _ _ (ig hlt),z4 _ _ _ (ig hlt)];exact q
end
theorem Sg:∀{us:Za3} {ns:List Int},us.length=ns.length->(∀(i:Nat) u n,us[i]?=some u->ns[i]?=some n->∃t,u=.int n t)->nu us ns
 |[],[],_,_=>.nil
 |u::us,n::ns,hl,h=>by
  obtain⟨t,rfl⟩:=h 0 u n rfl rfl;exact .cons n t (Sg (CF hl) λi v m e1 e2=>h (i+1) v m e1 e2)
theorem Lv:∀{us:Za3} {ns:List Int},Av (ns.map V.int) us->nu us ns
 |[],[],_=>.nil
 |_::_,[],h=>by cases h
 |[],_::_,h=>by cases h
 |u::us,n::ns,h=>by
  cases h with
  |cons h1 h2=>obtain⟨t,rfl⟩:=h1;exact .cons n t (Lv h2)
def ltI (x y:Int×Int):Bool:=decide (x.1<y.1)
def Dx (kz ns:List Int):List Int:=(Ao ltI (kz.zip ns)).map (·.2)
theorem Kn:∀l:Za3,(∀v∈l,∃n t,v=nv n t)->nu l (l.map numOf)
 |[],_=>.nil
 |v::l,h=>by
  obtain⟨n,t,rfl⟩:=h _ (il ..);exact .cons n t (Kn l λu hu=>h u (gz _ hu))
theorem pP (h:nu vs ns):nu ((Ao S1 (kz.zip vs)).map (·.2)) (Dx kz ns):=by
 have e1:(Ao S1 (kz.zip vs)).map (λp:Int×fv=>(p.1,numOf p.2))=Ao ltI (kz.zip ns):=by
  rw[<-Lr (f:=λp:Int×fv=>(p.1,numOf p.2)) (lt:=S1) (lt':=ltI) (λ_ _=>rfl)];congr 1;rw[<-h.nums,List.zip_map_right];exact kx λ⟨x,y⟩ _=>rfl
 have e2:Dx kz ns=((Ao S1 (kz.zip vs)).map (·.2)).map numOf:=by
  unfold Dx;rw[<-e1,j1,j1];rfl
 rw[e2];refine Kn _ λv hv=>?_;obtain⟨p,hp,rfl⟩:=jl.mp hv;have:=(Cp (lt:=S1) (kz.zip vs)).mem_iff.mp hp;obtain⟨x,y⟩:=p;exact h.all _ (sd this).2
section
variable {prog:gv} {w:ir} {A:ji} {E:Za0} {s:fw}
theorem mK {r:fg}{n:Nat}{t u v:Tok}(hh:A.handled=none)(hr:IsRange s.heap r 0 n 1 t u v)(hn:n<=100000)(E':Za0)(Q':Za3->fw->Prop)
  (h:∀vs h' tk,nu vs ((gp n).map λi:Nat=>(i:Int))->(∀b o,s.heap.get? b=some o->h'.get? b=some o)->s.heap.objs.size<=h'.objs.size->Q' vs { s with heap:=h',toks:=tk }):wpAny (model prog w) A (collect (.ref r)) Q' E' s:=by
 have e2:lu 0 (n:Int) 1=n:=by rw[MT];split<;>lia
 have key:∀R:yp->fw->Prop,(∀(h':jo) (tk:Nat) (acc':Array fv) (c':Nat),(∀b o,s.heap.get? b=some o->h'.get? b=some o)->h'.get? s.heap.objs.size=some { cls:=.type "list",dict:=none,data:=.seq acc' c',slots:=#[] } ->
   ItemsOf (λi v=>∃t,v=.int (0+(i:Int)*1) t) acc' n->R (.ok (.ret (.ref s.heap.objs.size))) { s with heap:=h',toks:=tk })->codeAny (model prog w) A (.builtin "proto.collect" ⟨[.ref r],[]⟩) R s:=λR hR=>by
  refine oq F.entry_proto_collect ?_;rw[ml F.plain_proto_collect _];show wpAny _ A.in1 (newList [] >>= λl=>again (.builtin "list.__iadd__" ⟨[l,.ref r],[]⟩)) _ _ s;refine wpAny_bind (oj ?_);refine ft ⟨ra II _,oq F.entry_list_iadd ?_⟩;rw[ml II _];have XT:(s.heap.push { cls:=.type "list",data:=.seq ([]:Za3).toArray }).get? s.heap.objs.size=some { cls:=.type "list",data:=.seq ([]:Za3).toArray }:=iq _ rfl;show wpAny _ A.in1 (MA (.ref s.heap.objs.size) (.ref r) (.ref s.heap.objs.size)) _ _ _;exact wpAny_extend_range (R:=R) (s:={ s with heap:=s.heap.push { cls:=.type "list",data:=.seq ([]:Za3).toArray } }) hh (fh _ hr) (small_one (by lia) (by lia) (by lia) (by lia)) e2 (by lia) _ _ _ XT λh' tk acc' c' hk hS' hacc=>
   hR h' tk acc' c' (λb o q=>hk b o (ig (gh q)) (fh _ q)) hS' hacc
 unfold collect;refine wpAny_bind (wpAny_runValue (key _ λh' tk acc' c' hk hS' hacc=>?_));show wpAny _ A (load s.heap.objs.size >>= _) _ _ _;refine wpAny_bind (wpAny_load hS' ?_);refine ft (h _ h' tk ?_ hk (jx (gh hS')));refine Sg (by rw[fb,gr,gj,hacc.1]) λi x y e1 e3=>?_;have hi:i<n:=by have:=(ge.mp e3).1;simpa using this
 rw[gd,jd hi] at e3;cases e3;have e4:acc'[i]?=some x:=by rw[<-gt];exact e1
 obtain⟨t,e5⟩:=hacc.2 i x e4;exact⟨t,by rw[e5];simp⟩
theorem Yk {arg:fv}{q:fg}{Q:Za0}(hlen:kz.length=ns.length)(hz:ns.length<=sizeLine)
  (hcol:∀(E':Za0) (Q':Za3->fw->Prop),(∀vs h' tk,nu vs ns->(∀b o,s.heap.get? b=some o->h'.get? b=some o)->s.heap.objs.size<=h'.objs.size->Q' vs { s with heap:=h',toks:=tk })->wpAny (model prog w) A.in1 (collect arg) Q' E' s)
  (turn:∀(i:Nat) (n k:Int) (t:Tok),ns[i]?=some n->kz[i]?=some k->∀(h:jo) (tk:Nat) (Q:Za0),(∀b o,s.heap.get? b=some o->h.get? b=some o) ->
   (∀t h' tk',(∀b o,h.get? b=some o->h'.get? b=some o)->Q (.int k t) { s with heap:=h',toks:=tk' })->wpAny (model prog w) A.in1.in1 (call (.ref q) [.int n t]) Q (λ_ _=>False) { s with heap:=h,toks:=tk })
  (h:∀D h' tk out c,s.heap.objs.size<=D->(∀b o,s.heap.get? b=some o->h'.get? b=some o)->h'.get? D=some (seqObj "list" out c)->nu out.toList (Dx kz ns)->Q (.ref D) { s with heap:=h',toks:=tk }) :
  wpAny (model prog w) A (call (.builtin "sorted") [arg] [(me "key",.ref q)]) Q E s:=by
 refine call_function_entry_kw kind_sorted NP NQ (ksk_s1 _ _) ?_;unfold qu.«sorted»;refine wpAny_bind (m:=checkCount "sorted" 1 1 _) (ft ?_);refine wpAny_bind (hcol _ _ λvs h1 tk1 hI k1 z1=>?_);have hlv:vs.length=ns.length:=hI.length;refine wpAny_bind (AI ?_ (by rw[hlv];exact hz));have hoL:(h1.push (seqObj "list" vs.toArray 0)).get? h1.objs.size=some (seqObj "list" vs.toArray 0):=iq _ rfl;have keep:∀b o,s.heap.get? b=some o->(h1.push (seqObj "list" vs.toArray 0)).get? b=some o:=λb o q=>fh _ (k1 b o q);have nD:∀b o,s.heap.get? b=some o->b≠h1.objs.size:=λb o q=>ig (gi (gh q) z1);show wpAny _ _ _ _ _ { s with heap:=h1.push (seqObj "list" vs.toArray 0),toks:=tk1 };refine wpAny_bind (wpAny_holding (wpAny_call_entry_kw slot_list_sort ⟨_,hoL,rfl⟩ entry_list_sort ?body (ksk_l1 _ _)))
 case body=>
  show wpAny (model prog w) A.in1.in1 (qu.«list.sort» ⟨[.ref h1.objs.size],[(me "key",.ref q)]⟩) _ _ _;rw[ksk_t1];refine qM (kz:=kz) (s:={ s with heap:=h1.push (seqObj "list" vs.toArray 0),toks:=tk1 }) hoL (by rw[hlv];exact hlen) (by rw[hlv];exact hz) (λi v k e1 e2 h2 tk Q2 kb q2=>?_) λh2 tk out c kb g e=>?_
  ·obtain⟨n,t,rfl,e3⟩:=hI.at i v e1
   exact turn i n k t e3 e2 h2 tk Q2 (λb o q=>kb b o (nD b o q) (keep b o q)) q2
  ·exact⟨_,rfl,ft ⟨_,rfl,h _ h2 tk out c z1 (λb o q=>kb b o (nD b o q) (keep b o q)) g (by rw[e];exact pP hI)⟩⟩
end
abbrev Xo (k:Str)(pa:Pos):o8:={ posonlyargs:=[],args:=[{ arg:=k,annotation:=none,pos:=pa }],vararg:=none,kwonlyargs:=[],kw_defaults:=[],kwarg:=none,defaults:=[] }
abbrev Nw (k d:Str):ol:={ kind:=.function,names:=[(k,.local),(d,.free)],isGenerator:=false,isCoroutine:=false,more:=[] }
abbrev Xq (k d:Str)(pd pk pp:Pos):jc:=.Subscript (.Name d pd) (.Name k pk) pp
section
variable {X:Cx}
def yX (ta:TA):TE:=λG H Q=>ta G H λvs H1=>∃j:Nat,vs=[.int j]/\j<=100000/\∀p,H1 p=none->Q (.ref p) (upd H1 p (.rng 0 j))
theorem wJ {a:jc}{ta:TA}{q pos2:Pos}(hg2:Gl X "range")(hm2:X.mg "range"=none)(ha:PA X [a] ta)(hs:autoParam (starEach [a] X.env=[(false,eval a X.env)]) QD) :
  PE X (.Call (.Name "range" q) [a] [] pos2) (yX ta):=by
 k_in;refine wpAny_Call_Name_kw (Fv I hg2 hm2 boot_range (j2 (thA ha I h λus s1 vs H1 I1 r1 q1=>?_) hs rfl) (by decide) (by decide));obtain⟨j,e,hj,q⟩:=q1;subst e;obtain⟨u,rfl,t,rfl⟩:=Fm r1;refine NT ?_;exact⟨.ref _,_,I1.laid (o:=.rng 0 j) (λb o e=>fh _ e) (fk _) ⟨_,_,_,iq _ rfl⟩,rfl,q _ (I1.hok.fresh (fk _))⟩
theorem Abm {G:St}{Q:VK}{ta:TA}(h:ta G H λvs H1=>∃j:Nat,vs=[.int j]/\j<=100000/\∀p,H1 p=none->Q (.ref p) (upd H1 p (.rng 0 j))):yX ta G H Q:=h
def B3 (n:Nat):List Int:=(gp n).map λj:Nat=>(j:Int)
def rC (P:fg)(lpos:Pos)(qual:Str)(i:Nat)(ta:TE):TE:=λG H Q=>ta G H λx H1=>∃r l ds,x=.ref r/\G[i]?=some (some (.ref l))/\H1 l=some (.lst (ds.map V.int))/\ds.length<=100000 /\
 (H1 r=some (.lst ((B3 ds.length).map V.int))\/H1 r=some (.rng 0 ds.length))/\Ky H1 P lpos qual /\
 ∀p H',Me P H1 H'->Ky H' P lpos qual->H1 p=none->H' p=some (.lst ((Dx ds (B3 ds.length)).map V.int))->Q (.ref p) H'
theorem wP {P:fg}{i:Nat}{ta:TE}{G:St}{Q:VK}(h:ta G H λx H1=>∃r l ds,x=.ref r/\G[i]?=some (some (.ref l))/\H1 l=some (.lst (ds.map V.int))/\ds.length<=100000 /\
 (H1 r=some (.lst ((B3 ds.length).map V.int))\/H1 r=some (.rng 0 ds.length))/\Ky H1 P lpos qual /\
 ∀p H',Me P H1 H'->Ky H' P lpos qual->H1 p=none->H' p=some (.lst ((Dx ds (B3 ds.length)).map V.int))->Q (.ref p) H'):rC P lpos qual i ta G H Q:=h
theorem qI {a:jc}{ta:TE}{p pa pd pk pp kpos:Pos}{d k:Str}{i:Nat}{c P cl:fg}(hcal:X.calm=true)(hr:Bv 1 X.A)(hg:Gl X "sorted")(hm:X.mg "sorted"=none)(ha:PE X a ta)
  (C:ER X.base c P)(hb:X.base.BuiltinsAt X.mg P)(hcode:X.env.code=.ref c)(hN:X.N[i]?=some d)(hkd:X.env.scope.names.lookup d=some .cell)(hce:X.env.cells.lookup d=some cl)
  (hcl:closureFor (Nw k d) X.env=pure [(d,cl)])(hq:X.env.qual++"<lambda>"=qual)
  (hbind:∀(pm cv ctv:fv) (n:Int) (t:Tok),bindArgs (GC "<lambda>" qual (Xo k pa) (Xq k d pd pk pp) (Nw k d) [(d,cl)] pm cv ctv) ⟨[.int n t],[]⟩=pure [(k,.int n t)])(hs:autoParam (starEach [a] X.env=[(false,eval a X.env)]) QD)
  (ek:autoParam ((d==k)=false) QF)(hd:autoParam ((d==("__classdict__":Str))=false) QF)(nk:autoParam ((k==("__debug__":Str))=false) QF)(nd:autoParam ((d==("__debug__":Str))=false) QF) :
  PE X (.Call (.Name "sorted" p) [a] [⟨some "key",.Lambda (Xo k pa) (Xq k d pd pk pp) (Nw k d) lpos,kpos⟩] pos) (rC P lpos qual i ta):=by
 k_in;refine wpAny_Call_Name_kw (Fv I hg hm Rt (callWith_kw ?_ (by rw[hs];rfl) (by rw[hs];rfl) rfl rfl) (by decide) (by decide));rw[hs];refine qj ?_;show wpAny _ _ (eval a X.env) _ _ _;refine thE ha I h λv s1 x H1 I1 r1 ⟨r,l,ds,ex,XJ,hl,hz,hrr,hT,q⟩=>?_;subst ex;obtain rfl:v=je r:=r1;refine wo ?_;show wpAny _ _ (evalAll [(do let v <-eval (.Lambda (Xo k pa) (Xq k d pd pk pp) (Nw k d) lpos) X.env;standAt pos;pure v)]) _ _ _;unfold evalAll;refine wpAny_bind (wpAny_bind (Y2 I1 hT C hb hcode hcl rfl hq λf c' oc pm ctv s2 H2 I2 hT2 sm hf0 hf hc' hoc=>?_));refine wpAny_bind (qf (ft ?_));unfold evalAll;refine wpAny_bind (wpAny_holding (ft (ft ?_)));show wpAny _ _ (call (.builtin "sorted") [.ref r] [(me "key",.ref f)]) _ _ _;have hlP:l≠P:=λe=>by obtain⟨ps,e1,_⟩:=hT;rw[e,e1] at hl;cases hl
 have hl2:H2 l=some (.lst (ds.map V.int)):=sm _ _ hlP hl;obtain⟨_,its,nn,hv,hit⟩:=I2.hok l _ hl2;have hiI:nu its ds:=Lv hv;have hfo:s2.heap.get? f=some _:=(I2.hok f _ hf).1;have hco:s2.heap.get? c'=some oc:=(I2.hok c' _ hc').1;have hcell:s2.heap.IsCell cl (some (.ref l)):=by
  obtain⟨m,_,hlo⟩:=I2.loc;obtain⟨u,ru,lk⟩:=hlo i d (.ref l) hN XJ (.inr (.inl hkd));obtain rfl:u=je l:=ru;rcases lk with⟨hk,_⟩|⟨_,c2,hc2,hx⟩
  ·have:some BF=some rn.local:=hkd.symm.trans hk
   cases this
  ·rw[hce] at hc2
   cases hc2;exact hx
 have hlen:(B3 ds.length).length=ds.length:=by unfold B3;rw[fb,gr]
 refine Yk (ns:=B3 ds.length) (kz:=ds) hlen.symm (by rw[hlen];exact io hz (by decide)) (λE' Q' hQ=>?_) (λj n kk t e1 e2 h3 tk Q3 kp q3=>?_) λD h' tk out cc hD kp hat hout=>?_
 ·rcases hrr with hr1|hr1
  ·have hrP:r≠P:=λe=>by obtain⟨ps,e1,_⟩:=hT;rw[e,e1] at hr1;cases hr1
   obtain⟨_,vs,nr,hv2,hit2⟩:=I2.hok r _ (sm _ _ hrP hr1);exact X7 (vs:=vs) ⟨_,hit2,rfl,_,rfl⟩ (by rw[<-hv2.length,fb,hlen];exact io hz (by decide)) E' Q' λh' tk kp z=>hQ vs h' tk (Lv hv2) kp z
  ·have hrP:r≠P:=λe=>by obtain⟨ps,e1,_⟩:=hT;rw[e,e1] at hr1;cases hr1
   obtain⟨t,u,v,hit2⟩:=I2.hok r _ (sm _ _ hrP hr1);exact mK (A:=X.A.in1) (n:=ds.length) (I.ok.hd hcal) hit2 hz E' Q' hQ
 ·have hj:j<ds.length:=(ge.mp e2).1
  obtain rfl:(j:Int)=n:=by
   unfold B3 at e1;rw[gd,jd hj] at e1;cases e1;rfl
  obtain⟨vk,hvk⟩:∃vk,its[j]?=some vk:=⟨_,fc (by rw[hiI.length];exact hj)⟩;obtain⟨k2,tk2,rfl,e3⟩:=hiI.at j vk hvk;rw[e2] at e3;cases e3;refine om (tV (u:=.none) (kp _ _ hfo) (let ⟨vs,t,e1,e2⟩:=hoc;⟨c',oc,vs,t,rfl,kp _ _ hco,e1,e2⟩) (show X.A.depth<recursionLimit from Bv.depth hr) ((I2.mod.nolimit.keeps I2.bk).keeps kp) (hbind _ _ _ _ _) rfl rfl rfl (by simp) ?_ (by simp) (by simp) hd nk nd (hcell.keeps kp) (its:=its.toArray) ⟨_,kp _ _ hit,rfl,_,rfl⟩ (by lia) (by lia) (by simpa using hvk) λh4 tk4 k4=>q3 tk2 h4 tk4 k4);show ou d [(k,rn.local),(d,o9)]=some .free;simp[ou,ek]
 ·have I3:Inv X pins G (upd H2 D (.lst ((Dx ds (B3 ds.length)).map V.int))) { s2 with heap:=h',toks:=tk }:=I2.laid kp hD ⟨by
    have h1:=hout.length;rw[fb];unfold Dx;rw[fb,Ct,BG,hlen,AC];exact io hz (by decide),out.toList,cc,Lj hout,hat⟩
  have hD2:H2 D=none:=I2.hok.fresh hD;have hD1:H1 D=none:=by
   cases e:H1 D with
   |none=>rfl
   |some u=>
    by_cases hDP:D=P
    ·obtain⟨ps,e1,_⟩:=hT2
     rw[hDP,e1] at hD2;cases hD2
    ·rw[sm D u hDP e] at hD2;cases hD2
  refine⟨.ref D,_,I3,rfl,q D _ (λb u hb e=>?_) ?_ hD1 Ac⟩
  ·rw[Ai (λz=>by rw[z,hD1] at e;cases e)]
   exact sm b u hb e
  ·obtain⟨ps,e1,e2,e3⟩:=hT2
   have nP:P≠D:=λz=>by rw[z,hD2] at e1;cases e1
   refine⟨ps,by rw[Ai nP];exact e1,e2,e3.imp id λ⟨c2,oc2,a1,a2,a3⟩=>⟨c2,oc2,a1,?_,a3⟩⟩;rw[Ai (λz=>by rw[z,hD2] at a2;cases a2)];exact a2
end
def Ly (o:Obj)(c P:fg):Prop:=∃vs file tf flags tg inF text tt,o.cls=.type "code"/\o.data=.fields vs/\vs[11]?=some (.ref P)/\vs.getD 11 .none=.ref P/\vs.getD 18 .none=.str file tf /\
  vs.getD 7 .none=.int flags tg/\vs.getD 9 .none=.bool inF/\vs.getD 10 .none=.int text tt/\c≠P
theorem Ly.at {o:Obj}{c P:fg}(x:Ly o c P)(e:h.get? c=some o):ER h c P:=by
 obtain⟨vs,file,tf,flags,tg,inF,text,tt,a1,a2,a3,a4,a5,a6,a7,a8,a9⟩:=x;exact⟨o,vs,file,tf,flags,tg,inF,text,tt,e,a1,a2,a3,a4,a5,a6,a7,a8,a9⟩
theorem gC {P:gv}{K:eh}{mg mb:Za2}{k:Nat}{fa a:fg}{x:Str}{QN:fw}{tabs:List (fg×fg)}
  (hT:AY tabs QN.heap)(hTK:∀q∈tabs,K.lookup q.2=none)(hB:∃bm ob,mg "__builtins__"=some (.ref bm)/\bm≠builtinsNs/\QN.heap.get? bm=some ob/\ob.cls=.type "module"/\ob.dict=some builtinsNs/\ob.data=.plain)(KX:K.In QN.heap)(hns:QN.heap.Ns mainGlobals mg)(hb:QN.heap.Ns builtinsNs mb)(hbb:∀x:Str,x≠"__name__"->mb x=bootBuiltins x)(hlim:QN.heap.NoLimit)(hg:QN.gens=#[])
  (ha:QN.heap.get? a=some { cls:=.type "list",data:=.seq vs.toArray })(hi:nu vs ns)(hl:ns.length<=sizeLine)(hr:Bv k callerA)
  (F:∀base:jo,K.In base->base.Ns mainGlobals mg->(∀q∈tabs,base.BuiltinsAt mg q.2)->As P w K mg base CX k fa fd [x] sp)(hbind:∀(s:fw) (u:fv),BX s fd ⟨[u],[]⟩ [(x,u)])
  (hsp:∀H:Hp,(∀q∈tabs,H q.2=some (.tbl #[]))->SqL K H a (ns.map V.int)->sp [.ref a] H (λv _=>v=.bl true) λ_ _ _=>False)
  (hCX:∀H e s',CX [] H QN (λ_ _ _=>False) e s'->False) :
  codeAny (model P w) callerA (.call (.ref fa) ⟨[.ref a],[]⟩) (λr s'=>r=.ok (.ret (.bool true))/\OldK QN.heap s'.heap/\s'.os=QN.os/\ww s'.gens) QN:=by
 have rv:=Lj hi;have tabAt:∀b,b∈tabs.map (·.2)->QN.heap.get? b=some (xy #[])/\K.lookup b=none/\isCodeTable QN.heap b:=λb hm=>by
  obtain⟨q,hq,rfl⟩:=jl.mp hm;exact⟨(hT q hq).2,hTK q hq,((hT q hq).1.tab (hT q hq).2).isCodeTable⟩
 have haT:a∉tabs.map (·.2):=λhm=>by
  have:=(tabAt a hm).1;rw[ha] at this;cases this
 let H:Hp:=λb=>if b∈tabs.map (·.2) then some (.tbl #[]) else if b=a/\K.lookup a=none then some (.frz { cls:=.type "list",data:=.seq vs.toArray } (.lst (ns.map V.int))) else none
 have H1:∀b,b∈tabs.map (·.2)->H b=some (.tbl #[]):=λb hm=>if_pos hm;have H2:∀b,b∉tabs.map (·.2)->¬(b=a/\K.lookup a=none)->H b=none:=λb h1 h2=>(if_neg h1).trans (if_neg h2);have H3:K.lookup a=none->H a=some (.frz { cls:=.type "list",data:=.seq vs.toArray } (.lst (ns.map V.int))):=λh=>(if_neg haT).trans (if_pos ⟨rfl,h⟩);have cases3:∀b,(b∈tabs.map (·.2))\/(b=a/\K.lookup a=none/\b∉tabs.map (·.2))\/(H b=none):=λb=>by
  by_cases h1:b∈tabs.map (·.2)
  ·exact .inl h1
  ·by_cases h2:b=a/\K.lookup a=none
   ·exact .inr (.inl ⟨h2.1,h2.2,h1⟩)
   ·exact .inr (.inr (H2 b h1 h2))
 have hok:HOk P w H QN.heap:=λb o e=>by
  rcases cases3 b with h|⟨rfl,h1,_⟩|h
  ·rw[H1 b h] at e
   cases e;exact(tabAt b h).1
  ·rw[H3 h1] at e
   cases e;exact⟨ha,by rw[fb];exact hl,vs,_,rv,ha⟩
  ·rw[h] at e
   cases e
 have noD:∀{b:fg} {o:Obj} {es:Array DictEntry} {ep:Nat},QN.heap.get? b=some o->o.data=.dict es ep->H b=none:=λ{b o es ep} e d=>by
  rcases cases3 b with h|⟨rfl,_,_⟩|h
  ·rw[(tabAt b h).1] at e
   cases e;have d':FA #[]=HA es ep:=d;cases d'
  ·rw[ha] at e
   cases e;have d':Data.seq vs.toArray _=HA es ep:=d;cases d'
  ·exact h
 have nsK:∀{b:fg} {m:Za2},QN.heap.Ns b m->(Xd QN.heap H).Ns b m:=λ{b m} ⟨o,es,ep,e,d,r⟩=>⟨o,es,ep,Tv e (noD e d),d,r⟩;have hKb:K.In (Xd QN.heap H):=λb o e=>Tv (KX b o e) (by
  rcases cases3 b with h|⟨rfl,h1,_⟩|h
  ·rw[(tabAt b h).2.1] at e;cases e
  ·rw[h1] at e;cases e
  ·exact h)
 have hBa:∀q∈tabs,(Xd QN.heap H).BuiltinsAt mg q.2:=λq hq=>by
  obtain⟨bm,ob,b1,b2,b3,b4,b5,b6⟩:=hB;have n1:bm≠mainGlobals:=λz=>by
   obtain⟨o,es,ep,e,d,_⟩:=hns;rw[z,e] at b3;cases b3;rw[d] at b6;cases b6
  have nP:bm∉tabs.map (·.2):=λhm=>by
   have:=(tabAt bm hm).1;rw[b3] at this;cases this;cases b6
  have hn:H bm=none:=by
   rcases cases3 bm with h|⟨h,_,_⟩|h
   ·exact absurd h nP
   ·rw[h,ha] at b3
    cases b3;cases b6
   ·exact h
  exact⟨bm,ob,b1,b2,n1,λz=>nP (z▸vt hq),Tv b3 hn,b4,b5,b6⟩
 have hM:Mod K mg (Xd QN.heap H):=⟨hKb,nsK hns,⟨mb,nsK hb,hbb⟩,let ⟨mc,h1,h2⟩:=hlim;⟨mc,nsK h1,h2⟩⟩;have e0:P7 P w K mg (Xd QN.heap H) callerA [] QN H:=⟨rfl,hM,λb o e=>wS e,ot (oO _ _),trivial,λb hb=>absurd (show b∈([]:List fg) from hb) (by simp),hok,.of_eq hg⟩;have hS:SqL K H a (ns.map V.int):=by
  cases hk:K.lookup a with
  |none=>exact .inl (.inr ⟨_,H3 hk⟩)
  |some o=>
   have e:=KX a o hk;rw[ha] at e;cases e;exact .inr ⟨_,vs.toArray,_,hk,rfl,rfl,rfl,by rw[gn,hi.length];exact hl,by simpa using rv⟩
 refine qb ((F _ hKb (nsK hns) hBa).run callerA [] QN H ⟨[.ref a],[]⟩ [.ref a] [.ref a] _ _ hr e0 (hbind QN (.ref a)) (.cons rfl .nil) (hsp H (λq hq=>H1 _ (vt hq)) hS)) λr s' h=>?_
 cases r with
 |error e=>exact(hCX H e s' h).elim
 |ok fl=>
  cases fl with
  |next=>exact l5 h
  |brk=>exact l5 h
  |cont=>exact l5 h
  |ret u=>
   obtain⟨v,H',os,bare,un,hok',r',q⟩:=h;have q':v=.bl true:=q;subst q';obtain rfl:u=BO true:=r';have out:∀b o,QN.heap.get? b=some o->(b∈tabs.map (·.2)/\∃more,s'.heap.get? b=some (xy more))\/s'.heap.get? b=some o:=λb o e=>by
    rcases cases3 b with h|⟨rfl,h1,_⟩|h
    ·obtain⟨more,hm⟩:=un.tbls b _ (H1 b h)
     exact .inl ⟨h,_,hok' b _ hm⟩
    ·obtain⟨e2,_⟩:=hok' _ _ (un.frzs _ _ _ (H3 h1))
     rw[ha] at e;cases e;exact .inr e2
    ·exact .inr (un.keep b o e h (by intro z;exact absurd (show b∈([]:List fg) from z) (by simp)) (by simp))
   refine⟨rfl,⟨λb o e=>?_,λb o e=>?_⟩,os,bare⟩
   ·rcases out b o e with⟨h,more,hm⟩|h
    ·have e1:=(tabAt b h).1
     rw[e] at e1;cases e1;exact .inr (.inl ⟨(tabAt b h).2.2,rfl,#[],more,rfl,by rw[Array.empty_append];exact hm⟩)
    ·exact .inl h
   ·rcases out b o e with⟨_,more,hm⟩|h
    ·exact⟨_,hm⟩
    ·exact⟨o,h⟩
theorem oE {l:AA}{n k:Nat}{q:gv}{loose:Za6}{XP:(Za2)->jo->Prop}{YP:ir->jo->Prop}{d:MO}{K:CS->eh}{CX:ir->CXT}{sp:ir->Sp}{x:Str}{tabs:List (fg×fg)}
  (hn:l.most=some n)(hn2:n<=sizeLine)(hdf:d.params.defaults=[])(hr:Bv k callerA)
  (hY:∀(w:ir) (h:jo),YP w h->(K w.params).In h)(hTb:∀(w:ir) (h:jo),YP w h->AY tabs h)(hTK:∀w:ir,∀p∈tabs,(K w.params).lookup p.2=none)
  (F:∀(w:ir) (mg:Za2) (fa:fg) (h:jo),(K w.params).In h->h.Ns mainGlobals mg->mg d.name=some (.ref fa) ->
   ∃fd:ke,(∀(s:fw) (u:fv),BX s fd ⟨[u],[]⟩ [(x,u)]) /\
    ∀base:jo,(K w.params).In base->base.Ns mainGlobals mg->(∀q∈tabs,base.BuiltinsAt mg q.2)->As l.prog w (K w.params) mg base (CX w) k fa fd [x] (sp w))
  (hsp:∀(w:ir) (H:Hp) (a:fg) (ns:List Int),ns.length<=n->(∀p∈tabs,H p.2=some (.tbl #[]))->SqL (K w.params) H a (ns.map V.int)->sp w [.ref a] H (λv _=>v=.bl true) λ_ _ _=>False)
  (hCX:∀(w:ir) (H:Hp) (s:fw) (e:fv) (s':fw),CX w [] H s (λ_ _ _=>False) e s'->False) :
  GQ q loose XP YP l.row.toRowW d [] (λf vs=>FG f vs):=by
 refine Att.attach_call hn hdf λw mt QN mg mb fa o pm cd doc a vs ns G Y ho hd hcd hmg hobj hints hlen hg=>?_;have KX:=hY w _ Y;obtain⟨fd,hb,hF⟩:=F w mg fa _ KX G.T.g hmg;exact gC (hTb w _ Y) (hTK w) G.T.bmain KX G.T.g G.T.b G.T.builtins G.T.nolimit hg hobj hints (io hlen hn2) hr hF hb (λH hO hS=>hsp w H a ns hlen hO hS) λH e s'=>hCX w H QN e s'
structure Vx (K:eh) (x qual:Str) (st:jr) (f:fg) (fd:ke) (c P:fg):Prop where
 ex:∃(oc:fv) (od:Option fg) (kV doc pm:fv) (an:Option fg) (ct:fv) (osl:Array (Za7)),
  fd=kl x qual (Bs st) (Bf st) (Ae st) .none kV doc pm an (.ref c) ct/\K.lookup f=some ⟨oc,od,.func fd,osl⟩/\m7 K (.ref c) qual=true
 kp:k8 K (.ref f)=true
 hd:∃oc,K.lookup c=some oc/\Ly oc c P
section
variable {P:gv} {w:ir} {K:eh} {mg:Za2} {base:jo}
theorem Vx.ok {x:Str}{st:jr}{f c:fg}{k:Nat}(F:Vx K x qual st f fd c Pt)(S:Aj N ps (Ae st))(len:∀vs H Q E,sp vs H Q E->vs.length=ps.length)
  (hbody:∀(A:ji) (outer:List Env) (s:fw) (H:Hp) (vs:List V) (Q:VK) (E:XK),Bv k (A.deeper (envOfC qual (Ae st) s.heap.objs.size f (.ref c)))->sp vs H Q E ->
   ∃t,PSs (By CX0 P w K mg base N qual (Ae st) f (.ref c) A outer s H E).nox (Bf st) t/\t { nx:=λ_ H'=>Q .non H',rt:=Q } (Hk N vs) H):As P w K mg base CX0 (k+1) f fd ps sp:=by
 obtain⟨oc,od,kV,doc,pm,an,ct,osl,rfl,lk,hcd⟩:=F.ex;refine jR lk hcd S len λA outer s H vs Q E hr hsp=>?_;obtain⟨t,h,q⟩:=hbody A outer s H vs Q E hr hsp;exact⟨t,h.nox,q⟩
theorem Vx.code {x:Str}{st:jr}{f c:fg}(F:Vx K x qual st f fd c Pt)(hK:K.In base):ER base c Pt:=let ⟨oc,e,h⟩:=F.hd;h.at (hK _ _ e)
theorem Vx.binds {x:Str}{st:jr}{f c:fg}(F:Vx K x qual st f fd c Pt)
  (h:∀(kV doc pm:fv) (an:Option fg) (cdv ct:fv) (us:Za3),us.length=ps.length->bindArgs (kl x qual (Bs st) (Bf st) (Ae st) .none kV doc pm an cdv ct) ⟨us,[]⟩=pure (ps.zip us)):Dn K fd ps []:=by
 obtain⟨oc,od,kV,doc,pm,an,ct,osl,rfl,lk,hcd⟩:=F.ex;exact .all (h kV doc pm an (.ref c) ct)
theorem lG {x:Str}{st:jr}{f c:fg}{osl:Array (Za7)}{kV:fv}{oo:Obj}(l:K.lookup f=some ⟨oc,od,.func (kl x qual (Bs st) (Bf st) (Ae st) .none kV doc pm an (.ref c) ct),osl⟩)
  (cc:m7 K (.ref c) qual=true)(k:k8 K (.ref f)=true)(lc:K.lookup c=some oo)(hc:Ly oo c Pt):Vx K x qual st f (kl x qual (Bs st) (Bf st) (Ae st) .none kV doc pm an (.ref c) ct) c Pt:=⟨⟨oc,od,kV,doc,pm,an,ct,osl,rfl,l,cc⟩,k,oo,lc,hc⟩
end
def InC (cl:List (Str×fg))(b:fg):Prop:=∃x,cl.lookup x=some b
open Classical in
noncomputable def Im (H:Hp) (cl:List (Str×fg)):Hp:=λb=>if InC cl b then none else H b
open Classical in
noncomputable def Iu (H:Hp) (h:jo) (cl:List (Str×fg)):Hp:=λb=>if InC cl b then(h.get? b).map λo=>.frz o (.own 0) else H b
theorem Kr {cl:List (Str×fg)}{b:fg}(h:InC cl b):Im H cl b=none:=if_pos h
theorem F2 {cl:List (Str×fg)}{b:fg}(h:¬ InC cl b):Im H cl b=H b:=if_neg h
theorem Nc {cl:List (Str×fg)}{b:fg}{o:Obj}(hb:InC cl b)(e:h.get? b=some o):Iu H h cl b=some (.frz o (.own 0)):=by
 unfold Iu;rw[if_pos hb,e];rfl
theorem C1 {cl:List (Str×fg)}{b:fg}(hb:¬ InC cl b):Iu H h cl b=H b:=if_neg hb
theorem En {cl:List (Str×fg)}{b:fg}(h:H b=none):Im H cl b=none:=by
 by_cases hb:InC cl b
 ·exact Kr hb
 ·rw[F2 hb];exact h
theorem gK {cl:List (Str×fg)}{b:fg}{o:HO}(h:Im H cl b=some o):¬ InC cl b/\H b=some o:=by
 by_cases hb:InC cl b
 ·rw[Kr hb] at h;cases h
 ·rw[F2 hb] at h;exact⟨hb,h⟩
theorem eF {P:gv}{cl:List (Str×fg)}(hk:HOk P w H h)(hc:∀b,InC cl b->∃o u,H b=some (.frz o u)):HOk P w (Im H cl) h:=λb o e=>by
 obtain⟨hb,e⟩:=gK e;refine(hk b o e).stay (λ_ _ _ q=>q) (λc q=>?_) λc xs q=>?_
 ·rw[F2 λz=>?_]
  ·exact q
  ·obtain⟨o,u,e⟩:=hc c z
   rw[q] at e;cases e
 ·rw[F2 λz=>?_]
  ·exact q
  ·obtain⟨o,u,e⟩:=hc c z
   rw[q] at e;cases e
theorem Ye {P:gv}{w:ir}{H:Hp}{h:jo}{cl:List (Str×fg)}(hk:HOk P w H h)(hn:∀b,InC cl b->H b=none):HOk P w (Iu H h cl) h:=λb o e=>by
 by_cases hb:InC cl b
 ·unfold Iu at e
  rw[if_pos hb] at e
  cases g:h.get? b with
  |none=>rw[g] at e;cases e
  |some ob=>
   rw[g] at e;cases e;exact⟨g,_,g⟩
 ·rw[C1 hb] at e
  refine(hk b o e).stay (λ_ _ _ q=>q) (λc q=>?_) λc xs q=>?_
  ·rw[C1 λz=>by rw[hn c z] at q;cases q];exact q
  ·rw[C1 λz=>by rw[hn c z] at q;cases q];exact q
def Yd (P:gv)(w:ir)(K:eh)(mg:Za2)(base:jo)(k:Nat)(H:Hp)(f:fg)(dom:Int->Prop)(p:Int->Bool):Prop:=
 (∃oc od fd sl u,H f=some (.frz ⟨oc,od,.func fd,sl⟩ u))/\∀(A:ji) (outer:List Env) (s:fw) (H1:Hp) (i:Int) (t:Tok),Bv k A->P7 P w K mg base A outer s H1->Ak H H1->dom i ->
  codeAny (model P w) A (.call (.ref f) ⟨[.int i t],[]⟩) (CR CX0 outer P w H1 s (λv H2=>v=.bl (p i)/\Ak H1 H2) E0) s
theorem Yd.same {P:gv}{K:eh}{mg:Za2}{k:Nat}{f:fg}{dom:Int->Prop}{p:Int->Bool}(a:Yd P w K mg base k H f dom p)(s:Ak H H'):Yd P w K mg base k H' f dom p:=
 ⟨let ⟨oc,od,fd,sl,u,e⟩:=a.1;⟨oc,od,fd,sl,u,s _ _ e⟩,λA outer st H1 i t hr e0 sm hd=>a.2 A outer st H1 i t hr e0 (λb o e=>sm _ _ (s _ _ e)) hd⟩
section
variable {X:Cx} {x:Str} {i:Nat} {k:Nat} {a:jc} {ta:TE} {q pos:Pos}
def Aex (P:gv)(w:ir)(K:eh)(mg:Za2)(base:jo)(k i:Nat)(ta:TE):TE:=λG H Q=>∃(f:fg) (dom:Int->Prop) (p:Int->Bool),G[i]?=some (some (.ref f))/\Yd P w K mg base k H f dom p /\
 ta G H λv H1=>Xl G H1 λvs H2=>∃z:Int,v::vs=[.int z]/\Ak H H2/\dom z/\∀H3,Ak H2 H3->Q (.bl (p z)) H3
theorem Afa {P:gv}{K:eh}{mg:Za2}{G:St}{Q:VK}(h:∃(f:fg) (dom:Int->Prop) (p:Int->Bool),G[i]?=some (some (.ref f))/\Yd P w K mg base k H f dom p /\
 ta G H λv H1=>Xl G H1 λvs H2=>∃z:Int,v::vs=[.int z]/\Ak H H2/\dom z/\∀H3,Ak H2 H3->Q (.bl (p z)) H3):Aex P w K mg base k i ta G H Q:=h
theorem Aai (hr:Bv k X.A)(hN:X.N[i]?=some x)(hv:X.env.scope.names.lookup x=some .local)(ha:PE X a ta)(hdb:autoParam ((x==("__debug__":Str))=false) QF)(hcd:autoParam ((x==("__classdict__":Str))=false) QF)
  (he:autoParam (starEach [a] X.env=[(false,eval a X.env)]) QD) :
  PE X (.Call (.Name x q) [a] [] pos) (Aex X.prog X.w X.K X.mg X.base k i ta):=by
 intro pins s G H Q I ⟨f,dom,p,XJ,hA,h⟩;have hn:PE X (.Name x q) (yB i):=vF hN (.inl hv) hdb hcd;refine wpAny_Call_Name_kw (thn (hn pins s G H (λv H1=>v=.ref f/\H1=H) I ⟨_,XJ,rfl,rfl⟩) λu s0 ⟨v0,H0,I0,r0,e0,e1⟩=>?_);subst e0 e1;obtain rfl:u=je f:=r0;have fnAt:∀{s':fw} {H':Hp},Inv X pins G H' s'->Ak H0 H'->PySem.W.FnAt f s'.heap:=λI' sm=>by
  obtain⟨oc,od,fd,sl,u,e⟩:=hA.1;exact⟨oc,od,fd,sl,(I'.hok _ _ (sm _ _ e)).1⟩
 have hp:PA X [a] (Te ta Xl):=jB ha Aa he;refine PySem.W.callWith_F (fnAt I0 (λ_ _ e=>e)) (thn (hp pos pins s0 G H0 (λvs H1=>∃z:Int,vs=[.int z]/\Ak H0 H1/\dom z/\∀H3,Ak H1 H3->Q (.bl (p z)) H3) I0 ?_) λus s1 ⟨vs,H1,I1,r1,z,e1,sm,hz,q1⟩=>⟨fnAt I1 sm,?_⟩) he rfl
 ·exact h
 subst e1;obtain⟨u,rfl,t,rfl⟩:=Fm r1;refine om (qb (hA.2 X.A X.stack s1 H1 z t hr I1.env0 sm hz) λr s' hq=>?_)
 cases r with
 |error e=>exact hq.elim
 |ok fl=>
  cases fl with
  |ret u=>
   obtain⟨v,H',os,bare,un,hok,r,e2,sm2⟩:=hq;subst e2;exact I1.after ⟨_,H',os,bare,un,hok,r,q1 _ sm2⟩
  |next=>exact l5 hq
  |brk=>exact l5 hq
  |cont=>exact l5 hq
end
abbrev oF (qual:Str)(scope:ol)(cl:List (Str×fg))(C f:fg)(cd:fv):Env:=newEnv scope C mainGlobals cl (qual++me ".<locals>.") (some f) cd none builtinsNs
def U0 (P:gv)(w:ir)(K:eh)(mg:Za2)(base:jo)(N:Za6)(qual:Str)(scope:ol)(cl:List (Str×fg))(f:fg)(cd:fv)(A:ji)(outer:List Env)(s:fw)(H:Hp):Cx where
 prog:=P
 w:=w
 K:=K
 mg:=mg
 base:=base
 A:=A.deeper (oF qual scope cl s.heap.objs.size f cd)
 N:=N
 mt:=s
 QP:=H
 env:=oF qual scope cl s.heap.objs.size f cd
 outer:=outer
 stack:=oF qual scope cl s.heap.objs.size f cd::outer
 ex:=[]
 fn:=λ_=>false
 calm:=true
 pn:=[]
 xe:=λ_ _=>False
section
variable {P:gv} {w:ir} {K:eh} {mg:Za2} {base:jo}
theorem vU {QZ:Za6}{QX:ol}{x:Str}{cl:List (Str×fg)}{f:fg}{cd:fv}{G:St}{QT:jo}{tk:Nat}{v0:V}{u0:fv}{k:Nat}
  (L:B4 QZ QX scope x N ix)(hr:Bv (k+1) A)(e0:P7 P w K mg base A outer s H1)
  (hinj:∀y z c,cl.lookup y=some c->cl.lookup z=some c->y=z)(hhas:∀y,(y,o9)∈scope.names->∃c,cl.lookup y=some c)
  (hcs:∀y c,cl.lookup y=some c->∃o v,H1 c=some (.frz o (.own 0))/\o.data=.cell v)
  (hval:∀y j v,(y,j)∈N.tail.zip ix->G[j]?=some (some v)->∃c o u,cl.lookup y=some c/\H1 c=some (.frz o (.own 0))/\o.data=.cell (some u)/\A9 v u)
  (hr0:A9 v0 u0)(hns:QT.Ns s.heap.objs.size λz=>ou z [(x,u0)].reverse)(hk:∀b o,s.heap.get? b=some o->QT.get? b=some o) :
  Inv (U0 P w K mg base N qual scope cl f cd A outer s (Im H1 cl)) [] (some v0::frV G ix) (Im H1 cl) { s with heap:=QT,toks:=tk }:=by
 have noA:∀b:fg,b∉(U0 P w K mg base N qual scope cl f cd A outer s (Im H1 cl)).ex:=λb z=>absurd (show b∈([]:List fg) from z) (by simp);have kf:∀y,scope.names.lookup y≠some .cell:=λy e=>L.nocell _ (k6 e) rfl;refine⟨⟨e0.mod,L.kind,rfl,rfl,fk _,λy z c h1 h2=>hinj y z c h1 h2,λy hy=>?_,λy c z _=>?_,λ_=>(hr.deeper _).hd,yh e0.frames,.inr ⟨rfl,rfl⟩,λb z=>absurd z (noA b),λb o e=>⟨(e0.bs b o e).1,En (e0.bs b o e).2⟩,e0.bsz,λb _ _=>noA b,λb z=>absurd z (noA b),e0.funs,λb hb=>En (e0.frf b hb)⟩,
  rfl,e0.bare,Un.kept hk,⟨_,hns,λi y v h1 h2 h3=>?_⟩,λy c e=>?_,En (e0.hok.fresh (fk _)),λy c e=>Kr ⟨y,e⟩,λp hp=>absurd (show p∈([]:Za1) from hp) (by simp),?_,?_⟩
 ·have hy:scope.names.lookup y=some .cell\/scope.names.lookup y=some .free:=hy
  rcases hy with hy|hy
  ·exact absurd hy (kf y)
  ·exact hhas y (k6 hy)
 ·cases(show false=true from z)
 ·cases i with
  |zero=>
   have h1:N[0]?=some y:=h1;have h2:some (some v0)=some (some v):=h2;cases h2;have hx:N[0]?=some x:=by have:=L.hd;rwa [EB] at this
   rw[h1] at hx;cases hx;exact⟨u0,hr0,.inl ⟨L.loc,by simp⟩⟩
  |succ j=>
   have h1:N[j+1]?=some y:=h1;have h2:(frV G ix)[j]?=some (some v):=h2;unfold frV at h2;rw[gd] at h2
   cases hj:ix[j]? with
   |none=>rw[hj] at h2;cases h2
   |some m=>
    rw[hj] at h2;have h2:(G[m]?).getD none=some v:=fq h2;have h2':G[m]?=some (some v):=by
     cases e:G[m]? with
     |none=>rw[e] at h2;cases h2
     |some z=>rw[e] at h2;exact congrArg some h2
    have ht:N.tail[j]?=some y:=by rw[wd];exact h1
    have hz:(y,m)∈N.tail.zip ix:=gg (i:=j) (by rw[wn];exact⟨ht,hj⟩);obtain⟨c,o,u,e1,e2,e3,r⟩:=hval y m v hz h2';exact⟨u,r,.inr ⟨.inr (L.at_ _ hz).2,c,e1,o,hk _ _ (e0.hok _ _ e2).1,e3⟩⟩
 ·obtain⟨o,v,e1,e2⟩:=hcs y c e
  exact⟨v,o,hk _ _ (e0.hok _ _ e1).1,e2⟩
 ·exact(eF e0.hok λb ⟨y,e⟩=>let ⟨o,v,e1,_⟩:=hcs y b e;⟨o,_,e1⟩).kept hk
 ·show(some v0::frV G ix).length=N.length
  rw[L.len];simp[frV]
theorem sN {QZ:Za6}{QX:ol}{x:Str}{cl:List (Str×fg)}{f c':fg}{G:St}{k:Nat}{body:jc}{ctv:fv}{oc:Obj}{dom:Int->Prop}{p:Int->Bool}
  (L:B4 QZ QX scope x N ix)(hco:scope.isCoroutine=false)(hgen:scope.isGenerator=false)
  (hinj:∀y z c,cl.lookup y=some c->cl.lookup z=some c->y=z)(hhas:∀y,(y,o9)∈scope.names->∃c,cl.lookup y=some c)
  (hcs:∀y c,cl.lookup y=some c->∃o v,H c=some (.frz o (.own 0))/\o.data=.cell v)
  (hval:∀y j v,(y,j)∈N.tail.zip ix->G[j]?=some (some v)->∃c o u,cl.lookup y=some c/\H c=some (.frz o (.own 0))/\o.data=.cell (some u)/\A9 v u)
  (hf:H f=some (.frz (BM "<lambda>" qual params body scope cl pm c' ctv) (.own 0)))(hc':H c'=some (.frz oc (.own 0)))(hoc:Wq oc qual)
  (hbind:∀(n:Int) (t:Tok),bindArgs (GC "<lambda>" qual params body scope cl pm (.ref c') ctv) ⟨[.int n t],[]⟩=pure [(x,.int n t)])
  (hbody:∀(A:ji) (outer:List Env) (s:fw) (H1:Hp),Bv k (A.deeper (oF qual scope cl s.heap.objs.size f (.ref c')))->PE (U0 P w K mg base N qual scope cl f (.ref c') A outer s H1) body te)
  (hte:∀(i:Int) (H1:Hp),dom i->(∀b u,¬ InC cl b->H b=some u->H1 b=some u)->te (some (.int i)::frV G ix) H1 λv H2=>v=.bl (p i)/\Ak H1 H2):Yd P w K mg base (k+1) H f dom p:=by
 refine⟨⟨_,_,_,_,_,hf⟩,λA outer s H1 i t hr e0 sm hd=>?_⟩;have hfo:s.heap.get? f=some (BM "<lambda>" qual params body scope cl pm c' ctv):=(e0.hok _ _ (sm _ _ hf)).1;have hco':s.heap.get? c'=some oc:=(e0.hok _ _ (sm _ _ hc')).1;have lim:s.heap.NoLimit:=e0.mod.nolimit.keeps λb o e=>(e0.bs b o e).1;refine DS hr.depth hfo rfl hco hgen rfl (let ⟨vs,t,e1,e2⟩:=hoc;⟨c',oc,vs,t,rfl,hco',e1,e2⟩) ?_;rw[hbind];refine ft (vz L.nocell (λy hy=>by cases gw.mp hy;exact L.loc) (λQT hns hsb=>⟨lim.fresh _ hsb,?_⟩) L.kind);have XD:∀b o,s.heap.get? b=some o->QT.get? b=some o:=λb o e=>hsb.extBut b o (ig (gh e)) (fh _ e);have inH:∀b,InC cl b->∃o v,H1 b=some (.frz o (.own 0))/\o.data=.cell v:=λb ⟨y,e⟩=>let ⟨o,v,e1,e2⟩:=hcs y b e;⟨o,v,sm _ _ e1,e2⟩;have I':=vU (qual:=qual) (f:=f) (cd:=.ref c') (tk:=s.toks+[(x,nv i t)].length) (v0:=.int i) (u0:=.int i t) L hr e0 hinj hhas (λy c e=>let ⟨o,v,e1,e2⟩:=hcs y c e;⟨o,v,sm _ _ e1,e2⟩)
  (λy j v h1 h2=>let ⟨c,o,u,a1,a2,a3,a4⟩:=hval y j v h1 h2;⟨c,o,u,a1,sm _ _ a2,a3,a4⟩) ⟨t,rfl⟩ hns XD
 refine DR (wpAny_mono (hbody A outer s (Im H1 cl) (hr.deeper _) [] _ _ _ _ I' (hte i _ hd λb u hb e=>by rw[F2 hb];exact sm _ _ e)) (λv s' ⟨v',H2,I2,r,ev,sm2⟩=>?_) λe s' z=>z.elim);have nfr:∀b,InC cl b->b∉frs outer:=λb hb z=>by
  obtain⟨o,v,e1,_⟩:=inH b hb;rw[e0.frf b z] at e1;cases e1
 have cell':∀b o u,InC cl b->H1 b=some (.frz o u)->s'.heap.get? b=some o/\u=.own 0:=λb o u hb e=>by
  obtain⟨o2,v2,e1,_⟩:=inH b hb;rw[e] at e1;cases e1;exact⟨I2.base.keep b o (e0.hok _ _ e).1 (Kr hb) (nfr b hb) (by simp[U0]),rfl⟩
 have same':∀b u,H1 b=some u->(∀ps,u≠.tbl ps)\/True->Iu H2 s'.heap cl b=some u:=λb u e _=>by
  by_cases hb:InC cl b
  ·obtain⟨o,v,e1,_⟩:=inH b hb
   rw[e] at e1;cases e1;exact Nc hb (cell' b o _ hb e).1
  ·rw[C1 hb]
   exact sm2 _ _ (by rw[F2 hb];exact e)
 refine⟨v',Iu H2 s'.heap cl,I2.os,I2.bare,⟨λb o e n hf hx=>I2.base.keep b o e (En n) hf hx,λb o e n hf hx=>I2.base.slot b o e (En n) hf hx,λb o e n hx=>?_,λb o e hx=>I2.base.there b o e hx,λb xs e=>same' _ _ e (.inr trivial),λb o u e=>same' _ _ e (.inr trivial),λb ps e=>⟨#[],by rw[wc];exact same' _ _ e (.inr trivial)⟩⟩,Ye I2.hok λb ⟨y,e⟩=>I2.freeC y b e,r,ev,λb u e=>same' b u e (.inr trivial)⟩;have hb:¬ InC cl b:=λhb=>by
  obtain⟨o,v,e1,_⟩:=inH b hb;rw[n] at e1;cases e1
 rw[C1 hb];exact I2.base.free b o e (En n) hx
end
inductive Rb (P:gv)(w:ir)(K:eh)(mg:Za2)(base:jo)(k:Nat)(vs:List V)(H:Hp)(Q:VK)(E:XK):Prop|mk(lo hi:Int)(f:fg)(p:Int->Bool)(_:vs=[.int lo,.int hi,.ref f])(_:lo<=hi)(_:Yd P w K mg base k H f (λi=>lo<=i/\i<hi) p)(_:∀m H',lo<=m->m<=hi->(lo<m->p (m-1)=false)->(m<hi->p m=true)->Ak H H'->Q (.int m) H')
def fQ (Pt:fg)(lpos:Pos)(qual:Str)(ix:Za4)(te ta tb:TE):TE:=λG H Q=>ta G H λv H1=>tb G H1 λu H2=>∃(lo hi:Int) (p:Int->Bool),v=.int lo/\u=.int hi/\lo<=hi/\Ky H2 Pt lpos qual /\
 (∀(i:Int) (H3:Hp),lo<=i->i<hi->Me Pt H2 H3->te (some (.int i)::frV G ix) H3 λv H4=>v=.bl (p i)/\Ak H3 H4) /\
 ∀(m:Int) (H':Hp),lo<=m->m<=hi->(lo<m->p (m-1)=false)->(m<hi->p m=true)->Me Pt H2 H'->Ky H' Pt lpos qual->Q (.int m) H'
theorem xI {ta tb:TE}{G:St}{Q:VK}(h:ta G H λv H1=>tb G H1 λu H2=>∃(lo hi:Int) (p:Int->Bool),v=.int lo/\u=.int hi/\lo<=hi/\Ky H2 Pt lpos qual /\
 (∀(i:Int) (H3:Hp),lo<=i->i<hi->Me Pt H2 H3->te (some (.int i)::frV G ix) H3 λv H4=>v=.bl (p i)/\Ak H3 H4) /\
 ∀(m:Int) (H':Hp),lo<=m->m<=hi->(lo<m->p (m-1)=false)->(m<hi->p m=true)->Me Pt H2 H'->Ky H' Pt lpos qual->Q (.int m) H'):fQ Pt lpos qual ix te ta tb G H Q:=h
section
variable {X:Cx}
theorem pL {g x:Str}{a b body:jc}{ta tb:TE}{q:Pos}{ff c:fg}{kf k:Nat} 
  (F:As X.prog X.w X.K X.mg X.base CX0 kf ff fd ps (Rb X.prog X.w X.K X.mg X.base (k+1)))(hr:Bv kf X.A)(hg:Gl X g)(hm:X.mg g=some (.ref ff))(hkp:k8 X.K (.ref ff)=true)(hb:Dn X.K fd ps [])
  (ha:PE X a ta)(hbb:PE X b tb)(hfn:X.fn=λ_=>true)
  (C:ER X.base c Pt)(hB:X.base.BuiltinsAt X.mg Pt)(hcode:X.env.code=.ref c)(hq:X.env.qual++"<lambda>"=qual)
  (L:B4 X.N X.env.scope scope x N ix)(hco:scope.isCoroutine=false)(hgen:scope.isGenerator=false)(hdef:defaultsOf params X.env=([],[]))
  (hbind:∀(cl:List (Str×fg)) (pm cv ctv:fv) (n:Int) (t:Tok),bindArgs (GC "<lambda>" qual params body scope cl pm cv ctv) ⟨[.int n t],[]⟩=pure [(x,.int n t)])
  (hbody:∀(cl:List (Str×fg)) (f c':fg) (A:ji) (outer:List Env) (s:fw) (H1:Hp),Bv k (A.deeper (oF qual scope cl s.heap.objs.size f (.ref c')))->PE (U0 X.prog X.w X.K X.mg X.base N qual scope cl f (.ref c') A outer s H1) body te)
  (hdb:autoParam ((g==("__debug__":Str))=false) QF)(he1:autoParam (starEach [a,b,.Lambda params body scope lpos] X.env=(false,eval a X.env)::starEach [b,.Lambda params body scope lpos] X.env) QD)(he2:autoParam (starEach [b,.Lambda params body scope lpos] X.env=(false,eval b X.env)::starEach [.Lambda params body scope lpos] X.env) QD)
  (he3:autoParam (starEach [.Lambda params body scope lpos] X.env=[(false,eval (.Lambda params body scope lpos) X.env)]) QD)(hpl:autoParam ((backTo pos (starEach [b,.Lambda params body scope lpos] X.env)).any (·.1)=false) QD) :
  PE X (.Call (.Name g q) [a,b,.Lambda params body scope lpos] [] pos) (fQ Pt lpos qual ix te ta tb):=by
 k_in;refine wpAny_Call_Name_kw (F3 I hg hm ?_ hdb);refine callWith_K (h₀:=X.base) I.ok.mod.kin hkp ?_ he1 hpl;rw[he1];show wpAny _ _ (spliced ((false,eval a X.env)::backTo pos (starEach [b,.Lambda params body scope lpos] X.env))) _ _ s;refine qj (thE ha I h λu1 s1 v1 H1 I1 r1 q1=>?_);rw[he2];show wpAny _ _ (spliced ((false,eval b X.env)::backTo pos (starEach [.Lambda params body scope lpos] X.env))) _ _ s1;refine qj (thE hbb I1 q1 λu2 s2 v2 H2 I2 r2 ⟨lo,hi,p,e1,e2,hle,hT,hbd,q2⟩=>?_);subst e1 e2;rw[he3];show wpAny _ _ (spliced [(false,eval (.Lambda params body scope lpos) X.env)]) _ _ s2;have hfree:∀y∈scope.names,y.2=.free->∃c,X.env.cells.lookup y.1=some c:=λy hy hf=>I.ok.has y.1 (.inl (L.free y hy hf));have sub:∀y c,(Ds X.env scope.names []).lookup y=some c->X.env.cells.lookup y=some c:=λy c h=>Ii _ _ y c hfree (λ_ _ z=>by simp at z) h;refine qj (Y2 I2 hT C hB hcode (Jg hfree) hdef hq λf c' oc pm ctv s3 H3 I3 hT3 sm hf0 hf hc' hoc=>?_);refine wo ?_;generalize hcl:Ds X.env scope.names []=cl at hf sub;have inj:∀y z c,cl.lookup y=some c->cl.lookup z=some c->y=z:=λy z c h1 h2=>I.ok.inj y z c (sub y c h1) (sub z c h2);have n3:∀b,InC cl b->H3 b=none:=λb ⟨y,e⟩=>I3.freeC y b (sub y b e);have cellAt:∀y c,cl.lookup y=some c->∃o v,s3.heap.get? c=some o/\o.data=.cell v:=λy c e=>let ⟨v,o,e1,e2⟩:=I3.cell y c (sub y c e);⟨o,v,e1,e2⟩;have nLoc:∀b,InC cl b->b≠X.env.locals:=λb ⟨y,e⟩=>I3.cne y b (sub y b e);have hab:∀b,InC cl b->X.mt.heap.objs.size<=b:=λb ⟨y,e⟩=>I3.ok.cab y b (by rw[hfn]) (sub y b e);have nfr:∀b,InC cl b->b∉frs X.stack:=λb hb z=>by
  rcases i9.mp (I3.stkSub b z) with e|hz
  ·exact nLoc b hb e
  ·obtain⟨_,o,ho,_⟩:=I3.ok.funs.mem hz
   exact absurd (gh ho) (sr.mpr (hab b hb))
 have e0:P7 X.prog X.w X.K X.mg X.base X.A X.stack s3 (Iu H3 s3.heap cl):=by
  have z:=I3.env0;refine⟨z.frames,z.mod,λb o e=>⟨(z.bs b o e).1,?_⟩,z.bsz,z.funs,λb hb=>?_,Ye z.hok n3,z.bare⟩
  ·rw[C1 λhb=>?_]
   ·exact(z.bs b o e).2
   ·exact absurd (gh e) (sr.mpr (io I3.ok.bsz (hab b hb)))
  ·rw[C1 λh=>nfr b h hb]
   exact z.frf b hb
 have out:∀b u,H3 b=some u->Iu H3 s3.heap cl b=some u:=λb u e=>by
  rw[C1 λhb=>by rw[n3 b hb] at e;cases e];exact e
 have asks:Yd X.prog X.w X.K X.mg X.base (k+1) (Iu H3 s3.heap cl) f (λi=>lo<=i/\i<hi) p:=by
  refine sN (G:=G) (te:=te) L hco hgen inj (λy hy=>?_) (λy c e=>?_) (λy j v hz hj=>?_) (out _ _ hf) (out _ _ hc') hoc (hbind _ _ _ _) (λA outer s H1 hr=>hbody _ _ _ A outer s H1 hr) λi H4 hi k4=>?_
  ·rw[<-hcl];exact jw.mp (Ev _ _ y hy)
  ·obtain⟨o,v,e1,e2⟩:=cellAt y c e
   exact⟨o,v,Nc ⟨y,e⟩ e1,e2⟩
  ·obtain⟨b1,b2⟩:=L.at_ _ hz
   have hm:=k6 b2;have hcell:=L.free _ hm rfl;obtain⟨m',hn',hl'⟩:=I3.loc;obtain⟨u,r,lk⟩:=hl' j y v b1 hj (.inr (.inl hcell));rcases lk with lk|⟨_,c2,e,o,z1,z2⟩
   ·rw[show X.env.kindOf y=some .cell from hcell] at lk
    cases lk.1
   ·obtain⟨c3,e'⟩:=jw.mp (Ev (env:=X.env) scope.names [] y hm)
    rw[hcl] at e';have e2:=sub y c3 e';rw[e] at e2;cases e2;exact⟨c2,o,u,e',Nc ⟨y,e'⟩ z1,z2,r⟩
  ·refine hbd i H4 hi.1 hi.2 λb u hb e=>?_
   have e3:=sm b u hb e;exact k4 b u (λhc=>by rw[n3 b hc] at e3;cases e3) (out b u e3)
 refine⟨I3.kIn,?_⟩;show wpAny _ _ (call (.ref ff) [u1,u2,.ref f]) _ _ s3;have rv:Av [V.int lo,V.int hi,V.ref f] [u1,u2,.ref f]:=.cons r1 (.cons r2 (.cons rfl .nil));have hl:([u1,u2,je f]++[]).length=ps.length:=by
  have:=F.len [.int lo,.int hi,.ref f] (Iu H3 s3.heap cl) (λ_ _=>True) E0 ⟨lo,hi,f,p,rfl,hle,asks,λ_ _ _ _ _ _ _=>trivial⟩;exact this
 refine om (qb (F.run X.A X.stack s3 (Iu H3 s3.heap cl) ⟨[u1,u2,.ref f],[]⟩ ([u1,u2,.ref f]++[]) [.int lo,.int hi,.ref f] (λv H'=>∃m,v=.int m/\lo<=m/\m<=hi/\(lo<m->p (m-1)=false)/\(m<hi->p m=true)/\Ak (Iu H3 s3.heap cl) H') E0 hr e0 (hb s3 _ I3.kIn hl) (by simpa using rv)
  ⟨lo,hi,f,p,rfl,hle,asks,λm H' a1 a2 a3 a4 a5=>⟨m,rfl,a1,a2,a3,a4,a5⟩⟩) λr s' hq=>?_)
 cases r with
 |error e=>exact hq.elim
 |ok fl=>
  cases fl with
  |next=>exact l5 hq
  |brk=>exact l5 hq
  |cont=>exact l5 hq
  |ret u=>
   obtain⟨v,H4,os,bare,un,hok,rr,m,ev,a1,a2,a3,a4,sm4⟩:=hq;subst ev;have c4:∀b,InC cl b->∃o,s3.heap.get? b=some o/\H4 b=some (.frz o (.own 0)):=λb ⟨y,e⟩=>by
    obtain⟨o,v,e1,_⟩:=cellAt y b e;exact⟨o,e1,sm4 _ _ (Nc ⟨y,e⟩ e1)⟩
   have sm5:∀b u,H3 b=some u->Im H4 cl b=some u:=λb u e=>by
    rw[F2 λhb=>by rw[n3 b hb] at e;cases e];exact sm4 _ _ (out _ _ e)
   have un2:Un (frs X.stack) [] H3 (Im H4 cl) s3.heap s'.heap:=by
    refine⟨λb o e n hf hx=>?_,λb o e n hf hx=>?_,λb o e n hx=>?_,λb o e hx=>un.there b o e hx,λb xs e=>sm5 _ _ e,λb o u e=>sm5 _ _ e,λb ps e=>⟨#[],by rw[wc];exact sm5 _ _ e⟩⟩
    ·by_cases hb:InC cl b
     ·obtain⟨o2,z1,z2⟩:=c4 b hb
      rw[e] at z1;cases z1;exact(hok _ _ z2).1
     ·exact un.keep b o e (by rw[C1 hb];exact n) hf hx
    ·have hb:¬ InC cl b:=λhb=>nfr b hb hf
     exact un.slot b o e (by rw[C1 hb];exact n) hf hx
    ·by_cases hb:InC cl b
     ·exact Kr hb
     ·exact En (un.free b o e (by rw[C1 hb];exact n) hx)
   have hok2:HOk X.prog X.w (Im H4 cl) s'.heap:=eF hok λb hb=>let ⟨o,_,z⟩:=c4 b hb;⟨o,_,z⟩;refine I3.after ⟨_,Im H4 cl,os,bare,un2,hok2,rr,q2 m _ a1 a2 a3 a4 (λb u hb e=>sm5 _ _ (sm b u hb e)) ?_⟩;obtain⟨pps,t1,t2,t3⟩:=hT3;exact⟨pps,sm5 _ _ t1,t2,t3.imp id λ⟨c2,oc2,z1,z2,z3⟩=>⟨c2,oc2,z1,sm5 _ _ z2,z3⟩⟩
theorem Abx {g x:Str}{a b body:jc}{ta tb:TE}{q:Pos}{c:fg}{kf k:Nat} 
  (F:Cal X.prog X.w X.K X.mg X.base g kf ps (Rb X.prog X.w X.K X.mg X.base (k+1)))(hr:Bv kf X.A)(ha:PE X a ta)(hbb:PE X b tb)(C:ER X.base c Pt)(hB:X.base.BuiltinsAt X.mg Pt)(hcode:X.env.code=.ref c)(hq:X.env.qual++"<lambda>"=qual)
  (L:B4 X.N X.env.scope scope x N ix)(hbody:∀(cl:List (Str×fg)) (f c':fg) (A:ji) (outer:List Env) (s:fw) (H1:Hp),Bv k (A.deeper (oF qual scope cl s.heap.objs.size f (.ref c')))->PE (U0 X.prog X.w X.K X.mg X.base N qual scope cl f (.ref c') A outer s H1) body te)
  (hfn:autoParam (X.fn=λ_=>true) QD)(hg:autoParam (Gl X g) QD)(hco:autoParam (scope.isCoroutine=false) QD)(hgen:autoParam (scope.isGenerator=false) QD)(hdef:autoParam (defaultsOf params X.env=([],[])) QD)
  (hbind:∀(cl:List (Str×fg)) (pm cv ctv:fv) (n:Int) (t:Tok),bindArgs (GC "<lambda>" qual params body scope cl pm cv ctv) ⟨[.int n t],[]⟩=pure [(x,.int n t)]:=by intros;rfl)
  (hdb:autoParam ((g==("__debug__":Str))=false) QF)(he1:autoParam (starEach [a,b,.Lambda params body scope lpos] X.env=(false,eval a X.env)::starEach [b,.Lambda params body scope lpos] X.env) QD)(he2:autoParam (starEach [b,.Lambda params body scope lpos] X.env=(false,eval b X.env)::starEach [.Lambda params body scope lpos] X.env) QD)
  (he3:autoParam (starEach [.Lambda params body scope lpos] X.env=[(false,eval (.Lambda params body scope lpos) X.env)]) QD)(hpl:autoParam ((backTo pos (starEach [b,.Lambda params body scope lpos] X.env)).any (·.1)=false) QD) :
  PE X (.Call (.Name g q) [a,b,.Lambda params body scope lpos] [] pos) (fQ Pt lpos qual ix te ta tb):=by
 obtain⟨f,fd,F,bb,hm,hk⟩:=F.ex;exact pL F hr hg hm hk bb ha hbb hfn C hB hcode hq L hco hgen hdef hbind hbody hdb he1 he2 he3 hpl
end
def ltV (x y:fv):Bool:=decide (numOf x<numOf y)
def ltJ (x y:Int):Bool:=decide (x<y)
section
variable {prog:gv} {w:ir} {A:ji} {E:Za0} {s:fw}
theorem Sh {a:fg}{n:Nat}{R:Fin->fw->Prop}(ho:s.heap.get? a=some (seqObj "list" vs.toArray n))(hi:nu vs ns)(hz:vs.length<=sizeLine)
  (h:∀out:Array fv,out.toList=Ao ltV vs->R (.done (.ret .none)) { s with heap:=sortedHeap s.heap a vs out }) :
  wpAny (model prog w) A (qu.«list.sort» ⟨[.ref a],[]⟩) R E s:=by
 rw[list_sort_plain];have ha:a<s.heap.objs.size:=gh ho;refine wpAny_bind (GB ho rfl ?_);refine wpAny_bind (listUpdate_at ho rfl ?_ (by simpa using hz) (by simp));obtain⟨e1,ho1⟩:∃e1,(s.heap.update a (lj λ_=>#[])).get? a=some (seqObj "list" #[] e1):=⟨_,yt ho (λ_=>#[])⟩;refine wpAny_bind (seqEpoch_at ho1 rfl ?_);refine wpAny_bind (EG ?_);refine wpAny_bind (AI ?_);refine wpAny_holding ?_;have ho6:(((s.heap.update a (lj λ_=>#[])).push (seqObj "tuple" vs.toArray 0)).push (seqObj "list" #[] 0)).get? a=some (seqObj "list" #[] e1):=by
  rw[z4 _ _ _ (by rw[EI,xj];exact ig (AD ha)),z4 _ _ _ (by rw[xj];exact ig ha)];exact ho1
 show wpAny (model prog w) A _ R E { s with heap:=((s.heap.update a (lj λ_=>#[])).push (seqObj "tuple" vs.toArray 0)).push (seqObj "list" #[] 0) };dsimp only;have hsz:vs.toArray.size=vs.length:=by simp
 have ez:(vs.toArray.zip vs.toArray).toList=vs.map λv=>(v,v):=by
  rw[Array.toList_zip];generalize vs=l
  induction l with
  |nil=>rfl
  |cons x l ih=>exact congrArg _ ih
 have fin:∀st':j0,(arrOf st').toList=Ao ltK (vs.map λv=>(v,v))->R (.done (.ret .none)) { s with heap:=sortedHeap s.heap a vs ((arrOf st').map (·.2)) }:=λst' e=>by
  refine h _ ?_;rw[GM,e,Lr (lt:=ltV) (f:=λv=>((v,v):ic)) λ_ _=>rfl,j1];exact JZ _
 have szo:∀st':j0,(arrOf st').toList=Ao ltK (vs.map λv=>(v,v))->((arrOf st').map (·.2)).size<=sizeLine+1:=λst' e=>by
  rw[Array.size_map,<-gj,e,Ct,fb];lia
 by_cases h2:vs.toArray.size<2
 ·rw[if_pos h2,if_pos h2]
  refine wpAny_bind (ft ?_);rw[GF];refine wpAny_bind (ft ?_);dsimp only;have e0:(arrOf (vw general' (vs.toArray.zip vs.toArray) #[] 7 none)).toList=Ao ltK (vs.map λv=>(v,v)):=by
   show(vs.toArray.zip vs.toArray).toList=_;rw[ez];refine(Ir ?_).symm;have hl:(vs.map λv=>((v,v):ic)).length<2:=by rw[fb];lia
   exact Yj hl
  refine wpAny_bind (seqEpoch_at ho6 rfl ?_);refine wpAny_bind (listUpdate_at ho6 rfl ?_ (hsz2:=szo _ e0));simp only[bne_self_eq_false,mj,if_false];exact ft (fin _ e0)
 ·rw[if_neg h2,if_neg h2]
  rw[ksk_kind (keys:=vs.toArray) (kz:=ns) (by simpa using hi) (by lia)];refine wpAny_bind (ft ?_);refine wpAny_bind (wpAny_mono (Mg (P:=λx=>∃n t,x.1=nv n t) U9 lJ (l0:=vs.map λv=>(v,v)) (st:=vw oneType' (vs.toArray.zip vs.toArray) #[] 7 none)
   (Q:=λ_ st'=>failedOf st'=none/\(arrOf st').toList=Ao ltK (vs.map λv=>(v,v))) rfl rfl rfl ez (λx hx=>?_) (by rw[fb];lia) λst' a1 a2=>⟨a1,a2⟩) ?_ λ_ _ e=>e)
  ·obtain⟨v,hvm,rfl⟩:=jl.mp hx
   exact hi.all v hvm
  rintro⟨⟨⟩,st'⟩ s' ⟨rfl,hf,hs⟩;dsimp only;refine wpAny_bind (seqEpoch_at ho6 rfl ?_);refine wpAny_bind (listUpdate_at ho6 rfl ?_ (hsz2:=szo _ hs));rw[hf];simp only[bne_self_eq_false,mj,if_false];exact ft (fin st' hs)
end
theorem pM (h:nu vs ns):nu (Ao ltV vs) (Ao ltJ ns):=by
 have e:Ao ltJ ns=(Ao ltV vs).map numOf:=by
  rw[<-Lr (f:=numOf) (lt:=ltV) (lt':=ltJ) (λ_ _=>rfl),h.nums]
 rw[e];exact Kn _ λv hv=>h.all _ ((Cp (lt:=ltV) vs).mem_iff.mp hv)
section
variable {X:Cx}
def Abh (K:eh):List V->Hp->VK->Prop:=λxs H Q=>∃(a:fg) (ns:List Int),xs=[.ref a]/\SqL K H a (ns.map V.int)/\∀p,H p=none->Q (.ref p) (upd H p (.lst ((Ao ltJ ns).map V.int)))
theorem Nf:Ey X (.builtin "sorted") (Abh X.K):=by
 intro pins s G H xs us Q I r h;obtain⟨p,ns,rfl,hp,q⟩:=h;obtain⟨u,rfl,ru⟩:=Fm r;cases ru;obtain⟨its,rv,pl,hz⟩:=I.list hp;have hI:nu its ns:=Lv rv;have hzL:its.length<=sizeLine:=by rw[hI.length];rw[fb] at hz;exact hz
 refine Calls.call_function_entry kind_sorted NP NQ (args_sorted1 _) ?_;unfold qu.«sorted»;refine wpAny_bind (m:=checkCount "sorted" 1 1 _) (ft ?_);refine wpAny_bind (X7 pl.isList hzL _ _ λh' tk hk hle=>?_);refine wpAny_bind (AI ?_ hzL);have hoL:(h'.push (seqObj "list" its.toArray 0)).get? h'.objs.size=some (seqObj "list" its.toArray 0):=iq _ rfl;refine wpAny_bind (wpAny_holding (vq slot_list_sort ⟨_,hoL,rfl⟩ entry_list_sort (Sh hoL hI hzL λout eo=>⟨_,rfl,?_⟩) (args_list_sort _)));refine ft ⟨_,rfl,?_⟩;obtain⟨e9,hat⟩:=sortedHeap_at (out:=out) hoL;have hfin:∀b ob,s.heap.get? b=some ob->(sortedHeap (h'.push (seqObj "list" its.toArray 0)) h'.objs.size its out).get? b=some ob:=λb ob e=>by
  have e':=hk b ob e;rw[sortedHeap_old (ig (gh e')) (by rw[EI];exact AD (gh e'))];exact fh _ e'
 have hIo:nu out.toList (Ao ltJ ns):=by rw[eo];exact pM hI
 refine⟨.ref h'.objs.size,upd H h'.objs.size (.lst ((Ao ltJ ns).map V.int)),I.laid hfin hle ⟨?_,out.toList,e9,Lj hIo,?_⟩,rfl,q _ (I.hok.fresh hle)⟩
 ·rw[fb,Ct];rw[fb] at hz;exact hz
 ·exact hat
end
end L2
end
section
namespace HD
open PySem PySem.W PySem.Calls PyProof.Rows
def Ho (tb:String->Option qu)(p:gv)(w:ir)(m:Nat)(ann:Za7):Nat->uy->Thread->Option uy
 |0,_,_=>none
 |n+1,s,t=>match through t with
  |true=>some s
  |false=>match stepOk m ann t with
   |false=>none
   |true=>match stepT (denote tb) p w s t with
    |some (s',t')=>Ho tb p w m ann n s' t'
    |none=>none
theorem Vl {tb:String->Option qu}{p:gv}{w:ir}{m:Nat}{ann:Za7}:∀{n:Nat} {s s':uy} {t:Thread},Ho tb p w m ann n s t=some s'->topRun tb p w m ann n s.abs t=some s'.abs
 |0,_,_,_,h=>by cases h
 |n+1,s,s',t,h=>by
  unfold Ho at h;unfold topRun
  cases he:through t with
  |true=>rw[he] at h;cases h;rfl
  |false=>
   rw[he] at h
   cases hk:stepOk m ann t with
   |false=>rw[hk] at h;cases h
   |true=>
    rw[hk] at h
    cases hs:stepT (denote tb) p w s t with
    |none=>rw[hs] at h;cases h
    |some r=>obtain⟨QR,t₂⟩:=r;rw[hs] at h;rw[stepT_spec hs];exact Vl h
def uK:List Obj->Nat->BT->BT
 |[],_,t=>t
 |o::l,n,t=>uK l (n+1) (t.ins n o)
noncomputable def S8 (P:CS):BT:=uK (o7 P).objs.toList 0 .nil
def bootSize:Nat:=11
noncomputable def bootT (w:ir) (os:OsState):uy:=⟨S8 w.params,bootSize,(o7 w.params).life,#[],AW,CJ,os⟩
def iP {α:Type}(Yf:fw->α)(h0:jo)(p q:gv)(loose:Za6)(s:fw):=
 (staticsOk (importedModules p.main.body) h0 s.heap&&namesBound p s.heap&&gensDone s&&laidKept h0 s.heap,
  openSeen q loose (importedModules p.main.body) (λ_=>true) true s,Yf s)
def bothT {α:Type}(Yf:fw->α)(s0:uy)(h0:jo)(m:Nat)(p q:gv)(loose:Za6)(M:Nat)(w:ir):=
 (Ho treeTable p w m (some (.ref 6)) M s0 (topStub p)).map λs=>iP Yf h0 p q loose s.abs
theorem tW (P:CS):absHeap (S8 P) bootSize (o7 P).life=o7 P:=by kernel_rfl
theorem oR (P:CS):((o7 P).isNs mainGlobals&&(#[]:Array HU).size==0,(o7 P).objs.size,(o7 P).nsMap mainGlobals "__annotations__")=(true,bootSize,some (.ref 6)):=by kernel_rfl
theorem xM {p q:gv}{loose:Za6}{α:Type}{Yf:fw->α}{Ya:ir->α}{M N:Nat}(e:opening p=plainProg p.main.scope.names)(f:∀s,fenceModules? p s=some s)(hN:GS 600 N=true)(le:GS M N=true)
  (Ty:∀w:ir,(λos=>bothT Yf (bootT w os) (o7 w.params) bootSize p q loose M w)=λ_=>some (true,openGood q loose,Ya w)) :
  LeftO p q loose (λ_=>true) Yf Ya N:=λw=>by
 obtain⟨⟨h,gs,d,k,os⟩,e1,e'⟩:=sy.mp (boot_open e hN f w);obtain⟨rfl,rfl,rfl,rfl⟩:h=o7 w.params/\gs=ES []/\d=AW/\k=CJ:=by simpa using e'
 have b:=congrFun (Ty w) os;unfold bothT at b;obtain⟨s,r,l⟩:=sy.mp b;have r2:=Vl r;have r3:=topRun_mono (N-M) _ _ _ _ r2;rw[show M+(N-M)=N by have:=EY le;lia] at r3;have eb:(bootT w os).abs=⟨o7 w.params,ES [],AW,CJ,os⟩:=by
  show Shared.mk (absHeap (S8 w.params) bootSize (o7 w.params).life) (ES []) AW CJ os=_;rw[tW]
 rw[eb] at r3;obtain⟨z1,z2,z3⟩:_/\_/\_:=by simpa only[GR] using oR w.params
 obtain⟨l1,l2,l3⟩:_/\_/\_:=by simpa only[iP,GR] using l
 have t:topFrom treeTable p w N ⟨o7 w.params,ES [],AW,CJ,os⟩=some s.abs:=by
  unfold topFrom;dsimp only;rw[z1,z2,z3,r3];show(match staticsOk (importedModules p.main.body) (o7 w.params) s.abs.heap&&namesBound p s.abs.heap&&gensDone s.abs&&laidKept (o7 w.params) s.abs.heap with|true=>_|false=>_)=_;rw[l1]
 unfold openEnds;rw[e1];show(topFrom treeTable p w N _).map _=_;rw[t];exact congrArg some (EX l2 l3)
def recOf:jr->MO
 |.FunctionDef n a b _ _ _ sc _ _ pos=>⟨n,a,b,sc,pos⟩
 |_=>⟨"",default,[],default,default⟩
end HD
lay_quick HD.bothT
end
section
namespace L2
open PySem PySem.Spec PyProof.Rows
variable {C Pt dx i1 i2 it l1 l2 z:fg} {params:o8} {A:ji} {CX:CXT} {op:yx} {X:Cx} {env:Env} {tg:jc} {fd:ke} {base h h' h1:jo} {H H' H1 H2:Hp} {J:It} {pins:Za1} {fp:List fg} {outer:List Env} {es:List jc} {kz ns:List Int} {l0:List ic} {cs ix:Za4} {N ps:Za6} {xs ys:List V} {us vs:Za3} {M:yl} {t':Nat} {oT:Obj} {an od:Option fg} {cpos lpos pos:Pos} {scope:ol} {pl:Sem Bool} {s s2:fw} {sp:Sp} {qual:Str} {te to:TE} {wi:TI} {y:V} {cdv ct doc oc pm:fv} {w:ir}
theorem Ot:Ac6 X (yI X.K):=by
 intro pins s G H x y v u Q I rx ry h;obtain⟨p,xs,i,z,rfl,rfl,hq,he,q⟩:=h;cases rx;obtain⟨t,rfl⟩:=ry;obtain⟨its,r,pl,hz⟩:=I.list hq;obtain⟨j,h1,h2,h3,h4,h5⟩:=W7 he;obtain⟨w,ew,rw'⟩:=r.get h2;have hl:=r.length;have hn:=Jt;have fin:EP X pins G Q w s:=⟨z,H,I,rw',q⟩
 by_cases h0:0<=i
 ·have hj:i.toNat=j:=by
   rw[CV h0 h5] at h1;exact fq h1
  exact wpAny_getItem_list pl.isList h0 (by lia) (by rw[hj];simpa using ew) fin
 ·have hj:(i+(its.toArray.size:Int)).toNat=j:=by
   rw[BL (by lia) h4] at h1;rw[gn,<-hl];exact fq h1
  exact FZ pl.isList (by lia) (by rw[gn]<;>lia) (by lia) (by rw[hj];simpa using ew) fin
section
variable {to ti te:TE} {tget:V->V->Hp->VK->Prop} {tip:TIp} {tset:Zq} {D:Iw} {G:St} {H:Hp}
theorem Abo (h:to G H λo H1=>ti G H1 λi H2=>tget o i H2 λx H3=>te G H3 λy H4=>tip x y H4 λz H5=>tset o i z H5 λH6=>D.nx G H6):zS to ti te tget tip tset D G H:=h
end
end L2
end
section
namespace TW
open PySem PySem.StrLaws PySem.Builtin.Str
def Gd:Nat->Za4->Prop
 |h,[]=>h=0
 |h,n::r=>0<h/\Gd (h+n-1) r
theorem Gd.at:∀{ns:Za4} {h:Nat},Gd h ns->∀i,i<ns.length->i<h+(ns.take i).sum
 |[],h,g,i,hi=>by cases hi
 |n::r,h,⟨h1,h2⟩,0,hi=>by simpa using h1
 |n::r,h,⟨h1,h2⟩,i+1,hi=>by
  have:=h2.at i (by simpa using hi);rw[og,qp];lia
theorem Aab:∀{ns:Za4} {h:Nat},ns.length=h+ns.sum->(∀i,i<ns.length->i<h+(ns.take i).sum)->Gd h ns
 |[],h,e,_=>by
  show h=0;simp at e;lia
 |n::r,h,e,g=>by
  have g0:=g 0 (by simp);rw[gu,qp] at e;have g0:0<h:=by simpa using g0
  refine⟨g0,Aab (by lia) λi hi=>?_⟩;have:=g (i+1) (by simpa using hi);rw[og,qp] at this;lia
def pre (ns:Za4)(g:Nat):Nat:=(ns.take g).sum
theorem T2 {ns:Za4}{g:Nat}(h:g<ns.length):pre ns (g+1)=pre ns g+ns[g]:=by
 unfold pre;rw[jn,fc h,rz];simp
theorem tK (ns:Za4){a b:Nat}(h:a<=b):pre ns a<=pre ns b:=by
 unfold pre;have e:ns.take a=(ns.take b).take a:=by rw[CG,jm h]
 rw[e];generalize ns.take b=l;have:=congrArg NL (jg a l);rw[rz] at this;lia
theorem Wo (ns:Za4)(a:Nat):pre ns a<=ns.sum:=by
 have:=congrArg NL (jg a ns);rw[rz] at this;unfold pre;lia
def G5 (a b:Nat):Za4:=(gp (a-b)).map λi=>a-i
theorem Ny (a b:Nat):(G5 a b).length=a-b:=by unfold G5;rw[fb,gr]
theorem Yz {a b x:Nat}(h:x∈G5 a b):b<x/\x<=a:=by
 obtain⟨i,hi,rfl⟩:=jl.mp h;have:=yk.mp (kh.mp hi);exact⟨yk.mpr (by rw[uf];exact this),xz _ _⟩
def lvS (ns:Za4)(s:Za4×Za4):Za4×Za4:=
 match s.2 with
 |[]=>s
 |g::w=>(s.1++[ns.getD g 0],(G5 (pre ns (g+1)) (pre ns g)).reverse++w)
def lvN (ns:Za4):Nat->Za4×Za4
 |0=>([],[0])
 |m+1=>lvS ns (lvN ns m)
theorem kB {ds:Za4}(h:Dok ds):∀k,k<=ds.length->opn ds k<=k
 |0,_=>fk _
 |k+1,hk=>by
  have:=h k (by lia);have:=kB h k (by lia);show dAt ds k+1<=k+1;lia
theorem gI {ds:Za4}(h:Dok ds){k:Nat}(hk:k<ds.length):dAt ds k<=k:=io (h k hk) (kB h k (by lia))
theorem Xj {ds:Za4}(h:Dok ds):∀(k p v:Nat),k<=ds.length->(way ds k)[p+1]?=some (v:Int)->∀j,v<j->j<k->p<dAt ds j
 |0,p,v,_,e,j,_,hj=>by cases hj
 |k+1,p,v,hk,e,j,h1,h2=>by
  have e:((way ds k).take (dAt ds k+1)++[(k:Int)])[p+1]?=some (v:Int):=e;have hl:=Cs h k (by lia);have hd:=h k (by lia);have hl2:((way ds k).take (dAt ds k+1)).length=dAt ds k+1:=by rw[f7];lia
  by_cases hp:p+1<dAt ds k+1
  ·rw[ie (by lia),jf hp] at e
   by_cases hjk:j=k
   ·subst hjk;lia
   ·exact Xj h k p v (by lia) e j h1 (by lia)
  ·rw[f8 (by lia),hl2] at e
   have e0:p+1-(dAt ds k+1)=0:=by
    have:=(ge.mp e).1;simp only[gu,jq] at this;lia
   rw[e0] at e;have e:=fq e;lia
theorem Wg {ds:Za4}(h:Dok ds){k:Nat}(hk:k<ds.length):eld ds k<k:=by
 by_cases e:eld ds k=-1
 ·lia
 ·obtain⟨v,e1,e2,_⟩:=E2 h hk e
  lia
theorem uR {ds:Za4}(h:Dok ds){k d:Nat}(hk:k<ds.length)(hd:dAt ds k=d+1):∃v:Nat,eld ds k=(v:Int)/\v<k/\dAt ds v=d/\∀j,v<j->j<k->d<dAt ds j:=by
 have e:=Hy h hk;rw[hd] at e;obtain⟨v,e1,e2,e3⟩:=Mu h k d _ (by lia) e;refine⟨v,e1,e2,e3,Xj h k d v (by lia) (by rw[e,e1])⟩
def Ca (ds:Za4)(k:Nat)(v:Int):Za4:=(gp k).filter λj=>decide (eld ds j=v)
theorem Tj {ds:Za4}{k:Nat}{v:Int}(h:eld ds k=v):Ca ds (k+1) v=Ca ds k v++[k]:=by
 unfold Ca;rw[kr,l9,mw (by simpa using h)];rfl
theorem W8 {ds:Za4}{k:Nat}{v:Int}(h:eld ds k≠v):Ca ds (k+1) v=Ca ds k v:=by
 unfold Ca;rw[kr,l9,lz (by simpa using h)];simp
theorem Ob {ds:Za4}{k j:Nat}{v:Int}:j∈Ca ds k v↔j<k/\eld ds j=v:=by
 unfold Ca;rw[yc,kh];simp
theorem mO {ds:Za4}(h:Dok ds){k v:Nat}(hk:k<=ds.length)(hv:k<=v+1):Ca ds k v=[]:=by
 apply um.mpr;intro j hj;obtain⟨h1,h2⟩:=Ob.mp hj;have:=Wg h (k:=j) (by lia);lia
def lev (ds:Za4)(k d:Nat):Za4:=(gp k).filter λj=>decide (dAt ds j=d)
theorem N4 {ds:Za4}{k d:Nat}(h:dAt ds k=d):lev ds (k+1) d=lev ds k d++[k]:=by
 unfold lev;rw[kr,l9,mw (by simpa using h)];rfl
theorem Kc {ds:Za4}{k d:Nat}(h:dAt ds k≠d):lev ds (k+1) d=lev ds k d:=by
 unfold lev;rw[kr,l9,lz (by simpa using h)];simp
theorem E6 {ds:Za4}{k j d:Nat}:j∈lev ds k d↔j<k/\dAt ds j=d:=by
 unfold lev;rw[yc,kh];simp
theorem Z2 {ds:Za4}{v d:Nat}:∀ k,v<=k->(∀ j,v<=j->j<k->dAt ds j≠d)->lev ds k d=lev ds v d
  | 0, hv, _ => by obtain rfl : v = 0 := by lia
                   rfl
  | k + 1, hv, hj => by
    by_cases e : v = k + 1
    · rw [e]
    · rw [Kc (hj k (by lia) (by lia))]
      exact Z2 k (by lia) λj h1 h2 => hj j h1 (by lia)
theorem tE {ds:Za4}(h:Dok ds){k d:Nat}(hk:k<ds.length)(hd:dAt ds k=d+1):∃v:Nat,eld ds k=(v:Int)/\lev ds k d=lev ds v d++[v]/\v<k:=by
 obtain⟨v,e1,e2,e3,e4⟩:=uR h hk hd;refine⟨v,e1,?_,e2⟩;rw[Z2 (v:=v+1) k (by lia) (λj h1 h2=>by have:=e4 j (by lia) h2;lia),N4 e3]
theorem X5 {ds:Za4}(h:Dok ds):∀k,k<=ds.length->lev ds k 0=Ca ds k (-1)
 |0,_=>rfl
 |k+1,hk=>by
  have ih:=X5 h k (by lia)
  by_cases e:dAt ds k=0
  ·have e2:eld ds k=-1:=by
    have e1:=Hy h (k:=k) (by lia);rw[e,E5 h k (by lia)] at e1;exact(fq e1).symm
   rw[N4 e,Tj e2,ih]
  ·have e2:eld ds k≠-1:=λe1=>e (P9 h (by lia) e1)
   rw[Kc e,W8 e2,ih]
theorem Hn {ds:Za4}{k:Nat}:∀{l:Za4},(∀v∈l,eld ds k≠(v:Int))->(l.map λv:Nat=>Ca ds (k+1) v)=l.map λv:Nat=>Ca ds k v
 |[],_=>rfl
 |v::l,h=>by
  rw[ik,ik,W8 (h v (by simp)),Hn λw hw=>h w (by simp[hw])]
theorem Y9 {ds:Za4}(h:Dok ds)(d:Nat):∀k,k<=ds.length->lev ds k (d+1)=((lev ds k d).map λv:Nat=>Ca ds k v).flatten
 |0,_=>rfl
 |k+1,hk=>by
  have ih:=Y9 h d k (by lia)
  by_cases e1:dAt ds k=d+1
  ·obtain⟨v,v1,v2,v3⟩:=tE h (k:=k) (by lia) e1
   rw[N4 e1,ih,Kc (by lia),v2,f9,f9,kj,kj];rw[Hn (l:=lev ds v d) λw hw e=>by
    have:=E6.mp hw;lia]
   show _++(Ca ds k v++[])++[k]=_++(Ca ds (k+1) v++[]);rw[Tj v1];simp
  ·by_cases e2:dAt ds k=d
   ·rw[Kc e1,N4 e2,f9,kj]
    rw[Hn (l:=lev ds k d) λw hw e=>by
     have hw:=E6.mp hw;have e3:eld ds k≠-1:=by lia
     obtain⟨v,v1,v2,v3⟩:=E2 h (k:=k) (by lia) e3;obtain rfl:v=w:=by lia
     lia,<-ih]
    show _=_++(Ca ds (k+1) k++[]);rw[mO h hk (by lia)];simp
   ·rw[Kc e1,Kc e2]
    rw[Hn (l:=lev ds k d) λw hw e=>by
     have hw:=E6.mp hw;have e3:eld ds k≠-1:=by lia
     obtain⟨v,v1,v2,v3⟩:=E2 h (k:=k) (by lia) e3;obtain rfl:v=w:=by lia
     lia,<-ih]
def lvo (ds:Za4)(k D:Nat):Za4:=((gp D).map (lev ds k)).flatten
theorem Eb (ds:Za4)(k D:Nat):lvo ds k (D+1)=lvo ds k D++lev ds k D:=by
 unfold lvo;rw[kr,f9,kj];simp
theorem eK {ds:Za4}(h:Dok ds){k:Nat}(hk:k<=ds.length):∀D,lvo ds k (D+1)=Ca ds k (-1)++((lvo ds k D).map λv:Nat=>Ca ds k v).flatten
 |0=>by
  rw[Eb];show[]++lev ds k 0=_++[].flatten;rw[X5 h k hk];simp
 |D+1=>by
  have ih:=eK h hk D;have e:=Eb ds k D;rw[e,f9,kj,<-fm,<-ih,<-Y9 h D k hk];exact Eb ds k (D+1)
theorem rZ {ds:Za4}(h:Dok ds){k D:Nat}(hk:k<=ds.length)(hD:k<=D):lev ds k D=[]:=by
 apply um.mpr;intro j hj;obtain⟨h1,h2⟩:=E6.mp hj;have:=gI h (k:=j) (by lia);lia
theorem Y6 {ds:Za4}(h:Dok ds){k:Nat}(hk:k<=ds.length):∀ D,k<=D->lvo ds k D=lvo ds k k
  | 0, hD => by obtain rfl : k = 0 := by lia
                rfl
  | D + 1, hD => by
    by_cases e : k = D + 1
    · rw [<- e]
    · rw [Eb, rZ h hk (by lia), ip]
      exact Y6 h hk D (by lia)
theorem vZ {ds:Za4}(h:Dok ds){k:Nat}(hk:k<=ds.length):lvo ds k k=Ca ds k (-1)++((lvo ds k k).map λv:Nat=>Ca ds k v).flatten:=by
 rw[<-eK h hk k];exact(Y6 h hk (k+1) (by lia)).symm
theorem vC {ds:Za4}{k:Nat}:∀D,D<=dAt ds k->lvo ds (k+1) D=lvo ds k D
 |0,_=>rfl
 |D+1,hD=>by rw[Eb,Eb,vC D (by lia),Kc (by lia)]
def ltZ (x y:Int×Int):Bool:=decide (x.1<y.1)
theorem Og (ds:Za4)(k d:Nat):∀e,lvo ds k (d+e)=lvo ds k d++((gp e).map λi=>lev ds k (d+i)).flatten
 |0=>by simp
 |e+1=>by
  rw[show d+(e+1)=d+e+1 by lia,Eb,Og ds k d e,kr,f9,kj];simp
theorem qY {ds:Za4}{k D:Nat}(hD:dAt ds k<D):∃A B,lvo ds k D=A++B/\lvo ds (k+1) D=A++k::B/\(∀j∈A,dAt ds j<=dAt ds k)/\∀j∈B,dAt ds k<dAt ds j:=by
 obtain⟨e,rfl⟩:∃e,D=dAt ds k+1+e:=⟨D-(dAt ds k+1),by lia⟩;have e2:((gp e).map λi=>lev ds (k+1) (dAt ds k+1+i))=(gp e).map λi=>lev ds k (dAt ds k+1+i):=
  kx λi _=>Kc (by lia)
 refine⟨lvo ds k (dAt ds k+1),((gp e).map λi=>lev ds k (dAt ds k+1+i)).flatten,Og ..,?_,?_,?_⟩
 ·rw[Og,Eb,vC _ (fk _),N4 rfl,e2,Eb,fm,fm,fm]
  rfl
 ·intro j hj
  unfold lvo at hj;obtain⟨l,hl,hjl⟩:=xi.mp hj;obtain⟨d,hd,rfl⟩:=jl.mp hl;have:=kh.mp hd;have:=E6.mp hjl;lia
 ·intro j hj
  obtain⟨l,hl,hjl⟩:=xi.mp hj;obtain⟨i,hd,rfl⟩:=jl.mp hl;have:=E6.mp hjl;lia
theorem Tl {ds:Za4}(h:Dok ds):∀k,k<=ds.length->Ao ltZ ((gp k).map λj:Nat=>((dAt ds j:Int),(j:Int)))=(lvo ds k ds.length).map λj:Nat=>((dAt ds j:Int),(j:Int))
 |0,_=>by
  have:lvo ds 0 ds.length=[]:=by
   apply um.mpr;intro j hj;unfold lvo at hj;obtain⟨l,hl,hjl⟩:=xi.mp hj;obtain⟨d,hd,rfl⟩:=jl.mp hl;have:=E6.mp hjl;lia
  rw[this];rfl
 |k+1,hk=>by
  obtain⟨A,B,e1,e2,e3,e4⟩:=qY (ds:=ds) (k:=k) (D:=ds.length) (by have:=gI h (k:=k) (by lia);lia);rw[kr,f9];show Ao ltZ (_++[((dAt ds k:Int),(k:Int))])=_;rw[Cn,Tl h k (by lia),e1,e2,f9,Dz,f9,ik]
  ·congr 1
   have:=Dg (lt:=ltZ) (xs:=B.map λj:Nat=>((dAt ds j:Int),(j:Int))) (bs:=[((dAt ds k:Int),(k:Int))]) (ys:=[]) (λb hb x hx=>by
    rw[gw.mp hb];obtain⟨j,hj,rfl⟩:=jl.mp hx;have:=e4 j hj;exact decide_eq_true (by show(dAt ds k:Int)<dAt ds j;lia))
   rw[ip] at this;rw[this,Bm];rfl
  ·intro a ha y hy
   rw[gw.mp hy];obtain⟨j,hj,rfl⟩:=jl.mp ha;have:=e3 j hj;exact decide_eq_false (by show ¬(dAt ds k:Int)<dAt ds j;lia)
theorem Lo {ds:Za4}(h:Dok ds):(lvo ds ds.length ds.length).length=ds.length:=by
 have e:=congrArg n6 (Tl h ds.length (fk _));rw[Ct,fb,gr,fb] at e;exact e.symm
theorem kT (ds:Za4)(k:Nat):∀D,(lvo ds k D).Pairwise λa b=>dAt ds a<=dAt ds b
 |0=>vj
 |D+1=>by
  rw[Eb,ph];refine⟨kT ds k D,?_,λa ha b hb=>?_⟩
  ·refine zt (R:=λa b=>True) (λha hb _=>?_) ?_
   ·rw[(E6.mp ha).2,(E6.mp hb).2]
    exact fk _
   ·exact List.pairwise_of_forall λ_ _=>trivial
  ·unfold lvo at ha
   obtain⟨l,hl,hjl⟩:=xi.mp ha;obtain⟨d,hd,rfl⟩:=jl.mp hl;have:=kh.mp hd;rw[(E6.mp hjl).2,(E6.mp hb).2];lia
def gsL (ds:Za4):Za4:=(Ca ds ds.length (-1)).length::(lvo ds ds.length ds.length).map λv:Nat=>(Ca ds ds.length v).length
def gsC (ds:Za4):Za4:=(Ca ds ds.length (-1)).length::(gp ds.length).map λv:Nat=>(Ca ds ds.length v).length
def Ls (ds:Za4):List (Za4):=Ca ds ds.length (-1)::(lvo ds ds.length ds.length).map λv:Nat=>Ca ds ds.length v
theorem Mw (ds:Za4):gsL ds=(Ls ds).map n6:=by
 unfold gsL Ls;rw[ik,j1];rfl
theorem W0 {ds:Za4}(h:Dok ds):(Ls ds).flatten=lvo ds ds.length ds.length:=by
 unfold Ls;rw[iw];exact(vZ h (fk _)).symm
theorem N9:∀(L:List (Za4)) (g:Nat),g<L.length->(L.flatten.drop (pre (L.map n6) g)).take ((L.getD g []).length)=L.getD g []
 |[],g,hg=>by cases hg
 |a::L,0,_=>by
  show(((a::L).flatten).drop 0).take a.length=a;rw[qd,iw,List.take_left' rfl]
 |a::L,g+1,hg=>by
  have ih:=N9 L g (by simpa using hg);have e:pre ((a::L).map n6) (g+1)=a.length+pre (L.map n6) g:=by
   unfold pre;rw[ik,og,qp]
  rw[e,iw,List.drop_append,km (by lia),ju,jb,FM];exact ih
theorem Gb {ds:Za4}(h:Dok ds):(gsL ds).length=ds.length+1/\(gsL ds).sum=ds.length:=by
 constructor
 ·unfold gsL
  rw[gu,fb,Lo h]
 ·rw[Mw,<-FL,W0 h,Lo h]
theorem tY (ns:Za4)(s:Nat):∀m i,pre ns i<=s->s<pre ns (i+m)->∃g,i<=g/\g<i+m/\pre ns g<=s/\s<pre ns (g+1)
 |0,i,h1,h2=>by rw[p6] at h2;lia
 |m+1,i,h1,h2=>by
  by_cases h:s<pre ns (i+1)
  ·exact⟨i,fk _,by lia,h1,h⟩
  ·obtain⟨g,a1,a2,a3,a4⟩:=tY ns s m (i+1) (by lia) (by rw[show i+1+m=i+(m+1) by lia];exact h2)
   exact⟨g,by lia,by lia,a3,a4⟩
theorem uX {ds:Za4}{g:Nat}(hg:g<ds.length)(h:Dok ds):(Ls ds).getD (g+1) []=Ca ds ds.length ((lvo ds ds.length ds.length).getD g 0:Nat):=by
 unfold Ls;rw[FM];unfold jy;rw[gd,fc (by rw[Lo h];exact hg)];rfl
theorem pV {ds:Za4}(h:Dok ds):Gd 1 (gsL ds):=by
 obtain⟨hl,hs⟩:=Gb h;refine Aab (by lia) λi hi=>?_;show i<1+pre (gsL ds) i
 by_cases hc:i<=pre (gsL ds) i
 ·lia
 ·exfalso
  have hs2:pre (gsL ds) (i+(ds.length+1-i))=ds.length:=by
   rw[show i+(ds.length+1-i)=(gsL ds).length by lia];unfold pre;rw[gq (fk _),hs]
  obtain⟨g,g1,g2,g3,g4⟩:=tY (gsL ds) (pre (gsL ds) i) (ds.length+1-i) i (fk _) (by lia);generalize hsd:pre (gsL ds) i=s at *;have hg0:0<g:=by lia
  obtain⟨g',rfl⟩:∃g',g=g'+1:=⟨g-1,by lia⟩;have sl:=N9 (Ls ds) (g'+1) (by rw[<-fb (f:=n6),<-Mw];lia);rw[<-Mw,W0 h,uX (by lia) h] at sl;have hgl:g'+1<(gsL ds).length:=by lia
  have hps:=T2 hgl;have hgv:(gsL ds)[g'+1]=(Ca ds ds.length ((lvo ds ds.length ds.length).getD g' 0:Nat)).length:=by
   have e:(gsL ds)[g'+1]?=some ((Ca ds ds.length ((lvo ds ds.length ds.length).getD g' 0:Nat)).length):=by
    unfold gsL jy;rw[sw,gd,fc (by rw[Lo h];lia)];rfl
   rw[fc hgl] at e;exact fq e
  have hol:=Lo h
  -- the knot at s
  have hso:s<(lvo ds ds.length ds.length).length:=by lia
  have hmem:(lvo ds ds.length ds.length)[s]∈Ca ds ds.length ((lvo ds ds.length ds.length).getD g' 0:Nat):=by
   rw[<-sl];refine List.mem_iff_getElem?.mpr ⟨s-pre (gsL ds) (g'+1),?_⟩;rw[jf (by lia),ka,show pre (gsL ds) (g'+1)+(s-pre (gsL ds) (g'+1))=s by lia];exact fc hso
  obtain⟨m1,m2⟩:=Ob.mp hmem;have hgo:g'<(lvo ds ds.length ds.length).length:=by lia
  have egd:(lvo ds ds.length ds.length).getD g' 0=(lvo ds ds.length ds.length)[g']:=by
   unfold jy;rw[fc hgo];rfl
  rw[egd] at m2;obtain⟨v,v1,v2,v3⟩:=E2 h m1 (by lia);have ev:v=(lvo ds ds.length ds.length)[g']:=by lia
  rw[ev] at v3;have hsg:s<=g':=by lia
  by_cases e:s=g'
  ·subst e
   lia
  ·have:=wm.mp (kT ds ds.length ds.length) s g' hso hgo (by lia)
   lia
theorem jW {ds:Za4}(h:Dok ds){k:Nat}:∀i,k<i->i<=ds.length->(∀j,k<j->j<i->dAt ds k<dAt ds j)->(way ds i)[dAt ds k+1]?=some (k:Int)
 |0,hk,_,_=>by cases hk
 |i+1,hk,hi,hg=>by
  show((way ds i).take (dAt ds i+1)++[(i:Int)])[dAt ds k+1]?=some (k:Int);have hl:=Cs h i (by lia);have hd:=h i (by lia);have hl2:((way ds i).take (dAt ds i+1)).length=dAt ds i+1:=by rw[f7];lia
  by_cases e:i=k
  ·subst e
   rw[f8 (by lia),hl2,ly];rfl
  ·have:=hg i (by lia) (by lia)
   rw[ie (by lia),jf (by lia)];exact jW h i (by lia) (by lia) λj h1 h2=>hg j h1 (by lia)
theorem hZ {ds:Za4}(h:Dok ds){k i j:Nat}(h1:k<i)(h2:i<j)(hj:j<ds.length)(e:eld ds j=k):(k:Int)<=eld ds i:=by
 obtain⟨v,v1,v2,v3⟩:=E2 h hj (by lia);obtain rfl:v=k:=by lia
 have ej:=Hy h hj;rw[v3,e] at ej;have gap:=Xj h j (dAt ds v) v (by lia) ej;have hw:=jW h i h1 (by lia) λx a b=>gap x a (by lia);have hd:=gap i h1 h2;have ei:=Hy h (k:=i) (by lia)
 by_cases e2:dAt ds v+1=dAt ds i
 ·rw[<-e2,hw] at ei
  have:=fq ei;lia
 ·have:=Oq h i (dAt ds v+1) (dAt ds i) _ _ (by lia) (by lia) hw ei
  lia
theorem Tp {p q:Nat->Bool}:∀{l:Za4},(∀a∈l,¬(p a=true/\q a=true))->l.Pairwise (λa b=>¬(q a=true/\p b=true))->l.filter (λa=>p a||q a)=l.filter p++l.filter q
 |[],_,_=>rfl
 |a::l,h1,h2=>by
  rw[sj] at h2;have ih:=Tp (l:=l) (λb hb=>h1 b (by simp[hb])) h2.2;have h0:=h1 a (by simp)
  cases hp:p a with
  |true=>
   have hq:q a=false:=by
    cases hq:q a with
    |true=>exact absurd ⟨hp,hq⟩ h0
    |false=>rfl
   rw[mw (by simp[hp]),mw (by simp[hp]),lz (by simp[hq]),ih];rfl
  |false=>
   cases hq:q a with
   |true=>
    have hn:l.filter p=[]:=tx.mpr λb hb hpb=>h2.1 b hb ⟨hq,hpb⟩;rw[mw (by simp[hq]),lz (by simp[hp]),mw (by simp[hq]),ih,hn];rfl
   |false=>
    rw[lz (by simp[hp,hq]),lz (by simp[hp]),lz (by simp[hq]),ih]
def pend (ds:Za4)(k:Nat):Za4:=(gp ds.length).filter λj=>decide (k<=j)&&decide (eld ds j<k)
def Fj (ds:Za4)(k:Nat):Za4:=(gp ds.length).filter λj=>decide (k<j)&&decide (eld ds j<k)
theorem Vq {ds:Za4}(h:Dok ds){k:Nat}(hk:k<ds.length):pend ds k=k::Fj ds k:=by
 have e:∀l:Za4,l=gp ds.length->l.filter (λj=>decide (k<=j)&&decide (eld ds j<k))=k::l.filter (λj=>decide (k<j)&&decide (eld ds j<k)):=by
  intro l hl;have hs:gp ds.length=gp k++(k::(gp (ds.length-k-1)).map (k+1 + ·)):=by
   rw[show ds.length=k+(1+(ds.length-k-1)) by lia,IE,IE];simp[j1,Function.comp_def,jv]
  rw[hl,hs,l9,l9];have n1:(gp k).filter (λj=>decide (k<=j)&&decide (eld ds j<k))=[]:=tx.mpr λj hj=>by
   have:=kh.mp hj;simp;lia
  have n2:(gp k).filter (λj=>decide (k<j)&&decide (eld ds j<k))=[]:=tx.mpr λj hj=>by
   have:=kh.mp hj;simp;lia
  rw[n1,n2,ju,ju,mw (by have:=Wg h hk;simp;lia),lz (by simp)];congr 1;refine z0 λj hj=>?_;obtain⟨i,hi,rfl⟩:=jl.mp hj;rw[decide_eq_true (show k<=k+1+i by lia),decide_eq_true (show k<k+1+i by lia)]
 exact e _ rfl
theorem nG {ds:Za4}(h:Dok ds)(k:Nat):pend ds (k+1)=Ca ds ds.length k++Fj ds k:=by
 unfold pend Ca Fj;rw[<-Tp]
 ·refine z0 λj hj=>?_
  have hj:=kh.mp hj;have hl:=Wg h hj;rw[sh];simp only[ky,BK,decide_eq_true_eq];lia
 ·intro a ha
  simp only[ky,decide_eq_true_eq];lia
 ·refine zt (R:=λa b=>a<b) (λ{a b} ha hb hab=>?_) List.pairwise_lt_range
  have hb:=kh.mp hb;simp only[ky,decide_eq_true_eq];rintro⟨⟨q1,q2⟩,p1⟩;have:=hZ h q1 hab hb p1;lia
theorem Vo {ds:Za4}(h:Dok ds):pend ds 0=Ca ds ds.length (-1):=by
 unfold pend Ca;refine z0 λj hj=>?_;have hj:=kh.mp hj;have hg:=rM h hj;rw[sh];simp only[ky,decide_eq_true_eq];lia
theorem tM (ds:Za4):pend ds ds.length=[]:=tx.mpr λj hj=>by
 have:=kh.mp hj;simp;lia
def atO (ds:Za4)(g:Nat):Nat:=(lvo ds ds.length ds.length).getD (g-1) 0
theorem jM (l:Za4):∀(m a:Nat),a+m<=l.length->((G5 (a+m) a).reverse.map λg=>l.getD (g-1) 0)=(l.drop a).take m
 |0,a,_=>by
  unfold G5;rw[p6,ly];rfl
 |m+1,a,h=>by
  have ih:=jM l m a (by lia);have e:(G5 (a+(m+1)) a).reverse=(G5 (a+m) a).reverse++[a+m+1]:=by
   have:G5 (a+(m+1)) a=(a+m+1)::G5 (a+m) a:=by
    unfold G5;rw[show a+(m+1)-a=m+1 by lia,show a+m-a=m by lia,xo,ik,j1];refine congr (congrArg _ rfl) (kx λi hi=>?_);show a+(m+1)-(i+1)=a+m-i;lia
   rw[this,zx]
  rw[e,f9,ih,jn,ka,fc (by lia)];congr 1;show[l.getD (a+m+1-1) 0]=_;unfold jy;rw[su,fc (by lia)];rfl
theorem xN (ds:Za4):(gsC ds).length=ds.length+1:=by unfold gsC;rw[gu,fb,gr]
theorem qH {ds:Za4}{k:Nat}(hk:k<ds.length):(gsC ds)[k+1]?=some (Ca ds ds.length k).length:=by
 unfold gsC;rw[sw,gd,jd hk];rfl
theorem slots {ds:Za4}(h:Dok ds){g:Nat}(hg:g<ds.length+1):((G5 (pre (gsL ds) (g+1)) (pre (gsL ds) g)).reverse.map (atO ds))=(Ls ds).getD g []/\(gsL ds).getD g 0=((Ls ds).getD g []).length:=by
 obtain⟨hl,hs⟩:=Gb h;have hgl:g<(gsL ds).length:=by lia
 have hps:=T2 hgl;have sl:=N9 (Ls ds) g (by rw[<-fb (f:=n6),<-Mw];exact hgl);have hgv:(gsL ds)[g]?=some ((Ls ds).getD g []).length:=by
  have hLl:g<(Ls ds).length:=by rw[<-fb (f:=n6),<-Mw];exact hgl
  rw[Mw,gd];unfold jy;rw[fc hLl];rfl
 have hge:(gsL ds)[g]=((Ls ds).getD g []).length:=by
  rw[fc hgl] at hgv;exact fq hgv
 constructor
 ·rw[hps,hge,show atO ds=λg=>(lvo ds ds.length ds.length).getD (g-1) 0 from rfl,jM]
  ·rw[<-Mw,W0 h] at sl
   exact sl
  ·have:=Wo (gsL ds) (g+1)
   rw[Lo h];lia
 ·unfold jy at hgv ⊢
  rw[hgv];rfl
theorem To {ds:Za4}(h:Dok ds):∀k,k<=ds.length->∃W,lvN (gsL ds) (k+1)=((gsC ds).take (k+1),W)/\W.map (atO ds)=pend ds k/\∀g∈W,0<g/\g<ds.length+1
 |0,_=>by
  obtain⟨s1,s2⟩:=slots h (g:=0) (by lia);refine⟨(G5 (pre (gsL ds) (0+1)) (pre (gsL ds) 0)).reverse++[],?_,?_,?_⟩
  ·show lvS (gsL ds) ([],[0])=_
   unfold lvS;show([]++[(gsL ds).getD 0 0],_)=_;rfl
  ·rw[ip,s1,Vo h]
   rfl
  ·intro g hg
   rw[ip] at hg;have hd:=Yz (nz.mp hg);have:=Wo (gsL ds) (0+1);have:=(Gb h).2;lia
 |k+1,hk=>by
  obtain⟨W,e1,e2,e3⟩:=To h k (by lia);rw[Vq h (by lia)] at e2
  cases W with
  |nil=>cases e2
  |cons g w=>
   rw[ik] at e2;obtain⟨a1,a2⟩:=BC e2;obtain⟨g0,g1⟩:=e3 g (by simp);obtain⟨s1,s2⟩:=slots h (g:=g) g1;have hL:(Ls ds).getD g []=Ca ds ds.length k:=by
    obtain⟨g',rfl⟩:∃g',g=g'+1:=⟨g-1,by lia⟩;rw[uX (by lia) h];have a1:(lvo ds ds.length ds.length).getD g' 0=k:=a1;rw[a1]
   rw[hL] at s1 s2;refine⟨(G5 (pre (gsL ds) (g+1)) (pre (gsL ds) g)).reverse++w,?_,?_,?_⟩
   ·show lvS (gsL ds) (lvN (gsL ds) (k+1))=_
    rw[e1];unfold lvS;show((gsC ds).take (k+1)++[(gsL ds).getD g 0],_)=_;rw[s2,jn (i:=k+1),qH (by lia)];rfl
   ·rw[f9,s1,a2,nG h]
   ·intro x hx
    rcases i5.mp hx with hx|hx
    ·have hd:=Yz (nz.mp hx)
     have:=Wo (gsL ds) (g+1);have:=(Gb h).2;lia
    ·exact e3 x (by simp[hx])
theorem xD {ds:Za4}(h:Dok ds):lvN (gsL ds) (ds.length+1)=(gsC ds,[]):=by
 obtain⟨W,e1,e2,_⟩:=To h ds.length (fk _);rw[tM] at e2;rw[e1,List.map_eq_nil_iff.mp e2,gq (by rw[xN];exact fk _)]
end TW
end
section
namespace L2
open PySem PySem.Spec PyProof.Rows
variable {C Pt dx i1 i2 it l1 l2 z:fg} {params:o8} {A:ji} {CX:CXT} {op:yx} {X:Cx} {env:Env} {tg:jc} {fd:ke} {base h h' h1:jo} {H H' H1 H2:Hp} {J:It} {pins:Za1} {fp:List fg} {outer:List Env} {es:List jc} {kz ns:List Int} {l0:List ic} {cs ix:Za4} {N ps:Za6} {xs ys:List V} {us vs:Za3} {M:yl} {t':Nat} {oT:Obj} {an od:Option fg} {cpos lpos pos:Pos} {scope:ol} {pl:Sem Bool} {s s2:fw} {sp:Sp} {qual:Str} {te to:TE} {wi:TI} {y:V} {cdv ct doc oc pm:fv} {w:ir}
section
variable {X:Cx}
theorem qR (K:eh){T name id:String}{r:V->List V->Hp->VK->Prop}{o e:jc}{t:TA}{apos:Pos}(pa:IR T)(slot:Slot T name id)(hty:typeOf (.builtin id)=pure (.type "method_descriptor"))(hm:MtR X id r)(ho:PE X o to)(ha:PA X (e::es) t)(h:autoParam (X.K=K) QD)
  (hbase:autoParam (attributeBase o name X.env (eval o X.env)=eval o X.env) QD)
  (hfew:autoParam (((backTo cpos (starEach (e::es) X.env)).all (λx=>!x.1)&&(backToKw cpos (keywordEach [] X.env)).all (λx=>x.1.isSome)
   && decide ((e::es).length+([]:List BR).length+(if([]:List BR).isEmpty then 0 else 1)<30))=true) QD)
  (hline:autoParam ((apos.endLine==cpos.line)=true) QD)(hs:autoParam (starEach (e::es) X.env=(false,eval e X.env)::starEach es X.env) QD)(hplain:autoParam ((backTo cpos (starEach es X.env)).any (·.1)=false) QD) :
  PE X (.Call (.Attribute o name apos) (e::es) [] cpos) (tBM K T r to t):=by
 subst h;exact E9 pa slot hty hm ho ha hbase hfew hline hs hplain
end
open PySem.W
end L2
end
section
namespace HD
open PySem PySem.W PySem.Calls PyProof.Rows
def oneA (s0:uy)(h0:jo)(m:Nat)(p:gv)(M:Nat)(w:ir):=
 (Ho treeTable p w m (some (.ref 6)) M s0 (topStub p)).map λs=>staticsOk (importedModules p.main.body) h0 s.abs.heap&&namesBound p s.abs.heap&&gensDone s.abs&&laidKept h0 s.abs.heap
def oneB (s0:uy)(m:Nat)(p q:gv)(loose:Za6)(M:Nat)(w:ir):=
 (Ho treeTable p w m (some (.ref 6)) M s0 (topStub p)).map λs=>openSeen q loose (importedModules p.main.body) (λ_=>true) true s.abs
def tO {α:Type}(Yf:fw->α)(s0:uy)(m:Nat)(p:gv)(M:Nat)(w:ir):=
 (Ho treeTable p w m (some (.ref 6)) M s0 (topStub p)).map λs=>Yf s.abs
theorem Ae1 {α:Type}{Yf:fw->α}{s0:uy}{h0:jo}{m:Nat}{p q:gv}{loose:Za6}{M:Nat}{w:ir}{a:α}
  (hA:oneA s0 h0 m p M w=some true)(hB:oneB s0 m p q loose M w=some (openGood q loose))(hC:tO Yf s0 m p M w=some a) :
  bothT Yf s0 h0 m p q loose M w=some (true,openGood q loose,a):=by
 unfold oneA at hA;unfold oneB at hB;unfold tO at hC;unfold bothT iP;obtain⟨s,r,l⟩:=sy.mp hA;rw[r] at hB hC ⊢;have hB:=fq hB;have hC:=fq hC;exact congrArg some (EX l (EX hB hC))
theorem left_of3 {p q:gv}{loose:Za6}{α:Type}{Yf:fw->α}{Ya:ir->α}{M N:Nat}(e:opening p=plainProg p.main.scope.names)(f:∀s,fenceModules? p s=some s)(hN:GS 600 N=true)(le:GS M N=true)
  (hA:∀w:ir,(λos=>oneA (bootT w os) (o7 w.params) bootSize p M w)=λ_=>some true)(hB:∀w:ir,(λos=>oneB (bootT w os) bootSize p q loose M w)=λ_=>some (openGood q loose))
  (hC:∀w:ir,(λos=>tO Yf (bootT w os) bootSize p M w)=λ_=>some (Ya w)):LeftO p q loose (λ_=>true) Yf Ya N:=
 xM e f hN le λw=>funext λos=>Ae1 (congrFun (hA w) os) (congrFun (hB w) os) (congrFun (hC w) os)
def Yt (s:uy)(a:Nat):Option Obj:=match Nat.blt a s.n with
 |true=>(match s.tree.get a with
  |some o=>alive o
  |none=>none)
 |false=>none
theorem pJ {s:uy}{a:Nat}{o:Obj}(h:Yt s a=some o):s.abs.heap.get? a=some o:=by
 unfold Yt at h
 cases hb:Nat.blt a s.n with
 |false=>rw[hb] at h;cases h
 |true=>
  rw[hb] at h
  cases hg:s.tree.get a with
  |none=>rw[hg] at h;cases h
  |some u=>
   rw[hg] at h;have hlt:a<s.n:=by
    have:=EY hb;lia
   exact(abs_get hlt hg).trans h
theorem Sb {s:uy}:∀{as:Za4} {L:List (Option Obj)},(∀x∈L,x.isSome=true)->as.map (Yt s)=L->as.map s.abs.heap.get?=L
 |[],L,_,e=>e
 |a::as,[],_,e=>by cases e
 |a::as,x::L,h,e=>by
  obtain⟨e1,e2⟩:=BC e;obtain⟨o,ho⟩:=jw.mp (h x il);subst ho;show s.abs.heap.get? a::as.map s.abs.heap.get?=_;rw[pJ e1,Sb (λy hy=>h y (gz _ hy)) e2]
def oneP (as ts:List fg)(s0:uy)(m:Nat)(p:gv)(M:Nat)(w:ir):=
 (Ho treeTable p w m (some (.ref 6)) M s0 (topStub p)).map λs=>(as.map (Yt s),ts.map (Yt s))
theorem hC_km {K:CS->KD}{as:List fg}{e:∀P,as=(K P).map (·.1)}{ts:List fg}{p:gv}{M:Nat}
  (h:∀w:ir,(λos=>oneP as ts (bootT w os) bootSize p M w)=λ_=>some ((K w.params).map λq=>some q.2,ts.map λ_=>some (tabObj #[]))) :
  ∀w:ir,(λos=>tO (kmHook K as e ts).obs (bootT w os) bootSize p M w)=λ_=>some ((kmHook K as e ts).val w):=λw=>funext λos=>by
 have h:=congrFun (h w) os;unfold oneP at h;unfold tO;obtain⟨s,r,l⟩:=sy.mp h;obtain⟨l1,l2⟩:=Prod.mk.inj l;rw[r];show some (as.map s.abs.heap.get?,ts.map s.abs.heap.get?)=some ((K w.params).map λq=>some q.2,ts.map λ_=>some (tabObj #[]));rw[Sb (λx hx=>by obtain⟨q,_,rfl⟩:=jl.mp hx;rfl) l1,Sb (λx hx=>by obtain⟨q,_,rfl⟩:=jl.mp hx;rfl) l2]
end HD
lay_quick HD.oneP
theorem HD.oneP_eq:@HD.oneP=@PySem.W.Fast.tw13831889492591282369:=PySem.W.Fast.te13831889492591282369
lay_quick HD.oneA
lay_quick HD.oneB
theorem HD.oneA_eq:@HD.oneA=@PySem.W.Fast.tw6247638121477898359:=PySem.W.Fast.te6247638121477898359
theorem HD.oneB_eq:@HD.oneB=@PySem.W.Fast.tw4394042064226896843:=PySem.W.Fast.te4394042064226896843
end
section
namespace L2
open PySem PySem.Spec PyProof.Rows
variable {C Pt dx i1 i2 it l1 l2 z:fg} {params:o8} {A:ji} {CX:CXT} {op:yx} {X:Cx} {env:Env} {tg:jc} {fd:ke} {base h h' h1:jo} {H H' H1 H2:Hp} {J:It} {pins:Za1} {fp:List fg} {outer:List Env} {es:List jc} {kz ns:List Int} {l0:List ic} {cs ix:Za4} {N ps:Za6} {xs ys:List V} {us vs:Za3} {M:yl} {t':Nat} {oT:Obj} {an od:Option fg} {cpos lpos pos:Pos} {scope:ol} {pl:Sem Bool} {s s2:fw} {sp:Sp} {qual:Str} {te to:TE} {wi:TI} {y:V} {cdv ct doc oc pm:fv} {w:ir}
open PySem.W
def GD (K:KD)(x:Str)(st:jr):Prop:=∃(f:fg) (fd:ke),Fun K x x st f fd/\nsIn K mainGlobals x=some (some (.ref f))
def MD (K:KD)(C:fg)(x q:Str)(st:jr):Prop:=∃(f:fg) (fd:ke),Fun K x q st f fd/\findIn K (.ref C) x=some (some (.ref f))/\isFn K (.ref f)=true
structure CD (K:KD) (C:fg) (x:Str):Prop where
 a:nsIn K mainGlobals x=some (some (.ref C))
 ma:makesIn K C=true
 kc:keepIn K (.ref C)=true
def noB:Option (Za7)->Bool
 |some none=>true
 |_=>false
structure FD (K:KD) (C:fg) (fs:Za6):Prop where
 cl:Cls K C
 al:(fs.all λf=>noB (findIn K (.ref C) f))=true
section
variable {P:gv} {w:ir} {K:KD} {mg:Za2} {base h:jo} {x q:Str} {st:jr} {f C:fg} {oc:fv} {od an:Option fg} {osl:Array (Za7)} {kV doc pm cdv ct:fv} {fs ps:Za6} {k:Nat} {sp:Sp}
theorem gD (a:nsIn K mainGlobals x=some (some (.ref f)))(l:K.lookup f=some ⟨oc,od,.func (fnOf x x (Bs st) (Bf st) (Ae st) .none kV doc pm an cdv ct),osl⟩)(c:codeIn K cdv x=true)(k:keepIn K (.ref f)=true):GD K x st:=⟨f,_,iW l c k,a⟩
theorem mD (a:findIn K (.ref C) x=some (some (.ref f)))(i:isFn K (.ref f)=true)(l:K.lookup f=some ⟨oc,od,.func (fnOf x q (Bs st) (Bf st) (Ae st) .none kV doc pm an cdv ct),osl⟩)(c:codeIn K cdv q=true)(k:keepIn K (.ref f)=true):MD K C x q st:=⟨f,_,iW l c k,a,i⟩
theorem fD (pg:plainGet K C yu=true)(hd:hasDictIn K C=true)(po:plainOver K C=true)(sa:findIn K (.ref C) "__setattr__"=some (some (.builtin "object.__setattr__")))(al:(fs.all λf=>noB (findIn K (.ref C) f))=true):FD K C fs:=⟨⟨pg,hd,po,sa⟩,al⟩
theorem FD.no (D:FD K C fs)(i:Nat){g:Str}(h:autoParam (fs[i]?=some g) QD):Bo K C g:=by
 have:=oy.mp D.al g (gg h);show findIn K (.ref C) g=some none
 cases e:findIn K (.ref C) g with
 |none=>rw[e] at this;cases this
 |some o=>
  cases o with
  |none=>rfl
  |some v=>rw[e] at this;cases this
def Cur:Nat->(Za3->Prop)->Prop
 |0,P=>P []
 |n+1,P=>∀a,Cur n λl=>P (a::l)
theorem Cur.all:∀{n:Nat} {P:Za3->Prop},Cur n P->∀us:Za3,us.length=n->P us
 |0,_,h,[],_=>h
 |n+1,_,h,a::l,e=>Cur.all (n:=n) (h a) l (CF e)
abbrev Gj (x q:Str)(st:jr)(ps:Za6):Prop:=∀(kV doc pm:fv) (an:Option fg) (cdv ct:fv),Cur ps.length λus=>bindArgs (fnOf x q (Bs st) (Bf st) (Ae st) .none kV doc pm an cdv ct) ⟨us,[]⟩=pure (ps.zip us)
theorem Fun.bd (F:Fun K x q st f fd)(hb:Gj x q st ps):Dn K fd ps []:=F.binds λa b c d e g=>(hb a b c d e g).all
theorem GD.cal (X:K.In h)(G:h.Ns mainGlobals mg)(g:GD K x st)(ok:∀{f fd},Fun K x x st f fd->As P w K mg base CX0 k f fd ps sp)
  (hb:autoParam (Gj x x st ps) QL):Cal P w K mg base x k ps sp:=
 let ⟨f,fd,F,a⟩:=g
 ⟨⟨f,fd,ok F,F.bd hb,MJ X G a,F.kp⟩⟩
theorem MD.mth (c:Cls K C)(g:MD K C x q st)(ok:∀{f fd},Fun K x q st f fd->As P w K mg base CX0 k f fd ps sp)
  (hb:autoParam (Gj x q st ps) QL):Mth P w K mg base C x k ps sp:=
 let ⟨f,fd,F,a,i⟩:=g
 ⟨⟨f,fd,ok F,F.bd hb,⟨a,i,F.kp⟩⟩,c⟩
theorem MD.mkr {y:Str}(X:K.In h)(G:h.Ns mainGlobals mg)(c:CD K C y)(g:MD K C "__init__" q st)(ok:∀{f fd},Fun K "__init__" q st f fd->As P w K mg base CX0 k f fd ps sp)
  (hb:autoParam (Gj "__init__" q st ps) QL):Mkr P w K mg base y C k ps sp:=
 let ⟨f,fd,F,a,i⟩:=g
 ⟨⟨f,fd,ok F,F.bd hb,⟨c.ma,a,i,c.kc⟩,MJ X G c.a⟩⟩
end
section
variable {P:gv} {w:ir} {K:KD} {mg:Za2} {base h:jo} {x q:Str} {st:jr} {C:fg} {ps:Za6} {k:Nat} {sp:Sp}
theorem GD.calE (X:K.In h)(G:h.Ns mainGlobals mg)(g:GD K x st)(ok:∀{f fd},Fun K x x st f fd->As P w K mg base (CXE P w) k f fd ps sp)(hb:autoParam (Gj x x st ps) QL):tQ P w K mg base x k ps sp:=
 let ⟨f,fd,F,a⟩:=g
 ⟨⟨f,fd,ok F,F.bd hb,MJ X G a,F.kp⟩⟩
theorem GD.calU (X:K.In h)(G:h.Ns mainGlobals mg)(g:GD K x st)(ok:∀{f fd},Fun K x x st f fd->jS P w K mg base k f fd ps sp)(hb:autoParam (Gj x x st ps) QL):Ac0 P w K mg base x k ps sp:=
 let ⟨f,fd,F,a⟩:=g
 ⟨⟨f,fd,ok F,F.bd hb,MJ X G a,F.kp⟩⟩
theorem MD.mthE (c:Cls K C)(g:MD K C x q st)(ok:∀{f fd},Fun K x q st f fd->As P w K mg base (CXE P w) k f fd ps sp)(hb:autoParam (Gj x q st ps) QL):Mb P w K mg base C x k ps sp:=
 let ⟨f,fd,F,a,i⟩:=g
 ⟨⟨f,fd,ok F,F.bd hb,⟨a,i,F.kp⟩⟩,c⟩
theorem MD.mkrE {y:Str}(X:K.In h)(G:h.Ns mainGlobals mg)(c:CD K C y)(g:MD K C "__init__" q st)(ok:∀{f fd},Fun K "__init__" q st f fd->As P w K mg base (CXE P w) k f fd ps sp)(hb:autoParam (Gj "__init__" q st ps) QL):uT P w K mg base y C k ps sp:=
 let ⟨f,fd,F,a,i⟩:=g
 ⟨⟨f,fd,ok F,F.bd hb,⟨c.ma,a,i,c.kc⟩,MJ X G c.a⟩⟩
end
section
variable {X:Cx} {e a b o value:jc} {es:List jc} {te ta tb tv:TE} {t:TA} {pos pos':Pos} {x f:Str}
theorem tpa (ha:PE X e te)(hr:PA X es t)(hs:autoParam (Wh e=true) QD):PA X (e::es) (Te te t):=Aeb ha hr hs
theorem tix {r:R2}(hr:IxR X r)(ha:PE X a ta)(hb:PE X b tb)(hs:Xb b:=by exact λ_ _=>rfl):PE X (.Subscript a b pos) (tOp r ta tb):=zU hr ha hb hs
theorem tpc {r:R2}(ho:OpR X (compareOp op) r)(ha:PE X a ta)(hb:PE X b tb)(hm:behindInMarks op b=false:=by exact qZ _):PE X (.Compare a [op] [b] pos) (tOp r ta tb):=wO ho ha hb hm
theorem ttc {r:R2}(ho:OpR X (compareOp op) r)(ha:PE X a ta)(hb:PE X b tb)(hm:behindInMarks op b=false:=by exact qZ _):PT X (.Compare a [op] [b] pos) (rH (tOp r ta tb)):=Rm ho ha hb hm
theorem tfl (he:PE X e ta)(hb:autoParam (attributeBase e f X.env (eval e X.env)=eval e X.env) QD):PE X (.Attribute e f pos) (Acf X.K ta f):=Acl he hb
theorem tsf (ha:PE X o ta)(hv:PE X value tv)(hs:autoParam (swapsWith value (some (.Attribute o f pos')) pos.line X.env=pure false) QD):PS X (.Assign [.Attribute o f pos'] value pos) (Abf X.K ta tv f):=Ab8 ha hv hs
theorem tst (i:Nat)(hN:X.N.Nodup)(he:PE X e te)(hi:autoParam (X.N[i]?=some x) QD)(hx:Loc X.env.scope x:=by exact DJ rfl)(hs:autoParam (swapsWith e (some (.Name x pos')) pos.line X.env=pure false) QD)(hf:autoParam (X.fn x=true\/X.env.scope.names.lookup x=some .local) QH) :
  PS X (.Assign [.Name x pos'] e pos) (iR te (Gm i)):=Mv hN hi hx he hs hf
theorem tgn (i:Nat)(hN:X.N.Nodup)(hi:autoParam (X.N[i]?=some x) QD)(hx:Loc X.env.scope x:=by exact DJ rfl)(hf:autoParam (X.fn x=true\/X.env.scope.names.lookup x=some .local) QH):PG X (.Name x pos) (Gm i):=Lh hN hi hx hf
theorem tau (i:Nat){op:EM}{ti:TIp}(hN:X.N.Nodup)(he:PE X e te)(ho:PIp X op ti)(hi:autoParam (X.N[i]?=some x) QD)(hx:Loc X.env.scope x:=by exact DJ rfl)(hf:autoParam (X.fn x=true\/X.env.scope.names.lookup x=some .local) QH) :
  PS X (.AugAssign (.Name x pos') op e pos) (Aal i te ti):=Acr hN hi hx he ho hf
end
end L2
end
namespace TK
open PySem L2 TW
variable {C Pt dx i1 i2 it l1 l2 z:fg} {params:o8} {A:ji} {CX:CXT} {op:yx} {X:Cx} {env:Env} {tg:jc} {fd:ke} {base h h' h1:jo} {H H' H1 H2:Hp} {J:It} {pins:Za1} {fp:List fg} {outer:List Env} {es:List jc} {kz ns:List Int} {l0:List ic} {cs ix:Za4} {N ps:Za6} {xs ys:List V} {us vs:Za3} {M:yl} {t':Nat} {oT:Obj} {an od:Option fg} {cpos lpos pos:Pos} {scope:ol} {pl:Sem Bool} {s s2:fw} {sp:Sp} {qual:Str} {te to:TE} {wi:TI} {y:V} {cdv ct doc oc pm:fv} {w:ir}
def top (i:Nat):jr:=iu.main.body.getD i (.Pass ⟨0,0,0,0⟩)
abbrev Di:jr:=Az (top 6) 0
theorem Sz:Aj ["self","place"] ["self","place"] (Ae Di):=by k_cls
abbrev Ms:jr:=top 19
theorem X2:Aj ["thing"] ["thing"] (Ae Ms):=by k_cls
abbrev Ks:jr:=top 20
theorem Wn:Aj ["thing","low","high"] ["thing","low","high"] (Ae Ks):=by k_cls
abbrev Kz:jr:=top 21
theorem Xw:Aj ["bit"] ["bit"] (Ae Kz):=by k_cls
abbrev Ie:jr:=top 22
theorem T1:Aj ["place","greatest"] ["place","greatest"] (Ae Ie):=by k_cls
abbrev D4:jr:=top 24
theorem Kj:Aj ["number"] ["number"] (Ae D4):=by k_cls
abbrev Jj:jr:=top 25
theorem T3:Aj ["k","many_knots"] ["k","many_knots"] (Ae Jj):=by k_cls
abbrev Os:jr:=top 30
theorem Jk:Aj ["word","ones"] ["word"] (Ae Os):=by k_cls
abbrev F9:jr:=top 31
theorem Lc:Aj ["four","nth","places"] ["four","nth"] (Ae F9):=by k_cls
theorem O0:B4 ["four","nth","places"] (Ae F9) { kind:=.function,names:=[(".0",.local),("place",.local),("four",.free)],isGenerator:=false,isCoroutine:=false,more:=[] } "place" ["place","four"] [0]:=by k_cls
abbrev Oy:jr:=top 32
theorem Fw:Aj ["word","nth","low","ones"] ["word","nth"] (Ae Oy):=by k_cls
abbrev Tg:jr:=top 36
theorem oZ:Aj ["thing"] ["thing"] (Ae Tg):=by k_cls
abbrev O8:jr:=top 37
theorem hX:Aj ["signs"] ["signs"] (Ae O8):=by k_cls
abbrev Ju:jr:=top 38
theorem Yx:Aj ["text"] ["text"] (Ae Ju):=by k_cls
theorem Ue:B4 ["text"] (Ae Ju) { kind:=.function,names:=[(".0",.local),("low",.local),("word_of",.globalImplicit),("WORD_BITS",.globalImplicit),("text",.free)],isGenerator:=false,isCoroutine:=false,more:=[] } "low" ["low","text"] [0]:=by k_cls
abbrev Kt:jr:=Az (top 40) 0
theorem Xu:Aj ["self","text"] ["self","text"] (Ae Kt):=by k_cls
abbrev K0:jr:=Az (top 40) 1
theorem Vy:Aj ["self"] ["self"] (Ae K0):=by k_cls
abbrev Jf:jr:=Az (top 40) 3
theorem Ua:Aj ["self"] ["self"] (Ae Jf):=by k_cls
abbrev Mj:jr:=Az (top 40) 4
theorem X6:Aj ["self","place"] ["self","place"] (Ae Mj):=by k_cls
abbrev Jn:jr:=top 44
theorem F8:Aj ["low","high","holds","middle"] ["low","high","holds"] (Ae Jn):=by k_cls
abbrev Hh:jr:=top 45
theorem Gu:Aj ["numbers","sums","number"] ["numbers"] (Ae Hh):=by k_cls
abbrev C5:jr:=top 46
theorem Hq:Aj ["words","blocks"] ["words"] (Ae C5):=by k_cls
theorem Lz:B4 ["words","blocks"] (Ae C5) { kind:=.function,names:=[(".0",.local),("low",.local),("BLOCK_WORDS",.globalImplicit),("words",.free)],isGenerator:=false,isCoroutine:=false,more:=[] } "low" ["low","words"] [0]:=by k_cls
theorem L9:B4 ["words","blocks"] (Ae C5) { kind:=.function,names:=[(".0",.local),("block",.local),("sum",.globalImplicit)],isGenerator:=false,isCoroutine:=false,more:=[] } "block" ["block"] []:=by k_cls
theorem Mc (QX:ol):B4 ["block"] QX { kind:=.function,names:=[(".0",.local),("word",.local),("ones_in",.globalImplicit)],isGenerator:=false,isCoroutine:=false,more:=[] } "word" ["word"] []:=⟨rfl,by decide +kernel,by decide +kernel,(λy hy h=>absurd h ((by decide +kernel:∀y∈({ kind:=.function,names:=[(".0",.local),("word",.local),("ones_in",.globalImplicit)],isGenerator:=false,isCoroutine:=false,more:=[] }:ol).names,y.2≠o9) y hy)),by decide +kernel,rfl,rfl,rfl,by decide +kernel⟩
abbrev Ic:jr:=Az (top 47) 0
theorem S7:Aj ["self","bits"] ["self","bits"] (Ae Ic):=by k_cls
abbrev D8:jr:=Az (top 47) 6
theorem A6:Aj ["self","place","number","block","ones","word","rest"] ["self","place"] (Ae D8):=by k_cls
abbrev Hi:jr:=Az (top 47) 2
theorem J3:Aj ["self","bit","place","ones"] ["self","bit","place"] (Ae Hi):=by k_cls
abbrev C3:jr:=Az (top 47) 7
theorem Ec:Aj ["self","bit","block","ones"] ["self","bit","block"] (Ae C3):=by k_cls
abbrev Er:jr:=Az (top 47) 8
theorem L4:Aj ["self","bit"] ["self","bit"] (Ae Er):=by k_cls
abbrev Bh:jr:=Az (top 47) 9
theorem Kl:Aj ["self","bit","nth"] ["self","bit","nth"] (Ae Bh):=by k_cls
theorem Iy:B4 ["self","bit","nth"] (Ae Bh) { kind:=.function,names:=[("block",.local),("bit",.free),("nth",.free),("self",.free)],isGenerator:=false,isCoroutine:=false,more:=[] } "block" ["block","bit","nth","self"] [1,2,0]:=by k_cls
abbrev D1:jr:=Az (top 47) 10
theorem Bj:Aj ["self","bit","number","nth","flip","inside"] ["self","bit","number","nth"] (Ae D1):=by k_cls
abbrev Fi:jr:=Az (top 47) 3
theorem Hg:Aj ["self","bit","nth","block"] ["self","bit","nth"] (Ae Fi):=by k_cls
abbrev Hv:jr:=top 48
theorem No:Aj ["things","signs"] ["things"] (Ae Hv):=by k_cls
theorem Sy:Nh ["things","signs"] (Ae Hv) { kind:=.function,names:=[(".0",.local),("ahead",.local),("own",.local)],isGenerator:=false,isCoroutine:=false,more:=[] } "ahead" "own" ["ahead","own"] []:=by k_cls
abbrev Ib:jr:=top 50
theorem E4:Aj ["order","met","place","number"] ["order"] (Ae Ib):=by k_cls
abbrev Kx:jr:=top 51
theorem C9:Aj ["order","rounds","met","least","places","place"] ["order"] (Ae Kx):=by k_cls
abbrev Hc:jr:=top 52
theorem Ej:Aj ["order","step","shortcuts","places","marked"] ["order","step"] (Ae Hc):=by k_cls
abbrev B1:jr:=Az (top 53) 0
theorem M8:Aj ["self","order","step"] ["self","order","step"] (Ae B1):=by k_cls
abbrev Pb:jr:=top 57
theorem Jm:Aj ["elders","path","k","elder"] ["elders"] (Ae Pb):=by k_cls
abbrev Km:jr:=top 58
theorem Jp:Aj ["elders","depths","elder"] ["elders"] (Ae Km):=by k_cls
abbrev Df:jr:=top 59
theorem R7:Aj ["depths"] ["depths"] (Ae Df):=by k_cls
abbrev El:jr:=top 60
theorem D9:Aj ["elders","many","elder"] ["elders"] (Ae El):=by k_cls
abbrev F7:jr:=top 61
theorem Tr:Aj ["many"] ["many"] (Ae F7):=by k_cls
theorem Ov:B4 ["many"] (Ae F7) { kind:=.function,names:=[(".0",.local),("one",.local)],isGenerator:=false,isCoroutine:=false,more:=[] } "one" ["one"] []:=by k_cls
abbrev K5:jr:=top 62
theorem Js:Aj ["depths","many","depth"] ["depths"] (Ae K5):=by k_cls
abbrev Hr:jr:=top 65
theorem N7:Aj ["elders","order","many"] ["elders","order"] (Ae Hr):=by k_cls
theorem Sk:B4 ["elders","order","many"] (Ae Hr) { kind:=.function,names:=[(".0",.local),("k",.local),("many",.free)],isGenerator:=false,isCoroutine:=false,more:=[] } "k" ["k","many"] [2]:=by k_cls
abbrev Ka:jr:=top 66
theorem Jz:Aj ["depths","many","depth"] ["depths"] (Ae Ka):=by k_cls
abbrev Gr:jr:=Az (top 67) 19
theorem Of:Aj ["self","number"] ["self","number"] (Ae Gr):=by k_cls
abbrev D6:jr:=Az (top 67) 20
theorem B6:Aj ["self","number","steps"] ["self","number","steps"] (Ae D6):=by k_cls
abbrev Dl:jr:=Az (top 67) 21
theorem Cc:Aj ["self","number","left"] ["self","number"] (Ae Dl):=by k_cls
abbrev Dj:jr:=Az (top 67) 22
theorem Dd:Aj ["self","depths","rest","number"] ["self","depths"] (Ae Dj):=by k_cls
abbrev Gs:jr:=Az (top 67) 0
theorem D0:Aj ["self","elders","wood","depths","order"] ["self","elders"] (Ae Gs):=by k_cls
abbrev B8:jr:=Az (top 67) 3
theorem Bx:Aj ["self","firsts","elders","waiting","one","number"] ["self"] (Ae B8):=by k_cls
theorem K3:B4 ["self","firsts","elders","waiting","one","number"] (Ae B8) { kind:=.function,names:=[(".0",.local),("k",.local),("self",.free)],isGenerator:=false,isCoroutine:=false,more:=[] } "k" ["k","self"] [0]:=by k_cls
theorem K1:B4 ["self","firsts","elders","waiting","one","number"] (Ae B8) { kind:=.function,names:=[(".0",.local),("k",.local)],isGenerator:=false,isCoroutine:=false,more:=[] } "k" ["k"] []:=by k_cls
theorem Kh:B4 ["self","firsts","elders","waiting","one","number"] (Ae B8) { kind:=.function,names:=[(".0",.local),("k",.local),("number",.free)],isGenerator:=false,isCoroutine:=false,more:=[] } "k" ["k","number"] [5]:=by k_cls
abbrev Gp:jr:=Az (top 67) 7
theorem Om:Aj ["self","k"] ["self","k"] (Ae Gp):=by k_cls
abbrev Mo:jr:=Az (top 63) 10
theorem Pi:Aj ["self","k","i","many"] ["self","k","i"] (Ae Mo):=by k_cls
abbrev Jr:jr:=Az (top 63) 4
theorem T6:Aj ["self","k"] ["self","k"] (Ae Jr):=by k_cls
abbrev Kb:jr:=Az (top 63) 5
theorem Nu:Aj ["self","k","many"] ["self","k"] (Ae Kb):=by k_cls
abbrev Dp:jr:=Az (top 67) 18
theorem J9:Aj ["self","k"] ["self","k"] (Ae Dp):=by k_cls
abbrev Eo:jr:=Az (top 67) 9
theorem L8:Aj ["self","k"] ["self","k"] (Ae Eo):=by k_cls
abbrev Fu:jr:=Az (top 67) 10
theorem Oe:Aj ["self","k"] ["self","k"] (Ae Fu):=by k_cls
abbrev Dc:jr:=Az (top 67) 15
theorem Eu:Aj ["self","k","place","closing"] ["self","k"] (Ae Dc):=by k_cls
abbrev Go:jr:=Az (top 67) 6
theorem O2:Aj ["self","k"] ["self","k"] (Ae Go):=by k_cls
abbrev F1:jr:=Az (top 67) 4
theorem Hm:Aj ["self","k","group"] ["self","k"] (Ae F1):=by k_cls
abbrev Fz:jr:=Az (top 67) 5
theorem M2:Aj ["self","k"] ["self","k"] (Ae Fz):=by k_cls
abbrev Fx:jr:=Az (top 67) 11
theorem N5:Aj ["self","deep","high"] ["self","deep"] (Ae Fx):=by k_cls
abbrev D7:jr:=Az (top 67) 12
theorem Kk:Aj ["self","k","deep","low","high"] ["self","k","deep"] (Ae D7):=by k_cls
abbrev Hw:jr:=top 69
theorem Tu:Aj ["_law_script","_law_k"] ["_law_script","_law_k"] (Ae Hw):=by k_cls
abbrev La:jr:=top 70
theorem Ni:Aj ["_law_cell","_law_k","_law_number"] ["_law_cell","_law_k"] (Ae La):=by k_cls
abbrev Kp:jr:=top 71
theorem Db:Aj ["_law_cell","_law_many","_law_elders","_law_way","_law_k","_law_at"] ["_law_cell","_law_many"] (Ae Kp):=by k_cls
abbrev Ku:jr:=top 72
theorem Cd:Aj ["_law_script","_law_many","_law_elders","_law_way","_law_k","_law_number","_law_size","_law_turn","_law_at"] ["_law_script","_law_many"] (Ae Ku):=by k_cls
abbrev E7:jr:=top 73
theorem B9:Aj ["_law_elders","_law_times","_law_hung","_law_found","_law_turn","_law_size","_law_base"] ["_law_elders","_law_times","_law_hung"] (Ae E7):=by k_cls
theorem M7:B4 ["_law_elders","_law_times","_law_hung","_law_found","_law_turn","_law_size","_law_base"] (Ae E7) { kind:=.function,names:=[(".0",.local),("_law_elder",.local),("_law_base",.free),("_law_size",.free)],isGenerator:=false,isCoroutine:=false,more:=[] } "_law_elder" ["_law_elder","_law_base","_law_size"] [6,5]:=by k_cls
abbrev Mn:jr:=top 74
theorem Ez:Aj ["_law_script","_law_most","_law_large","_law_number","_law_many","_law_elders"] ["_law_script","_law_most","_law_large"] (Ae Mn):=by k_cls
abbrev Ke:jr:=top 75
theorem M0:Aj ["_law_e","_law_kinds"] ["_law_e"] (Ae Ke):=by k_cls
abbrev O5:jr:=top 76
theorem Fs:Aj ["_law_things","_law_way","_law_place","_law_thing"] ["_law_things"] (Ae O5):=by k_cls
abbrev Jo:jr:=top 77
theorem Hx:Aj ["_law_elders","_law_number","_law_at","_law_odd"] ["_law_elders","_law_number"] (Ae Jo):=by k_cls
abbrev Ia:jr:=top 78
theorem Fe:Aj ["_law_wood_here","_law_word","_law_k","_law_i","_law_told","_law_e"] ["_law_wood_here","_law_word","_law_k","_law_i"] (Ae Ia):=by k_cls
abbrev Mz:jr:=top 79
theorem Gh:Aj ["_law_things","_law_found","_law_e"] ["_law_things"] (Ae Mz):=by k_cls
abbrev Hf:jr:=top 80
theorem J7:Aj ["_law_many","_law_number","_law_some"] ["_law_many","_law_number"] (Ae Hf):=by k_cls
abbrev Gq:jr:=top 81
theorem Pd:Aj ["_law_number"] ["_law_number"] (Ae Gq):=by k_cls
abbrev Vj:jr:=top 82
theorem D5:Aj ["_law_script","_law_elders","_law_many","_law_wood_here","_law_words","_law_j","_law_word","_law_number","_law_knot","_law_twin","_law_odd","_law_spoilt_here","_law_due"] ["_law_script"] (Ae Vj):=by k_cls
abbrev Fl:Pos:=⟨217,55,217,110⟩
abbrev J5:Pos:=⟨308,42,308,61⟩
def Bi (l:Za5):Str:=⟨(l.map λb=>if b then 49 else 48).toArray⟩
def Aei:Option Nat->V
 |none=>.non
 |some p=>.int p
theorem sG (m:Nat):m8 (m:Int) 15=((m%16:Nat):Int):=by
 unfold m8;rw[decide_eq_true (md m),decide_eq_true (by decide:(0:Int)<=15)];show((m &&& 15:Nat):Int)=_;rw[show(15:Nat)=2 ^ 4-1 by decide,ve]
theorem yH (m:Nat):(m:Int)/2 ^ (4:Int).toNat=((m/16:Nat):Int):=by
 show(m:Int)/16=_;lia
theorem iX (r:Nat)(h:r<16):atI (Vn.map λn:Nat=>V.int (n:Int)) (r:Int)=some (.int (pc r)):=by
 refine Bl ?_;rw[gd,sF r h];rfl
theorem Aea (m:Nat):m8 (m:Int) 1=((m%2:Nat):Int):=by
 unfold m8;rw[decide_eq_true (md m),decide_eq_true (by decide:(0:Int)<=1)];show((m &&& 1:Nat):Int)=_;rw[Nat.and_one_is_mod]
theorem C4 (l:Za5):(Bi l).length=l.length:=by
 show(l.map _).toArray.size=_;rw[gn,fb]
theorem nY (b:Bool)(k:Nat):Xx (sgn (if b then 49 else 48)) k=Bi (fu k b):=by
 refine Jw ?_;show(fu k [if b then 49 else 48]).flatten.toArray.toList=((fu k b).map _).toArray.toList;rw[ni,ni,sq]
 induction k with
 |zero=>rfl
 |succ k ih=>
  rw[jt,iw,ih,jt];rfl
theorem Ex (l:Za5):(Bi l).cps.toList=l.map λb=>if b then 49 else 48:=by
 show(l.map _).toArray.toList=_;rw[ni]
theorem iG (l:Za5):IB.bits (Bi l).cps.toList:=λc hc=>by
 rw[Ex] at hc;obtain⟨b,_,rfl⟩:=jl.mp hc;cases b
 ·exact .inl rfl
 ·exact .inr rfl
theorem Vz (a b:Za5):Bi a++Bi b=Bi (a++b):=by
 refine Jw ?_;show((Bi a).cps++(Bi b).cps).toList=_;rw[jj,Ex,Ex,Ex,f9]
theorem Mf {α:Type}(l:List α)(a b:Nat):(l.drop (min a l.length)).take (min b l.length-min a l.length)=(l.drop a).take (b-a):=by
 by_cases h:a<=l.length
 ·rw[jm h]
  by_cases h2:b<=l.length
  ·rw[jm h2]
  ·rw[vc (by lia),gq (by rw[jh];lia),gq (by rw[jh];lia)]
 ·have e:min a l.length=l.length:=by lia
  rw[e,km (fk _),km (by lia)];simp
theorem mG (l:Za5)(a b:Nat):oI (Bi l) (some (a:Int)) (some (b:Int))=Bi ((l.drop a).take (b-a)):=by
 refine Jw ?_;show(AL _ (GX _ _)).toArray.toList=_;rw[ni,HT.sIx_nat,HT.sIx_nat];have e:(Bi l).cps.size=l.length:=C4 l;rw[e,Ex,Ex,p7,DK];have:=Mf (l.map λb=>if b=true then 49 else 48) a b;rw[fb] at this;exact this
theorem Y4 (xs:List V)(a b:Nat):G3 xs (some (a:Int)) (some (b:Int))=(xs.drop a).take (b-a):=by
 unfold G3;rw[HT.sIx_nat,HT.sIx_nat];exact Mf xs a b
theorem Vi (l:Za5):O3 (Bi l) 49=l.count true/\O3 (Bi l) 48+O3 (Bi l) 49=l.length:=by
 unfold O3;rw[Ex]
 induction l with
 |nil=>exact⟨rfl,rfl⟩
 |cons b r ih=>cases b<;>simp[sf]<;>lia
theorem Aaj (l:Za5):IB.v2 (T4 (Bi l)).cps.toList=val l:=by
 show IB.v2 (Bi l).cps.toList.reverse.toArray.toList=_;rw[ni,Ex,<-List.map_reverse];unfold IB.v2;rw[List.foldl_map];have e:=lE l 0;rw[Nat.zero_mul,lx] at e;rw[<-e];congr 1
 funext a b
 cases b<;>rfl
abbrev nV (ns:Za4):List V:=ns.map λn:Nat=>V.int n
theorem Xi (ns:Za4):nV ns=(ns.map λn:Nat=>(n:Int)).map V.int:=by rw[j1];rfl
theorem K9 (f:Nat->Nat)(i:Nat):nV ((gp (i+1)).map f)=nV ((gp i).map f)++[V.int (f i:Nat)]:=by
 unfold nV;rw[kr,f9,f9];rfl
theorem rW (ns:Za4):(ns.map λn:Nat=>(n:Int)).sum=(ns.sum:Nat):=by
 induction ns with
 |nil=>rfl
 |cons n r ih=>rw[ik,qp,ih,qp];lia
theorem Rz (n d:Nat)(hd:0<d):Ci 0 (n:Int) (d:Int)=(n+d-1)/d:=by
 unfold Ci;rw[show(n:Int)-0+(d:Int)-1=((n+d-1:Nat):Int) by lia,<-xm,i8]
theorem few {n:Nat}(h:n<=1000):n<=sizeLine:=jx (G2 h)
theorem Ap {n:Nat}(h:n<=100000):n<sizeLine:=wj h (by decide)
theorem Ff {α:Type}{l:List α}{i:Nat}{b:α}(h:l[i]?=some b):i<l.length:=(ge.mp h).1
def KL (K : eh)(c : fg) : List (fv × Bool)->Prop
  | [] => True
  | (v, b) :: l => kitOne K (.ref c) v = some b/\KL K c l
theorem KL.d {K:eh}{c:fg}:∀(n:Nat) {l:List (fv×Bool)},KL K c l->KL K c (l.drop n)
 |0,_,h=>h
 |_+1,[],h=>h
 |n+1,_::_,h=>KL.d n h.2
def isI:V->Bool
 |.int _=>true
 |_=>false
def inI:V->Int->Int->Bool
 |.int i,lo,hi=>decide (lo<=i)&&decide (i<=hi)
 |_,_,_=>false
theorem Ro (i lo hi:Int):inI (.int i) lo hi=(decide (lo<=i)&&decide (i<=hi)):=rfl
def Any (K:eh)(H:Hp)(x:V):Prop:=∃t b1 b2,G0 K H x t/\kitOne K t (.type "int")=some b1/\kitOne K t (.type "bool")=some b2/\(b1&&!b2)=isI x
section
variable {K:eh} {H H':Hp}
theorem B5 (i:Int):Any K H (.int i):=⟨_,true,false,.int i,by rfl,by rfl,rfl⟩
theorem Oj (b:Bool):Any K H (.bl b):=⟨_,true,true,.bl b,by rfl,by rfl,rfl⟩
theorem Ws:Any K H .non:=⟨_,false,false,.non,by rfl,by rfl,rfl⟩
theorem Wm (z:Str):Any K H (.str z):=⟨_,false,false,.str z,by rfl,by rfl,rfl⟩
theorem kU {a:fg}(h:H a=some (.tup xs)):Any K H (.ref a):=⟨_,false,false,.tup h,by rfl,by rfl,rfl⟩
theorem Wx {a:fg}(h:H a=some (.lst xs)):Any K H (.ref a):=⟨_,false,false,.lst h,by rfl,by rfl,rfl⟩
theorem G0.same {x:V}{t:fv}(s:Ak H H')(h:G0 K H x t):G0 K H' x t:=by
 cases h with
 |non=>exact .non
 |bl b=>exact .bl b
 |int i=>exact .int i
 |str z=>exact .str z
 |flt z=>exact .flt z
 |lst e=>exact .lst (s _ _ e)
 |frz e=>exact .frz (s _ _ e)
 |tup e=>exact .tup (s _ _ e)
 |dK e=>exact .dK (s _ _ e)
 |dT e=>exact .dT (s _ _ e)
 |ins e cl ha hn htk hm=>exact .ins (s _ _ e) cl ha hn htk hm
theorem Any.same {x:V}(s:Ak H H')(h:Any K H x):Any K H' x:=let ⟨t,b1,b2,h1,r⟩:=h;⟨t,b1,b2,G0.same s h1,r⟩
theorem Xe {x:V}(h:isI x=true):∃i,x=.int i:=by cases x<;>first|exact⟨_,rfl⟩|cases h
theorem Acx {x:V}{lo hi:Int}(h:inI x lo hi=true):∃i,x=.int i/\lo<=i/\i<=hi:=by
 cases x<;>first|cases h|skip
 rename_i i
 have h:(decide (lo<=i)&&decide (i<=hi))=true:=h;rw[ky] at h;exact⟨i,rfl,of_decide_eq_true h.1,of_decide_eq_true h.2⟩
end
theorem Nr {l:Za5}{j:Nat}(h:j<Br l.length):atI (nV (wordsOf l)) (j:Int)=some (.int (val (A0 l j):Nat)):=by
 refine Bl ?_;unfold nV TW.wordsOf;rw[gd,gd,jd h];rfl
theorem Jd {H5 H6:Hp}{xb dxb:fg}(nb1:H5 xb=none)(nb2:H5 dxb=none)(s6:SameBut xb (upd (upd H5 dxb (.own xb)) xb (.ins C dxb [])) H6):Ak H5 H6:=λb u e=>by
 have e1:b≠xb:=Al e nb1;have e2:b≠dxb:=Al e nb2;exact s6 _ _ e1 (by rw[Ai e1,Ai e2];exact e)
theorem Gg (r:Int)(n:Nat):∃k:Nat,r%((n:Int)+1)=(k:Int)/\k<=n:=by
 have h0:=BU r (show((n:Int)+1)≠0 by lia);have h1:=GK r (show(0:Int)<(n:Int)+1 by lia);exact⟨(r%((n:Int)+1)).toNat,by lia,by lia⟩
def uU:List V:=[.str "0000",.str "1000",.str "0100",.str "1100",.str "0010",.str "1010",.str "0110",.str "1110",.str "0001",.str "1001",.str "0101",.str "1101",.str "0011",.str "1011",.str "0111",.str "1111"]
theorem pW (m k:Nat){j:Int}(h:j=(k:Int)):m8 (m:Int) (1*2 ^ j.toNat-1)=((m%2 ^ k:Nat):Int):=by
 subst h;rw[i8,Int.one_mul];have e:((2:Int) ^ k-1)=((2 ^ k-1:Nat):Int):=by
  have:1<=2 ^ k:=Nat.one_le_two_pow;rw[Int.natCast_sub this,Int.natCast_pow];rfl
 rw[e];unfold m8;rw[decide_eq_true (md m),decide_eq_true (md (2 ^ k-1))];show((m &&& (2 ^ k-1):Nat):Int)=_;rw[ve]
theorem xE {n:Nat}(h:n<2 ^ 32):n ||| 4294967295=4294967295:=by
 refine yq λi=>?_;rw[Nat.testBit_or,show(4294967295:Nat)=2 ^ 32-1 by decide,CA]
 by_cases hi:i<32
 ·rw[decide_eq_true hi,JJ]
 ·rw[decide_eq_false hi,Bool.or_false]
  exact Nat.testBit_lt_two_pow (gi h (FI (by decide) (by lia)))
theorem fG (m k:Nat):ye (m:Int) (k:Int)=((m ||| k:Nat):Int)-((m &&& k:Nat):Int):=by
 have hn:∀x:Int,ow (ow x)=x:=λx=>by unfold ow;lia
 have ho:HB (m:Int) (k:Int)=((m ||| k:Nat):Int):=by
  unfold HB m8;rw[decide_eq_false (show ¬(0:Int)<=ow (m:Int) by unfold ow;lia),decide_eq_false (show ¬(0:Int)<=ow (k:Int) by unfold ow;lia)];show ow (ow _)=_;rw[hn,hn,hn,i8,i8]
 have ha:m8 (m:Int) (k:Int)=((m &&& k:Nat):Int):=by
  unfold m8;rw[decide_eq_true (md m),decide_eq_true (md k)];rfl
 unfold ye;rw[ho,ha]
theorem Vh:∀w:Za5,val w+val (w.map λb=>!b)+1=2 ^ w.length
 |[]=>rfl
 |b::r=>by
  have:=Vh r;rw[ik,gu,ya];cases b<;>simp[val]<;>lia
theorem Sr (b:Bool)(l:Za5)(j:Nat):ye ((val (A0 l j):Nat):Int) ((Nk b:Nat):Int)=((val (A0 l j) ^^^ Nk b:Nat):Int):=by
 have hlt:val (A0 l j)<2 ^ 32:=gi (sZ _) (FI (by decide) (by unfold A0;rw[f7];lia));have h1:=Le true l j;have h0:=Le b l j;rw[fG,h0]
 cases b with
 |true=>
  rw[<-h0];show(((val (A0 l j) ||| 0:Nat):Int)-((val (A0 l j) &&& 0:Nat):Int))=((val (A0 l j) ^^^ 0:Nat):Int);rw[Nat.or_zero,Nat.and_zero,JX];lia
 |false=>
  show(((val (A0 l j) ||| 4294967295:Nat):Int)-((val (A0 l j) &&& 4294967295:Nat):Int))=_;rw[xE hlt,show(4294967295:Nat)=2 ^ 32-1 by decide,ve,Nat.mod_eq_of_lt hlt];have hc:=Vh ((gp 32).map λp=>l.getD (32*j+p) false==true);rw[<-h1,j1,fb,gr] at hc;have e:((gp 32).map ((λb=>!b) ∘ λp=>l.getD (32*j+p) false==true))=(gp 32).map λp=>l.getD (32*j+p) false==false:=kx λp _=>by
   show(!(l.getD (32*j+p) false==true))=_;cases l.getD (32*j+p) false<;>rfl
  rw[e] at hc;have e0:val (A0 l j) ^^^ Nk true=val (A0 l j):=JX _;rw[e0] at hc;lia
theorem Fa (l:Za4):(nV l).length=l.length:=by unfold nV;rw[fb]
theorem lO {l:Za4}{i:Nat}{n:Nat}(h:l[i]?=some n):(nV l)[i]?=some (.int (n:Nat)):=by
 unfold nV;rw[gd,h];rfl
theorem Aak (l m:Za4):nV l++nV m=nV (l++m):=by unfold nV;rw[f9]
theorem B0 {a:fg}{o:HO}(s:Ak H H1)(h:H a=none):Ak H (upd H1 a o):=λb u e=>by
 rw[Ai (Al e h)];exact s _ _ e
theorem Uf {K:eh}:kitOne K (.type "list") (.type "list")=some true:=by rfl
theorem Zt {l:List Int}{i:Nat}{n:Int}(h:l[i]?=some n):(l.map V.int)[i]?=some (.int n):=by
 rw[gd,h];rfl
theorem Ta {l:List Int}{i:Nat}{x:V}(h:(l.map V.int)[i]?=some x):∃n,l[i]?=some n/\x=.int n:=by
 rw[gd] at h
 cases e:l[i]? with
 |none=>rw[e] at h;cases h
 |some n=>
  rw[e] at h;exact⟨n,rfl,(fq h).symm⟩
theorem Vd {l:List Int}{m:Nat}{x:Int}(h0:0<m)(h:l[m-1]?=some x):atI ((l.take m).map V.int) (-1)=some (.int x):=by
 have hm:=Ff h;have e:l.take m=l.take (m-1)++[x]:=by
  rw[show m=m-1+1 by lia,jn,h];rfl
 rw[e,f9];exact eA _ _
theorem Od {l:List Int}{m:Nat}(h:m<=l.length):((l.take m).map V.int).length=m:=by rw[fb,f7];lia
theorem oA {l:List Int}{m:Nat}(h:m<=l.length):((l.take m).map V.int).dropLast=(l.take (m-1)).map V.int:=by
 rw[<-List.map_dropLast,List.dropLast_eq_take,CG,f7];congr 2;lia
def jL (H:Hp)(p:fg):Nat:=match H p with|some (.lst xs)=>xs.length|_=>0
theorem Np {p:fg}(h:H p=some (.lst xs)):jL H p=xs.length:=by unfold jL;rw[h]
theorem Zx {K:eh}{Q:VK}{p:fg}{ls:List (Za5)}(hl:H1 p=some (.lst (ls.map λl=>.str (Bi l))))(hz:ls.flatten.length<=100000)(q:Q (.str (Bi ls.flatten)) H1):zJ K (.str "") [.ref p] H1 Q:=by
 refine⟨"",p,ls.map Bi,rfl,rfl,SqL.of ?_,?_,?_⟩
 ·rw[hl,j1]
  rfl
 ·have e:((ls.map Bi).map (·.length)).sum=ls.flatten.length:=by
   rw[FL,j1];congr 1;refine kx λl _=>?_;exact C4 l
  rw[e];show ls.flatten.length+_*0<=_;lia
 ·have e:FE ("":Str) (ls.map Bi)=Bi ls.flatten:=by
   refine Jw ?_;rw[gS,j1];show((ls.map λl=>(l.map λb=>if b then 49 else 48).toArray.toList)).flatten=(ls.flatten.map _).toArray.toList;simp only[ni];rw[List.map_flatten]
  rw[e];exact q
theorem R8 {ds:Za4}(h:Dok ds):∀k,k<=ds.length->opn ds k<=k
 |0,_=>fk _
 |k+1,hk=>by
  show dAt ds k+1<=k+1;have:=h k (by lia);have:=R8 h k (by lia);lia
theorem K2 {ds:Za4}{d j:Nat}(h:j<ds.length):dAt (ds++[d]) j=dAt ds j:=by
 unfold dAt jy;rw[ie h]
theorem Rl (ds:Za4)(d:Nat):dAt (ds++[d]) ds.length=d:=by
 unfold dAt jy;rw[f8 (fk _),ly];rfl
theorem Nj {ds:Za4}{d:Nat}:∀k,k<=ds.length->opn (ds++[d]) k=opn ds k
 |0,_=>rfl
 |k+1,h=>by
  show dAt (ds++[d]) k+1=dAt ds k+1;rw[K2 (by lia)]
theorem N1 {ds:Za4}{d:Nat}:∀k,k<=ds.length->way (ds++[d]) k=way ds k
 |0,_=>rfl
 |k+1,h=>by
  show(way (ds++[d]) k).take (dAt (ds++[d]) k+1)++[(k:Int)]=_;rw[N1 k (by lia),K2 (by lia)];rfl
theorem Ha {ds:Za4}{d:Nat}(h:Dok ds)(hd:d<=opn ds ds.length):Dok (ds++[d]):=λk hk=>by
 rw[fe] at hk;simp only[gu,jq] at hk
 by_cases e:k=ds.length
 ·subst e
  rw[Rl,Nj _ (fk _)];exact hd
 ·rw[K2 (by lia),Nj k (by lia)]
  exact h k (by lia)
theorem Ew (ds:Za4)(d:Nat):Ay (ds++[d])=Ay ds++[(way ds ds.length).getD d 0]:=by
 unfold Ay;rw[fe];show(gp (ds.length+1)).map _=_;rw[kr,f9];congr 1
 ·refine kx λk hk=>?_
  have hk:=kh.mp hk;unfold eld;rw[N1 k (by lia),K2 hk]
 ·show[eld (ds++[d]) ds.length]=_
  unfold eld;rw[N1 _ (fk _),Rl]
theorem Gi (ds:Za4)(d:Nat):way (ds++[d]) (ds.length+1)=(way ds ds.length).take (d+1)++[(ds.length:Int)]:=by
 show(way (ds++[d]) ds.length).take (dAt (ds++[d]) ds.length+1)++_=_;rw[N1 _ (fk _),Rl]
theorem K8 {ds:Za4}(h:Dok ds){k:Nat}(hk:k<=ds.length):way ds k=-1::(way ds k).tail:=by
 have e:=E5 h k hk
 cases hw:way ds k with
 |nil=>rw[hw] at e;cases e
 |cons x r=>
  rw[hw] at e;obtain rfl:=fq e;rfl
theorem O9 (xs:List V)(m:Nat):G3 xs none (some (m:Int))=xs.take m:=by
 unfold G3;rw[HT.sIx_nat];show(xs.drop 0).take (min m xs.length-0)=xs.take m;rw[qd,uc]
 by_cases h:m<=xs.length
 ·rw[jm h]
 ·rw[vc (by lia),gq (fk _),gq (by lia)]
theorem rL {ds:Za4}{d:Nat}(h:Dok (ds++[d])):Dok ds/\d<=opn ds ds.length:=by
 refine⟨λk hk=>?_,?_⟩
 ·have:=h k (by rw[fe];lia)
  rw[K2 hk,Nj k (by lia)] at this;exact this
 ·have:=h ds.length (by rw[fe];simp)
  rw[Rl,Nj _ (fk _)] at this;exact this
def shI (n:Nat)(b e:Int):Int:=if e<0 then b else e+n
def Ik (ds:Za4)(D:Nat)(es:Za4):Za4:=ds++es.map (·+D)
theorem Zy (ds:Za4)(D:Nat)(es:Za4):(Ik ds D es).length=ds.length+es.length:=by unfold Ik;rw[fe,fb]
theorem yE {ds:Za4}(h1:Dok ds){D:Nat}(hD:D<=opn ds ds.length)(es:Za4)(h2:Dok es):Dok (Ik ds D es)/\Ay (Ik ds D es)=Ay ds++(Ay es).map (shI ds.length ((way ds ds.length).getD D 0)) /\
  (es≠[]->way (Ik ds D es) (Ik ds D es).length=(way ds ds.length).take (D+1)++(way es es.length).tail.map (λx:Int=>x+(ds.length:Int))):=by
 have hw:=Cs h1 ds.length (fk _)
 induction es using Ko with
 |h0=>
  have e:Ik ds D []=ds:=by unfold Ik;simp
  rw[e];exact⟨h1,by show Ay ds=Ay ds++[];simp,λz=>absurd rfl z⟩
 |h1 es d ih=>
  obtain⟨h2a,hd⟩:=rL h2;obtain⟨k1,k2,k3⟩:=ih h2a;have ec:Ik ds D (es++[d])=Ik ds D es++[d+D]:=by unfold Ik;rw[f9,<-fm];rfl
  have hwe:=Cs h2a es.length (fk _);have hhe:=K8 h2a (k:=es.length) (fk _);have htl:(way es es.length).tail.length=opn es es.length:=by rw[AN];lia
  have hwc:=Cs k1 (Ik ds D es).length (fk _)
  by_cases he:es=[]
  ·subst he
   have e0:Ik ds D []=ds:=by unfold Ik;simp
   have d0:d=0:=Nat.le_zero.mp hd;subst d0;rw[ec,e0,lx];refine⟨Ha h1 hD,?_,λ_=>?_⟩
   ·rw[Ew]
    rfl
   ·rw[fe]
    show way (ds++[D]) (ds.length+1)=_;rw[Gi];congr 1;show[(ds.length:Int)]=[(0:Int)+(ds.length:Int)];rw[Int.zero_add]
  ·have k3:=k3 he
   have htk:((way ds ds.length).take (D+1)).length=D+1:=by rw[f7];lia
   have hopn:opn (Ik ds D es) (Ik ds D es).length=D+opn es es.length:=by
    rw[k3,fe,fb,htl,htk] at hwc;lia
   rw[ec];refine⟨Ha k1 (by rw[hopn];lia),?_,λ_=>?_⟩
   ·rw[Ew,Ew,k2,f9,<-fm]
    congr 1;show[_]=[_];congr 1;rw[k3]
    cases d with
    |zero=>
     have e1:(way es es.length).getD 0 0=-1:=by rw[hhe];rfl
     rw[e1,lx];unfold shI;rw[if_pos (by decide)];unfold jy;rw[ie (by lia),jf (by lia)]
    |succ d=>
     have hx:(way es es.length)[d+1]?=some ((way es es.length)[d+1]'(by lia)):=fc _;generalize (way es es.length)[d+1]'(by lia)=x at hx;obtain⟨v,rfl,_⟩:=Mu h2a es.length d x (fk _) hx;have e1:(way es es.length).getD (d+1) 0=(v:Int):=by unfold jy;rw[hx];rfl
     rw[e1];unfold shI;rw[if_neg (by lia)];unfold jy;rw[f8 (by lia),htk,gd,show d+1+D-(D+1)=d by lia];rw[hhe] at hx;rw[sw] at hx;rw[hx];rfl
   ·have e2:(Ik ds D es++[d+D]).length=(Ik ds D es).length+1:=by rw[fe];rfl
    have e3:(es++[d]).length=es.length+1:=by rw[fe];rfl
    rw[e2,Gi,e3,Gi,k3];have e4:((way es es.length).take (d+1)++[(es.length:Int)]).tail=(way es es.length).tail.take d++[(es.length:Int)]:=by
     rw[hhe];rfl
    rw[e4,f9,<-fm];have e5:((way ds ds.length).take (D+1)++(way es es.length).tail.map (λx:Int=>x+(ds.length:Int))).take (d+D+1)=(way ds ds.length).take (D+1)++((way es es.length).tail.take d).map (λx:Int=>x+(ds.length:Int)):=by
     rw[GT,htk,gq (by lia),show d+D+1-(D+1)=d by lia,p7]
    rw[e5];congr 1;show[((Ik ds D es).length:Int)]=[(es.length:Int)+(ds.length:Int)];rw[Zy];congr 1;lia
theorem Rx {l:Za4}{i:Nat}{x:V}(h:(nV l)[i]?=some x):∃n,l[i]?=some n/\x=.int (n:Nat):=by
 unfold nV at h;rw[gd] at h
 cases e:l[i]? with
 |none=>rw[e] at h;cases h
 |some n=>
  rw[e] at h;exact⟨n,rfl,(fq h).symm⟩
def grB (ns:Za4):Za5:=(ns.map λn=>fu n true++[false]).flatten
theorem iY (ns:Za4):(grB ns).length=ns.sum+ns.length:=by
 induction ns with
 |nil=>rfl
 |cons n r ih=>
  show(fu n true++[false]++grB r).length=_;rw[fe,ih];simp;lia
theorem iF {ns:Za4}{i n:Nat}(h:ns[i]?=some n):n<=ns.sum:=by
 induction ns generalizing i with
 |nil=>cases h
 |cons m r ih=>
  cases i with
  |zero=>cases h;simp
  |succ i=>have:=ih (i:=i) h;simp;lia
inductive eE(vs:List V)(H:Hp)(Q:VK)(E:XK):Prop|mk(l:fg)(ns:Za4)(_:vs=[.ref l])(_:H l=some (.lst (nV ns)))(_:ns.sum+ns.length<=20000)(_:∀H',Ak H H'->Q (.str (Bi (grB ns))) H')
structure E3 (H H':Hp):Prop where
 keep:∀b u,(∀ps,u≠.tbl ps)->H b=some u->H' b=some u
 tb:∀b ps,H b=some (.tbl ps)->∃ps',H' b=some (.tbl ps')
theorem E3.refl (H:Hp):E3 H H:=⟨λ_ _ _ e=>e,λ_ ps e=>⟨ps,e⟩⟩
theorem E3.trans (a:E3 H H1)(b:E3 H1 H2):E3 H H2:=⟨λc u n e=>b.keep c u n (a.keep c u n e),λc ps e=>let ⟨ps',e'⟩:=a.tb c ps e;b.tb c ps' e'⟩
theorem E3.tup (s:E3 H H'){a:fg}(h:H a=some (.tup xs)):H' a=some (.tup xs):=s.keep _ _ (by intro ps e;cases e) h
theorem E3.seq {K:eh}{a:fg}(s:E3 H H')(h:SqL K H a xs):SqL K H' a xs:=by
 rcases h with(h|⟨o,h⟩)|h
 ·exact .inl (.inl (s.keep _ _ (by intro ps e;cases e) h))
 ·exact .inl (.inr ⟨o,s.keep _ _ (by intro ps e;cases e) h⟩)
 ·exact .inr h
theorem uZ (s:Ak H H'):E3 H H':=⟨λb u _ e=>s b u e,λb ps e=>⟨ps,s b _ e⟩⟩
theorem E3.free (s:E3 H H'){l:fg}(e:H' l=none):H l=none:=by
 cases q:H l with
 |none=>rfl
 |some o=>
  by_cases ho:∃ps,o=.tbl ps
  ·obtain⟨ps,rfl⟩:=ho
   obtain⟨ps',e2⟩:=s.tb l ps q;rw[e2] at e;cases e
  ·rw[s.keep l o (λps z=>ho ⟨ps,z⟩) q] at e;cases e
theorem G0.sameT {K:eh}{x:V}{t:fv}(s:E3 H H')(h:G0 K H x t):G0 K H' x t:=by
 cases h with
 |non=>exact .non
 |bl b=>exact .bl b
 |int i=>exact .int i
 |str z=>exact .str z
 |flt z=>exact .flt z
 |lst e=>exact .lst (s.keep _ _ (by intro ps e;cases e) e)
 |frz e=>exact .frz (s.keep _ _ (by intro ps e;cases e) e)
 |tup e=>exact .tup (s.keep _ _ (by intro ps e;cases e) e)
 |dK e=>exact .dK (s.keep _ _ (by intro ps e;cases e) e)
 |dT e=>exact .dT (s.keep _ _ (by intro ps e;cases e) e)
 |ins e cl ha hn htk hm=>exact .ins (s.keep _ _ (by intro ps e;cases e) e) cl ha hn htk hm
theorem Any.sameT {K:eh}{x:V}(s:E3 H H')(h:Any K H x):Any K H' x:=let ⟨t,b1,b2,h1,r⟩:=h;⟨t,b1,b2,G0.sameT s h1,r⟩
structure Tb where
 P:fg
 pos:Pos
 qual:Str
def Tb.ok (t:Tb)(H:Hp):Prop:=Ky H t.P t.pos t.qual
theorem Tb.same {t:Tb}(s:Ak H H')(h:t.ok H):t.ok H':=by
 obtain⟨ps,e1,e2,e3⟩:=h;exact⟨ps,s _ _ e1,e2,e3.imp id λ⟨c,oc,a1,a2,a3⟩=>⟨c,oc,a1,s _ _ a2,a3⟩⟩
theorem Tb.sameX {t:Tb}{P:fg}(s:Me P H H')(hP:∃ps,H P=some (.tbl ps))(n:t.P≠P)(h:t.ok H):t.ok H':=by
 obtain⟨ps,e1,e2,e3⟩:=h;obtain⟨ps',hP⟩:=hP;exact⟨ps,s _ _ n e1,e2,e3.imp id λ⟨c,oc,a1,a2,a3⟩=>⟨c,oc,a1,s _ _ (λz=>by rw[z,hP] at a2;cases a2) a2,a3⟩⟩
theorem wE {P:fg}(s:Me P H H')(hP:∃ps,H P=some (.tbl ps))(hP':∃ps,H' P=some (.tbl ps)):E3 H H':=by
 refine⟨λb u n e=>s b u (λz=>?_) e,λb ps e=>?_⟩
 ·obtain⟨ps,hP⟩:=hP
  rw[z,hP] at e;cases e;exact n ps rfl
 ·by_cases hb:b=P
  ·rw[hb];exact hP'
  ·exact⟨ps,s b _ hb e⟩
theorem Tb.tbl {t:Tb}(h:t.ok H):∃ps,H t.P=some (.tbl ps):=let ⟨ps,e,_⟩:=h;⟨ps,e⟩
def Tbs (ts:List Tb)(H:Hp):Prop:=(∀t∈ts,t.ok H)/\(ts.map (·.P)).Nodup
structure SmT (ts:List Tb) (H H':Hp):Prop where
 sm:E3 H H'
 ok:Tbs ts H'
theorem Tbs.same {ts:List Tb}(h:Tbs ts H)(s:Ak H H'):Tbs ts H':=⟨λt ht=>Tb.same s (h.1 t ht),h.2⟩
theorem SmT.of {ts:List Tb}(h:Tbs ts H)(s:Ak H H'):SmT ts H H':=⟨uZ s,h.same s⟩
theorem SmT.refl {ts:List Tb}(h:Tbs ts H):SmT ts H H:=⟨E3.refl _,h⟩
theorem SmT.trans {ts:List Tb}(a:SmT ts H H1)(b:SmT ts H1 H2):SmT ts H H2:=⟨a.sm.trans b.sm,b.ok⟩
theorem SmT.then {ts:List Tb}(a:SmT ts H H1)(b:Ak H1 H2):SmT ts H H2:=a.trans (.of a.ok b)
theorem SmT.k {ts:List Tb}(s:SmT ts H H'){b:fg}{u:HO}(h:H b=some u)(n:∀ps,u≠.tbl ps:=by intro ps e;cases e):H' b=some u:=s.sm.keep _ _ n h
theorem SmT.any {K:eh}{ts:List Tb}(s:SmT ts H H'){x:V}(h:Any K H x):Any K H' x:=h.sameT s.sm
theorem rD:∀{ts:List Tb} {t u:Tb},(ts.map (·.P)).Nodup->t∈ts->u∈ts->t.P=u.P->t=u
 |[],_,_,_,h,_,_=>nomatch h
 |x::r,t,u,hn,ht,hu,e=>by
  rw[ik,vp] at hn;rcases i9.mp ht with rfl|ht'<;>rcases i9.mp hu with rfl|hu'
  ·rfl
  ·exact absurd (vt (f:=(·.P)) hu') (by rw[<-e];exact hn.1)
  ·exact absurd (vt (f:=(·.P)) ht') (by rw[e];exact hn.1)
  ·exact rD hn.2 ht' hu' e
theorem zL {ts:List Tb}{t:Tb}(h:Tbs ts H)(ht:t∈ts)(s:Me t.P H H')(ok:t.ok H'):SmT ts H H':=by
 have hP:=Tb.tbl (h.1 t ht);refine⟨wE s hP (Tb.tbl ok),λu hu=>?_,h.2⟩
 by_cases e:u.P=t.P
 ·have:u=t:=rD h.2 hu ht e
  rw[this];exact ok
 ·exact Tb.sameX s hP e (h.1 u hu)
theorem Rv (n:Nat):Dok (fu n 0):=λk hk=>by
 have:dAt (fu n 0) k=0:=by
  unfold dAt jy;rw[n9];split<;>rfl
 lia
theorem vG (n k:Nat):dAt (fu n 0) k=0:=by
 unfold dAt jy;rw[n9];split<;>rfl
theorem nB (n:Nat):Ay (fu n 0)=fu n (-1):=by
 refine pj λk=>?_;rw[n9]
 by_cases hk:k<n
 ·rw[if_pos hk,J0 (by rw[iz];exact hk)]
  have h:=Hy (Rv n) (k:=k) (by rw[iz];exact hk);rw[vG,E5 (Rv n) k (by rw[iz];lia)] at h;exact h.symm
 ·rw[if_neg hk,jk (by rw[Bu,iz];lia)]
theorem Aa0 {ds:Za4}(h:Dok ds){k:Nat}(hk:k<=ds.length){x:Int}(hx:x∈way ds k):-1<=x:=by
 obtain⟨j,hj⟩:=l7 hx
 cases j with
 |zero=>
  rw[E5 h k hk] at hj;have:=fq hj;lia
 |succ j=>
  obtain⟨v,hv,_⟩:=Mu h k j x hk hj;lia
theorem hZ {ds:Za4}(h:Dok ds){k:Nat}(hk:k<ds.length):eld ds k∈way ds k:=gg (Hy h hk)
theorem Yc {ds es:Za4}(h1:Dok ds)(h2:Dok es):∀k,k<=ds.length->k<=es.length->(∀j,j<k->eld ds j=eld es j)->way ds k=way es k
 |0,_,_,_=>rfl
 |k+1,k1,k2,he=>by
  have ih:=Yc h1 h2 k (by lia) (by lia) λj hj=>he j (by lia);have e:=he k (by lia);have a1:=Hy h1 (k:=k) (by lia);have a2:=Hy h2 (k:=k) (by lia);rw[<-e,<-ih] at a2;have hd:dAt ds k=dAt es k:=by
   rcases Nat.lt_trichotomy (dAt ds k) (dAt es k) with h|h|h
   ·have:=Oq h1 k _ _ _ _ (by lia) h a1 a2
    lia
   ·exact h
   ·have:=Oq h1 k _ _ _ _ (by lia) h a2 a1
    lia
  show(way ds k).take (dAt ds k+1)++[(k:Int)]=(way es k).take (dAt es k+1)++[(k:Int)];rw[ih,hd]
def R6 (xs:List V)(k:Nat):Prop:=∃ds,Dok ds/\ds.length=k/\k<xs.length/\k<=4000/\xs.take k=(Ay ds).map V.int/\(k=4000\/∀e,xs[k]?=some (V.int e)->e∉way ds k)
def zY (xs:List V)(ds:Za4):Prop:=Dok ds/\ds.length<=4000/\xs=(Ay ds).map V.int
def K6:Option (List V)->Nat->Prop
 |some xs,k=>R6 xs k
 |none,k=>k=0
def Mh:Option (List V)->Za4->Prop
 |some xs,ds=>zY xs ds
 |none,_=>False
theorem Ek {ds:Za4}{n j:Nat}(hl:ds.length=n)(h:xs.take n=(Ay ds).map V.int)(hj:j<n):xs[j]?=some (.int (eld ds j)):=by
 have e:(xs.take n)[j]?=some (.int (eld ds j)):=by
  rw[h];exact Zt (J0 (by lia))
 rw[jf hj] at e;exact e
theorem Sf {k:Nat}{es:Za4}(hf:R6 xs k)(hE:Dok es)(hk:k<es.length)(hk4:k<4000)(hx:∀j,j<es.length->xs[j]?=some (.int (eld es j))):False:=by
 obtain⟨ds,hD,hl,_,_,htk,hb⟩:=hf;rcases hb with h|h
 ·lia
 ·have hw:way ds k=way es k:=Yc hD hE k (by lia) (by lia) λj hj=>by
   have e1:=Ek hl htk hj;rw[hx j (by lia)] at e1;exact(V.int.inj (fq e1)).symm
  refine h _ (hx k hk) ?_;rw[hw];exact hZ hE hk
theorem gT {k j:Nat}(h1:R6 xs k)(h2:R6 xs j):k=j:=by
 have key:∀{k j:Nat},R6 xs k->R6 xs j->¬ k<j:=λ{k j} h1 h2 hlt=>by
  obtain⟨es,hE,hl,_,h4,htk,_⟩:=h2;exact Sf h1 hE (by lia) (by lia) λi hi=>Ek hl htk (by lia)
 have a:=key h1 h2;have b:=key h2 h1;lia
theorem fH {k:Nat}{ds:Za4}(h1:R6 xs k)(h2:zY xs ds):False:=by
 obtain⟨hD,hl,e⟩:=h2;have hlen:xs.length=ds.length:=by rw[e,fb,Bu]
 obtain⟨_,_,_,hk,_⟩:=id h1;refine Sf h1 hD (by lia) (by lia) λj hj=>?_;rw[e];exact Zt (J0 hj)
theorem Pe {o:Option (List V)}{k j:Nat}(h1:K6 o k)(h2:K6 o j):k=j:=by
 cases o with
 |some xs=>exact gT h1 h2
 |none=>exact(show k=0 from h1).trans (show j=0 from h2).symm
theorem Et {o:Option (List V)}{k:Nat}{ds:Za4}(h1:K6 o k)(h2:Mh o ds):False:=by
 cases o with
 |some xs=>exact fH h1 h2
 |none=>exact h2
def Aco (C:fg)(H:Hp)(E:XK)(o:Option (List V)):Prop:=∀k:Nat,K6 o k->∀dx H',Ak H H'->H dx=none->H' dx=some (.xd [("place",.int k)])->E (.ref C) (some dx) H'
theorem Uu (K:eh){e:jc}(he:PE X e te)(h:autoParam (X.K=K) QD)(hb:autoParam (attributeBase e "place" X.env (eval e X.env)=eval e X.env) QD):PE X (.Attribute e "place" pos) (gU K te):=by
 subst h;exact pT he hb
def ThA (K:eh)(H:Hp)(v:V):Option (List V)->Prop
 |some xs=>∃a,v=.ref a/\H a=some (.lst xs)/\(∀x∈xs,Any K H x)/\xs.length<=10000
 |none=>∃t,G0 K H v t/\kitOne K t (.type "list")=some false
theorem ThA.same {K:eh}{v:V}{o:Option (List V)}(s:Ak H H')(h:ThA K H v o):ThA K H' v o:=by
 cases o with
 |some xs=>obtain⟨a,e,ha,hf,r⟩:=h;exact⟨a,e,s _ _ ha,λx hx=>(hf x hx).same s,r⟩
 |none=>obtain⟨t,ht,r⟩:=h;exact⟨t,G0.same s ht,r⟩
def Acm (o:Option (List V))(r:V):Prop:=(r=.non/\∃ds,Mh o ds)\/∃k:Nat,r=.int k/\K6 o k
theorem Aa5 {w:List Int}{e:Int}:inV (.int e) (w.map V.int)=decide (e∈w):=by
 unfold inV;rw[List.any_map]
 by_cases h:e∈w
 ·rw[decide_eq_true h,GY]
  exact⟨e,h,by simp[eqV]⟩
 ·rw[decide_eq_false h]
  refine wu.mpr λhc=>?_;obtain⟨x,hx,hxe⟩:=GY.mp hc;have:x=e:=by simpa [eqV] using hxe
  exact h (this▸hx)
theorem pZ (n:Nat)(i:Int):(fu n [V.int i]).flatten=(fu n i).map V.int:=by
 induction n with
 |zero=>rfl
 |succ n ih=>rw[jt,iw,ih,jt];rfl
theorem Oo:K6 (some ((fu 4001 (-1:Int)).map V.int)) 4000:=by
 refine⟨fu 4000 0,Rv 4000,iz,by rw[fb,iz];lia,fk _,?_,.inl rfl⟩;rw[nB,<-p7,FK];rfl
theorem pA {ds:Za4}(hD:Dok ds)(hl:ds.length<=4000):Mh (some ((Ay ds).map V.int)) ds:=⟨hD,hl,rfl⟩
theorem Vr {ds es:Za4}(hD:Dok ds)(h:Mh (some ((Ay ds).map V.int)) es):es=ds:=by
 obtain⟨hE,_,e⟩:=h;have e2:Ay ds=Ay es:=by
  have:=congrArg (CH λv:V=>match v with|.int i=>i|_=>0) e;rw[j1,j1] at this;have hid:∀l:List Int,l.map ((λv:V=>match v with|.int i=>i|_=>0) ∘ V.int)=l:=λl=>by
   conv=>rhs;rw[<-JZ l]
   exact kx λ_ _=>rfl
  rw[hid,hid] at this;exact this
 exact(vA hD hE e2).symm
theorem uY {K:eh}{a:fg}(h:H a=some (.lst (ns.map V.int)))(hl:ns.length<=4000):ThA K H (.ref a) (some (ns.map V.int)):=
 ⟨a,rfl,h,λx hx=>by obtain⟨n,_,rfl⟩:=jl.mp hx;exact B5 n,by rw[fb];lia⟩
theorem mZ {E:XK}{o:Option (List V)}{ds:Za4}(h:Mh o ds):Aco C H E o:=λk hk=>(Et hk h).elim
theorem wF {i:Nat}(h:i<=10000):((i:Int)).natAbs<10 ^ 12:=by
 have:(10000:Nat)<10 ^ 12:=by decide
 lia
def wY (K:eh):R2:=λx y H Q=>(x=.non/\y=.non/\Q (.bl false) H)\/jO K false x y H Q
theorem Ac3 (hu:X.A.units+60<cLine):OpR X (compareOp .NotEq) (wY X.K):=by
 intro pins s G H x y u v Q I rx ry h;rcases h with⟨rfl,rfl,q⟩|h
 ·exact Pq pins s G H .non .non u v Q I rx ry ⟨rfl,q⟩
 ·exact iH hu pins s G H x y u v Q I rx ry h
def NoK (k:V)(n:Nat):Prop:=inI k 0 ((n:Int)-1)=false
def Nt (i:V):Prop:=∀j,i=.int j->j<0
abbrev iN (ds:Za4):List Int:=ds.map λn:Nat=>(n:Int)
def J8 (ds:Za4):List Int:=Dx (iN ds) (B3 ds.length)
theorem Yi (ds:Za4):nV ds=(iN ds).map V.int:=by unfold nV iN;rw[j1];rfl
theorem Hd (ds:Za4):(J8 ds).length=ds.length:=by
 unfold J8 Dx B3;rw[fb,Ct,BG,fb,fb,gr,AC]
theorem Uo (ds:Za4):(J8 ds).Perm (B3 ds.length):=by
 have h:=(Cp (lt:=ltI) ((iN ds).zip (B3 ds.length))).map (·.2);have e:((iN ds).zip (B3 ds.length)).map (·.2)=B3 ds.length:=by
  rw[List.map_snd_zip];unfold B3;rw[fb,fb,gr];exact fk _
 rw[e] at h;exact h
theorem T8 (n:Nat):(B3 n).Nodup:=by
 unfold B3;exact KA _ (λa b h e=>h (by lia)) List.nodup_range
theorem eM {n:Nat}{x:Int}(h:x∈B3 n):0<=x/\x.toNat<n:=by
 unfold B3 at h;obtain⟨j,hj,rfl⟩:=jl.mp h;have:=kh.mp hj;exact⟨by lia,by lia⟩
theorem Y5 {ds:Za4}{x:Int}(h:x∈J8 ds):0<=x/\x.toNat<ds.length:=eM ((Uo ds).mem_iff.mp h)
theorem gZ (ds:Za4):(J8 ds).Nodup:=(Uo ds).nodup_iff.mpr (T8 _)
theorem jF {α β γ:Type}(f:γ->α)(g:γ->β):∀l:List γ,(l.map f).zip (l.map g)=l.map λx=>(f x,g x)
 |[]=>rfl
 |x::l=>by rw[ik,ik,ik,List.zip_cons_cons,jF f g l]
theorem rK (ds:Za4):iN ds=(gp ds.length).map λj:Nat=>(dAt ds j:Int):=by
 refine AO (by simp[iN]) λi h1 h2=>?_;have hi:i<ds.length:=by simpa [iN] using h1
 rw[GV,GV,List.getElem_range];unfold dAt jy;rw[fc hi];rfl
theorem uI {ds:Za4}(h:Dok ds):J8 ds=(lvo ds ds.length ds.length).map λj:Nat=>(j:Int):=by
 unfold J8 Dx;have e:(iN ds).zip (B3 ds.length)=(gp ds.length).map λj:Nat=>((dAt ds j:Int),(j:Int)):=by
  rw[rK];exact jF _ _ _
 rw[e,show(ltI:Int×Int->Int×Int->Bool)=ltZ from rfl,Tl h ds.length (fk _),j1];rfl
def Aee (xs:List V)(k:Nat):Prop:=∃n:Nat,xs[k]?=some (.int n)/\n<xs.length/\∀j,j<k->xs[j]?≠some (.int n)
def jG (xs:List V):Prop:=∀j,j<xs.length->Aee xs j
def Met (xs:List V)(k:Nat)(ms:Za5):Prop:=ms.length=xs.length/\∀(i:Nat) b,ms[i]?=some b->(b=true↔∃j,j<k/\xs[j]?=some (.int i))
theorem qE (xs:List V):Met xs 0 (fu xs.length false):=by
 refine⟨iz,λi b h=>?_⟩;rw[n9] at h;split at h
 ·cases h
  exact⟨λz=>by(cases z),λ⟨j,hj,_⟩=>absurd hj (yf _)⟩
 ·cases h
theorem uQ {k n:Nat}{ms:Za5}(h:Met xs k ms)(hk:xs[k]?=some (.int n)):Met xs (k+1) (ms.set n true):=by
 refine⟨by rw[se];exact h.1,λi b hb=>?_⟩;rw[zz] at hb
 by_cases e:n=i
 ·rw[if_pos e] at hb
  split at hb
  ·cases hb
   exact⟨λ_=>⟨k,vd _,by rw[hk,e]⟩,λ_=>rfl⟩
  ·cases hb
 ·rw[if_neg e] at hb
  rw[h.2 i b hb]
  constructor
  ·rintro⟨j,hj,hx⟩
   exact⟨j,by lia,hx⟩
  ·rintro⟨j,hj,hx⟩
   rcases zr (Nat.le_of_lt_succ hj) with h1|h1
   ·exact⟨j,h1,hx⟩
   ·rw[h1,hk] at hx
    have:=V.int.inj (fq hx);lia
theorem rT (ms:Za5)(n:Nat)(b:Bool):(ms.map V.bl).set n (.bl b)=(ms.set n b).map V.bl:=by rw[zy]
theorem rV (n:Nat):(fu n [V.bl false]).flatten=(fu n false).map V.bl:=by
 induction n with
 |zero=>rfl
 |succ n ih=>rw[jt,iw,ih,jt];rfl
theorem zK {ms:Za5}{i:Nat}{b:Bool}(h:ms[i]?=some b):(ms.map V.bl)[i]?=some (.bl b):=by
 rw[gd,h];rfl
def gB (ms:Za4)(g:Nat):Nat:=(ms.take g).sum+g
theorem Ig (m:Nat)(r:Za4):grB (m::r)=(fu m true++[false])++grB r:=rfl
theorem Uz:∀ns:Za4,(grB ns).count true=ns.sum
 |[]=>rfl
 |n::r=>by
  rw[Ig,t8,t8,Uz r,CU];simp
theorem Zr:∀{ms:Za4} {g m x:Nat},ms[g]?=some m->x<=m->(grB ms).take (gB ms g+x)=grB (ms.take g)++fu x true
 |[],g,m,x,h,_=>by cases h
 |n::r,0,m,x,h,hx=>by
  obtain rfl:n=m:=fq h;rw[Ig,show gB (n::r) 0+x=x from lx x,fm,jz (by rw[iz];exact hx),FK,jm hx];rfl
 |n::r,g+1,m,x,h,hx=>by
  have ih:=Zr (ms:=r) (g:=g) h hx;have e:gB (n::r) (g+1)+x=(fu n true++[false]).length+(gB r g+x):=by
   unfold gB;rw[og,qp,fe,iz];simp;lia
  rw[Ig,e,List.take_length_add_append,ih,og,Ig];simp only[fm]
theorem X4:∀{ms:Za4} {g m:Nat},ms[g]?=some m->(grB ms)[gB ms g+m]?=some false
 |[],g,m,h=>by cases h
 |n::r,0,m,h=>by
  obtain rfl:n=m:=fq h;rw[Ig,show gB (n::r) 0+n=n from lx n,fm,f8 (by rw[iz];exact fk _),iz,ly];rfl
 |n::r,g+1,m,h=>by
  have ih:=X4 (ms:=r) (g:=g) h;have e:gB (n::r) (g+1)+m=(fu n true++[false]).length+(gB r g+m):=by
   unfold gB;rw[og,qp,fe,iz];simp;lia
  rw[Ig,e,f8 (kq _ _),jb];exact ih
theorem Ac4 {ms:Za4}{g m x:Nat}(h:ms[g]?=some m)(hx:x<=m):((grB ms).take (gB ms g+x)).count true=(ms.take g).sum+x:=by
 rw[Zr h hx,t8,Uz,CU]
theorem Acp {ms:Za4}{g m x:Nat}(h:ms[g]?=some m)(hx:x<=m):(occ false (grB ms) (gB ms g+x)).length=g:=by
 have h1:=(Rk (grB ms) (gB ms g+x)).2;have h2:cnt (grB ms) (gB ms g+x)=(ms.take g).sum+x:=Ac4 h hx;rw[h2] at h1;unfold gB at *;lia
theorem rA {ms:Za4}{g m:Nat}(h:ms[g]?=some m):(occ false (grB ms) (grB ms).length)[g]?=some (gB ms g+m)/\gB ms g+m<(grB ms).length/\(grB ms).getD (gB ms g+m) false=false:=by
 have hz:=X4 h;have hlt:=Ff hz;have hd:(grB ms).getD (gB ms g+m) false=false:=by unfold jy;rw[hz];rfl
 have ho:=Acp h (fk m);refine⟨?_,hlt,hd⟩;have e:occ false (grB ms) (gB ms g+m+1)=occ false (grB ms) (gB ms g+m)++[gB ms g+m]:=by
  rw[M5,hd];rfl
 rw[Xa (n:=gB ms g+m+1) (by lia) (by rw[e,fe,ho];exact vd _),e,f8 (by rw[ho];exact fk _),ho,ly];rfl
theorem Gf {x:fg}{o o':HO}(hx:H1 x=none)(hd:H1 dx=none):Ak H1 (upd (upd H1 dx o) x o'):=λb u e=>by rw[Ai (Al e hx),Ai (Al e hd)];exact e
theorem Tbs.keepN {ts:List Tb}{p:fg}{o o':HO}(h:Tbs ts H)(hp:H p=some o')(nt:∀ps,o'≠.tbl ps:=by intro ps e;cases e)(nf:∀a b,o'≠.frz a b:=by intro a b e;cases e):Tbs ts (upd H p o):=by
 refine⟨λt ht=>?_,h.2⟩;obtain⟨ps,e1,e2,e3⟩:=h.1 t ht;exact⟨ps,by rw[Ai (λz=>by rw[z,hp] at e1;exact nt _ (fq e1))];exact e1,e2,e3.imp id λ⟨c,oc,a1,a2,a3⟩=>⟨c,oc,a1,by rw[Ai (λz=>by rw[z,hp] at a2;exact nf _ _ (fq a2))];exact a2,a3⟩⟩
theorem SmT.push {ts:List Tb}{p:fg}{o:HO}(s:SmT ts H H1)(hp:H p=none)(hl:H1 p=some (.lst xs)):SmT ts H (upd H1 p o):=by
 refine⟨⟨λb u n e=>?_,λb ps e=>?_⟩,s.ok.keepN hl⟩
 ·rw[Ai (Al e hp)]
  exact s.sm.keep b u n e
 ·rw[Ai (Al e hp)]
  exact s.sm.tb b ps e
theorem mJ {ts:List Tb}{lo:Int}{n:Nat}{fr:St}{tc:TT}{Q:VK}(hT:Tbs ts H1)(acc:Nat->List V)(h0:acc 0=[])(hz:∀i,i<n->(acc i).length<sizeLine)
  (turn:∀(i:Nat) H (R:Hp->Prop) (A:VK),i<n->SmT ts H1 H->(∀y H',acc (i+1)=acc i++[y]->SmT ts H H'->A y H')->tc (some (.int (lo+i))::fr) H λb H3=>if b=true then te (some (.int (lo+i))::fr) H3 A else R H3)
  (fin:∀D H,H1 D=none->SmT ts H1 H->H D=some (.lst (acc n))->Q (.ref D) H):P2 (Itr lo n) H1 fr tc te Q:=by
 intro D hD;refine⟨λi m H=>i+m=n/\SmT ts H1 H/\H D=some (.lst (acc i)),⟨n,by lia,SmT.of hT (Ag hD),by rw[Ac,h0]⟩,?_⟩;rintro i m H ⟨him,sm,hd⟩
 by_cases hi:i<n
 ·refine .inr ⟨hi,λx H' h=>?_⟩
  obtain⟨rfl,rfl⟩:=h;exact turn i _ _ _ hi sm λy H'' e s2=>⟨acc i,s2.k hd,hz i hi,m-1,by lia,by lia,(sm.trans s2).push hD (s2.k hd),by rw[Ac,e]⟩
 ·obtain rfl:i=n:=by lia
  exact .inl ⟨fk _,fin D H hD sm hd⟩
structure SmB (ts:List Tb) (x:fg) (H H':Hp):Prop where
 keep:∀b u,b≠x->(∀ps,u≠.tbl ps)->H b=some u->H' b=some u
 tb:∀b ps,H b=some (.tbl ps)->∃ps',H' b=some (.tbl ps')
 ok:Tbs ts H'
theorem SmB.k {ts:List Tb}{x:fg}(s:SmB ts x H H'){b:fg}{u:HO}(h:H b=some u)(ne:b≠x)(n:∀ps,u≠.tbl ps:=by intro ps e;cases e):H' b=some u:=s.keep _ _ ne n h
theorem SmB.refl {ts:List Tb}{x:fg}(h:Tbs ts H):SmB ts x H H:=⟨λ_ _ _ _ e=>e,λ_ ps e=>⟨ps,e⟩,h⟩
theorem SmB.trans {ts:List Tb}{x:fg}(a:SmB ts x H H1)(b:SmB ts x H1 H2):SmB ts x H H2:=⟨λc u n1 n2 e=>b.keep c u n1 n2 (a.keep c u n1 n2 e),λc ps e=>let ⟨ps',e'⟩:=a.tb c ps e;b.tb c ps' e',b.ok⟩
theorem SmB.sm {ts:List Tb}{x:fg}(a:SmB ts x H H1)(b:SmT ts H1 H2):SmB ts x H H2:=a.trans ⟨λc u _ n e=>b.sm.keep c u n e,b.sm.tb,b.ok⟩
theorem SmB.then {ts:List Tb}{x:fg}(a:SmB ts x H H1)(b:Ak H1 H2):SmB ts x H H2:=a.sm (.of a.ok b)
theorem SmB.put {ts:List Tb}{x:fg}{o o':HO}(a:SmB ts x H H1)(hx:H1 x=some o)(nt:∀ps,o≠.tbl ps:=by intro ps e;cases e)(nf:∀a b,o≠.frz a b:=by intro a b e;cases e):SmB ts x H (upd H1 x o'):=by
 refine a.trans ⟨λb u n _ e=>by rw[Ai n];exact e,λb ps e=>⟨ps,?_⟩,a.ok.keepN hx nt nf⟩;rw[Ai (λz=>by rw[z,hx] at e;exact nt _ (fq e))];exact e
theorem SmB.made {ts:List Tb}{x:fg}(hx:H x=none)(hdx:H dx=none)(s:SmB ts x (upd (upd H dx (.own x)) x (.ins C dx [])) H'):SmT ts H H':=by
 have kp:∀b u,H b=some u->b≠x/\upd (upd H dx (.own x)) x (.ins C dx []) b=some u:=λb u e=>by
  have e1:b≠x:=Al e hx;have e2:b≠dx:=Al e hdx;exact⟨e1,by rw[Ai e1,Ai e2];exact e⟩
 exact⟨⟨λb u n e=>s.keep b u (kp b u e).1 n (kp b u e).2,λb ps e=>s.tb b ps (kp b _ e).2⟩,s.ok⟩
theorem SmB.free {ts:List Tb}{x d:fg}{o:HO}(s:SmB ts x H H')(hx:H' x=some o)(e:H' d=none):H d=none:=by
 cases q:H d with
 |none=>rfl
 |some u=>
  by_cases hu:∃ps,u=.tbl ps
  ·obtain⟨ps,rfl⟩:=hu
   obtain⟨ps',e2⟩:=s.tb d ps q;rw[e2] at e;cases e
  ·by_cases hdx:d=x
   ·rw[hdx,hx] at e;cases e
   ·rw[s.keep d u hdx (λps z=>hu ⟨ps,z⟩) q] at e;cases e
theorem Abk {K:eh}{Q:VK}{p:fg}(hs:SqL K H p (ns.map V.int))(q:∀m:Int,(ns=[]->m=-1)->(ns≠[]->Xr ns m)->Q (.int m) H):zC K [.ref p] [.int (-1)] H Q:=
 ⟨p,ns,_,rfl,rfl,hs,λh=>q (-1) (λ_=>rfl) (λn=>absurd h n),λm hm=>q m (λh=>by rw[h] at hm;cases hm.1) (λ_=>hm)⟩
theorem SmB.new {ts:List Tb}{x d:fg}(a:SmB ts x H H1)(b:SmB ts d H1 H2)(hd:H d=none):SmB ts x H H2:=
 ⟨λc u n1 n2 e=>b.keep c u (Al e hd) n2 (a.keep c u n1 n2 e),λc ps e=>let ⟨ps',e'⟩:=a.tb c ps e;b.tb c ps' e',b.ok⟩
theorem SmB.kp {ts:List Tb}{x b:fg}{o:HO}(s:SmB ts x H H')(hx:H x=some o)(hb:b≠x)(no:∀xs,o≠.tup xs:=by intro xs e;cases e):∀c u,(∀ps,u≠.tbl ps)->(c=b\/∃xs,u=.tup xs)->H c=some u->H' c=some u:=λc u n h e=>by
 refine s.keep c u (λz=>?_) n e;rcases h with h|⟨xs,h⟩
 ·exact hb (h▸z)
 ·rw[z,hx,h] at e
  exact no _ (fq e)
theorem SmT.kp {ts:List Tb}{b:fg}(s:SmT ts H H'):∀c u,(∀ps,u≠.tbl ps)->(c=b\/∃xs,u=.tup xs)->H c=some u->H' c=some u:=λc u n _ e=>s.sm.keep c u n e
theorem oX (ds:Za4):jG ((J8 ds).map V.int):=λj hj=>by
 rw[fb,Hd] at hj;have hj2:j<(J8 ds).length:=by rw[Hd];exact hj
 have hm:=Y5 (GU hj2);have e:(J8 ds)[j]?=some (J8 ds)[j]:=fc hj2;generalize (J8 ds)[j]=x at hm e;obtain⟨n,rfl⟩:∃n:Nat,x=(n:Int):=⟨x.toNat,by lia⟩;refine⟨n,Zt e,by rw[fb,Hd];lia,λi hi he=>?_⟩;obtain⟨y,hy,hz⟩:=Ta he;rw[<-V.int.inj hz] at hy;have:=wm.mp (gZ ds) i j (by lia) hj2 hi;rw[fc (show i<(J8 ds).length by lia)] at hy;rw[fc hj2] at e;exact this ((fq hy).trans (fq e).symm)
theorem wK {ds:Za4}(h:Dok ds):(Ca ds ds.length (-1)).length::(J8 ds).map (λv=>(Ca ds ds.length v).length)=gsL ds:=by
 unfold gsL;rw[uI h,j1];rfl
theorem Zn {ds:Za4}(h:Dok ds)(k:Nat):pre (gsL ds) k<=ds.length:=(Gb h).2▸Wo (gsL ds) k
theorem wX {ds:Za4}(h:Dok ds){k:Nat}(hk:k<ds.length):k<pre (gsL ds) (k+1):=by
 have h1:k+1<1+((gsL ds).take (k+1)).sum:=(pV h).at (k+1) (by rw[(Gb h).1];lia);show k<((gsL ds).take (k+1)).sum;lia
theorem yM {ns:Za4}{g:Nat}(hg:g<ns.length):(occ false (grB ns) (grB ns).length)[g]?=some (pre ns (g+1)+g):=by
 have h:=(rA (fc hg)).1;rw[h];congr 1;unfold gB;rw[T2 hg];unfold pre;lia
inductive kM (K:eh)(ts:List Tb)(vs:List V)(H:Hp)(Q:VK)(E:XK):Prop|mk(a:fg)(ns:List Int)(_:vs=[.ref a])(_:SqL K H a (ns.map V.int))(_:ns.length<=63)(_:Tbs ts H)(_:∀H',Q (.bl true) H')
abbrev tz:List Tb:=[⟨509,Fl,"Counts.block_with.<locals>.<lambda>"⟩,⟨620,J5,"level_order.<locals>.<lambda>"⟩]
abbrev AllMk:Prop:=∀{l:AA} {w:ir} {K:eh} {h:jo} {mg:Za2} {fa:fg} (X:K.In h) (G:h.Ns mainGlobals mg) (hfa:mg "law"=some (.ref fa))
  {ag:fg}
  {ad:fg}
  {aq:fg}
  {aa:fg}
  {f0:fg} {od0 an0:Option fg} {sl0:Array (Za7)} {oc0 kV0 dc0 pm0 cd0 ct0:fv}
  {f25:fg} {od25 an25:Option fg} {sl25:Array (Za7)} {oc25 kV25 dc25 pm25 ct25:fv}
  {oo25:Obj}
  {f32:fg} {od32 an32:Option fg} {sl32:Array (Za7)} {oc32 kV32 dc32 pm32 cd32 ct32:fv}
  {T32:fg} {oT32:Obj} {vT32:fv} {nT32:Nat}
  {f35:fg} {od35 an35:Option fg} {sl35:Array (Za7)} {oc35 kV35 dc35 pm35 ct35:fv}
  {oo35:Obj}
  {aJ:fg} {o_ONES_OF_FOUR:Obj} {i_ONES_OF_FOUR:Array fv} {n_ONES_OF_FOUR:Nat}
  {aK:fg} {o_SIGNS_OF_FOUR:Obj} {i_SIGNS_OF_FOUR:Array fv} {n_SIGNS_OF_FOUR:Nat}
  {t_WORD_BITS:Tok}
  {t_MOST_BITS:Tok}
  {t_BLOCK_WORDS:Tok}
  {t_BLOCK_BITS:Tok}
  {t_FULL_WORD:Tok}
  {t_MOST_KNOTS:Tok}
  {t_MARK_STEP:Tok}
  {ao:fg}
  {am:fg}
  {ah:fg}
  {ai:fg}
  {au:fg}
  {av:fg}
  {ax:fg}
  {az:fg}
  {aA:fg}
  {aB:fg}
  {aC:fg}
  {aD:fg}
  {aE:fg}
  {aF:fg}
  {aG:fg}
  {aH:fg}
  {nm_NoWood qn_NoWood:Str} {N_NoWood:fg} {bs_NoWood:Za3} {sn_NoWood:Za6} {sub_NoWood:Za3} {ab_NoWood:Bool} {col_NoWood:Option Bool} {dd_NoWood:Option fg} {k0_NoWood k1_NoWood k2_NoWood k3_NoWood k5_NoWood:Za7}
  (cd_Bits:CD K ag "Bits")
  (fd_Bits:FD K ag ["length","many_ones","kept_words"])
  (cd_Counts:CD K ad "Counts")
  (fd_Counts:FD K ad ["length","kept_words","kept_table"])
  (cd_Shortcuts:CD K aq "Shortcuts")
  (fd_Shortcuts:FD K aq ["onward","leaps"])
  (cd_Levelled:CD K aa "Levelled")
  (fd_Levelled:FD K aa ["knots","bits","counts","places","begins","level_count","widest_level","leaps"])
  (i0:vn K (.ref f0)=true)
  (a0:lf K (.ref ai) "__init__"=some (some (.ref f0))) (l0:K.lookup f0=some ⟨oc0,od0,.func (kl "__init__" "NoWood.__init__" (Bs Di) (Bf Di) (Ae Di) .none kV0 dc0 pm0 an0 cd0 ct0),sl0⟩) (c0:m7 K cd0 "NoWood.__init__"=true) (k0:k8 K (.ref f0)=true)
  (g1:GD K "is_whole" Ms)
  (g2:GD K "is_within" Ks)
  (g3:GD K "check_bit" Kz)
  (g4:GD K "check_place" Ie)
  (g5:GD K "check_from_nought" D4)
  (g6:GD K "check_knot" Jj)
  (g7:GD K "ones_in" Os)
  (g8:GD K "nth_of_four" F9)
  (g9:GD K "nth_one" Oy)
  (g10:GD K "is_row" Tg)
  (g11:GD K "word_of" O8)
  (g12:GD K "words_of" Ju)
  (g13:MD K ag "__init__" "Bits.__init__" Kt)
  (g14:MD K ag "size" "Bits.size" K0)
  (g15:MD K ag "words" "Bits.words" Jf)
  (g16:MD K ag "bit" "Bits.bit" Mj)
  (g17:GD K "first_that" Jn)
  (g18:GD K "running_sums" Hh)
  (g19:GD K "table_of_words" C5)
  (g20:MD K ad "__init__" "Counts.__init__" Ic)
  (g21:MD K ad "ones_ahead" "Counts.ones_ahead" D8)
  (g22:MD K ad "ahead" "Counts.ahead" Hi)
  (g23:MD K ad "ahead_of_block" "Counts.ahead_of_block" C3)
  (g24:MD K ad "many_like" "Counts.many_like" Er)
  (i25:vn K (.ref f25)=true)
  (a25:lf K (.ref ad) "block_with"=some (some (.ref f25))) (l25:K.lookup f25=some ⟨oc25,od25,.func (kl "block_with" "Counts.block_with" (Bs Bh) (Bf Bh) (Ae Bh) .none kV25 dc25 pm25 an25 (.ref 513) ct25),sl25⟩) (c25:m7 K (.ref 513) "Counts.block_with"=true) (k25:k8 K (.ref f25)=true)
  (lc25:K.lookup 513=some oo25) (hc25:Ly oo25 513 509)
  (g26:MD K ad "place_from" "Counts.place_from" D1)
  (g27:MD K ad "place_of" "Counts.place_of" Fi)
  (g28:GD K "begins_of" Hv)
  (g29:GD K "check_order" Ib)
  (g30:GD K "rounds_of" Kx)
  (g31:GD K "shortcuts_of" Hc)
  (i32:vn K (.ref f32)=true)
  (a32:lf K (.ref aq) "__init__"=some (some (.ref f32))) (l32:K.lookup f32=some ⟨oc32,od32,.func (kl "__init__" "Shortcuts.__init__" (Bs B1) (Bf B1) (Ae B1) (.ref T32) kV32 dc32 pm32 an32 cd32 ct32),sl32⟩) (c32:m7 K cd32 "Shortcuts.__init__"=true) (k32:k8 K (.ref f32)=true)
  (lT32:K.lookup T32=some oT32) (dT32:oT32.data=.seq #[vT32] nT32)
  (eT32:A9 (.int 16) vT32)
  (g33:GD K "look_at" Pb)
  (g34:GD K "depths_of" Km)
  (a35:ij K mainGlobals "level_order"=some (some (.ref f35))) (l35:K.lookup f35=some ⟨oc35,od35,.func (kl "level_order" "level_order" (Bs Df) (Bf Df) (Ae Df) .none kV35 dc35 pm35 an35 (.ref 624) ct35),sl35⟩) (c35:m7 K (.ref 624) "level_order"=true) (k35:k8 K (.ref f35)=true)
  (lc35:K.lookup 624=some oo35) (hc35:Ly oo35 624 620)
  (g36:GD K "children_counted" El)
  (g37:GD K "counted_row" F7)
  (g38:GD K "thin_rest" K5)
  (g39:GD K "level_row" Hr)
  (g40:GD K "widest_of" Ka)
  (g41:MD K aa "down" "Levelled.down" Gr)
  (g42:MD K aa "far_down" "Levelled.far_down" D6)
  (g43:MD K aa "left_below" "Levelled.left_below" Dl)
  (g44:MD K aa "mark_leaps" "Levelled.mark_leaps" Dj)
  (g45:MD K aa "__init__" "Levelled.__init__" Gs)
  (g46:MD K aa "elders" "Levelled.elders" B8)
  (g47:MD K aa "many" "Levelled.many" Gp)
  (g48:MD K aa "nth" "Wood.nth" Mo)
  (g49:MD K aa "first" "Wood.first" Jr)
  (g50:MD K aa "last" "Wood.last" Kb)
  (g51:MD K aa "own_place" "Levelled.own_place" Dp)
  (g52:MD K aa "beneath" "Levelled.beneath" Eo)
  (g53:MD K aa "depth" "Levelled.depth" Fu)
  (g54:MD K aa "child_place" "Levelled.child_place" Dc)
  (g55:MD K aa "left" "Levelled.left" Go)
  (g56:MD K aa "elder" "Levelled.elder" F1)
  (g57:MD K aa "right" "Levelled.right" Fz)
  (g58:MD K aa "level" "Levelled.level" Fx)
  (g59:MD K aa "level_of" "Levelled.level_of" D7)
  (g60:GD K "_law_cell_at" Hw)
  (g61:GD K "_law_twice" La)
  (g62:GD K "_law_grown" Kp)
  (g63:GD K "_law_drawn" Ku)
  (g64:GD K "_law_repeated" E7)
  (g65:GD K "_law_wood" Mn)
  (g66:GD K "_law_class" Ke)
  (g67:GD K "_law_bar" O5)
  (g68:GD K "_law_spoilt" Jo)
  (g69:GD K "_law_refused" Ia)
  (g70:GD K "_law_made" Mz)
  (g71:GD K "_law_no_knots" Hf)
  (g72:GD K "_law_no_number" Gq)
  (g73:GD K "law" Vj)
  (cP:ij K mainGlobals "ONES_OF_FOUR"=some (some (.ref aJ))) (o1_ONES_OF_FOUR:K.lookup aJ=some o_ONES_OF_FOUR) (o2_ONES_OF_FOUR:o_ONES_OF_FOUR.cls=.type "tuple") (o3_ONES_OF_FOUR:o_ONES_OF_FOUR.data=.seq i_ONES_OF_FOUR n_ONES_OF_FOUR) (o4_ONES_OF_FOUR:i_ONES_OF_FOUR.size<=sizeLine) (o5_ONES_OF_FOUR:Av (Vn.map λn:Nat=>V.int n) i_ONES_OF_FOUR.toList)
  (cY:ij K mainGlobals "SIGNS_OF_FOUR"=some (some (.ref aK))) (o1_SIGNS_OF_FOUR:K.lookup aK=some o_SIGNS_OF_FOUR) (o2_SIGNS_OF_FOUR:o_SIGNS_OF_FOUR.cls=.type "tuple") (o3_SIGNS_OF_FOUR:o_SIGNS_OF_FOUR.data=.seq i_SIGNS_OF_FOUR n_SIGNS_OF_FOUR) (o4_SIGNS_OF_FOUR:i_SIGNS_OF_FOUR.size<=sizeLine) (o5_SIGNS_OF_FOUR:Av (uU) i_SIGNS_OF_FOUR.toList)
  (cJ:ij K mainGlobals "WORD_BITS"=some (some (.int 32 t_WORD_BITS)))
  (cU:ij K mainGlobals "MOST_BITS"=some (some (.int 20000 t_MOST_BITS)))
  (cM:ij K mainGlobals "BLOCK_WORDS"=some (some (.int 8 t_BLOCK_WORDS)))
  (cT:ij K mainGlobals "BLOCK_BITS"=some (some (.int 256 t_BLOCK_BITS)))
  (cX:ij K mainGlobals "FULL_WORD"=some (some (.int 4294967295 t_FULL_WORD)))
  (cR:ij K mainGlobals "MOST_KNOTS"=some (some (.int 4000 t_MOST_KNOTS)))
  (cK:ij K mainGlobals "MARK_STEP"=some (some (.int 16 t_MARK_STEP)))
  (z_range:ij K mainGlobals "range"=some none)
  (z_len:ij K mainGlobals "len"=some none)
  (z_int:ij K mainGlobals "int"=some none)
  (z_bool:ij K mainGlobals "bool"=some none)
  (z_str:ij K mainGlobals "str"=some none)
  (z_isinstance:ij K mainGlobals "isinstance"=some none)
  (z_list:ij K mainGlobals "list"=some none)
  (z_tuple:ij K mainGlobals "tuple"=some none)
  (z_dict:ij K mainGlobals "dict"=some none)
  (z_enumerate:ij K mainGlobals "enumerate"=some none)
  (z_zip:ij K mainGlobals "zip"=some none)
  (z_sum:ij K mainGlobals "sum"=some none)
  (z_abs:ij K mainGlobals "abs"=some none)
  (z_max:ij K mainGlobals "max"=some none)
  (z_min:ij K mainGlobals "min"=some none)
  (z_sorted:ij K mainGlobals "sorted"=some none)
  (z_ValueError:ij K mainGlobals "ValueError"=some none)
  (eg_WoodError:ij K mainGlobals "WoodError"=some (some (.ref ao)))
  (eg_NoPlace:ij K mainGlobals "NoPlace"=some (some (.ref am)))
  (eg_NoKnot:ij K mainGlobals "NoKnot"=some (some (.ref ah)))
  (eg_NoWood:ij K mainGlobals "NoWood"=some (some (.ref ai)))
  (eg_NoBits:ij K mainGlobals "NoBits"=some (some (.ref au)))
  (eg_NoRow:ij K mainGlobals "NoRow"=some (some (.ref av)))
  (eg_NoOrder:ij K mainGlobals "NoOrder"=some (some (.ref ax)))
  (eg_NoName:ij K mainGlobals "NoName"=some (some (.ref az)))
  (eg_NoFit:ij K mainGlobals "NoFit"=some (some (.ref aA)))
  (eg_NoGraft:ij K mainGlobals "NoGraft"=some (some (.ref aB)))
  (eg_TooLarge:ij K mainGlobals "TooLarge"=some (some (.ref aC)))
  (eg_NoDeed:ij K mainGlobals "NoDeed"=some (some (.ref aD)))
  (eg_NoNumber:ij K mainGlobals "NoNumber"=some (some (.ref aE)))
  (eg_NoLine:ij K mainGlobals "NoLine"=some (some (.ref aF)))
  (eg_Nobody:ij K mainGlobals "Nobody"=some (some (.ref aG)))
  (eg_Nameless:ij K mainGlobals "Nameless"=some (some (.ref aH)))
  (ex_WoodError:ui K ao Fk "ValueError.__new__"=true)
  (bg_WoodError:ET K (.ref ao) "__getattribute__"=some (some (.builtin "type.__getattribute__")))
  (br_WoodError:PySem.W.readsIn K ao (.type "type")=true)
  (bi_WoodError:PySem.W.findCls K (.ref ao) (.type "type") "__init__"=some (.val (.builtin "ValueError.__init__")))
  (ex_NoPlace:ui K am Fk "ValueError.__new__"=true)
  (xk_NoPlace:Id K am)
  (cW:exmOne K (.ref am) (.ref ao)=some true)
  (ex_NoKnot:ui K ah Fk "ValueError.__new__"=true)
  (xk_NoKnot:Id K ah)
  (cV:exmOne K (.ref ah) (.ref ao)=some true)
  (sa_NoWood:lf K (.ref ai) "__setattr__"=some (some (.builtin "object.__setattr__")))
  (pl_NoWood:lf K (.ref ai) "place"=some none)
  (xk_NoWood:Id K ai)
  (cS:exmOne K (.ref ai) (.ref ao)=some true)
  (de:exmOne K (.ref ai) (.ref ai)=some true)
  (cF:KL K ah [(.ref ao,true),(.type "ValueError",true),(.ref ah,true),(.ref am,false),(.ref ai,false),(.ref au,false),(.ref av,false),(.ref ax,false),(.ref az,false),(.ref aA,false),(.ref aB,false),(.ref aC,false),(.ref aD,false),(.ref aE,false),(.ref aF,false),(.ref aG,false),(.ref aH,false)])
  (cG:KL K am [(.ref ao,true),(.type "ValueError",true),(.ref ah,false),(.ref am,true),(.ref ai,false),(.ref au,false),(.ref av,false),(.ref ax,false),(.ref az,false),(.ref aA,false),(.ref aB,false),(.ref aC,false),(.ref aD,false),(.ref aE,false),(.ref aF,false),(.ref aG,false),(.ref aH,false)])
  (cE:KL K ai [(.ref ao,true),(.type "ValueError",true),(.ref ah,false),(.ref am,false),(.ref ai,true),(.ref au,false),(.ref av,false),(.ref ax,false),(.ref az,false),(.ref aA,false),(.ref aB,false),(.ref aC,false),(.ref aD,false),(.ref aE,false),(.ref aF,false),(.ref aG,false),(.ref aH,false)])
  (ob_NoWood:K.lookup ai=some (excClassObj nm_NoWood qn_NoWood ai N_NoWood bs_NoWood (.ref ao::Fk) true sn_NoWood sub_NoWood ab_NoWood col_NoWood dd_NoWood k0_NoWood k1_NoWood k2_NoWood k3_NoWood k5_NoWood "ValueError.__new__")),
   ∃fd:ke,(∀(s:fw) (v:fv),BX s fd ⟨[v],[]⟩ [("_law_script",v)])/\∀base:jo,K.In base->base.Ns mainGlobals mg->(∀q∈([(513,509),(624,620)]:List (fg×fg)),base.BuiltinsAt mg q.2)->As l.prog w K mg base CX0 12 fa fd ["_law_script"] (kM K tz)
theorem walk {l:AA}{q:gv}{loose:Za6}{XP:(Za2)->jo->Prop}{YP:ir->jo->Prop}{d:MO}{K:CS->eh}(hn:l.most=some 63)(hdf:d.params.defaults=[])
  (hY:∀(w:ir) (h:jo),YP w h->(K w.params).In h)(hTb:∀(w:ir) (h:jo),YP w h->AY [(513,509),(624,620)] h)(hTK:∀w:ir,∀p∈([(513,509),(624,620)]:List (fg×fg)),(K w.params).lookup p.2=none)
  (F:∀(w:ir) (mg:Za2) (fa:fg) (h:jo),(K w.params).In h->h.Ns mainGlobals mg->mg d.name=some (.ref fa) ->
   ∃fd:ke,(∀(s:fw) (u:fv),BX s fd ⟨[u],[]⟩ [("_law_script",u)])/\∀base:jo,(K w.params).In base->base.Ns mainGlobals mg->(∀q∈([(513,509),(624,620)]:List (fg×fg)),base.BuiltinsAt mg q.2)->As l.prog w (K w.params) mg base CX0 12 fa fd ["_law_script"] (kM (K w.params) tz)) :
  GQ q loose XP YP l.row.toRowW d [] (λf vs=>FG f vs):=
 L2.oE (n:=63) (k:=12) (x:="_law_script") (tabs:=[(513,509),(624,620)]) (CX:=λ_=>CX0) (sp:=λw=>(kM (K w.params) tz)) hn (by decide) hdf ⟨rfl,by decide,by decide⟩ hY hTb hTK F (λ_ _ a ns hl hO hS=>⟨a,ns,rfl,hS,hl,⟨pi.mpr ⟨⟨#[],hO (513,509) (by simp),trivial,.inl rfl⟩,pi.mpr ⟨⟨#[],hO (624,620) (by simp),trivial,.inl rfl⟩,λ_ h=>nomatch h⟩⟩,by decide⟩,λ_=>rfl⟩) λ_ _ _ _ _ z=>z
end TK
end
section
noncomputable def PySem.W.Fast.tw13134610716178959597:IC:=iu
theorem PySem.W.Fast.te13134610716178959597:iu=PySem.W.Fast.tw13134610716178959597:=rfl
noncomputable def HD.loose:List GG:=[fj "_wall",fj "WoodError",fj "NoBits",fj "NoPlace",fj "NoRow",fj "NoWood",fj "NoKnot",fj "NoOrder",fj "NoName",fj "NoFit",fj "NoGraft",fj "TooLarge",fj "NoDeed",fj "NoNumber",fj "NoLine",fj "Nobody",fj "Nameless",fj "is_whole",fj "is_within",fj "check_bit",fj "check_place",fj "check_stretch",fj "check_from_nought",fj "check_knot",fj "WORD_BITS",fj "FULL_WORD",fj "ONES_OF_FOUR",fj "ones_in",fj "nth_of_four",fj "nth_one",fj "MOST_BITS",fj "SIGNS_OF_FOUR",fj "is_row",fj "word_of",fj "words_of",fj "signs_of",fj "Bits",fj "BLOCK_WORDS",fj "BLOCK_BITS",fj "first_that",fj "running_sums",fj "table_of_words",fj "Counts",fj "begins_of",fj "check_order",fj "rounds_of",fj "shortcuts_of",fj "Shortcuts",fj "MOST_KNOTS",fj "MARK_STEP",fj "look_at",fj "depths_of",fj "level_order",fj "children_counted",fj "counted_row",fj "thin_rest",fj "Wood",fj "level_row",fj "widest_of",fj "Levelled",fj "_law_cell_at",fj "_law_twice",fj "_law_grown",fj "_law_drawn",fj "_law_repeated",fj "_law_wood",fj "_law_class",fj "_law_bar",fj "_law_spoilt",fj "_law_refused",fj "_law_made",fj "_law_no_knots",fj "_law_no_number"]
def HD.LD:PySem.DefRec:=HD.recOf (iu.main.body.getD 82 (.Pass ⟨0,0,0,0⟩))
def HD.VQ:IC:=PySem.W.view iu [82]
theorem HD.A_ok (w:JC):(λos=>HD.oneA (HD.bootT w os) (PySem.W.boot_heap w.params) HD.bootSize iu 100000 w)=(λ_=>some true):=by rw[HD.oneA_eq];kernel_rfl
theorem HD.B_ok (w:JC):(λos=>HD.oneB (HD.bootT w os) HD.bootSize iu HD.VQ HD.loose 100000 w)=(λ_=>some (PySem.W.openGood HD.VQ HD.loose)):=by rw[HD.oneB_eq];kernel_rfl
set_option hygiene false in
local macro_rules | `(tactic| o_head $H)=>`(tactic| (refine PySem.W.holds_open (q:=HD.VQ) (loose:=HD.loose) (d:=HD.LD) (kwd:=[]) (Xt:=λ_=>true) (XP:=λ_ _=>True) (Yf:=DD $H) (Ya:=DC $H) (YP:=KR $H) (N:=100000) (HD.left_of3 (p:=iu) (q:=HD.VQ) (loose:=HD.loose) (Yf:=DD $H) (Ya:=DC $H) (N:=100000) (M:=100000) (by kernel_rfl) (λ_=>by kernel_rfl) (by kernel_rfl) (by kernel_rfl) HD.A_ok HD.B_ok (HD.hC_km (λw=>by rw [HD.oneP_eq];kernel_rfl))) (KS $H) (KT $H) (λ_ _=>trivial) (λ_ _ _ _ _=>trivial) (by kernel_rfl) (by kernel_rfl) (by kernel_rfl) (λ_ _=>PySem.W.recFacts_nil rfl) rfl (by assumption) (by decide +kernel) ⟨rfl,rfl,rfl,rfl,rfl,by decide +kernel⟩ ?_ ?_))
open PySem PySem.W PyProof.Rows
set_option maxRecDepth 100000 in
set_option maxHeartbeats 0 in
theorem TK.HEAD (AM:TK.AllMk):n8.Holds:=by
 w_on;o_law;k_head
 ·w_witness2
 k_fill
 refine TK.walk (l:=n8) rfl (by kernel_rfl) (λw h Y=>zp Y) (λw h Y=>pi.mpr ⟨⟨DY (c:=513) (P:=509) (zp Y) (by kernel_rfl),EK Y 509 (by simp)⟩,pi.mpr ⟨⟨DY (c:=624) (P:=620) (zp Y) (by kernel_rfl),EK Y 620 (by simp)⟩,λ_ h=>nomatch h⟩⟩) (λw=>pi.mpr ⟨by kernel_rfl,pi.mpr ⟨by kernel_rfl,λ_ h=>nomatch h⟩⟩) ?F
 case F=>
  intro w mg fa h KX G hmg;refine' AM KX G hmg ?cd_Bits ?fd_Bits ?cd_Counts ?fd_Counts ?cd_Shortcuts ?fd_Shortcuts ?cd_Levelled ?fd_Levelled ?i0 ?a0 ?l0 ?c0 ?k0 ?g1 ?g2 ?g3 ?g4 ?g5 ?g6 ?g7 ?g8 ?g9 ?g10 ?g11 ?g12 ?g13 ?g14 ?g15 ?g16 ?g17 ?g18 ?g19 ?g20 ?g21 ?g22 ?g23 ?g24 ?i25 ?a25 ?l25 ?c25 ?k25 ?lc25 ?hc25 ?g26 ?g27 ?g28 ?g29 ?g30 ?g31 ?i32 ?a32 ?l32 ?c32 ?k32 ?lT32 ?dT32 ?eT32 ?g33 ?g34 ?a35 ?l35 ?c35 ?k35 ?lc35 ?hc35 ?g36 ?g37 ?g38 ?g39 ?g40 ?g41 ?g42 ?g43 ?g44 ?g45 ?g46 ?g47 ?g48 ?g49 ?g50 ?g51 ?g52 ?g53 ?g54 ?g55 ?g56 ?g57 ?g58 ?g59 ?g60 ?g61 ?g62 ?g63 ?g64 ?g65 ?g66 ?g67 ?g68 ?g69 ?g70 ?g71 ?g72 ?g73 ?cP ?o1_ONES_OF_FOUR ?o2_ONES_OF_FOUR ?o3_ONES_OF_FOUR ?o4_ONES_OF_FOUR ?o5_ONES_OF_FOUR ?cY ?o1_SIGNS_OF_FOUR ?o2_SIGNS_OF_FOUR ?o3_SIGNS_OF_FOUR ?o4_SIGNS_OF_FOUR ?o5_SIGNS_OF_FOUR ?cJ ?cU ?cM ?cT ?cX ?cR ?cK ?z_range ?z_len ?z_int ?z_bool ?z_str ?z_isinstance ?z_list ?z_tuple ?z_dict ?z_enumerate ?z_zip ?z_sum ?z_abs ?z_max ?z_min ?z_sorted ?z_ValueError ?eg_WoodError ?eg_NoPlace ?eg_NoKnot ?eg_NoWood ?eg_NoBits ?eg_NoRow ?eg_NoOrder ?eg_NoName ?eg_NoFit ?eg_NoGraft ?eg_TooLarge ?eg_NoDeed ?eg_NoNumber ?eg_NoLine ?eg_Nobody ?eg_Nameless ?ex_WoodError ?bg_WoodError ?br_WoodError ?bi_WoodError ?ex_NoPlace ?xk_NoPlace ?cW ?ex_NoKnot ?xk_NoKnot ?cV ?sa_NoWood ?pl_NoWood ?xk_NoWood ?cS ?de ?cF ?cG ?cE ?ob_NoWood
  (case eg_WoodError|eg_NoPlace|eg_NoKnot|eg_NoWood|eg_NoBits|eg_NoRow|eg_NoOrder|eg_NoName|eg_NoFit|eg_NoGraft|eg_TooLarge|eg_NoDeed|eg_NoNumber|eg_NoLine|eg_Nobody|eg_Nameless=>k_is)
  (case cd_Bits|cd_Counts|cd_Shortcuts|cd_Levelled=>refine' ⟨?_,?_,?_⟩<;>try k_is)
  (case fd_Bits|fd_Counts|fd_Shortcuts|fd_Levelled=>refine' L2.fD ?_ ?_ ?_ ?_ ?_<;>try first|k_is|kernel_rfl)
  (case g1|g2|g3|g4|g5|g6|g7|g8|g9|g10|g11|g12|g17|g18|g19|g28|g29|g30|g31|g33|g34|g36|g37|g38|g39|g40|g60|g61|g62|g63|g64|g65|g66|g67|g68|g69|g70|g71|g72|g73=>refine' L2.gD ?_ ?_ ?_ ?_<;>try k_is)
  (case g13|g14|g15|g16|g20|g21|g22|g23|g24|g26|g27|g41|g42|g43|g44|g45|g46|g47|g48|g49|g50|g51|g52|g53|g54|g55|g56|g57|g58|g59=>refine' L2.mD ?_ ?_ ?_ ?_ ?_<;>try k_is)
  (case xk_NoPlace|xk_NoKnot|xk_NoWood=>refine' ⟨?_,?_,?_,?_,?_,?_,?_⟩<;>k_is)
  (case cF|cG|cE=>(repeat' refine EF ?_ ?_)<;>first|kit_is|exact trivial)
  (case ex_WoodError|ex_NoPlace|ex_NoKnot=>k_exc)
  (case cW|cV|cS|de=>kts_exm)
  (case cJ|cU|cM|cT|cX|cR|cK|z_range|z_len|z_int|z_bool|z_str|z_isinstance|z_list|z_tuple|z_dict|z_enumerate|z_zip|z_sum|z_abs|z_max|z_min|z_sorted|z_ValueError|bg_WoodError|br_WoodError|bi_WoodError|sa_NoWood|pl_NoWood|a0|l0|c0|k0|i0|a25|l25|c25|k25|i25|lc25=>k_is)
  (case hc25=>exact⟨_,_,_,_,_,_,_,_,rfl,rfl,rfl,rfl,rfl,rfl,rfl,rfl,by decide⟩)
  (case a32|l32|c32|k32|i32|lT32=>k_is)
  (case dT32=>rfl)
  (case eT32=>exact⟨_,rfl⟩)
  (case a35|l35|c35|k35|lc35=>k_is)
  (case hc35=>exact⟨_,_,_,_,_,_,_,_,rfl,rfl,rfl,rfl,rfl,rfl,rfl,rfl,by decide⟩)
  (case cP|o1_ONES_OF_FOUR=>k_is)
  (case o2_ONES_OF_FOUR=>rfl);(case o3_ONES_OF_FOUR=>rfl);(case o4_ONES_OF_FOUR=>decide);(case o5_ONES_OF_FOUR=>repeat (first|exact .nil|refine .cons ⟨_,rfl⟩ ?_))
  (case cY|o1_SIGNS_OF_FOUR=>k_is)
  (case o2_SIGNS_OF_FOUR=>rfl);(case o3_SIGNS_OF_FOUR=>rfl);(case o4_SIGNS_OF_FOUR=>decide);(case o5_SIGNS_OF_FOUR=>repeat (first|exact .nil|refine .cons ⟨_,rfl⟩ ?_))
  (case ob_NoWood=>k_is)
end
section
set_option hygiene false in
local macro_rules | `(tactic| exists $x)=>`(tactic| (refine $x (λvs H Q E h=>?_) (λcdv A outer s H vs Q E hr h=>?_);focus(first|(cases h;subst_vars;rfl)|(obtain⟨_,h⟩:=h;cases h;subst_vars;rfl))))
set_option hygiene false in
local macro_rules | `(tactic| walk_at "rd")=>`(tactic| repeat (first | (with_reducible first|refine Adp ?_|refine Ab4 ?_|refine Ad1 ?_|refine xU ?_|refine Aep ?_|refine Aay ?_|refine Aer ?_|refine Aau ?_|refine Afk ?_|refine Afc ?_|refine Ado ?_|refine Afq ?_|refine Adm ?_|refine Aam ?_|refine Af5 ?_|refine Af1 ?_|refine Afs ?_|refine r_c ?_|refine yR ?_|refine Aed ?_|refine Afu ?_|refine Ac9 ?_|refine Adz ?_|refine Acy ?_|refine Acv ?_|refine Afl ?_|refine Adh ?_|refine Aeq ?_|refine Afg ?_|refine Ad3 ?_|refine Afi ?_|refine qN ?_|refine Aba ?_|refine Adc ?_|refine Aa6 ?_|refine Abs ?_|refine wC ?_|refine Aat ?_|refine Afz ?_|refine Ae3 ?_|refine Aeu ?_|refine vN ?_|refine Abb ?_|refine Acc ?_|refine Aeo ?_|refine Abz ?_|refine Aaw ?_|refine Abw ?_|refine Ac8 ?_|refine Ae0 ?_|refine Ach ?_|refine xV ?_|refine Aet ?_|refine Ab5 ?_|refine Aa2 ?_|refine vP ?_|refine Acg ?_|refine rP ?_|refine xO ?_|refine tX ?_|refine Abo ?_|refine xI ?_|refine Afa ?_|refine wP ?_|refine Abm ?_|refine Abq ?_|refine Aci ?_|refine Aa8 ?_|refine Yw (by decide) ?_|refine pF (by decide) ?_|refine sB (by decide) (by decide) ?_|refine tS (by decide) (by decide) ?_|refine Aav (by decide) (by decide) ?_|refine Ads rfl ?_|refine Adr rfl ?_|refine Af6 ?_|refine Afy ?_|refine Adi ?_|refine Adk ?_) | refine Aey rfl ?_ | refine Adg rfl ?_ | dsimp only))
namespace TK
open PySem L2 TW
variable {C Pt dx i1 i2 it l1 l2 z:fg} {params:o8} {A:ji} {CX:CXT} {op:yx} {X:Cx} {env:Env} {tg:jc} {fd:ke} {base h h' h1:jo} {H H' H1 H2:Hp} {J:It} {pins:Za1} {fp:List fg} {outer:List Env} {es:List jc} {kz ns:List Int} {l0:List ic} {cs ix:Za4} {N ps:Za6} {xs ys:List V} {us vs:Za3} {M:yl} {t':Nat} {oT:Obj} {an od:Option fg} {cpos lpos pos:Pos} {scope:ol} {pl:Sem Bool} {s s2:fw} {sp:Sp} {qual:Str} {te to:TE} {wi:TI} {y:V} {cdv ct doc oc pm:fv} {w:ir}
local macro_rules | `(tactic| k_is)=>`(tactic| walk_at "rd")
local macro_rules | `(tactic| apply $t)=>`(tactic| (k_is;refine $t))
structure Qc (K:eh) (C:fg):Prop where
 cl:Cls K C
 cQ:Bo K C "length"
 d6:Bo K C "many_ones"
 cL:Bo K C "kept_words"
structure Qb (K:eh) (C:fg):Prop where
 cl:Cls K C
 cQ:Bo K C "length"
 cL:Bo K C "kept_words"
 df:Bo K C "kept_table"
structure Qd (K:eh) (C:fg):Prop where
 cl:Cls K C
 dD:Bo K C "onward"
 cO:Bo K C "leaps"
structure Qa (K:eh) (C:fg):Prop where
 cl:Cls K C
 cN:Bo K C "knots"
 dq:Bo K C "bits"
 dw:Bo K C "counts"
 d4:Bo K C "places"
 dJ:Bo K C "begins"
 dW:Bo K C "level_count"
 dX:Bo K C "widest_level"
 cO:Bo K C "leaps"
structure Txt (P:gv) (w:ir) (base:jo) (ts:List Tb) (K:eh) (mg:Za2) (aJ:fg) (aK:fg) (ao:fg) (am:fg) (ah:fg) (ai:fg) (au:fg) (av:fg) (ax:fg) (az:fg) (aA:fg) (aB:fg) (aC:fg) (aD:fg) (aE:fg) (aF:fg) (aG:fg) (aH:fg):Prop where
 dA:mg "WoodError"=some (.ref ao)
 ef:mg "NoPlace"=some (.ref am)
 dR:mg "NoKnot"=some (.ref ah)
 dF:mg "NoWood"=some (.ref ai)
 dM:mg "NoBits"=some (.ref au)
 eg:mg "NoRow"=some (.ref av)
 dY:mg "NoOrder"=some (.ref ax)
 dH:mg "NoName"=some (.ref az)
 dS:mg "NoFit"=some (.ref aA)
 d9:mg "NoGraft"=some (.ref aB)
 dL:mg "TooLarge"=some (.ref aC)
 d7:mg "NoDeed"=some (.ref aD)
 ed:mg "NoNumber"=some (.ref aE)
 d3:mg "NoLine"=some (.ref aF)
 d5:mg "Nobody"=some (.ref aG)
 ee:mg "Nameless"=some (.ref aH)
 bw:zA K mg "WoodError" ao
 dZ:Exc K mg "NoPlace" am
 d8:Id K am
 cW:exmOne K (.ref am) (.ref ao)=some true
 dQ:Exc K mg "NoKnot" ah
 dN:Id K ah
 cV:exmOne K (.ref ah) (.ref ao)=some true
 cZ:Id K ai
 cS:exmOne K (.ref ai) (.ref ao)=some true
 de:exmOne K (.ref ai) (.ref ai)=some true
 cF:KL K ah [(.ref ao,true),(.type "ValueError",true),(.ref ah,true),(.ref am,false),(.ref ai,false),(.ref au,false),(.ref av,false),(.ref ax,false),(.ref az,false),(.ref aA,false),(.ref aB,false),(.ref aC,false),(.ref aD,false),(.ref aE,false),(.ref aF,false),(.ref aG,false),(.ref aH,false)]
 cG:KL K am [(.ref ao,true),(.type "ValueError",true),(.ref ah,false),(.ref am,true),(.ref ai,false),(.ref au,false),(.ref av,false),(.ref ax,false),(.ref az,false),(.ref aA,false),(.ref aB,false),(.ref aC,false),(.ref aD,false),(.ref aE,false),(.ref aF,false),(.ref aG,false),(.ref aH,false)]
 cE:KL K ai [(.ref ao,true),(.type "ValueError",true),(.ref ah,false),(.ref am,false),(.ref ai,true),(.ref au,false),(.ref av,false),(.ref ax,false),(.ref az,false),(.ref aA,false),(.ref aB,false),(.ref aC,false),(.ref aD,false),(.ref aE,false),(.ref aF,false),(.ref aG,false),(.ref aH,false)]
 cP:mg "ONES_OF_FOUR"=some (.ref aJ)
 dk:∀H,SqT K H aJ (Vn.map λn:Nat=>V.int n)
 cY:mg "SIGNS_OF_FOUR"=some (.ref aK)
 dG:∀H,SqT K H aK (uU)
 cJ:∃t,mg "WORD_BITS"=some (.int 32 t)
 cU:∃t,mg "MOST_BITS"=some (.int 20000 t)
 cM:∃t,mg "BLOCK_WORDS"=some (.int 8 t)
 cT:∃t,mg "BLOCK_BITS"=some (.int 256 t)
 cX:∃t,mg "FULL_WORD"=some (.int 4294967295 t)
 cR:∃t,mg "MOST_KNOTS"=some (.int 4000 t)
 cK:∃t,mg "MARK_STEP"=some (.int 16 t)
 cI:mg "range"=none
 cD:mg "len"=none
 dB:mg "int"=none
 dn:mg "bool"=none
 n_str:mg "str"=none
 cH:mg "isinstance"=none
 di:mg "list"=none
 dg:mg "tuple"=none
 dP:mg "dict"=none
 dh:mg "enumerate"=none
 dE:mg "zip"=none
 n_sum:mg "sum"=none
 n_abs:mg "abs"=none
 dj:mg "max"=none
 dv:mg "min"=none
 du:mg "sorted"=none
 dU:mg "ValueError"=none
 dC:∃f,Mp K ao ai f
section
variable {P:gv} {w:ir} {K:eh} {mg:Za2} {base:jo} {aJ aK:fg} {ag ad aq aa ao am ah ai au av ax az aA aB aC aD aE aF aG aH:fg} {f:fg} {fd:ke} {ts:List Tb}
variable (T:Txt P w base ts K mg aJ aK ao am ah ai au av ax az aA aB aC aD aE aF aG aH)
include T in
theorem Q5 (F:Fun K "__init__" "NoWood.__init__" Di f fd):As P w K mg base CX0 1 f fd ["self","place"] (rX ai):=by
 exists F.ok Sz
 obtain⟨e,i,rfl,he,hi,q⟩:=h;obtain⟨fo,O⟩:=T.dC;refine⟨_,(Ab (Be (tZ T.bw rfl (tpa (pv 0) (tpa (wT (by decide) (pv 1)) Aa)))) (Af (rO (pv 0) (pv 1)))),?_⟩
 apply⟨hi,λz=>?_⟩;apply⟨e,ai,fo,none,z,rfl,he,O,?_⟩;apply⟨e,_,ai,fo,rfl,he,O,T.cZ,λdx hd=>?_⟩;k_is;exact q dx hd
inductive eC (K:eh)(vs:List V)(H:Hp)(Q:VK)(E:XK):Prop|mk(x:V)(_:vs=[x])(_:Any K H x)(_:Q (.bl (isI x)) H)
include T in
theorem Zb (F:Fun K "is_whole" "is_whole" Ms f fd):As P w K mg base CX0 1 f fd ["thing"] (eC K):=by
 exists F.ok X2
 obtain⟨x,rfl,⟨t,b1,b2,ty,k1,k2,e⟩,q⟩:=h;refine⟨_,(Af (An (sM (Am Du (by rfl) T.cH Ba (tpa (pv 0) (tpa (Hu (v:=.ty "int") rfl T.dB tL rfl) Aa))) (vL (Abv (Am Du (by rfl) T.cH Ba (tpa (pv 0) (tpa (Hu (v:=.ty "bool") rfl T.dn iS rfl) Aa)))))))),?_⟩;apply⟨_,_,_,_,rfl,ty,k1,?_⟩;rw[<-e] at q
 cases b1 with
 |false=>
  k_is;exact q
 |true=>
  apply⟨_,_,_,_,rfl,ty,k2,?_⟩;k_is;exact q
inductive Yp (K:eh)(vs:List V)(H:Hp)(Q:VK)(E:XK):Prop|mk(x:V)(lo:Int)(hi:Int)(_:vs=[x,.int lo,.int hi])(_:Any K H x)(_:Q (.bl (inI x lo hi)) H)
variable (aP:Cal P w K mg base "is_whole" 1 ["thing"] (eC K))
include T aP in
theorem Wy (F:Fun K "is_within" "is_within" Ks f fd):As P w K mg base CX0 2 f fd ["thing","low","high"] (Yp K):=by
 exists F.ok Wn
 obtain⟨x,lo,hi,rfl,ha,q⟩:=h;refine⟨_,(Af (An (sM (Aw aP hr.m (tpa (pv 0) Aa)) (vL (rB yU yU (pv 1) (pv 0) (pv 2)))))),?_⟩;apply⟨x,rfl,ha,?_⟩
 cases hx:isI x with
 |false=>
  k_is;have:inI x lo hi=false:=by cases x<;>first|rfl|cases hx
  rw[this] at q;exact q
 |true=>
  obtain⟨i,rfl⟩:=Xe hx;k_is;have e:inI (.int i) lo hi=(decide (lo<=i)&&decide (i<=hi)):=rfl;rw[e] at q;refine Cg (λh1=>?_) (λh1=>?_)
  ·k_is
   rw[decide_eq_true h1] at q;exact q
  ·k_is
   rw[decide_eq_false h1] at q;exact q
inductive pQ(vs:List V)(H:Hp)(Q:VK)(E:XK):Prop|mk(b:Bool)(_:vs=[.int (b.toNat:Nat)])(_:Q .non H)
variable (aN:Cal P w K mg base "is_within" 2 ["thing","low","high"] (Yp K))
include T aN in
theorem W2 (F:Fun K "check_bit" "check_bit" Kz f fd):As P w K mg base CX0 3 f fd ["bit"] pQ:=by
 exists F.ok Xw
 obtain⟨b,rfl,q⟩:=h;refine⟨_,(Af (Bt (E8 (Cw (Aw aN hr.m (tpa (pv 0) (tpa Ad (tpa Ad Aa)))))) (Af Bq)
  Ax)),?_⟩
 apply⟨_,0,1,rfl,B5 _,?_⟩;rw[show inI (.int ((b.toNat:Nat):Int)) 0 1=true by cases b<;>rfl]
 k_is;exact q
inductive eG(vs:List V)(H:Hp)(Q:VK)(E:XK):Prop|mk(n g:Int)(_:vs=[.int n,.int g])(_:0<=n)(_:n<=g)(_:Q .non H)
include T aN in
theorem Sj (F:Fun K "check_place" "check_place" Ie f fd):As P w K mg base CX0 3 f fd ["place","greatest"] eG:=by
 exists F.ok T1
 obtain⟨n,g,rfl,h0,h1,q⟩:=h;refine⟨_,(Af (Bt (E8 (Cw (Aw aN hr.m (tpa (pv 0) (tpa Ad (tpa (pv 1) Aa)))))) (Af Bq)
  Ax)),?_⟩
 apply⟨.int n,0,g,rfl,B5 _,?_⟩;rw[show inI (.int n) 0 g=true by rw[Ro,decide_eq_true h0,decide_eq_true h1];rfl];k_is;exact q
inductive Us (K:eh)(CP:fg)(vs:List V)(H:Hp)(Q:VK)(E:XK):Prop|mk(x:V)(_:vs=[x])(_:Any K H x)(_:Nt x)(_:E (.ref CP) none H)
include T aP in
theorem Ld (F:Fun K "check_from_nought" "check_from_nought" D4 f fd):As P w K mg base (CXE P w) 3 f fd ["number"] (Us K am):=by
 exists F.okE Kj
 obtain⟨x,rfl,ha,hb,qe⟩:=h;refine⟨_,(Af (Bt (PW.pt (Nm (E8 (Cw (Aw aP hr.m (tpa (pv 0) Aa)))) (Mm (ttc Pg (pv 0) Ad)))) (Af (Zw T.dZ rfl (tpa Ar Aa)))
  Ax)),?_⟩
 apply⟨x,rfl,ha,?_⟩
 cases hx:isI x with
 |false=>
  k_is;exact⟨by decide,qe⟩
 |true=>
  obtain⟨j,rfl⟩:=Xe hx;k_is;rw[decide_eq_true (hb j rfl)];k_is;exact⟨by decide,qe⟩
inductive Ps (K:eh)(CN:fg)(vs:List V)(H:Hp)(Q:VK)(E:XK):Prop|mk(x:V)(g:Int)(_:vs=[x,.int g])(_:Any K H x)(_:(inI x 0 (g-1)=true->Q .non H))(_:(inI x 0 (g-1)=false->E (.ref CN) none H))
include T aN in
theorem Ud (F:Fun K "check_knot" "check_knot" Jj f fd):As P w K mg base (CXE P w) 3 f fd ["k","many_knots"] (Ps K ah):=by
 exists F.okE T3
 obtain⟨x,g,rfl,ha,q1,q2⟩:=h;refine⟨_,(Af (Bt (E8 (Cw (Aw aN hr.m (tpa (pv 0) (tpa Ad (tpa (Ah Co (pv 1) Ad) Aa)))))) (Af (Zw T.dQ rfl (tpa Ar Aa)))
  Ax)),?_⟩
 apply⟨x,0,g-1,rfl,ha,?_⟩;k_is
 cases hx:inI x 0 (g-1) with
 |true=>
  k_is;exact q1 hx
 |false=>
  k_is;exact⟨by decide,q2 hx⟩
inductive qP(vs:List V)(H:Hp)(Q:VK)(E:XK):Prop|mk(n:Nat)(_:vs=[.int n])(_:Q (.int (pc n)) H)
include T in
theorem fW (F:Fun K "ones_in" "ones_in" Os f fd):As P w K mg base CX0 1 f fd ["word"] qP:=by
 exists F.ok Jk
 obtain⟨n,rfl,q⟩:=h;refine⟨_,(Ab (tst 1 Jk.nd Ad) (Ab (Fh ja (ttc Jb (pv 0) Ad) (Ab (tau 1 Jk.nd (tix Em (Ce (v:=.ref _) rfl T.cP rfl) (Ah Ow (pv 0) Ad)) Jl) (Af (tau 0 Jk.nd Ad kX)))) (Af (An (pv 1))))),?_⟩
 apply Fg (λG H'=>∃m o:Nat,G=[some (.int m),some (.int o)]/\pc n=o+pc m/\H'=H) (λG _=>match G with|some (.int m)::_=>m.toNat|_=>0) ⟨n,0,rfl,by simp,rfl⟩ ?_;rintro k G H' ⟨m,o,rfl,e,rfl⟩ hk;apply Cg (λhm=>?_) (λhm=>?_)
 ·refine Jx ?_
  apply G9 (T.dk _) (v:=.int (pc (m%16))) ?_ ?_
  ·rw[sG]
   exact iX _ (va _ (by decide))
  ·apply⟨⟨m/16,o+pc (m%16),?_,?_,rfl⟩,?_⟩
   ·show[some (V.int ((m:Int)/2 ^ (4:Int).toNat)),some (V.int ((o:Int)+(pc (m%16):Int)))]=_
    rw[yH];rfl
   ·rw[e,Af7 m]
    lia
   ·show((m:Int)/2 ^ (4:Int).toNat).toNat<k
    rw[yH,<-hk];show m/16<m;lia
 ·k_is
  have:m=0:=by lia
  subst this;rw[Ri] at e;show Q (.int (o:Int)) H';rw[show o=pc n by lia];exact q
inductive uO(vs:List V)(H:Hp)(Q:VK)(E:XK):Prop|mk(r k p:Nat)(_:vs=[.int r,.int k])(_:(W6 r)[k]?=some p)(_:∀H',Ak H H'->Q (.int p) H')
include T in
theorem Tq (F:Fun K "nth_of_four" "nth_of_four" F9 f fd):As P w K mg base CX0 1 f fd ["four","nth"] uO:=by
 exists F.ok Lc
 obtain⟨r,k,p,rfl,hp,q⟩:=h;refine⟨_,(Ab (M6 (i:=2) rfl O0 Lc.nd rfl rfl (Fp rfl T.cI (tpa Ad Aa)) (λ_ _ _ _=>wH (ttc Cj (Ah Ow (Ah tF (pv 1) (pv 0)) Ad) Ad)) (λ_ _ _ _=>(pv 0))) (Af (An (tix B2 (pv 2) (pv 1))))),?_⟩
 apply⟨4,rfl,by decide,by decide,?_⟩;refine sL (λi=>((gp i).filter λp=>decide (r/2 ^ p%2=1)).map λp:Nat=>V.int (p:Int)) rfl (λi hi=>?_) (λi H1 R A hi sm kR kA=>?_) (λD H1 hD sm hl=>?_)
 ·have h4:i<4:=hi
  rw[fb];exact wj (io (EO _ _) (ot gr)) (G2 (by lia))
 ·apply pF (by lia) ?_;k_is;have e1:(r:Int)/2 ^ (0+(i:Int)).toNat=((r/2 ^ i:Nat):Int):=by
   rw[show(0+(i:Int)).toNat=i by lia];exact(xm r (2 ^ i)).symm
  rw[e1,Aea];have e2:((gp (i+1)).filter λp=>decide (r/2 ^ p%2=1))=((gp i).filter λp=>decide (r/2 ^ p%2=1))++if r/2 ^ i%2=1 then[i] else[]:=by
   rw[kr,l9];congr 1
   by_cases h:r/2 ^ i%2=1
   ·rw[if_pos h]
    simp[h]
   ·rw[if_neg h]
    simp[h]
  refine Cg (λhb=>?_) (λhb=>?_)
  ·have hb:r/2 ^ i%2=1:=by
    have:=V.int.inj hb;lia
   apply kA _ _ ?_ (Ak.refl _);rw[e2,if_pos hb,f9,show(0+(i:Int))=(i:Int) by lia];rfl
  ·have hb:¬ r/2 ^ i%2=1:=by
    intro z;exact hb (by rw[z];rfl)
   refine kR ?_ _ (Ak.refl _);rw[e2,if_neg hb,ip]
 ·apply Cv (SqL.of hl) (v:=.int p) ?_ (q _ sm);refine Bl ?_;rw[gd];show JD _ ((W6 r)[k]?)=_;rw[hp];rfl
inductive zN(vs:List V)(H:Hp)(Q:VK)(E:XK):Prop|mk(n k:Nat)(_:vs=[.int n,.int k])(_:∀H',Ak H H'->Q (Aei (nth n k)) H')
include T in
theorem gR (F:Fun K "nth_one" "nth_one" Oy f fd)(bp:Cal P w K mg base "nth_of_four" 1 ["four","nth"] uO):As P w K mg base CX0 2 f fd ["word","nth"] zN:=by
 exists F.ok Fw
 obtain⟨n,k,rfl,q⟩:=h;refine⟨_,(Ab (Bt (ttc Pg (pv 1) Ad) (Af (An Gw))
  Ax) (Ab (tst 2 Fw.nd Ad) (Ab (Fh ja (ttc Jb (pv 0) Ad) (Ab (tst 3 Fw.nd (tix Em (Ce (v:=.ref _) rfl T.cP rfl) (Ah Ow (pv 0) Ad))) (Ab (Bt (ttc Pg (pv 1) (pv 3)) (Af (An (Ah A7 (pv 2) (Aw bp hr.m (tpa (Ah Ow (pv 0) Ad) (tpa (pv 1) Aa))))))
  Ax) (Ab (tau 1 Fw.nd (pv 3) Xg) (Ab (tau 0 Fw.nd Ad kX) (Af (tau 2 Fw.nd Ad Jl))))))) (Af (An Gw))))),?_⟩
 apply Cg (λhb=>absurd hb (by lia)) (λ_=>?_);apply Fg (λG H'=>∃(m j low:Nat) (v:Option V),G=[some (.int m),some (.int j),some (.int low),v]/\nth n k=(nth m j).map (·+low)/\H'=H) (λG _=>match G with|some (.int m)::_=>m.toNat|_=>0) ⟨n,k,0,none,rfl,by simp,rfl⟩ ?_;rintro μ G H' ⟨m,j,low,v,rfl,e,rfl⟩ hk;apply Cg (λhm=>?_) (λhm=>?_)
 ·refine Jx ?_
  apply G9 (T.dk _) (v:=.int (pc (m%16))) ?_ ?_
  ·rw[sG]
   exact iX _ (va _ (by decide))
  ·k_is
   have e16:=Aen m j;refine Cg (λhj=>?_) (λhj=>?_)
   ·have hj:j<pc (m%16):=by lia
    k_is;rw[if_pos hj] at e16;rw[sG];obtain⟨p,hp⟩:∃p,(W6 (m%16))[j]?=some p:=by
     have:j<(W6 (m%16)).length:=by rw[vR _ (va _ (by decide))];exact hj
     exact⟨_,fc this⟩
    refine⟨m%16,j,p,rfl,hp,λH1 s1=>?_⟩;k_is;have:=q H1 s1;rw[e,e16,hp] at this;rw[show(low:Int)+(p:Int)=((p+low:Nat):Int) by lia];exact this
   ·have hj:¬ j<pc (m%16):=by lia
    k_is;rw[if_neg hj] at e16;refine⟨⟨m/16,j-pc (m%16),low+4,some (.int (pc (m%16))),?_,?_,rfl⟩,?_⟩
    ·show[some (V.int ((m:Int)/2 ^ (4:Int).toNat)),some (V.int ((j:Int)-(pc (m%16):Int))),some (V.int ((low:Int)+4)),some (V.int (pc (m%16)))]=_
     rw[yH,show(j:Int)-(pc (m%16):Int)=((j-pc (m%16):Nat):Int) by lia];rfl
    ·rw[e,e16,BE]
     congr 1
     funext x
     show x+4+low=x+(low+4);lia
    ·show((m:Int)/2 ^ (4:Int).toNat).toNat<μ
     rw[yH,<-hk];show m/16<m;lia
 ·k_is
  have:m=0:=by lia
  subst this;rw[Sa] at e;have:=q H' (Ak.refl _);rw[e] at this;exact this
def wI (z:Str):Bool:=if z.length>20000 then false else decide (O3 z 48+O3 z 49=z.length)
inductive jV(vs:List V)(H:Hp)(Q:VK)(E:XK):Prop|mk(z:Str)(_:vs=[.str z])(_:z.length<=sizeLine)(_:Q (.bl (wI z)) H)
include T in
theorem nK (F:Fun K "is_row" "is_row" Tg f fd):As P w K mg base CX0 1 f fd ["thing"] jV:=by
 exists F.ok oZ
 obtain⟨z,rfl,hz,q⟩:=h;refine⟨_,(Ab (Bt (PW.pt (Nm (E8 (Cw (Am Du (by rfl) T.cH Ba (tpa (pv 0) (tpa (Hu (v:=.ty "str") rfl T.n_str Ae7 rfl) Aa))))) (Mm (ttc Jb (Am Gz (by rfl) T.cD C7 (tpa (pv 0) Aa)) (Bg rfl T.cU))))) (Af (An Fd))
  Ax) (Af (An (tpc Cj (Ah A7 (E9 qg xf xc Td (pv 0) (tpa Ar Aa)) (E9 qg xf xc Td (pv 0) (tpa Ar Aa))) (Am Gz (by rfl) T.cD C7 (tpa (pv 0) Aa)))))),?_⟩
 apply⟨_,_,_,_,rfl,.str _,Z5,?_⟩;apply⟨z,rfl,hz,?_⟩;k_is;unfold wI at q;refine Cg (λhb=>?_) (λhb=>?_)
 ·k_is
  rw[if_pos (by lia)] at q;exact q
 ·k_is
  rw[if_neg (by lia)] at q;refine⟨rfl,?_⟩;apply⟨z,48,rfl,rfl,?_⟩;apply⟨rfl,?_⟩;apply⟨z,49,rfl,rfl,?_⟩;apply⟨z,rfl,hz,?_⟩;k_is;have e:decide (V.int ((O3 z 48:Int)+(O3 z 49:Int))=V.int (z.length:Int))=decide (O3 z 48+O3 z 49=z.length):=by
   refine decide_eq_decide.mpr ⟨λh=>?_,λh=>?_⟩
   ·have:=V.int.inj h
    lia
   ·rw[<-h]
    congr 1
  rw[e];exact q
inductive qD(vs:List V)(H:Hp)(Q:VK)(E:XK):Prop|mk(l:Za5)(_:vs=[.str (Bi l)])(_:0<l.length)(_:l.length<=32)(_:Q (.int (val l:Nat)) H)
include T in
theorem fR (F:Fun K "word_of" "word_of" O8 f fd):As P w K mg base CX0 1 f fd ["signs"] qD:=by
 exists F.ok hX
 obtain⟨l,rfl,h0,h1,q⟩:=h;refine⟨_,(Af (An (Es T5 (by rfl) T.dB tL (tpa (yN (pv 0)) (tpa Ad Aa))))),?_⟩;apply⟨_,rfl,?_,?_⟩
 ·rw[C4]
  exact jx (G2 (by lia))
 apply⟨_,rfl,?_,?_,?_,?_⟩
 ·rw[Kg,C4]
  lia
 ·intro c hc
  have:c∈(Bi l).cps.toList:=by
   have h:c∈(Bi l).cps.toList.reverse.toArray.toList:=hc
   simpa using h
  exact iG l c this
 ·intro z
  have e:(T4 (Bi l)).cps.toList.length=0:=by rw[z];rfl
  have e2:(T4 (Bi l)).cps.toList.length=(T4 (Bi l)).length:=by simp[zo]
  rw[e2,Kg,C4] at e;lia
 ·rw[Aaj]
  exact q
inductive kP (K:eh)(vs:List V)(H:Hp)(Q:VK)(E:XK):Prop|mk(l:Za5)(_:vs=[.str (Bi l)])(_:l.length<=20000)(_:∀p H',Ak H H'->H p=none->H' p=some (.tup (nV (wordsOf l)))->Q (.ref p) H')
include T in
theorem Zo (F:Fun K "words_of" "words_of" Ju f fd)(bq:Cal P w K mg base "word_of" 1 ["signs"] qD):As P w K mg base CX0 2 f fd ["text"] (kP K):=by
 exists F.ok Yx
 obtain⟨l,rfl,hl,q⟩:=h;have hz:(Bi l).length<=sizeLine:=by rw[C4];exact jx (Ap (by lia))
 refine⟨_,(Af (An (Es F4 (by rfl) T.dg Rf (tpa (Sn rfl Ue (Vb rfl T.cI (tpa Ad (tpa (Am Gz (by rfl) T.cD C7 (tpa (pv 0) Aa)) (tpa (Bg rfl T.cJ) Aa)))) (λ_ _ _ _=>Fb) (λ_ _ _ _=>(Aw bq hr.m (tpa (Cz Abt (pv 1) (Cq (pv 0)) (Cq (Ah A7 (pv 0) (Bg rfl T.cJ)))) Aa)))) Aa)))),?_⟩;apply⟨_,rfl,hz,?_⟩;rw[C4];apply⟨0,l.length,32,rfl,by lia,?_⟩;have hn:Ci 0 (l.length:Int) 32=Br l.length:=Rz l.length 32 (by decide);rw[hn];refine pU (λi=>nV ((gp i).map λj=>val (A0 l j))) rfl (λi hi=>?_) (λi H1 R A hi sm kR kA=>?_) (λD H1 hD sm hl'=>?_)
 ·have:=Ym hi
  rw[fb,fb,gr];exact Ap (by lia)
 ·apply Ad8 hz ?_;have hi':=Ym hi;rw[show(0+(i:Int)*32)=((32*i:Nat):Int) by lia,show(((32*i:Nat):Int)+32)=((32*i+32:Nat):Int) by lia,mG];apply⟨A0 l i,?_,?_,?_,?_⟩
  ·unfold A0
   rw[show 32*i+32-32*i=32 by lia];rfl
  ·unfold A0
   rw[f7,jh];lia
  ·unfold A0
   rw[f7];lia
  ·refine kA _ _ ?_ (Ak.refl _)
   exact K9 _ _
 ·apply⟨D,_,rfl,.inl ⟨SqL.of hl',λp hp=>?_⟩⟩;exact q p _ (sm.trans (Ag hp)) (sm.free hp) Ac
def qO (l:Za5)(t:fg):List (Str×V):=[("length",.int (l.length:Nat)),("many_ones",.int (l.count true:Nat)),("kept_words",.ref t)]
def G8 (K:eh)(C:fg)(H:Hp)(a:fg)(l:Za5):Prop:=∃dx t,H a=some (.ins C dx (qO l t))/\H t=some (.tup (nV (wordsOf l)))/\l.length<=20000
theorem gW {K:eh}{x b:fg}{l:Za5}(s:SameBut x H H')(n:zV H x)(hne:b≠x)(h:G8 K C H b l):G8 K C H' b l:=by
 obtain⟨dx,t,h1,h2,h3⟩:=h;exact⟨dx,t,s _ _ hne h1,s _ _ (λe=>by subst e;exact(n _).1 (.inl h2)) h2,h3⟩
inductive R5 (K:eh)(C:fg)(vs:List V)(H:Hp)(Q:VK)(E:XK):Prop|mk(x dx:fg)(l:Za5)(_:vs=[.ref x,.str (Bi l)])(_:H x=some (.ins C dx []))(_:l.length<=20000)(_:∀H',SameBut x H H'->G8 K C H' x l->Q .non H')
theorem gL {l:Za5}(h:l.length<=20000):wI (Bi l)=true:=by
 unfold wI;rw[C4,if_neg (by lia)];exact decide_eq_true (Vi l).2
variable (ar:Qc K ag)
include T ar in
theorem Q8 (F:Fun K "__init__" "Bits.__init__" Kt f fd)(br:Cal P w K mg base "is_row" 1 ["thing"] jV)(bu:Cal P w K mg base "words_of" 2 ["text"] (kP K)) :
  As P w K mg base CX0 3 f fd ["self","text"] (R5 K ag):=by
 exists F.ok Xu
 obtain⟨x,dx,l,rfl,hx,hl,q⟩:=h;have hz:(Bi l).length<=sizeLine:=by rw[C4];exact jx (Ap (by lia))
 refine⟨_,(Ab (Bt (E8 (Cw (Aw br hr.m (tpa (pv 1) Aa)))) (Af Bq)
  Ax) (Ab (tsf (pv 0) (Am Gz (by rfl) T.cD C7 (tpa (pv 1) Aa))) (Ab (tsf (pv 0) (E9 qg xf xc Td (pv 1) (tpa Ar Aa))) (Af (tsf (pv 0) (Aw bu hr.m (tpa (pv 1) Aa))))))),?_⟩
 apply⟨_,rfl,hz,?_⟩;rw[gL hl];apply⟨_,rfl,hz,?_⟩;rw[C4];apply Cr hx ar.cl ar.cQ (by decide) ?_;apply⟨rfl,?_⟩;apply⟨_,49,rfl,rfl,?_⟩;rw[(Vi l).1];apply Cr Ac ar.cl ar.d6 (show 1<1000 by decide) ?_;rw[lH];apply⟨l,rfl,hl,λt H' sm hf ht=>?_⟩;apply Cr (sm _ _ Ac) ar.cl ar.cL (show 2<1000 by decide) ?_;apply q _ ((Dq.trans sm.but).trans Dq) ⟨dx,t,Ac,?_,hl⟩;have hne:t≠x:=λe=>by
  subst e;rw[Ac] at hf;cases hf
 rw[Ai hne];exact ht
inductive Ts (K:eh)(C:fg)(vs:List V)(H:Hp)(Q:VK)(E:XK):Prop|mk(x:fg)(l:Za5)(_:vs=[.ref x])(_:G8 K C H x l)(_:Q (.int (l.length:Nat)) H)
include T ar in
theorem Q9 (F:Fun K "size" "Bits.size" K0 f fd):As P w K mg base CX0 1 f fd ["self"] (Ts K ag):=by
 exists F.ok Vy
 obtain⟨x,l,rfl,⟨dx,t,hx,ht,hl⟩,q⟩:=h;refine⟨_,(Af (An (tfl (pv 0)))),?_⟩;k_is;exact uV hx ar.cl ar.cQ rfl q
inductive Pu (K:eh)(C:fg)(vs:List V)(H:Hp)(Q:VK)(E:XK):Prop|mk(x:fg)(l:Za5)(_:vs=[.ref x])(_:G8 K C H x l)(_:∀t,H t=some (.tup (nV (wordsOf l)))->Q (.ref t) H)
include T ar in
theorem Q6 (F:Fun K "words" "Bits.words" Jf f fd):As P w K mg base CX0 1 f fd ["self"] (Pu K ag):=by
 exists F.ok Ua
 obtain⟨x,l,rfl,⟨dx,t,hx,ht,hl⟩,q⟩:=h;refine⟨_,(Af (An (tfl (pv 0)))),?_⟩;k_is;exact uV hx ar.cl ar.cL rfl (q t ht)
theorem yG (n k:Nat){j:Int}(h:j=(k:Int)):(n:Int)/2 ^ j.toNat=((n/2 ^ k:Nat):Int):=by
 subst h;rw[i8];exact(xm n (2 ^ k)).symm
inductive zQ (K:eh)(C:fg)(vs:List V)(H:Hp)(Q:VK)(E:XK):Prop|mk(a:fg)(l:Za5)(n:Nat)(_:vs=[.ref a,.int n])(_:G8 K C H a l)(_:n<l.length)(_:Q (.int ((l.getD n false).toNat:Nat)) H)
theorem Act (l:Za5)(i:Nat):m8 (((val (A0 l (i/32))/2 ^ (i%32):Nat):Int)) 1=((l.getD i false).toNat:Nat):=by
 rw[Aea,Xz,Pl l _ (va _ (by decide)),show 32*(i/32)+i%32=i by lia]
variable (aQ:Cal P w K mg base "check_place" 3 ["place","greatest"] eG)
include T ar aQ in
theorem Wb (F:Fun K "bit" "Bits.bit" Mj f fd) :
  As P w K mg base CX0 4 f fd ["self","place"] (zQ K ag):=by
 exists F.ok X6
 obtain⟨a,l,n,rfl,⟨dx,t,hx,ht,hl⟩,hn,q1⟩:=h;refine⟨_,(Ab (Be (Aw aQ hr.m (tpa (pv 1) (tpa (Ah Co (tfl (pv 0)) Ad) Aa)))) (Af (An (Ah Ow (Ah tF (tix Em (tfl (pv 0)) (Ah Cm (pv 1) (Bg rfl T.cJ))) (Ah Cf (pv 1) (Bg rfl T.cJ))) Ad)))),?_⟩
 apply⟨a,ag,dx,_,_,rfl,hx,ar.cl,ar.cQ,rfl,?_⟩;apply⟨n,_,rfl,by lia,by lia,?_⟩;apply⟨a,ag,dx,_,_,rfl,hx,ar.cl,ar.cL,rfl,?_⟩;k_is;rw[show((n:Int)/32)=((n/32:Nat):Int) by lia];refine G9 (SqT.of ht) (Nr (by unfold Br;lia)) ?_;apply pF (by lia) ?_;k_is;rw[yG _ (n%32) (by lia),Act];exact q1
include T in
theorem Uh (F:Fun K "first_that" "first_that" Jn f fd):As P w K mg base CX0 3 f fd ["low","high","holds"] (Rb P w K mg base 2):=by
 exists F.ok F8
 obtain⟨lo,hi,g,p,rfl,hle,hA,q⟩:=h;refine⟨_,(Ab (Fh ja (ttc Pg (pv 0) (pv 1)) (Ab (tst 3 F8.nd (Ah Cm (Ah A7 (pv 0) (pv 1)) Ad)) (Af (Bt (Cw (Aai (k:=2) hr.m (i:=2) rfl rfl (pv 3))) (Af (tst 1 F8.nd (pv 3))) (Af (tst 0 F8.nd (Ah A7 (pv 3) Ad))))))) (Af (An (pv 0)))),?_⟩
 apply Fg (λG H'=>Ak H H'/\∃(x y:Int) (v:Option V),G=[some (.int x),some (.int y),some (.ref g),v]/\lo<=x/\x<=y/\y<=hi/\(lo<x->p (x-1)=false)/\(y<hi->p y=true)) (λG _=>match G with | [some (.int x),some (.int y),_,_]=>(y-x).toNat|_=>0) ⟨Ak.refl _,lo,hi,none,rfl,LW _,hle,LW _,λz=>absurd z (JG _),λz=>absurd z (JG _)⟩ ?_;rintro μ G H' ⟨sm,x,y,v,rfl,h1,h2,h3,h4,h5⟩ QS;apply Cg (λhw=>?_) (λhw=>?_)
 ·refine Jx ?_
  apply⟨g,_,p,rfl,hA.same sm,?_⟩;k_is;have ht1:x<=(x+y)/2:=by lia
  have ht2:(x+y)/2<y:=by lia
  refine⟨_,rfl,Ak.refl _,⟨AG h1 ht1,Int.lt_of_lt_of_le ht2 h3⟩,λH2 s2=>?_⟩;k_is;have hμ':y-x=(μ:Int):=by
   have:(y-x).toNat=μ:=QS;lia
  cases hp:p ((x+y)/2) with
  |true=>
   apply⟨⟨sm.trans s2,x,(x+y)/2,_,rfl,h1,ht1,AG (KB ht2) h3,h4,λ_=>hp⟩,?_⟩;show((x+y)/2-x).toNat<μ;generalize (x+y)/2=t at *;lia
  |false=>
   apply⟨⟨sm.trans s2,(x+y)/2+1,y,_,rfl,AG h1 (AG ht1 (KB (Int.lt_succ _))),ht2,h3,λ_=>by rw[Int.add_sub_cancel];exact hp,h5⟩,?_⟩;show(y-((x+y)/2+1)).toNat<μ;generalize (x+y)/2=t at *;lia
 ·k_is
  obtain rfl:x=y:=by lia
  exact q x H' h1 h3 h4 h5 sm
inductive yV(vs:List V)(H:Hp)(Q:VK)(E:XK):Prop|mk(a:fg)(xs:Za4)(_:vs=[.ref a])(_:H a=some (.lst (nV xs)))(_:xs.length<=1000)(_:∀p H',Ak H H'->H p=none->H' p=some (.lst (nV ((gp (xs.length+1)).map λi=>(xs.take i).sum)))->Q (.ref p) H')
include T in
theorem P3 (F:Fun K "running_sums" "running_sums" Hh f fd):As P w K mg base CX0 1 f fd ["numbers"] yV:=by
 exists F.ok Gu
 obtain⟨a,xs,rfl,ha,hn,q⟩:=h;refine⟨_,(Ab (tst 1 Gu.nd (A8 (tpa Ad Aa))) (Ab (Dy ja rfl (F5 (pv 0)) (tgn 2 Gu.nd) (Af (Be (E9 i7 lp ll Dh (pv 1) (tpa (Ah A7 (tix B2 (pv 1) (Cy Bw Ad)) (pv 2)) Aa))))) (Af (An (pv 1))))),?_⟩
 apply⟨few (by simp),λp hp=>?_⟩;have t0:=Ag (o:=.lst [V.int 0]) hp;apply⟨a,rfl,⟨_,SqL.of (t0 _ _ ha)⟩,?_⟩;refine Ja (xs:=nV xs) (λi G H1=>(∃v:Option V,G=[some (.ref a),some (.ref p),v])/\H1 p=some (.lst (nV ((gp (i+1)).map λi=>(xs.take i).sum)))/\Ak H H1) ⟨⟨_,rfl⟩,Ac,t0⟩ (λi G H1 _ h=>SqL.of (h.2.2 _ _ ha)) ?_ ?_
 ·rintro i x G H1 hx ⟨⟨v,rfl⟩,hp1,s1⟩
  have hi:=Ff hx;rw[show(nV xs).length=xs.length by unfold nV;rw[fb]] at hi;obtain rfl:x=.int (xs[i]:Nat):=by
   unfold nV at hx;rw[gd,fc hi] at hx;exact(fq hx).symm
  apply⟨.inl ⟨rfl,_,SqL.of hp1⟩,?_⟩;apply Cv (SqL.of hp1) (v:=.int ((xs.take i).sum:Nat)) ?_ ?_
  ·rw[K9]
   exact eA _ _
  apply Fc hp1 ?_ ?_
  ·unfold nV
   rw[fb,fb,gr];exact Ap (by lia)
  apply⟨⟨_,rfl⟩,?_,λb u e=>?_⟩
  ·rw[Ac,K9 _ (i+1),jn,fc hi,rz]
   show some (HO.lst (_++[V.int (((xs.take i).sum:Nat)+(xs[i]:Nat):Int)]))=some (HO.lst (_++[V.int (((xs.take i).sum+[xs[i]].sum:Nat):Int)]));rw[zf,BS]
  ·rw[Ai (Al e hp)]
   exact s1 _ _ e
 ·rintro G H1 ⟨⟨v,rfl⟩,hp1,s1⟩
  rw[show(nV xs).length=xs.length by unfold nV;rw[fb]] at hp1;k_is;exact q p H1 s1 hp hp1
def Cb (n:Nat):Nat:=(Br n+7)/8
def Hl (l:Za5):Za4:=(gp (Cb l.length+1)).map λb=>cnt l (256*b)
inductive kC (K:eh)(vs:List V)(H:Hp)(Q:VK)(E:XK):Prop|mk(t:fg)(l:Za5)(_:vs=[.ref t])(_:H t=some (.tup (nV (wordsOf l))))(_:l.length<=20000)(_:∀p H',Ak H H'->H p=none->H' p=some (.tup (nV (Hl l)))->Q (.ref p) H')
theorem Ze (l:Za5)(b:Nat):((wordsOf l).drop (8*b)).take 8=(gp (min 8 (Br l.length-8*b))).map λi=>val (A0 l (8*b+i)):=by
 unfold TW.wordsOf;refine pj λi=>?_;rw[ku]
 by_cases h8:i<8
 ·rw[if_pos h8,ka,gd,gd]
  by_cases hm:8*b+i<Br l.length
  ·rw[jd hm,jd (by lia)]
   rfl
  ·rw[jk (by rw[gr];lia),jk (by rw[gr];lia)]
   rfl
 ·rw[if_neg h8,jk (by rw[fb,gr];lia)]
def blk (l:Za5)(i:Nat):Za4:=(gp (min 8 (Br l.length-8*i))).map λj=>val (A0 l (8*i+j))
def iU (l:Za5)(i:Nat):Nat:=((gp (min 8 (Br l.length-8*i))).map λm=>pc (val (A0 l (8*i+m)))).sum
theorem Y3 (l:Za5):∀i,(((gp i).map (iU l)).sum)=cnt l (256*i)
 |0=>by
  show 0=cnt l 0;rfl
 |i+1=>by
  rw[kr,f9,rz,Y3 l i];show cnt l (256*i)+[iU l i].sum=_;rw[zf];have:=nN l i (min 8 (Br l.length-8*i)) rfl;unfold iU;lia
def mI (K:eh)(l:Za5)(i:Nat)(ys:List V)(H:Hp):Prop:=ys.length=i/\∀j y,ys[j]?=some y->∃a,y=.ref a/\SqT K H a (nV (blk l j))
theorem vB {K:eh}{l:Za5}{i:Nat}{D:fg}{o:HO}(hD:H D=some (.lst xs))(h:mI K l i ys H):mI K l i ys (upd H D o):=⟨h.1,λj y e=>by
 obtain⟨a,rfl,ht⟩:=h.2 j y e;refine⟨a,rfl,?_⟩;rcases ht with(ht|⟨ob,ht⟩)|ht
 ·exact .inl (.inl (by rw[Ai (Ee ht hD (by intro z;cases z))];exact ht))
 ·exact .inl (.inr ⟨ob,by rw[Ai (Ee ht hD (by intro z;cases z))];exact ht⟩)
 ·exact .inr ht⟩
theorem mI.same {K:eh}{l:Za5}{i:Nat}(h:mI K l i ys H)(s:Ak H H'):mI K l i ys H':=⟨h.1,λj y e=>by
 obtain⟨a,rfl,ht⟩:=h.2 j y e;exact⟨a,rfl,s.seqT ht⟩⟩
variable (aO:Cal P w K mg base "ones_in" 1 ["word"] qP)
include T aO in
theorem Nq (F:Fun K "table_of_words" "table_of_words" C5 f fd)(bv:Cal P w K mg base "running_sums" 1 ["numbers"] yV):As P w K mg base CX0 2 f fd ["words"] (kC K):=by
 exists F.ok Hq
 obtain⟨t,l,rfl,ht,hl,q⟩:=h;have hW:(wordsOf l).length=Br l.length:=by unfold TW.wordsOf;rw[fb,gr]
 have hM:Br l.length<=626:=by unfold Br;lia
 have hB:Cb l.length<=80:=by unfold Cb;lia
 refine⟨_,(Ab (M6 (i:=1) rfl Lz Hq.nd rfl rfl (Vb rfl T.cI (tpa Ad (tpa (Am Aq (by rfl) T.cD C7 (tpa (pv 0) Aa)) (tpa (Bg rfl T.cM) Aa)))) (λ_ _ _ _=>Fb) (λ_ _ _ _=>(Cz (tD K) (pv 1) (Cq (pv 0)) (Cq (Ah A7 (pv 0) (Bg rfl T.cM)))))) (Af (An (Es F4 (by rfl) T.dg Rf (tpa (Aw bv hr.m (tpa (Sn rfl L9 (F5 (pv 1)) (λ_ _ _ _=>Fb) (λ_ _ _ _=>(Am (oP K rfl) (by rfl) T.n_sum Afe (tpa (vQ rfl Mc (xX K (pv 0)) (λ_ _ _ _=>Fb) (λ_ _ _ _=>(Aw aO hr.m (tpa (pv 0) Aa)))) Aa)))) Aa)) Aa))))),?_⟩
 apply⟨t,_,rfl,.inr (SqT.of ht),?_⟩;k_is;rw[fb,hW];refine⟨0,Br l.length,8,rfl,by lia,?_⟩;have hn:Ci 0 (Br l.length:Int) 8=Cb l.length:=Rz (Br l.length) 8 (by decide);rw[hn];refine Ux (λi ys H1=>mI K l i ys H1) (λH1 _=>⟨rfl,λj y e=>by cases e⟩) (λi ys H1 D xs o hD h=>vB hD h) (λi ys H1 hi h=>by rw[h.1];exact G2 (by lia)) (λi ys H1 A R hi s1 hP kA=>?_) (λD ys H1 hD s1 hP hDl=>?_)
 ·apply⟨t,_,rfl,SqT.of (s1 _ _ ht),λp2 H2 s2 hp2=>?_⟩;rw[show(0+(i:Int)*8)=((8*i:Nat):Int) by lia,show(((8*i:Nat):Int)+8)=((8*i+8:Nat):Int) by lia,Y4,show 8*i+8-8*i=8 by lia] at hp2;have e8:((nV (wordsOf l)).drop (8*i)).take 8=nV (blk l i):=by
   unfold nV blk;rw[<-DK,<-p7,Ze]
  rw[e8] at hp2;refine kA _ _ s2 ⟨by rw[fe,hP.1];rfl,λj y e=>?_⟩
  by_cases hj:j<ys.length
  ·rw[ie hj] at e
   exact(hP.same s2).2 j y e
  ·rw[f8 (by lia)] at e
   have e0:j-ys.length=0:=by
    have:=Ff e;simp only[gu,jq] at this;lia
   rw[e0] at e;obtain rfl:=fq e;have:j=i:=by have:=hP.1;lia
   subst this;exact⟨p2,rfl,hp2⟩
 ·apply⟨D,rfl,⟨_,SqL.of hDl⟩,?_⟩;refine Rg (SqL.of hDl) (λi=>nV ((gp i).map (iU l))) rfl (λi hi=>?_) (λi x H2 R A hx s2 kR kA=>?_) (λD2 H2 hD2 s2 hl2=>?_)
  ·unfold nV
   rw[fb,fb,gr];rw[hP.1] at hi;exact G2 (by lia)
  ·obtain⟨b,rfl,hb⟩:=(hP.same s2).2 i x hx
   apply⟨b,rfl,⟨_,hb⟩,?_⟩;refine Ack hb (λj=>nV ((gp j).map λm=>pc (val (A0 l (8*i+m))))) rfl (λj hj=>?_) (λj x H3 R3 A3 hx3 s3 kR3 kA3=>?_) (λD3 H3 hD3 s3 hl3=>?_)
   ·unfold blk nV at hj
    rw[fb,fb,gr] at hj;rw[fb,fb,gr];exact G2 (by lia)
   ·have hj:j<min 8 (Br l.length-8*i):=by
     have:=(ge.mp hx3).1;unfold blk nV at this
     rwa [fb,fb,gr] at this
    have hxe:x=.int (val (A0 l (8*i+j)):Nat):=by
     unfold nV blk at hx3;rw[gd,gd,jd hj] at hx3;exact(fq hx3).symm
    subst hxe;apply⟨_,rfl,?_⟩;refine kA3 _ _ ?_ (Ak.refl _);exact K9 _ _
   ·unfold blk at hl3
    rw[fb,fb,gr] at hl3;apply⟨D3,_,rfl,SqL.of (by rw[hl3,Xi]),?_⟩;rw[rW];refine kA _ _ ?_ s3;exact K9 _ _
  ·rw[hP.1] at hl2
   apply⟨D2,(gp (Cb l.length)).map (iU l),rfl,hl2,by rw[fb,gr];lia,λp4 H4 s4 hp4 hl4=>?_⟩;apply⟨p4,_,rfl,.inl ⟨SqL.of hl4,λp5 hp5=>?_⟩⟩;have et:(gp (((gp (Cb l.length)).map (iU l)).length+1)).map (λi=>(((gp (Cb l.length)).map (iU l)).take i).sum)=Hl l:=by
    rw[fb,gr];unfold Hl;refine kx λi hi=>?_;have hi:=kh.mp hi;rw[<-p7,List.take_range,jm (by lia),Y3]
   rw[et] at *;exact q p5 _ (((s1.trans s2).trans s4).trans (Ag hp5)) (((s1.trans s2).trans s4).free hp5) Ac
def rJ (l:Za5)(t u:fg):List (Str×V):=[("length",.int (l.length:Nat)),("kept_words",.ref t),("kept_table",.ref u)]
def Bk (K:eh)(C:fg)(H:Hp)(a:fg)(l:Za5):Prop:=∃dx t u,H a=some (.ins C dx (rJ l t u))/\H t=some (.tup (nV (wordsOf l)))/\H u=some (.tup (nV (Hl l)))/\l.length<=20000
inductive Nl (K:eh)(CB C:fg)(vs:List V)(H:Hp)(Q:VK)(E:XK):Prop|mk(x dx b:fg)(l:Za5)(_:vs=[.ref x,.ref b])(_:H x=some (.ins C dx []))(_:G8 K CB H b l)(_:∀H',SameBut x H H'->Bk K C H' x l->Q .non H')
variable (aj:Qb K ad)
include T aj in
theorem Q4 (F:Fun K "__init__" "Counts.__init__" Ic f fd)(bx:Mth P w K mg base ag "size" 1 ["self"] (Ts K ag))(bz:Mth P w K mg base ag "words" 1 ["self"] (Pu K ag))(bA:Cal P w K mg base "table_of_words" 2 ["words"] (kC K)) :
  As P w K mg base CX0 3 f fd ["self","bits"] (Nl K ag ad):=by
 exists F.ok S7
 obtain⟨x,dx,b,l,rfl,hx,hb,q⟩:=h;have hb0:=hb;obtain⟨dxb,t,hbx,ht,hl⟩:=hb0;have hbne:b≠x:=Ee hbx hx (by intro z;cases z);refine⟨_,(Ab (tsf (pv 0) (gY bx hr.m (pv 1))) (Ab (tsf (pv 0) (gY bz hr.m (pv 1))) (Af (tsf (pv 0) (Aw bA hr.m (tpa (tfl (pv 0)) Aa)))))),?_⟩
 apply⟨b,dxb,_,rfl,hbx,rfl,?_⟩;apply⟨b,l,rfl,hb,?_⟩;apply Cr hx aj.cl aj.cQ (by decide) ?_;apply⟨b,dxb,qO l t,rfl,by rw[Ai hbne];exact hbx,rfl,?_⟩;apply⟨b,l,rfl,gW Dq (oQ hx) hbne hb,λt2 ht2=>?_⟩;apply Cr Ac aj.cl aj.cL (show 1<1000 by decide) ?_;rw[lH];have ht3:(upd H x (.ins ad dx (Eg "kept_words" (.ref t2) (Eg "length" (.int (l.length:Nat)) [])))) t2=some (.tup (nV (wordsOf l))):=by
  have hne:t2≠x:=Ee ht2 Ac (by intro z;cases z);rw[Ai hne] at ht2 ⊢;exact ht2
 apply⟨x,ad,dx,_,.ref t2,rfl,Ac,aj.cl,aj.cL,rfl,?_⟩;apply⟨t2,l,rfl,ht3,hl,λu H' sm hf hu=>?_⟩;apply Cr (sm _ _ Ac) aj.cl aj.df (show 2<1000 by decide) ?_;k_is;have hix:=sm _ _ (Ac (H:=H) (a:=x));have n1:t2≠x:=Ee (sm _ _ ht3) hix (by intro z;cases z);have n2:u≠x:=Ee hu hix (by intro z;cases z);exact q _ ((Dq.trans sm.but).trans Dq) ⟨dx,t2,u,Ac,by rw[Ai n1];exact sm _ _ ht3,by rw[Ai n2];exact hu,hl⟩
theorem Zf {l:Za5}{b:Nat}(h:b<=Cb l.length):atI (nV (Hl l)) (b:Int)=some (.int (cnt l (256*b):Nat)):=by
 refine Bl ?_;unfold nV Hl;rw[gd,gd,jd (by lia)];rfl
inductive Pr (K:eh)(C:fg)(vs:List V)(H:Hp)(Q:VK)(E:XK):Prop|mk(a:fg)(l:Za5)(n:Nat)(_:vs=[.ref a,.int n])(_:Bk K C H a l)(_:n<=l.length)(_:∀H',Ak H H'->Q (.int (cnt l n:Nat)) H')
include T aO aj in
theorem Ql (F:Fun K "ones_ahead" "Counts.ones_ahead" D8 f fd):As P w K mg base CX0 2 f fd ["self","place"] (Pr K ad):=by
 exists F.ok A6
 obtain⟨a,l,n,rfl,⟨dx,t,u,hx,ht,hu,hl⟩,hn,q⟩:=h;refine⟨_,(Ab (tst 2 A6.nd (Ah Cm (pv 1) (Bg rfl T.cJ))) (Ab (tst 3 A6.nd (Ah Cm (pv 2) (Bg rfl T.cM))) (Ab (tst 4 A6.nd (tix Em (tfl (pv 0)) (pv 3))) (Ab (Dy ja rfl (sI (Cz kY (tfl (pv 0)) (Cq (Ah Lb (pv 3) (Bg rfl T.cM))) (Cq (pv 2)))) (tgn 5 A6.nd) (Af (tau 4 A6.nd (Aw aO hr.m (tpa (pv 5) Aa)) Jl))) (Ab (tst 6 A6.nd (Ah Cf (pv 1) (Bg rfl T.cJ))) (Ab (Bt (ttc Jb (pv 6) Ad) (Af (tau 4 A6.nd (Aw aO hr.m (tpa (Ah Ow (tix Em (tfl (pv 0)) (pv 2)) (Ah Co (Ah Acb Ad (pv 6)) Ad)) Aa)) Jl))
  Ax) (Af (An (pv 4))))))))),?_⟩
 apply⟨a,ad,dx,_,_,rfl,hx,aj.cl,aj.df,rfl,?_⟩;k_is;rw[show((n:Int)/32/8)=((n/256:Nat):Int) by lia,show((n:Int)/32)=((n/32:Nat):Int) by lia];refine G9 (SqT.of hu) (Zf (by unfold Cb Br;lia)) ?_;apply⟨a,ad,dx,_,_,rfl,hx,aj.cl,aj.cL,rfl,?_⟩;apply⟨t,_,rfl,SqT.of ht,λp2 H2 s2 hp2=>?_⟩;rw[show((n/256:Nat):Int)*8=((8*(n/256):Nat):Int) by lia,Y4] at hp2;have e8:((nV (wordsOf l)).drop (8*(n/256))).take (n/32-8*(n/256))=nV ((gp (n/32-8*(n/256))).map λj=>val (A0 l (8*(n/256)+j))):=by
  unfold nV;have:min (n/32-8*(n/256)) (Br l.length-8*(n/256))=n/32-8*(n/256):=jm (Nat.sub_le_sub_right (by unfold Br;lia) _);rw[<-DK,<-p7,mE,this]
 rw[e8] at hp2;refine⟨p2,rfl,⟨_,hp2⟩,?_⟩;generalize hm:n/32-8*(n/256)=m at hp2;refine wQ (xs:=nV ((gp m).map λj=>val (A0 l (8*(n/256)+j)))) (λi G H'=>H'=H2/\∃v5 v6:Option V,G=[some (.ref a),some (.int n),some (.int ((n/32:Nat):Int)),some (.int ((n/256:Nat):Int)),some (.int (cnt l (32*(8*(n/256)+i)):Nat)),v5,v6]) ?_ (λi G H' _ h=>by rw[h.1];exact hp2) ?_ ?_
 ·refine⟨rfl,none,none,?_⟩
  rw[show 32*(8*(n/256)+0)=256*(n/256) by lia];rfl
 ·rintro i x G H' hx' ⟨rfl,v5,v6,rfl⟩
  have hi:i<m:=by
   have:=(ge.mp hx').1
   rwa [fb,fb,gr] at this
  have hze:x=.int (val (A0 l (8*(n/256)+i)):Nat):=by
   unfold nV at hx';rw[gd,gd,jd hi] at hx';exact(fq hx').symm
  subst hze;apply⟨_,rfl,?_⟩;apply⟨rfl,some (.int (val (A0 l (8*(n/256)+i)):Nat)),v6,?_⟩;have:=Yg l (8*(n/256)+i);rw[show 8*(n/256)+(i+1)=8*(n/256)+i+1 by lia,this];rfl
 ·rintro G H' ⟨rfl,v5,v6,rfl⟩
  rw[show(nV ((gp m).map λj=>val (A0 l (8*(n/256)+j)))).length=m by unfold nV;rw[fb,fb,gr],show 8*(n/256)+m=n/32 by lia];k_is;have ec:cnt l n=cnt l (32*(n/32))+((l.drop (32*(n/32))).take (n%32)).count true:=by
   rw[<-kO];congr 1;lia
  refine Cg (λhr'=>?_) (λhr'=>?_)
  ·have hr0:0<n%32:=by lia
   apply⟨a,ad,dx,_,_,rfl,s2 _ _ hx,aj.cl,aj.cL,rfl,?_⟩;apply G9 (SqT.of (s2 _ _ ht)) (Nr (by unfold Br;lia)) ?_;apply Afh ⟨by lia,by lia,by decide⟩ ?_;k_is;rw[pW _ (n%32) (by lia)];refine⟨_,rfl,?_⟩;k_is;rw[uD,Mt];have e2:(A0 l (n/32)).take (n%32)=(l.drop (32*(n/32))).take (n%32):=by
    unfold A0;rw[CG,jm (by lia)]
   rw[e2];have:=q _ s2;rw[ec] at this;exact this
  ·have hr0:n%32=0:=by lia
   k_is;have:=q _ s2;rw[ec,hr0,qc] at this;exact this
inductive kQ (K:eh)(C:fg)(vs:List V)(H:Hp)(Q:VK)(E:XK):Prop|mk(a:fg)(l:Za5)(b:Bool)(n:Nat)(_:vs=[.ref a,.int (b.toNat:Nat),.int n])(_:Bk K C H a l)(_:n<=l.length)(_:∀H',Ak H H'->Q (.int ((occ b l n).length:Nat)) H')
variable (aX:Cal P w K mg base "check_bit" 3 ["bit"] pQ)
include T aQ aj aX in
theorem Q1 (F:Fun K "ahead" "Counts.ahead" Hi f fd)(bC:Mth P w K mg base ad "ones_ahead" 2 ["self","place"] (Pr K ad)):As P w K mg base CX0 4 f fd ["self","bit","place"] (kQ K ad):=by
 exists F.ok J3
 obtain⟨a,l,b,n,rfl,hC,hn,q1⟩:=h;obtain⟨dx,t,u,hx,ht,hu,hl⟩:=id hC;refine⟨_,(Ab (Be (Aw aX hr.m (tpa (pv 1) Aa))) (Ab (Be (Aw aQ hr.m (tpa (pv 2) (tpa (tfl (pv 0)) Aa)))) (Ab (tst 3 J3.nd (Fn bC hr.m (pv 0) (tpa (pv 2) Aa))) (Af (An (Gk (ttc Cj (pv 1) Ad) (pv 3) (Ah Co (pv 2) (pv 3)))))))),?_⟩
 apply⟨b,rfl,?_⟩;apply⟨a,ad,dx,_,_,rfl,hx,aj.cl,aj.cQ,rfl,?_⟩;apply⟨n,_,rfl,by lia,by lia,?_⟩;apply⟨a,dx,_,rfl,hx,rfl,?_⟩;apply⟨a,l,n,rfl,hC,hn,λH' s'=>?_⟩;k_is;have ho:=Rk l n
 cases b with
 |true=>
  refine Cg (λ_=>?_) (λz=>absurd rfl z);k_is;have:=q1 H' s';rw[ho.1] at this;exact this
 |false=>
  refine Cg (λz=>absurd z (by decide)) (λ_=>?_);k_is;have:=q1 H' s';rw[show((n:Int)-(cnt l n:Nat))=((occ false l n).length:Nat) by lia];exact this
inductive Ng (K:eh)(C:fg)(vs:List V)(H:Hp)(Q:VK)(E:XK):Prop|mk(a:fg)(l:Za5)(b:Bool)(k:Nat)(_:vs=[.ref a,.int (b.toNat:Nat),.int k])(_:Bk K C H a l)(_:k<=Cb l.length)(_:Q (.int ((occ b l (min (256*k) l.length)).length:Nat)) H)
include T aj in
theorem Qf (F:Fun K "ahead_of_block" "Counts.ahead_of_block" C3 f fd):As P w K mg base CX0 1 f fd ["self","bit","block"] (Ng K ad):=by
 exists F.ok Ec
 obtain⟨a,l,b,k,rfl,⟨dx,t,u,hx,ht,hu,hl⟩,hk,q⟩:=h;have ec:cnt l (256*k)=cnt l (min (256*k) l.length):=by
  by_cases h:256*k<=l.length
  ·rw[jm h]
  ·rw[vc (by lia),Rj l (by lia),Rj l (fk _)]
 refine⟨_,(Ab (tst 3 Ec.nd (tix Em (tfl (pv 0)) (pv 2))) (Af (An (Gk (ttc Cj (pv 1) Ad) (pv 3) (Ah Co (Am (Vf rfl) (by rfl) T.dv pH (tpa (Ah Lb (pv 2) (Bg rfl T.cT)) (tpa (tfl (pv 0)) Aa))) (pv 3)))))),?_⟩
 apply⟨a,ad,dx,_,_,rfl,hx,aj.cl,aj.df,rfl,?_⟩;apply G9 (SqT.of hu) (Zf hk) ?_;k_is;have ho:=Rk l (min (256*k) l.length)
 cases b with
 |true=>
  refine Cg (λ_=>?_) (λz=>absurd rfl z);k_is;rw[ho.1] at q;rw[ec];exact q
 |false=>
  refine Cg (λz=>absurd z (by decide)) (λ_=>?_);apply⟨a,ad,dx,_,_,rfl,hx,aj.cl,aj.cQ,rfl,?_⟩;apply⟨_,_,rfl,?_⟩;k_is;have em:(if((l.length:Nat):Int)<(k:Int)*256 then((l.length:Nat):Int) else(k:Int)*256)=((min (256*k) l.length:Nat):Int):=by
   split<;>lia
  rw[em,ec,show((min (256*k) l.length:Nat):Int)-(cnt l (min (256*k) l.length):Nat)=((occ false l (min (256*k) l.length)).length:Nat) by lia];exact q
inductive Tt (K:eh)(C:fg)(vs:List V)(H:Hp)(Q:VK)(E:XK):Prop|mk(a:fg)(l:Za5)(b:Bool)(_:vs=[.ref a,.int (b.toNat:Nat)])(_:Bk K C H a l)(_:Q (.int ((occ b l l.length).length:Nat)) H)
theorem Ur (l:Za5):(nV (Hl l)).length=Cb l.length+1:=by
 unfold nV Hl;rw[fb,fb,gr]
theorem gA (l:Za5):min (256*Cb l.length) l.length=l.length:=by unfold Cb Br;lia
variable (aR:Mth P w K mg base ad "ahead_of_block" 1 ["self","bit","block"] (Ng K ad))
include T aj aR in
theorem Qp (F:Fun K "many_like" "Counts.many_like" Er f fd):As P w K mg base CX0 2 f fd ["self","bit"] (Tt K ad):=by
 exists F.ok L4
 obtain⟨a,l,b,rfl,hC,q⟩:=h;obtain⟨dx,t,u,hx,ht,hu,hl⟩:=id hC;refine⟨_,(Af (An (Fn aR hr.m (pv 0) (tpa (pv 1) (tpa (Ah Co (Am Aq (by rfl) T.cD C7 (tpa (tfl (pv 0)) Aa)) Ad) Aa))))),?_⟩;apply⟨a,dx,_,rfl,hx,rfl,?_⟩;apply⟨a,ad,dx,_,_,rfl,hx,aj.cl,aj.df,rfl,?_⟩;apply⟨u,_,rfl,.inr (SqT.of hu),?_⟩;rw[Ur];apply⟨a,l,b,Cb l.length,?_,hC,fk _,?_⟩
 ·rw[show(((Cb l.length+1:Nat):Int)-1)=((Cb l.length:Nat):Int) by lia]
  rfl
 ·rw[gA]
  exact q
theorem Bk.sameT {K:eh}{b:fg}{l:Za5}(s:E3 H H')(h:Bk K C H b l):Bk K C H' b l:=by
 obtain⟨dx,t,u,h1,h2,h3,h4⟩:=h;exact⟨dx,t,u,s.keep _ _ (by intro ps e;cases e) h1,s.tup h2,s.tup h3,h4⟩
theorem Bk.sm {K:eh}{b:fg}{ts:List Tb}{l:Za5}(h:Bk K C H b l)(s:SmT ts H H'):Bk K C H' b l:=h.sameT s.sm
inductive K4 (K:eh)(C:fg)(ts:List Tb)(vs:List V)(H:Hp)(Q:VK)(E:XK):Prop|mk(a:fg)(l:Za5)(b:Bool)(n:Nat)(_:vs=[.ref a,.int (b.toNat:Nat),.int n])(_:Bk K C H a l)(_:n<(occ b l l.length).length)(_:Tbs ts H)(_:∀(k:Nat) (H':Hp),k<Cb l.length->(occ b l (256*k)).length<=n->SmT ts H H'->Q (.int k) H')
variable (hK:K.In base) (hB:base.BuiltinsAt mg Pt)
include T aj aR hK hB in
theorem Qk {f c:fg}(F:Vx K "block_with" "Counts.block_with" Bh f fd c Pt)(hts:(⟨Pt,Fl,"Counts.block_with.<locals>.<lambda>"⟩:Tb)∈ts)(bD:Cal P w K mg base "first_that" 3 ["low","high","holds"] (Rb P w K mg base 2)):As P w K mg base CX0 4 f fd ["self","bit","nth"] (K4 K ad ts):=by
 refine F.ok Kl (λvs H Q E h=>?_) (λA outer s H vs Q E hr h=>?_)
 ·obtain⟨a,l,b,n,rfl,_⟩:=h
  rfl
 ·obtain⟨a,l,b,n,rfl,hC,hn,hT,q⟩:=h
  obtain⟨dx,t,u,hx,ht,hu,hl⟩:=id hC;have hpos:0<Cb l.length:=by
   have:0<l.length:=by
    rcases ql l.length with z|z
    ·rw[z] at hn
     exact absurd hn (yf _)
    ·exact z
   unfold Cb Br;lia
  refine⟨_,(Af (An (Abx (qual:="Counts.block_with.<locals>.<lambda>") (k:=1) bD hr.m Ad (Ah Co (Am Aq (by rfl) T.cD C7 (tpa (tfl (pv 0)) Aa)) Ad) (F.code hK) hB rfl (by kernel_rfl) Iy (λ_ _ _ _ _ _ _ hr=>(tpc Jb (Fn aR hr.m (pv 3) (tpa (pv 1) (tpa (Ah A7 (pv 0) Ad) Aa))) (pv 2)))))),?_⟩;apply⟨a,ad,dx,_,_,rfl,hx,aj.cl,aj.df,rfl,?_⟩;apply⟨u,_,rfl,.inr (SqT.of hu),?_⟩;rw[Ur];k_is;have hk:=hT.1 _ hts;refine⟨0,((Cb l.length-1:Nat):Int),λi=>decide (n<(occ b l (min (256*(i.toNat+1)) l.length)).length),rfl,?_,by lia,hk,λi H3 hi1 hi2 s3=>?_,λm H' hm1 hm2 hm3 hm4 s' t'=>?_⟩
  ·rw[show(((Cb l.length+1:Nat):Int)-2)=((Cb l.length-1:Nat):Int) by lia]
  ·obtain⟨pt,hpt⟩:=Tb.tbl hk
   have kp:∀{b:fg} {u:HO},(∀ps,u≠.tbl ps)->H b=some u->H3 b=some u:=λ{b u} nt e=>s3 b u (λz=>by rw[z,hpt] at e;cases e;exact nt pt rfl) e;have hx3:=kp (by intro ps e;cases e) hx;have hC3:Bk K ad H3 a l:=⟨dx,t,u,hx3,kp (by intro ps e;cases e) ht,kp (by intro ps e;cases e) hu,hl⟩;apply⟨a,dx,_,rfl,hx3,rfl,?_⟩;k_is;obtain⟨k,rfl⟩:=td hi1;refine⟨a,l,b,k+1,rfl,hC3,by lia,?_⟩;apply⟨?_,Ak.refl _⟩;rw[i8];exact congrArg V.bl (decide_eq_decide.mpr (by lia))
  ·obtain⟨k,rfl⟩:=td hm1
   have hk1:k<Cb l.length:=by lia
   have h256:256*k<=l.length:=by unfold Cb Br at hk1;lia
   refine q k H' hk1 ?_ (zL hT hts s' t');rcases ql k with rfl|hk0
   ·exact i6 _
   ·have:=hm3 (by lia)
    dsimp only at this;rw[show(((k:Int)-1).toNat+1)=k by lia,jm h256] at this;have:=of_decide_eq_false this;lia
inductive Pk (K:eh)(C:fg)(vs:List V)(H:Hp)(Q:VK)(E:XK):Prop|mk(a:fg)(l:Za5)(b:Bool)(j k t:Nat)(_:vs=[.ref a,.int (b.toNat:Nat),.int j,.int k])(_:Bk K C H a l)(_:(occ b l (32*Br l.length))[(occ b l (32*j)).length+k]?=some t)(_:∀H',Ak H H'->Q (.int t) H')
theorem M4 {b:Bool}{l:Za5}{W j k t:Nat}(h:(occ b l (32*W))[(occ b l (32*j)).length+k]?=some t):j<W:=by
 rcases Nat.lt_or_ge j W with z|z
 ·exact z
 ·exfalso
  have h1:=(ge.mp h).1;have h2:=Aan (b:=b) (l:=l) (show 32*W<=32*j by lia);lia
theorem iL {b:Bool}{l:Za5}{W j k t p:Nat}(h:(occ b l (32*W))[(occ b l (32*j)).length+k]?=some t)(hp:(L6 b l j)[k]?=some p):t=32*j+p:=by
 have hj:=M4 h;have hk:=(ge.mp hp).1;have hlen:(occ b l (32*(j+1))).length=(occ b l (32*j)).length+(L6 b l j).length:=by rw[R4,fe,fb]
 rw[Xa (show 32*(j+1)<=32*W by lia) (by lia),R4,f8 (kq _ _),jb,gd,hp] at h;exact(fq h).symm
theorem eY {b:Bool}{l:Za5}{W j k t:Nat}(h:(occ b l (32*W))[(occ b l (32*j)).length+k]?=some t)(hp:(L6 b l j)[k]?=none):(L6 b l j).length<=k/\(occ b l (32*W))[(occ b l (32*(j+1))).length+(k-(L6 b l j).length)]?=some t:=by
 have hk:=List.getElem?_eq_none_iff.mp hp;refine⟨hk,?_⟩;rw[R4,fe,fb,show(occ b l (32*j)).length+(L6 b l j).length+(k-(L6 b l j).length)=(occ b l (32*j)).length+k by lia];exact h
include T aO aj in
theorem Qm (F:Fun K "place_from" "Counts.place_from" D1 f fd)(bo:Cal P w K mg base "nth_one" 2 ["word","nth"] zN):As P w K mg base CX0 3 f fd ["self","bit","number","nth"] (Pk K ad):=by
 exists F.ok Bj
 obtain⟨a,l,b,j,k,t,rfl,⟨dx,tw,u,hx,ht,hu,hl⟩,hp,q⟩:=h;refine⟨_,(Ab (tst 4 Bj.nd (Gk (ttc Cj (pv 1) Ad) Ad (Bg rfl T.cX))) (Ab (tst 5 Bj.nd (Aw bo hr.m (tpa (Ah gE (tix Em (tfl (pv 0)) (pv 2)) (pv 4)) (tpa (pv 3) Aa)))) (Ab (Fh ja (tN (Aap (pv 5))) (Ab (tau 3 Bj.nd (Aw aO hr.m (tpa (Ah gE (tix Em (tfl (pv 0)) (pv 2)) (pv 4)) Aa)) Xg) (Ab (tau 2 Bj.nd Ad Jl) (Af (tst 5 Bj.nd (Aw bo hr.m (tpa (Ah gE (tix Em (tfl (pv 0)) (pv 2)) (pv 4)) (tpa (pv 3) Aa)))))))) (Af (An (Ah A7 (Ah Lb (pv 2) (Bg rfl T.cJ)) (pv 5))))))),?_⟩
 have hfl:∀{G:St} {H1:Hp} {Q':VK},Q' (.int (Nk b:Nat)) H1->(if decide (V.int (b.toNat:Nat)=V.int 1)=true then tC (.int 0) G H1 Q' else tC (.int 4294967295) G H1 Q'):=λ{G H1 Q'} h=>by
  cases b with
  |true=>exact Cg (λ_=>h) (λz=>absurd rfl z)
  |false=>exact Cg (λz=>absurd z (by decide)) (λ_=>h)
 have hj0:=M4 hp;apply hfl ?_;apply⟨a,ad,dx,_,_,rfl,hx,aj.cl,aj.cL,rfl,?_⟩;apply G9 (SqT.of ht) (Nr hj0) ?_;k_is;rw[Sr];refine⟨_,k,rfl,λH1 s1=>?_⟩;rw[Zc];apply Fg (λG H'=>Ak H H'/\∃j k:Nat,G=[some (.ref a),some (.int (b.toNat:Nat)),some (.int j),some (.int k),some (.int (Nk b:Nat)),some (Aei ((L6 b l j)[k]?))]/\(occ b l (32*Br l.length))[(occ b l (32*j)).length+k]?=some t) (λG _=>match G with | [_,_,some (.int j),_,_,_]=>Br l.length-j.toNat|_=>0) ⟨s1,j,k,rfl,hp⟩ ?_;rintro μ G H2 ⟨s2,j,k,rfl,hp⟩ QS;have hj:=M4 hp;have QS:Br l.length-j=μ:=QS;k_is
 cases hw:(L6 b l j)[k]? with
 |some p=>
  have:=iL hp hw;subst this;refine Cg (λz=>absurd z (by intro y;cases y)) (λ_=>?_);k_is;have:=q H2 s2;show rI0 _ _ (V.int ((p:Nat):Int)) H2 Q;refine yR ?_;rw[show((j:Int)*32+((p:Nat):Int))=((32*j+p:Nat):Int) by lia];exact this
 |none=>
  obtain⟨hk,hp'⟩:=eY hp hw;refine Cg (λ_=>?_) (λz=>absurd rfl z);refine Jx ?_;apply⟨a,ad,dx,_,_,rfl,s2 _ _ hx,aj.cl,aj.cL,rfl,?_⟩;apply G9 (SqT.of (s2 _ _ ht)) (Nr hj) ?_;k_is;rw[Sr];refine⟨_,rfl,?_⟩;rw[wM];apply⟨a,ad,dx,_,_,rfl,s2 _ _ hx,aj.cl,aj.cL,rfl,?_⟩;k_is;rw[show((j:Int)+1)=((j+1:Nat):Int) by lia,show((k:Int)-((L6 b l j).length:Nat))=((k-(L6 b l j).length:Nat):Int) by lia];refine G9 (SqT.of (s2 _ _ ht)) (Nr (M4 hp')) ?_;k_is;rw[Sr];refine⟨_,k-(L6 b l j).length,rfl,λH3 s3=>?_⟩;rw[Zc];apply⟨⟨s2.trans s3,j+1,k-(L6 b l j).length,rfl,hp'⟩,?_⟩;show Br l.length-(j+1)<μ;lia
inductive Vp (K:eh)(C:fg)(ts:List Tb)(vs:List V)(H:Hp)(Q:VK)(E:XK):Prop|mk(a:fg)(l:Za5)(b:Bool)(n tt:Nat)(_:vs=[.ref a,.int (b.toNat:Nat),.int n])(_:Bk K C H a l)(_:Tbs ts H)(_:(occ b l l.length)[n]?=some tt)(_:∀H',SmT ts H H'->Q (.int tt) H')
include T aQ aj aX aR in
theorem Qr (F:Fun K "place_of" "Counts.place_of" Fi f fd)(bE:Mth P w K mg base ad "many_like" 2 ["self","bit"] (Tt K ad))(bF:Mth P w K mg base ad "block_with" 4 ["self","bit","nth"] (K4 K ad ts))(bG:Mth P w K mg base ad "place_from" 3 ["self","bit","number","nth"] (Pk K ad)):As P w K mg base CX0 5 f fd ["self","bit","nth"] (Vp K ad ts):=by
 exists F.ok Hg
 obtain⟨a,l,b,n,tt,rfl,hC,hT,htt,q1⟩:=h;obtain⟨dx,t,u,hx,ht,hu,hl⟩:=id hC;refine⟨_,(Ab (Be (Aw aX hr.m (tpa (pv 1) Aa))) (Ab (Be (Aw aQ hr.m (tpa (pv 2) (tpa (Ah Co (Fn bE hr.m (pv 0) (tpa (pv 1) Aa)) Ad) Aa)))) (Ab (tst 3 Hg.nd (Fn bF hr.m (pv 0) (tpa (pv 1) (tpa (pv 2) Aa)))) (Af (An (Fn bG hr.m (pv 0) (tpa (pv 1) (tpa (Ah Lb (pv 3) (Bg rfl T.cM)) (tpa (Ah Co (pv 2) (Fn aR hr.m (pv 0) (tpa (pv 1) (tpa (pv 3) Aa)))) Aa))))))))),?_⟩
 apply⟨b,rfl,?_⟩;apply⟨a,dx,_,rfl,hx,rfl,?_⟩;apply⟨a,l,b,rfl,hC,?_⟩;k_is;have hn:=Ff htt;refine⟨n,_,rfl,by lia,by lia,?_⟩;apply⟨a,dx,_,rfl,hx,rfl,?_⟩;apply⟨a,l,b,n,rfl,hC,hn,hT,λkb H1 hkb hle s1=>?_⟩;have h256:256*kb<=l.length:=by unfold Cb Br at hkb;lia
 have hx1:=s1.k hx;have hC1:=hC.sm s1;apply⟨a,dx,_,rfl,hx1,rfl,?_⟩;apply⟨a,dx,_,rfl,hx1,rfl,?_⟩;apply⟨a,l,b,kb,rfl,hC1,by lia,?_⟩;rw[jm h256];apply⟨a,l,b,8*kb,n-(occ b l (256*kb)).length,tt,?_,hC1,?_,λH' s'=>?_⟩
 ·rw[show((kb:Int)*8)=((8*kb:Nat):Int) by lia,show((n:Int)-((occ b l (256*kb)).length:Nat))=((n-(occ b l (256*kb)).length:Nat):Int) by lia]
  rfl
 ·rw[show 32*(8*kb)=256*kb by lia,show(occ b l (256*kb)).length+(n-(occ b l (256*kb)).length)=n by lia,Xa (Zh l.length) hn]
  exact htt
 ·k_is
  exact q1 H' (s1.then s')
theorem G8.keep {K:eh}{b:fg}{l:Za5}(h:G8 K C H b l)(k:∀c u,(∀ps,u≠.tbl ps)->(c=b\/∃xs,u=.tup xs)->H c=some u->H' c=some u):G8 K C H' b l:=by
 obtain⟨dx,t,h1,h2,h3⟩:=h;exact⟨dx,t,k _ _ (by intro ps e;cases e) (.inl rfl) h1,k _ _ (by intro ps e;cases e) (.inr ⟨_,rfl⟩) h2,h3⟩
theorem Bk.keep {K:eh}{b:fg}{l:Za5}(h:Bk K C H b l)(k:∀c u,(∀ps,u≠.tbl ps)->(c=b\/∃xs,u=.tup xs)->H c=some u->H' c=some u):Bk K C H' b l:=by
 obtain⟨dx,t,u,h1,h2,h3,h4⟩:=h;exact⟨dx,t,u,k _ _ (by intro ps e;cases e) (.inl rfl) h1,k _ _ (by intro ps e;cases e) (.inr ⟨_,rfl⟩) h2,k _ _ (by intro ps e;cases e) (.inr ⟨_,rfl⟩) h3,h4⟩
def ahV (es:Za4)(i:Nat):V:=if i=0 then .non else .int (es.getD (i-1) 0:Nat)
theorem Z0 (l:Za5):(l.map λb=>[b]).flatten=l:=by
 induction l with
 |nil=>rfl
 |cons b r ih=>rw[ik,iw,ih];rfl
def bgB (es:Za4):Za5:=(gp es.length).map λi=>!decide (V.int (es.getD i 0:Nat)=ahV es i)
inductive Rs (K:eh)(CC:fg)(vs:List V)(H:Hp)(Q:VK)(E:XK):Prop|mk(l:fg)(es:Za4)(_:vs=[.ref l])(_:H l=some (.lst (nV es)))(_:es.length<=4000)(_:∀c H',Ak H H'->H c=none->Bk K CC H' c (bgB es)->Q (.ref c) H')
variable (aY:Mkr P w K mg base "Counts" ad 3 ["self","bits"] (Nl K ag ad)) (aZ:Mkr P w K mg base "Bits" ag 3 ["self","text"] (R5 K ag))
include T aY aZ in
theorem Wz (F:Fun K "begins_of" "begins_of" Hv f fd):As P w K mg base CX0 5 f fd ["things"] (Rs K ad):=by
 exists F.ok No
 obtain⟨l,es,rfl,hl,hn,q⟩:=h;refine⟨_,(Ab (pE (i:=1) rfl Sy No.nd rfl rfl (Abr rfl T.dE (tpa (Ah E1 (A8 (tpa Gw Aa)) (pv 0)) (tpa (pv 0) Aa))) (λ_ _ _ _=>Fb) (λ_ _ _ _=>(Gk (ttc Pq (pv 1) (pv 0)) Ar Ar))) (Af (An (kJ aY hr.m (tpa (kJ aZ hr.m (tpa (E9 qg DH DF lP Ar (tpa (pv 1) Aa)) Aa)) Aa))))),?_⟩
 apply⟨few (by simp),λp hp=>?_⟩;obtain⟨u1,hp1⟩:=Au (o:=.lst [V.non]) hp;have hl1:=u1 _ _ hl;generalize upd H p _=H1 at *;apply⟨p,l,_,_,rfl,rfl,hp1,hl1,jx (Ap (by rw[Fa,qq];lia)),λp2 hp2=>?_⟩;obtain⟨u2,hp3⟩:=Au (o:=.lst ([V.non]++nV es)) hp2;have hl2:=u2 _ _ hl1;have s2:=u1.trans u2;generalize upd H1 p2 _=H2 at *;apply⟨p2,l,rfl,⟨_,SqL.of hp3⟩,⟨_,SqL.of hl2⟩,?_⟩;refine Ac1 (SqL.of hp3) (SqL.of hl2) (λi=>((bgB es).take i).map λb:Bool=>V.str (Bi [b])) rfl (λi hi=>?_) (λi x y H3 R A hx hy s3 _ hA=>?_) (λD H3 hD3 s3 h3=>?_)
 ·rw[fb,f7]
  rw[Fa] at hi;exact Ap (io (ID _ _) (by lia))
 ·obtain⟨n,hn2,rfl⟩:=Rx hy
  have hi:=Ff hn2;obtain rfl:x=ahV es i:=by
   cases i with
   |zero=>exact(fq hx).symm
   |succ j=>
    have hx:(nV es)[j]?=some x:=hx;obtain⟨m,hm,rfl⟩:=Rx hx;unfold ahV jy;rw[if_neg (by lia),show j+1-1=j by lia,hm];rfl
  have hsc:uB (V.int (n:Nat)) (ahV es i)=true:=by
   unfold ahV;split<;>rfl
  have hb:(bgB es)[i]?=some (!decide (V.int (n:Nat)=ahV es i)):=by
   unfold bgB jy;rw[gd,jd hi];simp only[vi,hn2,wx]
  apply⟨hsc,?_⟩
  cases hb2:(!decide (V.int (n:Nat)=ahV es i)) with
  |true=>
   apply hA _ _ ?_ (Ak.refl _);rw[jn,hb,hb2,f9];rfl
  |false=>
   apply hA _ _ ?_ (Ak.refl _);rw[jn,hb,hb2,f9];rfl
 have hbl:(bgB es).length=es.length:=by unfold bgB;rw[fb,gr]
 apply⟨rfl,?_⟩;apply Zx (ls:=(bgB es).map λb=>[b]) ?_ ?_ ?_
 ·rw[h3,gq (by rw[hbl,Fa,fe,Fa,qq];lia),j1]
  rfl
 ·rw[Z0,hbl]
  lia
 rw[Z0];k_is;intro b db hb hdb hbd;refine⟨b,db,bgB es,rfl,Ac,by lia,λH5 s5 hB=>⟨rfl,?_⟩⟩;have s5:=Jd hb hdb s5;k_is;intro c dc hc hdc hcd;refine⟨c,dc,b,_,rfl,Ac,(hB.keep λc u _ _ e=>Gf hc hdc _ _ e),λH6 s6 hC=>⟨rfl,?_⟩⟩;have s6:=Jd hc hdc s6;have s25:=(s2.trans s3).trans s5;exact q c H6 (s25.trans s6) (s25.free hc) hC
inductive Yu(vs:List V)(H:Hp)(Q:VK)(E:XK):Prop|mk(a:fg)(xs:List V)(_:vs=[.ref a])(_:H a=some (.lst xs))(_:jG xs)(_:xs.length<=5000)(_:∀H',Ak H H'->Q .non H')
include T aN in
theorem Tk (F:Fun K "check_order" "check_order" Ib f fd):As P w K mg base CX0 3 f fd ["order"] Yu:=by
 exists F.ok E4
 obtain⟨a,xs,rfl,ha,hG,hn,q⟩:=h;refine⟨_,(Ab (tst 1 E4.nd (Ah Ox (A8 (tpa Fd Aa)) (Am Aq (by rfl) T.cD C7 (tpa (pv 0) Aa)))) (Af (Dy ja rfl (Rh rfl T.dh (tpa (pv 0) Aa)) (R1 rfl (Eh (tgn 2 E4.nd) (Eh (tgn 3 E4.nd) Nz))) (Ab (Bt (PW.pt (Nm (E8 (Cw (Aw aN hr.m (tpa (pv 3) (tpa Ad (tpa (Ah Co (Am Aq (by rfl) T.cD C7 (tpa (pv 0) Aa)) Ad) Aa)))))) (Mm (Cw (tix B2 (pv 1) (pv 3)))))) (Af Bq)
  Ax) (Af (fV Fd (gQ (pv 1) (pv 3) Kq))))))),?_⟩
 apply⟨few (by simp),λp hp=>?_⟩;have t0:=Ag (o:=.lst [V.bl false]) hp;apply⟨a,_,rfl,.inl (SqL.of (t0 _ _ ha)),?_⟩;apply⟨p,xs.length,_,rfl,rfl,Ac,by lia,by lia,jx (Ap (by simp;lia)),λm hm=>?_⟩;have hm0:=t0.free hm;have t1:=t0.trans (Ag (o:=.lst (fu ((xs.length:Nat):Int).toNat [V.bl false]).flatten) hm);have hM:(upd (upd H p (.lst [V.bl false])) m (.lst (fu ((xs.length:Nat):Int).toNat [V.bl false]).flatten)) m=some (.lst ((fu xs.length false).map V.bl)):=by
  rw[Ac,i8,rV]
 generalize (upd (upd H p (.lst [V.bl false])) m (.lst (fu ((xs.length:Nat):Int).toNat [V.bl false]).flatten))=H0 at *;apply⟨a,rfl,⟨_,SqL.of (t1 _ _ ha)⟩,?_⟩;refine Nv (xs:=xs) (λk G H1=>(∃(ms:Za5) (v2 v3:Option V),G=[some (.ref a),some (.ref m),v2,v3]/\Met xs k ms/\H1 m=some (.lst (ms.map V.bl)))/\Ak H H1) ?_ (λk G H1 _ h=>SqL.of (h.2 _ _ ha)) ?_ ?_
 ·exact⟨⟨_,_,_,rfl,qE xs,hM⟩,t1⟩
 ·rintro k x G H1 t hx ⟨⟨ms,v2,v3,rfl,hms,hm1⟩,s1⟩ ht
  have hk:=Ff hx;have st:=Ag (o:=.tup [.int k,x]) ht;have hm2:=st _ _ hm1;have s2:=s1.trans st;generalize upd H1 t _=H2 at *;obtain⟨n,hxn,hnl,hno⟩:=hG k hk;rw[hx] at hxn;obtain rfl:=fq hxn;obtain⟨b,hb⟩:∃b,ms[n]?=some b:=⟨_,fc (by rw[hms.1];exact hnl)⟩;obtain rfl:b=false:=by
   cases b with
   |false=>rfl
   |true=>
    obtain⟨j,hj,hxj⟩:=(hms.2 n true hb).mp rfl;exact absurd hxj (hno j hj)
  apply⟨a,_,rfl,.inl (SqL.of (s2 _ _ ha)),?_⟩;apply⟨.int n,0,(xs.length:Int)-1,rfl,B5 _,?_⟩;rw[show inI (.int (n:Int)) 0 ((xs.length:Int)-1)=true by rw[Ro,decide_eq_true (show(0:Int)<=n by lia),decide_eq_true (show(n:Int)<=(xs.length:Int)-1 by lia)];rfl];apply Cv (SqL.of hm2) (Bl (zK hb)) ?_;apply Tz hm2 rfl (by rw[fb,hms.1];exact hnl) ?_;rw[rT];k_is;exact⟨⟨_,_,_,rfl,uQ hms hx,Ac⟩,B0 s2 hm0⟩
 ·rintro G H1 ⟨⟨ms,v2,v3,rfl,hms,hm1⟩,s1⟩
  exact q H1 s1
def isF:V->Bool
 |.bl false=>true
 |_=>false
def fAt (H:Hp)(m:fg):Nat:=match H m with|some (.lst xs)=>xs.countP isF|_=>0
theorem Abg (ms:Za5):(ms.map V.bl).countP isF=ms.count false:=by
 induction ms with
 |nil=>rfl
 |cons b r ih=>cases b<;>simp[isF,AQ,sf,ih]
theorem sV {m:fg}{ms:Za5}(h:H m=some (.lst (ms.map V.bl))):fAt H m=ms.count false:=by
 unfold fAt;rw[h];exact Abg ms
theorem jP:∀{ms:Za5} {y:Nat},ms[y]?=some false->(ms.set y true).count false+1=ms.count false
 |[],_,h=>by cases h
 |b::r,0,h=>by
  cases h;simp
 |b::r,y+1,h=>by
  have ih:=jP (ms:=r) (y:=y) h;rw[List.set_cons_succ,sf,sf];lia
def Dr (H:Hp)(n:Nat)(rs:List fg):Prop:=∀r∈rs,∃ns:List Int,ns.length<=n/\H r=some (.lst (ns.map V.int))
theorem Dr.same {n:Nat}{rs:List fg}(s:Ak H H')(h:Dr H n rs):Dr H' n rs:=λr hr=>let ⟨ns,hl,e⟩:=h r hr;⟨ns,hl,s _ _ e⟩
theorem Dr.upd {n:Nat}{rs:List fg}{a:fg}{o:HO}(h:Dr H n rs)(hn:∀r∈rs,r≠a):Dr (upd H a o) n rs:=λr hr=>by
 obtain⟨ns,hl,e⟩:=h r hr;exact⟨ns,hl,by rw[Ai (hn r hr)];exact e⟩
inductive eI(vs:List V)(H:Hp)(Q:VK)(E:XK):Prop|mk(t:fg)(ns:Za4)(_:vs=[.ref t])(_:H t=some (.tup (nV ns)))(_:(∀x∈ns,x<ns.length))(_:ns.length<=5000)(_:∀p (rs:List fg) H',Ak H H'->H p=none->H' p=some (.lst (rs.map V.ref))->rs.length<=ns.length->Dr H' ns.length rs->Q (.ref p) H')
include T in
theorem X0 (F:Fun K "rounds_of" "rounds_of" Kx f fd):As P w K mg base CX0 1 f fd ["order"] eI:=by
 exists F.ok C9
 obtain⟨t,ns,rfl,ht,hb,hn,q⟩:=h;have hlV:(nV ns).length=ns.length:=by rw[fb]
 refine⟨_,(Ab (tst 1 C9.nd (A8 Aa)) (Ab (tst 2 C9.nd (Ah Ox (A8 (tpa Fd Aa)) (Am Aq (by rfl) T.cD C7 (tpa (pv 0) Aa)))) (Ab (Dy ja rfl (Fp rfl T.cI (tpa (Am Aq (by rfl) T.cD C7 (tpa (pv 0) Aa)) Aa)) (tgn 3 C9.nd) (Ab (tst 4 C9.nd (A8 Aa)) (Ab (tst 5 C9.nd (pv 3)) (Ab (Fh ja (E8 (Cw (tix B2 (pv 2) (pv 5)))) (Ab (fV Fd (gQ (pv 2) (pv 5) Kq)) (Ab (Be (E9 i7 lp ll Dh (pv 4) (tpa (pv 5) Aa))) (Af (tst 5 C9.nd (tix Em (pv 0) (pv 5))))))) (Af (Bt (ttc Jb (Am Aq (by rfl) T.cD C7 (tpa (pv 4) Aa)) Ad) (Af (Be (E9 i7 lp ll Dh (pv 1) (tpa (pv 4) Aa))))
  Ax)))))) (Af (An (pv 1)))))),?_⟩
 apply⟨i6 _,λp hp=>?_⟩;obtain⟨t0,e0⟩:=Au (o:=.lst []) hp;generalize upd H p _=H0 at *;apply⟨few (by simp),λp1 hp1=>?_⟩;have t1:=Ag (o:=.lst [V.bl false]) hp1;have s1:=t0.trans t1;have e1:=t1 _ _ e0;have f1:=@Ac H0 p1 (.lst [V.bl false]);generalize upd H0 p1 _=H1 at *;apply⟨t,_,rfl,.inr (SqT.of (s1 _ _ ht)),?_⟩;apply⟨p1,_,_,rfl,rfl,f1,by lia,by rw[hlV];lia,jx (Ap (by simp;lia)),λm hm=>?_⟩;have t2:=Ag (o:=.lst (fu (((nV ns).length:Nat):Int).toNat [V.bl false]).flatten) hm;have s2:=s1.trans t2;have hm0:=s1.free hm;have e2:=t2 _ _ e1;have hpm:p≠m:=Al e1 hm;have hM:(upd H1 m (.lst (fu (((nV ns).length:Nat):Int).toNat [V.bl false]).flatten)) m=some (.lst ((fu ns.length false).map V.bl)):=by
  rw[Ac,i8,hlV,rV]
 generalize (upd H1 m (.lst (fu (((nV ns).length:Nat):Int).toNat [V.bl false]).flatten))=H2 at *;apply⟨t,_,rfl,.inr (SqT.of (s2 _ _ ht)),?_⟩;apply⟨_,rfl,by lia,by rw[hlV];lia,?_⟩;rw[hlV,i8];refine Jc (λi G H3=>∃(rs:List fg) (ms:Za5) (v3 v4 v5:Option V),G=[some (.ref t),some (.ref p),some (.ref m),v3,v4,v5]/\H3 p=some (.lst (rs.map V.ref))/\rs.length<=i/\Dr H3 ns.length rs/\(∀r∈rs,r≠p/\r≠m)/\H3 m=some (.lst (ms.map V.bl))/\ms.length=ns.length/\Ak H H3) ?_ ?_ ?_
 ·exact⟨[],_,_,_,_,rfl,e2,fk _,(λr hr=>by cases hr),(λr hr=>by cases hr),hM,iz,s2⟩
 ·rintro i G H3 hi ⟨rs,ms,v3,v4,v5,rfl,hp3,hrl,hrs,hne,hm3,hml,s3⟩
  apply⟨i6 _,λa ha=>?_⟩;have ta:=Ag (o:=.lst []) ha;have ha0:=s3.free ha;have hap:a≠p:=(Al hp3 ha).symm;have ham:a≠m:=(Al hm3 ha).symm;have har:∀r∈rs,r≠a:=λr hr=>by obtain⟨_,_,e⟩:=hrs r hr;exact Al e ha
  have s4:=s3.trans ta;have hp4:=ta _ _ hp3;have hm4:=ta _ _ hm3;have hrs4:=hrs.same ta;have ha4:=@Ac H3 a (.lst []);generalize upd H3 a _=H4 at *;apply Fg (λG H5=>∃(ms:Za5) (qs:List Int) (y:Nat),G=[some (.ref t),some (.ref p),some (.ref m),some (.int (0+(i:Int))),some (.ref a),some (.int y)]/\y<ns.length/\H5 p=some (.lst (rs.map V.ref))/\Dr H5 ns.length rs/\H5 m=some (.lst (ms.map V.bl))/\ms.length=ns.length/\H5 a=some (.lst (qs.map V.int))/\qs.length+ms.count false<=ns.length/\Ak H H5) (λ_ H5=>fAt H5 m)
   ⟨ms,[],i,by simp,hi,hp4,hrs4,hm4,hml,ha4,by have:=List.count_le_length (a:=false) (l:=ms);simp;lia,s4⟩ ?_
  rintro z G H5 ⟨ms,qs,y,rfl,hy,hp5,hrs5,hm5,hml5,ha5,hc5,s5⟩ hz;rw[sV hm5] at hz;obtain⟨b,hb5⟩:∃b,ms[y]?=some b:=⟨_,fc (by lia)⟩;apply Cv (SqL.of hm5) (Bl (zK hb5)) ?_
  cases b with
  |false=>
   apply Jx ?_;apply Tz hm5 rfl (by rw[fb];lia) ?_;rw[rT];have hct:=jP hb5;have hm6:=@Ac H5 m (.lst ((ms.set y true).map V.bl));have s6:=B0 (o:=.lst ((ms.set y true).map V.bl)) s5 hm0;have ha6:upd H5 m (.lst ((ms.set y true).map V.bl)) a=some (.lst (qs.map V.int)):=by rw[Ai ham];exact ha5
   have hp6:upd H5 m (.lst ((ms.set y true).map V.bl)) p=some (.lst (rs.map V.ref)):=by rw[Ai hpm];exact hp5
   have hrs6:Dr (upd H5 m (.lst ((ms.set y true).map V.bl))) ns.length rs:=hrs5.upd λr hr=>(hne r hr).2;generalize upd H5 m _=H6 at *;apply⟨.inl ⟨rfl,_,SqL.of ha6⟩,?_⟩;apply Fc ha6 (by rw[fb];exact Ap (by lia)) ?_;k_is;have hx:ns[y]?=some ns[y]:=fc hy;have hlt:=hb _ (gg hx);generalize ns[y]=x at hx hlt;refine G9 (SqT.of ((B0 s6 ha0) _ _ ht)) (v:=.int x) (Bl (by rw[gd,hx];rfl)) ?_;apply⟨⟨ms.set y true,qs++[(y:Int)],x,rfl,hlt,by rw[Ai hap.symm];exact hp6,hrs6.upd har,by rw[Ai ham.symm];exact hm6,by rw[se];exact hml5,by rw[Ac,f9];rfl,by rw[fe];simp;lia,B0 s6 ha0⟩,?_⟩;rw[sV (ms:=ms.set y true) (by rw[Ai ham.symm];exact hm6)];lia
  |true=>
   apply⟨a,_,rfl,.inl (SqL.of ha5),?_⟩;apply Cg (λ_=>?_) (λ_=>?_)
   ·apply⟨.inl ⟨rfl,_,SqL.of hp5⟩,?_⟩;apply Fc hp5 (by rw[fb];exact Ap (by lia)) ?_;apply⟨rs++[a],ms,_,_,_,rfl,by rw[Ac,f9];rfl,by rw[fe];simp;lia,λr hr=>?_,λr hr=>?_,by rw[Ai hpm.symm];exact hm5,hml5,B0 s5 hp⟩
    ·rcases i5.mp hr with hr|hr
     ·exact(hrs5.upd λr hr=>(hne r hr).1) r hr
     ·rw[gw.mp hr]
      exact⟨qs,by lia,by rw[Ai hap];exact ha5⟩
    ·rcases i5.mp hr with hr|hr
     ·exact hne r hr
     ·rw[gw.mp hr]
      exact⟨hap,ham⟩
   ·k_is
    exact⟨rs,ms,_,_,_,rfl,hp5,by lia,hrs5,hne,hm5,hml5,s5⟩
 ·rintro G H3 ⟨rs,ms,v3,v4,v5,rfl,hp3,hrl,hrs,hne,hm3,hml,s3⟩
  k_is;exact q p rs H3 s3 hp hp3 hrl hrs
theorem gG (ys:List V):(G3 ys (some (-1)) none++G3 ys none (some (-1))).length=ys.length:=by
 rw[fe];unfold G3;rw[f7,f7,jh,jh];show min (ys.length-(if(-1:Int)<0 then((-1:Int)+(ys.length:Int)).toNat else min (-1:Int).toNat ys.length)) (ys.length-(if(-1:Int)<0 then((-1:Int)+(ys.length:Int)).toNat else min (-1:Int).toNat ys.length))
  + min ((if(-1:Int)<0 then((-1:Int)+(ys.length:Int)).toNat else min (-1:Int).toNat ys.length)-0) (ys.length-0)=ys.length
 rw[if_pos (by decide),show((-1:Int)+(ys.length:Int)).toNat=ys.length-1 by lia,AC,uc,uc,jm (xz _ _)];exact GI (xz _ _)
theorem M1 {qs:List Int}(h:∀v∈ys,v∈qs.map V.int):∃zs:List Int,ys=zs.map V.int:=by
 induction ys with
 |nil=>exact⟨[],rfl⟩
 |cons y r ih=>
  obtain⟨zs,e⟩:=ih λv hv=>h v (gz _ hv);obtain⟨z,_,hz⟩:=jl.mp (h y il);exact⟨z::zs,by rw[e,<-hz];rfl⟩
inductive lZ(vs:List V)(H:Hp)(Q:VK)(E:XK):Prop|mk(t:fg)(ns:Za4)(st:Int)(_:vs=[.ref t,.int st])(_:H t=some (.tup (nV ns)))(_:(∀x∈ns,x<ns.length))(_:ns.length<=3000)(_:0<st)(_:∀d (kvs:List (Key×V)) H',Ak H H'->H d=none->H' d=some (.dK kvs)->Q (.ref d) H')
theorem rQ {n:Nat}(h:n<=10000000):n<=sizeLine:=io h (by decide)
include T in
theorem P6 (F:Fun K "shortcuts_of" "shortcuts_of" Hc f fd)(bH:Cal P w K mg base "rounds_of" 1 ["order"] eI):As P w K mg base CX0 2 f fd ["order","step"] lZ:=by
 exists F.ok Ej
 obtain⟨t,ns,st,rfl,ht,hb,hn,hst,q⟩:=h;refine⟨_,(Ab (tst 2 Ej.nd Rp) (Ab (Dy ja rfl (F5 (Aw bH hr.m (tpa (pv 0) Aa))) (tgn 3 Ej.nd) (Af (Bt (ttc Jb (Am Aq (by rfl) T.cD C7 (tpa (pv 3) Aa)) (pv 1)) (Ab (tst 4 Ej.nd (vT (pv 3) (pv 1))) (Af (Be (E9 PySem.F.plainAttrs_dict BQ PySem.F.type_dict_update pD (pv 2) (tpa (xW rfl rfl T.dP rfl T.dE (tpa (pv 4) (tpa (Ah E1 (Cz Ga (pv 4) (Cq (Cy Bw Ad)) Gc) (Cz Ga (pv 4) Gc (Cq (Cy Bw Ad)))) Aa))) Aa)))))
  Ax))) (Af (An (pv 2))))),?_⟩
 k_is;intro d hd;obtain⟨t0,e0⟩:=Au (o:=.dK []) hd;generalize upd H d _=H0 at *;apply⟨t,ns,rfl,t0 _ _ ht,hb,by lia,λp rs H1 s1 f1 e1 hl hrs=>?_⟩;have s01:=t0.trans s1;refine⟨p,rfl,⟨_,SqL.of e1⟩,?_⟩;refine Ja (xs:=rs.map V.ref) (λi G H2=>∃(kvs:List (Key×V)) (v3 v4:Option V),G=[some (.ref t),some (.int st),some (.ref d),v3,v4]/\H2 d=some (.dK kvs)/\kvs.length<=i*3000/\H2 p=some (.lst (rs.map V.ref))/\Dr H2 ns.length rs/\Ak H H2) ?_ (λk G H2 _ h=>by obtain⟨_,_,_,_,_,_,h,_⟩:=h;exact SqL.of h) ?_ ?_
 ·exact⟨[],_,_,rfl,s1 _ _ e0,i6 _,e1,hrs,s01⟩
 ·rintro i x G H2 hx ⟨kvs,v3,v4,rfl,hd2,hk,hp2,hrs2,s2⟩
  have hi:=Ff hx;rw[fb] at hi;rw[gd] at hx;obtain⟨r,hr,rfl⟩:∃r,rs[i]?=some r/\V.ref r=x:=by
   cases e:rs[i]? with
   |none=>rw[e] at hx;cases hx
   |some r=>rw[e] at hx;exact⟨r,rfl,fq hx⟩
  obtain⟨qs,hql,hqr⟩:=hrs2 r (gg hr);apply⟨r,_,rfl,.inl (SqL.of hqr),?_⟩;apply Cg (λ_=>?_) (λ_=>?_)
  ·apply⟨r,_,st,rfl,rfl,hst,SqL.of hqr,λa ys ha hys hyl=>?_⟩;obtain⟨zs,rfl⟩:=M1 hys;rw[fb,fb] at hyl;have t3:=Ag (o:=.lst (zs.map V.int)) ha;have s3:=s2.trans t3;have ha3:=@Ac H2 a (.lst (zs.map V.int));have hd3:=t3 _ _ hd2;have hp3:=t3 _ _ hp2;have hrs3:=hrs2.same t3;generalize upd H2 a _=H3 at *;apply⟨.inr (.inr (.inl ⟨rfl,.inl ⟨_,hd3⟩⟩)),?_⟩;apply⟨a,_,rfl,SqL.of ha3,λb1 hb1=>?_⟩;obtain⟨t4,hb4⟩:=Au (o:=.lst (G3 (zs.map V.int) (some (-1)) none)) hb1;have ha4:=t4 _ _ ha3;have s4:=s3.trans t4;have hd4:=t4 _ _ hd3;have hp4:=t4 _ _ hp3;have hrs4:=hrs3.same t4;generalize upd H3 b1 _=H4 at *;apply⟨a,_,rfl,SqL.of ha4,λb2 hb2=>?_⟩;obtain⟨t5,hb5⟩:=Au (o:=.lst (G3 (zs.map V.int) none (some (-1)))) hb2;have ha5:=t5 _ _ ha4;have hc5:=t5 _ _ hb4;have s5:=s4.trans t5;have hd5:=t5 _ _ hd4;have hp5:=t5 _ _ hp4;have hrs5:=hrs4.same t5;generalize upd H4 b2 _=H5 at *;have hlen:=gG (zs.map V.int);rw[fe,fb] at hlen;apply⟨b1,b2,_,_,rfl,rfl,hc5,hb5,rQ (by lia),λc hc=>?_⟩;obtain⟨t6,hc6⟩:=Au (o:=.lst (G3 (zs.map V.int) (some (-1)) none++G3 (zs.map V.int) none (some (-1)))) hc;have ha6:=t6 _ _ ha5;have s6:=s5.trans t6;have hd6:=t6 _ _ hd5;have hp6:=t6 _ _ hp5;have hrs6:=hrs5.same t6;generalize upd H5 c _=H6 at *;refine⟨a,c,zs,_,rfl,SqL.of ha6,SqL.of hc6,by rw[fe];lia,λg kvs2 hg hkl=>?_⟩;obtain⟨t7,hg7⟩:=Au (o:=.dK kvs2) hg;have s7:=s6.trans t7;have hd7:=t7 _ _ hd6;have hp7:=t7 _ _ hp6;have hrs7:=hrs6.same t7;have hdg:d≠g:=Al hd6 hg;generalize upd H6 g _=H7 at *;have hk5:kvs.length<=3000*3000:=io hk (Nat.mul_le_mul (by lia) (fk _));apply tI hdg hd7 hg7 (rQ (by lia)) λkvs' hk'=>?_;apply⟨kvs',_,_,rfl,Ac,by rw[yr];lia,?_,hrs7.upd λr hr e=>?_,B0 s7 hd⟩
   ·have hne:p≠d:=Ee hp7 hd7 (by intro z;cases z)
    rw[Ai hne];exact hp7
   ·obtain⟨_,_,er⟩:=hrs7 r hr
    rw[e,hd7] at er;cases er
  ·k_is
   exact⟨kvs,_,_,rfl,hd2,by rw[yr];lia,hp2,hrs2,s2⟩
 ·rintro G H2 ⟨kvs,v3,v4,rfl,hd2,hk,hp2,hrs2,s2⟩
  k_is;exact q d kvs H2 s2 hd hd2
theorem fM (h:jG xs):∃ns:Za4,xs=nV ns/\∀x∈ns,x<ns.length:=by
 have key:∀ys:List V,(∀y∈ys,∃n:Nat,y=V.int n/\n<xs.length)->∃ns:Za4,ys=nV ns/\∀x∈ns,x<xs.length:=λys=>by
  induction ys with
  |nil=>exact λ_=>⟨[],rfl,λx hx=>by cases hx⟩
  |cons y r ih=>
   intro hy;obtain⟨ns,e,hb⟩:=ih λv hv=>hy v (gz _ hv);obtain⟨n,e1,hn⟩:=hy y il;refine⟨n::ns,by rw[e,e1];rfl,λx hx=>?_⟩;rcases i9.mp hx with rfl|hx
   ·exact hn
   ·exact hb x hx
 obtain⟨ns,e,hb⟩:=key xs λy hy=>by
  obtain⟨j,hj⟩:=l7 hy;obtain⟨n,h1,h2,_⟩:=h j (Ff hj);rw[hj] at h1;exact⟨n,fq h1,h2⟩
 refine⟨ns,e,λx hx=>?_⟩;have:=hb x hx;rw[e,fb] at this;exact this
inductive Nb (C:fg)(vs:List V)(H:Hp)(Q:VK)(E:XK):Prop|mk(x dx a:fg)(xs:List V)(st:Int)(_:vs=[.ref x,.ref a,.int st])(_:H x=some (.ins C dx []))(_:H a=some (.lst xs))(_:jG xs)(_:xs.length<=3000)(_:0<st)(_:∀H',SameBut x H H'->Q .non H')
include T in
theorem Qe (F:Yr K "__init__" "Shortcuts.__init__" B1 f fd)(Z:Qd K aq)(bI:Cal P w K mg base "check_order" 3 ["order"] Yu)(bJ:Cal P w K mg base "shortcuts_of" 2 ["order","step"] lZ):As P w K mg base (CXE P w) 4 f fd ["self","order","step"] (Nb aq):=by
 exists F.okE M8
 obtain⟨x,dx,a,xs,st,rfl,hx,ha,hG,hn,hst,q⟩:=h;refine⟨_,(Ab (Be (Aw bI hr.m (tpa (pv 1) Aa))) (Ab (tsf (pv 0) (Es F4 (by rfl) T.dg Rf (tpa (pv 1) Aa))) (Af (tsf (pv 0) (Aw bJ hr.m (tpa (tfl (pv 0)) (tpa (pv 2) Aa))))))),?_⟩
 apply⟨a,xs,rfl,ha,hG,by lia,λH1 s1=>?_⟩;obtain⟨ns,rfl,hb⟩:=fM hG;have hx1:=s1 _ _ hx;have ha1:=s1 _ _ ha;apply⟨a,_,rfl,.inl ⟨SqL.of ha1,λt ht=>?_⟩⟩;have t2:=Ag (o:=.tup (nV ns)) ht;have hx2:=t2 _ _ hx1;have ht2:=@Ac H1 t (.tup (nV ns));have s2:=s1.trans t2;generalize upd H1 t _=H2 at *;have htx:t≠x:=Ee ht2 hx2 (by intro z;cases z);apply Cr hx2 Z.cl Z.dD (by decide) ?_;have hx3:upd H2 x (.ins aq dx (Eg "onward" (.ref t) [])) x=some (.ins aq dx [("onward",.ref t)]):=Ac;have ht3:upd H2 x (.ins aq dx (Eg "onward" (.ref t) [])) t=some (.tup (nV ns)):=by rw[Ai htx];exact ht2
 have s3:=s2.but.trans (Dq (H:=H2) (x:=x) (o:=.ins aq dx (Eg "onward" (.ref t) [])));generalize upd H2 x _=H3 at *;apply⟨x,aq,dx,_,.ref t,rfl,hx3,Z.cl,Z.dD,rfl,?_⟩;apply⟨t,ns,st,rfl,ht3,hb,by rw[fb] at hn;exact hn,hst,λd kvs H4 s4 f4 e4=>?_⟩;apply Cr (s4 _ _ hx3) Z.cl Z.cO (show 1<1000 by decide) ?_;k_is;exact q _ ((s3.trans s4.but).trans Dq)
inductive jA (K:eh)(C:fg)(vs:List V)(H:Hp)(Q:VK)(E:XK):Prop|mk(v:V)(o:Option (List V))(_:vs=[v])(_:ThA K H v o)(_:(∀ds,Mh o ds->∀l H',Ak H H'->H l=none->H' l=some (.lst ((Ay ds).map V.int))->Q (.ref l) H'))(_:Aco C H E o)
theorem Oi {k:Nat}{x:V}(h:xs[k]?=some x):xs.take (k+1)=xs.take k++[x]:=by rw[jn,h];rfl
include T aP in
theorem fB (F:Fun K "look_at" "look_at" Pb f fd)(bh:Acz P w K mg base "NoWood" ao ai 1 ["self","place"]):As P w K mg base (CXE P w) 3 f fd ["elders"] (jA K ai):=by
 exists F.okE Jm
 obtain⟨v,o,rfl,hT,q,qe⟩:=h;refine⟨_,(Ab (Bt (E8 (Cw (Am Du (by rfl) T.cH Ba (tpa (pv 0) (tpa (Hu (v:=.ty "list") rfl T.di Wl rfl) Aa))))) (Af (Op bh hr.m rfl (tpa Ad Aa)))
  Ax) (Ab (tst 1 Jm.nd (A8 (tpa (Cy Bw Ad) Aa))) (Ab (Dy DZ rfl (Rh rfl T.dh (tpa (pv 0) Aa)) (R1 rfl (Eh (tgn 2 Jm.nd) (Eh (tgn 3 Jm.nd) Nz))) (Ab (Bt (PW.pt (Nm (ttc Cj (pv 2) (Bg rfl T.cR)) (Nm (E8 (Cw (Aw aP hr.m (tpa (pv 3) Aa)))) (Mm (ttc Pg (pv 3) (Cy Bw Ad)))))) (Af (Op bh hr.m rfl (tpa (pv 2) Aa)))
  Ax) (Ab (Fh DZ (ttc Jb (tix B2 (pv 1) (Cy Bw Ad)) (pv 3)) (Af (Be (tJ i7 DI DG rF (pv 1))))) (Ab (Bt (ttc Pq (tix B2 (pv 1) (Cy Bw Ad)) (pv 3)) (Af (Op bh hr.m rfl (tpa (pv 2) Aa)))
  Ax) (Af (Be (E9 i7 lp ll Dh (pv 1) (tpa (pv 2) Aa)))))))) (Af (An (Es Jv (by rfl) T.di Wl (tpa (pv 0) Aa))))))),?_⟩
 k_is
 cases o with
 |none=>
  obtain⟨t,ht,hk⟩:=hT;refine⟨_,_,_,_,rfl,ht,hk,?_⟩;k_is;exact⟨_,rfl,by decide,λdx hx=>qe 0 rfl dx _ (Ag hx) hx Ac⟩
 |some xs=>
  obtain⟨a,rfl,ha,hf,hn⟩:=hT;refine⟨_,_,_,_,rfl,.lst ha,Uf,?_⟩;apply⟨few (by simp),λp hp=>?_⟩;k_is;have t0:=Ag (o:=.lst [V.int (-1)]) hp;refine⟨a,rfl,⟨_,SqL.of (t0 _ _ ha)⟩,?_⟩;refine Nv (xs:=xs) (λk G H1=>(∃(ds:Za4) (v2 v3:Option V),G=[some (.ref a),some (.ref p),v2,v3]/\Dok ds/\ds.length=k/\k<=4000/\xs.take k=(Ay ds).map V.int/\H1 p=some (.lst ((way ds k).map V.int)))/\Ak H H1) ?_ (λk G H1 _ h=>SqL.of (h.2 _ _ ha)) ?_ ?_
  ·exact⟨⟨[],_,_,rfl,(λk hk=>by cases hk),rfl,i6 _,rfl,Ac⟩,t0⟩
  ·rintro k x G H1 t hx ⟨⟨ds,v2,v3,rfl,hD,hl,hk4,htk,hp1⟩,s1⟩ ht
   have hk:=Ff hx;have hfx:=hf x (gg hx);have st:=Ag (o:=.tup [.int k,x]) ht;have hp2:=st _ _ hp1;have s2:=s1.trans st;generalize upd H1 t _=H2 at *;have sm:((k:Nat):Int).natAbs<10 ^ 12:=wF (by lia);have out:∀H3,Ak H H3->(k=4000\/∀e,xs[k]?=some (V.int e)->e∉way ds k)->∀dx,H3 dx=none->E (.ref ai) (some dx) (upd H3 dx (.xd [("place",.int (k:Nat))])):=λH3 s3 hb dx hx3=>
    qe k ⟨ds,hD,hl,hk,hk4,htk,hb⟩ dx _ (s3.trans (Ag hx3)) (s3.free hx3) Ac
   apply Cg (λh=>?_) (λh4=>?_)
   ·have h:=V.int.inj h
    k_is;exact⟨_,rfl,sm,out H2 s2 (.inl (by lia))⟩
   have hk4:k<4000:=by
    rcases zr hk4 with h|h
    ·exact h
    ·exact absurd (by rw[h];rfl) h4
   apply⟨x,rfl,hfx.same s2,?_⟩
   cases hix:isI x with
   |false=>
    apply⟨_,rfl,sm,out H2 s2 (.inr λe he=>?_)⟩;rw[hx] at he;rw[fq he] at hix;cases hix
   |true=>
    obtain⟨e,rfl⟩:=Xe hix;apply Cg (λh=>?_) (λhge=>?_)
    ·apply⟨_,rfl,sm,out H2 s2 (.inr λe' he hm=>?_)⟩;rw[hx] at he;have:=Aa0 hD (by lia) hm;have:=V.int.inj (fq he);lia
    k_is;have hw:=Cs hD k (by lia);have hw0:=E5 hD k (by lia);refine Fg (λG H3=>G=[some (.ref a),some (.ref p),some (.int k),some (.int e)]/\Ak H H3/\∃m,1<=m/\m<=(way ds k).length/\H3 p=some (.lst (((way ds k).take m).map V.int))/\∀(j:Nat) y,m<=j->(way ds k)[j]?=some y->e<y) (λ_ H3=>jL H3 p)
     ⟨rfl,s2,(way ds k).length,by lia,fk _,by rw[gq (fk _)];exact hp2,λj y hj hy=>by have:=Ff hy;lia⟩ ?_
    rintro z G H3 ⟨rfl,s3,m,hm1,hm2,hp3,hab⟩ hz;rw[Np hp3,Od hm2] at hz;k_is;have hx1:(way ds k)[m-1]?=some ((way ds k)[m-1]'(by lia)):=fc _;generalize (way ds k)[m-1]'(by lia)=y at hx1;refine Cv (SqL.of hp3) (Vd (by lia) hx1) ?_;apply Cg (λh=>?_) (λh=>?_)
    ·have hm3:2<=m:=by
      by_cases e1:m=1
      ·rw[e1,hw0] at hx1
       have:=fq hx1;lia
      ·lia
     refine Jx ?_;apply⟨.inl ⟨rfl,_,SqL.of hp3⟩,?_⟩;refine⟨p,_,.int y,rfl,rfl,hp3,?_,?_⟩
     ·rw[Od hm2,Zt (n:=y)]
      rw[jf (by lia)];exact hx1
     k_is;rw[oA hm2];refine⟨⟨rfl,B0 s3 hp,m-1,by lia,by lia,Ac,λj y' hj hy'=>?_⟩,?_⟩
     ·by_cases ej:j=m-1
      ·rw[ej,hx1] at hy'
       rw[<-fq hy'];lia
      ·exact hab j y' (by lia) hy'
     ·rw[Np Ac,Od (by lia)]
      lia
    ·apply Cv (SqL.of hp3) (Vd (by lia) hx1) ?_;apply Aec (λhne=>?_) (λhye=>?_)
     ·apply⟨_,rfl,sm,out H3 s3 (.inr λe' he hmem=>?_)⟩;rw[hx] at he;obtain rfl:=V.int.inj (fq he);obtain⟨j,hj⟩:=l7 hmem;have hye:y≠e:=λe1=>hne (congrArg V.int e1)
      by_cases h1:m<=j
      ·have:=hab j e h1 hj
       lia
      ·by_cases h2:j=m-1
       ·rw[h2,hx1] at hj
        exact hye (fq hj)
       ·have:=Oq hD k j (m-1) _ _ (by lia) (by lia) hj hx1
        lia
     ·obtain rfl:y=e:=V.int.inj hye
      apply⟨.inl ⟨rfl,_,SqL.of hp3⟩,?_⟩;apply Fc hp3 ?_ ?_
      ·rw[Od hm2]
       exact Ap (by have:=R8 hD k (by lia);lia)
      k_is;have hgd:(way ds k).getD (m-1) 0=y:=by unfold jy;rw[hx1];rfl
      refine⟨⟨ds++[m-1],_,_,rfl,Ha hD (by rw[hl];lia),by rw[fe,hl];rfl,by lia,?_,?_⟩,B0 s3 hp⟩
      ·rw[Oi hx,htk,Ew,hl,hgd,f9]
       rfl
      ·have e1:=Gi ds (m-1)
       rw[hl] at e1;rw[Ac,e1,show m-1+1=m by lia,f9];rfl
  ·rintro G H1 ⟨⟨ds,v2,v3,rfl,hD,hl,hk4,htk,hp1⟩,s1⟩
   rw[gq (fk _)] at htk;apply⟨a,_,rfl,.inl (SqL.of (s1 _ _ ha)),λl hl2=>?_⟩;refine q ds ⟨hD,by lia,htk⟩ l _ (s1.trans (Ag hl2)) (s1.free hl2) ?_;rw[Ac,htk]
inductive Zs(vs:List V)(H:Hp)(Q:VK)(E:XK):Prop|mk(a:fg)(ds:Za4)(_:vs=[.ref a])(_:H a=some (.lst ((Ay ds).map V.int)))(_:Dok ds)(_:ds.length<4000)(_:∀l H',Ak H H'->H' l=some (.lst (nV ds))->Q (.ref l) H')
theorem Vs {ds:Za4}{k:Nat}(hk:k<ds.length):nV (ds.take k)++[V.int (dAt ds k:Nat)]=nV (ds.take (k+1)):=by
 rw[jn,fc hk,<-Aak];unfold dAt jy;rw[fc hk];rfl
include T in
theorem Vv (F:Fun K "depths_of" "depths_of" Km f fd):As P w K mg base CX0 1 f fd ["elders"] Zs:=by
 exists F.ok Jp
 obtain⟨a,ds,rfl,ha,hD,hn,q⟩:=h;refine⟨_,(Ab (tst 1 Jp.nd (A8 Aa)) (Ab (Dy ja rfl (F5 (pv 0)) (tgn 2 Jp.nd) (Af (Be (E9 i7 lp ll Dh (pv 1) (tpa (Gk (ttc Cj (pv 2) (Cy Bw Ad)) Ad (Ah A7 (tix B2 (pv 1) (pv 2)) Ad)) Aa))))) (Af (An (pv 1))))),?_⟩
 apply⟨i6 _,λp hp=>?_⟩;k_is;have t0:=Ag (o:=.lst []) hp;refine⟨a,rfl,⟨_,SqL.of (t0 _ _ ha)⟩,?_⟩;refine Ja (xs:=(Ay ds).map V.int) (λk G H1=>(∃v2:Option V,G=[some (.ref a),some (.ref p),v2])/\H1 p=some (.lst (nV (ds.take k)))/\Ak H H1) ⟨⟨_,rfl⟩,Ac,t0⟩ (λk G H1 _ h=>SqL.of (h.2.2 _ _ ha)) ?_ ?_
 ·rintro k x G H1 hx ⟨⟨v2,rfl⟩,hp1,s1⟩
  have hk:=Ff hx;rw[fb,Bu] at hk;obtain⟨e,he,rfl⟩:=Ta hx;rw[J0 hk] at he;obtain rfl:=fq he;have hz:(nV (ds.take k)).length<sizeLine:=by
   rw[Fa,f7];exact Ap (by lia)
  apply⟨.inl ⟨rfl,_,SqL.of hp1⟩,?_⟩;apply Cg (λh=>?_) (λh=>?_)
  ·have hd:=P9 hD hk (V.int.inj h)
   apply Fc hp1 hz ?_;apply⟨⟨_,rfl⟩,?_,B0 s1 hp⟩;rw[Ac,<-Vs hk,hd];rfl
  ·obtain⟨v,hv,hlt,hd⟩:=E2 hD hk (λe=>h (congrArg V.int e))
   k_is;rw[hv];refine Cv (SqL.of hp1) (v:=.int (dAt ds v:Nat)) ?_ ?_
   ·refine Bl (lO ?_)
    rw[jf hlt,fc (by lia)];unfold dAt jy;rw[fc (by lia)];rfl
   apply Fc hp1 hz ?_;apply⟨⟨_,rfl⟩,?_,B0 s1 hp⟩;rw[Ac,<-Vs hk,hd];rfl
 ·rintro G H1 ⟨⟨v2,rfl⟩,hp1,s1⟩
  rw[fb,Bu,gq (fk _)] at hp1;k_is;exact q p H1 s1 hp1
inductive iA (ts:List Tb)(vs:List V)(H:Hp)(Q:VK)(E:XK):Prop|mk(l:fg)(ds:Za4)(_:vs=[.ref l])(_:H l=some (.lst (nV ds)))(_:ds.length<=10000)(_:Tbs ts H)(_:∀p H',SmT ts H H'->H p=none->H' p=some (.lst ((J8 ds).map V.int))->Q (.ref p) H')
include T hK hB in
theorem S6 {f c:fg}(F:Vx K "level_order" "level_order" Df f fd c Pt)(hts:(⟨Pt,J5,"level_order.<locals>.<lambda>"⟩:Tb)∈ts):As P w K mg base CX0 2 f fd ["depths"] (iA ts):=by
 refine F.ok R7 (λvs H Q E h=>?_) (λA outer s H vs Q E hr h=>?_)
 ·obtain⟨l,ds,rfl,_⟩:=h
  rfl
 ·obtain⟨l,ds,rfl,hl,hn,ht,q⟩:=h
  refine⟨_,(Af (An (qI (qual:="level_order.<locals>.<lambda>") (i:=0) (cl:=s.heap.objs.size+1) rfl hr.m rfl T.du (wJ rfl T.cI (tpa (Am Aq (by rfl) T.cD C7 (tpa (pv 0) Aa)) Aa)) (F.code hK) hB rfl rfl (by kernel_rfl) (by kernel_rfl) (by kernel_rfl) (by kernel_rfl) (λ_ _ _ _ _=>rfl)))),?_⟩;apply⟨l,_,rfl,.inl (SqL.of hl),?_⟩;k_is;have e1:(nV ds).length=ds.length:=by unfold nV;rw[fb]
  rw[e1];refine⟨ds.length,rfl,by lia,λp hp=>?_⟩;have s1:=Ag (o:=.rng 0 (ds.length:Int)) hp;have el:(iN ds).length=ds.length:=fb ..;have ht1:=ht.same s1;refine⟨p,l,iN ds,rfl,rfl,by rw[<-Yi];exact s1 _ _ hl,by rw[el];lia,.inr (by rw[el];exact Ac),ht1.1 _ hts,λp2 H' sx t2 hp2 hp3=>?_⟩;refine q p2 H' ((SmT.of ht s1).trans (zL ht1 hts sx t2)) (s1.free hp2) ?_;rw[hp3,el];rfl
theorem Ul (n:Nat):(fu n [V.int 0]).flatten=(fu n (0:Int)).map V.int:=by
 induction n with
 |zero=>rfl
 |succ n ih=>rw[jt,iw,ih,jt];rfl
def gsK (ds:Za4)(k:Nat):Za4:=(gp (ds.length+1)).map λj:Nat=>(Ca ds k ((j:Int)-1)).length
theorem M9 (ds:Za4)(k:Nat):(gsK ds k).length=ds.length+1:=by unfold gsK;rw[fb,gr]
theorem Vu {ds:Za4}{k j:Nat}(hj:j<ds.length+1):(gsK ds k)[j]?=some (Ca ds k ((j:Int)-1)).length:=by unfold gsK;rw[gd,jd hj];rfl
theorem sE (ds:Za4):gsK ds 0=fu (ds.length+1) 0:=by
 refine pj λj=>?_
 by_cases hj:j<ds.length+1
 ·rw[Vu hj,n9,if_pos hj];rfl
 ·rw[jk (by rw[M9];lia),jk (by rw[iz];lia)]
theorem vY (ds:Za4):gsK ds ds.length=gsC ds:=by
 unfold gsK gsC;rw[xo,ik,j1];refine congr (congrArg List.cons rfl) (kx λj _=>?_);show(Ca ds ds.length (((j+1:Nat):Int)-1)).length=_;rw[show(((j+1:Nat):Int)-1)=(j:Int) by lia]
theorem uC {ds:Za4}{k e:Nat}(he:eld ds k=(e:Int)-1)(h1:e<ds.length+1):gsK ds (k+1)=(gsK ds k).set e ((Ca ds k ((e:Int)-1)).length+1):=by
 refine pj λj=>?_
 by_cases hj:j<ds.length+1
 ·rw[Vu hj,zz]
  by_cases hje:e=j
  ·subst hje
   rw[if_pos rfl,if_pos (by rw[M9];exact h1),Tj he,fe];rfl
  ·rw[if_neg hje,Vu hj,W8 (by rw[he];lia)]
 ·rw[jk (by rw[M9];lia),jk (by rw[se,M9];lia)]
inductive Sx(vs:List V)(H:Hp)(Q:VK)(E:XK):Prop|mk(l:fg)(ds:Za4)(_:vs=[.ref l])(_:H l=some (.lst ((Ay ds).map V.int)))(_:Dok ds)(_:ds.length<=4000)(_:∀p H',Ak H H'->H p=none->H' p=some (.lst (nV (gsC ds)))->Q (.ref p) H')
include T in
theorem Ma (F:Fun K "children_counted" "children_counted" El f fd):As P w K mg base CX0 1 f fd ["elders"] Sx:=by
 exists F.ok D9
 obtain⟨l,ds,rfl,hl,hD,hn,q⟩:=h;have hel:((Ay ds).map V.int).length=ds.length:=by unfold Ay;rw[fb,fb,gr]
 refine⟨_,(Ab (tst 1 D9.nd (Ah Ox (A8 (tpa Ad Aa)) (Ah A7 (Am Aq (by rfl) T.cD C7 (tpa (pv 0) Aa)) Ad))) (Ab (Dy ja rfl (F5 (pv 0)) (tgn 2 D9.nd) (Af (Vw (pv 1) (Ah A7 (pv 2) Ad) Ot Ad Jl Kq))) (Af (An (pv 1))))),?_⟩
 apply⟨few (by simp),λp hp=>?_⟩;have u0:=Ag (o:=.lst [V.int 0]) hp;apply⟨l,_,rfl,.inl (SqL.of (u0 _ _ hl)),?_⟩;k_is;rw[hel];refine⟨p,((ds.length+1:Nat):Int),_,rfl,rfl,Ac,by lia,by lia,jx (Ap (by simp;lia)),λm hm=>?_⟩;have u1:=u0.trans (Ag (o:=.lst (fu (((ds.length+1:Nat):Int)).toNat [V.int 0]).flatten) hm);have hm0:H m=none:=u0.free hm;have hM:(upd (upd H p (.lst [V.int 0])) m (.lst (fu (((ds.length+1:Nat):Int)).toNat [V.int 0]).flatten)) m=some (.lst (nV (gsK ds 0))):=by
  rw[Ac,i8,Ul,sE];unfold nV;rw[sq,sq];rfl
 generalize (upd (upd H p (.lst [V.int 0])) m (.lst (fu (((ds.length+1:Nat):Int)).toNat [V.int 0]).flatten))=H2 at *;apply⟨l,rfl,⟨_,SqL.of (u1 _ _ hl)⟩,?_⟩;refine Ja (xs:=(Ay ds).map V.int) (λk G H3=>(∃v2:Option V,G=[some (.ref l),some (.ref m),v2])/\H3 m=some (.lst (nV (gsK ds k)))/\Ak H H3) ⟨⟨_,rfl⟩,hM,u1⟩ (λk G H3 _ h=>SqL.of (h.2.2 _ _ hl)) ?_ ?_
 ·rintro k x G H3 hx ⟨⟨v2,rfl⟩,hm3,s3⟩
  obtain⟨n,hn2,rfl⟩:=Ta hx;have hk:k<ds.length:=by have:=Ff hn2;unfold Ay at this;rwa [fb,gr] at this
  obtain rfl:eld ds k=n:=by
   unfold Ay at hn2;rw[gd,jd hk] at hn2;exact fq hn2
  have h1:=rM hD hk;have h2:=Wg hD hk;obtain⟨e,he⟩:∃e:Nat,eld ds k=(e:Int)-1:=⟨(eld ds k+1).toNat,by lia⟩;have he1:e<ds.length+1:=by lia
  have hix:eld ds k+1=(e:Int):=by lia
  k_is;rw[hix];refine Cv (SqL.of hm3) (v:=.int ((Ca ds k ((e:Int)-1)).length:Nat)) (Bl (by unfold nV;rw[gd,Vu he1];rfl)) ?_;apply Tz hm3 rfl (by rw[Fa,M9];exact he1) ?_;refine⟨⟨_,rfl⟩,?_,B0 s3 hm0⟩;rw[Ac,uC he he1];unfold nV;rw[zy];rfl
 ·rintro G H3 ⟨⟨v2,rfl⟩,hm3,s3⟩
  rw[hel,vY] at hm3;k_is;exact q m H3 s3 hm0 hm3
include T in
theorem Rr (F:Fun K "counted_row" "counted_row" F7 f fd):As P w K mg base CX0 1 f fd ["many"] eE:=by
 exists F.ok Tr
 obtain⟨l,ns,rfl,hl,hn,q⟩:=h;refine⟨_,(Af (An (E9 qg DH DF lP Ar (tpa (Sn rfl Ov (F5 (pv 0)) (λ_ _ _ _=>Fb) (λ_ _ _ _=>(Ah iQ (Ah vV Ar (pv 0)) Ar))) Aa)))),?_⟩;apply⟨rfl,?_⟩;apply⟨_,rfl,⟨_,SqL.of hl⟩,?_⟩;refine Rg (xs:=nV ns) (SqL.of hl) (λi=>(ns.take i).map λn=>V.str (Bi (fu n true++[false]))) rfl (λi hi=>?_) (λi x H1 R A hx s1 _ hA=>?_) (λD H1 hD s1 h1=>?_)
 ·rw[fb,f7]
  exact Ap (by lia)
 ·obtain⟨n,hn1,rfl⟩:=Rx hx
  have hns:=iF hn1;apply⟨"1",(n:Int),rfl,rfl,by lia,by lia,?_,few (by decide),?_⟩
  ·exact jx (Ap (by rw[show("1":Str).length=1 by rfl];lia))
  have e0:Xx ("1":Str) ((n:Int)).toNat=Bi (fu n true):=by
   rw[i8];exact nY true _
  rw[e0];k_is;have e1:Bi (fu n true)++("0":Str)=Bi (fu n true++[false]):=Vz (fu n true) [false];refine⟨_,"0",rfl,rfl,?_,?_⟩
  ·rw[C4,iz]
   exact jx (Ap (by rw[show("0":Str).length=1 by rfl];lia))
  rw[e1];refine hA _ _ ?_ (Ak.refl _);rw[jn,hn1,f9];rfl
 ·apply Zx (ls:=ns.map λn=>fu n true++[false]) ?_ ?_ (q _ s1)
  ·rw[h1,Fa,gq (fk _),j1]
   rfl
  ·show(grB ns).length<=_
   rw[iY];lia
theorem Tm:∀{ns:List Int} {x:Int},x∈ns->∃j:Nat,ns[j]?=some x/\∀i:Nat,i<j->ns[i]?≠some x
 |y::ns,x,h=>by
  by_cases e:y=x
  ·exact⟨0,by rw[e];rfl,λi hi=>absurd hi (yf _)⟩
  ·obtain⟨j,h1,h2⟩:=Tm (List.mem_of_ne_of_mem (λz=>e z.symm) h)
   refine⟨j+1,h1,λi hi=>?_⟩
   cases i with
   |zero=>exact λz=>e (fq z)
   |succ i=>exact h2 i (by lia)
inductive vI(vs:List V)(H:Hp)(Q:VK)(E:XK):Prop|mk(l:fg)(ds:Za4)(_:vs=[.ref l])(_:H l=some (.lst (nV ds)))(_:ds.length<=4000)(_:∀(r:Nat) H',r<16->Ak H H'->Q (.int r) H')
include T in
theorem Xm (F:Fun K "thin_rest" "thin_rest" K5 f fd):As P w K mg base CX0 1 f fd ["depths"] vI:=by
 exists F.ok Js
 obtain⟨l,ds,rfl,hl,hn,q⟩:=h;refine⟨_,(Ab (tst 1 Js.nd (Ah Ox (A8 (tpa Ad Aa)) (Bg rfl T.cK))) (Ab (Dy ja rfl (F5 (pv 0)) (tgn 2 Js.nd) (Af (Vw (pv 1) (Ah Cf (pv 2) (Bg rfl T.cK)) Ot Ad Jl Kq))) (Af (An (E9 i7 rq rp R0 (pv 1) (tpa (Am (oY rfl) (by rfl) T.dv pH (tpa (pv 1) Aa)) Aa)))))),?_⟩
 apply⟨few (by simp),λp hp=>?_⟩;have u0:=Ag (o:=.lst [V.int 0]) hp;apply⟨p,16,_,rfl,rfl,Ac,by lia,by lia,jx (Ap (by decide)),λm hm=>?_⟩;have u1:=u0.trans (Ag (o:=.lst (fu (16:Int).toNat [V.int 0]).flatten) hm);have hm0:H m=none:=u0.free hm;have hM:(upd (upd H p (.lst [V.int 0])) m (.lst (fu (16:Int).toNat [V.int 0]).flatten)) m=some (.lst (nV (fu 16 0))):=by
  rw[Ac];rfl
 generalize (upd (upd H p (.lst [V.int 0])) m (.lst (fu (16:Int).toNat [V.int 0]).flatten))=H2 at *;apply⟨l,rfl,⟨_,SqL.of (u1 _ _ hl)⟩,?_⟩;refine Ja (xs:=nV ds) (λk G H3=>(∃v2:Option V,G=[some (.ref l),some (.ref m),v2])/\(∃cs:Za4,cs.length=16/\H3 m=some (.lst (nV cs)))/\Ak H H3) ⟨⟨_,rfl⟩,⟨_,iz,hM⟩,u1⟩ (λk G H3 _ h=>SqL.of (h.2.2 _ _ hl)) ?_ ?_
 ·rintro k x G H3 hx ⟨⟨v2,rfl⟩,⟨cs,hc,hm3⟩,s3⟩
  obtain⟨n,hn2,rfl⟩:=Rx hx;k_is;rw[show((n:Int)%16)=((n%16:Nat):Int) by lia];have hlt:n%16<cs.length:=by lia
  refine Cv (SqL.of hm3) (v:=.int (cs[n%16]:Nat)) (Bl (by unfold nV;rw[gd,fc hlt];rfl)) ?_;apply Tz hm3 rfl (by rw[Fa];exact hlt) ?_;refine⟨⟨_,rfl⟩,⟨cs.set (n%16) (cs[n%16]+1),by rw[se];exact hc,?_⟩,B0 s3 hm0⟩;rw[Ac];unfold nV;rw[zy];rfl
 ·rintro G H3 ⟨⟨v2,rfl⟩,⟨cs,hc,hm3⟩,s3⟩
  apply⟨.inl ⟨rfl,_,SqL.of hm3⟩,?_⟩;k_is;have hm4:=hm3;rw[Xi] at hm4;refine⟨m,_,rfl,SqL.of hm4,λz=>?_,λx hx=>?_⟩
  ·have:=congrArg n6 z
   rw[fb,hc] at this;cases this
  ·k_is
   obtain⟨j,hj,hno⟩:=Tm hx.1;refine⟨m,_,x,j,rfl,rfl,hm4,hj,hno,?_⟩;have:=Ff hj;rw[fb,hc] at this;exact q j H3 this s3
inductive Rw(vs:List V)(H:Hp)(Q:VK)(E:XK):Prop|mk(l o:fg)(ds:Za4)(_:vs=[.ref l,.ref o])(_:H l=some (.lst ((Ay ds).map V.int)))(_:H o=some (.lst ((J8 ds).map V.int)))(_:Dok ds)(_:ds.length<4000)(_:∀H',Ak H H'->Q (.str (Bi (grB (gsL ds)))) H')
include T in
theorem Ww (F:Fun K "level_row" "level_row" Hr f fd)(bK:Cal P w K mg base "children_counted" 1 ["elders"] Sx)(bL:Cal P w K mg base "counted_row" 1 ["many"] eE):As P w K mg base CX0 2 f fd ["elders","order"] Rw:=by
 exists F.ok N7
 obtain⟨l,o,ds,rfl,hl,ho,hD,hn,q⟩:=h;have hgl:=Gb hD;refine⟨_,(Ab (Mv (i:=2) N7.nd rfl (BD rfl) (Aw bK hr.m (tpa (pv 0) Aa))) (Af (An (Aw bL hr.m (tpa (Ah E1 (Cz Ga (pv 2) Gc (Cq Ad)) (Sn rfl Sk (F5 (pv 1)) (λ_ _ _ _=>Fb) (λ_ _ _ _=>(tix (eV K) (pv 1) (Ah A7 (pv 0) Ad))))) Aa))))),?_⟩
 apply⟨l,ds,rfl,hl,hD,by lia,λm H1 s1 hm0 hm=>?_⟩;have ho1:=s1 _ _ ho;apply⟨m,_,rfl,SqL.of hm,λq1 h1=>?_⟩;have e1:G3 (nV (gsC ds)) none (some 1)=nV [(Ca ds ds.length (-1)).length]:=by
  rw[show(some 1:Option Int)=some ((1:Nat):Int) from rfl,O9];rfl
 rw[e1];obtain⟨u1,hq1⟩:=Au (o:=.lst (nV [(Ca ds ds.length (-1)).length])) h1;have ho2:=u1 _ _ ho1;have hm2:=u1 _ _ hm;have s2:=s1.trans u1;generalize upd H1 q1 _=H2 at *;apply⟨o,rfl,⟨_,SqL.of ho2⟩,?_⟩;refine Rg (SqL.of ho2) (λi=>nV (((J8 ds).take i).map λv=>(Ca ds ds.length v).length)) rfl (λi hi=>?_) (λi y H3 R A hy s3 _ hA=>?_) (λD H3 hD3 s3 h3=>?_)
 ·rw[fb,Hd] at hi
  rw[Fa,fb,f7,Hd];exact Ap (by lia)
 ·obtain⟨v,hv,rfl⟩:=Ta hy
  obtain⟨v0,v1⟩:=Y5 (gg hv);obtain⟨n,rfl⟩:∃n:Nat,v=(n:Int):=⟨v.toNat,by lia⟩;apply Cv (SqL.of (s3 _ _ hm2)) (v:=.int ((Ca ds ds.length n).length:Nat)) ?_ ?_
  ·rw[show((n:Int)+1)=((n+1:Nat):Int) by lia]
   exact Bl (lO (qH (by lia)))
  refine hA _ _ ?_ (Ak.refl _);rw[jn,hv,f9];unfold nV;rw[f9];rfl
 rw[fb,gq (fk _)] at h3;have hq3:=s3 _ _ hq1;refine⟨q1,D,_,_,rfl,rfl,hq3,h3,jx (Ap (by rw[Fa,Fa,fb,Hd];simp only[gu,jq];lia)),λq4 h4=>?_⟩;have e4:nV [(Ca ds ds.length (-1)).length]++nV ((J8 ds).map λv=>(Ca ds ds.length v).length)=nV (gsL ds):=by
  rw[<-wK hD];rfl
 rw[e4];apply⟨q4,gsL ds,rfl,Ac,by lia,λH5 s5=>?_⟩;exact q H5 (((s2.trans s3).trans (Ag h4)).trans s5)
theorem Ab6 {ds:Za4}(h:Dok ds){x:Int}(hx:x∈iN ds):0<=x/\x<ds.length:=by
 obtain⟨n,hn,rfl⟩:=jl.mp hx;obtain⟨j,hj,rfl⟩:=List.getElem_of_mem hn;have:=gI h hj;unfold dAt jy at this;rw[fc hj] at this;have:ds[j]<=j:=this;lia
inductive Zu(vs:List V)(H:Hp)(Q:VK)(E:XK):Prop|mk(l:fg)(ds:Za4)(_:vs=[.ref l])(_:H l=some (.lst (nV ds)))(_:Dok ds)(_:ds.length<=4000)(_:∀(v:V) H',Ak H H'->Q v H')
include T in
theorem Xk (F:Fun K "widest_of" "widest_of" Ka f fd):As P w K mg base CX0 1 f fd ["depths"] Zu:=by
 exists F.ok Jz
 obtain⟨l,ds,rfl,hl,hD,hn,q⟩:=h;refine⟨_,(Ab (Bt (ttc Cj (Am Aq (by rfl) T.cD C7 (tpa (pv 0) Aa)) Ad) (Af (An Gw))
  Ax) (Ab (tst 1 Jz.nd (Ah Ox (A8 (tpa Ad Aa)) (Ah A7 (Am (U2 rfl) (by rfl) T.dj lC (tpa (pv 0) Aa)) Ad))) (Ab (Dy ja rfl (F5 (pv 0)) (tgn 2 Jz.nd) (Af (Vw (pv 1) (pv 2) Ot Ad Jl Kq))) (Af (An (E9 i7 rq rp R0 (pv 1) (tpa (Am (U2 rfl) (by rfl) T.dj lC (tpa (pv 1) Aa)) Aa))))))),?_⟩
 apply⟨l,_,rfl,.inl (SqL.of hl),?_⟩;rw[Fa];apply Cg (λ_=>?_) (λh0=>?_)
 ·k_is
  exact q _ H (Ak.refl _)
 have hpos:0<ds.length:=by
  rcases ql ds.length with z|z
  ·exact absurd (by rw[z];rfl) h0
  ·exact z
 apply⟨few (by simp),λp hp=>?_⟩;obtain⟨u0,hp1⟩:=Au (o:=.lst [V.int 0]) hp;have hl1:=u0 _ _ hl;generalize upd H p _=H1 at *;apply⟨l,iN ds,rfl,by rw[<-Yi];exact SqL.of hl1,λz=>?_,λx hx=>?_⟩
 ·have e:(iN ds).length=0:=by rw[z];rfl
  rw[fb] at e;lia
 obtain⟨x0,x1⟩:=Ab6 hD hx.1;obtain⟨mx,rfl⟩:∃mx:Nat,x=(mx:Int):=⟨x.toNat,by lia⟩;apply⟨p,((mx+1:Nat):Int),_,rfl,by rw[BS];rfl,hp1,by lia,by lia,jx (Ap (by simp;lia)),λm hm=>?_⟩;have u1:=u0.trans (Ag (o:=.lst (fu ((mx+1:Nat):Int).toNat [V.int 0]).flatten) hm);have hm0:H m=none:=u0.free hm;have hM:(upd H1 m (.lst (fu ((mx+1:Nat):Int).toNat [V.int 0]).flatten)) m=some (.lst (nV (fu (mx+1) 0))):=by
  rw[Ac,i8,Ul];unfold nV;rw[sq,sq];rfl
 generalize (upd H1 m (.lst (fu ((mx+1:Nat):Int).toNat [V.int 0]).flatten))=H2 at *;apply⟨l,rfl,⟨_,SqL.of (u1 _ _ hl)⟩,?_⟩;refine Ja (xs:=nV ds) (λk G H3=>(∃v2:Option V,G=[some (.ref l),some (.ref m),v2])/\(∃cs:Za4,cs.length=mx+1/\H3 m=some (.lst (nV cs)))/\Ak H H3) ⟨⟨_,rfl⟩,⟨_,iz,hM⟩,u1⟩ (λk G H3 _ h=>SqL.of (h.2.2 _ _ hl)) ?_ ?_
 ·rintro k y G H3 hy ⟨⟨v2,rfl⟩,⟨cs,hc,hm3⟩,s3⟩
  obtain⟨n,hn2,rfl⟩:=Rx hy;have hle:=hx.2 (n:Int) (jl.mpr ⟨n,gg hn2,rfl⟩);k_is;have hlt:n<cs.length:=by lia
  refine Cv (SqL.of hm3) (v:=.int (cs[n]:Nat)) (Bl (by unfold nV;rw[gd,fc hlt];rfl)) ?_;apply Tz hm3 rfl (by rw[Fa];exact hlt) ?_;refine⟨⟨_,rfl⟩,⟨cs.set n (cs[n]+1),by rw[se];exact hc,?_⟩,B0 s3 hm0⟩;rw[Ac];unfold nV;rw[zy];rfl
 ·rintro G H3 ⟨⟨v2,rfl⟩,⟨cs,hc,hm3⟩,s3⟩
  apply⟨.inl ⟨rfl,_,SqL.of hm3⟩,?_⟩;k_is;have hm4:=hm3;rw[Xi] at hm4;refine⟨m,_,rfl,SqL.of hm4,λz=>?_,λx hx=>?_⟩
  ·have:=congrArg n6 z
   rw[fb,hc] at this;cases this
  ·k_is
   obtain⟨j,hj,hno⟩:=Tm hx.1;exact⟨m,_,x,j,rfl,rfl,hm4,hj,hno,q _ H3 s3⟩
def lFs (n:Nat)(b c:fg)(s g v w:V)(d:fg):List (Str×V):=[("knots",.int n),("bits",.ref b),("counts",.ref c),("places",s),("begins",g),("level_count",v),("widest_level",w),("leaps",.ref d)]
def wR (H:Hp)(n:Nat)(kvs:List (Key×V)):Prop:=∀k v,Hb kvs (.inl k)=some v->∃(t:fg) (m:Nat) (l:Int),v=.ref t/\H t=some (.tup [.int m,.int l])/\m<=n
theorem wR.keep {n:Nat}{kvs:List (Key×V)}(h:wR H n kvs)(k:∀b xs,H b=some (.tup xs)->H' b=some (.tup xs)):wR H' n kvs:=λy v e=>by
 obtain⟨t,m,l,h1,h2,h3⟩:=h y v e;exact⟨t,m,l,h1,k _ _ h2,h3⟩
structure Px (K:eh) (CB CC CL:fg) (H:Hp) (x:fg) (ds:Za4) (dx b c:fg) (s g v w:V) (d:fg) (kvs:List (Key×V)):Prop where
 hx:H x=some (.ins CL dx (lFs ds.length b c s g v w d))
 hb:G8 K CB H b (grB (gsL ds))
 hc:Bk K CC H c (grB (gsL ds))
 hd:H d=some (.dK kvs)
 hl:wR H ds.length kvs
 ok:Dok ds
 few:ds.length<3000
def Gx (K:eh)(CB CC CL:fg)(H:Hp)(x:fg)(ds:Za4):Prop:=∃dx b c s g v w d kvs,Px K CB CC CL H x ds dx b c s g v w d kvs
theorem Px.sm {K:eh}{CB CC CL x b c d:fg}{ts:List Tb}{ds:Za4}{s g v w:V}{kvs:List (Key×V)}(h:Px K CB CC CL H x ds dx b c s g v w d kvs)(m:SmT ts H H'):Px K CB CC CL H' x ds dx b c s g v w d kvs:=
 ⟨m.k h.hx,h.hb.keep m.kp,h.hc.keep m.kp,m.k h.hd,h.hl.keep λb xs e=>m.k e,h.ok,h.few⟩
theorem Gx.sm {K:eh}{CB CC CL x:fg}{ts:List Tb}{ds:Za4}(h:Gx K CB CC CL H x ds)(m:SmT ts H H'):Gx K CB CC CL H' x ds:=by
 obtain⟨dx,b,c,s,g,v,w,d,kvs,h⟩:=h;exact⟨dx,b,c,s,g,v,w,d,kvs,h.sm m⟩
theorem Gx.same {K:eh}{CB CC CL x:fg}{ts:List Tb}{ds:Za4}(h:Gx K CB CC CL H x ds)(hT:Tbs ts H)(m:Ak H H'):Gx K CB CC CL H' x ds:=h.sm (SmT.of hT m)
inductive fS (K:eh)(CB CC CL:fg)(ts:List Tb)(vs:List V)(H:Hp)(Q:VK)(E:XK):Prop|mk(x:fg)(ds:Za4)(k:Nat)(_:vs=[.ref x,.int k])(_:Gx K CB CC CL H x ds)(_:Tbs ts H)(_:k<=ds.length)(_:∀H',SmT ts H H'->Q (.int (pre (gsL ds) (k+1):Nat)) H')
variable (ae:Qa K aa)
include T ae in
theorem Qx (F:Fun K "down" "Levelled.down" Gr f fd)(bM:Mth P w K mg base ad "place_of" 5 ["self","bit","nth"] (Vp K ad ts)):As P w K mg base CX0 6 f fd ["self","number"] (fS K ag ad aa ts):=by
 exists F.ok Of
 obtain⟨x,ds,k,rfl,⟨dx,b,c,s,g,v,w,d,kvs,h⟩,hT,hk,q⟩:=h;have hC:=h.hc;obtain⟨dc,t1,u1,hc1,_⟩:=id hC;refine⟨_,(Af (An (Ah Co (Fn bM hr.m (tfl (pv 0)) (tpa Ad (tpa (pv 1) Aa))) (pv 1)))),?_⟩;apply⟨x,aa,dx,_,.ref c,rfl,h.hx,ae.cl,ae.dw,rfl,?_⟩;apply⟨c,dc,_,rfl,hc1,rfl,?_⟩;apply⟨c,_,false,k,_,rfl,hC,hT,yM (by rw[(Gb h.ok).1];lia),λH1 s1=>?_⟩;k_is;rw[show(((pre (gsL ds) (k+1)+k:Nat):Int)-(k:Int))=((pre (gsL ds) (k+1):Nat):Int) by lia];exact q H1 s1
def stM:St->Nat
 |[_,_,some (.int z)]=>z.toNat
 |_=>0
inductive zH (K:eh)(CB CC CL:fg)(ts:List Tb)(vs:List V)(H:Hp)(Q:VK)(E:XK):Prop|mk(x:fg)(ds:Za4)(k:Nat)(st:Int)(_:vs=[.ref x,.int k,.int st])(_:Gx K CB CC CL H x ds)(_:Tbs ts H)(_:k<=ds.length)(_:∀(r:Nat) H',r<=ds.length->SmT ts H H'->Q (.int r) H')
variable (aM:Mth P w K mg base aa "down" 6 ["self","number"] (fS K ag ad aa ts))
include T ae aM in
theorem Qn (F:Fun K "far_down" "Levelled.far_down" D6 f fd):As P w K mg base CX0 7 f fd ["self","number","steps"] (zH K ag ad aa ts):=by
 exists F.ok B6
 obtain⟨x,ds,k,st,rfl,⟨dx,b,c,s,g,v,w,d,kvs,h⟩,hT,hk,q⟩:=h;refine⟨_,(Ab (Fh ja (ttc Jb (pv 2) Ad) (Af (Bt (PW.pt (My (ttc Aaf (pv 2) (Bg rfl T.cK)) (Jy (Rm vK (pv 1) (tfl (pv 0)) rfl)))) (Ab (tst 1 B6.nd (tix Em (tix jQ (tfl (pv 0)) (pv 1)) Ad)) (Af (tau 2 B6.nd (Bg rfl T.cK) Xg))) (Ab (tst 1 B6.nd (Fn aM hr.m (pv 0) (tpa (pv 1) Aa))) (Af (tau 2 B6.nd Ad Xg)))))) (Af (An (pv 1)))),?_⟩
 apply Fg (λG H'=>∃(m:Nat) (z:Int),G=[some (.ref x),some (.int m),some (.int z)]/\m<=ds.length/\SmT ts H H') (λG _=>stM G) ⟨k,st,rfl,hk,SmT.refl hT⟩ ?_;rintro μ G H1 ⟨m,z,rfl,hm,s1⟩ QS;have QS:z.toNat=μ:=QS;have h1:=h.sm s1;apply Cg (λhz=>?_) (λ_=>?_)
 ·refine Jx ?_
  apply Cg (λhz2=>?_) (λ_=>?_)
  ·apply⟨x,aa,dx,_,.ref d,rfl,h1.hx,ae.cl,ae.cO,rfl,?_⟩;refine yY h1.hd ?_
   cases hv:Hb kvs (.inl (m:Int)) with
   |some vv=>
    obtain⟨t,m2,l2,rfl,ht,hm2⟩:=h1.hl _ _ hv;rw[show(some (V.ref t):Option V).isSome=true from rfl];apply⟨x,aa,dx,_,.ref d,rfl,h1.hx,ae.cl,ae.cO,rfl,?_⟩;apply zT h1.hd hv ?_;apply G9 (SqT.of ht) (v:=.int m2) rfl ?_;apply⟨⟨m2,_,rfl,hm2,s1⟩,?_⟩;show(z-16).toNat<μ;lia
   |none=>
    rw[show(none:Option V).isSome=false from rfl];apply⟨x,dx,_,rfl,h1.hx,rfl,?_⟩;apply⟨x,ds,m,rfl,⟨dx,b,c,_,_,_,_,d,kvs,h1⟩,s1.ok,hm,λH2 s2=>?_⟩;apply⟨⟨_,_,rfl,Zn h.ok _,s1.trans s2⟩,?_⟩;show(z-1).toNat<μ;lia
  ·apply⟨x,dx,_,rfl,h1.hx,rfl,?_⟩;apply⟨x,ds,m,rfl,⟨dx,b,c,_,_,_,_,d,kvs,h1⟩,s1.ok,hm,λH2 s2=>?_⟩;apply⟨⟨_,_,rfl,Zn h.ok _,s1.trans s2⟩,?_⟩;show(z-1).toNat<μ;lia
 ·k_is
  exact q m H1 hm s1
def lbM (n:Nat):St->Nat
 |[_,some (.int m),_]=>n-m.toNat
 |_=>0
inductive lI (K:eh)(CB CC CL:fg)(ts:List Tb)(vs:List V)(H:Hp)(Q:VK)(E:XK):Prop|mk(x:fg)(ds:Za4)(k:Nat)(_:vs=[.ref x,.int k])(_:Gx K CB CC CL H x ds)(_:Tbs ts H)(_:k<=ds.length)(_:∀(r:Int) H',SmT ts H H'->Q (.int r) H')
include T ae aM in
theorem Qh (F:Fun K "left_below" "Levelled.left_below" Dl f fd):As P w K mg base CX0 7 f fd ["self","number"] (lI K ag ad aa ts):=by
 exists F.ok Cc
 obtain⟨x,ds,k,rfl,⟨dx,b,c,s,g,v,w,d,kvs,h⟩,hT,hk,q⟩:=h;refine⟨_,(Ab (tst 2 Cc.nd Ad) (Ab (Fh ja (ttc Pg (pv 1) (tfl (pv 0))) (Ab (Bt (Rm vK (pv 1) (tfl (pv 0)) rfl) (Af (An (Ah A7 (pv 2) (tix Em (tix jQ (tfl (pv 0)) (pv 1)) Ad))))
  Ax) (Ab (tst 1 Cc.nd (Fn aM hr.m (pv 0) (tpa (pv 1) Aa))) (Af (tau 2 Cc.nd (Ah Co (tfl (pv 0)) (pv 1)) Jl))))) (Af (An (pv 2))))),?_⟩
 apply Fg (λG H'=>∃(m:Nat) (z:Int),G=[some (.ref x),some (.int m),some (.int z)]/\m<=ds.length/\SmT ts H H') (λG _=>lbM ds.length G) ⟨k,0,rfl,hk,SmT.refl hT⟩ ?_;rintro μ G H1 ⟨m,z,rfl,hm,s1⟩ QS;have QS:ds.length-(m:Int).toNat=μ:=QS;have h1:=h.sm s1;apply⟨x,aa,dx,_,_,rfl,h1.hx,ae.cl,ae.cN,rfl,?_⟩;apply Cg (λhz=>?_) (λ_=>?_)
 ·refine Jx ?_
  apply⟨x,aa,dx,_,.ref d,rfl,h1.hx,ae.cl,ae.cO,rfl,?_⟩;refine yY h1.hd ?_
  cases hv:Hb kvs (.inl (m:Int)) with
  |some vv=>
   obtain⟨t,m2,l2,rfl,ht,hm2⟩:=h1.hl _ _ hv;rw[show(some (V.ref t):Option V).isSome=true from rfl];apply⟨x,aa,dx,_,.ref d,rfl,h1.hx,ae.cl,ae.cO,rfl,?_⟩;apply zT h1.hd hv ?_;apply G9 (SqT.of ht) (v:=.int l2) rfl ?_;k_is;exact q _ H1 s1
  |none=>
   rw[show(none:Option V).isSome=false from rfl];apply⟨x,dx,_,rfl,h1.hx,rfl,?_⟩;apply⟨x,ds,m,rfl,⟨dx,b,c,_,_,_,_,d,kvs,h1⟩,s1.ok,hm,λH2 s2=>?_⟩;apply⟨x,aa,dx,_,_,rfl,s2.k h1.hx,ae.cl,ae.cN,rfl,?_⟩;apply⟨⟨_,_,rfl,Zn h.ok _,s1.trans s2⟩,?_⟩;have:=wX h.ok (k:=m) (by lia);show ds.length-((pre (gsL ds) (m+1):Nat):Int).toNat<μ;rw[i8] at QS ⊢;lia
 ·k_is
  exact q z H1 s1
inductive vE (K:eh)(CB CC CL:fg)(ts:List Tb)(vs:List V)(H:Hp)(Q:VK)(E:XK):Prop|mk(x l dx b c d:fg)(ds es:Za4)(s g v w:V)(_:vs=[.ref x,.ref l])(_:Px K CB CC CL H x ds dx b c s g v w d [])(_:H l=some (.lst (nV es)))(_:es.length=ds.length)(_:Tbs ts H)(_:∀kvs H',SmB ts d H H'->Px K CB CC CL H' x ds dx b c s g v w d kvs->Q .non H')
include T ae in
theorem Qi (F:Fun K "mark_leaps" "Levelled.mark_leaps" Dj f fd)(bN:Cal P w K mg base "thin_rest" 1 ["depths"] vI)(bO:Mth P w K mg base aa "far_down" 7 ["self","number","steps"] (zH K ag ad aa ts))(bP:Mth P w K mg base aa "left_below" 7 ["self","number"] (lI K ag ad aa ts)):As P w K mg base CX0 8 f fd ["self","depths"] (vE K ag ad aa ts):=by
 exists F.ok Dd
 obtain⟨x,l,dx,b,c,d,ds,es,s,g,v,w,rfl,h,hl,he,hT,q⟩:=h;have hn:=h.few;have nx:x≠d:=Ee h.hx h.hd (by intro z;cases z);have nl:l≠d:=Ee hl h.hd (by intro z;cases z);have nb:b≠d:=by
  obtain⟨_,_,hb1,_⟩:=h.hb;exact Ee hb1 h.hd (by intro z;cases z)
 have nc:c≠d:=by
  obtain⟨_,_,_,hc1,_⟩:=h.hc;exact Ee hc1 h.hd (by intro z;cases z)
 refine⟨_,(Ab (tst 2 Dd.nd (Aw bN hr.m (tpa (pv 1) Aa))) (Af (Dy ja rfl (On rfl T.cI (tpa (Ah Co (tfl (pv 0)) Ad) (tpa (Cy Bw Ad) (tpa (Cy Bw Ad) Aa)))) (tgn 3 Dd.nd) (Af (Bt (ttc Cj (Ah Cf (tix B2 (pv 1) (pv 3)) (Bg rfl T.cK)) (pv 2)) (Af (fV (Gn (tpa (Fn bO hr.m (pv 0) (tpa (pv 3) (tpa (Bg rfl T.cK) Aa))) (tpa (Fn bP hr.m (pv 0) (tpa (pv 3) Aa)) Aa))) (gQ (tfl (pv 0)) (pv 3) uP)))
  Ax))))),?_⟩
 apply⟨l,es,rfl,hl,by lia,λr H1 hr1 s1=>?_⟩;have h1:=h.sm (SmT.of hT s1);apply⟨x,aa,dx,_,_,rfl,h1.hx,ae.cl,ae.cN,rfl,?_⟩;apply⟨(ds.length:Int)-1,-1,rfl,⟨by lia,by lia,by lia,by lia⟩,?_⟩;rw[show((ds.length:Int)-1 - -1).toNat=ds.length by lia];refine oN (λi G H'=>(∃v3:Option V,G=[some (.ref x),some (.ref l),some (.int r),v3])/\SmB ts d H H'/\∃kvs,kvs.length<=i/\Px K ag ad aa H' x ds dx b c s g v w d kvs) ⟨⟨_,rfl⟩,(SmB.refl hT).then s1,[],fk _,h1⟩ ?_ ?_
 ·rintro i G H2 hi ⟨⟨v3,rfl⟩,s2,kvs,hkl,h2⟩
  obtain⟨k,hk⟩:∃k:Nat,(ds.length:Int)-1+(i:Int) * -1=(k:Int):=⟨ds.length-1-i,by lia⟩;rw[hk];have hkn:k<es.length:=by lia
  apply Cv (SqL.of (s2.k hl nl)) (v:=.int (es[k]:Nat)) (Bl (lO (fc hkn))) ?_;apply Cg (λ_=>?_) (λ_=>?_)
  ·apply⟨x,dx,_,rfl,h2.hx,rfl,?_⟩;apply⟨x,ds,k,_,rfl,⟨_,_,_,_,_,_,_,_,_,h2⟩,s2.ok,by lia,λm H3 hm s3=>?_⟩;have h3:=h2.sm s3;apply⟨x,dx,_,rfl,h3.hx,rfl,?_⟩;apply⟨x,ds,k,rfl,⟨_,_,_,_,_,_,_,_,_,h3⟩,s3.ok,by lia,λlb H4 s4=>?_⟩;have h4:=h3.sm s4;have s24:=(s2.sm s3).sm s4;apply⟨few (by simp),λt ht=>?_⟩;obtain⟨ut,ht1⟩:=Au (o:=.tup [V.int (m:Int),V.int lb]) ht;have h5:=h4.sm (SmT.of s24.ok ut);have s25:=s24.then ut;generalize upd H4 t _=H5 at *;apply⟨x,aa,dx,_,.ref d,rfl,h5.hx,ae.cl,ae.cO,rfl,?_⟩;apply Acw h5.hd (Ap (by lia)) ?_;have s26:SmB ts d H (upd H5 d (.dK (Pc kvs (.inl (k:Int)) (.ref t)))):=s25.put h5.hd;have s56:SmB ts d H5 (upd H5 d (.dK (Pc kvs (.inl (k:Int)) (.ref t)))):=(SmB.refl s25.ok).put h5.hd;refine⟨⟨_,rfl⟩,s26,Pc kvs (.inl (k:Int)) (.ref t),io (Pf kvs _ _) (by lia),?_⟩;refine⟨s56.k h5.hx nx,h5.hb.keep (s56.kp h5.hd nb),h5.hc.keep (s56.kp h5.hd nc),Ac,λy vv e=>?_,h.ok,h.few⟩;rw[qL] at e;have kt:∀{a:fg} {xs:List V},H5 a=some (.tup xs)->upd H5 d (.dK (Pc kvs (.inl (k:Int)) (.ref t))) a=some (.tup xs):=λ{a xs} e=>s56.k e (Ee e h5.hd (by intro z;cases z));split at e
   ·obtain rfl:=fq e
    exact⟨t,m,lb,rfl,kt ht1,hm⟩
   ·obtain⟨t2,m2,l2,e1,e2,e3⟩:=h5.hl _ _ e
    exact⟨t2,m2,l2,e1,kt e2,e3⟩
  ·k_is
   exact⟨⟨_,rfl⟩,s2,kvs,by lia,h2⟩
 ·rintro G H2 ⟨⟨v3,rfl⟩,s2,kvs,_,h2⟩
  exact q kvs H2 s2 h2
inductive jE (K:eh)(CB CC CL CW:fg)(ts:List Tb)(vs:List V)(H:Hp)(Q:VK)(E:XK):Prop|mk(x dx:fg)(v:V)(o:Option (List V))(_:vs=[.ref x,v])(_:H x=some (.ins CL dx []))(_:ThA K H v o)(_:(∀ds,Mh o ds->ds.length<3000))(_:Tbs ts H)(_:(∀ds,Mh o ds->∀H',SmB ts x H H'->Gx K CB CC CL H' x ds->Q .non H'))(_:Aco CW H E o)
theorem mX {y:Int}(h:y∈Ao ltJ ns):y∈ns:=(Cp (lt:=ltJ) ns).mem_iff.mp h
theorem eZ (ds:Za4):∃es:Za4,(Ao ltJ (iN ds)).map V.int=nV es/\es.length=ds.length:=by
 refine⟨(Ao ltJ (iN ds)).map xl,?_,by rw[fb,Ct,fb]⟩;unfold nV;rw[j1];refine kx λy hy=>?_;obtain⟨n,_,rfl⟩:=jl.mp (mX hy);rfl
include T aY aZ ae in
theorem Qy (F:Fun K "__init__" "Levelled.__init__" Gs f fd)(bQ:tQ P w K mg base "look_at" 3 ["elders"] (jA K ai))(bR:Cal P w K mg base "depths_of" 1 ["elders"] Zs)(bS:Cal P w K mg base "level_order" 2 ["depths"] (iA ts))(bT:Cal P w K mg base "level_row" 2 ["elders","order"] Rw)(bU:vJ P w K mg base "Shortcuts" aq 4 ["self","order","step"] (Nb aq) [.int 16])(bV:Cal P w K mg base "begins_of" 5 ["things"] (Rs K ad))(bW:Cal P w K mg base "widest_of" 1 ["depths"] Zu)(bX:Mth P w K mg base aa "mark_leaps" 8 ["self","depths"] (vE K ag ad aa ts)):As P w K mg base (CXE P w) 9 f fd ["self","elders"] (jE K ag ad aa ai ts):=by
 exists F.okE D0
 obtain⟨x,dx,vv,oo,rfl,hx,hTh,hsm,hT,q,qe⟩:=h;have nlx:∀{H:Hp} {l:fg} {xs:List V} {fs:List (Str×V)},H x=some (.ins aa dx fs)->H l=some (.lst xs)->l≠x:=λh1 h2=>Ee h2 h1 (by intro z;cases z);refine⟨_,(Ab (tst 2 D0.nd (Je bQ hr.m (Cl rfl) (tpa (pv 1) Aa))) (Ab (tst 3 D0.nd (Aw bR hr.m (tpa (pv 2) Aa))) (Ab (tst 4 D0.nd (Aw bS hr.m (tpa (pv 3) Aa))) (Ab (tsf (pv 0) (Am Aq (by rfl) T.cD C7 (tpa (pv 2) Aa))) (Ab (tsf (pv 0) (kJ aZ hr.m (tpa (Aw bT hr.m (tpa (pv 2) (tpa (pv 4) Aa))) Aa))) (Ab (tsf (pv 0) (kJ aY hr.m (tpa (tfl (pv 0)) Aa))) (Ab (tsf (pv 0) (yA bU hr.m (Cl rfl) (tpa (pv 4) Aa))) (Ab (tsf (pv 0) (Aw bV hr.m (tpa (Am Nf (by rfl) T.du Rt (tpa (pv 3) Aa)) Aa))) (Ab (tsf (pv 0) (Ah A7 (nL (mH rfl) (by rfl) T.dj lC (tpa (pv 3) Aa) (xA (Cy Bw Ad) Ab2)) Ad)) (Ab (tsf (pv 0) (Aw bW hr.m (tpa (pv 3) Aa))) (Ab (tsf (pv 0) Rp) (Af (Be (Fn bX hr.m (pv 0) (tpa (Am Nf (by rfl) T.du Rt (tpa (pv 3) Aa)) Aa))))))))))))))),?_⟩
 apply⟨vv,oo,rfl,hTh,λds hG l1 H1 s1 _ hl1=>?_,qe⟩;have q:=q ds hG;have hn:=hsm ds hG;have hD:Dok ds:=by
  cases oo with
  |some xs=>exact hG.1
  |none=>exact hG.elim
 have hgl:=Gb hD;have hel:(Ay ds).length=ds.length:=Bu ds;apply⟨l1,ds,rfl,hl1,hD,by lia,λl2 H2 s2 hl2=>?_⟩;have hT2:=(hT.same s1).same s2;apply⟨l2,ds,rfl,hl2,by lia,hT2,λl3 H3 s3 _ hl3=>?_⟩;have b3:SmB ts x H H3:=(((SmB.refl hT).then s1).then s2).sm s3;have hx3:H3 x=some (.ins aa dx []):=s3.k (s2 _ _ (s1 _ _ hx));have i3:H3 l1=some (.lst ((Ay ds).map V.int)):=s3.k (s2 _ _ hl1);have r3:=hl3;have j3:H3 l2=some (.lst (nV ds)):=s3.k hl2;apply⟨l1,_,rfl,.inl (SqL.of i3),?_⟩;rw[fb,hel];apply Cr hx3 ae.cl ae.cN (show 0<1000 by decide) ?_;rw[show Eg ("knots":Str) (V.int (ds.length:Nat)) []=([("knots",.int (ds.length:Nat))]:List (Str×V)) from rfl];have hx4:=@Ac H3 x (.ins aa dx [("knots",.int (ds.length:Nat))]);have b4:SmB ts x H (upd H3 x (.ins aa dx [("knots",.int (ds.length:Nat))])):=b3.put hx3;have k4:SmB ts x H3 (upd H3 x (.ins aa dx [("knots",.int (ds.length:Nat))])):=(SmB.refl b3.ok).put hx3;have i4:=k4.k i3 (nlx hx3 i3);have j4:=k4.k j3 (nlx hx3 j3);have r4:=k4.k r3 (nlx hx3 r3);generalize upd H3 x _=H4 at *;apply⟨l1,l3,ds,rfl,i4,r4,hD,by lia,λH5 s5=>?_⟩;have hx5:=s5 _ _ hx4;have b5:=b4.then s5;have j5:=s5 _ _ j4;have r5:=s5 _ _ r4;k_is;intro b db hb hdb hbd;have nbx:b≠x:=(Al hx5 hb).symm;refine⟨b,db,grB (gsL ds),rfl,Ac,by rw[iY];lia,λH6 s6 hB6=>⟨rfl,?_⟩⟩;have s6:=Jd hb hdb s6;have hx6:=s6 _ _ hx5;have b6:=b5.then s6;have j6:=s6 _ _ j5;have r6:=s6 _ _ r5;apply Cr hx6 ae.cl ae.dq (show 1<1000 by decide) ?_;rw[show Eg ("bits":Str) (V.ref b) [("knots",.int (ds.length:Nat))]=([("knots",.int (ds.length:Nat)),("bits",.ref b)]:List (Str×V)) from rfl];have hx7:=@Ac H6 x (.ins aa dx [("knots",.int (ds.length:Nat)),("bits",.ref b)]);have b7:SmB ts x H (upd H6 x (.ins aa dx [("knots",.int (ds.length:Nat)),("bits",.ref b)])):=b6.put hx6;have k7:SmB ts x H6 (upd H6 x (.ins aa dx [("knots",.int (ds.length:Nat)),("bits",.ref b)])):=(SmB.refl b6.ok).put hx6;have j7:=k7.k j6 (nlx hx6 j6);have r7:=k7.k r6 (nlx hx6 r6);have hB7:=hB6.keep (k7.kp hx6 nbx);generalize upd H6 x _=H7 at *;apply⟨x,aa,dx,_,.ref b,rfl,hx7,ae.cl,ae.dq,rfl,?_⟩;k_is;intro c dc hc hdc hcd;have ncx:c≠x:=(Al hx7 hc).symm;refine⟨c,dc,b,_,rfl,Ac,(hB7.keep λc u _ _ e=>Gf hc hdc _ _ e),λH8 s8 hC8=>⟨rfl,?_⟩⟩;have s8:=Jd hc hdc s8;have hx8:=s8 _ _ hx7;have b8:=b7.then s8;have j8:=s8 _ _ j7;have r8:=s8 _ _ r7;have hB8:=hB7.keep (SmT.of b7.ok s8).kp;apply Cr hx8 ae.cl ae.dw (show 2<1000 by decide) ?_;rw[show Eg ("counts":Str) (V.ref c) [("knots",.int (ds.length:Nat)),("bits",.ref b)]=([("knots",.int (ds.length:Nat)),("bits",.ref b),("counts",.ref c)]:List (Str×V)) from rfl];have hx9:=@Ac H8 x (.ins aa dx [("knots",.int (ds.length:Nat)),("bits",.ref b),("counts",.ref c)]);have b9:SmB ts x H (upd H8 x (.ins aa dx [("knots",.int (ds.length:Nat)),("bits",.ref b),("counts",.ref c)])):=b8.put hx8;have k9:SmB ts x H8 (upd H8 x (.ins aa dx [("knots",.int (ds.length:Nat)),("bits",.ref b),("counts",.ref c)])):=(SmB.refl b8.ok).put hx8;have j9:=k9.k j8 (nlx hx8 j8);have r9:=k9.k r8 (nlx hx8 r8);have hB9:=hB8.keep (k9.kp hx8 nbx);have hC9:=hC8.keep (k9.kp hx8 ncx);generalize upd H8 x _=H9 at *;k_is;intro sx dsx hsx hdsx hsxd;refine⟨sx,dsx,l3,_,16,rfl,Ac,Gf hsx hdsx _ _ r9,oX ds,by rw[fb,Hd];lia,by decide,λH10 s10=>⟨rfl,?_⟩⟩;have s10:=Jd hsx hdsx s10;have hx10:=s10 _ _ hx9;have b10:=b9.then s10;have j10:=s10 _ _ j9;have hB10:=hB9.keep (SmT.of b9.ok s10).kp;have hC10:=hC9.keep (SmT.of b9.ok s10).kp;apply Cr hx10 ae.cl ae.d4 (show 3<1000 by decide) ?_;rw[show Eg ("places":Str) (V.ref sx) [("knots",.int (ds.length:Nat)),("bits",.ref b),("counts",.ref c)]=([("knots",.int (ds.length:Nat)),("bits",.ref b),("counts",.ref c),("places",.ref sx)]:List (Str×V)) from rfl];have hx11:=@Ac H10 x (.ins aa dx [("knots",.int (ds.length:Nat)),("bits",.ref b),("counts",.ref c),("places",.ref sx)]);have b11:SmB ts x H (upd H10 x (.ins aa dx [("knots",.int (ds.length:Nat)),("bits",.ref b),("counts",.ref c),("places",.ref sx)])):=b10.put hx10;have k11:SmB ts x H10 (upd H10 x (.ins aa dx [("knots",.int (ds.length:Nat)),("bits",.ref b),("counts",.ref c),("places",.ref sx)])):=(SmB.refl b10.ok).put hx10;have j11:=k11.k j10 (nlx hx10 j10);have hB11:=hB10.keep (k11.kp hx10 nbx);have hC11:=hC10.keep (k11.kp hx10 ncx);generalize upd H10 x _=H11 at *;obtain⟨es,he1,he2⟩:=eZ ds;apply⟨l2,iN ds,rfl,by rw[<-Yi];exact SqL.of j11,λq1 hq1=>?_⟩;rw[he1];obtain⟨s12,hq12⟩:=Au (o:=.lst (nV es)) hq1;generalize upd H11 q1 _=H12 at *;have hx12:=s12 _ _ hx11;have b12:=b11.then s12;have j12:=s12 _ _ j11;have hB12:=hB11.keep (SmT.of b11.ok s12).kp;have hC12:=hC11.keep (SmT.of b11.ok s12).kp;apply⟨q1,es,rfl,hq12,by lia,λg H13 s13 _ _=>?_⟩;have hx13:=s13 _ _ hx12;have b13:=b12.then s13;have j13:=s13 _ _ j12;have hB13:=hB12.keep (SmT.of b12.ok s13).kp;have hC13:=hC12.keep (SmT.of b12.ok s13).kp;apply Cr hx13 ae.cl ae.dJ (show 4<1000 by decide) ?_;rw[show Eg ("begins":Str) (V.ref g) [("knots",.int (ds.length:Nat)),("bits",.ref b),("counts",.ref c),("places",.ref sx)]=([("knots",.int (ds.length:Nat)),("bits",.ref b),("counts",.ref c),("places",.ref sx),("begins",.ref g)]:List (Str×V)) from rfl];have hx14:=@Ac H13 x (.ins aa dx [("knots",.int (ds.length:Nat)),("bits",.ref b),("counts",.ref c),("places",.ref sx),("begins",.ref g)]);have b14:SmB ts x H (upd H13 x (.ins aa dx [("knots",.int (ds.length:Nat)),("bits",.ref b),("counts",.ref c),("places",.ref sx),("begins",.ref g)])):=b13.put hx13;have k14:SmB ts x H13 (upd H13 x (.ins aa dx [("knots",.int (ds.length:Nat)),("bits",.ref b),("counts",.ref c),("places",.ref sx),("begins",.ref g)])):=(SmB.refl b13.ok).put hx13;have j14:=k14.k j13 (nlx hx13 j13);have hB14:=hB13.keep (k14.kp hx13 nbx);have hC14:=hC13.keep (k14.kp hx13 ncx);generalize upd H13 x _=H14 at *;apply Abk (ns:=iN ds) (by rw[<-Yi];exact SqL.of j14) λmm _ _=>?_;apply Cr hx14 ae.cl ae.dW (show 5<1000 by decide) ?_;rw[show Eg ("level_count":Str) (V.int (mm+1)) [("knots",.int (ds.length:Nat)),("bits",.ref b),("counts",.ref c),("places",.ref sx),("begins",.ref g)]=([("knots",.int (ds.length:Nat)),("bits",.ref b),("counts",.ref c),("places",.ref sx),("begins",.ref g),("level_count",.int (mm+1))]:List (Str×V)) from rfl];have hx15:=@Ac H14 x (.ins aa dx [("knots",.int (ds.length:Nat)),("bits",.ref b),("counts",.ref c),("places",.ref sx),("begins",.ref g),("level_count",.int (mm+1))]);have b15:SmB ts x H (upd H14 x (.ins aa dx [("knots",.int (ds.length:Nat)),("bits",.ref b),("counts",.ref c),("places",.ref sx),("begins",.ref g),("level_count",.int (mm+1))])):=b14.put hx14;have k15:SmB ts x H14 (upd H14 x (.ins aa dx [("knots",.int (ds.length:Nat)),("bits",.ref b),("counts",.ref c),("places",.ref sx),("begins",.ref g),("level_count",.int (mm+1))])):=(SmB.refl b14.ok).put hx14;have j15:=k15.k j14 (nlx hx14 j14);have hB15:=hB14.keep (k15.kp hx14 nbx);have hC15:=hC14.keep (k15.kp hx14 ncx);generalize upd H14 x _=H15 at *;apply⟨l2,ds,rfl,j15,hD,by lia,λwv H16 s16=>?_⟩;have hx16:=s16 _ _ hx15;have b16:=b15.then s16;have j16:=s16 _ _ j15;have hB16:=hB15.keep (SmT.of b15.ok s16).kp;have hC16:=hC15.keep (SmT.of b15.ok s16).kp;apply Cr hx16 ae.cl ae.dX (show 6<1000 by decide) ?_;rw[show Eg ("widest_level":Str) wv [("knots",.int (ds.length:Nat)),("bits",.ref b),("counts",.ref c),("places",.ref sx),("begins",.ref g),("level_count",.int (mm+1))]=([("knots",.int (ds.length:Nat)),("bits",.ref b),("counts",.ref c),("places",.ref sx),("begins",.ref g),("level_count",.int (mm+1)),("widest_level",wv)]:List (Str×V)) from rfl];have hx17:=@Ac H16 x (.ins aa dx [("knots",.int (ds.length:Nat)),("bits",.ref b),("counts",.ref c),("places",.ref sx),("begins",.ref g),("level_count",.int (mm+1)),("widest_level",wv)]);have b17:SmB ts x H (upd H16 x (.ins aa dx [("knots",.int (ds.length:Nat)),("bits",.ref b),("counts",.ref c),("places",.ref sx),("begins",.ref g),("level_count",.int (mm+1)),("widest_level",wv)])):=b16.put hx16;have k17:SmB ts x H16 (upd H16 x (.ins aa dx [("knots",.int (ds.length:Nat)),("bits",.ref b),("counts",.ref c),("places",.ref sx),("begins",.ref g),("level_count",.int (mm+1)),("widest_level",wv)])):=(SmB.refl b16.ok).put hx16;have j17:=k17.k j16 (nlx hx16 j16);have hB17:=hB16.keep (k17.kp hx16 nbx);have hC17:=hC16.keep (k17.kp hx16 ncx);generalize upd H16 x _=H17 at *;k_is;intro d hd;have dnH:H d=none:=b17.free hx17 hd;have ndx:d≠x:=(Al hx17 hd).symm;obtain⟨s18,hd18⟩:=Au (o:=.dK []) hd;generalize upd H17 d _=H18 at *;have hx18:=s18 _ _ hx17;have b18:=b17.then s18;have j18:=s18 _ _ j17;have hB18:=hB17.keep (SmT.of b17.ok s18).kp;have hC18:=hC17.keep (SmT.of b17.ok s18).kp;apply Cr hx18 ae.cl ae.cO (show 7<1000 by decide) ?_;rw[show Eg ("leaps":Str) (V.ref d) [("knots",.int (ds.length:Nat)),("bits",.ref b),("counts",.ref c),("places",.ref sx),("begins",.ref g),("level_count",.int (mm+1)),("widest_level",wv)]=([("knots",.int (ds.length:Nat)),("bits",.ref b),("counts",.ref c),("places",.ref sx),("begins",.ref g),("level_count",.int (mm+1)),("widest_level",wv),("leaps",.ref d)]:List (Str×V)) from rfl];have hx19:=@Ac H18 x (.ins aa dx [("knots",.int (ds.length:Nat)),("bits",.ref b),("counts",.ref c),("places",.ref sx),("begins",.ref g),("level_count",.int (mm+1)),("widest_level",wv),("leaps",.ref d)]);have b19:SmB ts x H (upd H18 x (.ins aa dx [("knots",.int (ds.length:Nat)),("bits",.ref b),("counts",.ref c),("places",.ref sx),("begins",.ref g),("level_count",.int (mm+1)),("widest_level",wv),("leaps",.ref d)])):=b18.put hx18;have k19:SmB ts x H18 (upd H18 x (.ins aa dx [("knots",.int (ds.length:Nat)),("bits",.ref b),("counts",.ref c),("places",.ref sx),("begins",.ref g),("level_count",.int (mm+1)),("widest_level",wv),("leaps",.ref d)])):=(SmB.refl b18.ok).put hx18;have j19:=k19.k j18 (nlx hx18 j18);have hB19:=hB18.keep (k19.kp hx18 nbx);have hC19:=hC18.keep (k19.kp hx18 ncx);have hd19:=k19.k hd18 ndx;generalize upd H18 x _=H19 at *;apply⟨x,dx,_,rfl,hx19,rfl,?_⟩;apply⟨l2,iN ds,rfl,by rw[<-Yi];exact SqL.of j19,λq2 hq2=>?_⟩;rw[he1];obtain⟨s20,hq20⟩:=Au (o:=.lst (nV es)) hq2;have hd20:=s20 _ _ hd19;generalize upd H19 q2 _=H20 at *;have hx20:=s20 _ _ hx19;have b20:=b19.then s20;have hB20:=hB19.keep (SmT.of b19.ok s20).kp;have hC20:=hC19.keep (SmT.of b19.ok s20).kp;k_is;have hL:Px K ag ad aa H20 x ds dx b c (.ref sx) (.ref g) (.int (mm+1)) wv d []:=⟨hx20,hB20,hC20,hd20,(λk v e=>by cases e),hD,hn⟩;refine⟨x,q2,dx,b,c,d,ds,es,_,_,_,_,rfl,hL,hq20,he2,b20.ok,λkvs H21 s21 h21=>?_⟩;exact q H21 (b20.new s21 dnH) ⟨_,_,_,_,_,_,_,_,_,h21⟩
def wtI (ds:Za4)(g:Nat):List V:=[.int ((g:Int)-1),.int (eld ds (atO ds g))]
def N0 (H:Hp)(ds:Za4)(as:List fg)(W:Za4):Prop:=as.length=W.length/\∀(i:Nat) (a:fg) (g:Nat),as[i]?=some a->W[i]?=some g->H a=some (.tup (wtI ds g))
theorem N0.keep {ds:Za4}{as:List fg}{W:Za4}(h:N0 H ds as W)(k:∀b xs,H b=some (.tup xs)->H' b=some (.tup xs)):N0 H' ds as W:=⟨h.1,λi a g h1 h2=>k _ _ (h.2 i a g h1 h2)⟩
theorem N0.app {ds:Za4}{as bs:List fg}{W U:Za4}(h:N0 H ds as W)(k:N0 H ds bs U):N0 H ds (as++bs) (W++U):=by
 refine⟨by rw[fe,fe,h.1,k.1],λi a g h1 h2=>?_⟩
 by_cases hi:i<as.length
 ·rw[ie hi] at h1
  rw[ie (by rw[<-h.1];exact hi)] at h2;exact h.2 i a g h1 h2
 ·rw[f8 (by lia)] at h1
  rw[f8 (by rw[<-h.1];lia),<-h.1] at h2;exact k.2 _ a g h1 h2
theorem N0.last {ds:Za4}{as:List fg}{W:Za4}{g:Nat}(h:N0 H ds as (W++[g])):∃bs a,as=bs++[a]/\N0 H ds bs W/\H a=some (.tup (wtI ds g)):=by
 have hl:=h.1;rw[fe,qq] at hl;have hla:W.length<as.length:=by lia
 have e:as=as.take W.length++[as[W.length]]:=by
  have:=(jg W.length as).symm;rw[rh hla,km (by lia)] at this;exact this
 refine⟨as.take W.length,as[W.length],e,⟨by rw[f7];lia,λi a g' h1 h2=>?_⟩,?_⟩
 ·have hi:=Ff h2
  rw[jf hi] at h1;exact h.2 i a g' h1 (by rw[ie hi];exact h2)
 ·exact h.2 W.length _ g (fc hla) (by rw[f8 (fk _),ly];rfl)
def wL (ds:Za4)(k:Nat):Za4:=(lvN (gsL ds) (k+1)).2
theorem jJ (ds:Za4):wL ds 0=(G5 (pre (gsL ds) 1) 0).reverse:=by
 show(lvS (gsL ds) ([],[0])).2=_;unfold lvS;show(G5 (pre (gsL ds) (0+1)) (pre (gsL ds) 0)).reverse++[]=_;rw[ip];rfl
theorem Acq {ds:Za4}(h:Dok ds):wL ds ds.length=[]:=by
 unfold wL;rw[xD h]
theorem xB {ds:Za4}(h:Dok ds){k:Nat}(hk:k<ds.length):∃g w,wL ds k=g::w/\atO ds g=k/\0<g/\g<ds.length+1/\wL ds (k+1)=(G5 (pre (gsL ds) (g+1)) (pre (gsL ds) g)).reverse++w/\∀u∈G5 (pre (gsL ds) (g+1)) (pre (gsL ds) g),eld ds (atO ds u)=k:=by
 obtain⟨W,e1,e2,e3⟩:=To h k (by lia);rw[Vq h hk] at e2;have hW:wL ds k=W:=by unfold wL;rw[e1]
 cases W with
 |nil=>cases e2
 |cons g w=>
  rw[ik] at e2;obtain⟨a1,a2⟩:=BC e2;obtain⟨g0,g1⟩:=e3 g (by simp);refine⟨g,w,hW,a1,g0,g1,?_,λu hu=>?_⟩
  ·show(lvS (gsL ds) (lvN (gsL ds) (k+1))).2=_
   rw[e1];rfl
  ·obtain⟨s1,_⟩:=slots h (g:=g) g1
   obtain⟨g',rfl⟩:∃g',g=g'+1:=⟨g-1,by lia⟩;have hL:(Ls ds).getD (g'+1) []=Ca ds ds.length k:=by
    rw[uX (by lia) h];have a1:(lvo ds ds.length ds.length).getD g' 0=k:=a1;rw[a1]
   rw[hL] at s1;have hm:atO ds u∈Ca ds ds.length k:=by
    rw[<-s1];exact jl.mpr ⟨u,nz.mpr hu,rfl⟩
   exact(Ob.mp hm).2
theorem Abc {ds:Za4}(h:Dok ds):∀u∈G5 (pre (gsL ds) 1) 0,eld ds (atO ds u)=-1:=λu hu=>by
 obtain⟨W,e1,e2,_⟩:=To h 0 (by lia);have hW:wL ds 0=W:=by unfold wL;rw[e1]
 rw[jJ] at hW;have hm:atO ds u∈pend ds 0:=by
  rw[<-e2,<-hW];exact jl.mpr ⟨u,nz.mpr hu,rfl⟩
 rw[Vo h] at hm;exact(Ob.mp hm).2
theorem Abi {ds:Za4}(h:Dok ds){k:Nat}(hk:k<=ds.length):(wL ds k).length<=ds.length:=by
 obtain⟨W,e1,e2,_⟩:=To h k hk;have hW:wL ds k=W:=by unfold wL;rw[e1]
 rw[hW,<-fb (f:=atO ds),e2];unfold pend;exact io (EO _ _) (by rw[gr];exact fk _)
def fsL (ds:Za4):List V:=nV ((gp (ds.length+1)).map λk=>pre (gsL ds) (k+1))
inductive Vk (K:eh)(CB CC CL:fg)(ts:List Tb)(vs:List V)(H:Hp)(Q:VK)(E:XK):Prop|mk(x:fg)(ds:Za4)(_:vs=[.ref x])(_:Gx K CB CC CL H x ds)(_:Tbs ts H)(_:∀p H',SmT ts H H'->H p=none->H' p=some (.lst ((Ay ds).map V.int))->Q (.ref p) H')
theorem Yh {a b i u:Nat}(h:(G5 a b)[i]?=some u):u=a-i/\i<a-b:=by
 have hi:=Ff h;rw[Ny] at hi;unfold G5 at h;rw[gd,jd hi] at h;exact⟨(fq h).symm,hi⟩
theorem lN {lo:Int}{n:Nat}{fr:St}{tc:TT}{Q:VK}(ds:Za4)(U:Za4)(hU:U.length=n)(hn:n<=5000)
  (turn:∀(i:Nat) (g:Nat) H (A:VK) (R:Hp->Prop),U[i]?=some g->Ak H1 H->(∀a,H a=none->A (.ref a) (upd H a (.tup (wtI ds g))))->tc (some (.int (lo+i * -1))::fr) H λb H3=>if b=true then te (some (.int (lo+i * -1))::fr) H3 A else R H3)
  (fin:∀D as H,H1 D=none->Ak H1 H->N0 H ds as U->H D=some (.lst (as.map V.ref))->Q (.ref D) H):P2 (Wd lo (-1) n) H1 fr tc te Q:=by
 refine Ux (λi ys H=>∃as:List fg,ys=as.map V.ref/\N0 H ds as (U.take i)) (λH _=>⟨[],rfl,rfl,λi a g h=>by cases h⟩) (λi ys H D xs o hD ⟨as,e,h⟩=>⟨as,e,h.keep λb zs hb=>by rw[Ai (Ee hb hD (by intro z;cases z))];exact hb⟩) (λi ys H hi ⟨as,e,h⟩=>?_) (λi ys H A R hi s1 ⟨as,e,h⟩ hA=>?_) (λD ys H hD s1 ⟨as,e,h⟩ hd=>?_)
 ·have:=h.1
  rw[f7] at this;rw[e,fb];exact Ap (by lia)
 ·obtain⟨g,hg⟩:∃g,U[i]?=some g:=⟨_,fc (by lia)⟩
  refine turn i g H A R hg s1 λa ha=>hA _ _ (Ag ha) ⟨as++[a],by rw[e,f9];rfl,?_⟩;rw[jn,hg];refine(h.keep λb xs hb=>Ag ha _ _ hb).app ⟨rfl,λj a' g' h1 h2=>?_⟩
  cases j with
  |zero=>
   obtain rfl:a=a':=fq h1;obtain rfl:g=g':=fq h2;exact Ac
  |succ j=>cases h1
 ·rw[gq (by lia)] at h
  exact fin D as H hD s1 h (by rw[hd,e])
include T ae aM in
theorem Qs (F:Fun K "elders" "Levelled.elders" B8 f fd):As P w K mg base CX0 7 f fd ["self"] (Vk K ag ad aa ts):=by
 exists F.ok Bx
 obtain⟨x,ds,rfl,hL,hT,q⟩:=h;obtain⟨dx,b,c,s,g,v,w,d,kvs,h⟩:=id hL;have hD:=h.ok;have hn:=h.few;have hgl:=Gb hD;refine⟨_,(Ab (M6 (i:=1) rfl K3 Bx.nd rfl rfl (Fp rfl T.cI (tpa (Ah A7 (tfl (pv 0)) Ad) Aa)) (λ_ _ _ _=>Fb) (λ_ _ _ _=>(Fn aM hr.m (pv 1) (tpa (pv 0) Aa)))) (Ab (tst 2 Bx.nd (A8 Aa)) (Ab (M6 (i:=3) rfl K1 Bx.nd rfl rfl (On rfl T.cI (tpa (Ah Co (tix B2 (pv 1) Ad) Ad) (tpa (Cy Bw Ad) (tpa (Cy Bw Ad) Aa)))) (λ_ _ _ _=>Fb) (λ_ _ _ _=>(Gn (tpa (pv 0) (tpa (Cy Bw Ad) Aa))))) (Ab (Fh ja (ttc Jb (Am Aq (by rfl) T.cD C7 (tpa (pv 3) Aa)) Ad) (Ab (tst 4 Bx.nd (tJ i7 DI DG rF (pv 3))) (Ab (Mv (i:=5) Bx.nd rfl (BD rfl) (Am Aq (by rfl) T.cD C7 (tpa (pv 2) Aa))) (Ab (Be (E9 i7 lp ll Dh (pv 2) (tpa (tix Em (pv 4) Ad) Aa))) (Af (Be (E9 i7 PySem.F.slot_list_extend PySem.F.type_list_extend nQ (pv 3) (tpa (Sn rfl Kh (On rfl T.cI (tpa (Ah Co (tix B2 (pv 1) (Ah A7 (tix Em (pv 4) Ad) Ad)) Ad) (tpa (Ah Co (tix B2 (pv 1) (tix Em (pv 4) Ad)) Ad) (tpa (Cy Bw Ad) Aa)))) (λ_ _ _ _=>Fb) (λ_ _ _ _=>(Gn (tpa (pv 0) (tpa (pv 1) Aa))))) Aa)))))))) (Af (An (pv 2))))))),?_⟩
 apply⟨x,aa,dx,_,_,rfl,h.hx,ae.cl,ae.cN,rfl,?_⟩;apply⟨((ds.length+1:Nat):Int),by rw[BS];rfl,by lia,by lia,?_⟩;rw[i8];refine mJ hT (λi=>nV ((gp i).map λk=>pre (gsL ds) (k+1))) rfl (λi hi=>?_) (λi H1 R A hi s1 hA=>?_) (λfi H1 hfi s1 hf1=>?_)
 ·rw[Fa,fb,gr]
  exact Ap (by lia)
 ·apply⟨x,dx,_,rfl,s1.k h.hx,rfl,?_⟩;apply⟨x,ds,i,by rw[show(0+(i:Int))=(i:Int) by lia];rfl,hL.sm s1,s1.ok,by lia,λH2 s2=>?_⟩;refine hA _ _ ?_ s2;rw[kr,f9];unfold nV;rw[f9];rfl
 have hf1:H1 fi=some (.lst (fsL ds)):=hf1;have fat:∀{H':Hp} {k:Nat},k<=ds.length->H' fi=some (.lst (fsL ds))->atI (fsL ds) (k:Int)=some (.int (pre (gsL ds) (k+1):Nat)):=λ{H' k} hk _=>by unfold fsL;exact Bl (lO (by rw[gd,jd (by lia)];rfl))
 apply⟨i6 _,λel hel=>?_⟩;obtain⟨u1,he1⟩:=Au (o:=.lst []) hel;have hf2:=u1 _ _ hf1;have nfe:fi≠el:=Al hf1 hel;have nel:H el=none:=s1.sm.free hel;have s2:=s1.then u1;generalize upd H1 el _=H2 at *;apply Cv (SqL.of hf2) (fat (k:=0) (by lia) hf2) ?_;k_is;have hp1:=Zn hD 1;refine⟨((pre (gsL ds) 1:Nat):Int)-1,-1,rfl,⟨by lia,by lia,by lia,by lia⟩,?_⟩;rw[show(((pre (gsL ds) 1:Nat):Int)-1 - -1).toNat=pre (gsL ds) 1 by lia];refine lN ds (G5 (pre (gsL ds) 1) 0) (by rw[Ny];lia) (by lia) (λi u H3 A R hu s3 hA=>?_) (λwa as H3 hwa s3 hW hw3=>?_)
 ·obtain⟨hu1,hu2⟩:=Yh hu
  have e0:wtI ds u=[V.int (((pre (gsL ds) 1:Nat):Int)-1+(i:Int) * -1),V.int (-1)]:=by
   unfold wtI;rw[Abc hD u (gg hu),show((u:Nat):Int)-1=((pre (gsL ds) 1:Nat):Int)-1+(i:Int) * -1 by lia]
  rw[e0] at hA;k_is;exact⟨few (by simp),hA⟩
 have nwa:H wa=none:=s2.sm.free hwa;have nwe:el≠wa:=Al he1 hwa;have nwf:fi≠wa:=Al hf2 hwa;have hW0:N0 H3 ds as (wL ds 0).reverse:=by rw[jJ,mn];exact hW
 apply Fg (λG H6=>∃(k:Nat) (as:List fg) (v4 v5:Option V),G=[some (.ref x),some (.ref fi),some (.ref el),some (.ref wa),v4,v5]/\k<=ds.length/\SmT ts H H6/\N0 H6 ds as (wL ds k).reverse/\H6 wa=some (.lst (as.map V.ref))/\H6 el=some (.lst (((Ay ds).take k).map V.int))/\H6 fi=some (.lst (fsL ds))) (λ_ H6=>ds.length+1-jL H6 el) ⟨0,as,_,_,rfl,i6 _,s2.then s3,hW0,hw3,s3 _ _ he1,s3 _ _ hf2⟩ ?_;clear hW0 hW hw3 s3 he1 hf2 hwa s2 hel u1;rintro μ G H6 ⟨k,as,v4,v5,rfl,hk,s6,hW6,hw6,he6,hf6⟩ QS;have hel2:(((Ay ds).take k).map V.int).length=k:=by rw[fb,f7,Bu];lia
 apply⟨wa,_,rfl,.inl (SqL.of hw6),?_⟩;rw[fb,hW6.1,oi];k_is
 by_cases hkn:k=ds.length
 ·subst hkn
  rw[Acq hD];refine Cg (λz=>absurd z (by simp)) (λ_=>?_);apply q el H6 s6 nel ?_;rw[he6,gq (by rw[Bu];exact fk _)]
 ·obtain⟨g,w,e1,e2,e3,e4,e5,e6⟩:=xB hD (k:=k) (by lia)
  have hwl:=Abi hD (k:=k) (by lia);rw[e1] at hW6 hwl ⊢;rw[zx] at hW6;obtain⟨bs,a,rfl,hW7,ha6⟩:=hW6.last;have nwa6:a≠wa:=Ee ha6 hw6 (by intro z;cases z);have nae6:a≠el:=Ee ha6 he6 (by intro z;cases z);refine Cg (λ_=>?_) (λz=>absurd (by simp only[gu];lia) z);refine Jx ?_;apply⟨.inl ⟨rfl,_,SqL.of hw6⟩,?_⟩;apply⟨wa,_,.ref a,rfl,rfl,hw6,by rw[f9,fe,f8 (by simp)];simp,?_⟩;rw[show((bs++[a]).map V.ref).dropLast=bs.map V.ref by rw[f9];exact List.dropLast_concat];have s7:SmT ts H (upd H6 wa (.lst (bs.map V.ref))):=s6.push nwa hw6;have kt:∀{y:fg} {xs:List V},H6 y=some (.tup xs)->upd H6 wa (.lst (bs.map V.ref)) y=some (.tup xs):=λ{y xs} e=>by rw[Ai (Ee e hw6 (by intro z;cases z))];exact e
  have hW8:=hW7.keep λ_ _ e=>kt e;have ha7:=kt ha6;have hw7:=@Ac H6 wa (.lst (bs.map V.ref));have he7:upd H6 wa (.lst (bs.map V.ref)) el=some (.lst (((Ay ds).take k).map V.int)):=by rw[Ai nwe];exact he6
  have hf7:upd H6 wa (.lst (bs.map V.ref)) fi=some (.lst (fsL ds)):=by rw[Ai nwf];exact hf6
  generalize upd H6 wa _=H7 at *;apply⟨el,_,rfl,.inl (SqL.of he7),?_⟩;rw[hel2];apply⟨.inl ⟨rfl,_,SqL.of he7⟩,?_⟩;apply G9 (SqT.of ha7) (v:=.int (eld ds k)) (by unfold wtI;rw[e2];rfl) ?_;apply Fc he7 ?_ ?_
  ·rw[hel2]
   exact Ap (by lia)
  have eel:((Ay ds).take k).map V.int++[V.int (eld ds k)]=((Ay ds).take (k+1)).map V.int:=by
   rw[jn,J0 (show k<ds.length by lia),f9];rfl
  rw[eel];have s8:SmT ts H (upd H7 el (.lst (((Ay ds).take (k+1)).map V.int))):=s7.push nel he7;have kt8:∀{y:fg} {xs:List V},H7 y=some (.tup xs)->upd H7 el (.lst (((Ay ds).take (k+1)).map V.int)) y=some (.tup xs):=λ{y xs} e=>by rw[Ai (Ee e he7 (by intro z;cases z))];exact e
  have hW9:=hW8.keep λ_ _ e=>kt8 e;have ha8:=kt8 ha7;have he8:=@Ac H7 el (.lst (((Ay ds).take (k+1)).map V.int));have hw8:upd H7 el (.lst (((Ay ds).take (k+1)).map V.int)) wa=some (.lst (bs.map V.ref)):=by rw[Ai nwe.symm];exact hw7
  have hf8:upd H7 el (.lst (((Ay ds).take (k+1)).map V.int)) fi=some (.lst (fsL ds)):=by rw[Ai nfe];exact hf7
  generalize upd H7 el _=H8 at *;apply⟨.inl ⟨rfl,_,SqL.of hw8⟩,?_⟩;apply G9 (SqT.of ha8) (v:=.int ((g:Int)-1)) rfl ?_;apply Cv (SqL.of hf8) (v:=.int (pre (gsL ds) (g+1):Nat)) (by rw[show(g:Int)-1+1=(g:Int) by lia];exact fat (by lia) hf8) ?_;apply G9 (SqT.of ha8) (v:=.int ((g:Int)-1)) rfl ?_;apply Cv (SqL.of hf8) (v:=.int (pre (gsL ds) g:Nat)) (by rw[show(g:Int)-1=((g-1:Nat):Int) by lia,fat (k:=g-1) (by lia) hf8,show g-1+1=g by lia]) ?_;k_is;have hpg:=Zn hD (g+1);have hpm:=tK (gsL ds) (show g<=g+1 by lia);refine⟨((pre (gsL ds) (g+1):Nat):Int)-1,((pre (gsL ds) g:Nat):Int)-1,rfl,⟨by lia,by lia,by lia,by lia⟩,?_⟩;rw[show(((pre (gsL ds) (g+1):Nat):Int)-1-(((pre (gsL ds) g:Nat):Int)-1)).toNat=pre (gsL ds) (g+1)-pre (gsL ds) g by lia];refine lN ds (G5 (pre (gsL ds) (g+1)) (pre (gsL ds) g)) (by rw[Ny]) (by lia) (λi u H9 A R hu s9 hA=>?_) (λD cs H9 hD9 s9 hU hc9=>?_)
  ·obtain⟨hu1,hu2⟩:=Yh hu
   have e0:wtI ds u=[V.int (((pre (gsL ds) (g+1):Nat):Int)-1+(i:Int) * -1),V.int (k:Int)]:=by
    unfold wtI;rw[e6 u (gg hu),show((u:Nat):Int)-1=((pre (gsL ds) (g+1):Nat):Int)-1+(i:Int) * -1 by lia]
   rw[e0] at hA;k_is;exact⟨few (by simp),hA⟩
  have hw9:=s9 _ _ hw8;have hcl:cs.length=pre (gsL ds) (g+1)-pre (gsL ds) g:=by rw[hU.1,Ny]
  have hbl:bs.length=w.length:=by rw[hW9.1,oi]
  simp only[gu] at hwl;apply⟨wa,D,_,_,rfl,rfl,hw9,hc9,jx (Ap (by rw[fb,fb];lia)),?_⟩;have s10:=s8.then s9;have kt9:∀{y:fg} {xs:List V},H9 y=some (.tup xs)->upd H9 wa (.lst (bs.map V.ref++cs.map V.ref)) y=some (.tup xs):=λ{y xs} e=>by rw[Ai (Ee e hw9 (by intro z;cases z))];exact e
  refine⟨⟨k+1,bs++cs,_,_,rfl,by lia,s10.push nwa hw9,?_,by rw[Ac,f9],by rw[Ai nwe];exact s9 _ _ he8,by rw[Ai nwf];exact s9 _ _ hf8⟩,?_⟩
  ·rw[e5,oh,mn]
   exact((hW9.keep λ_ _ e=>s9 _ _ e).app hU).keep λ_ _ e=>kt9 e
  ·rw[Np (show upd H9 wa _ el=_ by rw[Ai nwe];exact s9 _ _ he8),<-QS,Np he6,hel2,fb,f7,Bu,jm (show k+1<=ds.length by lia)]
   exact Nat.sub_succ_lt_self _ _ (by lia)
theorem NoK.no {k:V}{n:Nat}(hb:NoK k n)(h:inI k 0 ((n:Int)-1)=true):False:=by
 unfold NoK at hb;rw[hb] at h;cases h
inductive lR (K:eh)(CB CC CL CN:fg)(ts:List Tb)(vs:List V)(H:Hp)(Q:VK)(E:XK):Prop|mk(x:fg)(ds:Za4)(k:V)(_:vs=[.ref x,k])(_:Gx K CB CC CL H x ds)(_:Tbs ts H)(_:Any K H k)(_:(inI k 0 ((ds.length:Int)-1)=true->∀(m:Int) H',SmT ts H H'->Q (.int m) H'))(_:(NoK k ds.length->E (.ref CN) none H))
variable (aL:tQ P w K mg base "check_knot" 3 ["k","many_knots"] (Ps K ah))
include T ae aM aL in
theorem Q0 (F:Fun K "many" "Levelled.many" Gp f fd):As P w K mg base (CXE P w) 7 f fd ["self","k"] (lR K ag ad aa ah ts):=by
 exists F.okE Om
 obtain⟨x,ds,kv,rfl,hL,hT,hA,q,qe⟩:=h;obtain⟨dx,b,c,s,g,v,w,d,kvs,h⟩:=id hL;refine⟨_,(Ab (Be (Je aL hr.m (Cl rfl) (tpa (pv 1) (tpa (tfl (pv 0)) Aa)))) (Af (An (Ah Co (Fn aM hr.m (pv 0) (tpa (Ah A7 (pv 1) Ad) Aa)) (Fn aM hr.m (pv 0) (tpa (pv 1) Aa)))))),?_⟩
 apply⟨x,aa,dx,_,_,rfl,h.hx,ae.cl,ae.cN,rfl,?_⟩;apply⟨kv,ds.length,rfl,hA,λhi=>?_,qe⟩;obtain⟨ki,rfl,hk0,hk1⟩:=Acx hi;obtain⟨k,rfl⟩:∃k:Nat,ki=(k:Int):=⟨ki.toNat,by lia⟩;have q:=q hi;apply⟨x,dx,_,rfl,h.hx,rfl,?_⟩;apply⟨x,ds,k+1,by rw[show((k+1:Nat):Int)=(k:Int)+1 by lia];rfl,hL,hT,by lia,λH1 s1=>?_⟩;apply⟨x,dx,_,rfl,s1.k h.hx,rfl,?_⟩;apply⟨x,ds,k,rfl,hL.sm s1,s1.ok,by lia,λH2 s2=>?_⟩;k_is;exact q _ H2 (s1.trans s2)
inductive qX (K:eh)(CB CC CL CN CQ:fg)(ts:List Tb)(vs:List V)(H:Hp)(Q:VK)(E:XK):Prop|mk(x:fg)(ds:Za4)(k i:V)(_:vs=[.ref x,k,i])(_:Gx K CB CC CL H x ds)(_:Tbs ts H)(_:Any K H k)(_:Any K H i)(_:((NoK k ds.length/\E (.ref CN) none H)\/(inI k 0 ((ds.length:Int)-1)=true/\Nt i/\∀H',SmT ts H H'->E (.ref CQ) none H')))
variable (aT:Mb P w K mg base aa "many" 7 ["self","k"] (lR K ag ad aa ah ts)) (aU:tQ P w K mg base "check_from_nought" 3 ["number"] (Us K am))
include T ae aT aU in
theorem Wc (F:Fun K "nth" "Wood.nth" Mo f fd):As P w K mg base (CXE P w) 8 f fd ["self","k","i"] (qX K ag ad aa ah am ts):=by
 exists F.okE Pi
 obtain⟨x,ds,k,i,rfl,hL,hT,hA,hI,hq⟩:=h;obtain⟨dx,b,c,s,g,v,w,d,kvs,h⟩:=id hL;refine⟨_,(Ab (tst 3 Pi.nd (Mq aT hr.m (Cl rfl) (pv 0) (tpa (pv 1) Aa))) (Ab (Be (Je aU hr.m (Cl rfl) (tpa (pv 2) Aa))) (Af Bq))),?_⟩
 apply⟨x,dx,_,rfl,h.hx,rfl,?_⟩;k_is;rcases hq with⟨hb,qe⟩|⟨hg,hb,qe⟩
 ·exact⟨x,ds,k,rfl,hL,hT,hA,λh=>(hb.no h).elim,λ_=>qe⟩
 ·refine⟨x,ds,k,rfl,hL,hT,hA,λ_ mm H1 s1=>?_,λh=>(h.no hg).elim⟩
  k_is;exact⟨i,rfl,s1.any hI,hb,qe H1 s1⟩
inductive Dk (K:eh)(CB CC CL CN:fg)(vs:List V)(H:Hp)(Q:VK)(E:XK):Prop|mk(x:fg)(ds:Za4)(k:V)(_:vs=[.ref x,k])(_:Gx K CB CC CL H x ds)(_:Any K H k)(_:NoK k ds.length)(_:E (.ref CN) none H)
def Xv (K:eh)(CB CC CL CN:fg)(ts:List Tb):Sp:=λvs H Q E=>Tbs ts H/\Dk K CB CC CL CN vs H Q E
variable (ba:Mb P w K mg base aa "nth" 8 ["self","k","i"] (qX K ag ad aa ah am ts))
include T ae ba in
theorem Q7 (F:Fun K "first" "Wood.first" Jr f fd):As P w K mg base (CXE P w) 9 f fd ["self","k"] (Xv K ag ad aa ah ts):=by
 exists F.okE T6
 obtain⟨hT,x,ds,k,rfl,hL,hA,hb,qe⟩:=h;obtain⟨dx,b,c,s,g,v,w,d,kvs,h⟩:=id hL;refine⟨_,(Af (An (Mq ba hr.m (Cl rfl) (pv 0) (tpa (pv 1) (tpa Ad Aa))))),?_⟩;apply⟨x,dx,_,rfl,h.hx,rfl,?_⟩;k_is;exact⟨x,ds,k,.int 0,rfl,hL,hT,hA,B5 _,.inl ⟨hb,qe⟩⟩
include T ae aT in
theorem Wa (F:Fun K "last" "Wood.last" Kb f fd):As P w K mg base (CXE P w) 8 f fd ["self","k"] (Xv K ag ad aa ah ts):=by
 exists F.okE Nu
 obtain⟨hT,x,ds,k,rfl,hL,hA,hb,qe⟩:=h;obtain⟨dx,b,c,s,g,v,w,d,kvs,h⟩:=id hL;refine⟨_,(Ab (tst 2 Nu.nd (Mq aT hr.m (Cl rfl) (pv 0) (tpa (pv 1) Aa))) (Af Bq)),?_⟩
 apply⟨x,dx,_,rfl,h.hx,rfl,?_⟩;k_is;exact⟨x,ds,k,rfl,hL,hT,hA,λh=>(hb.no h).elim,λ_=>qe⟩
include T ae aL in
theorem Qj (F:Fun K "own_place" "Levelled.own_place" Dp f fd):As P w K mg base (CXE P w) 4 f fd ["self","k"] (Dk K ag ad aa ah):=by
 exists F.okE J9
 obtain⟨x,ds,k,rfl,hL,hA,hb,qe⟩:=h;obtain⟨dx,b,c,s,g,v,w,d,kvs,h⟩:=id hL;refine⟨_,(Ab (Be (Je aL hr.m (Cl rfl) (tpa (pv 1) (tpa (tfl (pv 0)) Aa)))) (Af Bq)),?_⟩
 apply⟨x,aa,dx,_,_,rfl,h.hx,ae.cl,ae.cN,rfl,?_⟩;k_is;exact⟨k,ds.length,rfl,hA,λh=>(NoK.no hb h).elim,λ_=>qe⟩
include T ae aL in
theorem Qq (F:Fun K "beneath" "Levelled.beneath" Eo f fd):As P w K mg base (CXE P w) 4 f fd ["self","k"] (Dk K ag ad aa ah):=by
 exists F.okE L8
 obtain⟨x,ds,k,rfl,hL,hA,hb,qe⟩:=h;obtain⟨dx,b,c,s,g,v,w,d,kvs,h⟩:=id hL;refine⟨_,(Ab (Be (Je aL hr.m (Cl rfl) (tpa (pv 1) (tpa (tfl (pv 0)) Aa)))) (Af Bq)),?_⟩
 apply⟨x,aa,dx,_,_,rfl,h.hx,ae.cl,ae.cN,rfl,?_⟩;k_is;exact⟨k,ds.length,rfl,hA,λh=>(NoK.no hb h).elim,λ_=>qe⟩
include T ae aL in
theorem Qt (F:Fun K "depth" "Levelled.depth" Fu f fd):As P w K mg base (CXE P w) 4 f fd ["self","k"] (Dk K ag ad aa ah):=by
 exists F.okE Oe
 obtain⟨x,ds,k,rfl,hL,hA,hb,qe⟩:=h;obtain⟨dx,b,c,s,g,v,w,d,kvs,h⟩:=id hL;refine⟨_,(Ab (Be (Je aL hr.m (Cl rfl) (tpa (pv 1) (tpa (tfl (pv 0)) Aa)))) (Af Bq)),?_⟩
 apply⟨x,aa,dx,_,_,rfl,h.hx,ae.cl,ae.cN,rfl,?_⟩;k_is;exact⟨k,ds.length,rfl,hA,λh=>(NoK.no hb h).elim,λ_=>qe⟩
variable (aV:Mb P w K mg base aa "own_place" 4 ["self","k"] (Dk K ag ad aa ah))
include T ae aV in
theorem Qg (F:Fun K "child_place" "Levelled.child_place" Dc f fd):As P w K mg base (CXE P w) 5 f fd ["self","k"] (Dk K ag ad aa ah):=by
 exists F.okE Eu
 obtain⟨x,ds,k,rfl,hL,hA,hb,qe⟩:=h;obtain⟨dx,b,c,s,g,v,w,d,kvs,h⟩:=id hL;refine⟨_,(Ab (tst 2 Eu.nd (Mq aV hr.m (Cl rfl) (pv 0) (tpa (pv 1) Aa))) (Ab Bq
  (Af Bq))),?_⟩
 apply⟨x,dx,_,rfl,h.hx,rfl,?_⟩;k_is;exact⟨x,ds,k,rfl,hL,hA,hb,qe⟩
variable (be:Mb P w K mg base aa "child_place" 5 ["self","k"] (Dk K ag ad aa ah))
include T ae be in
theorem Qz (F:Fun K "left" "Levelled.left" Go f fd):As P w K mg base (CXE P w) 6 f fd ["self","k"] (Dk K ag ad aa ah):=by
 exists F.okE O2
 obtain⟨x,ds,k,rfl,hL,hA,hb,qe⟩:=h;obtain⟨dx,b,c,s,g,v,w,d,kvs,h⟩:=id hL;refine⟨_,(Af (An (Gk (ttc Jb (Mq be hr.m (Cl rfl) (pv 0) (tpa (pv 1) Aa)) Ad) (Ah Co (pv 1) Ad) Gw))),?_⟩;apply⟨x,dx,_,rfl,h.hx,rfl,?_⟩;k_is;exact⟨x,ds,k,rfl,hL,hA,hb,qe⟩
include T ae aV in
theorem Qu (F:Fun K "elder" "Levelled.elder" F1 f fd)(bY:Mth P w K mg base ad "ahead" 4 ["self","bit","place"] (kQ K ad)):As P w K mg base (CXE P w) 5 f fd ["self","k"] (Dk K ag ad aa ah):=by
 exists F.okE Hm
 obtain⟨x,ds,k,rfl,hL,hA,hb,qe⟩:=h;obtain⟨dx,b,c,s,g,v,w,d,kvs,h⟩:=id hL;refine⟨_,(Ab (tst 2 Hm.nd (Fn bY hr.m (tfl (pv 0)) (tpa Ad (tpa (Mq aV hr.m (Cl rfl) (pv 0) (tpa (pv 1) Aa)) Aa)))) (Af Bq)),?_⟩
 k_is;obtain⟨dc,t1,u1,hc1,_⟩:=id h.hc;refine⟨x,aa,dx,_,_,rfl,h.hx,ae.cl,ae.dw,rfl,?_⟩;apply⟨_,dc,_,rfl,hc1,rfl,?_⟩;apply⟨x,dx,_,rfl,h.hx,rfl,?_⟩;k_is;exact⟨x,ds,k,rfl,hL,hA,hb,qe⟩
include T ae aV in
theorem Qw (F:Fun K "right" "Levelled.right" Fz f fd)(bZ:Mth P w K mg base ag "bit" 4 ["self","place"] (zQ K ag)):As P w K mg base (CXE P w) 5 f fd ["self","k"] (Dk K ag ad aa ah):=by
 exists F.okE M2
 obtain⟨x,ds,k,rfl,hL,hA,hb,qe⟩:=h;obtain⟨dx,b,c,s,g,v,w,d,kvs,h⟩:=id hL;refine⟨_,(Af (An (Gk (ttc Cj (Fn bZ hr.m (tfl (pv 0)) (tpa (Ah A7 (Mq aV hr.m (Cl rfl) (pv 0) (tpa (pv 1) Aa)) Ad) Aa)) Ad) (Ah A7 (pv 1) Ad) Gw))),?_⟩;k_is;obtain⟨dc,t1,hc1,_⟩:=id h.hb;refine⟨x,aa,dx,_,_,rfl,h.hx,ae.cl,ae.dq,rfl,?_⟩;apply⟨_,dc,_,rfl,hc1,rfl,?_⟩;apply⟨x,dx,_,rfl,h.hx,rfl,?_⟩;k_is;exact⟨x,ds,k,rfl,hL,hA,hb,qe⟩
inductive Z1 (K:eh)(CQ:fg)(vs:List V)(H:Hp)(Q:VK)(E:XK):Prop|mk(x i:V)(_:vs=[x,i])(_:Any K H i)(_:Nt i)(_:E (.ref CQ) none H)
include T ae aU in
theorem Qv (F:Fun K "level" "Levelled.level" Fx f fd):As P w K mg base (CXE P w) 4 f fd ["self","deep"] (Z1 K am):=by
 exists F.okE N5
 obtain⟨x,i,rfl,hI,hb,qe⟩:=h;refine⟨_,(Ab (Be (Je aU hr.m (Cl rfl) (tpa (pv 1) Aa))) (Ab Bq
  (Ab Bq
  (Af Bq)))),?_⟩
 k_is;exact⟨i,rfl,hI,hb,qe⟩
inductive W5 (K:eh)(CB CC CL CN CQ:fg)(vs:List V)(H:Hp)(Q:VK)(E:XK):Prop|mk(x:fg)(ds:Za4)(k i:V)(_:vs=[.ref x,k,i])(_:Gx K CB CC CL H x ds)(_:Any K H k)(_:Any K H i)(_:((NoK k ds.length/\E (.ref CN) none H)\/(inI k 0 ((ds.length:Int)-1)=true/\Nt i/\E (.ref CQ) none H)))
include T ae aL aU in
theorem Qo (F:Fun K "level_of" "Levelled.level_of" D7 f fd):As P w K mg base (CXE P w) 4 f fd ["self","k","deep"] (W5 K ag ad aa ah am):=by
 exists F.okE Kk
 obtain⟨x,ds,k,i,rfl,hL,hA,hI,hq⟩:=h;obtain⟨dx,b,c,s,g,v,w,d,kvs,h⟩:=id hL;refine⟨_,(Ab (Be (Je aL hr.m (Cl rfl) (tpa (pv 1) (tpa (tfl (pv 0)) Aa)))) (Ab (Be (Je aU hr.m (Cl rfl) (tpa (pv 2) Aa))) (Ab Bq
  (Ab Bq
  (Ab Bq
  (Af Bq)))))),?_⟩
 apply⟨x,aa,dx,_,_,rfl,h.hx,ae.cl,ae.cN,rfl,?_⟩;k_is;rcases hq with⟨hb,qe⟩|⟨hg,hb,qe⟩
 ·exact⟨k,ds.length,rfl,hA,λh=>(hb.no h).elim,λ_=>qe⟩
 ·refine⟨k,ds.length,rfl,hA,λ_=>?_,λh=>(NoK.no h hg).elim⟩
  k_is;exact⟨i,rfl,hI,hb,qe⟩
inductive uF (K:eh)(vs:List V)(H:Hp)(Q:VK)(E:XK):Prop|mk(a:fg)(ns:List Int)(k:Nat)(_:vs=[.ref a,.int k])(_:SqL K H a (ns.map V.int))(_:∀c:Int,Q (.int c) H)
include T in
theorem Sw (F:Fun K "_law_cell_at" "_law_cell_at" Hw f fd):As P w K mg base CX0 1 f fd ["_law_script","_law_k"] (uF K):=by
 exists F.ok Tu
 obtain⟨a,ns,k,rfl,hS,q⟩:=h;refine⟨_,(Ab (Bt (ttc Pg (pv 1) (Am Aq (by rfl) T.cD C7 (tpa (pv 0) Aa))) (Af (An (tix B2 (pv 0) (pv 1))))
  Ax) (Af (An Ad))),?_⟩
 apply⟨a,_,rfl,.inl hS,?_⟩;k_is;rw[fb];refine Cg (λhb=>?_) (λhb=>?_)
 ·k_is
  have hk:k<ns.length:=by lia
  refine Cv hS (v:=.int ns[k]) ?_ (q _);refine Bl ?_;rw[gd,fc hk];rfl
 ·k_is
  exact q 0
inductive kK(vs:List V)(H:Hp)(Q:VK)(E:XK):Prop|mk(c:Int)(k:Nat)(_:vs=[.int c,.int k])(_:k<=1000)(_:∀r:Nat,r<300000000->Q (.int r) H)
include T in
theorem Xy (F:Fun K "_law_twice" "_law_twice" La f fd):As P w K mg base CX0 1 f fd ["_law_cell","_law_k"] kK:=by
 exists F.ok Ni
 obtain⟨c,k,rfl,hk,q⟩:=h;refine⟨_,(Ab (tst 2 Ni.nd (Ah Cf (Ah Lb (Ah A7 (Ah A7 (Ah A7 (Ah Cf (pv 0) Ad) (Ah Lb (Ah Lb Ad (pv 1)) (pv 1))) (pv 1)) Ad) Ad) Ad)) (Af (An (Ah Cm (Ah Cf (Ah Lb (Ah A7 (pv 2) (pv 1)) Ad) Ad) Ad)))),?_⟩
 apply tS (by lia) (by lia) ?_;k_is;generalize ((c%2147483647+7919*(k:Int)*k+k+1)*48271%2147483629+k)*69621=z;have h0:=BU z (show(2147483647:Int)≠0 by decide);have h1:=GK z (show(0:Int)<2147483647 by decide);have e:z%2147483647/8=((z%2147483647/8).toNat:Int):=by lia
 rw[e];exact q _ (by lia)
inductive jN(vs:List V)(H:Hp)(Q:VK)(E:XK):Prop|mk(c:Int)(n:Nat)(_:vs=[.int c,.int n])(_:n<=60)(_:∀p (ds:Za4) H',Ak H H'->H p=none->H' p=some (.lst ((Ay ds).map V.int))->Dok ds->ds.length=n->Q (.ref p) H')
theorem eO {ds:Za4}(h:Dok ds){k:Nat}(hk:k<=ds.length):[V.int (-1)]++(way ds k).tail.map V.int=(way ds k).map V.int:=by
 rw[K8 h hk];rfl
theorem Zv {ds:Za4}(h:Dok ds){k d:Nat}(hk:k<=ds.length)(hd:d<=opn ds k):atI ((way ds k).map V.int) (d:Int)=some (.int ((way ds k).getD d 0)):=by
 refine Bl (Zt ?_);have hw:=Cs h k hk;unfold jy;rw[fc (by lia)];rfl
include T in
theorem W3 (F:Fun K "_law_grown" "_law_grown" Kp f fd):As P w K mg base CX0 1 f fd ["_law_cell","_law_many"] jN:=by
 exists F.ok Db
 obtain⟨c,n,rfl,hn,q⟩:=h;refine⟨_,(Ab (tst 2 Db.nd (A8 Aa)) (Ab (tst 3 Db.nd (A8 Aa)) (Ab (Dy ja rfl (Fp rfl T.cI (tpa (pv 1) Aa)) (tgn 4 Db.nd) (Ab (tst 5 Db.nd (Ah Cf (pv 0) (Ah A7 (Am Aq (by rfl) T.cD C7 (tpa (pv 3) Aa)) Ad))) (Ab (tst 0 Db.nd (Ah Cm (pv 0) (Ah A7 (Am Aq (by rfl) T.cD C7 (tpa (pv 3) Aa)) Ad))) (Ab (Be (E9 i7 lp ll Dh (pv 2) (tpa (tix B2 (Ah E1 (A8 (tpa (Cy Bw Ad) Aa)) (pv 3)) (pv 5)) Aa))) (Af (tst 3 Db.nd (Ah E1 (Cz Ga (pv 3) Gc (Cq (pv 5))) (A8 (tpa (pv 4) Aa))))))))) (Af (An (pv 2)))))),?_⟩
 apply⟨i6 _,λp hp=>?_⟩;apply⟨i6 _,λp0 hp0=>?_⟩;have t0:=Ag (o:=.lst []) hp;have t1:=Ag (o:=.lst []) hp0;apply⟨_,rfl,by lia,by lia,?_⟩;rw[i8];refine Jc (λk G H1=>(∃(q:fg) (ds:Za4) (g:Int) (v w:Option V),G=[some (.int g),some (.int n),some (.ref p),some (.ref q),v,w]/\Dok ds/\ds.length=k/\H1 p=some (.lst ((Ay ds).map V.int))/\H1 q=some (.lst ((way ds k).tail.map V.int))/\p≠q)/\Ak H H1) ?_ ?_ ?_
 ·exact⟨⟨p0,[],_,_,_,rfl,(λk hk=>by cases hk),rfl,t1 _ _ Ac,Ac,Al Ac hp0⟩,t0.trans t1⟩
 ·rintro k G H1 hk ⟨⟨q1,ds,g,v,w',rfl,hD,hl,hp1,hq1,hne⟩,s1⟩
  have hw:=Cs hD k (by lia);have hok:=R8 hD k (by lia);have hwt:(way ds k).tail.length=opn ds k:=by rw[AN];lia
  apply⟨q1,_,rfl,.inl (SqL.of hq1),?_⟩;k_is;rw[fb,hwt];refine Yw (by lia) ?_;k_is;obtain⟨d,hd,hd1⟩:=Gg g (opn ds k);rw[hd];refine⟨q1,_,rfl,.inl (SqL.of hq1),?_⟩;k_is;rw[fb,hwt];refine sB (by lia) (by lia) ?_;apply⟨.inl ⟨rfl,_,SqL.of hp1⟩,?_⟩;apply⟨few (by simp),λq3 h3=>?_⟩;have u3:=Ag (o:=.lst [V.int (-1)]) h3;apply⟨q3,q1,_,_,rfl,rfl,Ac,u3 _ _ hq1,?_,λq4 h4=>?_⟩
  ·rw[fb,hwt]
   exact few (by simp only[gu,jq];lia)
  rw[eO hD (by lia)] at *;have u4:=u3.trans (Ag (o:=.lst ((way ds k).map V.int)) h4);have h44:(upd (upd H1 q3 (.lst [V.int (-1)])) q4 (.lst ((way ds k).map V.int))) q4=some (.lst ((way ds k).map V.int)):=Ac;generalize (upd (upd H1 q3 (.lst [V.int (-1)])) q4 (.lst ((way ds k).map V.int)))=H4 at *;apply Cv (SqL.of h44) (Zv hD (by lia) hd1) ?_;apply Fc (u4 _ _ hp1) ?_ ?_
  ·rw[fb,Bu]
   exact Ap (by lia)
  have s5:=B0 (o:=.lst ((Ay ds).map V.int++[V.int ((way ds k).getD d 0)])) (s1.trans u4) hp;have hq5:upd H4 p (.lst ((Ay ds).map V.int++[V.int ((way ds k).getD d 0)])) q1=some (.lst ((way ds k).tail.map V.int)):=by rw[Ai hne.symm];exact u4 _ _ hq1
  have hp5:=@Ac H4 p (.lst ((Ay ds).map V.int++[V.int ((way ds k).getD d 0)]));generalize upd H4 p _=H5 at *;apply⟨q1,_,rfl,SqL.of hq5,λq6 h6=>?_⟩;rw[O9,<-p7] at *;have u6:=Ag (o:=.lst (((way ds k).tail.take d).map V.int)) h6;apply⟨few (by simp),λq7 h7=>?_⟩;have u7:=Ag (o:=.lst [V.int (0+(k:Int))]) h7;refine⟨q6,q7,_,_,rfl,rfl,u7 _ _ Ac,Ac,?_,λq8 h8=>?_⟩
  ·rw[fb,f7]
   exact few (by simp only[gu,jq];lia)
  have u8:=Ag (o:=.lst (((way ds k).tail.take d).map V.int++[V.int (0+(k:Int))])) h8;k_is;have hp8:=u8 _ _ (u7 _ _ (u6 _ _ hp5));refine⟨⟨q8,ds++[d],_,_,_,rfl,Ha hD (by rw[hl];exact hd1),by rw[fe,hl];rfl,?_,?_,Al (u7 _ _ (u6 _ _ hp5)) h8⟩,((s5.trans u6).trans u7).trans u8⟩
  ·rw[hp8,Ew,f9,hl]
   rfl
  ·have e:=Gi ds d
   rw[hl] at e;rw[Ac,e,show(0+(k:Int))=(k:Int) by lia];have e2:((way ds k).take (d+1)++[(k:Int)]).tail=(way ds k).tail.take d++[(k:Int)]:=by
    rw[K8 hD (by lia)];rfl
   rw[e2,f9];rfl
 ·rintro G H1 ⟨⟨q1,ds,g,v,w',rfl,hD,hl,hp1,hq1,hne⟩,s1⟩
  k_is;exact q p ds H1 s1 hp hp1 hD hl
inductive kG (K:eh)(vs:List V)(H:Hp)(Q:VK)(E:XK):Prop|mk(a:fg)(ns:List Int)(n:Nat)(_:vs=[.ref a,.int n])(_:SqL K H a (ns.map V.int))(_:n<=60)(_:∀p (ds:Za4) H',Ak H H'->H p=none->H' p=some (.lst ((Ay ds).map V.int))->Dok ds->ds.length=n->Q (.ref p) H')
variable (aI:Cal P w K mg base "_law_cell_at" 1 ["_law_script","_law_k"] (uF K)) (aW:Cal P w K mg base "_law_twice" 1 ["_law_cell","_law_k"] kK)
include T aI aW in
theorem Xs (F:Fun K "_law_drawn" "_law_drawn" Ku f fd):As P w K mg base CX0 2 f fd ["_law_script","_law_many"] (kG K):=by
 exists F.ok Cd
 obtain⟨a,ns,n,rfl,hS,hn,q⟩:=h;refine⟨_,(Ab (tst 2 Cd.nd (A8 Aa)) (Ab (tst 3 Cd.nd (A8 Aa)) (Ab (Dy ja rfl (Fp rfl T.cI (tpa (pv 1) Aa)) (tgn 4 Cd.nd) (Ab (tst 5 Cd.nd (Aw aW hr.m (tpa (Aw aI hr.m (tpa (pv 0) (tpa (Ah A7 Ad (pv 4)) Aa))) (tpa (pv 4) Aa)))) (Ab (tst 6 Cd.nd (Am Aq (by rfl) T.cD C7 (tpa (pv 3) Aa))) (Ab (tst 7 Cd.nd (Ah Cf (Ah Cm (pv 5) Ad) (Ah A7 (pv 6) Ad))) (Ab (tst 8 Cd.nd (tix B2 (A8 (tpa (pv 7) (tpa (pv 6) (tpa (Am (oJ rfl) (by rfl) T.dj lC (tpa Ad (tpa (Ah Co (pv 6) (Ah Cf (Ah Cm (pv 5) Ad) Ad)) Aa))) (tpa (Am (Vf rfl) (by rfl) T.dv pH (tpa (pv 7) (tpa Ad Aa))) Aa))))) (Ah Cf (pv 5) Ad))) (Ab (Be (E9 i7 lp ll Dh (pv 2) (tpa (tix B2 (Ah E1 (A8 (tpa (Cy Bw Ad) Aa)) (pv 3)) (pv 8)) Aa))) (Af (tst 3 Cd.nd (Ah E1 (Cz Ga (pv 3) Gc (Cq (pv 8))) (A8 (tpa (pv 4) Aa))))))))))) (Af (An (pv 2)))))),?_⟩
 apply⟨i6 _,λp hp=>?_⟩;apply⟨i6 _,λp0 hp0=>?_⟩;have t0:=Ag (o:=.lst []) hp;have t1:=Ag (o:=.lst []) hp0;apply⟨_,rfl,by lia,by lia,?_⟩;rw[i8];refine Jc (λk G H1=>(∃(q:fg) (ds:Za4) (v4 v5 v6 v7 v8:Option V),G=[some (.ref a),some (.int n),some (.ref p),some (.ref q),v4,v5,v6,v7,v8]/\Dok ds/\ds.length=k/\H1 p=some (.lst ((Ay ds).map V.int))/\H1 q=some (.lst ((way ds k).tail.map V.int))/\p≠q)/\Ak H H1) ?_ ?_ ?_
 ·exact⟨⟨p0,[],_,_,_,_,_,rfl,(λk hk=>by cases hk),rfl,t1 _ _ Ac,Ac,Al Ac hp0⟩,t0.trans t1⟩
 ·rintro k G H1 hk ⟨⟨q1,ds,v4,v5,v6,v7,v8,rfl,hD,hl,hp1,hq1,hne⟩,s1⟩
  have hw:=Cs hD k (by lia);have hok:=R8 hD k (by lia);have hwt:(way ds k).tail.length=opn ds k:=by rw[AN];lia
  apply⟨a,ns,3+k,by simp,s1.seq hS,λc=>?_⟩;apply⟨c,k,by simp,by lia,λr hr1=>?_⟩;apply⟨q1,_,rfl,.inl (SqL.of hq1),?_⟩;k_is;rw[fb,hwt];refine Yw (by lia) ?_;k_is;obtain⟨d0,hd0,hd01⟩:=Gg ((r:Int)/4) (opn ds k);rw[hd0];apply⟨_,_,rfl,?_⟩;apply⟨_,_,rfl,?_⟩;apply⟨few (by simp),λq9 h9=>?_⟩;k_is;obtain⟨d,hat,hd1⟩:∃d:Nat,atI [V.int (d0:Int),V.int (opn ds k:Int),V.int (if(opn ds k:Int)-(r:Int)/4%3>0 then(opn ds k:Int)-(r:Int)/4%3 else 0),V.int (if(2:Int)<(d0:Int) then 2 else(d0:Int))] ((r:Int)%4)=some (.int d)/\d<=opn ds k:=by
   have h4:(r:Int)%4=((r%4:Nat):Int):=(Int.natCast_emod r 4).symm;rw[h4];have hr4:r%4<4:=va _ (by decide);generalize r%4=m at *
   match m,hr4 with
   |0,_=>exact⟨d0,Bl rfl,hd01⟩
   |1,_=>exact⟨opn ds k,Bl rfl,fk _⟩
   |2,_=>
    have he:0<=(r:Int)/4%3:=BU _ (by decide);generalize (r:Int)/4%3=e at *;refine⟨((opn ds k:Int)-e).toNat,(Bl rfl).trans ?_,by lia⟩;congr 2;split<;>lia
   |3,_=>
    refine⟨min 2 d0,(Bl rfl).trans ?_,by lia⟩;congr 2;split<;>lia
  have u9:=Ag (o:=.lst [V.int (d0:Int),V.int (opn ds k:Int),V.int (if(opn ds k:Int)-(r:Int)/4%3>0 then(opn ds k:Int)-(r:Int)/4%3 else 0),V.int (if(2:Int)<(d0:Int) then 2 else(d0:Int))]) h9;refine Cv (SqL.of Ac) hat ?_
  replace hp1:=u9 _ _ hp1
  replace hq1:=u9 _ _ hq1
  replace s1:=s1.trans u9
  generalize upd H1 q9 _=H1 at *;apply⟨.inl ⟨rfl,_,SqL.of hp1⟩,?_⟩;apply⟨few (by simp),λq3 h3=>?_⟩;have u3:=Ag (o:=.lst [V.int (-1)]) h3;apply⟨q3,q1,_,_,rfl,rfl,Ac,u3 _ _ hq1,?_,λq4 h4=>?_⟩
  ·rw[fb,hwt]
   exact few (by simp only[gu,jq];lia)
  rw[eO hD (by lia)] at *;have u4:=u3.trans (Ag (o:=.lst ((way ds k).map V.int)) h4);have h44:(upd (upd H1 q3 (.lst [V.int (-1)])) q4 (.lst ((way ds k).map V.int))) q4=some (.lst ((way ds k).map V.int)):=Ac;generalize (upd (upd H1 q3 (.lst [V.int (-1)])) q4 (.lst ((way ds k).map V.int)))=H4 at *;apply Cv (SqL.of h44) (Zv hD (by lia) hd1) ?_;apply Fc (u4 _ _ hp1) ?_ ?_
  ·rw[fb,Bu]
   exact Ap (by lia)
  have s5:=B0 (o:=.lst ((Ay ds).map V.int++[V.int ((way ds k).getD d 0)])) (s1.trans u4) hp;have hq5:upd H4 p (.lst ((Ay ds).map V.int++[V.int ((way ds k).getD d 0)])) q1=some (.lst ((way ds k).tail.map V.int)):=by rw[Ai hne.symm];exact u4 _ _ hq1
  have hp5:=@Ac H4 p (.lst ((Ay ds).map V.int++[V.int ((way ds k).getD d 0)]));generalize upd H4 p _=H5 at *;apply⟨q1,_,rfl,SqL.of hq5,λq6 h6=>?_⟩;rw[O9,<-p7] at *;have u6:=Ag (o:=.lst (((way ds k).tail.take d).map V.int)) h6;apply⟨few (by simp),λq7 h7=>?_⟩;have u7:=Ag (o:=.lst [V.int (0+(k:Int))]) h7;refine⟨q6,q7,_,_,rfl,rfl,u7 _ _ Ac,Ac,?_,λq8 h8=>?_⟩
  ·rw[fb,f7]
   exact few (by simp only[gu,jq];lia)
  have u8:=Ag (o:=.lst (((way ds k).tail.take d).map V.int++[V.int (0+(k:Int))])) h8;k_is;have hp8:=u8 _ _ (u7 _ _ (u6 _ _ hp5));refine⟨⟨q8,ds++[d],_,_,_,_,_,rfl,Ha hD (by rw[hl];exact hd1),by rw[fe,hl];rfl,?_,?_,Al (u7 _ _ (u6 _ _ hp5)) h8⟩,((s5.trans u6).trans u7).trans u8⟩
  ·rw[hp8,Ew,f9,hl]
   rfl
  ·have e:=Gi ds d
   rw[hl] at e;rw[Ac,e,show(0+(k:Int))=(k:Int) by lia];have e2:((way ds k).take (d+1)++[(k:Int)]).tail=(way ds k).tail.take d++[(k:Int)]:=by
    rw[K8 hD (by lia)];rfl
   rw[e2,f9];rfl
 ·rintro G H1 ⟨⟨q1,ds,v4,v5,v6,v7,v8,rfl,hD,hl,hp1,hq1,hne⟩,s1⟩
  k_is;exact q p ds H1 s1 hp hp1 hD hl
inductive yO(vs:List V)(H:Hp)(Q:VK)(E:XK):Prop|mk(a:fg)(ds:Za4)(m:Nat)(b:Bool)(_:vs=[.ref a,.int m,.bl b])(_:H a=some (.lst ((Ay ds).map V.int)))(_:Dok ds)(_:0<ds.length)(_:m*ds.length<=1000)(_:ds.length<=60)(_:∀p (es:Za4) H',Ak H H'->H p=none->H' p=some (.lst ((Ay es).map V.int))->Dok es->es.length=(m+1)*ds.length->Q (.ref p) H')
theorem mC {ds:Za4}(h:Dok ds)(hp:0<ds.length):(way ds ds.length).getD (opn ds ds.length) 0=(ds.length:Int)-1:=by
 obtain⟨k,hk⟩:∃k,ds.length=k+1:=⟨ds.length-1,by lia⟩;rw[hk];show((way ds k).take (dAt ds k+1)++[(k:Int)]).getD (dAt ds k+1) 0=_;have hw:=Cs h k (by lia);have:=h k (by lia);unfold jy;rw[f8 (by rw[f7];lia),f7,jm (by lia),ly];show(k:Int)=((k+1:Nat):Int)-1;lia
include T in
theorem P8 (F:Fun K "_law_repeated" "_law_repeated" E7 f fd):As P w K mg base CX0 1 f fd ["_law_elders","_law_times","_law_hung"] yO:=by
 exists F.ok B9
 obtain⟨a,ds,m,b,rfl,ha,hD,hpos,hm,hn,q⟩:=h;have hm1:m<=1000:=io (Nat.le_mul_of_pos_right m hpos) hm;refine⟨_,(Ab (tst 3 B9.nd (Es Jv (by rfl) T.di Wl (tpa (pv 0) Aa))) (Ab (Dy ja rfl (Fp rfl T.cI (tpa (pv 1) Aa)) (tgn 4 B9.nd) (Ab (Mv (i:=5) B9.nd rfl (BD rfl) (Am Aq (by rfl) T.cD C7 (tpa (pv 3) Aa))) (Ab (Mv (i:=6) B9.nd rfl (BD rfl) (Cy Bw Ad)) (Ab (fT (Cw (pv 2)) (Af (Mv (i:=6) B9.nd rfl (BD rfl) (Ah Co (pv 5) Ad)))
  Ax) (Af (tst 3 B9.nd (Ah E1 (pv 3) (Sn rfl M7 (F5 (pv 0)) (λ_ _ _ _=>Fb) (λ_ _ _ _=>(Gk (ttc Pg (pv 0) Ad) (pv 1) (Ah A7 (pv 0) (pv 2)))))))))))) (Af (An (pv 3))))),?_⟩
 apply⟨a,_,rfl,.inl (SqL.of ha),λp hp=>?_⟩;have t0:=Ag (o:=.lst ((Ay ds).map V.int)) hp;apply⟨_,rfl,by lia,by lia,?_⟩;rw[i8];refine Jc (λk G H1=>(∃(p1:fg) (es:Za4) (v4 v5 v6:Option V),G=[some (.ref a),some (.int m),some (.bl b),some (.ref p1),v4,v5,v6]/\Dok es/\es.length=(k+1)*ds.length/\H p1=none/\H1 p1=some (.lst ((Ay es).map V.int)))/\Ak H H1) ?_ ?_ ?_
 ·exact⟨⟨p,ds,_,_,_,rfl,hD,by lia,hp,Ac⟩,t0⟩
 ·rintro k G H1 hk ⟨⟨p1,es,v4,v5,v6,rfl,hE,hl,hp0,hp1⟩,s1⟩
  have hlm:(k+1)*ds.length<=1000:=io (Nat.mul_le_mul_right _ (by lia)) hm;have hlp:0<es.length:=by rw[hl];exact Nat.mul_pos (JY _) hpos
  apply⟨p1,_,rfl,.inl (SqL.of hp1),?_⟩;k_is;rw[fb,Bu];refine tT (λG H'=>H'=H1/\∃D:Nat,D<=opn es es.length/\G=[some (.ref a),some (.int m),some (.bl b),some (.ref p1),some (.int (0+(k:Int))),some (.int (es.length:Int)),some (.int ((way es es.length).getD D 0))]) ?_ ?_
  ·k_is
   cases b with
   |true=>
    apply⟨rfl,opn es es.length,fk _,?_⟩;rw[mC hE hlp];rfl
   |false=>
    apply⟨rfl,0,i6 _,?_⟩;have e1:(way es es.length).getD 0 0=-1:=by rw[K8 hE (fk _)];rfl
    rw[e1];rfl
  ·rintro G H' ⟨rfl,D,hDo,rfl⟩
   k_is;generalize hbs:(way es es.length).getD D 0=bs;refine⟨a,rfl,⟨_,SqL.of (s1 _ _ ha)⟩,?_⟩;refine Rg (SqL.of (s1 _ _ ha)) (λi=>((Ay ds).take i |>.map (shI es.length bs)).map V.int) rfl (λi hi=>?_) (λi x H2 R A hx s2 kR kA=>?_) (λD2 H2 hD2 s2 hl2=>?_)
   ·rw[fb,fb,f7]
    exact Ap (by rw[Bu];lia)
   ·obtain⟨n,hn2,rfl⟩:=Ta hx
    have hacc:(((Ay ds).take (i+1)).map (shI es.length bs)).map V.int=(((Ay ds).take i).map (shI es.length bs)).map V.int++[.int (shI es.length bs n)]:=by
     rw[jn,hn2,f9,f9];rfl
    apply Cg (λh=>?_) (λh=>?_)
    ·apply kA _ _ ?_ (Ak.refl _);rw[hacc];unfold shI;rw[if_pos h]
    ·apply kA _ _ ?_ (Ak.refl _);rw[hacc];unfold shI;rw[if_neg h]
   ·rw[gq (by rw[fb];exact fk _)] at hl2
    obtain⟨c1,c2,_⟩:=yE hE hDo ds hD;rw[hbs] at c2;apply⟨p1,D2,_,_,rfl,rfl,s2 _ _ hp1,hl2,?_,λp3 hp3=>?_⟩
    ·simp only[fb,Bu]
     exact jx (Ap (by lia))
    have u3:=Ag (o:=.lst ((Ay es).map V.int++((Ay ds).map (shI es.length bs)).map V.int)) hp3;apply⟨⟨p3,Ik es D ds,_,_,_,rfl,c1,?_,(s1.trans s2).free hp3,?_⟩,(s1.trans s2).trans u3⟩
    ·rw[Zy,hl,yr (k+1) 1,LU]
    ·rw[Ac,c2,f9]
 ·rintro G H1 ⟨⟨p1,es,v4,v5,v6,rfl,hE,hl,hp0,hp1⟩,s1⟩
  k_is;exact q p1 es H1 s1 hp0 hp1 hE hl
inductive lQ (K:eh)(vs:List V)(H:Hp)(Q:VK)(E:XK):Prop|mk(a:fg)(ns:List Int)(L:Nat)(_:vs=[.ref a,.int 60,.int L])(_:SqL K H a (ns.map V.int))(_:L<=400)(_:∀p (ds:Za4) H',Ak H H'->H p=none->H' p=some (.lst ((Ay ds).map V.int))->Dok ds->ds.length<=460->Q (.ref p) H')
include T aI in
theorem X9 (F:Fun K "_law_wood" "_law_wood" Mn f fd)(ce:Cal P w K mg base "_law_grown" 1 ["_law_cell","_law_many"] jN)(cf:Cal P w K mg base "_law_drawn" 2 ["_law_script","_law_many"] (kG K))(ci:Cal P w K mg base "_law_repeated" 1 ["_law_elders","_law_times","_law_hung"] yO):As P w K mg base CX0 3 f fd ["_law_script","_law_most","_law_large"] (lQ K):=by
 exists F.ok Ez
 obtain⟨a,ns,L,rfl,hS,hL,q⟩:=h;refine⟨_,(Ab (tst 3 Ez.nd (Aw aI hr.m (tpa (pv 0) (tpa Ad Aa)))) (Ab (tst 4 Ez.nd (Ah Cf (Ah Cm (pv 3) Ad) (Ah A7 (pv 1) Ad))) (Ab (tst 5 Ez.nd (Aw cf hr.m (tpa (pv 0) (tpa (pv 4) Aa)))) (Ab (fT (PW.pt (My (ttc Cj (Ah Cf (pv 3) Ad) Ad) (Jy (ttc Aaf (Am uM (by rfl) T.n_abs Ae2 (tpa (Aw aI hr.m (tpa (pv 0) (tpa Ad Aa))) Aa)) (Ah Xc Ad Ad))))) (Af (tst 5 Ez.nd (Aw ce hr.m (tpa (Aw aI hr.m (tpa (pv 0) (tpa Ad Aa))) (tpa (pv 4) Aa)))))
  Ax) (Ab (fT (PW.pt (My (ttc Cj (Ah Cf (Ah Cm (pv 3) Ad) Ad) Ad) (Jy (ttc Jb (pv 4) Ad)))) (Af (tst 5 Ez.nd (Aw ci hr.m (tpa (pv 5) (tpa (Ah Cm (pv 2) (pv 4)) (tpa (tpc Cj (Ah Cf (Aw aI hr.m (tpa (pv 0) (tpa Ad Aa))) Ad) Ad) Aa))))))
  Ax) (Af (An (pv 5)))))))),?_⟩
 apply⟨a,ns,0,rfl,hS,λc=>?_⟩;k_is;obtain⟨n,hn,hn1⟩:=Gg (c/8) 60;have hn':c/8%(60+1)=(n:Int):=hn;rw[hn'];refine⟨a,ns,n,rfl,hS,hn1,λp0 d0 H1 s1 hp0 h0 hD0 hl0=>?_⟩;apply tT (λG H'=>Ak H H'/\∃(p:fg) (ds:Za4),G=[some (.ref a),some (.int 60),some (.int L),some (.int c),some (.int n),some (.ref p)]/\H p=none/\H' p=some (.lst ((Ay ds).map V.int))/\Dok ds/\ds.length=n) ?_ ?_
 ·k_is
  have keep:Ak H H1/\∃(p:fg) (ds:Za4),[some (V.ref a),some (.int 60),some (.int L),some (.int c),some (.int n),some (.ref p0)]=[some (V.ref a),some (.int 60),some (.int L),some (.int c),some (.int n),some (.ref p)]/\H p=none/\H1 p=some (.lst ((Ay ds).map V.int))/\Dok ds/\ds.length=n:=⟨s1,p0,d0,rfl,hp0,h0,hD0,hl0⟩;refine Cg (λh2=>?_) (λh2=>?_)
  ·apply⟨a,ns,1,rfl,s1.seq hS,λc1=>?_⟩;apply⟨_,rfl,?_⟩;apply⟨10,18,rfl,rfl,⟨by decide,by decide,by decide⟩,?_⟩;apply Cg (λh3=>?_) (λh3=>?_)
   ·apply⟨a,ns,1,rfl,s1.seq hS,λc2=>?_⟩;apply⟨c2,n,rfl,hn1,λp1 d1 H3 s3 hp1 h1 hD1 hl1=>?_⟩;k_is;exact⟨s1.trans s3,p1,d1,rfl,s1.free hp1,h1,hD1,hl1⟩
   ·k_is
    exact keep
  ·k_is
   exact keep
 ·rintro G H2 ⟨s2,p,ds,rfl,hp,h2,hD,hl⟩
  apply tT (λG H'=>Ak H H'/\∃(p:fg) (es:Za4),G=[some (.ref a),some (.int 60),some (.int L),some (.int c),some (.int n),some (.ref p)]/\H p=none/\H' p=some (.lst ((Ay es).map V.int))/\Dok es/\es.length<=460) ?_ ?_
  ·have keep:Ak H H2/\∃(q:fg) (es:Za4),[some (V.ref a),some (.int 60),some (.int L),some (.int c),some (.int n),some (.ref p)]=[some (V.ref a),some (.int 60),some (.int L),some (.int c),some (.int n),some (.ref q)]/\H q=none/\H2 q=some (.lst ((Ay es).map V.int))/\Dok es/\es.length<=460:=⟨s2,p,ds,rfl,hp,h2,hD,by lia⟩
   apply Cg (λh4=>?_) (λh4=>?_)
   ·apply Cg (λh5=>?_) (λh5=>?_)
    ·apply sB (by lia) (by lia) ?_;apply⟨a,ns,2,rfl,s2.seq hS,λc3=>?_⟩;k_is;have e1:(L:Int)/(n:Int)=((L/n:Nat):Int):=(xm L n).symm;have hm:L/n*n<=L:=Nat.div_mul_le_self L n;rw[e1];refine⟨p,ds,L/n,_,rfl,h2,hD,by lia,by rw[hl];lia,by lia,λp4 es H4 s4 hp4 h44 hE hle=>?_⟩;apply⟨s2.trans s4,p4,es,rfl,s2.free hp4,h44,hE,?_⟩;rw[hle,hl,yr,LU];lia
    ·k_is
     exact keep
   ·k_is
    exact keep
  ·rintro G H5 ⟨s5,p5,es,rfl,hp5,h5,hE,hle⟩
   k_is;exact q p5 es H5 s5 hp5 h5 hE hle
inductive lL (K:eh)(CN CQ CW:fg)(vs:List V)(H:Hp)(Q:VK)(E:XK):Prop|mk(e C:fg)(od:Option fg)(_:vs=[.ref e])(_:H e=some (O7 e C od))(_:((C=CN/\∀H',Ak H H'->Q (.str "knot") H')\/(C=CQ/\∀H',Ak H H'->Q (.str "place") H')\/(C=CW/\∀H',Ak H H'->Q (.str "wood") H')))
include T in
theorem Xp (F:Fun K "_law_class" "_law_class" Ke f fd):jS P w K mg base 1 f fd ["_law_e"] (lL K ah am ai):=by
 refine F.okU M0 (λvs H Q E h=>?_) (λcdv A A2 outer s H vs Q hr h=>?_)
 ·obtain⟨e,C,od,rfl,_⟩:=h
  rfl
 ·obtain⟨e,C,od,rfl,he,h⟩:=h
  obtain⟨b1,b2,b3,hk,w1,w2,i1,i2,i3,no1,no2,hz⟩:∃b1 b2 b3:Bool,Id K C/\kitOne K (.ref C) (.ref ao)=some true/\kitOne K (.ref C) (.type "ValueError")=some true/\kitOne K (.ref C) (.ref ah)=some b1/\kitOne K (.ref C) (.ref am)=some b2/\kitOne K (.ref C) (.ref ai)=some b3/\kitAny K (.ref C) [.ref au,.ref av,.ref ax,.ref az,.ref aA,.ref aB,.ref aC,.ref aD,.ref aE,.ref aF]=some false/\kitAny K (.ref C) [.ref aG,.ref aH]=some false/\((b1=true/\b2=false/\b3=false/\∀H',Ak H H'->Q (.str "knot") H')\/(b1=false/\b2=true/\b3=false/\∀H',Ak H H'->Q (.str "place") H')\/(b1=false/\b2=false/\b3=true/\∀H',Ak H H'->Q (.str "wood") H')):=by
   rcases h with⟨rfl,q⟩|⟨rfl,q⟩|⟨rfl,q⟩
   ·exact⟨true,false,false,T.dN,T.cF.1,T.cF.2.1,T.cF.2.2.1,T.cF.2.2.2.1,(T.cF.d 4).1,by simp only[kitAny,(T.cF.d 5).1,(T.cF.d 6).1,(T.cF.d 7).1,(T.cF.d 8).1,(T.cF.d 9).1,(T.cF.d 10).1,(T.cF.d 11).1,(T.cF.d 12).1,(T.cF.d 13).1,(T.cF.d 14).1],by simp only[kitAny,(T.cF.d 15).1,(T.cF.d 16).1],.inl ⟨rfl,rfl,rfl,q⟩⟩
   ·exact⟨false,true,false,T.d8,T.cG.1,T.cG.2.1,T.cG.2.2.1,T.cG.2.2.2.1,(T.cG.d 4).1,by simp only[kitAny,(T.cG.d 5).1,(T.cG.d 6).1,(T.cG.d 7).1,(T.cG.d 8).1,(T.cG.d 9).1,(T.cG.d 10).1,(T.cG.d 11).1,(T.cG.d 12).1,(T.cG.d 13).1,(T.cG.d 14).1],by simp only[kitAny,(T.cG.d 15).1,(T.cG.d 16).1],.inr (.inl ⟨rfl,rfl,rfl,q⟩)⟩
   ·exact⟨false,false,true,T.cZ,T.cE.1,T.cE.2.1,T.cE.2.2.1,T.cE.2.2.2.1,(T.cE.d 4).1,by simp only[kitAny,(T.cE.d 5).1,(T.cE.d 6).1,(T.cE.d 7).1,(T.cE.d 8).1,(T.cE.d 9).1,(T.cE.d 10).1,(T.cE.d 11).1,(T.cE.d 12).1,(T.cE.d 13).1,(T.cE.d 14).1],by simp only[kitAny,(T.cE.d 15).1,(T.cE.d 16).1],.inr (.inr ⟨rfl,rfl,rfl,q⟩)⟩
  clear h;refine⟨_,(Ab (Bt (PW.pt (Nm (E8 (Cw (Am (Ei K) (by rfl) T.cH Ba (tpa (pv 0) (tpa (Ce (v:=.ref _) rfl T.dA rfl) Aa))))) (Mm (E8 (Cw (Am (Ei K) (by rfl) T.cH Ba (tpa (pv 0) (tpa (Hu (v:=.ty "ValueError") rfl T.dU Wk rfl) Aa)))))))) (Af (An Ar))
   Ax) (Ab (tst 1 M0.nd (A8 (tpa (Am (Ei K) (by rfl) T.cH Ba (tpa (pv 0) (tpa (Ce (v:=.ref _) rfl T.dR rfl) Aa))) (tpa (Am (Ei K) (by rfl) T.cH Ba (tpa (pv 0) (tpa (Ce (v:=.ref _) rfl T.ef rfl) Aa))) (tpa (Am (Ei K) (by rfl) T.cH Ba (tpa (pv 0) (tpa (Ce (v:=.ref _) rfl T.dF rfl) Aa))) Aa))))) (Ab (Bt (Cw (Am (Md K) (by rfl) T.cH Ba (tpa (pv 0) (tpa (Gn (tpa (Ce (v:=.ref _) rfl T.dM rfl) (tpa (Ce (v:=.ref _) rfl T.eg rfl) (tpa (Ce (v:=.ref _) rfl T.dY rfl) (tpa (Ce (v:=.ref _) rfl T.dH rfl) (tpa (Ce (v:=.ref _) rfl T.dS rfl) (tpa (Ce (v:=.ref _) rfl T.d9 rfl) (tpa (Ce (v:=.ref _) rfl T.dL rfl) (tpa (Ce (v:=.ref _) rfl T.d7 rfl) (tpa (Ce (v:=.ref _) rfl T.ed rfl) (tpa (Ce (v:=.ref _) rfl T.d3 rfl) Aa))))))))))) Aa)))) (Af (An Ar))
   Ax) (Ab (Bt (PW.pt (Nm (ttc Pq (qR K i7 PySem.F.slot_list_count PySem.F.type_list_count nH (pv 1) (tpa Fd Aa)) Ad) (Mm (Cw (Am (Md K) (by rfl) T.cH Ba (tpa (pv 0) (tpa (Gn (tpa (Ce (v:=.ref _) rfl T.d5 rfl) (tpa (Ce (v:=.ref _) rfl T.ee rfl) Aa))) Aa))))))) (Af (An Ar))
   Ax) (Af (An (tix (eV K) (A8 (tpa Ar (tpa Ar (tpa Ar Aa)))) (qR K i7 rq rp mU (pv 1) (tpa Fd Aa))))))))),?_⟩
  apply⟨e,C,od,_,_,_,rfl,he,hk,rfl,w1,?_⟩;apply⟨e,C,od,_,_,_,rfl,he,hk,rfl,w2,?_⟩;apply⟨e,C,od,_,_,_,rfl,he,hk,rfl,i1,?_⟩;apply⟨e,C,od,_,_,_,rfl,he,hk,rfl,i2,?_⟩;apply⟨e,C,od,_,_,_,rfl,he,hk,rfl,i3,?_⟩;apply⟨few (by simp),λp1 h1=>?_⟩;obtain⟨t1,e1⟩:=Au (o:=.lst [V.bl b1,V.bl b2,V.bl b3]) h1;have he:=t1 _ _ he;generalize upd H p1 _=H1 at *;apply⟨few (by simp),λp2 h2=>?_⟩;have u2:=Ag (o:=(.tup [V.ref au,V.ref av,V.ref ax,V.ref az,V.ref aA,V.ref aB,V.ref aC,V.ref aD,V.ref aE,V.ref aF])) h2;have t2:=t1.trans u2;refine⟨e,C,od,p2,_,[.ref au,.ref av,.ref ax,.ref az,.ref aA,.ref aB,.ref aC,.ref aD,.ref aE,.ref aF],false,rfl,u2 _ _ he,hk,Ac,⟨rfl,rfl,rfl,rfl,rfl,rfl,rfl,rfl,rfl,rfl,trivial⟩,no1,?_⟩;have he:=u2 _ _ he;have e1:=u2 _ _ e1;generalize upd H1 p2 _=H2 at *;apply⟨.inl ⟨rfl,_,SqL.of e1⟩,?_⟩;apply⟨p1,_,_,rfl,rfl,e1,rfl,rfl,?_⟩;rcases hz with⟨rfl,rfl,rfl,q⟩|⟨rfl,rfl,rfl,q⟩|⟨rfl,rfl,rfl,q⟩
  all_goals
   apply⟨few (by simp),λp3 h3=>?_⟩;have u3:=Ag (o:=(.tup [V.ref aG,V.ref aH])) h3;refine⟨e,C,od,p3,_,[.ref aG,.ref aH],false,rfl,u3 _ _ he,hk,Ac,⟨rfl,rfl,trivial⟩,no2,?_⟩;have e1:=u3 _ _ e1;have t3:=t2.trans u3;generalize upd H2 p3 _=H3 at *;apply⟨few (by simp),λp4 h4=>?_⟩;obtain⟨u4,e4⟩:=Au (o:=(.lst [V.str ("knot":Str),V.str ("place":Str),V.str ("wood":Str)])) h4;have e1:=u4 _ _ e1;have t4:=t3.trans u4;generalize upd H3 p4 _=H4 at *;apply⟨.inl ⟨rfl,_,SqL.of e1⟩,?_⟩;k_is
  ·exact⟨p1,_,_,0,rfl,rfl,e1,rfl,rfl,rfl,λj hj=>absurd hj (yf _),Cv (SqL.of e4) rfl (q H4 t4)⟩
  ·refine⟨p1,_,_,1,rfl,rfl,e1,rfl,rfl,rfl,λj hj=>?_,Cv (SqL.of e4) rfl (q H4 t4)⟩
   obtain rfl:j=0:=by lia
   simp[eqV]
  ·refine⟨p1,_,_,2,rfl,rfl,e1,rfl,rfl,rfl,λj hj=>?_,Cv (SqL.of e4) rfl (q H4 t4)⟩
   rcases j with _|_|j
   ·simp[eqV]
   ·simp[eqV]
   ·lia
theorem fE {ds:Za4}(h:Dok ds){k:Nat}(hk:k<=ds.length):∃r,way ds k=-1::r:=by
 have h0:=E5 h k hk
 cases e:way ds k with
 |nil=>rw[e] at h0;cases h0
 |cons x r=>
  rw[e] at h0;exact⟨r,by rw[fq h0]⟩
inductive zP (K:eh)(vs:List V)(H:Hp)(Q:VK)(E:XK):Prop|mk(a:fg)(xs:List V)(_:vs=[.ref a])(_:H a=some (.lst xs))(_:(∀x∈xs,Any K H x))(_:xs.length<=600)(_:∀r H',Acm (some xs) r->Ak H H'->Q r H')
include T in
theorem fX (F:Fun K "_law_bar" "_law_bar" O5 f fd):As P w K mg base CX0 1 f fd ["_law_things"] (zP K):=by
 exists F.ok Fs
 obtain⟨a,xs,rfl,ha,hf,hn,q⟩:=h;refine⟨_,(Ab (tst 1 Fs.nd (A8 Aa)) (Ab (Dy ja rfl (Rh rfl T.dh (tpa (pv 0) Aa)) (R1 rfl (Eh (tgn 2 Fs.nd) (Eh (tgn 3 Fs.nd) Nz))) (Ab (Bt (PW.pt (Nm (ttc Cj (pv 2) Ad) (Nm (E8 (Cw (Am Du (by rfl) T.cH Ba (tpa (pv 3) (tpa (Hu (v:=.ty "int") rfl T.dB tL rfl) Aa))))) (Mm (Cw (Am Du (by rfl) T.cH Ba (tpa (pv 3) (tpa (Hu (v:=.ty "bool") rfl T.dn iS rfl) Aa)))))))) (Af (An (pv 2)))
  Ax) (Ab (Bt (PW.pt (My (ttc Pq (pv 3) (Cy Bw Ad)) (Jy (Rm Xf (pv 3) (pv 1) rfl)))) (Af (An (pv 2)))
  Ax) (Af (Bt (ttc Cj (pv 3) (Cy Bw Ad)) (Af (tst 1 Fs.nd (A8 (tpa (pv 2) Aa)))) (Af (tst 1 Fs.nd (Ah E1 (Cz Ga (pv 1) Gc (Cq (Ah A7 (E9 i7 rq rp R0 (pv 1) (tpa (pv 3) Aa)) Ad))) (A8 (tpa (pv 2) Aa)))))))))) (Af (An Gw)))),?_⟩
 apply⟨i6 _,λp hp=>?_⟩;have t0:=Ag (o:=.lst []) hp;apply⟨a,rfl,⟨_,SqL.of (t0 _ _ ha)⟩,?_⟩;refine Nv (xs:=xs) (λk G H1=>(∃(q1:fg) (ds:Za4) (v2 v3:Option V),G=[some (.ref a),some (.ref q1),v2,v3]/\Dok ds/\ds.length=k/\xs.take k=(Ay ds).map V.int/\H1 q1=some (.lst (((way ds k).drop 1).map V.int)))/\Ak H H1) ?_ (λk G H1 _ h=>SqL.of (h.2 _ _ ha)) ?_ ?_
 ·exact⟨⟨p,[],_,_,rfl,(λk hk=>by cases hk),rfl,rfl,Ac⟩,t0⟩
 ·rintro k x G H1 t hx ⟨⟨q1,ds,v2,v3,rfl,hD,hl,htk,hq1⟩,s1⟩ ht
  have hk:=Ff hx;have st:=Ag (o:=.tup [.int k,x]) ht;have s2:=s1.trans st;obtain⟨r,hr⟩:=fE hD (k:=k) (by lia);rw[hr] at hq1;have hq2:upd H1 t (.tup [.int k,x]) q1=some (.lst (r.map V.int)):=st _ _ hq1;generalize upd H1 t _=H2 at *;have out:(∀e,xs[k]?=some (V.int e)->e∉way ds k)->∀H3,Ak H H3->Q (.int (k:Int)) H3:=λhb H3 s3=>q _ _ (.inr ⟨k,rfl,ds,hD,hl,hk,by lia,htk,.inr hb⟩) s3;obtain⟨ty,b1,b2,hty,hb1,hb2,hbx⟩:=(hf x (gg hx)).same s2;have noI:isI x=false->∀e,xs[k]?=some (V.int e)->e∉way ds k:=λhix e he=>by
   rw[hx] at he;rw[fq he] at hix;cases hix
  apply Cg (λh=>absurd (V.int.inj h) (by lia)) (λ_=>?_);apply⟨_,_,_,_,rfl,hty,hb1,?_⟩
  cases b1 with
  |false=>
   k_is;exact out (noI (by rw[<-hbx];rfl)) H2 s2
  |true=>
   apply⟨_,_,_,_,rfl,hty,hb2,?_⟩
   cases b2 with
   |true=>
    k_is;exact out (noI (by rw[<-hbx];rfl)) H2 s2
   |false=>
    obtain⟨e,rfl⟩:=Xe (x:=x) (by rw[<-hbx];rfl);have hw:=Cs hD k (by lia);have hok:=R8 hD k (by lia);apply Aec (λhne=>?_) (λheq=>?_)
    ·have hne:e≠-1:=λh=>hne (congrArg V.int h)
     apply⟨q1,_,rfl,.inl (SqL.of hq2),rfl,Lm _,?_⟩;rw[Aa5]
     by_cases hm:e∈r
     ·rw[decide_eq_true hm,show(if true=true then !true else true)=false by decide]
      obtain⟨d,hd⟩:=l7 hm;have hdl:=Ff hd;rw[hr,gu] at hw;apply Cg (λh=>absurd (V.int.inj h) hne) (λ_=>?_);apply⟨.inl ⟨rfl,_,SqL.of hq2⟩,?_⟩;apply⟨q1,r,e,d,rfl,rfl,hq2,hd,λi hi he=>?_,?_⟩
      ·have h1:(way ds k)[i+1]?=some e:=by rw[hr];exact he
       have h2:(way ds k)[d+1]?=some e:=by rw[hr];exact hd
       have:=Oq hD k (i+1) (d+1) _ _ (by lia) (by lia) h1 h2;lia
      apply⟨q1,_,rfl,SqL.of hq2,λq3 h3=>?_⟩;rw[show((d:Int)+1)=((d+1:Nat):Int) by lia,O9,<-p7] at *;have u3:=Ag (o:=.lst ((r.take (d+1)).map V.int)) h3;apply⟨few (by simp),λq4 h4=>?_⟩;have u4:=Ag (o:=.lst [V.int (k:Int)]) h4;refine⟨q3,q4,_,_,rfl,rfl,u4 _ _ Ac,Ac,?_,λq5 h5=>?_⟩
      ·rw[fb,f7]
       exact few (by simp only[gu,jq];lia)
      have u5:=Ag (o:=.lst ((r.take (d+1)).map V.int++[V.int (k:Int)])) h5;k_is;have hgd:(way ds k).getD (d+1) 0=e:=by rw[hr];unfold jy;rw[sw,hd];rfl
      refine⟨⟨q5,ds++[d+1],_,_,rfl,Ha hD (by rw[hl];lia),by rw[fe,hl];rfl,?_,?_⟩,((s2.trans u3).trans u4).trans u5⟩
      ·rw[Oi hx,htk,Ew,hl,hgd,f9]
       rfl
      ·have e1:=Gi ds (d+1)
       rw[hl,hr] at e1;rw[Ac,e1,og,lh,List.drop_succ_cons,qd,f9];rfl
     ·rw[decide_eq_false hm,show(if true=true then !false else false)=true by decide]
      apply out (λe' he hm'=>?_) H2 s2;rw[hx] at he;rw[<-V.int.inj (fq he),hr] at hm';rcases i9.mp hm' with h|h
      ·exact hne h
      ·exact hm h
    ·obtain rfl:e=-1:=V.int.inj heq
     apply⟨few (by simp),λq5 h5=>?_⟩;have u5:=Ag (o:=.lst [V.int (k:Int)]) h5;have hgd:(way ds k).getD 0 0=-1:=by rw[hr];rfl
     refine⟨⟨q5,ds++[0],_,_,rfl,Ha hD (by lia),by rw[fe,hl];rfl,?_,?_⟩,s2.trans u5⟩
     ·rw[Oi hx,htk,Ew,hl,hgd,f9]
      rfl
     ·have e1:=Gi ds 0
      rw[hl,hr] at e1;rw[Ac,e1];rfl
 ·rintro G H1 ⟨⟨q1,ds,v2,v3,rfl,hD,hl,htk,hq1⟩,s1⟩
  rw[gq (fk _)] at htk;k_is;exact q _ _ (.inl ⟨rfl,ds,hD,by lia,htk⟩) s1
theorem eN (xs:List V)(m:Nat):G3 xs (some (m:Int)) none=xs.drop m:=by
 unfold G3;rw[HT.sIx_nat];show AL (xs.length-min m xs.length) (GX (min m xs.length) xs)=_;rw[gq (by rw[jh];lia)]
 by_cases h:m<=xs.length
 ·rw[jm h]
 ·rw[vc (by lia),km (fk _),km (by lia)]
inductive Uy (K:eh)(vs:List V)(H:Hp)(Q:VK)(E:XK):Prop|mk(a:fg)(ds:Za4)(r:Nat)(_:vs=[.ref a,.int r])(_:H a=some (.lst ((Ay ds).map V.int)))(_:ds.length<=460)(_:∀p (xs:List V) H',Ak H H'->H' p=some (.lst xs)->(∀x∈xs,Any K H' x)->xs.length<=500->Q (.ref p) H')
include T in
theorem T7 (F:Fun K "_law_spoilt" "_law_spoilt" Jo f fd):As P w K mg base CX0 1 f fd ["_law_elders","_law_number"] (Uy K):=by
 exists F.ok Hx
 obtain⟨a,ds,r,rfl,ha,hn,q⟩:=h;have hle:((Ay ds).map V.int).length=ds.length:=by rw[fb,Bu]
 have anyL:∀{H':Hp} {y:V},y∈(Ay ds).map V.int->Any K H' y:=λhy=>by
  obtain⟨n,_,rfl⟩:=jl.mp hy;exact B5 n
 have finX:∀(i j:Nat) (x:V) p (H2:Hp),i<=j->Ak H H2->Any K H2 x->H2 p=some (.lst (((Ay ds).map V.int).take i++[x]++((Ay ds).map V.int).drop j))->Q (.ref p) H2:=λi j x p H2 hij s2 hxA hp=>by
  refine q p _ H2 s2 hp (λy hy=>?_) ?_
  ·rcases i5.mp hy with hy|hy
   ·rcases i5.mp hy with hy|hy
    ·exact anyL (l6 hy)
    ·obtain rfl:=gw.mp hy
     exact hxA
   ·exact anyL (n4 hy)
  ·rw[fe,fe,f7,jh,hle,qq]
   lia
 refine⟨_,(uN.h (Ra (si (tst 2 Hx.nd (Ah Cf (Ah Cm (pv 1) Ad) (Ah A7 (Am Aq (by rfl) T.cD C7 (tpa (pv 0) Aa)) Ad)))) (Ra (sA (i:=3) Hx.nd rfl (DJ rfl) (Ac5 B2 (tP (Hj Gw (Hj Fd (Hj (Cy Bw Ad) (Hj (pv 2) (Hj (Ah A7 (pv 2) Ad) (Hj (Ah Xc Ad Ad) (Hj Ar (Hj (A8 (tpa Ad Aa)) (Hj (Ah Co (pv 2) Ad) (Hj (Ah Cm (pv 2) Ad) (Hj (Cy Bw Ad) (Hj Fd rN rfl) rfl) rfl) rfl) rfl) rfl) rfl) rfl) rfl) rfl) rfl) rfl)) (Ah Cf (pv 1) Ad) (λ_ _=>rfl))) (Ra (si (Bt (ttc Cj (Ah Cf (Ah Cm (pv 1) Ad) Ad) Ad) (Af (An (Ah E1 (Ah E1 (Cz Ga (pv 0) Gc (Cq (pv 2))) (A8 (tpa (pv 3) Aa))) (Cz Ga (pv 0) (Cq (pv 2)) Gc))))
  Ax)) (uH (si (An (Ah E1 (Ah E1 (Cz Ga (pv 0) Gc (Cq (pv 2))) (A8 (tpa (pv 3) Aa))) (Cz Ga (pv 0) (Cq (Ah A7 (pv 2) Ad)) Gc))))))))),?_⟩
 apply⟨a,_,rfl,.inl (SqL.of ha),?_⟩;rw[hle];apply Yw (by lia) ?_;obtain⟨k,hk,hk1⟩:=Gg ((r:Int)/64) ds.length;rw[hk];apply⟨10,20,rfl,rfl,⟨by decide,by decide,by decide⟩,?_⟩;apply⟨few (by simp),λpz hz=>?_⟩;obtain⟨uz,hz1⟩:=Au (o:=.lst [V.int 0]) hz;have ha1:=uz _ _ ha;generalize upd H pz _=H1 at *;apply⟨few (by simp),λpl hl=>?_⟩;generalize hL:[V.non,V.bl true,V.int (-2),V.int (k:Int),V.int ((k:Int)+1),V.int (10 ^ xl 20),V.str ("0":Str),V.ref pz,V.int ((k:Int)-2),V.int ((k:Int)/2),V.int (-1),V.bl false]=L at *;have hLl:L.length=12:=by rw[<-hL];rfl
 obtain⟨ul,hl2⟩:=Au (o:=.lst L) hl;have ha2:=ul _ _ ha1;have hz2:=ul _ _ hz1;have ux:=uz.trans ul;generalize upd H1 pl _=H2 at *;have hA:∀x∈L,Any K H2 x:=λx hx=>by
  rw[<-hL] at hx;simp only[i9,mq,or_false] at hx;rcases hx with rfl|rfl|rfl|rfl|rfl|rfl|rfl|rfl|rfl|rfl|rfl|rfl
  ·exact Ws
  ·exact Oj _
  ·exact B5 _
  ·exact B5 _
  ·exact B5 _
  ·exact B5 _
  ·exact Wm _
  ·exact Wx hz2
  ·exact B5 _
  ·exact B5 _
  ·exact B5 _
  ·exact Oj _
 obtain⟨i,hi,hi1⟩:=Gg (r:Int) 11;have hi:(r:Int)%12=(i:Int):=hi;obtain⟨x,hx⟩:∃x,L[i]?=some x:=⟨_,fc (by lia)⟩;have hxA:=hA x (gg hx);k_is;rw[hi];refine Cv (SqL.of hl2) (Bl hx) ?_;apply Cg (λ_=>?_) (λ_=>?_)
 ·apply⟨a,_,rfl,SqL.of ha2,λq1 h1=>?_⟩;rw[O9] at *;have u1:=Ag (o:=.lst (((Ay ds).map V.int).take k)) h1;apply⟨few (by simp),λq2 h2=>?_⟩;have u2:=Ag (o:=.lst [x]) h2;refine⟨q1,q2,_,_,rfl,rfl,u2 _ _ Ac,Ac,?_,λq3 h3=>?_⟩
  ·rw[f7,hle]
   exact few (by simp only[gu,jq];lia)
  have u3:=Ag (o:=.lst (((Ay ds).map V.int).take k++[x])) h3;k_is;have u123:=(u1.trans u2).trans u3;refine⟨a,_,rfl,SqL.of (u123 _ _ ha2),λq4 h4=>?_⟩;rw[eN] at *;have u4:=Ag (o:=.lst (((Ay ds).map V.int).drop k)) h4;apply⟨q3,q4,_,_,rfl,rfl,u4 _ _ Ac,Ac,?_,λq5 h5=>?_⟩
  ·rw[fe,f7,jh,hle]
   exact few (by simp only[gu,jq];lia)
  have u5:=(u123.trans u4).trans (Ag (o:=.lst (((Ay ds).map V.int).take k++[x]++((Ay ds).map V.int).drop k)) h5);exact finX k k _ q5 _ (by lia) (ux.trans u5) (hxA.same u5) Ac
 ·apply⟨a,_,rfl,SqL.of ha2,λq1 h1=>?_⟩;rw[O9] at *;have u1:=Ag (o:=.lst (((Ay ds).map V.int).take k)) h1;apply⟨few (by simp),λq2 h2=>?_⟩;have u2:=Ag (o:=.lst [x]) h2;refine⟨q1,q2,_,_,rfl,rfl,u2 _ _ Ac,Ac,?_,λq3 h3=>?_⟩
  ·rw[f7,hle]
   exact few (by simp only[gu,jq];lia)
  have u3:=Ag (o:=.lst (((Ay ds).map V.int).take k++[x])) h3;k_is;have u123:=(u1.trans u2).trans u3;refine⟨a,_,rfl,SqL.of (u123 _ _ ha2),λq4 h4=>?_⟩;rw[show((k:Int)+1)=((k+1:Nat):Int) by lia,eN] at *;have u4:=Ag (o:=.lst (((Ay ds).map V.int).drop (k+1))) h4;apply⟨q3,q4,_,_,rfl,rfl,u4 _ _ Ac,Ac,?_,λq5 h5=>?_⟩
  ·rw[fe,f7,jh,hle]
   exact few (by simp only[gu,jq];lia)
  have u5:=(u123.trans u4).trans (Ag (o:=.lst (((Ay ds).map V.int).take k++[x]++((Ay ds).map V.int).drop (k+1))) h5);exact finX k (k+1) _ q5 _ (by lia) (ux.trans u5) (hxA.same u5) Ac
inductive Ph (K:eh)(CB CC CL:fg)(ts:List Tb)(vs:List V)(H:Hp)(Q:VK)(E:XK):Prop|mk(x:fg)(ds:Za4)(z:Str)(k i:V)(_:vs=[.ref x,.str z,k,i])(_:Gx K CB CC CL H x ds)(_:Tbs ts H)(_:Any K H k)(_:Any K H i)(_:((NoK k ds.length/\z≠"level"/\∀H',SmT ts H H'->Q (.str "knot") H')\/(Nt i/\(z="level"\/(z="nth"/\inI k 0 ((ds.length:Int)-1)=true)\/(z="level_of"/\inI k 0 ((ds.length:Int)-1)=true))/\∀H',SmT ts H H'->Q (.str "place") H')))
variable (bf:Ac0 P w K mg base "_law_class" 1 ["_law_e"] (lL K ah am ai))
include T ae aT ba be bf in
theorem Sd (F:Fun K "_law_refused" "_law_refused" Ia f fd)(cj:Mb P w K mg base aa "level_of" 4 ["self","k","deep"] (W5 K ag ad aa ah am))(ck:Mb P w K mg base aa "level" 4 ["self","deep"] (Z1 K am))(cm:Mb P w K mg base aa "elder" 5 ["self","k"] (Dk K ag ad aa ah))(cn:Mb P w K mg base aa "first" 9 ["self","k"] (Xv K ag ad aa ah ts))(cp:Mb P w K mg base aa "last" 8 ["self","k"] (Xv K ag ad aa ah ts))(cq:Mb P w K mg base aa "left" 6 ["self","k"] (Dk K ag ad aa ah))(cr:Mb P w K mg base aa "right" 5 ["self","k"] (Dk K ag ad aa ah))(cu:Mb P w K mg base aa "beneath" 4 ["self","k"] (Dk K ag ad aa ah))(cw:Mb P w K mg base aa "depth" 4 ["self","k"] (Dk K ag ad aa ah)):As P w K mg base CX0 10 f fd ["_law_wood_here","_law_word","_law_k","_law_i"] (Ph K ag ad aa ts):=by
  exists F.ok Fe
  obtain ⟨x, ds, z, k, i, rfl, hL, hT, hA, hI, hq⟩ := h;obtain ⟨dx, b, c, s, g, v, w, d, kvs, h⟩ := id hL;have hx := h.hx;obtain ⟨ans, Cx, hCx, hq2⟩ : ∃ (ans : Str) (Cx : fg), ((Cx = ah/\ans = "knot")\/(Cx = am/\ans = "place"))/\((∀ H', SmT ts H H'->Q (.str ans) H')/\((Cx = ah/\NoK k ds.length/\z ≠ "level")\/(Cx = am/\Nt i/\(z = "level"\/(z = "nth"/\inI k 0 ((ds.length : Int) - 1) = true)\/(z = "level_of"/\inI k 0 ((ds.length : Int) - 1) = true))))) := by
    rcases hq with ⟨a1, a2, a3⟩ | ⟨a1, a2, a3⟩
    · exact ⟨_, _, .inl ⟨rfl, rfl⟩, a3, .inl ⟨rfl, a1, a2⟩⟩
    · exact ⟨_, _, .inr ⟨rfl, rfl⟩, a3, .inr ⟨rfl, a1, a2⟩⟩
  obtain ⟨q, hq2⟩ := hq2;refine ⟨_, (Ab (tst 4 Fe.nd Ar)
    (Ab (rS (i := 5) rfl rfl rfl Fe.nd rfl rfl rfl T.dA (λE pins G => (At (Dv (ttc Cj (pv 1) Ar) (At (Bz (De ba hr.m Ch (pv 0) (tpa (pv 2) (tpa (pv 3) Aa)))))
    (At (Dv (ttc Cj (pv 1) Ar) (At (Bz (De cj hr.m Ch (pv 0) (tpa (pv 2) (tpa (pv 3) Aa)))))
    (At (Dv (ttc Cj (pv 1) Ar) (At (Bz (De ck hr.m Ch (pv 0) (tpa (pv 3) Aa))))
    (At (Dv (ttc Cj (pv 1) Ar) (At (Bz (De be hr.m Ch (pv 0) (tpa (pv 2) Aa))))
    (At (Dv (ttc Cj (pv 1) Ar) (At (Bz (De cm hr.m Ch (pv 0) (tpa (pv 2) Aa))))
    (At (Dv (ttc Cj (pv 1) Ar) (At (Bz (De cn hr.m Ch (pv 0) (tpa (pv 2) Aa))))
    (At (Dv (ttc Cj (pv 1) Ar) (At (Bz (De cp hr.m Ch (pv 0) (tpa (pv 2) Aa))))
    (At (Dv (ttc Cj (pv 1) Ar) (At (Bz (De cq hr.m Ch (pv 0) (tpa (pv 2) Aa))))
    (At (Dv (ttc Cj (pv 1) Ar) (At (Bz (De cr hr.m Ch (pv 0) (tpa (pv 2) Aa))))
    (At (Dv (ttc Cj (pv 1) Ar) (At (Bz (De aT hr.m Ch (pv 0) (tpa (pv 2) Aa))))
    (At (Dv (ttc Cj (pv 1) Ar) (At (Bz (De cu hr.m Ch (pv 0) (tpa (pv 2) Aa))))
    (At (Bz (De cw hr.m Ch (pv 0) (tpa (pv 2) Aa)))))))))))))))))))))))))))
    (λe => (Af (tst 4 Fe.nd (uL bf (hr.mono (by decide : 1 <= _)).mark (tpa (pv 5) Aa))))))
    (Af (An (pv 4))))), ?_⟩
  apply ⟨λC od H' => SmT ts H H'/\od = none/\C = .ref Cx, ?_, ?_⟩
  · have fin : ∀ {H' : Hp}, SmT ts H H'->SmT ts H H'/\(none : Option fg) = none/\je Cx = .ref Cx := λs => ⟨s, rfl, rfl⟩
    have fin0 := fin (SmT.refl hT);k_is;rcases hq2 with ⟨rfl, hb, hz⟩ | ⟨rfl, hb, hz⟩
    · iterate 11
        refine Cg (λhw => ?_) (λ_ => ?_)
        · first
            | exact absurd (V.str.inj hw) hz
            | (k_is
               refine ⟨x, dx, _, rfl, hx, rfl, ?_⟩;k_is
               first | exact ⟨x, ds, k, rfl, hL, hA, hb, fin0⟩ | exact ⟨hT, x, ds, k, rfl, hL, hA, hb, fin0⟩ | exact ⟨x, ds, k, i, rfl, hL, hT, hA, hI, .inl ⟨hb, fin0⟩⟩ | exact ⟨x, ds, k, i, rfl, hL, hA, hI, .inl ⟨hb, fin0⟩⟩ | exact ⟨x, ds, k, rfl, hL, hT, hA, λh => (hb.no h).elim, λ_ => fin0⟩)
        k_is
      refine ⟨x, dx, _, rfl, hx, rfl, ?_⟩;k_is;exact ⟨x, ds, k, rfl, hL, hA, hb, fin0⟩
    · rcases hz with rfl | ⟨rfl, hg⟩ | ⟨rfl, hg⟩
      · refine Cg (λh => absurd h (by decide)) (λ_ => ?_)
        apply Cg (λh => absurd h (by decide)) (λ_ => ?_);apply Cg (λ_ => ?_) (λh => absurd rfl h);apply ⟨x, dx, _, rfl, hx, rfl, ?_⟩;k_is;exact ⟨_, i, rfl, hI, hb, fin0⟩
      · refine Cg (λ_ => ?_) (λh => absurd rfl h)
        apply ⟨x, dx, _, rfl, hx, rfl, ?_⟩;k_is;exact ⟨x, ds, k, i, rfl, hL, hT, hA, hI, .inr ⟨hg, hb, λH' s' => fin s'⟩⟩
      · refine Cg (λh => absurd h (by decide)) (λ_ => ?_)
        apply Cg (λ_ => ?_) (λh => absurd rfl h);apply ⟨x, dx, _, rfl, hx, rfl, ?_⟩;k_is;exact ⟨x, ds, k, i, rfl, hL, hA, hI, .inr ⟨hg, hb, fin0⟩⟩
  · rintro C od H' e ⟨sH, rfl, hC2⟩ he
    obtain rfl : C = Cx := AX hC2;have em : exmOne K (.ref C) (.ref ao) = some true := by
      rcases hCx with ⟨rfl, _⟩ | ⟨rfl, _⟩
      · exact T.cV
      · exact T.cW
    refine ⟨em, ?_⟩;k_is;rcases hCx with ⟨rfl, rfl⟩ | ⟨rfl, rfl⟩
    · refine ⟨e, _, none, rfl, Ac, .inl ⟨rfl, λH2 s2 => ?_⟩⟩
      k_is;exact q H2 ((sH.then (Ag he)).then s2)
    · refine ⟨e, _, none, rfl, Ac, .inr (.inl ⟨rfl, λH2 s2 => ?_⟩)⟩
      k_is;exact q H2 ((sH.then (Ag he)).then s2)
inductive eQ (K:eh)(ts:List Tb)(vs:List V)(H:Hp)(Q:VK)(E:XK):Prop|mk(v:V)(o:Option (List V))(_:vs=[v])(_:ThA K H v o)(_:(∀ds,Mh o ds->ds.length<3000))(_:Tbs ts H)(_:((∃ds,Mh o ds)->∀H',SmT ts H H'->Q .non H'))(_:(∀k:Nat,K6 o k->∀p H',Ak H H'->H p=none->H' p=some (.tup [.str "wood",.int k])->Q (.ref p) H'))
variable (bg:uT P w K mg base "Levelled" aa 9 ["self","elders"] (jE K ag ad aa ai ts))
include T bf bg in
theorem Zd (F:Fun K "_law_made" "_law_made" Mz f fd):As P w K mg base CX0 11 f fd ["_law_things"] (eQ K ts):=by
 exists F.ok Gh
 obtain⟨v,o,rfl,hT,hsm,hTb,q1,q2⟩:=h;refine⟨_,(Ab (tst 1 Gh.nd Gw) (Ab (rS (i:=2) rfl rfl rfl Gh.nd rfl rfl rfl T.dA (λE pins G=>(At (Bz (qB bg hr.m Ch (tpa (pv 0) Aa))))) (λe=>(Ab (tst 1 Gh.nd (Gn (tpa Ar (tpa Ad Aa)))) (Af (Bt (PW.pt (My (ttc Cj (uL bf (hr.mono (by decide:1<=_)).mark (tpa (pv 2) Aa)) Ar) (Jy (E8 (Cw (Am (gP K) (by rfl) T.cH Ba (tpa (Uu K (pv 2)) (tpa (Hu (v:=.ty "bool") rfl T.dn iS rfl) Aa)))))))) (Af (tst 1 Gh.nd (Gn (tpa Ar (tpa (Uu K (pv 2)) Aa)))))
  Ax))))) (Af (An (pv 1))))),?_⟩
 apply⟨λC od H'=>Ak H H'/\C=.ref ai/\∃(dx:fg) (k:Nat),od=some dx/\H' dx=some (.xd [("place",.int (k:Nat))])/\K6 o k,?_,?_⟩
 ·k_is
  intro x dx hx hdx hne;refine⟨x,dx,v,o,rfl,Ac,hT.same (Gf hx hdx),hsm,hTb.same (Gf hx hdx),λds hG H1 s1 hO=>⟨rfl,?_⟩,λk hk dy H' s1 _ hy=>⟨(Gf hx hdx).trans s1,rfl,dy,k,rfl,hy,hk⟩⟩;k_is;exact q1 ⟨ds,hG⟩ H1 (SmB.made hx hdx s1)
 ·rintro C od H' e ⟨sH,hC,dx,k,rfl,hx,hF⟩ he
  have hC:=AX hC;rw[hC] at *;have t1:=Ag (o:=O7 e ai (some dx)) he;have s1:=sH.trans t1;have he1:=@Ac H' e (O7 e ai (some dx));have hx1:=t1 _ _ hx;generalize upd H' e _=H1 at *;refine⟨T.cS,?_⟩;obtain⟨fo,O⟩:=T.dC;apply⟨few (by simp),λp0 hp0=>?_⟩;have u0:=Ag (o:=.tup [V.str ("odd":Str),V.int 0]) hp0;have he2:=u0 _ _ he1;have hx2:=u0 _ _ hx1;have s2:=s1.trans u0;generalize upd H1 p0 _=H2 at *;apply⟨e,ai,some dx,rfl,he2,.inr (.inr ⟨rfl,λH3 s3=>?_⟩)⟩;have he3:=s3 _ _ he2;have hx3:=s3 _ _ hx2;apply Cg (λ_=>?_) (λh=>absurd rfl h);apply⟨e,ao,ai,fo,dx,_,k,rfl,he3,O,T.cZ,hx3,rfl,?_⟩;apply⟨_,_,_,_,rfl,.int _,Wf,?_⟩;apply⟨e,ao,ai,fo,dx,_,k,rfl,he3,O,T.cZ,hx3,rfl,?_⟩;apply⟨few (by simp),λp1 hp1=>?_⟩;k_is;exact q2 k hF p1 _ ((s2.trans s3).trans (Ag hp1)) ((s2.trans s3).free hp1) Ac
theorem Ab7 {K:eh}{a:fg}{kvs:List (Key×V)}(h:H a=some (.dK kvs)):Any K H (.ref a):=⟨_,false,false,.dK h,by rfl,by rfl,rfl⟩
inductive Ut (K:eh)(vs:List V)(H:Hp)(Q:VK)(E:XK):Prop|mk(n r:Nat)(_:vs=[.int n,.int r])(_:∀x H',Ak H H'->Any K H' x->NoK x n->Q x H')
include T in
theorem P0 (F:Fun K "_law_no_knots" "_law_no_knots" Hf f fd):As P w K mg base CX0 1 f fd ["_law_many","_law_number"] (Ut K):=by
 exists F.ok J7
 obtain⟨n,r,rfl,q⟩:=h;refine⟨_,(uN.h (Ra (sA (i:=2) J7.nd rfl (DJ rfl) (tP (Hj (Cy Bw Ad) (Hj (pv 0) (Hj (Ah A7 (pv 0) (Ah Xc Ad Ad)) (Hj Gw (Hj Fd (Hj Ar (Hj (Gn (tpa Ad Aa)) (Hj (A8 (tpa Ad Aa)) (Hj Rp (Hj Fd rN rfl) rfl) rfl) rfl) rfl) rfl) rfl) rfl) rfl) rfl))) (uH (si (An (tix B2 (pv 2) (Ah Cf (pv 1) Ad))))))),?_⟩
 apply⟨10,20,rfl,rfl,⟨by decide,by decide,by decide⟩,?_⟩;apply⟨few (by simp),λpt ht=>?_⟩;obtain⟨ut,ht1⟩:=Au (o:=.tup [V.int 0]) ht;generalize upd H pt _=H1 at *;apply⟨few (by simp),λpz hz=>?_⟩;obtain⟨uz,hz1⟩:=Au (o:=.lst [V.int 0]) hz;have ht1:=uz _ _ ht1;have s2:=ut.trans uz;generalize upd H1 pz _=H2 at *;k_is;intro pd hd;obtain⟨ud,hd1⟩:=Au (o:=.dK []) hd;have ht1:=ud _ _ ht1;have hz1:=ud _ _ hz1;have s3:=s2.trans ud;generalize upd H2 pd _=H3 at *;apply⟨few (by simp),λpl hl=>?_⟩;have hbig:(0:Int)<=10 ^ xl 20:=by decide
 generalize (10:Int) ^ xl 20=big at *;generalize hL:[V.int (-1),V.int (n:Int),V.int ((n:Int)+big),V.non,V.bl true,V.str ("0":Str),V.ref pt,V.ref pz,V.ref pd,V.bl false]=L at *;have hLl:L.length=10:=by rw[<-hL];rfl
 obtain⟨ul,hl2⟩:=Au (o:=.lst L) hl;have ht2:=ul _ _ ht1;have hz2:=ul _ _ hz1;have hd2:=ul _ _ hd1;have s4:=s3.trans ul;generalize upd H3 pl _=H4 at *;have hA:∀x∈L,Any K H4 x/\NoK x n:=λx hx=>by
  rw[<-hL] at hx;simp only[i9,mq,or_false] at hx;have nI:∀j:Int,(j<0\/(n:Int)<=j)->NoK (.int j) n:=λj hj=>by
   unfold NoK;rw[Ro];rcases hj with hj|hj
   ·rw[decide_eq_false (show ¬ 0<=j by lia)]
    rfl
   ·rw[decide_eq_false (show ¬ j<=(n:Int)-1 by lia),IK]
  rcases hx with rfl|rfl|rfl|rfl|rfl|rfl|rfl|rfl|rfl|rfl
  ·exact⟨B5 _,nI _ (by lia)⟩
  ·exact⟨B5 _,nI _ (by lia)⟩
  ·exact⟨B5 _,nI _ (by lia)⟩
  ·exact⟨Ws,rfl⟩
  ·exact⟨Oj _,rfl⟩
  ·exact⟨Wm _,rfl⟩
  ·exact⟨kU ht2,rfl⟩
  ·exact⟨Wx hz2,rfl⟩
  ·exact⟨Ab7 hd2,rfl⟩
  ·exact⟨Oj _,rfl⟩
 obtain⟨i,hi,hi1⟩:=Gg (r:Int) 9;have hi:(r:Int)%10=(i:Int):=hi;obtain⟨x,hx⟩:∃x,L[i]?=some x:=⟨_,fc (by lia)⟩;obtain⟨hxA,hxN⟩:=hA x (gg hx);k_is;rw[hi];refine Cv (SqL.of hl2) (Bl hx) ?_;exact q x H4 s4 hxA hxN
inductive Su (K:eh)(vs:List V)(H:Hp)(Q:VK)(E:XK):Prop|mk(r:Int)(_:vs=[.int r])(_:∀x H',Ak H H'->Any K H' x->Nt x->Q x H')
include T in
theorem O1 (F:Fun K "_law_no_number" "_law_no_number" Gq f fd):As P w K mg base CX0 1 f fd ["_law_number"] (Su K):=by
 exists F.ok Pd
 obtain⟨r,rfl,q⟩:=h;refine⟨_,(Af (An (tix B2 (A8 (tpa (Cy Bw Ad) (tpa (Cy Bw (Ah Xc Ad Ad)) (tpa Gw (tpa Fd (tpa Ar (tpa (Gn (tpa Ad Aa)) (tpa (A8 Aa) (tpa Fd Aa))))))))) (Ah Cf (pv 0) Ad)))),?_⟩;apply⟨10,20,rfl,rfl,⟨by decide,by decide,by decide⟩,?_⟩;apply⟨few (by simp),λpt ht=>?_⟩;obtain⟨ut,ht1⟩:=Au (o:=.tup [V.int 1]) ht;generalize upd H pt _=H1 at *;apply⟨i6 _,λpz hz=>?_⟩;obtain⟨uz,hz1⟩:=Au (o:=.lst []) hz;have ht1:=uz _ _ ht1;have s2:=ut.trans uz;generalize upd H1 pz _=H2 at *;apply⟨few (by simp),λpl hl=>?_⟩;have hbig:(0:Int)<10 ^ xl 20:=by decide
 generalize (10:Int) ^ xl 20=big at *;generalize hL:[V.int (-1),V.int (-big),V.non,V.bl true,V.str ("1":Str),V.ref pt,V.ref pz,V.bl false]=L at *;have hLl:L.length=8:=by rw[<-hL];rfl
 obtain⟨ul,hl2⟩:=Au (o:=.lst L) hl;have ht2:=ul _ _ ht1;have hz2:=ul _ _ hz1;have s4:=s2.trans ul;generalize upd H2 pl _=H4 at *;have hA:∀x∈L,Any K H4 x/\Nt x:=λx hx=>by
  rw[<-hL] at hx;simp only[i9,mq,or_false] at hx;have nI:∀j:Int,j<0->Nt (.int j):=λj hj i e=>by
   rw[<-V.int.inj e];exact hj
  rcases hx with rfl|rfl|rfl|rfl|rfl|rfl|rfl|rfl
  ·exact⟨B5 _,nI _ (by lia)⟩
  ·exact⟨B5 _,nI _ (by lia)⟩
  ·exact⟨Ws,λ_ e=>nomatch e⟩
  ·exact⟨Oj _,λ_ e=>nomatch e⟩
  ·exact⟨Wm _,λ_ e=>nomatch e⟩
  ·exact⟨kU ht2,λ_ e=>nomatch e⟩
  ·exact⟨Wx hz2,λ_ e=>nomatch e⟩
  ·exact⟨Oj _,λ_ e=>nomatch e⟩
 obtain⟨i,hi,hi1⟩:=Gg r 7;have hi:r%8=(i:Int):=hi;obtain⟨x,hx⟩:∃x,L[i]?=some x:=⟨_,fc (by lia)⟩;obtain⟨hxA,hxN⟩:=hA x (gg hx);k_is;rw[hi];refine Cv (SqL.of hl2) (Bl hx) ?_;exact q x H4 s4 hxA hxN
abbrev wA:List V:=[V.str ("elder":Str),V.str ("first":Str),V.str ("last":Str),V.str ("left":Str),V.str ("right":Str),V.str ("many":Str)]
abbrev wB:List V:=[V.str ("beneath":Str),V.str ("depth":Str),V.str ("nth":Str),V.str ("level_of":Str),V.str ("child_place":Str)]
include T ae aI aW bg in
theorem Ab3 (F:Fun K "law" "law" Vj f fd)(cx:Cal P w K mg base "_law_wood" 3 ["_law_script","_law_most","_law_large"] (lQ K))(cy:Cal P w K mg base "_law_no_knots" 1 ["_law_many","_law_number"] (Ut K))(bi:Cal P w K mg base "_law_no_number" 1 ["_law_number"] (Su K))(bj:Cal P w K mg base "_law_refused" 10 ["_law_wood_here","_law_word","_law_k","_law_i"] (Ph K ag ad aa ts))(cz:Cal P w K mg base "_law_spoilt" 1 ["_law_elders","_law_number"] (Uy K))(cA:Cal P w K mg base "_law_bar" 1 ["_law_things"] (zP K))(bn:Cal P w K mg base "_law_made" 11 ["_law_things"] (eQ K ts))(cC:Mth P w K mg base aa "elders" 7 ["self"] (Vk K ag ad aa ts)):As P w K mg base CX0 12 f fd ["_law_script"] (kM K ts):=by
 exists F.ok D5
 obtain⟨a,ns,rfl,hS,hlen,hT,q⟩:=h;refine⟨_,(Ab (tst 1 D5.nd (Aw cx hr.m (tpa (pv 0) (tpa Ad (tpa Ad Aa))))) (Ab (tst 2 D5.nd (Am Aq (by rfl) T.cD C7 (tpa (pv 1) Aa))) (Ab (tst 3 D5.nd (Acd bg hr.m Abd (tpa (Es Jv (by rfl) T.di Wl (tpa (pv 1) Aa)) Aa))) (Ab (tst 4 D5.nd (A8 (tpa Ar (tpa Ar (tpa Ar (tpa Ar (tpa Ar (tpa Ar Aa)))))))) (Ab (tst 4 D5.nd (Ah E1 (pv 4) (A8 (tpa Ar (tpa Ar (tpa Ar (tpa Ar (tpa Ar Aa)))))))) (Ab (Dy ja rfl (Rh rfl T.dh (tpa (pv 4) Aa)) (R1 rfl (Eh (tgn 5 D5.nd) (Eh (tgn 6 D5.nd) Nz))) (Ab (tst 7 D5.nd (Aw aW hr.m (tpa (Aw aI hr.m (tpa (pv 0) (tpa Ad Aa))) (tpa (Ah A7 Ad (pv 5)) Aa)))) (Ab (tst 8 D5.nd (Aw cy hr.m (tpa (pv 2) (tpa (pv 7) Aa)))) (Ab (Bt (ttc Pq (Aw bj hr.m (tpa (pv 3) (tpa (pv 6) (tpa (pv 8) (tpa (Aw bi hr.m (tpa (Ah Cm (pv 7) Ad) Aa)) Aa))))) Ar) (Af (An Fd))
  Ax) (Ab (Bt (ttc Pq (Aw bj hr.m (tpa (pv 3) (tpa Ar (tpa Ad (tpa (Aw bi hr.m (tpa (Ah Cm (pv 7) Ad) Aa)) Aa))))) Ar) (Af (An Fd))
  Ax) (Ab (tst 9 D5.nd (tix B2 (A8 (tpa Ar (tpa Ar Aa))) (Ah Cf (pv 5) Ad))) (Ab (tst 10 D5.nd (Aw bi hr.m (tpa (pv 7) Aa))) (Af (Bt (PW.pt (My (ttc Jb (pv 2) Ad) (Jy (ttc Pq (Aw bj hr.m (tpa (pv 3) (tpa (pv 9) (tpa (Ah Cf (pv 7) (pv 2)) (tpa (pv 10) Aa))))) Ar)))) (Af (An Fd))
  Ax))))))))) (Ab (Dy ja rfl (Fp rfl T.cI (tpa Ad Aa)) (tgn 5 D5.nd) (Ab (tst 11 D5.nd (Aw cz hr.m (tpa (pv 1) (tpa (Aw aW hr.m (tpa (Aw aI hr.m (tpa (pv 0) (tpa Ad Aa))) (tpa (Ah A7 Ad (pv 5)) Aa))) Aa)))) (Ab (tst 12 D5.nd (Aw cA hr.m (tpa (pv 11) Aa))) (Ab (Bt (tN (xZ (pv 12))) (Af (tst 12 D5.nd (Gn (tpa Ar (tpa (pv 12) Aa)))))
  Ax) (Af (Bt (ttc (Ac3 (xC hr)) (Aw bn hr.m (tpa (pv 11) Aa)) (pv 12)) (Af (An Fd))
  Ax)))))) (Ab (Bt (ttc (iH (xC hr)) (Aw bn hr.m (tpa (tix B2 (A8 (tpa Gw (tpa (Es F4 (by rfl) T.dg Rf (tpa (pv 1) Aa)) (tpa Ar (tpa Ad (tpa Rp Aa)))))) (Ah Cf (Aw aI hr.m (tpa (pv 0) (tpa Ad Aa))) Ad)) Aa)) (Gn (tpa Ar (tpa Ad Aa)))) (Af (An Fd))
  Ax) (Ab (Bt (PW.pt (My (ttc Cj (Ah Cf (Ah Cm (Aw aI hr.m (tpa (pv 0) (tpa Ad Aa))) Ad) Ad) Ad) (Jy (ttc (iH (xC hr)) (Aw bn hr.m (tpa (Ah Ox (A8 (tpa (Cy Bw Ad) Aa)) Ad) Aa)) (Gn (tpa Ar (tpa Ad Aa))))))) (Af (An Fd))
  Ax) (Af (An (tpc (Acu (xC hr)) (gY cC hr.m (pv 3)) (pv 1))))))))))))),?_⟩
 apply⟨a,ns,120,rfl,hS,by lia,λp ds H1 s1 hp0 hp hD hl=>?_⟩;have hel:(Ay ds).length=ds.length:=Bu ds;apply⟨p,_,rfl,.inl (SqL.of hp),?_⟩;rw[fb,hel];apply⟨p,_,rfl,.inl (SqL.of hp),λp4 hp4=>?_⟩;obtain⟨t4,hp44⟩:=Au (o:=.lst ((Ay ds).map V.int)) hp4;have hp2:=t4 _ _ hp;have s2:=s1.trans t4;generalize upd H1 p4 _=H2 at *;k_is;intro x dx hx hdx hxd;refine⟨x,dx,.ref p4,_,rfl,Ac,(uY hp44 (by lia)).same (Gf hx hdx),λds2 hG=>(by rw[Vr hD hG];lia),(hT.same s2).same (Gf hx hdx),λds2 hG H3 s3 hC=>⟨rfl,?_⟩,mZ (pA hD (by lia))⟩;obtain rfl:=(Vr hD hG).symm;have s3:=SmB.made hx hdx s3;have hp3:=s3.k hp2;have s03:=(SmT.of hT s2).trans s3;apply⟨few (by simp),λw1 hw1=>?_⟩;obtain⟨u1,g1⟩:=Au (o:=.lst wA) hw1;generalize upd H3 w1 _=H6 at *;apply⟨few (by simp),λw4 hw4=>?_⟩;obtain⟨u4,g4⟩:=Au (o:=.lst wB) hw4;have g1:=u4 _ _ g1;generalize upd H6 w4 _=H7 at *;refine⟨w1,w4,_,_,rfl,rfl,g1,g4,few (by simp),λw5 hw5=>?_⟩;simp only[lh,ju];obtain⟨zs,hzs,hzl⟩:∃zs:Za6,zs.map V.str=[V.str ("elder":Str),V.str ("first":Str),V.str ("last":Str),V.str ("left":Str),V.str ("right":Str),V.str ("many":Str),V.str ("beneath":Str),V.str ("depth":Str),V.str ("nth":Str),V.str ("level_of":Str),V.str ("child_place":Str)]/\zs.length=11/\∀z∈zs,z≠("level":Str):=⟨["elder","first","last","left","right","many","beneath","depth","nth","level_of","child_place"],rfl,rfl,by decide⟩;obtain⟨hzl,hzn⟩:=hzl;rw[<-hzs];obtain⟨u5,g5⟩:=Au (o:=.lst (zs.map V.str)) hw5;have u38:=(u1.trans u4).trans u5;have s08:=s03.then u38;have hC8:=hC.same s3.ok u38;have hp8:=u38 _ _ hp3;have hS8:=s08.sm.seq hS;have hT8:=s08.ok;generalize upd H7 w5 _=H8 at *;clear u1 u4 u5 u38 g1 g4 hzs;apply⟨w5,rfl,⟨_,SqL.of g5⟩,?_⟩;refine Nv (xs:=zs.map V.str) (λj G H'=>(∃v5 v6 v7 v8 v9 v10 v11 v12:Option V,G=[some (.ref a),some (.ref p),some (.int (ds.length:Nat)),some (.ref x),some (.ref w5),v5,v6,v7,v8,v9,v10,v11,v12])/\SmT ts H8 H') ⟨⟨_,_,_,_,_,_,_,_,rfl⟩,SmT.refl hT8⟩ (λj G H' _ h=>SqL.of (h.2.k g5)) ?_ ?_
 ·rintro j y G H9 t hy ⟨⟨v5,v6,v7,v8,v9,v10,v11,v12,rfl⟩,sm⟩ ht
  have hj:=Ff hy;rw[fb,hzl] at hj;obtain⟨z,hzm,rfl⟩:=jl.mp (gg hy);have sm:=sm.then (Ag (o:=.tup [.int j,.str z]) ht);generalize upd H9 t _=H10 at *;apply⟨a,ns,2,rfl,sm.sm.seq hS8,λc=>?_⟩;apply⟨c,100+j,by rw[show((100+j:Nat):Int)=100+(j:Int) by lia];rfl,by lia,λr hr=>?_⟩;apply⟨ds.length,r,rfl,λkn H11 s11 hAk hNk=>?_⟩;apply⟨_,rfl,λnn H12 s12 hAn hNn=>?_⟩;have sm:=(sm.then s11).then s12;apply⟨x,ds,z,kn,nn,rfl,hC8.sm sm,sm.ok,hAk.same s12,hAn,.inl ⟨hNk,hzn z hzm,λH13 s13=>?_⟩⟩;have sm:=sm.trans s13;apply⟨_,rfl,?_⟩;apply⟨_,rfl,λn2 H14 s14 hA2 hN2=>?_⟩;have sm:=sm.then s14;apply⟨x,ds,"level",.int 0,n2,rfl,hC8.sm sm,sm.ok,B5 _,hA2,.inr ⟨hN2,.inl rfl,λH15 s15=>?_⟩⟩;have sm:=sm.trans s15;apply⟨few (by simp),λlt hlt=>?_⟩;obtain⟨ut,hlt1⟩:=Au (o:=.lst [V.str ("nth":Str),V.str ("level_of":Str)]) hlt;have sm:=sm.then ut;generalize upd H15 lt _=H16 at *;obtain⟨tw,htw,htz⟩:∃tw:Str,atI [V.str ("nth":Str),V.str ("level_of":Str)] ((j:Int)%2)=some (V.str tw)/\(tw="nth"\/tw="level_of"):=by
   rcases(show(j:Int)%2=0\/(j:Int)%2=1 by lia) with e|e
   ·rw[e]
    exact⟨_,rfl,.inl rfl⟩
   ·rw[e]
    exact⟨_,rfl,.inr rfl⟩
  apply Cv (SqL.of hlt1) htw ?_;apply⟨_,rfl,λod H17 s17 hAo hNo=>?_⟩;have sm:=sm.then s17;apply Cg (λhpos=>?_) (λ_=>?_)
  ·apply Yw (by lia) ?_;obtain⟨k,hk,hk1⟩:∃k:Nat,(r:Int)%(ds.length:Int)=(k:Int)/\k<ds.length:=⟨r%ds.length,by lia,va _ (by lia)⟩;rw[hk];k_is;have hg:inI (.int (k:Int)) 0 ((ds.length:Int)-1)=true:=by
    rw[Ro,decide_eq_true (show(0:Int)<=k by lia),decide_eq_true (show(k:Int)<=(ds.length:Int)-1 by lia)];rfl
   refine⟨x,ds,tw,.int k,od,rfl,hC8.sm sm,sm.ok,B5 _,hAo,.inr ⟨hNo,htz.elim (λe=>.inr (.inl ⟨e,hg⟩)) (λe=>.inr (.inr ⟨e,hg⟩)),λH18 s18=>?_⟩⟩;k_is;exact⟨⟨_,_,_,_,_,_,_,_,rfl⟩,sm.trans s18⟩
  ·k_is
   exact⟨⟨_,_,_,_,_,_,_,_,rfl⟩,sm⟩
 ·rintro G H9 ⟨⟨v5,v6,v7,v8,v9,v10,v11,v12,rfl⟩,sm9⟩
  apply⟨6,rfl,by decide,by decide,?_⟩;refine Jc (λj G H'=>(∃v5 v6 v7 v8 v9 v10 v11 v12:Option V,G=[some (.ref a),some (.ref p),some (.int (ds.length:Nat)),some (.ref x),some (.ref w5),v5,v6,v7,v8,v9,v10,v11,v12])/\SmT ts H8 H') ⟨⟨_,_,_,_,_,_,_,_,rfl⟩,sm9⟩ ?_ ?_
  ·rintro j G H10 hj ⟨⟨v5,v6,v7,v8,v9,v10,v11,v12,rfl⟩,sm⟩
   have hj:j<6:=hj;apply⟨a,ns,2,rfl,sm.sm.seq hS8,λc=>?_⟩;apply⟨c,120+j,by rw[show((120+j:Nat):Int)=120+(0+(j:Int)) by lia];rfl,by lia,λr hr=>?_⟩;apply⟨p,ds,r,rfl,sm.k hp8,by lia,λps xs H11 s11 hps hA hlx=>?_⟩;apply⟨ps,xs,rfl,hps,hA,by lia,λrr H12 hR s12=>?_⟩;have sm:=(sm.then s11).then s12;have hps:=s12 _ _ hps;have hTh:ThA K H12 (.ref ps) (some xs):=⟨ps,rfl,hps,λy hy=>(hA y hy).same s12,by lia⟩;rcases hR with⟨rfl,ds2,hG⟩|⟨k,rfl,hF⟩
   ·apply⟨.ref ps,some xs,rfl,hTh,λds3 hG3=>?_,sm.ok,λ_ H13 s13=>?_,λk hk=>(Et hk hG).elim⟩
    ·have e:=congrArg n6 hG3.2.2
     rw[fb,Bu] at e;lia
    apply .inl ⟨rfl,rfl,?_⟩;k_is;exact⟨⟨_,_,_,_,_,_,_,_,rfl⟩,sm.trans s13⟩
   ·apply⟨few (by simp),λpt hpt=>?_⟩;obtain⟨ut,ht1⟩:=Au (o:=.tup [V.str ("wood":Str),V.int (k:Int)]) hpt;have hTh:=hTh.same ut;have sm:=sm.then ut;generalize upd H12 pt _=H13 at *;apply⟨.ref ps,some xs,rfl,hTh,λds3 hG3=>(Et hF hG3).elim,sm.ok,λ⟨ds3,hG3⟩=>(Et hF hG3).elim,λk2 hk2 pm H14 s14 _ hpm=>?_⟩;obtain rfl:=Pe hF hk2;apply .inr (gN (C6.tups (SqT.of hpm) (SqT.of (s14 _ _ ht1)) rfl) ?_);k_is;exact⟨⟨_,_,_,_,_,_,_,_,rfl⟩,sm.then s14⟩
  ·rintro G H10 ⟨⟨v5,v6,v7,v8,v9,v10,v11,v12,rfl⟩,sm⟩
   apply⟨p,_,rfl,.inl ⟨SqL.of (sm.k hp8),λpt hpt=>?_⟩⟩;obtain⟨ut,ht1⟩:=Au (o:=.tup ((Ay ds).map V.int)) hpt;have sm:=sm.then ut;generalize upd H10 pt _=H11 at *;k_is;intro pd hd;obtain⟨ud,hd1⟩:=Au (o:=.dK []) hd;have ht1:=ud _ _ ht1;have sm:=sm.then ud;generalize upd H11 pd _=H12 at *;apply⟨few (by simp),λpl hl0=>?_⟩;generalize hL:[V.non,V.ref pt,V.str ("":Str),V.int 5,V.ref pd]=Lx at *;have hLl:Lx.length=5:=by rw[<-hL];rfl
   obtain⟨ul,hl2⟩:=Au (o:=.lst Lx) hl0;have ht1:=ul _ _ ht1;have hd1:=ul _ _ hd1;have sm:=sm.then ul;generalize upd H12 pl _=H13 at *;have hNo:∀y∈Lx,ThA K H13 y none:=λy hy=>by
    rw[<-hL] at hy;simp only[i9,mq,or_false] at hy;rcases hy with rfl|rfl|rfl|rfl|rfl
    ·exact⟨_,.non,by rfl⟩
    ·exact⟨_,.tup ht1,by rfl⟩
    ·exact⟨_,.str _,by rfl⟩
    ·exact⟨_,.int _,by rfl⟩
    ·exact⟨_,.dK hd1,by rfl⟩
   apply⟨a,ns,2,rfl,sm.sm.seq hS8,λc=>?_⟩;k_is;obtain⟨i,hi,hi1⟩:=Gg c 4;have hi:c%5=(i:Int):=hi;obtain⟨y,hy⟩:∃y,Lx[i]?=some y:=⟨_,fc (by lia)⟩;rw[hi];refine Cv (SqL.of hl2) (Bl hy) ?_;apply⟨y,none,rfl,hNo y (gg hy),λ_ h=>h.elim,sm.ok,λ⟨_,h⟩=>h.elim,λk hk pm H14 s14 _ hpm=>?_⟩;obtain rfl:k=0:=hk;have sm:=sm.then s14;apply⟨few (by simp),λpq hpq=>?_⟩;obtain⟨uq,hq1⟩:=Au (o:=.tup [V.str ("wood":Str),V.int 0]) hpq;have hpm:=uq _ _ hpm;have sm:=sm.then uq;generalize upd H14 pq _=H15 at *;refine gN (C6.tups (SqT.of hpm) (SqT.of hq1) rfl) ?_;apply⟨a,ns,2,rfl,sm.sm.seq hS8,λc2=>?_⟩;have fin:∀{H':Hp},SmT ts H8 H'->Q (.bl true) H':=λ_=>q _;have rep:∀n:Nat,(fu ((n:Int)).toNat [V.int (-1)]).flatten=(fu n (-1:Int)).map V.int:=λn=>by rw[i8];exact pZ n (-1)
   apply Cg (λ_=>?_) (λ_=>?_)
   ·apply⟨few (by simp),λl0 hl0=>?_⟩;obtain⟨x0,y0⟩:=Au (o:=.lst [V.int (-1)]) hl0;have sm:=sm.then x0;generalize upd H15 l0 _=H16 at *;apply⟨l0,((4001:Nat):Int),_,rfl,rfl,y0,by lia,by lia,jx (Ap (by simp)),λl1 hl1=>?_⟩;rw[rep 4001] at *;obtain⟨x1,y1⟩:=Au (o:=.lst ((fu 4001 (-1:Int)).map V.int)) hl1;have sm:=sm.then x1;generalize upd H16 l1 _=H17 at *;apply⟨.ref l1,some ((fu 4001 (-1:Int)).map V.int),rfl,⟨_,rfl,y1,λy hy=>by obtain⟨n,_,rfl⟩:=jl.mp hy;exact B5 n,by rw[fb,iz];lia⟩,λ_ h=>(Et Oo h).elim,sm.ok,λ⟨_,h⟩=>(Et Oo h).elim,λk hk pm H18 s18 _ hpm=>?_⟩;obtain rfl:=Pe Oo hk;have sm:=sm.then s18;apply⟨few (by simp),λpr hpr=>?_⟩;obtain⟨ur,hr1⟩:=Au (o:=.tup [V.str ("wood":Str),V.int 4000]) hpr;have hpm:=ur _ _ hpm;have sm:=sm.then ur;generalize upd H18 pr _=H19 at *;refine gN (C6.tups (SqT.of hpm) (SqT.of hr1) rfl) ?_;k_is;have hC9:=hC8.sm sm;obtain⟨dz,_,_,_,_,_,_,_,_,hz⟩:=id hC9;refine⟨x,dz,_,rfl,hz.hx,rfl,?_⟩;apply⟨x,ds,rfl,hC9,sm.ok,λpe H20 s20 _ hpe=>?_⟩;apply yT (SqL.of hpe) (SqL.of (s20.k (sm.k hp8))) ?_;rw[decide_eq_true rfl];exact q _
   ·k_is
    have hC9:=hC8.sm sm;obtain⟨dz,_,_,_,_,_,_,_,_,hz⟩:=id hC9;refine⟨x,dz,_,rfl,hz.hx,rfl,?_⟩;apply⟨x,ds,rfl,hC9,sm.ok,λpe H20 s20 _ hpe=>?_⟩;apply yT (SqL.of hpe) (SqL.of (s20.k (sm.k hp8))) ?_;rw[decide_eq_true rfl];exact q _
end
set_option maxHeartbeats 8000000 in
theorem all_mk:AllMk:=by
 intro l w K h mg fa X G hfa ag ad aq aa f0 od0 an0 sl0 oc0 kV0 dc0 pm0 cd0 ct0 f25 od25 an25 sl25 oc25 kV25 dc25 pm25 ct25 oo25 f32 od32 an32 sl32 oc32 kV32 dc32 pm32 cd32 ct32 T32 oT32 vT32 nT32 f35 od35 an35 sl35 oc35 kV35 dc35 pm35 ct35 oo35 aJ o_ONES_OF_FOUR i_ONES_OF_FOUR n_ONES_OF_FOUR aK o_SIGNS_OF_FOUR i_SIGNS_OF_FOUR n_SIGNS_OF_FOUR t_WORD_BITS t_MOST_BITS t_BLOCK_WORDS t_BLOCK_BITS t_FULL_WORD t_MOST_KNOTS t_MARK_STEP ao am ah ai au av ax az aA aB aC aD aE aF aG aH nm_NoWood qn_NoWood N_NoWood bs_NoWood sn_NoWood sub_NoWood ab_NoWood col_NoWood dd_NoWood k0_NoWood k1_NoWood k2_NoWood k3_NoWood k5_NoWood cd_Bits fd_Bits cd_Counts fd_Counts cd_Shortcuts fd_Shortcuts cd_Levelled fd_Levelled i0 a0 l0 c0 k0 g1 g2 g3 g4 g5 g6 g7 g8 g9 g10 g11 g12 g13 g14 g15 g16 g17 g18 g19 g20 g21 g22 g23 g24 i25 a25 l25 c25 k25 lc25 hc25 g26 g27 g28 g29 g30 g31 i32 a32 l32 c32 k32 lT32 dT32 eT32 g33 g34 a35 l35 c35 k35 lc35 hc35 g36 g37 g38 g39 g40 g41 g42 g43 g44 g45 g46 g47 g48 g49 g50 g51 g52 g53 g54 g55 g56 g57 g58 g59 g60 g61 g62 g63 g64 g65 g66 g67 g68 g69 g70 g71 g72 g73 cP o1_ONES_OF_FOUR o2_ONES_OF_FOUR o3_ONES_OF_FOUR o4_ONES_OF_FOUR o5_ONES_OF_FOUR cY o1_SIGNS_OF_FOUR o2_SIGNS_OF_FOUR o3_SIGNS_OF_FOUR o4_SIGNS_OF_FOUR o5_SIGNS_OF_FOUR cJ cU cM cT cX cR cK z_range z_len z_int z_bool z_str z_isinstance z_list z_tuple z_dict z_enumerate z_zip z_sum z_abs z_max z_min z_sorted z_ValueError eg_WoodError eg_NoPlace eg_NoKnot eg_NoWood eg_NoBits eg_NoRow eg_NoOrder eg_NoName eg_NoFit eg_NoGraft eg_TooLarge eg_NoDeed eg_NoNumber eg_NoLine eg_Nobody eg_Nameless ex_WoodError bg_WoodError br_WoodError bi_WoodError ex_NoPlace xk_NoPlace cW ex_NoKnot xk_NoKnot cV sa_NoWood pl_NoWood xk_NoWood cS de cF cG cE ob_NoWood;obtain⟨f73,d73,F73,a73⟩:=g73;obtain⟨_,_,kV73,dc73,pm73,an73,cd73,ct73,_,rfl,_,_⟩:=F73.ex;have e:=hfa.symm.trans (iy X G a73);cases e;have dk:∀H,SqT K H aJ (Vn.map λn:Nat=>V.int n):=λH=>.inr ⟨o_ONES_OF_FOUR,i_ONES_OF_FOUR,n_ONES_OF_FOUR,o1_ONES_OF_FOUR,o2_ONES_OF_FOUR,o3_ONES_OF_FOUR,o4_ONES_OF_FOUR,o5_ONES_OF_FOUR⟩;have dG:∀H,SqT K H aK (uU):=λH=>.inr ⟨o_SIGNS_OF_FOUR,i_SIGNS_OF_FOUR,n_SIGNS_OF_FOUR,o1_SIGNS_OF_FOUR,o2_SIGNS_OF_FOUR,o3_SIGNS_OF_FOUR,o4_SIGNS_OF_FOUR,o5_SIGNS_OF_FOUR⟩;have O_NoWood:Mp K ao ai f0:=⟨ex_WoodError,⟨_,_,_,_,_,_,_,_,_,_,_,_,_,_,ob_NoWood⟩,a0,beq_iff_eq.mp i0,sa_NoWood,pl_NoWood⟩;have T0:∀base:jo,Txt l.prog w base tz K mg aJ aK ao am ah ai au av ax az aA aB aC aD aE aF aG aH:=λ_=>⟨iy X G eg_WoodError,iy X G eg_NoPlace,iy X G eg_NoKnot,iy X G eg_NoWood,iy X G eg_NoBits,iy X G eg_NoRow,iy X G eg_NoOrder,iy X G eg_NoName,iy X G eg_NoFit,iy X G eg_NoGraft,iy X G eg_TooLarge,iy X G eg_NoDeed,iy X G eg_NoNumber,iy X G eg_NoLine,iy X G eg_Nobody,iy X G eg_Nameless,⟨iy X G eg_WoodError,bg_WoodError,br_WoodError,bi_WoodError⟩,⟨iy X G eg_NoPlace,ex_NoPlace⟩,xk_NoPlace,cW,⟨iy X G eg_NoKnot,ex_NoKnot⟩,xk_NoKnot,cV,xk_NoWood,cS,de,cF,cG,cE,iy X G cP,dk,iy X G cY,dG,⟨_,iy X G cJ⟩,⟨_,iy X G cU⟩,⟨_,iy X G cM⟩,⟨_,iy X G cT⟩,⟨_,iy X G cX⟩,⟨_,iy X G cR⟩,⟨_,iy X G cK⟩,mi X G z_range,mi X G z_len,mi X G z_int,mi X G z_bool,mi X G z_str,mi X G z_isinstance,mi X G z_list,mi X G z_tuple,mi X G z_dict,mi X G z_enumerate,mi X G z_zip,mi X G z_sum,mi X G z_abs,mi X G z_max,mi X G z_min,mi X G z_sorted,mi X G z_ValueError,⟨_,O_NoWood⟩⟩;have Qc:Qc K ag:=⟨fd_Bits.cl,fd_Bits.no 0,fd_Bits.no 1,fd_Bits.no 2⟩;have Qb:Qb K ad:=⟨fd_Counts.cl,fd_Counts.no 0,fd_Counts.no 1,fd_Counts.no 2⟩;have Qd:Qd K aq:=⟨fd_Shortcuts.cl,fd_Shortcuts.no 0,fd_Shortcuts.no 1⟩;have Qa:Qa K aa:=⟨fd_Levelled.cl,fd_Levelled.no 0,fd_Levelled.no 1,fd_Levelled.no 2,fd_Levelled.no 3,fd_Levelled.no 4,fd_Levelled.no 5,fd_Levelled.no 6,fd_Levelled.no 7⟩;have F0:=iW (st:=Di) l0 c0 k0;have b0:=F0.binds (ps:=["self","place"]) λ_ _ _ _ _ _=>us2 λ_ _=>rfl;have F25:=lG (st:=Bh) l25 c25 k25 lc25 hc25;have b25:=F25.binds (ps:=["self","bit","nth"]) λ_ _ _ _ _ _=>us3 λ_ _ _=>rfl;have F32:=wG (st:=B1) l32 c32 lT32 dT32;have b32:=F32.binds (ps:=["self","order","step"]) λ_ _ _ _ _ _ _ us hl=>match us,hl with | [_,_,_],_=>⟨_,rfl,λ_=>rfl⟩
 have F35:=lG (st:=Df) l35 c35 k35 lc35 hc35;have b35:=F35.binds (ps:=["depths"]) λ_ _ _ _ _ _=>us1 λ_=>rfl;refine⟨kl "law" "law" (Bs Vj) (Bf Vj) (Ae Vj) .none kV73 dc73 pm73 an73 cd73 ct73,λs v=>.of_eq rfl,λbase hK _ hB=>?_⟩;have T:=T0 base;have V0:Acz l.prog w K mg base "NoWood" ao ai 1 ["self","place"]:=⟨⟨f0,_,Q5 T F0,b0,O_NoWood⟩,T.dF,T.cZ⟩;have V1:=GD.cal X G g1 λF=>Zb T F;have V2:=GD.cal X G g2 λF=>Wy T V1 F;have V3:=GD.cal X G g3 λF=>W2 T V2 F;have V4:=GD.cal X G g4 λF=>Sj T V2 F;have V5:=GD.calE X G g5 λF=>Ld T V1 F;have V6:=GD.calE X G g6 λF=>Ud T V2 F;have V7:=GD.cal X G g7 λF=>fW T F;have V8:=GD.cal X G g8 λF=>Tq T F;have V9:=GD.cal X G g9 λF=>gR T F V8;have V10:=GD.cal X G g10 λF=>nK T F;have V11:=GD.cal X G g11 λF=>fR T F;have V12:=GD.cal X G g12 λF=>Zo T F V11;have V13:=MD.mkr X G cd_Bits g13 λF=>Q8 T Qc F V10 V12;have V14:=MD.mth Qc.cl g14 λF=>Q9 T Qc F;have V15:=MD.mth Qc.cl g15 λF=>Q6 T Qc F;have V16:=MD.mth Qc.cl g16 λF=>Wb T Qc V4 F;have V17:=GD.cal X G g17 λF=>Uh T F;have V18:=GD.cal X G g18 λF=>P3 T F;have V19:=GD.cal X G g19 λF=>Nq T V7 F V18;have V20:=MD.mkr X G cd_Counts g20 λF=>Q4 T Qb F V14 V15 V19;have V21:=MD.mth Qb.cl g21 λF=>Ql T V7 Qb F;have V22:=MD.mth Qb.cl g22 λF=>Q1 T V4 Qb V3 F V21;have V23:=MD.mth Qb.cl g23 λF=>Qf T Qb F;have V24:=MD.mth Qb.cl g24 λF=>Qp T Qb V23 F;have V25:Mth l.prog w K mg base ad "block_with" 4 ["self","bit","nth"] (K4 K ad tz):=⟨⟨f25,_,Qk T Qb V23 hK (hB (513,509) (by simp)) F25 il V17,b25,⟨a25,i25,k25⟩⟩,Qb.cl⟩;have V26:=MD.mth Qb.cl g26 λF=>Qm T V7 Qb F V9;have V27:=MD.mth Qb.cl g27 λF=>Qr T V4 Qb V3 V23 F V24 V25 V26;have V28:=GD.cal X G g28 λF=>Wz T V20 V13 F;have V29:=GD.cal X G g29 λF=>Tk T V2 F;have V30:=GD.cal X G g30 λF=>X0 T F;have V31:=GD.cal X G g31 λF=>P6 T F V30;have V32:uT l.prog w K mg base "Shortcuts" aq 4 ["self","order","step"] (Nb aq):=⟨⟨f32,_,Qe T F32 Qd V29 V31,b32,⟨cd_Shortcuts.ma,a32,i32,cd_Shortcuts.kc⟩,iy X G cd_Shortcuts.a⟩⟩;have b32D:=Yr.bindsD (x:="__init__") (qual:="Shortcuts.__init__") (st:=B1) (ps:=["self","order","step"]) (kV:=kV32) (doc:=dc32) (pm:=pm32) (cdv:=cd32) (ct:=ct32) (an:=an32) lT32 dT32 rfl (us2 λ_ _=>⟨_,rfl,rfl⟩);have V32D:vJ l.prog w K mg base "Shortcuts" aq 4 ["self","order","step"] (Nb aq) [.int 16]:=⟨⟨f32,_,_,Qe T F32 Qd V29 V31,b32D,.cons eT32 .nil,⟨cd_Shortcuts.ma,a32,i32,cd_Shortcuts.kc⟩,iy X G cd_Shortcuts.a⟩⟩;have V33:=GD.calE X G g33 λF=>fB T V1 F V0;have V34:=GD.cal X G g34 λF=>Vv T F;have V35:Cal l.prog w K mg base "level_order" 2 ["depths"] (iA tz):=⟨⟨f35,_,S6 T hK (hB (624,620) (by simp)) F35 (gz _ il),b35,iy X G a35,k35⟩⟩;have V36:=GD.cal X G g36 λF=>Ma T F;have V37:=GD.cal X G g37 λF=>Rr T F;have V38:=GD.cal X G g38 λF=>Xm T F;have V39:=GD.cal X G g39 λF=>Ww T F V36 V37;have V40:=GD.cal X G g40 λF=>Xk T F;have V41:=MD.mth (sp:=(fS K ag ad aa tz)) Qa.cl g41 λF=>Qx T Qa F V27;have V42:=MD.mth Qa.cl g42 λF=>Qn T Qa V41 F;have V43:=MD.mth Qa.cl g43 λF=>Qh T Qa V41 F;have V44:=MD.mth Qa.cl g44 λF=>Qi T Qa F V38 V42 V43;have V45:=MD.mkrE X G cd_Levelled g45 λF=>Qy T V20 V13 Qa F V33 V34 V35 V39 V32D V28 V40 V44;have V46:=MD.mth Qa.cl g46 λF=>Qs T Qa V41 F;have V47:=MD.mthE Qa.cl g47 λF=>Q0 T Qa V41 V6 F;have V48:=MD.mthE Qa.cl g48 λF=>Wc T Qa V47 V5 F;have V49:=MD.mthE Qa.cl g49 λF=>Q7 T Qa V48 F;have V50:=MD.mthE Qa.cl g50 λF=>Wa T Qa V47 F;have V51:=MD.mthE (sp:=(Dk K ag ad aa ah)) Qa.cl g51 λF=>Qj T Qa V6 F;have V52:=MD.mthE (sp:=(Dk K ag ad aa ah)) Qa.cl g52 λF=>Qq T Qa V6 F;have V53:=MD.mthE (sp:=(Dk K ag ad aa ah)) Qa.cl g53 λF=>Qt T Qa V6 F;have V54:=MD.mthE Qa.cl g54 λF=>Qg T Qa V51 F;have V55:=MD.mthE Qa.cl g55 λF=>Qz T Qa V54 F;have V56:=MD.mthE Qa.cl g56 λF=>Qu T Qa V51 F V22;have V57:=MD.mthE Qa.cl g57 λF=>Qw T Qa V51 F V16;have V58:=MD.mthE Qa.cl g58 λF=>Qv T Qa V5 F;have V59:=MD.mthE (sp:=(W5 K ag ad aa ah am)) Qa.cl g59 λF=>Qo T Qa V6 V5 F;have V60:=GD.cal X G g60 λF=>Sw T F;have V61:=GD.cal X G g61 λF=>Xy T F;have V62:=GD.cal X G g62 λF=>W3 T F;have V63:=GD.cal X G g63 λF=>Xs T V60 V61 F;have V64:=GD.cal X G g64 λF=>P8 T F;have V65:=GD.cal X G g65 λF=>X9 T V60 F V62 V63 V64;have V66:=GD.calU X G g66 λF=>Xp T F;have V67:=GD.cal X G g67 λF=>fX T F;have V68:=GD.cal X G g68 λF=>T7 T F;have V69:=GD.cal X G g69 λF=>Sd T Qa V47 V48 V54 V66 F V59 V58 V56 V49 V50 V55 V57 V52 V53;have V70:=GD.cal X G g70 λF=>Zd T V66 V45 F;have V71:=GD.cal X G g71 λF=>P0 T F;have V72:=GD.cal X G g72 λF=>O1 T F;exact Ab3 T Qa V60 V61 V45 F73 V65 V71 V72 V69 V68 V67 V70 V46
end TK
theorem PySem.Challenge.cw_tightwood_k44_refused_by_levels_holds : PySem.Challenge.rw_tightwood_k44_refused_by_levels.Holds :=
 TK.HEAD @TK.all_mk
#print axioms PySem.Challenge.cw_tightwood_k44_refused_by_levels_holds
