import PyProof.Rows.All
import Wide.All
import OpenK.AllK
import Wide.FinOn
import Lean
import PyProof.EqAt
import PyProof.EqKinds
import PyProof.TupleCall
import KE.KDictOf
import KE.KItemsList
import KE.KLam
import KE.KNest
import KE.KNestM
import KE.KRevIter
import KE.KSortKey
import KE.KSortTup
import KE.KTryMore
import KE.LcSums
import OpenK.KCls
import PyProof.AttrMissHeap
import PyProof.AutoSeq1
import PyProof.Draws
import PyProof.EnumMake
import PyProof.EnumStmt
import PyProof.FactsAll.list
import PyProof.InstStoreFacts
import PyProof.IsiH_list
import PyProof.ListNew
import PyProof.ListRange
import PyProof.ObjNew
import PyProof.Rows.SortRunsK
import PyProof.Rows.SortShell
import PyProof.Rows.SortStr
import PyProof.SliceList
import PyProof.StrBlockL
import PyProof.StrLawsChain
import PyProof.StrLawsIn
import PyProof.WalksEnum
import PyProof.ZipIter
import PySem.Challenge.RW_tightwood_k65_names_beneath
set_option compiler.extract_closed false
set_option Elab.async false
set_option linter.all false
set_option maxRecDepth 100000
set_option maxHeartbeats 4000000
open List renaming getElem?_eq_getElem->d4,length_map->d7,getElem?_map->d9,length_append->eh,range->fb,getElem?_eq_some_iff->fc,length_range->fe,replicate->fg,length_take->fi,map_append->fj,append_assoc->fm,getElem?_append_right->ft,take_of_length_le->fw,mem_singleton->fz,getElem?_append_left->f7,mem_of_getElem?->f8,getElem?_range->gd,size_toArray->ge,getD_eq_getElem?_getD->gg,getElem?_take_of_lt->gj,length_cons->gn,mem_append_right->gt,mem_cons_self->gu,mem_cons_of_mem->gv,append_nil->gy,length_drop->ic,getElem?_eq_none->ij,mem_append->il,map_cons->im,mem_cons->iu,take_add_one->i4,getElem?_drop->i5,replicate_succ->i7,length_singleton->ja,map_congr_left->jc,filter_cons->jd,range_succ->je,map_map->jf,getElem?_take->jg,drop_of_length_le->ji,flatten_cons->jl,mem_range->jm,take_append_drop->jn,take_append_of_le_length->jp,length_nil->jt,getD->ju,getElem?_of_mem->j6,length_filter_le->j9,mem_append_left->kj,forall_mem_cons->kl,toList_toArray->ky,filterMap_cons->k5,length_replicate->lg,mem_map->lp,filter_append->lr,not_mem_nil->lu,filter_eq_nil_iff->l7,ext_getElem?->l8,nil_append->md,pairwise_cons->mi,all_eq_true->mj,drop_append_of_le_length->mr,length_reverse->mw,range_succ_eq_map->my,cons_append->m9,getElem?_zip_eq_some->nw,drop_eq_getElem_cons->ny,count_cons->n4,mem_of_mem_take->n8,count_append->n9,mem_map_of_mem->om,take_take->oq,lookup->ox,nodup_cons->o8,map_take->pe,drop_drop->ph,take_length->p9,mem_reverse->qa,reverse_append->qc,map_drop->qg,foldl_cons->qi,pairwise_singleton->qq,drop_zero->qy,lookup_cons->rk,reverse_reverse->r6,of_mem_zip->sf,length_zip->sg,getElem?_tail->tm,pairwise_iff_getElem->uc,any_cons->ui,all_cons->uj,drop_length->uu,mem_filter->vp,find?_cons->vq,getElem?_toArray->vy,take_zero->we,pairwise_append->wf,not_lt->wg,getLast?_concat->wj,take->wt,drop->wu,flatten_append->w6,take_add->xc,sum_cons->xf,sum_singleton->xj,mem_filterMap->xk,map_singleton->xl,reverse_cons->xt,map_nil->xu,map->xw,length_tail->yf,countP_cons->yg,length->yq,sum_append->yv,length_set->yw,forIn_cons->yx,getElem?_replicate->AF,length_eq_one_iff->AJ,head?_eq_getElem?->AK,getElem?_set_self->AL,getElem?_reverse->BA,mem_of_mem_drop->BP,length_dropLast->BQ,getElem?_set_ne->BR,filter->BS,count_replicate->BU,zip_map_right->CT,zip_cons_cons->CU,foldl->CV,nodup_append->DJ,foldl_append->DK,take_append->DZ,map_reverse->EA,foldlM_cons->EB,ext_getElem->EC,any_eq_true->ED,forIn_nil->EW,drop_take->EX,all_nil->FZ
open PySem.W renaming Frag->d6,nsIn->iw,fnOf->jk,mg_of->jw,findIn->j7,keepIn->ka,mg_none_of->kx,codeIn->lx,boot_heap->nu,isFn->qm,SharedT->rl,kia_one->sr,plainGet->ue,tabObj->vj,plainGet_of->wa,codeHd_of_K->wb,km_tabs_of->wn,methodObj->w9,hasDictIn->xa,takerIn->x4,OpenLaw->x5,boot_drawn->yl,TabsAt->yn,kla_obj->y6,boot_toks->zm,cellsFrom_some->zn,methodCall_KW->zz,kla_codeExpr->AD,kla_callFunE->AE,km_in_of->AX,CodeHd->BE,plainOver->BG,kitx_list->BH,kitx_dict->BI,handedIn->CF,makesIn->CM,kla_fn->DE,WalkO->DS,Frag->FN,OpenLaw->KA
open Nat renaming le_refl->d8,lt_of_lt_of_le->fk,le_of_lt->f9,ne_of_lt->gm,zero_le->gp,min_eq_left->io,le_trans->ir,add_sub_cancel_left->iy,le_add_right->jh,ne_of_gt->jo,sub_self->j0,exists_eq_add_of_le->ke,lt_of_le_of_ne->ko,lt_irrefl->ln,add_assoc->l6,lt_or_eq_of_le->mq,zero_add->m5,add_zero->m7,lt_succ_self->nj,add_sub_cancel->nq,le_of_eq->oh,not_lt->pq,sub_zero->qb,lt_of_le_of_lt->qo,eq_zero_or_pos->qp,min_self->rb,div_div_eq_div_mul->rc,min_eq_right->rm,and_two_pow_sub_one_eq_mod->rn,sub_add_cancel->t8,mod_mul_right_div_self->t9,mod_lt->ua,lt_succ_of_lt->uh,min_le_right->uw,pow_succ->vm,lt_trans->vn,add_comm->vo,le_succ->wo,eq_of_testBit_eq->wq,mod_mod_of_dvd->xq,succ_pos->x8,mul_comm->x9,lt_or_ge->ya,div_eq_of_lt->yp,not_lt_zero->zd,testBit_two_pow_sub_one->zj,succ->zt,sub_le->zu,le_of_ble_eq_true->BN,add_sub_add_right->BO,pow_le_pow_right->CG,add_mul->CH,lt_trichotomy->DU,le_succ_of_le->DV,ble->DW,add_sub_assoc->DX,add_div_right->DY,mul_assoc->FX,xor_zero->GS,one_pos->IC,div_one->ID,sub_lt->IP,not_le->IQ
open Option.some renaming inj->ee
open PySem renaming Addr->eg,Value->fh,wpAny_pure->fq,Shared->fv,Program->gl,World->iq,Stmt->iz,Expr->i8,Around->i9,Heap->jj,FuncData->jq,mem_of_lookup->jz,codeAny_builtin->mh,Arguments->mv,Scope->nh,wpAny_mono->nz,builtinLookup_eq_fast->n6,Spec->og,wpAny_truthy_bool->oi,wpAny_newObj_type->oj,lookup_relabel_local->ol,plainId_quiet->ou,IsPair->o6,wpAny_field->qe,NameKind->qf,wpAny_typeOf->qh,Builtin->qj,wpAny_comprehension_free->qr,typeLookup_type->qt,wpAny_callSpecial?_slot->rf,wpAny_call_entry->sk,call_meets->sq,wpAny_newFunctionEnv->sv,wpAny_updateSeq->tu,codeAny_mono->ud,wpAny_seqItems->ul,wpAny_rule->um,wpAny_pyIter_enum->uz,CmpOp->vb,wpAny_standAt->vd,wpAny_getItem_list_slice->ve,evalPart_none->vf,wpAny_pyIter_zip->vz,Model->wc,Result->wm,wpAny_execs_nil->wx,wpAny_loadName_local->xn,wpAny_ite_true->xo,ZipApart->xp,IsPart->xr,wpAny_dictSet_pairs->x0,wpAny_newList->yc,wpAny_attempt->yd,Value->ye,wpAny_call->yj,wpAny_Name->yk,wpAny_pyIter_list->y3,stored_length_le->zl,Params->zq,Paired->zr,wpAny_Slice->zw,Fin->z5,IsRangeIter->z7,Within->AC,BindsTo->AR,wpAny_tryCatch->AT,wpAny_newTuple->AU,typeIs_str->AV,callType_codes->AY,call->CA,wpAny_getItem_str_slice->CK,wpAny_pyNext_range_end->CW,wpAny_pyNext_list_item->CY,wpAny_pyIter_rangeiter->CZ,wpAny_nextOf_list_item->DA,seqIndex_neg->DC,codeAny_compStart_list->DF,call_meetsIn->DG,Str->DI,wpAny_pyNext_zip_item->DO,wpAny_pyNext_list_end->DP,wpAny_notOrdered_dict->DQ,exec_Assign_Name_used->DR,wpAny_raiseAttrError->EF,wpAny_pyNext_zip_end->EG,wpAny_pyIter_revIter->EH,sizeLine_eq->EI,seqIndex_of->EJ,numAt_eq->EK,Operator->EM,wpAny_loadName_free->EQ,wpAny_loadName_cell->ER,list_getitem_lookup->ES,Program->EV,wpAny_pyIter_range->FC,typeIs_int->FE,sub_AttributeError->FF,call_zip_2->FG,rawInt->FJ,PlainAttrs->FK,wpAny_sequenceKey->FQ,wpAny_loadPart_at->FR,World->FW,Keyword->GA,IsZip->GB,kt_code_dict_new->GH,wpAny_specialOf->GY,sliceRange_one->IL,pick_run->IN,GenState->IS,DefRec->IT,rangeSize_one->JA,nums_intItems->JB,intBits_le_64->JC,eval_ListComp->JD,call_list_seq->JE,call_range_3->JX,call_range_1->JY
open PySem.Str renaming ofString->ej,ofString->oy,length->vi,empty->ym
open PySem.Heap renaming get?_push_of_some->en,lt_size->fu,get?_push_size->gq,get?_update_other->ku,size_update->ml,get?_update_self->nr,size_push->pi,SameBut->va,get?_push_ne->xx,get?_none_of_le->BV
open Array renaming length_toList->gh,getElem?_toList->gr,getElem?_eq_getElem->jr,getElem?_eq_none->l5,toList_append->sj,forIn_toList->td,append_empty->tj,size_push->vc,mk->BF,getElem?_push->BX,append_assoc->CJ,toList_map->DN,toList->FP
open PySem.F renaming plainAttrs_list->gi,type_list_append->ie,slot_list_append->ig,plainAttrs_str->km,plain_extend_loop->l9,type_str_join->oz,slot_str_join->o0,type_list_pop->qv,slot_zip_next->qw,slot_list_pop->qx,slot_list_getattribute->ra,slot_zip_getattribute->rj,entry_extend_loop->sy,plainAttrs_dict->uf,type_str_count->uq,slot_str_count->ur,slot_dict_setdefault->x6,kt_typeCall_dict_1->yo,slot_str_getitem->y9,slot_dict_update->zb,args_dict_init_2->zc,type_list_index->zf,slot_list_index->zg,entry_dict_init->zh,args_zip_next_1->zi,kt_called_dict->zo,entry_zip_next->zp,slot_dict_get->z6,plain_list_iadd->FA,slot_int_rmul->GF
open Int renaming toNat_natCast->gw,natCast_nonneg->kq,emod_lt_of_pos->kr,eq_ofNat_of_zero_le->lw,emod_nonneg->me,toNat_of_nonneg->su,fdiv_eq_ediv_of_nonneg->ub,natCast_ediv->ux,le_trans->vv,le_refl->yy,toNat->AN,le_of_lt->BB,natCast_mul->EY,natCast_add->EZ,lt_irrefl->GC,add_assoc->GE,ediv_one->GU,not_lt->IR
open Bool renaming false_ne_true->gz,false_eq_true->jy,and_eq_true->nc,eq_iff_iff->vx,false_and->wk,and_eq_true_iff->wl,toNat_false->yi,toNat_true->yz,true_and->z8,toNat_le->z9,or_false->AA,eq_false_iff->DM,or_eq_true->EN,and_true->FO
open PySem.PassesOwn renaming never->ii
open PyProof.Rows renaming callWith_type1->ik,Keyed->jv,slot_tuple_getitem->j8,wpS_pure->lz,SortSt->pj,StrsAre->qu,IntsAre->rp,SortKind->uo,AllBare->ww,get?_update_seq->wy,wpS_reverse->xm,tail_any->y4,wpS_get->AI,size_push'->AW,Constant_none->CI,subscriptTail_builtinR->DB,listItems_at->DD,wpS_modify->FB,args_tuple_getitem->FH,count_cnt->HX,cnt_cons->HY,cnt->HZ,callWith_builtin1->IA,wpS_lift->IK,slicePart_none->IM,tupleItemsOf_->IZ,plain_sorted->JV,entry_sorted->JW
open PySem.Challenge renaming pw_tightwood_k65_names_beneath->ip,rw_tightwood_k65_names_beneath->mz
open PySem.Obj renaming mapSeq->i6
open PySem.Value renaming ref->jb,type->kh,int->o7,str->qk,none->sw,bool->y8,float->AZ,isStrOf->ET,builtin->EU,isInt->FU,bytes->FV
open Option renaming isSome_iff_exists->jx,map_eq_some_iff->kt,getD_some->rg,map_some->rz,map_map->yt,toList_some->BM,getD_none->CQ,none->FL
open PySem.Around renaming under_plainId->j5,under->AB,frames_deeper->AS
open False renaming elim->ki
open PySem.Builtin.Range renaming rangeSize->lf,small->q8,rangeFitsLong->w8
open PySem.Builtin.Str renaming strSliceIndices->lh,occurrences->mo,tooLong->IX
open PySem.Calls renaming spliced_cons->lq,spliced_nil->n5,Name_function_global->ze,callWith_builtin->AH
open PySem.Builtin renaming bitAnd->ly,bitNot->m8,bitXor->vw,bitOr->EE
open PySem.Builtin.SmallTypes renaming ownedTupleIsFree->mf,nextOf->q0
open Classical renaming byContradiction->nl,choose_spec->zk
open PySem.NameKind renaming free->nv,cell->yu
open PySem.Builtin.List renaming listExtendWith->ow,listTooLong->sh,listSameRef->xy,listItems->yh,listUpdate->IG,listTouch->IH,listLengthHint->II,listFitsIndex->IJ
open PySem.Builtin.Slice renaming slicePlaces->o9,sliceAdjust->rq,sliceApplied->xi,slicePartIndex->GW,sliceFields->GX
open PySem.Builtin.Tuple renaming tupleExact->pf,tupleItemsOf->xh
open PySem.Builtin.Dict renaming updateFrom->p7,pairItems->qd,addKeywords->si,selfAndRest->xz
open True renaming intro->ql
open List.cons renaming inj->qz
open PySem.Heap.SameBut renaming update->re,refl->IF
open Ne renaming symm->rh
open PySem.Txt renaming join->tx
open Nat.succ renaming inj->ug
open ForInStep renaming yield->uk,done->uy
open PyProof renaming noPylong_small->ut
open PySem.Heap.IsSliceOf renaming new->uv
open Sum.inr renaming inj->vg
open Sum renaming inl->vh,inr->w4
open List.Pairwise renaming nil->vt,filter->GT
open PySem.Expr renaming Call->wv
open PySem.Heap.DictOf renaming new->xg
open List.Perm renaming refl->yb
open PyProof.Rows.SortSt renaming mk'->yr
open PySem.SeqAt.EqAt renaming str_int->zx,int_str->zy,str_str->JH,str_none->JI,str_bool->JJ,same->JK,none_str->JL,none_int->JM,none_bool->JN,int_none->JO,int_int->JP,int_bool->JQ,bool_str->JR,bool_none->JS,bool_int->JT,bool_bool->JU
open PySem.W.Hook renaming val->z0,obs->z4,says->HE,of->HF,keeps->HG
open PySem.IsRange renaming new->AG
open PySem.Code renaming isFrame->AO,frames->GV
open PySem.BindsTo renaming of_defaults->AQ
open Prod renaming ext->BJ
open Or renaming inr->BK,inl->BL
open PySem.Data renaming fields->BW,dict->IU,cell->IV
open PySem.WalksT renaming enumerateD->BY,enumerate->CL,zip2->FI
open PySem.SeqAt renaming EqAt->BZ
open StateT renaming run_pure->DH
open Decidable renaming em->DL
open Prod.mk renaming injEq->DT
open PySem.Paired renaming length->EL
open And renaming intro->EO
open Nat.le renaming dest->FM
open PySem.Walks renaming range->FS
open PySem.W.WShape renaming has->FT
open PySem.Meets renaming of_wp->FY
open PySem.CmpOp renaming NotIn->GG,In->IW
open PySem.W.Looks renaming here->GI
open PySem.StrLaws renaming found_one->GJ
open PySem.EqMixed renaming ne_str_int->GK,ne_str_bool->GL,ne_int_str->GM,ne_bool_str->GN,eq_str_int->GO,eq_str_bool->GP,eq_int_str->GQ,eq_bool_str->GR
open PySem.W.WData renaming int->GZ
open PySem.SeqAt.RcNeAt renaming lists_lengths->HA,lists->HB
open PySem.Within renaming cons->HC
open PySem.EqNone renaming ne_str_none->HH,ne_none_str->HI,ne_none_none->HJ,ne_none_int->HK,ne_none_bool->HL,ne_int_none->HM,ne_bool_none->HN,eq_str_none->HP,eq_none_str->HQ,eq_none_none->HR,eq_none_int->HS,eq_none_bool->HU,eq_int_none->HV,eq_bool_none->HW
open PyProof.Rows.IsTup renaming new->IE
open PySem.SeqAt.RcAt renaming lists_lengths->JF,lists->JG
open PySem.IsL renaming update->JZ
open PySem.DictEntry renaming refKey->KB
open PySem.AutoListH renaming list___mul___list_int_3->KC
open PySem.W (instObj lookIn emptyDict kitOne kia_one callWith_K CodeHd kla_obj kla_fn km_in_of mg_none_of)
abbrev Za0:=ye->PySem.Shared->Prop
abbrev Za1:=List (PySem.Addr×PySem.Obj)
abbrev Za2:=DI->Option ye
abbrev Za3:=List ye
abbrev Za4:=List Nat
abbrev Za5:=List Bool
abbrev Za6:=List DI
abbrev Za7:=Option ye
set_option hygiene false in
local macro_rules | `(tactic| lia)=>`(tactic| first | with_reducible first | assumption | exact Nat.le_of_lt (by assumption) | exact Nat.not_le.mp (by assumption) | exact Nat.lt_of_le_of_lt (by assumption) (by assumption) | exact Nat.le_trans (by assumption) (by assumption) | exact Nat.lt_trans (by assumption) (by assumption) | exact Nat.lt_succ_of_lt (by assumption) | exact Nat.sub_le _ _ | exact Nat.lt_of_lt_of_le (by assumption) (by assumption) | exact Nat.le_of_lt_succ (by assumption) | exact Nat.pos_of_ne_zero (by assumption) | exact Nat.zero_le _ | exact Nat.sub_succ_lt_self _ _ (by assumption) | exact Nat.sub_lt (Nat.zero_lt_of_lt (by assumption)) Nat.one_pos | exact Nat.lt_of_lt_of_le (Nat.sub_lt (Nat.zero_lt_of_lt (by assumption)) Nat.one_pos) (by assumption) | lia (splits := 9) | omega)
theorem QC(h:True:=by rfl):True:=h
def QD:Lean.Syntax:=QC._auto_1
theorem QE(h:True:=by decide):True:=h
def QF:Lean.Syntax:=QE._auto_1
theorem QG(h:True:=by first|exact .inl rfl|exact .inr rfl|assumption):True:=h
def QH:Lean.Syntax:=QG._auto_1
theorem QI(h:True:=by intro _;rfl):True:=h
def QJ:Lean.Syntax:=QI._auto_1
theorem QK(h:True:=by (repeat intro _);rfl):True:=h
def QL:Lean.Syntax:=QK._auto_1
section
set_option hygiene false in
local macro_rules | `(tactic| k_in)=>`(tactic| intro pins s G H Q I h)
set_option hygiene false in
local macro_rules | `(tactic| k_end)=>`(tactic| intro pins s G H D I h)
local macro_rules | `(tactic| k_cls)=>`(tactic| (constructor<;>first | rfl | decide +kernel))
namespace L2
open PySem PySem.Spec PyProof.Rows
variable {C CB CC CO CP Pt dx i1 i2 it l1 l2:eg} {params:mv} {A:i9} {items:Array fh} {op:vb} {X:Cx} {D:Ie} {env:Env} {tg:i8} {fd:jq} {base h h':jj} {H H' H0 H1 H2:Hp} {J:It} {pins:Za1} {as fp:List eg} {ns ws:List Int} {cs ix:Za4} {N kz nm ps:Za6} {xs:List V} {us vs:Za3} {M:wc} {d n t':Nat} {oT:Obj} {an od:Option eg} {lpos pos pos2:Pos} {scope:nh} {pl:Sem Bool} {s s2:fv} {sp:Sp} {fr:St} {qual z:Str} {te:TE} {wi:TI} {y:V} {cdv ct doc oc pm:fh} {w:iq}
abbrev Key:=Sum Int Str
def Zg:Key->fh->Bool
 |.inl k,v=>FU k v
 |.inr x,v=>ET x v
def Ail (w:iq):Key->Int
 |.inl k=>hashInt k
 |.inr x=>hashStr w x
theorem Ct:∀{k:Key} {v:fh},Zg k v=true->(∃i t,k=vh i/\v=o7 i t)\/(∃x t,k=w4 x/\v=qk x t)
 |.inl i,v,h=>by
  obtain⟨t,e⟩:=Value.isInt_shape (k:=i) (v:=v) h;exact .inl ⟨i,t,rfl,e⟩
 |.inr x,v,h=>by
  obtain⟨t,e⟩:=Value.isStrOf_shape (x:=x) (v:=v) h;exact .inr ⟨x,t,rfl,e⟩
theorem sX (i:Int)(t:Tok):Zg (.inl i) (.int i t)=true:=by simp[Zg,FU]
theorem sA (x:Str)(t:Tok):Zg (.inr x) (.str x t)=true:=by simp[Zg,ET]
theorem Ae3 (a b:Int):decide ((vh a:Key)=vh b)=(a==b):=by
 by_cases e:a=b
 ·subst e;simp
 ·have h:¬(vh a:Key)=vh b:=λq=>e (Sum.inl.inj q)
  rw[decide_eq_false h];exact(beq_eq_false_iff_ne.mpr e).symm
theorem Afc (a b:Str):decide ((w4 a:Key)=w4 b)=decide (a=b):=by
 by_cases e:a=b
 ·subst e;simp
 ·have h:¬(w4 a:Key)=w4 b:=λq=>e (vg q)
  rw[decide_eq_false h,decide_eq_false e]
theorem Afi (a:Int)(b:Str):decide ((vh a:Key)=w4 b)=false:=decide_eq_false (λq=>nomatch q)
theorem Afj (a:Str)(b:Int):decide ((w4 a:Key)=vh b)=false:=decide_eq_false (λq=>nomatch q)
def Bf (prog:gl)(w:iq):PySem.KeyKind prog w Key where
 is:=Zg
 hash:=Ail w
 inj:=λv a b ha hb=>by
  rcases Ct ha with⟨i,t,rfl,rfl⟩|⟨x,t,rfl,rfl⟩
  ·rcases Ct hb with⟨j,u,rfl,e⟩|⟨y,u,rfl,e⟩
   ·injection e with e1 _;rw[e1]
   ·exact nomatch e
  ·rcases Ct hb with⟨j,u,rfl,e⟩|⟨y,u,rfl,e⟩
   ·exact nomatch e
   ·injection e with e1 _;rw[e1]
 byValue:=λk v h=>by
  rcases Ct h with⟨i,t,rfl,rfl⟩|⟨x,t,rfl,rfl⟩<;>rfl
 pyHash:=λhv h=>by
  rcases Ct hv with⟨i,t,rfl,rfl⟩|⟨x,t,rfl,rfl⟩
  ·exact wpAny_pyHash_int h
  ·exact wpAny_pyHash_str h
 eqBool:=λhu hv h=>by
  rcases Ct hu with⟨i,t,rfl,rfl⟩|⟨x,t,rfl,rfl⟩
  ·rcases Ct hv with⟨j,u,rfl,rfl⟩|⟨y,u,rfl,rfl⟩
   ·rw[Ae3] at h;exact wpAny_eqBool_int h
   ·rw[Afi] at h;exact zy i t y u _ _ _ _ h
  ·rcases Ct hv with⟨j,u,rfl,rfl⟩|⟨y,u,rfl,rfl⟩
   ·rw[Afj] at h;exact zx x t j u _ _ _ _ h
   ·rw[Afc] at h;exact wpAny_eqBool_str h
 «strs»:=λk x t v h=>by
  rcases Ct h with⟨i,u,rfl,e⟩|⟨y,u,rfl,e⟩
  ·exact nomatch e
  ·injection e with e1 _
   subst e1;cases v<;>rfl
theorem Ll (prog:gl)(w:iq)(i:Int)(t:Tok):(Bf prog w).is (.inl i) (.int i t)=true:=sX i t
theorem Sm (prog:gl)(w:iq)(x:Str)(t:Tok):(Bf prog w).is (.inr x) (.str x t)=true:=sA x t
inductive V where
 |non|bl (b:Bool)|int (i:Int)|str (x:Str)|byt (b:Array UInt8)|flt (b:UInt64)|ref (a:eg)|ty (n:String)
 deriving DecidableEq
def Bc:V->fh->Prop
 |.non,u=>u=sw
 |.bl b,u=>u=y8 b
 |.int i,u=>∃t,u=o7 i t
 |.str x,u=>∃t,u=qk x t
 |.byt b,u=>∃t,u=FV b t
 |.flt b,u=>∃t,u=AZ b t
 |.ref a,u=>u=jb a
 |.ty n,u=>u=kh n
abbrev Ay:List V->Za3->Prop:=zr Bc
theorem Ay.length (r:Ay xs us):xs.length=us.length:=EL r
theorem Ay.get:∀{xs:List V} {us:Za3} {i:Nat} {x:V},Ay xs us->xs[i]?=some x->∃u,us[i]?=some u/\Bc x u
 |_,_,_,_,.nil,e=>by simp at e
 |_,_,0,_,.cons r _,e=>by simp at e;subst e;exact⟨_,rfl,r⟩
 |_,_,i+1,x,.cons _ t,e=>by
  obtain⟨u,h1,h2⟩:=Ay.get (i:=i) (x:=x) t (by simpa using e);exact⟨u,by simpa using h1,h2⟩
theorem Ay.set {x:V}{u:fh}(r:Bc x u):∀{xs:List V} {us:Za3} (i:Nat),Ay xs us->Ay (xs.set i x) (us.set i u)
 |_,_,_,.nil=>.nil
 |_,_,0,.cons _ t=>.cons r t
 |_,_,i+1,.cons q t=>.cons q (Ay.set r i t)
theorem Ay.append:∀{xs ys:List V} {us ws:Za3},Ay xs us->Ay ys ws->Ay (xs++ys) (us++ws)
 |_,_,_,_,.nil,s=>s
 |_,_,_,_,.cons r t,s=>.cons r (Ay.append t s)
theorem Ay.take:∀{xs:List V} {us:Za3} (n:Nat),Ay xs us->Ay (xs.take n) (us.take n)
 |_,_,0,_=>.nil
 |_,_,_+1,.nil=>.nil
 |_,_,n+1,.cons r t=>.cons r (Ay.take n t)
theorem Ay.drop:∀{xs:List V} {us:Za3} (n:Nat),Ay xs us->Ay (xs.drop n) (us.drop n)
 |_,_,0,r=>r
 |_,_,_+1,.nil=>.nil
 |_,_,n+1,.cons _ t=>Ay.drop n t
def Pl:Option V->Za7->Prop
 |some v,some u=>Bc v u
 |none,none=>True
 |_,_=>False
def KV {κ:Type}:List (κ×V)->List (κ×fh)->Prop:=zr λ(p:κ×V) (q:κ×fh)=>p.1=q.1/\Bc p.2 q.2
def kV:Key->V
 |.inl i=>.int i
 |.inr x=>.str x
inductive HO where
  |lst (xs:List V)
  |tup (xs:List V)
  |dK (kvs:List (Key×V))|dT (kvs:List (List Key×V))
  |set (S:Int->Bool) (n:Nat)
  |ins (C dx:eg) (fs:List (Str×V))
  |own (x:eg)
  |xd (fs:List (Str×V))
  |met (f x:eg)
  |rng (lo hi:Int)
  |frz (o:Obj) (u:HO)
  |tbl (ps:Array fh)
  |ext (φ:jj->Prop)
abbrev Hp:=eg->Option HO
def upd (H:Hp)(a:eg)(o:HO):Hp:=λb=>if b=a then some o else H b
theorem Af {H:Hp}{a:eg}{o:HO}:upd H a o a=some o:=by unfold upd;rw[if_pos rfl]
theorem Al {a b:eg}{o:HO}(h:b≠a):upd H a o b=H b:=by unfold upd;rw[if_neg h]
theorem Tm {a:eg}{o u:HO}:upd (upd H a o) a u=upd H a u:=by
 funext b;unfold upd;split<;>rfl
theorem Il {a b:eg}{o u:HO}(h:H a=some o)(h':H b=some u)(d:o≠u):a≠b:=by
 intro e;subst e;rw[h] at h';exact d (ee h')
theorem Aj {a b:eg}{o:HO}(h:H a=some o)(h':H b=none):a≠b:=by
 intro e;subst e;rw[h] at h';cases h'
section
variable (P:gl) (w:iq)
def Cq (H:Hp)(h:jj)(a:eg):HO->Prop
 |.lst xs=>xs.length<=sizeLine/\∃(its:Za3) (n:Nat),Ay xs its/\h.get? a=some { cls:=.type "list",data:=.seq its.toArray n }
 |.tup xs=>xs.length<=sizeLine/\∃its:Za3,Ay xs its/\IsTup h a its.toArray
 |.dK kvs=>kvs.length<=sizeLine/\(a==sysModules)=false/\∃vs,KV kvs vs/\h.DictOf (Bf P w) a vs
 |.dT kvs=>kvs.length<=sizeLine/\(a==sysModules)=false/\∃xs:List (List Key×eg×fh),
   zr (λ(p:List Key×V) (q:List Key×eg×fh)=>p.1=q.1/\H q.2.1=some (.tup (p.1.map kV))/\Bc p.2 q.2.2) kvs xs /\
   ∃o es ep,h.get? a=some o/\o.ExactDict/\o.data=.dict es ep/\es.toList=xs.map (entryOfKey (tupleKind (Bf P w)))/\(xs.map (·.1)).Nodup
 |.set S n=>h.SetOf (intKind P w) a S n
 |.ins C dx fs=>H dx=some (.own a)/\fs.length<=1000/\dx≠a/\h.get? a=some (instObj C dx) /\
   ∃mA,h.Ns1 dx mA/\(∀f,Pl (fs.lookup f) (mA f))/\AC mA (fs.map (·.1))
 |.own _=>∃o,h.get? a=some o
 |.xd fs=>∃mA,h.Ns1 a mA/\∀f,Pl (fs.lookup f) (mA f)
 |.rng lo hi=>∃t u v,h.get? a=some { cls:=.type "range",data:=.fields #[.int lo t,.int hi u,.int 1 v] }
 |.frz o u=>h.get? a=some o/\Cq H h a u
 |.tbl ps=>h.get? a=some { cls:=.none,data:=.fields ps }
 |.met f x=>h.get? a=some (w9 (.ref f) (.ref x))
 |.ext φ=>φ h/\(∃o,h.get? a=some o)/\∀h1 h2:jj,φ h1->(∀o,h1.get? a=some o->h2.get? a=some o)->φ h2
def HOk (H:Hp)(h:jj):Prop:=∀a o,H a=some o->Cq P w H h a o
end
section
variable {P:gl} {w:iq} {H H':Hp} {h h':jj} {a:eg} {o:HO}
theorem Cq.lt (x:Cq P w H h a o):a<h.objs.size:=by
 cases o with
 |lst xs=>obtain⟨_,_,_,_,e⟩:=x;exact fu e
 |tup xs=>obtain⟨_,_,_,p⟩:=x;exact p.lt
 |dK kvs=>obtain⟨_,_,_,_,o,_,_,e,_⟩:=x;exact fu e
 |dT kvs=>obtain⟨_,_,_,_,o,_,_,e,_⟩:=x;exact fu e
 |set S n=>obtain⟨o,_,_,_,e,_⟩:=x;exact fu e
 |ins C dx fs=>obtain⟨_,_,_,e,_⟩:=x;exact fu e
 |own y=>obtain⟨_,e⟩:=x;exact fu e
 |xd fs=>obtain⟨_,⟨_,_,_,e,_⟩,_⟩:=x;exact fu e
 |rng lo hi=>obtain⟨_,_,_,e⟩:=x;exact fu e
 |frz ob u=>obtain⟨e,_⟩:=x;exact fu e
 |tbl ps=>exact fu (show h.get? a=some _ from x)
 |met f y=>exact fu (show h.get? a=some _ from x)
 |ext φ=>obtain⟨_,⟨_,e⟩,_⟩:=x;exact fu e
theorem zr.mapP {α β:Type}{F G:α->β->Prop}:∀{XI:List α} {XJ:List β},zr F XI XJ->(∀a b,F a b->G a b)->zr G XI XJ
 |_,_,.nil,_=>.nil
 |_,_,.cons r t,f=>.cons (f _ _ r) (zr.mapP t f)
theorem Cq.stay (x:Cq P w H h a o)(k:∀b u,(b=a\/H b=some (.own a))->h.get? b=some u->h'.get? b=some u)
  (ho:∀b,H b=some (.own a)->H' b=some (.own a))(ht:∀b xs,H b=some (.tup xs)->H' b=some (.tup xs)):Cq P w H' h' a o:=by
 induction o with
 |lst xs=>obtain⟨z,its,n,r,e⟩:=x;exact⟨z,its,n,r,k _ _ (.inl rfl) e⟩
 |tup xs=>obtain⟨z,its,r,ob,e,c⟩:=x;exact⟨z,its,r,ob,k _ _ (.inl rfl) e,c⟩
 |dK kvs=>obtain⟨z,y,vs,r,ob,es,ep,e,c⟩:=x;exact⟨z,y,vs,r,ob,es,ep,k _ _ (.inl rfl) e,c⟩
 |dT kvs=>
  obtain⟨z,y,xs,r,ob,es,ep,e,c⟩:=x;exact⟨z,y,xs,zr.mapP r λp q z=>⟨z.1,ht _ _ z.2.1,z.2.2⟩,ob,es,ep,k _ _ (.inl rfl) e,c⟩
 |set S n=>obtain⟨ob,es,ep,t,e,c⟩:=x;exact⟨ob,es,ep,t,k _ _ (.inl rfl) e,c⟩
 |ins C dx fs=>
  obtain⟨d,z,ne,e,mA,⟨od,es,ep,e2,c⟩,r⟩:=x;exact⟨ho _ d,z,ne,k _ _ (.inl rfl) e,mA,⟨od,es,ep,k _ _ (.inr d) e2,c⟩,r⟩
 |own y=>obtain⟨ob,e⟩:=x;exact⟨ob,k _ _ (.inl rfl) e⟩
 |xd fs=>obtain⟨mA,⟨od,es,ep,e,c⟩,r⟩:=x;exact⟨mA,⟨od,es,ep,k _ _ (.inl rfl) e,c⟩,r⟩
 |rng lo hi=>obtain⟨t,u,v,e⟩:=x;exact⟨t,u,v,k _ _ (.inl rfl) e⟩
 |frz ob u ih=>obtain⟨e,q⟩:=x;exact⟨k _ _ (.inl rfl) e,ih q⟩
 |tbl ps=>
  have e:h.get? a=some { cls:=.none,data:=.fields ps }:=x;show h'.get? a=some { cls:=.none,data:=.fields ps };exact k a _ (.inl rfl) e
 |met f y=>
  have e:h.get? a=some (w9 (.ref f) (.ref y)):=x;show h'.get? a=some (w9 (.ref f) (.ref y));exact k a _ (.inl rfl) e
 |ext φ=>obtain⟨p,⟨o,e⟩,st⟩:=x;exact⟨st _ _ p λo q=>k _ _ (.inl rfl) q,⟨o,k _ _ (.inl rfl) e⟩,st⟩
theorem HOk.lt (x:HOk P w H h)(e:H a=some o):a<h.objs.size:=(x a o e).lt
theorem HOk.fresh (x:HOk P w H h)(e:h.objs.size<=a):H a=none:=by
 cases q:H a with
 |none=>rfl
 |some u=>exact absurd (fk (x.lt q) e) (ln _)
theorem HOk.kept (x:HOk P w H h)(k:∀b u,h.get? b=some u->h'.get? b=some u):HOk P w H h':=λa o e=>
 (x a o e).stay (λb u _ q=>k b u q) (λ_ q=>q) λ_ _ q=>q
theorem HOk.laid (x:HOk P w H h)(k:∀b u,h.get? b=some u->h'.get? b=some u)(hp:h.objs.size<=a)(new:Cq P w (upd H a o) h' a o):HOk P w (upd H a o) h':=λb u e=>by
 have hn:=x.fresh hp
 by_cases hb:b=a
 ·subst hb;rw[Af] at e;cases e;exact new
 ·rw[Al hb] at e
  exact(x b u e).stay (λc v _ q=>k c v q) (λc q=>by rw[Al (Aj q hn)];exact q) λc xs q=>by rw[Al (Aj q hn)];exact q
end
def Rd (H:Hp)(a:eg)(u:HO):Prop:=H a=some u\/∃o,H a=some (.frz o u)
theorem Rd.ok {P:gl}{a:eg}{u:HO}(r:Rd H a u)(x:HOk P w H h):Cq P w H h a u:=by
 rcases r with r|⟨o,r⟩
 ·exact x a u r
 ·obtain⟨_,q⟩:=x a _ r
  exact q
def Mut:Option HO->Prop
 |some (.lst _)=>True
 |some (.dK _)=>True
 |some (.dT _)=>True
 |some (.set _ _)=>True
 |some (.ins _ _ _)=>True
 |some (.ext _)=>True
 |_=>False
section
variable {P:gl} {w:iq} {H:Hp} {h h':jj} {x e:eg} {o':HO}
theorem HOk.write (ok:HOk P w H h)(mu:Mut (H x))(he:e=x\/H e=some (.own x))(k:∀b u,b≠e->h.get? b=some u->h'.get? b=some u)(heo:∃u,h'.get? e=some u)
  (new:Cq P w (upd H x o') h' x o'):HOk P w (upd H x o') h':=λb u q=>by
 have nown:∀c y,H c=some (.own y)->c≠x:=λc y r z=>by subst z;rw[r] at mu;exact mu
 have ntup:∀c xs,H c=some (.tup xs)->c≠x:=λc xs r z=>by subst z;rw[r] at mu;exact mu
 by_cases hb:b=x
 ·subst hb;rw[Af] at q;cases q;exact new
 ·rw[Al hb] at q
  by_cases hbe:b=e
  ·have q':H b=some (.own x):=by
    rcases he with z|z
    ·exact absurd (hbe.trans z) hb
    ·rw[hbe];exact z
   rw[q] at q';cases q';obtain⟨v,hv⟩:=heo;exact⟨v,by rw[hbe];exact hv⟩
  ·refine(ok b u q).stay (λc v hc r=>k c v ?_ r) (λc r=>by rw[Al (nown c b r)];exact r) λc xs r=>by rw[Al (ntup c xs r)];exact r
   rcases hc with rfl|hc
   ·exact hbe
   ·rintro rfl
    rcases he with z|z
    ·exact nown c b hc z
    ·rw[hc] at z;cases z;exact hb rfl
end
structure Un (fs ex:List eg) (H H':Hp) (h h':jj):Prop where
 keep:∀b o,h.get? b=some o->H b=none->b∉fs->b∉ex->h'.get? b=some o
 slot:∀b o,h.get? b=some o->H b=none->b∈fs->b∉ex->∃sl,h'.get? b=some { o with slots:=sl }
 free:∀b o,h.get? b=some o->H b=none->b∉ex->H' b=none
 there:∀b o,h.get? b=some o->b∉ex->∃o',h'.get? b=some o'
 tups:∀b xs,H b=some (.tup xs)->H' b=some (.tup xs)
 frzs:∀b o u,H b=some (.frz o u)->H' b=some (.frz o u)
 tbls:∀b ps,H b=some (.tbl ps)->∃more,H' b=some (.tbl (ps++more))
section
variable {fs fs' ex ex':List eg} {H H1 H2:Hp} {h h1 h2 h':jj} {a x e:eg} {o:HO}
theorem Un.any (u:Un fs ex H H1 h h1){b:eg}{ob:Obj}(q:h.get? b=some ob)(n:H b=none)(hx:b∉ex):∃sl,h1.get? b=some { ob with slots:=sl }:=by
 by_cases hb:b∈fs
 ·exact u.slot b ob q n hb hx
 ·exact⟨ob.slots,u.keep b ob q n hb hx⟩
theorem Un.trans (a:Un fs ex H H1 h h1)(b:Un fs ex H1 H2 h1 h2):Un fs ex H H2 h h2 where
 keep:=λc ob q n hc hx=>b.keep c ob (a.keep c ob q n hc hx) (a.free c ob q n hx) hc hx
 slot:=λc ob q n hc hx=>by
  obtain⟨sl,e1⟩:=a.slot c ob q n hc hx;obtain⟨sl',e2⟩:=b.slot c _ e1 (a.free c ob q n hx) hc hx;exact⟨sl',e2⟩
 free:=λc ob q n hx=>by
  obtain⟨o',e1⟩:=a.there c ob q hx;exact b.free c o' e1 (a.free c ob q n hx) hx
 there:=λc ob q hx=>by
  obtain⟨o',e1⟩:=a.there c ob q hx;exact b.there c o' e1 hx
 tups:=λc xs q=>b.tups c xs (a.tups c xs q)
 frzs:=λc ob xs q=>b.frzs c ob xs (a.frzs c ob xs q)
 tbls:=λc ps q=>by
  obtain⟨m1,e1⟩:=a.tbls c ps q;obtain⟨m2,e2⟩:=b.tbls c _ e1;exact⟨m1++m2,by rw[e2,CJ]⟩
theorem Un.kept (k:∀b u,h.get? b=some u->h'.get? b=some u):Un fs ex H H h h':=
 ⟨λb ob q _ _ _=>k b ob q,λb ob q _ _ _=>⟨ob.slots,k b ob q⟩,λ_ _ _ n _=>n,λb ob q _=>⟨ob,k b ob q⟩,λ_ _ q=>q,λ_ _ _ q=>q,λ_ ps q=>⟨#[],by rw[q];simp⟩⟩
theorem Un.refl:Un fs ex H H h h:=Un.kept λ_ _ q=>q
theorem Un.laid (k:∀b u,h.get? b=some u->h'.get? b=some u)(hp:h.objs.size<=a)(hn:H a=none):Un fs ex H (upd H a o) h h' where
 keep:=λb u q _ _ _=>k b u q
 slot:=λb u q _ _ _=>⟨u.slots,k b u q⟩
 free:=λb u q n _=>by rw[Al (gm (fk (fu q) hp))];exact n
 there:=λb u q _=>⟨u,k b u q⟩
 tups:=λb xs q=>by rw[Al (Aj q hn)];exact q
 frzs:=λb u xs q=>by rw[Al (Aj q hn)];exact q
 tbls:=λb ps q=>⟨#[],by rw[Al (Aj q hn),q];simp⟩
theorem Un.write (mu:Mut (H x))(he:e=x\/H e=some (.own x))(k:∀b u,b≠e->h.get? b=some u->h'.get? b=some u)(heo:∃u,h'.get? e=some u):Un fs ex H (upd H x o) h h':=by
 have hx:∀b,H b=none->b≠x:=λb n z=>by subst z;rw[n] at mu;exact mu
 have hb:∀b,H b=none->b≠e:=λb n z=>by
  subst z;rcases he with r|r
  ·exact hx b n r
  ·rw[n] at r;cases r
 have hm:∀b u,H b=some u->¬ Mut (some u)->b≠x:=λb u q nm z=>by subst z;rw[q] at mu;exact nm mu
 refine⟨λb u q n _ _=>k b u (hb b n) q,λb u q n _ _=>⟨u.slots,k b u (hb b n) q⟩,λb u q n _=>by rw[Al (hx b n)];exact n,λb u q _=>?_,
  λb xs q=>by rw[Al (hm b _ q λz=>z)];exact q,λb u xs q=>by rw[Al (hm b _ q λz=>z)];exact q,λb ps q=>⟨#[],by rw[Al (hm b _ q λz=>z),q];simp⟩⟩
 by_cases hbe:b=e
 ·subst hbe;exact heo
 ·exact⟨u,k b u hbe q⟩
end
def trk (h:jj)(H:Hp):List eg:=(fb h.objs.size).filter λa=>(H a).isSome
def fN (h:jj)(H:Hp):jj:=PySem.W.hideAll h (trk h H)
theorem sE (h:jj)(H:Hp):(fN h H).objs.size=h.objs.size:=PySem.W.hideAll_size _ _
theorem T1 {b:eg}{o:Obj}(e:h.get? b=some o)(n:H b=none):(fN h H).get? b=some o:=
 PySem.W.hideAll_get _ e λhm=>by
  have q:(H b).isSome=true:=(vp.mp hm).2;rw[n] at q;simp at q
theorem Acg {b:eg}{o:Obj}(e:(fN h H).get? b=some o):h.get? b=some o/\H b=none:=by
 have e':h.get? b=some o:=PySem.W.of_hideAll (trk h H) e;refine⟨e',?_⟩
 cases q:H b with
 |none=>rfl
 |some x=>
  have hm:b∈trk h H:=vp.mpr ⟨jm.mpr (fu e'),by simp[q]⟩;have z:(fN h H).get? b=none:=PySem.W.hideAll_none (trk h H) hm;rw[z] at e;cases e
structure Mod (K:d6) (mg:Za2) (base:jj):Prop where
 kin:K.In base
 glob:base.Ns mainGlobals mg
 blt:∃mb,base.Ns builtinsNs mb/\∀x:Str,x≠"__name__"->mb x=bootBuiltins x
 nolimit:base.NoLimit
structure Cx where
 prog:gl
 w:iq
 K:d6
 mg:Za2
 base:jj
 A:i9
 N:Za6
 QP:fv
 QY:Hp
 env:Env
 outer:List Env
 stack:List Env
 ex:List eg
 fn:Str->Bool
 calm:Bool
 pn:Za1
 xe:Za0
def frs (l:List Env):List eg:=l.filterMap (·.frame)
abbrev Cx.fs (X:Cx):List eg:=frs X.outer
def Vis (sc:nh)(x:Str):Prop:=sc.names.lookup x=some .local\/sc.names.lookup x=some .cell\/sc.names.lookup x=some .free
def Loc (sc:nh)(x:Str):Prop:=sc.names.lookup x=some .local\/sc.names.lookup x=some .cell
def Aix (env:Env)(h:jj)(m:Za2)(x:Str)(u:fh):Prop:=
 (env.kindOf x=some .local/\m x=some u)\/((env.kindOf x=some .cell\/env.kindOf x=some .free)/\∃c,env.cells.lookup x=some c/\h.IsCell c (some u))
structure Cx.Ok (X:Cx):Prop where
 mod:Mod X.K X.mg X.base
 kind:X.env.scope.kind=.function
 glob:X.env.globals=mainGlobals
 blt:X.env.builtins=builtinsNs
 above:X.QP.heap.objs.size<=X.env.locals
 inj:∀x y c,X.env.cells.lookup x=some c->X.env.cells.lookup y=some c->x=y
 has:∀x,(X.env.kindOf x=some .cell\/X.env.kindOf x=some .free)->∃c,X.env.cells.lookup x=some c
 cab:∀x c,X.fn x=true->X.env.cells.lookup x=some c->X.QP.heap.objs.size<=c
 hd:X.calm=true->X.A.handled=none
 frames:X.A.frames=some X.stack
 stk:X.stack=X.outer\/(X.stack=X.env::X.outer/\X.env.frame=some X.env.locals)
 exf:∀b∈X.ex,b≠X.env.locals/\∀x c,X.env.cells.lookup x=some c->c≠b
 bs:∀b o,X.base.get? b=some o->X.QP.heap.get? b=some o/\X.QY b=none
 bsz:X.base.objs.size<=X.QP.heap.objs.size
 noex:∀b o,X.base.get? b=some o->b∉X.ex
 exfs:∀b∈X.ex,b∉X.fs
 funs:X.QP.heap.FunFrames X.base X.outer
 frf:∀b∈X.fs,X.QY b=none
structure Inv (X:Cx) (pins:Za1) (G:List (Option V)) (H:Hp) (s:fv):Prop where
 ok:X.Ok
 os:s.os=X.QP.os
 bare:ww s.gens
 base:Un X.fs X.ex X.QY H X.QP.heap s.heap
 loc:∃m,s.heap.Ns X.env.locals m/\∀(i:Nat) (x:Str) (v:V),X.N[i]?=some x->G[i]?=some (some v)->Vis X.env.scope x->∃u,Bc v u/\Aix X.env s.heap m x u
 cell:∀x c,X.env.cells.lookup x=some c->∃v,s.heap.IsCell c v
 free:H X.env.locals=none
 freeC:∀x c,X.env.cells.lookup x=some c->H c=none
 pin:∀p∈X.pn++pins,s.heap.get? p.1=some p.2/\H p.1=none/\p.1≠X.env.locals/\p.1∉X.fs/\∀v,p.2.data≠.cell v
 hok:HOk X.prog X.w H s.heap
 len:G.length=X.N.length
section
variable {X:Cx} {pins:Za1} {G:List (Option V)} {H H':Hp} {s:fv} {h':jj}
theorem Cx.Ok.nofr (ok:X.Ok){b:eg}{o:Obj}(e:X.base.get? b=some o):b∉X.fs:=λhb=>by
 have:=(ok.funs.mem hb).1;rw[e] at this;cases this
theorem Inv.bs (I:Inv X pins G H s):∀b o,X.base.get? b=some o->s.heap.get? b=some o/\H b=none:=λb o e=>
 ⟨I.base.keep b o (I.ok.bs b o e).1 (I.ok.bs b o e).2 (I.ok.nofr e) (I.ok.noex b o e),I.base.free b o (I.ok.bs b o e).1 (I.ok.bs b o e).2 (I.ok.noex b o e)⟩
theorem Inv.bk (I:Inv X pins G H s):∀b o,X.base.get? b=some o->s.heap.get? b=some o:=λb o e=>(I.bs b o e).1
theorem Inv.mod (I:Inv X pins G H s):Mod X.K X.mg X.base:=I.ok.mod
theorem Inv.kIn (I:Inv X pins G H s):X.K.In s.heap:=I.ok.mod.kin.keeps I.bk
theorem Inv.lt (I:Inv X pins G H s):X.env.locals<s.heap.objs.size:=let ⟨_,hn,_⟩:=I.loc;hn.lt
theorem Inv.sz (I:Inv X pins G H s):X.QP.heap.objs.size<=s.heap.objs.size:=ir I.ok.above (f9 I.lt)
theorem Inv.nofs (I:Inv X pins G H s){a:eg}(h:s.heap.objs.size<=a):a∉X.fs:=λhb=>by
 obtain⟨_,o,ho,_⟩:=I.ok.funs.mem hb;exact absurd (fk (fu ho) (ir I.sz h)) (ln _)
theorem Inv.cne (I:Inv X pins G H s):∀x c,X.env.cells.lookup x=some c->c≠X.env.locals:=λx c e z=>by
 obtain⟨v,o,ho,hd⟩:=I.cell x c e;obtain⟨m,⟨o',es,ep,ho',hd',_⟩,_⟩:=I.loc;rw[z,ho'] at ho;cases ho;rw[hd'] at hd;cases hd
theorem Inv.funs (I:Inv X pins G H s):s.heap.FunFrames X.base X.outer:=by
 have all:∀(l:List Env),(∀b∈frs l,b∈X.fs)->X.QP.heap.FunFrames X.base l->s.heap.FunFrames X.base l:=by
  intro l
  induction l with
  |nil=>intro _ _;trivial
  |cons env r ih=>
   intro hs hl;obtain⟨hk,⟨L,o,hf,hn,ho,hd⟩,hr⟩:=hl;have hL:L∈X.fs:=hs L (by unfold frs;rw[k5,hf];exact gu);obtain⟨sl,e⟩:=I.base.slot L o ho (I.ok.frf L hL) hL λz=>I.ok.exfs L z hL;exact⟨hk,⟨L,_,hf,hn,e,hd⟩,ih (λb hb=>hs b (by unfold frs;rw[k5,hf];exact gv _ hb)) hr⟩
 exact all X.outer (λ_ hb=>hb) I.ok.funs
theorem Inv.stack (I:Inv X pins G H s):s.heap.FunFrames X.base X.stack:=by
 rcases I.ok.stk with e|⟨e,hf⟩
 ·rw[e];exact I.funs
 ·rw[e]
  obtain⟨m,hn,_⟩:=I.loc;refine .cons (by rw[I.ok.kind];decide) hf hn ?_ I.funs;exact BV (ir I.ok.bsz I.ok.above)
theorem Inv.stkSub (I:Inv X pins G H s):∀b∈frs X.stack,b∈X.env.locals::X.fs:=λb hb=>by
 rcases I.ok.stk with e|⟨e,hf⟩
 ·rw[e] at hb;exact gv _ hb
 ·rw[e] at hb
  unfold frs at hb;rw[k5,hf] at hb;exact hb
theorem Inv.stkFree (I:Inv X pins G H s):∀b∈frs X.stack,H b=none:=λb hb=>by
 rcases iu.mp (I.stkSub b hb) with e|hb
 ·rw[e];exact I.free
 ·obtain⟨_,o,ho,_⟩:=I.ok.funs.mem hb
  exact I.base.free b o ho (I.ok.frf b hb) λz=>I.ok.exfs b z hb
theorem Inv.step {g':Array IS}{d':Drawn}{ch:List eg}(I:Inv X pins G H s)
  (hch:∀b∈ch,(b∈X.ex\/X.QP.heap.objs.size<=b)/\b≠X.env.locals/\(∀x c,X.env.cells.lookup x=some c->c≠b)/\∀p∈X.pn++pins,p.1≠b)
  (keep:∀b o,b≠X.env.locals->b∉X.fs->b∉ch->s.heap.get? b=some o->H b=none->h'.get? b=some o)
  (slot:∀b o,b≠X.env.locals->b∈X.fs->b∉ch->s.heap.get? b=some o->H b=none->∃sl,h'.get? b=some { o with slots:=sl })(free:∀b o,b∉ch->s.heap.get? b=some o->H b=none->H' b=none)
  (there:∀b o,b∉ch->s.heap.get? b=some o->∃o',h'.get? b=some o')
  (tups:∀b xs,H b=some (.tup xs)->H' b=some (.tup xs))(frzs:∀b o u,H b=some (.frz o u)->H' b=some (.frz o u))(tbls:∀b ps,H b=some (.tbl ps)->∃more,H' b=some (.tbl (ps++more)))
  (ns:∀m,s.heap.Ns X.env.locals m->h'.Ns X.env.locals m)(hok:HOk X.prog X.w H' h')(hg:ww g') :
  Inv X pins G H' { s with heap:=h',gens:=g',drawn:=d',toks:=t' }:=by
 have neL:∀b o,X.QP.heap.get? b=some o->b≠X.env.locals:=λb o e=>gm (fk (fu e) I.ok.above);have neC:∀b o,X.QP.heap.get? b=some o->b∉X.ex->b∉ch:=λb o e hx hb=>by
  rcases(hch b hb).1 with z|z
  ·exact hx z
  ·exact absurd (fk (fu e) z) (ln _)
 have cellK:∀x c,X.env.cells.lookup x=some c->∀v,s.heap.IsCell c v->h'.IsCell c v:=λx c e v ⟨o,ho,hd⟩=>by
  have nch:c∉ch:=λz=>(hch c z).2.2.1 x c e rfl
  by_cases hc:c∈X.fs
  ·obtain⟨sl,q⟩:=slot c o (I.cne x c e) hc nch ho (I.freeC x c e)
   exact⟨_,q,hd⟩
  ·exact⟨o,keep c o (I.cne x c e) hc nch ho (I.freeC x c e),hd⟩
 refine⟨I.ok,I.os,hg,⟨λb o e n hb hx=>?_,λb o e n hb hx=>?_,λb o e n hx=>?_,λb o e hx=>?_,λb xs e=>tups b xs (I.base.tups b xs e),λb o xs e=>frzs b o xs (I.base.frzs b o xs e),λb ps e=>?_⟩,?_,λx c e=>?_,?_,λx c e=>?_,λp hp=>?_,hok,I.len⟩
 ·exact keep b o (neL b o e) hb (neC b o e hx) (I.base.keep b o e n hb hx) (I.base.free b o e n hx)
 ·obtain⟨sl,e1⟩:=I.base.slot b o e n hb hx
  obtain⟨sl',e2⟩:=slot b _ (neL b o e) hb (neC b o e hx) e1 (I.base.free b o e n hx);exact⟨sl',e2⟩
 ·obtain⟨o',e1⟩:=I.base.there b o e hx
  exact free b o' (neC b o e hx) e1 (I.base.free b o e n hx)
 ·obtain⟨o',e1⟩:=I.base.there b o e hx
  exact there b o' (neC b o e hx) e1
 ·obtain⟨m1,e1⟩:=I.base.tbls b ps e
  obtain⟨m2,e2⟩:=tbls b _ e1;exact⟨m1++m2,by rw[e2,CJ]⟩
 ·obtain⟨m,hn,hl⟩:=I.loc
  refine⟨m,ns m hn,λi x v e1 e2 e3=>?_⟩;obtain⟨u,r,l⟩:=hl i x v e1 e2 e3;refine⟨u,r,?_⟩;rcases l with l|⟨k,c,e,z⟩
  ·exact .inl l
  ·exact .inr ⟨k,c,e,cellK x c e _ z⟩
 ·obtain⟨v,z⟩:=I.cell x c e
  exact⟨v,cellK x c e v z⟩
 ·obtain⟨m,⟨o,_,_,ho,_⟩,_⟩:=I.loc
  exact free _ o (λz=>(hch _ z).2.1 rfl) ho I.free
 ·obtain⟨v,o,ho,hd⟩:=I.cell x c e
  exact free c o (λz=>(hch c z).2.2.1 x c e rfl) ho (I.freeC x c e)
 ·obtain⟨e,n,ne,nf,d⟩:=I.pin p hp
  have nch:p.1∉ch:=λz=>(hch p.1 z).2.2.2 p hp rfl;exact⟨keep p.1 p.2 ne nf nch e n,free p.1 p.2 nch e n,ne,nf,d⟩
theorem Inv.un (I:Inv X pins G H s)(u:Un X.fs [] H H' s.heap h')(hok:HOk X.prog X.w H' h'):Inv X pins G H' { s with heap:=h',toks:=t' }:=by
 obtain⟨m,⟨o,es,ep,ho,r⟩,_⟩:=id I.loc;obtain⟨sl,hL⟩:=u.any ho I.free (by simp);exact I.step (g':=s.gens) (d':=s.drawn) (ch:=[]) (λ_ z=>nomatch z) (λb o _ hb _ e n=>u.keep b o e n hb (by simp)) (λb o _ hb _ e n=>u.slot b o e n hb (by simp)) (λb o _ e n=>u.free b o e n (by simp)) (λb o _ e=>u.there b o e (by simp)) u.tups u.frzs u.tbls (λm' hm=>by
  obtain⟨o',es',ep',ho',r'⟩:=hm;rw[ho] at ho';cases ho';exact⟨_,es',ep',hL,r'⟩) hok I.bare
theorem Inv.call {g':Array IS}{d':Drawn}{ch:List eg}(I:Inv X pins G H s)(u:Un (frs X.stack) ch H H' s.heap h')(hok:HOk X.prog X.w H' h')(hg:ww g')
  (hch:∀b∈ch,(b∈X.ex\/X.QP.heap.objs.size<=b)/\b≠X.env.locals/\(∀x c,X.env.cells.lookup x=some c->c≠b)/\∀p∈X.pn++pins,p.1≠b) :
  Inv X pins G H' { s with heap:=h',gens:=g',drawn:=d',toks:=t' }:=by
 obtain⟨m,⟨o,es,ep,ho,r⟩,_⟩:=id I.loc;obtain⟨sl,hL⟩:=u.any ho I.free λz=>(hch _ z).2.1 rfl;exact I.step (ch:=ch) hch (λb o hL hb hc e n=>u.keep b o e n (λz=>(iu.mp (I.stkSub b z)).elim hL hb) hc) (λb o _ _ hc e n=>u.any e n hc) (λb o hc e n=>u.free b o e n hc) (λb o hc e=>u.there b o e hc) u.tups u.frzs u.tbls (λm' hm=>by
  obtain⟨o',es',ep',ho',r'⟩:=hm;rw[ho] at ho';cases ho';exact⟨_,es',ep',hL,r'⟩) hok hg
theorem Inv.turned (I:Inv X pins G H s)(k:∀b o,b≠it->s.heap.get? b=some o->h'.get? b=some o)(hn:H it=none)(hL:it≠X.env.locals)
  (h1:it∈X.ex\/X.QP.heap.objs.size<=it)(h2:∀x c,X.env.cells.lookup x=some c->c≠it)(h3:∀p∈X.pn++pins,p.1≠it):Inv X pins G H { s with heap:=h',toks:=t' }:=by
 have nit:∀b u,H b=some u->b≠it:=λb u e z=>by rw[z,hn] at e;cases e
 refine I.step (g':=s.gens) (d':=s.drawn) (ch:=[it]) (λb hb=>?_) (λb o _ _ hc e _=>k b o (λz=>hc (by simp[z])) e) (λb o _ _ hc e _=>⟨o.slots,k b o (λz=>hc (by simp[z])) e⟩) (λ_ _ _ _ n=>n)
  (λb o hc e=>⟨o,k b o (λz=>hc (by simp[z])) e⟩) (λ_ _ e=>e) (λ_ _ _ e=>e) (λb ps e=>⟨#[],by rw[e];simp⟩) (λm hm=>?_) (λb u e=>?_) I.bare
 ·have e:b=it:=by simpa using hb
  subst e;exact⟨h1,hL,h2,h3⟩
 ·obtain⟨o,es,ep,ho,r⟩:=hm
  exact⟨o,es,ep,k _ o (rh hL) ho,r⟩
 ·refine(I.hok b u e).stay (λc v hc q=>k c v ?_ q) (λ_ q=>q) λ_ _ q=>q
  rcases hc with z|z
  ·rw[z];exact nit b u e
  ·exact nit c _ z
theorem Inv.tok (I:Inv X pins G H s)(t:Nat):Inv X pins G H { s with toks:=t }:=I.un (h':=s.heap) (t':=t) Un.refl I.hok
theorem Inv.kept (I:Inv X pins G H s)(k:∀b u,s.heap.get? b=some u->h'.get? b=some u):Inv X pins G H { s with heap:=h',toks:=t' }:=I.un (Un.kept k) (I.hok.kept k)
theorem Inv.laid {a:eg}{o:HO}(I:Inv X pins G H s)(k:∀b u,s.heap.get? b=some u->h'.get? b=some u)(hp:s.heap.objs.size<=a)(new:Cq X.prog X.w (upd H a o) h' a o) :
  Inv X pins G (upd H a o) { s with heap:=h',toks:=t' }:=I.un (Un.laid k hp (I.hok.fresh hp)) (I.hok.laid k hp new)
theorem Inv.write {x e:eg}{o:HO}(I:Inv X pins G H s)(mu:Mut (H x))(he:e=x\/H e=some (.own x))(k:∀b u,b≠e->s.heap.get? b=some u->h'.get? b=some u)(heo:∃u,h'.get? e=some u)
  (new:Cq X.prog X.w (upd H x o) h' x o):Inv X pins G (upd H x o) { s with heap:=h',toks:=t' }:=I.un (Un.write mu he k heo) (I.hok.write mu he k heo new)
theorem Inv.weak {QM:List (Option V)}(I:Inv X pins G H s)(hl:QM.length=G.length)(w:∀(i:Nat) v,QM[i]?=some (some v)->G[i]?=some (some v)):Inv X pins QM H s:=
 ⟨I.ok,I.os,I.bare,I.base,let ⟨m,hn,hl'⟩:=I.loc;⟨m,hn,λi x v e1 e2 e3=>hl' i x v e1 (w i v e2) e3⟩,I.cell,I.free,I.freeC,I.pin,I.hok,hl.trans I.len⟩
theorem Inv.pins_of {pins':Za1}(I:Inv X pins G H s)(h:∀p∈pins',s.heap.get? p.1=some p.2/\H p.1=none/\p.1≠X.env.locals/\p.1∉X.fs/\∀v,p.2.data≠.cell v):Inv X pins' G H s:=
 ⟨I.ok,I.os,I.bare,I.base,I.loc,I.cell,I.free,I.freeC,λp hp=>(il.mp hp).elim (λz=>I.pin p (kj _ z)) (h p),I.hok,I.len⟩
theorem jQ (hN:N.Nodup){i j:Nat}{x:Str}(a:N[i]?=some x)(b:N[j]?=some x):i=j:=by
 obtain⟨h1,e1⟩:=fc.mp a;obtain⟨h2,e2⟩:=fc.mp b;exact(List.getElem_inj hN).mp (e1.trans e2.symm)
theorem tY {E:Za0}{i:Nat}{x:Str}{v:V}{u:fh}{Q:Unit->fv->Prop}(I:Inv X pins G H s)(hN:X.N.Nodup)(hi:X.N[i]?=some x)(hx:Loc X.env.scope x)(r:Bc v u)
  (h:∀s',Inv X pins (G.set i (some v)) H s'->(∃a,va a s.heap s'.heap/\(a=X.env.locals\/X.env.cells.lookup x=some a))->Q () s')(hf:autoParam (X.fn x=true\/X.env.scope.names.lookup x=some .local) QH):wpAny M A (storeName X.env x u) Q E s:=by
 obtain⟨m,hn,hl⟩:=id I.loc;have hcls:(X.env.scope.kind==.class||(X.env.scope.kind==.module&&X.env.locals != X.env.globals))=false:=by rw[I.ok.kind];rfl
 have XL:i<G.length:=by rw[I.len];exact(fc.mp hi).1
 have cne:=I.cne;have tracked:∀{a:eg} {h':jj},(∃o,s.heap.get? a=some o/\H a=none)->va a s.heap h'->HOk X.prog X.w H h':=λ{a h'} ha hs b ob e=>by
  obtain⟨_,_,hfree⟩:=ha;refine(I.hok b ob e).stay (λc w' hc q=>(hs.2 c ?_).trans q) (λ_ q=>q) λ_ _ q=>q;rintro rfl;rcases hc with rfl|hc
  ·rw[hfree] at e;cases e
  ·rw[hfree] at hc;cases hc
 rcases hx with hk|hk
 ·refine wpAny_storeName_local hk hn (λh' hn' hs=>?_) hcls
  obtain⟨oL,_,_,hoL,_⟩:=id hn;refine h _ ⟨I.ok,I.os,I.bare,⟨λb o e n hb hx=>?_,λb o e n hb hx=>?_,I.base.free,λb o e hx=>?_,I.base.tups,I.base.frzs,I.base.tbls⟩,⟨_,hn',λj y v' e1 e2 e3=>?_⟩,λy c e=>?_,I.free,I.freeC,λp hp=>?_,tracked ⟨oL,hoL,I.free⟩ hs,by simpa using I.len⟩ ⟨_,hs,.inl rfl⟩
  ·exact(hs.2 b (gm (fk (fu e) I.ok.above))).trans (I.base.keep b o e n hb hx)
  ·obtain⟨sl,e1⟩:=I.base.slot b o e n hb hx
   exact⟨sl,(hs.2 b (gm (fk (fu e) I.ok.above))).trans e1⟩
  ·obtain⟨o',e1⟩:=I.base.there b o e hx
   exact⟨o',(hs.2 b (gm (fk (fu e) I.ok.above))).trans e1⟩
  ·by_cases hj:j=i
   ·subst hj
    rw[hi] at e1;cases e1;rw[AL XL] at e2;cases e2;exact⟨u,r,.inl ⟨hk,by simp⟩⟩
   ·rw[BR (rh hj)] at e2
    obtain⟨u',r',q⟩:=hl j y v' e1 e2 e3;refine⟨u',r',?_⟩;rcases q with⟨k,e⟩|⟨k,c,e,z⟩
    ·refine .inl ⟨k,?_⟩
     have:y≠x:=λe=>hj (jQ hN e1 (e▸hi));simp[this,e]
    ·exact .inr ⟨k,c,e,z.sameBut hs (cne y c e)⟩
  ·obtain⟨w',z⟩:=I.cell y c e
   exact⟨w',z.sameBut hs (cne y c e)⟩
  ·obtain⟨e,n,ne,nf,d⟩:=I.pin p hp
   exact⟨(hs.2 p.1 ne).trans e,n,ne,nf,d⟩
 ·have hfn:X.fn x=true:=by
   rcases hf with z|z
   ·exact z
   ·rw[z] at hk;cases hk
  obtain⟨c,hc⟩:=I.ok.has x (.inl hk);obtain⟨w',z⟩:=I.cell x c hc;refine wpAny_storeName_cell I.ok.kind hk hc z (λh' hc' hs=>?_);obtain⟨oc,hoc,hocd⟩:=id z;refine h { s with heap:=h' } ⟨I.ok,I.os,I.bare,⟨λb o e n hb hx=>?_,λb o e n hb hx=>?_,I.base.free,λb o e hx=>?_,I.base.tups,I.base.frzs,I.base.tbls⟩,⟨m,hn.sameBut hs (rh (cne x c hc)),λj y v' e1 e2 e3=>?_⟩,λy c' e=>?_,I.free,I.freeC,λp hp=>?_,tracked ⟨oc,hoc,I.freeC x c hc⟩ hs,by simpa using I.len⟩ ⟨c,hs,.inr hc⟩
  ·exact(hs.2 b (gm (fk (fu e) (I.ok.cab x c hfn hc)))).trans (I.base.keep b o e n hb hx)
  ·obtain⟨sl,e1⟩:=I.base.slot b o e n hb hx
   exact⟨sl,(hs.2 b (gm (fk (fu e) (I.ok.cab x c hfn hc)))).trans e1⟩
  ·obtain⟨o',e1⟩:=I.base.there b o e hx
   exact⟨o',(hs.2 b (gm (fk (fu e) (I.ok.cab x c hfn hc)))).trans e1⟩
  ·by_cases hj:j=i
   ·subst hj
    rw[hi] at e1;cases e1;rw[AL XL] at e2;cases e2;exact⟨u,r,.inr ⟨.inl hk,c,hc,hc'⟩⟩
   ·rw[BR (rh hj)] at e2
    obtain⟨u',r',q⟩:=hl j y v' e1 e2 e3;refine⟨u',r',?_⟩;rcases q with q|⟨k,c',e,z'⟩
    ·exact .inl q
    ·refine .inr ⟨k,c',e,z'.sameBut hs ?_⟩
     rintro rfl;exact hj (jQ hN e1 (I.ok.inj _ _ _ e hc▸hi))
  ·by_cases hcc:c'=c
   ·subst hcc;exact⟨_,hc'⟩
   ·obtain⟨w2,z2⟩:=I.cell y c' e
    exact⟨w2,z2.sameBut hs hcc⟩
  ·obtain⟨e,n,ne,nf,d⟩:=I.pin p hp
   refine⟨(hs.2 p.1 ?_).trans e,n,ne,nf,d⟩;intro q;rw[q,hoc] at e;have q':oc=p.2:=ee e;exact d w' (by rw[<-q'];exact hocd)
theorem Ux {E:Za0}{i:Nat}{x:Str}{v:V}{u:fh}{Q:Unit->fv->Prop}(I:Inv X pins G H s)(hN:X.N.Nodup)(hi:X.N[i]?=some x)(hx:Loc X.env.scope x)(r:Bc v u)
  (h:∀s',Inv X pins (G.set i (some v)) H s'->Q () s')(hf:autoParam (X.fn x=true\/X.env.scope.names.lookup x=some .local) QH):wpAny M A (storeName X.env x u) Q E s:=
 tY I hN hi hx r (λs' I' _=>h s' I') hf
theorem Inv.call' {s':fv}{ch:List eg}(I:Inv X pins G H s)(ho:s'.os=s.os)(u:Un (frs X.stack) ch H H' s.heap s'.heap)(hok:HOk X.prog X.w H' s'.heap)(hg:ww s'.gens)
  (hch:∀b∈ch,(b∈X.ex\/X.QP.heap.objs.size<=b)/\b≠X.env.locals/\(∀x c,X.env.cells.lookup x=some c->c≠b)/\∀p∈X.pn++pins,p.1≠b):Inv X pins G H' s':=by
 obtain⟨h',g',d',t',o'⟩:=s';have e:o'=s.os:=ho;subst e;exact I.call (g':=g') (t':=t') (d':=d') u hok hg hch
end
abbrev XK:=fh->Option eg->Hp->Prop
abbrev St:=List (Option V)
abbrev VK:=V->Hp->Prop
abbrev TE:=St->Hp->VK->Prop
abbrev TT:=St->Hp->(Bool->Hp->Prop)->Prop
abbrev TA:=St->Hp->(List V->Hp->Prop)->Prop
structure Ie where
 nx:St->Hp->Prop
 rt:VK
 bk:St->Hp->Prop:=λ_ _=>False
 ct:St->Hp->Prop:=λ_ _=>False
abbrev TS:=Ie->St->Hp->Prop
def EP (X:Cx)(pins:Za1)(G:St)(Q:VK)(u:fh)(s':fv):Prop:=∃v H',Inv X pins G H' s'/\Bc v u/\Q v H'
def TP (X:Cx)(pins:Za1)(G:St)(Q:Bool->Hp->Prop)(b:Bool)(s':fv):Prop:=∃H',Inv X pins G H' s'/\Q b H'
def AP (X:Cx)(pins:Za1)(G:St)(Q:List V->Hp->Prop)(us:Za3)(s':fv):Prop:=∃vs H',Inv X pins G H' s'/\Ay vs us/\Q vs H'
def SP (X:Cx)(pins:Za1)(D:Ie)(f:Flow)(s':fv):Prop:=
 match f with
 |.next=>∃QM H',Inv X pins QM H' s'/\D.nx QM H'
 |.brk=>∃QM H',Inv X pins QM H' s'/\D.bk QM H'
 |.cont=>∃QM H',Inv X pins QM H' s'/\D.ct QM H'
 |.ret u=>∃v QM H',Inv X pins QM H' s'/\Bc v u/\D.rt v H'
def PE (X:Cx)(e:i8)(t:TE):Prop:=
 ∀(pins:Za1) (s:fv) (G:St) (H:Hp) (Q:VK),Inv X pins G H s->t G H Q->wpAny (model X.prog X.w) X.A (eval e X.env) (EP X pins G Q) X.xe s
def PT (X:Cx)(e:i8)(t:TT):Prop:=
 ∀(pins:Za1) (s:fv) (G:St) (H:Hp) (Q:Bool->Hp->Prop),Inv X pins G H s->t G H Q->wpAny (model X.prog X.w) X.A (isTrue e X.env (eval e X.env)) (TP X pins G Q) X.xe s
def PW (X:Cx)(e:i8)(t:TT):Prop:=
 ∀(whole:Sem fh) (pins:Za1) (s:fv) (G:St) (H:Hp) (Q:Bool->Hp->Prop),Inv X pins G H s->t G H Q->wpAny (model X.prog X.w) X.A (isTrue e X.env whole) (TP X pins G Q) X.xe s
theorem PW.pt {e:i8}{t:TT}(h:PW X e t):PT X e t:=h _
def PA (X:Cx)(es:List i8)(t:TA):Prop:=
 ∀(pos:Pos) (pins:Za1) (s:fv) (G:St) (H:Hp) (Q:List V->Hp->Prop),Inv X pins G H s->t G H Q->wpAny (model X.prog X.w) X.A (spliced (backTo pos (starEach es X.env))) (AP X pins G Q) X.xe s
def PS (X:Cx)(st:iz)(t:TS):Prop:=
 ∀(pins:Za1) (s:fv) (G:St) (H:Hp) (D:Ie),Inv X pins G H s->t D G H->wpAny (model X.prog X.w) X.A (exec st X.env) (SP X pins D) X.xe s
def PSs (X:Cx)(st:List iz)(t:TS):Prop:=
 ∀(pins:Za1) (s:fv) (G:St) (H:Hp) (D:Ie),Inv X pins G H s->t D G H->wpAny (model X.prog X.w) X.A (execs st X.env) (SP X pins D) X.xe s
theorem thn {α:Type}{t:Sem α}{Q Q':α->fv->Prop}{E:Za0}(h:wpAny M A t Q E s)(hQ:∀a s,Q a s->Q' a s):wpAny M A t Q' E s:=nz h hQ λ_ _ x=>x
theorem thE {G:St}{e:i8}{t:TE}{Q:VK}{Q':Za0}(he:PE X e t)(I:Inv X pins G H s)(h:t G H Q)(k:∀u s1 x H1,Inv X pins G H1 s1->Bc x u->Q x H1->Q' u s1):wpAny (model X.prog X.w) X.A (eval e X.env) Q' X.xe s:=thn (he pins s G H Q I h) λu s1 ⟨x,H1,a,b,c⟩=>k u s1 x H1 a b c
theorem thA {G:St}{e:List i8}{t:TA}{Q:List V->Hp->Prop}{Q':Za3->fv->Prop}(he:PA X e t)(I:Inv X pins G H s)(h:t G H Q)(k:∀u s1 x H1,Inv X pins G H1 s1->Ay x u->Q x H1->Q' u s1):wpAny (model X.prog X.w) X.A (spliced (backTo pos (starEach e X.env))) Q' X.xe s:=thn (he pos pins s G H Q I h) λu s1 ⟨x,H1,a,b,c⟩=>k u s1 x H1 a b c
section
variable {X:Cx}
def Aas (i:Nat):TE:=λG H Q=>∃v,G[i]?=some (some v)/\Q v H
def tC (v:V):TE:=λ_ H Q=>Q v H
theorem wG {i:Nat}{x:Str}(hN:X.N[i]?=some x)(hv:Vis X.env.scope x)(hd:autoParam ((x==("__debug__":Str))=false) QF)(hcd:autoParam ((x==("__classdict__":Str))=false) QF):PE X (.Name x pos) (Aas i):=by
 k_in;obtain⟨v,e,h⟩:=h;obtain⟨m,hn,hl⟩:=I.loc;obtain⟨u,r,l⟩:=hl i x v hN e hv;have fin:EP X pins G Q u s:=⟨v,H,I,r,h⟩;rcases l with⟨hk,hm⟩|⟨hk,c,hc,hcell⟩
 ·exact yk (xn I.ok.kind hk hn hm fin) hd
 ·rcases hk with hk|hk
  ·exact yk (ER I.ok.kind hk hc hcell fin) hd
  ·exact yk (EQ I.ok.kind hk hc hcell fin hcd) hd
theorem Ae {i j pos}:PE X (.Constant (.int i) j pos) (tC (.int i)):=λ_ _ _ H _ I h=>wpAny_Constant_int ⟨.int i,H,I.tok _,⟨_,rfl⟩,h⟩
theorem Jk {b j pos}:PE X (.Constant (.bool b) j pos) (tC (.bl b)):=λ_ _ _ H _ I h=>Constant_bool ⟨.bl b,H,I,rfl,h⟩
theorem Ek {j pos}:PE X (.Constant .none j pos) (tC .non):=λ_ _ _ H _ I h=>CI ⟨.non,H,I,rfl,h⟩
theorem Cy {x j pos}:PE X (.Constant (.str x) j pos) (tC (.str x)):=λ_ _ _ H _ I h=>Calls.Constant_str ⟨.str x,H,I.tok _,⟨_,rfl⟩,h⟩
def Gl (X:Cx)(x:Str):Prop:=X.env.kindOf x=some .globalImplicit
theorem Ov {E:Za0}{G:St}{x:Str}{u:fh}{Q:Za0}(I:Inv X pins G H s)(hg:Gl X x)(hm:X.mg x=some u)(h:Q u s)
  (hd:autoParam ((x==("__debug__":Str))=false) QF):wpAny (model X.prog X.w) X.A (eval (.Name x pos) X.env) Q E s:=
 ze I.ok.kind hg (Calls.loadGlobal_global (by rw[I.ok.glob];exact I.mod.glob.keeps I.bk) hm h) hd
theorem Do {E:Za0}{G:St}{x:Str}{u:fh}{Q:Za0}(I:Inv X pins G H s)(hg:Gl X x)(hm:X.mg x=none)(hv:bootBuiltins x=some u)(h:Q u s)
  (hn:autoParam (x≠"__name__") QF)(hd:autoParam ((x==("__debug__":Str))=false) QF):wpAny (model X.prog X.w) X.A (eval (.Name x pos) X.env) Q E s:=by
 obtain⟨mb,h1,h2⟩:=I.mod.blt;exact ze I.ok.kind hg (Calls.loadGlobal_builtin (by rw[I.ok.glob];exact I.mod.glob.keeps I.bk) hm (by rw[I.ok.blt];exact h1.keeps I.bk) ((h2 x hn).trans hv) h) hd
theorem Oc {x:Str}{v:V}{u:fh}(hg:Gl X x)(hm:X.mg x=some u)(r:Bc v u)(hd:autoParam ((x==("__debug__":Str))=false) QF):PE X (.Name x pos) (tC v):=
 λ_ _ _ H _ I h=>Ov I hg hm ⟨v,H,I,r,h⟩ hd
theorem G9 {x:Str}{v:V}{u:fh}(hg:Gl X x)(hm:X.mg x=none)(hv:bootBuiltins x=some u)(r:Bc v u)(hn:autoParam (x≠"__name__") QF)(hd:autoParam ((x==("__debug__":Str))=false) QF):PE X (.Name x pos) (tC v):=
 λ_ _ _ H _ I h=>Do I hg hm hv ⟨v,H,I,r,h⟩ hn hd
variable {a b:i8} {ta tb:TE} {pos:Pos}
def PC (X:Cx)(op:vb)(a b:i8)(t:TE):Prop:=
 ∀(pins:Za1) (s:fv) (G:St) (H:Hp) (Q:VK),Inv X pins G H s->t G H Q ->
  wpAny (model X.prog X.w) X.A (eval a X.env) (λv QN=>wpAny (model X.prog X.w) X.A (eval b X.env) (λu QZ=>wpAny (model X.prog X.w) X.A (compareOp op v u) (EP X pins G Q) X.xe QZ) X.xe QN) X.xe s
theorem iX (b:i8)(h:op≠.In)(h2:op≠.NotIn):behindInMarks op b=false:=by
 have e1:(op==IW)=false:=by cases op<;>first|rfl|exact absurd rfl h
 have e2:(op==GG)=false:=by cases op<;>first|rfl|exact absurd rfl h2
 cases b<;>simp[behindInMarks,e1,e2]
def Ahk (ta:TE):TE:=λG H Q=>ta G H λx H1=>Q (.bl (decide (x=.non))) H1
def Acn (ta:TE):TE:=λG H Q=>ta G H λx H1=>Q (.bl (!decide (x=.non))) H1
theorem Bc.none_iff {x:V}{v:fh}(r:Bc x v):(v==sw)=decide (x=.non):=by
 cases x with
 |non=>cases r;rfl
 |bl _=>cases r;rfl
 |int _=>obtain⟨t,rfl⟩:=r;rfl
 |str _=>obtain⟨t,rfl⟩:=r;rfl
 |byt _=>obtain⟨t,rfl⟩:=r;rfl
 |flt _=>obtain⟨t,rfl⟩:=r;rfl
 |ref _=>cases r;rfl
 |ty _=>cases r;rfl
theorem eM {j pos'}(ha:PE X a ta):PC X .Is a (.Constant .none j pos') (Ahk ta):=by
 k_in;refine thE ha I h λv s1 x H1 I1 r1 q1=>?_;exact CI (is_none_gen ⟨.bl _,H1,I1,by rw[r1.none_iff];rfl,q1⟩)
theorem eQ {j pos'}(ha:PE X a ta):PC X .IsNot a (.Constant .none j pos') (Acn ta):=by
 k_in;refine thE ha I h λv s1 x H1 I1 r1 q1=>?_;exact CI (isnot_none_gen ⟨.bl _,H1,I1,by rw[r1.none_iff];rfl,q1⟩)
def tB (t:TE):TT:=λG H Q=>t G H λx H1=>∃c,x=.bl c/\Q c H1
theorem Afd {t:TE}(h:PC X op a b t)(h1:behindInMarks op b=false:=by first|exact iX _ (by decide) (by decide)|rfl):PE X (.Compare a [op] [b] pos) t:=λpins s G H Q I hw=>wpAny_Compare1 (h pins s G H Q I hw) h1
theorem Rc {t:TE}(h:PC X op a b t)(h1:behindInMarks op b=false:=by first|exact iX _ (by decide) (by decide)|rfl):PT X (.Compare a [op] [b] pos) (tB t):=by
 intro pins s G H Q I hw;refine wpAny_isTrue_Compare1 (thn (h pins s G H _ I hw) λv s1 h1=>thn h1 λu s2 h2=>thn h2 λc s3 ⟨x,H1,I1,r1,q1⟩=>?_) h1;obtain⟨d,rfl,q⟩:=q1;cases r1;exact oi ⟨H1,I1,q⟩
theorem Bt {e:i8}{t:TE}(h:PE X e t)(he:autoParam (∀whole,isTrue e X.env whole=(do let v <-whole;standAt e.pos;holding [v] (truthy v))) QJ):PT X e (tB t):=by
 intro pins s G H Q I hw;refine isTrue_plain (thE h I hw λv s1 x H1 I1 r1 q1=>?_) (he _);obtain⟨d,rfl,q⟩:=q1;cases r1;exact oi ⟨H1,I1,q⟩
variable {tA tB':TT} {rest:List i8}
def Af7 (t u:TT):TT:=λG H Q=>t G H λc H1=>if c=true then u G H1 Q else Q false H1
def tOr (t u:TT):TT:=λG H Q=>t G H λc H1=>if c=true then Q true H1 else u G H1 Q
def Ah6 (t:TT):TT:=λG H Q=>t G H λc H1=>Q (!c) H1
theorem Tq (ha:PT X a tA):PW X (.BoolOp .And [a] pos) tA:=by
 intro wh pins s G H Q I h;refine isTrue_and (thn (ha pins s G H Q I h) λc s1 e=>?_)
 cases c with
 |true=>exact isTrue_and_nil e
 |false=>exact e
theorem Ho (ha:PT X a tA):PW X (.BoolOp .Or [a] pos) tA:=by
 intro wh pins s G H Q I h;refine isTrue_or (thn (ha pins s G H Q I h) λc s1 e=>?_)
 cases c with
 |false=>exact isTrue_or_nil e
 |true=>exact e
theorem fZ (ha:PT X a tA)(hb:PW X (.BoolOp .And (b::rest) pos) tB'):PW X (.BoolOp .And (a::b::rest) pos) (Af7 tA tB'):=by
 intro wh pins s G H Q I h;refine isTrue_and (thn (ha pins s G H _ I h) λc s1 ⟨H1,I1,q1⟩=>?_)
 cases c with
 |true=>exact hb wh pins s1 G H1 Q I1 q1
 |false=>exact⟨H1,I1,q1⟩
theorem Ik (ha:PT X a tA)(hb:PW X (.BoolOp .Or (b::rest) pos) tB'):PW X (.BoolOp .Or (a::b::rest) pos) (tOr tA tB'):=by
 intro wh pins s G H Q I h;refine isTrue_or (thn (ha pins s G H _ I h) λc s1 ⟨H1,I1,q1⟩=>?_)
 cases c with
 |true=>exact⟨H1,I1,q1⟩
 |false=>exact hb wh pins s1 G H1 Q I1 q1
theorem Cl (ha:PT X a tA):PT X (.UnaryOp .Not a pos) (Ah6 tA):=by
 k_in;exact isTrue_not (ha pins s G H (λc H1=>Q (!c) H1) I h)
def Acv (ta tb:TE):TE:=λG H Q=>ta G H λx H1=>∃c,x=.bl c/\if c=true then tb G H1 Q else Q (.bl false) H1
def Acm (ta:TE):TE:=λG H Q=>ta G H λx H1=>∃c,x=.bl c/\Q (.bl (!c)) H1
theorem Uk {op}{t:TE}(h:PE X a t):PE X (.BoolOp op [a] pos) t:=λpins s G H Q I hw=>BoolOp_one (h pins s G H Q I hw)
theorem U9 (ha:PE X a ta)(hb:PE X (.BoolOp .And (b::rest) pos) tb):PE X (.BoolOp .And (a::b::rest) pos) (Acv ta tb):=by
 k_in;refine BoolOp_and (thE ha I h λv s1 x H1 I1 r1 q1=>?_);obtain⟨c,rfl,q1⟩:=q1;cases r1;refine oi ?_
 cases c with
 |true=>exact hb pins s1 G H1 Q I1 q1
 |false=>exact⟨.bl false,H1,I1,rfl,q1⟩
theorem zE (ha:PE X a ta):PE X (.UnaryOp .Not a pos) (Acm ta):=by
 k_in;refine UnaryOp_ (thE ha I h λv s1 x H1 I1 r1 q1=>?_);obtain⟨c,rfl,q1⟩:=q1;cases r1;exact not_of (oi ⟨.bl (!c),H1,I1,rfl,q1⟩)
def tIf (t:TT)(ta tb:TE):TE:=λG H Q=>t G H λc H1=>if c=true then ta G H1 Q else tb G H1 Q
theorem Ca {c:i8}(hc:PT X c tA)(ha:PE X a ta)(hb:PE X b tb):PE X (.IfExp c a b pos) (tIf tA ta tb):=by
 k_in;refine wpAny_IfExp (thn (hc pins s G H _ I h) λd s1 ⟨H1,I1,q1⟩=>?_)
 cases d with
 |true=>exact ha pins s1 G H1 Q I1 q1
 |false=>exact hb pins s1 G H1 Q I1 q1
end
def SqL (K:d6)(H:Hp)(a:eg)(xs:List V):Prop:=
 Rd H a (.lst xs) \/
  ∃(o:Obj) (its:Array fh) (n:Nat),K.lookup a=some o/\o.cls=.type "list"/\o.dict=none/\o.data=.seq its n/\its.size<=sizeLine/\Ay xs its.toList
def SqT (K:d6)(H:Hp)(a:eg)(xs:List V):Prop:=
 Rd H a (.tup xs) \/
  ∃(o:Obj) (its:Array fh) (n:Nat),K.lookup a=some o/\o.cls=.type "tuple"/\o.data=.seq its n/\its.size<=sizeLine/\Ay xs its.toList
def Air:fh->Option V
 |.none=>some .non
 |.bool b=>some (.bl b)
 |.int i _=>some (.int i)
 |.str x _=>some (.str x)
 |.bytes b _=>some (.byt b)
 |.float b _=>some (.flt b)
 |.ref a=>some (.ref a)
 |.type n=>some (.ty n)
 |_=>none
theorem Bc.abs {x:V}{u:fh}(r:Bc x u):Air u=some x:=by
 cases x with
 |non=>cases r;rfl
 |bl _=>cases r;rfl
 |int _=>obtain⟨t,rfl⟩:=r;rfl
 |str _=>obtain⟨t,rfl⟩:=r;rfl
 |byt _=>obtain⟨t,rfl⟩:=r;rfl
 |flt _=>obtain⟨t,rfl⟩:=r;rfl
 |ref _=>cases r;rfl
 |ty _=>cases r;rfl
theorem Bc.inj {x:V}{u:fh}(r:Bc x u)(q:Bc y u):x=y:=ee (r.abs.symm.trans q.abs)
theorem Ay.inj:∀{xs ys:List V} {us:Za3},Ay xs us->Ay ys us->xs=ys
 |_,_,_,.nil,.nil=>rfl
 |_,_,_,.cons r t,.cons r' t'=>by rw[r.inj r',Ay.inj t t']
section
variable {X:Cx} {pins:Za1} {G:St} {H:Hp} {s:fv} {a:eg} {xs ys:List V}
theorem SqL.of {K:d6}(h:H a=some (.lst xs)):SqL K H a xs:=.inl (.inl h)
theorem SqT.of {K:d6}(h:H a=some (.tup xs)):SqT K H a xs:=.inl (.inl h)
theorem Inv.list (I:Inv X pins G H s)(h:SqL X.K H a xs):∃its:Za3,Ay xs its/\PlainL s.heap a its.toArray/\xs.length<=sizeLine:=by
 rcases h with h|⟨o,its,n,hk,hc,hd,hs,hz,r⟩
 ·obtain⟨z,its,n,r,e⟩:=h.ok I.hok
  exact⟨its,r,⟨_,n,e,rfl,rfl,rfl⟩,z⟩
 ·refine⟨its.toList,r,⟨o,n,I.kIn a o hk,hc,hd,by simpa using hs⟩,?_⟩
  have e:=r.length;simp only[gh] at e;lia
theorem Inv.tuple (I:Inv X pins G H s)(h:SqT X.K H a xs):∃its:Za3,Ay xs its/\IsTup s.heap a its.toArray/\xs.length<=sizeLine:=by
 rcases h with h|⟨o,its,n,hk,hc,hs,hz,r⟩
 ·obtain⟨z,its,r,p⟩:=h.ok I.hok
  exact⟨its,r,p,z⟩
 ·refine⟨its.toList,r,⟨o,I.kIn a o hk,hc,n,by simpa using hs⟩,?_⟩
  have e:=r.length;simp only[gh] at e;lia
theorem Inv.list_inj (I:Inv X pins G H s)(h:SqL X.K H a xs)(h':SqL X.K H a ys):xs=ys:=by
 obtain⟨its,r,⟨o,n,e,_,_,d⟩,_⟩:=I.list h;obtain⟨its',r',⟨o',n',e',_,_,d'⟩,_⟩:=I.list h';rw[e] at e';cases e';rw[d] at d'
 injection d' with d1 _
 have:its=its':=by simpa using congrArg FP d1
 subst this;exact r.inj r'
theorem Inv.tuple_inj (I:Inv X pins G H s)(h:SqT X.K H a xs)(h':SqT X.K H a ys):xs=ys:=by
 obtain⟨its,r,⟨o,e,_,n,d⟩,_⟩:=I.tuple h;obtain⟨its',r',⟨o',e',_,n',d'⟩,_⟩:=I.tuple h';rw[e] at e';cases e';rw[d] at d'
 injection d' with d1 _
 have:its=its':=by simpa using congrArg FP d1
 subst this;exact r.inj r'
end
abbrev Cx.wish (X:Cx)(E:Za0):Cx:={ X with xe:=E }
abbrev Cx.nox (X:Cx):Cx:=X.wish λ_ _=>False
theorem Cx.Ok.wish (ok:X.Ok)(E:Za0):(X.wish E).Ok:=
 ⟨ok.mod,ok.kind,ok.glob,ok.blt,ok.above,ok.inj,ok.has,ok.cab,ok.hd,ok.frames,ok.stk,ok.exf,ok.bs,ok.bsz,ok.noex,ok.exfs,ok.funs,ok.frf⟩
theorem Cx.Ok.unwish {E:Za0}(ok:(X.wish E).Ok):X.Ok:=
 ⟨ok.mod,ok.kind,ok.glob,ok.blt,ok.above,ok.inj,ok.has,ok.cab,ok.hd,ok.frames,ok.stk,ok.exf,ok.bs,ok.bsz,ok.noex,ok.exfs,ok.funs,ok.frf⟩
section
variable {X:Cx} {pins:Za1} {G:St} {H:Hp} {s:fv} {E:Za0}
theorem Inv.wish (I:Inv X pins G H s)(E:Za0):Inv (X.wish E) pins G H s:=⟨I.ok.wish E,I.os,I.bare,I.base,I.loc,I.cell,I.free,I.freeC,I.pin,I.hok,I.len⟩
theorem Inv.unwish (I:Inv (X.wish E) pins G H s):Inv X pins G H s:=⟨I.ok.unwish,I.os,I.bare,I.base,I.loc,I.cell,I.free,I.freeC,I.pin,I.hok,I.len⟩
theorem SP.unwish {f:Flow}{s':fv}(h:SP (X.wish E) pins D f s'):SP X pins D f s':=by
 cases f with
 |next=>obtain⟨QM,H',I,q⟩:=h;exact⟨QM,H',I.unwish,q⟩
 |brk=>obtain⟨QM,H',I,q⟩:=h;exact⟨QM,H',I.unwish,q⟩
 |cont=>obtain⟨QM,H',I,q⟩:=h;exact⟨QM,H',I.unwish,q⟩
 |ret u=>obtain⟨v,QM,H',I,r,q⟩:=h;exact⟨v,QM,H',I.unwish,r,q⟩
theorem PSs.nox {st:List iz}{t:TS}(h:PSs X.nox st t):PSs X st t:=λpins s G H D I hw=>
 nz (h pins s G H D (I.wish _) hw) (λ_ _ q=>q.unwish) λ_ _ z=>ki z
end
section
variable {X:Cx} {st:iz} {rest:List iz} {t u:TS} {e:i8} {te:TE} {pos:Pos}
def Adb:TS:=λD G H=>D.nx G H
def Afy (t u:TS):TS:=λD G H=>t { D with nx:=u D } G H
theorem Aw:PSs X [] Adb:=λ_ _ G H _ I h=>wx ⟨G,H,I,h⟩
theorem Ab (h1:PS X st t)(h2:PSs X rest u):PSs X (st::rest) (Afy t u):=by
 k_end;refine wpAny_execs_cons (thn (h1 pins s G H { D with nx:=u D } I h) λf s1 q=>?_)
 cases f with
 |next=>
  obtain⟨QM,H',I',q⟩:=q;exact h2 pins s1 QM H' D I' q
 |ret v=>exact q
 |brk=>exact q
 |cont=>exact q
theorem Ad (h1:PS X st t):PSs X [st] t:=by
 k_end;refine wpAny_execs_cons (thn (h1 pins s G H D I h) λf s1 q=>?_)
 cases f with
 |next=>exact wx q
 |ret v=>exact q
 |brk=>exact q
 |cont=>exact q
theorem Inv.quiet {G:St}(I:Inv X pins G H s):interactive X.env=false:=by simp[interactive,I.ok.kind]
def Act (te:TE):TS:=λD G H=>te G H λ_ H1=>D.nx G H1
theorem As (he:PE X e te)(hs:autoParam (swapsWith e none pos.line X.env=pure false) QD):PS X (.Expr e pos) (Act te):=by
 k_end;exact wpAny_Expr_any (thE he I h λv s1 x H1 I1 r1 q1=>⟨G,H1,I1,q1⟩) I.quiet hs
def Ahl (te:TE):TS:=λD G H=>te G H D.rt
theorem Am (he:PE X e te):PS X (.Return (some e) pos) (Ahl te):=by
 k_end;exact wpAny_Return_some (thE he I h λv s1 x H1 I1 r1 q1=>⟨x,G,H1,I1,r1,q1⟩)
def Ahs (c:TT)(t u:TS):TS:=λD G H=>c G H λb H1=>if b=true then t D G H1 else u D G H1
theorem Bm {c:i8}{a b:List iz}{tc:TT}(hc:PT X c tc)(ha:PSs X a t)(hb:PSs X b u):PS X (.If c a b pos) (Ahs tc t u):=by
 k_end;refine wpAny_If (thn (hc pins s G H _ I h) λd s1 ⟨H1,I1,q1⟩=>?_)
 cases d with
 |true=>exact ha pins s1 G H1 D I1 q1
 |false=>exact hb pins s1 G H1 D I1 q1
def Aez:TS:=λ_ _ _=>False
theorem B9:PS X st Aez:=λ_ _ _ _ _ _ h=>h.elim
end
abbrev TG:=V->St->Hp->(St->Hp->Prop)->Prop
abbrev TGs:=List V->St->Hp->(St->Hp->Prop)->Prop
def PG (X:Cx)(target:i8)(t:TG):Prop:=
 ∀(pins:Za1) (s:fv) (G:St) (H:Hp) (v:V) (u:fh) (Q:St->Hp->Prop),Inv X pins G H s->Bc v u->t v G H Q ->
  wpAny (model X.prog X.w) X.A (assign target X.env u) (λ_ s'=>∃QM H',Inv X pins QM H' s'/\Q QM H') X.xe s
def PGs (X:Cx)(ts:List i8)(t:TGs):Prop:=
 ∀(pins:Za1) (s:fv) (G:St) (H:Hp) (vs:List V) (us:Za3) (Q:St->Hp->Prop),Inv X pins G H s->Ay vs us->t vs G H Q ->
  wpAny (model X.prog X.w) X.A (assignInOrder ((assignEach ts X.env).map (·.2)) us) (λ_ s'=>∃QM H',Inv X pins QM H' s'/\Q QM H') X.xe s
abbrev Abu:=V->V->V->Hp->(Hp->Prop)->Prop
def Ahv (X:Cx)(t:Abu):Prop:=
 ∀(pins:Za1) (s:fv) (G:St) (H:Hp) (o i v:V) (ov iv u:fh) (Q:Hp->Prop),Inv X pins G H s->Bc o ov->Bc i iv->Bc v u->t o i v H Q ->
  wpAny (model X.prog X.w) X.A (setItem ov iv u) (λ_ s'=>∃H',Inv X pins G H' s'/\Q H') X.xe s
abbrev TIp:=V->V->Hp->VK->Prop
def PIp (X:Cx)(op:EM)(t:TIp):Prop:=
 ∀(pins:Za1) (s:fv) (G:St) (H:Hp) (x y:V) (v u:fh) (Q:VK),Inv X pins G H s->Bc x v->Bc y u->t x y H Q ->
  wpAny (model X.prog X.w) X.A (inplaceOp op v u) (EP X pins G Q) X.xe s
section
variable {X:Cx} {pos:Pos}
def Eg (i:Nat):TG:=λv G H Q=>Q (G.set i (some v)) H
theorem Mr {i:Nat}{x:Str}(hN:X.N.Nodup)(hi:X.N[i]?=some x)(hx:Loc X.env.scope x)(hf:autoParam (X.fn x=true\/X.env.scope.names.lookup x=some .local) QH):PG X (.Name x pos) (Eg i):=by
 intro pins s G H v u Q I r h;exact wpAny_assign_Name (Ux I hN hi hx r (λs' I'=>⟨_,H,I',h⟩) hf)
def lM:TGs:=λvs G H Q=>vs=[]/\Q G H
def Ja (t:TG)(u:TGs):TGs:=λvs G H Q=>∃v r,vs=v::r/\t v G H λQM H'=>u r QM H' Q
theorem Hd:PGs X [] lM:=by
 intro pins s G H vs us Q I r h;obtain⟨e,h⟩:=h;subst e;cases r;exact assignInOrder_nil ⟨G,H,I,h⟩
theorem B4 {e:i8}{es:List i8}{t:TG}{u:TGs}(h1:PG X e t)(h2:PGs X es u)
  (hs:autoParam ((assignEach (e::es) X.env).map (·.2)=assign e X.env::(assignEach es X.env).map (·.2)) QD):PGs X (e::es) (Ja t u):=by
 intro pins s G H vs us Q I r h;obtain⟨v,vr,e1,h⟩:=h;subst e1
 cases r with
 |cons r rr=>
  rw[hs];refine assignInOrder_cons (thn (h1 pins s G H _ _ _ I r h) λ_ s1 ⟨XA,H1,I1,q1⟩=>?_);exact h2 pins s1 XA H1 _ _ Q I1 rr q1
def mZ (K:d6)(n:Nat)(t:TGs):TG:=λv G H Q=>∃a xs,v=.ref a/\SqT K H a xs/\xs.length=n/\t xs G H Q
theorem J2 {es:List i8}{k:Nat}{t:TGs}(hc:X.calm=true)(h:PGs X es t)
  (hn:autoParam ((assignEach es X.env).length=n) QD)(hst:autoParam ((assignEach es X.env).findIdx? (·.1)=none) QD):PG X (.Tuple es k pos) (mZ X.K n t):=by
 intro pins s G H v u Q I r hw;obtain⟨a,xs,e1,hq,hl,hw⟩:=hw;subst e1;cases r;obtain⟨its,rv,ht,hz⟩:=I.tuple hq;refine assign_Tuple_tuple (I.ok.hd hc) ht (by simp[hn,<-hl,rv.length]) hst λh' hx=>?_;have I1:Inv X pins G H { s with heap:=h' }:=I.kept (t':=s.toks) λb o e=>hx b o (gm (fu e)) e;exact h pins _ G H xs _ Q I1 (by simpa using rv) hw
def Agh (to ti:TE)(t:Abu):TG:=λv G H Q=>to G H λo H1=>ti G H1 λi H2=>t o i v H2 λH3=>Q G H3
theorem wE {o i:i8}{to ti:TE}{t:Abu}(ho:PE X o to)(hi:PE X i ti)(hs:Ahv X t)
  (ha:autoParam (∀v,assign (.Subscript o i pos) X.env v=(do
   let ov <-holding [v] (eval o X.env)
   let iv <-holding [v,ov] (eval i X.env)
   standAt pos
   holding [v,ov,iv] (setItem ov iv v)
   release [v,ov,iv] [])) QJ):PG X (.Subscript o i pos) (Agh to ti t):=by
 intro pins s G H v u Q I r h;rw[ha];refine wpAny_bind (wpAny_holding (thE ho I h λov s1 x H1 I1 r1 q1=>?_));refine wpAny_bind (wpAny_holding (thE hi I1 q1 λiv s2 y H2 I2 r2 q2=>?_));refine wpAny_bind (vd (wpAny_bind (wpAny_holding (thn (hs pins s2 G H2 x y v ov iv u _ I2 r1 r2 r q2) λ_ s3 ⟨H3,I3,q3⟩=>?_))));exact wpAny_release ⟨G,H3,I3,q3⟩
def tG (te:TE)(g:TG):TS:=λD G H=>te G H λx H1=>g x G H1 D.nx
theorem vM {e:i8}{g:TG}(he:PE X e te)(hg:PG X tg g)(hs:autoParam (swapsWithSole [tg] e pos.line X.env=pure false) QD)(hw:autoParam (swappedStores [tg] e X.env=pure none) QD)
  (h1:autoParam ((assignEach [tg] X.env).map (·.2)=[assign tg X.env]) QD):PS X (.Assign [tg] e pos) (tG te g):=by
 k_end;refine wpAny_Assign_stores (thE he I h λv s1 x H1 I1 r1 q1=>?_) hs hw;rw[h1];exact thn (hg pins s1 G H1 x v _ I1 r1 q1) λ_ s2 q=>q
theorem Z8 {i:Nat}{x:Str}{e:i8}{pos':Pos}(hN:X.N.Nodup)(hi:X.N[i]?=some x)(hx:Loc X.env.scope x)(he:PE X e te)(hs:autoParam (swapsWith e (some (.Name x pos')) pos.line X.env=pure false) QD)(hf:autoParam (X.fn x=true\/X.env.scope.names.lookup x=some .local) QH) :
  PS X (.Assign [.Name x pos'] e pos) (tG te (Eg i)):=by
 k_end;refine wpAny_Assign_Name (thE he I h λv s1 y H1 I1 r1 q1=>?_) hs;exact Ux I1 hN hi hx r1 (λs2 I2=>⟨_,H1,I2,q1⟩) hf
def Ae0 (i:Nat)(te:TE)(ti:TIp):TS:=λD G H=>∃x,G[i]?=some (some x)/\te G H λy H1=>ti x y H1 λz H2=>D.nx (G.set i (some z)) H2
theorem Aey {i:Nat}{x:Str}{e:i8}{op:EM}{ti:TIp}{pos':Pos}(hN:X.N.Nodup)(hi:X.N[i]?=some x)(hx:Loc X.env.scope x)(he:PE X e te)(ho:PIp X op ti)(hf:autoParam (X.fn x=true\/X.env.scope.names.lookup x=some .local) QH) :
  PS X (.AugAssign (.Name x pos') op e pos) (Ae0 i te ti):=by
 k_end;obtain⟨v,e1,h⟩:=h;obtain⟨m,hn,hl⟩:=I.loc;have vis:Vis X.env.scope x:=by rcases hx with k|k;exact .inl k;exact .inr (.inl k)
 obtain⟨u,r,l⟩:=hl i x v hi e1 vis;refine wpAny_AugAssign_Name ?_;have go:wpAny (model X.prog X.w) X.A (eval e X.env) (λw QZ=>wpAny (model X.prog X.w) X.A (inplaceOp op u w) (λr XO=>wpAny (model X.prog X.w) X.A (storeName X.env x r) (λ_=>SP X pins D .next) X.xe XO) X.xe QZ) X.xe s:=by
  refine thE he I h λw s1 y H1 I1 r1 q1=>?_;refine thn (ho pins s1 G H1 v y u w _ I1 r r1 q1) λz s2 ⟨zv,H2,I2,r2,q2⟩=>?_;exact Ux I2 hN hi hx r2 (λs3 I3=>⟨_,H2,I3,q2⟩) hf
 rcases l with⟨hk,hm⟩|⟨hk,c,hc,hcell⟩
 ·exact xn I.ok.kind hk hn hm go
 ·rcases hk with hk|hk
  ·exact ER I.ok.kind hk hc hcell go
  ·rcases hx with k|k
   ·have:X.env.scope.names.lookup x=some .free:=hk
    rw[k] at this;cases this
   ·have:X.env.scope.names.lookup x=some .free:=hk
    rw[k] at this;cases this
def ipI (f:Int->Int->Int):TIp:=λx y H Q=>∃i j,x=.int i/\y=.int j/\Q (.int (f i j)) H
theorem N0:PIp X .Add (ipI λi j=>i+j):=by
 intro pins s G H x y v u Q I r1 r2 h;obtain⟨i,j,e1,e2,q⟩:=h;subst e1;subst e2;obtain⟨t,rfl⟩:=r1;obtain⟨t',rfl⟩:=r2;exact iadd_int ⟨.int _,H,I.tok _,⟨_,rfl⟩,q⟩
theorem wC:PIp X .Sub (ipI λi j=>i-j):=by
 intro pins s G H x y v u Q I r1 r2 h;obtain⟨i,j,e1,e2,q⟩:=h;subst e1;subst e2;obtain⟨t,rfl⟩:=r1;obtain⟨t',rfl⟩:=r2;exact isub_int ⟨.int _,H,I.tok _,⟨_,rfl⟩,q⟩
end
section
variable {X:Cx} {pos:Pos}
def vR (c:TT)(tb:TS):TS:=λD G H=>∃W:Nat->St->Hp->Prop,(∃m,W m G H)/\∀m G H,W m G H ->
 c G H λb H1=>if b=true then ∃N:St->Hp->Prop,(∀QM H',N QM H'->∃m',m'<m/\W m' QM H')/\tb { D with nx:=N,ct:=N,bk:=D.nx } G H1 else D.nx G H1
theorem Et {c:i8}{body:List iz}{tc:TT}{tb:TS}(hp:PassesOwn (model X.prog X.w) X.A X.env X.xe)(hc:PT X c tc)(hb:PSs X body tb):PS X (.While c body [] pos) (vR tc tb):=by
 k_end;obtain⟨W,⟨m0,w0⟩,turn⟩:=h;refine wpAny_While (codeAny_whileLoop (λn s'=>∃QM H',Inv X pins QM H' s'/\W n QM H') ?_ m0 ⟨G,H,I,w0⟩);rintro n s1 ⟨XA,H1,I1,w1⟩;refine wpAny_passesOwn hp (thn (hc pins s1 XA H1 _ I1 (turn n XA H1 w1)) λb s2 ⟨H2,I2,q2⟩=>?_)
 cases b with
 |true=>
  obtain⟨N,hN,q2⟩:=q2;rw[if_pos rfl];refine wpAny_passesOwn hp (thn (hb pins s2 XA H2 _ I2 q2) λf s3 q3=>?_)
  cases f with
  |next=>
   obtain⟨QT,H3,I3,n3⟩:=q3;obtain⟨m',hm,w3⟩:=hN QT H3 n3;exact⟨m',hm,QT,H3,I3,w3⟩
  |cont=>
   obtain⟨QT,H3,I3,n3⟩:=q3;obtain⟨m',hm,w3⟩:=hN QT H3 n3;exact⟨m',hm,QT,H3,I3,w3⟩
  |brk=>exact q3
  |ret v=>exact q3
 |false=>
  rw[if_neg gz];exact wx ⟨XA,H2,I2,q2⟩
end
structure It where
 go:Nat->Hp->Prop
 yld:Nat->Hp->V->Hp->Prop
 stop:Nat->Hp->Prop
def O2 (X:Cx)(pins:Za1)(H:Hp)(b:eg):Prop:=
 H b=none/\b≠X.env.locals/\b∉X.fs/\(b∈X.ex\/X.QP.heap.objs.size<=b)/\(∀x c,X.env.cells.lookup x=some c->c≠b)/\∀p∈X.pn++pins,p.1≠b
theorem Inv.fpOk {G:St}{b:eg}(I:Inv X pins G H s)(hb:s.heap.objs.size<=b)(hn:H' b=none):O2 X pins H' b:=by
 refine⟨hn,jo (fk I.lt hb),I.nofs hb,.inr (ir I.sz hb),λx c e z=>?_,λp hp z=>?_⟩
 ·obtain⟨v,q⟩:=I.cell x c e
  exact absurd (fk q.lt (by rw[z];exact hb)) (ln _)
 ·exact absurd (fk (fu (I.pin p hp).1) (by rw[z];exact hb)) (ln _)
structure Ph (P:gl) (w:iq) (K:d6) (tg:i8) (J:It) (fp:List eg) (it:eg) (tn:Nat->jj->Prop):Prop where
 mem:it∈fp
 obj:∀i h,tn i h->∀b∈fp,∃o,h.get? b=some o/\∀v,o.data≠.cell v
 keep:∀i h h',tn i h->(∀b∈fp,∀o,h.get? b=some o->h'.get? b=some o)->tn i h'
 item:∀(X:Cx),X.prog=P->X.w=w->X.K=K->X.calm=true->∀(i:Nat) (pins:Za1) (s:fv) (G:St) (H:Hp) (E:Za0),Inv X pins G H s->(∀b∈fp,O2 X pins H b)->tn i s.heap->J.go i H ->
  wpAny (model P w) X.A (pyNext (.ref it)) (λr s1=>∃u,r=some u /\
   wpAny (model P w) X.A (letOwnedTupleGo tg (.ref it) u) (λ_ s2=>∃x H',Inv X pins G H' s2/\Bc x u/\J.yld i H x H'/\tn (i+1) s2.heap/\∀b∈fp,H' b=none) E s1) E s
 done:∀(X:Cx),X.prog=P->X.w=w->X.K=K->X.calm=true->∀(i:Nat) (pins:Za1) (s:fv) (G:St) (H:Hp) (E:Za0),Inv X pins G H s->(∀b∈fp,O2 X pins H b)->tn i s.heap->J.stop i H ->
  wpAny (model P w) X.A (pyNext (.ref it)) (λr s1=>r=none/\Inv X pins G H s1) E s
 self:∀(A:i9) (i:Nat) (s:fv) (Q:Za0) (E:Za0),tn i s.heap->Q (.ref it) s->wpAny (model P w) A (pyIter (.ref it)) Q E s
abbrev TI:=St->Hp->(It->Hp->Prop)->Prop
def PIE (X:Cx)(pins:Za1)(G:St)(tg:i8)(R:It->Hp->Prop)(itv:fh)(s2:fv):Prop:=
 ∃(it:eg) (fp:List eg) (tn:Nat->jj->Prop) (J:It) (H':Hp),itv=.ref it/\Inv X pins G H' s2/\Ph X.prog X.w X.K tg J fp it tn/\tn 0 s2.heap/\(∀b∈fp,O2 X pins H' b)/\R J H'
def PI (X:Cx)(tg iter:i8)(wi:TI):Prop:=
 ∀(pins:Za1) (s:fv) (G:St) (H:Hp) (R:It->Hp->Prop),Inv X pins G H s->wi G H R ->
  wpAny (model X.prog X.w) X.A (eval iter X.env) (λv s1=>wpAny (model X.prog X.w) X.A (pyIter v) (PIE X pins G tg R) X.xe s1) X.xe s
theorem Zs {E:Za0}{u:fh}{o:Obj}{n:String}{vs:Array fh}{Q:Unit->fv->Prop}(ho:s.heap.get? it=some o)(hc:o.cls=.type n)(hd:o.data=.fields vs)
    (hn : ["enumerate", "zip", "dict_itemiterator", "dict_reverseitemiterator", "odict_iterator", "itertools.zip_longest", "itertools.pairwise"].contains n = false)(hQ : Q () s) : wpAny M A (letOwnedTupleGo tg (.ref it) u) Q E s := by
  unfold letOwnedTupleGo;cases tg <;> first
    | exact fq hQ
    | (cases u <;> first
        | exact fq hQ
        | (refine wpAny_bind (wpAny_load ho ?_)
           rw [hc, hd];show wpAny M A (if (["enumerate", "zip", "dict_itemiterator", "dict_reverseitemiterator", "odict_iterator", "itertools.zip_longest", "itertools.pairwise"].contains n && vs[0]? == some (rawInt _)) = true then _ else _) Q E s;rw [if_neg (by intro h; rw [hn, wk] at h; cases h)];exact fq hQ))
def Itl (K:d6)(a:eg):It:=
 ⟨λi H=>∃xs x,SqL K H a xs/\xs[i]?=some x,λi H x H'=>H'=H/\∀xs,SqL K H a xs->xs[i]?=some x,λi H=>∃xs,SqL K H a xs/\xs.length<=i⟩
def Itt (K:d6)(a:eg):It:=
 ⟨λi H=>∃xs x,SqT K H a xs/\xs[i]?=some x,λi H x H'=>H'=H/\∀xs,SqT K H a xs->xs[i]?=some x,λi H=>∃xs,SqT K H a xs/\xs.length<=i⟩
def Itr (lo:Int)(n:Nat):It:=⟨λi _=>i<n,λi H x H'=>H'=H/\x=.int (lo+i),λi _=>n<=i⟩
theorem uI {P:gl}{K:d6}(a it:eg):Ph P w K tg (Itl K a) [it] it (λi h=>h.IsListIter it a i) where
 mem:=by simp
 obj:=λi h st b hb=>by
  have e:b=it:=by simpa using hb
  subst e;obtain⟨o,e,c,d⟩:=st;exact⟨o,e,λv z=>by rw[d] at z;cases z⟩
 keep:=λi h h' st k=>st.at λo e=>k it (by simp) o e
 item:=by
  intro X hP hw hK hc i pins s G H E I hf st hg;subst hP hw hK;obtain⟨xs,x,hq,hx⟩:=hg;obtain⟨its,rv,p,hz⟩:=I.list hq;obtain⟨u,hu,ru⟩:=rv.get hx;obtain⟨f0,f1,f2,f3,f4,f5⟩:=hf it (by simp);refine CY st p.isList (x:=u) (by simpa using hu) λh' st' sb=>?_;have I1:Inv X pins G H { s with heap:=h' }:=I.turned (t':=s.toks) (λb o hb e=>(sb.2 b hb).trans e) f0 f1 f3 f4 f5;obtain⟨o,e,c,d⟩:=id st';exact⟨u,rfl,Zs (s:={ s with heap:=h' }) e c d (by decide) ⟨x,H,I1,ru,⟨rfl,λys hy=>by rw[I.list_inj hy hq];exact hx⟩,st',λb hb=>(hf b hb).1⟩⟩
 done:=by
  intro X hP hw hK hc i pins s G H E I hf st hg;subst hP hw hK;obtain⟨xs,hq,hx⟩:=hg;obtain⟨its,rv,p,hz⟩:=I.list hq;obtain⟨f0,f1,f2,f3,f4,f5⟩:=hf it (by simp);have hl:=rv.length;exact DP (I.ok.hd hc) st p.isList (by simp;lia) λh' eb=>⟨rfl,I.turned (t':=s.toks) (λb o hb e=>eb b o hb e) f0 f1 f3 f4 f5⟩
 self:=λ_ _ _ _ _ st h=>wpAny_pyIter_listiter st h
theorem nA {P:gl}{K:d6}(a it:eg):Ph P w K tg (Itt K a) [it] it (λi h=>h.IsTupleIter it a i) where
 mem:=by simp
 obj:=λi h st b hb=>by
  have e:b=it:=by simpa using hb
  subst e;obtain⟨o,e,c,d⟩:=st;exact⟨o,e,λv z=>by rw[d] at z;cases z⟩
 keep:=λi h h' st k=>st.at λo e=>k it (by simp) o e
 item:=by
  intro X hP hw hK hc i pins s G H E I hf st hg;subst hP hw hK;obtain⟨xs,x,hq,hx⟩:=hg;obtain⟨its,rv,p,hz⟩:=I.tuple hq;obtain⟨u,hu,ru⟩:=rv.get hx;obtain⟨f0,f1,f2,f3,f4,f5⟩:=hf it (by simp);refine wpAny_pyNext_tuple_item st (show s.heap.IsTuple a its.toArray from p) (x:=u) (by simpa using hu) λh' st' sb=>?_;have I1:Inv X pins G H { s with heap:=h' }:=I.turned (t':=s.toks) (λb o hb e=>(sb.2 b hb).trans e) f0 f1 f3 f4 f5;obtain⟨o,e,c,d⟩:=id st';exact⟨u,rfl,Zs (s:={ s with heap:=h' }) e c d (by decide) ⟨x,H,I1,ru,⟨rfl,λys hy=>by rw[I.tuple_inj hy hq];exact hx⟩,st',λb hb=>(hf b hb).1⟩⟩
 done:=by
  intro X hP hw hK hc i pins s G H E I hf st hg;subst hP hw hK;obtain⟨xs,hq,hx⟩:=hg;obtain⟨its,rv,p,hz⟩:=I.tuple hq;obtain⟨f0,f1,f2,f3,f4,f5⟩:=hf it (by simp);have hl:=rv.length;exact wpAny_pyNext_tuple_end (I.ok.hd hc) st (show s.heap.IsTuple a its.toArray from p) (by simp;lia) λh' eb=>⟨rfl,I.turned (t':=s.toks) (λb o hb e=>eb b o hb e) f0 f1 f3 f4 f5⟩
 self:=λ_ _ _ _ _ st h=>wpAny_pyIter_tupleiter st h
theorem nR {P:gl}{K:d6}(it:eg)(lo:Int)(n:Nat):Ph P w K tg (Itr lo n) [it] it (λi h=>z7 h it (lo+(i:Nat)*1) ((n:Int)-(i:Nat)) 1) where
 mem:=by simp
 obj:=λi h st b hb=>by
  have e:b=it:=by simpa using hb
  subst e;exact⟨_,st,λv z=>by
   have z':BW _=IV v:=z;cases z'⟩
 keep:=λi h h' st k=>k it (by simp) _ st
 item:=by
  intro X hP hw hK hc i pins s G H E I hf st hg;subst hP hw hK;obtain⟨f0,f1,f2,f3,f4,f5⟩:=hf it (by simp);have W:=FS (prog:=X.prog) (w:=X.w) (I.ok.hd hc) it lo 1 n;refine W.item i s _ _ hg st λv h' tk hv st' kk=>?_;obtain⟨t,rfl⟩:=hv;have I1:Inv X pins G H { s with heap:=h',toks:=tk }:=I.turned (λb o hb e=>kk b o (by simpa using hb) e) f0 f1 f3 f4 f5;refine⟨_,rfl,Zs (s:={ s with heap:=h',toks:=tk }) (n:="range_iterator") st' rfl rfl (by decide) ⟨.int (lo+i),H,I1,⟨t,?_⟩,⟨rfl,rfl⟩,st',λb hb=>(hf b hb).1⟩⟩;rw[Int.mul_one]
 done:=by
  intro X hP hw hK hc i pins s G H E I hf st hg;subst hP hw hK;obtain⟨f0,f1,f2,f3,f4,f5⟩:=hf it (by simp);exact CW (I.ok.hd hc) st (by have:n<=i:=hg;lia) λh' eb=>⟨rfl,I.turned (t':=s.toks) (λb o hb e=>eb b o hb e) f0 f1 f3 f4 f5⟩
 self:=λ_ _ _ _ _ st h=>CZ st h
section
variable {X:Cx} {tg:i8}
def Acu (K:d6)(tl:TE):TI:=λG H R=>tl G H λx H1=>∃a,x=.ref a/\(∃xs,SqL K H1 a xs)/\R (Itl K a) H1
def Aec (K:d6)(tl:TE):TI:=λG H R=>tl G H λx H1=>∃a,x=.ref a/\(∃xs,SqT K H1 a xs)/\R (Itt K a) H1
theorem Du {l:i8}{tl:TE}(hl:PE X l tl):PI X tg l (Acu X.K tl):=by
 intro pins s G H R I h;refine thE hl I h λv s1 x H1 I1 r1 q1=>?_;obtain⟨a,e,⟨xs,hq⟩,q⟩:=q1;subst e;cases r1;obtain⟨its,rv,p,hz⟩:=I1.list hq;refine y3 p.isList ?_;refine⟨s1.heap.objs.size,[s1.heap.objs.size],_,_,H1,rfl,I1.kept (t':=s1.toks) λb o e=>en _ e,uI a _,⟨_,gq _ rfl,rfl,rfl⟩,λb hb=>?_,q⟩;have e:b=s1.heap.objs.size:=by simpa using hb
 subst e;exact I1.fpOk (d8 _) (I1.hok.fresh (d8 _))
theorem lV {l:i8}{tl:TE}(hl:PE X l tl):PI X tg l (Aec X.K tl):=by
 intro pins s G H R I h;refine thE hl I h λv s1 x H1 I1 r1 q1=>?_;obtain⟨a,e,⟨xs,hq⟩,q⟩:=q1;subst e;cases r1;obtain⟨its,rv,p,hz⟩:=I1.tuple hq;refine wpAny_pyIter_tuple (show s1.heap.IsTuple a its.toArray from p) ?_;refine⟨s1.heap.objs.size,[s1.heap.objs.size],_,_,H1,rfl,I1.kept (t':=s1.toks) λb o e=>en _ e,nA a _,⟨_,gq _ rfl,rfl,rfl⟩,λb hb=>?_,q⟩;have e:b=s1.heap.objs.size:=by simpa using hb
 subst e;exact I1.fpOk (d8 _) (I1.hok.fresh (d8 _))
theorem hZ {G:St}{R:It->Hp->Prop}{E:Za0}{lo hi:Int}{t u v:Tok}{tk:Nat}(I:Inv X pins G H s)(h1:-(2 ^ 62)<=lo)(h2:lo<2 ^ 62)(h3:-(2 ^ 62)<=hi)(h4:hi<2 ^ 62)
  (q:R (Itr lo (hi-lo).toNat) H):wpAny (model X.prog X.w) X.A (pyIter (.ref s.heap.objs.size)) (PIE X pins G tg R) E { s with heap:=s.heap.push { cls:=.type "range",data:=.fields #[.int lo t,.int hi u,.int 1 v] },toks:=tk }:=by
 refine FC (AG ..) (small_one h1 h2 h3 h4) ?_;have I1:Inv X pins G H { s with heap:=s.heap.push { cls:=.type "range",data:=.fields #[.int lo t,.int hi u,.int 1 v] },toks:=tk }:=I.kept λb o e=>en _ e;refine⟨(s.heap.push { cls:=.type "range",data:=.fields #[.int lo t,.int hi u,.int 1 v] }).objs.size,[(s.heap.push { cls:=.type "range",data:=.fields #[.int lo t,.int hi u,.int 1 v] }).objs.size],_,_,H,rfl,
  I1.kept (t':=tk) λb o e=>en _ e,nR _ lo (hi-lo).toNat,?_,λb hb=>?_,q⟩
 ·have e1:lo+((0:Nat):Int)*1=lo:=by simp
  have e2:(((hi-lo).toNat:Nat):Int)-((0:Nat):Int)=lf lo hi 1:=by rw[JA];split<;>lia
  show z7 _ _ (lo+((0:Nat):Int)*1) ((((hi-lo).toNat:Nat):Int)-((0:Nat):Int)) 1;rw[e1,e2];exact gq _ rfl
 ·have e:b=(s.heap.push { cls:=.type "range",data:=.fields #[.int lo t,.int hi u,.int 1 v] }).objs.size:=by simpa using hb
  subst e;exact I1.fpOk (d8 _) (I1.hok.fresh (d8 _))
def Ac1 (ta:TA):TI:=λG H R=>ta G H λvs H1=>∃j:Int,vs=[.int j]/\-(2 ^ 62)<=j/\j<2 ^ 62/\R (Itr 0 j.toNat) H1
def Acp (ta:TA):TI:=λG H R=>ta G H λvs H1=>∃i j:Int,vs=[.int i,.int j]/\(-(2 ^ 62)<=i/\i<2 ^ 62/\-(2 ^ 62)<=j/\j<2 ^ 62)/\R (Itr i (j-i).toNat) H1
theorem Fk {a:i8}{ta:TA}{p:Pos}(hg:Gl X "range")(hm:X.mg "range"=none)(ha:PA X [a] ta)(hs:autoParam (starEach [a] X.env=[(false,eval a X.env)]) QD):PI X tg (.Call (.Name "range" p) [a] [] pos) (Ac1 ta):=by
 intro pins s G H R I h;refine Call_ (Do I hg hm boot_range (ik (thA ha I h λus s1 vs H1 I1 r1 q1=>?_) hs rfl));obtain⟨j,e,q1,q2,q⟩:=q1;subst e
 cases r1 with
 |cons r rr=>
  cases rr;obtain⟨t,rfl⟩:=r;exact JY (hZ I1 (by lia) (by lia) q1 q2 (by simpa using q))
theorem Zn {a b:i8}{ta:TA}{p:Pos}(hg:Gl X "range")(hm:X.mg "range"=none)(ha:PA X [a,b] ta)(hs:autoParam (starEach [a,b] X.env=[(false,eval a X.env),(false,eval b X.env)]) QD)(hs2:autoParam (starEach [b] X.env=[(false,eval b X.env)]) QD) :
  PI X tg (.Call (.Name "range" p) [a,b] [] pos) (Acp ta):=by
 intro pins s G H R I h;refine Call_ (Do I hg hm boot_range (ik (thA ha I h λus s1 vs H1 I1 r1 q1=>?_) (by rw[hs,hs2]) (by rw[hs2];rfl)));obtain⟨i,j,e,⟨q1,q2,q3,q4⟩,q⟩:=q1;subst e
 cases r1 with
 |cons r rr=>
  cases rr with
  |cons r' rr=>
   cases rr;obtain⟨t,rfl⟩:=r;obtain⟨t',rfl⟩:=r';exact call_range_2 (hZ I1 q1 q2 q3 q4 q)
def Ahg (wi:TI)(g:TG)(tb:TS):TS:=λD G H=>wi G H λJ H1=>∃W:Nat->Nat->St->Hp->Prop,(∃m,W 0 m G H1)/\∀i m G H,W i m G H ->
 (J.stop i H/\D.nx G H)\/(J.go i H/\∃N:St->Hp->Prop,(∀QM H',N QM H'->∃m',m'<m/\W (i+1) m' QM H')/\∀x H',J.yld i H x H'->g x G H' λQQ H2=>tb { D with nx:=N,ct:=N,bk:=D.nx } QQ H2)
def R8 (fp:List eg)(h:jj):Za1:=fp.filterMap λb=>(h.get? b).map λo=>(b,o)
theorem Gi {b:eg}{o:Obj}(hb:b∈fp)(e:h.get? b=some o):(b,o)∈R8 fp h:=xk.mpr ⟨b,hb,by rw[e];rfl⟩
theorem tL {p:eg×Obj}(hp:p∈R8 fp h):p.1∈fp/\h.get? p.1=some p.2:=by
 obtain⟨b,hb,e⟩:=xk.mp hp
 cases q:h.get? b with
 |none=>rw[q] at e;cases e
 |some o=>
  rw[q] at e;have e':(b,o)=p:=ee e;subst e';exact⟨hb,q⟩
theorem Inv.pinned {G:St}(I:Inv X pins G H s)(hf:∀b∈fp,O2 X pins H b)(ho:∀b∈fp,∃o,s.heap.get? b=some o/\∀v,o.data≠.cell v):Inv X (pins++R8 fp s.heap) G H s:=
 I.pins_of λp hp=>(il.mp hp).elim (λz=>I.pin p (gt _ z)) λz=>by
  obtain⟨hb,e⟩:=tL z;obtain⟨f0,f1,f2,_⟩:=hf p.1 hb;obtain⟨o,e',d⟩:=ho p.1 hb;rw[e] at e';cases e';exact⟨e,f0,f1,f2,d⟩
theorem Inv.unpinned {pl:Za1}{G:St}(I:Inv X (pins++pl) G H s):Inv X pins G H s:=I.pins_of λp hp=>I.pin p (gt _ (kj _ hp))
theorem Dc {iter:i8}{body:List iz}{g:TG}{tb:TS}(hp:PassesOwn (model X.prog X.w) X.A X.env X.xe)(hc:X.calm=true)(hi:PI X tg iter wi)(hg:PG X tg g)(hb:PSs X body tb)
  (hs:autoParam (∀x,foldedSetIterable iter X.env x=pure x) QJ):PS X (.For tg iter body [] pos) (Ahg wi g tb):=by
 k_end;refine wpAny_For (thn (hi pins s G H _ I h) λv s1 h1=>thn h1 λitv s2 h2=>?_) hs;obtain⟨it,fp,tn,J,H2,e,I2,T,st2,f2,W,⟨m0,w0⟩,turn⟩:=h2;subst e
 -- what stays true of the iterator's objects through the loop
 have stat:∀{H':Hp},(∀b∈fp,H' b=none)->∀b∈fp,O2 X pins H' b:=λhn b hb=>⟨hn b hb,(f2 b hb).2⟩;refine codeAny_forLoop_any (λn s'=>∃i QM H',Inv X pins QM H' s'/\tn i s'.heap/\(∀b∈fp,H' b=none)/\W i n QM H') ?_ m0 ⟨0,G,H2,I2,st2,λb hb=>(f2 b hb).1,w0⟩;rintro n s3 ⟨i,QT,H3,I3,st3,fr3,w3⟩;rcases turn i n QT H3 w3 with⟨stop,qn⟩|⟨go,N,hN,step⟩
 ·refine wpAny_passesOwn hp (thn (T.done X rfl rfl rfl hc i pins s3 QT H3 X.xe I3 (stat fr3) st3 stop) λr s4 ⟨hr,I4⟩=>?_)
  subst hr;exact wx ⟨QT,H3,I4,qn⟩
 ·refine wpAny_passesOwn hp (thn (T.item X rfl rfl rfl hc i pins s3 QT H3 X.xe I3 (stat fr3) st3 go) λr s4 ⟨u,hr,h4⟩=>?_)
  subst hr;refine wpAny_passesOwn hp (thn h4 λ_ s5 ⟨x,H5,I5,r5,y5,st5,fr5⟩=>?_);have I5':=I5.pinned (stat fr5) (T.obj _ _ st5);refine wpAny_passesOwn hp (thn (hg _ s5 QT H5 x u _ I5' r5 (step x H5 y5)) λ_ s6 ⟨σ6,H6,I6,q6⟩=>?_);refine wpAny_passesOwn hp (thn (hb _ s6 σ6 H6 _ I6 q6) λf s7 q7=>?_);have again:∀{QU:St} {H7:Hp},Inv X (pins++R8 fp s5.heap) QU H7 s7->N QU H7->∃m,m<n/\∃i QM H',Inv X pins QM H' s7/\tn i s7.heap/\(∀b∈fp,H' b=none)/\W i m QM H':=λ{QU H7} I7 n7=>by
   obtain⟨m',hm,w7⟩:=hN QU H7 n7;refine⟨m',hm,i+1,QU,H7,I7.unpinned,T.keep _ _ _ st5 λb hb o e=>(I7.pin (b,o) (gt _ (gt _ (Gi hb e)))).1,λb hb=>?_,w7⟩;obtain⟨o,e,d⟩:=T.obj _ _ st5 b hb;exact(I7.pin (b,o) (gt _ (gt _ (Gi hb e)))).2.1
  cases f with
  |next=>obtain⟨QU,H7,I7,n7⟩:=q7;exact again I7 n7
  |cont=>obtain⟨QU,H7,I7,n7⟩:=q7;exact again I7 n7
  |brk=>obtain⟨QU,H7,I7,q7⟩:=q7;exact⟨QU,H7,I7.unpinned,q7⟩
  |ret v=>obtain⟨x7,QU,H7,I7,r7,q7⟩:=q7;exact⟨x7,QU,H7,I7.unpinned,r7,q7⟩
end
theorem Pg {K:d6}{a:eg}{g:TG}{tb:TS}{G:St}(Pv:Nat->St->Hp->Prop)(h0:Pv 0 G H)(hl:∀i G H,i<=xs.length->Pv i G H->SqL K H a xs)
  (hs:∀i x G H,xs[i]?=some x->Pv i G H->g x G H λQQ H2=>tb { D with nx:=Pv (i+1),ct:=Pv (i+1),bk:=D.nx } QQ H2)(hd:∀G H,Pv xs.length G H->D.nx G H) :
  ∃W:Nat->Nat->St->Hp->Prop,(∃m,W 0 m G H)/\∀i m G H,W i m G H ->
   ((Itl K a).stop i H/\D.nx G H)\/((Itl K a).go i H/\∃N:St->Hp->Prop,(∀QM H',N QM H'->∃m',m'<m/\W (i+1) m' QM H')/\∀x H',(Itl K a).yld i H x H'->g x G H' λQQ H2=>tb { D with nx:=N,ct:=N,bk:=D.nx } QQ H2):=by
 refine⟨λi m G H=>m=xs.length-i/\i<=xs.length/\Pv i G H,⟨xs.length,by simp,gp _,h0⟩,?_⟩;rintro i m G H ⟨rfl,hi,p⟩;have q:=hl i G H hi p
 by_cases hlt:i<xs.length
 ·refine .inr ⟨⟨xs,xs[i],q,by simp[hlt]⟩,Pv (i+1),λQM H' p'=>⟨xs.length-(i+1),by lia,rfl,hlt,p'⟩,λx H' y=>?_⟩
  obtain⟨e,y⟩:=y;subst e;exact hs i x G _ (y xs q) p
 ·have e:i=xs.length:=by lia
  subst e;exact .inl ⟨⟨xs,q,d8 _⟩,hd G H p⟩
theorem Abz {K:d6}{a:eg}{g:TG}{tb:TS}{G:St}(Pv:Nat->St->Hp->Prop)(h0:Pv 0 G H)(hl:∀i G H,i<=xs.length->Pv i G H->SqT K H a xs)
  (hs:∀i x G H,xs[i]?=some x->Pv i G H->g x G H λQQ H2=>tb { D with nx:=Pv (i+1),ct:=Pv (i+1),bk:=D.nx } QQ H2)(hd:∀G H,Pv xs.length G H->D.nx G H) :
  ∃W:Nat->Nat->St->Hp->Prop,(∃m,W 0 m G H)/\∀i m G H,W i m G H ->
   ((Itt K a).stop i H/\D.nx G H)\/((Itt K a).go i H/\∃N:St->Hp->Prop,(∀QM H',N QM H'->∃m',m'<m/\W (i+1) m' QM H')/\∀x H',(Itt K a).yld i H x H'->g x G H' λQQ H2=>tb { D with nx:=N,ct:=N,bk:=D.nx } QQ H2):=by
 refine⟨λi m G H=>m=xs.length-i/\i<=xs.length/\Pv i G H,⟨xs.length,by simp,gp _,h0⟩,?_⟩;rintro i m G H ⟨rfl,hi,p⟩;have q:=hl i G H hi p
 by_cases hlt:i<xs.length
 ·refine .inr ⟨⟨xs,xs[i],q,by simp[hlt]⟩,Pv (i+1),λQM H' p'=>⟨xs.length-(i+1),by lia,rfl,hlt,p'⟩,λx H' y=>?_⟩
  obtain⟨e,y⟩:=y;subst e;exact hs i x G _ (y xs q) p
 ·have e:i=xs.length:=by lia
  subst e;exact .inl ⟨⟨xs,q,d8 _⟩,hd G H p⟩
theorem Mg {lo:Int}{g:TG}{tb:TS}{G:St}(Pv:Nat->St->Hp->Prop)(h0:Pv 0 G H)
  (hs:∀i G H,i<n->Pv i G H->g (.int (lo+i)) G H λQQ H2=>tb { D with nx:=Pv (i+1),ct:=Pv (i+1),bk:=D.nx } QQ H2)(hd:∀G H,Pv n G H->D.nx G H) :
  ∃W:Nat->Nat->St->Hp->Prop,(∃m,W 0 m G H)/\∀i m G H,W i m G H ->
   ((Itr lo n).stop i H/\D.nx G H)\/((Itr lo n).go i H/\∃N:St->Hp->Prop,(∀QM H',N QM H'->∃m',m'<m/\W (i+1) m' QM H')/\∀x H',(Itr lo n).yld i H x H'->g x G H' λQQ H2=>tb { D with nx:=N,ct:=N,bk:=D.nx } QQ H2):=by
 refine⟨λi m G H=>m=n-i/\i<=n/\Pv i G H,⟨n,by simp,gp _,h0⟩,?_⟩;rintro i m G H ⟨rfl,hi,p⟩
 by_cases hlt:i<n
 ·refine .inr ⟨hlt,Pv (i+1),λQM H' p'=>⟨n-(i+1),by lia,rfl,hlt,p'⟩,λx H' y=>?_⟩
  obtain⟨e,y⟩:=y;subst e y;exact hs i G _ hlt p
 ·have e:i=n:=by lia
  subst e;exact .inl ⟨d8 _,hd G H p⟩
abbrev R2:=V->V->Hp->VK->Prop
def OpR (X:Cx)(f:fh->fh->Sem fh)(r:R2):Prop:=
 ∀(pins:Za1) (s:fv) (G:St) (H:Hp) (x y:V) (v u:fh) (Q:VK),Inv X pins G H s->Bc x v->Bc y u->r x y H Q ->
  wpAny (model X.prog X.w) X.A (f v u) (EP X pins G Q) X.xe s
def UnR (X:Cx)(f:fh->Sem fh)(r:V->Hp->VK->Prop):Prop:=
 ∀(pins:Za1) (s:fv) (G:St) (H:Hp) (x:V) (v:fh) (Q:VK),Inv X pins G H s->Bc x v->r x H Q ->
  wpAny (model X.prog X.w) X.A (f v) (EP X pins G Q) X.xe s
def Ev (X:Cx)(f:fh)(r:List V->Hp->VK->Prop):Prop:=
 ∀(pins:Za1) (s:fv) (G:St) (H:Hp) (xs:List V) (us:Za3) (Q:VK),Inv X pins G H s->Ay xs us->r xs H Q ->
  wpAny (model X.prog X.w) X.A (call f us) (EP X pins G Q) X.xe s
def tOp (r:R2)(ta tb:TE):TE:=λG H Q=>ta G H λx H1=>tb G H1 λy H2=>r x y H2 Q
def tUn (r:V->Hp->VK->Prop)(ta:TE):TE:=λG H Q=>ta G H λx H1=>r x H1 Q
def rI (C:Int->Int->Prop)(g:Int->Int->V):R2:=λx y H Q=>∃i j,x=.int i/\y=.int j/\C i j/\Q (g i j) H
def rI0 (g:Int->Int->V):R2:=λx y H Q=>∃i j,x=.int i/\y=.int j/\Q (g i j) H
def rU (g:Int->V):V->Hp->VK->Prop:=λx H Q=>∃i,x=.int i/\Q (g i) H
section
variable {X:Cx} {a b c:i8} {ta tb tc:TE} {pos:Pos}
theorem Ad7 (ha:PE X a ta)(hb:PE X b tb){G:St}{R:V->V->Hp->Prop}(I:Inv X pins G H s)
  (h:ta G H λx H1=>tb G H1 λy H2=>R x y H2){Q:Za0}{f:fh->fh->Sem fh}
  (hf:∀v u s2 x y H2,Inv X pins G H2 s2->Bc x v->Bc y u->R x y H2->wpAny (model X.prog X.w) X.A (f v u) Q X.xe s2) :
  wpAny (model X.prog X.w) X.A (eval a X.env) (λv QN=>wpAny (model X.prog X.w) X.A (eval b X.env) (λu QZ=>wpAny (model X.prog X.w) X.A (f v u) Q X.xe QZ) X.xe QN) X.xe s:=by
 refine thE ha I h λv s1 x H1 I1 r1 q1=>?_;refine thE hb I1 q1 λu s2 y H2 I2 r2 q2=>?_;exact hf v u s2 x y H2 I2 r1 r2 q2
theorem Ak {op:EM}{r:R2}(ho:OpR X (binaryOp op) r)(ha:PE X a ta)(hb:PE X b tb):PE X (.BinOp a op b pos) (tOp r ta tb):=by
 k_in;exact wpAny_BinOp (Ad7 ha hb I h λv u s2 x y H2 I2 rx ry q=>ho pins s2 G H2 x y v u Q I2 rx ry q)
theorem Fr {op:UnaryOp}{r:V->Hp->VK->Prop}(ho:UnR X (unaryOp op) r)(ha:PE X a ta):PE X (.UnaryOp op a pos) (tUn r ta):=by
 k_in;exact UnaryOp_ (thE ha I h λv s1 x H1 I1 r1 q1=>ho pins s1 G H1 x v Q I1 r1 q1)
theorem opI {f:fh->fh->Sem fh}{C:Int->Int->Prop}{g:Int->Int->Int}
  (rule:∀(i j:Int) (t u:Tok) (s:fv) (Q:Za0) (E:Za0),C i j->Q (.int (g i j) s.toks) { s with toks:=s.toks+1 }->wpAny (model X.prog X.w) X.A (f (.int i t) (.int j u)) Q E s) :
  OpR X f (rI C λi j=>.int (g i j)):=by
 intro pins s G H x y v u Q I rx ry h;obtain⟨i,j,rfl,rfl,hc,q⟩:=h;obtain⟨t,rfl⟩:=rx;obtain⟨t',rfl⟩:=ry;exact rule i j t t' s _ _ hc ⟨.int (g i j),H,I.tok _,⟨_,rfl⟩,q⟩
theorem Abn {f:fh->fh->Sem fh}{g:Int->Int->Int}
  (rule:∀(i j:Int) (t u:Tok) (s:fv) (Q:Za0) (E:Za0),Q (.int (g i j) s.toks) { s with toks:=s.toks+1 }->wpAny (model X.prog X.w) X.A (f (.int i t) (.int j u)) Q E s) :
  OpR X f (rI0 λi j=>.int (g i j)):=by
 intro pins s G H x y v u Q I rx ry h;obtain⟨i,j,rfl,rfl,q⟩:=h;obtain⟨t,rfl⟩:=rx;obtain⟨t',rfl⟩:=ry;exact rule i j t t' s _ _ ⟨.int (g i j),H,I.tok _,⟨_,rfl⟩,q⟩
theorem Abv {f:fh->fh->Sem fh}{g:Int->Int->Bool}
  (rule:∀(i j:Int) (t u:Tok) (s:fv) (Q:Za0) (E:Za0),Q (.bool (g i j)) s->wpAny (model X.prog X.w) X.A (f (.int i t) (.int j u)) Q E s) :
  OpR X f (rI0 λi j=>.bl (g i j)):=by
 intro pins s G H x y v u Q I rx ry h;obtain⟨i,j,rfl,rfl,q⟩:=h;obtain⟨t,rfl⟩:=rx;obtain⟨t',rfl⟩:=ry;exact rule i j t t' s _ _ ⟨.bl (g i j),H,I,rfl,q⟩
def Ahh (i j:Int):Prop:=0<j/\j<1073741824
def Aiq (i j:Int):Prop:=0<=j/\j<=1000000/\i.natAbs<2 ^ 64
def xF (i j:Int):Prop:=(-(2 ^ 64)<i/\i<2 ^ 64)\/(-(2 ^ 64)<j/\j<2 ^ 64)
theorem xF.ok {i j:Int}(h:xF i j):IntMulOk i j:=by
 rcases h with⟨h1,h2⟩|⟨h1,h2⟩
 ·exact .of_left (JC h1 h2)
 ·exact .of_right (JC h1 h2)
theorem U4 (k:Nat):(0:Int)<=2 ^ k:=by
 rw[two_pow_cast];exact kq _
theorem Bd:OpR X (binaryOp .Add) (rI0 λi j=>.int (i+j)):=Abn λ_ _ _ _ _ _ _ q=>add_int q
theorem B5:OpR X (binaryOp .Sub) (rI0 λi j=>.int (i-j)):=Abn λ_ _ _ _ _ _ _ q=>sub_int q
theorem Dz:OpR X (binaryOp .Mult) (rI xF λi j=>.int (i*j)):=opI λ_ _ _ _ _ _ _ hc q=>mul_int q hc.ok
theorem Cs:OpR X (binaryOp .FloorDiv) (rI Ahh λi j=>.int (i/j)):=opI λi j _ _ _ _ _ hc q=>by
 have h1:(0:Int)<j:=hc.1;have h2:j<1073741824:=hc.2;exact floordiv_int (by lia) (by rw[ub i (by lia)];exact q) (.inl (ut (by lia)))
theorem Cm:OpR X (binaryOp .Mod) (rI (λ_ j=>0<j) λi j=>.int (i%j)):=opI λi j _ _ _ _ _ hc q=>by
 have h1:(0:Int)<j:=hc;exact mod_int' (by lia) (by rw[Int.fmod_eq_emod_of_nonneg i (by lia)];exact q)
theorem Ad8:OpR X (binaryOp .LShift) (rI Aiq λi j=>.int (i*2 ^ j.toNat)):=opI λ_ _ _ _ _ _ _ hc q=>lshift_int_small hc.1 hc.2.1 hc.2.2 q
theorem mL:OpR X (binaryOp .RShift) (rI (λ_ j=>0<=j) λi j=>.int (i/2 ^ j.toNat)):=opI λi j _ _ _ _ _ hc q=>
 rshift_int hc (by rw[ub i (U4 _)];exact q)
theorem Nr:OpR X (binaryOp .BitAnd) (rI0 λi j=>.int (ly i j)):=Abn λ_ _ _ _ _ _ _ q=>and_int q
theorem lO:OpR X (binaryOp .BitXor) (rI0 λi j=>.int (vw i j)):=Abn λ_ _ _ _ _ _ _ q=>xor_int q
theorem pL:OpR X (inplaceOp .RShift) (rI (λ_ j=>0<=j) λi j=>.int (i/2 ^ j.toNat)):=opI λi j _ _ _ _ _ hc q=>
 irshift_int hc (by rw[ub i (U4 _)];exact q)
theorem unI {f:fh->Sem fh}{g:Int->Int}
  (rule:∀(i:Int) (t:Tok) (s:fv) (Q:Za0) (E:Za0),Q (.int (g i) s.toks) { s with toks:=s.toks+1 }->wpAny (model X.prog X.w) X.A (f (.int i t)) Q E s) :
  UnR X f (rU λi=>.int (g i)):=by
 intro pins s G H x v Q I rx h;obtain⟨i,rfl,q⟩:=h;obtain⟨t,rfl⟩:=rx;exact rule i t s _ _ ⟨.int (g i),H,I.tok _,⟨_,rfl⟩,q⟩
theorem C9:UnR X (unaryOp .USub) (rU λi=>.int (-i)):=unI λ_ _ _ _ _ q=>neg_int q
end
def xW:V->V->Bool
 |.non,.non=>true|.non,.int _=>true|.int _,.non=>true|.non,.bl _=>true|.bl _,.non=>true|.non,.str _=>true|.str _,.non=>true
 |.int _,.int _=>true|.bl _,.bl _=>true|.str _,.str _=>true|.byt _,.byt _=>true
 |.int _,.str _=>true|.str _,.int _=>true|.bl _,.str _=>true|.str _,.bl _=>true
 |_,_=>false
def rEq:R2:=λx y H Q=>xW x y=true/\Q (.bl (decide (x=y))) H
def rNe:R2:=λx y H Q=>xW x y=true/\Q (.bl (!decide (x=y))) H
theorem rQ {i j:Int}:decide (V.int i=V.int j)=(i==j):=by
 rw[vx];simp
theorem Aah {i j:Bool}:decide (V.bl i=V.bl j)=(i==j):=by
 rw[vx];simp
theorem pO {i j:Str}:decide (V.str i=V.str j)=(i==j):=by
 rw[vx];simp
theorem qD {i j:Array UInt8}:decide (V.byt i=V.byt j)=(i.toList==j.toList):=by
 rw[vx];cases i;cases j;simp
section
variable {X:Cx} {a b c:i8} {ta tb tc:TE} {pos:Pos}
theorem Bu {G:St}{Q:VK}{k k':Bool}(I:Inv X pins G H s)(q:Q (.bl k) H)(e:k=k'):EP X pins G Q (.bool k') s:=by
 subst e;exact⟨.bl k,H,I,rfl,q⟩
theorem Dt:OpR X (compareOp .Eq) rEq:=by
 intro pins s G H x y v u Q I rx ry h;obtain⟨hs,q⟩:=h
 cases x with
 |non=>
  cases rx
  cases y with
  |non=>cases ry;exact HR (Bu I q (by simp))
  |bl j=>cases ry;exact HU (Bu I q (by simp))
  |int j=>obtain⟨t',rfl⟩:=ry;exact HS (Bu I q (by simp))
  |str j=>obtain⟨t',rfl⟩:=ry;exact HQ (Bu I q (by simp))
  |_=>exact absurd (show false=true from hs) gz
 |bl i=>
  cases rx
  cases y with
  |non=>cases ry;exact HW (Bu I q (by simp))
  |bl j=>cases ry;exact eq_bool (Bu I q Aah)
  |str j=>obtain⟨t',rfl⟩:=ry;exact GR (Bu I q (by simp))
  |_=>exact absurd (show false=true from hs) gz
 |int i=>
  obtain⟨t,rfl⟩:=rx
  cases y with
  |non=>cases ry;exact HV (Bu I q (by simp))
  |int j=>obtain⟨t',rfl⟩:=ry;exact eq_int (Bu I q rQ)
  |str j=>obtain⟨t',rfl⟩:=ry;exact GQ (Bu I q (by simp))
  |_=>exact absurd (show false=true from hs) gz
 |str i=>
  obtain⟨t,rfl⟩:=rx
  cases y with
  |non=>cases ry;exact HP (Bu I q (by simp))
  |bl j=>cases ry;exact GP (Bu I q (by simp))
  |int j=>obtain⟨t',rfl⟩:=ry;exact GO (Bu I q (by simp))
  |str j=>obtain⟨t',rfl⟩:=ry;exact eq_str (Bu I q pO)
  |_=>exact absurd (show false=true from hs) gz
 |byt i=>
  obtain⟨t,rfl⟩:=rx
  cases y with
  |byt j=>obtain⟨t',rfl⟩:=ry;exact PySem.W.eq_bytes (Bu I q qD)
  |_=>exact absurd (show false=true from hs) gz
 |_=>cases y<;>exact absurd (show false=true from hs) gz
theorem Uz:OpR X (compareOp .NotEq) rNe:=by
 intro pins s G H x y v u Q I rx ry h;obtain⟨hs,q⟩:=h
 cases x with
 |non=>
  cases rx
  cases y with
  |non=>cases ry;exact HJ (Bu I q (by simp))
  |bl j=>cases ry;exact HL (Bu I q (by simp))
  |int j=>obtain⟨t',rfl⟩:=ry;exact HK (Bu I q (by simp))
  |str j=>obtain⟨t',rfl⟩:=ry;exact HI (Bu I q (by simp))
  |_=>exact absurd (show false=true from hs) gz
 |bl i=>
  cases rx
  cases y with
  |non=>cases ry;exact HN (Bu I q (by simp))
  |bl j=>cases ry;exact ne_bool (Bu I q (congrArg not Aah))
  |str j=>obtain⟨t',rfl⟩:=ry;exact GN (Bu I q (by simp))
  |_=>exact absurd (show false=true from hs) gz
 |int i=>
  obtain⟨t,rfl⟩:=rx
  cases y with
  |non=>cases ry;exact HM (Bu I q (by simp))
  |int j=>obtain⟨t',rfl⟩:=ry;exact ne_int (Bu I q (congrArg not rQ))
  |str j=>obtain⟨t',rfl⟩:=ry;exact GM (Bu I q (by simp))
  |_=>exact absurd (show false=true from hs) gz
 |str i=>
  obtain⟨t,rfl⟩:=rx
  cases y with
  |non=>cases ry;exact HH (Bu I q (by simp))
  |bl j=>cases ry;exact GL (Bu I q (by simp))
  |int j=>obtain⟨t',rfl⟩:=ry;exact GK (Bu I q (by simp))
  |str j=>obtain⟨t',rfl⟩:=ry;exact ne_str (Bu I q (congrArg not pO))
  |_=>exact absurd (show false=true from hs) gz
 |byt i=>
  obtain⟨t,rfl⟩:=rx
  cases y with
  |byt j=>obtain⟨t',rfl⟩:=ry;exact PySem.W.ne_bytes (Bu I q (congrArg not qD))
  |_=>exact absurd (show false=true from hs) gz
 |_=>cases y<;>exact absurd (show false=true from hs) gz
theorem O7:OpR X (compareOp .Lt) (rI0 λi j=>.bl (decide (i<j))):=Abv λ_ _ _ _ _ _ _ q=>lt_int q
theorem rR:OpR X (compareOp .LtE) (rI0 λi j=>.bl (decide (i<=j))):=Abv λ_ _ _ _ _ _ _ q=>le_int q
theorem Fp:OpR X (compareOp .Gt) (rI0 λi j=>.bl (decide (j<i))):=Abv λ_ _ _ _ _ _ _ q=>gt_int q
theorem pG:OpR X (compareOp .GtE) (rI0 λi j=>.bl (decide (j<=i))):=Abv λ_ _ _ _ _ _ _ q=>ge_int q
theorem tF:OpR X (compareOp .In) (λx y H Q=>∃i j,x=.str i/\y=.str j/\Q (.bl (!(mo j i 0 j.length 1).isEmpty)) H):=by
 intro pins s G H x y v u Q I rx ry h;obtain⟨i,j,rfl,rfl,q⟩:=h;obtain⟨t,rfl⟩:=rx;obtain⟨t',rfl⟩:=ry;exact in_str (Bu I q rfl)
theorem xZ (b:i8)(h:autoParam (op≠.In) QF)(h2:autoParam (op≠.NotIn) QF):behindInMarks op b=false:=by
 have e1:(op==IW)=false:=by cases op<;>first|rfl|exact absurd rfl h
 have e2:(op==GG)=false:=by cases op<;>first|rfl|exact absurd rfl h2
 cases b<;>simp[behindInMarks,e1,e2]
theorem rO {r:R2}(ho:OpR X (compareOp op) r)(ha:PE X a ta)(hb:PE X b tb)(hm:behindInMarks op b=false):PE X (.Compare a [op] [b] pos) (tOp r ta tb):=by
 k_in;exact wpAny_Compare1 (Ad7 ha hb I h λv u s2 x y H2 I2 rx ry q=>ho pins s2 G H2 x y v u Q I2 rx ry q) hm
def xL (t:TE):TT:=λG H Q=>t G H λx H'=>∃k,x=.bl k/\Q k H'
theorem To {r:R2}(ho:OpR X (compareOp op) r)(ha:PE X a ta)(hb:PE X b tb)(hm:behindInMarks op b=false):PT X (.Compare a [op] [b] pos) (xL (tOp r ta tb)):=by
 k_in;refine wpAny_isTrue_Compare1 (thE ha I h λv s1 x H1 I1 r1 q1=>thE hb I1 q1 λu s2 y H2 I2 r2 q2=>
  thn (ho pins s2 G H2 x y v u _ I2 r1 r2 q2) λc s3 ⟨z,H3,I3,r3,k,e,q3⟩=>?_) hm
 subst e;cases r3;exact oi ⟨H3,I3,q3⟩
def zN (r r':R2)(ta tb tc:TE):TE:=λG H Q=>ta G H λx H1=>tb G H1 λy H2=>r x y H2 λz H3=>∃k,z=.bl k /\
 (if k=true then tc G H3 λw' H4=>r' y w' H4 Q else Q (.bl false) H3)
theorem lB {op':vb}{r r':R2}(ho:OpR X (compareOp op) r)(ho':OpR X (compareOp op') r')(ha:PE X a ta)(hb:PE X b tb)(hc:PE X c tc)
  (hm:lastMarks [op,op'] [b,c]=false:=by with_unfolding_all rfl):PE X (.Compare a [op,op'] [b,c] pos) (zN r r' ta tb tc):=by
 k_in;refine Compare_chain (thE ha I h λv s1 x H1 I1 r1 q1=>chain_link (thE hb I1 q1 λu s2 y H2 I2 r2 q2=>
  thn (ho pins s2 G H2 x y v u _ I2 r1 r2 q2) λd s3 ⟨z,H3,I3,r3,k,e,q3⟩=>?_)) hm
 subst e;cases r3;refine oi ?_
 cases k with
 |false=>exact ite_ff ⟨.bl false,H3,I3,rfl,q3⟩
 |true=>exact ite_tt (chain_last (thn (hc pins s3 G H3 _ I3 q3) λw' s4 ⟨z',H4,I4,r4,q4⟩=>ho' pins s4 G H4 y z' u w' Q I4 r2 r4 q4))
theorem Lx:(sizeLine:Nat)<2 ^ 63:=by rw[EI];decide
theorem Kr:OpR X (binaryOp .Add) (λx y H Q=>∃i j,x=.str i/\y=.str j/\i.length+j.length<=sizeLine/\Q (.str (i++j)) H):=by
 intro pins s G H x y v u Q I rx ry h;obtain⟨i,j,rfl,rfl,hz,q⟩:=h;obtain⟨t,rfl⟩:=rx;obtain⟨t',rfl⟩:=ry;exact add_str (λt' tk=>⟨.str (i++j),H,I.tok _,⟨_,rfl⟩,q⟩) hz
theorem Fh {x:V}(r:Ay [x] us):∃u,us=[u]/\Bc x u:=by
 cases r with
 |cons r1 r2=>cases r2;exact⟨_,rfl,r1⟩
theorem Nk {x:V}(r:Ay [x,y] us):∃u w',us=[u,w']/\Bc x u/\Bc y w':=by
 cases r with
 |cons r1 r2=>
  cases r2 with
  |cons r3 r4=>cases r4;exact⟨_,_,rfl,r1,r3⟩
theorem yA:Ev X (.builtin "abs") (λxs H Q=>∃i,xs=[.int i]/\Q (.int (if i<0 then -i else i)) H):=by
 intro pins s G H xs us Q I r h;obtain⟨i,rfl,q⟩:=h;obtain⟨u,rfl,t,rfl⟩:=Fh r;exact call_abs_int λu tk=>⟨.int (if i<0 then -i else i),H,I.tok _,⟨_,rfl⟩,q⟩
theorem sM (hc:X.calm=true):Ev X (.builtin "max") (λxs H Q=>∃i j,xs=[.int i,.int j]/\Q (.int (if j>i then j else i)) H):=by
 intro pins s G H xs us Q I r h;obtain⟨i,j,rfl,q⟩:=h;obtain⟨u,w',rfl,⟨t,rfl⟩,⟨t',rfl⟩⟩:=Nk r;refine max_two_ints (I.ok.hd hc) λh' tk k=>⟨_,H,I.kept k,?_,q⟩
 by_cases hj:j>i
 ·rw[if_pos hj,if_pos hj];exact⟨_,rfl⟩
 ·rw[if_neg hj,if_neg hj];exact⟨_,rfl⟩
theorem R0 (hc:X.calm=true):Ev X (.builtin "min") (λxs H Q=>∃i j,xs=[.int i,.int j]/\Q (.int (if j<i then j else i)) H):=by
 intro pins s G H xs us Q I r h;obtain⟨i,j,rfl,q⟩:=h;obtain⟨u,w',rfl,⟨t,rfl⟩,⟨t',rfl⟩⟩:=Nk r;refine min_two_ints (I.ok.hd hc) λh' tk k=>⟨_,H,I.kept k,?_,q⟩
 by_cases hj:j<i
 ·rw[if_pos hj,if_pos hj];exact⟨_,rfl⟩
 ·rw[if_neg hj,if_neg hj];exact⟨_,rfl⟩
theorem sH:Ev X (.type "int") (λxs H Q=>(∃i,xs=[.int i]/\Q (.int i) H)\/∃k,xs=[.bl k]/\Q (.int (if k then 1 else 0)) H):=by
 intro pins s G H xs us Q I r h;rcases h with⟨i,rfl,q⟩|⟨k,rfl,q⟩
 ·obtain⟨u,rfl,t,rfl⟩:=Fh r
  exact call_int_int ⟨.int i,H,I,⟨_,rfl⟩,q⟩
 ·obtain⟨u,rfl,r1⟩:=Fh r
  cases r1;exact call_int_bool ⟨.int (if k then 1 else 0),H,I.tok _,⟨_,rfl⟩,q⟩
end
structure lI (h:jj) (x dx C:eg) (mA:Za2):Prop where
 obj:h.get? x=some (instObj C dx)
 ns:h.Ns1 dx mA
 ne:dx≠x
theorem sI {mA:Za2}(n:h.Ns1 dx mA):∃od,h.get? dx=some od/\∀name,lookIn name od=some (mA name):=by
 obtain⟨o,es,ep,ho,hd,hk,_,hm⟩:=n;refine⟨o,ho,λname=>?_⟩;have e:=hm name;unfold nsFind findBy at e;rw[<-Array.find?_toList] at e;unfold lookIn;rw[hd];dsimp only;split
 ·rename_i y q
  rw[q] at e;exact congrArg some e
 ·rename_i q
  rw[q] at e;have a:es.toList.any (·.refKey)=false:=by
   rw[List.any_eq_false];intro y hy;obtain⟨z,t,hkey⟩:=hk y (Array.mem_toList_iff.mp hy);simp[KB,hkey]
  have a':¬ es.toList.any (·.refKey)=true:=by rw[a];exact gz
  rw[if_neg a'];exact congrArg some e
theorem lI.look {x:eg}{mA:Za2}(I:lI h x dx C mA):∃od,PySem.W.InstAt h x (instObj C dx) C (some od)/\∀name,lookIn name od=some (mA name):=
 let ⟨od,ho,hl⟩:=sI I.ns
 ⟨od,⟨I.obj,rfl,rfl,ho⟩,hl⟩
section
variable {prog:gl} {w:iq} {A:i9} {E:Za0} {s:fv} {K:d6} {x dx C f:eg} {mA:Za2} {name:Str} {v:fh}
theorem Ab2 {expr:Bool}{Q:Za0}(X:K.In s.heap)(I:lI s.heap x dx C mA)(hg:ue K C name=true)(hh:xa K C=true)
  (ha:j7 K (.ref C) name=some none)(hv:mA name=some v)(hv':CF v=true)(h:Q v { s with toks:=s.toks+1 }) :
  wpAny (model prog w) A (getAttr (.ref x) name expr) Q E s:=by
 obtain⟨od,J,hl⟩:=I.look;exact PySem.W.get_value X J (wa hg).1 (PySem.W.findObj_own hh ha rfl (by rw[hl,hv])) hv' h
theorem zH {Q:fh×Za3->fv->Prop}(X:K.In s.heap)(I:lI s.heap x dx C mA)(hg:ue K C name=true)
  (hf:j7 K (.ref C) name=some (some (.ref f)))(ht:qm K (.ref f)=true)(hv:mA name=none)(h:Q (.ref f,[.ref x]) s) :
  wpAny (model prog w) A (getMethod (.ref x) name pl) Q E s:=by
 obtain⟨od,J,hl⟩:=I.look;exact PySem.W.method_fn X J (wa hg).1 (wa hg).2 hf (beq_iff_eq.mp ht) (by show(lookIn name od).map (·.isSome)=some false;rw[hl,hv];rfl) h
theorem Aao {ns:Za6}{Q:Unit->fv->Prop}(X:K.In s.heap)(I:lI s.heap x dx C mA)
  (hs:j7 K (.ref C) "__setattr__"=some (some (.builtin "object.__setattr__")))(hp:BG K C=true)(ht:x4 K C name=some none)(hh:xa K C=true)
  (hw:AC mA ns)(hsz:ns.length<=sizeLine)
  (h:∀h',lI h' x dx C (λy=>if y=name then some v else mA y)->va dx s.heap h'->Q () { s with heap:=h',toks:=s.toks+2 }) :
  wpAny (model prog w) A (setAttr (.ref x) name v) Q E s:=by
 obtain⟨od,J,hl⟩:=I.look;refine PySem.W.set_plain X J hs (PySem.W.osa_open (s:={ s with toks:=s.toks+1 }) (r:=none) X J hp ht λb=>?_);obtain⟨cd,hc,hd'⟩:=PySem.W.any_some hh;have hx:s.heap.get? x=some ⟨.ref C,some dx,.plain,#[]⟩:=I.obj;refine wpAny_bind (fq (wpAny_bind (wpAny_bind (wpAny_loadPart hx (wpAny_bind (GI (s:={ s with toks:=s.toks+1 }) (PySem.W.looks_clsIn X hc) ?_))))));rw[hd'];refine fq (a:=some dx) (wpAny_bind (fq (wpAny_bind ?_)));refine wpAny_nsSet1 (s:={ s with toks:=s.toks+1 }) I.ns λh' hn2 hs2=>?_;obtain⟨oD,esD,epD,hoD,hdD,hcD⟩:=hn2.count (HC name v hw);refine wpAny_bind (wpAny_lookBehind hoD (by rw[hdD];exact pastItsLine_dict (ir hcD (by rw[gn];lia))) ?_);exact fq (h _ ⟨(hs2.2 _ (rh I.ne)).trans I.obj,hn2,I.ne⟩ hs2)
theorem uW {R:wm->fv->Prop}{kw:List (Str×fh)}(X:K.In s.heap)(hm:CM K C=true)
  (hi:j7 K (.ref C) "__init__"=some (some (.ref f)))(hf:PySem.W.typeIn K (.ref f)=some (.type "function"))
  (h:codeAny (model prog w) (A.under (.builtin "type.__call__" ⟨.ref C::vs,kw⟩)) (.call (.ref f) ⟨.ref (s.heap.objs.size+1)::vs,kw⟩) (PySem.W.InitBack (s.heap.objs.size+1) R)
   { s with heap:=(s.heap.push emptyDict).push (instObj C s.heap.objs.size) }) :
  codeAny (model prog w) A (.call (.ref C) ⟨vs,kw⟩) R s:=by
 obtain⟨hh,g,d,t,os⟩:=s;exact PySem.W.make_core (PySem.W.makes_of X hm) (PySem.W.looks_findIn X hi) (λself=>PySem.W.bind_fn X self hf) (.inl rfl) h
end
def F9 (f : Str)(v : V) : List (Str × V)->List (Str × V)
  | [] => [(f, v)]
  | (g, x) :: r => if g = f then (g, v) :: r else (g, x) :: F9 f v r
theorem So (f g:Str)(v:V):∀ fs:List (Str×V),(F9 f v fs).lookup g=if g=f then some v else fs.lookup g
  | [] => by
    show ox g [(f, v)] = _
    by_cases h : g = f
    · have hb : (g == f) = true := beq_iff_eq.mpr h
      simp only [ox, hb, if_pos h]
    · have hb : (g == f) = false := beq_eq_false_iff_ne.mpr h
      simp only [ox, hb, if_neg h]
  | (k, x) :: r => by
    have ih := So f g v r;rw [show F9 f v ((k, x) :: r) = (if k = f then (k, v) :: r else (k, x) :: F9 f v r) from rfl]
    by_cases hk : k = f
    · rw [if_pos hk]
      by_cases h : g = k
      · have hb : (g == k) = true := beq_iff_eq.mpr h
        simp only [ox, hb, if_pos (h.trans hk)]
      · have hb : (g == k) = false := beq_eq_false_iff_ne.mpr h
        simp only [ox, hb, if_neg (λe : g = f => h (e.trans hk.symm))]
    · rw [if_neg hk]
      by_cases h : g = k
      · have hb : (g == k) = true := beq_iff_eq.mpr h
        simp only [ox, hb, if_neg (λe : g = f => hk (h.symm.trans e))]
      · have hb : (g == k) = false := beq_eq_false_iff_ne.mpr h
        simp only [ox, hb];exact ih
theorem Rt (f:Str)(v:V):∀ fs:List (Str×V),f∈(F9 f v fs).map (·.1)/\∀ g,g∈fs.map (·.1)->g∈(F9 f v fs).map (·.1)
  | [] => ⟨by simp [F9], λg h => by simp at h⟩
  | (k, x) :: r => by
    obtain ⟨i1, i2⟩ := Rt f v r;rw [show F9 f v ((k, x) :: r) = (if k = f then (k, v) :: r else (k, x) :: F9 f v r) from rfl]
    by_cases hk : k = f
    · rw [if_pos hk]
      subst hk;exact ⟨by simp, λg h => by simpa using h⟩
    · rw [if_neg hk]
      refine ⟨?_, λg h => ?_⟩
      · rw [im]
        exact gv _ i1
      · rw [im] at h ⊢
        rcases iu.mp h with e | e
        · exact iu.mpr (.inl e)
        · exact gv _ (i2 g e)
theorem Sb (f:Str)(v:V):∀ fs:List (Str×V),(F9 f v fs).length<=fs.length+1
  | [] => by simp [F9]
  | (k, x) :: r => by
    have ih := Sb f v r;rw [show F9 f v ((k, x) :: r) = (if k = f then (k, v) :: r else (k, x) :: F9 f v r) from rfl]
    by_cases hk : k = f
    · rw [if_pos hk, gn, gn]; lia
    · rw [if_neg hk, gn, gn]; lia
theorem Pl.some_of {v:V}{o:Za7}(r:Pl (some v) o):∃u,o=some u/\Bc v u:=by
 cases o with
 |none=>exact(show False from r).elim
 |some u=>exact⟨u,rfl,r⟩
theorem Pl.none_of {o:Za7}(r:Pl none o):o=none:=by
 cases o with
 |none=>rfl
 |some u=>exact(show False from r).elim
theorem sU {v:V}{u:fh}(r:Bc v u):CF u=true:=by
 cases v with
 |non=>cases(show u=sw from r);rfl
 |bl b=>cases(show u=y8 b from r);rfl
 |int i=>obtain⟨t,e⟩:=(show ∃t,u=o7 i t from r);cases e;rfl
 |str x=>obtain⟨t,e⟩:=(show ∃t,u=qk x t from r);cases e;rfl
 |byt b=>obtain⟨t,e⟩:=(show ∃t,u=FV b t from r);cases e;rfl
 |flt b=>obtain⟨t,e⟩:=(show ∃t,u=AZ b t from r);cases e;rfl
 |ref a=>cases(show u=jb a from r);rfl
 |ty n=>cases(show u=kh n from r);rfl
section
variable {P:gl} {w:iq} {H H':Hp} {h h':jj} {a C dx:eg} {fs fs':List (Str×V)}
theorem Tl (hok:HOk P w H h)(e:H a=some (.ins C dx fs)):∃mA,lI h a dx C mA/\(∀f,Pl (fs.lookup f) (mA f))/\AC mA (fs.map (·.1))/\fs.length<=1000/\H dx=some (.own a):=by
 obtain⟨d,z,ne,ob,mA,n,r,q⟩:=(show Cq P w H h a (.ins C dx fs) from hok a _ e);exact⟨mA,⟨ob,n,ne⟩,r,q,z,d⟩
end
structure Cls (K:d6) (C:eg):Prop where
 pg:ue K C ym=true
 hd:xa K C=true
 po:BG K C=true
 sa:j7 K (.ref C) "__setattr__"=some (some (.builtin "object.__setattr__"))
theorem Cls.get {K:d6}(c:Cls K C)(f:Str):ue K C f=true:=c.pg
def Bg (K:d6)(C:eg)(f:Str):Prop:=j7 K (.ref C) f=some none
theorem Bg.taker {K:d6}{f:Str}(n:Bg K C f):x4 K C f=some none:=by
 unfold x4;rw[show j7 K (.ref C) f=some none from n];rfl
structure Ab1 (K:d6) (C:eg) (m:Str) (f:eg):Prop where
 at_:j7 K (.ref C) m=some (some (.ref f))
 fn:qm K (.ref f)=true
 kp:ka K (.ref f)=true
section
variable {X:Cx} {pins:Za1} {G:St} {H:Hp} {s:fv} {a C dx:eg} {fs:List (Str×V)} {f:Str} {v:V} {A:i9} {E:Za0}
theorem mN {b:Bool}{Q:Za0}(I:Inv X pins G H s)(e:H a=some (.ins C dx fs))(c:Cls X.K C)(n:Bg X.K C f)(l:fs.lookup f=some v)
  (h:∀u s',Inv X pins G H s'->Bc v u->Q u s'):wpAny (model X.prog X.w) A (getAttr (.ref a) f b) Q E s:=by
 obtain⟨mA,O,r,_,_,_⟩:=Tl I.hok e;obtain⟨u,hu,ru⟩:=Pl.some_of (v:=v) (o:=mA f) (by rw[<-l];exact r f);exact Ab2 I.kIn O (c.get f) c.hd n hu (sU ru) (h u _ (I.tok _) ru)
theorem Xm {m:Str}{g:eg}{Q:fh×Za3->fv->Prop}(I:Inv X pins G H s)(e:H a=some (.ins C dx fs))(c:Cls X.K C)(k:Ab1 X.K C m g)(l:fs.lookup m=none)
  (h:Q (.ref g,[.ref a]) s):wpAny (model X.prog X.w) A (getMethod (.ref a) m pl) Q E s:=by
 obtain⟨mA,O,r,_,_,_⟩:=Tl I.hok e;have hn:mA m=none:=Pl.none_of (by rw[<-l];exact r m);exact zH I.kIn O (c.get m) k.at_ k.fn hn h
theorem lL {u:fh}{Q:Unit->fv->Prop}(I:Inv X pins G H s)(e:H a=some (.ins C dx fs))(c:Cls X.K C)(n:Bg X.K C f)(hl:fs.length<1000)(ry:Bc y u)
  (h:∀s',Inv X pins G (upd H a (.ins C dx (F9 f y fs))) s'->Q () s'):wpAny (model X.prog X.w) A (setAttr (.ref a) f u) Q E s:=by
 obtain⟨mA,O,r,wi,_,ho⟩:=Tl I.hok e;have hz:(fs.map (·.1)).length<=sizeLine:=by rw[d7,EI];lia
 refine Aao I.kIn O c.sa c.po n.taker c.hd wi hz λh' O' sb=>h _ ?_;have hd:∃o,h'.get? dx=some o:=let ⟨o,_,_,e',_⟩:=O'.ns;⟨o,e'⟩;refine I.write (x:=a) (e:=dx) (by rw[e];exact ql) (.inr ho) (λb q hb z=>(sb.2 b hb).trans z) hd ?_;refine⟨by rw[Al O.ne];exact ho,?_,O.ne,O'.obj,_,O'.ns,λg=>?_,λg hg=>?_⟩
 ·have:=Sb f y fs;lia
 ·show Pl ((F9 f y fs).lookup g) (if g=f then some u else mA g)
  rw[So]
  by_cases q:g=f
  ·rw[if_pos q,if_pos q];exact ry
  ·rw[if_neg q,if_neg q];exact r g
 ·by_cases q:g=f
  ·rw[q];exact(Rt f y fs).1
  ·refine(Rt f y fs).2 g (wi g λz=>hg ?_)
   show(if g=f then some u else mA g)=none;rw[if_neg q];exact z
theorem Inv.made (I:Inv X pins G H s):Inv X pins G (upd (upd H s.heap.objs.size (.own (s.heap.objs.size+1))) (s.heap.objs.size+1) (.ins C s.heap.objs.size []))
  { s with heap:=(s.heap.push emptyDict).push (instObj C s.heap.objs.size) }:=by
 have e1:(s.heap.push emptyDict).get? s.heap.objs.size=some emptyDict:=gq s.heap rfl;have e2:((s.heap.push emptyDict).push (instObj C s.heap.objs.size)).get? (s.heap.objs.size+1)=some (instObj C s.heap.objs.size):=by
  have:=gq (s.heap.push emptyDict) (o:=instObj C s.heap.objs.size) rfl
  rwa [pi] at this
 have e3:(s.heap.push emptyDict).Ns s.heap.objs.size (λ_=>none):=⟨emptyDict,#[],_,e1,rfl,(λe he=>absurd he (by simp)),λ_=>rfl⟩;have I1:=I.laid (a:=s.heap.objs.size) (o:=.own (s.heap.objs.size+1)) (h':=s.heap.push emptyDict) (t':=s.toks) (λb u q=>en _ q) (d8 _) ⟨_,e1⟩;refine I1.laid (a:=s.heap.objs.size+1) (o:=.ins C s.heap.objs.size []) (t':=s.toks) (λb u q=>en _ q) (oh (pi _ _)) ?_;have ne:s.heap.objs.size≠s.heap.objs.size+1:=gm (nj _);refine⟨by rw[Al ne,Af],gp _,ne,e2,λ_=>none,(Heap.Ns1.of_empty e3).at λo q=>en _ q,λ_=>ql,λy hy=>absurd rfl hy⟩
theorem Aax {prog:gl}{e:i8}{f:Str}{Q:Za0}(hb:attributeBase e f env (eval e env)=eval e env)
  (h:wpAny (model prog w) A (eval e env) (λo QN=>wpAny (model prog w) A (getAttr o f true) Q E QN) E s):wpAny (model prog w) A (eval (.Attribute e f pos) env) Q E s:=
 Attribute_any_ h (by rw[arm_eval_Attribute,hb])
end
def Aaq (K:d6)(ta:TE)(f:Str):TE:=λG H Q=>ta G H λx H1=>∃a C dx fs v,x=.ref a/\H1 a=some (.ins C dx fs)/\Cls K C/\Bg K C f/\fs.lookup f=some v/\Q v H1
def Ae2 (K:d6)(ta tv:TE)(f:Str):TS:=λD G H=>tv G H λy H1=>ta G H1 λx H2=>∃a C dx fs,x=.ref a/\H2 a=some (.ins C dx fs)/\Cls K C/\Bg K C f/\fs.length<1000 /\
 D.nx G (upd H2 a (.ins C dx (F9 f y fs)))
section
variable {X:Cx} {o e value:i8} {f:Str} {pos pos' tpos:Pos} {ta tv:TE}
theorem yW (he:PE X e ta)(hb:attributeBase e f X.env (eval e X.env)=eval e X.env):PE X (.Attribute e f pos) (Aaq X.K ta f):=by
 k_in;refine Aax hb (thE he I h λu s1 x H1 I1 rx ⟨a,C,dx,fs,v,ex,ea,c,n,l,q⟩=>?_);subst ex;obtain rfl:u=jb a:=rx;exact mN I1 ea c n l λu' s2 I2 ru=>⟨v,H1,I2,ru,q⟩
theorem Afq (ha:PE X o ta)(hv:PE X value tv)(hs:swapsWith value (some (.Attribute o f pos')) pos.line X.env=pure false):PS X (.Assign [.Attribute o f pos'] value pos) (Ae2 X.K ta tv f):=by
 k_end;refine plainObj_wpAny_Assign_Attribute (thE hv I h λu s1 y H1 I1 ry q=>thE ha I1 q λov s2 x H2 I2 rx ⟨a,C,dx,fs,ex,ea,c,n,l,q2⟩=>?_) hs;subst ex;obtain rfl:ov=jb a:=rx;exact lL I2 ea c n l ry λs3 I3=>⟨G,_,I3,q2⟩
end
section
variable {X:Cx} {pins:Za1} {G:St} {H:Hp} {s:fv} {A:i9} {E:Za0} {Q:Za0} {c:fh} {b:Bool}
inductive Oy (K:d6) (H:Hp):V->fh->Prop where
 |non:Oy K H .non (.type "NoneType")
 |bl (x:Bool):Oy K H (.bl x) (.type "bool")
 |int (i:Int):Oy K H (.int i) (.type "int")
 |str (x:Str):Oy K H (.str x) (.type "str")
 |flt (x:UInt64):Oy K H (.flt x) (.type "float")
 |lst {a:eg} {xs:List V} (e:H a=some (.lst xs)):Oy K H (.ref a) (.type "list")
 |frz {a:eg} {o:Obj} {xs:List V} (e:H a=some (.frz o (.lst xs))):Oy K H (.ref a) (.type "list")
 |tup {a:eg} {xs:List V} (e:H a=some (.tup xs)):Oy K H (.ref a) (.type "tuple")
 |dK {a:eg} {kvs:List (Key×V)} (e:H a=some (.dK kvs)):Oy K H (.ref a) (.type "dict")
 |dT {a:eg} {kvs:List (List Key×V)} (e:H a=some (.dT kvs)):Oy K H (.ref a) (.type "dict")
 |ins {a C dx:eg} {fs:List (Str×V)} (e:H a=some (.ins C dx fs)) (cl:Cls K C) (ha:j7 K (.ref C) "__class__"=some (some (.builtin "object.__class__")))
   (hn:PySem.W.specialIn K (.builtin "object.__class__") "__get__"=some (some (.builtin "getset_descriptor.__get__"))) (htk:PySem.W.takesIn K (.builtin "object.__class__")=some true)
   (hm:PySem.W.mroIn K C (.type "object")=some true):Oy K H (.ref a) (.ref C)
theorem tO {x:V}{u t:fh}(I:Inv X pins G H s)(rx:Bc x u)(ty:Oy X.K H x t)(e:kitOne X.K t c=some b)(h:∀tk,Q (.bool b) { s with toks:=tk }) :
  wpAny (model X.prog X.w) A (call (.builtin "isinstance") [u,c]) Q E s:=by
 cases ty with
 |non=>cases(show u=sw from rx);exact sr PySem.W.kitx_none I.kIn ql e (λz=>nomatch z) h
 |bl y=>cases(show u=y8 y from rx);exact sr PySem.W.kitx_bool I.kIn ql e (λz=>nomatch z) h
 |int i=>obtain⟨t,q⟩:=(show ∃t,u=o7 i t from rx);cases q;exact sr PySem.W.kitx_int I.kIn ql e (λz=>nomatch z) h
 |str y=>obtain⟨t,q⟩:=(show ∃t,u=qk y t from rx);cases q;exact sr PySem.W.kitx_str I.kIn ql e (λz=>nomatch z) h
 |flt y=>obtain⟨t,q⟩:=(show ∃t,u=AZ y t from rx);cases q;exact sr PySem.W.kitx_float I.kIn ql e (λz=>nomatch z) h
 | @lst a xs ea=>
  cases(show u=jb a from rx);obtain⟨_,_,n,_,h1⟩:=(show Cq X.prog X.w H s.heap a (.lst xs) from I.hok a _ ea);exact sr BH I.kIn ⟨_,h1,rfl⟩ e (λz=>nomatch z) h
 | @frz a ob xs ea=>
  cases(show u=jb a from rx);obtain⟨_,_,_,n,_,h1⟩:=(show Cq X.prog X.w H s.heap a (.frz ob (.lst xs)) from I.hok a _ ea);exact sr BH I.kIn ⟨_,h1,rfl⟩ e (λz=>nomatch z) h
 | @tup a xs ea=>
  cases(show u=jb a from rx);obtain⟨_,_,_,p⟩:=(show Cq X.prog X.w H s.heap a (.tup xs) from I.hok a _ ea);obtain⟨o,h1,h2,_⟩:=p;exact sr PySem.W.kitx_tuple I.kIn ⟨o,h1,h2⟩ e (λz=>nomatch z) h
 | @dK a kvs ea=>
  cases(show u=jb a from rx);obtain⟨_,_,vs,_,p⟩:=(show Cq X.prog X.w H s.heap a (.dK kvs) from I.hok a _ ea);obtain⟨o,es,ep,h1,h2,_⟩:=p;exact sr BI I.kIn ⟨o,h1,h2.1⟩ e (λz=>nomatch z) h
 | @dT a kvs ea=>
  cases(show u=jb a from rx);obtain⟨_,_,xs,_,o,es,ep,h1,h2,_⟩:=(show Cq X.prog X.w H s.heap a (.dT kvs) from I.hok a _ ea);exact sr BI I.kIn ⟨o,h1,h2.1⟩ e (λz=>nomatch z) h
 | @ins a C dx fs ea cl ha hn htk hm=>
  cases(show u=jb a from rx);obtain⟨mA,O,_⟩:=Tl I.hok ea;obtain⟨od,J,_⟩:=O.look;exact sr (PySem.W.kitx_own (cl.get _) cl.hd ha hn htk hm) I.kIn J e (λz=>nomatch z) h
end
structure Co (k:Nat) (A:i9):Prop where
 hd:A.handled=none
 dp:A.depth+3*k+5<recursionLimit
 un:A.units+16*k+200<cLine
theorem Co.mono {j k:Nat}(r:Co k A)(h:j<=k):Co j A:=⟨r.hd,by have:=r.dp;lia,by have:=r.un;lia⟩
theorem Co.m {j k:Nat}(r:Co k A)(h:autoParam (j<=k) QF):Co j A:=r.mono h
theorem Co.deeper {k:Nat}(r:Co (k+1) A)(env:Env):Co k (A.deeper env):=
 ⟨r.hd,by have:=r.dp;show A.depth+1+3*k+5<_;lia,by have:=r.un;show A.units+3+16*k+200<_;lia⟩
theorem oF {kw:List (Str×fh)}:(A.under (.builtin "type.__call__" ⟨.ref C::us,kw⟩)).depth=A.depth+1:=by
 first|rfl|simp[AB,Code.weight,Code.isCreation,Code.isGuard,Code.isCaller,GV,AO,guardIds]
theorem lK {kw:List (Str×fh)}:(A.under (.builtin "type.__call__" ⟨.ref C::us,kw⟩)).units=A.units+1:=by
 first|rfl|simp[AB,Code.cUnits,GV,AO]
theorem Co.make {k:Nat}(r:Co (k+1) A)(C:eg)(us:Za3)(kw:List (Str×fh)):Co k (A.under (.builtin "type.__call__" ⟨.ref C::us,kw⟩)):=
 ⟨r.hd,by have:=r.dp;rw[oF];lia,by have:=r.un;rw[lK];lia⟩
theorem Co.depth {k:Nat}(r:Co k A):A.depth<recursionLimit:=by have:=r.dp;lia
theorem Co.units {k:Nat}(r:Co k A):A.units+64<cLine:=by have:=r.un;lia
def nU:TA:=λ_ H Q=>Q [] H
def jP (ta:TE)(tr:TA):TA:=λG H Q=>ta G H λx H1=>tr G H1 λxs H2=>Q (x::xs) H2
section
variable {X:Cx} {e:i8} {es:List i8} {te:TE} {t:TA} {pos:Pos}
theorem Aa:PA X [] nU:=λ_ _ _ _ H Q I h=>n5 ⟨[],H,I,.nil,h⟩
theorem oX (ha:PE X e te)(hr:PA X es t)(hs:autoParam (starEach (e::es) X.env=(false,eval e X.env)::starEach es X.env) QD):PA X (e::es) (jP te t):=by
 intro pos pins s G H Q I h;rw[hs];show wpAny _ _ (spliced ((false,eval e X.env)::backTo pos (starEach es X.env))) _ _ s;refine lq (thE ha I h λu s1 x H1 I1 r1 q1=>?_);exact thA hr I1 q1 λus s2 xs H2 I2 r2 q2=>⟨x::xs,H2,I2,.cons r1 r2,q2⟩
def Agj (t:TA):TE:=λG H Q=>t G H λxs H1=>xs.length<=sizeLine/\∀p,H1 p=none->Q (.ref p) (upd H1 p (.tup xs))
def Agc (t:TA):TE:=λG H Q=>t G H λxs H1=>xs.length<=sizeLine/\∀p,H1 p=none->Q (.ref p) (upd H1 p (.lst xs))
theorem N8 {x1}(h:PA X es t):PE X (.Tuple es x1 pos) (Agj t):=by
 intro pins s G H Q I hq;refine wpAny_Tuple_spliced (thA h I hq λus s1 xs H1 I1 r ⟨z,q⟩=>⟨by rw[<-r.length];exact z,?_⟩);have hf:H1 s1.heap.objs.size=none:=I1.hok.fresh (d8 _);refine⟨.ref s1.heap.objs.size,upd H1 s1.heap.objs.size (.tup xs),I1.laid (t':=s1.toks) (λb u e=>en _ e) (d8 _) ?_,rfl,q _ hf⟩;exact⟨z,us,r,⟨_,gq _ rfl,rfl,_,rfl⟩⟩
theorem Bn (h:PA X es t):PE X (.List es pos) (Agc t):=by
 intro pins s G H Q I hq;refine wpAny_List_spliced (thA h I hq λus s1 xs H1 I1 r ⟨z,q⟩=>⟨by rw[<-r.length];exact z,?_⟩);have hf:H1 s1.heap.objs.size=none:=I1.hok.fresh (d8 _);refine⟨.ref s1.heap.objs.size,upd H1 s1.heap.objs.size (.lst xs),I1.laid (t':=s1.toks) (λb u e=>en _ e) (d8 _) ?_,rfl,q _ hf⟩;exact⟨z,us,0,r,gq _ rfl⟩
end
abbrev Sp:=List V->Hp->VK->XK->Prop
abbrev CXT:=List Env->Hp->fv->XK->Za0
structure X3 (P:gl) (w:iq) (K:d6) (mg:Za2) (base:jj) (A:i9) (outer:List Env) (s:fv) (H:Hp):Prop where
 frames:A.frames=some outer
 mod:Mod K mg base
 bs:∀b o,base.get? b=some o->s.heap.get? b=some o/\H b=none
 bsz:base.objs.size<=s.heap.objs.size
 funs:s.heap.FunFrames base outer
 frf:∀b∈frs outer,H b=none
 hok:HOk P w H s.heap
 bare:ww s.gens
def CE (outer:List Env)(P:gl)(w:iq)(H:Hp)(s:fv)(Q:VK)(u:fh)(s':fv):Prop:=
 ∃v H',s'.os=s.os/\ww s'.gens/\Un (frs outer) [] H H' s.heap s'.heap/\HOk P w H' s'.heap/\Bc v u/\Q v H'
def CR (CX:CXT)(outer:List Env)(P:gl)(w:iq)(H:Hp)(s:fv)(Q:VK)(E:XK)(r:wm)(s':fv):Prop:=
 match r with
 |.ok (.ret u)=>CE outer P w H s Q u s'
 |.ok _=>False
 |.error e=>CX outer H s E e s'
structure Ar (P:gl) (w:iq) (K:d6) (mg:Za2) (base:jj) (CX:CXT) (k:Nat) (f:eg) (fd:jq) (ps:Za6) (sp:Sp):Prop where
 len:∀vs H Q E,sp vs H Q E->vs.length=ps.length
 run:∀(A:i9) (outer:List Env) (s:fv) (H:Hp) (args:Args) (us:Za3) (vs:List V) (Q:VK) (E:XK),Co k A->X3 P w K mg base A outer s H->AR s fd args (ps.zip us)->Ay vs us->sp vs H Q E ->
  codeAny (model P w) A (.call (.ref f) args) (CR CX outer P w H s Q E) s
theorem X3.make {P:gl}{K:d6}{mg:Za2}{outer:List Env}(e:X3 P w K mg base A outer s H)(C:eg)(us:Za3)(kw:List (Str×fh)) :
  X3 P w K mg base (A.under (.builtin "type.__call__" ⟨.ref C::us,kw⟩)) outer s H:=⟨by first|exact e.frames|(simpa [AB,Code.envs,AO,pushEnvs] using e.frames),e.mod,e.bs,e.bsz,e.funs,e.frf,e.hok,e.bare⟩
section
variable {X:Cx} {pins:Za1} {G:St} {H:Hp} {s s':fv}
theorem Inv.env0 (I:Inv X pins G H s):X3 X.prog X.w X.K X.mg X.base X.A X.stack s H:=
 ⟨I.ok.frames,I.ok.mod,I.bs,ir I.ok.bsz I.sz,I.stack,I.stkFree,I.hok,I.bare⟩
theorem Inv.after {Q:VK}{u:fh}(I:Inv X pins G H s)(h:CE X.stack X.prog X.w H s Q u s'):EP X pins G Q u s':=by
 obtain⟨v,H',os,bare,un,hok,r,q⟩:=h;obtain⟨hh,g,d,t,os'⟩:=s';obtain rfl:os'=s.os:=os;exact⟨v,H',I.call (h':=hh) (g':=g) (d':=d) (t':=t) (ch:=[]) un hok bare (λb z=>absurd z (by simp)),r,q⟩
end
def qV (sp:Sp)(dvs:List V)(E:XK)(t:TA):TE:=λG H Q=>t G H λvs H1=>sp (vs++dvs) H1 Q E
def jC (C:eg)(m:Str)(sp:Sp)(dvs:List V)(E:XK)(ta:TE)(t:TA):TE:=λG H Q=>ta G H λx H1=>∃a dx fs,x=.ref a/\H1 a=some (.ins C dx fs)/\fs.lookup m=none /\
 t G H1 λvs H2=>sp (x::(vs++dvs)) H2 Q E
def pF (C:eg)(sp:Sp)(dvs:List V)(E:XK)(t:TA):TE:=λG H Q=>t G H λvs H1=>∀x dx,H1 x=none->H1 dx=none->dx≠x ->
 sp (.ref x::(vs++dvs)) (upd (upd H1 dx (.own x)) x (.ins C dx [])) (λv H2=>v=.non/\Q (.ref x) H2) E
def Fm (K:d6)(fd:jq)(ps:Za6)(ds:Za3):Prop:=
 ∀(s:fv) (us:Za3),K.In s.heap->(us++ds).length=ps.length->AR s fd ⟨us,[]⟩ (ps.zip (us++ds))
theorem Fm.all {K:d6}(h:∀us:Za3,us.length=ps.length->bindArgs fd ⟨us,[]⟩=pure (ps.zip us)):Fm K fd ps []:=λs us _ hl=>by
 rw[gy] at hl ⊢;exact .of_eq (h us hl)
def J3 (CX:CXT)(X:Cx)(E:XK):Prop:=∀(pins:Za1) (G:St) (H:Hp) (s:fv) (e:fh) (s':fv),Inv X pins G H s->CX X.stack H s E e s'->X.xe e s'
section
variable {X:Cx} {CX:CXT} {k:Nat} {f C:eg} {fd:jq} {ps:Za6} {sp:Sp} {dvs:List V} {ds:Za3} {E:XK} {x m:Str} {p pos apos:Pos} {e o:i8} {es:List i8} {ta:TE} {t:TA}
theorem eG {G:St}{Q:VK}{vs:List V}(F:Ar X.prog X.w X.K X.mg X.base CX k f fd ps sp)(hr:Co k X.A)(hb:Fm X.K fd ps ds)(hd:Ay dvs ds)(hx:J3 CX X E)
  (I:Inv X pins G H s)(r:Ay vs us)(h:sp (vs++dvs) H Q E):wpAny (model X.prog X.w) X.A (call (.ref f) us) (EP X pins G Q) X.xe s:=by
 have r2:Ay (vs++dvs) (us++ds):=r.append hd;have hl:(us++ds).length=ps.length:=by rw[<-r2.length];exact F.len _ _ _ _ h
 refine yj (ud (F.run X.A X.stack s H ⟨us,[]⟩ (us++ds) (vs++dvs) Q E hr I.env0 (hb s us I.kIn hl) r2 h) λr s' hq=>?_)
 cases r with
 |error e=>exact hx pins G H s e s' I hq
 |ok fl=>
  cases fl with
  |ret u=>exact I.after hq
  |next=>exact ki hq
  |brk=>exact ki hq
  |cont=>exact ki hq
theorem Aat (F:Ar X.prog X.w X.K X.mg X.base CX k f fd ps sp)(hr:Co k X.A)(hg:Gl X x)(hm:X.mg x=some (.ref f))(hk:ka X.K (.ref f)=true)(hb:Fm X.K fd ps ds)(hd:Ay dvs ds)(hx:J3 CX X E)
  (ha:PA X (e::es) t)(hdb:autoParam ((x==("__debug__":Str))=false) QF)(he:autoParam (starEach (e::es) X.env=(false,eval e X.env)::starEach es X.env) QD)(hpl:autoParam ((backTo pos (starEach es X.env)).any (·.1)=false) QD) :
  PE X (.Call (.Name x p) (e::es) [] pos) (qV sp dvs E t):=by
 k_in;refine wpAny_Call_Name_kw (Ov I hg hm ?_ hdb);refine callWith_K (h₀:=X.base) I.ok.mod.kin hk (thA ha I h λus s1 vs H1 I1 r q=>⟨I1.kIn,?_⟩) he hpl;exact eG F hr hb hd hx I1 r q
theorem Aa7 (he:PE X o ta)(c:Cls X.K C)(hm:Ab1 X.K C m f)(F:Ar X.prog X.w X.K X.mg X.base CX k f fd ps sp)(hr:Co k X.A)(hb:Fm X.K fd ps ds)(hd:Ay dvs ds)(hx:J3 CX X E)(ha:PA X (e::es) t)
  (hst:autoParam (starEach (e::es) X.env=(false,eval e X.env)::starEach es X.env) QD)(hpl:autoParam ((backTo pos (starEach es X.env)).any (·.1)=false) QD)
  (ht:autoParam (eval (.Call (.Attribute o m apos) (e::es) [] pos) X.env=(do
   let ov <-eval o X.env
   standAt apos.atName
   let (f,first) <-holding [ov] (getMethod ov m pl)
   callWith pos f first (backTo pos (starEach (e::es) X.env)) (backToKw pos (keywordEach [] X.env)))) QD) :
  PE X (.Call (.Attribute o m apos) (e::es) [] pos) (jC C m sp dvs E ta t):=by
 k_in;refine zz (pl:=pl) (thE he I h λu s1 x H1 I1 rx ⟨a,dx,fs,ex,ea,l,q⟩=>?_) ht;subst ex;obtain rfl:u=jb a:=rx;refine Xm I1 ea c hm l ?_;refine callWith_K (first:=[.ref a]) (h₀:=X.base) I.ok.mod.kin hm.kp (thA ha I1 q λus s2 vs H2 I2 r q2=>⟨I2.kIn,?_⟩) hst hpl;exact eG (us:=.ref a::us) (vs:=.ref a::vs) F hr hb hd hx I2 (.cons rfl r) q2
theorem wV (he:PE X o ta)(c:Cls X.K C)(hm:Ab1 X.K C m f)(F:Ar X.prog X.w X.K X.mg X.base CX k f fd ps sp)(hr:Co k X.A)(hb:Fm X.K fd ps ds)(hd:Ay dvs ds)(hx:J3 CX X E)
  (ht:autoParam (eval (.Call (.Attribute o m apos) [] [] pos) X.env=(do
   let ov <-eval o X.env
   standAt apos.atName
   let (f,first) <-holding [ov] (getMethod ov m pl)
   callWith pos f first (backTo pos (starEach [] X.env)) (backToKw pos (keywordEach [] X.env)))) QD) :
  PE X (.Call (.Attribute o m apos) [] [] pos) (jC C m sp dvs E ta nU):=by
 k_in;refine zz (pl:=pl) (thE he I h λu s1 x H1 I1 rx ⟨a,dx,fs,ex,ea,l,q⟩=>?_) ht;subst ex;obtain rfl:u=jb a:=rx;refine Xm I1 ea c hm l ?_;exact PySem.W.callWith_K0 (first:=[.ref a]) I1.kIn hm.kp (eG (us:=[.ref a]) (vs:=[.ref a]) F hr hb hd hx I1 (.cons rfl .nil) q)
structure Mk (K:d6) (C f:eg):Prop where
 makes:CM K C=true
 init:j7 K (.ref C) "__init__"=some (some (.ref f))
 fn:qm K (.ref f)=true
 kp:ka K (.ref C)=true
theorem yB {G:St}{Q:VK}{vs:List V}(M:Mk X.K C f)(F:Ar X.prog X.w X.K X.mg X.base CX k f fd ps sp)(hr:Co (k+1) X.A)(hb:Fm X.K fd ps ds)(hd:Ay dvs ds)
  (hx:J3 CX X E)(I:Inv X pins G H s)(r:Ay vs us)
  (h:∀x dx,H x=none->H dx=none->dx≠x->sp (.ref x::(vs++dvs)) (upd (upd H dx (.own x)) x (.ins C dx [])) (λv H2=>v=.non/\Q (.ref x) H2) E) :
  wpAny (model X.prog X.w) X.A (call (.ref C) us) (EP X pins G Q) X.xe s:=by
 have hq:=h (s.heap.objs.size+1) s.heap.objs.size (I.hok.fresh (wo _)) (I.hok.fresh (d8 _)) (gm (nj _));have I2:=Inv.made (C:=C) I;have r2:Ay (V.ref (s.heap.objs.size+1)::(vs++dvs)) (jb (s.heap.objs.size+1)::(us++ds)):=.cons rfl (r.append hd);have hl:(jb (s.heap.objs.size+1)::us++ds).length=ps.length:=by
  have e:=r2.length;rw[F.len _ _ _ _ hq] at e;exact e.symm
 refine yj (uW (f:=f) I.kIn M.makes M.init (beq_iff_eq.mp M.fn) (ud (F.run _ X.stack _ _ ⟨jb (s.heap.objs.size+1)::us,[]⟩ (jb (s.heap.objs.size+1)::(us++ds)) _ _ E (hr.make C us [])
  (I2.env0.make C us []) (hb _ (jb (s.heap.objs.size+1)::us) I2.kIn hl) r2 hq) λr s' hq'=>?_))
 cases r with
 |error e=>exact hx pins G _ _ e s' I2 hq'
 |ok fl=>
  cases fl with
  |ret u=>
   obtain⟨v,H',I3,rv,ev,q3⟩:=I2.after hq';subst ev;exact⟨rv,⟨V.ref (s.heap.objs.size+1),H',I3,rfl,q3⟩⟩
  |next=>exact ki hq'
  |brk=>exact ki hq'
  |cont=>exact ki hq'
theorem pR (M:Mk X.K C f)(F:Ar X.prog X.w X.K X.mg X.base CX k f fd ps sp)(hr:Co (k+1) X.A)(hg:Gl X x)(hm:X.mg x=some (.ref C))(hb:Fm X.K fd ps ds)(hd:Ay dvs ds)(hx:J3 CX X E)
  (ha:PA X (e::es) t)(hdb:autoParam ((x==("__debug__":Str))=false) QF)(he:autoParam (starEach (e::es) X.env=(false,eval e X.env)::starEach es X.env) QD)(hpl:autoParam ((backTo pos (starEach es X.env)).any (·.1)=false) QD) :
  PE X (.Call (.Name x p) (e::es) [] pos) (pF C sp dvs E t):=by
 k_in;refine wpAny_Call_Name_kw (Ov I hg hm ?_ hdb);refine callWith_K (h₀:=X.base) I.ok.mod.kin M.kp (thA ha I h λus s1 vs H1 I1 r q=>⟨I1.kIn,?_⟩) he hpl;exact yB M F hr hb hd hx I1 r q
end
structure Ah (N P:Za6) (sc:nh):Prop where
 kind:sc.kind=.function
 co:sc.isCoroutine=false
 gen:sc.isGenerator=false
 nd:N.Nodup
 pre:N.take P.length=P
 par:∀x∈P,sc.names.lookup x=some .local\/sc.names.lookup x=some .cell
 nofree:∀y∈sc.names,y.2≠.free
theorem Zh {kindOf:Str->Option qf}{x:Str}:∀ {binds:List (Str×fh)} {m:Za2},(∀ v,(x,v)∉binds)->bindL kindOf binds m x=m x
  | [], _, _ => rfl
  | (n, v) :: r, m, h => by
    unfold bindL;rw [Zh λw hw => h w (gv _ hw)];split
    · have : x ≠ n := by rintro rfl; exact h v gu
      simp [this]
    · rfl
theorem Y7 {kindOf:Str->Option qf}{x:Str}:∀ {binds:List (Str×fh)} {m:Za2},(∀ v,(x,v)∉binds)->bindC kindOf binds m x=m x
  | [], _, _ => rfl
  | (n, v) :: r, m, h => by
    unfold bindC;rw [Y7 λw hw => h w (gv _ hw)];split
    · rfl
    · have : x ≠ n := by rintro rfl; exact h v gu
      simp [this]
theorem Zk {kindOf:Str->Option qf}{x:Str}{v:fh}:∀{P:Za6} {vs:Za3} {i:Nat} {m:Za2},P.Nodup->P[i]?=some x->vs[i]?=some v->kindOf x=some .local ->
  bindL kindOf (P.zip vs) m x=some v
 |[],_,_,_,_,h,_,_=>by simp at h
 |_::_,[],_,_,_,_,h,_=>by simp at h
 |p::P,w::vs,0,m,nd,h1,h2,hk=>by
  simp at h1 h2;subst h1;subst h2;show bindL kindOf ((p,w)::P.zip vs) m p=_;unfold bindL;rw[Zh λv hv=>(o8.mp nd).1 (sf hv).1,if_pos hk];simp
 |p::P,w::vs,i+1,m,nd,h1,h2,hk=>by
  show bindL kindOf ((p,w)::P.zip vs) m x=_;unfold bindL;exact Zk (i:=i) (o8.mp nd).2 (by simpa using h1) (by simpa using h2) hk
theorem Yk {kindOf:Str->Option qf}{x:Str}{v:fh}:∀{P:Za6} {vs:Za3} {i:Nat} {m:Za2},P.Nodup->P[i]?=some x->vs[i]?=some v->kindOf x≠some .local ->
  bindC kindOf (P.zip vs) m x=some v
 |[],_,_,_,_,h,_,_=>by simp at h
 |_::_,[],_,_,_,_,h,_=>by simp at h
 |p::P,w::vs,0,m,nd,h1,h2,hk=>by
  simp at h1 h2;subst h1;subst h2;show bindC kindOf ((p,w)::P.zip vs) m p=_;unfold bindC;rw[Y7 λv hv=>(o8.mp nd).1 (sf hv).1,if_neg hk];simp
 |p::P,w::vs,i+1,m,nd,h1,h2,hk=>by
  show bindC kindOf ((p,w)::P.zip vs) m x=_;unfold bindC;exact Yk (i:=i) (o8.mp nd).2 (by simpa using h1) (by simpa using h2) hk
def Nm (N:Za6)(vs:List V):St:=vs.map some++fg (N.length-vs.length) none
def iE (CX:CXT)(P:gl)(w:iq)(K:d6)(mg:Za2)(base:jj)(N:Za6)(qual:Str)(scope:nh)(f:eg)(cd:fh)(A:i9)(outer:List Env)(s:fv)(H:Hp)(E:XK):Cx where
 prog:=P
 w:=w
 K:=K
 mg:=mg
 base:=base
 A:=A.deeper (envOfC qual scope s.heap.objs.size f cd)
 N:=N
 QP:=s
 QY:=H
 env:=envOfC qual scope s.heap.objs.size f cd
 outer:=outer
 stack:=envOfC qual scope s.heap.objs.size f cd::outer
 ex:=[]
 calm:=true
 fn:=λ_=>true
 pn:=[]
 xe:=λe s'=>wpAny (model P w) (A.deeper (envOfC qual scope s.heap.objs.size f cd)) (leaving (envOfC qual scope s.heap.objs.size f cd) e) (λ_ s''=>CX outer H s E e s'') (λe' s''=>CX outer H s E e' s'') s'
theorem jB {sc:nh}{x:Str}(h:sc.names.lookup x=some .cell):∃c,(cellsFrom n sc.names []).lookup x=some c:=by
 have q:=zn sc.names n [] (.inl h);exact jx.mp q
theorem sR {CX:CXT}{P:gl}{K:d6}{mg:Za2}{f:eg}{cd:fh}{outer:List Env}{s1:fv}{E:XK}{vs:List V}
  (S:Ah N ps scope)(hd:A.handled=none)(e0:X3 P w K mg base A outer s H)(hl:vs.length=ps.length)(r:Ay vs us)
  (x:InCallC s s.heap.objs.size (bindL (envOfC qual scope s.heap.objs.size f cd).kindOf (ps.zip us) λ_=>none) (cellsFrom (s.heap.objs.size+1) scope.names []) (bindC (envOfC qual scope s.heap.objs.size f cd).kindOf (ps.zip us) λ_=>none) s1) :
  Inv (iE CX P w K mg base N qual scope f cd A outer s H E) [] (Nm N vs) H s1:=by
 have hpl:ps.length<=N.length:=by have:=congrArg yq S.pre;rw[fi] at this;lia
 obtain⟨h1,tk,rfl,hk⟩:=x.done;have noA:∀b:eg,b∉(iE CX P w K mg base N qual scope f cd A outer s H E).ex:=λb z=>absurd (show b∈([]:List eg) from z) (by simp);refine⟨⟨e0.mod,S.kind,rfl,rfl,d8 _,λy z c h1 h2=>?_,λy hy=>?_,λy c _ h=>?_,λ_=>hd,AS e0.frames,.inr ⟨rfl,rfl⟩,λb z=>absurd z (noA b),e0.bs,e0.bsz,λb _ _=>noA b,λb z=>absurd z (noA b),e0.funs,e0.frf⟩,
  rfl,e0.bare,Un.kept hk,⟨_,x.toInCall.ns,λi y v h1 h2 h3=>?_⟩,λy c h=>⟨_,x.cell y c h⟩,e0.hok.fresh (d8 _),λy c h=>?_,λp hp=>absurd (show p∈([]:Za1) from hp) (by simp),e0.hok.kept hk,?_⟩
 ·exact name_of_addr x.apart (jz h1) (jz h2)
 ·have hy:scope.names.lookup y=some .cell\/scope.names.lookup y=some .free:=hy
  rcases hy with hy|hy
  ·exact jB hy
  ·exact absurd rfl (S.nofree _ (jz hy))
 ·exact f9 (x.above y c (jz h))
 ·have hi:i<vs.length:=by
   unfold Nm at h2
   by_cases hi:i<vs.length
   ·exact hi
   ·rw[ft (by simpa using hi)] at h2
    rw[AF] at h2;split at h2<;>cases h2
  have ha:vs[i]?=some v:=by
   unfold Nm at h2;rw[f7 (by simpa using hi),d9] at h2
   cases e:vs[i]? with
   |none=>rw[e] at h2;cases h2
   |some a=>rw[e] at h2;cases h2;rfl
  obtain⟨u,hu,rv⟩:=r.get ha;have hp:ps[i]?=some y:=by
   rw[<-S.pre,gj (by lia)];exact h1
  have ndP:ps.Nodup:=by rw[<-S.pre];exact S.nd.sublist (List.take_sublist _ _)
  refine⟨u,rv,?_⟩;rcases S.par y (f8 hp) with k|k
  ·exact .inl ⟨k,Zk ndP hp hu k⟩
  ·obtain⟨c,e⟩:=jB (n:=s.heap.objs.size+1) k
   refine .inr ⟨.inl k,c,e,?_⟩;have q:=x.cell y c e;rw[Yk ndP hp hu (by show scope.names.lookup y≠_;rw[k];decide)] at q;exact q
 ·exact e0.hok.fresh (f9 (x.above y c (jz h)))
 ·unfold Nm
  show _=N.length;rw[eh,d7,lg];lia
theorem vC {CX:CXT}{P:gl}{K:d6}{mg:Za2}{k:Nat}{f:eg}{name:Str}{body:List iz}{dV kV:fh} 
  {osl:Array (Za7)}(lk:K.lookup f=some ⟨oc,od,.func (jk name qual params body scope dV kV doc pm an cdv ct),osl⟩)(hcd:lx K cdv qual=true)(S:Ah N ps scope)
  (len:∀vs H Q E,sp vs H Q E->vs.length=ps.length)
  (hbody:∀(A:i9) (outer:List Env) (s:fv) (H:Hp) (vs:List V) (Q:VK) (E:XK),Co k (A.deeper (envOfC qual scope s.heap.objs.size f cdv))->sp vs H Q E ->
   ∃t,PSs (iE CX P w K mg base N qual scope f cdv A outer s H E) body t/\t { nx:=λ_ H'=>Q .non H',rt:=Q } (Nm N vs) H) :
  Ar P w K mg base CX (k+1) f (jk name qual params body scope dV kV doc pm an cdv ct) ps sp:=by
 refine⟨len,λA outer s H args us vs Q E hr e0 hb r hsp=>?_⟩;have hl:=len _ _ _ _ hsp;have KX:K.In s.heap:=e0.mod.kin.keeps λb o e=>(e0.bs b o e).1;have lim:s.heap.NoLimit:=e0.mod.nolimit.keeps λb o e=>(e0.bs b o e).1;have hkind:∀y∈ps.zip us,scope.names.lookup y.1=some .local\/(scope.names.lookup y.1=some .cell/\((cellsFrom (s.heap.objs.size+1) scope.names []).lookup y.1).isSome=true):=λ⟨n,v⟩ hy=>by
  rcases S.par n (sf hy).1 with q|q
  ·exact .inl q
  ·exact .inr ⟨q,zn _ _ _ (.inl q)⟩
 refine codeAny_call_function hr.depth (KX _ _ lk) rfl S.co S.gen rfl (PySem.W.codeRec_of KX hcd) (hb _ _ _ _ ?_);refine wpAny_newFunctionEnv_cells S.kind hkind λenv he s1 x=>?_;subst he;refine⟨lim.keeps x.toInCall.keep,codeAny_func ?_⟩;obtain⟨t,ht,hq⟩:=hbody A outer s H vs Q E (hr.deeper _) hsp;have I:Inv (iE CX P w K mg base N qual scope f cdv A outer s H E) [] (Nm N vs) H s1:=sR S hr.hd e0 hl r x;refine nz (ht [] s1 (Nm N vs) H _ I hq) (λfl s' hs=>?_) λe s' hs=>hs;have fin:∀{QM:St} {H':Hp} {v:V} {u:fh},Inv (iE CX P w K mg base N qual scope f cdv A outer s H E) [] QM H' s'->Bc v u->Q v H'->CE outer P w H s Q u s':=
  λ{QM H' v u} J rv q=>⟨v,H',J.os,J.bare,J.base,J.hok,rv,q⟩
 cases fl with
 |ret u=>
  obtain⟨v,QM,H',J,rv,q⟩:=hs;exact fin J rv q
 |next=>
  obtain⟨QM,H',J,q⟩:=hs;exact fin (v:=V.non) (u:=sw) J rfl q
 |brk=>
  obtain⟨_,_,_,q⟩:=hs;exact ki q
 |cont=>
  obtain⟨_,_,_,q⟩:=hs;exact ki q
section
variable {X:Cx} {x:Str} {p pos:Pos} {e:i8} {es:List i8} {t:TA} {id T:String} {r:List V->Hp->VK->Prop}
def tCB (r:List V->Hp->VK->Prop)(t:TA):TE:=λG H Q=>t G H λvs H1=>r vs H1 Q
theorem Ao (hc:Ev X (.builtin id) r)(hg:Gl X x)(hm:X.mg x=none)(hv:bootBuiltins x=some (.builtin id))(ha:PA X (e::es) t)(hn:autoParam (x≠"__name__") QF)(hdb:autoParam ((x==("__debug__":Str))=false) QF)
  (he:autoParam (starEach (e::es) X.env=(false,eval e X.env)::starEach es X.env) QD)(hpl:autoParam ((backTo pos (starEach es X.env)).any (·.1)=false) QD):PE X (.Call (.Name x p) (e::es) [] pos) (tCB r t):=by
 k_in;refine wpAny_Call_Name_kw (Do I hg hm hv ?_ hn hdb);exact IA (thA ha I h λus s1 vs H1 I1 r1 q1=>hc pins s1 G H1 vs us Q I1 r1 q1) he hpl
theorem Dj (hc:Ev X (.type T) r)(hg:Gl X x)(hm:X.mg x=none)(hv:bootBuiltins x=some (.type T))(ha:PA X (e::es) t)(hn:autoParam (x≠"__name__") QF)(hdb:autoParam ((x==("__debug__":Str))=false) QF)
  (he:autoParam (starEach (e::es) X.env=(false,eval e X.env)::starEach es X.env) QD)(hpl:autoParam ((backTo pos (starEach es X.env)).any (·.1)=false) QD):PE X (.Call (.Name x p) (e::es) [] pos) (tCB r t):=by
 k_in;refine wpAny_Call_Name_kw (Do I hg hm hv ?_ hn hdb);exact ik (thA ha I h λus s1 vs H1 I1 r1 q1=>hc pins s1 G H1 vs us Q I1 r1 q1) he hpl
end
end L2
namespace HT
open PySem PyProof.Rows
section
open PySem.SeqAt
open PySem.AutoSeq1 (wpAny_loadPart')
open PySem.MeetsSeq PySem.MeetsSeq2 PySem.MeetsSeq3
end
section
variable {prog:gl} {w:iq} {A:i9} {E:Za0} {s:fv}
def sIx (n d:Nat):Option Int->Nat
 |none=>d
 |some v=>if v<0 then(v+(n:Int)).toNat else min v.toNat n
theorem sIx_nat (n d k:Nat):sIx n d (some (k:Int))=min k n:=by
 show(if(k:Int)<0 then((k:Int)+(n:Int)).toNat else min (k:Int).toNat n)=min k n;rw[if_neg (by lia),gw]
theorem sIx_le (n d:Nat)(hd:d<=n)(o:Option Int):sIx n d o<=n:=by
 cases o with
 |none=>exact hd
 |some v=>
  show(if v<0 then(v+(n:Int)).toNat else min v.toNat n)<=n
  by_cases hv:v<0
  ·rw[if_pos hv];lia
  ·rw[if_neg hv];exact uw _ _
theorem pU (v:Int)(n d:Nat):(if v<0 then max (v+(n:Int)) 0 else min v (n:Int))=((sIx n d (some v):Nat):Int):=by
 show(if v<0 then max (v+(n:Int)) 0 else min v (n:Int))=(((if v<0 then(v+(n:Int)).toNat else min v.toNat n):Nat):Int)
 by_cases hv:v<0
 ·simp only[if_pos hv];lia
 ·simp only[if_neg hv]
  obtain⟨m,rfl⟩:=lw (IR.mp hv);rw[gw];lia
theorem nJ (lo hi:Option Int)(n:Nat):rq lo hi 1 (n:Int)=(((sIx n 0 lo:Nat):Int),((sIx n n hi:Nat):Int)):=by
 have h1:¬((1:Int)<0):=by lia
 unfold rq;simp only[h1,if_false];refine BJ ?_ ?_
 ·cases lo with
  |none=>rfl
  |some v=>exact pU v n 0
 ·cases hi with
  |none=>rfl
  |some v=>exact pU v n n
theorem oN (i j:Nat):o9 (i:Int) (j:Int) 1=j-i:=by
 unfold o9;have h1:(1:Int)>0:=by lia
 simp only[h1,if_true,GU];split<;>lia
theorem Us {v:fh}{o:Option Int}{Q:Option Int->fv->Prop}(p:xr v o)(h:Q o s):wpAny (model prog w) A (GW v) Q E s:=by
 cases p with
 |none=>exact IM h
 |int i t=>exact slicePart_int h
theorem sliceApplied_gen {sl:eg}{vl vu:fh}{lo hi:Option Int}{n:Nat}{Q:Int×Int×Nat->fv->Prop}(hs:s.heap.IsSliceOf sl vl vu .none)(pl:xr vl lo)(pu:xr vu hi)
  (h:Q (((sIx n 0 lo:Nat):Int),1,sIx n n hi-sIx n 0 lo) s):wpAny (model prog w) A (xi (.ref sl) (pure (n:Int))) Q E s:=by
 obtain⟨os,hos,hcs,hds⟩:=id hs;unfold xi GX;refine wpAny_bind (wpAny_bind (qe hos hds (x:=vl) rfl (wpAny_bind (qe hos hds (x:=vu) rfl (wpAny_bind (qe hos hds (x:=.none) rfl (fq ?_)))))));refine wpAny_bind (IM ?_);show wpAny _ _ (if((1:Int)==0)=true then _ else _) _ _ s;rw[if_neg (by decide)];refine wpAny_bind (Us pl (wpAny_bind (Us pu (wpAny_bind (fq ?_)))));show wpAny _ _ (match rq lo hi 1 (n:Int) with|(lo,hi)=>pure (lo,(1:Int),o9 lo hi 1)) _ _ s;rw[nJ lo hi n];show wpAny _ _ (pure (((sIx n 0 lo:Nat):Int),(1:Int),o9 ((sIx n 0 lo:Nat):Int) ((sIx n n hi:Nat):Int) 1)) _ _ s;rw[oN];exact fq h
theorem wU (xs:Array fh)(i k:Nat):((fb k).filterMap λ(m:Nat)=>xs[((i:Int)+(m:Int)*1).toNat]?).toArray=((xs.toList.drop i).take k).toArray:=by
 have e:(λ(m:Nat)=>xs[((i:Int)+(m:Int)*1).toNat]?)=λm=>xs[i+m]?:=by
  funext m
  have:((i:Int)+(m:Int)*1).toNat=i+m:=by lia
  rw[this]
 rw[e];have:=IN xs i k;rw[List.filterMap_map] at this;have e2:((λx=>xs[x]?) ∘ λx=>i+x)=λm=>xs[i+m]?:=rfl;rw[e2] at this;rw[this]
theorem getItem_tuple_cut {t sl:eg}{items:Array fh}{vl vu:fh}{lo hi:Option Int}{Q:Za0}(ht:IsTup s.heap t items)(hs:s.heap.IsSliceOf sl vl vu .none)(pl:xr vl lo)(pu:xr vu hi)
  (hw:¬(sIx items.size 0 lo=0/\sIx items.size items.size hi=items.size))
  (h:Q (.ref s.heap.objs.size) { s with heap:=s.heap.push { cls:=.type "tuple",data:=.seq ((items.toList.drop (sIx items.size 0 lo)).take (sIx items.size items.size hi-sIx items.size 0 lo)).toArray } })
  (hsz:items.size<=sizeLine):wpAny (model prog w) A (getItem (.ref t) (.ref sl)) Q E s:=by
 have htake:sizeOk (.seq ((items.toList.drop (sIx items.size 0 lo)).take (sIx items.size items.size hi-sIx items.size 0 lo)).toArray):=by
  show((items.toList.drop (sIx items.size 0 lo)).take (sIx items.size items.size hi-sIx items.size 0 lo)).toArray.size<=sizeLine;rw[ge,fi,ic,gh];exact ir (uw _ _) (ir (zu _ _) hsz)
 have hj:sIx items.size items.size hi<=items.size:=sIx_le _ _ (d8 _) hi;obtain⟨os,hos,hcs,hds⟩:=id hs;have hTs:s.TypeIs (.ref sl) "slice":=⟨os,hos,hcs⟩;unfold getItem
 try with_reducible refine wpAny_holding ?_
 first|refine wpAny_bind (fq ?_)|skip
 refine wpAny_bind (FQ ht.typeIs (by decide) ?_);refine wpAny_bind (rf (name:=oy "__getitem__") ht.typeIs j8
  (sk j8 ht.typeIs entry_tuple_getitem ?_ (FH _ _)))
 show wpAny _ _ (xh (.ref t) >>= _) _ _ s;refine wpAny_bind (IZ ht ?_);refine wpAny_bind (qh hTs ?_);rw[if_pos (by decide)];refine wpAny_bind (sliceApplied_gen hs pl pu ?_);have hno:¬((((sIx items.size 0 lo:Nat):Int)==0&&(1:Int)==1&&(sIx items.size items.size hi-sIx items.size 0 lo)==items.size)=true):=by
  intro q;rw[nc,nc] at q;have q1:((sIx items.size 0 lo:Nat):Int)=0:=eq_of_beq q.1.1;have q2:sIx items.size items.size hi-sIx items.size 0 lo=items.size:=eq_of_beq q.2;exact hw ⟨by lia,by lia⟩
 show wpAny _ _ (if(((sIx items.size 0 lo:Nat):Int)==0&&(1:Int)==1&&(sIx items.size items.size hi-sIx items.size 0 lo)==items.size)=true then _ else _) _ _ s;rw[if_neg hno,wU]
 first
  |exact wpAny_bind (m:=pf _) (oj (fq ⟨_,rfl,fq h⟩) htake)
  |exact wpAny_bind (m:=pf _) (oj (wpAny_bind (fq (fq ⟨_,rfl,fq h⟩))) htake)
  |exact wpAny_bind (wpAny_bind (m:=pf _) (oj (fq (fq ⟨_,rfl,fq h⟩)) htake))
  |exact wpAny_bind (wpAny_bind (m:=pf _) (oj (fq ⟨_,rfl,fq h⟩) htake))
end
end HT
namespace L2
open PySem PySem.Spec PyProof.Rows
variable {C CB CC CO CP Pt dx i1 i2 it l1 l2:eg} {params:mv} {A:i9} {items:Array fh} {op:vb} {X:Cx} {D:Ie} {env:Env} {tg:i8} {fd:jq} {base h h':jj} {H H' H0 H1 H2:Hp} {J:It} {pins:Za1} {as fp:List eg} {ns ws:List Int} {cs ix:Za4} {N kz nm ps:Za6} {xs:List V} {us vs:Za3} {M:wc} {d n t':Nat} {oT:Obj} {an od:Option eg} {lpos pos pos2:Pos} {scope:nh} {pl:Sem Bool} {s s2:fv} {sp:Sp} {fr:St} {qual z:Str} {te:TE} {wi:TI} {y:V} {cdv ct doc oc pm:fh} {w:iq}
abbrev TO:=St->Hp->(Option Int->Hp->Prop)->Prop
def PO (X:Cx)(e:Option i8)(t:TO):Prop:=
 ∀(pins:Za1) (s:fv) (G:St) (H:Hp) (Q:Option Int->Hp->Prop),Inv X pins G H s->t G H Q ->
  wpAny (model X.prog X.w) X.A (evalPart e X.env) (λu s'=>∃o H',Inv X pins G H' s'/\xr u o/\Q o H') X.xe s
def qH:TO:=λ_ H Q=>Q none H
def Acs (t:TE):TO:=λG H Q=>t G H λx H1=>∃i,x=.int i/\Q (some i) H1
theorem T5:∀{us:Za3},Ay (ns.map V.int) us->rp us ns:=by
 induction ns with
 |nil=>intro us r;rw[xu] at r;cases r;exact .nil
 |cons n ns ih=>
  intro us r;rw[im] at r
  cases r with
  |cons r1 r2=>
   obtain⟨t,e⟩:=r1;subst e;exact .cons n t (ih r2)
section
variable {X:Cx} {e:i8} {te:TE} {lo hi:Option i8} {tl th:TO} {pos p2:Pos}
theorem Hb:PO X none qH:=by
 k_in;rw[vf];exact fq ⟨none,H,I,.none,h⟩
theorem B3 (h:PE X e te):PO X (some e) (Acs te):=by
 intro pins s G H Q I hw;rw[evalPart_some];refine thE h I hw λu s1 x H1 I1 r1 q1=>?_;obtain⟨i,rfl,q⟩:=q1;obtain⟨t,rfl⟩:=r1;exact⟨some i,H1,I1,.int i t,q⟩
def SlR (X:Cx)(r:V->Option Int->Option Int->Hp->VK->Prop):Prop:=
 ∀(pins:Za1) (s:fv) (G:St) (H:Hp) (x:V) (v vl vu:fh) (lo hi:Option Int) (sl:eg) (Q:VK),Inv X pins G H s->Bc x v->s.heap.IsSliceOf sl vl vu .none->xr vl lo->xr vu hi->r x lo hi H Q ->
  ∃T id,typeLookup (.type T) "__getitem__"=pure (some (.builtin id))/\s.TypeIs v T/\wpAny (model X.prog X.w) X.A (getItem v (.ref sl)) (EP X pins G Q) X.xe s
def tSl (r:V->Option Int->Option Int->Hp->VK->Prop)(te:TE)(tl th:TO):TE:=λG H Q=>te G H λx H1=>tl G H1 λl H2=>th G H2 λu H3=>r x l u H3 Q
theorem Cf {r:V->Option Int->Option Int->Hp->VK->Prop}(hr:SlR X r)(he:PE X e te)(hl:PO X lo tl)(hu:PO X hi th):PE X (.Subscript e (.Slice lo hi none p2) pos) (tSl r te tl th):=by
 k_in;refine Subscript_ (thE he I h λv s1 x H1 I1 r1 q1=>?_);refine zw (thn (hl pins s1 G H1 _ I1 q1) λvl s2 ⟨l,H2,I2,pl,q2⟩=>thn (hu pins s2 G H2 _ I2 q2) λvu s3 ⟨u,H3,I3,pu,q3⟩=>?_);rw[vf];refine fq ?_;have I4:Inv X pins G H3 { s3 with heap:=s3.heap.push { cls:=.type "slice",data:=.fields #[vl,vu,.none] } }:=I3.kept (t':=s3.toks) λb ob q=>en _ q;obtain⟨T,id,hT,ht,hg⟩:=hr pins { s3 with heap:=s3.heap.push { cls:=.type "slice",data:=.fields #[vl,vu,.none] } } G H3 x v vl vu l u s3.heap.objs.size Q I4 r1 (uv ..) pl pu q3;show wpAny (model X.prog X.w) X.A (subscriptTail e (.Slice lo hi none p2) v (.ref s3.heap.objs.size)) (EP X pins G Q) X.xe { s3 with heap:=s3.heap.push { cls:=.type "slice",data:=.fields #[vl,vu,.none] } };exact y4 (ops:=[.ref s3.heap.objs.size,v]) ht hT hg (by with_unfolding_all rfl)
def G8 (xs:List V)(lo hi:Option Int):List V:=(xs.drop (HT.sIx xs.length 0 lo)).take (HT.sIx xs.length xs.length hi-HT.sIx xs.length 0 lo)
theorem Sr (xs:List V)(lo hi:Option Int):(G8 xs lo hi).length<=xs.length:=by
 unfold G8;rw[fi,ic];exact ir (uw _ _) (zu _ _)
def Ah9 (K:d6):V->Option Int->Option Int->Hp->VK->Prop:=λx lo hi H Q=>∃a xs,x=.ref a/\SqT K H a xs /\
 ¬(HT.sIx xs.length 0 lo=0/\HT.sIx xs.length xs.length hi=xs.length)/\∀p,H p=none->Q (.ref p) (upd H p (.tup (G8 xs lo hi)))
theorem Aed:SlR X (Ah9 X.K):=by
 intro pins s G H x v vl vu lo hi sl Q I rx hs pl pu h;obtain⟨a,xs,rfl,hx,hw,q⟩:=h;cases rx;obtain⟨its,r,ht,hz⟩:=I.tuple hx;have hlen:its.toArray.size=xs.length:=by rw[ge];exact r.length.symm
 refine⟨"tuple",_,j8.lookup,ht.typeIs,?_⟩;refine HT.getItem_tuple_cut ht hs pl pu (by rw[hlen];exact hw) ?_ (by rw[hlen];exact hz);rw[hlen];refine⟨.ref s.heap.objs.size,_,I.laid (t':=s.toks) (o:=.tup (G8 xs lo hi)) (λb ob q=>en _ q) (d8 _) ?_,rfl,q _ (I.hok.fresh (d8 _))⟩;exact⟨ir (Sr xs lo hi) hz,_,(r.drop (HT.sIx xs.length 0 lo)).take (HT.sIx xs.length xs.length hi-HT.sIx xs.length 0 lo),IE _ _⟩
end
def ixN (n:Nat)(i:Int):Option Nat:=if 0<=i then(if i<n then some i.toNat else none) else if -(n:Int)<=i then some (i+n).toNat else none
def atI {α:Type}(xs:List α)(i:Int):Option α:=(ixN xs.length i).bind λj=>xs[j]?
theorem rZ {i:Int}{j:Nat}(h:ixN n i=some j):seqIndex? i n=some j/\j<n/\-(n:Int)<=i/\i<n:=by
 unfold ixN at h
 by_cases h0:0<=i
 ·rw[if_pos h0] at h
  by_cases h1:i<n
  ·rw[if_pos h1] at h
   have e:i.toNat=j:=ee h;exact⟨by rw[EJ h0 h1,e],by lia,by lia,h1⟩
  ·rw[if_neg h1] at h;cases h
 ·rw[if_neg h0] at h
  by_cases h1:-(n:Int)<=i
  ·rw[if_pos h1] at h
   have e:(i+n).toNat=j:=ee h;exact⟨by rw[DC (by lia) h1,e],by lia,h1,by lia⟩
  ·rw[if_neg h1] at h;cases h
theorem Z7 {α:Type}{xs:List α}{i:Int}{v:α}(h:atI xs i=some v):∃j,seqIndex? i xs.length=some j/\xs[j]?=some v/\j<xs.length/\-(xs.length:Int)<=i/\i<xs.length:=by
 unfold atI at h
 cases e:ixN xs.length i with
 |none=>rw[e] at h;cases h
 |some j=>
  rw[e] at h;obtain⟨h1,h2,h3,h4⟩:=rZ e;exact⟨j,h1,h,h2,h3,h4⟩
theorem A7 {α:Type}{xs:List α}{j:Nat}{v:α}(h:xs[j]?=some v):atI xs (j:Int)=some v:=by
 have hj:j<xs.length:=(fc.mp h).1;have e:ixN xs.length (j:Int)=some j:=by
  unfold ixN;rw[if_pos (by lia),if_pos (by lia)];simp
 unfold atI;rw[e];exact h
theorem kC {α:Type}(xs:List α)(v:α):atI (xs++[v]) (-1)=some v:=by
 have hl:(xs++[v]).length=xs.length+1:=by simp
 have e:ixN (xs++[v]).length (-1)=some xs.length:=by
  unfold ixN;rw[hl,if_neg (by decide),if_pos (by lia)];congr 1;lia
 unfold atI;rw[e];show(xs++[v])[xs.length]?=some v;simp
def qP (b:i8):Prop:=∀o i,subscripted b false o i=operate [o,i] (getItem o i)
def IxR (X:Cx)(r:R2):Prop:=
 ∀(value slice:i8) (pins:Za1) (s:fv) (G:St) (H:Hp) (x y:V) (v u:fh) (Q:VK),Inv X pins G H s->Bc x v->Bc y u->r x y H Q ->
  subscripted slice false v u=operate [v,u] (getItem v u)->wpAny (model X.prog X.w) X.A (subscriptTail value slice v u) (EP X pins G Q) X.xe s
def MtR (X:Cx)(id:String)(r:V->List V->Hp->VK->Prop):Prop:=
 ∀(pins:Za1) (s:fv) (G:St) (H:Hp) (x:V) (xs:List V) (v:fh) (us:Za3) (Q:VK),Inv X pins G H s->Bc x v->Ay xs us->r x xs H Q ->
  wpAny (model X.prog X.w) X.A (call (.builtin id) (v::us)) (EP X pins G Q) X.xe s
section
variable {X:Cx} {a b:i8} {ta tb:TE} {pos:Pos}
theorem Ag9 {r:R2}(hr:IxR X r)(ha:PE X a ta)(hb:PE X b tb)(hs:qP b):PE X (.Subscript a b pos) (tOp r ta tb):=by
 k_in;exact Subscript_ (Ad7 ha hb I h λv u s2 x y H2 I2 rx ry q=>hr a b pins s2 G H2 x y v u Q I2 rx ry q (hs _ _))
def Aff (K:d6):R2:=λx y H Q=>∃p xs i v,x=.ref p/\y=.int i/\SqL K H p xs/\atI xs i=some v/\Q v H
def Aei (K:d6):R2:=λx y H Q=>∃p xs i v,x=.ref p/\y=.int i/\SqT K H p xs/\atI xs i=some v/\Q v H
def Aii:R2:=λx y H Q=>∃z i c,x=.str z/\y=.int i/\z.length<=sizeLine/\atI z.cps.toList i=some c/\Q (.str ⟨#[c]⟩) H
theorem Bl:IxR X (Aff X.K):=by
 intro value slice pins s G H x y v u Q I rx ry h hs;obtain⟨p,xs,i,z,rfl,rfl,hq,he,q⟩:=h;cases rx;obtain⟨t,rfl⟩:=ry;obtain⟨its,r,pl,hz⟩:=I.list hq;obtain⟨j,h1,h2,h3,h4,h5⟩:=Z7 he;obtain⟨w,ew,rw'⟩:=r.get h2;have hl:=r.length;have hn:=Lx;have fin:EP X pins G Q w s:=⟨z,H,I,rw',q⟩
 by_cases h0:0<=i
 ·have hj:i.toNat=j:=by
   rw[EJ h0 h5] at h1;exact ee h1
  exact item_listR pl.isList h0 (by lia) (by rw[hj];simpa using ew) fin hs
 ·have hj:(i+(its.toArray.size:Int)).toNat=j:=by
   rw[DC (by lia) h4] at h1;rw[ge,<-hl];exact ee h1
  exact DB (x:=w) pl.isList.typeIs slot_list_getitem.lookup
   (wpAny_getItem_list_neg (Q:=λr s'=>r=w/\EP X pins G Q r s') pl.isList (by lia) (by rw[ge]<;>lia) (by lia) (by rw[hj];simpa using ew) ⟨rfl,fin⟩) hs
theorem Bs:IxR X (Aei X.K):=by
 intro value slice pins s G H x y v u Q I rx ry h hs;obtain⟨p,xs,i,z,rfl,rfl,hq,he,q⟩:=h;cases rx;obtain⟨t,rfl⟩:=ry;obtain⟨its,r,pl,hz⟩:=I.tuple hq;obtain⟨j,h1,h2,h3,h4,h5⟩:=Z7 he;obtain⟨w,ew,rw'⟩:=r.get h2;have hl:=r.length;have hn:=Lx;have fin:EP X pins G Q w s:=⟨z,H,I,rw',q⟩;exact DB (x:=w) pl.typeIs slot_tuple_getitem.lookup
  (getItem_tuple (j:=j) (Q:=λr s'=>r=w/\EP X pins G Q r s') pl (by lia) (by lia) (by rw[ge,<-hl];exact h1) (by simpa using ew) ⟨rfl,fin⟩) hs
theorem xJ:IxR X Aii:=by
 intro value slice pins s G H x y v u Q I rx ry h hs;obtain⟨z,i,c,rfl,rfl,hz,he,q⟩:=h;obtain⟨t,rfl⟩:=rx;obtain⟨t',rfl⟩:=ry;obtain⟨j,h1,h2,h3,h4,h5⟩:=Z7 he;have hl:z.cps.toList.length=z.length:=by simp[vi]
 rw[hl] at h1 h4 h5;have hn:=Lx;exact y4 (AV s z t) slot_str_getitem.lookup (getItem_str (c:=c) (by
  have e1:decide (i < -(2 ^ 63:Int))=false:=decide_eq_false (by lia);have e2:decide (i>=2 ^ 63)=false:=decide_eq_false (by lia);rw[e1,e2,AA]) (by rw[h1];simpa using h2) ⟨.str ⟨#[c]⟩,H,I.tok _,⟨_,rfl⟩,q⟩) hs
theorem oJ (its:Za3)(n j:Nat)(u:fh):i6 (·.setIfInBounds j u) { cls:=.type "list",data:=.seq its.toArray n }={ cls:=.type "list",data:=.seq (its.set j u).toArray n }:=by
 simp[i6]
theorem Inv.lst {G:St}{p:eg}(I:Inv X pins G H s)(h:H p=some (.lst xs)) :
  ∃(its:Za3) (n:Nat),Ay xs its/\s.heap.get? p=some { cls:=.type "list",data:=.seq its.toArray n }/\xs.length<=sizeLine:=by
 obtain⟨z,its,n,r,e⟩:=I.hok p _ h;exact⟨its,n,r,e,z⟩
theorem Inv.lstUpd {G:St}{p:eg}{ys:List V}{its its':Za3}{n':Nat}{f:Obj->Obj}(I:Inv X pins G H s)(h:H p=some (.lst xs))
  (ho:s.heap.get? p=some { cls:=.type "list",data:=.seq its.toArray n })(hf:f { cls:=.type "list",data:=.seq its.toArray n }={ cls:=.type "list",data:=.seq its'.toArray n' })(r:Ay ys its')(hz:ys.length<=sizeLine)(t:Nat) :
  Inv X pins G (upd H p (.lst ys)) { s with heap:=s.heap.update p f,toks:=t }:=by
 have e:(s.heap.update p f).get? p=some { cls:=.type "list",data:=.seq its'.toArray n' }:=by
  rw[nr f ho (by rw[hf]<;>rfl),hf]
 refine I.write (x:=p) (e:=p) (by rw[h];trivial) (.inl rfl) (λb u hb q=>(ku _ _ (rh hb)).trans q) ⟨_,e⟩ ?_;exact⟨hz,its',n',r,e⟩
def Adn:V->V->V->Hp->(Hp->Prop)->Prop:=λo i v H Q=>∃p xs k j,o=.ref p/\i=.int k/\H p=some (.lst xs)/\ixN xs.length k=some j/\Q (upd H p (.lst (xs.set j v)))
theorem jA:Ahv X Adn:=by
 intro pins s G H o i v ov iv u Q I ro ri rv h;obtain⟨p,xs,k,j,rfl,rfl,hp,hj,q⟩:=h;cases ro;obtain⟨t,rfl⟩:=ri;obtain⟨its,n,r,ho,hz⟩:=I.lst hp;obtain⟨h1,h2,h3,h4⟩:=rZ hj;have hl:=r.length;have hn:=Lx;have I':Inv X pins G (upd H p (.lst (xs.set j v))) { s with heap:=s.heap.update p (i6 (·.setIfInBounds j u)) }:=
  I.lstUpd hp ho (oJ its n j u) (r.set rv j) (by rw[yw];exact hz) s.toks
 by_cases h0:0<=k
 ·have hk:k.toNat=j:=by
   rw[EJ h0 h4] at h1;exact ee h1
  exact PySem.W.ki_setAt ho h0 (by lia) (by rw[ge,<-hl];exact h4) (by rw[hk];exact⟨_,I',q⟩)
 ·have hk:(k+(its.toArray.size:Int)).toNat=j:=by
   rw[DC (by lia) h3] at h1;rw[ge,<-hl];exact ee h1
  exact PySem.W.ki_setBack ho (by lia) (by rw[ge,<-hl];exact h3) (by lia) (by rw[hk];exact⟨_,I',q⟩)
theorem fJ (lo hi:Option Int)(n:Nat):(sliceBounds lo hi none n).1=((HT.sIx n 0 lo:Nat):Int)/\(sliceBounds lo hi none n).2.1=((HT.sIx n n hi:Nat):Int)/\(sliceBounds lo hi none n).2.2=1:=by
 refine⟨?_,?_,rfl⟩
 ·cases lo with
  |none=>simp[sliceBounds,HT.sIx]
  |some i=>
   simp only[sliceBounds,HT.sIx,CQ,show(1:Int)>0 by decide,if_true]
   by_cases h:i<0
   ·simp only[h,if_true]<;>lia
   ·simp only[h,if_false]
    obtain⟨m,rfl⟩:=lw (IR.mp h);rw[gw];lia
 ·cases hi with
  |none=>simp[sliceBounds,HT.sIx]
  |some i=>
   simp only[sliceBounds,HT.sIx,CQ,show(1:Int)>0 by decide,if_true]
   by_cases h:i<0
   ·simp only[h,if_true]<;>lia
   ·simp only[h,if_false]<;>lia
theorem Xy (its:Za3)(lo hi:Option Int):slicePick its.toArray lo hi none=((its.drop (HT.sIx its.length 0 lo)).take (HT.sIx its.length its.length hi-HT.sIx its.length 0 lo)).toArray:=by
 obtain⟨h1,h2,h3⟩:=fJ lo hi its.toArray.size;unfold slicePick;rw[h1,h2,h3];simp only[IL,IN,ge]<;>rfl
def Aif (K:d6):V->Option Int->Option Int->Hp->VK->Prop:=λx lo hi H Q=>∃a xs,x=.ref a/\SqL K H a xs/\∀p,H p=none->Q (.ref p) (upd H p (.lst (G8 xs lo hi)))
theorem Op:SlR X (Aif X.K):=by
 intro pins s G H x v vl vu lo hi sl Q I rx hs pl pu h;obtain⟨a,xs,rfl,hx,q⟩:=h;cases rx;obtain⟨its,r,ht,hz⟩:=I.list hx;have hlen:=r.length;refine⟨"list",_,slot_list_getitem.lookup,ht.isList.typeIs,?_⟩;refine ve ht.isList hs pl pu .none (by simp) ?_ (by rw[ge]<;>lia)
 rw[Xy,<-hlen];refine⟨.ref s.heap.objs.size,_,I.laid (t':=s.toks) (o:=.lst (G8 xs lo hi)) (λb ob q=>en _ q) (d8 _) ?_,rfl,q _ (I.hok.fresh (d8 _))⟩;exact⟨ir (Sr xs lo hi) hz,_,0,(r.drop (HT.sIx xs.length 0 lo)).take (HT.sIx xs.length xs.length hi-HT.sIx xs.length 0 lo),gq _ rfl⟩
def Gs:V->Bool
 |.non=>true
 |.bl _=>true
 |.int _=>true
 |.str _=>true
 |_=>false
def eqV:V->V->Bool
 |.non,.non=>true
 |.bl a,.bl b=>a==b
 |.bl a,.int b=>(if a then 1 else 0)==b
 |.int a,.bl b=>a==(if b then 1 else 0)
 |.int a,.int b=>a==b
 |.str a,.str b=>a==b
 |_,_=>false
theorem wR {x:V}{u v:fh}(ry:Bc y u)(rx:Bc x v)(fy:Gs y=true)(fx:Gs x=true):BZ A s u v (eqV y x):=by
 cases y with
 |non=>
  cases ry
  cases x with
  |non=>cases rx;exact JK _
  |bl b=>cases rx;exact JN b
  |int b=>obtain⟨t,rfl⟩:=rx;exact JM b t
  |str b=>obtain⟨t,rfl⟩:=rx;exact JL b t
  |_=>exact absurd (show false=true from fx) gz
 |bl a=>
  cases ry
  cases x with
  |non=>cases rx;exact JS a
  |bl b=>cases rx;exact JU a b
  |int b=>obtain⟨t,rfl⟩:=rx;exact JT a b t
  |str b=>obtain⟨t,rfl⟩:=rx;exact JR a b t
  |_=>exact absurd (show false=true from fx) gz
 |int a=>
  obtain⟨t',rfl⟩:=ry
  cases x with
  |non=>cases rx;exact JO a t'
  |bl b=>cases rx;exact JQ a t' b
  |int b=>obtain⟨t,rfl⟩:=rx;exact JP a t' b t
  |str b=>obtain⟨t,rfl⟩:=rx;exact zy a t' b t
  |_=>exact absurd (show false=true from fx) gz
 |str a=>
  obtain⟨t',rfl⟩:=ry
  cases x with
  |non=>cases rx;exact JI a t'
  |bl b=>cases rx;exact JJ a t' b
  |int b=>obtain⟨t,rfl⟩:=rx;exact zx a t' b t
  |str b=>obtain⟨t,rfl⟩:=rx;exact JH a t' b t
  |_=>exact absurd (show false=true from fx) gz
 |_=>exact absurd (show false=true from fy) gz
def eqU (x:V)(u:fh):Bool:=match u with
 |.none=>eqV .non x
 |.bool b=>eqV (.bl b) x
 |.int i _=>eqV (.int i) x
 |.str z _=>eqV (.str z) x
 |_=>false
theorem dU {x:V}{u:fh}(r:Bc y u)(f:Gs y=true):eqU x u=eqV y x:=by
 cases y with
 |non=>cases r;rfl
 |bl b=>cases r;rfl
 |int i=>obtain⟨t,rfl⟩:=r;rfl
 |str z=>obtain⟨t,rfl⟩:=r;rfl
 |_=>exact absurd (show false=true from f) gz
theorem fW {x:V}:∀{xs:List V} {us:Za3},Ay xs us->xs.all Gs=true->us.any (eqU x)=xs.any λy=>eqV y x
 |_,_,.nil,_=>rfl
 |y::xs,u::us,.cons r t,f=>by
  rw[uj,nc] at f;rw[ui,ui,dU r f.1,fW t f.2]
theorem Kz {A:i9}{s:fv}{x:V}{v:fh}(rx:Bc x v)(fx:Gs x=true):∀{xs:List V} {us:Za3},Ay xs us->xs.all Gs=true->∀u∈us,BZ A s u v (eqU x u)
 |_,_,.nil,_=>λu hu=>by cases hu
 |y::xs,u::us,.cons r t,f=>λu' hu=>by
  rw[uj,nc] at f;rcases iu.mp hu with rfl|hu
  ·rw[dU r f.1];exact wR r rx f.1 fx
  ·exact Kz rx fx t f.2 u' hu
def inV (x:V)(xs:List V):Bool:=xs.any λy=>eqV y x
def rIn (K:d6)(neg:Bool):R2:=λx y H Q=>∃p xs,y=.ref p/\(SqL K H p xs\/SqT K H p xs)/\Gs x=true/\xs.all Gs=true/\Q (.bl (if neg then !inV x xs else inV x xs)) H
theorem Y2:OpR X (compareOp .In) (rIn X.K false):=by
 intro pins s G H x y v u Q I rx ry h;obtain⟨p,xs,rfl,hq,fx,fs,q⟩:=h;cases ry;rcases hq with hq|hq
 ·obtain⟨its,r,pl,hz⟩:=I.list hq
  refine SeqAt.in_listAt (eqU x) pl.isList (λw hw=>Kz rx fx r fs w (by simpa using hw)) ⟨.bl _,H,I,rfl,?_⟩;rw[show its.toArray.any (eqU x)=its.any (eqU x) by simp,fW r fs];exact q
 ·obtain⟨its,r,pl,hz⟩:=I.tuple hq
  refine SeqAt.in_tupleAt (eqU x) pl (λw hw=>Kz rx fx r fs w (by simpa using hw)) ⟨.bl _,H,I,rfl,?_⟩;rw[show its.toArray.any (eqU x)=its.any (eqU x) by simp,fW r fs];exact q
theorem eP:OpR X (compareOp .NotIn) (λx y H Q=>∃i j,x=.str i/\y=.str j/\Q (.bl (!(!(mo j i 0 j.length 1).isEmpty))) H):=by
 intro pins s G H x y v u Q I rx ry h;obtain⟨i,j,rfl,rfl,q⟩:=h;obtain⟨t,rfl⟩:=rx;obtain⟨t',rfl⟩:=ry;exact notIn_str ⟨.bl _,H,I,rfl,q⟩
theorem At:Ev X (.builtin "len") (λxs H Q=>∃p ys,xs=[.ref p]/\(SqL X.K H p ys\/SqT X.K H p ys)/\Q (.int ys.length) H):=by
 intro pins s G H xs us Q I r h;obtain⟨p,ys,rfl,hq,q⟩:=h;obtain⟨u,rfl,rx⟩:=Fh r;cases rx;have hn:=Lx;rcases hq with hq|hq
 ·obtain⟨its,r',pl,hz⟩:=I.list hq
  have hlen:=r'.length;exact Calls.call_len_list pl.isList (by simp only[ge]<;>lia) ⟨.int ys.length,H,I.tok _,⟨s.toks+1,by rw[ge,hlen]⟩,q⟩
 ·obtain⟨its,r',pl,hz⟩:=I.tuple hq
  have hlen:=r'.length;exact len_tuple pl (by simp only[ge]<;>lia) ⟨.int ys.length,H,I.tok _,⟨s.toks+1,by rw[ge,hlen]⟩,q⟩
theorem B7:Ev X (.builtin "len") (λxs H Q=>∃z,xs=[.str z]/\z.length<=sizeLine/\Q (.int z.length) H):=by
 intro pins s G H xs us Q I r h;obtain⟨z,rfl,hz,q⟩:=h;obtain⟨u,rfl,t,rfl⟩:=Fh r;have hn:=Lx;exact len_str (by lia) ⟨.int z.length,H,I.tok _,⟨_,rfl⟩,q⟩
theorem Pa:Ev X (.type "list") (λxs H Q=>∃p ys,xs=[.ref p]/\(SqL X.K H p ys\/SqT X.K H p ys)/\∀l,H l=none->Q (.ref l) (upd H l (.lst ys))):=by
 intro pins s G H xs us Q I r h;obtain⟨p,ys,rfl,hq,q⟩:=h;obtain⟨u,rfl,rx⟩:=Fh r;cases rx;have fin:∀(its:Za3),Ay ys its->ys.length<=sizeLine->∀(h':jj) (c':Nat),(∀b o',s.heap.get? b=some o'->h'.get? b=some o') ->
   h'.get? s.heap.objs.size=some { cls:=.type "list",dict:=none,data:=.seq its.toArray c',slots:=#[] }->EP X pins G Q (.ref s.heap.objs.size) { s with heap:=h' }:=λits r' hz h' c' kp e=>
  ⟨.ref s.heap.objs.size,_,I.laid (t':=s.toks) kp (d8 _) (show Cq X.prog X.w _ h' _ (.lst ys) from⟨hz,its,c',r',e⟩),rfl,q _ (I.hok.fresh (d8 _))⟩
 rcases hq with hq|hq
 ·obtain⟨its,r',pl,hz⟩:=I.list hq
  have hlen:=r'.length;obtain⟨o,ho,hc,n,hd⟩:=pl.isList;exact JE p (.inl rfl) ho hc hd (λh' c' kp e=>fin its r' hz h' c' kp e) (by simp only[ge]<;>lia)
 ·obtain⟨its,r',pl,hz⟩:=I.tuple hq
  have hlen:=r'.length;obtain⟨o,ho,hc,n,hd⟩:=pl;exact JE p (.inr rfl) ho hc hd (λh' c' kp e=>fin its r' hz h' c' kp e) (by simp only[ge]<;>lia)
theorem Eu:Ev X (.type "tuple") (λxs H Q=>∃p ys,xs=[.ref p]/\((SqL X.K H p ys/\∀l,H l=none->Q (.ref l) (upd H l (.tup ys)))\/(SqT X.K H p ys/\Q (.ref p) H))):=by
 intro pins s G H xs us Q I r h;obtain⟨p,ys,rfl,h⟩:=h;obtain⟨u,rfl,rx⟩:=Fh r;cases rx;rcases h with⟨hq,q⟩|⟨hq,q⟩
 ·obtain⟨its,r',pl,hz⟩:=I.list hq
  have hlen:=r'.length;refine call_tuple_list pl.isList (λh' kp=>?_) (by simp only[ge]<;>lia)
  have I1:Inv X pins G H { s with heap:=h' }:=I.kept (t':=s.toks) kp;have I2:Inv X pins G (upd H h'.objs.size (.tup ys)) { s with heap:=h'.push { cls:=.type "tuple",data:=.seq its.toArray } }:=
   I1.laid (t':=s.toks) (λb o e=>en _ e) (d8 _) (show Cq X.prog X.w _ _ _ (.tup ys) from⟨hz,its,r',IE _ _⟩)
  exact⟨.ref h'.objs.size,_,I2,rfl,q _ (I1.hok.fresh (d8 _))⟩
 ·obtain⟨its,r',pl,hz⟩:=I.tuple hq
  exact call_tuple_same pl ⟨.ref p,H,I,rfl,q⟩
def tyV (K:d6)(T:String)(x:V)(H:Hp):Prop:=match x with
 |.str _=>T="str"
 |.int _=>T="int"
 |.ref p=>(T="list"/\∃xs,SqL K H p xs)\/(T="tuple"/\∃o,K.lookup p=some o/\o.cls=.type "tuple"/\o.dict=none) \/
   (T="dict"/\((∃kvs,H p=some (.dK kvs))\/∃kvs,H p=some (.dT kvs)))\/(T="set"/\∃S n,H p=some (.set S n))
 |_=>False
theorem vG {G:St}{T:String}{x:V}{v:fh}(I:Inv X pins G H s)(r:Bc x v)(ty:tyV X.K T x H) :
  s.TypeIs v T/\∀a,v=.ref a->∃ob,s.heap.get? a=some ob/\ob.dict=none:=by
 cases x with
 |str z=>
  obtain⟨t,rfl⟩:=r;cases(show T="str" from ty);exact⟨AV s z t,λ_ e=>nomatch e⟩
 |int i=>
  obtain⟨t,rfl⟩:=r;cases(show T="int" from ty);exact⟨FE s i t,λ_ e=>nomatch e⟩
 |ref p=>
  cases r;rcases ty with⟨rfl,xs,hq⟩|⟨rfl,o,hk,hc,hd⟩|⟨rfl,hk⟩|⟨rfl,S,n,hk⟩
  ·obtain⟨its,_,pl,_⟩:=I.list hq
   refine⟨pl.isList.typeIs,λa e=>?_⟩;cases e;obtain⟨o,n,e,c,hd,_⟩:=pl;exact⟨o,e,hd⟩
  ·refine⟨⟨o,I.kIn p o hk,hc⟩,λa e=>?_⟩
   cases e;exact⟨o,I.kIn _ o hk,hd⟩
  ·have z:∃o,s.heap.get? p=some o/\o.ExactDict:=by
    rcases hk with⟨kvs,hk⟩|⟨kvs,hk⟩
    ·obtain⟨_,_,_,_,o,_,_,e,ex,_⟩:=I.hok p _ hk
     exact⟨o,e,ex⟩
    ·obtain⟨_,_,_,_,o,_,_,e,ex,_⟩:=I.hok p _ hk
     exact⟨o,e,ex⟩
   obtain⟨o,e,ex⟩:=z;refine⟨⟨o,e,ex.1⟩,λa e2=>?_⟩;cases e2;exact⟨o,e,ex.2.1⟩
  ·obtain⟨o,_,_,_,e,ex,_⟩:=I.hok p _ hk
   refine⟨⟨o,e,ex.1⟩,λa e2=>?_⟩;cases e2;exact⟨o,e,ex.2.1⟩
 |_=>exact ki ty
def Agq (K:d6)(T:String)(r:V->List V->Hp->VK->Prop)(to:TE):TE:=λG H Q=>to G H λx H1=>tyV K T x H1/\r x [] H1 Q
def tBM (K:d6)(T:String)(r:V->List V->Hp->VK->Prop)(to:TE)(t:TA):TE:=λG H Q=>to G H λx H1=>tyV K T x H1/\t G H1 λxs H2=>r x xs H2 Q
variable {o e:i8} {es:List i8} {to:TE} {t:TA} {name:Str} {apos cpos:Pos} {T id:String} {r:V->List V->Hp->VK->Prop}
theorem fG (pa:FK T)(slot:Slot T name id)(hty:typeOf (.builtin id)=pure (.type "method_descriptor"))(hm:MtR X id r)(ho:PE X o to)
  (hbase:autoParam (attributeBase o name X.env (eval o X.env)=eval o X.env) QD)(hline:autoParam ((apos.endLine==cpos.line)=true) QD):PE X (.Call (.Attribute o name apos) [] [] cpos) (Agq X.K T r to):=by
 k_in;refine wpAny_Call_method0_late hbase hline (thE ho I h λv s1 x H1 I1 r1 ⟨ty,q1⟩=>?_);obtain⟨h1,h2⟩:=vG I1 r1 ty;exact⟨T,id,pa,slot,hty,h1,h2,AH rfl (PySem.evalArgs_none (hm pins s1 G H1 x [] v [] Q I1 r1 .nil q1))⟩
theorem Cj (pa:FK T)(slot:Slot T name id)(hty:typeOf (.builtin id)=pure (.type "method_descriptor"))(hm:MtR X id r)(ho:PE X o to)(ha:PA X (e::es) t)
  (hbase:autoParam (attributeBase o name X.env (eval o X.env)=eval o X.env) QD)
  (hfew:autoParam (((backTo cpos (starEach (e::es) X.env)).all (λx=>!x.1)&&(backToKw cpos (keywordEach [] X.env)).all (λx=>x.1.isSome)
   && decide ((e::es).length+([]:List GA).length+(if([]:List GA).isEmpty then 0 else 1)<30))=true) QD)
  (hline:autoParam ((apos.endLine==cpos.line)=true) QD)(hs:autoParam (starEach (e::es) X.env=(false,eval e X.env)::starEach es X.env) QD)(hplain:autoParam ((backTo cpos (starEach es X.env)).any (·.1)=false) QD) :
  PE X (.Call (.Attribute o name apos) (e::es) [] cpos) (tBM X.K T r to t):=by
 k_in;refine wpAny_Call_method_late hbase hfew hline rfl (thE ho I h λv s1 x H1 I1 r1 ⟨ty,q1⟩=>?_);obtain⟨h1,h2⟩:=vG I1 r1 ty;refine⟨T,id,pa,slot,hty,h1,h2,?_⟩;have hA:=ha cpos pins s1 G H1 _ I1 q1;rw[hs] at hA ⊢;refine AH (by show(false||(backTo cpos (starEach es X.env)).any (·.1))=false;rw[hplain]<;>rfl) (Calls.evalArgs_plain ?_)
 exact thn hA λus s2 ⟨vs,H2,I2,r2,q2⟩=>hm pins s2 G H2 x vs v us Q I2 r1 r2 q2
/- xs.append(e),list.index on a module's tuple .. are MtR facts of 06m -/
end
def MtM (X:Cx)(id:String)(r:V->List V->Hp->VK->Prop):Prop:=
 ∀(pins:Za1) (s:fv) (G:St) (H:Hp) (x:V) (xs:List V) (v:fh) (us:Za3) (Q:VK),Inv X pins G H s->Bc x v->Ay xs us->r x xs H Q ->
  wpAny (model X.prog X.w) X.A (call (.builtin id) (v::us)) (EP X pins G Q) X.xe s
theorem Ay.one:∀{x:V} {us:Za3},Ay [x] us->∃u,us=[u]/\Bc x u
 |_,_,.cons r .nil=>⟨_,rfl,r⟩
theorem Ay.zero:∀{us:Za3},Ay [] us->us=[]
 |_,.nil=>rfl
theorem Ay.dropLast (h:Ay xs us):Ay xs.dropLast us.dropLast:=by
 induction h with
 |nil=>exact .nil
 |cons r t ih=>
  cases t with
  |nil=>exact .nil
  |cons q t'=>exact .cons r ih
theorem Ay.rep {xs:List V}{us:Za3}(h:Ay xs us):∀k:Nat,Ay (fg k xs).flatten (fg k us).flatten
 |0=>.nil
 |k+1=>by
  rw[i7,i7,jl,jl];exact Ay.append h (Ay.rep h k)
theorem nZ {α:Type}(l:List α):l.eraseIdx (l.length-1)=l.dropLast:=by
 induction l with
 |nil=>rfl
 |cons a r ih=>
  cases r with
  |nil=>rfl
  |cons b r=>
   have e:(a::b::r).length-1=((b::r).length-1)+1:=by
    have h1:(a::b::r).length=r.length+2:=rfl;have h2:(b::r).length=r.length+1:=rfl;lia
   rw[e,List.eraseIdx_cons_succ,ih]
   all_goals rfl
theorem Ym (its:Za3):∀(k:Nat) (acc:Za3),
  CV (λx1 x2=>x1++x2) acc.toArray (fg k its.toArray)=(acc++(fg k its).flatten).toArray
 |0,acc=>by simp
 |k+1,acc=>by
  have e:acc.toArray++its.toArray=(acc++its).toArray:=by simp
  have e2:(acc++its)++(fg k its).flatten=acc++(fg (k+1) its).flatten:=by
   rw[i7,jl,fm]
  rw[<-e2,<-Ym its k (acc++its),<-e,i7,qi]
section
variable {X:Cx} {pins:Za1} {G:St} {H:Hp} {s:fv} {l b:eg} {xs ys zs:List V}
theorem Inv.lset {its its':Za3}{f:Array fh->Array fh}(I:Inv X pins G H s)(hH:H l=some (.lst xs))
  (e:s.heap.get? l=some { cls:=.type "list",data:=.seq its.toArray n })(hf:f its.toArray=its'.toArray)(hv:Ay ys its')(hz:ys.length<=sizeLine) :
  Inv X pins G (upd H l (.lst ys)) { s with heap:=s.heap.update l (i6 f),toks:=t' }:=by
 have q:=JZ e f;rw[hf] at q;refine I.write (x:=l) (e:=l) (by rw[hH];exact trivial) (.inl rfl) (λb' u hb hu=>(ku s.heap (i6 f) (rh hb)).trans hu) ⟨_,q⟩ ?_;exact⟨hz,its',_,hv,q⟩
theorem Inv.lnew {its:Za3}(I:Inv X pins G H s)(hv:Ay ys its)(hz:ys.length<=sizeLine) :
  Inv X pins G (upd H s.heap.objs.size (.lst ys)) { s with heap:=s.heap.push { cls:=.type "list",data:=.seq its.toArray },toks:=t' }:=
 I.laid (λ_ _ q=>en _ q) (d8 _) ⟨hz,its,0,hv,gq _ rfl⟩
theorem Inv.fresh (I:Inv X pins G H s):H s.heap.objs.size=none:=I.hok.fresh (d8 _)
theorem Inv.lstM (I:Inv X pins G H s)(hH:H l=some (.lst xs)):xs.length<=sizeLine/\∃(its:Za3) (n:Nat),Ay xs its/\xs.length=its.length/\s.heap.get? l=some { cls:=.type "list",data:=.seq its.toArray n }:=by
 obtain⟨z,its,n,r,e⟩:=I.hok l _ hH;exact⟨z,its,n,r,r.length,e⟩
theorem xM (h:n<=sizeLine):sh n=false:=by
 unfold sh;exact decide_eq_false (by lia)
end
section
variable {X:Cx}
def oY:V->List V->Hp->VK->Prop:=λx vs H Q=>∃l xs y,x=.ref l/\vs=[y]/\H l=some (.lst xs)/\xs.length<sizeLine/\Q .non (upd H l (.lst (xs++[y])))
theorem Be:MtM X "list.append" oY:=by
 intro pins s G H x vs v us Q I rx rv h;obtain⟨l,xs,y,rfl,rfl,hH,hz,q⟩:=h;cases rx;obtain⟨u,rfl,ru⟩:=rv.one;obtain⟨z,its,n,r,hl,e⟩:=I.lstM hH;refine sq F.slot_list_append ⟨_,e,rfl⟩ F.entry_list_append (F.args_list_append_2 _ _) (PySem.list_append l its.toArray n u (by rw[ge];lia)) ⟨e,?_⟩;refine⟨.non,_,I.lset (its':=its++[u]) hH e (by simp) (r.append (.cons ru .nil)) ?_,rfl,q⟩;rw[eh,ja];lia
def Aiz:V->List V->Hp->VK->Prop:=λx vs H Q=>∃l xs y,x=.ref l/\vs=[]/\H l=some (.lst xs)/\xs[xs.length-1]?=some y/\Q y (upd H l (.lst xs.dropLast))
theorem fA:MtM X "list.pop" Aiz:=by
 intro pins s G H x vs v us Q I rx rv h;obtain⟨l,xs,y,rfl,rfl,hH,hy,q⟩:=h;cases rx;have hus:=rv.zero;subst hus;obtain⟨z,its,n,r,hl,e⟩:=I.lstM hH;obtain⟨u,hu,ru⟩:=r.get hy;have hy':its.toArray[its.toArray.size-1]?=some u:=by
  show its.toArray[its.length-1]?=some u;rw[<-gr,<-hl];exact hu
 refine sq F.slot_list_pop ⟨_,e,rfl⟩ F.entry_list_pop (F.args_list_pop_1 _) (MeetsSeq.list_pop_last l its.toArray n u hy' (by rw[ge];lia)) ⟨e,?_⟩;refine⟨y,_,I.lset (its':=its.dropLast) hH e ?_ r.dropLast ?_,ru,q⟩
 ·show its.toArray.eraseIdxIfInBounds (its.toArray.size-1)=its.dropLast.toArray
  rw[ge,List.eraseIdxIfInBounds_toArray,nZ]
 ·rw[BQ]
  lia
def Aio:R2:=λx y H Q=>∃l b xs zs,x=.ref l/\y=.ref b/\H l=some (.lst xs)/\H b=some (.lst zs)/\xs.length+zs.length<=sizeLine/\∀p,H p=none->Q (.ref p) (upd H p (.lst (xs++zs)))
theorem Ix:OpR X (binaryOp .Add) Aio:=by
 intro pins s G H x y v u Q I rx ry h;obtain⟨l,b,xs,zs,rfl,rfl,hH,hB,hz,q⟩:=h;cases rx;cases ry;obtain⟨z,its,n,r,hl,e⟩:=I.lstM hH;obtain⟨z2,its2,n2,r2,hl2,e2⟩:=I.lstM hB;refine PySem.P.add_list e e2 ?_ (by rw[ge,ge];lia);have ea:its.toArray++its2.toArray=(its++its2).toArray:=by simp
 rw[ea];exact⟨.ref _,_,I.lnew (t':=s.toks) (r.append r2) (by rw[eh];lia),rfl,q _ I.fresh⟩
def Aij:R2:=λx y H Q=>∃l k xs,x=.ref l/\y=.int k/\H l=some (.lst xs)/\-(2 ^ 63)<=k/\k<2 ^ 63/\xs.length*k.toNat<=sizeLine /\
 ∀p,H p=none->Q (.ref p) (upd H p (.lst (fg k.toNat xs).flatten))
theorem rC {α:Type}(xs:List α)(k:Nat):(fg k xs).flatten.length=k*xs.length:=by
 induction k with
 |zero=>simp
 |succ k ih=>rw[i7,jl,eh,ih,Nat.succ_mul,vo]
theorem zX:OpR X (binaryOp .Mult) Aij:=by
 intro pins s G H x y v u Q I rx ry h;obtain⟨l,k,xs,rfl,rfl,hH,h1,h2,hz,q⟩:=h;cases rx;obtain⟨t,rfl⟩:=ry;obtain⟨z,its,n,r,hl,e⟩:=I.lstM hH;have hlen:its.toArray.size*k.toNat<=sizeLine:=by rw[ge,<-hl];exact hz
 have hcap:¬ its.toArray.size*k.toNat>(2 ^ 63-1)/8:=by
  have:(sizeLine:Nat)<=(2 ^ 63-1)/8:=by decide
  lia
 have hfit:¬(!IJ k)=true:=by
  rw[fitsIndex_both h1 h2];exact gz
 have hlong:¬ sh (its.toArray.size*k.toNat)=true:=by
  rw[xM hlen];exact gz
 have hnew:CV (λx1 x2=>x1++x2) #[] (fg (if its.toArray.isEmpty=true then 0 else k.toNat) its.toArray)=(fg k.toNat its).flatten.toArray:=by
  have f0:∀m:Nat,CV (λx1 x2=>x1++x2) #[] (fg m its.toArray)=(fg m its).flatten.toArray:=λm=>by
   have:=Ym its m [];rw[md] at this;exact this
  rw[f0]
  cases its with
  |nil=>simp
  |cons a r'=>rw[if_neg (by simp)]
 refine wpAny_binaryOp_repeat_ref (T:="list") (U:="int") (by decide) ⟨_,e,rfl⟩ (λs'=>FE s' k t) noFill_list_mul F.fills_int_mul GF repeat_list F.slot_int_index.lookup
  (sq GF (FE s k t) F.entry_int_rmul (F.args_int_rmul_2 _ _) (int___rmul___int_list k t l its.toArray n)
   ⟨e,rfl,⟨_,e,rfl⟩,sq F.slot_list_mul ⟨_,e,rfl⟩ F.entry_list_mul (F.args_list_mul_2 _ _) (KC l its.toArray n k t hfit hcap hlong) ⟨e,?_⟩⟩)
 rw[hnew];exact⟨.ref _,_,I.lnew (t':=s.toks) (r.rep k.toNat) (by rw[rC,x9];exact hz),rfl,q _ I.fresh⟩
end
end L2
namespace Att
open PySem PySem.W PySem.Calls PyProof.Rows
theorem S8 {P:zq}{h:jj}:∀(ns:List Int) (vs:Za3),WellAll P h vs (ns.map GZ)->rp vs ns:=by
 intro ns
 induction ns with
 |nil=>
  intro vs w;rw[xu] at w;cases w;exact .nil
 |cons n ns ih=>
  intro vs w;rw[im] at w
  cases w with
  |cons a b=>
   cases a;exact .cons _ _ (ih _ b)
theorem tN {l:KA}{n:Nat}(hn:l.most=some n){P:zq}{h:jj}{args:List WData}{vals:Za3}
    (hpre : l.row.toRowW.claim.pre args = true)(hwl : WellAll P h vals args) :
    ∃ a vs ns, vals = [jb a]/\args = [WData.list (ns.map GZ)]/\h.get? a = some { cls := .type "list", data := .seq vs.toArray }/\rp vs ns/\ns.length <= n := by
  have hsh : WShape.hasAll [] args [.list .int] = true := (pre_splitW hpre).1;have hc : l.pre.holds [] { args := args } = true := (pre_splitW hpre).2;obtain ⟨d, r, rfl, h1, h2⟩ := hasAllW_cons hsh;obtain rfl := hasAllW_nil h2;obtain ⟨xs, rfl, h3⟩ := hasW_list h1;obtain ⟨ns, rfl⟩ := items_int h3;have hlen : ns.length <= n := by
    unfold OpenLaw.pre at hc;have h4 : (WTm.not (.lt (.lit (.int (n : Int))) (.len (.arg 0)))).holds [] { args := [.list (ns.map .int)] } = true := by
      have h4 := (holds_andW hc).1;rw [hn] at h4;exact h4
    have h5 := condW_of h4 (w_not (w_lt w_lit (w_len_list (w_arg rfl))));rw [d7] at h5;refine Nat.le_of_not_lt λq => ?_;have q' : (n : Int) < ((ns.length : Nat) : Int) := by lia
    first
      | (rw [decide_eq_true q'] at h5; exact absurd h5 (by decide))
      | (simp at h5; lia)
  cases hwl with
  | cons w1 w2 =>
    cases w2
    cases w1 with
    | list ho hall => exact ⟨_, _, ns, rfl, rfl, ho, S8 ns _ hall, hlen⟩
theorem uN (l:KA)(args:List WData):l.row.toRowW.claim.post args (.bool true) args=true:=
 postW_of (r:=l.row.toRowW) (X:=(true==true))
  (show FT [] (.bool true) .bool=true by first|rfl|decide|simp[FT,WShape.arms,WShape.armsAll])
  (show(WTm.eq .res (.lit (.bool true))).value [] { args:=args,res:=some (.bool true),after:=args }=some (.bool (true==true)) from w_eq_bool (w_res rfl) w_lit) rfl
theorem attach_call {l:KA}{n:Nat}{q:gl}{loose:Za6}{XP:(Za2)->jj->Prop}{YP:iq->jj->Prop}{d:IT}
  (hn:l.most=some n)(hdf:d.params.defaults=[])
  (call:∀(w:iq) (QP QN:fv) (mg mb:Za2) (fa:eg) (o:Obj) (pm cd doc:fh) (a:eg) (vs:Za3) (ns:List Int),
   Ground q loose [] XP w QP mg mb QN.heap->YP w QN.heap ->
   QN.heap.get? fa=some o->o.data=.func (docDef d.name d.params d.body d.scope pm cd doc)->QN.heap.CodeRec cd d.name->mg d.name=some (.ref fa) ->
   QN.heap.get? a=some { cls:=.type "list",data:=.seq vs.toArray }->rp vs ns->ns.length<=n->QN.gens=#[] ->
   codeAny (model l.prog w) callerA (.call (.ref fa) ⟨[.ref a],[]⟩) (λr s'=>r=.ok (.ret (.bool true))/\OldK QN.heap s'.heap/\s'.os=QN.os/\ww s'.gens) QN) :
  WalkO q loose XP YP l.row.toRowW d [] (λf vs=>CA f vs):=by
 intro w QP QN mg mb G Y fa o pm cd doc dV kV ho hd hcd hD hmg hg args vals as hpre hlay hrd hwl hlo;obtain rfl:dV=.none:=Dflts.none hD hdf;obtain rfl:kV=.none:=Dflts.noKw hD;obtain⟨a,vs,ns,rfl,rfl,hobj,hints,hlen⟩:=tN hn hpre hwl;refine enter_call (ud (call w QP QN mg mb fa o pm cd doc a vs ns G Y ho (fd_plain hd) hcd hmg hobj hints hlen hg) λr s' hq=>?_);obtain⟨rfl,h2,h3,h4⟩:=hq;exact⟨.inl ⟨.bool true,.bool true,[],rfl,λ_=>rfl,.bool true,uN l _,λ_=>⟨vt,λ_ hm=>(nomatch hm)⟩⟩,h2,h3,h4⟩
section
variable {prog:gl} {w:iq} {A:i9} {E:Za0} {s:fv} {K:FN}
end
end Att
namespace L2
open PySem PySem.Spec PyProof.Rows
variable {C CB CC CO CP Pt dx i1 i2 it l1 l2:eg} {params:mv} {A:i9} {items:Array fh} {op:vb} {X:Cx} {D:Ie} {env:Env} {tg:i8} {fd:jq} {base h h':jj} {H H' H0 H1 H2:Hp} {J:It} {pins:Za1} {as fp:List eg} {ns ws:List Int} {cs ix:Za4} {N kz nm ps:Za6} {xs:List V} {us vs:Za3} {M:wc} {d n t':Nat} {oT:Obj} {an od:Option eg} {lpos pos pos2:Pos} {scope:nh} {pl:Sem Bool} {s s2:fv} {sp:Sp} {fr:St} {qual z:Str} {te:TE} {wi:TI} {y:V} {cdv ct doc oc pm:fh} {w:iq}
theorem R5:∀{vs:Za3} {ns:List Int},rp vs ns->Ay (ns.map V.int) vs
 |_,_,.nil=>.nil
 |_,_,.cons n t h=>.cons ⟨t,rfl⟩ (R5 h)
def Ap (s:iz)(j:Nat):iz:=match s with
 |.ClassDef _ _ _ body _ _ _ _ _ _ _=>body.getD j (.Pass ⟨0,0,0,0⟩)
 |_=>.Pass ⟨0,0,0,0⟩
def B2 (s:iz):mv:=match s with
 |.FunctionDef _ a _ _ _ _ _ _ _ _=>a
 |_=>{ posonlyargs:=[],args:=[],vararg:=none,kwonlyargs:=[],kw_defaults:=[],kwarg:=none,defaults:=[] }
def Bk (s:iz):List iz:=match s with
 |.FunctionDef _ _ b _ _ _ _ _ _ _=>b
 |_=>[]
def Ac (s:iz):nh:=match s with
 |.FunctionDef _ _ _ _ _ _ sc _ _ _=>sc
 |_=>{ kind:=.function,names:=[],isGenerator:=false,isCoroutine:=false }
abbrev CX0:CXT:=λ_ _ _ _ _ _=>False
abbrev E0:XK:=λ_ _ _=>False
theorem kW:J3 CX0 X E0:=λ_ _ _ _ _ _ _ h=>h.elim
structure Fun (K:d6) (x qual:Str) (st:iz) (f:eg) (fd:jq):Prop where
 ex:∃(oc:fh) (od:Option eg) (kV doc pm:fh) (an:Option eg) (cdv ct:fh) (osl:Array (Za7)),
  fd=jk x qual (B2 st) (Bk st) (Ac st) .none kV doc pm an cdv ct/\K.lookup f=some ⟨oc,od,.func fd,osl⟩/\lx K cdv qual=true
 kp:ka K (.ref f)=true
section
variable {P:gl} {w:iq} {K:d6} {mg:Za2} {base:jj}
theorem Fun.ok {x:Str}{st:iz}{f:eg}{k:Nat}(F:Fun K x qual st f fd)(S:Ah N ps (Ac st))(len:∀vs H Q E,sp vs H Q E->vs.length=ps.length)
  (hbody:∀(cdv:fh) (A:i9) (outer:List Env) (s:fv) (H:Hp) (vs:List V) (Q:VK) (E:XK),Co k (A.deeper (envOfC qual (Ac st) s.heap.objs.size f cdv))->sp vs H Q E ->
   ∃t,PSs (iE CX0 P w K mg base N qual (Ac st) f cdv A outer s H E).nox (Bk st) t/\t { nx:=λ_ H'=>Q .non H',rt:=Q } (Nm N vs) H):Ar P w K mg base CX0 (k+1) f fd ps sp:=by
 obtain⟨oc,od,kV,doc,pm,an,cdv,ct,osl,rfl,lk,hcd⟩:=F.ex;refine vC lk hcd S len λA outer s H vs Q E hr hsp=>?_;obtain⟨t,h,q⟩:=hbody cdv A outer s H vs Q E hr hsp;exact⟨t,h.nox,q⟩
theorem Fun.binds {x:Str}{st:iz}{f:eg}(F:Fun K x qual st f fd)
  (h:∀(kV doc pm:fh) (an:Option eg) (cdv ct:fh) (us:Za3),us.length=ps.length->bindArgs (jk x qual (B2 st) (Bk st) (Ac st) .none kV doc pm an cdv ct) ⟨us,[]⟩=pure (ps.zip us)):Fm K fd ps []:=by
 obtain⟨oc,od,kV,doc,pm,an,cdv,ct,osl,rfl,lk,hcd⟩:=F.ex;exact .all (h kV doc pm an cdv ct)
theorem nN {x:Str}{st:iz}{f:eg}{osl:Array (Za7)}{kV:fh}(l:K.lookup f=some ⟨oc,od,.func (jk x qual (B2 st) (Bk st) (Ac st) .none kV doc pm an cdv ct),osl⟩)
  (c:lx K cdv qual=true)(k:ka K (.ref f)=true):Fun K x qual st f (jk x qual (B2 st) (Bk st) (Ac st) .none kV doc pm an cdv ct):=⟨⟨oc,od,kV,doc,pm,an,cdv,ct,osl,rfl,l,c⟩,k⟩
end
theorem Dk (h:n<=1000):n<sizeLine:=qo h (by decide)
section
variable {X:Cx}
theorem pv (i:Nat){x:Str}(hN:autoParam (X.N[i]?=some x) QD)(hv:Vis X.env.scope x:=by first|exact BL rfl|exact BK (BL rfl)|exact BK (BK rfl))(hd:autoParam ((x==("__debug__":Str))=false) QF)
  (hcd:autoParam ((x==("__classdict__":Str))=false) QF):PE X (.Name x pos) (Aas i):=wG hN hv hd hcd
end
theorem Aiy {A B:Prop}(h:B):if false=true then A else B:=by
 rw[if_neg gz];exact h
theorem Aie {A B:Prop}(h:A):if true=true then A else B:=by
 rw[if_pos rfl];exact h
def Ag (H H':Hp):Prop:=∀b o,H b=some o->H' b=some o
theorem Ag.refl (H:Hp):Ag H H:=λ_ _ h=>h
theorem Ag.trans (a:Ag H H1)(b:Ag H1 H2):Ag H H2:=λc o h=>b c o (a c o h)
theorem Ag.free (e:Ag H H'){l:eg}(h:H' l=FL):H l=FL:=by
 cases q:H l with
 |none=>rfl
 |some o=>
  rw[e l o q] at h;cases h
theorem Ag.seq {K:d6}{a:eg}(e:Ag H H')(h:SqL K H a xs):SqL K H' a xs:=by
 rcases h with(h|⟨o,h⟩)|h
 ·exact .inl (.inl (e _ _ h))
 ·exact .inl (.inr ⟨o,e _ _ h⟩)
 ·exact .inr h
end L2
section
namespace L2
open PySem PySem.Spec PyProof.Rows
variable {C CB CC CO CP Pt dx i1 i2 it l1 l2:eg} {params:mv} {A:i9} {items:Array fh} {op:vb} {X:Cx} {D:Ie} {env:Env} {tg:i8} {fd:jq} {base h h':jj} {H H' H0 H1 H2:Hp} {J:It} {pins:Za1} {as fp:List eg} {ns ws:List Int} {cs ix:Za4} {N kz nm ps:Za6} {xs:List V} {us vs:Za3} {M:wc} {d n t':Nat} {oT:Obj} {an od:Option eg} {lpos pos pos2:Pos} {scope:nh} {pl:Sem Bool} {s s2:fv} {sp:Sp} {fr:St} {qual z:Str} {te:TE} {wi:TI} {y:V} {cdv ct doc oc pm:fh} {w:iq}
section
variable {prog:gl} {w:iq} {A:i9} {R:wm->fv->Prop} {s:fv}
def pH (ifs:List i8)(env:Env):Sem Bool:=
 forIn ifs true λc r=>if r=true then do let ok <-isTrue c env (eval c env);pure (uk ok) else pure (uk r)
theorem qO {elt tg iter:i8}{ifs:List i8}{scope:nh}{pos:Pos}{it acc:fh}{env:Env}(J:Nat->fv->Prop)
  (turn:∀n s,J n s->wpAny (model prog w) A (pyNext it) (λr s1=>match r with
   |none=>R (.ok .next) s1
   |some v=>wpAny (model prog w) A (letOwnedTupleGo tg it v) (λ_ s2=>wpAny (model prog w) A (assign tg env v) (λ_ s3=>wpAny (model prog w) A (pH ifs env) (λok s4=>
     if ok=true then wpAny (model prog w) A (eval elt env) (λx s5=>wpAny (model prog w) A (call (.builtin "list.append") [acc,x]) (λ_ s6=>∃m,m<n/\J m s6) (λ_ _=>False) s5) (λ_ _=>False) s4
     else ∃m,m<n/\J m s4) (λ_ _=>False) s3) (λ_ _=>False) s2) (λ_ _=>False) s1) (λ_ _=>False) s)
  (n:Nat)(h:J n s):codeAny (model prog w) A (.compLoop (.ListComp elt [⟨tg,iter,ifs,0⟩] scope pos) 0 it acc env) R s:=by
 refine codeAny_loop rfl J (λn s hJ=>?_) n h;show wpAny _ A (Sem.onRaise (compTurn (.ListComp elt [⟨tg,iter,ifs,0⟩] scope pos) 0 it acc env) _) _ _ s;refine wpAny_noted ?_;rw[compTurn_list];refine wpAny_bind (vd (wpAny_bind (nz (turn n s hJ) (λr s1 h1=>?_) (λ_ _ z=>z.elim))))
 cases r with
 |none=>exact fq h1
 |some v=>
  refine wpAny_bind (nz h1 (λ_ s2 h2=>wpAny_bind (nz h2 (λ_ s3 h3=>wpAny_bind (nz h3 (λok s4 h4=>?_) (λ_ _ z=>z.elim))) (λ_ _ z=>z.elim))) (λ_ _ z=>z.elim))
  cases ok with
  |false=>exact fq ⟨rfl,h4⟩
  |true=>exact wpAny_bind (wpAny_bind (nz h4 (λx s5 h5=>wpAny_bind (nz h5 (λ_ s6 h6=>fq (fq ⟨rfl,h6⟩)) (λ_ _ z=>z.elim))) (λ_ _ z=>z.elim)))
end
def Ea (env:Env):List (Str×qf)->List (Str×eg)->List (Str×eg)
 |[],cs=>cs
 |y::r,cs=>if y.2=.free then Ea env r ((y.1,(env.cells.lookup y.1).getD 0)::cs) else Ea env r cs
theorem gE {env:Env}(f:Str×qf->List (Str×eg)->Sem (ForInStep (List (Str×eg))))
  (h1:∀y cs c,y.2=.free->env.cells.lookup y.1=some c->f y cs=pure (.yield ((y.1,c)::cs)))(h2:∀y cs,y.2≠.free->f y cs=pure (.yield cs)) :
  ∀(ns:List (Str×qf)) (cs:List (Str×eg)),(∀y∈ns,y.2=.free->∃c,env.cells.lookup y.1=some c)->forIn ns cs f=(pure (Ea env ns cs):Sem (List (Str×eg)))
 |[],cs,_=>by simp[Ea]
 |y::r,cs,h=>by
  have hr:∀z∈r,z.2=.free->∃c,env.cells.lookup z.1=some c:=λz hz=>h z (gv _ hz);rw[yx]
  by_cases hy:y.2=.free
  ·obtain⟨c,hc⟩:=h y gu hy
   rw[h1 y cs c hy hc];simp only[Ea,if_pos hy,hc,rg];exact gE f h1 h2 r _ hr
  ·rw[h2 y cs hy]
   simp only[Ea,if_neg hy];exact gE f h1 h2 r _ hr
theorem Ht (h:∀y∈scope.names,y.2=.free->∃c,env.cells.lookup y.1=some c):closureFor scope env=pure (Ea env scope.names []):=by
 unfold closureFor;dsimp only;rw[gE (env:=env) _ (λy cs c hy hc=>?_) (λy cs hy=>?_) scope.names [] h]
 ·rfl
 ·obtain⟨n,k⟩:=y
  dsimp only at hy hc ⊢;subst hy;simp only[cellOf,hc,beq_self_eq_true,if_true];rfl
 ·obtain⟨n,k⟩:=y
  have e:(k==nv)=false:=by simpa using hy
  simp only[e,jy,if_false]
theorem Jq {env:Env}:∀(ns:List (Str×qf)) (cs:List (Str×eg)) (x:Str) (c:eg),(∀y∈ns,y.2=.free->∃c,env.cells.lookup y.1=some c) ->
  (∀z d,cs.lookup z=some d->env.cells.lookup z=some d)->(Ea env ns cs).lookup x=some c->env.cells.lookup x=some c
 |[],cs,x,c,_,hc,h=>hc x c h
 |y::r,cs,x,c,hy,hc,h=>by
  have hr:∀z∈r,z.2=.free->∃c,env.cells.lookup z.1=some c:=λz hz=>hy z (gv _ hz);unfold Ea at h;split at h
  ·rename_i hk
   obtain⟨d,hd⟩:=hy y gu hk;rw[hd] at h;refine Jq r _ x c hr (λz e hz=>?_) h;rw[rk] at hz;split at hz
   ·rename_i hzy
    cases hz;rw[eq_of_beq hzy];exact hd
   ·exact hc z e hz
  ·exact Jq r _ x c hr hc h
theorem Nq {env:Env}:∀(ns:List (Str×qf)) (cs:List (Str×eg)) (x:Str),(cs.lookup x).isSome=true->((Ea env ns cs).lookup x).isSome=true
 |[],_,_,h=>h
 |y::r,cs,x,h=>by
  unfold Ea;split
  ·refine Nq r _ x ?_
   rw[rk];split
   ·rfl
   ·exact h
  ·exact Nq r _ x h
theorem Fo {env:Env}:∀(ns:List (Str×qf)) (cs:List (Str×eg)) (x:Str),(x,nv)∈ns->((Ea env ns cs).lookup x).isSome=true
 |[],_,_,h=>by simp at h
 |y::r,cs,x,h=>by
  rcases iu.mp h with e|e
  ·subst e
   unfold Ea;rw[if_pos rfl];exact Nq r _ x (by simp)
  ·unfold Ea
   split
   ·exact Fo r _ x e
   ·exact Fo r _ x e
theorem Km {x:Str}{k:qf}(h:(relabel scope env).names.lookup x=some k):(x,k)∈scope.names\/((x,nv)∈scope.names/\k=yu):=by
 have m:=jz h;obtain⟨⟨n,k'⟩,hm,e⟩:=lp.mp m;dsimp only at e;split at e
 ·rename_i hk
  cases e;simp only[nc,beq_iff_eq] at hk;rw[hk.1.1] at hm;exact .inr ⟨hm,rfl⟩
 ·cases e
  exact .inl hm
theorem Pw (hk:env.scope.kind=.function){x:Str}(hx:env.kindOf x=some .cell)(h:scope.names.lookup x=some .free):(relabel scope env).names.lookup x=some .cell:=by
 unfold relabel;show(scope.names.map _).lookup x=some yu;generalize scope.names=ns at h
 induction ns with
 |nil=>simp at h
 |cons y r ih=>
  obtain⟨n,k⟩:=y;rw[rk] at h;rw[im];split at h
  ·rename_i hn
   cases h;rw[<-eq_of_beq hn];simp[hk,hx]
  ·rename_i hn
   dsimp only;split
   ·rw[rk,hn];exact ih h
   ·rw[rk,hn];exact ih h
def Dh (X:Cx)(scope:nh)(N:Za6)(C:eg)(s:fv)(H:Hp)(fp:List eg):Cx:=
 { X with N:=N,QP:=s,QY:=H,env:=compEnvC scope (Ea X.env scope.names []) C X.env,outer:=X.stack,ex:=fp,fn:=λ_=>false,pn:=[],xe:=λ_ _=>False }
structure Bb (QW:Za6) (QV sc:nh) (x:Str) (N:Za6) (ix:Za4):Prop where
 kind:sc.kind=.function
 nocell:∀y∈sc.names,y.2≠.cell
 names:∀y∈sc.names,y.2=.local->sc.names.lookup y.1=some .local
 free:∀y∈sc.names,y.2=.free->QV.names.lookup y.1=some .cell
 nd:N.Nodup
 hd:N.head?=some x
 loc:sc.names.lookup x=some .local
 len:N.length=ix.length+1
 at_:∀p∈N.tail.zip ix,QW[p.2]?=some p.1/\sc.names.lookup p.1=some .free
def frV (G:St)(ix:Za4):St:=ix.map λj=>(G[j]?).getD none
def PIf (X:Cx)(ifs:List i8)(t:TT):Prop:=
 ∀(pins:Za1) (s:fv) (G:St) (H:Hp) (Q:Bool->Hp->Prop),Inv X pins G H s->t G H Q->wpAny (model X.prog X.w) X.A (pH ifs X.env) (TP X pins G Q) X.xe s
def Agd:TT:=λ_ H Q=>Q true H
theorem Cb:PIf X [] Agd:=λpins s G H Q I h=>wpAny_tests_nil ⟨H,I,h⟩
theorem Md {c:i8}{t:TT}(h:PT X c t):PIf X [c] t:=λpins s G H Q I hw=>wpAny_tests_one (h pins s G H Q I hw)
def Tf (J:It)(H1:Hp)(fr:St)(tc:TT)(te:TE)(Q:VK):Prop:=∀D,H1 D=none->∃W:Nat->Nat->Hp->Prop,(∃m,W 0 m (upd H1 D (.lst [])))/\∀i m H,W i m H ->
 (J.stop i H/\Q (.ref D) H)\/(J.go i H/\∀x H',J.yld i H x H'->tc (some x::fr) H' λb H3=>
  if b=true then te (some x::fr) H3 λy H4=>∃ys,H4 D=some (.lst ys)/\ys.length<sizeLine/\∃m',m'<m/\W (i+1) m' (upd H4 D (.lst (ys++[y]))) else ∃m',m'<m/\W (i+1) m' H3)
def tLc (wi:TI)(ix:Za4)(tc:TT)(te:TE):TE:=λG H Q=>wi G H λJ H1=>Tf J H1 (frV G ix) tc te Q
section
variable {X:Cx} {scope:nh} {N:Za6} {ix:Za4} {x:Str} {px:Pos} {elt iter:i8} {ifs:List i8} {tc:TT} {te:TE} {pos:Pos}
theorem Ahe {G:St}{tn:Nat->jj->Prop}(L:Bb X.N X.env.scope scope x N ix)(I2:Inv X pins G H2 s2)
  (T:Ph X.prog X.w X.K tg J fp it tn)(st2:tn 0 s2.heap)(f2:∀b∈fp,O2 X pins H2 b){s3 s4:fv}{H3:Hp}(I3:Inv X pins G H3 s3)(I4:Inv X pins G H3 s4)(hle:s2.heap.objs.size<=s3.heap.objs.size)
  (hC:C=s3.heap.objs.size)(ho:s4.os=s3.os)(kp:∀b u,s3.heap.get? b=some u->s4.heap.get? b=some u){m:Za2}(hns:s4.heap.Ns C m):Inv (Dh X scope N C s3 H3 fp) [] (none::frV G ix) H3 s4:=by
 have hfree:∀y∈scope.names,y.2=.free->∃c,X.env.cells.lookup y.1=some c:=λy hy hf=>I2.ok.has y.1 (.inl (L.free y hy hf));have sub:∀y c,(Ea X.env scope.names []).lookup y=some c->X.env.cells.lookup y=some c:=λy c h=>Jq _ _ y c hfree (λ_ _ z=>by simp at z) h;have lt2:∀b∈fp,b<s2.heap.objs.size:=λb hb=>by obtain⟨o,e,_⟩:=T.obj _ _ st2 b hb;exact fu e
 have okY:(Dh X scope N C s3 H3 fp).Ok:=by
  refine⟨I2.ok.mod,L.kind,I2.ok.glob,I2.ok.blt,oh hC.symm,λy z c h1 h2=>I2.ok.inj y z c (sub y c h1) (sub z c h2),λy hy=>?_,λy c z _=>?_,I2.ok.hd,I2.ok.frames,.inl rfl,λb hb=>⟨?_,λy c h=>(f2 b hb).2.2.2.2.1 y c (sub y c h)⟩,
   I3.bs,ir I3.ok.bsz I3.sz,λb o e hb=>?_,λb hb z=>?_,I3.stack,I3.stkFree⟩
  ·have hk:(y,nv)∈scope.names:=by
    rcases hy with hy|hy
    ·rcases Km hy with q|q
     ·exact absurd rfl (L.nocell _ q)
     ·exact q.1
    ·rcases Km hy with q|q
     ·exact q
     ·exact absurd q.2 (by decide)
   exact jx.mp (Fo _ _ y hk)
  ·cases(show false=true from z)
  ·have l:=lt2 b hb
   show b≠C;rw[hC];exact gm (fk l hle)
  ·rcases(f2 b hb).2.2.2.1 with q|q
   ·exact I2.ok.noex b o e q
   ·exact absurd (fk (fu e) (ir I2.ok.bsz q)) (ln _)
  ·rcases iu.mp (I2.stkSub b z) with q|q
   ·exact(f2 b hb).2.1 q
   ·exact(f2 b hb).2.2.1 q
 refine⟨okY,ho,I4.bare,Un.kept kp,⟨m,hns,λi y v h1 h2 h3=>?_⟩,λy c e=>I4.cell y c (sub y c e),?_,λy c e=>I4.freeC y c (sub y c e),λp hp=>absurd (show p∈([]:Za1) from hp) (by simp),I4.hok,?_⟩
 ·cases i with
  |zero=>cases(show some none=some (some v) from h2)
  |succ k=>
   have h2:(frV G ix)[k]?=some (some v):=h2;have h1:N[k+1]?=some y:=h1;unfold frV at h2;rw[d9] at h2
   cases hj:ix[k]? with
   |none=>rw[hj] at h2;cases h2
   |some j=>
    rw[hj] at h2;have h2:(G[j]?).getD none=some v:=ee h2;have h2':G[j]?=some (some v):=by
     cases e:G[j]? with
     |none=>rw[e] at h2;cases h2
     |some z=>rw[e] at h2;exact congrArg some h2
    have ht:N.tail[k]?=some y:=by rw[tm];exact h1
    have hz:(y,j)∈N.tail.zip ix:=f8 (i:=k) (by rw[nw];exact⟨ht,hj⟩);obtain⟨q1,q2⟩:=L.at_ _ hz;have hm:=jz q2;have hcell:=L.free _ hm rfl;obtain⟨m',hn',hl'⟩:=I4.loc;obtain⟨u,r,lk⟩:=hl' j y v q1 h2' (.inr (.inl hcell));refine⟨u,r,.inr ⟨.inl (Pw I2.ok.kind hcell q2),?_⟩⟩;rcases lk with lk|⟨_,c,e,z⟩
    ·rw[show X.env.kindOf y=some .cell from hcell] at lk
     cases lk.1
    ·obtain⟨c',e'⟩:=jx.mp (Fo (env:=X.env) scope.names [] y hm)
     have e2:=sub y c' e';rw[e] at e2;cases e2;exact⟨c,e',z⟩
 ·show H3 C=none
  exact I3.hok.fresh (oh hC.symm)
 ·show(none::frV G ix).length=N.length
  rw[L.len];simp[frV]
theorem vE {tgt:i8}(htg:tgt=.Name x px){G:St}{tn:Nat->jj->Prop}(hc:X.calm=true)(L:Bb X.N X.env.scope scope x N ix)(I2:Inv X pins G H2 s2)
  (T:Ph X.prog X.w X.K tgt J fp it tn)(st2:tn 0 s2.heap)(f2:∀b∈fp,O2 X pins H2 b)
  (hif:∀C s H,PIf (Dh X scope N C s H fp) ifs tc)(he:∀C s H,PE (Dh X scope N C s H fp) elt te){Q:VK}(rd:Tf J H2 (frV G ix) tc te Q){RR:fh->eg->wm->fv->Prop}{E:Za0}
  (fin:∀D C H' s' m,Inv X pins G H' s'->s2.heap.objs.size<=C->H' C=none->s'.heap.Ns C m->Q (.ref D) H'->RR (.ref D) C (.ok .next) s') :
  wpAny (model X.prog X.w) X.A (newList []) (λacc s3=>wpAny (model X.prog X.w) X.A (newFunctionEnv scope X.env.globals (Ea X.env scope.names []) [] X.env.qual none .none (some X.env)) (λcenv s4=>
   codeAny (model X.prog X.w) X.A (.compStart (.ListComp elt [⟨tgt,iter,ifs,0⟩] scope pos) 0 (.ref it) acc { cenv with scope:=relabel scope X.env }) (RR acc cenv.locals) s4) E s3) E s2:=by
 refine oj (sv L.nocell (by intro y hy;simp at hy) (λh1 hns hsb=>?_) L.kind);dsimp only at hns hsb ⊢;have I3:Inv X pins G (upd H2 s2.heap.objs.size (.lst [])) { s2 with heap:=s2.heap.push { cls:=.type "list",dict:=none,data:=.seq ([]:Za3).toArray } }:=I2.lnew (its:=[]) (t':=s2.toks) .nil (gp _);generalize hH3:s2.heap.push { cls:=.type "list",dict:=none,data:=.seq ([]:Za3).toArray }=h3 at hns hsb I3 ⊢;have hsz:h3.objs.size=s2.heap.objs.size+1:=by rw[<-hH3,pi]
 have kp34:∀b u,h3.get? b=some u->h1.get? b=some u:=λb u e=>hsb.extBut b u (gm (fu e)) (en _ e);have I4:Inv X pins G (upd H2 s2.heap.objs.size (.lst [])) { s2 with heap:=h1,toks:=s2.toks+([]:List (Str×fh)).length }:=I3.kept (t':=s2.toks+([]:List (Str×fh)).length) kp34;have kp24:∀b u,s2.heap.get? b=some u->h1.get? b=some u:=λb u e=>kp34 b u (by rw[<-hH3];exact en _ e);have IY:=Ahe (C:=h3.objs.size) (s3:={ s2 with heap:=h3 }) L I2 T st2 f2 I3 I4 (by show s2.heap.objs.size<=h3.objs.size;lia) rfl rfl kp34 hns;have fD:H2 s2.heap.objs.size=none:=I2.hok.fresh (d8 _);have lt2:∀b∈fp,b<s2.heap.objs.size:=λb hb=>by obtain⟨o,e,_⟩:=T.obj _ _ st2 b hb;exact fu e
 have st4:tn 0 h1:=T.keep _ _ _ st2 λb _ o e=>kp24 b o e;have stat:∀{pn:Za1} {H':Hp},pn=[]->(∀b∈fp,H' b=none)->∀b∈fp,O2 (Dh X scope N h3.objs.size { s2 with heap:=h3 } (upd H2 s2.heap.objs.size (.lst [])) fp) pn H' b:=λhp hn b hb=>by
  subst hp;exact⟨hn b hb,(IY.ok.exf b hb).1,IY.ok.exfs b hb,.inl hb,(IY.ok.exf b hb).2,λp hp=>absurd (show p∈([]:Za1) from hp) (by simp)⟩
 obtain⟨W,⟨m0,w0⟩,turn⟩:=rd _ fD;have loop:codeAny (model X.prog X.w) X.A (.compLoop (.ListComp elt [⟨tgt,iter,ifs,0⟩] scope pos) 0 (.ref it) (.ref s2.heap.objs.size) (compEnvC scope (Ea X.env scope.names []) h3.objs.size X.env)) (RR (.ref s2.heap.objs.size) h3.objs.size)
   { s2 with heap:=h1,toks:=s2.toks+([]:List (Str×fh)).length }:=by
  refine qO (λn s'=>∃i H',Inv (Dh X scope N h3.objs.size { s2 with heap:=h3 } (upd H2 s2.heap.objs.size (.lst [])) fp) [] (none::frV G ix) H' s'/\tn i s'.heap/\(∀b∈fp,H' b=none)/\W i n H') ?_ m0
   ⟨0,_,IY,st4,λb hb=>by rw[Al (gm (lt2 b hb))];exact(f2 b hb).1,w0⟩
  rintro n s5 ⟨i,H5,I5,st5,fr5,w5⟩;rcases turn i n H5 w5 with⟨stop,q⟩|⟨go,step⟩
  ·refine thn (T.done (Dh X scope N h3.objs.size { s2 with heap:=h3 } (upd H2 s2.heap.objs.size (.lst [])) fp) rfl rfl rfl hc i [] s5 _ H5 (λ_ _=>False) I5 (stat rfl fr5) st5 stop) λr s6 ⟨hr,I6⟩=>?_
   subst hr;obtain⟨m6,hn6,_⟩:=I6.loc;have u1:Un (frs X.stack) fp H2 (upd H2 s2.heap.objs.size (.lst [])) s2.heap h3:=Un.laid (λb u e=>by rw[<-hH3];exact en _ e) (d8 _) fD;have back:Inv X pins G H5 s6:=I2.call' (ch:=fp) (I6.os.trans rfl) (u1.trans I6.base) I6.hok I6.bare λb hb=>⟨(f2 b hb).2.2.2.1,(f2 b hb).2.1,(f2 b hb).2.2.2.2.1,(f2 b hb).2.2.2.2.2⟩;exact fin _ _ H5 s6 m6 back (by lia) I6.free hn6 q
  ·refine thn (T.item (Dh X scope N h3.objs.size { s2 with heap:=h3 } (upd H2 s2.heap.objs.size (.lst [])) fp) rfl rfl rfl hc i [] s5 _ H5 (λ_ _=>False) I5 (stat rfl fr5) st5 go) λr s6 ⟨u,hr,h6⟩=>?_
   subst hr;refine thn h6 λ_ s7 ⟨y,H7,I7,r7,y7,st7,fr7⟩=>?_;have I7':=I7.pinned (stat rfl fr7) (T.obj _ _ st7);have hg:PG (Dh X scope N h3.objs.size { s2 with heap:=h3 } (upd H2 s2.heap.objs.size (.lst [])) fp) tgt (Eg 0):=by
    rw[htg];have hi:N[0]?=some x:=by have:=L.hd;rwa [AK] at this
    exact Mr L.nd hi (.inl (ol L.loc)) (.inr (ol L.loc))
   refine thn (hg _ s7 _ H7 y u (λQM H'=>QM=some y::frV G ix/\H'=H7) I7' r7 ⟨rfl,rfl⟩) λ_ s8 ⟨σ8,H8,I8,e8,e8'⟩=>?_;subst e8 e8';refine thn (hif _ _ _ _ s8 _ _ _ I8 (step y _ y7)) λok s9 ⟨H9,I9,q9⟩=>?_;have again:∀{sz:fv} {Hz:Hp} {m':Nat},Inv (Dh X scope N h3.objs.size { s2 with heap:=h3 } (upd H2 s2.heap.objs.size (.lst [])) fp) ([]++R8 fp s7.heap) (some y::frV G ix) Hz sz->m'<n->W (i+1) m' Hz ->
     ∃m,m<n/\∃i H',Inv (Dh X scope N h3.objs.size { s2 with heap:=h3 } (upd H2 s2.heap.objs.size (.lst [])) fp) [] (none::frV G ix) H' sz/\tn i sz.heap/\(∀b∈fp,H' b=none)/\W i m H':=λ{sz Hz m'} Iz hm wz=>by
    refine⟨m',hm,i+1,Hz,Iz.unpinned.weak (by simp) (λj v e=>?_),T.keep _ _ _ st7 λb hb o e=>(Iz.pin (b,o) (gt _ (gt _ (Gi hb e)))).1,λb hb=>?_,wz⟩
    ·cases j with
     |zero=>cases e
     |succ j=>exact e
    ·obtain⟨o,e,d⟩:=T.obj _ _ st7 b hb
     exact(Iz.pin (b,o) (gt _ (gt _ (Gi hb e)))).2.1
   cases ok with
   |false=>
    obtain⟨m',hm,wz⟩:=q9;exact again I9 hm wz
   |true=>
    refine thn (he _ _ _ _ s9 _ _ _ I9 q9) λxv s10 ⟨z,H10,I10,r10,ys,hD,hl,m',hm,wz⟩=>?_;refine thn (Be _ s10 _ H10 (.ref s2.heap.objs.size) [z] (.ref s2.heap.objs.size) [xv] (λ_ Hz=>Hz=upd H10 s2.heap.objs.size (.lst (ys++[z]))) I10 rfl (.cons r10 .nil) ⟨_,ys,z,rfl,rfl,hD,hl,rfl⟩) λ_ s11 ⟨_,H11,I11,_,q11⟩=>?_;subst q11;exact again I11 hm wz
 exact DF loop (T.self X.A 0 _ _ _ st4 loop)
theorem Lc (hc:X.calm=true)(L:Bb X.N X.env.scope scope x N ix)(hi:PI X (.Name x px) iter wi)(hif:∀C s H fp,PIf (Dh X scope N C s H fp) ifs tc)(he:∀C s H fp,PE (Dh X scope N C s H fp) elt te)
  (hs:autoParam (∀z,foldedSetIterable iter X.env z=pure z) QJ):PE X (.ListComp elt [⟨.Name x px,iter,ifs,0⟩] scope pos) (tLc wi ix tc te):=by
 k_in;have hfree:∀y∈scope.names,y.2=.free->∃c,X.env.cells.lookup y.1=some c:=λy hy hf=>I.ok.has y.1 (.inl (L.free y hy hf));rw[JD];refine qr (use:=none) rfl hs (Ht hfree) L.kind L.names (thn (hi pins s G H _ I h) λv s1 h1=>thn h1 λitv s2 h2=>?_);obtain⟨it,fp,tn,J,H2,e,I2,T,st2,f2,rd⟩:=h2;subst e;refine vE (RR:=λacc C=>compPost (model X.prog X.w) X.A X.xe none _ acc C) rfl hc L I2 T st2 f2 (λC s H=>hif C s H fp) (λC s H=>he C s H fp) rd λD C H' s' m I' hC hf hn q=>?_;refine⟨m,hn,λh' hsb=>⟨.ref D,H',?_,rfl,q⟩⟩;have l2:=I2.lt;refine I'.turned (t':=s'.toks) (it:=C) (λb o hb e=>hsb.extBut b o hb e) hf (jo (fk l2 hC)) (.inr (ir I2.sz hC)) (λy c e=>?_) λp hp=>?_
 ·obtain⟨v,hv⟩:=I2.cell y c e
  exact gm (fk hv.lt hC)
 ·exact gm (fk (fu (I2.pin p hp).1) hC)
theorem F7 {i:Nat}{y:Str}{py spos:Pos}(hc:X.calm=true)(L:Bb X.N X.env.scope scope x N ix)(hN:X.N.Nodup)(hy:X.N[i]?=some y)(hl:X.env.scope.names.lookup y=some .local)
  (hi:PI X (.Name x px) iter wi)(hif:∀C s H fp,PIf (Dh X scope N C s H fp) ifs tc)(he:∀C s H fp,PE (Dh X scope N C s H fp) elt te)
  (hsw:autoParam (swapsWith (.ListComp elt [⟨.Name x px,iter,ifs,0⟩] scope pos) (some (.Name y py)) spos.line X.env=pure true) QD)
  (hs:autoParam (∀z,foldedSetIterable iter X.env z=pure z) QJ):PS X (.Assign [.Name y py] (.ListComp elt [⟨.Name x px,iter,ifs,0⟩] scope pos) spos) (tG (tLc wi ix tc te) (Eg i)):=by
 k_end;have hfree:∀y∈scope.names,y.2=.free->∃c,X.env.cells.lookup y.1=some c:=λy hy hf=>I.ok.has y.1 (.inl (L.free y hy hf));rw[DR _ _ _ _ hsw];refine wpAny_bind (vd (wpAny_bind ?_));show wpAny _ X.A (do let _ <-comprehension (.ListComp elt [⟨.Name x px,iter,ifs,0⟩] scope pos) scope X.env _ (newList []) false (eval iter X.env) (some (assign (.Name y py) X.env))) _ _ s;refine wpAny_bind (thn (Q:=λ_ s'=>SP X pins D .next s') (qr (use:=some (assign (.Name y py) X.env)) rfl hs (Ht hfree) L.kind L.names (thn (hi pins s G H _ I h) λv s1 h1=>thn h1 λitv s2 h2=>?_)) λ_ s' hq=>fq (fq hq));obtain⟨it,fp,tn,J,H2,e,I2,T,st2,f2,rd⟩:=h2;subst e;refine vE (RR:=λacc C=>compPost (model X.prog X.w) X.A X.xe (some (assign (.Name y py) X.env)) _ acc C) rfl hc L I2 T st2 f2 (λC s H=>hif C s H fp) (λC s H=>he C s H fp) rd λDa C H' s' m I' hC hf hn q=>?_;have l2:=I2.lt;have nC:C≠X.env.locals:=jo (fk l2 hC);have nF:C∉X.fs:=I2.nofs hC;obtain⟨oC,es,ep,hget,hdat,hrest⟩:=id hn;have Ip:Inv X (pins++[(C,oC)]) G H' s':=I'.pins_of λp hp=>(il.mp hp).elim (λz=>I'.pin p (gt _ z)) λz=>by
  have e:p=(C,oC):=by simpa using z
  subst e;exact⟨hget,hf,nC,nF,λv z=>by rw[hdat] at z;cases z⟩
 have hg:PG X (.Name y py) (Eg i):=Mr hN hy (.inl hl) (.inr hl);show wpAny _ X.A (assign (.Name y py) X.env (.ref Da)) _ _ s';refine thn (hg _ s' G H' (.ref Da) (.ref Da) D.nx Ip rfl q) λ_ s'' ⟨XG,H'',I'',q''⟩=>?_;obtain⟨g1,g2,_⟩:=I''.pin (C,oC) (gt _ (gt _ (by simp)));refine⟨m,⟨oC,es,ep,g1,hdat,hrest⟩,λh' hsb=>⟨XG,H'',?_,q''⟩⟩;refine I''.unpinned.turned (t':=s''.toks) (it:=C) (λb o hb e=>hsb.extBut b o hb e) g2 nC (.inr (ir I2.sz hC)) (λy c e=>?_) λp hp=>?_
 ·obtain⟨v,hv⟩:=I2.cell y c e
  exact gm (fk hv.lt hC)
 ·exact gm (fk (fu (I2.pin p hp).1) hC)
end
theorem An {D:eg}{o:HO}(h:H D=none):Ag H (upd H D o):=λb u e=>by rw[Al (Aj e h)];exact e
theorem A4 {D:eg}{o:HO}(h:H D=none):Ag H (upd H D o)/\upd H D o D=some o:=⟨An h,Af⟩
theorem Om {tc:TT}{Q:VK}(n:Nat)(item:Nat->V)(acc:Nat->List V)(h0:acc 0=[])(hz:∀i,i<n->(acc i).length<sizeLine)
  (hgo:∀i H,i<n->Ag H1 H->J.go i H)(hy:∀i H x H',i<n->Ag H1 H->J.yld i H x H'->x=item i/\H'=H)(hst:∀H,Ag H1 H->J.stop n H)
  (turn:∀i H (R:Hp->Prop) (A:VK),i<n->Ag H1 H->(acc (i+1)=acc i->∀H',Ag H H'->R H')->(∀y H',acc (i+1)=acc i++[y]->Ag H H'->A y H') ->
   tc (some (item i)::fr) H λb H3=>if b=true then te (some (item i)::fr) H3 A else R H3)
  (fin:∀D H,H1 D=none->Ag H1 H->H D=some (.lst (acc n))->Q (.ref D) H):Tf J H1 fr tc te Q:=by
 intro D hD;refine⟨λi m H=>i<=n/\m=n-i/\Ag H1 H/\H D=some (.lst (acc i)),⟨n,gp _,rfl,An hD,by rw[Af,h0]⟩,?_⟩;rintro i m H ⟨hi,rfl,sm,hl⟩
 by_cases h:i=n
 ·subst h
  exact .inl ⟨hst H sm,fin D H hD sm hl⟩
 ·have hlt:i<n:=ko hi h
  refine .inr ⟨hgo i H hlt sm,λx H' hyl=>?_⟩;obtain⟨rfl,rfl⟩:=hy i H x H' hlt sm hyl;refine turn i H' _ _ hlt sm (λea H3 s3=>?_) (λy H4 ea s4=>?_)
  ·exact⟨n-(i+1),by lia,by lia,rfl,sm.trans s3,by rw[ea];exact s3 _ _ hl⟩
  ·refine⟨acc i,s4 _ _ hl,hz i hlt,n-(i+1),by lia,by lia,rfl,λb u e=>?_,by rw[Af,ea]⟩
   rw[Al (Aj e hD)];exact s4 _ _ (sm _ _ e)
theorem Jy {lo:Int}{tc:TT}{Q:VK}(acc:Nat->List V)(h0:acc 0=[])(hz:∀i,i<n->(acc i).length<sizeLine)
  (turn:∀(i:Nat) H (R:Hp->Prop) (A:VK),i<n->Ag H1 H->(acc (i+1)=acc i->∀H',Ag H H'->R H')->(∀y H',acc (i+1)=acc i++[y]->Ag H H'->A y H') ->
   tc (some (.int (lo+i))::fr) H λb H3=>if b=true then te (some (.int (lo+i))::fr) H3 A else R H3)
  (fin:∀D H,H1 D=none->Ag H1 H->H D=some (.lst (acc n))->Q (.ref D) H):Tf (Itr lo n) H1 fr tc te Q:=
 Om n (λi=>.int (lo+i)) acc h0 hz (λi H hi _=>hi) (λi H x H' _ _ h=>⟨h.2,h.1⟩) (λH _=>d8 n) turn fin
theorem O9 {K:d6}{a:eg}{tc:TT}{Q:VK}(hl:SqL K H1 a xs)(acc:Nat->List V)(h0:acc 0=[])(hz:∀i,i<xs.length->(acc i).length<sizeLine)
  (turn:∀(i:Nat) x H (R:Hp->Prop) (A:VK),xs[i]?=some x->Ag H1 H->(acc (i+1)=acc i->∀H',Ag H H'->R H')->(∀y H',acc (i+1)=acc i++[y]->Ag H H'->A y H') ->
   tc (some x::fr) H λb H3=>if b=true then te (some x::fr) H3 A else R H3)
  (fin:∀D H,H1 D=none->Ag H1 H->H D=some (.lst (acc xs.length))->Q (.ref D) H):Tf (Itl K a) H1 fr tc te Q:=by
 refine Om xs.length (λi=>xs.getD i .non) acc h0 hz (λi H hi sm=>⟨xs,xs[i],sm.seq hl,by simp[hi]⟩) (λi H x H' hi sm h=>⟨?_,h.1⟩) (λH sm=>⟨xs,sm.seq hl,d8 _⟩) (λi H R A hi sm=>turn i _ H R A (by simp[hi]) sm) fin;have:=h.2 xs (sm.seq hl);simp[ju,this]
theorem Ag.seqT {K:d6}{a:eg}(e:Ag H H')(h:SqT K H a xs):SqT K H' a xs:=by
 rcases h with(h|⟨o,h⟩)|h
 ·exact .inl (.inl (e _ _ h))
 ·exact .inl (.inr ⟨o,e _ _ h⟩)
 ·exact .inr h
theorem yM {K:d6}{a:eg}{tc:TT}{Q:VK}(hl:SqT K H1 a xs)(acc:Nat->List V)(h0:acc 0=[])(hz:∀i,i<xs.length->(acc i).length<sizeLine)
  (turn:∀(i:Nat) x H (R:Hp->Prop) (A:VK),xs[i]?=some x->Ag H1 H->(acc (i+1)=acc i->∀H',Ag H H'->R H')->(∀y H',acc (i+1)=acc i++[y]->Ag H H'->A y H') ->
   tc (some x::fr) H λb H3=>if b=true then te (some x::fr) H3 A else R H3)
  (fin:∀D H,H1 D=none->Ag H1 H->H D=some (.lst (acc xs.length))->Q (.ref D) H):Tf (Itt K a) H1 fr tc te Q:=by
 refine Om xs.length (λi=>xs.getD i .non) acc h0 hz (λi H hi sm=>⟨xs,xs[i],sm.seqT hl,by simp[hi]⟩) (λi H x H' hi sm h=>⟨?_,h.1⟩) (λH sm=>⟨xs,sm.seqT hl,d8 _⟩) (λi H R A hi sm=>turn i _ H R A (by simp[hi]) sm) fin;have:=h.2 xs (sm.seqT hl);simp[ju,this]
theorem rY:bootBuiltins "int"=some (.type "int"):=by decide +kernel
theorem vX:bootBuiltins "str"=some (.type "str"):=by decide +kernel
theorem wL:bootBuiltins "bool"=some (.type "bool"):=by decide +kernel
theorem R7:bootBuiltins "list"=some (.type "list"):=by decide +kernel
theorem Pk:bootBuiltins "tuple"=some (.type "tuple"):=by decide +kernel
theorem vK:bootBuiltins "dict"=some (.type "dict"):=by decide +kernel
theorem Ch:bootBuiltins "len"=some (.builtin "len"):=by decide +kernel
theorem Ci:bootBuiltins "isinstance"=some (.builtin "isinstance"):=by decide +kernel
theorem Agf:bootBuiltins "sum"=some (.builtin "sum"):=by decide +kernel
theorem Xe:bootBuiltins "min"=some (.builtin "min"):=by decide +kernel
theorem Acy:bootBuiltins "max"=some (.builtin "max"):=by decide +kernel
theorem Xb:bootBuiltins "sorted"=some (.builtin "sorted"):=by decide +kernel
structure Cal (P:gl) (w:iq) (K:d6) (mg:Za2) (base:jj) (name:Str) (k:Nat) (ps:Za6) (sp:Sp):Prop where
 ex:∃(f:eg) (fd:jq),Ar P w K mg base CX0 k f fd ps sp/\Fm K fd ps []/\mg name=some (.ref f)/\ka K (.ref f)=true
section
variable {X:Cx} {k:Nat} {ps:Za6} {sp:Sp} {name m:Str} {p pos apos:Pos} {e o:i8} {es:List i8} {ta:TE} {t:TA}
theorem Au (C:Cal X.prog X.w X.K X.mg X.base name k ps sp)(hr:Co k X.A)(ha:PA X (e::es) t)(hg:autoParam (Gl X name) QD)(hdb:autoParam ((name==("__debug__":Str))=false) QF)
  (he:autoParam (starEach (e::es) X.env=(false,eval e X.env)::starEach es X.env) QD)(hpl:autoParam ((backTo pos (starEach es X.env)).any (·.1)=false) QD):PE X (.Call (.Name name p) (e::es) [] pos) (qV sp [] E0 t):=by
 obtain⟨f,fd,F,b,hm,hk⟩:=C.ex;exact Aat F hr hg hm hk b .nil kW ha hdb he hpl
end
section
variable {X:Cx}
def Aic (K:d6):List V->Hp->VK->Prop:=λxs H Q=>∃x n t b,xs=[x,.ty n]/\Oy K H x t/\kitOne K t (.type n)=some b/\Q (.bl b) H
theorem Cr:Ev X (.builtin "isinstance") (Aic X.K):=by
 intro pins s G H xs us Q I r h;obtain⟨x,n,t,b,rfl,ty,e,q⟩:=h;obtain⟨u,w',rfl,ru,rw'⟩:=Nk r;cases(show w'=kh n from rw');exact tO I ru ty e λtk=>⟨.bl b,H,I.tok tk,rfl,q⟩
theorem Pz {K:d6}:kitOne K (.type "int") (.type "bool")=some false:=by rfl
theorem Sg {K:d6}:kitOne K (.type "int") (.type "int")=some true:=by rfl
theorem Sk {K:d6}:kitOne K (.type "str") (.type "str")=some true:=by rfl
end
theorem Hc {x y:Str}(h:x.cps.toList=y.cps.toList):x=y:=by
 obtain⟨a⟩:=x;obtain⟨b⟩:=y;have:a=b:=Array.toList_inj.mp h;rw[this]
def sgn (c:Nat):Str:=⟨#[c]⟩
def Yg (x:Str)(k:Nat):Str:=⟨(fg k x.cps.toList).flatten.toArray⟩
theorem iF (x:Str)(k:Nat):(Yg x k).length=k*x.length:=by
 show(fg k x.cps.toList).flatten.toArray.size=k*x.cps.size;rw[ge,rC];simp
theorem Yw (a:Array Nat):∀(k:Nat) (acc:Array Nat),((fg k a).foldl (·++·) acc).toList=acc.toList++(fg k a.toList).flatten
 |0,acc=>by simp
 |k+1,acc=>by
  rw[i7,qi,Yw a k,i7];simp[fm]
section
variable {X:Cx}
def Ags:R2:=λx y H Q=>∃z k,x=.str z/\y=.int k/\-(2 ^ 40)<k/\k<2 ^ 40/\z.length*k.toNat<=sizeLine/\z.length<=sizeLine/\Q (.str (Yg z k.toNat)) H
theorem oW:OpR X (binaryOp .Mult) Ags:=by
 intro pins s G H x y v u Q I rx ry h;obtain⟨z,k,rfl,rfl,k1,k2,hz,hz2,q⟩:=h;obtain⟨t,rfl⟩:=rx;obtain⟨t',rfl⟩:=ry;have hs:=Lx;have hs':=EI;refine PySem.P.mul_str ?_ ?_ ?_ ?_
 ·rw[decide_eq_false (by lia),decide_eq_false (by lia)];rfl
 ·intro h1 _ hgt
  have hk:k<=2 ^ 40:=by lia
  have:(z.length:Int)<=(2 ^ 63-1)/k:=by
   rw[Int.le_ediv_iff_mul_le (by lia)];have e:(z.length:Int)*k=((z.length*k.toNat:Nat):Int):=by
    rw[EY,su (by lia)]
   rw[e];lia
  lia
 ·intro _ _
  unfold IX
  simpa using hz
 ·split
  ·rename_i h1
   have e:Yg z k.toNat=ym:=by
    rw[show k.toNat=0 by lia];rfl
   rw[e] at q;exact⟨by decide,.str ym,H,I.tok _,⟨_,rfl⟩,q⟩
  ·rename_i h1
   split
   ·rename_i h2
    have e:Yg z k.toNat=z:=by
     refine Hc ?_;show(fg k.toNat z.cps.toList).flatten.toArray.toList=_;rcases Bool.or_eq_true_iff.mp h2 with h2|h2
     ·have:k=1:=by simpa using h2
      subst this;simp
     ·have:z.length=0:=by simpa using h2
      have e0:z.cps.toList=[]:=by
       have:z.cps.size=0:=this
       simpa using this
      rw[e0];simp
    rw[e] at q;exact⟨.str z,H,I,⟨_,rfl⟩,q⟩
   ·have e:(⟨(fg k.toNat z.cps).foldl (·++·) #[]⟩:Str)=Yg z k.toNat:=by
     refine Hc ?_;show((fg k.toNat z.cps).foldl (·++·) #[]).toList=_;rw[Yw];simp[Yg]
    refine⟨?_,.str (Yg z k.toNat),H,I.tok _,⟨s.toks,by rw[e]⟩,q⟩;rw[e,iF,x9];exact hz
theorem Oa {ys:Za6}:∀{us:Za3},Ay (ys.map V.str) us->qu us ys:=by
 induction ys with
 |nil=>intro us r;rw[xu] at r;cases r;exact .nil
 |cons y ys ih=>
  intro us r;rw[im] at r
  cases r with
  |cons r1 r2=>
   obtain⟨t,e⟩:=r1;subst e;exact .cons y t (ih r2)
def zD (K:d6):V->List V->Hp->VK->Prop:=λx vs H Q=>∃sep p ys,x=.str sep/\vs=[.ref p]/\SqL K H p (ys.map V.str)/\(ys.map (·.length)).sum+ys.length*sep.length<=16777216/\Q (.str (tx sep ys)) H
theorem Of:MtM X "str.join" (zD X.K):=by
 intro pins s G H x vs v us Q I rx rv h;obtain⟨sep,p,ys,rfl,rfl,hp,hz,q⟩:=h;obtain⟨t,rfl⟩:=rx;obtain⟨u,rfl,ru⟩:=rv.one;cases ru;obtain⟨its,r,pl,_⟩:=I.list hp;exact join_list pl.isList (by simpa using Oa r) hz λt' k=>⟨.str (tx sep ys),H,I.tok k,⟨t',rfl⟩,q⟩
theorem Yn:∀(ys:Za6) (a:Array Nat),(ys.foldl (λacc p=>acc++("":Str).cps++p.cps) a).toList=a.toList++(ys.map λy=>y.cps.toList).flatten
 |[],a=>by simp
 |y::r,a=>by
  rw[qi,Yn r];have e:("":Str).cps=#[]:=rfl;rw[e];simp[fm]
theorem Nx (ys:Za6):(tx ("":Str) ys).cps.toList=(ys.map λy=>y.cps.toList).flatten:=by
 show((ys.drop 1).foldl (λacc p=>acc++("":Str).cps++p.cps) (ys.headD ym).cps).toList=_;rw[Yn]
 cases ys with
 |nil=>rfl
 |cons y r=>simp
end
def lH:i8->Bool
 |.Starred ..=>false
 |_=>true
theorem iO {e:i8}{es:List i8}(h:lH e=true):starEach (e::es) env=(false,eval e env)::starEach es env:=by
 cases e<;>first|rfl|cases h
section
variable {X:Cx} {e:i8} {es:List i8} {te:TE} {t:TA}
theorem Aiv (ha:PE X e te)(hr:PA X es t)(hs:lH e=true):PA X (e::es) (jP te t):=oX ha hr (iO hs)
end
theorem us2 {P:Za3->Prop}(h:∀a b,P [a,b]):∀us:Za3,us.length=2->P us
 |[_,_],_=>h _ _
theorem us3 {P:Za3->Prop}(h:∀a b c,P [a,b,c]):∀us:Za3,us.length=3->P us
 |[_,_,_],_=>h _ _ _
section
variable {G:St} {H:Hp} {D:Ie} {Q:VK} {t u:TS} {te ta tb:TE} {QB:Bool->Hp->Prop}
theorem Ah0 (h:t { D with nx:=u D } G H):Afy t u D G H:=h
theorem Ae7 (h:D.nx G H):Adb D G H:=h
theorem Agm {g:TG}(h:te G H λx H1=>g x G H1 D.nx):tG te g D G H:=h
theorem Abe {i:Nat}{v:V}{R:St->Hp->Prop}(h:R (G.set i (some v)) H):Eg i v G H R:=h
theorem Af6 (h:te G H D.rt):Ahl te D G H:=h
theorem Ady (h:te G H λ_ H1=>D.nx G H1):Act te D G H:=h
theorem Ahq {c:TT}(h:c G H λb H1=>if b=true then t D G H1 else u D G H1):Ahs c t u D G H:=h
theorem Ahi {i:Nat}{ti:TIp}{x:V}(e:G[i]?=some (some x))(h:te G H λy H1=>ti x y H1 λz H2=>D.nx (G.set i (some z)) H2):Ae0 i te ti D G H:=⟨x,e,h⟩
theorem Agp {i:Nat}{v:V}(e:G[i]?=some (some v))(h:Q v H):Aas i G H Q:=⟨v,e,h⟩
theorem r_c {v:V}(h:Q v H):tC v G H Q:=h
theorem Ais {r:R2}(h:ta G H λx H1=>tb G H1 λy H2=>r x y H2 Q):tOp r ta tb G H Q:=h
theorem Aig {r:V->Hp->VK->Prop}(h:ta G H λx H1=>r x H1 Q):tUn r ta G H Q:=h
theorem Aid {g:Int->V}{i:Int}(h:Q (g i) H):rU g (.int i) H Q:=⟨i,rfl,h⟩
theorem Ac6 {g:Int->Int->V}{i j:Int}(h:Q (g i j) H):rI0 g (.int i) (.int j) H Q:=⟨i,j,rfl,rfl,h⟩
theorem Ah8 {C:Int->Int->Prop}{g:Int->Int->V}{i j:Int}(c:C i j)(h:Q (g i j) H):rI C g (.int i) (.int j) H Q:=⟨i,j,rfl,rfl,c,h⟩
theorem Agv {f:Int->Int->Int}{i j:Int}(h:Q (.int (f i j)) H):ipI f (.int i) (.int j) H Q:=⟨i,j,rfl,rfl,h⟩
theorem Aha {x:V}(e:xW x y=true)(h:Q (.bl (decide (x=y))) H):rEq x y H Q:=⟨e,h⟩
theorem Agy {x:V}(e:xW x y=true)(h:Q (.bl (!decide (x=y))) H):rNe x y H Q:=⟨e,h⟩
theorem Aeh (h:te G H λx H'=>∃k,x=.bl k/\QB k H'):xL te G H QB:=h
theorem Aik (h:te G H λx H'=>∃k,x=.bl k/\QB k H'):tB te G H QB:=h
theorem Aip {k:Bool}{P:Bool->Prop}(h:P k):∃k',V.bl k=.bl k'/\P k':=⟨k,rfl,h⟩
theorem Ah2 {c:TT}(h:c G H λb H1=>QB (!b) H1):Ah6 c G H QB:=h
theorem Af1 {c d:TT}(h:c G H λb H1=>if b=true then d G H1 QB else QB false H1):Af7 c d G H QB:=h
theorem Ai0 {c d:TT}(h:c G H λb H1=>if b=true then QB true H1 else d G H1 QB):tOr c d G H QB:=h
theorem Aeg (h:ta G H λx H1=>∃c,x=.bl c/\if c=true then tb G H1 Q else Q (.bl false) H1):Acv ta tb G H Q:=h
theorem Ae6 (h:ta G H λx H1=>∃c,x=.bl c/\Q (.bl (!c)) H1):Acm ta G H Q:=h
theorem Agx {c:TT}(h:c G H λb H1=>if b=true then ta G H1 Q else tb G H1 Q):tIf c ta tb G H Q:=h
theorem Ahc (h:ta G H λx H1=>Q (.bl (decide (x=.non))) H1):Ahk ta G H Q:=h
theorem Afe (h:ta G H λx H1=>Q (.bl (!decide (x=.non))) H1):Acn ta G H Q:=h
theorem Acl {r r':R2}{tc:TE}(h:ta G H λx H1=>tb G H1 λy H2=>r x y H2 λz H3=>∃k,z=.bl k/\(if k=true then tc G H3 λw' H4=>r' y w' H4 Q else Q (.bl false) H3)):zN r r' ta tb tc G H Q:=h
theorem Af0 (h:QB true H):Agd G H QB:=h
variable {tA tR:TA} {QA:List V->Hp->Prop}
theorem Afz (h:QA [] H):nU G H QA:=h
theorem Ael (h:te G H λx H1=>tR G H1 λxs H2=>QA (x::xs) H2):jP te tR G H QA:=h
theorem Ad5 {E:XK}(h:tA G H λvs H1=>sp (vs++[]) H1 Q E):qV sp [] E tA G H Q:=h
theorem Ain {r:List V->Hp->VK->Prop}(h:tA G H λvs H1=>r vs H1 Q):tCB r tA G H Q:=h
theorem Ah1 (h:tA G H λxs H1=>xs.length<=sizeLine/\∀p,H1 p=none->Q (.ref p) (upd H1 p (.lst xs))):Agc tA G H Q:=h
theorem Agt (h:tA G H λxs H1=>xs.length<=sizeLine/\∀p,H1 p=none->Q (.ref p) (upd H1 p (.tup xs))):Agj tA G H Q:=h
theorem Aim {K:d6}{T:String}{r:V->List V->Hp->VK->Prop}(h:te G H λx H1=>tyV K T x H1/\tA G H1 λxs H2=>r x xs H2 Q):tBM K T r te tA G H Q:=h
theorem Aia {r:V->Option Int->Option Int->Hp->VK->Prop}{tl th:TO}(h:te G H λx H1=>tl G H1 λl H2=>th G H2 λu H3=>r x l u H3 Q):tSl r te tl th G H Q:=h
theorem vT {QO:Option Int->Hp->Prop}(h:QO none H):qH G H QO:=h
theorem Ad0 {QO:Option Int->Hp->Prop}(h:te G H λx H1=>∃i,x=.int i/\QO (some i) H1):Acs te G H QO:=h
theorem Af5 {P:Int->Prop}{i:Int}(h:P i):∃j,V.int i=.int j/\P j:=⟨i,rfl,h⟩
def sD (J:It)(g:TG)(tb:TS)(D:Ie)(G:St)(H1:Hp):Prop:=∃W:Nat->Nat->St->Hp->Prop,(∃m,W 0 m G H1)/\∀i m G H,W i m G H ->
 (J.stop i H/\D.nx G H)\/(J.go i H/\∃N:St->Hp->Prop,(∀QM H',N QM H'->∃m',m'<m/\W (i+1) m' QM H')/\∀x H',J.yld i H x H'->g x G H' λQQ H2=>tb { D with nx:=N,ct:=N,bk:=D.nx } QQ H2)
theorem Agw {g:TG}(h:wi G H λJ H1=>sD J g t D G H1):Ahg wi g t D G H:=h
theorem Aft {R:It->Hp->Prop}(h:tA G H λvs H1=>∃j:Int,vs=[.int j]/\-(2 ^ 62)<=j/\j<2 ^ 62/\R (Itr 0 j.toNat) H1):Ac1 tA G H R:=h
theorem Adv {R:It->Hp->Prop}(h:tA G H λvs H1=>∃i j:Int,vs=[.int i,.int j]/\(-(2 ^ 62)<=i/\i<2 ^ 62/\-(2 ^ 62)<=j/\j<2 ^ 62)/\R (Itr i (j-i).toNat) H1):Acp tA G H R:=h
theorem Abb {K:d6}{R:It->Hp->Prop}(h:te G H λx H1=>∃a,x=.ref a/\(∃xs,SqL K H1 a xs)/\R (Itl K a) H1):Acu K te G H R:=h
theorem Aev {K:d6}{R:It->Hp->Prop}(h:te G H λx H1=>∃a,x=.ref a/\(∃xs,SqT K H1 a xs)/\R (Itt K a) H1):Aec K te G H R:=h
theorem Aiu {tc:TT}(h:wi G H λJ H1=>Tf J H1 (frV G ix) tc te Q):tLc wi ix tc te G H Q:=h
theorem Cg {K:d6}{p:eg}{i:Int}{v:V}(hs:SqL K H p xs)(e:atI xs i=some v)(h:Q v H):Aff K (.ref p) (.int i) H Q:=⟨p,xs,i,v,rfl,rfl,hs,e,h⟩
theorem Cd {K:d6}{p:eg}{i:Int}{v:V}(hs:SqT K H p xs)(e:atI xs i=some v)(h:Q v H):Aei K (.ref p) (.int i) H Q:=⟨p,xs,i,v,rfl,rfl,hs,e,h⟩
theorem Bz {l:eg}(hl:H l=some (.lst xs))(hz:xs.length<sizeLine)(h:Q .non (upd H l (.lst (xs++[y])))):oY (.ref l) [y] H Q:=⟨l,xs,y,rfl,rfl,hl,hz,h⟩
end
theorem Gr {c:TT}{tb:TS}{G:St}(Pv:St->Hp->Prop)(μ:St->Hp->Nat)(h0:Pv G H)
  (hs:∀m G H,Pv G H->μ G H=m->c G H λb H1=>if b=true then ∃N:St->Hp->Prop,(∀QM H',N QM H'->∃m',m'<m/\(Pv QM H'/\μ QM H'=m'))/\tb { D with nx:=N,ct:=N,bk:=D.nx } G H1 else D.nx G H1):vR c tb D G H:=
 ⟨λm G H=>Pv G H/\μ G H=m,⟨_,h0,rfl⟩,λm G H h=>hs m G H h.1 h.2⟩
theorem Li {tb:TS}{rt:VK}{bk:St->Hp->Prop}{G:St}{Pv:St->Hp->Prop}{μ:St->Hp->Nat}{m:Nat}
  (h:tb { nx:=λQM H'=>Pv QM H'/\μ QM H'<m,rt:=rt,bk:=bk,ct:=λQM H'=>Pv QM H'/\μ QM H'<m } G H1) :
  ∃N:St->Hp->Prop,(∀QM H',N QM H'->∃m',m'<m/\(Pv QM H'/\μ QM H'=m'))/\tb { nx:=N,rt:=rt,bk:=bk,ct:=N } G H1:=⟨_,λQM H' z=>⟨_,z.2,z.1,rfl⟩,h⟩
section
variable {H:Hp} {Q:VK} {g:Int->Int->V} {i j:Int}
theorem Y3 (c:0<j)(h:Q (g i j) H):rI (λ_ j=>0<j) g (.int i) (.int j) H Q:=⟨i,j,rfl,rfl,c,h⟩
theorem qW (c:0<=j)(h:Q (g i j) H):rI (λ_ j=>0<=j) g (.int i) (.int j) H Q:=⟨i,j,rfl,rfl,c,h⟩
theorem Ahw (c1:0<j)(c2:j<1073741824)(h:Q (g i j) H):rI Ahh g (.int i) (.int j) H Q:=⟨i,j,rfl,rfl,⟨c1,c2⟩,h⟩
theorem Vb (c1:-(2 ^ 64)<j)(c2:j<2 ^ 64)(h:Q (g i j) H):rI xF g (.int i) (.int j) H Q:=⟨i,j,rfl,rfl,.inr ⟨c1,c2⟩,h⟩
theorem vP (c1:-(2 ^ 64)<i)(c2:i<2 ^ 64)(h:Q (g i j) H):rI xF g (.int i) (.int j) H Q:=⟨i,j,rfl,rfl,.inl ⟨c1,c2⟩,h⟩
end
theorem Bo {c A B:Prop}[Decidable c](h1:c->A)(h2:¬ c->B):if decide c=true then A else B:=by
 by_cases h:c
 ·rw[decide_eq_true h,if_pos rfl]
  exact h1 h
 ·rw[decide_eq_false h,if_neg gz]
  exact h2 h
theorem gU {c A B:Prop}[Decidable c](h1:¬ c->A)(h2:c->B):if(!decide c)=true then A else B:=by
 by_cases h:c
 ·rw[decide_eq_true h,if_neg (by decide)]
  exact h2 h
 ·rw[decide_eq_false h,if_pos (by decide)]
  exact h1 h
def Ahx (c:TT)(t u:TS):TS:=λD G H=>∃J:St->Hp->Prop,(∀G H,J G H->D.nx G H)/\c G H λb H1=>if b=true then t { D with nx:=J } G H1 else u { D with nx:=J } G H1
theorem vQ {c:i8}{a b:List iz}{tc:TT}{t u:TS}(hc:PT X c tc)(ha:PSs X a t)(hb:PSs X b u):PS X (.If c a b pos) (Ahx tc t u):=by
 k_end;obtain⟨J,hJ,h⟩:=h;refine thn (Bm hc ha hb pins s G H { D with nx:=J } I h) λf s' q=>?_
 cases f with
 |next=>
  obtain⟨QM,H',I',q'⟩:=q;exact⟨QM,H',I',hJ _ _ q'⟩
 |brk=>exact q
 |cont=>exact q
 |ret u=>exact q
theorem Acz {c:TT}{t u:TS}{G:St}(J:St->Hp->Prop)(h:c G H λb H1=>if b=true then t { D with nx:=J } G H1 else u { D with nx:=J } G H1)(hJ:∀G H,J G H->D.nx G H):Ahx c t u D G H:=⟨J,hJ,h⟩
theorem Abg {α:Type}{xs:List α}{i:Int}{v:α}(h0:0<=i)(h:xs[i.toNat]?=some v):atI xs i=some v:=by
 have:=A7 (xs:=xs) (j:=i.toNat) h
 rwa [su h0] at this
def Aai (lo st:Int)(n:Nat):It:=⟨λi _=>i<n,λi H x H'=>H'=H/\x=.int (lo+i*st),λi _=>n<=i⟩
def Cp (lo hi st:Int):Nat:=((hi-lo+st-1)/st).toNat
theorem lE {P:gl}{K:d6}(it:eg)(lo dt:Int)(n:Nat):Ph P w K tg (Aai lo dt n) [it] it (λi h=>z7 h it (lo+(i:Nat)*dt) ((n:Int)-(i:Nat)) dt) where
 mem:=by simp
 obj:=λi h st b hb=>by
  have e:b=it:=by simpa using hb
  subst e;exact⟨_,st,λv z=>by
   have z':BW _=IV v:=z;cases z'⟩
 keep:=λi h h' st k=>k it (by simp) _ st
 item:=by
  intro X hP hw hK hc i pins s G H E I hf st hg;subst hP hw hK;obtain⟨f0,f1,f2,f3,f4,f5⟩:=hf it (by simp);have W:=FS (prog:=X.prog) (w:=X.w) (I.ok.hd hc) it lo dt n;refine W.item i s _ _ hg st λv h' tk hv st' kk=>?_;obtain⟨t,rfl⟩:=hv;have I1:Inv X pins G H { s with heap:=h',toks:=tk }:=I.turned (λb o hb e=>kk b o (by simpa using hb) e) f0 f1 f3 f4 f5;exact⟨_,rfl,Zs (s:={ s with heap:=h',toks:=tk }) (n:="range_iterator") st' rfl rfl (by decide) ⟨.int _,H,I1,⟨t,rfl⟩,⟨rfl,rfl⟩,st',λb hb=>(hf b hb).1⟩⟩
 done:=by
  intro X hP hw hK hc i pins s G H E I hf st hg;subst hP hw hK;obtain⟨f0,f1,f2,f3,f4,f5⟩:=hf it (by simp);exact CW (I.ok.hd hc) st (by have:n<=i:=hg;lia) λh' eb=>⟨rfl,I.turned (t':=s.toks) (λb o hb e=>eb b o hb e) f0 f1 f3 f4 f5⟩
 self:=λ_ _ _ _ _ st h=>CZ st h
theorem Uo {lo hi st:Int}(h:0<st):lf lo hi st=(Cp lo hi st:Int):=by
 unfold lf Cp;rw[if_pos h]
 by_cases hl:lo<hi
 ·rw[if_pos hl]
  have e:(hi-lo+st-1)/st=(hi-lo-1)/st+1:=by
   rw[show hi-lo+st-1=(hi-lo-1)+st*1 by lia,Int.add_mul_ediv_left _ _ (by lia)]
  rw[e];have:0<=(hi-lo-1)/st:=Int.ediv_nonneg (by lia) (by lia);exact(su (Int.add_nonneg this (by decide))).symm
 ·rw[if_neg hl]
  have:(hi-lo+st-1)/st<=0:=by
   have:=Int.ediv_le_ediv h (show hi-lo+st-1<=st-1 by lia);rw[Int.ediv_eq_zero_of_lt (show 0<=st-1 by lia) (by lia)] at this;exact this
  lia
theorem kU {lo hi st:Int}(h:0<st)(h1:-(2 ^ 61)<=lo)(h2:lo<2 ^ 61)(h3:-(2 ^ 61)<=hi)(h4:hi<2 ^ 61)(h5:st<2 ^ 61):q8 lo hi st=true:=by
 unfold q8;rw[Uo h];have hb:(Cp lo hi st:Int)*st<=hi-lo+st-1\/(Cp lo hi st:Int)=0:=by
  unfold Cp
  by_cases hz:0<=(hi-lo+st-1)/st
  ·left
   rw[su hz];exact Int.ediv_mul_le _ (by lia)
  ·right
   lia
 have hn:(Cp lo hi st:Int)<=(Cp lo hi st:Int)*st:=by
  have:=Int.mul_le_mul_of_nonneg_left (show(1:Int)<=st by lia) (kq (Cp lo hi st));lia
 have hmul:lo+(Cp lo hi st:Int)*st<2 ^ 63/\-(2 ^ 63)<=lo+(Cp lo hi st:Int)*st:=by
  have h0:0<=(Cp lo hi st:Int)*st:=Int.mul_nonneg (kq _) (by lia);rcases hb with hb|hb
  ·lia
  ·rw[hb] at h0 ⊢
   lia
 have h0:0<=(Cp lo hi st:Int):=kq _;have hs:(Cp lo hi st:Int)<2 ^ 63:=by
  rcases hb with hb|hb
  ·lia
  ·lia
 rw[if_pos h];simp only[w8,nc,EN,decide_eq_true_eq,beq_iff_eq];refine⟨⟨⟨⟨?_,?_⟩,?_⟩,?_⟩,.inr ?_⟩<;>lia
section
variable {X:Cx} {tg:i8}
def Ac9 (ta:TA):TI:=λG H R=>ta G H λvs H1=>∃i j k:Int,vs=[.int i,.int j,.int k]/\(-(2 ^ 40)<=i/\i<2 ^ 40/\-(2 ^ 40)<=j/\j<2 ^ 40/\0<k/\k<2 ^ 29)/\R (Aai i k (Cp i j k)) H1
theorem P7 {a b c:i8}{ta:TA}{p:Pos}(hg:Gl X "range")(hm:X.mg "range"=none)(ha:PA X [a,b,c] ta)(hs:autoParam (starEach [a,b,c] X.env=[(false,eval a X.env),(false,eval b X.env),(false,eval c X.env)]) QD)
  (hs2:autoParam (starEach [b,c] X.env=[(false,eval b X.env),(false,eval c X.env)]) QD):PI X tg (.Call (.Name "range" p) [a,b,c] [] pos) (Ac9 ta):=by
 intro pins s G H R I h;refine Call_ (Do I hg hm boot_range (ik (thA ha I h λus s1 vs H1 I1 r1 q1=>?_) (by rw[hs,hs2]) (by rw[hs2];rfl)));obtain⟨i,j,k,e,⟨q1,q2,q3,q4,q5,q6⟩,q⟩:=q1;subst e
 cases r1 with
 |cons r rr=>
  cases rr with
  |cons r' rr=>
   cases rr with
   |cons r'' rr=>
    cases rr;obtain⟨t,rfl⟩:=r;obtain⟨t',rfl⟩:=r';obtain⟨t'',rfl⟩:=r'';refine JX (by lia) ?_ (.inl (ut (by lia)));refine FC (AG ..) (kU q5 (by lia) (by lia) (by lia) (by lia) (by lia)) ?_;have I2:Inv X pins G H1 { s1 with heap:=s1.heap.push { cls:=.type "range",data:=.fields #[.int i t,.int j t',.int k t''] },toks:=s1.toks }:=I1.kept λb o e=>en _ e;refine⟨_,[_],_,_,H1,rfl,I2.kept (t':=s1.toks) λb o e=>en _ e,lE _ i k (Cp i j k),?_,λb hb=>?_,q⟩
    ·have e1:i+((0:Nat):Int)*k=i:=by simp
     have e2:((Cp i j k:Nat):Int)-((0:Nat):Int)=lf i j k:=by rw[Uo q5];simp
     show z7 _ _ (i+((0:Nat):Int)*k) (((Cp i j k:Nat):Int)-((0:Nat):Int)) k;rw[e1,e2];exact gq _ rfl
    ·have e:=fz.mp hb
     subst e;exact I2.fpOk (d8 _) (I2.hok.fresh (d8 _))
end
theorem iK {lo st:Int}{tc:TT}{Q:VK}(acc:Nat->List V)(h0:acc 0=[])(hz:∀i,i<n->(acc i).length<sizeLine)
  (turn:∀(i:Nat) H (R:Hp->Prop) (A:VK),i<n->Ag H1 H->(acc (i+1)=acc i->∀H',Ag H H'->R H')->(∀y H',acc (i+1)=acc i++[y]->Ag H H'->A y H') ->
   tc (some (.int (lo+i*st))::fr) H λb H3=>if b=true then te (some (.int (lo+i*st))::fr) H3 A else R H3)
  (fin:∀D H,H1 D=none->Ag H1 H->H D=some (.lst (acc n))->Q (.ref D) H):Tf (Aai lo st n) H1 fr tc te Q:=
 Om n (λi=>.int (lo+i*st)) acc h0 hz (λi H hi _=>hi) (λi H x H' _ _ h=>⟨h.2,h.1⟩) (λH _=>d8 n) turn fin
def Its (z:Str):It:=⟨λi _=>i<z.cps.size,λi H x H'=>H'=H/\∃c,z.cps[i]?=some c/\x=.str (sgn c),λi _=>z.cps.size<=i⟩
section
variable {X:Cx} {tg:i8}
def Ahz (tl:TE):TI:=λG H R=>tl G H λx H1=>∃z,x=.str z/\R (Its z) H1
theorem yX {P:gl}{K:d6}{ty:String}{t:Tok}(hty:ty="str_ascii_iterator"\/ty="str_iterator")
  (W:∀A':i9,A'.handled=none->Walks P w A' it [it] [it] z.cps.size (SignAt z) (λi h=>h.IsStrIter it ty z t i))
  (hself:∀(A:i9) (i:Nat) (s:fv) (Q:Za0) (E:Za0),s.heap.IsStrIter it ty z t i->Q (.ref it) s->wpAny (model P w) A (pyIter (.ref it)) Q E s):Ph P w K tg (Its z) [it] it (λi h=>h.IsStrIter it ty z t i) where
 mem:=by simp
 obj:=λi h st b hb=>by
  have e:b=it:=by simpa using hb
  subst e;obtain⟨o,e,c,d⟩:=st;exact⟨o,e,λv z=>by rw[d] at z;cases z⟩
 keep:=λi h h' st k=>let ⟨o,ho,r⟩:=st;⟨o,k it (by simp) o ho,r⟩
 item:=by
  intro X hP hw hK hc i pins s G H E I hf st hg;subst hP hw hK;obtain⟨f0,f1,f2,f3,f4,f5⟩:=hf it (by simp);refine(W X.A (I.ok.hd hc)).item i s _ _ hg st λv h' tk hv st' kk=>?_;obtain⟨c,u,hc',rfl⟩:=hv;have I1:Inv X pins G H { s with heap:=h',toks:=tk }:=I.turned (λb o hb e=>kk b o (by simpa using hb) e) f0 f1 f3 f4 f5;obtain⟨o,e,cc,d⟩:=id st';exact⟨_,rfl,Zs (s:={ s with heap:=h',toks:=tk }) e cc d (by rcases hty with rfl|rfl<;>decide) ⟨.str (sgn c),H,I1,⟨u,rfl⟩,⟨rfl,c,hc',rfl⟩,st',λb hb=>(hf b hb).1⟩⟩
 done:=by
  intro X hP hw hK hc i pins s G H E I hf st hg;subst hP hw hK;obtain⟨f0,f1,f2,f3,f4,f5⟩:=hf it (by simp);rcases hty with rfl|rfl
  ·exact wpAny_pyNext_ascii_end (I.ok.hd hc) st (l5 hg) λh' eb=>⟨rfl,I.turned (t':=s.toks) (λb o hb e=>eb b o hb e) f0 f1 f3 f4 f5⟩
  ·exact wpAny_pyNext_wide_end (I.ok.hd hc) st (l5 hg) λh' eb=>⟨rfl,I.turned (t':=s.toks) (λb o hb e=>eb b o hb e) f0 f1 f3 f4 f5⟩
 self:=λA i s Q E st h=>hself A i s Q E st h
theorem mI {l:i8}{tl:TE}(hl:PE X l tl):PI X tg l (Ahz tl):=by
 intro pins s G H R I h;refine thE hl I h λv s1 x H1 I1 r1 q1=>?_;obtain⟨z,e,q⟩:=q1;subst e;obtain⟨t,rfl⟩:=r1;have fin:∀(o:Obj) (ty:String),(ty="str_ascii_iterator"\/ty="str_iterator")->(∀A':i9,A'.handled=none->Walks X.prog X.w A' s1.heap.objs.size [s1.heap.objs.size] [s1.heap.objs.size] z.cps.size (SignAt z) (λi h=>h.IsStrIter s1.heap.objs.size ty z t i)) ->
   (∀(A:i9) (i:Nat) (s:fv) (Q:Za0) (E:Za0),s.heap.IsStrIter s1.heap.objs.size ty z t i->Q (.ref s1.heap.objs.size) s->wpAny (model X.prog X.w) A (pyIter (.ref s1.heap.objs.size)) Q E s) ->
   (s1.heap.push o).IsStrIter s1.heap.objs.size ty z t 0->PIE X pins G tg R (.ref s1.heap.objs.size) { s1 with heap:=s1.heap.push o }:=λo ty hty W hs h0=>by
  refine⟨s1.heap.objs.size,[s1.heap.objs.size],_,_,H1,rfl,I1.kept (t':=s1.toks) λb o e=>en _ e,yX hty W hs,h0,λb hb=>?_,q⟩;have e:b=s1.heap.objs.size:=by simpa using hb
  subst e;exact I1.fpOk (d8 _) (I1.hok.fresh (d8 _))
 cases ha:z.cps.all (· < 128)
 ·exact wpAny_pyIter_wide ha (fin _ _ (.inr rfl) (λA' hA=>Walks.strWide hA _ z t) (λA i s Q E st h=>wpAny_pyIter_striter_wide st h) ⟨_,gq _ rfl,rfl,rfl⟩)
 ·exact wpAny_pyIter_ascii ha (fin _ _ (.inl rfl) (λA' hA=>Walks.strAscii hA _ z t) (λA i s Q E st h=>wpAny_pyIter_striter_ascii st h) ⟨_,gq _ rfl,rfl,rfl⟩)
end
theorem Aef {tl:TE}{G:St}{R:It->Hp->Prop}(h:tl G H λx H1=>∃z,x=.str z/\R (Its z) H1):Ahz tl G H R:=h
theorem Aep {tA:TA}{G:St}{R:It->Hp->Prop}(h:tA G H λvs H1=>∃i j k:Int,vs=[.int i,.int j,.int k]/\(-(2 ^ 40)<=i/\i<2 ^ 40/\-(2 ^ 40)<=j/\j<2 ^ 40/\0<k/\k<2 ^ 29)/\R (Aai i k (Cp i j k)) H1):Ac9 tA G H R:=h
theorem Aej {tc:TT}{Q:VK}(acc:Nat->List V)(h0:acc 0=[])(hz:∀i,i<z.cps.size->(acc i).length<sizeLine)
  (turn:∀(i:Nat) c H (R:Hp->Prop) (A:VK),z.cps[i]?=some c->Ag H1 H->(acc (i+1)=acc i->∀H',Ag H H'->R H')->(∀y H',acc (i+1)=acc i++[y]->Ag H H'->A y H') ->
   tc (some (.str (sgn c))::fr) H λb H3=>if b=true then te (some (.str (sgn c))::fr) H3 A else R H3)
  (fin:∀D H,H1 D=none->Ag H1 H->H D=some (.lst (acc z.cps.size))->Q (.ref D) H):Tf (Its z) H1 fr tc te Q:=by
 refine Om z.cps.size (λi=>.str (sgn (z.cps.getD i 0))) acc h0 hz (λi H hi _=>hi) (λi H x H' hi _ h=>⟨?_,h.1⟩) (λH _=>d8 _) (λi H R A hi sm=>turn i _ H R A (by simp[hi]) sm) fin;obtain⟨_,c,hc,rfl⟩:=h;simp[Array.getD,hi] at hc ⊢;rw[hc]
def Kw (z:Str)(lo hi:Option Int):Str:=⟨((z.cps.toList.drop (HT.sIx z.cps.size 0 lo)).take (HT.sIx z.cps.size z.cps.size hi-HT.sIx z.cps.size 0 lo)).toArray⟩
def Ah4:V->Option Int->Option Int->Hp->VK->Prop:=λx lo hi H Q=>∃z,x=.str z/\z.length<=sizeLine/\Q (.str (Kw z lo hi)) H
theorem Ah5 (lo hi:Option Int)(n:Nat):lh lo hi 1 n=(fb (HT.sIx n n hi-HT.sIx n 0 lo)).map (HT.sIx n 0 lo + ·):=by
 have e:lh lo hi 1 n=sliceRange ((HT.sIx n 0 lo:Nat):Int) ((HT.sIx n n hi:Nat):Int) 1:=by
  unfold lh;dsimp only;congr 1
  ·cases lo with
   |none=>simp[HT.sIx]
   |some i=>
    simp only[HT.sIx,show(1:Int)>0 by decide,if_true]
    by_cases h:i<0
    ·simp only[h,if_true]
     lia
    ·simp only[h,if_false]
     lia
  ·cases hi with
   |none=>simp[HT.sIx]
   |some i=>
    simp only[HT.sIx,show(1:Int)>0 by decide,if_true]
    by_cases h:i<0
    ·simp only[h,if_true]
     lia
    ·simp only[h,if_false]
     lia
 rw[e,IL]
theorem xY (z:Str)(t:Tok)(l u:Option (Int×Tok)):(sliceMade z t l u none=.val (.str z t)/\Kw z (l.map (·.1)) (u.map (·.1))=z)\/sliceMade z t l u none=.str (Kw z (l.map (·.1)) (u.map (·.1))):=by
 have hp:slicePicked z l u none=(fb (HT.sIx z.length z.length (u.map (·.1))-HT.sIx z.length 0 (l.map (·.1)))).map (HT.sIx z.length 0 (l.map (·.1)) + ·):=Ah5 _ _ _;have hc:(slicePicked z l u none).filterMap (z.cps[·]?)=(Kw z (l.map (·.1)) (u.map (·.1))).cps.toList:=by
  rw[hp,IN];rfl
 unfold sliceMade;split
 ·rename_i hw
  left
  refine⟨rfl,Hc ?_⟩;have hlen:(slicePicked z l u none).length=z.length:=by simpa using hw
  rw[hp,d7,fe] at hlen;have h1:=HT.sIx_le z.length 0 (gp _) (l.map (·.1));have h2:=HT.sIx_le z.length z.length (d8 _) (u.map (·.1));have e1:HT.sIx z.length 0 (l.map (·.1))=0\/z.length=0:=by lia
  show((z.cps.toList.drop (HT.sIx z.cps.size 0 (l.map (·.1)))).take _).toArray.toList=_;rw[show z.cps.size=z.length from rfl] at *;rcases e1 with e1|e1
  ·rw[e1,qb] at hlen
   rw[e1,hlen,qb,qy,ky];exact fw (by simp[vi])
  ·have:z.cps.toList=[]:=by
    have:z.cps.size=0:=e1
    simpa using this
   rw[this];simp
 ·right
  rw[hc]
section
variable {X:Cx}
theorem Lk:SlR X Ah4:=by
 intro pins s G H x v vl vu lo hi sl Q I rx hs pl pu h;obtain⟨z,rfl,hz,q⟩:=h;obtain⟨t,rfl⟩:=rx;refine⟨"str",_,y9.lookup,AV _ _ _,?_⟩;obtain⟨l,el,el'⟩:∃l:Option (Int×Tok),vl=partValue l/\lo=l.map (·.1):=by
  cases pl with
  |none=>exact⟨none,rfl,rfl⟩
  |int i t=>exact⟨some (i,t),rfl,rfl⟩
 obtain⟨u,eu,eu'⟩:∃u:Option (Int×Tok),vu=partValue u/\hi=u.map (·.1):=by
  cases pu with
  |none=>exact⟨none,rfl,rfl⟩
  |int i t=>exact⟨some (i,t),rfl,rfl⟩
 subst el el' eu eu';refine CK (l:=l) (u:=u) (st:=none) hs rfl ?_;rcases xY z t l u with⟨e,e2⟩|e
 ·rw[e]
  rw[e2] at q;exact⟨.str z,H,I,⟨t,rfl⟩,q⟩
 ·rw[e]
  refine⟨?_,.str _,H,I.tok _,⟨_,rfl⟩,q⟩;refine ir ?_ hz;show(wt _ (wu _ z.cps.toList)).toArray.size<=z.cps.size;rw[ge,fi,ic];simp;lia
def Xp (z:Str):Str:=⟨z.cps.toList.reverse.toArray⟩
def Ahj (te:TE):TE:=λG H Q=>te G H λx H1=>∃z,x=.str z/\z.length<=sizeLine/\Q (.str (Xp z)) H1
end
theorem wH:bootBuiltins "zip"=some (.type "zip"):=by decide +kernel
theorem Sn:bootBuiltins "enumerate"=some (.type "enumerate"):=by decide +kernel
theorem Inv.turnT {G:List (Option V)}{wr:List eg}{T:eg}(I:Inv X pins G H s)
  (k:∀b o,b∉wr->s.heap.get? b=some o->h'.get? b=some o)(hf:∀b∈wr,O2 X pins H b)(hT:s.heap.objs.size<=T)(hI:h'.IsTuple T us.toArray)(rv:Ay xs us)(hz:xs.length<=sizeLine) :
  Inv X pins G (upd H T (.tup xs)) { s with heap:=h',toks:=t' }:=by
 have hn:H T=none:=I.hok.fresh hT;have nT:∀b u,H b=some u->b≠T:=λb u e=>Aj e hn;have nW:∀b u,H b=some u->b∉wr:=λb u e z=>by rw[(hf b z).1] at e;cases e
 refine I.step (g':=s.gens) (d':=s.drawn) (ch:=wr) (λb hb=>?_) (λb o _ _ hc e _=>k b o hc e) (λb o _ _ hc e _=>⟨o.slots,k b o hc e⟩) (λb o hc e n=>?_)
  (λb o hc e=>⟨o,k b o hc e⟩) (λb xs e=>by rw[Al (nT _ _ e)];exact e) (λb o u e=>by rw[Al (nT _ _ e)];exact e) (λb ps e=>⟨#[],by rw[Al (nT _ _ e),e];simp⟩) (λm hm=>?_) (λb u e=>?_) I.bare
 ·obtain⟨_,f1,_,f3,f4,f5⟩:=hf b hb
  exact⟨f3,f1,f4,f5⟩
 ·rw[Al (gm (fk (fu e) hT))]
  exact n
 ·obtain⟨o,es,ep,ho,r⟩:=hm
  exact⟨o,es,ep,k _ o (λz=>(hf _ z).2.1 rfl) ho,r⟩
 ·by_cases hb:b=T
  ·subst hb
   rw[Af] at e;cases e;exact⟨hz,us,rv,hI⟩
  ·rw[Al hb] at e
   refine(I.hok b u e).stay (λc v hc q=>k c v ?_ q) (λc q=>by rw[Al (nT _ _ q)];exact q) λc ys q=>by rw[Al (nT _ _ q)];exact q
   rcases hc with z|z
   ·rw[z];exact nW b u e
   ·exact nW c _ z
theorem Inv.turnW {G:List (Option V)}{wr:List eg}(I:Inv X pins G H s)
  (k:∀b o,b∉wr->s.heap.get? b=some o->h'.get? b=some o)(hf:∀b∈wr,O2 X pins H b):Inv X pins G H { s with heap:=h',toks:=t' }:=by
 have nW:∀b u,H b=some u->b∉wr:=λb u e z=>by rw[(hf b z).1] at e;cases e
 refine I.step (g':=s.gens) (d':=s.drawn) (ch:=wr) (λb hb=>?_) (λb o _ _ hc e _=>k b o hc e) (λb o _ _ hc e _=>⟨o.slots,k b o hc e⟩) (λb o hc e n=>n)
  (λb o hc e=>⟨o,k b o hc e⟩) (λ_ _ e=>e) (λ_ _ _ e=>e) (λb ps e=>⟨#[],by rw[e];simp⟩) (λm hm=>?_) (λb u e=>?_) I.bare
 ·obtain⟨_,f1,_,f3,f4,f5⟩:=hf b hb
  exact⟨f3,f1,f4,f5⟩
 ·obtain⟨o,es,ep,ho,r⟩:=hm
  exact⟨o,es,ep,k _ o (λz=>(hf _ z).2.1 rfl) ho,r⟩
 ·refine(I.hok b u e).stay (λc v hc q=>k c v ?_ q) (λ_ q=>q) λ_ _ q=>q
  rcases hc with z|z
  ·rw[z];exact nW b u e
  ·exact nW c _ z
theorem G4 {a b:eg}{o u:Obj}(h1:h.get? a=some o)(h2:h.get? b=some u)(d:o.cls≠u.cls):a≠b:=λe=>by
 subst e;rw[h1] at h2;cases h2;exact d rfl
def Itz (K:d6)(a b:eg):It:=
 ⟨λi H=>∃xs ys x y,SqL K H a xs/\SqL K H b ys/\xs[i]?=some x/\ys[i]?=some y,
  λi H v H'=>∃t x y,H t=none/\v=.ref t/\(∀xs,SqL K H a xs->xs[i]?=some x)/\(∀ys,SqL K H b ys->ys[i]?=some y)/\H'=upd H t (.tup [x,y]),
  λi H=>∃xs ys,SqL K H a xs/\SqL K H b ys/\i=min xs.length ys.length⟩
def StZ (z TI TO i1 i2 l1 l2:eg)(i:Nat)(h:jj):Prop:=GB h z TI TO .none/\o6 h TI (.ref i1) (.ref i2)/\(∃a b,o6 h TO a b)/\h.IsListIter i1 l1 i/\h.IsListIter i2 l2 i
structure nH (z TI TO i1 i2:eg):Prop where
 TIz:TI≠z
 TOz:TO≠z
 i1z:i1≠z
 i2z:i2≠z
 TITO:TI≠TO
 TIi1:TI≠i1
 TIi2:TI≠i2
 TOi1:TO≠i1
 TOi2:TO≠i2
 i12:i1≠i2
theorem dX {z TI TO a b:eg}{i:Nat}{xs ys:Array fh}(D:nH z TI TO i1 i2)(st:StZ z TI TO i1 i2 a b i h)(ha:h.IsList a xs)(hb:h.IsList b ys):xp z TI TO i1 i2 a b:=by
 obtain⟨hz,hTI,⟨u,v,hTO⟩,⟨o1,e1,c1,_⟩,⟨o2,e2,c2,_⟩⟩:=st;obtain⟨oa,ea,ca,_⟩:=ha;obtain⟨ob,eb,cb,_⟩:=hb;refine⟨D.TIz,D.TOz,D.i1z,D.i2z,D.TITO,D.TIi1,D.TIi2,D.TOi1,D.TOi2,D.i12,G4 ea hz ?_,G4 ea hTO ?_,G4 ea e1 ?_,G4 ea e2 ?_,G4 eb hz ?_,G4 eb hTO ?_,G4 eb e1 ?_,G4 eb e2 ?_⟩
 ·rw[ca];exact show kh "list"≠kh "zip" by decide
 ·rw[ca];exact show kh "list"≠kh "tuple" by decide
 ·rw[ca,c1];decide
 ·rw[ca,c2];decide
 ·rw[cb];exact show kh "list"≠kh "zip" by decide
 ·rw[cb];exact show kh "list"≠kh "tuple" by decide
 ·rw[cb,c1];decide
 ·rw[cb,c2];decide
theorem Nv (n:Nat):nH (n+4) (n+2) (n+3) n (n+1):=by
 constructor<;>(intro h;have h:(_:Nat)=_:=h;lia)
theorem Af3 {c:Nat}(h:c=n+4\/c=n+2\/c=n+3\/c=n\/c=n+1):n<=c:=by lia
theorem Adh {c:Nat}(h:c=n+1\/c=n):n<=c:=by lia
theorem Ac2 (n:Nat):n+1≠n:=by lia
theorem uT {P:gl}{K:d6}{elts:List i8}{k:Nat}(z TI TO i1 i2 a b:eg)(D:nH z TI TO i1 i2) :
  Ph P w K (.Tuple elts k pos) (Itz K a b) [z,TI,TO,i1,i2] z (StZ z TI TO i1 i2 a b) where
 mem:=by simp
 obj:=λi h st c hc=>by
  obtain⟨hz,hTI,⟨u,v,hTO⟩,⟨o1,e1,c1,d1⟩,⟨o2,e2,c2,d2⟩⟩:=st;simp only[iu,lu,or_false] at hc;rcases hc with rfl|rfl|rfl|rfl|rfl
  ·exact⟨_,hz,λv z=>by cases z⟩
  ·exact⟨_,hTI,λv z=>by cases z⟩
  ·exact⟨_,hTO,λv z=>by cases z⟩
  ·exact⟨_,e1,λv z=>by rw[d1] at z;cases z⟩
  ·exact⟨_,e2,λv z=>by rw[d2] at z;cases z⟩
 keep:=λi h h' st kk=>by
  obtain⟨hz,hTI,⟨u,v,hTO⟩,h1,h2⟩:=st;exact⟨kk _ (by simp) _ hz,kk _ (by simp) _ hTI,⟨u,v,kk _ (by simp) _ hTO⟩,h1.at λo e=>kk _ (by simp) o e,h2.at λo e=>kk _ (by simp) o e⟩
 item:=by
  intro X hP hw hK hc i pins s G H E I hf st hg;subst hP hw hK;obtain⟨xs,ys,x,y,ha,hb,hx,hy⟩:=hg;obtain⟨its,rv,p,hz⟩:=I.list ha;obtain⟨its2,rv2,p2,hz2⟩:=I.list hb;have W:=FI (prog:=X.prog) (w:=X.w) (A:=X.A) (I.ok.hd hc) z TI TO i1 i2 a b (dX D st p.isList p2.isList) its.toArray its2.toArray;obtain⟨u1,hu1,ru1⟩:=rv.get hx;obtain⟨u2,hu2,ru2⟩:=rv2.get hy;have l1:=(fc.mp hu1).1;have l2:=(fc.mp hu2).1;obtain⟨s1,s2,s3,s4,s5⟩:=id st;refine W.item i s _ _ (by simp;lia) ⟨s1,s2,s3,s4,s5,p.isList,p2.isList⟩ λT vals h' tk hv hT hTu mid kk=>?_;obtain⟨v1,v2,e1,e2,rfl⟩:=hv;have e1:v1=u1:=by have:=e1;simp only[vy] at this;rw[hu1] at this;exact(ee this).symm
  have e2:v2=u2:=by have:=e2;simp only[vy] at this;rw[hu2] at this;exact(ee this).symm
  subst e1 e2;have nT:=W.apart i T h' mid;refine⟨.ref T,rfl,W.go elts k pos i T { s with heap:=h',toks:=tk } _ _ mid λh'' st'' kk2=>?_⟩;have hTu2:h''.IsTuple T ([v1,v2]:Za3).toArray:=by
   obtain⟨o,e,r⟩:=hTu;exact⟨o,kk2 T o nT e,r⟩
  have I2:Inv X pins G (upd H T (.tup [x,y])) { s with heap:=h'',toks:=tk }:=I.turnT (t':=tk) (λb o hb e=>kk2 b o hb (kk b o hb e)) (λb hb=>hf b (by simp at hb ⊢;rcases hb with rfl|rfl|rfl|rfl<;>simp)) hT hTu2 (.cons ru1 (.cons ru2 .nil)) (show 2<=sizeLine by decide)
  refine⟨.ref T,_,I2,rfl,⟨T,x,y,I.hok.fresh hT,rfl,λxs' h=>by rw[I.list_inj h ha];exact hx,λys' h=>by rw[I.list_inj h hb];exact hy,rfl⟩,⟨st''.1,st''.2.1,st''.2.2.1,st''.2.2.2.1,st''.2.2.2.2.1⟩,λc hc'=>?_⟩;have hlt:c<s.heap.objs.size:=by
   obtain⟨q,⟨t1,t2,t3⟩⟩:c∈[z,TI,TO,i1,i2]/\(GB s.heap z TI TO .none/\o6 s.heap TI (.ref i1) (.ref i2)/\True):=⟨hc',s1,s2,trivial⟩;obtain⟨u,v,s3⟩:=s3;obtain⟨o4,s4,_⟩:=s4;obtain⟨o5,s5,_⟩:=s5;simp only[iu,lu,or_false] at hc';rcases hc' with rfl|rfl|rfl|rfl|rfl
   ·exact fu s1
   ·exact fu s2
   ·exact fu s3
   ·exact fu s4
   ·exact fu s5
  rw[Al (gm (fk hlt hT))];exact(hf c hc').1
 done:=by
  intro X hP hw hK hc i pins s G H E I hf st hg;subst hP hw hK;obtain⟨xs,ys,ha,hb,hi⟩:=hg;obtain⟨its,rv,p,hz⟩:=I.list ha;obtain⟨its2,rv2,p2,hz2⟩:=I.list hb;have W:=FI (prog:=X.prog) (w:=X.w) (A:=X.A) (I.ok.hd hc) z TI TO i1 i2 a b (dX D st p.isList p2.isList) its.toArray its2.toArray;have hl:=rv.length;have hl2:=rv2.length;have hi2:i=min its.toArray.size its2.toArray.size:=by rw[hi,hl,hl2];simp
  obtain⟨s1,s2,s3,s4,s5⟩:=id st;refine W.done s _ _ (by rw[<-hi2];exact⟨s1,s2,s3,s4,s5,p.isList,p2.isList⟩) λh' tk kk=>⟨rfl,?_⟩;exact I.turnW (t':=tk) kk λb hb=>hf b (by simp at hb ⊢;rcases hb with rfl|rfl|rfl|rfl<;>simp)
 self:=λ_ _ _ _ _ st h=>vz st.1 h
section
variable {X:Cx} {elts:List i8} {k:Nat} {tpos:Pos}
def Ahf (K:d6)(ta:TA):TI:=λG H R=>ta G H λvs H1=>∃a b,vs=[.ref a,.ref b]/\(∃xs,SqL K H1 a xs)/\(∃ys,SqL K H1 b ys)/\R (Itz K a b) H1
theorem eN {a b:i8}{ta:TA}{p:Pos}(hg:Gl X "zip")(hm:X.mg "zip"=none)(ha:PA X [a,b] ta)(hs:autoParam (starEach [a,b] X.env=[(false,eval a X.env),(false,eval b X.env)]) QD)(hs2:autoParam (starEach [b] X.env=[(false,eval b X.env)]) QD) :
  PI X (.Tuple elts k tpos) (.Call (.Name "zip" p) [a,b] [] pos) (Ahf X.K ta):=by
 intro pins s G H R I h;refine Call_ (Do I hg hm wH (ik (thA ha I h λus s1 vs H1 I1 r1 q1=>?_) (by rw[hs,hs2]) (by rw[hs2];rfl)));obtain⟨a,b,e,⟨xs,hx⟩,⟨ys,hy⟩,q⟩:=q1;subst e;obtain⟨u,v,rfl,ru,rv⟩:=Nk r1;cases ru;cases rv;obtain⟨its,rv,p,hz⟩:=I1.list hx;obtain⟨its2,rv2,p2,hz2⟩:=I1.list hy;refine FG p.isList p2.isList λh' g1 g2 g3 g4 g5 hsz kk=>?_;refine vz (s:={ s1 with heap:=h' }) g1 ?_;refine⟨s1.heap.objs.size+4,[s1.heap.objs.size+4,s1.heap.objs.size+2,s1.heap.objs.size+3,s1.heap.objs.size,s1.heap.objs.size+1],_,_,H1,rfl,I1.kept (t':=s1.toks) kk,
  uT _ _ _ _ _ a b (Nv _),⟨g1,g2,⟨_,_,g3⟩,g4,g5⟩,λc hc=>?_,q⟩
 have hle:s1.heap.objs.size<=c:=by
  simp only[iu,lu,or_false] at hc;exact Af3 hc
 exact I1.fpOk hle (I1.hok.fresh hle)
end
def Ite (K:d6)(a:eg):It:=
 ⟨λi H=>∃xs x,SqL K H a xs/\xs[i]?=some x,
  λi H v H'=>∃t x,H t=none/\v=.ref t/\(∀xs,SqL K H a xs->xs[i]?=some x)/\H'=upd H t (.tup [.int i,x]),
  λi H=>∃xs,SqL K H a xs/\i=xs.length⟩
def StE (e it l:eg)(i:Nat)(h:jj):Prop:=(∃old,IsEnum h e it i old)/\h.IsListIter it l i
theorem uA {P:gl}{K:d6}{elts:List i8}{k:Nat}(e it a:eg)(D:e≠it) :
  Ph P w K (.Tuple elts k pos) (Ite K a) [e,it] e (StE e it a) where
 mem:=by simp
 obj:=λi h st c hc=>by
  obtain⟨⟨old,he⟩,⟨o1,e1,c1,d1⟩⟩:=st;simp only[iu,lu,or_false] at hc;rcases hc with rfl|rfl
  ·exact⟨_,he,λv z=>by cases z⟩
  ·exact⟨_,e1,λv z=>by rw[d1] at z;cases z⟩
 keep:=λi h h' st kk=>by
  obtain⟨⟨old,he⟩,h1⟩:=st;exact⟨⟨old,kk _ (by simp) _ he⟩,h1.at λo e=>kk _ (by simp) o e⟩
 item:=by
  intro X hP hw hK hc i pins s G H E I hf st hg;subst hP hw hK;obtain⟨xs,x,ha,hx⟩:=hg;obtain⟨its,rv,p,hz⟩:=I.list ha;obtain⟨⟨old,s1⟩,s2⟩:=id st;have n1:a≠e:=by obtain⟨oa,ea,ca,_⟩:=p.isList;exact G4 ea s1 (by rw[ca];exact show kh "list"≠kh "enumerate" by decide)
  have n2:a≠it:=by obtain⟨oa,ea,ca,_⟩:=p.isList;obtain⟨o1,e1,c1,_⟩:=s2;exact G4 ea e1 (by rw[ca,c1];decide)
  have W:=CL (prog:=X.prog) (w:=X.w) (A:=X.A) (I.ok.hd hc) e it a D n1 n2 its.toArray;obtain⟨u1,hu1,ru1⟩:=rv.get hx;have l1:=(fc.mp hu1).1;refine W.item i s _ _ (by simpa using l1) ⟨⟨old,s1⟩,s2,p.isList⟩ λT vals h' tk hv hT hTu mid kk=>?_;obtain⟨t,v1,e1,rfl⟩:=hv;have e1:v1=u1:=by have:=e1;simp only[vy] at this;rw[hu1] at this;exact(ee this).symm
  subst e1;have nT:=W.apart i T h' mid;refine⟨.ref T,rfl,W.go elts k pos i T { s with heap:=h',toks:=tk } _ _ mid λh'' st'' kk2=>?_⟩;have hTu2:h''.IsTuple T ([o7 (i:Int) t,v1]:Za3).toArray:=by
   obtain⟨o,e,r⟩:=hTu;exact⟨o,kk2 T o nT e,r⟩
  have I2:Inv X pins G (upd H T (.tup [.int i,x])) { s with heap:=h'',toks:=tk }:=I.turnT (t':=tk) (λb o hb e=>kk2 b o hb (kk b o hb e)) (λb hb=>hf b hb) hT hTu2 (.cons ⟨t,rfl⟩ (.cons ru1 .nil)) (show 2<=sizeLine by decide);refine⟨.ref T,_,I2,rfl,⟨T,x,I.hok.fresh hT,rfl,λxs' h=>by rw[I.list_inj h ha];exact hx,rfl⟩,⟨?_,st''.2.1⟩,λc hc'=>?_⟩
  ·exact st''.1
  have hlt:c<s.heap.objs.size:=by
   obtain⟨o5,s5,_⟩:=s2;simp only[iu,lu,or_false] at hc';rcases hc' with rfl|rfl
   ·exact fu s1
   ·exact fu s5
  rw[Al (gm (fk hlt hT))];exact(hf c hc').1
 done:=by
  intro X hP hw hK hc i pins s G H E I hf st hg;subst hP hw hK;obtain⟨xs,ha,hi⟩:=hg;obtain⟨its,rv,p,hz⟩:=I.list ha;obtain⟨⟨old,s1⟩,s2⟩:=id st;have n1:a≠e:=by obtain⟨oa,ea,ca,_⟩:=p.isList;exact G4 ea s1 (by rw[ca];exact show kh "list"≠kh "enumerate" by decide)
  have n2:a≠it:=by obtain⟨oa,ea,ca,_⟩:=p.isList;obtain⟨o1,e1,c1,_⟩:=s2;exact G4 ea e1 (by rw[ca,c1];decide)
  have W:=CL (prog:=X.prog) (w:=X.w) (A:=X.A) (I.ok.hd hc) e it a D n1 n2 its.toArray;have hl:=rv.length;have hi2:i=its.toArray.size:=by rw[hi,hl];simp
  refine W.done s _ _ (by rw[<-hi2];exact⟨⟨old,s1⟩,s2,p.isList⟩) λh' tk kk=>⟨rfl,?_⟩;exact I.turnW (t':=tk) kk λb hb=>hf b hb
 self:=λ_ _ _ _ _ st h=>uz (zk st.1) h
section
variable {X:Cx} {elts:List i8} {k:Nat} {tpos:Pos}
def Ac3 (K:d6)(ta:TA):TI:=λG H R=>ta G H λvs H1=>∃a,vs=[.ref a]/\(∃xs,SqL K H1 a xs)/\R (Ite K a) H1
theorem Me {a:i8}{ta:TA}{p:Pos}(hg:Gl X "enumerate")(hm:X.mg "enumerate"=none)(ha:PA X [a] ta)(hs:autoParam (starEach [a] X.env=[(false,eval a X.env)]) QD) :
  PI X (.Tuple elts k tpos) (.Call (.Name "enumerate" p) [a] [] pos) (Ac3 X.K ta):=by
 intro pins s G H R I h;refine Call_ (Do I hg hm Sn (ik (thA ha I h λus s1 vs H1 I1 r1 q1=>?_) hs rfl));obtain⟨a,e,⟨xs,hx⟩,q⟩:=q1;subst e;obtain⟨u,rfl,ru⟩:=Fh r1;cases ru;obtain⟨its,rv,p,hz⟩:=I1.list hx;refine call_enumerate_list p.isList λh' g1 g2 hsz kk=>?_;refine uz (s:={ s1 with heap:=h' }) g1 ?_;refine⟨s1.heap.objs.size+1,[s1.heap.objs.size+1,s1.heap.objs.size],_,_,H1,rfl,I1.kept (t':=s1.toks) kk,
  uA _ _ a (Ac2 _),⟨⟨_,g1⟩,g2⟩,λc hc=>?_,q⟩
 have hle:s1.heap.objs.size<=c:=by
  simp only[iu,lu,or_false] at hc;exact Adh hc
 exact I1.fpOk hle (I1.hok.fresh hle)
end
structure Er (QW:Za6) (QV sc:nh) (x1 x2:Str) (N:Za6) (ix:Za4):Prop where
 kind:sc.kind=.function
 nocell:∀y∈sc.names,y.2≠.cell
 names:∀y∈sc.names,y.2=.local->sc.names.lookup y.1=some .local
 free:∀y∈sc.names,y.2=.free->QV.names.lookup y.1=some .cell
 nd:N.Nodup
 hd:N[0]?=some x1
 hd2:N[1]?=some x2
 loc:sc.names.lookup x1=some .local
 loc2:sc.names.lookup x2=some .local
 len:N.length=ix.length+2
 at_:∀p∈N.tail.tail.zip ix,QW[p.2]?=some p.1/\sc.names.lookup p.1=some .free
def Ng (K:d6)(J:It)(H1:Hp)(fr:St)(tc:TT)(te:TE)(Q:VK):Prop:=∀D,H1 D=none->∃W:Nat->Nat->Hp->Prop,(∃m,W 0 m (upd H1 D (.lst [])))/\∀i m H,W i m H ->
 (J.stop i H/\Q (.ref D) H)\/(J.go i H/\∀v H',J.yld i H v H'->∃a x y,v=.ref a/\SqT K H' a [x,y]/\tc (some x::some y::fr) H' λb H3=>
  if b=true then te (some x::some y::fr) H3 λy H4=>∃ys,H4 D=some (.lst ys)/\ys.length<sizeLine/\∃m',m'<m/\W (i+1) m' (upd H4 D (.lst (ys++[y]))) else ∃m',m'<m/\W (i+1) m' H3)
def Afr (K:d6)(wi:TI)(ix:Za4)(tc:TT)(te:TE):TE:=λG H Q=>wi G H λJ H1=>Ng K J H1 (frV G ix) tc te Q
section
variable {X:Cx} {scope:nh} {N:Za6} {ix:Za4} {x1 x2:Str} {px px2 ppos:Pos} {kk:Nat} {elt iter:i8} {ifs:List i8} {tc:TT} {te:TE} {pos:Pos}
theorem Ae8 {G:St}{tn:Nat->jj->Prop}(L:Er X.N X.env.scope scope x1 x2 N ix)(I2:Inv X pins G H2 s2)
  (T:Ph X.prog X.w X.K tg J fp it tn)(st2:tn 0 s2.heap)(f2:∀b∈fp,O2 X pins H2 b){s3 s4:fv}{H3:Hp}(I3:Inv X pins G H3 s3)(I4:Inv X pins G H3 s4)(hle:s2.heap.objs.size<=s3.heap.objs.size)
  (hC:C=s3.heap.objs.size)(ho:s4.os=s3.os)(kp:∀b u,s3.heap.get? b=some u->s4.heap.get? b=some u){m:Za2}(hns:s4.heap.Ns C m):Inv (Dh X scope N C s3 H3 fp) [] (none::none::frV G ix) H3 s4:=by
 have hfree:∀y∈scope.names,y.2=.free->∃c,X.env.cells.lookup y.1=some c:=λy hy hf=>I2.ok.has y.1 (.inl (L.free y hy hf));have sub:∀y c,(Ea X.env scope.names []).lookup y=some c->X.env.cells.lookup y=some c:=λy c h=>Jq _ _ y c hfree (λ_ _ z=>by simp at z) h;have lt2:∀b∈fp,b<s2.heap.objs.size:=λb hb=>by obtain⟨o,e,_⟩:=T.obj _ _ st2 b hb;exact fu e
 have okY:(Dh X scope N C s3 H3 fp).Ok:=by
  refine⟨I2.ok.mod,L.kind,I2.ok.glob,I2.ok.blt,oh hC.symm,λy z c h1 h2=>I2.ok.inj y z c (sub y c h1) (sub z c h2),λy hy=>?_,λy c z _=>?_,I2.ok.hd,I2.ok.frames,.inl rfl,λb hb=>⟨?_,λy c h=>(f2 b hb).2.2.2.2.1 y c (sub y c h)⟩,
   I3.bs,ir I3.ok.bsz I3.sz,λb o e hb=>?_,λb hb z=>?_,I3.stack,I3.stkFree⟩
  ·have hk:(y,nv)∈scope.names:=by
    rcases hy with hy|hy
    ·rcases Km hy with q|q
     ·exact absurd rfl (L.nocell _ q)
     ·exact q.1
    ·rcases Km hy with q|q
     ·exact q
     ·exact absurd q.2 (by decide)
   exact jx.mp (Fo _ _ y hk)
  ·cases(show false=true from z)
  ·have l:=lt2 b hb
   show b≠C;rw[hC];exact gm (fk l hle)
  ·rcases(f2 b hb).2.2.2.1 with q|q
   ·exact I2.ok.noex b o e q
   ·exact absurd (fk (fu e) (ir I2.ok.bsz q)) (ln _)
  ·rcases iu.mp (I2.stkSub b z) with q|q
   ·exact(f2 b hb).2.1 q
   ·exact(f2 b hb).2.2.1 q
 refine⟨okY,ho,I4.bare,Un.kept kp,⟨m,hns,λi y v h1 h2 h3=>?_⟩,λy c e=>I4.cell y c (sub y c e),?_,λy c e=>I4.freeC y c (sub y c e),λp hp=>absurd (show p∈([]:Za1) from hp) (by simp),I4.hok,?_⟩
 ·cases i with
  |zero=>cases(show some none=some (some v) from h2)
  |succ k=>
   cases k with
   |zero=>cases(show some none=some (some v) from h2)
   |succ k=>
   have h2:(frV G ix)[k]?=some (some v):=h2;have h1:N[k+1+1]?=some y:=h1;unfold frV at h2;rw[d9] at h2
   cases hj:ix[k]? with
   |none=>rw[hj] at h2;cases h2
   |some j=>
    rw[hj] at h2;have h2:(G[j]?).getD none=some v:=ee h2;have h2':G[j]?=some (some v):=by
     cases e:G[j]? with
     |none=>rw[e] at h2;cases h2
     |some z=>rw[e] at h2;exact congrArg some h2
    have ht:N.tail.tail[k]?=some y:=by rw[tm,tm];exact h1
    have hz:(y,j)∈N.tail.tail.zip ix:=f8 (i:=k) (by rw[nw];exact⟨ht,hj⟩);obtain⟨q1,q2⟩:=L.at_ _ hz;have hm:=jz q2;have hcell:=L.free _ hm rfl;obtain⟨m',hn',hl'⟩:=I4.loc;obtain⟨u,r,lk⟩:=hl' j y v q1 h2' (.inr (.inl hcell));refine⟨u,r,.inr ⟨.inl (Pw I2.ok.kind hcell q2),?_⟩⟩;rcases lk with lk|⟨_,c,e,z⟩
    ·rw[show X.env.kindOf y=some .cell from hcell] at lk
     cases lk.1
    ·obtain⟨c',e'⟩:=jx.mp (Fo (env:=X.env) scope.names [] y hm)
     have e2:=sub y c' e';rw[e] at e2;cases e2;exact⟨c,e',z⟩
 ·show H3 C=none
  exact I3.hok.fresh (oh hC.symm)
 ·show(none::none::frV G ix).length=N.length
  rw[L.len];simp[frV]
theorem oZ {tgt:i8}(htg:tgt=.Tuple [.Name x1 px,.Name x2 px2] kk ppos){G:St}{tn:Nat->jj->Prop}(hc:X.calm=true)(L:Er X.N X.env.scope scope x1 x2 N ix)(I2:Inv X pins G H2 s2)
  (T:Ph X.prog X.w X.K tgt J fp it tn)(st2:tn 0 s2.heap)(f2:∀b∈fp,O2 X pins H2 b)
  (hif:∀C s H,PIf (Dh X scope N C s H fp) ifs tc)(he:∀C s H,PE (Dh X scope N C s H fp) elt te){Q:VK}(rd:Ng X.K J H2 (frV G ix) tc te Q){RR:fh->eg->wm->fv->Prop}{E:Za0}
  (fin:∀D C H' s' m,Inv X pins G H' s'->s2.heap.objs.size<=C->H' C=none->s'.heap.Ns C m->Q (.ref D) H'->RR (.ref D) C (.ok .next) s') :
  wpAny (model X.prog X.w) X.A (newList []) (λacc s3=>wpAny (model X.prog X.w) X.A (newFunctionEnv scope X.env.globals (Ea X.env scope.names []) [] X.env.qual none .none (some X.env)) (λcenv s4=>
   codeAny (model X.prog X.w) X.A (.compStart (.ListComp elt [⟨tgt,iter,ifs,0⟩] scope pos) 0 (.ref it) acc { cenv with scope:=relabel scope X.env }) (RR acc cenv.locals) s4) E s3) E s2:=by
 refine oj (sv L.nocell (by intro y hy;simp at hy) (λh1 hns hsb=>?_) L.kind);dsimp only at hns hsb ⊢;have I3:Inv X pins G (upd H2 s2.heap.objs.size (.lst [])) { s2 with heap:=s2.heap.push { cls:=.type "list",dict:=none,data:=.seq ([]:Za3).toArray } }:=I2.lnew (its:=[]) (t':=s2.toks) .nil (gp _);generalize hH3:s2.heap.push { cls:=.type "list",dict:=none,data:=.seq ([]:Za3).toArray }=h3 at hns hsb I3 ⊢;have hsz:h3.objs.size=s2.heap.objs.size+1:=by rw[<-hH3,pi]
 have kp34:∀b u,h3.get? b=some u->h1.get? b=some u:=λb u e=>hsb.extBut b u (gm (fu e)) (en _ e);have I4:Inv X pins G (upd H2 s2.heap.objs.size (.lst [])) { s2 with heap:=h1,toks:=s2.toks+([]:List (Str×fh)).length }:=I3.kept (t':=s2.toks+([]:List (Str×fh)).length) kp34;have kp24:∀b u,s2.heap.get? b=some u->h1.get? b=some u:=λb u e=>kp34 b u (by rw[<-hH3];exact en _ e);have IY:=Ae8 (C:=h3.objs.size) (s3:={ s2 with heap:=h3 }) L I2 T st2 f2 I3 I4 (by show s2.heap.objs.size<=h3.objs.size;lia) rfl rfl kp34 hns;have fD:H2 s2.heap.objs.size=none:=I2.hok.fresh (d8 _);have lt2:∀b∈fp,b<s2.heap.objs.size:=λb hb=>by obtain⟨o,e,_⟩:=T.obj _ _ st2 b hb;exact fu e
 have st4:tn 0 h1:=T.keep _ _ _ st2 λb _ o e=>kp24 b o e;have stat:∀{pn:Za1} {H':Hp},pn=[]->(∀b∈fp,H' b=none)->∀b∈fp,O2 (Dh X scope N h3.objs.size { s2 with heap:=h3 } (upd H2 s2.heap.objs.size (.lst [])) fp) pn H' b:=λhp hn b hb=>by
  subst hp;exact⟨hn b hb,(IY.ok.exf b hb).1,IY.ok.exfs b hb,.inl hb,(IY.ok.exf b hb).2,λp hp=>absurd (show p∈([]:Za1) from hp) (by simp)⟩
 obtain⟨W,⟨m0,w0⟩,turn⟩:=rd _ fD;have loop:codeAny (model X.prog X.w) X.A (.compLoop (.ListComp elt [⟨tgt,iter,ifs,0⟩] scope pos) 0 (.ref it) (.ref s2.heap.objs.size) (compEnvC scope (Ea X.env scope.names []) h3.objs.size X.env)) (RR (.ref s2.heap.objs.size) h3.objs.size)
   { s2 with heap:=h1,toks:=s2.toks+([]:List (Str×fh)).length }:=by
  refine qO (λn s'=>∃i H',Inv (Dh X scope N h3.objs.size { s2 with heap:=h3 } (upd H2 s2.heap.objs.size (.lst [])) fp) [] (none::none::frV G ix) H' s'/\tn i s'.heap/\(∀b∈fp,H' b=none)/\W i n H') ?_ m0
   ⟨0,_,IY,st4,λb hb=>by rw[Al (gm (lt2 b hb))];exact(f2 b hb).1,w0⟩
  rintro n s5 ⟨i,H5,I5,st5,fr5,w5⟩;rcases turn i n H5 w5 with⟨stop,q⟩|⟨go,step⟩
  ·refine thn (T.done (Dh X scope N h3.objs.size { s2 with heap:=h3 } (upd H2 s2.heap.objs.size (.lst [])) fp) rfl rfl rfl hc i [] s5 _ H5 (λ_ _=>False) I5 (stat rfl fr5) st5 stop) λr s6 ⟨hr,I6⟩=>?_
   subst hr;obtain⟨m6,hn6,_⟩:=I6.loc;have u1:Un (frs X.stack) fp H2 (upd H2 s2.heap.objs.size (.lst [])) s2.heap h3:=Un.laid (λb u e=>by rw[<-hH3];exact en _ e) (d8 _) fD;have back:Inv X pins G H5 s6:=I2.call' (ch:=fp) (I6.os.trans rfl) (u1.trans I6.base) I6.hok I6.bare λb hb=>⟨(f2 b hb).2.2.2.1,(f2 b hb).2.1,(f2 b hb).2.2.2.2.1,(f2 b hb).2.2.2.2.2⟩;exact fin _ _ H5 s6 m6 back (by lia) I6.free hn6 q
  ·refine thn (T.item (Dh X scope N h3.objs.size { s2 with heap:=h3 } (upd H2 s2.heap.objs.size (.lst [])) fp) rfl rfl rfl hc i [] s5 _ H5 (λ_ _=>False) I5 (stat rfl fr5) st5 go) λr s6 ⟨u,hr,h6⟩=>?_
   subst hr;refine thn h6 λ_ s7 ⟨y,H7,I7,r7,y7,st7,fr7⟩=>?_;have I7':=I7.pinned (stat rfl fr7) (T.obj _ _ st7);have hg:PG (Dh X scope N h3.objs.size { s2 with heap:=h3 } (upd H2 s2.heap.objs.size (.lst [])) fp) tgt (mZ X.K 2 (Ja (Eg 0) (Ja (Eg 1) lM))):=by
    rw[htg];exact J2 hc (B4 (Mr L.nd L.hd (.inl (ol L.loc)) (.inr (ol L.loc))) (B4 (Mr L.nd L.hd2 (.inl (ol L.loc2)) (.inr (ol L.loc2))) Hd))
   obtain⟨ta,y1,y2,ey,hTu,hst⟩:=step y _ y7;refine thn (hg _ s7 _ H7 y u (λQM H'=>QM=some y1::some y2::frV G ix/\H'=H7) I7' r7 ⟨ta,[y1,y2],ey,hTu,rfl,y1,[y2],rfl,y2,[],rfl,rfl,rfl,rfl⟩) λ_ s8 ⟨σ8,H8,I8,e8,e8'⟩=>?_;subst e8 e8';refine thn (hif _ _ _ _ s8 _ _ _ I8 hst) λok s9 ⟨H9,I9,q9⟩=>?_;have again:∀{sz:fv} {Hz:Hp} {m':Nat},Inv (Dh X scope N h3.objs.size { s2 with heap:=h3 } (upd H2 s2.heap.objs.size (.lst [])) fp) ([]++R8 fp s7.heap) (some y1::some y2::frV G ix) Hz sz->m'<n->W (i+1) m' Hz ->
     ∃m,m<n/\∃i H',Inv (Dh X scope N h3.objs.size { s2 with heap:=h3 } (upd H2 s2.heap.objs.size (.lst [])) fp) [] (none::none::frV G ix) H' sz/\tn i sz.heap/\(∀b∈fp,H' b=none)/\W i m H':=λ{sz Hz m'} Iz hm wz=>by
    refine⟨m',hm,i+1,Hz,Iz.unpinned.weak (by simp) (λj v e=>?_),T.keep _ _ _ st7 λb hb o e=>(Iz.pin (b,o) (gt _ (gt _ (Gi hb e)))).1,λb hb=>?_,wz⟩
    ·cases j with
     |zero=>cases e
     |succ j=>
      cases j with
      |zero=>cases e
      |succ j=>exact e
    ·obtain⟨o,e,d⟩:=T.obj _ _ st7 b hb
     exact(Iz.pin (b,o) (gt _ (gt _ (Gi hb e)))).2.1
   cases ok with
   |false=>
    obtain⟨m',hm,wz⟩:=q9;exact again I9 hm wz
   |true=>
    refine thn (he _ _ _ _ s9 _ _ _ I9 q9) λxv s10 ⟨z,H10,I10,r10,ys,hD,hl,m',hm,wz⟩=>?_;refine thn (Be _ s10 _ H10 (.ref s2.heap.objs.size) [z] (.ref s2.heap.objs.size) [xv] (λ_ Hz=>Hz=upd H10 s2.heap.objs.size (.lst (ys++[z]))) I10 rfl (.cons r10 .nil) ⟨_,ys,z,rfl,rfl,hD,hl,rfl⟩) λ_ s11 ⟨_,H11,I11,_,q11⟩=>?_;subst q11;exact again I11 hm wz
 exact DF loop (T.self X.A 0 _ _ _ st4 loop)
theorem mH (hc:X.calm=true)(L:Er X.N X.env.scope scope x1 x2 N ix)(hi:PI X (.Tuple [.Name x1 px,.Name x2 px2] kk ppos) iter wi)(hif:∀C s H fp,PIf (Dh X scope N C s H fp) ifs tc)(he:∀C s H fp,PE (Dh X scope N C s H fp) elt te)
  (hs:autoParam (∀z,foldedSetIterable iter X.env z=pure z) QJ):PE X (.ListComp elt [⟨.Tuple [.Name x1 px,.Name x2 px2] kk ppos,iter,ifs,0⟩] scope pos) (Afr X.K wi ix tc te):=by
 k_in;have hfree:∀y∈scope.names,y.2=.free->∃c,X.env.cells.lookup y.1=some c:=λy hy hf=>I.ok.has y.1 (.inl (L.free y hy hf));rw[JD];refine qr (use:=none) rfl hs (Ht hfree) L.kind L.names (thn (hi pins s G H _ I h) λv s1 h1=>thn h1 λitv s2 h2=>?_);obtain⟨it,fp,tn,J,H2,e,I2,T,st2,f2,rd⟩:=h2;subst e;refine oZ (RR:=λacc C=>compPost (model X.prog X.w) X.A X.xe none _ acc C) rfl hc L I2 T st2 f2 (λC s H=>hif C s H fp) (λC s H=>he C s H fp) rd λD C H' s' m I' hC hf hn q=>?_;refine⟨m,hn,λh' hsb=>⟨.ref D,H',?_,rfl,q⟩⟩;have l2:=I2.lt;refine I'.turned (t':=s'.toks) (it:=C) (λb o hb e=>hsb.extBut b o hb e) hf (jo (fk l2 hC)) (.inr (ir I2.sz hC)) (λy c e=>?_) λp hp=>?_
 ·obtain⟨v,hv⟩:=I2.cell y c e
  exact gm (fk hv.lt hC)
 ·exact gm (fk (fu (I2.pin p hp).1) hC)
theorem P4 {i:Nat}{y:Str}{py spos:Pos}(hc:X.calm=true)(L:Er X.N X.env.scope scope x1 x2 N ix)(hN:X.N.Nodup)(hy:X.N[i]?=some y)(hl:X.env.scope.names.lookup y=some .local)
  (hi:PI X (.Tuple [.Name x1 px,.Name x2 px2] kk ppos) iter wi)(hif:∀C s H fp,PIf (Dh X scope N C s H fp) ifs tc)(he:∀C s H fp,PE (Dh X scope N C s H fp) elt te)
  (hsw:autoParam (swapsWith (.ListComp elt [⟨.Tuple [.Name x1 px,.Name x2 px2] kk ppos,iter,ifs,0⟩] scope pos) (some (.Name y py)) spos.line X.env=pure true) QD)
  (hs:autoParam (∀z,foldedSetIterable iter X.env z=pure z) QJ):PS X (.Assign [.Name y py] (.ListComp elt [⟨.Tuple [.Name x1 px,.Name x2 px2] kk ppos,iter,ifs,0⟩] scope pos) spos) (tG (Afr X.K wi ix tc te) (Eg i)):=by
 k_end;have hfree:∀y∈scope.names,y.2=.free->∃c,X.env.cells.lookup y.1=some c:=λy hy hf=>I.ok.has y.1 (.inl (L.free y hy hf));rw[DR _ _ _ _ hsw];refine wpAny_bind (vd (wpAny_bind ?_));show wpAny _ X.A (do let _ <-comprehension (.ListComp elt [⟨.Tuple [.Name x1 px,.Name x2 px2] kk ppos,iter,ifs,0⟩] scope pos) scope X.env _ (newList []) false (eval iter X.env) (some (assign (.Name y py) X.env))) _ _ s;refine wpAny_bind (thn (Q:=λ_ s'=>SP X pins D .next s') (qr (use:=some (assign (.Name y py) X.env)) rfl hs (Ht hfree) L.kind L.names (thn (hi pins s G H _ I h) λv s1 h1=>thn h1 λitv s2 h2=>?_)) λ_ s' hq=>fq (fq hq));obtain⟨it,fp,tn,J,H2,e,I2,T,st2,f2,rd⟩:=h2;subst e;refine oZ (RR:=λacc C=>compPost (model X.prog X.w) X.A X.xe (some (assign (.Name y py) X.env)) _ acc C) rfl hc L I2 T st2 f2 (λC s H=>hif C s H fp) (λC s H=>he C s H fp) rd λDa C H' s' m I' hC hf hn q=>?_;have l2:=I2.lt;have nC:C≠X.env.locals:=jo (fk l2 hC);have nF:C∉X.fs:=I2.nofs hC;obtain⟨oC,es,ep,hget,hdat,hrest⟩:=id hn;have Ip:Inv X (pins++[(C,oC)]) G H' s':=I'.pins_of λp hp=>(il.mp hp).elim (λz=>I'.pin p (gt _ z)) λz=>by
  have e:p=(C,oC):=by simpa using z
  subst e;exact⟨hget,hf,nC,nF,λv z=>by rw[hdat] at z;cases z⟩
 have hg:PG X (.Name y py) (Eg i):=Mr hN hy (.inl hl) (.inr hl);show wpAny _ X.A (assign (.Name y py) X.env (.ref Da)) _ _ s';refine thn (hg _ s' G H' (.ref Da) (.ref Da) D.nx Ip rfl q) λ_ s'' ⟨XG,H'',I'',q''⟩=>?_;obtain⟨g1,g2,_⟩:=I''.pin (C,oC) (gt _ (gt _ (by simp)));refine⟨m,⟨oC,es,ep,g1,hdat,hrest⟩,λh' hsb=>⟨XG,H'',?_,q''⟩⟩;refine I''.unpinned.turned (t':=s''.toks) (it:=C) (λb o hb e=>hsb.extBut b o hb e) g2 nC (.inr (ir I2.sz hC)) (λy c e=>?_) λp hp=>?_
 ·obtain⟨v,hv⟩:=I2.cell y c e
  exact gm (fk hv.lt hC)
 ·exact gm (fk (fu (I2.pin p hp).1) hC)
end
theorem Afh {K:d6}{tA:TA}{G:St}{R:It->Hp->Prop}(h:tA G H λvs H1=>∃a b,vs=[.ref a,.ref b]/\(∃xs,SqL K H1 a xs)/\(∃ys,SqL K H1 b ys)/\R (Itz K a b) H1):Ahf K tA G H R:=h
theorem Ab7 {K:d6}{tA:TA}{G:St}{R:It->Hp->Prop}(h:tA G H λvs H1=>∃a,vs=[.ref a]/\(∃xs,SqL K H1 a xs)/\R (Ite K a) H1):Ac3 K tA G H R:=h
theorem Af4 {K:d6}{G:St}{Q:VK}{tc:TT}(h:wi G H λJ H1=>Ng K J H1 (frV G ix) tc te Q):Afr K wi ix tc te G H Q:=h
theorem Tt {K:d6}{G:St}{R:St->Hp->Prop}{a:eg}{x:V}{i j:Nat}(hs:SqT K H a [x,y])(h:R ((G.set i (some x)).set j (some y)) H):mZ K 2 (Ja (Eg i) (Ja (Eg j) lM)) (.ref a) G H R:=
 ⟨a,[x,y],rfl,hs,rfl,x,[y],rfl,y,[],rfl,rfl,h⟩
theorem xG {K:d6}{tc:TT}{Q:VK}(n:Nat)(f1 f2:Nat->V)(acc:Nat->List V)(h0:acc 0=[])(hz:∀i,i<n->(acc i).length<sizeLine)
  (hgo:∀i H,i<n->Ag H1 H->J.go i H)(hy:∀i H v H',i<n->Ag H1 H->J.yld i H v H'->∃a,v=.ref a/\SqT K H' a [f1 i,f2 i]/\Ag H H')(hst:∀H,Ag H1 H->J.stop n H)
  (turn:∀i H (R:Hp->Prop) (A:VK),i<n->Ag H1 H->(acc (i+1)=acc i->∀H',Ag H H'->R H')->(∀y H',acc (i+1)=acc i++[y]->Ag H H'->A y H') ->
   tc (some (f1 i)::some (f2 i)::fr) H λb H3=>if b=true then te (some (f1 i)::some (f2 i)::fr) H3 A else R H3)
  (fin:∀D H,H1 D=none->Ag H1 H->H D=some (.lst (acc n))->Q (.ref D) H):Ng K J H1 fr tc te Q:=by
 intro D hD;refine⟨λi m H=>i<=n/\m=n-i/\Ag H1 H/\H D=some (.lst (acc i)),⟨n,gp _,rfl,An hD,by rw[Af,h0]⟩,?_⟩;rintro i m H ⟨hi,rfl,sm,hl⟩
 by_cases h:i=n
 ·subst h
  exact .inl ⟨hst H sm,fin D H hD sm hl⟩
 ·have hlt:i<n:=ko hi h
  refine .inr ⟨hgo i H hlt sm,λv H' hyl=>?_⟩;obtain⟨a,rfl,ht,s2⟩:=hy i H v H' hlt sm hyl;refine⟨a,_,_,rfl,ht,turn i H' _ _ hlt (sm.trans s2) (λea H3 s3=>?_) (λy H4 ea s4=>?_)⟩
  ·exact⟨n-(i+1),by lia,by lia,rfl,(sm.trans s2).trans s3,by rw[ea];exact s3 _ _ (s2 _ _ hl)⟩
  ·refine⟨acc i,s4 _ _ (s2 _ _ hl),hz i hlt,n-(i+1),by lia,by lia,rfl,λb u e=>?_,by rw[Af,ea]⟩
   rw[Al (Aj e hD)];exact s4 _ _ (s2 _ _ (sm _ _ e))
theorem Aes {K:d6}{a b:eg}{ys:List V}{tc:TT}{Q:VK}(ha:SqL K H1 a xs)(hb:SqL K H1 b ys)(acc:Nat->List V)(h0:acc 0=[])(hz:∀i,i<min xs.length ys.length->(acc i).length<sizeLine)
  (turn:∀(i:Nat) x y H (R:Hp->Prop) (A:VK),xs[i]?=some x->ys[i]?=some y->Ag H1 H->(acc (i+1)=acc i->∀H',Ag H H'->R H')->(∀y H',acc (i+1)=acc i++[y]->Ag H H'->A y H') ->
   tc (some x::some y::fr) H λb H3=>if b=true then te (some x::some y::fr) H3 A else R H3)
  (fin:∀D H,H1 D=none->Ag H1 H->H D=some (.lst (acc (min xs.length ys.length)))->Q (.ref D) H):Ng K (Itz K a b) H1 fr tc te Q:=by
 refine xG (min xs.length ys.length) (λi=>xs.getD i .non) (λi=>ys.getD i .non) acc h0 hz (λi H hi sm=>⟨xs,ys,xs[i]'(by lia),ys[i]'(by lia),sm.seq ha,sm.seq hb,by simp,by simp⟩) (λi H v H' hi sm h=>?_)
  (λH sm=>⟨xs,ys,sm.seq ha,sm.seq hb,rfl⟩) (λi H R A hi sm=>turn i _ _ H R A (by simp[show i<xs.length by lia]) (by simp[show i<ys.length by lia]) sm) fin
 obtain⟨t,x,y,hn,rfl,h1,h2,rfl⟩:=h;have e1:=h1 xs (sm.seq ha);have e2:=h2 ys (sm.seq hb);refine⟨t,rfl,?_,An hn⟩;simp only[ju,e1,e2,rg];exact SqT.of Af
theorem Lm {K:d6}{a:eg}{i1 i2:Nat}{tb:TS}{G:St}(Pv:Nat->St->Hp->Prop)(h0:Pv 0 G H)(hl:∀i G H,i<=xs.length->Pv i G H->SqL K H a xs)
  (step:∀i x G H t,xs[i]?=some x->Pv i G H->H t=none->tb { D with nx:=Pv (i+1),ct:=Pv (i+1),bk:=D.nx } ((G.set i1 (some (.int i))).set i2 (some x)) (upd H t (.tup [.int i,x])))
  (fin:∀G H,Pv xs.length G H->D.nx G H):sD (Ite K a) (mZ K 2 (Ja (Eg i1) (Ja (Eg i2) lM))) tb D G H:=by
 refine⟨λi m G H=>i<=xs.length/\m=xs.length-i/\Pv i G H,⟨_,gp _,rfl,h0⟩,?_⟩;rintro i m G H ⟨hi,rfl,hp⟩
 by_cases h:i=xs.length
 ·exact .inl ⟨⟨xs,hl i G H hi hp,h⟩,fin G H (h▸hp)⟩
 ·have hlt:i<xs.length:=ko hi h
  refine .inr ⟨⟨xs,xs[i],hl i G H hi hp,by simp⟩,Pv (i+1),λQM H' q=>⟨xs.length-(i+1),by lia,hlt,rfl,q⟩,λv H' hy=>?_⟩;obtain⟨t,x,hn,rfl,hx,rfl⟩:=hy;exact Tt (SqT.of Af) (step i x G H t (hx xs (hl i G H hi hp)) hp hn)
def Abk (z:Str):It:=
 ⟨λi _=>i<z.cps.size,λi H v H'=>∃t c,H t=none/\v=.ref t/\z.cps[i]?=some c/\H'=upd H t (.tup [.int i,.str (sgn c)]),λi _=>i=z.cps.size⟩
theorem lR {P:gl}{K:d6}{elts:List i8}{k:Nat}{e:eg}{ty:String}{t:Tok}(hne:e≠it)
  (D:∀A':i9,A'.handled=none->Draws P w A' it [it] z.cps.size (λi v=>∃c u,z.cps[i]?=some c/\v=.str ⟨#[c]⟩ u) (λi h=>h.IsStrIter it ty z t i)) :
  Ph P w K (.Tuple elts k pos) (Abk z) [e,it] e (λi h=>(∃old,IsEnum h e it i old)/\h.IsStrIter it ty z t i) where
 mem:=by simp
 obj:=λi h st c hc=>by
  obtain⟨⟨old,he⟩,⟨o1,e1,c1,d1⟩⟩:=st;simp only[iu,lu,or_false] at hc;rcases hc with rfl|rfl
  ·exact⟨_,he,λv z=>by cases z⟩
  ·exact⟨_,e1,λv z=>by rw[d1] at z;cases z⟩
 keep:=λi h h' st kk=>by
  obtain⟨⟨old,he⟩,⟨o,ho,r⟩⟩:=st;exact⟨⟨old,kk _ (by simp) _ he⟩,⟨o,kk _ (by simp) o ho,r⟩⟩
 item:=by
  intro X hP hw hK hc i pins s G H E I hf st hg;subst hP hw hK;have W:=BY (D X.A.in1 (I.ok.hd hc)) e hne (by simpa using hne) (by simp);refine W.item i s _ _ hg st λT vals h' tk hv hT hTu mid kk=>?_;obtain⟨t1,x,⟨c,u,hc',rfl⟩,rfl⟩:=hv;have nT:=W.apart i T h' mid;refine⟨.ref T,rfl,W.go elts k pos i T { s with heap:=h',toks:=tk } _ _ mid λh'' st'' kk2=>?_⟩;have hTu2:h''.IsTuple T ([o7 (i:Int) t1,qk ⟨#[c]⟩ u]:Za3).toArray:=by
   obtain⟨o,e,r⟩:=hTu;exact⟨o,kk2 T o nT e,r⟩
  have I2:Inv X pins G (upd H T (.tup [.int i,.str (sgn c)])) { s with heap:=h'',toks:=tk }:=I.turnT (t':=tk) (λb o hb e=>kk2 b o hb (kk b o hb e)) (λb hb=>hf b hb) hT hTu2 (.cons ⟨t1,rfl⟩ (.cons ⟨u,rfl⟩ .nil)) (show 2<=sizeLine by decide);refine⟨.ref T,_,I2,rfl,⟨T,c,I.hok.fresh hT,rfl,hc',rfl⟩,st'',λb hb=>?_⟩;have hlt:b<s.heap.objs.size:=by
   obtain⟨⟨old,s1⟩,⟨o5,s5,_⟩⟩:=id st;simp only[iu,lu,or_false] at hb;rcases hb with rfl|rfl
   ·exact fu s1
   ·exact fu s5
  rw[Al (gm (fk hlt hT))];exact(hf b hb).1
 done:=by
  intro X hP hw hK hc i pins s G H E I hf st hg;subst hP hw hK;have W:=BY (D X.A.in1 (I.ok.hd hc)) e hne (by simpa using hne) (by simp);have hi:i=z.cps.size:=hg;refine W.done s _ _ (by rw[<-hi];exact st) λh' tk kk=>⟨rfl,?_⟩;exact I.turnW (t':=tk) kk λb hb=>hf b hb
 self:=λ_ _ _ _ _ st h=>uz (zk st.1) h
section
variable {X:Cx} {elts:List i8} {k:Nat} {tpos:Pos}
def zM (ta:TA):TI:=λG H R=>ta G H λvs H1=>∃z,vs=[.str z]/\R (Abk z) H1
theorem yV {a:i8}{ta:TA}{p:Pos}(hg:Gl X "enumerate")(hm:X.mg "enumerate"=none)(ha:PA X [a] ta)(hs:autoParam (starEach [a] X.env=[(false,eval a X.env)]) QD) :
  PI X (.Tuple elts k tpos) (.Call (.Name "enumerate" p) [a] [] pos) (zM ta):=by
 intro pins s G H R I h;refine Call_ (Do I hg hm Sn (ik (thA ha I h λus s1 vs H1 I1 r1 q1=>?_) hs rfl));obtain⟨z,e,q⟩:=q1;subst e;obtain⟨u,rfl,⟨t,rfl⟩⟩:=Fh r1;refine call_enumerate_str λh' g1 g2 hsz kk=>?_;refine uz (s:={ s1 with heap:=h' }) g1 ?_;have fin:∀ty:String,h'.IsStrIter s1.heap.objs.size ty z t 0->(∀A':i9,A'.handled=none->Draws X.prog X.w A' s1.heap.objs.size [s1.heap.objs.size] z.cps.size (λi v=>∃c u,z.cps[i]?=some c/\v=.str ⟨#[c]⟩ u) (λi h=>h.IsStrIter s1.heap.objs.size ty z t i)) ->
   PIE X pins G (.Tuple elts k tpos) R (.ref (s1.heap.objs.size+1)) { s1 with heap:=h' }:=λty g2 D=>by
  refine⟨s1.heap.objs.size+1,[s1.heap.objs.size+1,s1.heap.objs.size],_,_,H1,rfl,I1.kept (t':=s1.toks) kk,lR (Ac2 _) D,⟨⟨_,g1⟩,g2⟩,λc hc=>?_,q⟩;have hle:s1.heap.objs.size<=c:=by
   simp only[iu,lu,or_false] at hc;exact Adh hc
  exact I1.fpOk hle (I1.hok.fresh hle)
 by_cases ha:z.cps.all (· < 128)=true
 ·have e:strIterType z="str_ascii_iterator":=by unfold strIterType;rw[if_pos ha]
  exact fin _ (e▸g2) λA' hA=>Draws.strAscii hA _ z t
 ·have e:strIterType z="str_iterator":=by unfold strIterType;rw[if_neg ha]
  exact fin _ (e▸g2) λA' hA=>Draws.strWide hA _ z t
end
theorem zB {tA:TA}{G:St}{R:It->Hp->Prop}(h:tA G H λvs H1=>∃z,vs=[.str z]/\R (Abk z) H1):zM tA G H R:=h
theorem sP {K:d6}{i1 i2:Nat}{tb:TS}{G:St}(Pv:Nat->St->Hp->Prop)(h0:Pv 0 G H)
  (step:∀i c G H t,z.cps[i]?=some c->Pv i G H->H t=none->tb { D with nx:=Pv (i+1),ct:=Pv (i+1),bk:=D.nx } ((G.set i1 (some (.int i))).set i2 (some (.str (sgn c)))) (upd H t (.tup [.int i,.str (sgn c)])))
  (fin:∀G H,Pv z.cps.size G H->D.nx G H):sD (Abk z) (mZ K 2 (Ja (Eg i1) (Ja (Eg i2) lM))) tb D G H:=by
 refine⟨λi m G H=>i<=z.cps.size/\m=z.cps.size-i/\Pv i G H,⟨_,gp _,rfl,h0⟩,?_⟩;rintro i m G H ⟨hi,rfl,hp⟩
 by_cases h:i=z.cps.size
 ·exact .inl ⟨h,fin G H (h▸hp)⟩
 ·have hlt:i<z.cps.size:=ko hi h
  refine .inr ⟨hlt,Pv (i+1),λQM H' q=>⟨z.cps.size-(i+1),by lia,hlt,rfl,q⟩,λv H' hy=>?_⟩;obtain⟨t,c,hn,rfl,hx,rfl⟩:=hy;exact Tt (SqT.of Af) (step i c G H t hx hp hn)
structure Mth (P:gl) (w:iq) (K:d6) (mg:Za2) (base:jj) (C:eg) (m:Str) (k:Nat) (ps:Za6) (sp:Sp):Prop where
 ex:∃(f:eg) (fd:jq),Ar P w K mg base CX0 k f fd ps sp/\Fm K fd ps []/\Ab1 K C m f
 cl:Cls K C
structure Mkr (P:gl) (w:iq) (K:d6) (mg:Za2) (base:jj) (name:Str) (C:eg) (k:Nat) (ps:Za6) (sp:Sp):Prop where
 ex:∃(f:eg) (fd:jq),Ar P w K mg base CX0 k f fd ps sp/\Fm K fd ps []/\Mk K C f/\mg name=some (.ref C)
section
variable {X:Cx} {k:Nat} {C:eg} {ps:Za6} {sp:Sp} {name m:Str} {p pos apos:Pos} {e o:i8} {es:List i8} {ta:TE} {t:TA} {pl:Sem Bool}
theorem Uu (M:Mkr X.prog X.w X.K X.mg X.base name C k ps sp)(hr:Co (k+1) X.A)(ha:PA X (e::es) t)(hg:autoParam (Gl X name) QD)(hdb:autoParam ((name==("__debug__":Str))=false) QF)
  (he:autoParam (starEach (e::es) X.env=(false,eval e X.env)::starEach es X.env) QD)(hpl:autoParam ((backTo pos (starEach es X.env)).any (·.1)=false) QD):PE X (.Call (.Name name p) (e::es) [] pos) (pF C sp [] E0 t):=by
 obtain⟨f,fd,F,b,M,hm⟩:=M.ex;exact pR M F hr hg hm b .nil kW ha hdb he hpl
theorem Aq (M:Mth X.prog X.w X.K X.mg X.base C m k ps sp)(hr:Co k X.A)(ho:PE X o ta)(ha:PA X (e::es) t)
  (hst:autoParam (starEach (e::es) X.env=(false,eval e X.env)::starEach es X.env) QD)(hpl:autoParam ((backTo pos (starEach es X.env)).any (·.1)=false) QD)
  (ht:autoParam (eval (.Call (.Attribute o m apos) (e::es) [] pos) X.env=(do
   let ov <-eval o X.env
   standAt apos.atName
   let (f,first) <-holding [ov] (getMethod ov m pl)
   callWith pos f first (backTo pos (starEach (e::es) X.env)) (backToKw pos (keywordEach [] X.env)))) QD) :
  PE X (.Call (.Attribute o m apos) (e::es) [] pos) (jC C m sp [] E0 ta t):=by
 obtain⟨f,fd,F,b,hm⟩:=M.ex;exact Aa7 ho M.cl hm F hr b .nil kW ha hst hpl ht
theorem Kl (M:Mth X.prog X.w X.K X.mg X.base C m k ps sp)(hr:Co k X.A)(ho:PE X o ta)
  (ht:autoParam (eval (.Call (.Attribute o m apos) [] [] pos) X.env=(do
   let ov <-eval o X.env
   standAt apos.atName
   let (f,first) <-holding [ov] (getMethod ov m pl)
   callWith pos f first (backTo pos (starEach [] X.env)) (backToKw pos (keywordEach [] X.env)))) QD) :
  PE X (.Call (.Attribute o m apos) [] [] pos) (jC C m sp [] E0 ta nU):=by
 obtain⟨f,fd,F,b,hm⟩:=M.ex;exact wV ho M.cl hm F hr b .nil kW ht
end
section
variable {G:St} {H:Hp} {D:Ie} {Q:VK} {te ta tv:TE} {tA:TA} {K:d6}
theorem Ahr {f:Str}(h:te G H λx H1=>∃a C dx fs v,x=.ref a/\H1 a=some (.ins C dx fs)/\Cls K C/\Bg K C f/\fs.lookup f=some v/\Q v H1):Aaq K te f G H Q:=h
theorem Aab {a:eg}{fs:List (Str×V)}{f:Str}{v:V}(h:H a=some (.ins C dx fs))(c:Cls K C)(n:Bg K C f)(l:fs.lookup f=some v)(q:Q v H) :
  ∃a' C' dx' fs' v',V.ref a=.ref a'/\H a'=some (.ins C' dx' fs')/\Cls K C'/\Bg K C' f/\fs'.lookup f=some v'/\Q v' H:=⟨a,C,dx,fs,v,rfl,h,c,n,l,q⟩
theorem Ae9 {f:Str}(h:tv G H λy H1=>ta G H1 λx H2=>∃a C dx fs,x=.ref a/\H2 a=some (.ins C dx fs)/\Cls K C/\Bg K C f/\fs.length<1000/\D.nx G (upd H2 a (.ins C dx (F9 f y fs)))):Ae2 K ta tv f D G H:=h
theorem Dr {a:eg}{fs:List (Str×V)}{f:Str}{R:Hp->Prop}(h:H a=some (.ins C dx fs))(c:Cls K C)(n:Bg K C f)(l:fs.length<1000)(q:R (upd H a (.ins C dx (F9 f y fs)))) :
  ∃a' C' dx' fs',V.ref a=.ref a'/\H a'=some (.ins C' dx' fs')/\Cls K C'/\Bg K C' f/\fs'.length<1000/\R (upd H a' (.ins C' dx' (F9 f y fs'))):=⟨a,C,dx,fs,rfl,h,c,n,l,q⟩
theorem Aek {E:XK}(h:tA G H λvs H1=>∀x dx,H1 x=none->H1 dx=none->dx≠x->sp (.ref x::(vs++[])) (upd (upd H1 dx (.own x)) x (.ins C dx [])) (λv H2=>v=.non/\Q (.ref x) H2) E):pF C sp [] E tA G H Q:=h
theorem Aew {m:Str}{E:XK}(h:ta G H λx H1=>∃a dx fs,x=.ref a/\H1 a=some (.ins C dx fs)/\fs.lookup m=none/\tA G H1 λvs H2=>sp (x::(vs++[])) H2 Q E):jC C m sp [] E ta tA G H Q:=h
end
section
variable {X:Cx}
def Rh (z:Str)(c:Nat):Nat:=z.cps.toList.count c
theorem Y4 (c:Nat):∀l:Za4,HZ c l=(l.count c:Nat)
 |[]=>rfl
 |n::r=>by
  rw[HY,Y4 c r,n4]
  by_cases h:n=c
  ·subst h;simp;lia
  ·simp[h]
def Afb:V->List V->Hp->VK->Prop:=λx vs H Q=>∃z c,x=.str z/\vs=[.str (sgn c)]/\Q (.int (Rh z c:Nat)) H
theorem Vf:MtM X "str.count" Afb:=by
 intro pins s G H x vs v us Q I rx rv h;obtain⟨z,c,rfl,rfl,q⟩:=h;obtain⟨t,rfl⟩:=rx;obtain⟨u,rfl,ru⟩:=rv.one;obtain⟨t',rfl⟩:=ru;have e:Txt.count z (sgn c)=(Rh z c:Nat):=(HX z c).trans (Y4 c _);refine SC.count ?_;rw[e];exact⟨.int (Rh z c:Nat),H,I.tok _,⟨_,rfl⟩,q⟩
def Ag8 (K:d6):List V->Hp->VK->Prop:=λxs H Q=>∃(p:eg) (ns:List Int),xs=[.ref p]/\SqL K H p (ns.map V.int)/\Q (.int ns.sum) H
theorem wX (hc:X.calm=true):Ev X (.builtin "sum") (Ag8 X.K):=by
 intro pins s G H xs us Q I r h;obtain⟨p,ns,rfl,hp,q⟩:=h;obtain⟨u,rfl,ru⟩:=Fh r;cases ru;obtain⟨its,r,pl,_⟩:=I.list hp;have hi:=T5 r;obtain⟨ys,e⟩:=hi.allInts.items;have hl:=pl.isList;have hs:(numsOf its).sum=ns.sum:=by rw[hi.numsOf]
 rw[e] at hl;refine sum_intListG (I.ok.hd hc) hl λh' tk t' hk=>?_;refine⟨.int ns.sum,H,I.kept hk,⟨t',?_⟩,q⟩;rw[preSum_eq,fw (by simp),<-hs];have e2:=JB ys;rw[<-e] at e2;rw[show its=its.toArray.toList from rfl,e2]
end
namespace IB
open PySem.NumText PySem.Calls
def bits (cs:Za4):Prop:=∀c∈cs,c=48\/c=49
def v2 (cs:Za4):Nat:=cs.foldl (λa c=>a*2+(c-48)) 0
theorem gR {c:Nat}(ds:Array Nat)(b:Bool)(h:c=48\/c=49):step 2 (ds,b) c=some (ds.push (c-48),true):=by rcases h with rfl|rfl<;>rfl
theorem Ur:∀(cs:Za4) (ds:Array Nat),bits cs->cs.foldlM (step 2) (ds,true)=some (cs.foldl (λacc c=>acc.push (c-48)) ds,true)
 |[],ds,_=>rfl
 |c::cs,ds,h=>by
  rw[EB,gR ds true (h c gu)];exact Ur cs _ λd hd=>h d (gv _ hd)
theorem kF (h:bits cs)(hne:cs≠[]):digits? 2 cs=some (cs.foldl (λacc c=>acc.push (c-48)) #[]):=by
 cases cs with
 |nil=>exact absurd rfl hne
 |cons c cs=>
  unfold digits?;rw[EB,gR #[] false (h c gu)];show((cs.foldlM (step 2) (#[].push (c-48),true)).bind _)=_;rw[Ur cs _ λd hd=>h d (gv _ hd)];rfl
theorem Vv:∀(cs:Za4) (ds:Array Nat),(cs.foldl (λacc c=>acc.push (c-48)) ds).foldl (λacc d=>acc*2+d) 0=cs.foldl (λacc c=>acc*2+(c-48)) (ds.foldl (λacc d=>acc*2+d) 0)
 |[],ds=>rfl
 |c::cs,ds=>by
  rw[qi,Vv cs,qi,Array.foldl_push]
theorem Yl (h:bits cs):cs.dropWhile blank=cs:=by
 cases cs with
 |nil=>rfl
 |cons c cs=>
  rw[List.dropWhile_cons,if_neg];rcases h c gu with rfl|rfl<;>decide
theorem sQ (h:bits cs):sign cs=(false,cs):=by
 cases cs with
 |nil=>rfl
 |cons c cs=>rcases h c gu with rfl|rfl<;>rfl
theorem lP (h:bits cs):based 2 cs=(2,false,cs):=by
 have hp:prefix? cs=none:=by
  match cs,h with
  |[],_=>rfl
  |[c],h=>rcases h c gu with rfl|rfl<;>rfl
  |c::d::r,h=>
   rcases h c gu with rfl|rfl
   ·rcases h d (gv _ gu) with rfl|rfl<;>rfl
   ·rfl
 unfold based;rw[hp];rfl
theorem uL (h:bits cs)(hne:cs≠[]):(int_private% "readNumeral") 0 2 cs=(int_private% "Numeral.value") (v2 cs:Nat):=by
 refine(readNumeral_eq 0 2 cs).trans ?_;have hr:bits cs.reverse:=λc hc=>h c (qa.mp hc);rw[Yl h,sQ h];dsimp only;rw[lP h];dsimp only;rw[Yl hr,r6,kF h hne];have e:(cs.foldl (λacc c=>acc.push (c-48)) #[]).foldl (λacc d=>acc*2+d) 0=v2 cs:=Vv cs #[];unfold judge;dsimp only;rw[e];rfl
theorem Aby {E:Za0}{Q:Za0}{v:fh}{text:Za4}{n:Int}
    (hs : (text.takeWhile (· != 0)).length <= 640)(hr : (int_private% "readNumeral") 0 2 (text.takeWhile (· != 0)) = (int_private% "Numeral.value") n)
    (ha : ((text.takeWhile (· != 0)).length == text.length) = true)(h : Q (.int n s.toks) { s with toks := s.toks + 1 }) :
    wpAny M A ((int_private% "intFromText") v text 2) Q E s := by
  obtain ⟨hp, g, d, tk, os⟩ := s
  repeat (any_goals (first
    | assumption
    | (with_reducible refine xo (decide_eq_true hs) ?_)
    | (with_reducible refine xo (decide_eq_true ha) ?_)
    | wp_step))
  all_goals (try rw [hr])
  all_goals (try dsimp only)
  repeat (any_goals (first
    | assumption
    | (with_reducible refine xo (decide_eq_true hs) ?_)
    | (with_reducible refine xo (decide_eq_true ha) ?_)
    | wp_step))
theorem typeCall_int_2 (a b:fh):checkTypeCall "int" ⟨[a,b],[]⟩=pure ():=by kernel_rfl
theorem newCall_int_2 (a b:fh):checkBuiltinCall "int.__new__" ⟨[.type "int",a,b],[]⟩=pure ():=by kernel_rfl
structure Hid (p:Prop):Prop where
 out:p
theorem Z4 {x:Str}(h:bits x.cps.toList):(if x.cps.all (· < 128) then x.cps.toList else Unicode.numberText x.cps.toList)=x.cps.toList:=by
 rw[if_pos];rw[Array.all_eq_true'];intro c hc;have:=h c (by simpa using hc);rcases this with rfl|rfl<;>decide
theorem Jg (h:bits cs):cs.takeWhile (· != 0)=cs:=takeWhile_all λc hc=>by rcases h c hc with rfl|rfl<;>decide
set_option maxHeartbeats 4000000 in
theorem gives_bits {x:Str}{u v:Tok}(hl:x.length<=640)(hb:bits x.cps.toList)(hne:x.cps.toList≠[]):Gives (qj.«int.__new__» ⟨[.type "int",.str x u,.int 2 v],[]⟩) (.int (v2 x.cps.toList:Nat)) :=
  .of_wp λM A E s Q h => by
    obtain ⟨hp, g, d, tk, os⟩ := s;have f1 := F.conv_sub_int;have f2 := F.madeHere_int;have f6 : typeOf (.str x u) = pure (.type "str") := rfl;have hs : ((x.cps.toList).takeWhile (· != 0)).length <= 640 := by rw [Jg hb]; simpa [vi] using hl
    have hr := uL hb hne;rw [<- Jg hb] at hr;rw [Jg hb] at hr;have hr : (int_private% "readNumeral") 0 2 ((x.cps.toList).takeWhile (· != 0)) = (int_private% "Numeral.value") (v2 x.cps.toList : Nat) := by rw [Jg hb]; exact hr
    have ha : (((x.cps.toList).takeWhile (· != 0)).length == (x.cps.toList).length) = true := by rw [Jg hb]; simp
    have ht := Z4 hb;have hk := Hid.mk (EO hs (EO hr (EO ha ht)));clear hs hr hl ha ht hne
    repeat (any_goals (first
      | assumption
      | ((with_reducible show wpAny _ _ ((int_private% "intFromText") _ _ _) _ _ _); rw [hk.out.2.2.2]; refine Aby hk.out.1 hk.out.2.1 hk.out.2.2.1 ?_)
      | wp_step))
    all_goals first | exact ⟨_, rfl, h⟩ | skip
end IB
section
variable {X:Cx}
def Aga:List V->Hp->VK->Prop:=λxs H Q=>∃z,xs=[.str z,.int 2]/\z.length<=640/\IB.bits z.cps.toList/\z.cps.toList≠[]/\Q (.int (IB.v2 z.cps.toList:Nat)) H
theorem X6:Ev X (.type "int") Aga:=by
 intro pins s G H xs us Q I r h;obtain⟨z,rfl,hl,hb,hne,q⟩:=h;obtain⟨u,w',rfl,ru,rw'⟩:=Nk r;obtain⟨t,rfl⟩:=ru;obtain⟨t',rfl⟩:=rw';exact callType_new F.called_int F.newNe_int (IB.typeCall_int_2 _ _) (IB.newCall_int_2 _ _) (λobj=>F.args_object_init_3 obj _ _) F.entry_int_new (IB.gives_bits hl hb hne).meets (show(Made.int _).post _ s from⟨rfl,.int (IB.v2 z.cps.toList:Nat),H,I.tok _,⟨_,rfl⟩,q⟩)
end
theorem mV (n:Nat):lh none none (-1) n=(fb n).map λk=>n-1-k:=by
 unfold lh;dsimp only;rw[if_neg (by decide),if_neg (by decide)];unfold sliceRange;dsimp only;rw[if_neg (by decide)];have e:(if((n:Int)-1 > -1) then((n:Int)-1 - -1 - -1-1)/(- -1) else 0).toNat=n:=by
  split
  ·simp
  ·lia
 rw[e];refine jc λk hk=>?_;have:=jm.mp hk;lia
theorem Zc (l:Za4):∀n,n<=l.length->((fb n).map λk=>n-1-k).filterMap (l[·]?)=(l.take n).reverse
 |0,_=>by simp
 |n+1,h=>by
  have hl:n<l.length:=h;rw[my,im,jf,k5];have e:((λk=>n+1-1-k) ∘ zt)=λk=>n-1-k:=by
   funext k
   show n+1-1-(k+1)=n-1-k;lia
  rw[e,show n+1-1-0=n by lia,d4 hl];dsimp only;rw[Zc l n (by lia),i4,d4 hl,BM,qc];rfl
section
variable {X:Cx} {e:i8} {te:TE} {p1 p2 p3 pos:Pos} {j:Nat}
theorem Ky (z:Str):(Xp z).length=z.length:=by
 show z.cps.toList.reverse.toArray.size=z.cps.size;simp
theorem Abd {x1}(he:PE X e te):PE X (.Subscript e (.Slice none none (some (.UnaryOp .USub (.Constant (.int 1) x1 p1) p2)) p3) pos) (Ahj te):=by
 k_in;refine Subscript_ (thE he I h λv s1 x H1 I1 r1 q1=>?_);obtain⟨z,rfl,hz,q⟩:=q1;obtain⟨t,rfl⟩:=r1;refine zw ?_;rw[vf];refine fq (fq ?_);rw[evalPart_some];have hm:PE X (.UnaryOp .USub (.Constant (.int 1) x1 p1) p2) (tUn (rU λi=>.int (-i)) (tC (.int 1))):=Fr C9 Ae;refine thn (hm pins s1 G H1 (λy H2=>y=.int (-1)/\H2=H1) I1 ⟨1,rfl,rfl,rfl⟩) λw s2 ⟨y,H2,I2,r2,e2,e3⟩=>?_;subst e2 e3;obtain⟨t2,rfl⟩:=r2;have I4:Inv X pins G H2 { s2 with heap:=s2.heap.push { cls:=.type "slice",data:=.fields #[.none,.none,.int (-1) t2] } }:=I2.kept (t':=s2.toks) λb ob q=>en _ q;have hs:(s2.heap.push { cls:=.type "slice",data:=.fields #[.none,.none,.int (-1) t2] }).IsSlice s2.heap.objs.size none none (some (-1,t2)):=⟨_,gq _ rfl,rfl,rfl⟩;refine y4 (ops:=[.ref s2.heap.objs.size,.str z t]) (AV _ _ _) y9.lookup ?_ (by with_unfolding_all rfl);refine CK hs rfl ?_;have em:sliceMade z t none none (some (-1,t2))=.str (Xp z):=by
  unfold sliceMade;rw[if_neg (by simp)];show Made.str ⟨((lh none none (-1) z.length).filterMap (z.cps[·]?)).toArray⟩=_;rw[mV];have:=Zc z.cps.toList z.cps.toList.length (d8 _);have e1:z.cps.toList.length=z.length:=by simp[vi]
  rw[e1] at this;have e2:(λi:Nat=>z.cps[i]?)=λi:Nat=>z.cps.toList[i]?:=by funext i;simp
  rw[e2,this,fw (by simp[vi])];rfl
 rw[em];refine⟨?_,.str (Xp z),H2,I4.tok _,⟨_,rfl⟩,q⟩;show(Xp z).length<=_;rw[Ky];exact hz
end
theorem Agl {G:St}{Q:VK}(h:te G H λx H1=>∃z,x=.str z/\z.length<=sizeLine/\Q (.str (Xp z)) H1):Ahj te G H Q:=h
theorem Fn (ns:List Int):(ns.map V.int).all Gs=true:=by simp[mj,Gs]
theorem Af8 {k:Nat}(hr:Co k A):A.units+60<cLine:=by have:=hr.units;lia
def eqL (xs ys:List V):Bool:=decide (xs.length=ys.length)&&(fb xs.length).all λj=>eqV (xs.getD j .non) (ys.getD j .non)
def Aau (K:d6)(n:Bool):R2:=λx y H Q=>∃a b xs ys,x=.ref a/\y=.ref b/\SqL K H a xs/\SqL K H b ys/\xs.all Gs=true/\ys.all Gs=true/\Q (.bl (n != eqL xs ys)) H
section
variable {X:Cx} {pins:Za1} {G:St} {H:Hp} {s:fv}
theorem Yv {ys:List V}(f1:xs.all Gs=true)(f2:ys.all Gs=true)(r1:Ay xs us)(r2:Ay ys vs)(j:Nat)(h1:j<us.length)(h2:j<vs.length) :
  BZ A s us[j] vs[j] (eqV (xs.getD j .non) (ys.getD j .non)):=by
 have l1:=r1.length;have l2:=r2.length;have e1:xs[j]?=some (xs[j]'(by lia)):=d4 _;have e2:ys[j]?=some (ys[j]'(by lia)):=d4 _;obtain⟨u,eu,ru⟩:=r1.get e1;obtain⟨v,ev,rv⟩:=r2.get e2;rw[d4 h1] at eu;rw[d4 h2] at ev;cases eu;cases ev;simp only[ju,e1,e2,rg];exact wR ru rv (mj.mp f1 _ (f8 e1)) (mj.mp f2 _ (f8 e2))
end
section
variable {X:Cx}
theorem Adw (hu:X.A.units+60<cLine):OpR X (compareOp .Eq) (Aau X.K false):=by
 intro pins s G H x y v u Q I rx ry h;obtain⟨a,b,xs,ys,rfl,rfl,h1,h2,f1,f2,q⟩:=h;cases rx;cases ry;obtain⟨is,r1,p1,_⟩:=I.list h1;obtain⟨js,r2,p2,_⟩:=I.list h2;have l1:=r1.length;have l2:=r2.length
 by_cases hl:xs.length=ys.length
 ·have:=JG (A:=X.A) (e:=λj=>eqV (xs.getD j .non) (ys.getD j .non)) p1.isList p2.isList (by simp;lia) (by lia) λj a1 a2=>Yv (s:=s) f1 f2 r1 r2 j (by simpa using a1) (by simpa using a2)
  refine this _ _ _ _ ⟨.bl (false != eqL xs ys),H,I,?_,q⟩;unfold eqL;rw[decide_eq_true hl];simp[Bc,<-l1]
 ·have:=JF (A:=X.A) p1.isList p2.isList (by simp;lia) (by lia)
  refine this _ _ _ _ ⟨.bl (false != eqL xs ys),H,I,?_,q⟩;unfold eqL;rw[decide_eq_false hl];simp[Bc]
theorem Adx (hu:X.A.units+60<cLine):OpR X (compareOp .NotEq) (Aau X.K true):=by
 intro pins s G H x y v u Q I rx ry h;obtain⟨a,b,xs,ys,rfl,rfl,h1,h2,f1,f2,q⟩:=h;cases rx;cases ry;obtain⟨is,r1,p1,_⟩:=I.list h1;obtain⟨js,r2,p2,_⟩:=I.list h2;have l1:=r1.length;have l2:=r2.length
 by_cases hl:xs.length=ys.length
 ·have:=HB (A:=X.A) (e:=λj=>eqV (xs.getD j .non) (ys.getD j .non)) p1.isList p2.isList (by simp;lia) (by lia) λj a1 a2=>Yv (s:=s) f1 f2 r1 r2 j (by simpa using a1) (by simpa using a2)
  refine this _ _ _ _ ⟨.bl (true != eqL xs ys),H,I,?_,q⟩;unfold eqL;rw[decide_eq_true hl];simp[Bc,<-l1]
 ·have:=HA (A:=X.A) p1.isList p2.isList (by simp;lia) (by lia)
  refine this _ _ _ _ ⟨.bl (true != eqL xs ys),H,I,?_,q⟩;unfold eqL;rw[decide_eq_false hl];simp[Bc]
end
theorem jK (ns ms:List Int):eqL (ns.map V.int) (ms.map V.int)=decide (ns=ms):=by
 unfold eqL;rw[d7,d7]
 by_cases hl:ns.length=ms.length
 ·rw[decide_eq_true hl,z8]
  by_cases h:ns=ms
  ·subst h
   rw[decide_eq_true rfl,mj];intro j hj;have hj:j<ns.length:=jm.mp hj;simp[ju,hj,eqV]
  ·rw[decide_eq_false h]
   refine DM.mpr λhc=>h (EC hl λj h1 h2=>?_);have:=mj.mp hc j (jm.mpr h1);simp[ju,h1,h2,eqV] at this;exact this
 ·rw[decide_eq_false hl,wk,decide_eq_false]
  intro e;exact hl (by rw[e])
theorem Ahp {K:d6}{Q:VK}{a b:eg}{ms:List Int}(h1:SqL K H a (ns.map V.int))(h2:SqL K H b (ms.map V.int))(q:Q (.bl (decide (ns=ms))) H):Aau K false (.ref a) (.ref b) H Q:=by
 refine⟨a,b,_,_,rfl,rfl,h1,h2,Fn _,Fn _,?_⟩;rw[jK];cases hd:decide (ns=ms)<;>(rw[hd] at q;exact q)
theorem Agb {K:d6}{Q:VK}{a b:eg}{ms:List Int}(h1:SqL K H a (ns.map V.int))(h2:SqL K H b (ms.map V.int))(q:Q (.bl (!decide (ns=ms))) H):Aau K true (.ref a) (.ref b) H Q:=by
 refine⟨a,b,_,_,rfl,rfl,h1,h2,Fn _,Fn _,?_⟩;rw[jK];cases hd:decide (ns=ms)<;>(rw[hd] at q;exact q)
section
variable {X:Cx} {tg:i8}
def Aen:V->List V->Hp->VK->Prop:=λx vs H Q=>∃(l:eg) (ns:List Int) (k:Int) (j:Nat),x=.ref l/\vs=[.int k]/\H l=some (.lst (ns.map V.int))/\ns[j]?=some k/\(∀i:Nat,i<j->ns[i]?≠some k)/\Q (.int (j:Nat)) H
theorem iM:MtM X "list.index" Aen:=by
 intro pins s G H x vs v us Q I rx rv h;obtain⟨l,ns,k,j,rfl,rfl,hH,hj,hno,q⟩:=h;cases rx;obtain⟨u,rfl,t,rfl⟩:=Fh rv;obtain⟨z,its,n,r,hl,e⟩:=I.lstM hH;have fl:=Fn ns;have hjl:=(fc.mp hj).1;have hln:ns.length=its.length:=by rw[<-hl,d7]
 have at':∀i (hi:i<its.length),eqU (.int k) its[i]=decide (ns[i]?=some k):=λi hi=>by
  have e1:(ns.map V.int)[i]?=some (.int (ns[i]'(by lia))):=by rw[d9,d4 (by lia)];rfl
  obtain⟨u,eu,ru⟩:=r.get e1;rw[d4 hi] at eu;cases eu;rw[dU ru rfl,d4 (by lia)];show(ns[i]==k)=decide (some ns[i]=some k)
  by_cases h:ns[i]=k
  ·rw[decide_eq_true (congrArg some h)]
   simpa using h
  ·rw[decide_eq_false λz=>h (ee z)]
   simpa using h
 have sl:=Lx;refine sq F.slot_list_index ⟨_,e,rfl⟩ F.entry_list_index (F.args_list_index_2 _ _)
  (SeqAt.list_indexAt l its.toArray n none #[] (.int k t) (eqU (.int k)) j (by simp;lia) (by rw[d7] at z;lia) ?_ ?_) ⟨e,λy hy=>Kz (x:=.int k) (v:=.int k t) ⟨t,rfl⟩ rfl r fl y (by simpa using hy),?_⟩
 ·show eqU (.int k) its[j]=true
  rw[at' j (by lia),decide_eq_true hj]
 ·intro i hi hlt
  show eqU (.int k) its[i]=false;rw[at' i (by simpa using hi),decide_eq_false (hno i hlt)]
 ·exact⟨.int j,H,I.tok _,⟨_,rfl⟩,q⟩
end
section
variable {prog:gl} {w:iq} {A:i9} {E:Za0} {s:fv}
theorem M3 {t sl:eg}{vl vu:fh}{lo hi:Option Int}{Q:Za0}(ht:IsTup s.heap t items)(hs:s.heap.IsSliceOf sl vl vu .none)(pl:xr vl lo)(pu:xr vu hi)
  (h1:HT.sIx items.size 0 lo=0)(h2:HT.sIx items.size items.size hi=items.size)(h:Q (.ref t) s):wpAny (model prog w) A (getItem (.ref t) (.ref sl)) Q E s:=by
 obtain⟨os,hos,hcs,hds⟩:=id hs;have hTs:s.TypeIs (.ref sl) "slice":=⟨os,hos,hcs⟩;unfold getItem
 try with_reducible refine wpAny_holding ?_
 first|refine wpAny_bind (fq ?_)|skip
 refine wpAny_bind (FQ ht.typeIs (by decide) ?_);refine wpAny_bind (rf (name:=oy "__getitem__") ht.typeIs j8
  (sk j8 ht.typeIs entry_tuple_getitem ?_ (FH _ _)))
 show wpAny _ _ (xh (.ref t) >>= _) _ _ s;refine wpAny_bind (IZ ht ?_);refine wpAny_bind (qh hTs ?_);rw[if_pos (by decide)];refine wpAny_bind (HT.sliceApplied_gen hs pl pu ?_);show wpAny _ _ (if(((HT.sIx items.size 0 lo:Nat):Int)==0&&(1:Int)==1&&(HT.sIx items.size items.size hi-HT.sIx items.size 0 lo)==items.size)=true then _ else _) _ _ s;rw[if_pos (by rw[h1,h2];simp)];refine wpAny_bind (wpAny_bind (qh ht.typeIs (fq ?_)));rw[if_pos (by decide)];refine wpAny_bind (um ?_);exact wpAny_bind (fq (fq ⟨_,rfl,fq h⟩))
end
section
variable {X:Cx}
def Agk (K:d6):V->Option Int->Option Int->Hp->VK->Prop:=λx lo hi H Q=>∃a xs,x=.ref a/\SqT K H a xs/\∀p H',Ag H H'->SqT K H' p (G8 xs lo hi)->Q (.ref p) H'
theorem fY:SlR X (Agk X.K):=by
 intro pins s G H x v vl vu lo hi sl Q I rx hs pl pu h;obtain⟨a,xs,rfl,hx,q⟩:=h
 by_cases hw:HT.sIx xs.length 0 lo=0/\HT.sIx xs.length xs.length hi=xs.length
 ·cases rx
  obtain⟨its,r,ht,hz⟩:=I.tuple hx;have hlen:its.toArray.size=xs.length:=by rw[ge];exact r.length.symm
  refine⟨"tuple",_,j8.lookup,ht.typeIs,?_⟩;refine M3 ht hs pl pu (by rw[hlen];exact hw.1) (by rw[hlen];exact hw.2) ⟨.ref a,H,I,rfl,q a H (Ag.refl _) ?_⟩;have:G8 xs lo hi=xs:=by
   unfold G8;rw[hw.1,hw.2];simp
  rw[this];exact hx
 ·exact Aed pins s G H _ v vl vu lo hi sl Q I rx hs pl pu ⟨a,xs,rfl,hx,hw,λp hp=>q p _ (An hp) (SqT.of Af)⟩
theorem A5 {x:Str}{i:Int}(hg:Gl X x)(hm:∃t,X.mg x=some (.int i t))(hd:autoParam ((x==("__debug__":Str))=false) QF):PE X (.Name x pos) (tC (.int i)):=by
 obtain⟨t,h⟩:=hm;exact Oc hg h ⟨t,rfl⟩ hd
end
section
variable {G:St} {H:Hp} {D:Ie} {Q:VK} {te:TE} {QB:Bool->Hp->Prop} {tA:TA}
theorem Agr {K:d6}{T:String}{r:V->List V->Hp->VK->Prop}(h:te G H λx H1=>tyV K T x H1/\r x [] H1 Q):Agq K T r te G H Q:=h
theorem Um {lo hi:Option Int}(h1:z.length<=sizeLine)(h:Q (.str (Kw z lo hi)) H):Ah4 (.str z) lo hi H Q:=⟨z,rfl,h1,h⟩
end
theorem Ahn {A B:Prop}(h:B):if(!true)=true then A else B:=by
 rw[if_neg (by decide)];exact h
theorem Ahm {A B:Prop}(h:A):if(!false)=true then A else B:=by
 rw[if_pos (by decide)];exact h
def SameBut (x:eg)(H H':Hp):Prop:=∀b o,b≠x->H b=some o->H' b=some o
theorem Ag.but {x:eg}(h:Ag H H'):SameBut x H H':=λb o _ e=>h b o e
theorem SameBut.trans {x:eg}(a:SameBut x H H1)(b:SameBut x H1 H2):SameBut x H H2:=λc o n h=>b c o n (a c o n h)
def Aaf (H:Hp)(x:eg):Prop:=∀u,¬ Rd H x (.tup u)/\¬ Rd H x (.lst u)
theorem Fl {x:eg}{fs:List (Str×V)}(h:H x=some (.ins C dx fs)):Aaf H x:=λu=>by
 constructor<;>(rintro(e|⟨o,e⟩)<;>(rw[h] at e;cases e))
theorem A8 {x:eg}{o:HO}:SameBut x H (upd H x o):=λb u n e=>by rw[Al n];exact e
theorem xN {tc:TT}{Q:VK}(n:Nat)(item:Nat->V)(Pv:Nat->List V->Hp->Prop)(h0:∀H,Ag H1 H->Pv 0 [] H)
  (stab:∀i ys H D xs o,H D=some (.lst xs)->Pv i ys H->Pv i ys (upd H D o))(hz:∀i ys H,i<n->Pv i ys H->ys.length<sizeLine)
  (hgo:∀i H,i<n->Ag H1 H->J.go i H)(hy:∀i H x H',i<n->Ag H1 H->J.yld i H x H'->x=item i/\H'=H)(hst:∀H,Ag H1 H->J.stop n H)
  (turn:∀i ys H (A:VK) (R:Hp->Prop),i<n->Ag H1 H->Pv i ys H->(∀y H',Ag H H'->Pv (i+1) (ys++[y]) H'->A y H')->tc (some (item i)::fr) H λb H3=>if b=true then te (some (item i)::fr) H3 A else R H3)
  (fin:∀D ys H,H1 D=none->Ag H1 H->Pv n ys H->H D=some (.lst ys)->Q (.ref D) H):Tf J H1 fr tc te Q:=by
 intro D hD;refine⟨λi m H=>i<=n/\m=n-i/\Ag H1 H/\∃ys,H D=some (.lst ys)/\Pv i ys H,⟨n,gp _,rfl,An hD,[],Af,h0 _ (An hD)⟩,?_⟩;rintro i m H ⟨hi,rfl,sm,ys,hl,hp⟩
 by_cases h:i=n
 ·subst h
  exact .inl ⟨hst H sm,fin D ys H hD sm hp hl⟩
 ·have hlt:i<n:=ko hi h
  refine .inr ⟨hgo i H hlt sm,λx H' hyl=>?_⟩;obtain⟨rfl,rfl⟩:=hy i H x H' hlt sm hyl;refine turn i ys H' _ _ hlt sm hp (λy H4 s4 hp4=>?_);refine⟨ys,s4 _ _ hl,hz i ys _ hlt hp,n-(i+1),by lia,by lia,rfl,λb u e=>?_,ys++[y],Af,stab _ _ _ _ _ _ (s4 _ _ hl) hp4⟩;rw[Al (Aj e hD)];exact s4 _ _ (sm _ _ e)
theorem sF {lo st:Int}{tc:TT}{Q:VK}(Pv:Nat->List V->Hp->Prop)(h0:∀H,Ag H1 H->Pv 0 [] H)
  (stab:∀i ys H D xs o,H D=some (.lst xs)->Pv i ys H->Pv i ys (upd H D o))(hz:∀i ys H,i<n->Pv i ys H->ys.length<sizeLine)
  (turn:∀(i:Nat) ys H (A:VK) (R:Hp->Prop),i<n->Ag H1 H->Pv i ys H->(∀y H',Ag H H'->Pv (i+1) (ys++[y]) H'->A y H')->tc (some (.int (lo+i*st))::fr) H λb H3=>if b=true then te (some (.int (lo+i*st))::fr) H3 A else R H3)
  (fin:∀D ys H,H1 D=none->Ag H1 H->Pv n ys H->H D=some (.lst ys)->Q (.ref D) H):Tf (Aai lo st n) H1 fr tc te Q:=
 xN n (λi=>.int (lo+i*st)) Pv h0 stab hz (λi H hi _=>hi) (λi H x H' _ _ h=>⟨h.2,h.1⟩) (λH _=>d8 n) turn fin
theorem Abx {sc:nh}{s0:fv}{x:Str}{N2:Za6}{px:Pos}{elt iter:i8}{ifs:List i8}{tc:TT} 
  (hc:X.calm=true)(L:∀QV,Bb N QV scope x N2 ix)(hi:PI (Dh X sc N C s0 H0 fp) (.Name x px) iter wi)
  (hif:∀C' s' H' fp',PIf (Dh (Dh X sc N C s0 H0 fp) scope N2 C' s' H' fp') ifs tc)(he:∀C' s' H' fp',PE (Dh (Dh X sc N C s0 H0 fp) scope N2 C' s' H' fp') elt te)
  (hs:autoParam (∀z,foldedSetIterable iter (Dh X sc N C s0 H0 fp).env z=pure z) QJ):PE (Dh X sc N C s0 H0 fp) (.ListComp elt [⟨.Name x px,iter,ifs,0⟩] scope pos) (tLc wi ix tc te):=
 Lc (X:=Dh X sc N C s0 H0 fp) hc (L _) hi hif he hs
theorem Aa9 (K:d6){l:i8}{tl:TE}(hl:PE X l tl)(h:autoParam (X.K=K) QD):PI X tg l (Aec K tl):=by
 subst h;exact lV hl
theorem tV (K:d6)(hc:X.calm=true)(h:autoParam (X.K=K) QD):Ev X (.builtin "sum") (Ag8 K):=by
 subst h;exact wX hc
theorem zQ (K:d6)(h:autoParam (X.K=K) QD):SlR X (Agk K):=by
 subst h;exact fY
theorem Aht:bootBuiltins "abs"=some (.builtin "abs"):=by decide +kernel
def Mx (ns:List Int)(m:Int):Prop:=m∈ns/\∀a∈ns,m<=a
def nX (ns:List Int)(m:Int):Prop:=m∈ns/\∀a∈ns,a<=m
section
variable {X:Cx}
def Acr (K:d6):List V->Hp->VK->Prop:=λxs H Q=>∃(p:eg) (ns:List Int),xs=[.ref p]/\SqL K H p (ns.map V.int)/\ns≠[]/\∀m,Mx ns m->Q (.int m) H
def Ado (K:d6):List V->Hp->VK->Prop:=λxs H Q=>∃(p:eg) (ns:List Int),xs=[.ref p]/\SqL K H p (ns.map V.int)/\ns≠[]/\∀m,nX ns m->Q (.int m) H
theorem Tj {G:St}{p:eg}(I:Inv X pins G H s)(hp:SqL X.K H p (ns.map V.int)):∃ys:Array (Int×Tok),s.heap.IsList p (intItems ys)/\ns=ys.toList.map (·.1):=by
 obtain⟨its,r,pl,_⟩:=I.list hp;have hi:=T5 r;obtain⟨ys,e⟩:=hi.allInts.items;have hl:=pl.isList;rw[e] at hl;exact⟨ys,hl,by rw[<-hi.numsOf,<-JB,<-e]⟩
theorem wI {ys:Array (Int×Tok)}{v:fh}(hz:0<ys.size)(hv:(intItems ys)[argBest (λi j=>decide (numAt ys i<numAt ys j)) (ys.size-1)]?=some v):∃m t,v=.int m t/\Mx (ys.toList.map (·.1)) m:=by
 obtain⟨t,rfl⟩:=intItems_at hv;obtain⟨h1,h2⟩:=argBest_lt (numAt ys) (ys.size-1);refine⟨_,t,rfl,?_,λa ha=>?_⟩
 ·rw[EK]
  exact getD_mem (by rw[d7,gh];lia)
 ·obtain⟨j,hj,rfl⟩:=mem_getD ha
  rw[d7,gh] at hj;rw[<-EK];exact h2 j (by lia)
theorem Aar {ys:Array (Int×Tok)}{v:fh}(hz:0<ys.size)(hv:(intItems ys)[argBest (λi j=>decide (numAt ys i>numAt ys j)) (ys.size-1)]?=some v):∃m t,v=.int m t/\nX (ys.toList.map (·.1)) m:=by
 obtain⟨t,rfl⟩:=intItems_at hv;obtain⟨h1,h2⟩:=argBest_gt (numAt ys) (ys.size-1);refine⟨_,t,rfl,?_,λa ha=>?_⟩
 ·rw[EK]
  exact getD_mem (by rw[d7,gh];lia)
 ·obtain⟨j,hj,rfl⟩:=mem_getD ha
  rw[d7,gh] at hj;rw[<-EK];exact h2 j (by lia)
theorem T7 {ys:Array (Int×Tok)}(e:ns=ys.toList.map (·.1))(h:ns≠[]):0<ys.size:=by
 rcases qp ys.size with z|z
 ·exfalso
  apply h;rw[e,List.eq_nil_of_length_eq_zero (l:=ys.toList) (by rw[gh];exact z)];rfl
 ·exact z
theorem P3 (hc:X.calm=true):Ev X (.builtin "min") (Acr X.K):=by
 intro pins s G H xs us Q I r h;obtain⟨p,ns,rfl,hp,hne,q⟩:=h;obtain⟨u,rfl,ru⟩:=Fh r;cases ru;obtain⟨ys,hl,e⟩:=Tj I hp;have hz:=T7 e hne;refine min_intList (I.ok.hd hc) hl hz λv h' tk hv hk=>?_;obtain⟨m,t,rfl,hm⟩:=wI hz hv;exact⟨.int m,H,I.kept hk,⟨t,rfl⟩,q m (e▸hm)⟩
theorem tH (hc:X.calm=true):Ev X (.builtin "max") (Ado X.K):=by
 intro pins s G H xs us Q I r h;obtain⟨p,ns,rfl,hp,hne,q⟩:=h;obtain⟨u,rfl,ru⟩:=Fh r;cases ru;obtain⟨ys,hl,e⟩:=Tj I hp;have hz:=T7 e hne;refine max_intList (I.ok.hd hc) hl hz λv h' tk hv hk=>?_;obtain⟨m,t,rfl,hm⟩:=Aar hz hv;exact⟨.int m,H,I.kept hk,⟨t,rfl⟩,q m (e▸hm)⟩
end
theorem rX {g:TG}{tb:TS}{G:St}(Pv:Nat->St->Hp->Prop)(h0:Pv 0 G H)
  (hs:∀(i c:Nat) G H,z.cps[i]?=some c->Pv i G H->g (.str (sgn c)) G H λQQ H2=>tb { D with nx:=Pv (i+1),ct:=Pv (i+1),bk:=D.nx } QQ H2)(hd:∀G H,Pv z.cps.size G H->D.nx G H):sD (Its z) g tb D G H:=by
 refine⟨λi m G H=>i<=z.cps.size/\m=z.cps.size-i/\Pv i G H,⟨_,gp _,rfl,h0⟩,?_⟩;rintro i m G H ⟨hi,rfl,hP⟩
 by_cases h:i=z.cps.size
 ·subst h
  exact .inl ⟨d8 _,hd G H hP⟩
 ·have hlt:i<z.cps.size:=ko hi h
  refine .inr ⟨hlt,Pv (i+1),λQM H' hN=>⟨z.cps.size-(i+1),by lia,hlt,rfl,hN⟩,λx H' hy=>?_⟩;obtain⟨rfl,c,hc,rfl⟩:=hy;exact hs i c G _ hc hP
end L2
end
section
namespace TW
def val:Za5->Nat
 |[]=>0
 |b::r=>b.toNat+2*val r
def plc:Nat->Za5->Za4
 |_,[]=>[]
 |k,b::r=>if b then k::plc (k+1) r else plc (k+1) r
theorem zP:∀l:Za5,val l<2 ^ l.length
 |[]=>by simp[val]
 |b::r=>by
  have:=zP r;simp only[val,gn,vm];have hb:b.toNat<=1:=z9 b;lia
theorem iG (b:Bool):∀(l:Za5) (k:Nat),plc k (l++[b])=plc k l++(if b then[k+l.length] else[])
 |[],k=>by cases b<;>simp[plc]
 |a::r,k=>by
  cases a<;>simp[plc,iG b r,l6,vo 1]
theorem Lq:∀(l:Za5) (k:Nat),plc (k+1) l=(plc k l).map (·+1)
 |[],k=>rfl
 |a::r,k=>by cases a<;>simp[plc,Lq r]
theorem Vg:∀(l:Za5) (k:Nat),(plc k l).length=l.count true
 |[],k=>rfl
 |a::r,k=>by cases a<;>simp[plc,Vg r]
def pc (n:Nat):Nat:=if n=0 then 0 else n%2+pc (n/2)
termination_by n
decreasing_by lia
theorem Tx:pc 0=0:=by rw[pc];rfl
theorem Ha (n:Nat):pc n=n%2+pc (n/2):=by
 by_cases h:n=0
 ·subst h;simp[Tx]
 ·rw[pc,if_neg h]
theorem Nw:∀l:Za5,pc (val l)=l.count true
 |[]=>by simp[val,Tx]
 |b::r=>by
  rw[Ha];have e1:val (b::r)%2=b.toNat:=by simp only[val];have:=z9 b;lia
  have e2:val (b::r)/2=val r:=by simp only[val];have:=z9 b;lia
  rw[e1,e2,Nw r];cases b<;>simp[n4,vo]
theorem Ahd (n:Nat):n%16%2=n%2:=xq n (by decide)
theorem Ag2 (n:Nat):n%16/2%2=n/2%2:=(congrArg (·%2) (t9 n 2 8)).trans (xq _ (by decide))
theorem Ahy (n:Nat):n%16/4%2=n/4%2:=(congrArg (·%2) (t9 n 4 4)).trans (xq _ (by decide))
theorem Agi (n:Nat):n%16/8%2=n/8%2:=(congrArg (·%2) (t9 n 8 2)).trans (Nat.mod_mod _ _)
theorem Aib (n:Nat):pc n=pc (n%16)+pc (n/16):=by
 have a:pc n=n%2+(n/2%2+(n/4%2+(n/8%2+pc (n/16)))):=by
  rw[Ha n,Ha (n/2),Ha (n/2/2),Ha (n/2/2/2)];simp only[rc]
 have b:pc (n%16)=n%16%2+(n%16/2%2+(n%16/4%2+(n%16/8%2+pc (n%16/16)))):=by
  rw[Ha (n%16),Ha (n%16/2),Ha (n%16/2/2),Ha (n%16/2/2/2)];simp only[rc]
 have c:pc (n%16/16)=0:=by
  rw[yp (ua n (by decide)),Tx]
 rw[a,b,c,Ahd,Ag2,Ahy,Agi,m7,l6,l6,l6]
def Y9:Za4:=[0,1,1,2,1,2,2,3,1,2,2,3,2,3,3,4]
theorem xB:∀r:Nat,r<16->Y9[r]?=some (pc r):=by
 have h:∀b0 b1 b2 b3:Bool,Y9[val [b0,b1,b2,b3]]?=some ([b0,b1,b2,b3].count true):=by decide
 intro r hr;have e:r=val [r.testBit 0,r.testBit 1,r.testBit 2,r.testBit 3]:=by
  have:∀r:Fin 16,r.val=val [r.val.testBit 0,r.val.testBit 1,r.val.testBit 2,r.val.testBit 3]:=by decide
  exact this ⟨r,hr⟩
 rw[e,h,Nw]
def nth (n k:Nat):Option Nat:=
 if n=0 then none else if n%2=1 then(if k=0 then some 0 else(nth (n/2) (k-1)).map (·+1)) else(nth (n/2) k).map (·+1)
termination_by n
decreasing_by all_goals lia
theorem U3 (k:Nat):nth 0 k=none:=by rw[nth];rfl
theorem jV (b:Bool)(m k:Nat):nth (b.toNat+2*m) k=if b then(if k=0 then some 0 else(nth m (k-1)).map (·+1)) else(nth m k).map (·+1):=by
 cases b with
 |false=>
  by_cases h:m=0
  ·subst h;simp[U3]
  ·rw[nth,if_neg (by simp only[yi];lia),if_neg (by simp only[yi];lia)]
   simp only[yi,m5,jy,if_false];rw[show 2*m/2=m by lia]
 |true=>
  rw[nth,if_neg (by simp only[yz];lia),if_pos (by simp only[yz];lia)];have e:(true.toNat+2*m)/2=m:=by simp only[yz];lia
  rw[e];simp
theorem eV:∀(l:Za5) (k:Nat),nth (val l) k=(plc 0 l)[k]?
 |[],k=>by simp[val,plc,U3]
 |b::r,k=>by
  simp only[val,jV]
  cases b with
  |false=>simp[plc,Lq,eV r]
  |true=>
   cases k with
   |zero=>simp[plc]
   |succ k=>simp[plc,Lq,eV r]
def Z3 (r:Nat):Za4:=(fb 4).filter λp=>decide (r/2 ^ p%2=1)
theorem Abh:∀r:Nat,r<16->(Z3 r).length=pc r:=by
 have h:∀b0 b1 b2 b3:Bool,(Z3 (val [b0,b1,b2,b3])).length=([b0,b1,b2,b3].count true):=by decide
 intro r hr;have e:r=val [r.testBit 0,r.testBit 1,r.testBit 2,r.testBit 3]:=by
  have:∀r:Fin 16,r.val=val [r.val.testBit 0,r.val.testBit 1,r.val.testBit 2,r.val.testBit 3]:=by decide
  exact this ⟨r,hr⟩
 rw[e,h,Nw]
theorem qX:∀(w:Za5) (m k:Nat),nth (val w+2 ^ w.length*m) k=if k<w.count true then(plc 0 w)[k]? else(nth m (k-w.count true)).map (·+w.length)
 |[],m,k=>by simp[val]
 |b::r,m,k=>by
  have e:val (b::r)+2 ^ (b::r).length*m=b.toNat+2*(val r+2 ^ r.length*m):=by
   rw[val,gn,vm,Nat.mul_add,l6,x9 (2 ^ r.length) 2,FX]
  have ih:=qX r m;rw[e,jV]
  cases b with
  |false=>
   rw[if_neg gz,ih,show(false::r).count true=r.count true by simp]
   by_cases h:k<r.count true
   ·rw[if_pos h,if_pos h]
    simp[plc,Lq]
   ·rw[if_neg h,if_neg h,yt]
    rfl
  |true=>
   rw[if_pos rfl,show(true::r).count true=r.count true+1 by simp]
   cases k with
   |zero=>rw[if_pos rfl,if_pos (x8 _)];rfl
   |succ k=>
    rw[if_neg (Nat.succ_ne_zero k),nq,ih]
    by_cases h:k<r.count true
    ·rw[if_pos h,if_pos (Nat.succ_lt_succ h)]
     simp[plc,Lq]
    ·rw[if_neg h,if_neg (λz=>h (Nat.lt_of_succ_lt_succ z)),BO,yt]
     rfl
theorem Aho (n k:Nat):nth n k=if k<pc (n%16) then(Z3 (n%16))[k]? else(nth (n/16) (k-pc (n%16))).map (·+4):=by
 have h:∀b0 b1 b2 b3:Bool,Z3 (val [b0,b1,b2,b3])=plc 0 [b0,b1,b2,b3]:=by decide
 have g:∀r:Fin 16,r.val=val [r.val.testBit 0,r.val.testBit 1,r.val.testBit 2,r.val.testBit 3]:=by decide
 obtain⟨w,hw,e,h4⟩:∃w:Za5,w.length=4/\n%16=val w/\Z3 (val w)=plc 0 w:=⟨_,rfl,g ⟨n%16,ua _ (by decide)⟩,h _ _ _ _⟩;have:=qX w (n/16) k;rw[hw,<-e,show n%16+2 ^ 4*(n/16)=n from Nat.mod_add_div n 16] at this;rw[this,e,Nw,h4]
def Az (l:Za5)(j:Nat):Za5:=(l.drop (32*j)).take 32
def By (n:Nat):Nat:=(n+31)/32
def wordsOf (l:Za5):Za4:=(fb (By l.length)).map λj=>val (Az l j)
def cnt (l:Za5)(k:Nat):Nat:=(l.take k).count true
theorem rP (l:Za5)(a b:Nat):cnt l (a+b)=cnt l a+((l.drop a).take b).count true:=by
 unfold cnt;rw[xc,n9]
theorem Ts (l:Za5){k:Nat}(h:l.length<=k):cnt l k=l.count true:=by
 unfold cnt;rw[fw h]
theorem iA (l:Za5)(j:Nat):cnt l (32*(j+1))=cnt l (32*j)+pc (val (Az l j)):=by
 rw[Nw,show 32*(j+1)=32*j+32 by lia,rP];rfl
theorem Zt (l:Za5)(a:Nat):∀k:Nat,((fb k).map λi=>pc (val (Az l (a+i)))).sum+cnt l (32*a)=cnt l (32*(a+k))
 |0=>by simp
 |k+1=>by
  rw[je,fj,yv,xl,xj];have:=Zt l a k;have e:=iA l (a+k);rw[show a+(k+1)=a+k+1 by lia,e];lia
theorem gP (n:Nat):n<=32*By n:=by unfold By;lia
theorem lF {n j:Nat}(h:j<By n):32*j<n:=by unfold By at h;lia
theorem tQ (l:Za5)(b:Nat)(k:Nat)(hk:k=min 8 (By l.length-8*b)):((fb k).map λi=>pc (val (Az l (8*b+i)))).sum+cnt l (256*b)=cnt l (256*(b+1)):=by
 have h:=Zt l (8*b) k;rw[show 32*(8*b)=256*b by lia] at h;rw[h]
 by_cases hh:8<=By l.length-8*b
 ·rw[hk.trans (io hh),show 32*(8*b+8)=256*(b+1) by lia]
 ·have ek:=hk.trans (rm (f9 (IQ.mp hh)))
  have h2:=ir (gP l.length) (Nat.mul_le_mul_left 32 (Nat.sub_le_iff_le_add'.mp (oh ek.symm)));rw[<-ek] at hh;rw[Ts l h2,Ts l (k:=256*(b+1)) (by clear hk ek h;lia)]
theorem pA:∀(l:Za5) (a:Nat),(l.reverse.foldl (λacc b=>acc*2+b.toNat) a)=a*2 ^ l.length+val l
 |[],a=>by simp[val]
 |b::r,a=>by
  rw[xt,DK,pA r a];simp only[qi,List.foldl_nil,val,gn,vm];rw[CH,FX];lia
theorem Tu:∀(w:Za5) (k:Nat),val w/2 ^ k%2=(w.getD k false).toNat
 |[],k=>by simp[val]
 |b::r,0=>by
  cases b<;>simp[val]<;>lia
 |b::r,k+1=>by
  have ih:=Tu r k;have e:val (b::r)/2 ^ (k+1)=val r/2 ^ k:=by
   rw[vm,x9 (2 ^ k) 2,<-rc];congr 1;cases b<;>simp[val]<;>lia
  rw[e,ih];simp
theorem Lu (l:Za5)(j:Nat){p:Nat}(hp:p<32):(Az l j).getD p false=l.getD (32*j+p) false:=by
 unfold Az;simp only[gg,jg,i5,hp,if_true]
def Ox (n:Nat):Za5:=(fb 32).map λp=>decide (n/2 ^ p%2=1)
theorem sJ (b:Bool):decide (b.toNat=1)=b:=by cases b<;>rfl
theorem tZ (l:Za5)(j:Nat):Ox (val (Az l j))=(fb 32).map λp=>l.getD (32*j+p) false:=by
 unfold Ox;refine jc λp hp=>?_;rw[Tu,sJ,Lu l j (jm.mp hp)]
theorem R1 {α:Type}(d:Nat)(f:Nat->α):∀m:Nat,((fb m).map λj=>(fb d).map λp=>f (d*j+p)).flatten=(fb (d*m)).map f
 |0=>by simp
 |m+1=>by
  rw[je,fj,w6,R1 d f m,Nat.mul_succ,List.range_add,fj];simp[Function.comp_def]
def nO (r:Nat):Za5:=(fb 4).map λk=>decide (r/2 ^ k%2=1)
theorem zZ (n j:Nat):nO (n/2 ^ (4*j)%16)=(fb 4).map λk=>decide (n/2 ^ (4*j+k)%2=1):=by
 unfold nO;refine jc λk hk=>?_;have hk:=jm.mp hk;rw[Nat.pow_add,<-rc];generalize n/2 ^ (4*j)=m;congr 1;have:k=0\/k=1\/k=2\/k=3:=by lia
 rcases this with rfl|rfl|rfl|rfl
 ·rw[Nat.pow_zero,ID,ID,Ahd]
 ·exact congrArg (·=1) (Ag2 m)
 ·exact congrArg (·=1) (Ahy m)
 ·exact congrArg (·=1) (Agi m)
theorem T6 (n:Nat):((fb 8).map λj=>nO (n/2 ^ (4*j)%16)).flatten=Ox n:=by
 have e:((fb 8).map λj=>nO (n/2 ^ (4*j)%16))=(fb 8).map λj=>(fb 4).map λk=>decide (n/2 ^ (4*j+k)%2=1):=jc λj _=>zZ n j;rw[e];exact R1 4 (λp=>decide (n/2 ^ p%2=1)) 8
theorem Vt (l:Za5)(a m:Nat):((fb m).map λi=>Ox (val (Az l (a+i)))).flatten=(fb (32*m)).map λp=>l.getD (32*a+p) false:=by
 have e:((fb m).map λi=>Ox (val (Az l (a+i))))=(fb m).map λj=>(fb 32).map λp=>l.getD (32*a+(32*j+p)) false:=jc λj _=>by
  rw[tZ];refine jc λp _=>?_;congr 1;lia
 rw[e];exact R1 32 (λp=>l.getD (32*a+p) false) m
theorem vN (l:Za5)(a m low c:Nat)(h0:32*a<=low)(h1:low+c<=l.length)(h2:low+c<=32*(a+m)) :
  (((fb (32*m)).map λp=>l.getD (32*a+p) false).drop (low-32*a)).take c=(l.drop low).take c:=by
 refine l8 λi=>?_;rw[jg,jg]
 by_cases hi:i<c
 ·rw[if_pos hi,if_pos hi,i5,i5,d9,gd (by lia)]
  rw[d4 (show low+i<l.length by lia)];simp only[rz,gg];rw[show 32*a+(low-32*a+i)=low+i by lia,d4 (show low+i<l.length by lia)];rfl
 ·rw[if_neg hi,if_neg hi]
theorem Yq (l:Za5)(a k:Nat):((wordsOf l).drop a).take k=(fb (min k (By l.length-a))).map λi=>val (Az l (a+i)):=by
 refine l8 λi=>?_;unfold wordsOf;rw[jg,d9]
 by_cases hi:i<k
 ·rw[if_pos hi,i5,d9]
  by_cases h2:a+i<By l.length
  ·rw[gd h2,gd (Nat.lt_min.mpr ⟨hi,Nat.lt_sub_iff_add_lt.mpr (by rw[vo];exact h2)⟩)]
   rfl
  ·have h3:=pq.mp h2
   rw[ij (by rw[fe];exact h3),ij (by rw[fe];exact ir (uw _ _) (Nat.sub_le_iff_le_add.mpr (by rw[vo];exact h3)))];rfl
 ·rw[if_neg hi,ij (by rw[fe];exact ir (Nat.min_le_left _ _) (pq.mp hi))]
  rfl
theorem xS (f:Nat->Bool)(n:Nat):[n].filter f=if f n then[n] else[]:=by
 cases h:f n<;>simp[BS,h]
def occ (b:Bool)(l:Za5)(n:Nat):Za4:=(fb n).filter λi=>l.getD i false==b
theorem Jm (b:Bool)(l:Za5)(n:Nat):occ b l (n+1)=occ b l n++if l.getD n false==b then[n] else[]:=by
 unfold occ;rw[je,lr,xS]
theorem Tv (b:Bool)(l:Za5)(n:Nat):∀d:Nat,occ b l (n+d)=occ b l n++((fb d).filter λp=>l.getD (n+p) false==b).map (n + ·)
 |0=>by simp
 |d+1=>by
  rw[show n+(d+1)=n+d+1 by lia,Jm,Tv b l n d,je,lr,fj,fm,xS];congr 2;cases l.getD (n+d) false==b<;>rfl
theorem eF {b:Bool}{l:Za5}{n m i:Nat}(h:n<=m)(hi:i<(occ b l n).length):(occ b l m)[i]?=(occ b l n)[i]?:=by
 obtain⟨d,rfl⟩:=FM h;rw[Tv,f7 hi]
theorem Adr {b:Bool}{l:Za5}{n m:Nat}(h:n<=m):(occ b l n).length<=(occ b l m).length:=by
 obtain⟨d,rfl⟩:=FM h;rw[Tv,eh];lia
theorem Ms (l:Za5):∀n:Nat,(occ true l n).length=cnt l n/\(occ false l n).length+cnt l n=n
 |0=>by simp[occ,cnt]
 |n+1=>by
  obtain⟨h1,h2⟩:=Ms l n;have e:cnt l (n+1)=cnt l n+(l.getD n false).toNat:=by
   unfold cnt;rw[i4,n9,gg]
   cases hx:l[n]? with
   |none=>simp
   |some b=>cases b<;>simp
  rw[Jm,Jm,e];cases l.getD n false<;>simp<;>lia
def Nd (b:Bool)(l:Za5)(j:Nat):Za4:=(fb 32).filter λp=>l.getD (32*j+p) false==b
theorem U6 (b:Bool)(l:Za5)(j:Nat):occ b l (32*(j+1))=occ b l (32*j)++(Nd b l j).map (32*j + ·):=by
 rw[show 32*(j+1)=32*j+32 by lia,Tv];rfl
theorem R9 (f:Nat->Bool):∀n:Nat,plc 0 ((fb n).map f)=(fb n).filter f
 |0=>rfl
 |n+1=>by
  rw[je,fj,xl,iG,R9 f n,lr,d7,fe,xS,m5]
theorem fM (w:Za5)(k:Nat):(val w).testBit k=w.getD k false:=by
 rw[Nat.testBit_eq_decide_div_mod_eq,Tu];cases w.getD k false<;>rfl
def Pn (b:Bool):Nat:=if b then 0 else 4294967295
theorem Mp (b:Bool)(l:Za5)(j:Nat):val (Az l j) ^^^ Pn b=val ((fb 32).map λp=>l.getD (32*j+p) false==b):=by
 refine wq λi=>?_;rw[Nat.testBit_xor,fM,fM];have hf:(Pn b).testBit i=(!b&&decide (i<32)):=by
  cases b
  ·show(2 ^ 32-1).testBit i=_
   rw[zj];rfl
  ·show(0:Nat).testBit i=_
   rw[Nat.zero_testBit];rfl
 rw[hf]
 by_cases hi:i<32
 ·rw[Lu l j hi,gg (l:=xw _ _),d9,gd hi]
  show _=(l.getD (32*j+i) false==b);rw[decide_eq_true hi];cases l.getD (32*j+i) false<;>cases b<;>rfl
 ·rw[decide_eq_false hi,gg,ij (by unfold Az;rw[fi];lia),gg,ij (by rw[d7,fe];lia)]
  simp
theorem gN (b:Bool)(l:Za5)(j k:Nat):nth (val (Az l j) ^^^ Pn b) k=(Nd b l j)[k]?:=by
 rw[Mp,eV,R9];rfl
theorem Aay (b:Bool)(l:Za5)(j:Nat):pc (val (Az l j) ^^^ Pn b)=(Nd b l j).length:=by
 rw[Mp,Nw,<-Vg _ 0,R9];rfl
theorem uY (w:Za5)(k:Nat):val w%2 ^ k=val (w.take k):=by
 refine wq λi=>?_;rw[Nat.testBit_mod_two_pow,fM,fM,gg,gg,jg]
 by_cases hi:i<k<;>simp[hi]
theorem Aeo {b:Bool}{l:Za5}{n i t:Nat}(h:(occ b l n)[i]?=some t):t<n/\(l.getD t false==b)=true:=by
 have:=f8 h;unfold occ at this;rw[vp] at this;exact⟨jm.mp this.1,this.2⟩
def dAt (ds:Za4)(k:Nat):Nat:=ds.getD k 0
def opn (ds:Za4):Nat->Nat
 |0=>0
 |k+1=>dAt ds k+1
def way (ds:Za4):Nat->List Int
 |0=>[-1]
 |k+1=>(way ds k).take (dAt ds k+1)++[(k:Int)]
def Dok (ds:Za4):Prop:=∀k,k<ds.length->dAt ds k<=opn ds k
def eld (ds:Za4)(k:Nat):Int:=(way ds k).getD (dAt ds k) 0
def En (ds:Za4):List Int:=(fb ds.length).map (eld ds)
theorem Cc {ds:Za4}(h:Dok ds):∀k,k<=ds.length->(way ds k).length=opn ds k+1
 |0,_=>rfl
 |k+1,hk=>by
  show((way ds k).take (dAt ds k+1)++[(k:Int)]).length=dAt ds k+1+1;have:=Cc h k (by lia);have:=h k (by lia);rw[eh,fi];simp only[gn,jt];lia
theorem Ly {ds:Za4}(h:Dok ds):∀k,k<=ds.length->(way ds k)[0]?=some (-1)
 |0,_=>rfl
 |k+1,hk=>by
  show((way ds k).take (dAt ds k+1)++[(k:Int)])[0]?=some (-1);have e:=Ly h k (by lia);have hl:=Cc h k (by lia);rw[f7 (by rw[fi];lia),gj (by lia)];exact e
theorem F1 {ds:Za4}(h:Dok ds):∀(k j:Nat) (x:Int),k<=ds.length->(way ds k)[j+1]?=some x->∃v:Nat,x=(v:Int)/\v<k/\dAt ds v=j
 |0,j,x,_,e=>by cases e
 |k+1,j,x,hk,e=>by
  have e:((way ds k).take (dAt ds k+1)++[(k:Int)])[j+1]?=some x:=e;have hl:=Cc h k (by lia);have hd:=h k (by lia);have hl2:((way ds k).take (dAt ds k+1)).length=dAt ds k+1:=by rw[fi];lia
  by_cases hj:j+1<dAt ds k+1
  ·rw[f7 (by lia),gj hj] at e
   obtain⟨v,hv,hlt,hdv⟩:=F1 h k j x (by lia) e;exact⟨v,hv,by lia,hdv⟩
  ·rw[ft (by lia),hl2] at e
   have e0:j+1-(dAt ds k+1)=0:=by
    have:=(fc.mp e).1;simp only[gn,jt] at this;lia
   rw[e0] at e;have e:=ee e;exact⟨k,e.symm,by lia,by lia⟩
theorem K8 {ds:Za4}(h:Dok ds):∀(k i j:Nat) (x y:Int),k<=ds.length->i<j->(way ds k)[i]?=some x->(way ds k)[j]?=some y->x<y
 |0,i,j,x,y,_,hij,e1,e2=>by
  have:=(fc.mp e2).1;simp only[way,gn,jt] at this;lia
 |k+1,i,j,x,y,hk,hij,e1,e2=>by
  have hl:=Cc h k (by lia);have hd:=h k (by lia);have hl2:((way ds k).take (dAt ds k+1)).length=dAt ds k+1:=by rw[fi];lia
  have e2':((way ds k).take (dAt ds k+1)++[(k:Int)])[j]?=some y:=e2;have e1':((way ds k).take (dAt ds k+1)++[(k:Int)])[i]?=some x:=e1
  by_cases hj:j<dAt ds k+1
  ·rw[f7 (by lia),gj hj] at e2'
   rw[f7 (by lia),gj (by lia)] at e1';exact K8 h k i j x y (by lia) hij e1' e2'
  ·rw[ft (by lia),hl2] at e2'
   have e0:j-(dAt ds k+1)=0:=by
    have:=(fc.mp e2').1;simp only[gn,jt] at this;lia
   rw[e0] at e2';have ey:=ee e2';rw[f7 (by lia),gj (by lia)] at e1'
   cases i with
   |zero=>
    rw[Ly h k (by lia)] at e1';have:=ee e1';lia
   |succ i=>
    obtain⟨v,hv,hlt,_⟩:=F1 h k i x (by lia) e1';lia
theorem Ia {ds:Za4}(h:Dok ds){k:Nat}(hk:k<ds.length):(way ds k)[dAt ds k]?=some (eld ds k):=by
 have hl:=Cc h k (by lia);have hd:=h k hk;unfold eld ju;rw[d4 (by lia)];rfl
theorem Aap {ds:Za4}(h:Dok ds){k:Nat}(hk:k<ds.length)(e:eld ds k=-1):dAt ds k=0:=by
 have ha:=Ia h hk
 cases hd:dAt ds k with
 |zero=>rfl
 |succ j=>
  rw[hd] at ha;obtain⟨v,hv,_⟩:=F1 h k j _ (by lia) ha;lia
theorem L1 {ds:Za4}(h:Dok ds){k:Nat}(hk:k<ds.length)(e:eld ds k≠-1):∃v:Nat,eld ds k=(v:Int)/\v<k/\dAt ds k=dAt ds v+1:=by
 have ha:=Ia h hk
 cases hd:dAt ds k with
 |zero=>
  rw[hd,Ly h k (by lia)] at ha;exact absurd (ee ha).symm e
 |succ j=>
  rw[hd] at ha;obtain⟨v,hv,hlt,hdv⟩:=F1 h k j _ (by lia) ha;exact⟨v,hv,hlt,by lia⟩
theorem Aac {ds:Za4}(h:Dok ds){k:Nat}(hk:k<ds.length):-1<=eld ds k:=by
 by_cases e:eld ds k=-1
 ·lia
 ·obtain⟨v,hv,_⟩:=L1 h hk e
  lia
theorem Gv (ds:Za4):(En ds).length=ds.length:=by unfold En;rw[d7,fe]
theorem Mq {ds:Za4}{k:Nat}(hk:k<ds.length):(En ds)[k]?=some (eld ds k):=by
 unfold En;rw[d9,gd hk];rfl
def Bh (ds:Za4)(k:Nat):Za5:=fg (opn ds k-dAt ds k) false++[true]
def Tg (ds:Za4)(k:Nat):Za5:=((fb k).map (Bh ds)).flatten
def B1 (ds:Za4):Za5:=Tg ds ds.length++fg (opn ds ds.length) false
theorem Mo (ds:Za4)(k:Nat):Tg ds (k+1)=Tg ds k++Bh ds k:=by
 unfold Tg;rw[je,fj,w6];simp
theorem kJ {ds:Za4}(h:Dok ds):∀k,k<=ds.length->(Tg ds k).length+opn ds k=2*k
 |0,_=>rfl
 |k+1,hk=>by
  have:=kJ h k (by lia);have:=h k (by lia);rw[Mo,eh];show(Tg ds k).length+(fg (opn ds k-dAt ds k) false++[true]).length+(dAt ds k+1)=2*(k+1);rw[eh,lg];simp only[gn,jt];lia
theorem D4 {ds:Za4}(h:Dok ds):(B1 ds).length=2*ds.length:=by
 unfold B1;rw[eh,lg];exact kJ h _ (d8 _)
def Vs:Nat->Za5->Prop
 |h,[]=>h=0
 |h,false::s=>0<h/\Vs (h-1) s
 |h,true::s=>Vs (h+1) s
theorem Ue:∀(m h:Nat) (s:Za5),Vs h s->Vs (h+m) (fg m false++s)
 |0,h,s,v=>v
 |m+1,h,s,v=>by
  rw[i7];refine⟨by lia,?_⟩;show Vs (h+(m+1)-1) (fg m false++s);rw[show h+(m+1)-1=h+m by lia];exact Ue m h s v
theorem qI {ds:Za4}(h:Dok ds):∀(m k:Nat),k+m=ds.length->Vs (opn ds k) (((fb m).map λi=>Bh ds (k+i)).flatten++fg (opn ds ds.length) false)
 |0,k,e=>by
  have e:k=ds.length:=by lia
  subst e;have:=Ue (opn ds ds.length) 0 [] rfl;rw[m5,gy] at this;exact this
 |m+1,k,e=>by
  have ih:=qI h m (k+1) (by lia);have hd:=h k (by lia);rw[my,im,jf,jl];have e1:((λi=>Bh ds (k+i)) ∘ zt)=λi=>Bh ds (k+1+i):=by
   funext i
   show Bh ds (k+(i+1))=Bh ds (k+1+i);rw[show k+(i+1)=k+1+i by lia]
  rw[e1];show Vs (opn ds k) ((fg (opn ds k-dAt ds (k+0)) false++[true]++_)++_);rw[m7,fm,fm];have:=Ue (opn ds k-dAt ds k) (dAt ds k) (true::(((fb m).map λi=>Bh ds (k+1+i)).flatten++fg (opn ds ds.length) false)) ih;rw[show dAt ds k+(opn ds k-dAt ds k)=opn ds k by lia] at this;exact this
theorem mY {ds:Za4}(h:Dok ds):Vs 0 (B1 ds):=by
 have:=qI h ds.length 0 (by lia);unfold B1 Tg;have e:(λi=>Bh ds (0+i))=Bh ds:=by funext i;rw[m5]
 rw[e] at this;exact this
theorem Xn:∀(m n:Nat) (s t:Za5),fg m false++true::s=fg n false++true::t->m=n/\s=t
 |0,0,s,t,e=>⟨rfl,by simpa using e⟩
 |0,n+1,s,t,e=>by rw[i7] at e;cases e
 |m+1,0,s,t,e=>by rw[i7] at e;cases e
 |m+1,n+1,s,t,e=>by
  rw[i7,i7] at e;obtain⟨a,b⟩:=Xn m n s t (qz e).2;exact⟨by lia,b⟩
theorem gM {ds es:Za4}(h1:Dok ds)(h2:Dok es)(hl:ds.length=es.length):∀(m k:Nat),k+m=ds.length->opn ds k=opn es k ->
  ((fb m).map λi=>Bh ds (k+i)).flatten++fg (opn ds ds.length) false=((fb m).map λi=>Bh es (k+i)).flatten++fg (opn es es.length) false->∀i,k<=i->i<ds.length->dAt ds i=dAt es i
 |0,k,e,_,_=>λi a b=>by lia
 |m+1,k,e,ho,hr=>λi a b=>by
  have f:∀xs:Za4,((fb (m+1)).map λi=>Bh xs (k+i)).flatten=fg (opn xs k-dAt xs k) false++true::((fb m).map λi=>Bh xs (k+1+i)).flatten:=λxs=>by
   rw[my,im,jf,jl];have e1:((λi=>Bh xs (k+i)) ∘ zt)=λi=>Bh xs (k+1+i):=by
    funext i
    show Bh xs (k+(i+1))=Bh xs (k+1+i);rw[show k+(i+1)=k+1+i by lia]
   rw[e1];show(fg (opn xs k-dAt xs (k+0)) false++[true])++_=_;rw[m7,fm];rfl
  rw[f,f,fm,fm,m9,m9] at hr;obtain⟨e1,e2⟩:=Xn _ _ _ _ hr;have d1:=h1 k (by lia);have d2:=h2 k (by lia);have hk:dAt ds k=dAt es k:=by lia
  by_cases hi:i=k
  ·rw[hi];exact hk
  ·exact gM h1 h2 hl m (k+1) (by lia) (by show dAt ds k+1=dAt es k+1;lia) e2 i (by lia) b
theorem yJ {ds es:Za4}(h1:Dok ds)(h2:Dok es)(e:B1 ds=B1 es):ds=es:=by
 have hl:ds.length=es.length:=by
  have a:=D4 h1;have b:=D4 h2;rw[e] at a;lia
 have z:∀xs:Za4,B1 xs=((fb xs.length).map λi=>Bh xs (0+i)).flatten++fg (opn xs xs.length) false:=λxs=>by
  unfold B1 Tg;have e:(λi=>Bh xs (0+i))=Bh xs:=by funext i;rw[m5]
  rw[e]
 have key:=gM h1 h2 hl ds.length 0 (by lia) rfl (by rw[<-z,e,z,hl]);refine EC hl λk a b=>?_;have:=key k (by lia) a;unfold dAt at this
 simpa [ju,a,b] using this
theorem qC {B:Za4}(hB:Dok B){k:Nat}(h:k<=B.length):way B k=-1::(way B k).tail:=by
 have e:=Ly hB k h
 cases hw:way B k with
 |nil=>rw[hw] at e;cases e
 |cons x r=>
  rw[hw] at e;obtain rfl:=ee e;rfl
end TW
end
section
namespace L2
open PySem PySem.Spec PyProof.Rows
variable {C CB CC CO CP Pt dx i1 i2 it l1 l2:eg} {params:mv} {A:i9} {items:Array fh} {op:vb} {X:Cx} {D:Ie} {env:Env} {tg:i8} {fd:jq} {base h h':jj} {H H' H0 H1 H2:Hp} {J:It} {pins:Za1} {as fp:List eg} {ns ws:List Int} {cs ix:Za4} {N kz nm ps:Za6} {xs:List V} {us vs:Za3} {M:wc} {d n t':Nat} {oT:Obj} {an od:Option eg} {lpos pos pos2:Pos} {scope:nh} {pl:Sem Bool} {s s2:fv} {sp:Sp} {fr:St} {qual z:Str} {te:TE} {wi:TI} {y:V} {cdv ct doc oc pm:fh} {w:iq}
def Aiw (B:jj)(l:List Env)(e:eg)(cls a0:fh)(od:Option eg)(h:jj):Prop:=Heap.FlyingW B l e cls a0 h/\∃o,h.get? e=some o/\o.dict=od
structure Ag1 (outer:List Env) (H':Hp) (h h':jj) (e C:eg) (od:Option eg):Prop where
 new:h.get? e=none
 unt:H' e=none
 fly:∃a0 B,Aiw B outer e (.ref C) a0 od h'/\∀b o,h'.get? b=some o->B.get? b=none->b=e\/b∈frs outer\/(h.get? b=none/\H' b=none)
def CXE (P:gl)(w:iq):CXT:=λouter H s E ex s'=>∃e C od H',ex=.ref e/\s'.os=s.os/\ww s'.gens/\Un (frs outer) [] H H' s.heap s'.heap/\HOk P w H' s'.heap/\(∀b∈frs outer,H' b=none)/\Ag1 outer H' s.heap s'.heap e C od/\E (.ref C) od H'
theorem Afg {P:gl}:J3 (CXE P w) X E0:=λ_ _ _ _ _ _ _ h=>by
 obtain⟨_,_,_,_,_,_,_,_,_,_,_,z⟩:=h;exact z.elim
structure Ait (P:gl) (w:iq) (K:d6) (mg:Za2) (base:jj) (name:Str) (C:eg) (k:Nat) (ps:Za6) (sp:Sp):Prop where
 ex:∃(f:eg) (fd:jq),Ar P w K mg base (CXE P w) k f fd ps sp/\Fm K fd ps []/\Mk K C f/\mg name=some (.ref C)
theorem Ti (K:d6)(h:autoParam (X.K=K) QD):IxR X (Aei K):=by
 subst h;exact Bs
theorem Jo (K:d6)(h:autoParam (X.K=K) QD):IxR X (Aff K):=by
 subst h;exact Bl
open PySem.W Builtin.Getset_descriptor
theorem eT {G:St}(I:Inv X pins G H s):sysModules<s.heap.objs.size:=
 vn (by decide) (show mainGlobals<s.heap.objs.size from(I.mod.glob.keeps I.bk).lt)
def Adi:TE:=λ_ H Q=>∀p,H p=none->Q (.ref p) (upd H p (.dK []))
theorem xK {P:gl}(h:jj)(hb:sysModules<h.objs.size):Cq P w H (h.push { cls:=.type "dict",data:=.dict #[] }) h.objs.size (.dK []):=
 ⟨gp _,beq_eq_false_iff_ne.mpr (rh (gm hb)),[],.nil,xg h⟩
theorem rE:PE X (.Dict [] [] pos) Adi:=λpins s G H Q I h=>
 wpAny_Dict_empty ⟨.ref s.heap.objs.size,_,I.laid (a:=s.heap.objs.size) (o:=.dK []) (t':=s.toks) (λ_ _ q=>en _ q) (d8 _) (xK s.heap (eT I)),rfl,h _ (I.hok.fresh (d8 _))⟩
theorem Afs {G:St}{Q:VK}(h:∀p,H p=none->Q (.ref p) (upd H p (.dK []))):Adi G H Q:=h
section
variable {X:Cx}
def Acc:V->List V->Hp->VK->Prop:=λx vs H Q=>∃(l:eg) (xs:List V) (y:V),x=.ref l/\vs=[y]/\H l=some (.lst xs)/\xs.all Gs=true/\Gs y=true/\Q (.int (xs.countP (λz=>eqV z y):Nat)) H
theorem Ua {y:V}:∀{xs:List V} {us:Za3},Ay xs us->xs.all Gs=true->us.countP (eqU y)=xs.countP λz=>eqV z y
 |_,_,.nil,_=>rfl
 |x::xs,u::us,.cons r t,f=>by
  rw[uj,nc] at f;rw[yg,yg,Ua t f.2,dU r f.1]
theorem sN:MtM X "list.count" Acc:=by
 intro pins s G H x vs v us Q I rx rv h;obtain⟨l,xs,y,rfl,rfl,hH,hf,hy,q⟩:=h;cases rx;obtain⟨u,rfl,ru⟩:=Fh rv;obtain⟨z,its,n,r,hl,e⟩:=I.lstM hH;refine sq F.slot_list_count ⟨_,e,rfl⟩ F.entry_list_count (F.args_list_count_2 _ _) (SeqAt.list_countAt l its.toArray n none #[] u (eqU y)) ⟨e,λw hw=>Kz ru hy r hf w (by simpa using hw),?_⟩;rw[show its.toArray.toList=its from rfl,Ua r hf];exact⟨.int _,H,I.tok _,⟨_,rfl⟩,q⟩
end
def Ac5 (K:d6)(te ts:TE):TE:=λG H Q=>te G H λx H1=>ts G H1 λy H2=>∃a xs st,x=.ref a/\y=.int st/\0<st/\SqL K H2 a xs /\
 ∀p ys,H2 p=none->(∀v∈ys,v∈xs)->ys.length<=xs.length->Q (.ref p) (upd H2 p (.lst ys))
theorem Sa {xs:List V}{us:Za3}(r:Ay xs us):∀is:Za4,Ay (is.filterMap λi=>xs[i]?) (is.filterMap λi=>us[i]?)
 |[]=>.nil
 |i::is=>by
  have ih:=Sa r is;have l:=r.length
  by_cases h:i<us.length
  ·obtain⟨u,eu,ru⟩:=r.get (d4 (show i<xs.length by lia))
   rw[k5,k5,d4 (show i<xs.length by lia),eu];exact .cons ru ih
  ·rw[k5,k5,ij (show us.length<=i by lia),ij (show xs.length<=i by lia)]
   exact ih
section
variable {X:Cx} {e st:i8} {te ts:TE} {pos p2:Pos}
theorem Ab4 (he:PE X e te)(hst:PE X st ts):PE X (.Subscript e (.Slice none none (some st) p2) pos) (Ac5 X.K te ts):=by
 k_in;refine Subscript_ (thE he I h λv s1 x H1 I1 r1 q1=>?_);refine zw ?_;rw[vf];refine fq ?_;refine fq ?_;rw[evalPart_some];refine thE hst I1 q1 λu s3 y H3 I3 r3 ⟨a,xs,k,ex,ey,hk,hs,q⟩=>?_;subst ex ey;obtain rfl:v=jb a:=r1;obtain⟨t,rfl⟩:=r3;have I4:Inv X pins G H3 { s3 with heap:=s3.heap.push { cls:=.type "slice",data:=.fields #[.none,.none,.int k t] } }:=I3.kept (t':=s3.toks) λb ob q=>en _ q;obtain⟨its,r,pl,hz⟩:=I4.list hs;have e1:=r.length;show wpAny (model X.prog X.w) X.A (subscriptTail e (.Slice none none (some st) p2) (.ref a) (.ref s3.heap.objs.size)) (EP X pins G Q) X.xe { s3 with heap:=s3.heap.push { cls:=.type "slice",data:=.fields #[.none,.none,.int k t] } };refine y4 (ops:=[.ref a,.ref s3.heap.objs.size]) pl.isList.typeIs ES ?_ (by with_unfolding_all rfl);refine ve pl.isList (uv ..) .none .none (.int k t) (by intro z;have:=ee z;lia) ?_ (by rw[ge];lia);have hp:slicePick its.toArray none none (some k)=((sliceRange (sliceBounds none none (some k) its.length).1 (sliceBounds none none (some k) its.length).2.1 (sliceBounds none none (some k) its.length).2.2).filterMap λi=>its[i]?).toArray:=by
  unfold slicePick;simp
 rw[hp];generalize sliceRange (sliceBounds none none (some k) its.length).1 (sliceBounds none none (some k) its.length).2.1 (sliceBounds none none (some k) its.length).2.2=is at *;have hlen:(is.filterMap λi=>xs[i]?).length<=xs.length:=by
  have:=slicePick_size_le its.toArray none none (some k);rw[hp,ge,<-(Sa r is).length,ge] at this;lia
 exact⟨.ref _,_,I4.lnew (t':=s3.toks) (Sa r is) (by lia),rfl,q _ _ (I4.hok.fresh (d8 _)) (λv hv=>by
  obtain⟨i,_,hi⟩:=xk.mp hv;exact f8 hi) hlen⟩
theorem Afp {K:d6}{G:St}{Q:VK}(h:te G H λx H1=>ts G H1 λy H2=>∃a xs st,x=.ref a/\y=.int st/\0<st/\SqL K H2 a xs /\
 ∀p ys,H2 p=none->(∀v∈ys,v∈xs)->ys.length<=xs.length->Q (.ref p) (upd H2 p (.lst ys))):Ac5 K te ts G H Q:=h
end
theorem eX:entryFor table "zip.__getattribute__"=some qj.«object.__getattribute__» :=
 entryFor_alias (id':="object.__getattribute__") (by kernel_rfl) (by first|rfl|decide +kernel) (by decide +kernel) (by kernel_rfl)
theorem jN:typeLookup (.type "zip") "keys"=pure none:=by rw[qt,n6];kernel_rfl
theorem jM:typeLookup (.type "zip") "__getattr__"=pure none:=by rw[qt,n6];kernel_rfl
abbrev Aeu (vs:Array fh):Obj:={ cls:=.type "zip",dict:=none,data:=.fields vs,slots:=#[] }
theorem mE (a:eg)(vs:Array fh)(u:Tok):Meets (qj.«object.__getattribute__» ⟨[.ref a,.str "keys" u],[]⟩) (λA R s=>s.heap.get? a=some (Aeu vs)/\raisesAttr (.ref a) "keys" A R s):=
 FY λprog w A R s hs=>by
  obtain⟨hp,g,d,tk,os⟩:=s;obtain⟨hx,hs⟩:=hs;have hT:(⟨hp,g,d,tk,os⟩:fv).TypeIs (.ref a) "zip":=⟨_,hx,rfl⟩;have f4:=jN
  repeat (any_goals (first|assumption|with_reducible refine FR hx ?_|wp_step))
  exact EF hs.1 hs.2 (by decide +kernel)
section
variable {prog:gl} {w:iq} {A:i9} {E:Za0} {s:fv}
theorem Aa0 {a:eg}{vs:Array fh}{Q:Za7->fv->Prop}(hx:s.heap.get? a=some (Aeu vs))(hA:A.handled=none)(q:∀h' tk,(∀b o,s.heap.get? b=some o->h'.get? b=some o)->Q none { s with heap:=h',toks:=tk }) :
  wpAny (model prog w) A (getAttr? (.ref a) "keys") Q E s:=by
 obtain⟨hp,g,d,tk,os⟩:=s;have hT:∀tk',(⟨hp,g,d,tk',os⟩:fv).TypeIs (.ref a) "zip":=λ_=>⟨_,hx,rfl⟩;have f1:=FF;have f3:=rj.lookup;have f4:=rj.bind (.ref a);have f5:=jM;unfold getAttr? getAttrBy? getAttrBy
 repeat (any_goals (first|assumption|exact hT _|((with_reducible show wpAny _ _ (call (EU "zip.__getattribute__") _ _) _ _ _);refine sq rj (hT _) eX (PySem.F.args_zip_getattribute_2 _ _) (mE a vs _) ⟨hx,hA,λh' tk' e hx'=>?_⟩)|wp_step))
 obtain⟨t',u',he⟩:=hx'.there;show wpAny _ _ (getattributeRaised _ _ _ _ _ _ _) _ _ _;unfold getattributeRaised
 repeat (any_goals (first|assumption|wp_step))
 exact q _ _ hx'.keeps
end
abbrev Nh (h:jj)(z TI TO T:eg)(c:Bool):Prop:=h.get? z=some (Aeu #[rawInt T,.bool c,.bool false,.ref TI,.ref TO])
section
variable {prog:gl} {w:iq} {A:i9} {E:Za0} {s:fv}
theorem xD {a:eg}{Q:Option Obj->fv->Prop}(h:Q (s.heap.get? a) s):wpAny (model prog w) A (loadIfAlive a) Q E s:=λΓ p hΓ=>by
 show Sem.wp _ _ (.loadIfAlive a _) _ _ _ _;rw[Sem.wp_loadIfAlive];exact h
theorem Yz {z TI TO T:eg}{c:Bool}{Q:Bool->fv->Prop}(hz:Nh s.heap z TI TO T c)(hT:s.heap.get? T=some oT)(q:∀h',Nh h' z TI TO T true->va z s.heap h'->Q false { s with heap:=h' }) :
  wpAny (model prog w) A (mf (.ref z)) Q E s:=by
 unfold mf;refine wpAny_bind (qe hz rfl (x:=rawInt T) rfl ?_);show wpAny _ _ (loadIfAlive (AN (T:Int)) >>= _) _ _ _;refine wpAny_bind (xD ?_);rw[gw,hT];show wpAny _ _ (field (.ref z) 1 >>= _) _ _ _;refine wpAny_bind (qe hz rfl (x:=.bool c) rfl ?_)
 cases c with
 |true=>
  exact fq (q s.heap hz (IF _ _))
 |false=>
  refine wpAny_bind (wpAny_setField_rec hz (by simp) λQR XC QS=>?_);exact fq (q QR XC QS)
theorem tM {z TI TO T:eg}{k1 k2:Nat}{xs ys:Array fh}{x y:fh}{c:Bool}{Q:Za0}(D:xp z TI TO i1 i2 l1 l2)
  (hz:Nh s.heap z TI TO T c)(hT:s.heap.get? T=some oT)(hTI:o6 s.heap TI (.ref i1) (.ref i2))(h1:s.heap.IsListIter i1 l1 k1)(h2:s.heap.IsListIter i2 l2 k2)(hl1:s.heap.IsList l1 xs)(hl2:s.heap.IsList l2 ys)(hx:xs[k1]?=some x)(hy:ys[k2]?=some y)
  (hQ:∀h',Nh h' z TI TO T true->h'.IsListIter i1 l1 (k1+1)->h'.IsListIter i2 l2 (k2+1)->o6 h' s.heap.objs.size x y->h'.objs.size=s.heap.objs.size+1->(∀b o,b≠z->b≠i1->b≠i2->s.heap.get? b=some o->h'.get? b=some o)->Q (.ref s.heap.objs.size) { s with heap:=h' }) :
  wpAny (model prog w) A (qj.«zip.__next__» ⟨[.ref z],[]⟩) (λfin s'=>∃v,fin=.done (.ret v)/\Q v s') E s:=by
 show wpAny _ _ (field (.ref z) 2 >>= _) _ _ _;refine wpAny_bind (qe hz rfl (x:=.bool false) rfl ?_);show wpAny _ _ (field (.ref z) 3 >>= _) _ _ _;refine wpAny_bind (qe hz rfl (x:=.ref TI) rfl ?_);refine wpAny_bind (ul hTI rfl ?_);show wpAny _ _ (mf (.ref z) >>= _) _ _ _;refine wpAny_bind (Yz hz hT λQR XC QS=>?_);rw[if_neg (by decide)];refine wpAny_bind ?_;rw[<-td];simp only[yx,EW];refine wpAny_bind (wpAny_bind (wpAny_holding ?_));show wpAny _ _ (q0 (.ref i1) >>= _) _ _ _;refine wpAny_bind (DA (h1.extBut QS.extBut D.i1z) (hl1.extBut QS.extBut D.l1z) hx λXQ XR QX=>fq ?_);refine fq ?_;refine wpAny_bind (wpAny_bind (wpAny_holding ?_));show wpAny _ _ (q0 (.ref i2) >>= _) _ _ _;refine wpAny_bind (DA ((h2.extBut QS.extBut D.i2z).extBut QX.extBut D.i12.symm) ((hl2.extBut QS.extBut D.l2z).extBut QX.extBut D.l2i1) hy λXD XS XE=>fq ?_);refine fq (fq ?_);have hsz:XD.objs.size=s.heap.objs.size:=by rw[XE.1,QX.1,QS.1]
 have kp:∀b o,b≠z->b≠i1->b≠i2->s.heap.get? b=some o->XD.get? b=some o:=λb o b1 b2 b3 e=>XE.extBut _ _ b3 (QX.extBut _ _ b2 (QS.extBut _ _ b1 e));have XT:Nh XD z TI TO T true:=XE.extBut _ _ D.i2z.symm (QX.extBut _ _ D.i1z.symm XC);show wpAny _ _ (newTuple [x,y] >>= _) _ _ _;refine wpAny_bind (AU (fq ⟨_,rfl,?_⟩));have hp:XD.objs.size=s.heap.objs.size:=hsz;rw[hp];refine hQ _ (en _ XT) ((XR.extBut XE.extBut D.i12).at λo e=>en _ e) (XS.at λo e=>en _ e) ?_ (by rw[pi,hp]) λb o b1 b2 b3 e=>en _ (kp b o b1 b2 b3 e);rw[<-hp];exact gq _ rfl
theorem Zm {z TI TO T:eg}{k1 k2:Nat}{xs ys:Array fh}{x y:fh}{c:Bool}{Q:Za7->fv->Prop}(D:xp z TI TO i1 i2 l1 l2)
  (hz:Nh s.heap z TI TO T c)(hT:s.heap.get? T=some oT)(hTI:o6 s.heap TI (.ref i1) (.ref i2))(h1:s.heap.IsListIter i1 l1 k1)(h2:s.heap.IsListIter i2 l2 k2)(hl1:s.heap.IsList l1 xs)(hl2:s.heap.IsList l2 ys)(hx:xs[k1]?=some x)(hy:ys[k2]?=some y)
  (hQ:∀h',Nh h' z TI TO T true->h'.IsListIter i1 l1 (k1+1)->h'.IsListIter i2 l2 (k2+1)->o6 h' s.heap.objs.size x y->h'.objs.size=s.heap.objs.size+1->(∀b o,b≠z->b≠i1->b≠i2->s.heap.get? b=some o->h'.get? b=some o)->Q (some (.ref s.heap.objs.size)) { s with heap:=h' }) :
  wpAny (model prog w) A (pyNext (.ref z)) Q E s:=by
 have hTy:s.TypeIs (.ref z) "zip":=⟨_,hz,rfl⟩;unfold pyNext;exact wpAny_bind (yd (rf (name:=oy "__next__") hTy qw
  (sk qw hTy zp
   (tM D hz hT hTI h1 h2 hl1 hl2 hx hy λh' a1 a2 a3 a4 a5 a6=>fq (hQ h' a1 a2 a3 a4 a5 a6)) (zi _))))
theorem jO {z TI TO T:eg}{k1:Nat}{xs:Array fh}{c:Bool}{Q:Za7->fv->Prop}(hh:A.handled=none)(D:xp z TI TO i1 i2 l1 l2)
  (hz:Nh s.heap z TI TO T c)(hT:s.heap.get? T=some oT)(hTI:o6 s.heap TI (.ref i1) (.ref i2))(h1:s.heap.IsListIter i1 l1 k1)(hl1:s.heap.IsList l1 xs)(hx:xs[k1]?=none)
  (hQ:∀h',(∀b o,b≠z->b≠i1->b≠i2->s.heap.get? b=some o->h'.get? b=some o)->Q none { s with heap:=h' }) :
  wpAny (model prog w) A (pyNext (.ref z)) Q E s:=by
 have hTy:s.TypeIs (.ref z) "zip":=⟨_,hz,rfl⟩;unfold pyNext;refine wpAny_bind (yd (rf (name:=oy "__next__") hTy qw
  (sk qw hTy zp ?_ (zi _))))
 show wpAny _ _ (field (.ref z) 2 >>= _) _ _ _;refine wpAny_bind (qe hz rfl (x:=.bool false) rfl ?_);show wpAny _ _ (field (.ref z) 3 >>= _) _ _ _;refine wpAny_bind (qe hz rfl (x:=.ref TI) rfl ?_);refine wpAny_bind (ul hTI rfl ?_);show wpAny _ _ (mf (.ref z) >>= _) _ _ _;refine wpAny_bind (Yz hz hT λQR XC QS=>?_);rw[if_neg (by decide)];refine wpAny_bind ?_;rw[<-td];simp only[yx,EW];refine wpAny_bind (wpAny_bind (wpAny_holding ?_));show wpAny _ _ (q0 (.ref i1) >>= _) _ _ _;refine wpAny_bind (wpAny_nextOf_list_end hh (h1.extBut QS.extBut D.i1z) (hl1.extBut QS.extBut D.l1z) hx λXQ e QX he=>?_);obtain⟨oe,hoe,hce⟩:=he;show wpAny _ _ (isInstance (.ref e) (.type "StopIteration") >>= _) _ _ _;refine wpAny_bind (wpAny_isInstance (T:="StopIteration") (b:=true) ⟨oe,hoe,hce⟩ isSubtype_stop ?_);exact fq (hQ _ λb o b1 b2 b3 e=>QX _ _ b2 (QS.extBut _ _ b1 e))
end
def Ku (vs:List (Key×fh)):Prop:=∀p∈vs,∃y:V,Bc y p.2
theorem U0:∀vs:List (Key×fh),Ku vs->∃kvs:List (Key×V),KV kvs vs
 |[],_=>⟨[],.nil⟩
 |p::r,h=>by
  obtain⟨kvs,hk⟩:=U0 r λq hq=>h q (gv _ hq);obtain⟨y,hy⟩:=h p gu;exact⟨(p.1,y)::kvs,.cons ⟨rfl,hy⟩ hk⟩
theorem Vx:∀{kvs:List (Key×V)} {vs:List (Key×fh)},KV kvs vs->Ku vs
 |_,_,.nil=>λp hp=>by cases hp
 |_,_,.cons h t=>λp hp=>by
  rcases iu.mp hp with rfl|hp
  ·exact⟨_,h.2⟩
  ·exact Vx t p hp
theorem Kq {vs:List (Key×fh)}{k:Key}{u:fh}(h:Ku vs)(hu:∃y:V,Bc y u):Ku (stored vs k u):=by
 intro p hp;unfold stored at hp;split at hp
 ·obtain⟨q,hq,e⟩:=lp.mp hp
  split at e
  ·rw[<-e];exact hu
  ·rw[<-e];exact h q hq
 ·rcases il.mp hp with hp|hp
  ·exact h p hp
  ·rw[fz.mp hp];exact hu
theorem eO {vs more:List (Key×fh)}(h:Ku vs)(hm:Ku more):Ku (merged vs more):=by
 unfold merged
 induction more generalizing vs with
 |nil=>exact h
 |cons p r ih=>exact ih (Kq h (hm p gu)) λq hq=>hm q (gv _ hq)
section
variable {prog:gl} {w:iq} {A:i9} {E:Za0} {R:wm->fv->Prop}
theorem Bp:plainId "dict.update.loop"=true:=by decide +kernel
theorem D0:entryFor table "dict.update.loop"=some qj.«dict.update.loop»:=entryFor_of_tree (by kernel_rfl)
theorem Up {T:eg}{x y:fh}{Q:Za3->fv->Prop}(hT:o6 s.heap T x y)(h:Q [x,y] s):wpAny (model prog w) A (qd (.ref T)) Q E s:=by
 have ty:s.TypeIs (.ref T) "tuple":=⟨_,hT,rfl⟩;unfold qd;refine wpAny_bind (qh ty ?_);rw[if_pos (by decide)];exact wpAny_bind (ul hT rfl (fq h))
structure DzA (d z TI TO i1 i2 l1 l2:eg):Prop where
 za:xp z TI TO i1 i2 l1 l2
 dz:d≠z
 dI:d≠TI
 dO:d≠TO
 d1:d≠i1
 d2:d≠i2
 dl:d≠l1
 dm:d≠l2
theorem Ads {d z TI TO T:eg}{xs ys:Array fh}(D:DzA d z TI TO i1 i2 l1 l2)(hTz:T≠z)(hT1:T≠i1)(hT2:T≠i2)(hTd:T≠d)(hh:A.handled=none)(he:xs.size=ys.size)
  (hk:∀(i:Nat) x,xs[i]?=some x->∃n t,x=o7 n t)(hv:∀(i:Nat) y,ys[i]?=some y->∃v:V,Bc v y):∀(m i:Nat) (s:fv) (tk:Tok) (c:Bool) (vs:List (Key×fh)) (oT:Obj),xs.size-i=m->i<=xs.size->Nh s.heap z TI TO T c->s.heap.get? T=some oT->o6 s.heap TI (.ref i1) (.ref i2) ->
   s.heap.IsListIter i1 l1 i->s.heap.IsListIter i2 l2 i->s.heap.IsList l1 xs->s.heap.IsList l2 ys->s.heap.DictOf (Bf prog w) d vs->Ku vs->vs.length+(xs.size-i)<=sizeLine ->
   (∀h' k vs',h'.DictOf (Bf prog w) d vs'->Ku vs'->vs'.length<=vs.length+(xs.size-i)->(∀b o,b≠z->b≠i1->b≠i2->b≠d->s.heap.get? b=some o->h'.get? b=some o)->R (.ok (.ret .none)) { s with heap:=h',toks:=k }) ->
   codeAny (model prog w) A (.builtin "dict.update.loop" ⟨[.ref d,.ref z,.int i tk,.none],[]⟩) R s:=by
 intro m
 induction m with
 |zero=>
  intro i s tk c vs oT hm hi hz hT hTI h1 h2 hl1 hl2 hd hkn hsz q;refine mh D0 ?_;rw[j5 Bp _];show wpAny _ A.in1 (pyNext (.ref z) >>= _) _ _ s;refine wpAny_bind (jO (by exact hh) D.za hz hT hTI h1 hl1 (l5 (by lia)) λh' kp=>?_);show wpAny _ A.in1 (si d [] >>= _) _ _ _;refine wpAny_bind (fq (fq ?_));obtain⟨o,es,ep,ho,r⟩:=hd;exact q h' s.toks vs ⟨o,es,ep,kp _ _ D.dz D.d1 D.d2 ho,r⟩ hkn (jh _ _) λb o b1 b2 b3 _ e=>kp b o b1 b2 b3 e
 |succ m ih=>
  intro i s tk c vs oT hm _ hz hT hTI h1 h2 hl1 hl2 hd hkn hsz q;have hi:i<xs.size:=Nat.lt_of_sub_eq_succ hm;have em:xs.size-(i+1)=m:=by rw[Nat.sub_add_eq,hm];rfl
  rw[hm] at hsz q;obtain⟨x,hx⟩:∃x,xs[i]?=some x:=⟨_,jr hi⟩;obtain⟨y,hy⟩:∃y,ys[i]?=some y:=⟨_,jr (he▸hi)⟩;obtain⟨n,t,rfl⟩:=hk i x hx;refine mh D0 ?_;rw[j5 Bp _];show wpAny _ A.in1 (pyNext (.ref z) >>= _) _ _ s;refine wpAny_bind (Zm D.za hz hT hTI h1 h2 hl1 hl2 hx hy λh' hz' h1' h2' hp hsz' kp=>?_);have hd':h'.DictOf (Bf prog w) d vs:=by
   obtain⟨o,es,ep,ho,r⟩:=hd;exact⟨o,es,ep,kp _ _ D.dz D.d1 D.d2 ho,r⟩
  show wpAny _ A.in1 (holding _ _ >>= _) _ _ _;refine wpAny_bind (wpAny_holding (wpAny_bind (AT (Up hp ?_))));show wpAny _ A.in1 (holding _ (dictSet d (.int n t) y)) _ _ _;refine wpAny_holding (x0 (knd:=Bf prog w) (k:=.inl n) (Ll prog w n t) hd' (λh2 dd' hs=>?_) (by lia));have k2:∀b o,b≠z->b≠i1->b≠i2->b≠d->s.heap.get? b=some o->h2.get? b=some o:=λb o b1 b2 b3 b4 e=>(hs.2 b b4).trans (kp b o b1 b2 b3 e);have st:∀b o,b≠d->h'.get? b=some o->h2.get? b=some o:=λb o b4 e=>(hs.2 b b4).trans e;have hln:=zl vs (vh n:Key) y;refine fq ⟨ou Bp _,?_⟩;refine ih (i+1) _ _ true _ oT em hi (st _ _ D.dz.symm hz') (k2 _ _ hTz hT1 hT2 hTd hT) (k2 _ _ D.za.TIz D.za.TIi1 D.za.TIi2 D.dI.symm hTI) (h1'.at λo e=>st _ o D.d1.symm e) (h2'.at λo e=>st _ o D.d2.symm e)
   (hl1.at λo e=>k2 _ o D.za.l1z D.za.l1i1 D.za.l1i2 D.dl.symm e) (hl2.at λo e=>k2 _ o D.za.l2z D.za.l2i1 D.za.l2i2 D.dm.symm e) dd' (Kq hkn (hv i y hy)) (by rw[em];lia) λh3 k vs' hd3 hkn3 hl3 kp3=>?_
  exact q h3 k vs' hd3 hkn3 (by rw[em] at hl3;lia) λb o b1 b2 b3 b4 e=>kp3 b o b1 b2 b3 b4 (k2 b o b1 b2 b3 b4 e)
theorem uD {tk:Tok}{d z TI TO:eg}{a b:fh}{xs ys:Array fh}{vs:List (Key×fh)}(D:DzA d z TI TO i1 i2 l1 l2)(hh:A.handled=none)(he:xs.size=ys.size)
  (hk:∀(i:Nat) x,xs[i]?=some x->∃n t,x=o7 n t)(hv:∀(i:Nat) y,ys[i]?=some y->∃v:V,Bc v y)(hz:GB s.heap z TI TO .none)(hTO:o6 s.heap TO a b)(hTI:o6 s.heap TI (.ref i1) (.ref i2))
  (h1:s.heap.IsListIter i1 l1 0)(h2:s.heap.IsListIter i2 l2 0)(hl1:s.heap.IsList l1 xs)(hl2:s.heap.IsList l2 ys)(hd:s.heap.DictOf (Bf prog w) d vs)(hkn:Ku vs)(hsz:vs.length+xs.size<=sizeLine)
  (q:∀h' k vs',h'.DictOf (Bf prog w) d vs'->Ku vs'->vs'.length<=vs.length+xs.size->(∀b o,b≠z->b≠TO->b≠i1->b≠i2->b≠d->s.heap.get? b=some o->h'.get? b=some o)->R (.ok (.ret .none)) { s with heap:=h',toks:=k }) :
  codeAny (model prog w) A (.builtin "dict.update.loop" ⟨[.ref d,.ref z,.int 0 tk,.none],[]⟩) R s:=by
 refine mh D0 ?_;rw[j5 Bp _];show wpAny _ A.in1 (pyNext (.ref z) >>= _) _ _ s;rcases qp xs.size with h0|h0
 ·refine wpAny_bind (EG (by exact hh) D.za hz hTI hTO h1 h2 hl1 hl2 (.inl (l5 (by lia))) λh' kp=>?_)
  show wpAny _ A.in1 (si d [] >>= _) _ _ _;refine wpAny_bind (fq (fq ?_));obtain⟨o,es,ep,ho,r⟩:=hd;exact q h' s.toks vs ⟨o,es,ep,kp _ _ D.dz D.dO D.d1 D.d2 ho,r⟩ hkn (jh _ _) λb o b1 b2 b3 b4 _ e=>kp b o b1 b2 b3 b4 e
 ·obtain⟨x,hx⟩:∃x,xs[0]?=some x:=⟨_,jr h0⟩
  obtain⟨y,hy⟩:∃y,ys[0]?=some y:=⟨_,jr (show 0<ys.size by lia)⟩;obtain⟨n,t,rfl⟩:=hk 0 x hx;refine wpAny_bind (DO D.za hz hTI hTO h1 h2 hl1 hl2 hx hy λh' hz' _ h1' h2' hp hsz' kp=>?_);have hd':h'.DictOf (Bf prog w) d vs:=by
   obtain⟨o,es,ep,ho,r⟩:=hd;exact⟨o,es,ep,kp _ _ D.dz D.dO D.d1 D.d2 ho,r⟩
  have lt:∀{c o},s.heap.get? c=some o->s.heap.objs.size≠c:=λe=>jo (fu e);have ltd:s.heap.objs.size≠d:=by
   obtain⟨o,es,ep,ho,r⟩:=hd;exact lt ho
  show wpAny _ A.in1 (holding _ _ >>= _) _ _ _;refine wpAny_bind (wpAny_holding (wpAny_bind (AT (Up hp ?_))));show wpAny _ A.in1 (holding _ (dictSet d (.int n t) y)) _ _ _;refine wpAny_holding (x0 (knd:=Bf prog w) (k:=.inl n) (Ll prog w n t) hd' (λhb dd' hs=>?_) (by lia));have k2:∀b o,b≠z->b≠TO->b≠i1->b≠i2->b≠d->s.heap.get? b=some o->hb.get? b=some o:=λb o b1 b2 b3 b5 b4 e=>(hs.2 b b4).trans (kp b o b1 b2 b3 b5 e);have st:∀b o,b≠d->h'.get? b=some o->hb.get? b=some o:=λb o b4 e=>(hs.2 b b4).trans e;have hln:=zl vs (vh n:Key) y;refine fq ⟨ou Bp _,?_⟩;refine Ads D (T:=s.heap.objs.size) (lt hz) (by obtain⟨_,e,_⟩:=h1;exact lt e) (by obtain⟨_,e,_⟩:=h2;exact lt e) ltd hh he hk hv _ 1 _ _ false _ _ rfl h0 (st _ _ D.dz.symm hz') (st _ _ ltd hp) (k2 _ _ D.za.TIz D.za.TITO D.za.TIi1 D.za.TIi2 D.dI.symm hTI) (h1'.at λo e=>st _ o D.d1.symm e) (h2'.at λo e=>st _ o D.d2.symm e)
   (hl1.at λo e=>k2 _ o D.za.l1z D.za.l1TO D.za.l1i1 D.za.l1i2 D.dl.symm e) (hl2.at λo e=>k2 _ o D.za.l2z D.za.l2TO D.za.l2i1 D.za.l2i2 D.dm.symm e) dd' (Kq hkn (hv 0 y hy)) (by have e1:=t8 h0;generalize xs.size-1=m at e1 ⊢;lia) λh3 k vs' hd3 hkn3 hl3 kp3=>?_
  exact q h3 k vs' hd3 hkn3 (by have e1:=t8 h0;generalize xs.size-1=m at e1 hl3;lia) λb o b1 b2 b3 b5 b4 e=>kp3 b o b1 b3 b5 b4 (k2 b o b1 b2 b3 b5 b4 e)
theorem Xs {z TI TO:eg}{a b:fh}{xs ys:Array fh}{Q:Za0}(D:xp z TI TO i1 i2 l1 l2)(hh:A.handled=none)(he:xs.size=ys.size)
  (hk:∀(i:Nat) x,xs[i]?=some x->∃n t,x=o7 n t)(hv:∀(i:Nat) y,ys[i]?=some y->∃v:V,Bc v y)(hz:GB s.heap z TI TO .none)(hTO:o6 s.heap TO a b)(hTI:o6 s.heap TI (.ref i1) (.ref i2))
  (h1:s.heap.IsListIter i1 l1 0)(h2:s.heap.IsListIter i2 l2 0)(hl1:s.heap.IsList l1 xs)(hl2:s.heap.IsList l2 ys)(hsz:xs.size<=sizeLine)
  (q:∀h' k vs',h'.DictOf (Bf prog w) s.heap.objs.size vs'->Ku vs'->vs'.length<=xs.size->(∀b o,b≠z->b≠TO->b≠i1->b≠i2->s.heap.get? b=some o->h'.get? b=some o)->Q (.ref s.heap.objs.size) { s with heap:=h',toks:=k }) :
  wpAny (model prog w) A (call (.type "dict") [.ref z]) Q E s:=by
 refine AY (Q₁:=λobj QN=>obj=.ref s.heap.objs.size/\QN={ s with heap:=s.heap.push { cls:=.type "dict",data:=.dict #[] } }) zo (yo _) zh (GH _ ⟨rfl,rfl⟩) ?_;rintro obj QN ⟨rfl,rfl⟩;have hnew:(s.heap.push { cls:=.type "dict",data:=.dict #[] }).DictOf (Bf prog w) s.heap.objs.size []:=xg s.heap;have up:∀b o,s.heap.get? b=some o->(s.heap.push { cls:=.type "dict",data:=.dict #[] }).get? b=some o:=λb o e=>en _ e;have lt:∀{c o},s.heap.get? c=some o->s.heap.objs.size≠c:=λe=>jo (fu e);refine⟨hnew.typeIs,zc _ _,?_⟩;unfold qj.«dict.__init__»;refine wpAny_bind ?_;unfold xz;refine wpAny_bind (DQ hnew.typeIs ?_);show wpAny _ _ (pure (s.heap.objs.size,[jb z])) _ _ _;refine fq ?_;show wpAny _ _ (p7 "dict.__init__" s.heap.objs.size (.ref z) [] .none) _ _ _;unfold p7;have hz':=up _ _ hz;refine wpAny_bind (qh (T:="zip") ⟨_,hz',rfl⟩ ?_);rw[if_pos (by decide)];refine wpAny_bind (Aa0 hz' (by exact hh) λh' tk kp=>?_);rw[if_pos (by rfl)];refine wpAny_bind (um (wpAny_bind (vz (kp _ _ hz') ?_)));have up2:∀b o,s.heap.get? b=some o->h'.get? b=some o:=λb o e=>kp _ _ (up b o e);have hd':h'.DictOf (Bf prog w) s.heap.objs.size []:=by
  obtain⟨o,es,ep,ho,r⟩:=hnew;exact⟨o,es,ep,kp _ _ ho,r⟩
 refine fq ⟨ou Bp _,?_⟩;refine uD (a:=a) (b:=b) (vs:=[]) ⟨D,lt hz,lt hTI,lt hTO,?_,?_,?_,?_⟩ (by exact hh) he hk hv (up2 _ _ hz) (up2 _ _ hTO) (up2 _ _ hTI) (h1.at λo e=>up2 _ o e) (h2.at λo e=>up2 _ o e) (hl1.at λo e=>up2 _ o e) (hl2.at λo e=>up2 _ o e) hd' (λp hp=>by cases hp) (by simpa using hsz) λh3 k vs' hd3 hkn3 hl3 kp3=>?_
 ·obtain⟨_,e,_⟩:=h1;exact lt e
 ·obtain⟨_,e,_⟩:=h2;exact lt e
 ·obtain⟨_,e,_⟩:=hl1;exact lt e
 ·obtain⟨_,e,_⟩:=hl2;exact lt e
 ·exact⟨rfl,q h3 k vs' hd3 hkn3 (by simpa using hl3) λb o b1 b2 b3 b4 e=>kp3 b o b1 b2 b3 b4 (lt e).symm (up2 _ _ e)⟩
end
theorem Jt:∀{kvs:List (Key×V)} {vs:List (Key×fh)},KV kvs vs->kvs.length=vs.length
 |_,_,.nil=>rfl
 |_,_,.cons _ t=>congrArg (·+1) (Jt t)
section
variable {X:Cx}
def Ac0 (K:d6)(ta:TA):TE:=λG H Q=>ta G H λvs H1=>∃a b ns ys,vs=[.ref a,.ref b]/\SqL K H1 a (xw V.int ns)/\SqL K H1 b ys/\ns.length=ys.length/\∀p kvs,H1 p=none->kvs.length<=ns.length->Q (.ref p) (upd H1 p (.dK kvs))
theorem Ab3 {a b:i8}{ta:TA}{p q:Pos}(hcal:X.calm=true)(hg:Gl X "dict")(hm:X.mg "dict"=none)(hg2:Gl X "zip")(hm2:X.mg "zip"=none)(ha:PA X [a,b] ta)
  (hs:autoParam (starEach [a,b] X.env=[(false,eval a X.env),(false,eval b X.env)]) QD)(hs2:autoParam (starEach [b] X.env=[(false,eval b X.env)]) QD)
  (hs3:autoParam (starEach [wv (.Name "zip" q) [a,b] [] pos2] X.env=[(false,eval (.Call (.Name "zip" q) [a,b] [] pos2) X.env)]) QD) :
  PE X (.Call (.Name "dict" p) [.Call (.Name "zip" q) [a,b] [] pos2] [] pos) (Ac0 X.K ta):=by
 k_in;refine wpAny_Call_Name_kw (Do I hg hm vK (ik ?_ hs3 rfl) (by decide) (by decide));rw[hs3];refine lq ?_;show wpAny _ _ (eval (wv (.Name "zip" q) [a,b] [] pos2) X.env) _ _ _;refine wpAny_Call_Name_kw (Do I hg2 hm2 wH (ik (thA ha I h λus s1 vs H1 I1 r1 q1=>?_) (by rw[hs,hs2]) (by rw[hs2];rfl)) (by decide) (by decide));obtain⟨a,b,ns,ys,e,hx,hy,hl,q⟩:=q1;subst e;obtain⟨u,v,rfl,ru,rv⟩:=Nk r1;cases ru;cases rv;obtain⟨its,rv,p,hz⟩:=I1.list hx;obtain⟨its2,rv2,p2,hz2⟩:=I1.list hy;have l1:=rv.length;have l2:=rv2.length;rw[d7] at l1;refine FG p.isList p2.isList λh' g1 g2 g3 g4 g5 hsz kk=>?_;refine n5 ?_;have A1:h'.IsList a its.toArray:=p.isList.at λo e=>kk _ o e;have A2:h'.IsList b its2.toArray:=p2.isList.at λo e=>kk _ o e;have D:=dX (Nv _) (⟨g1,g2,⟨_,_,g3⟩,g4,g5⟩:StZ _ _ _ _ _ a b 0 h') A1 A2;refine Xs (s:={ s1 with heap:=h' }) D (I1.ok.hd hcal) (by simp;lia) (λi x e=>?_) (λi y e=>?_) g1 g3 g2 g4 g5 A1 A2 (by simp;rw[d7] at hz;lia) λh2 k vs' d2 kn lv kp=>?_
 ·have e':its[i]?=some x:=by simpa using e
  have li:=(fc.mp e').1;have hn:(xw V.int ns)[i]?=some (.int (ns[i]'(by lia))):=by rw[d9,d4 (by lia)];rfl
  obtain⟨u,hu,t,rfl⟩:=rv.get hn;rw[e'] at hu;cases hu;exact⟨_,_,rfl⟩
 ·have e':its2[i]?=some y:=by simpa using e
  have li:=(fc.mp e').1;obtain⟨u,hu,rr⟩:=rv2.get (d4 (show i<ys.length by lia));rw[e'] at hu;cases hu;exact⟨_,rr⟩
 ·obtain⟨kvs,hk⟩:=U0 vs' kn
  have lk:=Jt hk;have hle:s1.heap.objs.size<=h'.objs.size:=by lia
  have lns:kvs.length<=ns.length:=by simp at lv;lia
  refine⟨.ref h'.objs.size,_,I1.laid (a:=h'.objs.size) (o:=.dK kvs) (t':=k) (λb o e=>?_) hle ⟨?_,?_,vs',hk,d2⟩,rfl,q _ kvs (I1.hok.fresh hle) lns⟩
  ·have lt:=fu e
   have ne:∀c,s1.heap.objs.size<=c->b≠c:=λc hc z=>ln _ (fk lt (z▸hc));exact kp b o (ne _ (jh _ _)) (ne _ (jh _ _)) (ne _ (d8 _)) (ne _ (jh _ _)) (kk _ _ e)
  ·rw[d7] at hz;lia
  ·exact beq_eq_false_iff_ne.mpr (rh (gm (fk (eT I1) hle)))
theorem Ae5 {G:St}{Q:VK}{ta:TA}{K:d6}(h:ta G H λvs H1=>∃a b ns ys,vs=[.ref a,.ref b]/\SqL K H1 a (xw V.int ns)/\SqL K H1 b ys/\ns.length=ys.length/\∀p kvs,H1 p=none->kvs.length<=ns.length->Q (.ref p) (upd H1 p (.dK kvs))):Ac0 K ta G H Q:=h
def rW:V->List V->Hp->VK->Prop:=λx vs H Q=>∃a b kvs kvs2,x=.ref a/\vs=[.ref b]/\a≠b/\H a=some (.dK kvs)/\H b=some (.dK kvs2)/\kvs.length+kvs2.length<=sizeLine/\∀kvs',kvs'.length<=kvs.length+kvs2.length->Q .non (upd H a (.dK kvs'))
theorem tD:MtM X "dict.update" rW:=by
 intro pins s G H x vs v us Q I rx rv h;obtain⟨a,b,kvs,kvs2,rfl,rfl,hne,hA,hB,hz,q⟩:=h;cases rx;obtain⟨u,rfl,ru⟩:=Fh rv;cases ru;obtain⟨z1,m1,v1,k1,d1⟩:=(show Cq X.prog X.w H s.heap a (.dK kvs) from I.hok a _ hA);obtain⟨z2,m2,v2,k2,d2⟩:=(show Cq X.prog X.w H s.heap b (.dK kvs2) from I.hok b _ hB);have e1:=Jt k1;have e2:=Jt k2;refine DG zb d1.typeIs PySem.F.entry_dict_update (PySem.F.args_dict_update_2 _ _) (meets_dict_update (Bf X.prog X.w) a b hne m2)
  ⟨v1,v2,d1,d2,by lia,λh' dd _ hs=>?_⟩
 have lm:=merged_length_le v1 v2;obtain⟨kvs',hk⟩:=U0 (merged v1 v2) (eO (Vx k1) (Vx k2));have lk:=Jt hk;refine⟨.non,_,I.write (x:=a) (e:=a) (o:=.dK kvs') (t':=s.toks) (by rw[hA];trivial) (.inl rfl) (λb u hb e=>(hs.2 b hb).trans e) ?_ ⟨by lia,m1,_,hk,dd⟩,rfl,q kvs' (by lia)⟩;obtain⟨o,es,ep,ho,r⟩:=dd;exact⟨o,ho⟩
end
theorem Nz:∀{xs:List V} {us:Za3},xs.length=us.length->(∀(i:Nat) x u,xs[i]?=some x->us[i]?=some u->Bc x u)->Ay xs us
 |[],[],_,_=>.nil
 |x::xs,u::us,hl,h=>.cons (h 0 x u rfl rfl) (Nz (ug hl) λi y v e1 e2=>h (i+1) y v e1 e2)
structure kL (K:d6) (x qual:Str) (st:iz) (f:eg) (fd:jq):Prop where
 ex:∃(oc:fh) (od:Option eg) (T:eg) (kV doc pm:fh) (an:Option eg) (cdv ct:fh) (osl:Array (Za7)) (o:Obj) (v:fh) (n:Nat),
  fd=jk x qual (B2 st) (Bk st) (Ac st) (.ref T) kV doc pm an cdv ct/\K.lookup f=some ⟨oc,od,.func fd,osl⟩/\lx K cdv qual=true/\K.lookup T=some o/\o.data=.seq #[v] n
section
variable {P:gl} {w:iq} {K:d6} {mg:Za2} {base:jj}
theorem kL.okE {x:Str}{st:iz}{f:eg}{k:Nat}(F:kL K x qual st f fd)(S:Ah N ps (Ac st))(len:∀vs H Q E,sp vs H Q E->vs.length=ps.length)
  (hbody:∀(cdv:fh) (A:i9) (outer:List Env) (s:fv) (H:Hp) (vs:List V) (Q:VK) (E:XK),Co k (A.deeper (envOfC qual (Ac st) s.heap.objs.size f cdv))->sp vs H Q E ->
   ∃t,PSs (iE (CXE P w) P w K mg base N qual (Ac st) f cdv A outer s H E) (Bk st) t/\t { nx:=λ_ H'=>Q .non H',rt:=Q } (Nm N vs) H):Ar P w K mg base (CXE P w) (k+1) f fd ps sp:=by
 obtain⟨oc,od,T,kV,doc,pm,an,cdv,ct,osl,o,v,n,rfl,lk,hcd,_⟩:=F.ex;exact vC lk hcd S len λA outer s H vs Q E hr hsp=>hbody cdv A outer s H vs Q E hr hsp
theorem kL.binds {x:Str}{st:iz}{f:eg}(F:kL K x qual st f fd)
  (h:∀(T:eg) (kV doc pm:fh) (an:Option eg) (cdv ct:fh) (us:Za3),us.length=ps.length->∃k,bindArgs (jk x qual (B2 st) (Bk st) (Ac st) (.ref T) kV doc pm an cdv ct) ⟨us,[]⟩=seqItems? (.ref T) >>= k/\∀v,k (some #[v])=pure (ps.zip us)):Fm K fd ps []:=by
 obtain⟨oc,od,T,kV,doc,pm,an,cdv,ct,osl,o,v,n,rfl,lk,hcd,hT,hd⟩:=F.ex;intro s us KX hl;rw[gy] at hl ⊢;obtain⟨k,h1,h2⟩:=h T kV doc pm an cdv ct us hl;exact AQ rfl (KX _ _ hT) hd h1 (h2 v)
theorem Ab8 {x:Str}{st:iz}{f T:eg}{osl:Array (Za7)}{kV v:fh}{o:Obj}(l:K.lookup f=some ⟨oc,od,.func (jk x qual (B2 st) (Bk st) (Ac st) (.ref T) kV doc pm an cdv ct),osl⟩)
  (c:lx K cdv qual=true)(hT:K.lookup T=some o)(hd:o.data=.seq #[v] n):kL K x qual st f (jk x qual (B2 st) (Bk st) (Ac st) (.ref T) kV doc pm an cdv ct):=⟨⟨oc,od,T,kV,doc,pm,an,cdv,ct,osl,o,v,n,rfl,l,c,hT,hd⟩⟩
end
section
variable {G:St} {H:Hp}
theorem Ad2 {to ti:TE}{t:Abu}{v:V}{R:St->Hp->Prop}(h:to G H λo H1=>ti G H1 λi H2=>t o i v H2 λH3=>R G H3):Agh to ti t v G H R:=h
theorem Ab6 {j:Nat}(h:j<n):ixN n (j:Int)=some j:=by
 unfold ixN;rw[if_pos (by lia),if_pos (by lia)];simp
theorem zK {p:eg}{j:Nat}{i:Int}{v:V}{R:Hp->Prop}(h:H p=some (.lst xs))(hi:i=j)(hj:j<xs.length)(q:R (upd H p (.lst (xs.set j v)))):Adn (.ref p) (.int i) v H R:=
 ⟨p,xs,i,j,rfl,rfl,h,by rw[hi];exact Ab6 hj,q⟩
theorem uP {a b:eg}{kvs kvs2:List (Key×V)}{Q:VK}(hn:a≠b)(h1:H a=some (.dK kvs))(h2:H b=some (.dK kvs2))(hz:kvs.length+kvs2.length<=sizeLine)(q:∀kvs',kvs'.length<=kvs.length+kvs2.length->Q .non (upd H a (.dK kvs'))):rW (.ref a) [.ref b] H Q:=
 ⟨a,b,kvs,kvs2,rfl,rfl,hn,h1,h2,hz,q⟩
end
section
variable {κ:Type} [DecidableEq κ]
def Cn (kvs:List (κ×V))(k:κ):Option V:=(kvs.find? λkv=>decide (kv.1=k)).map (·.2)
def Lw (kvs:List (κ×V))(k:κ)(v:V):List (κ×V):=
 if(kvs.any λkv=>decide (kv.1=k))=true then kvs.map (λkv=>if kv.1=k then(kv.1,v) else kv) else kvs++[(k,v)]
theorem Ep {p:κ×V}{r:List (κ×V)}{k:κ}(e:p.1=k):Cn (p::r) k=some p.2:=by simp[Cn,vq,e]
theorem Em {p:κ×V}{r:List (κ×V)}{k:κ}(e:¬ p.1=k):Cn (p::r) k=Cn r k:=by simp[Cn,vq,e]
theorem W8 (k:κ):∀kvs:List (κ×V),(kvs.any λkv=>decide (kv.1=k))=(Cn kvs k).isSome
 |[]=>rfl
 |p::r=>by
  rw[ui]
  by_cases e:p.1=k
  ·simp only[Ep e,decide_eq_true e,Bool.true_or,Option.isSome_some]
  ·rw[Em e,decide_eq_false e,Bool.false_or];exact W8 k r
theorem gS (k j:κ)(y:V):∀kvs:List (κ×V),Cn (kvs.map λkv=>if kv.1=k then(kv.1,y) else kv) j=(Cn kvs j).map λx=>if j=k then y else x
 |[]=>rfl
 |p::r=>by
  have ih:=gS k j y r;rw[im]
  by_cases h:p.1=k
  ·rw[if_pos h]
   by_cases e:p.1=j
   ·rw[Ep (p:=(p.1,y)) e,Ep e,rz,if_pos (e.symm.trans h)]
   ·rw[Em (p:=(p.1,y)) e,Em e,ih]
  ·rw[if_neg h]
   by_cases e:p.1=j
   ·rw[Ep (p:=p) e,Ep e,rz,if_neg (λz=>h (e.trans z))]
   ·rw[Em (p:=p) e,Em e,ih]
theorem Yy (k j:κ)(y:V):∀kvs:List (κ×V),Cn kvs k=none->Cn (kvs++[(k,y)]) j=if j=k then some y else Cn kvs j
 |[],_=>by
  by_cases e:k=j
  ·rw[if_pos e.symm];exact Ep (p:=(k,y)) e
  ·rw[if_neg (λz=>e z.symm)];exact Em (p:=(k,y)) e
 |p::r,hn=>by
  rw[m9];have hk:¬ p.1=k:=λz=>by rw[Ep z] at hn;cases hn
  rw[Em hk] at hn;have ih:=Yy k j y r hn
  by_cases e:p.1=j
  ·rw[Ep e,Ep e,if_neg (λz=>hk (e.trans z))]
  ·rw[Em e,Em e,ih]
theorem Jv (kvs:List (κ×V))(k j:κ)(y:V):Cn (Lw kvs k y) j=if j=k then some y else Cn kvs j:=by
 unfold Lw
 by_cases a:(kvs.any λkv=>decide (kv.1=k))=true
 ·rw[if_pos a,gS]
  rw[W8] at a
  by_cases e:j=k
  ·obtain⟨x,hx⟩:=jx.mp a
   rw[if_pos e,e,hx,rz,if_pos rfl]
  ·rw[if_neg e]
   cases Cn kvs j with
   |none=>rfl
   |some x=>rw[rz,if_neg e]
 ·rw[if_neg a]
  refine Yy k j y kvs ?_;rw[W8] at a
  cases q:Cn kvs k with
  |none=>rfl
  |some x=>rw[q] at a;exact(a rfl).elim
theorem Lh (kvs:List (κ×V))(k:κ)(v:V):(Lw kvs k v).length<=kvs.length+1:=by
 unfold Lw;split
 ·rw[d7];lia
 ·rw[eh,gn,jt];lia
theorem Pl.getD {o:Option V}{u:Za7}{d:V}{d':fh}(r:Pl o u)(rd:Bc d d'):Bc (o.getD d) (u.getD d'):=by
 cases o with
 |none=>cases u with
  |none=>exact rd
  |some _=>exact(show False from r).elim
 |some _=>cases u with
  |none=>exact(show False from r).elim
  |some _=>exact r
theorem KV.val {kvs:List (κ×V)}{vs:List (κ×fh)}(r:KV kvs vs)(k:κ):Pl (Cn kvs k) (valueAt vs k):=by
 unfold KV at r
 induction r with
 |nil=>exact ql
 | @cons p q ps qs h t ih=>
  obtain⟨h1,h2⟩:=h
  by_cases e:p.1=k
  ·have e':q.1=k:=h1.symm.trans e
   have b:valueAt (q::qs) k=some q.2:=by simp[valueAt,vq,e']
   rw[Ep e,b];exact h2
  ·have e':¬ q.1=k:=λz=>e (h1.trans z)
   have b:valueAt (q::qs) k=valueAt qs k:=by simp[valueAt,vq,e']
   rw[Em e,b];exact ih
theorem KV.any {kvs:List (κ×V)}{vs:List (κ×fh)}(r:KV kvs vs)(k:κ):(kvs.any λkv=>decide (kv.1=k))=vs.any λkv=>decide (kv.1=k):=by
 unfold KV at r
 induction r with
 |nil=>rfl
 |cons h t ih=>rw[ui,ui,ih,h.1]
theorem KV.repl {kvs:List (κ×V)}{vs:List (κ×fh)}(r:KV kvs vs)(k:κ){u:fh}(ry:Bc y u) :
  KV (kvs.map λkv=>if kv.1=k then(kv.1,y) else kv) (vs.map λkv=>if kv.1=k then(kv.1,u) else kv):=by
 unfold KV at r ⊢
 induction r with
 |nil=>exact .nil
 | @cons p q ps qs h t ih=>
  rw[im,im];refine .cons ?_ ih;obtain⟨h1,h2⟩:=h
  by_cases e:p.1=k
  ·rw[if_pos e,if_pos (h1.symm.trans e)];exact⟨h1,ry⟩
  ·rw[if_neg e,if_neg (λz=>e (h1.trans z))];exact⟨h1,h2⟩
theorem KV.put {kvs:List (κ×V)}{vs:List (κ×fh)}(r:KV kvs vs)(k:κ){u:fh}(ry:Bc y u):KV (Lw kvs k y) (stored vs k u):=by
 unfold Lw stored;rw[r.any k]
 by_cases e:(vs.any λkv=>decide (kv.1=k))=true
 ·rw[if_pos e,if_pos e];exact r.repl k ry
 ·rw[if_neg e,if_neg e];exact Paired.snoc r ⟨rfl,ry⟩
theorem KV.length {kvs:List (κ×V)}{vs:List (κ×fh)}(r:KV kvs vs):kvs.length=vs.length:=EL r
end
theorem wT {P:gl}{k:Key}{u:fh}(r:Bc (kV k) u):(Bf P w).is k u=true:=by
 cases k with
 |inl i=>obtain⟨t,e⟩:=(show ∃t,u=o7 i t from r);subst e;exact Ll P w i t
 |inr x=>obtain⟨t,e⟩:=(show ∃t,u=qk x t from r);subst e;exact Sm P w x t
section
variable {P:gl} {w:iq} {H:Hp} {h:jj} {a:eg}
theorem Agg {u:HO}(ok:HOk P w H h)(e:Rd H a u):Cq P w H h a u:=e.ok ok
theorem Age {kvs:List (Key×V)}(ok:HOk P w H h)(e:Rd H a (.dK kvs)):kvs.length<=sizeLine/\(a==sysModules)=false/\∃vs,KV kvs vs/\h.DictOf (Bf P w) a vs:=
 show Cq P w H h a (.dK kvs) from Agg ok e
theorem Zl {kvs:List (Key×V)}(ok:HOk P w H h)(e:H a=some (.dK kvs)):kvs.length<=sizeLine/\(a==sysModules)=false/\∃vs,KV kvs vs/\h.DictOf (Bf P w) a vs:=Age ok (.inl e)
end
section
variable {X:Cx} {pins:Za1} {G:St} {H:Hp} {s:fv} {a:eg} {y v:V} {u r:fh} {o:Option V} {A:i9} {E:Za0}
theorem Ace {ob:HO}(I:Inv X pins G H s)(mu:Mut (H a))(hs:va a s.heap h')(he:∃q,h'.get? a=some q)(new:Cq X.prog X.w (upd H a ob) h' a ob) :
  Inv X pins G (upd H a ob) { s with heap:=h',toks:=t' }:=
 I.write (x:=a) (e:=a) mu (.inl rfl) (λb q hb z=>(hs.2 b hb).trans z) he new
theorem Ad9 {P:gl}{kvs:List (Key×V)}{vs:List (Key×fh)}(z:kvs.length<=sizeLine)(hd:(a==sysModules)=false)(rel:KV kvs vs)(dd:h'.DictOf (Bf P w) a vs) :
  Cq P w H' h' a (.dK kvs):=⟨z,hd,vs,rel,dd⟩
end
end L2
end
section
namespace TW
structure Ord (ns:Za4):Prop where
 lt:∀x∈ns,x<ns.length
 nd:ns.Nodup
end TW
end
section
namespace L2
open PySem PySem.Spec PyProof.Rows
variable {C CB CC CO CP Pt dx i1 i2 it l1 l2:eg} {params:mv} {A:i9} {items:Array fh} {op:vb} {X:Cx} {D:Ie} {env:Env} {tg:i8} {fd:jq} {base h h':jj} {H H' H0 H1 H2:Hp} {J:It} {pins:Za1} {as fp:List eg} {ns ws:List Int} {cs ix:Za4} {N kz nm ps:Za6} {xs:List V} {us vs:Za3} {M:wc} {d n t':Nat} {oT:Obj} {an od:Option eg} {lpos pos pos2:Pos} {scope:nh} {pl:Sem Bool} {s s2:fv} {sp:Sp} {fr:St} {qual z:Str} {te:TE} {wi:TI} {y:V} {cdv ct doc oc pm:fh} {w:iq}
structure xO (P:gl) (w:iq) (K:d6) (mg:Za2) (base:jj) (name:Str) (C:eg) (k:Nat) (ps:Za6) (sp:Sp) (dvs:List V):Prop where
 ex:∃(f:eg) (fd:jq) (ds:Za3),Ar P w K mg base (CXE P w) k f fd ps sp/\Fm K fd ps ds/\Ay dvs ds/\Mk K C f/\mg name=some (.ref C)
section
variable {X:Cx} {k:Nat} {C:eg} {ps:Za6} {sp:Sp} {dvs:List V} {name m:Str} {p pos apos:Pos} {e o:i8} {es:List i8} {ta:TE} {t:TA} {E:XK}
theorem Ab0 (M:xO X.prog X.w X.K X.mg X.base name C k ps sp dvs)(hr:Co (k+1) X.A)(hx:J3 (CXE X.prog X.w) X E)(ha:PA X (e::es) t)(hg:autoParam (Gl X name) QD)(hdb:autoParam ((name==("__debug__":Str))=false) QF)
  (he:autoParam (starEach (e::es) X.env=(false,eval e X.env)::starEach es X.env) QD)(hpl:autoParam ((backTo pos (starEach es X.env)).any (·.1)=false) QD):PE X (.Call (.Name name p) (e::es) [] pos) (pF C sp dvs E t):=by
 obtain⟨f,fd,ds,F,b,rd,M,hm⟩:=M.ex;exact pR M F hr hg hm b rd hx ha hdb he hpl
end
theorem kL.bindsD {K:d6}{x:Str}{st:iz}{T:eg}{kV v:fh}{o:Obj}{m:Nat}(hT:K.lookup T=some o)(hd:o.data=.seq #[v] n)(hm:ps.length=m+1)
  (h:∀(us:Za3),us.length=m->∃k,bindArgs (jk x qual (B2 st) (Bk st) (Ac st) (.ref T) kV doc pm an cdv ct) ⟨us,[]⟩=seqItems? (.ref T) >>= k/\k (some #[v])=pure (ps.zip (us++[v]))):Fm K (jk x qual (B2 st) (Bk st) (Ac st) (.ref T) kV doc pm an cdv ct) ps [v]:=by
 intro s us KX hl;obtain⟨k,h1,h2⟩:=h us (by rw[eh,hm] at hl;exact ug hl);exact AQ rfl (KX _ _ hT) hd h1 h2
end L2
end
section
namespace TW
section
variable {α:Type} (lt:α->α->Bool)
def mg:List α->List α->List α
 |[],ys=>ys
 |x::xs,[]=>x::xs
 |x::xs,y::ys=>if lt y x=true then y::mg (x::xs) ys else x::mg xs (y::ys)
termination_by xs ys=>xs.length+ys.length
theorem Gx (ys:List α):mg lt [] ys=ys:=by rw[mg]
theorem C6 (xs:List α):mg lt xs []=xs:=by cases xs<;>rw[mg]
theorem Kj (x y:α)(xs ys:List α):mg lt (x::xs) (y::ys)=if lt y x=true then y::mg lt (x::xs) ys else x::mg lt xs (y::ys):=by rw[mg]
theorem Vh {x y:α}{xs ys:List α}(h:lt y x=true):mg lt (x::xs) (y::ys)=y::mg lt (x::xs) ys:=by rw[Kj,if_pos h]
theorem dW {x y:α}{xs ys:List α}(h:lt y x=false):mg lt (x::xs) (y::ys)=x::mg lt xs (y::ys):=by rw[Kj,if_neg (by rw[h];decide)]
theorem Je {ys:List α}:∀{as xs:List α},(∀a∈as,∀y∈ys,lt y a=false)->mg lt (as++xs) ys=as++mg lt xs ys
 |[],_,_=>rfl
 |a::as,xs,h=>by
  cases ys with
  |nil=>rw[C6,C6]
  |cons y ys=>
   rw[m9,dW lt (h a gu y gu),Je λb hb=>h b (gv _ hb)];rfl
theorem Jp {xs:List α}:∀{bs ys:List α},(∀b∈bs,∀x∈xs,lt b x=true)->mg lt xs (bs++ys)=bs++mg lt xs ys
 |[],_,_=>rfl
 |b::bs,ys,h=>by
  cases xs with
  |nil=>rw[Gx,Gx]
  |cons x xs=>
   rw[m9,Vh lt (h b gu x gu),Jp λc hc=>h c (gv _ hc)];rfl
theorem Py:∀(xs ys:List α),(mg lt xs ys).Perm (xs++ys)
 |[],ys=>by rw[Gx];exact yb _
 |x::xs,[]=>by rw[C6,gy]
 |x::xs,y::ys=>by
  rw[Kj];split
  ·exact((Py (x::xs) ys).cons y).trans List.perm_middle.symm
  ·exact(Py xs (y::ys)).cons x
termination_by xs ys=>xs.length+ys.length
def Srt (l:List α):Prop:=l.Pairwise λa b=>lt b a=false
structure Swo:Prop where
 irr:∀a,lt a a=false
 tr:∀a b c,lt a b=true->lt b c=true->lt a c=true
 ng:∀a b c,lt a c=true->lt a b=true\/lt b c=true
variable {lt}
section
variable (o:Swo lt)
include o
theorem Swo.asy {a b:α}(h:lt a b=true):lt b a=false:=by
 cases e:lt b a with
 |false=>rfl
 |true=>have:=o.tr _ _ _ h e;rw[o.irr] at this;cases this
theorem Swo.le {a b c:α}(h1:lt b a=false)(h2:lt c b=false):lt c a=false:=by
 cases e:lt c a with
 |false=>rfl
 |true=>
  rcases o.ng c b a e with h|h
  ·rw[h2] at h;cases h
  ·rw[h1] at h;cases h
theorem Swo.ltle {a b c:α}(h1:lt a b=true)(h2:lt c b=false):lt a c=true:=by
 rcases o.ng a c b h1 with h|h
 ·exact h
 ·rw[h2] at h;cases h
theorem Swo.lelt {a b c:α}(h1:lt b a=false)(h2:lt b c=true):lt a c=true:=by
 rcases o.ng b a c h2 with h|h
 ·rw[h1] at h;cases h
 ·exact h
theorem Lf:∀a b c:List α,mg lt (mg lt a b) c=mg lt a (mg lt b c)
 |[],b,c=>by rw[Gx,Gx]
 |x::a,[],c=>by rw[C6,Gx]
 |x::a,y::b,[]=>by rw[C6,C6]
 |x::a,y::b,z::c=>by
  cases h1:lt y x with
  |true=>
   cases h2:lt z y with
   |true=>
    have ih:=Lf (x::a) (y::b) c;rw[Vh lt h1] at ih ⊢;rw[Vh lt h2,Vh lt h2,Vh lt (o.tr _ _ _ h2 h1),ih]
   |false=>
    have ih:=Lf (x::a) b (z::c);rw[Vh lt h1,dW lt h2,dW lt h2,Vh lt h1,ih]
  |false=>
   cases h3:lt z x with
   |true=>
    have h2:lt z y=true:=by
     rcases o.ng z y x h3 with h|h
     ·exact h
     ·rw[h1] at h;cases h
    have ih:=Lf (x::a) (y::b) c;rw[dW lt h1] at ih ⊢;rw[Vh lt h3,Vh lt h2,Vh lt h3,ih]
   |false=>
    have ih:=Lf a (y::b) (z::c);rw[dW lt h1,dW lt h3,ih]
    cases h2:lt z y with
    |true=>rw[Vh lt h2,dW lt h3]
    |false=>rw[dW lt h2,dW lt h1]
termination_by a b c=>a.length+b.length+c.length
theorem oE:∀{xs ys:List α},Srt lt xs->Srt lt ys->Srt lt (mg lt xs ys)
 |[],ys,_,h=>by rw[Gx];exact h
 |x::xs,[],h,_=>by rw[C6];exact h
 |x::xs,y::ys,h1,h2=>by
  have a1:=mi.mp h1;have a2:=mi.mp h2;rw[Kj];split
  ·rename_i hl
   refine mi.mpr ⟨λz hz=>?_,oE h1 a2.2⟩;rcases il.mp ((Py lt _ _).mem_iff.mp hz) with hz|hz
   ·rcases iu.mp hz with rfl|hz
    ·exact o.asy hl
    ·exact o.le (o.asy hl) (a1.1 z hz)
   ·exact a2.1 z hz
  ·rename_i hl
   have hl:lt y x=false:=by simpa using hl
   refine mi.mpr ⟨λz hz=>?_,oE a1.2 h2⟩;rcases il.mp ((Py lt _ _).mem_iff.mp hz) with hz|hz
   ·exact a1.1 z hz
   ·rcases iu.mp hz with rfl|hz
    ·exact hl
    ·exact o.le hl (a2.1 z hz)
termination_by xs ys=>xs.length+ys.length
end
variable (lt)
def Ax (l:List α):List α:=l.foldl (λa x=>mg lt a [x]) []
theorem Cw (l:List α)(x:α):Ax lt (l++[x])=mg lt (Ax lt l) [x]:=by unfold Ax;rw[DK];rfl
theorem E4 (l:List α):(Ax lt l).Perm l:=by
 have key:∀(l a:List α),(l.foldl (λa x=>mg lt a [x]) a).Perm (a++l):=λl=>by
  induction l with
  |nil=>intro a;rw[gy];exact yb _
  |cons x l ih=>
   intro a;refine(ih _).trans ?_;refine((Py lt a [x]).append_right l).trans ?_;rw[fm];exact yb _
 exact key l []
theorem Hh (l:List α):(Ax lt l).length=l.length:=(E4 lt l).length_eq
theorem J0 {P:List α->Prop}(h0:P [])(h1:∀l x,P l->P (l++[x]))(l:List α):P l:=by
 have key:∀n,∀l:List α,l.length=n->P l:=λn=>by
  induction n with
  |zero=>intro l h;rw[List.length_eq_zero_iff.mp h];exact h0
  |succ n ih=>
   intro l h;have hne:l≠[]:=λe=>by rw[e] at h;cases h
   rw[<-List.dropLast_concat_getLast hne];exact h1 _ _ (ih _ (by rw[BQ];lia))
 exact key _ l rfl
variable {lt}
theorem tS (o:Swo lt)(a:List α)(b:List α):Ax lt (a++b)=mg lt (Ax lt a) (Ax lt b):=by
 induction b using J0 with
 |h0=>rw[gy];exact(C6 lt _).symm
 |h1 l x ih=>rw[<-fm,Cw,Cw,ih,Lf o]
theorem Mf (o:Swo lt)(a:List α):Srt lt (Ax lt a):=by
 induction a using J0 with
 |h0=>exact vt
 |h1 l x ih=>rw[Cw];exact oE o ih (qq _ _)
theorem Jd {a:List α}(h:Srt lt a):Ax lt a=a:=by
 induction a using J0 with
 |h0=>rfl
 |h1 l x ih=>
  have hp:=wf.mp h;rw[Cw,ih hp.1];have:=Je lt (ys:=[x]) (as:=l) (xs:=[]) λa ha y hy=>by rw[fz.mp hy];exact hp.2.2 a ha x (fz.mpr rfl)
  rw[gy,Gx] at this;exact this
theorem mW {β:Type}{lt':β->β->Bool}{f:α->β}(h:∀a b,lt' (f a) (f b)=lt a b):∀xs ys:List α,mg lt' (xs.map f) (ys.map f)=(mg lt xs ys).map f
 |[],ys=>by rw[Gx];exact Gx _ _
 |x::xs,[]=>by rw[C6];exact C6 _ _
 |x::xs,y::ys=>by
  rw[im,im,Kj,Kj,h];split
  ·have:=mW h (x::xs) ys
   rw[im] at this;rw[this];rfl
  ·have:=mW h xs (y::ys)
   rw[im] at this;rw[this];rfl
termination_by xs ys=>xs.length+ys.length
theorem Hg {β:Type}{lt':β->β->Bool}{f:α->β}(h:∀a b,lt' (f a) (f b)=lt a b)(l:List α):Ax lt' (l.map f)=(Ax lt l).map f:=by
 induction l using J0 with
 |h0=>rfl
 |h1 l x ih=>
  rw[fj,im,xu,Cw,Cw,ih];exact mW h _ [x]
end
theorem jI {α:Type}{R:α->α->Prop}{l:List α}(h:l.length<2):l.Pairwise R:=match l,h with
 |[],_=>vt
 |[x],_=>qq _ _
section
variable {α:Type} {lt:α->α->Bool}
theorem My {l:List α}{i:Nat}{x:α}(h:l[i]?=some x):l.drop i=x::l.drop (i+1):=by
 obtain⟨hl,e⟩:=fc.mp h;rw[ny hl,e]
theorem Mh {l:List α}{i:Nat}{x:α}(h:l[i]?=some x):l.take (i+1)=l.take i++[x]:=by rw[i4,h];rfl
theorem yG {l:List α}(h:Srt lt l){i j:Nat}{x y:α}(hij:i<j)(hx:l[i]?=some x)(hy:l[j]?=some y):lt y x=false:=by
 obtain⟨h1,e1⟩:=fc.mp hx;obtain⟨h2,e2⟩:=fc.mp hy;have:=(uc.mp h) i j h1 h2 hij;rw[e1,e2] at this;exact this
theorem eR (o:Swo lt){l:List α}(h:Srt lt l){i j:Nat}{x y:α}(hij:i<=j)(hx:l[i]?=some x)(hy:l[j]?=some y):lt y x=false:=by
 rcases mq hij with hl|hl
 ·exact yG h hl hx hy
 ·rw[hl,hy] at hx
  cases hx;exact o.irr _
theorem vU {l:List α}{i:Nat}{x:α}(h:x∈l.drop i):∃j,i<=j/\l[j]?=some x:=by
 obtain⟨k,hk⟩:=j6 h;rw[i5] at hk;exact⟨i+k,jh _ _,hk⟩
theorem T4 {l:List α}{i:Nat}{x:α}(h:x∈l.take i):∃j,j<i/\l[j]?=some x:=by
 obtain⟨k,hk⟩:=j6 h;rw[jg] at hk;split at hk
 ·exact⟨k,by assumption,hk⟩
 ·cases hk
theorem oI (l:List α)(i k:Nat):l.drop i=(l.drop i).take k++l.drop (i+k):=by
 rw[<-ph,jn]
variable (o:Swo lt) {la lb out:List α} {ia ib:Nat}
variable {na nb:Nat}
theorem lW (l:List α){c n:Nat}(h:c<=n):l.take n=l.take c++(l.drop c).take (n-c):=by
 rw[show n=c+(n-c) by lia,xc];congr 2;lia
include o in
end
end TW
end
section
namespace L2
open PySem PySem.Spec PyProof.Rows
variable {C CB CC CO CP Pt dx i1 i2 it l1 l2:eg} {params:mv} {A:i9} {items:Array fh} {op:vb} {X:Cx} {D:Ie} {env:Env} {tg:i8} {fd:jq} {base h h':jj} {H H' H0 H1 H2:Hp} {J:It} {pins:Za1} {as fp:List eg} {ns ws:List Int} {cs ix:Za4} {N kz nm ps:Za6} {xs:List V} {us vs:Za3} {M:wc} {d n t':Nat} {oT:Obj} {an od:Option eg} {lpos pos pos2:Pos} {scope:nh} {pl:Sem Bool} {s s2:fv} {sp:Sp} {fr:St} {qual z:Str} {te:TE} {wi:TI} {y:V} {cdv ct doc oc pm:fh} {w:iq}
section
variable {prog:gl} {w:iq} {A:i9} {E:Za0} {s:fv}
def lU (prog:gl)(w:iq)(A:i9)(E:Za0)(s:fv)(kd:uo)(P:jv->Prop)(blt:jv->jv->Bool):Prop:=
 ∀(x y:jv) (st:pj) (Q:Option Bool->pj->Prop),P x->P y->kindOf st=kd->Q (some (blt x y)) st->wpS (model prog w) A E s (lt' x y) Q st
theorem iL {arr:Array jv}{i:Nat}{p:jv}{st:pj}{Q:jv->pj->Prop}(e:arr[i]?=some p)(h:Q p st):wpS (model prog w) A E s (elem' arr i) Q st:=by
 rw[elem'_eq,e];exact lz h
variable {kd:uo} {P:jv->Prop} {blt:jv->jv->Bool} (L:lU prog w A E s kd P blt)
include L
end
open TW
structure Ag0 (S:Prop):Prop where
 h:S
theorem uU {c S T:Prop}[Decidable c](h1:Ag0 S->c->T)(h2:Ag0 S->¬ c->T)(h:S):T:=(DL c).elim (h1 ⟨h⟩) (h2 ⟨h⟩)
theorem Adk {a:Array jv}{i:Nat}{x:jv}(h:a[i]?=some x):a.toList[i]?=some x:=by rw[gr];exact h
theorem kE {xs:Array jv}{src:Nat}(hs:src<xs.size)(hd:d<=src){x:jv}(hx:xs[src]?=some x) :
  (bubble xs src d).toList=xs.toList.take (src-d)++[x]++(xs.toList.drop (src-d)).take d++xs.toList.drop (src+1):=by
 have hl:xs.toList.length=xs.size:=gh;refine l8 λk=>?_;rw[gr,getElem?_bubble hs d hd k];obtain⟨a,rfl⟩:=ke hd;rw[iy];have l1:(xs.toList.take a).length=a:=by rw[fi,hl];exact io (by lia)
 have l2:((xs.toList.drop a).take d).length=d:=by rw[fi,ic,hl];exact io (by lia)
 have l3:(xs.toList.take a++[x]).length=a+1:=by rw[eh,l1];rfl
 have l4:(xs.toList.take a++[x]++(xs.toList.drop a).take d).length=a+1+d:=by rw[eh,l3,l2]
 by_cases h1:k=a
 ·subst h1
  rw[if_pos rfl,hx,fm,fm,ft (oh l1),l1,j0];rfl
 ·rw[if_neg h1]
  by_cases h2:a<k/\k<=d+a
  ·obtain⟨i,rfl⟩:=ke (show a+1<=k from h2.1)
   rw[if_pos h2,f7 (by rw[l4];lia),ft (by rw[l3];exact jh _ _),l3,iy,jg,if_pos (by lia),i5,gr,Nat.add_right_comm,nq]
  ·rw[if_neg h2]
   by_cases h3:k<a
   ·rw[fm,fm,f7 (by rw[l1];exact h3),jg,if_pos h3,gr]
   ·obtain⟨i,rfl⟩:=ke (show a+1+d<=k by lia)
    rw[ft (by rw[l4];exact jh _ _),l4,iy,i5,gr,show d+a+1+i=a+1+d+i by lia]
theorem iI {xs:Array jv}{i j:Nat}(hij:i<=j)(hj:j<=xs.size) :
  (mirror xs i j ((j-i)/2)).toList=xs.toList.take i++((xs.toList.drop i).take (j-i)).reverse++xs.toList.drop j:=by
 have hl:xs.toList.length=xs.size:=gh;refine l8 λk=>?_;rw[gr,getElem?_mirror_all (i:=i) hj k];obtain⟨m,rfl⟩:=ke hij;rw[iy];have l1:(xs.toList.take i).length=i:=by rw[fi,hl];exact io (by lia)
 have l2:((xs.toList.drop i).take m).length=m:=by rw[fi,ic,hl];exact io (by lia)
 have l3:(xs.toList.take i++((xs.toList.drop i).take m).reverse).length=i+m:=by rw[eh,mw,l1,l2]
 by_cases h2:k<i
 ·rw[if_neg (λz=>IQ.mpr h2 z.1),fm,f7 (by rw[l1];exact h2),jg,if_pos h2,gr]
 ·obtain⟨r,rfl⟩:=ke (pq.mp h2)
  by_cases h1:r<m
  ·obtain⟨q,rfl⟩:=ke (show r+1<=m from h1)
   rw[if_pos ⟨jh _ _,by lia⟩,f7 (by rw[l3];lia),ft (by rw[l1];exact jh _ _),l1,iy,
    BA (by rw[l2];exact h1),l2,jg,if_pos (by lia),i5,gr]
   congr 1;lia
  ·obtain⟨q,rfl⟩:=ke (pq.mp h1)
   rw[if_neg (by lia),ft (by rw[l3];lia),l3,i5,gr,<-l6,iy]
theorem zL {blt:jv->jv->Bool}(o:Swo blt){l:List jv}{x y:jv}(h:Srt blt l)(hy:l[l.length-1]?=some y)(hx:blt x y=false):Srt blt (l++[x]):=by
 refine wf.mpr ⟨h,qq _ _,λa ha b hb=>?_⟩;rw[fz.mp hb];obtain⟨j,hj⟩:=j6 ha;have hl:=(fc.mp hj).1;exact o.le (eR o h (show j<=l.length-1 by lia) hj hy) hx
theorem Hm {xs:Array jv}{U V W:List jv}{i j:Nat}(e:xs.toList=U++V++W)(hi:i=U.length)(hj:j=U.length+V.length):(mirror xs i j ((j-i)/2)).toList=U++V.reverse++W:=by
 have hl:xs.size=U.length+V.length+W.length:=by rw[<-gh,e,eh,eh]
 rw[iI (by lia) (by lia),e,hi,hj];have e1:(U++V++W).take U.length=U:=by rw[fm,jp (d8 _),p9]
 have e2:(U++V++W).drop U.length=V++W:=by rw[fm,mr (d8 _),uu,md]
 have e3:(U++V++W).drop (U.length+V.length)=W:=by rw[<-ph,e2,mr (d8 _),uu,md]
 rw[e1,e2,e3,iy,jp (d8 _),p9]
theorem lJ {blt:jv->jv->Bool}(o:Swo blt){a b:List jv}(h:Srt blt (Ax blt a++b)):Ax blt (a++b)=Ax blt a++b:=by
 have hp:=wf.mp h;rw[tS o,Jd hp.2.1];have:=Je blt (ys:=b) (as:=Ax blt a) (xs:=[]) λx hx y hy=>hp.2.2 x hx y hy;rw[gy,Gx] at this;exact this
section
variable {prog:gl} {w:iq} {A:i9} {E:Za0} {s:fv}
variable {kd:uo} {P:jv->Prop} {blt:jv->jv->Bool} (L:lU prog w A E s kd P blt) (o:Swo blt)
include L
theorem Jc {st:pj}{i j:Nat}{x y:jv}{Q:Option Bool->pj->Prop}(hk:kindOf st=kd)(hi:(arrOf st)[i]?=some x)(hj:(arrOf st)[j]?=some y)(px:P x)(py:P y)(h:Q (some (blt x y)) st) :
  wpS (model prog w) A E s (ltAt' i j) Q st:=by
 rw[ltAt'_eq];refine wpS_bind (AI ?_);exact wpS_bind (iL hi (wpS_bind (iL hj (L _ _ _ _ px py hk h))))
include o
theorem kH {st:pj}{lo a nrem:Nat}{T C D:List jv}{F:Nat->Option (Option Nat)×Nat->StateT pj Sem (ForInStep (Option (Option Nat)×Nat))}{Q:Option (Option Nat)×Nat->pj->Prop}
  (hF:∀x n,F x (none,n)=(do
   let r <-ltAt' (lo+n) (lo+n-1)
   match r with
   |some smaller=>if smaller=true then pure (uy (none,n)) else pure (uk (none,n+1))
   |x=>pure (uy (some none,n))))
  (hk:kindOf st=kd)(hP:∀x∈(arrOf st).toList,P x)(hT:T.length=lo)(hD:D.length=nrem)(ha:1<=a)(han:a<=nrem)(hC:C.length=a)(e:(arrOf st).toList=T++C++D.drop a)(sC:Srt blt C)
  (h:∀n,a<=n->n<=nrem->Srt blt (C++(D.drop a).take (n-a))->(n=nrem\/∃x y,(C++D.drop a)[n]?=some x/\(C++D.drop a)[n-1]?=some y/\blt x y=true)->Q (none,n) st) :
  wpS (model prog w) A E s (forIn [a:nrem] (none,a) F) Q st:=by
 have hl:(C++D.drop a).length=nrem:=by rw[eh,ic];lia
 have at_:∀j,(arrOf st)[lo+j]?=(C++D.drop a)[j]?:=λj=>by
  rw[<-gr,e,fm,ft (by lia),hT,iy]
 have ctk:∀n,a<=n->n<=nrem->C++(D.drop a).take (n-a)=(C++D.drop a).take n:=λn h1 h2=>by
  rw[DZ,fw (l:=C) (by lia),hC]
 refine wpS_forRange (I:=λx c st'=>st'=st/\c=(none,x)/\Srt blt ((C++D.drop a).take x)) ?_ ?_ ⟨rfl,rfl,?_⟩
 ·rintro x c st' hx1 hx2 ⟨rfl,rfl,hs⟩
  rw[hF];obtain⟨u,eu⟩:∃u,(C++D.drop a)[x]?=some u:=⟨_,d4 (by lia)⟩;obtain⟨v,ev⟩:∃v,(C++D.drop a)[x-1]?=some v:=⟨_,d4 (by lia)⟩;have pu:(arrOf st')[lo+x]?=some u:=by rw[at_];exact eu
  have pv:(arrOf st')[lo+x-1]?=some v:=by rw[show lo+x-1=lo+(x-1) by lia,at_];exact ev
  refine wpS_bind (Jc L hk pu pv (hP _ (f8 (Adk pu))) (hP _ (f8 (Adk pv))) ?_);dsimp only
  cases hb:blt u v with
  |true=>
   rw[if_pos rfl];exact lz (h x hx1 (by lia) (by rw[ctk x hx1 (by lia)];exact hs) (.inr ⟨u,v,eu,ev,hb⟩))
  |false=>
   rw[if_neg (by decide)];refine lz ⟨rfl,rfl,?_⟩;rw[Mh eu];refine zL o hs ?_ hb;rw[fi,hl,io (f9 hx2),jg,if_pos (IP (by lia) IC)];exact ev
 ·rintro c st' ⟨rfl,rfl,hs⟩
  have:max a nrem=nrem:=by lia
  rw[this] at hs ⊢;exact h nrem han (d8 _) (by rw[ctk nrem han (d8 _)];exact hs) (.inl rfl)
 ·rw[<-ctk a (d8 _) han,j0,we,gy]
  exact sC
theorem Ye {st:pj}{lo nrem:Nat}{Q:Option Nat->pj->Prop}(hk:kindOf st=kd)(hP:∀x∈(arrOf st).toList,P x)(hn:lo+nrem=(arrOf st).size)(h1:1<=nrem)
  (h:∀m (xs:Array jv),1<=m->m<=nrem->xs.toList=(arrOf st).toList.take lo++Ax blt (((arrOf st).toList.drop lo).take m)++((arrOf st).toList.drop lo).drop m->Q (some m) (setArr st xs)) :
  wpS (model prog w) A E s (countRun' lo nrem) Q st:=by
 have hl:(arrOf st).toList.length=(arrOf st).size:=gh;generalize hT:(arrOf st).toList.take lo=T at *;generalize hD:(arrOf st).toList.drop lo=D at *;have e:(arrOf st).toList=T++D:=by rw[<-hT,<-hD,jn]
 have lT:T.length=lo:=by rw[<-hT,fi];lia
 have lD:D.length=nrem:=by rw[<-hD,ic];lia
 obtain⟨d0,e0⟩:∃d0,D[0]?=some d0:=⟨_,d4 (by lia)⟩;have eD:D.take 1++D.drop 1=D:=jn 1 D;refine wpS_bind (kH L o (T:=T) (C:=D.take 1) (D:=D) (λx n=>rfl) hk hP lT lD (d8 1) h1 (by rw[fi];lia) (by rw[fm,eD];exact e) (by rw[Mh e0];exact qq _ _) λn hn1 hn2 sn hor=>?_);have etk:D.take 1++(D.drop 1).take (n-1)=D.take n:=by rw[show n=1+(n-1) by lia,xc,iy]
 rw[etk] at sn;rw[eD] at hor;dsimp only;have PD:∀y∈D,P y:=λy hy=>hP y (by rw[e];exact gt _ hy)
 by_cases c1:(n==nrem)=true
 ·rw[if_pos c1]
  refine lz (h n (arrOf st) hn1 hn2 ?_);rw[Jd sn,fm,jn];exact e
 rw[if_neg c1];rw[beq_iff_eq] at c1;obtain⟨x,y,ex,ey,hxy⟩:=hor.resolve_left c1;have lDn:(D.take n).length=n:=by rw[fi];lia
 apply uU (c:=n>1)
 case h1=>
  intro way hgt;rw[if_pos hgt];have a0:(arrOf st)[lo]?=some d0:=by rw[<-gr,e,ft (by lia),lT,j0];exact e0
  have ay:(arrOf st)[lo+n-1]?=some y:=by rw[DX hn1,<-gr,e,ft (by rw[lT];exact jh _ _),lT,iy];exact ey
  refine wpS_bind (Jc L hk a0 ay (PD _ (f8 e0)) (PD _ (f8 ey)) ?_);dsimp only
  by_cases hrose:blt d0 y=true
  ·rw[if_pos hrose]
   refine lz (h n (arrOf st) hn1 hn2 ?_);rw[Jd sn,fm,jn];exact e
  rw[if_neg hrose];have hrose:blt d0 y=false:=by simpa using hrose
  have key:∀j z,j<n->D[j]?=some z->blt z y=false:=λj z hj ez=>by
   have h2:=eR o sn (gp j) (by rw[jg,if_pos (by lia)];exact e0) (by rw[jg,if_pos hj];exact ez)
   cases hc:blt z y with
   |false=>rfl
   |true=>
    rcases o.ng z d0 y hc with h3|h3
    ·rw[h2] at h3;cases h3
    ·rw[hrose] at h3;cases h3
  have hall:∀z∈D.take n,blt x z=true:=λz hz=>by
   obtain⟨j,hj,ez⟩:=T4 hz;exact o.ltle hxy (key j z hj ez)
  refine wpS_bind (xm ?_);have m1:=Hm (xs:=arrOf st) (U:=T) (V:=D.take n) (W:=D.drop n) (i:=lo) (j:=lo+n) (by rw[fm,jn];exact e) lT.symm (by rw[lDn,lT])
  revert hall m1
  generalize mirror (arrOf st) lo (lo+n) ((lo+n-lo)/2)=xs1
  revert xs1
  exact way.h
 case h2=>
  intro way hgt;rw[if_neg hgt];have n1:n=1:=by lia
  have hall:∀z∈D.take n,blt x z=true:=λz hz=>by
   obtain⟨j,hj,ez⟩:=T4 hz;have:j=n-1:=by lia
   rw[this,ey] at ez;cases ez;exact hxy
  have m1:(arrOf st).toList=T++(D.take n).reverse++D.drop n:=by
   rw[n1,Mh e0,we,md,List.reverse_singleton,e,fm];show T++D=T++(d0::D.drop (0+1));rw[<-My e0,qy]
  exact way.h (arrOf st) hall m1
 case h=>
  intro xs1 hall m1;refine wpS_bind (IK (um ⟨rfl,?_⟩));refine wpS_bind (wpS_mono (wpS_forRange
   (I:=λu c st'=>∃(neq:Nat) (xs:Array jv) (hd tl:List jv),c=(none,u,neq)/\st'=setArr st xs/\xs.toList=T++(hd++tl)++D.drop u/\(hd++tl).length=u/\tl.length=neq+1/\Ax blt (D.take u)=tl++hd.reverse/\(∀a∈hd,∀b∈tl,blt b a=true)/\(∀a∈tl,∀b∈tl,blt a b=false))
   (Q:=λc st'=>∃(m neq:Nat) (xs:Array jv) (hd tl:List jv),c=(none,m,neq)/\n+1<=m/\m<=nrem/\st'=setArr st xs/\xs.toList=T++(hd++tl)++D.drop m/\(hd++tl).length=m/\tl.length=neq+1/\Ax blt (D.take m)=tl++hd.reverse) ?_ ?_ ⟨0,xs1,(D.take n).reverse,[x],rfl,rfl,?_,?_,rfl,?_,?_,?_⟩) ?_)
  ·rintro u c st' hu1 hu2 ⟨neq,xs,hd,tl,rfl,rfl,q1,q2,q3,q4,q5,q6⟩
   dsimp only;obtain⟨v,ev⟩:∃v,D[u]?=some v:=⟨_,d4 (by lia)⟩;obtain⟨t,et⟩:∃t,tl[tl.length-1]?=some t:=⟨_,d4 (by lia)⟩;have htl:=f8 et;have PT:∀z∈tl,P z:=λz hz=>PD z (n8 ((E4 blt (D.take u)).mem_iff.mp (by rw[q4];exact kj _ hz)));have pv:(arrOf (setArr st xs))[lo+u]?=some v:=by
    show xs[lo+u]?=some v;rw[<-gr,q1,ft (by rw[eh];lia),eh,q2,lT,j0,i5,m7];exact ev
   have pt:(arrOf (setArr st xs))[lo+u-1]?=some t:=by
    show xs[lo+u-1]?=some t;have hu:1<=u:=by lia
    have q2':=q2;rw[eh] at q2';rw[DX hu,<-gr,q1,fm,ft (by rw[lT];exact jh _ _),lT,iy,f7 (by rw[q2];exact IP hu IC),ft (by lia),show u-1-hd.length=tl.length-1 by lia];exact et
   refine wpS_bind (Jc L hk pv pt (PD _ (f8 ev)) (PT _ htl) ?_);dsimp only;have esn:Ax blt (D.take (u+1))=mg blt (tl++hd.reverse) [v]:=by rw[Mh ev,Cw,q4]
   have edr:=My ev
   cases hs:blt v t with
   |true=>
    rw[if_pos rfl];have v1:∀z∈tl,blt v z=true:=λz hz=>o.ltle hs (q6 z hz t htl);have v2:∀z∈hd,blt v z=true:=λz hz=>o.tr _ _ _ hs (q5 z hz t htl);have e5:Ax blt (D.take (u+1))=[v]++(hd++tl.reverse).reverse:=by
     rw[esn,qc,r6];have:=Jp blt (xs:=tl++hd.reverse) (bs:=[v]) (ys:=[]) λb hb z hz=>by
      rw[fz.mp hb];rcases il.mp hz with hz|hz
      ·exact v1 z hz
      ·exact v2 z (qa.mp hz)
     rw[gy,C6] at this;exact this
    have fin:∀ys:Array jv,ys.toList=T++(hd++tl.reverse)++D.drop u->∃(neq':Nat) (xs':Array jv) (hd' tl':List jv),((none,u+1,0):Option (Option Nat)×Nat×Nat)=(none,u+1,neq')/\setArr st ys=setArr st xs'/\xs'.toList=T++(hd'++tl')++D.drop (u+1)/\(hd'++tl').length=u+1/\tl'.length=neq'+1/\Ax blt (D.take (u+1))=tl'++hd'.reverse/\(∀a∈hd',∀b∈tl',blt b a=true)/\(∀a∈tl',∀b∈tl',blt a b=false):=λys ey=>by
     refine⟨0,ys,hd++tl.reverse,[v],rfl,rfl,?_,?_,rfl,e5,?_,?_⟩
     ·rw[ey,edr]
      simp only[fm,m9,md]
     ·rw[eh,eh,mw,<-eh,q2]
      rfl
     ·intro a ha b hb
      rw[fz.mp hb];rcases il.mp ha with ha|ha
      ·exact v2 a ha
      ·exact v1 a (qa.mp ha)
     ·intro a ha b hb
      rw[fz.mp ha,fz.mp hb];exact o.irr v
    by_cases hq:neq>0
    ·rw[if_pos hq]
     refine wpS_bind (xm (lz (fin _ ?_)));have hlen:hd.length+tl.length=u:=by rw[<-eh];exact q2
     have:=Hm (xs:=xs) (U:=T++hd) (V:=tl) (W:=D.drop u) (i:=lo+u-(neq+1)) (j:=lo+u) (by rw[q1];simp only[fm]) (by rw[eh,lT,<-hlen,q3,<-l6,nq]) (by rw[eh,lT,<-hlen,<-l6]);show(mirror xs _ _ _).toList=_;rw[this];simp only[fm]
    ·rw[if_neg hq]
     refine lz (fin _ ?_);have:tl.reverse=tl:=by
      obtain⟨z,rfl⟩:=AJ.mp (show tl.length=1 by lia);rfl
     rw[this];exact q1
   |false=>
    rw[if_neg (by decide)];refine wpS_bind (Jc L hk pt pv (PT _ htl) (PD _ (f8 ev)) ?_);dsimp only
    cases hg:blt t v with
    |true=>
     rw[if_pos rfl];exact lz ⟨u,neq,xs,hd,tl,rfl,hu1,by lia,rfl,q1,q2,q3,q4⟩
    |false=>
     rw[if_neg (by decide)];have v1:∀z∈tl,blt v z=false:=λz hz=>o.le (q6 t htl z hz) hs;have v3:∀z∈tl,blt z v=false:=λz hz=>o.le hg (q6 z hz t htl);have v2:∀z∈hd,blt v z=true:=λz hz=>o.lelt hg (q5 z hz t htl);refine lz ⟨neq+1,xs,hd,tl++[v],rfl,rfl,?_,?_,?_,?_,?_,?_⟩
     ·rw[q1,edr]
      simp only[fm,m9,md]
     ·rw[<-fm,eh,q2]
      rfl
     ·rw[eh,q3]
      rfl
     ·rw[esn,Je blt λa ha z hz=>by rw[fz.mp hz];exact v1 a ha]
      have:=Jp blt (xs:=hd.reverse) (bs:=[v]) (ys:=[]) λb hb z hz=>by
       rw[fz.mp hb];exact v2 z (qa.mp hz)
      rw[gy,C6] at this;rw[this,fm]
     ·intro a ha b hb
      rcases il.mp hb with hb|hb
      ·exact q5 a ha b hb
      ·rw[fz.mp hb];exact v2 a ha
     ·intro a ha b hb
      rcases il.mp ha with ha|ha
      ·rcases il.mp hb with hb|hb
       ·exact q6 a ha b hb
       ·rw[fz.mp hb];exact v3 a ha
      ·rw[fz.mp ha]
       rcases il.mp hb with hb|hb
       ·exact v1 b hb
       ·rw[fz.mp hb];exact o.irr v
  ·rintro c st' ⟨neq,xs,hd,tl,rfl,rfl,q1,q2,q3,q4,q5,q6⟩
   have hmx:max (n+1) nrem=nrem:=by lia
   rw[hmx] at q1 q2 q4 ⊢;exact⟨nrem,neq,xs,hd,tl,rfl,by lia,d8 _,rfl,q1,q2,q3,q4⟩
  ·rw[m1,My ex]
   simp only[fm,m9,md]
  ·rw[eh,mw,lDn]
   rfl
  ·rw[Mh ex,Cw,Jd sn,r6]
   have:=Jp blt (xs:=D.take n) (bs:=[x]) (ys:=[]) λb hb z hz=>by
    rw[fz.mp hb];exact hall z hz
   rw[gy,C6] at this;exact this
  ·intro a ha b hb
   rw[fz.mp hb];exact hall a (qa.mp ha)
  ·intro a ha b hb
   rw[fz.mp ha,fz.mp hb];exact o.irr x
  ·rintro c st' ⟨m,neq,xs,hd,tl,rfl,hm1,hm2,rfl,q1,q2,q3,q4⟩
   dsimp only;have hlen:hd.length+tl.length=m:=by rw[<-eh];exact q2
   have last:∀ys:Array jv,ys.toList=T++(tl++hd.reverse)++D.drop m->∀F:Nat->Option (Option Nat)×Nat->StateT pj Sem (ForInStep (Option (Option Nat)×Nat)),
     (∀x n,F x (none,n)=(do
      let r <-ltAt' (lo+n) (lo+n-1)
      match r with
      |some smaller=>if smaller=true then pure (uy (none,n)) else pure (uk (none,n+1))
      |x=>pure (uy (some none,n)))) ->
     wpS (model prog w) A E s (forIn [m:nrem] (none,m) F) (λr st'=>∃m',r=(none,m')/\Q (some m') st') (setArr st ys):=λys ey F hF=>by
    have sC:Srt blt (tl++hd.reverse):=by rw[<-q4];exact Mf o _
    refine kH L o (T:=T) (C:=tl++hd.reverse) (D:=D) hF hk ?_ lT lD (by lia) hm2 (by rw[eh,mw];lia) ey sC λn' hn1' hn2' sn' _=>⟨n',rfl,h n' ys (by lia) hn2' ?_⟩
    ·intro z hz
     have hz:z∈ys.toList:=hz;rw[ey] at hz;rcases il.mp hz with hz|hz
     ·rcases il.mp hz with hz|hz
      ·exact hP z (by rw[e];exact kj _ hz)
      ·rw[<-q4] at hz
       exact PD z (n8 ((E4 blt _).mem_iff.mp hz))
     ·exact PD z (BP hz)
    ·rw[<-q4] at sn'
     have e7:D.take n'=D.take m++(D.drop m).take (n'-m):=by rw[lW D hn1']
     rw[e7,lJ o sn',ey,q4];have e8:D.drop m=(D.drop m).take (n'-m)++D.drop n':=by
      have:=oI D m (n'-m);rw[Nat.add_sub_cancel' hn1'] at this;exact this
     conv=>lhs;rw[e8]
     simp only[fm]
   by_cases hq:neq>0
   ·rw[if_pos hq]
    have r1:=Hm (xs:=xs) (U:=T++hd) (V:=tl) (W:=D.drop m) (i:=lo+m-(neq+1)) (j:=lo+m) (by rw[q1];simp only[fm]) (by rw[eh,lT,<-hlen,q3,<-l6,nq]) (by rw[eh,lT,<-hlen,<-l6]);refine wpS_bind (xm ?_);refine wpS_bind (xm ?_);have r2:=Hm (xs:=mirror xs (lo+m-(neq+1)) (lo+m) ((lo+m-(lo+m-(neq+1)))/2)) (U:=T) (V:=hd++tl.reverse) (W:=D.drop m) (i:=lo) (j:=lo+m) (by rw[r1];simp only[fm]) lT.symm (by rw[eh,mw];lia);rw[qc,r6] at r2;refine wpS_bind (wpS_mono (last _ r2 _ (λx n=>rfl)) ?_);rintro c st' ⟨m',rfl,hQ⟩;exact lz hQ
   ·rw[if_neg hq]
    have hrv:tl.reverse=tl:=by
     obtain⟨z,rfl⟩:=AJ.mp (show tl.length=1 by lia);rfl
    refine wpS_bind (xm ?_);have r2:=Hm (xs:=xs) (U:=T) (V:=hd++tl) (W:=D.drop m) (i:=lo) (j:=lo+m) q1 lT.symm (by rw[q2];lia);rw[qc,hrv] at r2;refine wpS_bind (wpS_mono (last _ r2 _ (λx n=>rfl)) ?_);rintro c st' ⟨m',rfl,hQ⟩;exact lz hQ
end
theorem sZ {U V W:List jv}:(U++(V++W)).take U.length=U/\(U++(V++W)).drop U.length=V++W/\((U++(V++W)).drop U.length).take V.length=V/\(U++(V++W)).drop (U.length+V.length)=W:=by
 have e2:(U++(V++W)).drop U.length=V++W:=by rw[mr (d8 _),uu,md]
 refine⟨by rw[jp (d8 _),p9],e2,?_,?_⟩
 ·rw[e2,jp (d8 _),p9]
 ·rw[<-ph,e2,mr (d8 _),uu,md]
section
variable {prog:gl} {w:iq} {A:i9} {E:Za0} {s:fv}
variable {kd:uo} {P:jv->Prop} {blt:jv->jv->Bool} (L:lU prog w A E s kd P blt) (o:Swo blt)
include L o
theorem S5 {st:pj}{lo ok:Nat}{T D:List jv}{Q:Bool->pj->Prop}(hk:kindOf st=kd)(hP:∀x∈D,P x)(hT:T.length=lo)(hok:1<=ok)(hn:ok<=n)(hD:n<=D.length)
  (e:(arrOf st).toList=T++Ax blt (D.take ok)++D.drop ok)(h:∀xs:Array jv,xs.toList=T++Ax blt (D.take n)++D.drop n->Q true (setArr st xs)) :
  wpS (model prog w) A E s (binarySort' lo n ok) Q st:=by
 have hmx:max ok 1=ok:=by lia
 refine wpS_bind (wpS_mono (wpS_forRange (I:=λk c st'=>c=(none,())/\k<=n/\∃xs:Array jv,st'=setArr st xs/\xs.toList=T++Ax blt (D.take k)++D.drop k)
  (Q:=λc st'=>c=(none,())/\∃xs:Array jv,st'=setArr st xs/\xs.toList=T++Ax blt (D.take n)++D.drop n) ?_ ?_ ⟨rfl,by lia,arrOf st,rfl,by rw[hmx];exact e⟩) ?_)
 ·rintro k c st' hk1 hk2 ⟨rfl,_,xs,rfl,ex⟩
  dsimp only;obtain⟨v,ev⟩:∃v,D[k]?=some v:=⟨_,d4 (by lia)⟩;have lS:(Ax blt (D.take k)).length=k:=by rw[Hh,fi];lia
  have sS:=Mf o (D.take k);have pS:∀x∈Ax blt (D.take k),P x:=λx hx=>hP x (n8 ((E4 blt _).mem_iff.mp hx));have esn:Ax blt (D.take (k+1))=mg blt (Ax blt (D.take k)) [v]:=by rw[Mh ev,Cw]
  generalize Ax blt (D.take k)=S at *;have pv:xs[lo+k]?=some v:=by
   rw[<-gr,ex,ft (by rw[eh];lia),eh,lS,hT,j0,i5,m7];exact ev
  have pm:∀m,m<k->xs[lo+m]?=S[m]?:=λm hm=>by
   rw[<-gr,ex,fm,ft (by lia),hT,iy,f7 (by lia)]
  refine wpS_bind (wpS_mono (wpS_forRange (I:=λx c st'=>∃l r,c=(none,l,r)/\st'=setArr st xs/\l<=r/\r<=k/\r-l+x<=k/\(∀i z,i<l->S[i]?=some z->blt v z=false)/\(∀i z,r<=i->S[i]?=some z->blt v z=true))
   (Q:=λc st'=>∃l r,c=(none,l,r)/\st'=setArr st xs/\l<=k/\(∀i z,i<l->S[i]?=some z->blt v z=false)/\(∀i z,l<=i->S[i]?=some z->blt v z=true)) ?_ ?_ ⟨0,k,rfl,rfl,by lia,by lia,by lia,?_,?_⟩) ?_)
  ·rintro x c st' _ hx ⟨l,r,rfl,rfl,q1,q2,q3,q4,q5⟩
   dsimp only
   by_cases hge:l>=r
   ·rw[if_pos hge]
    exact lz ⟨l,r,rfl,rfl,by lia,q4,λi z hi ez=>q5 i z (by lia) ez⟩
   ·rw[if_neg hge]
    have ht1:l<=(l+r)/2:=by lia
    have ht2:(l+r)/2<r:=by lia
    generalize (l+r)/2=t at *;obtain⟨z,ez⟩:∃z,S[t]?=some z:=⟨_,d4 (by lia)⟩;refine wpS_bind (Jc L hk pv (by show xs[_]?=_;rw[pm _ (by lia)];exact ez) (hP _ (f8 ev)) (pS _ (f8 ez)) ?_);dsimp only
    cases hb:blt v z with
    |true=>
     rw[if_pos rfl];exact lz ⟨_,_,rfl,rfl,by lia,by lia,by lia,q4,λi z' hi ez'=>o.ltle hb (eR o sS hi ez ez')⟩
    |false=>
     rw[if_neg (by decide)];exact lz ⟨_,_,rfl,rfl,by lia,by lia,by lia,(λi z' hi ez'=>o.le (eR o sS (show i<=t by lia) ez' ez) hb),q5⟩
  ·rintro c st' ⟨l,r,rfl,rfl,q1,q2,q3,q4,q5⟩
   have:max 0 k=k:=by lia
   rw[this] at q3;exact⟨l,r,rfl,rfl,by lia,q4,λi z hi ez=>q5 i z (by lia) ez⟩
  ·intro i z hi
   lia
  ·intro i z hi ez
   have:=(fc.mp ez).1;lia
  ·rintro c st' ⟨l,r,rfl,rfl,q1,q4,q5⟩
   dsimp only;refine wpS_bind (?_:wpS (model prog w) A E s (moveDown' (lo+k) (lo+l)) _ _);rw[moveDown'_eq];refine FB (lz ⟨rfl,by lia,bubble xs (lo+k) (lo+k-(lo+l)),rfl,?_⟩);have hsz:xs.size=lo+D.length:=by
    rw[<-gh,ex,eh,eh,lS,hT,ic];lia
   rw[kE (by lia) (by lia) pv,Nat.sub_sub_self (Nat.add_le_add_left (by lia) lo),Nat.add_sub_add_left,ex];have hl:T.length+(S.take l).length=lo+l:=by rw[fi];lia
   have e1:T++S++D.drop k=(T++S.take l)++(S.drop l++D.drop k):=by
    conv=>lhs;rw[<-jn l S]
    simp only[fm]
   have hl2:(S.drop l).length=k-l:=by rw[ic,lS]
   obtain⟨m1,m2,m3,m4⟩:=sZ (U:=T++S.take l) (V:=S.drop l) (W:=D.drop k);rw[eh,hl] at m1 m2 m3 m4;rw[hl2] at m3 m4;have e2:(T++S++D.drop k).drop (lo+k+1)=D.drop (k+1):=by
    rw[<-ph,e1,show lo+k=lo+l+(k-l) by lia,m4,ph]
   rw[e2,e1,m1,m3,esn];have hS:S=S.take l++S.drop l:=(jn l S).symm
   conv=>rhs;rw[hS]
   rw[Je blt λa ha y hy=>?_]
   ·have:=Jp blt (xs:=S.drop l) (bs:=[v]) (ys:=[]) λb hb z hz=>by
     rw[fz.mp hb];obtain⟨j,hj,ez⟩:=vU hz;exact q5 j z hj ez
    rw[gy,C6] at this;rw[this];simp only[fm]
   ·rw[fz.mp hy]
    obtain⟨j,hj,ez⟩:=T4 ha;exact q4 j a hj ez
 ·rintro c st' ⟨rfl,hle,xs,rfl,ex⟩
  rw[hmx] at hle ex;have:max ok n=n:=by lia
  rw[this] at ex;exact⟨rfl,xs,rfl,ex⟩
 ·rintro c st' ⟨rfl,xs,rfl,ex⟩
  exact lz (h xs ex)
end
def Xx (N H:Hp):Hp:=λb=>match N b with|some o=>some o|none=>H b
theorem Lv {N:Hp}{b:eg}{o:HO}(h:N b=some o):Xx N H b=some o:=by unfold Xx;rw[h]
theorem Gp {N:Hp}{b:eg}(h:N b=none):Xx N H b=H b:=by unfold Xx;rw[h]
def fT (oc:Obj)(qual:Str):Prop:=∃vs t,oc.data=.fields vs/\vs[1]?=some (.str qual t)
def Ps (H:Hp)(P:eg)(pos:Pos)(qual:Str):Prop:=∃ps:Array fh,H P=some (.tbl ps)/\TriplesOk ps.toList/\(codeAmong pos ps.toList=none\/∃c' oc,codeAmong pos ps.toList=some (.ref c')/\H c'=some (.frz oc (.own 0))/\fT oc qual)
section
variable {X:Cx} {pins:Za1} {G:St} {H:Hp} {s:fv}
theorem Inv.grown {P:eg}{ps more:Array fh}{N:Hp}(I:Inv X pins G H s)(hP:H P=some (.tbl ps))(k:∀b u,b≠P->s.heap.get? b=some u->h'.get? b=some u)(hT:h'.get? P=some (vj (ps++more)))
  (hp:∀b o,N b=some o->s.heap.objs.size<=b)(new:∀b o,N b=some o->Cq X.prog X.w (Xx N (upd H P (.tbl (ps++more)))) h' b o):Inv X pins G (Xx N (upd H P (.tbl (ps++more)))) { s with heap:=h',toks:=t' }:=by
 have hlt:P<s.heap.objs.size:=(I.hok P _ hP).lt;have hNP:N P=none:=by
  cases e:N P with
  |none=>rfl
  |some o=>exact absurd hlt (pq.mpr (hp P o e))
 have hn:∀b o,N b=some o->H b=none:=λb o e=>I.hok.fresh (hp b o e);have old:∀b u,s.heap.get? b=some u->N b=none:=λb u e=>by
  cases hN:N b with
  |none=>rfl
  |some o=>exact absurd (fu e) (pq.mpr (hp b o hN))
 have sm:∀b o,b≠P->H b=some o->Xx N (upd H P (.tbl (ps++more))) b=some o:=λb o hb e=>by
  have:N b=none:=by
   cases hN:N b with
   |none=>rfl
   |some u=>rw[hn b u hN] at e;cases e
  rw[Gp this,Al hb];exact e
 have neP:∀b,H b=none->b≠P:=λb e z=>by rw[z,hP] at e;cases e
 refine I.un ⟨λb u q n _ _=>k b u (neP b n) q,λb u q n _ _=>⟨u.slots,k b u (neP b n) q⟩,λb u q n _=>by rw[Gp (old b u q),Al (neP b n)];exact n,λb u q _=>?_,λb xs q=>sm _ _ (λz=>by rw[z,hP] at q;cases q) q,λb u xs q=>sm _ _ (λz=>by rw[z,hP] at q;cases q) q,λb qs q=>?_⟩ λb o e=>?_
 ·by_cases hb:b=P
  ·rw[hb];exact⟨_,hT⟩
  ·exact⟨u,k b u hb q⟩
 ·by_cases hb:b=P
  ·rw[hb,hP] at q
   cases q;exact⟨more,by rw[hb,Gp hNP,Af]⟩
  ·exact⟨#[],by rw[sm b _ hb q];simp⟩
 ·cases hN:N b with
  |some u=>
   rw[Lv hN] at e;cases e;exact new b _ hN
  |none=>
   rw[Gp hN] at e
   by_cases hb:b=P
   ·rw[hb,Af] at e
    cases e;rw[hb];exact hT
   ·rw[Al hb] at e
    refine(I.hok b o e).stay (λc v hc q=>k c v (λz=>?_) q) (λc q=>sm _ _ (λz=>by rw[z,hP] at q;cases q) q) λc xs q=>sm _ _ (λz=>by rw[z,hP] at q;cases q) q;rcases hc with h|h
    ·exact hb (h▸z)
    ·rw[z,hP] at h;cases h
end
def Pf (P:eg)(H H':Hp):Prop:=∀b u,b≠P->H b=some u->H' b=some u
section
variable {X:Cx} {pins:Za1} {G:St} {H:Hp} {s:fv} {M:wc} {A:i9} {E:Za0} {Q:Za0} {c P:eg} {pos:Pos} {qual:Str} {params:mv} {body:i8} {scope:nh} {clos:List (Str×eg)}
theorem kT (I:Inv X pins G H s)(T:Ps H P pos qual)(C:BE X.base c P)(hb:X.base.BuiltinsAt X.mg P)(hcode:X.env.code=.ref c)(hcl:closureFor scope X.env=pure clos)(hdef:defaultsOf params X.env=([],[]))(hq:X.env.qual++"<lambda>"=qual)
  (h:∀(f c':eg) (oc:Obj) (pm ctv:fh) (s':fv) (H':Hp),Inv X pins G H' s'->Ps H' P pos qual->Pf P H H'->H f=none->H' f=some (.frz (y6 "<lambda>" qual params body scope clos pm c' ctv) (.own 0))->H' c'=some (.frz oc (.own 0))->fT oc qual->Q (.ref f) s') :
  wpAny M A (eval (.Lambda params body scope pos) X.env) Q E s:=by
 obtain⟨ps,hP,ht,hc⟩:=T;refine PySem.W.kla_eval hdef ?_;rw[hq];have hPs:s.heap.get? P=some (vj ps):=I.hok P _ hP;have hg:s.heap.Ns mainGlobals X.mg:=I.mod.glob.keeps I.bk;have hgP:mainGlobals≠P:=λe=>by
  obtain⟨o,es,ep,e1,d,_⟩:=I.mod.glob;have:=(I.bs _ _ e1).2;rw[e,hP] at this;cases this
 have hb':s.heap.BuiltinsAt X.mg P:=by
  obtain⟨bm,o,a1,a2,a3,a4,a5,a6⟩:=hb;exact⟨bm,o,a1,a2,a3,a4,I.bk _ _ a5,a6⟩
 rcases hc with hc|⟨c',oc,hc,hc',ho⟩
 ·refine PySem.W.kla_makeFunction hcl I.ok.glob hg hcode (C.keeps I.bk) hPs ht hc hgP hb' λc' ctv h' tk hx hge hlt hrec htb=>?_
  obtain⟨c₂,oc,vs,t,e2,hoc,hd,hv⟩:=hrec;cases e2
  let fo:=y6 "<lambda>" qual params body scope clos ((X.mg "__name__").getD .none) c' ctv
  let N:Hp:=λb=>if b=h'.objs.size then some (.frz fo (.own 0)) else if b=c' then some (.frz oc (.own 0)) else none
  have n1:N h'.objs.size=some (.frz fo (.own 0)):=if_pos rfl;have n2:N c'=some (.frz oc (.own 0)):=(if_neg (gm hlt)).trans (if_pos rfl);have n3:∀b o,N b=some o->(b=h'.objs.size/\o=.frz fo (.own 0))\/(b=c'/\o=.frz oc (.own 0)):=λb o e=>by
   by_cases h1:b=h'.objs.size
   ·rw[h1,n1] at e;cases e;exact .inl ⟨h1,rfl⟩
   ·by_cases h2:b=c'
    ·rw[h2,n2] at e;cases e;exact .inr ⟨h2,rfl⟩
    ·have:N b=none:=(if_neg h1).trans (if_neg h2)
     rw[this] at e;cases e
  have hp:∀b o,N b=some o->s.heap.objs.size<=b:=λb o e=>by
   rcases n3 b o e with⟨r,_⟩|⟨r,_⟩<;>rw[r]
   ·exact ir hge (f9 hlt)
   ·exact hge
  have hNP:N P=none:=by
   cases e:N P with
   |none=>rfl
   |some o=>exact absurd (I.hok P _ hP).lt (pq.mpr (hp P o e))
  have gf:(h'.push fo).get? h'.objs.size=some fo:=gq _ rfl;have gc:(h'.push fo).get? c'=some oc:=en _ hoc;have I':=Inv.grown (N:=N) (more:=#[FJ pos.line,FJ pos.col,.ref c']) (h':=h'.push fo) (t':=tk) I hP (λb u hb e=>en _ (hx b u hb e)) (en _ htb) hp λb o e=>by
   rcases n3 b o e with⟨r,r'⟩|⟨r,r'⟩<;>rw[r,r']
   ·exact⟨gf,_,gf⟩
   ·exact⟨gc,_,gc⟩
  refine h _ c' oc _ ctv _ _ I' ⟨_,by rw[Gp hNP,Af],?_,.inr ⟨c',oc,?_,Lv n2,vs,t,hd,hv⟩⟩ (λb u hb e=>?_) (I.hok.fresh (hp _ _ n1)) (Lv n1) (Lv n2) ⟨vs,t,hd,hv⟩
  ·rw[sj];exact TriplesOk_snoc _ _ _ _ ht
  ·rw[sj];exact codeAmong_snoc _ ht hc
  ·have:N b=none:=by
    cases hN:N b with
    |none=>rfl
    |some o=>rw[I.hok.fresh (hp b o hN)] at e;cases e
   rw[Gp this,Al hb];exact e
 ·refine PySem.W.kla_makeFunctionHit hcl I.ok.glob hg hcode (C.keeps I.bk) hPs ht hc hb' λctv h' tk hk hsz=>?_
  let fo:=y6 "<lambda>" qual params body scope clos ((X.mg "__name__").getD .none) c' ctv
  let N:Hp:=λb=>if b=h'.objs.size then some (.frz fo (.own 0)) else none
  have n1:N h'.objs.size=some (.frz fo (.own 0)):=if_pos rfl;have n3:∀b o,N b=some o->b=h'.objs.size/\o=.frz fo (.own 0):=λb o e=>by
   by_cases h1:b=h'.objs.size
   ·rw[h1,n1] at e;cases e;exact⟨h1,rfl⟩
   ·have:N b=none:=if_neg h1
    rw[this] at e;cases e
  have hp:∀b o,N b=some o->s.heap.objs.size<=b:=λb o e=>by rw[(n3 b o e).1];exact hsz
  have hn:∀b u,H b=some u->N b=none:=λb u e=>by
   cases hN:N b with
   |none=>rfl
   |some o=>rw[I.hok.fresh (hp b o hN)] at e;cases e
  have gf:(h'.push fo).get? h'.objs.size=some fo:=gq _ rfl;have I':=Inv.grown (N:=N) (more:=#[]) (h':=h'.push fo) (t':=tk) I hP (λb u _ e=>en _ (hk b u e)) (by rw[tj];exact en _ (hk _ _ hPs)) hp λb o e=>by
   rw[(n3 b o e).1,(n3 b o e).2];exact⟨gf,_,gf⟩
  rw[tj] at I';have old:∀b u,b≠P->H b=some u->Xx N (upd H P (.tbl ps)) b=some u:=λb u hb e=>by rw[Gp (hn b u e),Al hb];exact e
  have hcP:c'≠P:=Il hc' hP (by intro q;cases q);exact h _ c' oc _ ctv _ _ I' ⟨ps,by rw[Gp (hn P _ hP),Af],ht,.inr ⟨c',oc,hc,old _ _ hcP hc',ho⟩⟩ old (I.hok.fresh (hp _ _ n1)) (Lv n1) (old _ _ hcP hc') ho
end
section
variable {prog:gl} {w:iq} {A:i9} {R:wm->fv->Prop} {s:fv}
theorem yY {f c' c a:eg}{k d:Str}{cl:List (Str×eg)}{ctv u v:fh}{pk pd pp:Pos}{its:Array fh}{i:Int}{ti:Tok}
  (ho:s.heap.get? f=some (y6 "<lambda>" qual params (.Subscript (.Name d pd) (.Name k pk) pp) scope cl pm c' ctv))(hcd:s.heap.CodeRec (.ref c') qual)(hroom:A.depth<recursionLimit)(hlim:s.heap.NoLimit)
  (hbind:bindArgs (DE "<lambda>" qual params (.Subscript (.Name d pd) (.Name k pk) pp) scope cl pm (.ref c') ctv) ⟨[.int i ti],[]⟩=pure [(k,.int i ti)])
  (hk:scope.kind=.function)(hco:scope.isCoroutine=false)(hgen:scope.isGenerator=false)(lk:scope.names.lookup k=some .local)(ld:scope.names.lookup d=some .free)(hcell:∀x∈scope.names,x.2≠.cell)(hcl:cl.lookup d=some c)
  (hd:(d==("__classdict__":Str))=false)(nk:(k==("__debug__":Str))=false)(nd:(d==("__debug__":Str))=false)
  (hcv:s.heap.IsCell c (some (.ref a)))(hl:s.heap.IsList a its)(h0:0<=i)(hfit:i<2 ^ 63)(hv:its[i.toNat]?=some v)
  (h:∀(h':jj) (tk:Tok),(∀b o,s.heap.get? b=some o->h'.get? b=some o)->R (.ok (.ret v)) { s with heap:=h',toks:=tk }) :
  codeAny (model prog w) A (.call (.ref f) ⟨[.int i ti],[]⟩) R s:=by
 refine AE hroom ho rfl hco hgen rfl hcd ?_;rw[hbind];refine fq (sv hcell (λy hy=>by cases fz.mp hy;exact lk) (λQR hns hsb=>⟨hlim.fresh _ hsb,?_⟩) hk);have XB:∀b o,s.heap.get? b=some o->QR.get? b=some o:=λb o e=>hsb.extBut b o (gm (fu e)) (en _ e);refine AD (Subscript_ (yk (EQ hk ld hcl (hcv.keeps XB) (yk (xn hk lk hns (v:=.int i ti) (by simp) (item_listR (let ⟨o,e,r⟩:=hl;⟨o,XB _ _ e,r⟩) h0 hfit hv (h QR _ XB))) nk) hd) nd))
end
open PySem.W
section
variable {prog:gl} {w:iq} {A:i9} {E:Za0} {s:fv}
def Ml (a:eg)(h h':jj):Prop:=∀b o,b≠a->h.get? b=some o->h'.get? b=some o
end
section
variable {prog:gl} {w:iq} {A:i9} {s:fv}
theorem yQ {l:eg}(hl:s.heap.IsList l vs.toArray)(hz:vs.length<=sizeLine)(E':Za0)(Q':Za3->fv->Prop)
  (h:∀h' tk,(∀b o,s.heap.get? b=some o->h'.get? b=some o)->s.heap.objs.size<=h'.objs.size->Q' vs { s with heap:=h',toks:=tk }):wpAny (model prog w) A (collect (.ref l)) Q' E' s:=by
 refine collect_list hl (h _ s.toks (λb o q=>?_) (by rw[ml,AW];exact wo _)) hz;have hlt:b<s.heap.objs.size:=fu q;rw[Heap.get?_update_ne _ _ _ _ (gm hlt),xx _ _ _ (gm hlt)];exact q
end
theorem Xc:∀{us:Za3} {ns:List Int},us.length=ns.length->(∀(i:Nat) u n,us[i]?=some u->ns[i]?=some n->∃t,u=.int n t)->rp us ns
 |[],[],_,_=>.nil
 |u::us,n::ns,hl,h=>by
  obtain⟨t,rfl⟩:=h 0 u n rfl rfl;exact .cons n t (Xc (ug hl) λi v m e1 e2=>h (i+1) v m e1 e2)
theorem Sj:∀l:Za3,(∀v∈l,∃n t,v=o7 n t)->rp l (l.map numOf)
 |[],_=>.nil
 |v::l,h=>by
  obtain⟨n,t,rfl⟩:=h _ (gu ..);exact .cons n t (Sj l λu hu=>h u (gv _ hu))
section
variable {prog:gl} {w:iq} {A:i9} {E:Za0} {s:fv}
theorem sK {r:eg}{t u v:Tok}(hh:A.handled=none)(hr:IsRange s.heap r 0 n 1 t u v)(hn:n<=100000)(E':Za0)(Q':Za3->fv->Prop)
  (h:∀vs h' tk,rp vs ((fb n).map λi:Nat=>(i:Int))->(∀b o,s.heap.get? b=some o->h'.get? b=some o)->s.heap.objs.size<=h'.objs.size->Q' vs { s with heap:=h',toks:=tk }):wpAny (model prog w) A (collect (.ref r)) Q' E' s:=by
 have e2:lf 0 (n:Int) 1=n:=by rw[JA];split<;>lia
 have key:∀R:wm->fv->Prop,(∀(h':jj) (tk:Nat) (acc':Array fh) (c':Nat),(∀b o,s.heap.get? b=some o->h'.get? b=some o)->h'.get? s.heap.objs.size=some { cls:=.type "list",dict:=none,data:=.seq acc' c',slots:=#[] } ->
   ItemsOf (λi v=>∃t,v=.int (0+(i:Int)*1) t) acc' n->R (.ok (.ret (.ref s.heap.objs.size))) { s with heap:=h',toks:=tk })->codeAny (model prog w) A (.builtin "proto.collect" ⟨[.ref r],[]⟩) R s:=λR hR=>by
  refine mh F.entry_proto_collect ?_;rw[j5 F.plain_proto_collect _];show wpAny _ A.in1 (newList [] >>= λl=>again (.builtin "list.__iadd__" ⟨[l,.ref r],[]⟩)) _ _ s;refine wpAny_bind (oj ?_);refine fq ⟨ou FA _,mh F.entry_list_iadd ?_⟩;rw[j5 FA _];have XU:(s.heap.push { cls:=.type "list",data:=.seq ([]:Za3).toArray }).get? s.heap.objs.size=some { cls:=.type "list",data:=.seq ([]:Za3).toArray }:=gq _ rfl;show wpAny _ A.in1 (ow (.ref s.heap.objs.size) (.ref r) (.ref s.heap.objs.size)) _ _ _;exact wpAny_extend_range (R:=R) (s:={ s with heap:=s.heap.push { cls:=.type "list",data:=.seq ([]:Za3).toArray } }) hh (en _ hr) (small_one (by lia) (by lia) (by lia) (by lia)) e2 (by lia) _ _ _ XU λh' tk acc' c' hk hS' hacc=>
   hR h' tk acc' c' (λb o q=>hk b o (gm (fu q)) (en _ q)) hS' hacc
 unfold collect;refine wpAny_bind (wpAny_runValue (key _ λh' tk acc' c' hk hS' hacc=>?_));show wpAny _ A (load s.heap.objs.size >>= _) _ _ _;refine wpAny_bind (wpAny_load hS' ?_);refine fq (h _ h' tk ?_ hk (f9 (fu hS')));refine Xc (by rw[d7,fe,gh,hacc.1]) λi x y e1 e3=>?_;have hi:i<n:=by have:=(fc.mp e3).1;simpa using this
 rw[d9,gd hi] at e3;cases e3;have e4:acc'[i]?=some x:=by rw[<-gr];exact e1
 obtain⟨t,e5⟩:=hacc.2 i x e4;exact⟨t,by rw[e5];simp⟩
end
abbrev fE (k:Str)(pa:Pos):mv:={ posonlyargs:=[],args:=[{ arg:=k,annotation:=none,pos:=pa }],vararg:=none,kwonlyargs:=[],kw_defaults:=[],kwarg:=none,defaults:=[] }
abbrev On (k d:Str):nh:=⟨.function,[(k,.local),(d,.free)],false,false,[]⟩
abbrev fS (k d:Str)(pd pk pp:Pos):i8:=.Subscript (.Name d pd) (.Name k pk) pp
section
variable {X:Cx}
def Ago (ta:TA):TE:=λG H Q=>ta G H λvs H1=>∃j:Nat,vs=[.int j]/\j<=100000/\∀p,H1 p=none->Q (.ref p) (upd H1 p (.rng 0 j))
theorem Abm {a:i8}{ta:TA}{q:Pos}(hg2:Gl X "range")(hm2:X.mg "range"=none)(ha:PA X [a] ta)(hs:autoParam (starEach [a] X.env=[(false,eval a X.env)]) QD) :
  PE X (.Call (.Name "range" q) [a] [] pos2) (Ago ta):=by
 k_in;refine wpAny_Call_Name_kw (Do I hg2 hm2 boot_range (ik (thA ha I h λus s1 vs H1 I1 r1 q1=>?_) hs rfl) (by decide) (by decide));obtain⟨j,e,hj,q⟩:=q1;subst e;obtain⟨u,rfl,t,rfl⟩:=Fh r1;refine JY ?_;exact⟨.ref _,_,I1.laid (o:=.rng 0 j) (λb o e=>en _ e) (d8 _) ⟨_,_,_,gq _ rfl⟩,rfl,q _ (I1.hok.fresh (d8 _))⟩
def Ij (n:Nat):List Int:=(fb n).map λj:Nat=>(j:Int)
end
def J1 (o:Obj)(c P:eg):Prop:=∃vs file tf flags tg inF text tt,o.cls=.type "code"/\o.data=.fields vs/\vs[11]?=some (.ref P)/\vs.getD 11 .none=.ref P/\vs.getD 18 .none=.str file tf /\
  vs.getD 7 .none=.int flags tg/\vs.getD 9 .none=.bool inF/\vs.getD 10 .none=.int text tt/\c≠P
theorem J1.at {o:Obj}{c P:eg}(x:J1 o c P)(e:h.get? c=some o):BE h c P:=by
 obtain⟨vs,file,tf,flags,tg,inF,text,tt,a1,a2,a3,a4,a5,a6,a7,a8,a9⟩:=x;exact⟨o,vs,file,tf,flags,tg,inF,text,tt,e,a1,a2,a3,a4,a5,a6,a7,a8,a9⟩
theorem nL {P:gl}{K:d6}{mg mb:Za2}{CX:CXT}{k:Nat}{fa a:eg}{x:Str}{QN:fv}{tabs:List (eg×eg)}
  (hT:yn tabs QN.heap)(hTK:∀q∈tabs,K.lookup q.2=none)(hB:∃bm ob,mg "__builtins__"=some (.ref bm)/\bm≠builtinsNs/\QN.heap.get? bm=some ob/\ob.cls=.type "module"/\ob.dict=some builtinsNs/\ob.data=.plain)(KX:K.In QN.heap)(hns:QN.heap.Ns mainGlobals mg)(hb:QN.heap.Ns builtinsNs mb)(hbb:∀x:Str,x≠"__name__"->mb x=bootBuiltins x)(hlim:QN.heap.NoLimit)(hg:QN.gens=#[])
  (ha:QN.heap.get? a=some { cls:=.type "list",data:=.seq vs.toArray })(hi:rp vs ns)(hl:ns.length<=sizeLine)(hr:Co k callerA)
  (F:∀base:jj,K.In base->base.Ns mainGlobals mg->(∀q∈tabs,base.BuiltinsAt mg q.2)->Ar P w K mg base CX k fa fd [x] sp)(hbind:∀(s:fv) (u:fh),AR s fd ⟨[u],[]⟩ [(x,u)])
  (hsp:∀H:Hp,(∀q∈tabs,H q.2=some (.tbl #[]))->SqL K H a (ns.map V.int)->sp [.ref a] H (λv _=>v=.bl true) λ_ _ _=>False)
  (hCX:∀H e s',CX [] H QN (λ_ _ _=>False) e s'->False) :
  codeAny (model P w) callerA (.call (.ref fa) ⟨[.ref a],[]⟩) (λr s'=>r=.ok (.ret (.bool true))/\OldK QN.heap s'.heap/\s'.os=QN.os/\ww s'.gens) QN:=by
 have rv:=R5 hi;have tabAt:∀b,b∈tabs.map (·.2)->QN.heap.get? b=some (vj #[])/\K.lookup b=none/\isCodeTable QN.heap b:=λb hm=>by
  obtain⟨q,hq,rfl⟩:=lp.mp hm;exact⟨(hT q hq).2,hTK q hq,((hT q hq).1.tab (hT q hq).2).isCodeTable⟩
 have haT:a∉tabs.map (·.2):=λhm=>by
  have:=(tabAt a hm).1;rw[ha] at this;cases this
 let H:Hp:=λb=>if b∈tabs.map (·.2) then some (.tbl #[]) else if b=a/\K.lookup a=none then some (.frz { cls:=.type "list",data:=.seq vs.toArray } (.lst (ns.map V.int))) else none
 have H1:∀b,b∈tabs.map (·.2)->H b=some (.tbl #[]):=λb hm=>if_pos hm;have H2:∀b,b∉tabs.map (·.2)->¬(b=a/\K.lookup a=none)->H b=none:=λb h1 h2=>(if_neg h1).trans (if_neg h2);have H3:K.lookup a=none->H a=some (.frz { cls:=.type "list",data:=.seq vs.toArray } (.lst (ns.map V.int))):=λh=>(if_neg haT).trans (if_pos ⟨rfl,h⟩);have cases3:∀b,(b∈tabs.map (·.2))\/(b=a/\K.lookup a=none/\b∉tabs.map (·.2))\/(H b=none):=λb=>by
  by_cases h1:b∈tabs.map (·.2)
  ·exact .inl h1
  ·by_cases h2:b=a/\K.lookup a=none
   ·exact .inr (.inl ⟨h2.1,h2.2,h1⟩)
   ·exact .inr (.inr (H2 b h1 h2))
 have hok:HOk P w H QN.heap:=λb o e=>by
  rcases cases3 b with h|⟨rfl,h1,_⟩|h
  ·rw[H1 b h] at e
   cases e;exact(tabAt b h).1
  ·rw[H3 h1] at e
   cases e;exact⟨ha,by rw[d7];exact hl,vs,_,rv,ha⟩
  ·rw[h] at e
   cases e
 have noD:∀{b:eg} {o:Obj} {es:Array DictEntry} {ep:Nat},QN.heap.get? b=some o->o.data=.dict es ep->H b=none:=λ{b o es ep} e d=>by
  rcases cases3 b with h|⟨rfl,_,_⟩|h
  ·rw[(tabAt b h).1] at e
   cases e;have d':BW #[]=IU es ep:=d;cases d'
  ·rw[ha] at e
   cases e;have d':Data.seq vs.toArray _=IU es ep:=d;cases d'
  ·exact h
 have nsK:∀{b:eg} {m:Za2},QN.heap.Ns b m->(fN QN.heap H).Ns b m:=λ{b m} ⟨o,es,ep,e,d,r⟩=>⟨o,es,ep,T1 e (noD e d),d,r⟩;have hKb:K.In (fN QN.heap H):=λb o e=>T1 (KX b o e) (by
  rcases cases3 b with h|⟨rfl,h1,_⟩|h
  ·rw[(tabAt b h).2.1] at e;cases e
  ·rw[h1] at e;cases e
  ·exact h)
 have hBa:∀q∈tabs,(fN QN.heap H).BuiltinsAt mg q.2:=λq hq=>by
  obtain⟨bm,ob,b1,b2,b3,b4,b5,b6⟩:=hB;have n1:bm≠mainGlobals:=λz=>by
   obtain⟨o,es,ep,e,d,_⟩:=hns;rw[z,e] at b3;cases b3;rw[d] at b6;cases b6
  have nP:bm∉tabs.map (·.2):=λhm=>by
   have:=(tabAt bm hm).1;rw[b3] at this;cases this;cases b6
  have hn:H bm=none:=by
   rcases cases3 bm with h|⟨h,_,_⟩|h
   ·exact absurd h nP
   ·rw[h,ha] at b3
    cases b3;cases b6
   ·exact h
  exact⟨bm,ob,b1,b2,n1,λz=>nP (z▸om hq),T1 b3 hn,b4,b5,b6⟩
 have hM:Mod K mg (fN QN.heap H):=⟨hKb,nsK hns,⟨mb,nsK hb,hbb⟩,let ⟨mc,h1,h2⟩:=hlim;⟨mc,nsK h1,h2⟩⟩;have e0:X3 P w K mg (fN QN.heap H) callerA [] QN H:=⟨rfl,hM,λb o e=>Acg e,oh (sE _ _),trivial,λb hb=>absurd (show b∈([]:List eg) from hb) (by simp),hok,.of_eq hg⟩;have hS:SqL K H a (ns.map V.int):=by
  cases hk:K.lookup a with
  |none=>exact .inl (.inr ⟨_,H3 hk⟩)
  |some o=>
   have e:=KX a o hk;rw[ha] at e;cases e;exact .inr ⟨_,vs.toArray,_,hk,rfl,rfl,rfl,by rw[ge,hi.length];exact hl,by simpa using rv⟩
 refine ud ((F _ hKb (nsK hns) hBa).run callerA [] QN H ⟨[.ref a],[]⟩ [.ref a] [.ref a] _ _ hr e0 (hbind QN (.ref a)) (.cons rfl .nil) (hsp H (λq hq=>H1 _ (om hq)) hS)) λr s' h=>?_
 cases r with
 |error e=>exact(hCX H e s' h).elim
 |ok fl=>
  cases fl with
  |next=>exact ki h
  |brk=>exact ki h
  |cont=>exact ki h
  |ret u=>
   obtain⟨v,H',os,bare,un,hok',r',q⟩:=h;have q':v=.bl true:=q;subst q';obtain rfl:u=y8 true:=r';have out:∀b o,QN.heap.get? b=some o->(b∈tabs.map (·.2)/\∃more,s'.heap.get? b=some (vj more))\/s'.heap.get? b=some o:=λb o e=>by
    rcases cases3 b with h|⟨rfl,h1,_⟩|h
    ·obtain⟨more,hm⟩:=un.tbls b _ (H1 b h)
     exact .inl ⟨h,_,hok' b _ hm⟩
    ·obtain⟨e2,_⟩:=hok' _ _ (un.frzs _ _ _ (H3 h1))
     rw[ha] at e;cases e;exact .inr e2
    ·exact .inr (un.keep b o e h (by intro z;exact absurd (show b∈([]:List eg) from z) (by simp)) (by simp))
   refine⟨rfl,⟨λb o e=>?_,λb o e=>?_⟩,os,bare⟩
   ·rcases out b o e with⟨h,more,hm⟩|h
    ·have e1:=(tabAt b h).1
     rw[e] at e1;cases e1;exact .inr (.inl ⟨(tabAt b h).2.2,rfl,#[],more,rfl,by rw[Array.empty_append];exact hm⟩)
    ·exact .inl h
   ·rcases out b o e with⟨_,more,hm⟩|h
    ·exact⟨_,hm⟩
    ·exact⟨o,h⟩
theorem sY {l:x5}{k:Nat}{q:gl}{loose:Za6}{XP:(Za2)->jj->Prop}{YP:iq->jj->Prop}{d:IT}{K:zq->d6}{CX:iq->CXT}{sp:iq->Sp}{x:Str}{tabs:List (eg×eg)}
  (hn:l.most=some n)(hn2:n<=sizeLine)(hdf:d.params.defaults=[])(hr:Co k callerA)
  (hY:∀(w:iq) (h:jj),YP w h->(K w.params).In h)(hTb:∀(w:iq) (h:jj),YP w h->yn tabs h)(hTK:∀w:iq,∀p∈tabs,(K w.params).lookup p.2=none)
  (F:∀(w:iq) (mg:Za2) (fa:eg) (h:jj),(K w.params).In h->h.Ns mainGlobals mg->mg d.name=some (.ref fa) ->
   ∃fd:jq,(∀(s:fv) (u:fh),AR s fd ⟨[u],[]⟩ [(x,u)]) /\
    ∀base:jj,(K w.params).In base->base.Ns mainGlobals mg->(∀q∈tabs,base.BuiltinsAt mg q.2)->Ar l.prog w (K w.params) mg base (CX w) k fa fd [x] (sp w))
  (hsp:∀(w:iq) (H:Hp) (a:eg) (ns:List Int),ns.length<=n->(∀p∈tabs,H p.2=some (.tbl #[]))->SqL (K w.params) H a (ns.map V.int)->sp w [.ref a] H (λv _=>v=.bl true) λ_ _ _=>False)
  (hCX:∀(w:iq) (H:Hp) (s:fv) (e:fh) (s':fv),CX w [] H s (λ_ _ _=>False) e s'->False) :
  DS q loose XP YP l.row.toRowW d [] (λf vs=>CA f vs):=by
 refine Att.attach_call hn hdf λw QP QN mg mb fa o pm cd doc a vs ns G Y ho hd hcd hmg hobj hints hlen hg=>?_;have KX:=hY w _ Y;obtain⟨fd,hb,hF⟩:=F w mg fa _ KX G.T.g hmg;exact nL (hTb w _ Y) (hTK w) G.T.bmain KX G.T.g G.T.b G.T.builtins G.T.nolimit hg hobj hints (ir hlen hn2) hr hF hb (λH hO hS=>hsp w H a ns hlen hO hS) λH e s'=>hCX w H QN e s'
structure Xw (K:d6) (x qual:Str) (st:iz) (f:eg) (fd:jq) (c P:eg):Prop where
 ex:∃(oc:fh) (od:Option eg) (kV doc pm:fh) (an:Option eg) (ct:fh) (osl:Array (Za7)),
  fd=jk x qual (B2 st) (Bk st) (Ac st) .none kV doc pm an (.ref c) ct/\K.lookup f=some ⟨oc,od,.func fd,osl⟩/\lx K (.ref c) qual=true
 kp:ka K (.ref f)=true
 hd:∃oc,K.lookup c=some oc/\J1 oc c P
section
variable {P:gl} {w:iq} {K:d6} {mg:Za2} {base:jj}
theorem Xw.ok {x:Str}{st:iz}{f c:eg}{k:Nat}(F:Xw K x qual st f fd c Pt)(S:Ah N ps (Ac st))(len:∀vs H Q E,sp vs H Q E->vs.length=ps.length)
  (hbody:∀(A:i9) (outer:List Env) (s:fv) (H:Hp) (vs:List V) (Q:VK) (E:XK),Co k (A.deeper (envOfC qual (Ac st) s.heap.objs.size f (.ref c)))->sp vs H Q E ->
   ∃t,PSs (iE CX0 P w K mg base N qual (Ac st) f (.ref c) A outer s H E).nox (Bk st) t/\t { nx:=λ_ H'=>Q .non H',rt:=Q } (Nm N vs) H):Ar P w K mg base CX0 (k+1) f fd ps sp:=by
 obtain⟨oc,od,kV,doc,pm,an,ct,osl,rfl,lk,hcd⟩:=F.ex;refine vC lk hcd S len λA outer s H vs Q E hr hsp=>?_;obtain⟨t,h,q⟩:=hbody A outer s H vs Q E hr hsp;exact⟨t,h.nox,q⟩
theorem Xw.code {x:Str}{st:iz}{f c:eg}(F:Xw K x qual st f fd c Pt)(hK:K.In base):BE base c Pt:=let ⟨oc,e,h⟩:=F.hd;h.at (hK _ _ e)
theorem Xw.binds {x:Str}{st:iz}{f c:eg}(F:Xw K x qual st f fd c Pt)
  (h:∀(kV doc pm:fh) (an:Option eg) (cdv ct:fh) (us:Za3),us.length=ps.length->bindArgs (jk x qual (B2 st) (Bk st) (Ac st) .none kV doc pm an cdv ct) ⟨us,[]⟩=pure (ps.zip us)):Fm K fd ps []:=by
 obtain⟨oc,od,kV,doc,pm,an,ct,osl,rfl,lk,hcd⟩:=F.ex;exact .all (h kV doc pm an (.ref c) ct)
theorem Z6 {x:Str}{st:iz}{f c:eg}{osl:Array (Za7)}{kV:fh}{oo:Obj}(l:K.lookup f=some ⟨oc,od,.func (jk x qual (B2 st) (Bk st) (Ac st) .none kV doc pm an (.ref c) ct),osl⟩)
  (cc:lx K (.ref c) qual=true)(k:ka K (.ref f)=true)(lc:K.lookup c=some oo)(hc:J1 oo c Pt):Xw K x qual st f (jk x qual (B2 st) (Bk st) (Ac st) .none kV doc pm an (.ref c) ct) c Pt:=⟨⟨oc,od,kV,doc,pm,an,ct,osl,rfl,l,cc⟩,k,oo,lc,hc⟩
end
def InC (cl:List (Str×eg))(b:eg):Prop:=∃x,cl.lookup x=some b
open Classical in
noncomputable def Js (H:Hp) (cl:List (Str×eg)):Hp:=λb=>if InC cl b then none else H b
open Classical in
noncomputable def Jz (H:Hp) (h:jj) (cl:List (Str×eg)):Hp:=λb=>if InC cl b then(h.get? b).map λo=>.frz o (.own 0) else H b
theorem Lb {cl:List (Str×eg)}{b:eg}(h:InC cl b):Js H cl b=none:=if_pos h
theorem Gf {cl:List (Str×eg)}{b:eg}(h:¬ InC cl b):Js H cl b=H b:=if_neg h
theorem Pu {cl:List (Str×eg)}{b:eg}{o:Obj}(hb:InC cl b)(e:h.get? b=some o):Jz H h cl b=some (.frz o (.own 0)):=by
 unfold Jz;rw[if_pos hb,e];rfl
theorem C0 {cl:List (Str×eg)}{b:eg}(hb:¬ InC cl b):Jz H h cl b=H b:=if_neg hb
theorem E6 {cl:List (Str×eg)}{b:eg}(h:H b=none):Js H cl b=none:=by
 by_cases hb:InC cl b
 ·exact Lb hb
 ·rw[Gf hb];exact h
theorem oK {cl:List (Str×eg)}{b:eg}{o:HO}(h:Js H cl b=some o):¬ InC cl b/\H b=some o:=by
 by_cases hb:InC cl b
 ·rw[Lb hb] at h;cases h
 ·rw[Gf hb] at h;exact⟨hb,h⟩
theorem iQ {P:gl}{cl:List (Str×eg)}(hk:HOk P w H h)(hc:∀b,InC cl b->∃o u,H b=some (.frz o u)):HOk P w (Js H cl) h:=λb o e=>by
 obtain⟨hb,e⟩:=oK e;refine(hk b o e).stay (λ_ _ _ q=>q) (λc q=>?_) λc xs q=>?_
 ·rw[Gf λz=>?_]
  ·exact q
  ·obtain⟨o,u,e⟩:=hc c z
   rw[q] at e;cases e
 ·rw[Gf λz=>?_]
  ·exact q
  ·obtain⟨o,u,e⟩:=hc c z
   rw[q] at e;cases e
theorem jT {P:gl}{w:iq}{H:Hp}{h:jj}{cl:List (Str×eg)}(hk:HOk P w H h)(hn:∀b,InC cl b->H b=none):HOk P w (Jz H h cl) h:=λb o e=>by
 by_cases hb:InC cl b
 ·unfold Jz at e
  rw[if_pos hb] at e
  cases g:h.get? b with
  |none=>rw[g] at e;cases e
  |some ob=>
   rw[g] at e;cases e;exact⟨g,_,g⟩
 ·rw[C0 hb] at e
  refine(hk b o e).stay (λ_ _ _ q=>q) (λc q=>?_) λc xs q=>?_
  ·rw[C0 λz=>by rw[hn c z] at q;cases q];exact q
  ·rw[C0 λz=>by rw[hn c z] at q;cases q];exact q
def jU (P:gl)(w:iq)(K:d6)(mg:Za2)(base:jj)(k:Nat)(H:Hp)(f:eg)(dom:Int->Prop)(p:Int->Bool):Prop:=
 (∃oc od fd sl u,H f=some (.frz ⟨oc,od,.func fd,sl⟩ u))/\∀(A:i9) (outer:List Env) (s:fv) (H1:Hp) (i:Int) (t:Tok),Co k A->X3 P w K mg base A outer s H1->Ag H H1->dom i ->
  codeAny (model P w) A (.call (.ref f) ⟨[.int i t],[]⟩) (CR CX0 outer P w H1 s (λv H2=>v=.bl (p i)/\Ag H1 H2) E0) s
theorem jU.same {P:gl}{K:d6}{mg:Za2}{k:Nat}{f:eg}{dom:Int->Prop}{p:Int->Bool}(a:jU P w K mg base k H f dom p)(s:Ag H H'):jU P w K mg base k H' f dom p:=
 ⟨let ⟨oc,od,fd,sl,u,e⟩:=a.1;⟨oc,od,fd,sl,u,s _ _ e⟩,λA outer st H1 i t hr e0 sm hd=>a.2 A outer st H1 i t hr e0 (λb o e=>sm _ _ (s _ _ e)) hd⟩
section
variable {X:Cx} {x:Str} {i:Nat} {k:Nat} {a:i8} {ta:TE} {q pos:Pos}
def Ag5 (P:gl)(w:iq)(K:d6)(mg:Za2)(base:jj)(k i:Nat)(ta:TE):TE:=λG H Q=>∃(f:eg) (dom:Int->Prop) (p:Int->Bool),G[i]?=some (some (.ref f))/\jU P w K mg base k H f dom p /\
 ta G H λv H1=>nU G H1 λvs H2=>∃z:Int,v::vs=[.int z]/\Ag H H2/\dom z/\∀H3,Ag H2 H3->Q (.bl (p z)) H3
theorem Ah3 {P:gl}{K:d6}{mg:Za2}{G:St}{Q:VK}(h:∃(f:eg) (dom:Int->Prop) (p:Int->Bool),G[i]?=some (some (.ref f))/\jU P w K mg base k H f dom p /\
 ta G H λv H1=>nU G H1 λvs H2=>∃z:Int,v::vs=[.int z]/\Ag H H2/\dom z/\∀H3,Ag H2 H3->Q (.bl (p z)) H3):Ag5 P w K mg base k i ta G H Q:=h
theorem Aea (hr:Co k X.A)(hN:X.N[i]?=some x)(hv:X.env.scope.names.lookup x=some .local)(ha:PE X a ta)(hdb:autoParam ((x==("__debug__":Str))=false) QF)(hcd:autoParam ((x==("__classdict__":Str))=false) QF)
  (he:autoParam (starEach [a] X.env=[(false,eval a X.env)]) QD) :
  PE X (.Call (.Name x q) [a] [] pos) (Ag5 X.prog X.w X.K X.mg X.base k i ta):=by
 intro pins s G H Q I ⟨f,dom,p,XH,hA,h⟩;have hn:PE X (.Name x q) (Aas i):=wG hN (.inl hv) hdb hcd;refine wpAny_Call_Name_kw (thn (hn pins s G H (λv H1=>v=.ref f/\H1=H) I ⟨_,XH,rfl,rfl⟩) λu s0 ⟨v0,H0,I0,r0,e0,e1⟩=>?_);subst e0 e1;obtain rfl:u=jb f:=r0;have fnAt:∀{s':fv} {H':Hp},Inv X pins G H' s'->Ag H0 H'->PySem.W.FnAt f s'.heap:=λI' sm=>by
  obtain⟨oc,od,fd,sl,u,e⟩:=hA.1;exact⟨oc,od,fd,sl,(I'.hok _ _ (sm _ _ e)).1⟩
 have hp:PA X [a] (jP ta nU):=oX ha Aa he;refine PySem.W.callWith_F (fnAt I0 (λ_ _ e=>e)) (thn (hp pos pins s0 G H0 (λvs H1=>∃z:Int,vs=[.int z]/\Ag H0 H1/\dom z/\∀H3,Ag H1 H3->Q (.bl (p z)) H3) I0 ?_) λus s1 ⟨vs,H1,I1,r1,z,e1,sm,hz,q1⟩=>⟨fnAt I1 sm,?_⟩) he rfl
 ·exact h
 subst e1;obtain⟨u,rfl,t,rfl⟩:=Fh r1;refine yj (ud (hA.2 X.A X.stack s1 H1 z t hr I1.env0 sm hz) λr s' hq=>?_)
 cases r with
 |error e=>exact hq.elim
 |ok fl=>
  cases fl with
  |ret u=>
   obtain⟨v,H',os,bare,un,hok,r,e2,sm2⟩:=hq;subst e2;exact I1.after ⟨_,H',os,bare,un,hok,r,q1 _ sm2⟩
  |next=>exact ki hq
  |brk=>exact ki hq
  |cont=>exact ki hq
end
abbrev tT (qual:Str)(scope:nh)(cl:List (Str×eg))(C f:eg)(cd:fh):Env:=newEnv scope C mainGlobals cl (qual++oy ".<locals>.") (some f) cd none builtinsNs
def Zi (P:gl)(w:iq)(K:d6)(mg:Za2)(base:jj)(N:Za6)(qual:Str)(scope:nh)(cl:List (Str×eg))(f:eg)(cd:fh)(A:i9)(outer:List Env)(s:fv)(H:Hp):Cx where
 prog:=P
 w:=w
 K:=K
 mg:=mg
 base:=base
 A:=A.deeper (tT qual scope cl s.heap.objs.size f cd)
 N:=N
 QP:=s
 QY:=H
 env:=tT qual scope cl s.heap.objs.size f cd
 outer:=outer
 stack:=tT qual scope cl s.heap.objs.size f cd::outer
 ex:=[]
 fn:=λ_=>false
 calm:=true
 pn:=[]
 xe:=λ_ _=>False
section
variable {P:gl} {w:iq} {K:d6} {mg:Za2} {base:jj}
theorem Acf {QW:Za6}{QV:nh}{x:Str}{cl:List (Str×eg)}{f:eg}{cd:fh}{outer:List Env}{G:St}{QR:jj}{tk:Nat}{v0:V}{u0:fh}{k:Nat}
  (L:Bb QW QV scope x N ix)(hr:Co (k+1) A)(e0:X3 P w K mg base A outer s H1)
  (hinj:∀y z c,cl.lookup y=some c->cl.lookup z=some c->y=z)(hhas:∀y,(y,nv)∈scope.names->∃c,cl.lookup y=some c)
  (hcs:∀y c,cl.lookup y=some c->∃o v,H1 c=some (.frz o (.own 0))/\o.data=.cell v)
  (hval:∀y j v,(y,j)∈N.tail.zip ix->G[j]?=some (some v)->∃c o u,cl.lookup y=some c/\H1 c=some (.frz o (.own 0))/\o.data=.cell (some u)/\Bc v u)
  (hr0:Bc v0 u0)(hns:QR.Ns s.heap.objs.size λz=>ox z [(x,u0)].reverse)(hk:∀b o,s.heap.get? b=some o->QR.get? b=some o) :
  Inv (Zi P w K mg base N qual scope cl f cd A outer s (Js H1 cl)) [] (some v0::frV G ix) (Js H1 cl) { s with heap:=QR,toks:=tk }:=by
 have noA:∀b:eg,b∉(Zi P w K mg base N qual scope cl f cd A outer s (Js H1 cl)).ex:=λb z=>absurd (show b∈([]:List eg) from z) (by simp);have kf:∀y,scope.names.lookup y≠some .cell:=λy e=>L.nocell _ (jz e) rfl;refine⟨⟨e0.mod,L.kind,rfl,rfl,d8 _,λy z c h1 h2=>hinj y z c h1 h2,λy hy=>?_,λy c z _=>?_,λ_=>(hr.deeper _).hd,AS e0.frames,.inr ⟨rfl,rfl⟩,λb z=>absurd z (noA b),λb o e=>⟨(e0.bs b o e).1,E6 (e0.bs b o e).2⟩,e0.bsz,λb _ _=>noA b,λb z=>absurd z (noA b),e0.funs,λb hb=>E6 (e0.frf b hb)⟩,
  rfl,e0.bare,Un.kept hk,⟨_,hns,λi y v h1 h2 h3=>?_⟩,λy c e=>?_,E6 (e0.hok.fresh (d8 _)),λy c e=>Lb ⟨y,e⟩,λp hp=>absurd (show p∈([]:Za1) from hp) (by simp),?_,?_⟩
 ·have hy:scope.names.lookup y=some .cell\/scope.names.lookup y=some .free:=hy
  rcases hy with hy|hy
  ·exact absurd hy (kf y)
  ·exact hhas y (jz hy)
 ·cases(show false=true from z)
 ·cases i with
  |zero=>
   have h1:N[0]?=some y:=h1;have h2:some (some v0)=some (some v):=h2;cases h2;have hx:N[0]?=some x:=by have:=L.hd;rwa [AK] at this
   rw[h1] at hx;cases hx;exact⟨u0,hr0,.inl ⟨L.loc,by simp⟩⟩
  |succ j=>
   have h1:N[j+1]?=some y:=h1;have h2:(frV G ix)[j]?=some (some v):=h2;unfold frV at h2;rw[d9] at h2
   cases hj:ix[j]? with
   |none=>rw[hj] at h2;cases h2
   |some m=>
    rw[hj] at h2;have h2:(G[m]?).getD none=some v:=ee h2;have h2':G[m]?=some (some v):=by
     cases e:G[m]? with
     |none=>rw[e] at h2;cases h2
     |some z=>rw[e] at h2;exact congrArg some h2
    have ht:N.tail[j]?=some y:=by rw[tm];exact h1
    have hz:(y,m)∈N.tail.zip ix:=f8 (i:=j) (by rw[nw];exact⟨ht,hj⟩);obtain⟨c,o,u,e1,e2,e3,r⟩:=hval y m v hz h2';exact⟨u,r,.inr ⟨.inr (L.at_ _ hz).2,c,e1,o,hk _ _ (e0.hok _ _ e2).1,e3⟩⟩
 ·obtain⟨o,v,e1,e2⟩:=hcs y c e
  exact⟨v,o,hk _ _ (e0.hok _ _ e1).1,e2⟩
 ·exact(iQ e0.hok λb ⟨y,e⟩=>let ⟨o,v,e1,_⟩:=hcs y b e;⟨o,_,e1⟩).kept hk
 ·show(some v0::frV G ix).length=N.length
  rw[L.len];simp[frV]
theorem Aad {QW:Za6}{QV:nh}{x:Str}{cl:List (Str×eg)}{f c':eg}{G:St}{k:Nat}{body:i8}{ctv:fh}{oc:Obj}{dom:Int->Prop}{p:Int->Bool}
  (L:Bb QW QV scope x N ix)(hco:scope.isCoroutine=false)(hgen:scope.isGenerator=false)
  (hinj:∀y z c,cl.lookup y=some c->cl.lookup z=some c->y=z)(hhas:∀y,(y,nv)∈scope.names->∃c,cl.lookup y=some c)
  (hcs:∀y c,cl.lookup y=some c->∃o v,H c=some (.frz o (.own 0))/\o.data=.cell v)
  (hval:∀y j v,(y,j)∈N.tail.zip ix->G[j]?=some (some v)->∃c o u,cl.lookup y=some c/\H c=some (.frz o (.own 0))/\o.data=.cell (some u)/\Bc v u)
  (hf:H f=some (.frz (y6 "<lambda>" qual params body scope cl pm c' ctv) (.own 0)))(hc':H c'=some (.frz oc (.own 0)))(hoc:fT oc qual)
  (hbind:∀(n:Int) (t:Tok),bindArgs (DE "<lambda>" qual params body scope cl pm (.ref c') ctv) ⟨[.int n t],[]⟩=pure [(x,.int n t)])
  (hbody:∀(A:i9) (outer:List Env) (s:fv) (H1:Hp),Co k (A.deeper (tT qual scope cl s.heap.objs.size f (.ref c')))->PE (Zi P w K mg base N qual scope cl f (.ref c') A outer s H1) body te)
  (hte:∀(i:Int) (H1:Hp),dom i->(∀b u,¬ InC cl b->H b=some u->H1 b=some u)->te (some (.int i)::frV G ix) H1 λv H2=>v=.bl (p i)/\Ag H1 H2):jU P w K mg base (k+1) H f dom p:=by
 refine⟨⟨_,_,_,_,_,hf⟩,λA outer s H1 i t hr e0 sm hd=>?_⟩;have hfo:s.heap.get? f=some (y6 "<lambda>" qual params body scope cl pm c' ctv):=(e0.hok _ _ (sm _ _ hf)).1;have hco':s.heap.get? c'=some oc:=(e0.hok _ _ (sm _ _ hc')).1;have lim:s.heap.NoLimit:=e0.mod.nolimit.keeps λb o e=>(e0.bs b o e).1;refine AE hr.depth hfo rfl hco hgen rfl (let ⟨vs,t,e1,e2⟩:=hoc;⟨c',oc,vs,t,rfl,hco',e1,e2⟩) ?_;rw[hbind];refine fq (sv L.nocell (λy hy=>by cases fz.mp hy;exact L.loc) (λQR hns hsb=>⟨lim.fresh _ hsb,?_⟩) L.kind);have XB:∀b o,s.heap.get? b=some o->QR.get? b=some o:=λb o e=>hsb.extBut b o (gm (fu e)) (en _ e);have inH:∀b,InC cl b->∃o v,H1 b=some (.frz o (.own 0))/\o.data=.cell v:=λb ⟨y,e⟩=>let ⟨o,v,e1,e2⟩:=hcs y b e;⟨o,v,sm _ _ e1,e2⟩;have I':=Acf (qual:=qual) (f:=f) (cd:=.ref c') (tk:=s.toks+[(x,o7 i t)].length) (v0:=.int i) (u0:=.int i t) L hr e0 hinj hhas (λy c e=>let ⟨o,v,e1,e2⟩:=hcs y c e;⟨o,v,sm _ _ e1,e2⟩)
  (λy j v h1 h2=>let ⟨c,o,u,a1,a2,a3,a4⟩:=hval y j v h1 h2;⟨c,o,u,a1,sm _ _ a2,a3,a4⟩) ⟨t,rfl⟩ hns XB
 refine AD (nz (hbody A outer s (Js H1 cl) (hr.deeper _) [] _ _ _ _ I' (hte i _ hd λb u hb e=>by rw[Gf hb];exact sm _ _ e)) (λv s' ⟨v',H2,I2,r,ev,sm2⟩=>?_) λe s' z=>z.elim);have nfr:∀b,InC cl b->b∉frs outer:=λb hb z=>by
  obtain⟨o,v,e1,_⟩:=inH b hb;rw[e0.frf b z] at e1;cases e1
 have cell':∀b o u,InC cl b->H1 b=some (.frz o u)->s'.heap.get? b=some o/\u=.own 0:=λb o u hb e=>by
  obtain⟨o2,v2,e1,_⟩:=inH b hb;rw[e] at e1;cases e1;exact⟨I2.base.keep b o (e0.hok _ _ e).1 (Lb hb) (nfr b hb) (by simp[Zi]),rfl⟩
 have same':∀b u,H1 b=some u->(∀ps,u≠.tbl ps)\/True->Jz H2 s'.heap cl b=some u:=λb u e _=>by
  by_cases hb:InC cl b
  ·obtain⟨o,v,e1,_⟩:=inH b hb
   rw[e] at e1;cases e1;exact Pu hb (cell' b o _ hb e).1
  ·rw[C0 hb]
   exact sm2 _ _ (by rw[Gf hb];exact e)
 refine⟨v',Jz H2 s'.heap cl,I2.os,I2.bare,⟨λb o e n hf hx=>I2.base.keep b o e (E6 n) hf hx,λb o e n hf hx=>I2.base.slot b o e (E6 n) hf hx,λb o e n hx=>?_,λb o e hx=>I2.base.there b o e hx,λb xs e=>same' _ _ e (.inr trivial),λb o u e=>same' _ _ e (.inr trivial),λb ps e=>⟨#[],by rw[tj];exact same' _ _ e (.inr trivial)⟩⟩,jT I2.hok λb ⟨y,e⟩=>I2.freeC y b e,r,ev,λb u e=>same' b u e (.inr trivial)⟩;have hb:¬ InC cl b:=λhb=>by
  obtain⟨o,v,e1,_⟩:=inH b hb;rw[n] at e1;cases e1
 rw[C0 hb];exact I2.base.free b o e (E6 n) hx
end
inductive Tp (P:gl)(w:iq)(K:d6)(mg:Za2)(base:jj)(k:Nat)(vs:List V)(H:Hp)(Q:VK)(E:XK):Prop|mk(lo hi:Int)(f:eg)(p:Int->Bool)(_:vs=[.int lo,.int hi,.ref f])(_:lo<=hi)(_:jU P w K mg base k H f (λi=>lo<=i/\i<hi) p)(_:∀m H',lo<=m->m<=hi->(lo<m->p (m-1)=false)->(m<hi->p m=true)->Ag H H'->Q (.int m) H')
def mT (Pt:eg)(lpos:Pos)(qual:Str)(ix:Za4)(te ta tb:TE):TE:=λG H Q=>ta G H λv H1=>tb G H1 λu H2=>∃(lo hi:Int) (p:Int->Bool),v=.int lo/\u=.int hi/\lo<=hi/\Ps H2 Pt lpos qual /\
 (∀(i:Int) (H3:Hp),lo<=i->i<hi->Pf Pt H2 H3->te (some (.int i)::frV G ix) H3 λv H4=>v=.bl (p i)/\Ag H3 H4) /\
 ∀(m:Int) (H':Hp),lo<=m->m<=hi->(lo<m->p (m-1)=false)->(m<hi->p m=true)->Pf Pt H2 H'->Ps H' Pt lpos qual->Q (.int m) H'
theorem Abp {ta tb:TE}{G:St}{Q:VK}(h:ta G H λv H1=>tb G H1 λu H2=>∃(lo hi:Int) (p:Int->Bool),v=.int lo/\u=.int hi/\lo<=hi/\Ps H2 Pt lpos qual /\
 (∀(i:Int) (H3:Hp),lo<=i->i<hi->Pf Pt H2 H3->te (some (.int i)::frV G ix) H3 λv H4=>v=.bl (p i)/\Ag H3 H4) /\
 ∀(m:Int) (H':Hp),lo<=m->m<=hi->(lo<m->p (m-1)=false)->(m<hi->p m=true)->Pf Pt H2 H'->Ps H' Pt lpos qual->Q (.int m) H'):mT Pt lpos qual ix te ta tb G H Q:=h
section
variable {X:Cx}
theorem vA {g x:Str}{a b body:i8}{ta tb:TE}{q:Pos}{ff c:eg}{kf k:Nat} 
  (F:Ar X.prog X.w X.K X.mg X.base CX0 kf ff fd ps (Tp X.prog X.w X.K X.mg X.base (k+1)))(hr:Co kf X.A)(hg:Gl X g)(hm:X.mg g=some (.ref ff))(hkp:ka X.K (.ref ff)=true)(hb:Fm X.K fd ps [])
  (ha:PE X a ta)(hbb:PE X b tb)(hfn:X.fn=λ_=>true)
  (C:BE X.base c Pt)(hB:X.base.BuiltinsAt X.mg Pt)(hcode:X.env.code=.ref c)(hq:X.env.qual++"<lambda>"=qual)
  (L:Bb X.N X.env.scope scope x N ix)(hco:scope.isCoroutine=false)(hgen:scope.isGenerator=false)(hdef:defaultsOf params X.env=([],[]))
  (hbind:∀(cl:List (Str×eg)) (pm cv ctv:fh) (n:Int) (t:Tok),bindArgs (DE "<lambda>" qual params body scope cl pm cv ctv) ⟨[.int n t],[]⟩=pure [(x,.int n t)])
  (hbody:∀(cl:List (Str×eg)) (f c':eg) (A:i9) (outer:List Env) (s:fv) (H1:Hp),Co k (A.deeper (tT qual scope cl s.heap.objs.size f (.ref c')))->PE (Zi X.prog X.w X.K X.mg X.base N qual scope cl f (.ref c') A outer s H1) body te)
  (hdb:autoParam ((g==("__debug__":Str))=false) QF)(he1:autoParam (starEach [a,b,.Lambda params body scope lpos] X.env=(false,eval a X.env)::starEach [b,.Lambda params body scope lpos] X.env) QD)(he2:autoParam (starEach [b,.Lambda params body scope lpos] X.env=(false,eval b X.env)::starEach [.Lambda params body scope lpos] X.env) QD)
  (he3:autoParam (starEach [.Lambda params body scope lpos] X.env=[(false,eval (.Lambda params body scope lpos) X.env)]) QD)(hpl:autoParam ((backTo pos (starEach [b,.Lambda params body scope lpos] X.env)).any (·.1)=false) QD) :
  PE X (.Call (.Name g q) [a,b,.Lambda params body scope lpos] [] pos) (mT Pt lpos qual ix te ta tb):=by
 k_in;refine wpAny_Call_Name_kw (Ov I hg hm ?_ hdb);refine callWith_K (h₀:=X.base) I.ok.mod.kin hkp ?_ he1 hpl;rw[he1];show wpAny _ _ (spliced ((false,eval a X.env)::backTo pos (starEach [b,.Lambda params body scope lpos] X.env))) _ _ s;refine lq (thE ha I h λu1 s1 v1 H1 I1 r1 q1=>?_);rw[he2];show wpAny _ _ (spliced ((false,eval b X.env)::backTo pos (starEach [.Lambda params body scope lpos] X.env))) _ _ s1;refine lq (thE hbb I1 q1 λu2 s2 v2 H2 I2 r2 ⟨lo,hi,p,e1,e2,hle,hT,hbd,q2⟩=>?_);subst e1 e2;rw[he3];show wpAny _ _ (spliced [(false,eval (.Lambda params body scope lpos) X.env)]) _ _ s2;have hfree:∀y∈scope.names,y.2=.free->∃c,X.env.cells.lookup y.1=some c:=λy hy hf=>I.ok.has y.1 (.inl (L.free y hy hf));have sub:∀y c,(Ea X.env scope.names []).lookup y=some c->X.env.cells.lookup y=some c:=λy c h=>Jq _ _ y c hfree (λ_ _ z=>by simp at z) h;refine lq (kT I2 hT C hB hcode (Ht hfree) hdef hq λf c' oc pm ctv s3 H3 I3 hT3 sm hf0 hf hc' hoc=>?_);refine n5 ?_;generalize hcl:Ea X.env scope.names []=cl at hf sub;have inj:∀y z c,cl.lookup y=some c->cl.lookup z=some c->y=z:=λy z c h1 h2=>I.ok.inj y z c (sub y c h1) (sub z c h2);have n3:∀b,InC cl b->H3 b=none:=λb ⟨y,e⟩=>I3.freeC y b (sub y b e);have cellAt:∀y c,cl.lookup y=some c->∃o v,s3.heap.get? c=some o/\o.data=.cell v:=λy c e=>let ⟨v,o,e1,e2⟩:=I3.cell y c (sub y c e);⟨o,v,e1,e2⟩;have nLoc:∀b,InC cl b->b≠X.env.locals:=λb ⟨y,e⟩=>I3.cne y b (sub y b e);have hab:∀b,InC cl b->X.QP.heap.objs.size<=b:=λb ⟨y,e⟩=>I3.ok.cab y b (by rw[hfn]) (sub y b e);have nfr:∀b,InC cl b->b∉frs X.stack:=λb hb z=>by
  rcases iu.mp (I3.stkSub b z) with e|hz
  ·exact nLoc b hb e
  ·obtain⟨_,o,ho,_⟩:=I3.ok.funs.mem hz
   exact absurd (fu ho) (pq.mpr (hab b hb))
 have e0:X3 X.prog X.w X.K X.mg X.base X.A X.stack s3 (Jz H3 s3.heap cl):=by
  have z:=I3.env0;refine⟨z.frames,z.mod,λb o e=>⟨(z.bs b o e).1,?_⟩,z.bsz,z.funs,λb hb=>?_,jT z.hok n3,z.bare⟩
  ·rw[C0 λhb=>?_]
   ·exact(z.bs b o e).2
   ·exact absurd (fu e) (pq.mpr (ir I3.ok.bsz (hab b hb)))
  ·rw[C0 λh=>nfr b h hb]
   exact z.frf b hb
 have out:∀b u,H3 b=some u->Jz H3 s3.heap cl b=some u:=λb u e=>by
  rw[C0 λhb=>by rw[n3 b hb] at e;cases e];exact e
 have asks:jU X.prog X.w X.K X.mg X.base (k+1) (Jz H3 s3.heap cl) f (λi=>lo<=i/\i<hi) p:=by
  refine Aad (G:=G) (te:=te) L hco hgen inj (λy hy=>?_) (λy c e=>?_) (λy j v hz hj=>?_) (out _ _ hf) (out _ _ hc') hoc (hbind _ _ _ _) (λA outer s H1 hr=>hbody _ _ _ A outer s H1 hr) λi H4 hi k4=>?_
  ·rw[<-hcl];exact jx.mp (Fo _ _ y hy)
  ·obtain⟨o,v,e1,e2⟩:=cellAt y c e
   exact⟨o,v,Pu ⟨y,e⟩ e1,e2⟩
  ·obtain⟨b1,b2⟩:=L.at_ _ hz
   have hm:=jz b2;have hcell:=L.free _ hm rfl;obtain⟨m',hn',hl'⟩:=I3.loc;obtain⟨u,r,lk⟩:=hl' j y v b1 hj (.inr (.inl hcell));rcases lk with lk|⟨_,c2,e,o,z1,z2⟩
   ·rw[show X.env.kindOf y=some .cell from hcell] at lk
    cases lk.1
   ·obtain⟨c3,e'⟩:=jx.mp (Fo (env:=X.env) scope.names [] y hm)
    rw[hcl] at e';have e2:=sub y c3 e';rw[e] at e2;cases e2;exact⟨c2,o,u,e',Pu ⟨y,e'⟩ z1,z2,r⟩
  ·refine hbd i H4 hi.1 hi.2 λb u hb e=>?_
   have e3:=sm b u hb e;exact k4 b u (λhc=>by rw[n3 b hc] at e3;cases e3) (out b u e3)
 refine⟨I3.kIn,?_⟩;show wpAny _ _ (call (.ref ff) [u1,u2,.ref f]) _ _ s3;have rv:Ay [V.int lo,V.int hi,V.ref f] [u1,u2,.ref f]:=.cons r1 (.cons r2 (.cons rfl .nil));have hl:([u1,u2,jb f]++[]).length=ps.length:=by
  have:=F.len [.int lo,.int hi,.ref f] (Jz H3 s3.heap cl) (λ_ _=>True) E0 ⟨lo,hi,f,p,rfl,hle,asks,λ_ _ _ _ _ _ _=>trivial⟩;exact this
 refine yj (ud (F.run X.A X.stack s3 (Jz H3 s3.heap cl) ⟨[u1,u2,.ref f],[]⟩ ([u1,u2,.ref f]++[]) [.int lo,.int hi,.ref f] (λv H'=>∃m,v=.int m/\lo<=m/\m<=hi/\(lo<m->p (m-1)=false)/\(m<hi->p m=true)/\Ag (Jz H3 s3.heap cl) H') E0 hr e0 (hb s3 _ I3.kIn hl) (by simpa using rv)
  ⟨lo,hi,f,p,rfl,hle,asks,λm H' a1 a2 a3 a4 a5=>⟨m,rfl,a1,a2,a3,a4,a5⟩⟩) λr s' hq=>?_)
 cases r with
 |error e=>exact hq.elim
 |ok fl=>
  cases fl with
  |next=>exact ki hq
  |brk=>exact ki hq
  |cont=>exact ki hq
  |ret u=>
   obtain⟨v,H4,os,bare,un,hok,rr,m,ev,a1,a2,a3,a4,sm4⟩:=hq;subst ev;have c4:∀b,InC cl b->∃o,s3.heap.get? b=some o/\H4 b=some (.frz o (.own 0)):=λb ⟨y,e⟩=>by
    obtain⟨o,v,e1,_⟩:=cellAt y b e;exact⟨o,e1,sm4 _ _ (Pu ⟨y,e⟩ e1)⟩
   have sm5:∀b u,H3 b=some u->Js H4 cl b=some u:=λb u e=>by
    rw[Gf λhb=>by rw[n3 b hb] at e;cases e];exact sm4 _ _ (out _ _ e)
   have un2:Un (frs X.stack) [] H3 (Js H4 cl) s3.heap s'.heap:=by
    refine⟨λb o e n hf hx=>?_,λb o e n hf hx=>?_,λb o e n hx=>?_,λb o e hx=>un.there b o e hx,λb xs e=>sm5 _ _ e,λb o u e=>sm5 _ _ e,λb ps e=>⟨#[],by rw[tj];exact sm5 _ _ e⟩⟩
    ·by_cases hb:InC cl b
     ·obtain⟨o2,z1,z2⟩:=c4 b hb
      rw[e] at z1;cases z1;exact(hok _ _ z2).1
     ·exact un.keep b o e (by rw[C0 hb];exact n) hf hx
    ·have hb:¬ InC cl b:=λhb=>nfr b hb hf
     exact un.slot b o e (by rw[C0 hb];exact n) hf hx
    ·by_cases hb:InC cl b
     ·exact Lb hb
     ·exact E6 (un.free b o e (by rw[C0 hb];exact n) hx)
   have hok2:HOk X.prog X.w (Js H4 cl) s'.heap:=iQ hok λb hb=>let ⟨o,_,z⟩:=c4 b hb;⟨o,_,z⟩;refine I3.after ⟨_,Js H4 cl,os,bare,un2,hok2,rr,q2 m _ a1 a2 a3 a4 (λb u hb e=>sm5 _ _ (sm b u hb e)) ?_⟩;obtain⟨pps,t1,t2,t3⟩:=hT3;exact⟨pps,sm5 _ _ t1,t2,t3.imp id λ⟨c2,oc2,z1,z2,z3⟩=>⟨c2,oc2,z1,sm5 _ _ z2,z3⟩⟩
theorem xR {g x:Str}{a b body:i8}{ta tb:TE}{q:Pos}{c:eg}{kf k:Nat} 
  (F:Cal X.prog X.w X.K X.mg X.base g kf ps (Tp X.prog X.w X.K X.mg X.base (k+1)))(hr:Co kf X.A)(ha:PE X a ta)(hbb:PE X b tb)(C:BE X.base c Pt)(hB:X.base.BuiltinsAt X.mg Pt)(hcode:X.env.code=.ref c)(hq:X.env.qual++"<lambda>"=qual)
  (L:Bb X.N X.env.scope scope x N ix)(hbody:∀(cl:List (Str×eg)) (f c':eg) (A:i9) (outer:List Env) (s:fv) (H1:Hp),Co k (A.deeper (tT qual scope cl s.heap.objs.size f (.ref c')))->PE (Zi X.prog X.w X.K X.mg X.base N qual scope cl f (.ref c') A outer s H1) body te)
  (hfn:autoParam (X.fn=λ_=>true) QD)(hg:autoParam (Gl X g) QD)(hco:autoParam (scope.isCoroutine=false) QD)(hgen:autoParam (scope.isGenerator=false) QD)(hdef:autoParam (defaultsOf params X.env=([],[])) QD)
  (hbind:∀(cl:List (Str×eg)) (pm cv ctv:fh) (n:Int) (t:Tok),bindArgs (DE "<lambda>" qual params body scope cl pm cv ctv) ⟨[.int n t],[]⟩=pure [(x,.int n t)]:=by intros;rfl)
  (hdb:autoParam ((g==("__debug__":Str))=false) QF)(he1:autoParam (starEach [a,b,.Lambda params body scope lpos] X.env=(false,eval a X.env)::starEach [b,.Lambda params body scope lpos] X.env) QD)(he2:autoParam (starEach [b,.Lambda params body scope lpos] X.env=(false,eval b X.env)::starEach [.Lambda params body scope lpos] X.env) QD)
  (he3:autoParam (starEach [.Lambda params body scope lpos] X.env=[(false,eval (.Lambda params body scope lpos) X.env)]) QD)(hpl:autoParam ((backTo pos (starEach [b,.Lambda params body scope lpos] X.env)).any (·.1)=false) QD) :
  PE X (.Call (.Name g q) [a,b,.Lambda params body scope lpos] [] pos) (mT Pt lpos qual ix te ta tb):=by
 obtain⟨f,fd,F,bb,hm,hk⟩:=F.ex;exact vA F hr hg hm hk bb ha hbb hfn C hB hcode hq L hco hgen hdef hbind hbody hdb he1 he2 he3 hpl
end
theorem gG:typeLookup (.type "list") "keys"=pure none:=by rw[qt,n6];kernel_rfl
theorem gC:typeLookup (.type "list") "__getattr__"=pure none:=by rw[qt,n6];kernel_rfl
theorem iD (a:eg)(vs:Array fh)(n:Nat)(u:Tok):Meets (qj.«object.__getattribute__» ⟨[.ref a,.str "keys" u],[]⟩) (λA R s=>s.heap.get? a=some (seqObj "list" vs n)/\raisesAttr (.ref a) "keys" A R s):=
 FY λprog w A R s hs=>by
  obtain⟨hp,g,d,tk,os⟩:=s;obtain⟨hx,hs⟩:=hs;have hT:(⟨hp,g,d,tk,os⟩:fv).TypeIs (.ref a) "list":=⟨_,hx,rfl⟩;have f4:=gG
  repeat (any_goals (first|assumption|with_reducible refine FR hx ?_|wp_step))
  exact EF hs.1 hs.2 (by decide +kernel)
section
variable {prog:gl} {w:iq} {A:i9} {E:Za0} {s:fv}
theorem vI {a:eg}{vs:Array fh}{Q:Za7->fv->Prop}(hx:s.heap.get? a=some (seqObj "list" vs n))(hA:A.handled=none)(q:∀h' tk,(∀b o,s.heap.get? b=some o->h'.get? b=some o)->Q none { s with heap:=h',toks:=tk }) :
  wpAny (model prog w) A (getAttr? (.ref a) "keys") Q E s:=by
 obtain⟨hp,g,d,tk,os⟩:=s;have hT:∀tk',(⟨hp,g,d,tk',os⟩:fv).TypeIs (.ref a) "list":=λ_=>⟨_,hx,rfl⟩;have f1:=FF;have f3:=ra.lookup;have f4:=ra.bind (.ref a);have f5:=gC;unfold getAttr? getAttrBy? getAttrBy
 repeat (any_goals (first|assumption|exact hT _|((with_reducible show wpAny _ _ (call (EU "list.__getattribute__") _ _) _ _ _);refine sq ra (hT _) PySem.F.entry_list_ga (PySem.F.args_list_getattribute_2 _ _) (iD a vs n _) ⟨hx,hA,λh' tk' e hx'=>?_⟩)|wp_step))
 obtain⟨t',u',he⟩:=hx'.there;show wpAny _ _ (getattributeRaised _ _ _ _ _ _ _) _ _ _;unfold getattributeRaised
 repeat (any_goals (first|assumption|wp_step))
 exact q _ _ hx'.keeps
end
def lG (h:jj)(T:eg)(x y:fh):Prop:=∃o n,h.get? T=some o/\o.cls=.type "tuple"/\o.data=.seq #[x,y] n
theorem lG.keep {T:eg}{x y:fh}(p:lG h T x y)(k:∀o,h.get? T=some o->h'.get? T=some o):lG h' T x y:=let ⟨o,n,e,r⟩:=p;⟨o,n,k o e,r⟩
section
variable {prog:gl} {w:iq} {A:i9} {E:Za0} {R:wm->fv->Prop}
theorem iY {T:eg}{x y:fh}{Q:Za3->fv->Prop}(hT:lG s.heap T x y)(h:Q [x,y] s):wpAny (model prog w) A (qd (.ref T)) Q E s:=by
 obtain⟨o,n,e,c,d⟩:=hT;have ty:s.TypeIs (.ref T) "tuple":=⟨_,e,c⟩;unfold qd;refine wpAny_bind (qh ty ?_);rw[if_pos (by decide)];exact wpAny_bind (ul e d (fq h))
end
theorem Yp:∀{as:List eg} {us:Za3},Ay (as.map V.ref) us->us=as.map jb
 |[],_,h=>by cases h;rfl
 |a::as,_,h=>by
  cases h with
  |cons h1 h2=>rw[show _=jb a from h1,Yp h2];rfl
theorem rL:∀{ys:List V} (f:Nat->fh),(∀(i:Nat) y,ys[i]?=some y->Bc y (f i))->Ay ys ((fb ys.length).map f)
 |[],_,_=>.nil
 |y::ys,f,h=>by
  rw[gn,my,im,jf];exact .cons (h 0 y rfl) (rL (λi=>f (i+1)) λi z e=>h (i+1) z e)
theorem Yi:bootBuiltins "reversed"=some (.type "reversed"):=by decide +kernel
end L2
end
section
namespace HD
open PySem PySem.W PySem.Calls PyProof.Rows
def Ih (tb:String->Option qj)(p:gl)(w:iq)(m:Nat)(ann:Za7):Nat->rl->Thread->Option rl
 |0,_,_=>none
 |n+1,s,t=>match through t with
  |true=>some s
  |false=>match stepOk m ann t with
   |false=>none
   |true=>match stepT (denote tb) p w s t with
    |some (s',t')=>Ih tb p w m ann n s' t'
    |none=>none
theorem Za {tb:String->Option qj}{p:gl}{w:iq}{m:Nat}{ann:Za7}:∀{n:Nat} {s s':rl} {t:Thread},Ih tb p w m ann n s t=some s'->topRun tb p w m ann n s.abs t=some s'.abs
 |0,_,_,_,h=>by cases h
 |n+1,s,s',t,h=>by
  unfold Ih at h;unfold topRun
  cases he:through t with
  |true=>rw[he] at h;cases h;rfl
  |false=>
   rw[he] at h
   cases hk:stepOk m ann t with
   |false=>rw[hk] at h;cases h
   |true=>
    rw[hk] at h
    cases hs:stepT (denote tb) p w s t with
    |none=>rw[hs] at h;cases h
    |some r=>obtain⟨QZ,t₂⟩:=r;rw[hs] at h;rw[stepT_spec hs];exact Za h
def wJ:List Obj->Nat->BT->BT
 |[],_,t=>t
 |o::l,n,t=>wJ l (n+1) (t.ins n o)
noncomputable def Vj (P:zq):BT:=wJ (nu P).objs.toList 0 .nil
def bootSize:Nat:=11
noncomputable def bootT (w:iq) (os:OsState):rl:=⟨Vj w.params,bootSize,(nu w.params).life,#[],yl,zm,os⟩
def mQ {α:Type}(Yf:fv->α)(h0:jj)(p q:gl)(loose:Za6)(s:fv):=
 (staticsOk (importedModules p.main.body) h0 s.heap&&namesBound p s.heap&&gensDone s&&laidKept h0 s.heap,
  openSeen q loose (importedModules p.main.body) (λ_=>true) true s,Yf s)
def bothT {α:Type}(Yf:fv->α)(s0:rl)(h0:jj)(m:Nat)(p q:gl)(loose:Za6)(M:Nat)(w:iq):=
 (Ih treeTable p w m (some (.ref 6)) M s0 (topStub p)).map λs=>mQ Yf h0 p q loose s.abs
theorem xU (P:zq):absHeap (Vj P) bootSize (nu P).life=nu P:=by kernel_rfl
theorem tP (P:zq):((nu P).isNs mainGlobals&&(#[]:Array IS).size==0,(nu P).objs.size,(nu P).nsMap mainGlobals "__annotations__")=(true,bootSize,some (.ref 6)):=by kernel_rfl
theorem Abq {p q:gl}{loose:Za6}{α:Type}{Yf:fv->α}{Ya:iq->α}{M N:Nat}(e:opening p=plainProg p.main.scope.names)(f:∀s,fenceModules? p s=some s)(hN:DW 600 N=true)(le:DW M N=true)
  (Xx:∀w:iq,(λos=>bothT Yf (bootT w os) (nu w.params) bootSize p q loose M w)=λ_=>some (true,openGood q loose,Ya w)) :
  LeftO p q loose (λ_=>true) Yf Ya N:=λw=>by
 obtain⟨⟨h,gs,d,k,os⟩,e1,e'⟩:=kt.mp (boot_open e hN f w);obtain⟨rfl,rfl,rfl,rfl⟩:h=nu w.params/\gs=BF []/\d=yl/\k=zm:=by simpa using e'
 have b:=congrFun (Xx w) os;unfold bothT at b;obtain⟨s,r,l⟩:=kt.mp b;have r2:=Za r;have r3:=topRun_mono (N-M) _ _ _ _ r2;rw[show M+(N-M)=N by have:=BN le;lia] at r3;have eb:(bootT w os).abs=⟨nu w.params,BF [],yl,zm,os⟩:=by
  show Shared.mk (absHeap (Vj w.params) bootSize (nu w.params).life) (BF []) yl zm os=_;rw[xU]
 rw[eb] at r3;obtain⟨z1,z2,z3⟩:_/\_/\_:=by simpa only[DT] using tP w.params
 obtain⟨l1,l2,l3⟩:_/\_/\_:=by simpa only[mQ,DT] using l
 have t:topFrom treeTable p w N ⟨nu w.params,BF [],yl,zm,os⟩=some s.abs:=by
  unfold topFrom;dsimp only;rw[z1,z2,z3,r3];show(match staticsOk (importedModules p.main.body) (nu w.params) s.abs.heap&&namesBound p s.abs.heap&&gensDone s.abs&&laidKept (nu w.params) s.abs.heap with|true=>_|false=>_)=_;rw[l1]
 unfold openEnds;rw[e1];show(topFrom treeTable p w N _).map _=_;rw[t];exact congrArg some (BJ l2 l3)
def recOf:iz->IT
 |.FunctionDef n a b _ _ _ sc _ _ pos=>⟨n,a,b,sc,pos⟩
 |_=>⟨"",default,[],default,default⟩
end HD
lay_quick HD.bothT
end
section
namespace L2
open PySem PySem.Spec PyProof.Rows
variable {C CB CC CO CP Pt dx i1 i2 it l1 l2:eg} {params:mv} {A:i9} {items:Array fh} {op:vb} {X:Cx} {D:Ie} {env:Env} {tg:i8} {fd:jq} {base h h':jj} {H H' H0 H1 H2:Hp} {J:It} {pins:Za1} {as fp:List eg} {ns ws:List Int} {cs ix:Za4} {N kz nm ps:Za6} {xs:List V} {us vs:Za3} {M:wc} {d n t':Nat} {oT:Obj} {an od:Option eg} {lpos pos pos2:Pos} {scope:nh} {pl:Sem Bool} {s s2:fv} {sp:Sp} {fr:St} {qual z:Str} {te:TE} {wi:TI} {y:V} {cdv ct doc oc pm:fh} {w:iq}
end L2
end
section
namespace TW
open PySem PySem.StrLaws PySem.Builtin.Str
theorem fQ {ds:Za4}(h:Dok ds):∀(k p v:Nat),k<=ds.length->(way ds k)[p+1]?=some (v:Int)->∀j,v<j->j<k->p<dAt ds j
 |0,p,v,_,e,j,_,hj=>by cases hj
 |k+1,p,v,hk,e,j,h1,h2=>by
  have e:((way ds k).take (dAt ds k+1)++[(k:Int)])[p+1]?=some (v:Int):=e;have hl:=Cc h k (by lia);have hd:=h k (by lia);have hl2:((way ds k).take (dAt ds k+1)).length=dAt ds k+1:=by rw[fi];lia
  by_cases hp:p+1<dAt ds k+1
  ·rw[f7 (by lia),gj hp] at e
   by_cases hjk:j=k
   ·subst hjk;lia
   ·exact fQ h k p v (by lia) e j h1 (by lia)
  ·rw[ft (by lia),hl2] at e
   have e0:p+1-(dAt ds k+1)=0:=by
    have:=(fc.mp e).1;simp only[gn,jt] at this;lia
   rw[e0] at e;have e:=ee e;lia
theorem wA {ds:Za4}(h:Dok ds){k:Nat}(hk:k<ds.length):eld ds k<k:=by
 by_cases e:eld ds k=-1
 ·lia
 ·obtain⟨v,e1,e2,_⟩:=L1 h hk e
  lia
theorem pD {ds:Za4}(h:Dok ds){k:Nat}:∀i,k<i->i<=ds.length->(∀j,k<j->j<i->dAt ds k<dAt ds j)->(way ds i)[dAt ds k+1]?=some (k:Int)
 |0,hk,_,_=>by cases hk
 |i+1,hk,hi,hg=>by
  show((way ds i).take (dAt ds i+1)++[(i:Int)])[dAt ds k+1]?=some (k:Int);have hl:=Cc h i (by lia);have hd:=h i (by lia);have hl2:((way ds i).take (dAt ds i+1)).length=dAt ds i+1:=by rw[fi];lia
  by_cases e:i=k
  ·subst e
   rw[ft (by lia),hl2,j0];rfl
  ·have:=hg i (by lia) (by lia)
   rw[f7 (by lia),gj (by lia)];exact pD h i (by lia) (by lia) λj h1 h2=>hg j h1 (by lia)
end TW
end
section
namespace L2
open PySem PySem.Spec PyProof.Rows
variable {C CB CC CO CP Pt dx i1 i2 it l1 l2:eg} {params:mv} {A:i9} {items:Array fh} {op:vb} {X:Cx} {D:Ie} {env:Env} {tg:i8} {fd:jq} {base h h':jj} {H H' H0 H1 H2:Hp} {J:It} {pins:Za1} {as fp:List eg} {ns ws:List Int} {cs ix:Za4} {N kz nm ps:Za6} {xs:List V} {us vs:Za3} {M:wc} {d n t':Nat} {oT:Obj} {an od:Option eg} {lpos pos pos2:Pos} {scope:nh} {pl:Sem Bool} {s s2:fv} {sp:Sp} {fr:St} {qual z:Str} {te:TE} {wi:TI} {y:V} {cdv ct doc oc pm:fh} {w:iq}
theorem Aam {K:d6}{tc:TT}{Q:VK}(n:Nat)(f1 f2:Nat->V)(Pv:eg->Nat->List V->Hp->Prop)(h0:∀D H,H1 D=none->Ag H1 H->Pv D 0 [] H)
  (stab:∀D i ys H xs o,H D=some (.lst xs)->Pv D i ys H->Pv D i ys (upd H D o))(hz:∀D i ys H,i<n->Pv D i ys H->ys.length<sizeLine)(psame:∀D i ys H H',Ag H H'->Pv D i ys H->Pv D i ys H')
  (hgo:∀i H,i<n->Ag H1 H->J.go i H)(hy:∀i H v H',i<n->Ag H1 H->J.yld i H v H'->∃a,v=.ref a/\SqT K H' a [f1 i,f2 i]/\Ag H H')(hst:∀H,Ag H1 H->J.stop n H)
  (turn:∀D i ys H (A:VK) (R:Hp->Prop),i<n->Ag H1 H->H1 D=none->H D=some (.lst ys)->Pv D i ys H->(∀y H',Ag H H'->Pv D (i+1) (ys++[y]) H'->A y H') ->
   tc (some (f1 i)::some (f2 i)::fr) H λb H3=>if b=true then te (some (f1 i)::some (f2 i)::fr) H3 A else R H3)
  (fin:∀D ys H,H1 D=none->Ag H1 H->Pv D n ys H->H D=some (.lst ys)->Q (.ref D) H):Ng K J H1 fr tc te Q:=by
 intro D hD;refine⟨λi m H=>i<=n/\m=n-i/\Ag H1 H/\∃ys,H D=some (.lst ys)/\Pv D i ys H,⟨n,gp _,rfl,An hD,[],Af,h0 D _ hD (An hD)⟩,?_⟩;rintro i m H ⟨hi,rfl,sm,ys,hl,hp⟩
 by_cases h:i=n
 ·subst h
  exact .inl ⟨hst H sm,fin D ys H hD sm hp hl⟩
 ·have hlt:i<n:=ko hi h
  refine .inr ⟨hgo i H hlt sm,λv H' hyl=>?_⟩;obtain⟨a,rfl,ht,s2⟩:=hy i H v H' hlt sm hyl;refine⟨a,_,_,rfl,ht,turn D i ys H' _ _ hlt (sm.trans s2) hD (s2 _ _ hl) (psame _ _ _ _ _ s2 hp) (λy H4 s4 hp4=>?_)⟩;refine⟨ys,s4 _ _ (s2 _ _ hl),hz D i ys _ hlt hp,n-(i+1),by lia,by lia,rfl,λb u e=>?_,ys++[y],Af,stab _ _ _ _ _ _ (s4 _ _ (s2 _ _ hl)) hp4⟩;rw[Al (Aj e hD)];exact s4 _ _ (s2 _ _ (sm _ _ e))
theorem eK {K:d6}{a b:eg}{ys:List V}{tc:TT}{Q:VK}(ha:SqL K H1 a xs)(hb:SqL K H1 b ys)(Pv:eg->Nat->List V->Hp->Prop)(h0:∀D H,H1 D=none->Ag H1 H->Pv D 0 [] H)
  (stab:∀D i zs H us o,H D=some (.lst us)->Pv D i zs H->Pv D i zs (upd H D o))(hz:∀D i zs H,i<min xs.length ys.length->Pv D i zs H->zs.length<sizeLine)(psame:∀D i zs H H',Ag H H'->Pv D i zs H->Pv D i zs H')
  (turn:∀D (i:Nat) zs x y H (A:VK) (R:Hp->Prop),xs[i]?=some x->ys[i]?=some y->Ag H1 H->H1 D=none->H D=some (.lst zs)->Pv D i zs H->(∀y H',Ag H H'->Pv D (i+1) (zs++[y]) H'->A y H') ->
   tc (some x::some y::fr) H λb H3=>if b=true then te (some x::some y::fr) H3 A else R H3)
  (fin:∀D zs H,H1 D=none->Ag H1 H->Pv D (min xs.length ys.length) zs H->H D=some (.lst zs)->Q (.ref D) H):Ng K (Itz K a b) H1 fr tc te Q:=by
 refine Aam (min xs.length ys.length) (λi=>xs.getD i .non) (λi=>ys.getD i .non) Pv h0 stab hz psame (λi H hi sm=>⟨xs,ys,xs[i]'(by lia),ys[i]'(by lia),sm.seq ha,sm.seq hb,by simp,by simp⟩) (λi H v H' hi sm h=>?_)
  (λH sm=>⟨xs,ys,sm.seq ha,sm.seq hb,rfl⟩) (λD i zs H A R hi sm=>turn D i zs _ _ H A R (by simp[show i<xs.length by lia]) (by simp[show i<ys.length by lia]) sm) fin
 obtain⟨t,x,y,hn,rfl,h1,h2,rfl⟩:=h;have e1:=h1 xs (sm.seq ha);have e2:=h2 ys (sm.seq hb);refine⟨t,rfl,?_,An hn⟩;simp only[ju,e1,e2,rg];exact SqT.of Af
section
variable {X:Cx}
def vY (ta:TA):TE:=λG H Q=>ta G H λvs H1=>∃j k:Nat,vs=[.int 0,.int j,.int k]/\j<=100000/\0<k/\k<=100000/\∀p,H1 p=none->Q (.ref p) (upd H1 p (.lst ((fb ((j+k-1)/k)).map λt:Nat=>V.int (t*k:Nat))))
theorem mP {a b c:i8}{ta:TA}{p q:Pos}(hcal:X.calm=true)(hg:Gl X "list")(hm:X.mg "list"=none)(hg2:Gl X "range")(hm2:X.mg "range"=none)(ha:PA X [a,b,c] ta)
  (hs:autoParam (starEach [a,b,c] X.env=[(false,eval a X.env),(false,eval b X.env),(false,eval c X.env)]) QD)(hs2:autoParam (starEach [b,c] X.env=[(false,eval b X.env),(false,eval c X.env)]) QD)
  (hs3:autoParam (starEach [wv (.Name "range" q) [a,b,c] [] pos2] X.env=[(false,eval (.Call (.Name "range" q) [a,b,c] [] pos2) X.env)]) QD) :
  PE X (.Call (.Name "list" p) [.Call (.Name "range" q) [a,b,c] [] pos2] [] pos) (vY ta):=by
 k_in;refine wpAny_Call_Name_kw (Do I hg hm R7 (ik ?_ hs3 rfl) (by decide) (by decide));rw[hs3];refine lq ?_;show wpAny _ _ (eval (wv (.Name "range" q) [a,b,c] [] pos2) X.env) _ _ _;refine wpAny_Call_Name_kw (Do I hg2 hm2 boot_range (ik (thA ha I h λus s1 vs H1 I1 r1 q1=>?_) (by rw[hs,hs2]) (by rw[hs2];rfl)) (by decide) (by decide));obtain⟨j,k,e,hj,hk,hk2,q⟩:=q1;subst e
 cases r1 with
 |cons r rr=>
  cases rr with
  |cons r' rr=>
   cases rr with
   |cons r'' rr=>
    cases rr;obtain⟨t,rfl⟩:=r;obtain⟨t',rfl⟩:=r';obtain⟨t'',rfl⟩:=r'';refine JX (by lia) (n5 ?_) (.inl (ut (by lia)));have e2:lf (0:Int) (j:Int) (k:Int)=(((j+k-1)/k:Nat):Int):=by
     unfold lf;rw[if_pos (by lia)]
     by_cases hj0:j=0
     ·subst hj0
      rw[if_neg (by lia),yp (by lia)];rfl
     ·rw[if_pos (by lia),show((j:Int)-0-1)=((j-1:Nat):Int) by lia,<-ux,show j+k-1=j-1+k by lia,DY _ hk]
      rfl
    have hn:(j+k-1)/k<=j:=by
     by_cases hj0:j=0
     ·subst hj0
      rw[yp (by lia)];exact d8 _
     ·rw[show j+k-1=j-1+k by lia,DY _ hk]
      have:=Nat.div_le_self (j-1) k;lia
    generalize (j+k-1)/k=m at *;have hsm:q8 (0:Int) (j:Int) (k:Int)=true:=by
     unfold q8;rw[e2,if_pos (by lia)];simp only[w8,nc,EN,decide_eq_true_eq,beq_iff_eq];refine⟨⟨⟨⟨?_,?_⟩,?_⟩,?_⟩,.inr ?_⟩<;>lia
    refine call_list_range (I1.ok.hd hcal) (AG ..) hsm e2 (by lia) λh' tk acc c kp ho it=>?_;have hv:Ay ((fb (m)).map λt:Nat=>V.int (t*k:Nat)) acc.toList:=Nz (by rw[d7,fe,gh,it.1]) λi x u e1 e3=>by
     have hi:i<m:=by have:=(fc.mp e1).1;simpa using this
     rw[d9,gd hi] at e1;cases e1;have e4:acc[i]?=some u:=by rw[<-gr];exact e3
     obtain⟨t,e5⟩:=it.2 i u e4;exact⟨t,by rw[e5,show(0:Int)+(i:Int)*(k:Int)=((i*k:Nat):Int) by rw[Int.zero_add,EY]]⟩
    have up:∀b o,s1.heap.get? b=some o->h'.get? b=some o:=λb o e=>kp _ _ (en _ e);have hle:s1.heap.objs.size<=(s1.heap.push { cls:=.type "range",data:=.fields #[.int 0 t,.int j t',.int k t''] }).objs.size:=by rw[pi];lia
    refine⟨.ref _,_,I1.laid (t':=tk) (o:=.lst _) up hle ⟨?_,acc.toList,c,hv,ho⟩,rfl,q _ (I1.hok.fresh hle)⟩;rw[d7,fe];exact f9 (qo (show m<=100000 by lia) (by decide))
theorem Aci {G:St}{Q:VK}{ta:TA}(h:ta G H λvs H1=>∃j k:Nat,vs=[.int 0,.int j,.int k]/\j<=100000/\0<k/\k<=100000/\∀p,H1 p=none->Q (.ref p) (upd H1 p (.lst ((fb ((j+k-1)/k)).map λt:Nat=>V.int (t*k:Nat))))):vY ta G H Q:=h
end
section
variable {X:Cx}
theorem Uh (K:d6)(hc:X.calm=true)(h:autoParam (X.K=K) QD):Ev X (.builtin "min") (Acr K):=by
 subst h;exact P3 hc
theorem mK (K:d6)(hc:X.calm=true)(h:autoParam (X.K=K) QD):Ev X (.builtin "max") (Ado K):=by
 subst h;exact tH hc
theorem Afa (K:d6){T name id:String}{r:V->List V->Hp->VK->Prop}{o e:i8}{es:List i8}{to:TE}{t:TA}{apos cpos:Pos}(pa:FK T)(slot:Slot T name id)(hty:typeOf (.builtin id)=pure (.type "method_descriptor"))(hm:MtR X id r)(ho:PE X o to)(ha:PA X (e::es) t)(h:autoParam (X.K=K) QD)
  (hbase:autoParam (attributeBase o name X.env (eval o X.env)=eval o X.env) QD)
  (hfew:autoParam (((backTo cpos (starEach (e::es) X.env)).all (λx=>!x.1)&&(backToKw cpos (keywordEach [] X.env)).all (λx=>x.1.isSome)
   && decide ((e::es).length+([]:List GA).length+(if([]:List GA).isEmpty then 0 else 1)<30))=true) QD)
  (hline:autoParam ((apos.endLine==cpos.line)=true) QD)(hs:autoParam (starEach (e::es) X.env=(false,eval e X.env)::starEach es X.env) QD)(hplain:autoParam ((backTo cpos (starEach es X.env)).any (·.1)=false) QD) :
  PE X (.Call (.Attribute o name apos) (e::es) [] cpos) (tBM K T r to t):=by
 subst h;exact Cj pa slot hty hm ho ha hbase hfew hline hs hplain
end
theorem T3 {K:d6}{a:eg}{tc:TT}{Q:VK}(hl:SqL K H1 a xs)(Pv:Nat->List V->Hp->Prop)(h0:∀H,Ag H1 H->Pv 0 [] H)
  (stab:∀i ys H D zs o,H D=some (.lst zs)->Pv i ys H->Pv i ys (upd H D o))(hz:∀i ys H,i<xs.length->Pv i ys H->ys.length<sizeLine)
  (turn:∀(i:Nat) ys x H (A:VK) (R:Hp->Prop),xs[i]?=some x->Ag H1 H->Pv i ys H->(∀y H',Ag H H'->Pv (i+1) (ys++[y]) H'->A y H')->tc (some x::fr) H λb H3=>if b=true then te (some x::fr) H3 A else R H3)
  (fin:∀D ys H,H1 D=none->Ag H1 H->Pv xs.length ys H->H D=some (.lst ys)->Q (.ref D) H):Tf (Itl K a) H1 fr tc te Q:=by
 refine xN xs.length (λi=>xs.getD i .non) Pv h0 stab hz (λi H hi sm=>⟨xs,xs[i],sm.seq hl,by simp[hi]⟩) (λi H x H' hi sm h=>⟨?_,h.1⟩) (λH sm=>⟨xs,sm.seq hl,d8 _⟩) (λi ys H A R hi sm=>turn i ys _ H A R (by simp[hi]) sm) fin;have:=h.2 xs (sm.seq hl);simp[ju,this]
open PySem.W
structure Abi (P:gl) (w:iq) (K:d6) (mg:Za2) (base:jj) (x m:Str) (k:Nat) (ps:Za6) (sp:Sp):Prop where
 ex:∃(W f:eg) (fd:jq),Ar P w K mg base CX0 k f fd ps sp/\Fm K fd ps []/\mg x=some (.ref W)/\specialIn K (.ref W) "__getattribute__"=some (some (.builtin "type.__getattribute__")) /\
  readsIn K W (.type "type")=true/\findCls K (.ref W) (.type "type") m=some (.val (.ref f))/\keepIn K (.ref f)=true
section
variable {X:Cx} {x m:Str} {k:Nat} {ps:Za6} {sp:Sp} {np apos pos:Pos} {e:i8} {es:List i8} {t:TA} {pl:Sem Bool}
theorem Adf (M:Abi X.prog X.w X.K X.mg X.base x m k ps sp)(hr:Co k X.A)(hg:Gl X x)(ha:PA X (e::es) t)(hdb:autoParam ((x==("__debug__":Str))=false) QF)
  (hst:autoParam (starEach (e::es) X.env=(false,eval e X.env)::starEach es X.env) QD)(hpl:autoParam ((backTo pos (starEach es X.env)).any (·.1)=false) QD)
  (ht:autoParam (eval (.Call (.Attribute (.Name x np) m apos) (e::es) [] pos) X.env=(do
   let ov <-eval (.Name x np) X.env
   standAt apos.atName
   let (f,first) <-holding [ov] (getMethod ov m pl)
   callWith pos f first (backTo pos (starEach (e::es) X.env)) (backToKw pos (keywordEach [] X.env)))) QD) :
  PE X (.Call (.Attribute (.Name x np) m apos) (e::es) [] pos) (qV sp [] E0 t):=by
 obtain⟨W,f,fd,F,hb,hm,ga,rd,ini,kp⟩:=M.ex;k_in;refine methodCall_KW (Ov I hg hm ?_ hdb) ht;refine method_cls I.kIn ga (cls_value I.kIn rd ini rfl ?_);refine callWith_K (h₀:=X.base) I.ok.mod.kin kp (thn (ha pos pins _ G H _ (I.tok (s.toks+1)) h) λus s1 ⟨vs,H1,I1,r,q⟩=>⟨I1.kIn,?_⟩) hst hpl;exact eG F hr hb .nil kW I1 r q
end
theorem kN {K:d6}{tc:TT}{Q:VK}(n:Nat)(f1 f2:Nat->V)(Pv:eg->Nat->List V->Hp->Prop)(h0:∀D H,H1 D=none->Ag H1 H->Pv D 0 [] H)
  (stab:∀D i ys H xs o,H D=some (.lst xs)->Pv D i ys H->Pv D i ys (upd H D o))(hz:∀D i ys H,i<n->Pv D i ys H->ys.length<sizeLine)(psame:∀D i ys H H',Ag H H'->Pv D i ys H->Pv D i ys H')
  (hgo:∀i H,i<n->Ag H1 H->J.go i H)(hy:∀i H v H',i<n->Ag H1 H->J.yld i H v H'->∃a,v=.ref a/\SqT K H' a [f1 i,f2 i]/\Ag H H')(hst:∀H,Ag H1 H->J.stop n H)
  (turn:∀D i ys H (A:VK) (R:Hp->Prop),i<n->Ag H1 H->H1 D=none->H D=some (.lst ys)->Pv D i ys H->(∀H',Ag H H'->Pv D (i+1) ys H'->R H')->(∀y H',Ag H H'->Pv D (i+1) (ys++[y]) H'->A y H') ->
   tc (some (f1 i)::some (f2 i)::fr) H λb H3=>if b=true then te (some (f1 i)::some (f2 i)::fr) H3 A else R H3)
  (fin:∀D ys H,H1 D=none->Ag H1 H->Pv D n ys H->H D=some (.lst ys)->Q (.ref D) H):Ng K J H1 fr tc te Q:=by
 intro D hD;refine⟨λi m H=>i<=n/\m=n-i/\Ag H1 H/\∃ys,H D=some (.lst ys)/\Pv D i ys H,⟨n,gp _,rfl,An hD,[],Af,h0 D _ hD (An hD)⟩,?_⟩;rintro i m H ⟨hi,rfl,sm,ys,hl,hp⟩
 by_cases h:i=n
 ·subst h
  exact .inl ⟨hst H sm,fin D ys H hD sm hp hl⟩
 ·have hlt:i<n:=ko hi h
  refine .inr ⟨hgo i H hlt sm,λv H' hyl=>?_⟩;obtain⟨a,rfl,ht,s2⟩:=hy i H v H' hlt sm hyl;refine⟨a,_,_,rfl,ht,turn D i ys H' _ _ hlt (sm.trans s2) hD (s2 _ _ hl) (psame _ _ _ _ _ s2 hp) (λH3 s3 hp3=>?_) (λy H4 s4 hp4=>?_)⟩
  ·exact⟨n-(i+1),by lia,by lia,rfl,(sm.trans s2).trans s3,ys,s3 _ _ (s2 _ _ hl),hp3⟩
  refine⟨ys,s4 _ _ (s2 _ _ hl),hz D i ys _ hlt hp,n-(i+1),by lia,by lia,rfl,λb u e=>?_,ys++[y],Af,stab _ _ _ _ _ _ (s4 _ _ (s2 _ _ hl)) hp4⟩;rw[Al (Aj e hD)];exact s4 _ _ (s2 _ _ (sm _ _ e))
theorem xP {K:d6}{a:eg}{tc:TT}{Q:VK}(ha:SqL K H1 a xs)(Pv:eg->Nat->List V->Hp->Prop)(h0:∀D H,H1 D=none->Ag H1 H->Pv D 0 [] H)
  (stab:∀D i zs H us o,H D=some (.lst us)->Pv D i zs H->Pv D i zs (upd H D o))(hz:∀D i zs H,i<xs.length->Pv D i zs H->zs.length<sizeLine)(psame:∀D i zs H H',Ag H H'->Pv D i zs H->Pv D i zs H')
  (turn:∀D (i:Nat) zs x H (A:VK) (R:Hp->Prop),xs[i]?=some x->Ag H1 H->H1 D=none->H D=some (.lst zs)->Pv D i zs H->(∀H',Ag H H'->Pv D (i+1) zs H'->R H')->(∀y H',Ag H H'->Pv D (i+1) (zs++[y]) H'->A y H') ->
   tc (some (.int i)::some x::fr) H λb H3=>if b=true then te (some (.int i)::some x::fr) H3 A else R H3)
  (fin:∀D zs H,H1 D=none->Ag H1 H->Pv D xs.length zs H->H D=some (.lst zs)->Q (.ref D) H):Ng K (Ite K a) H1 fr tc te Q:=by
 refine kN xs.length (λi=>.int i) (λi=>xs.getD i .non) Pv h0 stab hz psame (λi H hi sm=>⟨xs,xs[i]'(by lia),sm.seq ha,by simp⟩) (λi H v H' hi sm h=>?_)
  (λH sm=>⟨xs,sm.seq ha,rfl⟩) (λD i zs H A R hi sm=>turn D i zs _ H A R (by simp[hi]) sm) fin
 obtain⟨t,x,hn,rfl,h1,rfl⟩:=h;have e1:=h1 xs (sm.seq ha);refine⟨t,rfl,?_,An hn⟩;simp only[ju,e1,rg];exact SqT.of Af
end L2
end
section
namespace HD
open PySem PySem.W PySem.Calls PyProof.Rows
def oneA (s0:rl)(h0:jj)(m:Nat)(p:gl)(M:Nat)(w:iq):=
 (Ih treeTable p w m (some (.ref 6)) M s0 (topStub p)).map λs=>staticsOk (importedModules p.main.body) h0 s.abs.heap&&namesBound p s.abs.heap&&gensDone s.abs&&laidKept h0 s.abs.heap
def oneB (s0:rl)(m:Nat)(p q:gl)(loose:Za6)(M:Nat)(w:iq):=
 (Ih treeTable p w m (some (.ref 6)) M s0 (topStub p)).map λs=>openSeen q loose (importedModules p.main.body) (λ_=>true) true s.abs
def wO {α:Type}(Yf:fv->α)(s0:rl)(m:Nat)(p:gl)(M:Nat)(w:iq):=
 (Ih treeTable p w m (some (.ref 6)) M s0 (topStub p)).map λs=>Yf s.abs
theorem Ahb {α:Type}{Yf:fv->α}{s0:rl}{h0:jj}{m:Nat}{p q:gl}{loose:Za6}{M:Nat}{w:iq}{a:α}
  (hA:oneA s0 h0 m p M w=some true)(hB:oneB s0 m p q loose M w=some (openGood q loose))(hC:wO Yf s0 m p M w=some a) :
  bothT Yf s0 h0 m p q loose M w=some (true,openGood q loose,a):=by
 unfold oneA at hA;unfold oneB at hB;unfold wO at hC;unfold bothT mQ;obtain⟨s,r,l⟩:=kt.mp hA;rw[r] at hB hC ⊢;have hB:=ee hB;have hC:=ee hC;exact congrArg some (BJ l (BJ hB hC))
theorem left_of3 {p q:gl}{loose:Za6}{α:Type}{Yf:fv->α}{Ya:iq->α}{M N:Nat}(e:opening p=plainProg p.main.scope.names)(f:∀s,fenceModules? p s=some s)(hN:DW 600 N=true)(le:DW M N=true)
  (hA:∀w:iq,(λos=>oneA (bootT w os) (nu w.params) bootSize p M w)=λ_=>some true)(hB:∀w:iq,(λos=>oneB (bootT w os) bootSize p q loose M w)=λ_=>some (openGood q loose))
  (hC:∀w:iq,(λos=>wO Yf (bootT w os) bootSize p M w)=λ_=>some (Ya w)):LeftO p q loose (λ_=>true) Yf Ya N:=
 Abq e f hN le λw=>funext λos=>Ahb (congrFun (hA w) os) (congrFun (hB w) os) (congrFun (hC w) os)
def gW (s:rl)(a:Nat):Option Obj:=match Nat.blt a s.n with
 |true=>(match s.tree.get a with
  |some o=>alive o
  |none=>none)
 |false=>none
theorem zF {s:rl}{a:Nat}{o:Obj}(h:gW s a=some o):s.abs.heap.get? a=some o:=by
 unfold gW at h
 cases hb:Nat.blt a s.n with
 |false=>rw[hb] at h;cases h
 |true=>
  rw[hb] at h
  cases hg:s.tree.get a with
  |none=>rw[hg] at h;cases h
  |some u=>
   rw[hg] at h;have hlt:a<s.n:=by
    have:=BN hb;lia
   exact(abs_get hlt hg).trans h
theorem Vq {s:rl}:∀{as:Za4} {L:List (Option Obj)},(∀x∈L,x.isSome=true)->as.map (gW s)=L->as.map s.abs.heap.get?=L
 |[],L,_,e=>e
 |a::as,[],_,e=>by cases e
 |a::as,x::L,h,e=>by
  obtain⟨e1,e2⟩:=qz e;obtain⟨o,ho⟩:=jx.mp (h x gu);subst ho;show s.abs.heap.get? a::as.map s.abs.heap.get?=_;rw[zF e1,Vq (λy hy=>h y (gv _ hy)) e2]
def oneP (as ts:List eg)(s0:rl)(m:Nat)(p:gl)(M:Nat)(w:iq):=
 (Ih treeTable p w m (some (.ref 6)) M s0 (topStub p)).map λs=>(as.map (gW s),ts.map (gW s))
theorem hC_km {K:zq->FN}{as:List eg}{e:∀P,as=(K P).map (·.1)}{ts:List eg}{p:gl}{M:Nat}
  (h:∀w:iq,(λos=>oneP as ts (bootT w os) bootSize p M w)=λ_=>some ((K w.params).map λq=>some q.2,ts.map λ_=>some (tabObj #[]))) :
  ∀w:iq,(λos=>wO (kmHook K as e ts).obs (bootT w os) bootSize p M w)=λ_=>some ((kmHook K as e ts).val w):=λw=>funext λos=>by
 have h:=congrFun (h w) os;unfold oneP at h;unfold wO;obtain⟨s,r,l⟩:=kt.mp h;obtain⟨l1,l2⟩:=Prod.mk.inj l;rw[r];show some (as.map s.abs.heap.get?,ts.map s.abs.heap.get?)=some ((K w.params).map λq=>some q.2,ts.map λ_=>some (tabObj #[]));rw[Vq (λx hx=>by obtain⟨q,_,rfl⟩:=lp.mp hx;rfl) l1,Vq (λx hx=>by obtain⟨q,_,rfl⟩:=lp.mp hx;rfl) l2]
end HD
lay_quick HD.oneP
theorem HD.oneP_eq:@HD.oneP=@PySem.W.Fast.tw13831889492591282369:=PySem.W.Fast.te13831889492591282369
lay_quick HD.oneA
lay_quick HD.oneB
theorem HD.oneA_eq:@HD.oneA=@PySem.W.Fast.tw6247638121477898359:=PySem.W.Fast.te6247638121477898359
theorem HD.oneB_eq:@HD.oneB=@PySem.W.Fast.tw4394042064226896843:=PySem.W.Fast.te4394042064226896843
end
section
namespace L2
open PySem PySem.Spec PyProof.Rows
variable {C CB CC CO CP Pt dx i1 i2 it l1 l2:eg} {params:mv} {A:i9} {items:Array fh} {op:vb} {X:Cx} {D:Ie} {env:Env} {tg:i8} {fd:jq} {base h h':jj} {H H' H0 H1 H2:Hp} {J:It} {pins:Za1} {as fp:List eg} {ns ws:List Int} {cs ix:Za4} {N kz nm ps:Za6} {xs:List V} {us vs:Za3} {M:wc} {d n t':Nat} {oT:Obj} {an od:Option eg} {lpos pos pos2:Pos} {scope:nh} {pl:Sem Bool} {s s2:fv} {sp:Sp} {fr:St} {qual z:Str} {te:TE} {wi:TI} {y:V} {cdv ct doc oc pm:fh} {w:iq}
theorem oH:typeLookup (.type "zip") "__len__"=pure none:=by rw[qt,n6];kernel_rfl
theorem kG:typeLookup (.type "zip") "__length_hint__"=pure none:=by rw[qt,n6];kernel_rfl
def Ra (h:jj)(lo:Nat)(xs ys acc:Array fh):Prop:=(∀(j:Nat) v,acc[j]?=some v->∃T x y,v=jb T/\lo<=T/\xs[j]?=some x/\ys[j]?=some y/\o6 h T x y)/\∀(j k:Nat) v,acc[j]?=some v->acc[k]?=some v->j=k
theorem Ra.keep {lo:Nat}{xs ys acc:Array fh}(p:Ra h lo xs ys acc)(k:∀b o,lo<=b->h.get? b=some o->h'.get? b=some o):Ra h' lo xs ys acc:=⟨λj v e=>by
 obtain⟨T,x,y,e1,e2,e3,e4,e5⟩:=p.1 j v e;exact⟨T,x,y,e1,e2,e3,e4,k _ _ e2 e5⟩,p.2⟩
theorem Ra.push {lo T:Nat}{x y:fh}{xs ys acc:Array fh}(p:Ra h lo xs ys acc)(hn:∀j:Nat,acc[j]?≠some (.ref T))(hT:lo<=T)(hx:xs[acc.size]?=some x)(hy:ys[acc.size]?=some y)(hp:o6 h T x y):Ra h lo xs ys (acc.push (.ref T)):=by
 refine⟨λj v e=>?_,λj k v e1 e2=>?_⟩
 ·rw[BX] at e
  by_cases hj:j=acc.size
  ·rw[if_pos hj] at e
   cases e;rw[hj];exact⟨T,x,y,rfl,hT,hx,hy,hp⟩
  ·rw[if_neg hj] at e
   exact p.1 j v e
 ·rw[BX] at e1 e2
  by_cases hj:j=acc.size
  ·by_cases hk:k=acc.size
   ·rw[hj,hk]
   ·rw[if_pos hj] at e1
    rw[if_neg hk] at e2;cases e1;exact absurd e2 (hn k)
  ·by_cases hk:k=acc.size
   ·rw[if_neg hj] at e1
    rw[if_pos hk] at e2;cases e2;exact absurd e1 (hn j)
   ·rw[if_neg hj] at e1
    rw[if_neg hk] at e2;exact p.2 j k v e1 e2
theorem Ra.below {lo:Nat}{xs ys acc:Array fh}(p:Ra h lo xs ys acc)(j:Nat):acc[j]?≠some (.ref h.objs.size):=λe=>by
 obtain⟨T,x,y,e1,_,_,_,e5⟩:=p.1 j _ e;cases e1;exact ln _ (fu e5)
section
variable {prog:gl} {w:iq} {A:i9} {E:Za0} {R:wm->fv->Prop}
abbrev Aae (acc:Array fh)(c:Nat):Obj:={ cls:=.type "list",dict:=none,data:=.seq acc c,slots:=#[] }
theorem Afo {S z TI TO T lo:eg}{xs ys:Array fh}(D:DzA S z TI TO i1 i2 l1 l2)(hTz:T≠z)(hT1:T≠i1)(hT2:T≠i2)(hTS:T≠S)(hlo:z<lo/\i1<lo/\i2<lo/\S<lo)(hh:A.handled=none)(he:xs.size=ys.size)(hsz:xs.size<=sizeLine) :
  ∀(m i:Nat) (s:fv) (c:Bool) (acc:Array fh) (n:Nat) (oT:Obj),xs.size-i=m->i<=xs.size->Nh s.heap z TI TO T c->s.heap.get? T=some oT->o6 s.heap TI (.ref i1) (.ref i2) ->
   s.heap.IsListIter i1 l1 i->s.heap.IsListIter i2 l2 i->s.heap.IsList l1 xs->s.heap.IsList l2 ys->s.heap.get? S=some (Aae acc n)->acc.size=i->Ra s.heap lo xs ys acc->lo<=s.heap.objs.size ->
   (∀h' acc' n',h'.get? S=some (Aae acc' n')->acc'.size=xs.size->Ra h' lo xs ys acc'->(∀b o,b≠z->b≠i1->b≠i2->b≠S->s.heap.get? b=some o->h'.get? b=some o)->R (.ok (.ret .none)) { s with heap:=h' }) ->
   codeAny (model prog w) A (.builtin "list.extend.loop" ⟨[.ref S,.ref z,.none],[]⟩) R s:=by
 have far:∀b,lo<=b->b≠z/\b≠i1/\b≠i2/\b≠S:=λb hb=>⟨jo (fk hlo.1 hb),jo (fk hlo.2.1 hb),jo (fk hlo.2.2.1 hb),jo (fk hlo.2.2.2 hb)⟩;intro m
 induction m with
 |zero=>
  intro i s c acc n oT hm hi hz hT hTI h1 h2 hl1 hl2 hS hac hp hls q;refine mh sy ?_;rw[j5 l9 _];show wpAny _ A.in1 (pyNext (.ref z) >>= _) _ _ s;refine wpAny_bind (jO (by exact hh) D.za hz hT hTI h1 hl1 (l5 (by lia)) λh' kp=>?_);refine fq ?_;exact q h' acc n (kp _ _ D.dz D.d1 D.d2 hS) (by lia) (hp.keep λb o hb e=>kp b o (far b hb).1 (far b hb).2.1 (far b hb).2.2.1 e) λb o b1 b2 b3 _ e=>kp b o b1 b2 b3 e
 |succ m ih=>
  intro i s c acc n oT hm hi hz hT hTI h1 h2 hl1 hl2 hS hac hp hls q;obtain⟨x,hx⟩:∃x,xs[i]?=some x:=⟨_,jr (show i<xs.size by lia)⟩;obtain⟨y,hy⟩:∃y,ys[i]?=some y:=⟨_,jr (show i<ys.size by lia)⟩;refine mh sy ?_;rw[j5 l9 _];show wpAny _ A.in1 (pyNext (.ref z) >>= _) _ _ s;refine wpAny_bind (Zm D.za hz hT hTI h1 h2 hl1 hl2 hx hy λh' hz' h1' h2' hpr hsz' kp=>?_);have hS':=kp _ _ D.dz D.d1 D.d2 hS;show wpAny _ A.in1 (updateSeq S (·.push (.ref s.heap.objs.size)) >>= _) _ _ _;refine wpAny_bind ?_;have oth:∀b o,b≠S->h'.get? b=some o->(h'.update S (i6 (·.push (.ref s.heap.objs.size)))).get? b=some o:=λb o hb e=>(ku _ _ (rh hb)).trans e;have k2:∀b o,b≠z->b≠i1->b≠i2->b≠S->s.heap.get? b=some o->(h'.update S (i6 (·.push (.ref s.heap.objs.size)))).get? b=some o:=λb o b1 b2 b3 b4 e=>oth b o b4 (kp b o b1 b2 b3 e);refine tu hS' rfl (fq ⟨ou l9 _,?_⟩) (by rw[hac];lia) (by show(acc.push _).size<=sizeLine+1;rw[vc,hac];lia);refine ih (i+1) _ true (acc.push (.ref s.heap.objs.size)) _ oT (by lia) (by lia) (oth _ _ D.dz.symm hz') (k2 _ _ hTz hT1 hT2 hTS hT) (k2 _ _ D.za.TIz D.za.TIi1 D.za.TIi2 D.dI.symm hTI) (h1'.at λo e=>oth _ o D.d1.symm e) (h2'.at λo e=>oth _ o D.d2.symm e)
   (hl1.at λo e=>k2 _ o D.za.l1z D.za.l1i1 D.za.l1i2 D.dl.symm e) (hl2.at λo e=>k2 _ o D.za.l2z D.za.l2i1 D.za.l2i2 D.dm.symm e) (nr _ hS' rfl) (by rw[vc,hac]) ?_ (by rw[ml,hsz'];exact DV hls) λh3 acc' n' hS3 hac3 hp3 kp3=>?_
  ·have far1:=far _ hls
   refine((hp.keep λb o hb e=>kp b o (far b hb).1 (far b hb).2.1 (far b hb).2.2.1 e).push hp.below hls (by rw[hac];exact hx) (by rw[hac];exact hy) hpr).keep λb o hb e=>oth b o (far b hb).2.2.2 e
  ·exact q h3 acc' n' hS3 hac3 hp3 λb o b1 b2 b3 b4 e=>kp3 b o b1 b2 b3 b4 (k2 b o b1 b2 b3 b4 e)
theorem tI {S z TI TO lo:eg}{a b:fh}{xs ys:Array fh}(D:DzA S z TI TO i1 i2 l1 l2)(hlo:z<lo/\i1<lo/\i2<lo/\S<lo/\TO<lo)(hh:A.handled=none)(he:xs.size=ys.size)(hsz:xs.size<=sizeLine)
  (hz:GB s.heap z TI TO .none)(hTO:o6 s.heap TO a b)(hTI:o6 s.heap TI (.ref i1) (.ref i2))(h1:s.heap.IsListIter i1 l1 0)(h2:s.heap.IsListIter i2 l2 0)(hl1:s.heap.IsList l1 xs)(hl2:s.heap.IsList l2 ys)(hS:s.heap.get? S=some (Aae #[] n))(hls:lo<=s.heap.objs.size)
  (q:∀h' acc' n',h'.get? S=some (Aae acc' n')->acc'.size=xs.size->Ra h' lo xs ys acc'->(∀b o,b≠z->b≠TO->b≠i1->b≠i2->b≠S->s.heap.get? b=some o->h'.get? b=some o)->R (.ok (.ret .none)) { s with heap:=h' }) :
  codeAny (model prog w) A (.builtin "list.extend.loop" ⟨[.ref S,.ref z,.none],[]⟩) R s:=by
 have far:∀b,lo<=b->b≠z/\b≠i1/\b≠i2/\b≠S/\b≠TO:=λb hb=>⟨jo (fk hlo.1 hb),jo (fk hlo.2.1 hb),jo (fk hlo.2.2.1 hb),jo (fk hlo.2.2.2.1 hb),jo (fk hlo.2.2.2.2 hb)⟩;refine mh sy ?_;rw[j5 l9 _];show wpAny _ A.in1 (pyNext (.ref z) >>= _) _ _ s;rcases qp xs.size with h0|h0
 ·refine wpAny_bind (EG (by exact hh) D.za hz hTI hTO h1 h2 hl1 hl2 (.inl (l5 (by lia))) λh' kp=>?_)
  refine fq ?_;exact q h' #[] n (kp _ _ D.dz D.dO D.d1 D.d2 hS) (by rw[h0];rfl) ⟨λj v e=>by simp at e,λj k v e=>by simp at e⟩ λb o b1 b2 b3 b4 _ e=>kp b o b1 b2 b3 b4 e
 ·obtain⟨x,hx⟩:∃x,xs[0]?=some x:=⟨_,jr h0⟩
  obtain⟨y,hy⟩:∃y,ys[0]?=some y:=⟨_,jr (show 0<ys.size by lia)⟩;refine wpAny_bind (DO D.za hz hTI hTO h1 h2 hl1 hl2 hx hy λh' hz' _ h1' h2' hpr hsz' kp=>?_);have hS':=kp _ _ D.dz D.dO D.d1 D.d2 hS;have lt:∀{c o},s.heap.get? c=some o->s.heap.objs.size≠c:=λe=>jo (fu e);show wpAny _ A.in1 (updateSeq S (·.push (.ref s.heap.objs.size)) >>= _) _ _ _;refine wpAny_bind ?_;have oth:∀b o,b≠S->h'.get? b=some o->(h'.update S (i6 (·.push (.ref s.heap.objs.size)))).get? b=some o:=λb o hb e=>(ku _ _ (rh hb)).trans e;have k2:∀b o,b≠z->b≠TO->b≠i1->b≠i2->b≠S->s.heap.get? b=some o->(h'.update S (i6 (·.push (.ref s.heap.objs.size)))).get? b=some o:=λb o b1 b2 b3 b5 b4 e=>oth b o b4 (kp b o b1 b2 b3 b5 e);refine tu hS' rfl (fq ⟨ou l9 _,?_⟩) (by show(#[]:Array fh).size<=_;exact gp _) (by show((#[]:Array fh).push _).size<=sizeLine+1;rw[vc];exact Nat.succ_le_succ (gp _));refine Afo (T:=s.heap.objs.size) D (lt hz) (by obtain⟨_,e,_⟩:=h1;exact lt e) (by obtain⟨_,e,_⟩:=h2;exact lt e) (lt hS) ⟨hlo.1,hlo.2.1,hlo.2.2.1,hlo.2.2.2.1⟩ hh he hsz _ 1 _ false ((#[]:Array fh).push (.ref s.heap.objs.size)) _ _ rfl h0 (oth _ _ D.dz.symm hz') (oth _ _ (lt hS) hpr) (k2 _ _ D.za.TIz D.za.TITO D.za.TIi1 D.za.TIi2 D.dI.symm hTI) (h1'.at λo e=>oth _ o D.d1.symm e) (h2'.at λo e=>oth _ o D.d2.symm e)
   (hl1.at λo e=>k2 _ o D.za.l1z D.za.l1TO D.za.l1i1 D.za.l1i2 D.dl.symm e) (hl2.at λo e=>k2 _ o D.za.l2z D.za.l2TO D.za.l2i1 D.za.l2i2 D.dm.symm e) (nr _ hS' rfl) rfl ?_ (by rw[ml,hsz'];exact DV hls) λh3 acc' n' hS3 hac3 hp3 kp3=>?_
  ·refine(Ra.push (acc:=#[]) ⟨λj v e=>by simp at e,λj k v e=>by simp at e⟩ (λj e=>by simp at e) hls hx hy hpr).keep λb o hb e=>oth b o (far b hb).2.2.2.1 e
  ·exact q h3 acc' n' hS3 hac3 hp3 λb o b1 b2 b3 b5 b4 e=>kp3 b o b1 b3 b5 b4 (k2 b o b1 b2 b3 b5 b4 e)
theorem X1 {z TI TO:eg}{a b:fh}{xs ys:Array fh}{Q:Za0}(D:xp z TI TO i1 i2 l1 l2)(hh:A.handled=none)(he:xs.size=ys.size)(hsz:xs.size<=sizeLine)
  (hz:GB s.heap z TI TO .none)(hTO:o6 s.heap TO a b)(hTI:o6 s.heap TI (.ref i1) (.ref i2))(h1:s.heap.IsListIter i1 l1 0)(h2:s.heap.IsListIter i2 l2 0)(hl1:s.heap.IsList l1 xs)(hl2:s.heap.IsList l2 ys)
  (q:∀h' acc' n',h'.get? s.heap.objs.size=some (Aae acc' n')->acc'.size=xs.size->Ra h' (s.heap.objs.size+1) xs ys acc'->(∀b o,b≠z->b≠TO->b≠i1->b≠i2->s.heap.get? b=some o->h'.get? b=some o)->Q (.ref s.heap.objs.size) { s with heap:=h' }) :
  wpAny (model prog w) A (call (.type "list") [.ref z]) Q E s:=by
 refine AY (Q₁:=λobj QN=>obj=.ref s.heap.objs.size/\QN={ s with heap:=s.heap.push { cls:=.type "list",data:=.seq #[] } }) PySem.F.called_list (PySem.F.typeCall_list_1 _) PySem.F.entry_list_init (code_list_new _ ⟨rfl,rfl⟩) ?_;rintro obj QN ⟨rfl,rfl⟩;have hS:(s.heap.push { cls:=.type "list",data:=.seq #[] }).get? s.heap.objs.size=some { cls:=.type "list",data:=.seq #[] }:=gq _ rfl;have up:∀b o,s.heap.get? b=some o->(s.heap.push { cls:=.type "list",data:=.seq #[] }).get? b=some o:=λb o e=>en _ e;have lt:∀{c o},s.heap.get? c=some o->s.heap.objs.size≠c:=λe=>jo (fu e);refine⟨⟨_,hS,rfl⟩,PySem.F.args_list_init_2 _ _,?_⟩;show wpAny _ _ (do let old <-yh (.ref s.heap.objs.size);IG (.ref s.heap.objs.size) (λ_=>#[]);letGo old.toList.reverse;ow (.ref s.heap.objs.size) (.ref z) .none) _ _ _;refine wpAny_bind ?_;unfold yh;refine wpAny_bind (ul hS rfl (fq ?_));show wpAny _ _ (updateSeq s.heap.objs.size (λ_=>#[]) >>= λ_=>letGo (#[]:Array fh).toList.reverse >>= λ_=>ow (.ref s.heap.objs.size) (.ref z) .none) _ _ _;refine wpAny_bind (tu hS rfl ?_);have XM:=nr (i6 (λ_=>(#[]:Array fh))) hS rfl;have oth:∀b o,s.heap.get? b=some o->((s.heap.push { cls:=.type "list",data:=.seq #[] }).update s.heap.objs.size (i6 (λ_=>(#[]:Array fh)))).get? b=some o:=
  λb o e=>(ku _ _ (lt e)).trans (up b o e)
 refine wpAny_bind (wpAny_letGo ?_);unfold ow;have hzT:=oth _ _ hz;refine wpAny_bind (qh (T:="zip") ⟨_,hzT,rfl⟩ ?_);have g1:xy (.ref s.heap.objs.size) (.ref z)=false:=by simp[xy,lt hz]
 have g2:(kh "zip"==kh "list")=false:=by decide
 have g3:(kh "zip"==kh "tuple")=false:=by decide
 simp only[g1,g2,g3,AA,jy,if_false];refine wpAny_bind (vz hzT ?_);refine wpAny_bind (wpAny_holding ?_);unfold II;refine wpAny_bind (GY (T:="zip") ⟨_,hzT,rfl⟩ oH ?_);show wpAny _ _ (specialOf (jb z) (oy "__length_hint__") >>= _) _ _ _;refine wpAny_bind (GY (T:="zip") ⟨_,hzT,rfl⟩ kG ?_);refine fq ?_;show wpAny _ _ (rule "list.extend.makes-room" >>= λ_=>IH (.ref s.heap.objs.size) >>= λ_=>
  again (.builtin "list.extend.loop" ⟨[.ref s.heap.objs.size,.ref z,.none],[]⟩)) _ _ _
 refine wpAny_bind (um ?_);refine wpAny_bind ?_;show wpAny _ _ (updateSeq s.heap.objs.size (·.push .none) >>= λ_=>updateSeq s.heap.objs.size (·.pop)) _ _ _;refine wpAny_bind (tu XM rfl ?_);have XN:=nr (i6 (·.push sw)) XM rfl;refine tu (hz:=by seq_fits) XN rfl ?_;have XV:=nr (i6 (·.pop)) XN rfl;have up2:∀b o,s.heap.get? b=some o->((((s.heap.push { cls:=.type "list",data:=.seq #[] }).update s.heap.objs.size (i6 (λ_=>(#[]:Array fh)))).update s.heap.objs.size (i6 (·.push sw))).update s.heap.objs.size (i6 (·.pop))).get? b=some o:=
  λb o e=>(ku _ _ (lt e)).trans ((ku _ _ (lt e)).trans (oth b o e))
 have ltS:∀{c o},s.heap.get? c=some o->c<s.heap.objs.size+1:=λe=>uh (fu e);refine fq ⟨ou l9 _,?_⟩;refine tI (a:=a) (b:=b) (lo:=s.heap.objs.size+1) (xs:=xs) (ys:=ys) ⟨D,lt hz,lt hTI,lt hTO,?_,?_,?_,?_⟩ ⟨ltS hz,?_,?_,nj _,ltS hTO⟩ (by exact hh) he hsz (up2 _ _ hz) (up2 _ _ hTO) (up2 _ _ hTI) (h1.at λo e=>up2 _ o e) (h2.at λo e=>up2 _ o e) (hl1.at λo e=>up2 _ o e) (hl2.at λo e=>up2 _ o e) XV ?_ λh3 acc' n' hS3 hac3 hp3 kp3=>?_
 ·obtain⟨_,e,_⟩:=h1;exact lt e
 ·obtain⟨_,e,_⟩:=h2;exact lt e
 ·obtain⟨_,e,_⟩:=hl1;exact lt e
 ·obtain⟨_,e,_⟩:=hl2;exact lt e
 ·obtain⟨_,e,_⟩:=h1;exact ltS e
 ·obtain⟨_,e,_⟩:=h2;exact ltS e
 ·rw[ml,ml,ml,pi]
  exact d8 _
 ·exact⟨rfl,q h3 acc' n' hS3 hac3 hp3 λb o b1 b2 b3 b4 e=>kp3 b o b1 b2 b3 b4 (lt e).symm (up2 _ _ e)⟩
end
def Sc (N H:Hp):Hp:=λb=>match N b with|some o=>some o|none=>H b
theorem Ru {N:Hp}{b:eg}{o:HO}(h:N b=some o):Sc N H b=some o:=by unfold Sc;rw[h]
theorem Rg {N:Hp}{b:eg}(h:N b=none):Sc N H b=H b:=by unfold Sc;rw[h]
theorem Uj {N H:Hp}(h:∀b o,N b=some o->H b=none):Ag H (Sc N H):=λb o e=>by
 cases hN:N b with
 |none=>rw[Rg hN];exact e
 |some u=>rw[h b u hN] at e;cases e
theorem Inv.laidN {G:St}{N:Hp}(I:Inv X pins G H s)(k:∀b u,s.heap.get? b=some u->h'.get? b=some u)(hp:∀b o,N b=some o->s.heap.objs.size<=b)
  (new:∀b o,N b=some o->Cq X.prog X.w (Sc N H) h' b o):Inv X pins G (Sc N H) { s with heap:=h',toks:=t' }:=by
 have hn:∀b o,N b=some o->H b=none:=λb o e=>I.hok.fresh (hp b o e);have sm:=Uj hn;have old:∀b u,s.heap.get? b=some u->N b=none:=λb u e=>by
  cases hN:N b with
  |none=>rfl
  |some o=>exact absurd (fu e) (pq.mpr (hp b o hN))
 refine I.un ⟨λb u q _ _ _=>k b u q,λb u q _ _ _=>⟨u.slots,k b u q⟩,λb u q n _=>by rw[Rg (old b u q)];exact n,λb u q _=>⟨u,k b u q⟩,λb xs q=>sm _ _ q,λb u xs q=>sm _ _ q,λb ps q=>⟨#[],by rw[sm _ _ q];simp⟩⟩ λb o e=>?_
 cases hN:N b with
 |some u=>
  rw[Ru hN] at e;cases e;exact new b _ hN
 |none=>
  rw[Rg hN] at e;exact(I.hok b o e).stay (λc v _ q=>k c v q) (λc q=>sm _ _ q) λc xs q=>sm _ _ q
def Aih:fh->eg
 |.ref a=>a
 |_=>0
def Afl (H1 H':Hp)(as:List eg)(xs ys:List V):Prop:=as.length=xs.length/\∀(i:Nat) t x y,as[i]?=some t->xs[i]?=some x->ys[i]?=some y->H1 t=none/\H' t=some (.tup [x,y])
def iS:List eg->List V->List V->Hp
 |t::as,x::xs,y::ys=>λb=>if b=t then some (.tup [x,y]) else iS as xs ys b
 |_,_,_=>λ_=>none
theorem rD:∀{as:List eg} {xs ys:List V},(∀(j k:Nat) t,as[j]?=some t->as[k]?=some t->j=k)->∀(i:Nat) t x y,as[i]?=some t->xs[i]?=some x->ys[i]?=some y->iS as xs ys t=some (.tup [x,y])
 |[],_,_,_,_,_,_,_,e,_,_=>by cases e
 |_::_,[],_,_,_,_,_,_,_,e,_=>by cases e
 |_::_,_::_,[],_,_,_,_,_,_,_,e=>by cases e
 |t::as,x::xs,y::ys,inj,i,t',x',y',e1,e2,e3=>by
  show(if t'=t then some (HO.tup [x,y]) else iS as xs ys t')=_
  cases i with
  |zero=>
   cases e1;cases e2;cases e3;rw[if_pos rfl]
  |succ i=>
   have hne:t'≠t:=λh=>by
    have:=inj (i+1) 0 t' e1 (by rw[h];rfl);cases this
   rw[if_neg hne];exact rD (λj k u h1 h2=>by have:=inj (j+1) (k+1) u h1 h2;lia) i t' x' y' e1 e2 e3
theorem eA:∀{as:List eg} {xs ys:List V} {b:eg} {o:HO},iS as xs ys b=some o->∃(i:Nat) (x y:V),as[i]?=some b/\xs[i]?=some x/\ys[i]?=some y/\o=.tup [x,y]
 |[],_,_,_,_,e=>by cases e
 |_::_,[],_,_,_,e=>by cases e
 |_::_,_::_,[],_,_,e=>by cases e
 |t::as,x::xs,y::ys,b,o,e=>by
  have e:(if b=t then some (HO.tup [x,y]) else iS as xs ys b)=some o:=e
  by_cases h:b=t
  ·rw[if_pos h] at e
   cases e;exact⟨0,x,y,by rw[h];rfl,rfl,rfl,rfl⟩
  ·rw[if_neg h] at e
   obtain⟨i,x',y',a1,a2,a3,a4⟩:=eA e;exact⟨i+1,x',y',a1,a2,a3,a4⟩
section
variable {X:Cx}
def Aco (K:d6)(ta:TA):TE:=λG H Q=>ta G H λvs H1=>∃a b xs ys,vs=[.ref a,.ref b]/\SqL K H1 a xs/\SqL K H1 b ys/\xs.length=ys.length/\∀p as H',Ag H1 H'->H1 p=none->H' p=some (.lst (as.map V.ref))->Afl H1 H' as xs ys->Q (.ref p) H'
theorem Aaw {a b:i8}{ta:TA}{p q:Pos}(hcal:X.calm=true)(hg:Gl X "list")(hm:X.mg "list"=none)(hg2:Gl X "zip")(hm2:X.mg "zip"=none)(ha:PA X [a,b] ta)
  (hs:autoParam (starEach [a,b] X.env=[(false,eval a X.env),(false,eval b X.env)]) QD)(hs2:autoParam (starEach [b] X.env=[(false,eval b X.env)]) QD)
  (hs3:autoParam (starEach [wv (.Name "zip" q) [a,b] [] pos2] X.env=[(false,eval (.Call (.Name "zip" q) [a,b] [] pos2) X.env)]) QD) :
  PE X (.Call (.Name "list" p) [.Call (.Name "zip" q) [a,b] [] pos2] [] pos) (Aco X.K ta):=by
 k_in;refine wpAny_Call_Name_kw (Do I hg hm R7 (ik ?_ hs3 rfl) (by decide) (by decide));rw[hs3];refine lq ?_;show wpAny _ _ (eval (wv (.Name "zip" q) [a,b] [] pos2) X.env) _ _ _;refine wpAny_Call_Name_kw (Do I hg2 hm2 wH (ik (thA ha I h λus s1 vs H1 I1 r1 q1=>?_) (by rw[hs,hs2]) (by rw[hs2];rfl)) (by decide) (by decide));obtain⟨a,b,xs,ys,e,hx,hy,hl,q⟩:=q1;subst e;obtain⟨u,v,rfl,ru,rv⟩:=Nk r1;cases ru;cases rv;obtain⟨its,rv,p,hz⟩:=I1.list hx;obtain⟨its2,rv2,p2,hz2⟩:=I1.list hy;have l1:=rv.length;have l2:=rv2.length;refine FG p.isList p2.isList λh' g1 g2 g3 g4 g5 hsz kk=>?_;refine n5 ?_;have A1:h'.IsList a its.toArray:=p.isList.at λo e=>kk _ o e;have A2:h'.IsList b its2.toArray:=p2.isList.at λo e=>kk _ o e;have D:=dX (Nv _) (⟨g1,g2,⟨_,_,g3⟩,g4,g5⟩:StZ _ _ _ _ _ a b 0 h') A1 A2;refine X1 (s:={ s1 with heap:=h' }) D (I1.ok.hd hcal) (by simp;lia) (by simp;lia) g1 g3 g2 g4 g5 A1 A2 λh2 acc n hS hac hp kp=>?_;have hle:s1.heap.objs.size<=h'.objs.size:=by lia
 have hac:acc.size=xs.length:=by rw[hac];simp;lia
 have kp1:∀b o,s1.heap.get? b=some o->h2.get? b=some o:=λb o e=>by
  have lt:=fu e;have ne:∀c,s1.heap.objs.size<=c->b≠c:=λc hc z=>ln _ (fk lt (z▸hc));exact kp b o (ne _ (jh _ _)) (ne _ (jh _ _)) (ne _ (d8 _)) (ne _ (jh _ _)) (kk _ _ e)
 obtain⟨as,has⟩:∃as,as=acc.toList.map Aih:=⟨_,rfl⟩;have hasl:as.length=xs.length:=by rw[has,d7,gh,hac]
 have hat:∀(i:Nat) t,as[i]?=some t->∃x y,acc[i]?=some (jb t)/\h'.objs.size+1<=t/\its[i]?=some x/\its2[i]?=some y/\o6 h2 t x y:=λi t e=>by
  rw[has,d9] at e
  cases hv:acc.toList[i]? with
  |none=>rw[hv] at e;cases e
  |some v=>
   rw[hv] at e;have hv2:acc[i]?=some v:=by rw[<-gr];exact hv
   obtain⟨T,x,y,e1,e2,e3,e4,e5⟩:=hp.1 i v hv2;subst e1;obtain rfl:T=t:=ee e;exact⟨x,y,hv2,e2,by simpa using e3,by simpa using e4,e5⟩
 have inj:∀(j k:Nat) t,as[j]?=some t->as[k]?=some t->j=k:=λj k t h1 h2=>by
  obtain⟨_,_,a1,_⟩:=hat j t h1;obtain⟨_,_,a2,_⟩:=hat k t h2;exact hp.2 j k _ a1 a2
 let N:Hp:=λb=>if b=h'.objs.size then some (.lst (as.map V.ref)) else iS as xs ys b
 have hN0:N h'.objs.size=some (.lst (as.map V.ref)):=if_pos rfl;have hNt:∀(i:Nat) t x y,as[i]?=some t->xs[i]?=some x->ys[i]?=some y->N t=some (.tup [x,y]):=λi t x y e1 e2 e3=>by
  obtain⟨_,_,_,hlt,_⟩:=hat i t e1;show(if t=h'.objs.size then _ else _)=_;rw[if_neg (jo hlt)];exact rD inj i t x y e1 e2 e3
 have hNp:∀b o,N b=some o->s1.heap.objs.size<=b:=λb o e=>by
  have e:(if b=h'.objs.size then some (HO.lst (as.map V.ref)) else iS as xs ys b)=some o:=e
  by_cases hb:b=h'.objs.size
  ·rw[hb];exact hle
  ·rw[if_neg hb] at e
   obtain⟨i,x,y,e1,_⟩:=eA e;obtain⟨_,_,_,hlt,_⟩:=hat i b e1;exact ir hle (Nat.le_of_succ_le hlt)
 have hNn:∀b o,N b=some o->H1 b=none:=λb o e=>I1.hok.fresh (hNp b o e);have I2:Inv X pins G (Sc N H1) { s1 with heap:=h2 }:=by
  refine I1.laidN (t':=s1.toks) kp1 hNp λb o e=>?_;have e:(if b=h'.objs.size then some (HO.lst (as.map V.ref)) else iS as xs ys b)=some o:=e
  by_cases hb:b=h'.objs.size
  ·rw[if_pos hb] at e
   cases e;subst hb;refine⟨by rw[d7];lia,acc.toList,n,?_,hS⟩;refine Nz (by rw[d7,hasl,<-hac];exact(gh (xs:=acc)).symm) λi v u e1 e2=>?_;rw[d9] at e1
   cases ht:as[i]? with
   |none=>rw[ht] at e1;cases e1
   |some t=>
    rw[ht] at e1;cases e1;obtain⟨_,_,a1,_⟩:=hat i t ht;rw[<-gr,e2] at a1;exact ee a1
  ·rw[if_neg hb] at e
   obtain⟨i,x,y,e1,e2,e3,rfl⟩:=eA e;obtain⟨u,v,_,_,e4,e5,e6⟩:=hat i b e1;obtain⟨u',hu,ru⟩:=rv.get e2;obtain⟨v',hv,rv'⟩:=rv2.get e3;rw[e4] at hu;rw[e5] at hv;cases hu;cases hv;exact⟨f9 (qo (show 2<=2 from d8 2) (by decide)),[u,v],.cons ru (.cons rv' .nil),_,e6,rfl,_,rfl⟩
 refine⟨.ref h'.objs.size,_,I2,rfl,q _ as _ (Uj hNn) (hNn _ _ hN0) (Ru hN0) ⟨hasl,λi t x y e1 e2 e3=>⟨hNn _ _ (hNt i t x y e1 e2 e3),Ru (hNt i t x y e1 e2 e3)⟩⟩⟩
theorem Adq {G:St}{Q:VK}{ta:TA}{K:d6}(h:ta G H λvs H1=>∃a b xs ys,vs=[.ref a,.ref b]/\SqL K H1 a xs/\SqL K H1 b ys/\xs.length=ys.length/\∀p as H',Ag H1 H'->H1 p=none->H' p=some (.lst (as.map V.ref))->Afl H1 H' as xs ys->Q (.ref p) H'):Aco K ta G H Q:=h
end
def Aan (K:d6)(a:eg)(n:Nat):It:=
 ⟨λi H=>∃xs x,SqL K H a xs/\i<n/\xs[n-1-i]?=some x,λi H x H'=>H'=H/\∀xs,SqL K H a xs->xs[n-1-i]?=some x,λi _=>i=n⟩
theorem mB {P:gl}{K:d6}(a it:eg)(n:Nat):Ph P w K tg (Aan K a n) [it] it (λi h=>h.IsRevIter it a ((n:Int)-1-(i:Int))) where
 mem:=by simp
 obj:=λi h st b hb=>by
  have e:b=it:=by simpa using hb
  subst e;obtain⟨o,e,c,d⟩:=st;exact⟨o,e,λv z=>by rw[d] at z;cases z⟩
 keep:=λi h h' st k=>st.at λo e=>k it (by simp) o e
 item:=by
  intro X hP hw hK hc i pins s G H E I hf st hg;subst hP hw hK;obtain⟨xs,x,hq,hi,hx⟩:=hg;obtain⟨its,rv,p,hz⟩:=I.list hq;obtain⟨u,hu,ru⟩:=rv.get hx;obtain⟨f0,f1,f2,f3,f4,f5⟩:=hf it (by simp);have e:(n:Int)-1-(i:Int)=((n-1-i:Nat):Int):=by lia
  have st1:=st;rw[e] at st1;refine wpAny_pyNext_rev_item st1 p.isList (x:=u) (by simpa using hu) λh' st' sb=>?_;have e2:((n-1-i:Nat):Int)-1=(n:Int)-1-((i+1:Nat):Int):=by lia
  rw[e2] at st';have I1:Inv X pins G H { s with heap:=h' }:=I.turned (t':=s.toks) (λb o hb e=>(sb.2 b hb).trans e) f0 f1 f3 f4 f5;obtain⟨o,e,c,d⟩:=id st';exact⟨u,rfl,Zs (s:={ s with heap:=h' }) e c d (by decide) ⟨x,H,I1,ru,⟨rfl,λys hy=>by rw[I.list_inj hy hq];exact hx⟩,st',λb hb=>(hf b hb).1⟩⟩
 done:=by
  intro X hP hw hK hc i pins s G H E I hf st hg;subst hP hw hK;have hg:i=n:=hg;subst hg;obtain⟨f0,f1,f2,f3,f4,f5⟩:=hf it (by simp);have e:(i:Int)-1-(i:Int)=-1:=by lia
  rw[e] at st;exact wpAny_pyNext_rev_end (I.ok.hd hc) st λh' eb=>⟨rfl,I.turned (t':=s.toks) (λb o hb e=>eb b o hb e) f0 f1 f3 f4 f5⟩
 self:=λ_ _ _ _ _ st h=>EH st h
section
variable {X:Cx} {tg:i8}
def Ac8 (K:d6)(tl:TE):TI:=λG H R=>tl G H λx H1=>∃a xs,x=.ref a/\SqL K H1 a xs/\R (Aan K a xs.length) H1
theorem Ae4 {K:d6}{tl:TE}{G:St}{R:It->Hp->Prop}(h:tl G H λx H1=>∃a xs,x=.ref a/\SqL K H1 a xs/\R (Aan K a xs.length) H1):Ac8 K tl G H R:=h
theorem Acb {l:i8}{tl:TE}{p:Pos}(hg:Gl X "reversed")(hm:X.mg "reversed"=none)(hl:PE X l tl)(hs3:autoParam (starEach [l] X.env=[(false,eval l X.env)]) QD):PI X tg (.Call (.Name "reversed" p) [l] [] pos) (Ac8 X.K tl):=by
 intro pins s G H R I h;refine Call_ (Do I hg hm Yi (ik ?_ hs3 rfl));rw[hs3];refine lq ?_;refine thE hl I h λv s1 x H1 I1 r1 q1=>?_;obtain⟨a,xs,e,hq,q⟩:=q1;subst e;cases r1;obtain⟨its,rv,p,hz⟩:=I1.list hq;refine n5 ?_;refine call_reversed_list p.isList ?_;have hn:((its.toArray.size:Nat):Int)-1=((xs.length:Nat):Int)-1-((0:Nat):Int):=by have:=rv.length;simp;lia
 refine EH (i:=((xs.length:Nat):Int)-1-((0:Nat):Int)) (l:=a) ⟨_,gq _ rfl,rfl,by rw[<-hn];rfl⟩ ?_;refine⟨s1.heap.objs.size,[s1.heap.objs.size],_,_,H1,rfl,I1.kept (t':=s1.toks) λb o e=>en _ e,mB a _ xs.length,⟨_,gq _ rfl,rfl,by rw[<-hn];rfl⟩,λb hb=>?_,q⟩;have e:b=s1.heap.objs.size:=by simpa using hb
 subst e;exact I1.fpOk (d8 _) (I1.hok.fresh (d8 _))
end
theorem uC {K:d6}{a:eg}{ys:List V}{i1 i2:Nat}{tb:TS}{G:St}(hx:as.length=xs.length)(hy:as.length=ys.length)(Pv:Nat->St->Hp->Prop)(h0:Pv 0 G H)
  (hl:∀i G H,i<=as.length->Pv i G H->SqL K H a (as.map V.ref))(ht:∀(i:Nat) t x y G H,as[i]?=some t->xs[i]?=some x->ys[i]?=some y->Pv i G H->H t=some (.tup [x,y]))
  (step:∀(i:Nat) x y G H,xs[i]?=some x->ys[i]?=some y->Pv i G H->tb { D with nx:=Pv (i+1),ct:=Pv (i+1),bk:=D.nx } ((G.set i1 (some x)).set i2 (some y)) H)
  (fin:∀G H,Pv as.length G H->D.nx G H):sD (Itl K a) (mZ K 2 (Ja (Eg i1) (Ja (Eg i2) lM))) tb D G H:=by
 refine⟨λi m G H=>i<=as.length/\m=as.length-i/\Pv i G H,⟨_,gp _,rfl,h0⟩,?_⟩;rintro i m G H ⟨hi,rfl,hp⟩
 by_cases h:i=as.length
 ·exact .inl ⟨⟨_,hl i G H hi hp,by rw[d7];lia⟩,fin G H (h▸hp)⟩
 ·have hlt:i<as.length:=ko hi h
  refine .inr ⟨⟨_,.ref as[i],hl i G H hi hp,by rw[d9,d4 hlt];rfl⟩,Pv (i+1),λQM H' q=>⟨as.length-(i+1),by lia,hlt,rfl,q⟩,λv H' hyl=>?_⟩;obtain⟨rfl,hv⟩:=hyl;have hv:=hv _ (hl i G H' hi hp);rw[d9,d4 hlt] at hv;obtain rfl:=ee hv;exact Tt (SqT.of (ht i _ _ _ G H' (d4 hlt) (d4 (by lia)) (d4 (by lia)) hp)) (step i _ _ G H' (d4 (by lia)) (d4 (by lia)) hp)
theorem oA {K:d6}{a:eg}{ys:List V}{i1 i2:Nat}{tb:TS}{G:St}(hx:as.length=xs.length)(hy:as.length=ys.length)(Pv:Nat->St->Hp->Prop)(h0:Pv 0 G H)
  (hl:∀i G H,i<=as.length->Pv i G H->SqL K H a (as.map V.ref))(ht:∀(i j:Nat) t x y G H,as[j]?=some t->xs[j]?=some x->ys[j]?=some y->Pv i G H->H t=some (.tup [x,y]))
  (step:∀(i:Nat) x y G H,i<as.length->xs[as.length-1-i]?=some x->ys[as.length-1-i]?=some y->Pv i G H->tb { D with nx:=Pv (i+1),ct:=Pv (i+1),bk:=D.nx } ((G.set i1 (some x)).set i2 (some y)) H)
  (fin:∀G H,Pv as.length G H->D.nx G H):sD (Aan K a as.length) (mZ K 2 (Ja (Eg i1) (Ja (Eg i2) lM))) tb D G H:=by
 refine⟨λi m G H=>i<=as.length/\m=as.length-i/\Pv i G H,⟨_,gp _,rfl,h0⟩,?_⟩;rintro i m G H ⟨hi,rfl,hp⟩
 by_cases h:i=as.length
 ·exact .inl ⟨h,fin G H (h▸hp)⟩
 ·have hlt:i<as.length:=ko hi h
  have hj:as.length-1-i<as.length:=by lia
  refine .inr ⟨⟨_,.ref as[as.length-1-i],hl i G H hi hp,hlt,by rw[d9,d4 hj];rfl⟩,Pv (i+1),λQM H' q=>⟨as.length-(i+1),by lia,hlt,rfl,q⟩,λv H' hyl=>?_⟩;obtain⟨rfl,hv⟩:=hyl;have hv:=hv _ (hl i G H' hi hp);rw[d9,d4 hj] at hv;obtain rfl:=ee hv;exact Tt (SqT.of (ht i _ _ _ _ G H' (d4 hj) (d4 (by lia)) (d4 (by lia)) hp)) (step i _ _ G H' hlt (d4 (by lia)) (d4 (by lia)) hp)
theorem sT {K:d6}{a:eg}{ys:List V}{tc:TT}{Q:VK}(hx:as.length=xs.length)(hy:as.length=ys.length)(ha:SqL K H1 a (as.map V.ref))(ht:∀(i:Nat) t x y,as[i]?=some t->xs[i]?=some x->ys[i]?=some y->H1 t=some (.tup [x,y]))
  (Pv:eg->Nat->List V->Hp->Prop)(h0:∀D H,H1 D=none->Ag H1 H->Pv D 0 [] H)
  (stab:∀D i zs H us o,H D=some (.lst us)->Pv D i zs H->Pv D i zs (upd H D o))(hz:∀D i zs H,i<as.length->Pv D i zs H->zs.length<sizeLine)(psame:∀D i zs H H',Ag H H'->Pv D i zs H->Pv D i zs H')
  (turn:∀D (i:Nat) zs x y H (A:VK) (R:Hp->Prop),xs[i]?=some x->ys[i]?=some y->Ag H1 H->H1 D=none->H D=some (.lst zs)->Pv D i zs H->(∀H',Ag H H'->Pv D (i+1) zs H'->R H')->(∀y H',Ag H H'->Pv D (i+1) (zs++[y]) H'->A y H') ->
   tc (some x::some y::fr) H λb H3=>if b=true then te (some x::some y::fr) H3 A else R H3)
  (fin:∀D zs H,H1 D=none->Ag H1 H->Pv D as.length zs H->H D=some (.lst zs)->Q (.ref D) H):Ng K (Itl K a) H1 fr tc te Q:=by
 refine kN as.length (λi=>xs.getD i .non) (λi=>ys.getD i .non) Pv h0 stab hz psame (λi H hi sm=>⟨_,.ref as[i],sm.seq ha,by rw[d9,d4 hi];rfl⟩) (λi H v H' hi sm h=>?_)
  (λH sm=>⟨_,sm.seq ha,by rw[d7];exact d8 _⟩) (λD i zs H A R hi sm=>turn D i zs _ _ H A R (by simp[show i<xs.length by lia]) (by simp[show i<ys.length by lia]) sm) fin
 obtain⟨rfl,hv⟩:=h;have hv:=hv _ (sm.seq ha);rw[d9,d4 hi] at hv;obtain rfl:=ee hv;refine⟨_,rfl,SqT.of (sm _ _ (ht i _ _ _ (d4 hi) ?_ ?_)),Ag.refl _⟩
 ·simp[show i<xs.length by lia]
 ·simp[show i<ys.length by lia]
theorem mC (n:Nat):sliceRange (sliceBounds none none (some (-1)) n).1 (sliceBounds none none (some (-1)) n).2.1 (sliceBounds none none (some (-1)) n).2.2=(fb n).map λk=>n-1-k:=by
 have e:sliceBounds none none (some (-1)) n=((n:Int)-1,-1,-1):=by simp[sliceBounds]
 rw[e];unfold sliceRange;dsimp only;rw[if_neg (by decide)];have e2:(if(n:Int)-1 > -1 then((n:Int)-1 - -1 - -1-1) / - -1 else 0).toNat=n:=by
  split
  ·rw[show(- -1:Int)=1 by decide,GU]
   lia
  ·lia
 rw[e2];refine jc λk hk=>?_;have:=jm.mp hk;lia
theorem Xd {α:Type}(l:List α):∀n,n<=l.length->((fb n).map λk=>n-1-k).filterMap (l[·]?)=(l.take n).reverse
 |0,_=>by simp
 |n+1,h=>by
  have hl:n<l.length:=h;rw[my,im,jf,k5];have e:((λk=>n+1-1-k) ∘ zt)=λk=>n-1-k:=by
   funext k
   show n+1-1-(k+1)=n-1-k;lia
  rw[e,show n+1-1-0=n by lia,d4 hl];dsimp only;rw[Xd l n (by lia),i4,d4 hl,BM,qc];rfl
theorem vF:∀{xs:List V} {us:Za3},Ay xs us->Ay xs.reverse us.reverse:=λ{xs us} h=>by
 have key:∀(xs:List V) (us:Za3) (ys:List V) (vs:Za3),Ay xs us->Ay ys vs->Ay (xs.reverse++ys) (us.reverse++vs):=λxs=>by
  induction xs with
  |nil=>intro us ys vs h1 h2;cases h1;exact h2
  |cons x xs ih=>
   intro us ys vs h1 h2
   cases h1 with
   |cons r t=>
    rw[xt,xt,fm,fm];exact ih _ _ _ t (.cons r h2)
 have:=key xs us [] [] h .nil
 rwa [gy,gy] at this
def Acw (K:d6)(te:TE):TE:=λG H Q=>te G H λx H1=>∃a xs,x=.ref a/\SqL K H1 a xs/\∀p,H1 p=none->Q (.ref p) (upd H1 p (.lst xs.reverse))
section
variable {X:Cx} {e:i8} {te:TE} {pos p1 p2 p3:Pos}
theorem Aa5 {x1}(he:PE X e te):PE X (.Subscript e (.Slice none none (some (.UnaryOp .USub (.Constant (.int 1) x1 p1) p2)) p3) pos) (Acw X.K te):=by
 k_in;refine Subscript_ (thE he I h λv s1 x H1 I1 r1 q1=>?_);obtain⟨a,xs,rfl,hq,q⟩:=q1;obtain rfl:v=jb a:=r1;refine zw ?_;rw[vf];refine fq (fq ?_);rw[evalPart_some];have hm:PE X (.UnaryOp .USub (.Constant (.int 1) x1 p1) p2) (tUn (rU λi=>.int (-i)) (tC (.int 1))):=Fr C9 Ae;refine thn (hm pins s1 G H1 (λy H2=>y=.int (-1)/\H2=H1) I1 ⟨1,rfl,rfl,rfl⟩) λw s2 ⟨y,H2,I2,r2,e2,e3⟩=>?_;subst e2 e3;obtain⟨t,rfl⟩:=r2;have I4:Inv X pins G H2 { s2 with heap:=s2.heap.push { cls:=.type "slice",data:=.fields #[.none,.none,.int (-1) t] } }:=I2.kept (t':=s2.toks) λb ob q=>en _ q;obtain⟨its,r,pl,hz⟩:=I4.list hq;have e1:=r.length;show wpAny (model X.prog X.w) X.A (subscriptTail e (.Slice none none (some (.UnaryOp .USub (.Constant (.int 1) x1 p1) p2)) p3) (.ref a) (.ref s2.heap.objs.size)) (EP X pins G Q) X.xe { s2 with heap:=s2.heap.push { cls:=.type "slice",data:=.fields #[.none,.none,.int (-1) t] } };refine y4 (ops:=[.ref a,.ref s2.heap.objs.size]) pl.isList.typeIs ES ?_ (by with_unfolding_all rfl);refine ve pl.isList (uv ..) .none .none (.int (-1) t) (by intro z;have:=ee z;lia) ?_ (by rw[ge];lia);have hp:slicePick its.toArray none none (some (-1))=its.reverse.toArray:=by
  have:=Xd its its.length (d8 _);rw[fw (d8 _)] at this;rw[<-this,<-mC its.length];unfold slicePick;simp
 rw[hp];exact⟨.ref _,_,I4.lnew (t':=s2.toks) (vF r) (by rw[mw];exact hz),rfl,q _ (I4.hok.fresh (d8 _))⟩
theorem Ad6 {K:d6}{G:St}{Q:VK}(h:te G H λx H1=>∃a xs,x=.ref a/\SqL K H1 a xs/\∀p,H1 p=none->Q (.ref p) (upd H1 p (.lst xs.reverse))):Acw K te G H Q:=h
end
theorem rH (K:d6){e:i8}{f:Str}{ta:TE}(he:PE X e ta)(h:autoParam (X.K=K) QD)(hb:autoParam (attributeBase e f X.env (eval e X.env)=eval e X.env) QD):PE X (.Attribute e f pos) (Aaq K ta f):=by
 subst h;exact yW he hb
open PySem.W
def GD (K:FN)(x:Str)(st:iz):Prop:=∃(f:eg) (fd:jq),Fun K x x st f fd/\nsIn K mainGlobals x=some (some (.ref f))
def MD (K:FN)(C:eg)(x q:Str)(st:iz):Prop:=∃(f:eg) (fd:jq),Fun K x q st f fd/\findIn K (.ref C) x=some (some (.ref f))/\isFn K (.ref f)=true
def BD (K:FN)(C:eg)(x q:Str)(st:iz):Prop:=∃(f:eg) (fd:jq),Fun K x q st f fd/\findCls K (.ref C) (.type "type") x=some (.val (.ref f))
structure CD (K:FN) (C:eg) (x:Str):Prop where
 a:nsIn K mainGlobals x=some (some (.ref C))
 ma:makesIn K C=true
 kc:keepIn K (.ref C)=true
structure BC (K:FN) (C:eg) (x:Str):Prop where
 a:nsIn K mainGlobals x=some (some (.ref C))
 bg:specialIn K (.ref C) "__getattribute__"=some (some (.builtin "type.__getattribute__"))
 br:readsIn K C (.type "type")=true
def noB:Option (Za7)->Bool
 |some none=>true
 |_=>false
structure FD (K:FN) (C:eg) (fs:Za6):Prop where
 cl:Cls K C
 al:(fs.all λf=>noB (findIn K (.ref C) f))=true
section
variable {P:gl} {w:iq} {K:FN} {mg:Za2} {base h:jj} {x q:Str} {st:iz} {f C:eg} {oc:fh} {od an:Option eg} {osl:Array (Za7)} {kV doc pm cdv ct:fh} {fs ps:Za6} {k:Nat} {sp:Sp}
theorem gD (a:nsIn K mainGlobals x=some (some (.ref f)))(l:K.lookup f=some ⟨oc,od,.func (fnOf x x (B2 st) (Bk st) (Ac st) .none kV doc pm an cdv ct),osl⟩)(c:codeIn K cdv x=true)(k:keepIn K (.ref f)=true):GD K x st:=⟨f,_,nN l c k,a⟩
theorem mD (a:findIn K (.ref C) x=some (some (.ref f)))(i:isFn K (.ref f)=true)(l:K.lookup f=some ⟨oc,od,.func (fnOf x q (B2 st) (Bk st) (Ac st) .none kV doc pm an cdv ct),osl⟩)(c:codeIn K cdv q=true)(k:keepIn K (.ref f)=true):MD K C x q st:=⟨f,_,nN l c k,a,i⟩
theorem bD (a:findCls K (.ref C) (.type "type") x=some (.val (.ref f)))(l:K.lookup f=some ⟨oc,od,.func (fnOf x q (B2 st) (Bk st) (Ac st) .none kV doc pm an cdv ct),osl⟩)(c:codeIn K cdv q=true)(k:keepIn K (.ref f)=true):BD K C x q st:=⟨f,_,nN l c k,a⟩
theorem fD (pg:plainGet K C ym=true)(hd:hasDictIn K C=true)(po:plainOver K C=true)(sa:findIn K (.ref C) "__setattr__"=some (some (.builtin "object.__setattr__")))(al:(fs.all λf=>noB (findIn K (.ref C) f))=true):FD K C fs:=⟨⟨pg,hd,po,sa⟩,al⟩
theorem FD.no (D:FD K C fs)(i:Nat){g:Str}(h:autoParam (fs[i]?=some g) QD):Bg K C g:=by
 have:=mj.mp D.al g (f8 h);show findIn K (.ref C) g=some none
 cases e:findIn K (.ref C) g with
 |none=>rw[e] at this;cases this
 |some o=>
  cases o with
  |none=>rfl
  |some v=>rw[e] at this;cases this
def Cur:Nat->(Za3->Prop)->Prop
 |0,P=>P []
 |n+1,P=>∀a,Cur n λl=>P (a::l)
theorem Cur.all:∀{n:Nat} {P:Za3->Prop},Cur n P->∀us:Za3,us.length=n->P us
 |0,_,h,[],_=>h
 |n+1,_,h,a::l,e=>Cur.all (n:=n) (h a) l (ug e)
abbrev L5 (x q:Str)(st:iz)(ps:Za6):Prop:=∀(kV doc pm:fh) (an:Option eg) (cdv ct:fh),Cur ps.length λus=>bindArgs (fnOf x q (B2 st) (Bk st) (Ac st) .none kV doc pm an cdv ct) ⟨us,[]⟩=pure (ps.zip us)
theorem Fun.bd (F:Fun K x q st f fd)(hb:L5 x q st ps):Fm K fd ps []:=F.binds λa b c d e g=>(hb a b c d e g).all
theorem GD.cal (X:K.In h)(G:h.Ns mainGlobals mg)(g:GD K x st)(ok:∀{f fd},Fun K x x st f fd->Ar P w K mg base CX0 k f fd ps sp)
  (hb:autoParam (L5 x x st ps) QL):Cal P w K mg base x k ps sp:=
 let ⟨f,fd,F,a⟩:=g
 ⟨⟨f,fd,ok F,F.bd hb,mg_of X G a,F.kp⟩⟩
theorem MD.mth (c:Cls K C)(g:MD K C x q st)(ok:∀{f fd},Fun K x q st f fd->Ar P w K mg base CX0 k f fd ps sp)
  (hb:autoParam (L5 x q st ps) QL):Mth P w K mg base C x k ps sp:=
 let ⟨f,fd,F,a,i⟩:=g
 ⟨⟨f,fd,ok F,F.bd hb,⟨a,i,F.kp⟩⟩,c⟩
theorem MD.mkr {y:Str}(X:K.In h)(G:h.Ns mainGlobals mg)(c:CD K C y)(g:MD K C "__init__" q st)(ok:∀{f fd},Fun K "__init__" q st f fd->Ar P w K mg base CX0 k f fd ps sp)
  (hb:autoParam (L5 "__init__" q st ps) QL):Mkr P w K mg base y C k ps sp:=
 let ⟨f,fd,F,a,i⟩:=g
 ⟨⟨f,fd,ok F,F.bd hb,⟨c.ma,a,i,c.kc⟩,mg_of X G c.a⟩⟩
theorem BD.calC {y:Str}(X:K.In h)(G:h.Ns mainGlobals mg)(c:BC K C y)(g:BD K C x q st)(ok:∀{f fd},Fun K x q st f fd->Ar P w K mg base CX0 k f fd ps sp)
  (hb:autoParam (L5 x q st ps) QL):Abi P w K mg base y x k ps sp:=
 let ⟨f,fd,F,a⟩:=g
 ⟨⟨C,f,fd,ok F,F.bd hb,mg_of X G c.a,c.bg,c.br,a,F.kp⟩⟩
end
end L2
end
section
namespace TW
theorem qN {ds:Za4}{v:Nat}:∀{i j:Nat},v<j->j<=i->(v:Int)∈way ds i->(v:Int)∈way ds j
 |0,j,h1,h2,_=>by lia
 |i+1,j,h1,h2,h=>by
  by_cases e:j=i+1
  ·rw[e];exact h
  ·have h:(v:Int)∈(way ds i).take (dAt ds i+1)++[(i:Int)]:=h
   rcases il.mp h with h|h
   ·exact qN h1 (by lia) (n8 h)
   ·have:=fz.mp h
    lia
theorem Aet {ds:Za4}(h:Dok ds){i j:Nat}{v:Int}(hi:i<ds.length)(e:eld ds i=v)(h1:v<j)(h2:j<i):v<=eld ds j:=by
 by_cases hv:v=-1
 ·rw[hv];exact Aac h (by lia)
 obtain⟨w,hw,hwi,_⟩:=L1 h hi (by rw[e];exact hv);have hwv:v=(w:Int):=by rw[<-e,hw]
 subst hwv;have hm:(w:Int)∈way ds i:=by rw[<-e];exact f8 (Ia h hi)
 have hm2:(w:Int)∈(way ds j).take (dAt ds j+1)++[(j:Int)]:=qN (i:=i) (j:=j+1) (by lia) (by lia) hm;rcases il.mp hm2 with hm3|hm3
 ·obtain⟨a,ha⟩:=j6 hm3
  have hlt:=(fc.mp ha).1;rw[fi] at hlt;rw[gj (by lia)] at ha;have hea:=Ia h (show j<ds.length by lia)
  by_cases hd:a=dAt ds j
  ·rw[hd,hea] at ha
   have:=ee ha;lia
  ·have:=K8 h j a (dAt ds j) _ _ (by lia) (by lia) ha hea
   lia
 ·have:=fz.mp hm3
  lia
def jD (ds:Za4)(k:Nat):Nat->Nat->Nat
 |0,j=>j
 |m+1,j=>if(k:Int)<=eld ds j then jD ds k m (j+1) else j
def Bv (ds:Za4)(k:Nat):Nat:=jD ds k (ds.length-(k+1)) (k+1)
theorem oS (ds:Za4)(k:Nat):∀m j,k<j->(∀i,k<i->i<j->(k:Int)<=eld ds i)->j<=jD ds k m j/\jD ds k m j<=j+m/\(∀i,k<i->i<jD ds k m j->(k:Int)<=eld ds i)/\(jD ds k m j<j+m->eld ds (jD ds k m j)<k)
 |0,j,h1,h2=>⟨d8 _,d8 _,h2,λh=>absurd h (ln _)⟩
 |m+1,j,h1,h2=>by
  unfold jD
  by_cases h:(k:Int)<=eld ds j
  ·rw[if_pos h]
   obtain⟨a,b,c,d⟩:=oS ds k m (j+1) (by lia) (λi h3 h4=>by
    by_cases e:i=j
    ·rw[e];exact h
    ·exact h2 i h3 (by lia))
   exact⟨by lia,by lia,c,λh5=>d (by lia)⟩
  ·rw[if_neg h]
   exact⟨d8 _,by lia,h2,λ_=>by lia⟩
theorem Ds {ds:Za4}{k:Nat}(hk:k<ds.length):k<Bv ds k/\Bv ds k<=ds.length/\(∀i,k<i->i<Bv ds k->(k:Int)<=eld ds i)/\(Bv ds k<ds.length->eld ds (Bv ds k)<k):=by
 obtain⟨a,b,c,d⟩:=oS ds k (ds.length-(k+1)) (k+1) (by lia) (λi h1 h2=>by lia);unfold Bv;exact⟨by lia,by lia,c,λh=>d (by lia)⟩
theorem Aa6 {ds:Za4}(h:Dok ds){k i:Nat}(hk:k<ds.length)(h1:Bv ds k<=i)(h2:i<ds.length):eld ds i<k\/(Bv ds k:Int)<=eld ds i:=by
 obtain⟨a,b,c,d⟩:=Ds (ds:=ds) hk
 by_cases e:i=Bv ds k
 ·left;rw[e];exact d (by lia)
 ·by_cases z:eld ds i<k
  ·exact .inl z
  ·right
   by_cases y:(Bv ds k:Int)<=eld ds i
   ·exact y
   ·have:=Aet h h2 rfl (show eld ds i<(Bv ds k:Nat) by lia) (by lia)
    have:=d (by lia);lia
theorem qS {p q:Nat->Bool}:∀{l:Za4},(∀i∈l,p i=true->q i=true)->(l.filter p).length<=(l.filter q).length
 |[],_=>d8 _
 |x::r,h=>by
  have ih:=qS (l:=r) λi hi=>h i (by simp[hi]);have hx:=h x (by simp);rw[jd,jd];cases hp:p x<;>cases hq:q x
  ·exact ih
  ·simp only[jy,if_false,if_true,gn];lia
  ·rw[hp] at hx;rw[hx rfl] at hq;cases hq
  ·simp only[if_true,gn];lia
theorem T8 {ds:Za4}(h:Dok ds){k:Nat}(hk:k<ds.length):∀i,k<i->i<Bv ds k->dAt ds k<dAt ds i:=λi=>by
 obtain⟨a,b,c,d⟩:=Ds (ds:=ds) hk
 induction i using Nat.strongRecOn with
 |_ i ih=>
  intro h1 h2;have h3:=c i h1 h2;obtain⟨v,hv,hvi,hd⟩:=L1 h (show i<ds.length by lia) (by lia)
  by_cases e:v=k
  ·rw[hd,e];lia
  ·have:=ih v hvi (by lia) (by lia)
   lia
def Os (ds:Za4)(k:Nat):Za4:=(fb (Bv ds k-k)).map λi=>dAt ds (k+i)-dAt ds k
theorem Mn (ds:Za4)(k:Nat):(Os ds k).length=Bv ds k-k:=by unfold Os;rw[d7,fe]
theorem eI {ds:Za4}{k i:Nat}(h:i<Bv ds k-k):dAt (Os ds k) i=dAt ds (k+i)-dAt ds k:=by
 unfold dAt Os ju;rw[d9,gd h];rfl
theorem Abf {ds:Za4}(h:Dok ds){k:Nat}(hk:k<ds.length):Dok (Os ds k):=λi hi=>by
 obtain⟨a,b,c,d⟩:=Ds (ds:=ds) hk;rw[Mn] at hi;rw[eI hi]
 cases i with
 |zero=>show _<=0;rw[m7,j0];exact d8 _
 |succ i=>
  show _<=dAt (Os ds k) i+1;rw[eI (by lia)];have h1:dAt ds (k+(i+1))<=dAt ds (k+i)+1:=h (k+(i+1)) (by lia)
  by_cases e:i=0
  ·subst e
   rw[m7] at *;lia
  ·have:=T8 h hk (k+i) (by lia) (by lia)
   lia
end TW
end
section
namespace L2
open PySem PySem.Spec PyProof.Rows
variable {C CB CC CO CP Pt dx i1 i2 it l1 l2:eg} {params:mv} {A:i9} {items:Array fh} {op:vb} {X:Cx} {D:Ie} {env:Env} {tg:i8} {fd:jq} {base h h':jj} {H H' H0 H1 H2:Hp} {J:It} {pins:Za1} {as fp:List eg} {ns ws:List Int} {cs ix:Za4} {N kz nm ps:Za6} {xs:List V} {us vs:Za3} {M:wc} {d n t':Nat} {oT:Obj} {an od:Option eg} {lpos pos pos2:Pos} {scope:nh} {pl:Sem Bool} {s s2:fv} {sp:Sp} {fr:St} {qual z:Str} {te:TE} {wi:TI} {y:V} {cdv ct doc oc pm:fh} {w:iq}
end L2
end
section
namespace TW
def rwH:Nat->Za4->Za5
 |h,[]=>fg h false
 |h,d::ds=>fg (h-d) false++true::rwH (d+1) ds
def dk:Nat->Za4->Prop
 |_,[]=>True
 |h,d::ds=>d<=h/\dk (d+1) ds
def R4:Nat->Za4->Nat
 |h,[]=>h
 |_,d::ds=>R4 (d+1) ds
def gF (B:Za4)(off:Nat):Prop:=∀d C,B=d::C->d<=off
theorem zC {ds:Za4}{k:Nat}(h:k<ds.length):ds.drop k=dAt ds k::ds.drop (k+1):=by
 rw[ny h];unfold dAt ju;rw[d4 h];rfl
theorem jF {ds:Za4}:∀(m k:Nat),k+m=ds.length->((fb m).map λi=>Bh ds (k+i)).flatten++fg (opn ds ds.length) false=rwH (opn ds k) (ds.drop k)
 |0,k,e=>by
  obtain rfl:k=ds.length:=by lia
  rw[ji (d8 _)];rfl
 |m+1,k,e=>by
  have ih:=jF (ds:=ds) m (k+1) (by lia);rw[my,im,jf,jl,zC (by lia)];have e1:((λi=>Bh ds (k+i)) ∘ zt)=λi=>Bh ds (k+1+i):=by
   funext i
   show Bh ds (k+(i+1))=Bh ds (k+1+i);rw[show k+(i+1)=k+1+i by lia]
  rw[e1,fm,ih];show(fg (opn ds k-dAt ds (k+0)) false++[true])++_=fg (opn ds k-dAt ds k) false++true::rwH (dAt ds k+1) _;rw[m7,fm];rfl
theorem oB (ds:Za4):B1 ds=rwH 0 ds:=by
 have:=jF (ds:=ds) ds.length 0 (by lia);unfold B1 Tg;have e:(λi=>Bh ds (0+i))=Bh ds:=by funext i;rw[m5]
 rw[e] at this;exact this
theorem Zl:∀(B:Za4) (h:Nat),(∀k,k<B.length->dAt B k<=if k=0 then h else dAt B (k-1)+1)->dk h B
 |[],_,_=>trivial
 |d::B,h,hh=>⟨hh 0 (by simp),Zl B (d+1) λk hk=>by
  have:=hh (k+1) (by simp;exact hk);rw[if_neg (by lia)] at this
  cases k with
  |zero=>exact this
  |succ k=>exact this⟩
theorem Acx:∀(B:Za4) (h:Nat),dk h B->∀k,k<B.length->dAt B k<=if k=0 then h else dAt B (k-1)+1
 |d::B,h,hh,0,_=>hh.1
 |d::B,h,hh,k+1,hk=>by
  have:=Acx B (d+1) hh.2 k (by simp at hk;exact hk);rw[if_neg (by lia)]
  cases k with
  |zero=>exact this
  |succ k=>exact this
theorem eH {ds:Za4}:Dok ds↔dk 0 ds:=by
 constructor
 ·intro h
  refine Zl ds 0 λk hk=>?_;have:=h k hk
  cases k with
  |zero=>exact this
  |succ k=>rw[if_neg (by lia)];exact this
 ·intro h k hk
  have:=Acx ds 0 h k hk
  cases k with
  |zero=>exact this
  |succ k=>rw[if_neg (by lia)] at this;exact this
theorem Xg:∀(A B:Za4) (h:Nat),dk h (A++B)↔dk h A/\dk (R4 h A) B
 |[],B,h=>⟨λe=>⟨trivial,e⟩,λe=>e.2⟩
 |d::A,B,h=>by
  have ih:=Xg A B (d+1);exact⟨λe=>⟨⟨e.1,(ih.mp e.2).1⟩,(ih.mp e.2).2⟩,λe=>⟨e.1.1,ih.mpr ⟨e.1.2,e.2⟩⟩⟩
theorem Ag4 {B:Za4}{h h' off:Nat}(hB:dk h B)(hd:gF B off)(ho:off<=h'):dk h' B:=by
 cases B with
 |nil=>trivial
 |cons d B=>exact⟨ir (hd d B rfl) ho,hB.2⟩
theorem zY:∀(A:Za4),R4 0 A=opn A A.length:=by
 have key:∀(A:Za4) (h:Nat),R4 h A=if A.length=0 then h else dAt A (A.length-1)+1:=by
  intro A
  induction A with
  |nil=>intro h;rfl
  |cons d A ih=>
   intro h;show R4 (d+1) A=_;rw[ih (d+1)]
   cases A with
   |nil=>rfl
   |cons c A=>rfl
 intro A;rw[key A 0]
 cases h:A.length with
 |zero=>rfl
 |succ n=>rw[if_neg (by lia)];rfl
theorem Ad3 {off:Nat}{E B:Za4}(hE:dk 0 E)(hB:gF B off):gF (E.map (·+off)++B) off:=by
 intro d C e
 cases E with
 |nil=>exact hB d C e
 |cons c E=>
  have:=hE.1;have e:c+off=d:=(qz e).1;lia
theorem Adt {A E B:Za4}{off:Nat}(h:dk 0 (A++(E.map (·+off)++B)))(ho:off<=R4 0 A)(hB:gF B off):dk 0 (A++B):=by
 obtain⟨h1,h2⟩:=(Xg A _ 0).mp h;exact(Xg _ _ _).mpr ⟨h1,Ag4 ((Xg _ _ _).mp h2).2 hB ho⟩
theorem rA (a b:Nat):fg (a+b) false=fg a false++fg b false:=by rw[List.replicate_append_replicate]
theorem eW {h off:Nat}{B:Za4}(ho:off<=h)(hB:gF B off):rwH h B=fg (h-off) false++rwH off B:=by
 cases B with
 |nil=>
  show fg h false=fg (h-off) false++fg off false;rw[<-rA,t8 ho]
 |cons d B=>
  have:=hB d B rfl;show fg (h-d) false++_=fg (h-off) false++(fg (off-d) false++_);rw[<-fm,<-rA,show h-off+(off-d)=h-d by lia]
theorem yU {off:Nat}{B:Za4}(hB:gF B off):∀(E:Za4) (h:Nat),dk h E->rwH (h+off) (E.map (·+off)++B)=rwH h E++rwH off B
 |[],h,_=>by
  show rwH (h+off) B=fg h false++_;rw[eW (by lia) hB,nq]
 |d::E,h,hh=>by
  have ih:=yU hB E (d+1) hh.2;show fg (h+off-(d+off)) false++true::rwH (d+off+1) (E.map (·+off)++B)=(fg (h-d) false++true::rwH (d+1) E)++_;rw[show d+off+1=d+1+off by lia,ih,BO,fm];rfl
theorem xT:∀(A:Za4) (h:Nat),dk h A->∃P:Za5,P.length+R4 h A=h+2*A.length/\P.count true=A.length/\∀B,rwH h (A++B)=P++rwH (R4 h A) B
 |[],h,_=>⟨[],by show 0+h=h+2*0;lia,rfl,λB=>rfl⟩
 |d::A,h,hh=>by
  obtain⟨P,p1,p2,p3⟩:=xT A (d+1) hh.2;refine⟨fg (h-d) false++true::P,?_,?_,λB=>?_⟩
  ·have:=hh.1
   rw[eh,lg,gn,gn];show h-d+(P.length+1)+R4 (d+1) A=_;lia
  ·rw[n9,n4,p2,BU]
   simp
  ·show fg (h-d) false++true::rwH (d+1) (A++B)=_
   rw[p3,fm];rfl
theorem qG {A E B:Za4}{off:Nat}(hA:dk 0 A)(hE:dk 0 E)(ho:off<=R4 0 A)(hB:gF B off):∃P S:Za5,P.length+off=2*A.length/\P.count true=A.length/\B1 (A++(E.map (·+off)++B))=P++(B1 E++S)/\B1 (A++B)=P++S:=by
 obtain⟨P,p1,p2,p3⟩:=xT A 0 hA;refine⟨P++fg (R4 0 A-off) false,rwH off B,?_,?_,?_,?_⟩
 ·rw[eh,lg]
  lia
 ·rw[n9,p2,BU]
  simp
 ·rw[oB,oB,p3,eW ho (Ad3 hE hB),fm]
  have:=yU hB E 0 hE;rw[m5] at this;rw[this]
 ·rw[oB,p3,eW ho hB,fm]
theorem vB {ds:Za4}(h:Dok ds){k:Nat}(hk:k<ds.length):∀d,k+1+d<=Bv ds k->(way ds (k+1+d))[dAt ds k+1]?=some (k:Int)
 |0,_=>by
  have hl:=Cc h k (by lia);have hd:=h k hk;show((way ds k).take (dAt ds k+1)++[(k:Int)])[dAt ds k+1]?=_;rw[ft (by rw[fi];lia),fi,io (by lia),j0];rfl
 |d+1,hd=>by
  have ih:=vB h hk d (by lia);obtain⟨a,b,c,_⟩:=Ds (ds:=ds) hk;have hl:=Cc h (k+1+d) (by lia);have h2:=h (k+1+d) (by lia);have h3:=T8 h hk (k+1+d) (by lia) (by lia);show((way ds (k+1+d)).take (dAt ds (k+1+d)+1)++[((k+1+d:Nat):Int)])[dAt ds k+1]?=_;rw[f7 (by rw[fi];lia),gj (by lia)];exact ih
theorem Acj {ds:Za4}(h:Dok ds){k:Nat}(hk:k<ds.length)(he:Bv ds k<ds.length):dAt ds (Bv ds k)<=dAt ds k:=by
 obtain⟨a,b,c,d⟩:=Ds (ds:=ds) hk;have h1:=d he;have h2:=vB h hk (Bv ds k-(k+1)) (by lia);rw[show k+1+(Bv ds k-(k+1))=Bv ds k by lia] at h2;have h3:=Ia h he
 by_cases hlt:dAt ds (Bv ds k)<=dAt ds k
 ·exact hlt
 ·exfalso
  by_cases e:dAt ds (Bv ds k)=dAt ds k+1
  ·rw[e,h2] at h3
   have:=ee h3;lia
  ·have:=K8 h _ _ _ _ _ b (show dAt ds k+1<dAt ds (Bv ds k) by lia) h2 h3
   lia
def Ee (ds:Za4)(k:Nat):Za4:=(fb (Bv ds k-(k+1))).map λi=>dAt ds (k+1+i)-(dAt ds k+1)
theorem Im (ds:Za4)(k:Nat):(Ee ds k).length=Bv ds k-(k+1):=by unfold Ee;rw[d7,fe]
theorem mR {ds:Za4}{k i:Nat}(h:i<Bv ds k-(k+1)):dAt (Ee ds k) i=dAt ds (k+1+i)-(dAt ds k+1):=by
 unfold dAt Ee ju;rw[d9,gd h];rfl
theorem Px {ds:Za4}(h:Dok ds){k:Nat}(hk:k<ds.length):Dok (Ee ds k):=λi hi=>by
 obtain⟨a,b,c,d⟩:=Ds (ds:=ds) hk;rw[Im] at hi;rw[mR hi];have h1:=h (k+1+i) (by lia)
 cases i with
 |zero=>
  have h1:dAt ds (k+1+0)<=dAt ds k+1:=h1;show _<=0;lia
 |succ i=>
  show _<=dAt (Ee ds k) i+1;rw[mR (by lia)];have h1:dAt ds (k+1+(i+1))<=dAt ds (k+1+i)+1:=h1;have:=T8 h hk (k+1+i) (by lia) (by lia);lia
theorem mX {ds:Za4}{a b:Nat}(h1:a<=b)(h2:b<=ds.length):ds=ds.take a++((ds.drop a).take (b-a)++ds.drop b):=by
 have e1:=(jn a ds).symm;have e2:=(jn (b-a) (ds.drop a)).symm;rw[ph,show a+(b-a)=b by lia] at e2;rw[e2] at e1;exact e1
theorem Aaj {ds es:Za4}{a b off:Nat}(h1:a<=b)(h2:b<=ds.length)(hl:es.length=b-a)(he:∀i,i<b-a->dAt ds (a+i)=dAt es i+off):(ds.drop a).take (b-a)=es.map (·+off):=by
 refine l8 λi=>?_
 by_cases hi:i<b-a
 ·have e:=he i hi
  unfold dAt ju at e;rw[d4 (show a+i<ds.length by lia),d4 (show i<es.length by lia)] at e;rw[gj hi,i5,d9,d4 (show a+i<ds.length by lia),d4 (show i<es.length by lia)];exact congrArg some e
 ·rw[ij (by rw[fi];lia),ij (by rw[d7];lia)]
theorem uJ {ds:Za4}(h:Dok ds){k:Nat}(hk:k<ds.length):ds=ds.take k++((Os ds k).map (·+dAt ds k)++ds.drop (Bv ds k)):=by
 obtain⟨a,b,c,d⟩:=Ds (ds:=ds) hk;have:=mX (ds:=ds) (a:=k) (b:=Bv ds k) (by lia) b;rw[Aaj (es:=Os ds k) (off:=dAt ds k) (by lia) b (Mn _ _) λi hi=>?_] at this
 ·exact this
 ·rw[eI hi]
  cases i with
  |zero=>show _=dAt ds (k+0)-dAt ds k+dAt ds k;rw[m7];lia
  |succ i=>
   have:=T8 h hk (k+(i+1)) (by lia) (by lia);lia
theorem Aak {ds:Za4}{a off:Nat}(h:a<ds.length->dAt ds a<=off):gF (ds.drop a) off:=by
 intro d C e
 by_cases ha:a<ds.length
 ·rw[zC ha] at e
  rw[<-(qz e).1];exact h ha
 ·rw[ji (by lia)] at e
  cases e
theorem Aag {ds:Za4}{a:Nat}(ha:a<=ds.length):R4 0 (ds.take a)=opn ds a:=by
 rw[zY,fi,io ha]
 cases a with
 |zero=>rfl
 |succ a=>
  show dAt (ds.take (a+1)) a+1=dAt ds a+1;unfold dAt ju;rw[gj (by lia)]
def Afm (ds:Za4)(k:Nat):Za4:=ds.take k++ds.drop (Bv ds k)
theorem Ack {ds:Za4}(h:Dok ds){k:Nat}(hk:k<ds.length):Dok (Afm ds k)/\∃P S:Za5,P.length+dAt ds k=2*k/\P.count true=k/\B1 ds=P++(B1 (Os ds k)++S)/\B1 (Afm ds k)=P++S:=by
 obtain⟨a,b,c,d⟩:=Ds (ds:=ds) hk;have hs:=uJ h hk;have hd:=eH.mp h;have ho:dAt ds k<=R4 0 (ds.take k):=by rw[Aag (by lia)];exact h k hk
 have hB:gF (ds.drop (Bv ds k)) (dAt ds k):=Aak λhe=>Acj h hk he;rw[hs] at hd;obtain⟨P,S,p1,p2,p3,p4⟩:=qG ((Xg _ _ _).mp hd).1 (eH.mp (Abf h hk)) ho hB;rw[fi,io (by lia)] at p1 p2;rw[<-hs] at p3;exact⟨eH.mpr (Adt hd ho hB),P,S,p1,p2,p3,p4⟩
def hg (l:Za5)(i:Nat):Int:=2*((l.take i).count true:Int)-i
theorem Mw (b:Bool)(l:Za5)(i:Nat):hg (b::l) (i+1)=(if b then 1 else -1)+hg l i:=by
 unfold hg;rw[List.take_succ_cons,n4];cases b<;>simp<;>lia
theorem dY {P X:Za5}(i:Nat):hg (P++X) (P.length+i)=hg P P.length+hg X i:=by
 unfold hg;rw[DZ,fw (show P.length<=P.length+i by lia),p9,n9,iy];lia
theorem oO {P X:Za5}{i:Nat}(h:i<=P.length):hg (P++X) i=hg P i:=by
 unfold hg;rw[jp h]
theorem uS:∀(l:Za5) (h:Nat),Vs h l->(∀i,i<=l.length->0<=(h:Int)+hg l i)/\(h:Int)+hg l l.length=0
 |[],h,hv=>by
  have hv:h=0:=hv;subst hv;refine⟨λi hi=>?_,rfl⟩;obtain rfl:i=0:=by simpa using hi
  exact yy _
 |true::l,h,hv=>by
  obtain⟨h1,h2⟩:=uS l (h+1) hv;refine⟨λi hi=>?_,?_⟩
  ·cases i with
   |zero=>show(0:Int)<=h+(2*0-0);lia
   |succ i=>
    have:=h1 i (by simp at hi;lia);rw[Mw];simp only[if_true];lia
  ·rw[gn,Mw]
   simp only[if_true];lia
 |false::l,h,hv=>by
  obtain⟨h0,hv⟩:=hv;obtain⟨g,rfl⟩:∃g,h=g+1:=⟨h-1,by lia⟩;obtain⟨h1,h2⟩:=uS l g hv;refine⟨λi hi=>?_,?_⟩
  ·cases i with
   |zero=>show(0:Int)<=_+(2*0-0);lia
   |succ i=>
    have:=h1 i (by simp at hi;lia);rw[Mw];simp only[jy,if_false];lia
  ·rw[gn,Mw]
   simp only[jy,if_false];lia
theorem U8 {ds:Za4}(h:Dok ds):(∀i,i<=2*ds.length->0<=hg (B1 ds) i)/\hg (B1 ds) (2*ds.length)=0:=by
 have:=uS _ _ (mY h);rw[D4 h] at this;exact⟨λi hi=>by have:=this.1 i hi;lia,by have:=this.2;lia⟩
theorem Afu {P:Za5}{a off:Nat}(h1:P.length+off=2*a)(h2:P.count true=a):hg P P.length=off:=by
 unfold hg;rw[p9,h2];lia
theorem Aca {ds:Za4}(h:Dok ds){k:Nat}(hk:k<ds.length):B1 (Os ds k)=true::(B1 (Ee ds k)++[false]):=by
 obtain⟨a,b,c,d⟩:=Ds (ds:=ds) hk;have hu:=Px h hk;have e:Os ds k=[0]++((Ee ds k).map (·+1)++[]):=by
  rw[gy];refine l8 λi=>?_
  by_cases hi:i<Bv ds k-k
  ·have e1:=eI hi
   unfold dAt ju at e1;rw[d4 (show i<(Os ds k).length by rw[Mn];exact hi)] at e1;rw[d4 (show i<(Os ds k).length by rw[Mn];exact hi)];have e1:(Os ds k)[i]'(by rw[Mn];exact hi)=dAt ds (k+i)-dAt ds k:=e1;rw[e1]
   cases i with
   |zero=>rw[m7,j0];rfl
   |succ i=>
    have e2:=mR (ds:=ds) (k:=k) (i:=i) (by lia);unfold dAt ju at e2;rw[d4 (show i<(Ee ds k).length by rw[Im];lia)] at e2;have e2:(Ee ds k)[i]'(by rw[Im];lia)=dAt ds (k+1+i)-(dAt ds k+1):=e2;show _=((Ee ds k).map (·+1))[i]?;rw[d9,d4 (show i<(Ee ds k).length by rw[Im];lia),e2];have:=T8 h hk (k+1+i) (by lia) (by lia);show some _=some (dAt ds (k+1+i)-(dAt ds k+1)+1);rw[show k+(i+1)=k+1+i by lia];congr 1;lia
  ·rw[ij (by rw[Mn];lia),ij (by rw[eh,d7,Im];simp only[gn,jt];lia)]
 obtain⟨P,S,p1,p2,p3,p4⟩:=qG (A:=[0]) (B:=[]) (off:=1) (show dk 0 [0] from⟨d8 _,trivial⟩) (eH.mp hu) (d8 _) (λd C e=>by cases e);rw[e,p3];have p5:P++S=[true,false]:=p4.symm;have p1:P.length=1:=by simp only[gn,jt] at p1;lia
 match P,p1 with
 |[x],_=>
  have e1:x=true:=(qz p5).1;have e2:S=[false]:=(qz p5).2;rw[e1,e2];rfl
theorem jX {ds:Za4}(h:Dok ds){k:Nat}(hk:k<ds.length):∃P S:Za5,P.length+dAt ds k=2*k/\P.count true=k/\B1 ds=P++(true::(B1 (Ee ds k)++false::S))/\B1 (Afm ds k)=P++S:=by
 obtain⟨_,P,S,p1,p2,p3,p4⟩:=Ack h hk;refine⟨P,S,p1,p2,?_,p4⟩;rw[p3,Aca h hk];show P++(true::((B1 (Ee ds k)++[false])++S))=_;rw[fm];rfl
theorem Mc {ds:Za4}(h:Dok ds){k:Nat}(hk:k<ds.length):dAt ds k<=2*k/\(B1 ds)[2*k-dAt ds k]?=some true/\((B1 ds).take (2*k-dAt ds k)).count true=k:=by
 obtain⟨P,S,p1,p2,p3,_⟩:=jX h hk;have e:2*k-dAt ds k=P.length:=by lia
 refine⟨by lia,?_,?_⟩
 ·rw[p3,e,ft (d8 _),j0]
  rfl
 ·rw[p3,e,List.take_left,p2]
theorem Tk {ds:Za4}(h:Dok ds){k:Nat}(hk:k<ds.length):∃A B:Za5,A.length=2*k-dAt ds k+1/\B1 ds=A++(B1 (Ee ds k)++B)/\dAt ds k<=2*k/\hg (B1 ds) (2*k-dAt ds k)=dAt ds k/\(∀j,j<=2*(Ee ds k).length->hg (B1 ds) (A.length+j)=dAt ds k+1+hg (B1 (Ee ds k)) j)/\hg (B1 ds) (A.length+2*(Ee ds k).length+1)=dAt ds k:=by
 obtain⟨P,S,p1,p2,p3,_⟩:=jX h hk;have hu:=Px h hk;have hl:=D4 hu;have hP:=Afu p1 p2;have hA:hg (P++[true]) (P++[true]).length=dAt ds k+1:=by
  rw[eh,dY,hP];show(dAt ds k:Int)+hg [true] 1=_;rw[Mw];simp[hg]
 have e:B1 ds=(P++[true])++(B1 (Ee ds k)++false::S):=by rw[p3,fm];rfl
 refine⟨P++[true],false::S,by rw[eh];show P.length+1=_;lia,e,by lia,?_,λj hj=>?_,?_⟩
 ·rw[p3,show 2*k-dAt ds k=P.length by lia,oO (d8 _),hP]
 ·rw[e,dY,hA,oO (by lia)]
 ·rw[e,l6,dY,hA,<-hl,dY]
  have e1:=(U8 hu).2;rw[<-hl] at e1;rw[e1,Mw];simp[hg];lia
end TW
end
section
namespace L2
open PySem PySem.Spec PyProof.Rows
variable {C CB CC CO CP Pt dx i1 i2 it l1 l2:eg} {params:mv} {A:i9} {items:Array fh} {op:vb} {X:Cx} {D:Ie} {env:Env} {tg:i8} {fd:jq} {base h h':jj} {H H' H0 H1 H2:Hp} {J:It} {pins:Za1} {as fp:List eg} {ns ws:List Int} {cs ix:Za4} {N kz nm ps:Za6} {xs:List V} {us vs:Za3} {M:wc} {d n t':Nat} {oT:Obj} {an od:Option eg} {lpos pos pos2:Pos} {scope:nh} {pl:Sem Bool} {s s2:fv} {sp:Sp} {fr:St} {qual z:Str} {te:TE} {wi:TI} {y:V} {cdv ct doc oc pm:fh} {w:iq}
theorem Agz:bootBuiltins "all"=some (.builtin "all"):=by decide +kernel
theorem iU:∀{bs:Za5} {us:Za3},Ay (bs.map V.bl) us->LSm.BoolsAre us bs
 |[],_,.nil=>.nil
 |b::bs,_,.cons hu hr=>by
  cases hu;exact .cons b (iU hr)
section
variable {X:Cx}
def Ah7 (K:d6):List V->Hp->VK->Prop:=λxs H Q=>∃(p:eg) (bs:Za5),xs=[.ref p]/\SqL K H p (bs.map V.bl)/\Q (.bl (bs.all id)) H
theorem wQ (hc:X.calm=true):Ev X (.builtin "all") (Ah7 X.K):=by
 intro pins s G H xs us Q I r h;obtain⟨p,bs,rfl,hp,q⟩:=h;obtain⟨u,rfl,ru⟩:=Fh r;cases ru;obtain⟨its,rv,pl,_⟩:=I.list hp;have hb:=iU rv;have hl:=pl.isList;have hlt:p<s.heap.objs.size:=by obtain⟨_,e,_⟩:=hl;exact fu e
 refine call_all_walk (y3 hl ⟨s.heap.objs.size,[s.heap.objs.size,p],[s.heap.objs.size],its.toArray.size,_,_,λi=>(bs[i]?).getD true,rfl,Walks.list (A:=X.A.in1) (I.ok.hd hc) _ p (gm hlt) its.toArray,⟨⟨_,gq _ rfl,rfl,rfl⟩,hl.push _⟩,λi v s1 Q1 E1 hv hQ=>?_,λh1 tk hk=>?_⟩)
 ·obtain⟨b,e,rfl⟩:=hb.get i v (by simpa using hv)
  dsimp only at hQ;rw[e] at hQ;exact oi hQ
 ·rw[show((fb its.toArray.size).all λi=>(bs[i]?).getD true)=bs.all id by rw[ge,hb.length];exact LSm.range_all bs]
  exact⟨.bl (bs.all id),H,I.kept (LSm.kept_iter hk),rfl,q⟩
end
section
variable {X:Cx} {e a b o value:i8} {es:List i8} {te ta tb tv:TE} {t:TA} {pos pos':Pos} {x f:Str}
theorem tpa (ha:PE X e te)(hr:PA X es t)(hs:autoParam (lH e=true) QD):PA X (e::es) (jP te t):=Aiv ha hr hs
theorem tix {r:R2}(hr:IxR X r)(ha:PE X a ta)(hb:PE X b tb)(hs:qP b:=by exact λ_ _=>rfl):PE X (.Subscript a b pos) (tOp r ta tb):=Ag9 hr ha hb hs
theorem tpc {r:R2}(ho:OpR X (compareOp op) r)(ha:PE X a ta)(hb:PE X b tb)(hm:behindInMarks op b=false:=by exact xZ _):PE X (.Compare a [op] [b] pos) (tOp r ta tb):=rO ho ha hb hm
theorem ttc {r:R2}(ho:OpR X (compareOp op) r)(ha:PE X a ta)(hb:PE X b tb)(hm:behindInMarks op b=false:=by exact xZ _):PT X (.Compare a [op] [b] pos) (xL (tOp r ta tb)):=To ho ha hb hm
theorem tfl (he:PE X e ta)(hb:autoParam (attributeBase e f X.env (eval e X.env)=eval e X.env) QD):PE X (.Attribute e f pos) (Aaq X.K ta f):=yW he hb
theorem tsf (ha:PE X o ta)(hv:PE X value tv)(hs:autoParam (swapsWith value (some (.Attribute o f pos')) pos.line X.env=pure false) QD):PS X (.Assign [.Attribute o f pos'] value pos) (Ae2 X.K ta tv f):=Afq ha hv hs
theorem tst (i:Nat)(hN:X.N.Nodup)(he:PE X e te)(hi:autoParam (X.N[i]?=some x) QD)(hx:Loc X.env.scope x:=by exact BL rfl)(hs:autoParam (swapsWith e (some (.Name x pos')) pos.line X.env=pure false) QD)(hf:autoParam (X.fn x=true\/X.env.scope.names.lookup x=some .local) QH) :
  PS X (.Assign [.Name x pos'] e pos) (tG te (Eg i)):=Z8 hN hi hx he hs hf
theorem tgn (i:Nat)(hN:X.N.Nodup)(hi:autoParam (X.N[i]?=some x) QD)(hx:Loc X.env.scope x:=by exact BL rfl)(hf:autoParam (X.fn x=true\/X.env.scope.names.lookup x=some .local) QH):PG X (.Name x pos) (Eg i):=Mr hN hi hx hf
theorem tau (i:Nat){op:EM}{ti:TIp}(hN:X.N.Nodup)(he:PE X e te)(ho:PIp X op ti)(hi:autoParam (X.N[i]?=some x) QD)(hx:Loc X.env.scope x:=by exact BL rfl)(hf:autoParam (X.fn x=true\/X.env.scope.names.lookup x=some .local) QH) :
  PS X (.AugAssign (.Name x pos') op e pos) (Ae0 i te ti):=Aey hN hi hx he ho hf
end
open TW
section
variable {prog:gl} {w:iq} {A:i9} {E:Za0} {s:fv}
variable {kd:uo} {P:jv->Prop} {blt:jv->jv->Bool} (L:lU prog w A E s kd P blt) (o:Swo blt)
include L o
theorem Nj {l0:List jv}{st:pj}{Q:Unit->pj->Prop}(hk:kindOf st=kd)(hf:failedOf st=none)(hp:pendingOf st=#[])(e:(arrOf st).toList=l0)(hP:∀x∈l0,P x)(h2:2<=l0.length)(h64:l0.length<64)
  (h:∀st':pj,failedOf st'=none->(arrOf st').toList=Ax blt l0->Q () st'):wpS (model prog w) A E s sortRuns' Q st:=by
 have hsz:(arrOf st).size=l0.length:=by rw[<-gh,e]
 rw[sortRuns'_eq];refine wpS_bind (AI ?_);dsimp only;have hmr:minRun' l0.length l0.length 0=l0.length:=by
  obtain⟨f,hf⟩:∃f,l0.length=f+1:=⟨l0.length-1,by lia⟩;have:minRun' (f+1) l0.length 0=l0.length:=by rw[minRun'_succ,if_pos h64];rfl
  rwa [<-hf] at this
 simp only[hsz,hmr];have ed:∀l:List jv,[]++Ax blt (l.take l.length)++l.drop l.length=Ax blt l:=λl=>by rw[fw (d8 _),ji (d8 _),gy,md]
 refine wpS_bind (wpS_mono (wpS_forRange
  (I:=λx c st'=>(x=0/\c=(none,0)/\st'=st)\/(1<=x/\c=(none,l0.length)/\∃xs:Array jv,st'=setPending (setArr st xs) #[(0,l0.length,0)]/\xs.toList=Ax blt l0))
  (Q:=λc st'=>c=(none,l0.length)/\∃xs:Array jv,st'=setPending (setArr st xs) #[(0,l0.length,0)]/\xs.toList=Ax blt l0) ?step ?fin (.inl ⟨rfl,rfl,rfl⟩)) ?post)
 case fin=>
  rintro c st' (⟨hx,_,_⟩|⟨_,hc,hD⟩)
  ·lia
  ·exact⟨hc,hD⟩
 case step=>
  rintro x c st' _ hx (⟨rfl,rfl,rfl⟩|⟨hx1,rfl,hD⟩)
  ·dsimp only
   rw[if_neg (by lia)];simp only[qb,rb,m5];refine wpS_bind (Ye L o hk (λx hx=>hP x (by rw[<-e];exact hx)) (by rw[hsz];lia) (by lia) λm xs hm1 hm2 ex=>?_);rw[e,qy,we] at ex;dsimp only
   by_cases hlt:m<l0.length
   ·rw[if_pos hlt]
    refine wpS_bind (IK (um ⟨rfl,?_⟩));refine wpS_bind (S5 L o (st:=setArr st' xs) (lo:=0) (n:=l0.length) (ok:=m) (T:=[]) (D:=l0) hk hP rfl hm1 hm2 (d8 _) ex λxs2 ex2=>?_);rw[ed] at ex2;simp only[Bool.not_true,jy,if_false];refine wpS_bind (AI ?_);have hb:(pendingOf (setArr (setArr st' xs) xs2)).back?=none:=by show(pendingOf st').back?=none;rw[hp];rfl
    rw[hb];dsimp only;refine wpS_bind (FB (lz (.inr ⟨by lia,rfl,xs2,?_,ex2⟩)));show setPending (setArr st' xs2) ((pendingOf st').push _)=_;rw[hp];rfl
   ·rw[if_neg hlt]
    have hm:m=l0.length:=by lia
    subst hm;rw[ed] at ex;refine wpS_bind (AI ?_);have hb:(pendingOf (setArr st' xs)).back?=none:=by show(pendingOf st').back?=none;rw[hp];rfl
    rw[hb];dsimp only;refine wpS_bind (FB (lz (.inr ⟨by lia,rfl,xs,?_,ex⟩)));show setPending (setArr st' xs) ((pendingOf st').push _)=_;rw[hp];rfl
  ·dsimp only
   rw[if_pos (d8 _)];exact lz ⟨rfl,hD⟩
 case post=>
  rintro c st' ⟨rfl,xs,rfl,ex⟩;dsimp only;refine wpS_bind (wpS_mono (wpS_forRange (I:=λ_ c st''=>st''=setPending (setArr st xs) #[(0,l0.length,0)]/\c=(none,())) (Q:=λc st''=>st''=setPending (setArr st xs) #[(0,l0.length,0)]/\c=(none,())) ?_ (λ_ _ hh=>hh) ⟨rfl,rfl⟩) ?_)
  ·rintro x c st'' _ _ ⟨rfl,rfl⟩
   refine wpS_bind (AI ?_);rw[if_pos (show(pendingOf (setPending (setArr st xs) #[(0,l0.length,0)])).size<=1 from d8 1)];exact lz ⟨rfl,rfl⟩
  ·rintro c st'' ⟨rfl,rfl⟩
   exact lz (h _ hf ex)
end
open PySem.W
def ltS (x y:Str):Bool:=decide (x.cps.toList<y.cps.toList)
theorem Pj {α:Type}(F:α->Str):Swo λx y=>ltS (F x) (F y):=by
 refine⟨λa=>decide_eq_false (List.lt_irrefl _),λa b c h1 h2=>?_,λa b c h1=>?_⟩
 ·exact decide_eq_true (List.lt_trans (of_decide_eq_true h1) (of_decide_eq_true h2))
 ·have h1:=of_decide_eq_true h1
  by_cases h:(F a).cps.toList<(F b).cps.toList
  ·exact .inl (decide_eq_true h)
  ·refine .inr (decide_eq_true ?_)
   by_cases h':(F b).cps.toList<(F c).cps.toList
   ·exact h'
   ·exact absurd h1 (wg.mpr (List.le_trans (wg.mp h') (wg.mp h)))
def zJ (x y:jv):Bool:=ltS (strOf x.1) (strOf y.1)
def L9 (x y:Str×fh):Bool:=ltS x.1 y.1
theorem Zp {n:Str}{t:Tok}:∀{vs:Za3} {ns:Za6},qu vs ns->qu (vs++[.str n t]) (ns++[n])
 |_,_,.nil=>.cons n t .nil
 |_,_,.cons x u h=>.cons x u (Zp h)
theorem Jh:∀{vs:Za3} {ns:Za6},qu vs ns->vs.length=ns.length
 |_,_,.nil=>rfl
 |_,_,.cons _ _ h=>congrArg (·+1) (Jh h)
theorem pP:∀{vs:Za3} {ns:Za6},qu vs ns->∀(i:Nat) v,vs[i]?=some v->∃x t,v=.str x t/\ns[i]?=some x
 |_,_,.nil,i,v,h=>by cases h
 |_,_,.cons x t h,0,v,e=>⟨x,t,(ee e).symm,rfl⟩
 |_,_,.cons x t h,i+1,v,e=>pP h i v e
theorem Zu {ss:Za6}(h:qu vs ss)(h2:2<=vs.length):keyKind' vs.toArray=pure oneType':=by
 match vs,h,h2 with
 |_::_::_,h,_=>exact keyKind_strs h
section
variable {prog:gl} {w:iq} {A:i9} {E:Za0} {s:fv}
theorem Zb:lU prog w A E s oneType' (λx=>∃n t,x.1=qk n t) zJ:=by
 intro x y st Q hx hy hk h;obtain⟨x1,x2⟩:=x;obtain⟨y1,y2⟩:=y;obtain⟨a,t,e1⟩:=hx;obtain⟨b,u,e2⟩:=hy;dsimp only at e1 e2;subst e1 e2;rw[lt'_eq];refine wpS_bind (AI ?_);rw[hk];refine wpS_bind (IK (yd ?_));rw[keyLt'_oneType];exact oneLt_str ⟨rfl,lz h⟩
theorem yH {keys:Array fh}(hk:qu keys.toList kz):(Ax zJ (keys.zip vs.toArray).toList).map (·.2)=(Ax L9 (kz.zip vs)).map (·.2):=by
 have e2:(keys.toList.zip vs).map (λp:jv=>(strOf p.1,p.2))=kz.zip vs:=by
  rw[<-hk.strs,List.zip_map_left];exact jc λ⟨x,y⟩ _=>rfl
 rw[<-e2,Hg (lt:=zJ) (f:=λp:jv=>(strOf p.1,p.2)) (λ_ _=>rfl),jf,ksk_zip];rfl
theorem Yo {a kS:eg}{keys:Array fh}{e e1:Nat}{st:pj}{P:z5->fv->Prop}(gk:s.heap.get? kS=some (seqObj "list" keys e))(ga:s.heap.get? a=some (seqObj "list" #[] e1))(hka:kS≠a)
  (hk:qu keys.toList kz)(hlen:kz.length=vs.length)(hz:vs.length<=sizeLine)(hs:(arrOf st).toList=Ax zJ (keys.zip vs.toArray).toList)(hfl:failedOf st=none)
  (h:∀h' out c,(∀b o,b≠a->b≠kS->s.heap.get? b=some o->h'.get? b=some o)->h'.get? a=some (seqObj "list" out c)->out.toList=(Ax L9 (kz.zip vs)).map (·.2)->P (.done (.ret .none)) { s with heap:=h' }) :
  wpAny (model prog w) A (ksk_tail a false e1 (.ref kS) st) P E s:=by
 have hsz:keys.size=vs.length:=by
  have h1:=Jh hk;rw[gh] at h1;lia
 have s1:=re s.heap kS (i6 λ_=>(#[]:Array fh));have na1:(s.heap.update kS (i6 λ_=>(#[]:Array fh))).get? a=some (seqObj "list" #[] e1):=(s1.2 a hka.symm).trans ga;have s2:=re (s.heap.update kS (i6 λ_=>(#[]:Array fh))) a (i6 λ_=>(arrOf st).map (·.2));obtain⟨c2,hc2⟩:∃c2,((s.heap.update kS (i6 λ_=>(#[]:Array fh))).update a (i6 λ_=>(arrOf st).map (·.2))).get? a=some (seqObj "list" ((arrOf st).map (·.2)) c2):=⟨_,wy na1 λ_=>(arrOf st).map (·.2)⟩;have eo:((arrOf st).map (·.2)).toList=(Ax L9 (kz.zip vs)).map (·.2):=by
  rw[DN,hs,yH hk]
 have so:((arrOf st).map (·.2)).size<=sizeLine+1:=by
  rw[<-gh,eo,d7,Hh,sg];lia
 unfold ksk_tail
 try dsimp only
 refine wpAny_bind (listUpdate_at gk rfl ?_ (by rw[hsz];exact hz) (gp _));refine wpAny_bind (wpAny_letGo ?_);refine wpAny_bind (seqEpoch_at na1 rfl ?_);simp only[jy,if_false];refine wpAny_bind (listUpdate_at na1 rfl ?_ (gp _) so);rw[hfl];simp only[bne_self_eq_false,jy,if_false];exact fq (h _ _ c2 (λb o h1 h2 q=>(s2.2 b h1).trans ((s1.2 b h2).trans q)) hc2 eo)
theorem wY {a kS:eg}{keys:Array fh}{e e1:Nat}{P:z5->fv->Prop}(gk:s.heap.get? kS=some (seqObj "list" keys e))(ga:s.heap.get? a=some (seqObj "list" #[] e1))(hka:kS≠a)
  (hk:qu keys.toList kz)(hlen:kz.length=vs.length)(hz:vs.length<=sizeLine)(h64:vs.length<64)
  (h:∀h' out c,(∀b o,b≠a->b≠kS->s.heap.get? b=some o->h'.get? b=some o)->h'.get? a=some (seqObj "list" out c)->out.toList=(Ax L9 (kz.zip vs)).map (·.2)->P (.done (.ret .none)) { s with heap:=h' }) :
  wpAny (model prog w) A (ksk_end a false vs.toArray e1 (.ref kS) keys) P E s:=by
 have hsz:keys.size=vs.length:=by
  have h1:=Jh hk;rw[gh] at h1;lia
 have hzs:(keys.zip vs.toArray).size=vs.length:=by rw[Array.size_zip,hsz,ge,rb]
 unfold ksk_end
 try dsimp only
 simp only[jy,if_false]
 by_cases h2:vs.toArray.size<2
 ·rw[if_pos h2,if_pos h2]
  refine wpAny_bind (fq ?_);rw[DH];refine wpAny_bind (fq ?_)
  try dsimp only
  refine Yo (st:=yr general' (keys.zip vs.toArray) #[] 7 none) gk ga hka hk hlen hz ?_ rfl h;show(keys.zip vs.toArray).toList=_;refine(Jd ?_).symm;have hl:(keys.zip vs.toArray).toList.length<2:=by rw[gh,hzs];rw[ge] at h2;exact h2
  exact jI hl
 ·rw[if_neg h2,if_neg h2]
  rw[ge] at h2;rw[show keyKind' keys=pure oneType' from Zu hk (by rw[gh,hsz];lia)];refine wpAny_bind (fq ?_);refine wpAny_bind (nz (Nj (P:=λx=>∃n t,x.1=qk n t) Zb (Pj λx:jv=>strOf x.1) (l0:=(keys.zip vs.toArray).toList) (st:=yr oneType' (keys.zip vs.toArray) #[] 7 none)
   (Q:=λ_ st'=>failedOf st'=none/\(arrOf st').toList=Ax zJ (keys.zip vs.toArray).toList) rfl rfl rfl rfl (λx hx=>?_) (by rw[gh,hzs];lia) (by rw[gh,hzs];exact h64) λst' a1 a2=>⟨a1,a2⟩) ?_ λ_ _ e=>e)
  ·rw[ksk_zip] at hx
   obtain⟨x,y⟩:=x;exact hk.all _ (sf hx).1
  rintro⟨⟨⟩,st'⟩ s' ⟨rfl,hf,hs⟩
  try dsimp only
  exact Yo gk ga hka hk hlen hz hs hf h
theorem uK {a kS:eg}{f:fh}{e1:Nat}{QP:fv}{P:z5->fv->Prop}(gk:s.heap.get? kS=some (seqObj "list" #[] 0))(ga:s.heap.get? a=some (seqObj "list" #[] e1))(hka:kS≠a)(hn:QP.heap.get? kS=none)
    (keep : Ml a QP.heap s.heap)(hlen : kz.length = vs.length)(hz : vs.length <= sizeLine)(h64 : vs.length < 64)
    (turn : ∀ (i : Nat) (v : fh) (k : Str), vs[i]? = some v->kz[i]? = some k->∀ (h : jj) (tk : Nat) (Q : fh->fv->Prop), Ml a QP.heap h ->
      (∀ t h' tk', (∀ b o, h.get? b = some o->h'.get? b = some o)->Q (.str k t) { s with heap := h', toks := tk' })->wpAny (model prog w) A (call f [v]) Q (λ_ _ => False) { s with heap := h, toks := tk })
    (h : ∀ h' tk out c, Ml a QP.heap h'->h'.get? a = some (seqObj "list" out c)->out.toList = (Ax L9 (kz.zip vs)).map (·.2)->P (.done (.ret .none)) { s with heap := h', toks := tk }) :
    wpAny (model prog w) A (ksk_rest a f false vs.toArray e1 (.ref kS)) P E s := by
  unfold ksk_rest;refine wpAny_bind (um ?_)
  first
    | rw [List.forIn_toArray]
    | (rw [<- td]; simp only [ky])
    | rw [<- td]
  refine wpAny_bind (ksk_fold (λi s' => ∃ h' tk kA e, s' = { s with heap := h', toks := tk }/\Ml a QP.heap h'/\h'.get? kS = some (seqObj "list" kA e)/\h'.get? a = some (seqObj "list" #[] e1)/\qu kA.toList (kz.take i)) vs 0 s
    ⟨s.heap, s.toks, #[], 0, rfl, keep, gk, ga, by simpa using StrsAre.nil⟩ ?step ?done)
  case step =>
    rintro j x s' hx ⟨h', tk, kA, e, rfl, K', gk', ga', hk⟩;simp only [m5] at hk ⊢;have hj : j < vs.length := (fc.mp hx).1;obtain ⟨k, hkj⟩ : ∃ k, kz[j]? = some k := ⟨_, d4 (by lia)⟩;have hz2 : kA.size < vs.length := by
      have h1 := Jh hk;rw [gh, fi] at h1;lia
    refine wpAny_bind (yd (nz (turn j x k hx hkj h' tk (λv s'' => ∃ (t : Tok) (g : jj) (tk2 : Nat), v = .str k t/\s'' = { s with heap := g, toks := tk2 }/\∀ b o, h'.get? b = some o->g.get? b = some o) K' λt2 g tk2 kg => ⟨t2, g, tk2, rfl, rfl, kg⟩) (λv s'' he => ?_) λ_ _ hF => hF.elim));obtain ⟨t2, g, tk2, rfl, rfl, kg⟩ := he
    try dsimp only
    have s1 := re g kS (i6 (·.push (.str k t2)));obtain ⟨c2, hc2⟩ : ∃ c2, (g.update kS (i6 (·.push (.str k t2)))).get? kS = some (seqObj "list" (kA.push (.str k t2)) c2) := ⟨_, wy (kg _ _ gk') (·.push (.str k t2))⟩;have ek : kz.take (j + 1) = kz.take j ++ [k] := by rw [i4, hkj]; simp
    have ea : (kA.push (qk k t2)).toList = kA.toList ++ [qk k t2] := by simp
    refine wpAny_bind (listUpdate_at (kg _ _ gk') rfl ?_ (by lia) (ir (oh (vc ..)) (by lia)));exact fq ⟨rfl, _, _, kA.push (.str k t2), c2, rfl, λb o hb q => (s1.2 b (λz => by rw [z, hn] at q; cases q)).trans (kg _ _ (K' b o hb q)), hc2, (s1.2 a hka.symm).trans (kg _ _ ga'), by rw [ea, ek]; exact Zp hk⟩
  case done =>
    rintro s' ⟨h', tk, kA, e, rfl, K', gk', ga', hk⟩;have hk' : qu kA.toList kz := by
      have e3 : kz.take (0 + vs.length) = kz := fw (by lia);rw [e3] at hk;exact hk
    try dsimp only
    refine wpAny_bind (DD gk' rfl ?_);exact wY gk' ga' hka hk' hlen hz h64 λh3 out c k3 g3 e3 => h h3 tk out c (λb o hb q => k3 b o hb (λz => by rw [z, hn] at q; cases q) (K' b o hb q)) g3 e3
theorem sL {a:eg}{f:fh}{P:z5->fv->Prop}(ho:s.heap.get? a=some (seqObj "list" vs.toArray n))(hlen:kz.length=vs.length)(hz:vs.length<=sizeLine)(h64:vs.length<64)
  (turn:∀(i:Nat) (v:fh) (k:Str),vs[i]?=some v->kz[i]?=some k->∀(h:jj) (tk:Nat) (Q:Za0),Ml a s.heap h ->
   (∀t h' tk',(∀b o,h.get? b=some o->h'.get? b=some o)->Q (.str k t) { s with heap:=h',toks:=tk' })->wpAny (model prog w) A (call f [v]) Q (λ_ _=>False) { s with heap:=h,toks:=tk })
  (h:∀h' tk out c,Ml a s.heap h'->h'.get? a=some (seqObj "list" out c)->out.toList=(Ax L9 (kz.zip vs)).map (·.2)->P (.done (.ret .none)) { s with heap:=h',toks:=tk }) :
  wpAny (model prog w) A (ksk_tree a f false) P E s:=by
 have ha:a<s.heap.objs.size:=fu ho;have s1:=re s.heap a (i6 λ_=>(#[]:Array fh));obtain⟨e1,ho1⟩:∃e1,(s.heap.update a (i6 λ_=>(#[]:Array fh))).get? a=some (seqObj "list" #[] e1):=⟨_,wy ho λ_=>#[]⟩;have hkS:((s.heap.update a (i6 λ_=>(#[]:Array fh))).push (seqObj "tuple" vs.toArray 0)).objs.size=s.heap.objs.size+1:=by rw[AW,ml]
 unfold ksk_tree;refine wpAny_bind (DD ho rfl ?_);refine wpAny_bind (listUpdate_at ho rfl ?_ (by simpa using hz) (gp _));refine wpAny_bind (seqEpoch_at ho1 rfl ?_);refine wpAny_bind (AU ?_ (by show vs.length<=_;exact hz));refine wpAny_bind (yc ?_ (gp _));refine wpAny_holding ?_;exact uK (QP:=s) (s:={ s with heap:=((s.heap.update a (i6 λ_=>(#[]:Array fh))).push (seqObj "tuple" vs.toArray 0)).push (seqObj "list" #[] 0) }) (kS:=((s.heap.update a (i6 λ_=>(#[]:Array fh))).push (seqObj "tuple" vs.toArray 0)).objs.size)
  (gq _ rfl) (en _ (en _ ho1)) (by rw[hkS];exact jo (uh ha)) (by rw[hkS];exact BV (wo _))
  (λb o hb q=>en _ (en _ ((s1.2 b hb).trans q))) hlen hz h64 turn h
end
def Abl (x y:Str×Int):Bool:=ltS x.1 y.1
def Ec (kz:Za6)(ns:List Int):List Int:=(Ax Abl (kz.zip ns)).map (·.2)
theorem tJ (h:rp vs ns):rp ((Ax L9 (kz.zip vs)).map (·.2)) (Ec kz ns):=by
 have e1:(Ax L9 (kz.zip vs)).map (λp:Str×fh=>(p.1,numOf p.2))=Ax Abl (kz.zip ns):=by
  rw[<-Hg (f:=λp:Str×fh=>(p.1,numOf p.2)) (lt:=L9) (lt':=Abl) (λ_ _=>rfl)];congr 1;rw[<-h.nums,CT];exact jc λ⟨x,y⟩ _=>rfl
 have e2:Ec kz ns=((Ax L9 (kz.zip vs)).map (·.2)).map numOf:=by
  unfold Ec;rw[<-e1,jf,jf];rfl
 rw[e2];refine Sj _ λv hv=>?_;obtain⟨p,hp,rfl⟩:=lp.mp hv;have:=(E4 (lt:=L9) (kz.zip vs)).mem_iff.mp hp;obtain⟨x,y⟩:=p;exact h.all _ (sf this).2
section
variable {prog:gl} {w:iq} {A:i9} {E:Za0} {s:fv}
theorem eU {arg:fh}{q:eg}{Q:Za0}(hlen:kz.length=ns.length)(hz:ns.length<=sizeLine)(h64:ns.length<64)
  (hcol:∀(E':Za0) (Q':Za3->fv->Prop),(∀vs h' tk,rp vs ns->(∀b o,s.heap.get? b=some o->h'.get? b=some o)->s.heap.objs.size<=h'.objs.size->Q' vs { s with heap:=h',toks:=tk })->wpAny (model prog w) A.in1 (collect arg) Q' E' s)
  (turn:∀(i:Nat) (n:Int) (k:Str) (t:Tok),ns[i]?=some n->kz[i]?=some k->∀(h:jj) (tk:Nat) (Q:Za0),(∀b o,s.heap.get? b=some o->h.get? b=some o) ->
   (∀t h' tk',(∀b o,h.get? b=some o->h'.get? b=some o)->Q (.str k t) { s with heap:=h',toks:=tk' })->wpAny (model prog w) A.in1.in1 (call (.ref q) [.int n t]) Q (λ_ _=>False) { s with heap:=h,toks:=tk })
  (h:∀D h' tk out c,s.heap.objs.size<=D->(∀b o,s.heap.get? b=some o->h'.get? b=some o)->h'.get? D=some (seqObj "list" out c)->rp out.toList (Ec kz ns)->Q (.ref D) { s with heap:=h',toks:=tk }) :
  wpAny (model prog w) A (call (.builtin "sorted") [arg] [(oy "key",.ref q)]) Q E s:=by
 refine call_function_entry_kw kind_sorted JV JW (ksk_s1 _ _) ?_;unfold qj.«sorted»;refine wpAny_bind (m:=checkCount "sorted" 1 1 _) (fq ?_);refine wpAny_bind (hcol _ _ λvs h1 tk1 hI k1 z1=>?_);have hlv:vs.length=ns.length:=hI.length;refine wpAny_bind (yc ?_ (by rw[hlv];exact hz));have hoL:(h1.push (seqObj "list" vs.toArray 0)).get? h1.objs.size=some (seqObj "list" vs.toArray 0):=gq _ rfl;have keep:∀b o,s.heap.get? b=some o->(h1.push (seqObj "list" vs.toArray 0)).get? b=some o:=λb o q=>en _ (k1 b o q);have nD:∀b o,s.heap.get? b=some o->b≠h1.objs.size:=λb o q=>gm (fk (fu q) z1);show wpAny _ _ _ _ _ { s with heap:=h1.push (seqObj "list" vs.toArray 0),toks:=tk1 };refine wpAny_bind (wpAny_holding (wpAny_call_entry_kw slot_list_sort ⟨_,hoL,rfl⟩ entry_list_sort ?body (ksk_l1 _ _)))
 case body=>
  show wpAny (model prog w) A.in1.in1 (qj.«list.sort» ⟨[.ref h1.objs.size],[(oy "key",.ref q)]⟩) _ _ _;rw[ksk_t1];refine sL (kz:=kz) (s:={ s with heap:=h1.push (seqObj "list" vs.toArray 0),toks:=tk1 }) hoL (by rw[hlv];exact hlen) (by rw[hlv];exact hz) (by rw[hlv];exact h64) (λi v k e1 e2 h2 tk Q2 kb q2=>?_) λh2 tk out c kb g e=>?_
  ·obtain⟨n,t,rfl,e3⟩:=hI.at i v e1
   exact turn i n k t e3 e2 h2 tk Q2 (λb o q=>kb b o (nD b o q) (keep b o q)) q2
  ·exact⟨_,rfl,fq ⟨_,rfl,h _ h2 tk out c z1 (λb o q=>kb b o (nD b o q) (keep b o q)) g (by rw[e];exact tJ hI)⟩⟩
end
section
variable {X:Cx}
def Ab5 (P:eg)(lpos:Pos)(qual:Str)(i:Nat)(ta:TE):TE:=λG H Q=>ta G H λx H1=>∃r l ds,x=.ref r/\G[i]?=some (some (.ref l))/\H1 l=some (.lst (ds.map V.str))/\ds.length<64 /\
 H1 r=some (.rng 0 ds.length)/\Ps H1 P lpos qual /\
 ∀p H',Pf P H1 H'->Ps H' P lpos qual->H1 p=none->H' p=some (.lst ((Ec ds (Ij ds.length)).map V.int))->Q (.ref p) H'
theorem sO {a:i8}{ta:TE}{p pa pd pk pp kpos:Pos}{d k:Str}{i:Nat}{c P cl:eg}(hcal:X.calm=true)(hr:Co 1 X.A)(hg:Gl X "sorted")(hm:X.mg "sorted"=none)(ha:PE X a ta)
  (C:BE X.base c P)(hb:X.base.BuiltinsAt X.mg P)(hcode:X.env.code=.ref c)(hN:X.N[i]?=some d)(hkd:X.env.scope.names.lookup d=some .cell)(hce:X.env.cells.lookup d=some cl)
  (hcl:closureFor (On k d) X.env=pure [(d,cl)])(hq:X.env.qual++"<lambda>"=qual)
  (hbind:∀(pm cv ctv:fh) (n:Int) (t:Tok),bindArgs (DE "<lambda>" qual (fE k pa) (fS k d pd pk pp) (On k d) [(d,cl)] pm cv ctv) ⟨[.int n t],[]⟩=pure [(k,.int n t)])(hs:autoParam (starEach [a] X.env=[(false,eval a X.env)]) QD)
  (ek:autoParam ((d==k)=false) QF)(hd:autoParam ((d==("__classdict__":Str))=false) QF)(nk:autoParam ((k==("__debug__":Str))=false) QF)(nd:autoParam ((d==("__debug__":Str))=false) QF) :
  PE X (.Call (.Name "sorted" p) [a] [⟨some "key",.Lambda (fE k pa) (fS k d pd pk pp) (On k d) lpos,kpos⟩] pos) (Ab5 P lpos qual i ta):=by
 k_in;refine wpAny_Call_Name_kw (Do I hg hm Xb (callWith_kw ?_ (by rw[hs];rfl) (by rw[hs];rfl) rfl rfl) (by decide) (by decide));rw[hs];refine lq ?_;show wpAny _ _ (eval a X.env) _ _ _;refine thE ha I h λv s1 x H1 I1 r1 ⟨r,l,ds,ex,XH,hl,hz,hrr,hT,q⟩=>?_;subst ex;obtain rfl:v=jb r:=r1;refine n5 ?_;show wpAny _ _ (evalAll [(do let v <-eval (.Lambda (fE k pa) (fS k d pd pk pp) (On k d) lpos) X.env;standAt pos;pure v)]) _ _ _;unfold evalAll;refine wpAny_bind (wpAny_bind (kT I1 hT C hb hcode hcl rfl hq λf c' oc pm ctv s2 H2 I2 hT2 sm hf0 hf hc' hoc=>?_));refine wpAny_bind (vd (fq ?_));unfold evalAll;refine wpAny_bind (wpAny_holding (fq (fq ?_)));show wpAny _ _ (call (.builtin "sorted") [.ref r] [(oy "key",.ref f)]) _ _ _;have hlP:l≠P:=λe=>by obtain⟨ps,e1,_⟩:=hT;rw[e,e1] at hl;cases hl
 have hl2:H2 l=some (.lst (ds.map V.str)):=sm _ _ hlP hl;obtain⟨_,its,nn,hv,hit⟩:=I2.hok l _ hl2;have hiI:qu its ds:=Oa hv;have hfo:s2.heap.get? f=some _:=(I2.hok f _ hf).1;have hco:s2.heap.get? c'=some oc:=(I2.hok c' _ hc').1;have hcell:s2.heap.IsCell cl (some (.ref l)):=by
  obtain⟨m,_,hlo⟩:=I2.loc;obtain⟨u,ru,lk⟩:=hlo i d (.ref l) hN XH (.inr (.inl hkd));obtain rfl:u=jb l:=ru;rcases lk with⟨hk,_⟩|⟨_,c2,hc2,hx⟩
  ·have:some yu=some qf.local:=hkd.symm.trans hk
   cases this
  ·rw[hce] at hc2
   cases hc2;exact hx
 have hlen:(Ij ds.length).length=ds.length:=by unfold Ij;rw[d7,fe]
 refine eU (ns:=Ij ds.length) (kz:=ds) hlen.symm (by rw[hlen];exact f9 (vn hz (by decide))) (by rw[hlen];exact hz) (λE' Q' hQ=>?_) (λj n kk t e1 e2 h3 tk Q3 kp q3=>?_) λD h' tk out cc hD kp hat hout=>?_
 ·have hr1:=hrr
  ·have hrP:r≠P:=λe=>by obtain⟨ps,e1,_⟩:=hT;rw[e,e1] at hr1;cases hr1
   obtain⟨t,u,v,hit2⟩:=I2.hok r _ (sm _ _ hrP hr1);exact sK (A:=X.A.in1) (n:=ds.length) (I.ok.hd hcal) hit2 (by lia) E' Q' hQ
 ·have hj:j<ds.length:=(fc.mp e2).1
  obtain rfl:(j:Int)=n:=by
   unfold Ij at e1;rw[d9,gd hj] at e1;cases e1;rfl
  obtain⟨vk,hvk⟩:∃vk,its[j]?=some vk:=⟨_,d4 (by rw[Jh hiI];exact hj)⟩;obtain⟨k2,tk2,rfl,e3⟩:=pP hiI j vk hvk;rw[e2] at e3;cases e3;refine yj (yY (u:=.none) (kp _ _ hfo) (let ⟨vs,t,e1,e2⟩:=hoc;⟨c',oc,vs,t,rfl,kp _ _ hco,e1,e2⟩) (show X.A.depth<recursionLimit from Co.depth hr) ((I2.mod.nolimit.keeps I2.bk).keeps kp) (hbind _ _ _ _ _) rfl rfl rfl (by simp) ?_ (by simp) (by simp) hd nk nd (hcell.keeps kp) (its:=its.toArray) ⟨_,kp _ _ hit,rfl,_,rfl⟩ (by lia) (by lia) (by simpa using hvk) λh4 tk4 k4=>q3 tk2 h4 tk4 k4);show ox d [(k,qf.local),(d,nv)]=some .free;simp[ox,ek]
 ·have I3:Inv X pins G (upd H2 D (.lst ((Ec ds (Ij ds.length)).map V.int))) { s2 with heap:=h',toks:=tk }:=I2.laid kp hD ⟨by
    have h1:=hout.length;rw[d7];unfold Ec;rw[d7,Hh,sg,hlen,rb];exact f9 (vn hz (by decide)),out.toList,cc,R5 hout,hat⟩
  have hD2:H2 D=none:=I2.hok.fresh hD;have hD1:H1 D=none:=by
   cases e:H1 D with
   |none=>rfl
   |some u=>
    by_cases hDP:D=P
    ·obtain⟨ps,e1,_⟩:=hT2
     rw[hDP,e1] at hD2;cases hD2
    ·rw[sm D u hDP e] at hD2;cases hD2
  refine⟨.ref D,_,I3,rfl,q D _ (λb u hb e=>?_) ?_ hD1 Af⟩
  ·rw[Al (λz=>by rw[z,hD1] at e;cases e)]
   exact sm b u hb e
  ·obtain⟨ps,e1,e2,e3⟩:=hT2
   have nP:P≠D:=λz=>by rw[z,hD2] at e1;cases e1
   refine⟨ps,by rw[Al nP];exact e1,e2,e3.imp id λ⟨c2,oc2,a1,a2,a3⟩=>⟨c2,oc2,a1,?_,a3⟩⟩;rw[Al (λz=>by rw[z,hD2] at a2;cases a2)];exact a2
end
section
variable {prog:gl} {w:iq} {A:i9} {E:Za0} {s:fv}
theorem X0 {a:eg}{kd:uo}{lt:fh->fh->Bool}{R:Fin->fv->Prop}(ho:s.heap.get? a=some (seqObj "list" vs.toArray n))(h64:vs.length<64)(o:Swo lt)
  (hk:∀h6:jj,(∀b ob,b≠a->s.heap.get? b=some ob->h6.get? b=some ob)->2<=vs.length->(∀Q:uo->fv->Prop,Q kd { s with heap:=h6 }->wpAny (model prog w) A (keyKind' vs.toArray) Q E { s with heap:=h6 })/\lU prog w A E { s with heap:=h6 } kd (λx=>x.1∈vs) (λx y=>lt x.1 y.1))
  (h:∀out:Array fh,out.toList=Ax lt vs->R (.done (.ret .none)) { s with heap:=sortedHeap s.heap a vs out }) :
  wpAny (model prog w) A (qj.«list.sort» ⟨[.ref a],[]⟩) R E s:=by
 have hz:vs.length<=sizeLine:=f9 (vn h64 (by decide));rw[list_sort_plain];have ha:a<s.heap.objs.size:=fu ho;refine wpAny_bind (DD ho rfl ?_);refine wpAny_bind (listUpdate_at ho rfl ?_ (by simpa using hz) (by simp));obtain⟨e1,ho1⟩:∃e1,(s.heap.update a (i6 λ_=>#[])).get? a=some (seqObj "list" #[] e1):=⟨_,wy ho (λ_=>#[])⟩;refine wpAny_bind (seqEpoch_at ho1 rfl ?_);refine wpAny_bind (AU ?_);refine wpAny_bind (yc ?_);refine wpAny_holding ?_;have ho6:(((s.heap.update a (i6 λ_=>#[])).push (seqObj "tuple" vs.toArray 0)).push (seqObj "list" #[] 0)).get? a=some (seqObj "list" #[] e1):=by
  rw[xx _ _ _ (by rw[AW,ml];exact gm (uh ha)),xx _ _ _ (by rw[ml];exact gm ha)];exact ho1
 have hk:=hk _ λb ob hb e=>en (seqObj "list" #[] 0) (en (seqObj "tuple" vs.toArray 0) ((ku _ (i6 λ_=>(#[]:Array fh)) (rh hb)).trans e));show wpAny (model prog w) A _ R E { s with heap:=((s.heap.update a (i6 λ_=>#[])).push (seqObj "tuple" vs.toArray 0)).push (seqObj "list" #[] 0) };dsimp only;have hsz:vs.toArray.size=vs.length:=by simp
 have ez:(vs.toArray.zip vs.toArray).toList=vs.map λv=>(v,v):=by
  rw[Array.toList_zip];generalize vs=l
  induction l with
  |nil=>rfl
  |cons x l ih=>exact congrArg _ ih
 have fin:∀st':pj,(arrOf st').toList=Ax (λx y:jv=>lt x.1 y.1) (vs.map λv=>(v,v))->R (.done (.ret .none)) { s with heap:=sortedHeap s.heap a vs ((arrOf st').map (·.2)) }:=λst' e=>by
  refine h _ ?_;rw[DN,e,Hg (lt:=lt) (f:=λv=>((v,v):jv)) λ_ _=>rfl,jf];exact List.map_id _
 have szo:∀st':pj,(arrOf st').toList=Ax (λx y:jv=>lt x.1 y.1) (vs.map λv=>(v,v))->((arrOf st').map (·.2)).size<=sizeLine+1:=λst' e=>by
  rw[Array.size_map,<-gh,e,Hh,d7];lia
 by_cases h2:vs.toArray.size<2
 ·rw[if_pos h2,if_pos h2]
  refine wpAny_bind (fq ?_);rw[DH];refine wpAny_bind (fq ?_);dsimp only;have e0:(arrOf (yr general' (vs.toArray.zip vs.toArray) #[] 7 none)).toList=Ax (λx y:jv=>lt x.1 y.1) (vs.map λv=>(v,v)):=by
   show(vs.toArray.zip vs.toArray).toList=_;rw[ez];refine(Jd ?_).symm;have hl:(vs.map λv=>((v,v):jv)).length<2:=by rw[d7];lia
   exact jI hl
  refine wpAny_bind (seqEpoch_at ho6 rfl ?_);refine wpAny_bind (listUpdate_at ho6 rfl ?_ (hsz2:=szo _ e0));simp only[bne_self_eq_false,jy,if_false];exact fq (fin _ e0)
 ·rw[if_neg h2,if_neg h2]
  obtain⟨hk,hL⟩:=hk (by lia);refine wpAny_bind (hk _ ?_);refine wpAny_bind (nz (Nj (P:=λx=>x.1∈vs) hL ⟨λx=>o.1 x.1,λx y z=>o.2 x.1 y.1 z.1,λx y z=>o.3 x.1 y.1 z.1⟩ (l0:=vs.map λv=>(v,v)) (st:=yr kd (vs.toArray.zip vs.toArray) #[] 7 none)
   (Q:=λ_ st'=>failedOf st'=none/\(arrOf st').toList=Ax (λx y:jv=>lt x.1 y.1) (vs.map λv=>(v,v))) rfl rfl rfl ez (λx hx=>?_) (by rw[d7];lia) (by rw[d7];exact h64) λst' a1 a2=>⟨a1,a2⟩) ?_ λ_ _ e=>e)
  ·obtain⟨v,hvm,rfl⟩:=lp.mp hx
   exact hvm
  rintro⟨⟨⟩,st'⟩ s' ⟨rfl,hf,hs⟩;dsimp only;refine wpAny_bind (seqEpoch_at ho6 rfl ?_);refine wpAny_bind (listUpdate_at ho6 rfl ?_ (hsz2:=szo _ hs));rw[hf];simp only[bne_self_eq_false,jy,if_false];exact fq (fin st' hs)
theorem nK {l:eg}{kd:uo}{lt:fh->fh->Bool}{Q:Za0}(hl:s.heap.IsList l vs.toArray)(h64:vs.length<64)(o:Swo lt)
  (hk:∀(A':i9) (E':Za0) (s':fv),(∀b ob,s.heap.get? b=some ob->s'.heap.get? b=some ob)->2<=vs.length->(∀Q:uo->fv->Prop,Q kd s'->wpAny (model prog w) A' (keyKind' vs.toArray) Q E' s')/\lU prog w A' E' s' kd (λx=>x.1∈vs) (λx y=>lt x.1 y.1))
  (h:∀D h' tk out e,s.heap.objs.size<=D->(∀b ob,s.heap.get? b=some ob->h'.get? b=some ob)->h'.get? D=some (seqObj "list" out e)->out.toList=Ax lt vs->Q (.ref D) { s with heap:=h',toks:=tk }) :
  wpAny (model prog w) A (call (.builtin "sorted") [.ref l]) Q E s:=by
 have hzL:vs.length<=sizeLine:=f9 (vn h64 (by decide));refine Calls.call_function_entry kind_sorted JV JW (args_sorted1 _) ?_;unfold qj.«sorted»;refine wpAny_bind (m:=checkCount "sorted" 1 1 _) (fq ?_);refine wpAny_bind (yQ hl hzL _ _ λh' tk hkp hle=>?_);refine wpAny_bind (yc ?_ hzL);have hoL:(h'.push (seqObj "list" vs.toArray 0)).get? h'.objs.size=some (seqObj "list" vs.toArray 0):=gq _ rfl;refine wpAny_bind (wpAny_holding (sk slot_list_sort ⟨_,hoL,rfl⟩ entry_list_sort (X0 hoL h64 o (λh6 k6 h2=>hk _ _ { s with heap:=h6,toks:=tk } (λb ob e=>k6 b ob (gm (fu (hkp b ob e))) (en _ (hkp b ob e))) h2) λout eo=>⟨_,rfl,?_⟩) (args_list_sort _)));refine fq ⟨_,rfl,?_⟩;obtain⟨e9,hat⟩:=sortedHeap_at (out:=out) hoL;refine h _ _ tk out e9 hle (λb ob e=>?_) hat eo;have e':=hkp b ob e;rw[sortedHeap_old (gm (fu e')) (by rw[AW];exact uh (fu e'))];exact en _ e'
end
section
variable {X:Cx}
def Afx (K:d6):List V->Hp->VK->Prop:=λxs H Q=>∃(a:eg) (ns:Za6),xs=[.ref a]/\SqL K H a (ns.map V.str)/\ns.length<64/\∀p,H p=none->Q (.ref p) (upd H p (.lst ((Ax ltS ns).map V.str)))
theorem Ac4:∀{ys:Za6} {us:Za3},qu us ys->Ay (ys.map V.str) us
 |_,_,.nil=>.nil
 |_,_,.cons _ t r=>.cons ⟨t,rfl⟩ (Ac4 r)
theorem Pr:Ev X (.builtin "sorted") (Afx X.K):=by
 intro pins s G H xs us Q I r h;obtain⟨p,ns,rfl,hp,h64,q⟩:=h;obtain⟨u,rfl,ru⟩:=Fh r;cases ru;obtain⟨its,rv,pl,hz⟩:=I.list hp;have hI:=Oa rv;refine nK (lt:=λx y=>ltS (strOf x) (strOf y)) (kd:=oneType') pl.isList (by rw[Jh hI];exact h64) (Pj strOf) (λA' E' s' _ h2=>⟨λQ q=>?_,λx y st Q hx hy=>Zb x y st Q (hI.all _ hx) (hI.all _ hy)⟩) λD h' tk out e hD hk hat eo=>?_
 ·rw[Zu hI h2]
  exact fq q
 have hIo:qu out.toList (Ax ltS ns):=by
  have e:Ax ltS ns=(Ax (λx y=>ltS (strOf x) (strOf y)) its).map strOf:=by
   rw[<-Hg (f:=strOf) (lt':=ltS) (λ_ _=>rfl),hI.strs]
  rw[eo,e];exact strsAre_map _ λv hv=>hI.all _ ((E4 _ its).mem_iff.mp hv)
 refine⟨.ref D,upd H D (.lst ((Ax ltS ns).map V.str)),I.laid hk hD ⟨?_,out.toList,e,Ac4 hIo,hat⟩,rfl,q _ (I.hok.fresh hD)⟩;rw[d7,Hh];rw[d7] at hz;exact hz
theorem Aaz {a b:Str}(h1:¬ ltS a b=true)(h2:¬ ltS b a=true):a=b:=
 Hc (List.le_antisymm (wg.mp λz=>h2 (decide_eq_true z)) (wg.mp λz=>h1 (decide_eq_true z)))
end
def Sw (vs:List (Key×fh)):Za6->Za3->List (Key×fh)
 |k::ks,u::us=>Sw (stored vs (.inr k) u) ks us
 |_,_=>vs
theorem tW {vs:List (Key×fh)}:∀(ks:Za6),Sw vs ks []=vs
 |[]=>rfl
 |_::_=>rfl
theorem wD {vs:List (Key×fh)}{ks:Za6}{i:Nat}{n:Str}{u:fh}(h1:ks[i]?=some n)(h2:us[i]?=some u):Sw vs (ks.drop i) (us.drop i)=Sw (stored vs (.inr n) u) (ks.drop (i+1)) (us.drop (i+1)):=by
 obtain⟨l1,e1⟩:=fc.mp h1;obtain⟨l2,e2⟩:=fc.mp h2;rw[ny l1,ny l2,e1,e2];rfl
def Ef (kvs:List (Key×V)):Za6->List V->List (Key×V)
 |k::ks,v::vs=>Ef (Lw kvs (.inr k) v) ks vs
 |_,_=>kvs
theorem qK:∀{ks:Za6} {ys:List V} {us:Za3} {kvs:List (Key×V)} {vs:List (Key×fh)},KV kvs vs->Ay ys us->KV (Ef kvs ks ys) (Sw vs ks us)
 |[],_,_,_,_,h,_=>h
 |_::_,_,_,_,_,h,.nil=>h
 |k::ks,y::ys,u::us,kvs,vs,h,.cons r t=>by
  show KV (Ef (Lw kvs (.inr k) y) ks ys) (Sw (stored vs (.inr k) u) ks us);exact qK (h.put (.inr k) r) t
section
variable {prog:gl} {w:iq} {A:i9} {E:Za0} {R:wm->fv->Prop}
theorem Abw {d l:eg}{ys:Za3}{ks:Za6}(hdi:d≠it)(hli:l≠it)(hld:l≠d)(hh:A.handled=none):∀(m i:Nat) (s:fv) (tk:Tok) (vs:List (Key×fh)),items.size-i=m->i<=items.size ->
   (∀(j:Nat) x,items[j]?=some x->∃n t y T,ks[j]?=some n/\ys[j]?=some y/\x=jb T/\T≠it/\T≠d/\lG s.heap T (.str n t) y)->ks.length=items.size->ys.length=items.size ->
   s.heap.IsListIter it l i->s.heap.IsList l items->s.heap.DictOf (Bf prog w) d vs->vs.length+(items.size-i)<=sizeLine ->
   (∀h' k vs',h'.DictOf (Bf prog w) d vs'->vs'=Sw vs (ks.drop i) (ys.drop i)->(∀b o,b≠it->b≠d->s.heap.get? b=some o->h'.get? b=some o)->R (.ok (.ret .none)) { s with heap:=h',toks:=k }) ->
   codeAny (model prog w) A (.builtin "dict.update.loop" ⟨[.ref d,.ref it,.int i tk,.none],[]⟩) R s:=by
 intro m
 induction m with
 |zero=>
  intro i s tk vs hm hi hp hk hy h1 hl hd hsz q;refine mh D0 ?_;rw[j5 Bp _];show wpAny _ A.in1 (pyNext (.ref it) >>= _) _ _ s;refine wpAny_bind (DP (by exact hh) h1 hl (l5 (by lia)) λh' kp=>?_);show wpAny _ A.in1 (si d [] >>= _) _ _ _;refine wpAny_bind (fq (fq ?_));obtain⟨o,es,ep,ho,r⟩:=hd;exact q h' s.toks vs ⟨o,es,ep,kp _ _ hdi ho,r⟩ (by rw[ji (l:=ys) (by lia),tW]) λb o b1 _ e=>kp b o b1 e
 |succ m ih=>
  intro i s tk vs hm hi hp hk hy h1 hl hd hsz q;obtain⟨x,hx⟩:∃x,items[i]?=some x:=⟨_,jr (show i<items.size by lia)⟩;obtain⟨n,t,y,T,hn,hyi,rfl,hTi,hTd,hT⟩:=hp i x hx;refine mh D0 ?_;rw[j5 Bp _];show wpAny _ A.in1 (pyNext (.ref it) >>= _) _ _ s;refine wpAny_bind (CY h1 hl hx λh' h1' sb=>?_);have kp:∀b o,b≠it->s.heap.get? b=some o->h'.get? b=some o:=λb o hb e=>(sb.2 b hb).trans e;have hd':h'.DictOf (Bf prog w) d vs:=by
   obtain⟨o,es,ep,ho,r⟩:=hd;exact⟨o,es,ep,kp _ _ hdi ho,r⟩
  show wpAny _ A.in1 (holding _ _ >>= _) _ _ _;refine wpAny_bind (wpAny_holding (wpAny_bind (AT (iY (hT.keep λo e=>kp _ _ hTi e) ?_))));show wpAny _ A.in1 (holding _ (dictSet d (.str n t) y)) _ _ _;refine wpAny_holding (x0 (knd:=Bf prog w) (k:=.inr n) (Sm prog w n t) hd' (λh2 dd' hs=>?_) (by lia));have k2:∀b o,b≠it->b≠d->s.heap.get? b=some o->h2.get? b=some o:=λb o b1 b4 e=>(hs.2 b b4).trans (kp b o b1 e);have hln:=zl vs (w4 n:Key) y;refine fq ⟨ou Bp _,?_⟩;refine ih (i+1) _ _ _ (by lia) (by lia) (λj x hx=>?_) hk hy (h1'.at λo e=>(hs.2 _ hdi.symm).trans e) (hl.at λo e=>k2 _ o hli hld e) dd' (by lia) λh3 k vs' hd3 e3 kp3=>?_
  ·obtain⟨n,t,y,T,a1,a2,a3,a4,a5,a6⟩:=hp j x hx
   exact⟨n,t,y,T,a1,a2,a3,a4,a5,a6.keep λo e=>k2 _ _ a4 a5 e⟩
  ·exact q h3 k vs' hd3 (by rw[e3,wD hn hyi]) λb o b1 b4 e=>kp3 b o b1 b4 (k2 b o b1 b4 e)
theorem R6 {l:eg}{n0:Nat}{ys:Za3}{ks:Za6}{Q:Za0}(hh:A.handled=none)(hl:s.heap.get? l=some (seqObj "list" items n0))(hk:ks.length=items.size)(hy:ys.length=items.size)(hsz:items.size<=sizeLine)
  (hp:∀(j:Nat) x,items[j]?=some x->∃n t y T,ks[j]?=some n/\ys[j]?=some y/\x=jb T/\lG s.heap T (.str n t) y)
  (q:∀h' k vs',h'.DictOf (Bf prog w) s.heap.objs.size vs'->vs'=Sw [] ks ys->(∀b o,s.heap.get? b=some o->h'.get? b=some o)->Q (.ref s.heap.objs.size) { s with heap:=h',toks:=k }) :
  wpAny (model prog w) A (call (.type "dict") [.ref l]) Q E s:=by
 refine AY (Q₁:=λobj QN=>obj=.ref s.heap.objs.size/\QN={ s with heap:=s.heap.push { cls:=.type "dict",data:=.dict #[] } }) zo (yo _) zh (GH _ ⟨rfl,rfl⟩) ?_;rintro obj QN ⟨rfl,rfl⟩;have hnew:(s.heap.push { cls:=.type "dict",data:=.dict #[] }).DictOf (Bf prog w) s.heap.objs.size []:=xg s.heap;have up:∀b o,s.heap.get? b=some o->(s.heap.push { cls:=.type "dict",data:=.dict #[] }).get? b=some o:=λb o e=>en _ e;have lt:∀{c o},s.heap.get? c=some o->c≠s.heap.objs.size:=λe=>gm (fu e);refine⟨hnew.typeIs,zc _ _,?_⟩;unfold qj.«dict.__init__»;refine wpAny_bind ?_;unfold xz;refine wpAny_bind (DQ hnew.typeIs ?_);show wpAny _ _ (pure (s.heap.objs.size,[jb l])) _ _ _;refine fq ?_;show wpAny _ _ (p7 "dict.__init__" s.heap.objs.size (.ref l) [] .none) _ _ _;unfold p7;have hl':=up _ _ hl;refine wpAny_bind (qh (T:="list") ⟨_,hl',rfl⟩ ?_);rw[if_pos (by decide)];refine wpAny_bind (vI hl' (by exact hh) λh' tk kp=>?_);rw[if_pos (by rfl)];have hli:h'.IsList l items:=⟨_,kp _ _ hl',rfl,_,rfl⟩;refine wpAny_bind (um (wpAny_bind (y3 hli ?_)));have up2:∀b o,s.heap.get? b=some o->h'.get? b=some o:=λb o e=>kp _ _ (up b o e);obtain⟨od,esd,epd,hod,rd⟩:=hnew;have hd2:=kp _ _ hod;have nI:∀{c o},h'.get? c=some o->c≠h'.objs.size:=λe=>gm (fu e);refine fq ⟨ou Bp _,?_⟩;refine Abw (ks:=ks) (ys:=ys) (l:=l) (items:=items) (nI hd2) (nI (kp _ _ hl')) (lt hl) (by exact hh) _ 0 _ _ [] rfl (gp _) (λj x hx=>?_) hk hy ⟨_,gq _ rfl,rfl,rfl⟩ ⟨_,en _ (kp _ _ hl'),rfl,_,rfl⟩ ⟨od,esd,epd,en _ hd2,rd⟩ (by simpa using hsz) λh3 k vs' hd3 e3 kp3=>?_
 ·obtain⟨n,t,y,T,a1,a2,a3,a4⟩:=hp j x hx
  exact⟨n,t,y,T,a1,a2,a3,(by obtain⟨o,_,e,_⟩:=a4;exact nI (up2 _ _ e)),(by obtain⟨o,_,e,_⟩:=a4;exact lt e),a4.keep λo e=>en _ (up2 _ _ e)⟩
 ·exact⟨rfl,q h3 k vs' hd3 (by simpa using e3) λb o e=>kp3 b o (nI (up2 _ _ e)) (lt e) (en _ (up2 _ _ e))⟩
end
def Aer (H:Hp)(as:List eg)(ks:Za6)(ys:List V):Prop:=as.length=ks.length/\as.length=ys.length/\∀(i:Nat) a k y,as[i]?=some a->ks[i]?=some k->ys[i]?=some y->H a=some (.tup [.str k,y])
def Ae1:List V->Hp->VK->Prop:=λxs H Q=>∃(l:eg) (as:List eg) (ks:Za6) (ys:List V),xs=[.ref l]/\H l=some (.lst (as.map V.ref))/\Aer H as ks ys/\(Ef [] ks ys).length<=ks.length/\∀p,H p=none->Q (.ref p) (upd H p (.dK (Ef [] ks ys)))
theorem oG (hcal:X.calm=true):Ev X (.type "dict") Ae1:=by
 intro pins s G H xs us Q I r h;obtain⟨l,as,ks,ys,rfl,hl,⟨h1,h2,hp⟩,hml,q⟩:=h;obtain⟨u,rfl,ru⟩:=Fh r;cases ru;obtain⟨hz,its,n0,rv,hit⟩:=I.hok l _ hl;obtain rfl:=Yp rv;rw[d7] at hz;have pr:∀i:Nat,∃u:fh,∀a k y,as[i]?=some a->ks[i]?=some k->ys[i]?=some y->Bc y u/\∃t,lG s.heap a (.str k t) u:=λi=>by
  by_cases hi:i<as.length
  ·have e:=hp i _ _ _ (d4 hi) (d4 (by lia)) (d4 (by lia))
   obtain⟨_,its,rv,o,e1,e2,n,e3⟩:=I.hok _ _ e;obtain⟨u1,u2,rfl,r1,r3⟩:=Nk rv;obtain⟨t,rfl⟩:=r1;refine⟨u2,λa k y a1 a2 a3=>?_⟩;rw[d4 hi] at a1;rw[d4 (by lia)] at a2 a3;cases a1;cases a2;cases a3;exact⟨r3,t,o,n,e1,e2,e3⟩
  ·exact⟨.none,λa k y a1 _ _=>absurd (fc.mp a1).1 hi⟩
 let f:Nat->fh:=λi=>(pr i).choose
 have hf:∀i a k y,as[i]?=some a->ks[i]?=some k->ys[i]?=some y->Bc y (f i)/\∃t,lG s.heap a (.str k t) (f i):=λi=>(pr i).choose_spec;have hy:Ay ys ((fb ys.length).map f):=rL f λi y e=>by
  have hi:=(fc.mp e).1;exact(hf i _ _ y (d4 (by lia)) (d4 (by lia)) e).1
 refine R6 (ks:=ks) (ys:=(fb ys.length).map f) (I.ok.hd hcal) hit (by simp;lia) (by simp;lia) (by simpa using hz) (λj x hx=>?_) λh' k vs' d2 ev kp=>?_
 ·have hj:j<as.length:=by have:=(Array.getElem?_eq_some_iff.mp hx).1;simpa using this
  have ex:x=jb as[j]:=by
   have:(as.map jb)[j]?=some x:=by simpa using hx
   rw[d9,d4 hj] at this;exact(ee this).symm
  obtain⟨_,t,hpr⟩:=hf j _ _ _ (d4 hj) (d4 (by lia:j<ks.length)) (d4 (by lia:j<ys.length));exact⟨_,t,f j,as[j],d4 (by lia),by rw[d9,gd (by lia)];rfl,ex,hpr⟩
 ·have hk:KV (Ef [] ks ys) vs':=by rw[ev];exact qK .nil hy
  refine⟨.ref s.heap.objs.size,_,I.laid (o:=.dK (Ef [] ks ys)) (t':=k) kp (d8 _) ⟨by lia,?_,vs',hk,d2⟩,rfl,q _ (I.hok.fresh (d8 _))⟩;exact beq_eq_false_iff_ne.mpr (rh (gm (eT I)))
section
variable {X:Cx}
def Ade:R2:=λx y H Q=>∃d kvs k v,x=.ref d/\y=.str k/\H d=some (.dK kvs)/\Cn kvs (.inr k)=some v/\Q v H
theorem yI:IxR X Ade:=by
 intro value slice pins s G H x y v u Q I rx ry h hs;obtain⟨d,kvs,k,z,rfl,rfl,hd,hv,q⟩:=h;cases rx;obtain⟨_,_,vs,rel,dd⟩:=Zl I.hok hd;obtain⟨w',hw,rw'⟩:=Pl.some_of (v:=z) (o:=valueAt vs (.inr k)) (by rw[<-hv];exact rel.val (.inr k));exact y4 dd.typeIs PySem.F.slot_dict_getitem.lookup (wpAny_getItem_of (wT (k:=.inr k) ry) dd.mapOf hw ⟨z,H,I.tok _,rw',q⟩) hs
theorem Afn {Q:VK}{d:eg}{kvs:List (Key×V)}{k:Str}{v:V}(hd:H d=some (.dK kvs))(hv:Cn kvs (.inr k)=some v)(q:Q v H):Ade (.ref d) (.str k) H Q:=⟨d,kvs,k,v,rfl,rfl,hd,hv,q⟩
def dS:V->List V->Hp->VK->Prop:=λx ws H Q=>∃d kvs k v,x=.ref d/\ws=[.str k,v]/\H d=some (.dK kvs)/\kvs.length<sizeLine/\(∀y,Cn kvs (.inr k)=some y->Q y H)/\(Cn kvs (.inr k)=none->Q v (upd H d (.dK (Lw kvs (.inr k) v))))
theorem tK:MtM X "dict.setdefault" dS:=by
 intro pins s G H x ws v us Q I rx rv h;obtain⟨d,kvs,k,y,rfl,rfl,hd,hl,q1,q2⟩:=h;cases rx;obtain⟨u1,u2,rfl,r1,r2⟩:=Nk rv;obtain⟨z,hm,vs,rel,dd⟩:=Zl I.hok hd;have hz:vs.length<=sizeLine:=by rw[<-rel.length];exact z
 refine DG x6 dd.typeIs PySem.F.entry_dict_setdefault (PySem.F.args_dict_setdefault_3 _ _ _) (PySem.kt_meets_setdefault (Bf X.prog X.w) (k:=(.inr k:Key)) d (wT (k:=.inr k) r1) hm u2) ⟨vs,dd,hz,λw hw=>?_,λhn h' dd' hs=>?_⟩
 ·have e:=rel.val (.inr k:Key)
  rw[hw] at e
  cases e2:Cn kvs (.inr k:Key) with
  |none=>rw[e2] at e;exact e.elim
  |some y'=>
   rw[e2] at e;exact⟨y',H,I.tok _,e,q1 y' e2⟩
 ·have e:=rel.val (.inr k:Key)
  rw[hn] at e;have e2:Cn kvs (.inr k:Key)=none:=by
   cases e2:Cn kvs (.inr k:Key) with
   |none=>rfl
   |some y'=>rw[e2] at e;exact e.elim
  have hl:(Lw kvs (.inr k) y).length<=sizeLine:=by have:=Lh kvs (.inr k:Key) y;lia
  have he:∃q,h'.get? d=some q:=let ⟨q,_,_,hq,_⟩:=dd';⟨q,hq⟩;exact⟨y,_,Ace I (by rw[hd];exact ql) hs he (Ad9 hl hm (rel.put (.inr k) r2) dd'),r2,q2 e2⟩
theorem xE {Q:VK}{d:eg}{kvs:List (Key×V)}{k:Str}{v:V}(hd:H d=some (.dK kvs))(hl:kvs.length<sizeLine)(q1:∀y,Cn kvs (.inr k)=some y->Q y H)(q2:Cn kvs (.inr k)=none->Q v (upd H d (.dK (Lw kvs (.inr k) v)))):dS (.ref d) [.str k,v] H Q:=⟨d,kvs,k,v,rfl,rfl,hd,hl,q1,q2⟩
end
section
variable {X:Cx}
def Ag6:V->List V->Hp->VK->Prop:=λx ws H Q=>∃d kvs k v,x=.ref d/\ws=[.str k,v]/\H d=some (.dK kvs)/\Q ((Cn kvs (.inr k)).getD v) H
theorem Abc:MtM X "dict.get" Ag6:=by
 intro pins s G H x ws v us Q I rx rv h;obtain⟨d,kvs,k,y,rfl,rfl,hd,q⟩:=h;cases rx;obtain⟨u1,u2,rfl,r1,r2⟩:=Nk rv;obtain⟨z,hm,vs,rel,dd⟩:=Zl I.hok hd;exact DG z6 dd.typeIs PySem.F.entry_dict_get (PySem.F.args_dict_get_3 _ _ _) (meets_dict_get_default (Bf X.prog X.w) d (wT (k:=.inr k) r1) hm u2) ⟨_,dd.mapOf,_,H,I.tok _,(rel.val (.inr k)).getD r2,q⟩
end
theorem Nu {x:Str}:∀(ks:Za6) (ys:List V) (kvs:List (Key×V)),x∉ks->Cn (Ef kvs ks ys) (.inr x)=Cn kvs (.inr x)
 |[],_,_,_=>by unfold Ef;rfl
 |_::_,[],_,_=>by unfold Ef;rfl
 |k::ks,y::ys,kvs,h=>by
  show Cn (Ef (Lw kvs (.inr k) y) ks ys) _=_;rw[Nu ks ys _ λz=>h (gv _ z),Jv,if_neg λz=>h (by rw[vg z];exact gu)]
theorem U7 {x:Str}{v:V}:∀(ks:Za6) (ys:List V) (kvs:List (Key×V)) (i:Nat),ks.Nodup->ks[i]?=some x->ys[i]?=some v->Cn (Ef kvs ks ys) (.inr x)=some v
 |[],_,_,_,_,h,_=>by simp at h
 |_::_,[],_,_,_,_,h=>by simp at h
 |k::ks,y::ys,kvs,0,nd,h1,h2=>by
  obtain rfl:=ee h1;obtain rfl:=ee h2;show Cn (Ef (Lw kvs (.inr k) y) ks ys) _=_;rw[Nu ks ys _ (o8.mp nd).1,Jv,if_pos rfl]
 |k::ks,y::ys,kvs,i+1,nd,h1,h2=>U7 ks ys _ i (o8.mp nd).2 h1 h2
end L2
end
section
namespace TW
open PySem L2
def Vk (c:Nat):Bool:=decide (97<=c/\c<=122)
def Hr (x:Str):Bool:=decide (1<=x.length/\x.length<=8)&&x.cps.toList.all Vk
def ltN (x y:Str×Nat):Bool:=ltS x.1 y.1
def prN (nm:Za6):List (Str×Nat):=Ax ltN (nm.zip (fb nm.length))
def Kx (nm:Za6):Za4:=(prN nm).map (·.2)
def F3 (nm:Za6):Za6:=(prN nm).map (·.1)
theorem Ab9 {nm:Za6}{p:Str×Nat}(h:p∈nm.zip (fb nm.length)):nm[p.2]?=some p.1:=by
 obtain⟨i,hi⟩:=j6 h;rw[nw] at hi;have hl:i<nm.length:=(fc.mp hi.1).1;rw[gd hl] at hi;obtain⟨h1,h2⟩:=hi;rw[<-ee h2];exact h1
theorem pW (nm:Za6):(prN nm).length=nm.length:=by unfold prN;rw[Hh,sg,fe,rb]
theorem Pe (nm:Za6):(Kx nm).length=nm.length:=by unfold Kx;rw[d7,pW]
theorem Jn (nm:Za6):(F3 nm).length=nm.length:=by unfold F3;rw[d7,pW]
theorem fB {α:Type}:∀(a:List α) (b:Za4),b.length<=a.length->(a.zip b).map (·.2)=b
 |_,[],_=>by rw[List.zip_nil_right];rfl
 |[],_::_,h=>by simp at h
 |x::a,y::b,h=>by rw[CU,im,fB a b (by simpa using h)]
theorem qQ {β:Type}:∀(a:Za6) (b:List β),a.length<=b.length->(a.zip b).map (·.1)=a
 |[],_,_=>by rw[List.zip_nil_left];rfl
 |_::_,[],h=>by simp at h
 |x::a,y::b,h=>by rw[CU,im,qQ a b (by simpa using h)]
theorem wB (nm:Za6):Ord (Kx nm):=by
 have hp:(Kx nm).Perm (fb nm.length):=by
  have:=(E4 ltN (nm.zip (fb nm.length))).map (·.2);rw[fB _ _ (by rw[fe];exact d8 _)] at this;exact this
 refine⟨λx hx=>?_,hp.nodup_iff.mpr List.nodup_range⟩;rw[Pe];exact jm.mp (hp.mem_iff.mp hx)
theorem X9 (nm:Za6):Ec nm (Ij nm.length)=(Kx nm).map λn:Nat=>(n:Int):=by
 unfold Ec Kx prN Ij;rw[show nm.zip ((fb nm.length).map λj:Nat=>(j:Int))=(nm.zip (fb nm.length)).map λp=>(p.1,(p.2:Int)) by
  rw[CT];exact jc λ⟨x,y⟩ _=>rfl]
 rw[Hg (lt:=ltN) (lt':=Abl) (f:=λp:Str×Nat=>(p.1,(p.2:Int))) (λ_ _=>rfl),jf,jf];rfl
theorem N9 (nm:Za6):Ax ltS nm=F3 nm:=by
 unfold F3 prN;have:=Hg (lt:=ltN) (lt':=ltS) (f:=λp:Str×Nat=>p.1) (λ_ _=>rfl) (nm.zip (fb nm.length));rw[qQ _ _ (by rw[fe];exact d8 _)] at this;exact this
def bgN (S:Za6):Za5:=(fb S.length).map λi=>decide (i=0\/S[i]?≠S[i-1]?)
def bgs (S:Za6)(k:Nat):Za4:=occ true (bgN S) k
def Re (S:Za6)(b e:Nat):Str×Nat×Nat:=(S.getD b ⟨#[]⟩,b,e)
def Fa (S:Za6)(k:Nat):List (Str×Nat×Nat):=((bgs S k).zip ((bgs S k).drop 1++[k])).map λp=>Re S p.1 p.2
theorem Adu {S:Za6}{i:Nat}(h:i<S.length):(bgN S).getD i false=decide (i=0\/S[i]?≠S[i-1]?):=by
 unfold bgN;rw[gg,d9,gd h];rfl
theorem Jw {S:Za6}{k:Nat}(h:k<S.length):bgs S (k+1)=bgs S k++if k=0\/S[k]?≠S[k-1]? then[k] else[]:=by
 unfold bgs;rw[Jm,Adu h]
 by_cases c:k=0\/S[k]?≠S[k-1]?
 ·rw[if_pos c,decide_eq_true c];rfl
 ·rw[if_neg c,decide_eq_false c];rfl
theorem jS {S:Za6}:∀{k:Nat},k<S.length->∃B b,bgs S (k+1)=B++[b]/\b<=k/\S[b]?=S[k]?
 |0,h=>⟨[],0,by rw[Jw h,if_pos (.inl rfl)];rfl,d8 _,rfl⟩
 |k+1,h=>by
  obtain⟨B,b,e,hb,es⟩:=jS (S:=S) (k:=k) (by lia);rw[Jw h]
  by_cases c:k+1=0\/S[k+1]?≠S[k+1-1]?
  ·exact⟨_,k+1,by rw[if_pos c],d8 _,rfl⟩
  ·rw[if_neg c,gy]
   refine⟨B,b,e,by lia,es.trans ?_⟩;have:S[k+1]?=S[k+1-1]?:=nl λz=>c (.inr z);rw[this];rfl
theorem Oq (B:Za4)(b k:Nat):(B++[b]).zip ((B++[b]).drop 1++[k])=B.zip ((B++[b]).drop 1)++[(b,k)]:=by
 refine List.zip_append ?_;rw[ic,eh,ja];lia
theorem tU {S:Za6}{k:Nat}{x:Str}(h:S[k]?=some x) :
  (Fa S k=[]/\k=0/\Fa S (k+1)=[(x,k,k+1)])\/(∃R y b,0<k/\Fa S k=R++[(y,b,k)]/\(y=x->Fa S (k+1)=R++[(x,b,k+1)])/\(y≠x->Fa S (k+1)=R++[(y,b,k),(x,k,k+1)])):=by
 have hk:=(fc.mp h).1;have gx:S.getD k ⟨#[]⟩=x:=by rw[gg,h];rfl
 cases k with
 |zero=>
  refine .inl ⟨rfl,rfl,?_⟩;unfold Fa;rw[Jw hk,if_pos (.inl rfl)];show[Re S 0 1]=_;unfold Re;rw[gx]
 |succ k=>
  obtain⟨B,b,e,hb,es⟩:=jS (S:=S) (k:=k) (by lia);obtain⟨y,hy⟩:∃y,S[k]?=some y:=⟨_,d4 (by lia)⟩;have gb:S.getD b ⟨#[]⟩=y:=by rw[gg,es,hy];rfl
  refine .inr ⟨(B.zip ((B++[b]).drop 1)).map λp=>Re S p.1 p.2,y,b,by lia,?_,λhyx=>?_,λhyx=>?_⟩
  ·unfold Fa
   rw[e,Oq,fj];show _++[Re S b (k+1)]=_;unfold Re;rw[gb]
  ·unfold Fa
   rw[Jw hk,if_neg (λz=>z.elim (λz=>by lia) λz=>z (by show S[k+1]?=S[k]?;rw[h,hy,hyx])),gy,e,Oq,fj];show _++[Re S b (k+1+1)]=_;unfold Re;rw[gb,hyx]
  ·unfold Fa
   rw[Jw hk,if_pos (.inr λz=>hyx (by have z:S[k+1]?=S[k]?:=z;rw[h,hy] at z;exact(ee z).symm)),e,Oq (B++[b]) (k+1)];rw[show((B++[b])++[k+1]).drop 1=(B++[b]).drop 1++[k+1] by rw[mr (by rw[eh,ja];lia)],Oq,fj,fj,fm];show _++([Re S b (k+1)]++[Re S (k+1) (k+1+1)])=_;unfold Re;rw[gb,gx];rfl
theorem pC {α:Type}{lt:α->α->Bool}{p:α->Bool}:∀(a:List α) (x:α),Srt lt a->(∀y,p x=true->p y=true->lt x y=false)->(∀y z,p x=true->lt x y=true->lt z y=false->p z=false)->(mg lt a [x]).filter p=a.filter p++[x].filter p
 |[],x,_,_,_=>by rw[Gx];rfl
 |y::a,x,hs,h1,h2=>by
  rw[Kj];have hs':Srt lt a:=(mi.mp hs).2
  by_cases c:lt x y=true
  ·rw[if_pos c,C6]
   by_cases px:p x=true
   ·have hn:(y::a).filter p=[]:=l7.mpr λz hz=>by
     rcases iu.mp hz with rfl|hz
     ·intro pz
      rw[h1 z px pz] at c;cases c
     ·rw[h2 y z px c ((mi.mp hs).1 z hz)]
      decide
    rw[hn,jd,if_pos px,hn,jd,if_pos px];rfl
   ·rw[jd,if_neg px,jd (x:=x) (xs:=[]),if_neg px]
    simp
  ·rw[if_neg c,jd,jd (x:=y) (xs:=a),pC a x hs' h1 h2]
   by_cases py:p y=true
   ·rw[if_pos py,if_pos py];rfl
   ·rw[if_neg py,if_neg py]
theorem lY {α:Type}{lt:α->α->Bool}(o:Swo lt){p:α->Bool}(h1:∀x y,p x=true->p y=true->lt x y=false)(h2:∀x y z,p x=true->lt x y=true->lt z y=false->p z=false)(l:List α):(Ax lt l).filter p=l.filter p:=by
 refine J0 (P:=λl=>(Ax lt l).filter p=l.filter p) rfl (λl x ih=>?_) l;rw[Cw,pC _ x (Mf o l) (λy=>h1 x y) (λy z=>h2 x y z),ih,lr]
theorem Fg {α:Type}{p:α->Bool}:∀(l:List α) (lo hi:Nat),lo<=hi->(∀(i:Nat) z,l[i]?=some z->(p z=true↔lo<=i/\i<hi))->l.filter p=(l.drop lo).take (hi-lo)
 |[],lo,hi,_,_=>by simp
 |x::l,lo,hi,hh,h=>by
  have h0:=h 0 x rfl
  cases lo with
  |zero=>
   cases hi with
   |zero=>
    rw[jd,if_neg (λz=>by have:=h0.mp z;lia),Fg l 0 0 (d8 _) λi z e=>by have:=h (i+1) z e;exact⟨λq=>by have:=this.mp q;lia,λq=>by lia⟩];simp
   |succ hi=>
    rw[jd,if_pos (h0.mpr ⟨d8 _,x8 _⟩),Fg l 0 hi (gp _) λi z e=>by have:=h (i+1) z e;exact⟨λq=>⟨gp _,by have:=(this.mp q).2;lia⟩,λq=>this.mpr ⟨gp _,by lia⟩⟩];simp
  |succ lo=>
   rw[jd,if_neg (λz=>by have:=(h0.mp z).1;lia),Fg l lo (hi-1) (by lia) λi z e=>by have:=h (i+1) z e;exact⟨λq=>by have:=this.mp q;lia,λq=>this.mpr (by lia)⟩,List.drop_succ_cons];congr 1;lia
def ofN (nm:Za6)(x:Str):Za4:=(fb nm.length).filter λk=>decide (nm[k]?=some x)
theorem Abs {nm:Za6}{x:Str}{lo hi:Nat}(hh:lo<=hi)(h:∀(i:Nat) z,(F3 nm)[i]?=some z->(z=x↔lo<=i/\i<hi)):((Kx nm).drop lo).take (hi-lo)=ofN nm x:=by
 have hS:Swo ltN:=Pj λp:Str×Nat=>p.1;have e1:=lY hS (p:=λq:Str×Nat=>decide (q.1=x)) (λa b pa pb=>by
  show ltS a.1 b.1=false;rw[of_decide_eq_true pa,of_decide_eq_true pb];exact(Pj id).1 _) (λa b c pa h1 h2=>decide_eq_false λhc=>by
  have h1:ltS a.1 b.1=true:=h1;have h2:ltS c.1 b.1=false:=h2;rw[of_decide_eq_true pa,<-hc,h2] at h1;cases h1) (nm.zip (fb nm.length))
 have e2:=Fg (p:=λq:Str×Nat=>decide (q.1=x)) (prN nm) lo hi hh λi z e=>by
  rw[decide_eq_true_iff];exact h i z.1 (by unfold F3;rw[d9,e];rfl)
 have e3:(prN nm).filter (λq:Str×Nat=>decide (q.1=x))=(nm.zip (fb nm.length)).filter λq:Str×Nat=>decide (q.1=x):=e1;unfold Kx ofN;rw[<-qg,<-pe,<-e2,e3];have key:∀(q:Str×Nat),q∈nm.zip (fb nm.length)->decide (q.1=x)=decide (nm[q.2]?=some x):=λq hq=>by
  rw[Ab9 hq];exact decide_eq_decide.mpr ⟨λe=>by rw[e],λe=>ee e⟩
 rw[List.filter_congr key];have e4:∀(l:List (Str×Nat)) (f:Nat->Bool),(l.filter λq=>f q.2).map (·.2)=(l.map (·.2)).filter f:=λl f=>by rw[List.filter_map];rfl
 rw[e4 _ λk=>decide (nm[k]?=some x),fB _ _ (by rw[fe];exact d8 _)]
structure Ag7 (S:Za6) (k:Nat) (rows:List (Str×Nat×Nat)):Prop where
 at':∀r∈rows,r.2.1<r.2.2/\r.2.2<=k/\∀i z,i<k->S[i]?=some z->(z=r.1↔r.2.1<=i/\i<r.2.2)
 all:∀i z,i<k->S[i]?=some z->∃r∈rows,r.1=z
 nd:(rows.map (·.1)).Nodup
theorem rG {S:Za6}(hS:Srt ltS S):∀k,k<=S.length->Ag7 S k (Fa S k)
 |0,_=>⟨(λr hr=>by cases hr),(λi z hi=>by lia),List.nodup_nil⟩
 |k+1,hk=>by
  have ih:=rG hS k (by lia);obtain⟨x,hx⟩:∃x,S[k]?=some x:=⟨_,d4 (by lia)⟩;rcases tU hx with⟨e0,rfl,e1⟩|⟨R,y,b,hk0,e0,e1,e2⟩
  ·rw[e1]
   refine⟨λr hr=>?_,λi z hi hz=>⟨_,gu,?_⟩,by simp⟩
   ·obtain rfl:=fz.mp hr
    refine⟨nj 0,d8 _,λi z hi hz=>?_⟩;obtain rfl:i=0:=by lia
    rw[hx] at hz;exact⟨λ_=>⟨d8 _,by lia⟩,λ_=>(ee hz).symm⟩
   ·obtain rfl:i=0:=by lia
    rw[hx] at hz;exact ee hz
  ·rw[e0] at ih
   obtain⟨l1,_,l3⟩:=ih.at' (y,b,k) (by simp);obtain⟨w,hw⟩:∃w,S[k-1]?=some w:=⟨_,d4 (by lia)⟩;have hwy:w=y:=(l3 (k-1) w (by lia) hw).mpr ⟨by have l1:b<k:=l1;show b<=k-1;lia,by show k-1<k;lia⟩;subst hwy;have hnd:=ih.nd;rw[fj,DJ] at hnd;have srt:∀{i j:Nat} {u v:Str},i<j->S[i]?=some u->S[j]?=some v->ltS v u=false:=λhij hu hv=>yG hS hij hu hv;have hR:∀r∈R,r.1≠w/\r.1≠x:=λr hr=>by
    have hn:r.1≠w:=λz=>hnd.2.2 r.1 (om (f:=(·.1)) hr) w (by simp) z;refine⟨hn,λz=>hn ?_⟩;obtain⟨a1,a2,a3⟩:=ih.at' r (kj _ hr);obtain⟨u,hu⟩:∃u,S[r.2.1]?=some u:=⟨_,d4 (by lia)⟩;have hur:u=r.1:=(a3 r.2.1 u (by lia) hu).mpr ⟨d8 _,a1⟩;subst hur
    by_cases hb:r.2.1=k-1
    ·rw[hb,hw] at hu
     exact(ee hu).symm
    ·have t1:=srt (show r.2.1<k-1 by lia) hu hw
     have t2:=srt (show k-1<k by lia) hw hx;rw[<-z] at t2;exact Aaz (by rw[t2];decide) (by rw[t1];decide)
   have hold:∀r∈R,r.2.1<r.2.2/\r.2.2<=k+1/\∀i z,i<k+1->S[i]?=some z->(z=r.1↔r.2.1<=i/\i<r.2.2):=λr hr=>by
    obtain⟨a1,a2,a3⟩:=ih.at' r (kj _ hr);refine⟨a1,by lia,λi z hi hz=>?_⟩
    by_cases hik:i=k
    ·subst hik
     rw[hx] at hz;obtain rfl:=ee hz;exact⟨λq=>absurd q.symm (hR r hr).2,λq=>by lia⟩
    ·exact a3 i z (by lia) hz
   by_cases hyx:w=x
   ·rw[e1 hyx]
    refine⟨λr hr=>?_,λi z hi hz=>?_,?_⟩
    ·rcases il.mp hr with hr|hr
     ·exact hold r hr
     ·obtain rfl:=fz.mp hr
      refine⟨by have l1:b<k:=l1;show b<k+1;lia,d8 _,λi z hi hz=>?_⟩
      by_cases hik:i=k
      ·subst hik
       rw[hx] at hz;exact⟨λ_=>⟨by have l1:b<i:=l1;show b<=i;lia,by show i<i+1;lia⟩,λ_=>(ee hz).symm⟩
      ·have:=l3 i z (by lia) hz
       show z=x↔b<=i/\i<k+1;rw[<-hyx];have this:z=w↔b<=i/\i<k:=this;rw[this];lia
    ·by_cases hik:i=k
     ·subst hik
      rw[hx] at hz;exact⟨_,gt _ (fz.mpr rfl),ee hz⟩
     ·obtain⟨r,hr,hrz⟩:=ih.all i z (by lia) hz
      rcases il.mp hr with hr|hr
      ·exact⟨r,kj _ hr,hrz⟩
      ·rw[fz.mp hr] at hrz
       exact⟨_,gt _ (fz.mpr rfl),hyx.symm.trans hrz⟩
    ·have:=ih.nd
     rw[fj] at this ⊢;rw[<-hyx];exact this
   ·rw[e2 hyx]
    refine⟨λr hr=>?_,λi z hi hz=>?_,?_⟩
    ·rcases il.mp hr with hr|hr
     ·exact hold r hr
     ·rcases iu.mp hr with rfl|hr
      ·refine⟨l1,wo _,λi z hi hz=>?_⟩
       by_cases hik:i=k
       ·subst hik
        rw[hx] at hz;obtain rfl:=ee hz;exact⟨λq=>absurd q.symm hyx,λq=>by have:=q.2;exact absurd this (ln _)⟩
       ·exact l3 i z (by lia) hz
      ·obtain rfl:=fz.mp hr
       refine⟨nj _,d8 _,λi z hi hz=>?_⟩
       by_cases hik:i=k
       ·subst hik
        rw[hx] at hz;exact⟨λ_=>⟨d8 _,nj _⟩,λ_=>(ee hz).symm⟩
       ·refine⟨λq=>?_,λq=>by have q1:k<=i:=q.1;lia⟩
        obtain⟨r,hr,hrz⟩:=ih.all i z (by lia) hz;have q:z=x:=q;rcases il.mp hr with hr|hr
        ·exact absurd (hrz.trans q) (hR r hr).2
        ·rw[fz.mp hr] at hrz
         exact absurd (show w=x from Eq.trans hrz q) hyx
    ·by_cases hik:i=k
     ·subst hik
      rw[hx] at hz;exact⟨(x,i,i+1),by simp,ee hz⟩
     ·obtain⟨r,hr,hrz⟩:=ih.all i z (by lia) hz
      rcases il.mp hr with hr|hr
      ·exact⟨r,kj _ hr,hrz⟩
      ·rw[fz.mp hr] at hrz
       exact⟨(w,b,k),by simp,hrz⟩
    ·rw[fj,DJ]
     refine⟨hnd.1,by simp[hyx],λu hu v hv=>?_⟩;obtain⟨r,hr,rfl⟩:=lp.mp hu;have hv:v=w\/v=x:=by simpa using hv
     rcases hv with rfl|rfl
     ·exact(hR r hr).1
     ·exact(hR r hr).2
theorem zR (nm:Za6):Srt ltS (F3 nm):=by
 rw[<-N9];exact Mf (Pj id) nm
def anc (ds:Za4)(k:Nat):List Int:=(way ds k).tail.take (dAt ds k)
theorem O0 {ds:Za4}(h:Dok ds){a m:Nat}:∀b,a<b->b<=ds.length->(∀i,a<i->i<b->m<=dAt ds i)->(way ds b).take (m+1)=(way ds (a+1)).take (m+1)
 |0,h1,_,_=>by lia
 |b+1,h1,h2,hi=>by
  by_cases e:a=b
  ·rw[e]
  ·have hm:=hi b (by lia) (by lia)
   have hl:=Cc h b (by lia);have hd:=h b (by lia);show((way ds b).take (dAt ds b+1)++[(b:Int)]).take (m+1)=_;rw[jp (by rw[fi];lia),oq,io (by lia)];exact O0 h b (by lia) (by lia) λi h3 h4=>hi i h3 (by lia)
theorem Y0 {l l':List Int}{m:Nat}(h:l.take (m+1)=l'.take (m+1)):l.tail.take m=l'.tail.take m:=by
 have e:∀l:List Int,l.tail.take m=(l.take (m+1)).tail:=λl=>by cases l<;>simp
 rw[e,e,h]
theorem wW {ds:Za4}(h:Dok ds){c s v:Nat}(hc:c<=ds.length)(e:(way ds c)[s+1]?=some (v:Int)):dAt ds v=s/\v<c/\anc ds v=(way ds c).tail.take s:=by
 obtain⟨v',hv',hlt,hd⟩:=F1 h c s _ hc e;obtain rfl:v=v':=by lia
 have hk:=O0 h (a:=v) (m:=s) c hlt hc λi h1 h2=>f9 (fQ h c s v hc e i h1 h2);have hl:=Cc h v (by lia);have hdv:=h v (by lia);refine⟨hd,hlt,?_⟩;unfold anc;rw[hd];refine Y0 ?_;rw[hk];show _=((way ds v).take (dAt ds v+1)++[(v:Int)]).take (s+1);rw[jp (by rw[fi];lia),oq,io (by lia)]
theorem Abj {ds:Za4}(h:Dok ds){a:Nat}(ha:a<ds.length):(way ds (a+1)).tail=anc ds a++[(a:Int)]:=by
 show((way ds a).take (dAt ds a+1)++[(a:Int)]).tail=_;rw[qC h (show a<=ds.length by lia)];rfl
theorem vV {ds:Za4}(h:Dok ds){a b m:Nat}{f:Int->Bool}(hab:a<b)(hb:b<ds.length)(hm:∀i,a<i->i<=b->m<=dAt ds i)(hf:∀i:Nat,a<i->i<b->f (i:Int)=false)
  (hno:∀s v:Nat,(way ds b)[s+1]?=some (v:Int)->m<=s->s<dAt ds b->a<v):(anc ds b).filter f=((way ds (a+1)).tail.take m).filter f:=by
 have hk:=Y0 (O0 h (a:=a) (m:=m) b hab (by lia) λi h1 h2=>hm i h1 (by lia));have hmb:=hm b hab (d8 _);have hl:=Cc h b (by lia);have hdb:=h b hb;have hp:=qC h (show b<=ds.length by lia);rw[<-hk];unfold anc;have es:(way ds b).tail.take (dAt ds b)=(way ds b).tail.take m++((way ds b).tail.drop m).take (dAt ds b-m):=by
  rw[<-jn m ((way ds b).tail.take (dAt ds b)),oq,io hmb,EX]
 have e0:(((way ds b).tail.drop m).take (dAt ds b-m)).filter f=[]:=l7.mpr λx hx=>?_
 ·rw[es,lr,e0,gy]
 obtain⟨i,hi⟩:=j6 hx;have hil:=(fc.mp hi).1;rw[fi] at hil;rw[gj (by lia),i5] at hi;have hw:(way ds b)[m+i+1]?=some x:=by rw[hp];exact hi
 obtain⟨v,rfl,hvb,hdv⟩:=F1 h b (m+i) x (by lia) hw;have hav:=hno (m+i) v hw (by lia) (by lia);rw[hf v hav hvb];decide
theorem gV {ds:Za4}(h:Dok ds){i:Nat}:∀n,i+n<ds.length->dAt ds (i+n)<=dAt ds i+n
 |0,_=>d8 _
 |n+1,hn=>by
  have h1:=gV h (i:=i) n (by lia);have h2:=h (i+n+1) (by lia);have h3:opn ds (i+n+1)=dAt ds (i+n)+1:=rfl;rw[show i+(n+1)=i+n+1 by lia];lia
theorem Od {ds:Za4}(h:Dok ds){i j:Nat}(hij:i<j)(hj:j<ds.length):2*i-dAt ds i<2*j-dAt ds j:=by
 obtain⟨n,rfl⟩:=ke (f9 hij);have h1:=gV h (i:=i) n hj;have h2:=(Mc h (show i<ds.length by lia)).1;have h3:=(Mc h hj).1;lia
theorem Aal {ds:Za4}(h:Dok ds){b c s:Nat}(hb:b<ds.length)(e:(way ds b)[s+1]?=some (c:Int))(hs:s<dAt ds b):b<Bv ds c:=by
 obtain⟨c',hc',hcb,hd⟩:=F1 h b s _ (by lia) e;obtain rfl:c=c':=by lia
 obtain⟨h1,h2,_,h4⟩:=Ds (ds:=ds) (show c<ds.length by lia);refine nl λhn=>?_;have h4:=h4 (by lia);have gap:=fQ h b s c (by lia) e;have hdi:s<dAt ds (Bv ds c):=by
  by_cases z:Bv ds c=b
  ·rw[z];exact hs
  ·exact gap _ h1 (by lia)
 have hw:=pD h (k:=c) (Bv ds c) h1 h2 λj j1 j2=>by rw[hd];exact gap j j1 (by lia)
 have he:=Ia h (show Bv ds c<ds.length by lia);rw[hd] at hw
 by_cases z:s+1=dAt ds (Bv ds c)
 ·rw[z,he] at hw
  have:=ee hw;lia
 ·have:=K8 h (Bv ds c) (s+1) (dAt ds (Bv ds c)) _ _ h2 (by lia) hw he
  lia
theorem Adc {ds:Za4}(h:Dok ds){b c s p:Nat}(hb:b<ds.length)(e:(way ds b)[s+1]?=some (c:Int))(hs:s<dAt ds b)(h1:2*c-dAt ds c<p)(h2:p<=2*b-dAt ds b):((s+1:Nat):Int)<=hg (B1 ds) p:=by
 obtain⟨c',hc',hcb,hd⟩:=F1 h b s _ (by lia) e;obtain rfl:c=c':=by lia
 have hc:c<ds.length:=by lia
 have hend:=Aal h hb e hs;obtain⟨A,B,a1,a2,a3,a4,a5,a6⟩:=Tk h hc;have hu:=Im ds c;have hp:p=A.length+(p-A.length):=by lia
 have h5:=a5 (p-A.length) (by lia);have h6:=(U8 (Px h hc)).1 (p-A.length) (by lia);rw[hp,h5];lia
structure Aeb (ds:Za4) (a b m:Nat):Prop where
 up:∀i,a<i->i<=b->m<=dAt ds i
 no:∀s v:Nat,(way ds b)[s+1]?=some (v:Int)->m<=s->s<dAt ds b->a<v
theorem Aa1 {ds:Za4}(h:Dok ds){a b m p0:Nat}(hab:a<b)(hb:b<ds.length)(hl:∀p,2*a-dAt ds a+1<=p->p<=2*b-dAt ds b->(m:Int)<=hg (B1 ds) p)(h1:2*a-dAt ds a+1<=p0)(h2:p0<=2*b-dAt ds b)(h3:hg (B1 ds) p0=(m:Int)):Aeb ds a b m:=by
 refine⟨λi i1 i2=>?_,λs v e hs hsb=>?_⟩
 ·have:=Od h i1 (show i<ds.length by lia)
  have h4:=hl (2*i-dAt ds i) (by lia) (by
   rcases mq i2 with z|z
   ·exact f9 (Od h z hb)
   ·rw[z];exact d8 _)
  obtain⟨_,_,_,_,_,g,_⟩:=Tk h (show i<ds.length by lia);lia
 ·refine nl λhn=>?_
  have hva:2*v-dAt ds v<=2*a-dAt ds a:=by
   rcases mq (show v<=a by lia) with z|z
   ·exact f9 (Od h z (by lia))
   ·rw[z];exact d8 _
  have:=Adc h hb e hsb (p:=p0) (by lia) h2;lia
theorem fR {ds:Za4}(h:Dok ds){a b m:Nat}(hab:a<b)(hb:b<ds.length)(hN:Aeb ds a b (m+1)):∃c:Nat,(way ds b)[m+1]?=some (c:Int)/\(way ds (a+1))[m+1]?=some (c:Int)/\c<=a/\dAt ds c=m/\m<dAt ds b:=by
 have hmb:=hN.up b hab (d8 _);have hdb:=h b hb;have hl:=Cc h b (by lia);obtain⟨x,hx⟩:∃x,(way ds b)[m+1]?=some x:=⟨_,d4 (by lia)⟩;obtain⟨c,rfl,hcb,hd⟩:=F1 h b m x (by lia) hx;have hk:=O0 h (a:=a) (m:=m+1) b hab (by lia) λi i1 i2=>hN.up i i1 (by lia);have hx2:(way ds (a+1))[m+1]?=some (c:Int):=by
  have e1:((way ds b).take (m+1+1))[m+1]?=some (c:Int):=by rw[gj (by lia)];exact hx
  rw[hk,gj (by lia)] at e1;exact e1
 obtain⟨c2,hc2,hlt,_⟩:=F1 h (a+1) m _ (by lia) hx2;exact⟨c,hx,hx2,by lia,hd,by lia⟩
def C4 (nm:Za6)(x:Str)(lo hi:Nat):Prop:=lo<=hi/\hi<=nm.length/\(lo=hi->lo=0)/\∀(i:Nat) z,(F3 nm)[i]?=some z->(z=x↔lo<=i/\i<hi)
theorem uQ (nm:Za6)(x:Str){es:List eg}(hl:es.length=(Fa (F3 nm) nm.length).length) :
  (Cn (Ef [] ((Fa (F3 nm) nm.length).map (·.1)) (es.map V.ref)) (.inr x)=none/\C4 nm x 0 0) \/
  ∃(i:Nat) (e:eg) (r:Str×Nat×Nat),es[i]?=some e/\(Fa (F3 nm) nm.length)[i]?=some r/\Cn (Ef [] ((Fa (F3 nm) nm.length).map (·.1)) (es.map V.ref)) (.inr x)=some (.ref e)/\C4 nm x r.2.1 r.2.2:=by
 have ok:=rG (zR nm) nm.length (by rw[Jn];exact d8 _);have hlt:∀{i:Nat} {z:Str},(F3 nm)[i]?=some z->i<nm.length:=λh=>by
  obtain⟨l,_⟩:=fc.mp h;rw[Jn] at l;exact l
 by_cases hx:x∈(Fa (F3 nm) nm.length).map (·.1)
 ·right
  obtain⟨i,hi⟩:=List.mem_iff_getElem?.mp hx;rw[d9] at hi;obtain⟨r,hr,rfl⟩:=kt.mp hi;obtain⟨li,_⟩:=fc.mp hr;obtain⟨e,he⟩:∃e,es[i]?=some e:=⟨_,d4 (by lia)⟩;obtain⟨a1,a2,a3⟩:=ok.at' r (f8 hr);exact⟨i,e,r,he,hr,U7 _ _ _ i ok.nd (by rw[d9,hr];rfl) (by rw[d9,he];rfl),f9 a1,a2,λe=>absurd e (gm a1),λj z h=>a3 j z (hlt h) h⟩
 ·left
  refine⟨by rw[Nu _ _ _ hx];rfl,d8 _,gp _,λ_=>rfl,λi z h=>⟨λe=>absurd ?_ hx,λe=>by lia⟩⟩;obtain⟨r,hr,hz⟩:=ok.all i z (hlt h) h;rw[<-e,<-hz];exact om (f:=(·.1)) hr
theorem C4.has {nm:Za6}{x:Str}{lo hi i:Nat}(h:C4 nm x lo hi)(h1:lo<=i)(h2:i<hi):(F3 nm)[i]?=some x:=by
 obtain⟨a1,a2,_,a4⟩:=h;obtain⟨z,e⟩:∃z,(F3 nm)[i]?=some z:=⟨_,d4 (by rw[Jn];lia)⟩;rw[e,(a4 i _ e).mpr ⟨h1,h2⟩]
theorem C4.uniq {nm:Za6}{x:Str}{lo hi lo' hi':Nat}(h:C4 nm x lo hi)(h':C4 nm x lo' hi'):lo=lo'/\hi=hi':=by
 have key:∀{lo hi lo' hi':Nat},C4 nm x lo hi->C4 nm x lo' hi'->lo<hi->lo'<=lo/\hi<=hi':=λ{lo hi lo' hi'} h h' l=>by
  have e1:=(h'.2.2.2 lo x (h.has (d8 _) l)).mp rfl;have e2:=(h'.2.2.2 (hi-1) x (h.has (by lia) (by lia))).mp rfl;lia
 obtain⟨a1,_,a3,_⟩:=id h;obtain⟨b1,_,b3,_⟩:=id h';rcases ya lo hi with l|l
 ·have k1:=key h h' l
  have k2:=key h' h (by lia);lia
 ·rcases ya lo' hi' with m|m
  ·have k2:=key h' h m
   lia
  ·have:=a3 (by lia)
   have:=b3 (by lia);lia
theorem C4.cut {nm:Za6}{x:Str}{lo hi:Nat}(h:C4 nm x lo hi):((Kx nm).drop lo).take (hi-lo)=ofN nm x:=Abs h.1 h.2.2.2
theorem C4.len {nm:Za6}{x:Str}{lo hi:Nat}(h:C4 nm x lo hi):hi=lo+(ofN nm x).length:=by
 rw[<-h.cut,fi,ic,Pe];obtain⟨a1,a2,_⟩:=h;lia
theorem C4.at' {nm:Za6}{x:Str}{lo hi i:Nat}(h:C4 nm x lo hi)(hi':i<(ofN nm x).length):(Kx nm)[lo+i]?=(ofN nm x)[i]?:=by
 have:=h.len;rw[<-h.cut,jg,if_pos (by lia),i5]
theorem Pc (nm:Za6)(x:Str):(ofN nm x).Pairwise (· < ·):=GT _ List.pairwise_lt_range
def Ck (l:Za4)(k:Nat):Nat:=(l.filter λv=>decide (v<k)).length
theorem Acd {l:Za4}{k i:Nat}(h:l.Pairwise (· < ·))(hi:i<=l.length)(h1:∀v,0<i->l[i-1]?=some v->v<k)(h2:∀v,l[i]?=some v->k<=v):i=Ck l k:=by
 have inc:∀{a b u v:Nat},a<b->l[a]?=some u->l[b]?=some v->u<v:=λ{a b u v} hab ha hb=>by
  obtain⟨la,rfl⟩:=fc.mp ha;obtain⟨lb,rfl⟩:=fc.mp hb;exact uc.mp h a b la lb hab
 have e:=Fg (p:=λv=>decide (v<k)) l 0 i (gp _) λj z hz=>by
  rw[decide_eq_true_iff];obtain⟨lj,_⟩:=fc.mp hz;refine⟨λhk=>⟨gp _,nl λhn=>?_⟩,λhj=>?_⟩
  ·obtain⟨w,e2⟩:∃w,l[i]?=some w:=⟨_,d4 (by lia)⟩
   have:=h2 _ e2;rcases mq (show i<=j by lia) with y|y
   ·have:=inc y e2 hz
    lia
   ·subst y
    rw[hz] at e2;have:=ee e2;lia
  ·obtain⟨w,e2⟩:∃w,l[i-1]?=some w:=⟨_,d4 (by lia)⟩
   have:=h1 _ (by lia) e2;rcases mq (show j<=i-1 by lia) with y|y
   ·have:=inc y hz e2
    lia
   ·subst y
    rw[hz] at e2;have:=ee e2;lia
 unfold Ck;rw[e,fi,qy];lia
theorem He {b:Nat}:∀{l:Za4},l.Pairwise (· < ·)->∀{i z:Nat},l[i]?=some z->(i<Ck l b↔z<b)
 |[],_,i,z,h=>by cases h
 |x::l,hp,i,z,h=>by
  have hx:=(mi.mp hp).1;have hl:=(mi.mp hp).2
  by_cases c:x<b
  ·have e:Ck (x::l) b=Ck l b+1:=by unfold Ck;rw[jd,if_pos (decide_eq_true c)];rfl
   rw[e]
   cases i with
   |zero=>
    obtain rfl:=ee h;exact⟨λ_=>c,λ_=>x8 _⟩
   |succ i=>
    have:=He hl (b:=b) (show l[i]?=some z from h);lia
  ·have e:Ck (x::l) b=0:=by
    unfold Ck;rw[l7.mpr λv hv=>?_]
    ·rfl
    ·rw[decide_eq_true_iff]
     rcases iu.mp hv with rfl|hv
     ·exact c
     ·have:=hx v hv
      lia
   rw[e];have hz:x<=z:=by
    rcases iu.mp (f8 h) with rfl|hv
    ·exact d8 _
    ·exact f9 (hx z hv)
   lia
theorem Pi (l:Za4)(k:Nat):Ck l k<=l.length:=j9 _ _
theorem Jr {l:Za4}{a b:Nat}(h:a<=b):Ck l a<=Ck l b:=qS λi _ e=>decide_eq_true (fk (of_decide_eq_true e) h)
def iB (l:Za4)(a b:Nat):Za4:=l.filter λv=>decide (a<=v/\v<b)
theorem kD {l:Za4}(h:l.Pairwise (· < ·)){a b:Nat}(hab:a<=b):(l.drop (Ck l a)).take (Ck l b-Ck l a)=iB l a b:=by
 refine(Fg l _ _ (Jr hab) λi z hz=>?_).symm;rw[decide_eq_true_iff];have h1:=He h (b:=a) hz;have h2:=He h (b:=b) hz;lia
theorem uV {l:Za4}(h:l.Pairwise (· < ·)){a b:Nat}(hab:a<=b):(iB l a b).length=Ck l b-Ck l a:=by
 have:=Pi l b;rw[<-kD h hab,fi,ic];lia
theorem vJ {l:Za4}(h:l.Pairwise (· < ·))(k:Nat):(l.filter λv=>decide (k<=v))=l.drop (Ck l k):=by
 have:=Fg (p:=λv=>decide (k<=v)) l (Ck l k) l.length (Pi l k) λi z hz=>by
  have h1:=He h (b:=k) hz;obtain⟨h2,_⟩:=fc.mp hz;rw[decide_eq_true_iff];lia
 rw[this,fw (by rw[ic];exact d8 _)]
theorem C4.bet {nm:Za6}{x:Str}{lo hi a b:Nat}(h:C4 nm x lo hi)(hab:a<=b):((Kx nm).drop (lo+Ck (ofN nm x) a)).take (lo+Ck (ofN nm x) b-(lo+Ck (ofN nm x) a))=iB (ofN nm x) a b:=by
 rw[<-kD (Pc nm x) hab];have hl:=h.len;have h1:=Jr (l:=ofN nm x) hab;have h2:=Pi (ofN nm x) b;have hc:=h.cut;generalize Ck (ofN nm x) a=c at *;generalize Ck (ofN nm x) b=d at *;rw[<-hc,EX,ph,oq,show min (d-c) (hi-lo-c)=lo+d-(lo+c) by lia]
theorem Abo {ds:Za4}(h:Dok ds){k i:Nat}(hk:k<ds.length)(h1:k<i)(h2:i<ds.length):((k:Int)<=eld ds i/\eld ds i<Bv ds k)↔i<Bv ds k:=by
 obtain⟨_,_,h3,_⟩:=Ds hk;have h4:=wA h h2
 by_cases c:i<Bv ds k
 ·have:=h3 i h1 c
  lia
 ·have:=Aa6 h hk (by lia) h2
  lia
end TW
end
namespace TK
open PySem L2 TW
variable {C CB CC CO CP Pt dx i1 i2 it l1 l2:eg} {params:mv} {A:i9} {items:Array fh} {op:vb} {X:Cx} {D:Ie} {env:Env} {tg:i8} {fd:jq} {base h h':jj} {H H' H0 H1 H2:Hp} {J:It} {pins:Za1} {as fp:List eg} {ns ws:List Int} {cs ix:Za4} {N kz nm ps:Za6} {xs:List V} {us vs:Za3} {M:wc} {d n t':Nat} {oT:Obj} {an od:Option eg} {lpos pos pos2:Pos} {scope:nh} {pl:Sem Bool} {s s2:fv} {sp:Sp} {fr:St} {qual z:Str} {te:TE} {wi:TI} {y:V} {cdv ct doc oc pm:fh} {w:iq}
def top (i:Nat):iz:=ip.main.body.getD i (.Pass ⟨0,0,0,0⟩)
abbrev N7:iz:=top 12
theorem iJ:Ah ["thing"] ["thing"] (Ac N7):=by k_cls
abbrev Lp:iz:=top 13
theorem fU:Ah ["thing","low","high"] ["thing","low","high"] (Ac Lp):=by k_cls
abbrev K1:iz:=top 14
theorem eJ:Ah ["bit"] ["bit"] (Ac K1):=by k_cls
abbrev Iu:iz:=top 15
theorem Ui:Ah ["place","greatest"] ["place","greatest"] (Ac Iu):=by k_cls
abbrev G1:iz:=top 16
theorem P5:Ah ["low","high","greatest"] ["low","high","greatest"] (Ac G1):=by k_cls
abbrev Kk:iz:=top 18
theorem Xu:Ah ["k","many_knots"] ["k","many_knots"] (Ac Kk):=by k_cls
abbrev Rp:iz:=top 23
theorem J8:Ah ["word","ones"] ["word"] (Ac Rp):=by k_cls
abbrev Gm:iz:=top 24
theorem L3:Ah ["four","nth","places"] ["four","nth"] (Ac Gm):=by k_cls
theorem Rv:Bb ["four","nth","places"] (Ac Gm) ⟨.function,[(".0",.local),("place",.local),("four",.free)],false,false,[]⟩ "place" ["place","four"] [0]:=by k_cls
abbrev Ri:iz:=top 25
theorem Gj:Ah ["word","nth","low","ones"] ["word","nth"] (Ac Ri):=by k_cls
abbrev Xk:iz:=top 29
theorem uM:Ah ["thing"] ["thing"] (Ac Xk):=by k_cls
abbrev Ry:iz:=top 30
theorem nB:Ah ["signs"] ["signs"] (Ac Ry):=by k_cls
abbrev Ka:iz:=top 31
theorem kP:Ah ["text"] ["text"] (Ac Ka):=by k_cls
theorem X4:Bb ["text"] (Ac Ka) ⟨.function,[(".0",.local),("low",.local),("word_of",.globalImplicit),("WORD_BITS",.globalImplicit),("text",.free)],false,false,[]⟩ "low" ["low","text"] [0]:=by k_cls
abbrev Kg:iz:=top 32
theorem iN:Ah ["word"] ["word"] (Ac Kg):=by k_cls
theorem Xv:Bb ["word"] (Ac Kg) ⟨.function,[(".0",.local),("low",.local),("SIGNS_OF_FOUR",.globalImplicit),("word",.free)],false,false,[]⟩ "low" ["low","word"] [0]:=by k_cls
abbrev L6:iz:=Ap (top 33) 0
theorem eY:Ah ["self","text"] ["self","text"] (Ac L6):=by k_cls
abbrev La:iz:=Ap (top 33) 1
theorem fL:Ah ["self"] ["self"] (Ac La):=by k_cls
abbrev Ke:iz:=Ap (top 33) 3
theorem Yh:Ah ["self"] ["self"] (Ac Ke):=by k_cls
abbrev Ft:iz:=Ap (top 33) 5
theorem Di:Ah ["self","low","high","first","beyond","signs","begin"] ["self","low","high"] (Ac Ft):=by k_cls
theorem Pq:Bb ["self","low","high","first","beyond","signs","begin"] (Ac Ft) ⟨.function,[(".0",.local),("word",.local),("signs_of",.globalImplicit)],false,false,[]⟩ "word" ["word"] []:=by k_cls
abbrev Np:iz:=Ap (top 33) 4
theorem gZ:Ah ["self","place"] ["self","place"] (Ac Np):=by k_cls
abbrev J9:iz:=top 37
theorem Gn:Ah ["low","high","holds","middle"] ["low","high","holds"] (Ac J9):=by k_cls
abbrev Hs:iz:=top 38
theorem G2:Ah ["numbers","sums","number"] ["numbers"] (Ac Hs):=by k_cls
abbrev C3:iz:=top 39
theorem Ig:Ah ["words","blocks"] ["words"] (Ac C3):=by k_cls
theorem M5:Bb ["words","blocks"] (Ac C3) ⟨.function,[(".0",.local),("low",.local),("BLOCK_WORDS",.globalImplicit),("words",.free)],false,false,[]⟩ "low" ["low","words"] [0]:=by k_cls
theorem M2:Bb ["words","blocks"] (Ac C3) ⟨.function,[(".0",.local),("block",.local),("sum",.globalImplicit)],false,false,[]⟩ "block" ["block"] []:=by k_cls
theorem Nf (QV:nh):Bb ["block"] QV ⟨.function,[(".0",.local),("word",.local),("ones_in",.globalImplicit)],false,false,[]⟩ "word" ["word"] []:=⟨rfl,by decide +kernel,by decide +kernel,(λy hy h=>absurd h ((by decide +kernel:∀y∈(⟨.function,[(".0",.local),("word",.local),("ones_in",.globalImplicit)],false,false,[]⟩:nh).names,y.2≠nv) y hy)),by decide +kernel,rfl,rfl,rfl,by decide +kernel⟩
abbrev Iq:iz:=Ap (top 40) 0
theorem Vl:Ah ["self","bits"] ["self","bits"] (Ac Iq):=by k_cls
abbrev Ei:iz:=Ap (top 40) 6
theorem A9:Ah ["self","place","number","block","ones","word","rest"] ["self","place"] (Ac Ei):=by k_cls
abbrev Hk:iz:=Ap (top 40) 2
theorem Kt:Ah ["self","bit","place","ones"] ["self","bit","place"] (Ac Hk):=by k_cls
abbrev C1:iz:=Ap (top 40) 7
theorem Ew:Ah ["self","bit","block","ones"] ["self","bit","block"] (Ac C1):=by k_cls
abbrev Fd:iz:=Ap (top 40) 8
theorem Nc:Ah ["self","bit"] ["self","bit"] (Ac Fd):=by k_cls
abbrev Bi:iz:=Ap (top 40) 9
theorem L7:Ah ["self","bit","nth"] ["self","bit","nth"] (Ac Bi):=by k_cls
theorem Jf:Bb ["self","bit","nth"] (Ac Bi) ⟨.function,[("block",.local),("bit",.free),("nth",.free),("self",.free)],false,false,[]⟩ "block" ["block","bit","nth","self"] [1,2,0]:=by k_cls
abbrev Ej:iz:=Ap (top 40) 10
theorem B0:Ah ["self","bit","number","nth","flip","inside"] ["self","bit","number","nth"] (Ac Ej):=by k_cls
abbrev Fs:iz:=Ap (top 40) 3
theorem Hn:Ah ["self","bit","nth","block"] ["self","bit","nth"] (Ac Fs):=by k_cls
abbrev Io:iz:=top 41
theorem P1:Ah ["things","signs"] ["things"] (Ac Io):=by k_cls
theorem Uv:Er ["things","signs"] (Ac Io) ⟨.function,[(".0",.local),("ahead",.local),("own",.local)],false,false,[]⟩ "ahead" "own" ["ahead","own"] []:=by k_cls
abbrev Iv:iz:=top 43
theorem Fu:Ah ["order","met","place","number"] ["order"] (Ac Iv):=by k_cls
abbrev Le:iz:=top 44
theorem Db:Ah ["order","rounds","met","least","places","place"] ["order"] (Ac Le):=by k_cls
abbrev Hw:iz:=top 45
theorem Ey:Ah ["order","step","shortcuts","places","marked"] ["order","step"] (Ac Hw):=by k_cls
abbrev B6:iz:=Ap (top 46) 0
theorem Oz:Ah ["self","order","step"] ["self","order","step"] (Ac B6):=by k_cls
abbrev F5:iz:=Ap (top 46) 1
theorem No:Ah ["self","place"] ["self","place"] (Ac F5):=by k_cls
abbrev Kf:iz:=top 57
theorem Eo:Ah ["text","begin","height","heights","sign"] ["text","begin"] (Ac Kf):=by k_cls
abbrev L0:iz:=top 63
theorem F4:Ah ["text","height","place","sign"] ["text"] (Ac L0):=by k_cls
abbrev Hl:iz:=Ap (top 59) 0
theorem Te:Ah ["self","length","table","often_least"] ["self","length","table","often_least"] (Ac Hl):=by k_cls
abbrev El:iz:=Ap (top 64) 4
theorem Ln:Ah ["self","place"] ["self","place"] (Ac El):=by k_cls
abbrev Gh:iz:=Ap (top 59) 9
theorem Oi:Ah ["self","place"] ["self","place"] (Ac Gh):=by k_cls
abbrev G5:iz:=Ap (top 64) 2
theorem Ro:Ah ["self","low","high"] ["self","low","high"] (Ac G5):=by k_cls
abbrev Hv:iz:=Ap (top 59) 7
theorem Sy:Ah ["self"] ["self"] (Ac Hv):=by k_cls
abbrev Hq:iz:=Ap (top 59) 8
theorem Sz:Ah ["self"] ["self"] (Ac Hq):=by k_cls
abbrev C5:iz:=Ap (top 64) 0
theorem Ex:Ah ["self","text","lows","begins","heights","table"] ["self","text"] (Ac C5):=by k_cls
theorem Sx:Bb ["self","text","lows","begins","heights","table"] (Ac C5) ⟨.function,[(".0",.local),("low",.local),("self",.free)],false,false,[]⟩ "low" ["low","self"] [0]:=by k_cls
theorem S7:Er ["self","text","lows","begins","heights","table"] (Ac C5) ⟨.function,[(".0",.local),("low",.local),("begin",.local),("heights_of",.globalImplicit),("STRETCH_BITS",.globalImplicit),("text",.free)],false,false,[]⟩ "low" "begin" ["low","begin","text"] [1]:=by k_cls
theorem Td:Er ["self","text","lows","begins","heights","table"] (Ac C5) ⟨.function,[(".0",.local),("begin",.local),("some",.local),("min",.globalImplicit),("max",.globalImplicit)],false,false,[]⟩ "begin" "some" ["begin","some"] []:=by k_cls
theorem S9:Bb ["self","text","lows","begins","heights","table"] (Ac C5) ⟨.function,[(".0",.local),("some",.local),("min",.globalImplicit)],false,false,[]⟩ "some" ["some"] []:=by k_cls
abbrev E9:iz:=Ap (top 64) 8
theorem M1:Ah ["self","place"] ["self","place"] (Ac E9):=by k_cls
abbrev Ge:iz:=Ap (top 64) 9
theorem Oo:Ah ["self","number"] ["self","number"] (Ac Ge):=by k_cls
abbrev Ez:iz:=Ap (top 59) 18
theorem Ju:Ah ["self","low","high","cuts"] ["self","low","high"] (Ac Ez):=by k_cls
theorem N6:Bb ["self","low","high","cuts"] (Ac Ez) ⟨.function,[(".0",.local),("number",.local),("self",.free)],false,false,[]⟩ "number" ["number","self"] [0]:=by k_cls
abbrev E5:iz:=Ap (top 59) 19
theorem G6:Ah ["self","low","height","row"] ["self","low","height"] (Ac E5):=by k_cls
abbrev Cv:iz:=Ap (top 59) 21
theorem Ic:Ah ["self","low","high"] ["self","low","high"] (Ac Cv):=by k_cls
abbrev Dp:iz:=Ap (top 59) 22
theorem Fq:Ah ["self","low","high","height","heights"] ["self","low","high","height"] (Ac Dp):=by k_cls
abbrev Dl:iz:=Ap (top 59) 23
theorem Fv:Ah ["self","low","high","height","heights"] ["self","low","high","height"] (Ac Dl):=by k_cls
abbrev Hu:iz:=top 58
theorem S0:Ah ["height"] ["height"] (Ac Hu):=by k_cls
abbrev Fz:iz:=Ap (top 59) 13
theorem De:Ah ["self","place","height","low","high","found"] ["self","place","height"] (Ac Fz):=by k_cls
abbrev Fw:iz:=Ap (top 59) 14
theorem Dg:Ah ["self","place","height","low","high","found"] ["self","place","height"] (Ac Fw):=by k_cls
abbrev Fb:iz:=Ap (top 64) 3
theorem M7:Ah ["self","place"] ["self","place"] (Ac Fb):=by k_cls
abbrev F8:iz:=Ap (top 59) 10
theorem N5:Ah ["self","place"] ["self","place"] (Ac F8):=by k_cls
abbrev Dx:iz:=Ap (top 59) 20
theorem Ga:Ah ["self","low","high","number"] ["self","low","high"] (Ac Dx):=by k_cls
abbrev Df:iz:=Ap (top 59) 25
theorem Jx:Ah ["self","low","high"] ["self","low","high"] (Ac Df):=by k_cls
abbrev Eb:iz:=Ap (top 59) 15
theorem Fy:Ah ["self","low","high","own","least"] ["self","low","high"] (Ac Eb):=by k_cls
theorem Na:Er ["self","low","high","own","least"] (Ac Eb) ⟨.function,[(".0",.local),("begin",.local),("end",.local),("self",.free)],false,false,[]⟩ "begin" "end" ["begin","end","self"] [0]:=by k_cls
abbrev Gy:iz:=Ap (top 64) 6
theorem Rj:Ah ["self","number"] ["self","number"] (Ac Gy):=by k_cls
abbrev Rl:iz:=top 68
theorem Ko:Ah ["elders","path","k","elder"] ["elders"] (Ac Rl):=by k_cls
abbrev Ld:iz:=top 71
theorem J7:Ah ["elders","depths","elder"] ["elders"] (Ac Ld):=by k_cls
abbrev Uq:iz:=top 69
theorem Jb:Ah ["elders","signs","still_opened","depth"] ["elders"] (Ac Uq):=by k_cls
abbrev Lo:iz:=top 70
theorem Hf:Ah ["text","elders","path","sign"] ["text"] (Ac Lo):=by k_cls
abbrev Gz:iz:=Ap (top 74) 0
theorem Rr:Ah ["self","pairs"] ["self","pairs"] (Ac Gz):=by k_cls
abbrev Iw:iz:=Ap (top 76) 0
theorem Va:Ah ["self","elders"] ["self","elders"] (Ac Iw):=by k_cls
abbrev Dm:iz:=Ap (top 74) 1
theorem Kc:Ah ["self"] ["self"] (Ac Dm):=by k_cls
abbrev Hx:iz:=Ap (top 74) 3
theorem S4:Ah ["self"] ["self"] (Ac Hx):=by k_cls
abbrev F2:iz:=Ap (top 74) 2
theorem N4:Ah ["self"] ["self"] (Ac F2):=by k_cls
abbrev Ff:iz:=Ap (top 74) 4
theorem Nb:Ah ["self","k"] ["self","k"] (Ac Ff):=by k_cls
abbrev E7:iz:=Ap (top 74) 5
theorem M6:Ah ["self","k"] ["self","k"] (Ac E7):=by k_cls
abbrev E8:iz:=Ap (top 74) 6
theorem M0:Ah ["self","place"] ["self","place"] (Ac E8):=by k_cls
abbrev E3:iz:=Ap (top 74) 14
theorem M4:Ah ["self","k"] ["self","k"] (Ac E3):=by k_cls
abbrev Fe:iz:=Ap (top 74) 17
theorem Cz:Ah ["self","one","other","low","high","least"] ["self","one","other"] (Ac Fe):=by k_cls
abbrev Mj:iz:=top 50
theorem mJ:Ah ["thing"] ["thing"] (Ac Mj):=by k_cls
theorem eC:Bb ["thing"] (Ac Mj) ⟨.function,[(".0",.local),("sign",.local),("LETTERS",.globalImplicit)],false,false,[]⟩ "sign" ["sign"] []:=by k_cls
abbrev Ir:iz:=top 52
theorem Hy:Ah ["names","place","name"] ["names"] (Ac Ir):=by k_cls
abbrev Dv:iz:=top 53
theorem Ks:Ah ["names","begins"] ["names"] (Ac Dv):=by k_cls
theorem Og:Bb ["names","begins"] (Ac Dv) ⟨.function,[(".0",.local),("place",.local),("names",.free)],false,false,[]⟩ "place" ["place","names"] [0]:=by k_cls
theorem Ow:Er ["names","begins"] (Ac Dv) ⟨.function,[(".0",.local),("begin",.local),("end",.local),("names",.free)],false,false,[]⟩ "begin" "end" ["begin","end","names"] [0]:=by k_cls
abbrev F6:iz:=top 54
theorem Br:Ah ["elders","names","told","path","upward","k","elder","alike"] ["elders","names"] (Ac F6):=by k_cls
abbrev C8:iz:=Ap (top 55) 0
theorem Yb:Ah ["self","wood","names"] ["self","wood","names"] (Ac C8):=by k_cls
theorem Ta:Bb ["self","wood","names"] (Ac C8) ⟨.function,[(".0",.local),("one",.local)],false,false,[]⟩ "one" ["one"] []:=by k_cls
abbrev Ed:iz:=Ap (top 55) 10
theorem P0:Ah ["self","low","high"] ["self","low","high"] (Ac Ed):=by k_cls
theorem Mz:Bb ["self","low","high"] (Ac Ed) ⟨.function,[(".0",.local),("place",.local),("self",.free)],false,false,[]⟩ "place" ["place","self"] [0]:=by k_cls
abbrev J5:iz:=top 51
theorem Yc:Ah ["name"] ["name"] (Ac J5):=by k_cls
abbrev E2:iz:=Ap (top 55) 9
theorem M9:Ah ["self","k","name"] ["self","k","name"] (Ac E2):=by k_cls
abbrev G3:iz:=Ap (top 55) 11
theorem Rb:Ah ["self","name"] ["self","name"] (Ac G3):=by k_cls
abbrev Bx:iz:=Ap (top 55) 13
theorem G7:Ah ["self","k","name","span"] ["self","k","name"] (Ac Bx):=by k_cls
theorem Kn:Bb ["self","k","name","span"] (Ac Bx) ⟨.function,[("place",.local),("k",.free),("self",.free)],false,false,[]⟩ "place" ["place","k","self"] [1,0]:=by k_cls
abbrev D6:iz:=Ap (top 55) 12
theorem Gd:Ah ["self","k","name","behind"] ["self","k","name"] (Ac D6):=by k_cls
abbrev Ib:iz:=Ap (top 55) 4
theorem Kv:Ah ["self","name","span"] ["self","name"] (Ac Ib):=by k_cls
abbrev Dy:iz:=Ap (top 55) 5
theorem Gb:Ah ["self","k","name","span"] ["self","k","name"] (Ac Dy):=by k_cls
abbrev Eh:iz:=Ap (top 55) 6
theorem Gw:Ah ["self","k","name","span"] ["self","k","name"] (Ac Eh):=by k_cls
abbrev G0:iz:=Ap (top 55) 7
theorem Ji:Ah ["self","k","name","place"] ["self","k","name"] (Ac G0):=by k_cls
abbrev Gg:iz:=Ap (top 55) 8
theorem Cu:Ah ["self","k","name","place","knot","meeting"] ["self","k","name"] (Ac Gg):=by k_cls
abbrev Iy:iz:=top 78
theorem W7:Ah ["_law_script","_law_k"] ["_law_script","_law_k"] (Ac Iy):=by k_cls
abbrev Ls:iz:=top 79
theorem dZ:Ah ["_law_found"] ["_law_found"] (Ac Ls):=by k_cls
abbrev Ma:iz:=top 80
theorem O5:Ah ["_law_cell","_law_k","_law_once"] ["_law_cell","_law_k"] (Ac Ma):=by k_cls
abbrev J6:iz:=top 81
theorem Es:Ah ["_law_script","_law_at","_law_many","_law_left","_law_found","_law_k"] ["_law_script","_law_at","_law_many"] (Ac J6):=by k_cls
abbrev N3:iz:=top 82
theorem Fj:Ah ["_law_digits_here","_law_elders","_law_path","_law_k"] ["_law_digits_here"] (Ac N3):=by k_cls
abbrev Fi:iz:=top 83
theorem Dd:Ah ["_law_digits_here","_law_seed","_law_letters","_law_words","_law_k","_law_base","_law_at"] ["_law_digits_here","_law_seed"] (Ac Fi):=by k_cls
theorem Xh:Bb ["_law_digits_here","_law_seed","_law_letters","_law_words","_law_k","_law_base","_law_at"] (Ac Fi) ⟨.function,[(".0",.local),("_law_digit",.local),("_law_seed",.free),("_law_words",.free)],false,false,[]⟩ "_law_digit" ["_law_digit","_law_seed","_law_words"] [1,3]:=by k_cls
theorem Xl:Bb ["_law_digits_here","_law_seed","_law_letters","_law_words","_law_k","_law_base","_law_at"] (Ac Fi) ⟨.function,[(".0",.local),("_law_k",.local),("_law_letters",.free),("_law_seed",.free)],false,false,[]⟩ "_law_k" ["_law_k","_law_letters","_law_seed"] [2,1]:=by k_cls
theorem Xi:Er ["_law_digits_here","_law_seed","_law_letters","_law_words","_law_k","_law_base","_law_at"] (Ac Fi) ⟨.function,[(".0",.local),("_law_k",.local),("_law_word",.local)],false,false,[]⟩ "_law_k" "_law_word" ["_law_k","_law_word"] []:=by k_cls
abbrev K0:iz:=top 84
theorem O3:Ah ["_law_elders","_law_k","_law_other"] ["_law_elders","_law_k","_law_other"] (Ac K0):=by k_cls
abbrev Lg:iz:=top 85
theorem Kb:Ah ["_law_elders","_law_names_here","_law_k","_law_name","_law_here"] ["_law_elders","_law_names_here","_law_k","_law_name"] (Ac Lg):=by k_cls
abbrev Kd:iz:=top 86
theorem Sh:Ah ["_law_found","_law_due","_law_kinds"] ["_law_found","_law_due"] (Ac Kd):=by k_cls
theorem X8:Bb ["_law_found","_law_due","_law_kinds"] (Ac Kd) ⟨.function,[(".0",.local),("_law_one_here",.local),("_law_whole",.globalImplicit)],false,false,[]⟩ "_law_one_here" ["_law_one_here"] []:=by k_cls
abbrev P9:iz:=top 87
theorem mS:Ah ["_law_found","_law_due"] ["_law_found","_law_due"] (Ac P9):=by k_cls
abbrev Gk:iz:=top 88
theorem Gq:Ah ["_law_told","_law_elders","_law_names_here","_law_k","_law_name","_law_due","_law_under","_law_behind","_law_many"] ["_law_told","_law_elders","_law_names_here","_law_k","_law_name"] (Ac Gk):=by k_cls
theorem Yd:Bb ["_law_told","_law_elders","_law_names_here","_law_k","_law_name","_law_due","_law_under","_law_behind","_law_many"] (Ac Gk) ⟨.function,[(".0",.local),("_law_other",.local),("_law_name",.free),("_law_names_here",.free)],false,false,[]⟩ "_law_other" ["_law_other","_law_name","_law_names_here"] [4,2]:=by k_cls
theorem Xr:Bb ["_law_told","_law_elders","_law_names_here","_law_k","_law_name","_law_due","_law_under","_law_behind","_law_many"] (Ac Gk) ⟨.function,[(".0",.local),("_law_other",.local),("_law_is_at",.globalImplicit),("_law_elders",.free),("_law_k",.free)],false,false,[]⟩ "_law_other" ["_law_other","_law_elders","_law_k"] [1,3]:=by k_cls
theorem Xq:Bb ["_law_told","_law_elders","_law_names_here","_law_k","_law_name","_law_due","_law_under","_law_behind","_law_many"] (Ac Gk) ⟨.function,[(".0",.local),("_law_other",.local),("_law_k",.free)],false,false,[]⟩ "_law_other" ["_law_other","_law_k"] [3]:=by k_cls
abbrev Zx:iz:=top 89
theorem Hj:Ah ["_law_script","_law_many","_law_elders","_law_names_here","_law_told","_law_others","_law_k","_law_cell","_law_number","_law_name"] ["_law_script"] (Ac Zx):=by k_cls
abbrev Gc:Pos:=⟨202,55,202,110⟩
abbrev K4:Pos:=⟨307,62,307,80⟩
abbrev Gu:Pos:=⟨368,44,368,87⟩
def Av (l:Za5):Str:=⟨(l.map λb=>if b then 49 else 48).toArray⟩
def Agn:Option Nat->V
 |none=>.non
 |some p=>.int p
theorem qY (m:Nat):ly (m:Int) 15=((m%16:Nat):Int):=by
 unfold ly;rw[decide_eq_true (kq m),decide_eq_true (by decide:(0:Int)<=15)];show((m &&& 15:Nat):Int)=_;rw[show(15:Nat)=2 ^ 4-1 by decide,rn]
theorem Ach (m:Nat):(m:Int)/2 ^ (4:Int).toNat=((m/16:Nat):Int):=by
 show(m:Int)/16=_;lia
theorem rT (r:Nat)(h:r<16):atI (Y9.map λn:Nat=>V.int (n:Int)) (r:Int)=some (.int (pc r)):=by
 refine A7 ?_;rw[d9,xB r h];rfl
theorem Agu (m:Nat):ly (m:Int) 1=((m%2:Nat):Int):=by
 unfold ly;rw[decide_eq_true (kq m),decide_eq_true (by decide:(0:Int)<=1)];show((m &&& 1:Nat):Int)=_;rw[Nat.and_one_is_mod]
theorem A6 (l:Za5):(Av l).length=l.length:=by
 show(l.map _).toArray.size=_;rw[ge,d7]
theorem Ze (b:Bool)(k:Nat):Yg (sgn (if b then 49 else 48)) k=Av (fg k b):=by
 refine Hc ?_;show(fg k [if b then 49 else 48]).flatten.toArray.toList=((fg k b).map _).toArray.toList;rw[ky,ky,List.map_replicate]
 induction k with
 |zero=>rfl
 |succ k ih=>
  rw[i7,jl,ih,i7];rfl
theorem C2 (l:Za5):(Av l).cps.toList=l.map λb=>if b then 49 else 48:=by
 show(l.map _).toArray.toList=_;rw[ky]
theorem mG (l:Za5):IB.bits (Av l).cps.toList:=λc hc=>by
 rw[C2] at hc;obtain⟨b,_,rfl⟩:=lp.mp hc;cases b
 ·exact .inl rfl
 ·exact .inr rfl
theorem Z2 (a b:Za5):Av a++Av b=Av (a++b):=by
 refine Hc ?_;show((Av a).cps++(Av b).cps).toList=_;rw[sj,C2,C2,C2,fj]
theorem Ni {α:Type}(l:List α)(a b:Nat):(l.drop (min a l.length)).take (min b l.length-min a l.length)=(l.drop a).take (b-a):=by
 by_cases h:a<=l.length
 ·rw[io h]
  by_cases h2:b<=l.length
  ·rw[io h2]
  ·rw[rm (by lia),fw (by rw[ic];lia),fw (by rw[ic];lia)]
 ·have e:min a l.length=l.length:=by lia
  rw[e,ji (d8 _),ji (by lia)];simp
theorem P8 (l:Za5)(a b:Nat):Kw (Av l) (some (a:Int)) (some (b:Int))=Av ((l.drop a).take (b-a)):=by
 refine Hc ?_;show(wt _ (wu _ _)).toArray.toList=_;rw[ky,HT.sIx_nat,HT.sIx_nat];have e:(Av l).cps.size=l.length:=A6 l;rw[e,C2,C2,pe,qg];have:=Ni (l.map λb=>if b=true then 49 else 48) a b;rw[d7] at this;exact this
theorem Vn (xs:List V)(a b:Nat):G8 xs (some (a:Int)) (some (b:Int))=(xs.drop a).take (b-a):=by
 unfold G8;rw[HT.sIx_nat,HT.sIx_nat];exact Ni xs a b
theorem Zf (l:Za5):Rh (Av l) 49=l.count true/\Rh (Av l) 48+Rh (Av l) 49=l.length:=by
 unfold Rh;rw[C2]
 induction l with
 |nil=>exact⟨rfl,rfl⟩
 |cons b r ih=>cases b<;>simp[n4]<;>lia
theorem Afw (l:Za5):IB.v2 (Xp (Av l)).cps.toList=val l:=by
 show IB.v2 (Av l).cps.toList.reverse.toArray.toList=_;rw[ky,C2,<-EA];unfold IB.v2;rw[List.foldl_map];have e:=pA l 0;rw[Nat.zero_mul,m5] at e;rw[<-e];congr 1
 funext a b
 cases b<;>rfl
abbrev nV (ns:Za4):List V:=ns.map λn:Nat=>V.int n
theorem gI (ns:Za4):nV ns=(ns.map λn:Nat=>(n:Int)).map V.int:=by rw[jf];rfl
theorem L4 (f:Nat->Nat)(i:Nat):nV ((fb (i+1)).map f)=nV ((fb i).map f)++[V.int (f i:Nat)]:=by
 unfold nV;rw[je,fj,fj];rfl
theorem yL (ns:Za4):(ns.map λn:Nat=>(n:Int)).sum=(ns.sum:Nat):=by
 induction ns with
 |nil=>rfl
 |cons n r ih=>rw[im,xf,ih,xf];lia
theorem Vp (n d:Nat)(hd:0<d):Cp 0 (n:Int) (d:Int)=(n+d-1)/d:=by
 unfold Cp;rw[show(n:Int)-0+(d:Int)-1=((n+d-1:Nat):Int) by lia,<-ux,gw]
theorem few (h:n<=1000):n<=sizeLine:=f9 (Dk h)
theorem Ai (h:n<=100000):n<sizeLine:=qo h (by decide)
theorem fI {l:Za5}{i c:Nat}(h:(Av l).cps[i]?=some c):∃b,l[i]?=some b/\c=if b then 49 else 48:=by
 have e:(Av l).cps.toList[i]?=some c:=by rw[gr];exact h
 rw[C2,d9] at e
 cases hb:l[i]? with
 |none=>rw[hb] at e;cases e
 |some b=>
  rw[hb] at e;exact⟨b,rfl,(ee e).symm⟩
theorem Bq {α:Type}{l:List α}{i:Nat}{b:α}(h:l[i]?=some b):i<l.length:=(fc.mp h).1
def isI:V->Bool
 |.int _=>true
 |_=>false
theorem Oj {l:Za5}{j:Nat}(h:j<By l.length):atI (nV (wordsOf l)) (j:Int)=some (.int (val (Az l j):Nat)):=by
 refine A7 ?_;unfold nV TW.wordsOf;rw[d9,d9,gd h];rfl
theorem vH (ns:List Int)(lo hi:Option Int):∃ms:List Int,G8 (ns.map V.int) lo hi=ms.map V.int/\ms.length<=ns.length:=by
 refine⟨(ns.drop (HT.sIx (ns.map V.int).length 0 lo)).take (HT.sIx (ns.map V.int).length (ns.map V.int).length hi-HT.sIx (ns.map V.int).length 0 lo),?_,?_⟩
 ·unfold G8
  rw[pe,qg]
 ·rw[fi,ic]
  lia
theorem Jl {H5 H6:Hp}{xb dxb:eg}(nb1:H5 xb=none)(nb2:H5 dxb=none)(s6:SameBut xb (upd (upd H5 dxb (.own xb)) xb (.ins C dxb [])) H6):Ag H5 H6:=λb u e=>by
 have e1:b≠xb:=Aj e nb1;have e2:b≠dxb:=Aj e nb2;exact s6 _ _ e1 (by rw[Al e1,Al e2];exact e)
def pV:List V:=[.str "0000",.str "1000",.str "0100",.str "1100",.str "0010",.str "1010",.str "0110",.str "1110",.str "0001",.str "1001",.str "0101",.str "1101",.str "0011",.str "1011",.str "0111",.str "1111"]
theorem yZ (m k:Nat){j:Int}(h:j=(k:Int)):ly (m:Int) (1*2 ^ j.toNat-1)=((m%2 ^ k:Nat):Int):=by
 subst h;rw[gw,Int.one_mul];have e:((2:Int) ^ k-1)=((2 ^ k-1:Nat):Int):=by
  have:1<=2 ^ k:=Nat.one_le_two_pow;rw[Int.natCast_sub this,Int.natCast_pow];rfl
 rw[e];unfold ly;rw[decide_eq_true (kq m),decide_eq_true (kq (2 ^ k-1))];show((m &&& (2 ^ k-1):Nat):Int)=_;rw[rn]
theorem Aa8 (h:n<2 ^ 32):n ||| 4294967295=4294967295:=by
 refine wq λi=>?_;rw[Nat.testBit_or,show(4294967295:Nat)=2 ^ 32-1 by decide,zj]
 by_cases hi:i<32
 ·rw[decide_eq_true hi,Bool.or_true]
 ·rw[decide_eq_false hi,AA]
  exact Nat.testBit_lt_two_pow (fk h (CG (by decide) (by lia)))
theorem lZ (m k:Nat):vw (m:Int) (k:Int)=((m ||| k:Nat):Int)-((m &&& k:Nat):Int):=by
 have hn:∀x:Int,m8 (m8 x)=x:=λx=>by unfold m8;lia
 have ho:EE (m:Int) (k:Int)=((m ||| k:Nat):Int):=by
  unfold EE ly;rw[decide_eq_false (show ¬(0:Int)<=m8 (m:Int) by unfold m8;lia),decide_eq_false (show ¬(0:Int)<=m8 (k:Int) by unfold m8;lia)];show m8 (m8 _)=_;rw[hn,hn,hn,gw,gw]
 have ha:ly (m:Int) (k:Int)=((m &&& k:Nat):Int):=by
  unfold ly;rw[decide_eq_true (kq m),decide_eq_true (kq k)];rfl
 unfold vw;rw[ho,ha]
theorem Y1:∀w:Za5,val w+val (w.map λb=>!b)+1=2 ^ w.length
 |[]=>rfl
 |b::r=>by
  have:=Y1 r;rw[im,gn,vm];cases b<;>simp[val]<;>lia
theorem Vo (b:Bool)(l:Za5)(j:Nat):vw ((val (Az l j):Nat):Int) ((Pn b:Nat):Int)=((val (Az l j) ^^^ Pn b:Nat):Int):=by
 have hlt:val (Az l j)<2 ^ 32:=fk (zP _) (CG (by decide) (by unfold Az;rw[fi];lia));have h1:=Mp true l j;have h0:=Mp b l j;rw[lZ,h0]
 cases b with
 |true=>
  rw[<-h0];show(((val (Az l j) ||| 0:Nat):Int)-((val (Az l j) &&& 0:Nat):Int))=((val (Az l j) ^^^ 0:Nat):Int);rw[Nat.or_zero,Nat.and_zero,GS];lia
 |false=>
  show(((val (Az l j) ||| 4294967295:Nat):Int)-((val (Az l j) &&& 4294967295:Nat):Int))=_;rw[Aa8 hlt,show(4294967295:Nat)=2 ^ 32-1 by decide,rn,Nat.mod_eq_of_lt hlt];have hc:=Y1 ((fb 32).map λp=>l.getD (32*j+p) false==true);rw[<-h1,jf,d7,fe] at hc;have e:((fb 32).map ((λb=>!b) ∘ λp=>l.getD (32*j+p) false==true))=(fb 32).map λp=>l.getD (32*j+p) false==false:=jc λp _=>by
   show(!(l.getD (32*j+p) false==true))=_;cases l.getD (32*j+p) false<;>rfl
  rw[e] at hc;have e0:val (Az l j) ^^^ Pn true=val (Az l j):=GS _;rw[e0] at hc;lia
theorem Bw (l:Za4):(nV l).length=l.length:=by unfold nV;rw[d7]
theorem pZ {l:Za4}{i:Nat}(h:l[i]?=some n):(nV l)[i]?=some (.int (n:Nat)):=by
 unfold nV;rw[d9,h];rfl
theorem yT (l m:Za4):nV l++nV m=nV (l++m):=by unfold nV;rw[fj]
theorem Ba {a:eg}{o:HO}(s:Ag H H1)(h:H a=none):Ag H (upd H1 a o):=λb u e=>by
 rw[Al (Aj e h)];exact s _ _ e
theorem Nl {K:d6}:kitOne K (.type "list") (.type "list")=some true:=by rfl
theorem Sv {l:List Int}{i:Nat}{n:Int}(h:l[i]?=some n):(l.map V.int)[i]?=some (.int n):=by
 rw[d9,h];rfl
theorem Rf {l:List Int}{i:Nat}{x:V}(h:(l.map V.int)[i]?=some x):∃n,l[i]?=some n/\x=.int n:=by
 rw[d9] at h
 cases e:l[i]? with
 |none=>rw[e] at h;cases h
 |some n=>
  rw[e] at h;exact⟨n,rfl,(ee h).symm⟩
theorem Mu {l:List Int}{m:Nat}{x:Int}(h0:0<m)(h:l[m-1]?=some x):atI ((l.take m).map V.int) (-1)=some (.int x):=by
 have hm:=Bq h;have e:l.take m=l.take (m-1)++[x]:=by
  rw[show m=m-1+1 by lia,i4,h];rfl
 rw[e,fj];exact kC _ _
theorem Jj {l:List Int}{m:Nat}(h:m<=l.length):((l.take m).map V.int).length=m:=by rw[d7,fi];lia
theorem Rx {l:List Int}{m:Nat}(h:m<=l.length):((l.take m).map V.int).dropLast=(l.take (m-1)).map V.int:=by
 rw[<-List.map_dropLast,List.dropLast_eq_take,oq,fi];congr 2;lia
def rS (H:Hp)(p:eg):Nat:=match H p with|some (.lst xs)=>xs.length|_=>0
theorem O1 {p:eg}(h:H p=some (.lst xs)):rS H p=xs.length:=by unfold rS;rw[h]
theorem jW {K:d6}{Q:VK}{p:eg}{ls:List (Za5)}(hl:H1 p=some (.lst (ls.map λl=>.str (Av l))))(hz:ls.flatten.length<=100000)(q:Q (.str (Av ls.flatten)) H1):zD K (.str "") [.ref p] H1 Q:=by
 refine⟨"",p,ls.map Av,rfl,rfl,SqL.of ?_,?_,?_⟩
 ·rw[hl,jf]
  rfl
 ·have e:((ls.map Av).map (·.length)).sum=ls.flatten.length:=by
   rw[List.length_flatten,jf];congr 1;refine jc λl _=>?_;exact A6 l
  rw[e];show ls.flatten.length+_*0<=_;lia
 ·have e:tx ("":Str) (ls.map Av)=Av ls.flatten:=by
   refine Hc ?_;rw[Nx,jf];show((ls.map λl=>(l.map λb=>if b then 49 else 48).toArray.toList)).flatten=(ls.flatten.map _).toArray.toList;simp only[ky];rw[List.map_flatten]
  rw[e];exact q
theorem Nn {ds:Za4}(h:Dok ds):∀k,k<=ds.length->opn ds k<=k
 |0,_=>d8 _
 |k+1,hk=>by
  show dAt ds k+1<=k+1;have:=h k (by lia);have:=Nn h k (by lia);lia
theorem K2 {ds:Za4}{j:Nat}(h:j<ds.length):dAt (ds++[d]) j=dAt ds j:=by
 unfold dAt ju;rw[f7 h]
theorem Pb (ds:Za4)(d:Nat):dAt (ds++[d]) ds.length=d:=by
 unfold dAt ju;rw[ft (d8 _),j0];rfl
theorem Ot {ds:Za4}{d:Nat}:∀k,k<=ds.length->opn (ds++[d]) k=opn ds k
 |0,_=>rfl
 |k+1,h=>by
  show dAt (ds++[d]) k+1=dAt ds k+1;rw[K2 (by lia)]
theorem Oe {ds:Za4}{d:Nat}:∀k,k<=ds.length->way (ds++[d]) k=way ds k
 |0,_=>rfl
 |k+1,h=>by
  show(way (ds++[d]) k).take (dAt (ds++[d]) k+1)++[(k:Int)]=_;rw[Oe k (by lia),K2 (by lia)];rfl
theorem jY {ds:Za4}(h:Dok ds)(hd:d<=opn ds ds.length):Dok (ds++[d]):=λk hk=>by
 rw[eh] at hk;simp only[gn,jt] at hk
 by_cases e:k=ds.length
 ·subst e
  rw[Pb,Ot _ (d8 _)];exact hd
 ·rw[K2 (by lia),Ot k (by lia)]
  exact h k (by lia)
theorem Zd (ds:Za4)(d:Nat):En (ds++[d])=En ds++[(way ds ds.length).getD d 0]:=by
 unfold En;rw[eh];show(fb (ds.length+1)).map _=_;rw[je,fj];congr 1
 ·refine jc λk hk=>?_
  have hk:=jm.mp hk;unfold eld;rw[Oe k (by lia),K2 hk]
 ·show[eld (ds++[d]) ds.length]=_
  unfold eld;rw[Oe _ (d8 _),Pb]
theorem gQ (ds:Za4)(d:Nat):way (ds++[d]) (ds.length+1)=(way ds ds.length).take (d+1)++[(ds.length:Int)]:=by
 show(way (ds++[d]) ds.length).take (dAt (ds++[d]) ds.length+1)++_=_;rw[Oe _ (d8 _),Pb]
theorem F0 {ds:Za4}(h:Dok ds){k:Nat}(hk:k<=ds.length):way ds k=-1::(way ds k).tail:=by
 have e:=Ly h k hk
 cases hw:way ds k with
 |nil=>rw[hw] at e;cases e
 |cons x r=>
  rw[hw] at e;obtain rfl:=ee e;rfl
def isS:V->Bool
 |.str _=>true
 |_=>false
def Af2 (K:d6)(H:Hp)(x:V):Prop:=∃t,Oy K H x t/\kitOne K t (.type "str")=some (isS x)
section
variable {K:d6} {H H':Hp}
theorem jH (z:Str):Af2 K H (.str z):=⟨_,.str z,by rfl⟩
end
def hgt (l:Za5)(i:Nat):Int:=2*((l.take i).count true:Int)-i
theorem K3 {l:Za5}{i:Nat}{b:Bool}(h:l[i]?=some b):hgt l (i+1)=hgt l i+if b then 1 else -1:=by
 unfold hgt;rw[i4,h,n9];cases b<;>simp<;>lia
theorem Zy {ds:Za4}{d:Nat}:∀k,k<=ds.length->Tg (ds++[d]) k=Tg ds k
 |0,_=>rfl
 |k+1,h=>by
  rw[Mo,Mo,Zy k (by lia)];unfold Bh;rw[Ot k (by lia),K2 (by lia)]
theorem My {row:Za5}{i:Nat}{b:Bool}(h:row[i]?=some b):row.drop i=b::row.drop (i+1):=by
 have hi:=Bq h;rw[ny hi];rw[d4 hi] at h;rw[ee h]
theorem Vc {row:Za5}(hv:Vs 0 row):∀i,i<=row.length->∃h:Nat,hgt row i=(h:Int)/\Vs h (row.drop i)/\True
 |0,_=>⟨0,rfl,hv,trivial⟩
 |i+1,hi=>by
  obtain⟨h,h1,h2,_⟩:=Vc hv i (by lia);obtain⟨b,hb⟩:∃b,row[i]?=some b:=⟨row[i],d4 (by lia)⟩;have hs:=K3 hb;rw[My hb] at h2
  cases b with
  |false=>
   obtain⟨g,rfl⟩:∃g,h=g+1:=⟨h-1,by have:=h2.1;lia⟩;have hs:hgt row (i+1)=hgt row i + -1:=hs;exact⟨g,by lia,h2.2,trivial⟩
  |true=>
   have hs:hgt row (i+1)=hgt row i+1:=hs;exact⟨h+1,by lia,h2,trivial⟩
structure Go (H H':Hp):Prop where
 keep:∀b u,(∀ps,u≠.tbl ps)->H b=some u->H' b=some u
 tb:∀b ps,H b=some (.tbl ps)->∃ps',H' b=some (.tbl ps')
theorem Go.refl (H:Hp):Go H H:=⟨λ_ _ _ e=>e,λ_ ps e=>⟨ps,e⟩⟩
theorem Go.trans (a:Go H H1)(b:Go H1 H2):Go H H2:=⟨λc u n e=>b.keep c u n (a.keep c u n e),λc ps e=>let ⟨ps',e'⟩:=a.tb c ps e;b.tb c ps' e'⟩
theorem Go.tup (s:Go H H'){a:eg}(h:H a=some (.tup xs)):H' a=some (.tup xs):=s.keep _ _ (by intro ps e;cases e) h
theorem Go.seq {K:d6}{a:eg}(s:Go H H')(h:SqL K H a xs):SqL K H' a xs:=by
 rcases h with(h|⟨o,h⟩)|h
 ·exact .inl (.inl (s.keep _ _ (by intro ps e;cases e) h))
 ·exact .inl (.inr ⟨o,s.keep _ _ (by intro ps e;cases e) h⟩)
 ·exact .inr h
theorem vD (s:Ag H H'):Go H H':=⟨λb u _ e=>s b u e,λb ps e=>⟨ps,s b _ e⟩⟩
theorem Go.free (s:Go H H'){l:eg}(e:H' l=none):H l=none:=by
 cases q:H l with
 |none=>rfl
 |some o=>
  by_cases ho:∃ps,o=.tbl ps
  ·obtain⟨ps,rfl⟩:=ho
   obtain⟨ps',e2⟩:=s.tb l ps q;rw[e2] at e;cases e
  ·rw[s.keep l o (λps z=>ho ⟨ps,z⟩) q] at e;cases e
structure Tb where
 P:eg
 pos:Pos
 qual:Str
def Tb.ok (t:Tb)(H:Hp):Prop:=Ps H t.P t.pos t.qual
theorem Tb.same {t:Tb}(s:Ag H H')(h:t.ok H):t.ok H':=by
 obtain⟨ps,e1,e2,e3⟩:=h;exact⟨ps,s _ _ e1,e2,e3.imp id λ⟨c,oc,a1,a2,a3⟩=>⟨c,oc,a1,s _ _ a2,a3⟩⟩
theorem Tb.sameX {t:Tb}{P:eg}(s:Pf P H H')(hP:∃ps,H P=some (.tbl ps))(n:t.P≠P)(h:t.ok H):t.ok H':=by
 obtain⟨ps,e1,e2,e3⟩:=h;obtain⟨ps',hP⟩:=hP;exact⟨ps,s _ _ n e1,e2,e3.imp id λ⟨c,oc,a1,a2,a3⟩=>⟨c,oc,a1,s _ _ (λz=>by rw[z,hP] at a2;cases a2) a2,a3⟩⟩
theorem Aba {P:eg}(s:Pf P H H')(hP:∃ps,H P=some (.tbl ps))(hP':∃ps,H' P=some (.tbl ps)):Go H H':=by
 refine⟨λb u n e=>s b u (λz=>?_) e,λb ps e=>?_⟩
 ·obtain⟨ps,hP⟩:=hP
  rw[z,hP] at e;cases e;exact n ps rfl
 ·by_cases hb:b=P
  ·rw[hb];exact hP'
  ·exact⟨ps,s b _ hb e⟩
theorem Tb.tbl {t:Tb}(h:t.ok H):∃ps,H t.P=some (.tbl ps):=let ⟨ps,e,_⟩:=h;⟨ps,e⟩
def Tbs (ts:List Tb)(H:Hp):Prop:=(∀t∈ts,t.ok H)/\(ts.map (·.P)).Nodup
structure SmT (ts:List Tb) (H H':Hp):Prop where
 sm:Go H H'
 ok:Tbs ts H'
theorem Tbs.same {ts:List Tb}(h:Tbs ts H)(s:Ag H H'):Tbs ts H':=⟨λt ht=>Tb.same s (h.1 t ht),h.2⟩
theorem SmT.of {ts:List Tb}(h:Tbs ts H)(s:Ag H H'):SmT ts H H':=⟨vD s,h.same s⟩
theorem SmT.refl {ts:List Tb}(h:Tbs ts H):SmT ts H H:=⟨Go.refl _,h⟩
theorem SmT.trans {ts:List Tb}(a:SmT ts H H1)(b:SmT ts H1 H2):SmT ts H H2:=⟨a.sm.trans b.sm,b.ok⟩
theorem SmT.then {ts:List Tb}(a:SmT ts H H1)(b:Ag H1 H2):SmT ts H H2:=a.trans (.of a.ok b)
theorem SmT.k {ts:List Tb}(s:SmT ts H H'){b:eg}{u:HO}(h:H b=some u)(n:∀ps,u≠.tbl ps:=by intro ps e;cases e):H' b=some u:=s.sm.keep _ _ n h
theorem vS:∀{ts:List Tb} {t u:Tb},(ts.map (·.P)).Nodup->t∈ts->u∈ts->t.P=u.P->t=u
 |[],_,_,_,h,_,_=>nomatch h
 |x::r,t,u,hn,ht,hu,e=>by
  rw[im,o8] at hn;rcases iu.mp ht with rfl|ht'<;>rcases iu.mp hu with rfl|hu'
  ·rfl
  ·exact absurd (om (f:=(·.P)) hu') (by rw[<-e];exact hn.1)
  ·exact absurd (om (f:=(·.P)) ht') (by rw[e];exact hn.1)
  ·exact vS hn.2 ht' hu' e
theorem vW {ts:List Tb}{t:Tb}(h:Tbs ts H)(ht:t∈ts)(s:Pf t.P H H')(ok:t.ok H'):SmT ts H H':=by
 have hP:=Tb.tbl (h.1 t ht);refine⟨Aba s hP (Tb.tbl ok),λu hu=>?_,h.2⟩
 by_cases e:u.P=t.P
 ·have:u=t:=vS h.2 hu ht e
  rw[this];exact ok
 ·exact Tb.sameX s hP e (h.1 u hu)
def Ahu (xs:List V)(k:Nat):Prop:=∃n:Nat,xs[k]?=some (.int n)/\n<xs.length/\∀j,j<k->xs[j]?≠some (.int n)
def Acq (xs:List V):Prop:=∀j,j<xs.length->Ahu xs j
def Met (xs:List V)(k:Nat)(ms:Za5):Prop:=ms.length=xs.length/\∀(i:Nat) b,ms[i]?=some b->(b=true↔∃j,j<k/\xs[j]?=some (.int i))
theorem wF (xs:List V):Met xs 0 (fg xs.length false):=by
 refine⟨lg,λi b h=>?_⟩;rw[AF] at h;split at h
 ·cases h
  exact⟨λz=>by(cases z),λ⟨j,hj,_⟩=>absurd hj (zd _)⟩
 ·cases h
theorem xH {k:Nat}{ms:Za5}(h:Met xs k ms)(hk:xs[k]?=some (.int n)):Met xs (k+1) (ms.set n true):=by
 refine⟨by rw[yw];exact h.1,λi b hb=>?_⟩;rw[List.getElem?_set] at hb
 by_cases e:n=i
 ·rw[if_pos e] at hb
  split at hb
  ·cases hb
   exact⟨λ_=>⟨k,nj _,by rw[hk,e]⟩,λ_=>rfl⟩
  ·cases hb
 ·rw[if_neg e] at hb
  rw[h.2 i b hb]
  constructor
  ·rintro⟨j,hj,hx⟩
   exact⟨j,by lia,hx⟩
  ·rintro⟨j,hj,hx⟩
   rcases mq (Nat.le_of_lt_succ hj) with h1|h1
   ·exact⟨j,h1,hx⟩
   ·rw[h1,hk] at hx
    have:=V.int.inj (ee hx);lia
theorem vO (ms:Za5)(n:Nat)(b:Bool):(ms.map V.bl).set n (.bl b)=(ms.set n b).map V.bl:=by rw[List.map_set]
theorem xX (n:Nat):(fg n [V.bl false]).flatten=(fg n false).map V.bl:=by
 induction n with
 |zero=>rfl
 |succ n ih=>rw[i7,jl,ih,i7];rfl
theorem Adj {ms:Za5}{i:Nat}{b:Bool}(h:ms[i]?=some b):(ms.map V.bl)[i]?=some (.bl b):=by
 rw[d9,h];rfl
theorem Mm (l:Za4)(n:Nat):nV l++[V.int n]=nV (l++[n]):=by
 show _=xw _ _;rw[fj];rfl
theorem Tw {v:V}(h:xs[xs.length-1]?=some v):atI xs (-1)=some v:=by
 have hl:=Bq h;unfold atI ixN;rw[if_neg (by decide),if_pos (by lia)];show xs[((-1:Int)+(xs.length:Int)).toNat]?=_;rw[show((-1:Int)+(xs.length:Int)).toNat=xs.length-1 by lia];exact h
theorem Tbs.keepN {ts:List Tb}{p:eg}{o o':HO}(h:Tbs ts H)(hp:H p=some o')(nt:∀ps,o'≠.tbl ps:=by intro ps e;cases e)(nf:∀a b,o'≠.frz a b:=by intro a b e;cases e):Tbs ts (upd H p o):=by
 refine⟨λt ht=>?_,h.2⟩;obtain⟨ps,e1,e2,e3⟩:=h.1 t ht;exact⟨ps,by rw[Al (λz=>by rw[z,hp] at e1;exact nt _ (ee e1))];exact e1,e2,e3.imp id λ⟨c,oc,a1,a2,a3⟩=>⟨c,oc,a1,by rw[Al (λz=>by rw[z,hp] at a2;exact nf _ _ (ee a2))];exact a2,a3⟩⟩
structure SmB (ts:List Tb) (x:eg) (H H':Hp):Prop where
 keep:∀b u,b≠x->(∀ps,u≠.tbl ps)->H b=some u->H' b=some u
 tb:∀b ps,H b=some (.tbl ps)->∃ps',H' b=some (.tbl ps')
 ok:Tbs ts H'
theorem SmB.k {ts:List Tb}{x:eg}(s:SmB ts x H H'){b:eg}{u:HO}(h:H b=some u)(ne:b≠x)(n:∀ps,u≠.tbl ps:=by intro ps e;cases e):H' b=some u:=s.keep _ _ ne n h
theorem SmB.refl {ts:List Tb}{x:eg}(h:Tbs ts H):SmB ts x H H:=⟨λ_ _ _ _ e=>e,λ_ ps e=>⟨ps,e⟩,h⟩
theorem SmB.trans {ts:List Tb}{x:eg}(a:SmB ts x H H1)(b:SmB ts x H1 H2):SmB ts x H H2:=⟨λc u n1 n2 e=>b.keep c u n1 n2 (a.keep c u n1 n2 e),λc ps e=>let ⟨ps',e'⟩:=a.tb c ps e;b.tb c ps' e',b.ok⟩
theorem SmB.sm {ts:List Tb}{x:eg}(a:SmB ts x H H1)(b:SmT ts H1 H2):SmB ts x H H2:=a.trans ⟨λc u _ n e=>b.sm.keep c u n e,b.sm.tb,b.ok⟩
theorem SmB.then {ts:List Tb}{x:eg}(a:SmB ts x H H1)(b:Ag H1 H2):SmB ts x H H2:=a.sm (.of a.ok b)
theorem SmB.put {ts:List Tb}{x:eg}{o o':HO}(a:SmB ts x H H1)(hx:H1 x=some o)(nt:∀ps,o≠.tbl ps:=by intro ps e;cases e)(nf:∀a b,o≠.frz a b:=by intro a b e;cases e):SmB ts x H (upd H1 x o'):=by
 refine a.trans ⟨λb u n _ e=>by rw[Al n];exact e,λb ps e=>⟨ps,?_⟩,a.ok.keepN hx nt nf⟩;rw[Al (λz=>by rw[z,hx] at e;exact nt _ (ee e))];exact e
theorem Mb {K:d6}{ts:List Tb}{x:eg}{fs:List (Str×V)}{f:Str}{R:Hp->Prop}(h:H x=some (.ins C dx fs))(c:Cls K C)(n:Bg K C f)(l:fs.length<1000)(b:SmB ts x H0 H)(q:∀H',H' x=some (.ins C dx (F9 f y fs))->SmB ts x H0 H'->SmB ts x H H'->R H') :
  ∃a' C' dx' fs',V.ref x=.ref a'/\H a'=some (.ins C' dx' fs')/\Cls K C'/\Bg K C' f/\fs'.length<1000/\R (upd H a' (.ins C' dx' (F9 f y fs'))):=
 ⟨x,C,dx,fs,rfl,h,c,n,l,q _ Af (b.put h) ((SmB.refl b.ok).put h)⟩
theorem SmB.made {ts:List Tb}{x:eg}(hx:H x=none)(hdx:H dx=none)(s:SmB ts x (upd (upd H dx (.own x)) x (.ins C dx [])) H'):SmT ts H H':=by
 have kp:∀b u,H b=some u->b≠x/\upd (upd H dx (.own x)) x (.ins C dx []) b=some u:=λb u e=>by
  have e1:b≠x:=Aj e hx;have e2:b≠dx:=Aj e hdx;exact⟨e1,by rw[Al e1,Al e2];exact e⟩
 exact⟨⟨λb u n e=>s.keep b u (kp b u e).1 n (kp b u e).2,λb ps e=>s.tb b ps (kp b _ e).2⟩,s.ok⟩
def Kp (H H':Hp):Prop:=∀b u,(∀ps,u≠HO.tbl ps)->H b=some u->H' b=some u
theorem Ag.kp (s:Ag H H'):Kp H H':=λb u _ e=>s b u e
theorem SmT.kp {ts:List Tb}(s:SmT ts H H'):Kp H H':=λb u n e=>s.sm.keep b u n e
theorem Kp.k (s:Kp H H'){b:eg}{u:HO}(h:H b=some u)(n:∀ps,u≠.tbl ps:=by intro ps e;cases e):H' b=some u:=s b u n h
def Rq (e:eg)(H:Hp):Hp:=λb=>if b=e then none else H b
theorem Z0 {e b:eg}(h:b≠e):Rq e H b=H b:=if_neg h
theorem oQ {e b:eg}{u:HO}(h:Rq e H b=some u):b≠e/\H b=some u:=by
 unfold Rq at h;split at h
 ·cases h
 ·rename_i hb
  exact⟨hb,h⟩
theorem Lj {x:eg}{o o':HO}(hx:H1 x=none)(hd:H1 dx=none):Ag H1 (upd (upd H1 dx o) x o'):=λb u e=>by rw[Al (Aj e hx),Al (Aj e hd)];exact e
inductive qB (K:d6)(ts:List Tb)(vs:List V)(H:Hp)(Q:VK)(E:XK):Prop|mk(a:eg)(ns:List Int)(_:vs=[.ref a])(_:SqL K H a (ns.map V.int))(_:ns.length<=63)(_:Tbs ts H)(_:∀H',Q (.bl true) H')
abbrev tz:List Tb:=[⟨425,Gc,"Counts.block_with.<locals>.<lambda>"⟩,⟨560,K4,"Named.__init__.<locals>.<lambda>"⟩,⟨647,Gu,"Named.first_from.<locals>.<lambda>"⟩]
abbrev AllMk:Prop:=∀{l:x5} {w:iq} {K:d6} {h:jj} {mg:Za2} {fa:eg} (X:K.In h) (G:h.Ns mainGlobals mg) (hfa:mg "law"=some (.ref fa))
  {ac:eg}
  {ab:eg}
  {ag:eg}
  {ae:eg}
  {aa:eg}
  {ad:eg}
  {bn:eg}
  {bo:eg}
  {f26:eg} {od26 an26:Option eg} {sl26:Array (Za7)} {oc26 kV26 dc26 pm26 ct26:fh}
  {oo26:Obj}
  {f33:eg} {od33 an33:Option eg} {sl33:Array (Za7)} {oc33 kV33 dc33 pm33 cd33 ct33:fh}
  {T33:eg} {oT33:Obj} {vT33:fh} {nT33:Nat}
  {f78:eg} {od78 an78:Option eg} {sl78:Array (Za7)} {oc78 kV78 dc78 pm78 ct78:fh}
  {oo78:Obj}
  {f83:eg} {od83 an83:Option eg} {sl83:Array (Za7)} {oc83 kV83 dc83 pm83 ct83:fh}
  {oo83:Obj}
  {ao:eg} {o_ONES_OF_FOUR:Obj} {i_ONES_OF_FOUR:Array fh} {n_ONES_OF_FOUR:Nat}
  {ap:eg} {o_SIGNS_OF_FOUR:Obj} {i_SIGNS_OF_FOUR:Array fh} {n_SIGNS_OF_FOUR:Nat}
  {t_WORD_BITS:Tok}
  {t_MOST_BITS:Tok}
  {t_BLOCK_WORDS:Tok}
  {t_BLOCK_BITS:Tok}
  {t_FULL_WORD:Tok}
  {t_MOST_SIGNS_pairs:Tok}
  {t_STRETCH_BITS:Tok}
  {t_MOST_KNOTS:Tok}
  {t_MOST_SIGNS_woods:Tok}
  {t_MOST_LETTERS:Tok}
  {t_LETTERS:Tok}
  (cd_Bits:CD K ac "Bits")
  (fd_Bits:FD K ac ["length","many_ones","kept_words"])
  (cd_Counts:CD K ab "Counts")
  (fd_Counts:FD K ab ["length","kept_words","kept_table"])
  (cd_Shortcuts:CD K ag "Shortcuts")
  (fd_Shortcuts:FD K ag ["onward","leaps"])
  (cd_Named:CD K ae "Named")
  (fd_Named:FD K ae ["kept_wood","places","begins","kept_stretches","spans","namesakes"])
  (cd_Pairs:CD K aa "Pairs")
  (fd_Pairs:FD K aa ["bits","counts","length","kept_table","often_least"])
  (cd_Opened:CD K ad "Opened")
  (fd_Opened:FD K ad ["pairs"])
  (bc_Heights:BC K bn "Heights")
  (bc_Openings:BC K bo "Openings")
  (g0:GD K "is_whole" N7)
  (g1:GD K "is_within" Lp)
  (g2:GD K "check_bit" K1)
  (g3:GD K "check_place" Iu)
  (g4:GD K "check_stretch" G1)
  (g5:GD K "check_knot" Kk)
  (g6:GD K "ones_in" Rp)
  (g7:GD K "nth_of_four" Gm)
  (g8:GD K "nth_one" Ri)
  (g9:GD K "is_row" Xk)
  (g10:GD K "word_of" Ry)
  (g11:GD K "words_of" Ka)
  (g12:GD K "signs_of" Kg)
  (g13:MD K ac "__init__" "Bits.__init__" L6)
  (g14:MD K ac "size" "Bits.size" La)
  (g15:MD K ac "words" "Bits.words" Ke)
  (g16:MD K ac "stretch" "Bits.stretch" Ft)
  (g17:MD K ac "bit" "Bits.bit" Np)
  (g18:GD K "first_that" J9)
  (g19:GD K "running_sums" Hs)
  (g20:GD K "table_of_words" C3)
  (g21:MD K ab "__init__" "Counts.__init__" Iq)
  (g22:MD K ab "ones_ahead" "Counts.ones_ahead" Ei)
  (g23:MD K ab "ahead" "Counts.ahead" Hk)
  (g24:MD K ab "ahead_of_block" "Counts.ahead_of_block" C1)
  (g25:MD K ab "many_like" "Counts.many_like" Fd)
  (i26:qm K (.ref f26)=true)
  (a26:j7 K (.ref ab) "block_with"=some (some (.ref f26))) (l26:K.lookup f26=some ⟨oc26,od26,.func (jk "block_with" "Counts.block_with" (B2 Bi) (Bk Bi) (Ac Bi) .none kV26 dc26 pm26 an26 (.ref 429) ct26),sl26⟩) (c26:lx K (.ref 429) "Counts.block_with"=true) (k26:ka K (.ref f26)=true)
  (lc26:K.lookup 429=some oo26) (hc26:J1 oo26 429 425)
  (g27:MD K ab "place_from" "Counts.place_from" Ej)
  (g28:MD K ab "place_of" "Counts.place_of" Fs)
  (g29:GD K "begins_of" Io)
  (g30:GD K "check_order" Iv)
  (g31:GD K "rounds_of" Le)
  (g32:GD K "shortcuts_of" Hw)
  (i33:qm K (.ref f33)=true)
  (a33:j7 K (.ref ag) "__init__"=some (some (.ref f33))) (l33:K.lookup f33=some ⟨oc33,od33,.func (jk "__init__" "Shortcuts.__init__" (B2 B6) (Bk B6) (Ac B6) (.ref T33) kV33 dc33 pm33 an33 cd33 ct33),sl33⟩) (c33:lx K cd33 "Shortcuts.__init__"=true) (k33:ka K (.ref f33)=true)
  (lT33:K.lookup T33=some oT33) (dT33:oT33.data=.seq #[vT33] nT33)
  (eT33:Bc (.int 16) vT33)
  (g34:MD K ag "there" "Shortcuts.there" F5)
  (g35:GD K "heights_of" Kf)
  (g36:GD K "check_row" L0)
  (g37:BD K bn "__init__" "Heights.__init__" Hl)
  (g38:MD K aa "opens_ahead" "Pairs.opens_ahead" El)
  (g39:MD K aa "height" "Heights.height" Gh)
  (g40:MD K aa "stretch" "Pairs.stretch" G5)
  (g41:MD K aa "size" "Heights.size" Hv)
  (g42:MD K aa "text" "Heights.text" Hq)
  (g43:MD K aa "__init__" "Pairs.__init__" C5)
  (g44:MD K aa "stretch_at" "Pairs.stretch_at" E9)
  (g45:MD K aa "begin_of" "Pairs.begin_of" Ge)
  (g46:MD K aa "parts" "Heights.parts" Ez)
  (g47:MD K aa "may_meet" "Heights.may_meet" E5)
  (g48:MD K aa "heights_within" "Heights.heights_within" Cv)
  (g49:MD K aa "next_within" "Heights.next_within" Dp)
  (g50:MD K aa "last_within" "Heights.last_within" Dl)
  (g51:GD K "check_height" Hu)
  (g52:MD K aa "next_at" "Heights.next_at" Fz)
  (g53:MD K aa "last_at" "Heights.last_at" Fw)
  (g54:MD K aa "is_opening" "Pairs.is_opening" Fb)
  (g55:MD K aa "partner" "Heights.partner" F8)
  (g56:MD K aa "is_stretch" "Heights.is_stretch" Dx)
  (g57:MD K aa "least_within" "Heights.least_within" Df)
  (g58:MD K aa "lowest" "Heights.lowest" Eb)
  (g59:MD K aa "opening" "Pairs.opening" Gy)
  (g60:GD K "look_at" Rl)
  (g61:GD K "depths_of" Ld)
  (g62:GD K "row_of" Uq)
  (g63:GD K "elders_of" Lo)
  (g64:BD K bo "__init__" "Openings.__init__" Gz)
  (g65:MD K ad "__init__" "Opened.__init__" Iw)
  (g66:MD K ad "many_knots" "Openings.many_knots" Dm)
  (g67:MD K ad "row" "Openings.row" Hx)
  (g68:MD K ad "elders" "Openings.elders" F2)
  (g69:MD K ad "opening" "Openings.opening" Ff)
  (g70:MD K ad "closing" "Openings.closing" E7)
  (g71:MD K ad "knot_at" "Openings.knot_at" E8)
  (g72:MD K ad "beneath" "Openings.beneath" E3)
  (g73:MD K ad "nearest" "Openings.nearest" Fe)
  (g74:GD K "is_name" Mj)
  (g75:GD K "check_names" Ir)
  (g76:GD K "stretches_of" Dv)
  (g77:GD K "namesakes_above" F6)
  (i78:qm K (.ref f78)=true)
  (a78:j7 K (.ref ae) "__init__"=some (some (.ref f78))) (l78:K.lookup f78=some ⟨oc78,od78,.func (jk "__init__" "Named.__init__" (B2 C8) (Bk C8) (Ac C8) .none kV78 dc78 pm78 an78 (.ref 562) ct78),sl78⟩) (c78:lx K (.ref 562) "Named.__init__"=true) (k78:ka K (.ref f78)=true)
  (lc78:K.lookup 562=some oo78) (hc78:J1 oo78 562 560)
  (g79:MD K ae "knots_at" "Named.knots_at" Ed)
  (g80:GD K "check_name" J5)
  (g81:MD K ae "check_both" "Named.check_both" E2)
  (g82:MD K ae "span_of" "Named.span_of" G3)
  (i83:qm K (.ref f83)=true)
  (a83:j7 K (.ref ae) "first_from"=some (some (.ref f83))) (l83:K.lookup f83=some ⟨oc83,od83,.func (jk "first_from" "Named.first_from" (B2 Bx) (Bk Bx) (Ac Bx) .none kV83 dc83 pm83 an83 (.ref 651) ct83),sl83⟩) (c83:lx K (.ref 651) "Named.first_from"=true) (k83:ka K (.ref f83)=true)
  (lc83:K.lookup 651=some oo83) (hc83:J1 oo83 651 647)
  (g84:MD K ae "span_beneath" "Named.span_beneath" D6)
  (g85:MD K ae "all_of" "Named.all_of" Ib)
  (g86:MD K ae "many_beneath" "Named.many_beneath" Dy)
  (g87:MD K ae "all_beneath" "Named.all_beneath" Eh)
  (g88:MD K ae "next_of" "Named.next_of" G0)
  (g89:MD K ae "elder_of" "Named.elder_of" Gg)
  (g90:GD K "_law_cell_at" Iy)
  (g91:GD K "_law_whole" Ls)
  (g92:GD K "_law_mixed" Ma)
  (g93:GD K "_law_digits" J6)
  (g94:GD K "_law_wood" N3)
  (g95:GD K "_law_names" Fi)
  (g96:GD K "_law_is_at" K0)
  (g97:GD K "_law_elder" Lg)
  (g98:GD K "_law_list" Kd)
  (g99:GD K "_law_one" P9)
  (g100:GD K "_law_good" Gk)
  (g101:GD K "law" Zx)
  (cU:iw K mainGlobals "ONES_OF_FOUR"=some (some (.ref ao))) (o1_ONES_OF_FOUR:K.lookup ao=some o_ONES_OF_FOUR) (o2_ONES_OF_FOUR:o_ONES_OF_FOUR.cls=.type "tuple") (o3_ONES_OF_FOUR:o_ONES_OF_FOUR.data=.seq i_ONES_OF_FOUR n_ONES_OF_FOUR) (o4_ONES_OF_FOUR:i_ONES_OF_FOUR.size<=sizeLine) (o5_ONES_OF_FOUR:Ay (Y9.map λn:Nat=>V.int n) i_ONES_OF_FOUR.toList)
  (da:iw K mainGlobals "SIGNS_OF_FOUR"=some (some (.ref ap))) (o1_SIGNS_OF_FOUR:K.lookup ap=some o_SIGNS_OF_FOUR) (o2_SIGNS_OF_FOUR:o_SIGNS_OF_FOUR.cls=.type "tuple") (o3_SIGNS_OF_FOUR:o_SIGNS_OF_FOUR.data=.seq i_SIGNS_OF_FOUR n_SIGNS_OF_FOUR) (o4_SIGNS_OF_FOUR:i_SIGNS_OF_FOUR.size<=sizeLine) (o5_SIGNS_OF_FOUR:Ay (pV) i_SIGNS_OF_FOUR.toList)
  (cL:iw K mainGlobals "WORD_BITS"=some (some (.int 32 t_WORD_BITS)))
  (dg:iw K mainGlobals "MOST_BITS"=some (some (.int 20000 t_MOST_BITS)))
  (cP:iw K mainGlobals "BLOCK_WORDS"=some (some (.int 8 t_BLOCK_WORDS)))
  (c8:iw K mainGlobals "BLOCK_BITS"=some (some (.int 256 t_BLOCK_BITS)))
  (de:iw K mainGlobals "FULL_WORD"=some (some (.int 4294967295 t_FULL_WORD)))
  (c6:iw K mainGlobals "MOST_SIGNS_pairs"=some (some (.int 8192 t_MOST_SIGNS_pairs)))
  (cT:iw K mainGlobals "STRETCH_BITS"=some (some (.int 256 t_STRETCH_BITS)))
  (cY:iw K mainGlobals "MOST_KNOTS"=some (some (.int 4000 t_MOST_KNOTS)))
  (cZ:iw K mainGlobals "MOST_SIGNS_woods"=some (some (.int 8000 t_MOST_SIGNS_woods)))
  (df:iw K mainGlobals "MOST_LETTERS"=some (some (.int 8 t_MOST_LETTERS)))
  (cX:iw K mainGlobals "LETTERS"=some (some (.str "abcdefghijklmnopqrstuvwxyz" t_LETTERS)))
  (z_range:iw K mainGlobals "range"=some none)
  (z_len:iw K mainGlobals "len"=some none)
  (z_int:iw K mainGlobals "int"=some none)
  (z_bool:iw K mainGlobals "bool"=some none)
  (z_str:iw K mainGlobals "str"=some none)
  (z_isinstance:iw K mainGlobals "isinstance"=some none)
  (z_list:iw K mainGlobals "list"=some none)
  (z_tuple:iw K mainGlobals "tuple"=some none)
  (z_dict:iw K mainGlobals "dict"=some none)
  (z_enumerate:iw K mainGlobals "enumerate"=some none)
  (z_zip:iw K mainGlobals "zip"=some none)
  (z_sum:iw K mainGlobals "sum"=some none)
  (z_abs:iw K mainGlobals "abs"=some none)
  (z_max:iw K mainGlobals "max"=some none)
  (z_min:iw K mainGlobals "min"=some none)
  (z_sorted:iw K mainGlobals "sorted"=some none)
  (z_all:iw K mainGlobals "all"=some none)
  (z_reversed:iw K mainGlobals "reversed"=some none),
   ∃fd:jq,(∀(s:fv) (v:fh),AR s fd ⟨[v],[]⟩ [("_law_script",v)])/\∀base:jj,K.In base->base.Ns mainGlobals mg->(∀q∈([(429,425),(562,560),(651,647)]:List (eg×eg)),base.BuiltinsAt mg q.2)->Ar l.prog w K mg base CX0 16 fa fd ["_law_script"] (qB K tz)
theorem walk {l:x5}{q:gl}{loose:Za6}{XP:(Za2)->jj->Prop}{YP:iq->jj->Prop}{d:IT}{K:zq->d6}(hn:l.most=some 63)(hdf:d.params.defaults=[])
  (hY:∀(w:iq) (h:jj),YP w h->(K w.params).In h)(hTb:∀(w:iq) (h:jj),YP w h->yn [(429,425),(562,560),(651,647)] h)(hTK:∀w:iq,∀p∈([(429,425),(562,560),(651,647)]:List (eg×eg)),(K w.params).lookup p.2=none)
  (F:∀(w:iq) (mg:Za2) (fa:eg) (h:jj),(K w.params).In h->h.Ns mainGlobals mg->mg d.name=some (.ref fa) ->
   ∃fd:jq,(∀(s:fv) (u:fh),AR s fd ⟨[u],[]⟩ [("_law_script",u)])/\∀base:jj,(K w.params).In base->base.Ns mainGlobals mg->(∀q∈([(429,425),(562,560),(651,647)]:List (eg×eg)),base.BuiltinsAt mg q.2)->Ar l.prog w (K w.params) mg base CX0 16 fa fd ["_law_script"] (qB (K w.params) tz)) :
  DS q loose XP YP l.row.toRowW d [] (λf vs=>CA f vs):=
 L2.sY (n:=63) (k:=16) (x:="_law_script") (tabs:=[(429,425),(562,560),(651,647)]) (CX:=λ_=>CX0) (sp:=λw=>(qB (K w.params) tz)) hn (by decide) hdf ⟨rfl,by decide,by decide⟩ hY hTb hTK F (λ_ _ a ns hl hO hS=>⟨a,ns,rfl,hS,hl,⟨kl.mpr ⟨⟨#[],hO (429,425) (by simp),trivial,.inl rfl⟩,kl.mpr ⟨⟨#[],hO (562,560) (by simp),trivial,.inl rfl⟩,kl.mpr ⟨⟨#[],hO (651,647) (by simp),trivial,.inl rfl⟩,λ_ h=>nomatch h⟩⟩⟩,by decide⟩,λ_=>rfl⟩) λ_ _ _ _ _ z=>z
end TK
end
section
noncomputable def PySem.W.Fast.tw1589786009486756939:EV:=ip
theorem PySem.W.Fast.te1589786009486756939:ip=PySem.W.Fast.tw1589786009486756939:=rfl
noncomputable def HD.loose:List DI:=[ej "_wall",ej "WoodError",ej "NoBits",ej "NoPlace",ej "NoRow",ej "NoWood",ej "NoKnot",ej "NoOrder",ej "NoName",ej "NoFit",ej "is_whole",ej "is_within",ej "check_bit",ej "check_place",ej "check_stretch",ej "check_from_nought",ej "check_knot",ej "WORD_BITS",ej "FULL_WORD",ej "ONES_OF_FOUR",ej "ones_in",ej "nth_of_four",ej "nth_one",ej "MOST_BITS",ej "SIGNS_OF_FOUR",ej "is_row",ej "word_of",ej "words_of",ej "signs_of",ej "Bits",ej "BLOCK_WORDS",ej "BLOCK_BITS",ej "first_that",ej "running_sums",ej "table_of_words",ej "Counts",ej "begins_of",ej "check_order",ej "rounds_of",ej "shortcuts_of",ej "Shortcuts",ej "LETTERS",ej "MOST_LETTERS",ej "is_name",ej "check_name",ej "check_names",ej "stretches_of",ej "namesakes_above",ej "Named",ej "heights_of",ej "check_height",ej "Heights",ej "MOST_SIGNS_pairs",ej "STRETCH_BITS",ej "check_row",ej "Pairs",ej "MOST_KNOTS",ej "MOST_SIGNS_woods",ej "look_at",ej "row_of",ej "elders_of",ej "depths_of",ej "Wood",ej "Openings",ej "Opened",ej "_law_cell_at",ej "_law_whole",ej "_law_mixed",ej "_law_digits",ej "_law_wood",ej "_law_names",ej "_law_is_at",ej "_law_elder",ej "_law_list",ej "_law_one",ej "_law_good"]
def HD.LD:PySem.DefRec:=HD.recOf (ip.main.body.getD 89 (.Pass ⟨0,0,0,0⟩))
def HD.VQ:EV:=PySem.W.view ip [89]
theorem HD.A_ok (w:FW):(λos=>HD.oneA (HD.bootT w os) (PySem.W.boot_heap w.params) HD.bootSize ip 100000 w)=(λ_=>some true):=by rw[HD.oneA_eq];kernel_rfl
theorem HD.B_ok (w:FW):(λos=>HD.oneB (HD.bootT w os) HD.bootSize ip HD.VQ HD.loose 100000 w)=(λ_=>some (PySem.W.openGood HD.VQ HD.loose)):=by rw[HD.oneB_eq];kernel_rfl
set_option hygiene false in
local macro_rules | `(tactic| o_head $H)=>`(tactic| (refine PySem.W.holds_open (q:=HD.VQ) (loose:=HD.loose) (d:=HD.LD) (kwd:=[]) (Xt:=λ_=>true) (XP:=λ_ _=>True) (Yf:=z4 $H) (Ya:=z0 $H) (YP:=HE $H) (N:=100000) (HD.left_of3 (p:=ip) (q:=HD.VQ) (loose:=HD.loose) (Yf:=z4 $H) (Ya:=z0 $H) (N:=100000) (M:=100000) (by kernel_rfl) (λ_=>by kernel_rfl) (by kernel_rfl) (by kernel_rfl) HD.A_ok HD.B_ok (HD.hC_km (λw=>by rw [HD.oneP_eq];kernel_rfl))) (HF $H) (HG $H) (λ_ _=>trivial) (λ_ _ _ _ _=>trivial) (by kernel_rfl) (by kernel_rfl) (by kernel_rfl) (λ_ _=>PySem.W.recFacts_nil rfl) rfl (by assumption) (by decide +kernel) ⟨rfl,rfl,rfl,rfl,rfl,by decide +kernel⟩ ?_ ?_))
open PySem PySem.W PyProof.Rows
set_option maxRecDepth 100000 in
set_option maxHeartbeats 0 in
theorem TK.HEAD (AM:TK.AllMk):mz.Holds:=by
 w_on;o_law;k_head
 ·w_witness2
 k_fill
 refine TK.walk (l:=mz) rfl (by kernel_rfl) (λw h Y=>AX Y) (λw h Y=>kl.mpr ⟨⟨wb (c:=429) (P:=425) (AX Y) (by kernel_rfl),wn Y 425 (by simp)⟩,kl.mpr ⟨⟨wb (c:=562) (P:=560) (AX Y) (by kernel_rfl),wn Y 560 (by simp)⟩,kl.mpr ⟨⟨wb (c:=651) (P:=647) (AX Y) (by kernel_rfl),wn Y 647 (by simp)⟩,λ_ h=>nomatch h⟩⟩⟩) (λw=>kl.mpr ⟨by kernel_rfl,kl.mpr ⟨by kernel_rfl,kl.mpr ⟨by kernel_rfl,λ_ h=>nomatch h⟩⟩⟩) ?F
 case F=>
  intro w mg fa h KX G hmg;refine' AM KX G hmg ?cd_Bits ?fd_Bits ?cd_Counts ?fd_Counts ?cd_Shortcuts ?fd_Shortcuts ?cd_Named ?fd_Named ?cd_Pairs ?fd_Pairs ?cd_Opened ?fd_Opened ?bc_Heights ?bc_Openings ?g0 ?g1 ?g2 ?g3 ?g4 ?g5 ?g6 ?g7 ?g8 ?g9 ?g10 ?g11 ?g12 ?g13 ?g14 ?g15 ?g16 ?g17 ?g18 ?g19 ?g20 ?g21 ?g22 ?g23 ?g24 ?g25 ?i26 ?a26 ?l26 ?c26 ?k26 ?lc26 ?hc26 ?g27 ?g28 ?g29 ?g30 ?g31 ?g32 ?i33 ?a33 ?l33 ?c33 ?k33 ?lT33 ?dT33 ?eT33 ?g34 ?g35 ?g36 ?g37 ?g38 ?g39 ?g40 ?g41 ?g42 ?g43 ?g44 ?g45 ?g46 ?g47 ?g48 ?g49 ?g50 ?g51 ?g52 ?g53 ?g54 ?g55 ?g56 ?g57 ?g58 ?g59 ?g60 ?g61 ?g62 ?g63 ?g64 ?g65 ?g66 ?g67 ?g68 ?g69 ?g70 ?g71 ?g72 ?g73 ?g74 ?g75 ?g76 ?g77 ?i78 ?a78 ?l78 ?c78 ?k78 ?lc78 ?hc78 ?g79 ?g80 ?g81 ?g82 ?i83 ?a83 ?l83 ?c83 ?k83 ?lc83 ?hc83 ?g84 ?g85 ?g86 ?g87 ?g88 ?g89 ?g90 ?g91 ?g92 ?g93 ?g94 ?g95 ?g96 ?g97 ?g98 ?g99 ?g100 ?g101 ?cU ?o1_ONES_OF_FOUR ?o2_ONES_OF_FOUR ?o3_ONES_OF_FOUR ?o4_ONES_OF_FOUR ?o5_ONES_OF_FOUR ?da ?o1_SIGNS_OF_FOUR ?o2_SIGNS_OF_FOUR ?o3_SIGNS_OF_FOUR ?o4_SIGNS_OF_FOUR ?o5_SIGNS_OF_FOUR ?cL ?dg ?cP ?c8 ?de ?c6 ?cT ?cY ?cZ ?df ?cX ?z_range ?z_len ?z_int ?z_bool ?z_str ?z_isinstance ?z_list ?z_tuple ?z_dict ?z_enumerate ?z_zip ?z_sum ?z_abs ?z_max ?z_min ?z_sorted ?z_all ?z_reversed
  (case cd_Bits|cd_Counts|cd_Shortcuts|cd_Named|cd_Pairs|cd_Opened|bc_Heights|bc_Openings=>refine' ⟨?_,?_,?_⟩<;>try k_is)
  (case fd_Bits|fd_Counts|fd_Shortcuts|fd_Named|fd_Pairs|fd_Opened=>refine' L2.fD ?_ ?_ ?_ ?_ ?_<;>try first|k_is|kernel_rfl)
  (case g0|g1|g2|g3|g4|g5|g6|g7|g8|g9|g10|g11|g12|g18|g19|g20|g29|g30|g31|g32|g35|g36|g51|g60|g61|g62|g63|g74|g75|g76|g77|g80|g90|g91|g92|g93|g94|g95|g96|g97|g98|g99|g100|g101=>as_aux_lemma=>(refine' L2.gD ?_ ?_ ?_ ?_<;>try k_is))
  (case g13|g14|g15|g16|g17|g21|g22|g23|g24|g25|g27|g28|g34|g38|g39|g40|g41|g42|g43|g44|g45|g46|g47|g48|g49|g50|g52|g53|g54|g55|g56|g57|g58|g59|g65|g66|g67|g68|g69|g70|g71|g72|g73|g79|g81|g82|g84|g85|g86|g87|g88|g89=>as_aux_lemma=>(refine' L2.mD ?_ ?_ ?_ ?_ ?_<;>try k_is))
  (case g37|g64=>as_aux_lemma=>(refine' L2.bD ?_ ?_ ?_ ?_<;>try k_is))
  (case cL|dg|cP|c8|de|c6|cT|cY|cZ|df|cX|z_range|z_len|z_int|z_bool|z_str|z_isinstance|z_list|z_tuple|z_dict|z_enumerate|z_zip|z_sum|z_abs|z_max|z_min|z_sorted|z_all|z_reversed|a26|l26|c26|k26|i26|lc26=>k_is)
  (case hc26=>exact⟨_,_,_,_,_,_,_,_,rfl,rfl,rfl,rfl,rfl,rfl,rfl,rfl,by decide⟩)
  (case a33|l33|c33|k33|i33|lT33=>k_is)
  (case dT33=>rfl)
  (case eT33=>exact⟨_,rfl⟩)
  (case a78|l78|c78|k78|i78|lc78=>k_is)
  (case hc78=>exact⟨_,_,_,_,_,_,_,_,rfl,rfl,rfl,rfl,rfl,rfl,rfl,rfl,by decide⟩)
  (case a83|l83|c83|k83|i83|lc83=>k_is)
  (case hc83=>exact⟨_,_,_,_,_,_,_,_,rfl,rfl,rfl,rfl,rfl,rfl,rfl,rfl,by decide⟩)
  (case cU|o1_ONES_OF_FOUR=>k_is)
  (case o2_ONES_OF_FOUR=>rfl);(case o3_ONES_OF_FOUR=>rfl);(case o4_ONES_OF_FOUR=>decide);(case o5_ONES_OF_FOUR=>repeat (first|exact .nil|refine .cons ⟨_,rfl⟩ ?_))
  (case da|o1_SIGNS_OF_FOUR=>k_is)
  (case o2_SIGNS_OF_FOUR=>rfl);(case o3_SIGNS_OF_FOUR=>rfl);(case o4_SIGNS_OF_FOUR=>decide);(case o5_SIGNS_OF_FOUR=>repeat (first|exact .nil|refine .cons ⟨_,rfl⟩ ?_))
end
section
set_option hygiene false in
local macro_rules | `(tactic| exists $x)=>`(tactic| (refine $x (λvs H Q E h=>?_) (λcdv A outer s H vs Q E hr h=>?_);focus(first|(cases h;subst_vars;rfl)|(obtain⟨_,h⟩:=h;cases h;subst_vars;rfl))))
set_option hygiene false in
local macro_rules | `(tactic| walk_at "rd")=>`(tactic| repeat (first | (with_reducible first|refine Ah0 ?_|refine Ae7 ?_|refine Agm ?_|refine Abe ?_|refine Af6 ?_|refine r_retN ?_|refine Ady ?_|refine Ahq ?_|refine Aeh ?_|refine Aik ?_|refine Ah2 ?_|refine Af1 ?_|refine Ai0 ?_|refine Ahc ?_|refine Afe ?_|refine Ais ?_|refine Aig ?_|refine Aid ?_|refine r_c ?_|refine Ac6 ?_|refine Agv ?_|refine Aip ?_|refine Af5 ?_|refine Afz ?_|refine Ael ?_|refine Ad5 ?_|refine Ain ?_|refine Ah1 ?_|refine Agt ?_|refine Aim ?_|refine Agr ?_|refine Aia ?_|refine vT ?_|refine Ad0 ?_|refine Agw ?_|refine Aft ?_|refine Adv ?_|refine Aep ?_|refine Abb ?_|refine Aev ?_|refine Aef ?_|refine Aiu ?_|refine Af0 ?_|refine Agx ?_|refine Acl ?_|refine Aeg ?_|refine r_orV ?_|refine Ae6 ?_|refine Ahr ?_|refine Ae9 ?_|refine Aek ?_|refine Aew ?_|refine Agl ?_|refine r_cBK ?_|refine Afh ?_|refine Ab7 ?_|refine Af4 ?_|refine zB ?_|refine r_rngD ?_|refine Adq ?_|refine Ae4 ?_|refine Ad6 ?_|refine r_lrng ?_|refine Aci ?_|refine r_augS ?_|refine r_sortKS ?_|refine r_rngE ?_|refine Ad2 ?_|refine Ae5 ?_|refine Afp ?_|refine Abp ?_|refine Ah3 ?_|refine Afs ?_|refine Y3 (by decide) ?_|refine qW (by decide) ?_|refine Ahw (by decide) (by decide) ?_|refine Vb (by decide) (by decide) ?_|refine vP (by decide) (by decide) ?_|refine Aha rfl ?_|refine Agy rfl ?_|refine Aie ?_|refine Aiy ?_|refine Ahn ?_|refine Ahm ?_) | refine Agp rfl ?_ | refine Ahi rfl ?_ | dsimp only))
namespace TK
open PySem L2 TW
variable {C CB CC CO CP Pt dx i1 i2 it l1 l2:eg} {params:mv} {A:i9} {items:Array fh} {op:vb} {X:Cx} {D:Ie} {env:Env} {tg:i8} {fd:jq} {base h h':jj} {H H' H0 H1 H2:Hp} {J:It} {pins:Za1} {as fp:List eg} {ns ws:List Int} {cs ix:Za4} {N kz nm ps:Za6} {xs:List V} {us vs:Za3} {M:wc} {d n t':Nat} {oT:Obj} {an od:Option eg} {lpos pos pos2:Pos} {scope:nh} {pl:Sem Bool} {s s2:fv} {sp:Sp} {fr:St} {qual z:Str} {te:TE} {wi:TI} {y:V} {cdv ct doc oc pm:fh} {w:iq}
local macro_rules | `(tactic| k_is)=>`(tactic| walk_at "rd")
local macro_rules | `(tactic| apply $t)=>`(tactic| (k_is;refine $t))
structure Qf (K:d6) (C:eg):Prop where
 cl:Cls K C
 cM:Bg K C "length"
 dJ:Bg K C "many_ones"
 cO:Bg K C "kept_words"
structure Qd (K:d6) (C:eg):Prop where
 cl:Cls K C
 cM:Bg K C "length"
 cO:Bg K C "kept_words"
 cQ:Bg K C "kept_table"
structure Qe (K:d6) (C:eg):Prop where
 cl:Cls K C
 dv:Bg K C "onward"
 dN:Bg K C "leaps"
structure Qc (K:d6) (C:eg):Prop where
 cl:Cls K C
 dq:Bg K C "kept_wood"
 di:Bg K C "places"
 dM:Bg K C "begins"
 dC:Bg K C "kept_stretches"
 dD:Bg K C "spans"
 dG:Bg K C "namesakes"
structure Qa (K:d6) (C:eg):Prop where
 cl:Cls K C
 dr:Bg K C "bits"
 dy:Bg K C "counts"
 cM:Bg K C "length"
 cQ:Bg K C "kept_table"
 dP:Bg K C "often_least"
structure Qb (K:d6) (C:eg):Prop where
 cl:Cls K C
 cS:Bg K C "pairs"
structure Txt (P:gl) (w:iq) (base:jj) (ts:List Tb) (K:d6) (mg:Za2) (ao:eg) (ap:eg):Prop where
 cU:mg "ONES_OF_FOUR"=some (.ref ao)
 dj:∀H,SqT K H ao (Y9.map λn:Nat=>V.int n)
 da:mg "SIGNS_OF_FOUR"=some (.ref ap)
 dB:∀H,SqT K H ap (pV)
 cL:∃t,mg "WORD_BITS"=some (.int 32 t)
 dg:∃t,mg "MOST_BITS"=some (.int 20000 t)
 cP:∃t,mg "BLOCK_WORDS"=some (.int 8 t)
 c8:∃t,mg "BLOCK_BITS"=some (.int 256 t)
 de:∃t,mg "FULL_WORD"=some (.int 4294967295 t)
 c6:∃t,mg "MOST_SIGNS_pairs"=some (.int 8192 t)
 cT:∃t,mg "STRETCH_BITS"=some (.int 256 t)
 cY:∃t,mg "MOST_KNOTS"=some (.int 4000 t)
 cZ:∃t,mg "MOST_SIGNS_woods"=some (.int 8000 t)
 df:∃t,mg "MOST_LETTERS"=some (.int 8 t)
 cX:∃t,mg "LETTERS"=some (.str "abcdefghijklmnopqrstuvwxyz" t)
 cN:mg "range"=none
 cK:mg "len"=none
 dn:mg "int"=none
 dE:mg "bool"=none
 dA:mg "str"=none
 cR:mg "isinstance"=none
 c9:mg "list"=none
 dh:mg "tuple"=none
 dF:mg "dict"=none
 cV:mg "enumerate"=none
 c7:mg "zip"=none
 n_sum:mg "sum"=none
 n_abs:mg "abs"=none
 dH:mg "max"=none
 cW:mg "min"=none
 du:mg "sorted"=none
 n_all:mg "all"=none
 dL:mg "reversed"=none
section
variable {P:gl} {w:iq} {K:d6} {mg:Za2} {base:jj} {ao ap:eg} {ac ab ag ae aa ad:eg} {f:eg} {fd:jq} {ts:List Tb}
seal PE PA PT PW PS PSs PI PG
inductive Po(vs:List V)(H:Hp)(Q:VK)(E:XK):Prop|mk(i:Int)(_:vs=[.int i])(_:Q (.bl true) H)
variable (T:Txt P w base ts K mg ao ap)
include T in
theorem hX (F:Fun K "is_whole" "is_whole" N7 f fd):Ar P w K mg base CX0 1 f fd ["thing"] Po:=by
 exists F.ok iJ
 obtain⟨i,rfl,q⟩:=h;refine⟨_,(Ad (Am (U9 (Ao Cr (by rfl) T.cR Ci (tpa (pv 0) (tpa (G9 (v:=.ty "int") rfl T.dn rY rfl) Aa))) (Uk (zE (Ao Cr (by rfl) T.cR Ci (tpa (pv 0) (tpa (G9 (v:=.ty "bool") rfl T.dE wL rfl) Aa)))))))),?_⟩;apply⟨_,_,_,_,rfl,.int _,Sg,?_⟩;apply⟨_,_,_,_,rfl,.int _,Pz,?_⟩;k_is;exact q
inductive Zo(vs:List V)(H:Hp)(Q:VK)(E:XK):Prop|mk(x lo hi:Int)(_:vs=[.int x,.int lo,.int hi])(_:lo<=x)(_:x<=hi)(_:Q (.bl true) H)
variable (aD:Cal P w K mg base "is_whole" 1 ["thing"] Po)
include T aD in
theorem dR (F:Fun K "is_within" "is_within" Lp f fd):Ar P w K mg base CX0 2 f fd ["thing","low","high"] Zo:=by
 exists F.ok fU
 obtain⟨x,lo,hi,rfl,h1,h2,q⟩:=h;refine⟨_,(Ad (Am (U9 (Au aD hr.m (tpa (pv 0) Aa)) (Uk (lB rR rR (pv 1) (pv 0) (pv 2)))))),?_⟩;apply⟨x,rfl,?_⟩;apply Bo (λ_=>?_) (λh=>absurd h1 h);k_is;rw[decide_eq_true h2];exact q
inductive uR(vs:List V)(H:Hp)(Q:VK)(E:XK):Prop|mk(b:Bool)(_:vs=[.int (b.toNat:Nat)])(_:Q .non H)
variable (aw:Cal P w K mg base "is_within" 2 ["thing","low","high"] Zo)
include T aw in
theorem fP (F:Fun K "check_bit" "check_bit" K1 f fd):Ar P w K mg base CX0 3 f fd ["bit"] uR:=by
 exists F.ok eJ
 obtain⟨b,rfl,q⟩:=h;refine⟨_,(Ad (Bm (Cl (Bt (Au aw hr.m (tpa (pv 0) (tpa Ae (tpa Ae Aa)))))) (Ad B9)
  Aw)),?_⟩
 apply⟨_,0,1,rfl,by lia,by cases b<;>decide,?_⟩
 k_is;exact q
inductive kZ(vs:List V)(H:Hp)(Q:VK)(E:XK):Prop|mk(n g:Int)(_:vs=[.int n,.int g])(_:0<=n)(_:n<=g)(_:Q .non H)
include T aw in
theorem Xa (F:Fun K "check_place" "check_place" Iu f fd):Ar P w K mg base CX0 3 f fd ["place","greatest"] kZ:=by
 exists F.ok Ui
 obtain⟨n,g,rfl,h0,h1,q⟩:=h;refine⟨_,(Ad (Bm (Cl (Bt (Au aw hr.m (tpa (pv 0) (tpa Ae (tpa (pv 1) Aa)))))) (Ad B9)
  Aw)),?_⟩
 apply⟨n,0,g,rfl,h0,h1,?_⟩;k_is;exact q
inductive yR(vs:List V)(H:Hp)(Q:VK)(E:XK):Prop|mk(i j g:Int)(_:vs=[.int i,.int j,.int g])(_:0<=i)(_:i<=j)(_:j<=g)(_:Q .non H)
variable (am:Cal P w K mg base "check_place" 3 ["place","greatest"] kZ)
include T am in
theorem Rz (F:Fun K "check_stretch" "check_stretch" G1 f fd):Ar P w K mg base CX0 4 f fd ["low","high","greatest"] yR:=by
 exists F.ok P5
 obtain⟨i,j,g,rfl,h0,h1,h2,q⟩:=h;refine⟨_,(Ab (As (Au am hr.m (tpa (pv 0) (tpa (pv 2) Aa)))) (Ab (As (Au am hr.m (tpa (pv 1) (tpa (pv 2) Aa)))) (Ad (Bm (ttc Fp (pv 0) (pv 1)) (Ad B9)
  Aw)))),?_⟩
 apply⟨i,g,rfl,h0,by lia,?_⟩;apply⟨j,g,rfl,by lia,h2,?_⟩;apply Bo (λh=>absurd h (by lia)) (λ_=>?_);k_is;exact q
inductive pQ(vs:List V)(H:Hp)(Q:VK)(E:XK):Prop|mk(n g:Int)(_:vs=[.int n,.int g])(_:0<=n)(_:n<g)(_:Q .non H)
include T aw in
theorem X5 (F:Fun K "check_knot" "check_knot" Kk f fd):Ar P w K mg base CX0 3 f fd ["k","many_knots"] pQ:=by
 exists F.ok Xu
 obtain⟨n,g,rfl,h0,h1,q⟩:=h;refine⟨_,(Ad (Bm (Cl (Bt (Au aw hr.m (tpa (pv 0) (tpa Ae (tpa (Ak B5 (pv 1) Ae) Aa)))))) (Ad B9)
  Aw)),?_⟩
 apply⟨n,0,g-1,rfl,h0,by lia,?_⟩;k_is;exact q
inductive vZ(vs:List V)(H:Hp)(Q:VK)(E:XK):Prop|mk(n:Nat)(_:vs=[.int n])(_:Q (.int (pc n)) H)
include T in
theorem lQ (F:Fun K "ones_in" "ones_in" Rp f fd):Ar P w K mg base CX0 1 f fd ["word"] vZ:=by
 exists F.ok J8
 obtain⟨n,rfl,q⟩:=h;refine⟨_,(Ab (tst 1 J8.nd Ae) (Ab (Et ii (ttc Fp (pv 0) Ae) (Ab (tau 1 J8.nd (tix Bs (Oc (v:=.ref _) rfl T.cU rfl) (Ak Nr (pv 0) Ae)) N0) (Ad (tau 0 J8.nd Ae pL)))) (Ad (Am (pv 1))))),?_⟩
 apply Gr (λG H'=>∃m o:Nat,G=[some (.int m),some (.int o)]/\pc n=o+pc m/\H'=H) (λG _=>match G with|some (.int m)::_=>m.toNat|_=>0) ⟨n,0,rfl,by simp,rfl⟩ ?_;rintro k G H' ⟨m,o,rfl,e,rfl⟩ hk;apply Bo (λhm=>?_) (λhm=>?_)
 ·refine Li ?_
  apply Cd (T.dj _) (v:=.int (pc (m%16))) ?_ ?_
  ·rw[qY]
   exact rT _ (ua _ (by decide))
  ·apply⟨⟨m/16,o+pc (m%16),?_,?_,rfl⟩,?_⟩
   ·show[some (V.int ((m:Int)/2 ^ (4:Int).toNat)),some (V.int ((o:Int)+(pc (m%16):Int)))]=_
    rw[Ach];rfl
   ·rw[e,Aib m]
    lia
   ·show((m:Int)/2 ^ (4:Int).toNat).toNat<k
    rw[Ach,<-hk];show m/16<m;lia
 ·k_is
  have:m=0:=by lia
  subst this;rw[Tx] at e;show Q (.int (o:Int)) H';rw[show o=pc n by lia];exact q
inductive yN(vs:List V)(H:Hp)(Q:VK)(E:XK):Prop|mk(r k p:Nat)(_:vs=[.int r,.int k])(_:(Z3 r)[k]?=some p)(_:∀H',Ag H H'->Q (.int p) H')
include T in
theorem Vu (F:Fun K "nth_of_four" "nth_of_four" Gm f fd):Ar P w K mg base CX0 1 f fd ["four","nth"] yN:=by
 exists F.ok L3
 obtain⟨r,k,p,rfl,hp,q⟩:=h;refine⟨_,(Ab (F7 (i:=2) rfl Rv L3.nd rfl rfl (Fk rfl T.cN (tpa Ae Aa)) (λ_ _ _ _=>Md (ttc Dt (Ak Nr (Ak mL (pv 1) (pv 0)) Ae) Ae)) (λ_ _ _ _=>(pv 0))) (Ad (Am (tix Bl (pv 2) (pv 1))))),?_⟩
 apply⟨4,rfl,by decide,by decide,?_⟩;refine Jy (λi=>((fb i).filter λp=>decide (r/2 ^ p%2=1)).map λp:Nat=>V.int (p:Int)) rfl (λi hi=>?_) (λi H1 R A hi sm kR kA=>?_) (λD H1 hD sm hl=>?_)
 ·have h4:i<4:=hi
  rw[d7];exact qo (ir (j9 _ _) (oh fe)) (Dk (by lia))
 ·apply qW (by lia) ?_;k_is;have e1:(r:Int)/2 ^ (0+(i:Int)).toNat=((r/2 ^ i:Nat):Int):=by
   rw[show(0+(i:Int)).toNat=i by lia];exact(ux r (2 ^ i)).symm
  rw[e1,Agu];have e2:((fb (i+1)).filter λp=>decide (r/2 ^ p%2=1))=((fb i).filter λp=>decide (r/2 ^ p%2=1))++if r/2 ^ i%2=1 then[i] else[]:=by
   rw[je,lr];congr 1
   by_cases h:r/2 ^ i%2=1
   ·rw[if_pos h]
    simp[h]
   ·rw[if_neg h]
    simp[h]
  refine Bo (λhb=>?_) (λhb=>?_)
  ·have hb:r/2 ^ i%2=1:=by
    have:=V.int.inj hb;lia
   apply kA _ _ ?_ (Ag.refl _);rw[e2,if_pos hb,fj,show(0+(i:Int))=(i:Int) by lia];rfl
  ·have hb:¬ r/2 ^ i%2=1:=by
    intro z;exact hb (by rw[z];rfl)
   refine kR ?_ _ (Ag.refl _);rw[e2,if_neg hb,gy]
 ·apply Cg (SqL.of hl) (v:=.int p) ?_ (q _ sm);refine A7 ?_;rw[d9];show Option.map _ ((Z3 r)[k]?)=_;rw[hp];rfl
inductive Adm(vs:List V)(H:Hp)(Q:VK)(E:XK):Prop|mk(n k:Nat)(_:vs=[.int n,.int k])(_:∀H',Ag H H'->Q (Agn (nth n k)) H')
include T in
theorem nQ (F:Fun K "nth_one" "nth_one" Ri f fd)(bw:Cal P w K mg base "nth_of_four" 1 ["four","nth"] yN):Ar P w K mg base CX0 2 f fd ["word","nth"] Adm:=by
 exists F.ok Gj
 obtain⟨n,k,rfl,q⟩:=h;refine⟨_,(Ab (Bm (ttc O7 (pv 1) Ae) (Ad (Am Ek))
  Aw) (Ab (tst 2 Gj.nd Ae) (Ab (Et ii (ttc Fp (pv 0) Ae) (Ab (tst 3 Gj.nd (tix Bs (Oc (v:=.ref _) rfl T.cU rfl) (Ak Nr (pv 0) Ae))) (Ab (Bm (ttc O7 (pv 1) (pv 3)) (Ad (Am (Ak Bd (pv 2) (Au bw hr.m (tpa (Ak Nr (pv 0) Ae) (tpa (pv 1) Aa))))))
  Aw) (Ab (tau 1 Gj.nd (pv 3) wC) (Ab (tau 0 Gj.nd Ae pL) (Ad (tau 2 Gj.nd Ae N0))))))) (Ad (Am Ek))))),?_⟩
 apply Bo (λhb=>absurd hb (by lia)) (λ_=>?_);apply Gr (λG H'=>∃(m j low:Nat) (v:Option V),G=[some (.int m),some (.int j),some (.int low),v]/\nth n k=(nth m j).map (·+low)/\H'=H) (λG _=>match G with|some (.int m)::_=>m.toNat|_=>0) ⟨n,k,0,none,rfl,by simp,rfl⟩ ?_;rintro μ G H' ⟨m,j,low,v,rfl,e,rfl⟩ hk;apply Bo (λhm=>?_) (λhm=>?_)
 ·refine Li ?_
  apply Cd (T.dj _) (v:=.int (pc (m%16))) ?_ ?_
  ·rw[qY]
   exact rT _ (ua _ (by decide))
  ·k_is
   have e16:=Aho m j;refine Bo (λhj=>?_) (λhj=>?_)
   ·have hj:j<pc (m%16):=by lia
    k_is;rw[if_pos hj] at e16;rw[qY];obtain⟨p,hp⟩:∃p,(Z3 (m%16))[j]?=some p:=by
     have:j<(Z3 (m%16)).length:=by rw[Abh _ (ua _ (by decide))];exact hj
     exact⟨_,d4 this⟩
    refine⟨m%16,j,p,rfl,hp,λH1 s1=>?_⟩;k_is;have:=q H1 s1;rw[e,e16,hp] at this;rw[show(low:Int)+(p:Int)=((p+low:Nat):Int) by lia];exact this
   ·have hj:¬ j<pc (m%16):=by lia
    k_is;rw[if_neg hj] at e16;refine⟨⟨m/16,j-pc (m%16),low+4,some (.int (pc (m%16))),?_,?_,rfl⟩,?_⟩
    ·show[some (V.int ((m:Int)/2 ^ (4:Int).toNat)),some (V.int ((j:Int)-(pc (m%16):Int))),some (V.int ((low:Int)+4)),some (V.int (pc (m%16)))]=_
     rw[Ach,show(j:Int)-(pc (m%16):Int)=((j-pc (m%16):Nat):Int) by lia];rfl
    ·rw[e,e16,yt]
     congr 1
     funext x
     show x+4+low=x+(low+4);lia
    ·show((m:Int)/2 ^ (4:Int).toNat).toNat<μ
     rw[Ach,<-hk];show m/16<m;lia
 ·k_is
  have:m=0:=by lia
  subst this;rw[U3] at e;have:=q H' (Ag.refl _);rw[e] at this;exact this
def Aa2 (z:Str):Bool:=if z.length>20000 then false else decide (Rh z 48+Rh z 49=z.length)
inductive pI(vs:List V)(H:Hp)(Q:VK)(E:XK):Prop|mk(z:Str)(_:vs=[.str z])(_:z.length<=sizeLine)(_:Q (.bl (Aa2 z)) H)
include T in
theorem uF (F:Fun K "is_row" "is_row" Xk f fd):Ar P w K mg base CX0 1 f fd ["thing"] pI:=by
 exists F.ok uM
 obtain⟨z,rfl,hz,q⟩:=h;refine⟨_,(Ab (Bm (PW.pt (Ik (Cl (Bt (Ao Cr (by rfl) T.cR Ci (tpa (pv 0) (tpa (G9 (v:=.ty "str") rfl T.dA vX rfl) Aa))))) (Ho (ttc Fp (Ao B7 (by rfl) T.cK Ch (tpa (pv 0) Aa)) (A5 rfl T.dg))))) (Ad (Am Jk))
  Aw) (Ad (Am (tpc Dt (Ak Bd (Cj km ur uq Vf (pv 0) (tpa Cy Aa)) (Cj km ur uq Vf (pv 0) (tpa Cy Aa))) (Ao B7 (by rfl) T.cK Ch (tpa (pv 0) Aa)))))),?_⟩
 apply⟨_,_,_,_,rfl,.str _,Sk,?_⟩;apply⟨z,rfl,hz,?_⟩;k_is;unfold Aa2 at q;refine Bo (λhb=>?_) (λhb=>?_)
 ·k_is
  rw[if_pos (by lia)] at q;exact q
 ·k_is
  rw[if_neg (by lia)] at q;refine⟨rfl,?_⟩;apply⟨z,48,rfl,rfl,?_⟩;apply⟨rfl,?_⟩;apply⟨z,49,rfl,rfl,?_⟩;apply⟨z,rfl,hz,?_⟩;k_is;have e:decide (V.int ((Rh z 48:Int)+(Rh z 49:Int))=V.int (z.length:Int))=decide (Rh z 48+Rh z 49=z.length):=by
   refine decide_eq_decide.mpr ⟨λh=>?_,λh=>?_⟩
   ·have:=V.int.inj h
    lia
   ·rw[<-h]
    congr 1
  rw[e];exact q
inductive wN(vs:List V)(H:Hp)(Q:VK)(E:XK):Prop|mk(l:Za5)(_:vs=[.str (Av l)])(_:0<l.length)(_:l.length<=32)(_:Q (.int (val l:Nat)) H)
include T in
theorem mU (F:Fun K "word_of" "word_of" Ry f fd):Ar P w K mg base CX0 1 f fd ["signs"] wN:=by
 exists F.ok nB
 obtain⟨l,rfl,h0,h1,q⟩:=h;refine⟨_,(Ad (Am (Dj X6 (by rfl) T.dn rY (tpa (Abd (pv 0)) (tpa Ae Aa))))),?_⟩;apply⟨_,rfl,?_,?_⟩
 ·rw[A6]
  exact f9 (Dk (by lia))
 apply⟨_,rfl,?_,?_,?_,?_⟩
 ·rw[Ky,A6]
  lia
 ·intro c hc
  have:c∈(Av l).cps.toList:=by
   have h:c∈(Av l).cps.toList.reverse.toArray.toList:=hc
   simpa using h
  exact mG l c this
 ·intro z
  have e:(Xp (Av l)).cps.toList.length=0:=by rw[z];rfl
  have e2:(Xp (Av l)).cps.toList.length=(Xp (Av l)).length:=by simp[vi]
  rw[e2,Ky,A6] at e;lia
 ·rw[Afw]
  exact q
inductive rK (K:d6)(vs:List V)(H:Hp)(Q:VK)(E:XK):Prop|mk(l:Za5)(_:vs=[.str (Av l)])(_:l.length<=20000)(_:∀p H',Ag H H'->H p=none->H' p=some (.tup (nV (wordsOf l)))->Q (.ref p) H')
include T in
theorem gT (F:Fun K "words_of" "words_of" Ka f fd)(bx:Cal P w K mg base "word_of" 1 ["signs"] wN):Ar P w K mg base CX0 2 f fd ["text"] (rK K):=by
 exists F.ok kP
 obtain⟨l,rfl,hl,q⟩:=h;have hz:(Av l).length<=sizeLine:=by rw[A6];exact f9 (Ai (by lia))
 refine⟨_,(Ad (Am (Dj Eu (by rfl) T.dh Pk (tpa (Lc rfl X4 (P7 rfl T.cN (tpa Ae (tpa (Ao B7 (by rfl) T.cK Ch (tpa (pv 0) Aa)) (tpa (A5 rfl T.cL) Aa)))) (λ_ _ _ _=>Cb) (λ_ _ _ _=>(Au bx hr.m (tpa (Cf Lk (pv 1) (B3 (pv 0)) (B3 (Ak Bd (pv 0) (A5 rfl T.cL)))) Aa)))) Aa)))),?_⟩;apply⟨_,rfl,hz,?_⟩;rw[A6];apply⟨0,l.length,32,rfl,by lia,?_⟩;have hn:Cp 0 (l.length:Int) 32=By l.length:=Vp l.length 32 (by decide);rw[hn];refine iK (λi=>nV ((fb i).map λj=>val (Az l j))) rfl (λi hi=>?_) (λi H1 R A hi sm kR kA=>?_) (λD H1 hD sm hl'=>?_)
 ·have:=lF hi
  rw[d7,d7,fe];exact Ai (by lia)
 ·apply Um hz ?_;have hi':=lF hi;rw[show(0+(i:Int)*32)=((32*i:Nat):Int) by lia,show(((32*i:Nat):Int)+32)=((32*i+32:Nat):Int) by lia,P8];apply⟨Az l i,?_,?_,?_,?_⟩
  ·unfold Az
   rw[show 32*i+32-32*i=32 by lia];rfl
  ·unfold Az
   rw[fi,ic];lia
  ·unfold Az
   rw[fi];lia
  ·refine kA _ _ ?_ (Ag.refl _)
   exact L4 _ _
 ·apply⟨D,_,rfl,.inl ⟨SqL.of hl',λp hp=>?_⟩⟩;exact q p _ (sm.trans (An hp)) (sm.free hp) Af
theorem zA:∀r:Nat,r<16->pV[r]?=some (.str (Av (nO r))):=by
 intro r hr;have:r=0\/r=1\/r=2\/r=3\/r=4\/r=5\/r=6\/r=7\/r=8\/r=9\/r=10\/r=11\/r=12\/r=13\/r=14\/r=15:=by lia
 rcases this with rfl|rfl|rfl|rfl|rfl|rfl|rfl|rfl|rfl|rfl|rfl|rfl|rfl|rfl|rfl|rfl<;>rfl
theorem zO (ls:List (Za5)):tx ("":Str) (ls.map Av)=Av ls.flatten:=by
 refine Hc ?_;rw[Nx,C2]
 induction ls with
 |nil=>rfl
 |cons a r ih=>
  rw[im,im,jl,ih,jl,fj,C2]
theorem zW (ls:List (Za5)):((ls.map Av).map (·.length)).sum=ls.flatten.length:=by
 induction ls with
 |nil=>rfl
 |cons a r ih=>rw[im,im,xf,ih,jl,eh,A6]
theorem kB {K:d6}{Q:VK}{p:eg}{ls:List (Za5)}(hl:H1 p=some (.lst (ls.map λl=>V.str (Av l))))(hz:ls.flatten.length<=100000)(q:Q (.str (Av ls.flatten)) H1):zD K (.str "") [.ref p] H1 Q:=by
 refine⟨"",p,ls.map Av,rfl,rfl,SqL.of ?_,?_,?_⟩
 ·rw[hl,jf]
  rfl
 ·rw[zW]
  show ls.flatten.length+_*0<=_;lia
 ·rw[zO]
  exact q
theorem qR (n k:Nat){j:Int}(h:j=(k:Int)):(n:Int)/2 ^ j.toNat=((n/2 ^ k:Nat):Int):=by
 subst h;rw[gw];exact(ux n (2 ^ k)).symm
inductive Yu (K:d6)(vs:List V)(H:Hp)(Q:VK)(E:XK):Prop|mk(n:Nat)(_:vs=[.int n])(_:∀H',Ag H H'->Q (.str (Av (Ox n))) H')
include T in
theorem kO (F:Fun K "signs_of" "signs_of" Kg f fd):Ar P w K mg base CX0 1 f fd ["word"] (Yu K):=by
 exists F.ok iN
 obtain⟨n,rfl,q⟩:=h;refine⟨_,(Ad (Am (Cj km o0 oz Of Cy (tpa (Lc rfl Xv (P7 rfl T.cN (tpa Ae (tpa (A5 rfl T.cL) (tpa Ae Aa)))) (λ_ _ _ _=>Cb) (λ_ _ _ _=>(tix (Ti K) (Oc (v:=.ref _) rfl T.da rfl) (Ak Nr (Ak mL (pv 1) (pv 0)) Ae)))) Aa)))),?_⟩;apply⟨rfl,?_⟩;apply⟨0,32,4,rfl,by lia,?_⟩;refine iK (λi=>((fb i).map λj=>nO (n/2 ^ (4*j)%16)).map λl=>V.str (Av l)) rfl (λi hi=>?_) (λi H1 R A hi sm kR kA=>?_) (λD H1 hD sm hl=>?_)
 ·have hi:i<8:=hi
  rw[d7,d7,fe];exact Dk (by lia)
 ·have hi:i<8:=hi
  apply qW (by lia) ?_;k_is;rw[qR n (4*i) (by lia),qY];refine Cd (T.dB _) (A7 (zA _ (ua _ (by decide)))) ?_;refine kA _ _ ?_ (Ag.refl _);rw[je,fj,fj];rfl
 ·k_is
  have hl:H1 D=some (.lst (((fb 8).map λj=>nO (n/2 ^ (4*j)%16)).map λl=>V.str (Av l))):=hl;refine kB hl ?_ ?_
  ·rw[T6]
   unfold Ox;rw[d7,fe];decide
  ·rw[T6]
   exact q _ sm
def yE (l:Za5)(t:eg):List (Str×V):=[("length",.int (l.length:Nat)),("many_ones",.int (l.count true:Nat)),("kept_words",.ref t)]
def Dn (K:d6)(C:eg)(H:Hp)(a:eg)(l:Za5):Prop:=∃dx t,H a=some (.ins C dx (yE l t))/\H t=some (.tup (nV (wordsOf l)))/\l.length<=20000
theorem Hi {K:d6}{x b:eg}{l:Za5}(s:SameBut x H H')(n:Aaf H x)(hne:b≠x)(h:Dn K C H b l):Dn K C H' b l:=by
 obtain⟨dx,t,h1,h2,h3⟩:=h;exact⟨dx,t,s _ _ hne h1,s _ _ (λe=>by subst e;exact(n _).1 (.inl h2)) h2,h3⟩
theorem Dn.same {K:d6}{b:eg}{l:Za5}(s:Ag H H')(h:Dn K C H b l):Dn K C H' b l:=by
 obtain⟨dx,t,h1,h2,h3⟩:=h;exact⟨dx,t,s _ _ h1,s _ _ h2,h3⟩
inductive Vy (K:d6)(C:eg)(vs:List V)(H:Hp)(Q:VK)(E:XK):Prop|mk(x dx:eg)(l:Za5)(_:vs=[.ref x,.str (Av l)])(_:H x=some (.ins C dx []))(_:l.length<=20000)(_:∀H',SameBut x H H'->Dn K C H' x l->Q .non H')
theorem nM {l:Za5}(h:l.length<=20000):Aa2 (Av l)=true:=by
 unfold Aa2;rw[A6,if_neg (by lia)];exact decide_eq_true (Zf l).2
variable (ak:Qf K ac)
include T ak in
theorem W4 (F:Fun K "__init__" "Bits.__init__" L6 f fd)(bz:Cal P w K mg base "is_row" 1 ["thing"] pI)(bA:Cal P w K mg base "words_of" 2 ["text"] (rK K)) :
  Ar P w K mg base CX0 3 f fd ["self","text"] (Vy K ac):=by
 exists F.ok eY
 obtain⟨x,dx,l,rfl,hx,hl,q⟩:=h;have hz:(Av l).length<=sizeLine:=by rw[A6];exact f9 (Ai (by lia))
 refine⟨_,(Ab (Bm (Cl (Bt (Au bz hr.m (tpa (pv 1) Aa)))) (Ad B9)
  Aw) (Ab (tsf (pv 0) (Ao B7 (by rfl) T.cK Ch (tpa (pv 1) Aa))) (Ab (tsf (pv 0) (Cj km ur uq Vf (pv 1) (tpa Cy Aa))) (Ad (tsf (pv 0) (Au bA hr.m (tpa (pv 1) Aa))))))),?_⟩
 apply⟨_,rfl,hz,?_⟩;rw[nM hl];apply⟨_,rfl,hz,?_⟩;rw[A6];apply Dr hx ak.cl ak.cM (by decide) ?_;apply⟨rfl,?_⟩;apply⟨_,49,rfl,rfl,?_⟩;rw[(Zf l).1];apply Dr Af ak.cl ak.dJ (show 1<1000 by decide) ?_;rw[Tm];apply⟨l,rfl,hl,λt H' sm hf ht=>?_⟩;apply Dr (sm _ _ Af) ak.cl ak.cO (show 2<1000 by decide) ?_;apply q _ ((A8.trans sm.but).trans A8) ⟨dx,t,Af,?_,hl⟩;have hne:t≠x:=λe=>by
  subst e;rw[Af] at hf;cases hf
 rw[Al hne];exact ht
inductive Uc (K:d6)(C:eg)(vs:List V)(H:Hp)(Q:VK)(E:XK):Prop|mk(x:eg)(l:Za5)(_:vs=[.ref x])(_:Dn K C H x l)(_:Q (.int (l.length:Nat)) H)
include T ak in
theorem W5 (F:Fun K "size" "Bits.size" La f fd):Ar P w K mg base CX0 1 f fd ["self"] (Uc K ac):=by
 exists F.ok fL
 obtain⟨x,l,rfl,⟨dx,t,hx,ht,hl⟩,q⟩:=h;refine⟨_,(Ad (Am (tfl (pv 0)))),?_⟩;k_is;exact Aab hx ak.cl ak.cM rfl q
inductive Ss (K:d6)(C:eg)(vs:List V)(H:Hp)(Q:VK)(E:XK):Prop|mk(x:eg)(l:Za5)(_:vs=[.ref x])(_:Dn K C H x l)(_:∀t,H t=some (.tup (nV (wordsOf l)))->Q (.ref t) H)
include T ak in
theorem W1 (F:Fun K "words" "Bits.words" Ke f fd):Ar P w K mg base CX0 1 f fd ["self"] (Ss K ac):=by
 exists F.ok Yh
 obtain⟨x,l,rfl,⟨dx,t,hx,ht,hl⟩,q⟩:=h;refine⟨_,(Ad (Am (tfl (pv 0)))),?_⟩;k_is;exact Aab hx ak.cl ak.cO rfl (q t ht)
inductive Zz (K:d6)(C:eg)(vs:List V)(H:Hp)(Q:VK)(E:XK):Prop|mk(a:eg)(l:Za5)(low high:Nat)(_:vs=[.ref a,.int low,.int high])(_:Dn K C H a l)(_:low<=high)(_:high<=l.length)(_:∀H',Ag H H'->Q (.str (Av ((l.drop low).take (high-low)))) H')
variable (aM:Cal P w K mg base "check_stretch" 4 ["low","high","greatest"] yR)
include T ak aM in
theorem Wr (F:Fun K "stretch" "Bits.stretch" Ft f fd)(bB:Cal P w K mg base "signs_of" 1 ["word"] (Yu K)) :
  Ar P w K mg base CX0 5 f fd ["self","low","high"] (Zz K ac):=by
 exists F.ok Di
 obtain⟨a,l,low,high,rfl,⟨dx,t,hx,ht,hl⟩,h1,h2,q1⟩:=h;refine⟨_,(Ab (As (Au aM hr.m (tpa (pv 1) (tpa (pv 2) (tpa (tfl (pv 0)) Aa))))) (Ab (tst 3 Di.nd (Ak Cs (pv 1) (A5 rfl T.cL))) (Ab (tst 4 Di.nd (Ak Cs (Ak B5 (Ak Bd (pv 2) (A5 rfl T.cL)) Ae) (A5 rfl T.cL))) (Ab (tst 5 Di.nd (Cj km o0 oz Of Cy (tpa (Lc rfl Pq (lV (Cf fY (tfl (pv 0)) (B3 (pv 3)) (B3 (pv 4)))) (λ_ _ _ _=>Cb) (λ_ _ _ _=>(Au bB hr.m (tpa (pv 0) Aa)))) Aa))) (Ab (tst 6 Di.nd (Ak Dz (pv 3) (A5 rfl T.cL))) (Ad (Am (Cf Lk (pv 5) (B3 (Ak B5 (pv 1) (pv 6))) (B3 (Ak B5 (pv 2) (pv 6))))))))))),?_⟩
 apply⟨a,ac,dx,_,_,rfl,hx,ak.cl,ak.cM,rfl,?_⟩;apply⟨low,high,_,rfl,by lia,by lia,by lia,?_⟩;apply⟨rfl,?_⟩;apply⟨a,ac,dx,_,_,rfl,hx,ak.cl,ak.cO,rfl,?_⟩;apply⟨t,_,rfl,SqT.of ht,λp2 H2 s2 hp2=>?_⟩;rw[show((low:Int)/32)=((low/32:Nat):Int) by lia,show((high:Int)+32-1)/32=(((high+31)/32:Nat):Int) by lia,Vn] at hp2;have hW:(wordsOf l).length=By l.length:=by unfold TW.wordsOf;rw[d7,fe]
 have e8:((nV (wordsOf l)).drop (low/32)).take ((high+31)/32-low/32)=nV ((fb ((high+31)/32-low/32)).map λj=>val (Az l (low/32+j))):=by
  unfold nV;have:min ((high+31)/32-low/32) (By l.length-low/32)=(high+31)/32-low/32:=by unfold By;lia
  rw[<-qg,<-pe,Yq,this]
 rw[e8] at hp2;refine⟨p2,rfl,⟨_,hp2⟩,?_⟩;generalize hm:(high+31)/32-low/32=m at hp2;refine yM hp2 (λj=>((fb j).map λi=>Ox (val (Az l (low/32+i)))).map λl=>V.str (Av l)) rfl (λj hj=>?_) (λj z H3 R A hz s3 kR kA=>?_) (λD H3 hD s3 hl3=>?_)
 ·rw[d7,d7,fe] at hj
  rw[d7,d7,fe];exact Dk (by lia)
 ·have hj:j<m:=by
   have:=(fc.mp hz).1
   rwa [d7,d7,fe] at this
  have hze:z=.int (val (Az l (low/32+j)):Nat):=by
   unfold nV at hz;rw[d9,d9,gd hj] at hz;exact(ee hz).symm
  subst hze;apply⟨_,rfl,λH4 s4=>?_⟩;refine kA _ _ ?_ s4;rw[je,fj,fj];rfl
 ·rw[d7,d7,fe] at hl3
  have hfl:((fb m).map λi=>Ox (val (Az l (low/32+i)))).flatten.length<=100000:=by
   rw[Vt,d7,fe];lia
  apply kB hl3 hfl ?_;apply Um ?_ ?_
  ·rw[A6]
   exact f9 (Ai hfl)
  rw[Vt,show((low:Int)-(low:Int)/32*32)=((low-32*(low/32):Nat):Int) by lia,show((high:Int)-(low:Int)/32*32)=((high-32*(low/32):Nat):Int) by lia,P8,
   show high-32*(low/32)-(low-32*(low/32))=high-low by lia,vN l (low/32) m low (high-low) (by lia) (by lia) (by lia)]
  exact q1 _ (s2.trans s3)
inductive Ac7 (K:d6)(C:eg)(vs:List V)(H:Hp)(Q:VK)(E:XK):Prop|mk(a:eg)(l:Za5)(n:Nat)(_:vs=[.ref a,.int n])(_:Dn K C H a l)(_:n<l.length)(_:Q (.int ((l.getD n false).toNat:Nat)) H)
theorem Aeq (l:Za5)(i:Nat):ly (((val (Az l (i/32))/2 ^ (i%32):Nat):Int)) 1=((l.getD i false).toNat:Nat):=by
 rw[Agu,Tu,Lu l _ (ua _ (by decide)),show 32*(i/32)+i%32=i by lia]
include T am ak in
theorem W6 (F:Fun K "bit" "Bits.bit" Np f fd) :
  Ar P w K mg base CX0 4 f fd ["self","place"] (Ac7 K ac):=by
 exists F.ok gZ
 obtain⟨a,l,n,rfl,⟨dx,t,hx,ht,hl⟩,hn,q1⟩:=h;refine⟨_,(Ab (As (Au am hr.m (tpa (pv 1) (tpa (Ak B5 (tfl (pv 0)) Ae) Aa)))) (Ad (Am (Ak Nr (Ak mL (tix Bs (tfl (pv 0)) (Ak Cs (pv 1) (A5 rfl T.cL))) (Ak Cm (pv 1) (A5 rfl T.cL))) Ae)))),?_⟩
 apply⟨a,ac,dx,_,_,rfl,hx,ak.cl,ak.cM,rfl,?_⟩;apply⟨n,_,rfl,by lia,by lia,?_⟩;apply⟨a,ac,dx,_,_,rfl,hx,ak.cl,ak.cO,rfl,?_⟩;k_is;rw[show((n:Int)/32)=((n/32:Nat):Int) by lia];refine Cd (SqT.of ht) (Oj (by unfold By;lia)) ?_;apply qW (by lia) ?_;k_is;rw[qR _ (n%32) (by lia),Aeq];exact q1
include T in
theorem X7 (F:Fun K "first_that" "first_that" J9 f fd):Ar P w K mg base CX0 3 f fd ["low","high","holds"] (Tp P w K mg base 2):=by
 exists F.ok Gn
 obtain⟨lo,hi,g,p,rfl,hle,hA,q⟩:=h;refine⟨_,(Ab (Et ii (ttc O7 (pv 0) (pv 1)) (Ab (tst 3 Gn.nd (Ak Cs (Ak Bd (pv 0) (pv 1)) Ae)) (Ad (Bm (Bt (Aea (k:=2) hr.m (i:=2) rfl rfl (pv 3))) (Ad (tst 1 Gn.nd (pv 3))) (Ad (tst 0 Gn.nd (Ak Bd (pv 3) Ae))))))) (Ad (Am (pv 0)))),?_⟩
 apply Gr (λG H'=>Ag H H'/\∃(x y:Int) (v:Option V),G=[some (.int x),some (.int y),some (.ref g),v]/\lo<=x/\x<=y/\y<=hi/\(lo<x->p (x-1)=false)/\(y<hi->p y=true)) (λG _=>match G with | [some (.int x),some (.int y),_,_]=>(y-x).toNat|_=>0) ⟨Ag.refl _,lo,hi,none,rfl,yy _,hle,yy _,λz=>absurd z (GC _),λz=>absurd z (GC _)⟩ ?_;rintro μ G H' ⟨sm,x,y,v,rfl,h1,h2,h3,h4,h5⟩ XF;apply Bo (λhw=>?_) (λhw=>?_)
 ·refine Li ?_
  apply⟨g,_,p,rfl,hA.same sm,?_⟩;k_is;have ht1:x<=(x+y)/2:=by lia
  have ht2:(x+y)/2<y:=by lia
  refine⟨_,rfl,Ag.refl _,⟨vv h1 ht1,Int.lt_of_lt_of_le ht2 h3⟩,λH2 s2=>?_⟩;k_is;have hμ':y-x=(μ:Int):=by
   have:(y-x).toNat=μ:=XF;lia
  cases hp:p ((x+y)/2) with
  |true=>
   apply⟨⟨sm.trans s2,x,(x+y)/2,_,rfl,h1,ht1,vv (BB ht2) h3,h4,λ_=>hp⟩,?_⟩;show((x+y)/2-x).toNat<μ;generalize (x+y)/2=t at *;lia
  |false=>
   apply⟨⟨sm.trans s2,(x+y)/2+1,y,_,rfl,vv h1 (vv ht1 (BB (Int.lt_succ _))),ht2,h3,λ_=>by rw[Int.add_sub_cancel];exact hp,h5⟩,?_⟩;show(y-((x+y)/2+1)).toNat<μ;generalize (x+y)/2=t at *;lia
 ·k_is
  obtain rfl:x=y:=by lia
  exact q x H' h1 h3 h4 h5 sm
inductive Adg(vs:List V)(H:Hp)(Q:VK)(E:XK):Prop|mk(a:eg)(xs:Za4)(_:vs=[.ref a])(_:H a=some (.lst (nV xs)))(_:xs.length<=1000)(_:∀p H',Ag H H'->H p=none->H' p=some (.lst (nV ((fb (xs.length+1)).map λi=>(xs.take i).sum)))->Q (.ref p) H')
include T in
theorem S1 (F:Fun K "running_sums" "running_sums" Hs f fd):Ar P w K mg base CX0 1 f fd ["numbers"] Adg:=by
 exists F.ok G2
 obtain⟨a,xs,rfl,ha,hn,q⟩:=h;refine⟨_,(Ab (tst 1 G2.nd (Bn (tpa Ae Aa))) (Ab (Dc ii rfl (Du (pv 0)) (tgn 2 G2.nd) (Ad (As (Cj gi ig ie Be (pv 1) (tpa (Ak Bd (tix Bl (pv 1) (Fr C9 Ae)) (pv 2)) Aa))))) (Ad (Am (pv 1))))),?_⟩
 apply⟨few (by simp),λp hp=>?_⟩;have t0:=An (o:=.lst [V.int 0]) hp;apply⟨a,rfl,⟨_,SqL.of (t0 _ _ ha)⟩,?_⟩;refine Pg (xs:=nV xs) (λi G H1=>(∃v:Option V,G=[some (.ref a),some (.ref p),v])/\H1 p=some (.lst (nV ((fb (i+1)).map λi=>(xs.take i).sum)))/\Ag H H1) ⟨⟨_,rfl⟩,Af,t0⟩ (λi G H1 _ h=>SqL.of (h.2.2 _ _ ha)) ?_ ?_
 ·rintro i x G H1 hx ⟨⟨v,rfl⟩,hp1,s1⟩
  have hi:=Bq hx;rw[show(nV xs).length=xs.length by unfold nV;rw[d7]] at hi;obtain rfl:x=.int (xs[i]:Nat):=by
   unfold nV at hx;rw[d9,d4 hi] at hx;exact(ee hx).symm
  apply⟨.inl ⟨rfl,_,SqL.of hp1⟩,?_⟩;apply Cg (SqL.of hp1) (v:=.int ((xs.take i).sum:Nat)) ?_ ?_
  ·rw[L4]
   exact kC _ _
  apply Bz hp1 ?_ ?_
  ·unfold nV
   rw[d7,d7,fe];exact Ai (by lia)
  apply⟨⟨_,rfl⟩,?_,λb u e=>?_⟩
  ·rw[Af,L4 _ (i+1),i4,d4 hi,yv]
   show some (HO.lst (_++[V.int (((xs.take i).sum:Nat)+(xs[i]:Nat):Int)]))=some (HO.lst (_++[V.int (((xs.take i).sum+[xs[i]].sum:Nat):Int)]));rw[xj,EZ]
  ·rw[Al (Aj e hp)]
   exact s1 _ _ e
 ·rintro G H1 ⟨⟨v,rfl⟩,hp1,s1⟩
  rw[show(nV xs).length=xs.length by unfold nV;rw[d7]] at hp1;k_is;exact q p H1 s1 hp hp1
def Ce (n:Nat):Nat:=(By n+7)/8
def Ii (l:Za5):Za4:=(fb (Ce l.length+1)).map λb=>cnt l (256*b)
inductive pN (K:d6)(vs:List V)(H:Hp)(Q:VK)(E:XK):Prop|mk(t:eg)(l:Za5)(_:vs=[.ref t])(_:H t=some (.tup (nV (wordsOf l))))(_:l.length<=20000)(_:∀p H',Ag H H'->H p=none->H' p=some (.tup (nV (Ii l)))->Q (.ref p) H')
theorem gY (l:Za5)(b:Nat):((wordsOf l).drop (8*b)).take 8=(fb (min 8 (By l.length-8*b))).map λi=>val (Az l (8*b+i)):=by
 unfold TW.wordsOf;refine l8 λi=>?_;rw[jg]
 by_cases h8:i<8
 ·rw[if_pos h8,i5,d9,d9]
  by_cases hm:8*b+i<By l.length
  ·rw[gd hm,gd (by lia)]
   rfl
  ·rw[ij (by rw[fe];lia),ij (by rw[fe];lia)]
   rfl
 ·rw[if_neg h8,ij (by rw[d7,fe];lia)]
def blk (l:Za5)(i:Nat):Za4:=(fb (min 8 (By l.length-8*i))).map λj=>val (Az l (8*i+j))
def mO (l:Za5)(i:Nat):Nat:=((fb (min 8 (By l.length-8*i))).map λm=>pc (val (Az l (8*i+m)))).sum
theorem jR (l:Za5):∀i,(((fb i).map (mO l)).sum)=cnt l (256*i)
 |0=>by
  show 0=cnt l 0;rfl
 |i+1=>by
  rw[je,fj,yv,jR l i];show cnt l (256*i)+[mO l i].sum=_;rw[xj];have:=tQ l i (min 8 (By l.length-8*i)) rfl;unfold mO;lia
def sG (K:d6)(l:Za5)(i:Nat)(ys:List V)(H:Hp):Prop:=ys.length=i/\∀j y,ys[j]?=some y->∃a,y=.ref a/\SqT K H a (nV (blk l j))
theorem uZ {K:d6}{l:Za5}{i:Nat}{ys:List V}{D:eg}{o:HO}(hD:H D=some (.lst xs))(h:sG K l i ys H):sG K l i ys (upd H D o):=⟨h.1,λj y e=>by
 obtain⟨a,rfl,ht⟩:=h.2 j y e;refine⟨a,rfl,?_⟩;rcases ht with(ht|⟨ob,ht⟩)|ht
 ·exact .inl (.inl (by rw[Al (Il ht hD (by intro z;cases z))];exact ht))
 ·exact .inl (.inr ⟨ob,by rw[Al (Il ht hD (by intro z;cases z))];exact ht⟩)
 ·exact .inr ht⟩
theorem sG.same {K:d6}{l:Za5}{i:Nat}{ys:List V}(h:sG K l i ys H)(s:Ag H H'):sG K l i ys H':=⟨h.1,λj y e=>by
 obtain⟨a,rfl,ht⟩:=h.2 j y e;exact⟨a,rfl,s.seqT ht⟩⟩
variable (aA:Cal P w K mg base "ones_in" 1 ["word"] vZ)
include T aA in
theorem O8 (F:Fun K "table_of_words" "table_of_words" C3 f fd)(bC:Cal P w K mg base "running_sums" 1 ["numbers"] Adg):Ar P w K mg base CX0 2 f fd ["words"] (pN K):=by
 exists F.ok Ig
 obtain⟨t,l,rfl,ht,hl,q⟩:=h;have hW:(wordsOf l).length=By l.length:=by unfold TW.wordsOf;rw[d7,fe]
 have hM:By l.length<=626:=by unfold By;lia
 have hB:Ce l.length<=80:=by unfold Ce;lia
 refine⟨_,(Ab (F7 (i:=1) rfl M5 Ig.nd rfl rfl (P7 rfl T.cN (tpa Ae (tpa (Ao At (by rfl) T.cK Ch (tpa (pv 0) Aa)) (tpa (A5 rfl T.cP) Aa)))) (λ_ _ _ _=>Cb) (λ_ _ _ _=>(Cf (zQ K) (pv 1) (B3 (pv 0)) (B3 (Ak Bd (pv 0) (A5 rfl T.cP)))))) (Ad (Am (Dj Eu (by rfl) T.dh Pk (tpa (Au bC hr.m (tpa (Lc rfl M2 (Du (pv 1)) (λ_ _ _ _=>Cb) (λ_ _ _ _=>(Ao (tV K rfl) (by rfl) T.n_sum Agf (tpa (Abx rfl Nf (Aa9 K (pv 0)) (λ_ _ _ _=>Cb) (λ_ _ _ _=>(Au aA hr.m (tpa (pv 0) Aa)))) Aa)))) Aa)) Aa))))),?_⟩
 apply⟨t,_,rfl,.inr (SqT.of ht),?_⟩;k_is;rw[d7,hW];refine⟨0,By l.length,8,rfl,by lia,?_⟩;have hn:Cp 0 (By l.length:Int) 8=Ce l.length:=Vp (By l.length) 8 (by decide);rw[hn];refine sF (λi ys H1=>sG K l i ys H1) (λH1 _=>⟨rfl,λj y e=>by cases e⟩) (λi ys H1 D xs o hD h=>uZ hD h) (λi ys H1 hi h=>by rw[h.1];exact Dk (by lia)) (λi ys H1 A R hi s1 hP kA=>?_) (λD ys H1 hD s1 hP hDl=>?_)
 ·apply⟨t,_,rfl,SqT.of (s1 _ _ ht),λp2 H2 s2 hp2=>?_⟩;rw[show(0+(i:Int)*8)=((8*i:Nat):Int) by lia,show(((8*i:Nat):Int)+8)=((8*i+8:Nat):Int) by lia,Vn,show 8*i+8-8*i=8 by lia] at hp2;have e8:((nV (wordsOf l)).drop (8*i)).take 8=nV (blk l i):=by
   unfold nV blk;rw[<-qg,<-pe,gY]
  rw[e8] at hp2;refine kA _ _ s2 ⟨by rw[eh,hP.1];rfl,λj y e=>?_⟩
  by_cases hj:j<ys.length
  ·rw[f7 hj] at e
   exact(hP.same s2).2 j y e
  ·rw[ft (by lia)] at e
   have e0:j-ys.length=0:=by
    have:=Bq e;simp only[gn,jt] at this;lia
   rw[e0] at e;obtain rfl:=ee e;have:j=i:=by have:=hP.1;lia
   subst this;exact⟨p2,rfl,hp2⟩
 ·apply⟨D,rfl,⟨_,SqL.of hDl⟩,?_⟩;refine O9 (SqL.of hDl) (λi=>nV ((fb i).map (mO l))) rfl (λi hi=>?_) (λi x H2 R A hx s2 kR kA=>?_) (λD2 H2 hD2 s2 hl2=>?_)
  ·unfold nV
   rw[d7,d7,fe];rw[hP.1] at hi;exact Dk (by lia)
  ·obtain⟨b,rfl,hb⟩:=(hP.same s2).2 i x hx
   apply⟨b,rfl,⟨_,hb⟩,?_⟩;refine yM hb (λj=>nV ((fb j).map λm=>pc (val (Az l (8*i+m))))) rfl (λj hj=>?_) (λj x H3 R3 A3 hx3 s3 kR3 kA3=>?_) (λD3 H3 hD3 s3 hl3=>?_)
   ·unfold blk nV at hj
    rw[d7,d7,fe] at hj;rw[d7,d7,fe];exact Dk (by lia)
   ·have hj:j<min 8 (By l.length-8*i):=by
     have:=(fc.mp hx3).1;unfold blk nV at this
     rwa [d7,d7,fe] at this
    have hxe:x=.int (val (Az l (8*i+j)):Nat):=by
     unfold nV blk at hx3;rw[d9,d9,gd hj] at hx3;exact(ee hx3).symm
    subst hxe;apply⟨_,rfl,?_⟩;refine kA3 _ _ ?_ (Ag.refl _);exact L4 _ _
   ·unfold blk at hl3
    rw[d7,d7,fe] at hl3;apply⟨D3,_,rfl,SqL.of (by rw[hl3,gI]),?_⟩;rw[yL];refine kA _ _ ?_ s3;exact L4 _ _
  ·rw[hP.1] at hl2
   apply⟨D2,(fb (Ce l.length)).map (mO l),rfl,hl2,by rw[d7,fe];lia,λp4 H4 s4 hp4 hl4=>?_⟩;apply⟨p4,_,rfl,.inl ⟨SqL.of hl4,λp5 hp5=>?_⟩⟩;have et:(fb (((fb (Ce l.length)).map (mO l)).length+1)).map (λi=>(((fb (Ce l.length)).map (mO l)).take i).sum)=Ii l:=by
    rw[d7,fe];unfold Ii;refine jc λi hi=>?_;have hi:=jm.mp hi;rw[<-pe,List.take_range,io (by lia),jR]
   rw[et] at *;exact q p5 _ (((s1.trans s2).trans s4).trans (An hp5)) (((s1.trans s2).trans s4).free hp5) Af
def wP (l:Za5)(t u:eg):List (Str×V):=[("length",.int (l.length:Nat)),("kept_words",.ref t),("kept_table",.ref u)]
def A0 (K:d6)(C:eg)(H:Hp)(a:eg)(l:Za5):Prop:=∃dx t u,H a=some (.ins C dx (wP l t u))/\H t=some (.tup (nV (wordsOf l)))/\H u=some (.tup (nV (Ii l)))/\l.length<=20000
theorem A0.same {K:d6}{b:eg}{l:Za5}(s:Ag H H')(h:A0 K C H b l):A0 K C H' b l:=by
 obtain⟨dx,t,u,h1,h2,h3,h4⟩:=h;exact⟨dx,t,u,s _ _ h1,s _ _ h2,s _ _ h3,h4⟩
inductive Ou (K:d6)(CB C:eg)(vs:List V)(H:Hp)(Q:VK)(E:XK):Prop|mk(x dx b:eg)(l:Za5)(_:vs=[.ref x,.ref b])(_:H x=some (.ins C dx []))(_:Dn K CB H b l)(_:∀H',SameBut x H H'->A0 K C H' x l->Q .non H')
variable (ai:Qd K ab)
include T ai in
theorem Wz (F:Fun K "__init__" "Counts.__init__" Iq f fd)(bE:Mth P w K mg base ac "size" 1 ["self"] (Uc K ac))(bF:Mth P w K mg base ac "words" 1 ["self"] (Ss K ac))(bG:Cal P w K mg base "table_of_words" 2 ["words"] (pN K)) :
  Ar P w K mg base CX0 3 f fd ["self","bits"] (Ou K ac ab):=by
 exists F.ok Vl
 obtain⟨x,dx,b,l,rfl,hx,hb,q⟩:=h;have hb0:=hb;obtain⟨dxb,t,hbx,ht,hl⟩:=hb0;have hbne:b≠x:=Il hbx hx (by intro z;cases z);refine⟨_,(Ab (tsf (pv 0) (Kl bE hr.m (pv 1))) (Ab (tsf (pv 0) (Kl bF hr.m (pv 1))) (Ad (tsf (pv 0) (Au bG hr.m (tpa (tfl (pv 0)) Aa)))))),?_⟩
 apply⟨b,dxb,_,rfl,hbx,rfl,?_⟩;apply⟨b,l,rfl,hb,?_⟩;apply Dr hx ai.cl ai.cM (by decide) ?_;apply⟨b,dxb,yE l t,rfl,by rw[Al hbne];exact hbx,rfl,?_⟩;apply⟨b,l,rfl,Hi A8 (Fl hx) hbne hb,λt2 ht2=>?_⟩;apply Dr Af ai.cl ai.cO (show 1<1000 by decide) ?_;rw[Tm];have ht3:(upd H x (.ins ab dx (F9 "kept_words" (.ref t2) (F9 "length" (.int (l.length:Nat)) [])))) t2=some (.tup (nV (wordsOf l))):=by
  have hne:t2≠x:=Il ht2 Af (by intro z;cases z);rw[Al hne] at ht2 ⊢;exact ht2
 apply⟨x,ab,dx,_,.ref t2,rfl,Af,ai.cl,ai.cO,rfl,?_⟩;apply⟨t2,l,rfl,ht3,hl,λu H' sm hf hu=>?_⟩;apply Dr (sm _ _ Af) ai.cl ai.cQ (show 2<1000 by decide) ?_;k_is;have hix:=sm _ _ (Af (H:=H) (a:=x));have n1:t2≠x:=Il (sm _ _ ht3) hix (by intro z;cases z);have n2:u≠x:=Il hu hix (by intro z;cases z);exact q _ ((A8.trans sm.but).trans A8) ⟨dx,t2,u,Af,by rw[Al n1];exact sm _ _ ht3,by rw[Al n2];exact hu,hl⟩
theorem iV {l:Za5}{b:Nat}(h:b<=Ce l.length):atI (nV (Ii l)) (b:Int)=some (.int (cnt l (256*b):Nat)):=by
 refine A7 ?_;unfold nV Ii;rw[d9,d9,gd (by lia)];rfl
inductive Sl (K:d6)(C:eg)(vs:List V)(H:Hp)(Q:VK)(E:XK):Prop|mk(a:eg)(l:Za5)(n:Nat)(_:vs=[.ref a,.int n])(_:A0 K C H a l)(_:n<=l.length)(_:∀H',Ag H H'->Q (.int (cnt l n:Nat)) H')
include T aA ai in
theorem Qr (F:Fun K "ones_ahead" "Counts.ones_ahead" Ei f fd):Ar P w K mg base CX0 2 f fd ["self","place"] (Sl K ab):=by
 exists F.ok A9
 obtain⟨a,l,n,rfl,⟨dx,t,u,hx,ht,hu,hl⟩,hn,q⟩:=h;refine⟨_,(Ab (tst 2 A9.nd (Ak Cs (pv 1) (A5 rfl T.cL))) (Ab (tst 3 A9.nd (Ak Cs (pv 2) (A5 rfl T.cP))) (Ab (tst 4 A9.nd (tix Bs (tfl (pv 0)) (pv 3))) (Ab (Dc ii rfl (lV (Cf fY (tfl (pv 0)) (B3 (Ak Dz (pv 3) (A5 rfl T.cP))) (B3 (pv 2)))) (tgn 5 A9.nd) (Ad (tau 4 A9.nd (Au aA hr.m (tpa (pv 5) Aa)) N0))) (Ab (tst 6 A9.nd (Ak Cm (pv 1) (A5 rfl T.cL))) (Ab (Bm (ttc Fp (pv 6) Ae) (Ad (tau 4 A9.nd (Au aA hr.m (tpa (Ak Nr (tix Bs (tfl (pv 0)) (pv 2)) (Ak B5 (Ak Ad8 Ae (pv 6)) Ae)) Aa)) N0))
  Aw) (Ad (Am (pv 4))))))))),?_⟩
 apply⟨a,ab,dx,_,_,rfl,hx,ai.cl,ai.cQ,rfl,?_⟩;k_is;rw[show((n:Int)/32/8)=((n/256:Nat):Int) by lia,show((n:Int)/32)=((n/32:Nat):Int) by lia];refine Cd (SqT.of hu) (iV (by unfold Ce By;lia)) ?_;apply⟨a,ab,dx,_,_,rfl,hx,ai.cl,ai.cO,rfl,?_⟩;apply⟨t,_,rfl,SqT.of ht,λp2 H2 s2 hp2=>?_⟩;rw[show((n/256:Nat):Int)*8=((8*(n/256):Nat):Int) by lia,Vn] at hp2;have e8:((nV (wordsOf l)).drop (8*(n/256))).take (n/32-8*(n/256))=nV ((fb (n/32-8*(n/256))).map λj=>val (Az l (8*(n/256)+j))):=by
  unfold nV;have:min (n/32-8*(n/256)) (By l.length-8*(n/256))=n/32-8*(n/256):=io (Nat.sub_le_sub_right (by unfold By;lia) _);rw[<-qg,<-pe,Yq,this]
 rw[e8] at hp2;refine⟨p2,rfl,⟨_,hp2⟩,?_⟩;generalize hm:n/32-8*(n/256)=m at hp2;refine Abz (xs:=nV ((fb m).map λj=>val (Az l (8*(n/256)+j)))) (λi G H'=>H'=H2/\∃v5 v6:Option V,G=[some (.ref a),some (.int n),some (.int ((n/32:Nat):Int)),some (.int ((n/256:Nat):Int)),some (.int (cnt l (32*(8*(n/256)+i)):Nat)),v5,v6]) ?_ (λi G H' _ h=>by rw[h.1];exact hp2) ?_ ?_
 ·refine⟨rfl,none,none,?_⟩
  rw[show 32*(8*(n/256)+0)=256*(n/256) by lia];rfl
 ·rintro i x G H' hx' ⟨rfl,v5,v6,rfl⟩
  have hi:i<m:=by
   have:=(fc.mp hx').1
   rwa [d7,d7,fe] at this
  have hze:x=.int (val (Az l (8*(n/256)+i)):Nat):=by
   unfold nV at hx';rw[d9,d9,gd hi] at hx';exact(ee hx').symm
  subst hze;apply⟨_,rfl,?_⟩;apply⟨rfl,some (.int (val (Az l (8*(n/256)+i)):Nat)),v6,?_⟩;have:=iA l (8*(n/256)+i);rw[show 8*(n/256)+(i+1)=8*(n/256)+i+1 by lia,this];rfl
 ·rintro G H' ⟨rfl,v5,v6,rfl⟩
  rw[show(nV ((fb m).map λj=>val (Az l (8*(n/256)+j)))).length=m by unfold nV;rw[d7,d7,fe],show 8*(n/256)+m=n/32 by lia];k_is;have ec:cnt l n=cnt l (32*(n/32))+((l.drop (32*(n/32))).take (n%32)).count true:=by
   rw[<-rP];congr 1;lia
  refine Bo (λhr'=>?_) (λhr'=>?_)
  ·have hr0:0<n%32:=by lia
   apply⟨a,ab,dx,_,_,rfl,s2 _ _ hx,ai.cl,ai.cO,rfl,?_⟩;apply Cd (SqT.of (s2 _ _ ht)) (Oj (by unfold By;lia)) ?_;apply Ah8 ⟨by lia,by lia,by decide⟩ ?_;k_is;rw[yZ _ (n%32) (by lia)];refine⟨_,rfl,?_⟩;k_is;rw[uY,Nw];have e2:(Az l (n/32)).take (n%32)=(l.drop (32*(n/32))).take (n%32):=by
    unfold Az;rw[oq,io (by lia)]
   rw[e2];have:=q _ s2;rw[ec] at this;exact this
  ·have hr0:n%32=0:=by lia
   k_is;have:=q _ s2;rw[ec,hr0,we] at this;exact this
inductive rV (K:d6)(C:eg)(vs:List V)(H:Hp)(Q:VK)(E:XK):Prop|mk(a:eg)(l:Za5)(b:Bool)(n:Nat)(_:vs=[.ref a,.int (b.toNat:Nat),.int n])(_:A0 K C H a l)(_:n<=l.length)(_:∀H',Ag H H'->Q (.int ((occ b l n).length:Nat)) H')
variable (aN:Cal P w K mg base "check_bit" 3 ["bit"] uR)
include T am ai aN in
theorem Ws (F:Fun K "ahead" "Counts.ahead" Hk f fd)(bH:Mth P w K mg base ab "ones_ahead" 2 ["self","place"] (Sl K ab)):Ar P w K mg base CX0 4 f fd ["self","bit","place"] (rV K ab):=by
 exists F.ok Kt
 obtain⟨a,l,b,n,rfl,hC,hn,q1⟩:=h;obtain⟨dx,t,u,hx,ht,hu,hl⟩:=id hC;refine⟨_,(Ab (As (Au aN hr.m (tpa (pv 1) Aa))) (Ab (As (Au am hr.m (tpa (pv 2) (tpa (tfl (pv 0)) Aa)))) (Ab (tst 3 Kt.nd (Aq bH hr.m (pv 0) (tpa (pv 2) Aa))) (Ad (Am (Ca (ttc Dt (pv 1) Ae) (pv 3) (Ak B5 (pv 2) (pv 3)))))))),?_⟩
 apply⟨b,rfl,?_⟩;apply⟨a,ab,dx,_,_,rfl,hx,ai.cl,ai.cM,rfl,?_⟩;apply⟨n,_,rfl,by lia,by lia,?_⟩;apply⟨a,dx,_,rfl,hx,rfl,?_⟩;apply⟨a,l,n,rfl,hC,hn,λH' s'=>?_⟩;k_is;have ho:=Ms l n
 cases b with
 |true=>
  refine Bo (λ_=>?_) (λz=>absurd rfl z);k_is;have:=q1 H' s';rw[ho.1] at this;exact this
 |false=>
  refine Bo (λz=>absurd z (by decide)) (λ_=>?_);k_is;have:=q1 H' s';rw[show((n:Int)-(cnt l n:Nat))=((occ false l n).length:Nat) by lia];exact this
inductive Ol (K:d6)(C:eg)(vs:List V)(H:Hp)(Q:VK)(E:XK):Prop|mk(a:eg)(l:Za5)(b:Bool)(k:Nat)(_:vs=[.ref a,.int (b.toNat:Nat),.int k])(_:A0 K C H a l)(_:k<=Ce l.length)(_:Q (.int ((occ b l (min (256*k) l.length)).length:Nat)) H)
include T ai in
theorem Qi (F:Fun K "ahead_of_block" "Counts.ahead_of_block" C1 f fd):Ar P w K mg base CX0 1 f fd ["self","bit","block"] (Ol K ab):=by
 exists F.ok Ew
 obtain⟨a,l,b,k,rfl,⟨dx,t,u,hx,ht,hu,hl⟩,hk,q⟩:=h;have ec:cnt l (256*k)=cnt l (min (256*k) l.length):=by
  by_cases h:256*k<=l.length
  ·rw[io h]
  ·rw[rm (by lia),Ts l (by lia),Ts l (d8 _)]
 refine⟨_,(Ab (tst 3 Ew.nd (tix Bs (tfl (pv 0)) (pv 2))) (Ad (Am (Ca (ttc Dt (pv 1) Ae) (pv 3) (Ak B5 (Ao (R0 rfl) (by rfl) T.cW Xe (tpa (Ak Dz (pv 2) (A5 rfl T.c8)) (tpa (tfl (pv 0)) Aa))) (pv 3)))))),?_⟩
 apply⟨a,ab,dx,_,_,rfl,hx,ai.cl,ai.cQ,rfl,?_⟩;apply Cd (SqT.of hu) (iV hk) ?_;k_is;have ho:=Ms l (min (256*k) l.length)
 cases b with
 |true=>
  refine Bo (λ_=>?_) (λz=>absurd rfl z);k_is;rw[ho.1] at q;rw[ec];exact q
 |false=>
  refine Bo (λz=>absurd z (by decide)) (λ_=>?_);apply⟨a,ab,dx,_,_,rfl,hx,ai.cl,ai.cM,rfl,?_⟩;apply⟨_,_,rfl,?_⟩;k_is;have em:(if((l.length:Nat):Int)<(k:Int)*256 then((l.length:Nat):Int) else(k:Int)*256)=((min (256*k) l.length:Nat):Int):=by
   split<;>lia
  rw[em,ec,show((min (256*k) l.length:Nat):Int)-(cnt l (min (256*k) l.length):Nat)=((occ false l (min (256*k) l.length)).length:Nat) by lia];exact q
inductive W9 (K:d6)(C:eg)(vs:List V)(H:Hp)(Q:VK)(E:XK):Prop|mk(a:eg)(l:Za5)(b:Bool)(_:vs=[.ref a,.int (b.toNat:Nat)])(_:A0 K C H a l)(_:Q (.int ((occ b l l.length).length:Nat)) H)
theorem Yt (l:Za5):(nV (Ii l)).length=Ce l.length+1:=by
 unfold nV Ii;rw[d7,d7,fe]
theorem lX (l:Za5):min (256*Ce l.length) l.length=l.length:=by unfold Ce By;lia
variable (aE:Mth P w K mg base ab "ahead_of_block" 1 ["self","bit","block"] (Ol K ab))
include T ai aE in
theorem Qv (F:Fun K "many_like" "Counts.many_like" Fd f fd):Ar P w K mg base CX0 2 f fd ["self","bit"] (W9 K ab):=by
 exists F.ok Nc
 obtain⟨a,l,b,rfl,hC,q⟩:=h;obtain⟨dx,t,u,hx,ht,hu,hl⟩:=id hC;refine⟨_,(Ad (Am (Aq aE hr.m (pv 0) (tpa (pv 1) (tpa (Ak B5 (Ao At (by rfl) T.cK Ch (tpa (tfl (pv 0)) Aa)) Ae) Aa))))),?_⟩;apply⟨a,dx,_,rfl,hx,rfl,?_⟩;apply⟨a,ab,dx,_,_,rfl,hx,ai.cl,ai.cQ,rfl,?_⟩;apply⟨u,_,rfl,.inr (SqT.of hu),?_⟩;rw[Yt];apply⟨a,l,b,Ce l.length,?_,hC,d8 _,?_⟩
 ·rw[show(((Ce l.length+1:Nat):Int)-1)=((Ce l.length:Nat):Int) by lia]
  rfl
 ·rw[lX]
  exact q
theorem A0.sameT {K:d6}{b:eg}{l:Za5}(s:Go H H')(h:A0 K C H b l):A0 K C H' b l:=by
 obtain⟨dx,t,u,h1,h2,h3,h4⟩:=h;exact⟨dx,t,u,s.keep _ _ (by intro ps e;cases e) h1,s.tup h2,s.tup h3,h4⟩
theorem A0.sm {K:d6}{b:eg}{ts:List Tb}{l:Za5}(h:A0 K C H b l)(s:SmT ts H H'):A0 K C H' b l:=h.sameT s.sm
inductive L8 (K:d6)(C:eg)(ts:List Tb)(vs:List V)(H:Hp)(Q:VK)(E:XK):Prop|mk(a:eg)(l:Za5)(b:Bool)(n:Nat)(_:vs=[.ref a,.int (b.toNat:Nat),.int n])(_:A0 K C H a l)(_:n<(occ b l l.length).length)(_:Tbs ts H)(_:∀(k:Nat) (H':Hp),k<Ce l.length->(occ b l (256*k)).length<=n->SmT ts H H'->Q (.int k) H')
variable (hK:K.In base) (hB:base.BuiltinsAt mg Pt) (aO:Cal P w K mg base "first_that" 3 ["low","high","holds"] (Tp P w K mg base 2))
include T ai aE hK hB aO in
theorem Qq {f c:eg}(F:Xw K "block_with" "Counts.block_with" Bi f fd c Pt)(hts:(⟨Pt,Gc,"Counts.block_with.<locals>.<lambda>"⟩:Tb)∈ts):Ar P w K mg base CX0 4 f fd ["self","bit","nth"] (L8 K ab ts):=by
 refine F.ok L7 (λvs H Q E h=>?_) (λA outer s H vs Q E hr h=>?_)
 ·obtain⟨a,l,b,n,rfl,_⟩:=h
  rfl
 ·obtain⟨a,l,b,n,rfl,hC,hn,hT,q⟩:=h
  obtain⟨dx,t,u,hx,ht,hu,hl⟩:=id hC;have hpos:0<Ce l.length:=by
   have:0<l.length:=by
    rcases qp l.length with z|z
    ·rw[z] at hn
     exact absurd hn (zd _)
    ·exact z
   unfold Ce By;lia
  refine⟨_,(Ad (Am (xR (qual:="Counts.block_with.<locals>.<lambda>") (k:=1) aO hr.m Ae (Ak B5 (Ao At (by rfl) T.cK Ch (tpa (tfl (pv 0)) Aa)) Ae) (F.code hK) hB rfl (by kernel_rfl) Jf (λ_ _ _ _ _ _ _ hr=>(tpc Fp (Aq aE hr.m (pv 3) (tpa (pv 1) (tpa (Ak Bd (pv 0) Ae) Aa))) (pv 2)))))),?_⟩;apply⟨a,ab,dx,_,_,rfl,hx,ai.cl,ai.cQ,rfl,?_⟩;apply⟨u,_,rfl,.inr (SqT.of hu),?_⟩;rw[Yt];k_is;have hk:=hT.1 _ hts;refine⟨0,((Ce l.length-1:Nat):Int),λi=>decide (n<(occ b l (min (256*(i.toNat+1)) l.length)).length),rfl,?_,by lia,hk,λi H3 hi1 hi2 s3=>?_,λm H' hm1 hm2 hm3 hm4 s' t'=>?_⟩
  ·rw[show(((Ce l.length+1:Nat):Int)-2)=((Ce l.length-1:Nat):Int) by lia]
  ·obtain⟨pt,hpt⟩:=Tb.tbl hk
   have kp:∀{b:eg} {u:HO},(∀ps,u≠.tbl ps)->H b=some u->H3 b=some u:=λ{b u} nt e=>s3 b u (λz=>by rw[z,hpt] at e;cases e;exact nt pt rfl) e;have hx3:=kp (by intro ps e;cases e) hx;have hC3:A0 K ab H3 a l:=⟨dx,t,u,hx3,kp (by intro ps e;cases e) ht,kp (by intro ps e;cases e) hu,hl⟩;apply⟨a,dx,_,rfl,hx3,rfl,?_⟩;k_is;obtain⟨k,rfl⟩:=lw hi1;refine⟨a,l,b,k+1,rfl,hC3,by lia,?_⟩;apply⟨?_,Ag.refl _⟩;rw[gw];exact congrArg V.bl (decide_eq_decide.mpr (by lia))
  ·obtain⟨k,rfl⟩:=lw hm1
   have hk1:k<Ce l.length:=by lia
   have h256:256*k<=l.length:=by unfold Ce By at hk1;lia
   refine q k H' hk1 ?_ (vW hT hts s' t');rcases qp k with rfl|hk0
   ·exact gp _
   ·have:=hm3 (by lia)
    dsimp only at this;rw[show(((k:Int)-1).toNat+1)=k by lia,io h256] at this;have:=of_decide_eq_false this;lia
inductive Se (K:d6)(C:eg)(vs:List V)(H:Hp)(Q:VK)(E:XK):Prop|mk(a:eg)(l:Za5)(b:Bool)(j k t:Nat)(_:vs=[.ref a,.int (b.toNat:Nat),.int j,.int k])(_:A0 K C H a l)(_:(occ b l (32*By l.length))[(occ b l (32*j)).length+k]?=some t)(_:∀H',Ag H H'->Q (.int t) H')
theorem O6 {b:Bool}{l:Za5}{W j k t:Nat}(h:(occ b l (32*W))[(occ b l (32*j)).length+k]?=some t):j<W:=by
 rcases ya j W with z|z
 ·exact z
 ·exfalso
  have h1:=(fc.mp h).1;have h2:=Adr (b:=b) (l:=l) (show 32*W<=32*j by lia);lia
theorem oM {b:Bool}{l:Za5}{W j k t p:Nat}(h:(occ b l (32*W))[(occ b l (32*j)).length+k]?=some t)(hp:(Nd b l j)[k]?=some p):t=32*j+p:=by
 have hj:=O6 h;have hk:=(fc.mp hp).1;have hlen:(occ b l (32*(j+1))).length=(occ b l (32*j)).length+(Nd b l j).length:=by rw[U6,eh,d7]
 rw[eF (show 32*(j+1)<=32*W by lia) (by lia),U6,ft (jh _ _),iy,d9,hp] at h;exact(ee h).symm
theorem nS {b:Bool}{l:Za5}{W j k t:Nat}(h:(occ b l (32*W))[(occ b l (32*j)).length+k]?=some t)(hp:(Nd b l j)[k]?=none):(Nd b l j).length<=k/\(occ b l (32*W))[(occ b l (32*(j+1))).length+(k-(Nd b l j).length)]?=some t:=by
 have hk:=List.getElem?_eq_none_iff.mp hp;refine⟨hk,?_⟩;rw[U6,eh,d7,show(occ b l (32*j)).length+(Nd b l j).length+(k-(Nd b l j).length)=(occ b l (32*j)).length+k by lia];exact h
include T aA ai in
theorem Qs (F:Fun K "place_from" "Counts.place_from" Ej f fd)(bp:Cal P w K mg base "nth_one" 2 ["word","nth"] Adm):Ar P w K mg base CX0 3 f fd ["self","bit","number","nth"] (Se K ab):=by
 exists F.ok B0
 obtain⟨a,l,b,j,k,t,rfl,⟨dx,tw,u,hx,ht,hu,hl⟩,hp,q⟩:=h;refine⟨_,(Ab (tst 4 B0.nd (Ca (ttc Dt (pv 1) Ae) Ae (A5 rfl T.de))) (Ab (tst 5 B0.nd (Au bp hr.m (tpa (Ak lO (tix Bs (tfl (pv 0)) (pv 2)) (pv 4)) (tpa (pv 3) Aa)))) (Ab (Et ii (Rc (eM (pv 5))) (Ab (tau 3 B0.nd (Au aA hr.m (tpa (Ak lO (tix Bs (tfl (pv 0)) (pv 2)) (pv 4)) Aa)) wC) (Ab (tau 2 B0.nd Ae N0) (Ad (tst 5 B0.nd (Au bp hr.m (tpa (Ak lO (tix Bs (tfl (pv 0)) (pv 2)) (pv 4)) (tpa (pv 3) Aa)))))))) (Ad (Am (Ak Bd (Ak Dz (pv 2) (A5 rfl T.cL)) (pv 5))))))),?_⟩
 have hfl:∀{G:St} {H1:Hp} {Q':VK},Q' (.int (Pn b:Nat)) H1->(if decide (V.int (b.toNat:Nat)=V.int 1)=true then tC (.int 0) G H1 Q' else tC (.int 4294967295) G H1 Q'):=λ{G H1 Q'} h=>by
  cases b with
  |true=>exact Bo (λ_=>h) (λz=>absurd rfl z)
  |false=>exact Bo (λz=>absurd z (by decide)) (λ_=>h)
 have hj0:=O6 hp;apply hfl ?_;apply⟨a,ab,dx,_,_,rfl,hx,ai.cl,ai.cO,rfl,?_⟩;apply Cd (SqT.of ht) (Oj hj0) ?_;k_is;rw[Vo];refine⟨_,k,rfl,λH1 s1=>?_⟩;rw[gN];apply Gr (λG H'=>Ag H H'/\∃j k:Nat,G=[some (.ref a),some (.int (b.toNat:Nat)),some (.int j),some (.int k),some (.int (Pn b:Nat)),some (Agn ((Nd b l j)[k]?))]/\(occ b l (32*By l.length))[(occ b l (32*j)).length+k]?=some t) (λG _=>match G with | [_,_,some (.int j),_,_,_]=>By l.length-j.toNat|_=>0) ⟨s1,j,k,rfl,hp⟩ ?_;rintro μ G H2 ⟨s2,j,k,rfl,hp⟩ XF;have hj:=O6 hp;have XF:By l.length-j=μ:=XF;k_is
 cases hw:(Nd b l j)[k]? with
 |some p=>
  have:=oM hp hw;subst this;refine Bo (λz=>absurd z (by intro y;cases y)) (λ_=>?_);k_is;have:=q H2 s2;show rI0 _ _ (V.int ((p:Nat):Int)) H2 Q;refine Ac6 ?_;rw[show((j:Int)*32+((p:Nat):Int))=((32*j+p:Nat):Int) by lia];exact this
 |none=>
  obtain⟨hk,hp'⟩:=nS hp hw;refine Bo (λ_=>?_) (λz=>absurd rfl z);refine Li ?_;apply⟨a,ab,dx,_,_,rfl,s2 _ _ hx,ai.cl,ai.cO,rfl,?_⟩;apply Cd (SqT.of (s2 _ _ ht)) (Oj hj) ?_;k_is;rw[Vo];refine⟨_,rfl,?_⟩;rw[Aay];apply⟨a,ab,dx,_,_,rfl,s2 _ _ hx,ai.cl,ai.cO,rfl,?_⟩;k_is;rw[show((j:Int)+1)=((j+1:Nat):Int) by lia,show((k:Int)-((Nd b l j).length:Nat))=((k-(Nd b l j).length:Nat):Int) by lia];refine Cd (SqT.of (s2 _ _ ht)) (Oj (O6 hp')) ?_;k_is;rw[Vo];refine⟨_,k-(Nd b l j).length,rfl,λH3 s3=>?_⟩;rw[gN];apply⟨⟨s2.trans s3,j+1,k-(Nd b l j).length,rfl,hp'⟩,?_⟩;show By l.length-(j+1)<μ;lia
inductive Zr (K:d6)(C:eg)(ts:List Tb)(vs:List V)(H:Hp)(Q:VK)(E:XK):Prop|mk(a:eg)(l:Za5)(b:Bool)(n tt:Nat)(_:vs=[.ref a,.int (b.toNat:Nat),.int n])(_:A0 K C H a l)(_:Tbs ts H)(_:(occ b l l.length)[n]?=some tt)(_:∀H',SmT ts H H'->Q (.int tt) H')
include T am ai aN aE in
theorem Q9 (F:Fun K "place_of" "Counts.place_of" Fs f fd)(bI:Mth P w K mg base ab "many_like" 2 ["self","bit"] (W9 K ab))(bJ:Mth P w K mg base ab "block_with" 4 ["self","bit","nth"] (L8 K ab ts))(bK:Mth P w K mg base ab "place_from" 3 ["self","bit","number","nth"] (Se K ab)):Ar P w K mg base CX0 5 f fd ["self","bit","nth"] (Zr K ab ts):=by
 exists F.ok Hn
 obtain⟨a,l,b,n,tt,rfl,hC,hT,htt,q1⟩:=h;obtain⟨dx,t,u,hx,ht,hu,hl⟩:=id hC;refine⟨_,(Ab (As (Au aN hr.m (tpa (pv 1) Aa))) (Ab (As (Au am hr.m (tpa (pv 2) (tpa (Ak B5 (Aq bI hr.m (pv 0) (tpa (pv 1) Aa)) Ae) Aa)))) (Ab (tst 3 Hn.nd (Aq bJ hr.m (pv 0) (tpa (pv 1) (tpa (pv 2) Aa)))) (Ad (Am (Aq bK hr.m (pv 0) (tpa (pv 1) (tpa (Ak Dz (pv 3) (A5 rfl T.cP)) (tpa (Ak B5 (pv 2) (Aq aE hr.m (pv 0) (tpa (pv 1) (tpa (pv 3) Aa)))) Aa))))))))),?_⟩
 apply⟨b,rfl,?_⟩;apply⟨a,dx,_,rfl,hx,rfl,?_⟩;apply⟨a,l,b,rfl,hC,?_⟩;k_is;have hn:=Bq htt;refine⟨n,_,rfl,by lia,by lia,?_⟩;apply⟨a,dx,_,rfl,hx,rfl,?_⟩;apply⟨a,l,b,n,rfl,hC,hn,hT,λkb H1 hkb hle s1=>?_⟩;have h256:256*kb<=l.length:=by unfold Ce By at hkb;lia
 have hx1:=s1.k hx;have hC1:=hC.sm s1;apply⟨a,dx,_,rfl,hx1,rfl,?_⟩;apply⟨a,dx,_,rfl,hx1,rfl,?_⟩;apply⟨a,l,b,kb,rfl,hC1,by lia,?_⟩;rw[io h256];apply⟨a,l,b,8*kb,n-(occ b l (256*kb)).length,tt,?_,hC1,?_,λH' s'=>?_⟩
 ·rw[show((kb:Int)*8)=((8*kb:Nat):Int) by lia,show((n:Int)-((occ b l (256*kb)).length:Nat))=((n-(occ b l (256*kb)).length:Nat):Int) by lia]
  rfl
 ·rw[show 32*(8*kb)=256*kb by lia,show(occ b l (256*kb)).length+(n-(occ b l (256*kb)).length)=n by lia,eF (gP l.length) hn]
  exact htt
 ·k_is
  exact q1 H' (s1.then s')
theorem Dn.kp {K:d6}{b:eg}{l:Za5}(h:Dn K C H b l)(k:Kp H H'):Dn K C H' b l:=by
 obtain⟨dx,t,h1,h2,h3⟩:=h;exact⟨dx,t,k.k h1,k.k h2,h3⟩
theorem A0.kp {K:d6}{b:eg}{l:Za5}(h:A0 K C H b l)(k:Kp H H'):A0 K C H' b l:=by
 obtain⟨dx,t,u,h1,h2,h3,h4⟩:=h;exact⟨dx,t,u,k.k h1,k.k h2,k.k h3,h4⟩
def ahS (es:Za6)(i:Nat):V:=if i=0 then .non else .str (es.getD (i-1) ⟨#[]⟩)
abbrev sV (es:Za6):List V:=es.map V.str
theorem gB {l:Za6}{i:Nat}{x:V}(h:(sV l)[i]?=some x):∃n,l[i]?=some n/\x=.str n:=by
 unfold sV at h;rw[d9] at h
 cases e:l[i]? with
 |none=>rw[e] at h;cases h
 |some n=>rw[e] at h;exact⟨n,rfl,(ee h).symm⟩
theorem Fc (l:Za6):(sV l).length=l.length:=d7 ..
theorem iP (l:Za5):(l.map λb=>[b]).flatten=l:=by
 induction l with
 |nil=>rfl
 |cons b r ih=>rw[im,jl,ih];rfl
inductive Vd (K:d6)(CC:eg)(vs:List V)(H:Hp)(Q:VK)(E:XK):Prop|mk(l:eg)(es:Za6)(_:vs=[.ref l])(_:H l=some (.lst (sV es)))(_:es.length<=4000)(_:∀c H',Ag H H'->H c=none->A0 K CC H' c (bgN es)->Q (.ref c) H')
variable (aP:Mkr P w K mg base "Counts" ab 3 ["self","bits"] (Ou K ac ab)) (aQ:Mkr P w K mg base "Bits" ac 3 ["self","text"] (Vy K ac))
include T aP aQ in
theorem eS (F:Fun K "begins_of" "begins_of" Io f fd):Ar P w K mg base CX0 5 f fd ["things"] (Vd K ab):=by
 exists F.ok P1
 obtain⟨l,es,rfl,hl,hn,q⟩:=h;refine⟨_,(Ab (P4 (i:=1) rfl Uv P1.nd rfl rfl (eN rfl T.c7 (tpa (Ak Ix (Bn (tpa Ek Aa)) (pv 0)) (tpa (pv 0) Aa))) (λ_ _ _ _=>Cb) (λ_ _ _ _=>(Ca (ttc Uz (pv 1) (pv 0)) Cy Cy))) (Ad (Am (Uu aP hr.m (tpa (Uu aQ hr.m (tpa (Cj km o0 oz Of Cy (tpa (pv 1) Aa)) Aa)) Aa))))),?_⟩
 apply⟨few (by simp),λp hp=>?_⟩;obtain⟨u1,hp1⟩:=A4 (o:=.lst [V.non]) hp;have hl1:=u1 _ _ hl;generalize upd H p _=H1 at *;apply⟨p,l,_,_,rfl,rfl,hp1,hl1,f9 (Ai (by rw[Fc,ja];lia)),λp2 hp2=>?_⟩;obtain⟨u2,hp3⟩:=A4 (o:=.lst ([V.non]++sV es)) hp2;have hl2:=u2 _ _ hl1;have s2:=u1.trans u2;generalize upd H1 p2 _=H2 at *;apply⟨p2,l,rfl,⟨_,SqL.of hp3⟩,⟨_,SqL.of hl2⟩,?_⟩;refine Aes (SqL.of hp3) (SqL.of hl2) (λi=>((bgN es).take i).map λb:Bool=>V.str (Av [b])) rfl (λi hi=>?_) (λi x y H3 R A hx hy s3 _ hA=>?_) (λD H3 hD3 s3 h3=>?_)
 ·rw[d7,fi]
  rw[Fc] at hi;exact Ai (by lia)
 ·obtain⟨n,hn2,rfl⟩:=gB hy
  have hi:=Bq hn2;obtain rfl:x=ahS es i:=by
   cases i with
   |zero=>exact(ee hx).symm
   |succ j=>
    have hx:(sV es)[j]?=some x:=hx;obtain⟨m,hm,rfl⟩:=gB hx;unfold ahS ju;rw[if_neg (by lia),show j+1-1=j by lia,hm];rfl
  have hsc:xW (V.str n) (ahS es i)=true:=by
   unfold ahS;split<;>rfl
  have hb:(bgN es)[i]?=some (!decide (V.str n=ahS es i)):=by
   unfold bgN;rw[d9,gd hi];show some (decide (i=0\/es[i]?≠es[i-1]?))=some _;congr 1;unfold ahS
   by_cases h0:i=0
   ·rw[if_pos h0,decide_eq_true (BL h0:i=0\/es[i]?≠es[i-1]?),decide_eq_false (show ¬ V.str n=V.non by intro z;cases z)]
    rfl
   ·rw[if_neg h0,gg,hn2]
    obtain⟨y,hy2⟩:∃y,es[i-1]?=some y:=⟨_,d4 (by lia)⟩;rw[hy2];show _=!decide (V.str n=V.str y)
    by_cases e:n=y
    ·rw[decide_eq_false (by rintro(z|z);exact h0 z;exact z (by rw[e])),decide_eq_true (by rw[e])]
     rfl
    ·rw[decide_eq_true (.inr λz=>e (ee z)),decide_eq_false λz=>e (V.str.inj z)]
     rfl
  apply⟨hsc,?_⟩
  cases hb2:(!decide (V.str n=ahS es i)) with
  |true=>
   apply hA _ _ ?_ (Ag.refl _);rw[i4,hb,hb2,fj];rfl
  |false=>
   apply hA _ _ ?_ (Ag.refl _);rw[i4,hb,hb2,fj];rfl
 have hbl:(bgN es).length=es.length:=by unfold bgN;rw[d7,fe]
 apply⟨rfl,?_⟩;apply jW (ls:=(bgN es).map λb=>[b]) ?_ ?_ ?_
 ·rw[h3,fw (by rw[hbl,Fc,eh,Fc,ja];lia),jf]
  rfl
 ·rw[iP,hbl]
  lia
 rw[iP];k_is;intro b db hb hdb hbd;refine⟨b,db,bgN es,rfl,Af,by lia,λH5 s5 hB=>⟨rfl,?_⟩⟩;have s5:=Jl hb hdb s5;k_is;intro c dc hc hdc hcd;refine⟨c,dc,b,_,rfl,Af,(hB.kp λc u _ e=>Lj hc hdc _ _ e),λH6 s6 hC=>⟨rfl,?_⟩⟩;have s6:=Jl hc hdc s6;have s25:=(s2.trans s3).trans s5;exact q c H6 (s25.trans s6) (s25.free hc) hC
inductive iH(vs:List V)(H:Hp)(Q:VK)(E:XK):Prop|mk(a:eg)(xs:List V)(_:vs=[.ref a])(_:H a=some (.lst xs))(_:Acq xs)(_:xs.length<=5000)(_:∀H',Ag H H'->Q .non H')
include T aw in
theorem Uw (F:Fun K "check_order" "check_order" Iv f fd):Ar P w K mg base CX0 3 f fd ["order"] iH:=by
 exists F.ok Fu
 obtain⟨a,xs,rfl,ha,hG,hn,q⟩:=h;refine⟨_,(Ab (tst 1 Fu.nd (Ak zX (Bn (tpa Jk Aa)) (Ao At (by rfl) T.cK Ch (tpa (pv 0) Aa)))) (Ad (Dc ii rfl (Me rfl T.cV (tpa (pv 0) Aa)) (J2 rfl (B4 (tgn 2 Fu.nd) (B4 (tgn 3 Fu.nd) Hd))) (Ab (Bm (PW.pt (Ik (Cl (Bt (Au aw hr.m (tpa (pv 3) (tpa Ae (tpa (Ak B5 (Ao At (by rfl) T.cK Ch (tpa (pv 0) Aa)) Ae) Aa)))))) (Ho (Bt (tix Bl (pv 1) (pv 3)))))) (Ad B9)
  Aw) (Ad (vM Jk (wE (pv 1) (pv 3) jA))))))),?_⟩
 apply⟨few (by simp),λp hp=>?_⟩;have t0:=An (o:=.lst [V.bl false]) hp;apply⟨a,_,rfl,.inl (SqL.of (t0 _ _ ha)),?_⟩;apply⟨p,xs.length,_,rfl,rfl,Af,by lia,by lia,f9 (Ai (by simp;lia)),λm hm=>?_⟩;have hm0:=t0.free hm;have t1:=t0.trans (An (o:=.lst (fg ((xs.length:Nat):Int).toNat [V.bl false]).flatten) hm);have hM:(upd (upd H p (.lst [V.bl false])) m (.lst (fg ((xs.length:Nat):Int).toNat [V.bl false]).flatten)) m=some (.lst ((fg xs.length false).map V.bl)):=by
  rw[Af,gw,xX]
 generalize (upd (upd H p (.lst [V.bl false])) m (.lst (fg ((xs.length:Nat):Int).toNat [V.bl false]).flatten))=H0 at *;apply⟨a,rfl,⟨_,SqL.of (t1 _ _ ha)⟩,?_⟩;refine Lm (xs:=xs) (λk G H1=>(∃(ms:Za5) (v2 v3:Option V),G=[some (.ref a),some (.ref m),v2,v3]/\Met xs k ms/\H1 m=some (.lst (ms.map V.bl)))/\Ag H H1) ?_ (λk G H1 _ h=>SqL.of (h.2 _ _ ha)) ?_ ?_
 ·exact⟨⟨_,_,_,rfl,wF xs,hM⟩,t1⟩
 ·rintro k x G H1 t hx ⟨⟨ms,v2,v3,rfl,hms,hm1⟩,s1⟩ ht
  have hk:=Bq hx;have st:=An (o:=.tup [.int k,x]) ht;have hm2:=st _ _ hm1;have s2:=s1.trans st;generalize upd H1 t _=H2 at *;obtain⟨n,hxn,hnl,hno⟩:=hG k hk;rw[hx] at hxn;obtain rfl:=ee hxn;obtain⟨b,hb⟩:∃b,ms[n]?=some b:=⟨_,d4 (by rw[hms.1];exact hnl)⟩;obtain rfl:b=false:=by
   cases b with
   |false=>rfl
   |true=>
    obtain⟨j,hj,hxj⟩:=(hms.2 n true hb).mp rfl;exact absurd hxj (hno j hj)
  apply⟨a,_,rfl,.inl (SqL.of (s2 _ _ ha)),?_⟩;apply⟨n,0,_,rfl,by lia,by lia,?_⟩;apply Cg (SqL.of hm2) (A7 (Adj hb)) ?_;apply zK hm2 rfl (by rw[d7,hms.1];exact hnl) ?_;rw[vO];k_is;exact⟨⟨_,_,_,rfl,xH hms hx,Af⟩,Ba s2 hm0⟩
 ·rintro G H1 ⟨⟨ms,v2,v3,rfl,hms,hm1⟩,s1⟩
  exact q H1 s1
def isF:V->Bool
 |.bl false=>true
 |_=>false
def fAt (H:Hp)(m:eg):Nat:=match H m with|some (.lst xs)=>xs.countP isF|_=>0
theorem Afv (ms:Za5):(ms.map V.bl).countP isF=ms.count false:=by
 induction ms with
 |nil=>rfl
 |cons b r ih=>cases b<;>simp[isF,yg,n4,ih]
theorem zV {m:eg}{ms:Za5}(h:H m=some (.lst (ms.map V.bl))):fAt H m=ms.count false:=by
 unfold fAt;rw[h];exact Afv ms
theorem pT:∀{ms:Za5} {y:Nat},ms[y]?=some false->(ms.set y true).count false+1=ms.count false
 |[],_,h=>by cases h
 |b::r,0,h=>by
  cases h;simp
 |b::r,y+1,h=>by
  have ih:=pT (ms:=r) (y:=y) h;rw[List.set_cons_succ,n4,n4];lia
def Dw (H:Hp)(n:Nat)(rs:List eg):Prop:=∀r∈rs,∃ns:List Int,ns.length<=n/\H r=some (.lst (ns.map V.int))
theorem Dw.same {rs:List eg}(s:Ag H H')(h:Dw H n rs):Dw H' n rs:=λr hr=>let ⟨ns,hl,e⟩:=h r hr;⟨ns,hl,s _ _ e⟩
theorem Dw.upd {rs:List eg}{a:eg}{o:HO}(h:Dw H n rs)(hn:∀r∈rs,r≠a):Dw (upd H a o) n rs:=λr hr=>by
 obtain⟨ns,hl,e⟩:=h r hr;exact⟨ns,hl,by rw[Al (hn r hr)];exact e⟩
inductive kY(vs:List V)(H:Hp)(Q:VK)(E:XK):Prop|mk(t:eg)(ns:Za4)(_:vs=[.ref t])(_:H t=some (.tup (nV ns)))(_:(∀x∈ns,x<ns.length))(_:ns.length<=5000)(_:∀p (rs:List eg) H',Ag H H'->H p=none->H' p=some (.lst (rs.map V.ref))->rs.length<=ns.length->Dw H' ns.length rs->Q (.ref p) H')
include T in
theorem fO (F:Fun K "rounds_of" "rounds_of" Le f fd):Ar P w K mg base CX0 1 f fd ["order"] kY:=by
 exists F.ok Db
 obtain⟨t,ns,rfl,ht,hb,hn,q⟩:=h;have hlV:(nV ns).length=ns.length:=by rw[d7]
 refine⟨_,(Ab (tst 1 Db.nd (Bn Aa)) (Ab (tst 2 Db.nd (Ak zX (Bn (tpa Jk Aa)) (Ao At (by rfl) T.cK Ch (tpa (pv 0) Aa)))) (Ab (Dc ii rfl (Fk rfl T.cN (tpa (Ao At (by rfl) T.cK Ch (tpa (pv 0) Aa)) Aa)) (tgn 3 Db.nd) (Ab (tst 4 Db.nd (Bn Aa)) (Ab (tst 5 Db.nd (pv 3)) (Ab (Et ii (Cl (Bt (tix Bl (pv 2) (pv 5)))) (Ab (vM Jk (wE (pv 2) (pv 5) jA)) (Ab (As (Cj gi ig ie Be (pv 4) (tpa (pv 5) Aa))) (Ad (tst 5 Db.nd (tix Bs (pv 0) (pv 5))))))) (Ad (Bm (ttc Fp (Ao At (by rfl) T.cK Ch (tpa (pv 4) Aa)) Ae) (Ad (As (Cj gi ig ie Be (pv 1) (tpa (pv 4) Aa))))
  Aw)))))) (Ad (Am (pv 1)))))),?_⟩
 apply⟨gp _,λp hp=>?_⟩;obtain⟨t0,e0⟩:=A4 (o:=.lst []) hp;generalize upd H p _=H0 at *;apply⟨few (by simp),λp1 hp1=>?_⟩;have t1:=An (o:=.lst [V.bl false]) hp1;have s1:=t0.trans t1;have e1:=t1 _ _ e0;have f1:=@Af H0 p1 (.lst [V.bl false]);generalize upd H0 p1 _=H1 at *;apply⟨t,_,rfl,.inr (SqT.of (s1 _ _ ht)),?_⟩;apply⟨p1,_,_,rfl,rfl,f1,by lia,by rw[hlV];lia,f9 (Ai (by simp;lia)),λm hm=>?_⟩;have t2:=An (o:=.lst (fg (((nV ns).length:Nat):Int).toNat [V.bl false]).flatten) hm;have s2:=s1.trans t2;have hm0:=s1.free hm;have e2:=t2 _ _ e1;have hpm:p≠m:=Aj e1 hm;have hM:(upd H1 m (.lst (fg (((nV ns).length:Nat):Int).toNat [V.bl false]).flatten)) m=some (.lst ((fg ns.length false).map V.bl)):=by
  rw[Af,gw,hlV,xX]
 generalize (upd H1 m (.lst (fg (((nV ns).length:Nat):Int).toNat [V.bl false]).flatten))=H2 at *;apply⟨t,_,rfl,.inr (SqT.of (s2 _ _ ht)),?_⟩;apply⟨_,rfl,by lia,by rw[hlV];lia,?_⟩;rw[hlV,gw];refine Mg (λi G H3=>∃(rs:List eg) (ms:Za5) (v3 v4 v5:Option V),G=[some (.ref t),some (.ref p),some (.ref m),v3,v4,v5]/\H3 p=some (.lst (rs.map V.ref))/\rs.length<=i/\Dw H3 ns.length rs/\(∀r∈rs,r≠p/\r≠m)/\H3 m=some (.lst (ms.map V.bl))/\ms.length=ns.length/\Ag H H3) ?_ ?_ ?_
 ·exact⟨[],_,_,_,_,rfl,e2,d8 _,(λr hr=>by cases hr),(λr hr=>by cases hr),hM,lg,s2⟩
 ·rintro i G H3 hi ⟨rs,ms,v3,v4,v5,rfl,hp3,hrl,hrs,hne,hm3,hml,s3⟩
  apply⟨gp _,λa ha=>?_⟩;have ta:=An (o:=.lst []) ha;have ha0:=s3.free ha;have hap:a≠p:=(Aj hp3 ha).symm;have ham:a≠m:=(Aj hm3 ha).symm;have har:∀r∈rs,r≠a:=λr hr=>by obtain⟨_,_,e⟩:=hrs r hr;exact Aj e ha
  have s4:=s3.trans ta;have hp4:=ta _ _ hp3;have hm4:=ta _ _ hm3;have hrs4:=hrs.same ta;have ha4:=@Af H3 a (.lst []);generalize upd H3 a _=H4 at *;apply Gr (λG H5=>∃(ms:Za5) (qs:List Int) (y:Nat),G=[some (.ref t),some (.ref p),some (.ref m),some (.int (0+(i:Int))),some (.ref a),some (.int y)]/\y<ns.length/\H5 p=some (.lst (rs.map V.ref))/\Dw H5 ns.length rs/\H5 m=some (.lst (ms.map V.bl))/\ms.length=ns.length/\H5 a=some (.lst (qs.map V.int))/\qs.length+ms.count false<=ns.length/\Ag H H5) (λ_ H5=>fAt H5 m)
   ⟨ms,[],i,by simp,hi,hp4,hrs4,hm4,hml,ha4,by have:=List.count_le_length (a:=false) (l:=ms);simp;lia,s4⟩ ?_
  rintro z G H5 ⟨ms,qs,y,rfl,hy,hp5,hrs5,hm5,hml5,ha5,hc5,s5⟩ hz;rw[zV hm5] at hz;obtain⟨b,hb5⟩:∃b,ms[y]?=some b:=⟨_,d4 (by lia)⟩;apply Cg (SqL.of hm5) (A7 (Adj hb5)) ?_
  cases b with
  |false=>
   apply Li ?_;apply zK hm5 rfl (by rw[d7];lia) ?_;rw[vO];have hct:=pT hb5;have hm6:=@Af H5 m (.lst ((ms.set y true).map V.bl));have s6:=Ba (o:=.lst ((ms.set y true).map V.bl)) s5 hm0;have ha6:upd H5 m (.lst ((ms.set y true).map V.bl)) a=some (.lst (qs.map V.int)):=by rw[Al ham];exact ha5
   have hp6:upd H5 m (.lst ((ms.set y true).map V.bl)) p=some (.lst (rs.map V.ref)):=by rw[Al hpm];exact hp5
   have hrs6:Dw (upd H5 m (.lst ((ms.set y true).map V.bl))) ns.length rs:=hrs5.upd λr hr=>(hne r hr).2;generalize upd H5 m _=H6 at *;apply⟨.inl ⟨rfl,_,SqL.of ha6⟩,?_⟩;apply Bz ha6 (by rw[d7];exact Ai (by lia)) ?_;k_is;have hx:ns[y]?=some ns[y]:=d4 hy;have hlt:=hb _ (f8 hx);generalize ns[y]=x at hx hlt;refine Cd (SqT.of ((Ba s6 ha0) _ _ ht)) (v:=.int x) (A7 (by rw[d9,hx];rfl)) ?_;apply⟨⟨ms.set y true,qs++[(y:Int)],x,rfl,hlt,by rw[Al hap.symm];exact hp6,hrs6.upd har,by rw[Al ham.symm];exact hm6,by rw[yw];exact hml5,by rw[Af,fj];rfl,by rw[eh];simp;lia,Ba s6 ha0⟩,?_⟩;rw[zV (ms:=ms.set y true) (by rw[Al ham.symm];exact hm6)];lia
  |true=>
   apply⟨a,_,rfl,.inl (SqL.of ha5),?_⟩;apply Bo (λ_=>?_) (λ_=>?_)
   ·apply⟨.inl ⟨rfl,_,SqL.of hp5⟩,?_⟩;apply Bz hp5 (by rw[d7];exact Ai (by lia)) ?_;apply⟨rs++[a],ms,_,_,_,rfl,by rw[Af,fj];rfl,by rw[eh];simp;lia,λr hr=>?_,λr hr=>?_,by rw[Al hpm.symm];exact hm5,hml5,Ba s5 hp⟩
    ·rcases il.mp hr with hr|hr
     ·exact(hrs5.upd λr hr=>(hne r hr).1) r hr
     ·rw[fz.mp hr]
      exact⟨qs,by lia,by rw[Al hap];exact ha5⟩
    ·rcases il.mp hr with hr|hr
     ·exact hne r hr
     ·rw[fz.mp hr]
      exact⟨hap,ham⟩
   ·k_is
    exact⟨rs,ms,_,_,_,rfl,hp5,by lia,hrs5,hne,hm5,hml5,s5⟩
 ·rintro G H3 ⟨rs,ms,v3,v4,v5,rfl,hp3,hrl,hrs,hne,hm3,hml,s3⟩
  k_is;exact q p rs H3 s3 hp hp3 hrl hrs
theorem nG (ys:List V):(G8 ys (some (-1)) none++G8 ys none (some (-1))).length=ys.length:=by
 rw[eh];unfold G8;rw[fi,fi,ic,ic];show min (ys.length-(if(-1:Int)<0 then((-1:Int)+(ys.length:Int)).toNat else min (-1:Int).toNat ys.length)) (ys.length-(if(-1:Int)<0 then((-1:Int)+(ys.length:Int)).toNat else min (-1:Int).toNat ys.length))
  + min ((if(-1:Int)<0 then((-1:Int)+(ys.length:Int)).toNat else min (-1:Int).toNat ys.length)-0) (ys.length-0)=ys.length
 rw[if_pos (by decide),show((-1:Int)+(ys.length:Int)).toNat=ys.length-1 by lia,rb,qb,qb,io (zu _ _)];exact t8 (zu _ _)
theorem Tj {ys:List V}{qs:List Int}(h:∀v∈ys,v∈qs.map V.int):∃zs:List Int,ys=zs.map V.int:=by
 induction ys with
 |nil=>exact⟨[],rfl⟩
 |cons y r ih=>
  obtain⟨zs,e⟩:=ih λv hv=>h v (gv _ hv);obtain⟨z,_,hz⟩:=lp.mp (h y gu);exact⟨z::zs,by rw[e,<-hz];rfl⟩
inductive oR(vs:List V)(H:Hp)(Q:VK)(E:XK):Prop|mk(t:eg)(ns:Za4)(st:Int)(_:vs=[.ref t,.int st])(_:H t=some (.tup (nV ns)))(_:(∀x∈ns,x<ns.length))(_:ns.length<=3000)(_:0<st)(_:∀d (kvs:List (Key×V)) H',Ag H H'->H d=none->H' d=some (.dK kvs)->Q (.ref d) H')
theorem yC (h:n<=10000000):n<=sizeLine:=ir h (by decide)
include T in
theorem Tc (F:Fun K "shortcuts_of" "shortcuts_of" Hw f fd)(bL:Cal P w K mg base "rounds_of" 1 ["order"] kY):Ar P w K mg base CX0 2 f fd ["order","step"] oR:=by
 exists F.ok Ey
 obtain⟨t,ns,st,rfl,ht,hb,hn,hst,q⟩:=h;refine⟨_,(Ab (tst 2 Ey.nd rE) (Ab (Dc ii rfl (Du (Au bL hr.m (tpa (pv 0) Aa))) (tgn 3 Ey.nd) (Ad (Bm (ttc Fp (Ao At (by rfl) T.cK Ch (tpa (pv 3) Aa)) (pv 1)) (Ab (tst 4 Ey.nd (Ab4 (pv 3) (pv 1))) (Ad (As (Cj uf zb PySem.F.type_dict_update tD (pv 2) (tpa (Ab3 rfl rfl T.dF rfl T.c7 (tpa (pv 4) (tpa (Ak Ix (Cf Op (pv 4) (B3 (Fr C9 Ae)) Hb) (Cf Op (pv 4) Hb (B3 (Fr C9 Ae)))) Aa))) Aa)))))
  Aw))) (Ad (Am (pv 2))))),?_⟩
 k_is;intro d hd;obtain⟨t0,e0⟩:=A4 (o:=.dK []) hd;generalize upd H d _=H0 at *;apply⟨t,ns,rfl,t0 _ _ ht,hb,by lia,λp rs H1 s1 f1 e1 hl hrs=>?_⟩;have s01:=t0.trans s1;refine⟨p,rfl,⟨_,SqL.of e1⟩,?_⟩;refine Pg (xs:=rs.map V.ref) (λi G H2=>∃(kvs:List (Key×V)) (v3 v4:Option V),G=[some (.ref t),some (.int st),some (.ref d),v3,v4]/\H2 d=some (.dK kvs)/\kvs.length<=i*3000/\H2 p=some (.lst (rs.map V.ref))/\Dw H2 ns.length rs/\Ag H H2) ?_ (λk G H2 _ h=>by obtain⟨_,_,_,_,_,_,h,_⟩:=h;exact SqL.of h) ?_ ?_
 ·exact⟨[],_,_,rfl,s1 _ _ e0,gp _,e1,hrs,s01⟩
 ·rintro i x G H2 hx ⟨kvs,v3,v4,rfl,hd2,hk,hp2,hrs2,s2⟩
  have hi:=Bq hx;rw[d7] at hi;rw[d9] at hx;obtain⟨r,hr,rfl⟩:∃r,rs[i]?=some r/\V.ref r=x:=by
   cases e:rs[i]? with
   |none=>rw[e] at hx;cases hx
   |some r=>rw[e] at hx;exact⟨r,rfl,ee hx⟩
  obtain⟨qs,hql,hqr⟩:=hrs2 r (f8 hr);apply⟨r,_,rfl,.inl (SqL.of hqr),?_⟩;apply Bo (λ_=>?_) (λ_=>?_)
  ·apply⟨r,_,st,rfl,rfl,hst,SqL.of hqr,λa ys ha hys hyl=>?_⟩;obtain⟨zs,rfl⟩:=Tj hys;rw[d7,d7] at hyl;have t3:=An (o:=.lst (zs.map V.int)) ha;have s3:=s2.trans t3;have ha3:=@Af H2 a (.lst (zs.map V.int));have hd3:=t3 _ _ hd2;have hp3:=t3 _ _ hp2;have hrs3:=hrs2.same t3;generalize upd H2 a _=H3 at *;apply⟨.inr (.inr (.inl ⟨rfl,.inl ⟨_,hd3⟩⟩)),?_⟩;apply⟨a,_,rfl,SqL.of ha3,λb1 hb1=>?_⟩;obtain⟨t4,hb4⟩:=A4 (o:=.lst (G8 (zs.map V.int) (some (-1)) none)) hb1;have ha4:=t4 _ _ ha3;have s4:=s3.trans t4;have hd4:=t4 _ _ hd3;have hp4:=t4 _ _ hp3;have hrs4:=hrs3.same t4;generalize upd H3 b1 _=H4 at *;apply⟨a,_,rfl,SqL.of ha4,λb2 hb2=>?_⟩;obtain⟨t5,hb5⟩:=A4 (o:=.lst (G8 (zs.map V.int) none (some (-1)))) hb2;have ha5:=t5 _ _ ha4;have hc5:=t5 _ _ hb4;have s5:=s4.trans t5;have hd5:=t5 _ _ hd4;have hp5:=t5 _ _ hp4;have hrs5:=hrs4.same t5;generalize upd H4 b2 _=H5 at *;have hlen:=nG (zs.map V.int);rw[eh,d7] at hlen;apply⟨b1,b2,_,_,rfl,rfl,hc5,hb5,yC (by lia),λc hc=>?_⟩;obtain⟨t6,hc6⟩:=A4 (o:=.lst (G8 (zs.map V.int) (some (-1)) none++G8 (zs.map V.int) none (some (-1)))) hc;have ha6:=t6 _ _ ha5;have s6:=s5.trans t6;have hd6:=t6 _ _ hd5;have hp6:=t6 _ _ hp5;have hrs6:=hrs5.same t6;generalize upd H5 c _=H6 at *;refine⟨a,c,zs,_,rfl,SqL.of ha6,SqL.of hc6,by rw[eh];lia,λg kvs2 hg hkl=>?_⟩;obtain⟨t7,hg7⟩:=A4 (o:=.dK kvs2) hg;have s7:=s6.trans t7;have hd7:=t7 _ _ hd6;have hp7:=t7 _ _ hp6;have hrs7:=hrs6.same t7;have hdg:d≠g:=Aj hd6 hg;generalize upd H6 g _=H7 at *;have hk5:kvs.length<=3000*3000:=ir hk (Nat.mul_le_mul (by lia) (d8 _));apply uP hdg hd7 hg7 (yC (by lia)) λkvs' hk'=>?_;apply⟨kvs',_,_,rfl,Af,by rw[CH];lia,?_,hrs7.upd λr hr e=>?_,Ba s7 hd⟩
   ·have hne:p≠d:=Il hp7 hd7 (by intro z;cases z)
    rw[Al hne];exact hp7
   ·obtain⟨_,_,er⟩:=hrs7 r hr
    rw[e,hd7] at er;cases er
  ·k_is
   exact⟨kvs,_,_,rfl,hd2,by rw[CH];lia,hp2,hrs2,s2⟩
 ·rintro G H2 ⟨kvs,v3,v4,rfl,hd2,hk,hp2,hrs2,s2⟩
  k_is;exact q d kvs H2 s2 hd hd2
theorem uH {ns:Za4}(o:Ord ns):Acq (nV ns):=λj hj=>by
 rw[d7] at hj;refine⟨ns[j],pZ (d4 hj),by rw[d7];exact o.lt _ (List.getElem_mem hj),λi hi e=>?_⟩;rw[pZ (d4 (show i<ns.length by lia))] at e;have:=V.int.inj (ee e);exact(uc.mp o.nd) i j (by lia) hj hi (by lia)
def Oh (C:eg)(H:Hp)(x:eg)(ns:Za4)(st:Nat):Prop:=∃dx t d,H x=some (.ins C dx [("onward",.ref t),("leaps",.ref d)])/\H t=some (.tup (nV ns))
theorem Oh.kp {x:eg}{ns:Za4}{st:Nat}(h:Oh C H x ns st)(s:Kp H H'):Oh C H' x ns st:=by
 obtain⟨dx,t,d,h1,h2⟩:=h;exact⟨dx,t,d,s.k h1,s.k h2⟩
inductive Mt (C:eg)(vs:List V)(H:Hp)(Q:VK)(E:XK):Prop|mk(x dx a:eg)(ns:Za4)(st:Nat)(_:vs=[.ref x,.ref a,.int st])(_:H x=some (.ins C dx []))(_:H a=some (.lst (nV ns)))(_:Ord ns)(_:ns.length<=3000)(_:0<st)(_:∀H',SameBut x H H'->Oh C H' x ns st->Q .non H')
variable (aq:Qe K ag)
include T aq in
theorem Qg (F:kL K "__init__" "Shortcuts.__init__" B6 f fd)(bM:Cal P w K mg base "check_order" 3 ["order"] iH)(bN:Cal P w K mg base "shortcuts_of" 2 ["order","step"] oR):Ar P w K mg base (CXE P w) 4 f fd ["self","order","step"] (Mt ag):=by
 exists F.okE Oz
 obtain⟨x,dx,a,ns,st,rfl,hx,ha,hO,hn,hst,q⟩:=h;refine⟨_,(Ab (As (Au bM hr.m (tpa (pv 1) Aa))) (Ab (tsf (pv 0) (Dj Eu (by rfl) T.dh Pk (tpa (pv 1) Aa))) (Ad (tsf (pv 0) (Au bN hr.m (tpa (tfl (pv 0)) (tpa (pv 2) Aa))))))),?_⟩
 apply⟨a,nV ns,rfl,ha,uH hO,by rw[d7];lia,λH1 s1=>?_⟩;have hb:=hO.lt;have hx1:=s1 _ _ hx;have ha1:=s1 _ _ ha;apply⟨a,_,rfl,.inl ⟨SqL.of ha1,λt ht=>?_⟩⟩;have t2:=An (o:=.tup (nV ns)) ht;have hx2:=t2 _ _ hx1;have ht2:=@Af H1 t (.tup (nV ns));have s2:=s1.trans t2;generalize upd H1 t _=H2 at *;have htx:t≠x:=Il ht2 hx2 (by intro z;cases z);apply Dr hx2 aq.cl aq.dv (by decide) ?_;have hx3:upd H2 x (.ins ag dx (F9 "onward" (.ref t) [])) x=some (.ins ag dx [("onward",.ref t)]):=Af;have ht3:upd H2 x (.ins ag dx (F9 "onward" (.ref t) [])) t=some (.tup (nV ns)):=by rw[Al htx];exact ht2
 have s3:=s2.but.trans (A8 (H:=H2) (x:=x) (o:=.ins ag dx (F9 "onward" (.ref t) [])));generalize upd H2 x _=H3 at *;apply⟨x,ag,dx,_,.ref t,rfl,hx3,aq.cl,aq.dv,rfl,?_⟩;apply⟨t,ns,st,rfl,ht3,hb,hn,by lia,λd kvs H4 s4 f4 e4=>?_⟩;apply Dr (s4 _ _ hx3) aq.cl aq.dN (show 1<1000 by decide) ?_;k_is;exact q _ ((s3.trans s4.but).trans A8) ⟨dx,t,d,Af,by rw[Al htx];exact s4 _ _ ht3⟩
inductive rF (C:eg)(vs:List V)(H:Hp)(Q:VK)(E:XK):Prop|mk(x:eg)(ns:Za4)(st k v:Nat)(_:vs=[.ref x,.int k])(_:Oh C H x ns st)(_:ns[k]?=some v)(_:Q (.int v) H)
include T aq in
theorem We (F:Fun K "there" "Shortcuts.there" F5 f fd):Ar P w K mg base CX0 1 f fd ["self","place"] (rF ag):=by
 exists F.ok No
 obtain⟨x,ns,st,k,v,rfl,⟨dx,t,d,hx,ht⟩,hv,q⟩:=h;refine⟨_,(Ad (Am (tix Bs (tfl (pv 0)) (pv 1)))),?_⟩;apply⟨x,ag,dx,_,.ref t,rfl,hx,aq.cl,aq.dv,rfl,?_⟩;k_is;exact Cd (SqT.of ht) (A7 (pZ hv)) q
def hts (l:Za5)(i:Nat):List Int:=(fb i).map λj=>hgt l (j+1)
theorem zT (l:Za5)(i:Nat):hts l (i+1)=hts l i++[hgt l (i+1)]:=by
 unfold hts;rw[je,fj];rfl
def htB (l:Za5)(b:Int)(i:Nat):List Int:=(hts l i).map (b + ·)
inductive Ub(vs:List V)(H:Hp)(Q:VK)(E:XK):Prop|mk(l:Za5)(bg:Int)(_:vs=[.str (Av l),.int bg])(_:l.length<=1000)(_:∀p H',Ag H H'->H p=none->H' p=some (.lst ((htB l bg l.length).map V.int))->Q (.ref p) H')
include T in
theorem Xo (F:Fun K "heights_of" "heights_of" Kf f fd):Ar P w K mg base CX0 1 f fd ["text","begin"] Ub:=by
 exists F.ok Eo
 obtain⟨l,bg,rfl,hl,q⟩:=h;refine⟨_,(Ab (tst 2 Eo.nd (pv 1)) (Ab (tst 3 Eo.nd (Bn Aa)) (Ab (Dc ii rfl (mI (pv 0)) (tgn 4 Eo.nd) (Ab (tau 2 Eo.nd (Ca (ttc Dt (pv 4) Cy) Ae (Fr C9 Ae)) N0) (Ad (As (Cj gi ig ie Be (pv 3) (tpa (pv 2) Aa)))))) (Ad (Am (pv 3)))))),?_⟩
 apply⟨gp _,λp hp=>?_⟩;apply⟨_,rfl,?_⟩;refine rX (λi G H1=>∃v:Option V,G=[some (.str (Av l)),some (.int bg),some (.int (bg+hgt l i)),some (.ref p),v]/\H1 p=some (.lst ((htB l bg i).map V.int))/\Ag H H1) ⟨_,by rw[show bg+hgt l 0=bg by unfold hgt;simp];rfl,Af,An hp⟩ ?_ ?_
 ·rintro i c G H1 hc ⟨v,rfl,hp1,sm⟩
  obtain⟨b,hb,rfl⟩:=fI hc;have hi:=Bq hb;have hh:=K3 hb;have hz1:((htB l bg i).map V.int).length<sizeLine:=by
   rw[d7];unfold htB hts;rw[d7,d7,fe];exact Dk (by lia)
  have fin:∀d:Int,hgt l (i+1)=hgt l i+d->∃v:Option V,[some (V.str (Av l)),some (V.int bg),some (V.int (bg+hgt l i+d)),some (V.ref p),some (V.str (sgn (if b then 49 else 48)))]=[some (V.str (Av l)),some (V.int bg),some (V.int (bg+hgt l (i+1))),some (V.ref p),v] /\
    (upd H1 p (.lst ((htB l bg i).map V.int++[V.int (bg+hgt l i+d)]))) p=some (.lst ((htB l bg (i+1)).map V.int))/\Ag H (upd H1 p (.lst ((htB l bg i).map V.int++[V.int (bg+hgt l i+d)]))):=λd hd=>by
   refine⟨_,by rw[hd,GE],?_,λb' u e=>?_⟩
   ·unfold htB
    rw[Af,zT,hd,fj,fj,GE];rfl
   ·rw[Al (Aj e hp)]
    exact sm _ _ e
  apply Bo (λh1=>?_) (λh1=>?_)
  ·have hd:hgt l (i+1)=hgt l i+1:=by cases b with|true=>exact hh|false=>exact absurd h1 (by decide)
   apply⟨.inl ⟨rfl,_,SqL.of hp1⟩,?_⟩;k_is;exact Bz hp1 hz1 (fin 1 hd)
  ·have hd:hgt l (i+1)=hgt l i + -1:=by cases b with|false=>exact hh|true=>exact absurd rfl h1
   apply⟨.inl ⟨rfl,_,SqL.of hp1⟩,?_⟩;k_is;exact Bz hp1 hz1 (fin (-1) hd)
 ·rintro G H1 ⟨v,rfl,hp1,sm⟩
  rw[show(Av l).cps.size=l.length from A6 l] at *;k_is;exact q p H1 sm hp hp1
inductive pB(vs:List V)(H:Hp)(Q:VK)(E:XK):Prop|mk(l:Za5)(_:vs=[.str (Av l)])(_:Vs 0 l)(_:l.length<=8000)(_:∀H',Ag H H'->Q .non H')
include T in
theorem gJ (F:Fun K "check_row" "check_row" L0 f fd):Ar P w K mg base CX0 1 f fd ["text"] pB:=by
 exists F.ok F4
 obtain⟨l,rfl,hv,hn,q⟩:=h;refine⟨_,(Ab (Bm (Cl (Bt (Ao Cr (by rfl) T.cR Ci (tpa (pv 0) (tpa (G9 (v:=.ty "str") rfl T.dA vX rfl) Aa))))) (Ad B9)
  Aw) (Ab (tst 1 F4.nd Ae) (Ab (Dc ii rfl (yV rfl T.cV (tpa (pv 0) Aa)) (J2 rfl (B4 (tgn 2 F4.nd) (B4 (tgn 3 F4.nd) Hd))) (Ab (tau 1 F4.nd (Ca (ttc Dt (pv 3) Cy) Ae (Fr C9 Ae)) N0) (Ad (Bm (PW.pt (Ik (To eP (pv 3) Cy rfl) (Ik (ttc O7 (pv 1) Ae) (Ho (ttc Dt (pv 2) (A5 rfl T.c6)))))) (Ad B9)
  Aw)))) (Ad (Bm (ttc Fp (pv 1) Ae) (Ad B9)
  Aw))))),?_⟩
 apply⟨_,_,_,_,rfl,.str _,Sk,?_⟩;apply⟨_,rfl,?_⟩;refine sP (λi G H1=>(∃v2 v3:Option V,G=[some (.str (Av l)),some (.int (hgt l i)),v2,v3])/\Ag H H1) ⟨⟨_,_,rfl⟩,Ag.refl _⟩ ?_ ?_
 ·rintro i c G H1 t hc ⟨⟨v2,v3,rfl⟩,s1⟩ ht
  obtain⟨b,hb,rfl⟩:=fI hc;have hi:=Bq hb;have hs:=K3 hb;obtain⟨h,hh,_⟩:=Vc hv (i+1) (by lia);have s2:=s1.trans (An (o:=.tup [.int i,.str (sgn (if b then 49 else 48))]) ht);generalize upd H1 t _=H2 at *;k_is
  cases b with
  |true=>
   refine Bo (λ_=>?_) (λh=>absurd rfl h);apply⟨_,_,rfl,rfl,?_⟩;k_is;have hs:hgt l (i+1)=hgt l i+1:=hs;rw[<-hs,hh];rw[show(!(!(mo ("01":Str) (sgn (if true=true then 49 else 48)) 0 ("01":Str).length 1).isEmpty))=false by decide +kernel];apply Bo (λh=>by lia) (λ_=>?_);apply Bo (λh=>?_) (λ_=>?_)
   ·have:=V.int.inj h
    lia
   k_is;exact⟨⟨_,_,rfl⟩,s2⟩
  |false=>
   refine Bo (λh=>absurd h (by decide)) (λ_=>?_);apply⟨_,_,rfl,rfl,?_⟩;k_is;have hs:hgt l (i+1)=hgt l i + -1:=hs;rw[<-hs,hh];rw[show(!(!(mo ("01":Str) (sgn (if false=true then 49 else 48)) 0 ("01":Str).length 1).isEmpty))=false by decide +kernel];apply Bo (λh=>by lia) (λ_=>?_);apply Bo (λh=>?_) (λ_=>?_)
   ·have:=V.int.inj h
    lia
   k_is;exact⟨⟨_,_,rfl⟩,s2⟩
 ·rintro G H1 ⟨⟨v2,v3,rfl⟩,s1⟩
  rw[show(Av l).cps.size=l.length from A6 l];obtain⟨h,hh,hv2,_⟩:=Vc hv l.length (d8 _);rw[ji (d8 _)] at hv2;have hv2:h=0:=hv2;apply Bo (λh=>by lia) (λ_=>?_);k_is;exact q H1 s1
def O4 (b:V):List (Str×V):=[("bits",b)]
def Kh (b c:V):List (Str×V):=[("bits",b),("counts",c)]
def yF (b c n t o:V):List (Str×V):=[("bits",b),("counts",c),("length",n),("kept_table",t),("often_least",o)]
inductive qJ (K:d6)(CP:eg)(vs:List V)(H:Hp)(Q:VK)(E:XK):Prop|mk(x dx:eg)(b c n t o:V)(_:vs=[.ref x,n,t,o])(_:H x=some (.ins CP dx (Kh b c)))(_:Q .non (upd H x (.ins CP dx (yF b c n t o))))
variable (af:Qa K aa)
include T af in
theorem Wt (F:Fun K "__init__" "Heights.__init__" Hl f fd):Ar P w K mg base CX0 1 f fd ["self","length","table","often_least"] (qJ K aa):=by
 exists F.ok Te
 obtain⟨x,dx,b,c,n,t,o,rfl,hx,q⟩:=h;refine⟨_,(Ab (tsf (pv 0) (pv 1)) (Ab (tsf (pv 0) (pv 2)) (Ad (tsf (pv 0) (pv 3))))),?_⟩
 apply Dr hx af.cl af.cM (show 2<1000 by decide) ?_;apply Dr Af af.cl af.cQ (show 3<1000 by decide) ?_;rw[Tm];apply Dr Af af.cl af.dP (show 4<1000 by decide) ?_;rw[Tm];exact q
inductive oU (K:d6)(CC CP:eg)(vs:List V)(H:Hp)(Q:VK)(E:XK):Prop|mk(x dx c:eg)(fs:List (Str×V))(l:Za5)(n:Nat)(_:vs=[.ref x,.int n])(_:H x=some (.ins CP dx fs))(_:fs.lookup ("counts":Str)=some (.ref c))(_:A0 K CC H c l)(_:n<=l.length)(_:∀H',Ag H H'->Q (.int ((occ true l n).length:Nat)) H')
include T af in
theorem Qu (F:Fun K "opens_ahead" "Pairs.opens_ahead" El f fd)(bO:Mth P w K mg base ab "ahead" 4 ["self","bit","place"] (rV K ab)):Ar P w K mg base CX0 5 f fd ["self","place"] (oU K ab aa):=by
 exists F.ok Ln
 obtain⟨x,dx,c,fs,l,n,rfl,hx,hc,hC,hn,q⟩:=h;refine⟨_,(Ad (Am (Aq bO hr.m (tfl (pv 0)) (tpa Ae (tpa (pv 1) Aa))))),?_⟩;apply⟨x,aa,dx,fs,.ref c,rfl,hx,af.cl,af.dy,hc,?_⟩;obtain⟨dc,t,u,hc1,_⟩:=id hC;apply⟨c,dc,_,rfl,hc1,rfl,?_⟩;k_is;exact⟨c,l,true,n,rfl,hC,hn,q⟩
inductive jL (K:d6)(CC CP:eg)(vs:List V)(H:Hp)(Q:VK)(E:XK):Prop|mk(x dx c:eg)(fs:List (Str×V))(l:Za5)(n:Nat)(_:vs=[.ref x,.int n])(_:H x=some (.ins CP dx fs))(_:fs.lookup ("counts":Str)=some (.ref c))(_:fs.lookup ("opens_ahead":Str)=none)(_:A0 K CC H c l)(_:n<=l.length)(_:∀H',Ag H H'->Q (.int (2*((occ true l n).length:Int)-n)) H')
variable (aR:Mth P w K mg base aa "opens_ahead" 5 ["self","place"] (oU K ab aa))
include T af aR in
theorem Wf (F:Fun K "height" "Heights.height" Gh f fd):Ar P w K mg base CX0 6 f fd ["self","place"] (jL K ab aa):=by
 exists F.ok Oi
 obtain⟨x,dx,c,fs,l,n,rfl,hx,hc,ho,hC,hn,q⟩:=h;refine⟨_,(Ad (Am (Ak B5 (Ak Dz Ae (Aq aR hr.m (pv 0) (tpa (pv 1) Aa))) (pv 1)))),?_⟩;apply⟨x,dx,fs,rfl,hx,ho,?_⟩;apply⟨x,dx,c,fs,l,n,rfl,hx,hc,hC,hn,λH' s=>?_⟩;k_is;exact q H' s
inductive Tz (K:d6)(CB CP:eg)(vs:List V)(H:Hp)(Q:VK)(E:XK):Prop|mk(x dx b:eg)(fs:List (Str×V))(l:Za5)(i j:Nat)(_:vs=[.ref x,.int i,.int j])(_:H x=some (.ins CP dx fs))(_:fs.lookup ("bits":Str)=some (.ref b))(_:Dn K CB H b l)(_:i<=j)(_:j<=l.length)(_:∀H',Ag H H'->Q (.str (Av ((l.drop i).take (j-i)))) H')
include T af in
theorem Wp (F:Fun K "stretch" "Pairs.stretch" G5 f fd)(bP:Mth P w K mg base ac "stretch" 5 ["self","low","high"] (Zz K ac)):Ar P w K mg base CX0 6 f fd ["self","low","high"] (Tz K ac aa):=by
 exists F.ok Ro
 obtain⟨x,dx,b,fs,l,i,j,rfl,hx,hb,hB,hij,hj,q⟩:=h;refine⟨_,(Ad (Am (Aq bP hr.m (tfl (pv 0)) (tpa (pv 1) (tpa (pv 2) Aa))))),?_⟩;apply⟨x,aa,dx,fs,.ref b,rfl,hx,af.cl,af.dr,hb,?_⟩;obtain⟨db,t,hb1,_⟩:=id hB;apply⟨b,db,_,rfl,hb1,rfl,?_⟩;k_is;exact⟨b,l,i,j,rfl,hB,hij,hj,q⟩
def bgH (l:Za5)(t:Nat):Int:=2*((occ true l (t*256)).length:Int)-(t*256:Nat)
def sgH (l:Za5)(t:Nat):Za5:=(l.drop (t*256)).take 256
theorem Aav (l:Za5)(t:Nat):(sgH l t).length<=1000:=by unfold sgH;rw[fi];lia
def Ut (l:Za5)(t:Nat):List Int:=htB (sgH l t) (bgH l t) (sgH l t).length
def yO (l:Za5)(H:Hp)(r:eg)(j:Nat):Prop:=∃mn mx:Int,H r=some (.tup [.int (bgH l j),.int mn,.int mx])/\Mx (Ut l j) mn/\nX (Ut l j) mx
def Si (l:Za5)(H:Hp)(t:eg):Prop:=∃rs:List eg,H t=some (.tup (rs.map V.ref))/\rs.length=(l.length+256-1)/256/\∀(j:Nat) r,rs[j]?=some r->yO l H r j
theorem Si.keep {l:Za5}{t:eg}(k:∀b xs,H b=some (.tup xs)->H' b=some (.tup xs))(h:Si l H t):Si l H' t:=by
 obtain⟨rs,h1,h2,h3⟩:=h;refine⟨rs,k _ _ h1,h2,λj r e=>?_⟩;obtain⟨mn,mx,e1,e2,e3⟩:=h3 j r e;exact⟨mn,mx,k _ _ e1,e2,e3⟩
theorem Si.same {l:Za5}{t:eg}(s:Ag H H')(h:Si l H t):Si l H' t:=h.keep λb xs e=>s _ _ e
def Bj (K:d6)(CB CC CP:eg)(H:Hp)(x:eg)(l:Za5):Prop:=∃(dx b c t:eg) (o:V),H x=some (.ins CP dx (yF (.ref b) (.ref c) (.int (l.length:Nat)) (.ref t) o))/\Dn K CB H b l/\A0 K CC H c l/\Si l H t/\Vs 0 l/\l.length<=8192
theorem Bj.same {K:d6}{x:eg}{l:Za5}(h:Bj K CB CC CP H x l)(s:Ag H H'):Bj K CB CC CP H' x l:=by
 obtain⟨dx,b,c,t,o,h1,h2,h3,h4,h5⟩:=h;exact⟨dx,b,c,t,o,s _ _ h1,h2.same s,h3.same s,h4.same s,h5⟩
inductive gL (K:d6)(CB CC CP:eg)(vs:List V)(H:Hp)(Q:VK)(E:XK):Prop|mk(x:eg)(l:Za5)(_:vs=[.ref x])(_:Bj K CB CC CP H x l)(_:Q (.int (l.length:Nat)) H)
include T af in
theorem Wu (F:Fun K "size" "Heights.size" Hv f fd):Ar P w K mg base CX0 1 f fd ["self"] (gL K ac ab aa):=by
 exists F.ok Sy
 obtain⟨x,l,rfl,⟨dx,b,c,t,o,hx,_⟩,q⟩:=h;refine⟨_,(Ad (Am (tfl (pv 0)))),?_⟩;k_is;exact⟨x,aa,dx,_,_,rfl,hx,af.cl,af.cM,rfl,q⟩
inductive gH (K:d6)(CB CC CP:eg)(vs:List V)(H:Hp)(Q:VK)(E:XK):Prop|mk(x:eg)(l:Za5)(_:vs=[.ref x])(_:Bj K CB CC CP H x l)(_:∀H',Ag H H'->Q (.str (Av l)) H')
variable (aS:Mth P w K mg base aa "stretch" 6 ["self","low","high"] (Tz K ac aa))
include T af aS in
theorem Wv (F:Fun K "text" "Heights.text" Hq f fd):Ar P w K mg base CX0 7 f fd ["self"] (gH K ac ab aa):=by
 exists F.ok Sz
 obtain⟨x,l,rfl,⟨dx,b,c,t,o,hx,hB,hC,_⟩,q⟩:=h;refine⟨_,(Ad (Am (Aq aS hr.m (pv 0) (tpa Ae (tpa (tfl (pv 0)) Aa))))),?_⟩;apply⟨x,dx,_,rfl,hx,rfl,?_⟩;apply⟨x,aa,dx,_,_,rfl,hx,af.cl,af.cM,rfl,?_⟩;apply⟨x,dx,b,_,l,0,l.length,rfl,hx,rfl,hB,gp _,d8 _,λH' s=>?_⟩
 simpa using q H' s
theorem Y5 {x:eg}(hx:H1 x=none)(hd:H1 dx=none)(s:SameBut x (upd (upd H1 dx (.own x)) x (.ins C dx [])) H2):Ag H1 H2:=λb u e=>s b u (Aj e hx) (by rw[Al (Aj e hx),Al (Aj e hd)];exact e)
theorem Ki {K:d6}{x b:eg}{l:Za5}(s:SameBut x H H')(n:Aaf H x)(hne:b≠x)(h:A0 K C H b l):A0 K C H' b l:=by
 obtain⟨dx,t,u,h1,h2,h3,h4⟩:=h;exact⟨dx,t,u,s _ _ hne h1,s _ _ (λe=>by subst e;exact(n _).1 (.inl h2)) h2,s _ _ (λe=>by subst e;exact(n _).1 (.inl h3)) h3,h4⟩
inductive rN (K:d6)(CB CC CP:eg)(vs:List V)(H:Hp)(Q:VK)(E:XK):Prop|mk(x dx:eg)(l:Za5)(_:vs=[.ref x,.str (Av l)])(_:H x=some (.ins CP dx []))(_:Vs 0 l)(_:l.length<=8000)(_:∀H',SameBut x H H'->Bj K CB CC CP H' x l->Q .non H')
variable (aT:Cal P w K mg base "check_row" 1 ["text"] pB) (ar:Mth P w K mg base aa "height" 6 ["self","place"] (jL K ab aa)) (aU:Cal P w K mg base "heights_of" 1 ["text","begin"] Ub)
include T aP aQ af aT ar aU in
theorem W3 (F:Fun K "__init__" "Pairs.__init__" C5 f fd)(Wy:Abi P w K mg base "Heights" "__init__" 1 ["self","length","table","often_least"] (qJ K aa)):Ar P w K mg base CX0 7 f fd ["self","text"] (rN K ac ab aa):=by
 exists F.ok Ex
 obtain⟨x,dx,l,rfl,hx,hV,hl8,q⟩:=h;refine⟨_,(Ab (As (Au aT hr.m (tpa (pv 1) Aa))) (Ab (tsf (pv 0) (Uu aQ hr.m (tpa (pv 1) Aa))) (Ab (tsf (pv 0) (Uu aP hr.m (tpa (tfl (pv 0)) Aa))) (Ab (tst 2 Ex.nd (mP rfl rfl T.c9 rfl T.cN (tpa Ae (tpa (Ao B7 (by rfl) T.cK Ch (tpa (pv 1) Aa)) (tpa (A5 rfl T.cT) Aa))))) (Ab (F7 (i:=3) rfl Sx Ex.nd rfl rfl (Du (pv 2)) (λ_ _ _ _=>Cb) (λ_ _ _ _=>(Aq ar hr.m (pv 1) (tpa (pv 0) Aa)))) (Ab (P4 (i:=4) rfl S7 Ex.nd rfl rfl (eN rfl T.c7 (tpa (pv 2) (tpa (pv 3) Aa))) (λ_ _ _ _=>Cb) (λ_ _ _ _=>(Au aU hr.m (tpa (Cf Lk (pv 2) (B3 (pv 0)) (B3 (Ak Bd (pv 0) (A5 rfl T.cT)))) (tpa (pv 1) Aa))))) (Ab (P4 (i:=5) rfl Td Ex.nd rfl rfl (eN rfl T.c7 (tpa (pv 3) (tpa (pv 4) Aa))) (λ_ _ _ _=>Cb) (λ_ _ _ _=>(N8 (tpa (pv 0) (tpa (Ao (Uh K rfl) (by rfl) T.cW Xe (tpa (pv 1) Aa)) (tpa (Ao (mK K rfl) (by rfl) T.dH Acy (tpa (pv 1) Aa)) Aa)))))) (Ad (As (Adf Wy hr.m rfl (tpa (pv 0) (tpa (Ao B7 (by rfl) T.cK Ch (tpa (pv 1) Aa)) (tpa (Dj Eu (by rfl) T.dh Pk (tpa (pv 5) Aa)) (tpa (Lc rfl S9 (Du (pv 4)) (λ_ _ _ _=>Cb) (λ_ _ _ _=>(Afa K gi PySem.F.slot_list_count PySem.F.type_list_count sN (pv 0) (tpa (Ao (Uh K rfl) (by rfl) T.cW Xe (tpa (pv 0) Aa)) Aa)))) Aa)))))))))))))),?_⟩
 apply⟨l,rfl,hV,hl8,λH1 s1=>?_⟩;have hl:l.length<=8192:=by lia
 have hx1:=s1 _ _ hx;k_is;intro b db hb hdb hbd;refine⟨b,db,l,rfl,Af,by lia,λH2 s2 hB2=>⟨rfl,?_⟩⟩;have s2:=Y5 hb hdb s2;have hx2:=s2 _ _ hx1;have nbx:b≠x:=(Aj hx1 hb).symm;apply Dr hx2 af.cl af.dr (show 0<1000 by decide) ?_;rw[show F9 ("bits":Str) (V.ref b) []=(O4 (.ref b)) from rfl];have hB3:Dn K ac (upd H2 x (.ins aa dx (O4 (.ref b)))) b l:=Hi A8 (Fl hx2) nbx hB2;have hx3:=@Af H2 x (.ins aa dx (O4 (.ref b)));have b3:SameBut x H2 (upd H2 x (.ins aa dx (O4 (.ref b)))):=A8;generalize upd H2 x _=H3 at *;apply⟨x,aa,dx,_,.ref b,rfl,hx3,af.cl,af.dr,rfl,?_⟩;k_is;intro c dc hc hdc hcd;refine⟨c,dc,b,l,rfl,Af,hB3.same (Lj hc hdc),λH4 s4 hC4=>⟨rfl,?_⟩⟩;have s4:=Y5 hc hdc s4;have hx4:=s4 _ _ hx3;have ncx:c≠x:=(Aj hx3 hc).symm;have hB4:=hB3.same s4;apply Dr hx4 af.cl af.dy (show 1<1000 by decide) ?_;rw[show F9 ("counts":Str) (V.ref c) (O4 (.ref b))=Kh (.ref b) (.ref c) from rfl];have hB5:Dn K ac (upd H4 x (.ins aa dx (Kh (.ref b) (.ref c)))) b l:=Hi A8 (Fl hx4) nbx hB4;have hC5:A0 K ab (upd H4 x (.ins aa dx (Kh (.ref b) (.ref c)))) c l:=Ki A8 (Fl hx4) ncx hC4;have hx5:=@Af H4 x (.ins aa dx (Kh (.ref b) (.ref c)));have b5:SameBut x H4 (upd H4 x (.ins aa dx (Kh (.ref b) (.ref c)))):=A8;have but5:SameBut x H (upd H4 x (.ins aa dx (Kh (.ref b) (.ref c)))):=(((s1.trans s2).but.trans b3).trans s4.but).trans b5;generalize upd H4 x _=H5 at *;apply⟨_,rfl,f9 (Ai (by rw[A6];lia)),?_⟩;rw[A6];apply⟨l.length,256,rfl,by lia,by decide,by decide,λlo hlo=>?_⟩;obtain⟨u6,hlo6⟩:=A4 (o:=.lst ((fb ((l.length+256-1)/256)).map λt:Nat=>V.int (t*256:Nat))) hlo;have hx6:=u6 _ _ hx5;have hB6:=hB5.same u6;have hC6:=hC5.same u6;have but6:=but5.trans u6.but;generalize upd H5 lo _=H6 at *;obtain⟨m,hm⟩:∃m,(l.length+256-1)/256=m:=⟨_,rfl⟩;rw[hm] at hlo6;have hll:((fb m).map λt:Nat=>V.int (t*256:Nat)).length=m:=by rw[d7,fe]
 apply⟨lo,rfl,⟨_,SqL.of hlo6⟩,?_⟩;refine O9 (xs:=(fb m).map λt:Nat=>V.int (t*256:Nat)) (SqL.of hlo6) (λi=>(fb i).map λt:Nat=>V.int (bgH l t)) rfl (λi hi=>?_) (λi y H7 R A hy s7 _ hA=>?_) (λD7 H7 hD7 s7 h7=>?_)
 ·rw[d7,fe]
  exact Ai (by lia)
 ·have hi:i<m:=by have:=Bq hy;rw[hll] at this;exact this
  rw[d9,gd hi] at hy;obtain rfl:y=V.int (i*256:Nat):=(ee hy).symm;apply⟨x,dx,_,rfl,s7 _ _ hx6,rfl,?_⟩;apply⟨x,dx,c,_,l,i*256,rfl,s7 _ _ hx6,rfl,rfl,hC6.same s7,by lia,λH8 s8=>?_⟩;refine hA _ _ ?_ s8;rw[je,fj];rfl
 rw[hll] at h7;have hx7:=s7 _ _ hx6;have hB7:=hB6.same s7;have hC7:=hC6.same s7;have but7:=but6.trans s7.but;have hlo7:=s7 _ _ hlo6;have hbl:((fb m).map λt:Nat=>V.int (bgH l t)).length=m:=by rw[d7,fe]
 apply⟨lo,D7,rfl,⟨_,SqL.of hlo7⟩,⟨_,SqL.of h7⟩,?_⟩;refine eK (SqL.of hlo7) (SqL.of h7) (λD i zs H'=>∃rs:List eg,zs=rs.map V.ref/\rs.length=i/\∀(j:Nat) r,rs[j]?=some r->r≠D/\H' r=some (.lst ((Ut l j).map V.int))) (λD H' _ _=>⟨[],rfl,rfl,λj r e=>by cases e⟩) ?_ ?_ ?_ ?_ ?_
 ·rintro D i zs H' us o hD ⟨rs,e1,e2,e3⟩
  exact⟨rs,e1,e2,λj r e=>⟨(e3 j r e).1,by rw[Al (e3 j r e).1];exact(e3 j r e).2⟩⟩
 ·rintro D i zs H' hi ⟨rs,rfl,e2,e3⟩
  rw[d7,e2];rw[hll,hbl] at hi;exact Ai (by lia)
 ·rintro D i zs H' H'' s ⟨rs,e1,e2,e3⟩
  exact⟨rs,e1,e2,λj r e=>⟨(e3 j r e).1,s _ _ (e3 j r e).2⟩⟩
 ·intro D i zs y y2 H8 A R hy hy2 s8 hD0 hD8 hPv hA
  obtain⟨rs,rfl,e2,e3⟩:=hPv;have hi:i<m:=by have:=Bq hy;rw[hll] at this;exact this
  rw[d9,gd hi] at hy hy2;obtain rfl:y=V.int (i*256:Nat):=(ee hy).symm;obtain rfl:y2=V.int (bgH l i):=(ee hy2).symm;apply⟨_,rfl,f9 (Ai (by rw[A6];lia)),?_⟩;k_is;have ec:Kw (Av l) (some ((i*256:Nat):Int)) (some (((i*256:Nat):Int)+256))=Av (sgH l i):=by
   have:=P8 l (i*256) (i*256+256);rw[iy] at this;exact this
  rw[ec];refine⟨sgH l i,bgH l i,rfl,Aav l i,λp H9 s9 hp h9=>?_⟩;refine hA _ _ s9 ⟨rs++[p],by rw[fj];rfl,by rw[eh,e2];rfl,λj r e=>?_⟩
  by_cases hj:j<rs.length
  ·rw[f7 hj] at e
   exact⟨(e3 j r e).1,s9 _ _ (e3 j r e).2⟩
  ·have hj2:=Bq e
   rw[eh] at hj2;have hj3:j=rs.length:=by simp at hj2;lia
   subst hj3;rw[ft (d8 _),j0] at e;obtain rfl:p=r:=ee e;rw[e2];exact⟨(Aj hD8 hp).symm,h9⟩
 ·intro D8 zs H8 hD8 s8 hPv h8
  obtain⟨rs,rfl,e2,e3⟩:=hPv;rw[hll,hbl,rb] at e2;have hx8:=s8 _ _ hx7;have hB8:=hB7.same s8;have hC8:=hC7.same s8;have but8:=but7.trans s8.but;have h78:=s8 _ _ h7;have hrl:(rs.map V.ref).length=m:=by rw[d7,e2]
  have hne:∀i,i<m->Ut l i≠[]:=λi hi e=>by
   have e:=congrArg yq e;unfold Ut htB hts sgH at e;simp at e;lia
  apply⟨D7,D8,rfl,⟨_,SqL.of h78⟩,⟨_,SqL.of h8⟩,?_⟩;refine eK (SqL.of h78) (SqL.of h8) (λD i zs H'=>∃ts:List eg,zs=ts.map V.ref/\ts.length=i/\∀(j:Nat) r,ts[j]?=some r->yO l H' r j) (λD H' _ _=>⟨[],rfl,rfl,λj r e=>by cases e⟩) ?_ ?_ ?_ ?_ ?_
  ·rintro D i zs H' us o hD ⟨ts,e1,e2,e3⟩
   refine⟨ts,e1,e2,λj r e=>?_⟩;obtain⟨mn,mx,h1,h2⟩:=e3 j r e;exact⟨mn,mx,by rw[Al (λz=>by rw[z,hD] at h1;cases h1)];exact h1,h2⟩
  ·rintro D i zs H' hi ⟨ts,rfl,e2,e3⟩
   rw[hbl,hrl] at hi;rw[d7,e2];exact Ai (by lia)
  ·rintro D i zs H' H'' s ⟨ts,e1,e2,e3⟩
   refine⟨ts,e1,e2,λj r e=>?_⟩;obtain⟨mn,mx,h1,h2⟩:=e3 j r e;exact⟨mn,mx,s _ _ h1,h2⟩
  ·intro D i zs y y2 H9 A R hy hy2 s9 hD0 hD9 hPv hA
   obtain⟨ts,rfl,ts2,ts3⟩:=hPv;have hi:i<m:=by have:=Bq hy;rw[hbl] at this;exact this
   rw[d9,gd hi] at hy;obtain rfl:y=V.int (bgH l i):=(ee hy).symm;have er:rs[i]?=some (rs[i]'(by lia)):=d4 _;generalize rs[i]'(by lia)=r at er;rw[d9,er] at hy2;obtain rfl:y2=V.ref r:=(ee hy2).symm;have hr9:=s9 _ _ (e3 i r er).2;apply⟨r,Ut l i,rfl,SqL.of hr9,hne i hi,λmn hmn=>?_⟩;apply⟨r,Ut l i,rfl,SqL.of hr9,hne i hi,λmx hmx=>?_⟩;apply⟨few (by simp),λtp htp=>?_⟩;refine hA _ _ (An htp) ⟨ts++[tp],by rw[fj];rfl,by rw[eh,ts2];rfl,λj q e=>?_⟩
   by_cases hj:j<ts.length
   ·rw[f7 hj] at e
    obtain⟨mn',mx',h1,h2⟩:=ts3 j q e;exact⟨mn',mx',An htp _ _ h1,h2⟩
   ·have hj2:=Bq e
    rw[eh] at hj2;have hj3:j=ts.length:=by simp at hj2;lia
    subst hj3;rw[ft (d8 _),j0] at e;obtain rfl:tp=q:=ee e;rw[ts2];exact⟨mn,mx,Af,hmn,hmx⟩
  ·intro D9 zs H9 hD9 s9 hPv h9
   rw[hbl,hrl,rb] at hPv;obtain⟨ts,rfl,ts2,ts3⟩:=hPv;have hx9:=s9 _ _ hx8;have hB9:=hB8.same s9;have hC9:=hC8.same s9;have but9:=but8.trans s9.but;have h89:=s9 _ _ h8;apply⟨_,rfl,f9 (Ai (by rw[A6];lia)),?_⟩;rw[A6];apply⟨D9,_,rfl,.inl ⟨SqL.of h9,λtq htq=>?_⟩⟩;have s10:=An (o:=.tup (ts.map V.ref)) htq;have hx10:=s10 _ _ hx9;have hB10:=hB9.same s10;have hC10:=hC9.same s10;have but10:=but9.trans s10.but;have h810:=s10 _ _ h89;have e310:∀(j:Nat) r,rs[j]?=some r->upd H9 tq (.tup (ts.map V.ref)) r=some (.lst ((Ut l j).map V.int)):=λj r e=>s10 _ _ (s9 _ _ (e3 j r e).2);have hTab10:Si l (upd H9 tq (.tup (ts.map V.ref))) tq:=⟨ts,Af,by rw[ts2,hm],λj r e=>by
    obtain⟨mn,mx,h1,h2⟩:=ts3 j r e;exact⟨mn,mx,s10 _ _ h1,h2⟩⟩
   generalize upd H9 tq _=H10 at *;apply⟨D8,rfl,⟨_,SqL.of h810⟩,?_⟩;refine T3 (SqL.of h810) (λi ys H'=>ys.length=i) (λ_ _=>rfl) (λi ys H' D zs o _ h=>h) (λi ys H' hi h=>?_) ?_ ?_
   ·rw[hrl] at hi
    rw[h];exact Ai (by lia)
   ·intro i ys y H11 A R hy s11 hPv hA
    have hi:i<m:=by have:=Bq hy;rw[hrl] at this;exact this
    have er:rs[i]?=some (rs[i]'(by lia)):=d4 _;generalize rs[i]'(by lia)=r at er;rw[d9,er] at hy;obtain rfl:y=V.ref r:=(ee hy).symm;have hr:=s11 _ _ (e310 i r er);apply⟨.inl ⟨rfl,_,SqL.of hr⟩,?_⟩;apply⟨r,Ut l i,rfl,SqL.of hr,hne i hi,λmn _=>?_⟩;apply⟨r,_,_,rfl,rfl,hr,Fn _,rfl,?_⟩;exact hA _ _ (Ag.refl _) (by rw[eh,hPv];rfl)
   ·intro D12 ys H12 hD12 s12 hPv h12
    have hx12:=s12 _ _ hx10;apply⟨x,dx,.ref b,.ref c,.int (l.length:Nat),.ref tq,.ref D12,rfl,hx12,?_⟩;exact q _ ((but10.trans s12.but).trans A8) ⟨dx,b,c,tq,_,Af,Hi A8 (Fl hx12) nbx (hB10.same s12),Ki A8 (Fl hx12) ncx (hC10.same s12),(hTab10.same s12).keep (λb2 xs e=>by rw[Al (λz=>by rw[z,hx12] at e;cases e)];exact e),hV,hl⟩
theorem Pd (l:Za5)(i:Nat):2*((occ true l i).length:Int)-(i:Int)=hgt l i:=by
 unfold hgt;rw[(Ms l i).1];rfl
theorem Abr (l:Za5)(a m j:Nat)(hj:j<=m):hgt l a+hgt ((l.drop a).take m) j=hgt l (a+j):=by
 unfold hgt;rw[xc,n9,oq,io hj];lia
def hw (l:Za5)(lo hi:Nat):List Int:=(fb (hi-lo)).map λj=>hgt l (lo+j+1)
theorem Ul (l:Za5)(lo hi:Nat):(hw l lo hi).length=hi-lo:=by unfold hw;rw[d7,fe]
theorem zU {l:Za5}{lo hi j:Nat}(h:j<hi-lo):(hw l lo hi)[j]?=some (hgt l (lo+j+1)):=by unfold hw;rw[d9,gd h];rfl
theorem Ag3 {l:Za5}{lo hi:Nat}{x:Int}(h:x∈hw l lo hi):∃i,lo<i/\i<=hi/\hgt l i=x:=by
 unfold hw at h;obtain⟨j,hj,e⟩:=lp.mp h;have:=jm.mp hj;exact⟨lo+j+1,by lia,by lia,e⟩
theorem Uf {l:Za5}{lo hi i:Nat}(h1:lo<i)(h2:i<=hi):hgt l i∈hw l lo hi:=by
 unfold hw;exact lp.mpr ⟨i-lo-1,jm.mpr (by lia),by rw[show lo+(i-lo-1)+1=i by lia]⟩
theorem wZ {l:Za5}{lo hi:Nat}(h1:lo<=hi)(h2:hi<=l.length):htB ((l.drop lo).take (hi-lo)) (hgt l lo) ((l.drop lo).take (hi-lo)).length=hw l lo hi:=by
 have e:((l.drop lo).take (hi-lo)).length=hi-lo:=by rw[fi,ic];lia
 rw[e];unfold htB hts hw;rw[jf];refine jc λj hj=>?_;have:=jm.mp hj;show hgt l lo+hgt ((l.drop lo).take (hi-lo)) (j+1)=_;rw[Abr l lo (hi-lo) (j+1) (by lia)];rfl
theorem Adz (l:Za5)(t:Nat):bgH l t=hgt l (t*256):=Pd l (t*256)
def X2 (l:Za5)(t:Nat):Nat:=min ((t+1)*256) l.length
theorem pX {l:Za5}{t:Nat}(h:t*256<=l.length):Ut l t=hw l (t*256) (X2 l t):=by
 have e:sgH l t=(l.drop (t*256)).take (X2 l t-t*256):=by
  unfold sgH X2
  by_cases h2:(t+1)*256<=l.length
  ·rw[io h2,show(t+1)*256-t*256=256 by lia]
  ·rw[rm (by lia),fw (by rw[ic];lia),fw (by rw[ic];exact d8 _)]
 unfold Ut;rw[e,Adz];exact wZ (by unfold X2;lia) (by unfold X2;lia)
inductive Sq(vs:List V)(H:Hp)(Q:VK)(E:XK):Prop|mk(x:V)(p:Nat)(_:vs=[x,.int p])(_:Q (.int ((p/256:Nat):Int)) H)
include T af in
theorem Q8 (F:Fun K "stretch_at" "Pairs.stretch_at" E9 f fd):Ar P w K mg base CX0 1 f fd ["self","place"] Sq:=by
 exists F.ok M1
 obtain⟨x,p,rfl,q⟩:=h;refine⟨_,(Ad (Am (Ak Cs (pv 1) (A5 rfl T.cT)))),?_⟩;k_is;rw[show((p:Int)/256)=((p/256:Nat):Int) by lia];exact q
inductive Rn (K:d6)(CB CC CP:eg)(vs:List V)(H:Hp)(Q:VK)(E:XK):Prop|mk(x:eg)(l:Za5)(n:Nat)(_:vs=[.ref x,.int n])(_:Bj K CB CC CP H x l)(_:Q (.int ((min (n*256) l.length:Nat):Int)) H)
include T af in
theorem Wj (F:Fun K "begin_of" "Pairs.begin_of" Ge f fd):Ar P w K mg base CX0 1 f fd ["self","number"] (Rn K ac ab aa):=by
 exists F.ok Oo
 obtain⟨x,l,n,rfl,⟨dx,b,c,t,o,hx,_⟩,q⟩:=h;refine⟨_,(Ad (Am (Ao (R0 rfl) (by rfl) T.cW Xe (tpa (Ak Dz (pv 1) (A5 rfl T.cT)) (tpa (tfl (pv 0)) Aa))))),?_⟩;apply⟨x,aa,dx,_,_,rfl,hx,af.cl,af.cM,rfl,?_⟩;apply⟨_,_,rfl,?_⟩;have e:(if(l.length:Int)<(n:Int)*256 then(l.length:Int) else(n:Int)*256)=((min (n*256) l.length:Nat):Int):=by
  split<;>lia
 rw[e];exact q
def pM (lo hi:Nat):Nat:=if lo<hi then(hi-1)/256-lo/256+1 else 0
def loN (lo i:Nat):Nat:=if i=0 then lo else(lo/256+i)*256
def hiN (lo hi i:Nat):Nat:=if i=(hi-1)/256-lo/256 then hi else(lo/256+i+1)*256
def pLo (lo hi:Nat):Za4:=(fb (pM lo hi)).map (loN lo)
def pHi (lo hi:Nat):Za4:=(fb (pM lo hi)).map (hiN lo hi)
theorem Mv (lo hi:Nat):(pLo lo hi).length=pM lo hi:=by unfold pLo;rw[d7,fe]
theorem Tr (lo hi:Nat):(pHi lo hi).length=pM lo hi:=by unfold pHi;rw[d7,fe]
theorem Th {lo hi i:Nat}(h:i<pM lo hi):lo<=loN lo i/\loN lo i<hiN lo hi i/\hiN lo hi i<=hi/\loN lo i/256=lo/256+i/\hiN lo hi i<=(lo/256+i+1)*256/\lo<hi:=by
 unfold pM at h;split at h
 ·unfold loN hiN
  split<;>split<;>lia
 ·lia
theorem Nt {lo hi:Nat}(h:lo<hi):loN lo 0=lo/\0<pM lo hi:=⟨rfl,by unfold pM;rw[if_pos h];lia⟩
theorem Rw {lo hi i:Nat}(h:i+1<pM lo hi):hiN lo hi i=loN lo (i+1):=by
 unfold pM at h;split at h
 ·unfold loN hiN
  rw[if_neg (by lia),if_neg (by lia),l6]
 ·lia
theorem P6 {lo hi i:Nat}(h:i+1=pM lo hi):hiN lo hi i=hi:=by
 unfold pM at h;split at h
 ·unfold hiN
  rw[if_pos (by lia)]
 ·lia
inductive qL (K:d6)(CB CC CP:eg)(vs:List V)(H:Hp)(Q:VK)(E:XK):Prop|mk(x:eg)(l:Za5)(lo:Nat)(hi:Int)(_:vs=[.ref x,.int lo,.int hi])(_:Bj K CB CC CP H x l)(_:hi<=(l.length:Int))(_:∀p as H',Ag H H'->H p=none->H' p=some (.lst (as.map V.ref))->Afl H H' as (nV (pLo lo hi.toNat)) (nV (pHi lo hi.toNat))->Q (.ref p) H')
variable (au:Mth P w K mg base aa "stretch_at" 1 ["self","place"] Sq) (aL:Mth P w K mg base aa "begin_of" 1 ["self","number"] (Rn K ac ab aa))
include T af au aL in
theorem Wk (F:Fun K "parts" "Heights.parts" Ez f fd):Ar P w K mg base CX0 2 f fd ["self","low","high"] (qL K ac ab aa):=by
 exists F.ok Ju
 obtain⟨x,l,lo,hi,rfl,hP,hl,q⟩:=h;obtain⟨dx,b,c,t,o,hx,_,_,_,_,hl8⟩:=id hP;refine⟨_,(Ab (Bm (ttc pG (pv 1) (pv 2)) (Ad (Am (Bn Aa)))
  Aw) (Ab (F7 (i:=3) rfl N6 Ju.nd rfl rfl (Zn rfl T.cN (tpa (Ak Bd (Aq au hr.m (pv 0) (tpa (pv 1) Aa)) Ae) (tpa (Ak Bd (Aq au hr.m (pv 0) (tpa (Ak B5 (pv 2) Ae) Aa)) Ae) Aa))) (λ_ _ _ _=>Cb) (λ_ _ _ _=>(Aq aL hr.m (pv 1) (tpa (pv 0) Aa)))) (Ad (Am (Aaw rfl rfl T.c9 rfl T.c7 (tpa (Ak Ix (Bn (tpa (pv 1) Aa)) (pv 3)) (tpa (Ak Ix (pv 3) (Bn (tpa (pv 2) Aa))) Aa))))))),?_⟩
 apply Bo (λh0=>?_) (λh0=>?_)
 ·apply⟨gp _,λp hp=>?_⟩;have e:pM lo hi.toNat=0:=by unfold pM;rw[if_neg (by lia)]
  refine q p [] _ (An hp) hp Af ⟨?_,λi t x y e=>by cases e⟩;unfold pLo;rw[e];rfl
 ·obtain⟨hn,rfl⟩:∃hn:Nat,hi=(hn:Int):=⟨hi.toNat,by lia⟩
  rw[gw] at q;have hlt:lo<hn:=by lia
  obtain⟨k1,hk1⟩:∃k1,lo/256=k1:=⟨_,rfl⟩;obtain⟨k2,hk2⟩:∃k2,(hn-1)/256=k2:=⟨_,rfl⟩;have hk12:k1<=k2:=by lia
  have hk33:k2<=31:=by lia
  apply⟨x,dx,_,rfl,hx,rfl,?_⟩;apply⟨.ref x,lo,rfl,?_⟩;rw[hk1];apply⟨x,dx,_,rfl,hx,rfl,?_⟩;apply⟨.ref x,hn-1,by rw[show((hn-1:Nat):Int)=(hn:Int)-1 by lia];rfl,?_⟩;rw[hk2];apply⟨_,_,rfl,⟨by lia,by lia,by lia,by lia⟩,?_⟩;rw[show((k2:Int)+1-((k1:Int)+1)).toNat=k2-k1 by lia];refine Jy (λi=>nV ((fb i).map λj=>(k1+1+j)*256)) rfl (λi hi=>?_) (λi H1 R A hi s1 _ hA=>?_) (λD1 H1 hD1 s1 h1=>?_)
  ·rw[Bw,d7,fe]
   exact Ai (by lia)
  ·apply⟨x,dx,_,rfl,s1 _ _ hx,rfl,?_⟩;apply⟨x,l,k1+1+i,by rw[show((k1+1+i:Nat):Int)=(k1:Int)+1+(i:Int) by lia];rfl,hP.same s1,?_⟩;refine hA _ _ ?_ (Ag.refl _);rw[io (by lia),je,fj];unfold nV;rw[fj];rfl
  apply⟨few (by simp),λa1 ha1=>?_⟩;obtain⟨t1,e1⟩:=A4 (o:=.lst [V.int (lo:Int)]) ha1;have h12:=t1 _ _ h1;have s2:=s1.trans t1;generalize upd H1 a1 _=H2 at *;obtain⟨cs,hcs⟩:∃cs,cs=(fb (k2-k1)).map λj=>(k1+1+j)*256:=⟨_,rfl⟩;have hcl:cs.length=k2-k1:=by rw[hcs,d7,fe]
  rw[<-hcs] at h12;apply⟨a1,D1,_,_,rfl,rfl,e1,h12,f9 (Ai (by rw[Bw,hcl,ja];lia)),λa2 ha2=>?_⟩;have t2:=An (o:=.lst ([V.int (lo:Int)]++nV cs)) ha2;have e2:upd H2 a2 (.lst ([V.int (lo:Int)]++nV cs)) a2=some (.lst (nV (lo::cs))):=Af;have h13:=t2 _ _ h12;have s3:=s2.trans t2;generalize upd H2 a2 _=H3 at *;apply⟨few (by simp),λa3 ha3=>?_⟩;obtain⟨t3,e3⟩:=A4 (o:=.lst [V.int (hn:Int)]) ha3;have h14:=t3 _ _ h13;have e23:=t3 _ _ e2;have s4:=s3.trans t3;generalize upd H3 a3 _=H4 at *;apply⟨D1,a3,_,_,rfl,rfl,h14,e3,f9 (Ai (by rw[Bw,hcl,ja];lia)),λa4 ha4=>?_⟩;have t4:=An (o:=.lst (nV cs++[V.int (hn:Int)])) ha4;have e4:upd H4 a4 (.lst (nV cs++[V.int (hn:Int)])) a4=some (.lst (nV (cs++[hn]))):=by rw[Af,<-yT];rfl
  have e24:=t4 _ _ e23;have s5:=s4.trans t4;generalize upd H4 a4 _=H5 at *;have hpm:pM lo hn=k2-k1+1:=by unfold pM;rw[if_pos hlt,hk1,hk2]
  have eLo:lo::cs=pLo lo hn:=by
   refine l8 λi=>?_;unfold pLo;rw[hpm]
   by_cases hi:i<k2-k1+1
   ·rw[d9,gd hi]
    cases i with
    |zero=>rfl
    |succ i=>
     rw[List.getElem?_cons_succ,hcs,d9,gd (by lia)];show some ((k1+1+i)*256)=some ((lo/256+(i+1))*256);rw[hk1,show k1+1+i=k1+(i+1) by lia]
   ·rw[ij (by rw[gn,hcl];lia),ij (by rw[d7,fe];lia)]
  have eHi:cs++[hn]=pHi lo hn:=by
   refine l8 λi=>?_;unfold pHi;rw[hpm]
   by_cases hi:i<k2-k1+1
   ·rw[d9,gd hi]
    show _=some (hiN lo hn i);unfold hiN;rw[hk1,hk2]
    by_cases h2:i=k2-k1
    ·rw[if_pos h2,ft (by lia),h2,hcl,j0]
     rfl
    ·rw[if_neg h2,f7 (by lia),hcs,d9,gd (by lia)]
     show some ((k1+1+i)*256)=_;rw[show k1+1+i=k1+i+1 by lia]
   ·rw[ij (by rw[eh,hcl,ja];lia),ij (by rw[d7,fe];lia)]
  rw[eLo] at e24;rw[eHi] at e4;apply⟨a2,a4,_,_,rfl,SqL.of e24,SqL.of e4,by rw[Bw,Bw,Mv,Tr],λp as H6 s6 hp0 hp hN=>?_⟩;refine q p as H6 (s5.trans s6) (s5.free hp0) hp ⟨hN.1,λi t' x' y' g1 g2 g3=>?_⟩;obtain⟨n1,n2⟩:=hN.2 i t' x' y' g1 g2 g3;exact⟨s5.free n1,n2⟩
inductive Rm (K:d6)(CB CC CP:eg)(vs:List V)(H:Hp)(Q:VK)(E:XK):Prop|mk(x:eg)(l:Za5)(lo:Nat)(h:Int)(_:vs=[.ref x,.int lo,.int h])(_:Bj K CB CC CP H x l)(_:lo<l.length)(_:∀b:Bool,(b=false->∀i,lo/256*256<i->i<=X2 l (lo/256)->hgt l i≠h)->Q (.bl b) H)
include T af au in
theorem Qw (F:Fun K "may_meet" "Heights.may_meet" E5 f fd):Ar P w K mg base CX0 2 f fd ["self","low","height"] (Rm K ac ab aa):=by
 exists F.ok G6
 obtain⟨x,l,lo,h,rfl,hP,hl,q⟩:=h;obtain⟨dx,b,c,t,o,hx,_,_,⟨rs,ht,hrl,hrs⟩,_,hl8⟩:=id hP;refine⟨_,(Ab (tst 3 G6.nd (tix Bs (tfl (pv 0)) (Aq au hr.m (pv 0) (tpa (pv 1) Aa)))) (Ad (Am (lB rR rR (tix Bs (pv 3) Ae) (pv 2) (tix Bs (pv 3) Ae))))),?_⟩
 apply⟨x,aa,dx,_,_,rfl,hx,af.cl,af.cQ,rfl,?_⟩;apply⟨x,dx,_,rfl,hx,rfl,?_⟩;apply⟨.ref x,lo,rfl,?_⟩;have hj:lo/256<rs.length:=by lia
 obtain⟨mn,mx,hr1,hmn,hmx⟩:=hrs _ _ (d4 hj);rw[pX (by lia)] at hmn hmx;apply Cd (SqT.of ht) (A7 (by rw[d9,d4 hj];rfl)) ?_;apply Cd (SqT.of hr1) (v:=.int mn) rfl ?_;k_is
 by_cases h1:mn<=h
 ·rw[decide_eq_true h1]
  apply Cd (SqT.of hr1) (v:=.int mx) rfl ?_;apply q _ λhb i hi1 hi2 he=>?_;have:=hmx.2 _ (Uf (l:=l) hi1 hi2);rw[he] at this;rw[decide_eq_true this] at hb;cases hb
 ·rw[decide_eq_false h1]
  apply q false λ_ i hi1 hi2 he=>?_;have:=hmn.2 _ (Uf (l:=l) hi1 hi2);lia
inductive Yr (K:d6)(CB CC CP:eg)(vs:List V)(H:Hp)(Q:VK)(E:XK):Prop|mk(x:eg)(l:Za5)(lo hi:Nat)(_:vs=[.ref x,.int lo,.int hi])(_:Bj K CB CC CP H x l)(_:lo<=hi)(_:hi<=l.length)(_:hi-lo<=1000)(_:∀p H',Ag H H'->H p=none->H' p=some (.lst ((hw l lo hi).map V.int))->Q (.ref p) H')
include T af aS ar aU in
theorem Qh (F:Fun K "heights_within" "Heights.heights_within" Cv f fd):Ar P w K mg base CX0 7 f fd ["self","low","high"] (Yr K ac ab aa):=by
 exists F.ok Ic
 obtain⟨x,l,lo,hi,rfl,hP,h1,h2,h3,q⟩:=h;obtain⟨dx,b,c,t,o,hx,hB,hC,_⟩:=id hP;refine⟨_,(Ad (Am (Au aU hr.m (tpa (Aq aS hr.m (pv 0) (tpa (pv 1) (tpa (pv 2) Aa))) (tpa (Aq ar hr.m (pv 0) (tpa (pv 1) Aa)) Aa))))),?_⟩;apply⟨x,dx,_,rfl,hx,rfl,?_⟩;apply⟨x,dx,b,_,l,lo,hi,rfl,hx,rfl,hB,h1,h2,λH1 s1=>?_⟩;apply⟨x,dx,_,rfl,s1 _ _ hx,rfl,?_⟩;apply⟨x,dx,c,_,l,lo,rfl,s1 _ _ hx,rfl,rfl,hC.same s1,by lia,λH2 s2=>?_⟩;rw[Pd];apply⟨(l.drop lo).take (hi-lo),hgt l lo,rfl,by rw[fi];lia,λp H3 s3 hp0 hp=>?_⟩;rw[wZ h1 h2] at hp;have s12:=s1.trans s2;exact q p H3 (s12.trans s3) (s12.free hp0) hp
def Sd (l:Za5)(lo hi:Nat)(h:Int):Option Nat->Prop
 |some j=>lo<j/\j<=hi/\hgt l j=h/\∀i,lo<i->i<j->hgt l i≠h
 |none=>∀i,lo<i->i<=hi->hgt l i≠h
def Af9 (l:Za5)(lo hi:Nat)(h:Int):Option Nat->Prop
 |some j=>lo<j/\j<=hi/\hgt l j=h/\∀i,j<i->i<=hi->hgt l i≠h
 |none=>∀i,lo<i->i<=hi->hgt l i≠h
def Uy:Option Nat->V
 |some j=>.int (j:Nat)
 |none=>.non
theorem Vi:∀{ns:List Int} {x:Int},x∈ns->∃j:Nat,ns[j]?=some x/\∀i:Nat,i<j->ns[i]?≠some x
 |y::ns,x,h=>by
  by_cases e:y=x
  ·exact⟨0,by rw[e];rfl,λi hi=>absurd hi (zd _)⟩
  ·obtain⟨j,h1,h2⟩:=Vi (List.mem_of_ne_of_mem (λz=>e z.symm) h)
   refine⟨j+1,h1,λi hi=>?_⟩
   cases i with
   |zero=>exact λz=>e (ee z)
   |succ i=>exact h2 i (by lia)
theorem rJ {w:List Int}{e:Int}:inV (.int e) (w.map V.int)=decide (e∈w):=by
 unfold inV;rw[List.any_map]
 by_cases h:e∈w
 ·rw[decide_eq_true h,ED]
  exact⟨e,h,by simp[eqV]⟩
 ·rw[decide_eq_false h]
  refine DM.mpr λhc=>?_;obtain⟨x,hx,hxe⟩:=ED.mp hc;have:x=e:=by simpa [eqV] using hxe
  exact h (this▸hx)
inductive qA (K:d6)(CB CC CP:eg)(vs:List V)(H:Hp)(Q:VK)(E:XK):Prop|mk(x:eg)(l:Za5)(lo hi:Nat)(h:Int)(_:vs=[.ref x,.int lo,.int hi,.int h])(_:Bj K CB CC CP H x l)(_:lo<=hi)(_:hi<=l.length)(_:hi-lo<=1000)(_:∀r H',Sd l lo hi h r->Ag H H'->Q (Uy r) H')
variable (aF:Mth P w K mg base aa "heights_within" 7 ["self","low","high"] (Yr K ac ab aa))
include T af aF in
theorem Ql (F:Fun K "next_within" "Heights.next_within" Dp f fd):Ar P w K mg base CX0 8 f fd ["self","low","high","height"] (qA K ac ab aa):=by
 exists F.ok Fq
 obtain⟨x,l,lo,hi,h,rfl,hP,h1,h2,h3,q⟩:=h;obtain⟨dx,b,c,t,o,hx,_⟩:=id hP;refine⟨_,(Ab (tst 4 Fq.nd (Aq aF hr.m (pv 0) (tpa (pv 1) (tpa (pv 2) Aa)))) (Ad (Am (Ca (To Y2 (pv 3) (pv 4) rfl) (Ak Bd (Ak Bd (pv 1) Ae) (Cj gi zg zf iM (pv 4) (tpa (pv 3) Aa))) Ek)))),?_⟩
 apply⟨x,dx,_,rfl,hx,rfl,?_⟩;apply⟨x,l,lo,hi,rfl,hP,h1,h2,h3,λp H1 s1 hp0 hp=>?_⟩;apply⟨p,_,rfl,.inl (SqL.of hp),rfl,Fn _,?_⟩;rw[rJ]
 by_cases hm:h∈hw l lo hi
 ·rw[decide_eq_true hm,show(if false=true then !true else true)=true by decide]
  obtain⟨j,hj,hno⟩:=Vi hm;have hjl:=Bq hj;rw[Ul] at hjl;apply⟨.inl ⟨rfl,_,SqL.of hp⟩,?_⟩;apply⟨p,_,h,j,rfl,rfl,hp,hj,hno,?_⟩;k_is;rw[zU hjl] at hj;have:=q (some (lo+j+1)) H1 ⟨by lia,by lia,ee hj,λi hi1 hi2 he=>?_⟩ s1
  ·rw[show Uy (some (lo+j+1))=V.int ((lo:Int)+1+(j:Int)) by show V.int _=_;congr 1;lia] at this
   exact this
  ·refine hno (i-lo-1) (by lia) ?_
   rw[zU (by lia),show lo+(i-lo-1)+1=i by lia,he]
 ·rw[decide_eq_false hm,show(if false=true then !false else false)=false by decide]
  k_is;exact q none H1 (λi hi1 hi2 he=>hm (he▸Uf hi1 hi2)) s1
inductive qE (K:d6)(CB CC CP:eg)(vs:List V)(H:Hp)(Q:VK)(E:XK):Prop|mk(x:eg)(l:Za5)(lo hi:Nat)(h:Int)(_:vs=[.ref x,.int lo,.int hi,.int h])(_:Bj K CB CC CP H x l)(_:lo<=hi)(_:hi<=l.length)(_:hi-lo<=1000)(_:∀r H',Af9 l lo hi h r->Ag H H'->Q (Uy r) H')
include T af aF in
theorem Qk (F:Fun K "last_within" "Heights.last_within" Dl f fd):Ar P w K mg base CX0 8 f fd ["self","low","high","height"] (qE K ac ab aa):=by
 exists F.ok Fv
 obtain⟨x,l,lo,hi,h,rfl,hP,h1,h2,h3,q⟩:=h;obtain⟨dx,b,c,t,o,hx,_⟩:=id hP;refine⟨_,(Ab (tst 4 Fv.nd (Aa5 (Aq aF hr.m (pv 0) (tpa (pv 1) (tpa (pv 2) Aa))))) (Ad (Am (Ca (To Y2 (pv 3) (pv 4) rfl) (Ak B5 (pv 2) (Cj gi zg zf iM (pv 4) (tpa (pv 3) Aa))) Ek)))),?_⟩
 apply⟨x,dx,_,rfl,hx,rfl,?_⟩;apply⟨x,l,lo,hi,rfl,hP,h1,h2,h3,λp H1 s1 hp0 hp=>?_⟩;apply⟨p,_,rfl,SqL.of hp,λp2 hp2=>?_⟩;have t2:=s1.trans (An (o:=.lst ((hw l lo hi).map V.int).reverse) hp2);have e2:upd H1 p2 (.lst ((hw l lo hi).map V.int).reverse) p2=some (.lst ((hw l lo hi).reverse.map V.int)):=by rw[Af,EA]
 generalize upd H1 p2 _=H2 at *;apply⟨p2,_,rfl,.inl (SqL.of e2),rfl,Fn _,?_⟩;rw[rJ]
 by_cases hm:h∈(hw l lo hi).reverse
 ·rw[decide_eq_true hm,show(if false=true then !true else true)=true by decide]
  obtain⟨j,hj,hno⟩:=Vi hm;have hjl:=Bq hj;rw[mw,Ul] at hjl;have rev:∀k,k<hi-lo->(hw l lo hi).reverse[k]?=some (hgt l (hi-k)):=λk hk=>by
   rw[BA (by rw[Ul];exact hk),Ul,zU (by lia),show lo+(hi-lo-1-k)+1=hi-k by lia]
  apply⟨.inl ⟨rfl,_,SqL.of e2⟩,?_⟩;apply⟨p2,_,h,j,rfl,rfl,e2,hj,hno,?_⟩;k_is;rw[rev j hjl] at hj;have:=q (some (hi-j)) H2 ⟨by lia,by lia,ee hj,λi hi1 hi2 he=>?_⟩ t2
  ·rw[show Uy (some (hi-j))=V.int ((hi:Int)-(j:Int)) by show V.int _=_;congr 1;lia] at this
   exact this
  ·refine hno (hi-i) (by lia) ?_
   rw[rev _ (by lia),show hi-(hi-i)=i by lia,he]
 ·rw[decide_eq_false hm,show(if false=true then !false else false)=false by decide]
  k_is;exact q none H2 (λi hi1 hi2 he=>hm (qa.mpr (he▸Uf hi1 hi2))) t2
inductive yD(vs:List V)(H:Hp)(Q:VK)(E:XK):Prop|mk(i:Int)(_:vs=[.int i])(_:Q .non H)
include T aD in
theorem S3 (F:Fun K "check_height" "check_height" Hu f fd):Ar P w K mg base CX0 3 f fd ["height"] yD:=by
 exists F.ok S0
 obtain⟨i,rfl,q⟩:=h;refine⟨_,(Ad (Bm (Cl (Bt (Au aD hr.m (tpa (pv 0) Aa)))) (Ad B9)
  Aw)),?_⟩
 apply⟨i,rfl,?_⟩;k_is;exact q
inductive kK (K:d6)(CB CC CP:eg)(vs:List V)(H:Hp)(Q:VK)(E:XK):Prop|mk(x:eg)(l:Za5)(p:Nat)(h:Int)(_:vs=[.ref x,.int p,.int h])(_:Bj K CB CC CP H x l)(_:p<=l.length)(_:∀r H',Sd l p l.length h r->Ag H H'->Q (Uy r) H')
def cov (lo hi i:Nat):Nat:=if i<pM lo hi then loN lo i else hi
theorem zG {lo hi i:Nat}(h:i<pM lo hi):cov lo hi i=loN lo i/\cov lo hi (i+1)=hiN lo hi i:=by
 refine⟨if_pos h,?_⟩;unfold cov
 by_cases h2:i+1<pM lo hi
 ·rw[if_pos h2,Rw h2]
 ·rw[if_neg h2,P6 (by lia)]
variable (aV:Cal P w K mg base "check_height" 3 ["height"] yD) (aG:Mth P w K mg base aa "parts" 2 ["self","low","high"] (qL K ac ab aa)) (aW:Mth P w K mg base aa "may_meet" 2 ["self","low","height"] (Rm K ac ab aa))
include T am af aV aG aW in
theorem Wb (F:Fun K "next_at" "Heights.next_at" Fz f fd)(bQ:Mth P w K mg base aa "next_within" 8 ["self","low","high","height"] (qA K ac ab aa)):Ar P w K mg base CX0 9 f fd ["self","place","height"] (kK K ac ab aa):=by
 exists F.ok De
 obtain⟨x,l,p,h,rfl,hP,hp,q⟩:=h;obtain⟨dx,b,c,t,o,hx,_,_,_,_,hl8⟩:=id hP;refine⟨_,(Ab (As (Au am hr.m (tpa (pv 1) (tpa (tfl (pv 0)) Aa)))) (Ab (As (Au aV hr.m (tpa (pv 2) Aa))) (Ab (Dc ii rfl (Du (Aq aG hr.m (pv 0) (tpa (pv 1) (tpa (tfl (pv 0)) Aa)))) (J2 rfl (B4 (tgn 3 De.nd) (B4 (tgn 4 De.nd) Hd))) (Ab (tst 5 De.nd (Ca (Bt (Aq aW hr.m (pv 0) (tpa (pv 3) (tpa (pv 2) Aa)))) (Aq bQ hr.m (pv 0) (tpa (pv 3) (tpa (pv 4) (tpa (pv 2) Aa)))) Ek)) (Ad (Bm (Rc (eQ (pv 5))) (Ad (Am (pv 5)))
  Aw)))) (Ad (Am Ek))))),?_⟩
 apply⟨x,aa,dx,_,_,rfl,hx,af.cl,af.cM,rfl,?_⟩;apply⟨p,_,rfl,by lia,by lia,?_⟩;apply⟨h,rfl,?_⟩;apply⟨x,dx,_,rfl,hx,rfl,?_⟩;apply⟨x,aa,dx,_,_,rfl,hx,af.cl,af.cM,rfl,?_⟩;apply⟨x,l,p,(l.length:Int),rfl,hP,yy _,λpa as H1 s1 hpa0 hpa hN=>?_⟩;rw[gw] at hN;have hP1:=hP.same s1;have hal:as.length=pM p l.length:=by rw[hN.1,Bw,Mv]
 refine⟨pa,rfl,⟨_,SqL.of hpa⟩,?_⟩;refine uC (as:=as) (xs:=nV (pLo p l.length)) (ys:=nV (pHi p l.length)) hN.1 (by rw[hal,Bw,Tr]) (λi G H2=>(∃v3 v4 v5:Option V,G=[some (.ref x),some (.int (p:Nat)),some (.int h),v3,v4,v5])/\Ag H1 H2/\∀k,p<k->k<=cov p l.length i->hgt l k≠h) ?_ (λi G H2 _ h=>SqL.of (h.2.1 _ _ hpa)) (λi t x y G H2 e1 e2 e3 h=>h.2.1 _ _ (hN.2 i t x y e1 e2 e3).2) ?_ ?_
 ·refine⟨⟨_,_,_,rfl⟩,Ag.refl _,λk hk1 hk2=>?_⟩
  unfold cov at hk2;split at hk2
  ·exact absurd hk2 (by show ¬ k<=p;lia)
  ·rename_i hz
   have:¬ p<l.length:=λh=>hz (Nt h).2;lia
 ·rintro i y y2 G H2 hy hy2 ⟨⟨v3,v4,v5,rfl⟩,s2,hno⟩
  have hi:i<pM p l.length:=by have:=Bq hy;rwa [Bw,Mv] at this
  obtain⟨ok1,ok2,ok3,ok4,ok5,ok6⟩:=Th hi;obtain⟨cv1,cv2⟩:=zG hi;unfold nV pLo at hy;unfold nV pHi at hy2;rw[d9,d9,gd hi] at hy hy2;obtain rfl:V.int ((loN p i:Nat):Int)=y:=ee hy;obtain rfl:V.int ((hiN p l.length i:Nat):Int)=y2:=ee hy2;have hP2:=hP1.same s2;have hx2:=s2 _ _ (s1 _ _ hx);have go:(∀k,loN p i<k->k<=hiN p l.length i->hgt l k≠h)->∀k,p<k->k<=cov p l.length (i+1)->hgt l k≠h:=λhh k k1 k2=>by
   by_cases k3:k<=loN p i
   ·exact hno k k1 (by rw[cv1];exact k3)
   ·exact hh k (by lia) (by rw[<-cv2];exact k2)
  apply⟨x,dx,_,rfl,hx2,rfl,?_⟩;apply⟨x,l,loN p i,h,rfl,hP2,by lia,λbb hbb=>?_⟩
  cases bb with
  |true=>
   apply⟨x,dx,_,rfl,hx2,rfl,?_⟩;apply⟨x,l,loN p i,hiN p l.length i,h,rfl,hP2,by lia,ok3,by lia,λr H3 hr3 s3=>?_⟩
   cases r with
   |some j=>
    k_is;obtain⟨j1,j2,j3,j4⟩:=hr3;refine q (some j) H3 ⟨by lia,by lia,j3,λi' i1 i2 he=>?_⟩ ((s1.trans s2).trans s3)
    by_cases k3:i'<=loN p i
    ·exact hno i' i1 (by rw[cv1];exact k3) he
    ·exact j4 i' (by lia) i2 he
   |none=>
    k_is;rw[show(!decide (Uy none=V.non))=false from rfl];k_is;exact⟨⟨_,_,_,rfl⟩,s2.trans s3,go hr3⟩
  |false=>
   k_is;rw[show(!decide (V.non=V.non))=false from rfl];apply⟨⟨_,_,_,rfl⟩,s2,go λk k1 k2=>hbb rfl k (by lia) ?_⟩;unfold X2;lia
 ·rintro G H2 ⟨⟨v3,v4,v5,rfl⟩,s2,hno⟩
  rw[hal] at hno;apply q none H2 (λi i1 i2=>hno i i1 ?_) (s1.trans s2);unfold cov;rw[if_neg (ln _)];exact i2
def Mi (l:Za5)(p:Nat)(h:Int):Option Nat->Prop
 |some j=>j<p/\hgt l j=h/\∀i,j<i->i<p->hgt l i≠h
 |none=>∀i,i<p->hgt l i≠h
inductive gO (K:d6)(CB CC CP:eg)(vs:List V)(H:Hp)(Q:VK)(E:XK):Prop|mk(x:eg)(l:Za5)(p:Nat)(h:Int)(_:vs=[.ref x,.int p,.int h])(_:Bj K CB CC CP H x l)(_:p<=l.length)(_:∀r H',Mi l p h r->Ag H H'->Q (Uy r) H')
def uB (hi i:Nat):Nat:=if i=0 then hi else loN 0 (pM 0 hi-i)
theorem sW {hi i:Nat}(h:i<pM 0 hi):uB hi i=hiN 0 hi (pM 0 hi-1-i)/\uB hi (i+1)=loN 0 (pM 0 hi-1-i):=by
 unfold uB;refine⟨?_,?_⟩
 ·by_cases h0:i=0
  ·rw[if_pos h0,P6 (by lia)]
  ·rw[if_neg h0,Rw (by lia),show pM 0 hi-1-i+1=pM 0 hi-i by lia]
 ·rw[if_neg (by lia),show pM 0 hi-(i+1)=pM 0 hi-1-i by lia]
theorem Vw (l:Za5):hgt l 0=0:=by unfold hgt;simp
include T am af aV aG aW in
theorem Wa (F:Fun K "last_at" "Heights.last_at" Fw f fd)(bR:Mth P w K mg base aa "last_within" 8 ["self","low","high","height"] (qE K ac ab aa)):Ar P w K mg base CX0 9 f fd ["self","place","height"] (gO K ac ab aa):=by
 exists F.ok Dg
 obtain⟨x,l,p,h,rfl,hP,hp,q⟩:=h;obtain⟨dx,b,c,t,o,hx,_,_,_,_,hl8⟩:=id hP;refine⟨_,(Ab (As (Au am hr.m (tpa (pv 1) (tpa (tfl (pv 0)) Aa)))) (Ab (As (Au aV hr.m (tpa (pv 2) Aa))) (Ab (Dc ii rfl (Acb rfl T.dL (Aq aG hr.m (pv 0) (tpa Ae (tpa (Ak B5 (pv 1) Ae) Aa)))) (J2 rfl (B4 (tgn 3 Dg.nd) (B4 (tgn 4 Dg.nd) Hd))) (Ab (tst 5 Dg.nd (Ca (Bt (Aq aW hr.m (pv 0) (tpa (pv 3) (tpa (pv 2) Aa)))) (Aq bR hr.m (pv 0) (tpa (pv 3) (tpa (pv 4) (tpa (pv 2) Aa)))) Ek)) (Ad (Bm (Rc (eQ (pv 5))) (Ad (Am (pv 5)))
  Aw)))) (Ad (Am (Ca (PW.pt (fZ (ttc Fp (pv 1) Ae) (Tq (ttc Dt (pv 2) Ae)))) Ae Ek)))))),?_⟩
 apply⟨x,aa,dx,_,_,rfl,hx,af.cl,af.cM,rfl,?_⟩;apply⟨p,_,rfl,by lia,by lia,?_⟩;apply⟨h,rfl,?_⟩;apply⟨x,dx,_,rfl,hx,rfl,?_⟩;apply⟨x,l,0,(p:Int)-1,rfl,hP,by lia,λpa as H1 s1 hpa0 hpa hN=>?_⟩;rw[show((p:Int)-1).toNat=p-1 by lia] at hN;have hP1:=hP.same s1;have hal:as.length=pM 0 (p-1):=by rw[hN.1,Bw,Mv]
 refine⟨pa,_,rfl,SqL.of hpa,?_⟩;rw[d7];refine oA (as:=as) (xs:=nV (pLo 0 (p-1))) (ys:=nV (pHi 0 (p-1))) hN.1 (by rw[hal,Bw,Tr]) (λi G H2=>(∃v3 v4 v5:Option V,G=[some (.ref x),some (.int (p:Nat)),some (.int h),v3,v4,v5])/\Ag H1 H2/\∀k,uB (p-1) i<k->k<p->hgt l k≠h) ?_ (λi G H2 _ h=>SqL.of (h.2.1 _ _ hpa)) (λi j t x y G H2 e1 e2 e3 h=>h.2.1 _ _ (hN.2 j t x y e1 e2 e3).2) ?_ ?_
 ·refine⟨⟨_,_,_,rfl⟩,Ag.refl _,λk hk1 hk2=>?_⟩
  have hk1:p-1<k:=hk1;lia
 ·rintro i y y2 G H2 hlt hy hy2 ⟨⟨v3,v4,v5,rfl⟩,s2,hno⟩
  rw[hal] at hlt hy hy2;obtain⟨j,hj⟩:∃j,pM 0 (p-1)-1-i=j:=⟨_,rfl⟩;have hi:j<pM 0 (p-1):=by lia
  obtain⟨cv1,cv2⟩:=sW hlt;rw[hj] at hy hy2 cv1 cv2;obtain⟨ok1,ok2,ok3,ok4,ok5,ok6⟩:=Th hi;unfold nV pLo at hy;unfold nV pHi at hy2;rw[d9,d9,gd hi] at hy hy2;obtain rfl:V.int ((loN 0 j:Nat):Int)=y:=ee hy;obtain rfl:V.int ((hiN 0 (p-1) j:Nat):Int)=y2:=ee hy2;have hP2:=hP1.same s2;have hx2:=s2 _ _ (s1 _ _ hx);have go:(∀k,loN 0 j<k->k<=hiN 0 (p-1) j->hgt l k≠h)->∀k,uB (p-1) (i+1)<k->k<p->hgt l k≠h:=λhh k k1 k2=>by
   rw[cv2] at k1
   by_cases k3:k<=hiN 0 (p-1) j
   ·exact hh k k1 k3
   ·exact hno k (by rw[cv1];lia) k2
  apply⟨x,dx,_,rfl,hx2,rfl,?_⟩;apply⟨x,l,loN 0 j,h,rfl,hP2,by lia,λbb hbb=>?_⟩
  cases bb with
  |true=>
   apply⟨x,dx,_,rfl,hx2,rfl,?_⟩;apply⟨x,l,loN 0 j,hiN 0 (p-1) j,h,rfl,hP2,by lia,by lia,by lia,λr H3 hr3 s3=>?_⟩
   cases r with
   |some m=>
    k_is;obtain⟨j1,j2,j3,j4⟩:=hr3;refine q (some m) H3 ⟨by lia,j3,λi' i1 i2 he=>?_⟩ ((s1.trans s2).trans s3)
    by_cases k3:i'<=hiN 0 (p-1) j
    ·exact j4 i' i1 k3 he
    ·exact hno i' (by rw[cv1];lia) i2 he
   |none=>
    k_is;rw[show(!decide (Uy none=V.non))=false from rfl];k_is;exact⟨⟨_,_,_,rfl⟩,s2.trans s3,go hr3⟩
  |false=>
   k_is;rw[show(!decide (V.non=V.non))=false from rfl];apply⟨⟨_,_,_,rfl⟩,s2,go λk k1 k2=>hbb rfl k (by lia) ?_⟩;unfold X2;lia
 ·rintro G H2 ⟨⟨v3,v4,v5,rfl⟩,s2,hno⟩
  rw[hal] at hno;have hno:∀k,0<k->k<p->hgt l k≠h:=λk k1 k2=>by
   refine hno k ?_ k2;unfold uB;split
   ·rename_i hz
    by_cases hp1:0<p-1
    ·exact absurd hz (by have:=(Nt hp1).2;lia)
    ·lia
   ·rw[j0]
    exact k1
  apply Bo (λh1=>?_) (λh1=>?_)
  ·apply Bo (λh2=>?_) (λh2=>?_)
   ·k_is
    have h2:=V.int.inj h2;exact q (some 0) H2 ⟨by lia,by rw[Vw,h2],hno⟩ (s1.trans s2)
   ·apply q none H2 (λi hi he=>?_) (s1.trans s2)
    by_cases i0:i=0
    ·rw[i0,Vw] at he
     exact h2 (by rw[he])
    ·exact hno i (by lia) hi he
  ·k_is
   exact q none H2 (λi hi=>absurd hi (by lia)) (s1.trans s2)
inductive T2 (K:d6)(CB CC CP:eg)(vs:List V)(H:Hp)(Q:VK)(E:XK):Prop|mk(x:eg)(l:Za5)(p:Nat)(_:vs=[.ref x,.int p])(_:Bj K CB CC CP H x l)(_:p<l.length)(_:Q (.bl (l.getD p false)) H)
include T af in
theorem Q7 (F:Fun K "is_opening" "Pairs.is_opening" Fb f fd)(bS:Mth P w K mg base ac "bit" 4 ["self","place"] (Ac7 K ac)):Ar P w K mg base CX0 5 f fd ["self","place"] (T2 K ac ab aa):=by
 exists F.ok M7
 obtain⟨x,l,p,rfl,⟨dx,b,c,t,o,hx,hB,_⟩,hp,q⟩:=h;refine⟨_,(Ad (Am (tpc Dt (Aq bS hr.m (tfl (pv 0)) (tpa (pv 1) Aa)) Ae))),?_⟩;apply⟨x,aa,dx,_,.ref b,rfl,hx,af.cl,af.dr,rfl,?_⟩;obtain⟨db,tb,hb1,_⟩:=id hB;apply⟨b,db,_,rfl,hb1,rfl,?_⟩;apply⟨b,l,p,rfl,hB,hp,?_⟩;k_is
 cases hg:l.getD p false with
 |true=>
  rw[hg] at q;exact q
 |false=>
  rw[hg] at q;exact q
theorem xI {l:Za5}(hV:Vs 0 l){i:Nat}(hi:i<=l.length):0<=hgt l i:=by
 obtain⟨h,e,_⟩:=Vc hV i hi;lia
theorem Abt {l:Za5}(hV:Vs 0 l):hgt l l.length=0:=by
 obtain⟨h,e,v,_⟩:=Vc hV l.length (d8 _);rw[ji (d8 _)] at v;have v:h=0:=v;lia
theorem Pm {l:Za5}{i:Nat}(hi:i<l.length):hgt l (i+1)=hgt l i+if l.getD i false then 1 else -1:=by
 have h:=K3 (l:=l) (d4 hi);rw[h];unfold ju;rw[d4 hi];rfl
theorem Afk {l:Za5}(hV:Vs 0 l){p:Nat}(hp:p<l.length)(ho:l.getD p false=true):¬ Sd l p l.length (hgt l p) none:=λhn=>by
 have up:∀d,p+1+d<=l.length->hgt l p<hgt l (p+1+d):=λd=>by
  induction d with
  |zero=>
   intro _;have:=Pm hp;rw[ho] at this;have this:hgt l (p+1)=hgt l p+1:=this;show hgt l p<hgt l (p+1);lia
  |succ d ih=>
   intro hd;have h1:=ih (by lia);have h2:=Pm (l:=l) (i:=p+1+d) (by lia);have h3:=hn (p+1+(d+1)) (by lia) hd;have e:p+1+(d+1)=p+1+d+1:=by lia
   rw[e] at h3 ⊢;split at h2<;>lia
 have h1:=up (l.length-(p+1)) (by lia);rw[show p+1+(l.length-(p+1))=l.length by lia,Abt hV] at h1;have:=xI hV (i:=p) (by lia);lia
theorem Ad4 {l:Za5}(hV:Vs 0 l){p:Nat}(hp:p<l.length)(ho:l.getD p false=false):¬ Mi l (p+1) (hgt l (p+1)) none:=λhn=>by
 have hs:=Pm hp;rw[ho] at hs;have hs:hgt l (p+1)=hgt l p + -1:=hs;have up:∀i,i<=p->hgt l i<hgt l (p+1):=λi=>by
  induction i with
  |zero=>
   intro _;have h1:=xI hV (i:=p+1) (by lia);have h2:=hn 0 (by lia);rw[Vw] at h2 ⊢;lia
  |succ i ih=>
   intro hi;have h1:=ih (by lia);have h2:=Pm (l:=l) (i:=i) (by lia);have h3:=hn (i+1) (by lia);split at h2<;>lia
 have:=up p (d8 _);lia
inductive Y8 (K:d6)(CB CC CP:eg)(vs:List V)(H:Hp)(Q:VK)(E:XK):Prop|mk(x:eg)(l:Za5)(p:Nat)(_:vs=[.ref x,.int p])(_:Bj K CB CC CP H x l)(_:p<l.length)(_:∀(j:Nat) H',(l.getD p false=true->Sd l p l.length (hgt l p) (some (j+1)))->(l.getD p false=false->Mi l (p+1) (hgt l (p+1)) (some j))->Ag H H'->Q (.int (j:Nat)) H')
variable (aX:Mth P w K mg base aa "is_opening" 5 ["self","place"] (T2 K ac ab aa)) (aY:Mth P w K mg base aa "next_at" 9 ["self","place","height"] (kK K ac ab aa)) (aZ:Mth P w K mg base aa "last_at" 9 ["self","place","height"] (gO K ac ab aa))
include T af ar aX aY aZ in
theorem Wc (F:Fun K "partner" "Heights.partner" F8 f fd):Ar P w K mg base CX0 10 f fd ["self","place"] (Y8 K ac ab aa):=by
 exists F.ok N5
 obtain⟨x,l,p,rfl,hP,hp,q⟩:=h;obtain⟨dx,b,c,t,o,hx,_,hC,_,hV,hl8⟩:=id hP;refine⟨_,(Ab (Bm (Bt (Aq aX hr.m (pv 0) (tpa (pv 1) Aa))) (Ad (Am (Ak B5 (Aq aY hr.m (pv 0) (tpa (pv 1) (tpa (Aq ar hr.m (pv 0) (tpa (pv 1) Aa)) Aa))) Ae)))
  Aw) (Ad (Am (Aq aZ hr.m (pv 0) (tpa (Ak Bd (pv 1) Ae) (tpa (Aq ar hr.m (pv 0) (tpa (Ak Bd (pv 1) Ae) Aa)) Aa)))))),?_⟩
 apply⟨x,dx,_,rfl,hx,rfl,?_⟩;apply⟨x,l,p,rfl,hP,hp,?_⟩
 cases hg:l.getD p false with
 |true=>
  apply⟨x,dx,_,rfl,hx,rfl,?_⟩;apply⟨x,dx,_,rfl,hx,rfl,?_⟩;apply⟨x,dx,c,_,l,p,rfl,hx,rfl,rfl,hC,by lia,λH1 s1=>?_⟩;rw[Pd];apply⟨x,l,p,hgt l p,rfl,hP.same s1,by lia,λr H2 hr2 s2=>?_⟩
  cases r with
  |none=>exact absurd hr2 (Afk hV hp hg)
  |some j=>
   obtain⟨j',rfl⟩:∃j',j=j'+1:=⟨j-1,by have:=hr2.1;lia⟩;rw[show Uy (some (j'+1))=V.int ((j':Int)+1) by show V.int _=_;congr 1];k_is;rw[show((j':Int)+1-1)=(j':Int) by lia];exact q j' H2 (λ_=>hr2) (λe=>by rw[hg] at e;cases e) (s1.trans s2)
 |false=>
  apply⟨x,dx,_,rfl,hx,rfl,?_⟩;apply⟨x,dx,_,rfl,hx,rfl,?_⟩;apply⟨x,dx,c,_,l,p+1,by rw[show((p+1:Nat):Int)=(p:Int)+1 by lia];rfl,hx,rfl,rfl,hC,by lia,λH1 s1=>?_⟩;rw[Pd];apply⟨x,l,p+1,hgt l (p+1),by rw[show((p+1:Nat):Int)=(p:Int)+1 by lia];rfl,hP.same s1,by lia,λr H2 hr2 s2=>?_⟩
  cases r with
  |none=>exact absurd hr2 (Ad4 hV hp hg)
  |some j=>exact q j H2 (λe=>by rw[hg] at e;cases e) (λ_=>hr2) (s1.trans s2)
inductive pJ (K:d6)(CB CC CP:eg)(vs:List V)(H:Hp)(Q:VK)(E:XK):Prop|mk(x:eg)(l:Za5)(lo hi:Nat)(_:vs=[.ref x,.int lo,.int hi])(_:Bj K CB CC CP H x l)(_:lo<l.length)(_:∀b:Bool,(b=true->lo=lo/256*256/\hi=X2 l (lo/256))->Q (.bl b) H)
include T af au aL in
theorem Qn (F:Fun K "is_stretch" "Heights.is_stretch" Dx f fd):Ar P w K mg base CX0 2 f fd ["self","low","high"] (pJ K ac ab aa):=by
 exists F.ok Ga
 obtain⟨x,l,lo,hi,rfl,hP,hl,q⟩:=h;obtain⟨dx,b,c,t,o,hx,_⟩:=id hP;refine⟨_,(Ab (tst 3 Ga.nd (Aq au hr.m (pv 0) (tpa (pv 1) Aa))) (Ad (Am (U9 (tpc Dt (pv 1) (Aq aL hr.m (pv 0) (tpa (pv 3) Aa))) (Uk (tpc Dt (pv 2) (Aq aL hr.m (pv 0) (tpa (Ak Bd (pv 3) Ae) Aa)))))))),?_⟩
 apply⟨x,dx,_,rfl,hx,rfl,?_⟩;apply⟨.ref x,lo,rfl,?_⟩;apply⟨x,dx,_,rfl,hx,rfl,?_⟩;apply⟨x,l,lo/256,rfl,hP,?_⟩;apply Bo (λh1=>?_) (λ_=>q false λe=>by cases e);have h1:lo=lo/256*256:=by
  have:=V.int.inj h1;lia
 apply⟨x,dx,_,rfl,hx,rfl,?_⟩;apply⟨x,l,lo/256+1,by rw[show((lo/256+1:Nat):Int)=((lo/256:Nat):Int)+1 by lia];rfl,hP,?_⟩;apply q _ λhb=>⟨h1,?_⟩;have:=V.int.inj (of_decide_eq_true hb);unfold X2;lia
inductive kM (K:d6)(CB CC CP:eg)(vs:List V)(H:Hp)(Q:VK)(E:XK):Prop|mk(x:eg)(l:Za5)(lo hi:Nat)(_:vs=[.ref x,.int lo,.int hi])(_:Bj K CB CC CP H x l)(_:lo<hi)(_:hi<=l.length)(_:hi-lo<=1000)(_:∀m H',Mx (hw l lo hi) m->Ag H H'->Q (.int m) H')
include T af au aF in
theorem Qj (F:Fun K "least_within" "Heights.least_within" Df f fd)(bT:Mth P w K mg base aa "is_stretch" 2 ["self","low","high"] (pJ K ac ab aa)):Ar P w K mg base CX0 8 f fd ["self","low","high"] (kM K ac ab aa):=by
 exists F.ok Jx
 obtain⟨x,l,lo,hi,rfl,hP,h1,h2,h3,q⟩:=h;obtain⟨dx,b,c,t,o,hx,_,_,⟨rs,ht,hrl,hrs⟩,_,hl8⟩:=id hP;refine⟨_,(Ab (Bm (Bt (Aq bT hr.m (pv 0) (tpa (pv 1) (tpa (pv 2) Aa)))) (Ad (Am (tix Bs (tix Bs (tfl (pv 0)) (Aq au hr.m (pv 0) (tpa (pv 1) Aa))) Ae)))
  Aw) (Ad (Am (Ao (P3 rfl) (by rfl) T.cW Xe (tpa (Aq aF hr.m (pv 0) (tpa (pv 1) (tpa (pv 2) Aa))) Aa))))),?_⟩
 apply⟨x,dx,_,rfl,hx,rfl,?_⟩;apply⟨x,l,lo,hi,rfl,hP,by lia,λbb hbb=>?_⟩
 cases bb with
 |true=>
  obtain⟨g1,g2⟩:=hbb rfl;apply⟨x,aa,dx,_,_,rfl,hx,af.cl,af.cQ,rfl,?_⟩;apply⟨x,dx,_,rfl,hx,rfl,?_⟩;apply⟨.ref x,lo,rfl,?_⟩;have hj:lo/256<rs.length:=by lia
  obtain⟨mn,mx,hr1,hmn,hmx⟩:=hrs _ _ (d4 hj);rw[pX (by lia),<-g1,<-g2] at hmn;apply Cd (SqT.of ht) (A7 (by rw[d9,d4 hj];rfl)) ?_;apply Cd (SqT.of hr1) (v:=.int mn) rfl ?_;exact q mn H hmn (Ag.refl _)
 |false=>
  apply⟨x,dx,_,rfl,hx,rfl,?_⟩;apply⟨x,l,lo,hi,rfl,hP,by lia,h2,h3,λp H1 s1 hp0 hp=>?_⟩;apply⟨p,_,rfl,SqL.of hp,λe=>?_,λm hm=>?_⟩
  ·have:=congrArg yq e
   rw[Ul,jt] at this;lia
  ·exact q m H1 hm s1
def Adl (l:Za5)(lo hi:Nat)(m:Int):Prop:=(∃i,lo<=i/\i<=hi/\hgt l i=m)/\∀i,lo<=i->i<=hi->m<=hgt l i
inductive lC (K:d6)(CB CC CP:eg)(vs:List V)(H:Hp)(Q:VK)(E:XK):Prop|mk(x:eg)(l:Za5)(lo hi:Nat)(_:vs=[.ref x,.int lo,.int hi])(_:Bj K CB CC CP H x l)(_:lo<=hi)(_:hi<=l.length)(_:∀m v tp H',Adl l lo hi m->(m=hgt l lo->v=.int (lo:Nat))->(m≠hgt l lo->∃j,v=.int (j:Nat)/\Sd l lo l.length m (some j))->Ag H H'->H' tp=some (.tup [.int m,v])->Q (.ref tp) H')
def Ada (l:Za5)(lo hi i:Nat)(ms:List Int):Prop:=ms.length=i/\∀(j:Nat) m,ms[j]?=some m->Mx (hw l (loN lo j) (hiN lo hi j)) m
theorem tX {l:Za5}{lo hi:Nat}{ms:List Int}(h:Ada l lo hi (pM lo hi) ms){m:Int}(hlh:lo<=hi)(hm:Mx (hgt l lo::ms) m):Adl l lo hi m:=by
 have cover:∀d i,i<pM lo hi->i+d=pM lo hi->∀k,loN lo i<k->k<=hi->∃j,i<=j/\j<pM lo hi/\loN lo j<k/\k<=hiN lo hi j:=λd=>by
  induction d with
  |zero=>intro i h1 h2;lia
  |succ d ih=>
   intro i h1 h2 k k1 k2
   by_cases k3:k<=hiN lo hi i
   ·exact⟨i,d8 _,h1,k1,k3⟩
   ·by_cases h3:i+1<pM lo hi
    ·obtain⟨j,a1,a2,a3,a4⟩:=ih (i+1) h3 (by lia) k (by rw[<-Rw h3];lia) k2
     exact⟨j,by lia,a2,a3,a4⟩
    ·rw[P6 (show i+1=pM lo hi by lia)] at k3
     lia
 refine⟨?_,λi i1 i2=>?_⟩
 ·rcases iu.mp hm.1 with e|e
  ·exact⟨lo,d8 _,hlh,e.symm⟩
  ·obtain⟨j,hj⟩:=j6 e
   have hjl:=Bq hj;rw[h.1] at hjl;obtain⟨ok1,ok2,ok3,_⟩:=Th hjl;obtain⟨i,a1,a2,a3⟩:=Ag3 (h.2 j m hj).1;exact⟨i,by lia,by lia,a3⟩
 ·by_cases e:i=lo
  ·rw[e]
   exact hm.2 _ gu
  ·have hlt:lo<hi:=by lia
   obtain⟨j,_,j2,j3,j4⟩:=cover (pM lo hi) 0 (Nt hlt).2 (m5 _) i (by show lo<i;lia) i2;have hj:ms[j]?=some (ms[j]'(by rw[h.1];exact j2)):=d4 _;have h1:=(h.2 j _ hj).2 _ (Uf (l:=l) j3 j4);have h2:=hm.2 _ (gv _ (f8 hj));exact vv h2 h1
include T aM af ar aG aY in
theorem Wg (F:Fun K "lowest" "Heights.lowest" Eb f fd)(bU:Mth P w K mg base aa "least_within" 8 ["self","low","high"] (kM K ac ab aa)):Ar P w K mg base CX0 10 f fd ["self","low","high"] (lC K ac ab aa):=by
 exists F.ok Fy
 obtain⟨x,l,lo,hi,rfl,hP,h1,h2,q⟩:=h;obtain⟨dx,b,c,t,o,hx,_,hC,_,hV,hl8⟩:=id hP;refine⟨_,(Ab (As (Au aM hr.m (tpa (pv 1) (tpa (pv 2) (tpa (tfl (pv 0)) Aa))))) (Ab (tst 3 Fy.nd (Aq ar hr.m (pv 0) (tpa (pv 1) Aa))) (Ab (tst 4 Fy.nd (Ao (P3 rfl) (by rfl) T.cW Xe (tpa (Ak Ix (Bn (tpa (pv 3) Aa)) (mH rfl Na (Du (Aq aG hr.m (pv 0) (tpa (pv 1) (tpa (pv 2) Aa)))) (λ_ _ _ _=>Cb) (λ_ _ _ _=>(Aq bU hr.m (pv 2) (tpa (pv 0) (tpa (pv 1) Aa)))))) Aa))) (Ad (Am (N8 (tpa (pv 4) (tpa (Ca (ttc Dt (pv 4) (pv 3)) (pv 1) (Aq aY hr.m (pv 0) (tpa (pv 1) (tpa (pv 4) Aa)))) Aa)))))))),?_⟩
 apply⟨x,aa,dx,_,_,rfl,hx,af.cl,af.cM,rfl,?_⟩;apply⟨lo,hi,_,rfl,by lia,by lia,by lia,?_⟩
 ·apply⟨x,dx,_,rfl,hx,rfl,?_⟩;apply⟨x,dx,c,_,l,lo,rfl,hx,rfl,rfl,hC,by lia,λH1 s1=>?_⟩;rw[Pd];have hP1:=hP.same s1;have hx1:=s1 _ _ hx;apply⟨few (by simp),λa1 ha1=>?_⟩;obtain⟨t2,e1⟩:=A4 (o:=.lst [V.int (hgt l lo)]) ha1;have s2:=s1.trans t2;generalize upd H1 a1 _=H2 at *;have hx2:=s2 _ _ hx;have hP2:=hP.same s2;apply⟨x,dx,_,rfl,hx2,rfl,?_⟩;apply⟨x,l,lo,(hi:Int),rfl,hP2,by lia,λpa as H3 s3 hpa0 hpa hN=>?_⟩;rw[gw] at hN;have hal:as.length=pM lo hi:=by rw[hN.1,Bw,Mv]
  have hP3:=hP2.same s3;have hx3:=s3 _ _ hx2;have s13:=s2.trans s3;apply⟨pa,rfl,⟨_,SqL.of hpa⟩,?_⟩;refine sT (as:=as) (xs:=nV (pLo lo hi)) (ys:=nV (pHi lo hi)) hN.1 (by rw[hal,Bw,Tr]) (SqL.of hpa) (λi t x y g1 g2 g3=>(hN.2 i t x y g1 g2 g3).2) (λD i zs H'=>∃ms:List Int,zs=ms.map V.int/\Ada l lo hi i ms) (λD H' _ _=>⟨[],rfl,rfl,λj m e=>by cases e⟩) (λD i zs H' us o _ h=>h) (λD i zs H' hi h=>?_) (λD i zs H' H'' _ h=>h) ?_ ?_
  ·obtain⟨ms,rfl,hms,_⟩:=h
   rw[d7,hms];rw[hal] at hi;unfold pM at hi;split at hi
   ·exact Ai (by lia)
   ·lia
  ·intro D i zs y y2 H4 A R hy hy2 s4 _ _ hPv _ hA
   obtain⟨ms,rfl,hms,hms2⟩:=hPv;have hii:i<pM lo hi:=by have:=Bq hy;rwa [Bw,Mv] at this
   obtain⟨ok1,ok2,ok3,ok4,ok5,ok6⟩:=Th hii;unfold nV pLo at hy;unfold nV pHi at hy2;rw[d9,d9,gd hii] at hy hy2;obtain rfl:V.int ((loN lo i:Nat):Int)=y:=ee hy;obtain rfl:V.int ((hiN lo hi i:Nat):Int)=y2:=ee hy2;apply⟨x,dx,_,rfl,s4 _ _ hx3,rfl,?_⟩;apply⟨x,l,loN lo i,hiN lo hi i,rfl,hP3.same s4,ok2,by lia,by lia,λm H5 hm s5=>?_⟩;refine hA _ _ s5 ⟨ms++[m],by rw[fj];rfl,by rw[eh,hms];rfl,λj m' e=>?_⟩
   by_cases hj:j<ms.length
   ·rw[f7 hj] at e
    exact hms2 j m' e
   ·have hj2:=Bq e
    rw[eh] at hj2;have hj3:j=ms.length:=by simp at hj2;lia
    subst hj3;rw[ft (d8 _),j0] at e;obtain rfl:m=m':=ee e;rw[hms];exact hm
  ·intro D zs H4 hD s4 hPv hD4
   obtain⟨ms,rfl,hms⟩:=hPv;rw[hal] at hms;have s14:=s13.trans s4;have e14:=s4 _ _ (s3 _ _ e1);have hml:ms.length<=100:=by
    rw[hms.1];unfold pM;split<;>lia
   apply⟨a1,D,_,_,rfl,rfl,e14,hD4,f9 (Ai (by rw[d7,ja];lia)),λa2 ha2=>?_⟩;have t5:=An (o:=.lst ([V.int (hgt l lo)]++ms.map V.int)) ha2;have e5:upd H4 a2 (.lst ([V.int (hgt l lo)]++ms.map V.int)) a2=some (.lst ((hgt l lo::ms).map V.int)):=Af;have s15:=s14.trans t5;generalize upd H4 a2 _=H5 at *;apply⟨a2,_,rfl,SqL.of e5,(λe=>nomatch e),λm hm=>?_⟩;have hlow:=tX hms h1 hm;apply Bo (λh3=>?_) (λh3=>?_)
   ·have h3:=V.int.inj h3
    apply⟨few (by simp),λtp htp=>?_⟩;exact q m _ tp _ hlow (λ_=>rfl) (λh=>absurd h3 h) (s15.trans (An htp)) Af
   ·have h3:m≠hgt l lo:=λe=>h3 (congrArg V.int e)
    apply⟨x,dx,_,rfl,s15 _ _ hx,rfl,?_⟩;apply⟨x,l,lo,m,rfl,hP.same s15,by lia,λr H6 hr6 s6=>?_⟩
    cases r with
    |none=>
     obtain⟨⟨i,i1,i2,i3⟩,_⟩:=hlow;exact absurd i3 (hr6 i (by
      by_cases e:i=lo
      ·exact absurd (by rw[<-i3,e]) h3
      ·lia) (by lia))
    |some j=>
     apply⟨few (by simp),λtp htp=>?_⟩;exact q m _ tp _ hlow (λh=>absurd h h3) (λ_=>⟨j,rfl,hr6⟩) ((s15.trans s6).trans (An htp)) Af
inductive N1 (K:d6)(CB CC CP:eg)(ts:List Tb)(vs:List V)(H:Hp)(Q:VK)(E:XK):Prop|mk(x:eg)(l:Za5)(n t:Nat)(_:vs=[.ref x,.int n])(_:Bj K CB CC CP H x l)(_:Tbs ts H)(_:(occ true l l.length)[n]?=some t)(_:∀H',SmT ts H H'->Q (.int t) H')
include T af in
theorem Wo (F:Fun K "opening" "Pairs.opening" Gy f fd)(bV:Mth P w K mg base ab "place_of" 5 ["self","bit","nth"] (Zr K ab ts)):Ar P w K mg base CX0 6 f fd ["self","number"] (N1 K ac ab aa ts):=by
 exists F.ok Rj
 obtain⟨x,l,n,t,rfl,⟨dx,b,c,tt,o,hx,hB,hC,_⟩,hT,ht,q⟩:=h;refine⟨_,(Ad (Am (Aq bV hr.m (tfl (pv 0)) (tpa Ae (tpa (pv 1) Aa))))),?_⟩;apply⟨x,aa,dx,_,.ref c,rfl,hx,af.cl,af.dy,rfl,?_⟩;obtain⟨dc,t1,u1,hc1,_⟩:=id hC;apply⟨c,dc,_,rfl,hc1,rfl,?_⟩;k_is;exact⟨c,l,true,n,t,rfl,hC,hT,ht,q⟩
inductive wM(vs:List V)(H:Hp)(Q:VK)(E:XK):Prop|mk(a:eg)(ds:Za4)(_:vs=[.ref a])(_:H a=some (.lst ((En ds).map V.int)))(_:Dok ds)(_:ds.length<4000)(_:∀l H',Ag H H'->H' l=some (.lst ((En ds).map V.int))->Q (.ref l) H')
include T aD in
theorem mF (F:Fun K "look_at" "look_at" Rl f fd):Ar P w K mg base CX0 2 f fd ["elders"] wM:=by
 exists F.ok Ko
 obtain⟨a,ds,rfl,ha,hD,hn,q⟩:=h;refine⟨_,(Ab (Bm (Cl (Bt (Ao Cr (by rfl) T.cR Ci (tpa (pv 0) (tpa (G9 (v:=.ty "list") rfl T.c9 R7 rfl) Aa))))) (Ad B9)
  Aw) (Ab (tst 1 Ko.nd (Bn (tpa (Fr C9 Ae) Aa))) (Ab (Dc ii rfl (Me rfl T.cV (tpa (pv 0) Aa)) (J2 rfl (B4 (tgn 2 Ko.nd) (B4 (tgn 3 Ko.nd) Hd))) (Ab (Bm (PW.pt (Ik (ttc Dt (pv 2) (A5 rfl T.cY)) (Ik (Cl (Bt (Au aD hr.m (tpa (pv 3) Aa)))) (Ho (ttc O7 (pv 3) (Fr C9 Ae)))))) (Ad B9)
  Aw) (Ab (Et ii (ttc Fp (tix Bl (pv 1) (Fr C9 Ae)) (pv 3)) (Ad (As (fG gi qx qv fA (pv 1))))) (Ab (Bm (ttc Uz (tix Bl (pv 1) (Fr C9 Ae)) (pv 3)) (Ad B9)
  Aw) (Ad (As (Cj gi ig ie Be (pv 1) (tpa (pv 2) Aa)))))))) (Ad (Am (Dj Pa (by rfl) T.c9 R7 (tpa (pv 0) Aa))))))),?_⟩
 apply⟨_,_,_,_,rfl,.lst ha,Nl,?_⟩;apply⟨few (by simp),λp hp=>?_⟩;k_is;have t0:=An (o:=.lst [V.int (-1)]) hp;refine⟨a,rfl,⟨_,SqL.of (t0 _ _ ha)⟩,?_⟩;refine Lm (xs:=(En ds).map V.int) (λk G H1=>(∃v2 v3:Option V,G=[some (.ref a),some (.ref p),v2,v3])/\H1 p=some (.lst ((way ds k).map V.int))/\Ag H H1) ⟨⟨_,_,rfl⟩,Af,t0⟩ (λk G H1 _ h=>SqL.of (h.2.2 _ _ ha)) ?_ ?_
 ·rintro k x G H1 t hx ⟨⟨v2,v3,rfl⟩,hp1,s1⟩ ht
  have hk:=Bq hx;rw[d7,Gv] at hk;obtain⟨e,he,rfl⟩:=Rf hx;rw[Mq hk] at he;obtain rfl:=ee he;have st:=An (o:=.tup [.int k,.int (eld ds k)]) ht;have hp2:=st _ _ hp1;have s2:=s1.trans st;generalize upd H1 t _=H2 at *;apply Bo (λh=>?_) (λ_=>?_)
  ·have:=V.int.inj h
   lia
  apply⟨_,rfl,?_⟩;k_is;have hge:=Aac hD hk;refine Bo (λh=>by lia) (λ_=>?_);k_is;have hl:=Cc hD k (by lia);have hd:=hD k hk;refine Gr (λG H3=>G=[some (.ref a),some (.ref p),some (.int k),some (.int (eld ds k))]/\Ag H H3/\∃m,dAt ds k+1<=m/\m<=(way ds k).length/\H3 p=some (.lst (((way ds k).take m).map V.int))) (λ_ H3=>rS H3 p)
   ⟨rfl,s2,(way ds k).length,by lia,d8 _,by rw[fw (d8 _)];exact hp2⟩ ?_
  rintro z G H3 ⟨rfl,s3,m,hm1,hm2,hp3⟩ hz;rw[O1 hp3,Jj hm2] at hz;k_is;have hx1:(way ds k)[m-1]?=some ((way ds k)[m-1]'(by lia)):=d4 _;generalize (way ds k)[m-1]'(by lia)=y at hx1;refine Cg (SqL.of hp3) (Mu (by lia) hx1) ?_;k_is;have hea:=Ia hD hk;refine Bo (λh=>?_) (λh=>?_)
  ·have hne:m-1≠dAt ds k:=λe=>by
    rw[e,hea] at hx1;have:=ee hx1;lia
   refine Li ?_;apply⟨.inl ⟨rfl,_,SqL.of hp3⟩,?_⟩;refine⟨p,_,.int y,rfl,rfl,hp3,?_,?_⟩
   ·rw[Jj hm2,Sv (n:=y)]
    rw[gj (by lia)];exact hx1
   k_is;rw[Rx hm2];refine⟨⟨rfl,Ba s3 hp,m-1,by lia,by lia,Af⟩,?_⟩;rw[O1 Af,Jj (by lia)];lia
  ·have hme:m=dAt ds k+1:=by
    by_cases e:m-1=dAt ds k
    ·lia
    ·have:=K8 hD k (dAt ds k) (m-1) _ _ (by lia) (by lia) hea hx1
     lia
   subst hme;have hy:y=eld ds k:=by
    rw[show dAt ds k+1-1=dAt ds k by lia,hea] at hx1;exact(ee hx1).symm
   apply Cg (SqL.of hp3) (Mu (by lia) hx1) ?_;apply gU (λh1=>absurd (congrArg V.int hy) h1) (λ_=>?_);apply⟨.inl ⟨rfl,_,SqL.of hp3⟩,?_⟩;apply Bz hp3 ?_ ?_
   ·rw[Jj hm2]
    exact Ai (by have:=Nn hD k (by lia);lia)
   apply⟨⟨_,_,rfl⟩,?_,Ba s3 hp⟩;rw[Af];show _=some (HO.lst (((way ds k).take (dAt ds k+1)++[(k:Int)]).map V.int));rw[fj];rfl
 ·rintro G H1 ⟨⟨v2,v3,rfl⟩,hp1,s1⟩
  apply⟨a,_,rfl,.inl (SqL.of (s1 _ _ ha)),λl hl=>?_⟩;exact q l _ (s1.trans (An hl)) Af
inductive kQ(vs:List V)(H:Hp)(Q:VK)(E:XK):Prop|mk(a:eg)(ds:Za4)(_:vs=[.ref a])(_:H a=some (.lst ((En ds).map V.int)))(_:Dok ds)(_:ds.length<4000)(_:∀l H',Ag H H'->H' l=some (.lst (nV ds))->Q (.ref l) H')
theorem Zw {ds:Za4}{k:Nat}(hk:k<ds.length):nV (ds.take k)++[V.int (dAt ds k:Nat)]=nV (ds.take (k+1)):=by
 rw[i4,d4 hk,<-yT];unfold dAt ju;rw[d4 hk];rfl
include T in
theorem fV (F:Fun K "depths_of" "depths_of" Ld f fd):Ar P w K mg base CX0 1 f fd ["elders"] kQ:=by
 exists F.ok J7
 obtain⟨a,ds,rfl,ha,hD,hn,q⟩:=h;refine⟨_,(Ab (tst 1 J7.nd (Bn Aa)) (Ab (Dc ii rfl (Du (pv 0)) (tgn 2 J7.nd) (Ad (As (Cj gi ig ie Be (pv 1) (tpa (Ca (ttc Dt (pv 2) (Fr C9 Ae)) Ae (Ak Bd (tix Bl (pv 1) (pv 2)) Ae)) Aa))))) (Ad (Am (pv 1))))),?_⟩
 apply⟨gp _,λp hp=>?_⟩;k_is;have t0:=An (o:=.lst []) hp;refine⟨a,rfl,⟨_,SqL.of (t0 _ _ ha)⟩,?_⟩;refine Pg (xs:=(En ds).map V.int) (λk G H1=>(∃v2:Option V,G=[some (.ref a),some (.ref p),v2])/\H1 p=some (.lst (nV (ds.take k)))/\Ag H H1) ⟨⟨_,rfl⟩,Af,t0⟩ (λk G H1 _ h=>SqL.of (h.2.2 _ _ ha)) ?_ ?_
 ·rintro k x G H1 hx ⟨⟨v2,rfl⟩,hp1,s1⟩
  have hk:=Bq hx;rw[d7,Gv] at hk;obtain⟨e,he,rfl⟩:=Rf hx;rw[Mq hk] at he;obtain rfl:=ee he;have hz:(nV (ds.take k)).length<sizeLine:=by
   rw[Bw,fi];exact Ai (by lia)
  apply⟨.inl ⟨rfl,_,SqL.of hp1⟩,?_⟩;apply Bo (λh=>?_) (λh=>?_)
  ·have hd:=Aap hD hk (V.int.inj h)
   apply Bz hp1 hz ?_;apply⟨⟨_,rfl⟩,?_,Ba s1 hp⟩;rw[Af,<-Zw hk,hd];rfl
  ·obtain⟨v,hv,hlt,hd⟩:=L1 hD hk (λe=>h (congrArg V.int e))
   k_is;rw[hv];refine Cg (SqL.of hp1) (v:=.int (dAt ds v:Nat)) ?_ ?_
   ·refine A7 (pZ ?_)
    rw[gj hlt,d4 (by lia)];unfold dAt ju;rw[d4 (by lia)];rfl
   apply Bz hp1 hz ?_;apply⟨⟨_,rfl⟩,?_,Ba s1 hp⟩;rw[Af,<-Zw hk,hd];rfl
 ·rintro G H1 ⟨⟨v2,rfl⟩,hp1,s1⟩
  rw[d7,Gv,fw (d8 _)] at hp1;k_is;exact q p H1 s1 hp1
inductive pE(vs:List V)(H:Hp)(Q:VK)(E:XK):Prop|mk(a:eg)(ds:Za4)(_:vs=[.ref a])(_:H a=some (.lst ((En ds).map V.int)))(_:Dok ds)(_:ds.length<4000)(_:∀H',Ag H H'->Q (.str (Av (B1 ds))) H')
theorem T9 {l:Za4}{i:Nat}{x:V}(h:(nV l)[i]?=some x):∃n,l[i]?=some n/\x=.int (n:Nat):=by
 unfold nV at h;rw[d9] at h
 cases e:l[i]? with
 |none=>rw[e] at h;cases h
 |some n=>
  rw[e] at h;exact⟨n,rfl,(ee h).symm⟩
theorem Aem {ds:Za4}{k:Nat}(h:ds[k]?=some n):n=dAt ds k:=by
 unfold dAt ju;rw[h];rfl
include T in
theorem uG (F:Fun K "row_of" "row_of" Uq f fd)(bW:Cal P w K mg base "depths_of" 1 ["elders"] kQ)(bX:Cal P w K mg base "look_at" 2 ["elders"] wM):Ar P w K mg base CX0 3 f fd ["elders"] pE:=by
 exists F.ok Jb
 obtain⟨a,ds,rfl,ha,hD,hn,q⟩:=h;refine⟨_,(Ab (tst 1 Jb.nd (Bn Aa)) (Ab (tst 2 Jb.nd Ae) (Ab (Dc ii rfl (Du (Au bW hr.m (tpa (Au bX hr.m (tpa (pv 0) Aa)) Aa))) (tgn 3 Jb.nd) (Ab (As (Cj gi ig ie Be (pv 1) (tpa (Ak Kr (Ak oW Cy (Ak B5 (pv 2) (pv 3))) Cy) Aa))) (Ad (tst 2 Jb.nd (Ak Bd (pv 3) Ae))))) (Ab (As (Cj gi ig ie Be (pv 1) (tpa (Ak oW Cy (pv 2)) Aa))) (Ad (Am (Cj km o0 oz Of Cy (tpa (pv 1) Aa)))))))),?_⟩
 apply⟨gp _,λp hp=>?_⟩;k_is;have t0:=An (o:=.lst []) hp;refine⟨a,ds,rfl,t0 _ _ ha,hD,hn,λl1 H1 s1 hl1=>?_⟩;apply⟨l1,ds,rfl,hl1,hD,hn,λl2 H2 s2 hl2=>?_⟩;apply⟨l2,rfl,⟨_,SqL.of hl2⟩,?_⟩;have s12:=s1.trans s2;have hp2:=s12 _ _ (Af (H:=H) (a:=p) (o:=.lst []));have npl:l2≠p\/ds=[]:=by
  by_cases e:l2=p
  ·subst e
   rw[hp2] at hl2;have:=HO.lst.inj (ee hl2)
   cases ds with
   |nil=>exact .inr rfl
   |cons d r=>cases this
  ·exact .inl e
 refine Pg (xs:=nV ds) (λk G H3=>(∃v3:Option V,G=[some (.ref a),some (.ref p),some (.int (opn ds k:Nat)),v3])/\H3 p=some (.lst ((fb k).map λi=>V.str (Av (Bh ds i))))/\Ag H H3/\H3 l2=some (.lst (nV ds))) ⟨⟨_,rfl⟩,hp2,t0.trans s12,hl2⟩ (λk G H3 _ h=>SqL.of h.2.2.2) ?_ ?_
 ·rintro k x G H3 hx ⟨⟨v3,rfl⟩,hp3,s3,hl3⟩
  have hk:=Bq hx;rw[Bw] at hk;have nlp:l2≠p:=by
   rcases npl with h|h
   ·exact h
   ·rw[h] at hk;cases hk
  obtain⟨d,hd,rfl⟩:=T9 hx;obtain rfl:=Aem hd;have hop:=Nn hD k (by lia);have hdk:=hD k hk;apply⟨.inl ⟨rfl,_,SqL.of hp3⟩,?_⟩;apply⟨"0",(opn ds k:Int)-(dAt ds k:Int),rfl,rfl,by lia,by lia,?_,few (by decide),?_⟩
  ·exact f9 (Ai (by rw[show("0":Str).length=1 by rfl];lia))
  have e0:Yg ("0":Str) ((opn ds k:Int)-(dAt ds k:Int)).toNat=Av (fg (opn ds k-dAt ds k) false):=by
   rw[show((opn ds k:Int)-(dAt ds k:Int)).toNat=opn ds k-dAt ds k by lia];exact Ze false _
  rw[e0];k_is;have e1:Av (fg (opn ds k-dAt ds k) false)++("1":Str)=Av (Bh ds k):=Z2 (fg (opn ds k-dAt ds k) false) [true];refine⟨_,"1",rfl,rfl,?_,?_⟩
  ·rw[A6,lg]
   exact f9 (Ai (by rw[show("1":Str).length=1 by rfl];lia))
  rw[e1];apply Bz hp3 (by rw[d7,fe];exact Ai (by lia)) ?_;apply⟨⟨_,rfl⟩,?_,Ba s3 hp,?_⟩
  ·rw[Af,je,fj]
   rfl
  ·rw[Al nlp]
   exact hl3
 ·rintro G H3 ⟨⟨v3,rfl⟩,hp3,s3,hl3⟩
  rw[Bw] at *;have hop:=Nn hD ds.length (d8 _);apply⟨.inl ⟨rfl,_,SqL.of hp3⟩,?_⟩;apply⟨"0",(opn ds ds.length:Int),rfl,rfl,by lia,by lia,?_,few (by decide),?_⟩
  ·exact f9 (Ai (by rw[show("0":Str).length=1 by rfl];lia))
  have e0:Yg ("0":Str) ((opn ds ds.length:Int)).toNat=Av (fg (opn ds ds.length) false):=by
   rw[gw];exact Ze false _
  rw[e0];apply Bz hp3 (by rw[d7,fe];exact Ai (by lia)) ?_;apply⟨rfl,?_⟩;k_is;have ef:((fb ds.length).map (Bh ds)++[fg (opn ds ds.length) false]).flatten=B1 ds:=by
   rw[w6,List.flatten_singleton];rfl
  refine jW (ls:=(fb ds.length).map (Bh ds)++[fg (opn ds ds.length) false]) ?_ ?_ ?_
  ·rw[Af,fj,jf]
   rfl
  ·rw[ef,D4 hD]
   lia
  ·rw[ef]
   exact q _ (Ba s3 hp)
inductive Vz(vs:List V)(H:Hp)(Q:VK)(E:XK):Prop|mk(l:Za5)(_:vs=[.str (Av l)])(_:Vs 0 l)(_:l.length<=8000)(_:∀p (ds:Za4) H',Ag H H'->H p=none->H' p=some (.lst ((En ds).map V.int))->Dok ds->B1 ds=l->Q (.ref p) H')
include T aT in
theorem eZ (F:Fun K "elders_of" "elders_of" Lo f fd):Ar P w K mg base CX0 2 f fd ["text"] Vz:=by
 exists F.ok Hf
 obtain⟨l,rfl,hv,hn,q⟩:=h;refine⟨_,(Ab (As (Au aT hr.m (tpa (pv 0) Aa))) (Ab (Bm (ttc Fp (Ao B7 (by rfl) T.cK Ch (tpa (pv 0) Aa)) (A5 rfl T.cZ)) (Ad B9)
  Aw) (Ab (tst 1 Hf.nd (Bn Aa)) (Ab (tst 2 Hf.nd (Bn (tpa (Fr C9 Ae) Aa))) (Ab (Dc ii rfl (mI (pv 0)) (tgn 3 Hf.nd) (Ad (Bm (ttc Dt (pv 3) Cy) (Ab (As (Cj gi ig ie Be (pv 1) (tpa (tix Bl (pv 2) (Fr C9 Ae)) Aa))) (Ad (As (Cj gi ig ie Be (pv 2) (tpa (Ak B5 (Ao At (by rfl) T.cK Ch (tpa (pv 1) Aa)) Ae) Aa))))) (Ad (As (fG gi qx qv fA (pv 2))))))) (Ad (Am (pv 1)))))))),?_⟩
 apply⟨l,rfl,hv,hn,λH1 s1=>?_⟩;apply⟨_,rfl,by rw[A6];exact f9 (Ai (by lia)),?_⟩;k_is;rw[A6];refine Bo (λh=>by lia) (λ_=>?_);apply⟨gp _,λp hp1=>?_⟩;have hp:H p=none:=s1.free hp1;have t1:=An (o:=.lst []) hp1;apply⟨few (by simp),λy hy=>?_⟩;have t2:=An (o:=.lst [V.int (-1)]) hy;have hyH:H y=none:=(s1.trans t1).free hy;apply⟨_,rfl,?_⟩;refine rX (λi G H2=>(∃(ds:Za4) (h:Nat) (v:Option V),G=[some (.str (Av l)),some (.ref p),some (.ref y),v]/\Dok ds/\ds.length<=i/\hgt l i=(h:Int)/\h<=opn ds ds.length/\l.take i=Tg ds ds.length++fg (opn ds ds.length-h) false /\
   H2 p=some (.lst ((En ds).map V.int))/\H2 y=some (.lst (((way ds ds.length).take (h+1)).map V.int)))/\Ag H H2) ⟨⟨[],0,_,rfl,(λk hk=>by cases hk),d8 _,rfl,d8 _,rfl,t2 _ _ Af,Af⟩,(s1.trans t1).trans t2⟩ ?_ ?_
 ·have hpy:p≠y:=Aj Af hy
  rintro i c G H2 hc ⟨⟨ds,h,v,rfl,hD,hdl,hh,hop,htk,hp2,hy2⟩,s2⟩;obtain⟨b,hb,rfl⟩:=fI hc;have hi:=Bq hb;have hs:=K3 hb;have hw:=Cc hD ds.length (d8 _);obtain⟨h',hh',hvs,_⟩:=Vc hv i (by lia);have e:h'=h:=by lia
  subst e;have tk1:l.take (i+1)=l.take i++[b]:=by rw[i4,hb];rfl
  have hx:(way ds ds.length)[h'+1-1]?=some ((way ds ds.length).getD h' 0):=by
   rw[nq];unfold ju;rw[d4 (by lia)];rfl
  k_is
  cases b with
  |true=>
   refine Bo (λ_=>?_) (λh=>absurd rfl h);have hs:hgt l (i+1)=hgt l i+1:=hs;apply⟨.inl ⟨rfl,_,SqL.of hp2⟩,?_⟩;apply Cg (SqL.of hy2) (Mu (by lia) hx) ?_;apply Bz hp2 ?_ ?_
   ·rw[d7,Gv]
    exact Ai (by lia)
   k_is;have hy3:upd H2 p (.lst ((En ds).map V.int++[V.int ((way ds ds.length).getD h' 0)])) y=some (.lst (((way ds ds.length).take (h'+1)).map V.int)):=by rw[Al hpy.symm];exact hy2
   have hp3:=@Af H2 p (.lst ((En ds).map V.int++[V.int ((way ds ds.length).getD h' 0)]));have s3:=Ba (o:=.lst ((En ds).map V.int++[V.int ((way ds ds.length).getD h' 0)])) s2 hp;generalize upd H2 p _=H3 at *;refine⟨.inl ⟨rfl,_,SqL.of hy3⟩,?_⟩;apply⟨p,_,rfl,.inl (SqL.of hp3),?_⟩;k_is;rw[eh,d7,Gv];refine Bz hy3 ?_ ?_
   ·rw[Jj (by lia)]
    exact Ai (by have:=Nn hD ds.length (d8 _);lia)
   k_is;have hD2:=jY (d:=h') hD hop;have hl2:(ds++[h']).length=ds.length+1:=by rw[eh];rfl
   have ho2:opn (ds++[h']) (ds.length+1)=h'+1:=by
    show dAt (ds++[h']) ds.length+1=_;rw[Pb]
   refine⟨⟨ds++[h'],h'+1,_,rfl,hD2,by lia,by lia,by rw[hl2,ho2];exact d8 _,?_,?_,?_⟩,Ba s3 hyH⟩
   ·rw[tk1,htk,hl2,ho2,j0,List.replicate_zero,gy,Mo,Zy _ (d8 _),fm]
    unfold Bh;rw[Ot _ (d8 _),Pb]
   ·rw[Al hpy,hp3,Zd,fj]
    rfl
   ·have hwl:=Cc hD2 (ds.length+1) (by lia)
    have ew:(way (ds++[h']) (ds.length+1)).take (h'+1+1)=(way ds ds.length).take (h'+1)++[(ds.length:Int)]:=by
     rw[fw (by lia),gQ]
    have ei:(((ds.length+[V.int ((way ds ds.length).getD h' 0)].length:Nat):Int)-1)=(ds.length:Int):=by
     simp only[gn,jt];lia
    rw[Af,hl2,ew,fj,ei];rfl
  |false=>
   refine Bo (λh=>absurd h (by decide)) (λ_=>?_);have hs:hgt l (i+1)=hgt l i + -1:=hs;rw[My hb] at hvs;have hpos:=hvs.1;apply⟨.inl ⟨rfl,_,SqL.of hy2⟩,?_⟩;refine⟨y,_,.int ((way ds ds.length).getD h' 0),rfl,rfl,hy2,?_,?_⟩
   ·rw[Jj (by lia),Sv]
    rw[gj (by lia)];exact hx
   k_is;rw[Rx (by lia)];refine⟨⟨ds,h'-1,_,rfl,hD,by lia,by lia,by lia,?_,?_,?_⟩,Ba s2 hyH⟩
   ·rw[tk1,htk,fm,show opn ds ds.length-(h'-1)=opn ds ds.length-h'+1 by lia,List.replicate_succ']
   ·rw[Al hpy]
    exact hp2
   ·rw[Af,show h'-1+1=h'+1-1 by lia]
 ·rintro G H2 ⟨⟨ds,h,v,rfl,hD,hdl,hh,hop,htk,hp2,hy2⟩,s2⟩
  rw[show(Av l).cps.size=l.length from A6 l] at *;obtain⟨h',hh',hvs,_⟩:=Vc hv l.length (d8 _);rw[ji (d8 _)] at hvs;have hvs:h'=0:=hvs;have e:h=0:=by lia
  subst e;rw[fw (d8 _),qb] at htk;k_is;exact q p ds H2 s2 hp hp2 hD htk.symm
def oFs (p:V):List (Str×V):=[("pairs",p)]
inductive rM (K:d6)(CO:eg)(vs:List V)(H:Hp)(Q:VK)(E:XK):Prop|mk(x dx:eg)(p:V)(_:vs=[.ref x,p])(_:H x=some (.ins CO dx []))(_:Q .non (upd H x (.ins CO dx (oFs p))))
variable (aj:Qb K ad)
include T aj in
theorem Wn (F:Fun K "__init__" "Openings.__init__" Gz f fd):Ar P w K mg base CX0 1 f fd ["self","pairs"] (rM K ad):=by
 exists F.ok Rr
 obtain⟨x,dx,p,rfl,hx,q⟩:=h;refine⟨_,(Ad (tsf (pv 0) (pv 1))),?_⟩;k_is;exact Dr hx aj.cl aj.cS (show 0<1000 by decide) q
theorem lA {K:d6}{x p:eg}{l:Za5}{fs:List (Str×V)}(s:SameBut x H H')(hx:H x=some (.ins C dx fs))(hf:fs.length<3)(h:Bj K CB CC CP H p l):Bj K CB CC CP H' p l:=by
 obtain⟨d,b,c,t,o,h1,h2,h3,h4,h5⟩:=h;have ne:∀{y C' d':eg} {gs:List (Str×V)},H y=some (.ins C' d' gs)->3<=gs.length->y≠x:=λhy hg e=>by
  rw[e,hx] at hy;cases hy;lia
 refine⟨d,b,c,t,o,s _ _ (ne h1 (show 3<=5 by decide)) h1,Hi s (Fl hx) ?_ h2,Ki s (Fl hx) ?_ h3,h4.keep (λy xs e=>s _ _ (λz=>by rw[z,hx] at e;cases e) e),h5⟩
 ·obtain⟨d2,t2,k,_⟩:=h2
  exact ne k (d8 3)
 ·obtain⟨d2,t2,u2,k,_⟩:=h3
  exact ne k (d8 3)
def B8 (K:d6)(CB CC CP CO:eg)(H:Hp)(x:eg)(ds:Za4):Prop:=∃(dx p:eg),H x=some (.ins CO dx (oFs (.ref p)))/\Bj K CB CC CP H p (B1 ds)/\Dok ds/\ds.length<=4000
theorem Bj.kp {K:d6}{x:eg}{l:Za5}(h:Bj K CB CC CP H x l)(s:Kp H H'):Bj K CB CC CP H' x l:=by
 obtain⟨d,b,c,t,o,h1,h2,h3,h4,h5⟩:=h;exact⟨d,b,c,t,o,s.k h1,h2.kp s,h3.kp s,h4.keep λb xs e=>s.k e,h5⟩
theorem B8.kp {K:d6}{x:eg}{ds:Za4}(h:B8 K CB CC CP CO H x ds)(s:Kp H H'):B8 K CB CC CP CO H' x ds:=by
 obtain⟨dx,p,h1,h2,h3⟩:=h;exact⟨dx,p,s.k h1,h2.kp s,h3⟩
inductive jJ (K:d6)(CB CC CP CO:eg)(vs:List V)(H:Hp)(Q:VK)(E:XK):Prop|mk(x dx a:eg)(ds:Za4)(_:vs=[.ref x,.ref a])(_:H x=some (.ins CO dx []))(_:H a=some (.lst ((En ds).map V.int)))(_:Dok ds)(_:ds.length<4000)(_:∀H',SameBut x H H'->B8 K CB CC CP CO H' x ds->Q .non H')
include T aj in
theorem W0 (F:Fun K "__init__" "Opened.__init__" Iw f fd)(bY:Cal P w K mg base "row_of" 3 ["elders"] pE)(bZ:Mkr P w K mg base "Pairs" aa 7 ["self","text"] (rN K ac ab aa))(Wq:Abi P w K mg base "Openings" "__init__" 1 ["self","pairs"] (rM K ad)):Ar P w K mg base CX0 9 f fd ["self","elders"] (jJ K ac ab aa ad):=by
 exists F.ok Va
 obtain⟨x,dx,a,ds,rfl,hx,ha,hD,hn,q⟩:=h;refine⟨_,(Ad (As (Adf Wq hr.m rfl (tpa (pv 0) (tpa (Uu bZ hr.m (tpa (Au bY hr.m (tpa (pv 1) Aa)) Aa)) Aa))))),?_⟩;apply⟨a,ds,rfl,ha,hD,hn,λH1 s1=>?_⟩;have hrl:=D4 hD;have hx1:=s1 _ _ hx;k_is;intro p dp hp hdp hpd;refine⟨p,dp,B1 ds,rfl,Af,mY hD,by lia,λH5 s5 hP5=>⟨rfl,?_⟩⟩;have s5:=Jl hp hdp s5;have hx5:=s5 _ _ hx1;apply⟨x,dx,_,rfl,hx5,?_⟩;exact q _ ((s1.trans s5).but.trans A8) ⟨dx,p,Af,lA A8 hx5 (show 0<3 by decide) hP5,hD,f9 hn⟩
inductive gX (K:d6)(CB CC CP CO:eg)(vs:List V)(H:Hp)(Q:VK)(E:XK):Prop|mk(x:eg)(ds:Za4)(_:vs=[.ref x])(_:B8 K CB CC CP CO H x ds)(_:Q (.int (ds.length:Nat)) H)
include T aj in
theorem Qm (F:Fun K "many_knots" "Openings.many_knots" Dm f fd)(ce:Mth P w K mg base aa "size" 1 ["self"] (gL K ac ab aa)):Ar P w K mg base CX0 2 f fd ["self"] (gX K ac ab aa ad):=by
 exists F.ok Kc
 obtain⟨x,ds,rfl,⟨dx,p,hx,hP,hD,hn⟩,q⟩:=h;refine⟨_,(Ad (Am (Ak Cs (Kl ce hr.m (tfl (pv 0))) Ae))),?_⟩;apply⟨x,ad,dx,_,_,rfl,hx,aj.cl,aj.cS,rfl,?_⟩;obtain⟨dp,b,c,t,o,hp,_⟩:=id hP;apply⟨p,dp,_,rfl,hp,rfl,?_⟩;apply⟨p,B1 ds,rfl,hP,?_⟩;k_is;rw[D4 hD,show(((2*ds.length:Nat):Int)/2)=(ds.length:Int) by lia];exact q
inductive xC (K:d6)(CB CC CP CO:eg)(vs:List V)(H:Hp)(Q:VK)(E:XK):Prop|mk(x:eg)(ds:Za4)(_:vs=[.ref x])(_:B8 K CB CC CP CO H x ds)(_:∀H',Ag H H'->Q (.str (Av (B1 ds))) H')
include T aj in
theorem Wx (F:Fun K "row" "Openings.row" Hx f fd)(cf:Mth P w K mg base aa "text" 7 ["self"] (gH K ac ab aa)):Ar P w K mg base CX0 8 f fd ["self"] (xC K ac ab aa ad):=by
 exists F.ok S4
 obtain⟨x,ds,rfl,⟨dx,p,hx,hP,hD,hn⟩,q⟩:=h;obtain⟨dp,b,c,t,o,hp,_⟩:=id hP;refine⟨_,(Ad (Am (Kl cf hr.m (tfl (pv 0))))),?_⟩;apply⟨x,ad,dx,_,_,rfl,hx,aj.cl,aj.cS,rfl,?_⟩;apply⟨p,dp,_,rfl,hp,rfl,?_⟩;k_is;exact⟨p,_,rfl,hP,q⟩
inductive Zq (K:d6)(CB CC CP CO:eg)(vs:List V)(H:Hp)(Q:VK)(E:XK):Prop|mk(x:eg)(ds:Za4)(_:vs=[.ref x])(_:B8 K CB CC CP CO H x ds)(_:∀p H',Ag H H'->H p=none->H' p=some (.lst ((En ds).map V.int))->Q (.ref p) H')
include T aj in
theorem Wd (F:Fun K "elders" "Openings.elders" F2 f fd)(cg:Cal P w K mg base "elders_of" 2 ["text"] Vz)(ci:Mth P w K mg base ad "row" 8 ["self"] (xC K ac ab aa ad)):Ar P w K mg base CX0 9 f fd ["self"] (Zq K ac ab aa ad):=by
 exists F.ok N4
 obtain⟨x,ds,rfl,hO,q⟩:=h;obtain⟨dx,p,hx,hP,hD,hn⟩:=id hO;have hrl:=D4 hD;refine⟨_,(Ad (Am (Au cg hr.m (tpa (Kl ci hr.m (pv 0)) Aa)))),?_⟩;apply⟨x,dx,_,rfl,hx,rfl,?_⟩;apply⟨x,ds,rfl,hO,λH1 s1=>?_⟩;apply⟨B1 ds,rfl,mY hD,by lia,λp ds' H2 s2 h0 h1 hD' e=>?_⟩;obtain rfl:=yJ hD' hD e;exact q p H2 (s1.trans s2) (s1.free h0) h1
theorem uO {l:Za5}{o k:Nat}(h1:l[o]?=some true)(h2:(l.take o).count true=k):(occ true l l.length)[k]?=some o:=by
 have hl:=Bq h1;have h3:(occ true l o).length=k:=by rw[(Ms l o).1];exact h2
 rw[eF (n:=o+1) (by lia) (by rw[Jm,gg,h1,eh,h3];show k<k+1;lia),Jm,gg,h1,ft (by lia),h3,j0];rfl
inductive pY (K:d6)(CB CC CP CO:eg)(ts:List Tb)(vs:List V)(H:Hp)(Q:VK)(E:XK):Prop|mk(x:eg)(ds:Za4)(k:Nat)(_:vs=[.ref x,.int k])(_:B8 K CB CC CP CO H x ds)(_:Tbs ts H)(_:k<ds.length)(_:∀H',SmT ts H H'->Q (.int ((2*k-dAt ds k:Nat):Int)) H')
variable (ba:Cal P w K mg base "check_knot" 3 ["k","many_knots"] pQ) (aH:Mth P w K mg base ad "many_knots" 2 ["self"] (gX K ac ab aa ad))
include T aj ba aH in
theorem Q6 (F:Fun K "opening" "Openings.opening" Ff f fd)(cj:Mth P w K mg base aa "opening" 6 ["self","number"] (N1 K ac ab aa ts)) :
  Ar P w K mg base CX0 7 f fd ["self","k"] (pY K ac ab aa ad ts):=by
 exists F.ok Nb
 obtain⟨x,ds,k,rfl,hO,hT,hk,q⟩:=h;obtain⟨dx,p,hx,hP,hD,hn⟩:=id hO;obtain⟨dp,b,c,t,o,hp,_⟩:=id hP;refine⟨_,(Ab (As (Au ba hr.m (tpa (pv 1) (tpa (Kl aH hr.m (pv 0)) Aa)))) (Ad (Am (Aq cj hr.m (tfl (pv 0)) (tpa (pv 1) Aa))))),?_⟩
 apply⟨x,dx,_,rfl,hx,rfl,?_⟩;apply⟨x,ds,rfl,hO,?_⟩;apply⟨k,_,rfl,by lia,by lia,?_⟩;apply⟨x,ad,dx,_,_,rfl,hx,aj.cl,aj.cS,rfl,?_⟩;apply⟨p,dp,_,rfl,hp,rfl,?_⟩;k_is;obtain⟨_,h1,h2⟩:=Mc hD hk;exact⟨p,_,k,2*k-dAt ds k,rfl,hP,hT,uO h1 h2,q⟩
theorem nE {l:Za5}{lo hi j:Nat}{h:Int}{r:Option Nat}(h1:Sd l lo hi h (some j))(h2:Sd l lo hi h r):r=some j:=by
 obtain⟨a1,a2,a3,a4⟩:=h1
 cases r with
 |none=>exact absurd a3 (h2 j a1 a2)
 |some i=>
  obtain⟨b1,b2,b3,b4⟩:=h2;rcases DU i j with h|h|h
  ·exact absurd b3 (a4 i b1 h)
  ·rw[h]
  ·exact absurd a3 (b4 j a1 h)
theorem yS {ds:Za4}(h:Dok ds){k:Nat}(hk:k<ds.length):Sd (B1 ds) (2*k-dAt ds k) (B1 ds).length (hgt (B1 ds) (2*k-dAt ds k)) (some (2*k-dAt ds k+2*(Ee ds k).length+1+1)):=by
 obtain⟨A,B,h1,h2,h3,h4,h5,h6⟩:=Tk h hk;have hu:=U8 (Px h hk);have hl:=congrArg yq h2;have hlu:=D4 (Px h hk);rw[eh,eh,hlu] at hl;have hg0:hgt (B1 ds) (2*k-dAt ds k)=dAt ds k:=h4;have hin:∀i,2*k-dAt ds k<i->i<2*k-dAt ds k+2*(Ee ds k).length+1+1->hgt (B1 ds) i≠dAt ds k:=λi i1 i2 he=>by
  have e5:=h5 (i-A.length) (by lia);rw[show A.length+(i-A.length)=i by lia] at e5;have e6:=hu.1 (i-A.length) (by lia);have he:hg (B1 ds) i=dAt ds k:=he;lia
 rw[hg0];have e6:hgt (B1 ds) (2*k-dAt ds k+2*(Ee ds k).length+1+1)=dAt ds k:=by
  have:=h6;rw[h1,show 2*k-dAt ds k+1+2*(Ee ds k).length+1=2*k-dAt ds k+2*(Ee ds k).length+1+1 by lia] at this;exact this
 refine⟨by lia,?_,e6,hin⟩;have hB:0<B.length:=by
  cases B with
  |cons b B=>exact x8 _
  |nil=>
   exfalso;rw[gy] at h2;have e7:=(U8 h).2;rw[show 2*ds.length=A.length+2*(Ee ds k).length by rw[<-D4 h,hl];rfl,h5 _ (d8 _),hu.2] at e7;lia
 lia
inductive iR (K:d6)(CB CC CP CO:eg)(ts:List Tb)(vs:List V)(H:Hp)(Q:VK)(E:XK):Prop|mk(x:eg)(ds:Za4)(k:Nat)(_:vs=[.ref x,.int k])(_:B8 K CB CC CP CO H x ds)(_:Tbs ts H)(_:k<ds.length)(_:∀H',SmT ts H H'->Q (.int ((2*k-dAt ds k+2*(Ee ds k).length+1:Nat):Int)) H')
variable (bc:Mth P w K mg base aa "partner" 10 ["self","place"] (Y8 K ac ab aa)) (av:Mth P w K mg base ad "opening" 7 ["self","k"] (pY K ac ab aa ad ts))
include T aj bc av in
theorem Q0 (F:Fun K "closing" "Openings.closing" E7 f fd) :
  Ar P w K mg base CX0 11 f fd ["self","k"] (iR K ac ab aa ad ts):=by
 exists F.ok M6
 obtain⟨x,ds,k,rfl,hO,hT,hk,q⟩:=h;obtain⟨dx,p,hx,hP,hD,hn⟩:=id hO;obtain⟨dp,b,c,t,o,hp,_⟩:=id hP;refine⟨_,(Ad (Am (Aq bc hr.m (tfl (pv 0)) (tpa (Aq av hr.m (pv 0) (tpa (pv 1) Aa)) Aa)))),?_⟩;apply⟨x,ad,dx,_,_,rfl,hx,aj.cl,aj.cS,rfl,?_⟩;apply⟨p,dp,_,rfl,hp,rfl,?_⟩;apply⟨x,dx,_,rfl,hx,rfl,?_⟩;apply⟨x,ds,k,rfl,hO,hT,hk,λH1 s1=>?_⟩;k_is;obtain⟨_,h1,_⟩:=Mc hD hk;have hlt:=Bq h1;have hP1:=hP.kp s1.kp;refine⟨p,_,2*k-dAt ds k,rfl,hP1,hlt,λj H2 hj _ s2=>?_⟩;have hu:=nE (yS hD hk) (hj (by rw[gg,h1];rfl));obtain rfl:j=2*k-dAt ds k+2*(Ee ds k).length+1:=ug (ee hu);exact q H2 (s1.then s2)
inductive Ys (K:d6)(CB CC CP CO:eg)(vs:List V)(H:Hp)(Q:VK)(E:XK):Prop|mk(x:eg)(ds:Za4)(k:Nat)(_:vs=[.ref x,.int ((2*k-dAt ds k:Nat):Int)])(_:B8 K CB CC CP CO H x ds)(_:k<ds.length)(_:∀H',Ag H H'->Q (.int (k:Nat)) H')
include T aR aX aj bc in
theorem Q4 (F:Fun K "knot_at" "Openings.knot_at" E8 f fd) :
  Ar P w K mg base CX0 11 f fd ["self","place"] (Ys K ac ab aa ad):=by
 exists F.ok M0
 obtain⟨x,ds,k,rfl,hO,hk,q⟩:=h;obtain⟨dx,p,hx,hP,hD,hn⟩:=id hO;obtain⟨dp,b,c,t,o,hp,hB,hC,_⟩:=id hP;obtain⟨_,h1,h2⟩:=Mc hD hk;have hlt:=Bq h1;refine⟨_,(Ad (Am (Aq aR hr.m (tfl (pv 0)) (tpa (Ca (Bt (Aq aX hr.m (tfl (pv 0)) (tpa (pv 1) Aa))) (pv 1) (Aq bc hr.m (tfl (pv 0)) (tpa (pv 1) Aa))) Aa)))),?_⟩;apply⟨x,ad,dx,_,_,rfl,hx,aj.cl,aj.cS,rfl,?_⟩;apply⟨p,dp,_,rfl,hp,rfl,?_⟩;apply⟨x,ad,dx,_,_,rfl,hx,aj.cl,aj.cS,rfl,?_⟩;apply⟨p,dp,_,rfl,hp,rfl,?_⟩;apply⟨p,_,2*k-dAt ds k,rfl,hP,hlt,?_⟩;rw[show(B1 ds).getD (2*k-dAt ds k) false=true by rw[gg,h1];rfl];apply⟨p,dp,c,_,_,2*k-dAt ds k,rfl,hp,rfl,hC,by lia,λH1 s1=>?_⟩;rw[(Ms (B1 ds) (2*k-dAt ds k)).1,show cnt (B1 ds) (2*k-dAt ds k)=k from h2];exact q H1 s1
inductive Ud (K:d6)(CB CC CP CO:eg)(ts:List Tb)(vs:List V)(H:Hp)(Q:VK)(E:XK):Prop|mk(x:eg)(ds:Za4)(k:Nat)(_:vs=[.ref x,.int k])(_:B8 K CB CC CP CO H x ds)(_:Tbs ts H)(_:k<ds.length)(_:∀H',SmT ts H H'->Q (.int ((Ee ds k).length:Nat)) H')
include T aj av in
theorem Qz (F:Fun K "beneath" "Openings.beneath" E3 f fd)(ck:Mth P w K mg base ad "closing" 11 ["self","k"] (iR K ac ab aa ad ts)) :
  Ar P w K mg base CX0 12 f fd ["self","k"] (Ud K ac ab aa ad ts):=by
 exists F.ok M4
 obtain⟨x,ds,k,rfl,hO,hT,hk,q⟩:=h;obtain⟨dx,p,hx,_⟩:=id hO;refine⟨_,(Ad (Am (Ak Cs (Ak B5 (Aq ck hr.m (pv 0) (tpa (pv 1) Aa)) (Aq av hr.m (pv 0) (tpa (pv 1) Aa))) Ae))),?_⟩;apply⟨x,dx,_,rfl,hx,rfl,?_⟩;apply⟨x,ds,k,rfl,hO,hT,hk,λH1 s1=>?_⟩;apply⟨x,dx,_,rfl,s1.k hx,rfl,?_⟩;apply⟨x,ds,k,rfl,hO.kp s1.kp,s1.ok,hk,λH2 s2=>?_⟩;k_is;rw[show(((2*k-dAt ds k+2*(Ee ds k).length+1:Nat):Int)-((2*k-dAt ds k:Nat):Int))/2=((Ee ds k).length:Int) by lia];exact q H2 (s1.trans s2)
theorem kX {l:Za5}{p j:Nat}{h:Int}{r:Option Nat}(h1:Mi l p h (some j))(h2:Mi l p h r):r=some j:=by
 obtain⟨a1,a2,a3⟩:=h1
 cases r with
 |none=>exact absurd a2 (h2 j a1)
 |some i=>
  obtain⟨b1,b2,b3⟩:=h2;rcases DU i j with h|h|h
  ·exact absurd a2 (b3 j h a1)
  ·rw[h]
  ·exact absurd b2 (a3 i h b1)
inductive qU (K:d6)(CB CC CP CO:eg)(ts:List Tb)(vs:List V)(H:Hp)(Q:VK)(E:XK):Prop|mk(x:eg)(ds:Za4)(a b:Nat)(_:vs=[.ref x,.int b,.int a])(_:B8 K CB CC CP CO H x ds)(_:Tbs ts H)(_:a<b)(_:b<ds.length)(_:∀(m:Nat) r H',Aeb ds a b m->(m=0->r=.non)->(∀c:Nat,0<m->(way ds b)[m]?=some (c:Int)->r=.int c)->SmT ts H H'->Q r H')
include T aZ aj av in
theorem Q5 (F:Fun K "nearest" "Openings.nearest" Fe f fd)(cm:Mth P w K mg base aa "lowest" 10 ["self","low","high"] (lC K ac ab aa))(cn:Mth P w K mg base ad "knot_at" 11 ["self","place"] (Ys K ac ab aa ad)):Ar P w K mg base CX0 12 f fd ["self","one","other"] (qU K ac ab aa ad ts):=by
 exists F.ok Cz
 obtain⟨x,ds,a,b,rfl,hO,hT,hab,hb,q⟩:=h;obtain⟨dx,p,hx,hP,hD,hn⟩:=id hO;obtain⟨dp,bb,c,t,o,hp,_⟩:=id hP;have hmo:=Od hD hab hb;refine⟨_,(Ab (tst 3 Cz.nd (Ao (R0 rfl) (by rfl) T.cW Xe (tpa (Aq av hr.m (pv 0) (tpa (pv 1) Aa)) (tpa (Aq av hr.m (pv 0) (tpa (pv 2) Aa)) Aa)))) (Ab (tst 4 Cz.nd (Ao (sM rfl) (by rfl) T.dH Acy (tpa (Aq av hr.m (pv 0) (tpa (pv 1) Aa)) (tpa (Aq av hr.m (pv 0) (tpa (pv 2) Aa)) Aa)))) (Ab (Bm (ttc Dt (pv 3) (pv 4)) (Ad (Am (pv 1)))
  Aw) (Ab (tst 5 Cz.nd (Aq cm hr.m (tfl (pv 0)) (tpa (Ak Bd (pv 3) Ae) (tpa (pv 4) Aa)))) (Ad (Am (Ca (ttc Fp (tix Bs (pv 5) Ae) Ae) (Aq cn hr.m (pv 0) (tpa (Aq aZ hr.m (tfl (pv 0)) (tpa (tix Bs (pv 5) Ae) (tpa (Ak B5 (tix Bs (pv 5) Ae) Ae) Aa))) Aa)) Ek))))))),?_⟩
 apply⟨x,dx,_,rfl,hx,rfl,?_⟩;apply⟨x,ds,b,rfl,hO,hT,hb,λH1 s1=>?_⟩;apply⟨x,dx,_,rfl,s1.k hx,rfl,?_⟩;apply⟨x,ds,a,rfl,hO.kp s1.kp,s1.ok,by lia,λH2 s2=>?_⟩;have s12:=s1.trans s2;apply⟨_,_,rfl,?_⟩;rw[if_pos (by lia)];apply⟨x,dx,_,rfl,s12.k hx,rfl,?_⟩;apply⟨x,ds,b,rfl,hO.kp s12.kp,s12.ok,hb,λH3 s3=>?_⟩;have s13:=s12.trans s3;apply⟨x,dx,_,rfl,s13.k hx,rfl,?_⟩;apply⟨x,ds,a,rfl,hO.kp s13.kp,s13.ok,by lia,λH4 s4=>?_⟩;have s14:=s13.trans s4;apply⟨_,_,rfl,?_⟩;rw[if_neg (by lia)];apply Bo (λh=>absurd (V.int.inj h) (by lia)) (λ_=>?_);apply⟨x,ad,dx,_,_,rfl,s14.k hx,aj.cl,aj.cS,rfl,?_⟩;apply⟨p,dp,_,rfl,s14.k hp,rfl,?_⟩;k_is;have hol:=Bq (Mc hD hb).2.1;refine⟨p,_,2*a-dAt ds a+1,2*b-dAt ds b,rfl,hP.kp s14.kp,by lia,by lia,λmm v tp H5 hlow hv1 hv2 s5 htp=>?_⟩;have s15:=s14.then s5;obtain⟨⟨p0,p1,p2,p3⟩,hall⟩:=hlow;have hmm:0<=mm:=by
  have:=(U8 hD).1 p0 (by rw[<-D4 hD];lia);have p3:hg (B1 ds) p0=mm:=p3;lia
 obtain⟨m,rfl⟩:∃m:Nat,mm=(m:Int):=⟨mm.toNat,by lia⟩;have hN:=Aa1 hD hab hb hall p1 p2 p3;apply Cd (SqT.of htp) (v:=.int (m:Int)) rfl ?_;apply Bo (λh0=>?_) (λh0=>?_)
 ·obtain⟨m,rfl⟩:∃m',m=m'+1:=⟨m-1,by lia⟩
  obtain⟨c,c1,c2,c3,c4,c5⟩:=fR hD hab hb hN;have hcl:c<ds.length:=by lia
  have hca:2*c-dAt ds c<=2*a-dAt ds a:=by
   rcases mq c3 with z|z
   ·exact f9 (Od hD z (by lia))
   ·rw[z];exact d8 _
  obtain⟨j,rfl,hj1,hj2⟩:∃j:Nat,v=.int j/\2*a-dAt ds a+1<=j/\j<=2*b-dAt ds b:=by
   by_cases e:((m+1:Nat):Int)=hgt (B1 ds) (2*a-dAt ds a+1)
   ·exact⟨_,hv1 e,d8 _,by lia⟩
   ·obtain⟨j,e1,e2,e3,e4,e5⟩:=hv2 e
    refine⟨j,e1,by lia,nl λz=>?_⟩;refine e5 p0 ?_ (by lia) p3;rcases mq p1 with y|y
    ·exact y
    ·exact absurd (by rw[y];exact p3.symm) e
  have hlast:Mi (B1 ds) j (m:Int) (some (2*c-dAt ds c)):=by
   obtain⟨_,_,_,_,_,g,_⟩:=Tk hD hcl;refine⟨by lia,by rw[<-c4];exact g,λi i1 i2=>?_⟩;have:=Adc hD hb c1 c5 (p:=i) i1 (by lia);have e:hgt (B1 ds) i=hg (B1 ds) i:=rfl;rw[e];lia
  apply⟨x,dx,_,rfl,s15.k hx,rfl,?_⟩;apply⟨x,ad,dx,_,_,rfl,s15.k hx,aj.cl,aj.cS,rfl,?_⟩;apply⟨p,dp,_,rfl,s15.k hp,rfl,?_⟩;apply Cd (SqT.of htp) (v:=.int (j:Int)) rfl ?_;apply Cd (SqT.of htp) (v:=.int ((m+1:Nat):Int)) rfl ?_;apply⟨p,_,j,(m:Int),by rw[show(((m+1:Nat):Int)-1)=(m:Int) by lia];rfl,hP.kp s15.kp,by lia,λr H6 hr6 s6=>?_⟩;rw[kX hlast hr6];have s16:=s15.then s6;apply⟨x,ds,c,rfl,hO.kp s16.kp,hcl,λH7 s7=>?_⟩;exact q (m+1) _ H7 hN (λz=>by lia) (λc' _ e=>by rw[c1] at e;have:=ee e;rw[this]) (s16.then s7)
 ·k_is
  exact q m _ H5 hN (λ_=>rfl) (λc h=>absurd h (by lia)) s15
theorem yK {x:Str}(hg:Gl X x)(hm:∃t,X.mg x=some (.str z t))(hd:autoParam ((x==("__debug__":Str))=false) QF):PE X (.Name x pos) (tC (.str z)):=by
 obtain⟨t,h⟩:=hm;exact Oc hg h ⟨t,rfl⟩ hd
def nmV:V->Bool
 |.str z=>Hr z
 |_=>false
theorem uE (c:Nat):(!(mo ("abcdefghijklmnopqrstuvwxyz":Str) (sgn c) 0 ("abcdefghijklmnopqrstuvwxyz":Str).length 1).isEmpty)=Vk c:=by
 rw[show(!(mo ("abcdefghijklmnopqrstuvwxyz":Str) (sgn c) 0 ("abcdefghijklmnopqrstuvwxyz":Str).length 1).isEmpty)=decide (c∈("abcdefghijklmnopqrstuvwxyz":Str).cps.toList) from GJ "abcdefghijklmnopqrstuvwxyz" c];unfold Vk;refine decide_eq_decide.mpr ?_;rw[show("abcdefghijklmnopqrstuvwxyz":Str).cps.toList=(fb 26).map (97 + ·) by decide +kernel,lp];exact⟨λ⟨i,hi,e⟩=>by have:=jm.mp hi;lia,λh=>⟨c-97,jm.mpr (by lia),by lia⟩⟩
inductive iC (K:d6)(vs:List V)(H:Hp)(Q:VK)(E:XK):Prop|mk(x:V)(_:vs=[x])(_:Af2 K H x)(_:(∀z,x=.str z->z.length<=100))(_:∀H',Ag H H'->Q (.bl (nmV x)) H')
include T in
theorem nY (F:Fun K "is_name" "is_name" Mj f fd):Ar P w K mg base CX0 1 f fd ["thing"] (iC K):=by
 exists F.ok mJ
 obtain⟨x,rfl,hA,hz,q⟩:=h;refine⟨_,(Ab (Bm (PW.pt (Ik (Cl (Bt (Ao Cr (by rfl) T.cR Ci (tpa (pv 0) (tpa (G9 (v:=.ty "str") rfl T.dA vX rfl) Aa))))) (Ik (ttc Dt (Ao B7 (by rfl) T.cK Ch (tpa (pv 0) Aa)) Ae) (Ho (ttc Fp (Ao B7 (by rfl) T.cK Ch (tpa (pv 0) Aa)) (A5 rfl T.df)))))) (Ad (Am Jk))
  Aw) (Ad (Am (Ao (wQ rfl) (by rfl) T.n_all Agz (tpa (Lc rfl eC (mI (pv 0)) (λ_ _ _ _=>Cb) (λ_ _ _ _=>(rO tF (pv 0) (yK rfl T.cX) rfl))) Aa))))),?_⟩
 obtain⟨t,ht,hk⟩:=hA;apply⟨_,_,_,_,rfl,ht,hk,?_⟩;k_is
 cases hb:isS x with
 |false=>
  have e:nmV x=false:=by cases x<;>first|rfl|cases hb
  k_is;have:=q H (Ag.refl _);rw[e] at this;exact this
 |true=>
  obtain⟨z,rfl⟩:∃z,x=.str z:=by
   cases x with
   |str z=>exact⟨z,rfl⟩
   |_=>cases hb
  have hz:=hz z rfl;apply⟨z,rfl,f9 (Ai (by lia)),?_⟩;apply Bo (λh=>?_) (λh0=>?_)
  ·have e:nmV (.str z)=false:=by
    have:=V.int.inj h;show(decide _&&_)=false;rw[decide_eq_false (by lia),wk]
   k_is;have:=q H (Ag.refl _);rw[e] at this;exact this
  have h0:z.length≠0:=λe=>h0 (by rw[e];rfl);apply⟨z,rfl,f9 (Ai (by lia)),?_⟩;apply Bo (λh=>?_) (λh8=>?_)
  ·have e:nmV (.str z)=false:=by
    show(decide _&&_)=false;rw[decide_eq_false (by lia),wk]
   k_is;have:=q H (Ag.refl _);rw[e] at this;exact this
  apply⟨z,rfl,?_⟩;refine Aej (λi=>((z.cps.toList.take i).map Vk).map V.bl) rfl (λi hi=>?_) (λi c H1 R A hc s1 kR kA=>?_) (λD H1 hD s1 hD1=>?_)
  ·rw[d7,d7,fi]
   have:z.cps.toList.length=z.length:=gh;exact Ai (by lia)
  ·apply⟨_,_,rfl,rfl,?_⟩;rw[uE];refine kA _ _ ?_ (Ag.refl _);rw[i4,show z.cps.toList[i]?=some c by rw[gr];exact hc,fj,fj];rfl
  ·have el:z.cps.toList.take z.cps.size=z.cps.toList:=fw (by rw[gh];exact d8 _)
   rw[el] at hD1;apply⟨D,_,rfl,SqL.of hD1,?_⟩;have:=q H1 s1;have e:nmV (.str z)=(z.cps.toList.map Vk).all id:=by
    show(decide _&&_)=_;rw[decide_eq_true (by lia),z8,List.all_map];rfl
   rw[e] at this;exact this
inductive U1 (K:d6)(vs:List V)(H:Hp)(Q:VK)(E:XK):Prop|mk(a:eg)(nm:Za6)(_:vs=[.ref a])(_:H a=some (.lst (sV nm)))(_:(∀x∈nm,Hr x=true))(_:nm.length<=4000)(_:∀H',Ag H H'->Q .non H')
theorem K7 {x:Str}(h:Hr x=true):1<=x.length/\x.length<=8:=of_decide_eq_true (wl.mp h).1
variable (be:Cal P w K mg base "is_name" 1 ["thing"] (iC K))
include T be in
theorem Vm (F:Fun K "check_names" "check_names" Ir f fd):Ar P w K mg base CX0 2 f fd ["names"] (U1 K):=by
 exists F.ok Hy
 obtain⟨a,nm,rfl,ha,hN,hn,q⟩:=h;refine⟨_,(Ad (Dc ii rfl (Me rfl T.cV (tpa (pv 0) Aa)) (J2 rfl (B4 (tgn 1 Hy.nd) (B4 (tgn 2 Hy.nd) Hd))) (Ad (Bm (Cl (Bt (Au be hr.m (tpa (pv 2) Aa)))) (Ad B9)
  Aw)))),?_⟩
 apply⟨a,rfl,⟨_,SqL.of ha⟩,?_⟩;refine Lm (xs:=sV nm) (λk G H1=>(∃v2 v3:Option V,G=[some (.ref a),v2,v3])/\Ag H H1) ⟨⟨_,_,rfl⟩,Ag.refl _⟩ (λk G H1 _ h=>SqL.of (h.2 _ _ ha)) ?_ ?_
 ·rintro k x G H1 t hx ⟨⟨v2,v3,rfl⟩,s1⟩ ht
  obtain⟨z,hz,rfl⟩:=gB hx;have hm:=hN z (f8 hz);have s2:=s1.trans (An (o:=.tup [.int k,.str z]) ht);generalize upd H1 t _=H2 at *;apply⟨_,rfl,jH _,λy e=>?_,λH3 s3=>?_⟩
  ·obtain rfl:=V.str.inj e
   have:=K7 hm;lia
  rw[show nmV (.str z)=true from hm];k_is;exact⟨⟨_,_,rfl⟩,s2.trans s3⟩
 ·rintro G H1 ⟨⟨v2,v3,rfl⟩,s1⟩
  k_is;exact q H1 s1
def Xj (H:Hp)(as:List eg)(rows:List (Str×Nat×Nat)):Prop:=as.length=rows.length/\∀(i:Nat) a r,as[i]?=some a->rows[i]?=some r->H a=some (.tup [.str r.1,.int r.2.1,.int r.2.2])
theorem Xj.kp {rows:List (Str×Nat×Nat)}(h:Xj H as rows)(s:Kp H H'):Xj H' as rows:=⟨h.1,λi a r e1 e2=>s.k (h.2 i a r e1 e2)⟩
theorem Xj.snoc {rows:List (Str×Nat×Nat)}{a:eg}{r:Str×Nat×Nat}(h:Xj H as rows)(ha:H a=some (.tup [.str r.1,.int r.2.1,.int r.2.2])):Xj H (as++[a]) (rows++[r]):=by
 refine⟨by rw[eh,eh,h.1];rfl,λi b q e1 e2=>?_⟩
 by_cases hi:i<as.length
 ·rw[f7 hi] at e1
  rw[f7 (by rw[<-h.1];exact hi)] at e2;exact h.2 i b q e1 e2
 ·rw[ft (by lia)] at e1
  rw[ft (by rw[<-h.1];lia),<-h.1] at e2;have e0:i-as.length=0:=by have:=Bq e1;simp at this;lia
  rw[e0] at e1 e2;cases e1;cases e2;exact ha
theorem sB (xs:List V):G8 xs (some 1) none=xs.drop 1:=by
 unfold G8;rw[show((1:Int))=((1:Nat):Int) from rfl,HT.sIx_nat];show(xs.drop (min 1 xs.length)).take (xs.length-min 1 xs.length)=_;rw[fw (by rw[ic];lia)]
 by_cases h:1<=xs.length
 ·rw[io h]
 ·rw[ji (by lia),ji (by lia)]
theorem dQ (S:Za6)(k:Nat):(bgs S k).length<=k:=by
 unfold bgs occ;have:=j9 (λi=>(bgN S).getD i false==true) (fb k);rw[fe] at this;exact this
inductive Su(vs:List V)(H:Hp)(Q:VK)(E:XK):Prop|mk(a:eg)(S:Za6)(_:vs=[.ref a])(_:H a=some (.lst (sV S)))(_:S.length<=4000)(_:∀l as H',Ag H H'->H l=none->H' l=some (.lst (as.map V.ref))->Xj H' as (Fa S S.length)->Q (.ref l) H')
include T in
theorem S6 (F:Fun K "stretches_of" "stretches_of" Dv f fd):Ar P w K mg base CX0 1 f fd ["names"] Su:=by
 exists F.ok Ks
 obtain⟨a,S,rfl,ha,hn,q⟩:=h;refine⟨_,(Ab (F7 (i:=1) rfl Og Ks.nd rfl rfl (Fk rfl T.cN (tpa (Ao At (by rfl) T.cK Ch (tpa (pv 0) Aa)) Aa)) (λ_ _ _ _=>Md (PW.pt (Ik (ttc Dt (pv 0) Ae) (Ho (ttc Uz (tix (Jo K) (pv 1) (pv 0)) (tix (Jo K) (pv 1) (Ak B5 (pv 0) Ae))))))) (λ_ _ _ _=>(pv 0))) (Ad (Am (mH rfl Ow (eN rfl T.c7 (tpa (pv 1) (tpa (Ak Ix (Cf Op (pv 1) (B3 Ae) Hb) (Bn (tpa (Ao At (by rfl) T.cK Ch (tpa (pv 0) Aa)) Aa))) Aa))) (λ_ _ _ _=>Cb) (λ_ _ _ _=>(N8 (tpa (tix (Jo K) (pv 2) (pv 0)) (tpa (pv 0) (tpa (pv 1) Aa))))))))),?_⟩
 apply⟨a,_,rfl,.inl (SqL.of ha),?_⟩;rw[Fc];apply⟨_,rfl,by lia,by lia,?_⟩;rw[gw];refine Jy (λi=>nV (bgs S i)) rfl (λi hi=>?_) (λi H1 R A hi s1 kR kA=>?_) (λD H1 hD s1 hD1=>?_)
 ·rw[Bw]
  exact Ai (by have:=dQ S i;lia)
 ·have hb:=Jw hi
  obtain⟨x,hx⟩:∃x,S[i]?=some x:=⟨_,d4 hi⟩;rw[show(0+(i:Int))=(i:Int) by lia];have a1:=s1 _ _ ha
  by_cases h0:i=0
  ·rw[if_pos (.inl h0)] at hb
   apply Bo (λ_=>?_) (λz=>absurd (by rw[h0];rfl) z);apply kA _ _ ?_ (Ag.refl _);rw[hb,Mm]
  ·obtain⟨y,hy⟩:∃y,S[i-1]?=some y:=⟨_,d4 (by lia)⟩
   apply Bo (λz=>absurd (V.int.inj z) (by lia)) (λ_=>?_);apply Cg (SqL.of a1) (v:=.str x) (A7 (by rw[d9,hx];rfl)) ?_;k_is;rw[show((i:Int)-1)=((i-1:Nat):Int) by lia];refine Cg (SqL.of a1) (v:=.str y) (A7 (by rw[d9,hy];rfl)) ?_;refine⟨rfl,?_⟩;apply gU (λh=>?_) (λh=>?_)
   ·rw[if_pos (.inr λz=>h (by rw[hx,hy] at z;rw[ee z]))] at hb
    apply kA _ _ ?_ (Ag.refl _);rw[hb,Mm]
   ·have e:x=y:=V.str.inj h
    rw[if_neg (by rintro(z|z);exact h0 z;exact z (by rw[hx,hy,e])),gy] at hb;k_is;exact kR (by rw[hb]) _ (Ag.refl _)
 have h1:=s1 _ _ ha;apply⟨D,_,rfl,SqL.of hD1,λp hp=>?_⟩;rw[sB] at *;obtain⟨u2,hp2⟩:=A4 (o:=.lst ((nV (bgs S S.length)).drop 1)) hp;have h2:=u2 _ _ h1;have hD2:=u2 _ _ hD1;have s2:=s1.trans u2;generalize upd H1 p _=H2 at *;apply⟨a,_,rfl,.inl (SqL.of h2),?_⟩;rw[Fc];apply⟨few (by simp),λp3 hp3=>?_⟩;obtain⟨u3,hp33⟩:=A4 (o:=.lst [V.int (S.length:Nat)]) hp3;have h3:=u3 _ _ h2;have hD3:=u3 _ _ hD2;have hp4:=u3 _ _ hp2;have s3:=s2.trans u3;generalize upd H2 p3 _=H3 at *;have hbl:=dQ S S.length;have hdl:((nV (bgs S S.length)).drop 1).length=(bgs S S.length).length-1:=by rw[ic,Bw]
 refine⟨p,p3,_,_,rfl,rfl,hp4,hp33,f9 (Ai (by rw[hdl,ja];lia)),λp5 hp5=>?_⟩;obtain⟨u5,hp55⟩:=A4 (o:=.lst ((nV (bgs S S.length)).drop 1++[V.int (S.length:Nat)])) hp5;have h5:=u5 _ _ h3;have hD5:=u5 _ _ hD3;have s5:=s3.trans u5;generalize upd H3 p5 _=H5 at *;apply⟨D,p5,rfl,⟨_,SqL.of hD5⟩,⟨_,SqL.of hp55⟩,?_⟩;have eE:(nV (bgs S S.length)).drop 1++[V.int (S.length:Nat)]=nV ((bgs S S.length).drop 1++[S.length]):=by
  unfold nV;rw[fj,qg];rfl
 rw[eE] at hp55;have eL:((bgs S S.length).drop 1++[S.length]).length=(bgs S S.length).length-1+1:=by rw[eh,ic,ja]
 refine eK (SqL.of hD5) (SqL.of hp55) (λD i zs H=>∃as:List eg,zs=as.map V.ref/\Xj H as ((Fa S S.length).take i)) (λD H _ _=>⟨[],rfl,rfl,λi a r e=>by cases e⟩) (λD i zs H us o hu ⟨as,e,hR⟩=>⟨as,e,hR.1,λi a r e1 e2=>?_⟩)
  (λD i zs H hi ⟨as,e,hR⟩=>?_) (λD i zs H H' s ⟨as,e,hR⟩=>⟨as,e,hR.kp (Ag.kp s)⟩) (λD i zs x y H6 A R hx hy s6 _ _ hP hA=>?_) (λD2 zs H6 hD2 s6 hP h6=>?_)
 ·rw[Al (Il (hR.2 i a r e1 e2) hu (by intro z;cases z))]
  exact hR.2 i a r e1 e2
 ·rw[e,d7,hR.1,fi]
  rw[Bw,Bw] at hi;exact Ai (by lia)
 ·obtain⟨as,rfl,hR⟩:=hP
  obtain⟨b,hb,rfl⟩:=T9 hx;obtain⟨e,he,rfl⟩:=T9 hy;obtain⟨hlt,_⟩:=Aeo hb;apply Cg (SqL.of (s6 _ _ h5)) (v:=.str (S.getD b ⟨#[]⟩)) (A7 (by rw[d9,gg,d4 hlt];rfl)) ?_;apply⟨few (by simp),λt ht=>?_⟩;refine hA _ _ (An ht) ⟨as++[t],by rw[fj];rfl,?_⟩;have er:(Fa S S.length).take (i+1)=(Fa S S.length).take i++[Re S b e]:=by
   rw[i4];congr 1;unfold Fa;rw[d9,(nw (z:=(b,e))).mpr ⟨hb,he⟩];rfl
  rw[er];exact(hR.kp (Ag.kp (An ht))).snoc (r:=Re S b e) Af
 ·obtain⟨as,rfl,hR⟩:=hP
  rw[fw (by unfold Fa;rw[d7,sg,Bw,Bw];exact d8 _)] at hR;exact q D2 as H6 (s5.trans s6) (s5.free hD2) h6 hR
structure Kee (S:Prop):Prop where
 q:S
theorem U2 {c S T:Prop}[Decidable c](h1:Kee S->c->T)(h2:Kee S->¬ c->T)(h:S):T:=(DL c).elim (h1 ⟨h⟩) (h2 ⟨h⟩)
abbrev M8 (nm:Za6)(v:Int):Str:=nm.getD v.toNat ⟨#[]⟩
def alk (nm:Za6)(x:Str)(ws:List Int):List Int:=ws.filter λv=>decide (M8 nm v=x)
theorem Fx (nm:Za6)(x:Str)(ws:List Int)(v:Int):alk nm x (ws++[v])=alk nm x ws++if M8 nm v=x then[v] else[]:=by
 unfold alk;rw[lr]
 by_cases h:M8 nm v=x
 ·rw[if_pos h,jd,if_pos (decide_eq_true h)];rfl
 ·rw[if_neg h,jd,if_neg (by rw[decide_eq_false h];decide)];rfl
structure Ups (nm:Za6) (H0 H:Hp) (u p t:eg) (ws:List Int) (kvs:List (Key×V)):Prop where
 hu:H u=some (.dK kvs)
 has:∀v∈ws,Cn kvs (.inr (M8 nm v))≠none
 at':∀x y,Cn kvs (.inr x)=some y->∃l,y=.ref l/\H0 l=none/\l≠u/\l≠p/\l≠t/\H l=some (.lst ((alk nm x ws).map V.int))
 inj:∀x x' y,Cn kvs (.inr x)=some y->Cn kvs (.inr x')=some y->x=x'
theorem Ups.same {u p t:eg}{kvs:List (Key×V)}(h:Ups nm H0 H u p t ws kvs)(s:Ag H H'):Ups nm H0 H' u p t ws kvs:=
 ⟨s _ _ h.hu,h.has,λx y e=>let ⟨l,a,b,c,d,e,f⟩:=h.at' x y e;⟨l,a,b,c,d,e,s _ _ f⟩,h.inj⟩
theorem Ups.put {u p t c:eg}{o:HO}{kvs:List (Key×V)}(h:Ups nm H0 H u p t ws kvs)(hc:c=p\/c=t)(hn:c≠u):Ups nm H0 (upd H c o) u p t ws kvs:=
 ⟨by rw[Al hn.symm];exact h.hu,h.has,λx y e=>let ⟨l,a,b,c1,d,e,f⟩:=h.at' x y e;⟨l,a,b,c1,d,e,by rw[Al (by rcases hc with rfl|rfl<;>assumption)];exact f⟩,h.inj⟩
theorem Ups.empty {u p t:eg}{kvs:List (Key×V)}{x:Str}(h:Ups nm H0 H u p t ws kvs)(e:Cn kvs (.inr x)=none):alk nm x ws=[]:=by
 unfold alk;rw[l7];intro v hv z;exact h.has v hv (by rw[of_decide_eq_true z];exact e)
theorem Ups.list {u p t l:eg}{ws':List Int}{kvs:List (Key×V)}{x:Str}(h:Ups nm H0 H u p t ws kvs)(e:Cn kvs (.inr x)=some (.ref l))(hw:∀v∈ws',v∈ws\/M8 nm v=x)(ho:∀y,y≠x->alk nm y ws'=alk nm y ws) :
  Ups nm H0 (upd H l (.lst ((alk nm x ws').map V.int))) u p t ws' kvs:=by
 obtain⟨l',e',b,c,d,e2,f⟩:=h.at' x _ e;cases e';refine⟨by rw[Al c.symm];exact h.hu,λv hv z=>?_,λy v hy=>?_,h.inj⟩
 ·rcases hw v hv with hv|hv
  ·exact h.has v hv z
  ·rw[hv,e] at z;cases z
 ·obtain⟨m,rfl,b',c',d',e3,f'⟩:=h.at' y v hy
  refine⟨m,rfl,b',c',d',e3,?_⟩
  by_cases hxy:y=x
  ·subst hxy
   rw[e] at hy;cases hy;exact Af
  ·rw[Al (λz=>hxy (h.inj y x _ hy (by rw[e,z]))),ho y hxy]
   exact f'
theorem Ups.new {u p t l:eg}{kvs:List (Key×V)}{x:Str}(h:Ups nm H0 H u p t ws kvs)(e:Cn kvs (.inr x)=none)(hl:H l=some (.lst []))(h0:H0 l=none)(hlp:l≠p)(hlt:l≠t)(hf:∀y v,Cn kvs (.inr y)=some v->v≠.ref l) :
  Ups nm H0 (upd H u (.dK (Lw kvs (.inr x) (.ref l)))) u p t ws (Lw kvs (.inr x) (.ref l)):=by
 have hlu:l≠u:=λz=>by rw[z,h.hu] at hl;cases hl
 refine⟨Af,λv hv=>?_,λy v hy=>?_,λy y' v hy hy'=>?_⟩
 ·rw[Jv]
  split
  ·exact λz=>by cases z
  ·exact h.has v hv
 ·rw[Jv] at hy
  split at hy
  ·rename_i hyx
   cases hy;obtain rfl:=vg hyx;exact⟨l,rfl,h0,hlu,hlp,hlt,by rw[Al hlu,h.empty e];exact hl⟩
  ·obtain⟨m,rfl,b',c',d',e3,f'⟩:=h.at' y v hy
   exact⟨m,rfl,b',c',d',e3,by rw[Al c'];exact f'⟩
 ·rw[Jv] at hy hy'
  split at hy<;>split at hy'
  ·rename_i a b
   exact(vg a).trans (vg b).symm
  ·cases hy
   exact(hf _ _ hy' rfl).elim
  ·cases hy'
   exact(hf _ _ hy rfl).elim
  ·exact h.inj y y' v hy hy'
theorem Ups.setd {u p t l0:eg}{kvs:List (Key×V)}{x:Str}{Q:VK}(h:Ups nm H0 H u p t ws kvs)(hk:kvs.length<sizeLine)(hl:H l0=some (.lst []))(h0:H0 l0=none)(hlp:l0≠p)(hlt:l0≠t)(hf:∀y v,Cn kvs (.inr y)=some v->v≠.ref l0)
  (q:∀l kvs' H',kvs'.length<=kvs.length+1->Ups nm H0 H' u p t ws kvs'->Cn kvs' (.inr x)=some (.ref l)->(∀b,b≠u->H' b=H b)->Q (.ref l) H'):dS (.ref u) [.str x,.ref l0] H Q:=by
 refine xE h.hu hk (λy hy=>?_) (λhn=>?_)
 ·obtain⟨l,rfl,_⟩:=h.at' x y hy
  exact q l kvs H (wo _) h hy λ_ _=>rfl
 ·exact q l0 _ _ (Lh _ _ _) (h.new hn hl h0 hlp hlt hf) (by rw[Jv,if_pos rfl]) λb hb=>Al hb
def Dq (ws:List Int):V:=match ws.getLast? with|none=>.non|some v=>.int v
theorem xQ (h:ws≠[]):(ws.map V.int)[(ws.map V.int).length-1]?=some (Dq ws):=by
 unfold Dq;rw[d7,d9,<-List.getLast?_eq_getElem?,List.getLast?_eq_getLast h];rfl
def Pp (nm:Za6)(ds:Za4)(k:Nat):V:=Dq (alk nm (M8 nm k) ((way ds k).tail.take (dAt ds k)))
inductive Sf(vs:List V)(H:Hp)(Q:VK)(E:XK):Prop|mk(a b:eg)(nm:Za6)(ds:Za4)(_:vs=[.ref a,.ref b])(_:H a=some (.lst ((En ds).map V.int)))(_:H b=some (.lst (sV nm)))(_:Dok ds)(_:nm.length=ds.length)(_:ds.length<=4000)(_:∀t H',Ag H H'->H t=none->H' t=some (.tup ((fb ds.length).map (Pp nm ds)))->Q (.ref t) H')
include T in
theorem Ny (F:Fun K "namesakes_above" "namesakes_above" F6 f fd):Ar P w K mg base CX0 1 f fd ["elders","names"] Sf:=by
 exists F.ok Br
 obtain⟨a,b,nm,ds,rfl,ha,hb,hD,hnl,hn,q⟩:=h;refine⟨_,(Ab (tst 2 Br.nd (Bn Aa)) (Ab (tst 3 Br.nd (Bn Aa)) (Ab (tst 4 Br.nd rE) (Ab (Dc ii rfl (Me rfl T.cV (tpa (pv 0) Aa)) (J2 rfl (B4 (tgn 5 Br.nd) (B4 (tgn 6 Br.nd) Hd))) (Ab (Et ii (PW.pt (fZ (ttc Fp (Ao At (by rfl) T.cK Ch (tpa (pv 3) Aa)) Ae) (Tq (ttc Uz (tix Bl (pv 3) (Fr C9 Ae)) (pv 6))))) (Ad (As (fG gi qx qv fA (tix yI (pv 4) (tix Bl (pv 1) (fG gi qx qv fA (pv 3)))))))) (Ab (As (Cj gi ig ie Be (pv 3) (tpa (pv 5) Aa))) (Ab (tst 7 Br.nd (Cj uf x6 PySem.F.type_dict_setdefault tK (pv 4) (tpa (tix Bl (pv 1) (pv 5)) (tpa (Bn Aa) Aa)))) (Ab (As (Cj gi ig ie Be (pv 2) (tpa (Ca (ttc Fp (Ao At (by rfl) T.cK Ch (tpa (pv 7) Aa)) Ae) (tix Bl (pv 7) (Fr C9 Ae)) Ek) Aa))) (Ad (As (Cj gi ig ie Be (pv 7) (tpa (pv 5) Aa))))))))) (Ad (Am (Dj Eu (by rfl) T.dh Pk (tpa (pv 2) Aa)))))))),?_⟩
 apply⟨gp _,λt ht=>?_⟩;obtain⟨u1,ht1⟩:=A4 (o:=.lst []) ht;generalize upd H t _=H1 at *;apply⟨gp _,λp hp=>?_⟩;have hp0:=u1.free hp;have npt:p≠t:=(Aj ht1 hp).symm;obtain⟨u2,hp1⟩:=A4 (o:=.lst []) hp;have ht2:=u2 _ _ ht1;have s2:=u1.trans u2;generalize upd H1 p _=H2 at *;k_is;intro u hu;have hu0:=s2.free hu;obtain⟨u3,hu1⟩:=A4 (o:=.dK []) hu;have nup:u≠p:=(Aj hp1 hu).symm;have nut:u≠t:=(Aj ht2 hu).symm;have ht3:=u3 _ _ ht2;have hp3:=u3 _ _ hp1;have s3:=s2.trans u3;generalize upd H2 u _=H3 at *;apply⟨a,rfl,⟨_,SqL.of (s3 _ _ ha)⟩,?_⟩;refine Lm (xs:=(En ds).map V.int) (λk G H4=>(∃v5 v6 v7:Option V,G=[some (.ref a),some (.ref b),some (.ref t),some (.ref p),some (.ref u),v5,v6,v7])/\Ag H H4/\H4 p=some (.lst ((way ds k).tail.map V.int))/\H4 t=some (.lst ((fb k).map (Pp nm ds)))/\∃kvs,kvs.length<=k/\Ups nm H H4 u p t (way ds k).tail kvs)
  ⟨⟨_,_,_,rfl⟩,s3,hp3,ht3,[],d8 _,hu1,(λv hv=>by cases hv),(λx y e=>by cases e),λx x' y e=>by cases e⟩ (λk G H4 _ h=>SqL.of (h.2.1 _ _ ha)) ?_ ?_
 ·rintro k x G H4 r hx ⟨⟨v5,v6,v7,rfl⟩,s4,hp4,ht4,kvs,hkl,hU⟩ hr4
  have hk:=Bq hx;rw[d7,Gv] at hk;obtain⟨e,he,rfl⟩:=Rf hx;rw[Mq hk] at he;obtain rfl:=ee he;have st:=An (o:=.tup [.int k,.int (eld ds k)]) hr4;have hp5:=st _ _ hp4;have ht5:=st _ _ ht4;have hU5:=hU.same st;have s5:=s4.trans st;generalize upd H4 r _=H5 at *;have hl:=Cc hD k (by lia);have hd:=hD k hk;have hop:=Nn hD k (by lia);have hW:=F0 hD (k:=k) (by lia);have hwt:(way ds k).tail.length=opn ds k:=by rw[yf];lia
  have hget:∀j,(way ds k)[j+1]?=(way ds k).tail[j]?:=λj=>by rw[hW];rfl
  apply Gr (λG H6=>G=[some (.ref a),some (.ref b),some (.ref t),some (.ref p),some (.ref u),some (.int k),some (.int (eld ds k)),v7]/\Ag H H6/\H6 t=some (.lst ((fb k).map (Pp nm ds)))/\∃m,dAt ds k<=m/\m<=opn ds k/\H6 p=some (.lst (((way ds k).tail.take m).map V.int))/\∃kvs,kvs.length<=k/\Ups nm H H6 u p t ((way ds k).tail.take m) kvs) (λ_ H6=>rS H6 p)
   ⟨rfl,s5,ht5,opn ds k,by lia,d8 _,by rw[fw (by lia)];exact hp5,kvs,hkl,by rw[fw (by lia)];exact hU5⟩ ?_
  rintro z G H6 ⟨rfl,s6,ht6,m,hm1,hm2,hp6,kvs6,hkl6,hU6⟩ hz;have hml:((way ds k).tail.take m).length=m:=by rw[fi];lia
  rw[O1 hp6,d7,hml] at hz;apply⟨p,_,rfl,.inl (SqL.of hp6),?_⟩;rw[d7,hml];k_is
  by_cases hme:m=dAt ds k
  ·subst hme
   refine' U2 (c:=0<dAt ds k) (S:=?S) ?a ?b ?r
   case a=>
    intro kp hm;refine Bo (λ_=>?_) (λh=>absurd (by lia) h);apply Cg (SqL.of hp6) (v:=.int (eld ds k)) ?_ ?_
    ·refine Tw (Sv (n:=eld ds k) ?_)
     rw[d7,hml,gj (by lia),<-hget,show dAt ds k-1+1=dAt ds k by lia];exact Ia hD hk
    apply gU (λh=>absurd rfl h) (λ_=>?_);exact kp.q
   case b=>
    intro kp hm;refine Bo (λh=>absurd h (by lia)) (λ_=>?_);exact kp.q
   k_is;have hwn:(way ds (k+1)).tail=(way ds k).tail.take (dAt ds k)++[(k:Int)]:=by
    show((way ds k).take (dAt ds k+1)++[(k:Int)]).tail=_;rw[hW];rfl
   refine⟨.inl ⟨rfl,_,SqL.of hp6⟩,?_⟩;apply Bz hp6 (by rw[d7,hml];exact Ai (by lia)) ?_;rw[<-xl (f:=V.int) (a:=(k:Int)),<-fj,<-hwn];have s7:Ag H (upd H6 p (.lst ((way ds (k+1)).tail.map V.int))):=Ba s6 hp0;have hp7:=@Af H6 p (.lst ((way ds (k+1)).tail.map V.int));have ht7:upd H6 p (.lst ((way ds (k+1)).tail.map V.int)) t=_:=(Al npt.symm).trans ht6;have hU7:=hU6.put (o:=.lst ((way ds (k+1)).tail.map V.int)) (.inl rfl) nup.symm;generalize upd H6 p _=H7 at *;apply⟨.inr (.inr (.inl ⟨rfl,.inl ⟨_,hU7.hu⟩⟩)),?_⟩;k_is;obtain⟨x,hx⟩:∃x,nm[k]?=some x:=⟨_,d4 (by lia)⟩;have hnx:M8 nm (k:Int)=x:=by
    show nm.getD (AN (k:Int)) _=x;rw[gw,gg,hx];rfl
   refine Cg (SqL.of (s7 _ _ hb)) (v:=.str x) (A7 (by rw[d9,hx];rfl)) ?_;apply⟨gp _,λl0 hl0=>?_⟩;obtain⟨u8,hl8⟩:=A4 (o:=.lst []) hl0;have hp8:=u8 _ _ hp7;have ht8:=u8 _ _ ht7;have s8:=s7.trans u8;have hU8:=hU7.same u8;have hfr:∀y v,Cn kvs6 (.inr y)=some v->v≠.ref l0:=λy v e z=>by
    obtain⟨l,rfl,_,_,_,_,f⟩:=hU7.at' y v e;rw[V.ref.inj z,hl0] at f;cases f
   have n1:l0≠p:=(Aj hp7 hl0).symm;have n2:l0≠t:=(Aj ht7 hl0).symm;have h00:=s7.free hl0;generalize upd H7 l0 _=H8 at *;apply hU8.setd (Ai (by lia)) hl8 h00 n1 n2 hfr λl kvs9 H9 hk9 hU9 hv9 k9=>?_;have hp9:=(k9 p nup.symm).trans hp8;have ht9:=(k9 t nut.symm).trans ht8;have s9:Ag H H9:=λb o e=>(k9 b (Aj e hu0)).trans (s8 b o e);obtain⟨l',e',hl0',hlu,hlp,hlt,hl9⟩:=hU9.at' x _ hv9;cases e';apply⟨.inl ⟨rfl,_,SqL.of ht9⟩,?_⟩;apply⟨l,_,rfl,.inl (SqL.of hl9),?_⟩;rw[d7];k_is;have htl:((fb k).map (Pp nm ds)).length<sizeLine:=by rw[d7,fe];exact Ai (by lia)
   refine' U2 (c:=alk nm x ((way ds k).tail.take (dAt ds k))=[]) (S:=?S2) ?b2 ?a2 ?r2
   case a2=>
    intro kp hm;refine Bo (λ_=>?_) (λh=>absurd (by have:=List.length_pos_iff.mpr hm;lia) h);apply Cg (SqL.of hl9) (v:=Dq (alk nm x ((way ds k).tail.take (dAt ds k)))) (Tw (xQ hm)) ?_;exact kp.q
   case b2=>
    intro kp hm;refine Bo (λh=>absurd h (by rw[hm];decide)) (λ_=>?_);have z:=kp.q;rw[show Dq (alk nm x ((way ds k).tail.take (dAt ds k)))=V.non by rw[hm];rfl] at z;exact z
   apply Bz ht9 htl ?_;have hp10:upd H9 t (.lst ((fb k).map (Pp nm ds)++[Dq (alk nm x ((way ds k).tail.take (dAt ds k)))])) p=_:=(Al npt).trans hp9;have ht10:upd H9 t (.lst ((fb k).map (Pp nm ds)++[Dq (alk nm x ((way ds k).tail.take (dAt ds k)))])) t=some (.lst ((fb (k+1)).map (Pp nm ds))):=by
    rw[Af,je,fj];show _=some (HO.lst (_++[Dq (alk nm (M8 nm k) _)]));rw[hnx]
   have hl10:upd H9 t (.lst ((fb k).map (Pp nm ds)++[Dq (alk nm x ((way ds k).tail.take (dAt ds k)))])) l=_:=(Al hlt).trans hl9;have hU10:=hU9.put (o:=.lst ((fb k).map (Pp nm ds)++[Dq (alk nm x ((way ds k).tail.take (dAt ds k)))])) (.inr rfl) nut.symm;have s10:Ag H (upd H9 t (.lst ((fb k).map (Pp nm ds)++[Dq (alk nm x ((way ds k).tail.take (dAt ds k)))]))):=Ba s9 ht;generalize upd H9 t _=H10 at *;apply⟨.inl ⟨rfl,_,SqL.of hl10⟩,?_⟩;apply Bz hl10 (by rw[d7];exact Ai (by have:=j9 (λv=>decide (M8 nm v=x)) ((way ds k).tail.take (dAt ds k));unfold alk;lia)) ?_;k_is;have ea:(alk nm x ((way ds k).tail.take (dAt ds k))).map V.int++[V.int (k:Int)]=(alk nm x (way ds (k+1)).tail).map V.int:=by
    rw[hwn,Fx,if_pos hnx,fj];rfl
   rw[ea];refine⟨⟨_,_,_,rfl⟩,Ba s10 hl0',(Al hlp.symm).trans hp10,(Al hlt.symm).trans ht10,kvs9,by lia,?_⟩;refine hU10.list hv9 (λv hv=>?_) (λy hy=>?_)
   ·rw[hwn] at hv
    rcases il.mp hv with hv|hv
    ·exact .inl hv
    ·rw[fz.mp hv];exact .inr hnx
   ·rw[hwn,Fx,if_neg (λz=>hy (z.symm.trans hnx)),gy]
  ·have hm0:0<m:=by lia
   refine Bo (λ_=>?_) (λh=>absurd (by lia) h);k_is;obtain⟨y,hy⟩:∃y,(way ds k).tail[m-1]?=some y:=⟨_,d4 (by lia)⟩;have hyt:((way ds k).tail.take m)[m-1]?=some y:=by rw[gj (by lia)];exact hy
   have hye:((((way ds k).tail.take m).map V.int))[(((way ds k).tail.take m).map V.int).length-1]?=some (.int y):=by
    rw[d7,hml];exact Sv hyt
   refine Cg (SqL.of hp6) (v:=.int y) (Tw hye) ?_;obtain⟨v,rfl,hvk,_⟩:=F1 hD k (m-1) y (by lia) (by rw[hget];exact hy);have hne:(v:Int)≠eld ds k:=λz=>by
    have:=K8 hD k (dAt ds k) (m-1+1) _ _ (by lia) (by lia) (Ia hD hk) (by rw[hget];exact hy);lia
   apply gU (λ_=>?_) (λh=>absurd (V.int.inj h) hne);refine Li ?_;apply⟨.inl ⟨rfl,_,SqL.of hp6⟩,?_⟩;refine⟨p,_,.int v,rfl,rfl,hp6,hye,?_⟩;k_is;rw[Rx (by lia)];have hwm:(way ds k).tail.take m=(way ds k).tail.take (m-1)++[(v:Int)]:=by
    rw[show m=m-1+1 by lia,i4,show m-1+1-1=m-1 by lia,hy];rfl
   have hp7:=@Af H6 p (.lst (((way ds k).tail.take (m-1)).map V.int));have ht7:upd H6 p (.lst (((way ds k).tail.take (m-1)).map V.int)) t=_:=(Al npt.symm).trans ht6;have s7:Ag H (upd H6 p (.lst (((way ds k).tail.take (m-1)).map V.int))):=Ba s6 hp0;have hU7:=hU6.put (o:=.lst (((way ds k).tail.take (m-1)).map V.int)) (.inl rfl) nup.symm;generalize upd H6 p _=H7 at *;obtain⟨x,hx⟩:∃x,nm[v]?=some x:=⟨_,d4 (by lia)⟩;have hnx:M8 nm (v:Int)=x:=by
    show nm.getD (AN (v:Int)) _=x;rw[gw,gg,hx];rfl
   refine Cg (SqL.of (s7 _ _ hb)) (v:=.str x) (A7 (by rw[d9,hx];rfl)) ?_;have hvm:(v:Int)∈(way ds k).tail.take m:=by rw[hwm];simp
   obtain⟨w',hw'⟩:=Option.ne_none_iff_exists'.mp (hnx▸hU7.has _ hvm);obtain⟨l,rfl,hl0',hlu,hlp,hlt,hl7⟩:=hU7.at' x _ hw';refine Afn hU7.hu hw' ?_;have ea:(alk nm x ((way ds k).tail.take m))=alk nm x ((way ds k).tail.take (m-1))++[(v:Int)]:=by rw[hwm,Fx,if_pos hnx]
   rw[ea] at hl7;refine⟨.inl ⟨rfl,_,SqL.of hl7⟩,?_⟩;refine⟨l,_,.int v,rfl,rfl,hl7,by rw[fj,eh,ft (by simp)];simp,?_⟩;rw[fj,show([(v:Int)].map V.int)=[V.int v] from rfl,List.dropLast_concat];refine⟨⟨rfl,Ba s7 hl0',(Al hlt.symm).trans ht7,m-1,by lia,by lia,(Al hlp.symm).trans hp7,kvs6,hkl6,?_⟩,?_⟩
   ·refine hU7.list hw' (λv' hv'=>.inl ?_) (λy hy=>?_)
    ·rw[hwm];exact kj _ hv'
    ·rw[hwm,Fx,if_neg (λz=>hy (z.symm.trans hnx)),gy]
   ·rw[O1 ((Al hlp.symm).trans hp7),d7,fi]
    lia
 ·rintro G H4 ⟨⟨v5,v6,v7,rfl⟩,s4,hp4,ht4,kvs,hkl,hU⟩
  rw[d7,Gv] at ht4;apply⟨t,_,rfl,.inl ⟨SqL.of ht4,λr hr4=>?_⟩⟩;exact q r _ (s4.trans (An hr4)) (s4.free hr4) Af
theorem SmB.hk {ts:List Tb}{x:eg}(s:SmB ts x H H'):Kp (Rq x H) H':=λb u n e=>s.keep b u (oQ e).1 n (oQ e).2
theorem Rs {x b:eg}{u:HO}{fs:List (Str×V)}(hx:H x=some (.ins C dx fs))(h:H b=some u)(n:∀C d gs,u=.ins C d gs->gs≠fs):Rq x H b=some u:=by
 rw[Z0 (λz=>by rw[z,hx] at h;exact n _ _ _ (ee h).symm rfl)];exact h
theorem B8.hid {K:d6}{x:eg}{w:eg}{ds:Za4}(hx:H x=some (.ins C dx []))(h:B8 K CB CC CP CO H w ds):B8 K CB CC CP CO (Rq x H) w ds:=by
 have ni:∀{b C d:eg} {g:Str×V} {gs:List (Str×V)},H b=some (.ins C d (g::gs))->Rq x H b=some (.ins C d (g::gs)):=λe=>Rs hx e λ_ _ _ z e2=>by cases z;cases e2
 have nt:∀{b:eg} {xs:List V},H b=some (.tup xs)->Rq x H b=some (.tup xs):=λe=>Rs hx e λ_ _ _ z=>by cases z
 obtain⟨dw,p,h1,⟨d,b,c,t,o,a1,⟨d2,t2,b1,b2,b3⟩,⟨d3,t3,u3,c1,c2,c3,c4⟩,a4,a5⟩,h3⟩:=h;exact⟨dw,p,ni h1,⟨d,b,c,t,o,ni a1,⟨d2,t2,ni b1,nt b2,b3⟩,⟨d3,t3,u3,ni c1,nt c2,nt c3,c4⟩,a4.keep λb xs e=>nt e,a5⟩,h3⟩
theorem A0.hid {K:d6}{x c:eg}{fs:List (Str×V)}{l:Za5}(hx:H x=some (.ins C dx fs))(n:c≠x)(h:A0 K CC H c l):A0 K CC (Rq x H) c l:=by
 have nt:∀{b:eg} {xs:List V},H b=some (.tup xs)->Rq x H b=some (.tup xs):=λe=>Rs hx e λ_ _ _ z=>by cases z
 obtain⟨d3,t3,u3,c1,c2,c3,c4⟩:=h;exact⟨d3,t3,u3,(Z0 n).trans c1,nt c2,nt c3,c4⟩
theorem Oh.hid {CS x s:eg}{fs:List (Str×V)}{ns:Za4}{st:Nat}(hx:H x=some (.ins C dx fs))(n:s≠x)(h:Oh CS H s ns st):Oh CS (Rq x H) s ns st:=by
 obtain⟨d,t,e,h1,h2⟩:=h;exact⟨d,t,e,(Z0 n).trans h1,Rs hx h2 λ_ _ _ z=>by cases z⟩
theorem Xj.hid {x:eg}{fs:List (Str×V)}{rows:List (Str×Nat×Nat)}(hx:H x=some (.ins C dx fs))(h:Xj H as rows):Xj (Rq x H) as rows:=⟨h.1,λi a r e1 e2=>Rs hx (h.2 i a r e1 e2) λ_ _ _ z=>by cases z⟩
def gK (H:Hp)(cs es:List eg)(rows:List (Str×Nat×Nat)):Prop:=cs.length=rows.length/\es.length=rows.length/\∀(i:Nat) c e r,cs[i]?=some c->es[i]?=some e->rows[i]?=some r->H c=some (.tup [.str r.1,.ref e])/\H e=some (.tup [.int r.2.1,.int r.2.2])
theorem gK.kp {cs es:List eg}{rows:List (Str×Nat×Nat)}(h:gK H cs es rows)(k:Kp H H'):gK H' cs es rows:=⟨h.1,h.2.1,λi c e r e1 e2 e3=>⟨k.k (h.2.2 i c e r e1 e2 e3).1,k.k (h.2.2 i c e r e1 e2 e3).2⟩⟩
theorem Ve {α:Type}{l:List α}{x y:α}{i:Nat}(h:(l++[x])[i]?=some y):(i<l.length/\l[i]?=some y)\/(i=l.length/\x=y):=by
 by_cases hi:i<l.length
 ·rw[f7 hi] at h
  exact .inl ⟨hi,h⟩
 ·rw[ft (by lia)] at h
  have:=Bq h;have e0:i-l.length=0:=by simp at this;lia
  rw[e0] at h;exact .inr ⟨by lia,ee h⟩
theorem gK.snoc {cs es:List eg}{rows:List (Str×Nat×Nat)}{c e:eg}{r:Str×Nat×Nat}(h:gK H cs es rows)(h1:H c=some (.tup [.str r.1,.ref e]))(h2:H e=some (.tup [.int r.2.1,.int r.2.2])):gK H (cs++[c]) (es++[e]) (rows++[r]):=by
 refine⟨by rw[eh,eh,h.1];rfl,by rw[eh,eh,h.2.1];rfl,λi c' e' r' e1 e2 e3=>?_⟩;have l1:=h.1;have l2:=h.2.1;rcases Ve e1 with⟨i1,e1⟩|⟨i1,rfl⟩
 ·rcases Ve e2 with⟨i2,e2⟩|⟨i2,rfl⟩
  ·rcases Ve e3 with⟨i3,e3⟩|⟨i3,rfl⟩
   ·exact h.2.2 i c' e' r' e1 e2 e3
   ·exact absurd i3 (by lia)
  ·exact absurd i2 (by lia)
 ·rcases Ve e2 with⟨i2,e2⟩|⟨i2,rfl⟩
  ·exact absurd i2 (by lia)
  ·rcases Ve e3 with⟨i3,e3⟩|⟨i3,rfl⟩
   ·exact absurd i3 (by lia)
   ·exact⟨h1,h2⟩
theorem Y6:∀(ks:Za6) (ys:List V) (kvs:List (Key×V)),(Ef kvs ks ys).length<=kvs.length+ks.length
 |[],_,_=>d8 _
 |_::_,[],_=>jh _ _
 |k::ks,y::ys,kvs=>by
  have:=Y6 ks ys (Lw kvs (.inr k) y);have:=Lh kvs (.inr k:Key) y;show(Ef (Lw kvs (.inr k) y) ks ys).length<=_;rw[gn];lia
theorem wS (S:Za6)(k:Nat):(Fa S k).length<=k:=by
 unfold Fa;rw[d7,sg];have:=dQ S k;lia
def nFs (w s b l sp ns:V):List (Str×V):=[("kept_wood",w),("places",s),("begins",b),("kept_stretches",l),("spans",sp),("namesakes",ns)]
def iZ (H:Hp)(es:List eg)(rows:List (Str×Nat×Nat)):Prop:=es.length=rows.length/\∀(i:Nat) e r,es[i]?=some e->rows[i]?=some r->H e=some (.tup [.int r.2.1,.int r.2.2])
theorem iZ.kp {es:List eg}{rows:List (Str×Nat×Nat)}(h:iZ H es rows)(k:Kp H H'):iZ H' es rows:=⟨h.1,λi e r e1 e2=>k.k (h.2 i e r e1 e2)⟩
theorem iZ.hid {x:eg}{fs:List (Str×V)}{es:List eg}{rows:List (Str×Nat×Nat)}(hx:H x=some (.ins C dx fs))(h:iZ H es rows):iZ (Rq x H) es rows:=⟨h.1,λi e r e1 e2=>Rs hx (h.2 i e r e1 e2) λ_ _ _ z=>by cases z⟩
theorem gK.se {cs es:List eg}{rows:List (Str×Nat×Nat)}(h:gK H cs es rows):iZ H es rows:=⟨h.2.1,λi e r e1 e2=>by
 have hi:i<cs.length:=by rw[h.1];exact Bq e2
 exact(h.2.2 i _ e r (d4 hi) e1 e2).2⟩
abbrev oP (nm:Za6):List (Str×Nat×Nat):=Fa (F3 nm) nm.length
structure Ty (K:d6) (CB CC CP CO CS CN:eg) (H:Hp) (x:eg) (nm:Za6) (ds:Za4) (dx w s sp nk:eg) (bb ll:V) (es:List eg):Prop where
 hx:H x=some (.ins CN dx (nFs (.ref w) (.ref s) bb ll (.ref sp) (.ref nk)))
 hw:B8 K CB CC CP CO H w ds
 hs:Oh CS H s (Kx nm) 16
 hp:H sp=some (.dK (Ef [] ((oP nm).map (·.1)) (es.map V.ref)))
 he:iZ H es (oP nm)
 hk:H nk=some (.tup ((fb ds.length).map (Pp nm ds)))
def C7 (K:d6)(CB CC CP CO CS CN:eg)(H:Hp)(x:eg)(nm:Za6)(ds:Za4):Prop:=nm.length=ds.length/\nm.length<64/\∃dx w s sp nk bb ll es,Ty K CB CC CP CO CS CN H x nm ds dx w s sp nk bb ll es
theorem Ty.kp {K:d6}{CS CN:eg}{x:eg}{ds:Za4}{w s sp nk:eg}{bb ll:V}{es:List eg}(h:Ty K CB CC CP CO CS CN H x nm ds dx w s sp nk bb ll es)(k:Kp H H'):Ty K CB CC CP CO CS CN H' x nm ds dx w s sp nk bb ll es:=
 ⟨k.k h.hx,h.hw.kp k,h.hs.kp k,k.k h.hp,h.he.kp k,k.k h.hk⟩
theorem C7.kp {K:d6}{CS CN:eg}{x:eg}{ds:Za4}(h:C7 K CB CC CP CO CS CN H x nm ds)(k:Kp H H'):C7 K CB CC CP CO CS CN H' x nm ds:=
 let ⟨h1,h2,dx,w,s,sp,nk,bb,ll,es,h3⟩:=h;⟨h1,h2,dx,w,s,sp,nk,bb,ll,es,h3.kp k⟩
inductive gA (K:d6)(CB CC CP CO CS CN:eg)(ts:List Tb)(vs:List V)(H:Hp)(Q:VK)(E:XK):Prop|mk(x dx w a:eg)(nm:Za6)(ds:Za4)(_:vs=[.ref x,.ref w,.ref a])(_:H x=some (.ins CN dx []))(_:B8 K CB CC CP CO H w ds)(_:H a=some (.lst (sV nm)))(_:(∀z∈nm,Hr z=true))(_:nm.length=ds.length)(_:nm.length<64)(_:Tbs ts H)(_:∀H',SmB ts x H H'->C7 K CB CC CP CO CS CN H' x nm ds->Q .non H')
variable (ah:Qc K ae) (ZO:Qb K ad)
include T hK hB aH ah ZO in
theorem W2 {f c:eg}(F:Xw K "__init__" "Named.__init__" C8 f fd c Pt)(hts:(⟨Pt,K4,"Named.__init__.<locals>.<lambda>"⟩:Tb)∈ts)(cp:Cal P w K mg base "check_names" 2 ["names"] (U1 K))(cq:xO P w K mg base "Shortcuts" ag 4 ["self","order","step"] (Mt ag) [.int 16])(cr:Cal P w K mg base "begins_of" 5 ["things"] (Vd K ab))(cu:Cal P w K mg base "stretches_of" 1 ["names"] Su)(cw:Cal P w K mg base "namesakes_above" 1 ["elders","names"] Sf)(cx:Mth P w K mg base ad "elders" 9 ["self"] (Zq K ac ab aa ad)) :
  Ar P w K mg base CX0 10 f fd ["self","wood","names"] (gA K ac ab aa ad ag ae ts):=by
 refine F.ok Yb (λvs H Q E h=>?_) (λA outer s H vs Q E hr h=>?_)
 ·obtain⟨x,dx,wd,a,nm,ds,rfl,_⟩:=h
  rfl
 ·obtain⟨x,dx,wd,a,nm,ds,rfl,hx,hW,ha,hN,hnl,h64,hT,q⟩:=h
  have hW0:=hW.hid hx;have nax:a≠x:=Il ha hx (by intro z;cases z);have b0:SmB ts x H H:=SmB.refl hT;refine⟨_,(Ab (As (Au cp hr.m (tpa (pv 2) Aa))) (Ab (Bm (ttc Uz (Ao At (by rfl) T.cK Ch (tpa (pv 2) Aa)) (Kl aH hr.m (pv 1))) (Ad B9)
   Aw) (Ab (tsf (pv 0) (pv 1)) (Ab (tsf (pv 0) (Ab0 cq hr.m Afg (tpa (sO (qual:="Named.__init__.<locals>.<lambda>") (i:=2) (cl:=s.heap.objs.size+1) rfl hr.m rfl T.du (Abm rfl T.cN (tpa (Ao At (by rfl) T.cK Ch (tpa (pv 2) Aa)) Aa)) (F.code hK) hB rfl rfl (by kernel_rfl) (by kernel_rfl) (by kernel_rfl) (by kernel_rfl) (λ_ _ _ _ _=>rfl)) Aa))) (Ab (tsf (pv 0) (Au cr hr.m (tpa (Ao Pr (by rfl) T.du Xb (tpa (pv 2) Aa)) Aa))) (Ab (tsf (pv 0) (Au cu hr.m (tpa (Ao Pr (by rfl) T.du Xb (tpa (pv 2) Aa)) Aa))) (Ab (tsf (pv 0) (Dj (oG rfl) (by rfl) T.dF vK (tpa (Lc rfl Ta (Du (tfl (pv 0))) (λ_ _ _ _=>Cb) (λ_ _ _ _=>(N8 (tpa (tix (Ti K) (pv 0) Ae) (tpa (N8 (tpa (tix (Ti K) (pv 0) Ae) (tpa (tix (Ti K) (pv 0) Ae) Aa))) Aa))))) Aa))) (Ad (tsf (pv 0) (Au cw hr.m (tpa (Kl cx hr.m (pv 1)) (tpa (pv 2) Aa)))))))))))),?_⟩
  apply⟨a,nm,rfl,ha,hN,by lia,λH1 s1=>?_⟩;have b1:=b0.then s1;have hx1:=s1 _ _ hx;have ha1:=s1 _ _ ha;apply⟨a,_,rfl,.inl (SqL.of ha1),?_⟩;rw[Fc];have hW1:=hW.kp (Ag.kp s1);obtain⟨dw,pw,hw1,_⟩:=id hW1;apply⟨wd,dw,_,rfl,hw1,rfl,?_⟩;apply⟨wd,ds,rfl,hW1,?_⟩;apply gU (λh=>absurd (by rw[hnl]) h) (λ_=>?_);apply Mb hx1 ah.cl ah.dq (show 0<1000 by decide) b1 λH2 hx2 b2 _=>?_;have ha2:=b2.k ha nax;apply⟨a,_,rfl,.inl (SqL.of ha2),?_⟩;rw[Fc];apply⟨nm.length,rfl,by lia,λr hr2=>?_⟩;obtain⟨u3,hr3⟩:=A4 (o:=.rng 0 (nm.length:Int)) hr2;have b3:=b2.then u3;have hx3:=u3 _ _ hx2;have ha3:=u3 _ _ ha2;generalize upd H2 r _=H3 at *;refine⟨r,a,nm,rfl,rfl,ha3,h64,hr3,b3.ok.1 _ hts,λo H4 sx t4 ho3 ho4=>?_⟩;rw[X9,<-gI] at ho4;have k4:=vW b3.ok hts sx t4;have b4:=b3.sm k4;have hx4:=k4.k hx3;have ha4:=k4.k ha3;k_is;intro sx dsx hsx hdsx hsxd;have nsx:sx≠x:=(Aj hx4 hsx).symm;refine⟨sx,dsx,o,Kx nm,16,rfl,Af,Lj hsx hdsx _ _ ho4,wB nm,by rw[Pe];lia,by decide,λH5 s5 hS5=>⟨rfl,?_⟩⟩;have s5:=Jl hsx hdsx s5;have b5:=b4.then s5;have hx5:=s5 _ _ hx4;have hS5:=hS5.hid hx5 nsx;apply Mb hx5 ah.cl ah.di (show 1<1000 by decide) b5 λH6 hx6 b6 k6=>?_;have ha6:=b6.k ha nax;apply⟨a,nm,rfl,SqL.of ha6,h64,λq1 hq1=>?_⟩;rw[N9];obtain⟨u7,hq7⟩:=A4 (o:=.lst (sV (F3 nm))) hq1;have b7:=b6.then u7;have hx7:=u7 _ _ hx6;have k7:=k6.then u7;generalize upd H6 q1 _=H7 at *;apply⟨q1,F3 nm,rfl,hq7,by rw[Jn];lia,λb H8 s8 hb8 hC8=>?_⟩;have b8:=b7.then s8;have hx8:=s8 _ _ hx7;have k8:=k7.then s8;have hC8:=hC8.hid hx8 (Aj hx7 hb8).symm;apply Mb hx8 ah.cl ah.dM (show 2<1000 by decide) b8 λH9 hx9 b9 k9=>?_;have ha9:=b9.k ha nax;apply⟨a,nm,rfl,SqL.of ha9,h64,λq2 hq2=>?_⟩;rw[N9];obtain⟨u10,hq10⟩:=A4 (o:=.lst (sV (F3 nm))) hq2;have b10:=b9.then u10;have hx10:=u10 _ _ hx9;have k10:=k9.then u10;generalize upd H9 q2 _=H10 at *;apply⟨q2,F3 nm,rfl,hq10,by rw[Jn];lia,λl as H11 s11 hl10 hl11 hR11=>?_⟩;rw[Jn] at hR11;have b11:=b10.then s11;have hx11:=s11 _ _ hx10;have k11:=k10.then s11;have nlx:l≠x:=(Aj hx10 hl10).symm;have hR11:=hR11.hid hx11;apply Mb hx11 ah.cl ah.dC (show 3<1000 by decide) b11 λH12 hx12 b12 k12=>?_;have hl12:=k12.k hl11 nlx;have hR12:=hR11.kp k12.hk;apply⟨x,ae,dx,_,_,rfl,hx12,ah.cl,ah.dC,rfl,?_⟩;apply⟨l,rfl,⟨_,SqL.of hl12⟩,?_⟩;refine T3 (SqL.of hl12) (λi ys H=>∃cs es:List eg,ys=cs.map V.ref/\gK H cs es ((Fa (F3 nm) nm.length).take i)) (λH _=>⟨[],[],rfl,rfl,rfl,λi c e r e1=>by cases e1⟩) (λi ys H D zs o hz ⟨cs,es,e,hP⟩=>⟨cs,es,e,hP.1,hP.2.1,λi c e r e1 e2 e3=>?_⟩)
   (λi ys H hi ⟨cs,es,e,hP⟩=>?_) (λi ys y H13 A R hy s13 ⟨cs,es,e,hP⟩ hA=>?_) (λD ys H13 hD s13 ⟨cs,es,e,hP⟩ hD13=>?_)
  ·obtain⟨a1,a2⟩:=hP.2.2 i c e r e1 e2 e3
   exact⟨by rw[Al (Il a1 hz (by intro z;cases z))];exact a1,by rw[Al (Il a2 hz (by intro z;cases z))];exact a2⟩
  ·have:=wS (F3 nm) nm.length
   rw[e,d7,hP.1,fi];exact Ai (by lia)
  ·subst e
   rw[d9] at hy;obtain⟨c,hc,rfl⟩:=kt.mp hy;obtain⟨rw3,hrw⟩:∃r,(Fa (F3 nm) nm.length)[i]?=some r:=⟨_,d4 (by rw[<-hR12.1];exact Bq hc)⟩;have hc13:=s13 _ _ (hR12.2 i c rw3 hc hrw);apply Cd (SqT.of hc13) (v:=.str rw3.1) rfl ?_;apply Cd (SqT.of hc13) (v:=.int rw3.2.1) rfl ?_;apply Cd (SqT.of hc13) (v:=.int rw3.2.2) rfl ?_;apply⟨few (by simp),λe he=>?_⟩;obtain⟨u1,he1⟩:=A4 (o:=.tup [.int rw3.2.1,.int rw3.2.2]) he;generalize upd H13 e _=H14 at *;apply⟨few (by simp),λc2 hc2=>?_⟩;have u2:=An (o:=.tup [.str rw3.1,.ref e]) hc2;refine hA _ _ (u1.trans u2) ⟨cs++[c2],es++[e],by rw[fj];rfl,?_⟩;rw[i4,hrw];exact(hP.kp (Ag.kp (u1.trans u2))).snoc Af (u2 _ _ he1)
  subst e;have hrl:(Fa (F3 nm) nm.length).length=as.length:=hR12.1.symm;rw[fw (by rw[d7,hrl];exact d8 _)] at hP;have b13:=b12.then s13;have hx13:=s13 _ _ hx12;have k13:=k12.then s13;apply⟨D,cs,(Fa (F3 nm) nm.length).map (·.1),es.map V.ref,rfl,hD13,⟨by rw[d7,hP.1],by rw[d7,hP.1,hP.2.1],λi c k y e1 e2 e3=>?_⟩,?_,λsp hsp=>?_⟩
  ·rw[d9] at e2 e3
   obtain⟨r,hr,rfl⟩:=kt.mp e2;obtain⟨e,he,rfl⟩:=kt.mp e3;exact(hP.2.2 i c e r e1 he hr).1
  ·have:=Y6 ((Fa (F3 nm) nm.length).map (·.1)) (es.map V.ref) []
   simpa using this
  have u14:=An (o:=.dK (Ef [] ((Fa (F3 nm) nm.length).map (·.1)) (es.map V.ref))) hsp;have b14:=b13.then u14;have hx14:=u14 _ _ hx13;have k14:=k13.then u14;have hsp14:=@Af H13 sp (.dK (Ef [] ((Fa (F3 nm) nm.length).map (·.1)) (es.map V.ref)));have nspx:sp≠x:=(Aj hx13 hsp).symm;have hE14:=(hP.se.kp (Ag.kp u14)).hid hx14;generalize upd H13 sp _=H14 at *;apply Mb hx14 ah.cl ah.dD (show 4<1000 by decide) b14 λH15 hx15 b15 k15=>?_;have hW15:=hW0.kp b15.hk;have ha15:=b15.k ha nax;obtain⟨dw',pw',hw15,_⟩:=id hW15;apply⟨wd,dw',_,rfl,hw15,rfl,?_⟩;apply⟨wd,ds,rfl,hW15,λe H16 s16 _ he16=>?_⟩;have hD:=hW15.choose_spec.choose_spec.2.2.1;apply⟨e,a,nm,ds,rfl,he16,s16 _ _ ha15,hD,hnl,by lia,λnk H17 s17 _ hnk17=>?_⟩;have s17:=s16.trans s17;have b17:=b15.then s17;have hx17:=s17 _ _ hx15;apply Mb hx17 ah.cl ah.dG (show 5<1000 by decide) b17 λH18 hx18 b18 k18=>?_;have K15:=(k15.then s17).trans k18;have K12:=k14.trans K15;have K9:=k11.trans K12;have K6:=k8.trans K9;have nnk:nk≠x:=Il hnk17 hx17 (by intro z;cases z);exact q H18 b18 ⟨hnl,h64,dx,wd,sx,sp,nk,_,_,es,hx18,hW0.kp b18.hk,hS5.kp K6.hk,K15.k hsp14 nspx,hE14.kp K15.hk,k18.k hnk17 nnk⟩
inductive Rk (K:d6)(CB CC CP CO CS CN:eg)(vs:List V)(H:Hp)(Q:VK)(E:XK):Prop|mk(x:eg)(nm:Za6)(ds:Za4)(lo hi:Nat)(_:vs=[.ref x,.int lo,.int hi])(_:C7 K CB CC CP CO CS CN H x nm ds)(_:lo<=hi)(_:hi<=nm.length)(_:∀p H',Ag H H'->H p=none->H' p=some (.lst (nV (((Kx nm).drop lo).take (hi-lo))))->Q (.ref p) H')
variable (ax:Mth P w K mg base ag "there" 1 ["self","place"] (rF ag))
include T ah ax in
theorem Wi (F:Fun K "knots_at" "Named.knots_at" Ed f fd):Ar P w K mg base CX0 2 f fd ["self","low","high"] (Rk K ac ab aa ad ag ae):=by
 exists F.ok P0
 obtain⟨x,nm,ds,lo,hi,rfl,⟨hnl,h64,dx,wd,sx,sp,nk,bb,ll,es,hN⟩,h1,h2,q⟩:=h;refine⟨_,(Ad (Am (Lc rfl Mz (Zn rfl T.cN (tpa (pv 1) (tpa (pv 2) Aa))) (λ_ _ _ _=>Cb) (λ_ _ _ _=>(Aq ax hr.m (rH K (pv 1)) (tpa (pv 0) Aa)))))),?_⟩;apply⟨_,_,rfl,⟨by lia,by lia,by lia,by lia⟩,?_⟩;rw[show((hi:Int)-(lo:Int)).toNat=hi-lo by lia];refine Jy (λi=>nV (((Kx nm).drop lo).take i)) rfl (λi hi=>?_) (λi H1 R A hi s1 kR kA=>?_) (λD H1 hD s1 hD1=>?_)
 ·rw[Bw,fi]
  exact Ai (by lia)
 ·have hol:=Pe nm
  obtain⟨v,hv⟩:∃v,(Kx nm)[lo+i]?=some v:=⟨_,d4 (by lia)⟩;have hN1:=hN.kp (Ag.kp s1);obtain⟨d5,t5,e5,hs5,_⟩:=id hN1.hs;apply⟨x,ae,dx,_,_,rfl,hN1.hx,ah.cl,ah.di,rfl,?_⟩;apply⟨sx,d5,_,rfl,hs5,rfl,?_⟩;apply⟨sx,Kx nm,16,lo+i,v,by rw[EZ];rfl,hN1.hs,hv,?_⟩;refine kA _ _ ?_ (Ag.refl _);rw[i4,i5,hv];exact(Mm _ _).symm
 exact q D H1 s1 hD hD1
inductive Yx (K:d6)(vs:List V)(H:Hp)(Q:VK)(E:XK):Prop|mk(z:Str)(_:vs=[.str z])(_:Hr z=true)(_:∀H',Ag H H'->Q .non H')
include T be in
theorem Yj (F:Fun K "check_name" "check_name" J5 f fd):Ar P w K mg base CX0 2 f fd ["name"] (Yx K):=by
 exists F.ok Yc
 obtain⟨z,rfl,hm,q⟩:=h;refine⟨_,(Ad (Bm (Cl (Bt (Au be hr.m (tpa (pv 0) Aa)))) (Ad B9)
  Aw)),?_⟩
 apply⟨_,rfl,jH _,λy e=>?_,λH3 s3=>?_⟩
 ·obtain rfl:=V.str.inj e
  have:=K7 hm;lia
 rw[show nmV (.str z)=true from hm];k_is;exact q H3 s3
inductive mM (K:d6)(CB CC CP CO CS CN:eg)(vs:List V)(H:Hp)(Q:VK)(E:XK):Prop|mk(x:eg)(nm:Za6)(ds:Za4)(k:Nat)(z:Str)(_:vs=[.ref x,.int k,.str z])(_:C7 K CB CC CP CO CS CN H x nm ds)(_:k<nm.length)(_:Hr z=true)(_:∀H',Ag H H'->Q .non H')
variable (bf:Cal P w K mg base "check_name" 2 ["name"] (Yx K))
include T ba aH ah bf in
theorem Qx (F:Fun K "check_both" "Named.check_both" E2 f fd) :
  Ar P w K mg base CX0 4 f fd ["self","k","name"] (mM K ac ab aa ad ag ae):=by
 exists F.ok M9
 obtain⟨x,nm,ds,k,z,rfl,⟨hnl,h64,dx,wd,sx,sp,nk,bb,ll,es,hN⟩,hk,hz,q⟩:=h;obtain⟨dw,pw,hw,_⟩:=id hN.hw;refine⟨_,(Ab (As (Au ba hr.m (tpa (pv 1) (tpa (Kl aH hr.m (tfl (pv 0))) Aa)))) (Ad (As (Au bf hr.m (tpa (pv 2) Aa))))),?_⟩
 apply⟨x,ae,dx,_,_,rfl,hN.hx,ah.cl,ah.dq,rfl,?_⟩;apply⟨wd,dw,_,rfl,hw,rfl,?_⟩;apply⟨wd,ds,rfl,hN.hw,?_⟩;apply⟨k,_,rfl,by lia,by lia,?_⟩;apply⟨z,rfl,hz,λH1 s1=>?_⟩;k_is;exact q H1 s1
inductive Vr (K:d6)(CB CC CP CO CS CN:eg)(vs:List V)(H:Hp)(Q:VK)(E:XK):Prop|mk(x:eg)(nm:Za6)(ds:Za4)(z:Str)(_:vs=[.ref x,.str z])(_:C7 K CB CC CP CO CS CN H x nm ds)(_:∀(t:eg) (lo hi:Nat) H',C4 nm z lo hi->Ag H H'->H' t=some (.tup [.int lo,.int hi])->Q (.ref t) H')
include T ah in
theorem Wm (F:Fun K "span_of" "Named.span_of" G3 f fd) :
  Ar P w K mg base CX0 1 f fd ["self","name"] (Vr K ac ab aa ad ag ae):=by
 exists F.ok Rb
 obtain⟨x,nm,ds,z,rfl,⟨hnl,h64,dx,wd,sx,sp,nk,bb,ll,es,hN⟩,q⟩:=h;refine⟨_,(Ad (Am (Cj uf z6 PySem.F.type_dict_get Abc (tfl (pv 0)) (tpa (pv 1) (tpa (N8 (tpa Ae (tpa Ae Aa))) Aa))))),?_⟩;apply⟨x,ae,dx,_,_,rfl,hN.hx,ah.cl,ah.dD,rfl,?_⟩;apply⟨.inr (.inr (.inl ⟨rfl,.inl ⟨_,hN.hp⟩⟩)),?_⟩;apply⟨few (by simp),λt ht=>?_⟩;obtain⟨s1,ht1⟩:=A4 (o:=.tup [.int 0,.int 0]) ht;generalize upd H t _=H1 at *;apply⟨sp,_,z,_,rfl,rfl,s1 _ _ hN.hp,?_⟩;rcases uQ nm z hN.he.1 with⟨e,hs⟩|⟨i,e,r,he,hr1,ev,hs⟩
 ·rw[show Cn (Ef [] ((oP nm).map (·.1)) (es.map V.ref)) (.inr z)=none from e]
  k_is;exact q t 0 0 H1 hs s1 ht1
 ·rw[show Cn (Ef [] ((oP nm).map (·.1)) (es.map V.ref)) (.inr z)=some (.ref e) from ev]
  k_is;exact q e _ _ H1 hs s1 (s1 _ _ (hN.he.2 i e r he hr1))
inductive Lr (K:d6)(CB CC CP CO CS CN:eg)(ts:List Tb)(vs:List V)(H:Hp)(Q:VK)(E:XK):Prop|mk(x:eg)(nm:Za6)(ds:Za4)(k:Nat)(z:Str)(_:vs=[.ref x,.int k,.str z])(_:C7 K CB CC CP CO CS CN H x nm ds)(_:Tbs ts H)(_:∀(lo hi:Nat) H',C4 nm z lo hi->SmT ts H H'->Q (.int ((lo+Ck (ofN nm z) k:Nat):Int)) H')
variable (az:Mth P w K mg base ae "span_of" 1 ["self","name"] (Vr K ac ab aa ad ag ae))
include T hK hB aO ah ax az in
theorem Qy {f c:eg}(F:Xw K "first_from" "Named.first_from" Bx f fd c Pt)(hts:(⟨Pt,Gu,"Named.first_from.<locals>.<lambda>"⟩:Tb)∈ts) :
  Ar P w K mg base CX0 4 f fd ["self","k","name"] (Lr K ac ab aa ad ag ae ts):=by
 refine F.ok G7 (λvs H Q E h=>?_) (λA outer s H vs Q E hr h=>?_)
 ·obtain⟨x,nm,ds,k,z,rfl,_⟩:=h
  rfl
 ·obtain⟨x,nm,ds,k,z,rfl,hNm,hT,q⟩:=h
  obtain⟨hnl,h64,dx,wd,sx,sp,nk,bb,ll,es,hN⟩:=id hNm;refine⟨_,(Ab (tst 3 G7.nd (Aq az hr.m (pv 0) (tpa (pv 2) Aa))) (Ad (Am (xR (qual:="Named.first_from.<locals>.<lambda>") (k:=1) aO hr.m (tix Bs (pv 3) Ae) (tix Bs (pv 3) Ae) (F.code hK) hB rfl (by kernel_rfl) Kn (λ_ _ _ _ _ _ _ hr=>(tpc pG (Aq ax hr.m (rH K (pv 2)) (tpa (pv 0) Aa)) (pv 1))))))),?_⟩
  apply⟨x,dx,_,rfl,hN.hx,rfl,?_⟩;apply⟨x,nm,ds,z,rfl,hNm,λt lo hi H1 hS s1 ht=>?_⟩;have hT1:=hT.same s1;have hN1:=hN.kp (SmT.of hT s1).kp;have hlen:=hS.len;apply Cd (SqT.of ht) (v:=.int (lo:Int)) rfl ?_;apply Cd (SqT.of ht) (v:=.int (hi:Int)) rfl ?_;k_is;have hk:=hT1.1 _ hts;refine⟨lo,hi,λi=>decide (k<=(ofN nm z).getD (i.toNat-lo) 0),rfl,rfl,by lia,hk,λi H3 hi1 hi2 s3=>?_,λm H' hm1 hm2 hm3 hm4 s' t'=>?_⟩
  ·obtain⟨pt,hpt⟩:=Tb.tbl hk
   have kp:Kp H1 H3:=λb u nt e=>s3 b u (λz=>by rw[z,hpt] at e;cases e;exact nt pt rfl) e;have hN3:=hN1.kp kp;obtain⟨ds',t',d',hsx,_⟩:=id hN3.hs;obtain⟨j,rfl⟩:=lw (show 0<=i by lia);obtain⟨v,hv⟩:∃v,(ofN nm z)[j-lo]?=some v:=⟨_,d4 (by lia)⟩;have hv2:(Kx nm)[j]?=some v:=by
    have:=hS.at' (i:=j-lo) (by lia);rw[hv,show lo+(j-lo)=j by lia] at this;exact this
   apply⟨x,ae,dx,_,_,rfl,hN3.hx,ah.cl,ah.di,rfl,?_⟩;apply⟨sx,ds',_,rfl,hsx,rfl,?_⟩;apply⟨sx,_,_,j,v,rfl,hN3.hs,hv2,?_⟩;apply⟨?_,Ag.refl _⟩;rw[gw,gg,hv];exact congrArg V.bl (decide_eq_decide.mpr (by show _↔k<=v;lia))
  ·obtain⟨j,rfl⟩:=lw (show 0<=m by lia)
   have e:j-lo=Ck (ofN nm z) k:=by
    refine Acd (Pc nm z) (by lia) (λv h0 hv=>?_) (λv hv=>?_)
    ·have:=hm3 (by lia)
     dsimp only at this;rw[show((j:Int)-1).toNat-lo=j-lo-1 by lia,gg,hv] at this;have:=of_decide_eq_false this;exact Nat.lt_of_not_le this
    ·obtain⟨l,_⟩:=fc.mp hv
     have:=hm4 (by lia);dsimp only at this;rw[gw,gg,hv] at this;exact of_decide_eq_true this
   rw[show(j:Int)=((lo+Ck (ofN nm z) k:Nat):Int) by lia];exact q lo hi H' hS ((SmT.of hT s1).trans (vW hT1 hts s' t'))
inductive oV (K:d6)(CB CC CP CO CS CN:eg)(ts:List Tb)(vs:List V)(H:Hp)(Q:VK)(E:XK):Prop|mk(x:eg)(nm:Za6)(ds:Za4)(k:Nat)(z:Str)(_:vs=[.ref x,.int k,.str z])(_:C7 K CB CC CP CO CS CN H x nm ds)(_:Tbs ts H)(_:k<nm.length)(_:Hr z=true)(_:∀(lo hi:Nat) (t:eg) H',C4 nm z lo hi->SmT ts H H'->H' t=some (.tup [.int ((lo+Ck (ofN nm z) k:Nat):Int),.int ((lo+Ck (ofN nm z) (k+(Ee ds k).length+1):Nat):Int)])->Q (.ref t) H')
variable (aI:Mth P w K mg base ae "check_both" 4 ["self","k","name"] (mM K ac ab aa ad ag ae)) (aB:Mth P w K mg base ae "first_from" 4 ["self","k","name"] (Lr K ac ab aa ad ag ae ts))
include T ah aI aB in
theorem Qp (F:Fun K "span_beneath" "Named.span_beneath" D6 f fd)(cy:Mth P w K mg base ad "beneath" 12 ["self","k"] (Ud K ac ab aa ad ts)) :
  Ar P w K mg base CX0 13 f fd ["self","k","name"] (oV K ac ab aa ad ag ae ts):=by
 exists F.ok Gd
 obtain⟨x,nm,ds,k,z,rfl,hNm,hT,hk,hz,q⟩:=h;obtain⟨hnl,h64,dx,wd,sx,sp,nk,bb,ll,es,hN⟩:=id hNm;obtain⟨dw,pw,hw,_⟩:=id hN.hw;refine⟨_,(Ab (As (Aq aI hr.m (pv 0) (tpa (pv 1) (tpa (pv 2) Aa)))) (Ab (tst 3 Gd.nd (Ak Bd (Ak Bd (pv 1) (Aq cy hr.m (tfl (pv 0)) (tpa (pv 1) Aa))) Ae)) (Ad (Am (N8 (tpa (Aq aB hr.m (pv 0) (tpa (pv 1) (tpa (pv 2) Aa))) (tpa (Aq aB hr.m (pv 0) (tpa (pv 3) (tpa (pv 2) Aa))) Aa))))))),?_⟩
 apply⟨x,dx,_,rfl,hN.hx,rfl,?_⟩;apply⟨x,nm,ds,k,z,rfl,hNm,hk,hz,λH1 s1=>?_⟩;have r1:=SmT.of hT s1;apply⟨x,ae,dx,_,_,rfl,r1.k hN.hx,ah.cl,ah.dq,rfl,?_⟩;apply⟨wd,dw,_,rfl,r1.k hw,rfl,?_⟩;apply⟨wd,ds,k,rfl,hN.hw.kp r1.kp,r1.ok,by lia,λH2 s2=>?_⟩;have r2:=r1.trans s2;k_is;rw[show((k:Int)+((Ee ds k).length:Int)+1)=((k+(Ee ds k).length+1:Nat):Int) by lia];refine⟨x,dx,_,rfl,r2.k hN.hx,rfl,?_⟩;apply⟨x,nm,ds,k,z,rfl,hNm.kp r2.kp,r2.ok,λlo hi H3 hS s3=>?_⟩;have r3:=r2.trans s3;apply⟨x,dx,_,rfl,r3.k hN.hx,rfl,?_⟩;apply⟨x,nm,ds,k+(Ee ds k).length+1,z,rfl,hNm.kp r3.kp,r3.ok,λlo' hi' H4 hS' s4=>?_⟩;obtain⟨rfl,rfl⟩:=hS'.uniq hS;have r4:=r3.trans s4;apply⟨few (by simp),λt ht=>?_⟩;exact q _ _ t _ hS (r4.then (An ht)) (Af)
inductive qF (K:d6)(CB CC CP CO CS CN:eg)(vs:List V)(H:Hp)(Q:VK)(E:XK):Prop|mk(x:eg)(nm:Za6)(ds:Za4)(z:Str)(_:vs=[.ref x,.str z])(_:C7 K CB CC CP CO CS CN H x nm ds)(_:Hr z=true)(_:∀p H',Ag H H'->H p=none->H' p=some (.lst (nV (ofN nm z)))->Q (.ref p) H')
variable (bh:Mth P w K mg base ae "knots_at" 2 ["self","low","high"] (Rk K ac ab aa ad ag ae))
include T ah bf az bh in
theorem Ww (F:Fun K "all_of" "Named.all_of" Ib f fd) :
  Ar P w K mg base CX0 3 f fd ["self","name"] (qF K ac ab aa ad ag ae):=by
 exists F.ok Kv
 obtain⟨x,nm,ds,z,rfl,hNm,hz,q⟩:=h;obtain⟨hnl,h64,dx,wd,sx,sp,nk,bb,ll,es,hN⟩:=id hNm;refine⟨_,(Ab (As (Au bf hr.m (tpa (pv 1) Aa))) (Ab (tst 2 Kv.nd (Aq az hr.m (pv 0) (tpa (pv 1) Aa))) (Ad (Am (Aq bh hr.m (pv 0) (tpa (tix Bs (pv 2) Ae) (tpa (tix Bs (pv 2) Ae) Aa))))))),?_⟩
 apply⟨z,rfl,hz,λH1 s1=>?_⟩;apply⟨x,dx,_,rfl,s1 _ _ hN.hx,rfl,?_⟩;apply⟨x,nm,ds,z,rfl,hNm.kp (λb u _ e=>s1 b u e),λt lo hi H2 hS s2 ht=>?_⟩;have s12:=s1.trans s2;apply⟨x,dx,_,rfl,s12 _ _ hN.hx,rfl,?_⟩;apply Cd (SqT.of ht) (v:=.int (lo:Int)) rfl ?_;apply Cd (SqT.of ht) (v:=.int (hi:Int)) rfl ?_;k_is;exact⟨x,nm,ds,lo,hi,rfl,hNm.kp (λb u _ e=>s12 b u e),hS.1,hS.2.1,λp H3 s3 hp3 h3=>q p H3 (s12.trans s3) (s12.free hp3) (by rw[<-hS.cut];exact h3)⟩
inductive rB (K:d6)(CB CC CP CO CS CN:eg)(ts:List Tb)(vs:List V)(H:Hp)(Q:VK)(E:XK):Prop|mk(x:eg)(nm:Za6)(ds:Za4)(k:Nat)(z:Str)(_:vs=[.ref x,.int k,.str z])(_:C7 K CB CC CP CO CS CN H x nm ds)(_:Tbs ts H)(_:k<nm.length)(_:Hr z=true)(_:∀H',SmT ts H H'->Q (.int ((iB (ofN nm z) k (Bv ds k)).length:Nat)) H')
variable (bi:Mth P w K mg base ae "span_beneath" 13 ["self","k","name"] (oV K ac ab aa ad ag ae ts))
include T ah bi in
theorem Qo (F:Fun K "many_beneath" "Named.many_beneath" Dy f fd) :
  Ar P w K mg base CX0 14 f fd ["self","k","name"] (rB K ac ab aa ad ag ae ts):=by
 exists F.ok Gb
 obtain⟨x,nm,ds,k,z,rfl,hNm,hT,hk,hz,q⟩:=h;obtain⟨hnl,h64,dx,wd,sx,sp,nk,bb,ll,es,hN⟩:=id hNm;refine⟨_,(Ab (tst 3 Gb.nd (Aq bi hr.m (pv 0) (tpa (pv 1) (tpa (pv 2) Aa)))) (Ad (Am (Ak B5 (tix Bs (pv 3) Ae) (tix Bs (pv 3) Ae))))),?_⟩
 apply⟨x,dx,_,rfl,hN.hx,rfl,?_⟩;apply⟨x,nm,ds,k,z,rfl,hNm,hT,hk,hz,λlo hi t H1 hS s1 ht=>?_⟩;have hek:=(Ds (ds:=ds) (k:=k) (by lia)).1;rw[Im,show k+(Bv ds k-(k+1))+1=Bv ds k by lia] at ht;apply Cd (SqT.of ht) (v:=.int ((lo+Ck (ofN nm z) (Bv ds k):Nat):Int)) rfl ?_;apply Cd (SqT.of ht) (v:=.int ((lo+Ck (ofN nm z) k:Nat):Int)) rfl ?_;k_is;have hm:=Jr (l:=ofN nm z) (f9 hek);rw[show((lo+Ck (ofN nm z) (Bv ds k):Nat):Int)-((lo+Ck (ofN nm z) k:Nat):Int)=((iB (ofN nm z) k (Bv ds k)).length:Nat) by rw[uV (Pc nm z) (f9 hek)];lia];exact q H1 s1
inductive vL (K:d6)(CB CC CP CO CS CN:eg)(ts:List Tb)(vs:List V)(H:Hp)(Q:VK)(E:XK):Prop|mk(x:eg)(nm:Za6)(ds:Za4)(k:Nat)(z:Str)(_:vs=[.ref x,.int k,.str z])(_:C7 K CB CC CP CO CS CN H x nm ds)(_:Tbs ts H)(_:k<nm.length)(_:Hr z=true)(_:∀p H',SmT ts H H'->H p=none->H' p=some (.lst (nV (iB (ofN nm z) k (Bv ds k))))->Q (.ref p) H')
include T ah bh bi in
theorem Qt (F:Fun K "all_beneath" "Named.all_beneath" Eh f fd) :
  Ar P w K mg base CX0 14 f fd ["self","k","name"] (vL K ac ab aa ad ag ae ts):=by
 exists F.ok Gw
 obtain⟨x,nm,ds,k,z,rfl,hNm,hT,hk,hz,q⟩:=h;obtain⟨hnl,h64,dx,wd,sx,sp,nk,bb,ll,es,hN⟩:=id hNm;refine⟨_,(Ab (tst 3 Gw.nd (Aq bi hr.m (pv 0) (tpa (pv 1) (tpa (pv 2) Aa)))) (Ad (Am (Aq bh hr.m (pv 0) (tpa (tix Bs (pv 3) Ae) (tpa (tix Bs (pv 3) Ae) Aa)))))),?_⟩
 apply⟨x,dx,_,rfl,hN.hx,rfl,?_⟩;apply⟨x,nm,ds,k,z,rfl,hNm,hT,hk,hz,λlo hi t H1 hS s1 ht=>?_⟩;have hek:=(Ds (ds:=ds) (k:=k) (by lia)).1;rw[Im,show k+(Bv ds k-(k+1))+1=Bv ds k by lia] at ht;apply⟨x,dx,_,rfl,s1.k hN.hx,rfl,?_⟩;apply Cd (SqT.of ht) (v:=.int ((lo+Ck (ofN nm z) k:Nat):Int)) rfl ?_;apply Cd (SqT.of ht) (v:=.int ((lo+Ck (ofN nm z) (Bv ds k):Nat):Int)) rfl ?_;k_is;have hm:=Jr (l:=ofN nm z) (f9 hek);have hc:=Pi (ofN nm z) (Bv ds k);have hl:=hS.len;have h2:=hS.2.1;exact⟨x,nm,ds,_,_,rfl,hNm.kp s1.kp,by lia,by lia,λp H2 s2 hp h2=>q p H2 (s1.then s2) (s1.sm.free hp) (by rw[<-hS.bet (f9 hek)];exact h2)⟩
inductive jG (K:d6)(CB CC CP CO CS CN:eg)(ts:List Tb)(vs:List V)(H:Hp)(Q:VK)(E:XK):Prop|mk(x:eg)(nm:Za6)(ds:Za4)(k:Nat)(z:Str)(_:vs=[.ref x,.int k,.str z])(_:C7 K CB CC CP CO CS CN H x nm ds)(_:Tbs ts H)(_:k<nm.length)(_:Hr z=true)(_:∀H',SmT ts H H'->Q (Uy (ofN nm z)[Ck (ofN nm z) k]?) H')
include T ah ax az aI aB in
theorem Wl (F:Fun K "next_of" "Named.next_of" G0 f fd) :
  Ar P w K mg base CX0 5 f fd ["self","k","name"] (jG K ac ab aa ad ag ae ts):=by
 exists F.ok Ji
 obtain⟨x,nm,ds,k,z,rfl,hNm,hT,hk,hz,q⟩:=h;obtain⟨hnl,h64,dx,wd,sx,sp,nk,bb,ll,es,hN⟩:=id hNm;refine⟨_,(Ab (As (Aq aI hr.m (pv 0) (tpa (pv 1) (tpa (pv 2) Aa)))) (Ab (tst 3 Ji.nd (Aq aB hr.m (pv 0) (tpa (pv 1) (tpa (pv 2) Aa)))) (Ad (Am (Ca (ttc O7 (pv 3) (tix Bs (Aq az hr.m (pv 0) (tpa (pv 2) Aa)) Ae)) (Aq ax hr.m (tfl (pv 0)) (tpa (pv 3) Aa)) Ek))))),?_⟩
 apply⟨x,dx,_,rfl,hN.hx,rfl,?_⟩;apply⟨x,nm,ds,k,z,rfl,hNm,hk,hz,λH1 s1=>?_⟩;have r1:=SmT.of hT s1;apply⟨x,dx,_,rfl,r1.k hN.hx,rfl,?_⟩;apply⟨x,nm,ds,k,z,rfl,hNm.kp r1.kp,r1.ok,λlo hi H2 hS s2=>?_⟩;have r2:=r1.trans s2;have hlen:=hS.len;apply⟨x,dx,_,rfl,r2.k hN.hx,rfl,?_⟩;apply⟨x,nm,ds,z,rfl,hNm.kp r2.kp,λt lo' hi' H3 hS' s3 ht=>?_⟩;obtain⟨rfl,rfl⟩:=hS'.uniq hS;have r3:=r2.then s3;apply Cd (SqT.of ht) (v:=.int (hi':Int)) rfl ?_;apply Bo (λl=>?_) (λl=>?_)
 ·have l:Ck (ofN nm z) k<(ofN nm z).length:=by lia
  obtain⟨v,hv⟩:∃v,(ofN nm z)[Ck (ofN nm z) k]?=some v:=⟨_,d4 l⟩;obtain⟨ds',t',d',hsx,_⟩:=id hN.hs;apply⟨x,ae,dx,_,_,rfl,r3.k hN.hx,ah.cl,ah.di,rfl,?_⟩;apply⟨sx,ds',_,rfl,r3.k hsx,rfl,?_⟩;apply⟨sx,_,_,lo'+Ck (ofN nm z) k,v,rfl,hN.hs.kp r3.kp,by rw[hS.at' l,hv],?_⟩;have:=q H3 r3;rw[hv] at this;exact this
 ·k_is
  have:=q H3 r3;rw[ij (by lia)] at this;exact this
theorem xV (nm:Za6)(x:Str)(ws:List Int):alk nm x ws=[]\/∃(i:Nat) (v:Int),ws[i]?=some v/\M8 nm v=x/\Dq (alk nm x ws)=.int v/\∀m,i<m->alk nm x (ws.take m)=alk nm x ws:=by
 refine J0 (P:=λws=>alk nm x ws=[]\/∃(i:Nat) (v:Int),ws[i]?=some v/\M8 nm v=x/\Dq (alk nm x ws)=.int v/\∀m,i<m->alk nm x (ws.take m)=alk nm x ws) (.inl rfl) (λws v ih=>?_) ws;rw[Fx]
 by_cases c:M8 nm v=x
 ·rw[if_pos c]
  refine .inr ⟨ws.length,v,by simp,c,?_,λm hm=>?_⟩
  ·unfold Dq
   rw[wj]
  ·rw[fw (by simp;lia),Fx,if_pos c]
 ·rw[if_neg c,gy]
  refine ih.imp id λ⟨i,u,h1,h2,h3,h4⟩=>⟨i,u,?_,h2,h3,λm hm=>?_⟩
  ·rw[f7 (Bq h1)]
   exact h1
  ·by_cases hl:m<=ws.length
   ·rw[jp hl]
    exact h4 m hm
   ·rw[fw (by simp;lia),Fx,if_neg c,gy]
inductive Zj (K:d6)(CB CC CP CO CS CN:eg)(ts:List Tb)(vs:List V)(H:Hp)(Q:VK)(E:XK):Prop|mk(x:eg)(nm:Za6)(ds:Za4)(k:Nat)(z:Str)(_:vs=[.ref x,.int k,.str z])(_:C7 K CB CC CP CO CS CN H x nm ds)(_:Tbs ts H)(_:k<nm.length)(_:Hr z=true)(_:∀H',SmT ts H H'->Q (Dq (alk nm z (anc ds k))) H')
theorem Tn {x:Str}{v:Nat}:v∈ofN nm x↔nm[v]?=some x:=by
 unfold ofN;rw[vp,jm,decide_eq_true_iff];exact⟨λh=>h.2,λh=>⟨Bq h,h⟩⟩
theorem Lz {x:Str}{v:Nat}(h:v<nm.length):M8 nm (v:Int)=x↔nm[v]?=some x:=by
 show nm.getD (AN (v:Int)) _=x↔_;rw[gw,gg,d4 h];exact⟨λe=>congrArg some e,λe=>ee e⟩
theorem Aex {ds:Za4}(h:Dok ds){k:Nat}(hk:k<ds.length){x:Int}(hx:x∈anc ds k):∃v:Nat,x=v/\v<k:=by
 obtain⟨i,hi⟩:=j6 hx;unfold anc at hi;have hil:=Bq hi;rw[fi] at hil;rw[gj (by lia)] at hi;obtain⟨v,e,l,_⟩:=F1 h k i x (by lia) (by rw[F0 h (k:=k) (by lia)];exact hi);exact⟨v,e,l⟩
include T ah ax az aI aB in
theorem Wh (F:Fun K "elder_of" "Named.elder_of" Gg f fd)(cz:Mth P w K mg base ad "nearest" 12 ["self","one","other"] (qU K ac ab aa ad ts)) :
  Ar P w K mg base CX0 13 f fd ["self","k","name"] (Zj K ac ab aa ad ag ae ts):=by
 exists F.ok Cu
 obtain⟨x,nm,ds,k,z,rfl,hNm,hT,hk,hz,q⟩:=h;obtain⟨hnl,h64,dx,wd,sx,sp,nk,bb,ll,es,hN⟩:=id hNm;obtain⟨dw,pw,hw,_,hD,_⟩:=id hN.hw;obtain⟨ds',t',d',hsx,_⟩:=id hN.hs;have hkd:k<ds.length:=by lia
 refine⟨_,(Ab (As (Aq aI hr.m (pv 0) (tpa (pv 1) (tpa (pv 2) Aa)))) (Ab (tst 3 Cu.nd (Ak B5 (Aq aB hr.m (pv 0) (tpa (pv 1) (tpa (pv 2) Aa))) Ae)) (Ab (Bm (ttc O7 (pv 3) (tix Bs (Aq az hr.m (pv 0) (tpa (pv 2) Aa)) Ae)) (Ad (Am Ek))
  Aw) (Ab (tst 4 Cu.nd (Aq ax hr.m (tfl (pv 0)) (tpa (pv 3) Aa))) (Ab (tst 5 Cu.nd (Aq cz hr.m (tfl (pv 0)) (tpa (pv 1) (tpa (pv 4) Aa)))) (Ab (Et ii (PW.pt (fZ (Rc (eQ (pv 4))) (Tq (PW.pt (Ik (Rc (eM (pv 5))) (Ho (ttc Fp (pv 4) (pv 5)))))))) (Ad (tst 4 Cu.nd (tix Bs (tfl (pv 0)) (pv 4))))) (Ad (Am (pv 4))))))))),?_⟩
 apply⟨x,dx,_,rfl,hN.hx,rfl,?_⟩;apply⟨x,nm,ds,k,z,rfl,hNm,hk,hz,λH1 s1=>?_⟩;have r1:=SmT.of hT s1;apply⟨x,dx,_,rfl,r1.k hN.hx,rfl,?_⟩;apply⟨x,nm,ds,k,z,rfl,hNm.kp r1.kp,r1.ok,λlo hi H2 hS s2=>?_⟩;have r2:=r1.trans s2;have hlen:=hS.len;have hinc:=Pc nm z;have hcl:=Pi (ofN nm z) k;apply⟨x,dx,_,rfl,r2.k hN.hx,rfl,?_⟩;apply⟨x,nm,ds,z,rfl,hNm.kp r2.kp,λt lo' hi' H3 hS' s3 ht=>?_⟩;obtain⟨rfl,rfl⟩:=hS'.uniq hS;have r3:=r2.then s3;apply Cd (SqT.of ht) (v:=.int (lo':Int)) rfl ?_;apply Bo (λh0=>?_) (λh0=>?_)
 ·have hc0:Ck (ofN nm z) k=0:=by lia
  have e:alk nm z (anc ds k)=[]:=by
   refine l7.mpr λy hy c=>?_;obtain⟨v,rfl,hv⟩:=Aex hD hkd hy;obtain⟨i,hi⟩:=j6 (Tn.mpr ((Lz (by lia)).mp (of_decide_eq_true c)));have:=(He hinc (b:=k) hi).mpr hv;lia
  k_is;have:=q H3 r3;rw[e] at this;exact this
 obtain⟨c,hc⟩:∃c,Ck (ofN nm z) k=c+1:=⟨Ck (ofN nm z) k-1,by lia⟩;obtain⟨a,ha⟩:∃a,(ofN nm z)[c]?=some a:=⟨_,d4 (by lia)⟩;have hak:a<k:=(He hinc (b:=k) ha).mp (by lia);have hna:=Tn.mp (f8 ha);have hbt:∀i:Nat,a<i->i<k->M8 nm (i:Int)≠z:=λi i1 i2 e=>by
  obtain⟨j,hj⟩:=j6 (Tn.mpr ((Lz (by lia)).mp e));have h1:=(He hinc (b:=k) hj).mpr i2;have h2:=(He hinc (b:=i) ha).mpr i1;have h3:=mt (He hinc (b:=i) hj).mp (by lia);have h4:j=c:=by
   have:=Jr (l:=ofN nm z) (f9 i2);lia
  subst h4;lia
 apply⟨x,ae,dx,_,_,rfl,r3.k hN.hx,ah.cl,ah.di,rfl,?_⟩;apply⟨sx,ds',_,rfl,r3.k hsx,rfl,?_⟩;apply⟨sx,_,_,lo'+c,a,by rw[hc,show((lo'+(c+1):Nat):Int)-1=((lo'+c:Nat):Int) by lia];rfl,hN.hs.kp r3.kp,by rw[hS.at' (by lia),ha],?_⟩;apply⟨x,ae,dx,_,_,rfl,r3.k hN.hx,ah.cl,ah.dq,rfl,?_⟩;apply⟨wd,dw,_,rfl,r3.k hw,rfl,?_⟩;apply⟨wd,ds,a,k,rfl,hN.hw.kp r3.kp,r3.ok,hak,hkd,λm r H4 hNr hr0 hr1 s4=>?_⟩;have r4:=r3.trans s4;have hmk:=vV hD (f:=λv=>decide (M8 nm v=z)) hak hkd hNr.up (λi i1 i2=>decide_eq_false (hbt i i1 i2)) hNr.no;have hmk:alk nm z (anc ds k)=alk nm z ((way ds (a+1)).tail.take m):=hmk;have hwl:=Cc hD (a+1) (by lia);have hL:(way ds (a+1)).tail.length=dAt ds a+1:=by rw[yf];have:opn ds (a+1)=dAt ds a+1:=rfl;lia
 have hget:∀j,(way ds (a+1))[j+1]?=(way ds (a+1)).tail[j]?:=λj=>by rw[F0 hD (k:=a+1) (by lia)];rfl
 have hm1:m<=dAt ds a+1:=by
  have:=hNr.up (a+1) (by lia) (by lia);have:=hD (a+1) (by lia);have:opn ds (a+1)=dAt ds a+1:=rfl;lia
 have e0:V.int (a:Int)=Dq (alk nm z ((way ds (a+1)).tail.take (dAt ds a+1))):=by
  rw[fw (by lia),Abj hD (by lia),Fx,if_pos ((Lz (by lia)).mpr hna)];unfold Dq;rw[wj]
 apply⟨λt G H5=>H5=H4/\m<=t/\t<=dAt ds a+1/\G=[some (.ref x),some (.int k),some (.str z),some (.int ((lo'+Ck (ofN nm z) k:Nat)-1:Int)),some (Dq (alk nm z ((way ds (a+1)).tail.take t))),some r],⟨dAt ds a+1,rfl,hm1,d8 _,by rw[<-e0];rfl⟩,?_⟩;rintro t G H5 ⟨rfl,t1,t2,rfl⟩;have htt:(way ds (a+1)).tail.take m=((way ds (a+1)).tail.take t).take m:=by rw[oq,io t1]
 have q5:=q H5 r4;rw[hmk,htt] at q5;k_is;rcases xV nm z ((way ds (a+1)).tail.take t) with e|⟨i,v,h1,h2,h3,h4⟩
 ·rw[e,show Dq []=V.non from rfl]
  have e2:alk nm z (((way ds (a+1)).tail.take t).take m)=[]:=l7.mpr λy hy=>l7.mp e y (n8 hy);rw[e2] at q5;k_is;exact q5
 have hit:=Bq h1;rw[fi] at hit;rw[gj (by lia),<-hget] at h1;obtain⟨u,rfl,hu1,_⟩:=F1 hD (a+1) i v (by lia) h1;obtain⟨hu2,_,hu3⟩:=wW hD (c:=a+1) (by lia) h1;rw[h3];k_is
 by_cases hmi:m<=i
 ·refine' U2 (c:=m=0) (S:=?S) ?a ?b ?r
  case a=>
   intro kp h0;rw[decide_eq_true (hr0 h0)];k_is;exact kp.q
  case b=>
   intro kp h0;obtain⟨m',rfl⟩:∃m',m=m'+1:=⟨m-1,by lia⟩;obtain⟨c',c1,c2,c3,c4,c5⟩:=fR hD hak hkd hNr;have hlt:=K8 hD (a+1) (m'+1) (i+1) _ _ (by lia) (by lia) c2 h1;have er:=hr1 c' (by lia) c1;rw[show decide (r=V.non)=false by rw[er];rfl];apply⟨_,_,rfl,er,?_⟩;refine⟨_,rfl,?_⟩;refine Bo (λ_=>?_) (λh=>absurd hlt h);exact kp.q
  refine⟨λQM H'=>∃m',m'<t/\H'=H5/\m<=m'/\m'<=dAt ds a+1/\QM=[some (.ref x),some (.int k),some (.str z),some (.int ((lo'+Ck (ofN nm z) k:Nat)-1:Int)),some (Dq (alk nm z ((way ds (a+1)).tail.take m'))),some r],λ_ _ h=>h,?_⟩;apply⟨x,ae,dx,_,_,rfl,r4.k hN.hx,ah.cl,ah.dG,rfl,?_⟩;k_is;have hnk:Pp nm ds u=Dq (alk nm z ((way ds (a+1)).tail.take i)):=by
   unfold Pp;rw[h2,<-hu3];rfl
  refine Cd (SqT.of (r4.k hN.hk)) (v:=Pp nm ds u) (A7 (by rw[d9,gd (by lia)];rfl)) ?_;k_is;exact⟨i,by lia,rfl,hmi,by lia,by rw[hnk];rfl⟩
 ·obtain⟨m',rfl⟩:∃m',m=m'+1:=⟨m-1,by lia⟩
  obtain⟨c',c1,c2,c3,c4,c5⟩:=fR hD hak hkd hNr;have hle:(u:Int)<=c':=by
   by_cases z':i=m'
   ·subst z'
    rw[c2] at h1;have:=ee h1;lia
   ·exact BB (K8 hD (a+1) (i+1) (m'+1) _ _ (by lia) (by lia) h1 c2)
  rw[hr1 c' (by lia) c1];rw[show decide (V.int (c':Int)=V.non)=false from rfl];apply Bo (λh=>absurd h (by lia)) (λ_=>?_);rw[h4 (m'+1) (by lia),h3] at q5;k_is;exact q5
inductive zS (K:d6)(vs:List V)(H:Hp)(Q:VK)(E:XK):Prop|mk(a:eg)(ns:List Int)(k:Nat)(_:vs=[.ref a,.int k])(_:SqL K H a (ns.map V.int))(_:∀c:Int,Q (.int c) H)
include T in
theorem Ug (F:Fun K "_law_cell_at" "_law_cell_at" Iy f fd):Ar P w K mg base CX0 1 f fd ["_law_script","_law_k"] (zS K):=by
 exists F.ok W7
 obtain⟨a,ns,k,rfl,hS,q⟩:=h;refine⟨_,(Ab (Bm (ttc O7 (pv 1) (Ao At (by rfl) T.cK Ch (tpa (pv 0) Aa))) (Ad (Am (tix Bl (pv 0) (pv 1))))
  Aw) (Ad (Am Ae))),?_⟩
 apply⟨a,_,rfl,.inl hS,?_⟩;k_is;rw[d7];refine Bo (λhb=>?_) (λhb=>?_)
 ·k_is
  have hk:k<ns.length:=by lia
  refine Cg hS (v:=.int ns[k]) ?_ (q _);refine A7 ?_;rw[d9,d4 hk];rfl
 ·k_is
  exact q 0
include T in
theorem eB (F:Fun K "_law_whole" "_law_whole" Ls f fd):Ar P w K mg base CX0 1 f fd ["_law_found"] Po:=by
 exists F.ok dZ
 obtain⟨i,rfl,q⟩:=h;refine⟨_,(Ad (Am (U9 (Ao Cr (by rfl) T.cR Ci (tpa (pv 0) (tpa (G9 (v:=.ty "int") rfl T.dn rY rfl) Aa))) (Uk (zE (Ao Cr (by rfl) T.cR Ci (tpa (pv 0) (tpa (G9 (v:=.ty "bool") rfl T.dE wL rfl) Aa)))))))),?_⟩;apply⟨_,_,_,_,rfl,.int _,Sg,?_⟩;apply⟨_,_,_,_,rfl,.int _,Pz,?_⟩;k_is;exact q
inductive qT(vs:List V)(H:Hp)(Q:VK)(E:XK):Prop|mk(c k:Int)(_:vs=[.int c,.int k])(_:0<=k)(_:k<=1000)(_:∀r:Int,0<=r->r<2147483587->Q (.int r) H)
include T in
theorem fK (F:Fun K "_law_mixed" "_law_mixed" Ma f fd):Ar P w K mg base CX0 1 f fd ["_law_cell","_law_k"] qT:=by
 exists F.ok O5
 obtain⟨c,k,rfl,h0,h1,q⟩:=h;refine⟨_,(Ab (tst 2 O5.nd (Ak Cm (Ak Dz (Ak Bd (Ak Cm (pv 0) Ae) Ae) (Ak Bd Ae (Ak Dz (Ak Dz Ae (pv 1)) (pv 1)))) Ae)) (Ad (Am (Ak Cm (Ak Dz (Ak Bd (pv 2) (Ak Dz Ae (pv 1))) (Ak Bd Ae (Ak Dz Ae (pv 1)))) Ae)))),?_⟩
 apply Vb (by lia) (by lia) ?_;k_is;have b1:=me c (show(2147483647:Int)≠0 by decide);have b2:=kr c (show(0:Int)<2147483647 by decide);refine vP (by lia) (by lia) ?_;apply Vb (by lia) (by lia) ?_;k_is;exact q _ (me _ (by decide)) (kr _ (by decide))
inductive kI (K:d6)(vs:List V)(H:Hp)(Q:VK)(E:XK):Prop|mk(a:eg)(ns:List Int)(k:Nat)(m:Int)(_:vs=[.ref a,.int k,.int m])(_:SqL K H a (ns.map V.int))(_:0<=m)(_:m<=100)(_:∀p (ds:List Int) H',Ag H H'->H p=none->H' p=some (.lst (ds.map V.int))->ds.length=m.toNat->Q (.ref p) H')
variable (aC:Cal P w K mg base "_law_cell_at" 1 ["_law_script","_law_k"] (zS K)) (aJ:Cal P w K mg base "_law_mixed" 1 ["_law_cell","_law_k"] qT)
include T aC aJ in
theorem Xz (F:Fun K "_law_digits" "_law_digits" J6 f fd) :
  Ar P w K mg base CX0 2 f fd ["_law_script","_law_at","_law_many"] (kI K):=by
 exists F.ok Es
 obtain⟨a,ns,k,m,rfl,hS,h0,h1,q⟩:=h;refine⟨_,(Ab (tst 3 Es.nd (Ak Dz (Ao yA (by rfl) T.n_abs Aht (tpa (Au aC hr.m (tpa (pv 0) (tpa (Ak Bd (pv 1) Ae) Aa))) Aa)) (Ak B5 Ae (Ak Cm (Au aC hr.m (tpa (pv 0) (tpa (pv 1) Aa))) Ae)))) (Ab (tst 4 Es.nd (Bn Aa)) (Ab (Dc ii rfl (Fk rfl T.cN (tpa (pv 2) Aa)) (tgn 5 Es.nd) (Ad (Bm (ttc Fp (pv 3) Ae) (Ab (As (Cj gi ig ie Be (pv 4) (tpa (Ak Cm (pv 3) Ae) Aa))) (Ad (tst 3 Es.nd (Ak Cs (pv 3) Ae)))) (Ad (As (Cj gi ig ie Be (pv 4) (tpa (Ak Cm (Au aJ hr.m (tpa (Au aC hr.m (tpa (pv 0) (tpa (Ak Bd (Ak Bd (pv 1) Ae) (Ak Cm (pv 5) Ae)) Aa))) (tpa (pv 5) Aa))) Ae) Aa))))))) (Ad (Am (pv 4)))))),?_⟩
 apply⟨a,ns,k+1,rfl,hS,λc1=>?_⟩;apply⟨_,rfl,?_⟩;apply⟨a,ns,k,rfl,hS,λc2=>?_⟩;apply Vb (by lia) (by lia) ?_;apply⟨gp _,λp hp=>?_⟩;apply⟨m,rfl,by lia,by lia,?_⟩;have s0:Ag H (upd H p (.lst [])):=An hp;have push:∀{H1:Hp} {o:HO},Ag H H1->Ag H (upd H1 p o):=λs1 b u e=>by rw[Al (Aj e hp)];exact s1 _ _ e
 have z1:∀{l:List Int} {i:Nat},l.length=i->i<m.toNat->(l.map V.int).length<sizeLine:=λe hi=>by
  rw[d7,e];exact Dk (by lia)
 refine Mg (λi G H1=>∃(ds:List Int) (x:Int) (v5:Option V),G=[some (.ref a),some (.int k),some (.int m),some (.int x),some (.ref p),v5]/\ds.length=i/\H1 p=some (.lst (ds.map V.int))/\Ag H H1) ⟨[],_,_,rfl,rfl,Af,s0⟩ ?_ ?_
 ·rintro i G H1 hi ⟨ds,x,v5,rfl,hd,hH,sm⟩
  apply Bo (λhb=>?_) (λhb=>?_)
  ·apply⟨.inl ⟨rfl,_,SqL.of hH⟩,?_⟩;apply Bz hH (z1 hd hi) ?_;k_is;exact⟨ds++[x%64],_,_,rfl,by rw[eh,hd];rfl,by rw[Af,fj];rfl,push sm⟩
  ·apply⟨.inl ⟨rfl,_,SqL.of hH⟩,?_⟩;apply⟨a,ns,k+1+i%9,?_,sm.seq hS,λc3=>?_⟩
   ·rw[show(k:Int)+1+(0+(i:Int))%9=((k+1+i%9:Nat):Int) by lia]
    rfl
   apply⟨c3,_,rfl,by lia,by lia,λr _ _=>?_⟩;apply Bz hH (z1 hd hi) ?_;k_is;exact⟨ds++[r%64],_,_,rfl,by rw[eh,hd];rfl,by rw[Af,fj];rfl,push sm⟩
 ·rintro G H1 ⟨ds,x,v5,rfl,hd,hH,sm⟩
  k_is;exact q p ds H1 sm hp hH hd
inductive xA(vs:List V)(H:Hp)(Q:VK)(E:XK):Prop|mk(a:eg)(gs:List Int)(_:vs=[.ref a])(_:H a=some (.lst (gs.map V.int)))(_:gs.length<=1000)(_:∀p (ds:Za4) H',Ag H H'->H p=none->H' p=some (.lst ((En ds).map V.int))->Dok ds->ds.length=gs.length->Q (.ref p) H')
theorem Aee (xs:List V)(m:Nat):G8 xs none (some (m:Int))=xs.take m:=by
 unfold G8;rw[HT.sIx_nat];show(xs.drop 0).take (min m xs.length-0)=xs.take m;rw[qy,qb]
 by_cases h:m<=xs.length
 ·rw[io h]
 ·rw[rm (by lia),fw (d8 _),fw (by lia)]
include T in
theorem jZ (F:Fun K "_law_wood" "_law_wood" N3 f fd):Ar P w K mg base CX0 1 f fd ["_law_digits_here"] xA:=by
 exists F.ok Fj
 obtain⟨a,gs,rfl,ha,hn,q⟩:=h;refine⟨_,(Ab (tst 1 Fj.nd (Bn Aa)) (Ab (tst 2 Fj.nd (Bn Aa)) (Ab (Dc ii rfl (Fk rfl T.cN (tpa (Ao At (by rfl) T.cK Ch (tpa (pv 0) Aa)) Aa)) (tgn 3 Fj.nd) (Ab (tst 2 Fj.nd (Cf Op (pv 2) Hb (B3 (Ak B5 (Ao At (by rfl) T.cK Ch (tpa (pv 2) Aa)) (Ak Cm (tix Bl (pv 0) (pv 3)) (Ak Bd (Ao At (by rfl) T.cK Ch (tpa (pv 2) Aa)) Ae)))))) (Ab (As (Cj gi ig ie Be (pv 1) (tpa (tix Bl (Ak Ix (Bn (tpa (Fr C9 Ae) Aa)) (pv 2)) (Fr C9 Ae)) Aa))) (Ad (tst 2 Fj.nd (Ak Ix (pv 2) (Bn (tpa (pv 3) Aa)))))))) (Ad (Am (pv 1)))))),?_⟩
 apply⟨gp _,λp hp=>?_⟩;apply⟨gp _,λp0 hp0=>?_⟩;have t0:=An (o:=.lst []) hp;have t1:=An (o:=.lst []) hp0;apply⟨a,_,rfl,.inl (SqL.of (t1 _ _ (t0 _ _ ha))),?_⟩;k_is;rw[d7];refine⟨_,rfl,by lia,by lia,?_⟩;rw[gw];refine Mg (λk G H1=>(∃(q:eg) (ds:Za4) (v:Option V),G=[some (.ref a),some (.ref p),some (.ref q),v]/\Dok ds/\ds.length=k/\H1 p=some (.lst ((En ds).map V.int))/\H1 q=some (.lst ((way ds k).tail.map V.int))/\p≠q)/\Ag H H1)
  ⟨⟨p0,[],_,rfl,(λk hk=>by cases hk),rfl,t1 _ _ Af,Af,Aj Af hp0⟩,t0.trans t1⟩ ?_ ?_
 ·rintro k G H1 hk ⟨⟨q1,ds,v,rfl,hD,hl,hp1,hq1,hne⟩,s1⟩
  have hw:=Cc hD k (by lia);have hh:=F0 hD (k:=k) (by lia);have hok:=Nn hD k (by lia);have hwt:(way ds k).tail.length=opn ds k:=by rw[yf];lia
  apply⟨q1,_,rfl,.inl (SqL.of hq1),?_⟩;k_is;rw[d7,hwt];obtain⟨g,hg⟩:∃g,gs[k]?=some g:=⟨gs[k],d4 hk⟩;refine Cg (SqL.of (s1 _ _ ha)) (v:=.int g) ?_ ?_
  ·rw[show(0+(k:Int))=(k:Int) by lia]
   exact A7 (Sv hg)
  apply⟨q1,_,rfl,.inl (SqL.of hq1),?_⟩;k_is;rw[d7,hwt];refine Y3 (by lia) ?_;k_is;obtain⟨d,hd,hd1⟩:∃d:Nat,(opn ds k:Int)-g%((opn ds k:Int)+1)=(d:Int)/\d<=opn ds k:=by
   have e0:=me g (show(opn ds k:Int)+1≠0 by lia);have e1:=kr g (show 0<(opn ds k:Int)+1 by lia);exact⟨((opn ds k:Int)-g%((opn ds k:Int)+1)).toNat,by lia,by lia⟩
  rw[hd];refine⟨q1,_,rfl,SqL.of hq1,λq2 h2=>?_⟩;rw[Aee] at *;rw[<-pe] at *;have u2:=An (o:=.lst (((way ds k).tail.take d).map V.int)) h2;apply⟨.inl ⟨rfl,_,SqL.of (u2 _ _ hp1)⟩,?_⟩;apply⟨few (by simp),λq3 h3=>?_⟩;have u3:=An (o:=.lst [V.int (-1)]) h3;apply⟨q3,q2,_,_,rfl,rfl,Af,u3 _ _ Af,?_,λq4 h4=>?_⟩
  ·rw[d7,fi]
   exact few (by simp only[gn,jt];lia)
  have ew:[V.int (-1)]++((way ds k).tail.take d).map V.int=((way ds k).take (d+1)).map V.int:=by
   rw[hh];rfl
  rw[ew] at *;have u4:=An (o:=.lst (((way ds k).take (d+1)).map V.int)) h4;have hx:(way ds k)[d+1-1]?=some ((way ds k).getD d 0):=by
   rw[nq];unfold ju;rw[d4 (by lia)];rfl
  apply Cg (SqL.of Af) (Mu (by lia) hx) ?_;k_is;have u24:=(u2.trans u3).trans u4;refine Bz (u24 _ _ hp1) ?_ ?_
  ·rw[d7,Gv]
   exact Ai (by lia)
  have hpq2:q2≠p:=(Aj hp1 h2).symm;have hq2':upd (upd (upd (upd H1 q2 (.lst (((way ds k).tail.take d).map V.int))) q3 (.lst [V.int (-1)])) q4 (.lst (((way ds k).take (d+1)).map V.int))) p (.lst ((En ds).map V.int++[V.int ((way ds k).getD d 0)])) q2=some (.lst (((way ds k).tail.take d).map V.int)):=by
   rw[Al hpq2];exact u4 _ _ (u3 _ _ Af)
  have s5:=Ba (o:=.lst ((En ds).map V.int++[V.int ((way ds k).getD d 0)])) (s1.trans u24) hp;have hp5:upd (upd (upd (upd H1 q2 (.lst (((way ds k).tail.take d).map V.int))) q3 (.lst [V.int (-1)])) q4 (.lst (((way ds k).take (d+1)).map V.int))) p (.lst ((En ds).map V.int++[V.int ((way ds k).getD d 0)])) p=some (.lst ((En ds).map V.int++[V.int ((way ds k).getD d 0)])):=Af;generalize upd (upd (upd (upd H1 q2 (.lst (((way ds k).tail.take d).map V.int))) q3 (.lst [V.int (-1)])) q4 (.lst (((way ds k).take (d+1)).map V.int))) p (.lst ((En ds).map V.int++[V.int ((way ds k).getD d 0)]))=H5 at *;apply⟨few (by simp),λq6 h6=>?_⟩;have u6:=An (o:=.lst [V.int (0+(k:Int))]) h6;refine⟨q2,q6,_,_,rfl,rfl,u6 _ _ hq2',Af,?_,λq7 h7=>?_⟩
  ·rw[d7,fi]
   exact few (by simp only[gn,jt];lia)
  have u7:=An (o:=.lst (((way ds k).tail.take d).map V.int++[V.int (0+(k:Int))])) h7;k_is;have hp7:=u7 _ _ (u6 _ _ hp5);refine⟨⟨q7,ds++[d],_,rfl,jY hD (by rw[hl];exact hd1),by rw[eh,hl];rfl,?_,?_,Aj (u6 _ _ hp5) h7⟩,(s5.trans u6).trans u7⟩
  ·rw[hp7,Zd,fj,hl]
   rfl
  ·have e:=gQ ds d
   rw[hl] at e;rw[Af,e,show(0+(k:Int))=(k:Int) by lia];have e2:((way ds k).take (d+1)++[(k:Int)]).tail=(way ds k).tail.take d++[(k:Int)]:=by
    rw[hh];rfl
   rw[e2,fj];rfl
 ·rintro G H1 ⟨⟨q1,ds,v,rfl,hD,hl,hp1,hq1,hne⟩,s1⟩
  k_is;exact q p ds H1 s1 hp hp1 hD hl
theorem fF (l:Za6)(x:Str):sV l++[V.str x]=sV (l++[x]):=by
 unfold sV;rw[fj];rfl
def Ob (z:Str):Bool:=z.cps.toList.all Vk
theorem Z5 (h1:1<=z.length)(h2:z.length<=8)(h3:Ob z=true):Hr z=true:=by
 unfold Hr;rw[decide_eq_true ⟨h1,h2⟩,z8];exact h3
theorem Xf (h:Hr z=true):Ob z=true:=(wl.mp h).2
theorem U5 {a b:Str}(h1:Ob a=true)(h2:Ob b=true):Ob (a++b)=true:=by
 show((a.cps++b.cps).toList.all Vk)=true;rw[sj,List.all_append];exact wl.mpr ⟨h1,h2⟩
theorem Z1 (a b:Str):(a++b).length=a.length+b.length:=Array.size_append
theorem Aa3 (z:Str)(lo hi:Option Int):∃i k,(Kw z lo hi).cps.toList=(z.cps.toList.drop i).take k:=⟨_,_,ky ..⟩
theorem K5 (h:Ob z=true)(lo hi:Option Int):Ob (Kw z lo hi)=true:=by
 obtain⟨i,k,e⟩:=Aa3 z lo hi;unfold Ob;rw[e,mj];exact λc hc=>mj.mp h c (BP (n8 hc))
theorem J4 (z:Str)(m:Nat):(Kw z none (some (m:Int))).length=min m z.length:=by
 show(wt _ (wu _ _)).toArray.size=_;rw[ge,HT.sIx_nat];show(wt (min m z.cps.size-0) (wu 0 z.cps.toList)).length=_;rw[qy,qb,fi,gh];show min (min m z.length) z.length=_;lia
theorem fC (z:Str)(m:Nat):(Kw z (some (m:Int)) none).length=z.length-m:=by
 show(wt _ (wu _ _)).toArray.size=_;rw[ge,HT.sIx_nat];show(wt (z.cps.size-min m z.cps.size) (wu (min m z.cps.size) z.cps.toList)).length=_;rw[fi,ic,gh];show min (z.length-min m z.length) (z.length-min m z.length)=_;lia
def qM:Str:="abcdefghijklmnopqrstuvwxyz"
theorem P2 (i:Int):atI qM.cps.toList (i%26)=some (97+(i%26).toNat)/\Ob (sgn (97+(i%26).toNat))=true:=by
 have h0:=me i (show(26:Int)≠0 by decide);have h1:=kr i (show(0:Int)<26 by decide);have hl:qM.cps.toList=(fb 26).map (97 + ·):=by decide +kernel
 refine⟨Abg h0 ?_,?_⟩
 ·rw[hl,d9,gd (by lia)]
  rfl
 ·show([97+(i%26).toNat].all Vk)=true
  rw[uj,FZ,FO];exact decide_eq_true (by lia)
theorem wK (cs:Za4)(h:∀c∈cs,Vk c=true):Ob (tx ("":Str) (cs.map sgn))=true/\(tx ("":Str) (cs.map sgn)).length=cs.length:=by
 have e:(tx ("":Str) (cs.map sgn)).cps.toList=cs:=by
  rw[Nx,jf]
  induction cs with
  |nil=>rfl
  |cons c r ih=>
   rw[im,jl,ih λc hc=>h c (gv _ hc)];rfl
 refine⟨by unfold Ob;rw[e,mj];exact h,?_⟩;show Array.size _=_;rw[<-gh,e]
inductive pK(vs:List V)(H:Hp)(Q:VK)(E:XK):Prop|mk(a:eg)(gs:List Int)(sd:Int)(_:vs=[.ref a,.int sd])(_:H a=some (.lst (gs.map V.int)))(_:gs.length<=1000)(_:∀p (nm:Za6) H',Ag H H'->H p=none->H' p=some (.lst (sV nm))->nm.length=gs.length->(∀z∈nm,Hr z=true)->Q (.ref p) H')
include T in
theorem fH (F:Fun K "_law_names" "_law_names" Fi f fd):Ar P w K mg base CX0 1 f fd ["_law_digits_here","_law_seed"] pK:=by
 exists F.ok Dd
 obtain⟨a,gs,sd,rfl,ha,hn,q⟩:=h;refine⟨_,(Ab (Z8 (i:=2) Dd.nd rfl (BK rfl) Cy) (Ab (Z8 (i:=3) Dd.nd rfl (BK rfl) (Bn Aa)) (Ab (tst 5 Dd.nd (Cj km o0 oz Of Cy (tpa (Lc rfl Xl (Fk rfl T.cN (tpa (Ak Cm (pv 1) Ae) Aa)) (λ_ _ _ _=>Cb) (λ_ _ _ _=>(tix xJ (pv 1) (Ak Cm (Ak Bd (Ak Cs (pv 2) Ae) (Ak Dz (Ak Dz Ae (pv 0)) (pv 0))) Ae)))) Aa))) (Ab (tst 6 Dd.nd (Ak Cm (Ak Cs (pv 1) Ae) (Ak Bd (Ao B7 (by rfl) T.cK Ch (tpa (pv 5) Aa)) Ae))) (Ab (Dc ii rfl (Fk rfl T.cN (tpa Ae Aa)) (tgn 4 Dd.nd) (Ad (As (Cj gi ig ie Be (pv 3) (tpa (Ak Kr (Ak Kr (Cf Lk (pv 5) Hb (B3 (pv 6))) (tix xJ (pv 2) (Ak Cm (Ak Bd (Ak Cs (pv 1) Ae) (Ak Dz Ae (pv 4))) Ae))) (Cf Lk (pv 5) (B3 (pv 6)) Hb)) Aa))))) (Ab (vQ (ttc Dt (Ak Cm (pv 1) Ae) Ae) (Ad (Z8 (i:=3) Dd.nd rfl (BK rfl) (mH rfl Xi (Me rfl T.cV (tpa (pv 3) Aa)) (λ_ _ _ _=>Cb) (λ_ _ _ _=>(Cf Lk (pv 1) Hb (B3 (Ak Bd Ae (Ak Cm (pv 0) Ae))))))))
  Aw) (Ad (Am (Lc rfl Xh (Du (pv 0)) (λ_ _ _ _=>Cb) (λ_ _ _ _=>(tix (Jo K) (pv 2) (Ak Cm (pv 0) (tix (Jo K) (Bn (tpa Ae (tpa Ae (tpa Ae (tpa Ae Aa))))) (Ak Cm (Ak Cs (pv 1) Ae) Ae)))))))))))))),?_⟩
 apply⟨gp _,λp hp=>?_⟩;obtain⟨u1,hp1⟩:=A4 (o:=.lst []) hp;generalize upd H p _=H1 at *;apply⟨rfl,?_⟩;k_is;have e0:=me sd (show(8:Int)≠0 by decide);have e1:=kr sd (show(0:Int)<8 by decide);obtain⟨m,hm⟩:∃m:Nat,sd%8=(m:Int):=⟨(sd%8).toNat,by lia⟩;rw[hm];refine⟨_,rfl,by lia,by lia,?_⟩;rw[gw];refine Jy (λi=>((fb i).map λk:Nat=>97+((sd/7+5*(k:Int)*(k:Int))%26).toNat).map λc=>V.str (sgn c)) rfl (λi hi=>?_) (λi H2 R A hi s2 kR kA=>?_) (λD H2 hD s2 hD2=>?_)
 ·rw[d7,d7,fe]
  exact Ai (by lia)
 ·rw[show(0+(i:Int))=(i:Int) by lia]
  apply Vb (by lia) (by lia) ?_;k_is;obtain⟨hl1,hl2⟩:=P2 (sd/7+5*(i:Int)*(i:Int));refine⟨_,_,_,rfl,rfl,by decide,hl1,?_⟩;refine kA _ _ ?_ (Ag.refl _);rw[je,fj,fj];rfl
 have hcs:∀c∈(fb m).map λk:Nat=>97+((sd/7+5*(k:Int)*(k:Int))%26).toNat,Vk c=true:=λc hc=>by
  obtain⟨k,_,rfl⟩:=lp.mp hc;have:=(P2 (sd/7+5*(k:Int)*(k:Int))).2;have h3:([97+((sd/7+5*(k:Int)*(k:Int))%26).toNat].all Vk)=true:=this;rw[uj,FZ,FO] at h3;exact h3
 have hcl:((fb m).map λk:Nat=>97+((sd/7+5*(k:Int)*(k:Int))%26).toNat).length=m:=by rw[d7,fe]
 generalize ((fb m).map λk:Nat=>97+((sd/7+5*(k:Int)*(k:Int))%26).toNat)=cs at *;obtain⟨j1,j2⟩:=wK cs hcs;have hp2:=s2 _ _ hp1;have s12:=u1.trans s2;apply⟨_,D,cs.map sgn,rfl,rfl,by rw[jf];exact SqL.of hD2,?_,?_⟩
 ·rw[jf]
  have:∀l:Za4,(l.map λc=>(sgn c).length).sum=l.length:=λl=>by
   induction l with
   |nil=>rfl
   |cons c r ih=>rw[im,xf,ih,gn];show 1+_=_;lia
  have h1:=this cs;have h2:(xw ((λx:Str=>x.length) ∘ sgn) cs).sum=cs.length:=h1;rw[h2,show("":Str).length=0 from rfl];lia
 rw[hcl] at j2;generalize tx ("":Str) (cs.map sgn)=bs at *;apply⟨bs,rfl,f9 (Ai (by lia)),?_⟩;rw[j2];apply Y3 (by lia) ?_;k_is;have f0:=me (sd/8) (show(m:Int)+1≠0 by lia);have f1:=kr (sd/8) (show 0<(m:Int)+1 by lia);obtain⟨at',hat⟩:∃n:Nat,sd/8%((m:Int)+1)=(n:Int):=⟨(sd/8%((m:Int)+1)).toNat,by lia⟩;rw[hat];refine⟨_,rfl,by decide,by decide,?_⟩;rw[show((9:Int)).toNat=9 from rfl];refine Mg (λk G H3=>(∃v4:Option V,G=[some (.ref a),some (.int sd),some (.str "abcdefghijklmnopqrstuvwxyz"),some (.ref p),v4,some (.str bs),some (.int at')])/\Ag H H3/\∃ws:Za6,ws.length=k/\(∀z∈ws,Hr z=true)/\H3 p=some (.lst (sV ws)))
  ⟨⟨_,rfl⟩,s12,[],rfl,(λz hz=>by cases hz),hp2⟩ ?_ ?_
 ·rintro k G H3 hk ⟨⟨v4,rfl⟩,s3,ws,hwl,hwn,hp3⟩
  obtain⟨l1,l2⟩:=P2 (sd/64+3*(k:Int));rw[show(0+(k:Int))=(k:Int) by lia];apply⟨.inl ⟨rfl,_,SqL.of hp3⟩,?_⟩;apply Um (f9 (Ai (by lia))) ?_;apply⟨_,_,_,rfl,rfl,by decide,l1,?_⟩;have c1:=J4 bs at';have c2:=fC bs at';have w1:=K5 j1 none (some (at':Int));have w2:=K5 j1 (some (at':Int)) none;generalize Kw bs none (some (at':Int))=x1 at *;have hg:(⟨#[97+((sd/64+3*(k:Int))%26).toNat]⟩:Str).length=1:=rfl;have l2:Ob (⟨#[97+((sd/64+3*(k:Int))%26).toNat]⟩:Str)=true:=l2;generalize (⟨#[97+((sd/64+3*(k:Int))%26).toNat]⟩:Str)=x2 at *;refine⟨_,_,rfl,rfl,f9 (Ai (by lia)),?_⟩;apply Um (f9 (Ai (by lia))) ?_;generalize Kw bs (some (at':Int)) none=x3 at *;have hs12:=Z1 x1 x2;have hs3:=Z1 (x1++x2) x3;refine⟨_,_,rfl,rfl,f9 (Ai (by lia)),?_⟩;apply Bz hp3 (by rw[Fc];exact Ai (by lia)) ?_;apply⟨⟨_,rfl⟩,Ba s3 hp,ws++[x1++x2++x3],by rw[eh,hwl];rfl,λz hz=>?_,by rw[Af,fF]⟩;rcases il.mp hz with hz|hz
  ·exact hwn z hz
  ·rw[fz.mp hz]
   exact Z5 (by lia) (by lia) (U5 (U5 w1 l2) w2)
 rintro G H3 ⟨⟨v4,rfl⟩,s3,ws,hwl,hwn,hp3⟩;apply Acz (λG H4=>∃(p2:eg) (ws:Za6),G=[some (.ref a),some (.int sd),some (.str "abcdefghijklmnopqrstuvwxyz"),some (.ref p2),v4,some (.str bs),some (.int at')]/\Ag H H4/\ws.length=9/\(∀z∈ws,Hr z=true)/\H4 p2=some (.lst (sV ws))) ?_ ?_
 ·apply Bo (λ_=>?_) (λ_=>?_)
  ·apply⟨p,rfl,⟨_,SqL.of hp3⟩,?_⟩;refine xP (SqL.of hp3) (λD i zs H=>∃us:Za6,zs=sV us/\us.length=i/\∀z∈us,Hr z=true) (λD H _ _=>⟨[],rfl,rfl,λz hz=>by cases hz⟩) (λD i zs H us o _ h=>h) (λD i zs H hi ⟨us,e,el,_⟩=>?_) (λD i zs H H' _ h=>h) (λD i zs x H4 A R hx s4 _ _ ⟨us,e,el,hu⟩ _ hA=>?_) (λD zs H4 hD s4 ⟨us,e,el,hu⟩ h4=>?_)
   ·rw[Fc] at hi
    rw[e,Fc];exact Ai (by lia)
   ·obtain⟨z,hz,rfl⟩:=gB hx
    have hzn:=hwn z (f8 hz);have hzl:=K7 hzn;apply Um (f9 (Ai (by lia))) ?_;obtain⟨mm,hmm⟩:∃mm:Nat,1+(i:Int)%8=(mm:Int):=⟨(1+(i:Int)%8).toNat,by lia⟩;rw[hmm];have c1:=J4 z mm;refine hA _ _ (Ag.refl _) ⟨us++[Kw z none (some (mm:Int))],by rw[e,fF],by rw[eh,el];rfl,λy hy=>?_⟩;rcases il.mp hy with hy|hy
    ·exact hu y hy
    ·rw[fz.mp hy]
     exact Z5 (by lia) (by lia) (K5 (Xf hzn) _ _)
   ·k_is
    rw[Fc] at el;exact⟨D,us,rfl,s3.trans s4,by lia,hu,by rw[h4,e]⟩
  ·k_is
   exact⟨p,ws,rfl,s3,hwl,hwn,hp3⟩
 rintro G H4 ⟨p2,ws,rfl,s4,hwl,hwn,hp4⟩;apply⟨a,rfl,⟨_,SqL.of (s4 _ _ ha)⟩,?_⟩;refine T3 (SqL.of (s4 _ _ ha)) (λi zs H=>∃us:Za6,zs=sV us/\us.length=i/\∀z∈us,Hr z=true) (λH _=>⟨[],rfl,rfl,λz hz=>by cases hz⟩) (λi zs H D us o _ h=>h) (λi zs H hi ⟨us,e,el,_⟩=>?_) (λi zs x H5 A R hx s5 ⟨us,e,el,hu⟩ hA=>?_) (λD zs H5 hD s5 ⟨us,e,el,hu⟩ h5=>?_)
 ·rw[d7] at hi
  rw[e,Fc];exact Ai (by lia)
 ·obtain⟨g,hg,rfl⟩:=Rf hx
  have hp5:=s5 _ _ hp4;apply⟨few (by simp),λl hl=>?_⟩;obtain⟨u6,hl6⟩:=A4 (o:=.lst [V.int 9,V.int 3,V.int 2,V.int 1]) hl;have hp6:=u6 _ _ hp5;generalize upd H5 l _=H6 at *;have g0:=me (sd/3) (show(4:Int)≠0 by decide);have g1:=kr (sd/3) (show(0:Int)<4 by decide);obtain⟨j,hj⟩:∃j:Nat,sd/3%4=(j:Int):=⟨(sd/3%4).toNat,by lia⟩;obtain⟨n,hn1,hn2,hn3⟩:∃n:Int,[V.int 9,V.int 3,V.int 2,V.int 1][j]?=some (.int n)/\1<=n/\n<=9:=by
   have:j=0\/j=1\/j=2\/j=3:=by lia
   rcases this with rfl|rfl|rfl|rfl
   ·exact⟨9,rfl,by decide,by decide⟩
   ·exact⟨3,rfl,by decide,by decide⟩
   ·exact⟨2,rfl,by decide,by decide⟩
   ·exact⟨1,rfl,by decide,by decide⟩
  k_is;rw[hj];refine Cg (SqL.of hl6) (v:=.int n) (A7 hn1) ?_;refine Y3 (by lia) ?_;have k0:=me g (show n≠0 by lia);have k1:=kr g (show 0<n by lia);obtain⟨i',hi'⟩:∃i':Nat,g%n=(i':Int):=⟨(g%n).toNat,by lia⟩;rw[hi'];obtain⟨z,hz⟩:∃z,ws[i']?=some z:=⟨_,d4 (by lia)⟩;refine Cg (SqL.of hp6) (v:=.str z) (A7 (by rw[d9,hz];rfl)) ?_;refine hA _ _ u6 ⟨us++[z],by rw[e,fF],by rw[eh,el];rfl,λy hy=>?_⟩;rcases il.mp hy with hy|hy
  ·exact hu y hy
  ·rw[fz.mp hy]
   exact hwn z (f8 hz)
 ·rw[d7] at el
  exact q D us H5 (s4.trans s5) (s4.free hD) (by rw[h5,e]) el hu
inductive uX(vs:List V)(H:Hp)(Q:VK)(E:XK):Prop|mk(a:eg)(ds:Za4)(k o:Nat)(_:vs=[.ref a,.int k,.int o])(_:H a=some (.lst ((En ds).map V.int)))(_:Dok ds)(_:k<ds.length)(_:o<ds.length)(_:Q (.bl (decide (k<=o/\o<Bv ds k))) H)
include T in
theorem fX (F:Fun K "_law_is_at" "_law_is_at" K0 f fd):Ar P w K mg base CX0 1 f fd ["_law_elders","_law_k","_law_other"] uX:=by
 exists F.ok O3
 obtain⟨a,ds,k,o,rfl,ha,hD,hk,ho,q⟩:=h;have hek:=(Ds hk).1;refine⟨_,(Ab (Et ii (ttc Fp (pv 2) (pv 1)) (Ad (tst 2 O3.nd (tix Bl (pv 0) (pv 2))))) (Ad (Am (tpc Dt (pv 2) (pv 1))))),?_⟩
 apply Gr (λG H1=>H1=H/\∃y:Int,G=[some (.ref a),some (.int k),some (.int y)]/\y<ds.length/\(((k:Int)<=y/\y<Bv ds k)↔(k<=o/\o<Bv ds k))) (λG _=>match G with | [_,_,some (.int y)]=>y.toNat|_=>0) ⟨rfl,_,rfl,by lia,by lia⟩ ?_;rintro n G H1 ⟨rfl,y,rfl,hy,hiff⟩ hn;apply Bo (λh=>?_) (λh=>?_)
 ·obtain⟨i,rfl⟩:=lw (show 0<=y by lia)
  have hst:=Abo hD hk (i:=i) (by lia) (by lia);have hlt:=wA hD (k:=i) (by lia);refine Li ?_;apply Cg (SqL.of ha) (v:=.int (eld ds i)) (A7 (Sv (Mq (by lia)))) ?_;apply⟨⟨rfl,_,rfl,by lia,by rw[hst];lia⟩,?_⟩;have hn:i=n:=hn;show(eld ds i).toNat<n;lia
 ·k_is
  rw[show decide (k<=o/\o<Bv ds k)=decide (V.int y=V.int (k:Int)) from decide_eq_decide.mpr ⟨λz=>congrArg V.int (by lia),λz=>by have:=V.int.inj z;lia⟩] at q;exact q
theorem Adp {ds:Za4}(h:Dok ds){k t v:Nat}(hk:k<=ds.length)(e:(way ds k)[t+1]?=some (v:Int)):(way ds k)[t]?=some (eld ds v):=by
 obtain⟨h1,h2,h3⟩:=wW h hk e;have he:=Ia h (show v<ds.length by lia);rw[h1] at he;rw[<-he]
 cases t with
 |zero=>rw[F0 h (k:=k) hk,F0 h (k:=v) (by lia)];rfl
 |succ t=>
  have e1:(anc ds v)[t]?=((way ds k).tail.take (t+1))[t]?:=by rw[h3]
  unfold anc at e1;rw[h1,gj (by lia),gj (by lia)] at e1;rw[F0 h (k:=k) hk,F0 h (k:=v) (by lia)];exact e1.symm
inductive iT(vs:List V)(H:Hp)(Q:VK)(E:XK):Prop|mk(a b:eg)(ds:Za4)(nm:Za6)(k:Nat)(z:Str)(_:vs=[.ref a,.ref b,.int k,.str z])(_:H a=some (.lst ((En ds).map V.int)))(_:H b=some (.lst (sV nm)))(_:Dok ds)(_:nm.length=ds.length)(_:k<ds.length)(_:∀H',Ag H H'->Q (Dq (alk nm z (anc ds k))) H')
include T in
theorem Z9 (F:Fun K "_law_elder" "_law_elder" Lg f fd):Ar P w K mg base CX0 1 f fd ["_law_elders","_law_names_here","_law_k","_law_name"] iT:=by
 exists F.ok Kb
 obtain⟨a,b,ds,nm,k,z,rfl,ha,hb,hD,hnl,hk,q⟩:=h;refine⟨_,(Ab (tst 4 Kb.nd (tix Bl (pv 0) (pv 2))) (Ab (Et ii (PW.pt (fZ (ttc pG (pv 4) Ae) (Tq (ttc Uz (tix Bl (pv 1) (pv 4)) (pv 3))))) (Ad (tst 4 Kb.nd (tix Bl (pv 0) (pv 4))))) (Ad (Am (tix Bl (Bn (tpa (pv 4) (tpa Ek Aa))) (Dj sH (by rfl) T.dn rY (tpa (tpc O7 (pv 4) Ae) Aa))))))),?_⟩
 apply Cg (SqL.of ha) (v:=.int (eld ds k)) (A7 (Sv (Mq hk))) ?_;k_is;have hW:=F0 hD (k:=k) (by lia);have hwl:=Cc hD k (by lia);have hdk:=hD k hk;refine⟨λj G H1=>H1=H/\∃y:Int,G=[some (.ref a),some (.ref b),some (.int k),some (.str z),some (.int y)]/\(way ds k)[j]?=some y/\alk nm z (anc ds k)=alk nm z ((way ds k).tail.take j),⟨dAt ds k,rfl,_,rfl,Ia hD hk,rfl⟩,?_⟩;rintro j G H1 ⟨rfl,y,rfl,hy,hal⟩;k_is
 cases j with
 |zero=>
  rw[hW] at hy;obtain rfl:=ee hy;refine Bo (λh=>absurd h (by decide)) (λ_=>?_);apply⟨few (by simp),λp hp=>?_⟩;obtain⟨u1,hp1⟩:=A4 (o:=.lst [V.int (-1),V.non]) hp;generalize upd H1 p _=H2 at *;apply .inr ⟨_,rfl,?_⟩;refine Cg (SqL.of hp1) (v:=V.non) rfl ?_;have:=q H2 u1;rw[hal] at this;exact this
 |succ t=>
  obtain⟨v,rfl,hv,_⟩:=F1 hD k t y (by lia) hy;have hyt:(way ds k).tail[t]?=some (v:Int):=by rw[hW] at hy;exact hy
  obtain⟨x,hx⟩:∃x,nm[v]?=some x:=⟨_,d4 (by lia)⟩;refine Bo (λ_=>?_) (λh=>absurd (by lia) h);apply Cg (SqL.of hb) (v:=.str x) (A7 (by rw[d9,hx];rfl)) ?_;k_is;rw[i4,hyt] at hal;have hal:alk nm z (anc ds k)=alk nm z ((way ds k).tail.take t++[(v:Int)]):=hal;rw[Fx] at hal;refine gU (λh=>?_) (λh=>?_)
  ·rw[if_neg (λe=>h (by rw[ee (hx.symm.trans ((Lz (by lia)).mp e))])),gy] at hal
   refine⟨λQM H'=>∃m',m'<t+1/\H'=H1/\∃y:Int,QM=[some (.ref a),some (.ref b),some (.int k),some (.str z),some (.int y)]/\(way ds k)[m']?=some y/\alk nm z (anc ds k)=alk nm z ((way ds k).tail.take m'),λ_ _ h=>h,?_⟩;apply Cg (SqL.of ha) (v:=.int (eld ds v)) (A7 (Sv (Mq (by lia)))) ?_;k_is;exact⟨t,nj _,rfl,_,rfl,Adp hD (by lia) hy,hal⟩
  ·have hxz:x=z:=V.str.inj h
   subst hxz;rw[if_pos ((Lz (by lia)).mpr hx)] at hal;apply⟨few (by simp),λp hp=>?_⟩;obtain⟨u1,hp1⟩:=A4 (o:=.lst [V.int (v:Int),V.non]) hp;generalize upd H1 p _=H2 at *;apply .inr ⟨_,rfl,?_⟩;rw[decide_eq_false (show ¬(v:Int)<0 by lia)];refine Cg (SqL.of hp1) (v:=V.int (v:Int)) rfl ?_;have:=q H2 u1;rw[hal] at this;unfold Dq at this;rw[wj] at this;exact this
theorem SmT.butL {ts:List Tb}{p:eg}(s:SmT ts H H1)(hp:H p=none)(hl:H1 p=some (.lst xs))(b:SameBut p H1 H2):SmT ts H H2:=by
 have ne:∀{c:eg} {u:HO},H1 c=some u->(∀ys,u≠.lst ys)->c≠p:=λe n z=>by rw[z,hl] at e;exact n _ (ee e).symm
 refine⟨⟨λc u n e=>b _ _ (Aj e hp) (s.sm.keep c u n e),λc ps e=>?_⟩,λt ht=>?_,s.ok.2⟩
 ·obtain⟨ps',e'⟩:=s.sm.tb c ps e
  exact⟨ps',b _ _ (Aj e hp) e'⟩
 ·obtain⟨ps,e1,e2,e3⟩:=s.ok.1 t ht
  exact⟨ps,b _ _ (ne e1 (by intro ys z;cases z)) e1,e2,e3.imp id λ⟨c,oc,a1,a2,a3⟩=>⟨c,oc,a1,b _ _ (ne a2 (by intro ys z;cases z)) a2,a3⟩⟩
inductive qZ(vs:List V)(H:Hp)(Q:VK)(E:XK):Prop|mk(a b:eg)(l:Za4)(_:vs=[.ref a,.ref b])(_:a≠b)(_:H a=some (.lst (nV l)))(_:H b=some (.lst (nV l)))(_:l.length<=1000)(_:∀H',SameBut a H H'->Q (.bl true) H')
variable (aK:Cal P w K mg base "_law_whole" 1 ["_law_found"] Po)
include T aK in
theorem jE (F:Fun K "_law_list" "_law_list" Kd f fd):Ar P w K mg base CX0 2 f fd ["_law_found","_law_due"] qZ:=by
 exists F.ok Sh
 obtain⟨a,b,l,rfl,hab,ha,hb,hn,q⟩:=h;refine⟨_,(Ab (Bm (PW.pt (Ik (Cl (Bt (Ao Cr (by rfl) T.cR Ci (tpa (pv 0) (tpa (G9 (v:=.ty "list") rfl T.c9 R7 rfl) Aa))))) (Ho (ttc (Adx (Af8 hr)) (pv 0) (pv 1))))) (Ad (Am Jk))
  Aw) (Ab (F7 (i:=2) rfl X8 Sh.nd rfl rfl (Du (pv 0)) (λ_ _ _ _=>Md (Cl (Bt (Au aK hr.m (tpa (pv 0) Aa))))) (λ_ _ _ _=>(pv 0))) (Ab (As (Cj gi ig ie Be (pv 0) (tpa Ek Aa))) (Ad (Am (tpc (Adw (Af8 hr)) (pv 2) (Bn Aa))))))),?_⟩
 apply⟨_,_,_,_,rfl,.lst ha,Nl,?_⟩;k_is;rw[gI] at ha hb;refine Agb (SqL.of ha) (SqL.of hb) ?_;apply gU (λh=>absurd rfl h) (λ_=>?_);apply⟨a,rfl,⟨_,SqL.of ha⟩,?_⟩;refine O9 (SqL.of ha) (λ_=>[]) rfl (λi hi=>Ai (by simp)) (λi y H5 R A hy s5 kR kA=>?_) (λD5 H5 hD5 s5 h5=>?_)
 ·obtain⟨n,hn,rfl⟩:=Rf hy
  apply⟨n,rfl,?_⟩;k_is;exact kR rfl _ (Ag.refl _)
 have ha5:=s5 _ _ ha;have nDa:D5≠a:=(Aj ha hD5).symm;apply⟨.inl ⟨rfl,_,SqL.of ha5⟩,?_⟩;apply Bz ha5 (by rw[d7,d7];exact Ai (by lia)) ?_;have b6:SameBut a H (upd H5 a (.lst ((l.map λn:Nat=>(n:Int)).map V.int++[V.non]))):=λc u n e=>by rw[Al n];exact s5 _ _ e
 have h6:upd H5 a (.lst ((l.map λn:Nat=>(n:Int)).map V.int++[V.non])) D5=some (.lst []):=(Al nDa).trans h5;generalize upd H5 a _=H6 at *;apply⟨gp _,λe he=>?_⟩;obtain⟨u7,he7⟩:=A4 (o:=.lst []) he;generalize upd H6 e _=H7 at *;refine Ahp (ns:=[]) (ms:=[]) (SqL.of (u7 _ _ h6)) (SqL.of he7) ?_;exact q H7 λc u n e=>u7 _ _ (b6 c u n e)
inductive Aaa(vs:List V)(H:Hp)(Q:VK)(E:XK):Prop|mk(o:V)(_:vs=[o,o])(_:(o=.non\/∃n:Int,o=.int n))(_:Q (.bl true) H)
include T aK in
theorem lN (F:Fun K "_law_one" "_law_one" P9 f fd):Ar P w K mg base CX0 2 f fd ["_law_found","_law_due"] Aaa:=by
 exists F.ok mS
 obtain⟨o,rfl,ho,q⟩:=h;refine⟨_,(Ab (Bm (Rc (eM (pv 1))) (Ad (Am (Afd (eM (pv 0)))))
  Aw) (Ad (Am (U9 (Au aK hr.m (tpa (pv 0) Aa)) (Uk (tpc Dt (pv 0) (pv 1))))))),?_⟩
 k_is;rcases ho with rfl|⟨n,rfl⟩
 ·k_is
  exact q
 ·apply⟨n,rfl,?_⟩;k_is;rw[show decide (V.int n=V.int n)=true from decide_eq_true rfl];exact q
theorem yP {p:Nat->Bool}(i:Nat):(fb (i+1)).filter p=(fb i).filter p++if p i=true then[i] else[]:=by
 rw[je,lr]
 by_cases h:p i=true
 ·rw[if_pos h,jd,if_pos h];rfl
 ·rw[if_neg h,jd,if_neg h];rfl
theorem Zv {p:Nat->Bool}{l:Za4}{i v:Nat}(h:l[i]?=some v):(l.take (i+1)).filter p=(l.take i).filter p++if p v=true then[v] else[]:=by
 rw[i4,h,lr]
 by_cases c:p v=true
 ·rw[if_pos c];show _++BS p [v]=_;rw[jd,if_pos c];rfl
 ·rw[if_neg c];show _++BS p [v]=_;rw[jd,if_neg c];rfl
theorem Aa4 (nm:Za6)(x:Str):(ofN nm x).length<=nm.length:=by
 have:=j9 (λk=>decide (nm[k]?=some x)) (fb nm.length);rw[fe] at this;exact this
inductive zI (K:d6)(CB CC CP CO CS CN:eg)(ts:List Tb)(vs:List V)(H:Hp)(Q:VK)(E:XK):Prop|mk(x a b:eg)(nm:Za6)(ds:Za4)(k:Nat)(z:Str)(_:vs=[.ref x,.ref a,.ref b,.int k,.str z])(_:C7 K CB CC CP CO CS CN H x nm ds)(_:Tbs ts H)(_:H a=some (.lst ((En ds).map V.int)))(_:H b=some (.lst (sV nm)))(_:Dok ds)(_:k<nm.length)(_:Hr z=true)(_:∀H',SmT ts H H'->Q (.bl true) H')
include T ah aK in
theorem iW (F:Fun K "_law_good" "_law_good" Gk f fd)(cA:Cal P w K mg base "_law_is_at" 1 ["_law_elders","_law_k","_law_other"] uX)(bq:Mth P w K mg base ae "all_of" 3 ["self","name"] (qF K ac ab aa ad ag ae))(bj:Cal P w K mg base "_law_list" 2 ["_law_found","_law_due"] qZ)(bt:Mth P w K mg base ae "all_beneath" 14 ["self","k","name"] (vL K ac ab aa ad ag ae ts))(cB:Mth P w K mg base ae "many_beneath" 14 ["self","k","name"] (rB K ac ab aa ad ag ae ts))(cC:Mth P w K mg base ae "next_of" 5 ["self","k","name"] (jG K ac ab aa ad ag ae ts))(bu:Cal P w K mg base "_law_one" 2 ["_law_found","_law_due"] Aaa)(cD:Mth P w K mg base ae "elder_of" 13 ["self","k","name"] (Zj K ac ab aa ad ag ae ts))(cE:Cal P w K mg base "_law_elder" 1 ["_law_elders","_law_names_here","_law_k","_law_name"] iT) :
  Ar P w K mg base CX0 15 f fd ["_law_told","_law_elders","_law_names_here","_law_k","_law_name"] (zI K ac ab aa ad ag ae ts):=by
 exists F.ok Gq
 obtain⟨x,a,b,nm,ds,k,z,rfl,hI,hT,ha,hb,hD,hk,hz,q⟩:=h;obtain⟨hnl,h64,dx,wd,sx,sp,nk,bb,ll,es,hN⟩:=id hI;have hx:=hN.hx;clear hN;refine⟨_,(Ab (F7 (i:=5) rfl Yd Gq.nd rfl rfl (Fk rfl T.cN (tpa (Ao At (by rfl) T.cK Ch (tpa (pv 2) Aa)) Aa)) (λ_ _ _ _=>Md (ttc Dt (tix (Jo K) (pv 2) (pv 0)) (pv 1))) (λ_ _ _ _=>(pv 0))) (Ab (F7 (i:=6) rfl Xr Gq.nd rfl rfl (Du (pv 5)) (λ_ _ _ _=>Md (Bt (Au cA hr.m (tpa (pv 1) (tpa (pv 2) (tpa (pv 0) Aa)))))) (λ_ _ _ _=>(pv 0))) (Ab (F7 (i:=7) rfl Xq Gq.nd rfl rfl (Du (pv 5)) (λ_ _ _ _=>Md (ttc pG (pv 0) (pv 1))) (λ_ _ _ _=>(pv 0))) (Ab (Bm (PW.pt (Ik (Cl (Bt (Au bj hr.m (tpa (Aq bq hr.m (pv 0) (tpa (pv 4) Aa)) (tpa (pv 5) Aa))))) (Ho (Cl (Bt (Au bj hr.m (tpa (Aq bq hr.m (pv 0) (tpa (pv 4) Aa)) (tpa (pv 5) Aa)))))))) (Ad (Am Jk))
  Aw) (Ab (Bm (PW.pt (Ik (Cl (Bt (Au bj hr.m (tpa (Aq bt hr.m (pv 0) (tpa (pv 3) (tpa (pv 4) Aa))) (tpa (pv 6) Aa))))) (Ho (Cl (Bt (Au bj hr.m (tpa (Aq bt hr.m (pv 0) (tpa (pv 3) (tpa (pv 4) Aa))) (tpa (pv 6) Aa)))))))) (Ad (Am Jk))
  Aw) (Ab (tst 8 Gq.nd (Aq cB hr.m (pv 0) (tpa (pv 3) (tpa (pv 4) Aa)))) (Ab (Bm (PW.pt (Ik (Cl (Bt (Au aK hr.m (tpa (pv 8) Aa)))) (Ho (ttc Uz (pv 8) (Ao At (by rfl) T.cK Ch (tpa (pv 6) Aa)))))) (Ad (Am Jk))
  Aw) (Ab (Bm (Cl (Bt (Au bu hr.m (tpa (Aq cC hr.m (pv 0) (tpa (pv 3) (tpa (pv 4) Aa))) (tpa (tix Bl (Ak Ix (pv 7) (Bn (tpa Ek Aa))) Ae) Aa))))) (Ad (Am Jk))
  Aw) (Ad (Am (Au bu hr.m (tpa (Aq cD hr.m (pv 0) (tpa (pv 3) (tpa (pv 4) Aa))) (tpa (Au cE hr.m (tpa (pv 1) (tpa (pv 2) (tpa (pv 3) (tpa (pv 4) Aa))))) Aa))))))))))))),?_⟩
 apply⟨b,_,rfl,.inl (SqL.of hb),?_⟩;rw[Fc];apply⟨_,rfl,by lia,by lia,?_⟩;rw[gw];refine Jy (λi=>nV ((fb i).filter λk=>decide (nm[k]?=some z))) rfl (λi hi=>?_) (λi H1 R A hi s1 kR kA=>?_) (λD H1 hD1 s1 h1=>?_)
 ·rw[Bw]
  have:=j9 (λk=>decide (nm[k]?=some z)) (fb i);rw[fe] at this;exact Ai (by lia)
 ·have hf:=yP (p:=λk=>decide (nm[k]?=some z)) i
  obtain⟨y,hy⟩:∃y,nm[i]?=some y:=⟨_,d4 hi⟩;rw[show(0+(i:Int))=(i:Int) by lia];apply Cg (SqL.of (s1 _ _ hb)) (v:=.str y) (A7 (by rw[d9,hy];rfl)) ?_;apply Bo (λh=>?_) (λh=>?_)
  ·rw[if_pos (decide_eq_true (by rw[hy,V.str.inj h]))] at hf
   apply kA _ _ ?_ (Ag.refl _);rw[hf,Mm]
  ·rw[if_neg (λc=>h (by rw[ee (hy.symm.trans (of_decide_eq_true c))])),gy] at hf
   k_is;exact kR (by rw[hf]) _ (Ag.refl _)
 have h1:H1 D=some (.lst (nV (ofN nm z))):=h1;have hol:=Aa4 nm z;apply⟨D,rfl,⟨_,SqL.of h1⟩,?_⟩;refine O9 (SqL.of h1) (λi=>nV (((ofN nm z).take i).filter λv=>decide (k<=v/\v<Bv ds k))) rfl (λi hi=>?_) (λi y H2 R A hy s2 kR kA=>?_) (λD2 H2 hD2 s2 h2=>?_)
 ·rw[Bw]
  have:=j9 (λv=>decide (k<=v/\v<Bv ds k)) ((ofN nm z).take i);rw[fi] at this;exact Ai (by lia)
 ·obtain⟨v,hv,rfl⟩:=T9 hy
  have hvl:=Bq (Tn.mp (f8 hv));have hf:=Zv (p:=λv=>decide (k<=v/\v<Bv ds k)) hv;apply⟨a,ds,k,v,rfl,s2 _ _ (s1 _ _ ha),hD,by lia,by lia,?_⟩;refine⟨_,rfl,?_⟩;refine Bo (λh=>?_) (λh=>?_)
  ·rw[if_pos (decide_eq_true h)] at hf
   apply kA _ _ ?_ (Ag.refl _);rw[hf,Mm]
  ·rw[if_neg (λc=>h (of_decide_eq_true c)),gy] at hf
   k_is;exact kR (by rw[hf]) _ (Ag.refl _)
 rw[Bw,fw (d8 _)] at h2;have h2:H2 D2=some (.lst (nV (iB (ofN nm z) k (Bv ds k)))):=h2;have hD12:=s2 _ _ h1;apply⟨D,rfl,⟨_,SqL.of hD12⟩,?_⟩;refine O9 (SqL.of hD12) (λi=>nV (((ofN nm z).take i).filter λv=>decide (k<=v))) rfl (λi hi=>?_) (λi y H3 R A hy s3 kR kA=>?_) (λD3 H3 hD3 s3 h3=>?_)
 ·rw[Bw]
  have:=j9 (λv=>decide (k<=v)) ((ofN nm z).take i);rw[fi] at this;exact Ai (by lia)
 ·obtain⟨v,hv,rfl⟩:=T9 hy
  have hf:=Zv (p:=λv=>decide (k<=v)) hv;apply Bo (λh=>?_) (λh=>?_)
  ·rw[if_pos (decide_eq_true (by lia))] at hf
   apply kA _ _ ?_ (Ag.refl _);rw[hf,Mm]
  ·rw[if_neg (λc=>h (by have:=of_decide_eq_true c;lia)),gy] at hf
   k_is;exact kR (by rw[hf]) _ (Ag.refl _)
 rw[Bw,fw (d8 _),vJ (Pc nm z)] at h3;have hD13:=s3 _ _ hD12;have hD23:=s3 _ _ h2;have r3:=SmT.of hT (s1.trans (s2.trans s3));have n1:H D=none:=hD1;have n2:H D2=none:=s1.free hD2;have n3:H D3=none:=(s1.trans s2).free hD3;apply⟨x,dx,_,rfl,r3.k hx,rfl,?_⟩;apply⟨x,nm,ds,z,rfl,hI.kp r3.kp,hz,λp4 H4 s4 hp4 h4=>?_⟩;apply⟨p4,D,_,rfl,(Aj hD13 hp4).symm,h4,s4 _ _ hD13,by lia,λH5 b5=>?_⟩;have r5:=(r3.then s4).butL ((r3.sm.free hp4)) h4 b5;have hD5:H5 D=_:=b5 _ _ (Aj hD13 hp4) (s4 _ _ hD13);have hE5:H5 D2=_:=b5 _ _ (Aj hD23 hp4) (s4 _ _ hD23);have hG5:H5 D3=_:=b5 _ _ (Aj h3 hp4) (s4 _ _ h3);apply⟨x,dx,_,rfl,r5.k hx,rfl,?_⟩;apply⟨x,nm,ds,z,rfl,hI.kp r5.kp,hz,λp6 H6 s6 hp6 h6=>?_⟩;apply⟨p6,D,_,rfl,(Aj hD5 hp6).symm,h6,s6 _ _ hD5,by lia,λH7 b7=>?_⟩;have r7:=(r5.then s6).butL (r5.sm.free hp6) h6 b7;have hE7:H7 D2=_:=b7 _ _ (Aj hE5 hp6) (s6 _ _ hE5);have hG7:H7 D3=_:=b7 _ _ (Aj hG5 hp6) (s6 _ _ hG5);have hbl:(iB (ofN nm z) k (Bv ds k)).length<=(ofN nm z).length:=j9 _ _;apply⟨x,dx,_,rfl,r7.k hx,rfl,?_⟩;apply⟨x,nm,ds,k,z,rfl,hI.kp r7.kp,r7.ok,hk,hz,λp8 H8 s8 hp8 h8=>?_⟩;apply⟨p8,D2,_,rfl,(Aj hE7 hp8).symm,h8,s8.k hE7,by lia,λH9 b9=>?_⟩;have r9:=(r7.trans s8).butL (r7.sm.free hp8) h8 b9;have hE9:H9 D2=_:=b9 _ _ (Aj hE7 hp8) (s8.k hE7);have hG9:H9 D3=_:=b9 _ _ (Aj hG7 hp8) (s8.k hG7);apply⟨x,dx,_,rfl,r9.k hx,rfl,?_⟩;apply⟨x,nm,ds,k,z,rfl,hI.kp r9.kp,r9.ok,hk,hz,λp10 H10 s10 hp10 h10=>?_⟩;apply⟨p10,D2,_,rfl,(Aj hE9 hp10).symm,h10,s10.k hE9,by lia,λH11 b11=>?_⟩;have r11:=(r9.trans s10).butL (r9.sm.free hp10) h10 b11;have hE11:H11 D2=_:=b11 _ _ (Aj hE9 hp10) (s10.k hE9);have hG11:H11 D3=_:=b11 _ _ (Aj hG9 hp10) (s10.k hG9);apply⟨x,dx,_,rfl,r11.k hx,rfl,?_⟩;apply⟨x,nm,ds,k,z,rfl,hI.kp r11.kp,r11.ok,hk,hz,λH12 s12=>?_⟩;have r12:=r11.trans s12;have hE12:=s12.k hE11;have hG12:=s12.k hG11;apply⟨_,rfl,?_⟩;apply⟨D2,_,rfl,.inl (SqL.of hE12),?_⟩;rw[Bw];apply gU (λh=>absurd rfl h) (λ_=>?_);apply⟨x,dx,_,rfl,r12.k hx,rfl,?_⟩;apply⟨x,nm,ds,k,z,rfl,hI.kp r12.kp,r12.ok,hk,hz,λH13 s13=>?_⟩;have r13:=r12.trans s13;have hG13:=s13.k hG12;apply⟨few (by simp),λp14 hp14=>?_⟩;obtain⟨u14,h14⟩:=A4 (o:=.lst [V.non]) hp14;have hG14:=u14 _ _ hG13;have r14:=r13.then u14;generalize upd H13 p14 _=H14 at *;have hdl:((ofN nm z).drop (Ck (ofN nm z) k)).length<=(ofN nm z).length:=by rw[ic];lia
 refine⟨D3,p14,_,_,rfl,rfl,hG14,h14,f9 (Ai (by rw[Bw,ja];lia)),λp15 hp15=>?_⟩;obtain⟨u15,h15⟩:=A4 (o:=.lst (nV ((ofN nm z).drop (Ck (ofN nm z) k))++[V.non])) hp15;have r15:=r14.then u15;generalize upd H14 p15 _=H15 at *;apply Cg (SqL.of h15) (v:=Uy (ofN nm z)[Ck (ofN nm z) k]?) (A7 (j:=0) ?_) ?_
 ·rcases ya (Ck (ofN nm z) k) (ofN nm z).length with l|l
  ·rw[f7 (by rw[Bw,ic];lia),d9,i5,m7,d4 l]
   rfl
  ·rw[ji l,ij l]
   rfl
 apply⟨_,rfl,?_,?_⟩
 ·cases(ofN nm z)[Ck (ofN nm z) k]? with
  |none=>exact .inl rfl
  |some v=>exact .inr ⟨_,rfl⟩
 apply⟨x,dx,_,rfl,r15.k hx,rfl,?_⟩;apply⟨x,nm,ds,k,z,rfl,hI.kp r15.kp,r15.ok,hk,hz,λH16 s16=>?_⟩;have r16:=r15.trans s16;apply⟨a,b,ds,nm,k,z,rfl,r16.k ha,r16.k hb,hD,hnl,by lia,λH17 s17=>?_⟩;apply⟨_,rfl,?_,?_⟩
 ·unfold Dq
  split
  ·exact .inl rfl
  ·exact .inr ⟨_,rfl⟩
 exact q H17 (r16.then s17)
theorem tE (h0:1<=z.length)(h:Ob z=true):Hr (Kw z none (some 8))=true:=by
 have c:=J4 z 8;exact Z5 (by rw[show(8:Int)=((8:Nat):Int) from rfl,c];lia) (by rw[show(8:Int)=((8:Nat):Int) from rfl,c];lia) (K5 h _ _)
include T ah ZO aC aJ in
theorem Ad1 (F:Fun K "law" "law" Zx f fd)(cF:Cal P w K mg base "_law_wood" 1 ["_law_digits_here"] xA)(bv:Cal P w K mg base "_law_digits" 2 ["_law_script","_law_at","_law_many"] (kI K))(cG:Cal P w K mg base "_law_names" 1 ["_law_digits_here","_law_seed"] pK)(cH:Mkr P w K mg base "Named" ae 10 ["self","wood","names"] (gA K ac ab aa ad ag ae ts))(cI:Mkr P w K mg base "Opened" ad 9 ["self","elders"] (jJ K ac ab aa ad))(cJ:Cal P w K mg base "_law_good" 15 ["_law_told","_law_elders","_law_names_here","_law_k","_law_name"] (zI K ac ab aa ad ag ae ts)):Ar P w K mg base CX0 16 f fd ["_law_script"] (qB K ts):=by
 exists F.ok Hj
 obtain⟨a,ns,rfl,hS,hlen,hT,q⟩:=h;refine⟨_,(Ab (tst 1 Hj.nd (Ak Bd Ae (Ak Cm (Au aJ hr.m (tpa (Au aC hr.m (tpa (pv 0) (tpa Ae Aa))) (tpa Ae Aa))) Ae))) (Ab (tst 2 Hj.nd (Au cF hr.m (tpa (Au bv hr.m (tpa (pv 0) (tpa Ae (tpa (pv 1) Aa)))) Aa))) (Ab (tst 3 Hj.nd (Au cG hr.m (tpa (Au bv hr.m (tpa (pv 0) (tpa Ae (tpa (pv 1) Aa)))) (tpa (Au aJ hr.m (tpa (Au aC hr.m (tpa (pv 0) (tpa Ae Aa))) (tpa Ae Aa))) Aa)))) (Ab (tst 4 Hj.nd (Uu cH hr.m (tpa (Uu cI hr.m (tpa (pv 2) Aa)) (tpa (Dj Pa (by rfl) T.c9 R7 (tpa (pv 3) Aa)) Aa)))) (Ab (tst 5 Hj.nd (Bn (tpa Cy (tpa Cy (tpa (Ak Kr (tix Bl (pv 3) Ae) Cy) (tpa (Cf Lk (tix Bl (pv 3) (Fr C9 Ae)) Hb (B3 Ae)) Aa)))))) (Ab (Dc ii rfl (Me rfl T.cV (tpa (Ak Ix (Cf Op (pv 0) (B3 Ae) (B3 Ae)) (Bn (tpa (Ao At (by rfl) T.cK Ch (tpa (pv 0) Aa)) Aa))) Aa)) (J2 rfl (B4 (tgn 6 Hj.nd) (B4 (tgn 7 Hj.nd) Hd))) (Ab (tst 8 Hj.nd (Au aJ hr.m (tpa (pv 7) (tpa (pv 6) Aa)))) (Ab (tst 9 Hj.nd (tix Bl (pv 3) (Ak Cm (Ak Cs (pv 8) Ae) (pv 1)))) (Ab (vQ (ttc Dt (Ak Cm (pv 8) Ae) Ae) (Ad (tst 9 Hj.nd (Cf Lk (tix Bl (pv 5) (Ak Cm (Ak Cs (pv 8) Ae) Ae)) Hb (B3 Ae))))
  Aw) (Ad (Bm (Cl (Bt (Au cJ hr.m (tpa (pv 4) (tpa (pv 2) (tpa (pv 3) (tpa (Ak Cm (Ak Cs (pv 8) Ae) (pv 1)) (tpa (pv 9) Aa)))))))) (Ad (Am Jk))
  Aw)))))) (Ad (Am Jk)))))))),?_⟩
 apply⟨a,ns,0,rfl,hS,λc0=>?_⟩;apply⟨c0,1,rfl,by decide,by decide,λr0 h0 h1=>?_⟩;k_is;obtain⟨m,hm,hm0,hm1⟩:∃m:Nat,1+r0%60=(m:Int)/\1<=m/\m<=60:=⟨(1+r0%60).toNat,by lia,by lia,by lia⟩;rw[hm];apply⟨a,ns,2,m,rfl,hS,by lia,by lia,λp1 gs1 H1 s1 _ hp1 hg1=>?_⟩;rw[gw] at hg1;apply⟨p1,gs1,rfl,hp1,by lia,λe ds H2 s2 _ he2 hD hdl=>?_⟩;have s12:=s1.trans s2;apply⟨a,ns,13,m,rfl,s12.seq hS,by lia,by lia,λp3 gs3 H3 s3 _ hp3 hg3=>?_⟩;rw[gw] at hg3;have s13:=s12.trans s3;apply⟨a,ns,1,rfl,s13.seq hS,λc1=>?_⟩;apply⟨c1,2,rfl,by decide,by decide,λsd _ _=>?_⟩;apply⟨p3,gs3,sd,rfl,hp3,by lia,λg nm H4 s4 _ hg4 hnl hnm=>?_⟩;have s14:=s13.trans s4;have he4:=s4 _ _ (s3 _ _ he2);k_is;intro w1 dw hw1 hdw1 hwd;refine⟨w1,dw,e,ds,rfl,Af,Lj hw1 hdw1 _ _ he4,hD,by lia,λH5 s5 hO5=>⟨rfl,?_⟩⟩;have s5:=Jl hw1 hdw1 s5;have s15:=s14.trans s5;have hg5:=s5 _ _ hg4;have he5:=s5 _ _ he4;apply⟨g,_,rfl,.inl (SqL.of hg5),λhd hhd=>?_⟩;obtain⟨u6,hd6⟩:=A4 (o:=.lst (sV nm)) hhd;have hg6:=u6 _ _ hg5;have he6:=u6 _ _ he5;have hO6:=hO5.kp (Ag.kp u6);have s16:=s15.trans u6;generalize upd H5 hd _=H6 at *;have hT6:=hT.same s16;k_is;intro x dx hx6 hdx hxd;have hs0:Ag H6 (upd (upd H6 dx (.own x)) x (.ins ae dx [])):=λb u e=>Lj hx6 hdx b u e;refine⟨x,dx,w1,hd,nm,ds,rfl,Af,hO6.kp (Ag.kp hs0),hs0 _ _ hd6,hnm,by lia,by lia,hT6.same hs0,λH7 b7 hI7=>⟨rfl,?_⟩⟩;have k7:SmT ts H6 H7:=SmB.made hx6 hdx b7;have hg7:=k7.k hg6;have he7:=k7.k he6;have r7:=(SmT.of hT s16).trans k7;obtain⟨y0,hy0⟩:∃y,nm[0]?=some y:=⟨_,d4 (by lia)⟩;obtain⟨y1,hy1⟩:∃y,nm[nm.length-1]?=some y:=⟨_,d4 (by lia)⟩;have hn0:=hnm _ (f8 hy0);have hn1:=hnm _ (f8 hy1);have hl0:=K7 hn0;have hl1:=K7 hn1;apply Cg (SqL.of hg7) (v:=.str y0) (A7 (j:=0) (by rw[d9,hy0];rfl)) ?_;apply⟨_,_,rfl,rfl,f9 (Ai (by rw[show("q":Str).length=1 from rfl];lia)),?_⟩;apply Cg (SqL.of hg7) (v:=.str y1) (Tw (by rw[Fc,d9,hy1];rfl)) ?_;apply Um (f9 (Ai (by lia))) ?_;apply⟨few (by simp),λot hot=>?_⟩;obtain⟨os,hos,hol,hon⟩:∃os:Za6,sV os=[V.str "zz",V.str "a",V.str (y0++"q"),V.str (Kw y1 none (some 1))]/\os.length=4/\∀z∈os,1<=z.length/\z.length<=9/\Ob z=true:=by
  refine⟨["zz","a",y0++"q",Kw y1 none (some 1)],rfl,rfl,λz hz=>?_⟩;have c0:=Z1 y0 "q";have c1:=J4 y1 1;rw[show("q":Str).length=1 from rfl] at c0;have c1:(Kw y1 none (some 1)).length=min 1 y1.length:=c1;simp only[iu,lu,or_false] at hz;rcases hz with rfl|rfl|rfl|rfl
  ·exact⟨by decide +kernel,by decide +kernel,by decide +kernel⟩
  ·exact⟨by decide +kernel,by decide +kernel,by decide +kernel⟩
  ·exact⟨by lia,by lia,U5 (Xf hn0) (by decide +kernel)⟩
  ·exact⟨by lia,by lia,K5 (Xf hn1) _ _⟩
 rw[<-hos] at *;obtain⟨u8,ho8⟩:=A4 (o:=.lst (sV os)) hot;have r8:=r7.then u8;have k8:=k7.then u8;have hg8:=u8 _ _ hg7;have he8:=u8 _ _ he7;have hI8:=hI7.kp (Ag.kp u8);generalize upd H7 ot _=H8 at *;have hS8:=r8.sm.seq hS;clear u8 k8 hI7 k7 b7 r7 hot hos;apply⟨a,_,rfl,hS8,λc1 hc1=>?_⟩;obtain⟨ms,hms,hml⟩:=vH ns (some 24) (some 54);rw[hms];obtain⟨u9,hc9⟩:=A4 (o:=.lst (ms.map V.int)) hc1;have r9:=SmT.of r8.ok u9;generalize upd H8 c1 _=H9 at *;apply⟨a,_,rfl,.inl (r9.sm.seq hS8),?_⟩;apply⟨few (by simp),λc2 hc2=>?_⟩;obtain⟨u10,hc20⟩:=A4 (o:=.lst [V.int ((ns.map V.int).length:Nat)]) hc2;have hc10:=u10 _ _ hc9;have r10:=r9.then u10;generalize upd H9 c2 _=H10 at *;refine⟨c1,c2,_,_,rfl,rfl,hc10,hc20,f9 (Ai (by rw[d7,ja];lia)),λc3 hc3=>?_⟩;rw[show ms.map V.int++[V.int ((ns.map V.int).length:Nat)]=(ms++[((ns.map V.int).length:Int)]).map V.int by rw[fj];rfl];obtain⟨u11,hc11⟩:=A4 (o:=.lst ((ms++[((ns.map V.int).length:Int)]).map V.int)) hc3;have r11:=r10.then u11;generalize upd H10 c3 _=H11 at *;obtain⟨zs,hzs,hzl⟩:∃zs:List Int,ms++[((ns.map V.int).length:Int)]=zs/\zs.length<=64:=⟨_,rfl,by rw[eh,ja];lia⟩;rw[hzs] at hc11;clear u9 u10 u11 r9 r10 hc9 hc10 hc20;apply⟨c3,rfl,⟨_,SqL.of hc11⟩,?_⟩;refine Lm (xs:=zs.map V.int) (λk G H12=>(∃v6 v7 v8 v9:Option V,G=[some (.ref a),some (.int m),some (.ref e),some (.ref g),some (.ref x),some (.ref ot),v6,v7,v8,v9])/\SmT ts H11 H12) ⟨⟨_,_,_,_,rfl⟩,SmT.refl r11.ok⟩ (λk G H12 _ h=>SqL.of (h.2.k hc11)) ?_ ?_
 ·rintro k y G H12 t hy ⟨⟨v6,v7,v8,v9,rfl⟩,s12⟩ ht
  have hkl:=Bq hy;rw[d7] at hkl;obtain⟨cl,hcl,rfl⟩:=Rf hy;have s13:=s12.then (An (o:=.tup [.int k,.int cl]) ht);generalize upd H12 t _=H13 at *;have r13:=r11.trans s13;apply⟨cl,k,rfl,by lia,by lia,λr h0 h1=>?_⟩;apply Y3 (by lia) ?_;k_is;obtain⟨i,hi,hil⟩:∃i:Nat,r/64%(m:Int)=(i:Int)/\i<m:=by
   have h2:=me (r/64) (show(m:Int)≠0 by lia);have h3:=kr (r/64) (show(0:Int)<m by lia);exact⟨(r/64%(m:Int)).toNat,by lia,by lia⟩
  rw[hi];obtain⟨z,hz⟩:∃z,nm[i]?=some z:=⟨_,d4 (by lia)⟩;refine Cg (SqL.of (r13.k hg8)) (v:=.str z) (A7 (by rw[d9,hz];rfl)) ?_;apply Acz (λG H14=>H14=H13/\∃z:Str,Hr z=true/\G=[some (.ref a),some (.int m),some (.ref e),some (.ref g),some (.ref x),some (.ref ot),some (.int k),some (.int cl),some (.int r),some (.str z)]) ?_ ?_
  ·apply Bo (λ_=>?_) (λ_=>?_)
   ·k_is
    obtain⟨j,hj,hjl⟩:∃j:Nat,r/64%4=(j:Int)/\j<4:=⟨(r/64%4).toNat,by lia,by lia⟩;rw[hj];obtain⟨y,hy⟩:∃y,os[j]?=some y:=⟨_,d4 (by lia)⟩;obtain⟨o1,o2,o3⟩:=hon y (f8 hy);refine Cg (SqL.of (r13.k ho8)) (v:=.str y) (A7 (by rw[d9,hy];rfl)) ?_;apply Um (f9 (Ai (by lia))) ?_;k_is;exact⟨rfl,_,tE o1 o3,rfl⟩
   ·k_is
    exact⟨rfl,z,hnm z (f8 hz),rfl⟩
  rintro G H14 ⟨rfl,z,hzn,rfl⟩;apply Y3 (by lia) ?_;k_is;obtain⟨i,hi,hil⟩:∃i:Nat,r/8%(m:Int)=(i:Int)/\i<m:=by
   have h2:=me (r/8) (show(m:Int)≠0 by lia);have h3:=kr (r/8) (show(0:Int)<m by lia);exact⟨(r/8%(m:Int)).toNat,by lia,by lia⟩
  rw[hi];refine⟨x,e,g,nm,ds,i,z,rfl,hI8.kp r13.kp,r13.ok,r13.k he8,r13.k hg8,hD,by lia,hzn,λH15 s15=>?_⟩;k_is;exact⟨⟨_,_,_,_,rfl⟩,s13.trans s15⟩
 ·rintro G H12 ⟨⟨v6,v7,v8,v9,rfl⟩,s12⟩
  k_is;exact q H12
end
set_option maxHeartbeats 8000000 in
theorem all_mk:AllMk:=by
 intro l w K h mg fa X G hfa ac ab ag ae aa ad bn bo f26 od26 an26 sl26 oc26 kV26 dc26 pm26 ct26 oo26 f33 od33 an33 sl33 oc33 kV33 dc33 pm33 cd33 ct33 T33 oT33 vT33 nT33 f78 od78 an78 sl78 oc78 kV78 dc78 pm78 ct78 oo78 f83 od83 an83 sl83 oc83 kV83 dc83 pm83 ct83 oo83 ao o_ONES_OF_FOUR i_ONES_OF_FOUR n_ONES_OF_FOUR ap o_SIGNS_OF_FOUR i_SIGNS_OF_FOUR n_SIGNS_OF_FOUR t_WORD_BITS t_MOST_BITS t_BLOCK_WORDS t_BLOCK_BITS t_FULL_WORD t_MOST_SIGNS_pairs t_STRETCH_BITS t_MOST_KNOTS t_MOST_SIGNS_woods t_MOST_LETTERS t_LETTERS cd_Bits fd_Bits cd_Counts fd_Counts cd_Shortcuts fd_Shortcuts cd_Named fd_Named cd_Pairs fd_Pairs cd_Opened fd_Opened bc_Heights bc_Openings g0 g1 g2 g3 g4 g5 g6 g7 g8 g9 g10 g11 g12 g13 g14 g15 g16 g17 g18 g19 g20 g21 g22 g23 g24 g25 i26 a26 l26 c26 k26 lc26 hc26 g27 g28 g29 g30 g31 g32 i33 a33 l33 c33 k33 lT33 dT33 eT33 g34 g35 g36 g37 g38 g39 g40 g41 g42 g43 g44 g45 g46 g47 g48 g49 g50 g51 g52 g53 g54 g55 g56 g57 g58 g59 g60 g61 g62 g63 g64 g65 g66 g67 g68 g69 g70 g71 g72 g73 g74 g75 g76 g77 i78 a78 l78 c78 k78 lc78 hc78 g79 g80 g81 g82 i83 a83 l83 c83 k83 lc83 hc83 g84 g85 g86 g87 g88 g89 g90 g91 g92 g93 g94 g95 g96 g97 g98 g99 g100 g101 cU o1_ONES_OF_FOUR o2_ONES_OF_FOUR o3_ONES_OF_FOUR o4_ONES_OF_FOUR o5_ONES_OF_FOUR da o1_SIGNS_OF_FOUR o2_SIGNS_OF_FOUR o3_SIGNS_OF_FOUR o4_SIGNS_OF_FOUR o5_SIGNS_OF_FOUR cL dg cP c8 de c6 cT cY cZ df cX z_range z_len z_int z_bool z_str z_isinstance z_list z_tuple z_dict z_enumerate z_zip z_sum z_abs z_max z_min z_sorted z_all z_reversed;obtain⟨f101,d101,F101,a101⟩:=g101;obtain⟨_,_,kV101,dc101,pm101,an101,cd101,ct101,_,rfl,_,_⟩:=F101.ex;have e:=hfa.symm.trans (jw X G a101);cases e;have dj:∀H,SqT K H ao (Y9.map λn:Nat=>V.int n):=λH=>.inr ⟨o_ONES_OF_FOUR,i_ONES_OF_FOUR,n_ONES_OF_FOUR,o1_ONES_OF_FOUR,o2_ONES_OF_FOUR,o3_ONES_OF_FOUR,o4_ONES_OF_FOUR,o5_ONES_OF_FOUR⟩;have dB:∀H,SqT K H ap (pV):=λH=>.inr ⟨o_SIGNS_OF_FOUR,i_SIGNS_OF_FOUR,n_SIGNS_OF_FOUR,o1_SIGNS_OF_FOUR,o2_SIGNS_OF_FOUR,o3_SIGNS_OF_FOUR,o4_SIGNS_OF_FOUR,o5_SIGNS_OF_FOUR⟩;have T0:∀base:jj,Txt l.prog w base tz K mg ao ap:=λ_=>⟨jw X G cU,dj,jw X G da,dB,⟨_,jw X G cL⟩,⟨_,jw X G dg⟩,⟨_,jw X G cP⟩,⟨_,jw X G c8⟩,⟨_,jw X G de⟩,⟨_,jw X G c6⟩,⟨_,jw X G cT⟩,⟨_,jw X G cY⟩,⟨_,jw X G cZ⟩,⟨_,jw X G df⟩,⟨_,jw X G cX⟩,kx X G z_range,kx X G z_len,kx X G z_int,kx X G z_bool,kx X G z_str,kx X G z_isinstance,kx X G z_list,kx X G z_tuple,kx X G z_dict,kx X G z_enumerate,kx X G z_zip,kx X G z_sum,kx X G z_abs,kx X G z_max,kx X G z_min,kx X G z_sorted,kx X G z_all,kx X G z_reversed⟩;have Qf:Qf K ac:=⟨fd_Bits.cl,fd_Bits.no 0,fd_Bits.no 1,fd_Bits.no 2⟩;have Qd:Qd K ab:=⟨fd_Counts.cl,fd_Counts.no 0,fd_Counts.no 1,fd_Counts.no 2⟩;have Qe:Qe K ag:=⟨fd_Shortcuts.cl,fd_Shortcuts.no 0,fd_Shortcuts.no 1⟩;have Qc:Qc K ae:=⟨fd_Named.cl,fd_Named.no 0,fd_Named.no 1,fd_Named.no 2,fd_Named.no 3,fd_Named.no 4,fd_Named.no 5⟩;have Qa:Qa K aa:=⟨fd_Pairs.cl,fd_Pairs.no 0,fd_Pairs.no 1,fd_Pairs.no 2,fd_Pairs.no 3,fd_Pairs.no 4⟩;have Qb:Qb K ad:=⟨fd_Opened.cl,fd_Opened.no 0⟩;have F26:=Z6 (st:=Bi) l26 c26 k26 lc26 hc26;have b26:=F26.binds (ps:=["self","bit","nth"]) λ_ _ _ _ _ _=>us3 λ_ _ _=>rfl;have F33:=Ab8 (st:=B6) l33 c33 lT33 dT33;have b33:=F33.binds (ps:=["self","order","step"]) λ_ _ _ _ _ _ _ us hl=>match us,hl with | [_,_,_],_=>⟨_,rfl,λ_=>rfl⟩
 have F78:=Z6 (st:=C8) l78 c78 k78 lc78 hc78;have b78:=F78.binds (ps:=["self","wood","names"]) λ_ _ _ _ _ _=>us3 λ_ _ _=>rfl;have F83:=Z6 (st:=Bx) l83 c83 k83 lc83 hc83;have b83:=F83.binds (ps:=["self","k","name"]) λ_ _ _ _ _ _=>us3 λ_ _ _=>rfl;refine⟨jk "law" "law" (B2 Zx) (Bk Zx) (Ac Zx) .none kV101 dc101 pm101 an101 cd101 ct101,λs v=>.of_eq rfl,λbase hK _ hB=>?_⟩;have T:=T0 base;have V0:=GD.cal X G g0 λF=>hX T F;have V1:=GD.cal X G g1 λF=>dR T V0 F;have V2:=GD.cal X G g2 λF=>fP T V1 F;have V3:=GD.cal X G g3 λF=>Xa T V1 F;have V4:=GD.cal X G g4 λF=>Rz T V3 F;have V5:=GD.cal X G g5 λF=>X5 T V1 F;have V6:=GD.cal X G g6 λF=>lQ T F;have V7:=GD.cal X G g7 λF=>Vu T F;have V8:=GD.cal X G g8 λF=>nQ T F V7;have V9:=GD.cal X G g9 λF=>uF T F;have V10:=GD.cal X G g10 λF=>mU T F;have V11:=GD.cal X G g11 λF=>gT T F V10;have V12:=GD.cal X G g12 λF=>kO T F;have V13:=MD.mkr X G cd_Bits g13 λF=>W4 T Qf F V9 V11;have V14:=MD.mth Qf.cl g14 λF=>W5 T Qf F;have V15:=MD.mth Qf.cl g15 λF=>W1 T Qf F;have V16:=MD.mth Qf.cl g16 λF=>Wr T Qf V4 F V12;have V17:=MD.mth Qf.cl g17 λF=>W6 T V3 Qf F;have V18:=GD.cal X G g18 λF=>X7 T F;have V19:=GD.cal X G g19 λF=>S1 T F;have V20:=GD.cal X G g20 λF=>O8 T V6 F V19;have V21:=MD.mkr X G cd_Counts g21 λF=>Wz T Qd F V14 V15 V20;have V22:=MD.mth Qd.cl g22 λF=>Qr T V6 Qd F;have V23:=MD.mth Qd.cl g23 λF=>Ws T V3 Qd V2 F V22;have V24:=MD.mth Qd.cl g24 λF=>Qi T Qd F;have V25:=MD.mth Qd.cl g25 λF=>Qv T Qd V24 F;have V26:Mth l.prog w K mg base ab "block_with" 4 ["self","bit","nth"] (L8 K ab tz):=⟨⟨f26,_,Qq T Qd V24 hK (hB (429,425) (by simp)) V18 F26 gu,b26,⟨a26,i26,k26⟩⟩,Qd.cl⟩;have V27:=MD.mth Qd.cl g27 λF=>Qs T V6 Qd F V8;have V28:=MD.mth Qd.cl g28 λF=>Q9 T V3 Qd V2 V24 F V25 V26 V27;have V29:=GD.cal X G g29 λF=>eS T V21 V13 F;have V30:=GD.cal X G g30 λF=>Uw T V1 F;have V31:=GD.cal X G g31 λF=>fO T F;have V32:=GD.cal X G g32 λF=>Tc T F V31;have V33:Ait l.prog w K mg base "Shortcuts" ag 4 ["self","order","step"] (Mt ag):=⟨⟨f33,_,Qg T Qe F33 V30 V32,b33,⟨cd_Shortcuts.ma,a33,i33,cd_Shortcuts.kc⟩,jw X G cd_Shortcuts.a⟩⟩;have b33D:=kL.bindsD (x:="__init__") (qual:="Shortcuts.__init__") (st:=B6) (ps:=["self","order","step"]) (kV:=kV33) (doc:=dc33) (pm:=pm33) (cdv:=cd33) (ct:=ct33) (an:=an33) lT33 dT33 rfl (us2 λ_ _=>⟨_,rfl,rfl⟩);have V33D:xO l.prog w K mg base "Shortcuts" ag 4 ["self","order","step"] (Mt ag) [.int 16]:=⟨⟨f33,_,_,Qg T Qe F33 V30 V32,b33D,.cons eT33 .nil,⟨cd_Shortcuts.ma,a33,i33,cd_Shortcuts.kc⟩,jw X G cd_Shortcuts.a⟩⟩;have V34:=MD.mth Qe.cl g34 λF=>We T Qe F;have V35:=GD.cal X G g35 λF=>Xo T F;have V36:=GD.cal X G g36 λF=>gJ T F;have V37:=BD.calC X G bc_Heights g37 λF=>Wt T Qa F;have V38:=MD.mth Qa.cl g38 λF=>Qu T Qa F V23;have V39:=MD.mth Qa.cl g39 λF=>Wf T Qa V38 F;have V40:=MD.mth Qa.cl g40 λF=>Wp T Qa F V16;have V41:=MD.mth (sp:=(gL K ac ab aa)) Qa.cl g41 λF=>Wu T Qa F;have V42:=MD.mth (sp:=(gH K ac ab aa)) Qa.cl g42 λF=>Wv T Qa V40 F;have V43:=MD.mkr X G cd_Pairs g43 λF=>W3 T V21 V13 Qa V36 V39 V35 F V37;have V44:=MD.mth Qa.cl g44 λF=>Q8 T Qa F;have V45:=MD.mth (sp:=(Rn K ac ab aa)) Qa.cl g45 λF=>Wj T Qa F;have V46:=MD.mth Qa.cl g46 λF=>Wk T Qa V44 V45 F;have V47:=MD.mth (sp:=(Rm K ac ab aa)) Qa.cl g47 λF=>Qw T Qa V44 F;have V48:=MD.mth Qa.cl g48 λF=>Qh T Qa V40 V39 V35 F;have V49:=MD.mth Qa.cl g49 λF=>Ql T Qa V48 F;have V50:=MD.mth Qa.cl g50 λF=>Qk T Qa V48 F;have V51:=GD.cal X G g51 λF=>S3 T V0 F;have V52:=MD.mth Qa.cl g52 λF=>Wb T V3 Qa V51 V46 V47 F V49;have V53:=MD.mth Qa.cl g53 λF=>Wa T V3 Qa V51 V46 V47 F V50;have V54:=MD.mth (sp:=(T2 K ac ab aa)) Qa.cl g54 λF=>Q7 T Qa F V17;have V55:=MD.mth Qa.cl g55 λF=>Wc T Qa V39 V54 V52 V53 F;have V56:=MD.mth Qa.cl g56 λF=>Qn T Qa V44 V45 F;have V57:=MD.mth Qa.cl g57 λF=>Qj T Qa V44 V48 F V56;have V58:=MD.mth Qa.cl g58 λF=>Wg T V4 Qa V39 V46 V52 F V57;have V59:=MD.mth (sp:=(N1 K ac ab aa tz)) Qa.cl g59 λF=>Wo T Qa F V28;have V60:=GD.cal X G g60 λF=>mF T V0 F;have V61:=GD.cal X G g61 λF=>fV T F;have V62:=GD.cal X G g62 λF=>uG T F V61 V60;have V63:=GD.cal X G g63 λF=>eZ T V36 F;have V64:=BD.calC X G bc_Openings g64 λF=>Wn T Qb F;have V65:=MD.mkr X G cd_Opened g65 λF=>W0 T Qb F V62 V43 V64;have V66:=MD.mth Qb.cl g66 λF=>Qm T Qb F V41;have V67:=MD.mth Qb.cl g67 λF=>Wx T Qb F V42;have V68:=MD.mth Qb.cl g68 λF=>Wd T Qb F V63 V67;have V69:=MD.mth Qb.cl g69 λF=>Q6 T Qb V5 V66 F V59;have V70:=MD.mth Qb.cl g70 λF=>Q0 T Qb V55 V69 F;have V71:=MD.mth Qb.cl g71 λF=>Q4 T V38 V54 Qb V55 F;have V72:=MD.mth Qb.cl g72 λF=>Qz T Qb V69 F V70;have V73:=MD.mth Qb.cl g73 λF=>Q5 T V53 Qb V69 F V58 V71;have V74:=GD.cal X G g74 λF=>nY T F;have V75:=GD.cal X G g75 λF=>Vm T V74 F;have V76:=GD.cal X G g76 λF=>S6 T F;have V77:=GD.cal X G g77 λF=>Ny T F;have V78:Mkr l.prog w K mg base "Named" ae 10 ["self","wood","names"] (gA K ac ab aa ad ag ae tz):=⟨⟨f78,_,W2 T hK (hB (562,560) (by simp)) V66 Qc Qb F78 (gv _ gu) V75 V33D V29 V76 V77 V68,b78,⟨cd_Named.ma,a78,i78,cd_Named.kc⟩,jw X G cd_Named.a⟩⟩;have V79:=MD.mth (sp:=(Rk K ac ab aa ad ag ae)) Qc.cl g79 λF=>Wi T Qc V34 F;have V80:=GD.cal X G g80 λF=>Yj T V74 F;have V81:=MD.mth (sp:=(mM K ac ab aa ad ag ae)) Qc.cl g81 λF=>Qx T V5 V66 Qc V80 F;have V82:=MD.mth (sp:=(Vr K ac ab aa ad ag ae)) Qc.cl g82 λF=>Wm T Qc F;have V83:Mth l.prog w K mg base ae "first_from" 4 ["self","k","name"] (Lr K ac ab aa ad ag ae tz):=⟨⟨f83,_,Qy T hK (hB (651,647) (by simp)) V18 Qc V34 V82 F83 (gv _ (gv _ gu)),b83,⟨a83,i83,k83⟩⟩,Qc.cl⟩;have V84:=MD.mth Qc.cl g84 λF=>Qp T Qc V81 V83 F V72;have V85:=MD.mth Qc.cl g85 λF=>Ww T Qc V80 V82 V79 F;have V86:=MD.mth Qc.cl g86 λF=>Qo T Qc V84 F;have V87:=MD.mth Qc.cl g87 λF=>Qt T Qc V79 V84 F;have V88:=MD.mth Qc.cl g88 λF=>Wl T Qc V34 V82 V81 V83 F;have V89:=MD.mth Qc.cl g89 λF=>Wh T Qc V34 V82 V81 V83 F V73;have V90:=GD.cal X G g90 λF=>Ug T F;have V91:=GD.cal X G g91 λF=>eB T F;have V92:=GD.cal X G g92 λF=>fK T F;have V93:=GD.cal X G g93 λF=>Xz T V90 V92 F;have V94:=GD.cal X G g94 λF=>jZ T F;have V95:=GD.cal X G g95 λF=>fH T F;have V96:=GD.cal X G g96 λF=>fX T F;have V97:=GD.cal X G g97 λF=>Z9 T F;have V98:=GD.cal X G g98 λF=>jE T V91 F;have V99:=GD.cal X G g99 λF=>lN T V91 F;have V100:=GD.cal X G g100 λF=>iW T Qc V91 F V96 V85 V98 V87 V86 V88 V99 V89 V97;exact Ad1 T Qc Qb V90 V92 F101 V94 V93 V95 V78 V65 V100
end TK
theorem PySem.Challenge.cw_tightwood_k65_names_beneath_holds : PySem.Challenge.rw_tightwood_k65_names_beneath.Holds :=
 TK.HEAD @TK.all_mk
#print axioms PySem.Challenge.cw_tightwood_k65_names_beneath_holds
