import PyProof.Rows.All
import Wide.All
import OpenK.AllK
import Wide.FinOn
import Lean
import PyProof.EqAt
import PyProof.EqKinds
import PyProof.TupleCall
import KE.KDictOf
import KE.KItemsList
import KE.KLam
import KE.KNest
import KE.KNestM
import KE.KRevIter
import KE.KSortKey
import KE.KSortTup
import KE.KTryMore
import KE.LcSums
import OpenK.KCls
import PyProof.AttrMissHeap
import PyProof.AutoSeq1
import PyProof.Draws
import PyProof.EnumMake
import PyProof.EnumStmt
import PyProof.FactsAll.list
import PyProof.InstStoreFacts
import PyProof.IsiH_list
import PyProof.ListNew
import PyProof.ListRange
import PyProof.ObjNew
import PyProof.Rows.SortRunsK
import PyProof.Rows.SortShell
import PyProof.Rows.SortStr
import PyProof.SliceList
import PyProof.WalksEnum
import PyProof.ZipIter
import PySem.Challenge.RW_tightwood_k64_names_told
set_option compiler.extract_closed false
set_option Elab.async false
set_option linter.all false
set_option maxRecDepth 100000
set_option maxHeartbeats 4000000
open List renaming length_map->c5,getElem?_eq_getElem->c6,length_append->c8,getElem?_map->df,range->di,map_append->dj,getElem?_eq_some_iff->dk,length_range->dn,getElem?_append_right->dq,append_assoc->du,replicate->dy,size_toArray->d9,length_take->eg,getElem?_append_left->eh,take_of_length_le->ej,mem_of_getElem?->e6,getElem?_range->ff,mem_singleton->fg,mem_append_right->fk,map_cons->fm,getD_eq_getElem?_getD->ft,mem_cons_self->f7,mem_append->f8,length_cons->f9,append_nil->gd,mem_cons_of_mem->ge,length_drop->gh,take_add_one->gn,mem_cons->gr,map_map->gu,replicate_succ->gw,forall_mem_cons->gy,pairwise_iff_getElem->ie,getElem?_take->ig,map_congr_left->ii,getElem?_take_of_lt->ij,range_succ->ik,getElem?_drop->il,mem_range->io,flatten_cons->ip,length_singleton->iw,getElem?_eq_none->iy,mem_map->iz,getElem?_zip_eq_some->i6,drop_of_length_le->i7,all_eq_true->ja,take_append_drop->jc,toList_toArray->jf,filterMap_cons->jg,length_nil->jm,mem_flatten->jq,mem_append_left->jr,getElem?_of_mem->jt,getD->ju,nil_append->jy,drop_eq_getElem_cons->jz,not_mem_nil->j4,drop_append_of_le_length->j9,mem_map_of_mem->ka,flatten_append->ke,cons_append->kj,length_replicate->ko,mem_of_mem_take->ky,take_append_of_le_length->lr,flatten_singleton->lv,length_zip->l6,find?_cons->l7,nodup_append->md,lookup->mi,drop_zero->mj,getElem_mem->mv,length_reverse->m5,map_take->nh,of_mem_zip->nl,nodup_cons->nq,foldl_cons->nr,count_cons->nu,pairwise_singleton->nz,length_eq_zero_iff->n4,range_succ_eq_map->oh,map_nil->oi,ext_getElem?->oj,mem_reverse->o9,lookup_cons->pb,map_drop->pj,reverse_reverse->p6,pairwise_append->p7,reverse_append->qd,take->ql,drop->qm,pairwise_cons->qr,map->qt,getElem_range->qu,drop_drop->qv,take_length->rk,mem_flatMap->rm,getElem?_replicate->rn,drop_length->rp,getElem?_toArray->t9,take_zero->ub,not_lt->uc,mem_of_mem_drop->ud,length->ue,sum_cons->uy,all_cons->uz,sum_singleton->ve,getElem?_tail->vf,filter_append->vg,count_append->vx,countP_cons->wo,sum_append->xf,mem_filter->xg,length_set->xh,forIn_cons->xi,dropLast_concat_getLast->xj,nodup_nil->x8,take_add->yt,any_cons->yu,length_eq_one_iff->y6,getElem?_set_self->y8,pairwise_flatten->zk,length_filter_le->zl,length_dropLast->zx,getElem?_set_ne->zy,length_pos_iff->AE,zip_map_right->AN,zip_cons_cons->AO,mem_filterMap->AQ,map_singleton->AR,foldl->AS,find?_eq_none->AT,filterMap_map->AU,zip_nil_left->BN,getElem?_set->BO,foldl_append->BP,flatMap_cons->BQ,length_tail->CG,getElem_map->CH,foldlM_cons->CI,filter_cons->CJ,ext_getElem->CK,take_take->DJ,forIn_nil->DK,all_nil->EN,Nodup->GS
open PySem.W renaming Frag->c7,nsIn->gq,fnOf->ir,mg_of->i8,findIn->jh,mg_none_of->jl,keepIn->j6,codeIn->kf,boot_heap->kq,SharedT->pf,kia_one->qg,plainGet->ra,isFn->rf,methodCall_KW->rz,tabObj->td,plainGet_of->ua,methodObj->uu,hasDictIn->uv,takerIn->v8,OpenLaw->v9,boot_drawn->wu,TabsAt->ww,boot_toks->yd,cellsFrom_some->ye,plainOver->zn,kitx_list->zo,kitx_dict->zp,km_in_of->z8,kat_cons->z9,handedIn->AA,makesIn->AJ,kat_yes->AK,kla_obj->BF,kla_fn->BI,kat_no->BJ,WalkO->BY,Frag->DZ,CodeHd->EA,OpenLaw->IN
open Nat renaming le_refl->c9,lt_of_lt_of_le->d8,ne_of_lt->fh,zero_le->fq,le_of_lt->fw,le_trans->gm,add_sub_cancel_left->gz,min_eq_left->i9,le_add_right->je,lt_of_le_of_ne->jo,exists_eq_add_of_le->jv,sub_self->jx,lt_irrefl->lf,add_assoc->lh,lt_or_eq_of_le->ly,le_of_eq->lz,zero_add->mw,ne_of_gt->my,add_comm->mz,add_sub_cancel->ny,sub_zero->ox,min_self->oy,lt_trichotomy->oz,div_div_eq_div_mul->o0,mod_lt->ph,and_two_pow_sub_one_eq_mod->pi,mul_le_mul_right->p8,mul_comm->qk,not_lt->qy,mod_mul_right_div_self->qz,mod_eq_of_lt->r6,min_le_right->r9,lt_succ_self->se,div_eq_of_lt->sf,lt_trans->tj,lt_or_ge->tm,add_zero->tu,not_lt_zero->t8,eq_of_testBit_eq->ui,mul_le_mul_left->uw,div_mul_le_self->ux,mod_mod_of_dvd->vo,lt_of_le_of_lt->vp,eq_zero_or_pos->vq,zero_mod->wb,pow_succ->wc,lt_succ_of_lt->we,le_of_lt_succ->wf,add_div_right->wg,mul_mod_left->wy,min_eq_right->w4,le_succ->xa,testBit_two_pow_sub_one->x6,dvd_of_mod_eq_zero->zj,le_of_ble_eq_true->zu,le_div_iff_mul_le->zw,pow_le_pow_right->AB,one_mul->AC,add_mul->AD,sub_add_cancel->BL,div_mul_cancel->BM,ble->CA,add_sub_assoc->CF,div_add_mod->DI,succ->DY,zero_mul->FI,xor_zero->FJ,mul_succ->FK,sub_mul->GP,one_pos->GQ,div_one->GR,sub_lt->HB,sub_le->HC,not_le->HE
open PySem.Str renaming ofString->da,ofString->ou,length->sy,empty->wv
open PySem renaming Addr->de,Value->dr,Shared->dv,wpAny_pure->d4,Program->fi,World->gl,Expr->gv,Around->ic,Stmt->im,Heap->iq,FuncData->i0,mem_of_lookup->jw,wpAny_mono->kx,wpAny_truthy_bool->ll,wpAny_newObj_type->ln,lookup_relabel_local->lq,Scope->l9,codeAny_builtin->mh,wpAny_field->m8,NameKind->nc,Spec->nj,Builtin->nv,wpAny_comprehension_free->n5,call_meets->ot,wpAny_callSpecial?_slot->o6,wpAny_typeOf->pe,builtinLookup_eq_fast->p9,wpAny_call_entry->qc,IsPair->qe,plainId_quiet->qf,wpAny_pyIter_enum->sk,wpAny_standAt->sv,wpAny_attempt->sw,wpAny_rule->ug,Result->uh,wpAny_execs_nil->uk,typeLookup_type->ul,wpAny_seqItems->vi,wpAny_newFunctionEnv->vj,wpAny_loadName_local->vm,wpAny_ite_true->vn,IsPart->vt,CmpOp->vv,wpAny_dictSet_pairs->v0,wpAny_newList->wk,evalPart_none->wl,Value->wm,Model->wn,wpAny_Name->wt,wpAny_pyIter_list->xn,codeAny_mono->xp,ZipApart->xq,wpAny_pyIter_zip->yb,stored_length_le->yc,Params->yh,Paired->yi,Arguments->yj,Fin->yr,IsRangeIter->yv,Within->yz,BindsTo->zd,wpAny_tryCatch->ze,wpAny_newTuple->zf,typeIs_str->zg,wpAny_getItem_list_slice->z5,call->z7,wpAny_getItem_str_slice->AH,wpAny_pyNext_range_end->AW,wpAny_pyNext_list_item->AX,wpAny_pyIter_rangeiter->AY,wpAny_nextOf_list_item->AZ,seqIndex_neg->BB,codeAny_compStart_list->BG,Str->BK,wpAny_pyNext_list_end->BV,wpAny_notOrdered_dict->BW,exec_Assign_Name_used->BX,wpAny_raiseAttrError->CQ,wpAny_Slice->CT,sizeLine_eq->CU,seqIndex_of->CV,numAt_eq->CW,Operator->CZ,wpAny_loadName_free->DC,wpAny_loadName_cell->DD,Program->DH,wpAny_pyIter_range->DO,wpAny_call->DP,typeIs_int->DQ,sub_AttributeError->DR,rawInt->DU,PlainAttrs->DW,wpAny_sequenceKey->EE,wpAny_loadPart_at->EF,World->EK,Keyword->EO,wpAny_getItem_of->ET,kt_code_dict_new->EU,PassesOwn->FH,sliceRange_one->GX,pick_run->GZ,callType_codes->HA,GenState->HG,DefRec->HH,rangeSize_one->HN,nums_intItems->HP,intBits_le_64->HQ,eval_ListComp->HR,call_list_seq->HS,call_range_3->IJ,call_range_1->IK,call_meetsIn->IL
open PySem.Heap renaming get?_push_of_some->dg,lt_size->d7,get?_push_size->fv,size_push->ol,size_update->rq,get?_update_other->sr,SameBut->su,get?_push_ne->vy,get?_none_of_le->zz
open Option.some renaming inj->dh
open PySem.F renaming plainAttrs_list->ee,type_list_append->fc,slot_list_append->fe,plainAttrs_str->jd,type_str_join->lw,slot_str_join->lx,type_list_pop->n8,slot_zip_next->n9,slot_list_pop->og,slot_list_getattribute->ow,slot_zip_getattribute->o8,type_str_count->rg,slot_str_count->rh,slot_dict_setdefault->wa,kt_typeCall_dict_1->wx,slot_dict_getitem->w9,slot_str_getitem->xu,slot_dict_update->xw,args_dict_init_2->xx,plainAttrs_dict->x0,entry_dict_init->x4,args_zip_next_1->x5,kt_called_dict->yf,entry_zip_next->yg,plain_list_iadd->DM,slot_int_rmul->ER
open Array renaming length_toList->fb,getElem?_toList->fj,getElem?_eq_getElem->ku,getElem?_eq_none->lu,toList_append->qb,forIn_toList->qp,mk->zm,getElem?_push->z4,append_empty->AF,append_assoc->AG,toList_map->BU,toList->ED
open Bool renaming false_ne_true->fu,and_eq_true->kl,false_eq_true->kn,false_and->qw,true_and->re,eq_iff_iff->tx,and_eq_true_iff->uf,or_false->vb,or_eq_true->xl,and_false->ya,toNat_le->yw,eq_false_iff->BS,false_or->EB,and_true->EC
open Int renaming toNat_natCast->fz,natCast_nonneg->jp,emod_lt_of_pos->j7,emod_nonneg->k5,toNat_of_nonneg->qh,fdiv_eq_ediv_of_nonneg->q0,natCast_ediv->sh,natCast_mul->xy,eq_ofNat_of_zero_le->y9,toNat->DA,natCast_add->DL,add_assoc->EQ,zero_add->FL,not_lt->HF
open PySem.PassesOwn renaming never->gg
open PySem.Value renaming ref->gi,type->j0,str->l5,int->ml,none->xr,bool->xt,float->zi,isStrOf->DE,builtin->DF,isInt->EI,bytes->EJ
open PySem.Challenge renaming pw_tightwood_k64_names_told->gj,rw_tightwood_k64_names_told->kr
open PyProof.Rows renaming callWith_type1->gp,Keyed->iu,slot_tuple_getitem->jb,wpS_pure->jn,SortSt->mo,StrsAre->n6,IntsAre->pq,SortKind->qj,AllBare->uj,get?_update_seq->um,wpS_reverse->vh,wpS_get->xm,tail_any->xo,size_push'->zh,subscriptTail_builtinR->BA,listItems_at->BE,wpS_lift->CM,wpS_modify->DN,args_tuple_getitem->DS,lt_int->GK,count_cnt->GL,cnt_cons->GM,cnt->GN,callWith_builtin1->GO,slicePart_none->GY,tupleItemsOf_->HM,plain_sorted->IH,entry_sorted->II
open Option renaming map_eq_some_iff->gt,isSome_iff_exists->jj,map_some->m9,getD_some->o7,getD_none->AL,none->DX
open PySem.Obj renaming mapSeq->i5
open PySem.Builtin.Range renaming rangeSize->ji,small->oq,rangeFitsLong->ur
open PySem.Builtin.Str renaming strSliceIndices->jk,occurrences->j5,tooLong->HL
open PySem.Builtin.SmallTypes renaming ownedTupleIsFree->j3,nextOf->om
open PySem.Around renaming under_plainId->j8,under->yx
open PySem.Builtin renaming bitNot->kh,bitAnd->lj,bitXor->w6,bitOr->CL
open False renaming elim->km
open PySem.Builtin.Slice renaming slicePlaces->l8,sliceAdjust->pz,sliceApplied->va,slicePartIndex->FN,sliceFields->FO
open PySem.Builtin.Tuple renaming tupleExact->me,tupleItemsOf->u9
open PySem.Builtin.List renaming listTooLong->mf,listFitsIndex->GV,listExtendWith->GW
open PySem.Builtin.Dict renaming updateFrom->mq,pairItems->m7,addKeywords->qa,selfAndRest->vz
open PySem.NameKind renaming free->mr,cell->xc
open True renaming intro->nw
open PySem.Heap.SameBut renaming update->o3,refl->GU
open Sum renaming inl->qi,inr->uo
open PySem.Calls renaming spliced_cons->qo,spliced_nil->q8,Name_function_global->xz,callWith_builtin->y4
open Ne renaming symm->qq
open PySem.Txt renaming join->qx
open Nat.succ renaming inj->rb
open ForInStep renaming yield->rc,done->sj
open PyProof renaming noPylong_small->rj
open PySem.SeqAt.RcNeAt renaming lists->sq,lists_lengths->vc,tuples->FQ
open List.Pairwise renaming nil->tw
open PySem.SeqAt.RcAt renaming lists->uq,tuples->yy,lists_lengths->HU
open PySem.SeqAt renaming EqAt->ut
open PySem.Heap.DictOf renaming new->u0
open PySem.SeqAt.EqAt renaming same->vd,str_str->yk,str_int->yl,of_refs->ym,int_str->yn,int_int->yo,str_none->HV,str_bool->HW,none_str->HX,none_int->HY,none_bool->HZ,int_none->IA,int_bool->IC,bool_str->ID,bool_none->IE,bool_int->IF,bool_bool->IG
open Sum.inr renaming inj->vw
open List.Perm renaming refl->wj
open Classical renaming byContradiction->wq,choose_spec->x9
open PyProof.Rows.SortSt renaming mk'->w8
open PySem.Heap.IsSliceOf renaming new->xk
open PySem.W.Hook renaming val->yp,obs->yq,says->FS,of->FT,keeps->FU
open PySem.IsRange renaming new->y0
open PySem.Expr renaming Call->y3
open PySem.Code renaming isFrame->zb,frames->FM
open PySem.BindsTo renaming of_defaults->zc
open Prod renaming ext->zq
open Or renaming inr->zr,inl->zt
open PySem.Data renaming fields->z0,dict->HI,cell->HJ
open PySem.WalksT renaming enumerateD->z6,enumerate->AI,zip2->DT
open List.cons renaming inj->AV
open StateT renaming run_pure->BH
open Decidable renaming em->BR
open Prod.mk renaming injEq->BZ
open PySem.Paired renaming length->CY
open And renaming intro->DB
open Sum.inl renaming inj->DG
open PySem.W.KatTups renaming cons->DV
open PySem.Walks renaming range->EG
open PySem.W.WShape renaming has->EH
open PySem.AutoSeq1 renaming list_insert_list_int_val_1->EL
open PySem.Meets renaming of_wp->EM
open PySem.CmpOp renaming NotIn->ES,In->HK
open PySem.W.Looks renaming now->EV,here->EW
open PySem.StrLaws renaming found_one->EX
open PySem.EqMixed renaming ne_str_int->EY,ne_str_bool->EZ,ne_int_str->FA,ne_bool_str->FB,eq_str_int->FC,eq_str_bool->FE,eq_int_str->FF,eq_bool_str->FG
open PySem.W.WData renaming int->FP
open PySem.Within renaming cons->FR
open PySem.EqNone renaming ne_str_none->FV,ne_none_str->FW,ne_none_none->FX,ne_none_int->FY,ne_none_bool->FZ,ne_int_none->GA,ne_bool_none->GB,eq_str_none->GC,eq_none_str->GE,eq_none_none->GF,eq_none_int->GG,eq_none_bool->GH,eq_int_none->GI,eq_bool_none->GJ
open PyProof.Rows.IsTup renaming new->GT
open PySem.IsL renaming update->IM
open PySem.DictEntry renaming refKey->IP
open PySem.AutoListH renaming list___mul___list_int_3->IQ
open PySem.W (instObj lookIn emptyDict kitOne kia_one callWith_K CodeHd kla_obj mg_none_of)
abbrev Za0:=wm->PySem.Shared->Prop
abbrev Za1:=List (PySem.Addr×PySem.Obj)
abbrev Za2:=BK->Option wm
abbrev Za3:=List wm
abbrev Za4:=List Nat
abbrev Za5:=List Bool
abbrev Za6:=List BK
abbrev Za7:=Option wm
set_option hygiene false in
local macro_rules | `(tactic| lia)=>`(tactic| first | with_reducible first | assumption | exact Nat.le_of_lt (by assumption) | exact Nat.not_le.mp (by assumption) | exact Nat.lt_of_le_of_lt (by assumption) (by assumption) | exact Nat.le_trans (by assumption) (by assumption) | exact Nat.lt_trans (by assumption) (by assumption) | exact Nat.lt_succ_of_lt (by assumption) | exact Nat.sub_le _ _ | exact Nat.lt_of_lt_of_le (by assumption) (by assumption) | exact Nat.le_of_lt_succ (by assumption) | exact Nat.pos_of_ne_zero (by assumption) | exact Nat.zero_le _ | exact Nat.sub_succ_lt_self _ _ (by assumption) | exact Nat.sub_lt (Nat.zero_lt_of_lt (by assumption)) Nat.one_pos | exact Nat.lt_of_lt_of_le (Nat.sub_lt (Nat.zero_lt_of_lt (by assumption)) Nat.one_pos) (by assumption) | lia (splits := 9) | omega)
theorem QC(h:True:=by rfl):True:=h
def QD:Lean.Syntax:=QC._auto_1
theorem QE(h:True:=by decide):True:=h
def QF:Lean.Syntax:=QE._auto_1
theorem QG(h:True:=by first|exact .inl rfl|exact .inr rfl|assumption):True:=h
def QH:Lean.Syntax:=QG._auto_1
theorem QI(h:True:=by intro _;rfl):True:=h
def QJ:Lean.Syntax:=QI._auto_1
theorem QK(h:True:=by (repeat intro _);rfl):True:=h
def QL:Lean.Syntax:=QK._auto_1
section
set_option hygiene false in
local macro_rules | `(tactic| k_in)=>`(tactic| intro pins s Y H Q I h)
set_option hygiene false in
local macro_rules | `(tactic| k_end)=>`(tactic| intro pins s Y H D I h)
local macro_rules | `(tactic| k_cls)=>`(tactic| (constructor<;>first | rfl | decide +kernel))
namespace L2
open PySem PySem.Spec PyProof.Rows
variable {C CB CC CO CP CS Pt d dx i1 i2 it l1 l2:de} {A:ic} {op:vv} {X:Cx} {D:Hk} {env:Env} {iter tg:gv} {fd:i0} {base h h':iq} {H H' H0 H1 H2:Hp} {J:It} {pins:Za1} {as fp:List de} {ms:Za5} {es:List gv} {ks ws:List Int} {cs ns:Za4} {N kz nm ps:Za6} {xs ys:List V} {us vs:Za3} {M:wn} {n t':Nat} {oT:Obj} {an od:Option de} {pos:Pos} {B:Prop} {scope:l9} {pl:Sem Bool} {s s2:dv} {sp:Sp} {qual z:Str} {te:TE} {wi:TI} {y:V} {cdv ct doc oc pm:dr} {w:gl}
abbrev Key:=Sum Int Str
def Tn:Key->dr->Bool
 |.inl k,v=>EI k v
 |.inr x,v=>DE x v
def Aa7 (w:gl):Key->Int
 |.inl k=>hashInt k
 |.inr x=>hashStr w x
theorem Ca:∀{k:Key} {v:dr},Tn k v=true->(∃i t,k=qi i/\v=ml i t)\/(∃x t,k=uo x/\v=l5 x t)
 |.inl i,v,h=>by
  obtain⟨t,e⟩:=Value.isInt_shape (k:=i) (v:=v) h;exact .inl ⟨i,t,rfl,e⟩
 |.inr x,v,h=>by
  obtain⟨t,e⟩:=Value.isStrOf_shape (x:=x) (v:=v) h;exact .inr ⟨x,t,rfl,e⟩
theorem hX (i:Int)(t:Tok):Tn (.inl i) (.int i t)=true:=by simp[Tn,EI]
theorem iD (x:Str)(t:Tok):Tn (.inr x) (.str x t)=true:=by simp[Tn,DE]
theorem vU (a b:Int):decide ((qi a:Key)=qi b)=(a==b):=by
 by_cases e:a=b
 ·subst e;simp
 ·have h:¬(qi a:Key)=qi b:=λq=>e (DG q)
  rw[decide_eq_false h];exact(beq_eq_false_iff_ne.mpr e).symm
theorem wP (a b:Str):decide ((uo a:Key)=uo b)=decide (a=b):=by
 by_cases e:a=b
 ·subst e;simp
 ·have h:¬(uo a:Key)=uo b:=λq=>e (vw q)
  rw[decide_eq_false h,decide_eq_false e]
theorem vZ (a:Int)(b:Str):decide ((qi a:Key)=uo b)=false:=decide_eq_false (λq=>nomatch q)
theorem vC (a:Str)(b:Int):decide ((uo a:Key)=qi b)=false:=decide_eq_false (λq=>nomatch q)
def Bb (prog:fi)(w:gl):PySem.KeyKind prog w Key where
 is:=Tn
 hash:=Aa7 w
 inj:=λv a b ha hb=>by
  rcases Ca ha with⟨i,t,rfl,rfl⟩|⟨x,t,rfl,rfl⟩
  ·rcases Ca hb with⟨j,u,rfl,e⟩|⟨y,u,rfl,e⟩
   ·injection e with e1 _;rw[e1]
   ·exact nomatch e
  ·rcases Ca hb with⟨j,u,rfl,e⟩|⟨y,u,rfl,e⟩
   ·exact nomatch e
   ·injection e with e1 _;rw[e1]
 byValue:=λk v h=>by
  rcases Ca h with⟨i,t,rfl,rfl⟩|⟨x,t,rfl,rfl⟩<;>rfl
 pyHash:=λhv h=>by
  rcases Ca hv with⟨i,t,rfl,rfl⟩|⟨x,t,rfl,rfl⟩
  ·exact wpAny_pyHash_int h
  ·exact wpAny_pyHash_str h
 eqBool:=λhu hv h=>by
  rcases Ca hu with⟨i,t,rfl,rfl⟩|⟨x,t,rfl,rfl⟩
  ·rcases Ca hv with⟨j,u,rfl,rfl⟩|⟨y,u,rfl,rfl⟩
   ·rw[vU] at h;exact wpAny_eqBool_int h
   ·rw[vZ] at h;exact yn i t y u _ _ _ _ h
  ·rcases Ca hv with⟨j,u,rfl,rfl⟩|⟨y,u,rfl,rfl⟩
   ·rw[vC] at h;exact yl x t j u _ _ _ _ h
   ·rw[wP] at h;exact wpAny_eqBool_str h
 «strs»:=λk x t v h=>by
  rcases Ca h with⟨i,u,rfl,e⟩|⟨y,u,rfl,e⟩
  ·exact nomatch e
  ·injection e with e1 _
   subst e1;cases v<;>rfl
theorem Ij (prog:fi)(w:gl)(i:Int)(t:Tok):(Bb prog w).is (.inl i) (.int i t)=true:=hX i t
theorem No (prog:fi)(w:gl)(x:Str)(t:Tok):(Bb prog w).is (.inr x) (.str x t)=true:=iD x t
inductive V where
 |non|bl (b:Bool)|int (i:Int)|str (x:Str)|byt (b:Array UInt8)|flt (b:UInt64)|ref (a:de)|ty (n:String)
 deriving DecidableEq
def A8:V->dr->Prop
 |.non,u=>u=xr
 |.bl b,u=>u=xt b
 |.int i,u=>∃t,u=ml i t
 |.str x,u=>∃t,u=l5 x t
 |.byt b,u=>∃t,u=EJ b t
 |.flt b,u=>∃t,u=zi b t
 |.ref a,u=>u=gi a
 |.ty n,u=>u=j0 n
abbrev Au:List V->Za3->Prop:=yi A8
theorem Au.length (r:Au xs us):xs.length=us.length:=CY r
theorem Au.get:∀{xs:List V} {us:Za3} {i:Nat} {x:V},Au xs us->xs[i]?=some x->∃u,us[i]?=some u/\A8 x u
 |_,_,_,_,.nil,e=>by simp at e
 |_,_,0,_,.cons r _,e=>by simp at e;subst e;exact⟨_,rfl,r⟩
 |_,_,i+1,x,.cons _ t,e=>by
  obtain⟨u,h1,h2⟩:=Au.get (i:=i) (x:=x) t (by simpa using e);exact⟨u,by simpa using h1,h2⟩
theorem Au.set {x:V}{u:dr}(r:A8 x u):∀{xs:List V} {us:Za3} (i:Nat),Au xs us->Au (xs.set i x) (us.set i u)
 |_,_,_,.nil=>.nil
 |_,_,0,.cons _ t=>.cons r t
 |_,_,i+1,.cons q t=>.cons q (Au.set r i t)
theorem Au.append:∀{xs ys:List V} {us ws:Za3},Au xs us->Au ys ws->Au (xs++ys) (us++ws)
 |_,_,_,_,.nil,s=>s
 |_,_,_,_,.cons r t,s=>.cons r (Au.append t s)
theorem Au.take:∀{xs:List V} {us:Za3} (n:Nat),Au xs us->Au (xs.take n) (us.take n)
 |_,_,0,_=>.nil
 |_,_,_+1,.nil=>.nil
 |_,_,n+1,.cons r t=>.cons r (Au.take n t)
theorem Au.drop:∀{xs:List V} {us:Za3} (n:Nat),Au xs us->Au (xs.drop n) (us.drop n)
 |_,_,0,r=>r
 |_,_,_+1,.nil=>.nil
 |_,_,n+1,.cons _ t=>Au.drop n t
def Kn:Option V->Za7->Prop
 |some v,some u=>A8 v u
 |none,none=>True
 |_,_=>False
def KV {κ:Type}:List (κ×V)->List (κ×dr)->Prop:=yi λ(p:κ×V) (q:κ×dr)=>p.1=q.1/\A8 p.2 q.2
def kV:Key->V
 |.inl i=>.int i
 |.inr x=>.str x
inductive HO where
  |lst (xs:List V)
  |tup (xs:List V)
  |dK (kvs:List (Key×V))|dT (kvs:List (List Key×V))
  |set (S:Int->Bool) (n:Nat)
  |ins (C dx:de) (fs:List (Str×V))
  |own (x:de)
  |xd (fs:List (Str×V))
  |met (f x:de)
  |rng (lo hi:Int)
  |frz (o:Obj) (u:HO)
  |tbl (ps:Array dr)
  |ext (φ:iq->Prop)
abbrev Hp:=de->Option HO
def upd (H:Hp)(a:de)(o:HO):Hp:=λb=>if b=a then some o else H b
theorem Ac {H:Hp}{a:de}{o:HO}:upd H a o a=some o:=by unfold upd;rw[if_pos rfl]
theorem Ai {a b:de}{o:HO}(h:b≠a):upd H a o b=H b:=by unfold upd;rw[if_neg h]
theorem Oj {a:de}{o u:HO}:upd (upd H a o) a u=upd H a u:=by
 funext b;unfold upd;split<;>rfl
theorem En {a b:de}{o u:HO}(h:H a=some o)(h':H b=some u)(d:o≠u):a≠b:=by
 intro e;subst e;rw[h] at h';exact d (dh h')
theorem Aj {a b:de}{o:HO}(h:H a=some o)(h':H b=none):a≠b:=by
 intro e;subst e;rw[h] at h';cases h'
section
variable (P:fi) (w:gl)
def Cc (H:Hp)(h:iq)(a:de):HO->Prop
 |.lst xs=>xs.length<=sizeLine/\∃(its:Za3) (n:Nat),Au xs its/\h.get? a=some { cls:=.type "list",data:=.seq its.toArray n }
 |.tup xs=>xs.length<=sizeLine/\∃its:Za3,Au xs its/\IsTup h a its.toArray
 |.dK kvs=>kvs.length<=sizeLine/\(a==sysModules)=false/\∃vs,KV kvs vs/\h.DictOf (Bb P w) a vs
 |.dT kvs=>kvs.length<=sizeLine/\(a==sysModules)=false/\∃xs:List (List Key×de×dr),
   yi (λ(p:List Key×V) (q:List Key×de×dr)=>p.1=q.1/\H q.2.1=some (.tup (p.1.map kV))/\A8 p.2 q.2.2) kvs xs /\
   ∃o es ep,h.get? a=some o/\o.ExactDict/\o.data=.dict es ep/\es.toList=xs.map (entryOfKey (tupleKind (Bb P w)))/\(xs.map (·.1)).Nodup
 |.set S n=>h.SetOf (intKind P w) a S n
 |.ins C dx fs=>H dx=some (.own a)/\fs.length<=1000/\dx≠a/\h.get? a=some (instObj C dx) /\
   ∃mA,h.Ns1 dx mA/\(∀f,Kn (fs.lookup f) (mA f))/\yz mA (fs.map (·.1))
 |.own _=>∃o,h.get? a=some o
 |.xd fs=>∃mA,h.Ns1 a mA/\∀f,Kn (fs.lookup f) (mA f)
 |.rng lo hi=>∃t u v,h.get? a=some { cls:=.type "range",data:=.fields #[.int lo t,.int hi u,.int 1 v] }
 |.frz o u=>h.get? a=some o/\Cc H h a u
 |.tbl ps=>h.get? a=some { cls:=.none,data:=.fields ps }
 |.met f x=>h.get? a=some (uu (.ref f) (.ref x))
 |.ext φ=>φ h/\(∃o,h.get? a=some o)/\∀h1 h2:iq,φ h1->(∀o,h1.get? a=some o->h2.get? a=some o)->φ h2
def HOk (H:Hp)(h:iq):Prop:=∀a o,H a=some o->Cc P w H h a o
end
section
variable {P:fi} {w:gl} {H H':Hp} {h h':iq} {a:de} {o:HO}
theorem Cc.lt (x:Cc P w H h a o):a<h.objs.size:=by
 cases o with
 |lst xs=>obtain⟨_,_,_,_,e⟩:=x;exact d7 e
 |tup xs=>obtain⟨_,_,_,p⟩:=x;exact p.lt
 |dK kvs=>obtain⟨_,_,_,_,o,_,_,e,_⟩:=x;exact d7 e
 |dT kvs=>obtain⟨_,_,_,_,o,_,_,e,_⟩:=x;exact d7 e
 |set S n=>obtain⟨o,_,_,_,e,_⟩:=x;exact d7 e
 |ins C dx fs=>obtain⟨_,_,_,e,_⟩:=x;exact d7 e
 |own y=>obtain⟨_,e⟩:=x;exact d7 e
 |xd fs=>obtain⟨_,⟨_,_,_,e,_⟩,_⟩:=x;exact d7 e
 |rng lo hi=>obtain⟨_,_,_,e⟩:=x;exact d7 e
 |frz ob u=>obtain⟨e,_⟩:=x;exact d7 e
 |tbl ps=>exact d7 (show h.get? a=some _ from x)
 |met f y=>exact d7 (show h.get? a=some _ from x)
 |ext φ=>obtain⟨_,⟨_,e⟩,_⟩:=x;exact d7 e
theorem yi.mapP {α β:Type}{F G:α->β->Prop}:∀{JF:List α} {JG:List β},yi F JF JG->(∀a b,F a b->G a b)->yi G JF JG
 |_,_,.nil,_=>.nil
 |_,_,.cons r t,f=>.cons (f _ _ r) (yi.mapP t f)
theorem Cc.stay (x:Cc P w H h a o)(k:∀b u,(b=a\/H b=some (.own a))->h.get? b=some u->h'.get? b=some u)
  (ho:∀b,H b=some (.own a)->H' b=some (.own a))(ht:∀b xs,H b=some (.tup xs)->H' b=some (.tup xs)):Cc P w H' h' a o:=by
 induction o with
 |lst xs=>obtain⟨z,its,n,r,e⟩:=x;exact⟨z,its,n,r,k _ _ (.inl rfl) e⟩
 |tup xs=>obtain⟨z,its,r,ob,e,c⟩:=x;exact⟨z,its,r,ob,k _ _ (.inl rfl) e,c⟩
 |dK kvs=>obtain⟨z,y,vs,r,ob,es,ep,e,c⟩:=x;exact⟨z,y,vs,r,ob,es,ep,k _ _ (.inl rfl) e,c⟩
 |dT kvs=>
  obtain⟨z,y,xs,r,ob,es,ep,e,c⟩:=x;exact⟨z,y,xs,yi.mapP r λp q z=>⟨z.1,ht _ _ z.2.1,z.2.2⟩,ob,es,ep,k _ _ (.inl rfl) e,c⟩
 |set S n=>obtain⟨ob,es,ep,t,e,c⟩:=x;exact⟨ob,es,ep,t,k _ _ (.inl rfl) e,c⟩
 |ins C dx fs=>
  obtain⟨d,z,ne,e,mA,⟨od,es,ep,e2,c⟩,r⟩:=x;exact⟨ho _ d,z,ne,k _ _ (.inl rfl) e,mA,⟨od,es,ep,k _ _ (.inr d) e2,c⟩,r⟩
 |own y=>obtain⟨ob,e⟩:=x;exact⟨ob,k _ _ (.inl rfl) e⟩
 |xd fs=>obtain⟨mA,⟨od,es,ep,e,c⟩,r⟩:=x;exact⟨mA,⟨od,es,ep,k _ _ (.inl rfl) e,c⟩,r⟩
 |rng lo hi=>obtain⟨t,u,v,e⟩:=x;exact⟨t,u,v,k _ _ (.inl rfl) e⟩
 |frz ob u ih=>obtain⟨e,q⟩:=x;exact⟨k _ _ (.inl rfl) e,ih q⟩
 |tbl ps=>
  have e:h.get? a=some { cls:=.none,data:=.fields ps }:=x;show h'.get? a=some { cls:=.none,data:=.fields ps };exact k a _ (.inl rfl) e
 |met f y=>
  have e:h.get? a=some (uu (.ref f) (.ref y)):=x;show h'.get? a=some (uu (.ref f) (.ref y));exact k a _ (.inl rfl) e
 |ext φ=>obtain⟨p,⟨o,e⟩,st⟩:=x;exact⟨st _ _ p λo q=>k _ _ (.inl rfl) q,⟨o,k _ _ (.inl rfl) e⟩,st⟩
theorem HOk.lt (x:HOk P w H h)(e:H a=some o):a<h.objs.size:=(x a o e).lt
theorem HOk.fresh (x:HOk P w H h)(e:h.objs.size<=a):H a=none:=by
 cases q:H a with
 |none=>rfl
 |some u=>exact absurd (d8 (x.lt q) e) (lf _)
theorem HOk.kept (x:HOk P w H h)(k:∀b u,h.get? b=some u->h'.get? b=some u):HOk P w H h':=λa o e=>
 (x a o e).stay (λb u _ q=>k b u q) (λ_ q=>q) λ_ _ q=>q
theorem HOk.laid (x:HOk P w H h)(k:∀b u,h.get? b=some u->h'.get? b=some u)(hp:h.objs.size<=a)(new:Cc P w (upd H a o) h' a o):HOk P w (upd H a o) h':=λb u e=>by
 have hn:=x.fresh hp
 by_cases hb:b=a
 ·subst hb;rw[Ac] at e;cases e;exact new
 ·rw[Ai hb] at e
  exact(x b u e).stay (λc v _ q=>k c v q) (λc q=>by rw[Ai (Aj q hn)];exact q) λc xs q=>by rw[Ai (Aj q hn)];exact q
end
def Rd (H:Hp)(a:de)(u:HO):Prop:=H a=some u\/∃o,H a=some (.frz o u)
theorem Rd.ok {P:fi}{a:de}{u:HO}(r:Rd H a u)(x:HOk P w H h):Cc P w H h a u:=by
 rcases r with r|⟨o,r⟩
 ·exact x a u r
 ·obtain⟨_,q⟩:=x a _ r
  exact q
def Mut:Option HO->Prop
 |some (.lst _)=>True
 |some (.dK _)=>True
 |some (.dT _)=>True
 |some (.set _ _)=>True
 |some (.ins _ _ _)=>True
 |some (.ext _)=>True
 |_=>False
section
variable {P:fi} {w:gl} {H:Hp} {h h':iq} {x e:de} {o':HO}
theorem HOk.write (ok:HOk P w H h)(mu:Mut (H x))(he:e=x\/H e=some (.own x))(k:∀b u,b≠e->h.get? b=some u->h'.get? b=some u)(heo:∃u,h'.get? e=some u)
  (new:Cc P w (upd H x o') h' x o'):HOk P w (upd H x o') h':=λb u q=>by
 have nown:∀c y,H c=some (.own y)->c≠x:=λc y r z=>by subst z;rw[r] at mu;exact mu
 have ntup:∀c xs,H c=some (.tup xs)->c≠x:=λc xs r z=>by subst z;rw[r] at mu;exact mu
 by_cases hb:b=x
 ·subst hb;rw[Ac] at q;cases q;exact new
 ·rw[Ai hb] at q
  by_cases hbe:b=e
  ·have q':H b=some (.own x):=by
    rcases he with z|z
    ·exact absurd (hbe.trans z) hb
    ·rw[hbe];exact z
   rw[q] at q';cases q';obtain⟨v,hv⟩:=heo;exact⟨v,by rw[hbe];exact hv⟩
  ·refine(ok b u q).stay (λc v hc r=>k c v ?_ r) (λc r=>by rw[Ai (nown c b r)];exact r) λc xs r=>by rw[Ai (ntup c xs r)];exact r
   rcases hc with rfl|hc
   ·exact hbe
   ·rintro rfl
    rcases he with z|z
    ·exact nown c b hc z
    ·rw[hc] at z;cases z;exact hb rfl
end
structure Un (fs ex:List de) (H H':Hp) (h h':iq):Prop where
 keep:∀b o,h.get? b=some o->H b=none->b∉fs->b∉ex->h'.get? b=some o
 slot:∀b o,h.get? b=some o->H b=none->b∈fs->b∉ex->∃sl,h'.get? b=some { o with slots:=sl }
 free:∀b o,h.get? b=some o->H b=none->b∉ex->H' b=none
 there:∀b o,h.get? b=some o->b∉ex->∃o',h'.get? b=some o'
 tups:∀b xs,H b=some (.tup xs)->H' b=some (.tup xs)
 frzs:∀b o u,H b=some (.frz o u)->H' b=some (.frz o u)
 tbls:∀b ps,H b=some (.tbl ps)->∃more,H' b=some (.tbl (ps++more))
section
variable {fs fs' ex ex':List de} {H H1 H2:Hp} {h h1 h2 h':iq} {a x e:de} {o:HO}
theorem Un.any (u:Un fs ex H H1 h h1){b:de}{ob:Obj}(q:h.get? b=some ob)(n:H b=none)(hx:b∉ex):∃sl,h1.get? b=some { ob with slots:=sl }:=by
 by_cases hb:b∈fs
 ·exact u.slot b ob q n hb hx
 ·exact⟨ob.slots,u.keep b ob q n hb hx⟩
theorem Un.trans (a:Un fs ex H H1 h h1)(b:Un fs ex H1 H2 h1 h2):Un fs ex H H2 h h2 where
 keep:=λc ob q n hc hx=>b.keep c ob (a.keep c ob q n hc hx) (a.free c ob q n hx) hc hx
 slot:=λc ob q n hc hx=>by
  obtain⟨sl,e1⟩:=a.slot c ob q n hc hx;obtain⟨sl',e2⟩:=b.slot c _ e1 (a.free c ob q n hx) hc hx;exact⟨sl',e2⟩
 free:=λc ob q n hx=>by
  obtain⟨o',e1⟩:=a.there c ob q hx;exact b.free c o' e1 (a.free c ob q n hx) hx
 there:=λc ob q hx=>by
  obtain⟨o',e1⟩:=a.there c ob q hx;exact b.there c o' e1 hx
 tups:=λc xs q=>b.tups c xs (a.tups c xs q)
 frzs:=λc ob xs q=>b.frzs c ob xs (a.frzs c ob xs q)
 tbls:=λc ps q=>by
  obtain⟨m1,e1⟩:=a.tbls c ps q;obtain⟨m2,e2⟩:=b.tbls c _ e1;exact⟨m1++m2,by rw[e2,AG]⟩
theorem Un.kept (k:∀b u,h.get? b=some u->h'.get? b=some u):Un fs ex H H h h':=
 ⟨λb ob q _ _ _=>k b ob q,λb ob q _ _ _=>⟨ob.slots,k b ob q⟩,λ_ _ _ n _=>n,λb ob q _=>⟨ob,k b ob q⟩,λ_ _ q=>q,λ_ _ _ q=>q,λ_ ps q=>⟨#[],by rw[q];simp⟩⟩
theorem Un.refl:Un fs ex H H h h:=Un.kept λ_ _ q=>q
theorem Un.laid (k:∀b u,h.get? b=some u->h'.get? b=some u)(hp:h.objs.size<=a)(hn:H a=none):Un fs ex H (upd H a o) h h' where
 keep:=λb u q _ _ _=>k b u q
 slot:=λb u q _ _ _=>⟨u.slots,k b u q⟩
 free:=λb u q n _=>by rw[Ai (fh (d8 (d7 q) hp))];exact n
 there:=λb u q _=>⟨u,k b u q⟩
 tups:=λb xs q=>by rw[Ai (Aj q hn)];exact q
 frzs:=λb u xs q=>by rw[Ai (Aj q hn)];exact q
 tbls:=λb ps q=>⟨#[],by rw[Ai (Aj q hn),q];simp⟩
theorem Un.write (mu:Mut (H x))(he:e=x\/H e=some (.own x))(k:∀b u,b≠e->h.get? b=some u->h'.get? b=some u)(heo:∃u,h'.get? e=some u):Un fs ex H (upd H x o) h h':=by
 have hx:∀b,H b=none->b≠x:=λb n z=>by subst z;rw[n] at mu;exact mu
 have hb:∀b,H b=none->b≠e:=λb n z=>by
  subst z;rcases he with r|r
  ·exact hx b n r
  ·rw[n] at r;cases r
 have hm:∀b u,H b=some u->¬ Mut (some u)->b≠x:=λb u q nm z=>by subst z;rw[q] at mu;exact nm mu
 refine⟨λb u q n _ _=>k b u (hb b n) q,λb u q n _ _=>⟨u.slots,k b u (hb b n) q⟩,λb u q n _=>by rw[Ai (hx b n)];exact n,λb u q _=>?_,
  λb xs q=>by rw[Ai (hm b _ q λz=>z)];exact q,λb u xs q=>by rw[Ai (hm b _ q λz=>z)];exact q,λb ps q=>⟨#[],by rw[Ai (hm b _ q λz=>z),q];simp⟩⟩
 by_cases hbe:b=e
 ·subst hbe;exact heo
 ·exact⟨u,k b u hbe q⟩
end
def trk (h:iq)(H:Hp):List de:=(di h.objs.size).filter λa=>(H a).isSome
def Ud (h:iq)(H:Hp):iq:=PySem.W.hideAll h (trk h H)
theorem iJ (h:iq)(H:Hp):(Ud h H).objs.size=h.objs.size:=PySem.W.hideAll_size _ _
theorem Rv {b:de}{o:Obj}(e:h.get? b=some o)(n:H b=none):(Ud h H).get? b=some o:=
 PySem.W.hideAll_get _ e λhm=>by
  have q:(H b).isSome=true:=(xg.mp hm).2;rw[n] at q;simp at q
theorem rK {b:de}{o:Obj}(e:(Ud h H).get? b=some o):h.get? b=some o/\H b=none:=by
 have e':h.get? b=some o:=PySem.W.of_hideAll (trk h H) e;refine⟨e',?_⟩
 cases q:H b with
 |none=>rfl
 |some x=>
  have hm:b∈trk h H:=xg.mpr ⟨io.mpr (d7 e'),by simp[q]⟩;have z:(Ud h H).get? b=none:=PySem.W.hideAll_none (trk h H) hm;rw[z] at e;cases e
structure Mod (K:c7) (mg:Za2) (base:iq):Prop where
 kin:K.In base
 glob:base.Ns mainGlobals mg
 blt:∃mb,base.Ns builtinsNs mb/\∀x:Str,x≠"__name__"->mb x=bootBuiltins x
 nolimit:base.NoLimit
structure Cx where
 prog:fi
 w:gl
 K:c7
 mg:Za2
 base:iq
 A:ic
 N:Za6
 QN:dv
 QY:Hp
 env:Env
 outer:List Env
 stack:List Env
 ex:List de
 fn:Str->Bool
 calm:Bool
 pn:Za1
 xe:Za0
def frs (l:List Env):List de:=l.filterMap (·.frame)
abbrev Cx.fs (X:Cx):List de:=frs X.outer
def Vis (sc:l9)(x:Str):Prop:=sc.names.lookup x=some .local\/sc.names.lookup x=some .cell\/sc.names.lookup x=some .free
def Loc (sc:l9)(x:Str):Prop:=sc.names.lookup x=some .local\/sc.names.lookup x=some .cell
def Aa0 (env:Env)(h:iq)(m:Za2)(x:Str)(u:dr):Prop:=
 (env.kindOf x=some .local/\m x=some u)\/((env.kindOf x=some .cell\/env.kindOf x=some .free)/\∃c,env.cells.lookup x=some c/\h.IsCell c (some u))
structure Cx.Ok (X:Cx):Prop where
 mod:Mod X.K X.mg X.base
 kind:X.env.scope.kind=.function
 glob:X.env.globals=mainGlobals
 blt:X.env.builtins=builtinsNs
 above:X.QN.heap.objs.size<=X.env.locals
 inj:∀x y c,X.env.cells.lookup x=some c->X.env.cells.lookup y=some c->x=y
 has:∀x,(X.env.kindOf x=some .cell\/X.env.kindOf x=some .free)->∃c,X.env.cells.lookup x=some c
 cab:∀x c,X.fn x=true->X.env.cells.lookup x=some c->X.QN.heap.objs.size<=c
 hd:X.calm=true->X.A.handled=none
 frames:X.A.frames=some X.stack
 stk:X.stack=X.outer\/(X.stack=X.env::X.outer/\X.env.frame=some X.env.locals)
 exf:∀b∈X.ex,b≠X.env.locals/\∀x c,X.env.cells.lookup x=some c->c≠b
 bs:∀b o,X.base.get? b=some o->X.QN.heap.get? b=some o/\X.QY b=none
 bsz:X.base.objs.size<=X.QN.heap.objs.size
 noex:∀b o,X.base.get? b=some o->b∉X.ex
 exfs:∀b∈X.ex,b∉X.fs
 funs:X.QN.heap.FunFrames X.base X.outer
 frf:∀b∈X.fs,X.QY b=none
structure Inv (X:Cx) (pins:Za1) (Y:List (Option V)) (H:Hp) (s:dv):Prop where
 ok:X.Ok
 os:s.os=X.QN.os
 bare:uj s.gens
 base:Un X.fs X.ex X.QY H X.QN.heap s.heap
 loc:∃m,s.heap.Ns X.env.locals m/\∀(i:Nat) (x:Str) (v:V),X.N[i]?=some x->Y[i]?=some (some v)->Vis X.env.scope x->∃u,A8 v u/\Aa0 X.env s.heap m x u
 cell:∀x c,X.env.cells.lookup x=some c->∃v,s.heap.IsCell c v
 free:H X.env.locals=none
 freeC:∀x c,X.env.cells.lookup x=some c->H c=none
 pin:∀p∈X.pn++pins,s.heap.get? p.1=some p.2/\H p.1=none/\p.1≠X.env.locals/\p.1∉X.fs/\∀v,p.2.data≠.cell v
 hok:HOk X.prog X.w H s.heap
 len:Y.length=X.N.length
section
variable {X:Cx} {pins:Za1} {Y:List (Option V)} {H H':Hp} {s:dv} {h':iq}
theorem Cx.Ok.nofr (ok:X.Ok){b:de}{o:Obj}(e:X.base.get? b=some o):b∉X.fs:=λhb=>by
 have:=(ok.funs.mem hb).1;rw[e] at this;cases this
theorem Inv.bs (I:Inv X pins Y H s):∀b o,X.base.get? b=some o->s.heap.get? b=some o/\H b=none:=λb o e=>
 ⟨I.base.keep b o (I.ok.bs b o e).1 (I.ok.bs b o e).2 (I.ok.nofr e) (I.ok.noex b o e),I.base.free b o (I.ok.bs b o e).1 (I.ok.bs b o e).2 (I.ok.noex b o e)⟩
theorem Inv.bk (I:Inv X pins Y H s):∀b o,X.base.get? b=some o->s.heap.get? b=some o:=λb o e=>(I.bs b o e).1
theorem Inv.mod (I:Inv X pins Y H s):Mod X.K X.mg X.base:=I.ok.mod
theorem Inv.kIn (I:Inv X pins Y H s):X.K.In s.heap:=I.ok.mod.kin.keeps I.bk
theorem Inv.fr (I:Inv X pins Y H s):∃m,Fr X.base X.env.locals s.heap m:=
 let ⟨m,hn,_⟩:=I.loc
 ⟨m,hn,I.bk,gm I.ok.bsz I.ok.above⟩
theorem Inv.lt (I:Inv X pins Y H s):X.env.locals<s.heap.objs.size:=let ⟨_,hn,_⟩:=I.loc;hn.lt
theorem Inv.sz (I:Inv X pins Y H s):X.QN.heap.objs.size<=s.heap.objs.size:=gm I.ok.above (fw I.lt)
theorem Inv.nofs (I:Inv X pins Y H s){a:de}(h:s.heap.objs.size<=a):a∉X.fs:=λhb=>by
 obtain⟨_,o,ho,_⟩:=I.ok.funs.mem hb;exact absurd (d8 (d7 ho) (gm I.sz h)) (lf _)
theorem Inv.cne (I:Inv X pins Y H s):∀x c,X.env.cells.lookup x=some c->c≠X.env.locals:=λx c e z=>by
 obtain⟨v,o,ho,hd⟩:=I.cell x c e;obtain⟨m,⟨o',es,ep,ho',hd',_⟩,_⟩:=I.loc;rw[z,ho'] at ho;cases ho;rw[hd'] at hd;cases hd
theorem Inv.funs (I:Inv X pins Y H s):s.heap.FunFrames X.base X.outer:=by
 have all:∀(l:List Env),(∀b∈frs l,b∈X.fs)->X.QN.heap.FunFrames X.base l->s.heap.FunFrames X.base l:=by
  intro l
  induction l with
  |nil=>intro _ _;trivial
  |cons env r ih=>
   intro hs hl;obtain⟨hk,⟨L,o,hf,hn,ho,hd⟩,hr⟩:=hl;have hL:L∈X.fs:=hs L (by unfold frs;rw[jg,hf];exact f7);obtain⟨sl,e⟩:=I.base.slot L o ho (I.ok.frf L hL) hL λz=>I.ok.exfs L z hL;exact⟨hk,⟨L,_,hf,hn,e,hd⟩,ih (λb hb=>hs b (by unfold frs;rw[jg,hf];exact ge _ hb)) hr⟩
 exact all X.outer (λ_ hb=>hb) I.ok.funs
theorem Inv.stack (I:Inv X pins Y H s):s.heap.FunFrames X.base X.stack:=by
 rcases I.ok.stk with e|⟨e,hf⟩
 ·rw[e];exact I.funs
 ·rw[e]
  obtain⟨m,hn,_⟩:=I.loc;refine .cons (by rw[I.ok.kind];decide) hf hn ?_ I.funs;exact zz (gm I.ok.bsz I.ok.above)
theorem Inv.stkSub (I:Inv X pins Y H s):∀b∈frs X.stack,b∈X.env.locals::X.fs:=λb hb=>by
 rcases I.ok.stk with e|⟨e,hf⟩
 ·rw[e] at hb;exact ge _ hb
 ·rw[e] at hb
  unfold frs at hb;rw[jg,hf] at hb;exact hb
theorem Inv.stkFree (I:Inv X pins Y H s):∀b∈frs X.stack,H b=none:=λb hb=>by
 rcases gr.mp (I.stkSub b hb) with e|hb
 ·rw[e];exact I.free
 ·obtain⟨_,o,ho,_⟩:=I.ok.funs.mem hb
  exact I.base.free b o ho (I.ok.frf b hb) λz=>I.ok.exfs b z hb
theorem Inv.step {g':Array HG}{d':Drawn}{ch:List de}(I:Inv X pins Y H s)
  (hch:∀b∈ch,(b∈X.ex\/X.QN.heap.objs.size<=b)/\b≠X.env.locals/\(∀x c,X.env.cells.lookup x=some c->c≠b)/\∀p∈X.pn++pins,p.1≠b)
  (keep:∀b o,b≠X.env.locals->b∉X.fs->b∉ch->s.heap.get? b=some o->H b=none->h'.get? b=some o)
  (slot:∀b o,b≠X.env.locals->b∈X.fs->b∉ch->s.heap.get? b=some o->H b=none->∃sl,h'.get? b=some { o with slots:=sl })(free:∀b o,b∉ch->s.heap.get? b=some o->H b=none->H' b=none)
  (there:∀b o,b∉ch->s.heap.get? b=some o->∃o',h'.get? b=some o')
  (tups:∀b xs,H b=some (.tup xs)->H' b=some (.tup xs))(frzs:∀b o u,H b=some (.frz o u)->H' b=some (.frz o u))(tbls:∀b ps,H b=some (.tbl ps)->∃more,H' b=some (.tbl (ps++more)))
  (ns:∀m,s.heap.Ns X.env.locals m->h'.Ns X.env.locals m)(hok:HOk X.prog X.w H' h')(hg:uj g') :
  Inv X pins Y H' { s with heap:=h',gens:=g',drawn:=d',toks:=t' }:=by
 have neL:∀b o,X.QN.heap.get? b=some o->b≠X.env.locals:=λb o e=>fh (d8 (d7 e) I.ok.above);have neC:∀b o,X.QN.heap.get? b=some o->b∉X.ex->b∉ch:=λb o e hx hb=>by
  rcases(hch b hb).1 with z|z
  ·exact hx z
  ·exact absurd (d8 (d7 e) z) (lf _)
 have cellK:∀x c,X.env.cells.lookup x=some c->∀v,s.heap.IsCell c v->h'.IsCell c v:=λx c e v ⟨o,ho,hd⟩=>by
  have nch:c∉ch:=λz=>(hch c z).2.2.1 x c e rfl
  by_cases hc:c∈X.fs
  ·obtain⟨sl,q⟩:=slot c o (I.cne x c e) hc nch ho (I.freeC x c e)
   exact⟨_,q,hd⟩
  ·exact⟨o,keep c o (I.cne x c e) hc nch ho (I.freeC x c e),hd⟩
 refine⟨I.ok,I.os,hg,⟨λb o e n hb hx=>?_,λb o e n hb hx=>?_,λb o e n hx=>?_,λb o e hx=>?_,λb xs e=>tups b xs (I.base.tups b xs e),λb o xs e=>frzs b o xs (I.base.frzs b o xs e),λb ps e=>?_⟩,?_,λx c e=>?_,?_,λx c e=>?_,λp hp=>?_,hok,I.len⟩
 ·exact keep b o (neL b o e) hb (neC b o e hx) (I.base.keep b o e n hb hx) (I.base.free b o e n hx)
 ·obtain⟨sl,e1⟩:=I.base.slot b o e n hb hx
  obtain⟨sl',e2⟩:=slot b _ (neL b o e) hb (neC b o e hx) e1 (I.base.free b o e n hx);exact⟨sl',e2⟩
 ·obtain⟨o',e1⟩:=I.base.there b o e hx
  exact free b o' (neC b o e hx) e1 (I.base.free b o e n hx)
 ·obtain⟨o',e1⟩:=I.base.there b o e hx
  exact there b o' (neC b o e hx) e1
 ·obtain⟨m1,e1⟩:=I.base.tbls b ps e
  obtain⟨m2,e2⟩:=tbls b _ e1;exact⟨m1++m2,by rw[e2,AG]⟩
 ·obtain⟨m,hn,hl⟩:=I.loc
  refine⟨m,ns m hn,λi x v e1 e2 e3=>?_⟩;obtain⟨u,r,l⟩:=hl i x v e1 e2 e3;refine⟨u,r,?_⟩;rcases l with l|⟨k,c,e,z⟩
  ·exact .inl l
  ·exact .inr ⟨k,c,e,cellK x c e _ z⟩
 ·obtain⟨v,z⟩:=I.cell x c e
  exact⟨v,cellK x c e v z⟩
 ·obtain⟨m,⟨o,_,_,ho,_⟩,_⟩:=I.loc
  exact free _ o (λz=>(hch _ z).2.1 rfl) ho I.free
 ·obtain⟨v,o,ho,hd⟩:=I.cell x c e
  exact free c o (λz=>(hch c z).2.2.1 x c e rfl) ho (I.freeC x c e)
 ·obtain⟨e,n,ne,nf,d⟩:=I.pin p hp
  have nch:p.1∉ch:=λz=>(hch p.1 z).2.2.2 p hp rfl;exact⟨keep p.1 p.2 ne nf nch e n,free p.1 p.2 nch e n,ne,nf,d⟩
theorem Inv.un (I:Inv X pins Y H s)(u:Un X.fs [] H H' s.heap h')(hok:HOk X.prog X.w H' h'):Inv X pins Y H' { s with heap:=h',toks:=t' }:=by
 obtain⟨m,⟨o,es,ep,ho,r⟩,_⟩:=id I.loc;obtain⟨sl,hL⟩:=u.any ho I.free (by simp);exact I.step (g':=s.gens) (d':=s.drawn) (ch:=[]) (λ_ z=>nomatch z) (λb o _ hb _ e n=>u.keep b o e n hb (by simp)) (λb o _ hb _ e n=>u.slot b o e n hb (by simp)) (λb o _ e n=>u.free b o e n (by simp)) (λb o _ e=>u.there b o e (by simp)) u.tups u.frzs u.tbls (λm' hm=>by
  obtain⟨o',es',ep',ho',r'⟩:=hm;rw[ho] at ho';cases ho';exact⟨_,es',ep',hL,r'⟩) hok I.bare
theorem Inv.call {g':Array HG}{d':Drawn}{ch:List de}(I:Inv X pins Y H s)(u:Un (frs X.stack) ch H H' s.heap h')(hok:HOk X.prog X.w H' h')(hg:uj g')
  (hch:∀b∈ch,(b∈X.ex\/X.QN.heap.objs.size<=b)/\b≠X.env.locals/\(∀x c,X.env.cells.lookup x=some c->c≠b)/\∀p∈X.pn++pins,p.1≠b) :
  Inv X pins Y H' { s with heap:=h',gens:=g',drawn:=d',toks:=t' }:=by
 obtain⟨m,⟨o,es,ep,ho,r⟩,_⟩:=id I.loc;obtain⟨sl,hL⟩:=u.any ho I.free λz=>(hch _ z).2.1 rfl;exact I.step (ch:=ch) hch (λb o hL hb hc e n=>u.keep b o e n (λz=>(gr.mp (I.stkSub b z)).elim hL hb) hc) (λb o _ _ hc e n=>u.any e n hc) (λb o hc e n=>u.free b o e n hc) (λb o hc e=>u.there b o e hc) u.tups u.frzs u.tbls (λm' hm=>by
  obtain⟨o',es',ep',ho',r'⟩:=hm;rw[ho] at ho';cases ho';exact⟨_,es',ep',hL,r'⟩) hok hg
theorem Inv.turned (I:Inv X pins Y H s)(k:∀b o,b≠it->s.heap.get? b=some o->h'.get? b=some o)(hn:H it=none)(hL:it≠X.env.locals)
  (h1:it∈X.ex\/X.QN.heap.objs.size<=it)(h2:∀x c,X.env.cells.lookup x=some c->c≠it)(h3:∀p∈X.pn++pins,p.1≠it):Inv X pins Y H { s with heap:=h',toks:=t' }:=by
 have nit:∀b u,H b=some u->b≠it:=λb u e z=>by rw[z,hn] at e;cases e
 refine I.step (g':=s.gens) (d':=s.drawn) (ch:=[it]) (λb hb=>?_) (λb o _ _ hc e _=>k b o (λz=>hc (by simp[z])) e) (λb o _ _ hc e _=>⟨o.slots,k b o (λz=>hc (by simp[z])) e⟩) (λ_ _ _ _ n=>n)
  (λb o hc e=>⟨o,k b o (λz=>hc (by simp[z])) e⟩) (λ_ _ e=>e) (λ_ _ _ e=>e) (λb ps e=>⟨#[],by rw[e];simp⟩) (λm hm=>?_) (λb u e=>?_) I.bare
 ·have e:b=it:=by simpa using hb
  subst e;exact⟨h1,hL,h2,h3⟩
 ·obtain⟨o,es,ep,ho,r⟩:=hm
  exact⟨o,es,ep,k _ o (qq hL) ho,r⟩
 ·refine(I.hok b u e).stay (λc v hc q=>k c v ?_ q) (λ_ q=>q) λ_ _ q=>q
  rcases hc with z|z
  ·rw[z];exact nit b u e
  ·exact nit c _ z
theorem Inv.tok (I:Inv X pins Y H s)(t:Nat):Inv X pins Y H { s with toks:=t }:=I.un (h':=s.heap) (t':=t) Un.refl I.hok
theorem Inv.kept (I:Inv X pins Y H s)(k:∀b u,s.heap.get? b=some u->h'.get? b=some u):Inv X pins Y H { s with heap:=h',toks:=t' }:=I.un (Un.kept k) (I.hok.kept k)
theorem Inv.laid {a:de}{o:HO}(I:Inv X pins Y H s)(k:∀b u,s.heap.get? b=some u->h'.get? b=some u)(hp:s.heap.objs.size<=a)(new:Cc X.prog X.w (upd H a o) h' a o) :
  Inv X pins Y (upd H a o) { s with heap:=h',toks:=t' }:=I.un (Un.laid k hp (I.hok.fresh hp)) (I.hok.laid k hp new)
theorem Inv.write {x e:de}{o:HO}(I:Inv X pins Y H s)(mu:Mut (H x))(he:e=x\/H e=some (.own x))(k:∀b u,b≠e->s.heap.get? b=some u->h'.get? b=some u)(heo:∃u,h'.get? e=some u)
  (new:Cc X.prog X.w (upd H x o) h' x o):Inv X pins Y (upd H x o) { s with heap:=h',toks:=t' }:=I.un (Un.write mu he k heo) (I.hok.write mu he k heo new)
theorem Inv.weak {mt:List (Option V)}(I:Inv X pins Y H s)(hl:mt.length=Y.length)(w:∀(i:Nat) v,mt[i]?=some (some v)->Y[i]?=some (some v)):Inv X pins mt H s:=
 ⟨I.ok,I.os,I.bare,I.base,let ⟨m,hn,hl'⟩:=I.loc;⟨m,hn,λi x v e1 e2 e3=>hl' i x v e1 (w i v e2) e3⟩,I.cell,I.free,I.freeC,I.pin,I.hok,hl.trans I.len⟩
theorem Inv.pins_of {pins':Za1}(I:Inv X pins Y H s)(h:∀p∈pins',s.heap.get? p.1=some p.2/\H p.1=none/\p.1≠X.env.locals/\p.1∉X.fs/\∀v,p.2.data≠.cell v):Inv X pins' Y H s:=
 ⟨I.ok,I.os,I.bare,I.base,I.loc,I.cell,I.free,I.freeC,λp hp=>(f8.mp hp).elim (λz=>I.pin p (jr _ z)) (h p),I.hok,I.len⟩
theorem Yl (hN:N.Nodup){i j:Nat}{x:Str}(a:N[i]?=some x)(b:N[j]?=some x):i=j:=by
 obtain⟨h1,e1⟩:=dk.mp a;obtain⟨h2,e2⟩:=dk.mp b;exact(List.getElem_inj hN).mp (e1.trans e2.symm)
theorem hZ {E:Za0}{i:Nat}{x:Str}{v:V}{u:dr}{Q:Unit->dv->Prop}(I:Inv X pins Y H s)(hN:X.N.Nodup)(hi:X.N[i]?=some x)(hx:Loc X.env.scope x)(r:A8 v u)
  (h:∀s',Inv X pins (Y.set i (some v)) H s'->(∃a,su a s.heap s'.heap/\(a=X.env.locals\/X.env.cells.lookup x=some a))->Q () s')(hf:autoParam (X.fn x=true\/X.env.scope.names.lookup x=some .local) QH):wpAny M A (storeName X.env x u) Q E s:=by
 obtain⟨m,hn,hl⟩:=id I.loc;have hcls:(X.env.scope.kind==.class||(X.env.scope.kind==.module&&X.env.locals != X.env.globals))=false:=by rw[I.ok.kind];rfl
 have JH:i<Y.length:=by rw[I.len];exact(dk.mp hi).1
 have cne:=I.cne;have tracked:∀{a:de} {h':iq},(∃o,s.heap.get? a=some o/\H a=none)->su a s.heap h'->HOk X.prog X.w H h':=λ{a h'} ha hs b ob e=>by
  obtain⟨_,_,hfree⟩:=ha;refine(I.hok b ob e).stay (λc w' hc q=>(hs.2 c ?_).trans q) (λ_ q=>q) λ_ _ q=>q;rintro rfl;rcases hc with rfl|hc
  ·rw[hfree] at e;cases e
  ·rw[hfree] at hc;cases hc
 rcases hx with hk|hk
 ·refine wpAny_storeName_local hk hn (λh' hn' hs=>?_) hcls
  obtain⟨oL,_,_,hoL,_⟩:=id hn;refine h _ ⟨I.ok,I.os,I.bare,⟨λb o e n hb hx=>?_,λb o e n hb hx=>?_,I.base.free,λb o e hx=>?_,I.base.tups,I.base.frzs,I.base.tbls⟩,⟨_,hn',λj y v' e1 e2 e3=>?_⟩,λy c e=>?_,I.free,I.freeC,λp hp=>?_,tracked ⟨oL,hoL,I.free⟩ hs,by simpa using I.len⟩ ⟨_,hs,.inl rfl⟩
  ·exact(hs.2 b (fh (d8 (d7 e) I.ok.above))).trans (I.base.keep b o e n hb hx)
  ·obtain⟨sl,e1⟩:=I.base.slot b o e n hb hx
   exact⟨sl,(hs.2 b (fh (d8 (d7 e) I.ok.above))).trans e1⟩
  ·obtain⟨o',e1⟩:=I.base.there b o e hx
   exact⟨o',(hs.2 b (fh (d8 (d7 e) I.ok.above))).trans e1⟩
  ·by_cases hj:j=i
   ·subst hj
    rw[hi] at e1;cases e1;rw[y8 JH] at e2;cases e2;exact⟨u,r,.inl ⟨hk,by simp⟩⟩
   ·rw[zy (qq hj)] at e2
    obtain⟨u',r',q⟩:=hl j y v' e1 e2 e3;refine⟨u',r',?_⟩;rcases q with⟨k,e⟩|⟨k,c,e,z⟩
    ·refine .inl ⟨k,?_⟩
     have:y≠x:=λe=>hj (Yl hN e1 (e▸hi));simp[this,e]
    ·exact .inr ⟨k,c,e,z.sameBut hs (cne y c e)⟩
  ·obtain⟨w',z⟩:=I.cell y c e
   exact⟨w',z.sameBut hs (cne y c e)⟩
  ·obtain⟨e,n,ne,nf,d⟩:=I.pin p hp
   exact⟨(hs.2 p.1 ne).trans e,n,ne,nf,d⟩
 ·have hfn:X.fn x=true:=by
   rcases hf with z|z
   ·exact z
   ·rw[z] at hk;cases hk
  obtain⟨c,hc⟩:=I.ok.has x (.inl hk);obtain⟨w',z⟩:=I.cell x c hc;refine wpAny_storeName_cell I.ok.kind hk hc z (λh' hc' hs=>?_);obtain⟨oc,hoc,hocd⟩:=id z;refine h { s with heap:=h' } ⟨I.ok,I.os,I.bare,⟨λb o e n hb hx=>?_,λb o e n hb hx=>?_,I.base.free,λb o e hx=>?_,I.base.tups,I.base.frzs,I.base.tbls⟩,⟨m,hn.sameBut hs (qq (cne x c hc)),λj y v' e1 e2 e3=>?_⟩,λy c' e=>?_,I.free,I.freeC,λp hp=>?_,tracked ⟨oc,hoc,I.freeC x c hc⟩ hs,by simpa using I.len⟩ ⟨c,hs,.inr hc⟩
  ·exact(hs.2 b (fh (d8 (d7 e) (I.ok.cab x c hfn hc)))).trans (I.base.keep b o e n hb hx)
  ·obtain⟨sl,e1⟩:=I.base.slot b o e n hb hx
   exact⟨sl,(hs.2 b (fh (d8 (d7 e) (I.ok.cab x c hfn hc)))).trans e1⟩
  ·obtain⟨o',e1⟩:=I.base.there b o e hx
   exact⟨o',(hs.2 b (fh (d8 (d7 e) (I.ok.cab x c hfn hc)))).trans e1⟩
  ·by_cases hj:j=i
   ·subst hj
    rw[hi] at e1;cases e1;rw[y8 JH] at e2;cases e2;exact⟨u,r,.inr ⟨.inl hk,c,hc,hc'⟩⟩
   ·rw[zy (qq hj)] at e2
    obtain⟨u',r',q⟩:=hl j y v' e1 e2 e3;refine⟨u',r',?_⟩;rcases q with q|⟨k,c',e,z'⟩
    ·exact .inl q
    ·refine .inr ⟨k,c',e,z'.sameBut hs ?_⟩
     rintro rfl;exact hj (Yl hN e1 (I.ok.inj _ _ _ e hc▸hi))
  ·by_cases hcc:c'=c
   ·subst hcc;exact⟨_,hc'⟩
   ·obtain⟨w2,z2⟩:=I.cell y c' e
    exact⟨w2,z2.sameBut hs hcc⟩
  ·obtain⟨e,n,ne,nf,d⟩:=I.pin p hp
   refine⟨(hs.2 p.1 ?_).trans e,n,ne,nf,d⟩;intro q;rw[q,hoc] at e;have q':oc=p.2:=dh e;exact d w' (by rw[<-q'];exact hocd)
theorem Rb {E:Za0}{i:Nat}{x:Str}{v:V}{u:dr}{Q:Unit->dv->Prop}(I:Inv X pins Y H s)(hN:X.N.Nodup)(hi:X.N[i]?=some x)(hx:Loc X.env.scope x)(r:A8 v u)
  (h:∀s',Inv X pins (Y.set i (some v)) H s'->Q () s')(hf:autoParam (X.fn x=true\/X.env.scope.names.lookup x=some .local) QH):wpAny M A (storeName X.env x u) Q E s:=
 hZ I hN hi hx r (λs' I' _=>h s' I') hf
theorem Inv.call' {s':dv}{ch:List de}(I:Inv X pins Y H s)(ho:s'.os=s.os)(u:Un (frs X.stack) ch H H' s.heap s'.heap)(hok:HOk X.prog X.w H' s'.heap)(hg:uj s'.gens)
  (hch:∀b∈ch,(b∈X.ex\/X.QN.heap.objs.size<=b)/\b≠X.env.locals/\(∀x c,X.env.cells.lookup x=some c->c≠b)/\∀p∈X.pn++pins,p.1≠b):Inv X pins Y H' s':=by
 obtain⟨h',g',d',t',o'⟩:=s';have e:o'=s.os:=ho;subst e;exact I.call (g':=g') (t':=t') (d':=d') u hok hg hch
end
abbrev XK:=dr->Option de->Hp->Prop
abbrev St:=List (Option V)
abbrev VK:=V->Hp->Prop
abbrev TE:=St->Hp->VK->Prop
abbrev TT:=St->Hp->(Bool->Hp->Prop)->Prop
abbrev TA:=St->Hp->(List V->Hp->Prop)->Prop
structure Hk where
 nx:St->Hp->Prop
 rt:VK
 bk:St->Hp->Prop:=λ_ _=>False
 ct:St->Hp->Prop:=λ_ _=>False
abbrev TS:=Hk->St->Hp->Prop
def EP (X:Cx)(pins:Za1)(Y:St)(Q:VK)(u:dr)(s':dv):Prop:=∃v H',Inv X pins Y H' s'/\A8 v u/\Q v H'
def TP (X:Cx)(pins:Za1)(Y:St)(Q:Bool->Hp->Prop)(b:Bool)(s':dv):Prop:=∃H',Inv X pins Y H' s'/\Q b H'
def AP (X:Cx)(pins:Za1)(Y:St)(Q:List V->Hp->Prop)(us:Za3)(s':dv):Prop:=∃vs H',Inv X pins Y H' s'/\Au vs us/\Q vs H'
def SP (X:Cx)(pins:Za1)(D:Hk)(f:Flow)(s':dv):Prop:=
 match f with
 |.next=>∃mt H',Inv X pins mt H' s'/\D.nx mt H'
 |.brk=>∃mt H',Inv X pins mt H' s'/\D.bk mt H'
 |.cont=>∃mt H',Inv X pins mt H' s'/\D.ct mt H'
 |.ret u=>∃v mt H',Inv X pins mt H' s'/\A8 v u/\D.rt v H'
def PE (X:Cx)(e:gv)(t:TE):Prop:=
 ∀(pins:Za1) (s:dv) (Y:St) (H:Hp) (Q:VK),Inv X pins Y H s->t Y H Q->wpAny (model X.prog X.w) X.A (eval e X.env) (EP X pins Y Q) X.xe s
def PT (X:Cx)(e:gv)(t:TT):Prop:=
 ∀(pins:Za1) (s:dv) (Y:St) (H:Hp) (Q:Bool->Hp->Prop),Inv X pins Y H s->t Y H Q->wpAny (model X.prog X.w) X.A (isTrue e X.env (eval e X.env)) (TP X pins Y Q) X.xe s
def PW (X:Cx)(e:gv)(t:TT):Prop:=
 ∀(whole:Sem dr) (pins:Za1) (s:dv) (Y:St) (H:Hp) (Q:Bool->Hp->Prop),Inv X pins Y H s->t Y H Q->wpAny (model X.prog X.w) X.A (isTrue e X.env whole) (TP X pins Y Q) X.xe s
theorem PW.pt {e:gv}{t:TT}(h:PW X e t):PT X e t:=h _
def PA (X:Cx)(es:List gv)(t:TA):Prop:=
 ∀(pos:Pos) (pins:Za1) (s:dv) (Y:St) (H:Hp) (Q:List V->Hp->Prop),Inv X pins Y H s->t Y H Q->wpAny (model X.prog X.w) X.A (spliced (backTo pos (starEach es X.env))) (AP X pins Y Q) X.xe s
def PS (X:Cx)(st:im)(t:TS):Prop:=
 ∀(pins:Za1) (s:dv) (Y:St) (H:Hp) (D:Hk),Inv X pins Y H s->t D Y H->wpAny (model X.prog X.w) X.A (exec st X.env) (SP X pins D) X.xe s
def PSs (X:Cx)(st:List im)(t:TS):Prop:=
 ∀(pins:Za1) (s:dv) (Y:St) (H:Hp) (D:Hk),Inv X pins Y H s->t D Y H->wpAny (model X.prog X.w) X.A (execs st X.env) (SP X pins D) X.xe s
theorem thn {α:Type}{t:Sem α}{Q Q':α->dv->Prop}{E:Za0}(h:wpAny M A t Q E s)(hQ:∀a s,Q a s->Q' a s):wpAny M A t Q' E s:=kx h hQ λ_ _ x=>x
theorem thE {Y:St}{e:gv}{t:TE}{Q:VK}{Q':Za0}(he:PE X e t)(I:Inv X pins Y H s)(h:t Y H Q)(k:∀u s1 x H1,Inv X pins Y H1 s1->A8 x u->Q x H1->Q' u s1):wpAny (model X.prog X.w) X.A (eval e X.env) Q' X.xe s:=thn (he pins s Y H Q I h) λu s1 ⟨x,H1,a,b,c⟩=>k u s1 x H1 a b c
theorem thA {Y:St}{e:List gv}{t:TA}{Q:List V->Hp->Prop}{Q':Za3->dv->Prop}(he:PA X e t)(I:Inv X pins Y H s)(h:t Y H Q)(k:∀u s1 x H1,Inv X pins Y H1 s1->Au x u->Q x H1->Q' u s1):wpAny (model X.prog X.w) X.A (spliced (backTo pos (starEach e X.env))) Q' X.xe s:=thn (he pos pins s Y H Q I h) λu s1 ⟨x,H1,a,b,c⟩=>k u s1 x H1 a b c
section
variable {X:Cx}
theorem bin {a b:gv}{ta tb:TE}(ha:PE X a ta)(hb:PE X b tb){Y:St}{R:V->V->Hp->Prop}(I:Inv X pins Y H s)(h:ta Y H λx H1=>tb Y H1 λy H2=>R x y H2)
  {α:Type}{Q:α->dv->Prop}{f:dr->dr->Sem α}
  (hf:∀v u s2 x y H2,Inv X pins Y H2 s2->A8 x v->A8 y u->R x y H2->wpAny (model X.prog X.w) X.A (f v u) Q X.xe s2) :
  wpAny (model X.prog X.w) X.A (eval a X.env) (λv QM=>wpAny (model X.prog X.w) X.A (eval b X.env) (λu QT=>wpAny (model X.prog X.w) X.A (f v u) Q X.xe QT) X.xe QM) X.xe s:=by
 refine thE ha I h λv s1 x H1 I1 r1 q1=>?_;refine thE hb I1 q1 λu s2 y H2 I2 r2 q2=>?_;exact hf v u s2 x y H2 I2 r1 r2 q2
def uU (i:Nat):TE:=λY H Q=>∃v,Y[i]?=some (some v)/\Q v H
def tC (v:V):TE:=λ_ H Q=>Q v H
theorem wU {i:Nat}{x:Str}(hN:X.N[i]?=some x)(hv:Vis X.env.scope x)(hd:autoParam ((x==("__debug__":Str))=false) QF)(hcd:autoParam ((x==("__classdict__":Str))=false) QF):PE X (.Name x pos) (uU i):=by
 k_in;obtain⟨v,e,h⟩:=h;obtain⟨m,hn,hl⟩:=I.loc;obtain⟨u,r,l⟩:=hl i x v hN e hv;have fin:EP X pins Y Q u s:=⟨v,H,I,r,h⟩;rcases l with⟨hk,hm⟩|⟨hk,c,hc,hcell⟩
 ·exact wt (vm I.ok.kind hk hn hm fin) hd
 ·rcases hk with hk|hk
  ·exact wt (DD I.ok.kind hk hc hcell fin) hd
  ·exact wt (DC I.ok.kind hk hc hcell fin hcd) hd
theorem Af {i j pos}:PE X (.Constant (.int i) j pos) (tC (.int i)):=λ_ _ _ H _ I h=>wpAny_Constant_int ⟨.int i,H,I.tok _,⟨_,rfl⟩,h⟩
theorem Fw {b j pos}:PE X (.Constant (.bool b) j pos) (tC (.bl b)):=λ_ _ _ H _ I h=>Constant_bool ⟨.bl b,H,I,rfl,h⟩
theorem Uq {j pos}:PE X (.Constant .none j pos) (tC .non):=λ_ _ _ H _ I h=>Constant_none ⟨.non,H,I,rfl,h⟩
theorem Bo {x j pos}:PE X (.Constant (.str x) j pos) (tC (.str x)):=λ_ _ _ H _ I h=>Calls.Constant_str ⟨.str x,H,I.tok _,⟨_,rfl⟩,h⟩
def Gl (X:Cx)(x:Str):Prop:=X.env.kindOf x=some .globalImplicit
theorem Of {E:Za0}{Y:St}{x:Str}{u:dr}{Q:Za0}(I:Inv X pins Y H s)(hg:Gl X x)(hm:X.mg x=some u)(h:Q u s)
  (hd:autoParam ((x==("__debug__":Str))=false) QF):wpAny (model X.prog X.w) X.A (eval (.Name x pos) X.env) Q E s:=
 xz I.ok.kind hg (Calls.loadGlobal_global (by rw[I.ok.glob];exact I.mod.glob.keeps I.bk) hm h) hd
theorem Dv {E:Za0}{Y:St}{x:Str}{u:dr}{Q:Za0}(I:Inv X pins Y H s)(hg:Gl X x)(hm:X.mg x=none)(hv:bootBuiltins x=some u)(h:Q u s)
  (hn:autoParam (x≠"__name__") QF)(hd:autoParam ((x==("__debug__":Str))=false) QF):wpAny (model X.prog X.w) X.A (eval (.Name x pos) X.env) Q E s:=by
 obtain⟨mb,h1,h2⟩:=I.mod.blt;exact xz I.ok.kind hg (Calls.loadGlobal_builtin (by rw[I.ok.glob];exact I.mod.glob.keeps I.bk) hm (by rw[I.ok.blt];exact h1.keeps I.bk) ((h2 x hn).trans hv) h) hd
theorem Ob {x:Str}{v:V}{u:dr}(hg:Gl X x)(hm:X.mg x=some u)(r:A8 v u)(hd:autoParam ((x==("__debug__":Str))=false) QF):PE X (.Name x pos) (tC v):=
 λ_ _ _ H _ I h=>Of I hg hm ⟨v,H,I,r,h⟩ hd
theorem Eb {x:Str}{v:V}{u:dr}(hg:Gl X x)(hm:X.mg x=none)(hv:bootBuiltins x=some u)(r:A8 v u)(hn:autoParam (x≠"__name__") QF)(hd:autoParam ((x==("__debug__":Str))=false) QF):PE X (.Name x pos) (tC v):=
 λ_ _ _ H _ I h=>Dv I hg hm hv ⟨v,H,I,r,h⟩ hn hd
variable {a b:gv} {ta tb:TE} {pos:Pos}
def PC (X:Cx)(op:vv)(a b:gv)(t:TE):Prop:=
 ∀(pins:Za1) (s:dv) (Y:St) (H:Hp) (Q:VK),Inv X pins Y H s->t Y H Q ->
  wpAny (model X.prog X.w) X.A (eval a X.env) (λv QM=>wpAny (model X.prog X.w) X.A (eval b X.env) (λu QT=>wpAny (model X.prog X.w) X.A (compareOp op v u) (EP X pins Y Q) X.xe QT) X.xe QM) X.xe s
theorem pL (b:gv)(h:op≠.In)(h2:op≠.NotIn):behindInMarks op b=false:=by
 have e1:(op==HK)=false:=by cases op<;>first|rfl|exact absurd rfl h
 have e2:(op==ES)=false:=by cases op<;>first|rfl|exact absurd rfl h2
 cases b<;>simp[behindInMarks,e1,e2]
def tB (t:TE):TT:=λY H Q=>t Y H λx H1=>∃c,x=.bl c/\Q c H1
theorem Aaj {t:TE}(h:PC X op a b t)(h1:behindInMarks op b=false:=by first|exact pL _ (by decide) (by decide)|rfl):PT X (.Compare a [op] [b] pos) (tB t):=by
 intro pins s Y H Q I hw;refine wpAny_isTrue_Compare1 (thn (h pins s Y H _ I hw) λv s1 h1=>thn h1 λu s2 h2=>thn h2 λc s3 ⟨x,H1,I1,r1,q1⟩=>?_) h1;obtain⟨d,rfl,q⟩:=q1;cases r1;exact ll ⟨H1,I1,q⟩
theorem Ci {e:gv}{t:TE}(h:PE X e t)(he:autoParam (∀whole,isTrue e X.env whole=(do let v <-whole;standAt e.pos;holding [v] (truthy v))) QJ):PT X e (tB t):=by
 intro pins s Y H Q I hw;refine isTrue_plain (thE h I hw λv s1 x H1 I1 r1 q1=>?_) (he _);obtain⟨d,rfl,q⟩:=q1;cases r1;exact ll ⟨H1,I1,q⟩
variable {tA tB':TT} {rest:List gv}
def zX (t u:TT):TT:=λY H Q=>t Y H λc H1=>if c=true then u Y H1 Q else Q false H1
def tOr (t u:TT):TT:=λY H Q=>t Y H λc H1=>if c=true then Q true H1 else u Y H1 Q
def xT (t:TT):TT:=λY H Q=>t Y H λc H1=>Q (!c) H1
theorem U0 (ha:PT X a tA):PW X (.BoolOp .And [a] pos) tA:=by
 intro wh pins s Y H Q I h;refine isTrue_and (thn (ha pins s Y H Q I h) λc s1 e=>?_)
 cases c with
 |true=>exact isTrue_and_nil e
 |false=>exact e
theorem Ge (ha:PT X a tA):PW X (.BoolOp .Or [a] pos) tA:=by
 intro wh pins s Y H Q I h;refine isTrue_or (thn (ha pins s Y H Q I h) λc s1 e=>?_)
 cases c with
 |false=>exact isTrue_or_nil e
 |true=>exact e
theorem cS (ha:PT X a tA)(hb:PW X (.BoolOp .And (b::rest) pos) tB'):PW X (.BoolOp .And (a::b::rest) pos) (zX tA tB'):=by
 intro wh pins s Y H Q I h;refine isTrue_and (thn (ha pins s Y H _ I h) λc s1 ⟨H1,I1,q1⟩=>?_)
 cases c with
 |true=>exact hb wh pins s1 Y H1 Q I1 q1
 |false=>exact⟨H1,I1,q1⟩
theorem Fv (ha:PT X a tA)(hb:PW X (.BoolOp .Or (b::rest) pos) tB'):PW X (.BoolOp .Or (a::b::rest) pos) (tOr tA tB'):=by
 intro wh pins s Y H Q I h;refine isTrue_or (thn (ha pins s Y H _ I h) λc s1 ⟨H1,I1,q1⟩=>?_)
 cases c with
 |true=>exact⟨H1,I1,q1⟩
 |false=>exact hb wh pins s1 Y H1 Q I1 q1
theorem Cm (ha:PT X a tA):PT X (.UnaryOp .Not a pos) (xT tA):=by
 k_in;exact isTrue_not (ha pins s Y H (λc H1=>Q (!c) H1) I h)
def tJ (ta tb:TE):TE:=λY H Q=>ta Y H λx H1=>∃c,x=.bl c/\if c=true then tb Y H1 Q else Q (.bl false) H1
def tX (ta:TE):TE:=λY H Q=>ta Y H λx H1=>∃c,x=.bl c/\Q (.bl (!c)) H1
theorem Zo {op}{t:TE}(h:PE X a t):PE X (.BoolOp op [a] pos) t:=λpins s Y H Q I hw=>BoolOp_one (h pins s Y H Q I hw)
theorem Zj (ha:PE X a ta)(hb:PE X (.BoolOp .And (b::rest) pos) tb):PE X (.BoolOp .And (a::b::rest) pos) (tJ ta tb):=by
 k_in;refine BoolOp_and (thE ha I h λv s1 x H1 I1 r1 q1=>?_);obtain⟨c,rfl,q1⟩:=q1;cases r1;refine ll ?_
 cases c with
 |true=>exact hb pins s1 Y H1 Q I1 q1
 |false=>exact⟨.bl false,H1,I1,rfl,q1⟩
theorem jM (ha:PE X a ta):PE X (.UnaryOp .Not a pos) (tX ta):=by
 k_in;refine UnaryOp_ (thE ha I h λv s1 x H1 I1 r1 q1=>?_);obtain⟨c,rfl,q1⟩:=q1;cases r1;exact not_of (ll ⟨.bl (!c),H1,I1,rfl,q1⟩)
def tIf (t:TT)(ta tb:TE):TE:=λY H Q=>t Y H λc H1=>if c=true then ta Y H1 Q else tb Y H1 Q
theorem Gw {c:gv}(hc:PT X c tA)(ha:PE X a ta)(hb:PE X b tb):PE X (.IfExp c a b pos) (tIf tA ta tb):=by
 k_in;refine wpAny_IfExp (thn (hc pins s Y H _ I h) λd s1 ⟨H1,I1,q1⟩=>?_)
 cases d with
 |true=>exact ha pins s1 Y H1 Q I1 q1
 |false=>exact hb pins s1 Y H1 Q I1 q1
end
def SqL (K:c7)(H:Hp)(a:de)(xs:List V):Prop:=
 Rd H a (.lst xs) \/
  ∃(o:Obj) (its:Array dr) (n:Nat),K.lookup a=some o/\o.cls=.type "list"/\o.dict=none/\o.data=.seq its n/\its.size<=sizeLine/\Au xs its.toList
def SqT (K:c7)(H:Hp)(a:de)(xs:List V):Prop:=
 Rd H a (.tup xs) \/
  ∃(o:Obj) (its:Array dr) (n:Nat),K.lookup a=some o/\o.cls=.type "tuple"/\o.data=.seq its n/\its.size<=sizeLine/\Au xs its.toList
def Aa2:dr->Option V
 |.none=>some .non
 |.bool b=>some (.bl b)
 |.int i _=>some (.int i)
 |.str x _=>some (.str x)
 |.bytes b _=>some (.byt b)
 |.float b _=>some (.flt b)
 |.ref a=>some (.ref a)
 |.type n=>some (.ty n)
 |_=>none
theorem A8.abs {x:V}{u:dr}(r:A8 x u):Aa2 u=some x:=by
 cases x with
 |non=>cases r;rfl
 |bl _=>cases r;rfl
 |int _=>obtain⟨t,rfl⟩:=r;rfl
 |str _=>obtain⟨t,rfl⟩:=r;rfl
 |byt _=>obtain⟨t,rfl⟩:=r;rfl
 |flt _=>obtain⟨t,rfl⟩:=r;rfl
 |ref _=>cases r;rfl
 |ty _=>cases r;rfl
theorem A8.inj {x:V}{u:dr}(r:A8 x u)(q:A8 y u):x=y:=dh (r.abs.symm.trans q.abs)
theorem Au.inj:∀{xs ys:List V} {us:Za3},Au xs us->Au ys us->xs=ys
 |_,_,_,.nil,.nil=>rfl
 |_,_,_,.cons r t,.cons r' t'=>by rw[r.inj r',Au.inj t t']
section
variable {X:Cx} {pins:Za1} {Y:St} {H:Hp} {s:dv} {a:de} {xs ys:List V}
theorem SqL.of {K:c7}(h:H a=some (.lst xs)):SqL K H a xs:=.inl (.inl h)
theorem SqT.of {K:c7}(h:H a=some (.tup xs)):SqT K H a xs:=.inl (.inl h)
theorem Inv.list (I:Inv X pins Y H s)(h:SqL X.K H a xs):∃its:Za3,Au xs its/\PlainL s.heap a its.toArray/\xs.length<=sizeLine:=by
 rcases h with h|⟨o,its,n,hk,hc,hd,hs,hz,r⟩
 ·obtain⟨z,its,n,r,e⟩:=h.ok I.hok
  exact⟨its,r,⟨_,n,e,rfl,rfl,rfl⟩,z⟩
 ·refine⟨its.toList,r,⟨o,n,I.kIn a o hk,hc,hd,by simpa using hs⟩,?_⟩
  have e:=r.length;simp only[fb] at e;lia
theorem Inv.tuple (I:Inv X pins Y H s)(h:SqT X.K H a xs):∃its:Za3,Au xs its/\IsTup s.heap a its.toArray/\xs.length<=sizeLine:=by
 rcases h with h|⟨o,its,n,hk,hc,hs,hz,r⟩
 ·obtain⟨z,its,r,p⟩:=h.ok I.hok
  exact⟨its,r,p,z⟩
 ·refine⟨its.toList,r,⟨o,I.kIn a o hk,hc,n,by simpa using hs⟩,?_⟩
  have e:=r.length;simp only[fb] at e;lia
theorem Inv.list_inj (I:Inv X pins Y H s)(h:SqL X.K H a xs)(h':SqL X.K H a ys):xs=ys:=by
 obtain⟨its,r,⟨o,n,e,_,_,d⟩,_⟩:=I.list h;obtain⟨its',r',⟨o',n',e',_,_,d'⟩,_⟩:=I.list h';rw[e] at e';cases e';rw[d] at d'
 injection d' with d1 _
 have:its=its':=by simpa using congrArg ED d1
 subst this;exact r.inj r'
theorem Inv.tuple_inj (I:Inv X pins Y H s)(h:SqT X.K H a xs)(h':SqT X.K H a ys):xs=ys:=by
 obtain⟨its,r,⟨o,e,_,n,d⟩,_⟩:=I.tuple h;obtain⟨its',r',⟨o',e',_,n',d'⟩,_⟩:=I.tuple h';rw[e] at e';cases e';rw[d] at d'
 injection d' with d1 _
 have:its=its':=by simpa using congrArg ED d1
 subst this;exact r.inj r'
end
abbrev Cx.wish (X:Cx)(E:Za0):Cx:={ X with xe:=E }
abbrev Cx.nox (X:Cx):Cx:=X.wish λ_ _=>False
theorem Cx.Ok.wish (ok:X.Ok)(E:Za0):(X.wish E).Ok:=
 ⟨ok.mod,ok.kind,ok.glob,ok.blt,ok.above,ok.inj,ok.has,ok.cab,ok.hd,ok.frames,ok.stk,ok.exf,ok.bs,ok.bsz,ok.noex,ok.exfs,ok.funs,ok.frf⟩
theorem Cx.Ok.unwish {E:Za0}(ok:(X.wish E).Ok):X.Ok:=
 ⟨ok.mod,ok.kind,ok.glob,ok.blt,ok.above,ok.inj,ok.has,ok.cab,ok.hd,ok.frames,ok.stk,ok.exf,ok.bs,ok.bsz,ok.noex,ok.exfs,ok.funs,ok.frf⟩
section
variable {X:Cx} {pins:Za1} {Y:St} {H:Hp} {s:dv} {E:Za0}
theorem Inv.wish (I:Inv X pins Y H s)(E:Za0):Inv (X.wish E) pins Y H s:=⟨I.ok.wish E,I.os,I.bare,I.base,I.loc,I.cell,I.free,I.freeC,I.pin,I.hok,I.len⟩
theorem Inv.unwish (I:Inv (X.wish E) pins Y H s):Inv X pins Y H s:=⟨I.ok.unwish,I.os,I.bare,I.base,I.loc,I.cell,I.free,I.freeC,I.pin,I.hok,I.len⟩
theorem SP.unwish {f:Flow}{s':dv}(h:SP (X.wish E) pins D f s'):SP X pins D f s':=by
 cases f with
 |next=>obtain⟨mt,H',I,q⟩:=h;exact⟨mt,H',I.unwish,q⟩
 |brk=>obtain⟨mt,H',I,q⟩:=h;exact⟨mt,H',I.unwish,q⟩
 |cont=>obtain⟨mt,H',I,q⟩:=h;exact⟨mt,H',I.unwish,q⟩
 |ret u=>obtain⟨v,mt,H',I,r,q⟩:=h;exact⟨v,mt,H',I.unwish,r,q⟩
theorem PSs.nox {st:List im}{t:TS}(h:PSs X.nox st t):PSs X st t:=λpins s Y H D I hw=>
 kx (h pins s Y H D (I.wish _) hw) (λ_ _ q=>q.unwish) λ_ _ z=>km z
end
section
variable {X:Cx} {st:im} {rest:List im} {t u:TS} {e:gv} {te:TE} {pos:Pos}
def tP:TS:=λD Y H=>D.nx Y H
def vM (t u:TS):TS:=λD Y H=>t { D with nx:=u D } Y H
theorem A7:PSs X [] tP:=λ_ _ Y H _ I h=>uk ⟨Y,H,I,h⟩
theorem Ab (h1:PS X st t)(h2:PSs X rest u):PSs X (st::rest) (vM t u):=by
 k_end;refine wpAny_execs_cons (thn (h1 pins s Y H { D with nx:=u D } I h) λf s1 q=>?_)
 cases f with
 |next=>
  obtain⟨mt,H',I',q⟩:=q;exact h2 pins s1 mt H' D I' q
 |ret v=>exact q
 |brk=>exact q
 |cont=>exact q
theorem Ae (h1:PS X st t):PSs X [st] t:=by
 k_end;refine wpAny_execs_cons (thn (h1 pins s Y H D I h) λf s1 q=>?_)
 cases f with
 |next=>exact uk q
 |ret v=>exact q
 |brk=>exact q
 |cont=>exact q
theorem Inv.quiet {Y:St}(I:Inv X pins Y H s):interactive X.env=false:=by simp[interactive,I.ok.kind]
def tW (te:TE):TS:=λD Y H=>te Y H λ_ H1=>D.nx Y H1
theorem At (he:PE X e te)(hs:autoParam (swapsWith e none pos.line X.env=pure false) QD):PS X (.Expr e pos) (tW te):=by
 k_end;exact wpAny_Expr_any (thE he I h λv s1 x H1 I1 r1 q1=>⟨Y,H1,I1,q1⟩) I.quiet hs
def xZ (te:TE):TS:=λD Y H=>te Y H D.rt
theorem Ap (he:PE X e te):PS X (.Return (some e) pos) (xZ te):=by
 k_end;exact wpAny_Return_some (thE he I h λv s1 x H1 I1 r1 q1=>⟨x,Y,H1,I1,r1,q1⟩)
def zM (c:TT)(t u:TS):TS:=λD Y H=>c Y H λb H1=>if b=true then t D Y H1 else u D Y H1
theorem B1 {c:gv}{a b:List im}{tc:TT}(hc:PT X c tc)(ha:PSs X a t)(hb:PSs X b u):PS X (.If c a b pos) (zM tc t u):=by
 k_end;refine wpAny_If (thn (hc pins s Y H _ I h) λd s1 ⟨H1,I1,q1⟩=>?_)
 cases d with
 |true=>exact ha pins s1 Y H1 D I1 q1
 |false=>exact hb pins s1 Y H1 D I1 q1
def uX:TS:=λ_ _ _=>False
theorem B5:PS X st uX:=λ_ _ _ _ _ _ h=>h.elim
end
abbrev TG:=V->St->Hp->(St->Hp->Prop)->Prop
abbrev TGs:=List V->St->Hp->(St->Hp->Prop)->Prop
def PG (X:Cx)(target:gv)(t:TG):Prop:=
 ∀(pins:Za1) (s:dv) (Y:St) (H:Hp) (v:V) (u:dr) (Q:St->Hp->Prop),Inv X pins Y H s->A8 v u->t v Y H Q ->
  wpAny (model X.prog X.w) X.A (assign target X.env u) (λ_ s'=>∃mt H',Inv X pins mt H' s'/\Q mt H') X.xe s
def PGs (X:Cx)(ts:List gv)(t:TGs):Prop:=
 ∀(pins:Za1) (s:dv) (Y:St) (H:Hp) (vs:List V) (us:Za3) (Q:St->Hp->Prop),Inv X pins Y H s->Au vs us->t vs Y H Q ->
  wpAny (model X.prog X.w) X.A (assignInOrder ((assignEach ts X.env).map (·.2)) us) (λ_ s'=>∃mt H',Inv X pins mt H' s'/\Q mt H') X.xe s
abbrev rY:=V->V->V->Hp->(Hp->Prop)->Prop
def yS (X:Cx)(t:rY):Prop:=
 ∀(pins:Za1) (s:dv) (Y:St) (H:Hp) (o i v:V) (ov iv u:dr) (Q:Hp->Prop),Inv X pins Y H s->A8 o ov->A8 i iv->A8 v u->t o i v H Q ->
  wpAny (model X.prog X.w) X.A (setItem ov iv u) (λ_ s'=>∃H',Inv X pins Y H' s'/\Q H') X.xe s
abbrev TIp:=V->V->Hp->VK->Prop
def PIp (X:Cx)(op:CZ)(t:TIp):Prop:=
 ∀(pins:Za1) (s:dv) (Y:St) (H:Hp) (x y:V) (v u:dr) (Q:VK),Inv X pins Y H s->A8 x v->A8 y u->t x y H Q ->
  wpAny (model X.prog X.w) X.A (inplaceOp op v u) (EP X pins Y Q) X.xe s
section
variable {X:Cx} {pos:Pos}
def Dy (i:Nat):TG:=λv Y H Q=>Q (Y.set i (some v)) H
theorem Jv {i:Nat}{x:Str}(hN:X.N.Nodup)(hi:X.N[i]?=some x)(hx:Loc X.env.scope x)(hf:autoParam (X.fn x=true\/X.env.scope.names.lookup x=some .local) QH):PG X (.Name x pos) (Dy i):=by
 intro pins s Y H v u Q I r h;exact wpAny_assign_Name (Rb I hN hi hx r (λs' I'=>⟨_,H,I',h⟩) hf)
def iR:TGs:=λvs Y H Q=>vs=[]/\Q Y H
def Iq (t:TG)(u:TGs):TGs:=λvs Y H Q=>∃v r,vs=v::r/\t v Y H λmt H'=>u r mt H' Q
theorem Js:PGs X [] iR:=by
 intro pins s Y H vs us Q I r h;obtain⟨e,h⟩:=h;subst e;cases r;exact assignInOrder_nil ⟨Y,H,I,h⟩
theorem Cu {e:gv}{t:TG}{u:TGs}(h1:PG X e t)(h2:PGs X es u)
  (hs:autoParam ((assignEach (e::es) X.env).map (·.2)=assign e X.env::(assignEach es X.env).map (·.2)) QD):PGs X (e::es) (Iq t u):=by
 intro pins s Y H vs us Q I r h;obtain⟨v,vr,e1,h⟩:=h;subst e1
 cases r with
 |cons r rr=>
  rw[hs];refine assignInOrder_cons (thn (h1 pins s Y H _ _ _ I r h) λ_ s1 ⟨QW,H1,I1,q1⟩=>?_);exact h2 pins s1 QW H1 _ _ Q I1 rr q1
def jC (K:c7)(n:Nat)(t:TGs):TG:=λv Y H Q=>∃a xs,v=.ref a/\SqT K H a xs/\xs.length=n/\t xs Y H Q
theorem Mx {k:Nat}{t:TGs}(hc:X.calm=true)(h:PGs X es t)
  (hn:autoParam ((assignEach es X.env).length=n) QD)(hst:autoParam ((assignEach es X.env).findIdx? (·.1)=none) QD):PG X (.Tuple es k pos) (jC X.K n t):=by
 intro pins s Y H v u Q I r hw;obtain⟨a,xs,e1,hq,hl,hw⟩:=hw;subst e1;cases r;obtain⟨its,rv,ht,hz⟩:=I.tuple hq;refine assign_Tuple_tuple (I.ok.hd hc) ht (by simp[hn,<-hl,rv.length]) hst λh' hx=>?_;have I1:Inv X pins Y H { s with heap:=h' }:=I.kept (t':=s.toks) λb o e=>hx b o (fh (d7 e)) e;exact h pins _ Y H xs _ Q I1 (by simpa using rv) hw
def yG (to ti:TE)(t:rY):TG:=λv Y H Q=>to Y H λo H1=>ti Y H1 λi H2=>t o i v H2 λH3=>Q Y H3
theorem cQ {o i:gv}{to ti:TE}{t:rY}(ho:PE X o to)(hi:PE X i ti)(hs:yS X t)
  (ha:autoParam (∀v,assign (.Subscript o i pos) X.env v=(do
   let ov <-holding [v] (eval o X.env)
   let iv <-holding [v,ov] (eval i X.env)
   standAt pos
   holding [v,ov,iv] (setItem ov iv v)
   release [v,ov,iv] [])) QJ):PG X (.Subscript o i pos) (yG to ti t):=by
 intro pins s Y H v u Q I r h;rw[ha];refine wpAny_bind (wpAny_holding (thE ho I h λov s1 x H1 I1 r1 q1=>?_));refine wpAny_bind (wpAny_holding (thE hi I1 q1 λiv s2 y H2 I2 r2 q2=>?_));refine wpAny_bind (sv (wpAny_bind (wpAny_holding (thn (hs pins s2 Y H2 x y v ov iv u _ I2 r1 r2 r q2) λ_ s3 ⟨H3,I3,q3⟩=>?_))));exact wpAny_release ⟨Y,H3,I3,q3⟩
def gR (te:TE)(g:TG):TS:=λD Y H=>te Y H λx H1=>g x Y H1 D.nx
theorem cX {e:gv}{g:TG}(he:PE X e te)(hg:PG X tg g)(hs:autoParam (swapsWithSole [tg] e pos.line X.env=pure false) QD)(hw:autoParam (swappedStores [tg] e X.env=pure none) QD)
  (h1:autoParam ((assignEach [tg] X.env).map (·.2)=[assign tg X.env]) QD):PS X (.Assign [tg] e pos) (gR te g):=by
 k_end;refine wpAny_Assign_stores (thE he I h λv s1 x H1 I1 r1 q1=>?_) hs hw;rw[h1];exact thn (hg pins s1 Y H1 x v _ I1 r1 q1) λ_ s2 q=>q
theorem Vv {i:Nat}{x:Str}{e:gv}{pos':Pos}(hN:X.N.Nodup)(hi:X.N[i]?=some x)(hx:Loc X.env.scope x)(he:PE X e te)(hs:autoParam (swapsWith e (some (.Name x pos')) pos.line X.env=pure false) QD)(hf:autoParam (X.fn x=true\/X.env.scope.names.lookup x=some .local) QH) :
  PS X (.Assign [.Name x pos'] e pos) (gR te (Dy i)):=by
 k_end;refine wpAny_Assign_Name (thE he I h λv s1 y H1 I1 r1 q1=>?_) hs;exact Rb I1 hN hi hx r1 (λs2 I2=>⟨_,H1,I2,q1⟩) hf
def wH (i:Nat)(te:TE)(ti:TIp):TS:=λD Y H=>∃x,Y[i]?=some (some x)/\te Y H λy H1=>ti x y H1 λz H2=>D.nx (Y.set i (some z)) H2
theorem vB {i:Nat}{x:Str}{e:gv}{op:CZ}{ti:TIp}{pos':Pos}(hN:X.N.Nodup)(hi:X.N[i]?=some x)(hx:Loc X.env.scope x)(he:PE X e te)(ho:PIp X op ti)(hf:autoParam (X.fn x=true\/X.env.scope.names.lookup x=some .local) QH) :
  PS X (.AugAssign (.Name x pos') op e pos) (wH i te ti):=by
 k_end;obtain⟨v,e1,h⟩:=h;obtain⟨m,hn,hl⟩:=I.loc;have vis:Vis X.env.scope x:=by rcases hx with k|k;exact .inl k;exact .inr (.inl k)
 obtain⟨u,r,l⟩:=hl i x v hi e1 vis;refine wpAny_AugAssign_Name ?_;have go:wpAny (model X.prog X.w) X.A (eval e X.env) (λw QT=>wpAny (model X.prog X.w) X.A (inplaceOp op u w) (λr JI=>wpAny (model X.prog X.w) X.A (storeName X.env x r) (λ_=>SP X pins D .next) X.xe JI) X.xe QT) X.xe s:=by
  refine thE he I h λw s1 y H1 I1 r1 q1=>?_;refine thn (ho pins s1 Y H1 v y u w _ I1 r r1 q1) λz s2 ⟨zv,H2,I2,r2,q2⟩=>?_;exact Rb I2 hN hi hx r2 (λs3 I3=>⟨_,H2,I3,q2⟩) hf
 rcases l with⟨hk,hm⟩|⟨hk,c,hc,hcell⟩
 ·exact vm I.ok.kind hk hn hm go
 ·rcases hk with hk|hk
  ·exact DD I.ok.kind hk hc hcell go
  ·rcases hx with k|k
   ·have:X.env.scope.names.lookup x=some .free:=hk
    rw[k] at this;cases this
   ·have:X.env.scope.names.lookup x=some .free:=hk
    rw[k] at this;cases this
def ipI (f:Int->Int->Int):TIp:=λx y H Q=>∃i j,x=.int i/\y=.int j/\Q (.int (f i j)) H
theorem R0:PIp X .Add (ipI λi j=>i+j):=by
 intro pins s Y H x y v u Q I r1 r2 h;obtain⟨i,j,e1,e2,q⟩:=h;subst e1;subst e2;obtain⟨t,rfl⟩:=r1;obtain⟨t',rfl⟩:=r2;exact iadd_int ⟨.int _,H,I.tok _,⟨_,rfl⟩,q⟩
end
section
variable {X:Cx} {pos:Pos}
def pE (c:TT)(tb:TS):TS:=λD Y H=>∃W:Nat->St->Hp->Prop,(∃m,W m Y H)/\∀m Y H,W m Y H ->
 c Y H λb H1=>if b=true then ∃N:St->Hp->Prop,(∀mt H',N mt H'->∃m',m'<m/\W m' mt H')/\tb { D with nx:=N,ct:=N,bk:=D.nx } Y H1 else D.nx Y H1
theorem G2 {c:gv}{body:List im}{tc:TT}{tb:TS}(hp:FH (model X.prog X.w) X.A X.env X.xe)(hc:PT X c tc)(hb:PSs X body tb):PS X (.While c body [] pos) (pE tc tb):=by
 k_end;obtain⟨W,⟨m0,w0⟩,turn⟩:=h;refine wpAny_While (codeAny_whileLoop (λn s'=>∃mt H',Inv X pins mt H' s'/\W n mt H') ?_ m0 ⟨Y,H,I,w0⟩);rintro n s1 ⟨QW,H1,I1,w1⟩;refine wpAny_passesOwn hp (thn (hc pins s1 QW H1 _ I1 (turn n QW H1 w1)) λb s2 ⟨H2,I2,q2⟩=>?_)
 cases b with
 |true=>
  obtain⟨N,hN,q2⟩:=q2;rw[if_pos rfl];refine wpAny_passesOwn hp (thn (hb pins s2 QW H2 _ I2 q2) λf s3 q3=>?_)
  cases f with
  |next=>
   obtain⟨QR,H3,I3,n3⟩:=q3;obtain⟨m',hm,w3⟩:=hN QR H3 n3;exact⟨m',hm,QR,H3,I3,w3⟩
  |cont=>
   obtain⟨QR,H3,I3,n3⟩:=q3;obtain⟨m',hm,w3⟩:=hN QR H3 n3;exact⟨m',hm,QR,H3,I3,w3⟩
  |brk=>exact q3
  |ret v=>exact q3
 |false=>
  rw[if_neg fu];exact uk ⟨QW,H2,I2,q2⟩
end
structure It where
 go:Nat->Hp->Prop
 yld:Nat->Hp->V->Hp->Prop
 stop:Nat->Hp->Prop
def Li (X:Cx)(pins:Za1)(H:Hp)(b:de):Prop:=
 H b=none/\b≠X.env.locals/\b∉X.fs/\(b∈X.ex\/X.QN.heap.objs.size<=b)/\(∀x c,X.env.cells.lookup x=some c->c≠b)/\∀p∈X.pn++pins,p.1≠b
theorem Inv.fpOk {Y:St}{b:de}(I:Inv X pins Y H s)(hb:s.heap.objs.size<=b)(hn:H' b=none):Li X pins H' b:=by
 refine⟨hn,my (d8 I.lt hb),I.nofs hb,.inr (gm I.sz hb),λx c e z=>?_,λp hp z=>?_⟩
 ·obtain⟨v,q⟩:=I.cell x c e
  exact absurd (d8 q.lt (by rw[z];exact hb)) (lf _)
 ·exact absurd (d8 (d7 (I.pin p hp).1) (by rw[z];exact hb)) (lf _)
structure Mw (P:fi) (w:gl) (K:c7) (tg:gv) (J:It) (fp:List de) (it:de) (tn:Nat->iq->Prop):Prop where
 mem:it∈fp
 obj:∀i h,tn i h->∀b∈fp,∃o,h.get? b=some o/\∀v,o.data≠.cell v
 keep:∀i h h',tn i h->(∀b∈fp,∀o,h.get? b=some o->h'.get? b=some o)->tn i h'
 item:∀(X:Cx),X.prog=P->X.w=w->X.K=K->X.calm=true->∀(i:Nat) (pins:Za1) (s:dv) (Y:St) (H:Hp) (E:Za0),Inv X pins Y H s->(∀b∈fp,Li X pins H b)->tn i s.heap->J.go i H ->
  wpAny (model P w) X.A (pyNext (.ref it)) (λr s1=>∃u,r=some u /\
   wpAny (model P w) X.A (letOwnedTupleGo tg (.ref it) u) (λ_ s2=>∃x H',Inv X pins Y H' s2/\A8 x u/\J.yld i H x H'/\tn (i+1) s2.heap/\∀b∈fp,H' b=none) E s1) E s
 done:∀(X:Cx),X.prog=P->X.w=w->X.K=K->X.calm=true->∀(i:Nat) (pins:Za1) (s:dv) (Y:St) (H:Hp) (E:Za0),Inv X pins Y H s->(∀b∈fp,Li X pins H b)->tn i s.heap->J.stop i H ->
  wpAny (model P w) X.A (pyNext (.ref it)) (λr s1=>r=none/\Inv X pins Y H s1) E s
 self:∀(A:ic) (i:Nat) (s:dv) (Q:Za0) (E:Za0),tn i s.heap->Q (.ref it) s->wpAny (model P w) A (pyIter (.ref it)) Q E s
abbrev TI:=St->Hp->(It->Hp->Prop)->Prop
def PIE (X:Cx)(pins:Za1)(Y:St)(tg:gv)(R:It->Hp->Prop)(itv:dr)(s2:dv):Prop:=
 ∃(it:de) (fp:List de) (tn:Nat->iq->Prop) (J:It) (H':Hp),itv=.ref it/\Inv X pins Y H' s2/\Mw X.prog X.w X.K tg J fp it tn/\tn 0 s2.heap/\(∀b∈fp,Li X pins H' b)/\R J H'
def PI (X:Cx)(tg iter:gv)(wi:TI):Prop:=
 ∀(pins:Za1) (s:dv) (Y:St) (H:Hp) (R:It->Hp->Prop),Inv X pins Y H s->wi Y H R ->
  wpAny (model X.prog X.w) X.A (eval iter X.env) (λv s1=>wpAny (model X.prog X.w) X.A (pyIter v) (PIE X pins Y tg R) X.xe s1) X.xe s
theorem W5 {E:Za0}{u:dr}{o:Obj}{n:String}{vs:Array dr}{Q:Unit->dv->Prop}(ho:s.heap.get? it=some o)(hc:o.cls=.type n)(hd:o.data=.fields vs)
    (hn : ["enumerate", "zip", "dict_itemiterator", "dict_reverseitemiterator", "odict_iterator", "itertools.zip_longest", "itertools.pairwise"].contains n = false)(hQ : Q () s) : wpAny M A (letOwnedTupleGo tg (.ref it) u) Q E s := by
  unfold letOwnedTupleGo;cases tg <;> first
    | exact d4 hQ
    | (cases u <;> first
        | exact d4 hQ
        | (refine wpAny_bind (wpAny_load ho ?_)
           rw [hc, hd];show wpAny M A (if (["enumerate", "zip", "dict_itemiterator", "dict_reverseitemiterator", "odict_iterator", "itertools.zip_longest", "itertools.pairwise"].contains n && vs[0]? == some (rawInt _)) = true then _ else _) Q E s;rw [if_neg (by intro h; rw [hn, qw] at h; cases h)];exact d4 hQ))
def Itl (K:c7)(a:de):It:=
 ⟨λi H=>∃xs x,SqL K H a xs/\xs[i]?=some x,λi H x H'=>H'=H/\∀xs,SqL K H a xs->xs[i]?=some x,λi H=>∃xs,SqL K H a xs/\xs.length<=i⟩
def Itt (K:c7)(a:de):It:=
 ⟨λi H=>∃xs x,SqT K H a xs/\xs[i]?=some x,λi H x H'=>H'=H/\∀xs,SqT K H a xs->xs[i]?=some x,λi H=>∃xs,SqT K H a xs/\xs.length<=i⟩
def Itr (lo:Int)(n:Nat):It:=⟨λi _=>i<n,λi H x H'=>H'=H/\x=.int (lo+i),λi _=>n<=i⟩
theorem iQ {P:fi}{K:c7}(a it:de):Mw P w K tg (Itl K a) [it] it (λi h=>h.IsListIter it a i) where
 mem:=by simp
 obj:=λi h st b hb=>by
  have e:b=it:=by simpa using hb
  subst e;obtain⟨o,e,c,d⟩:=st;exact⟨o,e,λv z=>by rw[d] at z;cases z⟩
 keep:=λi h h' st k=>st.at λo e=>k it (by simp) o e
 item:=by
  intro X hP hw hK hc i pins s Y H E I hf st hg;subst hP hw hK;obtain⟨xs,x,hq,hx⟩:=hg;obtain⟨its,rv,p,hz⟩:=I.list hq;obtain⟨u,hu,ru⟩:=rv.get hx;obtain⟨f0,f1,f2,f3,f4,f5⟩:=hf it (by simp);refine AX st p.isList (x:=u) (by simpa using hu) λh' st' sb=>?_;have I1:Inv X pins Y H { s with heap:=h' }:=I.turned (t':=s.toks) (λb o hb e=>(sb.2 b hb).trans e) f0 f1 f3 f4 f5;obtain⟨o,e,c,d⟩:=id st';exact⟨u,rfl,W5 (s:={ s with heap:=h' }) e c d (by decide) ⟨x,H,I1,ru,⟨rfl,λys hy=>by rw[I.list_inj hy hq];exact hx⟩,st',λb hb=>(hf b hb).1⟩⟩
 done:=by
  intro X hP hw hK hc i pins s Y H E I hf st hg;subst hP hw hK;obtain⟨xs,hq,hx⟩:=hg;obtain⟨its,rv,p,hz⟩:=I.list hq;obtain⟨f0,f1,f2,f3,f4,f5⟩:=hf it (by simp);have hl:=rv.length;exact BV (I.ok.hd hc) st p.isList (by simp;lia) λh' eb=>⟨rfl,I.turned (t':=s.toks) (λb o hb e=>eb b o hb e) f0 f1 f3 f4 f5⟩
 self:=λ_ _ _ _ _ st h=>wpAny_pyIter_listiter st h
theorem Y1 {P:fi}{K:c7}(a it:de):Mw P w K tg (Itt K a) [it] it (λi h=>h.IsTupleIter it a i) where
 mem:=by simp
 obj:=λi h st b hb=>by
  have e:b=it:=by simpa using hb
  subst e;obtain⟨o,e,c,d⟩:=st;exact⟨o,e,λv z=>by rw[d] at z;cases z⟩
 keep:=λi h h' st k=>st.at λo e=>k it (by simp) o e
 item:=by
  intro X hP hw hK hc i pins s Y H E I hf st hg;subst hP hw hK;obtain⟨xs,x,hq,hx⟩:=hg;obtain⟨its,rv,p,hz⟩:=I.tuple hq;obtain⟨u,hu,ru⟩:=rv.get hx;obtain⟨f0,f1,f2,f3,f4,f5⟩:=hf it (by simp);refine wpAny_pyNext_tuple_item st (show s.heap.IsTuple a its.toArray from p) (x:=u) (by simpa using hu) λh' st' sb=>?_;have I1:Inv X pins Y H { s with heap:=h' }:=I.turned (t':=s.toks) (λb o hb e=>(sb.2 b hb).trans e) f0 f1 f3 f4 f5;obtain⟨o,e,c,d⟩:=id st';exact⟨u,rfl,W5 (s:={ s with heap:=h' }) e c d (by decide) ⟨x,H,I1,ru,⟨rfl,λys hy=>by rw[I.tuple_inj hy hq];exact hx⟩,st',λb hb=>(hf b hb).1⟩⟩
 done:=by
  intro X hP hw hK hc i pins s Y H E I hf st hg;subst hP hw hK;obtain⟨xs,hq,hx⟩:=hg;obtain⟨its,rv,p,hz⟩:=I.tuple hq;obtain⟨f0,f1,f2,f3,f4,f5⟩:=hf it (by simp);have hl:=rv.length;exact wpAny_pyNext_tuple_end (I.ok.hd hc) st (show s.heap.IsTuple a its.toArray from p) (by simp;lia) λh' eb=>⟨rfl,I.turned (t':=s.toks) (λb o hb e=>eb b o hb e) f0 f1 f3 f4 f5⟩
 self:=λ_ _ _ _ _ st h=>wpAny_pyIter_tupleiter st h
theorem Zp {P:fi}{K:c7}(it:de)(lo:Int)(n:Nat):Mw P w K tg (Itr lo n) [it] it (λi h=>yv h it (lo+(i:Nat)*1) ((n:Int)-(i:Nat)) 1) where
 mem:=by simp
 obj:=λi h st b hb=>by
  have e:b=it:=by simpa using hb
  subst e;exact⟨_,st,λv z=>by
   have z':z0 _=HJ v:=z;cases z'⟩
 keep:=λi h h' st k=>k it (by simp) _ st
 item:=by
  intro X hP hw hK hc i pins s Y H E I hf st hg;subst hP hw hK;obtain⟨f0,f1,f2,f3,f4,f5⟩:=hf it (by simp);have W:=EG (prog:=X.prog) (w:=X.w) (I.ok.hd hc) it lo 1 n;refine W.item i s _ _ hg st λv h' tk hv st' kk=>?_;obtain⟨t,rfl⟩:=hv;have I1:Inv X pins Y H { s with heap:=h',toks:=tk }:=I.turned (λb o hb e=>kk b o (by simpa using hb) e) f0 f1 f3 f4 f5;refine⟨_,rfl,W5 (s:={ s with heap:=h',toks:=tk }) (n:="range_iterator") st' rfl rfl (by decide) ⟨.int (lo+i),H,I1,⟨t,?_⟩,⟨rfl,rfl⟩,st',λb hb=>(hf b hb).1⟩⟩;rw[Int.mul_one]
 done:=by
  intro X hP hw hK hc i pins s Y H E I hf st hg;subst hP hw hK;obtain⟨f0,f1,f2,f3,f4,f5⟩:=hf it (by simp);exact AW (I.ok.hd hc) st (by have:n<=i:=hg;lia) λh' eb=>⟨rfl,I.turned (t':=s.toks) (λb o hb e=>eb b o hb e) f0 f1 f3 f4 f5⟩
 self:=λ_ _ _ _ _ st h=>AY st h
section
variable {X:Cx} {tg:gv}
def dC (K:c7)(tl:TE):TI:=λY H R=>tl Y H λx H1=>∃a,x=.ref a/\(∃xs,SqL K H1 a xs)/\R (Itl K a) H1
def xF (K:c7)(tl:TE):TI:=λY H R=>tl Y H λx H1=>∃a,x=.ref a/\(∃xs,SqT K H1 a xs)/\R (Itt K a) H1
theorem C2 {l:gv}{tl:TE}(hl:PE X l tl):PI X tg l (dC X.K tl):=by
 intro pins s Y H R I h;refine thE hl I h λv s1 x H1 I1 r1 q1=>?_;obtain⟨a,e,⟨xs,hq⟩,q⟩:=q1;subst e;cases r1;obtain⟨its,rv,p,hz⟩:=I1.list hq;refine xn p.isList ?_;refine⟨s1.heap.objs.size,[s1.heap.objs.size],_,_,H1,rfl,I1.kept (t':=s1.toks) λb o e=>dg _ e,iQ a _,⟨_,fv _ rfl,rfl,rfl⟩,λb hb=>?_,q⟩;have e:b=s1.heap.objs.size:=by simpa using hb
 subst e;exact I1.fpOk (c9 _) (I1.hok.fresh (c9 _))
theorem Z7 {l:gv}{tl:TE}(hl:PE X l tl):PI X tg l (xF X.K tl):=by
 intro pins s Y H R I h;refine thE hl I h λv s1 x H1 I1 r1 q1=>?_;obtain⟨a,e,⟨xs,hq⟩,q⟩:=q1;subst e;cases r1;obtain⟨its,rv,p,hz⟩:=I1.tuple hq;refine wpAny_pyIter_tuple (show s1.heap.IsTuple a its.toArray from p) ?_;refine⟨s1.heap.objs.size,[s1.heap.objs.size],_,_,H1,rfl,I1.kept (t':=s1.toks) λb o e=>dg _ e,Y1 a _,⟨_,fv _ rfl,rfl,rfl⟩,λb hb=>?_,q⟩;have e:b=s1.heap.objs.size:=by simpa using hb
 subst e;exact I1.fpOk (c9 _) (I1.hok.fresh (c9 _))
theorem Xf {Y:St}{R:It->Hp->Prop}{E:Za0}{lo hi:Int}{t u v:Tok}{tk:Nat}(I:Inv X pins Y H s)(h1:-(2 ^ 62)<=lo)(h2:lo<2 ^ 62)(h3:-(2 ^ 62)<=hi)(h4:hi<2 ^ 62)
  (q:R (Itr lo (hi-lo).toNat) H):wpAny (model X.prog X.w) X.A (pyIter (.ref s.heap.objs.size)) (PIE X pins Y tg R) E { s with heap:=s.heap.push { cls:=.type "range",data:=.fields #[.int lo t,.int hi u,.int 1 v] },toks:=tk }:=by
 refine DO (y0 ..) (small_one h1 h2 h3 h4) ?_;have I1:Inv X pins Y H { s with heap:=s.heap.push { cls:=.type "range",data:=.fields #[.int lo t,.int hi u,.int 1 v] },toks:=tk }:=I.kept λb o e=>dg _ e;refine⟨(s.heap.push { cls:=.type "range",data:=.fields #[.int lo t,.int hi u,.int 1 v] }).objs.size,[(s.heap.push { cls:=.type "range",data:=.fields #[.int lo t,.int hi u,.int 1 v] }).objs.size],_,_,H,rfl,
  I1.kept (t':=tk) λb o e=>dg _ e,Zp _ lo (hi-lo).toNat,?_,λb hb=>?_,q⟩
 ·have e1:lo+((0:Nat):Int)*1=lo:=by simp
  have e2:(((hi-lo).toNat:Nat):Int)-((0:Nat):Int)=ji lo hi 1:=by rw[HN];split<;>lia
  show yv _ _ (lo+((0:Nat):Int)*1) ((((hi-lo).toNat:Nat):Int)-((0:Nat):Int)) 1;rw[e1,e2];exact fv _ rfl
 ·have e:b=(s.heap.push { cls:=.type "range",data:=.fields #[.int lo t,.int hi u,.int 1 v] }).objs.size:=by simpa using hb
  subst e;exact I1.fpOk (c9 _) (I1.hok.fresh (c9 _))
def tU (ta:TA):TI:=λY H R=>ta Y H λvs H1=>∃j:Int,vs=[.int j]/\-(2 ^ 62)<=j/\j<2 ^ 62/\R (Itr 0 j.toNat) H1
def tZ (ta:TA):TI:=λY H R=>ta Y H λvs H1=>∃i j:Int,vs=[.int i,.int j]/\(-(2 ^ 62)<=i/\i<2 ^ 62/\-(2 ^ 62)<=j/\j<2 ^ 62)/\R (Itr i (j-i).toNat) H1
theorem De {a:gv}{ta:TA}{p:Pos}(hg:Gl X "range")(hm:X.mg "range"=none)(ha:PA X [a] ta)(hs:autoParam (starEach [a] X.env=[(false,eval a X.env)]) QD):PI X tg (.Call (.Name "range" p) [a] [] pos) (tU ta):=by
 intro pins s Y H R I h;refine Call_ (Dv I hg hm boot_range (gp (thA ha I h λus s1 vs H1 I1 r1 q1=>?_) hs rfl));obtain⟨j,e,q1,q2,q⟩:=q1;subst e
 cases r1 with
 |cons r rr=>
  cases rr;obtain⟨t,rfl⟩:=r;exact IK (Xf I1 (by lia) (by lia) q1 q2 (by simpa using q))
theorem iU {a b:gv}{ta:TA}{p:Pos}(hg:Gl X "range")(hm:X.mg "range"=none)(ha:PA X [a,b] ta)(hs:autoParam (starEach [a,b] X.env=[(false,eval a X.env),(false,eval b X.env)]) QD)(hs2:autoParam (starEach [b] X.env=[(false,eval b X.env)]) QD) :
  PI X tg (.Call (.Name "range" p) [a,b] [] pos) (tZ ta):=by
 intro pins s Y H R I h;refine Call_ (Dv I hg hm boot_range (gp (thA ha I h λus s1 vs H1 I1 r1 q1=>?_) (by rw[hs,hs2]) (by rw[hs2];rfl)));obtain⟨i,j,e,⟨q1,q2,q3,q4⟩,q⟩:=q1;subst e
 cases r1 with
 |cons r rr=>
  cases rr with
  |cons r' rr=>
   cases rr;obtain⟨t,rfl⟩:=r;obtain⟨t',rfl⟩:=r';exact call_range_2 (Xf I1 q1 q2 q3 q4 q)
def wE (wi:TI)(g:TG)(tb:TS):TS:=λD Y H=>wi Y H λJ H1=>∃W:Nat->Nat->St->Hp->Prop,(∃m,W 0 m Y H1)/\∀i m Y H,W i m Y H ->
 (J.stop i H/\D.nx Y H)\/(J.go i H/\∃N:St->Hp->Prop,(∀mt H',N mt H'->∃m',m'<m/\W (i+1) m' mt H')/\∀x H',J.yld i H x H'->g x Y H' λQP H2=>tb { D with nx:=N,ct:=N,bk:=D.nx } QP H2)
def Mu (fp:List de)(h:iq):Za1:=fp.filterMap λb=>(h.get? b).map λo=>(b,o)
theorem Es {b:de}{o:Obj}(hb:b∈fp)(e:h.get? b=some o):(b,o)∈Mu fp h:=AQ.mpr ⟨b,hb,by rw[e];rfl⟩
theorem gJ {p:de×Obj}(hp:p∈Mu fp h):p.1∈fp/\h.get? p.1=some p.2:=by
 obtain⟨b,hb,e⟩:=AQ.mp hp
 cases q:h.get? b with
 |none=>rw[q] at e;cases e
 |some o=>
  rw[q] at e;have e':(b,o)=p:=dh e;subst e';exact⟨hb,q⟩
theorem Inv.pinned {Y:St}(I:Inv X pins Y H s)(hf:∀b∈fp,Li X pins H b)(ho:∀b∈fp,∃o,s.heap.get? b=some o/\∀v,o.data≠.cell v):Inv X (pins++Mu fp s.heap) Y H s:=
 I.pins_of λp hp=>(f8.mp hp).elim (λz=>I.pin p (fk _ z)) λz=>by
  obtain⟨hb,e⟩:=gJ z;obtain⟨f0,f1,f2,_⟩:=hf p.1 hb;obtain⟨o,e',d⟩:=ho p.1 hb;rw[e] at e';cases e';exact⟨e,f0,f1,f2,d⟩
theorem Inv.unpinned {pl:Za1}{Y:St}(I:Inv X (pins++pl) Y H s):Inv X pins Y H s:=I.pins_of λp hp=>I.pin p (fk _ (jr _ hp))
theorem Cl {body:List im}{g:TG}{tb:TS}(hp:FH (model X.prog X.w) X.A X.env X.xe)(hc:X.calm=true)(hi:PI X tg iter wi)(hg:PG X tg g)(hb:PSs X body tb)
  (hs:autoParam (∀x,foldedSetIterable iter X.env x=pure x) QJ):PS X (.For tg iter body [] pos) (wE wi g tb):=by
 k_end;refine wpAny_For (thn (hi pins s Y H _ I h) λv s1 h1=>thn h1 λitv s2 h2=>?_) hs;obtain⟨it,fp,tn,J,H2,e,I2,T,st2,f2,W,⟨m0,w0⟩,turn⟩:=h2;subst e
 -- what stays true of the iterator's objects through the loop
 have stat:∀{H':Hp},(∀b∈fp,H' b=none)->∀b∈fp,Li X pins H' b:=λhn b hb=>⟨hn b hb,(f2 b hb).2⟩;refine codeAny_forLoop_any (λn s'=>∃i mt H',Inv X pins mt H' s'/\tn i s'.heap/\(∀b∈fp,H' b=none)/\W i n mt H') ?_ m0 ⟨0,Y,H2,I2,st2,λb hb=>(f2 b hb).1,w0⟩;rintro n s3 ⟨i,QR,H3,I3,st3,fr3,w3⟩;rcases turn i n QR H3 w3 with⟨stop,qn⟩|⟨go,N,hN,step⟩
 ·refine wpAny_passesOwn hp (thn (T.done X rfl rfl rfl hc i pins s3 QR H3 X.xe I3 (stat fr3) st3 stop) λr s4 ⟨hr,I4⟩=>?_)
  subst hr;exact uk ⟨QR,H3,I4,qn⟩
 ·refine wpAny_passesOwn hp (thn (T.item X rfl rfl rfl hc i pins s3 QR H3 X.xe I3 (stat fr3) st3 go) λr s4 ⟨u,hr,h4⟩=>?_)
  subst hr;refine wpAny_passesOwn hp (thn h4 λ_ s5 ⟨x,H5,I5,r5,y5,st5,fr5⟩=>?_);have I5':=I5.pinned (stat fr5) (T.obj _ _ st5);refine wpAny_passesOwn hp (thn (hg _ s5 QR H5 x u _ I5' r5 (step x H5 y5)) λ_ s6 ⟨σ6,H6,I6,q6⟩=>?_);refine wpAny_passesOwn hp (thn (hb _ s6 σ6 H6 _ I6 q6) λf s7 q7=>?_);have again:∀{QS:St} {H7:Hp},Inv X (pins++Mu fp s5.heap) QS H7 s7->N QS H7->∃m,m<n/\∃i mt H',Inv X pins mt H' s7/\tn i s7.heap/\(∀b∈fp,H' b=none)/\W i m mt H':=λ{QS H7} I7 n7=>by
   obtain⟨m',hm,w7⟩:=hN QS H7 n7;refine⟨m',hm,i+1,QS,H7,I7.unpinned,T.keep _ _ _ st5 λb hb o e=>(I7.pin (b,o) (fk _ (fk _ (Es hb e)))).1,λb hb=>?_,w7⟩;obtain⟨o,e,d⟩:=T.obj _ _ st5 b hb;exact(I7.pin (b,o) (fk _ (fk _ (Es hb e)))).2.1
  cases f with
  |next=>obtain⟨QS,H7,I7,n7⟩:=q7;exact again I7 n7
  |cont=>obtain⟨QS,H7,I7,n7⟩:=q7;exact again I7 n7
  |brk=>obtain⟨QS,H7,I7,q7⟩:=q7;exact⟨QS,H7,I7.unpinned,q7⟩
  |ret v=>obtain⟨x7,QS,H7,I7,r7,q7⟩:=q7;exact⟨x7,QS,H7,I7.unpinned,r7,q7⟩
end
theorem G7 {K:c7}{a:de}{g:TG}{tb:TS}{Y:St}(Pv:Nat->St->Hp->Prop)(h0:Pv 0 Y H)(hl:∀i Y H,i<=xs.length->Pv i Y H->SqL K H a xs)
  (hs:∀i x Y H,xs[i]?=some x->Pv i Y H->g x Y H λQP H2=>tb { D with nx:=Pv (i+1),ct:=Pv (i+1),bk:=D.nx } QP H2)(hd:∀Y H,Pv xs.length Y H->D.nx Y H) :
  ∃W:Nat->Nat->St->Hp->Prop,(∃m,W 0 m Y H)/\∀i m Y H,W i m Y H ->
   ((Itl K a).stop i H/\D.nx Y H)\/((Itl K a).go i H/\∃N:St->Hp->Prop,(∀mt H',N mt H'->∃m',m'<m/\W (i+1) m' mt H')/\∀x H',(Itl K a).yld i H x H'->g x Y H' λQP H2=>tb { D with nx:=N,ct:=N,bk:=D.nx } QP H2):=by
 refine⟨λi m Y H=>m=xs.length-i/\i<=xs.length/\Pv i Y H,⟨xs.length,by simp,fq _,h0⟩,?_⟩;rintro i m Y H ⟨rfl,hi,p⟩;have q:=hl i Y H hi p
 by_cases hlt:i<xs.length
 ·refine .inr ⟨⟨xs,xs[i],q,by simp[hlt]⟩,Pv (i+1),λmt H' p'=>⟨xs.length-(i+1),by lia,rfl,hlt,p'⟩,λx H' y=>?_⟩
  obtain⟨e,y⟩:=y;subst e;exact hs i x Y _ (y xs q) p
 ·have e:i=xs.length:=by lia
  subst e;exact .inl ⟨⟨xs,q,c9 _⟩,hd Y H p⟩
theorem qE {K:c7}{a:de}{g:TG}{tb:TS}{Y:St}(Pv:Nat->St->Hp->Prop)(h0:Pv 0 Y H)(hl:∀i Y H,i<=xs.length->Pv i Y H->SqT K H a xs)
  (hs:∀i x Y H,xs[i]?=some x->Pv i Y H->g x Y H λQP H2=>tb { D with nx:=Pv (i+1),ct:=Pv (i+1),bk:=D.nx } QP H2)(hd:∀Y H,Pv xs.length Y H->D.nx Y H) :
  ∃W:Nat->Nat->St->Hp->Prop,(∃m,W 0 m Y H)/\∀i m Y H,W i m Y H ->
   ((Itt K a).stop i H/\D.nx Y H)\/((Itt K a).go i H/\∃N:St->Hp->Prop,(∀mt H',N mt H'->∃m',m'<m/\W (i+1) m' mt H')/\∀x H',(Itt K a).yld i H x H'->g x Y H' λQP H2=>tb { D with nx:=N,ct:=N,bk:=D.nx } QP H2):=by
 refine⟨λi m Y H=>m=xs.length-i/\i<=xs.length/\Pv i Y H,⟨xs.length,by simp,fq _,h0⟩,?_⟩;rintro i m Y H ⟨rfl,hi,p⟩;have q:=hl i Y H hi p
 by_cases hlt:i<xs.length
 ·refine .inr ⟨⟨xs,xs[i],q,by simp[hlt]⟩,Pv (i+1),λmt H' p'=>⟨xs.length-(i+1),by lia,rfl,hlt,p'⟩,λx H' y=>?_⟩
  obtain⟨e,y⟩:=y;subst e;exact hs i x Y _ (y xs q) p
 ·have e:i=xs.length:=by lia
  subst e;exact .inl ⟨⟨xs,q,c9 _⟩,hd Y H p⟩
theorem Gu {lo:Int}{g:TG}{tb:TS}{Y:St}(Pv:Nat->St->Hp->Prop)(h0:Pv 0 Y H)
  (hs:∀i Y H,i<n->Pv i Y H->g (.int (lo+i)) Y H λQP H2=>tb { D with nx:=Pv (i+1),ct:=Pv (i+1),bk:=D.nx } QP H2)(hd:∀Y H,Pv n Y H->D.nx Y H) :
  ∃W:Nat->Nat->St->Hp->Prop,(∃m,W 0 m Y H)/\∀i m Y H,W i m Y H ->
   ((Itr lo n).stop i H/\D.nx Y H)\/((Itr lo n).go i H/\∃N:St->Hp->Prop,(∀mt H',N mt H'->∃m',m'<m/\W (i+1) m' mt H')/\∀x H',(Itr lo n).yld i H x H'->g x Y H' λQP H2=>tb { D with nx:=N,ct:=N,bk:=D.nx } QP H2):=by
 refine⟨λi m Y H=>m=n-i/\i<=n/\Pv i Y H,⟨n,by simp,fq _,h0⟩,?_⟩;rintro i m Y H ⟨rfl,hi,p⟩
 by_cases hlt:i<n
 ·refine .inr ⟨hlt,Pv (i+1),λmt H' p'=>⟨n-(i+1),by lia,rfl,hlt,p'⟩,λx H' y=>?_⟩
  obtain⟨e,y⟩:=y;subst e y;exact hs i Y _ hlt p
 ·have e:i=n:=by lia
  subst e;exact .inl ⟨c9 _,hd Y H p⟩
abbrev R2:=V->V->Hp->VK->Prop
def OpR (X:Cx)(f:dr->dr->Sem dr)(r:R2):Prop:=
 ∀(pins:Za1) (s:dv) (Y:St) (H:Hp) (x y:V) (v u:dr) (Q:VK),Inv X pins Y H s->A8 x v->A8 y u->r x y H Q ->
  wpAny (model X.prog X.w) X.A (f v u) (EP X pins Y Q) X.xe s
def UnR (X:Cx)(f:dr->Sem dr)(r:V->Hp->VK->Prop):Prop:=
 ∀(pins:Za1) (s:dv) (Y:St) (H:Hp) (x:V) (v:dr) (Q:VK),Inv X pins Y H s->A8 x v->r x H Q ->
  wpAny (model X.prog X.w) X.A (f v) (EP X pins Y Q) X.xe s
def Ec (X:Cx)(f:dr)(r:List V->Hp->VK->Prop):Prop:=
 ∀(pins:Za1) (s:dv) (Y:St) (H:Hp) (xs:List V) (us:Za3) (Q:VK),Inv X pins Y H s->Au xs us->r xs H Q ->
  wpAny (model X.prog X.w) X.A (call f us) (EP X pins Y Q) X.xe s
def tOp (r:R2)(ta tb:TE):TE:=λY H Q=>ta Y H λx H1=>tb Y H1 λy H2=>r x y H2 Q
def tUn (r:V->Hp->VK->Prop)(ta:TE):TE:=λY H Q=>ta Y H λx H1=>r x H1 Q
def rI (C:Int->Int->Prop)(g:Int->Int->V):R2:=λx y H Q=>∃i j,x=.int i/\y=.int j/\C i j/\Q (g i j) H
def rI0 (g:Int->Int->V):R2:=λx y H Q=>∃i j,x=.int i/\y=.int j/\Q (g i j) H
def rU (g:Int->V):V->Hp->VK->Prop:=λx H Q=>∃i,x=.int i/\Q (g i) H
section
variable {X:Cx} {a b c:gv} {ta tb tc:TE} {pos:Pos}
theorem uO (ha:PE X a ta)(hb:PE X b tb){Y:St}{R:V->V->Hp->Prop}(I:Inv X pins Y H s)
  (h:ta Y H λx H1=>tb Y H1 λy H2=>R x y H2){Q:Za0}{f:dr->dr->Sem dr}
  (hf:∀v u s2 x y H2,Inv X pins Y H2 s2->A8 x v->A8 y u->R x y H2->wpAny (model X.prog X.w) X.A (f v u) Q X.xe s2) :
  wpAny (model X.prog X.w) X.A (eval a X.env) (λv QM=>wpAny (model X.prog X.w) X.A (eval b X.env) (λu QT=>wpAny (model X.prog X.w) X.A (f v u) Q X.xe QT) X.xe QM) X.xe s:=by
 refine thE ha I h λv s1 x H1 I1 r1 q1=>?_;refine thE hb I1 q1 λu s2 y H2 I2 r2 q2=>?_;exact hf v u s2 x y H2 I2 r1 r2 q2
theorem An {op:CZ}{r:R2}(ho:OpR X (binaryOp op) r)(ha:PE X a ta)(hb:PE X b tb):PE X (.BinOp a op b pos) (tOp r ta tb):=by
 k_in;exact wpAny_BinOp (uO ha hb I h λv u s2 x y H2 I2 rx ry q=>ho pins s2 Y H2 x y v u Q I2 rx ry q)
theorem Di {op:UnaryOp}{r:V->Hp->VK->Prop}(ho:UnR X (unaryOp op) r)(ha:PE X a ta):PE X (.UnaryOp op a pos) (tUn r ta):=by
 k_in;exact UnaryOp_ (thE ha I h λv s1 x H1 I1 r1 q1=>ho pins s1 Y H1 x v Q I1 r1 q1)
theorem opI {f:dr->dr->Sem dr}{C:Int->Int->Prop}{g:Int->Int->Int}
  (rule:∀(i j:Int) (t u:Tok) (s:dv) (Q:Za0) (E:Za0),C i j->Q (.int (g i j) s.toks) { s with toks:=s.toks+1 }->wpAny (model X.prog X.w) X.A (f (.int i t) (.int j u)) Q E s) :
  OpR X f (rI C λi j=>.int (g i j)):=by
 intro pins s Y H x y v u Q I rx ry h;obtain⟨i,j,rfl,rfl,hc,q⟩:=h;obtain⟨t,rfl⟩:=rx;obtain⟨t',rfl⟩:=ry;exact rule i j t t' s _ _ hc ⟨.int (g i j),H,I.tok _,⟨_,rfl⟩,q⟩
theorem wC {f:dr->dr->Sem dr}{g:Int->Int->Int}
  (rule:∀(i j:Int) (t u:Tok) (s:dv) (Q:Za0) (E:Za0),Q (.int (g i j) s.toks) { s with toks:=s.toks+1 }->wpAny (model X.prog X.w) X.A (f (.int i t) (.int j u)) Q E s) :
  OpR X f (rI0 λi j=>.int (g i j)):=by
 intro pins s Y H x y v u Q I rx ry h;obtain⟨i,j,rfl,rfl,q⟩:=h;obtain⟨t,rfl⟩:=rx;obtain⟨t',rfl⟩:=ry;exact rule i j t t' s _ _ ⟨.int (g i j),H,I.tok _,⟨_,rfl⟩,q⟩
theorem uT {f:dr->dr->Sem dr}{g:Int->Int->Bool}
  (rule:∀(i j:Int) (t u:Tok) (s:dv) (Q:Za0) (E:Za0),Q (.bool (g i j)) s->wpAny (model X.prog X.w) X.A (f (.int i t) (.int j u)) Q E s) :
  OpR X f (rI0 λi j=>.bl (g i j)):=by
 intro pins s Y H x y v u Q I rx ry h;obtain⟨i,j,rfl,rfl,q⟩:=h;obtain⟨t,rfl⟩:=rx;obtain⟨t',rfl⟩:=ry;exact rule i j t t' s _ _ ⟨.bl (g i j),H,I,rfl,q⟩
def yP (i j:Int):Prop:=0<j/\j<1073741824
def Aa4 (i j:Int):Prop:=0<=j/\j<=1000000/\i.natAbs<2 ^ 64
def nS (i j:Int):Prop:=(-(2 ^ 64)<i/\i<2 ^ 64)\/(-(2 ^ 64)<j/\j<2 ^ 64)
theorem nS.ok {i j:Int}(h:nS i j):IntMulOk i j:=by
 rcases h with⟨h1,h2⟩|⟨h1,h2⟩
 ·exact .of_left (HQ h1 h2)
 ·exact .of_right (HQ h1 h2)
theorem O6 (k:Nat):(0:Int)<=2 ^ k:=by
 rw[two_pow_cast];exact jp _
theorem B6:OpR X (binaryOp .Add) (rI0 λi j=>.int (i+j)):=wC λ_ _ _ _ _ _ _ q=>add_int q
theorem D1:OpR X (binaryOp .Sub) (rI0 λi j=>.int (i-j)):=wC λ_ _ _ _ _ _ _ q=>sub_int q
theorem Eo:OpR X (binaryOp .Mult) (rI nS λi j=>.int (i*j)):=opI λ_ _ _ _ _ _ _ hc q=>mul_int q hc.ok
theorem Ew:OpR X (binaryOp .FloorDiv) (rI yP λi j=>.int (i/j)):=opI λi j _ _ _ _ _ hc q=>by
 have h1:(0:Int)<j:=hc.1;have h2:j<1073741824:=hc.2;exact floordiv_int (by lia) (by rw[q0 i (by lia)];exact q) (.inl (rj (by lia)))
theorem Cz:OpR X (binaryOp .Mod) (rI (λ_ j=>0<j) λi j=>.int (i%j)):=opI λi j _ _ _ _ _ hc q=>by
 have h1:(0:Int)<j:=hc;exact mod_int' (by lia) (by rw[Int.fmod_eq_emod_of_nonneg i (by lia)];exact q)
theorem vS:OpR X (binaryOp .LShift) (rI Aa4 λi j=>.int (i*2 ^ j.toNat)):=opI λ_ _ _ _ _ _ _ hc q=>lshift_int_small hc.1 hc.2.1 hc.2.2 q
theorem uR:OpR X (binaryOp .RShift) (rI (λ_ j=>0<=j) λi j=>.int (i/2 ^ j.toNat)):=opI λi j _ _ _ _ _ hc q=>
 rshift_int hc (by rw[q0 i (O6 _)];exact q)
theorem Y3:OpR X (binaryOp .BitAnd) (rI0 λi j=>.int (lj i j)):=wC λ_ _ _ _ _ _ _ q=>and_int q
theorem rG:OpR X (inplaceOp .RShift) (rI (λ_ j=>0<=j) λi j=>.int (i/2 ^ j.toNat)):=opI λi j _ _ _ _ _ hc q=>
 irshift_int hc (by rw[q0 i (O6 _)];exact q)
theorem unI {f:dr->Sem dr}{g:Int->Int}
  (rule:∀(i:Int) (t:Tok) (s:dv) (Q:Za0) (E:Za0),Q (.int (g i) s.toks) { s with toks:=s.toks+1 }->wpAny (model X.prog X.w) X.A (f (.int i t)) Q E s) :
  UnR X f (rU λi=>.int (g i)):=by
 intro pins s Y H x v Q I rx h;obtain⟨i,rfl,q⟩:=h;obtain⟨t,rfl⟩:=rx;exact rule i t s _ _ ⟨.int (g i),H,I.tok _,⟨_,rfl⟩,q⟩
theorem Cb:UnR X (unaryOp .USub) (rU λi=>.int (-i)):=unI λ_ _ _ _ _ q=>neg_int q
end
def kZ:V->V->Bool
 |.non,.non=>true|.non,.int _=>true|.int _,.non=>true|.non,.bl _=>true|.bl _,.non=>true|.non,.str _=>true|.str _,.non=>true
 |.int _,.int _=>true|.bl _,.bl _=>true|.str _,.str _=>true|.byt _,.byt _=>true
 |.int _,.str _=>true|.str _,.int _=>true|.bl _,.str _=>true|.str _,.bl _=>true
 |_,_=>false
def rEq:R2:=λx y H Q=>kZ x y=true/\Q (.bl (decide (x=y))) H
def rNe:R2:=λx y H Q=>kZ x y=true/\Q (.bl (!decide (x=y))) H
theorem fG {i j:Int}:decide (V.int i=V.int j)=(i==j):=by
 rw[tx];simp
theorem oW {i j:Bool}:decide (V.bl i=V.bl j)=(i==j):=by
 rw[tx];simp
theorem fR {i j:Str}:decide (V.str i=V.str j)=(i==j):=by
 rw[tx];simp
theorem fT {i j:Array UInt8}:decide (V.byt i=V.byt j)=(i.toList==j.toList):=by
 rw[tx];cases i;cases j;simp
section
variable {X:Cx} {a b c:gv} {ta tb tc:TE} {pos:Pos}
theorem Be {Y:St}{Q:VK}{k k':Bool}(I:Inv X pins Y H s)(q:Q (.bl k) H)(e:k=k'):EP X pins Y Q (.bool k') s:=by
 subst e;exact⟨.bl k,H,I,rfl,q⟩
theorem Ig:OpR X (compareOp .Eq) rEq:=by
 intro pins s Y H x y v u Q I rx ry h;obtain⟨hs,q⟩:=h
 cases x with
 |non=>
  cases rx
  cases y with
  |non=>cases ry;exact GF (Be I q (by simp))
  |bl j=>cases ry;exact GH (Be I q (by simp))
  |int j=>obtain⟨t',rfl⟩:=ry;exact GG (Be I q (by simp))
  |str j=>obtain⟨t',rfl⟩:=ry;exact GE (Be I q (by simp))
  |_=>exact absurd (show false=true from hs) fu
 |bl i=>
  cases rx
  cases y with
  |non=>cases ry;exact GJ (Be I q (by simp))
  |bl j=>cases ry;exact eq_bool (Be I q oW)
  |str j=>obtain⟨t',rfl⟩:=ry;exact FG (Be I q (by simp))
  |_=>exact absurd (show false=true from hs) fu
 |int i=>
  obtain⟨t,rfl⟩:=rx
  cases y with
  |non=>cases ry;exact GI (Be I q (by simp))
  |int j=>obtain⟨t',rfl⟩:=ry;exact eq_int (Be I q fG)
  |str j=>obtain⟨t',rfl⟩:=ry;exact FF (Be I q (by simp))
  |_=>exact absurd (show false=true from hs) fu
 |str i=>
  obtain⟨t,rfl⟩:=rx
  cases y with
  |non=>cases ry;exact GC (Be I q (by simp))
  |bl j=>cases ry;exact FE (Be I q (by simp))
  |int j=>obtain⟨t',rfl⟩:=ry;exact FC (Be I q (by simp))
  |str j=>obtain⟨t',rfl⟩:=ry;exact eq_str (Be I q fR)
  |_=>exact absurd (show false=true from hs) fu
 |byt i=>
  obtain⟨t,rfl⟩:=rx
  cases y with
  |byt j=>obtain⟨t',rfl⟩:=ry;exact PySem.W.eq_bytes (Be I q fT)
  |_=>exact absurd (show false=true from hs) fu
 |_=>cases y<;>exact absurd (show false=true from hs) fu
theorem O7:OpR X (compareOp .NotEq) rNe:=by
 intro pins s Y H x y v u Q I rx ry h;obtain⟨hs,q⟩:=h
 cases x with
 |non=>
  cases rx
  cases y with
  |non=>cases ry;exact FX (Be I q (by simp))
  |bl j=>cases ry;exact FZ (Be I q (by simp))
  |int j=>obtain⟨t',rfl⟩:=ry;exact FY (Be I q (by simp))
  |str j=>obtain⟨t',rfl⟩:=ry;exact FW (Be I q (by simp))
  |_=>exact absurd (show false=true from hs) fu
 |bl i=>
  cases rx
  cases y with
  |non=>cases ry;exact GB (Be I q (by simp))
  |bl j=>cases ry;exact ne_bool (Be I q (congrArg not oW))
  |str j=>obtain⟨t',rfl⟩:=ry;exact FB (Be I q (by simp))
  |_=>exact absurd (show false=true from hs) fu
 |int i=>
  obtain⟨t,rfl⟩:=rx
  cases y with
  |non=>cases ry;exact GA (Be I q (by simp))
  |int j=>obtain⟨t',rfl⟩:=ry;exact ne_int (Be I q (congrArg not fG))
  |str j=>obtain⟨t',rfl⟩:=ry;exact FA (Be I q (by simp))
  |_=>exact absurd (show false=true from hs) fu
 |str i=>
  obtain⟨t,rfl⟩:=rx
  cases y with
  |non=>cases ry;exact FV (Be I q (by simp))
  |bl j=>cases ry;exact EZ (Be I q (by simp))
  |int j=>obtain⟨t',rfl⟩:=ry;exact EY (Be I q (by simp))
  |str j=>obtain⟨t',rfl⟩:=ry;exact ne_str (Be I q (congrArg not fR))
  |_=>exact absurd (show false=true from hs) fu
 |byt i=>
  obtain⟨t,rfl⟩:=rx
  cases y with
  |byt j=>obtain⟨t',rfl⟩:=ry;exact PySem.W.ne_bytes (Be I q (congrArg not fT))
  |_=>exact absurd (show false=true from hs) fu
 |_=>cases y<;>exact absurd (show false=true from hs) fu
theorem mT:OpR X (compareOp .Lt) (rI0 λi j=>.bl (decide (i<j))):=uT λ_ _ _ _ _ _ _ q=>lt_int q
theorem sU:OpR X (compareOp .LtE) (rI0 λi j=>.bl (decide (i<=j))):=uT λ_ _ _ _ _ _ _ q=>le_int q
theorem Hb:OpR X (compareOp .Gt) (rI0 λi j=>.bl (decide (j<i))):=uT λ_ _ _ _ _ _ _ q=>gt_int q
theorem gF:OpR X (compareOp .In) (λx y H Q=>∃i j,x=.str i/\y=.str j/\Q (.bl (!(j5 j i 0 j.length 1).isEmpty)) H):=by
 intro pins s Y H x y v u Q I rx ry h;obtain⟨i,j,rfl,rfl,q⟩:=h;obtain⟨t,rfl⟩:=rx;obtain⟨t',rfl⟩:=ry;exact in_str (Be I q rfl)
theorem lY (b:gv)(h:autoParam (op≠.In) QF)(h2:autoParam (op≠.NotIn) QF):behindInMarks op b=false:=by
 have e1:(op==HK)=false:=by cases op<;>first|rfl|exact absurd rfl h
 have e2:(op==ES)=false:=by cases op<;>first|rfl|exact absurd rfl h2
 cases b<;>simp[behindInMarks,e1,e2]
theorem eM {r:R2}(ho:OpR X (compareOp op) r)(ha:PE X a ta)(hb:PE X b tb)(hm:behindInMarks op b=false):PE X (.Compare a [op] [b] pos) (tOp r ta tb):=by
 k_in;exact wpAny_Compare1 (uO ha hb I h λv u s2 x y H2 I2 rx ry q=>ho pins s2 Y H2 x y v u Q I2 rx ry q) hm
def pJ (t:TE):TT:=λY H Q=>t Y H λx H'=>∃k,x=.bl k/\Q k H'
theorem Ol {r:R2}(ho:OpR X (compareOp op) r)(ha:PE X a ta)(hb:PE X b tb)(hm:behindInMarks op b=false):PT X (.Compare a [op] [b] pos) (pJ (tOp r ta tb)):=by
 k_in;refine wpAny_isTrue_Compare1 (thE ha I h λv s1 x H1 I1 r1 q1=>thE hb I1 q1 λu s2 y H2 I2 r2 q2=>
  thn (ho pins s2 Y H2 x y v u _ I2 r1 r2 q2) λc s3 ⟨z,H3,I3,r3,k,e,q3⟩=>?_) hm
 subst e;cases r3;exact ll ⟨H3,I3,q3⟩
def pB (r r':R2)(ta tb tc:TE):TE:=λY H Q=>ta Y H λx H1=>tb Y H1 λy H2=>r x y H2 λz H3=>∃k,z=.bl k /\
 (if k=true then tc Y H3 λw' H4=>r' y w' H4 Q else Q (.bl false) H3)
theorem nO {op':vv}{r r':R2}(ho:OpR X (compareOp op) r)(ho':OpR X (compareOp op') r')(ha:PE X a ta)(hb:PE X b tb)(hc:PE X c tc)
  (hm:lastMarks [op,op'] [b,c]=false:=by with_unfolding_all rfl):PE X (.Compare a [op,op'] [b,c] pos) (pB r r' ta tb tc):=by
 k_in;refine Compare_chain (thE ha I h λv s1 x H1 I1 r1 q1=>chain_link (thE hb I1 q1 λu s2 y H2 I2 r2 q2=>
  thn (ho pins s2 Y H2 x y v u _ I2 r1 r2 q2) λd s3 ⟨z,H3,I3,r3,k,e,q3⟩=>?_)) hm
 subst e;cases r3;refine ll ?_
 cases k with
 |false=>exact ite_ff ⟨.bl false,H3,I3,rfl,q3⟩
 |true=>exact ite_tt (chain_last (thn (hc pins s3 Y H3 _ I3 q3) λw' s4 ⟨z',H4,I4,r4,q4⟩=>ho' pins s4 Y H4 y z' u w' Q I4 r2 r4 q4))
theorem Ko:(sizeLine:Nat)<2 ^ 63:=by rw[CU];decide
theorem K0:OpR X (binaryOp .Add) (λx y H Q=>∃i j,x=.str i/\y=.str j/\i.length+j.length<=sizeLine/\Q (.str (i++j)) H):=by
 intro pins s Y H x y v u Q I rx ry h;obtain⟨i,j,rfl,rfl,hz,q⟩:=h;obtain⟨t,rfl⟩:=rx;obtain⟨t',rfl⟩:=ry;exact add_str (λt' tk=>⟨.str (i++j),H,I.tok _,⟨_,rfl⟩,q⟩) hz
theorem E6 {x:V}(r:Au [x] us):∃u,us=[u]/\A8 x u:=by
 cases r with
 |cons r1 r2=>cases r2;exact⟨_,rfl,r1⟩
theorem P7 {x:V}(r:Au [x,y] us):∃u w',us=[u,w']/\A8 x u/\A8 y w':=by
 cases r with
 |cons r1 r2=>
  cases r2 with
  |cons r3 r4=>cases r4;exact⟨_,_,rfl,r1,r3⟩
theorem pA:Ec X (.builtin "abs") (λxs H Q=>∃i,xs=[.int i]/\Q (.int (if i<0 then -i else i)) H):=by
 intro pins s Y H xs us Q I r h;obtain⟨i,rfl,q⟩:=h;obtain⟨u,rfl,t,rfl⟩:=E6 r;exact call_abs_int λu tk=>⟨.int (if i<0 then -i else i),H,I.tok _,⟨_,rfl⟩,q⟩
end
structure Yw (h:iq) (x dx C:de) (mA:Za2):Prop where
 obj:h.get? x=some (instObj C dx)
 ns:h.Ns1 dx mA
 ne:dx≠x
theorem jA {mA:Za2}(n:h.Ns1 dx mA):∃od,h.get? dx=some od/\∀name,lookIn name od=some (mA name):=by
 obtain⟨o,es,ep,ho,hd,hk,_,hm⟩:=n;refine⟨o,ho,λname=>?_⟩;have e:=hm name;unfold nsFind findBy at e;rw[<-Array.find?_toList] at e;unfold lookIn;rw[hd];dsimp only;split
 ·rename_i y q
  rw[q] at e;exact congrArg some e
 ·rename_i q
  rw[q] at e;have a:es.toList.any (·.refKey)=false:=by
   rw[List.any_eq_false];intro y hy;obtain⟨z,t,hkey⟩:=hk y (Array.mem_toList_iff.mp hy);simp[IP,hkey]
  have a':¬ es.toList.any (·.refKey)=true:=by rw[a];exact fu
  rw[if_neg a'];exact congrArg some e
theorem Yw.look {x:de}{mA:Za2}(I:Yw h x dx C mA):∃od,PySem.W.InstAt h x (instObj C dx) C (some od)/\∀name,lookIn name od=some (mA name):=
 let ⟨od,ho,hl⟩:=jA I.ns
 ⟨od,⟨I.obj,rfl,rfl,ho⟩,hl⟩
section
variable {prog:fi} {w:gl} {A:ic} {E:Za0} {s:dv} {K:c7} {x dx C f:de} {mA:Za2} {name:Str} {v:dr}
theorem qI {expr:Bool}{Q:Za0}(X:K.In s.heap)(I:Yw s.heap x dx C mA)(hg:ra K C name=true)(hh:uv K C=true)
  (ha:jh K (.ref C) name=some none)(hv:mA name=some v)(hv':AA v=true)(h:Q v { s with toks:=s.toks+1 }) :
  wpAny (model prog w) A (getAttr (.ref x) name expr) Q E s:=by
 obtain⟨od,J,hl⟩:=I.look;exact PySem.W.get_value X J (ua hg).1 (PySem.W.findObj_own hh ha rfl (by rw[hl,hv])) hv' h
theorem jZ {Q:dr×Za3->dv->Prop}(X:K.In s.heap)(I:Yw s.heap x dx C mA)(hg:ra K C name=true)
  (hf:jh K (.ref C) name=some (some (.ref f)))(ht:rf K (.ref f)=true)(hv:mA name=none)(h:Q (.ref f,[.ref x]) s) :
  wpAny (model prog w) A (getMethod (.ref x) name pl) Q E s:=by
 obtain⟨od,J,hl⟩:=I.look;exact PySem.W.method_fn X J (ua hg).1 (ua hg).2 hf (beq_iff_eq.mp ht) (by show(lookIn name od).map (·.isSome)=some false;rw[hl,hv];rfl) h
theorem rW {ns:Za6}{Q:Unit->dv->Prop}(X:K.In s.heap)(I:Yw s.heap x dx C mA)
  (hs:jh K (.ref C) "__setattr__"=some (some (.builtin "object.__setattr__")))(hp:zn K C=true)(ht:v8 K C name=some none)(hh:uv K C=true)
  (hw:yz mA ns)(hsz:ns.length<=sizeLine)
  (h:∀h',Yw h' x dx C (λy=>if y=name then some v else mA y)->su dx s.heap h'->Q () { s with heap:=h',toks:=s.toks+2 }) :
  wpAny (model prog w) A (setAttr (.ref x) name v) Q E s:=by
 obtain⟨od,J,hl⟩:=I.look;refine PySem.W.set_plain X J hs (PySem.W.osa_open (s:={ s with toks:=s.toks+1 }) (r:=none) X J hp ht λb=>?_);obtain⟨cd,hc,hd'⟩:=PySem.W.any_some hh;have hx:s.heap.get? x=some ⟨.ref C,some dx,.plain,#[]⟩:=I.obj;refine wpAny_bind (d4 (wpAny_bind (wpAny_bind (wpAny_loadPart hx (wpAny_bind (EW (s:={ s with toks:=s.toks+1 }) (PySem.W.looks_clsIn X hc) ?_))))));rw[hd'];refine d4 (a:=some dx) (wpAny_bind (d4 (wpAny_bind ?_)));refine wpAny_nsSet1 (s:={ s with toks:=s.toks+1 }) I.ns λh' hn2 hs2=>?_;obtain⟨oD,esD,epD,hoD,hdD,hcD⟩:=hn2.count (FR name v hw);refine wpAny_bind (wpAny_lookBehind hoD (by rw[hdD];exact pastItsLine_dict (gm hcD (by rw[f9];lia))) ?_);exact d4 (h _ ⟨(hs2.2 _ (qq I.ne)).trans I.obj,hn2,I.ne⟩ hs2)
theorem lX {R:uh->dv->Prop}{kw:List (Str×dr)}(X:K.In s.heap)(hm:AJ K C=true)
  (hi:jh K (.ref C) "__init__"=some (some (.ref f)))(hf:PySem.W.typeIn K (.ref f)=some (.type "function"))
  (h:codeAny (model prog w) (A.under (.builtin "type.__call__" ⟨.ref C::vs,kw⟩)) (.call (.ref f) ⟨.ref (s.heap.objs.size+1)::vs,kw⟩) (PySem.W.InitBack (s.heap.objs.size+1) R)
   { s with heap:=(s.heap.push emptyDict).push (instObj C s.heap.objs.size) }) :
  codeAny (model prog w) A (.call (.ref C) ⟨vs,kw⟩) R s:=by
 obtain⟨hh,g,d,t,os⟩:=s;exact PySem.W.make_core (PySem.W.makes_of X hm) (PySem.W.looks_findIn X hi) (λself=>PySem.W.bind_fn X self hf) (.inl rfl) h
end
def Ek (f : Str)(v : V) : List (Str × V)->List (Str × V)
  | [] => [(f, v)]
  | (g, x) :: r => if g = f then (g, v) :: r else (g, x) :: Ek f v r
theorem Nd (f g:Str)(v:V):∀ fs:List (Str×V),(Ek f v fs).lookup g=if g=f then some v else fs.lookup g
  | [] => by
    show mi g [(f, v)] = _
    by_cases h : g = f
    · have hb : (g == f) = true := beq_iff_eq.mpr h
      simp only [mi, hb, if_pos h]
    · have hb : (g == f) = false := beq_eq_false_iff_ne.mpr h
      simp only [mi, hb, if_neg h]
  | (k, x) :: r => by
    have ih := Nd f g v r;rw [show Ek f v ((k, x) :: r) = (if k = f then (k, v) :: r else (k, x) :: Ek f v r) from rfl]
    by_cases hk : k = f
    · rw [if_pos hk]
      by_cases h : g = k
      · have hb : (g == k) = true := beq_iff_eq.mpr h
        simp only [mi, hb, if_pos (h.trans hk)]
      · have hb : (g == k) = false := beq_eq_false_iff_ne.mpr h
        simp only [mi, hb, if_neg (λe : g = f => h (e.trans hk.symm))]
    · rw [if_neg hk]
      by_cases h : g = k
      · have hb : (g == k) = true := beq_iff_eq.mpr h
        simp only [mi, hb, if_neg (λe : g = f => hk (h.symm.trans e))]
      · have hb : (g == k) = false := beq_eq_false_iff_ne.mpr h
        simp only [mi, hb];exact ih
theorem Mc (f:Str)(v:V):∀ fs:List (Str×V),f∈(Ek f v fs).map (·.1)/\∀ g,g∈fs.map (·.1)->g∈(Ek f v fs).map (·.1)
  | [] => ⟨by simp [Ek], λg h => by simp at h⟩
  | (k, x) :: r => by
    obtain ⟨i1, i2⟩ := Mc f v r;rw [show Ek f v ((k, x) :: r) = (if k = f then (k, v) :: r else (k, x) :: Ek f v r) from rfl]
    by_cases hk : k = f
    · rw [if_pos hk]
      subst hk;exact ⟨by simp, λg h => by simpa using h⟩
    · rw [if_neg hk]
      refine ⟨?_, λg h => ?_⟩
      · rw [fm]
        exact ge _ i1
      · rw [fm] at h ⊢
        rcases gr.mp h with e | e
        · exact gr.mpr (.inl e)
        · exact ge _ (i2 g e)
theorem Nc (f:Str)(v:V):∀ fs:List (Str×V),(Ek f v fs).length<=fs.length+1
  | [] => by simp [Ek]
  | (k, x) :: r => by
    have ih := Nc f v r;rw [show Ek f v ((k, x) :: r) = (if k = f then (k, v) :: r else (k, x) :: Ek f v r) from rfl]
    by_cases hk : k = f
    · rw [if_pos hk, f9, f9]; lia
    · rw [if_neg hk, f9, f9]; lia
theorem Kn.some_of {v:V}{o:Za7}(r:Kn (some v) o):∃u,o=some u/\A8 v u:=by
 cases o with
 |none=>exact(show False from r).elim
 |some u=>exact⟨u,rfl,r⟩
theorem Kn.none_of {o:Za7}(r:Kn none o):o=none:=by
 cases o with
 |none=>rfl
 |some u=>exact(show False from r).elim
theorem jE {v:V}{u:dr}(r:A8 v u):AA u=true:=by
 cases v with
 |non=>cases(show u=xr from r);rfl
 |bl b=>cases(show u=xt b from r);rfl
 |int i=>obtain⟨t,e⟩:=(show ∃t,u=ml i t from r);cases e;rfl
 |str x=>obtain⟨t,e⟩:=(show ∃t,u=l5 x t from r);cases e;rfl
 |byt b=>obtain⟨t,e⟩:=(show ∃t,u=EJ b t from r);cases e;rfl
 |flt b=>obtain⟨t,e⟩:=(show ∃t,u=zi b t from r);cases e;rfl
 |ref a=>cases(show u=gi a from r);rfl
 |ty n=>cases(show u=j0 n from r);rfl
section
variable {P:fi} {w:gl} {H H':Hp} {h h':iq} {a C dx:de} {fs fs':List (Str×V)}
theorem Od (hok:HOk P w H h)(e:H a=some (.ins C dx fs)):∃mA,Yw h a dx C mA/\(∀f,Kn (fs.lookup f) (mA f))/\yz mA (fs.map (·.1))/\fs.length<=1000/\H dx=some (.own a):=by
 obtain⟨d,z,ne,ob,mA,n,r,q⟩:=(show Cc P w H h a (.ins C dx fs) from hok a _ e);exact⟨mA,⟨ob,n,ne⟩,r,q,z,d⟩
end
structure Cls (K:c7) (C:de):Prop where
 pg:ra K C wv=true
 hd:uv K C=true
 po:zn K C=true
 sa:jh K (.ref C) "__setattr__"=some (some (.builtin "object.__setattr__"))
theorem Cls.get {K:c7}(c:Cls K C)(f:Str):ra K C f=true:=c.pg
def Ba (K:c7)(C:de)(f:Str):Prop:=jh K (.ref C) f=some none
theorem Ba.taker {K:c7}{f:Str}(n:Ba K C f):v8 K C f=some none:=by
 unfold v8;rw[show jh K (.ref C) f=some none from n];rfl
structure kB (K:c7) (C:de) (m:Str) (f:de):Prop where
 at_:jh K (.ref C) m=some (some (.ref f))
 fn:rf K (.ref f)=true
 kp:j6 K (.ref f)=true
section
variable {X:Cx} {pins:Za1} {Y:St} {H:Hp} {s:dv} {a C dx:de} {fs:List (Str×V)} {f:Str} {v:V} {A:ic} {E:Za0}
theorem Zr {b:Bool}{Q:Za0}(I:Inv X pins Y H s)(e:H a=some (.ins C dx fs))(c:Cls X.K C)(n:Ba X.K C f)(l:fs.lookup f=some v)
  (h:∀u s',Inv X pins Y H s'->A8 v u->Q u s'):wpAny (model X.prog X.w) A (getAttr (.ref a) f b) Q E s:=by
 obtain⟨mA,O,r,_,_,_⟩:=Od I.hok e;obtain⟨u,hu,ru⟩:=Kn.some_of (v:=v) (o:=mA f) (by rw[<-l];exact r f);exact qI I.kIn O (c.get f) c.hd n hu (jE ru) (h u _ (I.tok _) ru)
theorem Kk {m:Str}{g:de}{Q:dr×Za3->dv->Prop}(I:Inv X pins Y H s)(e:H a=some (.ins C dx fs))(c:Cls X.K C)(k:kB X.K C m g)(l:fs.lookup m=none)
  (h:Q (.ref g,[.ref a]) s):wpAny (model X.prog X.w) A (getMethod (.ref a) m pl) Q E s:=by
 obtain⟨mA,O,r,_,_,_⟩:=Od I.hok e;have hn:mA m=none:=Kn.none_of (by rw[<-l];exact r m);exact jZ I.kIn O (c.get m) k.at_ k.fn hn h
theorem cT {u:dr}{Q:Unit->dv->Prop}(I:Inv X pins Y H s)(e:H a=some (.ins C dx fs))(c:Cls X.K C)(n:Ba X.K C f)(hl:fs.length<1000)(ry:A8 y u)
  (h:∀s',Inv X pins Y (upd H a (.ins C dx (Ek f y fs))) s'->Q () s'):wpAny (model X.prog X.w) A (setAttr (.ref a) f u) Q E s:=by
 obtain⟨mA,O,r,wi,_,ho⟩:=Od I.hok e;have hz:(fs.map (·.1)).length<=sizeLine:=by rw[c5,CU];lia
 refine rW I.kIn O c.sa c.po n.taker c.hd wi hz λh' O' sb=>h _ ?_;have hd:∃o,h'.get? dx=some o:=let ⟨o,_,_,e',_⟩:=O'.ns;⟨o,e'⟩;refine I.write (x:=a) (e:=dx) (by rw[e];exact nw) (.inr ho) (λb q hb z=>(sb.2 b hb).trans z) hd ?_;refine⟨by rw[Ai O.ne];exact ho,?_,O.ne,O'.obj,_,O'.ns,λg=>?_,λg hg=>?_⟩
 ·have:=Nc f y fs;lia
 ·show Kn ((Ek f y fs).lookup g) (if g=f then some u else mA g)
  rw[Nd]
  by_cases q:g=f
  ·rw[if_pos q,if_pos q];exact ry
  ·rw[if_neg q,if_neg q];exact r g
 ·by_cases q:g=f
  ·rw[q];exact(Mc f y fs).1
  ·refine(Mc f y fs).2 g (wi g λz=>hg ?_)
   show(if g=f then some u else mA g)=none;rw[if_neg q];exact z
theorem Inv.made (I:Inv X pins Y H s):Inv X pins Y (upd (upd H s.heap.objs.size (.own (s.heap.objs.size+1))) (s.heap.objs.size+1) (.ins C s.heap.objs.size []))
  { s with heap:=(s.heap.push emptyDict).push (instObj C s.heap.objs.size) }:=by
 have e1:(s.heap.push emptyDict).get? s.heap.objs.size=some emptyDict:=fv s.heap rfl;have e2:((s.heap.push emptyDict).push (instObj C s.heap.objs.size)).get? (s.heap.objs.size+1)=some (instObj C s.heap.objs.size):=by
  have:=fv (s.heap.push emptyDict) (o:=instObj C s.heap.objs.size) rfl
  rwa [ol] at this
 have e3:(s.heap.push emptyDict).Ns s.heap.objs.size (λ_=>none):=⟨emptyDict,#[],_,e1,rfl,(λe he=>absurd he (by simp)),λ_=>rfl⟩;have I1:=I.laid (a:=s.heap.objs.size) (o:=.own (s.heap.objs.size+1)) (h':=s.heap.push emptyDict) (t':=s.toks) (λb u q=>dg _ q) (c9 _) ⟨_,e1⟩;refine I1.laid (a:=s.heap.objs.size+1) (o:=.ins C s.heap.objs.size []) (t':=s.toks) (λb u q=>dg _ q) (lz (ol _ _)) ?_;have ne:s.heap.objs.size≠s.heap.objs.size+1:=fh (se _);refine⟨by rw[Ai ne,Ac],fq _,ne,e2,λ_=>none,(Heap.Ns1.of_empty e3).at λo q=>dg _ q,λ_=>nw,λy hy=>absurd rfl hy⟩
theorem qC {prog:fi}{e:gv}{f:Str}{Q:Za0}(hb:attributeBase e f env (eval e env)=eval e env)
  (h:wpAny (model prog w) A (eval e env) (λo QM=>wpAny (model prog w) A (getAttr o f true) Q E QM) E s):wpAny (model prog w) A (eval (.Attribute e f pos) env) Q E s:=
 Attribute_any_ h (by rw[arm_eval_Attribute,hb])
end
def rT (K:c7)(ta:TE)(f:Str):TE:=λY H Q=>ta Y H λx H1=>∃a C dx fs v,x=.ref a/\H1 a=some (.ins C dx fs)/\Cls K C/\Ba K C f/\fs.lookup f=some v/\Q v H1
def uI (K:c7)(ta tv:TE)(f:Str):TS:=λD Y H=>tv Y H λy H1=>ta Y H1 λx H2=>∃a C dx fs,x=.ref a/\H2 a=some (.ins C dx fs)/\Cls K C/\Ba K C f/\fs.length<1000 /\
 D.nx Y (upd H2 a (.ins C dx (Ek f y fs)))
section
variable {X:Cx} {o e value:gv} {f:Str} {pos pos' tpos:Pos} {ta tv:TE}
theorem pT (he:PE X e ta)(hb:attributeBase e f X.env (eval e X.env)=eval e X.env):PE X (.Attribute e f pos) (rT X.K ta f):=by
 k_in;refine qC hb (thE he I h λu s1 x H1 I1 rx ⟨a,C,dx,fs,v,ex,ea,c,n,l,q⟩=>?_);subst ex;obtain rfl:u=gi a:=rx;exact Zr I1 ea c n l λu' s2 I2 ru=>⟨v,H1,I2,ru,q⟩
theorem xA (ha:PE X o ta)(hv:PE X value tv)(hs:swapsWith value (some (.Attribute o f pos')) pos.line X.env=pure false):PS X (.Assign [.Attribute o f pos'] value pos) (uI X.K ta tv f):=by
 k_end;refine plainObj_wpAny_Assign_Attribute (thE hv I h λu s1 y H1 I1 ry q=>thE ha I1 q λov s2 x H2 I2 rx ⟨a,C,dx,fs,ex,ea,c,n,l,q2⟩=>?_) hs;subst ex;obtain rfl:ov=gi a:=rx;exact cT I2 ea c n l ry λs3 I3=>⟨Y,_,I3,q2⟩
theorem uA {m:Str}{apos:Pos}{args:List gv}{Y:St}{Q:Za0}(he:PE X e te)(I:Inv X pins Y H s)
  (h:te Y H λx H1=>∃a C dx fs g,x=.ref a/\H1 a=some (.ins C dx fs)/\Cls X.K C/\kB X.K C m g/\fs.lookup m=none /\
   ∀s1,Inv X pins Y H1 s1->wpAny (model X.prog X.w) X.A (callWith pos (.ref g) [.ref a] (backTo pos (starEach args X.env)) (backToKw pos (keywordEach [] X.env))) Q X.xe s1)
  (ht:eval (.Call (.Attribute e m apos) args [] pos) X.env=(do
   let ov <-eval e X.env
   standAt apos.atName
   let (f,first) <-holding [ov] (getMethod ov m pl)
   callWith pos f first (backTo pos (starEach args X.env)) (backToKw pos (keywordEach [] X.env)))) :
  wpAny (model X.prog X.w) X.A (eval (.Call (.Attribute e m apos) args [] pos) X.env) Q X.xe s:=by
 refine rz (pl:=pl) (thE he I h λu s1 x H1 I1 rx ⟨a,C,dx,fs,g,ex,ea,c,k,l,q⟩=>?_) ht;subst ex;obtain rfl:u=gi a:=rx;exact Kk I1 ea c k l (q s1 I1)
end
section
variable {X:Cx} {pins:Za1} {Y:St} {H:Hp} {s:dv} {A:ic} {E:Za0} {Q:Za0} {c:dr} {b:Bool}
inductive Ih (K:c7) (H:Hp):V->dr->Prop where
 |non:Ih K H .non (.type "NoneType")
 |bl (x:Bool):Ih K H (.bl x) (.type "bool")
 |int (i:Int):Ih K H (.int i) (.type "int")
 |str (x:Str):Ih K H (.str x) (.type "str")
 |flt (x:UInt64):Ih K H (.flt x) (.type "float")
 |lst {a:de} {xs:List V} (e:H a=some (.lst xs)):Ih K H (.ref a) (.type "list")
 |frz {a:de} {o:Obj} {xs:List V} (e:H a=some (.frz o (.lst xs))):Ih K H (.ref a) (.type "list")
 |tup {a:de} {xs:List V} (e:H a=some (.tup xs)):Ih K H (.ref a) (.type "tuple")
 |dK {a:de} {kvs:List (Key×V)} (e:H a=some (.dK kvs)):Ih K H (.ref a) (.type "dict")
 |dT {a:de} {kvs:List (List Key×V)} (e:H a=some (.dT kvs)):Ih K H (.ref a) (.type "dict")
 |ins {a C dx:de} {fs:List (Str×V)} (e:H a=some (.ins C dx fs)) (cl:Cls K C) (ha:jh K (.ref C) "__class__"=some (some (.builtin "object.__class__")))
   (hn:PySem.W.specialIn K (.builtin "object.__class__") "__get__"=some (some (.builtin "getset_descriptor.__get__"))) (htk:PySem.W.takesIn K (.builtin "object.__class__")=some true)
   (hm:PySem.W.mroIn K C (.type "object")=some true):Ih K H (.ref a) (.ref C)
theorem iL {x:V}{u t:dr}(I:Inv X pins Y H s)(rx:A8 x u)(ty:Ih X.K H x t)(e:kitOne X.K t c=some b)(h:∀tk,Q (.bool b) { s with toks:=tk }) :
  wpAny (model X.prog X.w) A (call (.builtin "isinstance") [u,c]) Q E s:=by
 cases ty with
 |non=>cases(show u=xr from rx);exact qg PySem.W.kitx_none I.kIn nw e (λz=>nomatch z) h
 |bl y=>cases(show u=xt y from rx);exact qg PySem.W.kitx_bool I.kIn nw e (λz=>nomatch z) h
 |int i=>obtain⟨t,q⟩:=(show ∃t,u=ml i t from rx);cases q;exact qg PySem.W.kitx_int I.kIn nw e (λz=>nomatch z) h
 |str y=>obtain⟨t,q⟩:=(show ∃t,u=l5 y t from rx);cases q;exact qg PySem.W.kitx_str I.kIn nw e (λz=>nomatch z) h
 |flt y=>obtain⟨t,q⟩:=(show ∃t,u=zi y t from rx);cases q;exact qg PySem.W.kitx_float I.kIn nw e (λz=>nomatch z) h
 | @lst a xs ea=>
  cases(show u=gi a from rx);obtain⟨_,_,n,_,h1⟩:=(show Cc X.prog X.w H s.heap a (.lst xs) from I.hok a _ ea);exact qg zo I.kIn ⟨_,h1,rfl⟩ e (λz=>nomatch z) h
 | @frz a ob xs ea=>
  cases(show u=gi a from rx);obtain⟨_,_,_,n,_,h1⟩:=(show Cc X.prog X.w H s.heap a (.frz ob (.lst xs)) from I.hok a _ ea);exact qg zo I.kIn ⟨_,h1,rfl⟩ e (λz=>nomatch z) h
 | @tup a xs ea=>
  cases(show u=gi a from rx);obtain⟨_,_,_,p⟩:=(show Cc X.prog X.w H s.heap a (.tup xs) from I.hok a _ ea);obtain⟨o,h1,h2,_⟩:=p;exact qg PySem.W.kitx_tuple I.kIn ⟨o,h1,h2⟩ e (λz=>nomatch z) h
 | @dK a kvs ea=>
  cases(show u=gi a from rx);obtain⟨_,_,vs,_,p⟩:=(show Cc X.prog X.w H s.heap a (.dK kvs) from I.hok a _ ea);obtain⟨o,es,ep,h1,h2,_⟩:=p;exact qg zp I.kIn ⟨o,h1,h2.1⟩ e (λz=>nomatch z) h
 | @dT a kvs ea=>
  cases(show u=gi a from rx);obtain⟨_,_,xs,_,o,es,ep,h1,h2,_⟩:=(show Cc X.prog X.w H s.heap a (.dT kvs) from I.hok a _ ea);exact qg zp I.kIn ⟨o,h1,h2.1⟩ e (λz=>nomatch z) h
 | @ins a C dx fs ea cl ha hn htk hm=>
  cases(show u=gi a from rx);obtain⟨mA,O,_⟩:=Od I.hok ea;obtain⟨od,J,_⟩:=O.look;exact qg (PySem.W.kitx_own (cl.get _) cl.hd ha hn htk hm) I.kIn J e (λz=>nomatch z) h
end
structure Ck (k:Nat) (A:ic):Prop where
 hd:A.handled=none
 dp:A.depth+3*k+5<recursionLimit
 un:A.units+16*k+200<cLine
theorem Ck.mono {j k:Nat}(r:Ck k A)(h:j<=k):Ck j A:=⟨r.hd,by have:=r.dp;lia,by have:=r.un;lia⟩
theorem Ck.m {j k:Nat}(r:Ck k A)(h:autoParam (j<=k) QF):Ck j A:=r.mono h
theorem Ck.deeper {k:Nat}(r:Ck (k+1) A)(env:Env):Ck k (A.deeper env):=
 ⟨r.hd,by have:=r.dp;show A.depth+1+3*k+5<_;lia,by have:=r.un;show A.units+3+16*k+200<_;lia⟩
theorem cU {kw:List (Str×dr)}:(A.under (.builtin "type.__call__" ⟨.ref C::us,kw⟩)).depth=A.depth+1:=by
 first|rfl|simp[yx,Code.weight,Code.isCreation,Code.isGuard,Code.isCaller,FM,zb,guardIds]
theorem cN {kw:List (Str×dr)}:(A.under (.builtin "type.__call__" ⟨.ref C::us,kw⟩)).units=A.units+1:=by
 first|rfl|simp[yx,Code.cUnits,FM,zb]
theorem Ck.make {k:Nat}(r:Ck (k+1) A)(C:de)(us:Za3)(kw:List (Str×dr)):Ck k (A.under (.builtin "type.__call__" ⟨.ref C::us,kw⟩)):=
 ⟨r.hd,by have:=r.dp;rw[cU];lia,by have:=r.un;rw[cN];lia⟩
theorem Ck.depth {k:Nat}(r:Ck k A):A.depth<recursionLimit:=by have:=r.dp;lia
theorem Ck.units {k:Nat}(r:Ck k A):A.units+64<cLine:=by have:=r.un;lia
def lG:TA:=λ_ H Q=>Q [] H
def Ti (ta:TE)(tr:TA):TA:=λY H Q=>ta Y H λx H1=>tr Y H1 λxs H2=>Q (x::xs) H2
section
variable {X:Cx} {e:gv} {es:List gv} {te:TE} {t:TA} {pos:Pos}
theorem Aa:PA X [] lG:=λ_ _ _ _ H Q I h=>q8 ⟨[],H,I,.nil,h⟩
theorem rM (ha:PE X e te)(hr:PA X es t)(hs:autoParam (starEach (e::es) X.env=(false,eval e X.env)::starEach es X.env) QD):PA X (e::es) (Ti te t):=by
 intro pos pins s Y H Q I h;rw[hs];show wpAny _ _ (spliced ((false,eval e X.env)::backTo pos (starEach es X.env))) _ _ s;refine qo (thE ha I h λu s1 x H1 I1 r1 q1=>?_);exact thA hr I1 q1 λus s2 xs H2 I2 r2 q2=>⟨x::xs,H2,I2,.cons r1 r2,q2⟩
def xD (t:TA):TE:=λY H Q=>t Y H λxs H1=>xs.length<=sizeLine/\∀p,H1 p=none->Q (.ref p) (upd H1 p (.tup xs))
def vO (t:TA):TE:=λY H Q=>t Y H λxs H1=>xs.length<=sizeLine/\∀p,H1 p=none->Q (.ref p) (upd H1 p (.lst xs))
theorem Ji {x1}(h:PA X es t):PE X (.Tuple es x1 pos) (xD t):=by
 intro pins s Y H Q I hq;refine wpAny_Tuple_spliced (thA h I hq λus s1 xs H1 I1 r ⟨z,q⟩=>⟨by rw[<-r.length];exact z,?_⟩);have hf:H1 s1.heap.objs.size=none:=I1.hok.fresh (c9 _);refine⟨.ref s1.heap.objs.size,upd H1 s1.heap.objs.size (.tup xs),I1.laid (t':=s1.toks) (λb u e=>dg _ e) (c9 _) ?_,rfl,q _ hf⟩;exact⟨z,us,r,⟨_,fv _ rfl,rfl,_,rfl⟩⟩
theorem Bl (h:PA X es t):PE X (.List es pos) (vO t):=by
 intro pins s Y H Q I hq;refine wpAny_List_spliced (thA h I hq λus s1 xs H1 I1 r ⟨z,q⟩=>⟨by rw[<-r.length];exact z,?_⟩);have hf:H1 s1.heap.objs.size=none:=I1.hok.fresh (c9 _);refine⟨.ref s1.heap.objs.size,upd H1 s1.heap.objs.size (.lst xs),I1.laid (t':=s1.toks) (λb u e=>dg _ e) (c9 _) ?_,rfl,q _ hf⟩;exact⟨z,us,0,r,fv _ rfl⟩
end
abbrev Sp:=List V->Hp->VK->XK->Prop
abbrev CXT:=List Env->Hp->dv->XK->Za0
structure Wv (P:fi) (w:gl) (K:c7) (mg:Za2) (base:iq) (A:ic) (outer:List Env) (s:dv) (H:Hp):Prop where
 frames:A.frames=some outer
 mod:Mod K mg base
 bs:∀b o,base.get? b=some o->s.heap.get? b=some o/\H b=none
 bsz:base.objs.size<=s.heap.objs.size
 funs:s.heap.FunFrames base outer
 frf:∀b∈frs outer,H b=none
 hok:HOk P w H s.heap
 bare:uj s.gens
def CE (outer:List Env)(P:fi)(w:gl)(H:Hp)(s:dv)(Q:VK)(u:dr)(s':dv):Prop:=
 ∃v H',s'.os=s.os/\uj s'.gens/\Un (frs outer) [] H H' s.heap s'.heap/\HOk P w H' s'.heap/\A8 v u/\Q v H'
def CR (CX:CXT)(outer:List Env)(P:fi)(w:gl)(H:Hp)(s:dv)(Q:VK)(E:XK)(r:uh)(s':dv):Prop:=
 match r with
 |.ok (.ret u)=>CE outer P w H s Q u s'
 |.ok _=>False
 |.error e=>CX outer H s E e s'
structure Ax (P:fi) (w:gl) (K:c7) (mg:Za2) (base:iq) (CX:CXT) (k:Nat) (f:de) (fd:i0) (ps:Za6) (sp:Sp):Prop where
 len:∀vs H Q E,sp vs H Q E->vs.length=ps.length
 run:∀(A:ic) (outer:List Env) (s:dv) (H:Hp) (args:Args) (us:Za3) (vs:List V) (Q:VK) (E:XK),Ck k A->Wv P w K mg base A outer s H->zd s fd args (ps.zip us)->Au vs us->sp vs H Q E ->
  codeAny (model P w) A (.call (.ref f) args) (CR CX outer P w H s Q E) s
theorem Wv.make {P:fi}{K:c7}{mg:Za2}{outer:List Env}(e:Wv P w K mg base A outer s H)(C:de)(us:Za3)(kw:List (Str×dr)) :
  Wv P w K mg base (A.under (.builtin "type.__call__" ⟨.ref C::us,kw⟩)) outer s H:=⟨by first|exact e.frames|(simpa [yx,Code.envs,zb,pushEnvs] using e.frames),e.mod,e.bs,e.bsz,e.funs,e.frf,e.hok,e.bare⟩
section
variable {X:Cx} {pins:Za1} {Y:St} {H:Hp} {s s':dv}
theorem Inv.env0 (I:Inv X pins Y H s):Wv X.prog X.w X.K X.mg X.base X.A X.stack s H:=
 ⟨I.ok.frames,I.ok.mod,I.bs,gm I.ok.bsz I.sz,I.stack,I.stkFree,I.hok,I.bare⟩
theorem Inv.after {Q:VK}{u:dr}(I:Inv X pins Y H s)(h:CE X.stack X.prog X.w H s Q u s'):EP X pins Y Q u s':=by
 obtain⟨v,H',os,bare,un,hok,r,q⟩:=h;obtain⟨hh,g,d,t,os'⟩:=s';obtain rfl:os'=s.os:=os;exact⟨v,H',I.call (h':=hh) (g':=g) (d':=d) (t':=t) (ch:=[]) un hok bare (λb z=>absurd z (by simp)),r,q⟩
end
def dW (sp:Sp)(dvs:List V)(E:XK)(t:TA):TE:=λY H Q=>t Y H λvs H1=>sp (vs++dvs) H1 Q E
def Yh (C:de)(m:Str)(sp:Sp)(dvs:List V)(E:XK)(ta:TE)(t:TA):TE:=λY H Q=>ta Y H λx H1=>∃a dx fs,x=.ref a/\H1 a=some (.ins C dx fs)/\fs.lookup m=none /\
 t Y H1 λvs H2=>sp (x::(vs++dvs)) H2 Q E
def fL (C:de)(sp:Sp)(dvs:List V)(E:XK)(t:TA):TE:=λY H Q=>t Y H λvs H1=>∀x dx,H1 x=none->H1 dx=none->dx≠x ->
 sp (.ref x::(vs++dvs)) (upd (upd H1 dx (.own x)) x (.ins C dx [])) (λv H2=>v=.non/\Q (.ref x) H2) E
def Eh (K:c7)(fd:i0)(ps:Za6)(ds:Za3):Prop:=
 ∀(s:dv) (us:Za3),K.In s.heap->(us++ds).length=ps.length->zd s fd ⟨us,[]⟩ (ps.zip (us++ds))
theorem Eh.all {K:c7}(h:∀us:Za3,us.length=ps.length->bindArgs fd ⟨us,[]⟩=pure (ps.zip us)):Eh K fd ps []:=λs us _ hl=>by
 rw[gd] at hl ⊢;exact .of_eq (h us hl)
def Hs (CX:CXT)(X:Cx)(E:XK):Prop:=∀(pins:Za1) (Y:St) (H:Hp) (s:dv) (e:dr) (s':dv),Inv X pins Y H s->CX X.stack H s E e s'->X.xe e s'
section
variable {X:Cx} {CX:CXT} {k:Nat} {f C:de} {fd:i0} {ps:Za6} {sp:Sp} {dvs:List V} {ds:Za3} {E:XK} {x m:Str} {p pos apos:Pos} {e o:gv} {es:List gv} {ta:TE} {t:TA}
theorem Ve {Y:St}{Q:VK}{vs:List V}(F:Ax X.prog X.w X.K X.mg X.base CX k f fd ps sp)(hr:Ck k X.A)(hb:Eh X.K fd ps ds)(hd:Au dvs ds)(hx:Hs CX X E)
  (I:Inv X pins Y H s)(r:Au vs us)(h:sp (vs++dvs) H Q E):wpAny (model X.prog X.w) X.A (call (.ref f) us) (EP X pins Y Q) X.xe s:=by
 have r2:Au (vs++dvs) (us++ds):=r.append hd;have hl:(us++ds).length=ps.length:=by rw[<-r2.length];exact F.len _ _ _ _ h
 refine DP (xp (F.run X.A X.stack s H ⟨us,[]⟩ (us++ds) (vs++dvs) Q E hr I.env0 (hb s us I.kIn hl) r2 h) λr s' hq=>?_)
 cases r with
 |error e=>exact hx pins Y H s e s' I hq
 |ok fl=>
  cases fl with
  |ret u=>exact I.after hq
  |next=>exact km hq
  |brk=>exact km hq
  |cont=>exact km hq
theorem rZ (F:Ax X.prog X.w X.K X.mg X.base CX k f fd ps sp)(hr:Ck k X.A)(hg:Gl X x)(hm:X.mg x=some (.ref f))(hk:j6 X.K (.ref f)=true)(hb:Eh X.K fd ps ds)(hd:Au dvs ds)(hx:Hs CX X E)
  (ha:PA X (e::es) t)(hdb:autoParam ((x==("__debug__":Str))=false) QF)(he:autoParam (starEach (e::es) X.env=(false,eval e X.env)::starEach es X.env) QD)(hpl:autoParam ((backTo pos (starEach es X.env)).any (·.1)=false) QD) :
  PE X (.Call (.Name x p) (e::es) [] pos) (dW sp dvs E t):=by
 k_in;refine wpAny_Call_Name_kw (Of I hg hm ?_ hdb);refine callWith_K (h₀:=X.base) I.ok.mod.kin hk (thA ha I h λus s1 vs H1 I1 r q=>⟨I1.kIn,?_⟩) he hpl;exact Ve F hr hb hd hx I1 r q
theorem qQ (he:PE X o ta)(c:Cls X.K C)(hm:kB X.K C m f)(F:Ax X.prog X.w X.K X.mg X.base CX k f fd ps sp)(hr:Ck k X.A)(hb:Eh X.K fd ps ds)(hd:Au dvs ds)(hx:Hs CX X E)(ha:PA X (e::es) t)
  (hst:autoParam (starEach (e::es) X.env=(false,eval e X.env)::starEach es X.env) QD)(hpl:autoParam ((backTo pos (starEach es X.env)).any (·.1)=false) QD)
  (ht:autoParam (eval (.Call (.Attribute o m apos) (e::es) [] pos) X.env=(do
   let ov <-eval o X.env
   standAt apos.atName
   let (f,first) <-holding [ov] (getMethod ov m pl)
   callWith pos f first (backTo pos (starEach (e::es) X.env)) (backToKw pos (keywordEach [] X.env)))) QD) :
  PE X (.Call (.Attribute o m apos) (e::es) [] pos) (Yh C m sp dvs E ta t):=by
 k_in;refine rz (pl:=pl) (thE he I h λu s1 x H1 I1 rx ⟨a,dx,fs,ex,ea,l,q⟩=>?_) ht;subst ex;obtain rfl:u=gi a:=rx;refine Kk I1 ea c hm l ?_;refine callWith_K (first:=[.ref a]) (h₀:=X.base) I.ok.mod.kin hm.kp (thA ha I1 q λus s2 vs H2 I2 r q2=>⟨I2.kIn,?_⟩) hst hpl;exact Ve (us:=.ref a::us) (vs:=.ref a::vs) F hr hb hd hx I2 (.cons rfl r) q2
theorem kE (he:PE X o ta)(c:Cls X.K C)(hm:kB X.K C m f)(F:Ax X.prog X.w X.K X.mg X.base CX k f fd ps sp)(hr:Ck k X.A)(hb:Eh X.K fd ps ds)(hd:Au dvs ds)(hx:Hs CX X E)
  (ht:autoParam (eval (.Call (.Attribute o m apos) [] [] pos) X.env=(do
   let ov <-eval o X.env
   standAt apos.atName
   let (f,first) <-holding [ov] (getMethod ov m pl)
   callWith pos f first (backTo pos (starEach [] X.env)) (backToKw pos (keywordEach [] X.env)))) QD) :
  PE X (.Call (.Attribute o m apos) [] [] pos) (Yh C m sp dvs E ta lG):=by
 k_in;refine rz (pl:=pl) (thE he I h λu s1 x H1 I1 rx ⟨a,dx,fs,ex,ea,l,q⟩=>?_) ht;subst ex;obtain rfl:u=gi a:=rx;refine Kk I1 ea c hm l ?_;exact PySem.W.callWith_K0 (first:=[.ref a]) I1.kIn hm.kp (Ve (us:=[.ref a]) (vs:=[.ref a]) F hr hb hd hx I1 (.cons rfl .nil) q)
structure Mk (K:c7) (C f:de):Prop where
 makes:AJ K C=true
 init:jh K (.ref C) "__init__"=some (some (.ref f))
 fn:rf K (.ref f)=true
 kp:j6 K (.ref C)=true
theorem mO {Y:St}{Q:VK}{vs:List V}(M:Mk X.K C f)(F:Ax X.prog X.w X.K X.mg X.base CX k f fd ps sp)(hr:Ck (k+1) X.A)(hb:Eh X.K fd ps ds)(hd:Au dvs ds)
  (hx:Hs CX X E)(I:Inv X pins Y H s)(r:Au vs us)
  (h:∀x dx,H x=none->H dx=none->dx≠x->sp (.ref x::(vs++dvs)) (upd (upd H dx (.own x)) x (.ins C dx [])) (λv H2=>v=.non/\Q (.ref x) H2) E) :
  wpAny (model X.prog X.w) X.A (call (.ref C) us) (EP X pins Y Q) X.xe s:=by
 have hq:=h (s.heap.objs.size+1) s.heap.objs.size (I.hok.fresh (xa _)) (I.hok.fresh (c9 _)) (fh (se _));have I2:=Inv.made (C:=C) I;have r2:Au (V.ref (s.heap.objs.size+1)::(vs++dvs)) (gi (s.heap.objs.size+1)::(us++ds)):=.cons rfl (r.append hd);have hl:(gi (s.heap.objs.size+1)::us++ds).length=ps.length:=by
  have e:=r2.length;rw[F.len _ _ _ _ hq] at e;exact e.symm
 refine DP (lX (f:=f) I.kIn M.makes M.init (beq_iff_eq.mp M.fn) (xp (F.run _ X.stack _ _ ⟨gi (s.heap.objs.size+1)::us,[]⟩ (gi (s.heap.objs.size+1)::(us++ds)) _ _ E (hr.make C us [])
  (I2.env0.make C us []) (hb _ (gi (s.heap.objs.size+1)::us) I2.kIn hl) r2 hq) λr s' hq'=>?_))
 cases r with
 |error e=>exact hx pins Y _ _ e s' I2 hq'
 |ok fl=>
  cases fl with
  |ret u=>
   obtain⟨v,H',I3,rv,ev,q3⟩:=I2.after hq';subst ev;exact⟨rv,⟨V.ref (s.heap.objs.size+1),H',I3,rfl,q3⟩⟩
  |next=>exact km hq'
  |brk=>exact km hq'
  |cont=>exact km hq'
theorem fK (M:Mk X.K C f)(F:Ax X.prog X.w X.K X.mg X.base CX k f fd ps sp)(hr:Ck (k+1) X.A)(hg:Gl X x)(hm:X.mg x=some (.ref C))(hb:Eh X.K fd ps ds)(hd:Au dvs ds)(hx:Hs CX X E)
  (ha:PA X (e::es) t)(hdb:autoParam ((x==("__debug__":Str))=false) QF)(he:autoParam (starEach (e::es) X.env=(false,eval e X.env)::starEach es X.env) QD)(hpl:autoParam ((backTo pos (starEach es X.env)).any (·.1)=false) QD) :
  PE X (.Call (.Name x p) (e::es) [] pos) (fL C sp dvs E t):=by
 k_in;refine wpAny_Call_Name_kw (Of I hg hm ?_ hdb);refine callWith_K (h₀:=X.base) I.ok.mod.kin M.kp (thA ha I h λus s1 vs H1 I1 r q=>⟨I1.kIn,?_⟩) he hpl;exact mO M F hr hb hd hx I1 r q
end
structure Ak (N P:Za6) (sc:l9):Prop where
 kind:sc.kind=.function
 co:sc.isCoroutine=false
 gen:sc.isGenerator=false
 nd:N.Nodup
 pre:N.take P.length=P
 par:∀x∈P,sc.names.lookup x=some .local\/sc.names.lookup x=some .cell
 nofree:∀y∈sc.names,y.2≠.free
theorem Ty {kindOf:Str->Option nc}{x:Str}:∀ {binds:List (Str×dr)} {m:Za2},(∀ v,(x,v)∉binds)->bindL kindOf binds m x=m x
  | [], _, _ => rfl
  | (n, v) :: r, m, h => by
    unfold bindL;rw [Ty λw hw => h w (ge _ hw)];split
    · have : x ≠ n := by rintro rfl; exact h v f7
      simp [this]
    · rfl
theorem Su {kindOf:Str->Option nc}{x:Str}:∀ {binds:List (Str×dr)} {m:Za2},(∀ v,(x,v)∉binds)->bindC kindOf binds m x=m x
  | [], _, _ => rfl
  | (n, v) :: r, m, h => by
    unfold bindC;rw [Su λw hw => h w (ge _ hw)];split
    · rfl
    · have : x ≠ n := by rintro rfl; exact h v f7
      simp [this]
theorem Td {kindOf:Str->Option nc}{x:Str}{v:dr}:∀{P:Za6} {vs:Za3} {i:Nat} {m:Za2},P.Nodup->P[i]?=some x->vs[i]?=some v->kindOf x=some .local ->
  bindL kindOf (P.zip vs) m x=some v
 |[],_,_,_,_,h,_,_=>by simp at h
 |_::_,[],_,_,_,_,h,_=>by simp at h
 |p::P,w::vs,0,m,nd,h1,h2,hk=>by
  simp at h1 h2;subst h1;subst h2;show bindL kindOf ((p,w)::P.zip vs) m p=_;unfold bindL;rw[Ty λv hv=>(nq.mp nd).1 (nl hv).1,if_pos hk];simp
 |p::P,w::vs,i+1,m,nd,h1,h2,hk=>by
  show bindL kindOf ((p,w)::P.zip vs) m x=_;unfold bindL;exact Td (i:=i) (nq.mp nd).2 (by simpa using h1) (by simpa using h2) hk
theorem Tg {kindOf:Str->Option nc}{x:Str}{v:dr}:∀{P:Za6} {vs:Za3} {i:Nat} {m:Za2},P.Nodup->P[i]?=some x->vs[i]?=some v->kindOf x≠some .local ->
  bindC kindOf (P.zip vs) m x=some v
 |[],_,_,_,_,h,_,_=>by simp at h
 |_::_,[],_,_,_,_,h,_=>by simp at h
 |p::P,w::vs,0,m,nd,h1,h2,hk=>by
  simp at h1 h2;subst h1;subst h2;show bindC kindOf ((p,w)::P.zip vs) m p=_;unfold bindC;rw[Su λv hv=>(nq.mp nd).1 (nl hv).1,if_neg hk];simp
 |p::P,w::vs,i+1,m,nd,h1,h2,hk=>by
  show bindC kindOf ((p,w)::P.zip vs) m x=_;unfold bindC;exact Tg (i:=i) (nq.mp nd).2 (by simpa using h1) (by simpa using h2) hk
def Kg (N:Za6)(vs:List V):St:=vs.map some++dy (N.length-vs.length) none
def Xc (CX:CXT)(P:fi)(w:gl)(K:c7)(mg:Za2)(base:iq)(N:Za6)(qual:Str)(scope:l9)(f:de)(cd:dr)(A:ic)(outer:List Env)(s:dv)(H:Hp)(E:XK):Cx where
 prog:=P
 w:=w
 K:=K
 mg:=mg
 base:=base
 A:=A.deeper (envOfC qual scope s.heap.objs.size f cd)
 N:=N
 QN:=s
 QY:=H
 env:=envOfC qual scope s.heap.objs.size f cd
 outer:=outer
 stack:=envOfC qual scope s.heap.objs.size f cd::outer
 ex:=[]
 calm:=true
 fn:=λ_=>true
 pn:=[]
 xe:=λe s'=>wpAny (model P w) (A.deeper (envOfC qual scope s.heap.objs.size f cd)) (leaving (envOfC qual scope s.heap.objs.size f cd) e) (λ_ s''=>CX outer H s E e s'') (λe' s''=>CX outer H s E e' s'') s'
theorem Yt {sc:l9}{x:Str}(h:sc.names.lookup x=some .cell):∃c,(cellsFrom n sc.names []).lookup x=some c:=by
 have q:=ye sc.names n [] (.inl h);exact jj.mp q
theorem iT {CX:CXT}{P:fi}{K:c7}{mg:Za2}{f:de}{cd:dr}{outer:List Env}{s1:dv}{E:XK}{vs:List V}
  (S:Ak N ps scope)(hd:A.handled=none)(e0:Wv P w K mg base A outer s H)(hl:vs.length=ps.length)(r:Au vs us)
  (x:InCallC s s.heap.objs.size (bindL (envOfC qual scope s.heap.objs.size f cd).kindOf (ps.zip us) λ_=>none) (cellsFrom (s.heap.objs.size+1) scope.names []) (bindC (envOfC qual scope s.heap.objs.size f cd).kindOf (ps.zip us) λ_=>none) s1) :
  Inv (Xc CX P w K mg base N qual scope f cd A outer s H E) [] (Kg N vs) H s1:=by
 have hpl:ps.length<=N.length:=by have:=congrArg ue S.pre;rw[eg] at this;lia
 obtain⟨h1,tk,rfl,hk⟩:=x.done;have noA:∀b:de,b∉(Xc CX P w K mg base N qual scope f cd A outer s H E).ex:=λb z=>absurd (show b∈([]:List de) from z) (by simp);refine⟨⟨e0.mod,S.kind,rfl,rfl,c9 _,λy z c h1 h2=>?_,λy hy=>?_,λy c _ h=>?_,λ_=>hd,Around.frames_deeper e0.frames,.inr ⟨rfl,rfl⟩,λb z=>absurd z (noA b),e0.bs,e0.bsz,λb _ _=>noA b,λb z=>absurd z (noA b),e0.funs,e0.frf⟩,
  rfl,e0.bare,Un.kept hk,⟨_,x.toInCall.ns,λi y v h1 h2 h3=>?_⟩,λy c h=>⟨_,x.cell y c h⟩,e0.hok.fresh (c9 _),λy c h=>?_,λp hp=>absurd (show p∈([]:Za1) from hp) (by simp),e0.hok.kept hk,?_⟩
 ·exact name_of_addr x.apart (jw h1) (jw h2)
 ·have hy:scope.names.lookup y=some .cell\/scope.names.lookup y=some .free:=hy
  rcases hy with hy|hy
  ·exact Yt hy
  ·exact absurd rfl (S.nofree _ (jw hy))
 ·exact fw (x.above y c (jw h))
 ·have hi:i<vs.length:=by
   unfold Kg at h2
   by_cases hi:i<vs.length
   ·exact hi
   ·rw[dq (by simpa using hi)] at h2
    rw[rn] at h2;split at h2<;>cases h2
  have ha:vs[i]?=some v:=by
   unfold Kg at h2;rw[eh (by simpa using hi),df] at h2
   cases e:vs[i]? with
   |none=>rw[e] at h2;cases h2
   |some a=>rw[e] at h2;cases h2;rfl
  obtain⟨u,hu,rv⟩:=r.get ha;have hp:ps[i]?=some y:=by
   rw[<-S.pre,ij (by lia)];exact h1
  have ndP:ps.Nodup:=by rw[<-S.pre];exact S.nd.sublist (List.take_sublist _ _)
  refine⟨u,rv,?_⟩;rcases S.par y (e6 hp) with k|k
  ·exact .inl ⟨k,Td ndP hp hu k⟩
  ·obtain⟨c,e⟩:=Yt (n:=s.heap.objs.size+1) k
   refine .inr ⟨.inl k,c,e,?_⟩;have q:=x.cell y c e;rw[Tg ndP hp hu (by show scope.names.lookup y≠_;rw[k];decide)] at q;exact q
 ·exact e0.hok.fresh (fw (x.above y c (jw h)))
 ·unfold Kg
  show _=N.length;rw[c8,c5,ko];lia
theorem oH {CX:CXT}{P:fi}{K:c7}{mg:Za2}{k:Nat}{f:de}{name:Str}{params:yj}{body:List im}{dV kV:dr} 
  {osl:Array (Za7)}(lk:K.lookup f=some ⟨oc,od,.func (ir name qual params body scope dV kV doc pm an cdv ct),osl⟩)(hcd:kf K cdv qual=true)(S:Ak N ps scope)
  (len:∀vs H Q E,sp vs H Q E->vs.length=ps.length)
  (hbody:∀(A:ic) (outer:List Env) (s:dv) (H:Hp) (vs:List V) (Q:VK) (E:XK),Ck k (A.deeper (envOfC qual scope s.heap.objs.size f cdv))->sp vs H Q E ->
   ∃t,PSs (Xc CX P w K mg base N qual scope f cdv A outer s H E) body t/\t { nx:=λ_ H'=>Q .non H',rt:=Q } (Kg N vs) H) :
  Ax P w K mg base CX (k+1) f (ir name qual params body scope dV kV doc pm an cdv ct) ps sp:=by
 refine⟨len,λA outer s H args us vs Q E hr e0 hb r hsp=>?_⟩;have hl:=len _ _ _ _ hsp;have KX:K.In s.heap:=e0.mod.kin.keeps λb o e=>(e0.bs b o e).1;have lim:s.heap.NoLimit:=e0.mod.nolimit.keeps λb o e=>(e0.bs b o e).1;have hkind:∀y∈ps.zip us,scope.names.lookup y.1=some .local\/(scope.names.lookup y.1=some .cell/\((cellsFrom (s.heap.objs.size+1) scope.names []).lookup y.1).isSome=true):=λ⟨n,v⟩ hy=>by
  rcases S.par n (nl hy).1 with q|q
  ·exact .inl q
  ·exact .inr ⟨q,ye _ _ _ (.inl q)⟩
 refine codeAny_call_function hr.depth (KX _ _ lk) rfl S.co S.gen rfl (PySem.W.codeRec_of KX hcd) (hb _ _ _ _ ?_);refine wpAny_newFunctionEnv_cells S.kind hkind λenv he s1 x=>?_;subst he;refine⟨lim.keeps x.toInCall.keep,codeAny_func ?_⟩;obtain⟨t,ht,hq⟩:=hbody A outer s H vs Q E (hr.deeper _) hsp;have I:Inv (Xc CX P w K mg base N qual scope f cdv A outer s H E) [] (Kg N vs) H s1:=iT S hr.hd e0 hl r x;refine kx (ht [] s1 (Kg N vs) H _ I hq) (λfl s' hs=>?_) λe s' hs=>hs;have fin:∀{mt:St} {H':Hp} {v:V} {u:dr},Inv (Xc CX P w K mg base N qual scope f cdv A outer s H E) [] mt H' s'->A8 v u->Q v H'->CE outer P w H s Q u s':=
  λ{mt H' v u} J rv q=>⟨v,H',J.os,J.bare,J.base,J.hok,rv,q⟩
 cases fl with
 |ret u=>
  obtain⟨v,mt,H',J,rv,q⟩:=hs;exact fin J rv q
 |next=>
  obtain⟨mt,H',J,q⟩:=hs;exact fin (v:=V.non) (u:=xr) J rfl q
 |brk=>
  obtain⟨_,_,_,q⟩:=hs;exact km q
 |cont=>
  obtain⟨_,_,_,q⟩:=hs;exact km q
section
variable {X:Cx} {x:Str} {p pos:Pos} {e:gv} {es:List gv} {t:TA} {id T:String} {r:List V->Hp->VK->Prop}
def tCB (r:List V->Hp->VK->Prop)(t:TA):TE:=λY H Q=>t Y H λvs H1=>r vs H1 Q
theorem Am (hc:Ec X (.builtin id) r)(hg:Gl X x)(hm:X.mg x=none)(hv:bootBuiltins x=some (.builtin id))(ha:PA X (e::es) t)(hn:autoParam (x≠"__name__") QF)(hdb:autoParam ((x==("__debug__":Str))=false) QF)
  (he:autoParam (starEach (e::es) X.env=(false,eval e X.env)::starEach es X.env) QD)(hpl:autoParam ((backTo pos (starEach es X.env)).any (·.1)=false) QD):PE X (.Call (.Name x p) (e::es) [] pos) (tCB r t):=by
 k_in;refine wpAny_Call_Name_kw (Dv I hg hm hv ?_ hn hdb);exact GO (thA ha I h λus s1 vs H1 I1 r1 q1=>hc pins s1 Y H1 vs us Q I1 r1 q1) he hpl
theorem Cv (hc:Ec X (.type T) r)(hg:Gl X x)(hm:X.mg x=none)(hv:bootBuiltins x=some (.type T))(ha:PA X (e::es) t)(hn:autoParam (x≠"__name__") QF)(hdb:autoParam ((x==("__debug__":Str))=false) QF)
  (he:autoParam (starEach (e::es) X.env=(false,eval e X.env)::starEach es X.env) QD)(hpl:autoParam ((backTo pos (starEach es X.env)).any (·.1)=false) QD):PE X (.Call (.Name x p) (e::es) [] pos) (tCB r t):=by
 k_in;refine wpAny_Call_Name_kw (Dv I hg hm hv ?_ hn hdb);exact gp (thA ha I h λus s1 vs H1 I1 r1 q1=>hc pins s1 Y H1 vs us Q I1 r1 q1) he hpl
end
end L2
namespace HT
open PySem PyProof.Rows
section
open PySem.SeqAt
open PySem.AutoSeq1 (wpAny_loadPart')
open PySem.MeetsSeq PySem.MeetsSeq2 PySem.MeetsSeq3
end
section
variable {prog:fi} {w:gl} {A:ic} {E:Za0} {s:dv}
def sIx (n d:Nat):Option Int->Nat
 |none=>d
 |some v=>if v<0 then(v+(n:Int)).toNat else min v.toNat n
theorem sIx_nat (n d k:Nat):sIx n d (some (k:Int))=min k n:=by
 show(if(k:Int)<0 then((k:Int)+(n:Int)).toNat else min (k:Int).toNat n)=min k n;rw[if_neg (by lia),fz]
theorem sIx_le (n d:Nat)(hd:d<=n)(o:Option Int):sIx n d o<=n:=by
 cases o with
 |none=>exact hd
 |some v=>
  show(if v<0 then(v+(n:Int)).toNat else min v.toNat n)<=n
  by_cases hv:v<0
  ·rw[if_pos hv];lia
  ·rw[if_neg hv];exact r9 _ _
theorem eZ (v:Int)(n d:Nat):(if v<0 then max (v+(n:Int)) 0 else min v (n:Int))=((sIx n d (some v):Nat):Int):=by
 show(if v<0 then max (v+(n:Int)) 0 else min v (n:Int))=(((if v<0 then(v+(n:Int)).toNat else min v.toNat n):Nat):Int)
 by_cases hv:v<0
 ·simp only[if_pos hv];lia
 ·simp only[if_neg hv]
  obtain⟨m,rfl⟩:=y9 (HF.mp hv);rw[fz];lia
theorem Zy (lo hi:Option Int)(n:Nat):pz lo hi 1 (n:Int)=(((sIx n 0 lo:Nat):Int),((sIx n n hi:Nat):Int)):=by
 have h1:¬((1:Int)<0):=by lia
 unfold pz;simp only[h1,if_false];refine zq ?_ ?_
 ·cases lo with
  |none=>rfl
  |some v=>exact eZ v n 0
 ·cases hi with
  |none=>rfl
  |some v=>exact eZ v n n
theorem Zx (i j:Nat):l8 (i:Int) (j:Int) 1=j-i:=by
 unfold l8;have h1:(1:Int)>0:=by lia
 simp only[h1,if_true,Int.ediv_one];split<;>lia
theorem Rr {v:dr}{o:Option Int}{Q:Option Int->dv->Prop}(p:vt v o)(h:Q o s):wpAny (model prog w) A (FN v) Q E s:=by
 cases p with
 |none=>exact GY h
 |int i t=>exact slicePart_int h
theorem sliceApplied_gen {sl:de}{vl vu:dr}{lo hi:Option Int}{n:Nat}{Q:Int×Int×Nat->dv->Prop}(hs:s.heap.IsSliceOf sl vl vu .none)(pl:vt vl lo)(pu:vt vu hi)
  (h:Q (((sIx n 0 lo:Nat):Int),1,sIx n n hi-sIx n 0 lo) s):wpAny (model prog w) A (va (.ref sl) (pure (n:Int))) Q E s:=by
 obtain⟨os,hos,hcs,hds⟩:=id hs;unfold va FO;refine wpAny_bind (wpAny_bind (m8 hos hds (x:=vl) rfl (wpAny_bind (m8 hos hds (x:=vu) rfl (wpAny_bind (m8 hos hds (x:=.none) rfl (d4 ?_)))))));refine wpAny_bind (GY ?_);show wpAny _ _ (if((1:Int)==0)=true then _ else _) _ _ s;rw[if_neg (by decide)];refine wpAny_bind (Rr pl (wpAny_bind (Rr pu (wpAny_bind (d4 ?_)))));show wpAny _ _ (match pz lo hi 1 (n:Int) with|(lo,hi)=>pure (lo,(1:Int),l8 lo hi 1)) _ _ s;rw[Zy lo hi n];show wpAny _ _ (pure (((sIx n 0 lo:Nat):Int),(1:Int),l8 ((sIx n 0 lo:Nat):Int) ((sIx n n hi:Nat):Int) 1)) _ _ s;rw[Zx];exact d4 h
theorem mH (xs:Array dr)(i k:Nat):((di k).filterMap λ(m:Nat)=>xs[((i:Int)+(m:Int)*1).toNat]?).toArray=((xs.toList.drop i).take k).toArray:=by
 have e:(λ(m:Nat)=>xs[((i:Int)+(m:Int)*1).toNat]?)=λm=>xs[i+m]?:=by
  funext m
  have:((i:Int)+(m:Int)*1).toNat=i+m:=by lia
  rw[this]
 rw[e];have:=GZ xs i k;rw[AU] at this;have e2:((λx=>xs[x]?) ∘ λx=>i+x)=λm=>xs[i+m]?:=rfl;rw[e2] at this;rw[this]
theorem getItem_tuple_cut {t sl:de}{items:Array dr}{vl vu:dr}{lo hi:Option Int}{Q:Za0}(ht:IsTup s.heap t items)(hs:s.heap.IsSliceOf sl vl vu .none)(pl:vt vl lo)(pu:vt vu hi)
  (hw:¬(sIx items.size 0 lo=0/\sIx items.size items.size hi=items.size))
  (h:Q (.ref s.heap.objs.size) { s with heap:=s.heap.push { cls:=.type "tuple",data:=.seq ((items.toList.drop (sIx items.size 0 lo)).take (sIx items.size items.size hi-sIx items.size 0 lo)).toArray } })
  (hsz:items.size<=sizeLine):wpAny (model prog w) A (getItem (.ref t) (.ref sl)) Q E s:=by
 have htake:sizeOk (.seq ((items.toList.drop (sIx items.size 0 lo)).take (sIx items.size items.size hi-sIx items.size 0 lo)).toArray):=by
  show((items.toList.drop (sIx items.size 0 lo)).take (sIx items.size items.size hi-sIx items.size 0 lo)).toArray.size<=sizeLine;rw[d9,eg,gh,fb];exact gm (r9 _ _) (gm (HC _ _) hsz)
 have hj:sIx items.size items.size hi<=items.size:=sIx_le _ _ (c9 _) hi;obtain⟨os,hos,hcs,hds⟩:=id hs;have hTs:s.TypeIs (.ref sl) "slice":=⟨os,hos,hcs⟩;unfold getItem
 try with_reducible refine wpAny_holding ?_
 first|refine wpAny_bind (d4 ?_)|skip
 refine wpAny_bind (EE ht.typeIs (by decide) ?_);refine wpAny_bind (o6 (name:=ou "__getitem__") ht.typeIs jb
  (qc jb ht.typeIs entry_tuple_getitem ?_ (DS _ _)))
 show wpAny _ _ (u9 (.ref t) >>= _) _ _ s;refine wpAny_bind (HM ht ?_);refine wpAny_bind (pe hTs ?_);rw[if_pos (by decide)];refine wpAny_bind (sliceApplied_gen hs pl pu ?_);have hno:¬((((sIx items.size 0 lo:Nat):Int)==0&&(1:Int)==1&&(sIx items.size items.size hi-sIx items.size 0 lo)==items.size)=true):=by
  intro q;rw[kl,kl] at q;have q1:((sIx items.size 0 lo:Nat):Int)=0:=eq_of_beq q.1.1;have q2:sIx items.size items.size hi-sIx items.size 0 lo=items.size:=eq_of_beq q.2;exact hw ⟨by lia,by lia⟩
 show wpAny _ _ (if(((sIx items.size 0 lo:Nat):Int)==0&&(1:Int)==1&&(sIx items.size items.size hi-sIx items.size 0 lo)==items.size)=true then _ else _) _ _ s;rw[if_neg hno,mH]
 first
  |exact wpAny_bind (m:=me _) (ln (d4 ⟨_,rfl,d4 h⟩) htake)
  |exact wpAny_bind (m:=me _) (ln (wpAny_bind (d4 (d4 ⟨_,rfl,d4 h⟩))) htake)
  |exact wpAny_bind (wpAny_bind (m:=me _) (ln (d4 (d4 ⟨_,rfl,d4 h⟩)) htake))
  |exact wpAny_bind (wpAny_bind (m:=me _) (ln (d4 ⟨_,rfl,d4 h⟩) htake))
end
end HT
namespace L2
open PySem PySem.Spec PyProof.Rows
variable {C CB CC CO CP CS Pt d dx i1 i2 it l1 l2:de} {A:ic} {op:vv} {X:Cx} {D:Hk} {env:Env} {iter tg:gv} {fd:i0} {base h h':iq} {H H' H0 H1 H2:Hp} {J:It} {pins:Za1} {as fp:List de} {ms:Za5} {es:List gv} {ks ws:List Int} {cs ns:Za4} {N kz nm ps:Za6} {xs ys:List V} {us vs:Za3} {M:wn} {n t':Nat} {oT:Obj} {an od:Option de} {pos:Pos} {B:Prop} {scope:l9} {pl:Sem Bool} {s s2:dv} {sp:Sp} {qual z:Str} {te:TE} {wi:TI} {y:V} {cdv ct doc oc pm:dr} {w:gl}
abbrev TO:=St->Hp->(Option Int->Hp->Prop)->Prop
def PO (X:Cx)(e:Option gv)(t:TO):Prop:=
 ∀(pins:Za1) (s:dv) (Y:St) (H:Hp) (Q:Option Int->Hp->Prop),Inv X pins Y H s->t Y H Q ->
  wpAny (model X.prog X.w) X.A (evalPart e X.env) (λu s'=>∃o H',Inv X pins Y H' s'/\vt u o/\Q o H') X.xe s
def dJ:TO:=λ_ H Q=>Q none H
def tT (t:TE):TO:=λY H Q=>t Y H λx H1=>∃i,x=.int i/\Q (some i) H1
theorem P0 {ns:List Int}:∀{us:Za3},Au (ns.map V.int) us->pq us ns:=by
 induction ns with
 |nil=>intro us r;rw[oi] at r;cases r;exact .nil
 |cons n ns ih=>
  intro us r;rw[fm] at r
  cases r with
  |cons r1 r2=>
   obtain⟨t,e⟩:=r1;subst e;exact .cons n t (ih r2)
section
variable {X:Cx} {e:gv} {te:TE} {lo hi:Option gv} {tl th:TO} {pos p2:Pos}
theorem Hh:PO X none dJ:=by
 k_in;rw[wl];exact d4 ⟨none,H,I,.none,h⟩
theorem Bz (h:PE X e te):PO X (some e) (tT te):=by
 intro pins s Y H Q I hw;rw[evalPart_some];refine thE h I hw λu s1 x H1 I1 r1 q1=>?_;obtain⟨i,rfl,q⟩:=q1;obtain⟨t,rfl⟩:=r1;exact⟨some i,H1,I1,.int i t,q⟩
def SlR (X:Cx)(r:V->Option Int->Option Int->Hp->VK->Prop):Prop:=
 ∀(pins:Za1) (s:dv) (Y:St) (H:Hp) (x:V) (v vl vu:dr) (lo hi:Option Int) (sl:de) (Q:VK),Inv X pins Y H s->A8 x v->s.heap.IsSliceOf sl vl vu .none->vt vl lo->vt vu hi->r x lo hi H Q ->
  ∃T id,typeLookup (.type T) "__getitem__"=pure (some (.builtin id))/\s.TypeIs v T/\wpAny (model X.prog X.w) X.A (getItem v (.ref sl)) (EP X pins Y Q) X.xe s
def tSl (r:V->Option Int->Option Int->Hp->VK->Prop)(te:TE)(tl th:TO):TE:=λY H Q=>te Y H λx H1=>tl Y H1 λl H2=>th Y H2 λu H3=>r x l u H3 Q
theorem Cg {r:V->Option Int->Option Int->Hp->VK->Prop}(hr:SlR X r)(he:PE X e te)(hl:PO X lo tl)(hu:PO X hi th):PE X (.Subscript e (.Slice lo hi none p2) pos) (tSl r te tl th):=by
 k_in;refine Subscript_ (thE he I h λv s1 x H1 I1 r1 q1=>?_);refine CT (thn (hl pins s1 Y H1 _ I1 q1) λvl s2 ⟨l,H2,I2,pl,q2⟩=>thn (hu pins s2 Y H2 _ I2 q2) λvu s3 ⟨u,H3,I3,pu,q3⟩=>?_);rw[wl];refine d4 ?_;have I4:Inv X pins Y H3 { s3 with heap:=s3.heap.push { cls:=.type "slice",data:=.fields #[vl,vu,.none] } }:=I3.kept (t':=s3.toks) λb ob q=>dg _ q;obtain⟨T,id,hT,ht,hg⟩:=hr pins { s3 with heap:=s3.heap.push { cls:=.type "slice",data:=.fields #[vl,vu,.none] } } Y H3 x v vl vu l u s3.heap.objs.size Q I4 r1 (xk ..) pl pu q3;show wpAny (model X.prog X.w) X.A (subscriptTail e (.Slice lo hi none p2) v (.ref s3.heap.objs.size)) (EP X pins Y Q) X.xe { s3 with heap:=s3.heap.push { cls:=.type "slice",data:=.fields #[vl,vu,.none] } };exact xo (ops:=[.ref s3.heap.objs.size,v]) ht hT hg (by with_unfolding_all rfl)
def Gj (xs:List V)(lo hi:Option Int):List V:=(xs.drop (HT.sIx xs.length 0 lo)).take (HT.sIx xs.length xs.length hi-HT.sIx xs.length 0 lo)
theorem Nl (xs:List V)(lo hi:Option Int):(Gj xs lo hi).length<=xs.length:=by
 unfold Gj;rw[eg,gh];exact gm (r9 _ _) (HC _ _)
def Aaq (K:c7):V->Option Int->Option Int->Hp->VK->Prop:=λx lo hi H Q=>∃a xs,x=.ref a/\SqT K H a xs /\
 ¬(HT.sIx xs.length 0 lo=0/\HT.sIx xs.length xs.length hi=xs.length)/\∀p,H p=none->Q (.ref p) (upd H p (.tup (Gj xs lo hi)))
theorem wJ:SlR X (Aaq X.K):=by
 intro pins s Y H x v vl vu lo hi sl Q I rx hs pl pu h;obtain⟨a,xs,rfl,hx,hw,q⟩:=h;cases rx;obtain⟨its,r,ht,hz⟩:=I.tuple hx;have hlen:its.toArray.size=xs.length:=by rw[d9];exact r.length.symm
 refine⟨"tuple",_,jb.lookup,ht.typeIs,?_⟩;refine HT.getItem_tuple_cut ht hs pl pu (by rw[hlen];exact hw) ?_ (by rw[hlen];exact hz);rw[hlen];refine⟨.ref s.heap.objs.size,_,I.laid (t':=s.toks) (o:=.tup (Gj xs lo hi)) (λb ob q=>dg _ q) (c9 _) ?_,rfl,q _ (I.hok.fresh (c9 _))⟩;exact⟨gm (Nl xs lo hi) hz,_,(r.drop (HT.sIx xs.length 0 lo)).take (HT.sIx xs.length xs.length hi-HT.sIx xs.length 0 lo),GT _ _⟩
end
def ixN (n:Nat)(i:Int):Option Nat:=if 0<=i then(if i<n then some i.toNat else none) else if -(n:Int)<=i then some (i+n).toNat else none
def atI {α:Type}(xs:List α)(i:Int):Option α:=(ixN xs.length i).bind λj=>xs[j]?
theorem eC {i:Int}{j:Nat}(h:ixN n i=some j):seqIndex? i n=some j/\j<n/\-(n:Int)<=i/\i<n:=by
 unfold ixN at h
 by_cases h0:0<=i
 ·rw[if_pos h0] at h
  by_cases h1:i<n
  ·rw[if_pos h1] at h
   have e:i.toNat=j:=dh h;exact⟨by rw[CV h0 h1,e],by lia,by lia,h1⟩
  ·rw[if_neg h1] at h;cases h
 ·rw[if_neg h0] at h
  by_cases h1:-(n:Int)<=i
  ·rw[if_pos h1] at h
   have e:(i+n).toNat=j:=dh h;exact⟨by rw[BB (by lia) h1,e],by lia,h1,by lia⟩
  ·rw[if_neg h1] at h;cases h
theorem Vh {α:Type}{xs:List α}{i:Int}{v:α}(h:atI xs i=some v):∃j,seqIndex? i xs.length=some j/\xs[j]?=some v/\j<xs.length/\-(xs.length:Int)<=i/\i<xs.length:=by
 unfold atI at h
 cases e:ixN xs.length i with
 |none=>rw[e] at h;cases h
 |some j=>
  rw[e] at h;obtain⟨h1,h2,h3,h4⟩:=eC e;exact⟨j,h1,h,h2,h3,h4⟩
theorem Bj {α:Type}{xs:List α}{j:Nat}{v:α}(h:xs[j]?=some v):atI xs (j:Int)=some v:=by
 have hj:j<xs.length:=(dk.mp h).1;have e:ixN xs.length (j:Int)=some j:=by
  unfold ixN;rw[if_pos (by lia),if_pos (by lia)];simp
 unfold atI;rw[e];exact h
theorem Xu {α:Type}(xs:List α)(v:α):atI (xs++[v]) (-1)=some v:=by
 have hl:(xs++[v]).length=xs.length+1:=by simp
 have e:ixN (xs++[v]).length (-1)=some xs.length:=by
  unfold ixN;rw[hl,if_neg (by decide),if_pos (by lia)];congr 1;lia
 unfold atI;rw[e];show(xs++[v])[xs.length]?=some v;simp
def eP (b:gv):Prop:=∀o i,subscripted b false o i=operate [o,i] (getItem o i)
def IxR (X:Cx)(r:R2):Prop:=
 ∀(value slice:gv) (pins:Za1) (s:dv) (Y:St) (H:Hp) (x y:V) (v u:dr) (Q:VK),Inv X pins Y H s->A8 x v->A8 y u->r x y H Q ->
  subscripted slice false v u=operate [v,u] (getItem v u)->wpAny (model X.prog X.w) X.A (subscriptTail value slice v u) (EP X pins Y Q) X.xe s
def MtR (X:Cx)(id:String)(r:V->List V->Hp->VK->Prop):Prop:=
 ∀(pins:Za1) (s:dv) (Y:St) (H:Hp) (x:V) (xs:List V) (v:dr) (us:Za3) (Q:VK),Inv X pins Y H s->A8 x v->Au xs us->r x xs H Q ->
  wpAny (model X.prog X.w) X.A (call (.builtin id) (v::us)) (EP X pins Y Q) X.xe s
section
variable {X:Cx} {a b:gv} {ta tb:TE} {pos:Pos}
theorem yU {r:R2}(hr:IxR X r)(ha:PE X a ta)(hb:PE X b tb)(hs:eP b):PE X (.Subscript a b pos) (tOp r ta tb):=by
 k_in;exact Subscript_ (uO ha hb I h λv u s2 x y H2 I2 rx ry q=>hr a b pins s2 Y H2 x y v u Q I2 rx ry q (hs _ _))
def vE (K:c7):R2:=λx y H Q=>∃p xs i v,x=.ref p/\y=.int i/\SqL K H p xs/\atI xs i=some v/\Q v H
def qJ (K:c7):R2:=λx y H Q=>∃p xs i v,x=.ref p/\y=.int i/\SqT K H p xs/\atI xs i=some v/\Q v H
def Aas:R2:=λx y H Q=>∃z i c,x=.str z/\y=.int i/\z.length<=sizeLine/\atI z.cps.toList i=some c/\Q (.str ⟨#[c]⟩) H
theorem Bu:IxR X (vE X.K):=by
 intro value slice pins s Y H x y v u Q I rx ry h hs;obtain⟨p,xs,i,z,rfl,rfl,hq,he,q⟩:=h;cases rx;obtain⟨t,rfl⟩:=ry;obtain⟨its,r,pl,hz⟩:=I.list hq;obtain⟨j,h1,h2,h3,h4,h5⟩:=Vh he;obtain⟨w,ew,rw'⟩:=r.get h2;have hl:=r.length;have hn:=Ko;have fin:EP X pins Y Q w s:=⟨z,H,I,rw',q⟩
 by_cases h0:0<=i
 ·have hj:i.toNat=j:=by
   rw[CV h0 h5] at h1;exact dh h1
  exact item_listR pl.isList h0 (by lia) (by rw[hj];simpa using ew) fin hs
 ·have hj:(i+(its.toArray.size:Int)).toNat=j:=by
   rw[BB (by lia) h4] at h1;rw[d9,<-hl];exact dh h1
  exact BA (x:=w) pl.isList.typeIs slot_list_getitem.lookup
   (wpAny_getItem_list_neg (Q:=λr s'=>r=w/\EP X pins Y Q r s') pl.isList (by lia) (by rw[d9]<;>lia) (by lia) (by rw[hj];simpa using ew) ⟨rfl,fin⟩) hs
theorem Du:IxR X (qJ X.K):=by
 intro value slice pins s Y H x y v u Q I rx ry h hs;obtain⟨p,xs,i,z,rfl,rfl,hq,he,q⟩:=h;cases rx;obtain⟨t,rfl⟩:=ry;obtain⟨its,r,pl,hz⟩:=I.tuple hq;obtain⟨j,h1,h2,h3,h4,h5⟩:=Vh he;obtain⟨w,ew,rw'⟩:=r.get h2;have hl:=r.length;have hn:=Ko;have fin:EP X pins Y Q w s:=⟨z,H,I,rw',q⟩;exact BA (x:=w) pl.typeIs slot_tuple_getitem.lookup
  (getItem_tuple (j:=j) (Q:=λr s'=>r=w/\EP X pins Y Q r s') pl (by lia) (by lia) (by rw[d9,<-hl];exact h1) (by simpa using ew) ⟨rfl,fin⟩) hs
theorem mK:IxR X Aas:=by
 intro value slice pins s Y H x y v u Q I rx ry h hs;obtain⟨z,i,c,rfl,rfl,hz,he,q⟩:=h;obtain⟨t,rfl⟩:=rx;obtain⟨t',rfl⟩:=ry;obtain⟨j,h1,h2,h3,h4,h5⟩:=Vh he;have hl:z.cps.toList.length=z.length:=by simp[sy]
 rw[hl] at h1 h4 h5;have hn:=Ko;exact xo (zg s z t) slot_str_getitem.lookup (getItem_str (c:=c) (by
  have e1:decide (i < -(2 ^ 63:Int))=false:=decide_eq_false (by lia);have e2:decide (i>=2 ^ 63)=false:=decide_eq_false (by lia);rw[e1,e2,vb]) (by rw[h1];simpa using h2) ⟨.str ⟨#[c]⟩,H,I.tok _,⟨_,rfl⟩,q⟩) hs
theorem Zm (its:Za3)(n j:Nat)(u:dr):i5 (·.setIfInBounds j u) { cls:=.type "list",data:=.seq its.toArray n }={ cls:=.type "list",data:=.seq (its.set j u).toArray n }:=by
 simp[i5]
theorem Inv.lst {Y:St}{p:de}(I:Inv X pins Y H s)(h:H p=some (.lst xs)) :
  ∃(its:Za3) (n:Nat),Au xs its/\s.heap.get? p=some { cls:=.type "list",data:=.seq its.toArray n }/\xs.length<=sizeLine:=by
 obtain⟨z,its,n,r,e⟩:=I.hok p _ h;exact⟨its,n,r,e,z⟩
theorem Inv.lstUpd {Y:St}{p:de}{its its':Za3}{n':Nat}{f:Obj->Obj}(I:Inv X pins Y H s)(h:H p=some (.lst xs))
  (ho:s.heap.get? p=some { cls:=.type "list",data:=.seq its.toArray n })(hf:f { cls:=.type "list",data:=.seq its.toArray n }={ cls:=.type "list",data:=.seq its'.toArray n' })(r:Au ys its')(hz:ys.length<=sizeLine)(t:Nat) :
  Inv X pins Y (upd H p (.lst ys)) { s with heap:=s.heap.update p f,toks:=t }:=by
 have e:(s.heap.update p f).get? p=some { cls:=.type "list",data:=.seq its'.toArray n' }:=by
  rw[Heap.get?_update_self f ho (by rw[hf]<;>rfl),hf]
 refine I.write (x:=p) (e:=p) (by rw[h];trivial) (.inl rfl) (λb u hb q=>(sr _ _ (qq hb)).trans q) ⟨_,e⟩ ?_;exact⟨hz,its',n',r,e⟩
def pF:V->V->V->Hp->(Hp->Prop)->Prop:=λo i v H Q=>∃p xs k j,o=.ref p/\i=.int k/\H p=some (.lst xs)/\ixN xs.length k=some j/\Q (upd H p (.lst (xs.set j v)))
theorem Ph:yS X pF:=by
 intro pins s Y H o i v ov iv u Q I ro ri rv h;obtain⟨p,xs,k,j,rfl,rfl,hp,hj,q⟩:=h;cases ro;obtain⟨t,rfl⟩:=ri;obtain⟨its,n,r,ho,hz⟩:=I.lst hp;obtain⟨h1,h2,h3,h4⟩:=eC hj;have hl:=r.length;have hn:=Ko;have I':Inv X pins Y (upd H p (.lst (xs.set j v))) { s with heap:=s.heap.update p (i5 (·.setIfInBounds j u)) }:=
  I.lstUpd hp ho (Zm its n j u) (r.set rv j) (by rw[xh];exact hz) s.toks
 by_cases h0:0<=k
 ·have hk:k.toNat=j:=by
   rw[CV h0 h4] at h1;exact dh h1
  exact PySem.W.ki_setAt ho h0 (by lia) (by rw[d9,<-hl];exact h4) (by rw[hk];exact⟨_,I',q⟩)
 ·have hk:(k+(its.toArray.size:Int)).toNat=j:=by
   rw[BB (by lia) h3] at h1;rw[d9,<-hl];exact dh h1
  exact PySem.W.ki_setBack ho (by lia) (by rw[d9,<-hl];exact h3) (by lia) (by rw[hk];exact⟨_,I',q⟩)
theorem Uu (lo hi:Option Int)(n:Nat):(sliceBounds lo hi none n).1=((HT.sIx n 0 lo:Nat):Int)/\(sliceBounds lo hi none n).2.1=((HT.sIx n n hi:Nat):Int)/\(sliceBounds lo hi none n).2.2=1:=by
 refine⟨?_,?_,rfl⟩
 ·cases lo with
  |none=>simp[sliceBounds,HT.sIx]
  |some i=>
   simp only[sliceBounds,HT.sIx,AL,show(1:Int)>0 by decide,if_true]
   by_cases h:i<0
   ·simp only[h,if_true]<;>lia
   ·simp only[h,if_false]
    obtain⟨m,rfl⟩:=y9 (HF.mp h);rw[fz];lia
 ·cases hi with
  |none=>simp[sliceBounds,HT.sIx]
  |some i=>
   simp only[sliceBounds,HT.sIx,AL,show(1:Int)>0 by decide,if_true]
   by_cases h:i<0
   ·simp only[h,if_true]<;>lia
   ·simp only[h,if_false]<;>lia
theorem So (its:Za3)(lo hi:Option Int):slicePick its.toArray lo hi none=((its.drop (HT.sIx its.length 0 lo)).take (HT.sIx its.length its.length hi-HT.sIx its.length 0 lo)).toArray:=by
 obtain⟨h1,h2,h3⟩:=Uu lo hi its.toArray.size;unfold slicePick;rw[h1,h2,h3];simp only[GX,GZ,d9]<;>rfl
def Aar (K:c7):V->Option Int->Option Int->Hp->VK->Prop:=λx lo hi H Q=>∃a xs,x=.ref a/\SqL K H a xs/\∀p,H p=none->Q (.ref p) (upd H p (.lst (Gj xs lo hi)))
theorem Oi:SlR X (Aar X.K):=by
 intro pins s Y H x v vl vu lo hi sl Q I rx hs pl pu h;obtain⟨a,xs,rfl,hx,q⟩:=h;cases rx;obtain⟨its,r,ht,hz⟩:=I.list hx;have hlen:=r.length;refine⟨"list",_,slot_list_getitem.lookup,ht.isList.typeIs,?_⟩;refine z5 ht.isList hs pl pu .none (by simp) ?_ (by rw[d9]<;>lia)
 rw[So,<-hlen];refine⟨.ref s.heap.objs.size,_,I.laid (t':=s.toks) (o:=.lst (Gj xs lo hi)) (λb ob q=>dg _ q) (c9 _) ?_,rfl,q _ (I.hok.fresh (c9 _))⟩;exact⟨gm (Nl xs lo hi) hz,_,0,(r.drop (HT.sIx xs.length 0 lo)).take (HT.sIx xs.length xs.length hi-HT.sIx xs.length 0 lo),fv _ rfl⟩
def Em:V->Bool
 |.non=>true
 |.bl _=>true
 |.int _=>true
 |.str _=>true
 |_=>false
def eqV:V->V->Bool
 |.non,.non=>true
 |.bl a,.bl b=>a==b
 |.bl a,.int b=>(if a then 1 else 0)==b
 |.int a,.bl b=>a==(if b then 1 else 0)
 |.int a,.int b=>a==b
 |.str a,.str b=>a==b
 |_,_=>false
theorem Zc {x:V}{u v:dr}(ry:A8 y u)(rx:A8 x v)(fy:Em y=true)(fx:Em x=true):ut A s u v (eqV y x):=by
 cases y with
 |non=>
  cases ry
  cases x with
  |non=>cases rx;exact vd _
  |bl b=>cases rx;exact HZ b
  |int b=>obtain⟨t,rfl⟩:=rx;exact HY b t
  |str b=>obtain⟨t,rfl⟩:=rx;exact HX b t
  |_=>exact absurd (show false=true from fx) fu
 |bl a=>
  cases ry
  cases x with
  |non=>cases rx;exact IE a
  |bl b=>cases rx;exact IG a b
  |int b=>obtain⟨t,rfl⟩:=rx;exact IF a b t
  |str b=>obtain⟨t,rfl⟩:=rx;exact ID a b t
  |_=>exact absurd (show false=true from fx) fu
 |int a=>
  obtain⟨t',rfl⟩:=ry
  cases x with
  |non=>cases rx;exact IA a t'
  |bl b=>cases rx;exact IC a t' b
  |int b=>obtain⟨t,rfl⟩:=rx;exact yo a t' b t
  |str b=>obtain⟨t,rfl⟩:=rx;exact yn a t' b t
  |_=>exact absurd (show false=true from fx) fu
 |str a=>
  obtain⟨t',rfl⟩:=ry
  cases x with
  |non=>cases rx;exact HV a t'
  |bl b=>cases rx;exact HW a t' b
  |int b=>obtain⟨t,rfl⟩:=rx;exact yl a t' b t
  |str b=>obtain⟨t,rfl⟩:=rx;exact yk a t' b t
  |_=>exact absurd (show false=true from fx) fu
 |_=>exact absurd (show false=true from fy) fu
def eqU (x:V)(u:dr):Bool:=match u with
 |.none=>eqV .non x
 |.bool b=>eqV (.bl b) x
 |.int i _=>eqV (.int i) x
 |.str z _=>eqV (.str z) x
 |_=>false
theorem lN {x:V}{u:dr}(r:A8 y u)(f:Em y=true):eqU x u=eqV y x:=by
 cases y with
 |non=>cases r;rfl
 |bl b=>cases r;rfl
 |int i=>obtain⟨t,rfl⟩:=r;rfl
 |str z=>obtain⟨t,rfl⟩:=r;rfl
 |_=>exact absurd (show false=true from f) fu
theorem Xk {A:ic}{s:dv}{x:V}{v:dr}(rx:A8 x v)(fx:Em x=true):∀{xs:List V} {us:Za3},Au xs us->xs.all Em=true->∀u∈us,ut A s u v (eqU x u)
 |_,_,.nil,_=>λu hu=>by cases hu
 |y::xs,u::us,.cons r t,f=>λu' hu=>by
  rw[uz,kl] at f;rcases gr.mp hu with rfl|hu
  ·rw[lN r f.1];exact Zc r rx f.1 fx
  ·exact Xk rx fx t f.2 u' hu
theorem U4:OpR X (compareOp .NotIn) (λx y H Q=>∃i j,x=.str i/\y=.str j/\Q (.bl (!(!(j5 j i 0 j.length 1).isEmpty))) H):=by
 intro pins s Y H x y v u Q I rx ry h;obtain⟨i,j,rfl,rfl,q⟩:=h;obtain⟨t,rfl⟩:=rx;obtain⟨t',rfl⟩:=ry;exact notIn_str ⟨.bl _,H,I,rfl,q⟩
theorem Aq:Ec X (.builtin "len") (λxs H Q=>∃p ys,xs=[.ref p]/\(SqL X.K H p ys\/SqT X.K H p ys)/\Q (.int ys.length) H):=by
 intro pins s Y H xs us Q I r h;obtain⟨p,ys,rfl,hq,q⟩:=h;obtain⟨u,rfl,rx⟩:=E6 r;cases rx;have hn:=Ko;rcases hq with hq|hq
 ·obtain⟨its,r',pl,hz⟩:=I.list hq
  have hlen:=r'.length;exact Calls.call_len_list pl.isList (by simp only[d9]<;>lia) ⟨.int ys.length,H,I.tok _,⟨s.toks+1,by rw[d9,hlen]⟩,q⟩
 ·obtain⟨its,r',pl,hz⟩:=I.tuple hq
  have hlen:=r'.length;exact len_tuple pl (by simp only[d9]<;>lia) ⟨.int ys.length,H,I.tok _,⟨s.toks+1,by rw[d9,hlen]⟩,q⟩
theorem Bt:Ec X (.builtin "len") (λxs H Q=>∃z,xs=[.str z]/\z.length<=sizeLine/\Q (.int z.length) H):=by
 intro pins s Y H xs us Q I r h;obtain⟨z,rfl,hz,q⟩:=h;obtain⟨u,rfl,t,rfl⟩:=E6 r;have hn:=Ko;exact len_str (by lia) ⟨.int z.length,H,I.tok _,⟨_,rfl⟩,q⟩
theorem Hg:Ec X (.type "list") (λxs H Q=>∃p ys,xs=[.ref p]/\(SqL X.K H p ys\/SqT X.K H p ys)/\∀l,H l=none->Q (.ref l) (upd H l (.lst ys))):=by
 intro pins s Y H xs us Q I r h;obtain⟨p,ys,rfl,hq,q⟩:=h;obtain⟨u,rfl,rx⟩:=E6 r;cases rx;have fin:∀(its:Za3),Au ys its->ys.length<=sizeLine->∀(h':iq) (c':Nat),(∀b o',s.heap.get? b=some o'->h'.get? b=some o') ->
   h'.get? s.heap.objs.size=some { cls:=.type "list",dict:=none,data:=.seq its.toArray c',slots:=#[] }->EP X pins Y Q (.ref s.heap.objs.size) { s with heap:=h' }:=λits r' hz h' c' kp e=>
  ⟨.ref s.heap.objs.size,_,I.laid (t':=s.toks) kp (c9 _) (show Cc X.prog X.w _ h' _ (.lst ys) from⟨hz,its,c',r',e⟩),rfl,q _ (I.hok.fresh (c9 _))⟩
 rcases hq with hq|hq
 ·obtain⟨its,r',pl,hz⟩:=I.list hq
  have hlen:=r'.length;obtain⟨o,ho,hc,n,hd⟩:=pl.isList;exact HS p (.inl rfl) ho hc hd (λh' c' kp e=>fin its r' hz h' c' kp e) (by simp only[d9]<;>lia)
 ·obtain⟨its,r',pl,hz⟩:=I.tuple hq
  have hlen:=r'.length;obtain⟨o,ho,hc,n,hd⟩:=pl;exact HS p (.inr rfl) ho hc hd (λh' c' kp e=>fin its r' hz h' c' kp e) (by simp only[d9]<;>lia)
theorem Dn:Ec X (.type "tuple") (λxs H Q=>∃p ys,xs=[.ref p]/\((SqL X.K H p ys/\∀l,H l=none->Q (.ref l) (upd H l (.tup ys)))\/(SqT X.K H p ys/\Q (.ref p) H))):=by
 intro pins s Y H xs us Q I r h;obtain⟨p,ys,rfl,h⟩:=h;obtain⟨u,rfl,rx⟩:=E6 r;cases rx;rcases h with⟨hq,q⟩|⟨hq,q⟩
 ·obtain⟨its,r',pl,hz⟩:=I.list hq
  have hlen:=r'.length;refine call_tuple_list pl.isList (λh' kp=>?_) (by simp only[d9]<;>lia)
  have I1:Inv X pins Y H { s with heap:=h' }:=I.kept (t':=s.toks) kp;have I2:Inv X pins Y (upd H h'.objs.size (.tup ys)) { s with heap:=h'.push { cls:=.type "tuple",data:=.seq its.toArray } }:=
   I1.laid (t':=s.toks) (λb o e=>dg _ e) (c9 _) (show Cc X.prog X.w _ _ _ (.tup ys) from⟨hz,its,r',GT _ _⟩)
  exact⟨.ref h'.objs.size,_,I2,rfl,q _ (I1.hok.fresh (c9 _))⟩
 ·obtain⟨its,r',pl,hz⟩:=I.tuple hq
  exact call_tuple_same pl ⟨.ref p,H,I,rfl,q⟩
def tyV (K:c7)(T:String)(x:V)(H:Hp):Prop:=match x with
 |.str _=>T="str"
 |.int _=>T="int"
 |.ref p=>(T="list"/\∃xs,SqL K H p xs)\/(T="tuple"/\∃o,K.lookup p=some o/\o.cls=.type "tuple"/\o.dict=none) \/
   (T="dict"/\((∃kvs,H p=some (.dK kvs))\/∃kvs,H p=some (.dT kvs)))\/(T="set"/\∃S n,H p=some (.set S n))
 |_=>False
theorem mR {Y:St}{T:String}{x:V}{v:dr}(I:Inv X pins Y H s)(r:A8 x v)(ty:tyV X.K T x H) :
  s.TypeIs v T/\∀a,v=.ref a->∃ob,s.heap.get? a=some ob/\ob.dict=none:=by
 cases x with
 |str z=>
  obtain⟨t,rfl⟩:=r;cases(show T="str" from ty);exact⟨zg s z t,λ_ e=>nomatch e⟩
 |int i=>
  obtain⟨t,rfl⟩:=r;cases(show T="int" from ty);exact⟨DQ s i t,λ_ e=>nomatch e⟩
 |ref p=>
  cases r;rcases ty with⟨rfl,xs,hq⟩|⟨rfl,o,hk,hc,hd⟩|⟨rfl,hk⟩|⟨rfl,S,n,hk⟩
  ·obtain⟨its,_,pl,_⟩:=I.list hq
   refine⟨pl.isList.typeIs,λa e=>?_⟩;cases e;obtain⟨o,n,e,c,hd,_⟩:=pl;exact⟨o,e,hd⟩
  ·refine⟨⟨o,I.kIn p o hk,hc⟩,λa e=>?_⟩
   cases e;exact⟨o,I.kIn _ o hk,hd⟩
  ·have z:∃o,s.heap.get? p=some o/\o.ExactDict:=by
    rcases hk with⟨kvs,hk⟩|⟨kvs,hk⟩
    ·obtain⟨_,_,_,_,o,_,_,e,ex,_⟩:=I.hok p _ hk
     exact⟨o,e,ex⟩
    ·obtain⟨_,_,_,_,o,_,_,e,ex,_⟩:=I.hok p _ hk
     exact⟨o,e,ex⟩
   obtain⟨o,e,ex⟩:=z;refine⟨⟨o,e,ex.1⟩,λa e2=>?_⟩;cases e2;exact⟨o,e,ex.2.1⟩
  ·obtain⟨o,_,_,_,e,ex,_⟩:=I.hok p _ hk
   refine⟨⟨o,e,ex.1⟩,λa e2=>?_⟩;cases e2;exact⟨o,e,ex.2.1⟩
 |_=>exact km ty
def xY (K:c7)(T:String)(r:V->List V->Hp->VK->Prop)(to:TE):TE:=λY H Q=>to Y H λx H1=>tyV K T x H1/\r x [] H1 Q
def tBM (K:c7)(T:String)(r:V->List V->Hp->VK->Prop)(to:TE)(t:TA):TE:=λY H Q=>to Y H λx H1=>tyV K T x H1/\t Y H1 λxs H2=>r x xs H2 Q
variable {o e:gv} {es:List gv} {to:TE} {t:TA} {name:Str} {apos cpos:Pos} {T id:String} {r:V->List V->Hp->VK->Prop}
theorem Vj (pa:DW T)(slot:Slot T name id)(hty:typeOf (.builtin id)=pure (.type "method_descriptor"))(hm:MtR X id r)(ho:PE X o to)
  (hbase:autoParam (attributeBase o name X.env (eval o X.env)=eval o X.env) QD)(hline:autoParam ((apos.endLine==cpos.line)=true) QD):PE X (.Call (.Attribute o name apos) [] [] cpos) (xY X.K T r to):=by
 k_in;refine wpAny_Call_method0_late hbase hline (thE ho I h λv s1 x H1 I1 r1 ⟨ty,q1⟩=>?_);obtain⟨h1,h2⟩:=mR I1 r1 ty;exact⟨T,id,pa,slot,hty,h1,h2,y4 rfl (PySem.evalArgs_none (hm pins s1 Y H1 x [] v [] Q I1 r1 .nil q1))⟩
theorem Bw (pa:DW T)(slot:Slot T name id)(hty:typeOf (.builtin id)=pure (.type "method_descriptor"))(hm:MtR X id r)(ho:PE X o to)(ha:PA X (e::es) t)
  (hbase:autoParam (attributeBase o name X.env (eval o X.env)=eval o X.env) QD)
  (hfew:autoParam (((backTo cpos (starEach (e::es) X.env)).all (λx=>!x.1)&&(backToKw cpos (keywordEach [] X.env)).all (λx=>x.1.isSome)
   && decide ((e::es).length+([]:List EO).length+(if([]:List EO).isEmpty then 0 else 1)<30))=true) QD)
  (hline:autoParam ((apos.endLine==cpos.line)=true) QD)(hs:autoParam (starEach (e::es) X.env=(false,eval e X.env)::starEach es X.env) QD)(hplain:autoParam ((backTo cpos (starEach es X.env)).any (·.1)=false) QD) :
  PE X (.Call (.Attribute o name apos) (e::es) [] cpos) (tBM X.K T r to t):=by
 k_in;refine wpAny_Call_method_late hbase hfew hline rfl (thE ho I h λv s1 x H1 I1 r1 ⟨ty,q1⟩=>?_);obtain⟨h1,h2⟩:=mR I1 r1 ty;refine⟨T,id,pa,slot,hty,h1,h2,?_⟩;have hA:=ha cpos pins s1 Y H1 _ I1 q1;rw[hs] at hA ⊢;refine y4 (by show(false||(backTo cpos (starEach es X.env)).any (·.1))=false;rw[hplain]<;>rfl) (Calls.evalArgs_plain ?_)
 exact thn hA λus s2 ⟨vs,H2,I2,r2,q2⟩=>hm pins s2 Y H2 x vs v us Q I2 r1 r2 q2
/- xs.append(e),list.index on a module's tuple .. are MtR facts of 06m -/
end
def MtM (X:Cx)(id:String)(r:V->List V->Hp->VK->Prop):Prop:=
 ∀(pins:Za1) (s:dv) (Y:St) (H:Hp) (x:V) (xs:List V) (v:dr) (us:Za3) (Q:VK),Inv X pins Y H s->A8 x v->Au xs us->r x xs H Q ->
  wpAny (model X.prog X.w) X.A (call (.builtin id) (v::us)) (EP X pins Y Q) X.xe s
theorem Au.one:∀{x:V} {us:Za3},Au [x] us->∃u,us=[u]/\A8 x u
 |_,_,.cons r .nil=>⟨_,rfl,r⟩
theorem Au.zero:∀{us:Za3},Au [] us->us=[]
 |_,.nil=>rfl
theorem Au.dropLast (h:Au xs us):Au xs.dropLast us.dropLast:=by
 induction h with
 |nil=>exact .nil
 |cons r t ih=>
  cases t with
  |nil=>exact .nil
  |cons q t'=>exact .cons r ih
theorem Au.rep {xs:List V}{us:Za3}(h:Au xs us):∀k:Nat,Au (dy k xs).flatten (dy k us).flatten
 |0=>.nil
 |k+1=>by
  rw[gw,gw,ip,ip];exact Au.append h (Au.rep h k)
theorem Z1 {α:Type}(l:List α):l.eraseIdx (l.length-1)=l.dropLast:=by
 induction l with
 |nil=>rfl
 |cons a r ih=>
  cases r with
  |nil=>rfl
  |cons b r=>
   have e:(a::b::r).length-1=((b::r).length-1)+1:=by
    have h1:(a::b::r).length=r.length+2:=rfl;have h2:(b::r).length=r.length+1:=rfl;lia
   rw[e,List.eraseIdx_cons_succ,ih]
   all_goals rfl
theorem Tx (its:Za3):∀(k:Nat) (acc:Za3),
  AS (λx1 x2=>x1++x2) acc.toArray (dy k its.toArray)=(acc++(dy k its).flatten).toArray
 |0,acc=>by simp
 |k+1,acc=>by
  have e:acc.toArray++its.toArray=(acc++its).toArray:=by simp
  have e2:(acc++its)++(dy k its).flatten=acc++(dy (k+1) its).flatten:=by
   rw[gw,ip,du]
  rw[<-e2,<-Tx its k (acc++its),<-e,gw,nr]
section
variable {X:Cx} {pins:Za1} {Y:St} {H:Hp} {s:dv} {l b:de} {xs ys zs:List V}
theorem Inv.lset {its its':Za3}{f:Array dr->Array dr}(I:Inv X pins Y H s)(hH:H l=some (.lst xs))
  (e:s.heap.get? l=some { cls:=.type "list",data:=.seq its.toArray n })(hf:f its.toArray=its'.toArray)(hv:Au ys its')(hz:ys.length<=sizeLine) :
  Inv X pins Y (upd H l (.lst ys)) { s with heap:=s.heap.update l (i5 f),toks:=t' }:=by
 have q:=IM e f;rw[hf] at q;refine I.write (x:=l) (e:=l) (by rw[hH];exact trivial) (.inl rfl) (λb' u hb hu=>(sr s.heap (i5 f) (qq hb)).trans hu) ⟨_,q⟩ ?_;exact⟨hz,its',_,hv,q⟩
theorem Inv.lnew {its:Za3}(I:Inv X pins Y H s)(hv:Au ys its)(hz:ys.length<=sizeLine) :
  Inv X pins Y (upd H s.heap.objs.size (.lst ys)) { s with heap:=s.heap.push { cls:=.type "list",data:=.seq its.toArray },toks:=t' }:=
 I.laid (λ_ _ q=>dg _ q) (c9 _) ⟨hz,its,0,hv,fv _ rfl⟩
theorem Inv.fresh (I:Inv X pins Y H s):H s.heap.objs.size=none:=I.hok.fresh (c9 _)
theorem Inv.lstM (I:Inv X pins Y H s)(hH:H l=some (.lst xs)):xs.length<=sizeLine/\∃(its:Za3) (n:Nat),Au xs its/\xs.length=its.length/\s.heap.get? l=some { cls:=.type "list",data:=.seq its.toArray n }:=by
 obtain⟨z,its,n,r,e⟩:=I.hok l _ hH;exact⟨z,its,n,r,r.length,e⟩
theorem Yc (h:n<=sizeLine):mf n=false:=by
 unfold mf;exact decide_eq_false (by lia)
end
section
variable {X:Cx}
def dN:V->List V->Hp->VK->Prop:=λx vs H Q=>∃l xs y,x=.ref l/\vs=[y]/\H l=some (.lst xs)/\xs.length<sizeLine/\Q .non (upd H l (.lst (xs++[y])))
theorem Aw:MtM X "list.append" dN:=by
 intro pins s Y H x vs v us Q I rx rv h;obtain⟨l,xs,y,rfl,rfl,hH,hz,q⟩:=h;cases rx;obtain⟨u,rfl,ru⟩:=rv.one;obtain⟨z,its,n,r,hl,e⟩:=I.lstM hH;refine ot F.slot_list_append ⟨_,e,rfl⟩ F.entry_list_append (F.args_list_append_2 _ _) (PySem.list_append l its.toArray n u (by rw[d9];lia)) ⟨e,?_⟩;refine⟨.non,_,I.lset (its':=its++[u]) hH e (by simp) (r.append (.cons ru .nil)) ?_,rfl,q⟩;rw[c8,iw];lia
def qY:V->List V->Hp->VK->Prop:=λx vs H Q=>∃l b xs zs,x=.ref l/\vs=[.ref b]/\H l=some (.lst xs)/\H b=some (.lst zs)/\xs.length+zs.length<=sizeLine/\Q .non (upd H l (.lst (xs++zs)))
theorem xJ:MtM X "list.extend" qY:=by
 intro pins s Y H x vs v us Q I rx rv h;obtain⟨l,b,xs,zs,rfl,rfl,hH,hB,hz,q⟩:=h;cases rx;obtain⟨u,rfl,ru⟩:=rv.one;cases ru;obtain⟨z,its,n,r,hl,e⟩:=I.lstM hH;obtain⟨z2,its2,n2,r2,hl2,e2⟩:=I.lstM hB;have hsz:its.toArray.size+its2.toArray.size<=sizeLine:=by rw[d9,d9];lia
 have hlong:¬(!its.toArray.isEmpty&&mf (its.toArray.size+its2.toArray.size))=true:=by
  rw[Yc hsz,ya];exact fu
 refine ot F.slot_list_extend ⟨_,e,rfl⟩ F.entry_list_extend (F.args_list_extend_2 _ _)
  (AutoSeq1.list_extend_list_list_0 l its.toArray n b its2.toArray n2 hlong (by rw[d9];lia) (by lia)) ⟨e,e2,?_⟩
 refine⟨.non,_,I.lset (its':=its++its2) hH e (by simp) (r.append r2) ?_,rfl,q⟩;rw[c8];lia
def Aau:V->List V->Hp->VK->Prop:=λx vs H Q=>∃l xs y,x=.ref l/\vs=[]/\H l=some (.lst xs)/\xs[xs.length-1]?=some y/\Q y (upd H l (.lst xs.dropLast))
theorem U2:MtM X "list.pop" Aau:=by
 intro pins s Y H x vs v us Q I rx rv h;obtain⟨l,xs,y,rfl,rfl,hH,hy,q⟩:=h;cases rx;have hus:=rv.zero;subst hus;obtain⟨z,its,n,r,hl,e⟩:=I.lstM hH;obtain⟨u,hu,ru⟩:=r.get hy;have hy':its.toArray[its.toArray.size-1]?=some u:=by
  show its.toArray[its.length-1]?=some u;rw[<-fj,<-hl];exact hu
 refine ot F.slot_list_pop ⟨_,e,rfl⟩ F.entry_list_pop (F.args_list_pop_1 _) (MeetsSeq.list_pop_last l its.toArray n u hy' (by rw[d9];lia)) ⟨e,?_⟩;refine⟨y,_,I.lset (its':=its.dropLast) hH e ?_ r.dropLast ?_,ru,q⟩
 ·show its.toArray.eraseIdxIfInBounds (its.toArray.size-1)=its.dropLast.toArray
  rw[d9,List.eraseIdxIfInBounds_toArray,Z1]
 ·rw[zx]
  lia
def Aa9:R2:=λx y H Q=>∃l b xs zs,x=.ref l/\y=.ref b/\H l=some (.lst xs)/\H b=some (.lst zs)/\xs.length+zs.length<=sizeLine/\∀p,H p=none->Q (.ref p) (upd H p (.lst (xs++zs)))
theorem Pj:OpR X (binaryOp .Add) Aa9:=by
 intro pins s Y H x y v u Q I rx ry h;obtain⟨l,b,xs,zs,rfl,rfl,hH,hB,hz,q⟩:=h;cases rx;cases ry;obtain⟨z,its,n,r,hl,e⟩:=I.lstM hH;obtain⟨z2,its2,n2,r2,hl2,e2⟩:=I.lstM hB;refine PySem.P.add_list e e2 ?_ (by rw[d9,d9];lia);have ea:its.toArray++its2.toArray=(its++its2).toArray:=by simp
 rw[ea];exact⟨.ref _,_,I.lnew (t':=s.toks) (r.append r2) (by rw[c8];lia),rfl,q _ I.fresh⟩
def Aav:R2:=λx y H Q=>∃l k xs,x=.ref l/\y=.int k/\H l=some (.lst xs)/\-(2 ^ 63)<=k/\k<2 ^ 63/\xs.length*k.toNat<=sizeLine /\
 ∀p,H p=none->Q (.ref p) (upd H p (.lst (dy k.toNat xs).flatten))
theorem eF {α:Type}(xs:List α)(k:Nat):(dy k xs).flatten.length=k*xs.length:=by
 induction k with
 |zero=>simp
 |succ k ih=>rw[gw,ip,c8,ih,Nat.succ_mul,mz]
theorem lP:OpR X (binaryOp .Mult) Aav:=by
 intro pins s Y H x y v u Q I rx ry h;obtain⟨l,k,xs,rfl,rfl,hH,h1,h2,hz,q⟩:=h;cases rx;obtain⟨t,rfl⟩:=ry;obtain⟨z,its,n,r,hl,e⟩:=I.lstM hH;have hlen:its.toArray.size*k.toNat<=sizeLine:=by rw[d9,<-hl];exact hz
 have hcap:¬ its.toArray.size*k.toNat>(2 ^ 63-1)/8:=by
  have:(sizeLine:Nat)<=(2 ^ 63-1)/8:=by decide
  lia
 have hfit:¬(!GV k)=true:=by
  rw[fitsIndex_both h1 h2];exact fu
 have hlong:¬ mf (its.toArray.size*k.toNat)=true:=by
  rw[Yc hlen];exact fu
 have hnew:AS (λx1 x2=>x1++x2) #[] (dy (if its.toArray.isEmpty=true then 0 else k.toNat) its.toArray)=(dy k.toNat its).flatten.toArray:=by
  have f0:∀m:Nat,AS (λx1 x2=>x1++x2) #[] (dy m its.toArray)=(dy m its).flatten.toArray:=λm=>by
   have:=Tx its m [];rw[jy] at this;exact this
  rw[f0]
  cases its with
  |nil=>simp
  |cons a r'=>rw[if_neg (by simp)]
 refine wpAny_binaryOp_repeat_ref (T:="list") (U:="int") (by decide) ⟨_,e,rfl⟩ (λs'=>DQ s' k t) noFill_list_mul F.fills_int_mul ER repeat_list F.slot_int_index.lookup
  (ot ER (DQ s k t) F.entry_int_rmul (F.args_int_rmul_2 _ _) (int___rmul___int_list k t l its.toArray n)
   ⟨e,rfl,⟨_,e,rfl⟩,ot F.slot_list_mul ⟨_,e,rfl⟩ F.entry_list_mul (F.args_list_mul_2 _ _) (IQ l its.toArray n k t hfit hcap hlong) ⟨e,?_⟩⟩)
 rw[hnew];exact⟨.ref _,_,I.lnew (t':=s.toks) (r.rep k.toNat) (by rw[eF,qk];exact hz),rfl,q _ I.fresh⟩
end
end L2
namespace Att
open PySem PySem.W PySem.Calls PyProof.Rows
theorem Nr {P:yh}{h:iq}:∀(ns:List Int) (vs:Za3),WellAll P h vs (ns.map FP)->pq vs ns:=by
 intro ns
 induction ns with
 |nil=>
  intro vs w;rw[oi] at w;cases w;exact .nil
 |cons n ns ih=>
  intro vs w;rw[fm] at w
  cases w with
  |cons a b=>
   cases a;exact .cons _ _ (ih _ b)
theorem jI {l:IN}{n:Nat}(hn:l.most=some n){P:yh}{h:iq}{args:List WData}{vals:Za3}
    (hpre : l.row.toRowW.claim.pre args = true)(hwl : WellAll P h vals args) :
    ∃ a vs ns, vals = [gi a]/\args = [WData.list (ns.map FP)]/\h.get? a = some { cls := .type "list", data := .seq vs.toArray }/\pq vs ns/\ns.length <= n := by
  have hsh : WShape.hasAll [] args [.list .int] = true := (pre_splitW hpre).1;have hc : l.pre.holds [] { args := args } = true := (pre_splitW hpre).2;obtain ⟨d, r, rfl, h1, h2⟩ := hasAllW_cons hsh;obtain rfl := hasAllW_nil h2;obtain ⟨xs, rfl, h3⟩ := hasW_list h1;obtain ⟨ns, rfl⟩ := items_int h3;have hlen : ns.length <= n := by
    unfold OpenLaw.pre at hc;have h4 : (WTm.not (.lt (.lit (.int (n : Int))) (.len (.arg 0)))).holds [] { args := [.list (ns.map .int)] } = true := by
      have h4 := (holds_andW hc).1;rw [hn] at h4;exact h4
    have h5 := condW_of h4 (w_not (w_lt w_lit (w_len_list (w_arg rfl))));rw [c5] at h5;refine Nat.le_of_not_lt λq => ?_;have q' : (n : Int) < ((ns.length : Nat) : Int) := by lia
    first
      | (rw [decide_eq_true q'] at h5; exact absurd h5 (by decide))
      | (simp at h5; lia)
  cases hwl with
  | cons w1 w2 =>
    cases w2
    cases w1 with
    | list ho hall => exact ⟨_, _, ns, rfl, rfl, ho, Nr ns _ hall, hlen⟩
theorem iG (l:IN)(args:List WData):l.row.toRowW.claim.post args (.bool true) args=true:=
 postW_of (r:=l.row.toRowW) (X:=(true==true))
  (show EH [] (.bool true) .bool=true by first|rfl|decide|simp[EH,WShape.arms,WShape.armsAll])
  (show(WTm.eq .res (.lit (.bool true))).value [] { args:=args,res:=some (.bool true),after:=args }=some (.bool (true==true)) from w_eq_bool (w_res rfl) w_lit) rfl
theorem attach_call {l:IN}{n:Nat}{q:fi}{loose:Za6}{XP:(Za2)->iq->Prop}{YP:gl->iq->Prop}{d:HH}
  (hn:l.most=some n)(hdf:d.params.defaults=[])
  (call:∀(w:gl) (QN QM:dv) (mg mb:Za2) (fa:de) (o:Obj) (pm cd doc:dr) (a:de) (vs:Za3) (ns:List Int),
   Ground q loose [] XP w QN mg mb QM.heap->YP w QM.heap ->
   QM.heap.get? fa=some o->o.data=.func (docDef d.name d.params d.body d.scope pm cd doc)->QM.heap.CodeRec cd d.name->mg d.name=some (.ref fa) ->
   QM.heap.get? a=some { cls:=.type "list",data:=.seq vs.toArray }->pq vs ns->ns.length<=n->QM.gens=#[] ->
   codeAny (model l.prog w) callerA (.call (.ref fa) ⟨[.ref a],[]⟩) (λr s'=>r=.ok (.ret (.bool true))/\OldK QM.heap s'.heap/\s'.os=QM.os/\uj s'.gens) QM) :
  WalkO q loose XP YP l.row.toRowW d [] (λf vs=>z7 f vs):=by
 intro w QN QM mg mb G Y fa o pm cd doc dV kV ho hd hcd hD hmg hg args vals as hpre hlay hrd hwl hlo;obtain rfl:dV=.none:=Dflts.none hD hdf;obtain rfl:kV=.none:=Dflts.noKw hD;obtain⟨a,vs,ns,rfl,rfl,hobj,hints,hlen⟩:=jI hn hpre hwl;refine enter_call (xp (call w QN QM mg mb fa o pm cd doc a vs ns G Y ho (fd_plain hd) hcd hmg hobj hints hlen hg) λr s' hq=>?_);obtain⟨rfl,h2,h3,h4⟩:=hq;exact⟨.inl ⟨.bool true,.bool true,[],rfl,λ_=>rfl,.bool true,iG l _,λ_=>⟨tw,λ_ hm=>(nomatch hm)⟩⟩,h2,h3,h4⟩
section
variable {prog:fi} {w:gl} {A:ic} {E:Za0} {s:dv} {K:DZ}
end
end Att
namespace L2
open PySem PySem.Spec PyProof.Rows
variable {C CB CC CO CP CS Pt d dx i1 i2 it l1 l2:de} {A:ic} {op:vv} {X:Cx} {D:Hk} {env:Env} {iter tg:gv} {fd:i0} {base h h':iq} {H H' H0 H1 H2:Hp} {J:It} {pins:Za1} {as fp:List de} {ms:Za5} {es:List gv} {ks ws:List Int} {cs ns:Za4} {N kz nm ps:Za6} {xs ys:List V} {us vs:Za3} {M:wn} {n t':Nat} {oT:Obj} {an od:Option de} {pos:Pos} {B:Prop} {scope:l9} {pl:Sem Bool} {s s2:dv} {sp:Sp} {qual z:Str} {te:TE} {wi:TI} {y:V} {cdv ct doc oc pm:dr} {w:gl}
theorem My:∀{vs:Za3} {ns:List Int},pq vs ns->Au (ns.map V.int) vs
 |_,_,.nil=>.nil
 |_,_,.cons n t h=>.cons ⟨t,rfl⟩ (My h)
def A9 (s:im)(j:Nat):im:=match s with
 |.ClassDef _ _ _ body _ _ _ _ _ _ _=>body.getD j (.Pass ⟨0,0,0,0⟩)
 |_=>.Pass ⟨0,0,0,0⟩
def Bs (s:im):yj:=match s with
 |.FunctionDef _ a _ _ _ _ _ _ _ _=>a
 |_=>{ posonlyargs:=[],args:=[],vararg:=none,kwonlyargs:=[],kw_defaults:=[],kwarg:=none,defaults:=[] }
def Bi (s:im):List im:=match s with
 |.FunctionDef _ _ b _ _ _ _ _ _ _=>b
 |_=>[]
def Ad (s:im):l9:=match s with
 |.FunctionDef _ _ _ _ _ _ sc _ _ _=>sc
 |_=>{ kind:=.function,names:=[],isGenerator:=false,isCoroutine:=false }
abbrev CX0:CXT:=λ_ _ _ _ _ _=>False
abbrev E0:XK:=λ_ _ _=>False
theorem Yp:Hs CX0 X E0:=λ_ _ _ _ _ _ _ h=>h.elim
structure Fun (K:c7) (x qual:Str) (st:im) (f:de) (fd:i0):Prop where
 ex:∃(oc:dr) (od:Option de) (kV doc pm:dr) (an:Option de) (cdv ct:dr) (osl:Array (Za7)),
  fd=ir x qual (Bs st) (Bi st) (Ad st) .none kV doc pm an cdv ct/\K.lookup f=some ⟨oc,od,.func fd,osl⟩/\kf K cdv qual=true
 kp:j6 K (.ref f)=true
section
variable {P:fi} {w:gl} {K:c7} {mg:Za2} {base:iq}
theorem Fun.ok {x:Str}{st:im}{f:de}{k:Nat}(F:Fun K x qual st f fd)(S:Ak N ps (Ad st))(len:∀vs H Q E,sp vs H Q E->vs.length=ps.length)
  (hbody:∀(cdv:dr) (A:ic) (outer:List Env) (s:dv) (H:Hp) (vs:List V) (Q:VK) (E:XK),Ck k (A.deeper (envOfC qual (Ad st) s.heap.objs.size f cdv))->sp vs H Q E ->
   ∃t,PSs (Xc CX0 P w K mg base N qual (Ad st) f cdv A outer s H E).nox (Bi st) t/\t { nx:=λ_ H'=>Q .non H',rt:=Q } (Kg N vs) H):Ax P w K mg base CX0 (k+1) f fd ps sp:=by
 obtain⟨oc,od,kV,doc,pm,an,cdv,ct,osl,rfl,lk,hcd⟩:=F.ex;refine oH lk hcd S len λA outer s H vs Q E hr hsp=>?_;obtain⟨t,h,q⟩:=hbody cdv A outer s H vs Q E hr hsp;exact⟨t,h.nox,q⟩
theorem Fun.binds {x:Str}{st:im}{f:de}(F:Fun K x qual st f fd)
  (h:∀(kV doc pm:dr) (an:Option de) (cdv ct:dr) (us:Za3),us.length=ps.length->bindArgs (ir x qual (Bs st) (Bi st) (Ad st) .none kV doc pm an cdv ct) ⟨us,[]⟩=pure (ps.zip us)):Eh K fd ps []:=by
 obtain⟨oc,od,kV,doc,pm,an,cdv,ct,osl,rfl,lk,hcd⟩:=F.ex;exact .all (h kV doc pm an cdv ct)
theorem Zi {x:Str}{st:im}{f:de}{osl:Array (Za7)}{kV:dr}(l:K.lookup f=some ⟨oc,od,.func (ir x qual (Bs st) (Bi st) (Ad st) .none kV doc pm an cdv ct),osl⟩)
  (c:kf K cdv qual=true)(k:j6 K (.ref f)=true):Fun K x qual st f (ir x qual (Bs st) (Bi st) (Ad st) .none kV doc pm an cdv ct):=⟨⟨oc,od,kV,doc,pm,an,cdv,ct,osl,rfl,l,c⟩,k⟩
end
theorem Db (h:n<=1000):n<sizeLine:=vp h (by decide)
section
variable {X:Cx}
theorem pv (i:Nat){x:Str}(hN:autoParam (X.N[i]?=some x) QD)(hv:Vis X.env.scope x:=by first|exact zt rfl|exact zr (zt rfl)|exact zr (zr rfl))(hd:autoParam ((x==("__debug__":Str))=false) QF)
  (hcd:autoParam ((x==("__classdict__":Str))=false) QF):PE X (.Name x pos) (uU i):=wU hN hv hd hcd
end
theorem Aba {A:Prop}(h:B):if false=true then A else B:=by
 rw[if_neg fu];exact h
theorem Aak {A:Prop}(h:A):if true=true then A else B:=by
 rw[if_pos rfl];exact h
def Ah (H H':Hp):Prop:=∀b o,H b=some o->H' b=some o
theorem Ah.refl (H:Hp):Ah H H:=λ_ _ h=>h
theorem Ah.trans (a:Ah H H1)(b:Ah H1 H2):Ah H H2:=λc o h=>b c o (a c o h)
theorem Ah.free (e:Ah H H'){l:de}(h:H' l=DX):H l=DX:=by
 cases q:H l with
 |none=>rfl
 |some o=>
  rw[e l o q] at h;cases h
theorem Ah.seq {K:c7}{a:de}(e:Ah H H')(h:SqL K H a xs):SqL K H' a xs:=by
 rcases h with(h|⟨o,h⟩)|h
 ·exact .inl (.inl (e _ _ h))
 ·exact .inl (.inr ⟨o,e _ _ h⟩)
 ·exact .inr h
end L2
section
namespace L2
open PySem PySem.Spec PyProof.Rows
variable {C CB CC CO CP CS Pt d dx i1 i2 it l1 l2:de} {A:ic} {op:vv} {X:Cx} {D:Hk} {env:Env} {iter tg:gv} {fd:i0} {base h h':iq} {H H' H0 H1 H2:Hp} {J:It} {pins:Za1} {as fp:List de} {ms:Za5} {es:List gv} {ks ws:List Int} {cs ns:Za4} {N kz nm ps:Za6} {xs ys:List V} {us vs:Za3} {M:wn} {n t':Nat} {oT:Obj} {an od:Option de} {pos:Pos} {B:Prop} {scope:l9} {pl:Sem Bool} {s s2:dv} {sp:Sp} {qual z:Str} {te:TE} {wi:TI} {y:V} {cdv ct doc oc pm:dr} {w:gl}
section
variable {prog:fi} {w:gl} {A:ic} {R:uh->dv->Prop} {s:dv}
def fN (ifs:List gv)(env:Env):Sem Bool:=
 forIn ifs true λc r=>if r=true then do let ok <-isTrue c env (eval c env);pure (rc ok) else pure (rc r)
theorem fZ {elt tg iter:gv}{ifs:List gv}{scope:l9}{pos:Pos}{it acc:dr}{env:Env}(J:Nat->dv->Prop)
  (turn:∀n s,J n s->wpAny (model prog w) A (pyNext it) (λr s1=>match r with
   |none=>R (.ok .next) s1
   |some v=>wpAny (model prog w) A (letOwnedTupleGo tg it v) (λ_ s2=>wpAny (model prog w) A (assign tg env v) (λ_ s3=>wpAny (model prog w) A (fN ifs env) (λok s4=>
     if ok=true then wpAny (model prog w) A (eval elt env) (λx s5=>wpAny (model prog w) A (call (.builtin "list.append") [acc,x]) (λ_ s6=>∃m,m<n/\J m s6) (λ_ _=>False) s5) (λ_ _=>False) s4
     else ∃m,m<n/\J m s4) (λ_ _=>False) s3) (λ_ _=>False) s2) (λ_ _=>False) s1) (λ_ _=>False) s)
  (n:Nat)(h:J n s):codeAny (model prog w) A (.compLoop (.ListComp elt [⟨tg,iter,ifs,0⟩] scope pos) 0 it acc env) R s:=by
 refine codeAny_loop rfl J (λn s hJ=>?_) n h;show wpAny _ A (Sem.onRaise (compTurn (.ListComp elt [⟨tg,iter,ifs,0⟩] scope pos) 0 it acc env) _) _ _ s;refine wpAny_noted ?_;rw[compTurn_list];refine wpAny_bind (sv (wpAny_bind (kx (turn n s hJ) (λr s1 h1=>?_) (λ_ _ z=>z.elim))))
 cases r with
 |none=>exact d4 h1
 |some v=>
  refine wpAny_bind (kx h1 (λ_ s2 h2=>wpAny_bind (kx h2 (λ_ s3 h3=>wpAny_bind (kx h3 (λok s4 h4=>?_) (λ_ _ z=>z.elim))) (λ_ _ z=>z.elim))) (λ_ _ z=>z.elim))
  cases ok with
  |false=>exact d4 ⟨rfl,h4⟩
  |true=>exact wpAny_bind (wpAny_bind (kx h4 (λx s5 h5=>wpAny_bind (kx h5 (λ_ s6 h6=>d4 (d4 ⟨rfl,h6⟩)) (λ_ _ z=>z.elim))) (λ_ _ z=>z.elim)))
end
def Dk (env:Env):List (Str×nc)->List (Str×de)->List (Str×de)
 |[],cs=>cs
 |y::r,cs=>if y.2=.free then Dk env r ((y.1,(env.cells.lookup y.1).getD 0)::cs) else Dk env r cs
theorem Us {env:Env}(f:Str×nc->List (Str×de)->Sem (ForInStep (List (Str×de))))
  (h1:∀y cs c,y.2=.free->env.cells.lookup y.1=some c->f y cs=pure (.yield ((y.1,c)::cs)))(h2:∀y cs,y.2≠.free->f y cs=pure (.yield cs)) :
  ∀(ns:List (Str×nc)) (cs:List (Str×de)),(∀y∈ns,y.2=.free->∃c,env.cells.lookup y.1=some c)->forIn ns cs f=(pure (Dk env ns cs):Sem (List (Str×de)))
 |[],cs,_=>by simp[Dk]
 |y::r,cs,h=>by
  have hr:∀z∈r,z.2=.free->∃c,env.cells.lookup z.1=some c:=λz hz=>h z (ge _ hz);rw[xi]
  by_cases hy:y.2=.free
  ·obtain⟨c,hc⟩:=h y f7 hy
   rw[h1 y cs c hy hc];simp only[Dk,if_pos hy,hc,o7];exact Us f h1 h2 r _ hr
  ·rw[h2 y cs hy]
   simp only[Dk,if_neg hy];exact Us f h1 h2 r _ hr
theorem Hn (h:∀y∈scope.names,y.2=.free->∃c,env.cells.lookup y.1=some c):closureFor scope env=pure (Dk env scope.names []):=by
 unfold closureFor;dsimp only;rw[Us (env:=env) _ (λy cs c hy hc=>?_) (λy cs hy=>?_) scope.names [] h]
 ·rfl
 ·obtain⟨n,k⟩:=y
  dsimp only at hy hc ⊢;subst hy;simp only[cellOf,hc,beq_self_eq_true,if_true];rfl
 ·obtain⟨n,k⟩:=y
  have e:(k==mr)=false:=by simpa using hy
  simp only[e,kn,if_false]
theorem Jy {env:Env}:∀(ns:List (Str×nc)) (cs:List (Str×de)) (x:Str) (c:de),(∀y∈ns,y.2=.free->∃c,env.cells.lookup y.1=some c) ->
  (∀z d,cs.lookup z=some d->env.cells.lookup z=some d)->(Dk env ns cs).lookup x=some c->env.cells.lookup x=some c
 |[],cs,x,c,_,hc,h=>hc x c h
 |y::r,cs,x,c,hy,hc,h=>by
  have hr:∀z∈r,z.2=.free->∃c,env.cells.lookup z.1=some c:=λz hz=>hy z (ge _ hz);unfold Dk at h;split at h
  ·rename_i hk
   obtain⟨d,hd⟩:=hy y f7 hk;rw[hd] at h;refine Jy r _ x c hr (λz e hz=>?_) h;rw[pb] at hz;split at hz
   ·rename_i hzy
    cases hz;rw[eq_of_beq hzy];exact hd
   ·exact hc z e hz
  ·exact Jy r _ x c hr hc h
theorem Kv {env:Env}:∀(ns:List (Str×nc)) (cs:List (Str×de)) (x:Str),(cs.lookup x).isSome=true->((Dk env ns cs).lookup x).isSome=true
 |[],_,_,h=>h
 |y::r,cs,x,h=>by
  unfold Dk;split
  ·refine Kv r _ x ?_
   rw[pb];split
   ·rfl
   ·exact h
  ·exact Kv r _ x h
theorem Fl {env:Env}:∀(ns:List (Str×nc)) (cs:List (Str×de)) (x:Str),(x,mr)∈ns->((Dk env ns cs).lookup x).isSome=true
 |[],_,_,h=>by simp at h
 |y::r,cs,x,h=>by
  rcases gr.mp h with e|e
  ·subst e
   unfold Dk;rw[if_pos rfl];exact Kv r _ x (by simp)
  ·unfold Dk
   split
   ·exact Fl r _ x e
   ·exact Fl r _ x e
theorem Hx {x:Str}{k:nc}(h:(relabel scope env).names.lookup x=some k):(x,k)∈scope.names\/((x,mr)∈scope.names/\k=xc):=by
 have m:=jw h;obtain⟨⟨n,k'⟩,hm,e⟩:=iz.mp m;dsimp only at e;split at e
 ·rename_i hk
  cases e;simp only[kl,beq_iff_eq] at hk;rw[hk.1.1] at hm;exact .inr ⟨hm,rfl⟩
 ·cases e
  exact .inl hm
theorem Lh (hk:env.scope.kind=.function){x:Str}(hx:env.kindOf x=some .cell)(h:scope.names.lookup x=some .free):(relabel scope env).names.lookup x=some .cell:=by
 unfold relabel;show(scope.names.map _).lookup x=some xc;generalize scope.names=ns at h
 induction ns with
 |nil=>simp at h
 |cons y r ih=>
  obtain⟨n,k⟩:=y;rw[pb] at h;rw[fm];split at h
  ·rename_i hn
   cases h;rw[<-eq_of_beq hn];simp[hk,hx]
  ·rename_i hn
   dsimp only;split
   ·rw[pb,hn];exact ih h
   ·rw[pb,hn];exact ih h
def Cs (X:Cx)(scope:l9)(N:Za6)(C:de)(s:dv)(H:Hp)(fp:List de):Cx:=
 { X with N:=N,QN:=s,QY:=H,env:=compEnvC scope (Dk X.env scope.names []) C X.env,outer:=X.stack,ex:=fp,fn:=λ_=>false,pn:=[],xe:=λ_ _=>False }
structure Bn (JC:Za6) (QU sc:l9) (x:Str) (N:Za6) (ix:Za4):Prop where
 kind:sc.kind=.function
 nocell:∀y∈sc.names,y.2≠.cell
 names:∀y∈sc.names,y.2=.local->sc.names.lookup y.1=some .local
 free:∀y∈sc.names,y.2=.free->QU.names.lookup y.1=some .cell
 nd:N.Nodup
 hd:N.head?=some x
 loc:sc.names.lookup x=some .local
 len:N.length=ix.length+1
 at_:∀p∈N.tail.zip ix,JC[p.2]?=some p.1/\sc.names.lookup p.1=some .free
def frV (Y:St)(ix:Za4):St:=ix.map λj=>(Y[j]?).getD none
def PIf (X:Cx)(ifs:List gv)(t:TT):Prop:=
 ∀(pins:Za1) (s:dv) (Y:St) (H:Hp) (Q:Bool->Hp->Prop),Inv X pins Y H s->t Y H Q->wpAny (model X.prog X.w) X.A (fN ifs X.env) (TP X pins Y Q) X.xe s
def xM:TT:=λ_ H Q=>Q true H
theorem Bv:PIf X [] xM:=λpins s Y H Q I h=>wpAny_tests_nil ⟨H,I,h⟩
theorem U6 {c:gv}{t:TT}(h:PT X c t):PIf X [c] t:=λpins s Y H Q I hw=>wpAny_tests_one (h pins s Y H Q I hw)
def N5 (J:It)(H1:Hp)(fr:St)(tc:TT)(te:TE)(Q:VK):Prop:=∀D,H1 D=none->∃W:Nat->Nat->Hp->Prop,(∃m,W 0 m (upd H1 D (.lst [])))/\∀i m H,W i m H ->
 (J.stop i H/\Q (.ref D) H)\/(J.go i H/\∀x H',J.yld i H x H'->tc (some x::fr) H' λb H3=>
  if b=true then te (some x::fr) H3 λy H4=>∃ys,H4 D=some (.lst ys)/\ys.length<sizeLine/\∃m',m'<m/\W (i+1) m' (upd H4 D (.lst (ys++[y]))) else ∃m',m'<m/\W (i+1) m' H3)
def tLc (wi:TI)(ix:Za4)(tc:TT)(te:TE):TE:=λY H Q=>wi Y H λJ H1=>N5 J H1 (frV Y ix) tc te Q
section
variable {X:Cx} {scope:l9} {N:Za6} {ix:Za4} {x:Str} {px:Pos} {elt iter:gv} {ifs:List gv} {tc:TT} {te:TE} {pos:Pos}
theorem xV {Y:St}{tn:Nat->iq->Prop}(L:Bn X.N X.env.scope scope x N ix)(I2:Inv X pins Y H2 s2)
  (T:Mw X.prog X.w X.K tg J fp it tn)(st2:tn 0 s2.heap)(f2:∀b∈fp,Li X pins H2 b){s3 s4:dv}{H3:Hp}(I3:Inv X pins Y H3 s3)(I4:Inv X pins Y H3 s4)(hle:s2.heap.objs.size<=s3.heap.objs.size)
  (hC:C=s3.heap.objs.size)(ho:s4.os=s3.os)(kp:∀b u,s3.heap.get? b=some u->s4.heap.get? b=some u){m:Za2}(hns:s4.heap.Ns C m):Inv (Cs X scope N C s3 H3 fp) [] (none::frV Y ix) H3 s4:=by
 have hfree:∀y∈scope.names,y.2=.free->∃c,X.env.cells.lookup y.1=some c:=λy hy hf=>I2.ok.has y.1 (.inl (L.free y hy hf));have sub:∀y c,(Dk X.env scope.names []).lookup y=some c->X.env.cells.lookup y=some c:=λy c h=>Jy _ _ y c hfree (λ_ _ z=>by simp at z) h;have lt2:∀b∈fp,b<s2.heap.objs.size:=λb hb=>by obtain⟨o,e,_⟩:=T.obj _ _ st2 b hb;exact d7 e
 have okY:(Cs X scope N C s3 H3 fp).Ok:=by
  refine⟨I2.ok.mod,L.kind,I2.ok.glob,I2.ok.blt,lz hC.symm,λy z c h1 h2=>I2.ok.inj y z c (sub y c h1) (sub z c h2),λy hy=>?_,λy c z _=>?_,I2.ok.hd,I2.ok.frames,.inl rfl,λb hb=>⟨?_,λy c h=>(f2 b hb).2.2.2.2.1 y c (sub y c h)⟩,
   I3.bs,gm I3.ok.bsz I3.sz,λb o e hb=>?_,λb hb z=>?_,I3.stack,I3.stkFree⟩
  ·have hk:(y,mr)∈scope.names:=by
    rcases hy with hy|hy
    ·rcases Hx hy with q|q
     ·exact absurd rfl (L.nocell _ q)
     ·exact q.1
    ·rcases Hx hy with q|q
     ·exact q
     ·exact absurd q.2 (by decide)
   exact jj.mp (Fl _ _ y hk)
  ·cases(show false=true from z)
  ·have l:=lt2 b hb
   show b≠C;rw[hC];exact fh (d8 l hle)
  ·rcases(f2 b hb).2.2.2.1 with q|q
   ·exact I2.ok.noex b o e q
   ·exact absurd (d8 (d7 e) (gm I2.ok.bsz q)) (lf _)
  ·rcases gr.mp (I2.stkSub b z) with q|q
   ·exact(f2 b hb).2.1 q
   ·exact(f2 b hb).2.2.1 q
 refine⟨okY,ho,I4.bare,Un.kept kp,⟨m,hns,λi y v h1 h2 h3=>?_⟩,λy c e=>I4.cell y c (sub y c e),?_,λy c e=>I4.freeC y c (sub y c e),λp hp=>absurd (show p∈([]:Za1) from hp) (by simp),I4.hok,?_⟩
 ·cases i with
  |zero=>cases(show some none=some (some v) from h2)
  |succ k=>
   have h2:(frV Y ix)[k]?=some (some v):=h2;have h1:N[k+1]?=some y:=h1;unfold frV at h2;rw[df] at h2
   cases hj:ix[k]? with
   |none=>rw[hj] at h2;cases h2
   |some j=>
    rw[hj] at h2;have h2:(Y[j]?).getD none=some v:=dh h2;have h2':Y[j]?=some (some v):=by
     cases e:Y[j]? with
     |none=>rw[e] at h2;cases h2
     |some z=>rw[e] at h2;exact congrArg some h2
    have ht:N.tail[k]?=some y:=by rw[vf];exact h1
    have hz:(y,j)∈N.tail.zip ix:=e6 (i:=k) (by rw[i6];exact⟨ht,hj⟩);obtain⟨q1,q2⟩:=L.at_ _ hz;have hm:=jw q2;have hcell:=L.free _ hm rfl;obtain⟨m',hn',hl'⟩:=I4.loc;obtain⟨u,r,lk⟩:=hl' j y v q1 h2' (.inr (.inl hcell));refine⟨u,r,.inr ⟨.inl (Lh I2.ok.kind hcell q2),?_⟩⟩;rcases lk with lk|⟨_,c,e,z⟩
    ·rw[show X.env.kindOf y=some .cell from hcell] at lk
     cases lk.1
    ·obtain⟨c',e'⟩:=jj.mp (Fl (env:=X.env) scope.names [] y hm)
     have e2:=sub y c' e';rw[e] at e2;cases e2;exact⟨c,e',z⟩
 ·show H3 C=none
  exact I3.hok.fresh (lz hC.symm)
 ·show(none::frV Y ix).length=N.length
  rw[L.len];simp[frV]
theorem kX {tgt:gv}(htg:tgt=.Name x px){Y:St}{tn:Nat->iq->Prop}(hc:X.calm=true)(L:Bn X.N X.env.scope scope x N ix)(I2:Inv X pins Y H2 s2)
  (T:Mw X.prog X.w X.K tgt J fp it tn)(st2:tn 0 s2.heap)(f2:∀b∈fp,Li X pins H2 b)
  (hif:∀C s H,PIf (Cs X scope N C s H fp) ifs tc)(he:∀C s H,PE (Cs X scope N C s H fp) elt te){Q:VK}(rd:N5 J H2 (frV Y ix) tc te Q){RR:dr->de->uh->dv->Prop}{E:Za0}
  (fin:∀D C H' s' m,Inv X pins Y H' s'->s2.heap.objs.size<=C->H' C=none->s'.heap.Ns C m->Q (.ref D) H'->RR (.ref D) C (.ok .next) s') :
  wpAny (model X.prog X.w) X.A (newList []) (λacc s3=>wpAny (model X.prog X.w) X.A (newFunctionEnv scope X.env.globals (Dk X.env scope.names []) [] X.env.qual none .none (some X.env)) (λcenv s4=>
   codeAny (model X.prog X.w) X.A (.compStart (.ListComp elt [⟨tgt,iter,ifs,0⟩] scope pos) 0 (.ref it) acc { cenv with scope:=relabel scope X.env }) (RR acc cenv.locals) s4) E s3) E s2:=by
 refine ln (vj L.nocell (by intro y hy;simp at hy) (λh1 hns hsb=>?_) L.kind);dsimp only at hns hsb ⊢;have I3:Inv X pins Y (upd H2 s2.heap.objs.size (.lst [])) { s2 with heap:=s2.heap.push { cls:=.type "list",dict:=none,data:=.seq ([]:Za3).toArray } }:=I2.lnew (its:=[]) (t':=s2.toks) .nil (fq _);generalize hH3:s2.heap.push { cls:=.type "list",dict:=none,data:=.seq ([]:Za3).toArray }=h3 at hns hsb I3 ⊢;have hsz:h3.objs.size=s2.heap.objs.size+1:=by rw[<-hH3,ol]
 have kp34:∀b u,h3.get? b=some u->h1.get? b=some u:=λb u e=>hsb.extBut b u (fh (d7 e)) (dg _ e);have I4:Inv X pins Y (upd H2 s2.heap.objs.size (.lst [])) { s2 with heap:=h1,toks:=s2.toks+([]:List (Str×dr)).length }:=I3.kept (t':=s2.toks+([]:List (Str×dr)).length) kp34;have kp24:∀b u,s2.heap.get? b=some u->h1.get? b=some u:=λb u e=>kp34 b u (by rw[<-hH3];exact dg _ e);have IY:=xV (C:=h3.objs.size) (s3:={ s2 with heap:=h3 }) L I2 T st2 f2 I3 I4 (by show s2.heap.objs.size<=h3.objs.size;lia) rfl rfl kp34 hns;have fD:H2 s2.heap.objs.size=none:=I2.hok.fresh (c9 _);have lt2:∀b∈fp,b<s2.heap.objs.size:=λb hb=>by obtain⟨o,e,_⟩:=T.obj _ _ st2 b hb;exact d7 e
 have st4:tn 0 h1:=T.keep _ _ _ st2 λb _ o e=>kp24 b o e;have stat:∀{pn:Za1} {H':Hp},pn=[]->(∀b∈fp,H' b=none)->∀b∈fp,Li (Cs X scope N h3.objs.size { s2 with heap:=h3 } (upd H2 s2.heap.objs.size (.lst [])) fp) pn H' b:=λhp hn b hb=>by
  subst hp;exact⟨hn b hb,(IY.ok.exf b hb).1,IY.ok.exfs b hb,.inl hb,(IY.ok.exf b hb).2,λp hp=>absurd (show p∈([]:Za1) from hp) (by simp)⟩
 obtain⟨W,⟨m0,w0⟩,turn⟩:=rd _ fD;have loop:codeAny (model X.prog X.w) X.A (.compLoop (.ListComp elt [⟨tgt,iter,ifs,0⟩] scope pos) 0 (.ref it) (.ref s2.heap.objs.size) (compEnvC scope (Dk X.env scope.names []) h3.objs.size X.env)) (RR (.ref s2.heap.objs.size) h3.objs.size)
   { s2 with heap:=h1,toks:=s2.toks+([]:List (Str×dr)).length }:=by
  refine fZ (λn s'=>∃i H',Inv (Cs X scope N h3.objs.size { s2 with heap:=h3 } (upd H2 s2.heap.objs.size (.lst [])) fp) [] (none::frV Y ix) H' s'/\tn i s'.heap/\(∀b∈fp,H' b=none)/\W i n H') ?_ m0
   ⟨0,_,IY,st4,λb hb=>by rw[Ai (fh (lt2 b hb))];exact(f2 b hb).1,w0⟩
  rintro n s5 ⟨i,H5,I5,st5,fr5,w5⟩;rcases turn i n H5 w5 with⟨stop,q⟩|⟨go,step⟩
  ·refine thn (T.done (Cs X scope N h3.objs.size { s2 with heap:=h3 } (upd H2 s2.heap.objs.size (.lst [])) fp) rfl rfl rfl hc i [] s5 _ H5 (λ_ _=>False) I5 (stat rfl fr5) st5 stop) λr s6 ⟨hr,I6⟩=>?_
   subst hr;obtain⟨m6,hn6,_⟩:=I6.loc;have u1:Un (frs X.stack) fp H2 (upd H2 s2.heap.objs.size (.lst [])) s2.heap h3:=Un.laid (λb u e=>by rw[<-hH3];exact dg _ e) (c9 _) fD;have back:Inv X pins Y H5 s6:=I2.call' (ch:=fp) (I6.os.trans rfl) (u1.trans I6.base) I6.hok I6.bare λb hb=>⟨(f2 b hb).2.2.2.1,(f2 b hb).2.1,(f2 b hb).2.2.2.2.1,(f2 b hb).2.2.2.2.2⟩;exact fin _ _ H5 s6 m6 back (by lia) I6.free hn6 q
  ·refine thn (T.item (Cs X scope N h3.objs.size { s2 with heap:=h3 } (upd H2 s2.heap.objs.size (.lst [])) fp) rfl rfl rfl hc i [] s5 _ H5 (λ_ _=>False) I5 (stat rfl fr5) st5 go) λr s6 ⟨u,hr,h6⟩=>?_
   subst hr;refine thn h6 λ_ s7 ⟨y,H7,I7,r7,y7,st7,fr7⟩=>?_;have I7':=I7.pinned (stat rfl fr7) (T.obj _ _ st7);have hg:PG (Cs X scope N h3.objs.size { s2 with heap:=h3 } (upd H2 s2.heap.objs.size (.lst [])) fp) tgt (Dy 0):=by
    rw[htg];have hi:N[0]?=some x:=by have:=L.hd;rwa [List.head?_eq_getElem?] at this
    exact Jv L.nd hi (.inl (lq L.loc)) (.inr (lq L.loc))
   refine thn (hg _ s7 _ H7 y u (λmt H'=>mt=some y::frV Y ix/\H'=H7) I7' r7 ⟨rfl,rfl⟩) λ_ s8 ⟨σ8,H8,I8,e8,e8'⟩=>?_;subst e8 e8';refine thn (hif _ _ _ _ s8 _ _ _ I8 (step y _ y7)) λok s9 ⟨H9,I9,q9⟩=>?_;have again:∀{sz:dv} {Hz:Hp} {m':Nat},Inv (Cs X scope N h3.objs.size { s2 with heap:=h3 } (upd H2 s2.heap.objs.size (.lst [])) fp) ([]++Mu fp s7.heap) (some y::frV Y ix) Hz sz->m'<n->W (i+1) m' Hz ->
     ∃m,m<n/\∃i H',Inv (Cs X scope N h3.objs.size { s2 with heap:=h3 } (upd H2 s2.heap.objs.size (.lst [])) fp) [] (none::frV Y ix) H' sz/\tn i sz.heap/\(∀b∈fp,H' b=none)/\W i m H':=λ{sz Hz m'} Iz hm wz=>by
    refine⟨m',hm,i+1,Hz,Iz.unpinned.weak (by simp) (λj v e=>?_),T.keep _ _ _ st7 λb hb o e=>(Iz.pin (b,o) (fk _ (fk _ (Es hb e)))).1,λb hb=>?_,wz⟩
    ·cases j with
     |zero=>cases e
     |succ j=>exact e
    ·obtain⟨o,e,d⟩:=T.obj _ _ st7 b hb
     exact(Iz.pin (b,o) (fk _ (fk _ (Es hb e)))).2.1
   cases ok with
   |false=>
    obtain⟨m',hm,wz⟩:=q9;exact again I9 hm wz
   |true=>
    refine thn (he _ _ _ _ s9 _ _ _ I9 q9) λxv s10 ⟨z,H10,I10,r10,ys,hD,hl,m',hm,wz⟩=>?_;refine thn (Aw _ s10 _ H10 (.ref s2.heap.objs.size) [z] (.ref s2.heap.objs.size) [xv] (λ_ Hz=>Hz=upd H10 s2.heap.objs.size (.lst (ys++[z]))) I10 rfl (.cons r10 .nil) ⟨_,ys,z,rfl,rfl,hD,hl,rfl⟩) λ_ s11 ⟨_,H11,I11,_,q11⟩=>?_;subst q11;exact again I11 hm wz
 exact BG loop (T.self X.A 0 _ _ _ st4 loop)
theorem F3 (hc:X.calm=true)(L:Bn X.N X.env.scope scope x N ix)(hi:PI X (.Name x px) iter wi)(hif:∀C s H fp,PIf (Cs X scope N C s H fp) ifs tc)(he:∀C s H fp,PE (Cs X scope N C s H fp) elt te)
  (hs:autoParam (∀z,foldedSetIterable iter X.env z=pure z) QJ):PE X (.ListComp elt [⟨.Name x px,iter,ifs,0⟩] scope pos) (tLc wi ix tc te):=by
 k_in;have hfree:∀y∈scope.names,y.2=.free->∃c,X.env.cells.lookup y.1=some c:=λy hy hf=>I.ok.has y.1 (.inl (L.free y hy hf));rw[HR];refine n5 (use:=none) rfl hs (Hn hfree) L.kind L.names (thn (hi pins s Y H _ I h) λv s1 h1=>thn h1 λitv s2 h2=>?_);obtain⟨it,fp,tn,J,H2,e,I2,T,st2,f2,rd⟩:=h2;subst e;refine kX (RR:=λacc C=>compPost (model X.prog X.w) X.A X.xe none _ acc C) rfl hc L I2 T st2 f2 (λC s H=>hif C s H fp) (λC s H=>he C s H fp) rd λD C H' s' m I' hC hf hn q=>?_;refine⟨m,hn,λh' hsb=>⟨.ref D,H',?_,rfl,q⟩⟩;have l2:=I2.lt;refine I'.turned (t':=s'.toks) (it:=C) (λb o hb e=>hsb.extBut b o hb e) hf (my (d8 l2 hC)) (.inr (gm I2.sz hC)) (λy c e=>?_) λp hp=>?_
 ·obtain⟨v,hv⟩:=I2.cell y c e
  exact fh (d8 hv.lt hC)
 ·exact fh (d8 (d7 (I2.pin p hp).1) hC)
theorem Rh {i:Nat}{y:Str}{py spos:Pos}(hc:X.calm=true)(L:Bn X.N X.env.scope scope x N ix)(hN:X.N.Nodup)(hy:X.N[i]?=some y)(hl:X.env.scope.names.lookup y=some .local)
  (hi:PI X (.Name x px) iter wi)(hif:∀C s H fp,PIf (Cs X scope N C s H fp) ifs tc)(he:∀C s H fp,PE (Cs X scope N C s H fp) elt te)
  (hsw:autoParam (swapsWith (.ListComp elt [⟨.Name x px,iter,ifs,0⟩] scope pos) (some (.Name y py)) spos.line X.env=pure true) QD)
  (hs:autoParam (∀z,foldedSetIterable iter X.env z=pure z) QJ):PS X (.Assign [.Name y py] (.ListComp elt [⟨.Name x px,iter,ifs,0⟩] scope pos) spos) (gR (tLc wi ix tc te) (Dy i)):=by
 k_end;have hfree:∀y∈scope.names,y.2=.free->∃c,X.env.cells.lookup y.1=some c:=λy hy hf=>I.ok.has y.1 (.inl (L.free y hy hf));rw[BX _ _ _ _ hsw];refine wpAny_bind (sv (wpAny_bind ?_));show wpAny _ X.A (do let _ <-comprehension (.ListComp elt [⟨.Name x px,iter,ifs,0⟩] scope pos) scope X.env _ (newList []) false (eval iter X.env) (some (assign (.Name y py) X.env))) _ _ s;refine wpAny_bind (thn (Q:=λ_ s'=>SP X pins D .next s') (n5 (use:=some (assign (.Name y py) X.env)) rfl hs (Hn hfree) L.kind L.names (thn (hi pins s Y H _ I h) λv s1 h1=>thn h1 λitv s2 h2=>?_)) λ_ s' hq=>d4 (d4 hq));obtain⟨it,fp,tn,J,H2,e,I2,T,st2,f2,rd⟩:=h2;subst e;refine kX (RR:=λacc C=>compPost (model X.prog X.w) X.A X.xe (some (assign (.Name y py) X.env)) _ acc C) rfl hc L I2 T st2 f2 (λC s H=>hif C s H fp) (λC s H=>he C s H fp) rd λDa C H' s' m I' hC hf hn q=>?_;have l2:=I2.lt;have nC:C≠X.env.locals:=my (d8 l2 hC);have nF:C∉X.fs:=I2.nofs hC;obtain⟨oC,es,ep,hget,hdat,hrest⟩:=id hn;have Ip:Inv X (pins++[(C,oC)]) Y H' s':=I'.pins_of λp hp=>(f8.mp hp).elim (λz=>I'.pin p (fk _ z)) λz=>by
  have e:p=(C,oC):=by simpa using z
  subst e;exact⟨hget,hf,nC,nF,λv z=>by rw[hdat] at z;cases z⟩
 have hg:PG X (.Name y py) (Dy i):=Jv hN hy (.inl hl) (.inr hl);show wpAny _ X.A (assign (.Name y py) X.env (.ref Da)) _ _ s';refine thn (hg _ s' Y H' (.ref Da) (.ref Da) D.nx Ip rfl q) λ_ s'' ⟨JD,H'',I'',q''⟩=>?_;obtain⟨g1,g2,_⟩:=I''.pin (C,oC) (fk _ (fk _ (by simp)));refine⟨m,⟨oC,es,ep,g1,hdat,hrest⟩,λh' hsb=>⟨JD,H'',?_,q''⟩⟩;refine I''.unpinned.turned (t':=s''.toks) (it:=C) (λb o hb e=>hsb.extBut b o hb e) g2 nC (.inr (gm I2.sz hC)) (λy c e=>?_) λp hp=>?_
 ·obtain⟨v,hv⟩:=I2.cell y c e
  exact fh (d8 hv.lt hC)
 ·exact fh (d8 (d7 (I2.pin p hp).1) hC)
end
theorem Al {D:de}{o:HO}(h:H D=none):Ah H (upd H D o):=λb u e=>by rw[Ai (Aj e h)];exact e
theorem Ay {D:de}{o:HO}(h:H D=none):Ah H (upd H D o)/\upd H D o D=some o:=⟨Al h,Ac⟩
theorem K3 {fr:St}{tc:TT}{Q:VK}(n:Nat)(item:Nat->V)(acc:Nat->List V)(h0:acc 0=[])(hz:∀i,i<n->(acc i).length<sizeLine)
  (hgo:∀i H,i<n->Ah H1 H->J.go i H)(hy:∀i H x H',i<n->Ah H1 H->J.yld i H x H'->x=item i/\H'=H)(hst:∀H,Ah H1 H->J.stop n H)
  (turn:∀i H (R:Hp->Prop) (A:VK),i<n->Ah H1 H->(acc (i+1)=acc i->∀H',Ah H H'->R H')->(∀y H',acc (i+1)=acc i++[y]->Ah H H'->A y H') ->
   tc (some (item i)::fr) H λb H3=>if b=true then te (some (item i)::fr) H3 A else R H3)
  (fin:∀D H,H1 D=none->Ah H1 H->H D=some (.lst (acc n))->Q (.ref D) H):N5 J H1 fr tc te Q:=by
 intro D hD;refine⟨λi m H=>i<=n/\m=n-i/\Ah H1 H/\H D=some (.lst (acc i)),⟨n,fq _,rfl,Al hD,by rw[Ac,h0]⟩,?_⟩;rintro i m H ⟨hi,rfl,sm,hl⟩
 by_cases h:i=n
 ·subst h
  exact .inl ⟨hst H sm,fin D H hD sm hl⟩
 ·have hlt:i<n:=jo hi h
  refine .inr ⟨hgo i H hlt sm,λx H' hyl=>?_⟩;obtain⟨rfl,rfl⟩:=hy i H x H' hlt sm hyl;refine turn i H' _ _ hlt sm (λea H3 s3=>?_) (λy H4 ea s4=>?_)
  ·exact⟨n-(i+1),by lia,by lia,rfl,sm.trans s3,by rw[ea];exact s3 _ _ hl⟩
  ·refine⟨acc i,s4 _ _ hl,hz i hlt,n-(i+1),by lia,by lia,rfl,λb u e=>?_,by rw[Ac,ea]⟩
   rw[Ai (Aj e hD)];exact s4 _ _ (sm _ _ e)
theorem Lp {lo:Int}{fr:St}{tc:TT}{Q:VK}(acc:Nat->List V)(h0:acc 0=[])(hz:∀i,i<n->(acc i).length<sizeLine)
  (turn:∀(i:Nat) H (R:Hp->Prop) (A:VK),i<n->Ah H1 H->(acc (i+1)=acc i->∀H',Ah H H'->R H')->(∀y H',acc (i+1)=acc i++[y]->Ah H H'->A y H') ->
   tc (some (.int (lo+i))::fr) H λb H3=>if b=true then te (some (.int (lo+i))::fr) H3 A else R H3)
  (fin:∀D H,H1 D=none->Ah H1 H->H D=some (.lst (acc n))->Q (.ref D) H):N5 (Itr lo n) H1 fr tc te Q:=
 K3 n (λi=>.int (lo+i)) acc h0 hz (λi H hi _=>hi) (λi H x H' _ _ h=>⟨h.2,h.1⟩) (λH _=>c9 n) turn fin
theorem Og {K:c7}{a:de}{fr:St}{tc:TT}{Q:VK}(hl:SqL K H1 a xs)(acc:Nat->List V)(h0:acc 0=[])(hz:∀i,i<xs.length->(acc i).length<sizeLine)
  (turn:∀(i:Nat) x H (R:Hp->Prop) (A:VK),xs[i]?=some x->Ah H1 H->(acc (i+1)=acc i->∀H',Ah H H'->R H')->(∀y H',acc (i+1)=acc i++[y]->Ah H H'->A y H') ->
   tc (some x::fr) H λb H3=>if b=true then te (some x::fr) H3 A else R H3)
  (fin:∀D H,H1 D=none->Ah H1 H->H D=some (.lst (acc xs.length))->Q (.ref D) H):N5 (Itl K a) H1 fr tc te Q:=by
 refine K3 xs.length (λi=>xs.getD i .non) acc h0 hz (λi H hi sm=>⟨xs,xs[i],sm.seq hl,by simp[hi]⟩) (λi H x H' hi sm h=>⟨?_,h.1⟩) (λH sm=>⟨xs,sm.seq hl,c9 _⟩) (λi H R A hi sm=>turn i _ H R A (by simp[hi]) sm) fin;have:=h.2 xs (sm.seq hl);simp[ju,this]
theorem Ah.seqT {K:c7}{a:de}(e:Ah H H')(h:SqT K H a xs):SqT K H' a xs:=by
 rcases h with(h|⟨o,h⟩)|h
 ·exact .inl (.inl (e _ _ h))
 ·exact .inl (.inr ⟨o,e _ _ h⟩)
 ·exact .inr h
theorem lF {K:c7}{a:de}{fr:St}{tc:TT}{Q:VK}(hl:SqT K H1 a xs)(acc:Nat->List V)(h0:acc 0=[])(hz:∀i,i<xs.length->(acc i).length<sizeLine)
  (turn:∀(i:Nat) x H (R:Hp->Prop) (A:VK),xs[i]?=some x->Ah H1 H->(acc (i+1)=acc i->∀H',Ah H H'->R H')->(∀y H',acc (i+1)=acc i++[y]->Ah H H'->A y H') ->
   tc (some x::fr) H λb H3=>if b=true then te (some x::fr) H3 A else R H3)
  (fin:∀D H,H1 D=none->Ah H1 H->H D=some (.lst (acc xs.length))->Q (.ref D) H):N5 (Itt K a) H1 fr tc te Q:=by
 refine K3 xs.length (λi=>xs.getD i .non) acc h0 hz (λi H hi sm=>⟨xs,xs[i],sm.seqT hl,by simp[hi]⟩) (λi H x H' hi sm h=>⟨?_,h.1⟩) (λH sm=>⟨xs,sm.seqT hl,c9 _⟩) (λi H R A hi sm=>turn i _ H R A (by simp[hi]) sm) fin;have:=h.2 xs (sm.seqT hl);simp[ju,this]
theorem oM:bootBuiltins "int"=some (.type "int"):=by decide +kernel
theorem jU:bootBuiltins "str"=some (.type "str"):=by decide +kernel
theorem kY:bootBuiltins "bool"=some (.type "bool"):=by decide +kernel
theorem Kq:bootBuiltins "list"=some (.type "list"):=by decide +kernel
theorem J3:bootBuiltins "tuple"=some (.type "tuple"):=by decide +kernel
theorem nL:bootBuiltins "dict"=some (.type "dict"):=by decide +kernel
theorem B2:bootBuiltins "len"=some (.builtin "len"):=by decide +kernel
theorem Bk:bootBuiltins "isinstance"=some (.builtin "isinstance"):=by decide +kernel
theorem xL:bootBuiltins "sum"=some (.builtin "sum"):=by decide +kernel
theorem tH:bootBuiltins "min"=some (.builtin "min"):=by decide +kernel
theorem yT:bootBuiltins "max"=some (.builtin "max"):=by decide +kernel
theorem K5:bootBuiltins "sorted"=some (.builtin "sorted"):=by decide +kernel
structure Cal (P:fi) (w:gl) (K:c7) (mg:Za2) (base:iq) (name:Str) (k:Nat) (ps:Za6) (sp:Sp):Prop where
 ex:∃(f:de) (fd:i0),Ax P w K mg base CX0 k f fd ps sp/\Eh K fd ps []/\mg name=some (.ref f)/\j6 K (.ref f)=true
section
variable {X:Cx} {k:Nat} {ps:Za6} {sp:Sp} {name m:Str} {p pos apos:Pos} {e o:gv} {es:List gv} {ta:TE} {t:TA}
theorem Az (C:Cal X.prog X.w X.K X.mg X.base name k ps sp)(hr:Ck k X.A)(ha:PA X (e::es) t)(hg:autoParam (Gl X name) QD)(hdb:autoParam ((name==("__debug__":Str))=false) QF)
  (he:autoParam (starEach (e::es) X.env=(false,eval e X.env)::starEach es X.env) QD)(hpl:autoParam ((backTo pos (starEach es X.env)).any (·.1)=false) QD):PE X (.Call (.Name name p) (e::es) [] pos) (dW sp [] E0 t):=by
 obtain⟨f,fd,F,b,hm,hk⟩:=C.ex;exact rZ F hr hg hm hk b .nil Yp ha hdb he hpl
end
section
variable {X:Cx}
def Aa6 (K:c7):List V->Hp->VK->Prop:=λxs H Q=>∃x n t b,xs=[x,.ty n]/\Ih K H x t/\kitOne K t (.type n)=some b/\Q (.bl b) H
theorem Bx:Ec X (.builtin "isinstance") (Aa6 X.K):=by
 intro pins s Y H xs us Q I r h;obtain⟨x,n,t,b,rfl,ty,e,q⟩:=h;obtain⟨u,w',rfl,ru,rw'⟩:=P7 r;cases(show w'=j0 n from rw');exact iL I ru ty e λtk=>⟨.bl b,H,I.tok tk,rfl,q⟩
theorem Ls {K:c7}:kitOne K (.type "int") (.type "bool")=some false:=by rfl
theorem Ng {K:c7}:kitOne K (.type "int") (.type "int")=some true:=by rfl
theorem Na {K:c7}:kitOne K (.type "str") (.type "str")=some true:=by rfl
theorem N1 {K:c7}:kitOne K (.type "tuple") (.type "tuple")=some true:=by rfl
end
theorem Fh {x y:Str}(h:x.cps.toList=y.cps.toList):x=y:=by
 obtain⟨a⟩:=x;obtain⟨b⟩:=y;have:a=b:=Array.toList_inj.mp h;rw[this]
def sgn (c:Nat):Str:=⟨#[c]⟩
def R7 (x:Str)(k:Nat):Str:=⟨(dy k x.cps.toList).flatten.toArray⟩
theorem Xm (x:Str)(k:Nat):(R7 x k).length=k*x.length:=by
 show(dy k x.cps.toList).flatten.toArray.size=k*x.cps.size;rw[d9,eF];simp
theorem Tr (a:Array Nat):∀(k:Nat) (acc:Array Nat),((dy k a).foldl (·++·) acc).toList=acc.toList++(dy k a.toList).flatten
 |0,acc=>by simp
 |k+1,acc=>by
  rw[gw,nr,Tr a k,gw];simp[du]
section
variable {X:Cx}
def Aah:R2:=λx y H Q=>∃z k,x=.str z/\y=.int k/\-(2 ^ 40)<k/\k<2 ^ 40/\z.length*k.toNat<=sizeLine/\z.length<=sizeLine/\Q (.str (R7 z k.toNat)) H
theorem fI:OpR X (binaryOp .Mult) Aah:=by
 intro pins s Y H x y v u Q I rx ry h;obtain⟨z,k,rfl,rfl,k1,k2,hz,hz2,q⟩:=h;obtain⟨t,rfl⟩:=rx;obtain⟨t',rfl⟩:=ry;have hs:=Ko;have hs':=CU;refine PySem.P.mul_str ?_ ?_ ?_ ?_
 ·rw[decide_eq_false (by lia),decide_eq_false (by lia)];rfl
 ·intro h1 _ hgt
  have hk:k<=2 ^ 40:=by lia
  have:(z.length:Int)<=(2 ^ 63-1)/k:=by
   rw[Int.le_ediv_iff_mul_le (by lia)];have e:(z.length:Int)*k=((z.length*k.toNat:Nat):Int):=by
    rw[xy,qh (by lia)]
   rw[e];lia
  lia
 ·intro _ _
  unfold HL
  simpa using hz
 ·split
  ·rename_i h1
   have e:R7 z k.toNat=wv:=by
    rw[show k.toNat=0 by lia];rfl
   rw[e] at q;exact⟨by decide,.str wv,H,I.tok _,⟨_,rfl⟩,q⟩
  ·rename_i h1
   split
   ·rename_i h2
    have e:R7 z k.toNat=z:=by
     refine Fh ?_;show(dy k.toNat z.cps.toList).flatten.toArray.toList=_;rcases Bool.or_eq_true_iff.mp h2 with h2|h2
     ·have:k=1:=by simpa using h2
      subst this;simp
     ·have:z.length=0:=by simpa using h2
      have e0:z.cps.toList=[]:=by
       have:z.cps.size=0:=this
       simpa using this
      rw[e0];simp
    rw[e] at q;exact⟨.str z,H,I,⟨_,rfl⟩,q⟩
   ·have e:(⟨(dy k.toNat z.cps).foldl (·++·) #[]⟩:Str)=R7 z k.toNat:=by
     refine Fh ?_;show((dy k.toNat z.cps).foldl (·++·) #[]).toList=_;rw[Tr];simp[R7]
    refine⟨?_,.str (R7 z k.toNat),H,I.tok _,⟨s.toks,by rw[e]⟩,q⟩;rw[e,Xm,qk];exact hz
theorem Kr {ys:Za6}:∀{us:Za3},Au (ys.map V.str) us->n6 us ys:=by
 induction ys with
 |nil=>intro us r;rw[oi] at r;cases r;exact .nil
 |cons y ys ih=>
  intro us r;rw[fm] at r
  cases r with
  |cons r1 r2=>
   obtain⟨t,e⟩:=r1;subst e;exact .cons y t (ih r2)
def oO (K:c7):V->List V->Hp->VK->Prop:=λx vs H Q=>∃sep p ys,x=.str sep/\vs=[.ref p]/\SqL K H p (ys.map V.str)/\(ys.map (·.length)).sum+ys.length*sep.length<=16777216/\Q (.str (qx sep ys)) H
theorem K2:MtM X "str.join" (oO X.K):=by
 intro pins s Y H x vs v us Q I rx rv h;obtain⟨sep,p,ys,rfl,rfl,hp,hz,q⟩:=h;obtain⟨t,rfl⟩:=rx;obtain⟨u,rfl,ru⟩:=rv.one;cases ru;obtain⟨its,r,pl,_⟩:=I.list hp;exact join_list pl.isList (by simpa using Kr r) hz λt' k=>⟨.str (qx sep ys),H,I.tok k,⟨t',rfl⟩,q⟩
theorem Sr:∀(ys:Za6) (a:Array Nat),(ys.foldl (λacc p=>acc++("":Str).cps++p.cps) a).toList=a.toList++(ys.map λy=>y.cps.toList).flatten
 |[],a=>by simp
 |y::r,a=>by
  rw[nr,Sr r];have e:("":Str).cps=#[]:=rfl;rw[e];simp[du]
theorem Ks (ys:Za6):(qx ("":Str) ys).cps.toList=(ys.map λy=>y.cps.toList).flatten:=by
 show((ys.drop 1).foldl (λacc p=>acc++("":Str).cps++p.cps) (ys.headD wv).cps).toList=_;rw[Sr]
 cases ys with
 |nil=>rfl
 |cons y r=>simp
end
def Pk:gv->Bool
 |.Starred ..=>false
 |_=>true
theorem Yr {e:gv}(h:Pk e=true):starEach (e::es) env=(false,eval e env)::starEach es env:=by
 cases e<;>first|rfl|cases h
section
variable {X:Cx} {e:gv} {es:List gv} {te:TE} {t:TA}
theorem wK (ha:PE X e te)(hr:PA X es t)(hs:Pk e=true):PA X (e::es) (Ti te t):=rM ha hr (Yr hs)
end
structure PAi (X:Cx) (es:List gv) (t:TA):Prop where
 h:PA X es t
structure PEi (X:Cx) (e:gv) (t:TE):Prop where
 h:PE X e t
structure PSi (X:Cx) (st:im) (t:TS):Prop where
 h:PS X st t
structure lU (X:Cx) (sts:List im) (t:TS):Prop where
 h:PSs X sts t
section
variable {X:Cx} {e a b:gv} {es:List gv} {te ta tb:TE} {t:TA} {pos:Pos} {st:im} {rest:List im} {u u2:TS}
theorem Zg:PAi X [] lG:=⟨Aa⟩
theorem Nw (ha:PE X e te)(hr:PAi X es t)(hs:Pk e=true):PAi X (e::es) (Ti te t):=⟨wK ha hr.h hs⟩
theorem tM (ha:PEi X e te)(hr:PAi X es t)(hs:Pk e=true):PAi X (e::es) (Ti te t):=⟨wK ha.h hr.h hs⟩
theorem oU (h:PAi X es t):PEi X (.List es pos) (vO t):=⟨Bl h.h⟩
theorem si (h:PS X st u):PSi X st u:=⟨h⟩
theorem Fi (h1:PSi X st u)(h2:lU X rest u2):lU X (st::rest) (vM u u2):=⟨Ab h1.h h2.h⟩
theorem oP (h1:PSi X st u):lU X [st] u:=⟨Ae h1.h⟩
end
theorem us2 {P:Za3->Prop}(h:∀a b,P [a,b]):∀us:Za3,us.length=2->P us
 |[_,_],_=>h _ _
theorem us3 {P:Za3->Prop}(h:∀a b c,P [a,b,c]):∀us:Za3,us.length=3->P us
 |[_,_,_],_=>h _ _ _
section
variable {Y:St} {H:Hp} {D:Hk} {Q:VK} {t u:TS} {te ta tb:TE} {QB:Bool->Hp->Prop}
theorem yK (h:t { D with nx:=u D } Y H):vM t u D Y H:=h
theorem vA (h:D.nx Y H):tP D Y H:=h
theorem xX {g:TG}(h:te Y H λx H1=>g x Y H1 D.nx):gR te g D Y H:=h
theorem qK {i:Nat}{v:V}{R:St->Hp->Prop}(h:R (Y.set i (some v)) H):Dy i v Y H R:=h
theorem xN (h:te Y H D.rt):xZ te D Y H:=h
theorem wF (h:te Y H λ_ H1=>D.nx Y H1):tW te D Y H:=h
theorem zP {c:TT}(h:c Y H λb H1=>if b=true then t D Y H1 else u D Y H1):zM c t u D Y H:=h
theorem yF {i:Nat}{ti:TIp}{x:V}(e:Y[i]?=some (some x))(h:te Y H λy H1=>ti x y H1 λz H2=>D.nx (Y.set i (some z)) H2):wH i te ti D Y H:=⟨x,e,h⟩
theorem zR {i:Nat}{v:V}(e:Y[i]?=some (some v))(h:Q v H):uU i Y H Q:=⟨v,e,h⟩
theorem r_c {v:V}(h:Q v H):tC v Y H Q:=h
theorem Aa5 {r:R2}(h:ta Y H λx H1=>tb Y H1 λy H2=>r x y H2 Q):tOp r ta tb Y H Q:=h
theorem Aam {r:V->Hp->VK->Prop}(h:ta Y H λx H1=>r x H1 Q):tUn r ta Y H Q:=h
theorem Aat {g:Int->V}{i:Int}(h:Q (g i) H):rU g (.int i) H Q:=⟨i,rfl,h⟩
theorem zU {g:Int->Int->V}{i j:Int}(h:Q (g i j) H):rI0 g (.int i) (.int j) H Q:=⟨i,j,rfl,rfl,h⟩
theorem Aai {C:Int->Int->Prop}{g:Int->Int->V}{i j:Int}(c:C i j)(h:Q (g i j) H):rI C g (.int i) (.int j) H Q:=⟨i,j,rfl,rfl,c,h⟩
theorem zG {f:Int->Int->Int}{i j:Int}(h:Q (.int (f i j)) H):ipI f (.int i) (.int j) H Q:=⟨i,j,rfl,rfl,h⟩
theorem zV {x:V}(e:kZ x y=true)(h:Q (.bl (decide (x=y))) H):rEq x y H Q:=⟨e,h⟩
theorem xW {x:V}(e:kZ x y=true)(h:Q (.bl (!decide (x=y))) H):rNe x y H Q:=⟨e,h⟩
theorem wM (h:te Y H λx H'=>∃k,x=.bl k/\QB k H'):pJ te Y H QB:=h
theorem Aal (h:te Y H λx H'=>∃k,x=.bl k/\QB k H'):tB te Y H QB:=h
theorem Aaz {k:Bool}{P:Bool->Prop}(h:P k):∃k',V.bl k=.bl k'/\P k':=⟨k,rfl,h⟩
theorem zI {c:TT}(h:c Y H λb H1=>QB (!b) H1):xT c Y H QB:=h
theorem zC {c d:TT}(h:c Y H λb H1=>if b=true then d Y H1 QB else QB false H1):zX c d Y H QB:=h
theorem Aan {c d:TT}(h:c Y H λb H1=>if b=true then QB true H1 else d Y H1 QB):tOr c d Y H QB:=h
theorem vW (h:ta Y H λx H1=>∃c,x=.bl c/\if c=true then tb Y H1 Q else Q (.bl false) H1):tJ ta tb Y H Q:=h
theorem wB (h:ta Y H λx H1=>∃c,x=.bl c/\Q (.bl (!c)) H1):tX ta Y H Q:=h
theorem zA {c:TT}(h:c Y H λb H1=>if b=true then ta Y H1 Q else tb Y H1 Q):tIf c ta tb Y H Q:=h
theorem rX {r r':R2}{tc:TE}(h:ta Y H λx H1=>tb Y H1 λy H2=>r x y H2 λz H3=>∃k,z=.bl k/\(if k=true then tc Y H3 λw' H4=>r' y w' H4 Q else Q (.bl false) H3)):pB r r' ta tb tc Y H Q:=h
theorem zY (h:QB true H):xM Y H QB:=h
variable {tA tR:TA} {QA:List V->Hp->Prop}
theorem zQ (h:QA [] H):lG Y H QA:=h
theorem uZ (h:te Y H λx H1=>tR Y H1 λxs H2=>QA (x::xs) H2):Ti te tR Y H QA:=h
theorem uH {E:XK}(h:tA Y H λvs H1=>sp (vs++[]) H1 Q E):dW sp [] E tA Y H Q:=h
theorem Aay {r:List V->Hp->VK->Prop}(h:tA Y H λvs H1=>r vs H1 Q):tCB r tA Y H Q:=h
theorem Aag (h:tA Y H λxs H1=>xs.length<=sizeLine/\∀p,H1 p=none->Q (.ref p) (upd H1 p (.lst xs))):vO tA Y H Q:=h
theorem yN (h:tA Y H λxs H1=>xs.length<=sizeLine/\∀p,H1 p=none->Q (.ref p) (upd H1 p (.tup xs))):xD tA Y H Q:=h
theorem Aao {K:c7}{T:String}{r:V->List V->Hp->VK->Prop}(h:te Y H λx H1=>tyV K T x H1/\tA Y H1 λxs H2=>r x xs H2 Q):tBM K T r te tA Y H Q:=h
theorem Aap {r:V->Option Int->Option Int->Hp->VK->Prop}{tl th:TO}(h:te Y H λx H1=>tl Y H1 λl H2=>th Y H2 λu H3=>r x l u H3 Q):tSl r te tl th Y H Q:=h
theorem lR {QO:Option Int->Hp->Prop}(h:QO none H):dJ Y H QO:=h
theorem wO {QO:Option Int->Hp->Prop}(h:te Y H λx H1=>∃i,x=.int i/\QO (some i) H1):tT te Y H QO:=h
theorem Aad {P:Int->Prop}{i:Int}(h:P i):∃j,V.int i=.int j/\P j:=⟨i,rfl,h⟩
def lA (J:It)(g:TG)(tb:TS)(D:Hk)(Y:St)(H1:Hp):Prop:=∃W:Nat->Nat->St->Hp->Prop,(∃m,W 0 m Y H1)/\∀i m Y H,W i m Y H ->
 (J.stop i H/\D.nx Y H)\/(J.go i H/\∃N:St->Hp->Prop,(∀mt H',N mt H'->∃m',m'<m/\W (i+1) m' mt H')/\∀x H',J.yld i H x H'->g x Y H' λQP H2=>tb { D with nx:=N,ct:=N,bk:=D.nx } QP H2)
theorem yB {g:TG}(h:wi Y H λJ H1=>lA J g t D Y H1):wE wi g t D Y H:=h
theorem vJ {R:It->Hp->Prop}(h:tA Y H λvs H1=>∃j:Int,vs=[.int j]/\-(2 ^ 62)<=j/\j<2 ^ 62/\R (Itr 0 j.toNat) H1):tU tA Y H R:=h
theorem vX {R:It->Hp->Prop}(h:tA Y H λvs H1=>∃i j:Int,vs=[.int i,.int j]/\(-(2 ^ 62)<=i/\i<2 ^ 62/\-(2 ^ 62)<=j/\j<2 ^ 62)/\R (Itr i (j-i).toNat) H1):tZ tA Y H R:=h
theorem qM {K:c7}{R:It->Hp->Prop}(h:te Y H λx H1=>∃a,x=.ref a/\(∃xs,SqL K H1 a xs)/\R (Itl K a) H1):dC K te Y H R:=h
theorem wW {K:c7}{R:It->Hp->Prop}(h:te Y H λx H1=>∃a,x=.ref a/\(∃xs,SqT K H1 a xs)/\R (Itt K a) H1):xF K te Y H R:=h
theorem Aaw {ix:Za4}{tc:TT}(h:wi Y H λJ H1=>N5 J H1 (frV Y ix) tc te Q):tLc wi ix tc te Y H Q:=h
theorem Cd {K:c7}{p:de}{i:Int}{v:V}(hs:SqL K H p xs)(e:atI xs i=some v)(h:Q v H):vE K (.ref p) (.int i) H Q:=⟨p,xs,i,v,rfl,rfl,hs,e,h⟩
theorem Fg {K:c7}{p:de}{i:Int}{v:V}(hs:SqT K H p xs)(e:atI xs i=some v)(h:Q v H):qJ K (.ref p) (.int i) H Q:=⟨p,xs,i,v,rfl,rfl,hs,e,h⟩
theorem A6 {l:de}(hl:H l=some (.lst xs))(hz:xs.length<sizeLine)(h:Q .non (upd H l (.lst (xs++[y])))):dN (.ref l) [y] H Q:=⟨l,xs,y,rfl,rfl,hl,hz,h⟩
end
theorem Fy {c:TT}{tb:TS}{Y:St}(Pv:St->Hp->Prop)(μ:St->Hp->Nat)(h0:Pv Y H)
  (hs:∀m Y H,Pv Y H->μ Y H=m->c Y H λb H1=>if b=true then ∃N:St->Hp->Prop,(∀mt H',N mt H'->∃m',m'<m/\(Pv mt H'/\μ mt H'=m'))/\tb { D with nx:=N,ct:=N,bk:=D.nx } Y H1 else D.nx Y H1):pE c tb D Y H:=
 ⟨λm Y H=>Pv Y H/\μ Y H=m,⟨_,h0,rfl⟩,λm Y H h=>hs m Y H h.1 h.2⟩
theorem Mv {tb:TS}{rt:VK}{bk:St->Hp->Prop}{Y:St}{Pv:St->Hp->Prop}{μ:St->Hp->Nat}{m:Nat}
  (h:tb { nx:=λmt H'=>Pv mt H'/\μ mt H'<m,rt:=rt,bk:=bk,ct:=λmt H'=>Pv mt H'/\μ mt H'<m } Y H1) :
  ∃N:St->Hp->Prop,(∀mt H',N mt H'->∃m',m'<m/\(Pv mt H'/\μ mt H'=m'))/\tb { nx:=N,rt:=rt,bk:=bk,ct:=N } Y H1:=⟨_,λmt H' z=>⟨_,z.2,z.1,rfl⟩,h⟩
section
variable {H:Hp} {Q:VK} {g:Int->Int->V} {i j:Int}
theorem eR (c:0<j)(h:Q (g i j) H):rI (λ_ j=>0<j) g (.int i) (.int j) H Q:=⟨i,j,rfl,rfl,c,h⟩
theorem tE (c:0<=j)(h:Q (g i j) H):rI (λ_ j=>0<=j) g (.int i) (.int j) H Q:=⟨i,j,rfl,rfl,c,h⟩
theorem yI (c1:0<j)(c2:j<1073741824)(h:Q (g i j) H):rI yP g (.int i) (.int j) H Q:=⟨i,j,rfl,rfl,⟨c1,c2⟩,h⟩
theorem Pl (c1:-(2 ^ 64)<j)(c2:j<2 ^ 64)(h:Q (g i j) H):rI nS g (.int i) (.int j) H Q:=⟨i,j,rfl,rfl,.inr ⟨c1,c2⟩,h⟩
theorem mZ (c1:-(2 ^ 64)<i)(c2:i<2 ^ 64)(h:Q (g i j) H):rI nS g (.int i) (.int j) H Q:=⟨i,j,rfl,rfl,.inl ⟨c1,c2⟩,h⟩
end
theorem Ct {c A:Prop}[Decidable c](h1:c->A)(h2:¬ c->B):if decide c=true then A else B:=by
 by_cases h:c
 ·rw[decide_eq_true h,if_pos rfl]
  exact h1 h
 ·rw[decide_eq_false h,if_neg fu]
  exact h2 h
theorem J5 {c A:Prop}[Decidable c](h1:¬ c->A)(h2:c->B):if(!decide c)=true then A else B:=by
 by_cases h:c
 ·rw[decide_eq_true h,if_neg (by decide)]
  exact h2 h
 ·rw[decide_eq_false h,if_pos (by decide)]
  exact h1 h
def Aae (c:TT)(t u:TS):TS:=λD Y H=>∃J:St->Hp->Prop,(∀Y H,J Y H->D.nx Y H)/\c Y H λb H1=>if b=true then t { D with nx:=J } Y H1 else u { D with nx:=J } Y H1
theorem vV {c:gv}{a b:List im}{tc:TT}{t u:TS}(hc:PT X c tc)(ha:PSs X a t)(hb:PSs X b u):PS X (.If c a b pos) (Aae tc t u):=by
 k_end;obtain⟨J,hJ,h⟩:=h;refine thn (B1 hc ha hb pins s Y H { D with nx:=J } I h) λf s' q=>?_
 cases f with
 |next=>
  obtain⟨mt,H',I',q'⟩:=q;exact⟨mt,H',I',hJ _ _ q'⟩
 |brk=>exact q
 |cont=>exact q
 |ret u=>exact q
theorem yE {c:TT}{t u:TS}{Y:St}(J:St->Hp->Prop)(h:c Y H λb H1=>if b=true then t { D with nx:=J } Y H1 else u { D with nx:=J } Y H1)(hJ:∀Y H,J Y H->D.nx Y H):Aae c t u D Y H:=⟨J,hJ,h⟩
theorem qL {α:Type}{xs:List α}{i:Int}{v:α}(h0:0<=i)(h:xs[i.toNat]?=some v):atI xs i=some v:=by
 have:=Bj (xs:=xs) (j:=i.toNat) h
 rwa [qh h0] at this
def nA (lo st:Int)(n:Nat):It:=⟨λi _=>i<n,λi H x H'=>H'=H/\x=.int (lo+i*st),λi _=>n<=i⟩
def B8 (lo hi st:Int):Nat:=((hi-lo+st-1)/st).toNat
theorem Xh {P:fi}{K:c7}(it:de)(lo dt:Int)(n:Nat):Mw P w K tg (nA lo dt n) [it] it (λi h=>yv h it (lo+(i:Nat)*dt) ((n:Int)-(i:Nat)) dt) where
 mem:=by simp
 obj:=λi h st b hb=>by
  have e:b=it:=by simpa using hb
  subst e;exact⟨_,st,λv z=>by
   have z':z0 _=HJ v:=z;cases z'⟩
 keep:=λi h h' st k=>k it (by simp) _ st
 item:=by
  intro X hP hw hK hc i pins s Y H E I hf st hg;subst hP hw hK;obtain⟨f0,f1,f2,f3,f4,f5⟩:=hf it (by simp);have W:=EG (prog:=X.prog) (w:=X.w) (I.ok.hd hc) it lo dt n;refine W.item i s _ _ hg st λv h' tk hv st' kk=>?_;obtain⟨t,rfl⟩:=hv;have I1:Inv X pins Y H { s with heap:=h',toks:=tk }:=I.turned (λb o hb e=>kk b o (by simpa using hb) e) f0 f1 f3 f4 f5;exact⟨_,rfl,W5 (s:={ s with heap:=h',toks:=tk }) (n:="range_iterator") st' rfl rfl (by decide) ⟨.int _,H,I1,⟨t,rfl⟩,⟨rfl,rfl⟩,st',λb hb=>(hf b hb).1⟩⟩
 done:=by
  intro X hP hw hK hc i pins s Y H E I hf st hg;subst hP hw hK;obtain⟨f0,f1,f2,f3,f4,f5⟩:=hf it (by simp);exact AW (I.ok.hd hc) st (by have:n<=i:=hg;lia) λh' eb=>⟨rfl,I.turned (t':=s.toks) (λb o hb e=>eb b o hb e) f0 f1 f3 f4 f5⟩
 self:=λ_ _ _ _ _ st h=>AY st h
theorem Pi {lo hi st:Int}(h:0<st):ji lo hi st=(B8 lo hi st:Int):=by
 unfold ji B8;rw[if_pos h]
 by_cases hl:lo<hi
 ·rw[if_pos hl]
  have e:(hi-lo+st-1)/st=(hi-lo-1)/st+1:=by
   rw[show hi-lo+st-1=(hi-lo-1)+st*1 by lia,Int.add_mul_ediv_left _ _ (by lia)]
  rw[e];have:0<=(hi-lo-1)/st:=Int.ediv_nonneg (by lia) (by lia);exact(qh (Int.add_nonneg this (by decide))).symm
 ·rw[if_neg hl]
  have:(hi-lo+st-1)/st<=0:=by
   have:=Int.ediv_le_ediv h (show hi-lo+st-1<=st-1 by lia);rw[Int.ediv_eq_zero_of_lt (show 0<=st-1 by lia) (by lia)] at this;exact this
  lia
theorem Ys {lo hi st:Int}(h:0<st)(h1:-(2 ^ 61)<=lo)(h2:lo<2 ^ 61)(h3:-(2 ^ 61)<=hi)(h4:hi<2 ^ 61)(h5:st<2 ^ 61):oq lo hi st=true:=by
 unfold oq;rw[Pi h];have hb:(B8 lo hi st:Int)*st<=hi-lo+st-1\/(B8 lo hi st:Int)=0:=by
  unfold B8
  by_cases hz:0<=(hi-lo+st-1)/st
  ·left
   rw[qh hz];exact Int.ediv_mul_le _ (by lia)
  ·right
   lia
 have hn:(B8 lo hi st:Int)<=(B8 lo hi st:Int)*st:=by
  have:=Int.mul_le_mul_of_nonneg_left (show(1:Int)<=st by lia) (jp (B8 lo hi st));lia
 have hmul:lo+(B8 lo hi st:Int)*st<2 ^ 63/\-(2 ^ 63)<=lo+(B8 lo hi st:Int)*st:=by
  have h0:0<=(B8 lo hi st:Int)*st:=Int.mul_nonneg (jp _) (by lia);rcases hb with hb|hb
  ·lia
  ·rw[hb] at h0 ⊢
   lia
 have h0:0<=(B8 lo hi st:Int):=jp _;have hs:(B8 lo hi st:Int)<2 ^ 63:=by
  rcases hb with hb|hb
  ·lia
  ·lia
 rw[if_pos h];simp only[ur,kl,xl,decide_eq_true_eq,beq_iff_eq];refine⟨⟨⟨⟨?_,?_⟩,?_⟩,?_⟩,.inr ?_⟩<;>lia
section
variable {X:Cx} {tg:gv}
def tV (ta:TA):TI:=λY H R=>ta Y H λvs H1=>∃i j k:Int,vs=[.int i,.int j,.int k]/\(-(2 ^ 40)<=i/\i<2 ^ 40/\-(2 ^ 40)<=j/\j<2 ^ 40/\0<k/\k<2 ^ 29)/\R (nA i k (B8 i j k)) H1
theorem Mm {a b c:gv}{ta:TA}{p:Pos}(hg:Gl X "range")(hm:X.mg "range"=none)(ha:PA X [a,b,c] ta)(hs:autoParam (starEach [a,b,c] X.env=[(false,eval a X.env),(false,eval b X.env),(false,eval c X.env)]) QD)
  (hs2:autoParam (starEach [b,c] X.env=[(false,eval b X.env),(false,eval c X.env)]) QD):PI X tg (.Call (.Name "range" p) [a,b,c] [] pos) (tV ta):=by
 intro pins s Y H R I h;refine Call_ (Dv I hg hm boot_range (gp (thA ha I h λus s1 vs H1 I1 r1 q1=>?_) (by rw[hs,hs2]) (by rw[hs2];rfl)));obtain⟨i,j,k,e,⟨q1,q2,q3,q4,q5,q6⟩,q⟩:=q1;subst e
 cases r1 with
 |cons r rr=>
  cases rr with
  |cons r' rr=>
   cases rr with
   |cons r'' rr=>
    cases rr;obtain⟨t,rfl⟩:=r;obtain⟨t',rfl⟩:=r';obtain⟨t'',rfl⟩:=r'';refine IJ (by lia) ?_ (.inl (rj (by lia)));refine DO (y0 ..) (Ys q5 (by lia) (by lia) (by lia) (by lia) (by lia)) ?_;have I2:Inv X pins Y H1 { s1 with heap:=s1.heap.push { cls:=.type "range",data:=.fields #[.int i t,.int j t',.int k t''] },toks:=s1.toks }:=I1.kept λb o e=>dg _ e;refine⟨_,[_],_,_,H1,rfl,I2.kept (t':=s1.toks) λb o e=>dg _ e,Xh _ i k (B8 i j k),?_,λb hb=>?_,q⟩
    ·have e1:i+((0:Nat):Int)*k=i:=by simp
     have e2:((B8 i j k:Nat):Int)-((0:Nat):Int)=ji i j k:=by rw[Pi q5];simp
     show yv _ _ (i+((0:Nat):Int)*k) (((B8 i j k:Nat):Int)-((0:Nat):Int)) k;rw[e1,e2];exact fv _ rfl
    ·have e:=fg.mp hb
     subst e;exact I2.fpOk (c9 _) (I2.hok.fresh (c9 _))
end
theorem Xi {lo st:Int}{fr:St}{tc:TT}{Q:VK}(acc:Nat->List V)(h0:acc 0=[])(hz:∀i,i<n->(acc i).length<sizeLine)
  (turn:∀(i:Nat) H (R:Hp->Prop) (A:VK),i<n->Ah H1 H->(acc (i+1)=acc i->∀H',Ah H H'->R H')->(∀y H',acc (i+1)=acc i++[y]->Ah H H'->A y H') ->
   tc (some (.int (lo+i*st))::fr) H λb H3=>if b=true then te (some (.int (lo+i*st))::fr) H3 A else R H3)
  (fin:∀D H,H1 D=none->Ah H1 H->H D=some (.lst (acc n))->Q (.ref D) H):N5 (nA lo st n) H1 fr tc te Q:=
 K3 n (λi=>.int (lo+i*st)) acc h0 hz (λi H hi _=>hi) (λi H x H' _ _ h=>⟨h.2,h.1⟩) (λH _=>c9 n) turn fin
def Its (z:Str):It:=⟨λi _=>i<z.cps.size,λi H x H'=>H'=H/\∃c,z.cps[i]?=some c/\x=.str (sgn c),λi _=>z.cps.size<=i⟩
section
variable {X:Cx} {tg:gv}
def yJ (tl:TE):TI:=λY H R=>tl Y H λx H1=>∃z,x=.str z/\R (Its z) H1
theorem mS {P:fi}{K:c7}{ty:String}{t:Tok}(hty:ty="str_ascii_iterator"\/ty="str_iterator")
  (W:∀A':ic,A'.handled=none->Walks P w A' it [it] [it] z.cps.size (SignAt z) (λi h=>h.IsStrIter it ty z t i))
  (hself:∀(A:ic) (i:Nat) (s:dv) (Q:Za0) (E:Za0),s.heap.IsStrIter it ty z t i->Q (.ref it) s->wpAny (model P w) A (pyIter (.ref it)) Q E s):Mw P w K tg (Its z) [it] it (λi h=>h.IsStrIter it ty z t i) where
 mem:=by simp
 obj:=λi h st b hb=>by
  have e:b=it:=by simpa using hb
  subst e;obtain⟨o,e,c,d⟩:=st;exact⟨o,e,λv z=>by rw[d] at z;cases z⟩
 keep:=λi h h' st k=>let ⟨o,ho,r⟩:=st;⟨o,k it (by simp) o ho,r⟩
 item:=by
  intro X hP hw hK hc i pins s Y H E I hf st hg;subst hP hw hK;obtain⟨f0,f1,f2,f3,f4,f5⟩:=hf it (by simp);refine(W X.A (I.ok.hd hc)).item i s _ _ hg st λv h' tk hv st' kk=>?_;obtain⟨c,u,hc',rfl⟩:=hv;have I1:Inv X pins Y H { s with heap:=h',toks:=tk }:=I.turned (λb o hb e=>kk b o (by simpa using hb) e) f0 f1 f3 f4 f5;obtain⟨o,e,cc,d⟩:=id st';exact⟨_,rfl,W5 (s:={ s with heap:=h',toks:=tk }) e cc d (by rcases hty with rfl|rfl<;>decide) ⟨.str (sgn c),H,I1,⟨u,rfl⟩,⟨rfl,c,hc',rfl⟩,st',λb hb=>(hf b hb).1⟩⟩
 done:=by
  intro X hP hw hK hc i pins s Y H E I hf st hg;subst hP hw hK;obtain⟨f0,f1,f2,f3,f4,f5⟩:=hf it (by simp);rcases hty with rfl|rfl
  ·exact wpAny_pyNext_ascii_end (I.ok.hd hc) st (lu hg) λh' eb=>⟨rfl,I.turned (t':=s.toks) (λb o hb e=>eb b o hb e) f0 f1 f3 f4 f5⟩
  ·exact wpAny_pyNext_wide_end (I.ok.hd hc) st (lu hg) λh' eb=>⟨rfl,I.turned (t':=s.toks) (λb o hb e=>eb b o hb e) f0 f1 f3 f4 f5⟩
 self:=λA i s Q E st h=>hself A i s Q E st h
theorem Zl {l:gv}{tl:TE}(hl:PE X l tl):PI X tg l (yJ tl):=by
 intro pins s Y H R I h;refine thE hl I h λv s1 x H1 I1 r1 q1=>?_;obtain⟨z,e,q⟩:=q1;subst e;obtain⟨t,rfl⟩:=r1;have fin:∀(o:Obj) (ty:String),(ty="str_ascii_iterator"\/ty="str_iterator")->(∀A':ic,A'.handled=none->Walks X.prog X.w A' s1.heap.objs.size [s1.heap.objs.size] [s1.heap.objs.size] z.cps.size (SignAt z) (λi h=>h.IsStrIter s1.heap.objs.size ty z t i)) ->
   (∀(A:ic) (i:Nat) (s:dv) (Q:Za0) (E:Za0),s.heap.IsStrIter s1.heap.objs.size ty z t i->Q (.ref s1.heap.objs.size) s->wpAny (model X.prog X.w) A (pyIter (.ref s1.heap.objs.size)) Q E s) ->
   (s1.heap.push o).IsStrIter s1.heap.objs.size ty z t 0->PIE X pins Y tg R (.ref s1.heap.objs.size) { s1 with heap:=s1.heap.push o }:=λo ty hty W hs h0=>by
  refine⟨s1.heap.objs.size,[s1.heap.objs.size],_,_,H1,rfl,I1.kept (t':=s1.toks) λb o e=>dg _ e,mS hty W hs,h0,λb hb=>?_,q⟩;have e:b=s1.heap.objs.size:=by simpa using hb
  subst e;exact I1.fpOk (c9 _) (I1.hok.fresh (c9 _))
 cases ha:z.cps.all (· < 128)
 ·exact wpAny_pyIter_wide ha (fin _ _ (.inr rfl) (λA' hA=>Walks.strWide hA _ z t) (λA i s Q E st h=>wpAny_pyIter_striter_wide st h) ⟨_,fv _ rfl,rfl,rfl⟩)
 ·exact wpAny_pyIter_ascii ha (fin _ _ (.inl rfl) (λA' hA=>Walks.strAscii hA _ z t) (λA i s Q E st h=>wpAny_pyIter_striter_ascii st h) ⟨_,fv _ rfl,rfl,rfl⟩)
end
theorem uM {tl:TE}{Y:St}{R:It->Hp->Prop}(h:tl Y H λx H1=>∃z,x=.str z/\R (Its z) H1):yJ tl Y H R:=h
theorem uP {tA:TA}{Y:St}{R:It->Hp->Prop}(h:tA Y H λvs H1=>∃i j k:Int,vs=[.int i,.int j,.int k]/\(-(2 ^ 40)<=i/\i<2 ^ 40/\-(2 ^ 40)<=j/\j<2 ^ 40/\0<k/\k<2 ^ 29)/\R (nA i k (B8 i j k)) H1):tV tA Y H R:=h
theorem uJ {fr:St}{tc:TT}{Q:VK}(acc:Nat->List V)(h0:acc 0=[])(hz:∀i,i<z.cps.size->(acc i).length<sizeLine)
  (turn:∀(i:Nat) c H (R:Hp->Prop) (A:VK),z.cps[i]?=some c->Ah H1 H->(acc (i+1)=acc i->∀H',Ah H H'->R H')->(∀y H',acc (i+1)=acc i++[y]->Ah H H'->A y H') ->
   tc (some (.str (sgn c))::fr) H λb H3=>if b=true then te (some (.str (sgn c))::fr) H3 A else R H3)
  (fin:∀D H,H1 D=none->Ah H1 H->H D=some (.lst (acc z.cps.size))->Q (.ref D) H):N5 (Its z) H1 fr tc te Q:=by
 refine K3 z.cps.size (λi=>.str (sgn (z.cps.getD i 0))) acc h0 hz (λi H hi _=>hi) (λi H x H' hi _ h=>⟨?_,h.1⟩) (λH _=>c9 _) (λi H R A hi sm=>turn i _ H R A (by simp[hi]) sm) fin;obtain⟨_,c,hc,rfl⟩:=h;simp[Array.getD,hi] at hc ⊢;rw[hc]
def Lk (z:Str)(lo hi:Option Int):Str:=⟨((z.cps.toList.drop (HT.sIx z.cps.size 0 lo)).take (HT.sIx z.cps.size z.cps.size hi-HT.sIx z.cps.size 0 lo)).toArray⟩
def yR:V->Option Int->Option Int->Hp->VK->Prop:=λx lo hi H Q=>∃z,x=.str z/\z.length<=sizeLine/\Q (.str (Lk z lo hi)) H
theorem xU (lo hi:Option Int)(n:Nat):jk lo hi 1 n=(di (HT.sIx n n hi-HT.sIx n 0 lo)).map (HT.sIx n 0 lo + ·):=by
 have e:jk lo hi 1 n=sliceRange ((HT.sIx n 0 lo:Nat):Int) ((HT.sIx n n hi:Nat):Int) 1:=by
  unfold jk;dsimp only;congr 1
  ·cases lo with
   |none=>simp[HT.sIx]
   |some i=>
    simp only[HT.sIx,show(1:Int)>0 by decide,if_true]
    by_cases h:i<0
    ·simp only[h,if_true]
     lia
    ·simp only[h,if_false]
     lia
  ·cases hi with
   |none=>simp[HT.sIx]
   |some i=>
    simp only[HT.sIx,show(1:Int)>0 by decide,if_true]
    by_cases h:i<0
    ·simp only[h,if_true]
     lia
    ·simp only[h,if_false]
     lia
 rw[e,GX]
theorem nE (z:Str)(t:Tok)(l u:Option (Int×Tok)):(sliceMade z t l u none=.val (.str z t)/\Lk z (l.map (·.1)) (u.map (·.1))=z)\/sliceMade z t l u none=.str (Lk z (l.map (·.1)) (u.map (·.1))):=by
 have hp:slicePicked z l u none=(di (HT.sIx z.length z.length (u.map (·.1))-HT.sIx z.length 0 (l.map (·.1)))).map (HT.sIx z.length 0 (l.map (·.1)) + ·):=xU _ _ _;have hc:(slicePicked z l u none).filterMap (z.cps[·]?)=(Lk z (l.map (·.1)) (u.map (·.1))).cps.toList:=by
  rw[hp,GZ];rfl
 unfold sliceMade;split
 ·rename_i hw
  left
  refine⟨rfl,Fh ?_⟩;have hlen:(slicePicked z l u none).length=z.length:=by simpa using hw
  rw[hp,c5,dn] at hlen;have h1:=HT.sIx_le z.length 0 (fq _) (l.map (·.1));have h2:=HT.sIx_le z.length z.length (c9 _) (u.map (·.1));have e1:HT.sIx z.length 0 (l.map (·.1))=0\/z.length=0:=by lia
  show((z.cps.toList.drop (HT.sIx z.cps.size 0 (l.map (·.1)))).take _).toArray.toList=_;rw[show z.cps.size=z.length from rfl] at *;rcases e1 with e1|e1
  ·rw[e1,ox] at hlen
   rw[e1,hlen,ox,mj,jf];exact ej (by simp[sy])
  ·have:z.cps.toList=[]:=by
    have:z.cps.size=0:=e1
    simpa using this
   rw[this];simp
 ·right
  rw[hc]
section
variable {X:Cx}
theorem Mz:SlR X yR:=by
 intro pins s Y H x v vl vu lo hi sl Q I rx hs pl pu h;obtain⟨z,rfl,hz,q⟩:=h;obtain⟨t,rfl⟩:=rx;refine⟨"str",_,xu.lookup,zg _ _ _,?_⟩;obtain⟨l,el,el'⟩:∃l:Option (Int×Tok),vl=partValue l/\lo=l.map (·.1):=by
  cases pl with
  |none=>exact⟨none,rfl,rfl⟩
  |int i t=>exact⟨some (i,t),rfl,rfl⟩
 obtain⟨u,eu,eu'⟩:∃u:Option (Int×Tok),vu=partValue u/\hi=u.map (·.1):=by
  cases pu with
  |none=>exact⟨none,rfl,rfl⟩
  |int i t=>exact⟨some (i,t),rfl,rfl⟩
 subst el el' eu eu';refine AH (l:=l) (u:=u) (st:=none) hs rfl ?_;rcases nE z t l u with⟨e,e2⟩|e
 ·rw[e]
  rw[e2] at q;exact⟨.str z,H,I,⟨t,rfl⟩,q⟩
 ·rw[e]
  refine⟨?_,.str _,H,I.tok _,⟨_,rfl⟩,q⟩;refine gm ?_ hz;show(ql _ (qm _ z.cps.toList)).toArray.size<=z.cps.size;rw[d9,eg,gh];simp;lia
def R8 (z:Str):Str:=⟨z.cps.toList.reverse.toArray⟩
def yO (te:TE):TE:=λY H Q=>te Y H λx H1=>∃z,x=.str z/\z.length<=sizeLine/\Q (.str (R8 z)) H1
end
theorem tK:bootBuiltins "zip"=some (.type "zip"):=by decide +kernel
theorem Nk:bootBuiltins "enumerate"=some (.type "enumerate"):=by decide +kernel
theorem Inv.turnT {Y:List (Option V)}{wr:List de}{T:de}(I:Inv X pins Y H s)
  (k:∀b o,b∉wr->s.heap.get? b=some o->h'.get? b=some o)(hf:∀b∈wr,Li X pins H b)(hT:s.heap.objs.size<=T)(hI:h'.IsTuple T us.toArray)(rv:Au xs us)(hz:xs.length<=sizeLine) :
  Inv X pins Y (upd H T (.tup xs)) { s with heap:=h',toks:=t' }:=by
 have hn:H T=none:=I.hok.fresh hT;have nT:∀b u,H b=some u->b≠T:=λb u e=>Aj e hn;have nW:∀b u,H b=some u->b∉wr:=λb u e z=>by rw[(hf b z).1] at e;cases e
 refine I.step (g':=s.gens) (d':=s.drawn) (ch:=wr) (λb hb=>?_) (λb o _ _ hc e _=>k b o hc e) (λb o _ _ hc e _=>⟨o.slots,k b o hc e⟩) (λb o hc e n=>?_)
  (λb o hc e=>⟨o,k b o hc e⟩) (λb xs e=>by rw[Ai (nT _ _ e)];exact e) (λb o u e=>by rw[Ai (nT _ _ e)];exact e) (λb ps e=>⟨#[],by rw[Ai (nT _ _ e),e];simp⟩) (λm hm=>?_) (λb u e=>?_) I.bare
 ·obtain⟨_,f1,_,f3,f4,f5⟩:=hf b hb
  exact⟨f3,f1,f4,f5⟩
 ·rw[Ai (fh (d8 (d7 e) hT))]
  exact n
 ·obtain⟨o,es,ep,ho,r⟩:=hm
  exact⟨o,es,ep,k _ o (λz=>(hf _ z).2.1 rfl) ho,r⟩
 ·by_cases hb:b=T
  ·subst hb
   rw[Ac] at e;cases e;exact⟨hz,us,rv,hI⟩
  ·rw[Ai hb] at e
   refine(I.hok b u e).stay (λc v hc q=>k c v ?_ q) (λc q=>by rw[Ai (nT _ _ q)];exact q) λc ys q=>by rw[Ai (nT _ _ q)];exact q
   rcases hc with z|z
   ·rw[z];exact nW b u e
   ·exact nW c _ z
theorem Inv.turnW {Y:List (Option V)}{wr:List de}(I:Inv X pins Y H s)
  (k:∀b o,b∉wr->s.heap.get? b=some o->h'.get? b=some o)(hf:∀b∈wr,Li X pins H b):Inv X pins Y H { s with heap:=h',toks:=t' }:=by
 have nW:∀b u,H b=some u->b∉wr:=λb u e z=>by rw[(hf b z).1] at e;cases e
 refine I.step (g':=s.gens) (d':=s.drawn) (ch:=wr) (λb hb=>?_) (λb o _ _ hc e _=>k b o hc e) (λb o _ _ hc e _=>⟨o.slots,k b o hc e⟩) (λb o hc e n=>n)
  (λb o hc e=>⟨o,k b o hc e⟩) (λ_ _ e=>e) (λ_ _ _ e=>e) (λb ps e=>⟨#[],by rw[e];simp⟩) (λm hm=>?_) (λb u e=>?_) I.bare
 ·obtain⟨_,f1,_,f3,f4,f5⟩:=hf b hb
  exact⟨f3,f1,f4,f5⟩
 ·obtain⟨o,es,ep,ho,r⟩:=hm
  exact⟨o,es,ep,k _ o (λz=>(hf _ z).2.1 rfl) ho,r⟩
 ·refine(I.hok b u e).stay (λc v hc q=>k c v ?_ q) (λ_ q=>q) λ_ _ q=>q
  rcases hc with z|z
  ·rw[z];exact nW b u e
  ·exact nW c _ z
theorem Fc {a b:de}{o u:Obj}(h1:h.get? a=some o)(h2:h.get? b=some u)(d:o.cls≠u.cls):a≠b:=λe=>by
 subst e;rw[h1] at h2;cases h2;exact d rfl
def Itz (K:c7)(a b:de):It:=
 ⟨λi H=>∃xs ys x y,SqL K H a xs/\SqL K H b ys/\xs[i]?=some x/\ys[i]?=some y,
  λi H v H'=>∃t x y,H t=none/\v=.ref t/\(∀xs,SqL K H a xs->xs[i]?=some x)/\(∀ys,SqL K H b ys->ys[i]?=some y)/\H'=upd H t (.tup [x,y]),
  λi H=>∃xs ys,SqL K H a xs/\SqL K H b ys/\i=min xs.length ys.length⟩
def StZ (z TI TO i1 i2 l1 l2:de)(i:Nat)(h:iq):Prop:=IsZip h z TI TO .none/\qe h TI (.ref i1) (.ref i2)/\(∃a b,qe h TO a b)/\h.IsListIter i1 l1 i/\h.IsListIter i2 l2 i
structure Z0 (z TI TO i1 i2:de):Prop where
 TIz:TI≠z
 TOz:TO≠z
 i1z:i1≠z
 i2z:i2≠z
 TITO:TI≠TO
 TIi1:TI≠i1
 TIi2:TI≠i2
 TOi1:TO≠i1
 TOi2:TO≠i2
 i12:i1≠i2
theorem Z9 {z TI TO a b:de}{i:Nat}{xs ys:Array dr}(D:Z0 z TI TO i1 i2)(st:StZ z TI TO i1 i2 a b i h)(ha:h.IsList a xs)(hb:h.IsList b ys):xq z TI TO i1 i2 a b:=by
 obtain⟨hz,hTI,⟨u,v,hTO⟩,⟨o1,e1,c1,_⟩,⟨o2,e2,c2,_⟩⟩:=st;obtain⟨oa,ea,ca,_⟩:=ha;obtain⟨ob,eb,cb,_⟩:=hb;refine⟨D.TIz,D.TOz,D.i1z,D.i2z,D.TITO,D.TIi1,D.TIi2,D.TOi1,D.TOi2,D.i12,Fc ea hz ?_,Fc ea hTO ?_,Fc ea e1 ?_,Fc ea e2 ?_,Fc eb hz ?_,Fc eb hTO ?_,Fc eb e1 ?_,Fc eb e2 ?_⟩
 ·rw[ca];exact show j0 "list"≠j0 "zip" by decide
 ·rw[ca];exact show j0 "list"≠j0 "tuple" by decide
 ·rw[ca,c1];decide
 ·rw[ca,c2];decide
 ·rw[cb];exact show j0 "list"≠j0 "zip" by decide
 ·rw[cb];exact show j0 "list"≠j0 "tuple" by decide
 ·rw[cb,c1];decide
 ·rw[cb,c2];decide
theorem Rw (n:Nat):Z0 (n+4) (n+2) (n+3) n (n+1):=by
 constructor<;>(intro h;have h:(_:Nat)=_:=h;lia)
theorem Aaa {c:Nat}(h:c=n+4\/c=n+2\/c=n+3\/c=n\/c=n+1):n<=c:=by lia
theorem sQ {c:Nat}(h:c=n+1\/c=n):n<=c:=by lia
theorem tY (n:Nat):n+1≠n:=by lia
theorem jQ {P:fi}{K:c7}{elts:List gv}{k:Nat}(z TI TO i1 i2 a b:de)(D:Z0 z TI TO i1 i2) :
  Mw P w K (.Tuple elts k pos) (Itz K a b) [z,TI,TO,i1,i2] z (StZ z TI TO i1 i2 a b) where
 mem:=by simp
 obj:=λi h st c hc=>by
  obtain⟨hz,hTI,⟨u,v,hTO⟩,⟨o1,e1,c1,d1⟩,⟨o2,e2,c2,d2⟩⟩:=st;simp only[gr,j4,or_false] at hc;rcases hc with rfl|rfl|rfl|rfl|rfl
  ·exact⟨_,hz,λv z=>by cases z⟩
  ·exact⟨_,hTI,λv z=>by cases z⟩
  ·exact⟨_,hTO,λv z=>by cases z⟩
  ·exact⟨_,e1,λv z=>by rw[d1] at z;cases z⟩
  ·exact⟨_,e2,λv z=>by rw[d2] at z;cases z⟩
 keep:=λi h h' st kk=>by
  obtain⟨hz,hTI,⟨u,v,hTO⟩,h1,h2⟩:=st;exact⟨kk _ (by simp) _ hz,kk _ (by simp) _ hTI,⟨u,v,kk _ (by simp) _ hTO⟩,h1.at λo e=>kk _ (by simp) o e,h2.at λo e=>kk _ (by simp) o e⟩
 item:=by
  intro X hP hw hK hc i pins s Y H E I hf st hg;subst hP hw hK;obtain⟨xs,ys,x,y,ha,hb,hx,hy⟩:=hg;obtain⟨its,rv,p,hz⟩:=I.list ha;obtain⟨its2,rv2,p2,hz2⟩:=I.list hb;have W:=DT (prog:=X.prog) (w:=X.w) (A:=X.A) (I.ok.hd hc) z TI TO i1 i2 a b (Z9 D st p.isList p2.isList) its.toArray its2.toArray;obtain⟨u1,hu1,ru1⟩:=rv.get hx;obtain⟨u2,hu2,ru2⟩:=rv2.get hy;have l1:=(dk.mp hu1).1;have l2:=(dk.mp hu2).1;obtain⟨s1,s2,s3,s4,s5⟩:=id st;refine W.item i s _ _ (by simp;lia) ⟨s1,s2,s3,s4,s5,p.isList,p2.isList⟩ λT vals h' tk hv hT hTu mid kk=>?_;obtain⟨v1,v2,e1,e2,rfl⟩:=hv;have e1:v1=u1:=by have:=e1;simp only[t9] at this;rw[hu1] at this;exact(dh this).symm
  have e2:v2=u2:=by have:=e2;simp only[t9] at this;rw[hu2] at this;exact(dh this).symm
  subst e1 e2;have nT:=W.apart i T h' mid;refine⟨.ref T,rfl,W.go elts k pos i T { s with heap:=h',toks:=tk } _ _ mid λh'' st'' kk2=>?_⟩;have hTu2:h''.IsTuple T ([v1,v2]:Za3).toArray:=by
   obtain⟨o,e,r⟩:=hTu;exact⟨o,kk2 T o nT e,r⟩
  have I2:Inv X pins Y (upd H T (.tup [x,y])) { s with heap:=h'',toks:=tk }:=I.turnT (t':=tk) (λb o hb e=>kk2 b o hb (kk b o hb e)) (λb hb=>hf b (by simp at hb ⊢;rcases hb with rfl|rfl|rfl|rfl<;>simp)) hT hTu2 (.cons ru1 (.cons ru2 .nil)) (show 2<=sizeLine by decide)
  refine⟨.ref T,_,I2,rfl,⟨T,x,y,I.hok.fresh hT,rfl,λxs' h=>by rw[I.list_inj h ha];exact hx,λys' h=>by rw[I.list_inj h hb];exact hy,rfl⟩,⟨st''.1,st''.2.1,st''.2.2.1,st''.2.2.2.1,st''.2.2.2.2.1⟩,λc hc'=>?_⟩;have hlt:c<s.heap.objs.size:=by
   obtain⟨q,⟨t1,t2,t3⟩⟩:c∈[z,TI,TO,i1,i2]/\(IsZip s.heap z TI TO .none/\qe s.heap TI (.ref i1) (.ref i2)/\True):=⟨hc',s1,s2,trivial⟩;obtain⟨u,v,s3⟩:=s3;obtain⟨o4,s4,_⟩:=s4;obtain⟨o5,s5,_⟩:=s5;simp only[gr,j4,or_false] at hc';rcases hc' with rfl|rfl|rfl|rfl|rfl
   ·exact d7 s1
   ·exact d7 s2
   ·exact d7 s3
   ·exact d7 s4
   ·exact d7 s5
  rw[Ai (fh (d8 hlt hT))];exact(hf c hc').1
 done:=by
  intro X hP hw hK hc i pins s Y H E I hf st hg;subst hP hw hK;obtain⟨xs,ys,ha,hb,hi⟩:=hg;obtain⟨its,rv,p,hz⟩:=I.list ha;obtain⟨its2,rv2,p2,hz2⟩:=I.list hb;have W:=DT (prog:=X.prog) (w:=X.w) (A:=X.A) (I.ok.hd hc) z TI TO i1 i2 a b (Z9 D st p.isList p2.isList) its.toArray its2.toArray;have hl:=rv.length;have hl2:=rv2.length;have hi2:i=min its.toArray.size its2.toArray.size:=by rw[hi,hl,hl2];simp
  obtain⟨s1,s2,s3,s4,s5⟩:=id st;refine W.done s _ _ (by rw[<-hi2];exact⟨s1,s2,s3,s4,s5,p.isList,p2.isList⟩) λh' tk kk=>⟨rfl,?_⟩;exact I.turnW (t':=tk) kk λb hb=>hf b (by simp at hb ⊢;rcases hb with rfl|rfl|rfl|rfl<;>simp)
 self:=λ_ _ _ _ _ st h=>yb st.1 h
section
variable {X:Cx} {elts:List gv} {k:Nat} {tpos:Pos}
def xP (K:c7)(ta:TA):TI:=λY H R=>ta Y H λvs H1=>∃a b,vs=[.ref a,.ref b]/\(∃xs,SqL K H1 a xs)/\(∃ys,SqL K H1 b ys)/\R (Itz K a b) H1
theorem Ur {a b:gv}{ta:TA}{p:Pos}(hg:Gl X "zip")(hm:X.mg "zip"=none)(ha:PA X [a,b] ta)(hs:autoParam (starEach [a,b] X.env=[(false,eval a X.env),(false,eval b X.env)]) QD)(hs2:autoParam (starEach [b] X.env=[(false,eval b X.env)]) QD) :
  PI X (.Tuple elts k tpos) (.Call (.Name "zip" p) [a,b] [] pos) (xP X.K ta):=by
 intro pins s Y H R I h;refine Call_ (Dv I hg hm tK (gp (thA ha I h λus s1 vs H1 I1 r1 q1=>?_) (by rw[hs,hs2]) (by rw[hs2];rfl)));obtain⟨a,b,e,⟨xs,hx⟩,⟨ys,hy⟩,q⟩:=q1;subst e;obtain⟨u,v,rfl,ru,rv⟩:=P7 r1;cases ru;cases rv;obtain⟨its,rv,p,hz⟩:=I1.list hx;obtain⟨its2,rv2,p2,hz2⟩:=I1.list hy;refine call_zip_2 p.isList p2.isList λh' g1 g2 g3 g4 g5 hsz kk=>?_;refine yb (s:={ s1 with heap:=h' }) g1 ?_;refine⟨s1.heap.objs.size+4,[s1.heap.objs.size+4,s1.heap.objs.size+2,s1.heap.objs.size+3,s1.heap.objs.size,s1.heap.objs.size+1],_,_,H1,rfl,I1.kept (t':=s1.toks) kk,
  jQ _ _ _ _ _ a b (Rw _),⟨g1,g2,⟨_,_,g3⟩,g4,g5⟩,λc hc=>?_,q⟩
 have hle:s1.heap.objs.size<=c:=by
  simp only[gr,j4,or_false] at hc;exact Aaa hc
 exact I1.fpOk hle (I1.hok.fresh hle)
end
def Ite (K:c7)(a:de):It:=
 ⟨λi H=>∃xs x,SqL K H a xs/\xs[i]?=some x,
  λi H v H'=>∃t x,H t=none/\v=.ref t/\(∀xs,SqL K H a xs->xs[i]?=some x)/\H'=upd H t (.tup [.int i,x]),
  λi H=>∃xs,SqL K H a xs/\i=xs.length⟩
def StE (e it l:de)(i:Nat)(h:iq):Prop:=(∃old,IsEnum h e it i old)/\h.IsListIter it l i
theorem gC {P:fi}{K:c7}{elts:List gv}{k:Nat}(e it a:de)(D:e≠it) :
  Mw P w K (.Tuple elts k pos) (Ite K a) [e,it] e (StE e it a) where
 mem:=by simp
 obj:=λi h st c hc=>by
  obtain⟨⟨old,he⟩,⟨o1,e1,c1,d1⟩⟩:=st;simp only[gr,j4,or_false] at hc;rcases hc with rfl|rfl
  ·exact⟨_,he,λv z=>by cases z⟩
  ·exact⟨_,e1,λv z=>by rw[d1] at z;cases z⟩
 keep:=λi h h' st kk=>by
  obtain⟨⟨old,he⟩,h1⟩:=st;exact⟨⟨old,kk _ (by simp) _ he⟩,h1.at λo e=>kk _ (by simp) o e⟩
 item:=by
  intro X hP hw hK hc i pins s Y H E I hf st hg;subst hP hw hK;obtain⟨xs,x,ha,hx⟩:=hg;obtain⟨its,rv,p,hz⟩:=I.list ha;obtain⟨⟨old,s1⟩,s2⟩:=id st;have n1:a≠e:=by obtain⟨oa,ea,ca,_⟩:=p.isList;exact Fc ea s1 (by rw[ca];exact show j0 "list"≠j0 "enumerate" by decide)
  have n2:a≠it:=by obtain⟨oa,ea,ca,_⟩:=p.isList;obtain⟨o1,e1,c1,_⟩:=s2;exact Fc ea e1 (by rw[ca,c1];decide)
  have W:=AI (prog:=X.prog) (w:=X.w) (A:=X.A) (I.ok.hd hc) e it a D n1 n2 its.toArray;obtain⟨u1,hu1,ru1⟩:=rv.get hx;have l1:=(dk.mp hu1).1;refine W.item i s _ _ (by simpa using l1) ⟨⟨old,s1⟩,s2,p.isList⟩ λT vals h' tk hv hT hTu mid kk=>?_;obtain⟨t,v1,e1,rfl⟩:=hv;have e1:v1=u1:=by have:=e1;simp only[t9] at this;rw[hu1] at this;exact(dh this).symm
  subst e1;have nT:=W.apart i T h' mid;refine⟨.ref T,rfl,W.go elts k pos i T { s with heap:=h',toks:=tk } _ _ mid λh'' st'' kk2=>?_⟩;have hTu2:h''.IsTuple T ([ml (i:Int) t,v1]:Za3).toArray:=by
   obtain⟨o,e,r⟩:=hTu;exact⟨o,kk2 T o nT e,r⟩
  have I2:Inv X pins Y (upd H T (.tup [.int i,x])) { s with heap:=h'',toks:=tk }:=I.turnT (t':=tk) (λb o hb e=>kk2 b o hb (kk b o hb e)) (λb hb=>hf b hb) hT hTu2 (.cons ⟨t,rfl⟩ (.cons ru1 .nil)) (show 2<=sizeLine by decide);refine⟨.ref T,_,I2,rfl,⟨T,x,I.hok.fresh hT,rfl,λxs' h=>by rw[I.list_inj h ha];exact hx,rfl⟩,⟨?_,st''.2.1⟩,λc hc'=>?_⟩
  ·exact st''.1
  have hlt:c<s.heap.objs.size:=by
   obtain⟨o5,s5,_⟩:=s2;simp only[gr,j4,or_false] at hc';rcases hc' with rfl|rfl
   ·exact d7 s1
   ·exact d7 s5
  rw[Ai (fh (d8 hlt hT))];exact(hf c hc').1
 done:=by
  intro X hP hw hK hc i pins s Y H E I hf st hg;subst hP hw hK;obtain⟨xs,ha,hi⟩:=hg;obtain⟨its,rv,p,hz⟩:=I.list ha;obtain⟨⟨old,s1⟩,s2⟩:=id st;have n1:a≠e:=by obtain⟨oa,ea,ca,_⟩:=p.isList;exact Fc ea s1 (by rw[ca];exact show j0 "list"≠j0 "enumerate" by decide)
  have n2:a≠it:=by obtain⟨oa,ea,ca,_⟩:=p.isList;obtain⟨o1,e1,c1,_⟩:=s2;exact Fc ea e1 (by rw[ca,c1];decide)
  have W:=AI (prog:=X.prog) (w:=X.w) (A:=X.A) (I.ok.hd hc) e it a D n1 n2 its.toArray;have hl:=rv.length;have hi2:i=its.toArray.size:=by rw[hi,hl];simp
  refine W.done s _ _ (by rw[<-hi2];exact⟨⟨old,s1⟩,s2,p.isList⟩) λh' tk kk=>⟨rfl,?_⟩;exact I.turnW (t':=tk) kk λb hb=>hf b hb
 self:=λ_ _ _ _ _ st h=>sk (x9 st.1) h
section
variable {X:Cx} {elts:List gv} {k:Nat} {tpos:Pos}
def tI (K:c7)(ta:TA):TI:=λY H R=>ta Y H λvs H1=>∃a,vs=[.ref a]/\(∃xs,SqL K H1 a xs)/\R (Ite K a) H1
theorem L9 {a:gv}{ta:TA}{p:Pos}(hg:Gl X "enumerate")(hm:X.mg "enumerate"=none)(ha:PA X [a] ta)(hs:autoParam (starEach [a] X.env=[(false,eval a X.env)]) QD) :
  PI X (.Tuple elts k tpos) (.Call (.Name "enumerate" p) [a] [] pos) (tI X.K ta):=by
 intro pins s Y H R I h;refine Call_ (Dv I hg hm Nk (gp (thA ha I h λus s1 vs H1 I1 r1 q1=>?_) hs rfl));obtain⟨a,e,⟨xs,hx⟩,q⟩:=q1;subst e;obtain⟨u,rfl,ru⟩:=E6 r1;cases ru;obtain⟨its,rv,p,hz⟩:=I1.list hx;refine call_enumerate_list p.isList λh' g1 g2 hsz kk=>?_;refine sk (s:={ s1 with heap:=h' }) g1 ?_;refine⟨s1.heap.objs.size+1,[s1.heap.objs.size+1,s1.heap.objs.size],_,_,H1,rfl,I1.kept (t':=s1.toks) kk,
  gC _ _ a (tY _),⟨⟨_,g1⟩,g2⟩,λc hc=>?_,q⟩
 have hle:s1.heap.objs.size<=c:=by
  simp only[gr,j4,or_false] at hc;exact sQ hc
 exact I1.fpOk hle (I1.hok.fresh hle)
end
structure Dp (JC:Za6) (QU sc:l9) (x1 x2:Str) (N:Za6) (ix:Za4):Prop where
 kind:sc.kind=.function
 nocell:∀y∈sc.names,y.2≠.cell
 names:∀y∈sc.names,y.2=.local->sc.names.lookup y.1=some .local
 free:∀y∈sc.names,y.2=.free->QU.names.lookup y.1=some .cell
 nd:N.Nodup
 hd:N[0]?=some x1
 hd2:N[1]?=some x2
 loc:sc.names.lookup x1=some .local
 loc2:sc.names.lookup x2=some .local
 len:N.length=ix.length+2
 at_:∀p∈N.tail.tail.zip ix,JC[p.2]?=some p.1/\sc.names.lookup p.1=some .free
def Ki (K:c7)(J:It)(H1:Hp)(fr:St)(tc:TT)(te:TE)(Q:VK):Prop:=∀D,H1 D=none->∃W:Nat->Nat->Hp->Prop,(∃m,W 0 m (upd H1 D (.lst [])))/\∀i m H,W i m H ->
 (J.stop i H/\Q (.ref D) H)\/(J.go i H/\∀v H',J.yld i H v H'->∃a x y,v=.ref a/\SqT K H' a [x,y]/\tc (some x::some y::fr) H' λb H3=>
  if b=true then te (some x::some y::fr) H3 λy H4=>∃ys,H4 D=some (.lst ys)/\ys.length<sizeLine/\∃m',m'<m/\W (i+1) m' (upd H4 D (.lst (ys++[y]))) else ∃m',m'<m/\W (i+1) m' H3)
def wY (K:c7)(wi:TI)(ix:Za4)(tc:TT)(te:TE):TE:=λY H Q=>wi Y H λJ H1=>Ki K J H1 (frV Y ix) tc te Q
section
variable {X:Cx} {scope:l9} {N:Za6} {ix:Za4} {x1 x2:Str} {px px2 ppos:Pos} {kk:Nat} {elt iter:gv} {ifs:List gv} {tc:TT} {te:TE} {pos:Pos}
theorem vR {Y:St}{tn:Nat->iq->Prop}(L:Dp X.N X.env.scope scope x1 x2 N ix)(I2:Inv X pins Y H2 s2)
  (T:Mw X.prog X.w X.K tg J fp it tn)(st2:tn 0 s2.heap)(f2:∀b∈fp,Li X pins H2 b){s3 s4:dv}{H3:Hp}(I3:Inv X pins Y H3 s3)(I4:Inv X pins Y H3 s4)(hle:s2.heap.objs.size<=s3.heap.objs.size)
  (hC:C=s3.heap.objs.size)(ho:s4.os=s3.os)(kp:∀b u,s3.heap.get? b=some u->s4.heap.get? b=some u){m:Za2}(hns:s4.heap.Ns C m):Inv (Cs X scope N C s3 H3 fp) [] (none::none::frV Y ix) H3 s4:=by
 have hfree:∀y∈scope.names,y.2=.free->∃c,X.env.cells.lookup y.1=some c:=λy hy hf=>I2.ok.has y.1 (.inl (L.free y hy hf));have sub:∀y c,(Dk X.env scope.names []).lookup y=some c->X.env.cells.lookup y=some c:=λy c h=>Jy _ _ y c hfree (λ_ _ z=>by simp at z) h;have lt2:∀b∈fp,b<s2.heap.objs.size:=λb hb=>by obtain⟨o,e,_⟩:=T.obj _ _ st2 b hb;exact d7 e
 have okY:(Cs X scope N C s3 H3 fp).Ok:=by
  refine⟨I2.ok.mod,L.kind,I2.ok.glob,I2.ok.blt,lz hC.symm,λy z c h1 h2=>I2.ok.inj y z c (sub y c h1) (sub z c h2),λy hy=>?_,λy c z _=>?_,I2.ok.hd,I2.ok.frames,.inl rfl,λb hb=>⟨?_,λy c h=>(f2 b hb).2.2.2.2.1 y c (sub y c h)⟩,
   I3.bs,gm I3.ok.bsz I3.sz,λb o e hb=>?_,λb hb z=>?_,I3.stack,I3.stkFree⟩
  ·have hk:(y,mr)∈scope.names:=by
    rcases hy with hy|hy
    ·rcases Hx hy with q|q
     ·exact absurd rfl (L.nocell _ q)
     ·exact q.1
    ·rcases Hx hy with q|q
     ·exact q
     ·exact absurd q.2 (by decide)
   exact jj.mp (Fl _ _ y hk)
  ·cases(show false=true from z)
  ·have l:=lt2 b hb
   show b≠C;rw[hC];exact fh (d8 l hle)
  ·rcases(f2 b hb).2.2.2.1 with q|q
   ·exact I2.ok.noex b o e q
   ·exact absurd (d8 (d7 e) (gm I2.ok.bsz q)) (lf _)
  ·rcases gr.mp (I2.stkSub b z) with q|q
   ·exact(f2 b hb).2.1 q
   ·exact(f2 b hb).2.2.1 q
 refine⟨okY,ho,I4.bare,Un.kept kp,⟨m,hns,λi y v h1 h2 h3=>?_⟩,λy c e=>I4.cell y c (sub y c e),?_,λy c e=>I4.freeC y c (sub y c e),λp hp=>absurd (show p∈([]:Za1) from hp) (by simp),I4.hok,?_⟩
 ·cases i with
  |zero=>cases(show some none=some (some v) from h2)
  |succ k=>
   cases k with
   |zero=>cases(show some none=some (some v) from h2)
   |succ k=>
   have h2:(frV Y ix)[k]?=some (some v):=h2;have h1:N[k+1+1]?=some y:=h1;unfold frV at h2;rw[df] at h2
   cases hj:ix[k]? with
   |none=>rw[hj] at h2;cases h2
   |some j=>
    rw[hj] at h2;have h2:(Y[j]?).getD none=some v:=dh h2;have h2':Y[j]?=some (some v):=by
     cases e:Y[j]? with
     |none=>rw[e] at h2;cases h2
     |some z=>rw[e] at h2;exact congrArg some h2
    have ht:N.tail.tail[k]?=some y:=by rw[vf,vf];exact h1
    have hz:(y,j)∈N.tail.tail.zip ix:=e6 (i:=k) (by rw[i6];exact⟨ht,hj⟩);obtain⟨q1,q2⟩:=L.at_ _ hz;have hm:=jw q2;have hcell:=L.free _ hm rfl;obtain⟨m',hn',hl'⟩:=I4.loc;obtain⟨u,r,lk⟩:=hl' j y v q1 h2' (.inr (.inl hcell));refine⟨u,r,.inr ⟨.inl (Lh I2.ok.kind hcell q2),?_⟩⟩;rcases lk with lk|⟨_,c,e,z⟩
    ·rw[show X.env.kindOf y=some .cell from hcell] at lk
     cases lk.1
    ·obtain⟨c',e'⟩:=jj.mp (Fl (env:=X.env) scope.names [] y hm)
     have e2:=sub y c' e';rw[e] at e2;cases e2;exact⟨c,e',z⟩
 ·show H3 C=none
  exact I3.hok.fresh (lz hC.symm)
 ·show(none::none::frV Y ix).length=N.length
  rw[L.len];simp[frV]
theorem fX {tgt:gv}(htg:tgt=.Tuple [.Name x1 px,.Name x2 px2] kk ppos){Y:St}{tn:Nat->iq->Prop}(hc:X.calm=true)(L:Dp X.N X.env.scope scope x1 x2 N ix)(I2:Inv X pins Y H2 s2)
  (T:Mw X.prog X.w X.K tgt J fp it tn)(st2:tn 0 s2.heap)(f2:∀b∈fp,Li X pins H2 b)
  (hif:∀C s H,PIf (Cs X scope N C s H fp) ifs tc)(he:∀C s H,PE (Cs X scope N C s H fp) elt te){Q:VK}(rd:Ki X.K J H2 (frV Y ix) tc te Q){RR:dr->de->uh->dv->Prop}{E:Za0}
  (fin:∀D C H' s' m,Inv X pins Y H' s'->s2.heap.objs.size<=C->H' C=none->s'.heap.Ns C m->Q (.ref D) H'->RR (.ref D) C (.ok .next) s') :
  wpAny (model X.prog X.w) X.A (newList []) (λacc s3=>wpAny (model X.prog X.w) X.A (newFunctionEnv scope X.env.globals (Dk X.env scope.names []) [] X.env.qual none .none (some X.env)) (λcenv s4=>
   codeAny (model X.prog X.w) X.A (.compStart (.ListComp elt [⟨tgt,iter,ifs,0⟩] scope pos) 0 (.ref it) acc { cenv with scope:=relabel scope X.env }) (RR acc cenv.locals) s4) E s3) E s2:=by
 refine ln (vj L.nocell (by intro y hy;simp at hy) (λh1 hns hsb=>?_) L.kind);dsimp only at hns hsb ⊢;have I3:Inv X pins Y (upd H2 s2.heap.objs.size (.lst [])) { s2 with heap:=s2.heap.push { cls:=.type "list",dict:=none,data:=.seq ([]:Za3).toArray } }:=I2.lnew (its:=[]) (t':=s2.toks) .nil (fq _);generalize hH3:s2.heap.push { cls:=.type "list",dict:=none,data:=.seq ([]:Za3).toArray }=h3 at hns hsb I3 ⊢;have hsz:h3.objs.size=s2.heap.objs.size+1:=by rw[<-hH3,ol]
 have kp34:∀b u,h3.get? b=some u->h1.get? b=some u:=λb u e=>hsb.extBut b u (fh (d7 e)) (dg _ e);have I4:Inv X pins Y (upd H2 s2.heap.objs.size (.lst [])) { s2 with heap:=h1,toks:=s2.toks+([]:List (Str×dr)).length }:=I3.kept (t':=s2.toks+([]:List (Str×dr)).length) kp34;have kp24:∀b u,s2.heap.get? b=some u->h1.get? b=some u:=λb u e=>kp34 b u (by rw[<-hH3];exact dg _ e);have IY:=vR (C:=h3.objs.size) (s3:={ s2 with heap:=h3 }) L I2 T st2 f2 I3 I4 (by show s2.heap.objs.size<=h3.objs.size;lia) rfl rfl kp34 hns;have fD:H2 s2.heap.objs.size=none:=I2.hok.fresh (c9 _);have lt2:∀b∈fp,b<s2.heap.objs.size:=λb hb=>by obtain⟨o,e,_⟩:=T.obj _ _ st2 b hb;exact d7 e
 have st4:tn 0 h1:=T.keep _ _ _ st2 λb _ o e=>kp24 b o e;have stat:∀{pn:Za1} {H':Hp},pn=[]->(∀b∈fp,H' b=none)->∀b∈fp,Li (Cs X scope N h3.objs.size { s2 with heap:=h3 } (upd H2 s2.heap.objs.size (.lst [])) fp) pn H' b:=λhp hn b hb=>by
  subst hp;exact⟨hn b hb,(IY.ok.exf b hb).1,IY.ok.exfs b hb,.inl hb,(IY.ok.exf b hb).2,λp hp=>absurd (show p∈([]:Za1) from hp) (by simp)⟩
 obtain⟨W,⟨m0,w0⟩,turn⟩:=rd _ fD;have loop:codeAny (model X.prog X.w) X.A (.compLoop (.ListComp elt [⟨tgt,iter,ifs,0⟩] scope pos) 0 (.ref it) (.ref s2.heap.objs.size) (compEnvC scope (Dk X.env scope.names []) h3.objs.size X.env)) (RR (.ref s2.heap.objs.size) h3.objs.size)
   { s2 with heap:=h1,toks:=s2.toks+([]:List (Str×dr)).length }:=by
  refine fZ (λn s'=>∃i H',Inv (Cs X scope N h3.objs.size { s2 with heap:=h3 } (upd H2 s2.heap.objs.size (.lst [])) fp) [] (none::none::frV Y ix) H' s'/\tn i s'.heap/\(∀b∈fp,H' b=none)/\W i n H') ?_ m0
   ⟨0,_,IY,st4,λb hb=>by rw[Ai (fh (lt2 b hb))];exact(f2 b hb).1,w0⟩
  rintro n s5 ⟨i,H5,I5,st5,fr5,w5⟩;rcases turn i n H5 w5 with⟨stop,q⟩|⟨go,step⟩
  ·refine thn (T.done (Cs X scope N h3.objs.size { s2 with heap:=h3 } (upd H2 s2.heap.objs.size (.lst [])) fp) rfl rfl rfl hc i [] s5 _ H5 (λ_ _=>False) I5 (stat rfl fr5) st5 stop) λr s6 ⟨hr,I6⟩=>?_
   subst hr;obtain⟨m6,hn6,_⟩:=I6.loc;have u1:Un (frs X.stack) fp H2 (upd H2 s2.heap.objs.size (.lst [])) s2.heap h3:=Un.laid (λb u e=>by rw[<-hH3];exact dg _ e) (c9 _) fD;have back:Inv X pins Y H5 s6:=I2.call' (ch:=fp) (I6.os.trans rfl) (u1.trans I6.base) I6.hok I6.bare λb hb=>⟨(f2 b hb).2.2.2.1,(f2 b hb).2.1,(f2 b hb).2.2.2.2.1,(f2 b hb).2.2.2.2.2⟩;exact fin _ _ H5 s6 m6 back (by lia) I6.free hn6 q
  ·refine thn (T.item (Cs X scope N h3.objs.size { s2 with heap:=h3 } (upd H2 s2.heap.objs.size (.lst [])) fp) rfl rfl rfl hc i [] s5 _ H5 (λ_ _=>False) I5 (stat rfl fr5) st5 go) λr s6 ⟨u,hr,h6⟩=>?_
   subst hr;refine thn h6 λ_ s7 ⟨y,H7,I7,r7,y7,st7,fr7⟩=>?_;have I7':=I7.pinned (stat rfl fr7) (T.obj _ _ st7);have hg:PG (Cs X scope N h3.objs.size { s2 with heap:=h3 } (upd H2 s2.heap.objs.size (.lst [])) fp) tgt (jC X.K 2 (Iq (Dy 0) (Iq (Dy 1) iR))):=by
    rw[htg];exact Mx hc (Cu (Jv L.nd L.hd (.inl (lq L.loc)) (.inr (lq L.loc))) (Cu (Jv L.nd L.hd2 (.inl (lq L.loc2)) (.inr (lq L.loc2))) Js))
   obtain⟨ta,y1,y2,ey,hTu,hst⟩:=step y _ y7;refine thn (hg _ s7 _ H7 y u (λmt H'=>mt=some y1::some y2::frV Y ix/\H'=H7) I7' r7 ⟨ta,[y1,y2],ey,hTu,rfl,y1,[y2],rfl,y2,[],rfl,rfl,rfl,rfl⟩) λ_ s8 ⟨σ8,H8,I8,e8,e8'⟩=>?_;subst e8 e8';refine thn (hif _ _ _ _ s8 _ _ _ I8 hst) λok s9 ⟨H9,I9,q9⟩=>?_;have again:∀{sz:dv} {Hz:Hp} {m':Nat},Inv (Cs X scope N h3.objs.size { s2 with heap:=h3 } (upd H2 s2.heap.objs.size (.lst [])) fp) ([]++Mu fp s7.heap) (some y1::some y2::frV Y ix) Hz sz->m'<n->W (i+1) m' Hz ->
     ∃m,m<n/\∃i H',Inv (Cs X scope N h3.objs.size { s2 with heap:=h3 } (upd H2 s2.heap.objs.size (.lst [])) fp) [] (none::none::frV Y ix) H' sz/\tn i sz.heap/\(∀b∈fp,H' b=none)/\W i m H':=λ{sz Hz m'} Iz hm wz=>by
    refine⟨m',hm,i+1,Hz,Iz.unpinned.weak (by simp) (λj v e=>?_),T.keep _ _ _ st7 λb hb o e=>(Iz.pin (b,o) (fk _ (fk _ (Es hb e)))).1,λb hb=>?_,wz⟩
    ·cases j with
     |zero=>cases e
     |succ j=>
      cases j with
      |zero=>cases e
      |succ j=>exact e
    ·obtain⟨o,e,d⟩:=T.obj _ _ st7 b hb
     exact(Iz.pin (b,o) (fk _ (fk _ (Es hb e)))).2.1
   cases ok with
   |false=>
    obtain⟨m',hm,wz⟩:=q9;exact again I9 hm wz
   |true=>
    refine thn (he _ _ _ _ s9 _ _ _ I9 q9) λxv s10 ⟨z,H10,I10,r10,ys,hD,hl,m',hm,wz⟩=>?_;refine thn (Aw _ s10 _ H10 (.ref s2.heap.objs.size) [z] (.ref s2.heap.objs.size) [xv] (λ_ Hz=>Hz=upd H10 s2.heap.objs.size (.lst (ys++[z]))) I10 rfl (.cons r10 .nil) ⟨_,ys,z,rfl,rfl,hD,hl,rfl⟩) λ_ s11 ⟨_,H11,I11,_,q11⟩=>?_;subst q11;exact again I11 hm wz
 exact BG loop (T.self X.A 0 _ _ _ st4 loop)
theorem jS (hc:X.calm=true)(L:Dp X.N X.env.scope scope x1 x2 N ix)(hi:PI X (.Tuple [.Name x1 px,.Name x2 px2] kk ppos) iter wi)(hif:∀C s H fp,PIf (Cs X scope N C s H fp) ifs tc)(he:∀C s H fp,PE (Cs X scope N C s H fp) elt te)
  (hs:autoParam (∀z,foldedSetIterable iter X.env z=pure z) QJ):PE X (.ListComp elt [⟨.Tuple [.Name x1 px,.Name x2 px2] kk ppos,iter,ifs,0⟩] scope pos) (wY X.K wi ix tc te):=by
 k_in;have hfree:∀y∈scope.names,y.2=.free->∃c,X.env.cells.lookup y.1=some c:=λy hy hf=>I.ok.has y.1 (.inl (L.free y hy hf));rw[HR];refine n5 (use:=none) rfl hs (Hn hfree) L.kind L.names (thn (hi pins s Y H _ I h) λv s1 h1=>thn h1 λitv s2 h2=>?_);obtain⟨it,fp,tn,J,H2,e,I2,T,st2,f2,rd⟩:=h2;subst e;refine fX (RR:=λacc C=>compPost (model X.prog X.w) X.A X.xe none _ acc C) rfl hc L I2 T st2 f2 (λC s H=>hif C s H fp) (λC s H=>he C s H fp) rd λD C H' s' m I' hC hf hn q=>?_;refine⟨m,hn,λh' hsb=>⟨.ref D,H',?_,rfl,q⟩⟩;have l2:=I2.lt;refine I'.turned (t':=s'.toks) (it:=C) (λb o hb e=>hsb.extBut b o hb e) hf (my (d8 l2 hC)) (.inr (gm I2.sz hC)) (λy c e=>?_) λp hp=>?_
 ·obtain⟨v,hv⟩:=I2.cell y c e
  exact fh (d8 hv.lt hC)
 ·exact fh (d8 (d7 (I2.pin p hp).1) hC)
theorem J2 {i:Nat}{y:Str}{py spos:Pos}(hc:X.calm=true)(L:Dp X.N X.env.scope scope x1 x2 N ix)(hN:X.N.Nodup)(hy:X.N[i]?=some y)(hl:X.env.scope.names.lookup y=some .local)
  (hi:PI X (.Tuple [.Name x1 px,.Name x2 px2] kk ppos) iter wi)(hif:∀C s H fp,PIf (Cs X scope N C s H fp) ifs tc)(he:∀C s H fp,PE (Cs X scope N C s H fp) elt te)
  (hsw:autoParam (swapsWith (.ListComp elt [⟨.Tuple [.Name x1 px,.Name x2 px2] kk ppos,iter,ifs,0⟩] scope pos) (some (.Name y py)) spos.line X.env=pure true) QD)
  (hs:autoParam (∀z,foldedSetIterable iter X.env z=pure z) QJ):PS X (.Assign [.Name y py] (.ListComp elt [⟨.Tuple [.Name x1 px,.Name x2 px2] kk ppos,iter,ifs,0⟩] scope pos) spos) (gR (wY X.K wi ix tc te) (Dy i)):=by
 k_end;have hfree:∀y∈scope.names,y.2=.free->∃c,X.env.cells.lookup y.1=some c:=λy hy hf=>I.ok.has y.1 (.inl (L.free y hy hf));rw[BX _ _ _ _ hsw];refine wpAny_bind (sv (wpAny_bind ?_));show wpAny _ X.A (do let _ <-comprehension (.ListComp elt [⟨.Tuple [.Name x1 px,.Name x2 px2] kk ppos,iter,ifs,0⟩] scope pos) scope X.env _ (newList []) false (eval iter X.env) (some (assign (.Name y py) X.env))) _ _ s;refine wpAny_bind (thn (Q:=λ_ s'=>SP X pins D .next s') (n5 (use:=some (assign (.Name y py) X.env)) rfl hs (Hn hfree) L.kind L.names (thn (hi pins s Y H _ I h) λv s1 h1=>thn h1 λitv s2 h2=>?_)) λ_ s' hq=>d4 (d4 hq));obtain⟨it,fp,tn,J,H2,e,I2,T,st2,f2,rd⟩:=h2;subst e;refine fX (RR:=λacc C=>compPost (model X.prog X.w) X.A X.xe (some (assign (.Name y py) X.env)) _ acc C) rfl hc L I2 T st2 f2 (λC s H=>hif C s H fp) (λC s H=>he C s H fp) rd λDa C H' s' m I' hC hf hn q=>?_;have l2:=I2.lt;have nC:C≠X.env.locals:=my (d8 l2 hC);have nF:C∉X.fs:=I2.nofs hC;obtain⟨oC,es,ep,hget,hdat,hrest⟩:=id hn;have Ip:Inv X (pins++[(C,oC)]) Y H' s':=I'.pins_of λp hp=>(f8.mp hp).elim (λz=>I'.pin p (fk _ z)) λz=>by
  have e:p=(C,oC):=by simpa using z
  subst e;exact⟨hget,hf,nC,nF,λv z=>by rw[hdat] at z;cases z⟩
 have hg:PG X (.Name y py) (Dy i):=Jv hN hy (.inl hl) (.inr hl);show wpAny _ X.A (assign (.Name y py) X.env (.ref Da)) _ _ s';refine thn (hg _ s' Y H' (.ref Da) (.ref Da) D.nx Ip rfl q) λ_ s'' ⟨JD,H'',I'',q''⟩=>?_;obtain⟨g1,g2,_⟩:=I''.pin (C,oC) (fk _ (fk _ (by simp)));refine⟨m,⟨oC,es,ep,g1,hdat,hrest⟩,λh' hsb=>⟨JD,H'',?_,q''⟩⟩;refine I''.unpinned.turned (t':=s''.toks) (it:=C) (λb o hb e=>hsb.extBut b o hb e) g2 nC (.inr (gm I2.sz hC)) (λy c e=>?_) λp hp=>?_
 ·obtain⟨v,hv⟩:=I2.cell y c e
  exact fh (d8 hv.lt hC)
 ·exact fh (d8 (d7 (I2.pin p hp).1) hC)
end
theorem vQ {K:c7}{tA:TA}{Y:St}{R:It->Hp->Prop}(h:tA Y H λvs H1=>∃a b,vs=[.ref a,.ref b]/\(∃xs,SqL K H1 a xs)/\(∃ys,SqL K H1 b ys)/\R (Itz K a b) H1):xP K tA Y H R:=h
theorem pZ {K:c7}{tA:TA}{Y:St}{R:It->Hp->Prop}(h:tA Y H λvs H1=>∃a,vs=[.ref a]/\(∃xs,SqL K H1 a xs)/\R (Ite K a) H1):tI K tA Y H R:=h
theorem zS {K:c7}{Y:St}{Q:VK}{ix:Za4}{tc:TT}(h:wi Y H λJ H1=>Ki K J H1 (frV Y ix) tc te Q):wY K wi ix tc te Y H Q:=h
theorem T6 {K:c7}{Y:St}{R:St->Hp->Prop}{a:de}{x:V}{i j:Nat}(hs:SqT K H a [x,y])(h:R ((Y.set i (some x)).set j (some y)) H):jC K 2 (Iq (Dy i) (Iq (Dy j) iR)) (.ref a) Y H R:=
 ⟨a,[x,y],rfl,hs,rfl,x,[y],rfl,y,[],rfl,rfl,h⟩
theorem oJ {K:c7}{fr:St}{tc:TT}{Q:VK}(n:Nat)(f1 f2:Nat->V)(acc:Nat->List V)(h0:acc 0=[])(hz:∀i,i<n->(acc i).length<sizeLine)
  (hgo:∀i H,i<n->Ah H1 H->J.go i H)(hy:∀i H v H',i<n->Ah H1 H->J.yld i H v H'->∃a,v=.ref a/\SqT K H' a [f1 i,f2 i]/\Ah H H')(hst:∀H,Ah H1 H->J.stop n H)
  (turn:∀i H (R:Hp->Prop) (A:VK),i<n->Ah H1 H->(acc (i+1)=acc i->∀H',Ah H H'->R H')->(∀y H',acc (i+1)=acc i++[y]->Ah H H'->A y H') ->
   tc (some (f1 i)::some (f2 i)::fr) H λb H3=>if b=true then te (some (f1 i)::some (f2 i)::fr) H3 A else R H3)
  (fin:∀D H,H1 D=none->Ah H1 H->H D=some (.lst (acc n))->Q (.ref D) H):Ki K J H1 fr tc te Q:=by
 intro D hD;refine⟨λi m H=>i<=n/\m=n-i/\Ah H1 H/\H D=some (.lst (acc i)),⟨n,fq _,rfl,Al hD,by rw[Ac,h0]⟩,?_⟩;rintro i m H ⟨hi,rfl,sm,hl⟩
 by_cases h:i=n
 ·subst h
  exact .inl ⟨hst H sm,fin D H hD sm hl⟩
 ·have hlt:i<n:=jo hi h
  refine .inr ⟨hgo i H hlt sm,λv H' hyl=>?_⟩;obtain⟨a,rfl,ht,s2⟩:=hy i H v H' hlt sm hyl;refine⟨a,_,_,rfl,ht,turn i H' _ _ hlt (sm.trans s2) (λea H3 s3=>?_) (λy H4 ea s4=>?_)⟩
  ·exact⟨n-(i+1),by lia,by lia,rfl,(sm.trans s2).trans s3,by rw[ea];exact s3 _ _ (s2 _ _ hl)⟩
  ·refine⟨acc i,s4 _ _ (s2 _ _ hl),hz i hlt,n-(i+1),by lia,by lia,rfl,λb u e=>?_,by rw[Ac,ea]⟩
   rw[Ai (Aj e hD)];exact s4 _ _ (s2 _ _ (sm _ _ e))
theorem vP {K:c7}{a b:de}{fr:St}{tc:TT}{Q:VK}(ha:SqL K H1 a xs)(hb:SqL K H1 b ys)(acc:Nat->List V)(h0:acc 0=[])(hz:∀i,i<min xs.length ys.length->(acc i).length<sizeLine)
  (turn:∀(i:Nat) x y H (R:Hp->Prop) (A:VK),xs[i]?=some x->ys[i]?=some y->Ah H1 H->(acc (i+1)=acc i->∀H',Ah H H'->R H')->(∀y H',acc (i+1)=acc i++[y]->Ah H H'->A y H') ->
   tc (some x::some y::fr) H λb H3=>if b=true then te (some x::some y::fr) H3 A else R H3)
  (fin:∀D H,H1 D=none->Ah H1 H->H D=some (.lst (acc (min xs.length ys.length)))->Q (.ref D) H):Ki K (Itz K a b) H1 fr tc te Q:=by
 refine oJ (min xs.length ys.length) (λi=>xs.getD i .non) (λi=>ys.getD i .non) acc h0 hz (λi H hi sm=>⟨xs,ys,xs[i]'(by lia),ys[i]'(by lia),sm.seq ha,sm.seq hb,by simp,by simp⟩) (λi H v H' hi sm h=>?_)
  (λH sm=>⟨xs,ys,sm.seq ha,sm.seq hb,rfl⟩) (λi H R A hi sm=>turn i _ _ H R A (by simp[show i<xs.length by lia]) (by simp[show i<ys.length by lia]) sm) fin
 obtain⟨t,x,y,hn,rfl,h1,h2,rfl⟩:=h;have e1:=h1 xs (sm.seq ha);have e2:=h2 ys (sm.seq hb);refine⟨t,rfl,?_,Al hn⟩;simp only[ju,e1,e2,o7];exact SqT.of Ac
theorem La {K:c7}{a:de}{i1 i2:Nat}{tb:TS}{Y:St}(Pv:Nat->St->Hp->Prop)(h0:Pv 0 Y H)(hl:∀i Y H,i<=xs.length->Pv i Y H->SqL K H a xs)
  (step:∀i x Y H t,xs[i]?=some x->Pv i Y H->H t=none->tb { D with nx:=Pv (i+1),ct:=Pv (i+1),bk:=D.nx } ((Y.set i1 (some (.int i))).set i2 (some x)) (upd H t (.tup [.int i,x])))
  (fin:∀Y H,Pv xs.length Y H->D.nx Y H):lA (Ite K a) (jC K 2 (Iq (Dy i1) (Iq (Dy i2) iR))) tb D Y H:=by
 refine⟨λi m Y H=>i<=xs.length/\m=xs.length-i/\Pv i Y H,⟨_,fq _,rfl,h0⟩,?_⟩;rintro i m Y H ⟨hi,rfl,hp⟩
 by_cases h:i=xs.length
 ·exact .inl ⟨⟨xs,hl i Y H hi hp,h⟩,fin Y H (h▸hp)⟩
 ·have hlt:i<xs.length:=jo hi h
  refine .inr ⟨⟨xs,xs[i],hl i Y H hi hp,by simp⟩,Pv (i+1),λmt H' q=>⟨xs.length-(i+1),by lia,hlt,rfl,q⟩,λv H' hy=>?_⟩;obtain⟨t,x,hn,rfl,hx,rfl⟩:=hy;exact T6 (SqT.of Ac) (step i x Y H t (hx xs (hl i Y H hi hp)) hp hn)
def rL (z:Str):It:=
 ⟨λi _=>i<z.cps.size,λi H v H'=>∃t c,H t=none/\v=.ref t/\z.cps[i]?=some c/\H'=upd H t (.tup [.int i,.str (sgn c)]),λi _=>i=z.cps.size⟩
theorem cZ {P:fi}{K:c7}{elts:List gv}{k:Nat}{e:de}{ty:String}{t:Tok}(hne:e≠it)
  (D:∀A':ic,A'.handled=none->Draws P w A' it [it] z.cps.size (λi v=>∃c u,z.cps[i]?=some c/\v=.str ⟨#[c]⟩ u) (λi h=>h.IsStrIter it ty z t i)) :
  Mw P w K (.Tuple elts k pos) (rL z) [e,it] e (λi h=>(∃old,IsEnum h e it i old)/\h.IsStrIter it ty z t i) where
 mem:=by simp
 obj:=λi h st c hc=>by
  obtain⟨⟨old,he⟩,⟨o1,e1,c1,d1⟩⟩:=st;simp only[gr,j4,or_false] at hc;rcases hc with rfl|rfl
  ·exact⟨_,he,λv z=>by cases z⟩
  ·exact⟨_,e1,λv z=>by rw[d1] at z;cases z⟩
 keep:=λi h h' st kk=>by
  obtain⟨⟨old,he⟩,⟨o,ho,r⟩⟩:=st;exact⟨⟨old,kk _ (by simp) _ he⟩,⟨o,kk _ (by simp) o ho,r⟩⟩
 item:=by
  intro X hP hw hK hc i pins s Y H E I hf st hg;subst hP hw hK;have W:=z6 (D X.A.in1 (I.ok.hd hc)) e hne (by simpa using hne) (by simp);refine W.item i s _ _ hg st λT vals h' tk hv hT hTu mid kk=>?_;obtain⟨t1,x,⟨c,u,hc',rfl⟩,rfl⟩:=hv;have nT:=W.apart i T h' mid;refine⟨.ref T,rfl,W.go elts k pos i T { s with heap:=h',toks:=tk } _ _ mid λh'' st'' kk2=>?_⟩;have hTu2:h''.IsTuple T ([ml (i:Int) t1,l5 ⟨#[c]⟩ u]:Za3).toArray:=by
   obtain⟨o,e,r⟩:=hTu;exact⟨o,kk2 T o nT e,r⟩
  have I2:Inv X pins Y (upd H T (.tup [.int i,.str (sgn c)])) { s with heap:=h'',toks:=tk }:=I.turnT (t':=tk) (λb o hb e=>kk2 b o hb (kk b o hb e)) (λb hb=>hf b hb) hT hTu2 (.cons ⟨t1,rfl⟩ (.cons ⟨u,rfl⟩ .nil)) (show 2<=sizeLine by decide);refine⟨.ref T,_,I2,rfl,⟨T,c,I.hok.fresh hT,rfl,hc',rfl⟩,st'',λb hb=>?_⟩;have hlt:b<s.heap.objs.size:=by
   obtain⟨⟨old,s1⟩,⟨o5,s5,_⟩⟩:=id st;simp only[gr,j4,or_false] at hb;rcases hb with rfl|rfl
   ·exact d7 s1
   ·exact d7 s5
  rw[Ai (fh (d8 hlt hT))];exact(hf b hb).1
 done:=by
  intro X hP hw hK hc i pins s Y H E I hf st hg;subst hP hw hK;have W:=z6 (D X.A.in1 (I.ok.hd hc)) e hne (by simpa using hne) (by simp);have hi:i=z.cps.size:=hg;refine W.done s _ _ (by rw[<-hi];exact st) λh' tk kk=>⟨rfl,?_⟩;exact I.turnW (t':=tk) kk λb hb=>hf b hb
 self:=λ_ _ _ _ _ st h=>sk (x9 st.1) h
section
variable {X:Cx} {elts:List gv} {k:Nat} {tpos:Pos}
def lL (ta:TA):TI:=λY H R=>ta Y H λvs H1=>∃z,vs=[.str z]/\R (rL z) H1
theorem pD {a:gv}{ta:TA}{p:Pos}(hg:Gl X "enumerate")(hm:X.mg "enumerate"=none)(ha:PA X [a] ta)(hs:autoParam (starEach [a] X.env=[(false,eval a X.env)]) QD) :
  PI X (.Tuple elts k tpos) (.Call (.Name "enumerate" p) [a] [] pos) (lL ta):=by
 intro pins s Y H R I h;refine Call_ (Dv I hg hm Nk (gp (thA ha I h λus s1 vs H1 I1 r1 q1=>?_) hs rfl));obtain⟨z,e,q⟩:=q1;subst e;obtain⟨u,rfl,⟨t,rfl⟩⟩:=E6 r1;refine call_enumerate_str λh' g1 g2 hsz kk=>?_;refine sk (s:={ s1 with heap:=h' }) g1 ?_;have fin:∀ty:String,h'.IsStrIter s1.heap.objs.size ty z t 0->(∀A':ic,A'.handled=none->Draws X.prog X.w A' s1.heap.objs.size [s1.heap.objs.size] z.cps.size (λi v=>∃c u,z.cps[i]?=some c/\v=.str ⟨#[c]⟩ u) (λi h=>h.IsStrIter s1.heap.objs.size ty z t i)) ->
   PIE X pins Y (.Tuple elts k tpos) R (.ref (s1.heap.objs.size+1)) { s1 with heap:=h' }:=λty g2 D=>by
  refine⟨s1.heap.objs.size+1,[s1.heap.objs.size+1,s1.heap.objs.size],_,_,H1,rfl,I1.kept (t':=s1.toks) kk,cZ (tY _) D,⟨⟨_,g1⟩,g2⟩,λc hc=>?_,q⟩;have hle:s1.heap.objs.size<=c:=by
   simp only[gr,j4,or_false] at hc;exact sQ hc
  exact I1.fpOk hle (I1.hok.fresh hle)
 by_cases ha:z.cps.all (· < 128)=true
 ·have e:strIterType z="str_ascii_iterator":=by unfold strIterType;rw[if_pos ha]
  exact fin _ (e▸g2) λA' hA=>Draws.strAscii hA _ z t
 ·have e:strIterType z="str_iterator":=by unfold strIterType;rw[if_neg ha]
  exact fin _ (e▸g2) λA' hA=>Draws.strWide hA _ z t
end
theorem lQ {tA:TA}{Y:St}{R:It->Hp->Prop}(h:tA Y H λvs H1=>∃z,vs=[.str z]/\R (rL z) H1):lL tA Y H R:=h
theorem iN {K:c7}{i1 i2:Nat}{tb:TS}{Y:St}(Pv:Nat->St->Hp->Prop)(h0:Pv 0 Y H)
  (step:∀i c Y H t,z.cps[i]?=some c->Pv i Y H->H t=none->tb { D with nx:=Pv (i+1),ct:=Pv (i+1),bk:=D.nx } ((Y.set i1 (some (.int i))).set i2 (some (.str (sgn c)))) (upd H t (.tup [.int i,.str (sgn c)])))
  (fin:∀Y H,Pv z.cps.size Y H->D.nx Y H):lA (rL z) (jC K 2 (Iq (Dy i1) (Iq (Dy i2) iR))) tb D Y H:=by
 refine⟨λi m Y H=>i<=z.cps.size/\m=z.cps.size-i/\Pv i Y H,⟨_,fq _,rfl,h0⟩,?_⟩;rintro i m Y H ⟨hi,rfl,hp⟩
 by_cases h:i=z.cps.size
 ·exact .inl ⟨h,fin Y H (h▸hp)⟩
 ·have hlt:i<z.cps.size:=jo hi h
  refine .inr ⟨hlt,Pv (i+1),λmt H' q=>⟨z.cps.size-(i+1),by lia,hlt,rfl,q⟩,λv H' hy=>?_⟩;obtain⟨t,c,hn,rfl,hx,rfl⟩:=hy;exact T6 (SqT.of Ac) (step i c Y H t hx hp hn)
structure Mth (P:fi) (w:gl) (K:c7) (mg:Za2) (base:iq) (C:de) (m:Str) (k:Nat) (ps:Za6) (sp:Sp):Prop where
 ex:∃(f:de) (fd:i0),Ax P w K mg base CX0 k f fd ps sp/\Eh K fd ps []/\kB K C m f
 cl:Cls K C
structure Mkr (P:fi) (w:gl) (K:c7) (mg:Za2) (base:iq) (name:Str) (C:de) (k:Nat) (ps:Za6) (sp:Sp):Prop where
 ex:∃(f:de) (fd:i0),Ax P w K mg base CX0 k f fd ps sp/\Eh K fd ps []/\Mk K C f/\mg name=some (.ref C)
section
variable {X:Cx} {k:Nat} {C:de} {ps:Za6} {sp:Sp} {name m:Str} {p pos apos:Pos} {e o:gv} {es:List gv} {ta:TE} {t:TA} {pl:Sem Bool}
theorem Rj (M:Mkr X.prog X.w X.K X.mg X.base name C k ps sp)(hr:Ck (k+1) X.A)(ha:PA X (e::es) t)(hg:autoParam (Gl X name) QD)(hdb:autoParam ((name==("__debug__":Str))=false) QF)
  (he:autoParam (starEach (e::es) X.env=(false,eval e X.env)::starEach es X.env) QD)(hpl:autoParam ((backTo pos (starEach es X.env)).any (·.1)=false) QD):PE X (.Call (.Name name p) (e::es) [] pos) (fL C sp [] E0 t):=by
 obtain⟨f,fd,F,b,M,hm⟩:=M.ex;exact fK M F hr hg hm b .nil Yp ha hdb he hpl
theorem Ie (M:Mth X.prog X.w X.K X.mg X.base C m k ps sp)(hr:Ck k X.A)(ho:PE X o ta)(ha:PA X (e::es) t)
  (hst:autoParam (starEach (e::es) X.env=(false,eval e X.env)::starEach es X.env) QD)(hpl:autoParam ((backTo pos (starEach es X.env)).any (·.1)=false) QD)
  (ht:autoParam (eval (.Call (.Attribute o m apos) (e::es) [] pos) X.env=(do
   let ov <-eval o X.env
   standAt apos.atName
   let (f,first) <-holding [ov] (getMethod ov m pl)
   callWith pos f first (backTo pos (starEach (e::es) X.env)) (backToKw pos (keywordEach [] X.env)))) QD) :
  PE X (.Call (.Attribute o m apos) (e::es) [] pos) (Yh C m sp [] E0 ta t):=by
 obtain⟨f,fd,F,b,hm⟩:=M.ex;exact qQ ho M.cl hm F hr b .nil Yp ha hst hpl ht
theorem Fo (M:Mth X.prog X.w X.K X.mg X.base C m k ps sp)(hr:Ck k X.A)(ho:PE X o ta)
  (ht:autoParam (eval (.Call (.Attribute o m apos) [] [] pos) X.env=(do
   let ov <-eval o X.env
   standAt apos.atName
   let (f,first) <-holding [ov] (getMethod ov m pl)
   callWith pos f first (backTo pos (starEach [] X.env)) (backToKw pos (keywordEach [] X.env)))) QD) :
  PE X (.Call (.Attribute o m apos) [] [] pos) (Yh C m sp [] E0 ta lG):=by
 obtain⟨f,fd,F,b,hm⟩:=M.ex;exact kE ho M.cl hm F hr b .nil Yp ht
end
section
variable {Y:St} {H:Hp} {D:Hk} {Q:VK} {te ta tv:TE} {tA:TA} {K:c7}
theorem yC {f:Str}(h:te Y H λx H1=>∃a C dx fs v,x=.ref a/\H1 a=some (.ins C dx fs)/\Cls K C/\Ba K C f/\fs.lookup f=some v/\Q v H1):rT K te f Y H Q:=h
theorem oG {a:de}{fs:List (Str×V)}{f:Str}{v:V}(h:H a=some (.ins C dx fs))(c:Cls K C)(n:Ba K C f)(l:fs.lookup f=some v)(q:Q v H) :
  ∃a' C' dx' fs' v',V.ref a=.ref a'/\H a'=some (.ins C' dx' fs')/\Cls K C'/\Ba K C' f/\fs'.lookup f=some v'/\Q v' H:=⟨a,C,dx,fs,v,rfl,h,c,n,l,q⟩
theorem wI {f:Str}(h:tv Y H λy H1=>ta Y H1 λx H2=>∃a C dx fs,x=.ref a/\H2 a=some (.ins C dx fs)/\Cls K C/\Ba K C f/\fs.length<1000/\D.nx Y (upd H2 a (.ins C dx (Ek f y fs)))):uI K ta tv f D Y H:=h
theorem C1 {a:de}{fs:List (Str×V)}{f:Str}{R:Hp->Prop}(h:H a=some (.ins C dx fs))(c:Cls K C)(n:Ba K C f)(l:fs.length<1000)(q:R (upd H a (.ins C dx (Ek f y fs)))) :
  ∃a' C' dx' fs',V.ref a=.ref a'/\H a'=some (.ins C' dx' fs')/\Cls K C'/\Ba K C' f/\fs'.length<1000/\R (upd H a' (.ins C' dx' (Ek f y fs'))):=⟨a,C,dx,fs,rfl,h,c,n,l,q⟩
theorem uV {E:XK}(h:tA Y H λvs H1=>∀x dx,H1 x=none->H1 dx=none->dx≠x->sp (.ref x::(vs++[])) (upd (upd H1 dx (.own x)) x (.ins C dx [])) (λv H2=>v=.non/\Q (.ref x) H2) E):fL C sp [] E tA Y H Q:=h
theorem vY {m:Str}{E:XK}(h:ta Y H λx H1=>∃a dx fs,x=.ref a/\H1 a=some (.ins C dx fs)/\fs.lookup m=none/\tA Y H1 λvs H2=>sp (x::(vs++[])) H2 Q E):Yh C m sp [] E ta tA Y H Q:=h
end
section
variable {X:Cx}
def Me (z:Str)(c:Nat):Nat:=z.cps.toList.count c
theorem Sz (c:Nat):∀l:Za4,GN c l=(l.count c:Nat)
 |[]=>rfl
 |n::r=>by
  rw[GM,Sz c r,nu]
  by_cases h:n=c
  ·subst h;simp;lia
  ·simp[h]
def uN:V->List V->Hp->VK->Prop:=λx vs H Q=>∃z c,x=.str z/\vs=[.str (sgn c)]/\Q (.int (Me z c:Nat)) H
theorem Pw:MtM X "str.count" uN:=by
 intro pins s Y H x vs v us Q I rx rv h;obtain⟨z,c,rfl,rfl,q⟩:=h;obtain⟨t,rfl⟩:=rx;obtain⟨u,rfl,ru⟩:=rv.one;obtain⟨t',rfl⟩:=ru;have e:Txt.count z (sgn c)=(Me z c:Nat):=(GL z c).trans (Sz c _);refine SC.count ?_;rw[e];exact⟨.int (Me z c:Nat),H,I.tok _,⟨_,rfl⟩,q⟩
def zT (K:c7):List V->Hp->VK->Prop:=λxs H Q=>∃(p:de) (ns:List Int),xs=[.ref p]/\SqL K H p (ns.map V.int)/\Q (.int ns.sum) H
theorem kC (hc:X.calm=true):Ec X (.builtin "sum") (zT X.K):=by
 intro pins s Y H xs us Q I r h;obtain⟨p,ns,rfl,hp,q⟩:=h;obtain⟨u,rfl,ru⟩:=E6 r;cases ru;obtain⟨its,r,pl,_⟩:=I.list hp;have hi:=P0 r;obtain⟨ys,e⟩:=hi.allInts.items;have hl:=pl.isList;have hs:(numsOf its).sum=ns.sum:=by rw[hi.numsOf]
 rw[e] at hl;refine sum_intListG (I.ok.hd hc) hl λh' tk t' hk=>?_;refine⟨.int ns.sum,H,I.kept hk,⟨t',?_⟩,q⟩;rw[preSum_eq,ej (by simp),<-hs];have e2:=HP ys;rw[<-e] at e2;rw[show its=its.toArray.toList from rfl,e2]
end
namespace IB
open PySem.NumText PySem.Calls
def bits (cs:Za4):Prop:=∀c∈cs,c=48\/c=49
def v2 (cs:Za4):Nat:=cs.foldl (λa c=>a*2+(c-48)) 0
theorem Ye {c:Nat}(ds:Array Nat)(b:Bool)(h:c=48\/c=49):step 2 (ds,b) c=some (ds.push (c-48),true):=by rcases h with rfl|rfl<;>rfl
theorem Ou:∀(cs:Za4) (ds:Array Nat),bits cs->cs.foldlM (step 2) (ds,true)=some (cs.foldl (λacc c=>acc.push (c-48)) ds,true)
 |[],ds,_=>rfl
 |c::cs,ds,h=>by
  rw[CI,Ye ds true (h c f7)];exact Ou cs _ λd hd=>h d (ge _ hd)
theorem W6 (h:bits cs)(hne:cs≠[]):digits? 2 cs=some (cs.foldl (λacc c=>acc.push (c-48)) #[]):=by
 cases cs with
 |nil=>exact absurd rfl hne
 |cons c cs=>
  unfold digits?;rw[CI,Ye #[] false (h c f7)];show((cs.foldlM (step 2) (#[].push (c-48),true)).bind _)=_;rw[Ou cs _ λd hd=>h d (ge _ hd)];rfl
theorem Ov:∀(cs:Za4) (ds:Array Nat),(cs.foldl (λacc c=>acc.push (c-48)) ds).foldl (λacc d=>acc*2+d) 0=cs.foldl (λacc c=>acc*2+(c-48)) (ds.foldl (λacc d=>acc*2+d) 0)
 |[],ds=>rfl
 |c::cs,ds=>by
  rw[nr,Ov cs,nr,Array.foldl_push]
theorem Tk (h:bits cs):cs.dropWhile blank=cs:=by
 cases cs with
 |nil=>rfl
 |cons c cs=>
  rw[List.dropWhile_cons,if_neg];rcases h c f7 with rfl|rfl<;>decide
theorem gW (h:bits cs):sign cs=(false,cs):=by
 cases cs with
 |nil=>rfl
 |cons c cs=>rcases h c f7 with rfl|rfl<;>rfl
theorem Zu (h:bits cs):based 2 cs=(2,false,cs):=by
 have hp:prefix? cs=none:=by
  match cs,h with
  |[],_=>rfl
  |[c],h=>rcases h c f7 with rfl|rfl<;>rfl
  |c::d::r,h=>
   rcases h c f7 with rfl|rfl
   ·rcases h d (ge _ f7) with rfl|rfl<;>rfl
   ·rfl
 unfold based;rw[hp];rfl
theorem jH (h:bits cs)(hne:cs≠[]):(int_private% "readNumeral") 0 2 cs=(int_private% "Numeral.value") (v2 cs:Nat):=by
 refine(readNumeral_eq 0 2 cs).trans ?_;have hr:bits cs.reverse:=λc hc=>h c (o9.mp hc);rw[Tk h,gW h];dsimp only;rw[Zu h];dsimp only;rw[Tk hr,p6,W6 h hne];have e:(cs.foldl (λacc c=>acc.push (c-48)) #[]).foldl (λacc d=>acc*2+d) 0=v2 cs:=Ov cs #[];unfold judge;dsimp only;rw[e];rfl
theorem sI {E:Za0}{Q:Za0}{v:dr}{text:Za4}{n:Int}
    (hs : (text.takeWhile (· != 0)).length <= 640)(hr : (int_private% "readNumeral") 0 2 (text.takeWhile (· != 0)) = (int_private% "Numeral.value") n)
    (ha : ((text.takeWhile (· != 0)).length == text.length) = true)(h : Q (.int n s.toks) { s with toks := s.toks + 1 }) :
    wpAny M A ((int_private% "intFromText") v text 2) Q E s := by
  obtain ⟨hp, g, d, tk, os⟩ := s
  repeat (any_goals (first
    | assumption
    | (with_reducible refine vn (decide_eq_true hs) ?_)
    | (with_reducible refine vn (decide_eq_true ha) ?_)
    | wp_step))
  all_goals (try rw [hr])
  all_goals (try dsimp only)
  repeat (any_goals (first
    | assumption
    | (with_reducible refine vn (decide_eq_true hs) ?_)
    | (with_reducible refine vn (decide_eq_true ha) ?_)
    | wp_step))
theorem typeCall_int_2 (a b:dr):checkTypeCall "int" ⟨[a,b],[]⟩=pure ():=by kernel_rfl
theorem newCall_int_2 (a b:dr):checkBuiltinCall "int.__new__" ⟨[.type "int",a,b],[]⟩=pure ():=by kernel_rfl
structure Hid (p:Prop):Prop where
 out:p
theorem U8 {x:Str}(h:bits x.cps.toList):(if x.cps.all (· < 128) then x.cps.toList else Unicode.numberText x.cps.toList)=x.cps.toList:=by
 rw[if_pos];rw[Array.all_eq_true'];intro c hc;have:=h c (by simpa using hc);rcases this with rfl|rfl<;>decide
theorem G6 (h:bits cs):cs.takeWhile (· != 0)=cs:=takeWhile_all λc hc=>by rcases h c hc with rfl|rfl<;>decide
set_option maxHeartbeats 4000000 in
theorem gives_bits {x:Str}{u v:Tok}(hl:x.length<=640)(hb:bits x.cps.toList)(hne:x.cps.toList≠[]):Gives (nv.«int.__new__» ⟨[.type "int",.str x u,.int 2 v],[]⟩) (.int (v2 x.cps.toList:Nat)) :=
  .of_wp λM A E s Q h => by
    obtain ⟨hp, g, d, tk, os⟩ := s;have f1 := F.conv_sub_int;have f2 := F.madeHere_int;have f6 : typeOf (.str x u) = pure (.type "str") := rfl;have hs : ((x.cps.toList).takeWhile (· != 0)).length <= 640 := by rw [G6 hb]; simpa [sy] using hl
    have hr := jH hb hne;rw [<- G6 hb] at hr;rw [G6 hb] at hr;have hr : (int_private% "readNumeral") 0 2 ((x.cps.toList).takeWhile (· != 0)) = (int_private% "Numeral.value") (v2 x.cps.toList : Nat) := by rw [G6 hb]; exact hr
    have ha : (((x.cps.toList).takeWhile (· != 0)).length == (x.cps.toList).length) = true := by rw [G6 hb]; simp
    have ht := U8 hb;have hk := Hid.mk (DB hs (DB hr (DB ha ht)));clear hs hr hl ha ht hne
    repeat (any_goals (first
      | assumption
      | ((with_reducible show wpAny _ _ ((int_private% "intFromText") _ _ _) _ _ _); rw [hk.out.2.2.2]; refine sI hk.out.1 hk.out.2.1 hk.out.2.2.1 ?_)
      | wp_step))
    all_goals first | exact ⟨_, rfl, h⟩ | skip
end IB
section
variable {X:Cx}
def zN:List V->Hp->VK->Prop:=λxs H Q=>∃z,xs=[.str z,.int 2]/\z.length<=640/\IB.bits z.cps.toList/\z.cps.toList≠[]/\Q (.int (IB.v2 z.cps.toList:Nat)) H
theorem Si:Ec X (.type "int") zN:=by
 intro pins s Y H xs us Q I r h;obtain⟨z,rfl,hl,hb,hne,q⟩:=h;obtain⟨u,w',rfl,ru,rw'⟩:=P7 r;obtain⟨t,rfl⟩:=ru;obtain⟨t',rfl⟩:=rw';exact callType_new F.called_int F.newNe_int (IB.typeCall_int_2 _ _) (IB.newCall_int_2 _ _) (λobj=>F.args_object_init_3 obj _ _) F.entry_int_new (IB.gives_bits hl hb hne).meets (show(Made.int _).post _ s from⟨rfl,.int (IB.v2 z.cps.toList:Nat),H,I.tok _,⟨_,rfl⟩,q⟩)
end
theorem Zf (n:Nat):jk none none (-1) n=(di n).map λk=>n-1-k:=by
 unfold jk;dsimp only;rw[if_neg (by decide),if_neg (by decide)];unfold sliceRange;dsimp only;rw[if_neg (by decide)];have e:(if((n:Int)-1 > -1) then((n:Int)-1 - -1 - -1-1)/(- -1) else 0).toNat=n:=by
  split
  ·simp
  ·lia
 rw[e];refine ii λk hk=>?_;have:=io.mp hk;lia
theorem Ss (l:Za4):∀n,n<=l.length->((di n).map λk=>n-1-k).filterMap (l[·]?)=(l.take n).reverse
 |0,_=>by simp
 |n+1,h=>by
  have hl:n<l.length:=h;rw[oh,fm,gu,jg];have e:((λk=>n+1-1-k) ∘ DY)=λk=>n-1-k:=by
   funext k
   show n+1-1-(k+1)=n-1-k;lia
  rw[e,show n+1-1-0=n by lia,c6 hl];dsimp only;rw[Ss l n (by lia),gn,c6 hl,Option.toList_some,qd];rfl
section
variable {X:Cx} {e:gv} {te:TE} {p1 p2 p3 pos:Pos} {j:Nat}
theorem Iw (z:Str):(R8 z).length=z.length:=by
 show z.cps.toList.reverse.toArray.size=z.cps.size;simp
theorem rA {x1}(he:PE X e te):PE X (.Subscript e (.Slice none none (some (.UnaryOp .USub (.Constant (.int 1) x1 p1) p2)) p3) pos) (yO te):=by
 k_in;refine Subscript_ (thE he I h λv s1 x H1 I1 r1 q1=>?_);obtain⟨z,rfl,hz,q⟩:=q1;obtain⟨t,rfl⟩:=r1;refine CT ?_;rw[wl];refine d4 (d4 ?_);rw[evalPart_some];have hm:PE X (.UnaryOp .USub (.Constant (.int 1) x1 p1) p2) (tUn (rU λi=>.int (-i)) (tC (.int 1))):=Di Cb Af;refine thn (hm pins s1 Y H1 (λy H2=>y=.int (-1)/\H2=H1) I1 ⟨1,rfl,rfl,rfl⟩) λw s2 ⟨y,H2,I2,r2,e2,e3⟩=>?_;subst e2 e3;obtain⟨t2,rfl⟩:=r2;have I4:Inv X pins Y H2 { s2 with heap:=s2.heap.push { cls:=.type "slice",data:=.fields #[.none,.none,.int (-1) t2] } }:=I2.kept (t':=s2.toks) λb ob q=>dg _ q;have hs:(s2.heap.push { cls:=.type "slice",data:=.fields #[.none,.none,.int (-1) t2] }).IsSlice s2.heap.objs.size none none (some (-1,t2)):=⟨_,fv _ rfl,rfl,rfl⟩;refine xo (ops:=[.ref s2.heap.objs.size,.str z t]) (zg _ _ _) xu.lookup ?_ (by with_unfolding_all rfl);refine AH hs rfl ?_;have em:sliceMade z t none none (some (-1,t2))=.str (R8 z):=by
  unfold sliceMade;rw[if_neg (by simp)];show Made.str ⟨((jk none none (-1) z.length).filterMap (z.cps[·]?)).toArray⟩=_;rw[Zf];have:=Ss z.cps.toList z.cps.toList.length (c9 _);have e1:z.cps.toList.length=z.length:=by simp[sy]
  rw[e1] at this;have e2:(λi:Nat=>z.cps[i]?)=λi:Nat=>z.cps.toList[i]?:=by funext i;simp
  rw[e2,this,ej (by simp[sy])];rfl
 rw[em];refine⟨?_,.str (R8 z),H2,I4.tok _,⟨_,rfl⟩,q⟩;show(R8 z).length<=_;rw[Iw];exact hz
end
theorem yH {Y:St}{Q:VK}(h:te Y H λx H1=>∃z,x=.str z/\z.length<=sizeLine/\Q (.str (R8 z)) H1):yO te Y H Q:=h
inductive Ez (K:c7) (H:Hp):Nat->V->V->Prop where
 |flat {n:Nat} {x:V} (h:Em x=true):Ez K H n x x
 |tup {n:Nat} {a b:de} {xs ys:List V} (h1:SqT K H a xs) (h2:SqT K H b ys) (hl:xs.length=ys.length) (h:∀(j:Nat) (x y:V),xs[j]?=some x->ys[j]?=some y->Ez K H n x y):Ez K H (n+1) (.ref a) (.ref b)
 |lst {n:Nat} {a b:de} {xs ys:List V} (h1:SqL K H a xs) (h2:SqL K H b ys) (hl:xs.length=ys.length) (h:∀(j:Nat) (x y:V),xs[j]?=some x->ys[j]?=some y->Ez K H n x y):Ez K H (n+1) (.ref a) (.ref b)
theorem X0 {x:V}(h:Em x=true):eqV x x=true:=by
 cases x<;>first|rfl|(simp[eqV];done)|cases h
theorem Ms (ns:List Int):(ns.map V.int).all Em=true:=by simp[ja,Em]
section
variable {X:Cx} {pins:Za1} {Y:St} {H:Hp} {s:dv}
theorem Ha {e:Nat->Bool}(h:∀j,e j=true):(di n).all e=true:=by simp[h]
mutual
theorem Ez.eqAt (I:Inv X pins Y H s):∀{n:Nat} {x y:V} {A:ic} {u v:dr},A.units+n<cLine->Ez X.K H n x y->A8 x u->A8 y v->ut A s u v true
 |_,_,_,A,u,v,hu,.flat h,ru,rv=>by
  have:=Zc (A:=A) (s:=s) ru rv h h;rw[X0 h] at this;exact this
 |n+1,.ref a,.ref b,A,u,v,hu,.tup (xs:=xs) (ys:=ys) h1 h2 hl h,ru,rv=>by
  cases ru;cases rv
  by_cases hab:a=b
  ·subst hab;exact vd _
  ·obtain⟨is,r1,p1,_⟩:=I.tuple h1
   obtain⟨js,r2,p2,_⟩:=I.tuple h2;have l1:=r1.length;have l2:=r2.length;have:=yy (A:=A) (e:=λ_=>true) p1 p2 (by omega (splitDisjunctions:=true)) λj a1 a2=>Ez.items I (by show A.units+1+n<cLine;omega (splitDisjunctions:=true)) h r1 r2 j (by simpa using a1) (by simpa using a2);refine ym hab ?_;rw[Ha λ_=>rfl] at this
   simpa [<-l1,<-l2,hl] using this
 |n+1,.ref a,.ref b,A,u,v,hu,.lst (xs:=xs) (ys:=ys) h1 h2 hl h,ru,rv=>by
  cases ru;cases rv
  by_cases hab:a=b
  ·subst hab;exact vd _
  ·obtain⟨is,r1,p1,_⟩:=I.list h1
   obtain⟨js,r2,p2,_⟩:=I.list h2;have l1:=r1.length;have l2:=r2.length;have:=uq (A:=A) (e:=λ_=>true) p1.isList p2.isList (by simp;omega (splitDisjunctions:=true)) (by omega (splitDisjunctions:=true)) λj a1 a2=>Ez.items I (by show A.units+1+n<cLine;omega (splitDisjunctions:=true)) h r1 r2 j (by simpa using a1) (by simpa using a2);refine ym hab ?_;rw[Ha λ_=>rfl] at this;exact this
theorem Ez.items (I:Inv X pins Y H s){n:Nat}{A:ic}{xs ys:List V}{us vs:Za3}(hu:A.units+n<cLine)(h:∀(j:Nat) (x y:V),xs[j]?=some x->ys[j]?=some y->Ez X.K H n x y)(r1:Au xs us)(r2:Au ys vs)(j:Nat)(h1:j<us.length)(h2:j<vs.length) :
  ut A s us[j] vs[j] true:=by
 have l1:=r1.length;have l2:=r2.length;obtain⟨x,ex⟩:∃x,xs[j]?=some x:=⟨_,c6 (by omega (splitDisjunctions:=true))⟩;obtain⟨y,ey⟩:∃y,ys[j]?=some y:=⟨_,c6 (by omega (splitDisjunctions:=true))⟩;obtain⟨u,eu,ru⟩:=r1.get ex;obtain⟨v,ev,rv⟩:=r2.get ey;rw[c6 h1] at eu;rw[c6 h2] at ev;cases eu;cases ev;exact Ez.eqAt I hu (h j x y ex ey) ru rv
end
end
def tS (K:c7)(r:Bool):R2:=λx y H Q=>∃a b,x=.ref a/\y=.ref b/\Ez K H 60 x y/\Q (.bl r) H
section
variable {X:Cx}
theorem Aa3 (hu:X.A.units+60<cLine):OpR X (compareOp .Eq) (tS X.K true):=by
 intro pins s Y H x y v u Q I rx ry h;obtain⟨a,b,rfl,rfl,hs,q⟩:=h;cases rx;cases ry
 cases hs with
 |flat h=>cases h
 | @tup n _ _ xs ys h1 h2 hl h=>
  obtain⟨is,r1,p1,_⟩:=I.tuple h1;obtain⟨js,r2,p2,_⟩:=I.tuple h2;have l1:=r1.length;have l2:=r2.length;have:=yy (A:=X.A) (e:=λ_=>true) p1 p2 (by lia) λj a1 a2=>Ez.items I (by show X.A.units+1+59<cLine;lia) h r1 r2 j (by simpa using a1) (by simpa using a2);rw[Ha λ_=>rfl] at this;refine this _ _ _ _ ⟨.bl true,H,I,?_,q⟩;simp[A8,<-l1,<-l2,hl]
 | @lst n _ _ xs ys h1 h2 hl h=>
  obtain⟨is,r1,p1,_⟩:=I.list h1;obtain⟨js,r2,p2,_⟩:=I.list h2;have l1:=r1.length;have l2:=r2.length;have:=uq (A:=X.A) (e:=λ_=>true) p1.isList p2.isList (by simp;lia) (by lia) λj a1 a2=>Ez.items I (by show X.A.units+1+59<cLine;lia) h r1 r2 j (by simpa using a1) (by simpa using a2);rw[Ha λ_=>rfl] at this;exact this _ _ _ _ ⟨.bl true,H,I,rfl,q⟩
theorem wD (hu:X.A.units+60<cLine):OpR X (compareOp .NotEq) (tS X.K false):=by
 intro pins s Y H x y v u Q I rx ry h;obtain⟨a,b,rfl,rfl,hs,q⟩:=h;cases rx;cases ry
 cases hs with
 |flat h=>cases h
 | @tup n _ _ xs ys h1 h2 hl h=>
  obtain⟨is,r1,p1,_⟩:=I.tuple h1;obtain⟨js,r2,p2,_⟩:=I.tuple h2;have l1:=r1.length;have l2:=r2.length;have:=FQ (A:=X.A) (e:=λ_=>true) p1 p2 (by lia) λj a1 a2=>Ez.items I (by show X.A.units+1+59<cLine;lia) h r1 r2 j (by simpa using a1) (by simpa using a2);rw[Ha λ_=>rfl] at this;refine this _ _ _ _ ⟨.bl false,H,I,?_,q⟩;simp[A8,<-l1,<-l2,hl]
 | @lst n _ _ xs ys h1 h2 hl h=>
  obtain⟨is,r1,p1,_⟩:=I.list h1;obtain⟨js,r2,p2,_⟩:=I.list h2;have l1:=r1.length;have l2:=r2.length;have:=sq (A:=X.A) (e:=λ_=>true) p1.isList p2.isList (by simp;lia) (by lia) λj a1 a2=>Ez.items I (by show X.A.units+1+59<cLine;lia) h r1 r2 j (by simpa using a1) (by simpa using a2);rw[Ha λ_=>rfl] at this;exact this _ _ _ _ ⟨.bl false,H,I,rfl,q⟩
end
theorem cP {k:Nat}(hr:Ck k A):A.units+60<cLine:=by have:=hr.units;lia
def eqL (xs ys:List V):Bool:=decide (xs.length=ys.length)&&(di xs.length).all λj=>eqV (xs.getD j .non) (ys.getD j .non)
def uD (K:c7)(n:Bool):R2:=λx y H Q=>∃a b xs ys,x=.ref a/\y=.ref b/\SqL K H a xs/\SqL K H b ys/\xs.all Em=true/\ys.all Em=true/\Q (.bl (n != eqL xs ys)) H
section
variable {X:Cx} {pins:Za1} {Y:St} {H:Hp} {s:dv}
theorem Sv (f1:xs.all Em=true)(f2:ys.all Em=true)(r1:Au xs us)(r2:Au ys vs)(j:Nat)(h1:j<us.length)(h2:j<vs.length) :
  ut A s us[j] vs[j] (eqV (xs.getD j .non) (ys.getD j .non)):=by
 have l1:=r1.length;have l2:=r2.length;have e1:xs[j]?=some (xs[j]'(by lia)):=c6 _;have e2:ys[j]?=some (ys[j]'(by lia)):=c6 _;obtain⟨u,eu,ru⟩:=r1.get e1;obtain⟨v,ev,rv⟩:=r2.get e2;rw[c6 h1] at eu;rw[c6 h2] at ev;cases eu;cases ev;simp only[ju,e1,e2,o7];exact Zc ru rv (ja.mp f1 _ (e6 e1)) (ja.mp f2 _ (e6 e2))
end
section
variable {X:Cx}
theorem wZ (hu:X.A.units+60<cLine):OpR X (compareOp .Eq) (uD X.K false):=by
 intro pins s Y H x y v u Q I rx ry h;obtain⟨a,b,xs,ys,rfl,rfl,h1,h2,f1,f2,q⟩:=h;cases rx;cases ry;obtain⟨is,r1,p1,_⟩:=I.list h1;obtain⟨js,r2,p2,_⟩:=I.list h2;have l1:=r1.length;have l2:=r2.length
 by_cases hl:xs.length=ys.length
 ·have:=uq (A:=X.A) (e:=λj=>eqV (xs.getD j .non) (ys.getD j .non)) p1.isList p2.isList (by simp;lia) (by lia) λj a1 a2=>Sv (s:=s) f1 f2 r1 r2 j (by simpa using a1) (by simpa using a2)
  refine this _ _ _ _ ⟨.bl (false != eqL xs ys),H,I,?_,q⟩;unfold eqL;rw[decide_eq_true hl];simp[A8,<-l1]
 ·have:=HU (A:=X.A) p1.isList p2.isList (by simp;lia) (by lia)
  refine this _ _ _ _ ⟨.bl (false != eqL xs ys),H,I,?_,q⟩;unfold eqL;rw[decide_eq_false hl];simp[A8]
theorem Ue (hu:X.A.units+60<cLine):OpR X (compareOp .NotEq) (uD X.K true):=by
 intro pins s Y H x y v u Q I rx ry h;obtain⟨a,b,xs,ys,rfl,rfl,h1,h2,f1,f2,q⟩:=h;cases rx;cases ry;obtain⟨is,r1,p1,_⟩:=I.list h1;obtain⟨js,r2,p2,_⟩:=I.list h2;have l1:=r1.length;have l2:=r2.length
 by_cases hl:xs.length=ys.length
 ·have:=sq (A:=X.A) (e:=λj=>eqV (xs.getD j .non) (ys.getD j .non)) p1.isList p2.isList (by simp;lia) (by lia) λj a1 a2=>Sv (s:=s) f1 f2 r1 r2 j (by simpa using a1) (by simpa using a2)
  refine this _ _ _ _ ⟨.bl (true != eqL xs ys),H,I,?_,q⟩;unfold eqL;rw[decide_eq_true hl];simp[A8,<-l1]
 ·have:=vc (A:=X.A) p1.isList p2.isList (by simp;lia) (by lia)
  refine this _ _ _ _ ⟨.bl (true != eqL xs ys),H,I,?_,q⟩;unfold eqL;rw[decide_eq_false hl];simp[A8]
end
theorem kN (ns ms:List Int):eqL (ns.map V.int) (ms.map V.int)=decide (ns=ms):=by
 unfold eqL;rw[c5,c5]
 by_cases hl:ns.length=ms.length
 ·rw[decide_eq_true hl,re]
  by_cases h:ns=ms
  ·subst h
   rw[decide_eq_true rfl,ja];intro j hj;have hj:j<ns.length:=io.mp hj;simp[ju,hj,eqV]
  ·rw[decide_eq_false h]
   refine BS.mpr λhc=>h (CK hl λj h1 h2=>?_);have:=ja.mp hc j (io.mpr h1);simp[ju,h1,h2,eqV] at this;exact this
 ·rw[decide_eq_false hl,qw,decide_eq_false]
  intro e;exact hl (by rw[e])
theorem nX {K:c7}{Q:VK}{a b:de}{ns ms:List Int}(h1:SqL K H a (ns.map V.int))(h2:SqL K H b (ms.map V.int))(q:Q (.bl (!decide (ns=ms))) H):uD K true (.ref a) (.ref b) H Q:=by
 refine⟨a,b,_,_,rfl,rfl,h1,h2,Ms _,Ms _,?_⟩;rw[kN];cases hd:decide (ns=ms)<;>(rw[hd] at q;exact q)
section
variable {prog:fi} {w:gl} {A:ic} {E:Za0} {s:dv}
theorem Kb {t sl:de}{items:Array dr}{vl vu:dr}{lo hi:Option Int}{Q:Za0}(ht:IsTup s.heap t items)(hs:s.heap.IsSliceOf sl vl vu .none)(pl:vt vl lo)(pu:vt vu hi)
  (h1:HT.sIx items.size 0 lo=0)(h2:HT.sIx items.size items.size hi=items.size)(h:Q (.ref t) s):wpAny (model prog w) A (getItem (.ref t) (.ref sl)) Q E s:=by
 obtain⟨os,hos,hcs,hds⟩:=id hs;have hTs:s.TypeIs (.ref sl) "slice":=⟨os,hos,hcs⟩;unfold getItem
 try with_reducible refine wpAny_holding ?_
 first|refine wpAny_bind (d4 ?_)|skip
 refine wpAny_bind (EE ht.typeIs (by decide) ?_);refine wpAny_bind (o6 (name:=ou "__getitem__") ht.typeIs jb
  (qc jb ht.typeIs entry_tuple_getitem ?_ (DS _ _)))
 show wpAny _ _ (u9 (.ref t) >>= _) _ _ s;refine wpAny_bind (HM ht ?_);refine wpAny_bind (pe hTs ?_);rw[if_pos (by decide)];refine wpAny_bind (HT.sliceApplied_gen hs pl pu ?_);show wpAny _ _ (if(((HT.sIx items.size 0 lo:Nat):Int)==0&&(1:Int)==1&&(HT.sIx items.size items.size hi-HT.sIx items.size 0 lo)==items.size)=true then _ else _) _ _ s;rw[if_pos (by rw[h1,h2];simp)];refine wpAny_bind (wpAny_bind (pe ht.typeIs (d4 ?_)));rw[if_pos (by decide)];refine wpAny_bind (ug ?_);exact wpAny_bind (d4 (d4 ⟨_,rfl,d4 h⟩))
end
section
variable {X:Cx}
def yW (K:c7):V->Option Int->Option Int->Hp->VK->Prop:=λx lo hi H Q=>∃a xs,x=.ref a/\SqT K H a xs/\∀p H',Ah H H'->SqT K H' p (Gj xs lo hi)->Q (.ref p) H'
theorem Uc:SlR X (yW X.K):=by
 intro pins s Y H x v vl vu lo hi sl Q I rx hs pl pu h;obtain⟨a,xs,rfl,hx,q⟩:=h
 by_cases hw:HT.sIx xs.length 0 lo=0/\HT.sIx xs.length xs.length hi=xs.length
 ·cases rx
  obtain⟨its,r,ht,hz⟩:=I.tuple hx;have hlen:its.toArray.size=xs.length:=by rw[d9];exact r.length.symm
  refine⟨"tuple",_,jb.lookup,ht.typeIs,?_⟩;refine Kb ht hs pl pu (by rw[hlen];exact hw.1) (by rw[hlen];exact hw.2) ⟨.ref a,H,I,rfl,q a H (Ah.refl _) ?_⟩;have:Gj xs lo hi=xs:=by
   unfold Gj;rw[hw.1,hw.2];simp
  rw[this];exact hx
 ·exact wJ pins s Y H _ v vl vu lo hi sl Q I rx hs pl pu ⟨a,xs,rfl,hx,hw,λp hp=>q p _ (Al hp) (SqT.of Ac)⟩
theorem Bg {x:Str}{i:Int}(hg:Gl X x)(hm:∃t,X.mg x=some (.int i t))(hd:autoParam ((x==("__debug__":Str))=false) QF):PE X (.Name x pos) (tC (.int i)):=by
 obtain⟨t,h⟩:=hm;exact Ob hg h ⟨t,rfl⟩ hd
end
section
variable {Y:St} {H:Hp} {D:Hk} {Q:VK} {te:TE} {QB:Bool->Hp->Prop} {tA:TA}
theorem zF {K:c7}{T:String}{r:V->List V->Hp->VK->Prop}(h:te Y H λx H1=>tyV K T x H1/\r x [] H1 Q):xY K T r te Y H Q:=h
theorem Yn {lo hi:Option Int}(h1:z.length<=sizeLine)(h:Q (.str (Lk z lo hi)) H):yR (.str z) lo hi H Q:=⟨z,rfl,h1,h⟩
end
theorem xO {A:Prop}(h:B):if(!true)=true then A else B:=by
 rw[if_neg (by decide)];exact h
theorem yZ {A:Prop}(h:A):if(!false)=true then A else B:=by
 rw[if_pos (by decide)];exact h
def SameBut (x:de)(H H':Hp):Prop:=∀b o,b≠x->H b=some o->H' b=some o
theorem Ah.but {x:de}(h:Ah H H'):SameBut x H H':=λb o _ e=>h b o e
theorem SameBut.trans {x:de}(a:SameBut x H H1)(b:SameBut x H1 H2):SameBut x H H2:=λc o n h=>b c o n (a c o n h)
def lZ (H:Hp)(x:de):Prop:=∀u,¬ Rd H x (.tup u)/\¬ Rd H x (.lst u)
theorem D0 {x:de}{fs:List (Str×V)}(h:H x=some (.ins C dx fs)):lZ H x:=λu=>by
 constructor<;>(rintro(e|⟨o,e⟩)<;>(rw[h] at e;cases e))
theorem A4 {x:de}{o:HO}:SameBut x H (upd H x o):=λb u n e=>by rw[Ai n];exact e
theorem Z2 {fr:St}{tc:TT}{Q:VK}(n:Nat)(item:Nat->V)(Pv:Nat->List V->Hp->Prop)(h0:∀H,Ah H1 H->Pv 0 [] H)
  (stab:∀i ys H D xs o,H D=some (.lst xs)->Pv i ys H->Pv i ys (upd H D o))(hz:∀i ys H,i<n->Pv i ys H->ys.length<sizeLine)
  (hgo:∀i H,i<n->Ah H1 H->J.go i H)(hy:∀i H x H',i<n->Ah H1 H->J.yld i H x H'->x=item i/\H'=H)(hst:∀H,Ah H1 H->J.stop n H)
  (turn:∀i ys H (A:VK) (R:Hp->Prop),i<n->Ah H1 H->Pv i ys H->(∀y H',Ah H H'->Pv (i+1) (ys++[y]) H'->A y H')->tc (some (item i)::fr) H λb H3=>if b=true then te (some (item i)::fr) H3 A else R H3)
  (fin:∀D ys H,H1 D=none->Ah H1 H->Pv n ys H->H D=some (.lst ys)->Q (.ref D) H):N5 J H1 fr tc te Q:=by
 intro D hD;refine⟨λi m H=>i<=n/\m=n-i/\Ah H1 H/\∃ys,H D=some (.lst ys)/\Pv i ys H,⟨n,fq _,rfl,Al hD,[],Ac,h0 _ (Al hD)⟩,?_⟩;rintro i m H ⟨hi,rfl,sm,ys,hl,hp⟩
 by_cases h:i=n
 ·subst h
  exact .inl ⟨hst H sm,fin D ys H hD sm hp hl⟩
 ·have hlt:i<n:=jo hi h
  refine .inr ⟨hgo i H hlt sm,λx H' hyl=>?_⟩;obtain⟨rfl,rfl⟩:=hy i H x H' hlt sm hyl;refine turn i ys H' _ _ hlt sm hp (λy H4 s4 hp4=>?_);refine⟨ys,s4 _ _ hl,hz i ys _ hlt hp,n-(i+1),by lia,by lia,rfl,λb u e=>?_,ys++[y],Ac,stab _ _ _ _ _ _ (s4 _ _ hl) hp4⟩;rw[Ai (Aj e hD)];exact s4 _ _ (sm _ _ e)
theorem iI {lo st:Int}{fr:St}{tc:TT}{Q:VK}(Pv:Nat->List V->Hp->Prop)(h0:∀H,Ah H1 H->Pv 0 [] H)
  (stab:∀i ys H D xs o,H D=some (.lst xs)->Pv i ys H->Pv i ys (upd H D o))(hz:∀i ys H,i<n->Pv i ys H->ys.length<sizeLine)
  (turn:∀(i:Nat) ys H (A:VK) (R:Hp->Prop),i<n->Ah H1 H->Pv i ys H->(∀y H',Ah H H'->Pv (i+1) (ys++[y]) H'->A y H')->tc (some (.int (lo+i*st))::fr) H λb H3=>if b=true then te (some (.int (lo+i*st))::fr) H3 A else R H3)
  (fin:∀D ys H,H1 D=none->Ah H1 H->Pv n ys H->H D=some (.lst ys)->Q (.ref D) H):N5 (nA lo st n) H1 fr tc te Q:=
 Z2 n (λi=>.int (lo+i*st)) Pv h0 stab hz (λi H hi _=>hi) (λi H x H' _ _ h=>⟨h.2,h.1⟩) (λH _=>c9 n) turn fin
theorem qN {sc:l9}{s0:dv}{x:Str}{N2:Za6}{ix:Za4}{px:Pos}{elt:gv}{ifs:List gv}{tc:TT} 
  (hc:X.calm=true)(L:∀QU,Bn N QU scope x N2 ix)(hi:PI (Cs X sc N C s0 H0 fp) (.Name x px) iter wi)
  (hif:∀C' s' H' fp',PIf (Cs (Cs X sc N C s0 H0 fp) scope N2 C' s' H' fp') ifs tc)(he:∀C' s' H' fp',PE (Cs (Cs X sc N C s0 H0 fp) scope N2 C' s' H' fp') elt te)
  (hs:autoParam (∀z,foldedSetIterable iter (Cs X sc N C s0 H0 fp).env z=pure z) QJ):PE (Cs X sc N C s0 H0 fp) (.ListComp elt [⟨.Name x px,iter,ifs,0⟩] scope pos) (tLc wi ix tc te):=
 F3 (X:=Cs X sc N C s0 H0 fp) hc (L _) hi hif he hs
theorem rE (K:c7){l:gv}{tl:TE}(hl:PE X l tl)(h:autoParam (X.K=K) QD):PI X tg l (xF K tl):=by
 subst h;exact Z7 hl
theorem gI (K:c7)(hc:X.calm=true)(h:autoParam (X.K=K) QD):Ec X (.builtin "sum") (zT K):=by
 subst h;exact kC hc
theorem kG (K:c7)(h:autoParam (X.K=K) QD):SlR X (yW K):=by
 subst h;exact Uc
theorem xQ:bootBuiltins "abs"=some (.builtin "abs"):=by decide +kernel
def Va (ns:List Int)(m:Int):Prop:=m∈ns/\∀a∈ns,m<=a
def Zk (ns:List Int)(m:Int):Prop:=m∈ns/\∀a∈ns,a<=m
section
variable {X:Cx}
def tN (K:c7):List V->Hp->VK->Prop:=λxs H Q=>∃(p:de) (ns:List Int),xs=[.ref p]/\SqL K H p (ns.map V.int)/\ns≠[]/\∀m,Va ns m->Q (.int m) H
def sY (K:c7):List V->Hp->VK->Prop:=λxs H Q=>∃(p:de) (ns:List Int),xs=[.ref p]/\SqL K H p (ns.map V.int)/\ns≠[]/\∀m,Zk ns m->Q (.int m) H
theorem fC {Y:St}{p:de}{ns:List Int}(I:Inv X pins Y H s)(hp:SqL X.K H p (ns.map V.int)):∃ys:Array (Int×Tok),s.heap.IsList p (intItems ys)/\ns=ys.toList.map (·.1):=by
 obtain⟨its,r,pl,_⟩:=I.list hp;have hi:=P0 r;obtain⟨ys,e⟩:=hi.allInts.items;have hl:=pl.isList;rw[e] at hl;exact⟨ys,hl,by rw[<-hi.numsOf,<-HP,<-e]⟩
theorem kF {ys:Array (Int×Tok)}{v:dr}(hz:0<ys.size)(hv:(intItems ys)[argBest (λi j=>decide (numAt ys i<numAt ys j)) (ys.size-1)]?=some v):∃m t,v=.int m t/\Va (ys.toList.map (·.1)) m:=by
 obtain⟨t,rfl⟩:=intItems_at hv;obtain⟨h1,h2⟩:=argBest_lt (numAt ys) (ys.size-1);refine⟨_,t,rfl,?_,λa ha=>?_⟩
 ·rw[CW]
  exact getD_mem (by rw[c5,fb];lia)
 ·obtain⟨j,hj,rfl⟩:=mem_getD ha
  rw[c5,fb] at hj;rw[<-CW];exact h2 j (by lia)
theorem sE {ys:Array (Int×Tok)}{v:dr}(hz:0<ys.size)(hv:(intItems ys)[argBest (λi j=>decide (numAt ys i>numAt ys j)) (ys.size-1)]?=some v):∃m t,v=.int m t/\Zk (ys.toList.map (·.1)) m:=by
 obtain⟨t,rfl⟩:=intItems_at hv;obtain⟨h1,h2⟩:=argBest_gt (numAt ys) (ys.size-1);refine⟨_,t,rfl,?_,λa ha=>?_⟩
 ·rw[CW]
  exact getD_mem (by rw[c5,fb];lia)
 ·obtain⟨j,hj,rfl⟩:=mem_getD ha
  rw[c5,fb] at hj;rw[<-CW];exact h2 j (by lia)
theorem Pb {ns:List Int}{ys:Array (Int×Tok)}(e:ns=ys.toList.map (·.1))(h:ns≠[]):0<ys.size:=by
 rcases vq ys.size with z|z
 ·exfalso
  apply h;rw[e,List.eq_nil_of_length_eq_zero (l:=ys.toList) (by rw[fb];exact z)];rfl
 ·exact z
theorem gB (hc:X.calm=true):Ec X (.builtin "min") (tN X.K):=by
 intro pins s Y H xs us Q I r h;obtain⟨p,ns,rfl,hp,hne,q⟩:=h;obtain⟨u,rfl,ru⟩:=E6 r;cases ru;obtain⟨ys,hl,e⟩:=fC I hp;have hz:=Pb e hne;refine min_intList (I.ok.hd hc) hl hz λv h' tk hv hk=>?_;obtain⟨m,t,rfl,hm⟩:=kF hz hv;exact⟨.int m,H,I.kept hk,⟨t,rfl⟩,q m (e▸hm)⟩
theorem gO (hc:X.calm=true):Ec X (.builtin "max") (sY X.K):=by
 intro pins s Y H xs us Q I r h;obtain⟨p,ns,rfl,hp,hne,q⟩:=h;obtain⟨u,rfl,ru⟩:=E6 r;cases ru;obtain⟨ys,hl,e⟩:=fC I hp;have hz:=Pb e hne;refine max_intList (I.ok.hd hc) hl hz λv h' tk hv hk=>?_;obtain⟨m,t,rfl,hm⟩:=sE hz hv;exact⟨.int m,H,I.kept hk,⟨t,rfl⟩,q m (e▸hm)⟩
end
theorem fP {g:TG}{tb:TS}{Y:St}(Pv:Nat->St->Hp->Prop)(h0:Pv 0 Y H)
  (hs:∀(i c:Nat) Y H,z.cps[i]?=some c->Pv i Y H->g (.str (sgn c)) Y H λQP H2=>tb { D with nx:=Pv (i+1),ct:=Pv (i+1),bk:=D.nx } QP H2)(hd:∀Y H,Pv z.cps.size Y H->D.nx Y H):lA (Its z) g tb D Y H:=by
 refine⟨λi m Y H=>i<=z.cps.size/\m=z.cps.size-i/\Pv i Y H,⟨_,fq _,rfl,h0⟩,?_⟩;rintro i m Y H ⟨hi,rfl,hP⟩
 by_cases h:i=z.cps.size
 ·subst h
  exact .inl ⟨c9 _,hd Y H hP⟩
 ·have hlt:i<z.cps.size:=jo hi h
  refine .inr ⟨hlt,Pv (i+1),λmt H' hN=>⟨z.cps.size-(i+1),by lia,hlt,rfl,hN⟩,λx H' hy=>?_⟩;obtain⟨rfl,c,hc,rfl⟩:=hy;exact hs i c Y _ hc hP
end L2
end
section
namespace TW
def val:Za5->Nat
 |[]=>0
 |b::r=>b.toNat+2*val r
theorem mB:∀l:Za5,val l<2 ^ l.length
 |[]=>by simp[val]
 |b::r=>by
  have:=mB r;simp only[val,f9,wc];have hb:b.toNat<=1:=yw b;lia
def pc (n:Nat):Nat:=if n=0 then 0 else n%2+pc (n/2)
termination_by n
decreasing_by lia
theorem Oe:pc 0=0:=by rw[pc];rfl
theorem Fk (n:Nat):pc n=n%2+pc (n/2):=by
 by_cases h:n=0
 ·subst h;simp[Oe]
 ·rw[pc,if_neg h]
theorem Vx:∀l:Za5,pc (val l)=l.count true
 |[]=>by simp[val,Oe]
 |b::r=>by
  rw[Fk];have e1:val (b::r)%2=b.toNat:=by simp only[val];have:=yw b;lia
  have e2:val (b::r)/2=val r:=by simp only[val];have:=yw b;lia
  rw[e1,e2,Vx r];cases b<;>simp[nu,mz]
theorem zH (n:Nat):n%16%2=n%2:=vo n (by decide)
theorem yM (n:Nat):n%16/2%2=n/2%2:=(congrArg (·%2) (qz n 2 8)).trans (vo _ (by decide))
theorem zZ (n:Nat):n%16/4%2=n/4%2:=(congrArg (·%2) (qz n 4 4)).trans (vo _ (by decide))
theorem xK (n:Nat):n%16/8%2=n/8%2:=(congrArg (·%2) (qz n 8 2)).trans (Nat.mod_mod _ _)
theorem Aa8 (n:Nat):pc n=pc (n%16)+pc (n/16):=by
 have a:pc n=n%2+(n/2%2+(n/4%2+(n/8%2+pc (n/16)))):=by
  rw[Fk n,Fk (n/2),Fk (n/2/2),Fk (n/2/2/2)];simp only[o0]
 have b:pc (n%16)=n%16%2+(n%16/2%2+(n%16/4%2+(n%16/8%2+pc (n%16/16)))):=by
  rw[Fk (n%16),Fk (n%16/2),Fk (n%16/2/2),Fk (n%16/2/2/2)];simp only[o0]
 have c:pc (n%16/16)=0:=by
  rw[sf (ph n (by decide)),Oe]
 rw[a,b,c,zH,yM,zZ,xK,tu,lh,lh,lh]
def Sq:Za4:=[0,1,1,2,1,2,2,3,1,2,2,3,2,3,3,4]
theorem oQ:∀r:Nat,r<16->Sq[r]?=some (pc r):=by
 have h:∀b0 b1 b2 b3:Bool,Sq[val [b0,b1,b2,b3]]?=some ([b0,b1,b2,b3].count true):=by decide
 intro r hr;have e:r=val [r.testBit 0,r.testBit 1,r.testBit 2,r.testBit 3]:=by
  have:∀r:Fin 16,r.val=val [r.val.testBit 0,r.val.testBit 1,r.val.testBit 2,r.val.testBit 3]:=by decide
  exact this ⟨r,hr⟩
 rw[e,h,Vx]
def Av (l:Za5)(j:Nat):Za5:=(l.drop (32*j)).take 32
def B3 (n:Nat):Nat:=(n+31)/32
def wordsOf (l:Za5):Za4:=(di (B3 l.length)).map λj=>val (Av l j)
def cnt (l:Za5)(k:Nat):Nat:=(l.take k).count true
theorem eX (l:Za5)(a b:Nat):cnt l (a+b)=cnt l a+((l.drop a).take b).count true:=by
 unfold cnt;rw[yt,vx]
theorem dX (l:Za5){k:Nat}(h:l.length<=k):cnt l k=l.count true:=by
 unfold cnt;rw[ej h]
theorem W8 (l:Za5)(j:Nat):cnt l (32*(j+1))=cnt l (32*j)+pc (val (Av l j)):=by
 rw[Vx,show 32*(j+1)=32*j+32 by lia,eX];rfl
theorem S0 (l:Za5)(a:Nat):∀k:Nat,((di k).map λi=>pc (val (Av l (a+i)))).sum+cnt l (32*a)=cnt l (32*(a+k))
 |0=>by simp
 |k+1=>by
  rw[ik,dj,xf,AR,ve];have:=S0 l a k;have e:=W8 l (a+k);rw[show a+(k+1)=a+k+1 by lia,e];lia
theorem nY (n:Nat):n<=32*B3 n:=by unfold B3;lia
theorem Xs {n j:Nat}(h:j<B3 n):32*j<n:=by unfold B3 at h;lia
theorem iF (l:Za5)(b:Nat)(k:Nat)(hk:k=min 8 (B3 l.length-8*b)):((di k).map λi=>pc (val (Av l (8*b+i)))).sum+cnt l (256*b)=cnt l (256*(b+1)):=by
 have h:=S0 l (8*b) k;rw[show 32*(8*b)=256*b by lia] at h;rw[h]
 by_cases hh:8<=B3 l.length-8*b
 ·rw[hk.trans (i9 hh),show 32*(8*b+8)=256*(b+1) by lia]
 ·have ek:=hk.trans (w4 (fw (HE.mp hh)))
  have h2:=gm (nY l.length) (uw 32 (Nat.sub_le_iff_le_add'.mp (lz ek.symm)));rw[<-ek] at hh;rw[dX l h2,dX l (k:=256*(b+1)) (by clear hk ek h;lia)]
theorem eK:∀(l:Za5) (a:Nat),(l.reverse.foldl (λacc b=>acc*2+b.toNat) a)=a*2 ^ l.length+val l
 |[],a=>by simp[val]
 |b::r,a=>by
  rw[List.reverse_cons,BP,eK r a];simp only[nr,List.foldl_nil,val,f9,wc];rw[AD,Nat.mul_assoc];lia
theorem Vw:∀(w:Za5) (k:Nat),val w/2 ^ k%2=(w.getD k false).toNat
 |[],k=>by simp[val]
 |b::r,0=>by
  cases b<;>simp[val]<;>lia
 |b::r,k+1=>by
  have ih:=Vw r k;have e:val (b::r)/2 ^ (k+1)=val r/2 ^ k:=by
   rw[wc,qk (2 ^ k) 2,<-o0];congr 1;cases b<;>simp[val]<;>lia
  rw[e,ih];simp
theorem Nb (l:Za5)(j:Nat){p:Nat}(hp:p<32):(Av l j).getD p false=l.getD (32*j+p) false:=by
 unfold Av;simp only[ft,ig,il,hp,if_true]
def Lz (n:Nat):Za5:=(di 32).map λp=>decide (n/2 ^ p%2=1)
theorem iA (b:Bool):decide (b.toNat=1)=b:=by cases b<;>rfl
theorem iZ (l:Za5)(j:Nat):Lz (val (Av l j))=(di 32).map λp=>l.getD (32*j+p) false:=by
 unfold Lz;refine ii λp hp=>?_;rw[Vw,iA,Nb l j (io.mp hp)]
theorem Mt {α:Type}(d:Nat)(f:Nat->α):∀m:Nat,((di m).map λj=>(di d).map λp=>f (d*j+p)).flatten=(di (d*m)).map f
 |0=>by simp
 |m+1=>by
  rw[ik,dj,ke,Mt d f m,FK,List.range_add,dj];simp[Function.comp_def]
def Yz (r:Nat):Za5:=(di 4).map λk=>decide (r/2 ^ k%2=1)
theorem oF (n j:Nat):Yz (n/2 ^ (4*j)%16)=(di 4).map λk=>decide (n/2 ^ (4*j+k)%2=1):=by
 unfold Yz;refine ii λk hk=>?_;have hk:=io.mp hk;rw[Nat.pow_add,<-o0];generalize n/2 ^ (4*j)=m;congr 1;have:k=0\/k=1\/k=2\/k=3:=by lia
 rcases this with rfl|rfl|rfl|rfl
 ·rw[Nat.pow_zero,GR,GR,zH]
 ·exact congrArg (·=1) (yM m)
 ·exact congrArg (·=1) (zZ m)
 ·exact congrArg (·=1) (xK m)
theorem O3 (n:Nat):((di 8).map λj=>Yz (n/2 ^ (4*j)%16)).flatten=Lz n:=by
 have e:((di 8).map λj=>Yz (n/2 ^ (4*j)%16))=(di 8).map λj=>(di 4).map λk=>decide (n/2 ^ (4*j+k)%2=1):=ii λj _=>oF n j;rw[e];exact Mt 4 (λp=>decide (n/2 ^ p%2=1)) 8
theorem Po (l:Za5)(a m:Nat):((di m).map λi=>Lz (val (Av l (a+i)))).flatten=(di (32*m)).map λp=>l.getD (32*a+p) false:=by
 have e:((di m).map λi=>Lz (val (Av l (a+i))))=(di m).map λj=>(di 32).map λp=>l.getD (32*a+(32*j+p)) false:=ii λj _=>by
  rw[iZ];refine ii λp _=>?_;congr 1;lia
 rw[e];exact Mt 32 (λp=>l.getD (32*a+p) false) m
theorem pP (l:Za5)(a m low c:Nat)(h0:32*a<=low)(h1:low+c<=l.length)(h2:low+c<=32*(a+m)) :
  (((di (32*m)).map λp=>l.getD (32*a+p) false).drop (low-32*a)).take c=(l.drop low).take c:=by
 refine oj λi=>?_;rw[ig,ig]
 by_cases hi:i<c
 ·rw[if_pos hi,if_pos hi,il,il,df,ff (by lia)]
  rw[c6 (show low+i<l.length by lia)];simp only[m9,ft];rw[show 32*a+(low-32*a+i)=low+i by lia,c6 (show low+i<l.length by lia)];rfl
 ·rw[if_neg hi,if_neg hi]
theorem S9 (l:Za5)(a k:Nat):((wordsOf l).drop a).take k=(di (min k (B3 l.length-a))).map λi=>val (Av l (a+i)):=by
 refine oj λi=>?_;unfold wordsOf;rw[ig,df]
 by_cases hi:i<k
 ·rw[if_pos hi,il,df]
  by_cases h2:a+i<B3 l.length
  ·rw[ff h2,ff (Nat.lt_min.mpr ⟨hi,Nat.lt_sub_iff_add_lt.mpr (by rw[mz];exact h2)⟩)]
   rfl
  ·have h3:=qy.mp h2
   rw[iy (by rw[dn];exact h3),iy (by rw[dn];exact gm (r9 _ _) (Nat.sub_le_iff_le_add.mpr (by rw[mz];exact h3)))];rfl
 ·rw[if_neg hi,iy (by rw[dn];exact gm (Nat.min_le_left _ _) (qy.mp hi))]
  rfl
theorem sW (f:Nat->Bool)(n:Nat):[n].filter f=if f n then[n] else[]:=by
 cases h:f n<;>simp[List.filter,h]
def occ (b:Bool)(l:Za5)(n:Nat):Za4:=(di n).filter λi=>l.getD i false==b
theorem Mb (b:Bool)(l:Za5)(n:Nat):occ b l (n+1)=occ b l n++if l.getD n false==b then[n] else[]:=by
 unfold occ;rw[ik,vg,sW]
theorem dM (b:Bool)(l:Za5)(n:Nat):∀d:Nat,occ b l (n+d)=occ b l n++((di d).filter λp=>l.getD (n+p) false==b).map (n + ·)
 |0=>by simp
 |d+1=>by
  rw[show n+(d+1)=n+d+1 by lia,Mb,dM b l n d,ik,vg,dj,du,sW];congr 2;cases l.getD (n+d) false==b<;>rfl
theorem sJ {b:Bool}{l:Za5}{n m i:Nat}(h:n<=m)(hi:i<(occ b l n).length):(occ b l m)[i]?=(occ b l n)[i]?:=by
 obtain⟨d,rfl⟩:=Nat.le.dest h;rw[dM,eh hi]
theorem dG (l:Za5):∀n:Nat,(occ true l n).length=cnt l n/\(occ false l n).length+cnt l n=n
 |0=>by simp[occ,cnt]
 |n+1=>by
  obtain⟨h1,h2⟩:=dG l n;have e:cnt l (n+1)=cnt l n+(l.getD n false).toNat:=by
   unfold cnt;rw[gn,vx,ft]
   cases hx:l[n]? with
   |none=>simp
   |some b=>cases b<;>simp
  rw[Mb,Mb,e];cases l.getD n false<;>simp<;>lia
theorem Vd (w:Za5)(k:Nat):(val w).testBit k=w.getD k false:=by
 rw[Nat.testBit_eq_decide_div_mod_eq,Vw];cases w.getD k false<;>rfl
def Ym (b:Bool):Nat:=if b then 0 else 4294967295
theorem Tj (b:Bool)(l:Za5)(j:Nat):val (Av l j) ^^^ Ym b=val ((di 32).map λp=>l.getD (32*j+p) false==b):=by
 refine ui λi=>?_;rw[Nat.testBit_xor,Vd,Vd];have hf:(Ym b).testBit i=(!b&&decide (i<32)):=by
  cases b
  ·show(2 ^ 32-1).testBit i=_
   rw[x6];rfl
  ·show(0:Nat).testBit i=_
   rw[Nat.zero_testBit];rfl
 rw[hf]
 by_cases hi:i<32
 ·rw[Nb l j hi,ft (l:=qt _ _),df,ff hi]
  show _=(l.getD (32*j+i) false==b);rw[decide_eq_true hi];cases l.getD (32*j+i) false<;>cases b<;>rfl
 ·rw[decide_eq_false hi,ft,iy (by unfold Av;rw[eg];lia),ft,iy (by rw[c5,dn];lia)]
  simp
theorem pG (w:Za5)(k:Nat):val w%2 ^ k=val (w.take k):=by
 refine ui λi=>?_;rw[Nat.testBit_mod_two_pow,Vd,Vd,ft,ft,ig]
 by_cases hi:i<k<;>simp[hi]
theorem xE {b:Bool}{l:Za5}{n i t:Nat}(h:(occ b l n)[i]?=some t):t<n/\(l.getD t false==b)=true:=by
 have:=e6 h;unfold occ at this;rw[xg] at this;exact⟨io.mp this.1,this.2⟩
def dAt (ds:Za4)(k:Nat):Nat:=ds.getD k 0
def opn (ds:Za4):Nat->Nat
 |0=>0
 |k+1=>dAt ds k+1
def way (ds:Za4):Nat->List Int
 |0=>[-1]
 |k+1=>(way ds k).take (dAt ds k+1)++[(k:Int)]
def Dok (ds:Za4):Prop:=∀k,k<ds.length->dAt ds k<=opn ds k
def eld (ds:Za4)(k:Nat):Int:=(way ds k).getD (dAt ds k) 0
def Ee (ds:Za4):List Int:=(di ds.length).map (eld ds)
theorem Ex {ds:Za4}(h:Dok ds):∀k,k<=ds.length->(way ds k).length=opn ds k+1
 |0,_=>rfl
 |k+1,hk=>by
  show((way ds k).take (dAt ds k+1)++[(k:Int)]).length=dAt ds k+1+1;have:=Ex h k (by lia);have:=h k (by lia);rw[c8,eg];simp only[f9,jm];lia
theorem L1 {ds:Za4}(h:Dok ds):∀k,k<=ds.length->(way ds k)[0]?=some (-1)
 |0,_=>rfl
 |k+1,hk=>by
  show((way ds k).take (dAt ds k+1)++[(k:Int)])[0]?=some (-1);have e:=L1 h k (by lia);have hl:=Ex h k (by lia);rw[eh (by rw[eg];lia),ij (by lia)];exact e
theorem Rg {ds:Za4}(h:Dok ds):∀(k j:Nat) (x:Int),k<=ds.length->(way ds k)[j+1]?=some x->∃v:Nat,x=(v:Int)/\v<k/\dAt ds v=j
 |0,j,x,_,e=>by cases e
 |k+1,j,x,hk,e=>by
  have e:((way ds k).take (dAt ds k+1)++[(k:Int)])[j+1]?=some x:=e;have hl:=Ex h k (by lia);have hd:=h k (by lia);have hl2:((way ds k).take (dAt ds k+1)).length=dAt ds k+1:=by rw[eg];lia
  by_cases hj:j+1<dAt ds k+1
  ·rw[eh (by lia),ij hj] at e
   obtain⟨v,hv,hlt,hdv⟩:=Rg h k j x (by lia) e;exact⟨v,hv,by lia,hdv⟩
  ·rw[dq (by lia),hl2] at e
   have e0:j+1-(dAt ds k+1)=0:=by
    have:=(dk.mp e).1;simp only[f9,jm] at this;lia
   rw[e0] at e;have e:=dh e;exact⟨k,e.symm,by lia,by lia⟩
theorem Yx {ds:Za4}(h:Dok ds):∀(k i j:Nat) (x y:Int),k<=ds.length->i<j->(way ds k)[i]?=some x->(way ds k)[j]?=some y->x<y
 |0,i,j,x,y,_,hij,e1,e2=>by
  have:=(dk.mp e2).1;simp only[way,f9,jm] at this;lia
 |k+1,i,j,x,y,hk,hij,e1,e2=>by
  have hl:=Ex h k (by lia);have hd:=h k (by lia);have hl2:((way ds k).take (dAt ds k+1)).length=dAt ds k+1:=by rw[eg];lia
  have e2':((way ds k).take (dAt ds k+1)++[(k:Int)])[j]?=some y:=e2;have e1':((way ds k).take (dAt ds k+1)++[(k:Int)])[i]?=some x:=e1
  by_cases hj:j<dAt ds k+1
  ·rw[eh (by lia),ij hj] at e2'
   rw[eh (by lia),ij (by lia)] at e1';exact Yx h k i j x y (by lia) hij e1' e2'
  ·rw[dq (by lia),hl2] at e2'
   have e0:j-(dAt ds k+1)=0:=by
    have:=(dk.mp e2').1;simp only[f9,jm] at this;lia
   rw[e0] at e2';have ey:=dh e2';rw[eh (by lia),ij (by lia)] at e1'
   cases i with
   |zero=>
    rw[L1 h k (by lia)] at e1';have:=dh e1';lia
   |succ i=>
    obtain⟨v,hv,hlt,_⟩:=Rg h k i x (by lia) e1';lia
theorem Pm {ds:Za4}(h:Dok ds){k:Nat}(hk:k<ds.length):(way ds k)[dAt ds k]?=some (eld ds k):=by
 have hl:=Ex h k (by lia);have hd:=h k hk;unfold eld ju;rw[c6 (by lia)];rfl
theorem rV {ds:Za4}(h:Dok ds){k:Nat}(hk:k<ds.length)(e:eld ds k=-1):dAt ds k=0:=by
 have ha:=Pm h hk
 cases hd:dAt ds k with
 |zero=>rfl
 |succ j=>
  rw[hd] at ha;obtain⟨v,hv,_⟩:=Rg h k j _ (by lia) ha;lia
theorem Yg {ds:Za4}(h:Dok ds){k:Nat}(hk:k<ds.length)(e:eld ds k≠-1):∃v:Nat,eld ds k=(v:Int)/\v<k/\dAt ds k=dAt ds v+1:=by
 have ha:=Pm h hk
 cases hd:dAt ds k with
 |zero=>
  rw[hd,L1 h k (by lia)] at ha;exact absurd (dh ha).symm e
 |succ j=>
  rw[hd] at ha;obtain⟨v,hv,hlt,hdv⟩:=Rg h k j _ (by lia) ha;exact⟨v,hv,hlt,by lia⟩
theorem uL {ds:Za4}(h:Dok ds){k:Nat}(hk:k<ds.length):-1<=eld ds k:=by
 by_cases e:eld ds k=-1
 ·lia
 ·obtain⟨v,hv,_⟩:=Yg h hk e
  lia
theorem E2 (ds:Za4):(Ee ds).length=ds.length:=by unfold Ee;rw[c5,dn]
theorem Vr {ds:Za4}{k:Nat}(hk:k<ds.length):(Ee ds)[k]?=some (eld ds k):=by
 unfold Ee;rw[df,ff hk];rfl
def Bq (ds:Za4)(k:Nat):Za5:=dy (opn ds k-dAt ds k) false++[true]
def P6 (ds:Za4)(k:Nat):Za5:=((di k).map (Bq ds)).flatten
def J6 (ds:Za4):Za5:=P6 ds ds.length++dy (opn ds ds.length) false
theorem Jo (ds:Za4)(k:Nat):P6 ds (k+1)=P6 ds k++Bq ds k:=by
 unfold P6;rw[ik,dj,ke];simp
theorem Wr {ds:Za4}(h:Dok ds):∀k,k<=ds.length->(P6 ds k).length+opn ds k=2*k
 |0,_=>rfl
 |k+1,hk=>by
  have:=Wr h k (by lia);have:=h k (by lia);rw[Jo,c8];show(P6 ds k).length+(dy (opn ds k-dAt ds k) false++[true]).length+(dAt ds k+1)=2*(k+1);rw[c8,ko];simp only[f9,jm];lia
theorem Gq {ds:Za4}(h:Dok ds):(J6 ds).length=2*ds.length:=by
 unfold J6;rw[c8,ko];exact Wr h _ (c9 _)
def Vs:Nat->Za5->Prop
 |h,[]=>h=0
 |h,false::s=>0<h/\Vs (h-1) s
 |h,true::s=>Vs (h+1) s
theorem P3:∀(m h:Nat) (s:Za5),Vs h s->Vs (h+m) (dy m false++s)
 |0,h,s,v=>v
 |m+1,h,s,v=>by
  rw[gw];refine⟨by lia,?_⟩;show Vs (h+(m+1)-1) (dy m false++s);rw[show h+(m+1)-1=h+m by lia];exact P3 m h s v
theorem fF {ds:Za4}(h:Dok ds):∀(m k:Nat),k+m=ds.length->Vs (opn ds k) (((di m).map λi=>Bq ds (k+i)).flatten++dy (opn ds ds.length) false)
 |0,k,e=>by
  have e:k=ds.length:=by lia
  subst e;have:=P3 (opn ds ds.length) 0 [] rfl;rw[mw,gd] at this;exact this
 |m+1,k,e=>by
  have ih:=fF h m (k+1) (by lia);have hd:=h k (by lia);rw[oh,fm,gu,ip];have e1:((λi=>Bq ds (k+i)) ∘ DY)=λi=>Bq ds (k+1+i):=by
   funext i
   show Bq ds (k+(i+1))=Bq ds (k+1+i);rw[show k+(i+1)=k+1+i by lia]
  rw[e1];show Vs (opn ds k) ((dy (opn ds k-dAt ds (k+0)) false++[true]++_)++_);rw[tu,du,du];have:=P3 (opn ds k-dAt ds k) (dAt ds k) (true::(((di m).map λi=>Bq ds (k+1+i)).flatten++dy (opn ds ds.length) false)) ih;rw[show dAt ds k+(opn ds k-dAt ds k)=opn ds k by lia] at this;exact this
theorem lB {ds:Za4}(h:Dok ds):Vs 0 (J6 ds):=by
 have:=fF h ds.length 0 (by lia);unfold J6 P6;have e:(λi=>Bq ds (0+i))=Bq ds:=by funext i;rw[mw]
 rw[e] at this;exact this
theorem O9:∀(m n:Nat) (s t:Za5),dy m false++true::s=dy n false++true::t->m=n/\s=t
 |0,0,s,t,e=>⟨rfl,by simpa using e⟩
 |0,n+1,s,t,e=>by rw[gw] at e;cases e
 |m+1,0,s,t,e=>by rw[gw] at e;cases e
 |m+1,n+1,s,t,e=>by
  rw[gw,gw] at e;obtain⟨a,b⟩:=O9 m n s t (AV e).2;exact⟨by lia,b⟩
theorem W2 {ds es:Za4}(h1:Dok ds)(h2:Dok es)(hl:ds.length=es.length):∀(m k:Nat),k+m=ds.length->opn ds k=opn es k ->
  ((di m).map λi=>Bq ds (k+i)).flatten++dy (opn ds ds.length) false=((di m).map λi=>Bq es (k+i)).flatten++dy (opn es es.length) false->∀i,k<=i->i<ds.length->dAt ds i=dAt es i
 |0,k,e,_,_=>λi a b=>by lia
 |m+1,k,e,ho,hr=>λi a b=>by
  have f:∀xs:Za4,((di (m+1)).map λi=>Bq xs (k+i)).flatten=dy (opn xs k-dAt xs k) false++true::((di m).map λi=>Bq xs (k+1+i)).flatten:=λxs=>by
   rw[oh,fm,gu,ip];have e1:((λi=>Bq xs (k+i)) ∘ DY)=λi=>Bq xs (k+1+i):=by
    funext i
    show Bq xs (k+(i+1))=Bq xs (k+1+i);rw[show k+(i+1)=k+1+i by lia]
   rw[e1];show(dy (opn xs k-dAt xs (k+0)) false++[true])++_=_;rw[tu,du];rfl
  rw[f,f,du,du,kj,kj] at hr;obtain⟨e1,e2⟩:=O9 _ _ _ _ hr;have d1:=h1 k (by lia);have d2:=h2 k (by lia);have hk:dAt ds k=dAt es k:=by lia
  by_cases hi:i=k
  ·rw[hi];exact hk
  ·exact W2 h1 h2 hl m (k+1) (by lia) (by show dAt ds k+1=dAt es k+1;lia) e2 i (by lia) b
theorem mQ {ds es:Za4}(h1:Dok ds)(h2:Dok es)(e:J6 ds=J6 es):ds=es:=by
 have hl:ds.length=es.length:=by
  have a:=Gq h1;have b:=Gq h2;rw[e] at a;lia
 have z:∀xs:Za4,J6 xs=((di xs.length).map λi=>Bq xs (0+i)).flatten++dy (opn xs xs.length) false:=λxs=>by
  unfold J6 P6;have e:(λi=>Bq xs (0+i))=Bq xs:=by funext i;rw[mw]
  rw[e]
 have key:=W2 h1 h2 hl ds.length 0 (by lia) rfl (by rw[<-z,e,z,hl]);refine CK hl λk a b=>?_;have:=key k (by lia) a;unfold dAt at this
 simpa [ju,a,b] using this
end TW
end
section
namespace L2
open PySem PySem.Spec PyProof.Rows
variable {C CB CC CO CP CS Pt d dx i1 i2 it l1 l2:de} {A:ic} {op:vv} {X:Cx} {D:Hk} {env:Env} {iter tg:gv} {fd:i0} {base h h':iq} {H H' H0 H1 H2:Hp} {J:It} {pins:Za1} {as fp:List de} {ms:Za5} {es:List gv} {ks ws:List Int} {cs ns:Za4} {N kz nm ps:Za6} {xs ys:List V} {us vs:Za3} {M:wn} {n t':Nat} {oT:Obj} {an od:Option de} {pos:Pos} {B:Prop} {scope:l9} {pl:Sem Bool} {s s2:dv} {sp:Sp} {qual z:Str} {te:TE} {wi:TI} {y:V} {cdv ct doc oc pm:dr} {w:gl}
def Aa1 (B:iq)(l:List Env)(e:de)(cls a0:dr)(od:Option de)(h:iq):Prop:=Heap.FlyingW B l e cls a0 h/\∃o,h.get? e=some o/\o.dict=od
structure yY (outer:List Env) (H':Hp) (h h':iq) (e C:de) (od:Option de):Prop where
 new:h.get? e=none
 unt:H' e=none
 fly:∃a0 B,Aa1 B outer e (.ref C) a0 od h'/\∀b o,h'.get? b=some o->B.get? b=none->b=e\/b∈frs outer\/(h.get? b=none/\H' b=none)
def CXE (P:fi)(w:gl):CXT:=λouter H s E ex s'=>∃e C od H',ex=.ref e/\s'.os=s.os/\uj s'.gens/\Un (frs outer) [] H H' s.heap s'.heap/\HOk P w H' s'.heap/\(∀b∈frs outer,H' b=none)/\yY outer H' s.heap s'.heap e C od/\E (.ref C) od H'
theorem uG {P:fi}:Hs (CXE P w) X E0:=λ_ _ _ _ _ _ _ h=>by
 obtain⟨_,_,_,_,_,_,_,_,_,_,_,z⟩:=h;exact z.elim
structure Abb (P:fi) (w:gl) (K:c7) (mg:Za2) (base:iq) (name:Str) (C:de) (k:Nat) (ps:Za6) (sp:Sp):Prop where
 ex:∃(f:de) (fd:i0),Ax P w K mg base (CXE P w) k f fd ps sp/\Eh K fd ps []/\Mk K C f/\mg name=some (.ref C)
theorem Oc (K:c7)(h:autoParam (X.K=K) QD):IxR X (qJ K):=by
 subst h;exact Du
theorem Gx (K:c7)(h:autoParam (X.K=K) QD):IxR X (vE K):=by
 subst h;exact Bu
open PySem.W Builtin.Getset_descriptor
theorem U3 {Y:St}(I:Inv X pins Y H s):sysModules<s.heap.objs.size:=
 tj (by decide) (show mainGlobals<s.heap.objs.size from(I.mod.glob.keeps I.bk).lt)
def tL:TE:=λ_ H Q=>∀p,H p=none->Q (.ref p) (upd H p (.dK []))
theorem nM {P:fi}(h:iq)(hb:sysModules<h.objs.size):Cc P w H (h.push { cls:=.type "dict",data:=.dict #[] }) h.objs.size (.dK []):=
 ⟨fq _,beq_eq_false_iff_ne.mpr (qq (fh hb)),[],.nil,u0 h⟩
theorem Uy:PE X (.Dict [] [] pos) tL:=λpins s Y H Q I h=>
 wpAny_Dict_empty ⟨.ref s.heap.objs.size,_,I.laid (a:=s.heap.objs.size) (o:=.dK []) (t':=s.toks) (λ_ _ q=>dg _ q) (c9 _) (nM s.heap (U3 I)),rfl,h _ (I.hok.fresh (c9 _))⟩
theorem wS {Y:St}{Q:VK}(h:∀p,H p=none->Q (.ref p) (upd H p (.dK []))):tL Y H Q:=h
section
variable {X:Cx}
def rP:V->List V->Hp->VK->Prop:=λx vs H Q=>∃(l:de) (xs:List V) (y:V),x=.ref l/\vs=[y]/\H l=some (.lst xs)/\xs.all Em=true/\Em y=true/\Q (.int (xs.countP (λz=>eqV z y):Nat)) H
theorem Px {y:V}:∀{xs:List V} {us:Za3},Au xs us->xs.all Em=true->us.countP (eqU y)=xs.countP λz=>eqV z y
 |_,_,.nil,_=>rfl
 |x::xs,u::us,.cons r t,f=>by
  rw[uz,kl] at f;rw[wo,wo,Px t f.2,lN r f.1]
theorem iM:MtM X "list.count" rP:=by
 intro pins s Y H x vs v us Q I rx rv h;obtain⟨l,xs,y,rfl,rfl,hH,hf,hy,q⟩:=h;cases rx;obtain⟨u,rfl,ru⟩:=E6 rv;obtain⟨z,its,n,r,hl,e⟩:=I.lstM hH;refine ot F.slot_list_count ⟨_,e,rfl⟩ F.entry_list_count (F.args_list_count_2 _ _) (SeqAt.list_countAt l its.toArray n none #[] u (eqU y)) ⟨e,λw hw=>Xk ru hy r hf w (by simpa using hw),?_⟩;rw[show its.toArray.toList=its from rfl,Px r hf];exact⟨.int _,H,I.tok _,⟨_,rfl⟩,q⟩
end
section
variable {X:Cx} {e a b:gv} {te ta tb:TE} {pos:Pos}
theorem pK (ha:PEi X e te):PI X tg e (dC X.K te):=C2 ha.h
end
theorem M1 {xs:List V}{us:Za3}(r:Au xs us):∀is:Za4,Au (is.filterMap λi=>xs[i]?) (is.filterMap λi=>us[i]?)
 |[]=>.nil
 |i::is=>by
  have ih:=M1 r is;have l:=r.length
  by_cases h:i<us.length
  ·obtain⟨u,eu,ru⟩:=r.get (c6 (show i<xs.length by lia))
   rw[jg,jg,c6 (show i<xs.length by lia),eu];exact .cons ru ih
  ·rw[jg,jg,iy (show us.length<=i by lia),iy (show xs.length<=i by lia)]
   exact ih
theorem Vf:entryFor table "zip.__getattribute__"=some nv.«object.__getattribute__» :=
 entryFor_alias (id':="object.__getattribute__") (by kernel_rfl) (by first|rfl|decide +kernel) (by decide +kernel) (by kernel_rfl)
theorem X6:typeLookup (.type "zip") "keys"=pure none:=by rw[ul,p9];kernel_rfl
theorem Wz:typeLookup (.type "zip") "__getattr__"=pure none:=by rw[ul,p9];kernel_rfl
abbrev vK (vs:Array dr):Obj:={ cls:=.type "zip",dict:=none,data:=.fields vs,slots:=#[] }
theorem Za (a:de)(vs:Array dr)(u:Tok):Meets (nv.«object.__getattribute__» ⟨[.ref a,.str "keys" u],[]⟩) (λA R s=>s.heap.get? a=some (vK vs)/\raisesAttr (.ref a) "keys" A R s):=
 EM λprog w A R s hs=>by
  obtain⟨hp,g,d,tk,os⟩:=s;obtain⟨hx,hs⟩:=hs;have hT:(⟨hp,g,d,tk,os⟩:dv).TypeIs (.ref a) "zip":=⟨_,hx,rfl⟩;have f4:=X6
  repeat (any_goals (first|assumption|with_reducible refine EF hx ?_|wp_step))
  exact CQ hs.1 hs.2 (by decide +kernel)
section
variable {prog:fi} {w:gl} {A:ic} {E:Za0} {s:dv}
theorem qF {a:de}{vs:Array dr}{Q:Za7->dv->Prop}(hx:s.heap.get? a=some (vK vs))(hA:A.handled=none)(q:∀h' tk,(∀b o,s.heap.get? b=some o->h'.get? b=some o)->Q none { s with heap:=h',toks:=tk }) :
  wpAny (model prog w) A (getAttr? (.ref a) "keys") Q E s:=by
 obtain⟨hp,g,d,tk,os⟩:=s;have hT:∀tk',(⟨hp,g,d,tk',os⟩:dv).TypeIs (.ref a) "zip":=λ_=>⟨_,hx,rfl⟩;have f1:=DR;have f3:=o8.lookup;have f4:=o8.bind (.ref a);have f5:=Wz;unfold getAttr? getAttrBy? getAttrBy
 repeat (any_goals (first|assumption|exact hT _|((with_reducible show wpAny _ _ (call (DF "zip.__getattribute__") _ _) _ _ _);refine ot o8 (hT _) Vf (PySem.F.args_zip_getattribute_2 _ _) (Za a vs _) ⟨hx,hA,λh' tk' e hx'=>?_⟩)|wp_step))
 obtain⟨t',u',he⟩:=hx'.there;show wpAny _ _ (getattributeRaised _ _ _ _ _ _ _) _ _ _;unfold getattributeRaised
 repeat (any_goals (first|assumption|wp_step))
 exact q _ _ hx'.keeps
end
abbrev L6 (h:iq)(z TI TO T:de)(c:Bool):Prop:=h.get? z=some (vK #[rawInt T,.bool c,.bool false,.ref TI,.ref TO])
section
variable {prog:fi} {w:gl} {A:ic} {E:Za0} {s:dv}
theorem lV {a:de}{Q:Option Obj->dv->Prop}(h:Q (s.heap.get? a) s):wpAny (model prog w) A (loadIfAlive a) Q E s:=λΓ p hΓ=>by
 show Sem.wp _ _ (.loadIfAlive a _) _ _ _ _;rw[Sem.wp_loadIfAlive];exact h
theorem Sy {z TI TO T:de}{c:Bool}{Q:Bool->dv->Prop}(hz:L6 s.heap z TI TO T c)(hT:s.heap.get? T=some oT)(q:∀h',L6 h' z TI TO T true->su z s.heap h'->Q false { s with heap:=h' }) :
  wpAny (model prog w) A (j3 (.ref z)) Q E s:=by
 unfold j3;refine wpAny_bind (m8 hz rfl (x:=rawInt T) rfl ?_);show wpAny _ _ (loadIfAlive (DA (T:Int)) >>= _) _ _ _;refine wpAny_bind (lV ?_);rw[fz,hT];show wpAny _ _ (field (.ref z) 1 >>= _) _ _ _;refine wpAny_bind (m8 hz rfl (x:=.bool c) rfl ?_)
 cases c with
 |true=>
  exact d4 (q s.heap hz (GU _ _))
 |false=>
  refine wpAny_bind (wpAny_setField_rec hz (by simp) λQX QZ QQ=>?_);exact d4 (q QX QZ QQ)
theorem gA {z TI TO T:de}{k1 k2:Nat}{xs ys:Array dr}{x y:dr}{c:Bool}{Q:Za0}(D:xq z TI TO i1 i2 l1 l2)
  (hz:L6 s.heap z TI TO T c)(hT:s.heap.get? T=some oT)(hTI:qe s.heap TI (.ref i1) (.ref i2))(h1:s.heap.IsListIter i1 l1 k1)(h2:s.heap.IsListIter i2 l2 k2)(hl1:s.heap.IsList l1 xs)(hl2:s.heap.IsList l2 ys)(hx:xs[k1]?=some x)(hy:ys[k2]?=some y)
  (hQ:∀h',L6 h' z TI TO T true->h'.IsListIter i1 l1 (k1+1)->h'.IsListIter i2 l2 (k2+1)->qe h' s.heap.objs.size x y->h'.objs.size=s.heap.objs.size+1->(∀b o,b≠z->b≠i1->b≠i2->s.heap.get? b=some o->h'.get? b=some o)->Q (.ref s.heap.objs.size) { s with heap:=h' }) :
  wpAny (model prog w) A (nv.«zip.__next__» ⟨[.ref z],[]⟩) (λfin s'=>∃v,fin=.done (.ret v)/\Q v s') E s:=by
 show wpAny _ _ (field (.ref z) 2 >>= _) _ _ _;refine wpAny_bind (m8 hz rfl (x:=.bool false) rfl ?_);show wpAny _ _ (field (.ref z) 3 >>= _) _ _ _;refine wpAny_bind (m8 hz rfl (x:=.ref TI) rfl ?_);refine wpAny_bind (vi hTI rfl ?_);show wpAny _ _ (j3 (.ref z) >>= _) _ _ _;refine wpAny_bind (Sy hz hT λQX QZ QQ=>?_);rw[if_neg (by decide)];refine wpAny_bind ?_;rw[<-qp];simp only[xi,DK];refine wpAny_bind (wpAny_bind (wpAny_holding ?_));show wpAny _ _ (om (.ref i1) >>= _) _ _ _;refine wpAny_bind (AZ (h1.extBut QQ.extBut D.i1z) (hl1.extBut QQ.extBut D.l1z) hx λJJ JK QV=>d4 ?_);refine d4 ?_;refine wpAny_bind (wpAny_bind (wpAny_holding ?_));show wpAny _ _ (om (.ref i2) >>= _) _ _ _;refine wpAny_bind (AZ ((h2.extBut QQ.extBut D.i2z).extBut QV.extBut D.i12.symm) ((hl2.extBut QQ.extBut D.l2z).extBut QV.extBut D.l2i1) hy λJA JL JB=>d4 ?_);refine d4 (d4 ?_);have hsz:JA.objs.size=s.heap.objs.size:=by rw[JB.1,QV.1,QQ.1]
 have kp:∀b o,b≠z->b≠i1->b≠i2->s.heap.get? b=some o->JA.get? b=some o:=λb o b1 b2 b3 e=>JB.extBut _ _ b3 (QV.extBut _ _ b2 (QQ.extBut _ _ b1 e));have JM:L6 JA z TI TO T true:=JB.extBut _ _ D.i2z.symm (QV.extBut _ _ D.i1z.symm QZ);show wpAny _ _ (newTuple [x,y] >>= _) _ _ _;refine wpAny_bind (zf (d4 ⟨_,rfl,?_⟩));have hp:JA.objs.size=s.heap.objs.size:=hsz;rw[hp];refine hQ _ (dg _ JM) ((JK.extBut JB.extBut D.i12).at λo e=>dg _ e) (JL.at λo e=>dg _ e) ?_ (by rw[ol,hp]) λb o b1 b2 b3 e=>dg _ (kp b o b1 b2 b3 e);rw[<-hp];exact fv _ rfl
theorem jG {z TI TO T:de}{k1 k2:Nat}{xs ys:Array dr}{x y:dr}{c:Bool}{Q:Za7->dv->Prop}(D:xq z TI TO i1 i2 l1 l2)
  (hz:L6 s.heap z TI TO T c)(hT:s.heap.get? T=some oT)(hTI:qe s.heap TI (.ref i1) (.ref i2))(h1:s.heap.IsListIter i1 l1 k1)(h2:s.heap.IsListIter i2 l2 k2)(hl1:s.heap.IsList l1 xs)(hl2:s.heap.IsList l2 ys)(hx:xs[k1]?=some x)(hy:ys[k2]?=some y)
  (hQ:∀h',L6 h' z TI TO T true->h'.IsListIter i1 l1 (k1+1)->h'.IsListIter i2 l2 (k2+1)->qe h' s.heap.objs.size x y->h'.objs.size=s.heap.objs.size+1->(∀b o,b≠z->b≠i1->b≠i2->s.heap.get? b=some o->h'.get? b=some o)->Q (some (.ref s.heap.objs.size)) { s with heap:=h' }) :
  wpAny (model prog w) A (pyNext (.ref z)) Q E s:=by
 have hTy:s.TypeIs (.ref z) "zip":=⟨_,hz,rfl⟩;unfold pyNext;exact wpAny_bind (sw (o6 (name:=ou "__next__") hTy n9
  (qc n9 hTy yg
   (gA D hz hT hTI h1 h2 hl1 hl2 hx hy λh' a1 a2 a3 a4 a5 a6=>d4 (hQ h' a1 a2 a3 a4 a5 a6)) (x5 _))))
theorem kU {z TI TO T:de}{k1:Nat}{xs:Array dr}{c:Bool}{Q:Za7->dv->Prop}(hh:A.handled=none)(D:xq z TI TO i1 i2 l1 l2)
  (hz:L6 s.heap z TI TO T c)(hT:s.heap.get? T=some oT)(hTI:qe s.heap TI (.ref i1) (.ref i2))(h1:s.heap.IsListIter i1 l1 k1)(hl1:s.heap.IsList l1 xs)(hx:xs[k1]?=none)
  (hQ:∀h',(∀b o,b≠z->b≠i1->b≠i2->s.heap.get? b=some o->h'.get? b=some o)->Q none { s with heap:=h' }) :
  wpAny (model prog w) A (pyNext (.ref z)) Q E s:=by
 have hTy:s.TypeIs (.ref z) "zip":=⟨_,hz,rfl⟩;unfold pyNext;refine wpAny_bind (sw (o6 (name:=ou "__next__") hTy n9
  (qc n9 hTy yg ?_ (x5 _))))
 show wpAny _ _ (field (.ref z) 2 >>= _) _ _ _;refine wpAny_bind (m8 hz rfl (x:=.bool false) rfl ?_);show wpAny _ _ (field (.ref z) 3 >>= _) _ _ _;refine wpAny_bind (m8 hz rfl (x:=.ref TI) rfl ?_);refine wpAny_bind (vi hTI rfl ?_);show wpAny _ _ (j3 (.ref z) >>= _) _ _ _;refine wpAny_bind (Sy hz hT λQX QZ QQ=>?_);rw[if_neg (by decide)];refine wpAny_bind ?_;rw[<-qp];simp only[xi,DK];refine wpAny_bind (wpAny_bind (wpAny_holding ?_));show wpAny _ _ (om (.ref i1) >>= _) _ _ _;refine wpAny_bind (wpAny_nextOf_list_end hh (h1.extBut QQ.extBut D.i1z) (hl1.extBut QQ.extBut D.l1z) hx λJJ e QV he=>?_);obtain⟨oe,hoe,hce⟩:=he;show wpAny _ _ (isInstance (.ref e) (.type "StopIteration") >>= _) _ _ _;refine wpAny_bind (wpAny_isInstance (T:="StopIteration") (b:=true) ⟨oe,hoe,hce⟩ isSubtype_stop ?_);exact d4 (hQ _ λb o b1 b2 b3 e=>QV _ _ b2 (QQ.extBut _ _ b1 e))
end
section
variable {prog:fi} {w:gl} {A:ic} {E:Za0} {R:uh->dv->Prop}
theorem Bd:plainId "dict.update.loop"=true:=by decide +kernel
theorem C9:entryFor table "dict.update.loop"=some nv.«dict.update.loop»:=entryFor_of_tree (by kernel_rfl)
theorem Op {T:de}{x y:dr}{Q:Za3->dv->Prop}(hT:qe s.heap T x y)(h:Q [x,y] s):wpAny (model prog w) A (m7 (.ref T)) Q E s:=by
 have ty:s.TypeIs (.ref T) "tuple":=⟨_,hT,rfl⟩;unfold m7;refine wpAny_bind (pe ty ?_);rw[if_pos (by decide)];exact wpAny_bind (vi hT rfl (d4 h))
structure DzA (d z TI TO i1 i2 l1 l2:de):Prop where
 za:xq z TI TO i1 i2 l1 l2
 dz:d≠z
 dI:d≠TI
 dO:d≠TO
 d1:d≠i1
 d2:d≠i2
 dl:d≠l1
 dm:d≠l2
end
theorem Mf:∀{kvs:List (Key×V)} {vs:List (Key×dr)},KV kvs vs->kvs.length=vs.length
 |_,_,.nil=>rfl
 |_,_,.cons _ t=>congrArg (·+1) (Mf t)
theorem P4:∀{xs:List V} {us:Za3},xs.length=us.length->(∀(i:Nat) x u,xs[i]?=some x->us[i]?=some u->A8 x u)->Au xs us
 |[],[],_,_=>.nil
 |x::xs,u::us,hl,h=>.cons (h 0 x u rfl rfl) (P4 (rb hl) λi y v e1 e2=>h (i+1) y v e1 e2)
structure Xj (K:c7) (x qual:Str) (st:im) (f:de) (fd:i0):Prop where
 ex:∃(oc:dr) (od:Option de) (T:de) (kV doc pm:dr) (an:Option de) (cdv ct:dr) (osl:Array (Za7)) (o:Obj) (v:dr) (n:Nat),
  fd=ir x qual (Bs st) (Bi st) (Ad st) (.ref T) kV doc pm an cdv ct/\K.lookup f=some ⟨oc,od,.func fd,osl⟩/\kf K cdv qual=true/\K.lookup T=some o/\o.data=.seq #[v] n
section
variable {P:fi} {w:gl} {K:c7} {mg:Za2} {base:iq}
theorem Xj.okE {x:Str}{st:im}{f:de}{k:Nat}(F:Xj K x qual st f fd)(S:Ak N ps (Ad st))(len:∀vs H Q E,sp vs H Q E->vs.length=ps.length)
  (hbody:∀(cdv:dr) (A:ic) (outer:List Env) (s:dv) (H:Hp) (vs:List V) (Q:VK) (E:XK),Ck k (A.deeper (envOfC qual (Ad st) s.heap.objs.size f cdv))->sp vs H Q E ->
   ∃t,PSs (Xc (CXE P w) P w K mg base N qual (Ad st) f cdv A outer s H E) (Bi st) t/\t { nx:=λ_ H'=>Q .non H',rt:=Q } (Kg N vs) H):Ax P w K mg base (CXE P w) (k+1) f fd ps sp:=by
 obtain⟨oc,od,T,kV,doc,pm,an,cdv,ct,osl,o,v,n,rfl,lk,hcd,_⟩:=F.ex;exact oH lk hcd S len λA outer s H vs Q E hr hsp=>hbody cdv A outer s H vs Q E hr hsp
theorem Xj.binds {x:Str}{st:im}{f:de}(F:Xj K x qual st f fd)
  (h:∀(T:de) (kV doc pm:dr) (an:Option de) (cdv ct:dr) (us:Za3),us.length=ps.length->∃k,bindArgs (ir x qual (Bs st) (Bi st) (Ad st) (.ref T) kV doc pm an cdv ct) ⟨us,[]⟩=seqItems? (.ref T) >>= k/\∀v,k (some #[v])=pure (ps.zip us)):Eh K fd ps []:=by
 obtain⟨oc,od,T,kV,doc,pm,an,cdv,ct,osl,o,v,n,rfl,lk,hcd,hT,hd⟩:=F.ex;intro s us KX hl;rw[gd] at hl ⊢;obtain⟨k,h1,h2⟩:=h T kV doc pm an cdv ct us hl;exact zc rfl (KX _ _ hT) hd h1 (h2 v)
theorem sH {x:Str}{st:im}{f T:de}{osl:Array (Za7)}{kV v:dr}{o:Obj}(l:K.lookup f=some ⟨oc,od,.func (ir x qual (Bs st) (Bi st) (Ad st) (.ref T) kV doc pm an cdv ct),osl⟩)
  (c:kf K cdv qual=true)(hT:K.lookup T=some o)(hd:o.data=.seq #[v] n):Xj K x qual st f (ir x qual (Bs st) (Bi st) (Ad st) (.ref T) kV doc pm an cdv ct):=⟨⟨oc,od,T,kV,doc,pm,an,cdv,ct,osl,o,v,n,rfl,l,c,hT,hd⟩⟩
end
section
variable {Y:St} {H:Hp}
theorem uK {to ti:TE}{t:rY}{v:V}{R:St->Hp->Prop}(h:to Y H λo H1=>ti Y H1 λi H2=>t o i v H2 λH3=>R Y H3):yG to ti t v Y H R:=h
theorem qB {j:Nat}(h:j<n):ixN n (j:Int)=some j:=by
 unfold ixN;rw[if_pos (by lia),if_pos (by lia)];simp
theorem nZ {p:de}{j:Nat}{i:Int}{v:V}{R:Hp->Prop}(h:H p=some (.lst xs))(hi:i=j)(hj:j<xs.length)(q:R (upd H p (.lst (xs.set j v)))):pF (.ref p) (.int i) v H R:=
 ⟨p,xs,i,j,rfl,rfl,h,by rw[hi];exact qB hj,q⟩
end
section
variable {κ:Type} [DecidableEq κ]
def B9 (kvs:List (κ×V))(k:κ):Option V:=(kvs.find? λkv=>decide (kv.1=k)).map (·.2)
def Ey (kvs:List (κ×V))(k:κ)(v:V):List (κ×V):=
 if(kvs.any λkv=>decide (kv.1=k))=true then kvs.map (λkv=>if kv.1=k then(kv.1,v) else kv) else kvs++[(k,v)]
theorem C4 {p:κ×V}{r:List (κ×V)}{k:κ}(e:p.1=k):B9 (p::r) k=some p.2:=by simp[B9,l7,e]
theorem C5 {p:κ×V}{r:List (κ×V)}{k:κ}(e:¬ p.1=k):B9 (p::r) k=B9 r k:=by simp[B9,l7,e]
theorem Ln (k:κ):∀kvs:List (κ×V),(kvs.any λkv=>decide (kv.1=k))=(B9 kvs k).isSome
 |[]=>rfl
 |p::r=>by
  rw[yu]
  by_cases e:p.1=k
  ·simp only[C4 e,decide_eq_true e,Bool.true_or,Option.isSome_some]
  ·rw[C5 e,decide_eq_false e,EB];exact Ln k r
theorem W0 (k j:κ)(y:V):∀kvs:List (κ×V),B9 (kvs.map λkv=>if kv.1=k then(kv.1,y) else kv) j=(B9 kvs j).map λx=>if j=k then y else x
 |[]=>rfl
 |p::r=>by
  have ih:=W0 k j y r;rw[fm]
  by_cases h:p.1=k
  ·rw[if_pos h]
   by_cases e:p.1=j
   ·rw[C4 (p:=(p.1,y)) e,C4 e,m9,if_pos (e.symm.trans h)]
   ·rw[C5 (p:=(p.1,y)) e,C5 e,ih]
  ·rw[if_neg h]
   by_cases e:p.1=j
   ·rw[C4 (p:=p) e,C4 e,m9,if_neg (λz=>h (e.trans z))]
   ·rw[C5 (p:=p) e,C5 e,ih]
theorem T3 (k j:κ)(y:V):∀kvs:List (κ×V),B9 kvs k=none->B9 (kvs++[(k,y)]) j=if j=k then some y else B9 kvs j
 |[],_=>by
  by_cases e:k=j
  ·rw[if_pos e.symm];exact C4 (p:=(k,y)) e
  ·rw[if_neg (λz=>e z.symm)];exact C5 (p:=(k,y)) e
 |p::r,hn=>by
  rw[kj];have hk:¬ p.1=k:=λz=>by rw[C4 z] at hn;cases hn
  rw[C5 hk] at hn;have ih:=T3 k j y r hn
  by_cases e:p.1=j
  ·rw[C4 e,C4 e,if_neg (λz=>hk (e.trans z))]
  ·rw[C5 e,C5 e,ih]
theorem Lg (kvs:List (κ×V))(k j:κ)(y:V):B9 (Ey kvs k y) j=if j=k then some y else B9 kvs j:=by
 unfold Ey
 by_cases a:(kvs.any λkv=>decide (kv.1=k))=true
 ·rw[if_pos a,W0]
  rw[Ln] at a
  by_cases e:j=k
  ·obtain⟨x,hx⟩:=jj.mp a
   rw[if_pos e,e,hx,m9,if_pos rfl]
  ·rw[if_neg e]
   cases B9 kvs j with
   |none=>rfl
   |some x=>rw[m9,if_neg e]
 ·rw[if_neg a]
  refine T3 k j y kvs ?_;rw[Ln] at a
  cases q:B9 kvs k with
  |none=>rfl
  |some x=>rw[q] at a;exact(a rfl).elim
theorem Gb (kvs:List (κ×V))(k:κ)(v:V):(Ey kvs k v).length<=kvs.length+1:=by
 unfold Ey;split
 ·rw[c5];lia
 ·rw[c8,f9,jm];lia
theorem oN {kvs:List (κ×V)}{k:κ}(v:V)(h:B9 kvs k=none):Ey kvs k v=kvs++[(k,v)]:=by
 unfold Ey;rw[Ln,h];exact if_neg (by decide)
theorem Kn.isSome_eq {o:Option V}{u:Za7}(r:Kn o u):o.isSome=u.isSome:=by
 cases o with
 |none=>cases u with
  |none=>rfl
  |some _=>exact(show False from r).elim
 |some _=>cases u with
  |none=>exact(show False from r).elim
  |some _=>rfl
theorem KV.val {kvs:List (κ×V)}{vs:List (κ×dr)}(r:KV kvs vs)(k:κ):Kn (B9 kvs k) (valueAt vs k):=by
 unfold KV at r
 induction r with
 |nil=>exact nw
 | @cons p q ps qs h t ih=>
  obtain⟨h1,h2⟩:=h
  by_cases e:p.1=k
  ·have e':q.1=k:=h1.symm.trans e
   have b:valueAt (q::qs) k=some q.2:=by simp[valueAt,l7,e']
   rw[C4 e,b];exact h2
  ·have e':¬ q.1=k:=λz=>e (h1.trans z)
   have b:valueAt (q::qs) k=valueAt qs k:=by simp[valueAt,l7,e']
   rw[C5 e,b];exact ih
theorem KV.any {kvs:List (κ×V)}{vs:List (κ×dr)}(r:KV kvs vs)(k:κ):(kvs.any λkv=>decide (kv.1=k))=vs.any λkv=>decide (kv.1=k):=by
 unfold KV at r
 induction r with
 |nil=>rfl
 |cons h t ih=>rw[yu,yu,ih,h.1]
theorem KV.repl {kvs:List (κ×V)}{vs:List (κ×dr)}(r:KV kvs vs)(k:κ){u:dr}(ry:A8 y u) :
  KV (kvs.map λkv=>if kv.1=k then(kv.1,y) else kv) (vs.map λkv=>if kv.1=k then(kv.1,u) else kv):=by
 unfold KV at r ⊢
 induction r with
 |nil=>exact .nil
 | @cons p q ps qs h t ih=>
  rw[fm,fm];refine .cons ?_ ih;obtain⟨h1,h2⟩:=h
  by_cases e:p.1=k
  ·rw[if_pos e,if_pos (h1.symm.trans e)];exact⟨h1,ry⟩
  ·rw[if_neg e,if_neg (λz=>e (h1.trans z))];exact⟨h1,h2⟩
theorem KV.put {kvs:List (κ×V)}{vs:List (κ×dr)}(r:KV kvs vs)(k:κ){u:dr}(ry:A8 y u):KV (Ey kvs k y) (stored vs k u):=by
 unfold Ey stored;rw[r.any k]
 by_cases e:(vs.any λkv=>decide (kv.1=k))=true
 ·rw[if_pos e,if_pos e];exact r.repl k ry
 ·rw[if_neg e,if_neg e];exact Paired.snoc r ⟨rfl,ry⟩
theorem KV.length {kvs:List (κ×V)}{vs:List (κ×dr)}(r:KV kvs vs):kvs.length=vs.length:=CY r
end
theorem Wh {P:fi}{k:Key}{u:dr}(r:A8 (kV k) u):(Bb P w).is k u=true:=by
 cases k with
 |inl i=>obtain⟨t,e⟩:=(show ∃t,u=ml i t from r);subst e;exact Ij P w i t
 |inr x=>obtain⟨t,e⟩:=(show ∃t,u=l5 x t from r);subst e;exact No P w x t
section
variable {P:fi} {w:gl} {H:Hp} {h:iq} {a:de}
theorem zL {u:HO}(ok:HOk P w H h)(e:Rd H a u):Cc P w H h a u:=e.ok ok
theorem Aab {kvs:List (Key×V)}(ok:HOk P w H h)(e:Rd H a (.dK kvs)):kvs.length<=sizeLine/\(a==sysModules)=false/\∃vs,KV kvs vs/\h.DictOf (Bb P w) a vs:=
 show Cc P w H h a (.dK kvs) from zL ok e
theorem Xy {kvs:List (Key×V)}(ok:HOk P w H h)(e:H a=some (.dK kvs)):kvs.length<=sizeLine/\(a==sysModules)=false/\∃vs,KV kvs vs/\h.DictOf (Bb P w) a vs:=Aab ok (.inl e)
end
section
variable {X:Cx} {pins:Za1} {Y:St} {H:Hp} {s:dv} {a:de} {y v:V} {u r:dr} {o:Option V} {A:ic} {E:Za0}
theorem rQ {ob:HO}(I:Inv X pins Y H s)(mu:Mut (H a))(hs:su a s.heap h')(he:∃q,h'.get? a=some q)(new:Cc X.prog X.w (upd H a ob) h' a ob) :
  Inv X pins Y (upd H a ob) { s with heap:=h',toks:=t' }:=
 I.write (x:=a) (e:=a) mu (.inl rfl) (λb q hb z=>(hs.2 b hb).trans z) he new
theorem vT {P:fi}{kvs:List (Key×V)}{vs:List (Key×dr)}(z:kvs.length<=sizeLine)(hd:(a==sysModules)=false)(rel:KV kvs vs)(dd:h'.DictOf (Bb P w) a vs) :
  Cc P w H' h' a (.dK kvs):=⟨z,hd,vs,rel,dd⟩
end
def Il (kvs more:List (Key×V)):List (Key×V):=more.foldl (λacc kv=>Ey acc kv.1 kv.2) kvs
theorem KV.merge:∀{more:List (Key×V)} {rs:List (Key×dr)} {kvs:List (Key×V)} {vs:List (Key×dr)},KV more rs->KV kvs vs->KV (Il kvs more) (merged vs rs):=by
 intro more rs kvs vs r;unfold KV at r
 induction r generalizing kvs vs with
 |nil=>intro q;exact q
 | @cons p q ps qs h t ih=>
  intro r0;have e:KV (Ey kvs p.1 p.2) (stored vs q.1 q.2):=by
   have:=r0.put p.1 h.2;rw[<-h.1];exact this
  exact ih e
theorem Kc:∀(more kvs:List (Key×V)),(Il kvs more).length<=kvs.length+more.length
 |[],kvs=>by show kvs.length<=kvs.length+0;lia
 |p::r,kvs=>by
  have h1:=Kc r (Ey kvs p.1 p.2);have h2:=Gb kvs p.1 p.2;show(Il (Ey kvs p.1 p.2) r).length<=_;rw[f9];lia
end L2
end
section
namespace TW
def nx (ns:Za4)(x:Nat):Nat:=ns[x]?.getD 0
def itr (ns:Za4):Nat->Nat->Nat
 |0,x=>x
 |j+1,x=>nx ns (itr ns j x)
structure Ord (ns:Za4):Prop where
 lt:∀x∈ns,x<ns.length
 nd:ns.Nodup
theorem Xr {ns:Za4}{x:Nat}(h:x<ns.length):ns[x]?=some (nx ns x):=by
 unfold nx;rw[c6 h];rfl
theorem Jr (ns:Za4)(a b x:Nat):itr ns (a+b) x=itr ns a (itr ns b x):=by
 induction a with
 |zero=>rw[mw];rfl
 |succ a ih=>rw[Nat.succ_add];show nx ns _=nx ns _;rw[ih]
section
variable {ns:Za4} (o:Ord ns)
include o
theorem Aac {x:Nat}(h:x<ns.length):nx ns x<ns.length:=o.lt _ (e6 (Xr h))
theorem wA {x y:Nat}(hx:x<ns.length)(hy:y<ns.length)(h:nx ns x=nx ns y):x=y:=by
 have e1:=Xr hx;have e2:=Xr hy;rw[h] at e1;rcases oz x y with hl|hl|hl
 ·exact absurd (e6 e1) λ_=>(ie.mp o.nd) x y hx hy hl (by
   rw[c6 hx] at e1;rw[c6 hy] at e2;exact(dh e1).trans (dh e2).symm)
 ·exact hl
 ·exact absurd (e6 e1) λ_=>(ie.mp o.nd) y x hy hx hl (by
   rw[c6 hx] at e1;rw[c6 hy] at e2;exact(dh e2).trans (dh e1).symm)
theorem Ef {x:Nat}(h:x<ns.length):∀j,itr ns j x<ns.length
 |0=>h
 |j+1=>Aac o (Ef h j)
theorem Vt {x y:Nat}(hx:x<ns.length)(hy:y<ns.length):∀j,itr ns j x=itr ns j y->x=y
 |0,h=>h
 |j+1,h=>Vt hx hy j (wA o (Ef o hx j) (Ef o hy j) h)
end
theorem Jp:∀(n:Nat) (l:Za4),l.Nodup->(∀x∈l,x<n)->l.length<=n
 |0,[],_,_=>c9 _
 |0,x::l,_,h=>absurd (h x f7) (t8 _)
 |n+1,l,hn,h=>by
  by_cases hm:n∈l
  ·have h1:=Jp n (l.erase n) (hn.erase n) λx hx=>by
    have h2:=(hn.mem_erase_iff).mp hx;have:=h x h2.2;lia
   rw[List.length_erase_of_mem hm] at h1;lia
  ·have:=Jp n l hn λx hx=>by
    have:=h x hx;have:x≠n:=λe=>hm (e▸hx);lia
   lia
theorem Id {n:Nat}{f:Nat->Nat}(h:∀i j,i<j->j<n->f i≠f j):((di n).map f).Nodup:=by
 rw[GS,ie];intro i j hi hj hij;rw[c5,dn] at hi hj;rw[CH,CH,qu,qu];exact h i j hij hj
def per (ns:Za4)(x:Nat):Nat:=(((di ns.length).find? λj=>itr ns (j+1) x==x).getD 0)+1
section
variable {ns:Za4} (o:Ord ns)
include o
theorem uE {x:Nat}(h:x<ns.length):∃j,j<ns.length/\itr ns (j+1) x=x:=by
 refine wq λhc=>?_;have hne:∀j,j<ns.length->itr ns (j+1) x≠x:=λj hj e=>hc ⟨j,hj,e⟩;have h1:=Jp ns.length ((di (ns.length+1)).map λi=>itr ns i x) (Id λi j hij hj e=>by
  have e1:j=i+((j-i-1)+1):=by lia
  have e2:itr ns i (itr ns ((j-i-1)+1) x)=itr ns i x:=by rw[<-Jr,<-e1];exact e.symm
  exact hne (j-i-1) (by lia) (Vt o (Ef o h _) h i e2)) (λy hy=>by
  obtain⟨i,_,rfl⟩:=iz.mp hy;exact Ef o h i)
 rw[c5,dn] at h1;lia
theorem Ce {x:Nat}(h:x<ns.length):itr ns (per ns x) x=x/\0<per ns x/\per ns x<=ns.length/\∀j,0<j->j<per ns x->itr ns j x≠x:=by
 obtain⟨j,hj,e⟩:=uE o h;unfold per
 cases hf:(di ns.length).find? λj=>itr ns (j+1) x==x with
 |none=>
  have:=AT.mp hf j (io.mpr hj);rw[beq_iff_eq] at this;exact absurd e this
 |some k=>
  obtain⟨h1,i,hi,e1,h2⟩:=List.find?_eq_some_iff_getElem.mp hf;rw[dn] at hi;rw[qu] at e1;subst e1;refine⟨beq_iff_eq.mp h1,Nat.succ_pos _,hi,λj' h0 hl e'=>?_⟩;have hl:j'<i+1:=hl;have:=h2 (j'-1) (by lia);rw[qu,BL h0] at this;simp[e'] at this
theorem Vg {x a b:Nat}(h:x<ns.length)(hab:a<b)(hb:b<per ns x):itr ns a x≠itr ns b x:=λe=>by
 have e1:b=a+(b-a):=by lia
 rw[e1,Jr] at e;exact(Ce o h).2.2.2 (b-a) (by lia) (by lia) (Vt o (Ef o h _) h a e.symm)
theorem wQ {x a b:Nat}(h:x<ns.length)(ha:a<per ns x)(hb:b<per ns x)(e:itr ns a x=itr ns b x):a=b:=by
 rcases oz a b with hl|hl|hl
 ·exact absurd e (Vg o h hl hb)
 ·exact hl
 ·exact absurd e.symm (Vg o h hl ha)
theorem Zq {x j:Nat}(h:x<ns.length)(h0:0<j)(hj:itr ns j x=x)(hm:∀i,0<i->i<j->itr ns i x≠x):per ns x=j:=by
 obtain⟨a,b,c,d⟩:=Ce o h;rcases oz (per ns x) j with hl|hl|hl
 ·exact absurd a (hm _ b hl)
 ·exact hl
 ·exact absurd hj (d j h0 hl)
end
def cyc (ns:Za4)(x:Nat):Za4:=(di (per ns x)).map λi=>itr ns i x
theorem Jw {ns:Za4}{x:Nat}:(cyc ns x).length=per ns x:=by unfold cyc;rw[c5,dn]
theorem Zh {ns:Za4}{x i:Nat}(h:i<per ns x):(cyc ns x)[i]?=some (itr ns i x):=by
 unfold cyc;rw[df,ff h];rfl
theorem Hj {ns:Za4}{x y:Nat}:y∈cyc ns x↔∃i,i<per ns x/\itr ns i x=y:=by
 unfold cyc;rw[iz];exact⟨λ⟨i,hi,e⟩=>⟨i,io.mp hi,e⟩,λ⟨i,hi,e⟩=>⟨i,io.mpr hi,e⟩⟩
def By (ns:Za4):Nat->List (Za4)
 |0=>[]
 |k+1=>if k∈(By ns k).flatten then By ns k else By ns k++[cyc ns k]
section
variable {ns:Za4} (o:Ord ns)
include o
theorem Th {x:Nat}(h:x<ns.length):(cyc ns x).Nodup:=Id λi j hij hj=>Vg o h hij hj
theorem Rn {x:Nat}(h:x<ns.length):x∈cyc ns x:=Hj.mpr ⟨0,(Ce o h).2.1,rfl⟩
theorem wT {x y:Nat}(h:x<ns.length)(hy:y∈cyc ns x):nx ns y∈cyc ns x:=by
 obtain⟨i,hi,rfl⟩:=Hj.mp hy
 by_cases hl:i+1<per ns x
 ·exact Hj.mpr ⟨i+1,hl,rfl⟩
 ·have e:itr ns (i+1) x=x:=by rw[show i+1=per ns x by lia];exact(Ce o h).1
  have:nx ns (itr ns i x)=x:=e;rw[this];exact Rn o h
theorem dR {x y:Nat}(h:x<ns.length)(hy:y∈cyc ns x):∀j,itr ns j y∈cyc ns x
 |0=>hy
 |j+1=>wT o h (dR h hy j)
theorem Yk {x k y:Nat}(hx:x<ns.length)(hk:k<ns.length)(h1:y∈cyc ns x)(h2:y∈cyc ns k):k∈cyc ns x:=by
 obtain⟨i,hi,rfl⟩:=Hj.mp h2;have:=dR o hx h1 (per ns k-i);rw[<-Jr,BL (by lia),(Ce o hk).1] at this;exact this
theorem Gp:∀k,k<=ns.length->(∀R∈By ns k,∃c,c<k/\R=cyc ns c)/\(By ns k).flatten.Nodup/\∀x,x<k->x∈(By ns k).flatten
 |0,_=>⟨(λR hR=>by cases hR),x8,λx hx=>absurd hx (t8 _)⟩
 |k+1,hk=>by
  obtain⟨h1,h2,h3⟩:=Gp k (by lia);unfold By
  by_cases hm:k∈(By ns k).flatten
  ·rw[if_pos hm]
   refine⟨λR hR=>let ⟨c,hc,e⟩:=h1 R hR;⟨c,by lia,e⟩,h2,λx hx=>?_⟩;rcases ly (wf hx) with h|h
   ·exact h3 x h
   ·rw[h];exact hm
  ·rw[if_neg hm]
   refine⟨λR hR=>?_,?_,λx hx=>?_⟩
   ·rcases f8.mp hR with hR|hR
    ·obtain⟨c,hc,e⟩:=h1 R hR
     exact⟨c,by lia,e⟩
    ·exact⟨k,se _,fg.mp hR⟩
   ·rw[ke,md]
    refine⟨h2,by rw[lv];exact Th o (by lia),λy hy z hz e=>?_⟩;subst e;rw[lv] at hz;obtain⟨R,hR,hyR⟩:=jq.mp hy;obtain⟨c,hc,rfl⟩:=h1 R hR;exact hm (jq.mpr ⟨_,hR,Yk o (by lia) (by lia) hyR hz⟩)
   ·rw[ke,f8,lv]
    rcases ly (wf hx) with h|h
    ·exact .inl (h3 x h)
    ·rw[h];exact .inr (Rn o (by lia))
theorem jK {k j:Nat}(hk:k<ns.length)(hm:k∉(By ns k).flatten)(hj:j<per ns k):itr ns j k∉(By ns k).flatten/\itr ns j k∉(di j).map λi=>itr ns i k:=by
 refine⟨λhy=>?_,λhy=>?_⟩
 ·obtain⟨R,hR,hyR⟩:=jq.mp hy
  obtain⟨c,hc,rfl⟩:=(Gp o k (by lia)).1 R hR;exact hm (jq.mpr ⟨_,hR,Yk o (by lia) hk hyR (Hj.mpr ⟨j,hj,rfl⟩)⟩)
 ·obtain⟨i,hi,e⟩:=iz.mp hy
  exact Vg o hk (io.mp hi) hj e
theorem iW {k:Nat}(hk:k<ns.length):itr ns (per ns k) k∈(di (per ns k)).map λi=>itr ns i k:=by
 rw[(Ce o hk).1];exact Rn o hk
end
def Do (st:Nat)(R:Za4):Za4:=(di ((R.length+st-1)/st)).map λk=>R[k*st]?.getD 0
def rot (l:Za4):Za4:=l.drop (l.length-1)++l.take (l.length-1)
def prs (st:Nat)(R:Za4):List (Nat×Nat):=if st<R.length then(Do st R).zip (rot (Do st R)) else[]
def jmp (st:Nat)(rs:List (Za4)):List (Nat×Nat):=rs.flatMap (prs st)
def look (kvs:List (Nat×Nat))(x:Nat):Option Nat:=(kvs.find? λp=>decide (p.1=x)).map (·.2)
theorem gS {kvs:List (Nat×Nat)}{x y:Nat}(hn:(kvs.map (·.1)).Nodup)(h:(x,y)∈kvs):look kvs x=some y:=by
 induction kvs with
 |nil=>cases h
 |cons p r ih=>
  rw[fm,nq] at hn;unfold look;rw[l7];rcases gr.mp h with rfl|h
  ·simp
  ·have:p.1≠x:=λe=>hn.1 (e▸ka (f:=(·.1)) h)
   rw[decide_eq_false this];exact ih hn.2 h
theorem S3 {kvs:List (Nat×Nat)}{x:Nat}(h:x∉kvs.map (·.1)):look kvs x=none:=by
 unfold look;rw[AT.mpr λp hp e=>h (iz.mpr ⟨p,hp,of_decide_eq_true e⟩)];rfl
theorem L4 (l:Za4):(rot l).length=l.length:=by
 unfold rot;rw[c8,gh,eg];lia
theorem xB {l:Za4}{k:Nat}(hk:k<l.length):(rot l)[k]?=l[if k=0 then l.length-1 else k-1]?:=by
 unfold rot
 by_cases h0:k=0
 ·rw[if_pos h0,h0,eh (by rw[gh];lia),il]
  rfl
 ·rw[if_neg h0,dq (by rw[gh];lia),gh,ig,if_pos (by lia)]
  congr 1;lia
theorem G5 (st:Nat)(R:Za4):(Do st R).length=(R.length+st-1)/st:=by unfold Do;rw[c5,dn]
theorem Fz {a st k:Nat}(hs:0<st):k<(a+st-1)/st↔k*st<a:=by
 rw[Nat.lt_iff_add_one_le,zw hs,AD];lia
theorem Gz {st k:Nat}{R:Za4}(hs:0<st)(h:k*st<R.length):(Do st R)[k]?=some R[k*st]:=by
 unfold Do;rw[df,ff ((Fz hs).mpr h),m9,c6 h];rfl
theorem Mo {st x:Nat}{R:Za4}(hs:0<st):x∈Do st R↔∃k,k*st<R.length/\R[k*st]?=some x:=by
 constructor
 ·intro h
  obtain⟨k,hk⟩:=jt h;have hl:=(dk.mp hk).1;rw[G5,Fz hs] at hl;rw[Gz hs hl] at hk;exact⟨k,hl,by rw[c6 hl];exact hk⟩
 ·rintro⟨k,hk,e⟩
  have:=Gz hs hk;rw[<-c6 hk,e] at this;exact e6 this
theorem Nf {st:Nat}{R:Za4}(hs:0<st)(h:R.Nodup):(Do st R).Nodup:=by
 rw[GS,ie];intro i j hi hj hij;have hi':=hi;have hj':=hj;rw[G5,Fz hs] at hi' hj';have e1:=Gz hs hi';have e2:=Gz hs hj';rw[c6 hi] at e1;rw[c6 hj] at e2;rw[dh e1,dh e2];exact(ie.mp h) _ _ hi' hj' (Nat.mul_lt_mul_of_pos_right hij hs)
theorem Ow {st:Nat}{R:Za4}:(prs st R).map (·.1)=if st<R.length then Do st R else[]:=by
 unfold prs;split
 ·rw[List.map_fst_zip (by rw[L4];exact c9 _)]
 ·rfl
theorem T5 {st x:Nat}{R:Za4}(hs:0<st)(h:x∈(prs st R).map (·.1)):x∈R:=by
 rw[Ow] at h;split at h
 ·obtain⟨k,_,e⟩:=(Mo hs).mp h
  exact e6 e
 ·cases h
theorem dH {st x:Nat}(hs:0<st){rs:List (Za4)}(h:x∈(jmp st rs).map (·.1)):x∈rs.flatten:=by
 obtain⟨p,hp,rfl⟩:=iz.mp h;obtain⟨R,hR,hpR⟩:=rm.mp hp;exact jq.mpr ⟨R,hR,T5 hs (ka hpR)⟩
theorem Jn {st:Nat}(hs:0<st):∀{rs:List (Za4)},rs.flatten.Nodup->((jmp st rs).map (·.1)).Nodup
 |[],_=>x8
 |R::rs,h=>by
  rw[ip,md] at h;unfold jmp;rw[BQ,dj,md];refine⟨?_,Jn hs h.2.1,λx hx y hy=>h.2.2 x (T5 hs hx) y (dH hs hy)⟩;rw[Ow];split
  ·exact Nf hs h.1
  ·exact x8
theorem Rk (st:Nat)(rs:List (Za4))(R:Za4):jmp st (rs++[R])=jmp st rs++prs st R:=by
 unfold jmp;rw[List.flatMap_append,BQ,List.flatMap_nil,gd]
def prv (st L i:Nat):Nat:=if i=0 then(L-1)/st*st else i-st
theorem iK {st i:Nat}{rs:List (Za4)}{R:Za4}(hs:0<st)(hf:rs.flatten.Nodup)(hR:R∈rs)(hl:st<R.length)(hi:i<R.length)(hm:i%st=0):look (jmp st rs) R[i]=R[prv st R.length i]?:=by
 have hp:prv st R.length i<R.length:=by
  unfold prv;split
  ·have:=ux (R.length-1) st
   lia
  ·lia
 rw[c6 hp];refine gS (Jn hs hf) (rm.mpr ⟨R,hR,?_⟩);unfold prs;rw[if_pos hl];have hmi:i/st*st=i:=BM (zj hm);have hk:i/st*st<R.length:=by lia
 have e1:=Gz hs hk;have hkl:i/st<(Do st R).length:=by rw[G5,Fz hs];exact hk
 have e2:=xB hkl;have key:(if i/st=0 then(Do st R).length-1 else i/st-1)*st=prv st R.length i:=by
  unfold prv
  by_cases h0:i=0
  ·rw[if_pos h0,if_pos (by rw[h0];exact Nat.zero_div _),G5]
   congr 1;rw[show R.length+st-1=(R.length-1)+st by lia,wg _ hs];rfl
  ·rw[if_neg h0,if_neg λh=>h0 (by rw[<-hmi,h,FI]),GP,hmi,AC]
 have hp2:(if i/st=0 then(Do st R).length-1 else i/st-1)*st<R.length:=by rw[key];exact hp
 rw[Gz hs hp2] at e2;have e3:((Do st R).zip (rot (Do st R)))[i/st]?=some (R[i/st*st],R[(if i/st=0 then(Do st R).length-1 else i/st-1)*st]):=by
  rw[i6];exact⟨e1,e2⟩
 have e4:=e6 e3;simp only[hmi,key] at e4;exact e4
theorem gP {st i:Nat}{rs:List (Za4)}{R:Za4}(hs:0<st)(hf:rs.flatten.Nodup)(hR:R∈rs)(hi:i<R.length)(hm:R.length<=st\/i%st≠0):look (jmp st rs) R[i]=none:=by
 refine S3 λh=>?_;obtain⟨p,hp,e⟩:=iz.mp h;obtain⟨R',hR',hpR⟩:=rm.mp hp;have hk:p.1∈(prs st R').map (·.1):=ka hpR;have hx:=T5 hs hk;rw[e] at hx hk;obtain⟨a,ha⟩:=jt hR;obtain⟨b,hb⟩:=jt hR';have hab:a=b:=by
  obtain⟨hal,ea⟩:=dk.mp ha;obtain⟨hbl,eb⟩:=dk.mp hb;have hd:=ie.mp (zk.mp hf).2;rcases oz a b with hl|hl|hl
  ·have:=hd a b hal hbl hl
   rw[ea,eb] at this;exact absurd rfl (this _ (mv hi) _ hx)
  ·exact hl
  ·have:=hd b a hbl hal hl
   rw[ea,eb] at this;exact absurd rfl (this _ hx _ (mv hi))
 rw[hab,hb] at ha;obtain rfl:=dh ha;rw[Ow] at hk;split at hk
 ·rcases hm with hm|hm
  ·lia
  ·obtain⟨k,hk1,hk2⟩:=(Mo hs).mp hk
   rw[c6 hk1] at hk2;have hn:R'.Nodup:=(zk.mp hf).1 R' hR;have:k*st=i:=by
    rcases oz (k*st) i with hl|hl|hl
    ·exact absurd (dh hk2) ((ie.mp hn) _ _ hk1 hi hl)
    ·exact hl
    ·exact absurd (dh hk2).symm ((ie.mp hn) _ _ hi hk1 hl)
   rw[<-this,wy] at hm;exact hm rfl
 ·cases hk
def pth (ns:Za4)(t p:Nat):Za4:=(di (t+1)).map λi=>itr ns i p
theorem Bm (ns:Za4)(t p:Nat):(pth ns t p).length=t+1:=by unfold pth;rw[c5,dn]
theorem wV {ns:Za4}{t p i:Nat}(h:i<=t):(pth ns t p)[i]?=some (itr ns i p):=by
 unfold pth;rw[df,ff (by lia)];rfl
theorem Xd (ns:Za4)(t p:Nat):pth ns (t+1) p=pth ns t p++[itr ns (t+1) p]:=by
 unfold pth;rw[ik,dj];rfl
structure To (ns:Za4) (J:List (Nat×Nat)) (p t:Nat):Prop where
 free:∀i,i<t->look J (itr ns i p)=none/\itr ns (i+1) p≠p
 stop:(look J (itr ns t p)).isSome=true\/itr ns (t+1) p=p
structure sN (ns:Za4) (p q u:Nat):Prop where
 free:∀i,i<u->itr ns (i+1) q≠p
 stop:itr ns (u+1) q=p
inductive Way (ns:Za4) (J:List (Nat×Nat)) (p:Nat):Bool->Za4->Prop
 |short {t:Nat} (h:To ns J p t) (hn:look J (itr ns t p)=none):Way ns J p false (pth ns t p)
 |long {t q u:Nat} (h:To ns J p t) (hn:look J (itr ns t p)=some q) (hf:sN ns p q u):Way ns J p true (pth ns t p++pth ns u q)
theorem Oh {ns:Za4}(o:Ord ns){c:Nat}(hc:c<ns.length)(a:Nat):itr ns a c=itr ns (a%per ns c) c:=by
 have key:∀q r,itr ns (r+per ns c*q) c=itr ns r c:=λq=>by
  induction q with
  |zero=>intro r;rw[Nat.mul_zero];rfl
  |succ q ih=>intro r;rw[FK,<-lh,Jr,(Ce o hc).1,ih]
 have:=key (a/per ns c) (a%per ns c);rw[Nat.mod_add_div] at this;exact this
theorem uS {ns:Za4}(o:Ord ns){st p:Nat}(hs:0<st)(hp:p<ns.length) :
  (per ns p<=st/\∃t,To ns (jmp st (By ns ns.length)) p t/\look (jmp st (By ns ns.length)) (itr ns t p)=none/\t+1<=st) \/
  (st<per ns p/\∃t q u,To ns (jmp st (By ns ns.length)) p t/\look (jmp st (By ns ns.length)) (itr ns t p)=some q/\q<ns.length/\sN ns p q u/\t+1+(u+1)<=2*st):=by
 obtain⟨h1,h2,h3⟩:=Gp o ns.length (c9 _);obtain⟨R,hR,hpR⟩:=jq.mp (h3 p hp);obtain⟨c,hc,rfl⟩:=h1 R hR;obtain⟨j,hj,rfl⟩:=Hj.mp hpR;obtain⟨p1,p2,p3,p4⟩:=Ce o hc;have inj:∀a b,a<per ns c->b<per ns c->itr ns a c=itr ns b c->a=b:=λa b ha hb e=>wQ o hc ha hb e;have on:∀a,itr ns a (itr ns j c)=itr ns (j+a) c:=λa=>by rw[mz,Jr]
 have lk:∀i,i<per ns c->(per ns c<=st\/i%st≠0)->look (jmp st (By ns ns.length)) (itr ns i c)=none:=λi hi hm=>by
  have hi':i<(cyc ns c).length:=by rw[Jw];exact hi
  have:=gP hs h2 hR hi' (by rw[Jw];exact hm);have e:=Zh hi;rw[c6 hi'] at e;rw[dh e] at this;exact this
 have lm:∀i,i<per ns c->st<per ns c->i%st=0->look (jmp st (By ns ns.length)) (itr ns i c)=some (itr ns (prv st (per ns c) i) c):=λi hi hl hm=>by
  have hi':i<(cyc ns c).length:=by rw[Jw];exact hi
  have:=iK hs h2 hR (by rw[Jw];exact hl) hi' hm;have e:=Zh hi;rw[c6 hi'] at e;rw[dh e,Jw] at this;rw[this];refine Zh ?_;unfold prv;split
  ·have:=ux (per ns c-1) st
   lia
  ·lia
 have hper:per ns (itr ns j c)=per ns c:=Zq o hp p2 (by
   rw[on,mz,mz,Oh o hc,Nat.add_mod_right,r6 hj]) λi h0 hi e=>by
  rw[on,Oh o hc] at e;have h5:=inj _ _ (ph _ p2) hj e
  by_cases hw:j+i<per ns c
  ·rw[r6 hw] at h5;lia
  ·rw[Nat.mod_eq_sub_mod (by lia),r6 (by lia)] at h5;lia
 have back:∀i,0<i->i<per ns c->itr ns i (itr ns j c)≠itr ns j c:=λi h0 hi=>(Ce o hp).2.2.2 i h0 (by rw[hper];exact hi);rw[hper];rcases tm st (per ns c) with hL|hL
 ·refine .inr ⟨hL,?_⟩
  have m0:=ux (per ns c-1) st;have m1:per ns c-1<(per ns c-1)/st*st+st:=by
   have:=DI (per ns c-1) st;have:=ph (per ns c-1) hs;rw[qk];lia
  have hz:∀m,m<per ns c->m<j\/j=0->sN ns (itr ns j c) (itr ns m c) (if j=0 then per ns c-1-m else j-1-m):=λm hm hmj=>by
   have on2:∀a,itr ns a (itr ns m c)=itr ns (m+a) c:=λa=>by rw[mz,Jr]
   refine⟨λi hi e=>?_,?_⟩
   ·rw[on2] at e
    split at hi
    ·rename_i h0
     have:=inj _ _ (by lia) hj e;lia
    ·have:=inj _ _ (by lia) hj e
     lia
   ·rw[on2]
    split
    ·rename_i h0
     rw[show m+(per ns c-1-m+1)=per ns c by lia,p1,h0];rfl
    ·rw[show m+(j-1-m+1)=j by lia]
  rcases vq j with h0|h0
  ·have e0:itr ns 0 (itr ns j c)=itr ns 0 c:=by rw[on,h0]
   refine⟨0,itr ns ((per ns c-1)/st*st) c,_,⟨λi hi=>absurd hi (t8 _),.inl ?_⟩,?_,Ef o hc _,hz _ (by lia) (.inr h0),?_⟩
   ·rw[e0,lm 0 p2 hL (wb _)]
    rfl
   ·rw[e0,lm 0 p2 hL (wb _)]
    rfl
   ·rw[if_pos h0]
    lia
  ·have d1:=DI (j+st-1) st
   have d2:=ph (j+st-1) hs;have d3:st*((j+st-1)/st)=(j+st-1)/st*st:=qk _ _;have nomul:∀i,j<=i->i<(j+st-1)/st*st->i%st≠0:=λi hi1 hi2 hi3=>by
    have e:=BM (zj hi3);have l1:i/st<(j+st-1)/st:=by
     rcases tm (i/st) ((j+st-1)/st) with h|h
     ·exact h
     ·have:=p8 st h
      lia
    have l2:=p8 st (show i/st+1<=(j+st-1)/st from l1);rw[AD,AC] at l2;lia
   generalize hM:(j+st-1)/st*st=M at *;have hMm:M%st=0:=by rw[<-hM,wy]
   have hMj:j<=M:=by lia
   have hMs:st<=M:=by
    rw[<-hM];have:1<=(j+st-1)/st:=by rw[zw hs];lia
    have:=p8 st this;lia
   rcases tm M (per ns c) with hlt|hge
   ·refine⟨M-j,itr ns (M-st) c,_,⟨λi hi=>⟨?_,back _ (by lia) (by lia)⟩,.inl ?_⟩,?_,Ef o hc _,hz (M-st) (by lia) (.inl (by lia)),?_⟩
    ·rw[on]
     exact lk _ (by lia) (.inr (nomul _ (by lia) (by lia)))
    ·rw[on,show j+(M-j)=M by lia,lm M hlt hL hMm]
     rfl
    ·rw[on,show j+(M-j)=M by lia,lm M hlt hL hMm]
     unfold prv;rw[if_neg (by lia)]
    ·rw[if_neg (by lia)]
     lia
   ·have e0:itr ns (per ns c-j) (itr ns j c)=itr ns 0 c:=by rw[on,show j+(per ns c-j)=per ns c by lia,p1];rfl
    have hmj:(per ns c-1)/st*st<j:=by
     rcases tm ((per ns c-1)/st*st) j with h|h
     ·exact h
     ·exact absurd (wy _ _) (nomul _ h (by lia))
    refine⟨per ns c-j,itr ns ((per ns c-1)/st*st) c,_,⟨λi hi=>⟨?_,back _ (by lia) (by lia)⟩,.inl ?_⟩,?_,Ef o hc _,hz _ (by lia) (.inl hmj),?_⟩
    ·rw[on]
     exact lk _ (by lia) (.inr (nomul _ (by lia) (by lia)))
    ·rw[e0,lm 0 p2 hL (wb _)]
     rfl
    ·rw[e0,lm 0 p2 hL (wb _)]
     rfl
    ·rw[if_neg (by lia)]
     lia
 ·refine .inl ⟨hL,per ns c-1,⟨λi hi=>⟨?_,back _ (by lia) (by lia)⟩,.inr ?_⟩,?_,by lia⟩
  ·rw[on,Oh o hc]
   exact lk _ (ph _ p2) (.inl hL)
  ·rw[show per ns c-1+1=per ns c by lia,<-hper]
   exact(Ce o hp).1
  ·rw[on,Oh o hc]
   exact lk _ (ph _ p2) (.inl hL)
theorem sK {ns:Za4}(o:Ord ns){st p:Nat}(hs:0<st)(hp:p<ns.length):∃ws,Way ns (jmp st (By ns ns.length)) p (decide (st<per ns p)) ws/\ws.length<=2*st:=by
 rcases uS o hs hp with⟨h1,t,h2,h3,h4⟩|⟨h1,t,q,u,h2,h3,_,h4,h5⟩
 ·rw[decide_eq_false (by lia)]
  exact⟨_,.short h2 h3,by rw[Bm];lia⟩
 ·rw[decide_eq_true h1]
  exact⟨_,.long h2 h3 h4,by rw[c8,Bm,Bm];exact h5⟩
theorem pM {kvs:List (Nat×Nat)}{x q:Nat}(h:look kvs x=some q):(x,q)∈kvs:=by
 unfold look at h;obtain⟨p,hp,e⟩:=gt.mp h;have h1:=List.mem_of_find?_eq_some hp;have h2:p.1=x:=by simpa using List.find?_some hp
 rw[<-h2,<-e];exact h1
theorem sM {l:Za4}{x:Nat}(h:x∈rot l):x∈l:=by
 unfold rot at h;rcases f8.mp h with h|h
 ·exact ud h
 ·exact ky h
theorem eO {ns:Za4}(o:Ord ns){k x:Nat}(hk:k<=ns.length)(h:x∈(By ns k).flatten):x<ns.length:=by
 obtain⟨R,hR,hx⟩:=jq.mp h;obtain⟨c,hc,rfl⟩:=(Gp o k hk).1 R hR;obtain⟨i,_,rfl⟩:=Hj.mp hx;exact Ef o (by lia) i
theorem dU {ns:Za4}(o:Ord ns){st x q:Nat}(hs:0<st)(h:look (jmp st (By ns ns.length)) x=some q):q<ns.length:=by
 obtain⟨R,hR,hp⟩:=rm.mp (pM h);unfold prs at hp;split at hp
 ·have h1:=sM (nl hp).2
  obtain⟨k,_,e⟩:=(Mo hs).mp h1;exact eO o (c9 _) (jq.mpr ⟨R,hR,e6 e⟩)
 ·cases hp
def seg (ns:Za4)(j k:Nat):Za4:=(di j).map λi=>itr ns i k
def rl (ns:Za4)(k:Nat):Nat:=if k∈(By ns k).flatten then 0 else per ns k
theorem Wg (ns:Za4)(j k:Nat):seg ns (j+1) k=seg ns j k++[itr ns j k]:=by
 unfold seg;rw[ik,dj];rfl
theorem eG (ns:Za4)(j k:Nat):(seg ns j k).length=j:=by unfold seg;rw[c5,dn]
theorem Pp (ns:Za4):∀k,(By ns k).length<=k
 |0=>c9 _
 |k+1=>by
  have:=Pp ns k;unfold By;split
  ·lia
  ·rw[c8]
   simp;lia
section
variable {ns:Za4} (o:Ord ns) {k j:Nat} (hk:k<ns.length)
include o hk
theorem zB:rl ns k<=ns.length:=by
 unfold rl;split
 ·exact fq _
 ·exact(Ce o hk).2.2.1
theorem rF (hj:j<=rl ns k):itr ns j k∈(By ns k).flatten++seg ns j k↔j=rl ns k:=by
 unfold rl at hj ⊢;split at hj
 ·rename_i hm
  rw[if_pos hm];have:j=0:=by lia
  subst this;exact⟨λ_=>rfl,λ_=>jr _ hm⟩
 ·rename_i hm
  rw[if_neg hm]
  constructor
  ·intro h
   rcases ly hj with hl|hl
   ·have:=jK o hk hm hl
    rcases f8.mp h with h|h
    ·exact absurd h this.1
    ·exact absurd h this.2
   ·exact hl
  ·intro h
   rw[h];exact fk _ (iW o hk)
theorem S1:By ns (k+1)=if 0<(seg ns (rl ns k) k).length then By ns k++[seg ns (rl ns k) k] else By ns k:=by
 rw[eG];show(if k∈(By ns k).flatten then _ else _)=_;unfold rl
 by_cases hm:k∈(By ns k).flatten
 ·rw[if_pos hm,if_pos hm,if_neg (lf _)]
 ·rw[if_neg hm,if_neg hm,if_pos (Ce o hk).2.1]
  rfl
theorem iX:(By ns (k+1)).flatten=(By ns k).flatten++seg ns (rl ns k) k:=by
 rw[S1 o hk];split
 ·rw[ke,lv]
 ·rename_i h
  rw[n4.mp (show(seg ns (rl ns k) k).length=0 by lia),gd]
end
def iS (ms:Za5)(S:Za4)(n:Nat):Prop:=ms.length=n/\∀(i:Nat) b,ms[i]?=some b->(b=true↔i∈S)
theorem jJ (n:Nat):iS (dy n false) [] n:=by
 refine⟨ko,λi b h=>?_⟩;rw[rn] at h;split at h
 ·cases h
  exact⟨λz=>by(cases z),λh=>by(cases h)⟩
 ·cases h
theorem iS.put {ms:Za5}{S:Za4}{n y:Nat}(h:iS ms S n):iS (ms.set y true) (S++[y]) n:=by
 refine⟨by rw[xh];exact h.1,λi b hb=>?_⟩;rw[BO] at hb
 by_cases e:y=i
 ·rw[if_pos e] at hb
  split at hb
  ·cases hb
   exact⟨λ_=>by rw[e];simp,λ_=>rfl⟩
  ·cases hb
 ·rw[if_neg e] at hb
  rw[h.2 i b hb,f8,fg];exact⟨λh=>.inl h,λh=>h.resolve_right λz=>e z.symm⟩
end TW
end
section
namespace L2
open PySem PySem.Spec PyProof.Rows
variable {C CB CC CO CP CS Pt d dx i1 i2 it l1 l2:de} {A:ic} {op:vv} {X:Cx} {D:Hk} {env:Env} {iter tg:gv} {fd:i0} {base h h':iq} {H H' H0 H1 H2:Hp} {J:It} {pins:Za1} {as fp:List de} {ms:Za5} {es:List gv} {ks ws:List Int} {cs ns:Za4} {N kz nm ps:Za6} {xs ys:List V} {us vs:Za3} {M:wn} {n t':Nat} {oT:Obj} {an od:Option de} {pos:Pos} {B:Prop} {scope:l9} {pl:Sem Bool} {s s2:dv} {sp:Sp} {qual z:Str} {te:TE} {wi:TI} {y:V} {cdv ct doc oc pm:dr} {w:gl}
def Uh (vs:List (Key×dr)):List Int->Za3->List (Key×dr)
 |k::ks,u::us=>Uh (stored vs (.inl k) u) ks us
 |_,_=>vs
theorem We {vs:List (Key×dr)}:∀(ks:List Int),Uh vs ks []=vs
 |[]=>rfl
 |_::_=>rfl
theorem fE {vs:List (Key×dr)}{i:Nat}{n:Int}{u:dr}(h1:ks[i]?=some n)(h2:us[i]?=some u):Uh vs (ks.drop i) (us.drop i)=Uh (stored vs (.inl n) u) (ks.drop (i+1)) (us.drop (i+1)):=by
 obtain⟨l1,e1⟩:=dk.mp h1;obtain⟨l2,e2⟩:=dk.mp h2;rw[jz l1,jz l2,e1,e2];rfl
section
variable {prog:fi} {w:gl} {A:ic} {E:Za0} {R:uh->dv->Prop}
theorem qV {z TI TO T:de}{xs ys:Array dr}(D:DzA d z TI TO i1 i2 l1 l2)(hTz:T≠z)(hT1:T≠i1)(hT2:T≠i2)(hTd:T≠d)(hh:A.handled=none)(he:xs.size=ys.size)
  (hk:∀(i:Nat) x,xs[i]?=some x->∃n t,ks[i]?=some n/\x=ml n t):∀(m i:Nat) (s:dv) (tk:Tok) (c:Bool) (vs:List (Key×dr)) (oT:Obj),xs.size-i=m->i<=xs.size->L6 s.heap z TI TO T c->s.heap.get? T=some oT->qe s.heap TI (.ref i1) (.ref i2) ->
   s.heap.IsListIter i1 l1 i->s.heap.IsListIter i2 l2 i->s.heap.IsList l1 xs->s.heap.IsList l2 ys->s.heap.DictOf (Bb prog w) d vs->vs.length+(xs.size-i)<=sizeLine ->
   (∀h' k vs',h'.DictOf (Bb prog w) d vs'->vs'=Uh vs (ks.drop i) (ys.toList.drop i)->(∀b o,b≠z->b≠i1->b≠i2->b≠d->s.heap.get? b=some o->h'.get? b=some o)->R (.ok (.ret .none)) { s with heap:=h',toks:=k }) ->
   codeAny (model prog w) A (.builtin "dict.update.loop" ⟨[.ref d,.ref z,.int i tk,.none],[]⟩) R s:=by
 intro m
 induction m with
 |zero=>
  intro i s tk c vs oT hm hi hz hT hTI h1 h2 hl1 hl2 hd hsz q;refine mh C9 ?_;rw[j8 Bd _];show wpAny _ A.in1 (pyNext (.ref z) >>= _) _ _ s;refine wpAny_bind (kU (by exact hh) D.za hz hT hTI h1 hl1 (lu (by lia)) λh' kp=>?_);show wpAny _ A.in1 (qa d [] >>= _) _ _ _;refine wpAny_bind (d4 (d4 ?_));obtain⟨o,es,ep,ho,r⟩:=hd;exact q h' s.toks vs ⟨o,es,ep,kp _ _ D.dz D.d1 D.d2 ho,r⟩ (by rw[i7 (l:=ys.toList) (by rw[fb];lia),We]) λb o b1 b2 b3 _ e=>kp b o b1 b2 b3 e
 |succ m ih=>
  intro i s tk c vs oT hm hi hz hT hTI h1 h2 hl1 hl2 hd hsz q;obtain⟨x,hx⟩:∃x,xs[i]?=some x:=⟨_,ku (show i<xs.size by lia)⟩;obtain⟨y,hy⟩:∃y,ys[i]?=some y:=⟨_,ku (show i<ys.size by lia)⟩;obtain⟨n,t,hn,rfl⟩:=hk i x hx;refine mh C9 ?_;rw[j8 Bd _];show wpAny _ A.in1 (pyNext (.ref z) >>= _) _ _ s;refine wpAny_bind (jG D.za hz hT hTI h1 h2 hl1 hl2 hx hy λh' hz' h1' h2' hp hsz' kp=>?_);have hd':h'.DictOf (Bb prog w) d vs:=by
   obtain⟨o,es,ep,ho,r⟩:=hd;exact⟨o,es,ep,kp _ _ D.dz D.d1 D.d2 ho,r⟩
  show wpAny _ A.in1 (holding _ _ >>= _) _ _ _;refine wpAny_bind (wpAny_holding (wpAny_bind (ze (Op hp ?_))));show wpAny _ A.in1 (holding _ (dictSet d (.int n t) y)) _ _ _;refine wpAny_holding (v0 (knd:=Bb prog w) (k:=.inl n) (Ij prog w n t) hd' (λh2 dd' hs=>?_) (by lia));have k2:∀b o,b≠z->b≠i1->b≠i2->b≠d->s.heap.get? b=some o->h2.get? b=some o:=λb o b1 b2 b3 b4 e=>(hs.2 b b4).trans (kp b o b1 b2 b3 e);have st:∀b o,b≠d->h'.get? b=some o->h2.get? b=some o:=λb o b4 e=>(hs.2 b b4).trans e;have hln:=yc vs (qi n:Key) y;refine d4 ⟨qf Bd _,?_⟩;refine ih (i+1) _ _ true _ oT (by lia) (by lia) (st _ _ D.dz.symm hz') (k2 _ _ hTz hT1 hT2 hTd hT) (k2 _ _ D.za.TIz D.za.TIi1 D.za.TIi2 D.dI.symm hTI) (h1'.at λo e=>st _ o D.d1.symm e) (h2'.at λo e=>st _ o D.d2.symm e)
   (hl1.at λo e=>k2 _ o D.za.l1z D.za.l1i1 D.za.l1i2 D.dl.symm e) (hl2.at λo e=>k2 _ o D.za.l2z D.za.l2i1 D.za.l2i2 D.dm.symm e) dd' (by lia) λh3 k vs' hd3 e3 kp3=>?_
  exact q h3 k vs' hd3 (by rw[e3,fE hn (show ys.toList[i]?=some y by rw[fj];exact hy)]) λb o b1 b2 b3 b4 e=>kp3 b o b1 b2 b3 b4 (k2 b o b1 b2 b3 b4 e)
theorem Zb {tk:Tok}{z TI TO:de}{a b:dr}{xs ys:Array dr}{vs:List (Key×dr)}(D:DzA d z TI TO i1 i2 l1 l2)(hh:A.handled=none)(he:xs.size=ys.size)
  (hk:∀(i:Nat) x,xs[i]?=some x->∃n t,ks[i]?=some n/\x=ml n t)(hz:IsZip s.heap z TI TO .none)(hTO:qe s.heap TO a b)(hTI:qe s.heap TI (.ref i1) (.ref i2))
  (h1:s.heap.IsListIter i1 l1 0)(h2:s.heap.IsListIter i2 l2 0)(hl1:s.heap.IsList l1 xs)(hl2:s.heap.IsList l2 ys)(hd:s.heap.DictOf (Bb prog w) d vs)(hsz:vs.length+xs.size<=sizeLine)
  (q:∀h' k vs',h'.DictOf (Bb prog w) d vs'->vs'=Uh vs ks ys.toList->(∀b o,b≠z->b≠TO->b≠i1->b≠i2->b≠d->s.heap.get? b=some o->h'.get? b=some o)->R (.ok (.ret .none)) { s with heap:=h',toks:=k }) :
  codeAny (model prog w) A (.builtin "dict.update.loop" ⟨[.ref d,.ref z,.int 0 tk,.none],[]⟩) R s:=by
 refine mh C9 ?_;rw[j8 Bd _];show wpAny _ A.in1 (pyNext (.ref z) >>= _) _ _ s;rcases vq xs.size with h0|h0
 ·refine wpAny_bind (wpAny_pyNext_zip_end (by exact hh) D.za hz hTI hTO h1 h2 hl1 hl2 (.inl (lu (by lia))) λh' kp=>?_)
  show wpAny _ A.in1 (qa d [] >>= _) _ _ _;refine wpAny_bind (d4 (d4 ?_));obtain⟨o,es,ep,ho,r⟩:=hd;exact q h' s.toks vs ⟨o,es,ep,kp _ _ D.dz D.dO D.d1 D.d2 ho,r⟩ (by rw[show ys.toList=[] from n4.mp (by rw[fb];lia),We]) λb o b1 b2 b3 b4 _ e=>kp b o b1 b2 b3 b4 e
 ·obtain⟨x,hx⟩:∃x,xs[0]?=some x:=⟨_,ku h0⟩
  obtain⟨y,hy⟩:∃y,ys[0]?=some y:=⟨_,ku (show 0<ys.size by lia)⟩;obtain⟨n,t,hn,rfl⟩:=hk 0 x hx;refine wpAny_bind (wpAny_pyNext_zip_item D.za hz hTI hTO h1 h2 hl1 hl2 hx hy λh' hz' _ h1' h2' hp hsz' kp=>?_);have hd':h'.DictOf (Bb prog w) d vs:=by
   obtain⟨o,es,ep,ho,r⟩:=hd;exact⟨o,es,ep,kp _ _ D.dz D.dO D.d1 D.d2 ho,r⟩
  have lt:∀{c o},s.heap.get? c=some o->s.heap.objs.size≠c:=λe=>my (d7 e);have ltd:s.heap.objs.size≠d:=by
   obtain⟨o,es,ep,ho,r⟩:=hd;exact lt ho
  show wpAny _ A.in1 (holding _ _ >>= _) _ _ _;refine wpAny_bind (wpAny_holding (wpAny_bind (ze (Op hp ?_))));show wpAny _ A.in1 (holding _ (dictSet d (.int n t) y)) _ _ _;refine wpAny_holding (v0 (knd:=Bb prog w) (k:=.inl n) (Ij prog w n t) hd' (λhb dd' hs=>?_) (by lia));have k2:∀b o,b≠z->b≠TO->b≠i1->b≠i2->b≠d->s.heap.get? b=some o->hb.get? b=some o:=λb o b1 b2 b3 b5 b4 e=>(hs.2 b b4).trans (kp b o b1 b2 b3 b5 e);have st:∀b o,b≠d->h'.get? b=some o->hb.get? b=some o:=λb o b4 e=>(hs.2 b b4).trans e;have hln:=yc vs (qi n:Key) y;refine d4 ⟨qf Bd _,?_⟩;refine qV D (T:=s.heap.objs.size) (lt hz) (by obtain⟨_,e,_⟩:=h1;exact lt e) (by obtain⟨_,e,_⟩:=h2;exact lt e) ltd hh he hk _ 1 _ _ false _ _ rfl h0 (st _ _ D.dz.symm hz') (st _ _ ltd hp) (k2 _ _ D.za.TIz D.za.TITO D.za.TIi1 D.za.TIi2 D.dI.symm hTI) (h1'.at λo e=>st _ o D.d1.symm e) (h2'.at λo e=>st _ o D.d2.symm e)
   (hl1.at λo e=>k2 _ o D.za.l1z D.za.l1TO D.za.l1i1 D.za.l1i2 D.dl.symm e) (hl2.at λo e=>k2 _ o D.za.l2z D.za.l2TO D.za.l2i1 D.za.l2i2 D.dm.symm e) dd' (by lia) λh3 k vs' hd3 e3 kp3=>?_
  exact q h3 k vs' hd3 (by rw[e3];exact(fE (i:=0) hn (show ys.toList[0]?=some y by rw[fj];exact hy)).symm) λb o b1 b2 b3 b5 b4 e=>kp3 b o b1 b3 b5 b4 (k2 b o b1 b2 b3 b5 b4 e)
theorem Oq {z TI TO:de}{a b:dr}{xs ys:Array dr}{Q:Za0}(D:xq z TI TO i1 i2 l1 l2)(hh:A.handled=none)(he:xs.size=ys.size)
  (hk:∀(i:Nat) x,xs[i]?=some x->∃n t,ks[i]?=some n/\x=ml n t)(hz:IsZip s.heap z TI TO .none)(hTO:qe s.heap TO a b)(hTI:qe s.heap TI (.ref i1) (.ref i2))
  (h1:s.heap.IsListIter i1 l1 0)(h2:s.heap.IsListIter i2 l2 0)(hl1:s.heap.IsList l1 xs)(hl2:s.heap.IsList l2 ys)(hsz:xs.size<=sizeLine)
  (q:∀h' k vs',h'.DictOf (Bb prog w) s.heap.objs.size vs'->vs'=Uh [] ks ys.toList->(∀b o,b≠z->b≠TO->b≠i1->b≠i2->s.heap.get? b=some o->h'.get? b=some o)->Q (.ref s.heap.objs.size) { s with heap:=h',toks:=k }) :
  wpAny (model prog w) A (call (.type "dict") [.ref z]) Q E s:=by
 refine HA (Q₁:=λobj QM=>obj=.ref s.heap.objs.size/\QM={ s with heap:=s.heap.push { cls:=.type "dict",data:=.dict #[] } }) yf (wx _) x4 (EU _ ⟨rfl,rfl⟩) ?_;rintro obj QM ⟨rfl,rfl⟩;have hnew:(s.heap.push { cls:=.type "dict",data:=.dict #[] }).DictOf (Bb prog w) s.heap.objs.size []:=u0 s.heap;have up:∀b o,s.heap.get? b=some o->(s.heap.push { cls:=.type "dict",data:=.dict #[] }).get? b=some o:=λb o e=>dg _ e;have lt:∀{c o},s.heap.get? c=some o->s.heap.objs.size≠c:=λe=>my (d7 e);refine⟨hnew.typeIs,xx _ _,?_⟩;unfold nv.«dict.__init__»;refine wpAny_bind ?_;unfold vz;refine wpAny_bind (BW hnew.typeIs ?_);show wpAny _ _ (pure (s.heap.objs.size,[gi z])) _ _ _;refine d4 ?_;show wpAny _ _ (mq "dict.__init__" s.heap.objs.size (.ref z) [] .none) _ _ _;unfold mq;have hz':=up _ _ hz;refine wpAny_bind (pe (T:="zip") ⟨_,hz',rfl⟩ ?_);rw[if_pos (by decide)];refine wpAny_bind (qF hz' (by exact hh) λh' tk kp=>?_);rw[if_pos (by rfl)];refine wpAny_bind (ug (wpAny_bind (yb (kp _ _ hz') ?_)));have up2:∀b o,s.heap.get? b=some o->h'.get? b=some o:=λb o e=>kp _ _ (up b o e);have hd':h'.DictOf (Bb prog w) s.heap.objs.size []:=by
  obtain⟨o,es,ep,ho,r⟩:=hnew;exact⟨o,es,ep,kp _ _ ho,r⟩
 refine d4 ⟨qf Bd _,?_⟩;refine Zb (a:=a) (b:=b) (vs:=[]) ⟨D,lt hz,lt hTI,lt hTO,?_,?_,?_,?_⟩ (by exact hh) he hk (up2 _ _ hz) (up2 _ _ hTO) (up2 _ _ hTI) (h1.at λo e=>up2 _ o e) (h2.at λo e=>up2 _ o e) (hl1.at λo e=>up2 _ o e) (hl2.at λo e=>up2 _ o e) hd' (by simpa using hsz) λh3 k vs' hd3 e3 kp3=>?_
 ·obtain⟨_,e,_⟩:=h1;exact lt e
 ·obtain⟨_,e,_⟩:=h2;exact lt e
 ·obtain⟨_,e,_⟩:=hl1;exact lt e
 ·obtain⟨_,e,_⟩:=hl2;exact lt e
 ·exact⟨rfl,q h3 k vs' hd3 e3 λb o b1 b2 b3 b4 e=>kp3 b o b1 b2 b3 b4 (lt e).symm (up2 _ _ e)⟩
end
def N3 (kvs:List (Key×V)):List Int->List V->List (Key×V)
 |k::ks,y::ys=>N3 (Ey kvs (.inl k) y) ks ys
 |_,_=>kvs
theorem kW:∀{ks:List Int} {ys:List V} {us:Za3} {kvs:List (Key×V)} {vs:List (Key×dr)},KV kvs vs->Au ys us->KV (N3 kvs ks ys) (Uh vs ks us)
 |[],_,_,_,_,h,_=>h
 |_::_,_,_,_,_,h,.nil=>h
 |k::ks,y::ys,u::us,kvs,vs,h,.cons r t=>by
  show KV (N3 (Ey kvs (.inl k) y) ks ys) (Uh (stored vs (.inl k) u) ks us);exact kW (h.put (.inl k) r) t
section
variable {X:Cx}
def oR (K:c7)(ta:TA):TE:=λY H Q=>ta Y H λvs H1=>∃a b ns ys,vs=[.ref a,.ref b]/\SqL K H1 a (qt V.int ns)/\SqL K H1 b ys/\ns.length=ys.length/\(N3 [] ns ys).length<=ns.length/\∀p,H1 p=none->Q (.ref p) (upd H1 p (.dK (N3 [] ns ys)))
theorem pR {a b:gv}{ta:TA}{p q pos2:Pos}(hcal:X.calm=true)(hg:Gl X "dict")(hm:X.mg "dict"=none)(hg2:Gl X "zip")(hm2:X.mg "zip"=none)(ha:PA X [a,b] ta)
  (hs:autoParam (starEach [a,b] X.env=[(false,eval a X.env),(false,eval b X.env)]) QD)(hs2:autoParam (starEach [b] X.env=[(false,eval b X.env)]) QD)
  (hs3:autoParam (starEach [y3 (.Name "zip" q) [a,b] [] pos2] X.env=[(false,eval (.Call (.Name "zip" q) [a,b] [] pos2) X.env)]) QD) :
  PE X (.Call (.Name "dict" p) [.Call (.Name "zip" q) [a,b] [] pos2] [] pos) (oR X.K ta):=by
 k_in;refine wpAny_Call_Name_kw (Dv I hg hm nL (gp ?_ hs3 rfl) (by decide) (by decide));rw[hs3];refine qo ?_;show wpAny _ _ (eval (y3 (.Name "zip" q) [a,b] [] pos2) X.env) _ _ _;refine wpAny_Call_Name_kw (Dv I hg2 hm2 tK (gp (thA ha I h λus s1 vs H1 I1 r1 q1=>?_) (by rw[hs,hs2]) (by rw[hs2];rfl)) (by decide) (by decide));obtain⟨a,b,ns,ys,e,hx,hy,hl,hml,q⟩:=q1;subst e;obtain⟨u,v,rfl,ru,rv⟩:=P7 r1;cases ru;cases rv;obtain⟨its,rv,p,hz⟩:=I1.list hx;obtain⟨its2,rv2,p2,hz2⟩:=I1.list hy;have l1:=rv.length;have l2:=rv2.length;rw[c5] at l1;refine call_zip_2 p.isList p2.isList λh' g1 g2 g3 g4 g5 hsz kk=>?_;refine q8 ?_;have A1:h'.IsList a its.toArray:=p.isList.at λo e=>kk _ o e;have A2:h'.IsList b its2.toArray:=p2.isList.at λo e=>kk _ o e;have D:=Z9 (Rw _) (⟨g1,g2,⟨_,_,g3⟩,g4,g5⟩:StZ _ _ _ _ _ a b 0 h') A1 A2;refine Oq (s:={ s1 with heap:=h' }) (ks:=ns) D (I1.ok.hd hcal) (by simp;lia) (λi x e=>?_) g1 g3 g2 g4 g5 A1 A2 (by simp;rw[c5] at hz;lia) λh2 k vs' d2 ev kp=>?_
 ·have e':its[i]?=some x:=by simpa using e
  have li:=(dk.mp e').1;have hn:(qt V.int ns)[i]?=some (.int (ns[i]'(by lia))):=by rw[df,c6 (by lia)];rfl
  obtain⟨u,hu,t,rfl⟩:=rv.get hn;rw[e'] at hu;cases hu;exact⟨_,_,c6 (by lia),rfl⟩
 ·have hk:KV (N3 [] ns ys) vs':=by rw[ev];exact kW .nil rv2
  have hle:s1.heap.objs.size<=h'.objs.size:=by lia
  refine⟨.ref h'.objs.size,_,I1.laid (a:=h'.objs.size) (o:=.dK (N3 [] ns ys)) (t':=k) (λb o e=>?_) hle ⟨?_,?_,vs',hk,d2⟩,rfl,q _ (I1.hok.fresh hle)⟩
  ·have lt:=d7 e
   have ne:∀c,s1.heap.objs.size<=c->b≠c:=λc hc z=>lf _ (d8 lt (z▸hc));exact kp b o (ne _ (je _ _)) (ne _ (je _ _)) (ne _ (c9 _)) (ne _ (je _ _)) (kk _ _ e)
  ·rw[c5] at hz;lia
  ·exact beq_eq_false_iff_ne.mpr (qq (fh (d8 (U3 I1) hle)))
theorem qS {Y:St}{Q:VK}{ta:TA}{K:c7}(h:ta Y H λvs H1=>∃a b ns ys,vs=[.ref a,.ref b]/\SqL K H1 a (qt V.int ns)/\SqL K H1 b ys/\ns.length=ys.length/\(N3 [] ns ys).length<=ns.length/\∀p,H1 p=none->Q (.ref p) (upd H1 p (.dK (N3 [] ns ys)))):oR K ta Y H Q:=h
def Xv:V->List V->Hp->VK->Prop:=λx vs H Q=>∃a b kvs kvs2,x=.ref a/\vs=[.ref b]/\a≠b/\H a=some (.dK kvs)/\H b=some (.dK kvs2)/\kvs.length+kvs2.length<=sizeLine/\Q .non (upd H a (.dK (Il kvs kvs2)))
theorem Yy:MtM X "dict.update" Xv:=by
 intro pins s Y H x vs v us Q I rx rv h;obtain⟨a,b,kvs,kvs2,rfl,rfl,hne,hA,hB,hz,q⟩:=h;cases rx;obtain⟨u,rfl,ru⟩:=E6 rv;cases ru;obtain⟨z1,m1,v1,k1,d1⟩:=(show Cc X.prog X.w H s.heap a (.dK kvs) from I.hok a _ hA);obtain⟨z2,m2,v2,k2,d2⟩:=(show Cc X.prog X.w H s.heap b (.dK kvs2) from I.hok b _ hB);have e1:=Mf k1;have e2:=Mf k2;refine IL xw d1.typeIs PySem.F.entry_dict_update (PySem.F.args_dict_update_2 _ _) (meets_dict_update (Bb X.prog X.w) a b hne m2)
  ⟨v1,v2,d1,d2,by lia,λh' dd _ hs=>?_⟩
 have lm:=Kc kvs2 kvs;refine⟨.non,_,I.write (x:=a) (e:=a) (o:=.dK (Il kvs kvs2)) (t':=s.toks) (by rw[hA];trivial) (.inl rfl) (λb u hb e=>(hs.2 b hb).trans e) ?_ ⟨by lia,m1,_,k2.merge k1,dd⟩,rfl,q⟩;obtain⟨o,es,ep,ho,r⟩:=dd;exact⟨o,ho⟩
theorem gN {a b:de}{kvs kvs2:List (Key×V)}{Q:VK}(hn:a≠b)(h1:H a=some (.dK kvs))(h2:H b=some (.dK kvs2))(hz:kvs.length+kvs2.length<=sizeLine)(q:Q .non (upd H a (.dK (Il kvs kvs2)))):Xv (.ref a) [.ref b] H Q:=
 ⟨a,b,kvs,kvs2,rfl,rfl,hn,h1,h2,hz,q⟩
def yD:R2:=λx y H Q=>∃d kvs k,x=.int k/\y=.ref d/\H d=some (.dK kvs)/\Q (.bl (B9 kvs (.inl k)).isSome) H
def eJ:R2:=λx y H Q=>∃d kvs k,x=.int k/\y=.ref d/\H d=some (.dK kvs)/\Q (.bl (!(B9 kvs (.inl k)).isSome)) H
theorem vF:OpR X (compareOp .In) yD:=by
 intro pins s Y H x y v u Q I rx ry h;obtain⟨d,kvs,k,rfl,rfl,hd,q⟩:=h;cases ry;obtain⟨z,hs,vs,rel,dd⟩:=Xy I.hok hd;refine wpAny_in_of (Wh (k:=.inl k) rx) hs dd.mapOf ?_;refine⟨.bl _,H,I.tok _,?_,q⟩;rw[(rel.val (.inl k)).isSome_eq];rfl
theorem jB:OpR X (compareOp .NotIn) eJ:=by
 intro pins s Y H x y v u Q I rx ry h;obtain⟨d,kvs,k,rfl,rfl,hd,q⟩:=h;cases ry;obtain⟨z,hs,vs,rel,dd⟩:=Xy I.hok hd;refine wpAny_notIn_of (Wh (k:=.inl k) rx) hs dd.mapOf ?_;refine⟨.bl _,H,I.tok _,?_,q⟩;rw[(rel.val (.inl k)).isSome_eq];rfl
theorem tQ {Q:VK}{kvs:List (Key×V)}{k:Int}(hd:H d=some (.dK kvs))(q:Q (.bl (B9 kvs (.inl k)).isSome) H):yD (.int k) (.ref d) H Q:=⟨d,kvs,k,rfl,rfl,hd,q⟩
theorem pH {Q:VK}{kvs:List (Key×V)}{k:Int}(hd:H d=some (.dK kvs))(q:Q (.bl (!(B9 kvs (.inl k)).isSome)) H):eJ (.int k) (.ref d) H Q:=⟨d,kvs,k,rfl,rfl,hd,q⟩
def yQ:R2:=λx y H Q=>∃d kvs k v,x=.ref d/\y=.int k/\H d=some (.dK kvs)/\B9 kvs (.inl k)=some v/\Q v H
theorem rC:IxR X yQ:=by
 intro value slice pins s Y H x y v u Q I rx ry h hs;obtain⟨d,kvs,k,z,rfl,rfl,hd,hv,q⟩:=h;cases rx;obtain⟨_,_,vs,rel,dd⟩:=Xy I.hok hd;obtain⟨w',hw,rw'⟩:=Kn.some_of (v:=z) (o:=valueAt vs (.inl k)) (by rw[<-hv];exact rel.val (.inl k));exact xo dd.typeIs w9.lookup (ET (Wh (k:=.inl k) ry) dd.mapOf hw ⟨z,H,I.tok _,rw',q⟩) hs
theorem zW {Q:VK}{kvs:List (Key×V)}{k:Int}{v:V}(hd:H d=some (.dK kvs))(hv:B9 kvs (.inl k)=some v)(q:Q v H):yQ (.ref d) (.int k) H Q:=⟨d,kvs,k,v,rfl,rfl,hd,hv,q⟩
end
theorem Zs (st:Nat)(n:Nat)(hs:0<st):sliceRange (sliceBounds none none (some (st:Int)) n).1 (sliceBounds none none (some (st:Int)) n).2.1 (sliceBounds none none (some (st:Int)) n).2.2=(di ((n+st-1)/st)).map (·*st):=by
 have h0:(st:Int)>0:=by lia
 have e:sliceBounds none none (some (st:Int)) n=(0,(n:Int),(st:Int)):=by simp[sliceBounds,h0];lia
 rw[e];unfold sliceRange;dsimp only;rw[if_pos h0];have e2:(if(0:Int)<(n:Int) then((n:Int)-0+st-1)/(st:Int) else 0).toNat=(n+st-1)/st:=by
  split
  ·rw[show(n:Int)-0+st-1=((n+st-1:Nat):Int) by lia,<-sh,fz]
  ·rw[show n=0 by lia,mw,sf (by lia)]
   rfl
 rw[e2];refine ii λk _=>?_;rw[FL,<-xy,fz,qk]
def lC (st:Nat)(xs:List V):List V:=((di ((xs.length+st-1)/st)).map (·*st)).filterMap λi=>xs[i]?
def kL (K:c7)(te ts:TE):TE:=λY H Q=>te Y H λx H1=>ts Y H1 λy H2=>∃a xs,∃st:Nat,x=.ref a/\y=.int st/\0<st/\SqL K H2 a xs/\∀p,H2 p=none->Q (.ref p) (upd H2 p (.lst (lC st xs)))
section
variable {X:Cx} {e st:gv} {te ts:TE} {pos p2:Pos}
theorem oV (he:PE X e te)(hst:PE X st ts):PE X (.Subscript e (.Slice none none (some st) p2) pos) (kL X.K te ts):=by
 k_in;refine Subscript_ (thE he I h λv s1 x H1 I1 r1 q1=>?_);refine CT ?_;rw[wl];refine d4 ?_;refine d4 ?_;rw[evalPart_some];refine thE hst I1 q1 λu s3 y H3 I3 r3 ⟨a,xs,k,ex,ey,hk,hs,q⟩=>?_;subst ex ey;obtain rfl:v=gi a:=r1;obtain⟨t,rfl⟩:=r3;have I4:Inv X pins Y H3 { s3 with heap:=s3.heap.push { cls:=.type "slice",data:=.fields #[.none,.none,.int k t] } }:=I3.kept (t':=s3.toks) λb ob q=>dg _ q;obtain⟨its,r,pl,hz⟩:=I4.list hs;have e1:=r.length;show wpAny (model X.prog X.w) X.A (subscriptTail e (.Slice none none (some st) p2) (.ref a) (.ref s3.heap.objs.size)) (EP X pins Y Q) X.xe { s3 with heap:=s3.heap.push { cls:=.type "slice",data:=.fields #[.none,.none,.int k t] } };refine xo (ops:=[.ref a,.ref s3.heap.objs.size]) pl.isList.typeIs list_getitem_lookup ?_ (by with_unfolding_all rfl);refine z5 pl.isList (xk ..) .none .none (.int k t) (by intro z;have:=dh z;lia) ?_ (by rw[d9];lia);have hp:slicePick its.toArray none none (some (k:Int))=((((di ((its.length+k-1)/k)).map (·*k))).filterMap λi=>its[i]?).toArray:=by
  rw[<-Zs k its.length hk];unfold slicePick;simp
 have hlen:(lC k xs).length<=xs.length:=by
  have:=slicePick_size_le its.toArray none none (some (k:Int));rw[hp,d9,<-(M1 r _).length,d9,<-e1] at this;exact this
 rw[hp,<-e1];exact⟨.ref _,_,I4.lnew (t':=s3.toks) (M1 r _) (gm hlen hz),rfl,q _ (I4.hok.fresh (c9 _))⟩
theorem sF {K:c7}{Y:St}{Q:VK}(h:te Y H λx H1=>ts Y H1 λy H2=>∃a xs,∃st:Nat,x=.ref a/\y=.int st/\0<st/\SqL K H2 a xs/\∀p,H2 p=none->Q (.ref p) (upd H2 p (.lst (lC st xs)))):kL K te ts Y H Q:=h
end
structure nQ (P:fi) (w:gl) (K:c7) (mg:Za2) (base:iq) (name:Str) (C:de) (k:Nat) (ps:Za6) (sp:Sp) (dvs:List V):Prop where
 ex:∃(f:de) (fd:i0) (ds:Za3),Ax P w K mg base (CXE P w) k f fd ps sp/\Eh K fd ps ds/\Au dvs ds/\Mk K C f/\mg name=some (.ref C)
section
variable {X:Cx} {k:Nat} {C:de} {ps:Za6} {sp:Sp} {dvs:List V} {name m:Str} {p pos apos:Pos} {e o:gv} {es:List gv} {ta:TE} {t:TA} {E:XK}
theorem rH (M:nQ X.prog X.w X.K X.mg X.base name C k ps sp dvs)(hr:Ck (k+1) X.A)(hx:Hs (CXE X.prog X.w) X E)(ha:PA X (e::es) t)(hg:autoParam (Gl X name) QD)(hdb:autoParam ((name==("__debug__":Str))=false) QF)
  (he:autoParam (starEach (e::es) X.env=(false,eval e X.env)::starEach es X.env) QD)(hpl:autoParam ((backTo pos (starEach es X.env)).any (·.1)=false) QD):PE X (.Call (.Name name p) (e::es) [] pos) (fL C sp dvs E t):=by
 obtain⟨f,fd,ds,F,b,rd,M,hm⟩:=M.ex;exact fK M F hr hg hm b rd hx ha hdb he hpl
end
theorem Xj.bindsD {K:c7}{x:Str}{st:im}{T:de}{kV v:dr}{o:Obj}{m:Nat}(hT:K.lookup T=some o)(hd:o.data=.seq #[v] n)(hm:ps.length=m+1)
  (h:∀(us:Za3),us.length=m->∃k,bindArgs (ir x qual (Bs st) (Bi st) (Ad st) (.ref T) kV doc pm an cdv ct) ⟨us,[]⟩=seqItems? (.ref T) >>= k/\k (some #[v])=pure (ps.zip (us++[v]))):Eh K (ir x qual (Bs st) (Bi st) (Ad st) (.ref T) kV doc pm an cdv ct) ps [v]:=by
 intro s us KX hl;obtain⟨k,h1,h2⟩:=h us (by rw[c8,hm] at hl;exact rb hl);exact zc rfl (KX _ _ hT) hd h1 h2
end L2
end
section
namespace TW
section
variable {α:Type} (lt:α->α->Bool)
def mg:List α->List α->List α
 |[],ys=>ys
 |x::xs,[]=>x::xs
 |x::xs,y::ys=>if lt y x=true then y::mg (x::xs) ys else x::mg xs (y::ys)
termination_by xs ys=>xs.length+ys.length
theorem Ds (ys:List α):mg lt [] ys=ys:=by rw[mg]
theorem B7 (xs:List α):mg lt xs []=xs:=by cases xs<;>rw[mg]
theorem Ev (x y:α)(xs ys:List α):mg lt (x::xs) (y::ys)=if lt y x=true then y::mg lt (x::xs) ys else x::mg lt xs (y::ys):=by rw[mg]
theorem Oz {x y:α}{xs ys:List α}(h:lt y x=true):mg lt (x::xs) (y::ys)=y::mg lt (x::xs) ys:=by rw[Ev,if_pos h]
theorem U1 {x y:α}{xs ys:List α}(h:lt y x=false):mg lt (x::xs) (y::ys)=x::mg lt xs (y::ys):=by rw[Ev,if_neg (by rw[h];decide)]
theorem Gv {ys:List α}:∀{as xs:List α},(∀a∈as,∀y∈ys,lt y a=false)->mg lt (as++xs) ys=as++mg lt xs ys
 |[],_,_=>rfl
 |a::as,xs,h=>by
  cases ys with
  |nil=>rw[B7,B7]
  |cons y ys=>
   rw[kj,U1 lt (h a f7 y f7),Gv λb hb=>h b (ge _ hb)];rfl
theorem Gs {xs:List α}:∀{bs ys:List α},(∀b∈bs,∀x∈xs,lt b x=true)->mg lt xs (bs++ys)=bs++mg lt xs ys
 |[],_,_=>rfl
 |b::bs,ys,h=>by
  cases xs with
  |nil=>rw[Ds,Ds]
  |cons x xs=>
   rw[kj,Oz lt (h b f7 x f7),Gs λc hc=>h c (ge _ hc)];rfl
theorem Lx:∀(xs ys:List α),(mg lt xs ys).Perm (xs++ys)
 |[],ys=>by rw[Ds];exact wj _
 |x::xs,[]=>by rw[B7,gd]
 |x::xs,y::ys=>by
  rw[Ev];split
  ·exact((Lx (x::xs) ys).cons y).trans List.perm_middle.symm
  ·exact(Lx xs (y::ys)).cons x
termination_by xs ys=>xs.length+ys.length
def Srt (l:List α):Prop:=l.Pairwise λa b=>lt b a=false
structure Swo:Prop where
 irr:∀a,lt a a=false
 tr:∀a b c,lt a b=true->lt b c=true->lt a c=true
 ng:∀a b c,lt a c=true->lt a b=true\/lt b c=true
variable {lt}
section
variable (o:Swo lt)
include o
theorem Swo.asy {a b:α}(h:lt a b=true):lt b a=false:=by
 cases e:lt b a with
 |false=>rfl
 |true=>have:=o.tr _ _ _ h e;rw[o.irr] at this;cases this
theorem Swo.le {a b c:α}(h1:lt b a=false)(h2:lt c b=false):lt c a=false:=by
 cases e:lt c a with
 |false=>rfl
 |true=>
  rcases o.ng c b a e with h|h
  ·rw[h2] at h;cases h
  ·rw[h1] at h;cases h
theorem Swo.ltle {a b c:α}(h1:lt a b=true)(h2:lt c b=false):lt a c=true:=by
 rcases o.ng a c b h1 with h|h
 ·exact h
 ·rw[h2] at h;cases h
theorem Swo.lelt {a b c:α}(h1:lt b a=false)(h2:lt b c=true):lt a c=true:=by
 rcases o.ng b a c h2 with h|h
 ·rw[h1] at h;cases h
 ·exact h
theorem I0:∀a b c:List α,mg lt (mg lt a b) c=mg lt a (mg lt b c)
 |[],b,c=>by rw[Ds,Ds]
 |x::a,[],c=>by rw[B7,Ds]
 |x::a,y::b,[]=>by rw[B7,B7]
 |x::a,y::b,z::c=>by
  cases h1:lt y x with
  |true=>
   cases h2:lt z y with
   |true=>
    have ih:=I0 (x::a) (y::b) c;rw[Oz lt h1] at ih ⊢;rw[Oz lt h2,Oz lt h2,Oz lt (o.tr _ _ _ h2 h1),ih]
   |false=>
    have ih:=I0 (x::a) b (z::c);rw[Oz lt h1,U1 lt h2,U1 lt h2,Oz lt h1,ih]
  |false=>
   cases h3:lt z x with
   |true=>
    have h2:lt z y=true:=by
     rcases o.ng z y x h3 with h|h
     ·exact h
     ·rw[h1] at h;cases h
    have ih:=I0 (x::a) (y::b) c;rw[U1 lt h1] at ih ⊢;rw[Oz lt h3,Oz lt h2,Oz lt h3,ih]
   |false=>
    have ih:=I0 a (y::b) (z::c);rw[U1 lt h1,U1 lt h3,ih]
    cases h2:lt z y with
    |true=>rw[Oz lt h2,U1 lt h3]
    |false=>rw[U1 lt h2,U1 lt h1]
termination_by a b c=>a.length+b.length+c.length
theorem Y4:∀{xs ys:List α},Srt lt xs->Srt lt ys->Srt lt (mg lt xs ys)
 |[],ys,_,h=>by rw[Ds];exact h
 |x::xs,[],h,_=>by rw[B7];exact h
 |x::xs,y::ys,h1,h2=>by
  have a1:=qr.mp h1;have a2:=qr.mp h2;rw[Ev];split
  ·rename_i hl
   refine qr.mpr ⟨λz hz=>?_,Y4 h1 a2.2⟩;rcases f8.mp ((Lx lt _ _).mem_iff.mp hz) with hz|hz
   ·rcases gr.mp hz with rfl|hz
    ·exact o.asy hl
    ·exact o.le (o.asy hl) (a1.1 z hz)
   ·exact a2.1 z hz
  ·rename_i hl
   have hl:lt y x=false:=by simpa using hl
   refine qr.mpr ⟨λz hz=>?_,Y4 a1.2 h2⟩;rcases f8.mp ((Lx lt _ _).mem_iff.mp hz) with hz|hz
   ·exact a1.1 z hz
   ·rcases gr.mp hz with rfl|hz
    ·exact hl
    ·exact o.le hl (a2.1 z hz)
termination_by xs ys=>xs.length+ys.length
end
variable (lt)
def Ao (l:List α):List α:=l.foldl (λa x=>mg lt a [x]) []
theorem Bp (l:List α)(x:α):Ao lt (l++[x])=mg lt (Ao lt l) [x]:=by unfold Ao;rw[BP];rfl
theorem B4 (l:List α):(Ao lt l).Perm l:=by
 have key:∀(l a:List α),(l.foldl (λa x=>mg lt a [x]) a).Perm (a++l):=λl=>by
  induction l with
  |nil=>intro a;rw[gd];exact wj _
  |cons x l ih=>
   intro a;refine(ih _).trans ?_;refine((Lx lt a [x]).append_right l).trans ?_;rw[du];exact wj _
 exact key l []
theorem Dw (l:List α):(Ao lt l).length=l.length:=(B4 lt l).length_eq
theorem G4 {P:List α->Prop}(h0:P [])(h1:∀l x,P l->P (l++[x]))(l:List α):P l:=by
 have key:∀n,∀l:List α,l.length=n->P l:=λn=>by
  induction n with
  |zero=>intro l h;rw[n4.mp h];exact h0
  |succ n ih=>
   intro l h;have hne:l≠[]:=λe=>by rw[e] at h;cases h
   rw[<-xj hne];exact h1 _ _ (ih _ (by rw[zx];lia))
 exact key _ l rfl
variable {lt}
theorem gQ (o:Swo lt)(a:List α)(b:List α):Ao lt (a++b)=mg lt (Ao lt a) (Ao lt b):=by
 induction b using G4 with
 |h0=>rw[gd];exact(B7 lt _).symm
 |h1 l x ih=>rw[<-du,Bp,Bp,ih,I0 o]
theorem S7 (o:Swo lt)(a:List α):Srt lt (Ao lt a):=by
 induction a using G4 with
 |h0=>exact tw
 |h1 l x ih=>rw[Bp];exact Y4 o ih (nz _ _)
theorem G9 {a:List α}(h:Srt lt a):Ao lt a=a:=by
 induction a using G4 with
 |h0=>rfl
 |h1 l x ih=>
  have hp:=p7.mp h;rw[Bp,ih hp.1];have:=Gv lt (ys:=[x]) (as:=l) (xs:=[]) λa ha y hy=>by rw[fg.mp hy];exact hp.2.2 a ha x (fg.mpr rfl)
  rw[gd,Ds] at this;exact this
theorem Z8 {β:Type}{lt':β->β->Bool}{f:α->β}(h:∀a b,lt' (f a) (f b)=lt a b):∀xs ys:List α,mg lt' (xs.map f) (ys.map f)=(mg lt xs ys).map f
 |[],ys=>by rw[Ds];exact Ds _ _
 |x::xs,[]=>by rw[B7];exact B7 _ _
 |x::xs,y::ys=>by
  rw[fm,fm,Ev,Ev,h];split
  ·have:=Z8 h (x::xs) ys
   rw[fm] at this;rw[this];rfl
  ·have:=Z8 h xs (y::ys)
   rw[fm] at this;rw[this];rfl
termination_by xs ys=>xs.length+ys.length
theorem Er {β:Type}{lt':β->β->Bool}{f:α->β}(h:∀a b,lt' (f a) (f b)=lt a b)(l:List α):Ao lt' (l.map f)=(Ao lt l).map f:=by
 induction l using G4 with
 |h0=>rfl
 |h1 l x ih=>
  rw[dj,fm,oi,Bp,Bp,ih];exact Z8 h _ [x]
end
theorem Ws {α:Type}{R:α->α->Prop}{l:List α}(h:l.length<2):l.Pairwise R:=match l,h with
 |[],_=>tw
 |[x],_=>nz _ _
section
variable {α:Type} {lt:α->α->Bool}
theorem Ju {l:List α}{i:Nat}{x:α}(h:l[i]?=some x):l.drop i=x::l.drop (i+1):=by
 obtain⟨hl,e⟩:=dk.mp h;rw[jz hl,e]
theorem Jx {l:List α}{i:Nat}{x:α}(h:l[i]?=some x):l.take (i+1)=l.take i++[x]:=by rw[gn,h];rfl
theorem wL {l:List α}(h:Srt lt l){i j:Nat}{x y:α}(hij:i<j)(hx:l[i]?=some x)(hy:l[j]?=some y):lt y x=false:=by
 obtain⟨h1,e1⟩:=dk.mp hx;obtain⟨h2,e2⟩:=dk.mp hy;have:=(ie.mp h) i j h1 h2 hij;rw[e1,e2] at this;exact this
theorem Uw (o:Swo lt){l:List α}(h:Srt lt l){i j:Nat}{x y:α}(hij:i<=j)(hx:l[i]?=some x)(hy:l[j]?=some y):lt y x=false:=by
 rcases ly hij with hl|hl
 ·exact wL h hl hx hy
 ·rw[hl,hy] at hx
  cases hx;exact o.irr _
theorem nR {l:List α}{i:Nat}{x:α}(h:x∈l.drop i):∃j,i<=j/\l[j]?=some x:=by
 obtain⟨k,hk⟩:=jt h;rw[il] at hk;exact⟨i+k,je _ _,hk⟩
theorem P1 {l:List α}{i:Nat}{x:α}(h:x∈l.take i):∃j,j<i/\l[j]?=some x:=by
 obtain⟨k,hk⟩:=jt h;rw[ig] at hk;split at hk
 ·exact⟨k,by assumption,hk⟩
 ·cases hk
theorem cY (l:List α)(i k:Nat):l.drop i=(l.drop i).take k++l.drop (i+k):=by
 rw[<-qv,jc]
variable (o:Swo lt) {la lb out:List α} {ia ib:Nat}
variable {na nb:Nat}
theorem Z4 (l:List α){c n:Nat}(h:c<=n):l.take n=l.take c++(l.drop c).take (n-c):=by
 rw[show n=c+(n-c) by lia,yt];congr 2;lia
include o in
end
end TW
end
section
namespace L2
open PySem PySem.Spec PyProof.Rows
variable {C CB CC CO CP CS Pt d dx i1 i2 it l1 l2:de} {A:ic} {op:vv} {X:Cx} {D:Hk} {env:Env} {iter tg:gv} {fd:i0} {base h h':iq} {H H' H0 H1 H2:Hp} {J:It} {pins:Za1} {as fp:List de} {ms:Za5} {es:List gv} {ks ws:List Int} {cs ns:Za4} {N kz nm ps:Za6} {xs ys:List V} {us vs:Za3} {M:wn} {n t':Nat} {oT:Obj} {an od:Option de} {pos:Pos} {B:Prop} {scope:l9} {pl:Sem Bool} {s s2:dv} {sp:Sp} {qual z:Str} {te:TE} {wi:TI} {y:V} {cdv ct doc oc pm:dr} {w:gl}
section
variable {prog:fi} {w:gl} {A:ic} {E:Za0} {s:dv}
def Xz (prog:fi)(w:gl)(A:ic)(E:Za0)(s:dv)(kd:qj)(P:iu->Prop)(blt:iu->iu->Bool):Prop:=
 ∀(x y:iu) (st:mo) (Q:Option Bool->mo->Prop),P x->P y->kindOf st=kd->Q (some (blt x y)) st->wpS (model prog w) A E s (lt' x y) Q st
theorem Yj {arr:Array iu}{i:Nat}{p:iu}{st:mo}{Q:iu->mo->Prop}(e:arr[i]?=some p)(h:Q p st):wpS (model prog w) A E s (elem' arr i) Q st:=by
 rw[elem'_eq,e];exact jn h
variable {kd:qj} {P:iu->Prop} {blt:iu->iu->Bool} (L:Xz prog w A E s kd P blt)
include L
end
open TW
structure yL (S:Prop):Prop where
 h:S
theorem pO {c S T:Prop}[Decidable c](h1:yL S->c->T)(h2:yL S->¬ c->T)(h:S):T:=(BR c).elim (h1 ⟨h⟩) (h2 ⟨h⟩)
theorem tO {a:Array iu}{i:Nat}{x:iu}(h:a[i]?=some x):a.toList[i]?=some x:=by rw[fj];exact h
theorem Wo {xs:Array iu}{src d:Nat}(hs:src<xs.size)(hd:d<=src){x:iu}(hx:xs[src]?=some x) :
  (bubble xs src d).toList=xs.toList.take (src-d)++[x]++(xs.toList.drop (src-d)).take d++xs.toList.drop (src+1):=by
 have hl:xs.toList.length=xs.size:=fb;refine oj λk=>?_;rw[fj,getElem?_bubble hs d hd k];obtain⟨a,rfl⟩:=jv hd;rw[gz];have l1:(xs.toList.take a).length=a:=by rw[eg,hl];exact i9 (by lia)
 have l2:((xs.toList.drop a).take d).length=d:=by rw[eg,gh,hl];exact i9 (by lia)
 have l3:(xs.toList.take a++[x]).length=a+1:=by rw[c8,l1];rfl
 have l4:(xs.toList.take a++[x]++(xs.toList.drop a).take d).length=a+1+d:=by rw[c8,l3,l2]
 by_cases h1:k=a
 ·subst h1
  rw[if_pos rfl,hx,du,du,dq (lz l1),l1,jx];rfl
 ·rw[if_neg h1]
  by_cases h2:a<k/\k<=d+a
  ·obtain⟨i,rfl⟩:=jv (show a+1<=k from h2.1)
   rw[if_pos h2,eh (by rw[l4];lia),dq (by rw[l3];exact je _ _),l3,gz,ig,if_pos (by lia),il,fj,Nat.add_right_comm,ny]
  ·rw[if_neg h2]
   by_cases h3:k<a
   ·rw[du,du,eh (by rw[l1];exact h3),ig,if_pos h3,fj]
   ·obtain⟨i,rfl⟩:=jv (show a+1+d<=k by lia)
    rw[dq (by rw[l4];exact je _ _),l4,gz,il,fj,show d+a+1+i=a+1+d+i by lia]
theorem Xg {xs:Array iu}{i j:Nat}(hij:i<=j)(hj:j<=xs.size) :
  (mirror xs i j ((j-i)/2)).toList=xs.toList.take i++((xs.toList.drop i).take (j-i)).reverse++xs.toList.drop j:=by
 have hl:xs.toList.length=xs.size:=fb;refine oj λk=>?_;rw[fj,getElem?_mirror_all (i:=i) hj k];obtain⟨m,rfl⟩:=jv hij;rw[gz];have l1:(xs.toList.take i).length=i:=by rw[eg,hl];exact i9 (by lia)
 have l2:((xs.toList.drop i).take m).length=m:=by rw[eg,gh,hl];exact i9 (by lia)
 have l3:(xs.toList.take i++((xs.toList.drop i).take m).reverse).length=i+m:=by rw[c8,m5,l1,l2]
 by_cases h2:k<i
 ·rw[if_neg (λz=>HE.mpr h2 z.1),du,eh (by rw[l1];exact h2),ig,if_pos h2,fj]
 ·obtain⟨r,rfl⟩:=jv (qy.mp h2)
  by_cases h1:r<m
  ·obtain⟨q,rfl⟩:=jv (show r+1<=m from h1)
   rw[if_pos ⟨je _ _,by lia⟩,eh (by rw[l3];lia),dq (by rw[l1];exact je _ _),l1,gz,
    List.getElem?_reverse (by rw[l2];exact h1),l2,ig,if_pos (by lia),il,fj]
   congr 1;lia
  ·obtain⟨q,rfl⟩:=jv (qy.mp h1)
   rw[if_neg (by lia),dq (by rw[l3];lia),l3,il,fj,<-lh,gz]
theorem jL {blt:iu->iu->Bool}(o:Swo blt){l:List iu}{x y:iu}(h:Srt blt l)(hy:l[l.length-1]?=some y)(hx:blt x y=false):Srt blt (l++[x]):=by
 refine p7.mpr ⟨h,nz _ _,λa ha b hb=>?_⟩;rw[fg.mp hb];obtain⟨j,hj⟩:=jt ha;have hl:=(dk.mp hj).1;exact o.le (Uw o h (show j<=l.length-1 by lia) hj hy) hx
theorem Fp {xs:Array iu}{U V W:List iu}{i j:Nat}(e:xs.toList=U++V++W)(hi:i=U.length)(hj:j=U.length+V.length):(mirror xs i j ((j-i)/2)).toList=U++V.reverse++W:=by
 have hl:xs.size=U.length+V.length+W.length:=by rw[<-fb,e,c8,c8]
 rw[Xg (by lia) (by lia),e,hi,hj];have e1:(U++V++W).take U.length=U:=by rw[du,lr (c9 _),rk]
 have e2:(U++V++W).drop U.length=V++W:=by rw[du,j9 (c9 _),rp,jy]
 have e3:(U++V++W).drop (U.length+V.length)=W:=by rw[<-qv,e2,j9 (c9 _),rp,jy]
 rw[e1,e2,e3,gz,lr (c9 _),rk]
theorem Y9 {blt:iu->iu->Bool}(o:Swo blt){a b:List iu}(h:Srt blt (Ao blt a++b)):Ao blt (a++b)=Ao blt a++b:=by
 have hp:=p7.mp h;rw[gQ o,G9 hp.2.1];have:=Gv blt (ys:=b) (as:=Ao blt a) (xs:=[]) λx hx y hy=>hp.2.2 x hx y hy;rw[gd,Ds] at this;exact this
section
variable {prog:fi} {w:gl} {A:ic} {E:Za0} {s:dv}
variable {kd:qj} {P:iu->Prop} {blt:iu->iu->Bool} (L:Xz prog w A E s kd P blt) (o:Swo blt)
include L
theorem Go {st:mo}{i j:Nat}{x y:iu}{Q:Option Bool->mo->Prop}(hk:kindOf st=kd)(hi:(arrOf st)[i]?=some x)(hj:(arrOf st)[j]?=some y)(px:P x)(py:P y)(h:Q (some (blt x y)) st) :
  wpS (model prog w) A E s (ltAt' i j) Q st:=by
 rw[ltAt'_eq];refine wpS_bind (xm ?_);exact wpS_bind (Yj hi (wpS_bind (Yj hj (L _ _ _ _ px py hk h))))
include o
theorem Xq {st:mo}{lo a nrem:Nat}{T C D:List iu}{F:Nat->Option (Option Nat)×Nat->StateT mo Sem (ForInStep (Option (Option Nat)×Nat))}{Q:Option (Option Nat)×Nat->mo->Prop}
  (hF:∀x n,F x (none,n)=(do
   let r <-ltAt' (lo+n) (lo+n-1)
   match r with
   |some smaller=>if smaller=true then pure (sj (none,n)) else pure (rc (none,n+1))
   |x=>pure (sj (some none,n))))
  (hk:kindOf st=kd)(hP:∀x∈(arrOf st).toList,P x)(hT:T.length=lo)(hD:D.length=nrem)(ha:1<=a)(han:a<=nrem)(hC:C.length=a)(e:(arrOf st).toList=T++C++D.drop a)(sC:Srt blt C)
  (h:∀n,a<=n->n<=nrem->Srt blt (C++(D.drop a).take (n-a))->(n=nrem\/∃x y,(C++D.drop a)[n]?=some x/\(C++D.drop a)[n-1]?=some y/\blt x y=true)->Q (none,n) st) :
  wpS (model prog w) A E s (forIn [a:nrem] (none,a) F) Q st:=by
 have hl:(C++D.drop a).length=nrem:=by rw[c8,gh];lia
 have at_:∀j,(arrOf st)[lo+j]?=(C++D.drop a)[j]?:=λj=>by
  rw[<-fj,e,du,dq (by lia),hT,gz]
 have ctk:∀n,a<=n->n<=nrem->C++(D.drop a).take (n-a)=(C++D.drop a).take n:=λn h1 h2=>by
  rw[List.take_append,ej (l:=C) (by lia),hC]
 refine wpS_forRange (I:=λx c st'=>st'=st/\c=(none,x)/\Srt blt ((C++D.drop a).take x)) ?_ ?_ ⟨rfl,rfl,?_⟩
 ·rintro x c st' hx1 hx2 ⟨rfl,rfl,hs⟩
  rw[hF];obtain⟨u,eu⟩:∃u,(C++D.drop a)[x]?=some u:=⟨_,c6 (by lia)⟩;obtain⟨v,ev⟩:∃v,(C++D.drop a)[x-1]?=some v:=⟨_,c6 (by lia)⟩;have pu:(arrOf st')[lo+x]?=some u:=by rw[at_];exact eu
  have pv:(arrOf st')[lo+x-1]?=some v:=by rw[show lo+x-1=lo+(x-1) by lia,at_];exact ev
  refine wpS_bind (Go L hk pu pv (hP _ (e6 (tO pu))) (hP _ (e6 (tO pv))) ?_);dsimp only
  cases hb:blt u v with
  |true=>
   rw[if_pos rfl];exact jn (h x hx1 (by lia) (by rw[ctk x hx1 (by lia)];exact hs) (.inr ⟨u,v,eu,ev,hb⟩))
  |false=>
   rw[if_neg (by decide)];refine jn ⟨rfl,rfl,?_⟩;rw[Jx eu];refine jL o hs ?_ hb;rw[eg,hl,i9 (fw hx2),ig,if_pos (HB (by lia) GQ)];exact ev
 ·rintro c st' ⟨rfl,rfl,hs⟩
  have:max a nrem=nrem:=by lia
  rw[this] at hs ⊢;exact h nrem han (c9 _) (by rw[ctk nrem han (c9 _)];exact hs) (.inl rfl)
 ·rw[<-ctk a (c9 _) han,jx,ub,gd]
  exact sC
theorem Se {st:mo}{lo nrem:Nat}{Q:Option Nat->mo->Prop}(hk:kindOf st=kd)(hP:∀x∈(arrOf st).toList,P x)(hn:lo+nrem=(arrOf st).size)(h1:1<=nrem)
  (h:∀m (xs:Array iu),1<=m->m<=nrem->xs.toList=(arrOf st).toList.take lo++Ao blt (((arrOf st).toList.drop lo).take m)++((arrOf st).toList.drop lo).drop m->Q (some m) (setArr st xs)) :
  wpS (model prog w) A E s (countRun' lo nrem) Q st:=by
 have hl:(arrOf st).toList.length=(arrOf st).size:=fb;generalize hT:(arrOf st).toList.take lo=T at *;generalize hD:(arrOf st).toList.drop lo=D at *;have e:(arrOf st).toList=T++D:=by rw[<-hT,<-hD,jc]
 have lT:T.length=lo:=by rw[<-hT,eg];lia
 have lD:D.length=nrem:=by rw[<-hD,gh];lia
 obtain⟨d0,e0⟩:∃d0,D[0]?=some d0:=⟨_,c6 (by lia)⟩;have eD:D.take 1++D.drop 1=D:=jc 1 D;refine wpS_bind (Xq L o (T:=T) (C:=D.take 1) (D:=D) (λx n=>rfl) hk hP lT lD (c9 1) h1 (by rw[eg];lia) (by rw[du,eD];exact e) (by rw[Jx e0];exact nz _ _) λn hn1 hn2 sn hor=>?_);have etk:D.take 1++(D.drop 1).take (n-1)=D.take n:=by rw[show n=1+(n-1) by lia,yt,gz]
 rw[etk] at sn;rw[eD] at hor;dsimp only;have PD:∀y∈D,P y:=λy hy=>hP y (by rw[e];exact fk _ hy)
 by_cases c1:(n==nrem)=true
 ·rw[if_pos c1]
  refine jn (h n (arrOf st) hn1 hn2 ?_);rw[G9 sn,du,jc];exact e
 rw[if_neg c1];rw[beq_iff_eq] at c1;obtain⟨x,y,ex,ey,hxy⟩:=hor.resolve_left c1;have lDn:(D.take n).length=n:=by rw[eg];lia
 apply pO (c:=n>1)
 case h1=>
  intro way hgt;rw[if_pos hgt];have a0:(arrOf st)[lo]?=some d0:=by rw[<-fj,e,dq (by lia),lT,jx];exact e0
  have ay:(arrOf st)[lo+n-1]?=some y:=by rw[CF hn1,<-fj,e,dq (by rw[lT];exact je _ _),lT,gz];exact ey
  refine wpS_bind (Go L hk a0 ay (PD _ (e6 e0)) (PD _ (e6 ey)) ?_);dsimp only
  by_cases hrose:blt d0 y=true
  ·rw[if_pos hrose]
   refine jn (h n (arrOf st) hn1 hn2 ?_);rw[G9 sn,du,jc];exact e
  rw[if_neg hrose];have hrose:blt d0 y=false:=by simpa using hrose
  have key:∀j z,j<n->D[j]?=some z->blt z y=false:=λj z hj ez=>by
   have h2:=Uw o sn (fq j) (by rw[ig,if_pos (by lia)];exact e0) (by rw[ig,if_pos hj];exact ez)
   cases hc:blt z y with
   |false=>rfl
   |true=>
    rcases o.ng z d0 y hc with h3|h3
    ·rw[h2] at h3;cases h3
    ·rw[hrose] at h3;cases h3
  have hall:∀z∈D.take n,blt x z=true:=λz hz=>by
   obtain⟨j,hj,ez⟩:=P1 hz;exact o.ltle hxy (key j z hj ez)
  refine wpS_bind (vh ?_);have m1:=Fp (xs:=arrOf st) (U:=T) (V:=D.take n) (W:=D.drop n) (i:=lo) (j:=lo+n) (by rw[du,jc];exact e) lT.symm (by rw[lDn,lT])
  revert hall m1
  generalize mirror (arrOf st) lo (lo+n) ((lo+n-lo)/2)=xs1
  revert xs1
  exact way.h
 case h2=>
  intro way hgt;rw[if_neg hgt];have n1:n=1:=by lia
  have hall:∀z∈D.take n,blt x z=true:=λz hz=>by
   obtain⟨j,hj,ez⟩:=P1 hz;have:j=n-1:=by lia
   rw[this,ey] at ez;cases ez;exact hxy
  have m1:(arrOf st).toList=T++(D.take n).reverse++D.drop n:=by
   rw[n1,Jx e0,ub,jy,List.reverse_singleton,e,du];show T++D=T++(d0::D.drop (0+1));rw[<-Ju e0,mj]
  exact way.h (arrOf st) hall m1
 case h=>
  intro xs1 hall m1;refine wpS_bind (CM (ug ⟨rfl,?_⟩));refine wpS_bind (wpS_mono (wpS_forRange
   (I:=λu c st'=>∃(neq:Nat) (xs:Array iu) (hd tl:List iu),c=(none,u,neq)/\st'=setArr st xs/\xs.toList=T++(hd++tl)++D.drop u/\(hd++tl).length=u/\tl.length=neq+1/\Ao blt (D.take u)=tl++hd.reverse/\(∀a∈hd,∀b∈tl,blt b a=true)/\(∀a∈tl,∀b∈tl,blt a b=false))
   (Q:=λc st'=>∃(m neq:Nat) (xs:Array iu) (hd tl:List iu),c=(none,m,neq)/\n+1<=m/\m<=nrem/\st'=setArr st xs/\xs.toList=T++(hd++tl)++D.drop m/\(hd++tl).length=m/\tl.length=neq+1/\Ao blt (D.take m)=tl++hd.reverse) ?_ ?_ ⟨0,xs1,(D.take n).reverse,[x],rfl,rfl,?_,?_,rfl,?_,?_,?_⟩) ?_)
  ·rintro u c st' hu1 hu2 ⟨neq,xs,hd,tl,rfl,rfl,q1,q2,q3,q4,q5,q6⟩
   dsimp only;obtain⟨v,ev⟩:∃v,D[u]?=some v:=⟨_,c6 (by lia)⟩;obtain⟨t,et⟩:∃t,tl[tl.length-1]?=some t:=⟨_,c6 (by lia)⟩;have htl:=e6 et;have PT:∀z∈tl,P z:=λz hz=>PD z (ky ((B4 blt (D.take u)).mem_iff.mp (by rw[q4];exact jr _ hz)));have pv:(arrOf (setArr st xs))[lo+u]?=some v:=by
    show xs[lo+u]?=some v;rw[<-fj,q1,dq (by rw[c8];lia),c8,q2,lT,jx,il,tu];exact ev
   have pt:(arrOf (setArr st xs))[lo+u-1]?=some t:=by
    show xs[lo+u-1]?=some t;have hu:1<=u:=by lia
    have q2':=q2;rw[c8] at q2';rw[CF hu,<-fj,q1,du,dq (by rw[lT];exact je _ _),lT,gz,eh (by rw[q2];exact HB hu GQ),dq (by lia),show u-1-hd.length=tl.length-1 by lia];exact et
   refine wpS_bind (Go L hk pv pt (PD _ (e6 ev)) (PT _ htl) ?_);dsimp only;have esn:Ao blt (D.take (u+1))=mg blt (tl++hd.reverse) [v]:=by rw[Jx ev,Bp,q4]
   have edr:=Ju ev
   cases hs:blt v t with
   |true=>
    rw[if_pos rfl];have v1:∀z∈tl,blt v z=true:=λz hz=>o.ltle hs (q6 z hz t htl);have v2:∀z∈hd,blt v z=true:=λz hz=>o.tr _ _ _ hs (q5 z hz t htl);have e5:Ao blt (D.take (u+1))=[v]++(hd++tl.reverse).reverse:=by
     rw[esn,qd,p6];have:=Gs blt (xs:=tl++hd.reverse) (bs:=[v]) (ys:=[]) λb hb z hz=>by
      rw[fg.mp hb];rcases f8.mp hz with hz|hz
      ·exact v1 z hz
      ·exact v2 z (o9.mp hz)
     rw[gd,B7] at this;exact this
    have fin:∀ys:Array iu,ys.toList=T++(hd++tl.reverse)++D.drop u->∃(neq':Nat) (xs':Array iu) (hd' tl':List iu),((none,u+1,0):Option (Option Nat)×Nat×Nat)=(none,u+1,neq')/\setArr st ys=setArr st xs'/\xs'.toList=T++(hd'++tl')++D.drop (u+1)/\(hd'++tl').length=u+1/\tl'.length=neq'+1/\Ao blt (D.take (u+1))=tl'++hd'.reverse/\(∀a∈hd',∀b∈tl',blt b a=true)/\(∀a∈tl',∀b∈tl',blt a b=false):=λys ey=>by
     refine⟨0,ys,hd++tl.reverse,[v],rfl,rfl,?_,?_,rfl,e5,?_,?_⟩
     ·rw[ey,edr]
      simp only[du,kj,jy]
     ·rw[c8,c8,m5,<-c8,q2]
      rfl
     ·intro a ha b hb
      rw[fg.mp hb];rcases f8.mp ha with ha|ha
      ·exact v2 a ha
      ·exact v1 a (o9.mp ha)
     ·intro a ha b hb
      rw[fg.mp ha,fg.mp hb];exact o.irr v
    by_cases hq:neq>0
    ·rw[if_pos hq]
     refine wpS_bind (vh (jn (fin _ ?_)));have hlen:hd.length+tl.length=u:=by rw[<-c8];exact q2
     have:=Fp (xs:=xs) (U:=T++hd) (V:=tl) (W:=D.drop u) (i:=lo+u-(neq+1)) (j:=lo+u) (by rw[q1];simp only[du]) (by rw[c8,lT,<-hlen,q3,<-lh,ny]) (by rw[c8,lT,<-hlen,<-lh]);show(mirror xs _ _ _).toList=_;rw[this];simp only[du]
    ·rw[if_neg hq]
     refine jn (fin _ ?_);have:tl.reverse=tl:=by
      obtain⟨z,rfl⟩:=y6.mp (show tl.length=1 by lia);rfl
     rw[this];exact q1
   |false=>
    rw[if_neg (by decide)];refine wpS_bind (Go L hk pt pv (PT _ htl) (PD _ (e6 ev)) ?_);dsimp only
    cases hg:blt t v with
    |true=>
     rw[if_pos rfl];exact jn ⟨u,neq,xs,hd,tl,rfl,hu1,by lia,rfl,q1,q2,q3,q4⟩
    |false=>
     rw[if_neg (by decide)];have v1:∀z∈tl,blt v z=false:=λz hz=>o.le (q6 t htl z hz) hs;have v3:∀z∈tl,blt z v=false:=λz hz=>o.le hg (q6 z hz t htl);have v2:∀z∈hd,blt v z=true:=λz hz=>o.lelt hg (q5 z hz t htl);refine jn ⟨neq+1,xs,hd,tl++[v],rfl,rfl,?_,?_,?_,?_,?_,?_⟩
     ·rw[q1,edr]
      simp only[du,kj,jy]
     ·rw[<-du,c8,q2]
      rfl
     ·rw[c8,q3]
      rfl
     ·rw[esn,Gv blt λa ha z hz=>by rw[fg.mp hz];exact v1 a ha]
      have:=Gs blt (xs:=hd.reverse) (bs:=[v]) (ys:=[]) λb hb z hz=>by
       rw[fg.mp hb];exact v2 z (o9.mp hz)
      rw[gd,B7] at this;rw[this,du]
     ·intro a ha b hb
      rcases f8.mp hb with hb|hb
      ·exact q5 a ha b hb
      ·rw[fg.mp hb];exact v2 a ha
     ·intro a ha b hb
      rcases f8.mp ha with ha|ha
      ·rcases f8.mp hb with hb|hb
       ·exact q6 a ha b hb
       ·rw[fg.mp hb];exact v3 a ha
      ·rw[fg.mp ha]
       rcases f8.mp hb with hb|hb
       ·exact v1 b hb
       ·rw[fg.mp hb];exact o.irr v
  ·rintro c st' ⟨neq,xs,hd,tl,rfl,rfl,q1,q2,q3,q4,q5,q6⟩
   have hmx:max (n+1) nrem=nrem:=by lia
   rw[hmx] at q1 q2 q4 ⊢;exact⟨nrem,neq,xs,hd,tl,rfl,by lia,c9 _,rfl,q1,q2,q3,q4⟩
  ·rw[m1,Ju ex]
   simp only[du,kj,jy]
  ·rw[c8,m5,lDn]
   rfl
  ·rw[Jx ex,Bp,G9 sn,p6]
   have:=Gs blt (xs:=D.take n) (bs:=[x]) (ys:=[]) λb hb z hz=>by
    rw[fg.mp hb];exact hall z hz
   rw[gd,B7] at this;exact this
  ·intro a ha b hb
   rw[fg.mp hb];exact hall a (o9.mp ha)
  ·intro a ha b hb
   rw[fg.mp ha,fg.mp hb];exact o.irr x
  ·rintro c st' ⟨m,neq,xs,hd,tl,rfl,hm1,hm2,rfl,q1,q2,q3,q4⟩
   dsimp only;have hlen:hd.length+tl.length=m:=by rw[<-c8];exact q2
   have last:∀ys:Array iu,ys.toList=T++(tl++hd.reverse)++D.drop m->∀F:Nat->Option (Option Nat)×Nat->StateT mo Sem (ForInStep (Option (Option Nat)×Nat)),
     (∀x n,F x (none,n)=(do
      let r <-ltAt' (lo+n) (lo+n-1)
      match r with
      |some smaller=>if smaller=true then pure (sj (none,n)) else pure (rc (none,n+1))
      |x=>pure (sj (some none,n)))) ->
     wpS (model prog w) A E s (forIn [m:nrem] (none,m) F) (λr st'=>∃m',r=(none,m')/\Q (some m') st') (setArr st ys):=λys ey F hF=>by
    have sC:Srt blt (tl++hd.reverse):=by rw[<-q4];exact S7 o _
    refine Xq L o (T:=T) (C:=tl++hd.reverse) (D:=D) hF hk ?_ lT lD (by lia) hm2 (by rw[c8,m5];lia) ey sC λn' hn1' hn2' sn' _=>⟨n',rfl,h n' ys (by lia) hn2' ?_⟩
    ·intro z hz
     have hz:z∈ys.toList:=hz;rw[ey] at hz;rcases f8.mp hz with hz|hz
     ·rcases f8.mp hz with hz|hz
      ·exact hP z (by rw[e];exact jr _ hz)
      ·rw[<-q4] at hz
       exact PD z (ky ((B4 blt _).mem_iff.mp hz))
     ·exact PD z (ud hz)
    ·rw[<-q4] at sn'
     have e7:D.take n'=D.take m++(D.drop m).take (n'-m):=by rw[Z4 D hn1']
     rw[e7,Y9 o sn',ey,q4];have e8:D.drop m=(D.drop m).take (n'-m)++D.drop n':=by
      have:=cY D m (n'-m);rw[Nat.add_sub_cancel' hn1'] at this;exact this
     conv=>lhs;rw[e8]
     simp only[du]
   by_cases hq:neq>0
   ·rw[if_pos hq]
    have r1:=Fp (xs:=xs) (U:=T++hd) (V:=tl) (W:=D.drop m) (i:=lo+m-(neq+1)) (j:=lo+m) (by rw[q1];simp only[du]) (by rw[c8,lT,<-hlen,q3,<-lh,ny]) (by rw[c8,lT,<-hlen,<-lh]);refine wpS_bind (vh ?_);refine wpS_bind (vh ?_);have r2:=Fp (xs:=mirror xs (lo+m-(neq+1)) (lo+m) ((lo+m-(lo+m-(neq+1)))/2)) (U:=T) (V:=hd++tl.reverse) (W:=D.drop m) (i:=lo) (j:=lo+m) (by rw[r1];simp only[du]) lT.symm (by rw[c8,m5];lia);rw[qd,p6] at r2;refine wpS_bind (wpS_mono (last _ r2 _ (λx n=>rfl)) ?_);rintro c st' ⟨m',rfl,hQ⟩;exact jn hQ
   ·rw[if_neg hq]
    have hrv:tl.reverse=tl:=by
     obtain⟨z,rfl⟩:=y6.mp (show tl.length=1 by lia);rfl
    refine wpS_bind (vh ?_);have r2:=Fp (xs:=xs) (U:=T) (V:=hd++tl) (W:=D.drop m) (i:=lo) (j:=lo+m) q1 lT.symm (by rw[q2];lia);rw[qd,hrv] at r2;refine wpS_bind (wpS_mono (last _ r2 _ (λx n=>rfl)) ?_);rintro c st' ⟨m',rfl,hQ⟩;exact jn hQ
end
theorem gL {U V W:List iu}:(U++(V++W)).take U.length=U/\(U++(V++W)).drop U.length=V++W/\((U++(V++W)).drop U.length).take V.length=V/\(U++(V++W)).drop (U.length+V.length)=W:=by
 have e2:(U++(V++W)).drop U.length=V++W:=by rw[j9 (c9 _),rp,jy]
 refine⟨by rw[lr (c9 _),rk],e2,?_,?_⟩
 ·rw[e2,lr (c9 _),rk]
 ·rw[<-qv,e2,j9 (c9 _),rp,jy]
section
variable {prog:fi} {w:gl} {A:ic} {E:Za0} {s:dv}
variable {kd:qj} {P:iu->Prop} {blt:iu->iu->Bool} (L:Xz prog w A E s kd P blt) (o:Swo blt)
include L o
theorem N4 {st:mo}{lo ok:Nat}{T D:List iu}{Q:Bool->mo->Prop}(hk:kindOf st=kd)(hP:∀x∈D,P x)(hT:T.length=lo)(hok:1<=ok)(hn:ok<=n)(hD:n<=D.length)
  (e:(arrOf st).toList=T++Ao blt (D.take ok)++D.drop ok)(h:∀xs:Array iu,xs.toList=T++Ao blt (D.take n)++D.drop n->Q true (setArr st xs)) :
  wpS (model prog w) A E s (binarySort' lo n ok) Q st:=by
 have hmx:max ok 1=ok:=by lia
 refine wpS_bind (wpS_mono (wpS_forRange (I:=λk c st'=>c=(none,())/\k<=n/\∃xs:Array iu,st'=setArr st xs/\xs.toList=T++Ao blt (D.take k)++D.drop k)
  (Q:=λc st'=>c=(none,())/\∃xs:Array iu,st'=setArr st xs/\xs.toList=T++Ao blt (D.take n)++D.drop n) ?_ ?_ ⟨rfl,by lia,arrOf st,rfl,by rw[hmx];exact e⟩) ?_)
 ·rintro k c st' hk1 hk2 ⟨rfl,_,xs,rfl,ex⟩
  dsimp only;obtain⟨v,ev⟩:∃v,D[k]?=some v:=⟨_,c6 (by lia)⟩;have lS:(Ao blt (D.take k)).length=k:=by rw[Dw,eg];lia
  have sS:=S7 o (D.take k);have pS:∀x∈Ao blt (D.take k),P x:=λx hx=>hP x (ky ((B4 blt _).mem_iff.mp hx));have esn:Ao blt (D.take (k+1))=mg blt (Ao blt (D.take k)) [v]:=by rw[Jx ev,Bp]
  generalize Ao blt (D.take k)=S at *;have pv:xs[lo+k]?=some v:=by
   rw[<-fj,ex,dq (by rw[c8];lia),c8,lS,hT,jx,il,tu];exact ev
  have pm:∀m,m<k->xs[lo+m]?=S[m]?:=λm hm=>by
   rw[<-fj,ex,du,dq (by lia),hT,gz,eh (by lia)]
  refine wpS_bind (wpS_mono (wpS_forRange (I:=λx c st'=>∃l r,c=(none,l,r)/\st'=setArr st xs/\l<=r/\r<=k/\r-l+x<=k/\(∀i z,i<l->S[i]?=some z->blt v z=false)/\(∀i z,r<=i->S[i]?=some z->blt v z=true))
   (Q:=λc st'=>∃l r,c=(none,l,r)/\st'=setArr st xs/\l<=k/\(∀i z,i<l->S[i]?=some z->blt v z=false)/\(∀i z,l<=i->S[i]?=some z->blt v z=true)) ?_ ?_ ⟨0,k,rfl,rfl,by lia,by lia,by lia,?_,?_⟩) ?_)
  ·rintro x c st' _ hx ⟨l,r,rfl,rfl,q1,q2,q3,q4,q5⟩
   dsimp only
   by_cases hge:l>=r
   ·rw[if_pos hge]
    exact jn ⟨l,r,rfl,rfl,by lia,q4,λi z hi ez=>q5 i z (by lia) ez⟩
   ·rw[if_neg hge]
    have ht1:l<=(l+r)/2:=by lia
    have ht2:(l+r)/2<r:=by lia
    generalize (l+r)/2=t at *;obtain⟨z,ez⟩:∃z,S[t]?=some z:=⟨_,c6 (by lia)⟩;refine wpS_bind (Go L hk pv (by show xs[_]?=_;rw[pm _ (by lia)];exact ez) (hP _ (e6 ev)) (pS _ (e6 ez)) ?_);dsimp only
    cases hb:blt v z with
    |true=>
     rw[if_pos rfl];exact jn ⟨_,_,rfl,rfl,by lia,by lia,by lia,q4,λi z' hi ez'=>o.ltle hb (Uw o sS hi ez ez')⟩
    |false=>
     rw[if_neg (by decide)];exact jn ⟨_,_,rfl,rfl,by lia,by lia,by lia,(λi z' hi ez'=>o.le (Uw o sS (show i<=t by lia) ez' ez) hb),q5⟩
  ·rintro c st' ⟨l,r,rfl,rfl,q1,q2,q3,q4,q5⟩
   have:max 0 k=k:=by lia
   rw[this] at q3;exact⟨l,r,rfl,rfl,by lia,q4,λi z hi ez=>q5 i z (by lia) ez⟩
  ·intro i z hi
   lia
  ·intro i z hi ez
   have:=(dk.mp ez).1;lia
  ·rintro c st' ⟨l,r,rfl,rfl,q1,q4,q5⟩
   dsimp only;refine wpS_bind (?_:wpS (model prog w) A E s (moveDown' (lo+k) (lo+l)) _ _);rw[moveDown'_eq];refine DN (jn ⟨rfl,by lia,bubble xs (lo+k) (lo+k-(lo+l)),rfl,?_⟩);have hsz:xs.size=lo+D.length:=by
    rw[<-fb,ex,c8,c8,lS,hT,gh];lia
   rw[Wo (by lia) (by lia) pv,Nat.sub_sub_self (Nat.add_le_add_left (by lia) lo),Nat.add_sub_add_left,ex];have hl:T.length+(S.take l).length=lo+l:=by rw[eg];lia
   have e1:T++S++D.drop k=(T++S.take l)++(S.drop l++D.drop k):=by
    conv=>lhs;rw[<-jc l S]
    simp only[du]
   have hl2:(S.drop l).length=k-l:=by rw[gh,lS]
   obtain⟨m1,m2,m3,m4⟩:=gL (U:=T++S.take l) (V:=S.drop l) (W:=D.drop k);rw[c8,hl] at m1 m2 m3 m4;rw[hl2] at m3 m4;have e2:(T++S++D.drop k).drop (lo+k+1)=D.drop (k+1):=by
    rw[<-qv,e1,show lo+k=lo+l+(k-l) by lia,m4,qv]
   rw[e2,e1,m1,m3,esn];have hS:S=S.take l++S.drop l:=(jc l S).symm
   conv=>rhs;rw[hS]
   rw[Gv blt λa ha y hy=>?_]
   ·have:=Gs blt (xs:=S.drop l) (bs:=[v]) (ys:=[]) λb hb z hz=>by
     rw[fg.mp hb];obtain⟨j,hj,ez⟩:=nR hz;exact q5 j z hj ez
    rw[gd,B7] at this;rw[this];simp only[du]
   ·rw[fg.mp hy]
    obtain⟨j,hj,ez⟩:=P1 ha;exact q4 j a hj ez
 ·rintro c st' ⟨rfl,hle,xs,rfl,ex⟩
  rw[hmx] at hle ex;have:max ok n=n:=by lia
  rw[this] at ex;exact⟨rfl,xs,rfl,ex⟩
 ·rintro c st' ⟨rfl,xs,rfl,ex⟩
  exact jn (h xs ex)
end
section
variable {prog:fi} {w:gl} {A:ic} {E:Za0} {s:dv}
theorem qR {a b:Int}{t u:Tok}{Q:Bool->dv->Prop}{E:Za0}(h:Q (a==b) s):wpAny (model prog w) A (eqBool (.int a t) (.int b u)) Q E s:=yo a t b u prog w _ _ h
end
def Sm (N H:Hp):Hp:=λb=>match N b with|some o=>some o|none=>H b
theorem Jc {N:Hp}{b:de}{o:HO}(h:N b=some o):Sm N H b=some o:=by unfold Sm;rw[h]
theorem E8 {N:Hp}{b:de}(h:N b=none):Sm N H b=H b:=by unfold Sm;rw[h]
def fM (oc:Obj)(qual:Str):Prop:=∃vs t,oc.data=.fields vs/\vs[1]?=some (.str qual t)
def Xe (H:Hp)(P:de)(pos:Pos)(qual:Str):Prop:=∃ps:Array dr,H P=some (.tbl ps)/\TriplesOk ps.toList/\(codeAmong pos ps.toList=none\/∃c' oc,codeAmong pos ps.toList=some (.ref c')/\H c'=some (.frz oc (.own 0))/\fM oc qual)
section
variable {X:Cx} {pins:Za1} {Y:St} {H:Hp} {s:dv}
theorem Inv.grown {P:de}{ps more:Array dr}{N:Hp}(I:Inv X pins Y H s)(hP:H P=some (.tbl ps))(k:∀b u,b≠P->s.heap.get? b=some u->h'.get? b=some u)(hT:h'.get? P=some (td (ps++more)))
  (hp:∀b o,N b=some o->s.heap.objs.size<=b)(new:∀b o,N b=some o->Cc X.prog X.w (Sm N (upd H P (.tbl (ps++more)))) h' b o):Inv X pins Y (Sm N (upd H P (.tbl (ps++more)))) { s with heap:=h',toks:=t' }:=by
 have hlt:P<s.heap.objs.size:=(I.hok P _ hP).lt;have hNP:N P=none:=by
  cases e:N P with
  |none=>rfl
  |some o=>exact absurd hlt (qy.mpr (hp P o e))
 have hn:∀b o,N b=some o->H b=none:=λb o e=>I.hok.fresh (hp b o e);have old:∀b u,s.heap.get? b=some u->N b=none:=λb u e=>by
  cases hN:N b with
  |none=>rfl
  |some o=>exact absurd (d7 e) (qy.mpr (hp b o hN))
 have sm:∀b o,b≠P->H b=some o->Sm N (upd H P (.tbl (ps++more))) b=some o:=λb o hb e=>by
  have:N b=none:=by
   cases hN:N b with
   |none=>rfl
   |some u=>rw[hn b u hN] at e;cases e
  rw[E8 this,Ai hb];exact e
 have neP:∀b,H b=none->b≠P:=λb e z=>by rw[z,hP] at e;cases e
 refine I.un ⟨λb u q n _ _=>k b u (neP b n) q,λb u q n _ _=>⟨u.slots,k b u (neP b n) q⟩,λb u q n _=>by rw[E8 (old b u q),Ai (neP b n)];exact n,λb u q _=>?_,λb xs q=>sm _ _ (λz=>by rw[z,hP] at q;cases q) q,λb u xs q=>sm _ _ (λz=>by rw[z,hP] at q;cases q) q,λb qs q=>?_⟩ λb o e=>?_
 ·by_cases hb:b=P
  ·rw[hb];exact⟨_,hT⟩
  ·exact⟨u,k b u hb q⟩
 ·by_cases hb:b=P
  ·rw[hb,hP] at q
   cases q;exact⟨more,by rw[hb,E8 hNP,Ac]⟩
  ·exact⟨#[],by rw[sm b _ hb q];simp⟩
 ·cases hN:N b with
  |some u=>
   rw[Jc hN] at e;cases e;exact new b _ hN
  |none=>
   rw[E8 hN] at e
   by_cases hb:b=P
   ·rw[hb,Ac] at e
    cases e;rw[hb];exact hT
   ·rw[Ai hb] at e
    refine(I.hok b o e).stay (λc v hc q=>k c v (λz=>?_) q) (λc q=>sm _ _ (λz=>by rw[z,hP] at q;cases q) q) λc xs q=>sm _ _ (λz=>by rw[z,hP] at q;cases q) q;rcases hc with h|h
    ·exact hb (h▸z)
    ·rw[z,hP] at h;cases h
end
def W4 (P:de)(H H':Hp):Prop:=∀b u,b≠P->H b=some u->H' b=some u
section
variable {X:Cx} {pins:Za1} {Y:St} {H:Hp} {s:dv} {M:wn} {A:ic} {E:Za0} {Q:Za0} {c P:de} {pos:Pos} {qual:Str} {params:yj} {body:gv} {scope:l9} {clos:List (Str×de)}
theorem nB (I:Inv X pins Y H s)(T:Xe H P pos qual)(C:EA X.base c P)(hb:X.base.BuiltinsAt X.mg P)(hcode:X.env.code=.ref c)(hcl:closureFor scope X.env=pure clos)(hdef:defaultsOf params X.env=([],[]))(hq:X.env.qual++"<lambda>"=qual)
  (h:∀(f c':de) (oc:Obj) (pm ctv:dr) (s':dv) (H':Hp),Inv X pins Y H' s'->Xe H' P pos qual->W4 P H H'->H f=none->H' f=some (.frz (BF "<lambda>" qual params body scope clos pm c' ctv) (.own 0))->H' c'=some (.frz oc (.own 0))->fM oc qual->Q (.ref f) s') :
  wpAny M A (eval (.Lambda params body scope pos) X.env) Q E s:=by
 obtain⟨ps,hP,ht,hc⟩:=T;refine PySem.W.kla_eval hdef ?_;rw[hq];have hPs:s.heap.get? P=some (td ps):=I.hok P _ hP;have hg:s.heap.Ns mainGlobals X.mg:=I.mod.glob.keeps I.bk;have hgP:mainGlobals≠P:=λe=>by
  obtain⟨o,es,ep,e1,d,_⟩:=I.mod.glob;have:=(I.bs _ _ e1).2;rw[e,hP] at this;cases this
 have hb':s.heap.BuiltinsAt X.mg P:=by
  obtain⟨bm,o,a1,a2,a3,a4,a5,a6⟩:=hb;exact⟨bm,o,a1,a2,a3,a4,I.bk _ _ a5,a6⟩
 rcases hc with hc|⟨c',oc,hc,hc',ho⟩
 ·refine PySem.W.kla_makeFunction hcl I.ok.glob hg hcode (C.keeps I.bk) hPs ht hc hgP hb' λc' ctv h' tk hx hge hlt hrec htb=>?_
  obtain⟨c₂,oc,vs,t,e2,hoc,hd,hv⟩:=hrec;cases e2
  let fo:=BF "<lambda>" qual params body scope clos ((X.mg "__name__").getD .none) c' ctv
  let N:Hp:=λb=>if b=h'.objs.size then some (.frz fo (.own 0)) else if b=c' then some (.frz oc (.own 0)) else none
  have n1:N h'.objs.size=some (.frz fo (.own 0)):=if_pos rfl;have n2:N c'=some (.frz oc (.own 0)):=(if_neg (fh hlt)).trans (if_pos rfl);have n3:∀b o,N b=some o->(b=h'.objs.size/\o=.frz fo (.own 0))\/(b=c'/\o=.frz oc (.own 0)):=λb o e=>by
   by_cases h1:b=h'.objs.size
   ·rw[h1,n1] at e;cases e;exact .inl ⟨h1,rfl⟩
   ·by_cases h2:b=c'
    ·rw[h2,n2] at e;cases e;exact .inr ⟨h2,rfl⟩
    ·have:N b=none:=(if_neg h1).trans (if_neg h2)
     rw[this] at e;cases e
  have hp:∀b o,N b=some o->s.heap.objs.size<=b:=λb o e=>by
   rcases n3 b o e with⟨r,_⟩|⟨r,_⟩<;>rw[r]
   ·exact gm hge (fw hlt)
   ·exact hge
  have hNP:N P=none:=by
   cases e:N P with
   |none=>rfl
   |some o=>exact absurd (I.hok P _ hP).lt (qy.mpr (hp P o e))
  have gf:(h'.push fo).get? h'.objs.size=some fo:=fv _ rfl;have gc:(h'.push fo).get? c'=some oc:=dg _ hoc;have I':=Inv.grown (N:=N) (more:=#[DU pos.line,DU pos.col,.ref c']) (h':=h'.push fo) (t':=tk) I hP (λb u hb e=>dg _ (hx b u hb e)) (dg _ htb) hp λb o e=>by
   rcases n3 b o e with⟨r,r'⟩|⟨r,r'⟩<;>rw[r,r']
   ·exact⟨gf,_,gf⟩
   ·exact⟨gc,_,gc⟩
  refine h _ c' oc _ ctv _ _ I' ⟨_,by rw[E8 hNP,Ac],?_,.inr ⟨c',oc,?_,Jc n2,vs,t,hd,hv⟩⟩ (λb u hb e=>?_) (I.hok.fresh (hp _ _ n1)) (Jc n1) (Jc n2) ⟨vs,t,hd,hv⟩
  ·rw[qb];exact TriplesOk_snoc _ _ _ _ ht
  ·rw[qb];exact codeAmong_snoc _ ht hc
  ·have:N b=none:=by
    cases hN:N b with
    |none=>rfl
    |some o=>rw[I.hok.fresh (hp b o hN)] at e;cases e
   rw[E8 this,Ai hb];exact e
 ·refine PySem.W.kla_makeFunctionHit hcl I.ok.glob hg hcode (C.keeps I.bk) hPs ht hc hb' λctv h' tk hk hsz=>?_
  let fo:=BF "<lambda>" qual params body scope clos ((X.mg "__name__").getD .none) c' ctv
  let N:Hp:=λb=>if b=h'.objs.size then some (.frz fo (.own 0)) else none
  have n1:N h'.objs.size=some (.frz fo (.own 0)):=if_pos rfl;have n3:∀b o,N b=some o->b=h'.objs.size/\o=.frz fo (.own 0):=λb o e=>by
   by_cases h1:b=h'.objs.size
   ·rw[h1,n1] at e;cases e;exact⟨h1,rfl⟩
   ·have:N b=none:=if_neg h1
    rw[this] at e;cases e
  have hp:∀b o,N b=some o->s.heap.objs.size<=b:=λb o e=>by rw[(n3 b o e).1];exact hsz
  have hn:∀b u,H b=some u->N b=none:=λb u e=>by
   cases hN:N b with
   |none=>rfl
   |some o=>rw[I.hok.fresh (hp b o hN)] at e;cases e
  have gf:(h'.push fo).get? h'.objs.size=some fo:=fv _ rfl;have I':=Inv.grown (N:=N) (more:=#[]) (h':=h'.push fo) (t':=tk) I hP (λb u _ e=>dg _ (hk b u e)) (by rw[AF];exact dg _ (hk _ _ hPs)) hp λb o e=>by
   rw[(n3 b o e).1,(n3 b o e).2];exact⟨gf,_,gf⟩
  rw[AF] at I';have old:∀b u,b≠P->H b=some u->Sm N (upd H P (.tbl ps)) b=some u:=λb u hb e=>by rw[E8 (hn b u e),Ai hb];exact e
  have hcP:c'≠P:=En hc' hP (by intro q;cases q);exact h _ c' oc _ ctv _ _ I' ⟨ps,by rw[E8 (hn P _ hP),Ac],ht,.inr ⟨c',oc,hc,old _ _ hcP hc',ho⟩⟩ old (I.hok.fresh (hp _ _ n1)) (Jc n1) (old _ _ hcP hc') ho
end
section
variable {prog:fi} {w:gl} {A:ic} {R:uh->dv->Prop} {s:dv}
theorem nH {f c' c a:de}{k d:Str}{params:yj}{cl:List (Str×de)}{ctv u v:dr}{pk pd pp:Pos}{its:Array dr}{i:Int}{ti:Tok}
  (ho:s.heap.get? f=some (BF "<lambda>" qual params (.Subscript (.Name d pd) (.Name k pk) pp) scope cl pm c' ctv))(hcd:s.heap.CodeRec (.ref c') qual)(hroom:A.depth<recursionLimit)(hlim:s.heap.NoLimit)
  (hbind:bindArgs (BI "<lambda>" qual params (.Subscript (.Name d pd) (.Name k pk) pp) scope cl pm (.ref c') ctv) ⟨[.int i ti],[]⟩=pure [(k,.int i ti)])
  (hk:scope.kind=.function)(hco:scope.isCoroutine=false)(hgen:scope.isGenerator=false)(lk:scope.names.lookup k=some .local)(ld:scope.names.lookup d=some .free)(hcell:∀x∈scope.names,x.2≠.cell)(hcl:cl.lookup d=some c)
  (hd:(d==("__classdict__":Str))=false)(nk:(k==("__debug__":Str))=false)(nd:(d==("__debug__":Str))=false)
  (hcv:s.heap.IsCell c (some (.ref a)))(hl:s.heap.IsList a its)(h0:0<=i)(hfit:i<2 ^ 63)(hv:its[i.toNat]?=some v)
  (h:∀(h':iq) (tk:Tok),(∀b o,s.heap.get? b=some o->h'.get? b=some o)->R (.ok (.ret v)) { s with heap:=h',toks:=tk }) :
  codeAny (model prog w) A (.call (.ref f) ⟨[.int i ti],[]⟩) R s:=by
 refine PySem.W.kla_callFunE hroom ho rfl hco hgen rfl hcd ?_;rw[hbind];refine d4 (vj hcell (λy hy=>by cases fg.mp hy;exact lk) (λQX hns hsb=>⟨hlim.fresh _ hsb,?_⟩) hk);have JE:∀b o,s.heap.get? b=some o->QX.get? b=some o:=λb o e=>hsb.extBut b o (fh (d7 e)) (dg _ e);refine PySem.W.kla_codeExpr (Subscript_ (wt (DC hk ld hcl (hcv.keeps JE) (wt (vm hk lk hns (v:=.int i ti) (by simp) (item_listR (let ⟨o,e,r⟩:=hl;⟨o,JE _ _ e,r⟩) h0 hfit hv (h QX _ JE))) nk) hd) nd))
end
open PySem.W
section
variable {prog:fi} {w:gl} {A:ic} {E:Za0} {s:dv}
def J1 (a:de)(h h':iq):Prop:=∀b o,b≠a->h.get? b=some o->h'.get? b=some o
end
section
variable {prog:fi} {w:gl} {A:ic} {s:dv}
theorem nK {l:de}(hl:s.heap.IsList l vs.toArray)(hz:vs.length<=sizeLine)(E':Za0)(Q':Za3->dv->Prop)
  (h:∀h' tk,(∀b o,s.heap.get? b=some o->h'.get? b=some o)->s.heap.objs.size<=h'.objs.size->Q' vs { s with heap:=h',toks:=tk }):wpAny (model prog w) A (collect (.ref l)) Q' E' s:=by
 refine collect_list hl (h _ s.toks (λb o q=>?_) (by rw[rq,zh];exact xa _)) hz;have hlt:b<s.heap.objs.size:=d7 q;rw[Heap.get?_update_ne _ _ _ _ (fh hlt),vy _ _ _ (fh hlt)];exact q
end
theorem O5:∀{us:Za3} {ns:List Int},us.length=ns.length->(∀(i:Nat) u n,us[i]?=some u->ns[i]?=some n->∃t,u=.int n t)->pq us ns
 |[],[],_,_=>.nil
 |u::us,n::ns,hl,h=>by
  obtain⟨t,rfl⟩:=h 0 u n rfl rfl;exact .cons n t (O5 (rb hl) λi v m e1 e2=>h (i+1) v m e1 e2)
theorem Nh:∀l:Za3,(∀v∈l,∃n t,v=ml n t)->pq l (l.map numOf)
 |[],_=>.nil
 |v::l,h=>by
  obtain⟨n,t,rfl⟩:=h _ (f7 ..);exact .cons n t (Nh l λu hu=>h u (ge _ hu))
section
variable {prog:fi} {w:gl} {A:ic} {E:Za0} {s:dv}
theorem iY {r:de}{t u v:Tok}(hh:A.handled=none)(hr:IsRange s.heap r 0 n 1 t u v)(hn:n<=100000)(E':Za0)(Q':Za3->dv->Prop)
  (h:∀vs h' tk,pq vs ((di n).map λi:Nat=>(i:Int))->(∀b o,s.heap.get? b=some o->h'.get? b=some o)->s.heap.objs.size<=h'.objs.size->Q' vs { s with heap:=h',toks:=tk }):wpAny (model prog w) A (collect (.ref r)) Q' E' s:=by
 have e2:ji 0 (n:Int) 1=n:=by rw[HN];split<;>lia
 have key:∀R:uh->dv->Prop,(∀(h':iq) (tk:Nat) (acc':Array dr) (c':Nat),(∀b o,s.heap.get? b=some o->h'.get? b=some o)->h'.get? s.heap.objs.size=some { cls:=.type "list",dict:=none,data:=.seq acc' c',slots:=#[] } ->
   ItemsOf (λi v=>∃t,v=.int (0+(i:Int)*1) t) acc' n->R (.ok (.ret (.ref s.heap.objs.size))) { s with heap:=h',toks:=tk })->codeAny (model prog w) A (.builtin "proto.collect" ⟨[.ref r],[]⟩) R s:=λR hR=>by
  refine mh F.entry_proto_collect ?_;rw[j8 F.plain_proto_collect _];show wpAny _ A.in1 (newList [] >>= λl=>again (.builtin "list.__iadd__" ⟨[l,.ref r],[]⟩)) _ _ s;refine wpAny_bind (ln ?_);refine d4 ⟨qf DM _,mh F.entry_list_iadd ?_⟩;rw[j8 DM _];have JN:(s.heap.push { cls:=.type "list",data:=.seq ([]:Za3).toArray }).get? s.heap.objs.size=some { cls:=.type "list",data:=.seq ([]:Za3).toArray }:=fv _ rfl;show wpAny _ A.in1 (GW (.ref s.heap.objs.size) (.ref r) (.ref s.heap.objs.size)) _ _ _;exact wpAny_extend_range (R:=R) (s:={ s with heap:=s.heap.push { cls:=.type "list",data:=.seq ([]:Za3).toArray } }) hh (dg _ hr) (small_one (by lia) (by lia) (by lia) (by lia)) e2 (by lia) _ _ _ JN λh' tk acc' c' hk hS' hacc=>
   hR h' tk acc' c' (λb o q=>hk b o (fh (d7 q)) (dg _ q)) hS' hacc
 unfold collect;refine wpAny_bind (wpAny_runValue (key _ λh' tk acc' c' hk hS' hacc=>?_));show wpAny _ A (load s.heap.objs.size >>= _) _ _ _;refine wpAny_bind (wpAny_load hS' ?_);refine d4 (h _ h' tk ?_ hk (fw (d7 hS')));refine O5 (by rw[c5,dn,fb,hacc.1]) λi x y e1 e3=>?_;have hi:i<n:=by have:=(dk.mp e3).1;simpa using this
 rw[df,ff hi] at e3;cases e3;have e4:acc'[i]?=some x:=by rw[<-fj];exact e1
 obtain⟨t,e5⟩:=hacc.2 i x e4;exact⟨t,by rw[e5];simp⟩
end
abbrev Vy (k:Str)(pa:Pos):yj:={ posonlyargs:=[],args:=[{ arg:=k,annotation:=none,pos:=pa }],vararg:=none,kwonlyargs:=[],kw_defaults:=[],kwarg:=none,defaults:=[] }
abbrev Lj (k d:Str):l9:={ kind:=.function,names:=[(k,.local),(d,.free)],isGenerator:=false,isCoroutine:=false,more:=[] }
abbrev Vl (k d:Str)(pd pk pp:Pos):gv:=.Subscript (.Name d pd) (.Name k pk) pp
section
variable {X:Cx}
def yV (ta:TA):TE:=λY H Q=>ta Y H λvs H1=>∃j:Nat,vs=[.int j]/\j<=100000/\∀p,H1 p=none->Q (.ref p) (upd H1 p (.rng 0 j))
theorem sB {a:gv}{ta:TA}{q pos2:Pos}(hg2:Gl X "range")(hm2:X.mg "range"=none)(ha:PA X [a] ta)(hs:autoParam (starEach [a] X.env=[(false,eval a X.env)]) QD) :
  PE X (.Call (.Name "range" q) [a] [] pos2) (yV ta):=by
 k_in;refine wpAny_Call_Name_kw (Dv I hg2 hm2 boot_range (gp (thA ha I h λus s1 vs H1 I1 r1 q1=>?_) hs rfl) (by decide) (by decide));obtain⟨j,e,hj,q⟩:=q1;subst e;obtain⟨u,rfl,t,rfl⟩:=E6 r1;refine IK ?_;exact⟨.ref _,_,I1.laid (o:=.rng 0 j) (λb o e=>dg _ e) (c9 _) ⟨_,_,_,fv _ rfl⟩,rfl,q _ (I1.hok.fresh (c9 _))⟩
def C0 (n:Nat):List Int:=(di n).map λj:Nat=>(j:Int)
end
def Lm (o:Obj)(c P:de):Prop:=∃vs file tf flags tg inF text tt,o.cls=.type "code"/\o.data=.fields vs/\vs[11]?=some (.ref P)/\vs.getD 11 .none=.ref P/\vs.getD 18 .none=.str file tf /\
  vs.getD 7 .none=.int flags tg/\vs.getD 9 .none=.bool inF/\vs.getD 10 .none=.int text tt/\c≠P
theorem Lm.at {o:Obj}{c P:de}(x:Lm o c P)(e:h.get? c=some o):EA h c P:=by
 obtain⟨vs,file,tf,flags,tg,inF,text,tt,a1,a2,a3,a4,a5,a6,a7,a8,a9⟩:=x;exact⟨o,vs,file,tf,flags,tg,inF,text,tt,e,a1,a2,a3,a4,a5,a6,a7,a8,a9⟩
theorem Y0 {P:fi}{K:c7}{mg mb:Za2}{CX:CXT}{k:Nat}{fa a:de}{x:Str}{QM:dv}{ns:List Int}{tabs:List (de×de)}
  (hT:ww tabs QM.heap)(hTK:∀q∈tabs,K.lookup q.2=none)(hB:∃bm ob,mg "__builtins__"=some (.ref bm)/\bm≠builtinsNs/\QM.heap.get? bm=some ob/\ob.cls=.type "module"/\ob.dict=some builtinsNs/\ob.data=.plain)(KX:K.In QM.heap)(hns:QM.heap.Ns mainGlobals mg)(hb:QM.heap.Ns builtinsNs mb)(hbb:∀x:Str,x≠"__name__"->mb x=bootBuiltins x)(hlim:QM.heap.NoLimit)(hg:QM.gens=#[])
  (ha:QM.heap.get? a=some { cls:=.type "list",data:=.seq vs.toArray })(hi:pq vs ns)(hl:ns.length<=sizeLine)(hr:Ck k callerA)
  (F:∀base:iq,K.In base->base.Ns mainGlobals mg->(∀q∈tabs,base.BuiltinsAt mg q.2)->Ax P w K mg base CX k fa fd [x] sp)(hbind:∀(s:dv) (u:dr),zd s fd ⟨[u],[]⟩ [(x,u)])
  (hsp:∀H:Hp,(∀q∈tabs,H q.2=some (.tbl #[]))->SqL K H a (ns.map V.int)->sp [.ref a] H (λv _=>v=.bl true) λ_ _ _=>False)
  (hCX:∀H e s',CX [] H QM (λ_ _ _=>False) e s'->False) :
  codeAny (model P w) callerA (.call (.ref fa) ⟨[.ref a],[]⟩) (λr s'=>r=.ok (.ret (.bool true))/\OldK QM.heap s'.heap/\s'.os=QM.os/\uj s'.gens) QM:=by
 have rv:=My hi;have tabAt:∀b,b∈tabs.map (·.2)->QM.heap.get? b=some (td #[])/\K.lookup b=none/\isCodeTable QM.heap b:=λb hm=>by
  obtain⟨q,hq,rfl⟩:=iz.mp hm;exact⟨(hT q hq).2,hTK q hq,((hT q hq).1.tab (hT q hq).2).isCodeTable⟩
 have haT:a∉tabs.map (·.2):=λhm=>by
  have:=(tabAt a hm).1;rw[ha] at this;cases this
 let H:Hp:=λb=>if b∈tabs.map (·.2) then some (.tbl #[]) else if b=a/\K.lookup a=none then some (.frz { cls:=.type "list",data:=.seq vs.toArray } (.lst (ns.map V.int))) else none
 have H1:∀b,b∈tabs.map (·.2)->H b=some (.tbl #[]):=λb hm=>if_pos hm;have H2:∀b,b∉tabs.map (·.2)->¬(b=a/\K.lookup a=none)->H b=none:=λb h1 h2=>(if_neg h1).trans (if_neg h2);have H3:K.lookup a=none->H a=some (.frz { cls:=.type "list",data:=.seq vs.toArray } (.lst (ns.map V.int))):=λh=>(if_neg haT).trans (if_pos ⟨rfl,h⟩);have cases3:∀b,(b∈tabs.map (·.2))\/(b=a/\K.lookup a=none/\b∉tabs.map (·.2))\/(H b=none):=λb=>by
  by_cases h1:b∈tabs.map (·.2)
  ·exact .inl h1
  ·by_cases h2:b=a/\K.lookup a=none
   ·exact .inr (.inl ⟨h2.1,h2.2,h1⟩)
   ·exact .inr (.inr (H2 b h1 h2))
 have hok:HOk P w H QM.heap:=λb o e=>by
  rcases cases3 b with h|⟨rfl,h1,_⟩|h
  ·rw[H1 b h] at e
   cases e;exact(tabAt b h).1
  ·rw[H3 h1] at e
   cases e;exact⟨ha,by rw[c5];exact hl,vs,_,rv,ha⟩
  ·rw[h] at e
   cases e
 have noD:∀{b:de} {o:Obj} {es:Array DictEntry} {ep:Nat},QM.heap.get? b=some o->o.data=.dict es ep->H b=none:=λ{b o es ep} e d=>by
  rcases cases3 b with h|⟨rfl,_,_⟩|h
  ·rw[(tabAt b h).1] at e
   cases e;have d':z0 #[]=HI es ep:=d;cases d'
  ·rw[ha] at e
   cases e;have d':Data.seq vs.toArray _=HI es ep:=d;cases d'
  ·exact h
 have nsK:∀{b:de} {m:Za2},QM.heap.Ns b m->(Ud QM.heap H).Ns b m:=λ{b m} ⟨o,es,ep,e,d,r⟩=>⟨o,es,ep,Rv e (noD e d),d,r⟩;have hKb:K.In (Ud QM.heap H):=λb o e=>Rv (KX b o e) (by
  rcases cases3 b with h|⟨rfl,h1,_⟩|h
  ·rw[(tabAt b h).2.1] at e;cases e
  ·rw[h1] at e;cases e
  ·exact h)
 have hBa:∀q∈tabs,(Ud QM.heap H).BuiltinsAt mg q.2:=λq hq=>by
  obtain⟨bm,ob,b1,b2,b3,b4,b5,b6⟩:=hB;have n1:bm≠mainGlobals:=λz=>by
   obtain⟨o,es,ep,e,d,_⟩:=hns;rw[z,e] at b3;cases b3;rw[d] at b6;cases b6
  have nP:bm∉tabs.map (·.2):=λhm=>by
   have:=(tabAt bm hm).1;rw[b3] at this;cases this;cases b6
  have hn:H bm=none:=by
   rcases cases3 bm with h|⟨h,_,_⟩|h
   ·exact absurd h nP
   ·rw[h,ha] at b3
    cases b3;cases b6
   ·exact h
  exact⟨bm,ob,b1,b2,n1,λz=>nP (z▸ka hq),Rv b3 hn,b4,b5,b6⟩
 have hM:Mod K mg (Ud QM.heap H):=⟨hKb,nsK hns,⟨mb,nsK hb,hbb⟩,let ⟨mc,h1,h2⟩:=hlim;⟨mc,nsK h1,h2⟩⟩;have e0:Wv P w K mg (Ud QM.heap H) callerA [] QM H:=⟨rfl,hM,λb o e=>rK e,lz (iJ _ _),trivial,λb hb=>absurd (show b∈([]:List de) from hb) (by simp),hok,.of_eq hg⟩;have hS:SqL K H a (ns.map V.int):=by
  cases hk:K.lookup a with
  |none=>exact .inl (.inr ⟨_,H3 hk⟩)
  |some o=>
   have e:=KX a o hk;rw[ha] at e;cases e;exact .inr ⟨_,vs.toArray,_,hk,rfl,rfl,rfl,by rw[d9,hi.length];exact hl,by simpa using rv⟩
 refine xp ((F _ hKb (nsK hns) hBa).run callerA [] QM H ⟨[.ref a],[]⟩ [.ref a] [.ref a] _ _ hr e0 (hbind QM (.ref a)) (.cons rfl .nil) (hsp H (λq hq=>H1 _ (ka hq)) hS)) λr s' h=>?_
 cases r with
 |error e=>exact(hCX H e s' h).elim
 |ok fl=>
  cases fl with
  |next=>exact km h
  |brk=>exact km h
  |cont=>exact km h
  |ret u=>
   obtain⟨v,H',os,bare,un,hok',r',q⟩:=h;have q':v=.bl true:=q;subst q';obtain rfl:u=xt true:=r';have out:∀b o,QM.heap.get? b=some o->(b∈tabs.map (·.2)/\∃more,s'.heap.get? b=some (td more))\/s'.heap.get? b=some o:=λb o e=>by
    rcases cases3 b with h|⟨rfl,h1,_⟩|h
    ·obtain⟨more,hm⟩:=un.tbls b _ (H1 b h)
     exact .inl ⟨h,_,hok' b _ hm⟩
    ·obtain⟨e2,_⟩:=hok' _ _ (un.frzs _ _ _ (H3 h1))
     rw[ha] at e;cases e;exact .inr e2
    ·exact .inr (un.keep b o e h (by intro z;exact absurd (show b∈([]:List de) from z) (by simp)) (by simp))
   refine⟨rfl,⟨λb o e=>?_,λb o e=>?_⟩,os,bare⟩
   ·rcases out b o e with⟨h,more,hm⟩|h
    ·have e1:=(tabAt b h).1
     rw[e] at e1;cases e1;exact .inr (.inl ⟨(tabAt b h).2.2,rfl,#[],more,rfl,by rw[Array.empty_append];exact hm⟩)
    ·exact .inl h
   ·rcases out b o e with⟨_,more,hm⟩|h
    ·exact⟨_,hm⟩
    ·exact⟨o,h⟩
theorem gU {l:v9}{k:Nat}{q:fi}{loose:Za6}{XP:(Za2)->iq->Prop}{YP:gl->iq->Prop}{d:HH}{K:yh->c7}{CX:gl->CXT}{sp:gl->Sp}{x:Str}{tabs:List (de×de)}
  (hn:l.most=some n)(hn2:n<=sizeLine)(hdf:d.params.defaults=[])(hr:Ck k callerA)
  (hY:∀(w:gl) (h:iq),YP w h->(K w.params).In h)(hTb:∀(w:gl) (h:iq),YP w h->ww tabs h)(hTK:∀w:gl,∀p∈tabs,(K w.params).lookup p.2=none)
  (F:∀(w:gl) (mg:Za2) (fa:de) (h:iq),(K w.params).In h->h.Ns mainGlobals mg->mg d.name=some (.ref fa) ->
   ∃fd:i0,(∀(s:dv) (u:dr),zd s fd ⟨[u],[]⟩ [(x,u)]) /\
    ∀base:iq,(K w.params).In base->base.Ns mainGlobals mg->(∀q∈tabs,base.BuiltinsAt mg q.2)->Ax l.prog w (K w.params) mg base (CX w) k fa fd [x] (sp w))
  (hsp:∀(w:gl) (H:Hp) (a:de) (ns:List Int),ns.length<=n->(∀p∈tabs,H p.2=some (.tbl #[]))->SqL (K w.params) H a (ns.map V.int)->sp w [.ref a] H (λv _=>v=.bl true) λ_ _ _=>False)
  (hCX:∀(w:gl) (H:Hp) (s:dv) (e:dr) (s':dv),CX w [] H s (λ_ _ _=>False) e s'->False) :
  BY q loose XP YP l.row.toRowW d [] (λf vs=>z7 f vs):=by
 refine Att.attach_call hn hdf λw QN QM mg mb fa o pm cd doc a vs ns G Y ho hd hcd hmg hobj hints hlen hg=>?_;have KX:=hY w _ Y;obtain⟨fd,hb,hF⟩:=F w mg fa _ KX G.T.g hmg;exact Y0 (hTb w _ Y) (hTK w) G.T.bmain KX G.T.g G.T.b G.T.builtins G.T.nolimit hg hobj hints (gm hlen hn2) hr hF hb (λH hO hS=>hsp w H a ns hlen hO hS) λH e s'=>hCX w H QM e s'
structure X9 (K:c7) (x qual:Str) (st:im) (f:de) (fd:i0) (c P:de):Prop where
 ex:∃(oc:dr) (od:Option de) (kV doc pm:dr) (an:Option de) (ct:dr) (osl:Array (Za7)),
  fd=ir x qual (Bs st) (Bi st) (Ad st) .none kV doc pm an (.ref c) ct/\K.lookup f=some ⟨oc,od,.func fd,osl⟩/\kf K (.ref c) qual=true
 kp:j6 K (.ref f)=true
 hd:∃oc,K.lookup c=some oc/\Lm oc c P
section
variable {P:fi} {w:gl} {K:c7} {mg:Za2} {base:iq}
theorem X9.ok {x:Str}{st:im}{f c:de}{k:Nat}(F:X9 K x qual st f fd c Pt)(S:Ak N ps (Ad st))(len:∀vs H Q E,sp vs H Q E->vs.length=ps.length)
  (hbody:∀(A:ic) (outer:List Env) (s:dv) (H:Hp) (vs:List V) (Q:VK) (E:XK),Ck k (A.deeper (envOfC qual (Ad st) s.heap.objs.size f (.ref c)))->sp vs H Q E ->
   ∃t,PSs (Xc CX0 P w K mg base N qual (Ad st) f (.ref c) A outer s H E).nox (Bi st) t/\t { nx:=λ_ H'=>Q .non H',rt:=Q } (Kg N vs) H):Ax P w K mg base CX0 (k+1) f fd ps sp:=by
 obtain⟨oc,od,kV,doc,pm,an,ct,osl,rfl,lk,hcd⟩:=F.ex;refine oH lk hcd S len λA outer s H vs Q E hr hsp=>?_;obtain⟨t,h,q⟩:=hbody A outer s H vs Q E hr hsp;exact⟨t,h.nox,q⟩
theorem X9.code {x:Str}{st:im}{f c:de}(F:X9 K x qual st f fd c Pt)(hK:K.In base):EA base c Pt:=let ⟨oc,e,h⟩:=F.hd;h.at (hK _ _ e)
theorem X9.binds {x:Str}{st:im}{f c:de}(F:X9 K x qual st f fd c Pt)
  (h:∀(kV doc pm:dr) (an:Option de) (cdv ct:dr) (us:Za3),us.length=ps.length->bindArgs (ir x qual (Bs st) (Bi st) (Ad st) .none kV doc pm an cdv ct) ⟨us,[]⟩=pure (ps.zip us)):Eh K fd ps []:=by
 obtain⟨oc,od,kV,doc,pm,an,ct,osl,rfl,lk,hcd⟩:=F.ex;exact .all (h kV doc pm an (.ref c) ct)
theorem qX {x:Str}{st:im}{f c:de}{osl:Array (Za7)}{kV:dr}{oo:Obj}(l:K.lookup f=some ⟨oc,od,.func (ir x qual (Bs st) (Bi st) (Ad st) .none kV doc pm an (.ref c) ct),osl⟩)
  (cc:kf K (.ref c) qual=true)(k:j6 K (.ref f)=true)(lc:K.lookup c=some oo)(hc:Lm oo c Pt):X9 K x qual st f (ir x qual (Bs st) (Bi st) (Ad st) .none kV doc pm an (.ref c) ct) c Pt:=⟨⟨oc,od,kV,doc,pm,an,ct,osl,rfl,l,cc⟩,k,oo,lc,hc⟩
end
def uW (P:fi)(w:gl)(K:c7)(mg:Za2)(base:iq)(k:Nat)(H:Hp)(f:de)(dom:Int->Prop)(p:Int->Bool):Prop:=
 (∃oc od fd sl u,H f=some (.frz ⟨oc,od,.func fd,sl⟩ u))/\∀(A:ic) (outer:List Env) (s:dv) (H1:Hp) (i:Int) (t:Tok),Ck k A->Wv P w K mg base A outer s H1->Ah H H1->dom i ->
  codeAny (model P w) A (.call (.ref f) ⟨[.int i t],[]⟩) (CR CX0 outer P w H1 s (λv H2=>v=.bl (p i)/\Ah H1 H2) E0) s
theorem uW.same {P:fi}{K:c7}{mg:Za2}{k:Nat}{f:de}{dom:Int->Prop}{p:Int->Bool}(a:uW P w K mg base k H f dom p)(s:Ah H H'):uW P w K mg base k H' f dom p:=
 ⟨let ⟨oc,od,fd,sl,u,e⟩:=a.1;⟨oc,od,fd,sl,u,s _ _ e⟩,λA outer st H1 i t hr e0 sm hd=>a.2 A outer st H1 i t hr e0 (λb o e=>sm _ _ (s _ _ e)) hd⟩
theorem Vu:typeLookup (.type "list") "keys"=pure none:=by rw[ul,p9];kernel_rfl
theorem Ut:typeLookup (.type "list") "__getattr__"=pure none:=by rw[ul,p9];kernel_rfl
theorem Wu (a:de)(vs:Array dr)(n:Nat)(u:Tok):Meets (nv.«object.__getattribute__» ⟨[.ref a,.str "keys" u],[]⟩) (λA R s=>s.heap.get? a=some (seqObj "list" vs n)/\raisesAttr (.ref a) "keys" A R s):=
 EM λprog w A R s hs=>by
  obtain⟨hp,g,d,tk,os⟩:=s;obtain⟨hx,hs⟩:=hs;have hT:(⟨hp,g,d,tk,os⟩:dv).TypeIs (.ref a) "list":=⟨_,hx,rfl⟩;have f4:=Vu
  repeat (any_goals (first|assumption|with_reducible refine EF hx ?_|wp_step))
  exact CQ hs.1 hs.2 (by decide +kernel)
section
variable {prog:fi} {w:gl} {A:ic} {E:Za0} {s:dv}
theorem oI {a:de}{vs:Array dr}{Q:Za7->dv->Prop}(hx:s.heap.get? a=some (seqObj "list" vs n))(hA:A.handled=none)(q:∀h' tk,(∀b o,s.heap.get? b=some o->h'.get? b=some o)->Q none { s with heap:=h',toks:=tk }) :
  wpAny (model prog w) A (getAttr? (.ref a) "keys") Q E s:=by
 obtain⟨hp,g,d,tk,os⟩:=s;have hT:∀tk',(⟨hp,g,d,tk',os⟩:dv).TypeIs (.ref a) "list":=λ_=>⟨_,hx,rfl⟩;have f1:=DR;have f3:=ow.lookup;have f4:=ow.bind (.ref a);have f5:=Ut;unfold getAttr? getAttrBy? getAttrBy
 repeat (any_goals (first|assumption|exact hT _|((with_reducible show wpAny _ _ (call (DF "list.__getattribute__") _ _) _ _ _);refine ot ow (hT _) PySem.F.entry_list_ga (PySem.F.args_list_getattribute_2 _ _) (Wu a vs n _) ⟨hx,hA,λh' tk' e hx'=>?_⟩)|wp_step))
 obtain⟨t',u',he⟩:=hx'.there;show wpAny _ _ (getattributeRaised _ _ _ _ _ _ _) _ _ _;unfold getattributeRaised
 repeat (any_goals (first|assumption|wp_step))
 exact q _ _ hx'.keeps
end
def Wl (h:iq)(T:de)(x y:dr):Prop:=∃o n,h.get? T=some o/\o.cls=.type "tuple"/\o.data=.seq #[x,y] n
theorem Wl.keep {T:de}{x y:dr}(p:Wl h T x y)(k:∀o,h.get? T=some o->h'.get? T=some o):Wl h' T x y:=let ⟨o,n,e,r⟩:=p;⟨o,n,k o e,r⟩
section
variable {prog:fi} {w:gl} {A:ic} {E:Za0} {R:uh->dv->Prop}
theorem Wt {T:de}{x y:dr}{Q:Za3->dv->Prop}(hT:Wl s.heap T x y)(h:Q [x,y] s):wpAny (model prog w) A (m7 (.ref T)) Q E s:=by
 obtain⟨o,n,e,c,d⟩:=hT;have ty:s.TypeIs (.ref T) "tuple":=⟨_,e,c⟩;unfold m7;refine wpAny_bind (pe ty ?_);rw[if_pos (by decide)];exact wpAny_bind (vi e d (d4 h))
end
theorem T1:∀{as:List de} {us:Za3},Au (as.map V.ref) us->us=as.map gi
 |[],_,h=>by cases h;rfl
 |a::as,_,h=>by
  cases h with
  |cons h1 h2=>rw[show _=gi a from h1,T1 h2];rfl
theorem fB:∀{ys:List V} (f:Nat->dr),(∀(i:Nat) y,ys[i]?=some y->A8 y (f i))->Au ys ((di ys.length).map f)
 |[],_,_=>.nil
 |y::ys,f,h=>by
  rw[f9,oh,fm,gu];exact .cons (h 0 y rfl) (fB (λi=>f (i+1)) λi z e=>h (i+1) z e)
end L2
end
section
namespace HD
open PySem PySem.W PySem.Calls PyProof.Rows
def F9 (tb:String->Option nv)(p:fi)(w:gl)(m:Nat)(ann:Za7):Nat->pf->Thread->Option pf
 |0,_,_=>none
 |n+1,s,t=>match through t with
  |true=>some s
  |false=>match stepOk m ann t with
   |false=>none
   |true=>match stepT (denote tb) p w s t with
    |some (s',t')=>F9 tb p w m ann n s' t'
    |none=>none
theorem Sx {tb:String->Option nv}{p:fi}{w:gl}{m:Nat}{ann:Za7}:∀{n:Nat} {s s':pf} {t:Thread},F9 tb p w m ann n s t=some s'->topRun tb p w m ann n s.abs t=some s'.abs
 |0,_,_,_,h=>by cases h
 |n+1,s,s',t,h=>by
  unfold F9 at h;unfold topRun
  cases he:through t with
  |true=>rw[he] at h;cases h;rfl
  |false=>
   rw[he] at h
   cases hk:stepOk m ann t with
   |false=>rw[hk] at h;cases h
   |true=>
    rw[hk] at h
    cases hs:stepT (denote tb) p w s t with
    |none=>rw[hs] at h;cases h
    |some r=>obtain⟨QT,t₂⟩:=r;rw[hs] at h;rw[stepT_spec hs];exact Sx h
def nG:List Obj->Nat->BT->BT
 |[],_,t=>t
 |o::l,n,t=>nG l (n+1) (t.ins n o)
noncomputable def Rz (P:yh):BT:=nG (kq P).objs.toList 0 .nil
def bootSize:Nat:=11
noncomputable def bootT (w:gl) (os:OsState):pf:=⟨Rz w.params,bootSize,(kq w.params).life,#[],wu,yd,os⟩
def Ze {α:Type}(Yf:dv->α)(h0:iq)(p q:fi)(loose:Za6)(s:dv):=
 (staticsOk (importedModules p.main.body) h0 s.heap&&namesBound p s.heap&&gensDone s&&laidKept h0 s.heap,
  openSeen q loose (importedModules p.main.body) (λ_=>true) true s,Yf s)
def bothT {α:Type}(Yf:dv->α)(s0:pf)(h0:iq)(m:Nat)(p q:fi)(loose:Za6)(M:Nat)(w:gl):=
 (F9 treeTable p w m (some (.ref 6)) M s0 (topStub p)).map λs=>Ze Yf h0 p q loose s.abs
theorem jV (P:yh):absHeap (Rz P) bootSize (kq P).life=kq P:=by kernel_rfl
theorem gH (P:yh):((kq P).isNs mainGlobals&&(#[]:Array HG).size==0,(kq P).objs.size,(kq P).nsMap mainGlobals "__annotations__")=(true,bootSize,some (.ref 6)):=by kernel_rfl
theorem qP {p q:fi}{loose:Za6}{α:Type}{Yf:dv->α}{Ya:gl->α}{M N:Nat}(e:opening p=plainProg p.main.scope.names)(f:∀s,fenceModules? p s=some s)(hN:CA 600 N=true)(le:CA M N=true)
  (Sm:∀w:gl,(λos=>bothT Yf (bootT w os) (kq w.params) bootSize p q loose M w)=λ_=>some (true,openGood q loose,Ya w)) :
  LeftO p q loose (λ_=>true) Yf Ya N:=λw=>by
 obtain⟨⟨h,gs,d,k,os⟩,e1,e'⟩:=gt.mp (boot_open e hN f w);obtain⟨rfl,rfl,rfl,rfl⟩:h=kq w.params/\gs=zm []/\d=wu/\k=yd:=by simpa using e'
 have b:=congrFun (Sm w) os;unfold bothT at b;obtain⟨s,r,l⟩:=gt.mp b;have r2:=Sx r;have r3:=topRun_mono (N-M) _ _ _ _ r2;rw[show M+(N-M)=N by have:=zu le;lia] at r3;have eb:(bootT w os).abs=⟨kq w.params,zm [],wu,yd,os⟩:=by
  show Shared.mk (absHeap (Rz w.params) bootSize (kq w.params).life) (zm []) wu yd os=_;rw[jV]
 rw[eb] at r3;obtain⟨z1,z2,z3⟩:_/\_/\_:=by simpa only[BZ] using gH w.params
 obtain⟨l1,l2,l3⟩:_/\_/\_:=by simpa only[Ze,BZ] using l
 have t:topFrom treeTable p w N ⟨kq w.params,zm [],wu,yd,os⟩=some s.abs:=by
  unfold topFrom;dsimp only;rw[z1,z2,z3,r3];show(match staticsOk (importedModules p.main.body) (kq w.params) s.abs.heap&&namesBound p s.abs.heap&&gensDone s.abs&&laidKept (kq w.params) s.abs.heap with|true=>_|false=>_)=_;rw[l1]
 unfold openEnds;rw[e1];show(topFrom treeTable p w N _).map _=_;rw[t];exact congrArg some (zq l2 l3)
def recOf:im->HH
 |.FunctionDef n a b _ _ _ sc _ _ pos=>⟨n,a,b,sc,pos⟩
 |_=>⟨"",default,[],default,default⟩
end HD
lay_quick HD.bothT
end
section
namespace L2
open PySem PySem.Spec PyProof.Rows
variable {C CB CC CO CP CS Pt d dx i1 i2 it l1 l2:de} {A:ic} {op:vv} {X:Cx} {D:Hk} {env:Env} {iter tg:gv} {fd:i0} {base h h':iq} {H H' H0 H1 H2:Hp} {J:It} {pins:Za1} {as fp:List de} {ms:Za5} {es:List gv} {ks ws:List Int} {cs ns:Za4} {N kz nm ps:Za6} {xs ys:List V} {us vs:Za3} {M:wn} {n t':Nat} {oT:Obj} {an od:Option de} {pos:Pos} {B:Prop} {scope:l9} {pl:Sem Bool} {s s2:dv} {sp:Sp} {qual z:Str} {te:TE} {wi:TI} {y:V} {cdv ct doc oc pm:dr} {w:gl}
theorem gT {p:de}{x v:V}{R:Hp->Prop}(h:H p=some (.lst (xs++[x])))(q:R (upd H p (.lst (xs++[v])))):pF (.ref p) (.int (-1)) v H R:=by
 refine⟨p,_,-1,xs.length,rfl,rfl,h,?_,?_⟩
 ·unfold ixN
  rw[if_neg (by decide),if_pos (by simp;lia)];simp;lia
 ·rw[List.set_append_right _ _ (c9 _),jx]
  exact q
theorem rO {K:c7}{fr:St}{tc:TT}{Q:VK}(n:Nat)(f1 f2:Nat->V)(Pv:de->Nat->List V->Hp->Prop)(h0:∀D H,H1 D=none->Ah H1 H->Pv D 0 [] H)
  (stab:∀D i ys H xs o,H D=some (.lst xs)->Pv D i ys H->Pv D i ys (upd H D o))(hz:∀D i ys H,i<n->Pv D i ys H->ys.length<sizeLine)(psame:∀D i ys H H',Ah H H'->Pv D i ys H->Pv D i ys H')
  (hgo:∀i H,i<n->Ah H1 H->J.go i H)(hy:∀i H v H',i<n->Ah H1 H->J.yld i H v H'->∃a,v=.ref a/\SqT K H' a [f1 i,f2 i]/\Ah H H')(hst:∀H,Ah H1 H->J.stop n H)
  (turn:∀D i ys H (A:VK) (R:Hp->Prop),i<n->Ah H1 H->H1 D=none->H D=some (.lst ys)->Pv D i ys H->(∀y H',Ah H H'->Pv D (i+1) (ys++[y]) H'->A y H') ->
   tc (some (f1 i)::some (f2 i)::fr) H λb H3=>if b=true then te (some (f1 i)::some (f2 i)::fr) H3 A else R H3)
  (fin:∀D ys H,H1 D=none->Ah H1 H->Pv D n ys H->H D=some (.lst ys)->Q (.ref D) H):Ki K J H1 fr tc te Q:=by
 intro D hD;refine⟨λi m H=>i<=n/\m=n-i/\Ah H1 H/\∃ys,H D=some (.lst ys)/\Pv D i ys H,⟨n,fq _,rfl,Al hD,[],Ac,h0 D _ hD (Al hD)⟩,?_⟩;rintro i m H ⟨hi,rfl,sm,ys,hl,hp⟩
 by_cases h:i=n
 ·subst h
  exact .inl ⟨hst H sm,fin D ys H hD sm hp hl⟩
 ·have hlt:i<n:=jo hi h
  refine .inr ⟨hgo i H hlt sm,λv H' hyl=>?_⟩;obtain⟨a,rfl,ht,s2⟩:=hy i H v H' hlt sm hyl;refine⟨a,_,_,rfl,ht,turn D i ys H' _ _ hlt (sm.trans s2) hD (s2 _ _ hl) (psame _ _ _ _ _ s2 hp) (λy H4 s4 hp4=>?_)⟩;refine⟨ys,s4 _ _ (s2 _ _ hl),hz D i ys _ hlt hp,n-(i+1),by lia,by lia,rfl,λb u e=>?_,ys++[y],Ac,stab _ _ _ _ _ _ (s4 _ _ (s2 _ _ hl)) hp4⟩;rw[Ai (Aj e hD)];exact s4 _ _ (s2 _ _ (sm _ _ e))
theorem Uk {K:c7}{a b:de}{fr:St}{tc:TT}{Q:VK}(ha:SqL K H1 a xs)(hb:SqL K H1 b ys)(Pv:de->Nat->List V->Hp->Prop)(h0:∀D H,H1 D=none->Ah H1 H->Pv D 0 [] H)
  (stab:∀D i zs H us o,H D=some (.lst us)->Pv D i zs H->Pv D i zs (upd H D o))(hz:∀D i zs H,i<min xs.length ys.length->Pv D i zs H->zs.length<sizeLine)(psame:∀D i zs H H',Ah H H'->Pv D i zs H->Pv D i zs H')
  (turn:∀D (i:Nat) zs x y H (A:VK) (R:Hp->Prop),xs[i]?=some x->ys[i]?=some y->Ah H1 H->H1 D=none->H D=some (.lst zs)->Pv D i zs H->(∀y H',Ah H H'->Pv D (i+1) (zs++[y]) H'->A y H') ->
   tc (some x::some y::fr) H λb H3=>if b=true then te (some x::some y::fr) H3 A else R H3)
  (fin:∀D zs H,H1 D=none->Ah H1 H->Pv D (min xs.length ys.length) zs H->H D=some (.lst zs)->Q (.ref D) H):Ki K (Itz K a b) H1 fr tc te Q:=by
 refine rO (min xs.length ys.length) (λi=>xs.getD i .non) (λi=>ys.getD i .non) Pv h0 stab hz psame (λi H hi sm=>⟨xs,ys,xs[i]'(by lia),ys[i]'(by lia),sm.seq ha,sm.seq hb,by simp,by simp⟩) (λi H v H' hi sm h=>?_)
  (λH sm=>⟨xs,ys,sm.seq ha,sm.seq hb,rfl⟩) (λD i zs H A R hi sm=>turn D i zs _ _ H A R (by simp[show i<xs.length by lia]) (by simp[show i<ys.length by lia]) sm) fin
 obtain⟨t,x,y,hn,rfl,h1,h2,rfl⟩:=h;have e1:=h1 xs (sm.seq ha);have e2:=h2 ys (sm.seq hb);refine⟨t,rfl,?_,Al hn⟩;simp only[ju,e1,e2,o7];exact SqT.of Ac
section
variable {X:Cx}
def mN (ta:TA):TE:=λY H Q=>ta Y H λvs H1=>∃j k:Nat,vs=[.int 0,.int j,.int k]/\j<=100000/\0<k/\k<=100000/\∀p,H1 p=none->Q (.ref p) (upd H1 p (.lst ((di ((j+k-1)/k)).map λt:Nat=>V.int (t*k:Nat))))
theorem cW {a b c:gv}{ta:TA}{p q pos2:Pos}(hcal:X.calm=true)(hg:Gl X "list")(hm:X.mg "list"=none)(hg2:Gl X "range")(hm2:X.mg "range"=none)(ha:PA X [a,b,c] ta)
  (hs:autoParam (starEach [a,b,c] X.env=[(false,eval a X.env),(false,eval b X.env),(false,eval c X.env)]) QD)(hs2:autoParam (starEach [b,c] X.env=[(false,eval b X.env),(false,eval c X.env)]) QD)
  (hs3:autoParam (starEach [y3 (.Name "range" q) [a,b,c] [] pos2] X.env=[(false,eval (.Call (.Name "range" q) [a,b,c] [] pos2) X.env)]) QD) :
  PE X (.Call (.Name "list" p) [.Call (.Name "range" q) [a,b,c] [] pos2] [] pos) (mN ta):=by
 k_in;refine wpAny_Call_Name_kw (Dv I hg hm Kq (gp ?_ hs3 rfl) (by decide) (by decide));rw[hs3];refine qo ?_;show wpAny _ _ (eval (y3 (.Name "range" q) [a,b,c] [] pos2) X.env) _ _ _;refine wpAny_Call_Name_kw (Dv I hg2 hm2 boot_range (gp (thA ha I h λus s1 vs H1 I1 r1 q1=>?_) (by rw[hs,hs2]) (by rw[hs2];rfl)) (by decide) (by decide));obtain⟨j,k,e,hj,hk,hk2,q⟩:=q1;subst e
 cases r1 with
 |cons r rr=>
  cases rr with
  |cons r' rr=>
   cases rr with
   |cons r'' rr=>
    cases rr;obtain⟨t,rfl⟩:=r;obtain⟨t',rfl⟩:=r';obtain⟨t'',rfl⟩:=r'';refine IJ (by lia) (q8 ?_) (.inl (rj (by lia)));have e2:ji (0:Int) (j:Int) (k:Int)=(((j+k-1)/k:Nat):Int):=by
     unfold ji;rw[if_pos (by lia)]
     by_cases hj0:j=0
     ·subst hj0
      rw[if_neg (by lia),sf (by lia)];rfl
     ·rw[if_pos (by lia),show((j:Int)-0-1)=((j-1:Nat):Int) by lia,<-sh,show j+k-1=j-1+k by lia,wg _ hk]
      rfl
    have hn:(j+k-1)/k<=j:=by
     by_cases hj0:j=0
     ·subst hj0
      rw[sf (by lia)];exact c9 _
     ·rw[show j+k-1=j-1+k by lia,wg _ hk]
      have:=Nat.div_le_self (j-1) k;lia
    generalize (j+k-1)/k=m at *;have hsm:oq (0:Int) (j:Int) (k:Int)=true:=by
     unfold oq;rw[e2,if_pos (by lia)];simp only[ur,kl,xl,decide_eq_true_eq,beq_iff_eq];refine⟨⟨⟨⟨?_,?_⟩,?_⟩,?_⟩,.inr ?_⟩<;>lia
    refine call_list_range (I1.ok.hd hcal) (y0 ..) hsm e2 (by lia) λh' tk acc c kp ho it=>?_;have hv:Au ((di (m)).map λt:Nat=>V.int (t*k:Nat)) acc.toList:=P4 (by rw[c5,dn,fb,it.1]) λi x u e1 e3=>by
     have hi:i<m:=by have:=(dk.mp e1).1;simpa using this
     rw[df,ff hi] at e1;cases e1;have e4:acc[i]?=some u:=by rw[<-fj];exact e3
     obtain⟨t,e5⟩:=it.2 i u e4;exact⟨t,by rw[e5,show(0:Int)+(i:Int)*(k:Int)=((i*k:Nat):Int) by rw[FL,xy]]⟩
    have up:∀b o,s1.heap.get? b=some o->h'.get? b=some o:=λb o e=>kp _ _ (dg _ e);have hle:s1.heap.objs.size<=(s1.heap.push { cls:=.type "range",data:=.fields #[.int 0 t,.int j t',.int k t''] }).objs.size:=by rw[ol];lia
    refine⟨.ref _,_,I1.laid (t':=tk) (o:=.lst _) up hle ⟨?_,acc.toList,c,hv,ho⟩,rfl,q _ (I1.hok.fresh hle)⟩;rw[c5,dn];exact fw (vp (show m<=100000 by lia) (by decide))
theorem rD {Y:St}{Q:VK}{ta:TA}(h:ta Y H λvs H1=>∃j k:Nat,vs=[.int 0,.int j,.int k]/\j<=100000/\0<k/\k<=100000/\∀p,H1 p=none->Q (.ref p) (upd H1 p (.lst ((di ((j+k-1)/k)).map λt:Nat=>V.int (t*k:Nat))))):mN ta Y H Q:=h
end
section
variable {X:Cx}
theorem P9 (K:c7)(hc:X.calm=true)(h:autoParam (X.K=K) QD):Ec X (.builtin "min") (tN K):=by
 subst h;exact gB hc
theorem cR (K:c7)(hc:X.calm=true)(h:autoParam (X.K=K) QD):Ec X (.builtin "max") (sY K):=by
 subst h;exact gO hc
theorem vH (K:c7){T name id:String}{r:V->List V->Hp->VK->Prop}{o e:gv}{to:TE}{t:TA}{apos cpos:Pos}(pa:DW T)(slot:Slot T name id)(hty:typeOf (.builtin id)=pure (.type "method_descriptor"))(hm:MtR X id r)(ho:PE X o to)(ha:PA X (e::es) t)(h:autoParam (X.K=K) QD)
  (hbase:autoParam (attributeBase o name X.env (eval o X.env)=eval o X.env) QD)
  (hfew:autoParam (((backTo cpos (starEach (e::es) X.env)).all (λx=>!x.1)&&(backToKw cpos (keywordEach [] X.env)).all (λx=>x.1.isSome)
   && decide ((e::es).length+([]:List EO).length+(if([]:List EO).isEmpty then 0 else 1)<30))=true) QD)
  (hline:autoParam ((apos.endLine==cpos.line)=true) QD)(hs:autoParam (starEach (e::es) X.env=(false,eval e X.env)::starEach es X.env) QD)(hplain:autoParam ((backTo cpos (starEach es X.env)).any (·.1)=false) QD) :
  PE X (.Call (.Attribute o name apos) (e::es) [] cpos) (tBM K T r to t):=by
 subst h;exact Bw pa slot hty hm ho ha hbase hfew hline hs hplain
end
theorem O8 {K:c7}{a:de}{fr:St}{tc:TT}{Q:VK}(hl:SqL K H1 a xs)(Pv:Nat->List V->Hp->Prop)(h0:∀H,Ah H1 H->Pv 0 [] H)
  (stab:∀i ys H D zs o,H D=some (.lst zs)->Pv i ys H->Pv i ys (upd H D o))(hz:∀i ys H,i<xs.length->Pv i ys H->ys.length<sizeLine)
  (turn:∀(i:Nat) ys x H (A:VK) (R:Hp->Prop),xs[i]?=some x->Ah H1 H->Pv i ys H->(∀y H',Ah H H'->Pv (i+1) (ys++[y]) H'->A y H')->tc (some x::fr) H λb H3=>if b=true then te (some x::fr) H3 A else R H3)
  (fin:∀D ys H,H1 D=none->Ah H1 H->Pv xs.length ys H->H D=some (.lst ys)->Q (.ref D) H):N5 (Itl K a) H1 fr tc te Q:=by
 refine Z2 xs.length (λi=>xs.getD i .non) Pv h0 stab hz (λi H hi sm=>⟨xs,xs[i],sm.seq hl,by simp[hi]⟩) (λi H x H' hi sm h=>⟨?_,h.1⟩) (λH sm=>⟨xs,sm.seq hl,c9 _⟩) (λi ys H A R hi sm=>turn i ys _ H A R (by simp[hi]) sm) fin;have:=h.2 xs (sm.seq hl);simp[ju,this]
open PySem.W
structure qW (P:fi) (w:gl) (K:c7) (mg:Za2) (base:iq) (x m:Str) (k:Nat) (ps:Za6) (sp:Sp):Prop where
 ex:∃(W f:de) (fd:i0),Ax P w K mg base CX0 k f fd ps sp/\Eh K fd ps []/\mg x=some (.ref W)/\specialIn K (.ref W) "__getattribute__"=some (some (.builtin "type.__getattribute__")) /\
  readsIn K W (.type "type")=true/\findCls K (.ref W) (.type "type") m=some (.val (.ref f))/\keepIn K (.ref f)=true
section
variable {X:Cx} {x m:Str} {k:Nat} {ps:Za6} {sp:Sp} {np apos pos:Pos} {e:gv} {es:List gv} {t:TA} {pl:Sem Bool}
theorem tD (M:qW X.prog X.w X.K X.mg X.base x m k ps sp)(hr:Ck k X.A)(hg:Gl X x)(ha:PA X (e::es) t)(hdb:autoParam ((x==("__debug__":Str))=false) QF)
  (hst:autoParam (starEach (e::es) X.env=(false,eval e X.env)::starEach es X.env) QD)(hpl:autoParam ((backTo pos (starEach es X.env)).any (·.1)=false) QD)
  (ht:autoParam (eval (.Call (.Attribute (.Name x np) m apos) (e::es) [] pos) X.env=(do
   let ov <-eval (.Name x np) X.env
   standAt apos.atName
   let (f,first) <-holding [ov] (getMethod ov m pl)
   callWith pos f first (backTo pos (starEach (e::es) X.env)) (backToKw pos (keywordEach [] X.env)))) QD) :
  PE X (.Call (.Attribute (.Name x np) m apos) (e::es) [] pos) (dW sp [] E0 t):=by
 obtain⟨W,f,fd,F,hb,hm,ga,rd,ini,kp⟩:=M.ex;k_in;refine methodCall_KW (Of I hg hm ?_ hdb) ht;refine method_cls I.kIn ga (cls_value I.kIn rd ini rfl ?_);refine callWith_K (h₀:=X.base) I.ok.mod.kin kp (thn (ha pos pins _ Y H _ (I.tok (s.toks+1)) h) λus s1 ⟨vs,H1,I1,r,q⟩=>⟨I1.kIn,?_⟩) hst hpl;exact Ve F hr hb .nil Yp I1 r q
end
theorem Yi {K:c7}{fr:St}{tc:TT}{Q:VK}(n:Nat)(f1 f2:Nat->V)(Pv:de->Nat->List V->Hp->Prop)(h0:∀D H,H1 D=none->Ah H1 H->Pv D 0 [] H)
  (stab:∀D i ys H xs o,H D=some (.lst xs)->Pv D i ys H->Pv D i ys (upd H D o))(hz:∀D i ys H,i<n->Pv D i ys H->ys.length<sizeLine)(psame:∀D i ys H H',Ah H H'->Pv D i ys H->Pv D i ys H')
  (hgo:∀i H,i<n->Ah H1 H->J.go i H)(hy:∀i H v H',i<n->Ah H1 H->J.yld i H v H'->∃a,v=.ref a/\SqT K H' a [f1 i,f2 i]/\Ah H H')(hst:∀H,Ah H1 H->J.stop n H)
  (turn:∀D i ys H (A:VK) (R:Hp->Prop),i<n->Ah H1 H->H1 D=none->H D=some (.lst ys)->Pv D i ys H->(∀H',Ah H H'->Pv D (i+1) ys H'->R H')->(∀y H',Ah H H'->Pv D (i+1) (ys++[y]) H'->A y H') ->
   tc (some (f1 i)::some (f2 i)::fr) H λb H3=>if b=true then te (some (f1 i)::some (f2 i)::fr) H3 A else R H3)
  (fin:∀D ys H,H1 D=none->Ah H1 H->Pv D n ys H->H D=some (.lst ys)->Q (.ref D) H):Ki K J H1 fr tc te Q:=by
 intro D hD;refine⟨λi m H=>i<=n/\m=n-i/\Ah H1 H/\∃ys,H D=some (.lst ys)/\Pv D i ys H,⟨n,fq _,rfl,Al hD,[],Ac,h0 D _ hD (Al hD)⟩,?_⟩;rintro i m H ⟨hi,rfl,sm,ys,hl,hp⟩
 by_cases h:i=n
 ·subst h
  exact .inl ⟨hst H sm,fin D ys H hD sm hp hl⟩
 ·have hlt:i<n:=jo hi h
  refine .inr ⟨hgo i H hlt sm,λv H' hyl=>?_⟩;obtain⟨a,rfl,ht,s2⟩:=hy i H v H' hlt sm hyl;refine⟨a,_,_,rfl,ht,turn D i ys H' _ _ hlt (sm.trans s2) hD (s2 _ _ hl) (psame _ _ _ _ _ s2 hp) (λH3 s3 hp3=>?_) (λy H4 s4 hp4=>?_)⟩
  ·exact⟨n-(i+1),by lia,by lia,rfl,(sm.trans s2).trans s3,ys,s3 _ _ (s2 _ _ hl),hp3⟩
  refine⟨ys,s4 _ _ (s2 _ _ hl),hz D i ys _ hlt hp,n-(i+1),by lia,by lia,rfl,λb u e=>?_,ys++[y],Ac,stab _ _ _ _ _ _ (s4 _ _ (s2 _ _ hl)) hp4⟩;rw[Ai (Aj e hD)];exact s4 _ _ (s2 _ _ (sm _ _ e))
theorem mV {K:c7}{a:de}{fr:St}{tc:TT}{Q:VK}(ha:SqL K H1 a xs)(Pv:de->Nat->List V->Hp->Prop)(h0:∀D H,H1 D=none->Ah H1 H->Pv D 0 [] H)
  (stab:∀D i zs H us o,H D=some (.lst us)->Pv D i zs H->Pv D i zs (upd H D o))(hz:∀D i zs H,i<xs.length->Pv D i zs H->zs.length<sizeLine)(psame:∀D i zs H H',Ah H H'->Pv D i zs H->Pv D i zs H')
  (turn:∀D (i:Nat) zs x H (A:VK) (R:Hp->Prop),xs[i]?=some x->Ah H1 H->H1 D=none->H D=some (.lst zs)->Pv D i zs H->(∀H',Ah H H'->Pv D (i+1) zs H'->R H')->(∀y H',Ah H H'->Pv D (i+1) (zs++[y]) H'->A y H') ->
   tc (some (.int i)::some x::fr) H λb H3=>if b=true then te (some (.int i)::some x::fr) H3 A else R H3)
  (fin:∀D zs H,H1 D=none->Ah H1 H->Pv D xs.length zs H->H D=some (.lst zs)->Q (.ref D) H):Ki K (Ite K a) H1 fr tc te Q:=by
 refine Yi xs.length (λi=>.int i) (λi=>xs.getD i .non) Pv h0 stab hz psame (λi H hi sm=>⟨xs,xs[i]'(by lia),sm.seq ha,by simp⟩) (λi H v H' hi sm h=>?_)
  (λH sm=>⟨xs,sm.seq ha,rfl⟩) (λD i zs H A R hi sm=>turn D i zs _ H A R (by simp[hi]) sm) fin
 obtain⟨t,x,hn,rfl,h1,rfl⟩:=h;have e1:=h1 xs (sm.seq ha);refine⟨t,rfl,?_,Al hn⟩;simp only[ju,e1,o7];exact SqT.of Ac
end L2
end
section
namespace HD
open PySem PySem.W PySem.Calls PyProof.Rows
def oneA (s0:pf)(h0:iq)(m:Nat)(p:fi)(M:Nat)(w:gl):=
 (F9 treeTable p w m (some (.ref 6)) M s0 (topStub p)).map λs=>staticsOk (importedModules p.main.body) h0 s.abs.heap&&namesBound p s.abs.heap&&gensDone s.abs&&laidKept h0 s.abs.heap
def oneB (s0:pf)(m:Nat)(p q:fi)(loose:Za6)(M:Nat)(w:gl):=
 (F9 treeTable p w m (some (.ref 6)) M s0 (topStub p)).map λs=>openSeen q loose (importedModules p.main.body) (λ_=>true) true s.abs
def mG {α:Type}(Yf:dv->α)(s0:pf)(m:Nat)(p:fi)(M:Nat)(w:gl):=
 (F9 treeTable p w m (some (.ref 6)) M s0 (topStub p)).map λs=>Yf s.abs
theorem zD {α:Type}{Yf:dv->α}{s0:pf}{h0:iq}{m:Nat}{p q:fi}{loose:Za6}{M:Nat}{w:gl}{a:α}
  (hA:oneA s0 h0 m p M w=some true)(hB:oneB s0 m p q loose M w=some (openGood q loose))(hC:mG Yf s0 m p M w=some a) :
  bothT Yf s0 h0 m p q loose M w=some (true,openGood q loose,a):=by
 unfold oneA at hA;unfold oneB at hB;unfold mG at hC;unfold bothT Ze;obtain⟨s,r,l⟩:=gt.mp hA;rw[r] at hB hC ⊢;have hB:=dh hB;have hC:=dh hC;exact congrArg some (zq l (zq hB hC))
theorem left_of3 {p q:fi}{loose:Za6}{α:Type}{Yf:dv->α}{Ya:gl->α}{M N:Nat}(e:opening p=plainProg p.main.scope.names)(f:∀s,fenceModules? p s=some s)(hN:CA 600 N=true)(le:CA M N=true)
  (hA:∀w:gl,(λos=>oneA (bootT w os) (kq w.params) bootSize p M w)=λ_=>some true)(hB:∀w:gl,(λos=>oneB (bootT w os) bootSize p q loose M w)=λ_=>some (openGood q loose))
  (hC:∀w:gl,(λos=>mG Yf (bootT w os) bootSize p M w)=λ_=>some (Ya w)):LeftO p q loose (λ_=>true) Yf Ya N:=
 qP e f hN le λw=>funext λos=>zD (congrFun (hA w) os) (congrFun (hB w) os) (congrFun (hC w) os)
def Xo (s:pf)(a:Nat):Option Obj:=match Nat.blt a s.n with
 |true=>(match s.tree.get a with
  |some o=>alive o
  |none=>none)
 |false=>none
theorem kD {s:pf}{a:Nat}{o:Obj}(h:Xo s a=some o):s.abs.heap.get? a=some o:=by
 unfold Xo at h
 cases hb:Nat.blt a s.n with
 |false=>rw[hb] at h;cases h
 |true=>
  rw[hb] at h
  cases hg:s.tree.get a with
  |none=>rw[hg] at h;cases h
  |some u=>
   rw[hg] at h;have hlt:a<s.n:=by
    have:=zu hb;lia
   exact(abs_get hlt hg).trans h
theorem Rf {s:pf}:∀{as:Za4} {L:List (Option Obj)},(∀x∈L,x.isSome=true)->as.map (Xo s)=L->as.map s.abs.heap.get?=L
 |[],L,_,e=>e
 |a::as,[],_,e=>by cases e
 |a::as,x::L,h,e=>by
  obtain⟨e1,e2⟩:=AV e;obtain⟨o,ho⟩:=jj.mp (h x f7);subst ho;show s.abs.heap.get? a::as.map s.abs.heap.get?=_;rw[kD e1,Rf (λy hy=>h y (ge _ hy)) e2]
def oneP (as ts:List de)(s0:pf)(m:Nat)(p:fi)(M:Nat)(w:gl):=
 (F9 treeTable p w m (some (.ref 6)) M s0 (topStub p)).map λs=>(as.map (Xo s),ts.map (Xo s))
theorem hC_km {K:yh->DZ}{as:List de}{e:∀P,as=(K P).map (·.1)}{ts:List de}{p:fi}{M:Nat}
  (h:∀w:gl,(λos=>oneP as ts (bootT w os) bootSize p M w)=λ_=>some ((K w.params).map λq=>some q.2,ts.map λ_=>some (tabObj #[]))) :
  ∀w:gl,(λos=>mG (kmHook K as e ts).obs (bootT w os) bootSize p M w)=λ_=>some ((kmHook K as e ts).val w):=λw=>funext λos=>by
 have h:=congrFun (h w) os;unfold oneP at h;unfold mG;obtain⟨s,r,l⟩:=gt.mp h;obtain⟨l1,l2⟩:=Prod.mk.inj l;rw[r];show some (as.map s.abs.heap.get?,ts.map s.abs.heap.get?)=some ((K w.params).map λq=>some q.2,ts.map λ_=>some (tabObj #[]));rw[Rf (λx hx=>by obtain⟨q,_,rfl⟩:=iz.mp hx;rfl) l1,Rf (λx hx=>by obtain⟨q,_,rfl⟩:=iz.mp hx;rfl) l2]
end HD
lay_quick HD.oneP
theorem HD.oneP_eq:@HD.oneP=@PySem.W.Fast.tw13831889492591282369:=PySem.W.Fast.te13831889492591282369
lay_quick HD.oneA
lay_quick HD.oneB
theorem HD.oneA_eq:@HD.oneA=@PySem.W.Fast.tw6247638121477898359:=PySem.W.Fast.te6247638121477898359
theorem HD.oneB_eq:@HD.oneB=@PySem.W.Fast.tw4394042064226896843:=PySem.W.Fast.te4394042064226896843
end
section
namespace L2
open PySem PySem.Spec PyProof.Rows
variable {C CB CC CO CP CS Pt d dx i1 i2 it l1 l2:de} {A:ic} {op:vv} {X:Cx} {D:Hk} {env:Env} {iter tg:gv} {fd:i0} {base h h':iq} {H H' H0 H1 H2:Hp} {J:It} {pins:Za1} {as fp:List de} {ms:Za5} {es:List gv} {ks ws:List Int} {cs ns:Za4} {N kz nm ps:Za6} {xs ys:List V} {us vs:Za3} {M:wn} {n t':Nat} {oT:Obj} {an od:Option de} {pos:Pos} {B:Prop} {scope:l9} {pl:Sem Bool} {s s2:dv} {sp:Sp} {qual z:Str} {te:TE} {wi:TI} {y:V} {cdv ct doc oc pm:dr} {w:gl}
theorem xI {K:c7}{a:de}{i1 i2:Nat}{tb:TS}{Y:St}(hx:as.length=xs.length)(hy:as.length=ys.length)(Pv:Nat->St->Hp->Prop)(h0:Pv 0 Y H)
  (hl:∀i Y H,i<=as.length->Pv i Y H->SqL K H a (as.map V.ref))(ht:∀(i:Nat) t x y Y H,as[i]?=some t->xs[i]?=some x->ys[i]?=some y->Pv i Y H->H t=some (.tup [x,y]))
  (step:∀(i:Nat) x y Y H,xs[i]?=some x->ys[i]?=some y->Pv i Y H->tb { D with nx:=Pv (i+1),ct:=Pv (i+1),bk:=D.nx } ((Y.set i1 (some x)).set i2 (some y)) H)
  (fin:∀Y H,Pv as.length Y H->D.nx Y H):lA (Itl K a) (jC K 2 (Iq (Dy i1) (Iq (Dy i2) iR))) tb D Y H:=by
 refine⟨λi m Y H=>i<=as.length/\m=as.length-i/\Pv i Y H,⟨_,fq _,rfl,h0⟩,?_⟩;rintro i m Y H ⟨hi,rfl,hp⟩
 by_cases h:i=as.length
 ·exact .inl ⟨⟨_,hl i Y H hi hp,by rw[c5];lia⟩,fin Y H (h▸hp)⟩
 ·have hlt:i<as.length:=jo hi h
  refine .inr ⟨⟨_,.ref as[i],hl i Y H hi hp,by rw[df,c6 hlt];rfl⟩,Pv (i+1),λmt H' q=>⟨as.length-(i+1),by lia,hlt,rfl,q⟩,λv H' hyl=>?_⟩;obtain⟨rfl,hv⟩:=hyl;have hv:=hv _ (hl i Y H' hi hp);rw[df,c6 hlt] at hv;obtain rfl:=dh hv;exact T6 (SqT.of (ht i _ _ _ Y H' (c6 hlt) (c6 (by lia)) (c6 (by lia)) hp)) (step i _ _ Y H' (c6 (by lia)) (c6 (by lia)) hp)
theorem gX {K:c7}{a:de}{fr:St}{tc:TT}{Q:VK}(hx:as.length=xs.length)(hy:as.length=ys.length)(ha:SqL K H1 a (as.map V.ref))(ht:∀(i:Nat) t x y,as[i]?=some t->xs[i]?=some x->ys[i]?=some y->H1 t=some (.tup [x,y]))
  (Pv:de->Nat->List V->Hp->Prop)(h0:∀D H,H1 D=none->Ah H1 H->Pv D 0 [] H)
  (stab:∀D i zs H us o,H D=some (.lst us)->Pv D i zs H->Pv D i zs (upd H D o))(hz:∀D i zs H,i<as.length->Pv D i zs H->zs.length<sizeLine)(psame:∀D i zs H H',Ah H H'->Pv D i zs H->Pv D i zs H')
  (turn:∀D (i:Nat) zs x y H (A:VK) (R:Hp->Prop),xs[i]?=some x->ys[i]?=some y->Ah H1 H->H1 D=none->H D=some (.lst zs)->Pv D i zs H->(∀H',Ah H H'->Pv D (i+1) zs H'->R H')->(∀y H',Ah H H'->Pv D (i+1) (zs++[y]) H'->A y H') ->
   tc (some x::some y::fr) H λb H3=>if b=true then te (some x::some y::fr) H3 A else R H3)
  (fin:∀D zs H,H1 D=none->Ah H1 H->Pv D as.length zs H->H D=some (.lst zs)->Q (.ref D) H):Ki K (Itl K a) H1 fr tc te Q:=by
 refine Yi as.length (λi=>xs.getD i .non) (λi=>ys.getD i .non) Pv h0 stab hz psame (λi H hi sm=>⟨_,.ref as[i],sm.seq ha,by rw[df,c6 hi];rfl⟩) (λi H v H' hi sm h=>?_)
  (λH sm=>⟨_,sm.seq ha,by rw[c5];exact c9 _⟩) (λD i zs H A R hi sm=>turn D i zs _ _ H A R (by simp[show i<xs.length by lia]) (by simp[show i<ys.length by lia]) sm) fin
 obtain⟨rfl,hv⟩:=h;have hv:=hv _ (sm.seq ha);rw[df,c6 hi] at hv;obtain rfl:=dh hv;refine⟨_,rfl,SqT.of (sm _ _ (ht i _ _ _ (c6 hi) ?_ ?_)),Ah.refl _⟩
 ·simp[show i<xs.length by lia]
 ·simp[show i<ys.length by lia]
theorem qG (K:c7){e:gv}{f:Str}{ta:TE}(he:PE X e ta)(h:autoParam (X.K=K) QD)(hb:autoParam (attributeBase e f X.env (eval e X.env)=eval e X.env) QD):PE X (.Attribute e f pos) (rT K ta f):=by
 subst h;exact pT he hb
open PySem.W
def GD (K:DZ)(x:Str)(st:im):Prop:=∃(f:de) (fd:i0),Fun K x x st f fd/\nsIn K mainGlobals x=some (some (.ref f))
def MD (K:DZ)(C:de)(x q:Str)(st:im):Prop:=∃(f:de) (fd:i0),Fun K x q st f fd/\findIn K (.ref C) x=some (some (.ref f))/\isFn K (.ref f)=true
def BD (K:DZ)(C:de)(x q:Str)(st:im):Prop:=∃(f:de) (fd:i0),Fun K x q st f fd/\findCls K (.ref C) (.type "type") x=some (.val (.ref f))
structure CD (K:DZ) (C:de) (x:Str):Prop where
 a:nsIn K mainGlobals x=some (some (.ref C))
 ma:makesIn K C=true
 kc:keepIn K (.ref C)=true
structure BC (K:DZ) (C:de) (x:Str):Prop where
 a:nsIn K mainGlobals x=some (some (.ref C))
 bg:specialIn K (.ref C) "__getattribute__"=some (some (.builtin "type.__getattribute__"))
 br:readsIn K C (.type "type")=true
def noB:Option (Za7)->Bool
 |some none=>true
 |_=>false
structure FD (K:DZ) (C:de) (fs:Za6):Prop where
 cl:Cls K C
 al:(fs.all λf=>noB (findIn K (.ref C) f))=true
section
variable {P:fi} {w:gl} {K:DZ} {mg:Za2} {base h:iq} {x q:Str} {st:im} {f C:de} {oc:dr} {od an:Option de} {osl:Array (Za7)} {kV doc pm cdv ct:dr} {fs ps:Za6} {k:Nat} {sp:Sp}
theorem gD (a:nsIn K mainGlobals x=some (some (.ref f)))(l:K.lookup f=some ⟨oc,od,.func (fnOf x x (Bs st) (Bi st) (Ad st) .none kV doc pm an cdv ct),osl⟩)(c:codeIn K cdv x=true)(k:keepIn K (.ref f)=true):GD K x st:=⟨f,_,Zi l c k,a⟩
theorem mD (a:findIn K (.ref C) x=some (some (.ref f)))(i:isFn K (.ref f)=true)(l:K.lookup f=some ⟨oc,od,.func (fnOf x q (Bs st) (Bi st) (Ad st) .none kV doc pm an cdv ct),osl⟩)(c:codeIn K cdv q=true)(k:keepIn K (.ref f)=true):MD K C x q st:=⟨f,_,Zi l c k,a,i⟩
theorem bD (a:findCls K (.ref C) (.type "type") x=some (.val (.ref f)))(l:K.lookup f=some ⟨oc,od,.func (fnOf x q (Bs st) (Bi st) (Ad st) .none kV doc pm an cdv ct),osl⟩)(c:codeIn K cdv q=true)(k:keepIn K (.ref f)=true):BD K C x q st:=⟨f,_,Zi l c k,a⟩
theorem fD (pg:plainGet K C wv=true)(hd:hasDictIn K C=true)(po:plainOver K C=true)(sa:findIn K (.ref C) "__setattr__"=some (some (.builtin "object.__setattr__")))(al:(fs.all λf=>noB (findIn K (.ref C) f))=true):FD K C fs:=⟨⟨pg,hd,po,sa⟩,al⟩
theorem FD.no (D:FD K C fs)(i:Nat){g:Str}(h:autoParam (fs[i]?=some g) QD):Ba K C g:=by
 have:=ja.mp D.al g (e6 h);show findIn K (.ref C) g=some none
 cases e:findIn K (.ref C) g with
 |none=>rw[e] at this;cases this
 |some o=>
  cases o with
  |none=>rfl
  |some v=>rw[e] at this;cases this
def Cur:Nat->(Za3->Prop)->Prop
 |0,P=>P []
 |n+1,P=>∀a,Cur n λl=>P (a::l)
theorem Cur.all:∀{n:Nat} {P:Za3->Prop},Cur n P->∀us:Za3,us.length=n->P us
 |0,_,h,[],_=>h
 |n+1,_,h,a::l,e=>Cur.all (n:=n) (h a) l (rb e)
abbrev Jk (x q:Str)(st:im)(ps:Za6):Prop:=∀(kV doc pm:dr) (an:Option de) (cdv ct:dr),Cur ps.length λus=>bindArgs (fnOf x q (Bs st) (Bi st) (Ad st) .none kV doc pm an cdv ct) ⟨us,[]⟩=pure (ps.zip us)
theorem Fun.bd (F:Fun K x q st f fd)(hb:Jk x q st ps):Eh K fd ps []:=F.binds λa b c d e g=>(hb a b c d e g).all
theorem GD.cal (X:K.In h)(G:h.Ns mainGlobals mg)(g:GD K x st)(ok:∀{f fd},Fun K x x st f fd->Ax P w K mg base CX0 k f fd ps sp)
  (hb:autoParam (Jk x x st ps) QL):Cal P w K mg base x k ps sp:=
 let ⟨f,fd,F,a⟩:=g
 ⟨⟨f,fd,ok F,F.bd hb,mg_of X G a,F.kp⟩⟩
theorem MD.mth (c:Cls K C)(g:MD K C x q st)(ok:∀{f fd},Fun K x q st f fd->Ax P w K mg base CX0 k f fd ps sp)
  (hb:autoParam (Jk x q st ps) QL):Mth P w K mg base C x k ps sp:=
 let ⟨f,fd,F,a,i⟩:=g
 ⟨⟨f,fd,ok F,F.bd hb,⟨a,i,F.kp⟩⟩,c⟩
theorem MD.mkr {y:Str}(X:K.In h)(G:h.Ns mainGlobals mg)(c:CD K C y)(g:MD K C "__init__" q st)(ok:∀{f fd},Fun K "__init__" q st f fd->Ax P w K mg base CX0 k f fd ps sp)
  (hb:autoParam (Jk "__init__" q st ps) QL):Mkr P w K mg base y C k ps sp:=
 let ⟨f,fd,F,a,i⟩:=g
 ⟨⟨f,fd,ok F,F.bd hb,⟨c.ma,a,i,c.kc⟩,mg_of X G c.a⟩⟩
theorem BD.calC {y:Str}(X:K.In h)(G:h.Ns mainGlobals mg)(c:BC K C y)(g:BD K C x q st)(ok:∀{f fd},Fun K x q st f fd->Ax P w K mg base CX0 k f fd ps sp)
  (hb:autoParam (Jk x q st ps) QL):qW P w K mg base y x k ps sp:=
 let ⟨f,fd,F,a⟩:=g
 ⟨⟨C,f,fd,ok F,F.bd hb,mg_of X G c.a,c.bg,c.br,a,F.kp⟩⟩
end
def xR (K:c7):R2:=λx y H Q=>∃a b xs,x=.ref a/\y=.ref b/\SqL K H a xs/\SqL K H b []/\Q (.bl (!decide (xs=[]))) H
theorem wX (hu:X.A.units+60<cLine):OpR X (compareOp .NotEq) (xR X.K):=by
 intro pins s Y H x y v u Q I rx ry h;obtain⟨a,b,xs,rfl,rfl,h1,h2,q⟩:=h;cases rx;cases ry;obtain⟨is,r1,p1,_⟩:=I.list h1;obtain⟨js,r2,p2,_⟩:=I.list h2;have l1:=r1.length;have l2:=r2.length;have l2:js.length=0:=by simpa using l2.symm
 by_cases hl:xs=[]
 ·subst hl
  have l1:is.length=0:=by simpa using l1.symm
  have:=sq (A:=X.A) (e:=λ_=>true) p1.isList p2.isList (by simp;lia) (by lia) λj a1 a2=>absurd a1 (by simp;lia);refine this _ _ _ _ ⟨.bl (!decide (([]:List V)=[])),H,I,?_,q⟩;simp[A8,l1]
 ·have hp:0<xs.length:=AE.mpr hl
  have:=vc (A:=X.A) p1.isList p2.isList (by simp;lia) (by lia);refine this _ _ _ _ ⟨.bl (!decide (xs=[])),H,I,?_,q⟩;rw[decide_eq_false hl];simp[A8]
theorem yX {K:c7}{Q:VK}{a b:de}(h1:SqL K H a xs)(h2:SqL K H b [])(q:Q (.bl (!decide (xs=[]))) H):xR K (.ref a) (.ref b) H Q:=⟨a,b,xs,rfl,rfl,h1,h2,q⟩
theorem zJ:bootBuiltins "all"=some (.builtin "all"):=by decide +kernel
theorem Wm:∀{bs:Za5} {us:Za3},Au (bs.map V.bl) us->LSm.BoolsAre us bs
 |[],_,.nil=>.nil
 |b::bs,_,.cons hu hr=>by
  cases hu;exact .cons b (Wm hr)
section
variable {X:Cx}
def Aax (K:c7):List V->Hp->VK->Prop:=λxs H Q=>∃(p:de) (bs:Za5),xs=[.ref p]/\SqL K H p (bs.map V.bl)/\Q (.bl (bs.all id)) H
theorem kJ (hc:X.calm=true):Ec X (.builtin "all") (Aax X.K):=by
 intro pins s Y H xs us Q I r h;obtain⟨p,bs,rfl,hp,q⟩:=h;obtain⟨u,rfl,ru⟩:=E6 r;cases ru;obtain⟨its,rv,pl,_⟩:=I.list hp;have hb:=Wm rv;have hl:=pl.isList;have hlt:p<s.heap.objs.size:=by obtain⟨_,e,_⟩:=hl;exact d7 e
 refine call_all_walk (xn hl ⟨s.heap.objs.size,[s.heap.objs.size,p],[s.heap.objs.size],its.toArray.size,_,_,λi=>(bs[i]?).getD true,rfl,Walks.list (A:=X.A.in1) (I.ok.hd hc) _ p (fh hlt) its.toArray,⟨⟨_,fv _ rfl,rfl,rfl⟩,hl.push _⟩,λi v s1 Q1 E1 hv hQ=>?_,λh1 tk hk=>?_⟩)
 ·obtain⟨b,e,rfl⟩:=hb.get i v (by simpa using hv)
  dsimp only at hQ;rw[e] at hQ;exact ll hQ
 ·rw[show((di its.toArray.size).all λi=>(bs[i]?).getD true)=bs.all id by rw[d9,hb.length];exact LSm.range_all bs]
  exact⟨.bl (bs.all id),H,I.kept (LSm.kept_iter hk),rfl,q⟩
end
section
variable {X:Cx} {e a b o value:gv} {es:List gv} {te ta tb tv:TE} {t:TA} {pos pos':Pos} {x f:Str}
theorem tpa (ha:PE X e te)(hr:PA X es t)(hs:autoParam (Pk e=true) QD):PA X (e::es) (Ti te t):=wK ha hr hs
theorem tix {r:R2}(hr:IxR X r)(ha:PE X a ta)(hb:PE X b tb)(hs:eP b:=by exact λ_ _=>rfl):PE X (.Subscript a b pos) (tOp r ta tb):=yU hr ha hb hs
theorem tpc {r:R2}(ho:OpR X (compareOp op) r)(ha:PE X a ta)(hb:PE X b tb)(hm:behindInMarks op b=false:=by exact lY _):PE X (.Compare a [op] [b] pos) (tOp r ta tb):=eM ho ha hb hm
theorem ttc {r:R2}(ho:OpR X (compareOp op) r)(ha:PE X a ta)(hb:PE X b tb)(hm:behindInMarks op b=false:=by exact lY _):PT X (.Compare a [op] [b] pos) (pJ (tOp r ta tb)):=Ol ho ha hb hm
theorem tfl (he:PE X e ta)(hb:autoParam (attributeBase e f X.env (eval e X.env)=eval e X.env) QD):PE X (.Attribute e f pos) (rT X.K ta f):=pT he hb
theorem tsf (ha:PE X o ta)(hv:PE X value tv)(hs:autoParam (swapsWith value (some (.Attribute o f pos')) pos.line X.env=pure false) QD):PS X (.Assign [.Attribute o f pos'] value pos) (uI X.K ta tv f):=xA ha hv hs
theorem tst (i:Nat)(hN:X.N.Nodup)(he:PE X e te)(hi:autoParam (X.N[i]?=some x) QD)(hx:Loc X.env.scope x:=by exact zt rfl)(hs:autoParam (swapsWith e (some (.Name x pos')) pos.line X.env=pure false) QD)(hf:autoParam (X.fn x=true\/X.env.scope.names.lookup x=some .local) QH) :
  PS X (.Assign [.Name x pos'] e pos) (gR te (Dy i)):=Vv hN hi hx he hs hf
theorem tgn (i:Nat)(hN:X.N.Nodup)(hi:autoParam (X.N[i]?=some x) QD)(hx:Loc X.env.scope x:=by exact zt rfl)(hf:autoParam (X.fn x=true\/X.env.scope.names.lookup x=some .local) QH):PG X (.Name x pos) (Dy i):=Jv hN hi hx hf
theorem tau (i:Nat){op:CZ}{ti:TIp}(hN:X.N.Nodup)(he:PE X e te)(ho:PIp X op ti)(hi:autoParam (X.N[i]?=some x) QD)(hx:Loc X.env.scope x:=by exact zt rfl)(hf:autoParam (X.fn x=true\/X.env.scope.names.lookup x=some .local) QH) :
  PS X (.AugAssign (.Name x pos') op e pos) (wH i te ti):=vB hN hi hx he ho hf
end
open TW
section
variable {prog:fi} {w:gl} {A:ic} {E:Za0} {s:dv}
variable {kd:qj} {P:iu->Prop} {blt:iu->iu->Bool} (L:Xz prog w A E s kd P blt) (o:Swo blt)
include L o
theorem Kh {l0:List iu}{st:mo}{Q:Unit->mo->Prop}(hk:kindOf st=kd)(hf:failedOf st=none)(hp:pendingOf st=#[])(e:(arrOf st).toList=l0)(hP:∀x∈l0,P x)(h2:2<=l0.length)(h64:l0.length<64)
  (h:∀st':mo,failedOf st'=none->(arrOf st').toList=Ao blt l0->Q () st'):wpS (model prog w) A E s sortRuns' Q st:=by
 have hsz:(arrOf st).size=l0.length:=by rw[<-fb,e]
 rw[sortRuns'_eq];refine wpS_bind (xm ?_);dsimp only;have hmr:minRun' l0.length l0.length 0=l0.length:=by
  obtain⟨f,hf⟩:∃f,l0.length=f+1:=⟨l0.length-1,by lia⟩;have:minRun' (f+1) l0.length 0=l0.length:=by rw[minRun'_succ,if_pos h64];rfl
  rwa [<-hf] at this
 simp only[hsz,hmr];have ed:∀l:List iu,[]++Ao blt (l.take l.length)++l.drop l.length=Ao blt l:=λl=>by rw[ej (c9 _),i7 (c9 _),gd,jy]
 refine wpS_bind (wpS_mono (wpS_forRange
  (I:=λx c st'=>(x=0/\c=(none,0)/\st'=st)\/(1<=x/\c=(none,l0.length)/\∃xs:Array iu,st'=setPending (setArr st xs) #[(0,l0.length,0)]/\xs.toList=Ao blt l0))
  (Q:=λc st'=>c=(none,l0.length)/\∃xs:Array iu,st'=setPending (setArr st xs) #[(0,l0.length,0)]/\xs.toList=Ao blt l0) ?step ?fin (.inl ⟨rfl,rfl,rfl⟩)) ?post)
 case fin=>
  rintro c st' (⟨hx,_,_⟩|⟨_,hc,hD⟩)
  ·lia
  ·exact⟨hc,hD⟩
 case step=>
  rintro x c st' _ hx (⟨rfl,rfl,rfl⟩|⟨hx1,rfl,hD⟩)
  ·dsimp only
   rw[if_neg (by lia)];simp only[ox,oy,mw];refine wpS_bind (Se L o hk (λx hx=>hP x (by rw[<-e];exact hx)) (by rw[hsz];lia) (by lia) λm xs hm1 hm2 ex=>?_);rw[e,mj,ub] at ex;dsimp only
   by_cases hlt:m<l0.length
   ·rw[if_pos hlt]
    refine wpS_bind (CM (ug ⟨rfl,?_⟩));refine wpS_bind (N4 L o (st:=setArr st' xs) (lo:=0) (n:=l0.length) (ok:=m) (T:=[]) (D:=l0) hk hP rfl hm1 hm2 (c9 _) ex λxs2 ex2=>?_);rw[ed] at ex2;simp only[Bool.not_true,kn,if_false];refine wpS_bind (xm ?_);have hb:(pendingOf (setArr (setArr st' xs) xs2)).back?=none:=by show(pendingOf st').back?=none;rw[hp];rfl
    rw[hb];dsimp only;refine wpS_bind (DN (jn (.inr ⟨by lia,rfl,xs2,?_,ex2⟩)));show setPending (setArr st' xs2) ((pendingOf st').push _)=_;rw[hp];rfl
   ·rw[if_neg hlt]
    have hm:m=l0.length:=by lia
    subst hm;rw[ed] at ex;refine wpS_bind (xm ?_);have hb:(pendingOf (setArr st' xs)).back?=none:=by show(pendingOf st').back?=none;rw[hp];rfl
    rw[hb];dsimp only;refine wpS_bind (DN (jn (.inr ⟨by lia,rfl,xs,?_,ex⟩)));show setPending (setArr st' xs) ((pendingOf st').push _)=_;rw[hp];rfl
  ·dsimp only
   rw[if_pos (c9 _)];exact jn ⟨rfl,hD⟩
 case post=>
  rintro c st' ⟨rfl,xs,rfl,ex⟩;dsimp only;refine wpS_bind (wpS_mono (wpS_forRange (I:=λ_ c st''=>st''=setPending (setArr st xs) #[(0,l0.length,0)]/\c=(none,())) (Q:=λc st''=>st''=setPending (setArr st xs) #[(0,l0.length,0)]/\c=(none,())) ?_ (λ_ _ hh=>hh) ⟨rfl,rfl⟩) ?_)
  ·rintro x c st'' _ _ ⟨rfl,rfl⟩
   refine wpS_bind (xm ?_);rw[if_pos (show(pendingOf (setPending (setArr st xs) #[(0,l0.length,0)])).size<=1 from c9 1)];exact jn ⟨rfl,rfl⟩
  ·rintro c st'' ⟨rfl,rfl⟩
   exact jn (h _ hf ex)
end
def ltS (x y:Str):Bool:=decide (x.cps.toList<y.cps.toList)
theorem Om {α:Type}(F:α->Str):Swo λx y=>ltS (F x) (F y):=by
 refine⟨λa=>decide_eq_false (List.lt_irrefl _),λa b c h1 h2=>?_,λa b c h1=>?_⟩
 ·exact decide_eq_true (List.lt_trans (of_decide_eq_true h1) (of_decide_eq_true h2))
 ·have h1:=of_decide_eq_true h1
  by_cases h:(F a).cps.toList<(F b).cps.toList
  ·exact .inl (decide_eq_true h)
  ·refine .inr (decide_eq_true ?_)
   by_cases h':(F b).cps.toList<(F c).cps.toList
   ·exact h'
   ·exact absurd h1 (uc.mpr (List.le_trans (uc.mp h') (uc.mp h)))
def mX (x y:iu):Bool:=ltS (strOf x.1) (strOf y.1)
def Iu (x y:Str×dr):Bool:=ltS x.1 y.1
theorem Ta {n:Str}{t:Tok}:∀{vs:Za3} {ns:Za6},n6 vs ns->n6 (vs++[.str n t]) (ns++[n])
 |_,_,.nil=>.cons n t .nil
 |_,_,.cons x u h=>.cons x u (Ta h)
theorem G8:∀{vs:Za3} {ns:Za6},n6 vs ns->vs.length=ns.length
 |_,_,.nil=>rfl
 |_,_,.cons _ _ h=>congrArg (·+1) (G8 h)
theorem dY:∀{vs:Za3} {ns:Za6},n6 vs ns->∀(i:Nat) v,vs[i]?=some v->∃x t,v=.str x t/\ns[i]?=some x
 |_,_,.nil,i,v,h=>by cases h
 |_,_,.cons x t h,0,v,e=>⟨x,t,(dh e).symm,rfl⟩
 |_,_,.cons x t h,i+1,v,e=>dY h i v e
theorem Tp {ss:Za6}(h:n6 vs ss)(h2:2<=vs.length):keyKind' vs.toArray=pure oneType':=by
 match vs,h,h2 with
 |_::_::_,h,_=>exact keyKind_strs h
section
variable {prog:fi} {w:gl} {A:ic} {E:Za0} {s:dv}
theorem Tz:Xz prog w A E s oneType' (λx=>∃n t,x.1=l5 n t) mX:=by
 intro x y st Q hx hy hk h;obtain⟨x1,x2⟩:=x;obtain⟨y1,y2⟩:=y;obtain⟨a,t,e1⟩:=hx;obtain⟨b,u,e2⟩:=hy;dsimp only at e1 e2;subst e1 e2;rw[lt'_eq];refine wpS_bind (xm ?_);rw[hk];refine wpS_bind (CM (sw ?_));rw[keyLt'_oneType];exact oneLt_str ⟨rfl,jn h⟩
theorem mC {keys:Array dr}(hk:n6 keys.toList kz):(Ao mX (keys.zip vs.toArray).toList).map (·.2)=(Ao Iu (kz.zip vs)).map (·.2):=by
 have e2:(keys.toList.zip vs).map (λp:iu=>(strOf p.1,p.2))=kz.zip vs:=by
  rw[<-hk.strs,List.zip_map_left];exact ii λ⟨x,y⟩ _=>rfl
 rw[<-e2,Er (lt:=mX) (f:=λp:iu=>(strOf p.1,p.2)) (λ_ _=>rfl),gu,ksk_zip];rfl
theorem S5 {a kS:de}{keys:Array dr}{e e1:Nat}{st:mo}{P:yr->dv->Prop}(gk:s.heap.get? kS=some (seqObj "list" keys e))(ga:s.heap.get? a=some (seqObj "list" #[] e1))(hka:kS≠a)
  (hk:n6 keys.toList kz)(hlen:kz.length=vs.length)(hz:vs.length<=sizeLine)(hs:(arrOf st).toList=Ao mX (keys.zip vs.toArray).toList)(hfl:failedOf st=none)
  (h:∀h' out c,(∀b o,b≠a->b≠kS->s.heap.get? b=some o->h'.get? b=some o)->h'.get? a=some (seqObj "list" out c)->out.toList=(Ao Iu (kz.zip vs)).map (·.2)->P (.done (.ret .none)) { s with heap:=h' }) :
  wpAny (model prog w) A (ksk_tail a false e1 (.ref kS) st) P E s:=by
 have hsz:keys.size=vs.length:=by
  have h1:=G8 hk;rw[fb] at h1;lia
 have s1:=o3 s.heap kS (i5 λ_=>(#[]:Array dr));have na1:(s.heap.update kS (i5 λ_=>(#[]:Array dr))).get? a=some (seqObj "list" #[] e1):=(s1.2 a hka.symm).trans ga;have s2:=o3 (s.heap.update kS (i5 λ_=>(#[]:Array dr))) a (i5 λ_=>(arrOf st).map (·.2));obtain⟨c2,hc2⟩:∃c2,((s.heap.update kS (i5 λ_=>(#[]:Array dr))).update a (i5 λ_=>(arrOf st).map (·.2))).get? a=some (seqObj "list" ((arrOf st).map (·.2)) c2):=⟨_,um na1 λ_=>(arrOf st).map (·.2)⟩;have eo:((arrOf st).map (·.2)).toList=(Ao Iu (kz.zip vs)).map (·.2):=by
  rw[BU,hs,mC hk]
 have so:((arrOf st).map (·.2)).size<=sizeLine+1:=by
  rw[<-fb,eo,c5,Dw,l6];lia
 unfold ksk_tail
 try dsimp only
 refine wpAny_bind (listUpdate_at gk rfl ?_ (by rw[hsz];exact hz) (fq _));refine wpAny_bind (wpAny_letGo ?_);refine wpAny_bind (seqEpoch_at na1 rfl ?_);simp only[kn,if_false];refine wpAny_bind (listUpdate_at na1 rfl ?_ (fq _) so);rw[hfl];simp only[bne_self_eq_false,kn,if_false];exact d4 (h _ _ c2 (λb o h1 h2 q=>(s2.2 b h1).trans ((s1.2 b h2).trans q)) hc2 eo)
theorem pN {a kS:de}{keys:Array dr}{e e1:Nat}{P:yr->dv->Prop}(gk:s.heap.get? kS=some (seqObj "list" keys e))(ga:s.heap.get? a=some (seqObj "list" #[] e1))(hka:kS≠a)
  (hk:n6 keys.toList kz)(hlen:kz.length=vs.length)(hz:vs.length<=sizeLine)(h64:vs.length<64)
  (h:∀h' out c,(∀b o,b≠a->b≠kS->s.heap.get? b=some o->h'.get? b=some o)->h'.get? a=some (seqObj "list" out c)->out.toList=(Ao Iu (kz.zip vs)).map (·.2)->P (.done (.ret .none)) { s with heap:=h' }) :
  wpAny (model prog w) A (ksk_end a false vs.toArray e1 (.ref kS) keys) P E s:=by
 have hsz:keys.size=vs.length:=by
  have h1:=G8 hk;rw[fb] at h1;lia
 have hzs:(keys.zip vs.toArray).size=vs.length:=by rw[Array.size_zip,hsz,d9,oy]
 unfold ksk_end
 try dsimp only
 simp only[kn,if_false]
 by_cases h2:vs.toArray.size<2
 ·rw[if_pos h2,if_pos h2]
  refine wpAny_bind (d4 ?_);rw[BH];refine wpAny_bind (d4 ?_)
  try dsimp only
  refine S5 (st:=w8 general' (keys.zip vs.toArray) #[] 7 none) gk ga hka hk hlen hz ?_ rfl h;show(keys.zip vs.toArray).toList=_;refine(G9 ?_).symm;have hl:(keys.zip vs.toArray).toList.length<2:=by rw[fb,hzs];rw[d9] at h2;exact h2
  exact Ws hl
 ·rw[if_neg h2,if_neg h2]
  rw[d9] at h2;rw[show keyKind' keys=pure oneType' from Tp hk (by rw[fb,hsz];lia)];refine wpAny_bind (d4 ?_);refine wpAny_bind (kx (Kh (P:=λx=>∃n t,x.1=l5 n t) Tz (Om λx:iu=>strOf x.1) (l0:=(keys.zip vs.toArray).toList) (st:=w8 oneType' (keys.zip vs.toArray) #[] 7 none)
   (Q:=λ_ st'=>failedOf st'=none/\(arrOf st').toList=Ao mX (keys.zip vs.toArray).toList) rfl rfl rfl rfl (λx hx=>?_) (by rw[fb,hzs];lia) (by rw[fb,hzs];exact h64) λst' a1 a2=>⟨a1,a2⟩) ?_ λ_ _ e=>e)
  ·rw[ksk_zip] at hx
   obtain⟨x,y⟩:=x;exact hk.all _ (nl hx).1
  rintro⟨⟨⟩,st'⟩ s' ⟨rfl,hf,hs⟩
  try dsimp only
  exact S5 gk ga hka hk hlen hz hs hf h
theorem gV {a kS:de}{f:dr}{e1:Nat}{QN:dv}{P:yr->dv->Prop}(gk:s.heap.get? kS=some (seqObj "list" #[] 0))(ga:s.heap.get? a=some (seqObj "list" #[] e1))(hka:kS≠a)(hn:QN.heap.get? kS=none)
    (keep : J1 a QN.heap s.heap)(hlen : kz.length = vs.length)(hz : vs.length <= sizeLine)(h64 : vs.length < 64)
    (turn : ∀ (i : Nat) (v : dr) (k : Str), vs[i]? = some v->kz[i]? = some k->∀ (h : iq) (tk : Nat) (Q : dr->dv->Prop), J1 a QN.heap h ->
      (∀ t h' tk', (∀ b o, h.get? b = some o->h'.get? b = some o)->Q (.str k t) { s with heap := h', toks := tk' })->wpAny (model prog w) A (call f [v]) Q (λ_ _ => False) { s with heap := h, toks := tk })
    (h : ∀ h' tk out c, J1 a QN.heap h'->h'.get? a = some (seqObj "list" out c)->out.toList = (Ao Iu (kz.zip vs)).map (·.2)->P (.done (.ret .none)) { s with heap := h', toks := tk }) :
    wpAny (model prog w) A (ksk_rest a f false vs.toArray e1 (.ref kS)) P E s := by
  unfold ksk_rest;refine wpAny_bind (ug ?_)
  first
    | rw [List.forIn_toArray]
    | (rw [<- qp]; simp only [jf])
    | rw [<- qp]
  refine wpAny_bind (ksk_fold (λi s' => ∃ h' tk kA e, s' = { s with heap := h', toks := tk }/\J1 a QN.heap h'/\h'.get? kS = some (seqObj "list" kA e)/\h'.get? a = some (seqObj "list" #[] e1)/\n6 kA.toList (kz.take i)) vs 0 s
    ⟨s.heap, s.toks, #[], 0, rfl, keep, gk, ga, by simpa using StrsAre.nil⟩ ?step ?done)
  case step =>
    rintro j x s' hx ⟨h', tk, kA, e, rfl, K', gk', ga', hk⟩;simp only [mw] at hk ⊢;have hj : j < vs.length := (dk.mp hx).1;obtain ⟨k, hkj⟩ : ∃ k, kz[j]? = some k := ⟨_, c6 (by lia)⟩;have hz2 : kA.size < vs.length := by
      have h1 := G8 hk;rw [fb, eg] at h1;lia
    refine wpAny_bind (sw (kx (turn j x k hx hkj h' tk (λv s'' => ∃ (t : Tok) (g : iq) (tk2 : Nat), v = .str k t/\s'' = { s with heap := g, toks := tk2 }/\∀ b o, h'.get? b = some o->g.get? b = some o) K' λt2 g tk2 kg => ⟨t2, g, tk2, rfl, rfl, kg⟩) (λv s'' he => ?_) λ_ _ hF => hF.elim));obtain ⟨t2, g, tk2, rfl, rfl, kg⟩ := he
    try dsimp only
    have s1 := o3 g kS (i5 (·.push (.str k t2)));obtain ⟨c2, hc2⟩ : ∃ c2, (g.update kS (i5 (·.push (.str k t2)))).get? kS = some (seqObj "list" (kA.push (.str k t2)) c2) := ⟨_, um (kg _ _ gk') (·.push (.str k t2))⟩;have ek : kz.take (j + 1) = kz.take j ++ [k] := by rw [gn, hkj]; simp
    have ea : (kA.push (l5 k t2)).toList = kA.toList ++ [l5 k t2] := by simp
    refine wpAny_bind (listUpdate_at (kg _ _ gk') rfl ?_ (by lia) (gm (lz (Array.size_push ..)) (by lia)));exact d4 ⟨rfl, _, _, kA.push (.str k t2), c2, rfl, λb o hb q => (s1.2 b (λz => by rw [z, hn] at q; cases q)).trans (kg _ _ (K' b o hb q)), hc2, (s1.2 a hka.symm).trans (kg _ _ ga'), by rw [ea, ek]; exact Ta hk⟩
  case done =>
    rintro s' ⟨h', tk, kA, e, rfl, K', gk', ga', hk⟩;have hk' : n6 kA.toList kz := by
      have e3 : kz.take (0 + vs.length) = kz := ej (by lia);rw [e3] at hk;exact hk
    try dsimp only
    refine wpAny_bind (BE gk' rfl ?_);exact pN gk' ga' hka hk' hlen hz h64 λh3 out c k3 g3 e3 => h h3 tk out c (λb o hb q => k3 b o hb (λz => by rw [z, hn] at q; cases q) (K' b o hb q)) g3 e3
theorem iC {a:de}{f:dr}{P:yr->dv->Prop}(ho:s.heap.get? a=some (seqObj "list" vs.toArray n))(hlen:kz.length=vs.length)(hz:vs.length<=sizeLine)(h64:vs.length<64)
  (turn:∀(i:Nat) (v:dr) (k:Str),vs[i]?=some v->kz[i]?=some k->∀(h:iq) (tk:Nat) (Q:Za0),J1 a s.heap h ->
   (∀t h' tk',(∀b o,h.get? b=some o->h'.get? b=some o)->Q (.str k t) { s with heap:=h',toks:=tk' })->wpAny (model prog w) A (call f [v]) Q (λ_ _=>False) { s with heap:=h,toks:=tk })
  (h:∀h' tk out c,J1 a s.heap h'->h'.get? a=some (seqObj "list" out c)->out.toList=(Ao Iu (kz.zip vs)).map (·.2)->P (.done (.ret .none)) { s with heap:=h',toks:=tk }) :
  wpAny (model prog w) A (ksk_tree a f false) P E s:=by
 have ha:a<s.heap.objs.size:=d7 ho;have s1:=o3 s.heap a (i5 λ_=>(#[]:Array dr));obtain⟨e1,ho1⟩:∃e1,(s.heap.update a (i5 λ_=>(#[]:Array dr))).get? a=some (seqObj "list" #[] e1):=⟨_,um ho λ_=>#[]⟩;have hkS:((s.heap.update a (i5 λ_=>(#[]:Array dr))).push (seqObj "tuple" vs.toArray 0)).objs.size=s.heap.objs.size+1:=by rw[zh,rq]
 unfold ksk_tree;refine wpAny_bind (BE ho rfl ?_);refine wpAny_bind (listUpdate_at ho rfl ?_ (by simpa using hz) (fq _));refine wpAny_bind (seqEpoch_at ho1 rfl ?_);refine wpAny_bind (zf ?_ (by show vs.length<=_;exact hz));refine wpAny_bind (wk ?_ (fq _));refine wpAny_holding ?_;exact gV (QN:=s) (s:={ s with heap:=((s.heap.update a (i5 λ_=>(#[]:Array dr))).push (seqObj "tuple" vs.toArray 0)).push (seqObj "list" #[] 0) }) (kS:=((s.heap.update a (i5 λ_=>(#[]:Array dr))).push (seqObj "tuple" vs.toArray 0)).objs.size)
  (fv _ rfl) (dg _ (dg _ ho1)) (by rw[hkS];exact my (we ha)) (by rw[hkS];exact zz (xa _))
  (λb o hb q=>dg _ (dg _ ((s1.2 b hb).trans q))) hlen hz h64 turn h
end
def Zt (x y:Str×Int):Bool:=ltS x.1 y.1
def Cw (kz:Za6)(ns:List Int):List Int:=(Ao Zt (kz.zip ns)).map (·.2)
theorem iB {ns:List Int}(h:pq vs ns):pq ((Ao Iu (kz.zip vs)).map (·.2)) (Cw kz ns):=by
 have e1:(Ao Iu (kz.zip vs)).map (λp:Str×dr=>(p.1,numOf p.2))=Ao Zt (kz.zip ns):=by
  rw[<-Er (f:=λp:Str×dr=>(p.1,numOf p.2)) (lt:=Iu) (lt':=Zt) (λ_ _=>rfl)];congr 1;rw[<-h.nums,AN];exact ii λ⟨x,y⟩ _=>rfl
 have e2:Cw kz ns=((Ao Iu (kz.zip vs)).map (·.2)).map numOf:=by
  unfold Cw;rw[<-e1,gu,gu];rfl
 rw[e2];refine Nh _ λv hv=>?_;obtain⟨p,hp,rfl⟩:=iz.mp hv;have:=(B4 (lt:=Iu) (kz.zip vs)).mem_iff.mp hp;obtain⟨x,y⟩:=p;exact h.all _ (nl this).2
section
variable {prog:fi} {w:gl} {A:ic} {E:Za0} {s:dv}
theorem Vp {arg:dr}{ns:List Int}{q:de}{Q:Za0}(hlen:kz.length=ns.length)(hz:ns.length<=sizeLine)(h64:ns.length<64)
  (hcol:∀(E':Za0) (Q':Za3->dv->Prop),(∀vs h' tk,pq vs ns->(∀b o,s.heap.get? b=some o->h'.get? b=some o)->s.heap.objs.size<=h'.objs.size->Q' vs { s with heap:=h',toks:=tk })->wpAny (model prog w) A.in1 (collect arg) Q' E' s)
  (turn:∀(i:Nat) (n:Int) (k:Str) (t:Tok),ns[i]?=some n->kz[i]?=some k->∀(h:iq) (tk:Nat) (Q:Za0),(∀b o,s.heap.get? b=some o->h.get? b=some o) ->
   (∀t h' tk',(∀b o,h.get? b=some o->h'.get? b=some o)->Q (.str k t) { s with heap:=h',toks:=tk' })->wpAny (model prog w) A.in1.in1 (call (.ref q) [.int n t]) Q (λ_ _=>False) { s with heap:=h,toks:=tk })
  (h:∀D h' tk out c,s.heap.objs.size<=D->(∀b o,s.heap.get? b=some o->h'.get? b=some o)->h'.get? D=some (seqObj "list" out c)->pq out.toList (Cw kz ns)->Q (.ref D) { s with heap:=h',toks:=tk }) :
  wpAny (model prog w) A (call (.builtin "sorted") [arg] [(ou "key",.ref q)]) Q E s:=by
 refine call_function_entry_kw kind_sorted IH II (ksk_s1 _ _) ?_;unfold nv.«sorted»;refine wpAny_bind (m:=checkCount "sorted" 1 1 _) (d4 ?_);refine wpAny_bind (hcol _ _ λvs h1 tk1 hI k1 z1=>?_);have hlv:vs.length=ns.length:=hI.length;refine wpAny_bind (wk ?_ (by rw[hlv];exact hz));have hoL:(h1.push (seqObj "list" vs.toArray 0)).get? h1.objs.size=some (seqObj "list" vs.toArray 0):=fv _ rfl;have keep:∀b o,s.heap.get? b=some o->(h1.push (seqObj "list" vs.toArray 0)).get? b=some o:=λb o q=>dg _ (k1 b o q);have nD:∀b o,s.heap.get? b=some o->b≠h1.objs.size:=λb o q=>fh (d8 (d7 q) z1);show wpAny _ _ _ _ _ { s with heap:=h1.push (seqObj "list" vs.toArray 0),toks:=tk1 };refine wpAny_bind (wpAny_holding (wpAny_call_entry_kw slot_list_sort ⟨_,hoL,rfl⟩ entry_list_sort ?body (ksk_l1 _ _)))
 case body=>
  show wpAny (model prog w) A.in1.in1 (nv.«list.sort» ⟨[.ref h1.objs.size],[(ou "key",.ref q)]⟩) _ _ _;rw[ksk_t1];refine iC (kz:=kz) (s:={ s with heap:=h1.push (seqObj "list" vs.toArray 0),toks:=tk1 }) hoL (by rw[hlv];exact hlen) (by rw[hlv];exact hz) (by rw[hlv];exact h64) (λi v k e1 e2 h2 tk Q2 kb q2=>?_) λh2 tk out c kb g e=>?_
  ·obtain⟨n,t,rfl,e3⟩:=hI.at i v e1
   exact turn i n k t e3 e2 h2 tk Q2 (λb o q=>kb b o (nD b o q) (keep b o q)) q2
  ·exact⟨_,rfl,d4 ⟨_,rfl,h _ h2 tk out c z1 (λb o q=>kb b o (nD b o q) (keep b o q)) g (by rw[e];exact iB hI)⟩⟩
end
section
variable {X:Cx}
def qT (P:de)(lpos:Pos)(qual:Str)(i:Nat)(ta:TE):TE:=λY H Q=>ta Y H λx H1=>∃r l ds,x=.ref r/\Y[i]?=some (some (.ref l))/\H1 l=some (.lst (ds.map V.str))/\ds.length<64 /\
 H1 r=some (.rng 0 ds.length)/\Xe H1 P lpos qual /\
 ∀p H',W4 P H1 H'->Xe H' P lpos qual->H1 p=none->H' p=some (.lst ((Cw ds (C0 ds.length)).map V.int))->Q (.ref p) H'
theorem iV {a:gv}{ta:TE}{p pa pd pk pp lpos kpos:Pos}{d k:Str}{i:Nat}{c P cl:de}(hcal:X.calm=true)(hr:Ck 1 X.A)(hg:Gl X "sorted")(hm:X.mg "sorted"=none)(ha:PE X a ta)
  (C:EA X.base c P)(hb:X.base.BuiltinsAt X.mg P)(hcode:X.env.code=.ref c)(hN:X.N[i]?=some d)(hkd:X.env.scope.names.lookup d=some .cell)(hce:X.env.cells.lookup d=some cl)
  (hcl:closureFor (Lj k d) X.env=pure [(d,cl)])(hq:X.env.qual++"<lambda>"=qual)
  (hbind:∀(pm cv ctv:dr) (n:Int) (t:Tok),bindArgs (BI "<lambda>" qual (Vy k pa) (Vl k d pd pk pp) (Lj k d) [(d,cl)] pm cv ctv) ⟨[.int n t],[]⟩=pure [(k,.int n t)])(hs:autoParam (starEach [a] X.env=[(false,eval a X.env)]) QD)
  (ek:autoParam ((d==k)=false) QF)(hd:autoParam ((d==("__classdict__":Str))=false) QF)(nk:autoParam ((k==("__debug__":Str))=false) QF)(nd:autoParam ((d==("__debug__":Str))=false) QF) :
  PE X (.Call (.Name "sorted" p) [a] [⟨some "key",.Lambda (Vy k pa) (Vl k d pd pk pp) (Lj k d) lpos,kpos⟩] pos) (qT P lpos qual i ta):=by
 k_in;refine wpAny_Call_Name_kw (Dv I hg hm K5 (callWith_kw ?_ (by rw[hs];rfl) (by rw[hs];rfl) rfl rfl) (by decide) (by decide));rw[hs];refine qo ?_;show wpAny _ _ (eval a X.env) _ _ _;refine thE ha I h λv s1 x H1 I1 r1 ⟨r,l,ds,ex,hσ,hl,hz,hrr,hT,q⟩=>?_;subst ex;obtain rfl:v=gi r:=r1;refine q8 ?_;show wpAny _ _ (evalAll [(do let v <-eval (.Lambda (Vy k pa) (Vl k d pd pk pp) (Lj k d) lpos) X.env;standAt pos;pure v)]) _ _ _;unfold evalAll;refine wpAny_bind (wpAny_bind (nB I1 hT C hb hcode hcl rfl hq λf c' oc pm ctv s2 H2 I2 hT2 sm hf0 hf hc' hoc=>?_));refine wpAny_bind (sv (d4 ?_));unfold evalAll;refine wpAny_bind (wpAny_holding (d4 (d4 ?_)));show wpAny _ _ (call (.builtin "sorted") [.ref r] [(ou "key",.ref f)]) _ _ _;have hlP:l≠P:=λe=>by obtain⟨ps,e1,_⟩:=hT;rw[e,e1] at hl;cases hl
 have hl2:H2 l=some (.lst (ds.map V.str)):=sm _ _ hlP hl;obtain⟨_,its,nn,hv,hit⟩:=I2.hok l _ hl2;have hiI:n6 its ds:=Kr hv;have hfo:s2.heap.get? f=some _:=(I2.hok f _ hf).1;have hco:s2.heap.get? c'=some oc:=(I2.hok c' _ hc').1;have hcell:s2.heap.IsCell cl (some (.ref l)):=by
  obtain⟨m,_,hlo⟩:=I2.loc;obtain⟨u,ru,lk⟩:=hlo i d (.ref l) hN hσ (.inr (.inl hkd));obtain rfl:u=gi l:=ru;rcases lk with⟨hk,_⟩|⟨_,c2,hc2,hx⟩
  ·have:some xc=some nc.local:=hkd.symm.trans hk
   cases this
  ·rw[hce] at hc2
   cases hc2;exact hx
 have hlen:(C0 ds.length).length=ds.length:=by unfold C0;rw[c5,dn]
 refine Vp (ns:=C0 ds.length) (kz:=ds) hlen.symm (by rw[hlen];exact fw (tj hz (by decide))) (by rw[hlen];exact hz) (λE' Q' hQ=>?_) (λj n kk t e1 e2 h3 tk Q3 kp q3=>?_) λD h' tk out cc hD kp hat hout=>?_
 ·have hr1:=hrr
  ·have hrP:r≠P:=λe=>by obtain⟨ps,e1,_⟩:=hT;rw[e,e1] at hr1;cases hr1
   obtain⟨t,u,v,hit2⟩:=I2.hok r _ (sm _ _ hrP hr1);exact iY (A:=X.A.in1) (n:=ds.length) (I.ok.hd hcal) hit2 (by lia) E' Q' hQ
 ·have hj:j<ds.length:=(dk.mp e2).1
  obtain rfl:(j:Int)=n:=by
   unfold C0 at e1;rw[df,ff hj] at e1;cases e1;rfl
  obtain⟨vk,hvk⟩:∃vk,its[j]?=some vk:=⟨_,c6 (by rw[G8 hiI];exact hj)⟩;obtain⟨k2,tk2,rfl,e3⟩:=dY hiI j vk hvk;rw[e2] at e3;cases e3;refine DP (nH (u:=.none) (kp _ _ hfo) (let ⟨vs,t,e1,e2⟩:=hoc;⟨c',oc,vs,t,rfl,kp _ _ hco,e1,e2⟩) (show X.A.depth<recursionLimit from Ck.depth hr) ((I2.mod.nolimit.keeps I2.bk).keeps kp) (hbind _ _ _ _ _) rfl rfl rfl (by simp) ?_ (by simp) (by simp) hd nk nd (hcell.keeps kp) (its:=its.toArray) ⟨_,kp _ _ hit,rfl,_,rfl⟩ (by lia) (by lia) (by simpa using hvk) λh4 tk4 k4=>q3 tk2 h4 tk4 k4);show mi d [(k,nc.local),(d,mr)]=some .free;simp[mi,ek]
 ·have I3:Inv X pins Y (upd H2 D (.lst ((Cw ds (C0 ds.length)).map V.int))) { s2 with heap:=h',toks:=tk }:=I2.laid kp hD ⟨by
    have h1:=hout.length;rw[c5];unfold Cw;rw[c5,Dw,l6,hlen,oy];exact fw (tj hz (by decide)),out.toList,cc,My hout,hat⟩
  have hD2:H2 D=none:=I2.hok.fresh hD;have hD1:H1 D=none:=by
   cases e:H1 D with
   |none=>rfl
   |some u=>
    by_cases hDP:D=P
    ·obtain⟨ps,e1,_⟩:=hT2
     rw[hDP,e1] at hD2;cases hD2
    ·rw[sm D u hDP e] at hD2;cases hD2
  refine⟨.ref D,_,I3,rfl,q D _ (λb u hb e=>?_) ?_ hD1 Ac⟩
  ·rw[Ai (λz=>by rw[z,hD1] at e;cases e)]
   exact sm b u hb e
  ·obtain⟨ps,e1,e2,e3⟩:=hT2
   have nP:P≠D:=λz=>by rw[z,hD2] at e1;cases e1
   refine⟨ps,by rw[Ai nP];exact e1,e2,e3.imp id λ⟨c2,oc2,a1,a2,a3⟩=>⟨c2,oc2,a1,?_,a3⟩⟩;rw[Ai (λz=>by rw[z,hD2] at a2;cases a2)];exact a2
end
section
variable {prog:fi} {w:gl} {A:ic} {E:Za0} {s:dv}
theorem R5 {a:de}{kd:qj}{lt:dr->dr->Bool}{R:Fin->dv->Prop}(ho:s.heap.get? a=some (seqObj "list" vs.toArray n))(h64:vs.length<64)(o:Swo lt)
  (hk:∀h6:iq,(∀b ob,b≠a->s.heap.get? b=some ob->h6.get? b=some ob)->2<=vs.length->(∀Q:qj->dv->Prop,Q kd { s with heap:=h6 }->wpAny (model prog w) A (keyKind' vs.toArray) Q E { s with heap:=h6 })/\Xz prog w A E { s with heap:=h6 } kd (λx=>x.1∈vs) (λx y=>lt x.1 y.1))
  (h:∀out:Array dr,out.toList=Ao lt vs->R (.done (.ret .none)) { s with heap:=sortedHeap s.heap a vs out }) :
  wpAny (model prog w) A (nv.«list.sort» ⟨[.ref a],[]⟩) R E s:=by
 have hz:vs.length<=sizeLine:=fw (tj h64 (by decide));rw[list_sort_plain];have ha:a<s.heap.objs.size:=d7 ho;refine wpAny_bind (BE ho rfl ?_);refine wpAny_bind (listUpdate_at ho rfl ?_ (by simpa using hz) (by simp));obtain⟨e1,ho1⟩:∃e1,(s.heap.update a (i5 λ_=>#[])).get? a=some (seqObj "list" #[] e1):=⟨_,um ho (λ_=>#[])⟩;refine wpAny_bind (seqEpoch_at ho1 rfl ?_);refine wpAny_bind (zf ?_);refine wpAny_bind (wk ?_);refine wpAny_holding ?_;have ho6:(((s.heap.update a (i5 λ_=>#[])).push (seqObj "tuple" vs.toArray 0)).push (seqObj "list" #[] 0)).get? a=some (seqObj "list" #[] e1):=by
  rw[vy _ _ _ (by rw[zh,rq];exact fh (we ha)),vy _ _ _ (by rw[rq];exact fh ha)];exact ho1
 have hk:=hk _ λb ob hb e=>dg (seqObj "list" #[] 0) (dg (seqObj "tuple" vs.toArray 0) ((sr _ (i5 λ_=>(#[]:Array dr)) (qq hb)).trans e));show wpAny (model prog w) A _ R E { s with heap:=((s.heap.update a (i5 λ_=>#[])).push (seqObj "tuple" vs.toArray 0)).push (seqObj "list" #[] 0) };dsimp only;have hsz:vs.toArray.size=vs.length:=by simp
 have ez:(vs.toArray.zip vs.toArray).toList=vs.map λv=>(v,v):=by
  rw[Array.toList_zip];generalize vs=l
  induction l with
  |nil=>rfl
  |cons x l ih=>exact congrArg _ ih
 have fin:∀st':mo,(arrOf st').toList=Ao (λx y:iu=>lt x.1 y.1) (vs.map λv=>(v,v))->R (.done (.ret .none)) { s with heap:=sortedHeap s.heap a vs ((arrOf st').map (·.2)) }:=λst' e=>by
  refine h _ ?_;rw[BU,e,Er (lt:=lt) (f:=λv=>((v,v):iu)) λ_ _=>rfl,gu];exact List.map_id _
 have szo:∀st':mo,(arrOf st').toList=Ao (λx y:iu=>lt x.1 y.1) (vs.map λv=>(v,v))->((arrOf st').map (·.2)).size<=sizeLine+1:=λst' e=>by
  rw[Array.size_map,<-fb,e,Dw,c5];lia
 by_cases h2:vs.toArray.size<2
 ·rw[if_pos h2,if_pos h2]
  refine wpAny_bind (d4 ?_);rw[BH];refine wpAny_bind (d4 ?_);dsimp only;have e0:(arrOf (w8 general' (vs.toArray.zip vs.toArray) #[] 7 none)).toList=Ao (λx y:iu=>lt x.1 y.1) (vs.map λv=>(v,v)):=by
   show(vs.toArray.zip vs.toArray).toList=_;rw[ez];refine(G9 ?_).symm;have hl:(vs.map λv=>((v,v):iu)).length<2:=by rw[c5];lia
   exact Ws hl
  refine wpAny_bind (seqEpoch_at ho6 rfl ?_);refine wpAny_bind (listUpdate_at ho6 rfl ?_ (hsz2:=szo _ e0));simp only[bne_self_eq_false,kn,if_false];exact d4 (fin _ e0)
 ·rw[if_neg h2,if_neg h2]
  obtain⟨hk,hL⟩:=hk (by lia);refine wpAny_bind (hk _ ?_);refine wpAny_bind (kx (Kh (P:=λx=>x.1∈vs) hL ⟨λx=>o.1 x.1,λx y z=>o.2 x.1 y.1 z.1,λx y z=>o.3 x.1 y.1 z.1⟩ (l0:=vs.map λv=>(v,v)) (st:=w8 kd (vs.toArray.zip vs.toArray) #[] 7 none)
   (Q:=λ_ st'=>failedOf st'=none/\(arrOf st').toList=Ao (λx y:iu=>lt x.1 y.1) (vs.map λv=>(v,v))) rfl rfl rfl ez (λx hx=>?_) (by rw[c5];lia) (by rw[c5];exact h64) λst' a1 a2=>⟨a1,a2⟩) ?_ λ_ _ e=>e)
  ·obtain⟨v,hvm,rfl⟩:=iz.mp hx
   exact hvm
  rintro⟨⟨⟩,st'⟩ s' ⟨rfl,hf,hs⟩;dsimp only;refine wpAny_bind (seqEpoch_at ho6 rfl ?_);refine wpAny_bind (listUpdate_at ho6 rfl ?_ (hsz2:=szo _ hs));rw[hf];simp only[bne_self_eq_false,kn,if_false];exact d4 (fin st' hs)
theorem O1 {l:de}{kd:qj}{lt:dr->dr->Bool}{Q:Za0}(hl:s.heap.IsList l vs.toArray)(h64:vs.length<64)(o:Swo lt)
  (hk:∀(A':ic) (E':Za0) (s':dv),(∀b ob,s.heap.get? b=some ob->s'.heap.get? b=some ob)->2<=vs.length->(∀Q:qj->dv->Prop,Q kd s'->wpAny (model prog w) A' (keyKind' vs.toArray) Q E' s')/\Xz prog w A' E' s' kd (λx=>x.1∈vs) (λx y=>lt x.1 y.1))
  (h:∀D h' tk out e,s.heap.objs.size<=D->(∀b ob,s.heap.get? b=some ob->h'.get? b=some ob)->h'.get? D=some (seqObj "list" out e)->out.toList=Ao lt vs->Q (.ref D) { s with heap:=h',toks:=tk }) :
  wpAny (model prog w) A (call (.builtin "sorted") [.ref l]) Q E s:=by
 have hzL:vs.length<=sizeLine:=fw (tj h64 (by decide));refine Calls.call_function_entry kind_sorted IH II (args_sorted1 _) ?_;unfold nv.«sorted»;refine wpAny_bind (m:=checkCount "sorted" 1 1 _) (d4 ?_);refine wpAny_bind (nK hl hzL _ _ λh' tk hkp hle=>?_);refine wpAny_bind (wk ?_ hzL);have hoL:(h'.push (seqObj "list" vs.toArray 0)).get? h'.objs.size=some (seqObj "list" vs.toArray 0):=fv _ rfl;refine wpAny_bind (wpAny_holding (qc slot_list_sort ⟨_,hoL,rfl⟩ entry_list_sort (R5 hoL h64 o (λh6 k6 h2=>hk _ _ { s with heap:=h6,toks:=tk } (λb ob e=>k6 b ob (fh (d7 (hkp b ob e))) (dg _ (hkp b ob e))) h2) λout eo=>⟨_,rfl,?_⟩) (args_list_sort _)));refine d4 ⟨_,rfl,?_⟩;obtain⟨e9,hat⟩:=sortedHeap_at (out:=out) hoL;refine h _ _ tk out e9 hle (λb ob e=>?_) hat eo;have e':=hkp b ob e;rw[sortedHeap_old (fh (d7 e')) (by rw[zh];exact we (d7 e'))];exact dg _ e'
end
section
variable {X:Cx}
def wG (K:c7):List V->Hp->VK->Prop:=λxs H Q=>∃(a:de) (ns:Za6),xs=[.ref a]/\SqL K H a (ns.map V.str)/\ns.length<64/\∀p,H p=none->Q (.ref p) (upd H p (.lst ((Ao ltS ns).map V.str)))
theorem uB:∀{ys:Za6} {us:Za3},n6 us ys->Au (ys.map V.str) us
 |_,_,.nil=>.nil
 |_,_,.cons _ t r=>.cons ⟨t,rfl⟩ (uB r)
theorem L7:Ec X (.builtin "sorted") (wG X.K):=by
 intro pins s Y H xs us Q I r h;obtain⟨p,ns,rfl,hp,h64,q⟩:=h;obtain⟨u,rfl,ru⟩:=E6 r;cases ru;obtain⟨its,rv,pl,hz⟩:=I.list hp;have hI:=Kr rv;refine O1 (lt:=λx y=>ltS (strOf x) (strOf y)) (kd:=oneType') pl.isList (by rw[G8 hI];exact h64) (Om strOf) (λA' E' s' _ h2=>⟨λQ q=>?_,λx y st Q hx hy=>Tz x y st Q (hI.all _ hx) (hI.all _ hy)⟩) λD h' tk out e hD hk hat eo=>?_
 ·rw[Tp hI h2]
  exact d4 q
 have hIo:n6 out.toList (Ao ltS ns):=by
  have e:Ao ltS ns=(Ao (λx y=>ltS (strOf x) (strOf y)) its).map strOf:=by
   rw[<-Er (f:=strOf) (lt':=ltS) (λ_ _=>rfl),hI.strs]
  rw[eo,e];exact strsAre_map _ λv hv=>hI.all _ ((B4 _ its).mem_iff.mp hv)
 refine⟨.ref D,upd H D (.lst ((Ao ltS ns).map V.str)),I.laid hk hD ⟨?_,out.toList,e,uB hIo,hat⟩,rfl,q _ (I.hok.fresh hD)⟩;rw[c5,Dw];rw[c5] at hz;exact hz
def Gd (x y:Str×Int):Bool:=ltS x.1 y.1||(decide (x.1=y.1)&&decide (x.2<y.2))
theorem Iy {a b:Str×Int}:Gd a b=true↔ltS a.1 b.1=true\/(a.1=b.1/\a.2<b.2):=by
 unfold Gd;rw[xl,kl,decide_eq_true_iff,decide_eq_true_iff]
theorem sA {a b:Str}(h1:¬ ltS a b=true)(h2:¬ ltS b a=true):a=b:=
 Fh (List.le_antisymm (uc.mp λz=>h2 (decide_eq_true z)) (uc.mp λz=>h1 (decide_eq_true z)))
theorem oB {α:Type}(F:α->Str×Int):Swo λx y=>Gd (F x) (F y):=by
 have o:Swo ltS:=Om id;refine⟨λa=>BS.mpr λz=>?_,λa b c h1 h2=>?_,λa b c h1=>?_⟩
 ·rcases Iy.mp z with h|⟨_,h⟩
  ·rw[o.1] at h;cases h
  ·lia
 ·rw[Iy] at h1 h2 ⊢
  rcases h1 with h1|⟨e1,h1⟩<;>rcases h2 with h2|⟨e2,h2⟩
  ·exact .inl (o.2 _ _ _ h1 h2)
  ·exact .inl (e2▸h1)
  ·exact .inl (e1▸h2)
  ·exact .inr ⟨e1.trans e2,by lia⟩
 ·rw[Iy] at h1
  by_cases h:Gd (F a) (F b)=true
  ·exact .inl h
  ·refine .inr (Iy.mpr ?_)
   rw[Iy] at h;rcases h1 with h1|⟨e1,h1⟩
   ·rcases o.3 _ (F b).1 _ h1 with h2|h2
    ·exact absurd (.inl h2) h
    ·exact .inl h2
   ·by_cases h2:ltS (F b).1 (F c).1=true
    ·exact .inl h2
    ·have e2:(F a).1=(F b).1:=sA (λz=>h (.inl z)) (λz=>h2 (e1▸z))
     exact .inr ⟨e2.symm.trans e1,by have:¬(F a).2<(F b).2:=λz=>h (.inr ⟨e2,z⟩);lia⟩
def T9 (h:iq)(v:dr)(q:Str×Int):Prop:=∃a t u o n,v=.ref a/\h.get? a=some o/\o.cls=.type "tuple"/\o.data=.seq #[.str q.1 t,.int q.2 u] n
def E5 (h:iq):dr->Str×Int
 |.ref a=>match h.get? a with
  |some o=>match o.data with
   |.seq xs _=>match xs.toList with
    |[.str k _,.int x _]=>(k,x)
    |_=>(⟨#[]⟩,0)
   |_=>(⟨#[]⟩,0)
  |none=>(⟨#[]⟩,0)
 |_=>(⟨#[]⟩,0)
theorem X3 {v:dr}{q:Str×Int}(x:T9 h v q):E5 h v=q:=by
 obtain⟨a,t,u,o,n,rfl,g,_,d⟩:=x;unfold E5;dsimp only;rw[g];dsimp only;rw[d]
theorem T9.keep {v:dr}{q:Str×Int}(x:T9 h v q)(k:∀b o,h.get? b=some o->h'.get? b=some o):T9 h' v q:=by
 obtain⟨a,t,u,o,n,e,g,c,d⟩:=x;exact⟨a,t,u,o,n,e,k _ _ g,c,d⟩
end
section
variable {prog:fi} {w:gl} {A:ic} {E:Za0} {s:dv}
theorem dA {F:dr->Str×Int}:Xz prog w A E s (tuples' true) (λx=>T9 s.heap x.1 (F x.1)) (λx y=>Gd (F x.1) (F y.1)):=by
 intro x y st Q hx hy hk h;obtain⟨x1,x2⟩:=x;obtain⟨y1,y2⟩:=y;obtain⟨a,t,u,o1,n1,e1,g1,c1,d1⟩:=hx;obtain⟨b,t',u',o2,n2,e2,g2,c2,d2⟩:=hy;dsimp only at e1 e2 d1 d2 h;rw[lt'_eq];refine wpS_bind (xm ?_);rw[hk];refine wpS_bind (CM (sw ?_));have fin:wpAny (model prog w) A (keyLt' (tuples' true) x1 y1) (λb s'=>s'=s/\b=Gd (F x1) (F y1)) (λ_ _=>False) s:=by
  rw[e1,e2];refine PySem.W.kat_lt g1 d1 g2 d2 ?_;rw[<-e1,<-e2];show PySem.W.KatLex _ _ _ _ _ _ [(.str (F x1).1 t,.str (F y1).1 t'),(.int (F x1).2 u,.int (F y1).2 u')] 0 s;refine z9 (yk _ _ _ _ prog w _ _ ?_)
  by_cases h1:(F x1).1=(F y1).1
  ·rw[show((F x1).1==(F y1).1)=true by simpa using h1]
   refine AK (z9 (qR ?_));have n1:ltS (F x1).1 (F y1).1=false:=by rw[h1];exact(Om id).1 _
   by_cases h2:(F x1).2=(F y1).2
   ·rw[show((F x1).2==(F y1).2)=true by simpa using h2]
    refine AK (PySem.W.kat_nil ⟨rfl,?_⟩);unfold Gd;rw[n1,show decide ((F x1).2<(F y1).2)=false from decide_eq_false (by lia),ya];rfl
   ·rw[show((F x1).2==(F y1).2)=false by simpa using h2]
    refine BJ (PySem.W.kat_one _ _ (GK ⟨rfl,?_⟩));unfold Gd;rw[n1,decide_eq_true h1,re,EB]
  ·rw[show((F x1).1==(F y1).1)=false by simpa using h1]
   refine BJ (oneLt_str ⟨rfl,?_⟩);unfold Gd;rw[decide_eq_false h1,qw,vb];rfl
 refine kx fin (λc s' ⟨e3,e4⟩=>?_) λ_ _ z=>z.elim;subst e3 e4;exact⟨rfl,jn h⟩
theorem gK {Q:qj->dv->Prop}(hv:∀v∈vs,∃q,T9 s.heap v q)(hne:0<vs.length)(h:Q (tuples' true) s):wpAny (model prog w) A (keyKind' vs.toArray) Q E s:=by
 have key:∀vs:Za3,(∀v∈vs,∃q,T9 s.heap v q)->∃fs,PySem.W.KatTups s.heap vs fs/\fs.length=vs.length/\∀v∈fs,∃n t,v=l5 n t:=λvs=>by
  induction vs with
  |nil=>exact λ_=>⟨[],trivial,rfl,λv hv=>by cases hv⟩
  |cons v vs ih=>
   intro hv;obtain⟨fs,h1,h2,h3⟩:=ih λx hx=>hv x (ge _ hx);obtain⟨q,a,t,u,o,n,rfl,g,c,d⟩:=hv v f7;refine⟨l5 q.1 t::fs,DV g c d rfl h1,by rw[f9,f9,h2],λx hx=>?_⟩;rcases gr.mp hx with rfl|hx
   ·exact⟨_,_,rfl⟩
   ·exact h3 x hx
 obtain⟨fs,h1,h2,h3⟩:=key vs hv;refine PySem.W.kat_kind (T:=.type "str") h1 (by lia) (λv hv=>?_) (by rfl) h;obtain⟨n,t,rfl⟩:=h3 v hv;exact EV
end
section
variable {X:Cx}
theorem xS (l:List de):Au (l.map V.ref) (l.map gi):=by
 induction l with
 |nil=>exact .nil
 |cons a l ih=>exact .cons rfl ih
theorem pW:∀{l:List de} {us:Za3},Au (l.map V.ref) us->us=l.map gi
 |[],_,h=>by cases h;rfl
 |a::l,_,h=>by
  cases h with
  |cons h1 h2=>rw[pW h2,show _=gi a from h1];rfl
def jX (H:Hp)(ps:List (de×(Str×Int))):Prop:=∀p∈ps,H p.1=some (.tup [.str p.2.1,.int p.2.2])
def Ml (x y:de×(Str×Int)):Bool:=Gd x.2 y.2
def uQ (K:c7):List V->Hp->VK->Prop:=λxs H Q=>∃(a:de) (ps:List (de×(Str×Int))),xs=[.ref a]/\SqL K H a ((ps.map (·.1)).map V.ref)/\ps.length<64/\jX H ps/\∀p,H p=none->Q (.ref p) (upd H p (.lst (((Ao Ml ps).map (·.1)).map V.ref)))
theorem U7:Ec X (.builtin "sorted") (uQ X.K):=by
 intro pins s Y H xs us Q I r h;obtain⟨p,ps,rfl,hp,h64,hS,q⟩:=h;obtain⟨u,rfl,ru⟩:=E6 r;cases ru;obtain⟨its,rv,pl,hz⟩:=I.list hp;obtain rfl:=pW rv;have h2:∀p∈ps,T9 s.heap (.ref p.1) p.2:=λp hp=>by
  obtain⟨_,vs,hv,o,hg,hc,n,hd⟩:=I.hok p.1 _ (hS p hp)
  cases hv with
  |cons h1 h3=>
   cases h3 with
   |cons h3 h4=>
    cases h4;obtain⟨t,rfl⟩:=h1;obtain⟨u,rfl⟩:=h3;exact⟨p.1,t,u,o,n,rfl,hg,hc,hd⟩
 have hv:∀v∈(ps.map (·.1)).map gi,T9 s.heap v (E5 s.heap v):=λv hv=>by
  obtain⟨a,ha,rfl⟩:=iz.mp hv;obtain⟨p,hp,rfl⟩:=iz.mp ha;rw[X3 (h2 p hp)];exact h2 p hp
 refine O1 (lt:=λx y=>Gd (E5 s.heap x) (E5 s.heap y)) (kd:=tuples' true) pl.isList (by rw[c5,c5];exact h64) (oB _)
  (λA' E' s' k' hl=>⟨λQ q=>gK (λv m=>⟨_,(hv v m).keep k'⟩) (by lia) q,λx y st Q hx hy=>dA (F:=E5 s.heap) x y st Q ((hv _ hx).keep k') ((hv _ hy).keep k')⟩) λD h' tk out e hD hk hat eo=>?_
 have eo2:out.toList=((Ao Ml ps).map (·.1)).map gi:=by
  have e3:(ps.map (·.1)).map gi=ps.map λp=>gi p.1:=by rw[gu];rfl
  rw[eo,e3,gu]
  -- the order is asked of the tuples alone
  have key:∀l:List (de×(Str×Int)),(∀p∈l,E5 s.heap (.ref p.1)=p.2)->Ao (λx y=>Gd (E5 s.heap x) (E5 s.heap y)) (l.map λp=>gi p.1)=(Ao Ml l).map λp=>gi p.1:=λl=>by
   have mgk:∀a b:List (de×(Str×Int)),(∀p∈a++b,E5 s.heap (.ref p.1)=p.2)->mg (λx y=>Gd (E5 s.heap x) (E5 s.heap y)) (a.map λp=>gi p.1) (b.map λp=>gi p.1)=(mg Ml a b).map λp=>gi p.1:=by
    intro a
    induction a with
    |nil=>intro b _;rw[oi,Ds,Ds]
    |cons x a iha=>
     intro b
     induction b with
     |nil=>intro _;rw[oi,B7,B7]
     |cons y b ihb=>
      intro hh;rw[fm,fm,Ev,Ev];have ex:=hh x (by simp);have ey:=hh y (by simp);show(if Gd (E5 s.heap (.ref y.1)) (E5 s.heap (.ref x.1))=true then _ else _)=_;rw[ex,ey];show _=qt _ (if Gd y.2 x.2=true then _ else _)
      by_cases c:Gd y.2 x.2=true
      ·rw[if_pos c,if_pos c,fm,<-ihb λp hp=>hh p (by simp only[f8,gr] at hp ⊢;rcases hp with hp|hp<;>simp[hp]),fm]
      ·rw[if_neg c,if_neg c,fm,<-iha (y::b) λp hp=>hh p (by simp only[f8,gr] at hp ⊢;rcases hp with hp|hp<;>simp[hp]),fm]
   refine G4 (P:=λl=>(∀p∈l,E5 s.heap (.ref p.1)=p.2)->Ao (λx y=>Gd (E5 s.heap x) (E5 s.heap y)) (l.map λp=>gi p.1)=(Ao Ml l).map λp=>gi p.1) (λ_=>rfl) (λl x ih hh=>?_) l;rw[dj,fm,oi,Bp,Bp,ih λp hp=>hh p (jr _ hp),<-mgk (Ao Ml l) [x] λp hp=>hh p ?_]
   ·rfl
   ·rcases f8.mp hp with hp|hp
    ·exact jr _ ((B4 _ l).mem_iff.mp hp)
    ·exact fk _ hp
  exact key ps λp hp=>X3 (h2 p hp)
 refine⟨.ref D,upd H D (.lst (((Ao Ml ps).map (·.1)).map V.ref)),I.laid hk hD ⟨?_,out.toList,e,eo2▸xS _,hat⟩,rfl,q _ (I.hok.fresh hD)⟩;rw[c5,c5,Dw];rw[c5,c5] at hz;exact hz
end
def M8 (vs:List (Key×dr)):Za6->Za3->List (Key×dr)
 |k::ks,u::us=>M8 (stored vs (.inr k) u) ks us
 |_,_=>vs
theorem iP {vs:List (Key×dr)}:∀(ks:Za6),M8 vs ks []=vs
 |[]=>rfl
 |_::_=>rfl
theorem oA {vs:List (Key×dr)}{ks:Za6}{i:Nat}{n:Str}{u:dr}(h1:ks[i]?=some n)(h2:us[i]?=some u):M8 vs (ks.drop i) (us.drop i)=M8 (stored vs (.inr n) u) (ks.drop (i+1)) (us.drop (i+1)):=by
 obtain⟨l1,e1⟩:=dk.mp h1;obtain⟨l2,e2⟩:=dk.mp h2;rw[jz l1,jz l2,e1,e2];rfl
def Ke (kvs:List (Key×V)):Za6->List V->List (Key×V)
 |k::ks,v::vs=>Ke (Ey kvs (.inr k) v) ks vs
 |_,_=>kvs
theorem dD:∀{ks:Za6} {ys:List V} {us:Za3} {kvs:List (Key×V)} {vs:List (Key×dr)},KV kvs vs->Au ys us->KV (Ke kvs ks ys) (M8 vs ks us)
 |[],_,_,_,_,h,_=>h
 |_::_,_,_,_,_,h,.nil=>h
 |k::ks,y::ys,u::us,kvs,vs,h,.cons r t=>by
  show KV (Ke (Ey kvs (.inr k) y) ks ys) (M8 (stored vs (.inr k) u) ks us);exact dD (h.put (.inr k) r) t
section
variable {prog:fi} {w:gl} {A:ic} {E:Za0} {R:uh->dv->Prop}
theorem rJ {l:de}{items:Array dr}{ys:Za3}{ks:Za6}(hdi:d≠it)(hli:l≠it)(hld:l≠d)(hh:A.handled=none):∀(m i:Nat) (s:dv) (tk:Tok) (vs:List (Key×dr)),items.size-i=m->i<=items.size ->
   (∀(j:Nat) x,items[j]?=some x->∃n t y T,ks[j]?=some n/\ys[j]?=some y/\x=gi T/\T≠it/\T≠d/\Wl s.heap T (.str n t) y)->ks.length=items.size->ys.length=items.size ->
   s.heap.IsListIter it l i->s.heap.IsList l items->s.heap.DictOf (Bb prog w) d vs->vs.length+(items.size-i)<=sizeLine ->
   (∀h' k vs',h'.DictOf (Bb prog w) d vs'->vs'=M8 vs (ks.drop i) (ys.drop i)->(∀b o,b≠it->b≠d->s.heap.get? b=some o->h'.get? b=some o)->R (.ok (.ret .none)) { s with heap:=h',toks:=k }) ->
   codeAny (model prog w) A (.builtin "dict.update.loop" ⟨[.ref d,.ref it,.int i tk,.none],[]⟩) R s:=by
 intro m
 induction m with
 |zero=>
  intro i s tk vs hm hi hp hk hy h1 hl hd hsz q;refine mh C9 ?_;rw[j8 Bd _];show wpAny _ A.in1 (pyNext (.ref it) >>= _) _ _ s;refine wpAny_bind (BV (by exact hh) h1 hl (lu (by lia)) λh' kp=>?_);show wpAny _ A.in1 (qa d [] >>= _) _ _ _;refine wpAny_bind (d4 (d4 ?_));obtain⟨o,es,ep,ho,r⟩:=hd;exact q h' s.toks vs ⟨o,es,ep,kp _ _ hdi ho,r⟩ (by rw[i7 (l:=ys) (by lia),iP]) λb o b1 _ e=>kp b o b1 e
 |succ m ih=>
  intro i s tk vs hm hi hp hk hy h1 hl hd hsz q;obtain⟨x,hx⟩:∃x,items[i]?=some x:=⟨_,ku (show i<items.size by lia)⟩;obtain⟨n,t,y,T,hn,hyi,rfl,hTi,hTd,hT⟩:=hp i x hx;refine mh C9 ?_;rw[j8 Bd _];show wpAny _ A.in1 (pyNext (.ref it) >>= _) _ _ s;refine wpAny_bind (AX h1 hl hx λh' h1' sb=>?_);have kp:∀b o,b≠it->s.heap.get? b=some o->h'.get? b=some o:=λb o hb e=>(sb.2 b hb).trans e;have hd':h'.DictOf (Bb prog w) d vs:=by
   obtain⟨o,es,ep,ho,r⟩:=hd;exact⟨o,es,ep,kp _ _ hdi ho,r⟩
  show wpAny _ A.in1 (holding _ _ >>= _) _ _ _;refine wpAny_bind (wpAny_holding (wpAny_bind (ze (Wt (hT.keep λo e=>kp _ _ hTi e) ?_))));show wpAny _ A.in1 (holding _ (dictSet d (.str n t) y)) _ _ _;refine wpAny_holding (v0 (knd:=Bb prog w) (k:=.inr n) (No prog w n t) hd' (λh2 dd' hs=>?_) (by lia));have k2:∀b o,b≠it->b≠d->s.heap.get? b=some o->h2.get? b=some o:=λb o b1 b4 e=>(hs.2 b b4).trans (kp b o b1 e);have hln:=yc vs (uo n:Key) y;refine d4 ⟨qf Bd _,?_⟩;refine ih (i+1) _ _ _ (by lia) (by lia) (λj x hx=>?_) hk hy (h1'.at λo e=>(hs.2 _ hdi.symm).trans e) (hl.at λo e=>k2 _ o hli hld e) dd' (by lia) λh3 k vs' hd3 e3 kp3=>?_
  ·obtain⟨n,t,y,T,a1,a2,a3,a4,a5,a6⟩:=hp j x hx
   exact⟨n,t,y,T,a1,a2,a3,a4,a5,a6.keep λo e=>k2 _ _ a4 a5 e⟩
  ·exact q h3 k vs' hd3 (by rw[e3,oA hn hyi]) λb o b1 b4 e=>kp3 b o b1 b4 (k2 b o b1 b4 e)
theorem M7 {l:de}{items:Array dr}{n0:Nat}{ys:Za3}{ks:Za6}{Q:Za0}(hh:A.handled=none)(hl:s.heap.get? l=some (seqObj "list" items n0))(hk:ks.length=items.size)(hy:ys.length=items.size)(hsz:items.size<=sizeLine)
  (hp:∀(j:Nat) x,items[j]?=some x->∃n t y T,ks[j]?=some n/\ys[j]?=some y/\x=gi T/\Wl s.heap T (.str n t) y)
  (q:∀h' k vs',h'.DictOf (Bb prog w) s.heap.objs.size vs'->vs'=M8 [] ks ys->(∀b o,s.heap.get? b=some o->h'.get? b=some o)->Q (.ref s.heap.objs.size) { s with heap:=h',toks:=k }) :
  wpAny (model prog w) A (call (.type "dict") [.ref l]) Q E s:=by
 refine HA (Q₁:=λobj QM=>obj=.ref s.heap.objs.size/\QM={ s with heap:=s.heap.push { cls:=.type "dict",data:=.dict #[] } }) yf (wx _) x4 (EU _ ⟨rfl,rfl⟩) ?_;rintro obj QM ⟨rfl,rfl⟩;have hnew:(s.heap.push { cls:=.type "dict",data:=.dict #[] }).DictOf (Bb prog w) s.heap.objs.size []:=u0 s.heap;have up:∀b o,s.heap.get? b=some o->(s.heap.push { cls:=.type "dict",data:=.dict #[] }).get? b=some o:=λb o e=>dg _ e;have lt:∀{c o},s.heap.get? c=some o->c≠s.heap.objs.size:=λe=>fh (d7 e);refine⟨hnew.typeIs,xx _ _,?_⟩;unfold nv.«dict.__init__»;refine wpAny_bind ?_;unfold vz;refine wpAny_bind (BW hnew.typeIs ?_);show wpAny _ _ (pure (s.heap.objs.size,[gi l])) _ _ _;refine d4 ?_;show wpAny _ _ (mq "dict.__init__" s.heap.objs.size (.ref l) [] .none) _ _ _;unfold mq;have hl':=up _ _ hl;refine wpAny_bind (pe (T:="list") ⟨_,hl',rfl⟩ ?_);rw[if_pos (by decide)];refine wpAny_bind (oI hl' (by exact hh) λh' tk kp=>?_);rw[if_pos (by rfl)];have hli:h'.IsList l items:=⟨_,kp _ _ hl',rfl,_,rfl⟩;refine wpAny_bind (ug (wpAny_bind (xn hli ?_)));have up2:∀b o,s.heap.get? b=some o->h'.get? b=some o:=λb o e=>kp _ _ (up b o e);obtain⟨od,esd,epd,hod,rd⟩:=hnew;have hd2:=kp _ _ hod;have nI:∀{c o},h'.get? c=some o->c≠h'.objs.size:=λe=>fh (d7 e);refine d4 ⟨qf Bd _,?_⟩;refine rJ (ks:=ks) (ys:=ys) (l:=l) (items:=items) (nI hd2) (nI (kp _ _ hl')) (lt hl) (by exact hh) _ 0 _ _ [] rfl (fq _) (λj x hx=>?_) hk hy ⟨_,fv _ rfl,rfl,rfl⟩ ⟨_,dg _ (kp _ _ hl'),rfl,_,rfl⟩ ⟨od,esd,epd,dg _ hd2,rd⟩ (by simpa using hsz) λh3 k vs' hd3 e3 kp3=>?_
 ·obtain⟨n,t,y,T,a1,a2,a3,a4⟩:=hp j x hx
  exact⟨n,t,y,T,a1,a2,a3,(by obtain⟨o,_,e,_⟩:=a4;exact nI (up2 _ _ e)),(by obtain⟨o,_,e,_⟩:=a4;exact lt e),a4.keep λo e=>dg _ (up2 _ _ e)⟩
 ·exact⟨rfl,q h3 k vs' hd3 (by simpa using e3) λb o e=>kp3 b o (nI (up2 _ _ e)) (lt e) (dg _ (up2 _ _ e))⟩
end
def xH (H:Hp)(as:List de)(ks:Za6)(ys:List V):Prop:=as.length=ks.length/\as.length=ys.length/\∀(i:Nat) a k y,as[i]?=some a->ks[i]?=some k->ys[i]?=some y->H a=some (.tup [.str k,y])
def uY:List V->Hp->VK->Prop:=λxs H Q=>∃(l:de) (as:List de) (ks:Za6) (ys:List V),xs=[.ref l]/\H l=some (.lst (as.map V.ref))/\xH H as ks ys/\(Ke [] ks ys).length<=ks.length/\∀p,H p=none->Q (.ref p) (upd H p (.dK (Ke [] ks ys)))
theorem Y5 (hcal:X.calm=true):Ec X (.type "dict") uY:=by
 intro pins s Y H xs us Q I r h;obtain⟨l,as,ks,ys,rfl,hl,⟨h1,h2,hp⟩,hml,q⟩:=h;obtain⟨u,rfl,ru⟩:=E6 r;cases ru;obtain⟨hz,its,n0,rv,hit⟩:=I.hok l _ hl;obtain rfl:=T1 rv;rw[c5] at hz;have pr:∀i:Nat,∃u:dr,∀a k y,as[i]?=some a->ks[i]?=some k->ys[i]?=some y->A8 y u/\∃t,Wl s.heap a (.str k t) u:=λi=>by
  by_cases hi:i<as.length
  ·have e:=hp i _ _ _ (c6 hi) (c6 (by lia)) (c6 (by lia))
   obtain⟨_,its,rv,o,e1,e2,n,e3⟩:=I.hok _ _ e;obtain⟨u1,u2,rfl,r1,r3⟩:=P7 rv;obtain⟨t,rfl⟩:=r1;refine⟨u2,λa k y a1 a2 a3=>?_⟩;rw[c6 hi] at a1;rw[c6 (by lia)] at a2 a3;cases a1;cases a2;cases a3;exact⟨r3,t,o,n,e1,e2,e3⟩
  ·exact⟨.none,λa k y a1 _ _=>absurd (dk.mp a1).1 hi⟩
 let f:Nat->dr:=λi=>(pr i).choose
 have hf:∀i a k y,as[i]?=some a->ks[i]?=some k->ys[i]?=some y->A8 y (f i)/\∃t,Wl s.heap a (.str k t) (f i):=λi=>(pr i).choose_spec;have hy:Au ys ((di ys.length).map f):=fB f λi y e=>by
  have hi:=(dk.mp e).1;exact(hf i _ _ y (c6 (by lia)) (c6 (by lia)) e).1
 refine M7 (ks:=ks) (ys:=(di ys.length).map f) (I.ok.hd hcal) hit (by simp;lia) (by simp;lia) (by simpa using hz) (λj x hx=>?_) λh' k vs' d2 ev kp=>?_
 ·have hj:j<as.length:=by have:=(Array.getElem?_eq_some_iff.mp hx).1;simpa using this
  have ex:x=gi as[j]:=by
   have:(as.map gi)[j]?=some x:=by simpa using hx
   rw[df,c6 hj] at this;exact(dh this).symm
  obtain⟨_,t,hpr⟩:=hf j _ _ _ (c6 hj) (c6 (by lia:j<ks.length)) (c6 (by lia:j<ys.length));exact⟨_,t,f j,as[j],c6 (by lia),by rw[df,ff (by lia)];rfl,ex,hpr⟩
 ·have hk:KV (Ke [] ks ys) vs':=by rw[ev];exact dD .nil hy
  refine⟨.ref s.heap.objs.size,_,I.laid (o:=.dK (Ke [] ks ys)) (t':=k) kp (c9 _) ⟨by lia,?_,vs',hk,d2⟩,rfl,q _ (I.hok.fresh (c9 _))⟩;exact beq_eq_false_iff_ne.mpr (qq (fh (U3 I)))
section
variable {X:Cx}
def sT:R2:=λx y H Q=>∃d kvs k v,x=.ref d/\y=.str k/\H d=some (.dK kvs)/\B9 kvs (.inr k)=some v/\Q v H
theorem mE:IxR X sT:=by
 intro value slice pins s Y H x y v u Q I rx ry h hs;obtain⟨d,kvs,k,z,rfl,rfl,hd,hv,q⟩:=h;cases rx;obtain⟨_,_,vs,rel,dd⟩:=Xy I.hok hd;obtain⟨w',hw,rw'⟩:=Kn.some_of (v:=z) (o:=valueAt vs (.inr k)) (by rw[<-hv];exact rel.val (.inr k));exact xo dd.typeIs w9.lookup (ET (Wh (k:=.inr k) ry) dd.mapOf hw ⟨z,H,I.tok _,rw',q⟩) hs
theorem vD {Q:VK}{kvs:List (Key×V)}{k:Str}{v:V}(hd:H d=some (.dK kvs))(hv:B9 kvs (.inr k)=some v)(q:Q v H):sT (.ref d) (.str k) H Q:=⟨d,kvs,k,v,rfl,rfl,hd,hv,q⟩
def Ug:V->List V->Hp->VK->Prop:=λx ws H Q=>∃d kvs k v,x=.ref d/\ws=[.str k,v]/\H d=some (.dK kvs)/\kvs.length<sizeLine/\(∀y,B9 kvs (.inr k)=some y->Q y H)/\(B9 kvs (.inr k)=none->Q v (upd H d (.dK (Ey kvs (.inr k) v))))
theorem gZ:MtM X "dict.setdefault" Ug:=by
 intro pins s Y H x ws v us Q I rx rv h;obtain⟨d,kvs,k,y,rfl,rfl,hd,hl,q1,q2⟩:=h;cases rx;obtain⟨u1,u2,rfl,r1,r2⟩:=P7 rv;obtain⟨z,hm,vs,rel,dd⟩:=Xy I.hok hd;have hz:vs.length<=sizeLine:=by rw[<-rel.length];exact z
 refine IL wa dd.typeIs PySem.F.entry_dict_setdefault (PySem.F.args_dict_setdefault_3 _ _ _) (PySem.kt_meets_setdefault (Bb X.prog X.w) (k:=(.inr k:Key)) d (Wh (k:=.inr k) r1) hm u2) ⟨vs,dd,hz,λw hw=>?_,λhn h' dd' hs=>?_⟩
 ·have e:=rel.val (.inr k:Key)
  rw[hw] at e
  cases e2:B9 kvs (.inr k:Key) with
  |none=>rw[e2] at e;exact e.elim
  |some y'=>
   rw[e2] at e;exact⟨y',H,I.tok _,e,q1 y' e2⟩
 ·have e:=rel.val (.inr k:Key)
  rw[hn] at e;have e2:B9 kvs (.inr k:Key)=none:=by
   cases e2:B9 kvs (.inr k:Key) with
   |none=>rfl
   |some y'=>rw[e2] at e;exact e.elim
  have hl:(Ey kvs (.inr k) y).length<=sizeLine:=by have:=Gb kvs (.inr k:Key) y;lia
  have he:∃q,h'.get? d=some q:=let ⟨q,_,_,hq,_⟩:=dd';⟨q,hq⟩;exact⟨y,_,rQ I (by rw[hd];exact nw) hs he (vT hl hm (rel.put (.inr k) r2) dd'),r2,q2 e2⟩
theorem mF {Q:VK}{kvs:List (Key×V)}{k:Str}{v:V}(hd:H d=some (.dK kvs))(hl:kvs.length<sizeLine)(q1:∀y,B9 kvs (.inr k)=some y->Q y H)(q2:B9 kvs (.inr k)=none->Q v (upd H d (.dK (Ey kvs (.inr k) v)))):Ug (.ref d) [.str k,v] H Q:=⟨d,kvs,k,v,rfl,rfl,hd,hl,q1,q2⟩
def kP:V->List V->Hp->VK->Prop:=λx ws H Q=>∃l xs y,x=.ref l/\ws=[.int 0,y]/\H l=some (.lst xs)/\xs.length<sizeLine/\Q .non (upd H l (.lst (y::xs)))
theorem Yv:MtM X "list.insert" kP:=by
 intro pins s Y H x ws v us Q I rx rv h;obtain⟨l,xs,y,rfl,rfl,hH,hz,q⟩:=h;cases rx;obtain⟨u1,u2,rfl,r1,r2⟩:=P7 rv;obtain⟨t,rfl⟩:=r1;obtain⟨z,its,n,r,hl,e⟩:=I.lstM hH;refine ot F.slot_list_insert ⟨_,e,rfl⟩ F.entry_list_insert (F.args_list_insert_3 _ _ _) (EL l its.toArray n 0 t u2 (by decide) (by rw[d9];lia)) ⟨e,?_⟩;refine⟨.non,_,I.lset (its':=u2::its) hH e ?_ (.cons r2 r) (by rw[f9];lia),rfl,q⟩;simp
def zE:R2:=λx y H Q=>∃a b,x=.bl a/\y=.bl b/\Q (.bl (!(a==b))) H
theorem fS:OpR X (compareOp .IsNot) zE:=by
 intro pins s Y H x y v u Q I rx ry h;obtain⟨a,b,rfl,rfl,q⟩:=h;cases rx;cases ry;refine wpAny_isNot_plain rfl ⟨.bl _,H,I,?_,q⟩;cases a<;>cases b<;>rfl
end
end L2
end
section
namespace TW
open PySem L2
def O0 (c:Nat):Bool:=decide (97<=c/\c<=122)
def Mp (x:Str):Bool:=decide (1<=x.length/\x.length<=8)&&x.cps.toList.all O0
def ltN (x y:Str×Nat):Bool:=ltS x.1 y.1
def prN (nm:Za6):List (Str×Nat):=Ao ltN (nm.zip (di nm.length))
def Fx (nm:Za6):Za4:=(prN nm).map (·.2)
def El (nm:Za6):Za6:=(prN nm).map (·.1)
theorem qZ {nm:Za6}{p:Str×Nat}(h:p∈nm.zip (di nm.length)):nm[p.2]?=some p.1:=by
 obtain⟨i,hi⟩:=jt h;rw[i6] at hi;have hl:i<nm.length:=(dk.mp hi.1).1;rw[ff hl] at hi;obtain⟨h1,h2⟩:=hi;rw[<-dh h2];exact h1
theorem rR {nm:Za6}{p:Str×Nat}(h:p∈prN nm):nm[p.2]?=some p.1:=qZ ((B4 ltN _).mem_iff.mp h)
theorem dL (nm:Za6):(prN nm).length=nm.length:=by unfold prN;rw[Dw,l6,dn,oy]
theorem E4 (nm:Za6):(Fx nm).length=nm.length:=by unfold Fx;rw[c5,dL]
theorem Lr (nm:Za6):(El nm).length=nm.length:=by unfold El;rw[c5,dL]
theorem fJ {nm:Za6}{i k:Nat}(h:(Fx nm)[i]?=some k):∃x,nm[k]?=some x/\(El nm)[i]?=some x:=by
 unfold Fx at h;rw[df] at h;obtain⟨p,hp,e⟩:=gt.mp h;refine⟨p.1,?_,?_⟩
 ·rw[<-e];exact rR (e6 hp)
 ·unfold El;rw[df,hp];rfl
theorem dE {α:Type}:∀(a:List α) (b:Za4),b.length<=a.length->(a.zip b).map (·.2)=b
 |_,[],_=>by rw[List.zip_nil_right];rfl
 |[],_::_,h=>by simp at h
 |x::a,y::b,h=>by rw[AO,fm,dE a b (by simpa using h)]
theorem fQ {β:Type}:∀(a:Za6) (b:List β),a.length<=b.length->(a.zip b).map (·.1)=a
 |[],_,_=>by rw[BN];rfl
 |_::_,[],h=>by simp at h
 |x::a,y::b,h=>by rw[AO,fm,fQ a b (by simpa using h)]
theorem W7 (nm:Za6):Ord (Fx nm):=by
 have hp:(Fx nm).Perm (di nm.length):=by
  have:=(B4 ltN (nm.zip (di nm.length))).map (·.2);rw[dE _ _ (by rw[dn];exact c9 _)] at this;exact this
 refine⟨λx hx=>?_,hp.nodup_iff.mpr List.nodup_range⟩;rw[E4];exact io.mp (hp.mem_iff.mp hx)
theorem Kf (nm:Za6):Cw nm (C0 nm.length)=(Fx nm).map λn:Nat=>(n:Int):=by
 unfold Cw Fx prN C0;rw[show nm.zip ((di nm.length).map λj:Nat=>(j:Int))=(nm.zip (di nm.length)).map λp=>(p.1,(p.2:Int)) by
  rw[AN];exact ii λ⟨x,y⟩ _=>rfl]
 rw[Er (lt:=ltN) (lt':=Zt) (f:=λp:Str×Nat=>(p.1,(p.2:Int))) (λ_ _=>rfl),gu,gu];rfl
theorem Ra (nm:Za6):Ao ltS nm=El nm:=by
 unfold El prN;have:=Er (lt:=ltN) (lt':=ltS) (f:=λp:Str×Nat=>p.1) (λ_ _=>rfl) (nm.zip (di nm.length));rw[fQ _ _ (by rw[dn];exact c9 _)] at this;exact this
theorem mP {α:Type}{lt lt':α->α->Bool}:∀(a:List α) (x:α),(∀y∈a,lt x y=lt' x y)->mg lt a [x]=mg lt' a [x]
 |[],x,_=>by rw[Ds,Ds]
 |y::a,x,h=>by
  rw[Ev,Ev,h y f7,B7,B7,mP a x λz hz=>h z (ge _ hz)]
theorem gM {α:Type}{lt lt':α->α->Bool}{R:α->α->Prop}(hR:∀x y,R y x->lt x y=lt' x y)(l:List α):l.Pairwise R->Ao lt l=Ao lt' l:=by
 refine G4 (P:=λl=>l.Pairwise R->Ao lt l=Ao lt' l) (λ_=>rfl) (λl x ih h=>?_) l;rw[p7] at h;rw[Bp,Bp,ih h.1,mP _ x λy hy=>hR x y (h.2.2 y ((B4 lt' l).mem_iff.mp hy) x (by simp))]
theorem pI {γ:Type}(F:γ->Str×Int)(ps:List γ){nm:Za6}(h:ps.map F=nm.zip (C0 nm.length)):((Ao (λx y=>Gd (F x) (F y)) ps).map λp=>(F p).2)=(Fx nm).map λn:Nat=>(n:Int):=by
 rw[<-Kf];unfold Cw;rw[<-h,Er (lt:=λx y=>Zt (F x) (F y)) (lt':=Zt) (f:=F) (λ_ _=>rfl),gu];have e:=gM (lt:=λx y=>Gd (F x) (F y)) (lt':=λx y=>Zt (F x) (F y)) (R:=λy x=>(F y).2<(F x).2) (λx y hxy=>by
  show Gd (F x) (F y)=ltS (F x).1 (F y).1;unfold Gd;rw[show decide ((F x).2<(F y).2)=false from decide_eq_false (by lia),ya,vb]) ps (by
  have key:∀l:List (Str×Int),(∀(i:Nat) p,l[i]?=some p->p.2=(i:Int))->l.Pairwise λy x=>y.2<x.2:=λl hl=>by
   rw[ie];intro i j hi hj hij;have a:=hl i _ (c6 hi);have b:=hl j _ (c6 hj);lia
  have hh:=key (ps.map F) λi p hp=>by
   rw[h,i6] at hp;have hi:i<nm.length:=(dk.mp hp.1).1;have h2:=hp.2;unfold C0 at h2;rw[df,ff hi] at h2;exact(dh h2).symm
  exact(List.pairwise_map (f:=F) (R:=λy x:Str×Int=>y.2<x.2)).mp hh)
 rw[e];rfl
def bgN (S:Za6):Za5:=(di S.length).map λi=>decide (i=0\/S[i]?≠S[i-1]?)
def bgs (S:Za6)(k:Nat):Za4:=occ true (bgN S) k
def Ky (S:Za6)(b e:Nat):Str×Nat×Nat:=(S.getD b ⟨#[]⟩,b,e)
def Dc (S:Za6)(k:Nat):List (Str×Nat×Nat):=((bgs S k).zip ((bgs S k).drop 1++[k])).map λp=>Ky S p.1 p.2
theorem uF {S:Za6}{i:Nat}(h:i<S.length):(bgN S).getD i false=decide (i=0\/S[i]?≠S[i-1]?):=by
 unfold bgN;rw[ft,df,ff h];rfl
theorem G0 {S:Za6}{k:Nat}(h:k<S.length):bgs S (k+1)=bgs S k++if k=0\/S[k]?≠S[k-1]? then[k] else[]:=by
 unfold bgs;rw[Mb,uF h]
 by_cases c:k=0\/S[k]?≠S[k-1]?
 ·rw[if_pos c,decide_eq_true c];rfl
 ·rw[if_neg c,decide_eq_false c];rfl
theorem Pr {S:Za6}:∀{k:Nat},k<S.length->∃B b,bgs S (k+1)=B++[b]/\b<=k/\S[b]?=S[k]?
 |0,h=>⟨[],0,by rw[G0 h,if_pos (.inl rfl)];rfl,c9 _,rfl⟩
 |k+1,h=>by
  obtain⟨B,b,e,hb,es⟩:=Pr (S:=S) (k:=k) (by lia);rw[G0 h]
  by_cases c:k+1=0\/S[k+1]?≠S[k+1-1]?
  ·exact⟨_,k+1,by rw[if_pos c],c9 _,rfl⟩
  ·rw[if_neg c,gd]
   refine⟨B,b,e,by lia,es.trans ?_⟩;have:S[k+1]?=S[k+1-1]?:=wq λz=>c (.inr z);rw[this];rfl
theorem Lv (B:Za4)(b k:Nat):(B++[b]).zip ((B++[b]).drop 1++[k])=B.zip ((B++[b]).drop 1)++[(b,k)]:=by
 refine List.zip_append ?_;rw[gh,c8,iw];lia
theorem iO {S:Za6}{k:Nat}{x:Str}(h:S[k]?=some x) :
  (Dc S k=[]/\k=0/\Dc S (k+1)=[(x,k,k+1)])\/(∃R y b,0<k/\Dc S k=R++[(y,b,k)]/\(y=x->Dc S (k+1)=R++[(x,b,k+1)])/\(y≠x->Dc S (k+1)=R++[(y,b,k),(x,k,k+1)])):=by
 have hk:=(dk.mp h).1;have gx:S.getD k ⟨#[]⟩=x:=by rw[ft,h];rfl
 cases k with
 |zero=>
  refine .inl ⟨rfl,rfl,?_⟩;unfold Dc;rw[G0 hk,if_pos (.inl rfl)];show[Ky S 0 1]=_;unfold Ky;rw[gx]
 |succ k=>
  obtain⟨B,b,e,hb,es⟩:=Pr (S:=S) (k:=k) (by lia);obtain⟨y,hy⟩:∃y,S[k]?=some y:=⟨_,c6 (by lia)⟩;have gb:S.getD b ⟨#[]⟩=y:=by rw[ft,es,hy];rfl
  refine .inr ⟨(B.zip ((B++[b]).drop 1)).map λp=>Ky S p.1 p.2,y,b,by lia,?_,λhyx=>?_,λhyx=>?_⟩
  ·unfold Dc
   rw[e,Lv,dj];show _++[Ky S b (k+1)]=_;unfold Ky;rw[gb]
  ·unfold Dc
   rw[G0 hk,if_neg (λz=>z.elim (λz=>by lia) λz=>z (by show S[k+1]?=S[k]?;rw[h,hy,hyx])),gd,e,Lv,dj];show _++[Ky S b (k+1+1)]=_;unfold Ky;rw[gb,hyx]
  ·unfold Dc
   rw[G0 hk,if_pos (.inr λz=>hyx (by have z:S[k+1]?=S[k]?:=z;rw[h,hy] at z;exact(dh z).symm)),e,Lv (B++[b]) (k+1)];rw[show((B++[b])++[k+1]).drop 1=(B++[b]).drop 1++[k+1] by rw[j9 (by rw[c8,iw];lia)],Lv,dj,dj,du];show _++([Ky S b (k+1)]++[Ky S (k+1) (k+1+1)])=_;unfold Ky;rw[gb,gx];rfl
theorem qU {S:Za6}{p:Nat}{x:Str}(h:S[p]?=some x):∃c,(occ true (bgN S) (p+1)).length=c+1/\∃b e,(Dc S S.length)[c]?=some (x,b,e):=by
 have hp:=(dk.mp h).1;obtain⟨B,b,e,hb,es⟩:=Pr hp;have e:occ true (bgN S) (p+1)=B++[b]:=e;have hg:(occ true (bgN S) S.length)[B.length]?=some b:=by
  rw[sJ (n:=p+1) (by lia) (by rw[e,c8,iw];lia),e,dq (c9 _),jx];rfl
 refine⟨B.length,by rw[e,c8,iw],b,?_⟩;unfold Dc bgs;have hl:=(dk.mp hg).1;obtain⟨y,hy⟩:∃y,((occ true (bgN S) S.length).drop 1++[S.length])[B.length]?=some y:=⟨_,c6 (by rw[c8,gh,iw];lia)⟩;refine⟨y,?_⟩;rw[df,i6 (z:=(b,y)) |>.mpr ⟨hg,hy⟩];show some (Ky S b y)=_;unfold Ky;rw[ft,es,h];rfl
end TW
end
namespace TK
open PySem L2 TW
variable {C CB CC CO CP CS Pt d dx i1 i2 it l1 l2:de} {A:ic} {op:vv} {X:Cx} {D:Hk} {env:Env} {iter tg:gv} {fd:i0} {base h h':iq} {H H' H0 H1 H2:Hp} {J:It} {pins:Za1} {as fp:List de} {ms:Za5} {es:List gv} {ks ws:List Int} {cs ns:Za4} {N kz nm ps:Za6} {xs ys:List V} {us vs:Za3} {M:wn} {n t':Nat} {oT:Obj} {an od:Option de} {pos:Pos} {B:Prop} {scope:l9} {pl:Sem Bool} {s s2:dv} {sp:Sp} {qual z:Str} {te:TE} {wi:TI} {y:V} {cdv ct doc oc pm:dr} {w:gl}
def top (i:Nat):im:=gj.main.body.getD i (.Pass ⟨0,0,0,0⟩)
abbrev Kx:im:=top 12
theorem Ww:Ak ["thing"] ["thing"] (Ad Kx):=by k_cls
abbrev Jf:im:=top 13
theorem Vq:Ak ["thing","low","high"] ["thing","low","high"] (Ad Jf):=by k_cls
abbrev Is:im:=top 14
theorem Uo:Ak ["bit"] ["bit"] (Ad Is):=by k_cls
abbrev Gn:im:=top 15
theorem R1:Ak ["place","greatest"] ["place","greatest"] (Ad Gn):=by k_cls
abbrev E9:im:=top 16
theorem Md:Ak ["low","high","greatest"] ["low","high","greatest"] (Ad E9):=by k_cls
abbrev Hl:im:=top 18
theorem R4:Ak ["k","many_knots"] ["k","many_knots"] (Ad Hl):=by k_cls
abbrev Mj:im:=top 23
theorem Hd:Ak ["word","ones"] ["word"] (Ad Mj):=by k_cls
abbrev Pc:im:=top 29
theorem gE:Ak ["thing"] ["thing"] (Ad Pc):=by k_cls
abbrev M3:im:=top 30
theorem Zn:Ak ["signs"] ["signs"] (Ad M3):=by k_cls
abbrev Hw:im:=top 31
theorem X8:Ak ["text"] ["text"] (Ad Hw):=by k_cls
theorem Sd:Bn ["text"] (Ad Hw) { kind:=.function,names:=[(".0",.local),("low",.local),("word_of",.globalImplicit),("WORD_BITS",.globalImplicit),("text",.free)],isGenerator:=false,isCoroutine:=false,more:=[] } "low" ["low","text"] [0]:=by k_cls
abbrev Hv:im:=top 32
theorem Wy:Ak ["word"] ["word"] (Ad Hv):=by k_cls
theorem Sj:Bn ["word"] (Ad Hv) { kind:=.function,names:=[(".0",.local),("low",.local),("SIGNS_OF_FOUR",.globalImplicit),("word",.free)],isGenerator:=false,isCoroutine:=false,more:=[] } "low" ["low","word"] [0]:=by k_cls
abbrev Ja:im:=A9 (top 33) 0
theorem Ul:Ak ["self","text"] ["self","text"] (Ad Ja):=by k_cls
abbrev Ir:im:=A9 (top 33) 1
theorem Uj:Ak ["self"] ["self"] (Ad Ir):=by k_cls
abbrev Hq:im:=A9 (top 33) 3
theorem R9:Ak ["self"] ["self"] (Ad Hq):=by k_cls
abbrev Ea:im:=A9 (top 33) 5
theorem Cq:Ak ["self","low","high","first","beyond","signs","begin"] ["self","low","high"] (Ad Ea):=by k_cls
theorem Lw:Bn ["self","low","high","first","beyond","signs","begin"] (Ad Ea) { kind:=.function,names:=[(".0",.local),("word",.local),("signs_of",.globalImplicit)],isGenerator:=false,isCoroutine:=false,more:=[] } "word" ["word"] []:=by k_cls
abbrev Fm:im:=top 38
theorem Fe:Ak ["numbers","sums","number"] ["numbers"] (Ad Fm):=by k_cls
abbrev Ch:im:=top 39
theorem Ga:Ak ["words","blocks"] ["words"] (Ad Ch):=by k_cls
theorem Ka:Bn ["words","blocks"] (Ad Ch) { kind:=.function,names:=[(".0",.local),("low",.local),("BLOCK_WORDS",.globalImplicit),("words",.free)],isGenerator:=false,isCoroutine:=false,more:=[] } "low" ["low","words"] [0]:=by k_cls
theorem J4:Bn ["words","blocks"] (Ad Ch) { kind:=.function,names:=[(".0",.local),("block",.local),("sum",.globalImplicit)],isGenerator:=false,isCoroutine:=false,more:=[] } "block" ["block"] []:=by k_cls
theorem J9 (QU:l9):Bn ["block"] QU { kind:=.function,names:=[(".0",.local),("word",.local),("ones_in",.globalImplicit)],isGenerator:=false,isCoroutine:=false,more:=[] } "word" ["word"] []:=⟨rfl,by decide +kernel,by decide +kernel,(λy hy h=>absurd h ((by decide +kernel:∀y∈({ kind:=.function,names:=[(".0",.local),("word",.local),("ones_in",.globalImplicit)],isGenerator:=false,isCoroutine:=false,more:=[] }:l9).names,y.2≠mr) y hy)),by decide +kernel,rfl,rfl,rfl,by decide +kernel⟩
abbrev Gk:im:=A9 (top 40) 0
theorem Rt:Ak ["self","bits"] ["self","bits"] (Ad Gk):=by k_cls
abbrev Dh:im:=A9 (top 40) 6
theorem A5:Ak ["self","place","number","block","ones","word","rest"] ["self","place"] (Ad Dh):=by k_cls
abbrev Fn:im:=A9 (top 40) 2
theorem Ib:Ak ["self","bit","place","ones"] ["self","bit","place"] (Ad Fn):=by k_cls
abbrev F6:im:=top 41
theorem Ll:Ak ["things","signs"] ["things"] (Ad F6):=by k_cls
theorem Ry:Dp ["things","signs"] (Ad F6) { kind:=.function,names:=[(".0",.local),("ahead",.local),("own",.local)],isGenerator:=false,isCoroutine:=false,more:=[] } "ahead" "own" ["ahead","own"] []:=by k_cls
abbrev Gm:im:=top 43
theorem D4:Ak ["order","met","place","number"] ["order"] (Ad Gm):=by k_cls
abbrev Iv:im:=top 44
theorem Cn:Ak ["order","rounds","met","least","places","place"] ["order"] (Ad Iv):=by k_cls
abbrev F4:im:=top 45
theorem Dq:Ak ["order","step","shortcuts","places","marked"] ["order","step"] (Ad F4):=by k_cls
abbrev Br:im:=A9 (top 46) 0
theorem L3:Ak ["self","order","step"] ["self","order","step"] (Ad Br):=by k_cls
abbrev D6:im:=A9 (top 46) 1
theorem Kt:Ak ["self","place"] ["self","place"] (Ad D6):=by k_cls
abbrev C6:im:=A9 (top 46) 4
theorem Bc:Ak ["self","place","way","now"] ["self","place"] (Ad C6):=by k_cls
abbrev Ep:im:=A9 (top 46) 2
theorem Lb:Ak ["self","place"] ["self","place"] (Ad Ep):=by k_cls
abbrev Hf:im:=top 56
theorem Dj:Ak ["text","begin","height","heights","sign"] ["text","begin"] (Ad Hf):=by k_cls
abbrev Jb:im:=top 62
theorem Ed:Ak ["text","height","place","sign"] ["text"] (Ad Jb):=by k_cls
abbrev F1:im:=A9 (top 58) 0
theorem Nt:Ak ["self","length","table","often_least"] ["self","length","table","often_least"] (Ad F1):=by k_cls
abbrev Dg:im:=A9 (top 63) 4
theorem Jd:Ak ["self","place"] ["self","place"] (Ad Dg):=by k_cls
abbrev Et:im:=A9 (top 58) 9
theorem Lf:Ak ["self","place"] ["self","place"] (Ad Et):=by k_cls
abbrev Fa:im:=A9 (top 63) 2
theorem M2:Ak ["self","low","high"] ["self","low","high"] (Ad Fa):=by k_cls
abbrev Fu:im:=A9 (top 58) 7
theorem N7:Ak ["self"] ["self"] (Ad Fu):=by k_cls
abbrev Fs:im:=A9 (top 58) 8
theorem Nx:Ak ["self"] ["self"] (Ad Fs):=by k_cls
abbrev Cp:im:=A9 (top 63) 0
theorem Dl:Ak ["self","text","lows","begins","heights","table"] ["self","text"] (Ad Cp):=by k_cls
theorem N8:Bn ["self","text","lows","begins","heights","table"] (Ad Cp) { kind:=.function,names:=[(".0",.local),("low",.local),("self",.free)],isGenerator:=false,isCoroutine:=false,more:=[] } "low" ["low","self"] [0]:=by k_cls
theorem Nz:Dp ["self","text","lows","begins","heights","table"] (Ad Cp) { kind:=.function,names:=[(".0",.local),("low",.local),("begin",.local),("heights_of",.globalImplicit),("STRETCH_BITS",.globalImplicit),("text",.free)],isGenerator:=false,isCoroutine:=false,more:=[] } "low" "begin" ["low","begin","text"] [1]:=by k_cls
theorem N9:Dp ["self","text","lows","begins","heights","table"] (Ad Cp) { kind:=.function,names:=[(".0",.local),("begin",.local),("some",.local),("min",.globalImplicit),("max",.globalImplicit)],isGenerator:=false,isCoroutine:=false,more:=[] } "begin" "some" ["begin","some"] []:=by k_cls
theorem N0:Bn ["self","text","lows","begins","heights","table"] (Ad Cp) { kind:=.function,names:=[(".0",.local),("some",.local),("min",.globalImplicit)],isGenerator:=false,isCoroutine:=false,more:=[] } "some" ["some"] []:=by k_cls
abbrev M4:im:=top 67
theorem He:Ak ["elders","path","k","elder"] ["elders"] (Ad M4):=by k_cls
abbrev Im:im:=top 70
theorem Hy:Ak ["elders","depths","elder"] ["elders"] (Ad Im):=by k_cls
abbrev Pz:im:=top 68
theorem G3:Ak ["elders","signs","still_opened","depth"] ["elders"] (Ad Pz):=by k_cls
abbrev Io:im:=top 69
theorem Fj:Ak ["text","elders","path","sign"] ["text"] (Ad Io):=by k_cls
abbrev Ff:im:=A9 (top 73) 0
theorem Mi:Ak ["self","pairs"] ["self","pairs"] (Ad Ff):=by k_cls
abbrev Gi:im:=A9 (top 75) 0
theorem Ox:Ak ["self","elders"] ["self","elders"] (Ad Gi):=by k_cls
abbrev Cy:im:=A9 (top 73) 1
theorem Ia:Ak ["self"] ["self"] (Ad Cy):=by k_cls
abbrev Fq:im:=A9 (top 73) 3
theorem Ny:Ak ["self"] ["self"] (Ad Fq):=by k_cls
abbrev Ej:im:=A9 (top 73) 2
theorem Km:Ak ["self"] ["self"] (Ad Ej):=by k_cls
abbrev Jq:im:=top 50
theorem Zw:Ak ["thing"] ["thing"] (Ad Jq):=by k_cls
theorem Vb:Bn ["thing"] (Ad Jq) { kind:=.function,names:=[(".0",.local),("sign",.local),("LETTERS",.globalImplicit)],isGenerator:=false,isCoroutine:=false,more:=[] } "sign" ["sign"] []:=by k_cls
abbrev Gh:im:=top 51
theorem F0:Ak ["names","place","name"] ["names"] (Ad Gh):=by k_cls
abbrev C8:im:=top 52
theorem Ic:Ak ["names","begins"] ["names"] (Ad C8):=by k_cls
theorem Lu:Bn ["names","begins"] (Ad C8) { kind:=.function,names:=[(".0",.local),("place",.local),("names",.free)],isGenerator:=false,isCoroutine:=false,more:=[] } "place" ["place","names"] [0]:=by k_cls
theorem L0:Dp ["names","begins"] (Ad C8) { kind:=.function,names:=[(".0",.local),("begin",.local),("end",.local),("names",.free)],isGenerator:=false,isCoroutine:=false,more:=[] } "begin" "end" ["begin","end","names"] [0]:=by k_cls
abbrev Ei:im:=top 53
theorem Bf:Ak ["elders","names","told","path","upward","k","elder","alike"] ["elders","names"] (Ad Ei):=by k_cls
abbrev Cj:im:=A9 (top 54) 0
theorem Sn:Ak ["self","wood","names"] ["self","wood","names"] (Ad Cj):=by k_cls
theorem Np:Bn ["self","wood","names"] (Ad Cj) { kind:=.function,names:=[(".0",.local),("one",.local)],isGenerator:=false,isCoroutine:=false,more:=[] } "one" ["one"] []:=by k_cls
abbrev Dd:im:=A9 (top 54) 10
theorem Ma:Ak ["self","low","high"] ["self","low","high"] (Ad Dd):=by k_cls
theorem J7:Bn ["self","low","high"] (Ad Dd) { kind:=.function,names:=[(".0",.local),("place",.local),("self",.free)],isGenerator:=false,isCoroutine:=false,more:=[] } "place" ["place","self"] [0]:=by k_cls
abbrev Gc:im:=A9 (top 54) 1
theorem Ps:Ak ["self"] ["self"] (Ad Gc):=by k_cls
abbrev Eg:im:=A9 (top 54) 2
theorem Kz:Ak ["self"] ["self"] (Ad Eg):=by k_cls
abbrev Fd:im:=A9 (top 54) 3
theorem Gr:Ak ["self","k","number"] ["self","k"] (Ad Fd):=by k_cls
abbrev Gf:im:=top 77
theorem Pe:Ak ["_law_script","_law_k"] ["_law_script","_law_k"] (Ad Gf):=by k_cls
abbrev Ix:im:=top 78
theorem Up:Ak ["_law_found"] ["_law_found"] (Ad Ix):=by k_cls
abbrev Jg:im:=top 79
theorem L5:Ak ["_law_cell","_law_k","_law_once"] ["_law_cell","_law_k"] (Ad Jg):=by k_cls
abbrev Hu:im:=top 80
theorem Dm:Ak ["_law_script","_law_at","_law_many","_law_left","_law_found","_law_k"] ["_law_script","_law_at","_law_many"] (Ad Hu):=by k_cls
abbrev Kj:im:=top 81
theorem Dx:Ak ["_law_digits_here","_law_elders","_law_path","_law_k"] ["_law_digits_here"] (Ad Kj):=by k_cls
abbrev Dz:im:=top 82
theorem Co:Ak ["_law_digits_here","_law_seed","_law_letters","_law_words","_law_k","_law_base","_law_at"] ["_law_digits_here","_law_seed"] (Ad Dz):=by k_cls
theorem Pd:Bn ["_law_digits_here","_law_seed","_law_letters","_law_words","_law_k","_law_base","_law_at"] (Ad Dz) { kind:=.function,names:=[(".0",.local),("_law_digit",.local),("_law_seed",.free),("_law_words",.free)],isGenerator:=false,isCoroutine:=false,more:=[] } "_law_digit" ["_law_digit","_law_seed","_law_words"] [1,3]:=by k_cls
theorem P8:Bn ["_law_digits_here","_law_seed","_law_letters","_law_words","_law_k","_law_base","_law_at"] (Ad Dz) { kind:=.function,names:=[(".0",.local),("_law_k",.local),("_law_letters",.free),("_law_seed",.free)],isGenerator:=false,isCoroutine:=false,more:=[] } "_law_k" ["_law_k","_law_letters","_law_seed"] [2,1]:=by k_cls
theorem O4:Dp ["_law_digits_here","_law_seed","_law_letters","_law_words","_law_k","_law_base","_law_at"] (Ad Dz) { kind:=.function,names:=[(".0",.local),("_law_k",.local),("_law_word",.local)],isGenerator:=false,isCoroutine:=false,more:=[] } "_law_k" "_law_word" ["_law_k","_law_word"] []:=by k_cls
abbrev Fb:im:=top 83
theorem Df:Ak ["_law_order","_law_names_here","_law_found","_law_at","_law_name"] ["_law_order","_law_names_here"] (Ad Fb):=by k_cls
abbrev Dt:im:=top 84
theorem E7:Ak ["_law_told","_law_names_here","_law_order","_law_found","_law_rows","_law_one"] ["_law_told","_law_names_here"] (Ad Dt):=by k_cls
theorem Sh:Dp ["_law_told","_law_names_here","_law_order","_law_found","_law_rows","_law_one"] (Ad Dt) { kind:=.function,names:=[(".0",.local),("_law_name",.local),("_law_k",.local)],isGenerator:=false,isCoroutine:=false,more:=[] } "_law_name" "_law_k" ["_law_name","_law_k"] []:=by k_cls
theorem Sf:Bn ["_law_told","_law_names_here","_law_order","_law_found","_law_rows","_law_one"] (Ad Dt) { kind:=.function,names:=[(".0",.local),("_law_k",.local),("_law_told",.free)],isGenerator:=false,isCoroutine:=false,more:=[] } "_law_k" ["_law_k","_law_told"] [0]:=by k_cls
theorem R6:Bn ["_law_told","_law_names_here","_law_order","_law_found","_law_rows","_law_one"] (Ad Dt) { kind:=.function,names:=[(".0",.local),("_law_k",.local),("_law_whole",.globalImplicit)],isGenerator:=false,isCoroutine:=false,more:=[] } "_law_k" ["_law_k"] []:=by k_cls
theorem Sa:Bn ["_law_told","_law_names_here","_law_order","_law_found","_law_rows","_law_one"] (Ad Dt) { kind:=.function,names:=[(".0",.local),("_law_k",.local),("_law_names_here",.free)],isGenerator:=false,isCoroutine:=false,more:=[] } "_law_k" ["_law_k","_law_names_here"] [1]:=by k_cls
abbrev Py:im:=top 85
theorem Ku:Ak ["_law_script","_law_many","_law_elders","_law_names_here","_law_handed","_law_told","_law_thing"] ["_law_script"] (Ad Py):=by k_cls
theorem oS:Bn ["_law_script","_law_many","_law_elders","_law_names_here","_law_handed","_law_told","_law_thing"] (Ad Py) { kind:=.function,names:=[(".0",.local),("_law_name",.local),("is_name",.globalImplicit)],isGenerator:=false,isCoroutine:=false,more:=[] } "_law_name" ["_law_name"] []:=by k_cls
abbrev Ik:Pos:=⟨304,62,304,80⟩
def Ar (l:Za5):Str:=⟨(l.map λb=>if b then 49 else 48).toArray⟩
def sg (b:Bool):V:=.str (sgn (if b then 49 else 48))
theorem sZ (m:Nat):lj (m:Int) 15=((m%16:Nat):Int):=by
 unfold lj;rw[decide_eq_true (jp m),decide_eq_true (by decide:(0:Int)<=15)];show((m &&& 15:Nat):Int)=_;rw[show(15:Nat)=2 ^ 4-1 by decide,pi]
theorem yA (m:Nat):(m:Int)/2 ^ (4:Int).toNat=((m/16:Nat):Int):=by
 show(m:Int)/16=_;lia
theorem qH (r:Nat)(h:r<16):atI (Sq.map λn:Nat=>V.int (n:Int)) (r:Int)=some (.int (pc r)):=by
 refine Bj ?_;rw[df,oQ r h];rfl
theorem A0 (l:Za5):(Ar l).length=l.length:=by
 show(l.map _).toArray.size=_;rw[d9,c5]
theorem Tv (b:Bool)(k:Nat):R7 (sgn (if b then 49 else 48)) k=Ar (dy k b):=by
 refine Fh ?_;show(dy k [if b then 49 else 48]).flatten.toArray.toList=((dy k b).map _).toArray.toList;rw[jf,jf,List.map_replicate]
 induction k with
 |zero=>rfl
 |succ k ih=>
  rw[gw,ip,ih,gw];rfl
theorem Cf (l:Za5):(Ar l).cps.toList=l.map λb=>if b then 49 else 48:=by
 show(l.map _).toArray.toList=_;rw[jf]
theorem Zd (l:Za5):IB.bits (Ar l).cps.toList:=λc hc=>by
 rw[Cf] at hc;obtain⟨b,_,rfl⟩:=iz.mp hc;cases b
 ·exact .inl rfl
 ·exact .inr rfl
theorem U9 (a b:Za5):Ar a++Ar b=Ar (a++b):=by
 refine Fh ?_;show((Ar a).cps++(Ar b).cps).toList=_;rw[qb,Cf,Cf,Cf,dj]
theorem Kd {α:Type}(l:List α)(a b:Nat):(l.drop (min a l.length)).take (min b l.length-min a l.length)=(l.drop a).take (b-a):=by
 by_cases h:a<=l.length
 ·rw[i9 h]
  by_cases h2:b<=l.length
  ·rw[i9 h2]
  ·rw[w4 (by lia),ej (by rw[gh];lia),ej (by rw[gh];lia)]
 ·have e:min a l.length=l.length:=by lia
  rw[e,i7 (c9 _),i7 (by lia)];simp
theorem Mn (l:Za5)(a b:Nat):Lk (Ar l) (some (a:Int)) (some (b:Int))=Ar ((l.drop a).take (b-a)):=by
 refine Fh ?_;show(ql _ (qm _ _)).toArray.toList=_;rw[jf,HT.sIx_nat,HT.sIx_nat];have e:(Ar l).cps.size=l.length:=A0 l;rw[e,Cf,Cf,nh,pj];have:=Kd (l.map λb=>if b=true then 49 else 48) a b;rw[c5] at this;exact this
theorem Pf (xs:List V)(a b:Nat):Gj xs (some (a:Int)) (some (b:Int))=(xs.drop a).take (b-a):=by
 unfold Gj;rw[HT.sIx_nat,HT.sIx_nat];exact Kd xs a b
theorem Tc (l:Za5):Me (Ar l) 49=l.count true/\Me (Ar l) 48+Me (Ar l) 49=l.length:=by
 unfold Me;rw[Cf]
 induction l with
 |nil=>exact⟨rfl,rfl⟩
 |cons b r ih=>cases b<;>simp[nu]<;>lia
theorem wR (l:Za5):IB.v2 (R8 (Ar l)).cps.toList=val l:=by
 show IB.v2 (Ar l).cps.toList.reverse.toArray.toList=_;rw[jf,Cf,<-List.map_reverse];unfold IB.v2;rw[List.foldl_map];have e:=eK l 0;rw[FI,mw] at e;rw[<-e];congr 1
 funext a b
 cases b<;>rfl
abbrev nV (ns:Za4):List V:=ns.map λn:Nat=>V.int n
theorem Ly (ns:Za4):nV ns=(ns.map λn:Nat=>(n:Int)).map V.int:=by rw[gu];rfl
theorem Jh (f:Nat->Nat)(i:Nat):nV ((di (i+1)).map f)=nV ((di i).map f)++[V.int (f i:Nat)]:=by
 unfold nV;rw[ik,dj,dj];rfl
theorem kQ (ns:Za4):(ns.map λn:Nat=>(n:Int)).sum=(ns.sum:Nat):=by
 induction ns with
 |nil=>rfl
 |cons n r ih=>rw[fm,uy,ih,uy];lia
theorem Os (n d:Nat)(hd:0<d):B8 0 (n:Int) (d:Int)=(n+d-1)/d:=by
 unfold B8;rw[show(n:Int)-0+(d:Int)-1=((n+d-1:Nat):Int) by lia,<-sh,fz]
theorem few (h:n<=1000):n<=sizeLine:=fw (Db h)
theorem Ag (h:n<=100000):n<sizeLine:=vp h (by decide)
theorem Vo {l:Za5}{i c:Nat}(h:(Ar l).cps[i]?=some c):∃b,l[i]?=some b/\c=if b then 49 else 48:=by
 have e:(Ar l).cps.toList[i]?=some c:=by rw[fj];exact h
 rw[Cf,df] at e
 cases hb:l[i]? with
 |none=>rw[hb] at e;cases e
 |some b=>
  rw[hb] at e;exact⟨b,rfl,(dh e).symm⟩
theorem B0 {α:Type}{l:List α}{i:Nat}{b:α}(h:l[i]?=some b):i<l.length:=(dk.mp h).1
def isI:V->Bool
 |.int _=>true
 |_=>false
section
variable {K:c7} {H H':Hp}
theorem Ih.same {x:V}{t:dr}(s:Ah H H')(h:Ih K H x t):Ih K H' x t:=by
 cases h with
 |non=>exact .non
 |bl b=>exact .bl b
 |int i=>exact .int i
 |str z=>exact .str z
 |flt z=>exact .flt z
 |lst e=>exact .lst (s _ _ e)
 |frz e=>exact .frz (s _ _ e)
 |tup e=>exact .tup (s _ _ e)
 |dK e=>exact .dK (s _ _ e)
 |dT e=>exact .dT (s _ _ e)
 |ins e cl ha hn htk hm=>exact .ins (s _ _ e) cl ha hn htk hm
end
theorem pY {l:Za5}{j:Nat}(h:j<B3 l.length):atI (nV (wordsOf l)) (j:Int)=some (.int (val (Av l j):Nat)):=by
 refine Bj ?_;unfold nV TW.wordsOf;rw[df,df,ff h];rfl
theorem G1 {H5 H6:Hp}{xb dxb:de}(nb1:H5 xb=none)(nb2:H5 dxb=none)(s6:SameBut xb (upd (upd H5 dxb (.own xb)) xb (.ins C dxb [])) H6):Ah H5 H6:=λb u e=>by
 have e1:b≠xb:=Aj e nb1;have e2:b≠dxb:=Aj e nb2;exact s6 _ _ e1 (by rw[Ai e1,Ai e2];exact e)
def eN:List V:=[.str "0000",.str "1000",.str "0100",.str "1100",.str "0010",.str "1010",.str "0110",.str "1110",.str "0001",.str "1001",.str "0101",.str "1101",.str "0011",.str "1011",.str "0111",.str "1111"]
theorem lK (m k:Nat){j:Int}(h:j=(k:Int)):lj (m:Int) (1*2 ^ j.toNat-1)=((m%2 ^ k:Nat):Int):=by
 subst h;rw[fz,Int.one_mul];have e:((2:Int) ^ k-1)=((2 ^ k-1:Nat):Int):=by
  have:1<=2 ^ k:=Nat.one_le_two_pow;rw[Int.natCast_sub this,Int.natCast_pow];rfl
 rw[e];unfold lj;rw[decide_eq_true (jp m),decide_eq_true (jp (2 ^ k-1))];show((m &&& (2 ^ k-1):Nat):Int)=_;rw[pi]
theorem rS (h:n<2 ^ 32):n ||| 4294967295=4294967295:=by
 refine ui λi=>?_;rw[Nat.testBit_or,show(4294967295:Nat)=2 ^ 32-1 by decide,x6]
 by_cases hi:i<32
 ·rw[decide_eq_true hi,Bool.or_true]
 ·rw[decide_eq_false hi,vb]
  exact Nat.testBit_lt_two_pow (d8 h (AB (by decide) (by lia)))
theorem Y7 (m k:Nat):w6 (m:Int) (k:Int)=((m ||| k:Nat):Int)-((m &&& k:Nat):Int):=by
 have hn:∀x:Int,kh (kh x)=x:=λx=>by unfold kh;lia
 have ho:CL (m:Int) (k:Int)=((m ||| k:Nat):Int):=by
  unfold CL lj;rw[decide_eq_false (show ¬(0:Int)<=kh (m:Int) by unfold kh;lia),decide_eq_false (show ¬(0:Int)<=kh (k:Int) by unfold kh;lia)];show kh (kh _)=_;rw[hn,hn,hn,fz,fz]
 have ha:lj (m:Int) (k:Int)=((m &&& k:Nat):Int):=by
  unfold lj;rw[decide_eq_true (jp m),decide_eq_true (jp k)];rfl
 unfold w6;rw[ho,ha]
theorem S6:∀w:Za5,val w+val (w.map λb=>!b)+1=2 ^ w.length
 |[]=>rfl
 |b::r=>by
  have:=S6 r;rw[fm,f9,wc];cases b<;>simp[val]<;>lia
theorem zK (b:Bool)(l:Za5)(j:Nat):w6 ((val (Av l j):Nat):Int) ((Ym b:Nat):Int)=((val (Av l j) ^^^ Ym b:Nat):Int):=by
 have hlt:val (Av l j)<2 ^ 32:=d8 (mB _) (AB (by decide) (by unfold Av;rw[eg];lia));have h1:=Tj true l j;have h0:=Tj b l j;rw[Y7,h0]
 cases b with
 |true=>
  rw[<-h0];show(((val (Av l j) ||| 0:Nat):Int)-((val (Av l j) &&& 0:Nat):Int))=((val (Av l j) ^^^ 0:Nat):Int);rw[Nat.or_zero,Nat.and_zero,FJ];lia
 |false=>
  show(((val (Av l j) ||| 4294967295:Nat):Int)-((val (Av l j) &&& 4294967295:Nat):Int))=_;rw[rS hlt,show(4294967295:Nat)=2 ^ 32-1 by decide,pi,r6 hlt];have hc:=S6 ((di 32).map λp=>l.getD (32*j+p) false==true);rw[<-h1,gu,c5,dn] at hc;have e:((di 32).map ((λb=>!b) ∘ λp=>l.getD (32*j+p) false==true))=(di 32).map λp=>l.getD (32*j+p) false==false:=ii λp _=>by
   show(!(l.getD (32*j+p) false==true))=_;cases l.getD (32*j+p) false<;>rfl
  rw[e] at hc;have e0:val (Av l j) ^^^ Ym true=val (Av l j):=FJ _;rw[e0] at hc;lia
theorem Ft (l:Za4):(nV l).length=l.length:=by unfold nV;rw[c5]
theorem Pu {l:Za4}{i:Nat}(h:l[i]?=some n):(nV l)[i]?=some (.int (n:Nat)):=by
 unfold nV;rw[df,h];rfl
theorem vI (l m:Za4):nV l++nV m=nV (l++m):=by unfold nV;rw[dj]
theorem As {a:de}{o:HO}(s:Ah H H1)(h:H a=none):Ah H (upd H1 a o):=λb u e=>by
 rw[Ai (Aj e h)];exact s _ _ e
theorem Gg {K:c7}:kitOne K (.type "list") (.type "list")=some true:=by rfl
theorem Wx {l:List Int}{i:Nat}{n:Int}(h:l[i]?=some n):(l.map V.int)[i]?=some (.int n):=by
 rw[df,h];rfl
theorem Ru {l:List Int}{i:Nat}{x:V}(h:(l.map V.int)[i]?=some x):∃n,l[i]?=some n/\x=.int n:=by
 rw[df] at h
 cases e:l[i]? with
 |none=>rw[e] at h;cases h
 |some n=>
  rw[e] at h;exact⟨n,rfl,(dh h).symm⟩
theorem J0 {l:List Int}{m:Nat}{x:Int}(h0:0<m)(h:l[m-1]?=some x):atI ((l.take m).map V.int) (-1)=some (.int x):=by
 have hm:=B0 h;have e:l.take m=l.take (m-1)++[x]:=by
  rw[show m=m-1+1 by lia,gn,h];rfl
 rw[e,dj];exact Xu _ _
theorem Gy {l:List Int}{m:Nat}(h:m<=l.length):((l.take m).map V.int).length=m:=by rw[c5,eg];lia
theorem M5 {l:List Int}{m:Nat}(h:m<=l.length):((l.take m).map V.int).dropLast=(l.take (m-1)).map V.int:=by
 rw[<-List.map_dropLast,List.dropLast_eq_take,DJ,eg];congr 2;lia
def T4 (H:Hp)(p:de):Nat:=match H p with|some (.lst xs)=>xs.length|_=>0
theorem E3 {p:de}(h:H p=some (.lst xs)):T4 H p=xs.length:=by unfold T4;rw[h]
theorem Wq {K:c7}{Q:VK}{p:de}{ls:List (Za5)}(hl:H1 p=some (.lst (ls.map λl=>.str (Ar l))))(hz:ls.flatten.length<=100000)(q:Q (.str (Ar ls.flatten)) H1):oO K (.str "") [.ref p] H1 Q:=by
 refine⟨"",p,ls.map Ar,rfl,rfl,SqL.of ?_,?_,?_⟩
 ·rw[hl,gu]
  rfl
 ·have e:((ls.map Ar).map (·.length)).sum=ls.flatten.length:=by
   rw[List.length_flatten,gu];congr 1;refine ii λl _=>?_;exact A0 l
  rw[e];show ls.flatten.length+_*0<=_;lia
 ·have e:qx ("":Str) (ls.map Ar)=Ar ls.flatten:=by
   refine Fh ?_;rw[Ks,gu];show((ls.map λl=>(l.map λb=>if b then 49 else 48).toArray.toList)).flatten=(ls.flatten.map _).toArray.toList;simp only[jf];rw[List.map_flatten]
  rw[e];exact q
theorem Kw {ds:Za4}(h:Dok ds):∀k,k<=ds.length->opn ds k<=k
 |0,_=>c9 _
 |k+1,hk=>by
  show dAt ds k+1<=k+1;have:=h k (by lia);have:=Kw h k (by lia);lia
theorem Ii {ds:Za4}{d j:Nat}(h:j<ds.length):dAt (ds++[d]) j=dAt ds j:=by
 unfold dAt ju;rw[eh h]
theorem L8 (ds:Za4)(d:Nat):dAt (ds++[d]) ds.length=d:=by
 unfold dAt ju;rw[dq (c9 _),jx];rfl
theorem K7 {ds:Za4}{d:Nat}:∀k,k<=ds.length->opn (ds++[d]) k=opn ds k
 |0,_=>rfl
 |k+1,h=>by
  show dAt (ds++[d]) k+1=dAt ds k+1;rw[Ii (by lia)]
theorem Lq {ds:Za4}{d:Nat}:∀k,k<=ds.length->way (ds++[d]) k=way ds k
 |0,_=>rfl
 |k+1,h=>by
  show(way (ds++[d]) k).take (dAt (ds++[d]) k+1)++[(k:Int)]=_;rw[Lq k (by lia),Ii (by lia)];rfl
theorem Wk {ds:Za4}{d:Nat}(h:Dok ds)(hd:d<=opn ds ds.length):Dok (ds++[d]):=λk hk=>by
 rw[c8] at hk;simp only[f9,jm] at hk
 by_cases e:k=ds.length
 ·subst e
  rw[L8,K7 _ (c9 _)];exact hd
 ·rw[Ii (by lia),K7 k (by lia)]
  exact h k (by lia)
theorem Tt (ds:Za4)(d:Nat):Ee (ds++[d])=Ee ds++[(way ds ds.length).getD d 0]:=by
 unfold Ee;rw[c8];show(di (ds.length+1)).map _=_;rw[ik,dj];congr 1
 ·refine ii λk hk=>?_
  have hk:=io.mp hk;unfold eld;rw[Lq k (by lia),Ii hk]
 ·show[eld (ds++[d]) ds.length]=_
  unfold eld;rw[Lq _ (c9 _),L8]
theorem Xp (ds:Za4)(d:Nat):way (ds++[d]) (ds.length+1)=(way ds ds.length).take (d+1)++[(ds.length:Int)]:=by
 show(way (ds++[d]) ds.length).take (dAt (ds++[d]) ds.length+1)++_=_;rw[Lq _ (c9 _),L8]
theorem Xl {ds:Za4}(h:Dok ds){k:Nat}(hk:k<=ds.length):way ds k=-1::(way ds k).tail:=by
 have e:=L1 h k hk
 cases hw:way ds k with
 |nil=>rw[hw] at e;cases e
 |cons x r=>
  rw[hw] at e;obtain rfl:=dh e;rfl
def isS:V->Bool
 |.str _=>true
 |_=>false
def Mh (K:c7)(H:Hp)(x:V):Prop:=∃t,Ih K H x t/\kitOne K t (.type "str")=some (isS x)
section
variable {K:c7} {H H':Hp}
theorem kH (i:Int):Mh K H (.int i):=⟨_,.int i,by rfl⟩
theorem sP (b:Bool):Mh K H (.bl b):=⟨_,.bl b,by rfl⟩
theorem mU:Mh K H .non:=⟨_,.non,by rfl⟩
theorem Ri (z:Str):Mh K H (.str z):=⟨_,.str z,by rfl⟩
theorem lE {a:de}(h:H a=some (.tup xs)):Mh K H (.ref a):=⟨_,.tup h,by rfl⟩
theorem lH {a:de}(h:H a=some (.lst xs)):Mh K H (.ref a):=⟨_,.lst h,by rfl⟩
theorem mM {a:de}{xs:List (Key×V)}(h:H a=some (.dK xs)):Mh K H (.ref a):=⟨_,.dK h,by rfl⟩
theorem Mh.same {x:V}(s:Ah H H')(h:Mh K H x):Mh K H' x:=let ⟨t,h1,r⟩:=h;⟨t,Ih.same s h1,r⟩
end
def hgt (l:Za5)(i:Nat):Int:=2*((l.take i).count true:Int)-i
theorem K8 {l:Za5}{i:Nat}{b:Bool}(h:l[i]?=some b):hgt l (i+1)=hgt l i+if b then 1 else -1:=by
 unfold hgt;rw[gn,h,vx];cases b<;>simp<;>lia
theorem Ts {ds:Za4}{d:Nat}:∀k,k<=ds.length->P6 (ds++[d]) k=P6 ds k
 |0,_=>rfl
 |k+1,h=>by
  rw[Jo,Jo,Ts k (by lia)];unfold Bq;rw[K7 k (by lia),Ii (by lia)]
theorem Ju {row:Za5}{i:Nat}{b:Bool}(h:row[i]?=some b):row.drop i=b::row.drop (i+1):=by
 have hi:=B0 h;rw[jz hi];rw[c6 hi] at h;rw[dh h]
theorem Xn {row:Za5}(hv:Vs 0 row):∀i,i<=row.length->∃h:Nat,hgt row i=(h:Int)/\Vs h (row.drop i)/\True
 |0,_=>⟨0,rfl,hv,trivial⟩
 |i+1,hi=>by
  obtain⟨h,h1,h2,_⟩:=Xn hv i (by lia);obtain⟨b,hb⟩:∃b,row[i]?=some b:=⟨row[i],c6 (by lia)⟩;have hs:=K8 hb;rw[Ju hb] at h2
  cases b with
  |false=>
   obtain⟨g,rfl⟩:∃g,h=g+1:=⟨h-1,by have:=h2.1;lia⟩;have hs:hgt row (i+1)=hgt row i + -1:=hs;exact⟨g,by lia,h2.2,trivial⟩
  |true=>
   have hs:hgt row (i+1)=hgt row i+1:=hs;exact⟨h+1,by lia,h2,trivial⟩
structure Ot (H H':Hp):Prop where
 keep:∀b u,(∀ps,u≠.tbl ps)->H b=some u->H' b=some u
 tb:∀b ps,H b=some (.tbl ps)->∃ps',H' b=some (.tbl ps')
theorem Ot.trans (a:Ot H H1)(b:Ot H1 H2):Ot H H2:=⟨λc u n e=>b.keep c u n (a.keep c u n e),λc ps e=>let ⟨ps',e'⟩:=a.tb c ps e;b.tb c ps' e'⟩
theorem lW (s:Ah H H'):Ot H H':=⟨λb u _ e=>s b u e,λb ps e=>⟨ps,s b _ e⟩⟩
structure Tb where
 P:de
 pos:Pos
 qual:Str
def Tb.ok (t:Tb)(H:Hp):Prop:=Xe H t.P t.pos t.qual
theorem Tb.same {t:Tb}(s:Ah H H')(h:t.ok H):t.ok H':=by
 obtain⟨ps,e1,e2,e3⟩:=h;exact⟨ps,s _ _ e1,e2,e3.imp id λ⟨c,oc,a1,a2,a3⟩=>⟨c,oc,a1,s _ _ a2,a3⟩⟩
theorem Tb.sameX {t:Tb}{P:de}(s:W4 P H H')(hP:∃ps,H P=some (.tbl ps))(n:t.P≠P)(h:t.ok H):t.ok H':=by
 obtain⟨ps,e1,e2,e3⟩:=h;obtain⟨ps',hP⟩:=hP;exact⟨ps,s _ _ n e1,e2,e3.imp id λ⟨c,oc,a1,a2,a3⟩=>⟨c,oc,a1,s _ _ (λz=>by rw[z,hP] at a2;cases a2) a2,a3⟩⟩
theorem qA {P:de}(s:W4 P H H')(hP:∃ps,H P=some (.tbl ps))(hP':∃ps,H' P=some (.tbl ps)):Ot H H':=by
 refine⟨λb u n e=>s b u (λz=>?_) e,λb ps e=>?_⟩
 ·obtain⟨ps,hP⟩:=hP
  rw[z,hP] at e;cases e;exact n ps rfl
 ·by_cases hb:b=P
  ·rw[hb];exact hP'
  ·exact⟨ps,s b _ hb e⟩
theorem Tb.tbl {t:Tb}(h:t.ok H):∃ps,H t.P=some (.tbl ps):=let ⟨ps,e,_⟩:=h;⟨ps,e⟩
def Tbs (ts:List Tb)(H:Hp):Prop:=(∀t∈ts,t.ok H)/\(ts.map (·.P)).Nodup
structure SmT (ts:List Tb) (H H':Hp):Prop where
 sm:Ot H H'
 ok:Tbs ts H'
theorem Tbs.same {ts:List Tb}(h:Tbs ts H)(s:Ah H H'):Tbs ts H':=⟨λt ht=>Tb.same s (h.1 t ht),h.2⟩
theorem SmT.of {ts:List Tb}(h:Tbs ts H)(s:Ah H H'):SmT ts H H':=⟨lW s,h.same s⟩
theorem SmT.trans {ts:List Tb}(a:SmT ts H H1)(b:SmT ts H1 H2):SmT ts H H2:=⟨a.sm.trans b.sm,b.ok⟩
theorem SmT.then {ts:List Tb}(a:SmT ts H H1)(b:Ah H1 H2):SmT ts H H2:=a.trans (.of a.ok b)
theorem SmT.k {ts:List Tb}(s:SmT ts H H'){b:de}{u:HO}(h:H b=some u)(n:∀ps,u≠.tbl ps:=by intro ps e;cases e):H' b=some u:=s.sm.keep _ _ n h
theorem oK:∀{ts:List Tb} {t u:Tb},(ts.map (·.P)).Nodup->t∈ts->u∈ts->t.P=u.P->t=u
 |[],_,_,_,h,_,_=>nomatch h
 |x::r,t,u,hn,ht,hu,e=>by
  rw[fm,nq] at hn;rcases gr.mp ht with rfl|ht'<;>rcases gr.mp hu with rfl|hu'
  ·rfl
  ·exact absurd (ka (f:=(·.P)) hu') (by rw[<-e];exact hn.1)
  ·exact absurd (ka (f:=(·.P)) ht') (by rw[e];exact hn.1)
  ·exact oK hn.2 ht' hu' e
theorem Aaf {ts:List Tb}{t:Tb}(h:Tbs ts H)(ht:t∈ts)(s:W4 t.P H H')(ok:t.ok H'):SmT ts H H':=by
 have hP:=Tb.tbl (h.1 t ht);refine⟨qA s hP (Tb.tbl ok),λu hu=>?_,h.2⟩
 by_cases e:u.P=t.P
 ·have:u=t:=oK h.2 hu ht e
  rw[this];exact ok
 ·exact Tb.sameX s hP e (h.1 u hu)
def zO (xs:List V)(k:Nat):Prop:=∃n:Nat,xs[k]?=some (.int n)/\n<xs.length/\∀j,j<k->xs[j]?≠some (.int n)
def tG (xs:List V):Prop:=∀j,j<xs.length->zO xs j
def Met (xs:List V)(k:Nat)(ms:Za5):Prop:=ms.length=xs.length/\∀(i:Nat) b,ms[i]?=some b->(b=true↔∃j,j<k/\xs[j]?=some (.int i))
theorem oZ (xs:List V):Met xs 0 (dy xs.length false):=by
 refine⟨ko,λi b h=>?_⟩;rw[rn] at h;split at h
 ·cases h
  exact⟨λz=>by(cases z),λ⟨j,hj,_⟩=>absurd hj (t8 _)⟩
 ·cases h
theorem oE {k:Nat}(h:Met xs k ms)(hk:xs[k]?=some (.int n)):Met xs (k+1) (ms.set n true):=by
 refine⟨by rw[xh];exact h.1,λi b hb=>?_⟩;rw[BO] at hb
 by_cases e:n=i
 ·rw[if_pos e] at hb
  split at hb
  ·cases hb
   exact⟨λ_=>⟨k,se _,by rw[hk,e]⟩,λ_=>rfl⟩
  ·cases hb
 ·rw[if_neg e] at hb
  rw[h.2 i b hb]
  constructor
  ·rintro⟨j,hj,hx⟩
   exact⟨j,by lia,hx⟩
  ·rintro⟨j,hj,hx⟩
   rcases ly (wf hj) with h1|h1
   ·exact⟨j,h1,hx⟩
   ·rw[h1,hk] at hx
    have:=V.int.inj (dh hx);lia
theorem kO (ms:Za5)(n:Nat)(b:Bool):(ms.map V.bl).set n (.bl b)=(ms.set n b).map V.bl:=by rw[List.map_set]
theorem jO (n:Nat):(dy n [V.bl false]).flatten=(dy n false).map V.bl:=by
 induction n with
 |zero=>rfl
 |succ n ih=>rw[gw,ip,ih,gw];rfl
theorem sX {i:Nat}{b:Bool}(h:ms[i]?=some b):(ms.map V.bl)[i]?=some (.bl b):=by
 rw[df,h];rfl
abbrev kvJ (J:List (Nat×Nat)):List (Key×V):=J.map λp=>((qi (p.1:Int):Key),V.int p.2)
theorem On (x:Nat):∀J:List (Nat×Nat),B9 (kvJ J) (.inl (x:Int))=(look J x).map λq:Nat=>V.int q
 |[]=>rfl
 |p::J=>by
  have ih:=On x J;rw[show kvJ (p::J)=((qi (p.1:Int):Key),V.int p.2)::kvJ J from rfl]
  by_cases e:p.1=x
  ·rw[C4 (by rw[e])]
   unfold look;rw[l7,decide_eq_true e];rfl
  ·rw[C5 (λz=>e (by have:=DG z;lia)),ih]
   unfold look;rw[l7,decide_eq_false e]
theorem Y6 (J:List (Nat×Nat))(x:Nat):(B9 (kvJ J) (.inl (x:Int))).isSome=(look J x).isSome:=by rw[On,Option.isSome_map]
theorem dQ {J:List (Nat×Nat)}{k v:Nat}(h:k∉J.map (·.1)):Ey (kvJ J) (.inl (k:Int)) (.int v)=kvJ (J++[(k,v)]):=by
 rw[oN _ (by rw[On,S3 h];rfl)];show _=qt _ _;rw[dj];rfl
theorem Tm:∀ (B A:List (Nat×Nat)),((A++B).map (·.1)).Nodup->Il (kvJ A) (kvJ B)=kvJ (A++B)
  | [], A, _ => by rw [gd]; rfl
  | (k, v) :: B, A, h => by
    have hk : k ∉ A.map (·.1) := λhm => by
      rw [dj, md] at h;exact h.2.2 k hm k (by simp) rfl
    show Il (Ey (kvJ A) (.inl (k : Int)) (.int v)) (kvJ B) = _;rw [dQ hk, Tm B (A ++ [(k, v)]) (by rw [du]; exact h), du];rfl
theorem eW:∀(ks ys:Za4) (A:List (Nat×Nat)),(A.map (·.1)++ks).Nodup->ks.length=ys.length->N3 (kvJ A) (ks.map λn:Nat=>(n:Int)) (nV ys)=kvJ (A++ks.zip ys)
 |[],_,A,_,_=>by rw[BN,gd];rfl
 |k::ks,[],A,_,h=>by cases h
 |k::ks,y::ys,A,h,hl=>by
  have hk:k∉A.map (·.1):=λhm=>by
   rw[md] at h;exact h.2.2 k hm k (by simp) rfl
  show N3 (Ey (kvJ A) (.inl (k:Int)) (.int y)) (ks.map λn:Nat=>(n:Int)) (nV ys)=_;rw[dQ hk,eW ks ys (A++[(k,y)]) (by rw[dj,du];exact h) (rb hl),du];rfl
theorem fH {α β:Type}{f:α->Option β}{g:α->β}:∀{l:List α},(∀x∈l,f x=some (g x))->l.filterMap f=l.map g
 |[],_=>rfl
 |x::l,h=>by
  rw[jg,h x f7,fm];show g x::l.filterMap f=_;rw[fH λy hy=>h y (ge _ hy)]
theorem rN {st:Nat}(hs:0<st)(R:Za4):lC st (nV R)=nV (Do st R):=by
 unfold lC Do;rw[AU,c5,fH (g:=λk=>V.int (R[k*st]?.getD 0:Nat)) λk hk=>?_]
 ·rw[show nV ((di ((R.length+st-1)/st)).map λk=>R[k*st]?.getD 0)=((di ((R.length+st-1)/st)).map λk=>R[k*st]?.getD 0).map (λn:Nat=>V.int n) from rfl,gu]
  rfl
 ·have hl:=(Fz hs).mp (io.mp hk)
  show(R.map λn:Nat=>V.int n)[k*st]?=_;rw[df,c6 hl];rfl
theorem jR (xs:List V):Gj xs (some (-1)) none=xs.drop (xs.length-1):=by
 have e:(if(-1:Int)<0 then((-1:Int)+(xs.length:Int)).toNat else min (-1:Int).toNat xs.length)=xs.length-1:=by rw[if_pos (by decide)];lia
 show ql (xs.length-(if(-1:Int)<0 then((-1:Int)+(xs.length:Int)).toNat else min (-1:Int).toNat xs.length)) (qm (if(-1:Int)<0 then((-1:Int)+(xs.length:Int)).toNat else min (-1:Int).toNat xs.length) xs)=_;rw[e,ej (by rw[gh];lia)]
theorem pC (xs:List V):Gj xs none (some (-1))=xs.take (xs.length-1):=by
 have e:(if(-1:Int)<0 then((-1:Int)+(xs.length:Int)).toNat else min (-1:Int).toNat xs.length)=xs.length-1:=by rw[if_pos (by decide)];lia
 show ql ((if(-1:Int)<0 then((-1:Int)+(xs.length:Int)).toNat else min (-1:Int).toNat xs.length)-0) (qm 0 xs)=_;rw[e,ox,mj]
theorem fV (l:Za4):Gj (nV l) (some (-1)) none++Gj (nV l) none (some (-1))=nV (rot l):=by
 rw[jR,pC,c5];unfold rot;show _=qt _ _;rw[dj,pj,nh]
theorem vN {a b:Nat}:V.int (a:Int)=V.int (b:Int)↔a=b:=⟨λh=>by have:=V.int.inj h;lia,λh=>by rw[h]⟩
theorem Ho (l:Za4)(n:Nat):nV l++[V.int n]=nV (l++[n]):=by
 show _=qt _ _;rw[dj];rfl
theorem sR {x:Nat}(h:x<ns.length):(nV ns)[x]?=some (.int (nx ns x)):=Pu (Xr h)
def J8 (H:Hp)(rs:List de)(Rs:List (Za4)):Prop:=rs.length=Rs.length/\∀(i:Nat) r R,rs[i]?=some r->Rs[i]?=some R->H r=some (.lst (nV R))
theorem J8.same {rs:List de}{Rs:List (Za4)}(h:J8 H rs Rs)(s:Ah H H'):J8 H' rs Rs:=⟨h.1,λi r R e1 e2=>s _ _ (h.2 i r R e1 e2)⟩
theorem J8.upd {rs:List de}{Rs:List (Za4)}{a:de}{o:HO}(h:J8 H rs Rs)(hn:∀r∈rs,r≠a):J8 (upd H a o) rs Rs:=⟨h.1,λi r R e1 e2=>by
 rw[Ai (hn r (e6 e1))];exact h.2 i r R e1 e2⟩
theorem J8.is {rs:List de}{Rs:List (Za4)}(h:J8 H rs Rs){r:de}(hr:r∈rs):∃R∈Rs,H r=some (.lst (nV R)):=by
 obtain⟨i,hi⟩:=jt hr;have hl:=(dk.mp hi).1;rw[h.1] at hl;exact⟨Rs[i],mv hl,h.2 i r _ hi (c6 hl)⟩
theorem J8.snoc {rs:List de}{Rs:List (Za4)}{a:de}{R:Za4}(h:J8 H rs Rs)(ha:H a=some (.lst (nV R))):J8 H (rs++[a]) (Rs++[R]):=by
 refine⟨by rw[c8,c8,h.1];rfl,λi r R' e1 e2=>?_⟩
 by_cases hi:i<rs.length
 ·rw[eh hi] at e1
  rw[eh (by rw[<-h.1];exact hi)] at e2;exact h.2 i r R' e1 e2
 ·rw[dq (by lia)] at e1
  rw[dq (by rw[<-h.1];lia),<-h.1] at e2;have hl:=(dk.mp e1).1;have e0:i-rs.length=0:=by simp at hl;lia
  rw[e0] at e1 e2;cases e1;cases e2;exact ha
theorem Tbs.keepN {ts:List Tb}{p:de}{o o':HO}(h:Tbs ts H)(hp:H p=some o')(nt:∀ps,o'≠.tbl ps:=by intro ps e;cases e)(nf:∀a b,o'≠.frz a b:=by intro a b e;cases e):Tbs ts (upd H p o):=by
 refine⟨λt ht=>?_,h.2⟩;obtain⟨ps,e1,e2,e3⟩:=h.1 t ht;exact⟨ps,by rw[Ai (λz=>by rw[z,hp] at e1;exact nt _ (dh e1))];exact e1,e2,e3.imp id λ⟨c,oc,a1,a2,a3⟩=>⟨c,oc,a1,by rw[Ai (λz=>by rw[z,hp] at a2;exact nf _ _ (dh a2))];exact a2,a3⟩⟩
structure SmB (ts:List Tb) (x:de) (H H':Hp):Prop where
 keep:∀b u,b≠x->(∀ps,u≠.tbl ps)->H b=some u->H' b=some u
 tb:∀b ps,H b=some (.tbl ps)->∃ps',H' b=some (.tbl ps')
 ok:Tbs ts H'
theorem SmB.k {ts:List Tb}{x:de}(s:SmB ts x H H'){b:de}{u:HO}(h:H b=some u)(ne:b≠x)(n:∀ps,u≠.tbl ps:=by intro ps e;cases e):H' b=some u:=s.keep _ _ ne n h
theorem SmB.refl {ts:List Tb}{x:de}(h:Tbs ts H):SmB ts x H H:=⟨λ_ _ _ _ e=>e,λ_ ps e=>⟨ps,e⟩,h⟩
theorem SmB.trans {ts:List Tb}{x:de}(a:SmB ts x H H1)(b:SmB ts x H1 H2):SmB ts x H H2:=⟨λc u n1 n2 e=>b.keep c u n1 n2 (a.keep c u n1 n2 e),λc ps e=>let ⟨ps',e'⟩:=a.tb c ps e;b.tb c ps' e',b.ok⟩
theorem SmB.sm {ts:List Tb}{x:de}(a:SmB ts x H H1)(b:SmT ts H1 H2):SmB ts x H H2:=a.trans ⟨λc u _ n e=>b.sm.keep c u n e,b.sm.tb,b.ok⟩
theorem SmB.then {ts:List Tb}{x:de}(a:SmB ts x H H1)(b:Ah H1 H2):SmB ts x H H2:=a.sm (.of a.ok b)
theorem SmB.put {ts:List Tb}{x:de}{o o':HO}(a:SmB ts x H H1)(hx:H1 x=some o)(nt:∀ps,o≠.tbl ps:=by intro ps e;cases e)(nf:∀a b,o≠.frz a b:=by intro a b e;cases e):SmB ts x H (upd H1 x o'):=by
 refine a.trans ⟨λb u n _ e=>by rw[Ai n];exact e,λb ps e=>⟨ps,?_⟩,a.ok.keepN hx nt nf⟩;rw[Ai (λz=>by rw[z,hx] at e;exact nt _ (dh e))];exact e
theorem Jt {K:c7}{ts:List Tb}{x:de}{fs:List (Str×V)}{f:Str}{R:Hp->Prop}(h:H x=some (.ins C dx fs))(c:Cls K C)(n:Ba K C f)(l:fs.length<1000)(b:SmB ts x H0 H)(q:∀H',H' x=some (.ins C dx (Ek f y fs))->SmB ts x H0 H'->SmB ts x H H'->R H') :
  ∃a' C' dx' fs',V.ref x=.ref a'/\H a'=some (.ins C' dx' fs')/\Cls K C'/\Ba K C' f/\fs'.length<1000/\R (upd H a' (.ins C' dx' (Ek f y fs'))):=
 ⟨x,C,dx,fs,rfl,h,c,n,l,q _ Ac (b.put h) ((SmB.refl b.ok).put h)⟩
theorem SmB.made {ts:List Tb}{x:de}(hx:H x=none)(hdx:H dx=none)(s:SmB ts x (upd (upd H dx (.own x)) x (.ins C dx [])) H'):SmT ts H H':=by
 have kp:∀b u,H b=some u->b≠x/\upd (upd H dx (.own x)) x (.ins C dx []) b=some u:=λb u e=>by
  have e1:b≠x:=Aj e hx;have e2:b≠dx:=Aj e hdx;exact⟨e1,by rw[Ai e1,Ai e2];exact e⟩
 exact⟨⟨λb u n e=>s.keep b u (kp b u e).1 n (kp b u e).2,λb ps e=>s.tb b ps (kp b _ e).2⟩,s.ok⟩
theorem SmB.free {ts:List Tb}{x:de}{o:HO}(s:SmB ts x H H')(hx:H' x=some o)(e:H' d=none):H d=none:=by
 cases q:H d with
 |none=>rfl
 |some u=>
  by_cases hu:∃ps,u=.tbl ps
  ·obtain⟨ps,rfl⟩:=hu
   obtain⟨ps',e2⟩:=s.tb d ps q;rw[e2] at e;cases e
  ·by_cases hdx:d=x
   ·rw[hdx,hx] at e;cases e
   ·rw[s.keep d u hdx (λps z=>hu ⟨ps,z⟩) q] at e;cases e
def Kp (H H':Hp):Prop:=∀b u,(∀ps,u≠HO.tbl ps)->H b=some u->H' b=some u
theorem Ah.kp (s:Ah H H'):Kp H H':=λb u _ e=>s b u e
theorem SmT.kp {ts:List Tb}(s:SmT ts H H'):Kp H H':=λb u n e=>s.sm.keep b u n e
theorem Kp.k (s:Kp H H'){b:de}{u:HO}(h:H b=some u)(n:∀ps,u≠.tbl ps:=by intro ps e;cases e):H' b=some u:=s b u n h
def Hm (e:de)(H:Hp):Hp:=λb=>if b=e then none else H b
theorem Ld {e b:de}(h:b≠e):Hm e H b=H b:=if_neg h
theorem sG {e:de}:Kp (Hm e H) H:=λb u n h=>by
 unfold Hm at h;split at h
 ·cases h
 ·exact h
theorem Uv {e b:de}{u:HO}(h:Hm e H b=some u):b≠e/\H b=some u:=by
 unfold Hm at h;split at h
 ·cases h
 ·rename_i hb
  exact⟨hb,h⟩
theorem Je {x:de}{o o':HO}(hx:H1 x=none)(hd:H1 dx=none):Ah H1 (upd (upd H1 dx o) x o'):=λb u e=>by rw[Ai (Aj e hx),Ai (Aj e hd)];exact e
inductive dZ (K:c7)(ts:List Tb)(vs:List V)(H:Hp)(Q:VK)(E:XK):Prop|mk(a:de)(ns:List Int)(_:vs=[.ref a])(_:SqL K H a (ns.map V.int))(_:ns.length<=63)(_:Tbs ts H)(_:∀H',Q (.bl true) H')
abbrev tz:List Tb:=[⟨553,Ik,"Named.__init__.<locals>.<lambda>"⟩]
abbrev AllMk:Prop:=∀{l:v9} {w:gl} {K:c7} {h:iq} {mg:Za2} {fa:de} (X:K.In h) (G:h.Ns mainGlobals mg) (hfa:mg "law"=some (.ref fa))
  {ac:de}
  {ab:de}
  {ad:de}
  {af:de}
  {aa:de}
  {ae:de}
  {aF:de}
  {aG:de}
  {f24:de} {od24 an24:Option de} {sl24:Array (Za7)} {oc24 kV24 dc24 pm24 cd24 ct24:dr}
  {T24:de} {oT24:Obj} {vT24:dr} {nT24:Nat}
  {f50:de} {od50 an50:Option de} {sl50:Array (Za7)} {oc50 kV50 dc50 pm50 ct50:dr}
  {oo50:Obj}
  {ao:de} {o_ONES_OF_FOUR:Obj} {i_ONES_OF_FOUR:Array dr} {n_ONES_OF_FOUR:Nat}
  {ap:de} {o_SIGNS_OF_FOUR:Obj} {i_SIGNS_OF_FOUR:Array dr} {n_SIGNS_OF_FOUR:Nat}
  {t_WORD_BITS:Tok}
  {t_MOST_BITS:Tok}
  {t_BLOCK_WORDS:Tok}
  {t_MOST_SIGNS_pairs:Tok}
  {t_STRETCH_BITS:Tok}
  {t_MOST_KNOTS:Tok}
  {t_MOST_SIGNS_woods:Tok}
  {t_MOST_LETTERS:Tok}
  {t_LETTERS:Tok}
  (cd_Bits:CD K ac "Bits")
  (fd_Bits:FD K ac ["length","many_ones","kept_words"])
  (cd_Counts:CD K ab "Counts")
  (fd_Counts:FD K ab ["length","kept_words","kept_table"])
  (cd_Shortcuts:CD K ad "Shortcuts")
  (fd_Shortcuts:FD K ad ["onward","leaps"])
  (cd_Named:CD K af "Named")
  (fd_Named:FD K af ["kept_wood","places","begins","kept_stretches","spans","namesakes"])
  (cd_Pairs:CD K aa "Pairs")
  (fd_Pairs:FD K aa ["bits","counts","length","kept_table","often_least"])
  (cd_Opened:CD K ae "Opened")
  (fd_Opened:FD K ae ["pairs"])
  (bc_Heights:BC K aF "Heights")
  (bc_Openings:BC K aG "Openings")
  (g0:GD K "is_whole" Kx)
  (g1:GD K "is_within" Jf)
  (g2:GD K "check_bit" Is)
  (g3:GD K "check_place" Gn)
  (g4:GD K "check_stretch" E9)
  (g5:GD K "check_knot" Hl)
  (g6:GD K "ones_in" Mj)
  (g7:GD K "is_row" Pc)
  (g8:GD K "word_of" M3)
  (g9:GD K "words_of" Hw)
  (g10:GD K "signs_of" Hv)
  (g11:MD K ac "__init__" "Bits.__init__" Ja)
  (g12:MD K ac "size" "Bits.size" Ir)
  (g13:MD K ac "words" "Bits.words" Hq)
  (g14:MD K ac "stretch" "Bits.stretch" Ea)
  (g15:GD K "running_sums" Fm)
  (g16:GD K "table_of_words" Ch)
  (g17:MD K ab "__init__" "Counts.__init__" Gk)
  (g18:MD K ab "ones_ahead" "Counts.ones_ahead" Dh)
  (g19:MD K ab "ahead" "Counts.ahead" Fn)
  (g20:GD K "begins_of" F6)
  (g21:GD K "check_order" Gm)
  (g22:GD K "rounds_of" Iv)
  (g23:GD K "shortcuts_of" F4)
  (i24:rf K (.ref f24)=true)
  (a24:jh K (.ref ad) "__init__"=some (some (.ref f24))) (l24:K.lookup f24=some ⟨oc24,od24,.func (ir "__init__" "Shortcuts.__init__" (Bs Br) (Bi Br) (Ad Br) (.ref T24) kV24 dc24 pm24 an24 cd24 ct24),sl24⟩) (c24:kf K cd24 "Shortcuts.__init__"=true) (k24:j6 K (.ref f24)=true)
  (lT24:K.lookup T24=some oT24) (dT24:oT24.data=.seq #[vT24] nT24)
  (eT24:A8 (.int 16) vT24)
  (g25:MD K ad "there" "Shortcuts.there" D6)
  (g26:MD K ad "way_back" "Shortcuts.way_back" C6)
  (g27:MD K ad "back" "Shortcuts.back" Ep)
  (g28:GD K "heights_of" Hf)
  (g29:GD K "check_row" Jb)
  (g30:BD K aF "__init__" "Heights.__init__" F1)
  (g31:MD K aa "opens_ahead" "Pairs.opens_ahead" Dg)
  (g32:MD K aa "height" "Heights.height" Et)
  (g33:MD K aa "stretch" "Pairs.stretch" Fa)
  (g34:MD K aa "size" "Heights.size" Fu)
  (g35:MD K aa "text" "Heights.text" Fs)
  (g36:MD K aa "__init__" "Pairs.__init__" Cp)
  (g37:GD K "look_at" M4)
  (g38:GD K "depths_of" Im)
  (g39:GD K "row_of" Pz)
  (g40:GD K "elders_of" Io)
  (g41:BD K aG "__init__" "Openings.__init__" Ff)
  (g42:MD K ae "__init__" "Opened.__init__" Gi)
  (g43:MD K ae "many_knots" "Openings.many_knots" Cy)
  (g44:MD K ae "row" "Openings.row" Fq)
  (g45:MD K ae "elders" "Openings.elders" Ej)
  (g46:GD K "is_name" Jq)
  (g47:GD K "check_names" Gh)
  (g48:GD K "stretches_of" C8)
  (g49:GD K "namesakes_above" Ei)
  (i50:rf K (.ref f50)=true)
  (a50:jh K (.ref af) "__init__"=some (some (.ref f50))) (l50:K.lookup f50=some ⟨oc50,od50,.func (ir "__init__" "Named.__init__" (Bs Cj) (Bi Cj) (Ad Cj) .none kV50 dc50 pm50 an50 (.ref 555) ct50),sl50⟩) (c50:kf K (.ref 555) "Named.__init__"=true) (k50:j6 K (.ref f50)=true)
  (lc50:K.lookup 555=some oo50) (hc50:Lm oo50 555 553)
  (g51:MD K af "knots_at" "Named.knots_at" Dd)
  (g52:MD K af "order" "Named.order" Gc)
  (g53:MD K af "stretches" "Named.stretches" Eg)
  (g54:MD K af "name_of" "Named.name_of" Fd)
  (g55:GD K "_law_cell_at" Gf)
  (g56:GD K "_law_whole" Ix)
  (g57:GD K "_law_mixed" Jg)
  (g58:GD K "_law_digits" Hu)
  (g59:GD K "_law_wood" Kj)
  (g60:GD K "_law_names" Dz)
  (g61:GD K "_law_stretches" Fb)
  (g62:GD K "_law_good" Dt)
  (g63:GD K "law" Py)
  (cm:gq K mainGlobals "ONES_OF_FOUR"=some (some (.ref ao))) (o1_ONES_OF_FOUR:K.lookup ao=some o_ONES_OF_FOUR) (o2_ONES_OF_FOUR:o_ONES_OF_FOUR.cls=.type "tuple") (o3_ONES_OF_FOUR:o_ONES_OF_FOUR.data=.seq i_ONES_OF_FOUR n_ONES_OF_FOUR) (o4_ONES_OF_FOUR:i_ONES_OF_FOUR.size<=sizeLine) (o5_ONES_OF_FOUR:Au (Sq.map λn:Nat=>V.int n) i_ONES_OF_FOUR.toList)
  (bY:gq K mainGlobals "SIGNS_OF_FOUR"=some (some (.ref ap))) (o1_SIGNS_OF_FOUR:K.lookup ap=some o_SIGNS_OF_FOUR) (o2_SIGNS_OF_FOUR:o_SIGNS_OF_FOUR.cls=.type "tuple") (o3_SIGNS_OF_FOUR:o_SIGNS_OF_FOUR.data=.seq i_SIGNS_OF_FOUR n_SIGNS_OF_FOUR) (o4_SIGNS_OF_FOUR:i_SIGNS_OF_FOUR.size<=sizeLine) (o5_SIGNS_OF_FOUR:Au (eN) i_SIGNS_OF_FOUR.toList)
  (bP:gq K mainGlobals "WORD_BITS"=some (some (.int 32 t_WORD_BITS)))
  (bZ:gq K mainGlobals "MOST_BITS"=some (some (.int 20000 t_MOST_BITS)))
  (bS:gq K mainGlobals "BLOCK_WORDS"=some (some (.int 8 t_BLOCK_WORDS)))
  (cj:gq K mainGlobals "MOST_SIGNS_pairs"=some (some (.int 8192 t_MOST_SIGNS_pairs)))
  (bV:gq K mainGlobals "STRETCH_BITS"=some (some (.int 256 t_STRETCH_BITS)))
  (ce:gq K mainGlobals "MOST_KNOTS"=some (some (.int 4000 t_MOST_KNOTS)))
  (cg:gq K mainGlobals "MOST_SIGNS_woods"=some (some (.int 8000 t_MOST_SIGNS_woods)))
  (ck:gq K mainGlobals "MOST_LETTERS"=some (some (.int 8 t_MOST_LETTERS)))
  (ci:gq K mainGlobals "LETTERS"=some (some (.str "abcdefghijklmnopqrstuvwxyz" t_LETTERS)))
  (z_range:gq K mainGlobals "range"=some none)
  (z_len:gq K mainGlobals "len"=some none)
  (z_int:gq K mainGlobals "int"=some none)
  (z_bool:gq K mainGlobals "bool"=some none)
  (z_str:gq K mainGlobals "str"=some none)
  (z_isinstance:gq K mainGlobals "isinstance"=some none)
  (z_list:gq K mainGlobals "list"=some none)
  (z_tuple:gq K mainGlobals "tuple"=some none)
  (z_dict:gq K mainGlobals "dict"=some none)
  (z_enumerate:gq K mainGlobals "enumerate"=some none)
  (z_zip:gq K mainGlobals "zip"=some none)
  (z_sum:gq K mainGlobals "sum"=some none)
  (z_abs:gq K mainGlobals "abs"=some none)
  (z_max:gq K mainGlobals "max"=some none)
  (z_min:gq K mainGlobals "min"=some none)
  (z_sorted:gq K mainGlobals "sorted"=some none)
  (z_all:gq K mainGlobals "all"=some none),
   ∃fd:i0,(∀(s:dv) (v:dr),zd s fd ⟨[v],[]⟩ [("_law_script",v)])/\∀base:iq,K.In base->base.Ns mainGlobals mg->(∀q∈([(555,553)]:List (de×de)),base.BuiltinsAt mg q.2)->Ax l.prog w K mg base CX0 12 fa fd ["_law_script"] (dZ K tz)
theorem walk {l:v9}{q:fi}{loose:Za6}{XP:(Za2)->iq->Prop}{YP:gl->iq->Prop}{d:HH}{K:yh->c7}(hn:l.most=some 63)(hdf:d.params.defaults=[])
  (hY:∀(w:gl) (h:iq),YP w h->(K w.params).In h)(hTb:∀(w:gl) (h:iq),YP w h->ww [(555,553)] h)(hTK:∀w:gl,∀p∈([(555,553)]:List (de×de)),(K w.params).lookup p.2=none)
  (F:∀(w:gl) (mg:Za2) (fa:de) (h:iq),(K w.params).In h->h.Ns mainGlobals mg->mg d.name=some (.ref fa) ->
   ∃fd:i0,(∀(s:dv) (u:dr),zd s fd ⟨[u],[]⟩ [("_law_script",u)])/\∀base:iq,(K w.params).In base->base.Ns mainGlobals mg->(∀q∈([(555,553)]:List (de×de)),base.BuiltinsAt mg q.2)->Ax l.prog w (K w.params) mg base CX0 12 fa fd ["_law_script"] (dZ (K w.params) tz)) :
  BY q loose XP YP l.row.toRowW d [] (λf vs=>z7 f vs):=
 L2.gU (n:=63) (k:=12) (x:="_law_script") (tabs:=[(555,553)]) (CX:=λ_=>CX0) (sp:=λw=>(dZ (K w.params) tz)) hn (by decide) hdf ⟨rfl,by decide,by decide⟩ hY hTb hTK F (λ_ _ a ns hl hO hS=>⟨a,ns,rfl,hS,hl,⟨gy.mpr ⟨⟨#[],hO (555,553) (by simp),trivial,.inl rfl⟩,λ_ h=>nomatch h⟩,by decide⟩,λ_=>rfl⟩) λ_ _ _ _ _ z=>z
end TK
end
section
noncomputable def PySem.W.Fast.tw6482423380915426290:DH:=gj
theorem PySem.W.Fast.te6482423380915426290:gj=PySem.W.Fast.tw6482423380915426290:=rfl
noncomputable def HD.loose:List BK:=[da "_wall",da "WoodError",da "NoBits",da "NoPlace",da "NoRow",da "NoWood",da "NoKnot",da "NoOrder",da "NoName",da "NoFit",da "is_whole",da "is_within",da "check_bit",da "check_place",da "check_stretch",da "check_from_nought",da "check_knot",da "WORD_BITS",da "FULL_WORD",da "ONES_OF_FOUR",da "ones_in",da "nth_of_four",da "nth_one",da "MOST_BITS",da "SIGNS_OF_FOUR",da "is_row",da "word_of",da "words_of",da "signs_of",da "Bits",da "BLOCK_WORDS",da "BLOCK_BITS",da "first_that",da "running_sums",da "table_of_words",da "Counts",da "begins_of",da "check_order",da "rounds_of",da "shortcuts_of",da "Shortcuts",da "LETTERS",da "MOST_LETTERS",da "is_name",da "check_names",da "stretches_of",da "namesakes_above",da "Named",da "heights_of",da "check_height",da "Heights",da "MOST_SIGNS_pairs",da "STRETCH_BITS",da "check_row",da "Pairs",da "MOST_KNOTS",da "MOST_SIGNS_woods",da "look_at",da "row_of",da "elders_of",da "depths_of",da "Wood",da "Openings",da "Opened",da "_law_cell_at",da "_law_whole",da "_law_mixed",da "_law_digits",da "_law_wood",da "_law_names",da "_law_stretches",da "_law_good"]
def HD.LD:PySem.DefRec:=HD.recOf (gj.main.body.getD 85 (.Pass ⟨0,0,0,0⟩))
def HD.VQ:DH:=PySem.W.view gj [85]
theorem HD.A_ok (w:EK):(λos=>HD.oneA (HD.bootT w os) (PySem.W.boot_heap w.params) HD.bootSize gj 100000 w)=(λ_=>some true):=by rw[HD.oneA_eq];kernel_rfl
theorem HD.B_ok (w:EK):(λos=>HD.oneB (HD.bootT w os) HD.bootSize gj HD.VQ HD.loose 100000 w)=(λ_=>some (PySem.W.openGood HD.VQ HD.loose)):=by rw[HD.oneB_eq];kernel_rfl
set_option hygiene false in
local macro_rules | `(tactic| o_head $H)=>`(tactic| (refine PySem.W.holds_open (q:=HD.VQ) (loose:=HD.loose) (d:=HD.LD) (kwd:=[]) (Xt:=λ_=>true) (XP:=λ_ _=>True) (Yf:=yq $H) (Ya:=yp $H) (YP:=FS $H) (N:=100000) (HD.left_of3 (p:=gj) (q:=HD.VQ) (loose:=HD.loose) (Yf:=yq $H) (Ya:=yp $H) (N:=100000) (M:=100000) (by kernel_rfl) (λ_=>by kernel_rfl) (by kernel_rfl) (by kernel_rfl) HD.A_ok HD.B_ok (HD.hC_km (λw=>by rw [HD.oneP_eq];kernel_rfl))) (FT $H) (FU $H) (λ_ _=>trivial) (λ_ _ _ _ _=>trivial) (by kernel_rfl) (by kernel_rfl) (by kernel_rfl) (λ_ _=>PySem.W.recFacts_nil rfl) rfl (by assumption) (by decide +kernel) ⟨rfl,rfl,rfl,rfl,rfl,by decide +kernel⟩ ?_ ?_))
open PySem PySem.W PyProof.Rows
set_option maxRecDepth 100000 in
set_option maxHeartbeats 0 in
theorem TK.HEAD (AM:TK.AllMk):kr.Holds:=by
 w_on;o_law;k_head
 ·w_witness2
 k_fill
 refine TK.walk (l:=kr) rfl (by kernel_rfl) (λw h Y=>z8 Y) (λw h Y=>gy.mpr ⟨⟨PySem.W.codeHd_of_K (c:=555) (P:=553) (z8 Y) (by kernel_rfl),PySem.W.km_tabs_of Y 553 (by simp)⟩,λ_ h=>nomatch h⟩) (λw=>gy.mpr ⟨by kernel_rfl,λ_ h=>nomatch h⟩) ?F
 case F=>
  intro w mg fa h KX G hmg;refine' AM KX G hmg ?cd_Bits ?fd_Bits ?cd_Counts ?fd_Counts ?cd_Shortcuts ?fd_Shortcuts ?cd_Named ?fd_Named ?cd_Pairs ?fd_Pairs ?cd_Opened ?fd_Opened ?bc_Heights ?bc_Openings ?g0 ?g1 ?g2 ?g3 ?g4 ?g5 ?g6 ?g7 ?g8 ?g9 ?g10 ?g11 ?g12 ?g13 ?g14 ?g15 ?g16 ?g17 ?g18 ?g19 ?g20 ?g21 ?g22 ?g23 ?i24 ?a24 ?l24 ?c24 ?k24 ?lT24 ?dT24 ?eT24 ?g25 ?g26 ?g27 ?g28 ?g29 ?g30 ?g31 ?g32 ?g33 ?g34 ?g35 ?g36 ?g37 ?g38 ?g39 ?g40 ?g41 ?g42 ?g43 ?g44 ?g45 ?g46 ?g47 ?g48 ?g49 ?i50 ?a50 ?l50 ?c50 ?k50 ?lc50 ?hc50 ?g51 ?g52 ?g53 ?g54 ?g55 ?g56 ?g57 ?g58 ?g59 ?g60 ?g61 ?g62 ?g63 ?cm ?o1_ONES_OF_FOUR ?o2_ONES_OF_FOUR ?o3_ONES_OF_FOUR ?o4_ONES_OF_FOUR ?o5_ONES_OF_FOUR ?bY ?o1_SIGNS_OF_FOUR ?o2_SIGNS_OF_FOUR ?o3_SIGNS_OF_FOUR ?o4_SIGNS_OF_FOUR ?o5_SIGNS_OF_FOUR ?bP ?bZ ?bS ?cj ?bV ?ce ?cg ?ck ?ci ?z_range ?z_len ?z_int ?z_bool ?z_str ?z_isinstance ?z_list ?z_tuple ?z_dict ?z_enumerate ?z_zip ?z_sum ?z_abs ?z_max ?z_min ?z_sorted ?z_all
  (case cd_Bits|cd_Counts|cd_Shortcuts|cd_Named|cd_Pairs|cd_Opened|bc_Heights|bc_Openings=>refine' ⟨?_,?_,?_⟩<;>try k_is)
  (case fd_Bits|fd_Counts|fd_Shortcuts|fd_Named|fd_Pairs|fd_Opened=>refine' L2.fD ?_ ?_ ?_ ?_ ?_<;>try first|k_is|kernel_rfl)
  (case g0|g1|g2|g3|g4|g5|g6|g7|g8|g9|g10|g15|g16|g20|g21|g22|g23|g28|g29|g37|g38|g39|g40|g46|g47|g48|g49|g55|g56|g57|g58|g59|g60|g61|g62|g63=>refine' L2.gD ?_ ?_ ?_ ?_<;>try k_is)
  (case g11|g12|g13|g14|g17|g18|g19|g25|g26|g27|g31|g32|g33|g34|g35|g36|g42|g43|g44|g45|g51|g52|g53|g54=>refine' L2.mD ?_ ?_ ?_ ?_ ?_<;>try k_is)
  (case g30|g41=>refine' L2.bD ?_ ?_ ?_ ?_<;>try k_is)
  (case bP|bZ|bS|cj|bV|ce|cg|ck|ci|z_range|z_len|z_int|z_bool|z_str|z_isinstance|z_list|z_tuple|z_dict|z_enumerate|z_zip|z_sum|z_abs|z_max|z_min|z_sorted|z_all|a24|l24|c24|k24|i24|lT24=>k_is)
  (case dT24=>rfl)
  (case eT24=>exact⟨_,rfl⟩)
  (case a50|l50|c50|k50|i50|lc50=>k_is)
  (case hc50=>exact⟨_,_,_,_,_,_,_,_,rfl,rfl,rfl,rfl,rfl,rfl,rfl,rfl,by decide⟩)
  (case cm|o1_ONES_OF_FOUR=>k_is)
  (case o2_ONES_OF_FOUR=>rfl);(case o3_ONES_OF_FOUR=>rfl);(case o4_ONES_OF_FOUR=>decide);(case o5_ONES_OF_FOUR=>repeat (first|exact .nil|refine .cons ⟨_,rfl⟩ ?_))
  (case bY|o1_SIGNS_OF_FOUR=>k_is)
  (case o2_SIGNS_OF_FOUR=>rfl);(case o3_SIGNS_OF_FOUR=>rfl);(case o4_SIGNS_OF_FOUR=>decide);(case o5_SIGNS_OF_FOUR=>repeat (first|exact .nil|refine .cons ⟨_,rfl⟩ ?_))
end
section
set_option hygiene false in
local macro_rules | `(tactic| exists $x)=>`(tactic| (refine $x (λvs H Q E h=>?_) (λcdv A outer s H vs Q E hr h=>?_);focus(first|(cases h;subst_vars;rfl)|(obtain⟨_,h⟩:=h;cases h;subst_vars;rfl))))
set_option hygiene false in
local macro_rules | `(tactic| walk_at "rd")=>`(tactic| repeat (first | (with_reducible first|refine yK ?_|refine vA ?_|refine xX ?_|refine qK ?_|refine xN ?_|refine r_retN ?_|refine wF ?_|refine zP ?_|refine wM ?_|refine Aal ?_|refine zI ?_|refine zC ?_|refine Aan ?_|refine r_isN ?_|refine r_notN ?_|refine Aa5 ?_|refine Aam ?_|refine Aat ?_|refine r_c ?_|refine zU ?_|refine zG ?_|refine Aaz ?_|refine Aad ?_|refine zQ ?_|refine uZ ?_|refine uH ?_|refine Aay ?_|refine Aag ?_|refine yN ?_|refine Aao ?_|refine zF ?_|refine Aap ?_|refine lR ?_|refine wO ?_|refine yB ?_|refine vJ ?_|refine vX ?_|refine uP ?_|refine qM ?_|refine wW ?_|refine uM ?_|refine Aaw ?_|refine zY ?_|refine zA ?_|refine rX ?_|refine vW ?_|refine r_orV ?_|refine wB ?_|refine yC ?_|refine wI ?_|refine uV ?_|refine vY ?_|refine yH ?_|refine r_cBK ?_|refine vQ ?_|refine pZ ?_|refine zS ?_|refine lQ ?_|refine r_rngD ?_|refine r_lzip ?_|refine r_revL ?_|refine r_lrev ?_|refine r_lrng ?_|refine rD ?_|refine r_augS ?_|refine r_sortKS ?_|refine r_rngE ?_|refine uK ?_|refine qS ?_|refine sF ?_|refine wS ?_|refine eR (by decide) ?_|refine tE (by decide) ?_|refine yI (by decide) (by decide) ?_|refine Pl (by decide) (by decide) ?_|refine mZ (by decide) (by decide) ?_|refine zV rfl ?_|refine xW rfl ?_|refine Aak ?_|refine Aba ?_|refine xO ?_|refine yZ ?_) | refine zR rfl ?_ | refine yF rfl ?_ | dsimp only))
namespace TK
open PySem L2 TW
variable {C CB CC CO CP CS Pt d dx i1 i2 it l1 l2:de} {A:ic} {op:vv} {X:Cx} {D:Hk} {env:Env} {iter tg:gv} {fd:i0} {base h h':iq} {H H' H0 H1 H2:Hp} {J:It} {pins:Za1} {as fp:List de} {ms:Za5} {es:List gv} {ks ws:List Int} {cs ns:Za4} {N kz nm ps:Za6} {xs ys:List V} {us vs:Za3} {M:wn} {n t':Nat} {oT:Obj} {an od:Option de} {pos:Pos} {B:Prop} {scope:l9} {pl:Sem Bool} {s s2:dv} {sp:Sp} {qual z:Str} {te:TE} {wi:TI} {y:V} {cdv ct doc oc pm:dr} {w:gl}
local macro_rules | `(tactic| k_is)=>`(tactic| walk_at "rd")
local macro_rules | `(tactic| apply $t)=>`(tactic| (k_is;refine $t))
structure Qf (K:c7) (C:de):Prop where
 cl:Cls K C
 bR:Ba K C "length"
 cL:Ba K C "many_ones"
 bU:Ba K C "kept_words"
structure Qe (K:c7) (C:de):Prop where
 cl:Cls K C
 bR:Ba K C "length"
 bU:Ba K C "kept_words"
 cr:Ba K C "kept_table"
structure Qa (K:c7) (C:de):Prop where
 cl:Cls K C
 bT:Ba K C "onward"
 cp:Ba K C "leaps"
structure Qd (K:c7) (C:de):Prop where
 cl:Cls K C
 cz:Ba K C "kept_wood"
 cC:Ba K C "places"
 cI:Ba K C "begins"
 cu:Ba K C "kept_stretches"
 cK:Ba K C "spans"
 cM:Ba K C "namesakes"
structure Qc (K:c7) (C:de):Prop where
 cl:Cls K C
 cA:Ba K C "bits"
 cH:Ba K C "counts"
 bR:Ba K C "length"
 cr:Ba K C "kept_table"
 cJ:Ba K C "often_least"
structure Qb (K:c7) (C:de):Prop where
 cl:Cls K C
 cw:Ba K C "pairs"
structure Txt (P:fi) (w:gl) (base:iq) (ts:List Tb) (K:c7) (mg:Za2) (ao:de) (ap:de):Prop where
 cm:mg "ONES_OF_FOUR"=some (.ref ao)
 cD:∀H,SqT K H ao (Sq.map λn:Nat=>V.int n)
 bY:mg "SIGNS_OF_FOUR"=some (.ref ap)
 cy:∀H,SqT K H ap (eN)
 bP:∃t,mg "WORD_BITS"=some (.int 32 t)
 bZ:∃t,mg "MOST_BITS"=some (.int 20000 t)
 bS:∃t,mg "BLOCK_WORDS"=some (.int 8 t)
 cj:∃t,mg "MOST_SIGNS_pairs"=some (.int 8192 t)
 bV:∃t,mg "STRETCH_BITS"=some (.int 256 t)
 ce:∃t,mg "MOST_KNOTS"=some (.int 4000 t)
 cg:∃t,mg "MOST_SIGNS_woods"=some (.int 8000 t)
 ck:∃t,mg "MOST_LETTERS"=some (.int 8 t)
 ci:∃t,mg "LETTERS"=some (.str "abcdefghijklmnopqrstuvwxyz" t)
 bO:mg "range"=none
 bN:mg "len"=none
 cx:mg "int"=none
 cE:mg "bool"=none
 cB:mg "str"=none
 bQ:mg "isinstance"=none
 bW:mg "list"=none
 bX:mg "tuple"=none
 cG:mg "dict"=none
 cf:mg "enumerate"=none
 cn:mg "zip"=none
 n_sum:mg "sum"=none
 n_abs:mg "abs"=none
 n_max:mg "max"=none
 cF:mg "min"=none
 cq:mg "sorted"=none
 n_all:mg "all"=none
section
variable {P:fi} {w:gl} {K:c7} {mg:Za2} {base:iq} {ao ap:de} {ac ab ad af aa ae:de} {f:de} {fd:i0} {ts:List Tb}
seal PE PA PT PW PS PSs PI PG
inductive K4(vs:List V)(H:Hp)(Q:VK)(E:XK):Prop|mk(i:Int)(_:vs=[.int i])(_:Q (.bl true) H)
variable (T:Txt P w base ts K mg ao ap)
include T in
theorem Xx (F:Fun K "is_whole" "is_whole" Kx f fd):Ax P w K mg base CX0 1 f fd ["thing"] K4:=by
 exists F.ok Ww
 obtain⟨i,rfl,q⟩:=h;refine⟨_,(Ae (Ap (Zj (Am Bx (by rfl) T.bQ Bk (tpa (pv 0) (tpa (Eb (v:=.ty "int") rfl T.cx oM rfl) Aa))) (Zo (jM (Am Bx (by rfl) T.bQ Bk (tpa (pv 0) (tpa (Eb (v:=.ty "bool") rfl T.cE kY rfl) Aa)))))))),?_⟩;apply⟨_,_,_,_,rfl,.int _,Ng,?_⟩;apply⟨_,_,_,_,rfl,.int _,Ls,?_⟩;k_is;exact q
inductive S8(vs:List V)(H:Hp)(Q:VK)(E:XK):Prop|mk(x lo hi:Int)(_:vs=[.int x,.int lo,.int hi])(_:lo<=x)(_:x<=hi)(_:Q (.bl true) H)
variable (aA:Cal P w K mg base "is_whole" 1 ["thing"] K4)
include T aA in
theorem Ub (F:Fun K "is_within" "is_within" Jf f fd):Ax P w K mg base CX0 2 f fd ["thing","low","high"] S8:=by
 exists F.ok Vq
 obtain⟨x,lo,hi,rfl,h1,h2,q⟩:=h;refine⟨_,(Ae (Ap (Zj (Az aA hr.m (tpa (pv 0) Aa)) (Zo (nO sU sU (pv 1) (pv 0) (pv 2)))))),?_⟩;apply⟨x,rfl,?_⟩;apply Ct (λ_=>?_) (λh=>absurd h1 h);k_is;rw[decide_eq_true h2];exact q
inductive nU(vs:List V)(H:Hp)(Q:VK)(E:XK):Prop|mk(b:Bool)(_:vs=[.int (b.toNat:Nat)])(_:Q .non H)
variable (aq:Cal P w K mg base "is_within" 2 ["thing","low","high"] S8)
include T aq in
theorem Vc (F:Fun K "check_bit" "check_bit" Is f fd):Ax P w K mg base CX0 3 f fd ["bit"] nU:=by
 exists F.ok Uo
 obtain⟨b,rfl,q⟩:=h;refine⟨_,(Ae (B1 (Cm (Ci (Az aq hr.m (tpa (pv 0) (tpa Af (tpa Af Aa)))))) (Ae B5)
  A7)),?_⟩
 apply⟨_,0,1,rfl,by lia,by cases b<;>decide,?_⟩
 k_is;exact q
inductive Yu(vs:List V)(H:Hp)(Q:VK)(E:XK):Prop|mk(n g:Int)(_:vs=[.int n,.int g])(_:0<=n)(_:n<=g)(_:Q .non H)
include T aq in
theorem Pq (F:Fun K "check_place" "check_place" Gn f fd):Ax P w K mg base CX0 3 f fd ["place","greatest"] Yu:=by
 exists F.ok R1
 obtain⟨n,g,rfl,h0,h1,q⟩:=h;refine⟨_,(Ae (B1 (Cm (Ci (Az aq hr.m (tpa (pv 0) (tpa Af (tpa (pv 1) Aa)))))) (Ae B5)
  A7)),?_⟩
 apply⟨n,0,g,rfl,h0,h1,?_⟩;k_is;exact q
inductive oY(vs:List V)(H:Hp)(Q:VK)(E:XK):Prop|mk(i j g:Int)(_:vs=[.int i,.int j,.int g])(_:0<=i)(_:i<=j)(_:j<=g)(_:Q .non H)
variable (av:Cal P w K mg base "check_place" 3 ["place","greatest"] Yu)
include T av in
theorem Mq (F:Fun K "check_stretch" "check_stretch" E9 f fd):Ax P w K mg base CX0 4 f fd ["low","high","greatest"] oY:=by
 exists F.ok Md
 obtain⟨i,j,g,rfl,h0,h1,h2,q⟩:=h;refine⟨_,(Ab (At (Az av hr.m (tpa (pv 0) (tpa (pv 2) Aa)))) (Ab (At (Az av hr.m (tpa (pv 1) (tpa (pv 2) Aa)))) (Ae (B1 (ttc Hb (pv 0) (pv 1)) (Ae B5)
  A7)))),?_⟩
 apply⟨i,g,rfl,h0,by lia,?_⟩;apply⟨j,g,rfl,by lia,h2,?_⟩;apply Ct (λh=>absurd h (by lia)) (λ_=>?_);k_is;exact q
inductive dP(vs:List V)(H:Hp)(Q:VK)(E:XK):Prop|mk(n g:Int)(_:vs=[.int n,.int g])(_:0<=n)(_:n<g)(_:Q .non H)
include T aq in
theorem Sc (F:Fun K "check_knot" "check_knot" Hl f fd):Ax P w K mg base CX0 3 f fd ["k","many_knots"] dP:=by
 exists F.ok R4
 obtain⟨n,g,rfl,h0,h1,q⟩:=h;refine⟨_,(Ae (B1 (Cm (Ci (Az aq hr.m (tpa (pv 0) (tpa Af (tpa (An D1 (pv 1) Af) Aa)))))) (Ae B5)
  A7)),?_⟩
 apply⟨n,0,g-1,rfl,h0,by lia,?_⟩;k_is;exact q
inductive lJ(vs:List V)(H:Hp)(Q:VK)(E:XK):Prop|mk(n:Nat)(_:vs=[.int n])(_:Q (.int (pc n)) H)
include T in
theorem Z5 (F:Fun K "ones_in" "ones_in" Mj f fd):Ax P w K mg base CX0 1 f fd ["word"] lJ:=by
 exists F.ok Hd
 obtain⟨n,rfl,q⟩:=h;refine⟨_,(Ab (tst 1 Hd.nd Af) (Ab (G2 gg (ttc Hb (pv 0) Af) (Ab (tau 1 Hd.nd (tix Du (Ob (v:=.ref _) rfl T.cm rfl) (An Y3 (pv 0) Af)) R0) (Ae (tau 0 Hd.nd Af rG)))) (Ae (Ap (pv 1))))),?_⟩
 apply Fy (λY H'=>∃m o:Nat,Y=[some (.int m),some (.int o)]/\pc n=o+pc m/\H'=H) (λY _=>match Y with|some (.int m)::_=>m.toNat|_=>0) ⟨n,0,rfl,by simp,rfl⟩ ?_;rintro k Y H' ⟨m,o,rfl,e,rfl⟩ hk;apply Ct (λhm=>?_) (λhm=>?_)
 ·refine Mv ?_
  apply Fg (T.cD _) (v:=.int (pc (m%16))) ?_ ?_
  ·rw[sZ]
   exact qH _ (ph _ (by decide))
  ·apply⟨⟨m/16,o+pc (m%16),?_,?_,rfl⟩,?_⟩
   ·show[some (V.int ((m:Int)/2 ^ (4:Int).toNat)),some (V.int ((o:Int)+(pc (m%16):Int)))]=_
    rw[yA];rfl
   ·rw[e,Aa8 m]
    lia
   ·show((m:Int)/2 ^ (4:Int).toNat).toNat<k
    rw[yA,<-hk];show m/16<m;lia
 ·k_is
  have:m=0:=by lia
  subst this;rw[Oe] at e;show Q (.int (o:Int)) H';rw[show o=pc n by lia];exact q
def rB (z:Str):Bool:=if z.length>20000 then false else decide (Me z 48+Me z 49=z.length)
inductive fU(vs:List V)(H:Hp)(Q:VK)(E:XK):Prop|mk(z:Str)(_:vs=[.str z])(_:z.length<=sizeLine)(_:Q (.bl (rB z)) H)
include T in
theorem iE (F:Fun K "is_row" "is_row" Pc f fd):Ax P w K mg base CX0 1 f fd ["thing"] fU:=by
 exists F.ok gE
 obtain⟨z,rfl,hz,q⟩:=h;refine⟨_,(Ab (B1 (PW.pt (Fv (Cm (Ci (Am Bx (by rfl) T.bQ Bk (tpa (pv 0) (tpa (Eb (v:=.ty "str") rfl T.cB jU rfl) Aa))))) (Ge (ttc Hb (Am Bt (by rfl) T.bN B2 (tpa (pv 0) Aa)) (Bg rfl T.bZ))))) (Ae (Ap Fw))
  A7) (Ae (Ap (tpc Ig (An B6 (Bw jd rh rg Pw (pv 0) (tpa Bo Aa)) (Bw jd rh rg Pw (pv 0) (tpa Bo Aa))) (Am Bt (by rfl) T.bN B2 (tpa (pv 0) Aa)))))),?_⟩
 apply⟨_,_,_,_,rfl,.str _,Na,?_⟩;apply⟨z,rfl,hz,?_⟩;k_is;unfold rB at q;refine Ct (λhb=>?_) (λhb=>?_)
 ·k_is
  rw[if_pos (by lia)] at q;exact q
 ·k_is
  rw[if_neg (by lia)] at q;refine⟨rfl,?_⟩;apply⟨z,48,rfl,rfl,?_⟩;apply⟨rfl,?_⟩;apply⟨z,49,rfl,rfl,?_⟩;apply⟨z,rfl,hz,?_⟩;k_is;have e:decide (V.int ((Me z 48:Int)+(Me z 49:Int))=V.int (z.length:Int))=decide (Me z 48+Me z 49=z.length):=by
   refine decide_eq_decide.mpr ⟨λh=>?_,λh=>?_⟩
   ·have:=V.int.inj h
    lia
   ·rw[<-h]
    congr 1
  rw[e];exact q
inductive pV(vs:List V)(H:Hp)(Q:VK)(E:XK):Prop|mk(l:Za5)(_:vs=[.str (Ar l)])(_:0<l.length)(_:l.length<=32)(_:Q (.int (val l:Nat)) H)
include T in
theorem Y2 (F:Fun K "word_of" "word_of" M3 f fd):Ax P w K mg base CX0 1 f fd ["signs"] pV:=by
 exists F.ok Zn
 obtain⟨l,rfl,h0,h1,q⟩:=h;refine⟨_,(Ae (Ap (Cv Si (by rfl) T.cx oM (tpa (rA (pv 0)) (tpa Af Aa))))),?_⟩;apply⟨_,rfl,?_,?_⟩
 ·rw[A0]
  exact fw (Db (by lia))
 apply⟨_,rfl,?_,?_,?_,?_⟩
 ·rw[Iw,A0]
  lia
 ·intro c hc
  have:c∈(Ar l).cps.toList:=by
   have h:c∈(Ar l).cps.toList.reverse.toArray.toList:=hc
   simpa using h
  exact Zd l c this
 ·intro z
  have e:(R8 (Ar l)).cps.toList.length=0:=by rw[z];rfl
  have e2:(R8 (Ar l)).cps.toList.length=(R8 (Ar l)).length:=by simp[sy]
  rw[e2,Iw,A0] at e;lia
 ·rw[wR]
  exact q
inductive eH (K:c7)(vs:List V)(H:Hp)(Q:VK)(E:XK):Prop|mk(l:Za5)(_:vs=[.str (Ar l)])(_:l.length<=20000)(_:∀p H',Ah H H'->H p=none->H' p=some (.tup (nV (wordsOf l)))->Q (.ref p) H')
include T in
theorem Wn (F:Fun K "words_of" "words_of" Hw f fd)(aK:Cal P w K mg base "word_of" 1 ["signs"] pV):Ax P w K mg base CX0 2 f fd ["text"] (eH K):=by
 exists F.ok X8
 obtain⟨l,rfl,hl,q⟩:=h;have hz:(Ar l).length<=sizeLine:=by rw[A0];exact fw (Ag (by lia))
 refine⟨_,(Ae (Ap (Cv Dn (by rfl) T.bX J3 (tpa (F3 rfl Sd (Mm rfl T.bO (tpa Af (tpa (Am Bt (by rfl) T.bN B2 (tpa (pv 0) Aa)) (tpa (Bg rfl T.bP) Aa)))) (λ_ _ _ _=>Bv) (λ_ _ _ _=>(Az aK hr.m (tpa (Cg Mz (pv 1) (Bz (pv 0)) (Bz (An B6 (pv 0) (Bg rfl T.bP)))) Aa)))) Aa)))),?_⟩;apply⟨_,rfl,hz,?_⟩;rw[A0];apply⟨0,l.length,32,rfl,by lia,?_⟩;have hn:B8 0 (l.length:Int) 32=B3 l.length:=Os l.length 32 (by decide);rw[hn];refine Xi (λi=>nV ((di i).map λj=>val (Av l j))) rfl (λi hi=>?_) (λi H1 R A hi sm kR kA=>?_) (λD H1 hD sm hl'=>?_)
 ·have:=Xs hi
  rw[c5,c5,dn];exact Ag (by lia)
 ·apply Yn hz ?_;have hi':=Xs hi;rw[show(0+(i:Int)*32)=((32*i:Nat):Int) by lia,show(((32*i:Nat):Int)+32)=((32*i+32:Nat):Int) by lia,Mn];apply⟨Av l i,?_,?_,?_,?_⟩
  ·unfold Av
   rw[show 32*i+32-32*i=32 by lia];rfl
  ·unfold Av
   rw[eg,gh];lia
  ·unfold Av
   rw[eg];lia
  ·refine kA _ _ ?_ (Ah.refl _)
   exact Jh _ _
 ·apply⟨D,_,rfl,.inl ⟨SqL.of hl',λp hp=>?_⟩⟩;exact q p _ (sm.trans (Al hp)) (sm.free hp) Ac
theorem kI:∀r:Nat,r<16->eN[r]?=some (.str (Ar (Yz r))):=by
 intro r hr;have:r=0\/r=1\/r=2\/r=3\/r=4\/r=5\/r=6\/r=7\/r=8\/r=9\/r=10\/r=11\/r=12\/r=13\/r=14\/r=15:=by lia
 rcases this with rfl|rfl|rfl|rfl|rfl|rfl|rfl|rfl|rfl|rfl|rfl|rfl|rfl|rfl|rfl|rfl<;>rfl
theorem lM (ls:List (Za5)):qx ("":Str) (ls.map Ar)=Ar ls.flatten:=by
 refine Fh ?_;rw[Ks,Cf]
 induction ls with
 |nil=>rfl
 |cons a r ih=>
  rw[fm,fm,ip,ih,ip,dj,Cf]
theorem kK (ls:List (Za5)):((ls.map Ar).map (·.length)).sum=ls.flatten.length:=by
 induction ls with
 |nil=>rfl
 |cons a r ih=>rw[fm,fm,uy,ih,ip,c8,A0]
theorem W1 {K:c7}{Q:VK}{p:de}{ls:List (Za5)}(hl:H1 p=some (.lst (ls.map λl=>V.str (Ar l))))(hz:ls.flatten.length<=100000)(q:Q (.str (Ar ls.flatten)) H1):oO K (.str "") [.ref p] H1 Q:=by
 refine⟨"",p,ls.map Ar,rfl,rfl,SqL.of ?_,?_,?_⟩
 ·rw[hl,gu]
  rfl
 ·rw[kK]
  show ls.flatten.length+_*0<=_;lia
 ·rw[lM]
  exact q
theorem sO (n k:Nat){j:Int}(h:j=(k:Int)):(n:Int)/2 ^ j.toNat=((n/2 ^ k:Nat):Int):=by
 subst h;rw[fz];exact(sh n (2 ^ k)).symm
inductive Te (K:c7)(vs:List V)(H:Hp)(Q:VK)(E:XK):Prop|mk(n:Nat)(_:vs=[.int n])(_:∀H',Ah H H'->Q (.str (Ar (Lz n))) H')
include T in
theorem Xb (F:Fun K "signs_of" "signs_of" Hv f fd):Ax P w K mg base CX0 1 f fd ["word"] (Te K):=by
 exists F.ok Wy
 obtain⟨n,rfl,q⟩:=h;refine⟨_,(Ae (Ap (Bw jd lx lw K2 Bo (tpa (F3 rfl Sj (Mm rfl T.bO (tpa Af (tpa (Bg rfl T.bP) (tpa Af Aa)))) (λ_ _ _ _=>Bv) (λ_ _ _ _=>(tix (Oc K) (Ob (v:=.ref _) rfl T.bY rfl) (An Y3 (An uR (pv 1) (pv 0)) Af)))) Aa)))),?_⟩;apply⟨rfl,?_⟩;apply⟨0,32,4,rfl,by lia,?_⟩;refine Xi (λi=>((di i).map λj=>Yz (n/2 ^ (4*j)%16)).map λl=>V.str (Ar l)) rfl (λi hi=>?_) (λi H1 R A hi sm kR kA=>?_) (λD H1 hD sm hl=>?_)
 ·have hi:i<8:=hi
  rw[c5,c5,dn];exact Db (by lia)
 ·have hi:i<8:=hi
  apply tE (by lia) ?_;k_is;rw[sO n (4*i) (by lia),sZ];refine Fg (T.cy _) (Bj (kI _ (ph _ (by decide)))) ?_;refine kA _ _ ?_ (Ah.refl _);rw[ik,dj,dj];rfl
 ·k_is
  have hl:H1 D=some (.lst (((di 8).map λj=>Yz (n/2 ^ (4*j)%16)).map λl=>V.str (Ar l))):=hl;refine W1 hl ?_ ?_
  ·rw[O3]
   unfold Lz;rw[c5,dn];decide
  ·rw[O3]
   exact q _ sm
def jY (l:Za5)(t:de):List (Str×V):=[("length",.int (l.length:Nat)),("many_ones",.int (l.count true:Nat)),("kept_words",.ref t)]
def C3 (K:c7)(C:de)(H:Hp)(a:de)(l:Za5):Prop:=∃dx t,H a=some (.ins C dx (jY l t))/\H t=some (.tup (nV (wordsOf l)))/\l.length<=20000
theorem F2 {K:c7}{x b:de}{l:Za5}(s:SameBut x H H')(n:lZ H x)(hne:b≠x)(h:C3 K C H b l):C3 K C H' b l:=by
 obtain⟨dx,t,h1,h2,h3⟩:=h;exact⟨dx,t,s _ _ hne h1,s _ _ (λe=>by subst e;exact(n _).1 (.inl h2)) h2,h3⟩
theorem C3.same {K:c7}{b:de}{l:Za5}(s:Ah H H')(h:C3 K C H b l):C3 K C H' b l:=by
 obtain⟨dx,t,h1,h2,h3⟩:=h;exact⟨dx,t,s _ _ h1,s _ _ h2,h3⟩
inductive Re (K:c7)(C:de)(vs:List V)(H:Hp)(Q:VK)(E:XK):Prop|mk(x dx:de)(l:Za5)(_:vs=[.ref x,.str (Ar l)])(_:H x=some (.ins C dx []))(_:l.length<=20000)(_:∀H',SameBut x H H'->C3 K C H' x l->Q .non H')
theorem Z3 {l:Za5}(h:l.length<=20000):rB (Ar l)=true:=by
 unfold rB;rw[A0,if_neg (by lia)];exact decide_eq_true (Tc l).2
variable (ak:Qf K ac)
include T ak in
theorem Wb (F:Fun K "__init__" "Bits.__init__" Ja f fd)(aL:Cal P w K mg base "is_row" 1 ["thing"] fU)(aM:Cal P w K mg base "words_of" 2 ["text"] (eH K)) :
  Ax P w K mg base CX0 3 f fd ["self","text"] (Re K ac):=by
 exists F.ok Ul
 obtain⟨x,dx,l,rfl,hx,hl,q⟩:=h;have hz:(Ar l).length<=sizeLine:=by rw[A0];exact fw (Ag (by lia))
 refine⟨_,(Ab (B1 (Cm (Ci (Az aL hr.m (tpa (pv 1) Aa)))) (Ae B5)
  A7) (Ab (tsf (pv 0) (Am Bt (by rfl) T.bN B2 (tpa (pv 1) Aa))) (Ab (tsf (pv 0) (Bw jd rh rg Pw (pv 1) (tpa Bo Aa))) (Ae (tsf (pv 0) (Az aM hr.m (tpa (pv 1) Aa))))))),?_⟩
 apply⟨_,rfl,hz,?_⟩;rw[Z3 hl];apply⟨_,rfl,hz,?_⟩;rw[A0];apply C1 hx ak.cl ak.bR (by decide) ?_;apply⟨rfl,?_⟩;apply⟨_,49,rfl,rfl,?_⟩;rw[(Tc l).1];apply C1 Ac ak.cl ak.cL (show 1<1000 by decide) ?_;rw[Oj];apply⟨l,rfl,hl,λt H' sm hf ht=>?_⟩;apply C1 (sm _ _ Ac) ak.cl ak.bU (show 2<1000 by decide) ?_;apply q _ ((A4.trans sm.but).trans A4) ⟨dx,t,Ac,?_,hl⟩;have hne:t≠x:=λe=>by
  subst e;rw[Ac] at hf;cases hf
 rw[Ai hne];exact ht
inductive Rl (K:c7)(C:de)(vs:List V)(H:Hp)(Q:VK)(E:XK):Prop|mk(x:de)(l:Za5)(_:vs=[.ref x])(_:C3 K C H x l)(_:Q (.int (l.length:Nat)) H)
include T ak in
theorem Wc (F:Fun K "size" "Bits.size" Ir f fd):Ax P w K mg base CX0 1 f fd ["self"] (Rl K ac):=by
 exists F.ok Uj
 obtain⟨x,l,rfl,⟨dx,t,hx,ht,hl⟩,q⟩:=h;refine⟨_,(Ae (Ap (tfl (pv 0)))),?_⟩;k_is;exact oG hx ak.cl ak.bR rfl q
inductive Nm (K:c7)(C:de)(vs:List V)(H:Hp)(Q:VK)(E:XK):Prop|mk(x:de)(l:Za5)(_:vs=[.ref x])(_:C3 K C H x l)(_:∀t,H t=some (.tup (nV (wordsOf l)))->Q (.ref t) H)
include T ak in
theorem Q8 (F:Fun K "words" "Bits.words" Hq f fd):Ax P w K mg base CX0 1 f fd ["self"] (Nm K ac):=by
 exists F.ok R9
 obtain⟨x,l,rfl,⟨dx,t,hx,ht,hl⟩,q⟩:=h;refine⟨_,(Ae (Ap (tfl (pv 0)))),?_⟩;k_is;exact oG hx ak.cl ak.bU rfl (q t ht)
inductive Tq (K:c7)(C:de)(vs:List V)(H:Hp)(Q:VK)(E:XK):Prop|mk(a:de)(l:Za5)(low high:Nat)(_:vs=[.ref a,.int low,.int high])(_:C3 K C H a l)(_:low<=high)(_:high<=l.length)(_:∀H',Ah H H'->Q (.str (Ar ((l.drop low).take (high-low)))) H')
include T ak in
theorem Qv (F:Fun K "stretch" "Bits.stretch" Ea f fd)(aN:Cal P w K mg base "check_stretch" 4 ["low","high","greatest"] oY)(aO:Cal P w K mg base "signs_of" 1 ["word"] (Te K)) :
  Ax P w K mg base CX0 5 f fd ["self","low","high"] (Tq K ac):=by
 exists F.ok Cq
 obtain⟨a,l,low,high,rfl,⟨dx,t,hx,ht,hl⟩,h1,h2,q1⟩:=h;refine⟨_,(Ab (At (Az aN hr.m (tpa (pv 1) (tpa (pv 2) (tpa (tfl (pv 0)) Aa))))) (Ab (tst 3 Cq.nd (An Ew (pv 1) (Bg rfl T.bP))) (Ab (tst 4 Cq.nd (An Ew (An D1 (An B6 (pv 2) (Bg rfl T.bP)) Af) (Bg rfl T.bP))) (Ab (tst 5 Cq.nd (Bw jd lx lw K2 Bo (tpa (F3 rfl Lw (Z7 (Cg Uc (tfl (pv 0)) (Bz (pv 3)) (Bz (pv 4)))) (λ_ _ _ _=>Bv) (λ_ _ _ _=>(Az aO hr.m (tpa (pv 0) Aa)))) Aa))) (Ab (tst 6 Cq.nd (An Eo (pv 3) (Bg rfl T.bP))) (Ae (Ap (Cg Mz (pv 5) (Bz (An D1 (pv 1) (pv 6))) (Bz (An D1 (pv 2) (pv 6))))))))))),?_⟩
 apply⟨a,ac,dx,_,_,rfl,hx,ak.cl,ak.bR,rfl,?_⟩;apply⟨low,high,_,rfl,by lia,by lia,by lia,?_⟩;apply⟨rfl,?_⟩;apply⟨a,ac,dx,_,_,rfl,hx,ak.cl,ak.bU,rfl,?_⟩;apply⟨t,_,rfl,SqT.of ht,λp2 H2 s2 hp2=>?_⟩;rw[show((low:Int)/32)=((low/32:Nat):Int) by lia,show((high:Int)+32-1)/32=(((high+31)/32:Nat):Int) by lia,Pf] at hp2;have hW:(wordsOf l).length=B3 l.length:=by unfold TW.wordsOf;rw[c5,dn]
 have e8:((nV (wordsOf l)).drop (low/32)).take ((high+31)/32-low/32)=nV ((di ((high+31)/32-low/32)).map λj=>val (Av l (low/32+j))):=by
  unfold nV;have:min ((high+31)/32-low/32) (B3 l.length-low/32)=(high+31)/32-low/32:=by unfold B3;lia
  rw[<-pj,<-nh,S9,this]
 rw[e8] at hp2;refine⟨p2,rfl,⟨_,hp2⟩,?_⟩;generalize hm:(high+31)/32-low/32=m at hp2;refine lF hp2 (λj=>((di j).map λi=>Lz (val (Av l (low/32+i)))).map λl=>V.str (Ar l)) rfl (λj hj=>?_) (λj z H3 R A hz s3 kR kA=>?_) (λD H3 hD s3 hl3=>?_)
 ·rw[c5,c5,dn] at hj
  rw[c5,c5,dn];exact Db (by lia)
 ·have hj:j<m:=by
   have:=(dk.mp hz).1
   rwa [c5,c5,dn] at this
  have hze:z=.int (val (Av l (low/32+j)):Nat):=by
   unfold nV at hz;rw[df,df,ff hj] at hz;exact(dh hz).symm
  subst hze;apply⟨_,rfl,λH4 s4=>?_⟩;refine kA _ _ ?_ s4;rw[ik,dj,dj];rfl
 ·rw[c5,c5,dn] at hl3
  have hfl:((di m).map λi=>Lz (val (Av l (low/32+i)))).flatten.length<=100000:=by
   rw[Po,c5,dn];lia
  apply W1 hl3 hfl ?_;apply Yn ?_ ?_
  ·rw[A0]
   exact fw (Ag hfl)
  rw[Po,show((low:Int)-(low:Int)/32*32)=((low-32*(low/32):Nat):Int) by lia,show((high:Int)-(low:Int)/32*32)=((high-32*(low/32):Nat):Int) by lia,Mn,
   show high-32*(low/32)-(low-32*(low/32))=high-low by lia,pP l (low/32) m low (high-low) (by lia) (by lia) (by lia)]
  exact q1 _ (s2.trans s3)
inductive tF(vs:List V)(H:Hp)(Q:VK)(E:XK):Prop|mk(a:de)(xs:Za4)(_:vs=[.ref a])(_:H a=some (.lst (nV xs)))(_:xs.length<=1000)(_:∀p H',Ah H H'->H p=none->H' p=some (.lst (nV ((di (xs.length+1)).map λi=>(xs.take i).sum)))->Q (.ref p) H')
include T in
theorem Nq (F:Fun K "running_sums" "running_sums" Fm f fd):Ax P w K mg base CX0 1 f fd ["numbers"] tF:=by
 exists F.ok Fe
 obtain⟨a,xs,rfl,ha,hn,q⟩:=h;refine⟨_,(Ab (tst 1 Fe.nd (Bl (tpa Af Aa))) (Ab (Cl gg rfl (C2 (pv 0)) (tgn 2 Fe.nd) (Ae (At (Bw ee fe fc Aw (pv 1) (tpa (An B6 (tix Bu (pv 1) (Di Cb Af)) (pv 2)) Aa))))) (Ae (Ap (pv 1))))),?_⟩
 apply⟨few (by simp),λp hp=>?_⟩;have t0:=Al (o:=.lst [V.int 0]) hp;apply⟨a,rfl,⟨_,SqL.of (t0 _ _ ha)⟩,?_⟩;refine G7 (xs:=nV xs) (λi Y H1=>(∃v:Option V,Y=[some (.ref a),some (.ref p),v])/\H1 p=some (.lst (nV ((di (i+1)).map λi=>(xs.take i).sum)))/\Ah H H1) ⟨⟨_,rfl⟩,Ac,t0⟩ (λi Y H1 _ h=>SqL.of (h.2.2 _ _ ha)) ?_ ?_
 ·rintro i x Y H1 hx ⟨⟨v,rfl⟩,hp1,s1⟩
  have hi:=B0 hx;rw[show(nV xs).length=xs.length by unfold nV;rw[c5]] at hi;obtain rfl:x=.int (xs[i]:Nat):=by
   unfold nV at hx;rw[df,c6 hi] at hx;exact(dh hx).symm
  apply⟨.inl ⟨rfl,_,SqL.of hp1⟩,?_⟩;apply Cd (SqL.of hp1) (v:=.int ((xs.take i).sum:Nat)) ?_ ?_
  ·rw[Jh]
   exact Xu _ _
  apply A6 hp1 ?_ ?_
  ·unfold nV
   rw[c5,c5,dn];exact Ag (by lia)
  apply⟨⟨_,rfl⟩,?_,λb u e=>?_⟩
  ·rw[Ac,Jh _ (i+1),gn,c6 hi,xf]
   show some (HO.lst (_++[V.int (((xs.take i).sum:Nat)+(xs[i]:Nat):Int)]))=some (HO.lst (_++[V.int (((xs.take i).sum+[xs[i]].sum:Nat):Int)]));rw[ve,DL]
  ·rw[Ai (Aj e hp)]
   exact s1 _ _ e
 ·rintro Y H1 ⟨⟨v,rfl⟩,hp1,s1⟩
  rw[show(nV xs).length=xs.length by unfold nV;rw[c5]] at hp1;k_is;exact q p H1 s1 hp hp1
def Hc (n:Nat):Nat:=(B3 n+7)/8
def Jl (l:Za5):Za4:=(di (Hc l.length+1)).map λb=>cnt l (256*b)
inductive fA (K:c7)(vs:List V)(H:Hp)(Q:VK)(E:XK):Prop|mk(t:de)(l:Za5)(_:vs=[.ref t])(_:H t=some (.tup (nV (wordsOf l))))(_:l.length<=20000)(_:∀p H',Ah H H'->H p=none->H' p=some (.tup (nV (Jl l)))->Q (.ref p) H')
theorem Wp (l:Za5)(b:Nat):((wordsOf l).drop (8*b)).take 8=(di (min 8 (B3 l.length-8*b))).map λi=>val (Av l (8*b+i)):=by
 unfold TW.wordsOf;refine oj λi=>?_;rw[ig]
 by_cases h8:i<8
 ·rw[if_pos h8,il,df,df]
  by_cases hm:8*b+i<B3 l.length
  ·rw[ff hm,ff (by lia)]
   rfl
  ·rw[iy (by rw[dn];lia),iy (by rw[dn];lia)]
   rfl
 ·rw[if_neg h8,iy (by rw[c5,dn];lia)]
def blk (l:Za5)(i:Nat):Za4:=(di (min 8 (B3 l.length-8*i))).map λj=>val (Av l (8*i+j))
def Zv (l:Za5)(i:Nat):Nat:=((di (min 8 (B3 l.length-8*i))).map λm=>pc (val (Av l (8*i+m)))).sum
theorem Yd (l:Za5):∀i,(((di i).map (Zv l)).sum)=cnt l (256*i)
 |0=>by
  show 0=cnt l 0;rfl
 |i+1=>by
  rw[ik,dj,xf,Yd l i];show cnt l (256*i)+[Zv l i].sum=_;rw[ve];have:=iF l i (min 8 (B3 l.length-8*i)) rfl;unfold Zv;lia
def jD (K:c7)(l:Za5)(i:Nat)(ys:List V)(H:Hp):Prop:=ys.length=i/\∀j y,ys[j]?=some y->∃a,y=.ref a/\SqT K H a (nV (blk l j))
theorem lO {K:c7}{l:Za5}{i:Nat}{D:de}{o:HO}(hD:H D=some (.lst xs))(h:jD K l i ys H):jD K l i ys (upd H D o):=⟨h.1,λj y e=>by
 obtain⟨a,rfl,ht⟩:=h.2 j y e;refine⟨a,rfl,?_⟩;rcases ht with(ht|⟨ob,ht⟩)|ht
 ·exact .inl (.inl (by rw[Ai (En ht hD (by intro z;cases z))];exact ht))
 ·exact .inl (.inr ⟨ob,by rw[Ai (En ht hD (by intro z;cases z))];exact ht⟩)
 ·exact .inr ht⟩
theorem jD.same {K:c7}{l:Za5}{i:Nat}(h:jD K l i ys H)(s:Ah H H'):jD K l i ys H':=⟨h.1,λj y e=>by
 obtain⟨a,rfl,ht⟩:=h.2 j y e;exact⟨a,rfl,s.seqT ht⟩⟩
variable (aw:Cal P w K mg base "ones_in" 1 ["word"] lJ)
include T aw in
theorem Le (F:Fun K "table_of_words" "table_of_words" Ch f fd)(aP:Cal P w K mg base "running_sums" 1 ["numbers"] tF):Ax P w K mg base CX0 2 f fd ["words"] (fA K):=by
 exists F.ok Ga
 obtain⟨t,l,rfl,ht,hl,q⟩:=h;have hW:(wordsOf l).length=B3 l.length:=by unfold TW.wordsOf;rw[c5,dn]
 have hM:B3 l.length<=626:=by unfold B3;lia
 have hB:Hc l.length<=80:=by unfold Hc;lia
 refine⟨_,(Ab (Rh (i:=1) rfl Ka Ga.nd rfl rfl (Mm rfl T.bO (tpa Af (tpa (Am Aq (by rfl) T.bN B2 (tpa (pv 0) Aa)) (tpa (Bg rfl T.bS) Aa)))) (λ_ _ _ _=>Bv) (λ_ _ _ _=>(Cg (kG K) (pv 1) (Bz (pv 0)) (Bz (An B6 (pv 0) (Bg rfl T.bS)))))) (Ae (Ap (Cv Dn (by rfl) T.bX J3 (tpa (Az aP hr.m (tpa (F3 rfl J4 (C2 (pv 1)) (λ_ _ _ _=>Bv) (λ_ _ _ _=>(Am (gI K rfl) (by rfl) T.n_sum xL (tpa (qN rfl J9 (rE K (pv 0)) (λ_ _ _ _=>Bv) (λ_ _ _ _=>(Az aw hr.m (tpa (pv 0) Aa)))) Aa)))) Aa)) Aa))))),?_⟩
 apply⟨t,_,rfl,.inr (SqT.of ht),?_⟩;k_is;rw[c5,hW];refine⟨0,B3 l.length,8,rfl,by lia,?_⟩;have hn:B8 0 (B3 l.length:Int) 8=Hc l.length:=Os (B3 l.length) 8 (by decide);rw[hn];refine iI (λi ys H1=>jD K l i ys H1) (λH1 _=>⟨rfl,λj y e=>by cases e⟩) (λi ys H1 D xs o hD h=>lO hD h) (λi ys H1 hi h=>by rw[h.1];exact Db (by lia)) (λi ys H1 A R hi s1 hP kA=>?_) (λD ys H1 hD s1 hP hDl=>?_)
 ·apply⟨t,_,rfl,SqT.of (s1 _ _ ht),λp2 H2 s2 hp2=>?_⟩;rw[show(0+(i:Int)*8)=((8*i:Nat):Int) by lia,show(((8*i:Nat):Int)+8)=((8*i+8:Nat):Int) by lia,Pf,show 8*i+8-8*i=8 by lia] at hp2;have e8:((nV (wordsOf l)).drop (8*i)).take 8=nV (blk l i):=by
   unfold nV blk;rw[<-pj,<-nh,Wp]
  rw[e8] at hp2;refine kA _ _ s2 ⟨by rw[c8,hP.1];rfl,λj y e=>?_⟩
  by_cases hj:j<ys.length
  ·rw[eh hj] at e
   exact(hP.same s2).2 j y e
  ·rw[dq (by lia)] at e
   have e0:j-ys.length=0:=by
    have:=B0 e;simp only[f9,jm] at this;lia
   rw[e0] at e;obtain rfl:=dh e;have:j=i:=by have:=hP.1;lia
   subst this;exact⟨p2,rfl,hp2⟩
 ·apply⟨D,rfl,⟨_,SqL.of hDl⟩,?_⟩;refine Og (SqL.of hDl) (λi=>nV ((di i).map (Zv l))) rfl (λi hi=>?_) (λi x H2 R A hx s2 kR kA=>?_) (λD2 H2 hD2 s2 hl2=>?_)
  ·unfold nV
   rw[c5,c5,dn];rw[hP.1] at hi;exact Db (by lia)
  ·obtain⟨b,rfl,hb⟩:=(hP.same s2).2 i x hx
   apply⟨b,rfl,⟨_,hb⟩,?_⟩;refine lF hb (λj=>nV ((di j).map λm=>pc (val (Av l (8*i+m))))) rfl (λj hj=>?_) (λj x H3 R3 A3 hx3 s3 kR3 kA3=>?_) (λD3 H3 hD3 s3 hl3=>?_)
   ·unfold blk nV at hj
    rw[c5,c5,dn] at hj;rw[c5,c5,dn];exact Db (by lia)
   ·have hj:j<min 8 (B3 l.length-8*i):=by
     have:=(dk.mp hx3).1;unfold blk nV at this
     rwa [c5,c5,dn] at this
    have hxe:x=.int (val (Av l (8*i+j)):Nat):=by
     unfold nV blk at hx3;rw[df,df,ff hj] at hx3;exact(dh hx3).symm
    subst hxe;apply⟨_,rfl,?_⟩;refine kA3 _ _ ?_ (Ah.refl _);exact Jh _ _
   ·unfold blk at hl3
    rw[c5,c5,dn] at hl3;apply⟨D3,_,rfl,SqL.of (by rw[hl3,Ly]),?_⟩;rw[kQ];refine kA _ _ ?_ s3;exact Jh _ _
  ·rw[hP.1] at hl2
   apply⟨D2,(di (Hc l.length)).map (Zv l),rfl,hl2,by rw[c5,dn];lia,λp4 H4 s4 hp4 hl4=>?_⟩;apply⟨p4,_,rfl,.inl ⟨SqL.of hl4,λp5 hp5=>?_⟩⟩;have et:(di (((di (Hc l.length)).map (Zv l)).length+1)).map (λi=>(((di (Hc l.length)).map (Zv l)).take i).sum)=Jl l:=by
    rw[c5,dn];unfold Jl;refine ii λi hi=>?_;have hi:=io.mp hi;rw[<-nh,List.take_range,i9 (by lia),Yd]
   rw[et] at *;exact q p5 _ (((s1.trans s2).trans s4).trans (Al hp5)) (((s1.trans s2).trans s4).free hp5) Ac
def jT (l:Za5)(t u:de):List (Str×V):=[("length",.int (l.length:Nat)),("kept_words",.ref t),("kept_table",.ref u)]
def Bh (K:c7)(C:de)(H:Hp)(a:de)(l:Za5):Prop:=∃dx t u,H a=some (.ins C dx (jT l t u))/\H t=some (.tup (nV (wordsOf l)))/\H u=some (.tup (nV (Jl l)))/\l.length<=20000
theorem Bh.same {K:c7}{b:de}{l:Za5}(s:Ah H H')(h:Bh K C H b l):Bh K C H' b l:=by
 obtain⟨dx,t,u,h1,h2,h3,h4⟩:=h;exact⟨dx,t,u,s _ _ h1,s _ _ h2,s _ _ h3,h4⟩
inductive K1 (K:c7)(CB C:de)(vs:List V)(H:Hp)(Q:VK)(E:XK):Prop|mk(x dx b:de)(l:Za5)(_:vs=[.ref x,.ref b])(_:H x=some (.ins C dx []))(_:C3 K CB H b l)(_:∀H',SameBut x H H'->Bh K C H' x l->Q .non H')
variable (aj:Qe K ab)
include T aj in
theorem Q5 (F:Fun K "__init__" "Counts.__init__" Gk f fd)(aQ:Mth P w K mg base ac "size" 1 ["self"] (Rl K ac))(aR:Mth P w K mg base ac "words" 1 ["self"] (Nm K ac))(aS:Cal P w K mg base "table_of_words" 2 ["words"] (fA K)) :
  Ax P w K mg base CX0 3 f fd ["self","bits"] (K1 K ac ab):=by
 exists F.ok Rt
 obtain⟨x,dx,b,l,rfl,hx,hb,q⟩:=h;have hb0:=hb;obtain⟨dxb,t,hbx,ht,hl⟩:=hb0;have hbne:b≠x:=En hbx hx (by intro z;cases z);refine⟨_,(Ab (tsf (pv 0) (Fo aQ hr.m (pv 1))) (Ab (tsf (pv 0) (Fo aR hr.m (pv 1))) (Ae (tsf (pv 0) (Az aS hr.m (tpa (tfl (pv 0)) Aa)))))),?_⟩
 apply⟨b,dxb,_,rfl,hbx,rfl,?_⟩;apply⟨b,l,rfl,hb,?_⟩;apply C1 hx aj.cl aj.bR (by decide) ?_;apply⟨b,dxb,jY l t,rfl,by rw[Ai hbne];exact hbx,rfl,?_⟩;apply⟨b,l,rfl,F2 A4 (D0 hx) hbne hb,λt2 ht2=>?_⟩;apply C1 Ac aj.cl aj.bU (show 1<1000 by decide) ?_;rw[Oj];have ht3:(upd H x (.ins ab dx (Ek "kept_words" (.ref t2) (Ek "length" (.int (l.length:Nat)) [])))) t2=some (.tup (nV (wordsOf l))):=by
  have hne:t2≠x:=En ht2 Ac (by intro z;cases z);rw[Ai hne] at ht2 ⊢;exact ht2
 apply⟨x,ab,dx,_,.ref t2,rfl,Ac,aj.cl,aj.bU,rfl,?_⟩;apply⟨t2,l,rfl,ht3,hl,λu H' sm hf hu=>?_⟩;apply C1 (sm _ _ Ac) aj.cl aj.cr (show 2<1000 by decide) ?_;k_is;have hix:=sm _ _ (Ac (H:=H) (a:=x));have n1:t2≠x:=En (sm _ _ ht3) hix (by intro z;cases z);have n2:u≠x:=En hu hix (by intro z;cases z);exact q _ ((A4.trans sm.but).trans A4) ⟨dx,t2,u,Ac,by rw[Ai n1];exact sm _ _ ht3,by rw[Ai n2];exact hu,hl⟩
theorem pQ {l:Za5}{b:Nat}(h:b<=Hc l.length):atI (nV (Jl l)) (b:Int)=some (.int (cnt l (256*b):Nat)):=by
 refine Bj ?_;unfold nV Jl;rw[df,df,ff (by lia)];rfl
inductive M9 (K:c7)(C:de)(vs:List V)(H:Hp)(Q:VK)(E:XK):Prop|mk(a:de)(l:Za5)(n:Nat)(_:vs=[.ref a,.int n])(_:Bh K C H a l)(_:n<=l.length)(_:∀H',Ah H H'->Q (.int (cnt l n:Nat)) H')
include T aw aj in
theorem Qj (F:Fun K "ones_ahead" "Counts.ones_ahead" Dh f fd):Ax P w K mg base CX0 2 f fd ["self","place"] (M9 K ab):=by
 exists F.ok A5
 obtain⟨a,l,n,rfl,⟨dx,t,u,hx,ht,hu,hl⟩,hn,q⟩:=h;refine⟨_,(Ab (tst 2 A5.nd (An Ew (pv 1) (Bg rfl T.bP))) (Ab (tst 3 A5.nd (An Ew (pv 2) (Bg rfl T.bS))) (Ab (tst 4 A5.nd (tix Du (tfl (pv 0)) (pv 3))) (Ab (Cl gg rfl (Z7 (Cg Uc (tfl (pv 0)) (Bz (An Eo (pv 3) (Bg rfl T.bS))) (Bz (pv 2)))) (tgn 5 A5.nd) (Ae (tau 4 A5.nd (Az aw hr.m (tpa (pv 5) Aa)) R0))) (Ab (tst 6 A5.nd (An Cz (pv 1) (Bg rfl T.bP))) (Ab (B1 (ttc Hb (pv 6) Af) (Ae (tau 4 A5.nd (Az aw hr.m (tpa (An Y3 (tix Du (tfl (pv 0)) (pv 2)) (An D1 (An vS Af (pv 6)) Af)) Aa)) R0))
  A7) (Ae (Ap (pv 4))))))))),?_⟩
 apply⟨a,ab,dx,_,_,rfl,hx,aj.cl,aj.cr,rfl,?_⟩;k_is;rw[show((n:Int)/32/8)=((n/256:Nat):Int) by lia,show((n:Int)/32)=((n/32:Nat):Int) by lia];refine Fg (SqT.of hu) (pQ (by unfold Hc B3;lia)) ?_;apply⟨a,ab,dx,_,_,rfl,hx,aj.cl,aj.bU,rfl,?_⟩;apply⟨t,_,rfl,SqT.of ht,λp2 H2 s2 hp2=>?_⟩;rw[show((n/256:Nat):Int)*8=((8*(n/256):Nat):Int) by lia,Pf] at hp2;have e8:((nV (wordsOf l)).drop (8*(n/256))).take (n/32-8*(n/256))=nV ((di (n/32-8*(n/256))).map λj=>val (Av l (8*(n/256)+j))):=by
  unfold nV;have:min (n/32-8*(n/256)) (B3 l.length-8*(n/256))=n/32-8*(n/256):=i9 (Nat.sub_le_sub_right (by unfold B3;lia) _);rw[<-pj,<-nh,S9,this]
 rw[e8] at hp2;refine⟨p2,rfl,⟨_,hp2⟩,?_⟩;generalize hm:n/32-8*(n/256)=m at hp2;refine qE (xs:=nV ((di m).map λj=>val (Av l (8*(n/256)+j)))) (λi Y H'=>H'=H2/\∃v5 v6:Option V,Y=[some (.ref a),some (.int n),some (.int ((n/32:Nat):Int)),some (.int ((n/256:Nat):Int)),some (.int (cnt l (32*(8*(n/256)+i)):Nat)),v5,v6]) ?_ (λi Y H' _ h=>by rw[h.1];exact hp2) ?_ ?_
 ·refine⟨rfl,none,none,?_⟩
  rw[show 32*(8*(n/256)+0)=256*(n/256) by lia];rfl
 ·rintro i x Y H' hx' ⟨rfl,v5,v6,rfl⟩
  have hi:i<m:=by
   have:=(dk.mp hx').1
   rwa [c5,c5,dn] at this
  have hze:x=.int (val (Av l (8*(n/256)+i)):Nat):=by
   unfold nV at hx';rw[df,df,ff hi] at hx';exact(dh hx').symm
  subst hze;apply⟨_,rfl,?_⟩;apply⟨rfl,some (.int (val (Av l (8*(n/256)+i)):Nat)),v6,?_⟩;have:=W8 l (8*(n/256)+i);rw[show 8*(n/256)+(i+1)=8*(n/256)+i+1 by lia,this];rfl
 ·rintro Y H' ⟨rfl,v5,v6,rfl⟩
  rw[show(nV ((di m).map λj=>val (Av l (8*(n/256)+j)))).length=m by unfold nV;rw[c5,c5,dn],show 8*(n/256)+m=n/32 by lia];k_is;have ec:cnt l n=cnt l (32*(n/32))+((l.drop (32*(n/32))).take (n%32)).count true:=by
   rw[<-eX];congr 1;lia
  refine Ct (λhr'=>?_) (λhr'=>?_)
  ·have hr0:0<n%32:=by lia
   apply⟨a,ab,dx,_,_,rfl,s2 _ _ hx,aj.cl,aj.bU,rfl,?_⟩;apply Fg (SqT.of (s2 _ _ ht)) (pY (by unfold B3;lia)) ?_;apply Aai ⟨by lia,by lia,by decide⟩ ?_;k_is;rw[lK _ (n%32) (by lia)];refine⟨_,rfl,?_⟩;k_is;rw[pG,Vx];have e2:(Av l (n/32)).take (n%32)=(l.drop (32*(n/32))).take (n%32):=by
    unfold Av;rw[DJ,i9 (by lia)]
   rw[e2];have:=q _ s2;rw[ec] at this;exact this
  ·have hr0:n%32=0:=by lia
   k_is;have:=q _ s2;rw[ec,hr0,ub] at this;exact this
inductive fO (K:c7)(C:de)(vs:List V)(H:Hp)(Q:VK)(E:XK):Prop|mk(a:de)(l:Za5)(b:Bool)(n:Nat)(_:vs=[.ref a,.int (b.toNat:Nat),.int n])(_:Bh K C H a l)(_:n<=l.length)(_:∀H',Ah H H'->Q (.int ((occ b l n).length:Nat)) H')
include T av aj in
theorem Qw (F:Fun K "ahead" "Counts.ahead" Fn f fd)(aT:Cal P w K mg base "check_bit" 3 ["bit"] nU)(aU:Mth P w K mg base ab "ones_ahead" 2 ["self","place"] (M9 K ab)):Ax P w K mg base CX0 4 f fd ["self","bit","place"] (fO K ab):=by
 exists F.ok Ib
 obtain⟨a,l,b,n,rfl,hC,hn,q1⟩:=h;obtain⟨dx,t,u,hx,ht,hu,hl⟩:=id hC;refine⟨_,(Ab (At (Az aT hr.m (tpa (pv 1) Aa))) (Ab (At (Az av hr.m (tpa (pv 2) (tpa (tfl (pv 0)) Aa)))) (Ab (tst 3 Ib.nd (Ie aU hr.m (pv 0) (tpa (pv 2) Aa))) (Ae (Ap (Gw (ttc Ig (pv 1) Af) (pv 3) (An D1 (pv 2) (pv 3)))))))),?_⟩
 apply⟨b,rfl,?_⟩;apply⟨a,ab,dx,_,_,rfl,hx,aj.cl,aj.bR,rfl,?_⟩;apply⟨n,_,rfl,by lia,by lia,?_⟩;apply⟨a,dx,_,rfl,hx,rfl,?_⟩;apply⟨a,l,n,rfl,hC,hn,λH' s'=>?_⟩;k_is;have ho:=dG l n
 cases b with
 |true=>
  refine Ct (λ_=>?_) (λz=>absurd rfl z);k_is;have:=q1 H' s';rw[ho.1] at this;exact this
 |false=>
  refine Ct (λz=>absurd z (by decide)) (λ_=>?_);k_is;have:=q1 H' s';rw[show((n:Int)-(cnt l n:Nat))=((occ false l n).length:Nat) by lia];exact this
theorem C3.kp {K:c7}{b:de}{l:Za5}(h:C3 K C H b l)(k:Kp H H'):C3 K C H' b l:=by
 obtain⟨dx,t,h1,h2,h3⟩:=h;exact⟨dx,t,k.k h1,k.k h2,h3⟩
theorem Bh.kp {K:c7}{b:de}{l:Za5}(h:Bh K C H b l)(k:Kp H H'):Bh K C H' b l:=by
 obtain⟨dx,t,u,h1,h2,h3,h4⟩:=h;exact⟨dx,t,u,k.k h1,k.k h2,k.k h3,h4⟩
def ahS (es:Za6)(i:Nat):V:=if i=0 then .non else .str (es.getD (i-1) ⟨#[]⟩)
abbrev sV (es:Za6):List V:=es.map V.str
theorem Ro {l:Za6}{i:Nat}{x:V}(h:(sV l)[i]?=some x):∃n,l[i]?=some n/\x=.str n:=by
 unfold sV at h;rw[df] at h
 cases e:l[i]? with
 |none=>rw[e] at h;cases h
 |some n=>rw[e] at h;exact⟨n,rfl,(dh h).symm⟩
theorem C7 (l:Za6):(sV l).length=l.length:=c5 ..
theorem Wf (l:Za5):(l.map λb=>[b]).flatten=l:=by
 induction l with
 |nil=>rfl
 |cons b r ih=>rw[fm,ip,ih];rfl
inductive Rc (K:c7)(CC:de)(vs:List V)(H:Hp)(Q:VK)(E:XK):Prop|mk(l:de)(es:Za6)(_:vs=[.ref l])(_:H l=some (.lst (sV es)))(_:es.length<=4000)(_:∀c H',Ah H H'->H c=none->Bh K CC H' c (bgN es)->Q (.ref c) H')
variable (aB:Mkr P w K mg base "Counts" ab 3 ["self","bits"] (K1 K ac ab)) (aC:Mkr P w K mg base "Bits" ac 3 ["self","text"] (Re K ac))
include T aB aC in
theorem U5 (F:Fun K "begins_of" "begins_of" F6 f fd):Ax P w K mg base CX0 5 f fd ["things"] (Rc K ab):=by
 exists F.ok Ll
 obtain⟨l,es,rfl,hl,hn,q⟩:=h;refine⟨_,(Ab (J2 (i:=1) rfl Ry Ll.nd rfl rfl (Ur rfl T.cn (tpa (An Pj (Bl (tpa Uq Aa)) (pv 0)) (tpa (pv 0) Aa))) (λ_ _ _ _=>Bv) (λ_ _ _ _=>(Gw (ttc O7 (pv 1) (pv 0)) Bo Bo))) (Ae (Ap (Rj aB hr.m (tpa (Rj aC hr.m (tpa (Bw jd lx lw K2 Bo (tpa (pv 1) Aa)) Aa)) Aa))))),?_⟩
 apply⟨few (by simp),λp hp=>?_⟩;obtain⟨u1,hp1⟩:=Ay (o:=.lst [V.non]) hp;have hl1:=u1 _ _ hl;generalize upd H p _=H1 at *;apply⟨p,l,_,_,rfl,rfl,hp1,hl1,fw (Ag (by rw[C7,iw];lia)),λp2 hp2=>?_⟩;obtain⟨u2,hp3⟩:=Ay (o:=.lst ([V.non]++sV es)) hp2;have hl2:=u2 _ _ hl1;have s2:=u1.trans u2;generalize upd H1 p2 _=H2 at *;apply⟨p2,l,rfl,⟨_,SqL.of hp3⟩,⟨_,SqL.of hl2⟩,?_⟩;refine vP (SqL.of hp3) (SqL.of hl2) (λi=>((bgN es).take i).map λb:Bool=>V.str (Ar [b])) rfl (λi hi=>?_) (λi x y H3 R A hx hy s3 _ hA=>?_) (λD H3 hD3 s3 h3=>?_)
 ·rw[c5,eg]
  rw[C7] at hi;exact Ag (by lia)
 ·obtain⟨n,hn2,rfl⟩:=Ro hy
  have hi:=B0 hn2;obtain rfl:x=ahS es i:=by
   cases i with
   |zero=>exact(dh hx).symm
   |succ j=>
    have hx:(sV es)[j]?=some x:=hx;obtain⟨m,hm,rfl⟩:=Ro hx;unfold ahS ju;rw[if_neg (by lia),show j+1-1=j by lia,hm];rfl
  have hsc:kZ (V.str n) (ahS es i)=true:=by
   unfold ahS;split<;>rfl
  have hb:(bgN es)[i]?=some (!decide (V.str n=ahS es i)):=by
   unfold bgN;rw[df,ff hi];show some (decide (i=0\/es[i]?≠es[i-1]?))=some _;congr 1;unfold ahS
   by_cases h0:i=0
   ·rw[if_pos h0,decide_eq_true (zt h0:i=0\/es[i]?≠es[i-1]?),decide_eq_false (show ¬ V.str n=V.non by intro z;cases z)]
    rfl
   ·rw[if_neg h0,ft,hn2]
    obtain⟨y,hy2⟩:∃y,es[i-1]?=some y:=⟨_,c6 (by lia)⟩;rw[hy2];show _=!decide (V.str n=V.str y)
    by_cases e:n=y
    ·rw[decide_eq_false (by rintro(z|z);exact h0 z;exact z (by rw[e])),decide_eq_true (by rw[e])]
     rfl
    ·rw[decide_eq_true (.inr λz=>e (dh z)),decide_eq_false λz=>e (V.str.inj z)]
     rfl
  apply⟨hsc,?_⟩
  cases hb2:(!decide (V.str n=ahS es i)) with
  |true=>
   apply hA _ _ ?_ (Ah.refl _);rw[gn,hb,hb2,dj];rfl
  |false=>
   apply hA _ _ ?_ (Ah.refl _);rw[gn,hb,hb2,dj];rfl
 have hbl:(bgN es).length=es.length:=by unfold bgN;rw[c5,dn]
 apply⟨rfl,?_⟩;apply Wq (ls:=(bgN es).map λb=>[b]) ?_ ?_ ?_
 ·rw[h3,ej (by rw[hbl,C7,c8,C7,iw];lia),gu]
  rfl
 ·rw[Wf,hbl]
  lia
 rw[Wf];k_is;intro b db hb hdb hbd;refine⟨b,db,bgN es,rfl,Ac,by lia,λH5 s5 hB=>⟨rfl,?_⟩⟩;have s5:=G1 hb hdb s5;k_is;intro c dc hc hdc hcd;refine⟨c,dc,b,_,rfl,Ac,(hB.kp λc u _ e=>Je hc hdc _ _ e),λH6 s6 hC=>⟨rfl,?_⟩⟩;have s6:=G1 hc hdc s6;have s25:=(s2.trans s3).trans s5;exact q c H6 (s25.trans s6) (s25.free hc) hC
inductive Yb(vs:List V)(H:Hp)(Q:VK)(E:XK):Prop|mk(a:de)(xs:List V)(_:vs=[.ref a])(_:H a=some (.lst xs))(_:tG xs)(_:xs.length<=5000)(_:∀H',Ah H H'->Q .non H')
include T aq in
theorem P2 (F:Fun K "check_order" "check_order" Gm f fd):Ax P w K mg base CX0 3 f fd ["order"] Yb:=by
 exists F.ok D4
 obtain⟨a,xs,rfl,ha,hG,hn,q⟩:=h;refine⟨_,(Ab (tst 1 D4.nd (An lP (Bl (tpa Fw Aa)) (Am Aq (by rfl) T.bN B2 (tpa (pv 0) Aa)))) (Ae (Cl gg rfl (L9 rfl T.cf (tpa (pv 0) Aa)) (Mx rfl (Cu (tgn 2 D4.nd) (Cu (tgn 3 D4.nd) Js))) (Ab (B1 (PW.pt (Fv (Cm (Ci (Az aq hr.m (tpa (pv 3) (tpa Af (tpa (An D1 (Am Aq (by rfl) T.bN B2 (tpa (pv 0) Aa)) Af) Aa)))))) (Ge (Ci (tix Bu (pv 1) (pv 3)))))) (Ae B5)
  A7) (Ae (cX Fw (cQ (pv 1) (pv 3) Ph))))))),?_⟩
 apply⟨few (by simp),λp hp=>?_⟩;have t0:=Al (o:=.lst [V.bl false]) hp;apply⟨a,_,rfl,.inl (SqL.of (t0 _ _ ha)),?_⟩;apply⟨p,xs.length,_,rfl,rfl,Ac,by lia,by lia,fw (Ag (by simp;lia)),λm hm=>?_⟩;have hm0:=t0.free hm;have t1:=t0.trans (Al (o:=.lst (dy ((xs.length:Nat):Int).toNat [V.bl false]).flatten) hm);have hM:(upd (upd H p (.lst [V.bl false])) m (.lst (dy ((xs.length:Nat):Int).toNat [V.bl false]).flatten)) m=some (.lst ((dy xs.length false).map V.bl)):=by
  rw[Ac,fz,jO]
 generalize (upd (upd H p (.lst [V.bl false])) m (.lst (dy ((xs.length:Nat):Int).toNat [V.bl false]).flatten))=H0 at *;apply⟨a,rfl,⟨_,SqL.of (t1 _ _ ha)⟩,?_⟩;refine La (xs:=xs) (λk Y H1=>(∃(ms:Za5) (v2 v3:Option V),Y=[some (.ref a),some (.ref m),v2,v3]/\Met xs k ms/\H1 m=some (.lst (ms.map V.bl)))/\Ah H H1) ?_ (λk Y H1 _ h=>SqL.of (h.2 _ _ ha)) ?_ ?_
 ·exact⟨⟨_,_,_,rfl,oZ xs,hM⟩,t1⟩
 ·rintro k x Y H1 t hx ⟨⟨ms,v2,v3,rfl,hms,hm1⟩,s1⟩ ht
  have hk:=B0 hx;have st:=Al (o:=.tup [.int k,x]) ht;have hm2:=st _ _ hm1;have s2:=s1.trans st;generalize upd H1 t _=H2 at *;obtain⟨n,hxn,hnl,hno⟩:=hG k hk;rw[hx] at hxn;obtain rfl:=dh hxn;obtain⟨b,hb⟩:∃b,ms[n]?=some b:=⟨_,c6 (by rw[hms.1];exact hnl)⟩;obtain rfl:b=false:=by
   cases b with
   |false=>rfl
   |true=>
    obtain⟨j,hj,hxj⟩:=(hms.2 n true hb).mp rfl;exact absurd hxj (hno j hj)
  apply⟨a,_,rfl,.inl (SqL.of (s2 _ _ ha)),?_⟩;apply⟨n,0,_,rfl,by lia,by lia,?_⟩;apply Cd (SqL.of hm2) (Bj (sX hb)) ?_;apply nZ hm2 rfl (by rw[c5,hms.1];exact hnl) ?_;rw[kO];k_is;exact⟨⟨_,_,_,rfl,oE hms hx,Ac⟩,As s2 hm0⟩
 ·rintro Y H1 ⟨⟨ms,v2,v3,rfl,hms,hm1⟩,s1⟩
  exact q H1 s1
def isF:V->Bool
 |.bl false=>true
 |_=>false
def fAt (H:Hp)(m:de):Nat:=match H m with|some (.lst xs)=>xs.countP isF|_=>0
theorem xG (ms:Za5):(ms.map V.bl).countP isF=ms.count false:=by
 induction ms with
 |nil=>rfl
 |cons b r ih=>cases b<;>simp[isF,wo,nu,ih]
theorem mW {m:de}(h:H m=some (.lst (ms.map V.bl))):fAt H m=ms.count false:=by
 unfold fAt;rw[h];exact xG ms
theorem eV:∀{ms:Za5} {y:Nat},ms[y]?=some false->(ms.set y true).count false+1=ms.count false
 |[],_,h=>by cases h
 |b::r,0,h=>by
  cases h;simp
 |b::r,y+1,h=>by
  have ih:=eV (ms:=r) (y:=y) h;rw[List.set_cons_succ,nu,nu];lia
inductive Tu(vs:List V)(H:Hp)(Q:VK)(E:XK):Prop|mk(t:de)(ns:Za4)(_:vs=[.ref t])(_:H t=some (.tup (nV ns)))(_:Ord ns)(_:ns.length<=5000)(_:∀p (rs:List de) H',Ah H H'->H p=none->H' p=some (.lst (rs.map V.ref))->J8 H' rs (By ns ns.length)->Q (.ref p) H')
include T in
theorem Vz (F:Fun K "rounds_of" "rounds_of" Iv f fd):Ax P w K mg base CX0 1 f fd ["order"] Tu:=by
 exists F.ok Cn
 obtain⟨t,ns,rfl,ht,ho,hn,q⟩:=h;have hlV:(nV ns).length=ns.length:=by rw[c5]
 refine⟨_,(Ab (tst 1 Cn.nd (Bl Aa)) (Ab (tst 2 Cn.nd (An lP (Bl (tpa Fw Aa)) (Am Aq (by rfl) T.bN B2 (tpa (pv 0) Aa)))) (Ab (Cl gg rfl (De rfl T.bO (tpa (Am Aq (by rfl) T.bN B2 (tpa (pv 0) Aa)) Aa)) (tgn 3 Cn.nd) (Ab (tst 4 Cn.nd (Bl Aa)) (Ab (tst 5 Cn.nd (pv 3)) (Ab (G2 gg (Cm (Ci (tix Bu (pv 2) (pv 5)))) (Ab (cX Fw (cQ (pv 2) (pv 5) Ph)) (Ab (At (Bw ee fe fc Aw (pv 4) (tpa (pv 5) Aa))) (Ae (tst 5 Cn.nd (tix Du (pv 0) (pv 5))))))) (Ae (B1 (ttc Hb (Am Aq (by rfl) T.bN B2 (tpa (pv 4) Aa)) Af) (Ae (At (Bw ee fe fc Aw (pv 1) (tpa (pv 4) Aa))))
  A7)))))) (Ae (Ap (pv 1)))))),?_⟩
 apply⟨fq _,λp hp=>?_⟩;obtain⟨t0,e0⟩:=Ay (o:=.lst []) hp;generalize upd H p _=H0 at *;apply⟨few (by simp),λp1 hp1=>?_⟩;have t1:=Al (o:=.lst [V.bl false]) hp1;have s1:=t0.trans t1;have e1:=t1 _ _ e0;have f1:=@Ac H0 p1 (.lst [V.bl false]);generalize upd H0 p1 _=H1 at *;apply⟨t,_,rfl,.inr (SqT.of (s1 _ _ ht)),?_⟩;apply⟨p1,_,_,rfl,rfl,f1,by lia,by rw[hlV];lia,fw (Ag (by simp;lia)),λm hm=>?_⟩;have t2:=Al (o:=.lst (dy (((nV ns).length:Nat):Int).toNat [V.bl false]).flatten) hm;have s2:=s1.trans t2;have hm0:=s1.free hm;have e2:=t2 _ _ e1;have hpm:p≠m:=Aj e1 hm;have hM:(upd H1 m (.lst (dy (((nV ns).length:Nat):Int).toNat [V.bl false]).flatten)) m=some (.lst ((dy ns.length false).map V.bl)):=by
  rw[Ac,fz,hlV,jO]
 generalize (upd H1 m (.lst (dy (((nV ns).length:Nat):Int).toNat [V.bl false]).flatten))=H2 at *;apply⟨t,_,rfl,.inr (SqT.of (s2 _ _ ht)),?_⟩;apply⟨_,rfl,by lia,by rw[hlV];lia,?_⟩;rw[hlV,fz];refine Gu (λi Y H3=>∃(rs:List de) (ms:Za5) (v3 v4 v5:Option V),Y=[some (.ref t),some (.ref p),some (.ref m),v3,v4,v5]/\H3 p=some (.lst (rs.map V.ref))/\J8 H3 rs (By ns i)/\(∀r∈rs,r≠p/\r≠m)/\H3 m=some (.lst (ms.map V.bl))/\iS ms (By ns i).flatten ns.length/\Ah H H3) ?_ ?_ ?_
 ·exact⟨[],_,_,_,_,rfl,e2,⟨rfl,λi r R e=>by cases e⟩,(λr hr=>by cases hr),hM,jJ _,s2⟩
 ·rintro i Y H3 hi ⟨rs,ms,v3,v4,v5,rfl,hp3,hrs,hne,hm3,hml,s3⟩
  have hrl:=Pp ns i;rw[<-hrs.1] at hrl;apply⟨fq _,λa ha=>?_⟩;have ta:=Al (o:=.lst []) ha;have ha0:=s3.free ha;have hap:a≠p:=(Aj hp3 ha).symm;have ham:a≠m:=(Aj hm3 ha).symm;have har:∀r∈rs,r≠a:=λr hr=>by obtain⟨_,_,e⟩:=hrs.is hr;exact Aj e ha
  have s4:=s3.trans ta;have hp4:=ta _ _ hp3;have hm4:=ta _ _ hm3;have hrs4:=hrs.same ta;have ha4:=@Ac H3 a (.lst []);generalize upd H3 a _=H4 at *;k_is;have hrn:=zB ho hi;refine Fy (λY H5=>∃(ms:Za5) (j:Nat),Y=[some (.ref t),some (.ref p),some (.ref m),some (.int (0+(i:Int))),some (.ref a),some (.int (itr ns j i))]/\j<=rl ns i/\H5 p=some (.lst (rs.map V.ref))/\J8 H5 rs (By ns i)/\H5 m=some (.lst (ms.map V.bl))/\iS ms ((By ns i).flatten++seg ns j i) ns.length/\H5 a=some (.lst (nV (seg ns j i)))/\Ah H H5) (λ_ H5=>fAt H5 m)
   ⟨ms,0,by simp[itr],fq _,hp4,hrs4,hm4,by rw[show seg ns 0 i=[] from rfl,gd];exact hml,ha4,s4⟩ ?_
  rintro z Y H5 ⟨ms,j,rfl,hj,hp5,hrs5,hm5,hml5,ha5,s5⟩ hz;rw[mW hm5] at hz;have hy:=Ef ho hi j;have hsl:=eG ns j i;obtain⟨b,hb5⟩:∃b,ms[itr ns j i]?=some b:=⟨_,c6 (by rw[hml5.1];exact hy)⟩;have hbm:=hml5.2 _ b hb5;rw[rF ho hi hj] at hbm;apply Cd (SqL.of hm5) (Bj (sX hb5)) ?_
  cases b with
  |false=>
   have hlt:j<rl ns i:=by
    rcases ly hj with h|h
    ·exact h
    ·have:=hbm.mpr h
     cases this
   apply Mv ?_;apply nZ hm5 rfl (by rw[c5,hml5.1];exact hy) ?_;rw[kO];have hct:=eV hb5;have hm6:=@Ac H5 m (.lst ((ms.set (itr ns j i) true).map V.bl));have s6:=As (o:=.lst ((ms.set (itr ns j i) true).map V.bl)) s5 hm0;have ha6:upd H5 m (.lst ((ms.set (itr ns j i) true).map V.bl)) a=some (.lst (nV (seg ns j i))):=by rw[Ai ham];exact ha5
   have hp6:upd H5 m (.lst ((ms.set (itr ns j i) true).map V.bl)) p=some (.lst (rs.map V.ref)):=by rw[Ai hpm];exact hp5
   have hrs6:J8 (upd H5 m (.lst ((ms.set (itr ns j i) true).map V.bl))) rs (By ns i):=hrs5.upd λr hr=>(hne r hr).2;generalize upd H5 m _=H6 at *;apply⟨.inl ⟨rfl,_,SqL.of ha6⟩,?_⟩;apply A6 ha6 (by rw[c5];exact Ag (by lia)) ?_;apply Fg (SqT.of ((As s6 ha0) _ _ ht)) (Bj (sR hy)) ?_;apply⟨⟨ms.set (itr ns j i) true,j+1,rfl,hlt,by rw[Ai hap.symm];exact hp6,hrs6.upd har,by rw[Ai ham.symm];exact hm6,by rw[Wg,<-du];exact hml5.put,by rw[Ac,Ho,Wg],As s6 ha0⟩,?_⟩;rw[mW (ms:=ms.set (itr ns j i) true) (by rw[Ai ham.symm];exact hm6)];lia
  |true=>
   have hjr:=hbm.mp rfl;have en:=S1 ho hi;have ef:=iX ho hi;rw[<-hjr] at en ef;apply⟨a,_,rfl,.inl (SqL.of ha5),?_⟩;k_is;rw[c5];refine Ct (λhl=>?_) (λhl=>?_)
   ·k_is
    rw[if_pos (by lia)] at en;refine⟨.inl ⟨rfl,_,SqL.of hp5⟩,?_⟩;apply A6 hp5 (by rw[c5];exact Ag (by lia)) ?_;apply⟨rs++[a],ms,_,_,_,rfl,by rw[Ac,dj];rfl,?_,λr hr=>?_,by rw[Ai hpm.symm];exact hm5,by rw[ef];exact hml5,As s5 hp⟩
    ·rw[en]
     exact(hrs5.upd λr hr=>(hne r hr).1).snoc (by rw[Ai hap];exact ha5)
    ·rcases f8.mp hr with hr|hr
     ·exact hne r hr
     ·rw[fg.mp hr]
      exact⟨hap,ham⟩
   ·k_is
    rw[if_neg (by lia)] at en;exact⟨rs,ms,_,_,_,rfl,hp5,by rw[en];exact hrs5,hne,hm5,by rw[ef];exact hml5,s5⟩
 ·rintro Y H3 ⟨rs,ms,v3,v4,v5,rfl,hp3,hrs,hne,hm3,hml,s3⟩
  k_is;exact q p rs H3 s3 hp hp3 hrs
theorem jW (h:n<=10000000):n<=sizeLine:=gm h (by decide)
def jOf (ns:Za4)(st:Nat):List (Nat×Nat):=jmp st (By ns ns.length)
inductive Wi(vs:List V)(H:Hp)(Q:VK)(E:XK):Prop|mk(t:de)(ns:Za4)(st:Nat)(_:vs=[.ref t,.int st])(_:H t=some (.tup (nV ns)))(_:Ord ns)(_:ns.length<=3000)(_:0<st)(_:∀d H',Ah H H'->H d=none->H' d=some (.dK (kvJ (jOf ns st)))->Q (.ref d) H')
theorem T2 {rs:List (Za4)}(k:Nat)(h:rs.flatten.Nodup):(rs.take k).flatten.Nodup:=by
 rw[<-jc k rs,ke,md] at h;exact h.1
include T in
theorem N6 (F:Fun K "shortcuts_of" "shortcuts_of" F4 f fd)(aV:Cal P w K mg base "rounds_of" 1 ["order"] Tu):Ax P w K mg base CX0 2 f fd ["order","step"] Wi:=by
 exists F.ok Dq
 obtain⟨t,ns,st,rfl,ht,ho,hn,hst,q⟩:=h;refine⟨_,(Ab (tst 2 Dq.nd Uy) (Ab (Cl gg rfl (C2 (Az aV hr.m (tpa (pv 0) Aa))) (tgn 3 Dq.nd) (Ae (B1 (ttc Hb (Am Aq (by rfl) T.bN B2 (tpa (pv 3) Aa)) (pv 1)) (Ab (tst 4 Dq.nd (oV (pv 3) (pv 1))) (Ae (At (Bw x0 xw PySem.F.type_dict_update Yy (pv 2) (tpa (pR rfl rfl T.cG rfl T.cn (tpa (pv 4) (tpa (An Pj (Cg Oi (pv 4) (Bz (Di Cb Af)) Hh) (Cg Oi (pv 4) Hh (Bz (Di Cb Af)))) Aa))) Aa)))))
  A7))) (Ae (Ap (pv 2))))),?_⟩
 k_is;intro d hd;obtain⟨t0,e0⟩:=Ay (o:=.dK []) hd;generalize upd H d _=H0 at *;apply⟨t,ns,rfl,t0 _ _ ht,ho,by lia,λp rs H1 s1 f1 e1 hrs=>?_⟩;have s01:=t0.trans s1;obtain⟨hr1,hr2,hr3⟩:=Gp ho ns.length (c9 _);have hrl:=Pp ns ns.length;refine⟨p,rfl,⟨_,SqL.of e1⟩,?_⟩;refine G7 (xs:=rs.map V.ref) (λi Y H2=>∃(v3 v4:Option V),Y=[some (.ref t),some (.int st),some (.ref d),v3,v4]/\H2 d=some (.dK (kvJ (jmp st ((By ns ns.length).take i))))/\H2 p=some (.lst (rs.map V.ref))/\J8 H2 rs (By ns ns.length)/\Ah H H2) ?_ (λk Y H2 _ h=>by obtain⟨_,_,_,_,h,_⟩:=h;exact SqL.of h) ?_ ?_
 ·exact⟨_,_,rfl,s1 _ _ e0,e1,hrs,s01⟩
 ·rintro i x Y H2 hx ⟨v3,v4,rfl,hd2,hp2,hrs2,s2⟩
  have hi:=B0 hx;rw[c5] at hi;rw[df] at hx;obtain⟨r,hr,rfl⟩:∃r,rs[i]?=some r/\V.ref r=x:=by
   cases e:rs[i]? with
   |none=>rw[e] at hx;cases hx
   |some r=>rw[e] at hx;exact⟨r,rfl,dh hx⟩
  have hi2:i<(By ns ns.length).length:=by rw[<-hrs2.1];exact hi
  have hRi:(By ns ns.length)[i]?=some (By ns ns.length)[i]:=c6 hi2;have hqr:=hrs2.2 i r _ hr hRi;have htk:(By ns ns.length).take (i+1)=(By ns ns.length).take i++[(By ns ns.length)[i]]:=by rw[gn,hRi];rfl
  have hfn:=T2 (i+1) hr2;have hjn:=Jn hst hfn;rw[htk,Rk] at hjn;have hjl:(jmp st ((By ns ns.length).take i)).length<=3000:=by
   have h1:=Jp ns.length ((jmp st ((By ns ns.length).take i)).map (·.1)) (Jn hst (T2 i hr2)) λx hx=>by
    obtain⟨R,hR,hxR⟩:=jq.mp (dH hst hx);exact eO ho (c9 _) (jq.mpr ⟨R,ky hR,hxR⟩)
   rw[c5] at h1;lia
  obtain⟨c,hc,hRc⟩:=hr1 _ (mv hi2);have hRl:(By ns ns.length)[i].length<=3000:=by rw[hRc,Jw];have:=(Ce ho hc).2.2.1;lia
  have hRn:(By ns ns.length)[i].Nodup:=by rw[hRc];exact Th ho hc
  generalize (By ns ns.length)[i]=R at *;apply⟨r,_,rfl,.inl (SqL.of hqr),?_⟩;k_is;rw[c5];refine Ct (λhlg=>?_) (λhlg=>?_)
  ·have hlg:st<R.length:=by lia
   apply⟨r,_,st,rfl,rfl,hst,SqL.of hqr,λa ha=>?_⟩;rw[rN hst];have hmd:=Nf hst hRn;have hml:(Do st R).length<=3000:=by
    rw[G5];exact gm (Nat.div_le_of_le_mul (by
     have:1*R.length<=st*R.length:=p8 _ hst;have:R.length<=st*R.length:=by lia
     have h4:st*1<=st*R.length:=uw _ (by lia);rcases tm 1 st with h5|h5
     ·have:R.length+st<=st*R.length+1:=by
       have h6:(st-1)*1<=(st-1)*R.length:=uw _ (by lia);have h7:st*R.length=(st-1)*R.length+R.length:=by rw[GP,AC];lia
       lia
      lia
     ·have:st=1:=by lia
      subst this;lia)) hRl
   have hpr:prs st R=(Do st R).zip (rot (Do st R)):=by unfold prs;rw[if_pos hlg]
   generalize hmk:Do st R=mk at *;have t3:=Al (o:=.lst (nV mk)) ha;have s3:=s2.trans t3;have ha3:=@Ac H2 a (.lst (nV mk));have hd3:=t3 _ _ hd2;have hp3:=t3 _ _ hp2;have hrs3:=hrs2.same t3;generalize upd H2 a _=H3 at *;apply⟨.inr (.inr (.inl ⟨rfl,.inl ⟨_,hd3⟩⟩)),?_⟩;apply⟨a,_,rfl,SqL.of ha3,λb1 hb1=>?_⟩;obtain⟨t4,hb4⟩:=Ay (o:=.lst (Gj (nV mk) (some (-1)) none)) hb1;have ha4:=t4 _ _ ha3;have s4:=s3.trans t4;have hd4:=t4 _ _ hd3;have hp4:=t4 _ _ hp3;have hrs4:=hrs3.same t4;generalize upd H3 b1 _=H4 at *;apply⟨a,_,rfl,SqL.of ha4,λb2 hb2=>?_⟩;obtain⟨t5,hb5⟩:=Ay (o:=.lst (Gj (nV mk) none (some (-1)))) hb2;have ha5:=t5 _ _ ha4;have hc5:=t5 _ _ hb4;have s5:=s4.trans t5;have hd5:=t5 _ _ hd4;have hp5:=t5 _ _ hp4;have hrs5:=hrs4.same t5;generalize upd H4 b2 _=H5 at *;have hlen:=congrArg ue (fV mk);rw[c8,c5,L4] at hlen;apply⟨b1,b2,_,_,rfl,rfl,hc5,hb5,jW (by lia),λc hc=>?_⟩;rw[fV];obtain⟨t6,hc6⟩:=Ay (o:=.lst (nV (rot mk))) hc;have ha6:=t6 _ _ ha5;have s6:=s5.trans t6;have hd6:=t6 _ _ hd5;have hp6:=t6 _ _ hp5;have hrs6:=hrs5.same t6;generalize upd H5 c _=H6 at *;have emr:N3 [] (mk.map λn:Nat=>(n:Int)) (nV (rot mk))=kvJ (prs st R):=by
    rw[hpr];exact eW mk (rot mk) [] hmd (L4 mk).symm
   have hpl:(prs st R).length<=mk.length:=by rw[hpr,l6,L4];lia
   refine⟨a,c,mk.map (λn:Nat=>(n:Int)),nV (rot mk),rfl,by rw[gu];exact SqL.of ha6,SqL.of hc6,by rw[c5,c5,L4],by rw[emr,c5,c5];exact hpl,λg hg=>?_⟩;rw[emr];obtain⟨t7,hg7⟩:=Ay (o:=.dK (kvJ (prs st R))) hg;have s7:=s6.trans t7;have hd7:=t7 _ _ hd6;have hp7:=t7 _ _ hp6;have hrs7:=hrs6.same t7;have hdg:d≠g:=Aj hd6 hg;generalize upd H6 g _=H7 at *;apply gN hdg hd7 hg7 (jW (by rw[c5,c5];lia)) ?_;k_is;rw[Tm _ _ hjn];refine⟨_,_,rfl,by rw[Ac,htk,Rk],?_,hrs7.upd λr hr e=>?_,As s7 hd⟩
   ·have hne:p≠d:=En hp7 hd7 (by intro z;cases z)
    rw[Ai hne];exact hp7
   ·obtain⟨_,_,er⟩:=hrs7.is hr
    rw[e,hd7] at er;cases er
  ·k_is
   have hpr:prs st R=[]:=by unfold prs;rw[if_neg (by lia)]
   exact⟨_,_,rfl,by rw[htk,Rk,hpr,gd];exact hd2,hp2,hrs2,s2⟩
 ·rintro Y H2 ⟨v3,v4,rfl,hd2,hp2,hrs2,s2⟩
  k_is;rw[c5,hrs2.1,ej (c9 _)] at hd2;exact q d H2 s2 hd hd2
theorem gG (o:Ord ns):tG (nV ns):=λj hj=>by
 rw[c5] at hj;refine⟨ns[j],Pu (c6 hj),by rw[c5];exact o.lt _ (mv hj),λi hi e=>?_⟩;rw[Pu (c6 (show i<ns.length by lia))] at e;have:=V.int.inj (dh e);exact(ie.mp o.nd) i j (by lia) hj hi (by lia)
def F7 (C:de)(H:Hp)(x:de)(ns:Za4)(st:Nat):Prop:=∃dx t d,H x=some (.ins C dx [("onward",.ref t),("leaps",.ref d)])/\H t=some (.tup (nV ns))/\H d=some (.dK (kvJ (jOf ns st)))
theorem F7.same {x:de}{st:Nat}(s:Ah H H')(h:F7 C H x ns st):F7 C H' x ns st:=by
 obtain⟨dx,t,d,h1,h2,h3⟩:=h;exact⟨dx,t,d,s _ _ h1,s _ _ h2,s _ _ h3⟩
theorem F7.kp {x:de}{st:Nat}(h:F7 C H x ns st)(s:Kp H H'):F7 C H' x ns st:=by
 obtain⟨dx,t,d,h1,h2,h3⟩:=h;exact⟨dx,t,d,s.k h1,s.k h2,s.k h3⟩
inductive Jm (C:de)(vs:List V)(H:Hp)(Q:VK)(E:XK):Prop|mk(x dx a:de)(ns:Za4)(st:Nat)(_:vs=[.ref x,.ref a,.int st])(_:H x=some (.ins C dx []))(_:H a=some (.lst (nV ns)))(_:Ord ns)(_:ns.length<=3000)(_:0<st)(_:∀H',SameBut x H H'->F7 C H' x ns st->Q .non H')
variable (ah:Qa K ad)
include T ah in
theorem Qg (F:Xj K "__init__" "Shortcuts.__init__" Br f fd)(aW:Cal P w K mg base "check_order" 3 ["order"] Yb)(aX:Cal P w K mg base "shortcuts_of" 2 ["order","step"] Wi):Ax P w K mg base (CXE P w) 4 f fd ["self","order","step"] (Jm ad):=by
 exists F.okE L3
 obtain⟨x,dx,a,ns,st,rfl,hx,ha,ho,hn,hst,q⟩:=h;refine⟨_,(Ab (At (Az aW hr.m (tpa (pv 1) Aa))) (Ab (tsf (pv 0) (Cv Dn (by rfl) T.bX J3 (tpa (pv 1) Aa))) (Ae (tsf (pv 0) (Az aX hr.m (tpa (tfl (pv 0)) (tpa (pv 2) Aa))))))),?_⟩
 apply⟨a,nV ns,rfl,ha,gG ho,by rw[c5];lia,λH1 s1=>?_⟩;have hx1:=s1 _ _ hx;have ha1:=s1 _ _ ha;apply⟨a,_,rfl,.inl ⟨SqL.of ha1,λt ht=>?_⟩⟩;have t2:=Al (o:=.tup (nV ns)) ht;have hx2:=t2 _ _ hx1;have ht2:=@Ac H1 t (.tup (nV ns));have s2:=s1.trans t2;generalize upd H1 t _=H2 at *;have htx:t≠x:=En ht2 hx2 (by intro z;cases z);apply C1 hx2 ah.cl ah.bT (by decide) ?_;have hx3:upd H2 x (.ins ad dx (Ek "onward" (.ref t) [])) x=some (.ins ad dx [("onward",.ref t)]):=Ac;have ht3:upd H2 x (.ins ad dx (Ek "onward" (.ref t) [])) t=some (.tup (nV ns)):=by rw[Ai htx];exact ht2
 have s3:=s2.but.trans (A4 (H:=H2) (x:=x) (o:=.ins ad dx (Ek "onward" (.ref t) [])));generalize upd H2 x _=H3 at *;apply⟨x,ad,dx,_,.ref t,rfl,hx3,ah.cl,ah.bT,rfl,?_⟩;apply⟨t,ns,st,rfl,ht3,ho,hn,hst,λd H4 s4 f4 e4=>?_⟩;have hdx:d≠x:=En e4 (s4 _ _ hx3) (by intro z;cases z);apply C1 (s4 _ _ hx3) ah.cl ah.cp (show 1<1000 by decide) ?_;k_is;exact q _ ((s3.trans s4.but).trans A4) ⟨dx,t,d,Ac,by rw[Ai htx];exact s4 _ _ ht3,by rw[Ai hdx];exact e4⟩
inductive fW (C:de)(vs:List V)(H:Hp)(Q:VK)(E:XK):Prop|mk(x:de)(ns:Za4)(st k v:Nat)(_:vs=[.ref x,.int k])(_:F7 C H x ns st)(_:ns[k]?=some v)(_:Q (.int v) H)
include T ah in
theorem Qn (F:Fun K "there" "Shortcuts.there" D6 f fd):Ax P w K mg base CX0 1 f fd ["self","place"] (fW ad):=by
 exists F.ok Kt
 obtain⟨x,ns,st,k,v,rfl,⟨dx,t,d,hx,ht,hd⟩,hv,q⟩:=h;refine⟨_,(Ae (Ap (tix Du (tfl (pv 0)) (pv 1)))),?_⟩;apply⟨x,ad,dx,_,.ref t,rfl,hx,ah.cl,ah.bT,rfl,?_⟩;k_is;exact Fg (SqT.of ht) (Bj (Pu hv)) q
inductive Tw (C:de)(vs:List V)(H:Hp)(Q:VK)(E:XK):Prop|mk(x:de)(ns:Za4)(st p:Nat)(lg:Bool)(ws:Za4)(_:vs=[.ref x,.int p])(_:F7 C H x ns st)(_:Ord ns)(_:0<st)(_:p<ns.length)(_:Way ns (jOf ns st) p lg ws)(_:ws.length<=5000)(_:∀a H',Ah H H'->H a=none->H' a=some (.lst (nV ws))->Q (.ref a) H')
include T ah in
theorem Qi (F:Fun K "way_back" "Shortcuts.way_back" C6 f fd):Ax P w K mg base CX0 1 f fd ["self","place"] (Tw ad):=by
 exists F.ok Bc
 obtain⟨x,ns,st,p,lg,ws,rfl,hS,ho,hst,hp,hW,hwl,q⟩:=h;obtain⟨dx,t,d,hx,ht,hd⟩:=hS;have hq:∀i y,look (jOf ns st) i=some y->y<ns.length:=λi y h=>dU ho hst h;generalize jOf ns st=J at *;obtain⟨t0,hT,hE⟩:∃t0,To ns J p t0/\((look J (itr ns t0 p)=none/\ws=pth ns t0 p)\/∃y u,look J (itr ns t0 p)=some y/\sN ns p y u/\ws=pth ns t0 p++pth ns u y):=by
  cases hW with
  |short h hn=>exact⟨_,h,.inl ⟨hn,rfl⟩⟩
  |long h hn hf=>exact⟨_,h,.inr ⟨_,_,hn,hf,rfl⟩⟩
 have htl:t0+1<=5000:=by
  rcases hE with⟨_,e⟩|⟨_,_,_,_,e⟩
  ·rw[e,Bm] at hwl;exact hwl
  ·rw[e,c8,Bm,Bm] at hwl;lia
 refine⟨_,(Ab (tst 2 Bc.nd (Bl (tpa (pv 1) Aa))) (Ab (tst 3 Bc.nd (pv 1)) (Ab (G2 gg (PW.pt (cS (Ol jB (pv 3) (tfl (pv 0)) rfl) (U0 (ttc O7 (tix Du (tfl (pv 0)) (pv 3)) (pv 1))))) (Ab (tst 3 Bc.nd (tix Du (tfl (pv 0)) (pv 3))) (Ae (At (Bw ee fe fc Aw (pv 2) (tpa (pv 3) Aa)))))) (Ab (B1 (Ol vF (pv 3) (tfl (pv 0)) rfl) (Ab (tst 3 Bc.nd (tix rC (tfl (pv 0)) (pv 3))) (Ae (At (Bw ee fe fc Aw (pv 2) (tpa (pv 3) Aa)))))
  A7) (Ab (G2 gg (ttc O7 (tix Du (tfl (pv 0)) (pv 3)) (pv 1)) (Ab (tst 3 Bc.nd (tix Du (tfl (pv 0)) (pv 3))) (Ae (At (Bw ee fe fc Aw (pv 2) (tpa (pv 3) Aa)))))) (Ae (Ap (pv 2)))))))),?_⟩
 apply⟨few (by simp),λa ha=>?_⟩;have s0:=Al (o:=.lst [V.int (p:Int)]) ha;have e0:upd H a (.lst [V.int (p:Int)]) a=some (.lst (nV (pth ns 0 p))):=Ac;generalize upd H a _=H0 at *;apply Fy (λY H1=>∃i,Y=[some (.ref x),some (.int p),some (.ref a),some (.int (itr ns i p))]/\i<=t0/\H1 a=some (.lst (nV (pth ns i p)))/\Ah H H1) (λ_ H1=>t0+1-T4 H1 a) ⟨0,rfl,fq _,e0,s0⟩ ?_;rintro z Y H1 ⟨i,rfl,hi,ha1,s1⟩ hz;rw[E3 ha1,c5,Bm] at hz;have hil:=Ef ho hp i;have onw:∀{G:Hp} {R:VK},Ah H G->∀y:Nat,y<ns.length->R (.int (nx ns y)) G->qJ K (.ref t) (.int y) G R:=λsg y hy r=>Fg (SqT.of (sg _ _ ht)) (Bj (sR hy)) r;apply⟨x,ad,dx,_,.ref d,rfl,s1 _ _ hx,ah.cl,ah.cp,rfl,?_⟩;refine pH (s1 _ _ hd) ?_;rw[Y6]
 by_cases hlt:i<t0
 ·obtain⟨f1,f2⟩:=hT.free i hlt
  rw[f1,show(!(none:Option Nat).isSome)=true from rfl];apply⟨x,ad,dx,_,.ref t,rfl,s1 _ _ hx,ah.cl,ah.bT,rfl,?_⟩;apply onw s1 _ hil ?_;k_is;have f2:nx ns (itr ns i p)≠p:=f2;refine J5 (λ_=>?_) (λhc=>absurd (vN.mp hc) f2)
  ·apply Mv ?_;apply⟨x,ad,dx,_,.ref t,rfl,s1 _ _ hx,ah.cl,ah.bT,rfl,?_⟩;apply onw s1 _ hil ?_;apply⟨.inl ⟨rfl,_,SqL.of ha1⟩,?_⟩;apply A6 ha1 (by rw[c5,Bm];exact Ag (by lia)) ?_;apply⟨⟨i+1,rfl,hlt,by rw[Ac,Ho,Xd];rfl,As s1 ha⟩,?_⟩;rw[E3 Ac,c8,c5,Bm];simp;lia
 ·obtain rfl:i=t0:=by lia
  rcases hE with⟨hn,e⟩|⟨y,u,hn,hF,e⟩
  ·have hst2:nx ns (itr ns i p)=p:=by
    rcases hT.stop with h|h
    ·rw[hn] at h;cases h
    ·exact h
   rw[hn,show(!(none:Option Nat).isSome)=true from rfl];apply⟨x,ad,dx,_,.ref t,rfl,s1 _ _ hx,ah.cl,ah.bT,rfl,?_⟩;apply onw s1 _ hil ?_;rw[hst2];apply J5 (λh=>absurd rfl h) (λ_=>?_);apply⟨x,ad,dx,_,.ref d,rfl,s1 _ _ hx,ah.cl,ah.cp,rfl,?_⟩;refine tQ (s1 _ _ hd) ?_;rw[Y6,hn,show(none:Option Nat).isSome=false from rfl];apply Fy (λY H2=>Y=[some (.ref x),some (.int p),some (.ref a),some (.int (itr ns i p))]/\H2=H1) (λ_ _=>0) ⟨rfl,rfl⟩ ?_;rintro z Y H2 ⟨rfl,rfl⟩ _;apply⟨x,ad,dx,_,.ref t,rfl,s1 _ _ hx,ah.cl,ah.bT,rfl,?_⟩;apply onw s1 _ hil ?_;rw[hst2];apply J5 (λh=>absurd rfl h) (λ_=>?_);k_is;exact q a _ s1 ha (by rw[e];exact ha1)
  ·have hul:i+1+(u+1)<=5000:=by rw[e,c8,Bm,Bm] at hwl;exact hwl
   have hy:=hq _ _ hn;rw[hn,show(!(some y).isSome)=false from rfl];apply⟨x,ad,dx,_,.ref d,rfl,s1 _ _ hx,ah.cl,ah.cp,rfl,?_⟩;refine tQ (s1 _ _ hd) ?_;rw[Y6,hn,show(some y).isSome=true from rfl];apply⟨x,ad,dx,_,.ref d,rfl,s1 _ _ hx,ah.cl,ah.cp,rfl,?_⟩;apply zW (v:=.int y) (s1 _ _ hd) (by rw[On,hn];rfl) ?_;apply⟨.inl ⟨rfl,_,SqL.of ha1⟩,?_⟩;apply A6 ha1 (by rw[c5,Bm];exact Ag (by lia)) ?_;have s2:=As (o:=.lst (nV (pth ns i p)++[V.int y])) s1 ha;have ha2:upd H1 a (.lst (nV (pth ns i p)++[V.int y])) a=some (.lst (nV (pth ns i p++pth ns 0 y))):=by rw[Ac,Ho];rfl
   generalize upd H1 a _=H2 at *;apply Fy (λY H3=>∃j,Y=[some (.ref x),some (.int p),some (.ref a),some (.int (itr ns j y))]/\j<=u/\H3 a=some (.lst (nV (pth ns i p++pth ns j y)))/\Ah H H3) (λ_ H3=>i+1+(u+1)-T4 H3 a) ⟨0,rfl,fq _,ha2,s2⟩ ?_;rintro z Y H3 ⟨j,rfl,hj,ha3,s3⟩ hz;rw[E3 ha3,c5,c8,Bm,Bm] at hz;have hjl:=Ef ho hy j;apply⟨x,ad,dx,_,.ref t,rfl,s3 _ _ hx,ah.cl,ah.bT,rfl,?_⟩;apply onw s3 _ hjl ?_;k_is
   by_cases hju:j<u
   ·have f2:nx ns (itr ns j y)≠p:=hF.free j hju
    refine J5 (λ_=>?_) (λh=>absurd (vN.mp h) f2);apply Mv ?_;apply⟨x,ad,dx,_,.ref t,rfl,s3 _ _ hx,ah.cl,ah.bT,rfl,?_⟩;apply onw s3 _ hjl ?_;apply⟨.inl ⟨rfl,_,SqL.of ha3⟩,?_⟩;apply A6 ha3 (by rw[c5,c8,Bm,Bm];exact Ag (by lia)) ?_;apply⟨⟨j+1,rfl,hju,by rw[Ac,Ho,Xd,<-du];rfl,As s3 ha⟩,?_⟩;rw[E3 Ac,c8,c5,c8,Bm,Bm];simp;lia
   ·obtain rfl:j=u:=by lia
    have f2:nx ns (itr ns j y)=p:=hF.stop;refine J5 (λh=>absurd (vN.mpr f2) h) (λ_=>?_);k_is;exact q a _ s3 ha (by rw[e];exact ha3)
inductive mI (C:de)(vs:List V)(H:Hp)(Q:VK)(E:XK):Prop|mk(x:de)(ns:Za4)(st p:Nat)(lg:Bool)(ws:Za4)(l:Nat)(_:vs=[.ref x,.int p])(_:F7 C H x ns st)(_:Ord ns)(_:0<st)(_:p<ns.length)(_:Way ns (jOf ns st) p lg ws)(_:ws.length<=5000)(_:ws[ws.length-1]?=some l)(_:∀H',Ah H H'->Q (.int l) H')
theorem Hr {v:V}(h:xs[xs.length-1]?=some v):atI xs (-1)=some v:=by
 have hl:=B0 h;unfold atI ixN;rw[if_neg (by decide),if_pos (by lia)];show xs[((-1:Int)+(xs.length:Int)).toNat]?=_;rw[show((-1:Int)+(xs.length:Int)).toNat=xs.length-1 by lia];exact h
include T ah in
theorem Qq (F:Fun K "back" "Shortcuts.back" Ep f fd)(aY:Mth P w K mg base ad "way_back" 1 ["self","place"] (Tw ad)):Ax P w K mg base CX0 2 f fd ["self","place"] (mI ad):=by
 exists F.ok Lb
 obtain⟨x,ns,st,p,lg,ws,l,rfl,hS,ho,hst,hp,hW,hwl,hl,q⟩:=h;obtain⟨dx,t,d,hx,ht,hd⟩:=hS;refine⟨_,(Ae (Ap (tix Bu (Ie aY hr.m (pv 0) (tpa (pv 1) Aa)) (Di Cb Af)))),?_⟩;apply⟨x,dx,_,rfl,hx,rfl,?_⟩;apply⟨x,ns,st,p,lg,ws,rfl,⟨dx,t,d,hx,ht,hd⟩,ho,hst,hp,hW,hwl,λa H1 s1 f1 e1=>?_⟩;apply Cd (SqL.of e1) (Hr (by rw[c5];exact Pu hl)) ?_;k_is;exact q H1 s1
def hts (l:Za5)(i:Nat):List Int:=(di i).map λj=>hgt l (j+1)
theorem pX (l:Za5)(i:Nat):hts l (i+1)=hts l i++[hgt l (i+1)]:=by
 unfold hts;rw[ik,dj];rfl
def htB (l:Za5)(b:Int)(i:Nat):List Int:=(hts l i).map (b + ·)
inductive Rp(vs:List V)(H:Hp)(Q:VK)(E:XK):Prop|mk(l:Za5)(bg:Int)(_:vs=[.str (Ar l),.int bg])(_:l.length<=1000)(_:∀p H',Ah H H'->H p=none->H' p=some (.lst ((htB l bg l.length).map V.int))->Q (.ref p) H')
include T in
theorem Sb (F:Fun K "heights_of" "heights_of" Hf f fd):Ax P w K mg base CX0 1 f fd ["text","begin"] Rp:=by
 exists F.ok Dj
 obtain⟨l,bg,rfl,hl,q⟩:=h;refine⟨_,(Ab (tst 2 Dj.nd (pv 1)) (Ab (tst 3 Dj.nd (Bl Aa)) (Ab (Cl gg rfl (Zl (pv 0)) (tgn 4 Dj.nd) (Ab (tau 2 Dj.nd (Gw (ttc Ig (pv 4) Bo) Af (Di Cb Af)) R0) (Ae (At (Bw ee fe fc Aw (pv 3) (tpa (pv 2) Aa)))))) (Ae (Ap (pv 3)))))),?_⟩
 apply⟨fq _,λp hp=>?_⟩;apply⟨_,rfl,?_⟩;refine fP (λi Y H1=>∃v:Option V,Y=[some (.str (Ar l)),some (.int bg),some (.int (bg+hgt l i)),some (.ref p),v]/\H1 p=some (.lst ((htB l bg i).map V.int))/\Ah H H1) ⟨_,by rw[show bg+hgt l 0=bg by unfold hgt;simp];rfl,Ac,Al hp⟩ ?_ ?_
 ·rintro i c Y H1 hc ⟨v,rfl,hp1,sm⟩
  obtain⟨b,hb,rfl⟩:=Vo hc;have hi:=B0 hb;have hh:=K8 hb;have hz1:((htB l bg i).map V.int).length<sizeLine:=by
   rw[c5];unfold htB hts;rw[c5,c5,dn];exact Db (by lia)
  have fin:∀d:Int,hgt l (i+1)=hgt l i+d->∃v:Option V,[some (V.str (Ar l)),some (V.int bg),some (V.int (bg+hgt l i+d)),some (V.ref p),some (V.str (sgn (if b then 49 else 48)))]=[some (V.str (Ar l)),some (V.int bg),some (V.int (bg+hgt l (i+1))),some (V.ref p),v] /\
    (upd H1 p (.lst ((htB l bg i).map V.int++[V.int (bg+hgt l i+d)]))) p=some (.lst ((htB l bg (i+1)).map V.int))/\Ah H (upd H1 p (.lst ((htB l bg i).map V.int++[V.int (bg+hgt l i+d)]))):=λd hd=>by
   refine⟨_,by rw[hd,EQ],?_,λb' u e=>?_⟩
   ·unfold htB
    rw[Ac,pX,hd,dj,dj,EQ];rfl
   ·rw[Ai (Aj e hp)]
    exact sm _ _ e
  apply Ct (λh1=>?_) (λh1=>?_)
  ·have hd:hgt l (i+1)=hgt l i+1:=by cases b with|true=>exact hh|false=>exact absurd h1 (by decide)
   apply⟨.inl ⟨rfl,_,SqL.of hp1⟩,?_⟩;k_is;exact A6 hp1 hz1 (fin 1 hd)
  ·have hd:hgt l (i+1)=hgt l i + -1:=by cases b with|false=>exact hh|true=>exact absurd rfl h1
   apply⟨.inl ⟨rfl,_,SqL.of hp1⟩,?_⟩;k_is;exact A6 hp1 hz1 (fin (-1) hd)
 ·rintro Y H1 ⟨v,rfl,hp1,sm⟩
  rw[show(Ar l).cps.size=l.length from A0 l] at *;k_is;exact q p H1 sm hp hp1
inductive eB(vs:List V)(H:Hp)(Q:VK)(E:XK):Prop|mk(l:Za5)(_:vs=[.str (Ar l)])(_:Vs 0 l)(_:l.length<=8000)(_:∀H',Ah H H'->Q .non H')
include T in
theorem Um (F:Fun K "check_row" "check_row" Jb f fd):Ax P w K mg base CX0 1 f fd ["text"] eB:=by
 exists F.ok Ed
 obtain⟨l,rfl,hv,hn,q⟩:=h;refine⟨_,(Ab (B1 (Cm (Ci (Am Bx (by rfl) T.bQ Bk (tpa (pv 0) (tpa (Eb (v:=.ty "str") rfl T.cB jU rfl) Aa))))) (Ae B5)
  A7) (Ab (tst 1 Ed.nd Af) (Ab (Cl gg rfl (pD rfl T.cf (tpa (pv 0) Aa)) (Mx rfl (Cu (tgn 2 Ed.nd) (Cu (tgn 3 Ed.nd) Js))) (Ab (tau 1 Ed.nd (Gw (ttc Ig (pv 3) Bo) Af (Di Cb Af)) R0) (Ae (B1 (PW.pt (Fv (Ol U4 (pv 3) Bo rfl) (Fv (ttc mT (pv 1) Af) (Ge (ttc Ig (pv 2) (Bg rfl T.cj)))))) (Ae B5)
  A7)))) (Ae (B1 (ttc Hb (pv 1) Af) (Ae B5)
  A7))))),?_⟩
 apply⟨_,_,_,_,rfl,.str _,Na,?_⟩;apply⟨_,rfl,?_⟩;refine iN (λi Y H1=>(∃v2 v3:Option V,Y=[some (.str (Ar l)),some (.int (hgt l i)),v2,v3])/\Ah H H1) ⟨⟨_,_,rfl⟩,Ah.refl _⟩ ?_ ?_
 ·rintro i c Y H1 t hc ⟨⟨v2,v3,rfl⟩,s1⟩ ht
  obtain⟨b,hb,rfl⟩:=Vo hc;have hi:=B0 hb;have hs:=K8 hb;obtain⟨h,hh,_⟩:=Xn hv (i+1) (by lia);have s2:=s1.trans (Al (o:=.tup [.int i,.str (sgn (if b then 49 else 48))]) ht);generalize upd H1 t _=H2 at *;k_is
  cases b with
  |true=>
   refine Ct (λ_=>?_) (λh=>absurd rfl h);apply⟨_,_,rfl,rfl,?_⟩;k_is;have hs:hgt l (i+1)=hgt l i+1:=hs;rw[<-hs,hh];rw[show(!(!(j5 ("01":Str) (sgn (if true=true then 49 else 48)) 0 ("01":Str).length 1).isEmpty))=false by decide +kernel];apply Ct (λh=>by lia) (λ_=>?_);apply Ct (λh=>?_) (λ_=>?_)
   ·have:=V.int.inj h
    lia
   k_is;exact⟨⟨_,_,rfl⟩,s2⟩
  |false=>
   refine Ct (λh=>absurd h (by decide)) (λ_=>?_);apply⟨_,_,rfl,rfl,?_⟩;k_is;have hs:hgt l (i+1)=hgt l i + -1:=hs;rw[<-hs,hh];rw[show(!(!(j5 ("01":Str) (sgn (if false=true then 49 else 48)) 0 ("01":Str).length 1).isEmpty))=false by decide +kernel];apply Ct (λh=>by lia) (λ_=>?_);apply Ct (λh=>?_) (λ_=>?_)
   ·have:=V.int.inj h
    lia
   k_is;exact⟨⟨_,_,rfl⟩,s2⟩
 ·rintro Y H1 ⟨⟨v2,v3,rfl⟩,s1⟩
  rw[show(Ar l).cps.size=l.length from A0 l];obtain⟨h,hh,hv2,_⟩:=Xn hv l.length (c9 _);rw[i7 (c9 _)] at hv2;have hv2:h=0:=hv2;apply Ct (λh=>by lia) (λ_=>?_);k_is;exact q H1 s1
def Lc (b:V):List (Str×V):=[("bits",b)]
def Hi (b c:V):List (Str×V):=[("bits",b),("counts",c)]
def mL (b c n t o:V):List (Str×V):=[("bits",b),("counts",c),("length",n),("kept_table",t),("often_least",o)]
inductive eS (K:c7)(CP:de)(vs:List V)(H:Hp)(Q:VK)(E:XK):Prop|mk(x dx:de)(b c n t o:V)(_:vs=[.ref x,n,t,o])(_:H x=some (.ins CP dx (Hi b c)))(_:Q .non (upd H x (.ins CP dx (mL b c n t o))))
variable (ai:Qc K aa)
include T ai in
theorem Qx (F:Fun K "__init__" "Heights.__init__" F1 f fd):Ax P w K mg base CX0 1 f fd ["self","length","table","often_least"] (eS K aa):=by
 exists F.ok Nt
 obtain⟨x,dx,b,c,n,t,o,rfl,hx,q⟩:=h;refine⟨_,(Ab (tsf (pv 0) (pv 1)) (Ab (tsf (pv 0) (pv 2)) (Ae (tsf (pv 0) (pv 3))))),?_⟩
 apply C1 hx ai.cl ai.bR (show 2<1000 by decide) ?_;apply C1 Ac ai.cl ai.cr (show 3<1000 by decide) ?_;rw[Oj];apply C1 Ac ai.cl ai.cJ (show 4<1000 by decide) ?_;rw[Oj];exact q
inductive eU (K:c7)(CC CP:de)(vs:List V)(H:Hp)(Q:VK)(E:XK):Prop|mk(x dx c:de)(fs:List (Str×V))(l:Za5)(n:Nat)(_:vs=[.ref x,.int n])(_:H x=some (.ins CP dx fs))(_:fs.lookup ("counts":Str)=some (.ref c))(_:Bh K CC H c l)(_:n<=l.length)(_:∀H',Ah H H'->Q (.int ((occ true l n).length:Nat)) H')
variable (aD:Mth P w K mg base ab "ahead" 4 ["self","bit","place"] (fO K ab))
include T ai aD in
theorem Qk (F:Fun K "opens_ahead" "Pairs.opens_ahead" Dg f fd):Ax P w K mg base CX0 5 f fd ["self","place"] (eU K ab aa):=by
 exists F.ok Jd
 obtain⟨x,dx,c,fs,l,n,rfl,hx,hc,hC,hn,q⟩:=h;refine⟨_,(Ae (Ap (Ie aD hr.m (tfl (pv 0)) (tpa Af (tpa (pv 1) Aa))))),?_⟩;apply⟨x,aa,dx,fs,.ref c,rfl,hx,ai.cl,ai.cH,hc,?_⟩;obtain⟨dc,t,u,hc1,_⟩:=id hC;apply⟨c,dc,_,rfl,hc1,rfl,?_⟩;k_is;exact⟨c,l,true,n,rfl,hC,hn,q⟩
inductive W3 (K:c7)(CC CP:de)(vs:List V)(H:Hp)(Q:VK)(E:XK):Prop|mk(x dx c:de)(fs:List (Str×V))(l:Za5)(n:Nat)(_:vs=[.ref x,.int n])(_:H x=some (.ins CP dx fs))(_:fs.lookup ("counts":Str)=some (.ref c))(_:fs.lookup ("opens_ahead":Str)=none)(_:Bh K CC H c l)(_:n<=l.length)(_:∀H',Ah H H'->Q (.int (2*((occ true l n).length:Int)-n)) H')
include T ai in
theorem Qo (F:Fun K "height" "Heights.height" Et f fd)(aZ:Mth P w K mg base aa "opens_ahead" 5 ["self","place"] (eU K ab aa)):Ax P w K mg base CX0 6 f fd ["self","place"] (W3 K ab aa):=by
 exists F.ok Lf
 obtain⟨x,dx,c,fs,l,n,rfl,hx,hc,ho,hC,hn,q⟩:=h;refine⟨_,(Ae (Ap (An D1 (An Eo Af (Ie aZ hr.m (pv 0) (tpa (pv 1) Aa))) (pv 1)))),?_⟩;apply⟨x,dx,fs,rfl,hx,ho,?_⟩;apply⟨x,dx,c,fs,l,n,rfl,hx,hc,hC,hn,λH' s=>?_⟩;k_is;exact q H' s
inductive Pn (K:c7)(CB CP:de)(vs:List V)(H:Hp)(Q:VK)(E:XK):Prop|mk(x dx b:de)(fs:List (Str×V))(l:Za5)(i j:Nat)(_:vs=[.ref x,.int i,.int j])(_:H x=some (.ins CP dx fs))(_:fs.lookup ("bits":Str)=some (.ref b))(_:C3 K CB H b l)(_:i<=j)(_:j<=l.length)(_:∀H',Ah H H'->Q (.str (Ar ((l.drop i).take (j-i)))) H')
include T ai in
theorem Qt (F:Fun K "stretch" "Pairs.stretch" Fa f fd)(ba:Mth P w K mg base ac "stretch" 5 ["self","low","high"] (Tq K ac)):Ax P w K mg base CX0 6 f fd ["self","low","high"] (Pn K ac aa):=by
 exists F.ok M2
 obtain⟨x,dx,b,fs,l,i,j,rfl,hx,hb,hB,hij,hj,q⟩:=h;refine⟨_,(Ae (Ap (Ie ba hr.m (tfl (pv 0)) (tpa (pv 1) (tpa (pv 2) Aa))))),?_⟩;apply⟨x,aa,dx,fs,.ref b,rfl,hx,ai.cl,ai.cA,hb,?_⟩;obtain⟨db,t,hb1,_⟩:=id hB;apply⟨b,db,_,rfl,hb1,rfl,?_⟩;k_is;exact⟨b,l,i,j,rfl,hB,hij,hj,q⟩
def bgH (l:Za5)(t:Nat):Int:=2*((occ true l (t*256)).length:Int)-(t*256:Nat)
def sgH (l:Za5)(t:Nat):Za5:=(l.drop (t*256)).take 256
theorem sL (l:Za5)(t:Nat):(sgH l t).length<=1000:=by unfold sgH;rw[eg];lia
def Ua (l:Za5)(t:Nat):List Int:=htB (sgH l t) (bgH l t) (sgH l t).length
def jN (l:Za5)(H:Hp)(r:de)(j:Nat):Prop:=∃mn mx:Int,H r=some (.tup [.int (bgH l j),.int mn,.int mx])/\Va (Ua l j) mn/\Zk (Ua l j) mx
def Nn (l:Za5)(H:Hp)(t:de):Prop:=∃rs:List de,H t=some (.tup (rs.map V.ref))/\rs.length=(l.length+256-1)/256/\∀(j:Nat) r,rs[j]?=some r->jN l H r j
theorem Nn.keep {l:Za5}{t:de}(k:∀b xs,H b=some (.tup xs)->H' b=some (.tup xs))(h:Nn l H t):Nn l H' t:=by
 obtain⟨rs,h1,h2,h3⟩:=h;refine⟨rs,k _ _ h1,h2,λj r e=>?_⟩;obtain⟨mn,mx,e1,e2,e3⟩:=h3 j r e;exact⟨mn,mx,k _ _ e1,e2,e3⟩
theorem Nn.same {l:Za5}{t:de}(s:Ah H H')(h:Nn l H t):Nn l H' t:=h.keep λb xs e=>s _ _ e
def Dr (K:c7)(CB CC CP:de)(H:Hp)(x:de)(l:Za5):Prop:=∃(dx b c t:de) (o:V),H x=some (.ins CP dx (mL (.ref b) (.ref c) (.int (l.length:Nat)) (.ref t) o))/\C3 K CB H b l/\Bh K CC H c l/\Nn l H t/\Vs 0 l/\l.length<=8192
theorem Dr.same {K:c7}{x:de}{l:Za5}(h:Dr K CB CC CP H x l)(s:Ah H H'):Dr K CB CC CP H' x l:=by
 obtain⟨dx,b,c,t,o,h1,h2,h3,h4,h5⟩:=h;exact⟨dx,b,c,t,o,s _ _ h1,h2.same s,h3.same s,h4.same s,h5⟩
inductive Vm (K:c7)(CB CC CP:de)(vs:List V)(H:Hp)(Q:VK)(E:XK):Prop|mk(x:de)(l:Za5)(_:vs=[.ref x])(_:Dr K CB CC CP H x l)(_:Q (.int (l.length:Nat)) H)
include T ai in
theorem Qy (F:Fun K "size" "Heights.size" Fu f fd):Ax P w K mg base CX0 1 f fd ["self"] (Vm K ac ab aa):=by
 exists F.ok N7
 obtain⟨x,l,rfl,⟨dx,b,c,t,o,hx,_⟩,q⟩:=h;refine⟨_,(Ae (Ap (tfl (pv 0)))),?_⟩;k_is;exact⟨x,aa,dx,_,_,rfl,hx,ai.cl,ai.bR,rfl,q⟩
inductive Vn (K:c7)(CB CC CP:de)(vs:List V)(H:Hp)(Q:VK)(E:XK):Prop|mk(x:de)(l:Za5)(_:vs=[.ref x])(_:Dr K CB CC CP H x l)(_:∀H',Ah H H'->Q (.str (Ar l)) H')
include T ai in
theorem Qz (F:Fun K "text" "Heights.text" Fs f fd)(bb:Mth P w K mg base aa "stretch" 6 ["self","low","high"] (Pn K ac aa)):Ax P w K mg base CX0 7 f fd ["self"] (Vn K ac ab aa):=by
 exists F.ok Nx
 obtain⟨x,l,rfl,⟨dx,b,c,t,o,hx,hB,hC,_⟩,q⟩:=h;refine⟨_,(Ae (Ap (Ie bb hr.m (pv 0) (tpa Af (tpa (tfl (pv 0)) Aa))))),?_⟩;apply⟨x,dx,_,rfl,hx,rfl,?_⟩;apply⟨x,aa,dx,_,_,rfl,hx,ai.cl,ai.bR,rfl,?_⟩;apply⟨x,dx,b,_,l,0,l.length,rfl,hx,rfl,hB,fq _,c9 _,λH' s=>?_⟩
 simpa using q H' s
theorem Tf {x:de}(hx:H1 x=none)(hd:H1 dx=none)(s:SameBut x (upd (upd H1 dx (.own x)) x (.ins C dx [])) H2):Ah H1 H2:=λb u e=>s b u (Aj e hx) (by rw[Ai (Aj e hx),Ai (Aj e hd)];exact e)
theorem Ht {K:c7}{x b:de}{l:Za5}(s:SameBut x H H')(n:lZ H x)(hne:b≠x)(h:Bh K C H b l):Bh K C H' b l:=by
 obtain⟨dx,t,u,h1,h2,h3,h4⟩:=h;exact⟨dx,t,u,s _ _ hne h1,s _ _ (λe=>by subst e;exact(n _).1 (.inl h2)) h2,s _ _ (λe=>by subst e;exact(n _).1 (.inl h3)) h3,h4⟩
inductive eQ (K:c7)(CB CC CP:de)(vs:List V)(H:Hp)(Q:VK)(E:XK):Prop|mk(x dx:de)(l:Za5)(_:vs=[.ref x,.str (Ar l)])(_:H x=some (.ins CP dx []))(_:Vs 0 l)(_:l.length<=8000)(_:∀H',SameBut x H H'->Dr K CB CC CP H' x l->Q .non H')
variable (aE:Cal P w K mg base "check_row" 1 ["text"] eB)
include T aB aC ai aE in
theorem Wa (F:Fun K "__init__" "Pairs.__init__" Cp f fd)(bc:Mth P w K mg base aa "height" 6 ["self","place"] (W3 K ab aa))(be:Cal P w K mg base "heights_of" 1 ["text","begin"] Rp)(Q4:qW P w K mg base "Heights" "__init__" 1 ["self","length","table","often_least"] (eS K aa)):Ax P w K mg base CX0 7 f fd ["self","text"] (eQ K ac ab aa):=by
 exists F.ok Dl
 obtain⟨x,dx,l,rfl,hx,hV,hl8,q⟩:=h;refine⟨_,(Ab (At (Az aE hr.m (tpa (pv 1) Aa))) (Ab (tsf (pv 0) (Rj aC hr.m (tpa (pv 1) Aa))) (Ab (tsf (pv 0) (Rj aB hr.m (tpa (tfl (pv 0)) Aa))) (Ab (tst 2 Dl.nd (cW rfl rfl T.bW rfl T.bO (tpa Af (tpa (Am Bt (by rfl) T.bN B2 (tpa (pv 1) Aa)) (tpa (Bg rfl T.bV) Aa))))) (Ab (Rh (i:=3) rfl N8 Dl.nd rfl rfl (C2 (pv 2)) (λ_ _ _ _=>Bv) (λ_ _ _ _=>(Ie bc hr.m (pv 1) (tpa (pv 0) Aa)))) (Ab (J2 (i:=4) rfl Nz Dl.nd rfl rfl (Ur rfl T.cn (tpa (pv 2) (tpa (pv 3) Aa))) (λ_ _ _ _=>Bv) (λ_ _ _ _=>(Az be hr.m (tpa (Cg Mz (pv 2) (Bz (pv 0)) (Bz (An B6 (pv 0) (Bg rfl T.bV)))) (tpa (pv 1) Aa))))) (Ab (J2 (i:=5) rfl N9 Dl.nd rfl rfl (Ur rfl T.cn (tpa (pv 3) (tpa (pv 4) Aa))) (λ_ _ _ _=>Bv) (λ_ _ _ _=>(Ji (tpa (pv 0) (tpa (Am (P9 K rfl) (by rfl) T.cF tH (tpa (pv 1) Aa)) (tpa (Am (cR K rfl) (by rfl) T.n_max yT (tpa (pv 1) Aa)) Aa)))))) (Ae (At (tD Q4 hr.m rfl (tpa (pv 0) (tpa (Am Bt (by rfl) T.bN B2 (tpa (pv 1) Aa)) (tpa (Cv Dn (by rfl) T.bX J3 (tpa (pv 5) Aa)) (tpa (F3 rfl N0 (C2 (pv 4)) (λ_ _ _ _=>Bv) (λ_ _ _ _=>(vH K ee PySem.F.slot_list_count PySem.F.type_list_count iM (pv 0) (tpa (Am (P9 K rfl) (by rfl) T.cF tH (tpa (pv 0) Aa)) Aa)))) Aa)))))))))))))),?_⟩
 apply⟨l,rfl,hV,hl8,λH1 s1=>?_⟩;have hl:l.length<=8192:=by lia
 have hx1:=s1 _ _ hx;k_is;intro b db hb hdb hbd;refine⟨b,db,l,rfl,Ac,by lia,λH2 s2 hB2=>⟨rfl,?_⟩⟩;have s2:=Tf hb hdb s2;have hx2:=s2 _ _ hx1;have nbx:b≠x:=(Aj hx1 hb).symm;apply C1 hx2 ai.cl ai.cA (show 0<1000 by decide) ?_;rw[show Ek ("bits":Str) (V.ref b) []=(Lc (.ref b)) from rfl];have hB3:C3 K ac (upd H2 x (.ins aa dx (Lc (.ref b)))) b l:=F2 A4 (D0 hx2) nbx hB2;have hx3:=@Ac H2 x (.ins aa dx (Lc (.ref b)));have b3:SameBut x H2 (upd H2 x (.ins aa dx (Lc (.ref b)))):=A4;generalize upd H2 x _=H3 at *;apply⟨x,aa,dx,_,.ref b,rfl,hx3,ai.cl,ai.cA,rfl,?_⟩;k_is;intro c dc hc hdc hcd;refine⟨c,dc,b,l,rfl,Ac,hB3.same (Je hc hdc),λH4 s4 hC4=>⟨rfl,?_⟩⟩;have s4:=Tf hc hdc s4;have hx4:=s4 _ _ hx3;have ncx:c≠x:=(Aj hx3 hc).symm;have hB4:=hB3.same s4;apply C1 hx4 ai.cl ai.cH (show 1<1000 by decide) ?_;rw[show Ek ("counts":Str) (V.ref c) (Lc (.ref b))=Hi (.ref b) (.ref c) from rfl];have hB5:C3 K ac (upd H4 x (.ins aa dx (Hi (.ref b) (.ref c)))) b l:=F2 A4 (D0 hx4) nbx hB4;have hC5:Bh K ab (upd H4 x (.ins aa dx (Hi (.ref b) (.ref c)))) c l:=Ht A4 (D0 hx4) ncx hC4;have hx5:=@Ac H4 x (.ins aa dx (Hi (.ref b) (.ref c)));have b5:SameBut x H4 (upd H4 x (.ins aa dx (Hi (.ref b) (.ref c)))):=A4;have but5:SameBut x H (upd H4 x (.ins aa dx (Hi (.ref b) (.ref c)))):=(((s1.trans s2).but.trans b3).trans s4.but).trans b5;generalize upd H4 x _=H5 at *;apply⟨_,rfl,fw (Ag (by rw[A0];lia)),?_⟩;rw[A0];apply⟨l.length,256,rfl,by lia,by decide,by decide,λlo hlo=>?_⟩;obtain⟨u6,hlo6⟩:=Ay (o:=.lst ((di ((l.length+256-1)/256)).map λt:Nat=>V.int (t*256:Nat))) hlo;have hx6:=u6 _ _ hx5;have hB6:=hB5.same u6;have hC6:=hC5.same u6;have but6:=but5.trans u6.but;generalize upd H5 lo _=H6 at *;obtain⟨m,hm⟩:∃m,(l.length+256-1)/256=m:=⟨_,rfl⟩;rw[hm] at hlo6;have hll:((di m).map λt:Nat=>V.int (t*256:Nat)).length=m:=by rw[c5,dn]
 apply⟨lo,rfl,⟨_,SqL.of hlo6⟩,?_⟩;refine Og (xs:=(di m).map λt:Nat=>V.int (t*256:Nat)) (SqL.of hlo6) (λi=>(di i).map λt:Nat=>V.int (bgH l t)) rfl (λi hi=>?_) (λi y H7 R A hy s7 _ hA=>?_) (λD7 H7 hD7 s7 h7=>?_)
 ·rw[c5,dn]
  exact Ag (by lia)
 ·have hi:i<m:=by have:=B0 hy;rw[hll] at this;exact this
  rw[df,ff hi] at hy;obtain rfl:y=V.int (i*256:Nat):=(dh hy).symm;apply⟨x,dx,_,rfl,s7 _ _ hx6,rfl,?_⟩;apply⟨x,dx,c,_,l,i*256,rfl,s7 _ _ hx6,rfl,rfl,hC6.same s7,by lia,λH8 s8=>?_⟩;refine hA _ _ ?_ s8;rw[ik,dj];rfl
 rw[hll] at h7;have hx7:=s7 _ _ hx6;have hB7:=hB6.same s7;have hC7:=hC6.same s7;have but7:=but6.trans s7.but;have hlo7:=s7 _ _ hlo6;have hbl:((di m).map λt:Nat=>V.int (bgH l t)).length=m:=by rw[c5,dn]
 apply⟨lo,D7,rfl,⟨_,SqL.of hlo7⟩,⟨_,SqL.of h7⟩,?_⟩;refine Uk (SqL.of hlo7) (SqL.of h7) (λD i zs H'=>∃rs:List de,zs=rs.map V.ref/\rs.length=i/\∀(j:Nat) r,rs[j]?=some r->r≠D/\H' r=some (.lst ((Ua l j).map V.int))) (λD H' _ _=>⟨[],rfl,rfl,λj r e=>by cases e⟩) ?_ ?_ ?_ ?_ ?_
 ·rintro D i zs H' us o hD ⟨rs,e1,e2,e3⟩
  exact⟨rs,e1,e2,λj r e=>⟨(e3 j r e).1,by rw[Ai (e3 j r e).1];exact(e3 j r e).2⟩⟩
 ·rintro D i zs H' hi ⟨rs,rfl,e2,e3⟩
  rw[c5,e2];rw[hll,hbl] at hi;exact Ag (by lia)
 ·rintro D i zs H' H'' s ⟨rs,e1,e2,e3⟩
  exact⟨rs,e1,e2,λj r e=>⟨(e3 j r e).1,s _ _ (e3 j r e).2⟩⟩
 ·intro D i zs y y2 H8 A R hy hy2 s8 hD0 hD8 hPv hA
  obtain⟨rs,rfl,e2,e3⟩:=hPv;have hi:i<m:=by have:=B0 hy;rw[hll] at this;exact this
  rw[df,ff hi] at hy hy2;obtain rfl:y=V.int (i*256:Nat):=(dh hy).symm;obtain rfl:y2=V.int (bgH l i):=(dh hy2).symm;apply⟨_,rfl,fw (Ag (by rw[A0];lia)),?_⟩;k_is;have ec:Lk (Ar l) (some ((i*256:Nat):Int)) (some (((i*256:Nat):Int)+256))=Ar (sgH l i):=by
   have:=Mn l (i*256) (i*256+256);rw[gz] at this;exact this
  rw[ec];refine⟨sgH l i,bgH l i,rfl,sL l i,λp H9 s9 hp h9=>?_⟩;refine hA _ _ s9 ⟨rs++[p],by rw[dj];rfl,by rw[c8,e2];rfl,λj r e=>?_⟩
  by_cases hj:j<rs.length
  ·rw[eh hj] at e
   exact⟨(e3 j r e).1,s9 _ _ (e3 j r e).2⟩
  ·have hj2:=B0 e
   rw[c8] at hj2;have hj3:j=rs.length:=by simp at hj2;lia
   subst hj3;rw[dq (c9 _),jx] at e;obtain rfl:p=r:=dh e;rw[e2];exact⟨(Aj hD8 hp).symm,h9⟩
 ·intro D8 zs H8 hD8 s8 hPv h8
  obtain⟨rs,rfl,e2,e3⟩:=hPv;rw[hll,hbl,oy] at e2;have hx8:=s8 _ _ hx7;have hB8:=hB7.same s8;have hC8:=hC7.same s8;have but8:=but7.trans s8.but;have h78:=s8 _ _ h7;have hrl:(rs.map V.ref).length=m:=by rw[c5,e2]
  have hne:∀i,i<m->Ua l i≠[]:=λi hi e=>by
   have e:=congrArg ue e;unfold Ua htB hts sgH at e;simp at e;lia
  apply⟨D7,D8,rfl,⟨_,SqL.of h78⟩,⟨_,SqL.of h8⟩,?_⟩;refine Uk (SqL.of h78) (SqL.of h8) (λD i zs H'=>∃ts:List de,zs=ts.map V.ref/\ts.length=i/\∀(j:Nat) r,ts[j]?=some r->jN l H' r j) (λD H' _ _=>⟨[],rfl,rfl,λj r e=>by cases e⟩) ?_ ?_ ?_ ?_ ?_
  ·rintro D i zs H' us o hD ⟨ts,e1,e2,e3⟩
   refine⟨ts,e1,e2,λj r e=>?_⟩;obtain⟨mn,mx,h1,h2⟩:=e3 j r e;exact⟨mn,mx,by rw[Ai (λz=>by rw[z,hD] at h1;cases h1)];exact h1,h2⟩
  ·rintro D i zs H' hi ⟨ts,rfl,e2,e3⟩
   rw[hbl,hrl] at hi;rw[c5,e2];exact Ag (by lia)
  ·rintro D i zs H' H'' s ⟨ts,e1,e2,e3⟩
   refine⟨ts,e1,e2,λj r e=>?_⟩;obtain⟨mn,mx,h1,h2⟩:=e3 j r e;exact⟨mn,mx,s _ _ h1,h2⟩
  ·intro D i zs y y2 H9 A R hy hy2 s9 hD0 hD9 hPv hA
   obtain⟨ts,rfl,ts2,ts3⟩:=hPv;have hi:i<m:=by have:=B0 hy;rw[hbl] at this;exact this
   rw[df,ff hi] at hy;obtain rfl:y=V.int (bgH l i):=(dh hy).symm;have er:rs[i]?=some (rs[i]'(by lia)):=c6 _;generalize rs[i]'(by lia)=r at er;rw[df,er] at hy2;obtain rfl:y2=V.ref r:=(dh hy2).symm;have hr9:=s9 _ _ (e3 i r er).2;apply⟨r,Ua l i,rfl,SqL.of hr9,hne i hi,λmn hmn=>?_⟩;apply⟨r,Ua l i,rfl,SqL.of hr9,hne i hi,λmx hmx=>?_⟩;apply⟨few (by simp),λtp htp=>?_⟩;refine hA _ _ (Al htp) ⟨ts++[tp],by rw[dj];rfl,by rw[c8,ts2];rfl,λj q e=>?_⟩
   by_cases hj:j<ts.length
   ·rw[eh hj] at e
    obtain⟨mn',mx',h1,h2⟩:=ts3 j q e;exact⟨mn',mx',Al htp _ _ h1,h2⟩
   ·have hj2:=B0 e
    rw[c8] at hj2;have hj3:j=ts.length:=by simp at hj2;lia
    subst hj3;rw[dq (c9 _),jx] at e;obtain rfl:tp=q:=dh e;rw[ts2];exact⟨mn,mx,Ac,hmn,hmx⟩
  ·intro D9 zs H9 hD9 s9 hPv h9
   rw[hbl,hrl,oy] at hPv;obtain⟨ts,rfl,ts2,ts3⟩:=hPv;have hx9:=s9 _ _ hx8;have hB9:=hB8.same s9;have hC9:=hC8.same s9;have but9:=but8.trans s9.but;have h89:=s9 _ _ h8;apply⟨_,rfl,fw (Ag (by rw[A0];lia)),?_⟩;rw[A0];apply⟨D9,_,rfl,.inl ⟨SqL.of h9,λtq htq=>?_⟩⟩;have s10:=Al (o:=.tup (ts.map V.ref)) htq;have hx10:=s10 _ _ hx9;have hB10:=hB9.same s10;have hC10:=hC9.same s10;have but10:=but9.trans s10.but;have h810:=s10 _ _ h89;have e310:∀(j:Nat) r,rs[j]?=some r->upd H9 tq (.tup (ts.map V.ref)) r=some (.lst ((Ua l j).map V.int)):=λj r e=>s10 _ _ (s9 _ _ (e3 j r e).2);have hTab10:Nn l (upd H9 tq (.tup (ts.map V.ref))) tq:=⟨ts,Ac,by rw[ts2,hm],λj r e=>by
    obtain⟨mn,mx,h1,h2⟩:=ts3 j r e;exact⟨mn,mx,s10 _ _ h1,h2⟩⟩
   generalize upd H9 tq _=H10 at *;apply⟨D8,rfl,⟨_,SqL.of h810⟩,?_⟩;refine O8 (SqL.of h810) (λi ys H'=>ys.length=i) (λ_ _=>rfl) (λi ys H' D zs o _ h=>h) (λi ys H' hi h=>?_) ?_ ?_
   ·rw[hrl] at hi
    rw[h];exact Ag (by lia)
   ·intro i ys y H11 A R hy s11 hPv hA
    have hi:i<m:=by have:=B0 hy;rw[hrl] at this;exact this
    have er:rs[i]?=some (rs[i]'(by lia)):=c6 _;generalize rs[i]'(by lia)=r at er;rw[df,er] at hy;obtain rfl:y=V.ref r:=(dh hy).symm;have hr:=s11 _ _ (e310 i r er);apply⟨.inl ⟨rfl,_,SqL.of hr⟩,?_⟩;apply⟨r,Ua l i,rfl,SqL.of hr,hne i hi,λmn _=>?_⟩;apply⟨r,_,_,rfl,rfl,hr,Ms _,rfl,?_⟩;exact hA _ _ (Ah.refl _) (by rw[c8,hPv];rfl)
   ·intro D12 ys H12 hD12 s12 hPv h12
    have hx12:=s12 _ _ hx10;apply⟨x,dx,.ref b,.ref c,.int (l.length:Nat),.ref tq,.ref D12,rfl,hx12,?_⟩;exact q _ ((but10.trans s12.but).trans A4) ⟨dx,b,c,tq,_,Ac,F2 A4 (D0 hx12) nbx (hB10.same s12),Ht A4 (D0 hx12) ncx (hC10.same s12),(hTab10.same s12).keep (λb2 xs e=>by rw[Ai (λz=>by rw[z,hx12] at e;cases e)];exact e),hV,hl⟩
inductive jP(vs:List V)(H:Hp)(Q:VK)(E:XK):Prop|mk(a:de)(ds:Za4)(_:vs=[.ref a])(_:H a=some (.lst ((Ee ds).map V.int)))(_:Dok ds)(_:ds.length<4000)(_:∀l H',Ah H H'->H' l=some (.lst ((Ee ds).map V.int))->Q (.ref l) H')
include T aA in
theorem Y8 (F:Fun K "look_at" "look_at" M4 f fd):Ax P w K mg base CX0 2 f fd ["elders"] jP:=by
 exists F.ok He
 obtain⟨a,ds,rfl,ha,hD,hn,q⟩:=h;refine⟨_,(Ab (B1 (Cm (Ci (Am Bx (by rfl) T.bQ Bk (tpa (pv 0) (tpa (Eb (v:=.ty "list") rfl T.bW Kq rfl) Aa))))) (Ae B5)
  A7) (Ab (tst 1 He.nd (Bl (tpa (Di Cb Af) Aa))) (Ab (Cl gg rfl (L9 rfl T.cf (tpa (pv 0) Aa)) (Mx rfl (Cu (tgn 2 He.nd) (Cu (tgn 3 He.nd) Js))) (Ab (B1 (PW.pt (Fv (ttc Ig (pv 2) (Bg rfl T.ce)) (Fv (Cm (Ci (Az aA hr.m (tpa (pv 3) Aa)))) (Ge (ttc mT (pv 3) (Di Cb Af)))))) (Ae B5)
  A7) (Ab (G2 gg (ttc Hb (tix Bu (pv 1) (Di Cb Af)) (pv 3)) (Ae (At (Vj ee og n8 U2 (pv 1))))) (Ab (B1 (ttc O7 (tix Bu (pv 1) (Di Cb Af)) (pv 3)) (Ae B5)
  A7) (Ae (At (Bw ee fe fc Aw (pv 1) (tpa (pv 2) Aa)))))))) (Ae (Ap (Cv Hg (by rfl) T.bW Kq (tpa (pv 0) Aa))))))),?_⟩
 apply⟨_,_,_,_,rfl,.lst ha,Gg,?_⟩;apply⟨few (by simp),λp hp=>?_⟩;k_is;have t0:=Al (o:=.lst [V.int (-1)]) hp;refine⟨a,rfl,⟨_,SqL.of (t0 _ _ ha)⟩,?_⟩;refine La (xs:=(Ee ds).map V.int) (λk Y H1=>(∃v2 v3:Option V,Y=[some (.ref a),some (.ref p),v2,v3])/\H1 p=some (.lst ((way ds k).map V.int))/\Ah H H1) ⟨⟨_,_,rfl⟩,Ac,t0⟩ (λk Y H1 _ h=>SqL.of (h.2.2 _ _ ha)) ?_ ?_
 ·rintro k x Y H1 t hx ⟨⟨v2,v3,rfl⟩,hp1,s1⟩ ht
  have hk:=B0 hx;rw[c5,E2] at hk;obtain⟨e,he,rfl⟩:=Ru hx;rw[Vr hk] at he;obtain rfl:=dh he;have st:=Al (o:=.tup [.int k,.int (eld ds k)]) ht;have hp2:=st _ _ hp1;have s2:=s1.trans st;generalize upd H1 t _=H2 at *;apply Ct (λh=>?_) (λ_=>?_)
  ·have:=V.int.inj h
   lia
  apply⟨_,rfl,?_⟩;k_is;have hge:=uL hD hk;refine Ct (λh=>by lia) (λ_=>?_);k_is;have hl:=Ex hD k (by lia);have hd:=hD k hk;refine Fy (λY H3=>Y=[some (.ref a),some (.ref p),some (.int k),some (.int (eld ds k))]/\Ah H H3/\∃m,dAt ds k+1<=m/\m<=(way ds k).length/\H3 p=some (.lst (((way ds k).take m).map V.int))) (λ_ H3=>T4 H3 p)
   ⟨rfl,s2,(way ds k).length,by lia,c9 _,by rw[ej (c9 _)];exact hp2⟩ ?_
  rintro z Y H3 ⟨rfl,s3,m,hm1,hm2,hp3⟩ hz;rw[E3 hp3,Gy hm2] at hz;k_is;have hx1:(way ds k)[m-1]?=some ((way ds k)[m-1]'(by lia)):=c6 _;generalize (way ds k)[m-1]'(by lia)=y at hx1;refine Cd (SqL.of hp3) (J0 (by lia) hx1) ?_;k_is;have hea:=Pm hD hk;refine Ct (λh=>?_) (λh=>?_)
  ·have hne:m-1≠dAt ds k:=λe=>by
    rw[e,hea] at hx1;have:=dh hx1;lia
   refine Mv ?_;apply⟨.inl ⟨rfl,_,SqL.of hp3⟩,?_⟩;refine⟨p,_,.int y,rfl,rfl,hp3,?_,?_⟩
   ·rw[Gy hm2,Wx (n:=y)]
    rw[ij (by lia)];exact hx1
   k_is;rw[M5 hm2];refine⟨⟨rfl,As s3 hp,m-1,by lia,by lia,Ac⟩,?_⟩;rw[E3 Ac,Gy (by lia)];lia
  ·have hme:m=dAt ds k+1:=by
    by_cases e:m-1=dAt ds k
    ·lia
    ·have:=Yx hD k (dAt ds k) (m-1) _ _ (by lia) (by lia) hea hx1
     lia
   subst hme;have hy:y=eld ds k:=by
    rw[show dAt ds k+1-1=dAt ds k by lia,hea] at hx1;exact(dh hx1).symm
   apply Cd (SqL.of hp3) (J0 (by lia) hx1) ?_;apply J5 (λh1=>absurd (congrArg V.int hy) h1) (λ_=>?_);apply⟨.inl ⟨rfl,_,SqL.of hp3⟩,?_⟩;apply A6 hp3 ?_ ?_
   ·rw[Gy hm2]
    exact Ag (by have:=Kw hD k (by lia);lia)
   apply⟨⟨_,_,rfl⟩,?_,As s3 hp⟩;rw[Ac];show _=some (HO.lst (((way ds k).take (dAt ds k+1)++[(k:Int)]).map V.int));rw[dj];rfl
 ·rintro Y H1 ⟨⟨v2,v3,rfl⟩,hp1,s1⟩
  apply⟨a,_,rfl,.inl (SqL.of (s1 _ _ ha)),λl hl=>?_⟩;exact q l _ (s1.trans (Al hl)) Ac
inductive X7(vs:List V)(H:Hp)(Q:VK)(E:XK):Prop|mk(a:de)(ds:Za4)(_:vs=[.ref a])(_:H a=some (.lst ((Ee ds).map V.int)))(_:Dok ds)(_:ds.length<4000)(_:∀l H',Ah H H'->H' l=some (.lst (nV ds))->Q (.ref l) H')
theorem S4 {ds:Za4}{k:Nat}(hk:k<ds.length):nV (ds.take k)++[V.int (dAt ds k:Nat)]=nV (ds.take (k+1)):=by
 rw[gn,c6 hk,<-vI];unfold dAt ju;rw[c6 hk];rfl
include T in
theorem Ui (F:Fun K "depths_of" "depths_of" Im f fd):Ax P w K mg base CX0 1 f fd ["elders"] X7:=by
 exists F.ok Hy
 obtain⟨a,ds,rfl,ha,hD,hn,q⟩:=h;refine⟨_,(Ab (tst 1 Hy.nd (Bl Aa)) (Ab (Cl gg rfl (C2 (pv 0)) (tgn 2 Hy.nd) (Ae (At (Bw ee fe fc Aw (pv 1) (tpa (Gw (ttc Ig (pv 2) (Di Cb Af)) Af (An B6 (tix Bu (pv 1) (pv 2)) Af)) Aa))))) (Ae (Ap (pv 1))))),?_⟩
 apply⟨fq _,λp hp=>?_⟩;k_is;have t0:=Al (o:=.lst []) hp;refine⟨a,rfl,⟨_,SqL.of (t0 _ _ ha)⟩,?_⟩;refine G7 (xs:=(Ee ds).map V.int) (λk Y H1=>(∃v2:Option V,Y=[some (.ref a),some (.ref p),v2])/\H1 p=some (.lst (nV (ds.take k)))/\Ah H H1) ⟨⟨_,rfl⟩,Ac,t0⟩ (λk Y H1 _ h=>SqL.of (h.2.2 _ _ ha)) ?_ ?_
 ·rintro k x Y H1 hx ⟨⟨v2,rfl⟩,hp1,s1⟩
  have hk:=B0 hx;rw[c5,E2] at hk;obtain⟨e,he,rfl⟩:=Ru hx;rw[Vr hk] at he;obtain rfl:=dh he;have hz:(nV (ds.take k)).length<sizeLine:=by
   rw[Ft,eg];exact Ag (by lia)
  apply⟨.inl ⟨rfl,_,SqL.of hp1⟩,?_⟩;apply Ct (λh=>?_) (λh=>?_)
  ·have hd:=rV hD hk (V.int.inj h)
   apply A6 hp1 hz ?_;apply⟨⟨_,rfl⟩,?_,As s1 hp⟩;rw[Ac,<-S4 hk,hd];rfl
  ·obtain⟨v,hv,hlt,hd⟩:=Yg hD hk (λe=>h (congrArg V.int e))
   k_is;rw[hv];refine Cd (SqL.of hp1) (v:=.int (dAt ds v:Nat)) ?_ ?_
   ·refine Bj (Pu ?_)
    rw[ij hlt,c6 (by lia)];unfold dAt ju;rw[c6 (by lia)];rfl
   apply A6 hp1 hz ?_;apply⟨⟨_,rfl⟩,?_,As s1 hp⟩;rw[Ac,<-S4 hk,hd];rfl
 ·rintro Y H1 ⟨⟨v2,rfl⟩,hp1,s1⟩
  rw[c5,E2,ej (c9 _)] at hp1;k_is;exact q p H1 s1 hp1
inductive eI(vs:List V)(H:Hp)(Q:VK)(E:XK):Prop|mk(a:de)(ds:Za4)(_:vs=[.ref a])(_:H a=some (.lst ((Ee ds).map V.int)))(_:Dok ds)(_:ds.length<4000)(_:∀H',Ah H H'->Q (.str (Ar (J6 ds))) H')
theorem cO {l:Za4}{i:Nat}{x:V}(h:(nV l)[i]?=some x):∃n,l[i]?=some n/\x=.int (n:Nat):=by
 unfold nV at h;rw[df] at h
 cases e:l[i]? with
 |none=>rw[e] at h;cases h
 |some n=>
  rw[e] at h;exact⟨n,rfl,(dh h).symm⟩
theorem vL {ds:Za4}{k:Nat}(h:ds[k]?=some n):n=dAt ds k:=by
 unfold dAt ju;rw[h];rfl
include T in
theorem iH (F:Fun K "row_of" "row_of" Pz f fd)(bf:Cal P w K mg base "depths_of" 1 ["elders"] X7)(bh:Cal P w K mg base "look_at" 2 ["elders"] jP):Ax P w K mg base CX0 3 f fd ["elders"] eI:=by
 exists F.ok G3
 obtain⟨a,ds,rfl,ha,hD,hn,q⟩:=h;refine⟨_,(Ab (tst 1 G3.nd (Bl Aa)) (Ab (tst 2 G3.nd Af) (Ab (Cl gg rfl (C2 (Az bf hr.m (tpa (Az bh hr.m (tpa (pv 0) Aa)) Aa))) (tgn 3 G3.nd) (Ab (At (Bw ee fe fc Aw (pv 1) (tpa (An K0 (An fI Bo (An D1 (pv 2) (pv 3))) Bo) Aa))) (Ae (tst 2 G3.nd (An B6 (pv 3) Af))))) (Ab (At (Bw ee fe fc Aw (pv 1) (tpa (An fI Bo (pv 2)) Aa))) (Ae (Ap (Bw jd lx lw K2 Bo (tpa (pv 1) Aa)))))))),?_⟩
 apply⟨fq _,λp hp=>?_⟩;k_is;have t0:=Al (o:=.lst []) hp;refine⟨a,ds,rfl,t0 _ _ ha,hD,hn,λl1 H1 s1 hl1=>?_⟩;apply⟨l1,ds,rfl,hl1,hD,hn,λl2 H2 s2 hl2=>?_⟩;apply⟨l2,rfl,⟨_,SqL.of hl2⟩,?_⟩;have s12:=s1.trans s2;have hp2:=s12 _ _ (Ac (H:=H) (a:=p) (o:=.lst []));have npl:l2≠p\/ds=[]:=by
  by_cases e:l2=p
  ·subst e
   rw[hp2] at hl2;have:=HO.lst.inj (dh hl2)
   cases ds with
   |nil=>exact .inr rfl
   |cons d r=>cases this
  ·exact .inl e
 refine G7 (xs:=nV ds) (λk Y H3=>(∃v3:Option V,Y=[some (.ref a),some (.ref p),some (.int (opn ds k:Nat)),v3])/\H3 p=some (.lst ((di k).map λi=>V.str (Ar (Bq ds i))))/\Ah H H3/\H3 l2=some (.lst (nV ds))) ⟨⟨_,rfl⟩,hp2,t0.trans s12,hl2⟩ (λk Y H3 _ h=>SqL.of h.2.2.2) ?_ ?_
 ·rintro k x Y H3 hx ⟨⟨v3,rfl⟩,hp3,s3,hl3⟩
  have hk:=B0 hx;rw[Ft] at hk;have nlp:l2≠p:=by
   rcases npl with h|h
   ·exact h
   ·rw[h] at hk;cases hk
  obtain⟨d,hd,rfl⟩:=cO hx;obtain rfl:=vL hd;have hop:=Kw hD k (by lia);have hdk:=hD k hk;apply⟨.inl ⟨rfl,_,SqL.of hp3⟩,?_⟩;apply⟨"0",(opn ds k:Int)-(dAt ds k:Int),rfl,rfl,by lia,by lia,?_,few (by decide),?_⟩
  ·exact fw (Ag (by rw[show("0":Str).length=1 by rfl];lia))
  have e0:R7 ("0":Str) ((opn ds k:Int)-(dAt ds k:Int)).toNat=Ar (dy (opn ds k-dAt ds k) false):=by
   rw[show((opn ds k:Int)-(dAt ds k:Int)).toNat=opn ds k-dAt ds k by lia];exact Tv false _
  rw[e0];k_is;have e1:Ar (dy (opn ds k-dAt ds k) false)++("1":Str)=Ar (Bq ds k):=U9 (dy (opn ds k-dAt ds k) false) [true];refine⟨_,"1",rfl,rfl,?_,?_⟩
  ·rw[A0,ko]
   exact fw (Ag (by rw[show("1":Str).length=1 by rfl];lia))
  rw[e1];apply A6 hp3 (by rw[c5,dn];exact Ag (by lia)) ?_;apply⟨⟨_,rfl⟩,?_,As s3 hp,?_⟩
  ·rw[Ac,ik,dj]
   rfl
  ·rw[Ai nlp]
   exact hl3
 ·rintro Y H3 ⟨⟨v3,rfl⟩,hp3,s3,hl3⟩
  rw[Ft] at *;have hop:=Kw hD ds.length (c9 _);apply⟨.inl ⟨rfl,_,SqL.of hp3⟩,?_⟩;apply⟨"0",(opn ds ds.length:Int),rfl,rfl,by lia,by lia,?_,few (by decide),?_⟩
  ·exact fw (Ag (by rw[show("0":Str).length=1 by rfl];lia))
  have e0:R7 ("0":Str) ((opn ds ds.length:Int)).toNat=Ar (dy (opn ds ds.length) false):=by
   rw[fz];exact Tv false _
  rw[e0];apply A6 hp3 (by rw[c5,dn];exact Ag (by lia)) ?_;apply⟨rfl,?_⟩;k_is;have ef:((di ds.length).map (Bq ds)++[dy (opn ds ds.length) false]).flatten=J6 ds:=by
   rw[ke,lv];rfl
  refine Wq (ls:=(di ds.length).map (Bq ds)++[dy (opn ds ds.length) false]) ?_ ?_ ?_
  ·rw[Ac,dj,gu]
   rfl
  ·rw[ef,Gq hD]
   lia
  ·rw[ef]
   exact q _ (As s3 hp)
inductive O2(vs:List V)(H:Hp)(Q:VK)(E:XK):Prop|mk(l:Za5)(_:vs=[.str (Ar l)])(_:Vs 0 l)(_:l.length<=8000)(_:∀p (ds:Za4) H',Ah H H'->H p=none->H' p=some (.lst ((Ee ds).map V.int))->Dok ds->J6 ds=l->Q (.ref p) H')
include T aE in
theorem Uz (F:Fun K "elders_of" "elders_of" Io f fd):Ax P w K mg base CX0 2 f fd ["text"] O2:=by
 exists F.ok Fj
 obtain⟨l,rfl,hv,hn,q⟩:=h;refine⟨_,(Ab (At (Az aE hr.m (tpa (pv 0) Aa))) (Ab (B1 (ttc Hb (Am Bt (by rfl) T.bN B2 (tpa (pv 0) Aa)) (Bg rfl T.cg)) (Ae B5)
  A7) (Ab (tst 1 Fj.nd (Bl Aa)) (Ab (tst 2 Fj.nd (Bl (tpa (Di Cb Af) Aa))) (Ab (Cl gg rfl (Zl (pv 0)) (tgn 3 Fj.nd) (Ae (B1 (ttc Ig (pv 3) Bo) (Ab (At (Bw ee fe fc Aw (pv 1) (tpa (tix Bu (pv 2) (Di Cb Af)) Aa))) (Ae (At (Bw ee fe fc Aw (pv 2) (tpa (An D1 (Am Aq (by rfl) T.bN B2 (tpa (pv 1) Aa)) Af) Aa))))) (Ae (At (Vj ee og n8 U2 (pv 2))))))) (Ae (Ap (pv 1)))))))),?_⟩
 apply⟨l,rfl,hv,hn,λH1 s1=>?_⟩;apply⟨_,rfl,by rw[A0];exact fw (Ag (by lia)),?_⟩;k_is;rw[A0];refine Ct (λh=>by lia) (λ_=>?_);apply⟨fq _,λp hp1=>?_⟩;have hp:H p=none:=s1.free hp1;have t1:=Al (o:=.lst []) hp1;apply⟨few (by simp),λy hy=>?_⟩;have t2:=Al (o:=.lst [V.int (-1)]) hy;have hyH:H y=none:=(s1.trans t1).free hy;apply⟨_,rfl,?_⟩;refine fP (λi Y H2=>(∃(ds:Za4) (h:Nat) (v:Option V),Y=[some (.str (Ar l)),some (.ref p),some (.ref y),v]/\Dok ds/\ds.length<=i/\hgt l i=(h:Int)/\h<=opn ds ds.length/\l.take i=P6 ds ds.length++dy (opn ds ds.length-h) false /\
   H2 p=some (.lst ((Ee ds).map V.int))/\H2 y=some (.lst (((way ds ds.length).take (h+1)).map V.int)))/\Ah H H2) ⟨⟨[],0,_,rfl,(λk hk=>by cases hk),c9 _,rfl,c9 _,rfl,t2 _ _ Ac,Ac⟩,(s1.trans t1).trans t2⟩ ?_ ?_
 ·have hpy:p≠y:=Aj Ac hy
  rintro i c Y H2 hc ⟨⟨ds,h,v,rfl,hD,hdl,hh,hop,htk,hp2,hy2⟩,s2⟩;obtain⟨b,hb,rfl⟩:=Vo hc;have hi:=B0 hb;have hs:=K8 hb;have hw:=Ex hD ds.length (c9 _);obtain⟨h',hh',hvs,_⟩:=Xn hv i (by lia);have e:h'=h:=by lia
  subst e;have tk1:l.take (i+1)=l.take i++[b]:=by rw[gn,hb];rfl
  have hx:(way ds ds.length)[h'+1-1]?=some ((way ds ds.length).getD h' 0):=by
   rw[ny];unfold ju;rw[c6 (by lia)];rfl
  k_is
  cases b with
  |true=>
   refine Ct (λ_=>?_) (λh=>absurd rfl h);have hs:hgt l (i+1)=hgt l i+1:=hs;apply⟨.inl ⟨rfl,_,SqL.of hp2⟩,?_⟩;apply Cd (SqL.of hy2) (J0 (by lia) hx) ?_;apply A6 hp2 ?_ ?_
   ·rw[c5,E2]
    exact Ag (by lia)
   k_is;have hy3:upd H2 p (.lst ((Ee ds).map V.int++[V.int ((way ds ds.length).getD h' 0)])) y=some (.lst (((way ds ds.length).take (h'+1)).map V.int)):=by rw[Ai hpy.symm];exact hy2
   have hp3:=@Ac H2 p (.lst ((Ee ds).map V.int++[V.int ((way ds ds.length).getD h' 0)]));have s3:=As (o:=.lst ((Ee ds).map V.int++[V.int ((way ds ds.length).getD h' 0)])) s2 hp;generalize upd H2 p _=H3 at *;refine⟨.inl ⟨rfl,_,SqL.of hy3⟩,?_⟩;apply⟨p,_,rfl,.inl (SqL.of hp3),?_⟩;k_is;rw[c8,c5,E2];refine A6 hy3 ?_ ?_
   ·rw[Gy (by lia)]
    exact Ag (by have:=Kw hD ds.length (c9 _);lia)
   k_is;have hD2:=Wk (d:=h') hD hop;have hl2:(ds++[h']).length=ds.length+1:=by rw[c8];rfl
   have ho2:opn (ds++[h']) (ds.length+1)=h'+1:=by
    show dAt (ds++[h']) ds.length+1=_;rw[L8]
   refine⟨⟨ds++[h'],h'+1,_,rfl,hD2,by lia,by lia,by rw[hl2,ho2];exact c9 _,?_,?_,?_⟩,As s3 hyH⟩
   ·rw[tk1,htk,hl2,ho2,jx,List.replicate_zero,gd,Jo,Ts _ (c9 _),du]
    unfold Bq;rw[K7 _ (c9 _),L8]
   ·rw[Ai hpy,hp3,Tt,dj]
    rfl
   ·have hwl:=Ex hD2 (ds.length+1) (by lia)
    have ew:(way (ds++[h']) (ds.length+1)).take (h'+1+1)=(way ds ds.length).take (h'+1)++[(ds.length:Int)]:=by
     rw[ej (by lia),Xp]
    have ei:(((ds.length+[V.int ((way ds ds.length).getD h' 0)].length:Nat):Int)-1)=(ds.length:Int):=by
     simp only[f9,jm];lia
    rw[Ac,hl2,ew,dj,ei];rfl
  |false=>
   refine Ct (λh=>absurd h (by decide)) (λ_=>?_);have hs:hgt l (i+1)=hgt l i + -1:=hs;rw[Ju hb] at hvs;have hpos:=hvs.1;apply⟨.inl ⟨rfl,_,SqL.of hy2⟩,?_⟩;refine⟨y,_,.int ((way ds ds.length).getD h' 0),rfl,rfl,hy2,?_,?_⟩
   ·rw[Gy (by lia),Wx]
    rw[ij (by lia)];exact hx
   k_is;rw[M5 (by lia)];refine⟨⟨ds,h'-1,_,rfl,hD,by lia,by lia,by lia,?_,?_,?_⟩,As s2 hyH⟩
   ·rw[tk1,htk,du,show opn ds ds.length-(h'-1)=opn ds ds.length-h'+1 by lia,List.replicate_succ']
   ·rw[Ai hpy]
    exact hp2
   ·rw[Ac,show h'-1+1=h'+1-1 by lia]
 ·rintro Y H2 ⟨⟨ds,h,v,rfl,hD,hdl,hh,hop,htk,hp2,hy2⟩,s2⟩
  rw[show(Ar l).cps.size=l.length from A0 l] at *;obtain⟨h',hh',hvs,_⟩:=Xn hv l.length (c9 _);rw[i7 (c9 _)] at hvs;have hvs:h'=0:=hvs;have e:h=0:=by lia
  subst e;rw[ej (c9 _),ox] at htk;k_is;exact q p ds H2 s2 hp hp2 hD htk.symm
def oFs (p:V):List (Str×V):=[("pairs",p)]
inductive dS (K:c7)(CO:de)(vs:List V)(H:Hp)(Q:VK)(E:XK):Prop|mk(x dx:de)(p:V)(_:vs=[.ref x,p])(_:H x=some (.ins CO dx []))(_:Q .non (upd H x (.ins CO dx (oFs p))))
variable (am:Qb K ae)
include T am in
theorem Qs (F:Fun K "__init__" "Openings.__init__" Ff f fd):Ax P w K mg base CX0 1 f fd ["self","pairs"] (dS K ae):=by
 exists F.ok Mi
 obtain⟨x,dx,p,rfl,hx,q⟩:=h;refine⟨_,(Ae (tsf (pv 0) (pv 1))),?_⟩;k_is;exact C1 hx am.cl am.cw (show 0<1000 by decide) q
theorem X2 {K:c7}{x p:de}{l:Za5}{fs:List (Str×V)}(s:SameBut x H H')(hx:H x=some (.ins C dx fs))(hf:fs.length<3)(h:Dr K CB CC CP H p l):Dr K CB CC CP H' p l:=by
 obtain⟨d,b,c,t,o,h1,h2,h3,h4,h5⟩:=h;have ne:∀{y C' d':de} {gs:List (Str×V)},H y=some (.ins C' d' gs)->3<=gs.length->y≠x:=λhy hg e=>by
  rw[e,hx] at hy;cases hy;lia
 refine⟨d,b,c,t,o,s _ _ (ne h1 (show 3<=5 by decide)) h1,F2 s (D0 hx) ?_ h2,Ht s (D0 hx) ?_ h3,h4.keep (λy xs e=>s _ _ (λz=>by rw[z,hx] at e;cases e) e),h5⟩
 ·obtain⟨d2,t2,k,_⟩:=h2
  exact ne k (c9 3)
 ·obtain⟨d2,t2,u2,k,_⟩:=h3
  exact ne k (c9 3)
def Cr (K:c7)(CB CC CP CO:de)(H:Hp)(x:de)(ds:Za4):Prop:=∃(dx p:de),H x=some (.ins CO dx (oFs (.ref p)))/\Dr K CB CC CP H p (J6 ds)/\Dok ds/\ds.length<=4000
theorem Dr.kp {K:c7}{x:de}{l:Za5}(h:Dr K CB CC CP H x l)(s:Kp H H'):Dr K CB CC CP H' x l:=by
 obtain⟨d,b,c,t,o,h1,h2,h3,h4,h5⟩:=h;exact⟨d,b,c,t,o,s.k h1,h2.kp s,h3.kp s,h4.keep λb xs e=>s.k e,h5⟩
theorem Cr.kp {K:c7}{x:de}{ds:Za4}(h:Cr K CB CC CP CO H x ds)(s:Kp H H'):Cr K CB CC CP CO H' x ds:=by
 obtain⟨dx,p,h1,h2,h3⟩:=h;exact⟨dx,p,s.k h1,h2.kp s,h3⟩
inductive X5 (K:c7)(CB CC CP CO:de)(vs:List V)(H:Hp)(Q:VK)(E:XK):Prop|mk(x dx a:de)(ds:Za4)(_:vs=[.ref x,.ref a])(_:H x=some (.ins CO dx []))(_:H a=some (.lst ((Ee ds).map V.int)))(_:Dok ds)(_:ds.length<4000)(_:∀H',SameBut x H H'->Cr K CB CC CP CO H' x ds->Q .non H')
include T am in
theorem Q7 (F:Fun K "__init__" "Opened.__init__" Gi f fd)(bi:Cal P w K mg base "row_of" 3 ["elders"] eI)(bj:Mkr P w K mg base "Pairs" aa 7 ["self","text"] (eQ K ac ab aa))(Qu:qW P w K mg base "Openings" "__init__" 1 ["self","pairs"] (dS K ae)):Ax P w K mg base CX0 9 f fd ["self","elders"] (X5 K ac ab aa ae):=by
 exists F.ok Ox
 obtain⟨x,dx,a,ds,rfl,hx,ha,hD,hn,q⟩:=h;refine⟨_,(Ae (At (tD Qu hr.m rfl (tpa (pv 0) (tpa (Rj bj hr.m (tpa (Az bi hr.m (tpa (pv 1) Aa)) Aa)) Aa))))),?_⟩;apply⟨a,ds,rfl,ha,hD,hn,λH1 s1=>?_⟩;have hrl:=Gq hD;have hx1:=s1 _ _ hx;k_is;intro p dp hp hdp hpd;refine⟨p,dp,J6 ds,rfl,Ac,lB hD,by lia,λH5 s5 hP5=>⟨rfl,?_⟩⟩;have s5:=G1 hp hdp s5;have hx5:=s5 _ _ hx1;apply⟨x,dx,_,rfl,hx5,?_⟩;exact q _ ((s1.trans s5).but.trans A4) ⟨dx,p,Ac,X2 A4 hx5 (show 0<3 by decide) hP5,hD,fw hn⟩
inductive X4 (K:c7)(CB CC CP CO:de)(vs:List V)(H:Hp)(Q:VK)(E:XK):Prop|mk(x:de)(ds:Za4)(_:vs=[.ref x])(_:Cr K CB CC CP CO H x ds)(_:Q (.int (ds.length:Nat)) H)
include T am in
theorem Qh (F:Fun K "many_knots" "Openings.many_knots" Cy f fd)(bn:Mth P w K mg base aa "size" 1 ["self"] (Vm K ac ab aa)):Ax P w K mg base CX0 2 f fd ["self"] (X4 K ac ab aa ae):=by
 exists F.ok Ia
 obtain⟨x,ds,rfl,⟨dx,p,hx,hP,hD,hn⟩,q⟩:=h;refine⟨_,(Ae (Ap (An Ew (Fo bn hr.m (tfl (pv 0))) Af))),?_⟩;apply⟨x,ae,dx,_,_,rfl,hx,am.cl,am.cw,rfl,?_⟩;obtain⟨dp,b,c,t,o,hp,_⟩:=id hP;apply⟨p,dp,_,rfl,hp,rfl,?_⟩;apply⟨p,J6 ds,rfl,hP,?_⟩;k_is;rw[Gq hD,show(((2*ds.length:Nat):Int)/2)=(ds.length:Int) by lia];exact q
inductive mJ (K:c7)(CB CC CP CO:de)(vs:List V)(H:Hp)(Q:VK)(E:XK):Prop|mk(x:de)(ds:Za4)(_:vs=[.ref x])(_:Cr K CB CC CP CO H x ds)(_:∀H',Ah H H'->Q (.str (Ar (J6 ds))) H')
include T am in
theorem Q0 (F:Fun K "row" "Openings.row" Fq f fd)(bo:Mth P w K mg base aa "text" 7 ["self"] (Vn K ac ab aa)):Ax P w K mg base CX0 8 f fd ["self"] (mJ K ac ab aa ae):=by
 exists F.ok Ny
 obtain⟨x,ds,rfl,⟨dx,p,hx,hP,hD,hn⟩,q⟩:=h;obtain⟨dp,b,c,t,o,hp,_⟩:=id hP;refine⟨_,(Ae (Ap (Fo bo hr.m (tfl (pv 0))))),?_⟩;apply⟨x,ae,dx,_,_,rfl,hx,am.cl,am.cw,rfl,?_⟩;apply⟨p,dp,_,rfl,hp,rfl,?_⟩;k_is;exact⟨p,_,rfl,hP,q⟩
inductive Sw (K:c7)(CB CC CP CO:de)(vs:List V)(H:Hp)(Q:VK)(E:XK):Prop|mk(x:de)(ds:Za4)(_:vs=[.ref x])(_:Cr K CB CC CP CO H x ds)(_:∀p H',Ah H H'->H p=none->H' p=some (.lst ((Ee ds).map V.int))->Q (.ref p) H')
include T am in
theorem Qm (F:Fun K "elders" "Openings.elders" Ej f fd)(bp:Cal P w K mg base "elders_of" 2 ["text"] O2)(bq:Mth P w K mg base ae "row" 8 ["self"] (mJ K ac ab aa ae)):Ax P w K mg base CX0 9 f fd ["self"] (Sw K ac ab aa ae):=by
 exists F.ok Km
 obtain⟨x,ds,rfl,hO,q⟩:=h;obtain⟨dx,p,hx,hP,hD,hn⟩:=id hO;have hrl:=Gq hD;refine⟨_,(Ae (Ap (Az bp hr.m (tpa (Fo bq hr.m (pv 0)) Aa)))),?_⟩;apply⟨x,dx,_,rfl,hx,rfl,?_⟩;apply⟨x,ds,rfl,hO,λH1 s1=>?_⟩;apply⟨J6 ds,rfl,lB hD,by lia,λp ds' H2 s2 h0 h1 hD' e=>?_⟩;obtain rfl:=mQ hD' hD e;exact q p H2 (s1.trans s2) (s1.free h0) h1
theorem lI {x:Str}(hg:Gl X x)(hm:∃t,X.mg x=some (.str z t))(hd:autoParam ((x==("__debug__":Str))=false) QF):PE X (.Name x pos) (tC (.str z)):=by
 obtain⟨t,h⟩:=hm;exact Ob hg h ⟨t,rfl⟩ hd
def nmV:V->Bool
 |.str z=>Mp z
 |_=>false
theorem gY (c:Nat):(!(j5 ("abcdefghijklmnopqrstuvwxyz":Str) (sgn c) 0 ("abcdefghijklmnopqrstuvwxyz":Str).length 1).isEmpty)=O0 c:=by
 rw[show(!(j5 ("abcdefghijklmnopqrstuvwxyz":Str) (sgn c) 0 ("abcdefghijklmnopqrstuvwxyz":Str).length 1).isEmpty)=decide (c∈("abcdefghijklmnopqrstuvwxyz":Str).cps.toList) from EX "abcdefghijklmnopqrstuvwxyz" c];unfold O0;refine decide_eq_decide.mpr ?_;rw[show("abcdefghijklmnopqrstuvwxyz":Str).cps.toList=(di 26).map (97 + ·) by decide +kernel,iz];exact⟨λ⟨i,hi,e⟩=>by have:=io.mp hi;lia,λh=>⟨c-97,io.mpr (by lia),by lia⟩⟩
inductive Wd (K:c7)(vs:List V)(H:Hp)(Q:VK)(E:XK):Prop|mk(x:V)(_:vs=[x])(_:Mh K H x)(_:(∀z,x=.str z->z.length<=100))(_:∀H',Ah H H'->Q (.bl (nmV x)) H')
include T in
theorem Z6 (F:Fun K "is_name" "is_name" Jq f fd):Ax P w K mg base CX0 1 f fd ["thing"] (Wd K):=by
 exists F.ok Zw
 obtain⟨x,rfl,hA,hz,q⟩:=h;refine⟨_,(Ab (B1 (PW.pt (Fv (Cm (Ci (Am Bx (by rfl) T.bQ Bk (tpa (pv 0) (tpa (Eb (v:=.ty "str") rfl T.cB jU rfl) Aa))))) (Fv (ttc Ig (Am Bt (by rfl) T.bN B2 (tpa (pv 0) Aa)) Af) (Ge (ttc Hb (Am Bt (by rfl) T.bN B2 (tpa (pv 0) Aa)) (Bg rfl T.ck)))))) (Ae (Ap Fw))
  A7) (Ae (Ap (Am (kJ rfl) (by rfl) T.n_all zJ (tpa (F3 rfl Vb (Zl (pv 0)) (λ_ _ _ _=>Bv) (λ_ _ _ _=>(eM gF (pv 0) (lI rfl T.ci) rfl))) Aa))))),?_⟩
 obtain⟨t,ht,hk⟩:=hA;apply⟨_,_,_,_,rfl,ht,hk,?_⟩;k_is
 cases hb:isS x with
 |false=>
  have e:nmV x=false:=by cases x<;>first|rfl|cases hb
  k_is;have:=q H (Ah.refl _);rw[e] at this;exact this
 |true=>
  obtain⟨z,rfl⟩:∃z,x=.str z:=by
   cases x with
   |str z=>exact⟨z,rfl⟩
   |_=>cases hb
  have hz:=hz z rfl;apply⟨z,rfl,fw (Ag (by lia)),?_⟩;apply Ct (λh=>?_) (λh0=>?_)
  ·have e:nmV (.str z)=false:=by
    have:=V.int.inj h;show(decide _&&_)=false;rw[decide_eq_false (by lia),qw]
   k_is;have:=q H (Ah.refl _);rw[e] at this;exact this
  have h0:z.length≠0:=λe=>h0 (by rw[e];rfl);apply⟨z,rfl,fw (Ag (by lia)),?_⟩;apply Ct (λh=>?_) (λh8=>?_)
  ·have e:nmV (.str z)=false:=by
    show(decide _&&_)=false;rw[decide_eq_false (by lia),qw]
   k_is;have:=q H (Ah.refl _);rw[e] at this;exact this
  apply⟨z,rfl,?_⟩;refine uJ (λi=>((z.cps.toList.take i).map O0).map V.bl) rfl (λi hi=>?_) (λi c H1 R A hc s1 kR kA=>?_) (λD H1 hD s1 hD1=>?_)
  ·rw[c5,c5,eg]
   have:z.cps.toList.length=z.length:=fb;exact Ag (by lia)
  ·apply⟨_,_,rfl,rfl,?_⟩;rw[gY];refine kA _ _ ?_ (Ah.refl _);rw[gn,show z.cps.toList[i]?=some c by rw[fj];exact hc,dj,dj];rfl
  ·have el:z.cps.toList.take z.cps.size=z.cps.toList:=ej (by rw[fb];exact c9 _)
   rw[el] at hD1;apply⟨D,_,rfl,SqL.of hD1,?_⟩;have:=q H1 s1;have e:nmV (.str z)=(z.cps.toList.map O0).all id:=by
    show(decide _&&_)=_;rw[decide_eq_true (by lia),re,List.all_map];rfl
   rw[e] at this;exact this
inductive Rx (K:c7)(vs:List V)(H:Hp)(Q:VK)(E:XK):Prop|mk(a:de)(nm:Za6)(_:vs=[.ref a])(_:H a=some (.lst (sV nm)))(_:(∀x∈nm,Mp x=true))(_:nm.length<=4000)(_:∀H',Ah H H'->Q .non H')
theorem Rm {x:Str}(h:Mp x=true):1<=x.length/\x.length<=8:=of_decide_eq_true (uf.mp h).1
variable (ax:Cal P w K mg base "is_name" 1 ["thing"] (Wd K))
include T ax in
theorem Rq (F:Fun K "check_names" "check_names" Gh f fd):Ax P w K mg base CX0 2 f fd ["names"] (Rx K):=by
 exists F.ok F0
 obtain⟨a,nm,rfl,ha,hN,hn,q⟩:=h;refine⟨_,(Ae (Cl gg rfl (L9 rfl T.cf (tpa (pv 0) Aa)) (Mx rfl (Cu (tgn 1 F0.nd) (Cu (tgn 2 F0.nd) Js))) (Ae (B1 (Cm (Ci (Az ax hr.m (tpa (pv 2) Aa)))) (Ae B5)
  A7)))),?_⟩
 apply⟨a,rfl,⟨_,SqL.of ha⟩,?_⟩;refine La (xs:=sV nm) (λk Y H1=>(∃v2 v3:Option V,Y=[some (.ref a),v2,v3])/\Ah H H1) ⟨⟨_,_,rfl⟩,Ah.refl _⟩ (λk Y H1 _ h=>SqL.of (h.2 _ _ ha)) ?_ ?_
 ·rintro k x Y H1 t hx ⟨⟨v2,v3,rfl⟩,s1⟩ ht
  obtain⟨z,hz,rfl⟩:=Ro hx;have hm:=hN z (e6 hz);have s2:=s1.trans (Al (o:=.tup [.int k,.str z]) ht);generalize upd H1 t _=H2 at *;apply⟨_,rfl,Ri _,λy e=>?_,λH3 s3=>?_⟩
  ·obtain rfl:=V.str.inj e
   have:=Rm hm;lia
  rw[show nmV (.str z)=true from hm];k_is;exact⟨⟨_,_,rfl⟩,s2.trans s3⟩
 ·rintro Y H1 ⟨⟨v2,v3,rfl⟩,s1⟩
  k_is;exact q H1 s1
def F5 (H:Hp)(as:List de)(rows:List (Str×Nat×Nat)):Prop:=as.length=rows.length/\∀(i:Nat) a r,as[i]?=some a->rows[i]?=some r->H a=some (.tup [.str r.1,.int r.2.1,.int r.2.2])
theorem F5.kp {rows:List (Str×Nat×Nat)}(h:F5 H as rows)(s:Kp H H'):F5 H' as rows:=⟨h.1,λi a r e1 e2=>s.k (h.2 i a r e1 e2)⟩
theorem F5.snoc {rows:List (Str×Nat×Nat)}{a:de}{r:Str×Nat×Nat}(h:F5 H as rows)(ha:H a=some (.tup [.str r.1,.int r.2.1,.int r.2.2])):F5 H (as++[a]) (rows++[r]):=by
 refine⟨by rw[c8,c8,h.1];rfl,λi b q e1 e2=>?_⟩
 by_cases hi:i<as.length
 ·rw[eh hi] at e1
  rw[eh (by rw[<-h.1];exact hi)] at e2;exact h.2 i b q e1 e2
 ·rw[dq (by lia)] at e1
  rw[dq (by rw[<-h.1];lia),<-h.1] at e2;have e0:i-as.length=0:=by have:=B0 e1;simp at this;lia
  rw[e0] at e1 e2;cases e1;cases e2;exact ha
theorem jF (xs:List V):Gj xs (some 1) none=xs.drop 1:=by
 unfold Gj;rw[show((1:Int))=((1:Nat):Int) from rfl,HT.sIx_nat];show(xs.drop (min 1 xs.length)).take (xs.length-min 1 xs.length)=_;rw[ej (by rw[gh];lia)]
 by_cases h:1<=xs.length
 ·rw[i9 h]
 ·rw[i7 (by lia),i7 (by lia)]
theorem Uf (S:Za6)(k:Nat):(bgs S k).length<=k:=by
 unfold bgs occ;have:=zl (λi=>(bgN S).getD i false==true) (di k);rw[dn] at this;exact this
inductive Ni(vs:List V)(H:Hp)(Q:VK)(E:XK):Prop|mk(a:de)(S:Za6)(_:vs=[.ref a])(_:H a=some (.lst (sV S)))(_:S.length<=4000)(_:∀l as H',Ah H H'->H l=none->H' l=some (.lst (as.map V.ref))->F5 H' as (Dc S S.length)->Q (.ref l) H')
include T in
theorem Nu (F:Fun K "stretches_of" "stretches_of" C8 f fd):Ax P w K mg base CX0 1 f fd ["names"] Ni:=by
 exists F.ok Ic
 obtain⟨a,S,rfl,ha,hn,q⟩:=h;refine⟨_,(Ab (Rh (i:=1) rfl Lu Ic.nd rfl rfl (De rfl T.bO (tpa (Am Aq (by rfl) T.bN B2 (tpa (pv 0) Aa)) Aa)) (λ_ _ _ _=>U6 (PW.pt (Fv (ttc Ig (pv 0) Af) (Ge (ttc O7 (tix (Gx K) (pv 1) (pv 0)) (tix (Gx K) (pv 1) (An D1 (pv 0) Af))))))) (λ_ _ _ _=>(pv 0))) (Ae (Ap (jS rfl L0 (Ur rfl T.cn (tpa (pv 1) (tpa (An Pj (Cg Oi (pv 1) (Bz Af) Hh) (Bl (tpa (Am Aq (by rfl) T.bN B2 (tpa (pv 0) Aa)) Aa))) Aa))) (λ_ _ _ _=>Bv) (λ_ _ _ _=>(Ji (tpa (tix (Gx K) (pv 2) (pv 0)) (tpa (pv 0) (tpa (pv 1) Aa))))))))),?_⟩
 apply⟨a,_,rfl,.inl (SqL.of ha),?_⟩;rw[C7];apply⟨_,rfl,by lia,by lia,?_⟩;rw[fz];refine Lp (λi=>nV (bgs S i)) rfl (λi hi=>?_) (λi H1 R A hi s1 kR kA=>?_) (λD H1 hD s1 hD1=>?_)
 ·rw[Ft]
  exact Ag (by have:=Uf S i;lia)
 ·have hb:=G0 hi
  obtain⟨x,hx⟩:∃x,S[i]?=some x:=⟨_,c6 hi⟩;rw[show(0+(i:Int))=(i:Int) by lia];have a1:=s1 _ _ ha
  by_cases h0:i=0
  ·rw[if_pos (.inl h0)] at hb
   apply Ct (λ_=>?_) (λz=>absurd (by rw[h0];rfl) z);apply kA _ _ ?_ (Ah.refl _);rw[hb,Ho]
  ·obtain⟨y,hy⟩:∃y,S[i-1]?=some y:=⟨_,c6 (by lia)⟩
   apply Ct (λz=>absurd (V.int.inj z) (by lia)) (λ_=>?_);apply Cd (SqL.of a1) (v:=.str x) (Bj (by rw[df,hx];rfl)) ?_;k_is;rw[show((i:Int)-1)=((i-1:Nat):Int) by lia];refine Cd (SqL.of a1) (v:=.str y) (Bj (by rw[df,hy];rfl)) ?_;refine⟨rfl,?_⟩;apply J5 (λh=>?_) (λh=>?_)
   ·rw[if_pos (.inr λz=>h (by rw[hx,hy] at z;rw[dh z]))] at hb
    apply kA _ _ ?_ (Ah.refl _);rw[hb,Ho]
   ·have e:x=y:=V.str.inj h
    rw[if_neg (by rintro(z|z);exact h0 z;exact z (by rw[hx,hy,e])),gd] at hb;k_is;exact kR (by rw[hb]) _ (Ah.refl _)
 have h1:=s1 _ _ ha;apply⟨D,_,rfl,SqL.of hD1,λp hp=>?_⟩;rw[jF] at *;obtain⟨u2,hp2⟩:=Ay (o:=.lst ((nV (bgs S S.length)).drop 1)) hp;have h2:=u2 _ _ h1;have hD2:=u2 _ _ hD1;have s2:=s1.trans u2;generalize upd H1 p _=H2 at *;apply⟨a,_,rfl,.inl (SqL.of h2),?_⟩;rw[C7];apply⟨few (by simp),λp3 hp3=>?_⟩;obtain⟨u3,hp33⟩:=Ay (o:=.lst [V.int (S.length:Nat)]) hp3;have h3:=u3 _ _ h2;have hD3:=u3 _ _ hD2;have hp4:=u3 _ _ hp2;have s3:=s2.trans u3;generalize upd H2 p3 _=H3 at *;have hbl:=Uf S S.length;have hdl:((nV (bgs S S.length)).drop 1).length=(bgs S S.length).length-1:=by rw[gh,Ft]
 refine⟨p,p3,_,_,rfl,rfl,hp4,hp33,fw (Ag (by rw[hdl,iw];lia)),λp5 hp5=>?_⟩;obtain⟨u5,hp55⟩:=Ay (o:=.lst ((nV (bgs S S.length)).drop 1++[V.int (S.length:Nat)])) hp5;have h5:=u5 _ _ h3;have hD5:=u5 _ _ hD3;have s5:=s3.trans u5;generalize upd H3 p5 _=H5 at *;apply⟨D,p5,rfl,⟨_,SqL.of hD5⟩,⟨_,SqL.of hp55⟩,?_⟩;have eE:(nV (bgs S S.length)).drop 1++[V.int (S.length:Nat)]=nV ((bgs S S.length).drop 1++[S.length]):=by
  unfold nV;rw[dj,pj];rfl
 rw[eE] at hp55;have eL:((bgs S S.length).drop 1++[S.length]).length=(bgs S S.length).length-1+1:=by rw[c8,gh,iw]
 refine Uk (SqL.of hD5) (SqL.of hp55) (λD i zs H=>∃as:List de,zs=as.map V.ref/\F5 H as ((Dc S S.length).take i)) (λD H _ _=>⟨[],rfl,rfl,λi a r e=>by cases e⟩) (λD i zs H us o hu ⟨as,e,hR⟩=>⟨as,e,hR.1,λi a r e1 e2=>?_⟩)
  (λD i zs H hi ⟨as,e,hR⟩=>?_) (λD i zs H H' s ⟨as,e,hR⟩=>⟨as,e,hR.kp (Ah.kp s)⟩) (λD i zs x y H6 A R hx hy s6 _ _ hP hA=>?_) (λD2 zs H6 hD2 s6 hP h6=>?_)
 ·rw[Ai (En (hR.2 i a r e1 e2) hu (by intro z;cases z))]
  exact hR.2 i a r e1 e2
 ·rw[e,c5,hR.1,eg]
  rw[Ft,Ft] at hi;exact Ag (by lia)
 ·obtain⟨as,rfl,hR⟩:=hP
  obtain⟨b,hb,rfl⟩:=cO hx;obtain⟨e,he,rfl⟩:=cO hy;obtain⟨hlt,_⟩:=xE hb;apply Cd (SqL.of (s6 _ _ h5)) (v:=.str (S.getD b ⟨#[]⟩)) (Bj (by rw[df,ft,c6 hlt];rfl)) ?_;apply⟨few (by simp),λt ht=>?_⟩;refine hA _ _ (Al ht) ⟨as++[t],by rw[dj];rfl,?_⟩;have er:(Dc S S.length).take (i+1)=(Dc S S.length).take i++[Ky S b e]:=by
   rw[gn];congr 1;unfold Dc;rw[df,(i6 (z:=(b,e))).mpr ⟨hb,he⟩];rfl
  rw[er];exact(hR.kp (Ah.kp (Al ht))).snoc (r:=Ky S b e) Ac
 ·obtain⟨as,rfl,hR⟩:=hP
  rw[ej (by unfold Dc;rw[c5,l6,Ft,Ft];exact c9 _)] at hR;exact q D2 as H6 (s5.trans s6) (s5.free hD2) h6 hR
structure Kee (S:Prop):Prop where
 q:S
theorem P5 {c S T:Prop}[Decidable c](h1:Kee S->c->T)(h2:Kee S->¬ c->T)(h:S):T:=(BR c).elim (h1 ⟨h⟩) (h2 ⟨h⟩)
abbrev Sl (nm:Za6)(v:Int):Str:=nm.getD v.toNat ⟨#[]⟩
def alk (nm:Za6)(x:Str)(ws:List Int):List Int:=ws.filter λv=>decide (Sl nm v=x)
theorem Lo (nm:Za6)(x:Str)(ws:List Int)(v:Int):alk nm x (ws++[v])=alk nm x ws++if Sl nm v=x then[v] else[]:=by
 unfold alk;rw[vg]
 by_cases h:Sl nm v=x
 ·rw[if_pos h,CJ,if_pos (decide_eq_true h)];rfl
 ·rw[if_neg h,CJ,if_neg (by rw[decide_eq_false h];decide)];rfl
structure Ups (nm:Za6) (H0 H:Hp) (u p t:de) (ws:List Int) (kvs:List (Key×V)):Prop where
 hu:H u=some (.dK kvs)
 has:∀v∈ws,B9 kvs (.inr (Sl nm v))≠none
 at':∀x y,B9 kvs (.inr x)=some y->∃l,y=.ref l/\H0 l=none/\l≠u/\l≠p/\l≠t/\H l=some (.lst ((alk nm x ws).map V.int))
 inj:∀x x' y,B9 kvs (.inr x)=some y->B9 kvs (.inr x')=some y->x=x'
theorem Ups.same {u p t:de}{kvs:List (Key×V)}(h:Ups nm H0 H u p t ws kvs)(s:Ah H H'):Ups nm H0 H' u p t ws kvs:=
 ⟨s _ _ h.hu,h.has,λx y e=>let ⟨l,a,b,c,d,e,f⟩:=h.at' x y e;⟨l,a,b,c,d,e,s _ _ f⟩,h.inj⟩
theorem Ups.put {u p t c:de}{o:HO}{kvs:List (Key×V)}(h:Ups nm H0 H u p t ws kvs)(hc:c=p\/c=t)(hn:c≠u):Ups nm H0 (upd H c o) u p t ws kvs:=
 ⟨by rw[Ai hn.symm];exact h.hu,h.has,λx y e=>let ⟨l,a,b,c1,d,e,f⟩:=h.at' x y e;⟨l,a,b,c1,d,e,by rw[Ai (by rcases hc with rfl|rfl<;>assumption)];exact f⟩,h.inj⟩
theorem Ups.empty {u p t:de}{kvs:List (Key×V)}{x:Str}(h:Ups nm H0 H u p t ws kvs)(e:B9 kvs (.inr x)=none):alk nm x ws=[]:=by
 unfold alk;rw[List.filter_eq_nil_iff];intro v hv z;exact h.has v hv (by rw[of_decide_eq_true z];exact e)
theorem Ups.list {u p t l:de}{ws':List Int}{kvs:List (Key×V)}{x:Str}(h:Ups nm H0 H u p t ws kvs)(e:B9 kvs (.inr x)=some (.ref l))(hw:∀v∈ws',v∈ws\/Sl nm v=x)(ho:∀y,y≠x->alk nm y ws'=alk nm y ws) :
  Ups nm H0 (upd H l (.lst ((alk nm x ws').map V.int))) u p t ws' kvs:=by
 obtain⟨l',e',b,c,d,e2,f⟩:=h.at' x _ e;cases e';refine⟨by rw[Ai c.symm];exact h.hu,λv hv z=>?_,λy v hy=>?_,h.inj⟩
 ·rcases hw v hv with hv|hv
  ·exact h.has v hv z
  ·rw[hv,e] at z;cases z
 ·obtain⟨m,rfl,b',c',d',e3,f'⟩:=h.at' y v hy
  refine⟨m,rfl,b',c',d',e3,?_⟩
  by_cases hxy:y=x
  ·subst hxy
   rw[e] at hy;cases hy;exact Ac
  ·rw[Ai (λz=>hxy (h.inj y x _ hy (by rw[e,z]))),ho y hxy]
   exact f'
theorem Ups.new {u p t l:de}{kvs:List (Key×V)}{x:Str}(h:Ups nm H0 H u p t ws kvs)(e:B9 kvs (.inr x)=none)(hl:H l=some (.lst []))(h0:H0 l=none)(hlp:l≠p)(hlt:l≠t)(hf:∀y v,B9 kvs (.inr y)=some v->v≠.ref l) :
  Ups nm H0 (upd H u (.dK (Ey kvs (.inr x) (.ref l)))) u p t ws (Ey kvs (.inr x) (.ref l)):=by
 have hlu:l≠u:=λz=>by rw[z,h.hu] at hl;cases hl
 refine⟨Ac,λv hv=>?_,λy v hy=>?_,λy y' v hy hy'=>?_⟩
 ·rw[Lg]
  split
  ·exact λz=>by cases z
  ·exact h.has v hv
 ·rw[Lg] at hy
  split at hy
  ·rename_i hyx
   cases hy;obtain rfl:=vw hyx;exact⟨l,rfl,h0,hlu,hlp,hlt,by rw[Ai hlu,h.empty e];exact hl⟩
  ·obtain⟨m,rfl,b',c',d',e3,f'⟩:=h.at' y v hy
   exact⟨m,rfl,b',c',d',e3,by rw[Ai c'];exact f'⟩
 ·rw[Lg] at hy hy'
  split at hy<;>split at hy'
  ·rename_i a b
   exact(vw a).trans (vw b).symm
  ·cases hy
   exact(hf _ _ hy' rfl).elim
  ·cases hy'
   exact(hf _ _ hy rfl).elim
  ·exact h.inj y y' v hy hy'
theorem Ups.setd {u p t l0:de}{kvs:List (Key×V)}{x:Str}{Q:VK}(h:Ups nm H0 H u p t ws kvs)(hk:kvs.length<sizeLine)(hl:H l0=some (.lst []))(h0:H0 l0=none)(hlp:l0≠p)(hlt:l0≠t)(hf:∀y v,B9 kvs (.inr y)=some v->v≠.ref l0)
  (q:∀l kvs' H',kvs'.length<=kvs.length+1->Ups nm H0 H' u p t ws kvs'->B9 kvs' (.inr x)=some (.ref l)->(∀b,b≠u->H' b=H b)->Q (.ref l) H'):Ug (.ref u) [.str x,.ref l0] H Q:=by
 refine mF h.hu hk (λy hy=>?_) (λhn=>?_)
 ·obtain⟨l,rfl,_⟩:=h.at' x y hy
  exact q l kvs H (xa _) h hy λ_ _=>rfl
 ·exact q l0 _ _ (Gb _ _ _) (h.new hn hl h0 hlp hlt hf) (by rw[Lg,if_pos rfl]) λb hb=>Ai hb
def Jj (ws:List Int):V:=match ws.getLast? with|none=>.non|some v=>.int v
theorem nJ (h:ws≠[]):(ws.map V.int)[(ws.map V.int).length-1]?=some (Jj ws):=by
 unfold Jj;rw[c5,df,<-List.getLast?_eq_getElem?,List.getLast?_eq_getLast h];rfl
def Sg (nm:Za6)(ds:Za4)(k:Nat):V:=Jj (alk nm (Sl nm k) ((way ds k).tail.take (dAt ds k)))
inductive Nj(vs:List V)(H:Hp)(Q:VK)(E:XK):Prop|mk(a b:de)(nm:Za6)(ds:Za4)(_:vs=[.ref a,.ref b])(_:H a=some (.lst ((Ee ds).map V.int)))(_:H b=some (.lst (sV nm)))(_:Dok ds)(_:nm.length=ds.length)(_:ds.length<=4000)(_:∀t H',Ah H H'->H t=none->H' t=some (.tup ((di ds.length).map (Sg nm ds)))->Q (.ref t) H')
include T in
theorem Kl (F:Fun K "namesakes_above" "namesakes_above" Ei f fd):Ax P w K mg base CX0 1 f fd ["elders","names"] Nj:=by
 exists F.ok Bf
 obtain⟨a,b,nm,ds,rfl,ha,hb,hD,hnl,hn,q⟩:=h;refine⟨_,(Ab (tst 2 Bf.nd (Bl Aa)) (Ab (tst 3 Bf.nd (Bl Aa)) (Ab (tst 4 Bf.nd Uy) (Ab (Cl gg rfl (L9 rfl T.cf (tpa (pv 0) Aa)) (Mx rfl (Cu (tgn 5 Bf.nd) (Cu (tgn 6 Bf.nd) Js))) (Ab (G2 gg (PW.pt (cS (ttc Hb (Am Aq (by rfl) T.bN B2 (tpa (pv 3) Aa)) Af) (U0 (ttc O7 (tix Bu (pv 3) (Di Cb Af)) (pv 6))))) (Ae (At (Vj ee og n8 U2 (tix mE (pv 4) (tix Bu (pv 1) (Vj ee og n8 U2 (pv 3)))))))) (Ab (At (Bw ee fe fc Aw (pv 3) (tpa (pv 5) Aa))) (Ab (tst 7 Bf.nd (Bw x0 wa PySem.F.type_dict_setdefault gZ (pv 4) (tpa (tix Bu (pv 1) (pv 5)) (tpa (Bl Aa) Aa)))) (Ab (At (Bw ee fe fc Aw (pv 2) (tpa (Gw (ttc Hb (Am Aq (by rfl) T.bN B2 (tpa (pv 7) Aa)) Af) (tix Bu (pv 7) (Di Cb Af)) Uq) Aa))) (Ae (At (Bw ee fe fc Aw (pv 7) (tpa (pv 5) Aa))))))))) (Ae (Ap (Cv Dn (by rfl) T.bX J3 (tpa (pv 2) Aa)))))))),?_⟩
 apply⟨fq _,λt ht=>?_⟩;obtain⟨u1,ht1⟩:=Ay (o:=.lst []) ht;generalize upd H t _=H1 at *;apply⟨fq _,λp hp=>?_⟩;have hp0:=u1.free hp;have npt:p≠t:=(Aj ht1 hp).symm;obtain⟨u2,hp1⟩:=Ay (o:=.lst []) hp;have ht2:=u2 _ _ ht1;have s2:=u1.trans u2;generalize upd H1 p _=H2 at *;k_is;intro u hu;have hu0:=s2.free hu;obtain⟨u3,hu1⟩:=Ay (o:=.dK []) hu;have nup:u≠p:=(Aj hp1 hu).symm;have nut:u≠t:=(Aj ht2 hu).symm;have ht3:=u3 _ _ ht2;have hp3:=u3 _ _ hp1;have s3:=s2.trans u3;generalize upd H2 u _=H3 at *;apply⟨a,rfl,⟨_,SqL.of (s3 _ _ ha)⟩,?_⟩;refine La (xs:=(Ee ds).map V.int) (λk Y H4=>(∃v5 v6 v7:Option V,Y=[some (.ref a),some (.ref b),some (.ref t),some (.ref p),some (.ref u),v5,v6,v7])/\Ah H H4/\H4 p=some (.lst ((way ds k).tail.map V.int))/\H4 t=some (.lst ((di k).map (Sg nm ds)))/\∃kvs,kvs.length<=k/\Ups nm H H4 u p t (way ds k).tail kvs)
  ⟨⟨_,_,_,rfl⟩,s3,hp3,ht3,[],c9 _,hu1,(λv hv=>by cases hv),(λx y e=>by cases e),λx x' y e=>by cases e⟩ (λk Y H4 _ h=>SqL.of (h.2.1 _ _ ha)) ?_ ?_
 ·rintro k x Y H4 r hx ⟨⟨v5,v6,v7,rfl⟩,s4,hp4,ht4,kvs,hkl,hU⟩ hr4
  have hk:=B0 hx;rw[c5,E2] at hk;obtain⟨e,he,rfl⟩:=Ru hx;rw[Vr hk] at he;obtain rfl:=dh he;have st:=Al (o:=.tup [.int k,.int (eld ds k)]) hr4;have hp5:=st _ _ hp4;have ht5:=st _ _ ht4;have hU5:=hU.same st;have s5:=s4.trans st;generalize upd H4 r _=H5 at *;have hl:=Ex hD k (by lia);have hd:=hD k hk;have hop:=Kw hD k (by lia);have hW:=Xl hD (k:=k) (by lia);have hwt:(way ds k).tail.length=opn ds k:=by rw[CG];lia
  have hget:∀j,(way ds k)[j+1]?=(way ds k).tail[j]?:=λj=>by rw[hW];rfl
  apply Fy (λY H6=>Y=[some (.ref a),some (.ref b),some (.ref t),some (.ref p),some (.ref u),some (.int k),some (.int (eld ds k)),v7]/\Ah H H6/\H6 t=some (.lst ((di k).map (Sg nm ds)))/\∃m,dAt ds k<=m/\m<=opn ds k/\H6 p=some (.lst (((way ds k).tail.take m).map V.int))/\∃kvs,kvs.length<=k/\Ups nm H H6 u p t ((way ds k).tail.take m) kvs) (λ_ H6=>T4 H6 p)
   ⟨rfl,s5,ht5,opn ds k,by lia,c9 _,by rw[ej (by lia)];exact hp5,kvs,hkl,by rw[ej (by lia)];exact hU5⟩ ?_
  rintro z Y H6 ⟨rfl,s6,ht6,m,hm1,hm2,hp6,kvs6,hkl6,hU6⟩ hz;have hml:((way ds k).tail.take m).length=m:=by rw[eg];lia
  rw[E3 hp6,c5,hml] at hz;apply⟨p,_,rfl,.inl (SqL.of hp6),?_⟩;rw[c5,hml];k_is
  by_cases hme:m=dAt ds k
  ·subst hme
   refine' P5 (c:=0<dAt ds k) (S:=?S) ?a ?b ?r
   case a=>
    intro kp hm;refine Ct (λ_=>?_) (λh=>absurd (by lia) h);apply Cd (SqL.of hp6) (v:=.int (eld ds k)) ?_ ?_
    ·refine Hr (Wx (n:=eld ds k) ?_)
     rw[c5,hml,ij (by lia),<-hget,show dAt ds k-1+1=dAt ds k by lia];exact Pm hD hk
    apply J5 (λh=>absurd rfl h) (λ_=>?_);exact kp.q
   case b=>
    intro kp hm;refine Ct (λh=>absurd h (by lia)) (λ_=>?_);exact kp.q
   k_is;have hwn:(way ds (k+1)).tail=(way ds k).tail.take (dAt ds k)++[(k:Int)]:=by
    show((way ds k).take (dAt ds k+1)++[(k:Int)]).tail=_;rw[hW];rfl
   refine⟨.inl ⟨rfl,_,SqL.of hp6⟩,?_⟩;apply A6 hp6 (by rw[c5,hml];exact Ag (by lia)) ?_;rw[<-AR (f:=V.int) (a:=(k:Int)),<-dj,<-hwn];have s7:Ah H (upd H6 p (.lst ((way ds (k+1)).tail.map V.int))):=As s6 hp0;have hp7:=@Ac H6 p (.lst ((way ds (k+1)).tail.map V.int));have ht7:upd H6 p (.lst ((way ds (k+1)).tail.map V.int)) t=_:=(Ai npt.symm).trans ht6;have hU7:=hU6.put (o:=.lst ((way ds (k+1)).tail.map V.int)) (.inl rfl) nup.symm;generalize upd H6 p _=H7 at *;apply⟨.inr (.inr (.inl ⟨rfl,.inl ⟨_,hU7.hu⟩⟩)),?_⟩;k_is;obtain⟨x,hx⟩:∃x,nm[k]?=some x:=⟨_,c6 (by lia)⟩;have hnx:Sl nm (k:Int)=x:=by
    show nm.getD (DA (k:Int)) _=x;rw[fz,ft,hx];rfl
   refine Cd (SqL.of (s7 _ _ hb)) (v:=.str x) (Bj (by rw[df,hx];rfl)) ?_;apply⟨fq _,λl0 hl0=>?_⟩;obtain⟨u8,hl8⟩:=Ay (o:=.lst []) hl0;have hp8:=u8 _ _ hp7;have ht8:=u8 _ _ ht7;have s8:=s7.trans u8;have hU8:=hU7.same u8;have hfr:∀y v,B9 kvs6 (.inr y)=some v->v≠.ref l0:=λy v e z=>by
    obtain⟨l,rfl,_,_,_,_,f⟩:=hU7.at' y v e;rw[V.ref.inj z,hl0] at f;cases f
   have n1:l0≠p:=(Aj hp7 hl0).symm;have n2:l0≠t:=(Aj ht7 hl0).symm;have h00:=s7.free hl0;generalize upd H7 l0 _=H8 at *;apply hU8.setd (Ag (by lia)) hl8 h00 n1 n2 hfr λl kvs9 H9 hk9 hU9 hv9 k9=>?_;have hp9:=(k9 p nup.symm).trans hp8;have ht9:=(k9 t nut.symm).trans ht8;have s9:Ah H H9:=λb o e=>(k9 b (Aj e hu0)).trans (s8 b o e);obtain⟨l',e',hl0',hlu,hlp,hlt,hl9⟩:=hU9.at' x _ hv9;cases e';apply⟨.inl ⟨rfl,_,SqL.of ht9⟩,?_⟩;apply⟨l,_,rfl,.inl (SqL.of hl9),?_⟩;rw[c5];k_is;have htl:((di k).map (Sg nm ds)).length<sizeLine:=by rw[c5,dn];exact Ag (by lia)
   refine' P5 (c:=alk nm x ((way ds k).tail.take (dAt ds k))=[]) (S:=?S2) ?b2 ?a2 ?r2
   case a2=>
    intro kp hm;refine Ct (λ_=>?_) (λh=>absurd (by have:=AE.mpr hm;lia) h);apply Cd (SqL.of hl9) (v:=Jj (alk nm x ((way ds k).tail.take (dAt ds k)))) (Hr (nJ hm)) ?_;exact kp.q
   case b2=>
    intro kp hm;refine Ct (λh=>absurd h (by rw[hm];decide)) (λ_=>?_);have z:=kp.q;rw[show Jj (alk nm x ((way ds k).tail.take (dAt ds k)))=V.non by rw[hm];rfl] at z;exact z
   apply A6 ht9 htl ?_;have hp10:upd H9 t (.lst ((di k).map (Sg nm ds)++[Jj (alk nm x ((way ds k).tail.take (dAt ds k)))])) p=_:=(Ai npt).trans hp9;have ht10:upd H9 t (.lst ((di k).map (Sg nm ds)++[Jj (alk nm x ((way ds k).tail.take (dAt ds k)))])) t=some (.lst ((di (k+1)).map (Sg nm ds))):=by
    rw[Ac,ik,dj];show _=some (HO.lst (_++[Jj (alk nm (Sl nm k) _)]));rw[hnx]
   have hl10:upd H9 t (.lst ((di k).map (Sg nm ds)++[Jj (alk nm x ((way ds k).tail.take (dAt ds k)))])) l=_:=(Ai hlt).trans hl9;have hU10:=hU9.put (o:=.lst ((di k).map (Sg nm ds)++[Jj (alk nm x ((way ds k).tail.take (dAt ds k)))])) (.inr rfl) nut.symm;have s10:Ah H (upd H9 t (.lst ((di k).map (Sg nm ds)++[Jj (alk nm x ((way ds k).tail.take (dAt ds k)))]))):=As s9 ht;generalize upd H9 t _=H10 at *;apply⟨.inl ⟨rfl,_,SqL.of hl10⟩,?_⟩;apply A6 hl10 (by rw[c5];exact Ag (by have:=zl (λv=>decide (Sl nm v=x)) ((way ds k).tail.take (dAt ds k));unfold alk;lia)) ?_;k_is;have ea:(alk nm x ((way ds k).tail.take (dAt ds k))).map V.int++[V.int (k:Int)]=(alk nm x (way ds (k+1)).tail).map V.int:=by
    rw[hwn,Lo,if_pos hnx,dj];rfl
   rw[ea];refine⟨⟨_,_,_,rfl⟩,As s10 hl0',(Ai hlp.symm).trans hp10,(Ai hlt.symm).trans ht10,kvs9,by lia,?_⟩;refine hU10.list hv9 (λv hv=>?_) (λy hy=>?_)
   ·rw[hwn] at hv
    rcases f8.mp hv with hv|hv
    ·exact .inl hv
    ·rw[fg.mp hv];exact .inr hnx
   ·rw[hwn,Lo,if_neg (λz=>hy (z.symm.trans hnx)),gd]
  ·have hm0:0<m:=by lia
   refine Ct (λ_=>?_) (λh=>absurd (by lia) h);k_is;obtain⟨y,hy⟩:∃y,(way ds k).tail[m-1]?=some y:=⟨_,c6 (by lia)⟩;have hyt:((way ds k).tail.take m)[m-1]?=some y:=by rw[ij (by lia)];exact hy
   have hye:((((way ds k).tail.take m).map V.int))[(((way ds k).tail.take m).map V.int).length-1]?=some (.int y):=by
    rw[c5,hml];exact Wx hyt
   refine Cd (SqL.of hp6) (v:=.int y) (Hr hye) ?_;obtain⟨v,rfl,hvk,_⟩:=Rg hD k (m-1) y (by lia) (by rw[hget];exact hy);have hne:(v:Int)≠eld ds k:=λz=>by
    have:=Yx hD k (dAt ds k) (m-1+1) _ _ (by lia) (by lia) (Pm hD hk) (by rw[hget];exact hy);lia
   apply J5 (λ_=>?_) (λh=>absurd (V.int.inj h) hne);refine Mv ?_;apply⟨.inl ⟨rfl,_,SqL.of hp6⟩,?_⟩;refine⟨p,_,.int v,rfl,rfl,hp6,hye,?_⟩;k_is;rw[M5 (by lia)];have hwm:(way ds k).tail.take m=(way ds k).tail.take (m-1)++[(v:Int)]:=by
    rw[show m=m-1+1 by lia,gn,show m-1+1-1=m-1 by lia,hy];rfl
   have hp7:=@Ac H6 p (.lst (((way ds k).tail.take (m-1)).map V.int));have ht7:upd H6 p (.lst (((way ds k).tail.take (m-1)).map V.int)) t=_:=(Ai npt.symm).trans ht6;have s7:Ah H (upd H6 p (.lst (((way ds k).tail.take (m-1)).map V.int))):=As s6 hp0;have hU7:=hU6.put (o:=.lst (((way ds k).tail.take (m-1)).map V.int)) (.inl rfl) nup.symm;generalize upd H6 p _=H7 at *;obtain⟨x,hx⟩:∃x,nm[v]?=some x:=⟨_,c6 (by lia)⟩;have hnx:Sl nm (v:Int)=x:=by
    show nm.getD (DA (v:Int)) _=x;rw[fz,ft,hx];rfl
   refine Cd (SqL.of (s7 _ _ hb)) (v:=.str x) (Bj (by rw[df,hx];rfl)) ?_;have hvm:(v:Int)∈(way ds k).tail.take m:=by rw[hwm];simp
   obtain⟨w',hw'⟩:=Option.ne_none_iff_exists'.mp (hnx▸hU7.has _ hvm);obtain⟨l,rfl,hl0',hlu,hlp,hlt,hl7⟩:=hU7.at' x _ hw';refine vD hU7.hu hw' ?_;have ea:(alk nm x ((way ds k).tail.take m))=alk nm x ((way ds k).tail.take (m-1))++[(v:Int)]:=by rw[hwm,Lo,if_pos hnx]
   rw[ea] at hl7;refine⟨.inl ⟨rfl,_,SqL.of hl7⟩,?_⟩;refine⟨l,_,.int v,rfl,rfl,hl7,by rw[dj,c8,dq (by simp)];simp,?_⟩;rw[dj,show([(v:Int)].map V.int)=[V.int v] from rfl,List.dropLast_concat];refine⟨⟨rfl,As s7 hl0',(Ai hlt.symm).trans ht7,m-1,by lia,by lia,(Ai hlp.symm).trans hp7,kvs6,hkl6,?_⟩,?_⟩
   ·refine hU7.list hw' (λv' hv'=>.inl ?_) (λy hy=>?_)
    ·rw[hwm];exact jr _ hv'
    ·rw[hwm,Lo,if_neg (λz=>hy (z.symm.trans hnx)),gd]
   ·rw[E3 ((Ai hlp.symm).trans hp7),c5,eg]
    lia
 ·rintro Y H4 ⟨⟨v5,v6,v7,rfl⟩,s4,hp4,ht4,kvs,hkl,hU⟩
  rw[c5,E2] at ht4;apply⟨t,_,rfl,.inl ⟨SqL.of ht4,λr hr4=>?_⟩⟩;exact q r _ (s4.trans (Al hr4)) (s4.free hr4) Ac
theorem SmB.hk {ts:List Tb}{x:de}(s:SmB ts x H H'):Kp (Hm x H) H':=λb u n e=>s.keep b u (Uv e).1 n (Uv e).2
theorem M0 {x b:de}{u:HO}{fs:List (Str×V)}(hx:H x=some (.ins C dx fs))(h:H b=some u)(n:∀C d gs,u=.ins C d gs->gs≠fs):Hm x H b=some u:=by
 rw[Ld (λz=>by rw[z,hx] at h;exact n _ _ _ (dh h).symm rfl)];exact h
theorem Cr.hid {K:c7}{x:de}{w:de}{ds:Za4}(hx:H x=some (.ins C dx []))(h:Cr K CB CC CP CO H w ds):Cr K CB CC CP CO (Hm x H) w ds:=by
 have ni:∀{b C d:de} {g:Str×V} {gs:List (Str×V)},H b=some (.ins C d (g::gs))->Hm x H b=some (.ins C d (g::gs)):=λe=>M0 hx e λ_ _ _ z e2=>by cases z;cases e2
 have nt:∀{b:de} {xs:List V},H b=some (.tup xs)->Hm x H b=some (.tup xs):=λe=>M0 hx e λ_ _ _ z=>by cases z
 obtain⟨dw,p,h1,⟨d,b,c,t,o,a1,⟨d2,t2,b1,b2,b3⟩,⟨d3,t3,u3,c1,c2,c3,c4⟩,a4,a5⟩,h3⟩:=h;exact⟨dw,p,ni h1,⟨d,b,c,t,o,ni a1,⟨d2,t2,ni b1,nt b2,b3⟩,⟨d3,t3,u3,ni c1,nt c2,nt c3,c4⟩,a4.keep λb xs e=>nt e,a5⟩,h3⟩
theorem Bh.hid {K:c7}{x c:de}{fs:List (Str×V)}{l:Za5}(hx:H x=some (.ins C dx fs))(n:c≠x)(h:Bh K CC H c l):Bh K CC (Hm x H) c l:=by
 have nt:∀{b:de} {xs:List V},H b=some (.tup xs)->Hm x H b=some (.tup xs):=λe=>M0 hx e λ_ _ _ z=>by cases z
 obtain⟨d3,t3,u3,c1,c2,c3,c4⟩:=h;exact⟨d3,t3,u3,(Ld n).trans c1,nt c2,nt c3,c4⟩
theorem F7.hid {x s:de}{fs:List (Str×V)}{st:Nat}(hx:H x=some (.ins C dx fs))(n:s≠x)(h:F7 CS H s ns st):F7 CS (Hm x H) s ns st:=by
 obtain⟨d,t,e,h1,h2,h3⟩:=h;exact⟨d,t,e,(Ld n).trans h1,M0 hx h2 (λ_ _ _ z=>by cases z),M0 hx h3 λ_ _ _ z=>by cases z⟩
theorem F5.hid {x:de}{fs:List (Str×V)}{rows:List (Str×Nat×Nat)}(hx:H x=some (.ins C dx fs))(h:F5 H as rows):F5 (Hm x H) as rows:=⟨h.1,λi a r e1 e2=>M0 hx (h.2 i a r e1 e2) λ_ _ _ z=>by cases z⟩
def dB (H:Hp)(cs es:List de)(rows:List (Str×Nat×Nat)):Prop:=cs.length=rows.length/\es.length=rows.length/\∀(i:Nat) c e r,cs[i]?=some c->es[i]?=some e->rows[i]?=some r->H c=some (.tup [.str r.1,.ref e])/\H e=some (.tup [.int r.2.1,.int r.2.2])
theorem dB.kp {cs es:List de}{rows:List (Str×Nat×Nat)}(h:dB H cs es rows)(k:Kp H H'):dB H' cs es rows:=⟨h.1,h.2.1,λi c e r e1 e2 e3=>⟨k.k (h.2.2 i c e r e1 e2 e3).1,k.k (h.2.2 i c e r e1 e2 e3).2⟩⟩
theorem cV {α:Type}{l:List α}{x y:α}{i:Nat}(h:(l++[x])[i]?=some y):(i<l.length/\l[i]?=some y)\/(i=l.length/\x=y):=by
 by_cases hi:i<l.length
 ·rw[eh hi] at h
  exact .inl ⟨hi,h⟩
 ·rw[dq (by lia)] at h
  have:=B0 h;have e0:i-l.length=0:=by simp at this;lia
  rw[e0] at h;exact .inr ⟨by lia,dh h⟩
theorem dB.snoc {cs es:List de}{rows:List (Str×Nat×Nat)}{c e:de}{r:Str×Nat×Nat}(h:dB H cs es rows)(h1:H c=some (.tup [.str r.1,.ref e]))(h2:H e=some (.tup [.int r.2.1,.int r.2.2])):dB H (cs++[c]) (es++[e]) (rows++[r]):=by
 refine⟨by rw[c8,c8,h.1];rfl,by rw[c8,c8,h.2.1];rfl,λi c' e' r' e1 e2 e3=>?_⟩;have l1:=h.1;have l2:=h.2.1;rcases cV e1 with⟨i1,e1⟩|⟨i1,rfl⟩
 ·rcases cV e2 with⟨i2,e2⟩|⟨i2,rfl⟩
  ·rcases cV e3 with⟨i3,e3⟩|⟨i3,rfl⟩
   ·exact h.2.2 i c' e' r' e1 e2 e3
   ·exact absurd i3 (by lia)
  ·exact absurd i2 (by lia)
 ·rcases cV e2 with⟨i2,e2⟩|⟨i2,rfl⟩
  ·exact absurd i2 (by lia)
  ·rcases cV e3 with⟨i3,e3⟩|⟨i3,rfl⟩
   ·exact absurd i3 (by lia)
   ·exact⟨h1,h2⟩
theorem Tl:∀(ks:Za6) (ys:List V) (kvs:List (Key×V)),(Ke kvs ks ys).length<=kvs.length+ks.length
 |[],_,_=>c9 _
 |_::_,[],_=>je _ _
 |k::ks,y::ys,kvs=>by
  have:=Tl ks ys (Ey kvs (.inr k) y);have:=Gb kvs (.inr k:Key) y;show(Ke (Ey kvs (.inr k) y) ks ys).length<=_;rw[f9];lia
theorem Pa (S:Za6)(k:Nat):(Dc S k).length<=k:=by
 unfold Dc;rw[c5,l6];have:=Uf S k;lia
def nFs (w s b l sp ns:V):List (Str×V):=[("kept_wood",w),("places",s),("begins",b),("kept_stretches",l),("spans",sp),("namesakes",ns)]
structure F8 (K:c7) (CB CC CP CO CS CN:de) (H:Hp) (x:de) (nm:Za6) (ds:Za4) (dx w s b l sp nk:de) (as:List de):Prop where
 hx:H x=some (.ins CN dx (nFs (.ref w) (.ref s) (.ref b) (.ref l) (.ref sp) (.ref nk)))
 hw:Cr K CB CC CP CO H w ds
 hs:F7 CS H s (Fx nm) 16
 hb:Bh K CC H b (bgN (El nm))
 hl:H l=some (.lst (as.map V.ref))
 hr:F5 H as (Dc (El nm) nm.length)
def Eu (K:c7)(CB CC CP CO CS CN:de)(H:Hp)(x:de)(nm:Za6)(ds:Za4):Prop:=nm.length=ds.length/\nm.length<64/\∃dx w s b l sp nk as,F8 K CB CC CP CO CS CN H x nm ds dx w s b l sp nk as
theorem F8.kp {K:c7}{CN:de}{x:de}{ds:Za4}{w s b l sp nk:de}(h:F8 K CB CC CP CO CS CN H x nm ds dx w s b l sp nk as)(k:Kp H H'):F8 K CB CC CP CO CS CN H' x nm ds dx w s b l sp nk as:=
 ⟨k.k h.hx,h.hw.kp k,h.hs.kp k,h.hb.kp k,k.k h.hl,h.hr.kp k⟩
theorem Eu.kp {K:c7}{CN:de}{x:de}{ds:Za4}(h:Eu K CB CC CP CO CS CN H x nm ds)(k:Kp H H'):Eu K CB CC CP CO CS CN H' x nm ds:=
 let ⟨h1,h2,dx,w,s,b,l,sp,nk,as,h3⟩:=h;⟨h1,h2,dx,w,s,b,l,sp,nk,as,h3.kp k⟩
theorem F8.hidL {K:c7}{CN:de}{x a:de}{ds:Za4}{w s b l sp nk:de}(ha:H a=some (.lst xs))(n:l≠a)(h:F8 K CB CC CP CO CS CN H x nm ds dx w s b l sp nk as):F8 K CB CC CP CO CS CN (Hm a H) x nm ds dx w s b l sp nk as:=by
 have k:∀{b:de} {u:HO},H b=some u->(∀ys,u≠.lst ys)->Hm a H b=some u:=λe n=>by
  rw[Ld (λz=>by rw[z,ha] at e;exact n _ (dh e).symm)];exact e
 have ki:∀{b C d:de} {gs:List (Str×V)},H b=some (.ins C d gs)->Hm a H b=some (.ins C d gs):=λe=>k e λ_ z=>by cases z
 have kt:∀{b:de} {ys:List V},H b=some (.tup ys)->Hm a H b=some (.tup ys):=λe=>k e λ_ z=>by cases z
 obtain⟨hx,⟨dw,p,h1,⟨d,b',c,t,o,a1,⟨d2,t2,b1,b2,b3⟩,⟨d3,t3,u3,c1,c2,c3,c4⟩,a4,a5⟩,h3⟩,⟨e1,e2,e3,f1,f2,f3⟩,⟨g1,g2,g3,i1,i2,i3,i4⟩,hl,hr⟩:=h;exact⟨ki hx,⟨dw,p,ki h1,⟨d,b',c,t,o,ki a1,⟨d2,t2,ki b1,kt b2,b3⟩,⟨d3,t3,u3,ki c1,kt c2,kt c3,c4⟩,a4.keep λb xs e=>kt e,a5⟩,h3⟩,⟨e1,e2,e3,ki f1,kt f2,k f3 λ_ z=>by cases z⟩,⟨g1,g2,g3,ki i1,kt i2,kt i3,i4⟩,(Ld n).trans hl,hr.1,λi a r e1 e2=>kt (hr.2 i a r e1 e2)⟩
inductive T8 (K:c7)(CB CC CP CO CS CN:de)(ts:List Tb)(vs:List V)(H:Hp)(Q:VK)(E:XK):Prop|mk(x dx w a:de)(nm:Za6)(ds:Za4)(_:vs=[.ref x,.ref w,.ref a])(_:H x=some (.ins CN dx []))(_:Cr K CB CC CP CO H w ds)(_:H a=some (.lst (sV nm)))(_:(∀z∈nm,Mp z=true))(_:nm.length=ds.length)(_:nm.length<64)(_:Tbs ts H)(_:∀H',SmB ts x H H'->Eu K CB CC CP CO CS CN (Hm a H') x nm ds->Q .non H')
variable (ag:Qd K af) (ZO:Qb K ae) (au:Mth P w K mg base ae "many_knots" 2 ["self"] (X4 K ac ab aa ae))
include T ag ZO au in
theorem Q9 {f c:de}(F:X9 K "__init__" "Named.__init__" Cj f fd c Pt)(hK:K.In base)(hB:base.BuiltinsAt mg Pt)(hts:(⟨Pt,Ik,"Named.__init__.<locals>.<lambda>"⟩:Tb)∈ts)(bt:Cal P w K mg base "check_names" 2 ["names"] (Rx K))(bu:nQ P w K mg base "Shortcuts" ad 4 ["self","order","step"] (Jm ad) [.int 16])(bv:Cal P w K mg base "begins_of" 5 ["things"] (Rc K ab))(bw:Cal P w K mg base "stretches_of" 1 ["names"] Ni)(bx:Cal P w K mg base "namesakes_above" 1 ["elders","names"] Nj)(bz:Mth P w K mg base ae "elders" 9 ["self"] (Sw K ac ab aa ae)) :
  Ax P w K mg base CX0 10 f fd ["self","wood","names"] (T8 K ac ab aa ae ad af ts):=by
 refine F.ok Sn (λvs H Q E h=>?_) (λA outer s H vs Q E hr h=>?_)
 ·obtain⟨x,dx,wd,a,nm,ds,rfl,_⟩:=h
  rfl
 ·obtain⟨x,dx,wd,a,nm,ds,rfl,hx,hW,ha,hN,hnl,h64,hT,q⟩:=h
  have hW0:=hW.hid hx;have nax:a≠x:=En ha hx (by intro z;cases z);have b0:SmB ts x H H:=SmB.refl hT;refine⟨_,(Ab (At (Az bt hr.m (tpa (pv 2) Aa))) (Ab (B1 (ttc O7 (Am Aq (by rfl) T.bN B2 (tpa (pv 2) Aa)) (Fo au hr.m (pv 1))) (Ae B5)
   A7) (Ab (tsf (pv 0) (pv 1)) (Ab (tsf (pv 0) (rH bu hr.m uG (tpa (iV (qual:="Named.__init__.<locals>.<lambda>") (i:=2) (cl:=s.heap.objs.size+1) rfl hr.m rfl T.cq (sB rfl T.bO (tpa (Am Aq (by rfl) T.bN B2 (tpa (pv 2) Aa)) Aa)) (F.code hK) hB rfl rfl (by kernel_rfl) (by kernel_rfl) (by kernel_rfl) (by kernel_rfl) (λ_ _ _ _ _=>rfl)) Aa))) (Ab (tsf (pv 0) (Az bv hr.m (tpa (Am L7 (by rfl) T.cq K5 (tpa (pv 2) Aa)) Aa))) (Ab (tsf (pv 0) (Az bw hr.m (tpa (Am L7 (by rfl) T.cq K5 (tpa (pv 2) Aa)) Aa))) (Ab (tsf (pv 0) (Cv (Y5 rfl) (by rfl) T.cG nL (tpa (F3 rfl Np (C2 (tfl (pv 0))) (λ_ _ _ _=>Bv) (λ_ _ _ _=>(Ji (tpa (tix (Oc K) (pv 0) Af) (tpa (Ji (tpa (tix (Oc K) (pv 0) Af) (tpa (tix (Oc K) (pv 0) Af) Aa))) Aa))))) Aa))) (Ae (tsf (pv 0) (Az bx hr.m (tpa (Fo bz hr.m (pv 1)) (tpa (pv 2) Aa)))))))))))),?_⟩
  apply⟨a,nm,rfl,ha,hN,by lia,λH1 s1=>?_⟩;have b1:=b0.then s1;have hx1:=s1 _ _ hx;have ha1:=s1 _ _ ha;apply⟨a,_,rfl,.inl (SqL.of ha1),?_⟩;rw[C7];have hW1:=hW.kp (Ah.kp s1);obtain⟨dw,pw,hw1,_⟩:=id hW1;apply⟨wd,dw,_,rfl,hw1,rfl,?_⟩;apply⟨wd,ds,rfl,hW1,?_⟩;apply J5 (λh=>absurd (by rw[hnl]) h) (λ_=>?_);apply Jt hx1 ag.cl ag.cz (show 0<1000 by decide) b1 λH2 hx2 b2 _=>?_;have ha2:=b2.k ha nax;apply⟨a,_,rfl,.inl (SqL.of ha2),?_⟩;rw[C7];apply⟨nm.length,rfl,by lia,λr hr2=>?_⟩;obtain⟨u3,hr3⟩:=Ay (o:=.rng 0 (nm.length:Int)) hr2;have b3:=b2.then u3;have hx3:=u3 _ _ hx2;have ha3:=u3 _ _ ha2;generalize upd H2 r _=H3 at *;refine⟨r,a,nm,rfl,rfl,ha3,h64,hr3,b3.ok.1 _ hts,λo H4 sx t4 ho3 ho4=>?_⟩;rw[Kf,<-Ly] at ho4;have k4:=Aaf b3.ok hts sx t4;have b4:=b3.sm k4;have hx4:=k4.k hx3;have ha4:=k4.k ha3;k_is;intro sx dsx hsx hdsx hsxd;have nsx:sx≠x:=(Aj hx4 hsx).symm;refine⟨sx,dsx,o,Fx nm,16,rfl,Ac,Je hsx hdsx _ _ ho4,W7 nm,by rw[E4];lia,by decide,λH5 s5 hS5=>⟨rfl,?_⟩⟩;have s5:=G1 hsx hdsx s5;have b5:=b4.then s5;have hx5:=s5 _ _ hx4;have hS5:=hS5.hid hx5 nsx;apply Jt hx5 ag.cl ag.cC (show 1<1000 by decide) b5 λH6 hx6 b6 k6=>?_;have ha6:=b6.k ha nax;apply⟨a,nm,rfl,SqL.of ha6,h64,λq1 hq1=>?_⟩;rw[Ra];obtain⟨u7,hq7⟩:=Ay (o:=.lst (sV (El nm))) hq1;have b7:=b6.then u7;have hx7:=u7 _ _ hx6;have k7:=k6.then u7;generalize upd H6 q1 _=H7 at *;apply⟨q1,El nm,rfl,hq7,by rw[Lr];lia,λb H8 s8 hb8 hC8=>?_⟩;have b8:=b7.then s8;have hx8:=s8 _ _ hx7;have k8:=k7.then s8;have hC8:=hC8.hid hx8 (Aj hx7 hb8).symm;apply Jt hx8 ag.cl ag.cI (show 2<1000 by decide) b8 λH9 hx9 b9 k9=>?_;have ha9:=b9.k ha nax;apply⟨a,nm,rfl,SqL.of ha9,h64,λq2 hq2=>?_⟩;rw[Ra];obtain⟨u10,hq10⟩:=Ay (o:=.lst (sV (El nm))) hq2;have b10:=b9.then u10;have hx10:=u10 _ _ hx9;have k10:=k9.then u10;generalize upd H9 q2 _=H10 at *;apply⟨q2,El nm,rfl,hq10,by rw[Lr];lia,λl as H11 s11 hl10 hl11 hR11=>?_⟩;rw[Lr] at hR11;have b11:=b10.then s11;have hx11:=s11 _ _ hx10;have k11:=k10.then s11;have nlx:l≠x:=(Aj hx10 hl10).symm;have hR11:=hR11.hid hx11;apply Jt hx11 ag.cl ag.cu (show 3<1000 by decide) b11 λH12 hx12 b12 k12=>?_;have hl12:=k12.k hl11 nlx;have hR12:=hR11.kp k12.hk;apply⟨x,af,dx,_,_,rfl,hx12,ag.cl,ag.cu,rfl,?_⟩;apply⟨l,rfl,⟨_,SqL.of hl12⟩,?_⟩;refine O8 (SqL.of hl12) (λi ys H=>∃cs es:List de,ys=cs.map V.ref/\dB H cs es ((Dc (El nm) nm.length).take i)) (λH _=>⟨[],[],rfl,rfl,rfl,λi c e r e1=>by cases e1⟩) (λi ys H D zs o hz ⟨cs,es,e,hP⟩=>⟨cs,es,e,hP.1,hP.2.1,λi c e r e1 e2 e3=>?_⟩)
   (λi ys H hi ⟨cs,es,e,hP⟩=>?_) (λi ys y H13 A R hy s13 ⟨cs,es,e,hP⟩ hA=>?_) (λD ys H13 hD s13 ⟨cs,es,e,hP⟩ hD13=>?_)
  ·obtain⟨a1,a2⟩:=hP.2.2 i c e r e1 e2 e3
   exact⟨by rw[Ai (En a1 hz (by intro z;cases z))];exact a1,by rw[Ai (En a2 hz (by intro z;cases z))];exact a2⟩
  ·have:=Pa (El nm) nm.length
   rw[e,c5,hP.1,eg];exact Ag (by lia)
  ·subst e
   rw[df] at hy;obtain⟨c,hc,rfl⟩:=gt.mp hy;obtain⟨rw3,hrw⟩:∃r,(Dc (El nm) nm.length)[i]?=some r:=⟨_,c6 (by rw[<-hR12.1];exact B0 hc)⟩;have hc13:=s13 _ _ (hR12.2 i c rw3 hc hrw);apply Fg (SqT.of hc13) (v:=.str rw3.1) rfl ?_;apply Fg (SqT.of hc13) (v:=.int rw3.2.1) rfl ?_;apply Fg (SqT.of hc13) (v:=.int rw3.2.2) rfl ?_;apply⟨few (by simp),λe he=>?_⟩;obtain⟨u1,he1⟩:=Ay (o:=.tup [.int rw3.2.1,.int rw3.2.2]) he;generalize upd H13 e _=H14 at *;apply⟨few (by simp),λc2 hc2=>?_⟩;have u2:=Al (o:=.tup [.str rw3.1,.ref e]) hc2;refine hA _ _ (u1.trans u2) ⟨cs++[c2],es++[e],by rw[dj];rfl,?_⟩;rw[gn,hrw];exact(hP.kp (Ah.kp (u1.trans u2))).snoc Ac (u2 _ _ he1)
  subst e;have hrl:(Dc (El nm) nm.length).length=as.length:=hR12.1.symm;rw[ej (by rw[c5,hrl];exact c9 _)] at hP;have b13:=b12.then s13;have hx13:=s13 _ _ hx12;have k13:=k12.then s13;apply⟨D,cs,(Dc (El nm) nm.length).map (·.1),es.map V.ref,rfl,hD13,⟨by rw[c5,hP.1],by rw[c5,hP.1,hP.2.1],λi c k y e1 e2 e3=>?_⟩,?_,λsp hsp=>?_⟩
  ·rw[df] at e2 e3
   obtain⟨r,hr,rfl⟩:=gt.mp e2;obtain⟨e,he,rfl⟩:=gt.mp e3;exact(hP.2.2 i c e r e1 he hr).1
  ·have:=Tl ((Dc (El nm) nm.length).map (·.1)) (es.map V.ref) []
   simpa using this
  have u14:=Al (o:=.dK (Ke [] ((Dc (El nm) nm.length).map (·.1)) (es.map V.ref))) hsp;have b14:=b13.then u14;have hx14:=u14 _ _ hx13;have k14:=k13.then u14;generalize upd H13 sp _=H14 at *;apply Jt hx14 ag.cl ag.cK (show 4<1000 by decide) b14 λH15 hx15 b15 k15=>?_;have hW15:=hW0.kp b15.hk;have ha15:=b15.k ha nax;obtain⟨dw',pw',hw15,_⟩:=id hW15;apply⟨wd,dw',_,rfl,hw15,rfl,?_⟩;apply⟨wd,ds,rfl,hW15,λe H16 s16 _ he16=>?_⟩;have hD:=hW15.choose_spec.choose_spec.2.2.1;apply⟨e,a,nm,ds,rfl,he16,s16 _ _ ha15,hD,hnl,by lia,λnk H17 s17 _ _=>?_⟩;have s17:=s16.trans s17;have b17:=b15.then s17;have hx17:=s17 _ _ hx15;apply Jt hx17 ag.cl ag.cM (show 5<1000 by decide) b17 λH18 hx18 b18 k18=>?_;have K15:=(k15.then s17).trans k18;have K12:=k14.trans K15;have K9:=k11.trans K12;have K6:=k8.trans K9;refine q H18 b18 ⟨hnl,h64,dx,wd,sx,b,l,sp,nk,as,F8.hidL (b18.k ha nax) ?_ ⟨hx18,hW0.kp b18.hk,hS5.kp K6.hk,hC8.kp K9.hk,K12.k hl11 nlx,hR11.kp K12.hk⟩⟩;exact(Aj (b10.k ha nax) hl10).symm
inductive M6 (K:c7)(CB CC CP CO CS CN:de)(vs:List V)(H:Hp)(Q:VK)(E:XK):Prop|mk(x:de)(nm:Za6)(ds:Za4)(lo hi:Nat)(_:vs=[.ref x,.int lo,.int hi])(_:Eu K CB CC CP CO CS CN H x nm ds)(_:lo<=hi)(_:hi<=nm.length)(_:∀p H',Ah H H'->H p=none->H' p=some (.lst (nV (((Fx nm).drop lo).take (hi-lo))))->Q (.ref p) H')
include T ag in
theorem Qp (F:Fun K "knots_at" "Named.knots_at" Dd f fd)(bA:Mth P w K mg base ad "there" 1 ["self","place"] (fW ad)):Ax P w K mg base CX0 2 f fd ["self","low","high"] (M6 K ac ab aa ae ad af):=by
 exists F.ok Ma
 obtain⟨x,nm,ds,lo,hi,rfl,⟨hnl,h64,dx,wd,sx,b,l,sp,nk,as,hN⟩,h1,h2,q⟩:=h;refine⟨_,(Ae (Ap (F3 rfl J7 (iU rfl T.bO (tpa (pv 1) (tpa (pv 2) Aa))) (λ_ _ _ _=>Bv) (λ_ _ _ _=>(Ie bA hr.m (qG K (pv 1)) (tpa (pv 0) Aa)))))),?_⟩;apply⟨_,_,rfl,⟨by lia,by lia,by lia,by lia⟩,?_⟩;rw[show((hi:Int)-(lo:Int)).toNat=hi-lo by lia];refine Lp (λi=>nV (((Fx nm).drop lo).take i)) rfl (λi hi=>?_) (λi H1 R A hi s1 kR kA=>?_) (λD H1 hD s1 hD1=>?_)
 ·rw[Ft,eg]
  exact Ag (by lia)
 ·have hol:=E4 nm
  obtain⟨v,hv⟩:∃v,(Fx nm)[lo+i]?=some v:=⟨_,c6 (by lia)⟩;have hN1:=hN.kp (Ah.kp s1);obtain⟨d5,t5,e5,hs5,_⟩:=id hN1.hs;apply⟨x,af,dx,_,_,rfl,hN1.hx,ag.cl,ag.cC,rfl,?_⟩;apply⟨sx,d5,_,rfl,hs5,rfl,?_⟩;apply⟨sx,Fx nm,16,lo+i,v,by rw[DL];rfl,hN1.hs,hv,?_⟩;refine kA _ _ ?_ (Ah.refl _);rw[gn,il,hv];exact(Ho _ _).symm
 exact q D H1 s1 hD hD1
inductive Yo (K:c7)(CB CC CP CO CS CN:de)(vs:List V)(H:Hp)(Q:VK)(E:XK):Prop|mk(x:de)(nm:Za6)(ds:Za4)(_:vs=[.ref x])(_:Eu K CB CC CP CO CS CN H x nm ds)(_:∀p H',Ah H H'->H p=none->H' p=some (.lst (nV (Fx nm)))->Q (.ref p) H')
include T ag au in
theorem Q6 (F:Fun K "order" "Named.order" Gc f fd)(bB:Mth P w K mg base af "knots_at" 2 ["self","low","high"] (M6 K ac ab aa ae ad af)) :
  Ax P w K mg base CX0 3 f fd ["self"] (Yo K ac ab aa ae ad af):=by
 exists F.ok Ps
 obtain⟨x,nm,ds,rfl,hI,q⟩:=h;obtain⟨hnl,h64,dx,wd,sx,b,l,sp,nk,as,hN⟩:=id hI;obtain⟨dw,pw,hw1,_⟩:=id hN.hw;refine⟨_,(Ae (Ap (Ie bB hr.m (pv 0) (tpa Af (tpa (Fo au hr.m (tfl (pv 0))) Aa))))),?_⟩;apply⟨x,dx,_,rfl,hN.hx,rfl,?_⟩;apply⟨x,af,dx,_,_,rfl,hN.hx,ag.cl,ag.cz,rfl,?_⟩;apply⟨wd,dw,_,rfl,hw1,rfl,?_⟩;apply⟨wd,ds,rfl,hN.hw,?_⟩;apply⟨x,nm,ds,0,ds.length,rfl,hI,fq _,by lia,λp H1 s1 hp h1=>?_⟩;rw[mj,ej (by rw[E4];lia)] at h1;exact q p H1 s1 hp h1
inductive Zz (K:c7)(CB CC CP CO CS CN:de)(vs:List V)(H:Hp)(Q:VK)(E:XK):Prop|mk(x:de)(nm:Za6)(ds:Za4)(_:vs=[.ref x])(_:Eu K CB CC CP CO CS CN H x nm ds)(_:∀p as H',Ah H H'->H p=none->H' p=some (.lst (as.map V.ref))->F5 H' as (Dc (El nm) nm.length)->Q (.ref p) H')
include T ag in
theorem Ql (F:Fun K "stretches" "Named.stretches" Eg f fd):Ax P w K mg base CX0 1 f fd ["self"] (Zz K ac ab aa ae ad af):=by
 exists F.ok Kz
 obtain⟨x,nm,ds,rfl,⟨hnl,h64,dx,wd,sx,b,l,sp,nk,as,hN⟩,q⟩:=h;refine⟨_,(Ae (Ap (Cv Hg (by rfl) T.bW Kq (tpa (tfl (pv 0)) Aa)))),?_⟩;apply⟨x,af,dx,_,_,rfl,hN.hx,ag.cl,ag.cu,rfl,?_⟩;apply⟨l,_,rfl,.inl (SqL.of hN.hl),λp hp=>?_⟩;exact q p as _ (Al hp) hp Ac (hN.hr.kp (Ah.kp (Al hp)))
theorem sD (o:Ord ns){J:List (Nat×Nat)}{p:Nat}{lg:Bool}{ws:Za4}(h:Way ns J p lg ws)(hp:p<ns.length)(hJ:∀x y,look J x=some y->y<ns.length):∃l,ws[ws.length-1]?=some l/\ns[l]?=some p:=by
 have key:∀{t q:Nat},q<ns.length->itr ns (t+1) q=p->(pth ns t q)[(pth ns t q).length-1]?=some (itr ns t q)/\ns[itr ns t q]?=some p:=λhq e=>by
  refine⟨by rw[Bm];exact wV (c9 _),?_⟩;rw[Xr (Ef o hq _)];exact congrArg some e
 cases h with
 |short h hn=>
  have e:=h.stop.resolve_left (by rw[hn];decide);exact⟨_,key hp e⟩
 | @long t q u h hn hf=>
  obtain⟨h1,h2⟩:=key (hJ _ _ hn) hf.stop;refine⟨_,?_,h2⟩;rw[c8,dq (by rw[Bm,Bm];lia),<-h1];congr 1;rw[Bm,Bm];lia
inductive W9 (K:c7)(CB CC CP CO CS CN:de)(vs:List V)(H:Hp)(Q:VK)(E:XK):Prop|mk(x:de)(nm:Za6)(ds:Za4)(k:Nat)(z:Str)(_:vs=[.ref x,.int k])(_:Eu K CB CC CP CO CS CN H x nm ds)(_:nm[k]?=some z)(_:∀H',Ah H H'->Q (.str z) H')
include T aD ag au in
theorem Qr (F:Fun K "name_of" "Named.name_of" Fd f fd)(bC:Cal P w K mg base "check_knot" 3 ["k","many_knots"] dP)(bE:Mth P w K mg base ad "back" 2 ["self","place"] (mI ad)):Ax P w K mg base CX0 5 f fd ["self","k"] (W9 K ac ab aa ae ad af):=by
 exists F.ok Gr
 obtain⟨x,nm,ds,k,z,rfl,⟨hnl,h64,dx,wd,sx,b,l,sp,nk,as,hN⟩,hz,q⟩:=h;have hk:=B0 hz;obtain⟨dw,pw,hw1,_⟩:=id hN.hw;refine⟨_,(Ab (At (Az bC hr.m (tpa (pv 1) (tpa (Fo au hr.m (tfl (pv 0))) Aa)))) (Ab (tst 2 Gr.nd (An D1 (Ie aD hr.m (tfl (pv 0)) (tpa Af (tpa (An B6 (Ie bE hr.m (tfl (pv 0)) (tpa (pv 1) Aa)) Af) Aa))) Af)) (Ae (Ap (tix Du (tix Bu (tfl (pv 0)) (pv 2)) Af))))),?_⟩
 apply⟨x,af,dx,_,_,rfl,hN.hx,ag.cl,ag.cz,rfl,?_⟩;apply⟨wd,dw,_,rfl,hw1,rfl,?_⟩;apply⟨wd,ds,rfl,hN.hw,?_⟩;apply⟨k,ds.length,rfl,by lia,by lia,?_⟩;k_is;obtain⟨d6,t6,u6,hb6,_⟩:=id hN.hb;obtain⟨d5,t5,e5,hs5,_⟩:=id hN.hs;refine⟨x,af,dx,_,_,rfl,hN.hx,ag.cl,ag.cI,rfl,?_⟩;refine⟨b,d6,_,rfl,hb6,rfl,?_⟩;apply⟨x,af,dx,_,_,rfl,hN.hx,ag.cl,ag.cC,rfl,?_⟩;apply⟨sx,d5,_,rfl,hs5,rfl,?_⟩;k_is;have hO:=W7 nm;have hol:=E4 nm;obtain⟨ws,hWy,hwl⟩:=sK hO (st:=16) (p:=k) (by decide) (by lia);obtain⟨lp,hlp,hlk⟩:=sD hO hWy (by lia) λa b e=>dU hO (by decide) e;refine⟨sx,Fx nm,16,k,_,ws,lp,rfl,hN.hs,hO,by decide,by lia,hWy,by lia,hlp,λH1 s1=>?_⟩;have hN1:=hN.kp (Ah.kp s1);obtain⟨z',hz',hsz⟩:=fJ hlk;obtain rfl:z=z':=dh (hz.symm.trans hz');have hlt:=B0 hlk;have hsl:=Lr nm;apply⟨b,_,true,lp+1,rfl,hN1.hb,by unfold bgN;rw[c5,dn];lia,λH2 s2=>?_⟩;have hN2:=hN1.kp (Ah.kp s2);obtain⟨c,hc,b9,e9,hrow⟩:=qU hsz;rw[hsl] at hrow;rw[hc];apply⟨x,af,dx,_,_,rfl,hN2.hx,ag.cl,ag.cu,rfl,?_⟩;k_is;have hcl:c<as.length:=by rw[hN2.hr.1];exact B0 hrow
 rw[show(((c+1:Nat):Int)-1)=(c:Int) by lia];refine Cd (SqL.of hN2.hl) (v:=.ref as[c]) (Bj (by rw[df,c6 hcl];rfl)) ?_;apply Fg (SqT.of (hN2.hr.2 c _ _ (c6 hcl) hrow)) (v:=.str z) rfl ?_;k_is;exact q _ (s1.trans s2)
inductive kM (K:c7)(vs:List V)(H:Hp)(Q:VK)(E:XK):Prop|mk(a:de)(ns:List Int)(k:Nat)(_:vs=[.ref a,.int k])(_:SqL K H a (ns.map V.int))(_:∀c:Int,Q (.int c) H)
include T in
theorem Oo (F:Fun K "_law_cell_at" "_law_cell_at" Gf f fd):Ax P w K mg base CX0 1 f fd ["_law_script","_law_k"] (kM K):=by
 exists F.ok Pe
 obtain⟨a,ns,k,rfl,hS,q⟩:=h;refine⟨_,(Ab (B1 (ttc mT (pv 1) (Am Aq (by rfl) T.bN B2 (tpa (pv 0) Aa))) (Ae (Ap (tix Bu (pv 0) (pv 1))))
  A7) (Ae (Ap Af))),?_⟩
 apply⟨a,_,rfl,.inl hS,?_⟩;k_is;rw[c5];refine Ct (λhb=>?_) (λhb=>?_)
 ·k_is
  have hk:k<ns.length:=by lia
  refine Cd hS (v:=.int ns[k]) ?_ (q _);refine Bj ?_;rw[df,c6 hk];rfl
 ·k_is
  exact q 0
include T in
theorem Ux (F:Fun K "_law_whole" "_law_whole" Ix f fd):Ax P w K mg base CX0 1 f fd ["_law_found"] K4:=by
 exists F.ok Up
 obtain⟨i,rfl,q⟩:=h;refine⟨_,(Ae (Ap (Zj (Am Bx (by rfl) T.bQ Bk (tpa (pv 0) (tpa (Eb (v:=.ty "int") rfl T.cx oM rfl) Aa))) (Zo (jM (Am Bx (by rfl) T.bQ Bk (tpa (pv 0) (tpa (Eb (v:=.ty "bool") rfl T.cE kY rfl) Aa)))))))),?_⟩;apply⟨_,_,_,_,rfl,.int _,Ng,?_⟩;apply⟨_,_,_,_,rfl,.int _,Ls,?_⟩;k_is;exact q
inductive dF(vs:List V)(H:Hp)(Q:VK)(E:XK):Prop|mk(c k:Int)(_:vs=[.int c,.int k])(_:0<=k)(_:k<=1000)(_:∀r:Int,0<=r->r<2147483587->Q (.int r) H)
include T in
theorem Vk (F:Fun K "_law_mixed" "_law_mixed" Jg f fd):Ax P w K mg base CX0 1 f fd ["_law_cell","_law_k"] dF:=by
 exists F.ok L5
 obtain⟨c,k,rfl,h0,h1,q⟩:=h;refine⟨_,(Ab (tst 2 L5.nd (An Cz (An Eo (An B6 (An Cz (pv 0) Af) Af) (An B6 Af (An Eo (An Eo Af (pv 1)) (pv 1)))) Af)) (Ae (Ap (An Cz (An Eo (An B6 (pv 2) (An Eo Af (pv 1))) (An B6 Af (An Eo Af (pv 1)))) Af)))),?_⟩
 apply Pl (by lia) (by lia) ?_;k_is;have b1:=k5 c (show(2147483647:Int)≠0 by decide);have b2:=j7 c (show(0:Int)<2147483647 by decide);refine mZ (by lia) (by lia) ?_;apply Pl (by lia) (by lia) ?_;k_is;exact q _ (k5 _ (by decide)) (j7 _ (by decide))
inductive Xa (K:c7)(vs:List V)(H:Hp)(Q:VK)(E:XK):Prop|mk(a:de)(ns:List Int)(k:Nat)(m:Int)(_:vs=[.ref a,.int k,.int m])(_:SqL K H a (ns.map V.int))(_:0<=m)(_:m<=100)(_:∀p (ds:List Int) H',Ah H H'->H p=none->H' p=some (.lst (ds.map V.int))->ds.length=m.toNat->Q (.ref p) H')
variable (ar:Cal P w K mg base "_law_cell_at" 1 ["_law_script","_law_k"] (kM K)) (az:Cal P w K mg base "_law_mixed" 1 ["_law_cell","_law_k"] dF)
include T ar az in
theorem Sk (F:Fun K "_law_digits" "_law_digits" Hu f fd) :
  Ax P w K mg base CX0 2 f fd ["_law_script","_law_at","_law_many"] (Xa K):=by
 exists F.ok Dm
 obtain⟨a,ns,k,m,rfl,hS,h0,h1,q⟩:=h;refine⟨_,(Ab (tst 3 Dm.nd (An Eo (Am pA (by rfl) T.n_abs xQ (tpa (Az ar hr.m (tpa (pv 0) (tpa (An B6 (pv 1) Af) Aa))) Aa)) (An D1 Af (An Cz (Az ar hr.m (tpa (pv 0) (tpa (pv 1) Aa))) Af)))) (Ab (tst 4 Dm.nd (Bl Aa)) (Ab (Cl gg rfl (De rfl T.bO (tpa (pv 2) Aa)) (tgn 5 Dm.nd) (Ae (B1 (ttc Hb (pv 3) Af) (Ab (At (Bw ee fe fc Aw (pv 4) (tpa (An Cz (pv 3) Af) Aa))) (Ae (tst 3 Dm.nd (An Ew (pv 3) Af)))) (Ae (At (Bw ee fe fc Aw (pv 4) (tpa (An Cz (Az az hr.m (tpa (Az ar hr.m (tpa (pv 0) (tpa (An B6 (An B6 (pv 1) Af) (An Cz (pv 5) Af)) Aa))) (tpa (pv 5) Aa))) Af) Aa))))))) (Ae (Ap (pv 4)))))),?_⟩
 apply⟨a,ns,k+1,rfl,hS,λc1=>?_⟩;apply⟨_,rfl,?_⟩;apply⟨a,ns,k,rfl,hS,λc2=>?_⟩;apply Pl (by lia) (by lia) ?_;apply⟨fq _,λp hp=>?_⟩;apply⟨m,rfl,by lia,by lia,?_⟩;have s0:Ah H (upd H p (.lst [])):=Al hp;have push:∀{H1:Hp} {o:HO},Ah H H1->Ah H (upd H1 p o):=λs1 b u e=>by rw[Ai (Aj e hp)];exact s1 _ _ e
 have z1:∀{l:List Int} {i:Nat},l.length=i->i<m.toNat->(l.map V.int).length<sizeLine:=λe hi=>by
  rw[c5,e];exact Db (by lia)
 refine Gu (λi Y H1=>∃(ds:List Int) (x:Int) (v5:Option V),Y=[some (.ref a),some (.int k),some (.int m),some (.int x),some (.ref p),v5]/\ds.length=i/\H1 p=some (.lst (ds.map V.int))/\Ah H H1) ⟨[],_,_,rfl,rfl,Ac,s0⟩ ?_ ?_
 ·rintro i Y H1 hi ⟨ds,x,v5,rfl,hd,hH,sm⟩
  apply Ct (λhb=>?_) (λhb=>?_)
  ·apply⟨.inl ⟨rfl,_,SqL.of hH⟩,?_⟩;apply A6 hH (z1 hd hi) ?_;k_is;exact⟨ds++[x%64],_,_,rfl,by rw[c8,hd];rfl,by rw[Ac,dj];rfl,push sm⟩
  ·apply⟨.inl ⟨rfl,_,SqL.of hH⟩,?_⟩;apply⟨a,ns,k+1+i%9,?_,sm.seq hS,λc3=>?_⟩
   ·rw[show(k:Int)+1+(0+(i:Int))%9=((k+1+i%9:Nat):Int) by lia]
    rfl
   apply⟨c3,_,rfl,by lia,by lia,λr _ _=>?_⟩;apply A6 hH (z1 hd hi) ?_;k_is;exact⟨ds++[r%64],_,_,rfl,by rw[c8,hd];rfl,by rw[Ac,dj];rfl,push sm⟩
 ·rintro Y H1 ⟨ds,x,v5,rfl,hd,hH,sm⟩
  k_is;exact q p ds H1 sm hp hH hd
inductive kT(vs:List V)(H:Hp)(Q:VK)(E:XK):Prop|mk(a:de)(gs:List Int)(_:vs=[.ref a])(_:H a=some (.lst (gs.map V.int)))(_:gs.length<=1000)(_:∀p (ds:Za4) H',Ah H H'->H p=none->H' p=some (.lst ((Ee ds).map V.int))->Dok ds->ds.length=gs.length->Q (.ref p) H')
theorem xC (xs:List V)(m:Nat):Gj xs none (some (m:Int))=xs.take m:=by
 unfold Gj;rw[HT.sIx_nat];show(xs.drop 0).take (min m xs.length-0)=xs.take m;rw[mj,ox]
 by_cases h:m<=xs.length
 ·rw[i9 h]
 ·rw[w4 (by lia),ej (c9 _),ej (by lia)]
include T in
theorem X1 (F:Fun K "_law_wood" "_law_wood" Kj f fd):Ax P w K mg base CX0 1 f fd ["_law_digits_here"] kT:=by
 exists F.ok Dx
 obtain⟨a,gs,rfl,ha,hn,q⟩:=h;refine⟨_,(Ab (tst 1 Dx.nd (Bl Aa)) (Ab (tst 2 Dx.nd (Bl Aa)) (Ab (Cl gg rfl (De rfl T.bO (tpa (Am Aq (by rfl) T.bN B2 (tpa (pv 0) Aa)) Aa)) (tgn 3 Dx.nd) (Ab (tst 2 Dx.nd (Cg Oi (pv 2) Hh (Bz (An D1 (Am Aq (by rfl) T.bN B2 (tpa (pv 2) Aa)) (An Cz (tix Bu (pv 0) (pv 3)) (An B6 (Am Aq (by rfl) T.bN B2 (tpa (pv 2) Aa)) Af)))))) (Ab (At (Bw ee fe fc Aw (pv 1) (tpa (tix Bu (An Pj (Bl (tpa (Di Cb Af) Aa)) (pv 2)) (Di Cb Af)) Aa))) (Ae (tst 2 Dx.nd (An Pj (pv 2) (Bl (tpa (pv 3) Aa)))))))) (Ae (Ap (pv 1)))))),?_⟩
 apply⟨fq _,λp hp=>?_⟩;apply⟨fq _,λp0 hp0=>?_⟩;have t0:=Al (o:=.lst []) hp;have t1:=Al (o:=.lst []) hp0;apply⟨a,_,rfl,.inl (SqL.of (t1 _ _ (t0 _ _ ha))),?_⟩;k_is;rw[c5];refine⟨_,rfl,by lia,by lia,?_⟩;rw[fz];refine Gu (λk Y H1=>(∃(q:de) (ds:Za4) (v:Option V),Y=[some (.ref a),some (.ref p),some (.ref q),v]/\Dok ds/\ds.length=k/\H1 p=some (.lst ((Ee ds).map V.int))/\H1 q=some (.lst ((way ds k).tail.map V.int))/\p≠q)/\Ah H H1)
  ⟨⟨p0,[],_,rfl,(λk hk=>by cases hk),rfl,t1 _ _ Ac,Ac,Aj Ac hp0⟩,t0.trans t1⟩ ?_ ?_
 ·rintro k Y H1 hk ⟨⟨q1,ds,v,rfl,hD,hl,hp1,hq1,hne⟩,s1⟩
  have hw:=Ex hD k (by lia);have hh:=Xl hD (k:=k) (by lia);have hok:=Kw hD k (by lia);have hwt:(way ds k).tail.length=opn ds k:=by rw[CG];lia
  apply⟨q1,_,rfl,.inl (SqL.of hq1),?_⟩;k_is;rw[c5,hwt];obtain⟨g,hg⟩:∃g,gs[k]?=some g:=⟨gs[k],c6 hk⟩;refine Cd (SqL.of (s1 _ _ ha)) (v:=.int g) ?_ ?_
  ·rw[show(0+(k:Int))=(k:Int) by lia]
   exact Bj (Wx hg)
  apply⟨q1,_,rfl,.inl (SqL.of hq1),?_⟩;k_is;rw[c5,hwt];refine eR (by lia) ?_;k_is;obtain⟨d,hd,hd1⟩:∃d:Nat,(opn ds k:Int)-g%((opn ds k:Int)+1)=(d:Int)/\d<=opn ds k:=by
   have e0:=k5 g (show(opn ds k:Int)+1≠0 by lia);have e1:=j7 g (show 0<(opn ds k:Int)+1 by lia);exact⟨((opn ds k:Int)-g%((opn ds k:Int)+1)).toNat,by lia,by lia⟩
  rw[hd];refine⟨q1,_,rfl,SqL.of hq1,λq2 h2=>?_⟩;rw[xC] at *;rw[<-nh] at *;have u2:=Al (o:=.lst (((way ds k).tail.take d).map V.int)) h2;apply⟨.inl ⟨rfl,_,SqL.of (u2 _ _ hp1)⟩,?_⟩;apply⟨few (by simp),λq3 h3=>?_⟩;have u3:=Al (o:=.lst [V.int (-1)]) h3;apply⟨q3,q2,_,_,rfl,rfl,Ac,u3 _ _ Ac,?_,λq4 h4=>?_⟩
  ·rw[c5,eg]
   exact few (by simp only[f9,jm];lia)
  have ew:[V.int (-1)]++((way ds k).tail.take d).map V.int=((way ds k).take (d+1)).map V.int:=by
   rw[hh];rfl
  rw[ew] at *;have u4:=Al (o:=.lst (((way ds k).take (d+1)).map V.int)) h4;have hx:(way ds k)[d+1-1]?=some ((way ds k).getD d 0):=by
   rw[ny];unfold ju;rw[c6 (by lia)];rfl
  apply Cd (SqL.of Ac) (J0 (by lia) hx) ?_;k_is;have u24:=(u2.trans u3).trans u4;refine A6 (u24 _ _ hp1) ?_ ?_
  ·rw[c5,E2]
   exact Ag (by lia)
  have hpq2:q2≠p:=(Aj hp1 h2).symm;have hq2':upd (upd (upd (upd H1 q2 (.lst (((way ds k).tail.take d).map V.int))) q3 (.lst [V.int (-1)])) q4 (.lst (((way ds k).take (d+1)).map V.int))) p (.lst ((Ee ds).map V.int++[V.int ((way ds k).getD d 0)])) q2=some (.lst (((way ds k).tail.take d).map V.int)):=by
   rw[Ai hpq2];exact u4 _ _ (u3 _ _ Ac)
  have s5:=As (o:=.lst ((Ee ds).map V.int++[V.int ((way ds k).getD d 0)])) (s1.trans u24) hp;have hp5:upd (upd (upd (upd H1 q2 (.lst (((way ds k).tail.take d).map V.int))) q3 (.lst [V.int (-1)])) q4 (.lst (((way ds k).take (d+1)).map V.int))) p (.lst ((Ee ds).map V.int++[V.int ((way ds k).getD d 0)])) p=some (.lst ((Ee ds).map V.int++[V.int ((way ds k).getD d 0)])):=Ac;generalize upd (upd (upd (upd H1 q2 (.lst (((way ds k).tail.take d).map V.int))) q3 (.lst [V.int (-1)])) q4 (.lst (((way ds k).take (d+1)).map V.int))) p (.lst ((Ee ds).map V.int++[V.int ((way ds k).getD d 0)]))=H5 at *;apply⟨few (by simp),λq6 h6=>?_⟩;have u6:=Al (o:=.lst [V.int (0+(k:Int))]) h6;refine⟨q2,q6,_,_,rfl,rfl,u6 _ _ hq2',Ac,?_,λq7 h7=>?_⟩
  ·rw[c5,eg]
   exact few (by simp only[f9,jm];lia)
  have u7:=Al (o:=.lst (((way ds k).tail.take d).map V.int++[V.int (0+(k:Int))])) h7;k_is;have hp7:=u7 _ _ (u6 _ _ hp5);refine⟨⟨q7,ds++[d],_,rfl,Wk hD (by rw[hl];exact hd1),by rw[c8,hl];rfl,?_,?_,Aj (u6 _ _ hp5) h7⟩,(s5.trans u6).trans u7⟩
  ·rw[hp7,Tt,dj,hl]
   rfl
  ·have e:=Xp ds d
   rw[hl] at e;rw[Ac,e,show(0+(k:Int))=(k:Int) by lia];have e2:((way ds k).take (d+1)++[(k:Int)]).tail=(way ds k).tail.take d++[(k:Int)]:=by
    rw[hh];rfl
   rw[e2,dj];rfl
 ·rintro Y H1 ⟨⟨q1,ds,v,rfl,hD,hl,hp1,hq1,hne⟩,s1⟩
  k_is;exact q p ds H1 s1 hp hp1 hD hl
theorem Oa (l:Za6)(x:Str):sV l++[V.str x]=sV (l++[x]):=by
 unfold sV;rw[dj];rfl
def Nv (z:Str):Bool:=z.cps.toList.all O0
theorem eY (h1:1<=z.length)(h2:z.length<=8)(h3:Nv z=true):Mp z=true:=by
 unfold Mp;rw[decide_eq_true ⟨h1,h2⟩,re];exact h3
theorem nN (h:Mp z=true):Nv z=true:=(uf.mp h).2
theorem Yq {a b:Str}(h1:Nv a=true)(h2:Nv b=true):Nv (a++b)=true:=by
 show((a.cps++b.cps).toList.all O0)=true;rw[qb,List.all_append];exact uf.mpr ⟨h1,h2⟩
theorem eA (a b:Str):(a++b).length=a.length+b.length:=Array.size_append
theorem qD (z:Str)(lo hi:Option Int):∃i k,(Lk z lo hi).cps.toList=(z.cps.toList.drop i).take k:=⟨_,_,jf ..⟩
theorem Pg (h:Nv z=true)(lo hi:Option Int):Nv (Lk z lo hi)=true:=by
 obtain⟨i,k,e⟩:=qD z lo hi;unfold Nv;rw[e,ja];exact λc hc=>ja.mp h c (ud (ky hc))
theorem Oy (z:Str)(m:Nat):(Lk z none (some (m:Int))).length=min m z.length:=by
 show(ql _ (qm _ _)).toArray.size=_;rw[d9,HT.sIx_nat];show(ql (min m z.cps.size-0) (qm 0 z.cps.toList)).length=_;rw[mj,ox,eg,fb];show min (min m z.length) z.length=_;lia
theorem Vi (z:Str)(m:Nat):(Lk z (some (m:Int)) none).length=z.length-m:=by
 show(ql _ (qm _ _)).toArray.size=_;rw[d9,HT.sIx_nat];show(ql (z.cps.size-min m z.cps.size) (qm (min m z.cps.size) z.cps.toList)).length=_;rw[eg,gh,fb];show min (z.length-min m z.length) (z.length-min m z.length)=_;lia
def eT:Str:="abcdefghijklmnopqrstuvwxyz"
theorem Mg (i:Int):atI eT.cps.toList (i%26)=some (97+(i%26).toNat)/\Nv (sgn (97+(i%26).toNat))=true:=by
 have h0:=k5 i (show(26:Int)≠0 by decide);have h1:=j7 i (show(0:Int)<26 by decide);have hl:eT.cps.toList=(di 26).map (97 + ·):=by decide +kernel
 refine⟨qL h0 ?_,?_⟩
 ·rw[hl,df,ff (by lia)]
  rfl
 ·show([97+(i%26).toNat].all O0)=true
  rw[uz,EN,EC];exact decide_eq_true (by lia)
theorem pU (cs:Za4)(h:∀c∈cs,O0 c=true):Nv (qx ("":Str) (cs.map sgn))=true/\(qx ("":Str) (cs.map sgn)).length=cs.length:=by
 have e:(qx ("":Str) (cs.map sgn)).cps.toList=cs:=by
  rw[Ks,gu]
  induction cs with
  |nil=>rfl
  |cons c r ih=>
   rw[fm,ip,ih λc hc=>h c (ge _ hc)];rfl
 refine⟨by unfold Nv;rw[e,ja];exact h,?_⟩;show Array.size _=_;rw[<-fb,e]
inductive fY(vs:List V)(H:Hp)(Q:VK)(E:XK):Prop|mk(a:de)(gs:List Int)(sd:Int)(_:vs=[.ref a,.int sd])(_:H a=some (.lst (gs.map V.int)))(_:gs.length<=1000)(_:∀p (nm:Za6) H',Ah H H'->H p=none->H' p=some (.lst (sV nm))->nm.length=gs.length->(∀z∈nm,Mp z=true)->Q (.ref p) H')
include T in
theorem T7 (F:Fun K "_law_names" "_law_names" Dz f fd):Ax P w K mg base CX0 1 f fd ["_law_digits_here","_law_seed"] fY:=by
 exists F.ok Co
 obtain⟨a,gs,sd,rfl,ha,hn,q⟩:=h;refine⟨_,(Ab (Vv (i:=2) Co.nd rfl (zr rfl) Bo) (Ab (Vv (i:=3) Co.nd rfl (zr rfl) (Bl Aa)) (Ab (tst 5 Co.nd (Bw jd lx lw K2 Bo (tpa (F3 rfl P8 (De rfl T.bO (tpa (An Cz (pv 1) Af) Aa)) (λ_ _ _ _=>Bv) (λ_ _ _ _=>(tix mK (pv 1) (An Cz (An B6 (An Ew (pv 2) Af) (An Eo (An Eo Af (pv 0)) (pv 0))) Af)))) Aa))) (Ab (tst 6 Co.nd (An Cz (An Ew (pv 1) Af) (An B6 (Am Bt (by rfl) T.bN B2 (tpa (pv 5) Aa)) Af))) (Ab (Cl gg rfl (De rfl T.bO (tpa Af Aa)) (tgn 4 Co.nd) (Ae (At (Bw ee fe fc Aw (pv 3) (tpa (An K0 (An K0 (Cg Mz (pv 5) Hh (Bz (pv 6))) (tix mK (pv 2) (An Cz (An B6 (An Ew (pv 1) Af) (An Eo Af (pv 4))) Af))) (Cg Mz (pv 5) (Bz (pv 6)) Hh)) Aa))))) (Ab (vV (ttc Ig (An Cz (pv 1) Af) Af) (Ae (Vv (i:=3) Co.nd rfl (zr rfl) (jS rfl O4 (L9 rfl T.cf (tpa (pv 3) Aa)) (λ_ _ _ _=>Bv) (λ_ _ _ _=>(Cg Mz (pv 1) Hh (Bz (An B6 Af (An Cz (pv 0) Af))))))))
  A7) (Ae (Ap (F3 rfl Pd (C2 (pv 0)) (λ_ _ _ _=>Bv) (λ_ _ _ _=>(tix (Gx K) (pv 2) (An Cz (pv 0) (tix (Gx K) (Bl (tpa Af (tpa Af (tpa Af (tpa Af Aa))))) (An Cz (An Ew (pv 1) Af) Af)))))))))))))),?_⟩
 apply⟨fq _,λp hp=>?_⟩;obtain⟨u1,hp1⟩:=Ay (o:=.lst []) hp;generalize upd H p _=H1 at *;apply⟨rfl,?_⟩;k_is;have e0:=k5 sd (show(8:Int)≠0 by decide);have e1:=j7 sd (show(0:Int)<8 by decide);obtain⟨m,hm⟩:∃m:Nat,sd%8=(m:Int):=⟨(sd%8).toNat,by lia⟩;rw[hm];refine⟨_,rfl,by lia,by lia,?_⟩;rw[fz];refine Lp (λi=>((di i).map λk:Nat=>97+((sd/7+5*(k:Int)*(k:Int))%26).toNat).map λc=>V.str (sgn c)) rfl (λi hi=>?_) (λi H2 R A hi s2 kR kA=>?_) (λD H2 hD s2 hD2=>?_)
 ·rw[c5,c5,dn]
  exact Ag (by lia)
 ·rw[show(0+(i:Int))=(i:Int) by lia]
  apply Pl (by lia) (by lia) ?_;k_is;obtain⟨hl1,hl2⟩:=Mg (sd/7+5*(i:Int)*(i:Int));refine⟨_,_,_,rfl,rfl,by decide,hl1,?_⟩;refine kA _ _ ?_ (Ah.refl _);rw[ik,dj,dj];rfl
 have hcs:∀c∈(di m).map λk:Nat=>97+((sd/7+5*(k:Int)*(k:Int))%26).toNat,O0 c=true:=λc hc=>by
  obtain⟨k,_,rfl⟩:=iz.mp hc;have:=(Mg (sd/7+5*(k:Int)*(k:Int))).2;have h3:([97+((sd/7+5*(k:Int)*(k:Int))%26).toNat].all O0)=true:=this;rw[uz,EN,EC] at h3;exact h3
 have hcl:((di m).map λk:Nat=>97+((sd/7+5*(k:Int)*(k:Int))%26).toNat).length=m:=by rw[c5,dn]
 generalize ((di m).map λk:Nat=>97+((sd/7+5*(k:Int)*(k:Int))%26).toNat)=cs at *;obtain⟨j1,j2⟩:=pU cs hcs;have hp2:=s2 _ _ hp1;have s12:=u1.trans s2;apply⟨_,D,cs.map sgn,rfl,rfl,by rw[gu];exact SqL.of hD2,?_,?_⟩
 ·rw[gu]
  have:∀l:Za4,(l.map λc=>(sgn c).length).sum=l.length:=λl=>by
   induction l with
   |nil=>rfl
   |cons c r ih=>rw[fm,uy,ih,f9];show 1+_=_;lia
  have h1:=this cs;have h2:(qt ((λx:Str=>x.length) ∘ sgn) cs).sum=cs.length:=h1;rw[h2,show("":Str).length=0 from rfl];lia
 rw[hcl] at j2;generalize qx ("":Str) (cs.map sgn)=bs at *;apply⟨bs,rfl,fw (Ag (by lia)),?_⟩;rw[j2];apply eR (by lia) ?_;k_is;have f0:=k5 (sd/8) (show(m:Int)+1≠0 by lia);have f1:=j7 (sd/8) (show 0<(m:Int)+1 by lia);obtain⟨at',hat⟩:∃n:Nat,sd/8%((m:Int)+1)=(n:Int):=⟨(sd/8%((m:Int)+1)).toNat,by lia⟩;rw[hat];refine⟨_,rfl,by decide,by decide,?_⟩;rw[show((9:Int)).toNat=9 from rfl];refine Gu (λk Y H3=>(∃v4:Option V,Y=[some (.ref a),some (.int sd),some (.str "abcdefghijklmnopqrstuvwxyz"),some (.ref p),v4,some (.str bs),some (.int at')])/\Ah H H3/\∃ws:Za6,ws.length=k/\(∀z∈ws,Mp z=true)/\H3 p=some (.lst (sV ws)))
  ⟨⟨_,rfl⟩,s12,[],rfl,(λz hz=>by cases hz),hp2⟩ ?_ ?_
 ·rintro k Y H3 hk ⟨⟨v4,rfl⟩,s3,ws,hwl,hwn,hp3⟩
  obtain⟨l1,l2⟩:=Mg (sd/64+3*(k:Int));rw[show(0+(k:Int))=(k:Int) by lia];apply⟨.inl ⟨rfl,_,SqL.of hp3⟩,?_⟩;apply Yn (fw (Ag (by lia))) ?_;apply⟨_,_,_,rfl,rfl,by decide,l1,?_⟩;have c1:=Oy bs at';have c2:=Vi bs at';have w1:=Pg j1 none (some (at':Int));have w2:=Pg j1 (some (at':Int)) none;generalize Lk bs none (some (at':Int))=x1 at *;have hg:(⟨#[97+((sd/64+3*(k:Int))%26).toNat]⟩:Str).length=1:=rfl;have l2:Nv (⟨#[97+((sd/64+3*(k:Int))%26).toNat]⟩:Str)=true:=l2;generalize (⟨#[97+((sd/64+3*(k:Int))%26).toNat]⟩:Str)=x2 at *;refine⟨_,_,rfl,rfl,fw (Ag (by lia)),?_⟩;apply Yn (fw (Ag (by lia))) ?_;generalize Lk bs (some (at':Int)) none=x3 at *;have hs12:=eA x1 x2;have hs3:=eA (x1++x2) x3;refine⟨_,_,rfl,rfl,fw (Ag (by lia)),?_⟩;apply A6 hp3 (by rw[C7];exact Ag (by lia)) ?_;apply⟨⟨_,rfl⟩,As s3 hp,ws++[x1++x2++x3],by rw[c8,hwl];rfl,λz hz=>?_,by rw[Ac,Oa]⟩;rcases f8.mp hz with hz|hz
  ·exact hwn z hz
  ·rw[fg.mp hz]
   exact eY (by lia) (by lia) (Yq (Yq w1 l2) w2)
 rintro Y H3 ⟨⟨v4,rfl⟩,s3,ws,hwl,hwn,hp3⟩;apply yE (λY H4=>∃(p2:de) (ws:Za6),Y=[some (.ref a),some (.int sd),some (.str "abcdefghijklmnopqrstuvwxyz"),some (.ref p2),v4,some (.str bs),some (.int at')]/\Ah H H4/\ws.length=9/\(∀z∈ws,Mp z=true)/\H4 p2=some (.lst (sV ws))) ?_ ?_
 ·apply Ct (λ_=>?_) (λ_=>?_)
  ·apply⟨p,rfl,⟨_,SqL.of hp3⟩,?_⟩;refine mV (SqL.of hp3) (λD i zs H=>∃us:Za6,zs=sV us/\us.length=i/\∀z∈us,Mp z=true) (λD H _ _=>⟨[],rfl,rfl,λz hz=>by cases hz⟩) (λD i zs H us o _ h=>h) (λD i zs H hi ⟨us,e,el,_⟩=>?_) (λD i zs H H' _ h=>h) (λD i zs x H4 A R hx s4 _ _ ⟨us,e,el,hu⟩ _ hA=>?_) (λD zs H4 hD s4 ⟨us,e,el,hu⟩ h4=>?_)
   ·rw[C7] at hi
    rw[e,C7];exact Ag (by lia)
   ·obtain⟨z,hz,rfl⟩:=Ro hx
    have hzn:=hwn z (e6 hz);have hzl:=Rm hzn;apply Yn (fw (Ag (by lia))) ?_;obtain⟨mm,hmm⟩:∃mm:Nat,1+(i:Int)%8=(mm:Int):=⟨(1+(i:Int)%8).toNat,by lia⟩;rw[hmm];have c1:=Oy z mm;refine hA _ _ (Ah.refl _) ⟨us++[Lk z none (some (mm:Int))],by rw[e,Oa],by rw[c8,el];rfl,λy hy=>?_⟩;rcases f8.mp hy with hy|hy
    ·exact hu y hy
    ·rw[fg.mp hy]
     exact eY (by lia) (by lia) (Pg (nN hzn) _ _)
   ·k_is
    rw[C7] at el;exact⟨D,us,rfl,s3.trans s4,by lia,hu,by rw[h4,e]⟩
  ·k_is
   exact⟨p,ws,rfl,s3,hwl,hwn,hp3⟩
 rintro Y H4 ⟨p2,ws,rfl,s4,hwl,hwn,hp4⟩;apply⟨a,rfl,⟨_,SqL.of (s4 _ _ ha)⟩,?_⟩;refine O8 (SqL.of (s4 _ _ ha)) (λi zs H=>∃us:Za6,zs=sV us/\us.length=i/\∀z∈us,Mp z=true) (λH _=>⟨[],rfl,rfl,λz hz=>by cases hz⟩) (λi zs H D us o _ h=>h) (λi zs H hi ⟨us,e,el,_⟩=>?_) (λi zs x H5 A R hx s5 ⟨us,e,el,hu⟩ hA=>?_) (λD zs H5 hD s5 ⟨us,e,el,hu⟩ h5=>?_)
 ·rw[c5] at hi
  rw[e,C7];exact Ag (by lia)
 ·obtain⟨g,hg,rfl⟩:=Ru hx
  have hp5:=s5 _ _ hp4;apply⟨few (by simp),λl hl=>?_⟩;obtain⟨u6,hl6⟩:=Ay (o:=.lst [V.int 9,V.int 3,V.int 2,V.int 1]) hl;have hp6:=u6 _ _ hp5;generalize upd H5 l _=H6 at *;have g0:=k5 (sd/3) (show(4:Int)≠0 by decide);have g1:=j7 (sd/3) (show(0:Int)<4 by decide);obtain⟨j,hj⟩:∃j:Nat,sd/3%4=(j:Int):=⟨(sd/3%4).toNat,by lia⟩;obtain⟨n,hn1,hn2,hn3⟩:∃n:Int,[V.int 9,V.int 3,V.int 2,V.int 1][j]?=some (.int n)/\1<=n/\n<=9:=by
   have:j=0\/j=1\/j=2\/j=3:=by lia
   rcases this with rfl|rfl|rfl|rfl
   ·exact⟨9,rfl,by decide,by decide⟩
   ·exact⟨3,rfl,by decide,by decide⟩
   ·exact⟨2,rfl,by decide,by decide⟩
   ·exact⟨1,rfl,by decide,by decide⟩
  k_is;rw[hj];refine Cd (SqL.of hl6) (v:=.int n) (Bj hn1) ?_;refine eR (by lia) ?_;have k0:=k5 g (show n≠0 by lia);have k1:=j7 g (show 0<n by lia);obtain⟨i',hi'⟩:∃i':Nat,g%n=(i':Int):=⟨(g%n).toNat,by lia⟩;rw[hi'];obtain⟨z,hz⟩:∃z,ws[i']?=some z:=⟨_,c6 (by lia)⟩;refine Cd (SqL.of hp6) (v:=.str z) (Bj (by rw[df,hz];rfl)) ?_;refine hA _ _ u6 ⟨us++[z],by rw[e,Oa],by rw[c8,el];rfl,λy hy=>?_⟩;rcases f8.mp hy with hy|hy
  ·exact hu y hy
  ·rw[fg.mp hy]
   exact hwn z (e6 hz)
 ·rw[c5] at el
  exact q D us H5 (s4.trans s5) (s4.free hD) (by rw[h5,e]) el hu
theorem F5.put {rows:List (Str×Nat×Nat)}{p:de}{o:HO}(h:F5 H as rows)(hp:H p=some (.lst xs)):F5 (upd H p o) as rows:=⟨h.1,λi a r e1 e2=>by
 rw[Ai (En (h.2 i a r e1 e2) hp (by intro z;cases z))];exact h.2 i a r e1 e2⟩
theorem F5.init {rows:List (Str×Nat×Nat)}{a:de}{r:Str×Nat×Nat}(h:F5 H (as++[a]) (rows++[r])):F5 H as rows/\H a=some (.tup [.str r.1,.int r.2.1,.int r.2.2]):=by
 have hl:as.length=rows.length:=by have:=h.1;rw[c8,c8] at this;exact Nat.add_right_cancel this
 refine⟨⟨hl,λi c q e1 e2=>h.2 i c q ?_ ?_⟩,h.2 as.length a r ?_ ?_⟩
 ·rw[eh (B0 e1)];exact e1
 ·rw[eh (B0 e2)];exact e2
 ·rw[dq (c9 _),jx];rfl
 ·rw[dq (by lia),hl,jx];rfl
inductive mY(vs:List V)(H:Hp)(Q:VK)(E:XK):Prop|mk(a b:de)(nm:Za6)(_:vs=[.ref a,.ref b])(_:H a=some (.lst (nV (Fx nm))))(_:H b=some (.lst (sV nm)))(_:nm.length<=4000)(_:∀p as H',Ah H H'->H p=none->H' p=some (.lst (as.map V.ref))->F5 H' as (Dc (El nm) nm.length)->Q (.ref p) H')
include T in
theorem Mr (F:Fun K "_law_stretches" "_law_stretches" Fb f fd):Ax P w K mg base CX0 1 f fd ["_law_order","_law_names_here"] mY:=by
 exists F.ok Df
 obtain⟨a,b,nm,rfl,ha,hb,hn,q⟩:=h;refine⟨_,(Ab (tst 2 Df.nd (Bl Aa)) (Ab (Cl gg rfl (De rfl T.bO (tpa (Am Aq (by rfl) T.bN B2 (tpa (pv 0) Aa)) Aa)) (tgn 3 Df.nd) (Ab (tst 4 Df.nd (tix Bu (pv 1) (tix Bu (pv 0) (pv 3)))) (Ae (B1 (PW.pt (cS (ttc (wX (cP hr)) (pv 2) (Bl Aa)) (U0 (ttc Ig (tix Du (tix Bu (pv 2) (Di Cb Af)) Af) (pv 4))))) (Ae (cX (Ji (tpa (pv 4) (tpa (tix Du (tix Bu (pv 2) (Di Cb Af)) Af) (tpa (An B6 (pv 3) Af) Aa)))) (cQ (pv 2) (Di Cb Af) Ph))) (Ae (At (Bw ee fe fc Aw (pv 2) (tpa (Ji (tpa (pv 4) (tpa (pv 3) (tpa (An B6 (pv 3) Af) Aa)))) Aa)))))))) (Ae (Ap (pv 2))))),?_⟩
 apply⟨fq _,λp hp=>?_⟩;obtain⟨u1,hp1⟩:=Ay (o:=.lst []) hp;generalize upd H p _=H1 at *;apply⟨a,_,rfl,.inl (SqL.of (u1 _ _ ha)),?_⟩;rw[Ft,E4];apply⟨_,rfl,by lia,by lia,?_⟩;rw[fz];refine Gu (λk Y H2=>(∃v3 v4:Option V,Y=[some (.ref a),some (.ref b),some (.ref p),v3,v4])/\Ah H H2/\∃as:List de,H2 p=some (.lst (as.map V.ref))/\F5 H2 as (Dc (El nm) k)) ⟨⟨_,_,rfl⟩,u1,[],hp1,rfl,λi a r e=>by cases e⟩ ?_ ?_
 ·rintro k Y H2 hk ⟨⟨v3,v4,rfl⟩,s2,as,hp2,hR⟩
  have hol:=E4 nm;obtain⟨v,hv⟩:∃v,(Fx nm)[k]?=some v:=⟨_,c6 (by lia)⟩;obtain⟨x,hx,hS⟩:=fJ hv;rw[show(0+(k:Int))=(k:Int) by lia];apply Cd (SqL.of (s2 _ _ ha)) (v:=.int v) (Bj (Pu hv)) ?_;refine Cd (SqL.of (s2 _ _ hb)) (v:=.str x) (Bj (by rw[df,hx];rfl)) ?_;apply⟨fq _,λe he=>?_⟩;obtain⟨u3,he3⟩:=Ay (o:=.lst []) he;have hp3:=u3 _ _ hp2;have hR3:=hR.kp (Ah.kp u3);have s3:=s2.trans u3;generalize upd H2 e _=H3 at *;refine yX (SqL.of hp3) (SqL.of he3) ?_;k_is;have hal:as.length<=k:=by rw[hR3.1];exact Pa _ _
  have hcs:(∃R as' t,∃b':Nat,Dc (El nm) (k+1)=R++[(x,b',k+1)]/\as=as'++[t]/\F5 H3 as' R/\H3 t=some (.tup [.str x,.int b',.int k]))\/(Dc (El nm) (k+1)=Dc (El nm) k++[(x,k,k+1)]/\(as≠[]->∃as' t y b',as=as'++[t]/\y≠x/\H3 t=some (.tup [.str y,.int (b':Nat),.int k]))):=by
   rcases iO hS with⟨e0,hk0,e1⟩|⟨R,y,b',hk0,e0,e1,e2⟩
   ·exact .inr ⟨by rw[e1,e0];rfl,λh=>absurd (n4.mp (by rw[hR3.1,e0];rfl)) h⟩
   ·have hne:as≠[]:=λz=>by have:=hR3.1;rw[z,e0] at this;simp at this
    obtain⟨as',t,rfl⟩:∃as' t,as=as'++[t]:=⟨_,_,(xj hne).symm⟩;rw[e0] at hR3;obtain⟨h1,h2⟩:=hR3.init
    by_cases hyx:y=x
    ·subst hyx
     exact .inl ⟨R,as',t,b',e1 rfl,rfl,h1,h2⟩
    ·exact .inr ⟨by rw[e2 hyx,e0,du];rfl,λ_=>⟨as',t,y,b',rfl,hyx,h2⟩⟩
  rcases hcs with⟨R,as',t,b',e1,rfl,h1,h2⟩|⟨e1,hcs⟩
  ·have hlast:((as'++[t]).map V.ref)[((as'++[t]).map V.ref).length-1]?=some (.ref t):=by
    rw[dj,c8,dq (by simp)];simp
   refine J5 (λ_=>?_) (λh=>by rw[dj] at h;simp at h);apply Cd (SqL.of hp3) (v:=.ref t) (Hr hlast) ?_;apply Fg (SqT.of h2) (v:=.str x) rfl ?_;apply Ct (λ_=>?_) (λh=>absurd rfl h);apply Cd (SqL.of hp3) (v:=.ref t) (Hr hlast) ?_;apply Fg (SqT.of h2) (v:=.int b') rfl ?_;apply⟨few (by simp),λt2 ht2=>?_⟩;obtain⟨u4,ht4⟩:=Ay (o:=.tup [.str x,.int b',.int ((k:Int)+1)]) ht2;have hp4:=u4 _ _ hp3;have s4:=s3.trans u4;have h14:=h1.kp (Ah.kp u4);generalize upd H3 t2 _=H4 at *;rw[dj] at hp4;apply gT hp4 ?_;apply⟨⟨_,_,rfl⟩,As s4 hp,as'++[t2],by rw[Ac,dj];rfl,?_⟩;rw[e1];exact(h14.put hp4).snoc (r:=(x,b',k+1)) ((Ai (En ht4 hp4 (by intro z;cases z))).trans ht4)
  ·refine' P5 (c:=as=[]) (S:=?S) ?b ?a ?r
   case b=>
    intro kp has;refine J5 (λh=>absurd (by rw[has];rfl) h) (λ_=>?_);exact kp.q
   case a=>
    intro kp has;obtain⟨as',t,y,b',rfl,hyx,h2⟩:=hcs has;have hlast:((as'++[t]).map V.ref)[((as'++[t]).map V.ref).length-1]?=some (.ref t):=by
     rw[dj,c8,dq (by simp)];simp
    refine J5 (λ_=>?_) (λh=>by rw[dj] at h;simp at h);apply Cd (SqL.of hp3) (v:=.ref t) (Hr hlast) ?_;apply Fg (SqT.of h2) (v:=.str y) rfl ?_;apply Ct (λh=>absurd (V.str.inj h) hyx) (λ_=>?_);exact kp.q
   apply⟨.inl ⟨rfl,_,SqL.of hp3⟩,?_⟩;apply⟨few (by simp),λt ht=>?_⟩;obtain⟨u4,ht4⟩:=Ay (o:=.tup [.str x,.int k,.int ((k:Int)+1)]) ht;have hp4:=u4 _ _ hp3;have s4:=s3.trans u4;have h14:=hR3.kp (Ah.kp u4);generalize upd H3 t _=H4 at *;apply A6 hp4 (by rw[c5];exact Ag (by lia)) ?_;apply⟨⟨_,_,rfl⟩,As s4 hp,as++[t],by rw[Ac,dj];rfl,?_⟩;rw[e1];exact(h14.put hp4).snoc (r:=(x,k,k+1)) ((Ai (En ht4 hp4 (by intro z;cases z))).trans ht4)
 ·rintro Y H2 ⟨⟨v3,v4,rfl⟩,s2,as,hp2,hR⟩
  k_is;exact q p as H2 s2 hp hp2 hR
theorem Jz (l:Za6):(sV l).all Em=true:=by
 rw[ja];intro x hx;obtain⟨z,_,rfl⟩:=iz.mp hx;rfl
theorem Wj (h:xs.all Em=true):eqL xs xs=true:=by
 unfold eqL;rw[decide_eq_true rfl,re,ja];intro j hj;have hj:=io.mp hj;refine X0 (ja.mp h _ ?_);rw[ft,c6 hj];exact mv hj
inductive oX (K:c7)(CB CC CP CO CS CN:de)(vs:List V)(H:Hp)(Q:VK)(E:XK):Prop|mk(x a:de)(nm:Za6)(ds:Za4)(_:vs=[.ref x,.ref a])(_:Eu K CB CC CP CO CS CN H x nm ds)(_:H a=some (.lst (sV nm)))(_:∀H',Ah H H'->Q (.bl true) H')
include T ag in
theorem Xw (F:Fun K "_law_good" "_law_good" Dt f fd)(bF:Mth P w K mg base af "order" 3 ["self"] (Yo K ac ab aa ae ad af))(aH:Cal P w K mg base "_law_whole" 1 ["_law_found"] K4)(bG:Mth P w K mg base af "stretches" 1 ["self"] (Zz K ac ab aa ae ad af))(bH:Cal P w K mg base "_law_stretches" 1 ["_law_order","_law_names_here"] mY)(bI:Mth P w K mg base af "name_of" 5 ["self","k"] (W9 K ac ab aa ae ad af)) :
  Ax P w K mg base CX0 6 f fd ["_law_told","_law_names_here"] (oX K ac ab aa ae ad af):=by
 exists F.ok E7
 obtain⟨x,a,nm,ds,rfl,hI,ha,q⟩:=h;obtain⟨hnl,h64,dx,wd,sx,b,l,sp,nk,as,hN⟩:=id hI;have hx:=hN.hx;clear hN;refine⟨_,(Ab (J2 (i:=2) rfl Sh E7.nd rfl rfl (C2 (Am U7 (by rfl) T.cq K5 (tpa (F3 rfl Sa (De rfl T.bO (tpa (Am Aq (by rfl) T.bN B2 (tpa (pv 1) Aa)) Aa)) (λ_ _ _ _=>Bv) (λ_ _ _ _=>(Ji (tpa (tix (Gx K) (pv 1) (pv 0)) (tpa (pv 0) Aa))))) Aa))) (λ_ _ _ _=>Bv) (λ_ _ _ _=>(pv 1))) (Ab (tst 3 E7.nd (Fo bF hr.m (pv 0))) (Ab (B1 (PW.pt (Fv (Cm (Ci (Am Bx (by rfl) T.bQ Bk (tpa (pv 3) (tpa (Eb (v:=.ty "list") rfl T.bW Kq rfl) Aa))))) (Fv (ttc (Ue (cP hr)) (pv 3) (pv 2)) (Ge (ttc (Ue (cP hr)) (F3 rfl R6 (C2 (pv 3)) (λ_ _ _ _=>U6 (Cm (Ci (Az aH hr.m (tpa (pv 0) Aa))))) (λ_ _ _ _=>(pv 0))) (Bl Aa)))))) (Ae (Ap Fw))
  A7) (Ab (tst 4 E7.nd (Fo bG hr.m (pv 0))) (Ab (B1 (PW.pt (Fv (Cm (Ci (Am Bx (by rfl) T.bQ Bk (tpa (pv 4) (tpa (Eb (v:=.ty "list") rfl T.bW Kq rfl) Aa))))) (Ge (ttc (wD (cP hr)) (pv 4) (Az bH hr.m (tpa (pv 2) (tpa (pv 1) Aa))))))) (Ae (Ap Fw))
  A7) (Ab (Cl gg rfl (C2 (pv 4)) (tgn 5 E7.nd) (Ae (B1 (PW.pt (Fv (Cm (Ci (Am Bx (by rfl) T.bQ Bk (tpa (pv 5) (tpa (Eb (v:=.ty "tuple") rfl T.bX J3 rfl) Aa))))) (Fv (Cm (Ci (Az aH hr.m (tpa (tix Du (pv 5) Af) Aa)))) (Ge (Cm (Ci (Az aH hr.m (tpa (tix Du (pv 5) Af) Aa)))))))) (Ae (Ap Fw))
  A7))) (Ab (At (Bw ee fe fc Aw (pv 3) (tpa Af Aa))) (Ab (At (Bw ee fe fc Aw (pv 4) (tpa Uq Aa))) (Ae (Ap (tpc (wZ (cP hr)) (F3 rfl Sf (De rfl T.bO (tpa (Am Aq (by rfl) T.bN B2 (tpa (pv 1) Aa)) Aa)) (λ_ _ _ _=>Bv) (λ_ _ _ _=>(Ie bI hr.m (pv 1) (tpa (pv 0) Aa)))) (pv 1)))))))))))),?_⟩
 apply⟨a,_,rfl,.inl (SqL.of ha),?_⟩;rw[C7];apply⟨_,rfl,by lia,by lia,?_⟩;rw[fz];refine Z2 (J:=Itr 0 nm.length) nm.length (λi=>.int (0+i)) (λi ys H=>∃ps:List (de×(Str×Int)),ys=(ps.map (·.1)).map V.ref/\jX H ps/\ps.map (·.2)=(nm.zip (C0 nm.length)).take i) (λH _=>⟨[],rfl,(λp hp=>by cases hp),rfl⟩) (λi ys H D xs o hD ⟨ps,e,h1,h2⟩=>⟨ps,e,λp hp=>?_,h2⟩) (λi ys H hi ⟨ps,e,h1,h2⟩=>?_)
  (λi H hi _=>hi) (λi H x H' _ _ h=>⟨h.2,h.1⟩) (λH _=>c9 _) (λi ys H1 A R hi s1 ⟨ps,e,h1,h2⟩ hA=>?_) (λD ys H1 hD s1 ⟨ps,e,h1,h2⟩ hD1=>?_)
 ·rw[Ai (En (h1 p hp) hD (by intro z;cases z))]
  exact h1 p hp
 ·have:=congrArg ue h2
  rw[c5,eg] at this;rw[e,c5,c5];exact Ag (by lia)
 ·obtain⟨z,hz⟩:∃z,nm[i]?=some z:=⟨_,c6 hi⟩
  rw[show(0+(i:Int))=(i:Int) by lia];apply Cd (SqL.of (s1 _ _ ha)) (v:=.str z) (Bj (by rw[df,hz];rfl)) ?_;apply⟨few (by simp),λt ht=>?_⟩;have u2:=Al (o:=.tup [.str z,.int i]) ht;refine hA _ _ u2 ⟨ps++[(t,(z,(i:Int)))],by rw[e,dj,dj];rfl,λp hp=>?_,?_⟩
  ·rcases f8.mp hp with hp|hp
   ·exact u2 _ _ (h1 p hp)
   ·rw[fg.mp hp]
    exact Ac
  ·rw[dj,h2,gn,(i6 (z:=(z,(i:Int)))).mpr ⟨hz,by unfold C0;rw[df,ff hi];rfl⟩]
   rfl
 have hzl:(nm.zip (C0 nm.length)).length=nm.length:=by rw[l6];unfold C0;rw[c5,dn,oy]
 rw[ej (by lia)] at h2;have hpl:ps.length=nm.length:=by have:=congrArg ue h2;rw[c5,hzl] at this;exact this
 subst e;apply⟨D,ps,rfl,SqL.of hD1,by lia,h1,λr hr1=>?_⟩;obtain⟨u2,hr2⟩:=Ay (o:=.lst (((Ao Ml ps).map (·.1)).map V.ref)) hr1;have s2:=s1.trans u2;have h12:jX _ ps:=λp hp=>u2 _ _ (h1 p hp);generalize upd H1 r _=H2 at *;have hex:((Ao Ml ps).map λp=>p.2.2)=(Fx nm).map λn:Nat=>(n:Int):=pI (λp=>p.2) ps h2;have hpm:∀p∈Ao Ml ps,H2 p.1=some (.tup [.str p.2.1,.int p.2.2]):=λp hp=>h12 p ((B4 Ml ps).mem_iff.mp hp);have hsl:(Ao Ml ps).length=nm.length:=by rw[Dw];exact hpl
 generalize Ao Ml ps=qs at *;apply⟨r,rfl,⟨_,SqL.of hr2⟩,?_⟩;have qget:∀{i:Nat} {p:de×(Str×Int)},qs[i]?=some p->H2 p.1=some (.tup [.str p.2.1,.int p.2.2]):=λh=>hpm _ (e6 h);refine gX (as:=qs.map (·.1)) (xs:=qs.map λp=>V.str p.2.1) (ys:=qs.map λp=>V.int p.2.2) (by rw[c5,c5]) (by rw[c5,c5]) (SqL.of hr2) (λi t y z e1 e2 e3=>?_)
  (λD i zs H=>zs=(qs.take i).map λp=>V.int p.2.2) (λD H _ _=>rfl) (λD i zs H us o _ h=>h) (λD i zs H hi h=>?_) (λD i zs H H' _ h=>h) (λD i zs y z H3 A R e1 e2 s3 _ _ hP _ hA=>?_) (λo zs H3 ho s3 hP ho3=>?_)
 ·rw[df] at e1 e2 e3
  obtain⟨p,hp,rfl⟩:=gt.mp e1;rw[hp] at e2 e3;cases e2;cases e3;exact qget hp
 ·rw[c5] at hi
  rw[h,c5,eg];exact Ag (by lia)
 ·rw[df] at e1 e2
  obtain⟨p,hp,rfl⟩:=gt.mp e2;apply hA _ _ (Ah.refl _) ?_;rw[hP,gn,hp,dj];rfl
 have ho3:H3 o=some (.lst (nV (Fx nm))):=by
  rw[ho3,hP,ej (by rw[c5];exact c9 _),Ly,<-hex,gu];rfl
 have s3:=s2.trans s3;have ha3:=s3 _ _ ha;apply⟨x,dx,_,rfl,s3 _ _ hx,rfl,?_⟩;apply⟨x,nm,ds,rfl,hI.kp (Ah.kp s3),λg H4 s4 hg3 hg4=>?_⟩;have s4':=s3.trans s4;have ho4:=s4 _ _ ho3;apply⟨_,_,_,_,rfl,.lst hg4,Gg,?_⟩;k_is;rw[Ly] at hg4 ho4;refine nX (SqL.of hg4) (SqL.of ho4) ?_;apply J5 (λh=>absurd rfl h) (λ_=>?_);apply⟨g,rfl,⟨_,SqL.of hg4⟩,?_⟩;refine Og (SqL.of hg4) (λ_=>[]) rfl (λi hi=>Ag (by simp)) (λi y H5 R A hy s5 kR kA=>?_) (λD5 H5 hD5 s5 h5=>?_)
 ·obtain⟨n,hn,rfl⟩:=Ru hy
  apply⟨n,rfl,?_⟩;k_is;exact kR rfl _ (Ah.refl _)
 apply⟨fq _,λe he=>?_⟩;obtain⟨u6,he6⟩:=Ay (o:=.lst []) he;have h56:=u6 _ _ h5;have s6:=s5.trans u6;generalize upd H5 e _=H6 at *;refine nX (ns:=[]) (ms:=[]) (SqL.of h56) (SqL.of he6) ?_;apply J5 (λh=>absurd rfl h) (λ_=>?_);have s6':=s4'.trans s6;have hg6:=s6 _ _ hg4;have ho6:=s6 _ _ ho4;apply⟨x,dx,_,rfl,s6' _ _ hx,rfl,?_⟩;apply⟨x,nm,ds,rfl,hI.kp (Ah.kp s6'),λrr cs H7 s7 hrr6 hrr7 hR7=>?_⟩;have s7':=s6'.trans s7;apply⟨_,_,_,_,rfl,.lst hrr7,Gg,?_⟩;apply⟨o,a,nm,rfl,by rw[Ly];exact s7 _ _ ho6,s7' _ _ ha,by lia,λr8 es H8 s8 _ hr8 hR8=>?_⟩;have hrr8:=s8 _ _ hrr7;have hR78:=hR7.kp (Ah.kp s8);refine⟨rr,r8,rfl,rfl,.lst (n:=59) (SqL.of hrr8) (SqL.of hr8) (by rw[c5,c5,hR78.1,hR8.1]) λj y z e1 e2=>?_,?_⟩
 ·rw[df] at e1 e2
  obtain⟨c,hc,rfl⟩:=gt.mp e1;obtain⟨d,hd,rfl⟩:=gt.mp e2;obtain⟨row,hrow⟩:∃row,(Dc (El nm) nm.length)[j]?=some row:=⟨_,c6 (by rw[<-hR8.1];exact B0 hd)⟩;refine .tup (n:=58) (SqT.of (hR78.2 j c row hc hrow)) (SqT.of (hR8.2 j d row hd hrow)) rfl λi u v e3 e4=>?_;obtain rfl:u=v:=dh (e3.symm.trans e4);refine .flat ?_;have:=B0 e3;have h3:i=0\/i=1\/i=2:=by simp at this;lia
  rcases h3 with rfl|rfl|rfl<;>cases e3<;>rfl
 k_is;have s8':=s7'.trans s8;refine⟨rr,rfl,⟨_,SqL.of hrr8⟩,?_⟩;refine G7 (xs:=cs.map V.ref) (λk Y H9=>(∃v5:Option V,Y=[some (.ref x),some (.ref a),some (.ref o),some (.ref g),some (.ref rr),v5])/\Ah H8 H9) ⟨⟨_,rfl⟩,Ah.refl _⟩ (λk Y H9 _ h=>SqL.of (h.2 _ _ hrr8)) ?_ ?_
 ·rintro k y Y H9 hy ⟨⟨v5,rfl⟩,s9⟩
  rw[df] at hy;obtain⟨c,hc,rfl⟩:=gt.mp hy;obtain⟨row,hrow⟩:∃row,(Dc (El nm) nm.length)[k]?=some row:=⟨_,c6 (by rw[<-hR78.1];exact B0 hc)⟩;have hc9:=s9 _ _ (hR78.2 k c row hc hrow);apply⟨_,_,_,_,rfl,.tup hc9,N1,?_⟩;apply Fg (SqT.of hc9) (v:=.int row.2.1) rfl ?_;apply⟨_,rfl,?_⟩;apply Fg (SqT.of hc9) (v:=.int row.2.2) rfl ?_;apply⟨_,rfl,?_⟩;k_is;exact⟨⟨_,rfl⟩,s9⟩
 rintro Y H9 ⟨⟨v5,rfl⟩,s9⟩;have s9':=s8'.trans s9;have hrr9:=s9 _ _ hrr8;have hg9:=s9 _ _ (s8 _ _ (s7 _ _ hg6));have hgH:=s3.free hg3;have hrrH:=s6'.free hrr6;have ngr:g≠rr:=Aj hg6 hrr6;apply⟨.inl ⟨rfl,_,SqL.of hg9⟩,?_⟩;apply A6 hg9 (by rw[c5,c5,E4];exact Ag (by lia)) ?_;have s10:=As (o:=.lst (((Fx nm).map λn:Nat=>(n:Int)).map V.int++[V.int 0])) s9' hgH;have hrr10:upd H9 g (.lst (((Fx nm).map λn:Nat=>(n:Int)).map V.int++[V.int 0])) rr=_:=(Ai ngr.symm).trans hrr9;generalize upd H9 g _=H10 at *;apply⟨.inl ⟨rfl,_,SqL.of hrr10⟩,?_⟩;apply A6 hrr10 (by rw[c5,hR78.1];exact Ag (by have:=Pa (El nm) nm.length;lia)) ?_;have s11:=As (o:=.lst (cs.map V.ref++[V.non])) s10 hrrH;generalize upd H10 rr _=H11 at *;apply⟨a,_,rfl,.inl (SqL.of (s11 _ _ ha)),?_⟩;rw[C7];apply⟨_,rfl,by lia,by lia,?_⟩;rw[fz];refine Lp (λi=>sV (nm.take i)) rfl (λi hi=>?_) (λi H12 R A hi s12 kR kA=>?_) (λD12 H12 hD12 s12 h12=>?_)
 ·rw[C7,eg]
  exact Ag (by lia)
 ·obtain⟨z,hz⟩:∃z,nm[i]?=some z:=⟨_,c6 hi⟩
  have s12':=s11.trans s12;rw[show(0+(i:Int))=(i:Int) by lia];apply⟨x,dx,_,rfl,s12' _ _ hx,rfl,?_⟩;apply⟨x,nm,ds,i,z,rfl,hI.kp (Ah.kp s12'),hz,λH13 s13=>?_⟩;refine kA _ _ ?_ s13;rw[gn,hz];exact(Oa _ _).symm
 have s12':=s11.trans s12;rw[ej (c9 _)] at h12;apply⟨D12,a,_,_,rfl,rfl,SqL.of h12,SqL.of (s12' _ _ ha),Jz nm,Jz nm,?_⟩;rw[Wj (Jz nm)];exact q H12 s12'
theorem vG {t:TA}{x1}(h:PAi X es t):PEi X (.Tuple es x1 pos) (xD t):=⟨Ji h.h⟩
structure PIi (X:Cx) (tg iter:gv) (wi:TI):Prop where
 h:PI X tg iter wi
theorem qO {e:gv}(ha:PEi X e te):PIi X tg e (dC X.K te):=⟨pK ha⟩
theorem uC {body:List im}{g:TG}{tb:TS}(hp:FH (model X.prog X.w) X.A X.env X.xe)(hc:X.calm=true)(hi:PIi X tg iter wi)(hg:PG X tg g)(hb:lU X body tb)(hs:autoParam (∀x,foldedSetIterable iter X.env x=pure x) QJ):PSi X (.For tg iter body [] pos) (wE wi g tb):=⟨Cl hp hc hi.h hg hb.h hs⟩
include T ax ag ZO ar az in
theorem wN (F:Fun K "law" "law" Py f fd)(bJ:Cal P w K mg base "_law_wood" 1 ["_law_digits_here"] kT)(aI:Cal P w K mg base "_law_digits" 2 ["_law_script","_law_at","_law_many"] (Xa K))(bK:Cal P w K mg base "_law_names" 1 ["_law_digits_here","_law_seed"] fY)(bL:Mkr P w K mg base "Named" af 10 ["self","wood","names"] (T8 K ac ab aa ae ad af ts))(bM:Mkr P w K mg base "Opened" ae 9 ["self","elders"] (X5 K ac ab aa ae))(aJ:Cal P w K mg base "_law_good" 6 ["_law_told","_law_names_here"] (oX K ac ab aa ae ad af)):Ax P w K mg base CX0 12 f fd ["_law_script"] (dZ K ts):=by
 exists F.ok Ku
 obtain⟨a,ns,rfl,hS,hlen,hT,q⟩:=h;refine⟨_,(lU.h (Fi (si (tst 1 Ku.nd (An Cz (Az az hr.m (tpa (Az ar hr.m (tpa (pv 0) (tpa Af Aa))) (tpa Af Aa))) Af))) (Fi (si (tst 2 Ku.nd (Az bJ hr.m (tpa (Az aI hr.m (tpa (pv 0) (tpa Af (tpa (pv 1) Aa)))) Aa)))) (Fi (si (tst 3 Ku.nd (Az bK hr.m (tpa (Az aI hr.m (tpa (pv 0) (tpa Af (tpa (pv 1) Aa)))) (tpa (Az az hr.m (tpa (Az ar hr.m (tpa (pv 0) (tpa Af Aa))) (tpa Af Aa))) Aa))))) (Fi (si (tst 4 Ku.nd (Cv Hg (by rfl) T.bW Kq (tpa (pv 3) Aa)))) (Fi (si (tst 5 Ku.nd (Rj bL hr.m (tpa (Rj bM hr.m (tpa (pv 2) Aa)) (tpa (pv 4) Aa))))) (Fi (si (B1 (PW.pt (Fv (ttc (Ue (cP hr)) (pv 4) (pv 3)) (Ge (Cm (Ci (Az aJ hr.m (tpa (pv 5) (tpa (pv 3) Aa)))))))) (Ae (Ap Fw))
  A7)) (Fi (si (At (Bw ee PySem.F.slot_list_insert PySem.F.type_list_insert Yv (pv 4) (tpa Af (tpa Bo Aa))))) (Fi (si (B1 (ttc (Ue (cP hr)) (F3 rfl oS (C2 (pv 3)) (λ_ _ _ _=>U6 (ttc fS (Az ax hr.m (tpa (pv 0) Aa)) Fw)) (λ_ _ _ _=>(pv 0))) (Bl Aa)) (Ae (Ap Fw))
  A7)) (Fi (uC gg rfl (qO (oU (Nw Bo (Nw Bo (Nw Bo (Nw Bo (Nw Bo (Nw Bo (Nw Uq (Nw Af (Nw Fw (tM (oU (Nw Bo Zg rfl)) (tM (vG (Nw Bo Zg rfl)) (Nw Uy Zg rfl) rfl) rfl) rfl) rfl) rfl) rfl) rfl) rfl) rfl) rfl) rfl))) (tgn 6 Ku.nd) (oP (si (B1 (ttc fS (Az ax hr.m (tpa (pv 6) Aa)) Fw) (Ae (Ap Fw))
  A7)))) (oP (si (Ap (Az aJ hr.m (tpa (pv 5) (tpa (pv 3) Aa)))))))))))))))),?_⟩
 apply⟨a,ns,0,rfl,hS,λc0=>?_⟩;apply⟨c0,1,rfl,by decide,by decide,λr0 h0 h1=>?_⟩;k_is;obtain⟨m,hm,hm1⟩:∃m:Nat,r0%61=(m:Int)/\m<=60:=⟨(r0%61).toNat,by lia,by lia⟩;rw[hm];apply⟨a,ns,2,m,rfl,hS,by lia,by lia,λp1 gs1 H1 s1 _ hp1 hg1=>?_⟩;rw[fz] at hg1;apply⟨p1,gs1,rfl,hp1,by lia,λe ds H2 s2 _ he2 hD hdl=>?_⟩;have s12:=s1.trans s2;apply⟨a,ns,13,m,rfl,s12.seq hS,by lia,by lia,λp3 gs3 H3 s3 _ hp3 hg3=>?_⟩;rw[fz] at hg3;have s13:=s12.trans s3;apply⟨a,ns,1,rfl,s13.seq hS,λc1=>?_⟩;apply⟨c1,2,rfl,by decide,by decide,λsd _ _=>?_⟩;apply⟨p3,gs3,sd,rfl,hp3,by lia,λg nm H4 s4 _ hg4 hnl hnm=>?_⟩;have s14:=s13.trans s4;have he4:=s4 _ _ (s3 _ _ he2);apply⟨g,_,rfl,.inl (SqL.of hg4),λhd hhd=>?_⟩;obtain⟨u5,hd5⟩:=Ay (o:=.lst (sV nm)) hhd;have hg5:=u5 _ _ hg4;have he5:=u5 _ _ he4;have ngd:g≠hd:=Aj hg4 hhd;have s15:=s14.trans u5;generalize upd H4 hd _=H5 at *;k_is;intro w1 dw hw1 hdw1 hwd;refine⟨w1,dw,e,ds,rfl,Ac,Je hw1 hdw1 _ _ he5,hD,by lia,λH6 s6 hO6=>⟨rfl,?_⟩⟩;have s6:=G1 hw1 hdw1 s6;have hT6:=hT.same (s15.trans s6);k_is;intro x dx hx6 hdx hxd;have hs0:Ah H6 (upd (upd H6 dx (.own x)) x (.ins af dx [])):=λb u e=>Je hx6 hdx b u e;refine⟨x,dx,w1,hd,nm,ds,rfl,Ac,hO6.kp (Ah.kp hs0),hs0 _ _ (s6 _ _ hd5),hnm,by lia,by lia,hT6.same hs0,λH7 b7 hI7=>⟨rfl,?_⟩⟩;have k7:SmT ts H6 H7:=SmB.made hx6 hdx b7;have hd7:H7 hd=some (.lst (sV nm)):=k7.k (s6 _ _ hd5);have hg7:H7 g=some (.lst (sV nm)):=k7.k (s6 _ _ hg5);apply⟨hd,g,_,_,rfl,rfl,SqL.of hd7,SqL.of hg7,Jz nm,Jz nm,?_⟩;rw[Wj (Jz nm)];refine⟨false,rfl,?_⟩;apply⟨x,g,nm,ds,rfl,hI7.kp sG,hg7,λH8 s8=>?_⟩;have hd8:=s8 _ _ hd7;apply⟨.inl ⟨rfl,_,SqL.of hd8⟩,?_⟩;apply⟨hd,_,_,rfl,rfl,hd8,by rw[C7];exact Ag (by lia),?_⟩;have hI9:Eu K ac ab aa ae ad af (upd H8 hd (.lst (V.str "zz"::sV nm))) x nm ds:=hI7.kp λb u n e=>by
  obtain⟨ne,e⟩:=Uv e;rw[Ai ne];exact s8 _ _ e
 have hg9:upd H8 hd (.lst (V.str "zz"::sV nm)) g=some (.lst (sV nm)):=(Ai ngd).trans (s8 _ _ hg7);generalize upd H8 hd _=H9 at *;apply⟨g,rfl,⟨_,SqL.of hg9⟩,?_⟩;refine Og (SqL.of hg9) (λ_=>[]) rfl (λi hi=>Ag (by simp)) (λi y H10 R A hy s10 kR kA=>?_) (λD10 H10 hD10 s10 h10=>?_)
 ·obtain⟨z,hz,rfl⟩:=Ro hy
  have hzn:=hnm z (e6 hz);apply⟨_,rfl,Ri _,λy e=>?_,λH11 s11=>?_⟩
  ·obtain rfl:=V.str.inj e
   have:=Rm hzn;lia
  rw[show nmV (.str z)=true from hzn];refine⟨true,true,rfl,rfl,?_⟩;k_is;exact kR rfl _ s11
 apply⟨fq _,λe1 he1=>?_⟩;obtain⟨u11,he11⟩:=Ay (o:=.lst []) he1;have h11:=u11 _ _ h10;have s11:=s10.trans u11;generalize upd H10 e1 _=H11 at *;refine nX (ns:=[]) (ms:=[]) (SqL.of h11) (SqL.of he11) ?_;apply J5 (λh=>absurd rfl h) (λ_=>?_);apply⟨few (by simp),λl1 hl1=>?_⟩;obtain⟨u12,hl12⟩:=Ay (o:=.lst [V.str "a"]) hl1;have s12:=s11.trans u12;generalize upd H11 l1 _=H12 at *;apply⟨few (by simp),λt1 ht1=>?_⟩;obtain⟨u13,ht13⟩:=Ay (o:=.tup [V.str "a"]) ht1;have hl13:=u13 _ _ hl12;have s13:=s12.trans u13;generalize upd H12 t1 _=H13 at *;k_is;intro d1 hd1;obtain⟨u14,hd14⟩:=Ay (o:=.dK []) hd1;have hl14:=u14 _ _ hl13;have ht14:=u14 _ _ ht13;have s14:=s13.trans u14;generalize upd H13 d1 _=H14 at *;apply⟨few (by simp),λy1 hy1=>?_⟩;have hall:∀y∈[V.str "",V.str "abcdefghi",V.str "Ab",V.str "a b",V.str "a1",V.str "a.",V.non,V.int 5,V.bl true,V.ref l1,V.ref t1,V.ref d1],Mh K H14 y/\nmV y=false/\∀z,y=.str z->z.length<=100:=by
  have st:∀z:Str,Mp z=false->z.length<=100->Mh K H14 (.str z)/\nmV (.str z)=false/\∀y,V.str z=.str y->y.length<=100:=λz h1 h2=>⟨Ri z,h1,λy e=>by rw[<-V.str.inj e];exact h2⟩;refine gy.mpr ⟨st _ (by decide +kernel) (by decide),gy.mpr ⟨st _ (by decide +kernel) (by decide),gy.mpr ⟨st _ (by decide +kernel) (by decide),gy.mpr ⟨st _ (by decide +kernel) (by decide),gy.mpr ⟨st _ (by decide +kernel) (by decide),gy.mpr ⟨st _ (by decide +kernel) (by decide),gy.mpr ⟨⟨mU,rfl,λ_ e=>by cases e⟩,
   gy.mpr ⟨⟨kH _,rfl,λ_ e=>by cases e⟩,gy.mpr ⟨⟨sP _,rfl,λ_ e=>by cases e⟩,gy.mpr ⟨⟨lH hl14,rfl,λ_ e=>by cases e⟩,gy.mpr ⟨⟨lE ht14,rfl,λ_ e=>by cases e⟩,gy.mpr ⟨⟨mM hd14,rfl,λ_ e=>by cases e⟩,λ_ h=>nomatch h⟩⟩⟩⟩⟩⟩⟩⟩⟩⟩⟩⟩
 obtain⟨u15,hy15⟩:=Ay (o:=.lst [V.str "",V.str "abcdefghi",V.str "Ab",V.str "a b",V.str "a1",V.str "a.",V.non,V.int 5,V.bl true,V.ref l1,V.ref t1,V.ref d1]) hy1;generalize upd H14 y1 _=H15 at *;generalize [V.str "",V.str "abcdefghi",V.str "Ab",V.str "a b",V.str "a1",V.str "a.",V.non,V.int 5,V.bl true,V.ref l1,V.ref t1,V.ref d1]=xs at *;refine⟨y1,rfl,⟨_,SqL.of hy15⟩,?_⟩;refine G7 (xs:=xs) (λk Y H16=>(∃v6:Option V,Y=[some (.ref a),some (.int m),some (.ref e),some (.ref g),some (.ref hd),some (.ref x),v6])/\Ah H15 H16) ⟨⟨_,rfl⟩,Ah.refl _⟩ (λk Y H16 _ h=>SqL.of (h.2 _ _ hy15)) ?_ ?_
 ·rintro k y Y H16 hy ⟨⟨v6,rfl⟩,s16⟩
  obtain⟨h1,h2,h3⟩:=hall y (e6 hy);apply⟨y,rfl,(h1.same u15).same s16,h3,λH17 s17=>?_⟩;rw[h2];refine⟨false,false,rfl,rfl,?_⟩;k_is;exact⟨⟨_,rfl⟩,s16.trans s17⟩
 rintro Y H16 ⟨⟨v6,rfl⟩,s16⟩;have s916:=(s14.trans u15).trans s16;k_is;exact⟨x,g,nm,ds,rfl,hI9.kp (Ah.kp s916),s916 _ _ hg9,λH' _=>q H'⟩
end
set_option maxHeartbeats 8000000 in
theorem all_mk:AllMk:=by
 intro l w K h mg fa X G hfa ac ab ad af aa ae aF aG f24 od24 an24 sl24 oc24 kV24 dc24 pm24 cd24 ct24 T24 oT24 vT24 nT24 f50 od50 an50 sl50 oc50 kV50 dc50 pm50 ct50 oo50 ao o_ONES_OF_FOUR i_ONES_OF_FOUR n_ONES_OF_FOUR ap o_SIGNS_OF_FOUR i_SIGNS_OF_FOUR n_SIGNS_OF_FOUR t_WORD_BITS t_MOST_BITS t_BLOCK_WORDS t_MOST_SIGNS_pairs t_STRETCH_BITS t_MOST_KNOTS t_MOST_SIGNS_woods t_MOST_LETTERS t_LETTERS cd_Bits fd_Bits cd_Counts fd_Counts cd_Shortcuts fd_Shortcuts cd_Named fd_Named cd_Pairs fd_Pairs cd_Opened fd_Opened bc_Heights bc_Openings g0 g1 g2 g3 g4 g5 g6 g7 g8 g9 g10 g11 g12 g13 g14 g15 g16 g17 g18 g19 g20 g21 g22 g23 i24 a24 l24 c24 k24 lT24 dT24 eT24 g25 g26 g27 g28 g29 g30 g31 g32 g33 g34 g35 g36 g37 g38 g39 g40 g41 g42 g43 g44 g45 g46 g47 g48 g49 i50 a50 l50 c50 k50 lc50 hc50 g51 g52 g53 g54 g55 g56 g57 g58 g59 g60 g61 g62 g63 cm o1_ONES_OF_FOUR o2_ONES_OF_FOUR o3_ONES_OF_FOUR o4_ONES_OF_FOUR o5_ONES_OF_FOUR bY o1_SIGNS_OF_FOUR o2_SIGNS_OF_FOUR o3_SIGNS_OF_FOUR o4_SIGNS_OF_FOUR o5_SIGNS_OF_FOUR bP bZ bS cj bV ce cg ck ci z_range z_len z_int z_bool z_str z_isinstance z_list z_tuple z_dict z_enumerate z_zip z_sum z_abs z_max z_min z_sorted z_all;obtain⟨f63,d63,F63,a63⟩:=g63;obtain⟨_,_,kV63,dc63,pm63,an63,cd63,ct63,_,rfl,_,_⟩:=F63.ex;have e:=hfa.symm.trans (i8 X G a63);cases e;have cD:∀H,SqT K H ao (Sq.map λn:Nat=>V.int n):=λH=>.inr ⟨o_ONES_OF_FOUR,i_ONES_OF_FOUR,n_ONES_OF_FOUR,o1_ONES_OF_FOUR,o2_ONES_OF_FOUR,o3_ONES_OF_FOUR,o4_ONES_OF_FOUR,o5_ONES_OF_FOUR⟩;have cy:∀H,SqT K H ap (eN):=λH=>.inr ⟨o_SIGNS_OF_FOUR,i_SIGNS_OF_FOUR,n_SIGNS_OF_FOUR,o1_SIGNS_OF_FOUR,o2_SIGNS_OF_FOUR,o3_SIGNS_OF_FOUR,o4_SIGNS_OF_FOUR,o5_SIGNS_OF_FOUR⟩;have T0:∀base:iq,Txt l.prog w base tz K mg ao ap:=λ_=>⟨i8 X G cm,cD,i8 X G bY,cy,⟨_,i8 X G bP⟩,⟨_,i8 X G bZ⟩,⟨_,i8 X G bS⟩,⟨_,i8 X G cj⟩,⟨_,i8 X G bV⟩,⟨_,i8 X G ce⟩,⟨_,i8 X G cg⟩,⟨_,i8 X G ck⟩,⟨_,i8 X G ci⟩,jl X G z_range,jl X G z_len,jl X G z_int,jl X G z_bool,jl X G z_str,jl X G z_isinstance,jl X G z_list,jl X G z_tuple,jl X G z_dict,jl X G z_enumerate,jl X G z_zip,jl X G z_sum,jl X G z_abs,jl X G z_max,jl X G z_min,jl X G z_sorted,jl X G z_all⟩;have Qf:Qf K ac:=⟨fd_Bits.cl,fd_Bits.no 0,fd_Bits.no 1,fd_Bits.no 2⟩;have Qe:Qe K ab:=⟨fd_Counts.cl,fd_Counts.no 0,fd_Counts.no 1,fd_Counts.no 2⟩;have Qa:Qa K ad:=⟨fd_Shortcuts.cl,fd_Shortcuts.no 0,fd_Shortcuts.no 1⟩;have Qd:Qd K af:=⟨fd_Named.cl,fd_Named.no 0,fd_Named.no 1,fd_Named.no 2,fd_Named.no 3,fd_Named.no 4,fd_Named.no 5⟩;have Qc:Qc K aa:=⟨fd_Pairs.cl,fd_Pairs.no 0,fd_Pairs.no 1,fd_Pairs.no 2,fd_Pairs.no 3,fd_Pairs.no 4⟩;have Qb:Qb K ae:=⟨fd_Opened.cl,fd_Opened.no 0⟩;have F24:=sH (st:=Br) l24 c24 lT24 dT24;have b24:=F24.binds (ps:=["self","order","step"]) λ_ _ _ _ _ _ _ us hl=>match us,hl with | [_,_,_],_=>⟨_,rfl,λ_=>rfl⟩
 have F50:=qX (st:=Cj) l50 c50 k50 lc50 hc50;have b50:=F50.binds (ps:=["self","wood","names"]) λ_ _ _ _ _ _=>us3 λ_ _ _=>rfl;refine⟨ir "law" "law" (Bs Py) (Bi Py) (Ad Py) .none kV63 dc63 pm63 an63 cd63 ct63,λs v=>.of_eq rfl,λbase hK _ hB=>?_⟩;have T:=T0 base;have V0:=GD.cal X G g0 λF=>Xx T F;have V1:=GD.cal X G g1 λF=>Ub T V0 F;have V2:=GD.cal X G g2 λF=>Vc T V1 F;have V3:=GD.cal X G g3 λF=>Pq T V1 F;have V4:=GD.cal X G g4 λF=>Mq T V3 F;have V5:=GD.cal X G g5 λF=>Sc T V1 F;have V6:=GD.cal X G g6 λF=>Z5 T F;have V7:=GD.cal X G g7 λF=>iE T F;have V8:=GD.cal X G g8 λF=>Y2 T F;have V9:=GD.cal X G g9 λF=>Wn T F V8;have V10:=GD.cal X G g10 λF=>Xb T F;have V11:=MD.mkr X G cd_Bits g11 λF=>Wb T Qf F V7 V9;have V12:=MD.mth Qf.cl g12 λF=>Wc T Qf F;have V13:=MD.mth Qf.cl g13 λF=>Q8 T Qf F;have V14:=MD.mth Qf.cl g14 λF=>Qv T Qf F V4 V10;have V15:=GD.cal X G g15 λF=>Nq T F;have V16:=GD.cal X G g16 λF=>Le T V6 F V15;have V17:=MD.mkr X G cd_Counts g17 λF=>Q5 T Qe F V12 V13 V16;have V18:=MD.mth Qe.cl g18 λF=>Qj T V6 Qe F;have V19:=MD.mth Qe.cl g19 λF=>Qw T V3 Qe F V2 V18;have V20:=GD.cal X G g20 λF=>U5 T V17 V11 F;have V21:=GD.cal X G g21 λF=>P2 T V1 F;have V22:=GD.cal X G g22 λF=>Vz T F;have V23:=GD.cal X G g23 λF=>N6 T F V22;have V24:Abb l.prog w K mg base "Shortcuts" ad 4 ["self","order","step"] (Jm ad):=⟨⟨f24,_,Qg T Qa F24 V21 V23,b24,⟨cd_Shortcuts.ma,a24,i24,cd_Shortcuts.kc⟩,i8 X G cd_Shortcuts.a⟩⟩;have b24D:=Xj.bindsD (x:="__init__") (qual:="Shortcuts.__init__") (st:=Br) (ps:=["self","order","step"]) (kV:=kV24) (doc:=dc24) (pm:=pm24) (cdv:=cd24) (ct:=ct24) (an:=an24) lT24 dT24 rfl (us2 λ_ _=>⟨_,rfl,rfl⟩);have V24D:nQ l.prog w K mg base "Shortcuts" ad 4 ["self","order","step"] (Jm ad) [.int 16]:=⟨⟨f24,_,_,Qg T Qa F24 V21 V23,b24D,.cons eT24 .nil,⟨cd_Shortcuts.ma,a24,i24,cd_Shortcuts.kc⟩,i8 X G cd_Shortcuts.a⟩⟩;have V25:=MD.mth Qa.cl g25 λF=>Qn T Qa F;have V26:=MD.mth Qa.cl g26 λF=>Qi T Qa F;have V27:=MD.mth Qa.cl g27 λF=>Qq T Qa F V26;have V28:=GD.cal X G g28 λF=>Sb T F;have V29:=GD.cal X G g29 λF=>Um T F;have V30:=BD.calC X G bc_Heights g30 λF=>Qx T Qc F;have V31:=MD.mth Qc.cl g31 λF=>Qk T Qc V19 F;have V32:=MD.mth Qc.cl g32 λF=>Qo T Qc F V31;have V33:=MD.mth Qc.cl g33 λF=>Qt T Qc F V14;have V34:=MD.mth (sp:=(Vm K ac ab aa)) Qc.cl g34 λF=>Qy T Qc F;have V35:=MD.mth (sp:=(Vn K ac ab aa)) Qc.cl g35 λF=>Qz T Qc F V33;have V36:=MD.mkr X G cd_Pairs g36 λF=>Wa T V17 V11 Qc V29 F V32 V28 V30;have V37:=GD.cal X G g37 λF=>Y8 T V0 F;have V38:=GD.cal X G g38 λF=>Ui T F;have V39:=GD.cal X G g39 λF=>iH T F V38 V37;have V40:=GD.cal X G g40 λF=>Uz T V29 F;have V41:=BD.calC X G bc_Openings g41 λF=>Qs T Qb F;have V42:=MD.mkr X G cd_Opened g42 λF=>Q7 T Qb F V39 V36 V41;have V43:=MD.mth Qb.cl g43 λF=>Qh T Qb F V34;have V44:=MD.mth Qb.cl g44 λF=>Q0 T Qb F V35;have V45:=MD.mth Qb.cl g45 λF=>Qm T Qb F V40 V44;have V46:=GD.cal X G g46 λF=>Z6 T F;have V47:=GD.cal X G g47 λF=>Rq T V46 F;have V48:=GD.cal X G g48 λF=>Nu T F;have V49:=GD.cal X G g49 λF=>Kl T F;have V50:Mkr l.prog w K mg base "Named" af 10 ["self","wood","names"] (T8 K ac ab aa ae ad af tz):=⟨⟨f50,_,Q9 T Qd Qb V43 F50 hK (hB (555,553) (by simp)) f7 V47 V24D V20 V48 V49 V45,b50,⟨cd_Named.ma,a50,i50,cd_Named.kc⟩,i8 X G cd_Named.a⟩⟩;have V51:=MD.mth (sp:=(M6 K ac ab aa ae ad af)) Qd.cl g51 λF=>Qp T Qd F V25;have V52:=MD.mth Qd.cl g52 λF=>Q6 T Qd V43 F V51;have V53:=MD.mth (sp:=(Zz K ac ab aa ae ad af)) Qd.cl g53 λF=>Ql T Qd F;have V54:=MD.mth Qd.cl g54 λF=>Qr T V19 Qd V43 F V5 V27;have V55:=GD.cal X G g55 λF=>Oo T F;have V56:=GD.cal X G g56 λF=>Ux T F;have V57:=GD.cal X G g57 λF=>Vk T F;have V58:=GD.cal X G g58 λF=>Sk T V55 V57 F;have V59:=GD.cal X G g59 λF=>X1 T F;have V60:=GD.cal X G g60 λF=>T7 T F;have V61:=GD.cal X G g61 λF=>Mr T F;have V62:=GD.cal X G g62 λF=>Xw T Qd F V52 V56 V53 V61 V54;exact wN T V46 Qd Qb V55 V57 F63 V59 V58 V60 V50 V42 V62
end TK
theorem PySem.Challenge.cw_tightwood_k64_names_told_holds : PySem.Challenge.rw_tightwood_k64_names_told.Holds :=
 TK.HEAD @TK.all_mk
#print axioms PySem.Challenge.cw_tightwood_k64_names_told_holds
