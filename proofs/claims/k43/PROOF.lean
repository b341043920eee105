import PyProof.Rows.All
import Wide.All
import OpenK.AllK
import Wide.FinOn
import Lean
import PyProof.EqAt
import PyProof.EqKinds
import PyProof.TupleCall
import KE.KDictOf
import KE.KItemsList
import KE.KLam
import KE.KNest
import KE.KNestM
import KE.KRevIter
import KE.KSortKey
import KE.KSortTup
import KE.KTryMore
import OpenK.KCls
import PyProof.AttrMissHeap
import PyProof.Draws
import PyProof.EnumMake
import PyProof.EnumStmt
import PyProof.FactsAll.list
import PyProof.InstStoreFacts
import PyProof.IsiH_list
import PyProof.ListNew
import PyProof.ListRange
import PyProof.ObjNew
import PyProof.Rows.SortShell
import PyProof.Rows.SortStr
import PyProof.SliceList
import PyProof.StrBlockL
import PyProof.StrLawsChain
import PyProof.StrLawsIn
import PyProof.WalksEnum
import PyProof.ZipIter
import PySem.Challenge.RW_tightwood_k43_levels
set_option compiler.extract_closed false
set_option Elab.async false
set_option linter.all false
set_option maxRecDepth 100000
set_option maxHeartbeats 4000000
open List renaming length_map->da,getElem?_eq_getElem->df,length_append->di,append_assoc->dq,getElem?_map->du,replicate->dv,length_take->dy,mem_of_getElem?->d5,length_range->d6,range->d7,getElem?_append_right->d8,getElem?_eq_some_iff->d9,map_append->ed,mem_singleton->ee,size_toArray->ej,mem_append_right->e6,mem_cons_of_mem->fb,take_of_length_le->fc,mem_cons_self->fi,length_cons->fj,map_cons->ft,getElem?_append_left->fv,append_nil->fw,mem_map->fz,getElem?_eq_none->f8,flatten_cons->gd,mem_append->gj,getElem?_range->gl,getElem?_take_of_lt->gq,getD->gr,mem_cons->gt,take_append_drop->gu,map_map->gx,length_replicate->gy,mem_range->gz,take_append_of_le_length->ik,take_add_one->il,replicate_succ->im,length_drop->io,range_succ->iw,flatten_append->iy,getElem?_drop->i7,nil_append->jb,drop_append_of_le_length->je,map_congr_left->jg,length_nil->jh,filter_append->jj,getElem?_take->jn,drop_of_length_le->jo,mem_of_mem_take->jv,mem_append_left->jw,forall_mem_cons->jx,cons_append->jz,ext_getElem?->j2,drop_drop->ka,lookup_cons->kj,toList_toArray->kx,take_succ_cons->ky,filterMap_cons->k5,length->k6,take_length->lu,getElem?_of_mem->ly,pairwise_lt_range->l7,take_zero->mf,getD_eq_getElem?_getD->mh,length_filter_le->ml,extract_eq_take_drop->mq,mem_filter->mw,length_set->my,reverse_reverse->mz,pairwise_append->nh,mem_of_mem_drop->ni,reverse_append->nv,eq_nil_iff_forall_not_mem->ny,lookup->n6,flatten_singleton->og,nodup_cons->oi,foldl_cons->oj,sum_cons->om,map_take->oq,count_append->ow,drop_zero->o3,not_mem_nil->o6,map_nil->o7,drop_length->o8,all_eq_true->o9,pairwise_iff_getElem->ph,getElem?_zip_eq_some->pj,drop_eq_getElem_cons->pq,length_reverse->pr,sum_append->qa,count_cons->qb,pairwise_cons->qf,getElem?_tail->qg,pairwise_singleton->qj,getElem?_replicate->qk,getElem?_cons_succ->ql,filter_cons_of_pos->qm,length_singleton->rc,mem_reverse->re,mem_flatten->rf,eq_nil_of_length_eq_zero->rn,of_mem_zip->rz,forIn_cons->sd,mem_map_of_mem->sf,length_pos_iff->sg,map_replicate->sy,getElem?_set->ud,take_add->uf,getElem_map->ul,filter_cons_of_neg->um,range_succ_eq_map->ux,map_set->uy,head?_eq_getElem?->uz,getElem?_set_self->u5,filter_eq_nil_iff->va,find?_cons->vi,getElem?_toArray->vo,getElem?_set_ne->vy,sum_singleton->w6,mem_filterMap->w8,pairwise_map->xl,length_tail->yd,getElem_mem->ye,ext_getElem->yf,length_zip->yv,countP_eq_length_filter->yw,forIn_nil->zk,count_replicate_self->zr,any_cons->z5,take->AD,length_eq_zero_iff->AE,length_eq_one_iff->AH,map->BD,length_dropLast->BE,count_eq_countP->BF,length_flatten->BQ,getElem_of_mem->BR,getD_cons_succ->BS,map_singleton->BZ,getElem_range->CA,foldl->CF,foldl_append->CV,filter_congr->CW,take_append->DI,map_flatten->DJ,foldlM_cons->DK,flatten_nil->DL,filter_cons->DM,take_take->EC,foldl_nil->ED,map_drop->EQ,drop->HN,sum->IS
open PySem.W renaming Frag->de,nsIn->ic,fnOf->i9,keepIn->jt,mg_of->j0,findIn->j1,mg_none_of->kh,codeIn->km,boot_heap->mo,SharedT->rj,kia_one->sh,plainGet->t9,isFn->uh,methodCall_KW->uq,tabObj->ve,plainGet_of->vq,codeHd_of_K->vt,km_tabs_of->wc,methodObj->wt,hasDictIn->wu,takerIn->xr,OpenLaw->xt,boot_drawn->yn,TabsAt->yp,kla_obj->y3,boot_toks->zm,cellsFrom_some->zn,kla_codeExpr->AB,kla_callFunE->AC,km_in_of->AR,CodeHd->AW,plainOver->AY,kitx_list->AZ,kitx_dict->BA,handedIn->BM,makesIn->BX,kla_fn->CO,WalkO->DD,Frag->HR,OpenLaw->IZ
open Nat renaming le_refl->dh,lt_of_lt_of_le->ef,ne_of_lt->fm,le_trans->fq,zero_le->f7,add_sub_cancel_left->gi,le_of_lt->ig,zero_add->ip,le_add_right->iq,min_eq_left->iz,add_assoc->i0,sub_self->jd,add_zero->jr,exists_eq_add_of_le->kl,lt_irrefl->ko,le_of_eq->ku,eq_zero_or_pos->lw,lt_of_le_of_lt->mj,lt_of_le_of_ne->oh,ne_of_gt->pf,not_lt->qi,le_succ->qp,add_sub_cancel'->sk,sub_zero->ss,mod_mul_right_div_self->td,mod_lt->tj,add_sub_cancel->tm,succ_pred_eq_of_pos->ur,min_le_right->uu,min_eq_right->uv,lt_succ_self->uw,pow_succ->vf,div_div_eq_div_mul->vg,add_comm->vh,add_mul->we,add_le_add_left->ww,mod_mod_of_dvd->xj,mul_comm->xu,lt_succ_of_lt->xw,add_sub_assoc->xx,and_two_pow_sub_one_eq_mod->yq,not_lt_zero->zc,testBit_two_pow_sub_one->zj,succ_pos->AU,min_self->AV,le_of_ble_eq_true->BC,pow_le_pow_right->BN,one_pos->BO,eq_of_testBit_eq->BP,sub_lt->CS,sub_le->CT,lt_or_eq_of_le->CU,lt_trichotomy->DG,ble->DH,succ_le_succ->DU,mul_assoc->EZ,xor_zero->FQ,one_mul->HB,le_zero->HC
open PySem.Heap renaming get?_push_of_some->dj,lt_size->eg,get?_push_size->fu,get?_update_other->kq,size_push->mi,size_update->uo,SameBut->vc,get?_update_self->vp,get?_push_ne->xn,get?_none_of_le->BG
open PySem renaming Addr->dk,wpAny_pure->dw,Value->d3,Shared->d4,Program->fh,World->gp,Expr->ie,Around->ir,Heap->i8,Stmt->jc,mem_of_lookup->jf,FuncData->jk,wpAny_newObj_type->ki,wpAny_mono->lz,Scope->l6,Arguments->l8,codeAny_builtin->l9,wpAny_field->mn,NameKind->mv,wpAny_truthy_bool->np,lookup_relabel_local->nq,plainId_quiet->n0,Spec->n5,wpAny_rule->ou,wpAny_tryCatch->pz,Builtin->p7,wpAny_call_entry->p8,Builtin->qd,wpAny_standAt->qr,wpAny_comprehension_free->qt,wpAny_callSpecial?_slot->qz,wpAny_seqItems->rg,call_meets->se,wpAny_of_eq->sq,wpAny_newFunctionEnv->sr,IsPair->tp,codeAny_mono->tx,IsRangeIter->vb,CmpOp->vw,wpAny_typeOf->vz,wpAny_pyIter_rangeiter->v9,codeAny_compStart_list->wa,Result->wb,wpAny_execs_nil->wk,Model->wo,exec_Assign_Name_used->wq,wpAny_loadName_local->xf,wpAny_letGo->xg,wpAny_ite_true->xh,IsPart->xk,wpAny_newList->x8,wpAny_attempt->x9,rangeSize_one->ya,evalPart_none->yb,Value->yc,wpAny_pyIter_range->yk,wpAny_call->yl,wpAny_Name->ym,seqIndex_neg->yz,call_range_1->y4,ZipApart->y6,wpAny_pyIter_zip->zl,Params->zp,Paired->zq,seqIndex_of->zt,Fin->zz,wpAny_updateSeq->z8,Within->AA,BindsTo->AL,wpAny_newTuple->AO,Operator->AT,wpAny_getItem_list_slice->BI,call->BL,wpAny_getItem_str_slice->BV,wpAny_pyNext_range_end->CI,wpAny_nextOf_list_item->CJ,wpAny_getItem_list_neg->CK,Str->CQ,Keyword->CY,builtinLookup_eq_fast->DC,wpAny_Slice->DO,sizeLine_eq->DQ,numAt_eq->DR,intItems_at->DS,wpAny_loadName_free->DX,wpAny_loadName_cell->DY,wpAny_dictSet_pairs->DZ,Program->EB,typeIs_str->EI,typeIs_int->EJ,rawInt->EM,wpAny_sequenceKey->ES,wpAny_pyIter_enum->ET,World->EY,IsRange->FA,stored_length_le->FF,small_one->FG,typeLookup_type->GA,sliceRange_one->HK,pick_run->HM,GenState->HQ,DefRec->HS,nums_intItems->HX,intBits_le_64->HY,call_list_seq->HZ,call_range_3->IW
open PySem.Str renaming ofString->dn,ofString->kr,length->xi,empty->yo
open Option.some renaming inj->dr
open Array renaming length_toList->eh,getElem?_toList->en,toList_append->gv,getElem?_eq_getElem->k8,toList_extract->oz,getElem?_eq_some_iff->o0,toList_reverse->rl,forIn_toList->su,append_empty->sw,toList_setIfInBounds->zf,getElem?_eq_none->AG,mk->AX,append_assoc->BU,toList_push->CH,toList_map->DB,toList->ER
open PyProof.Rows renaming wpS_bind->ei,wpS_pure->fe,Keyed->fg,callWith_type1->gn,SortSt->i5,slot_tuple_getitem->jq,IntsAre->lf,wpS_mono->me,SortKind->rh,wpS_get->tu,wpS_modify->ug,AllBare->wj,get?_update_seq->wl,wpS_reverse->w9,wpS_lift->xc,size_push'->AQ,subscriptTail_builtinR->CM,listItems_at->CN,tail_any->DP,args_tuple_getitem->EK,count_cnt->GX,cnt_cons->GY,cnt->GZ,callWith_builtin1->HA,slicePart_none->HL,tupleItemsOf_->HW,Constant_none->IT,plain_sorted->IU,entry_sorted->IV
open Bool renaming false_ne_true->fk,false_eq_true->jy,and_eq_true->nz,eq_iff_iff->vn,toNat_false->yj,toNat_true->yy,toNat_le->z6,or_eq_true->DV,false_and->EH
open PySem.F renaming plainAttrs_list->f9,type_list_append->ii,slot_list_append->ij,plainAttrs_str->n4,plain_max_loop->n9,slot_zip_next->qu,slot_zip_getattribute->rb,type_list_index->ua,slot_list_index->ub,type_str_count->ui,slot_str_count->uj,slot_range_reversed->wf,slot_str_getitem->y9,slot_dict_update->zb,entry_max_loop->zd,type_list_clear->zg,slot_list_clear->zh,args_zip_next_1->zi,entry_zip_next->zo,type_str_join->z0,slot_str_join->z4,plain_reversed_new->DA,plain_list_iadd->EG,slot_int_rmul->FC
open Int renaming toNat_natCast->ge,natCast_nonneg->lx,natCast_add->qh,eq_ofNat_of_zero_le->qq,fdiv_eq_ediv_of_nonneg->tq,toNat_of_nonneg->wx,le_trans->xz,natCast_emod->yr,natCast_ediv->yt,emod_lt_of_pos->CZ,le_antisymm->EE,emod_nonneg->EF,lt_irrefl->FB,zero_add->FT,le_of_lt->FU,ediv_one->FV,le_refl->HF,not_lt->HP
open PySem.PassesOwn renaming never->gh
open PySem.Challenge renaming pw_tightwood_k43_levels->gw,rw_tightwood_k43_levels->nu
open Option renaming isSome_iff_exists->iu,map_eq_some_iff->qo,map_some->rm,getD_some->ue,map_map->yu,getD_none->BY,none->EN
open PySem.Builtin.Range renaming rangeFitsLong->i6,rangeSize->ja,small->qw,rangeFields->FZ
open PySem.Value renaming ref->ji,type->jl,int->l5,none->ra,builtin->wm,str->xp,bool->y8,float->AS,isStrOf->EA,isInt->EW,bytes->EX
open False renaming elim->jm
open PySem.Obj renaming mapSeq->jp
open PySem.Around renaming under_plainId->ju,under->z7,frames_deeper->AN
open PySem.Builtin.Str renaming strSliceIndices->ke,tooLong->HV
open PySem.NameKind renaming free->lh,cell->qx
open PySem.Calls renaming spliced_cons->lj,spliced_nil->ot,Name_function_global->ze,callWith_builtin->AF
open PySem.Builtin.SmallTypes renaming ownedTupleIsFree->lp,nextOf->qv
open PySem.Builtin renaming bitNot->md,bitAnd->nj,bitXor->vm,bitOr->DN
open List.Pairwise renaming filter->n8,nil->rp,map->FR,imp_of_mem->FS
open PySem.Builtin.Slice renaming slicePlaces->ol,sliceAdjust->rk,sliceApplied->w4,slicePartIndex->FX,sliceFields->FY
open PySem.Builtin.Tuple renaming tupleExact->ox,tupleItemsOf->wy
open PySem.Builtin.List renaming listTooLong->oy,listFitsIndex->HH,listExtendWith->HI
open ForInStep renaming yield->pe,done->qc
open True renaming intro->qe
open PySem.Heap.SameBut renaming update->qy,refl->HG
open Ne renaming symm->rq
open PyProof.Rows.SortSt renaming mk'->si
open Or renaming inr->sj,inl->DF
open PyProof renaming noPylong_small->uk
open Sum renaming inl->vd,inr->xq
open PySem.IsRange renaming new->vj
open PySem.Builtin.Builtins renaming bindParams->vx
open PySem.Expr renaming Call->wg
open Nat.succ renaming inj->wn
open PySem.Builtin.Dict renaming addKeywords->xo,updateFrom->x6,pairItems->yi,selfAndRest->HJ
open List.Perm renaming refl->xy
open PySem.Data renaming dict->yg,cell->yh,fields->BH
open PySem.Heap.IsSliceOf renaming new->yx
open PySem.SeqAt.EqAt renaming str_int->zu,int_str->zw,str_str->ID,str_none->IE,str_bool->IF,same->IG,none_str->IH,none_int->II,none_bool->IJ,int_none->IK,int_int->IL,int_bool->IM,bool_str->IN,bool_none->IP,bool_int->IQ,bool_bool->IR
open PySem.W.Hook renaming val->zx,obs->zy,says->GG,of->GH,keeps->GI
open Sum.inl renaming inj->z9
open PySem.Heap.DictOf renaming new->AI
open PySem.Code renaming isFrame->AJ,frames->FW
open PySem.BindsTo renaming of_defaults->AK
open Prod renaming ext->BB
open PySem.Txt renaming join->BJ
open PySem.SeqAt renaming EqAt->BK
open PySem.WalksT renaming enumerate->BW,zip2->EL
open List.cons renaming inj->CG
open StateT renaming run_pure->CP
open Prod.mk renaming injEq->DE
open PySem.Paired renaming length->DT
open And renaming intro->DW
open Nat.le renaming dest->EO
open PySem.Walks renaming range->EU
open PySem.W.WShape renaming has->EV
open PySem.CmpOp renaming NotIn->FE,In->HU
open PySem.W.Looks renaming here->FH
open PySem.EqMixed renaming ne_str_int->FI,ne_str_bool->FJ,ne_int_str->FK,ne_bool_str->FL,eq_str_int->FM,eq_str_bool->FN,eq_int_str->FO,eq_bool_str->FP
open PySem.W.WData renaming int->GB
open PySem.SeqAt.RcNeAt renaming lists_lengths->GC,lists->GE
open PySem.Within renaming cons->GF
open PySem.EqNone renaming ne_str_none->GJ,ne_none_str->GK,ne_none_none->GL,ne_none_int->GM,ne_none_bool->GN,ne_int_none->GO,ne_bool_none->GP,eq_str_none->GQ,eq_none_str->GR,eq_none_none->GS,eq_none_int->GT,eq_none_bool->GU,eq_int_none->GV,eq_bool_none->GW
open PyProof.Rows.IsTup renaming new->HE
open PySem.SeqAt.RcAt renaming lists_lengths->IA,lists->IC
open PySem.IsL renaming update->IX
open PySem.DictEntry renaming refKey->JA
open Decidable renaming em->JB
open Classical renaming choose_spec->JC
open PySem.AutoListH renaming list___mul___list_int_3->JD
open PySem.W (instObj lookIn emptyDict kitOne kia_one callWith_K CodeHd kla_obj kla_fn km_in_of mg_none_of)
abbrev Za0:=yc->PySem.Shared->Prop
abbrev Za1:=List (PySem.Addr×PySem.Obj)
abbrev Za2:=CQ->Option yc
abbrev Za3:=List yc
abbrev Za4:=List Nat
abbrev Za5:=List Bool
abbrev Za6:=List CQ
abbrev Za7:=Option yc
local macro_rules | `(tactic| lia)=>`(tactic| first | with_reducible first | assumption | exact Nat.le_of_lt (by assumption) | exact Nat.not_le.mp (by assumption) | exact Nat.lt_of_le_of_lt (by assumption) (by assumption) | exact Nat.le_trans (by assumption) (by assumption) | exact Nat.lt_trans (by assumption) (by assumption) | exact Nat.lt_succ_of_lt (by assumption) | exact Nat.sub_le _ _ | exact Nat.lt_of_lt_of_le (by assumption) (by assumption) | exact Nat.le_of_lt_succ (by assumption) | exact Nat.pos_of_ne_zero (by assumption) | exact Nat.zero_le _ | exact Nat.sub_succ_lt_self (by assumption) | exact Nat.sub_lt (Nat.zero_lt_of_lt (by assumption)) Nat.one_pos | exact Nat.lt_of_lt_of_le (Nat.sub_lt (Nat.zero_lt_of_lt (by assumption)) Nat.one_pos) (by assumption) | lia (splits := 9) | omega)
theorem QC(h:True:=by rfl):True:=h
def QD:Lean.Syntax:=QC._auto_1
theorem QE(h:True:=by decide):True:=h
def QF:Lean.Syntax:=QE._auto_1
theorem QG(h:True:=by first|exact .inl rfl|exact .inr rfl|assumption):True:=h
def QH:Lean.Syntax:=QG._auto_1
theorem QI(h:True:=by intro _;rfl):True:=h
def QJ:Lean.Syntax:=QI._auto_1
theorem QK(h:True:=by (repeat intro _);rfl):True:=h
def QL:Lean.Syntax:=QK._auto_1
section
set_option hygiene false in
local macro_rules | `(tactic| k_in)=>`(tactic| intro pins s G H Q I h)
set_option hygiene false in
local macro_rules | `(tactic| k_end)=>`(tactic| intro pins s G H D I h)
local macro_rules | `(tactic| k_cls)=>`(tactic| (constructor<;>first | rfl | decide +kernel))
namespace L2
open PySem PySem.Spec PyProof.Rows
variable {C CB CC CL Pt dx i1 i2 it l1 l2 z:dk} {params:l8} {A:ir} {op:vw} {X:Cx} {D:Go} {env:Env} {iter tg:ie} {fd:jk} {base h h':i8} {H H' H1 H2:Hp} {J:It} {pins:Za1} {fp:List dk} {kz ns:List Int} {l0:List fg} {cs ix:Za4} {N ps:Za6} {xs ys:List V} {us vs:Za3} {M:wo} {n t':Nat} {oT:Obj} {an od:Option dk} {lpos p pos pos2:Pos} {B:Prop} {scope:l6} {pl:Sem Bool} {s s2:d4} {sp:Sp} {qual:Str} {te:TE} {wi:TI} {y:V} {cdv ct doc oc pm:d3} {w:gp}
abbrev Key:=Sum Int Str
def T4:Key->d3->Bool
 |.inl k,v=>EW k v
 |.inr x,v=>EA x v
def Acb (w:gp):Key->Int
 |.inl k=>hashInt k
 |.inr x=>hashStr w x
theorem Ch:∀{k:Key} {v:d3},T4 k v=true->(∃i t,k=vd i/\v=l5 i t)\/(∃x t,k=xq x/\v=xp x t)
 |.inl i,v,h=>by
  obtain⟨t,e⟩:=Value.isInt_shape (k:=i) (v:=v) h;exact .inl ⟨i,t,rfl,e⟩
 |.inr x,v,h=>by
  obtain⟨t,e⟩:=Value.isStrOf_shape (x:=x) (v:=v) h;exact .inr ⟨x,t,rfl,e⟩
theorem jB (i:Int)(t:Tok):T4 (.inl i) (.int i t)=true:=by simp[T4,EW]
theorem jH (x:Str)(t:Tok):T4 (.inr x) (.str x t)=true:=by simp[T4,EA]
theorem xH (a b:Int):decide ((vd a:Key)=vd b)=(a==b):=by
 by_cases e:a=b
 ·subst e;simp
 ·have h:¬(vd a:Key)=vd b:=λq=>e (z9 q)
  rw[decide_eq_false h];exact(beq_eq_false_iff_ne.mpr e).symm
theorem wM (a b:Str):decide ((xq a:Key)=xq b)=decide (a=b):=by
 by_cases e:a=b
 ·subst e;simp
 ·have h:¬(xq a:Key)=xq b:=λq=>e (Sum.inr.inj q)
  rw[decide_eq_false h,decide_eq_false e]
theorem xQ (a:Int)(b:Str):decide ((vd a:Key)=xq b)=false:=decide_eq_false (λq=>nomatch q)
theorem xJ (a:Str)(b:Int):decide ((xq a:Key)=vd b)=false:=decide_eq_false (λq=>nomatch q)
def By (prog:fh)(w:gp):PySem.KeyKind prog w Key where
 is:=T4
 hash:=Acb w
 inj:=λv a b ha hb=>by
  rcases Ch ha with⟨i,t,rfl,rfl⟩|⟨x,t,rfl,rfl⟩
  ·rcases Ch hb with⟨j,u,rfl,e⟩|⟨y,u,rfl,e⟩
   ·injection e with e1 _;rw[e1]
   ·exact nomatch e
  ·rcases Ch hb with⟨j,u,rfl,e⟩|⟨y,u,rfl,e⟩
   ·exact nomatch e
   ·injection e with e1 _;rw[e1]
 byValue:=λk v h=>by
  rcases Ch h with⟨i,t,rfl,rfl⟩|⟨x,t,rfl,rfl⟩<;>rfl
 pyHash:=λhv h=>by
  rcases Ch hv with⟨i,t,rfl,rfl⟩|⟨x,t,rfl,rfl⟩
  ·exact wpAny_pyHash_int h
  ·exact wpAny_pyHash_str h
 eqBool:=λhu hv h=>by
  rcases Ch hu with⟨i,t,rfl,rfl⟩|⟨x,t,rfl,rfl⟩
  ·rcases Ch hv with⟨j,u,rfl,rfl⟩|⟨y,u,rfl,rfl⟩
   ·rw[xH] at h;exact wpAny_eqBool_int h
   ·rw[xQ] at h;exact zw i t y u _ _ _ _ h
  ·rcases Ch hv with⟨j,u,rfl,rfl⟩|⟨y,u,rfl,rfl⟩
   ·rw[xJ] at h;exact zu x t j u _ _ _ _ h
   ·rw[wM] at h;exact wpAny_eqBool_str h
 «strs»:=λk x t v h=>by
  rcases Ch h with⟨i,u,rfl,e⟩|⟨y,u,rfl,e⟩
  ·exact nomatch e
  ·injection e with e1 _
   subst e1;cases v<;>rfl
theorem Jr (prog:fh)(w:gp)(i:Int)(t:Tok):(By prog w).is (.inl i) (.int i t)=true:=jB i t
theorem Yi (prog:fh)(w:gp)(x:Str)(t:Tok):(By prog w).is (.inr x) (.str x t)=true:=jH x t
inductive V where
 |non|bl (b:Bool)|int (i:Int)|str (x:Str)|byt (b:Array UInt8)|flt (b:UInt64)|ref (a:dk)|ty (n:String)
 deriving DecidableEq
def A5:V->d3->Prop
 |.non,u=>u=ra
 |.bl b,u=>u=y8 b
 |.int i,u=>∃t,u=l5 i t
 |.str x,u=>∃t,u=xp x t
 |.byt b,u=>∃t,u=EX b t
 |.flt b,u=>∃t,u=AS b t
 |.ref a,u=>u=ji a
 |.ty n,u=>u=jl n
abbrev Au:List V->Za3->Prop:=zq A5
theorem Au.length (r:Au xs us):xs.length=us.length:=DT r
theorem Au.get:∀{xs:List V} {us:Za3} {i:Nat} {x:V},Au xs us->xs[i]?=some x->∃u,us[i]?=some u/\A5 x u
 |_,_,_,_,.nil,e=>by simp at e
 |_,_,0,_,.cons r _,e=>by simp at e;subst e;exact⟨_,rfl,r⟩
 |_,_,i+1,x,.cons _ t,e=>by
  obtain⟨u,h1,h2⟩:=Au.get (i:=i) (x:=x) t (by simpa using e);exact⟨u,by simpa using h1,h2⟩
theorem Au.set {x:V}{u:d3}(r:A5 x u):∀{xs:List V} {us:Za3} (i:Nat),Au xs us->Au (xs.set i x) (us.set i u)
 |_,_,_,.nil=>.nil
 |_,_,0,.cons _ t=>.cons r t
 |_,_,i+1,.cons q t=>.cons q (Au.set r i t)
theorem Au.append:∀{xs ys:List V} {us ws:Za3},Au xs us->Au ys ws->Au (xs++ys) (us++ws)
 |_,_,_,_,.nil,s=>s
 |_,_,_,_,.cons r t,s=>.cons r (Au.append t s)
theorem Au.take:∀{xs:List V} {us:Za3} (n:Nat),Au xs us->Au (xs.take n) (us.take n)
 |_,_,0,_=>.nil
 |_,_,_+1,.nil=>.nil
 |_,_,n+1,.cons r t=>.cons r (Au.take n t)
theorem Au.drop:∀{xs:List V} {us:Za3} (n:Nat),Au xs us->Au (xs.drop n) (us.drop n)
 |_,_,0,r=>r
 |_,_,_+1,.nil=>.nil
 |_,_,n+1,.cons _ t=>Au.drop n t
def M5:Option V->Za7->Prop
 |some v,some u=>A5 v u
 |none,none=>True
 |_,_=>False
def KV {κ:Type}:List (κ×V)->List (κ×d3)->Prop:=zq λ(p:κ×V) (q:κ×d3)=>p.1=q.1/\A5 p.2 q.2
def kV:Key->V
 |.inl i=>.int i
 |.inr x=>.str x
inductive HO where
  |lst (xs:List V)
  |tup (xs:List V)
  |dK (kvs:List (Key×V))|dT (kvs:List (List Key×V))
  |set (S:Int->Bool) (n:Nat)
  |ins (C dx:dk) (fs:List (Str×V))
  |own (x:dk)
  |xd (fs:List (Str×V))
  |met (f x:dk)
  |rng (lo hi:Int)
  |frz (o:Obj) (u:HO)
  |tbl (ps:Array d3)
  |ext (φ:i8->Prop)
abbrev Hp:=dk->Option HO
def upd (H:Hp)(a:dk)(o:HO):Hp:=λb=>if b=a then some o else H b
theorem Ac {H:Hp}{a:dk}{o:HO}:upd H a o a=some o:=by unfold upd;rw[if_pos rfl]
theorem Ai {a b:dk}{o:HO}(h:b≠a):upd H a o b=H b:=by unfold upd;rw[if_neg h]
theorem gI {a:dk}{o u:HO}:upd (upd H a o) a u=upd H a u:=by
 funext b;unfold upd;split<;>rfl
theorem F2 {a b:dk}{o u:HO}(h:H a=some o)(h':H b=some u)(d:o≠u):a≠b:=by
 intro e;subst e;rw[h] at h';exact d (dr h')
theorem Aj {a b:dk}{o:HO}(h:H a=some o)(h':H b=none):a≠b:=by
 intro e;subst e;rw[h] at h';cases h'
section
variable (P:fh) (w:gp)
def Ck (H:Hp)(h:i8)(a:dk):HO->Prop
 |.lst xs=>xs.length<=sizeLine/\∃(its:Za3) (n:Nat),Au xs its/\h.get? a=some { cls:=.type "list",data:=.seq its.toArray n }
 |.tup xs=>xs.length<=sizeLine/\∃its:Za3,Au xs its/\IsTup h a its.toArray
 |.dK kvs=>kvs.length<=sizeLine/\(a==sysModules)=false/\∃vs,KV kvs vs/\h.DictOf (By P w) a vs
 |.dT kvs=>kvs.length<=sizeLine/\(a==sysModules)=false/\∃xs:List (List Key×dk×d3),
   zq (λ(p:List Key×V) (q:List Key×dk×d3)=>p.1=q.1/\H q.2.1=some (.tup (p.1.map kV))/\A5 p.2 q.2.2) kvs xs /\
   ∃o es ep,h.get? a=some o/\o.ExactDict/\o.data=.dict es ep/\es.toList=xs.map (entryOfKey (tupleKind (By P w)))/\(xs.map (·.1)).Nodup
 |.set S n=>h.SetOf (intKind P w) a S n
 |.ins C dx fs=>H dx=some (.own a)/\fs.length<=1000/\dx≠a/\h.get? a=some (instObj C dx) /\
   ∃mA,h.Ns1 dx mA/\(∀f,M5 (fs.lookup f) (mA f))/\AA mA (fs.map (·.1))
 |.own _=>∃o,h.get? a=some o
 |.xd fs=>∃mA,h.Ns1 a mA/\∀f,M5 (fs.lookup f) (mA f)
 |.rng lo hi=>∃t u v,h.get? a=some { cls:=.type "range",data:=.fields #[.int lo t,.int hi u,.int 1 v] }
 |.frz o u=>h.get? a=some o/\Ck H h a u
 |.tbl ps=>h.get? a=some { cls:=.none,data:=.fields ps }
 |.met f x=>h.get? a=some (wt (.ref f) (.ref x))
 |.ext φ=>φ h/\(∃o,h.get? a=some o)/\∀h1 h2:i8,φ h1->(∀o,h1.get? a=some o->h2.get? a=some o)->φ h2
def HOk (H:Hp)(h:i8):Prop:=∀a o,H a=some o->Ck P w H h a o
end
section
variable {P:fh} {w:gp} {H H':Hp} {h h':i8} {a:dk} {o:HO}
theorem Ck.lt (x:Ck P w H h a o):a<h.objs.size:=by
 cases o with
 |lst xs=>obtain⟨_,_,_,_,e⟩:=x;exact eg e
 |tup xs=>obtain⟨_,_,_,p⟩:=x;exact p.lt
 |dK kvs=>obtain⟨_,_,_,_,o,_,_,e,_⟩:=x;exact eg e
 |dT kvs=>obtain⟨_,_,_,_,o,_,_,e,_⟩:=x;exact eg e
 |set S n=>obtain⟨o,_,_,_,e,_⟩:=x;exact eg e
 |ins C dx fs=>obtain⟨_,_,_,e,_⟩:=x;exact eg e
 |own y=>obtain⟨_,e⟩:=x;exact eg e
 |xd fs=>obtain⟨_,⟨_,_,_,e,_⟩,_⟩:=x;exact eg e
 |rng lo hi=>obtain⟨_,_,_,e⟩:=x;exact eg e
 |frz ob u=>obtain⟨e,_⟩:=x;exact eg e
 |tbl ps=>exact eg (show h.get? a=some _ from x)
 |met f y=>exact eg (show h.get? a=some _ from x)
 |ext φ=>obtain⟨_,⟨_,e⟩,_⟩:=x;exact eg e
theorem zq.mapP {α β:Type}{F G:α->β->Prop}:∀{JL:List α} {JM:List β},zq F JL JM->(∀a b,F a b->G a b)->zq G JL JM
 |_,_,.nil,_=>.nil
 |_,_,.cons r t,f=>.cons (f _ _ r) (zq.mapP t f)
theorem Ck.stay (x:Ck P w H h a o)(k:∀b u,(b=a\/H b=some (.own a))->h.get? b=some u->h'.get? b=some u)
  (ho:∀b,H b=some (.own a)->H' b=some (.own a))(ht:∀b xs,H b=some (.tup xs)->H' b=some (.tup xs)):Ck P w H' h' a o:=by
 induction o with
 |lst xs=>obtain⟨z,its,n,r,e⟩:=x;exact⟨z,its,n,r,k _ _ (.inl rfl) e⟩
 |tup xs=>obtain⟨z,its,r,ob,e,c⟩:=x;exact⟨z,its,r,ob,k _ _ (.inl rfl) e,c⟩
 |dK kvs=>obtain⟨z,y,vs,r,ob,es,ep,e,c⟩:=x;exact⟨z,y,vs,r,ob,es,ep,k _ _ (.inl rfl) e,c⟩
 |dT kvs=>
  obtain⟨z,y,xs,r,ob,es,ep,e,c⟩:=x;exact⟨z,y,xs,zq.mapP r λp q z=>⟨z.1,ht _ _ z.2.1,z.2.2⟩,ob,es,ep,k _ _ (.inl rfl) e,c⟩
 |set S n=>obtain⟨ob,es,ep,t,e,c⟩:=x;exact⟨ob,es,ep,t,k _ _ (.inl rfl) e,c⟩
 |ins C dx fs=>
  obtain⟨d,z,ne,e,mA,⟨od,es,ep,e2,c⟩,r⟩:=x;exact⟨ho _ d,z,ne,k _ _ (.inl rfl) e,mA,⟨od,es,ep,k _ _ (.inr d) e2,c⟩,r⟩
 |own y=>obtain⟨ob,e⟩:=x;exact⟨ob,k _ _ (.inl rfl) e⟩
 |xd fs=>obtain⟨mA,⟨od,es,ep,e,c⟩,r⟩:=x;exact⟨mA,⟨od,es,ep,k _ _ (.inl rfl) e,c⟩,r⟩
 |rng lo hi=>obtain⟨t,u,v,e⟩:=x;exact⟨t,u,v,k _ _ (.inl rfl) e⟩
 |frz ob u ih=>obtain⟨e,q⟩:=x;exact⟨k _ _ (.inl rfl) e,ih q⟩
 |tbl ps=>
  have e:h.get? a=some { cls:=.none,data:=.fields ps }:=x;show h'.get? a=some { cls:=.none,data:=.fields ps };exact k a _ (.inl rfl) e
 |met f y=>
  have e:h.get? a=some (wt (.ref f) (.ref y)):=x;show h'.get? a=some (wt (.ref f) (.ref y));exact k a _ (.inl rfl) e
 |ext φ=>obtain⟨p,⟨o,e⟩,st⟩:=x;exact⟨st _ _ p λo q=>k _ _ (.inl rfl) q,⟨o,k _ _ (.inl rfl) e⟩,st⟩
theorem HOk.lt (x:HOk P w H h)(e:H a=some o):a<h.objs.size:=(x a o e).lt
theorem HOk.fresh (x:HOk P w H h)(e:h.objs.size<=a):H a=none:=by
 cases q:H a with
 |none=>rfl
 |some u=>exact absurd (ef (x.lt q) e) (ko _)
theorem HOk.kept (x:HOk P w H h)(k:∀b u,h.get? b=some u->h'.get? b=some u):HOk P w H h':=λa o e=>
 (x a o e).stay (λb u _ q=>k b u q) (λ_ q=>q) λ_ _ q=>q
theorem HOk.laid (x:HOk P w H h)(k:∀b u,h.get? b=some u->h'.get? b=some u)(hp:h.objs.size<=a)(new:Ck P w (upd H a o) h' a o):HOk P w (upd H a o) h':=λb u e=>by
 have hn:=x.fresh hp
 by_cases hb:b=a
 ·subst hb;rw[Ac] at e;cases e;exact new
 ·rw[Ai hb] at e
  exact(x b u e).stay (λc v _ q=>k c v q) (λc q=>by rw[Ai (Aj q hn)];exact q) λc xs q=>by rw[Ai (Aj q hn)];exact q
end
def Rd (H:Hp)(a:dk)(u:HO):Prop:=H a=some u\/∃o,H a=some (.frz o u)
theorem Rd.ok {P:fh}{a:dk}{u:HO}(r:Rd H a u)(x:HOk P w H h):Ck P w H h a u:=by
 rcases r with r|⟨o,r⟩
 ·exact x a u r
 ·obtain⟨_,q⟩:=x a _ r
  exact q
def Mut:Option HO->Prop
 |some (.lst _)=>True
 |some (.dK _)=>True
 |some (.dT _)=>True
 |some (.set _ _)=>True
 |some (.ins _ _ _)=>True
 |some (.ext _)=>True
 |_=>False
section
variable {P:fh} {w:gp} {H:Hp} {h h':i8} {x e:dk} {o':HO}
theorem HOk.write (ok:HOk P w H h)(mu:Mut (H x))(he:e=x\/H e=some (.own x))(k:∀b u,b≠e->h.get? b=some u->h'.get? b=some u)(heo:∃u,h'.get? e=some u)
  (new:Ck P w (upd H x o') h' x o'):HOk P w (upd H x o') h':=λb u q=>by
 have nown:∀c y,H c=some (.own y)->c≠x:=λc y r z=>by subst z;rw[r] at mu;exact mu
 have ntup:∀c xs,H c=some (.tup xs)->c≠x:=λc xs r z=>by subst z;rw[r] at mu;exact mu
 by_cases hb:b=x
 ·subst hb;rw[Ac] at q;cases q;exact new
 ·rw[Ai hb] at q
  by_cases hbe:b=e
  ·have q':H b=some (.own x):=by
    rcases he with z|z
    ·exact absurd (hbe.trans z) hb
    ·rw[hbe];exact z
   rw[q] at q';cases q';obtain⟨v,hv⟩:=heo;exact⟨v,by rw[hbe];exact hv⟩
  ·refine(ok b u q).stay (λc v hc r=>k c v ?_ r) (λc r=>by rw[Ai (nown c b r)];exact r) λc xs r=>by rw[Ai (ntup c xs r)];exact r
   rcases hc with rfl|hc
   ·exact hbe
   ·rintro rfl
    rcases he with z|z
    ·exact nown c b hc z
    ·rw[hc] at z;cases z;exact hb rfl
end
structure Un (fs ex:List dk) (H H':Hp) (h h':i8):Prop where
 keep:∀b o,h.get? b=some o->H b=none->b∉fs->b∉ex->h'.get? b=some o
 slot:∀b o,h.get? b=some o->H b=none->b∈fs->b∉ex->∃sl,h'.get? b=some { o with slots:=sl }
 free:∀b o,h.get? b=some o->H b=none->b∉ex->H' b=none
 there:∀b o,h.get? b=some o->b∉ex->∃o',h'.get? b=some o'
 tups:∀b xs,H b=some (.tup xs)->H' b=some (.tup xs)
 frzs:∀b o u,H b=some (.frz o u)->H' b=some (.frz o u)
 tbls:∀b ps,H b=some (.tbl ps)->∃more,H' b=some (.tbl (ps++more))
section
variable {fs fs' ex ex':List dk} {H H1 H2:Hp} {h h1 h2 h':i8} {a x e:dk} {o:HO}
theorem Un.any (u:Un fs ex H H1 h h1){b:dk}{ob:Obj}(q:h.get? b=some ob)(n:H b=none)(hx:b∉ex):∃sl,h1.get? b=some { ob with slots:=sl }:=by
 by_cases hb:b∈fs
 ·exact u.slot b ob q n hb hx
 ·exact⟨ob.slots,u.keep b ob q n hb hx⟩
theorem Un.trans (a:Un fs ex H H1 h h1)(b:Un fs ex H1 H2 h1 h2):Un fs ex H H2 h h2 where
 keep:=λc ob q n hc hx=>b.keep c ob (a.keep c ob q n hc hx) (a.free c ob q n hx) hc hx
 slot:=λc ob q n hc hx=>by
  obtain⟨sl,e1⟩:=a.slot c ob q n hc hx;obtain⟨sl',e2⟩:=b.slot c _ e1 (a.free c ob q n hx) hc hx;exact⟨sl',e2⟩
 free:=λc ob q n hx=>by
  obtain⟨o',e1⟩:=a.there c ob q hx;exact b.free c o' e1 (a.free c ob q n hx) hx
 there:=λc ob q hx=>by
  obtain⟨o',e1⟩:=a.there c ob q hx;exact b.there c o' e1 hx
 tups:=λc xs q=>b.tups c xs (a.tups c xs q)
 frzs:=λc ob xs q=>b.frzs c ob xs (a.frzs c ob xs q)
 tbls:=λc ps q=>by
  obtain⟨m1,e1⟩:=a.tbls c ps q;obtain⟨m2,e2⟩:=b.tbls c _ e1;exact⟨m1++m2,by rw[e2,BU]⟩
theorem Un.kept (k:∀b u,h.get? b=some u->h'.get? b=some u):Un fs ex H H h h':=
 ⟨λb ob q _ _ _=>k b ob q,λb ob q _ _ _=>⟨ob.slots,k b ob q⟩,λ_ _ _ n _=>n,λb ob q _=>⟨ob,k b ob q⟩,λ_ _ q=>q,λ_ _ _ q=>q,λ_ ps q=>⟨#[],by rw[q];simp⟩⟩
theorem Un.refl:Un fs ex H H h h:=Un.kept λ_ _ q=>q
theorem Un.laid (k:∀b u,h.get? b=some u->h'.get? b=some u)(hp:h.objs.size<=a)(hn:H a=none):Un fs ex H (upd H a o) h h' where
 keep:=λb u q _ _ _=>k b u q
 slot:=λb u q _ _ _=>⟨u.slots,k b u q⟩
 free:=λb u q n _=>by rw[Ai (fm (ef (eg q) hp))];exact n
 there:=λb u q _=>⟨u,k b u q⟩
 tups:=λb xs q=>by rw[Ai (Aj q hn)];exact q
 frzs:=λb u xs q=>by rw[Ai (Aj q hn)];exact q
 tbls:=λb ps q=>⟨#[],by rw[Ai (Aj q hn),q];simp⟩
theorem Un.write (mu:Mut (H x))(he:e=x\/H e=some (.own x))(k:∀b u,b≠e->h.get? b=some u->h'.get? b=some u)(heo:∃u,h'.get? e=some u):Un fs ex H (upd H x o) h h':=by
 have hx:∀b,H b=none->b≠x:=λb n z=>by subst z;rw[n] at mu;exact mu
 have hb:∀b,H b=none->b≠e:=λb n z=>by
  subst z;rcases he with r|r
  ·exact hx b n r
  ·rw[n] at r;cases r
 have hm:∀b u,H b=some u->¬ Mut (some u)->b≠x:=λb u q nm z=>by subst z;rw[q] at mu;exact nm mu
 refine⟨λb u q n _ _=>k b u (hb b n) q,λb u q n _ _=>⟨u.slots,k b u (hb b n) q⟩,λb u q n _=>by rw[Ai (hx b n)];exact n,λb u q _=>?_,
  λb xs q=>by rw[Ai (hm b _ q λz=>z)];exact q,λb u xs q=>by rw[Ai (hm b _ q λz=>z)];exact q,λb ps q=>⟨#[],by rw[Ai (hm b _ q λz=>z),q];simp⟩⟩
 by_cases hbe:b=e
 ·subst hbe;exact heo
 ·exact⟨u,k b u hbe q⟩
end
def trk (h:i8)(H:Hp):List dk:=(d7 h.objs.size).filter λa=>(H a).isSome
def Wo (h:i8)(H:Hp):i8:=PySem.W.hideAll h (trk h H)
theorem iH (h:i8)(H:Hp):(Wo h H).objs.size=h.objs.size:=PySem.W.hideAll_size _ _
theorem Q4 {b:dk}{o:Obj}(e:h.get? b=some o)(n:H b=none):(Wo h H).get? b=some o:=
 PySem.W.hideAll_get _ e λhm=>by
  have q:(H b).isSome=true:=(mw.mp hm).2;rw[n] at q;simp at q
theorem sQ {b:dk}{o:Obj}(e:(Wo h H).get? b=some o):h.get? b=some o/\H b=none:=by
 have e':h.get? b=some o:=PySem.W.of_hideAll (trk h H) e;refine⟨e',?_⟩
 cases q:H b with
 |none=>rfl
 |some x=>
  have hm:b∈trk h H:=mw.mpr ⟨gz.mpr (eg e'),by simp[q]⟩;have z:(Wo h H).get? b=none:=PySem.W.hideAll_none (trk h H) hm;rw[z] at e;cases e
structure Mod (K:de) (mg:Za2) (base:i8):Prop where
 kin:K.In base
 glob:base.Ns mainGlobals mg
 blt:∃mb,base.Ns builtinsNs mb/\∀x:Str,x≠"__name__"->mb x=bootBuiltins x
 nolimit:base.NoLimit
structure Cx where
 prog:fh
 w:gp
 K:de
 mg:Za2
 base:i8
 A:ir
 N:Za6
 QN:d4
 QY:Hp
 env:Env
 outer:List Env
 stack:List Env
 ex:List dk
 fn:Str->Bool
 calm:Bool
 pn:Za1
 xe:Za0
def frs (l:List Env):List dk:=l.filterMap (·.frame)
abbrev Cx.fs (X:Cx):List dk:=frs X.outer
def Vis (sc:l6)(x:Str):Prop:=sc.names.lookup x=some .local\/sc.names.lookup x=some .cell\/sc.names.lookup x=some .free
def Loc (sc:l6)(x:Str):Prop:=sc.names.lookup x=some .local\/sc.names.lookup x=some .cell
def Ab6 (env:Env)(h:i8)(m:Za2)(x:Str)(u:d3):Prop:=
 (env.kindOf x=some .local/\m x=some u)\/((env.kindOf x=some .cell\/env.kindOf x=some .free)/\∃c,env.cells.lookup x=some c/\h.IsCell c (some u))
structure Cx.Ok (X:Cx):Prop where
 mod:Mod X.K X.mg X.base
 kind:X.env.scope.kind=.function
 glob:X.env.globals=mainGlobals
 blt:X.env.builtins=builtinsNs
 above:X.QN.heap.objs.size<=X.env.locals
 inj:∀x y c,X.env.cells.lookup x=some c->X.env.cells.lookup y=some c->x=y
 has:∀x,(X.env.kindOf x=some .cell\/X.env.kindOf x=some .free)->∃c,X.env.cells.lookup x=some c
 cab:∀x c,X.fn x=true->X.env.cells.lookup x=some c->X.QN.heap.objs.size<=c
 hd:X.calm=true->X.A.handled=none
 frames:X.A.frames=some X.stack
 stk:X.stack=X.outer\/(X.stack=X.env::X.outer/\X.env.frame=some X.env.locals)
 exf:∀b∈X.ex,b≠X.env.locals/\∀x c,X.env.cells.lookup x=some c->c≠b
 bs:∀b o,X.base.get? b=some o->X.QN.heap.get? b=some o/\X.QY b=none
 bsz:X.base.objs.size<=X.QN.heap.objs.size
 noex:∀b o,X.base.get? b=some o->b∉X.ex
 exfs:∀b∈X.ex,b∉X.fs
 funs:X.QN.heap.FunFrames X.base X.outer
 frf:∀b∈X.fs,X.QY b=none
structure Inv (X:Cx) (pins:Za1) (G:List (Option V)) (H:Hp) (s:d4):Prop where
 ok:X.Ok
 os:s.os=X.QN.os
 bare:wj s.gens
 base:Un X.fs X.ex X.QY H X.QN.heap s.heap
 loc:∃m,s.heap.Ns X.env.locals m/\∀(i:Nat) (x:Str) (v:V),X.N[i]?=some x->G[i]?=some (some v)->Vis X.env.scope x->∃u,A5 v u/\Ab6 X.env s.heap m x u
 cell:∀x c,X.env.cells.lookup x=some c->∃v,s.heap.IsCell c v
 free:H X.env.locals=none
 freeC:∀x c,X.env.cells.lookup x=some c->H c=none
 pin:∀p∈X.pn++pins,s.heap.get? p.1=some p.2/\H p.1=none/\p.1≠X.env.locals/\p.1∉X.fs/\∀v,p.2.data≠.cell v
 hok:HOk X.prog X.w H s.heap
 len:G.length=X.N.length
section
variable {X:Cx} {pins:Za1} {G:List (Option V)} {H H':Hp} {s:d4} {h':i8}
theorem Cx.Ok.nofr (ok:X.Ok){b:dk}{o:Obj}(e:X.base.get? b=some o):b∉X.fs:=λhb=>by
 have:=(ok.funs.mem hb).1;rw[e] at this;cases this
theorem Inv.bs (I:Inv X pins G H s):∀b o,X.base.get? b=some o->s.heap.get? b=some o/\H b=none:=λb o e=>
 ⟨I.base.keep b o (I.ok.bs b o e).1 (I.ok.bs b o e).2 (I.ok.nofr e) (I.ok.noex b o e),I.base.free b o (I.ok.bs b o e).1 (I.ok.bs b o e).2 (I.ok.noex b o e)⟩
theorem Inv.bk (I:Inv X pins G H s):∀b o,X.base.get? b=some o->s.heap.get? b=some o:=λb o e=>(I.bs b o e).1
theorem Inv.mod (I:Inv X pins G H s):Mod X.K X.mg X.base:=I.ok.mod
theorem Inv.kIn (I:Inv X pins G H s):X.K.In s.heap:=I.ok.mod.kin.keeps I.bk
theorem Inv.fr (I:Inv X pins G H s):∃m,Fr X.base X.env.locals s.heap m:=
 let ⟨m,hn,_⟩:=I.loc
 ⟨m,hn,I.bk,fq I.ok.bsz I.ok.above⟩
theorem Inv.lt (I:Inv X pins G H s):X.env.locals<s.heap.objs.size:=let ⟨_,hn,_⟩:=I.loc;hn.lt
theorem Inv.sz (I:Inv X pins G H s):X.QN.heap.objs.size<=s.heap.objs.size:=fq I.ok.above (ig I.lt)
theorem Inv.nofs (I:Inv X pins G H s){a:dk}(h:s.heap.objs.size<=a):a∉X.fs:=λhb=>by
 obtain⟨_,o,ho,_⟩:=I.ok.funs.mem hb;exact absurd (ef (eg ho) (fq I.sz h)) (ko _)
theorem Inv.cne (I:Inv X pins G H s):∀x c,X.env.cells.lookup x=some c->c≠X.env.locals:=λx c e z=>by
 obtain⟨v,o,ho,hd⟩:=I.cell x c e;obtain⟨m,⟨o',es,ep,ho',hd',_⟩,_⟩:=I.loc;rw[z,ho'] at ho;cases ho;rw[hd'] at hd;cases hd
theorem Inv.funs (I:Inv X pins G H s):s.heap.FunFrames X.base X.outer:=by
 have all:∀(l:List Env),(∀b∈frs l,b∈X.fs)->X.QN.heap.FunFrames X.base l->s.heap.FunFrames X.base l:=by
  intro l
  induction l with
  |nil=>intro _ _;trivial
  |cons env r ih=>
   intro hs hl;obtain⟨hk,⟨L,o,hf,hn,ho,hd⟩,hr⟩:=hl;have hL:L∈X.fs:=hs L (by unfold frs;rw[k5,hf];exact fi);obtain⟨sl,e⟩:=I.base.slot L o ho (I.ok.frf L hL) hL λz=>I.ok.exfs L z hL;exact⟨hk,⟨L,_,hf,hn,e,hd⟩,ih (λb hb=>hs b (by unfold frs;rw[k5,hf];exact fb _ hb)) hr⟩
 exact all X.outer (λ_ hb=>hb) I.ok.funs
theorem Inv.stack (I:Inv X pins G H s):s.heap.FunFrames X.base X.stack:=by
 rcases I.ok.stk with e|⟨e,hf⟩
 ·rw[e];exact I.funs
 ·rw[e]
  obtain⟨m,hn,_⟩:=I.loc;refine .cons (by rw[I.ok.kind];decide) hf hn ?_ I.funs;exact BG (fq I.ok.bsz I.ok.above)
theorem Inv.stkSub (I:Inv X pins G H s):∀b∈frs X.stack,b∈X.env.locals::X.fs:=λb hb=>by
 rcases I.ok.stk with e|⟨e,hf⟩
 ·rw[e] at hb;exact fb _ hb
 ·rw[e] at hb
  unfold frs at hb;rw[k5,hf] at hb;exact hb
theorem Inv.stkFree (I:Inv X pins G H s):∀b∈frs X.stack,H b=none:=λb hb=>by
 rcases gt.mp (I.stkSub b hb) with e|hb
 ·rw[e];exact I.free
 ·obtain⟨_,o,ho,_⟩:=I.ok.funs.mem hb
  exact I.base.free b o ho (I.ok.frf b hb) λz=>I.ok.exfs b z hb
theorem Inv.step {g':Array HQ}{d':Drawn}{ch:List dk}(I:Inv X pins G H s)
  (hch:∀b∈ch,(b∈X.ex\/X.QN.heap.objs.size<=b)/\b≠X.env.locals/\(∀x c,X.env.cells.lookup x=some c->c≠b)/\∀p∈X.pn++pins,p.1≠b)
  (keep:∀b o,b≠X.env.locals->b∉X.fs->b∉ch->s.heap.get? b=some o->H b=none->h'.get? b=some o)
  (slot:∀b o,b≠X.env.locals->b∈X.fs->b∉ch->s.heap.get? b=some o->H b=none->∃sl,h'.get? b=some { o with slots:=sl })(free:∀b o,b∉ch->s.heap.get? b=some o->H b=none->H' b=none)
  (there:∀b o,b∉ch->s.heap.get? b=some o->∃o',h'.get? b=some o')
  (tups:∀b xs,H b=some (.tup xs)->H' b=some (.tup xs))(frzs:∀b o u,H b=some (.frz o u)->H' b=some (.frz o u))(tbls:∀b ps,H b=some (.tbl ps)->∃more,H' b=some (.tbl (ps++more)))
  (ns:∀m,s.heap.Ns X.env.locals m->h'.Ns X.env.locals m)(hok:HOk X.prog X.w H' h')(hg:wj g') :
  Inv X pins G H' { s with heap:=h',gens:=g',drawn:=d',toks:=t' }:=by
 have neL:∀b o,X.QN.heap.get? b=some o->b≠X.env.locals:=λb o e=>fm (ef (eg e) I.ok.above);have neC:∀b o,X.QN.heap.get? b=some o->b∉X.ex->b∉ch:=λb o e hx hb=>by
  rcases(hch b hb).1 with z|z
  ·exact hx z
  ·exact absurd (ef (eg e) z) (ko _)
 have cellK:∀x c,X.env.cells.lookup x=some c->∀v,s.heap.IsCell c v->h'.IsCell c v:=λx c e v ⟨o,ho,hd⟩=>by
  have nch:c∉ch:=λz=>(hch c z).2.2.1 x c e rfl
  by_cases hc:c∈X.fs
  ·obtain⟨sl,q⟩:=slot c o (I.cne x c e) hc nch ho (I.freeC x c e)
   exact⟨_,q,hd⟩
  ·exact⟨o,keep c o (I.cne x c e) hc nch ho (I.freeC x c e),hd⟩
 refine⟨I.ok,I.os,hg,⟨λb o e n hb hx=>?_,λb o e n hb hx=>?_,λb o e n hx=>?_,λb o e hx=>?_,λb xs e=>tups b xs (I.base.tups b xs e),λb o xs e=>frzs b o xs (I.base.frzs b o xs e),λb ps e=>?_⟩,?_,λx c e=>?_,?_,λx c e=>?_,λp hp=>?_,hok,I.len⟩
 ·exact keep b o (neL b o e) hb (neC b o e hx) (I.base.keep b o e n hb hx) (I.base.free b o e n hx)
 ·obtain⟨sl,e1⟩:=I.base.slot b o e n hb hx
  obtain⟨sl',e2⟩:=slot b _ (neL b o e) hb (neC b o e hx) e1 (I.base.free b o e n hx);exact⟨sl',e2⟩
 ·obtain⟨o',e1⟩:=I.base.there b o e hx
  exact free b o' (neC b o e hx) e1 (I.base.free b o e n hx)
 ·obtain⟨o',e1⟩:=I.base.there b o e hx
  exact there b o' (neC b o e hx) e1
 ·obtain⟨m1,e1⟩:=I.base.tbls b ps e
  obtain⟨m2,e2⟩:=tbls b _ e1;exact⟨m1++m2,by rw[e2,BU]⟩
 ·obtain⟨m,hn,hl⟩:=I.loc
  refine⟨m,ns m hn,λi x v e1 e2 e3=>?_⟩;obtain⟨u,r,l⟩:=hl i x v e1 e2 e3;refine⟨u,r,?_⟩;rcases l with l|⟨k,c,e,z⟩
  ·exact .inl l
  ·exact .inr ⟨k,c,e,cellK x c e _ z⟩
 ·obtain⟨v,z⟩:=I.cell x c e
  exact⟨v,cellK x c e v z⟩
 ·obtain⟨m,⟨o,_,_,ho,_⟩,_⟩:=I.loc
  exact free _ o (λz=>(hch _ z).2.1 rfl) ho I.free
 ·obtain⟨v,o,ho,hd⟩:=I.cell x c e
  exact free c o (λz=>(hch c z).2.2.1 x c e rfl) ho (I.freeC x c e)
 ·obtain⟨e,n,ne,nf,d⟩:=I.pin p hp
  have nch:p.1∉ch:=λz=>(hch p.1 z).2.2.2 p hp rfl;exact⟨keep p.1 p.2 ne nf nch e n,free p.1 p.2 nch e n,ne,nf,d⟩
theorem Inv.un (I:Inv X pins G H s)(u:Un X.fs [] H H' s.heap h')(hok:HOk X.prog X.w H' h'):Inv X pins G H' { s with heap:=h',toks:=t' }:=by
 obtain⟨m,⟨o,es,ep,ho,r⟩,_⟩:=id I.loc;obtain⟨sl,hL⟩:=u.any ho I.free (by simp);exact I.step (g':=s.gens) (d':=s.drawn) (ch:=[]) (λ_ z=>nomatch z) (λb o _ hb _ e n=>u.keep b o e n hb (by simp)) (λb o _ hb _ e n=>u.slot b o e n hb (by simp)) (λb o _ e n=>u.free b o e n (by simp)) (λb o _ e=>u.there b o e (by simp)) u.tups u.frzs u.tbls (λm' hm=>by
  obtain⟨o',es',ep',ho',r'⟩:=hm;rw[ho] at ho';cases ho';exact⟨_,es',ep',hL,r'⟩) hok I.bare
theorem Inv.call {g':Array HQ}{d':Drawn}{ch:List dk}(I:Inv X pins G H s)(u:Un (frs X.stack) ch H H' s.heap h')(hok:HOk X.prog X.w H' h')(hg:wj g')
  (hch:∀b∈ch,(b∈X.ex\/X.QN.heap.objs.size<=b)/\b≠X.env.locals/\(∀x c,X.env.cells.lookup x=some c->c≠b)/\∀p∈X.pn++pins,p.1≠b) :
  Inv X pins G H' { s with heap:=h',gens:=g',drawn:=d',toks:=t' }:=by
 obtain⟨m,⟨o,es,ep,ho,r⟩,_⟩:=id I.loc;obtain⟨sl,hL⟩:=u.any ho I.free λz=>(hch _ z).2.1 rfl;exact I.step (ch:=ch) hch (λb o hL hb hc e n=>u.keep b o e n (λz=>(gt.mp (I.stkSub b z)).elim hL hb) hc) (λb o _ _ hc e n=>u.any e n hc) (λb o hc e n=>u.free b o e n hc) (λb o hc e=>u.there b o e hc) u.tups u.frzs u.tbls (λm' hm=>by
  obtain⟨o',es',ep',ho',r'⟩:=hm;rw[ho] at ho';cases ho';exact⟨_,es',ep',hL,r'⟩) hok hg
theorem Inv.turned (I:Inv X pins G H s)(k:∀b o,b≠it->s.heap.get? b=some o->h'.get? b=some o)(hn:H it=none)(hL:it≠X.env.locals)
  (h1:it∈X.ex\/X.QN.heap.objs.size<=it)(h2:∀x c,X.env.cells.lookup x=some c->c≠it)(h3:∀p∈X.pn++pins,p.1≠it):Inv X pins G H { s with heap:=h',toks:=t' }:=by
 have nit:∀b u,H b=some u->b≠it:=λb u e z=>by rw[z,hn] at e;cases e
 refine I.step (g':=s.gens) (d':=s.drawn) (ch:=[it]) (λb hb=>?_) (λb o _ _ hc e _=>k b o (λz=>hc (by simp[z])) e) (λb o _ _ hc e _=>⟨o.slots,k b o (λz=>hc (by simp[z])) e⟩) (λ_ _ _ _ n=>n)
  (λb o hc e=>⟨o,k b o (λz=>hc (by simp[z])) e⟩) (λ_ _ e=>e) (λ_ _ _ e=>e) (λb ps e=>⟨#[],by rw[e];simp⟩) (λm hm=>?_) (λb u e=>?_) I.bare
 ·have e:b=it:=by simpa using hb
  subst e;exact⟨h1,hL,h2,h3⟩
 ·obtain⟨o,es,ep,ho,r⟩:=hm
  exact⟨o,es,ep,k _ o (rq hL) ho,r⟩
 ·refine(I.hok b u e).stay (λc v hc q=>k c v ?_ q) (λ_ q=>q) λ_ _ q=>q
  rcases hc with z|z
  ·rw[z];exact nit b u e
  ·exact nit c _ z
theorem Inv.tok (I:Inv X pins G H s)(t:Nat):Inv X pins G H { s with toks:=t }:=I.un (h':=s.heap) (t':=t) Un.refl I.hok
theorem Inv.kept (I:Inv X pins G H s)(k:∀b u,s.heap.get? b=some u->h'.get? b=some u):Inv X pins G H { s with heap:=h',toks:=t' }:=I.un (Un.kept k) (I.hok.kept k)
theorem Inv.laid {a:dk}{o:HO}(I:Inv X pins G H s)(k:∀b u,s.heap.get? b=some u->h'.get? b=some u)(hp:s.heap.objs.size<=a)(new:Ck X.prog X.w (upd H a o) h' a o) :
  Inv X pins G (upd H a o) { s with heap:=h',toks:=t' }:=I.un (Un.laid k hp (I.hok.fresh hp)) (I.hok.laid k hp new)
theorem Inv.write {x e:dk}{o:HO}(I:Inv X pins G H s)(mu:Mut (H x))(he:e=x\/H e=some (.own x))(k:∀b u,b≠e->s.heap.get? b=some u->h'.get? b=some u)(heo:∃u,h'.get? e=some u)
  (new:Ck X.prog X.w (upd H x o) h' x o):Inv X pins G (upd H x o) { s with heap:=h',toks:=t' }:=I.un (Un.write mu he k heo) (I.hok.write mu he k heo new)
theorem Inv.weak {mt:List (Option V)}(I:Inv X pins G H s)(hl:mt.length=G.length)(w:∀(i:Nat) v,mt[i]?=some (some v)->G[i]?=some (some v)):Inv X pins mt H s:=
 ⟨I.ok,I.os,I.bare,I.base,let ⟨m,hn,hl'⟩:=I.loc;⟨m,hn,λi x v e1 e2 e3=>hl' i x v e1 (w i v e2) e3⟩,I.cell,I.free,I.freeC,I.pin,I.hok,hl.trans I.len⟩
theorem Inv.pins_of {pins':Za1}(I:Inv X pins G H s)(h:∀p∈pins',s.heap.get? p.1=some p.2/\H p.1=none/\p.1≠X.env.locals/\p.1∉X.fs/\∀v,p.2.data≠.cell v):Inv X pins' G H s:=
 ⟨I.ok,I.os,I.bare,I.base,I.loc,I.cell,I.free,I.freeC,λp hp=>(gj.mp hp).elim (λz=>I.pin p (jw _ z)) (h p),I.hok,I.len⟩
theorem Xa (hN:N.Nodup){i j:Nat}{x:Str}(a:N[i]?=some x)(b:N[j]?=some x):i=j:=by
 obtain⟨h1,e1⟩:=d9.mp a;obtain⟨h2,e2⟩:=d9.mp b;exact(List.getElem_inj hN).mp (e1.trans e2.symm)
theorem iZ {E:Za0}{i:Nat}{x:Str}{v:V}{u:d3}{Q:Unit->d4->Prop}(I:Inv X pins G H s)(hN:X.N.Nodup)(hi:X.N[i]?=some x)(hx:Loc X.env.scope x)(r:A5 v u)
  (h:∀s',Inv X pins (G.set i (some v)) H s'->(∃a,vc a s.heap s'.heap/\(a=X.env.locals\/X.env.cells.lookup x=some a))->Q () s')(hf:autoParam (X.fn x=true\/X.env.scope.names.lookup x=some .local) QH):wpAny M A (storeName X.env x u) Q E s:=by
 obtain⟨m,hn,hl⟩:=id I.loc;have hcls:(X.env.scope.kind==.class||(X.env.scope.kind==.module&&X.env.locals != X.env.globals))=false:=by rw[I.ok.kind];rfl
 have JN:i<G.length:=by rw[I.len];exact(d9.mp hi).1
 have cne:=I.cne;have tracked:∀{a:dk} {h':i8},(∃o,s.heap.get? a=some o/\H a=none)->vc a s.heap h'->HOk X.prog X.w H h':=λ{a h'} ha hs b ob e=>by
  obtain⟨_,_,hfree⟩:=ha;refine(I.hok b ob e).stay (λc w' hc q=>(hs.2 c ?_).trans q) (λ_ q=>q) λ_ _ q=>q;rintro rfl;rcases hc with rfl|hc
  ·rw[hfree] at e;cases e
  ·rw[hfree] at hc;cases hc
 rcases hx with hk|hk
 ·refine wpAny_storeName_local hk hn (λh' hn' hs=>?_) hcls
  obtain⟨oL,_,_,hoL,_⟩:=id hn;refine h _ ⟨I.ok,I.os,I.bare,⟨λb o e n hb hx=>?_,λb o e n hb hx=>?_,I.base.free,λb o e hx=>?_,I.base.tups,I.base.frzs,I.base.tbls⟩,⟨_,hn',λj y v' e1 e2 e3=>?_⟩,λy c e=>?_,I.free,I.freeC,λp hp=>?_,tracked ⟨oL,hoL,I.free⟩ hs,by simpa using I.len⟩ ⟨_,hs,.inl rfl⟩
  ·exact(hs.2 b (fm (ef (eg e) I.ok.above))).trans (I.base.keep b o e n hb hx)
  ·obtain⟨sl,e1⟩:=I.base.slot b o e n hb hx
   exact⟨sl,(hs.2 b (fm (ef (eg e) I.ok.above))).trans e1⟩
  ·obtain⟨o',e1⟩:=I.base.there b o e hx
   exact⟨o',(hs.2 b (fm (ef (eg e) I.ok.above))).trans e1⟩
  ·by_cases hj:j=i
   ·subst hj
    rw[hi] at e1;cases e1;rw[u5 JN] at e2;cases e2;exact⟨u,r,.inl ⟨hk,by simp⟩⟩
   ·rw[vy (rq hj)] at e2
    obtain⟨u',r',q⟩:=hl j y v' e1 e2 e3;refine⟨u',r',?_⟩;rcases q with⟨k,e⟩|⟨k,c,e,z⟩
    ·refine .inl ⟨k,?_⟩
     have:y≠x:=λe=>hj (Xa hN e1 (e▸hi));simp[this,e]
    ·exact .inr ⟨k,c,e,z.sameBut hs (cne y c e)⟩
  ·obtain⟨w',z⟩:=I.cell y c e
   exact⟨w',z.sameBut hs (cne y c e)⟩
  ·obtain⟨e,n,ne,nf,d⟩:=I.pin p hp
   exact⟨(hs.2 p.1 ne).trans e,n,ne,nf,d⟩
 ·have hfn:X.fn x=true:=by
   rcases hf with z|z
   ·exact z
   ·rw[z] at hk;cases hk
  obtain⟨c,hc⟩:=I.ok.has x (.inl hk);obtain⟨w',z⟩:=I.cell x c hc;refine wpAny_storeName_cell I.ok.kind hk hc z (λh' hc' hs=>?_);obtain⟨oc,hoc,hocd⟩:=id z;refine h { s with heap:=h' } ⟨I.ok,I.os,I.bare,⟨λb o e n hb hx=>?_,λb o e n hb hx=>?_,I.base.free,λb o e hx=>?_,I.base.tups,I.base.frzs,I.base.tbls⟩,⟨m,hn.sameBut hs (rq (cne x c hc)),λj y v' e1 e2 e3=>?_⟩,λy c' e=>?_,I.free,I.freeC,λp hp=>?_,tracked ⟨oc,hoc,I.freeC x c hc⟩ hs,by simpa using I.len⟩ ⟨c,hs,.inr hc⟩
  ·exact(hs.2 b (fm (ef (eg e) (I.ok.cab x c hfn hc)))).trans (I.base.keep b o e n hb hx)
  ·obtain⟨sl,e1⟩:=I.base.slot b o e n hb hx
   exact⟨sl,(hs.2 b (fm (ef (eg e) (I.ok.cab x c hfn hc)))).trans e1⟩
  ·obtain⟨o',e1⟩:=I.base.there b o e hx
   exact⟨o',(hs.2 b (fm (ef (eg e) (I.ok.cab x c hfn hc)))).trans e1⟩
  ·by_cases hj:j=i
   ·subst hj
    rw[hi] at e1;cases e1;rw[u5 JN] at e2;cases e2;exact⟨u,r,.inr ⟨.inl hk,c,hc,hc'⟩⟩
   ·rw[vy (rq hj)] at e2
    obtain⟨u',r',q⟩:=hl j y v' e1 e2 e3;refine⟨u',r',?_⟩;rcases q with q|⟨k,c',e,z'⟩
    ·exact .inl q
    ·refine .inr ⟨k,c',e,z'.sameBut hs ?_⟩
     rintro rfl;exact hj (Xa hN e1 (I.ok.inj _ _ _ e hc▸hi))
  ·by_cases hcc:c'=c
   ·subst hcc;exact⟨_,hc'⟩
   ·obtain⟨w2,z2⟩:=I.cell y c' e
    exact⟨w2,z2.sameBut hs hcc⟩
  ·obtain⟨e,n,ne,nf,d⟩:=I.pin p hp
   refine⟨(hs.2 p.1 ?_).trans e,n,ne,nf,d⟩;intro q;rw[q,hoc] at e;have q':oc=p.2:=dr e;exact d w' (by rw[<-q'];exact hocd)
theorem R1 {E:Za0}{i:Nat}{x:Str}{v:V}{u:d3}{Q:Unit->d4->Prop}(I:Inv X pins G H s)(hN:X.N.Nodup)(hi:X.N[i]?=some x)(hx:Loc X.env.scope x)(r:A5 v u)
  (h:∀s',Inv X pins (G.set i (some v)) H s'->Q () s')(hf:autoParam (X.fn x=true\/X.env.scope.names.lookup x=some .local) QH):wpAny M A (storeName X.env x u) Q E s:=
 iZ I hN hi hx r (λs' I' _=>h s' I') hf
theorem Inv.call' {s':d4}{ch:List dk}(I:Inv X pins G H s)(ho:s'.os=s.os)(u:Un (frs X.stack) ch H H' s.heap s'.heap)(hok:HOk X.prog X.w H' s'.heap)(hg:wj s'.gens)
  (hch:∀b∈ch,(b∈X.ex\/X.QN.heap.objs.size<=b)/\b≠X.env.locals/\(∀x c,X.env.cells.lookup x=some c->c≠b)/\∀p∈X.pn++pins,p.1≠b):Inv X pins G H' s':=by
 obtain⟨h',g',d',t',o'⟩:=s';have e:o'=s.os:=ho;subst e;exact I.call (g':=g') (t':=t') (d':=d') u hok hg hch
end
abbrev XK:=d3->Option dk->Hp->Prop
abbrev St:=List (Option V)
abbrev VK:=V->Hp->Prop
abbrev TE:=St->Hp->VK->Prop
abbrev TT:=St->Hp->(Bool->Hp->Prop)->Prop
abbrev TA:=St->Hp->(List V->Hp->Prop)->Prop
structure Go where
 nx:St->Hp->Prop
 rt:VK
 bk:St->Hp->Prop:=λ_ _=>False
 ct:St->Hp->Prop:=λ_ _=>False
abbrev TS:=Go->St->Hp->Prop
def EP (X:Cx)(pins:Za1)(G:St)(Q:VK)(u:d3)(s':d4):Prop:=∃v H',Inv X pins G H' s'/\A5 v u/\Q v H'
def TP (X:Cx)(pins:Za1)(G:St)(Q:Bool->Hp->Prop)(b:Bool)(s':d4):Prop:=∃H',Inv X pins G H' s'/\Q b H'
def AP (X:Cx)(pins:Za1)(G:St)(Q:List V->Hp->Prop)(us:Za3)(s':d4):Prop:=∃vs H',Inv X pins G H' s'/\Au vs us/\Q vs H'
def SP (X:Cx)(pins:Za1)(D:Go)(f:Flow)(s':d4):Prop:=
 match f with
 |.next=>∃mt H',Inv X pins mt H' s'/\D.nx mt H'
 |.brk=>∃mt H',Inv X pins mt H' s'/\D.bk mt H'
 |.cont=>∃mt H',Inv X pins mt H' s'/\D.ct mt H'
 |.ret u=>∃v mt H',Inv X pins mt H' s'/\A5 v u/\D.rt v H'
def PE (X:Cx)(e:ie)(t:TE):Prop:=
 ∀(pins:Za1) (s:d4) (G:St) (H:Hp) (Q:VK),Inv X pins G H s->t G H Q->wpAny (model X.prog X.w) X.A (eval e X.env) (EP X pins G Q) X.xe s
def PT (X:Cx)(e:ie)(t:TT):Prop:=
 ∀(pins:Za1) (s:d4) (G:St) (H:Hp) (Q:Bool->Hp->Prop),Inv X pins G H s->t G H Q->wpAny (model X.prog X.w) X.A (isTrue e X.env (eval e X.env)) (TP X pins G Q) X.xe s
def PW (X:Cx)(e:ie)(t:TT):Prop:=
 ∀(whole:Sem d3) (pins:Za1) (s:d4) (G:St) (H:Hp) (Q:Bool->Hp->Prop),Inv X pins G H s->t G H Q->wpAny (model X.prog X.w) X.A (isTrue e X.env whole) (TP X pins G Q) X.xe s
theorem PW.pt {e:ie}{t:TT}(h:PW X e t):PT X e t:=h _
def PA (X:Cx)(es:List ie)(t:TA):Prop:=
 ∀(pos:Pos) (pins:Za1) (s:d4) (G:St) (H:Hp) (Q:List V->Hp->Prop),Inv X pins G H s->t G H Q->wpAny (model X.prog X.w) X.A (spliced (backTo pos (starEach es X.env))) (AP X pins G Q) X.xe s
def PS (X:Cx)(st:jc)(t:TS):Prop:=
 ∀(pins:Za1) (s:d4) (G:St) (H:Hp) (D:Go),Inv X pins G H s->t D G H->wpAny (model X.prog X.w) X.A (exec st X.env) (SP X pins D) X.xe s
def PSs (X:Cx)(st:List jc)(t:TS):Prop:=
 ∀(pins:Za1) (s:d4) (G:St) (H:Hp) (D:Go),Inv X pins G H s->t D G H->wpAny (model X.prog X.w) X.A (execs st X.env) (SP X pins D) X.xe s
theorem thn {α:Type}{t:Sem α}{Q Q':α->d4->Prop}{E:Za0}(h:wpAny M A t Q E s)(hQ:∀a s,Q a s->Q' a s):wpAny M A t Q' E s:=lz h hQ λ_ _ x=>x
theorem thE {G:St}{e:ie}{t:TE}{Q:VK}{Q':Za0}(he:PE X e t)(I:Inv X pins G H s)(h:t G H Q)(k:∀u s1 x H1,Inv X pins G H1 s1->A5 x u->Q x H1->Q' u s1):wpAny (model X.prog X.w) X.A (eval e X.env) Q' X.xe s:=thn (he pins s G H Q I h) λu s1 ⟨x,H1,a,b,c⟩=>k u s1 x H1 a b c
theorem thA {G:St}{e:List ie}{t:TA}{Q:List V->Hp->Prop}{Q':Za3->d4->Prop}(he:PA X e t)(I:Inv X pins G H s)(h:t G H Q)(k:∀u s1 x H1,Inv X pins G H1 s1->Au x u->Q x H1->Q' u s1):wpAny (model X.prog X.w) X.A (spliced (backTo pos (starEach e X.env))) Q' X.xe s:=thn (he pos pins s G H Q I h) λu s1 ⟨x,H1,a,b,c⟩=>k u s1 x H1 a b c
section
variable {X:Cx}
theorem bin {a b:ie}{ta tb:TE}(ha:PE X a ta)(hb:PE X b tb){G:St}{R:V->V->Hp->Prop}(I:Inv X pins G H s)(h:ta G H λx H1=>tb G H1 λy H2=>R x y H2)
  {α:Type}{Q:α->d4->Prop}{f:d3->d3->Sem α}
  (hf:∀v u s2 x y H2,Inv X pins G H2 s2->A5 x v->A5 y u->R x y H2->wpAny (model X.prog X.w) X.A (f v u) Q X.xe s2) :
  wpAny (model X.prog X.w) X.A (eval a X.env) (λv QM=>wpAny (model X.prog X.w) X.A (eval b X.env) (λu QW=>wpAny (model X.prog X.w) X.A (f v u) Q X.xe QW) X.xe QM) X.xe s:=by
 refine thE ha I h λv s1 x H1 I1 r1 q1=>?_;refine thE hb I1 q1 λu s2 y H2 I2 r2 q2=>?_;exact hf v u s2 x y H2 I2 r1 r2 q2
def tD (i:Nat):TE:=λG H Q=>∃v,G[i]?=some (some v)/\Q v H
def tC (v:V):TE:=λ_ H Q=>Q v H
theorem kC {i:Nat}{x:Str}(hN:X.N[i]?=some x)(hv:Vis X.env.scope x)(hd:autoParam ((x==("__debug__":Str))=false) QF)(hcd:autoParam ((x==("__classdict__":Str))=false) QF):PE X (.Name x pos) (tD i):=by
 k_in;obtain⟨v,e,h⟩:=h;obtain⟨m,hn,hl⟩:=I.loc;obtain⟨u,r,l⟩:=hl i x v hN e hv;have fin:EP X pins G Q u s:=⟨v,H,I,r,h⟩;rcases l with⟨hk,hm⟩|⟨hk,c,hc,hcell⟩
 ·exact ym (xf I.ok.kind hk hn hm fin) hd
 ·rcases hk with hk|hk
  ·exact ym (DY I.ok.kind hk hc hcell fin) hd
  ·exact ym (DX I.ok.kind hk hc hcell fin hcd) hd
theorem Ad {i j pos}:PE X (.Constant (.int i) j pos) (tC (.int i)):=λ_ _ _ H _ I h=>wpAny_Constant_int ⟨.int i,H,I.tok _,⟨_,rfl⟩,h⟩
theorem Gb {b j pos}:PE X (.Constant (.bool b) j pos) (tC (.bl b)):=λ_ _ _ H _ I h=>Constant_bool ⟨.bl b,H,I,rfl,h⟩
theorem Jg {j pos}:PE X (.Constant .none j pos) (tC .non):=λ_ _ _ H _ I h=>IT ⟨.non,H,I,rfl,h⟩
theorem Ix {x j pos}:PE X (.Constant (.str x) j pos) (tC (.str x)):=λ_ _ _ H _ I h=>Calls.Constant_str ⟨.str x,H,I.tok _,⟨_,rfl⟩,h⟩
def Gl (X:Cx)(x:Str):Prop:=X.env.kindOf x=some .globalImplicit
theorem Pg {E:Za0}{G:St}{x:Str}{u:d3}{Q:Za0}(I:Inv X pins G H s)(hg:Gl X x)(hm:X.mg x=some u)(h:Q u s)
  (hd:autoParam ((x==("__debug__":Str))=false) QF):wpAny (model X.prog X.w) X.A (eval (.Name x pos) X.env) Q E s:=
 ze I.ok.kind hg (Calls.loadGlobal_global (by rw[I.ok.glob];exact I.mod.glob.keeps I.bk) hm h) hd
theorem Df {E:Za0}{G:St}{x:Str}{u:d3}{Q:Za0}(I:Inv X pins G H s)(hg:Gl X x)(hm:X.mg x=none)(hv:bootBuiltins x=some u)(h:Q u s)
  (hn:autoParam (x≠"__name__") QF)(hd:autoParam ((x==("__debug__":Str))=false) QF):wpAny (model X.prog X.w) X.A (eval (.Name x pos) X.env) Q E s:=by
 obtain⟨mb,h1,h2⟩:=I.mod.blt;exact ze I.ok.kind hg (Calls.loadGlobal_builtin (by rw[I.ok.glob];exact I.mod.glob.keeps I.bk) hm (by rw[I.ok.blt];exact h1.keeps I.bk) ((h2 x hn).trans hv) h) hd
theorem Wf {x:Str}{v:V}{u:d3}(hg:Gl X x)(hm:X.mg x=some u)(r:A5 v u)(hd:autoParam ((x==("__debug__":Str))=false) QF):PE X (.Name x pos) (tC v):=
 λ_ _ _ H _ I h=>Pg I hg hm ⟨v,H,I,r,h⟩ hd
theorem Ii {x:Str}{v:V}{u:d3}(hg:Gl X x)(hm:X.mg x=none)(hv:bootBuiltins x=some u)(r:A5 v u)(hn:autoParam (x≠"__name__") QF)(hd:autoParam ((x==("__debug__":Str))=false) QF):PE X (.Name x pos) (tC v):=
 λ_ _ _ H _ I h=>Df I hg hm hv ⟨v,H,I,r,h⟩ hn hd
variable {a b:ie} {ta tb:TE} {pos:Pos}
def PC (X:Cx)(op:vw)(a b:ie)(t:TE):Prop:=
 ∀(pins:Za1) (s:d4) (G:St) (H:Hp) (Q:VK),Inv X pins G H s->t G H Q ->
  wpAny (model X.prog X.w) X.A (eval a X.env) (λv QM=>wpAny (model X.prog X.w) X.A (eval b X.env) (λu QW=>wpAny (model X.prog X.w) X.A (compareOp op v u) (EP X pins G Q) X.xe QW) X.xe QM) X.xe s
theorem Xe (b:ie)(h:op≠.In)(h2:op≠.NotIn):behindInMarks op b=false:=by
 have e1:(op==HU)=false:=by cases op<;>first|rfl|exact absurd rfl h
 have e2:(op==FE)=false:=by cases op<;>first|rfl|exact absurd rfl h2
 cases b<;>simp[behindInMarks,e1,e2]
def yY (ta:TE):TE:=λG H Q=>ta G H λx H1=>Q (.bl (decide (x=.non))) H1
theorem A5.none_iff {x:V}{v:d3}(r:A5 x v):(v==ra)=decide (x=.non):=by
 cases x with
 |non=>cases r;rfl
 |bl _=>cases r;rfl
 |int _=>obtain⟨t,rfl⟩:=r;rfl
 |str _=>obtain⟨t,rfl⟩:=r;rfl
 |byt _=>obtain⟨t,rfl⟩:=r;rfl
 |flt _=>obtain⟨t,rfl⟩:=r;rfl
 |ref _=>cases r;rfl
 |ty _=>cases r;rfl
theorem So {j pos'}(ha:PE X a ta):PC X .Is a (.Constant .none j pos') (yY ta):=by
 k_in;refine thE ha I h λv s1 x H1 I1 r1 q1=>?_;exact IT (is_none_gen ⟨.bl _,H1,I1,by rw[r1.none_iff];rfl,q1⟩)
def tB (t:TE):TT:=λG H Q=>t G H λx H1=>∃c,x=.bl c/\Q c H1
theorem pV {t:TE}(h:PC X op a b t)(h1:behindInMarks op b=false:=by first|exact Xe _ (by decide) (by decide)|rfl):PE X (.Compare a [op] [b] pos) t:=λpins s G H Q I hw=>wpAny_Compare1 (h pins s G H Q I hw) h1
theorem cX {t:TE}(h:PC X op a b t)(h1:behindInMarks op b=false:=by first|exact Xe _ (by decide) (by decide)|rfl):PT X (.Compare a [op] [b] pos) (tB t):=by
 intro pins s G H Q I hw;refine wpAny_isTrue_Compare1 (thn (h pins s G H _ I hw) λv s1 h1=>thn h1 λu s2 h2=>thn h2 λc s3 ⟨x,H1,I1,r1,q1⟩=>?_) h1;obtain⟨d,rfl,q⟩:=q1;cases r1;exact np ⟨H1,I1,q⟩
theorem B8 {e:ie}{t:TE}(h:PE X e t)(he:autoParam (∀whole,isTrue e X.env whole=(do let v <-whole;standAt e.pos;holding [v] (truthy v))) QJ):PT X e (tB t):=by
 intro pins s G H Q I hw;refine isTrue_plain (thE h I hw λv s1 x H1 I1 r1 q1=>?_) (he _);obtain⟨d,rfl,q⟩:=q1;cases r1;exact np ⟨H1,I1,q⟩
variable {tA tB':TT} {rest:List ie}
def zW (t u:TT):TT:=λG H Q=>t G H λc H1=>if c=true then u G H1 Q else Q false H1
def tOr (t u:TT):TT:=λG H Q=>t G H λc H1=>if c=true then Q true H1 else u G H1 Q
def Abb (t:TT):TT:=λG H Q=>t G H λc H1=>Q (!c) H1
theorem U9 (ha:PT X a tA):PW X (.BoolOp .And [a] pos) tA:=by
 intro wh pins s G H Q I h;refine isTrue_and (thn (ha pins s G H Q I h) λc s1 e=>?_)
 cases c with
 |true=>exact isTrue_and_nil e
 |false=>exact e
theorem L7 (ha:PT X a tA):PW X (.BoolOp .Or [a] pos) tA:=by
 intro wh pins s G H Q I h;refine isTrue_or (thn (ha pins s G H Q I h) λc s1 e=>?_)
 cases c with
 |false=>exact isTrue_or_nil e
 |true=>exact e
theorem cN (ha:PT X a tA)(hb:PW X (.BoolOp .And (b::rest) pos) tB'):PW X (.BoolOp .And (a::b::rest) pos) (zW tA tB'):=by
 intro wh pins s G H Q I h;refine isTrue_and (thn (ha pins s G H _ I h) λc s1 ⟨H1,I1,q1⟩=>?_)
 cases c with
 |true=>exact hb wh pins s1 G H1 Q I1 q1
 |false=>exact⟨H1,I1,q1⟩
theorem Oy (ha:PT X a tA)(hb:PW X (.BoolOp .Or (b::rest) pos) tB'):PW X (.BoolOp .Or (a::b::rest) pos) (tOr tA tB'):=by
 intro wh pins s G H Q I h;refine isTrue_or (thn (ha pins s G H _ I h) λc s1 ⟨H1,I1,q1⟩=>?_)
 cases c with
 |true=>exact⟨H1,I1,q1⟩
 |false=>exact hb wh pins s1 G H1 Q I1 q1
theorem C1 (ha:PT X a tA):PT X (.UnaryOp .Not a pos) (Abb tA):=by
 k_in;exact isTrue_not (ha pins s G H (λc H1=>Q (!c) H1) I h)
def uH (ta tb:TE):TE:=λG H Q=>ta G H λx H1=>∃c,x=.bl c/\if c=true then tb G H1 Q else Q (.bl false) H1
def uB (ta:TE):TE:=λG H Q=>ta G H λx H1=>∃c,x=.bl c/\Q (.bl (!c)) H1
theorem Wq {op}{t:TE}(h:PE X a t):PE X (.BoolOp op [a] pos) t:=λpins s G H Q I hw=>BoolOp_one (h pins s G H Q I hw)
theorem Q9 (ha:PE X a ta)(hb:PE X (.BoolOp .And (b::rest) pos) tb):PE X (.BoolOp .And (a::b::rest) pos) (uH ta tb):=by
 k_in;refine BoolOp_and (thE ha I h λv s1 x H1 I1 r1 q1=>?_);obtain⟨c,rfl,q1⟩:=q1;cases r1;refine np ?_
 cases c with
 |true=>exact hb pins s1 G H1 Q I1 q1
 |false=>exact⟨.bl false,H1,I1,rfl,q1⟩
theorem mM (ha:PE X a ta):PE X (.UnaryOp .Not a pos) (uB ta):=by
 k_in;refine UnaryOp_ (thE ha I h λv s1 x H1 I1 r1 q1=>?_);obtain⟨c,rfl,q1⟩:=q1;cases r1;exact not_of (np ⟨.bl (!c),H1,I1,rfl,q1⟩)
def tIf (t:TT)(ta tb:TE):TE:=λG H Q=>t G H λc H1=>if c=true then ta G H1 Q else tb G H1 Q
theorem Gi {c:ie}(hc:PT X c tA)(ha:PE X a ta)(hb:PE X b tb):PE X (.IfExp c a b pos) (tIf tA ta tb):=by
 k_in;refine wpAny_IfExp (thn (hc pins s G H _ I h) λd s1 ⟨H1,I1,q1⟩=>?_)
 cases d with
 |true=>exact ha pins s1 G H1 Q I1 q1
 |false=>exact hb pins s1 G H1 Q I1 q1
end
def SqL (K:de)(H:Hp)(a:dk)(xs:List V):Prop:=
 Rd H a (.lst xs) \/
  ∃(o:Obj) (its:Array d3) (n:Nat),K.lookup a=some o/\o.cls=.type "list"/\o.dict=none/\o.data=.seq its n/\its.size<=sizeLine/\Au xs its.toList
def SqT (K:de)(H:Hp)(a:dk)(xs:List V):Prop:=
 Rd H a (.tup xs) \/
  ∃(o:Obj) (its:Array d3) (n:Nat),K.lookup a=some o/\o.cls=.type "tuple"/\o.data=.seq its n/\its.size<=sizeLine/\Au xs its.toList
def Abx:d3->Option V
 |.none=>some .non
 |.bool b=>some (.bl b)
 |.int i _=>some (.int i)
 |.str x _=>some (.str x)
 |.bytes b _=>some (.byt b)
 |.float b _=>some (.flt b)
 |.ref a=>some (.ref a)
 |.type n=>some (.ty n)
 |_=>none
theorem A5.abs {x:V}{u:d3}(r:A5 x u):Abx u=some x:=by
 cases x with
 |non=>cases r;rfl
 |bl _=>cases r;rfl
 |int _=>obtain⟨t,rfl⟩:=r;rfl
 |str _=>obtain⟨t,rfl⟩:=r;rfl
 |byt _=>obtain⟨t,rfl⟩:=r;rfl
 |flt _=>obtain⟨t,rfl⟩:=r;rfl
 |ref _=>cases r;rfl
 |ty _=>cases r;rfl
theorem A5.inj {x:V}{u:d3}(r:A5 x u)(q:A5 y u):x=y:=dr (r.abs.symm.trans q.abs)
theorem Au.inj:∀{xs ys:List V} {us:Za3},Au xs us->Au ys us->xs=ys
 |_,_,_,.nil,.nil=>rfl
 |_,_,_,.cons r t,.cons r' t'=>by rw[r.inj r',Au.inj t t']
section
variable {X:Cx} {pins:Za1} {G:St} {H:Hp} {s:d4} {a:dk} {xs ys:List V}
theorem SqL.of {K:de}(h:H a=some (.lst xs)):SqL K H a xs:=.inl (.inl h)
theorem SqT.of {K:de}(h:H a=some (.tup xs)):SqT K H a xs:=.inl (.inl h)
theorem Inv.list (I:Inv X pins G H s)(h:SqL X.K H a xs):∃its:Za3,Au xs its/\PlainL s.heap a its.toArray/\xs.length<=sizeLine:=by
 rcases h with h|⟨o,its,n,hk,hc,hd,hs,hz,r⟩
 ·obtain⟨z,its,n,r,e⟩:=h.ok I.hok
  exact⟨its,r,⟨_,n,e,rfl,rfl,rfl⟩,z⟩
 ·refine⟨its.toList,r,⟨o,n,I.kIn a o hk,hc,hd,by simpa using hs⟩,?_⟩
  have e:=r.length;simp only[eh] at e;lia
theorem Inv.tuple (I:Inv X pins G H s)(h:SqT X.K H a xs):∃its:Za3,Au xs its/\IsTup s.heap a its.toArray/\xs.length<=sizeLine:=by
 rcases h with h|⟨o,its,n,hk,hc,hs,hz,r⟩
 ·obtain⟨z,its,r,p⟩:=h.ok I.hok
  exact⟨its,r,p,z⟩
 ·refine⟨its.toList,r,⟨o,I.kIn a o hk,hc,n,by simpa using hs⟩,?_⟩
  have e:=r.length;simp only[eh] at e;lia
theorem Inv.list_inj (I:Inv X pins G H s)(h:SqL X.K H a xs)(h':SqL X.K H a ys):xs=ys:=by
 obtain⟨its,r,⟨o,n,e,_,_,d⟩,_⟩:=I.list h;obtain⟨its',r',⟨o',n',e',_,_,d'⟩,_⟩:=I.list h';rw[e] at e';cases e';rw[d] at d'
 injection d' with d1 _
 have:its=its':=by simpa using congrArg ER d1
 subst this;exact r.inj r'
theorem Inv.tuple_inj (I:Inv X pins G H s)(h:SqT X.K H a xs)(h':SqT X.K H a ys):xs=ys:=by
 obtain⟨its,r,⟨o,e,_,n,d⟩,_⟩:=I.tuple h;obtain⟨its',r',⟨o',e',_,n',d'⟩,_⟩:=I.tuple h';rw[e] at e';cases e';rw[d] at d'
 injection d' with d1 _
 have:its=its':=by simpa using congrArg ER d1
 subst this;exact r.inj r'
end
abbrev Cx.wish (X:Cx)(E:Za0):Cx:={ X with xe:=E }
abbrev Cx.nox (X:Cx):Cx:=X.wish λ_ _=>False
theorem Cx.Ok.wish (ok:X.Ok)(E:Za0):(X.wish E).Ok:=
 ⟨ok.mod,ok.kind,ok.glob,ok.blt,ok.above,ok.inj,ok.has,ok.cab,ok.hd,ok.frames,ok.stk,ok.exf,ok.bs,ok.bsz,ok.noex,ok.exfs,ok.funs,ok.frf⟩
theorem Cx.Ok.unwish {E:Za0}(ok:(X.wish E).Ok):X.Ok:=
 ⟨ok.mod,ok.kind,ok.glob,ok.blt,ok.above,ok.inj,ok.has,ok.cab,ok.hd,ok.frames,ok.stk,ok.exf,ok.bs,ok.bsz,ok.noex,ok.exfs,ok.funs,ok.frf⟩
section
variable {X:Cx} {pins:Za1} {G:St} {H:Hp} {s:d4} {E:Za0}
theorem Inv.wish (I:Inv X pins G H s)(E:Za0):Inv (X.wish E) pins G H s:=⟨I.ok.wish E,I.os,I.bare,I.base,I.loc,I.cell,I.free,I.freeC,I.pin,I.hok,I.len⟩
theorem Inv.unwish (I:Inv (X.wish E) pins G H s):Inv X pins G H s:=⟨I.ok.unwish,I.os,I.bare,I.base,I.loc,I.cell,I.free,I.freeC,I.pin,I.hok,I.len⟩
theorem SP.unwish {f:Flow}{s':d4}(h:SP (X.wish E) pins D f s'):SP X pins D f s':=by
 cases f with
 |next=>obtain⟨mt,H',I,q⟩:=h;exact⟨mt,H',I.unwish,q⟩
 |brk=>obtain⟨mt,H',I,q⟩:=h;exact⟨mt,H',I.unwish,q⟩
 |cont=>obtain⟨mt,H',I,q⟩:=h;exact⟨mt,H',I.unwish,q⟩
 |ret u=>obtain⟨v,mt,H',I,r,q⟩:=h;exact⟨v,mt,H',I.unwish,r,q⟩
theorem PE.nox {e:ie}{t:TE}(h:PE X.nox e t):PE X e t:=λpins s G H Q I hw=>
 lz (h pins s G H Q (I.wish _) hw) (λ_ _ ⟨v,H',I',r,q⟩=>⟨v,H',I'.unwish,r,q⟩) λ_ _ z=>jm z
theorem PT.nox {e:ie}{t:TT}(h:PT X.nox e t):PT X e t:=λpins s G H Q I hw=>
 lz (h pins s G H Q (I.wish _) hw) (λ_ _ ⟨H',I',q⟩=>⟨H',I'.unwish,q⟩) λ_ _ z=>jm z
theorem PSs.nox {st:List jc}{t:TS}(h:PSs X.nox st t):PSs X st t:=λpins s G H D I hw=>
 lz (h pins s G H D (I.wish _) hw) (λ_ _ q=>q.unwish) λ_ _ z=>jm z
end
section
variable {X:Cx} {st:jc} {rest:List jc} {t u:TS} {e:ie} {te:TE} {pos:Pos}
def uT:TS:=λD G H=>D.nx G H
def Aap (t u:TS):TS:=λD G H=>t { D with nx:=u D } G H
theorem As:PSs X [] uT:=λ_ _ G H _ I h=>wk ⟨G,H,I,h⟩
theorem Aa (h1:PS X st t)(h2:PSs X rest u):PSs X (st::rest) (Aap t u):=by
 k_end;refine wpAny_execs_cons (thn (h1 pins s G H { D with nx:=u D } I h) λf s1 q=>?_)
 cases f with
 |next=>
  obtain⟨mt,H',I',q⟩:=q;exact h2 pins s1 mt H' D I' q
 |ret v=>exact q
 |brk=>exact q
 |cont=>exact q
theorem Ae (h1:PS X st t):PSs X [st] t:=by
 k_end;refine wpAny_execs_cons (thn (h1 pins s G H D I h) λf s1 q=>?_)
 cases f with
 |next=>exact wk q
 |ret v=>exact q
 |brk=>exact q
 |cont=>exact q
theorem Inv.quiet {G:St}(I:Inv X pins G H s):interactive X.env=false:=by simp[interactive,I.ok.kind]
def tT (te:TE):TS:=λD G H=>te G H λ_ H1=>D.nx G H1
theorem Bm (he:PE X e te)(hs:autoParam (swapsWith e none pos.line X.env=pure false) QD):PS X (.Expr e pos) (tT te):=by
 k_end;exact wpAny_Expr_any (thE he I h λv s1 x H1 I1 r1 q1=>⟨G,H1,I1,q1⟩) I.quiet hs
def zC (te:TE):TS:=λD G H=>te G H D.rt
theorem Ap (he:PE X e te):PS X (.Return (some e) pos) (zC te):=by
 k_end;exact wpAny_Return_some (thE he I h λv s1 x H1 I1 r1 q1=>⟨x,G,H1,I1,r1,q1⟩)
def zR (c:TT)(t u:TS):TS:=λD G H=>c G H λb H1=>if b=true then t D G H1 else u D G H1
theorem Bp {c:ie}{a b:List jc}{tc:TT}(hc:PT X c tc)(ha:PSs X a t)(hb:PSs X b u):PS X (.If c a b pos) (zR tc t u):=by
 k_end;refine wpAny_If (thn (hc pins s G H _ I h) λd s1 ⟨H1,I1,q1⟩=>?_)
 cases d with
 |true=>exact ha pins s1 G H1 D I1 q1
 |false=>exact hb pins s1 G H1 D I1 q1
def yK:TS:=λ_ _ _=>False
theorem Ew:PS X st yK:=λ_ _ _ _ _ _ h=>h.elim
end
abbrev TG:=V->St->Hp->(St->Hp->Prop)->Prop
abbrev TGs:=List V->St->Hp->(St->Hp->Prop)->Prop
def PG (X:Cx)(target:ie)(t:TG):Prop:=
 ∀(pins:Za1) (s:d4) (G:St) (H:Hp) (v:V) (u:d3) (Q:St->Hp->Prop),Inv X pins G H s->A5 v u->t v G H Q ->
  wpAny (model X.prog X.w) X.A (assign target X.env u) (λ_ s'=>∃mt H',Inv X pins mt H' s'/\Q mt H') X.xe s
def PGs (X:Cx)(ts:List ie)(t:TGs):Prop:=
 ∀(pins:Za1) (s:d4) (G:St) (H:Hp) (vs:List V) (us:Za3) (Q:St->Hp->Prop),Inv X pins G H s->Au vs us->t vs G H Q ->
  wpAny (model X.prog X.w) X.A (assignInOrder ((assignEach ts X.env).map (·.2)) us) (λ_ s'=>∃mt H',Inv X pins mt H' s'/\Q mt H') X.xe s
abbrev Yc:=V->V->V->Hp->(Hp->Prop)->Prop
def sM (X:Cx)(t:Yc):Prop:=
 ∀(pins:Za1) (s:d4) (G:St) (H:Hp) (o i v:V) (ov iv u:d3) (Q:Hp->Prop),Inv X pins G H s->A5 o ov->A5 i iv->A5 v u->t o i v H Q ->
  wpAny (model X.prog X.w) X.A (setItem ov iv u) (λ_ s'=>∃H',Inv X pins G H' s'/\Q H') X.xe s
abbrev TIp:=V->V->Hp->VK->Prop
def PIp (X:Cx)(op:AT)(t:TIp):Prop:=
 ∀(pins:Za1) (s:d4) (G:St) (H:Hp) (x y:V) (v u:d3) (Q:VK),Inv X pins G H s->A5 x v->A5 y u->t x y H Q ->
  wpAny (model X.prog X.w) X.A (inplaceOp op v u) (EP X pins G Q) X.xe s
section
variable {X:Cx} {pos:Pos}
def Dt (i:Nat):TG:=λv G H Q=>Q (G.set i (some v)) H
theorem Er {i:Nat}{x:Str}(hN:X.N.Nodup)(hi:X.N[i]?=some x)(hx:Loc X.env.scope x)(hf:autoParam (X.fn x=true\/X.env.scope.names.lookup x=some .local) QH):PG X (.Name x pos) (Dt i):=by
 intro pins s G H v u Q I r h;exact wpAny_assign_Name (R1 I hN hi hx r (λs' I'=>⟨_,H,I',h⟩) hf)
def oO:TGs:=λvs G H Q=>vs=[]/\Q G H
def J8 (t:TG)(u:TGs):TGs:=λvs G H Q=>∃v r,vs=v::r/\t v G H λmt H'=>u r mt H' Q
theorem Ky:PGs X [] oO:=by
 intro pins s G H vs us Q I r h;obtain⟨e,h⟩:=h;subst e;cases r;exact assignInOrder_nil ⟨G,H,I,h⟩
theorem Cg {e:ie}{es:List ie}{t:TG}{u:TGs}(h1:PG X e t)(h2:PGs X es u)
  (hs:autoParam ((assignEach (e::es) X.env).map (·.2)=assign e X.env::(assignEach es X.env).map (·.2)) QD):PGs X (e::es) (J8 t u):=by
 intro pins s G H vs us Q I r h;obtain⟨v,vr,e1,h⟩:=h;subst e1
 cases r with
 |cons r rr=>
  rw[hs];refine assignInOrder_cons (thn (h1 pins s G H _ _ _ I r h) λ_ s1 ⟨JE,H1,I1,q1⟩=>?_);exact h2 pins s1 JE H1 _ _ Q I1 rr q1
def kX (K:de)(n:Nat)(t:TGs):TG:=λv G H Q=>∃a xs,v=.ref a/\SqT K H a xs/\xs.length=n/\t xs G H Q
theorem Og {es:List ie}{k:Nat}{t:TGs}(hc:X.calm=true)(h:PGs X es t)
  (hn:autoParam ((assignEach es X.env).length=n) QD)(hst:autoParam ((assignEach es X.env).findIdx? (·.1)=none) QD):PG X (.Tuple es k pos) (kX X.K n t):=by
 intro pins s G H v u Q I r hw;obtain⟨a,xs,e1,hq,hl,hw⟩:=hw;subst e1;cases r;obtain⟨its,rv,ht,hz⟩:=I.tuple hq;refine assign_Tuple_tuple (I.ok.hd hc) ht (by simp[hn,<-hl,rv.length]) hst λh' hx=>?_;have I1:Inv X pins G H { s with heap:=h' }:=I.kept (t':=s.toks) λb o e=>hx b o (fm (eg e)) e;exact h pins _ G H xs _ Q I1 (by simpa using rv) hw
def Abe (to ti:TE)(t:Yc):TG:=λv G H Q=>to G H λo H1=>ti G H1 λi H2=>t o i v H2 λH3=>Q G H3
theorem Re {o i:ie}{to ti:TE}{t:Yc}(ho:PE X o to)(hi:PE X i ti)(hs:sM X t)
  (ha:autoParam (∀v,assign (.Subscript o i pos) X.env v=(do
   let ov <-holding [v] (eval o X.env)
   let iv <-holding [v,ov] (eval i X.env)
   standAt pos
   holding [v,ov,iv] (setItem ov iv v)
   release [v,ov,iv] [])) QJ):PG X (.Subscript o i pos) (Abe to ti t):=by
 intro pins s G H v u Q I r h;rw[ha];refine wpAny_bind (wpAny_holding (thE ho I h λov s1 x H1 I1 r1 q1=>?_));refine wpAny_bind (wpAny_holding (thE hi I1 q1 λiv s2 y H2 I2 r2 q2=>?_));refine wpAny_bind (qr (wpAny_bind (wpAny_holding (thn (hs pins s2 G H2 x y v ov iv u _ I2 r1 r2 r q2) λ_ s3 ⟨H3,I3,q3⟩=>?_))));exact wpAny_release ⟨G,H3,I3,q3⟩
def cS (te:TE)(g:TG):TS:=λD G H=>te G H λx H1=>g x G H1 D.nx
theorem Ob {e:ie}{g:TG}(he:PE X e te)(hg:PG X tg g)(hs:autoParam (swapsWithSole [tg] e pos.line X.env=pure false) QD)(hw:autoParam (swappedStores [tg] e X.env=pure none) QD)
  (h1:autoParam ((assignEach [tg] X.env).map (·.2)=[assign tg X.env]) QD):PS X (.Assign [tg] e pos) (cS te g):=by
 k_end;refine wpAny_Assign_stores (thE he I h λv s1 x H1 I1 r1 q1=>?_) hs hw;rw[h1];exact thn (hg pins s1 G H1 x v _ I1 r1 q1) λ_ s2 q=>q
theorem Jc {i:Nat}{x:Str}{e:ie}{pos':Pos}(hN:X.N.Nodup)(hi:X.N[i]?=some x)(hx:Loc X.env.scope x)(he:PE X e te)(hs:autoParam (swapsWith e (some (.Name x pos')) pos.line X.env=pure false) QD)(hf:autoParam (X.fn x=true\/X.env.scope.names.lookup x=some .local) QH) :
  PS X (.Assign [.Name x pos'] e pos) (cS te (Dt i)):=by
 k_end;refine wpAny_Assign_Name (thE he I h λv s1 y H1 I1 r1 q1=>?_) hs;exact R1 I1 hN hi hx r1 (λs2 I2=>⟨_,H1,I2,q1⟩) hf
def wS (i:Nat)(te:TE)(ti:TIp):TS:=λD G H=>∃x,G[i]?=some (some x)/\te G H λy H1=>ti x y H1 λz H2=>D.nx (G.set i (some z)) H2
theorem vV {i:Nat}{x:Str}{e:ie}{op:AT}{ti:TIp}{pos':Pos}(hN:X.N.Nodup)(hi:X.N[i]?=some x)(hx:Loc X.env.scope x)(he:PE X e te)(ho:PIp X op ti)(hf:autoParam (X.fn x=true\/X.env.scope.names.lookup x=some .local) QH) :
  PS X (.AugAssign (.Name x pos') op e pos) (wS i te ti):=by
 k_end;obtain⟨v,e1,h⟩:=h;obtain⟨m,hn,hl⟩:=I.loc;have vis:Vis X.env.scope x:=by rcases hx with k|k;exact .inl k;exact .inr (.inl k)
 obtain⟨u,r,l⟩:=hl i x v hi e1 vis;refine wpAny_AugAssign_Name ?_;have go:wpAny (model X.prog X.w) X.A (eval e X.env) (λw QW=>wpAny (model X.prog X.w) X.A (inplaceOp op u w) (λr JO=>wpAny (model X.prog X.w) X.A (storeName X.env x r) (λ_=>SP X pins D .next) X.xe JO) X.xe QW) X.xe s:=by
  refine thE he I h λw s1 y H1 I1 r1 q1=>?_;refine thn (ho pins s1 G H1 v y u w _ I1 r r1 q1) λz s2 ⟨zv,H2,I2,r2,q2⟩=>?_;exact R1 I2 hN hi hx r2 (λs3 I3=>⟨_,H2,I3,q2⟩) hf
 rcases l with⟨hk,hm⟩|⟨hk,c,hc,hcell⟩
 ·exact xf I.ok.kind hk hn hm go
 ·rcases hk with hk|hk
  ·exact DY I.ok.kind hk hc hcell go
  ·rcases hx with k|k
   ·have:X.env.scope.names.lookup x=some .free:=hk
    rw[k] at this;cases this
   ·have:X.env.scope.names.lookup x=some .free:=hk
    rw[k] at this;cases this
def tQ (to ti te:TE)(tget:V->V->Hp->VK->Prop)(tip:TIp)(tset:Yc):TS:=λD G H=>to G H λo H1=>ti G H1 λi H2=>tget o i H2 λx H3=>te G H3 λy H4=>tip x y H4 λz H5=>tset o i z H5 λH6=>D.nx G H6
def Aah (X:Cx)(t:V->V->Hp->VK->Prop):Prop:=
 ∀(pins:Za1) (s:d4) (G:St) (H:Hp) (o i:V) (ov iv:d3) (Q:VK),Inv X pins G H s->A5 o ov->A5 i iv->t o i H Q ->
  wpAny (model X.prog X.w) X.A (getItem ov iv) (EP X pins G Q) X.xe s
theorem U3 {o i e:ie}{to ti:TE}{tget:V->V->Hp->VK->Prop}{tip:TIp}{tset:Yc}{op:AT}{tpos:Pos}(ho:PE X o to)(hi:PE X i ti)(hg:Aah X tget)(he:PE X e te)(hp:PIp X op tip)(hs:sM X tset)
  (ha:∀ov iv new,augStore i ov iv new=(do holding [new,ov,iv] (setItem ov iv new);release [new,ov,iv] [];pure .next):=by intros;rfl):PS X (.AugAssign (.Subscript o i tpos) op e pos) (tQ to ti te tget tip tset):=by
 k_end;refine wpAny_AugAssign_SubscriptAny (thE ho I h λov s1 x1 H1 I1 r1 q1=>?_) ha;refine thE hi I1 q1 λiv s2 x2 H2 I2 r2 q2=>?_;refine thn (hg pins s2 G H2 x1 x2 ov iv _ I2 r1 r2 q2) λold s3 ⟨x3,H3,I3,r3,q3⟩=>?_;refine thE he I3 q3 λv s4 x4 H4 I4 r4 q4=>?_;refine thn (hp pins s4 G H4 x3 x4 old v _ I4 r3 r4 q4) λnew s5 ⟨x5,H5,I5,r5,q5⟩=>?_;exact thn (hs pins s5 G H5 x1 x2 x5 ov iv new _ I5 r1 r2 r5 q5) λ_ s6 ⟨H6,I6,q6⟩=>⟨G,H6,I6,q6⟩
def ipI (f:Int->Int->Int):TIp:=λx y H Q=>∃i j,x=.int i/\y=.int j/\Q (.int (f i j)) H
theorem Lz:PIp X .Add (ipI λi j=>i+j):=by
 intro pins s G H x y v u Q I r1 r2 h;obtain⟨i,j,e1,e2,q⟩:=h;subst e1;subst e2;obtain⟨t,rfl⟩:=r1;obtain⟨t',rfl⟩:=r2;exact iadd_int ⟨.int _,H,I.tok _,⟨_,rfl⟩,q⟩
theorem Vr:PIp X .Sub (ipI λi j=>i-j):=by
 intro pins s G H x y v u Q I r1 r2 h;obtain⟨i,j,e1,e2,q⟩:=h;subst e1;subst e2;obtain⟨t,rfl⟩:=r1;obtain⟨t',rfl⟩:=r2;exact isub_int ⟨.int _,H,I.tok _,⟨_,rfl⟩,q⟩
end
section
variable {X:Cx} {pos:Pos}
def lH (c:TT)(tb:TS):TS:=λD G H=>∃W:Nat->St->Hp->Prop,(∃m,W m G H)/\∀m G H,W m G H ->
 c G H λb H1=>if b=true then ∃N:St->Hp->Prop,(∀mt H',N mt H'->∃m',m'<m/\W m' mt H')/\tb { D with nx:=N,ct:=N,bk:=D.nx } G H1 else D.nx G H1
theorem Fw {c:ie}{body:List jc}{tc:TT}{tb:TS}(hp:PassesOwn (model X.prog X.w) X.A X.env X.xe)(hc:PT X c tc)(hb:PSs X body tb):PS X (.While c body [] pos) (lH tc tb):=by
 k_end;obtain⟨W,⟨m0,w0⟩,turn⟩:=h;refine wpAny_While (codeAny_whileLoop (λn s'=>∃mt H',Inv X pins mt H' s'/\W n mt H') ?_ m0 ⟨G,H,I,w0⟩);rintro n s1 ⟨JE,H1,I1,w1⟩;refine wpAny_passesOwn hp (thn (hc pins s1 JE H1 _ I1 (turn n JE H1 w1)) λb s2 ⟨H2,I2,q2⟩=>?_)
 cases b with
 |true=>
  obtain⟨N,hN,q2⟩:=q2;rw[if_pos rfl];refine wpAny_passesOwn hp (thn (hb pins s2 JE H2 _ I2 q2) λf s3 q3=>?_)
  cases f with
  |next=>
   obtain⟨QT,H3,I3,n3⟩:=q3;obtain⟨m',hm,w3⟩:=hN QT H3 n3;exact⟨m',hm,QT,H3,I3,w3⟩
  |cont=>
   obtain⟨QT,H3,I3,n3⟩:=q3;obtain⟨m',hm,w3⟩:=hN QT H3 n3;exact⟨m',hm,QT,H3,I3,w3⟩
  |brk=>exact q3
  |ret v=>exact q3
 |false=>
  rw[if_neg fk];exact wk ⟨JE,H2,I2,q2⟩
end
structure It where
 go:Nat->Hp->Prop
 yld:Nat->Hp->V->Hp->Prop
 stop:Nat->Hp->Prop
def J9 (X:Cx)(pins:Za1)(H:Hp)(b:dk):Prop:=
 H b=none/\b≠X.env.locals/\b∉X.fs/\(b∈X.ex\/X.QN.heap.objs.size<=b)/\(∀x c,X.env.cells.lookup x=some c->c≠b)/\∀p∈X.pn++pins,p.1≠b
theorem Inv.fpOk {G:St}{b:dk}(I:Inv X pins G H s)(hb:s.heap.objs.size<=b)(hn:H' b=none):J9 X pins H' b:=by
 refine⟨hn,pf (ef I.lt hb),I.nofs hb,.inr (fq I.sz hb),λx c e z=>?_,λp hp z=>?_⟩
 ·obtain⟨v,q⟩:=I.cell x c e
  exact absurd (ef q.lt (by rw[z];exact hb)) (ko _)
 ·exact absurd (ef (eg (I.pin p hp).1) (by rw[z];exact hb)) (ko _)
structure Oh (P:fh) (w:gp) (K:de) (tg:ie) (J:It) (fp:List dk) (it:dk) (tn:Nat->i8->Prop):Prop where
 mem:it∈fp
 obj:∀i h,tn i h->∀b∈fp,∃o,h.get? b=some o/\∀v,o.data≠.cell v
 keep:∀i h h',tn i h->(∀b∈fp,∀o,h.get? b=some o->h'.get? b=some o)->tn i h'
 item:∀(X:Cx),X.prog=P->X.w=w->X.K=K->X.calm=true->∀(i:Nat) (pins:Za1) (s:d4) (G:St) (H:Hp) (E:Za0),Inv X pins G H s->(∀b∈fp,J9 X pins H b)->tn i s.heap->J.go i H ->
  wpAny (model P w) X.A (pyNext (.ref it)) (λr s1=>∃u,r=some u /\
   wpAny (model P w) X.A (letOwnedTupleGo tg (.ref it) u) (λ_ s2=>∃x H',Inv X pins G H' s2/\A5 x u/\J.yld i H x H'/\tn (i+1) s2.heap/\∀b∈fp,H' b=none) E s1) E s
 done:∀(X:Cx),X.prog=P->X.w=w->X.K=K->X.calm=true->∀(i:Nat) (pins:Za1) (s:d4) (G:St) (H:Hp) (E:Za0),Inv X pins G H s->(∀b∈fp,J9 X pins H b)->tn i s.heap->J.stop i H ->
  wpAny (model P w) X.A (pyNext (.ref it)) (λr s1=>r=none/\Inv X pins G H s1) E s
 self:∀(A:ir) (i:Nat) (s:d4) (Q:Za0) (E:Za0),tn i s.heap->Q (.ref it) s->wpAny (model P w) A (pyIter (.ref it)) Q E s
abbrev TI:=St->Hp->(It->Hp->Prop)->Prop
def PIE (X:Cx)(pins:Za1)(G:St)(tg:ie)(R:It->Hp->Prop)(itv:d3)(s2:d4):Prop:=
 ∃(it:dk) (fp:List dk) (tn:Nat->i8->Prop) (J:It) (H':Hp),itv=.ref it/\Inv X pins G H' s2/\Oh X.prog X.w X.K tg J fp it tn/\tn 0 s2.heap/\(∀b∈fp,J9 X pins H' b)/\R J H'
def PI (X:Cx)(tg iter:ie)(wi:TI):Prop:=
 ∀(pins:Za1) (s:d4) (G:St) (H:Hp) (R:It->Hp->Prop),Inv X pins G H s->wi G H R ->
  wpAny (model X.prog X.w) X.A (eval iter X.env) (λv s1=>wpAny (model X.prog X.w) X.A (pyIter v) (PIE X pins G tg R) X.xe s1) X.xe s
theorem gK {E:Za0}{u:d3}{o:Obj}{n:String}{vs:Array d3}{Q:Unit->d4->Prop}(ho:s.heap.get? it=some o)(hc:o.cls=.type n)(hd:o.data=.fields vs)
    (hn : ["enumerate", "zip", "dict_itemiterator", "dict_reverseitemiterator", "odict_iterator", "itertools.zip_longest", "itertools.pairwise"].contains n = false)(hQ : Q () s) : wpAny M A (letOwnedTupleGo tg (.ref it) u) Q E s := by
  unfold letOwnedTupleGo;cases tg <;> first
    | exact dw hQ
    | (cases u <;> first
        | exact dw hQ
        | (refine wpAny_bind (wpAny_load ho ?_)
           rw [hc, hd];show wpAny M A (if (["enumerate", "zip", "dict_itemiterator", "dict_reverseitemiterator", "odict_iterator", "itertools.zip_longest", "itertools.pairwise"].contains n && vs[0]? == some (rawInt _)) = true then _ else _) Q E s;rw [if_neg (by intro h; rw [hn, EH] at h; cases h)];exact dw hQ))
def Itl (K:de)(a:dk):It:=
 ⟨λi H=>∃xs x,SqL K H a xs/\xs[i]?=some x,λi H x H'=>H'=H/\∀xs,SqL K H a xs->xs[i]?=some x,λi H=>∃xs,SqL K H a xs/\xs.length<=i⟩
def Itt (K:de)(a:dk):It:=
 ⟨λi H=>∃xs x,SqT K H a xs/\xs[i]?=some x,λi H x H'=>H'=H/\∀xs,SqT K H a xs->xs[i]?=some x,λi H=>∃xs,SqT K H a xs/\xs.length<=i⟩
def Itr (lo:Int)(n:Nat):It:=⟨λi _=>i<n,λi H x H'=>H'=H/\x=.int (lo+i),λi _=>n<=i⟩
theorem jA {P:fh}{K:de}(a it:dk):Oh P w K tg (Itl K a) [it] it (λi h=>h.IsListIter it a i) where
 mem:=by simp
 obj:=λi h st b hb=>by
  have e:b=it:=by simpa using hb
  subst e;obtain⟨o,e,c,d⟩:=st;exact⟨o,e,λv z=>by rw[d] at z;cases z⟩
 keep:=λi h h' st k=>st.at λo e=>k it (by simp) o e
 item:=by
  intro X hP hw hK hc i pins s G H E I hf st hg;subst hP hw hK;obtain⟨xs,x,hq,hx⟩:=hg;obtain⟨its,rv,p,hz⟩:=I.list hq;obtain⟨u,hu,ru⟩:=rv.get hx;obtain⟨f0,f1,f2,f3,f4,f5⟩:=hf it (by simp);refine wpAny_pyNext_list_item st p.isList (x:=u) (by simpa using hu) λh' st' sb=>?_;have I1:Inv X pins G H { s with heap:=h' }:=I.turned (t':=s.toks) (λb o hb e=>(sb.2 b hb).trans e) f0 f1 f3 f4 f5;obtain⟨o,e,c,d⟩:=id st';exact⟨u,rfl,gK (s:={ s with heap:=h' }) e c d (by decide) ⟨x,H,I1,ru,⟨rfl,λys hy=>by rw[I.list_inj hy hq];exact hx⟩,st',λb hb=>(hf b hb).1⟩⟩
 done:=by
  intro X hP hw hK hc i pins s G H E I hf st hg;subst hP hw hK;obtain⟨xs,hq,hx⟩:=hg;obtain⟨its,rv,p,hz⟩:=I.list hq;obtain⟨f0,f1,f2,f3,f4,f5⟩:=hf it (by simp);have hl:=rv.length;exact wpAny_pyNext_list_end (I.ok.hd hc) st p.isList (by simp;lia) λh' eb=>⟨rfl,I.turned (t':=s.toks) (λb o hb e=>eb b o hb e) f0 f1 f3 f4 f5⟩
 self:=λ_ _ _ _ _ st h=>wpAny_pyIter_listiter st h
theorem cO {P:fh}{K:de}(a it:dk):Oh P w K tg (Itt K a) [it] it (λi h=>h.IsTupleIter it a i) where
 mem:=by simp
 obj:=λi h st b hb=>by
  have e:b=it:=by simpa using hb
  subst e;obtain⟨o,e,c,d⟩:=st;exact⟨o,e,λv z=>by rw[d] at z;cases z⟩
 keep:=λi h h' st k=>st.at λo e=>k it (by simp) o e
 item:=by
  intro X hP hw hK hc i pins s G H E I hf st hg;subst hP hw hK;obtain⟨xs,x,hq,hx⟩:=hg;obtain⟨its,rv,p,hz⟩:=I.tuple hq;obtain⟨u,hu,ru⟩:=rv.get hx;obtain⟨f0,f1,f2,f3,f4,f5⟩:=hf it (by simp);refine wpAny_pyNext_tuple_item st (show s.heap.IsTuple a its.toArray from p) (x:=u) (by simpa using hu) λh' st' sb=>?_;have I1:Inv X pins G H { s with heap:=h' }:=I.turned (t':=s.toks) (λb o hb e=>(sb.2 b hb).trans e) f0 f1 f3 f4 f5;obtain⟨o,e,c,d⟩:=id st';exact⟨u,rfl,gK (s:={ s with heap:=h' }) e c d (by decide) ⟨x,H,I1,ru,⟨rfl,λys hy=>by rw[I.tuple_inj hy hq];exact hx⟩,st',λb hb=>(hf b hb).1⟩⟩
 done:=by
  intro X hP hw hK hc i pins s G H E I hf st hg;subst hP hw hK;obtain⟨xs,hq,hx⟩:=hg;obtain⟨its,rv,p,hz⟩:=I.tuple hq;obtain⟨f0,f1,f2,f3,f4,f5⟩:=hf it (by simp);have hl:=rv.length;exact wpAny_pyNext_tuple_end (I.ok.hd hc) st (show s.heap.IsTuple a its.toArray from p) (by simp;lia) λh' eb=>⟨rfl,I.turned (t':=s.toks) (λb o hb e=>eb b o hb e) f0 f1 f3 f4 f5⟩
 self:=λ_ _ _ _ _ st h=>wpAny_pyIter_tupleiter st h
theorem Z1 {P:fh}{K:de}(it:dk)(lo:Int)(n:Nat):Oh P w K tg (Itr lo n) [it] it (λi h=>vb h it (lo+(i:Nat)*1) ((n:Int)-(i:Nat)) 1) where
 mem:=by simp
 obj:=λi h st b hb=>by
  have e:b=it:=by simpa using hb
  subst e;exact⟨_,st,λv z=>by
   have z':BH _=yh v:=z;cases z'⟩
 keep:=λi h h' st k=>k it (by simp) _ st
 item:=by
  intro X hP hw hK hc i pins s G H E I hf st hg;subst hP hw hK;obtain⟨f0,f1,f2,f3,f4,f5⟩:=hf it (by simp);have W:=EU (prog:=X.prog) (w:=X.w) (I.ok.hd hc) it lo 1 n;refine W.item i s _ _ hg st λv h' tk hv st' kk=>?_;obtain⟨t,rfl⟩:=hv;have I1:Inv X pins G H { s with heap:=h',toks:=tk }:=I.turned (λb o hb e=>kk b o (by simpa using hb) e) f0 f1 f3 f4 f5;refine⟨_,rfl,gK (s:={ s with heap:=h',toks:=tk }) (n:="range_iterator") st' rfl rfl (by decide) ⟨.int (lo+i),H,I1,⟨t,?_⟩,⟨rfl,rfl⟩,st',λb hb=>(hf b hb).1⟩⟩;rw[Int.mul_one]
 done:=by
  intro X hP hw hK hc i pins s G H E I hf st hg;subst hP hw hK;obtain⟨f0,f1,f2,f3,f4,f5⟩:=hf it (by simp);exact CI (I.ok.hd hc) st (by have:n<=i:=hg;lia) λh' eb=>⟨rfl,I.turned (t':=s.toks) (λb o hb e=>eb b o hb e) f0 f1 f3 f4 f5⟩
 self:=λ_ _ _ _ _ st h=>v9 st h
section
variable {X:Cx} {tg:ie}
def jO (K:de)(tl:TE):TI:=λG H R=>tl G H λx H1=>∃a,x=.ref a/\(∃xs,SqL K H1 a xs)/\R (Itl K a) H1
def yG (K:de)(tl:TE):TI:=λG H R=>tl G H λx H1=>∃a,x=.ref a/\(∃xs,SqT K H1 a xs)/\R (Itt K a) H1
theorem Cn {l:ie}{tl:TE}(hl:PE X l tl):PI X tg l (jO X.K tl):=by
 intro pins s G H R I h;refine thE hl I h λv s1 x H1 I1 r1 q1=>?_;obtain⟨a,e,⟨xs,hq⟩,q⟩:=q1;subst e;cases r1;obtain⟨its,rv,p,hz⟩:=I1.list hq;refine wpAny_pyIter_list p.isList ?_;refine⟨s1.heap.objs.size,[s1.heap.objs.size],_,_,H1,rfl,I1.kept (t':=s1.toks) λb o e=>dj _ e,jA a _,⟨_,fu _ rfl,rfl,rfl⟩,λb hb=>?_,q⟩;have e:b=s1.heap.objs.size:=by simpa using hb
 subst e;exact I1.fpOk (dh _) (I1.hok.fresh (dh _))
theorem vR {l:ie}{tl:TE}(hl:PE X l tl):PI X tg l (yG X.K tl):=by
 intro pins s G H R I h;refine thE hl I h λv s1 x H1 I1 r1 q1=>?_;obtain⟨a,e,⟨xs,hq⟩,q⟩:=q1;subst e;cases r1;obtain⟨its,rv,p,hz⟩:=I1.tuple hq;refine wpAny_pyIter_tuple (show s1.heap.IsTuple a its.toArray from p) ?_;refine⟨s1.heap.objs.size,[s1.heap.objs.size],_,_,H1,rfl,I1.kept (t':=s1.toks) λb o e=>dj _ e,cO a _,⟨_,fu _ rfl,rfl,rfl⟩,λb hb=>?_,q⟩;have e:b=s1.heap.objs.size:=by simpa using hb
 subst e;exact I1.fpOk (dh _) (I1.hok.fresh (dh _))
theorem Y9 {G:St}{R:It->Hp->Prop}{E:Za0}{lo hi:Int}{t u v:Tok}{tk:Nat}(I:Inv X pins G H s)(h1:-(2 ^ 62)<=lo)(h2:lo<2 ^ 62)(h3:-(2 ^ 62)<=hi)(h4:hi<2 ^ 62)
  (q:R (Itr lo (hi-lo).toNat) H):wpAny (model X.prog X.w) X.A (pyIter (.ref s.heap.objs.size)) (PIE X pins G tg R) E { s with heap:=s.heap.push { cls:=.type "range",data:=.fields #[.int lo t,.int hi u,.int 1 v] },toks:=tk }:=by
 refine yk (vj ..) (FG h1 h2 h3 h4) ?_;have I1:Inv X pins G H { s with heap:=s.heap.push { cls:=.type "range",data:=.fields #[.int lo t,.int hi u,.int 1 v] },toks:=tk }:=I.kept λb o e=>dj _ e;refine⟨(s.heap.push { cls:=.type "range",data:=.fields #[.int lo t,.int hi u,.int 1 v] }).objs.size,[(s.heap.push { cls:=.type "range",data:=.fields #[.int lo t,.int hi u,.int 1 v] }).objs.size],_,_,H,rfl,
  I1.kept (t':=tk) λb o e=>dj _ e,Z1 _ lo (hi-lo).toNat,?_,λb hb=>?_,q⟩
 ·have e1:lo+((0:Nat):Int)*1=lo:=by simp
  have e2:(((hi-lo).toNat:Nat):Int)-((0:Nat):Int)=ja lo hi 1:=by rw[ya];split<;>lia
  show vb _ _ (lo+((0:Nat):Int)*1) ((((hi-lo).toNat:Nat):Int)-((0:Nat):Int)) 1;rw[e1,e2];exact fu _ rfl
 ·have e:b=(s.heap.push { cls:=.type "range",data:=.fields #[.int lo t,.int hi u,.int 1 v] }).objs.size:=by simpa using hb
  subst e;exact I1.fpOk (dh _) (I1.hok.fresh (dh _))
def uW (ta:TA):TI:=λG H R=>ta G H λvs H1=>∃j:Int,vs=[.int j]/\-(2 ^ 62)<=j/\j<2 ^ 62/\R (Itr 0 j.toNat) H1
def tX (ta:TA):TI:=λG H R=>ta G H λvs H1=>∃i j:Int,vs=[.int i,.int j]/\(-(2 ^ 62)<=i/\i<2 ^ 62/\-(2 ^ 62)<=j/\j<2 ^ 62)/\R (Itr i (j-i).toNat) H1
theorem D0 {a:ie}{ta:TA}(hg:Gl X "range")(hm:X.mg "range"=none)(ha:PA X [a] ta)(hs:autoParam (starEach [a] X.env=[(false,eval a X.env)]) QD):PI X tg (.Call (.Name "range" p) [a] [] pos) (uW ta):=by
 intro pins s G H R I h;refine Call_ (Df I hg hm boot_range (gn (thA ha I h λus s1 vs H1 I1 r1 q1=>?_) hs rfl));obtain⟨j,e,q1,q2,q⟩:=q1;subst e
 cases r1 with
 |cons r rr=>
  cases rr;obtain⟨t,rfl⟩:=r;exact y4 (Y9 I1 (by lia) (by lia) q1 q2 (by simpa using q))
theorem gZ {a b:ie}{ta:TA}(hg:Gl X "range")(hm:X.mg "range"=none)(ha:PA X [a,b] ta)(hs:autoParam (starEach [a,b] X.env=[(false,eval a X.env),(false,eval b X.env)]) QD)(hs2:autoParam (starEach [b] X.env=[(false,eval b X.env)]) QD) :
  PI X tg (.Call (.Name "range" p) [a,b] [] pos) (tX ta):=by
 intro pins s G H R I h;refine Call_ (Df I hg hm boot_range (gn (thA ha I h λus s1 vs H1 I1 r1 q1=>?_) (by rw[hs,hs2]) (by rw[hs2];rfl)));obtain⟨i,j,e,⟨q1,q2,q3,q4⟩,q⟩:=q1;subst e
 cases r1 with
 |cons r rr=>
  cases rr with
  |cons r' rr=>
   cases rr;obtain⟨t,rfl⟩:=r;obtain⟨t',rfl⟩:=r';exact call_range_2 (Y9 I1 q1 q2 q3 q4 q)
def zO (wi:TI)(g:TG)(tb:TS):TS:=λD G H=>wi G H λJ H1=>∃W:Nat->Nat->St->Hp->Prop,(∃m,W 0 m G H1)/\∀i m G H,W i m G H ->
 (J.stop i H/\D.nx G H)\/(J.go i H/\∃N:St->Hp->Prop,(∀mt H',N mt H'->∃m',m'<m/\W (i+1) m' mt H')/\∀x H',J.yld i H x H'->g x G H' λQP H2=>tb { D with nx:=N,ct:=N,bk:=D.nx } QP H2)
def Ma (fp:List dk)(h:i8):Za1:=fp.filterMap λb=>(h.get? b).map λo=>(b,o)
theorem Du {b:dk}{o:Obj}(hb:b∈fp)(e:h.get? b=some o):(b,o)∈Ma fp h:=w8.mpr ⟨b,hb,by rw[e];rfl⟩
theorem gT {p:dk×Obj}(hp:p∈Ma fp h):p.1∈fp/\h.get? p.1=some p.2:=by
 obtain⟨b,hb,e⟩:=w8.mp hp
 cases q:h.get? b with
 |none=>rw[q] at e;cases e
 |some o=>
  rw[q] at e;have e':(b,o)=p:=dr e;subst e';exact⟨hb,q⟩
theorem Inv.pinned {G:St}(I:Inv X pins G H s)(hf:∀b∈fp,J9 X pins H b)(ho:∀b∈fp,∃o,s.heap.get? b=some o/\∀v,o.data≠.cell v):Inv X (pins++Ma fp s.heap) G H s:=
 I.pins_of λp hp=>(gj.mp hp).elim (λz=>I.pin p (e6 _ z)) λz=>by
  obtain⟨hb,e⟩:=gT z;obtain⟨f0,f1,f2,_⟩:=hf p.1 hb;obtain⟨o,e',d⟩:=ho p.1 hb;rw[e] at e';cases e';exact⟨e,f0,f1,f2,d⟩
theorem Inv.unpinned {pl:Za1}{G:St}(I:Inv X (pins++pl) G H s):Inv X pins G H s:=I.pins_of λp hp=>I.pin p (e6 _ (jw _ hp))
theorem Cr {body:List jc}{g:TG}{tb:TS}(hp:PassesOwn (model X.prog X.w) X.A X.env X.xe)(hc:X.calm=true)(hi:PI X tg iter wi)(hg:PG X tg g)(hb:PSs X body tb)
  (hs:autoParam (∀x,foldedSetIterable iter X.env x=pure x) QJ):PS X (.For tg iter body [] pos) (zO wi g tb):=by
 k_end;refine wpAny_For (thn (hi pins s G H _ I h) λv s1 h1=>thn h1 λitv s2 h2=>?_) hs;obtain⟨it,fp,tn,J,H2,e,I2,T,st2,f2,W,⟨m0,w0⟩,turn⟩:=h2;subst e
 -- what stays true of the iterator's objects through the loop
 have stat:∀{H':Hp},(∀b∈fp,H' b=none)->∀b∈fp,J9 X pins H' b:=λhn b hb=>⟨hn b hb,(f2 b hb).2⟩;refine codeAny_forLoop_any (λn s'=>∃i mt H',Inv X pins mt H' s'/\tn i s'.heap/\(∀b∈fp,H' b=none)/\W i n mt H') ?_ m0 ⟨0,G,H2,I2,st2,λb hb=>(f2 b hb).1,w0⟩;rintro n s3 ⟨i,QT,H3,I3,st3,fr3,w3⟩;rcases turn i n QT H3 w3 with⟨stop,qn⟩|⟨go,N,hN,step⟩
 ·refine wpAny_passesOwn hp (thn (T.done X rfl rfl rfl hc i pins s3 QT H3 X.xe I3 (stat fr3) st3 stop) λr s4 ⟨hr,I4⟩=>?_)
  subst hr;exact wk ⟨QT,H3,I4,qn⟩
 ·refine wpAny_passesOwn hp (thn (T.item X rfl rfl rfl hc i pins s3 QT H3 X.xe I3 (stat fr3) st3 go) λr s4 ⟨u,hr,h4⟩=>?_)
  subst hr;refine wpAny_passesOwn hp (thn h4 λ_ s5 ⟨x,H5,I5,r5,y5,st5,fr5⟩=>?_);have I5':=I5.pinned (stat fr5) (T.obj _ _ st5);refine wpAny_passesOwn hp (thn (hg _ s5 QT H5 x u _ I5' r5 (step x H5 y5)) λ_ s6 ⟨σ6,H6,I6,q6⟩=>?_);refine wpAny_passesOwn hp (thn (hb _ s6 σ6 H6 _ I6 q6) λf s7 q7=>?_);have again:∀{QU:St} {H7:Hp},Inv X (pins++Ma fp s5.heap) QU H7 s7->N QU H7->∃m,m<n/\∃i mt H',Inv X pins mt H' s7/\tn i s7.heap/\(∀b∈fp,H' b=none)/\W i m mt H':=λ{QU H7} I7 n7=>by
   obtain⟨m',hm,w7⟩:=hN QU H7 n7;refine⟨m',hm,i+1,QU,H7,I7.unpinned,T.keep _ _ _ st5 λb hb o e=>(I7.pin (b,o) (e6 _ (e6 _ (Du hb e)))).1,λb hb=>?_,w7⟩;obtain⟨o,e,d⟩:=T.obj _ _ st5 b hb;exact(I7.pin (b,o) (e6 _ (e6 _ (Du hb e)))).2.1
  cases f with
  |next=>obtain⟨QU,H7,I7,n7⟩:=q7;exact again I7 n7
  |cont=>obtain⟨QU,H7,I7,n7⟩:=q7;exact again I7 n7
  |brk=>obtain⟨QU,H7,I7,q7⟩:=q7;exact⟨QU,H7,I7.unpinned,q7⟩
  |ret v=>obtain⟨x7,QU,H7,I7,r7,q7⟩:=q7;exact⟨x7,QU,H7,I7.unpinned,r7,q7⟩
end
theorem Ev {K:de}{a:dk}{g:TG}{tb:TS}{G:St}(Pv:Nat->St->Hp->Prop)(h0:Pv 0 G H)(hl:∀i G H,i<=xs.length->Pv i G H->SqL K H a xs)
  (hs:∀i x G H,xs[i]?=some x->Pv i G H->g x G H λQP H2=>tb { D with nx:=Pv (i+1),ct:=Pv (i+1),bk:=D.nx } QP H2)(hd:∀G H,Pv xs.length G H->D.nx G H) :
  ∃W:Nat->Nat->St->Hp->Prop,(∃m,W 0 m G H)/\∀i m G H,W i m G H ->
   ((Itl K a).stop i H/\D.nx G H)\/((Itl K a).go i H/\∃N:St->Hp->Prop,(∀mt H',N mt H'->∃m',m'<m/\W (i+1) m' mt H')/\∀x H',(Itl K a).yld i H x H'->g x G H' λQP H2=>tb { D with nx:=N,ct:=N,bk:=D.nx } QP H2):=by
 refine⟨λi m G H=>m=xs.length-i/\i<=xs.length/\Pv i G H,⟨xs.length,by simp,f7 _,h0⟩,?_⟩;rintro i m G H ⟨rfl,hi,p⟩;have q:=hl i G H hi p
 by_cases hlt:i<xs.length
 ·refine .inr ⟨⟨xs,xs[i],q,by simp[hlt]⟩,Pv (i+1),λmt H' p'=>⟨xs.length-(i+1),by lia,rfl,hlt,p'⟩,λx H' y=>?_⟩
  obtain⟨e,y⟩:=y;subst e;exact hs i x G _ (y xs q) p
 ·have e:i=xs.length:=by lia
  subst e;exact .inl ⟨⟨xs,q,dh _⟩,hd G H p⟩
theorem Hu {lo:Int}{g:TG}{tb:TS}{G:St}(Pv:Nat->St->Hp->Prop)(h0:Pv 0 G H)
  (hs:∀i G H,i<n->Pv i G H->g (.int (lo+i)) G H λQP H2=>tb { D with nx:=Pv (i+1),ct:=Pv (i+1),bk:=D.nx } QP H2)(hd:∀G H,Pv n G H->D.nx G H) :
  ∃W:Nat->Nat->St->Hp->Prop,(∃m,W 0 m G H)/\∀i m G H,W i m G H ->
   ((Itr lo n).stop i H/\D.nx G H)\/((Itr lo n).go i H/\∃N:St->Hp->Prop,(∀mt H',N mt H'->∃m',m'<m/\W (i+1) m' mt H')/\∀x H',(Itr lo n).yld i H x H'->g x G H' λQP H2=>tb { D with nx:=N,ct:=N,bk:=D.nx } QP H2):=by
 refine⟨λi m G H=>m=n-i/\i<=n/\Pv i G H,⟨n,by simp,f7 _,h0⟩,?_⟩;rintro i m G H ⟨rfl,hi,p⟩
 by_cases hlt:i<n
 ·refine .inr ⟨hlt,Pv (i+1),λmt H' p'=>⟨n-(i+1),by lia,rfl,hlt,p'⟩,λx H' y=>?_⟩
  obtain⟨e,y⟩:=y;subst e y;exact hs i G _ hlt p
 ·have e:i=n:=by lia
  subst e;exact .inl ⟨dh _,hd G H p⟩
abbrev R2:=V->V->Hp->VK->Prop
def OpR (X:Cx)(f:d3->d3->Sem d3)(r:R2):Prop:=
 ∀(pins:Za1) (s:d4) (G:St) (H:Hp) (x y:V) (v u:d3) (Q:VK),Inv X pins G H s->A5 x v->A5 y u->r x y H Q ->
  wpAny (model X.prog X.w) X.A (f v u) (EP X pins G Q) X.xe s
def UnR (X:Cx)(f:d3->Sem d3)(r:V->Hp->VK->Prop):Prop:=
 ∀(pins:Za1) (s:d4) (G:St) (H:Hp) (x:V) (v:d3) (Q:VK),Inv X pins G H s->A5 x v->r x H Q ->
  wpAny (model X.prog X.w) X.A (f v) (EP X pins G Q) X.xe s
def E9 (X:Cx)(f:d3)(r:List V->Hp->VK->Prop):Prop:=
 ∀(pins:Za1) (s:d4) (G:St) (H:Hp) (xs:List V) (us:Za3) (Q:VK),Inv X pins G H s->Au xs us->r xs H Q ->
  wpAny (model X.prog X.w) X.A (call f us) (EP X pins G Q) X.xe s
def tOp (r:R2)(ta tb:TE):TE:=λG H Q=>ta G H λx H1=>tb G H1 λy H2=>r x y H2 Q
def tUn (r:V->Hp->VK->Prop)(ta:TE):TE:=λG H Q=>ta G H λx H1=>r x H1 Q
def rI (C:Int->Int->Prop)(g:Int->Int->V):R2:=λx y H Q=>∃i j,x=.int i/\y=.int j/\C i j/\Q (g i j) H
def rI0 (g:Int->Int->V):R2:=λx y H Q=>∃i j,x=.int i/\y=.int j/\Q (g i j) H
def rU (g:Int->V):V->Hp->VK->Prop:=λx H Q=>∃i,x=.int i/\Q (g i) H
section
variable {X:Cx} {a b c:ie} {ta tb tc:TE} {pos:Pos}
theorem xU (ha:PE X a ta)(hb:PE X b tb){G:St}{R:V->V->Hp->Prop}(I:Inv X pins G H s)
  (h:ta G H λx H1=>tb G H1 λy H2=>R x y H2){Q:Za0}{f:d3->d3->Sem d3}
  (hf:∀v u s2 x y H2,Inv X pins G H2 s2->A5 x v->A5 y u->R x y H2->wpAny (model X.prog X.w) X.A (f v u) Q X.xe s2) :
  wpAny (model X.prog X.w) X.A (eval a X.env) (λv QM=>wpAny (model X.prog X.w) X.A (eval b X.env) (λu QW=>wpAny (model X.prog X.w) X.A (f v u) Q X.xe QW) X.xe QM) X.xe s:=by
 refine thE ha I h λv s1 x H1 I1 r1 q1=>?_;refine thE hb I1 q1 λu s2 y H2 I2 r2 q2=>?_;exact hf v u s2 x y H2 I2 r1 r2 q2
theorem Ah {op:AT}{r:R2}(ho:OpR X (binaryOp op) r)(ha:PE X a ta)(hb:PE X b tb):PE X (.BinOp a op b pos) (tOp r ta tb):=by
 k_in;exact wpAny_BinOp (xU ha hb I h λv u s2 x y H2 I2 rx ry q=>ho pins s2 G H2 x y v u Q I2 rx ry q)
theorem Fq {op:UnaryOp}{r:V->Hp->VK->Prop}(ho:UnR X (unaryOp op) r)(ha:PE X a ta):PE X (.UnaryOp op a pos) (tUn r ta):=by
 k_in;exact UnaryOp_ (thE ha I h λv s1 x H1 I1 r1 q1=>ho pins s1 G H1 x v Q I1 r1 q1)
theorem opI {f:d3->d3->Sem d3}{C:Int->Int->Prop}{g:Int->Int->Int}
  (rule:∀(i j:Int) (t u:Tok) (s:d4) (Q:Za0) (E:Za0),C i j->Q (.int (g i j) s.toks) { s with toks:=s.toks+1 }->wpAny (model X.prog X.w) X.A (f (.int i t) (.int j u)) Q E s) :
  OpR X f (rI C λi j=>.int (g i j)):=by
 intro pins s G H x y v u Q I rx ry h;obtain⟨i,j,rfl,rfl,hc,q⟩:=h;obtain⟨t,rfl⟩:=rx;obtain⟨t',rfl⟩:=ry;exact rule i j t t' s _ _ hc ⟨.int (g i j),H,I.tok _,⟨_,rfl⟩,q⟩
theorem rR {f:d3->d3->Sem d3}{g:Int->Int->Int}
  (rule:∀(i j:Int) (t u:Tok) (s:d4) (Q:Za0) (E:Za0),Q (.int (g i j) s.toks) { s with toks:=s.toks+1 }->wpAny (model X.prog X.w) X.A (f (.int i t) (.int j u)) Q E s) :
  OpR X f (rI0 λi j=>.int (g i j)):=by
 intro pins s G H x y v u Q I rx ry h;obtain⟨i,j,rfl,rfl,q⟩:=h;obtain⟨t,rfl⟩:=rx;obtain⟨t',rfl⟩:=ry;exact rule i j t t' s _ _ ⟨.int (g i j),H,I.tok _,⟨_,rfl⟩,q⟩
theorem qO {f:d3->d3->Sem d3}{g:Int->Int->Bool}
  (rule:∀(i j:Int) (t u:Tok) (s:d4) (Q:Za0) (E:Za0),Q (.bool (g i j)) s->wpAny (model X.prog X.w) X.A (f (.int i t) (.int j u)) Q E s) :
  OpR X f (rI0 λi j=>.bl (g i j)):=by
 intro pins s G H x y v u Q I rx ry h;obtain⟨i,j,rfl,rfl,q⟩:=h;obtain⟨t,rfl⟩:=rx;obtain⟨t',rfl⟩:=ry;exact rule i j t t' s _ _ ⟨.bl (g i j),H,I,rfl,q⟩
def Aao (i j:Int):Prop:=0<j/\j<1073741824
def Ab2 (i j:Int):Prop:=0<=j/\j<=1000000/\i.natAbs<2 ^ 64
def kE (i j:Int):Prop:=(-(2 ^ 64)<i/\i<2 ^ 64)\/(-(2 ^ 64)<j/\j<2 ^ 64)
theorem kE.ok {i j:Int}(h:kE i j):IntMulOk i j:=by
 rcases h with⟨h1,h2⟩|⟨h1,h2⟩
 ·exact .of_left (HY h1 h2)
 ·exact .of_right (HY h1 h2)
theorem P7 (k:Nat):(0:Int)<=2 ^ k:=by
 rw[two_pow_cast];exact lx _
theorem At:OpR X (binaryOp .Add) (rI0 λi j=>.int (i+j)):=rR λ_ _ _ _ _ _ _ q=>add_int q
theorem Dl:OpR X (binaryOp .Sub) (rI0 λi j=>.int (i-j)):=rR λ_ _ _ _ _ _ _ q=>sub_int q
theorem L4:OpR X (binaryOp .Mult) (rI kE λi j=>.int (i*j)):=opI λ_ _ _ _ _ _ _ hc q=>mul_int q hc.ok
theorem Dy:OpR X (binaryOp .FloorDiv) (rI Aao λi j=>.int (i/j)):=opI λi j _ _ _ _ _ hc q=>by
 have h1:(0:Int)<j:=hc.1;have h2:j<1073741824:=hc.2;exact floordiv_int (by lia) (by rw[tq i (by lia)];exact q) (.inl (uk (by lia)))
theorem Cu:OpR X (binaryOp .Mod) (rI (λ_ j=>0<j) λi j=>.int (i%j)):=opI λi j _ _ _ _ _ hc q=>by
 have h1:(0:Int)<j:=hc;exact mod_int' (by lia) (by rw[Int.fmod_eq_emod_of_nonneg i (by lia)];exact q)
theorem dH:OpR X (binaryOp .Pow) (rI Ab2 λi j=>.int (i ^ j.toNat)):=opI λ_ _ _ _ _ _ _ hc q=>pow_int_small hc.1 hc.2.1 hc.2.2 q
theorem vC:OpR X (binaryOp .RShift) (rI (λ_ j=>0<=j) λi j=>.int (i/2 ^ j.toNat)):=opI λi j _ _ _ _ _ hc q=>
 rshift_int hc (by rw[tq i (P7 _)];exact q)
theorem Ws:OpR X (binaryOp .BitAnd) (rI0 λi j=>.int (nj i j)):=rR λ_ _ _ _ _ _ _ q=>and_int q
theorem Zn:OpR X (binaryOp .BitXor) (rI0 λi j=>.int (vm i j)):=rR λ_ _ _ _ _ _ _ q=>xor_int q
theorem fU:OpR X (inplaceOp .RShift) (rI (λ_ j=>0<=j) λi j=>.int (i/2 ^ j.toNat)):=opI λi j _ _ _ _ _ hc q=>
 irshift_int hc (by rw[tq i (P7 _)];exact q)
theorem unI {f:d3->Sem d3}{g:Int->Int}
  (rule:∀(i:Int) (t:Tok) (s:d4) (Q:Za0) (E:Za0),Q (.int (g i) s.toks) { s with toks:=s.toks+1 }->wpAny (model X.prog X.w) X.A (f (.int i t)) Q E s) :
  UnR X f (rU λi=>.int (g i)):=by
 intro pins s G H x v Q I rx h;obtain⟨i,rfl,q⟩:=h;obtain⟨t,rfl⟩:=rx;exact rule i t s _ _ ⟨.int (g i),H,I.tok _,⟨_,rfl⟩,q⟩
theorem Dx:UnR X (unaryOp .USub) (rU λi=>.int (-i)):=unI λ_ _ _ _ _ q=>neg_int q
end
def nI:V->V->Bool
 |.non,.non=>true|.non,.int _=>true|.int _,.non=>true|.non,.bl _=>true|.bl _,.non=>true|.non,.str _=>true|.str _,.non=>true
 |.int _,.int _=>true|.bl _,.bl _=>true|.str _,.str _=>true|.byt _,.byt _=>true
 |.int _,.str _=>true|.str _,.int _=>true|.bl _,.str _=>true|.str _,.bl _=>true
 |_,_=>false
def rEq:R2:=λx y H Q=>nI x y=true/\Q (.bl (decide (x=y))) H
def rNe:R2:=λx y H Q=>nI x y=true/\Q (.bl (!decide (x=y))) H
theorem eC {i j:Int}:decide (V.int i=V.int j)=(i==j):=by
 rw[vn];simp
theorem oK {i j:Bool}:decide (V.bl i=V.bl j)=(i==j):=by
 rw[vn];simp
theorem dX {i j:Str}:decide (V.str i=V.str j)=(i==j):=by
 rw[vn];simp
theorem dS {i j:Array UInt8}:decide (V.byt i=V.byt j)=(i.toList==j.toList):=by
 rw[vn];cases i;cases j;simp
section
variable {X:Cx} {a b c:ie} {ta tb tc:TE} {pos:Pos}
theorem Bl {G:St}{Q:VK}{k k':Bool}(I:Inv X pins G H s)(q:Q (.bl k) H)(e:k=k'):EP X pins G Q (.bool k') s:=by
 subst e;exact⟨.bl k,H,I,rfl,q⟩
theorem Fs:OpR X (compareOp .Eq) rEq:=by
 intro pins s G H x y v u Q I rx ry h;obtain⟨hs,q⟩:=h
 cases x with
 |non=>
  cases rx
  cases y with
  |non=>cases ry;exact GS (Bl I q (by simp))
  |bl j=>cases ry;exact GU (Bl I q (by simp))
  |int j=>obtain⟨t',rfl⟩:=ry;exact GT (Bl I q (by simp))
  |str j=>obtain⟨t',rfl⟩:=ry;exact GR (Bl I q (by simp))
  |_=>exact absurd (show false=true from hs) fk
 |bl i=>
  cases rx
  cases y with
  |non=>cases ry;exact GW (Bl I q (by simp))
  |bl j=>cases ry;exact eq_bool (Bl I q oK)
  |str j=>obtain⟨t',rfl⟩:=ry;exact FP (Bl I q (by simp))
  |_=>exact absurd (show false=true from hs) fk
 |int i=>
  obtain⟨t,rfl⟩:=rx
  cases y with
  |non=>cases ry;exact GV (Bl I q (by simp))
  |int j=>obtain⟨t',rfl⟩:=ry;exact eq_int (Bl I q eC)
  |str j=>obtain⟨t',rfl⟩:=ry;exact FO (Bl I q (by simp))
  |_=>exact absurd (show false=true from hs) fk
 |str i=>
  obtain⟨t,rfl⟩:=rx
  cases y with
  |non=>cases ry;exact GQ (Bl I q (by simp))
  |bl j=>cases ry;exact FN (Bl I q (by simp))
  |int j=>obtain⟨t',rfl⟩:=ry;exact FM (Bl I q (by simp))
  |str j=>obtain⟨t',rfl⟩:=ry;exact eq_str (Bl I q dX)
  |_=>exact absurd (show false=true from hs) fk
 |byt i=>
  obtain⟨t,rfl⟩:=rx
  cases y with
  |byt j=>obtain⟨t',rfl⟩:=ry;exact PySem.W.eq_bytes (Bl I q dS)
  |_=>exact absurd (show false=true from hs) fk
 |_=>cases y<;>exact absurd (show false=true from hs) fk
theorem eZ:OpR X (compareOp .NotEq) rNe:=by
 intro pins s G H x y v u Q I rx ry h;obtain⟨hs,q⟩:=h
 cases x with
 |non=>
  cases rx
  cases y with
  |non=>cases ry;exact GL (Bl I q (by simp))
  |bl j=>cases ry;exact GN (Bl I q (by simp))
  |int j=>obtain⟨t',rfl⟩:=ry;exact GM (Bl I q (by simp))
  |str j=>obtain⟨t',rfl⟩:=ry;exact GK (Bl I q (by simp))
  |_=>exact absurd (show false=true from hs) fk
 |bl i=>
  cases rx
  cases y with
  |non=>cases ry;exact GP (Bl I q (by simp))
  |bl j=>cases ry;exact ne_bool (Bl I q (congrArg not oK))
  |str j=>obtain⟨t',rfl⟩:=ry;exact FL (Bl I q (by simp))
  |_=>exact absurd (show false=true from hs) fk
 |int i=>
  obtain⟨t,rfl⟩:=rx
  cases y with
  |non=>cases ry;exact GO (Bl I q (by simp))
  |int j=>obtain⟨t',rfl⟩:=ry;exact ne_int (Bl I q (congrArg not eC))
  |str j=>obtain⟨t',rfl⟩:=ry;exact FK (Bl I q (by simp))
  |_=>exact absurd (show false=true from hs) fk
 |str i=>
  obtain⟨t,rfl⟩:=rx
  cases y with
  |non=>cases ry;exact GJ (Bl I q (by simp))
  |bl j=>cases ry;exact FJ (Bl I q (by simp))
  |int j=>obtain⟨t',rfl⟩:=ry;exact FI (Bl I q (by simp))
  |str j=>obtain⟨t',rfl⟩:=ry;exact ne_str (Bl I q (congrArg not dX))
  |_=>exact absurd (show false=true from hs) fk
 |byt i=>
  obtain⟨t,rfl⟩:=rx
  cases y with
  |byt j=>obtain⟨t',rfl⟩:=ry;exact PySem.W.ne_bytes (Bl I q (congrArg not dS))
  |_=>exact absurd (show false=true from hs) fk
 |_=>cases y<;>exact absurd (show false=true from hs) fk
theorem Kp:OpR X (compareOp .Lt) (rI0 λi j=>.bl (decide (i<j))):=qO λ_ _ _ _ _ _ _ q=>lt_int q
theorem tW:OpR X (compareOp .LtE) (rI0 λi j=>.bl (decide (i<=j))):=qO λ_ _ _ _ _ _ _ q=>le_int q
theorem Lk:OpR X (compareOp .Gt) (rI0 λi j=>.bl (decide (j<i))):=qO λ_ _ _ _ _ _ _ q=>gt_int q
theorem Zf:OpR X (compareOp .GtE) (rI0 λi j=>.bl (decide (j<=i))):=qO λ_ _ _ _ _ _ _ q=>ge_int q
theorem mP (b:ie)(h:autoParam (op≠.In) QF)(h2:autoParam (op≠.NotIn) QF):behindInMarks op b=false:=by
 have e1:(op==HU)=false:=by cases op<;>first|rfl|exact absurd rfl h
 have e2:(op==FE)=false:=by cases op<;>first|rfl|exact absurd rfl h2
 cases b<;>simp[behindInMarks,e1,e2]
theorem tE {r:R2}(ho:OpR X (compareOp op) r)(ha:PE X a ta)(hb:PE X b tb)(hm:behindInMarks op b=false):PE X (.Compare a [op] [b] pos) (tOp r ta tb):=by
 k_in;exact wpAny_Compare1 (xU ha hb I h λv u s2 x y H2 I2 rx ry q=>ho pins s2 G H2 x y v u Q I2 rx ry q) hm
def oG (t:TE):TT:=λG H Q=>t G H λx H'=>∃k,x=.bl k/\Q k H'
theorem Vn {r:R2}(ho:OpR X (compareOp op) r)(ha:PE X a ta)(hb:PE X b tb)(hm:behindInMarks op b=false):PT X (.Compare a [op] [b] pos) (oG (tOp r ta tb)):=by
 k_in;refine wpAny_isTrue_Compare1 (thE ha I h λv s1 x H1 I1 r1 q1=>thE hb I1 q1 λu s2 y H2 I2 r2 q2=>
  thn (ho pins s2 G H2 x y v u _ I2 r1 r2 q2) λc s3 ⟨z,H3,I3,r3,k,e,q3⟩=>?_) hm
 subst e;cases r3;exact np ⟨H3,I3,q3⟩
def mC (r r':R2)(ta tb tc:TE):TE:=λG H Q=>ta G H λx H1=>tb G H1 λy H2=>r x y H2 λz H3=>∃k,z=.bl k /\
 (if k=true then tc G H3 λw' H4=>r' y w' H4 Q else Q (.bl false) H3)
theorem mO {op':vw}{r r':R2}(ho:OpR X (compareOp op) r)(ho':OpR X (compareOp op') r')(ha:PE X a ta)(hb:PE X b tb)(hc:PE X c tc)
  (hm:lastMarks [op,op'] [b,c]=false:=by with_unfolding_all rfl):PE X (.Compare a [op,op'] [b,c] pos) (mC r r' ta tb tc):=by
 k_in;refine Compare_chain (thE ha I h λv s1 x H1 I1 r1 q1=>chain_link (thE hb I1 q1 λu s2 y H2 I2 r2 q2=>
  thn (ho pins s2 G H2 x y v u _ I2 r1 r2 q2) λd s3 ⟨z,H3,I3,r3,k,e,q3⟩=>?_)) hm
 subst e;cases r3;refine np ?_
 cases k with
 |false=>exact ite_ff ⟨.bl false,H3,I3,rfl,q3⟩
 |true=>exact ite_tt (chain_last (thn (hc pins s3 G H3 _ I3 q3) λw' s4 ⟨z',H4,I4,r4,q4⟩=>ho' pins s4 G H4 y z' u w' Q I4 r2 r4 q4))
theorem Kh:(sizeLine:Nat)<2 ^ 63:=by rw[DQ];decide
theorem Z4:OpR X (binaryOp .Add) (λx y H Q=>∃i j,x=.str i/\y=.str j/\i.length+j.length<=sizeLine/\Q (.str (i++j)) H):=by
 intro pins s G H x y v u Q I rx ry h;obtain⟨i,j,rfl,rfl,hz,q⟩:=h;obtain⟨t,rfl⟩:=rx;obtain⟨t',rfl⟩:=ry;exact add_str (λt' tk=>⟨.str (i++j),H,I.tok _,⟨_,rfl⟩,q⟩) hz
theorem En {x:V}(r:Au [x] us):∃u,us=[u]/\A5 x u:=by
 cases r with
 |cons r1 r2=>cases r2;exact⟨_,rfl,r1⟩
theorem Uk {x:V}(r:Au [x,y] us):∃u w',us=[u,w']/\A5 x u/\A5 y w':=by
 cases r with
 |cons r1 r2=>
  cases r2 with
  |cons r3 r4=>cases r4;exact⟨_,_,rfl,r1,r3⟩
theorem oX:E9 X (.builtin "abs") (λxs H Q=>∃i,xs=[.int i]/\Q (.int (if i<0 then -i else i)) H):=by
 intro pins s G H xs us Q I r h;obtain⟨i,rfl,q⟩:=h;obtain⟨u,rfl,t,rfl⟩:=En r;exact call_abs_int λu tk=>⟨.int (if i<0 then -i else i),H,I.tok _,⟨_,rfl⟩,q⟩
theorem Tq (hc:X.calm=true):E9 X (.builtin "max") (λxs H Q=>∃i j,xs=[.int i,.int j]/\Q (.int (if j>i then j else i)) H):=by
 intro pins s G H xs us Q I r h;obtain⟨i,j,rfl,q⟩:=h;obtain⟨u,w',rfl,⟨t,rfl⟩,⟨t',rfl⟩⟩:=Uk r;refine max_two_ints (I.ok.hd hc) λh' tk k=>⟨_,H,I.kept k,?_,q⟩
 by_cases hj:j>i
 ·rw[if_pos hj,if_pos hj];exact⟨_,rfl⟩
 ·rw[if_neg hj,if_neg hj];exact⟨_,rfl⟩
theorem Od (hc:X.calm=true):E9 X (.builtin "min") (λxs H Q=>∃i j,xs=[.int i,.int j]/\Q (.int (if j<i then j else i)) H):=by
 intro pins s G H xs us Q I r h;obtain⟨i,j,rfl,q⟩:=h;obtain⟨u,w',rfl,⟨t,rfl⟩,⟨t',rfl⟩⟩:=Uk r;refine min_two_ints (I.ok.hd hc) λh' tk k=>⟨_,H,I.kept k,?_,q⟩
 by_cases hj:j<i
 ·rw[if_pos hj,if_pos hj];exact⟨_,rfl⟩
 ·rw[if_neg hj,if_neg hj];exact⟨_,rfl⟩
theorem iX:E9 X (.type "int") (λxs H Q=>(∃i,xs=[.int i]/\Q (.int i) H)\/∃k,xs=[.bl k]/\Q (.int (if k then 1 else 0)) H):=by
 intro pins s G H xs us Q I r h;rcases h with⟨i,rfl,q⟩|⟨k,rfl,q⟩
 ·obtain⟨u,rfl,t,rfl⟩:=En r
  exact call_int_int ⟨.int i,H,I,⟨_,rfl⟩,q⟩
 ·obtain⟨u,rfl,r1⟩:=En r
  cases r1;exact call_int_bool ⟨.int (if k then 1 else 0),H,I.tok _,⟨_,rfl⟩,q⟩
end
structure cZ (h:i8) (x dx C:dk) (mA:Za2):Prop where
 obj:h.get? x=some (instObj C dx)
 ns:h.Ns1 dx mA
 ne:dx≠x
theorem jG {mA:Za2}(n:h.Ns1 dx mA):∃od,h.get? dx=some od/\∀name,lookIn name od=some (mA name):=by
 obtain⟨o,es,ep,ho,hd,hk,_,hm⟩:=n;refine⟨o,ho,λname=>?_⟩;have e:=hm name;unfold nsFind findBy at e;rw[<-Array.find?_toList] at e;unfold lookIn;rw[hd];dsimp only;split
 ·rename_i y q
  rw[q] at e;exact congrArg some e
 ·rename_i q
  rw[q] at e;have a:es.toList.any (·.refKey)=false:=by
   rw[List.any_eq_false];intro y hy;obtain⟨z,t,hkey⟩:=hk y (Array.mem_toList_iff.mp hy);simp[JA,hkey]
  have a':¬ es.toList.any (·.refKey)=true:=by rw[a];exact fk
  rw[if_neg a'];exact congrArg some e
theorem cZ.look {x:dk}{mA:Za2}(I:cZ h x dx C mA):∃od,PySem.W.InstAt h x (instObj C dx) C (some od)/\∀name,lookIn name od=some (mA name):=
 let ⟨od,ho,hl⟩:=jG I.ns
 ⟨od,⟨I.obj,rfl,rfl,ho⟩,hl⟩
section
variable {prog:fh} {w:gp} {A:ir} {E:Za0} {s:d4} {K:de} {x dx C f:dk} {mA:Za2} {name:Str} {v:d3}
theorem sD {expr:Bool}{Q:Za0}(X:K.In s.heap)(I:cZ s.heap x dx C mA)(hg:t9 K C name=true)(hh:wu K C=true)
  (ha:j1 K (.ref C) name=some none)(hv:mA name=some v)(hv':BM v=true)(h:Q v { s with toks:=s.toks+1 }) :
  wpAny (model prog w) A (getAttr (.ref x) name expr) Q E s:=by
 obtain⟨od,J,hl⟩:=I.look;exact PySem.W.get_value X J (vq hg).1 (PySem.W.findObj_own hh ha rfl (by rw[hl,hv])) hv' h
theorem lP {Q:d3×Za3->d4->Prop}(X:K.In s.heap)(I:cZ s.heap x dx C mA)(hg:t9 K C name=true)
  (hf:j1 K (.ref C) name=some (some (.ref f)))(ht:uh K (.ref f)=true)(hv:mA name=none)(h:Q (.ref f,[.ref x]) s) :
  wpAny (model prog w) A (getMethod (.ref x) name pl) Q E s:=by
 obtain⟨od,J,hl⟩:=I.look;exact PySem.W.method_fn X J (vq hg).1 (vq hg).2 hf (beq_iff_eq.mp ht) (by show(lookIn name od).map (·.isSome)=some false;rw[hl,hv];rfl) h
theorem U4 {ns:Za6}{Q:Unit->d4->Prop}(X:K.In s.heap)(I:cZ s.heap x dx C mA)
  (hs:j1 K (.ref C) "__setattr__"=some (some (.builtin "object.__setattr__")))(hp:AY K C=true)(ht:xr K C name=some none)(hh:wu K C=true)
  (hw:AA mA ns)(hsz:ns.length<=sizeLine)
  (h:∀h',cZ h' x dx C (λy=>if y=name then some v else mA y)->vc dx s.heap h'->Q () { s with heap:=h',toks:=s.toks+2 }) :
  wpAny (model prog w) A (setAttr (.ref x) name v) Q E s:=by
 obtain⟨od,J,hl⟩:=I.look;refine PySem.W.set_plain X J hs (PySem.W.osa_open (s:={ s with toks:=s.toks+1 }) (r:=none) X J hp ht λb=>?_);obtain⟨cd,hc,hd'⟩:=PySem.W.any_some hh;have hx:s.heap.get? x=some ⟨.ref C,some dx,.plain,#[]⟩:=I.obj;refine wpAny_bind (dw (wpAny_bind (wpAny_bind (wpAny_loadPart hx (wpAny_bind (FH (s:={ s with toks:=s.toks+1 }) (PySem.W.looks_clsIn X hc) ?_))))));rw[hd'];refine dw (a:=some dx) (wpAny_bind (dw (wpAny_bind ?_)));refine wpAny_nsSet1 (s:={ s with toks:=s.toks+1 }) I.ns λh' hn2 hs2=>?_;obtain⟨oD,esD,epD,hoD,hdD,hcD⟩:=hn2.count (GF name v hw);refine wpAny_bind (wpAny_lookBehind hoD (by rw[hdD];exact pastItsLine_dict (fq hcD (by rw[fj];lia))) ?_);exact dw (h _ ⟨(hs2.2 _ (rq I.ne)).trans I.obj,hn2,I.ne⟩ hs2)
theorem kQ {R:wb->d4->Prop}{kw:List (Str×d3)}(X:K.In s.heap)(hm:BX K C=true)
  (hi:j1 K (.ref C) "__init__"=some (some (.ref f)))(hf:PySem.W.typeIn K (.ref f)=some (.type "function"))
  (h:codeAny (model prog w) (A.under (.builtin "type.__call__" ⟨.ref C::vs,kw⟩)) (.call (.ref f) ⟨.ref (s.heap.objs.size+1)::vs,kw⟩) (PySem.W.InitBack (s.heap.objs.size+1) R)
   { s with heap:=(s.heap.push emptyDict).push (instObj C s.heap.objs.size) }) :
  codeAny (model prog w) A (.call (.ref C) ⟨vs,kw⟩) R s:=by
 obtain⟨hh,g,d,t,os⟩:=s;exact PySem.W.make_core (PySem.W.makes_of X hm) (PySem.W.looks_findIn X hi) (λself=>PySem.W.bind_fn X self hf) (.inl rfl) h
end
def Ft (f : Str)(v : V) : List (Str × V)->List (Str × V)
  | [] => [(f, v)]
  | (g, x) :: r => if g = f then (g, v) :: r else (g, x) :: Ft f v r
theorem O6 (f g:Str)(v:V):∀ fs:List (Str×V),(Ft f v fs).lookup g=if g=f then some v else fs.lookup g
  | [] => by
    show n6 g [(f, v)] = _
    by_cases h : g = f
    · have hb : (g == f) = true := beq_iff_eq.mpr h
      simp only [n6, hb, if_pos h]
    · have hb : (g == f) = false := beq_eq_false_iff_ne.mpr h
      simp only [n6, hb, if_neg h]
  | (k, x) :: r => by
    have ih := O6 f g v r;rw [show Ft f v ((k, x) :: r) = (if k = f then (k, v) :: r else (k, x) :: Ft f v r) from rfl]
    by_cases hk : k = f
    · rw [if_pos hk]
      by_cases h : g = k
      · have hb : (g == k) = true := beq_iff_eq.mpr h
        simp only [n6, hb, if_pos (h.trans hk)]
      · have hb : (g == k) = false := beq_eq_false_iff_ne.mpr h
        simp only [n6, hb, if_neg (λe : g = f => h (e.trans hk.symm))]
    · rw [if_neg hk]
      by_cases h : g = k
      · have hb : (g == k) = true := beq_iff_eq.mpr h
        simp only [n6, hb, if_neg (λe : g = f => hk (h.symm.trans e))]
      · have hb : (g == k) = false := beq_eq_false_iff_ne.mpr h
        simp only [n6, hb];exact ih
theorem Oq (f:Str)(v:V):∀ fs:List (Str×V),f∈(Ft f v fs).map (·.1)/\∀ g,g∈fs.map (·.1)->g∈(Ft f v fs).map (·.1)
  | [] => ⟨by simp [Ft], λg h => by simp at h⟩
  | (k, x) :: r => by
    obtain ⟨i1, i2⟩ := Oq f v r;rw [show Ft f v ((k, x) :: r) = (if k = f then (k, v) :: r else (k, x) :: Ft f v r) from rfl]
    by_cases hk : k = f
    · rw [if_pos hk]
      subst hk;exact ⟨by simp, λg h => by simpa using h⟩
    · rw [if_neg hk]
      refine ⟨?_, λg h => ?_⟩
      · rw [ft]
        exact fb _ i1
      · rw [ft] at h ⊢
        rcases gt.mp h with e | e
        · exact gt.mpr (.inl e)
        · exact fb _ (i2 g e)
theorem Oz (f:Str)(v:V):∀ fs:List (Str×V),(Ft f v fs).length<=fs.length+1
  | [] => by simp [Ft]
  | (k, x) :: r => by
    have ih := Oz f v r;rw [show Ft f v ((k, x) :: r) = (if k = f then (k, v) :: r else (k, x) :: Ft f v r) from rfl]
    by_cases hk : k = f
    · rw [if_pos hk, fj, fj]; lia
    · rw [if_neg hk, fj, fj]; lia
theorem M5.some_of {v:V}{o:Za7}(r:M5 (some v) o):∃u,o=some u/\A5 v u:=by
 cases o with
 |none=>exact(show False from r).elim
 |some u=>exact⟨u,rfl,r⟩
theorem M5.none_of {o:Za7}(r:M5 none o):o=none:=by
 cases o with
 |none=>rfl
 |some u=>exact(show False from r).elim
theorem jF {v:V}{u:d3}(r:A5 v u):BM u=true:=by
 cases v with
 |non=>cases(show u=ra from r);rfl
 |bl b=>cases(show u=y8 b from r);rfl
 |int i=>obtain⟨t,e⟩:=(show ∃t,u=l5 i t from r);cases e;rfl
 |str x=>obtain⟨t,e⟩:=(show ∃t,u=xp x t from r);cases e;rfl
 |byt b=>obtain⟨t,e⟩:=(show ∃t,u=EX b t from r);cases e;rfl
 |flt b=>obtain⟨t,e⟩:=(show ∃t,u=AS b t from r);cases e;rfl
 |ref a=>cases(show u=ji a from r);rfl
 |ty n=>cases(show u=jl n from r);rfl
section
variable {P:fh} {w:gp} {H H':Hp} {h h':i8} {a C dx:dk} {fs fs':List (Str×V)}
theorem Po (hok:HOk P w H h)(e:H a=some (.ins C dx fs)):∃mA,cZ h a dx C mA/\(∀f,M5 (fs.lookup f) (mA f))/\AA mA (fs.map (·.1))/\fs.length<=1000/\H dx=some (.own a):=by
 obtain⟨d,z,ne,ob,mA,n,r,q⟩:=(show Ck P w H h a (.ins C dx fs) from hok a _ e);exact⟨mA,⟨ob,n,ne⟩,r,q,z,d⟩
end
structure Cls (K:de) (C:dk):Prop where
 pg:t9 K C yo=true
 hd:wu K C=true
 po:AY K C=true
 sa:j1 K (.ref C) "__setattr__"=some (some (.builtin "object.__setattr__"))
theorem Cls.get {K:de}(c:Cls K C)(f:Str):t9 K C f=true:=c.pg
def Bh (K:de)(C:dk)(f:Str):Prop:=j1 K (.ref C) f=some none
theorem Bh.taker {K:de}{f:Str}(n:Bh K C f):xr K C f=some none:=by
 unfold xr;rw[show j1 K (.ref C) f=some none from n];rfl
structure qG (K:de) (C:dk) (m:Str) (f:dk):Prop where
 at_:j1 K (.ref C) m=some (some (.ref f))
 fn:uh K (.ref f)=true
 kp:jt K (.ref f)=true
section
variable {X:Cx} {pins:Za1} {G:St} {H:Hp} {s:d4} {a C dx:dk} {fs:List (Str×V)} {f:Str} {v:V} {A:ir} {E:Za0}
theorem dN {b:Bool}{Q:Za0}(I:Inv X pins G H s)(e:H a=some (.ins C dx fs))(c:Cls X.K C)(n:Bh X.K C f)(l:fs.lookup f=some v)
  (h:∀u s',Inv X pins G H s'->A5 v u->Q u s'):wpAny (model X.prog X.w) A (getAttr (.ref a) f b) Q E s:=by
 obtain⟨mA,O,r,_,_,_⟩:=Po I.hok e;obtain⟨u,hu,ru⟩:=M5.some_of (v:=v) (o:=mA f) (by rw[<-l];exact r f);exact sD I.kIn O (c.get f) c.hd n hu (jF ru) (h u _ (I.tok _) ru)
theorem L0 {m:Str}{g:dk}{Q:d3×Za3->d4->Prop}(I:Inv X pins G H s)(e:H a=some (.ins C dx fs))(c:Cls X.K C)(k:qG X.K C m g)(l:fs.lookup m=none)
  (h:Q (.ref g,[.ref a]) s):wpAny (model X.prog X.w) A (getMethod (.ref a) m pl) Q E s:=by
 obtain⟨mA,O,r,_,_,_⟩:=Po I.hok e;have hn:mA m=none:=M5.none_of (by rw[<-l];exact r m);exact lP I.kIn O (c.get m) k.at_ k.fn hn h
theorem Zq {u:d3}{Q:Unit->d4->Prop}(I:Inv X pins G H s)(e:H a=some (.ins C dx fs))(c:Cls X.K C)(n:Bh X.K C f)(hl:fs.length<1000)(ry:A5 y u)
  (h:∀s',Inv X pins G (upd H a (.ins C dx (Ft f y fs))) s'->Q () s'):wpAny (model X.prog X.w) A (setAttr (.ref a) f u) Q E s:=by
 obtain⟨mA,O,r,wi,_,ho⟩:=Po I.hok e;have hz:(fs.map (·.1)).length<=sizeLine:=by rw[da,DQ];lia
 refine U4 I.kIn O c.sa c.po n.taker c.hd wi hz λh' O' sb=>h _ ?_;have hd:∃o,h'.get? dx=some o:=let ⟨o,_,_,e',_⟩:=O'.ns;⟨o,e'⟩;refine I.write (x:=a) (e:=dx) (by rw[e];exact qe) (.inr ho) (λb q hb z=>(sb.2 b hb).trans z) hd ?_;refine⟨by rw[Ai O.ne];exact ho,?_,O.ne,O'.obj,_,O'.ns,λg=>?_,λg hg=>?_⟩
 ·have:=Oz f y fs;lia
 ·show M5 ((Ft f y fs).lookup g) (if g=f then some u else mA g)
  rw[O6]
  by_cases q:g=f
  ·rw[if_pos q,if_pos q];exact ry
  ·rw[if_neg q,if_neg q];exact r g
 ·by_cases q:g=f
  ·rw[q];exact(Oq f y fs).1
  ·refine(Oq f y fs).2 g (wi g λz=>hg ?_)
   show(if g=f then some u else mA g)=none;rw[if_neg q];exact z
theorem Inv.made (I:Inv X pins G H s):Inv X pins G (upd (upd H s.heap.objs.size (.own (s.heap.objs.size+1))) (s.heap.objs.size+1) (.ins C s.heap.objs.size []))
  { s with heap:=(s.heap.push emptyDict).push (instObj C s.heap.objs.size) }:=by
 have e1:(s.heap.push emptyDict).get? s.heap.objs.size=some emptyDict:=fu s.heap rfl;have e2:((s.heap.push emptyDict).push (instObj C s.heap.objs.size)).get? (s.heap.objs.size+1)=some (instObj C s.heap.objs.size):=by
  have:=fu (s.heap.push emptyDict) (o:=instObj C s.heap.objs.size) rfl
  rwa [mi] at this
 have e3:(s.heap.push emptyDict).Ns s.heap.objs.size (λ_=>none):=⟨emptyDict,#[],_,e1,rfl,(λe he=>absurd he (by simp)),λ_=>rfl⟩;have I1:=I.laid (a:=s.heap.objs.size) (o:=.own (s.heap.objs.size+1)) (h':=s.heap.push emptyDict) (t':=s.toks) (λb u q=>dj _ q) (dh _) ⟨_,e1⟩;refine I1.laid (a:=s.heap.objs.size+1) (o:=.ins C s.heap.objs.size []) (t':=s.toks) (λb u q=>dj _ q) (ku (mi _ _)) ?_;have ne:s.heap.objs.size≠s.heap.objs.size+1:=fm (uw _);refine⟨by rw[Ai ne,Ac],f7 _,ne,e2,λ_=>none,(Heap.Ns1.of_empty e3).at λo q=>dj _ q,λ_=>qe,λy hy=>absurd rfl hy⟩
theorem sP {prog:fh}{e:ie}{f:Str}{Q:Za0}(hb:attributeBase e f env (eval e env)=eval e env)
  (h:wpAny (model prog w) A (eval e env) (λo QM=>wpAny (model prog w) A (getAttr o f true) Q E QM) E s):wpAny (model prog w) A (eval (.Attribute e f pos) env) Q E s:=
 Attribute_any_ h (by rw[arm_eval_Attribute,hb])
end
def wU (K:de)(ta:TE)(f:Str):TE:=λG H Q=>ta G H λx H1=>∃a C dx fs v,x=.ref a/\H1 a=some (.ins C dx fs)/\Cls K C/\Bh K C f/\fs.lookup f=some v/\Q v H1
def vD (K:de)(ta tv:TE)(f:Str):TS:=λD G H=>tv G H λy H1=>ta G H1 λx H2=>∃a C dx fs,x=.ref a/\H2 a=some (.ins C dx fs)/\Cls K C/\Bh K C f/\fs.length<1000 /\
 D.nx G (upd H2 a (.ins C dx (Ft f y fs)))
section
variable {X:Cx} {o e value:ie} {f:Str} {pos pos' tpos:Pos} {ta tv:TE}
theorem vW (he:PE X e ta)(hb:attributeBase e f X.env (eval e X.env)=eval e X.env):PE X (.Attribute e f pos) (wU X.K ta f):=by
 k_in;refine sP hb (thE he I h λu s1 x H1 I1 rx ⟨a,C,dx,fs,v,ex,ea,c,n,l,q⟩=>?_);subst ex;obtain rfl:u=ji a:=rx;exact dN I1 ea c n l λu' s2 I2 ru=>⟨v,H1,I2,ru,q⟩
theorem wB (ha:PE X o ta)(hv:PE X value tv)(hs:swapsWith value (some (.Attribute o f pos')) pos.line X.env=pure false):PS X (.Assign [.Attribute o f pos'] value pos) (vD X.K ta tv f):=by
 k_end;refine plainObj_wpAny_Assign_Attribute (thE hv I h λu s1 y H1 I1 ry q=>thE ha I1 q λov s2 x H2 I2 rx ⟨a,C,dx,fs,ex,ea,c,n,l,q2⟩=>?_) hs;subst ex;obtain rfl:ov=ji a:=rx;exact Zq I2 ea c n l ry λs3 I3=>⟨G,_,I3,q2⟩
theorem uQ {m:Str}{apos:Pos}{args:List ie}{G:St}{Q:Za0}(he:PE X e te)(I:Inv X pins G H s)
  (h:te G H λx H1=>∃a C dx fs g,x=.ref a/\H1 a=some (.ins C dx fs)/\Cls X.K C/\qG X.K C m g/\fs.lookup m=none /\
   ∀s1,Inv X pins G H1 s1->wpAny (model X.prog X.w) X.A (callWith pos (.ref g) [.ref a] (backTo pos (starEach args X.env)) (backToKw pos (keywordEach [] X.env))) Q X.xe s1)
  (ht:eval (.Call (.Attribute e m apos) args [] pos) X.env=(do
   let ov <-eval e X.env
   standAt apos.atName
   let (f,first) <-holding [ov] (getMethod ov m pl)
   callWith pos f first (backTo pos (starEach args X.env)) (backToKw pos (keywordEach [] X.env)))) :
  wpAny (model X.prog X.w) X.A (eval (.Call (.Attribute e m apos) args [] pos) X.env) Q X.xe s:=by
 refine uq (pl:=pl) (thE he I h λu s1 x H1 I1 rx ⟨a,C,dx,fs,g,ex,ea,c,k,l,q⟩=>?_) ht;subst ex;obtain rfl:u=ji a:=rx;exact L0 I1 ea c k l (q s1 I1)
end
section
variable {X:Cx} {pins:Za1} {G:St} {H:Hp} {s:d4} {A:ir} {E:Za0} {Q:Za0} {c:d3} {b:Bool}
inductive N5 (K:de) (H:Hp):V->d3->Prop where
 |non:N5 K H .non (.type "NoneType")
 |bl (x:Bool):N5 K H (.bl x) (.type "bool")
 |int (i:Int):N5 K H (.int i) (.type "int")
 |str (x:Str):N5 K H (.str x) (.type "str")
 |flt (x:UInt64):N5 K H (.flt x) (.type "float")
 |lst {a:dk} {xs:List V} (e:H a=some (.lst xs)):N5 K H (.ref a) (.type "list")
 |frz {a:dk} {o:Obj} {xs:List V} (e:H a=some (.frz o (.lst xs))):N5 K H (.ref a) (.type "list")
 |tup {a:dk} {xs:List V} (e:H a=some (.tup xs)):N5 K H (.ref a) (.type "tuple")
 |dK {a:dk} {kvs:List (Key×V)} (e:H a=some (.dK kvs)):N5 K H (.ref a) (.type "dict")
 |dT {a:dk} {kvs:List (List Key×V)} (e:H a=some (.dT kvs)):N5 K H (.ref a) (.type "dict")
 |ins {a C dx:dk} {fs:List (Str×V)} (e:H a=some (.ins C dx fs)) (cl:Cls K C) (ha:j1 K (.ref C) "__class__"=some (some (.builtin "object.__class__")))
   (hn:PySem.W.specialIn K (.builtin "object.__class__") "__get__"=some (some (.builtin "getset_descriptor.__get__"))) (htk:PySem.W.takesIn K (.builtin "object.__class__")=some true)
   (hm:PySem.W.mroIn K C (.type "object")=some true):N5 K H (.ref a) (.ref C)
theorem iI {x:V}{u t:d3}(I:Inv X pins G H s)(rx:A5 x u)(ty:N5 X.K H x t)(e:kitOne X.K t c=some b)(h:∀tk,Q (.bool b) { s with toks:=tk }) :
  wpAny (model X.prog X.w) A (call (.builtin "isinstance") [u,c]) Q E s:=by
 cases ty with
 |non=>cases(show u=ra from rx);exact sh PySem.W.kitx_none I.kIn qe e (λz=>nomatch z) h
 |bl y=>cases(show u=y8 y from rx);exact sh PySem.W.kitx_bool I.kIn qe e (λz=>nomatch z) h
 |int i=>obtain⟨t,q⟩:=(show ∃t,u=l5 i t from rx);cases q;exact sh PySem.W.kitx_int I.kIn qe e (λz=>nomatch z) h
 |str y=>obtain⟨t,q⟩:=(show ∃t,u=xp y t from rx);cases q;exact sh PySem.W.kitx_str I.kIn qe e (λz=>nomatch z) h
 |flt y=>obtain⟨t,q⟩:=(show ∃t,u=AS y t from rx);cases q;exact sh PySem.W.kitx_float I.kIn qe e (λz=>nomatch z) h
 | @lst a xs ea=>
  cases(show u=ji a from rx);obtain⟨_,_,n,_,h1⟩:=(show Ck X.prog X.w H s.heap a (.lst xs) from I.hok a _ ea);exact sh AZ I.kIn ⟨_,h1,rfl⟩ e (λz=>nomatch z) h
 | @frz a ob xs ea=>
  cases(show u=ji a from rx);obtain⟨_,_,_,n,_,h1⟩:=(show Ck X.prog X.w H s.heap a (.frz ob (.lst xs)) from I.hok a _ ea);exact sh AZ I.kIn ⟨_,h1,rfl⟩ e (λz=>nomatch z) h
 | @tup a xs ea=>
  cases(show u=ji a from rx);obtain⟨_,_,_,p⟩:=(show Ck X.prog X.w H s.heap a (.tup xs) from I.hok a _ ea);obtain⟨o,h1,h2,_⟩:=p;exact sh PySem.W.kitx_tuple I.kIn ⟨o,h1,h2⟩ e (λz=>nomatch z) h
 | @dK a kvs ea=>
  cases(show u=ji a from rx);obtain⟨_,_,vs,_,p⟩:=(show Ck X.prog X.w H s.heap a (.dK kvs) from I.hok a _ ea);obtain⟨o,es,ep,h1,h2,_⟩:=p;exact sh BA I.kIn ⟨o,h1,h2.1⟩ e (λz=>nomatch z) h
 | @dT a kvs ea=>
  cases(show u=ji a from rx);obtain⟨_,_,xs,_,o,es,ep,h1,h2,_⟩:=(show Ck X.prog X.w H s.heap a (.dT kvs) from I.hok a _ ea);exact sh BA I.kIn ⟨o,h1,h2.1⟩ e (λz=>nomatch z) h
 | @ins a C dx fs ea cl ha hn htk hm=>
  cases(show u=ji a from rx);obtain⟨mA,O,_⟩:=Po I.hok ea;obtain⟨od,J,_⟩:=O.look;exact sh (PySem.W.kitx_own (cl.get _) cl.hd ha hn htk hm) I.kIn J e (λz=>nomatch z) h
end
structure Ca (k:Nat) (A:ir):Prop where
 hd:A.handled=none
 dp:A.depth+3*k+5<recursionLimit
 un:A.units+16*k+200<cLine
theorem Ca.mono {j k:Nat}(r:Ca k A)(h:j<=k):Ca j A:=⟨r.hd,by have:=r.dp;lia,by have:=r.un;lia⟩
theorem Ca.m {j k:Nat}(r:Ca k A)(h:autoParam (j<=k) QF):Ca j A:=r.mono h
theorem Ca.deeper {k:Nat}(r:Ca (k+1) A)(env:Env):Ca k (A.deeper env):=
 ⟨r.hd,by have:=r.dp;show A.depth+1+3*k+5<_;lia,by have:=r.un;show A.units+3+16*k+200<_;lia⟩
theorem dG {kw:List (Str×d3)}:(A.under (.builtin "type.__call__" ⟨.ref C::us,kw⟩)).depth=A.depth+1:=by
 first|rfl|simp[z7,Code.weight,Code.isCreation,Code.isGuard,Code.isCaller,FW,AJ,guardIds]
theorem Zw {kw:List (Str×d3)}:(A.under (.builtin "type.__call__" ⟨.ref C::us,kw⟩)).units=A.units+1:=by
 first|rfl|simp[z7,Code.cUnits,FW,AJ]
theorem Ca.make {k:Nat}(r:Ca (k+1) A)(C:dk)(us:Za3)(kw:List (Str×d3)):Ca k (A.under (.builtin "type.__call__" ⟨.ref C::us,kw⟩)):=
 ⟨r.hd,by have:=r.dp;rw[dG];lia,by have:=r.un;rw[Zw];lia⟩
theorem Ca.depth {k:Nat}(r:Ca k A):A.depth<recursionLimit:=by have:=r.dp;lia
theorem Ca.units {k:Nat}(r:Ca k A):A.units+64<cLine:=by have:=r.un;lia
def Wi:TA:=λ_ H Q=>Q [] H
def Ti (ta:TE)(tr:TA):TA:=λG H Q=>ta G H λx H1=>tr G H1 λxs H2=>Q (x::xs) H2
section
variable {X:Cx} {e:ie} {es:List ie} {te:TE} {t:TA} {pos:Pos}
theorem Ab:PA X [] Wi:=λ_ _ _ _ H Q I h=>ot ⟨[],H,I,.nil,h⟩
theorem fB (ha:PE X e te)(hr:PA X es t)(hs:autoParam (starEach (e::es) X.env=(false,eval e X.env)::starEach es X.env) QD):PA X (e::es) (Ti te t):=by
 intro pos pins s G H Q I h;rw[hs];show wpAny _ _ (spliced ((false,eval e X.env)::backTo pos (starEach es X.env))) _ _ s;refine lj (thE ha I h λu s1 x H1 I1 r1 q1=>?_);exact thA hr I1 q1 λus s2 xs H2 I2 r2 q2=>⟨x::xs,H2,I2,.cons r1 r2,q2⟩
def Aaj (t:TA):TE:=λG H Q=>t G H λxs H1=>xs.length<=sizeLine/\∀p,H1 p=none->Q (.ref p) (upd H1 p (.tup xs))
def xA (t:TA):TE:=λG H Q=>t G H λxs H1=>xs.length<=sizeLine/\∀p,H1 p=none->Q (.ref p) (upd H1 p (.lst xs))
theorem N0 {x1}(h:PA X es t):PE X (.Tuple es x1 pos) (Aaj t):=by
 intro pins s G H Q I hq;refine wpAny_Tuple_spliced (thA h I hq λus s1 xs H1 I1 r ⟨z,q⟩=>⟨by rw[<-r.length];exact z,?_⟩);have hf:H1 s1.heap.objs.size=none:=I1.hok.fresh (dh _);refine⟨.ref s1.heap.objs.size,upd H1 s1.heap.objs.size (.tup xs),I1.laid (t':=s1.toks) (λb u e=>dj _ e) (dh _) ?_,rfl,q _ hf⟩;exact⟨z,us,r,⟨_,fu _ rfl,rfl,_,rfl⟩⟩
theorem Bc (h:PA X es t):PE X (.List es pos) (xA t):=by
 intro pins s G H Q I hq;refine wpAny_List_spliced (thA h I hq λus s1 xs H1 I1 r ⟨z,q⟩=>⟨by rw[<-r.length];exact z,?_⟩);have hf:H1 s1.heap.objs.size=none:=I1.hok.fresh (dh _);refine⟨.ref s1.heap.objs.size,upd H1 s1.heap.objs.size (.lst xs),I1.laid (t':=s1.toks) (λb u e=>dj _ e) (dh _) ?_,rfl,q _ hf⟩;exact⟨z,us,0,r,fu _ rfl⟩
end
abbrev Sp:=List V->Hp->VK->XK->Prop
abbrev CXT:=List Env->Hp->d4->XK->Za0
structure Sv (P:fh) (w:gp) (K:de) (mg:Za2) (base:i8) (A:ir) (outer:List Env) (s:d4) (H:Hp):Prop where
 frames:A.frames=some outer
 mod:Mod K mg base
 bs:∀b o,base.get? b=some o->s.heap.get? b=some o/\H b=none
 bsz:base.objs.size<=s.heap.objs.size
 funs:s.heap.FunFrames base outer
 frf:∀b∈frs outer,H b=none
 hok:HOk P w H s.heap
 bare:wj s.gens
def CE (outer:List Env)(P:fh)(w:gp)(H:Hp)(s:d4)(Q:VK)(u:d3)(s':d4):Prop:=
 ∃v H',s'.os=s.os/\wj s'.gens/\Un (frs outer) [] H H' s.heap s'.heap/\HOk P w H' s'.heap/\A5 v u/\Q v H'
def CR (CX:CXT)(outer:List Env)(P:fh)(w:gp)(H:Hp)(s:d4)(Q:VK)(E:XK)(r:wb)(s':d4):Prop:=
 match r with
 |.ok (.ret u)=>CE outer P w H s Q u s'
 |.ok _=>False
 |.error e=>CX outer H s E e s'
structure Av (P:fh) (w:gp) (K:de) (mg:Za2) (base:i8) (CX:CXT) (k:Nat) (f:dk) (fd:jk) (ps:Za6) (sp:Sp):Prop where
 len:∀vs H Q E,sp vs H Q E->vs.length=ps.length
 run:∀(A:ir) (outer:List Env) (s:d4) (H:Hp) (args:Args) (us:Za3) (vs:List V) (Q:VK) (E:XK),Ca k A->Sv P w K mg base A outer s H->AL s fd args (ps.zip us)->Au vs us->sp vs H Q E ->
  codeAny (model P w) A (.call (.ref f) args) (CR CX outer P w H s Q E) s
theorem Sv.make {P:fh}{K:de}{mg:Za2}{outer:List Env}(e:Sv P w K mg base A outer s H)(C:dk)(us:Za3)(kw:List (Str×d3)) :
  Sv P w K mg base (A.under (.builtin "type.__call__" ⟨.ref C::us,kw⟩)) outer s H:=⟨by first|exact e.frames|(simpa [z7,Code.envs,AJ,pushEnvs] using e.frames),e.mod,e.bs,e.bsz,e.funs,e.frf,e.hok,e.bare⟩
section
variable {X:Cx} {pins:Za1} {G:St} {H:Hp} {s s':d4}
theorem Inv.env0 (I:Inv X pins G H s):Sv X.prog X.w X.K X.mg X.base X.A X.stack s H:=
 ⟨I.ok.frames,I.ok.mod,I.bs,fq I.ok.bsz I.sz,I.stack,I.stkFree,I.hok,I.bare⟩
theorem Inv.after {Q:VK}{u:d3}(I:Inv X pins G H s)(h:CE X.stack X.prog X.w H s Q u s'):EP X pins G Q u s':=by
 obtain⟨v,H',os,bare,un,hok,r,q⟩:=h;obtain⟨hh,g,d,t,os'⟩:=s';obtain rfl:os'=s.os:=os;exact⟨v,H',I.call (h':=hh) (g':=g) (d':=d) (t':=t) (ch:=[]) un hok bare (λb z=>absurd z (by simp)),r,q⟩
end
def jR (sp:Sp)(dvs:List V)(E:XK)(t:TA):TE:=λG H Q=>t G H λvs H1=>sp (vs++dvs) H1 Q E
def Yv (C:dk)(m:Str)(sp:Sp)(dvs:List V)(E:XK)(ta:TE)(t:TA):TE:=λG H Q=>ta G H λx H1=>∃a dx fs,x=.ref a/\H1 a=some (.ins C dx fs)/\fs.lookup m=none /\
 t G H1 λvs H2=>sp (x::(vs++dvs)) H2 Q E
def gN (C:dk)(sp:Sp)(dvs:List V)(E:XK)(t:TA):TE:=λG H Q=>t G H λvs H1=>∀x dx,H1 x=none->H1 dx=none->dx≠x ->
 sp (.ref x::(vs++dvs)) (upd (upd H1 dx (.own x)) x (.ins C dx [])) (λv H2=>v=.non/\Q (.ref x) H2) E
def E6 (K:de)(fd:jk)(ps:Za6)(ds:Za3):Prop:=
 ∀(s:d4) (us:Za3),K.In s.heap->(us++ds).length=ps.length->AL s fd ⟨us,[]⟩ (ps.zip (us++ds))
theorem E6.all {K:de}(h:∀us:Za3,us.length=ps.length->bindArgs fd ⟨us,[]⟩=pure (ps.zip us)):E6 K fd ps []:=λs us _ hl=>by
 rw[fw] at hl ⊢;exact .of_eq (h us hl)
def Jb (CX:CXT)(X:Cx)(E:XK):Prop:=∀(pins:Za1) (G:St) (H:Hp) (s:d4) (e:d3) (s':d4),Inv X pins G H s->CX X.stack H s E e s'->X.xe e s'
section
variable {X:Cx} {CX:CXT} {k:Nat} {f C:dk} {fd:jk} {ps:Za6} {sp:Sp} {dvs:List V} {ds:Za3} {E:XK} {x m:Str} {p pos apos:Pos} {e o:ie} {es:List ie} {ta:TE} {t:TA}
theorem Zy {G:St}{Q:VK}{vs:List V}(F:Av X.prog X.w X.K X.mg X.base CX k f fd ps sp)(hr:Ca k X.A)(hb:E6 X.K fd ps ds)(hd:Au dvs ds)(hx:Jb CX X E)
  (I:Inv X pins G H s)(r:Au vs us)(h:sp (vs++dvs) H Q E):wpAny (model X.prog X.w) X.A (call (.ref f) us) (EP X pins G Q) X.xe s:=by
 have r2:Au (vs++dvs) (us++ds):=r.append hd;have hl:(us++ds).length=ps.length:=by rw[<-r2.length];exact F.len _ _ _ _ h
 refine yl (tx (F.run X.A X.stack s H ⟨us,[]⟩ (us++ds) (vs++dvs) Q E hr I.env0 (hb s us I.kIn hl) r2 h) λr s' hq=>?_)
 cases r with
 |error e=>exact hx pins G H s e s' I hq
 |ok fl=>
  cases fl with
  |ret u=>exact I.after hq
  |next=>exact jm hq
  |brk=>exact jm hq
  |cont=>exact jm hq
theorem rF (F:Av X.prog X.w X.K X.mg X.base CX k f fd ps sp)(hr:Ca k X.A)(hg:Gl X x)(hm:X.mg x=some (.ref f))(hk:jt X.K (.ref f)=true)(hb:E6 X.K fd ps ds)(hd:Au dvs ds)(hx:Jb CX X E)
  (ha:PA X (e::es) t)(hdb:autoParam ((x==("__debug__":Str))=false) QF)(he:autoParam (starEach (e::es) X.env=(false,eval e X.env)::starEach es X.env) QD)(hpl:autoParam ((backTo pos (starEach es X.env)).any (·.1)=false) QD) :
  PE X (.Call (.Name x p) (e::es) [] pos) (jR sp dvs E t):=by
 k_in;refine wpAny_Call_Name_kw (Pg I hg hm ?_ hdb);refine callWith_K (h₀:=X.base) I.ok.mod.kin hk (thA ha I h λus s1 vs H1 I1 r q=>⟨I1.kIn,?_⟩) he hpl;exact Zy F hr hb hd hx I1 r q
theorem sK (he:PE X o ta)(c:Cls X.K C)(hm:qG X.K C m f)(F:Av X.prog X.w X.K X.mg X.base CX k f fd ps sp)(hr:Ca k X.A)(hb:E6 X.K fd ps ds)(hd:Au dvs ds)(hx:Jb CX X E)(ha:PA X (e::es) t)
  (hst:autoParam (starEach (e::es) X.env=(false,eval e X.env)::starEach es X.env) QD)(hpl:autoParam ((backTo pos (starEach es X.env)).any (·.1)=false) QD)
  (ht:autoParam (eval (.Call (.Attribute o m apos) (e::es) [] pos) X.env=(do
   let ov <-eval o X.env
   standAt apos.atName
   let (f,first) <-holding [ov] (getMethod ov m pl)
   callWith pos f first (backTo pos (starEach (e::es) X.env)) (backToKw pos (keywordEach [] X.env)))) QD) :
  PE X (.Call (.Attribute o m apos) (e::es) [] pos) (Yv C m sp dvs E ta t):=by
 k_in;refine uq (pl:=pl) (thE he I h λu s1 x H1 I1 rx ⟨a,dx,fs,ex,ea,l,q⟩=>?_) ht;subst ex;obtain rfl:u=ji a:=rx;refine L0 I1 ea c hm l ?_;refine callWith_K (first:=[.ref a]) (h₀:=X.base) I.ok.mod.kin hm.kp (thA ha I1 q λus s2 vs H2 I2 r q2=>⟨I2.kIn,?_⟩) hst hpl;exact Zy (us:=.ref a::us) (vs:=.ref a::vs) F hr hb hd hx I2 (.cons rfl r) q2
theorem lG (he:PE X o ta)(c:Cls X.K C)(hm:qG X.K C m f)(F:Av X.prog X.w X.K X.mg X.base CX k f fd ps sp)(hr:Ca k X.A)(hb:E6 X.K fd ps ds)(hd:Au dvs ds)(hx:Jb CX X E)
  (ht:autoParam (eval (.Call (.Attribute o m apos) [] [] pos) X.env=(do
   let ov <-eval o X.env
   standAt apos.atName
   let (f,first) <-holding [ov] (getMethod ov m pl)
   callWith pos f first (backTo pos (starEach [] X.env)) (backToKw pos (keywordEach [] X.env)))) QD) :
  PE X (.Call (.Attribute o m apos) [] [] pos) (Yv C m sp dvs E ta Wi):=by
 k_in;refine uq (pl:=pl) (thE he I h λu s1 x H1 I1 rx ⟨a,dx,fs,ex,ea,l,q⟩=>?_) ht;subst ex;obtain rfl:u=ji a:=rx;refine L0 I1 ea c hm l ?_;exact PySem.W.callWith_K0 (first:=[.ref a]) I1.kIn hm.kp (Zy (us:=[.ref a]) (vs:=[.ref a]) F hr hb hd hx I1 (.cons rfl .nil) q)
structure Mk (K:de) (C f:dk):Prop where
 makes:BX K C=true
 init:j1 K (.ref C) "__init__"=some (some (.ref f))
 fn:uh K (.ref f)=true
 kp:jt K (.ref C)=true
theorem kG {G:St}{Q:VK}{vs:List V}(M:Mk X.K C f)(F:Av X.prog X.w X.K X.mg X.base CX k f fd ps sp)(hr:Ca (k+1) X.A)(hb:E6 X.K fd ps ds)(hd:Au dvs ds)
  (hx:Jb CX X E)(I:Inv X pins G H s)(r:Au vs us)
  (h:∀x dx,H x=none->H dx=none->dx≠x->sp (.ref x::(vs++dvs)) (upd (upd H dx (.own x)) x (.ins C dx [])) (λv H2=>v=.non/\Q (.ref x) H2) E) :
  wpAny (model X.prog X.w) X.A (call (.ref C) us) (EP X pins G Q) X.xe s:=by
 have hq:=h (s.heap.objs.size+1) s.heap.objs.size (I.hok.fresh (qp _)) (I.hok.fresh (dh _)) (fm (uw _));have I2:=Inv.made (C:=C) I;have r2:Au (V.ref (s.heap.objs.size+1)::(vs++dvs)) (ji (s.heap.objs.size+1)::(us++ds)):=.cons rfl (r.append hd);have hl:(ji (s.heap.objs.size+1)::us++ds).length=ps.length:=by
  have e:=r2.length;rw[F.len _ _ _ _ hq] at e;exact e.symm
 refine yl (kQ (f:=f) I.kIn M.makes M.init (beq_iff_eq.mp M.fn) (tx (F.run _ X.stack _ _ ⟨ji (s.heap.objs.size+1)::us,[]⟩ (ji (s.heap.objs.size+1)::(us++ds)) _ _ E (hr.make C us [])
  (I2.env0.make C us []) (hb _ (ji (s.heap.objs.size+1)::us) I2.kIn hl) r2 hq) λr s' hq'=>?_))
 cases r with
 |error e=>exact hx pins G _ _ e s' I2 hq'
 |ok fl=>
  cases fl with
  |ret u=>
   obtain⟨v,H',I3,rv,ev,q3⟩:=I2.after hq';subst ev;exact⟨rv,⟨V.ref (s.heap.objs.size+1),H',I3,rfl,q3⟩⟩
  |next=>exact jm hq'
  |brk=>exact jm hq'
  |cont=>exact jm hq'
theorem fH (M:Mk X.K C f)(F:Av X.prog X.w X.K X.mg X.base CX k f fd ps sp)(hr:Ca (k+1) X.A)(hg:Gl X x)(hm:X.mg x=some (.ref C))(hb:E6 X.K fd ps ds)(hd:Au dvs ds)(hx:Jb CX X E)
  (ha:PA X (e::es) t)(hdb:autoParam ((x==("__debug__":Str))=false) QF)(he:autoParam (starEach (e::es) X.env=(false,eval e X.env)::starEach es X.env) QD)(hpl:autoParam ((backTo pos (starEach es X.env)).any (·.1)=false) QD) :
  PE X (.Call (.Name x p) (e::es) [] pos) (gN C sp dvs E t):=by
 k_in;refine wpAny_Call_Name_kw (Pg I hg hm ?_ hdb);refine callWith_K (h₀:=X.base) I.ok.mod.kin M.kp (thA ha I h λus s1 vs H1 I1 r q=>⟨I1.kIn,?_⟩) he hpl;exact kG M F hr hb hd hx I1 r q
end
def PK (X:Cx)(kws:List CY)(t:TA):Prop:=
 ∀(pos:Pos) (pins:Za1) (s:d4) (G:St) (H:Hp) (Q:List V->Hp->Prop),Inv X pins G H s->t G H Q->wpAny (model X.prog X.w) X.A (evalAll ((backToKw pos (keywordEach kws X.env)).map (·.2))) (AP X pins G Q) X.xe s
section
variable {X:Cx} {CX:CXT} {k:Nat} {f C:dk} {fd:jk} {ps ks:Za6} {sp:Sp} {E:XK} {x m:Str} {p pos apos kpos:Pos} {e o:ie} {es:List ie} {kws:List CY} {te ta:TE} {t tk:TA} {nm:Option Str}
theorem xT:PK X [] Wi:=λ_ _ _ _ H Q I h=>wpAny_evalAll_nil ⟨[],H,I,.nil,h⟩
theorem sO (ha:PE X e te)(hr:PK X kws t):PK X (⟨nm,e,kpos⟩::kws) (Ti te t):=by
 intro pos pins s G H Q I h;show wpAny _ _ (evalAll ((do let v <-eval e X.env;standAt pos;pure v)::(backToKw pos (keywordEach kws X.env)).map (·.2))) _ _ s;refine wpAny_evalAll_cons (wpAny_bind (thE ha I h λu s1 x H1 I1 r1 q1=>wpAny_bind (qr (dw ?_))));exact thn (hr pos pins s1 G H1 _ I1 q1) λus s2 ⟨xs,H2,I2,r2,q2⟩=>⟨x::xs,H2,I2,.cons r1 r2,q2⟩
variable {g:Za3->Za3->Za3} {gV:List V->List V->List V}
end
structure Al (N P:Za6) (sc:l6):Prop where
 kind:sc.kind=.function
 co:sc.isCoroutine=false
 gen:sc.isGenerator=false
 nd:N.Nodup
 pre:N.take P.length=P
 par:∀x∈P,sc.names.lookup x=some .local\/sc.names.lookup x=some .cell
 nofree:∀y∈sc.names,y.2≠.free
theorem Um {kindOf:Str->Option mv}{x:Str}:∀ {binds:List (Str×d3)} {m:Za2},(∀ v,(x,v)∉binds)->bindL kindOf binds m x=m x
  | [], _, _ => rfl
  | (n, v) :: r, m, h => by
    unfold bindL;rw [Um λw hw => h w (fb _ hw)];split
    · have : x ≠ n := by rintro rfl; exact h v fi
      simp [this]
    · rfl
theorem Ut {kindOf:Str->Option mv}{x:Str}:∀ {binds:List (Str×d3)} {m:Za2},(∀ v,(x,v)∉binds)->bindC kindOf binds m x=m x
  | [], _, _ => rfl
  | (n, v) :: r, m, h => by
    unfold bindC;rw [Ut λw hw => h w (fb _ hw)];split
    · rfl
    · have : x ≠ n := by rintro rfl; exact h v fi
      simp [this]
theorem Tm {kindOf:Str->Option mv}{x:Str}{v:d3}:∀{P:Za6} {vs:Za3} {i:Nat} {m:Za2},P.Nodup->P[i]?=some x->vs[i]?=some v->kindOf x=some .local ->
  bindL kindOf (P.zip vs) m x=some v
 |[],_,_,_,_,h,_,_=>by simp at h
 |_::_,[],_,_,_,_,h,_=>by simp at h
 |p::P,w::vs,0,m,nd,h1,h2,hk=>by
  simp at h1 h2;subst h1;subst h2;show bindL kindOf ((p,w)::P.zip vs) m p=_;unfold bindL;rw[Um λv hv=>(oi.mp nd).1 (rz hv).1,if_pos hk];simp
 |p::P,w::vs,i+1,m,nd,h1,h2,hk=>by
  show bindL kindOf ((p,w)::P.zip vs) m x=_;unfold bindL;exact Tm (i:=i) (oi.mp nd).2 (by simpa using h1) (by simpa using h2) hk
theorem Tt {kindOf:Str->Option mv}{x:Str}{v:d3}:∀{P:Za6} {vs:Za3} {i:Nat} {m:Za2},P.Nodup->P[i]?=some x->vs[i]?=some v->kindOf x≠some .local ->
  bindC kindOf (P.zip vs) m x=some v
 |[],_,_,_,_,h,_,_=>by simp at h
 |_::_,[],_,_,_,_,h,_=>by simp at h
 |p::P,w::vs,0,m,nd,h1,h2,hk=>by
  simp at h1 h2;subst h1;subst h2;show bindC kindOf ((p,w)::P.zip vs) m p=_;unfold bindC;rw[Ut λv hv=>(oi.mp nd).1 (rz hv).1,if_neg hk];simp
 |p::P,w::vs,i+1,m,nd,h1,h2,hk=>by
  show bindC kindOf ((p,w)::P.zip vs) m x=_;unfold bindC;exact Tt (i:=i) (oi.mp nd).2 (by simpa using h1) (by simpa using h2) hk
def Lh (N:Za6)(vs:List V):St:=vs.map some++dv (N.length-vs.length) none
def X2 (CX:CXT)(P:fh)(w:gp)(K:de)(mg:Za2)(base:i8)(N:Za6)(qual:Str)(scope:l6)(f:dk)(cd:d3)(A:ir)(outer:List Env)(s:d4)(H:Hp)(E:XK):Cx where
 prog:=P
 w:=w
 K:=K
 mg:=mg
 base:=base
 A:=A.deeper (envOfC qual scope s.heap.objs.size f cd)
 N:=N
 QN:=s
 QY:=H
 env:=envOfC qual scope s.heap.objs.size f cd
 outer:=outer
 stack:=envOfC qual scope s.heap.objs.size f cd::outer
 ex:=[]
 calm:=true
 fn:=λ_=>true
 pn:=[]
 xe:=λe s'=>wpAny (model P w) (A.deeper (envOfC qual scope s.heap.objs.size f cd)) (leaving (envOfC qual scope s.heap.objs.size f cd) e) (λ_ s''=>CX outer H s E e s'') (λe' s''=>CX outer H s E e' s'') s'
theorem Yp {sc:l6}{x:Str}(h:sc.names.lookup x=some .cell):∃c,(cellsFrom n sc.names []).lookup x=some c:=by
 have q:=zn sc.names n [] (.inl h);exact iu.mp q
theorem iT {CX:CXT}{P:fh}{K:de}{mg:Za2}{f:dk}{cd:d3}{outer:List Env}{s1:d4}{E:XK}{vs:List V}
  (S:Al N ps scope)(hd:A.handled=none)(e0:Sv P w K mg base A outer s H)(hl:vs.length=ps.length)(r:Au vs us)
  (x:InCallC s s.heap.objs.size (bindL (envOfC qual scope s.heap.objs.size f cd).kindOf (ps.zip us) λ_=>none) (cellsFrom (s.heap.objs.size+1) scope.names []) (bindC (envOfC qual scope s.heap.objs.size f cd).kindOf (ps.zip us) λ_=>none) s1) :
  Inv (X2 CX P w K mg base N qual scope f cd A outer s H E) [] (Lh N vs) H s1:=by
 have hpl:ps.length<=N.length:=by have:=congrArg k6 S.pre;rw[dy] at this;lia
 obtain⟨h1,tk,rfl,hk⟩:=x.done;have noA:∀b:dk,b∉(X2 CX P w K mg base N qual scope f cd A outer s H E).ex:=λb z=>absurd (show b∈([]:List dk) from z) (by simp);refine⟨⟨e0.mod,S.kind,rfl,rfl,dh _,λy z c h1 h2=>?_,λy hy=>?_,λy c _ h=>?_,λ_=>hd,AN e0.frames,.inr ⟨rfl,rfl⟩,λb z=>absurd z (noA b),e0.bs,e0.bsz,λb _ _=>noA b,λb z=>absurd z (noA b),e0.funs,e0.frf⟩,
  rfl,e0.bare,Un.kept hk,⟨_,x.toInCall.ns,λi y v h1 h2 h3=>?_⟩,λy c h=>⟨_,x.cell y c h⟩,e0.hok.fresh (dh _),λy c h=>?_,λp hp=>absurd (show p∈([]:Za1) from hp) (by simp),e0.hok.kept hk,?_⟩
 ·exact name_of_addr x.apart (jf h1) (jf h2)
 ·have hy:scope.names.lookup y=some .cell\/scope.names.lookup y=some .free:=hy
  rcases hy with hy|hy
  ·exact Yp hy
  ·exact absurd rfl (S.nofree _ (jf hy))
 ·exact ig (x.above y c (jf h))
 ·have hi:i<vs.length:=by
   unfold Lh at h2
   by_cases hi:i<vs.length
   ·exact hi
   ·rw[d8 (by simpa using hi)] at h2
    rw[qk] at h2;split at h2<;>cases h2
  have ha:vs[i]?=some v:=by
   unfold Lh at h2;rw[fv (by simpa using hi),du] at h2
   cases e:vs[i]? with
   |none=>rw[e] at h2;cases h2
   |some a=>rw[e] at h2;cases h2;rfl
  obtain⟨u,hu,rv⟩:=r.get ha;have hp:ps[i]?=some y:=by
   rw[<-S.pre,gq (by lia)];exact h1
  have ndP:ps.Nodup:=by rw[<-S.pre];exact S.nd.sublist (List.take_sublist _ _)
  refine⟨u,rv,?_⟩;rcases S.par y (d5 hp) with k|k
  ·exact .inl ⟨k,Tm ndP hp hu k⟩
  ·obtain⟨c,e⟩:=Yp (n:=s.heap.objs.size+1) k
   refine .inr ⟨.inl k,c,e,?_⟩;have q:=x.cell y c e;rw[Tt ndP hp hu (by show scope.names.lookup y≠_;rw[k];decide)] at q;exact q
 ·exact e0.hok.fresh (ig (x.above y c (jf h)))
 ·unfold Lh
  show _=N.length;rw[di,da,gy];lia
theorem oZ {CX:CXT}{P:fh}{K:de}{mg:Za2}{k:Nat}{f:dk}{name:Str}{body:List jc}{dV kV:d3} 
  {osl:Array (Za7)}(lk:K.lookup f=some ⟨oc,od,.func (i9 name qual params body scope dV kV doc pm an cdv ct),osl⟩)(hcd:km K cdv qual=true)(S:Al N ps scope)
  (len:∀vs H Q E,sp vs H Q E->vs.length=ps.length)
  (hbody:∀(A:ir) (outer:List Env) (s:d4) (H:Hp) (vs:List V) (Q:VK) (E:XK),Ca k (A.deeper (envOfC qual scope s.heap.objs.size f cdv))->sp vs H Q E ->
   ∃t,PSs (X2 CX P w K mg base N qual scope f cdv A outer s H E) body t/\t { nx:=λ_ H'=>Q .non H',rt:=Q } (Lh N vs) H) :
  Av P w K mg base CX (k+1) f (i9 name qual params body scope dV kV doc pm an cdv ct) ps sp:=by
 refine⟨len,λA outer s H args us vs Q E hr e0 hb r hsp=>?_⟩;have hl:=len _ _ _ _ hsp;have KX:K.In s.heap:=e0.mod.kin.keeps λb o e=>(e0.bs b o e).1;have lim:s.heap.NoLimit:=e0.mod.nolimit.keeps λb o e=>(e0.bs b o e).1;have hkind:∀y∈ps.zip us,scope.names.lookup y.1=some .local\/(scope.names.lookup y.1=some .cell/\((cellsFrom (s.heap.objs.size+1) scope.names []).lookup y.1).isSome=true):=λ⟨n,v⟩ hy=>by
  rcases S.par n (rz hy).1 with q|q
  ·exact .inl q
  ·exact .inr ⟨q,zn _ _ _ (.inl q)⟩
 refine codeAny_call_function hr.depth (KX _ _ lk) rfl S.co S.gen rfl (PySem.W.codeRec_of KX hcd) (hb _ _ _ _ ?_);refine wpAny_newFunctionEnv_cells S.kind hkind λenv he s1 x=>?_;subst he;refine⟨lim.keeps x.toInCall.keep,codeAny_func ?_⟩;obtain⟨t,ht,hq⟩:=hbody A outer s H vs Q E (hr.deeper _) hsp;have I:Inv (X2 CX P w K mg base N qual scope f cdv A outer s H E) [] (Lh N vs) H s1:=iT S hr.hd e0 hl r x;refine lz (ht [] s1 (Lh N vs) H _ I hq) (λfl s' hs=>?_) λe s' hs=>hs;have fin:∀{mt:St} {H':Hp} {v:V} {u:d3},Inv (X2 CX P w K mg base N qual scope f cdv A outer s H E) [] mt H' s'->A5 v u->Q v H'->CE outer P w H s Q u s':=
  λ{mt H' v u} J rv q=>⟨v,H',J.os,J.bare,J.base,J.hok,rv,q⟩
 cases fl with
 |ret u=>
  obtain⟨v,mt,H',J,rv,q⟩:=hs;exact fin J rv q
 |next=>
  obtain⟨mt,H',J,q⟩:=hs;exact fin (v:=V.non) (u:=ra) J rfl q
 |brk=>
  obtain⟨_,_,_,q⟩:=hs;exact jm q
 |cont=>
  obtain⟨_,_,_,q⟩:=hs;exact jm q
section
variable {X:Cx} {x:Str} {p pos:Pos} {e:ie} {es:List ie} {t:TA} {id T:String} {r:List V->Hp->VK->Prop}
def tCB (r:List V->Hp->VK->Prop)(t:TA):TE:=λG H Q=>t G H λvs H1=>r vs H1 Q
theorem Ak (hc:E9 X (.builtin id) r)(hg:Gl X x)(hm:X.mg x=none)(hv:bootBuiltins x=some (.builtin id))(ha:PA X (e::es) t)(hn:autoParam (x≠"__name__") QF)(hdb:autoParam ((x==("__debug__":Str))=false) QF)
  (he:autoParam (starEach (e::es) X.env=(false,eval e X.env)::starEach es X.env) QD)(hpl:autoParam ((backTo pos (starEach es X.env)).any (·.1)=false) QD):PE X (.Call (.Name x p) (e::es) [] pos) (tCB r t):=by
 k_in;refine wpAny_Call_Name_kw (Df I hg hm hv ?_ hn hdb);exact HA (thA ha I h λus s1 vs H1 I1 r1 q1=>hc pins s1 G H1 vs us Q I1 r1 q1) he hpl
theorem De (hc:E9 X (.type T) r)(hg:Gl X x)(hm:X.mg x=none)(hv:bootBuiltins x=some (.type T))(ha:PA X (e::es) t)(hn:autoParam (x≠"__name__") QF)(hdb:autoParam ((x==("__debug__":Str))=false) QF)
  (he:autoParam (starEach (e::es) X.env=(false,eval e X.env)::starEach es X.env) QD)(hpl:autoParam ((backTo pos (starEach es X.env)).any (·.1)=false) QD):PE X (.Call (.Name x p) (e::es) [] pos) (tCB r t):=by
 k_in;refine wpAny_Call_Name_kw (Df I hg hm hv ?_ hn hdb);exact gn (thA ha I h λus s1 vs H1 I1 r1 q1=>hc pins s1 G H1 vs us Q I1 r1 q1) he hpl
end
end L2
namespace HT
open PySem PyProof.Rows
section
open PySem.SeqAt
open PySem.AutoSeq1 (wpAny_loadPart')
open PySem.MeetsSeq PySem.MeetsSeq2 PySem.MeetsSeq3
end
section
variable {prog:fh} {w:gp} {A:ir} {E:Za0} {s:d4}
def sIx (n d:Nat):Option Int->Nat
 |none=>d
 |some v=>if v<0 then(v+(n:Int)).toNat else min v.toNat n
theorem sIx_nat (n d k:Nat):sIx n d (some (k:Int))=min k n:=by
 show(if(k:Int)<0 then((k:Int)+(n:Int)).toNat else min (k:Int).toNat n)=min k n;rw[if_neg (by lia),ge]
theorem sIx_le (n d:Nat)(hd:d<=n)(o:Option Int):sIx n d o<=n:=by
 cases o with
 |none=>exact hd
 |some v=>
  show(if v<0 then(v+(n:Int)).toNat else min v.toNat n)<=n
  by_cases hv:v<0
  ·rw[if_pos hv];lia
  ·rw[if_neg hv];exact uu _ _
theorem gJ (v:Int)(n d:Nat):(if v<0 then max (v+(n:Int)) 0 else min v (n:Int))=((sIx n d (some v):Nat):Int):=by
 show(if v<0 then max (v+(n:Int)) 0 else min v (n:Int))=(((if v<0 then(v+(n:Int)).toNat else min v.toNat n):Nat):Int)
 by_cases hv:v<0
 ·simp only[if_pos hv];lia
 ·simp only[if_neg hv]
  obtain⟨m,rfl⟩:=qq (HP.mp hv);rw[ge];lia
theorem cR (lo hi:Option Int)(n:Nat):rk lo hi 1 (n:Int)=(((sIx n 0 lo:Nat):Int),((sIx n n hi:Nat):Int)):=by
 have h1:¬((1:Int)<0):=by lia
 unfold rk;simp only[h1,if_false];refine BB ?_ ?_
 ·cases lo with
  |none=>rfl
  |some v=>exact gJ v n 0
 ·cases hi with
  |none=>rfl
  |some v=>exact gJ v n n
theorem dJ (i j:Nat):ol (i:Int) (j:Int) 1=j-i:=by
 unfold ol;have h1:(1:Int)>0:=by lia
 simp only[h1,if_true,FV];split<;>lia
theorem R9 {v:d3}{o:Option Int}{Q:Option Int->d4->Prop}(p:xk v o)(h:Q o s):wpAny (model prog w) A (FX v) Q E s:=by
 cases p with
 |none=>exact HL h
 |int i t=>exact slicePart_int h
theorem sliceApplied_gen {sl:dk}{vl vu:d3}{lo hi:Option Int}{n:Nat}{Q:Int×Int×Nat->d4->Prop}(hs:s.heap.IsSliceOf sl vl vu .none)(pl:xk vl lo)(pu:xk vu hi)
  (h:Q (((sIx n 0 lo:Nat):Int),1,sIx n n hi-sIx n 0 lo) s):wpAny (model prog w) A (w4 (.ref sl) (pure (n:Int))) Q E s:=by
 obtain⟨os,hos,hcs,hds⟩:=id hs;unfold w4 FY;refine wpAny_bind (wpAny_bind (mn hos hds (x:=vl) rfl (wpAny_bind (mn hos hds (x:=vu) rfl (wpAny_bind (mn hos hds (x:=.none) rfl (dw ?_)))))));refine wpAny_bind (HL ?_);show wpAny _ _ (if((1:Int)==0)=true then _ else _) _ _ s;rw[if_neg (by decide)];refine wpAny_bind (R9 pl (wpAny_bind (R9 pu (wpAny_bind (dw ?_)))));show wpAny _ _ (match rk lo hi 1 (n:Int) with|(lo,hi)=>pure (lo,(1:Int),ol lo hi 1)) _ _ s;rw[cR lo hi n];show wpAny _ _ (pure (((sIx n 0 lo:Nat):Int),(1:Int),ol ((sIx n 0 lo:Nat):Int) ((sIx n n hi:Nat):Int) 1)) _ _ s;rw[dJ];exact dw h
theorem mG (xs:Array d3)(i k:Nat):((d7 k).filterMap λ(m:Nat)=>xs[((i:Int)+(m:Int)*1).toNat]?).toArray=((xs.toList.drop i).take k).toArray:=by
 have e:(λ(m:Nat)=>xs[((i:Int)+(m:Int)*1).toNat]?)=λm=>xs[i+m]?:=by
  funext m
  have:((i:Int)+(m:Int)*1).toNat=i+m:=by lia
  rw[this]
 rw[e];have:=HM xs i k;rw[List.filterMap_map] at this;have e2:((λx=>xs[x]?) ∘ λx=>i+x)=λm=>xs[i+m]?:=rfl;rw[e2] at this;rw[this]
theorem getItem_tuple_cut {t sl:dk}{items:Array d3}{vl vu:d3}{lo hi:Option Int}{Q:Za0}(ht:IsTup s.heap t items)(hs:s.heap.IsSliceOf sl vl vu .none)(pl:xk vl lo)(pu:xk vu hi)
  (hw:¬(sIx items.size 0 lo=0/\sIx items.size items.size hi=items.size))
  (h:Q (.ref s.heap.objs.size) { s with heap:=s.heap.push { cls:=.type "tuple",data:=.seq ((items.toList.drop (sIx items.size 0 lo)).take (sIx items.size items.size hi-sIx items.size 0 lo)).toArray } })
  (hsz:items.size<=sizeLine):wpAny (model prog w) A (getItem (.ref t) (.ref sl)) Q E s:=by
 have htake:sizeOk (.seq ((items.toList.drop (sIx items.size 0 lo)).take (sIx items.size items.size hi-sIx items.size 0 lo)).toArray):=by
  show((items.toList.drop (sIx items.size 0 lo)).take (sIx items.size items.size hi-sIx items.size 0 lo)).toArray.size<=sizeLine;rw[ej,dy,io,eh];exact fq (uu _ _) (fq (CT _ _) hsz)
 have hj:sIx items.size items.size hi<=items.size:=sIx_le _ _ (dh _) hi;obtain⟨os,hos,hcs,hds⟩:=id hs;have hTs:s.TypeIs (.ref sl) "slice":=⟨os,hos,hcs⟩;unfold getItem
 try with_reducible refine wpAny_holding ?_
 first|refine wpAny_bind (dw ?_)|skip
 refine wpAny_bind (ES ht.typeIs (by decide) ?_);refine wpAny_bind (qz (name:=kr "__getitem__") ht.typeIs jq
  (p8 jq ht.typeIs entry_tuple_getitem ?_ (EK _ _)))
 show wpAny _ _ (wy (.ref t) >>= _) _ _ s;refine wpAny_bind (HW ht ?_);refine wpAny_bind (vz hTs ?_);rw[if_pos (by decide)];refine wpAny_bind (sliceApplied_gen hs pl pu ?_);have hno:¬((((sIx items.size 0 lo:Nat):Int)==0&&(1:Int)==1&&(sIx items.size items.size hi-sIx items.size 0 lo)==items.size)=true):=by
  intro q;rw[nz,nz] at q;have q1:((sIx items.size 0 lo:Nat):Int)=0:=eq_of_beq q.1.1;have q2:sIx items.size items.size hi-sIx items.size 0 lo=items.size:=eq_of_beq q.2;exact hw ⟨by lia,by lia⟩
 show wpAny _ _ (if(((sIx items.size 0 lo:Nat):Int)==0&&(1:Int)==1&&(sIx items.size items.size hi-sIx items.size 0 lo)==items.size)=true then _ else _) _ _ s;rw[if_neg hno,mG]
 first
  |exact wpAny_bind (m:=ox _) (ki (dw ⟨_,rfl,dw h⟩) htake)
  |exact wpAny_bind (m:=ox _) (ki (wpAny_bind (dw (dw ⟨_,rfl,dw h⟩))) htake)
  |exact wpAny_bind (wpAny_bind (m:=ox _) (ki (dw (dw ⟨_,rfl,dw h⟩)) htake))
  |exact wpAny_bind (wpAny_bind (m:=ox _) (ki (dw ⟨_,rfl,dw h⟩) htake))
end
end HT
namespace L2
open PySem PySem.Spec PyProof.Rows
variable {C CB CC CL Pt dx i1 i2 it l1 l2 z:dk} {params:l8} {A:ir} {op:vw} {X:Cx} {D:Go} {env:Env} {iter tg:ie} {fd:jk} {base h h':i8} {H H' H1 H2:Hp} {J:It} {pins:Za1} {fp:List dk} {kz ns:List Int} {l0:List fg} {cs ix:Za4} {N ps:Za6} {xs ys:List V} {us vs:Za3} {M:wo} {n t':Nat} {oT:Obj} {an od:Option dk} {lpos p pos pos2:Pos} {B:Prop} {scope:l6} {pl:Sem Bool} {s s2:d4} {sp:Sp} {qual:Str} {te:TE} {wi:TI} {y:V} {cdv ct doc oc pm:d3} {w:gp}
abbrev TO:=St->Hp->(Option Int->Hp->Prop)->Prop
def PO (X:Cx)(e:Option ie)(t:TO):Prop:=
 ∀(pins:Za1) (s:d4) (G:St) (H:Hp) (Q:Option Int->Hp->Prop),Inv X pins G H s->t G H Q ->
  wpAny (model X.prog X.w) X.A (evalPart e X.env) (λu s'=>∃o H',Inv X pins G H' s'/\xk u o/\Q o H') X.xe s
def gP:TO:=λ_ H Q=>Q none H
def uF (t:TE):TO:=λG H Q=>t G H λx H1=>∃i,x=.int i/\Q (some i) H1
theorem Rg:∀{us:Za3},Au (ns.map V.int) us->lf us ns:=by
 induction ns with
 |nil=>intro us r;rw[o7] at r;cases r;exact .nil
 |cons n ns ih=>
  intro us r;rw[ft] at r
  cases r with
  |cons r1 r2=>
   obtain⟨t,e⟩:=r1;subst e;exact .cons n t (ih r2)
section
variable {X:Cx} {e:ie} {te:TE} {lo hi:Option ie} {tl th:TO} {pos p2:Pos}
theorem Ks:PO X none gP:=by
 k_in;rw[yb];exact dw ⟨none,H,I,.none,h⟩
theorem Fp (h:PE X e te):PO X (some e) (uF te):=by
 intro pins s G H Q I hw;rw[evalPart_some];refine thE h I hw λu s1 x H1 I1 r1 q1=>?_;obtain⟨i,rfl,q⟩:=q1;obtain⟨t,rfl⟩:=r1;exact⟨some i,H1,I1,.int i t,q⟩
def SlR (X:Cx)(r:V->Option Int->Option Int->Hp->VK->Prop):Prop:=
 ∀(pins:Za1) (s:d4) (G:St) (H:Hp) (x:V) (v vl vu:d3) (lo hi:Option Int) (sl:dk) (Q:VK),Inv X pins G H s->A5 x v->s.heap.IsSliceOf sl vl vu .none->xk vl lo->xk vu hi->r x lo hi H Q ->
  ∃T id,typeLookup (.type T) "__getitem__"=pure (some (.builtin id))/\s.TypeIs v T/\wpAny (model X.prog X.w) X.A (getItem v (.ref sl)) (EP X pins G Q) X.xe s
def tSl (r:V->Option Int->Option Int->Hp->VK->Prop)(te:TE)(tl th:TO):TE:=λG H Q=>te G H λx H1=>tl G H1 λl H2=>th G H2 λu H3=>r x l u H3 Q
theorem Fv {r:V->Option Int->Option Int->Hp->VK->Prop}(hr:SlR X r)(he:PE X e te)(hl:PO X lo tl)(hu:PO X hi th):PE X (.Subscript e (.Slice lo hi none p2) pos) (tSl r te tl th):=by
 k_in;refine Subscript_ (thE he I h λv s1 x H1 I1 r1 q1=>?_);refine DO (thn (hl pins s1 G H1 _ I1 q1) λvl s2 ⟨l,H2,I2,pl,q2⟩=>thn (hu pins s2 G H2 _ I2 q2) λvu s3 ⟨u,H3,I3,pu,q3⟩=>?_);rw[yb];refine dw ?_;have I4:Inv X pins G H3 { s3 with heap:=s3.heap.push { cls:=.type "slice",data:=.fields #[vl,vu,.none] } }:=I3.kept (t':=s3.toks) λb ob q=>dj _ q;obtain⟨T,id,hT,ht,hg⟩:=hr pins { s3 with heap:=s3.heap.push { cls:=.type "slice",data:=.fields #[vl,vu,.none] } } G H3 x v vl vu l u s3.heap.objs.size Q I4 r1 (yx ..) pl pu q3;show wpAny (model X.prog X.w) X.A (subscriptTail e (.Slice lo hi none p2) v (.ref s3.heap.objs.size)) (EP X pins G Q) X.xe { s3 with heap:=s3.heap.push { cls:=.type "slice",data:=.fields #[vl,vu,.none] } };exact DP (ops:=[.ref s3.heap.objs.size,v]) ht hT hg (by with_unfolding_all rfl)
def G5 (xs:List V)(lo hi:Option Int):List V:=(xs.drop (HT.sIx xs.length 0 lo)).take (HT.sIx xs.length xs.length hi-HT.sIx xs.length 0 lo)
theorem Ow (xs:List V)(lo hi:Option Int):(G5 xs lo hi).length<=xs.length:=by
 unfold G5;rw[dy,io];exact fq (uu _ _) (CT _ _)
def Ab4 (K:de):V->Option Int->Option Int->Hp->VK->Prop:=λx lo hi H Q=>∃a xs,x=.ref a/\SqT K H a xs /\
 ¬(HT.sIx xs.length 0 lo=0/\HT.sIx xs.length xs.length hi=xs.length)/\∀p,H p=none->Q (.ref p) (upd H p (.tup (G5 xs lo hi)))
theorem wZ:SlR X (Ab4 X.K):=by
 intro pins s G H x v vl vu lo hi sl Q I rx hs pl pu h;obtain⟨a,xs,rfl,hx,hw,q⟩:=h;cases rx;obtain⟨its,r,ht,hz⟩:=I.tuple hx;have hlen:its.toArray.size=xs.length:=by rw[ej];exact r.length.symm
 refine⟨"tuple",_,jq.lookup,ht.typeIs,?_⟩;refine HT.getItem_tuple_cut ht hs pl pu (by rw[hlen];exact hw) ?_ (by rw[hlen];exact hz);rw[hlen];refine⟨.ref s.heap.objs.size,_,I.laid (t':=s.toks) (o:=.tup (G5 xs lo hi)) (λb ob q=>dj _ q) (dh _) ?_,rfl,q _ (I.hok.fresh (dh _))⟩;exact⟨fq (Ow xs lo hi) hz,_,(r.drop (HT.sIx xs.length 0 lo)).take (HT.sIx xs.length xs.length hi-HT.sIx xs.length 0 lo),HE _ _⟩
end
def ixN (n:Nat)(i:Int):Option Nat:=if 0<=i then(if i<n then some i.toNat else none) else if -(n:Int)<=i then some (i+n).toNat else none
def atI {α:Type}(xs:List α)(i:Int):Option α:=(ixN xs.length i).bind λj=>xs[j]?
theorem dU {i:Int}{j:Nat}(h:ixN n i=some j):seqIndex? i n=some j/\j<n/\-(n:Int)<=i/\i<n:=by
 unfold ixN at h
 by_cases h0:0<=i
 ·rw[if_pos h0] at h
  by_cases h1:i<n
  ·rw[if_pos h1] at h
   have e:i.toNat=j:=dr h;exact⟨by rw[zt h0 h1,e],by lia,by lia,h1⟩
  ·rw[if_neg h1] at h;cases h
 ·rw[if_neg h0] at h
  by_cases h1:-(n:Int)<=i
  ·rw[if_pos h1] at h
   have e:(i+n).toNat=j:=dr h;exact⟨by rw[yz (by lia) h1,e],by lia,h1,by lia⟩
  ·rw[if_neg h1] at h;cases h
theorem Vz {α:Type}{xs:List α}{i:Int}{v:α}(h:atI xs i=some v):∃j,seqIndex? i xs.length=some j/\xs[j]?=some v/\j<xs.length/\-(xs.length:Int)<=i/\i<xs.length:=by
 unfold atI at h
 cases e:ixN xs.length i with
 |none=>rw[e] at h;cases h
 |some j=>
  rw[e] at h;obtain⟨h1,h2,h3,h4⟩:=dU e;exact⟨j,h1,h,h2,h3,h4⟩
theorem A0 {α:Type}{xs:List α}{j:Nat}{v:α}(h:xs[j]?=some v):atI xs (j:Int)=some v:=by
 have hj:j<xs.length:=(d9.mp h).1;have e:ixN xs.length (j:Int)=some j:=by
  unfold ixN;rw[if_pos (by lia),if_pos (by lia)];simp
 unfold atI;rw[e];exact h
theorem Xi {α:Type}(xs:List α)(v:α):atI (xs++[v]) (-1)=some v:=by
 have hl:(xs++[v]).length=xs.length+1:=by simp
 have e:ixN (xs++[v]).length (-1)=some xs.length:=by
  unfold ixN;rw[hl,if_neg (by decide),if_pos (by lia)];congr 1;lia
 unfold atI;rw[e];show(xs++[v])[xs.length]?=some v;simp
def eQ (b:ie):Prop:=∀o i,subscripted b false o i=operate [o,i] (getItem o i)
def IxR (X:Cx)(r:R2):Prop:=
 ∀(value Mi:ie) (pins:Za1) (s:d4) (G:St) (H:Hp) (x y:V) (v u:d3) (Q:VK),Inv X pins G H s->A5 x v->A5 y u->r x y H Q ->
  subscripted Mi false v u=operate [v,u] (getItem v u)->wpAny (model X.prog X.w) X.A (subscriptTail value Mi v u) (EP X pins G Q) X.xe s
def MtR (X:Cx)(id:String)(r:V->List V->Hp->VK->Prop):Prop:=
 ∀(pins:Za1) (s:d4) (G:St) (H:Hp) (x:V) (xs:List V) (v:d3) (us:Za3) (Q:VK),Inv X pins G H s->A5 x v->Au xs us->r x xs H Q ->
  wpAny (model X.prog X.w) X.A (call (.builtin id) (v::us)) (EP X pins G Q) X.xe s
section
variable {X:Cx} {a b:ie} {ta tb:TE} {pos:Pos}
theorem Aa2 {r:R2}(hr:IxR X r)(ha:PE X a ta)(hb:PE X b tb)(hs:eQ b):PE X (.Subscript a b pos) (tOp r ta tb):=by
 k_in;exact Subscript_ (xU ha hb I h λv u s2 x y H2 I2 rx ry q=>hr a b pins s2 G H2 x y v u Q I2 rx ry q (hs _ _))
def rC (K:de):R2:=λx y H Q=>∃p xs i v,x=.ref p/\y=.int i/\SqL K H p xs/\atI xs i=some v/\Q v H
def vH (K:de):R2:=λx y H Q=>∃p xs i v,x=.ref p/\y=.int i/\SqT K H p xs/\atI xs i=some v/\Q v H
theorem Bn:IxR X (rC X.K):=by
 intro value Mi pins s G H x y v u Q I rx ry h hs;obtain⟨p,xs,i,z,rfl,rfl,hq,he,q⟩:=h;cases rx;obtain⟨t,rfl⟩:=ry;obtain⟨its,r,pl,hz⟩:=I.list hq;obtain⟨j,h1,h2,h3,h4,h5⟩:=Vz he;obtain⟨w,ew,rw'⟩:=r.get h2;have hl:=r.length;have hn:=Kh;have fin:EP X pins G Q w s:=⟨z,H,I,rw',q⟩
 by_cases h0:0<=i
 ·have hj:i.toNat=j:=by
   rw[zt h0 h5] at h1;exact dr h1
  exact item_listR pl.isList h0 (by lia) (by rw[hj];simpa using ew) fin hs
 ·have hj:(i+(its.toArray.size:Int)).toNat=j:=by
   rw[yz (by lia) h4] at h1;rw[ej,<-hl];exact dr h1
  exact CM (x:=w) pl.isList.typeIs slot_list_getitem.lookup
   (CK (Q:=λr s'=>r=w/\EP X pins G Q r s') pl.isList (by lia) (by rw[ej]<;>lia) (by lia) (by rw[hj];simpa using ew) ⟨rfl,fin⟩) hs
theorem Do:IxR X (vH X.K):=by
 intro value Mi pins s G H x y v u Q I rx ry h hs;obtain⟨p,xs,i,z,rfl,rfl,hq,he,q⟩:=h;cases rx;obtain⟨t,rfl⟩:=ry;obtain⟨its,r,pl,hz⟩:=I.tuple hq;obtain⟨j,h1,h2,h3,h4,h5⟩:=Vz he;obtain⟨w,ew,rw'⟩:=r.get h2;have hl:=r.length;have hn:=Kh;have fin:EP X pins G Q w s:=⟨z,H,I,rw',q⟩;exact CM (x:=w) pl.typeIs slot_tuple_getitem.lookup
  (getItem_tuple (j:=j) (Q:=λr s'=>r=w/\EP X pins G Q r s') pl (by lia) (by lia) (by rw[ej,<-hl];exact h1) (by simpa using ew) ⟨rfl,fin⟩) hs
theorem cY (its:Za3)(n j:Nat)(u:d3):jp (·.setIfInBounds j u) { cls:=.type "list",data:=.seq its.toArray n }={ cls:=.type "list",data:=.seq (its.set j u).toArray n }:=by
 simp[jp]
theorem Inv.lst {G:St}{p:dk}(I:Inv X pins G H s)(h:H p=some (.lst xs)) :
  ∃(its:Za3) (n:Nat),Au xs its/\s.heap.get? p=some { cls:=.type "list",data:=.seq its.toArray n }/\xs.length<=sizeLine:=by
 obtain⟨z,its,n,r,e⟩:=I.hok p _ h;exact⟨its,n,r,e,z⟩
theorem Inv.lstUpd {G:St}{p:dk}{its its':Za3}{n':Nat}{f:Obj->Obj}(I:Inv X pins G H s)(h:H p=some (.lst xs))
  (ho:s.heap.get? p=some { cls:=.type "list",data:=.seq its.toArray n })(hf:f { cls:=.type "list",data:=.seq its.toArray n }={ cls:=.type "list",data:=.seq its'.toArray n' })(r:Au ys its')(hz:ys.length<=sizeLine)(t:Nat) :
  Inv X pins G (upd H p (.lst ys)) { s with heap:=s.heap.update p f,toks:=t }:=by
 have e:(s.heap.update p f).get? p=some { cls:=.type "list",data:=.seq its'.toArray n' }:=by
  rw[vp f ho (by rw[hf]<;>rfl),hf]
 refine I.write (x:=p) (e:=p) (by rw[h];trivial) (.inl rfl) (λb u hb q=>(kq _ _ (rq hb)).trans q) ⟨_,e⟩ ?_;exact⟨hz,its',n',r,e⟩
def tU:V->V->V->Hp->(Hp->Prop)->Prop:=λo i v H Q=>∃p xs k j,o=.ref p/\i=.int k/\H p=some (.lst xs)/\ixN xs.length k=some j/\Q (upd H p (.lst (xs.set j v)))
theorem Ga:sM X tU:=by
 intro pins s G H o i v ov iv u Q I ro ri rv h;obtain⟨p,xs,k,j,rfl,rfl,hp,hj,q⟩:=h;cases ro;obtain⟨t,rfl⟩:=ri;obtain⟨its,n,r,ho,hz⟩:=I.lst hp;obtain⟨h1,h2,h3,h4⟩:=dU hj;have hl:=r.length;have hn:=Kh;have I':Inv X pins G (upd H p (.lst (xs.set j v))) { s with heap:=s.heap.update p (jp (·.setIfInBounds j u)) }:=
  I.lstUpd hp ho (cY its n j u) (r.set rv j) (by rw[my];exact hz) s.toks
 by_cases h0:0<=k
 ·have hk:k.toNat=j:=by
   rw[zt h0 h4] at h1;exact dr h1
  exact PySem.W.ki_setAt ho h0 (by lia) (by rw[ej,<-hl];exact h4) (by rw[hk];exact⟨_,I',q⟩)
 ·have hk:(k+(its.toArray.size:Int)).toNat=j:=by
   rw[yz (by lia) h3] at h1;rw[ej,<-hl];exact dr h1
  exact PySem.W.ki_setBack ho (by lia) (by rw[ej,<-hl];exact h3) (by lia) (by rw[hk];exact⟨_,I',q⟩)
theorem Wc (lo hi:Option Int)(n:Nat):(sliceBounds lo hi none n).1=((HT.sIx n 0 lo:Nat):Int)/\(sliceBounds lo hi none n).2.1=((HT.sIx n n hi:Nat):Int)/\(sliceBounds lo hi none n).2.2=1:=by
 refine⟨?_,?_,rfl⟩
 ·cases lo with
  |none=>simp[sliceBounds,HT.sIx]
  |some i=>
   simp only[sliceBounds,HT.sIx,BY,show(1:Int)>0 by decide,if_true]
   by_cases h:i<0
   ·simp only[h,if_true]<;>lia
   ·simp only[h,if_false]
    obtain⟨m,rfl⟩:=qq (HP.mp h);rw[ge];lia
 ·cases hi with
  |none=>simp[sliceBounds,HT.sIx]
  |some i=>
   simp only[sliceBounds,HT.sIx,BY,show(1:Int)>0 by decide,if_true]
   by_cases h:i<0
   ·simp only[h,if_true]<;>lia
   ·simp only[h,if_false]<;>lia
theorem S8 (its:Za3)(lo hi:Option Int):slicePick its.toArray lo hi none=((its.drop (HT.sIx its.length 0 lo)).take (HT.sIx its.length its.length hi-HT.sIx its.length 0 lo)).toArray:=by
 obtain⟨h1,h2,h3⟩:=Wc lo hi its.toArray.size;unfold slicePick;rw[h1,h2,h3];simp only[HK,HM,ej]<;>rfl
def Ab5 (K:de):V->Option Int->Option Int->Hp->VK->Prop:=λx lo hi H Q=>∃a xs,x=.ref a/\SqL K H a xs/\∀p,H p=none->Q (.ref p) (upd H p (.lst (G5 xs lo hi)))
theorem Kx:SlR X (Ab5 X.K):=by
 intro pins s G H x v vl vu lo hi sl Q I rx hs pl pu h;obtain⟨a,xs,rfl,hx,q⟩:=h;cases rx;obtain⟨its,r,ht,hz⟩:=I.list hx;have hlen:=r.length;refine⟨"list",_,slot_list_getitem.lookup,ht.isList.typeIs,?_⟩;refine BI ht.isList hs pl pu .none (by simp) ?_ (by rw[ej]<;>lia)
 rw[S8,<-hlen];refine⟨.ref s.heap.objs.size,_,I.laid (t':=s.toks) (o:=.lst (G5 xs lo hi)) (λb ob q=>dj _ q) (dh _) ?_,rfl,q _ (I.hok.fresh (dh _))⟩;exact⟨fq (Ow xs lo hi) hz,_,0,(r.drop (HT.sIx xs.length 0 lo)).take (HT.sIx xs.length xs.length hi-HT.sIx xs.length 0 lo),fu _ rfl⟩
def Kd:V->Bool
 |.non=>true
 |.bl _=>true
 |.int _=>true
 |.str _=>true
 |_=>false
def eqV:V->V->Bool
 |.non,.non=>true
 |.bl a,.bl b=>a==b
 |.bl a,.int b=>(if a then 1 else 0)==b
 |.int a,.bl b=>a==(if b then 1 else 0)
 |.int a,.int b=>a==b
 |.str a,.str b=>a==b
 |_,_=>false
theorem qE {x:V}{u v:d3}(ry:A5 y u)(rx:A5 x v)(fy:Kd y=true)(fx:Kd x=true):BK A s u v (eqV y x):=by
 cases y with
 |non=>
  cases ry
  cases x with
  |non=>cases rx;exact IG _
  |bl b=>cases rx;exact IJ b
  |int b=>obtain⟨t,rfl⟩:=rx;exact II b t
  |str b=>obtain⟨t,rfl⟩:=rx;exact IH b t
  |_=>exact absurd (show false=true from fx) fk
 |bl a=>
  cases ry
  cases x with
  |non=>cases rx;exact IP a
  |bl b=>cases rx;exact IR a b
  |int b=>obtain⟨t,rfl⟩:=rx;exact IQ a b t
  |str b=>obtain⟨t,rfl⟩:=rx;exact IN a b t
  |_=>exact absurd (show false=true from fx) fk
 |int a=>
  obtain⟨t',rfl⟩:=ry
  cases x with
  |non=>cases rx;exact IK a t'
  |bl b=>cases rx;exact IM a t' b
  |int b=>obtain⟨t,rfl⟩:=rx;exact IL a t' b t
  |str b=>obtain⟨t,rfl⟩:=rx;exact zw a t' b t
  |_=>exact absurd (show false=true from fx) fk
 |str a=>
  obtain⟨t',rfl⟩:=ry
  cases x with
  |non=>cases rx;exact IE a t'
  |bl b=>cases rx;exact IF a t' b
  |int b=>obtain⟨t,rfl⟩:=rx;exact zu a t' b t
  |str b=>obtain⟨t,rfl⟩:=rx;exact ID a t' b t
  |_=>exact absurd (show false=true from fx) fk
 |_=>exact absurd (show false=true from fy) fk
def eqU (x:V)(u:d3):Bool:=match u with
 |.none=>eqV .non x
 |.bool b=>eqV (.bl b) x
 |.int i _=>eqV (.int i) x
 |.str z _=>eqV (.str z) x
 |_=>false
theorem lJ {x:V}{u:d3}(r:A5 y u)(f:Kd y=true):eqU x u=eqV y x:=by
 cases y with
 |non=>cases r;rfl
 |bl b=>cases r;rfl
 |int i=>obtain⟨t,rfl⟩:=r;rfl
 |str z=>obtain⟨t,rfl⟩:=r;rfl
 |_=>exact absurd (show false=true from f) fk
theorem Yb {A:ir}{s:d4}{x:V}{v:d3}(rx:A5 x v)(fx:Kd x=true):∀{xs:List V} {us:Za3},Au xs us->xs.all Kd=true->∀u∈us,BK A s u v (eqU x u)
 |_,_,.nil,_=>λu hu=>by cases hu
 |y::xs,u::us,.cons r t,f=>λu' hu=>by
  rw[List.all_cons,nz] at f;rcases gt.mp hu with rfl|hu
  ·rw[lJ r f.1];exact qE r rx f.1 fx
  ·exact Yb rx fx t f.2 u' hu
theorem Ao:E9 X (.builtin "len") (λxs H Q=>∃p ys,xs=[.ref p]/\(SqL X.K H p ys\/SqT X.K H p ys)/\Q (.int ys.length) H):=by
 intro pins s G H xs us Q I r h;obtain⟨p,ys,rfl,hq,q⟩:=h;obtain⟨u,rfl,rx⟩:=En r;cases rx;have hn:=Kh;rcases hq with hq|hq
 ·obtain⟨its,r',pl,hz⟩:=I.list hq
  have hlen:=r'.length;exact Calls.call_len_list pl.isList (by simp only[ej]<;>lia) ⟨.int ys.length,H,I.tok _,⟨s.toks+1,by rw[ej,hlen]⟩,q⟩
 ·obtain⟨its,r',pl,hz⟩:=I.tuple hq
  have hlen:=r'.length;exact len_tuple pl (by simp only[ej]<;>lia) ⟨.int ys.length,H,I.tok _,⟨s.toks+1,by rw[ej,hlen]⟩,q⟩
theorem F5:E9 X (.builtin "len") (λxs H Q=>∃z,xs=[.str z]/\z.length<=sizeLine/\Q (.int z.length) H):=by
 intro pins s G H xs us Q I r h;obtain⟨z,rfl,hz,q⟩:=h;obtain⟨u,rfl,t,rfl⟩:=En r;have hn:=Kh;exact len_str (by lia) ⟨.int z.length,H,I.tok _,⟨_,rfl⟩,q⟩
theorem Et:E9 X (.type "list") (λxs H Q=>∃p ys,xs=[.ref p]/\(SqL X.K H p ys\/SqT X.K H p ys)/\∀l,H l=none->Q (.ref l) (upd H l (.lst ys))):=by
 intro pins s G H xs us Q I r h;obtain⟨p,ys,rfl,hq,q⟩:=h;obtain⟨u,rfl,rx⟩:=En r;cases rx;have fin:∀(its:Za3),Au ys its->ys.length<=sizeLine->∀(h':i8) (c':Nat),(∀b o',s.heap.get? b=some o'->h'.get? b=some o') ->
   h'.get? s.heap.objs.size=some { cls:=.type "list",dict:=none,data:=.seq its.toArray c',slots:=#[] }->EP X pins G Q (.ref s.heap.objs.size) { s with heap:=h' }:=λits r' hz h' c' kp e=>
  ⟨.ref s.heap.objs.size,_,I.laid (t':=s.toks) kp (dh _) (show Ck X.prog X.w _ h' _ (.lst ys) from⟨hz,its,c',r',e⟩),rfl,q _ (I.hok.fresh (dh _))⟩
 rcases hq with hq|hq
 ·obtain⟨its,r',pl,hz⟩:=I.list hq
  have hlen:=r'.length;obtain⟨o,ho,hc,n,hd⟩:=pl.isList;exact HZ p (.inl rfl) ho hc hd (λh' c' kp e=>fin its r' hz h' c' kp e) (by simp only[ej]<;>lia)
 ·obtain⟨its,r',pl,hz⟩:=I.tuple hq
  have hlen:=r'.length;obtain⟨o,ho,hc,n,hd⟩:=pl;exact HZ p (.inr rfl) ho hc hd (λh' c' kp e=>fin its r' hz h' c' kp e) (by simp only[ej]<;>lia)
theorem Hb:E9 X (.type "tuple") (λxs H Q=>∃p ys,xs=[.ref p]/\((SqL X.K H p ys/\∀l,H l=none->Q (.ref l) (upd H l (.tup ys)))\/(SqT X.K H p ys/\Q (.ref p) H))):=by
 intro pins s G H xs us Q I r h;obtain⟨p,ys,rfl,h⟩:=h;obtain⟨u,rfl,rx⟩:=En r;cases rx;rcases h with⟨hq,q⟩|⟨hq,q⟩
 ·obtain⟨its,r',pl,hz⟩:=I.list hq
  have hlen:=r'.length;refine call_tuple_list pl.isList (λh' kp=>?_) (by simp only[ej]<;>lia)
  have I1:Inv X pins G H { s with heap:=h' }:=I.kept (t':=s.toks) kp;have I2:Inv X pins G (upd H h'.objs.size (.tup ys)) { s with heap:=h'.push { cls:=.type "tuple",data:=.seq its.toArray } }:=
   I1.laid (t':=s.toks) (λb o e=>dj _ e) (dh _) (show Ck X.prog X.w _ _ _ (.tup ys) from⟨hz,its,r',HE _ _⟩)
  exact⟨.ref h'.objs.size,_,I2,rfl,q _ (I1.hok.fresh (dh _))⟩
 ·obtain⟨its,r',pl,hz⟩:=I.tuple hq
  exact call_tuple_same pl ⟨.ref p,H,I,rfl,q⟩
def tyV (K:de)(T:String)(x:V)(H:Hp):Prop:=match x with
 |.str _=>T="str"
 |.int _=>T="int"
 |.ref p=>(T="list"/\∃xs,SqL K H p xs)\/(T="tuple"/\∃o,K.lookup p=some o/\o.cls=.type "tuple"/\o.dict=none) \/
   (T="dict"/\((∃kvs,H p=some (.dK kvs))\/∃kvs,H p=some (.dT kvs)))\/(T="set"/\∃S n,H p=some (.set S n))
 |_=>False
theorem pT {G:St}{T:String}{x:V}{v:d3}(I:Inv X pins G H s)(r:A5 x v)(ty:tyV X.K T x H) :
  s.TypeIs v T/\∀a,v=.ref a->∃ob,s.heap.get? a=some ob/\ob.dict=none:=by
 cases x with
 |str z=>
  obtain⟨t,rfl⟩:=r;cases(show T="str" from ty);exact⟨EI s z t,λ_ e=>nomatch e⟩
 |int i=>
  obtain⟨t,rfl⟩:=r;cases(show T="int" from ty);exact⟨EJ s i t,λ_ e=>nomatch e⟩
 |ref p=>
  cases r;rcases ty with⟨rfl,xs,hq⟩|⟨rfl,o,hk,hc,hd⟩|⟨rfl,hk⟩|⟨rfl,S,n,hk⟩
  ·obtain⟨its,_,pl,_⟩:=I.list hq
   refine⟨pl.isList.typeIs,λa e=>?_⟩;cases e;obtain⟨o,n,e,c,hd,_⟩:=pl;exact⟨o,e,hd⟩
  ·refine⟨⟨o,I.kIn p o hk,hc⟩,λa e=>?_⟩
   cases e;exact⟨o,I.kIn _ o hk,hd⟩
  ·have z:∃o,s.heap.get? p=some o/\o.ExactDict:=by
    rcases hk with⟨kvs,hk⟩|⟨kvs,hk⟩
    ·obtain⟨_,_,_,_,o,_,_,e,ex,_⟩:=I.hok p _ hk
     exact⟨o,e,ex⟩
    ·obtain⟨_,_,_,_,o,_,_,e,ex,_⟩:=I.hok p _ hk
     exact⟨o,e,ex⟩
   obtain⟨o,e,ex⟩:=z;refine⟨⟨o,e,ex.1⟩,λa e2=>?_⟩;cases e2;exact⟨o,e,ex.2.1⟩
  ·obtain⟨o,_,_,_,e,ex,_⟩:=I.hok p _ hk
   refine⟨⟨o,e,ex.1⟩,λa e2=>?_⟩;cases e2;exact⟨o,e,ex.2.1⟩
 |_=>exact jm ty
def Aau (K:de)(T:String)(r:V->List V->Hp->VK->Prop)(to:TE):TE:=λG H Q=>to G H λx H1=>tyV K T x H1/\r x [] H1 Q
def tBM (K:de)(T:String)(r:V->List V->Hp->VK->Prop)(to:TE)(t:TA):TE:=λG H Q=>to G H λx H1=>tyV K T x H1/\t G H1 λxs H2=>r x xs H2 Q
variable {o e:ie} {es:List ie} {to:TE} {t:TA} {name:Str} {apos cpos:Pos} {T id:String} {r:V->List V->Hp->VK->Prop}
theorem cM (pa:PlainAttrs T)(slot:Slot T name id)(hty:typeOf (.builtin id)=pure (.type "method_descriptor"))(hm:MtR X id r)(ho:PE X o to)
  (hbase:autoParam (attributeBase o name X.env (eval o X.env)=eval o X.env) QD)(hline:autoParam ((apos.endLine==cpos.line)=true) QD):PE X (.Call (.Attribute o name apos) [] [] cpos) (Aau X.K T r to):=by
 k_in;refine wpAny_Call_method0_late hbase hline (thE ho I h λv s1 x H1 I1 r1 ⟨ty,q1⟩=>?_);obtain⟨h1,h2⟩:=pT I1 r1 ty;exact⟨T,id,pa,slot,hty,h1,h2,AF rfl (PySem.evalArgs_none (hm pins s1 G H1 x [] v [] Q I1 r1 .nil q1))⟩
theorem Ef (pa:PlainAttrs T)(slot:Slot T name id)(hty:typeOf (.builtin id)=pure (.type "method_descriptor"))(hm:MtR X id r)(ho:PE X o to)(ha:PA X (e::es) t)
  (hbase:autoParam (attributeBase o name X.env (eval o X.env)=eval o X.env) QD)
  (hfew:autoParam (((backTo cpos (starEach (e::es) X.env)).all (λx=>!x.1)&&(backToKw cpos (keywordEach [] X.env)).all (λx=>x.1.isSome)
   && decide ((e::es).length+([]:List CY).length+(if([]:List CY).isEmpty then 0 else 1)<30))=true) QD)
  (hline:autoParam ((apos.endLine==cpos.line)=true) QD)(hs:autoParam (starEach (e::es) X.env=(false,eval e X.env)::starEach es X.env) QD)(hplain:autoParam ((backTo cpos (starEach es X.env)).any (·.1)=false) QD) :
  PE X (.Call (.Attribute o name apos) (e::es) [] cpos) (tBM X.K T r to t):=by
 k_in;refine wpAny_Call_method_late hbase hfew hline rfl (thE ho I h λv s1 x H1 I1 r1 ⟨ty,q1⟩=>?_);obtain⟨h1,h2⟩:=pT I1 r1 ty;refine⟨T,id,pa,slot,hty,h1,h2,?_⟩;have hA:=ha cpos pins s1 G H1 _ I1 q1;rw[hs] at hA ⊢;refine AF (by show(false||(backTo cpos (starEach es X.env)).any (·.1))=false;rw[hplain]<;>rfl) (Calls.evalArgs_plain ?_)
 exact thn hA λus s2 ⟨vs,H2,I2,r2,q2⟩=>hm pins s2 G H2 x vs v us Q I2 r1 r2 q2
/- xs.append(e),list.index on a module's tuple .. are MtR facts of 06m -/
end
def MtM (X:Cx)(id:String)(r:V->List V->Hp->VK->Prop):Prop:=
 ∀(pins:Za1) (s:d4) (G:St) (H:Hp) (x:V) (xs:List V) (v:d3) (us:Za3) (Q:VK),Inv X pins G H s->A5 x v->Au xs us->r x xs H Q ->
  wpAny (model X.prog X.w) X.A (call (.builtin id) (v::us)) (EP X pins G Q) X.xe s
theorem Au.one:∀{x:V} {us:Za3},Au [x] us->∃u,us=[u]/\A5 x u
 |_,_,.cons r .nil=>⟨_,rfl,r⟩
theorem Au.zero:∀{us:Za3},Au [] us->us=[]
 |_,.nil=>rfl
theorem Au.dropLast (h:Au xs us):Au xs.dropLast us.dropLast:=by
 induction h with
 |nil=>exact .nil
 |cons r t ih=>
  cases t with
  |nil=>exact .nil
  |cons q t'=>exact .cons r ih
theorem Au.rep {xs:List V}{us:Za3}(h:Au xs us):∀k:Nat,Au (dv k xs).flatten (dv k us).flatten
 |0=>.nil
 |k+1=>by
  rw[im,im,gd,gd];exact Au.append h (Au.rep h k)
theorem Z5 {α:Type}(l:List α):l.eraseIdx (l.length-1)=l.dropLast:=by
 induction l with
 |nil=>rfl
 |cons a r ih=>
  cases r with
  |nil=>rfl
  |cons b r=>
   have e:(a::b::r).length-1=((b::r).length-1)+1:=by
    have h1:(a::b::r).length=r.length+2:=rfl;have h2:(b::r).length=r.length+1:=rfl;lia
   rw[e,List.eraseIdx_cons_succ,ih]
   all_goals rfl
theorem To (its:Za3):∀(k:Nat) (acc:Za3),
  CF (λx1 x2=>x1++x2) acc.toArray (dv k its.toArray)=(acc++(dv k its).flatten).toArray
 |0,acc=>by simp
 |k+1,acc=>by
  have e:acc.toArray++its.toArray=(acc++its).toArray:=by simp
  have e2:(acc++its)++(dv k its).flatten=acc++(dv (k+1) its).flatten:=by
   rw[im,gd,dq]
  rw[<-e2,<-To its k (acc++its),<-e,im,oj]
section
variable {X:Cx} {pins:Za1} {G:St} {H:Hp} {s:d4} {l b:dk} {xs ys zs:List V}
theorem Inv.lset {its its':Za3}{f:Array d3->Array d3}(I:Inv X pins G H s)(hH:H l=some (.lst xs))
  (e:s.heap.get? l=some { cls:=.type "list",data:=.seq its.toArray n })(hf:f its.toArray=its'.toArray)(hv:Au ys its')(hz:ys.length<=sizeLine) :
  Inv X pins G (upd H l (.lst ys)) { s with heap:=s.heap.update l (jp f),toks:=t' }:=by
 have q:=IX e f;rw[hf] at q;refine I.write (x:=l) (e:=l) (by rw[hH];exact trivial) (.inl rfl) (λb' u hb hu=>(kq s.heap (jp f) (rq hb)).trans hu) ⟨_,q⟩ ?_;exact⟨hz,its',_,hv,q⟩
theorem Inv.lnew {its:Za3}(I:Inv X pins G H s)(hv:Au ys its)(hz:ys.length<=sizeLine) :
  Inv X pins G (upd H s.heap.objs.size (.lst ys)) { s with heap:=s.heap.push { cls:=.type "list",data:=.seq its.toArray },toks:=t' }:=
 I.laid (λ_ _ q=>dj _ q) (dh _) ⟨hz,its,0,hv,fu _ rfl⟩
theorem Inv.fresh (I:Inv X pins G H s):H s.heap.objs.size=none:=I.hok.fresh (dh _)
theorem Inv.lstM (I:Inv X pins G H s)(hH:H l=some (.lst xs)):xs.length<=sizeLine/\∃(its:Za3) (n:Nat),Au xs its/\xs.length=its.length/\s.heap.get? l=some { cls:=.type "list",data:=.seq its.toArray n }:=by
 obtain⟨z,its,n,r,e⟩:=I.hok l _ hH;exact⟨z,its,n,r,r.length,e⟩
theorem Wt (h:n<=sizeLine):oy n=false:=by
 unfold oy;exact decide_eq_false (by lia)
end
section
variable {X:Cx}
def eF:V->List V->Hp->VK->Prop:=λx vs H Q=>∃l xs y,x=.ref l/\vs=[y]/\H l=some (.lst xs)/\xs.length<sizeLine/\Q .non (upd H l (.lst (xs++[y])))
theorem Bs:MtM X "list.append" eF:=by
 intro pins s G H x vs v us Q I rx rv h;obtain⟨l,xs,y,rfl,rfl,hH,hz,q⟩:=h;cases rx;obtain⟨u,rfl,ru⟩:=rv.one;obtain⟨z,its,n,r,hl,e⟩:=I.lstM hH;refine se F.slot_list_append ⟨_,e,rfl⟩ F.entry_list_append (F.args_list_append_2 _ _) (PySem.list_append l its.toArray n u (by rw[ej];lia)) ⟨e,?_⟩;refine⟨.non,_,I.lset (its':=its++[u]) hH e (by simp) (r.append (.cons ru .nil)) ?_,rfl,q⟩;rw[di,rc];lia
def sB:V->List V->Hp->VK->Prop:=λx vs H Q=>∃l b xs zs,x=.ref l/\vs=[.ref b]/\H l=some (.lst xs)/\H b=some (.lst zs)/\xs.length+zs.length<=sizeLine/\Q .non (upd H l (.lst (xs++zs)))
theorem yO:MtM X "list.extend" sB:=by
 intro pins s G H x vs v us Q I rx rv h;obtain⟨l,b,xs,zs,rfl,rfl,hH,hB,hz,q⟩:=h;cases rx;obtain⟨u,rfl,ru⟩:=rv.one;cases ru;obtain⟨z,its,n,r,hl,e⟩:=I.lstM hH;obtain⟨z2,its2,n2,r2,hl2,e2⟩:=I.lstM hB;have hsz:its.toArray.size+its2.toArray.size<=sizeLine:=by rw[ej,ej];lia
 have hlong:¬(!its.toArray.isEmpty&&oy (its.toArray.size+its2.toArray.size))=true:=by
  rw[Wt hsz,Bool.and_false];exact fk
 refine se F.slot_list_extend ⟨_,e,rfl⟩ F.entry_list_extend (F.args_list_extend_2 _ _)
  (AutoSeq1.list_extend_list_list_0 l its.toArray n b its2.toArray n2 hlong (by rw[ej];lia) (by lia)) ⟨e,e2,?_⟩
 refine⟨.non,_,I.lset (its':=its++its2) hH e (by simp) (r.append r2) ?_,rfl,q⟩;rw[di];lia
def Aby:V->List V->Hp->VK->Prop:=λx vs H Q=>∃l xs y,x=.ref l/\vs=[]/\H l=some (.lst xs)/\xs[xs.length-1]?=some y/\Q y (upd H l (.lst xs.dropLast))
theorem wW:MtM X "list.pop" Aby:=by
 intro pins s G H x vs v us Q I rx rv h;obtain⟨l,xs,y,rfl,rfl,hH,hy,q⟩:=h;cases rx;have hus:=rv.zero;subst hus;obtain⟨z,its,n,r,hl,e⟩:=I.lstM hH;obtain⟨u,hu,ru⟩:=r.get hy;have hy':its.toArray[its.toArray.size-1]?=some u:=by
  show its.toArray[its.length-1]?=some u;rw[<-en,<-hl];exact hu
 refine se F.slot_list_pop ⟨_,e,rfl⟩ F.entry_list_pop (F.args_list_pop_1 _) (MeetsSeq.list_pop_last l its.toArray n u hy' (by rw[ej];lia)) ⟨e,?_⟩;refine⟨y,_,I.lset (its':=its.dropLast) hH e ?_ r.dropLast ?_,ru,q⟩
 ·show its.toArray.eraseIdxIfInBounds (its.toArray.size-1)=its.dropLast.toArray
  rw[ej,List.eraseIdxIfInBounds_toArray,Z5]
 ·rw[BE]
  lia
def yI:V->List V->Hp->VK->Prop:=λx vs H Q=>∃l xs,x=.ref l/\vs=[]/\H l=some (.lst xs)/\Q .non (upd H l (.lst []))
theorem X5:MtM X "list.clear" yI:=by
 intro pins s G H x vs v us Q I rx rv h;obtain⟨l,xs,rfl,rfl,hH,q⟩:=h;cases rx;have hus:=rv.zero;subst hus;obtain⟨z,its,n,r,hl,e⟩:=I.lstM hH;refine se F.slot_list_clear ⟨_,e,rfl⟩ F.entry_list_clear (F.args_list_clear_1 _) (AutoSeq1.list_clear_list_0 l its.toArray n (by rw[ej];lia)) ⟨e,?_⟩;exact⟨.non,_,I.lset (its':=[]) (ys:=[]) hH e rfl .nil (f7 _),rfl,q⟩
def Abi:R2:=λx y H Q=>∃l b xs zs,x=.ref l/\y=.ref b/\H l=some (.lst xs)/\H b=some (.lst zs)/\xs.length+zs.length<=sizeLine/\∀p,H p=none->Q (.ref p) (upd H p (.lst (xs++zs)))
theorem Ik:OpR X (binaryOp .Add) Abi:=by
 intro pins s G H x y v u Q I rx ry h;obtain⟨l,b,xs,zs,rfl,rfl,hH,hB,hz,q⟩:=h;cases rx;cases ry;obtain⟨z,its,n,r,hl,e⟩:=I.lstM hH;obtain⟨z2,its2,n2,r2,hl2,e2⟩:=I.lstM hB;refine PySem.P.add_list e e2 ?_ (by rw[ej,ej];lia);have ea:its.toArray++its2.toArray=(its++its2).toArray:=by simp
 rw[ea];exact⟨.ref _,_,I.lnew (t':=s.toks) (r.append r2) (by rw[di];lia),rfl,q _ I.fresh⟩
def Abl:R2:=λx y H Q=>∃l k xs,x=.ref l/\y=.int k/\H l=some (.lst xs)/\-(2 ^ 63)<=k/\k<2 ^ 63/\xs.length*k.toNat<=sizeLine /\
 ∀p,H p=none->Q (.ref p) (upd H p (.lst (dv k.toNat xs).flatten))
theorem fE {α:Type}(xs:List α)(k:Nat):(dv k xs).flatten.length=k*xs.length:=by
 induction k with
 |zero=>simp
 |succ k ih=>rw[im,gd,di,ih,Nat.succ_mul,vh]
theorem L6:OpR X (binaryOp .Mult) Abl:=by
 intro pins s G H x y v u Q I rx ry h;obtain⟨l,k,xs,rfl,rfl,hH,h1,h2,hz,q⟩:=h;cases rx;obtain⟨t,rfl⟩:=ry;obtain⟨z,its,n,r,hl,e⟩:=I.lstM hH;have hlen:its.toArray.size*k.toNat<=sizeLine:=by rw[ej,<-hl];exact hz
 have hcap:¬ its.toArray.size*k.toNat>(2 ^ 63-1)/8:=by
  have:(sizeLine:Nat)<=(2 ^ 63-1)/8:=by decide
  lia
 have hfit:¬(!HH k)=true:=by
  rw[fitsIndex_both h1 h2];exact fk
 have hlong:¬ oy (its.toArray.size*k.toNat)=true:=by
  rw[Wt hlen];exact fk
 have hnew:CF (λx1 x2=>x1++x2) #[] (dv (if its.toArray.isEmpty=true then 0 else k.toNat) its.toArray)=(dv k.toNat its).flatten.toArray:=by
  have f0:∀m:Nat,CF (λx1 x2=>x1++x2) #[] (dv m its.toArray)=(dv m its).flatten.toArray:=λm=>by
   have:=To its m [];rw[jb] at this;exact this
  rw[f0]
  cases its with
  |nil=>simp
  |cons a r'=>rw[if_neg (by simp)]
 refine wpAny_binaryOp_repeat_ref (T:="list") (U:="int") (by decide) ⟨_,e,rfl⟩ (λs'=>EJ s' k t) noFill_list_mul F.fills_int_mul FC repeat_list F.slot_int_index.lookup
  (se FC (EJ s k t) F.entry_int_rmul (F.args_int_rmul_2 _ _) (int___rmul___int_list k t l its.toArray n)
   ⟨e,rfl,⟨_,e,rfl⟩,se F.slot_list_mul ⟨_,e,rfl⟩ F.entry_list_mul (F.args_list_mul_2 _ _) (JD l its.toArray n k t hfit hcap hlong) ⟨e,?_⟩⟩)
 rw[hnew];exact⟨.ref _,_,I.lnew (t':=s.toks) (r.rep k.toNat) (by rw[fE,xu];exact hz),rfl,q _ I.fresh⟩
end
end L2
namespace Att
open PySem PySem.W PySem.Calls PyProof.Rows
theorem O7 {P:zp}{h:i8}:∀(ns:List Int) (vs:Za3),WellAll P h vs (ns.map GB)->lf vs ns:=by
 intro ns
 induction ns with
 |nil=>
  intro vs w;rw[o7] at w;cases w;exact .nil
 |cons n ns ih=>
  intro vs w;rw[ft] at w
  cases w with
  |cons a b=>
   cases a;exact .cons _ _ (ih _ b)
theorem hV {l:IZ}{n:Nat}(hn:l.most=some n){P:zp}{h:i8}{args:List WData}{vals:Za3}
    (hpre : l.row.toRowW.claim.pre args = true)(hwl : WellAll P h vals args) :
    ∃ a vs ns, vals = [ji a]/\args = [WData.list (ns.map GB)]/\h.get? a = some { cls := .type "list", data := .seq vs.toArray }/\lf vs ns/\ns.length <= n := by
  have hsh : WShape.hasAll [] args [.list .int] = true := (pre_splitW hpre).1;have hc : l.pre.holds [] { args := args } = true := (pre_splitW hpre).2;obtain ⟨d, r, rfl, h1, h2⟩ := hasAllW_cons hsh;obtain rfl := hasAllW_nil h2;obtain ⟨xs, rfl, h3⟩ := hasW_list h1;obtain ⟨ns, rfl⟩ := items_int h3;have hlen : ns.length <= n := by
    unfold OpenLaw.pre at hc;have h4 : (WTm.not (.lt (.lit (.int (n : Int))) (.len (.arg 0)))).holds [] { args := [.list (ns.map .int)] } = true := by
      have h4 := (holds_andW hc).1;rw [hn] at h4;exact h4
    have h5 := condW_of h4 (w_not (w_lt w_lit (w_len_list (w_arg rfl))));rw [da] at h5;refine Nat.le_of_not_lt λq => ?_;have q' : (n : Int) < ((ns.length : Nat) : Int) := by lia
    first
      | (rw [decide_eq_true q'] at h5; exact absurd h5 (by decide))
      | (simp at h5; lia)
  cases hwl with
  | cons w1 w2 =>
    cases w2
    cases w1 with
    | list ho hall => exact ⟨_, _, ns, rfl, rfl, ho, O7 ns _ hall, hlen⟩
theorem gW (l:IZ)(args:List WData):l.row.toRowW.claim.post args (.bool true) args=true:=
 postW_of (r:=l.row.toRowW) (X:=(true==true))
  (show EV [] (.bool true) .bool=true by first|rfl|decide|simp[EV,WShape.arms,WShape.armsAll])
  (show(WTm.eq .res (.lit (.bool true))).value [] { args:=args,res:=some (.bool true),after:=args }=some (.bool (true==true)) from w_eq_bool (w_res rfl) w_lit) rfl
theorem attach_call {l:IZ}{n:Nat}{q:fh}{loose:Za6}{XP:(Za2)->i8->Prop}{YP:gp->i8->Prop}{d:HS}
  (hn:l.most=some n)(hdf:d.params.defaults=[])
  (call:∀(w:gp) (QN QM:d4) (mg mb:Za2) (fa:dk) (o:Obj) (pm cd doc:d3) (a:dk) (vs:Za3) (ns:List Int),
   Ground q loose [] XP w QN mg mb QM.heap->YP w QM.heap ->
   QM.heap.get? fa=some o->o.data=.func (docDef d.name d.params d.body d.scope pm cd doc)->QM.heap.CodeRec cd d.name->mg d.name=some (.ref fa) ->
   QM.heap.get? a=some { cls:=.type "list",data:=.seq vs.toArray }->lf vs ns->ns.length<=n->QM.gens=#[] ->
   codeAny (model l.prog w) callerA (.call (.ref fa) ⟨[.ref a],[]⟩) (λr s'=>r=.ok (.ret (.bool true))/\OldK QM.heap s'.heap/\s'.os=QM.os/\wj s'.gens) QM) :
  WalkO q loose XP YP l.row.toRowW d [] (λf vs=>BL f vs):=by
 intro w QN QM mg mb G Y fa o pm cd doc dV kV ho hd hcd hD hmg hg args vals as hpre hlay hrd hwl hlo;obtain rfl:dV=.none:=Dflts.none hD hdf;obtain rfl:kV=.none:=Dflts.noKw hD;obtain⟨a,vs,ns,rfl,rfl,hobj,hints,hlen⟩:=hV hn hpre hwl;refine enter_call (tx (call w QN QM mg mb fa o pm cd doc a vs ns G Y ho (fd_plain hd) hcd hmg hobj hints hlen hg) λr s' hq=>?_);obtain⟨rfl,h2,h3,h4⟩:=hq;exact⟨.inl ⟨.bool true,.bool true,[],rfl,λ_=>rfl,.bool true,gW l _,λ_=>⟨rp,λ_ hm=>(nomatch hm)⟩⟩,h2,h3,h4⟩
section
variable {prog:fh} {w:gp} {A:ir} {E:Za0} {s:d4} {K:HR}
end
end Att
namespace L2
open PySem PySem.Spec PyProof.Rows
variable {C CB CC CL Pt dx i1 i2 it l1 l2 z:dk} {params:l8} {A:ir} {op:vw} {X:Cx} {D:Go} {env:Env} {iter tg:ie} {fd:jk} {base h h':i8} {H H' H1 H2:Hp} {J:It} {pins:Za1} {fp:List dk} {kz ns:List Int} {l0:List fg} {cs ix:Za4} {N ps:Za6} {xs ys:List V} {us vs:Za3} {M:wo} {n t':Nat} {oT:Obj} {an od:Option dk} {lpos p pos pos2:Pos} {B:Prop} {scope:l6} {pl:Sem Bool} {s s2:d4} {sp:Sp} {qual:Str} {te:TE} {wi:TI} {y:V} {cdv ct doc oc pm:d3} {w:gp}
theorem Kv:∀{vs:Za3} {ns:List Int},lf vs ns->Au (ns.map V.int) vs
 |_,_,.nil=>.nil
 |_,_,.cons n t h=>.cons ⟨t,rfl⟩ (Kv h)
def B4 (s:jc)(j:Nat):jc:=match s with
 |.ClassDef _ _ _ body _ _ _ _ _ _ _=>body.getD j (.Pass ⟨0,0,0,0⟩)
 |_=>.Pass ⟨0,0,0,0⟩
def Br (s:jc):l8:=match s with
 |.FunctionDef _ a _ _ _ _ _ _ _ _=>a
 |_=>{ posonlyargs:=[],args:=[],vararg:=none,kwonlyargs:=[],kw_defaults:=[],kwarg:=none,defaults:=[] }
def Bg (s:jc):List jc:=match s with
 |.FunctionDef _ _ b _ _ _ _ _ _ _=>b
 |_=>[]
def Af (s:jc):l6:=match s with
 |.FunctionDef _ _ _ _ _ _ sc _ _ _=>sc
 |_=>{ kind:=.function,names:=[],isGenerator:=false,isCoroutine:=false }
abbrev CX0:CXT:=λ_ _ _ _ _ _=>False
abbrev E0:XK:=λ_ _ _=>False
theorem fT:Jb CX0 X E0:=λ_ _ _ _ _ _ _ h=>h.elim
structure Fun (K:de) (x qual:Str) (st:jc) (f:dk) (fd:jk):Prop where
 ex:∃(oc:d3) (od:Option dk) (kV doc pm:d3) (an:Option dk) (cdv ct:d3) (osl:Array (Za7)),
  fd=i9 x qual (Br st) (Bg st) (Af st) .none kV doc pm an cdv ct/\K.lookup f=some ⟨oc,od,.func fd,osl⟩/\km K cdv qual=true
 kp:jt K (.ref f)=true
section
variable {P:fh} {w:gp} {K:de} {mg:Za2} {base:i8}
theorem Fun.ok {x:Str}{st:jc}{f:dk}{k:Nat}(F:Fun K x qual st f fd)(S:Al N ps (Af st))(len:∀vs H Q E,sp vs H Q E->vs.length=ps.length)
  (hbody:∀(cdv:d3) (A:ir) (outer:List Env) (s:d4) (H:Hp) (vs:List V) (Q:VK) (E:XK),Ca k (A.deeper (envOfC qual (Af st) s.heap.objs.size f cdv))->sp vs H Q E ->
   ∃t,PSs (X2 CX0 P w K mg base N qual (Af st) f cdv A outer s H E).nox (Bg st) t/\t { nx:=λ_ H'=>Q .non H',rt:=Q } (Lh N vs) H):Av P w K mg base CX0 (k+1) f fd ps sp:=by
 obtain⟨oc,od,kV,doc,pm,an,cdv,ct,osl,rfl,lk,hcd⟩:=F.ex;refine oZ lk hcd S len λA outer s H vs Q E hr hsp=>?_;obtain⟨t,h,q⟩:=hbody cdv A outer s H vs Q E hr hsp;exact⟨t,h.nox,q⟩
theorem Fun.binds {x:Str}{st:jc}{f:dk}(F:Fun K x qual st f fd)
  (h:∀(kV doc pm:d3) (an:Option dk) (cdv ct:d3) (us:Za3),us.length=ps.length->bindArgs (i9 x qual (Br st) (Bg st) (Af st) .none kV doc pm an cdv ct) ⟨us,[]⟩=pure (ps.zip us)):E6 K fd ps []:=by
 obtain⟨oc,od,kV,doc,pm,an,cdv,ct,osl,rfl,lk,hcd⟩:=F.ex;exact .all (h kV doc pm an cdv ct)
theorem kW {x:Str}{st:jc}{f:dk}{osl:Array (Za7)}{kV:d3}(l:K.lookup f=some ⟨oc,od,.func (i9 x qual (Br st) (Bg st) (Af st) .none kV doc pm an cdv ct),osl⟩)
  (c:km K cdv qual=true)(k:jt K (.ref f)=true):Fun K x qual st f (i9 x qual (Br st) (Bg st) (Af st) .none kV doc pm an cdv ct):=⟨⟨oc,od,kV,doc,pm,an,cdv,ct,osl,rfl,l,c⟩,k⟩
end
theorem F7 (h:n<=1000):n<sizeLine:=mj h (by decide)
section
variable {X:Cx}
theorem pv (i:Nat){x:Str}(hN:autoParam (X.N[i]?=some x) QD)(hv:Vis X.env.scope x:=by first|exact DF rfl|exact sj (DF rfl)|exact sj (sj rfl))(hd:autoParam ((x==("__debug__":Str))=false) QF)
  (hcd:autoParam ((x==("__classdict__":Str))=false) QF):PE X (.Name x pos) (tD i):=kC hN hv hd hcd
end
theorem Abq {A:Prop}(h:B):if false=true then A else B:=by
 rw[if_neg fk];exact h
theorem Abs {A:Prop}(h:A):if true=true then A else B:=by
 rw[if_pos rfl];exact h
def Am (H H':Hp):Prop:=∀b o,H b=some o->H' b=some o
theorem Am.refl (H:Hp):Am H H:=λ_ _ h=>h
theorem Am.trans (a:Am H H1)(b:Am H1 H2):Am H H2:=λc o h=>b c o (a c o h)
theorem Am.free (e:Am H H'){l:dk}(h:H' l=EN):H l=EN:=by
 cases q:H l with
 |none=>rfl
 |some o=>
  rw[e l o q] at h;cases h
theorem Am.seq {K:de}{a:dk}(e:Am H H')(h:SqL K H a xs):SqL K H' a xs:=by
 rcases h with(h|⟨o,h⟩)|h
 ·exact .inl (.inl (e _ _ h))
 ·exact .inl (.inr ⟨o,e _ _ h⟩)
 ·exact .inr h
end L2
section
namespace L2
open PySem PySem.Spec PyProof.Rows
variable {C CB CC CL Pt dx i1 i2 it l1 l2 z:dk} {params:l8} {A:ir} {op:vw} {X:Cx} {D:Go} {env:Env} {iter tg:ie} {fd:jk} {base h h':i8} {H H' H1 H2:Hp} {J:It} {pins:Za1} {fp:List dk} {kz ns:List Int} {l0:List fg} {cs ix:Za4} {N ps:Za6} {xs ys:List V} {us vs:Za3} {M:wo} {n t':Nat} {oT:Obj} {an od:Option dk} {lpos p pos pos2:Pos} {B:Prop} {scope:l6} {pl:Sem Bool} {s s2:d4} {sp:Sp} {qual:Str} {te:TE} {wi:TI} {y:V} {cdv ct doc oc pm:d3} {w:gp}
section
variable {prog:fh} {w:gp} {A:ir} {R:wb->d4->Prop} {s:d4}
def eE (ifs:List ie)(env:Env):Sem Bool:=
 forIn ifs true λc r=>if r=true then do let ok <-isTrue c env (eval c env);pure (pe ok) else pure (pe r)
theorem Vd {elt tg iter:ie}{ifs:List ie}{scope:l6}{pos:Pos}{it acc:d3}{env:Env}(J:Nat->d4->Prop)
  (turn:∀n s,J n s->wpAny (model prog w) A (pyNext it) (λr s1=>match r with
   |none=>R (.ok .next) s1
   |some v=>wpAny (model prog w) A (letOwnedTupleGo tg it v) (λ_ s2=>wpAny (model prog w) A (assign tg env v) (λ_ s3=>wpAny (model prog w) A (eE ifs env) (λok s4=>
     if ok=true then wpAny (model prog w) A (eval elt env) (λx s5=>wpAny (model prog w) A (call (.builtin "list.append") [acc,x]) (λ_ s6=>∃m,m<n/\J m s6) (λ_ _=>False) s5) (λ_ _=>False) s4
     else ∃m,m<n/\J m s4) (λ_ _=>False) s3) (λ_ _=>False) s2) (λ_ _=>False) s1) (λ_ _=>False) s)
  (n:Nat)(h:J n s):codeAny (model prog w) A (.compLoop (.ListComp elt [⟨tg,iter,ifs,0⟩] scope pos) 0 it acc env) R s:=by
 refine codeAny_loop rfl J (λn s hJ=>?_) n h;show wpAny _ A (Sem.onRaise (compTurn (.ListComp elt [⟨tg,iter,ifs,0⟩] scope pos) 0 it acc env) _) _ _ s;refine wpAny_noted ?_;rw[compTurn_list];refine wpAny_bind (qr (wpAny_bind (lz (turn n s hJ) (λr s1 h1=>?_) (λ_ _ z=>z.elim))))
 cases r with
 |none=>exact dw h1
 |some v=>
  refine wpAny_bind (lz h1 (λ_ s2 h2=>wpAny_bind (lz h2 (λ_ s3 h3=>wpAny_bind (lz h3 (λok s4 h4=>?_) (λ_ _ z=>z.elim))) (λ_ _ z=>z.elim))) (λ_ _ z=>z.elim))
  cases ok with
  |false=>exact dw ⟨rfl,h4⟩
  |true=>exact wpAny_bind (wpAny_bind (lz h4 (λx s5 h5=>wpAny_bind (lz h5 (λ_ s6 h6=>dw (dw ⟨rfl,h6⟩)) (λ_ _ z=>z.elim))) (λ_ _ z=>z.elim)))
end
def Cj (env:Env):List (Str×mv)->List (Str×dk)->List (Str×dk)
 |[],cs=>cs
 |y::r,cs=>if y.2=.free then Cj env r ((y.1,(env.cells.lookup y.1).getD 0)::cs) else Cj env r cs
theorem Wj {env:Env}(f:Str×mv->List (Str×dk)->Sem (ForInStep (List (Str×dk))))
  (h1:∀y cs c,y.2=.free->env.cells.lookup y.1=some c->f y cs=pure (.yield ((y.1,c)::cs)))(h2:∀y cs,y.2≠.free->f y cs=pure (.yield cs)) :
  ∀(ns:List (Str×mv)) (cs:List (Str×dk)),(∀y∈ns,y.2=.free->∃c,env.cells.lookup y.1=some c)->forIn ns cs f=(pure (Cj env ns cs):Sem (List (Str×dk)))
 |[],cs,_=>by simp[Cj]
 |y::r,cs,h=>by
  have hr:∀z∈r,z.2=.free->∃c,env.cells.lookup z.1=some c:=λz hz=>h z (fb _ hz);rw[sd]
  by_cases hy:y.2=.free
  ·obtain⟨c,hc⟩:=h y fi hy
   rw[h1 y cs c hy hc];simp only[Cj,if_pos hy,hc,ue];exact Wj f h1 h2 r _ hr
  ·rw[h2 y cs hy]
   simp only[Cj,if_neg hy];exact Wj f h1 h2 r _ hr
theorem Gj (h:∀y∈scope.names,y.2=.free->∃c,env.cells.lookup y.1=some c):closureFor scope env=pure (Cj env scope.names []):=by
 unfold closureFor;dsimp only;rw[Wj (env:=env) _ (λy cs c hy hc=>?_) (λy cs hy=>?_) scope.names [] h]
 ·rfl
 ·obtain⟨n,k⟩:=y
  dsimp only at hy hc ⊢;subst hy;simp only[cellOf,hc,beq_self_eq_true,if_true];rfl
 ·obtain⟨n,k⟩:=y
  have e:(k==lh)=false:=by simpa using hy
  simp only[e,jy,if_false]
theorem F8 {env:Env}:∀(ns:List (Str×mv)) (cs:List (Str×dk)) (x:Str) (c:dk),(∀y∈ns,y.2=.free->∃c,env.cells.lookup y.1=some c) ->
  (∀z d,cs.lookup z=some d->env.cells.lookup z=some d)->(Cj env ns cs).lookup x=some c->env.cells.lookup x=some c
 |[],cs,x,c,_,hc,h=>hc x c h
 |y::r,cs,x,c,hy,hc,h=>by
  have hr:∀z∈r,z.2=.free->∃c,env.cells.lookup z.1=some c:=λz hz=>hy z (fb _ hz);unfold Cj at h;split at h
  ·rename_i hk
   obtain⟨d,hd⟩:=hy y fi hk;rw[hd] at h;refine F8 r _ x c hr (λz e hz=>?_) h;rw[kj] at hz;split at hz
   ·rename_i hzy
    cases hz;rw[eq_of_beq hzy];exact hd
   ·exact hc z e hz
  ·exact F8 r _ x c hr hc h
theorem Mb {env:Env}:∀(ns:List (Str×mv)) (cs:List (Str×dk)) (x:Str),(cs.lookup x).isSome=true->((Cj env ns cs).lookup x).isSome=true
 |[],_,_,h=>h
 |y::r,cs,x,h=>by
  unfold Cj;split
  ·refine Mb r _ x ?_
   rw[kj];split
   ·rfl
   ·exact h
  ·exact Mb r _ x h
theorem Db {env:Env}:∀(ns:List (Str×mv)) (cs:List (Str×dk)) (x:Str),(x,lh)∈ns->((Cj env ns cs).lookup x).isSome=true
 |[],_,_,h=>by simp at h
 |y::r,cs,x,h=>by
  rcases gt.mp h with e|e
  ·subst e
   unfold Cj;rw[if_pos rfl];exact Mb r _ x (by simp)
  ·unfold Cj
   split
   ·exact Db r _ x e
   ·exact Db r _ x e
theorem Fe {x:Str}{k:mv}(h:(relabel scope env).names.lookup x=some k):(x,k)∈scope.names\/((x,lh)∈scope.names/\k=qx):=by
 have m:=jf h;obtain⟨⟨n,k'⟩,hm,e⟩:=fz.mp m;dsimp only at e;split at e
 ·rename_i hk
  cases e;simp only[nz,beq_iff_eq] at hk;rw[hk.1.1] at hm;exact .inr ⟨hm,rfl⟩
 ·cases e
  exact .inl hm
theorem Je (hk:env.scope.kind=.function){x:Str}(hx:env.kindOf x=some .cell)(h:scope.names.lookup x=some .free):(relabel scope env).names.lookup x=some .cell:=by
 unfold relabel;show(scope.names.map _).lookup x=some qx;generalize scope.names=ns at h
 induction ns with
 |nil=>simp at h
 |cons y r ih=>
  obtain⟨n,k⟩:=y;rw[kj] at h;rw[ft];split at h
  ·rename_i hn
   cases h;rw[<-eq_of_beq hn];simp[hk,hx]
  ·rename_i hn
   dsimp only;split
   ·rw[kj,hn];exact ih h
   ·rw[kj,hn];exact ih h
def C8 (X:Cx)(scope:l6)(N:Za6)(C:dk)(s:d4)(H:Hp)(fp:List dk):Cx:=
 { X with N:=N,QN:=s,QY:=H,env:=compEnvC scope (Cj X.env scope.names []) C X.env,outer:=X.stack,ex:=fp,fn:=λ_=>false,pn:=[],xe:=λ_ _=>False }
structure Bf (QX:Za6) (QQ sc:l6) (x:Str) (N:Za6) (ix:Za4):Prop where
 kind:sc.kind=.function
 nocell:∀y∈sc.names,y.2≠.cell
 names:∀y∈sc.names,y.2=.local->sc.names.lookup y.1=some .local
 free:∀y∈sc.names,y.2=.free->QQ.names.lookup y.1=some .cell
 nd:N.Nodup
 hd:N.head?=some x
 loc:sc.names.lookup x=some .local
 len:N.length=ix.length+1
 at_:∀p∈N.tail.zip ix,QX[p.2]?=some p.1/\sc.names.lookup p.1=some .free
def frV (G:St)(ix:Za4):St:=ix.map λj=>(G[j]?).getD none
def PIf (X:Cx)(ifs:List ie)(t:TT):Prop:=
 ∀(pins:Za1) (s:d4) (G:St) (H:Hp) (Q:Bool->Hp->Prop),Inv X pins G H s->t G H Q->wpAny (model X.prog X.w) X.A (eE ifs X.env) (TP X pins G Q) X.xe s
def xW:TT:=λ_ H Q=>Q true H
theorem Ez:PIf X [] xW:=λpins s G H Q I h=>wpAny_tests_nil ⟨H,I,h⟩
theorem Nq {c:ie}{t:TT}(h:PT X c t):PIf X [c] t:=λpins s G H Q I hw=>wpAny_tests_one (h pins s G H Q I hw)
def Pe (J:It)(H1:Hp)(fr:St)(tc:TT)(te:TE)(Q:VK):Prop:=∀D,H1 D=none->∃W:Nat->Nat->Hp->Prop,(∃m,W 0 m (upd H1 D (.lst [])))/\∀i m H,W i m H ->
 (J.stop i H/\Q (.ref D) H)\/(J.go i H/\∀x H',J.yld i H x H'->tc (some x::fr) H' λb H3=>
  if b=true then te (some x::fr) H3 λy H4=>∃ys,H4 D=some (.lst ys)/\ys.length<sizeLine/\∃m',m'<m/\W (i+1) m' (upd H4 D (.lst (ys++[y]))) else ∃m',m'<m/\W (i+1) m' H3)
def tLc (wi:TI)(ix:Za4)(tc:TT)(te:TE):TE:=λG H Q=>wi G H λJ H1=>Pe J H1 (frV G ix) tc te Q
section
variable {X:Cx} {scope:l6} {N:Za6} {ix:Za4} {x:Str} {px:Pos} {elt iter:ie} {ifs:List ie} {tc:TT} {te:TE} {pos:Pos}
theorem Aav {G:St}{tn:Nat->i8->Prop}(L:Bf X.N X.env.scope scope x N ix)(I2:Inv X pins G H2 s2)
  (T:Oh X.prog X.w X.K tg J fp it tn)(st2:tn 0 s2.heap)(f2:∀b∈fp,J9 X pins H2 b){s3 s4:d4}{H3:Hp}(I3:Inv X pins G H3 s3)(I4:Inv X pins G H3 s4)(hle:s2.heap.objs.size<=s3.heap.objs.size)
  (hC:C=s3.heap.objs.size)(ho:s4.os=s3.os)(kp:∀b u,s3.heap.get? b=some u->s4.heap.get? b=some u){m:Za2}(hns:s4.heap.Ns C m):Inv (C8 X scope N C s3 H3 fp) [] (none::frV G ix) H3 s4:=by
 have hfree:∀y∈scope.names,y.2=.free->∃c,X.env.cells.lookup y.1=some c:=λy hy hf=>I2.ok.has y.1 (.inl (L.free y hy hf));have sub:∀y c,(Cj X.env scope.names []).lookup y=some c->X.env.cells.lookup y=some c:=λy c h=>F8 _ _ y c hfree (λ_ _ z=>by simp at z) h;have lt2:∀b∈fp,b<s2.heap.objs.size:=λb hb=>by obtain⟨o,e,_⟩:=T.obj _ _ st2 b hb;exact eg e
 have okY:(C8 X scope N C s3 H3 fp).Ok:=by
  refine⟨I2.ok.mod,L.kind,I2.ok.glob,I2.ok.blt,ku hC.symm,λy z c h1 h2=>I2.ok.inj y z c (sub y c h1) (sub z c h2),λy hy=>?_,λy c z _=>?_,I2.ok.hd,I2.ok.frames,.inl rfl,λb hb=>⟨?_,λy c h=>(f2 b hb).2.2.2.2.1 y c (sub y c h)⟩,
   I3.bs,fq I3.ok.bsz I3.sz,λb o e hb=>?_,λb hb z=>?_,I3.stack,I3.stkFree⟩
  ·have hk:(y,lh)∈scope.names:=by
    rcases hy with hy|hy
    ·rcases Fe hy with q|q
     ·exact absurd rfl (L.nocell _ q)
     ·exact q.1
    ·rcases Fe hy with q|q
     ·exact q
     ·exact absurd q.2 (by decide)
   exact iu.mp (Db _ _ y hk)
  ·cases(show false=true from z)
  ·have l:=lt2 b hb
   show b≠C;rw[hC];exact fm (ef l hle)
  ·rcases(f2 b hb).2.2.2.1 with q|q
   ·exact I2.ok.noex b o e q
   ·exact absurd (ef (eg e) (fq I2.ok.bsz q)) (ko _)
  ·rcases gt.mp (I2.stkSub b z) with q|q
   ·exact(f2 b hb).2.1 q
   ·exact(f2 b hb).2.2.1 q
 refine⟨okY,ho,I4.bare,Un.kept kp,⟨m,hns,λi y v h1 h2 h3=>?_⟩,λy c e=>I4.cell y c (sub y c e),?_,λy c e=>I4.freeC y c (sub y c e),λp hp=>absurd (show p∈([]:Za1) from hp) (by simp),I4.hok,?_⟩
 ·cases i with
  |zero=>cases(show some none=some (some v) from h2)
  |succ k=>
   have h2:(frV G ix)[k]?=some (some v):=h2;have h1:N[k+1]?=some y:=h1;unfold frV at h2;rw[du] at h2
   cases hj:ix[k]? with
   |none=>rw[hj] at h2;cases h2
   |some j=>
    rw[hj] at h2;have h2:(G[j]?).getD none=some v:=dr h2;have h2':G[j]?=some (some v):=by
     cases e:G[j]? with
     |none=>rw[e] at h2;cases h2
     |some z=>rw[e] at h2;exact congrArg some h2
    have ht:N.tail[k]?=some y:=by rw[qg];exact h1
    have hz:(y,j)∈N.tail.zip ix:=d5 (i:=k) (by rw[pj];exact⟨ht,hj⟩);obtain⟨q1,q2⟩:=L.at_ _ hz;have hm:=jf q2;have hcell:=L.free _ hm rfl;obtain⟨m',hn',hl'⟩:=I4.loc;obtain⟨u,r,lk⟩:=hl' j y v q1 h2' (.inr (.inl hcell));refine⟨u,r,.inr ⟨.inl (Je I2.ok.kind hcell q2),?_⟩⟩;rcases lk with lk|⟨_,c,e,z⟩
    ·rw[show X.env.kindOf y=some .cell from hcell] at lk
     cases lk.1
    ·obtain⟨c',e'⟩:=iu.mp (Db (env:=X.env) scope.names [] y hm)
     have e2:=sub y c' e';rw[e] at e2;cases e2;exact⟨c,e',z⟩
 ·show H3 C=none
  exact I3.hok.fresh (ku hC.symm)
 ·show(none::frV G ix).length=N.length
  rw[L.len];simp[frV]
theorem mU {tgt:ie}(htg:tgt=.Name x px){G:St}{tn:Nat->i8->Prop}(hc:X.calm=true)(L:Bf X.N X.env.scope scope x N ix)(I2:Inv X pins G H2 s2)
  (T:Oh X.prog X.w X.K tgt J fp it tn)(st2:tn 0 s2.heap)(f2:∀b∈fp,J9 X pins H2 b)
  (hif:∀C s H,PIf (C8 X scope N C s H fp) ifs tc)(he:∀C s H,PE (C8 X scope N C s H fp) elt te){Q:VK}(rd:Pe J H2 (frV G ix) tc te Q){RR:d3->dk->wb->d4->Prop}{E:Za0}
  (fin:∀D C H' s' m,Inv X pins G H' s'->s2.heap.objs.size<=C->H' C=none->s'.heap.Ns C m->Q (.ref D) H'->RR (.ref D) C (.ok .next) s') :
  wpAny (model X.prog X.w) X.A (newList []) (λacc s3=>wpAny (model X.prog X.w) X.A (newFunctionEnv scope X.env.globals (Cj X.env scope.names []) [] X.env.qual none .none (some X.env)) (λcenv s4=>
   codeAny (model X.prog X.w) X.A (.compStart (.ListComp elt [⟨tgt,iter,ifs,0⟩] scope pos) 0 (.ref it) acc { cenv with scope:=relabel scope X.env }) (RR acc cenv.locals) s4) E s3) E s2:=by
 refine ki (sr L.nocell (by intro y hy;simp at hy) (λh1 hns hsb=>?_) L.kind);dsimp only at hns hsb ⊢;have I3:Inv X pins G (upd H2 s2.heap.objs.size (.lst [])) { s2 with heap:=s2.heap.push { cls:=.type "list",dict:=none,data:=.seq ([]:Za3).toArray } }:=I2.lnew (its:=[]) (t':=s2.toks) .nil (f7 _);generalize hH3:s2.heap.push { cls:=.type "list",dict:=none,data:=.seq ([]:Za3).toArray }=h3 at hns hsb I3 ⊢;have hsz:h3.objs.size=s2.heap.objs.size+1:=by rw[<-hH3,mi]
 have kp34:∀b u,h3.get? b=some u->h1.get? b=some u:=λb u e=>hsb.extBut b u (fm (eg e)) (dj _ e);have I4:Inv X pins G (upd H2 s2.heap.objs.size (.lst [])) { s2 with heap:=h1,toks:=s2.toks+([]:List (Str×d3)).length }:=I3.kept (t':=s2.toks+([]:List (Str×d3)).length) kp34;have kp24:∀b u,s2.heap.get? b=some u->h1.get? b=some u:=λb u e=>kp34 b u (by rw[<-hH3];exact dj _ e);have IY:=Aav (C:=h3.objs.size) (s3:={ s2 with heap:=h3 }) L I2 T st2 f2 I3 I4 (by show s2.heap.objs.size<=h3.objs.size;lia) rfl rfl kp34 hns;have fD:H2 s2.heap.objs.size=none:=I2.hok.fresh (dh _);have lt2:∀b∈fp,b<s2.heap.objs.size:=λb hb=>by obtain⟨o,e,_⟩:=T.obj _ _ st2 b hb;exact eg e
 have st4:tn 0 h1:=T.keep _ _ _ st2 λb _ o e=>kp24 b o e;have stat:∀{pn:Za1} {H':Hp},pn=[]->(∀b∈fp,H' b=none)->∀b∈fp,J9 (C8 X scope N h3.objs.size { s2 with heap:=h3 } (upd H2 s2.heap.objs.size (.lst [])) fp) pn H' b:=λhp hn b hb=>by
  subst hp;exact⟨hn b hb,(IY.ok.exf b hb).1,IY.ok.exfs b hb,.inl hb,(IY.ok.exf b hb).2,λp hp=>absurd (show p∈([]:Za1) from hp) (by simp)⟩
 obtain⟨W,⟨m0,w0⟩,turn⟩:=rd _ fD;have loop:codeAny (model X.prog X.w) X.A (.compLoop (.ListComp elt [⟨tgt,iter,ifs,0⟩] scope pos) 0 (.ref it) (.ref s2.heap.objs.size) (compEnvC scope (Cj X.env scope.names []) h3.objs.size X.env)) (RR (.ref s2.heap.objs.size) h3.objs.size)
   { s2 with heap:=h1,toks:=s2.toks+([]:List (Str×d3)).length }:=by
  refine Vd (λn s'=>∃i H',Inv (C8 X scope N h3.objs.size { s2 with heap:=h3 } (upd H2 s2.heap.objs.size (.lst [])) fp) [] (none::frV G ix) H' s'/\tn i s'.heap/\(∀b∈fp,H' b=none)/\W i n H') ?_ m0
   ⟨0,_,IY,st4,λb hb=>by rw[Ai (fm (lt2 b hb))];exact(f2 b hb).1,w0⟩
  rintro n s5 ⟨i,H5,I5,st5,fr5,w5⟩;rcases turn i n H5 w5 with⟨stop,q⟩|⟨go,step⟩
  ·refine thn (T.done (C8 X scope N h3.objs.size { s2 with heap:=h3 } (upd H2 s2.heap.objs.size (.lst [])) fp) rfl rfl rfl hc i [] s5 _ H5 (λ_ _=>False) I5 (stat rfl fr5) st5 stop) λr s6 ⟨hr,I6⟩=>?_
   subst hr;obtain⟨m6,hn6,_⟩:=I6.loc;have u1:Un (frs X.stack) fp H2 (upd H2 s2.heap.objs.size (.lst [])) s2.heap h3:=Un.laid (λb u e=>by rw[<-hH3];exact dj _ e) (dh _) fD;have back:Inv X pins G H5 s6:=I2.call' (ch:=fp) (I6.os.trans rfl) (u1.trans I6.base) I6.hok I6.bare λb hb=>⟨(f2 b hb).2.2.2.1,(f2 b hb).2.1,(f2 b hb).2.2.2.2.1,(f2 b hb).2.2.2.2.2⟩;exact fin _ _ H5 s6 m6 back (by lia) I6.free hn6 q
  ·refine thn (T.item (C8 X scope N h3.objs.size { s2 with heap:=h3 } (upd H2 s2.heap.objs.size (.lst [])) fp) rfl rfl rfl hc i [] s5 _ H5 (λ_ _=>False) I5 (stat rfl fr5) st5 go) λr s6 ⟨u,hr,h6⟩=>?_
   subst hr;refine thn h6 λ_ s7 ⟨y,H7,I7,r7,y7,st7,fr7⟩=>?_;have I7':=I7.pinned (stat rfl fr7) (T.obj _ _ st7);have hg:PG (C8 X scope N h3.objs.size { s2 with heap:=h3 } (upd H2 s2.heap.objs.size (.lst [])) fp) tgt (Dt 0):=by
    rw[htg];have hi:N[0]?=some x:=by have:=L.hd;rwa [uz] at this
    exact Er L.nd hi (.inl (nq L.loc)) (.inr (nq L.loc))
   refine thn (hg _ s7 _ H7 y u (λmt H'=>mt=some y::frV G ix/\H'=H7) I7' r7 ⟨rfl,rfl⟩) λ_ s8 ⟨σ8,H8,I8,e8,e8'⟩=>?_;subst e8 e8';refine thn (hif _ _ _ _ s8 _ _ _ I8 (step y _ y7)) λok s9 ⟨H9,I9,q9⟩=>?_;have again:∀{sz:d4} {Hz:Hp} {m':Nat},Inv (C8 X scope N h3.objs.size { s2 with heap:=h3 } (upd H2 s2.heap.objs.size (.lst [])) fp) ([]++Ma fp s7.heap) (some y::frV G ix) Hz sz->m'<n->W (i+1) m' Hz ->
     ∃m,m<n/\∃i H',Inv (C8 X scope N h3.objs.size { s2 with heap:=h3 } (upd H2 s2.heap.objs.size (.lst [])) fp) [] (none::frV G ix) H' sz/\tn i sz.heap/\(∀b∈fp,H' b=none)/\W i m H':=λ{sz Hz m'} Iz hm wz=>by
    refine⟨m',hm,i+1,Hz,Iz.unpinned.weak (by simp) (λj v e=>?_),T.keep _ _ _ st7 λb hb o e=>(Iz.pin (b,o) (e6 _ (e6 _ (Du hb e)))).1,λb hb=>?_,wz⟩
    ·cases j with
     |zero=>cases e
     |succ j=>exact e
    ·obtain⟨o,e,d⟩:=T.obj _ _ st7 b hb
     exact(Iz.pin (b,o) (e6 _ (e6 _ (Du hb e)))).2.1
   cases ok with
   |false=>
    obtain⟨m',hm,wz⟩:=q9;exact again I9 hm wz
   |true=>
    refine thn (he _ _ _ _ s9 _ _ _ I9 q9) λxv s10 ⟨z,H10,I10,r10,ys,hD,hl,m',hm,wz⟩=>?_;refine thn (Bs _ s10 _ H10 (.ref s2.heap.objs.size) [z] (.ref s2.heap.objs.size) [xv] (λ_ Hz=>Hz=upd H10 s2.heap.objs.size (.lst (ys++[z]))) I10 rfl (.cons r10 .nil) ⟨_,ys,z,rfl,rfl,hD,hl,rfl⟩) λ_ s11 ⟨_,H11,I11,_,q11⟩=>?_;subst q11;exact again I11 hm wz
 exact wa loop (T.self X.A 0 _ _ _ st4 loop)
theorem Nr (hc:X.calm=true)(L:Bf X.N X.env.scope scope x N ix)(hi:PI X (.Name x px) iter wi)(hif:∀C s H fp,PIf (C8 X scope N C s H fp) ifs tc)(he:∀C s H fp,PE (C8 X scope N C s H fp) elt te)
  (hs:autoParam (∀z,foldedSetIterable iter X.env z=pure z) QJ):PE X (.ListComp elt [⟨.Name x px,iter,ifs,0⟩] scope pos) (tLc wi ix tc te):=by
 k_in;have hfree:∀y∈scope.names,y.2=.free->∃c,X.env.cells.lookup y.1=some c:=λy hy hf=>I.ok.has y.1 (.inl (L.free y hy hf));rw[eval_ListComp];refine qt (use:=none) rfl hs (Gj hfree) L.kind L.names (thn (hi pins s G H _ I h) λv s1 h1=>thn h1 λitv s2 h2=>?_);obtain⟨it,fp,tn,J,H2,e,I2,T,st2,f2,rd⟩:=h2;subst e;refine mU (RR:=λacc C=>compPost (model X.prog X.w) X.A X.xe none _ acc C) rfl hc L I2 T st2 f2 (λC s H=>hif C s H fp) (λC s H=>he C s H fp) rd λD C H' s' m I' hC hf hn q=>?_;refine⟨m,hn,λh' hsb=>⟨.ref D,H',?_,rfl,q⟩⟩;have l2:=I2.lt;refine I'.turned (t':=s'.toks) (it:=C) (λb o hb e=>hsb.extBut b o hb e) hf (pf (ef l2 hC)) (.inr (fq I2.sz hC)) (λy c e=>?_) λp hp=>?_
 ·obtain⟨v,hv⟩:=I2.cell y c e
  exact fm (ef hv.lt hC)
 ·exact fm (ef (eg (I2.pin p hp).1) hC)
theorem Ke {i:Nat}{y:Str}{py spos:Pos}(hc:X.calm=true)(L:Bf X.N X.env.scope scope x N ix)(hN:X.N.Nodup)(hy:X.N[i]?=some y)(hl:X.env.scope.names.lookup y=some .local)
  (hi:PI X (.Name x px) iter wi)(hif:∀C s H fp,PIf (C8 X scope N C s H fp) ifs tc)(he:∀C s H fp,PE (C8 X scope N C s H fp) elt te)
  (hsw:autoParam (swapsWith (.ListComp elt [⟨.Name x px,iter,ifs,0⟩] scope pos) (some (.Name y py)) spos.line X.env=pure true) QD)
  (hs:autoParam (∀z,foldedSetIterable iter X.env z=pure z) QJ):PS X (.Assign [.Name y py] (.ListComp elt [⟨.Name x px,iter,ifs,0⟩] scope pos) spos) (cS (tLc wi ix tc te) (Dt i)):=by
 k_end;have hfree:∀y∈scope.names,y.2=.free->∃c,X.env.cells.lookup y.1=some c:=λy hy hf=>I.ok.has y.1 (.inl (L.free y hy hf));rw[wq _ _ _ _ hsw];refine wpAny_bind (qr (wpAny_bind ?_));show wpAny _ X.A (do let _ <-comprehension (.ListComp elt [⟨.Name x px,iter,ifs,0⟩] scope pos) scope X.env _ (newList []) false (eval iter X.env) (some (assign (.Name y py) X.env))) _ _ s;refine wpAny_bind (thn (Q:=λ_ s'=>SP X pins D .next s') (qt (use:=some (assign (.Name y py) X.env)) rfl hs (Gj hfree) L.kind L.names (thn (hi pins s G H _ I h) λv s1 h1=>thn h1 λitv s2 h2=>?_)) λ_ s' hq=>dw (dw hq));obtain⟨it,fp,tn,J,H2,e,I2,T,st2,f2,rd⟩:=h2;subst e;refine mU (RR:=λacc C=>compPost (model X.prog X.w) X.A X.xe (some (assign (.Name y py) X.env)) _ acc C) rfl hc L I2 T st2 f2 (λC s H=>hif C s H fp) (λC s H=>he C s H fp) rd λDa C H' s' m I' hC hf hn q=>?_;have l2:=I2.lt;have nC:C≠X.env.locals:=pf (ef l2 hC);have nF:C∉X.fs:=I2.nofs hC;obtain⟨oC,es,ep,hget,hdat,hrest⟩:=id hn;have Ip:Inv X (pins++[(C,oC)]) G H' s':=I'.pins_of λp hp=>(gj.mp hp).elim (λz=>I'.pin p (e6 _ z)) λz=>by
  have e:p=(C,oC):=by simpa using z
  subst e;exact⟨hget,hf,nC,nF,λv z=>by rw[hdat] at z;cases z⟩
 have hg:PG X (.Name y py) (Dt i):=Er hN hy (.inl hl) (.inr hl);show wpAny _ X.A (assign (.Name y py) X.env (.ref Da)) _ _ s';refine thn (hg _ s' G H' (.ref Da) (.ref Da) D.nx Ip rfl q) λ_ s'' ⟨JF,H'',I'',q''⟩=>?_;obtain⟨g1,g2,_⟩:=I''.pin (C,oC) (e6 _ (e6 _ (by simp)));refine⟨m,⟨oC,es,ep,g1,hdat,hrest⟩,λh' hsb=>⟨JF,H'',?_,q''⟩⟩;refine I''.unpinned.turned (t':=s''.toks) (it:=C) (λb o hb e=>hsb.extBut b o hb e) g2 nC (.inr (fq I2.sz hC)) (λy c e=>?_) λp hp=>?_
 ·obtain⟨v,hv⟩:=I2.cell y c e
  exact fm (ef hv.lt hC)
 ·exact fm (ef (eg (I2.pin p hp).1) hC)
end
theorem Ag {D:dk}{o:HO}(h:H D=none):Am H (upd H D o):=λb u e=>by rw[Ai (Aj e h)];exact e
theorem Bu {D:dk}{o:HO}(h:H D=none):Am H (upd H D o)/\upd H D o D=some o:=⟨Ag h,Ac⟩
theorem Pq {fr:St}{tc:TT}{Q:VK}(n:Nat)(item:Nat->V)(acc:Nat->List V)(h0:acc 0=[])(hz:∀i,i<n->(acc i).length<sizeLine)
  (hgo:∀i H,i<n->Am H1 H->J.go i H)(hy:∀i H x H',i<n->Am H1 H->J.yld i H x H'->x=item i/\H'=H)(hst:∀H,Am H1 H->J.stop n H)
  (turn:∀i H (R:Hp->Prop) (A:VK),i<n->Am H1 H->(acc (i+1)=acc i->∀H',Am H H'->R H')->(∀y H',acc (i+1)=acc i++[y]->Am H H'->A y H') ->
   tc (some (item i)::fr) H λb H3=>if b=true then te (some (item i)::fr) H3 A else R H3)
  (fin:∀D H,H1 D=none->Am H1 H->H D=some (.lst (acc n))->Q (.ref D) H):Pe J H1 fr tc te Q:=by
 intro D hD;refine⟨λi m H=>i<=n/\m=n-i/\Am H1 H/\H D=some (.lst (acc i)),⟨n,f7 _,rfl,Ag hD,by rw[Ac,h0]⟩,?_⟩;rintro i m H ⟨hi,rfl,sm,hl⟩
 by_cases h:i=n
 ·subst h
  exact .inl ⟨hst H sm,fin D H hD sm hl⟩
 ·have hlt:i<n:=oh hi h
  refine .inr ⟨hgo i H hlt sm,λx H' hyl=>?_⟩;obtain⟨rfl,rfl⟩:=hy i H x H' hlt sm hyl;refine turn i H' _ _ hlt sm (λea H3 s3=>?_) (λy H4 ea s4=>?_)
  ·exact⟨n-(i+1),by lia,by lia,rfl,sm.trans s3,by rw[ea];exact s3 _ _ hl⟩
  ·refine⟨acc i,s4 _ _ hl,hz i hlt,n-(i+1),by lia,by lia,rfl,λb u e=>?_,by rw[Ac,ea]⟩
   rw[Ai (Aj e hD)];exact s4 _ _ (sm _ _ e)
theorem Jp {lo:Int}{fr:St}{tc:TT}{Q:VK}(acc:Nat->List V)(h0:acc 0=[])(hz:∀i,i<n->(acc i).length<sizeLine)
  (turn:∀(i:Nat) H (R:Hp->Prop) (A:VK),i<n->Am H1 H->(acc (i+1)=acc i->∀H',Am H H'->R H')->(∀y H',acc (i+1)=acc i++[y]->Am H H'->A y H') ->
   tc (some (.int (lo+i))::fr) H λb H3=>if b=true then te (some (.int (lo+i))::fr) H3 A else R H3)
  (fin:∀D H,H1 D=none->Am H1 H->H D=some (.lst (acc n))->Q (.ref D) H):Pe (Itr lo n) H1 fr tc te Q:=
 Pq n (λi=>.int (lo+i)) acc h0 hz (λi H hi _=>hi) (λi H x H' _ _ h=>⟨h.2,h.1⟩) (λH _=>dh n) turn fin
theorem K6 {K:de}{a:dk}{fr:St}{tc:TT}{Q:VK}(hl:SqL K H1 a xs)(acc:Nat->List V)(h0:acc 0=[])(hz:∀i,i<xs.length->(acc i).length<sizeLine)
  (turn:∀(i:Nat) x H (R:Hp->Prop) (A:VK),xs[i]?=some x->Am H1 H->(acc (i+1)=acc i->∀H',Am H H'->R H')->(∀y H',acc (i+1)=acc i++[y]->Am H H'->A y H') ->
   tc (some x::fr) H λb H3=>if b=true then te (some x::fr) H3 A else R H3)
  (fin:∀D H,H1 D=none->Am H1 H->H D=some (.lst (acc xs.length))->Q (.ref D) H):Pe (Itl K a) H1 fr tc te Q:=by
 refine Pq xs.length (λi=>xs.getD i .non) acc h0 hz (λi H hi sm=>⟨xs,xs[i],sm.seq hl,by simp[hi]⟩) (λi H x H' hi sm h=>⟨?_,h.1⟩) (λH sm=>⟨xs,sm.seq hl,dh _⟩) (λi H R A hi sm=>turn i _ H R A (by simp[hi]) sm) fin;have:=h.2 xs (sm.seq hl);simp[gr,this]
theorem Am.seqT {K:de}{a:dk}(e:Am H H')(h:SqT K H a xs):SqT K H' a xs:=by
 rcases h with(h|⟨o,h⟩)|h
 ·exact .inl (.inl (e _ _ h))
 ·exact .inl (.inr ⟨o,e _ _ h⟩)
 ·exact .inr h
theorem xD {K:de}{a:dk}{fr:St}{tc:TT}{Q:VK}(hl:SqT K H1 a xs)(acc:Nat->List V)(h0:acc 0=[])(hz:∀i,i<xs.length->(acc i).length<sizeLine)
  (turn:∀(i:Nat) x H (R:Hp->Prop) (A:VK),xs[i]?=some x->Am H1 H->(acc (i+1)=acc i->∀H',Am H H'->R H')->(∀y H',acc (i+1)=acc i++[y]->Am H H'->A y H') ->
   tc (some x::fr) H λb H3=>if b=true then te (some x::fr) H3 A else R H3)
  (fin:∀D H,H1 D=none->Am H1 H->H D=some (.lst (acc xs.length))->Q (.ref D) H):Pe (Itt K a) H1 fr tc te Q:=by
 refine Pq xs.length (λi=>xs.getD i .non) acc h0 hz (λi H hi sm=>⟨xs,xs[i],sm.seqT hl,by simp[hi]⟩) (λi H x H' hi sm h=>⟨?_,h.1⟩) (λH sm=>⟨xs,sm.seqT hl,dh _⟩) (λi H R A hi sm=>turn i _ H R A (by simp[hi]) sm) fin;have:=h.2 xs (sm.seqT hl);simp[gr,this]
theorem eT:bootBuiltins "int"=some (.type "int"):=by decide +kernel
theorem zH:bootBuiltins "str"=some (.type "str"):=by decide +kernel
theorem pW:bootBuiltins "bool"=some (.type "bool"):=by decide +kernel
theorem Lq:bootBuiltins "list"=some (.type "list"):=by decide +kernel
theorem Pj:bootBuiltins "tuple"=some (.type "tuple"):=by decide +kernel
theorem wR:bootBuiltins "dict"=some (.type "dict"):=by decide +kernel
theorem Bx:bootBuiltins "len"=some (.builtin "len"):=by decide +kernel
theorem C5:bootBuiltins "isinstance"=some (.builtin "isinstance"):=by decide +kernel
theorem Aag:bootBuiltins "sum"=some (.builtin "sum"):=by decide +kernel
theorem Xs:bootBuiltins "min"=some (.builtin "min"):=by decide +kernel
theorem Np:bootBuiltins "max"=some (.builtin "max"):=by decide +kernel
theorem Sf:bootBuiltins "sorted"=some (.builtin "sorted"):=by decide +kernel
structure Cal (P:fh) (w:gp) (K:de) (mg:Za2) (base:i8) (name:Str) (k:Nat) (ps:Za6) (sp:Sp):Prop where
 ex:∃(f:dk) (fd:jk),Av P w K mg base CX0 k f fd ps sp/\E6 K fd ps []/\mg name=some (.ref f)/\jt K (.ref f)=true
section
variable {X:Cx} {k:Nat} {ps:Za6} {sp:Sp} {name m:Str} {p pos apos:Pos} {e o:ie} {es:List ie} {ta:TE} {t:TA}
theorem Ar (C:Cal X.prog X.w X.K X.mg X.base name k ps sp)(hr:Ca k X.A)(ha:PA X (e::es) t)(hg:autoParam (Gl X name) QD)(hdb:autoParam ((name==("__debug__":Str))=false) QF)
  (he:autoParam (starEach (e::es) X.env=(false,eval e X.env)::starEach es X.env) QD)(hpl:autoParam ((backTo pos (starEach es X.env)).any (·.1)=false) QD):PE X (.Call (.Name name p) (e::es) [] pos) (jR sp [] E0 t):=by
 obtain⟨f,fd,F,b,hm,hk⟩:=C.ex;exact rF F hr hg hm hk b .nil fT ha hdb he hpl
end
section
variable {X:Cx}
def Ab1 (K:de):List V->Hp->VK->Prop:=λxs H Q=>∃x n t b,xs=[x,.ty n]/\N5 K H x t/\kitOne K t (.type n)=some b/\Q (.bl b) H
theorem Dm:E9 X (.builtin "isinstance") (Ab1 X.K):=by
 intro pins s G H xs us Q I r h;obtain⟨x,n,t,b,rfl,ty,e,q⟩:=h;obtain⟨u,w',rfl,ru,rw'⟩:=Uk r;cases(show w'=jl n from rw');exact iI I ru ty e λtk=>⟨.bl b,H,I.tok tk,rfl,q⟩
theorem No {K:de}:kitOne K (.type "int") (.type "bool")=some false:=by rfl
theorem Ov {K:de}:kitOne K (.type "int") (.type "int")=some true:=by rfl
theorem Xr {K:de}:kitOne K (.type "str") (.type "str")=some true:=by rfl
theorem Pc {K:de}:kitOne K (.type "tuple") (.type "tuple")=some true:=by rfl
end
theorem Iy {x y:Str}(h:x.cps.toList=y.cps.toList):x=y:=by
 obtain⟨a⟩:=x;obtain⟨b⟩:=y;have:a=b:=Array.toList_inj.mp h;rw[this]
def sgn (c:Nat):Str:=⟨#[c]⟩
def We (x:Str)(k:Nat):Str:=⟨(dv k x.cps.toList).flatten.toArray⟩
theorem Ww (x:Str)(k:Nat):(We x k).length=k*x.length:=by
 show(dv k x.cps.toList).flatten.toArray.size=k*x.cps.size;rw[ej,fE];simp
theorem Uf (a:Array Nat):∀(k:Nat) (acc:Array Nat),((dv k a).foldl (·++·) acc).toList=acc.toList++(dv k a.toList).flatten
 |0,acc=>by simp
 |k+1,acc=>by
  rw[im,oj,Uf a k,im];simp[dq]
section
variable {X:Cx}
def zU:R2:=λx y H Q=>∃z k,x=.str z/\y=.int k/\-(2 ^ 40)<k/\k<2 ^ 40/\z.length*k.toNat<=sizeLine/\z.length<=sizeLine/\Q (.str (We z k.toNat)) H
theorem sT:OpR X (binaryOp .Mult) zU:=by
 intro pins s G H x y v u Q I rx ry h;obtain⟨z,k,rfl,rfl,k1,k2,hz,hz2,q⟩:=h;obtain⟨t,rfl⟩:=rx;obtain⟨t',rfl⟩:=ry;have hs:=Kh;have hs':=DQ;refine PySem.P.mul_str ?_ ?_ ?_ ?_
 ·rw[decide_eq_false (by lia),decide_eq_false (by lia)];rfl
 ·intro h1 _ hgt
  have hk:k<=2 ^ 40:=by lia
  have:(z.length:Int)<=(2 ^ 63-1)/k:=by
   rw[Int.le_ediv_iff_mul_le (by lia)];have e:(z.length:Int)*k=((z.length*k.toNat:Nat):Int):=by
    rw[Int.natCast_mul,wx (by lia)]
   rw[e];lia
  lia
 ·intro _ _
  unfold HV
  simpa using hz
 ·split
  ·rename_i h1
   have e:We z k.toNat=yo:=by
    rw[show k.toNat=0 by lia];rfl
   rw[e] at q;exact⟨by decide,.str yo,H,I.tok _,⟨_,rfl⟩,q⟩
  ·rename_i h1
   split
   ·rename_i h2
    have e:We z k.toNat=z:=by
     refine Iy ?_;show(dv k.toNat z.cps.toList).flatten.toArray.toList=_;rcases Bool.or_eq_true_iff.mp h2 with h2|h2
     ·have:k=1:=by simpa using h2
      subst this;simp
     ·have:z.length=0:=by simpa using h2
      have e0:z.cps.toList=[]:=by
       have:z.cps.size=0:=this
       simpa using this
      rw[e0];simp
    rw[e] at q;exact⟨.str z,H,I,⟨_,rfl⟩,q⟩
   ·have e:(⟨(dv k.toNat z.cps).foldl (·++·) #[]⟩:Str)=We z k.toNat:=by
     refine Iy ?_;show((dv k.toNat z.cps).foldl (·++·) #[]).toList=_;rw[Uf];simp[We]
    refine⟨?_,.str (We z k.toNat),H,I.tok _,⟨s.toks,by rw[e]⟩,q⟩;rw[e,Ww,xu];exact hz
theorem Z6 {ys:Za6}:∀{us:Za3},Au (ys.map V.str) us->StrsAre us ys:=by
 induction ys with
 |nil=>intro us r;rw[o7] at r;cases r;exact .nil
 |cons y ys ih=>
  intro us r;rw[ft] at r
  cases r with
  |cons r1 r2=>
   obtain⟨t,e⟩:=r1;subst e;exact .cons y t (ih r2)
def tO (K:de):V->List V->Hp->VK->Prop:=λx vs H Q=>∃sep p ys,x=.str sep/\vs=[.ref p]/\SqL K H p (ys.map V.str)/\(ys.map (·.length)).sum+ys.length*sep.length<=16777216/\Q (.str (BJ sep ys)) H
theorem eX:MtM X "str.join" (tO X.K):=by
 intro pins s G H x vs v us Q I rx rv h;obtain⟨sep,p,ys,rfl,rfl,hp,hz,q⟩:=h;obtain⟨t,rfl⟩:=rx;obtain⟨u,rfl,ru⟩:=rv.one;cases ru;obtain⟨its,r,pl,_⟩:=I.list hp;exact join_list pl.isList (by simpa using Z6 r) hz λt' k=>⟨.str (BJ sep ys),H,I.tok k,⟨t',rfl⟩,q⟩
theorem Uj:∀(ys:Za6) (a:Array Nat),(ys.foldl (λacc p=>acc++("":Str).cps++p.cps) a).toList=a.toList++(ys.map λy=>y.cps.toList).flatten
 |[],a=>by simp
 |y::r,a=>by
  rw[oj,Uj r];have e:("":Str).cps=#[]:=rfl;rw[e];simp[dq]
theorem dC (ys:Za6):(BJ ("":Str) ys).cps.toList=(ys.map λy=>y.cps.toList).flatten:=by
 show((ys.drop 1).foldl (λacc p=>acc++("":Str).cps++p.cps) (ys.headD yo).cps).toList=_;rw[Uj]
 cases ys with
 |nil=>rfl
 |cons y r=>simp
end
def dQ:ie->Bool
 |.Starred ..=>false
 |_=>true
theorem Yu {e:ie}{es:List ie}(h:dQ e=true):starEach (e::es) env=(false,eval e env)::starEach es env:=by
 cases e<;>first|rfl|cases h
section
variable {X:Cx} {e:ie} {es:List ie} {te:TE} {t:TA}
theorem Abn (ha:PE X e te)(hr:PA X es t)(hs:dQ e=true):PA X (e::es) (Ti te t):=fB ha hr (Yu hs)
end
theorem us1 {P:Za3->Prop}(h:∀a,P [a]):∀us:Za3,us.length=1->P us
 |[_],_=>h _
theorem us2 {P:Za3->Prop}(h:∀a b,P [a,b]):∀us:Za3,us.length=2->P us
 |[_,_],_=>h _ _
theorem us3 {P:Za3->Prop}(h:∀a b c,P [a,b,c]):∀us:Za3,us.length=3->P us
 |[_,_,_],_=>h _ _ _
section
variable {G:St} {H:Hp} {D:Go} {Q:VK} {t u:TS} {te ta tb:TE} {QB:Bool->Hp->Prop}
theorem Aal (h:t { D with nx:=u D } G H):Aap t u D G H:=h
theorem wY (h:D.nx G H):uT D G H:=h
theorem zA {g:TG}(h:te G H λx H1=>g x G H1 D.nx):cS te g D G H:=h
theorem sV {i:Nat}{v:V}{R:St->Hp->Prop}(h:R (G.set i (some v)) H):Dt i v G H R:=h
theorem Aax (h:te G H D.rt):zC te D G H:=h
theorem xB (h:te G H λ_ H1=>D.nx G H1):tT te D G H:=h
theorem yT {c:TT}(h:c G H λb H1=>if b=true then t D G H1 else u D G H1):zR c t u D G H:=h
theorem yV {i:Nat}{ti:TIp}{x:V}(e:G[i]?=some (some x))(h:te G H λy H1=>ti x y H1 λz H2=>D.nx (G.set i (some z)) H2):wS i te ti D G H:=⟨x,e,h⟩
theorem Aat {i:Nat}{v:V}(e:G[i]?=some (some v))(h:Q v H):tD i G H Q:=⟨v,e,h⟩
theorem r_c {v:V}(h:Q v H):tC v G H Q:=h
theorem Abk {r:R2}(h:ta G H λx H1=>tb G H1 λy H2=>r x y H2 Q):tOp r ta tb G H Q:=h
theorem Aca {r:V->Hp->VK->Prop}(h:ta G H λx H1=>r x H1 Q):tUn r ta G H Q:=h
theorem Abh {g:Int->V}{i:Int}(h:Q (g i) H):rU g (.int i) H Q:=⟨i,rfl,h⟩
theorem tY {g:Int->Int->V}{i j:Int}(h:Q (g i j) H):rI0 g (.int i) (.int j) H Q:=⟨i,j,rfl,rfl,h⟩
theorem yQ {f:Int->Int->Int}{i j:Int}(h:Q (.int (f i j)) H):ipI f (.int i) (.int j) H Q:=⟨i,j,rfl,rfl,h⟩
theorem Aaf {x:V}(e:nI x y=true)(h:Q (.bl (decide (x=y))) H):rEq x y H Q:=⟨e,h⟩
theorem zL {x:V}(e:nI x y=true)(h:Q (.bl (!decide (x=y))) H):rNe x y H Q:=⟨e,h⟩
theorem xC (h:te G H λx H'=>∃k,x=.bl k/\QB k H'):oG te G H QB:=h
theorem Ab8 (h:te G H λx H'=>∃k,x=.bl k/\QB k H'):tB te G H QB:=h
theorem Abp {k:Bool}{P:Bool->Prop}(h:P k):∃k',V.bl k=.bl k'/\P k':=⟨k,rfl,h⟩
theorem zQ {c:TT}(h:c G H λb H1=>QB (!b) H1):Abb c G H QB:=h
theorem zX {c d:TT}(h:c G H λb H1=>if b=true then d G H1 QB else QB false H1):zW c d G H QB:=h
theorem Abu {c d:TT}(h:c G H λb H1=>if b=true then QB true H1 else d G H1 QB):tOr c d G H QB:=h
theorem wA (h:ta G H λx H1=>∃c,x=.bl c/\if c=true then tb G H1 Q else Q (.bl false) H1):uH ta tb G H Q:=h
theorem yA (h:ta G H λx H1=>∃c,x=.bl c/\Q (.bl (!c)) H1):uB ta G H Q:=h
theorem zV {c:TT}(h:c G H λb H1=>if b=true then ta G H1 Q else tb G H1 Q):tIf c ta tb G H Q:=h
theorem zD (h:ta G H λx H1=>Q (.bl (decide (x=.non))) H1):yY ta G H Q:=h
theorem sJ {r r':R2}{tc:TE}(h:ta G H λx H1=>tb G H1 λy H2=>r x y H2 λz H3=>∃k,z=.bl k/\(if k=true then tc G H3 λw' H4=>r' y w' H4 Q else Q (.bl false) H3)):mC r r' ta tb tc G H Q:=h
theorem Aak (h:QB true H):xW G H QB:=h
variable {tA tR:TA} {QA:List V->Hp->Prop}
theorem zE (h:QA [] H):Wi G H QA:=h
theorem xP (h:te G H λx H1=>tR G H1 λxs H2=>QA (x::xs) H2):Ti te tR G H QA:=h
theorem xY {E:XK}(h:tA G H λvs H1=>sp (vs++[]) H1 Q E):jR sp [] E tA G H Q:=h
theorem Abr {r:List V->Hp->VK->Prop}(h:tA G H λvs H1=>r vs H1 Q):tCB r tA G H Q:=h
theorem zK (h:tA G H λxs H1=>xs.length<=sizeLine/\∀p,H1 p=none->Q (.ref p) (upd H1 p (.lst xs))):xA tA G H Q:=h
theorem Aay (h:tA G H λxs H1=>xs.length<=sizeLine/\∀p,H1 p=none->Q (.ref p) (upd H1 p (.tup xs))):Aaj tA G H Q:=h
theorem Ab0 {K:de}{T:String}{r:V->List V->Hp->VK->Prop}(h:te G H λx H1=>tyV K T x H1/\tA G H1 λxs H2=>r x xs H2 Q):tBM K T r te tA G H Q:=h
theorem Abv {r:V->Option Int->Option Int->Hp->VK->Prop}{tl th:TO}(h:te G H λx H1=>tl G H1 λl H2=>th G H2 λu H3=>r x l u H3 Q):tSl r te tl th G H Q:=h
theorem mZ {QO:Option Int->Hp->Prop}(h:QO none H):gP G H QO:=h
theorem xR {QO:Option Int->Hp->Prop}(h:te G H λx H1=>∃i,x=.int i/\QO (some i) H1):uF te G H QO:=h
theorem Aae {P:Int->Prop}{i:Int}(h:P i):∃j,V.int i=.int j/\P j:=⟨i,rfl,h⟩
def vK (J:It)(g:TG)(tb:TS)(D:Go)(G:St)(H1:Hp):Prop:=∃W:Nat->Nat->St->Hp->Prop,(∃m,W 0 m G H1)/\∀i m G H,W i m G H ->
 (J.stop i H/\D.nx G H)\/(J.go i H/\∃N:St->Hp->Prop,(∀mt H',N mt H'->∃m',m'<m/\W (i+1) m' mt H')/\∀x H',J.yld i H x H'->g x G H' λQP H2=>tb { D with nx:=N,ct:=N,bk:=D.nx } QP H2)
theorem Aac {g:TG}(h:wi G H λJ H1=>vK J g t D G H1):zO wi g t D G H:=h
theorem yB {R:It->Hp->Prop}(h:tA G H λvs H1=>∃j:Int,vs=[.int j]/\-(2 ^ 62)<=j/\j<2 ^ 62/\R (Itr 0 j.toNat) H1):uW tA G H R:=h
theorem wX {R:It->Hp->Prop}(h:tA G H λvs H1=>∃i j:Int,vs=[.int i,.int j]/\(-(2 ^ 62)<=i/\i<2 ^ 62/\-(2 ^ 62)<=j/\j<2 ^ 62)/\R (Itr i (j-i).toNat) H1):tX tA G H R:=h
theorem rL {K:de}{R:It->Hp->Prop}(h:te G H λx H1=>∃a,x=.ref a/\(∃xs,SqL K H1 a xs)/\R (Itl K a) H1):jO K te G H R:=h
theorem wC {K:de}{R:It->Hp->Prop}(h:te G H λx H1=>∃a,x=.ref a/\(∃xs,SqT K H1 a xs)/\R (Itt K a) H1):yG K te G H R:=h
theorem Ab9 {tc:TT}(h:wi G H λJ H1=>Pe J H1 (frV G ix) tc te Q):tLc wi ix tc te G H Q:=h
theorem B7 {K:de}{p:dk}{i:Int}{v:V}(hs:SqL K H p xs)(e:atI xs i=some v)(h:Q v H):rC K (.ref p) (.int i) H Q:=⟨p,xs,i,v,rfl,rfl,hs,e,h⟩
theorem Fa {K:de}{p:dk}{i:Int}{v:V}(hs:SqT K H p xs)(e:atI xs i=some v)(h:Q v H):vH K (.ref p) (.int i) H Q:=⟨p,xs,i,v,rfl,rfl,hs,e,h⟩
theorem Cv {l:dk}(hl:H l=some (.lst xs))(hz:xs.length<sizeLine)(h:Q .non (upd H l (.lst (xs++[y])))):eF (.ref l) [y] H Q:=⟨l,xs,y,rfl,rfl,hl,hz,h⟩
end
theorem Fx {c:TT}{tb:TS}{G:St}(Pv:St->Hp->Prop)(μ:St->Hp->Nat)(h0:Pv G H)
  (hs:∀m G H,Pv G H->μ G H=m->c G H λb H1=>if b=true then ∃N:St->Hp->Prop,(∀mt H',N mt H'->∃m',m'<m/\(Pv mt H'/\μ mt H'=m'))/\tb { D with nx:=N,ct:=N,bk:=D.nx } G H1 else D.nx G H1):lH c tb D G H:=
 ⟨λm G H=>Pv G H/\μ G H=m,⟨_,h0,rfl⟩,λm G H h=>hs m G H h.1 h.2⟩
theorem Kc {tb:TS}{rt:VK}{bk:St->Hp->Prop}{G:St}{Pv:St->Hp->Prop}{μ:St->Hp->Nat}{m:Nat}
  (h:tb { nx:=λmt H'=>Pv mt H'/\μ mt H'<m,rt:=rt,bk:=bk,ct:=λmt H'=>Pv mt H'/\μ mt H'<m } G H1) :
  ∃N:St->Hp->Prop,(∀mt H',N mt H'->∃m',m'<m/\(Pv mt H'/\μ mt H'=m'))/\tb { nx:=N,rt:=rt,bk:=bk,ct:=N } G H1:=⟨_,λmt H' z=>⟨_,z.2,z.1,rfl⟩,h⟩
section
variable {H:Hp} {Q:VK} {g:Int->Int->V} {i j:Int}
theorem Tx (c:0<j)(h:Q (g i j) H):rI (λ_ j=>0<j) g (.int i) (.int j) H Q:=⟨i,j,rfl,rfl,c,h⟩
theorem tP (c:0<=j)(h:Q (g i j) H):rI (λ_ j=>0<=j) g (.int i) (.int j) H Q:=⟨i,j,rfl,rfl,c,h⟩
theorem jW (c1:0<j)(c2:j<1073741824)(h:Q (g i j) H):rI Aao g (.int i) (.int j) H Q:=⟨i,j,rfl,rfl,⟨c1,c2⟩,h⟩
theorem oP (c1:-(2 ^ 64)<j)(c2:j<2 ^ 64)(h:Q (g i j) H):rI kE g (.int i) (.int j) H Q:=⟨i,j,rfl,rfl,.inr ⟨c1,c2⟩,h⟩
theorem yH (c1:-(2 ^ 64)<i)(c2:i<2 ^ 64)(h:Q (g i j) H):rI kE g (.int i) (.int j) H Q:=⟨i,j,rfl,rfl,.inl ⟨c1,c2⟩,h⟩
end
theorem Cl {c A:Prop}[Decidable c](h1:c->A)(h2:¬ c->B):if decide c=true then A else B:=by
 by_cases h:c
 ·rw[decide_eq_true h,if_pos rfl]
  exact h1 h
 ·rw[decide_eq_false h,if_neg fk]
  exact h2 h
theorem vO {c A:Prop}[Decidable c](h1:¬ c->A)(h2:c->B):if(!decide c)=true then A else B:=by
 by_cases h:c
 ·rw[decide_eq_true h,if_neg (by decide)]
  exact h2 h
 ·rw[decide_eq_false h,if_pos (by decide)]
  exact h1 h
def Abd (c:TT)(t u:TS):TS:=λD G H=>∃J:St->Hp->Prop,(∀G H,J G H->D.nx G H)/\c G H λb H1=>if b=true then t { D with nx:=J } G H1 else u { D with nx:=J } G H1
theorem Wa {c:ie}{a b:List jc}{tc:TT}{t u:TS}(hc:PT X c tc)(ha:PSs X a t)(hb:PSs X b u):PS X (.If c a b pos) (Abd tc t u):=by
 k_end;obtain⟨J,hJ,h⟩:=h;refine thn (Bp hc ha hb pins s G H { D with nx:=J } I h) λf s' q=>?_
 cases f with
 |next=>
  obtain⟨mt,H',I',q'⟩:=q;exact⟨mt,H',I',hJ _ _ q'⟩
 |brk=>exact q
 |cont=>exact q
 |ret u=>exact q
theorem dR {c:TT}{t u:TS}{G:St}(J:St->Hp->Prop)(h:c G H λb H1=>if b=true then t { D with nx:=J } G H1 else u { D with nx:=J } G H1)(hJ:∀G H,J G H->D.nx G H):Abd c t u D G H:=⟨J,hJ,h⟩
def Tf (lo st:Int)(n:Nat):It:=⟨λi _=>i<n,λi H x H'=>H'=H/\x=.int (lo+i*st),λi _=>n<=i⟩
def B9 (lo hi st:Int):Nat:=((hi-lo+st-1)/st).toNat
theorem Kg {P:fh}{K:de}(it:dk)(lo dt:Int)(n:Nat):Oh P w K tg (Tf lo dt n) [it] it (λi h=>vb h it (lo+(i:Nat)*dt) ((n:Int)-(i:Nat)) dt) where
 mem:=by simp
 obj:=λi h st b hb=>by
  have e:b=it:=by simpa using hb
  subst e;exact⟨_,st,λv z=>by
   have z':BH _=yh v:=z;cases z'⟩
 keep:=λi h h' st k=>k it (by simp) _ st
 item:=by
  intro X hP hw hK hc i pins s G H E I hf st hg;subst hP hw hK;obtain⟨f0,f1,f2,f3,f4,f5⟩:=hf it (by simp);have W:=EU (prog:=X.prog) (w:=X.w) (I.ok.hd hc) it lo dt n;refine W.item i s _ _ hg st λv h' tk hv st' kk=>?_;obtain⟨t,rfl⟩:=hv;have I1:Inv X pins G H { s with heap:=h',toks:=tk }:=I.turned (λb o hb e=>kk b o (by simpa using hb) e) f0 f1 f3 f4 f5;exact⟨_,rfl,gK (s:={ s with heap:=h',toks:=tk }) (n:="range_iterator") st' rfl rfl (by decide) ⟨.int _,H,I1,⟨t,rfl⟩,⟨rfl,rfl⟩,st',λb hb=>(hf b hb).1⟩⟩
 done:=by
  intro X hP hw hK hc i pins s G H E I hf st hg;subst hP hw hK;obtain⟨f0,f1,f2,f3,f4,f5⟩:=hf it (by simp);exact CI (I.ok.hd hc) st (by have:n<=i:=hg;lia) λh' eb=>⟨rfl,I.turned (t':=s.toks) (λb o hb e=>eb b o hb e) f0 f1 f3 f4 f5⟩
 self:=λ_ _ _ _ _ st h=>v9 st h
theorem Rq {lo hi st:Int}(h:0<st):ja lo hi st=(B9 lo hi st:Int):=by
 unfold ja B9;rw[if_pos h]
 by_cases hl:lo<hi
 ·rw[if_pos hl]
  have e:(hi-lo+st-1)/st=(hi-lo-1)/st+1:=by
   rw[show hi-lo+st-1=(hi-lo-1)+st*1 by lia,Int.add_mul_ediv_left _ _ (by lia)]
  rw[e];have:0<=(hi-lo-1)/st:=Int.ediv_nonneg (by lia) (by lia);exact(wx (Int.add_nonneg this (by decide))).symm
 ·rw[if_neg hl]
  have:(hi-lo+st-1)/st<=0:=by
   have:=Int.ediv_le_ediv h (show hi-lo+st-1<=st-1 by lia);rw[Int.ediv_eq_zero_of_lt (show 0<=st-1 by lia) (by lia)] at this;exact this
  lia
theorem W0 {lo hi st:Int}(h:0<st)(h1:-(2 ^ 61)<=lo)(h2:lo<2 ^ 61)(h3:-(2 ^ 61)<=hi)(h4:hi<2 ^ 61)(h5:st<2 ^ 61):qw lo hi st=true:=by
 unfold qw;rw[Rq h];have hb:(B9 lo hi st:Int)*st<=hi-lo+st-1\/(B9 lo hi st:Int)=0:=by
  unfold B9
  by_cases hz:0<=(hi-lo+st-1)/st
  ·left
   rw[wx hz];exact Int.ediv_mul_le _ (by lia)
  ·right
   lia
 have hn:(B9 lo hi st:Int)<=(B9 lo hi st:Int)*st:=by
  have:=Int.mul_le_mul_of_nonneg_left (show(1:Int)<=st by lia) (lx (B9 lo hi st));lia
 have hmul:lo+(B9 lo hi st:Int)*st<2 ^ 63/\-(2 ^ 63)<=lo+(B9 lo hi st:Int)*st:=by
  have h0:0<=(B9 lo hi st:Int)*st:=Int.mul_nonneg (lx _) (by lia);rcases hb with hb|hb
  ·lia
  ·rw[hb] at h0 ⊢
   lia
 have h0:0<=(B9 lo hi st:Int):=lx _;have hs:(B9 lo hi st:Int)<2 ^ 63:=by
  rcases hb with hb|hb
  ·lia
  ·lia
 rw[if_pos h];simp only[i6,nz,DV,decide_eq_true_eq,beq_iff_eq];refine⟨⟨⟨⟨?_,?_⟩,?_⟩,?_⟩,.inr ?_⟩<;>lia
section
variable {X:Cx} {tg:ie}
def uC (ta:TA):TI:=λG H R=>ta G H λvs H1=>∃i j k:Int,vs=[.int i,.int j,.int k]/\(-(2 ^ 40)<=i/\i<2 ^ 40/\-(2 ^ 40)<=j/\j<2 ^ 40/\0<k/\k<2 ^ 29)/\R (Tf i k (B9 i j k)) H1
theorem Tw {a b c:ie}{ta:TA}(hg:Gl X "range")(hm:X.mg "range"=none)(ha:PA X [a,b,c] ta)(hs:autoParam (starEach [a,b,c] X.env=[(false,eval a X.env),(false,eval b X.env),(false,eval c X.env)]) QD)
  (hs2:autoParam (starEach [b,c] X.env=[(false,eval b X.env),(false,eval c X.env)]) QD):PI X tg (.Call (.Name "range" p) [a,b,c] [] pos) (uC ta):=by
 intro pins s G H R I h;refine Call_ (Df I hg hm boot_range (gn (thA ha I h λus s1 vs H1 I1 r1 q1=>?_) (by rw[hs,hs2]) (by rw[hs2];rfl)));obtain⟨i,j,k,e,⟨q1,q2,q3,q4,q5,q6⟩,q⟩:=q1;subst e
 cases r1 with
 |cons r rr=>
  cases rr with
  |cons r' rr=>
   cases rr with
   |cons r'' rr=>
    cases rr;obtain⟨t,rfl⟩:=r;obtain⟨t',rfl⟩:=r';obtain⟨t'',rfl⟩:=r'';refine IW (by lia) ?_ (.inl (uk (by lia)));refine yk (vj ..) (W0 q5 (by lia) (by lia) (by lia) (by lia) (by lia)) ?_;have I2:Inv X pins G H1 { s1 with heap:=s1.heap.push { cls:=.type "range",data:=.fields #[.int i t,.int j t',.int k t''] },toks:=s1.toks }:=I1.kept λb o e=>dj _ e;refine⟨_,[_],_,_,H1,rfl,I2.kept (t':=s1.toks) λb o e=>dj _ e,Kg _ i k (B9 i j k),?_,λb hb=>?_,q⟩
    ·have e1:i+((0:Nat):Int)*k=i:=by simp
     have e2:((B9 i j k:Nat):Int)-((0:Nat):Int)=ja i j k:=by rw[Rq q5];simp
     show vb _ _ (i+((0:Nat):Int)*k) (((B9 i j k:Nat):Int)-((0:Nat):Int)) k;rw[e1,e2];exact fu _ rfl
    ·have e:=ee.mp hb
     subst e;exact I2.fpOk (dh _) (I2.hok.fresh (dh _))
end
theorem Tj {lo st:Int}{g:TG}{tb:TS}{G:St}(Pv:Nat->St->Hp->Prop)(h0:Pv 0 G H)
  (hs:∀(i:Nat) G H,i<n->Pv i G H->g (.int (lo+i*st)) G H λQP H2=>tb { D with nx:=Pv (i+1),ct:=Pv (i+1),bk:=D.nx } QP H2)(hd:∀G H,Pv n G H->D.nx G H):vK (Tf lo st n) g tb D G H:=by
 refine⟨λi m G H=>i<=n/\m=n-i/\Pv i G H,⟨n,f7 _,rfl,h0⟩,?_⟩;rintro i m G H ⟨hi,rfl,hP⟩
 by_cases h:i=n
 ·subst h
  exact .inl ⟨dh _,hd G H hP⟩
 ·have hlt:i<n:=oh hi h
  refine .inr ⟨hlt,Pv (i+1),λmt H' hN=>⟨n-(i+1),by lia,hlt,rfl,hN⟩,λx H' hy=>?_⟩;obtain⟨rfl,rfl⟩:=hy;exact hs i G _ hlt hP
theorem nA {lo st:Int}{fr:St}{tc:TT}{Q:VK}(acc:Nat->List V)(h0:acc 0=[])(hz:∀i,i<n->(acc i).length<sizeLine)
  (turn:∀(i:Nat) H (R:Hp->Prop) (A:VK),i<n->Am H1 H->(acc (i+1)=acc i->∀H',Am H H'->R H')->(∀y H',acc (i+1)=acc i++[y]->Am H H'->A y H') ->
   tc (some (.int (lo+i*st))::fr) H λb H3=>if b=true then te (some (.int (lo+i*st))::fr) H3 A else R H3)
  (fin:∀D H,H1 D=none->Am H1 H->H D=some (.lst (acc n))->Q (.ref D) H):Pe (Tf lo st n) H1 fr tc te Q:=
 Pq n (λi=>.int (lo+i*st)) acc h0 hz (λi H hi _=>hi) (λi H x H' _ _ h=>⟨h.2,h.1⟩) (λH _=>dh n) turn fin
theorem wH {tA:TA}{G:St}{R:It->Hp->Prop}(h:tA G H λvs H1=>∃i j k:Int,vs=[.int i,.int j,.int k]/\(-(2 ^ 40)<=i/\i<2 ^ 40/\-(2 ^ 40)<=j/\j<2 ^ 40/\0<k/\k<2 ^ 29)/\R (Tf i k (B9 i j k)) H1):uC tA G H R:=h
def jJ (z:Str)(lo hi:Option Int):Str:=⟨((z.cps.toList.drop (HT.sIx z.cps.size 0 lo)).take (HT.sIx z.cps.size z.cps.size hi-HT.sIx z.cps.size 0 lo)).toArray⟩
def zS:V->Option Int->Option Int->Hp->VK->Prop:=λx lo hi H Q=>∃z,x=.str z/\z.length<=sizeLine/\Q (.str (jJ z lo hi)) H
theorem Aaz (lo hi:Option Int)(n:Nat):ke lo hi 1 n=(d7 (HT.sIx n n hi-HT.sIx n 0 lo)).map (HT.sIx n 0 lo + ·):=by
 have e:ke lo hi 1 n=sliceRange ((HT.sIx n 0 lo:Nat):Int) ((HT.sIx n n hi:Nat):Int) 1:=by
  unfold ke;dsimp only;congr 1
  ·cases lo with
   |none=>simp[HT.sIx]
   |some i=>
    simp only[HT.sIx,show(1:Int)>0 by decide,if_true]
    by_cases h:i<0
    ·simp only[h,if_true]
     lia
    ·simp only[h,if_false]
     lia
  ·cases hi with
   |none=>simp[HT.sIx]
   |some i=>
    simp only[HT.sIx,show(1:Int)>0 by decide,if_true]
    by_cases h:i<0
    ·simp only[h,if_true]
     lia
    ·simp only[h,if_false]
     lia
 rw[e,HK]
theorem pC (z:Str)(t:Tok)(l u:Option (Int×Tok)):(sliceMade z t l u none=.val (.str z t)/\jJ z (l.map (·.1)) (u.map (·.1))=z)\/sliceMade z t l u none=.str (jJ z (l.map (·.1)) (u.map (·.1))):=by
 have hp:slicePicked z l u none=(d7 (HT.sIx z.length z.length (u.map (·.1))-HT.sIx z.length 0 (l.map (·.1)))).map (HT.sIx z.length 0 (l.map (·.1)) + ·):=Aaz _ _ _;have hc:(slicePicked z l u none).filterMap (z.cps[·]?)=(jJ z (l.map (·.1)) (u.map (·.1))).cps.toList:=by
  rw[hp,HM];rfl
 unfold sliceMade;split
 ·rename_i hw
  left
  refine⟨rfl,Iy ?_⟩;have hlen:(slicePicked z l u none).length=z.length:=by simpa using hw
  rw[hp,da,d6] at hlen;have h1:=HT.sIx_le z.length 0 (f7 _) (l.map (·.1));have h2:=HT.sIx_le z.length z.length (dh _) (u.map (·.1));have e1:HT.sIx z.length 0 (l.map (·.1))=0\/z.length=0:=by lia
  show((z.cps.toList.drop (HT.sIx z.cps.size 0 (l.map (·.1)))).take _).toArray.toList=_;rw[show z.cps.size=z.length from rfl] at *;rcases e1 with e1|e1
  ·rw[e1,ss] at hlen
   rw[e1,hlen,ss,o3,kx];exact fc (by simp[xi])
  ·have:z.cps.toList=[]:=by
    have:z.cps.size=0:=e1
    simpa using this
   rw[this];simp
 ·right
  rw[hc]
section
variable {X:Cx}
theorem xV:SlR X zS:=by
 intro pins s G H x v vl vu lo hi sl Q I rx hs pl pu h;obtain⟨z,rfl,hz,q⟩:=h;obtain⟨t,rfl⟩:=rx;refine⟨"str",_,y9.lookup,EI _ _ _,?_⟩;obtain⟨l,el,el'⟩:∃l:Option (Int×Tok),vl=partValue l/\lo=l.map (·.1):=by
  cases pl with
  |none=>exact⟨none,rfl,rfl⟩
  |int i t=>exact⟨some (i,t),rfl,rfl⟩
 obtain⟨u,eu,eu'⟩:∃u:Option (Int×Tok),vu=partValue u/\hi=u.map (·.1):=by
  cases pu with
  |none=>exact⟨none,rfl,rfl⟩
  |int i t=>exact⟨some (i,t),rfl,rfl⟩
 subst el el' eu eu';refine BV (l:=l) (u:=u) (st:=none) hs rfl ?_;rcases pC z t l u with⟨e,e2⟩|e
 ·rw[e]
  rw[e2] at q;exact⟨.str z,H,I,⟨t,rfl⟩,q⟩
 ·rw[e]
  refine⟨?_,.str _,H,I.tok _,⟨_,rfl⟩,q⟩;refine fq ?_ hz;show(AD _ (HN _ z.cps.toList)).toArray.size<=z.cps.size;rw[ej,dy,io];simp;lia
def Ta (z:Str):Str:=⟨z.cps.toList.reverse.toArray⟩
def zB (te:TE):TE:=λG H Q=>te G H λx H1=>∃z,x=.str z/\z.length<=sizeLine/\Q (.str (Ta z)) H1
end
theorem tZ:bootBuiltins "zip"=some (.type "zip"):=by decide +kernel
theorem X1:bootBuiltins "enumerate"=some (.type "enumerate"):=by decide +kernel
theorem Inv.turnT {G:List (Option V)}{wr:List dk}{T:dk}(I:Inv X pins G H s)
  (k:∀b o,b∉wr->s.heap.get? b=some o->h'.get? b=some o)(hf:∀b∈wr,J9 X pins H b)(hT:s.heap.objs.size<=T)(hI:h'.IsTuple T us.toArray)(rv:Au xs us)(hz:xs.length<=sizeLine) :
  Inv X pins G (upd H T (.tup xs)) { s with heap:=h',toks:=t' }:=by
 have hn:H T=none:=I.hok.fresh hT;have nT:∀b u,H b=some u->b≠T:=λb u e=>Aj e hn;have nW:∀b u,H b=some u->b∉wr:=λb u e z=>by rw[(hf b z).1] at e;cases e
 refine I.step (g':=s.gens) (d':=s.drawn) (ch:=wr) (λb hb=>?_) (λb o _ _ hc e _=>k b o hc e) (λb o _ _ hc e _=>⟨o.slots,k b o hc e⟩) (λb o hc e n=>?_)
  (λb o hc e=>⟨o,k b o hc e⟩) (λb xs e=>by rw[Ai (nT _ _ e)];exact e) (λb o u e=>by rw[Ai (nT _ _ e)];exact e) (λb ps e=>⟨#[],by rw[Ai (nT _ _ e),e];simp⟩) (λm hm=>?_) (λb u e=>?_) I.bare
 ·obtain⟨_,f1,_,f3,f4,f5⟩:=hf b hb
  exact⟨f3,f1,f4,f5⟩
 ·rw[Ai (fm (ef (eg e) hT))]
  exact n
 ·obtain⟨o,es,ep,ho,r⟩:=hm
  exact⟨o,es,ep,k _ o (λz=>(hf _ z).2.1 rfl) ho,r⟩
 ·by_cases hb:b=T
  ·subst hb
   rw[Ac] at e;cases e;exact⟨hz,us,rv,hI⟩
  ·rw[Ai hb] at e
   refine(I.hok b u e).stay (λc v hc q=>k c v ?_ q) (λc q=>by rw[Ai (nT _ _ q)];exact q) λc ys q=>by rw[Ai (nT _ _ q)];exact q
   rcases hc with z|z
   ·rw[z];exact nW b u e
   ·exact nW c _ z
theorem Inv.turnW {G:List (Option V)}{wr:List dk}(I:Inv X pins G H s)
  (k:∀b o,b∉wr->s.heap.get? b=some o->h'.get? b=some o)(hf:∀b∈wr,J9 X pins H b):Inv X pins G H { s with heap:=h',toks:=t' }:=by
 have nW:∀b u,H b=some u->b∉wr:=λb u e z=>by rw[(hf b z).1] at e;cases e
 refine I.step (g':=s.gens) (d':=s.drawn) (ch:=wr) (λb hb=>?_) (λb o _ _ hc e _=>k b o hc e) (λb o _ _ hc e _=>⟨o.slots,k b o hc e⟩) (λb o hc e n=>n)
  (λb o hc e=>⟨o,k b o hc e⟩) (λ_ _ e=>e) (λ_ _ _ e=>e) (λb ps e=>⟨#[],by rw[e];simp⟩) (λm hm=>?_) (λb u e=>?_) I.bare
 ·obtain⟨_,f1,_,f3,f4,f5⟩:=hf b hb
  exact⟨f3,f1,f4,f5⟩
 ·obtain⟨o,es,ep,ho,r⟩:=hm
  exact⟨o,es,ep,k _ o (λz=>(hf _ z).2.1 rfl) ho,r⟩
 ·refine(I.hok b u e).stay (λc v hc q=>k c v ?_ q) (λ_ q=>q) λ_ _ q=>q
  rcases hc with z|z
  ·rw[z];exact nW b u e
  ·exact nW c _ z
theorem Fz {a b:dk}{o u:Obj}(h1:h.get? a=some o)(h2:h.get? b=some u)(d:o.cls≠u.cls):a≠b:=λe=>by
 subst e;rw[h1] at h2;cases h2;exact d rfl
def Itz (K:de)(a b:dk):It:=
 ⟨λi H=>∃xs ys x y,SqL K H a xs/\SqL K H b ys/\xs[i]?=some x/\ys[i]?=some y,
  λi H v H'=>∃t x y,H t=none/\v=.ref t/\(∀xs,SqL K H a xs->xs[i]?=some x)/\(∀ys,SqL K H b ys->ys[i]?=some y)/\H'=upd H t (.tup [x,y]),
  λi H=>∃xs ys,SqL K H a xs/\SqL K H b ys/\i=min xs.length ys.length⟩
def StZ (z TI TO i1 i2 l1 l2:dk)(i:Nat)(h:i8):Prop:=IsZip h z TI TO .none/\tp h TI (.ref i1) (.ref i2)/\(∃a b,tp h TO a b)/\h.IsListIter i1 l1 i/\h.IsListIter i2 l2 i
structure cL (z TI TO i1 i2:dk):Prop where
 TIz:TI≠z
 TOz:TO≠z
 i1z:i1≠z
 i2z:i2≠z
 TITO:TI≠TO
 TIi1:TI≠i1
 TIi2:TI≠i2
 TOi1:TO≠i1
 TOi2:TO≠i2
 i12:i1≠i2
theorem Z3 {TI TO a b:dk}{i:Nat}{xs ys:Array d3}(D:cL z TI TO i1 i2)(st:StZ z TI TO i1 i2 a b i h)(ha:h.IsList a xs)(hb:h.IsList b ys):y6 z TI TO i1 i2 a b:=by
 obtain⟨hz,hTI,⟨u,v,hTO⟩,⟨o1,e1,c1,_⟩,⟨o2,e2,c2,_⟩⟩:=st;obtain⟨oa,ea,ca,_⟩:=ha;obtain⟨ob,eb,cb,_⟩:=hb;refine⟨D.TIz,D.TOz,D.i1z,D.i2z,D.TITO,D.TIi1,D.TIi2,D.TOi1,D.TOi2,D.i12,Fz ea hz ?_,Fz ea hTO ?_,Fz ea e1 ?_,Fz ea e2 ?_,Fz eb hz ?_,Fz eb hTO ?_,Fz eb e1 ?_,Fz eb e2 ?_⟩
 ·rw[ca];exact show jl "list"≠jl "zip" by decide
 ·rw[ca];exact show jl "list"≠jl "tuple" by decide
 ·rw[ca,c1];decide
 ·rw[ca,c2];decide
 ·rw[cb];exact show jl "list"≠jl "zip" by decide
 ·rw[cb];exact show jl "list"≠jl "tuple" by decide
 ·rw[cb,c1];decide
 ·rw[cb,c2];decide
theorem Rc (n:Nat):cL (n+4) (n+2) (n+3) n (n+1):=by
 constructor<;>(intro h;have h:(_:Nat)=_:=h;lia)
theorem yX {c:Nat}(h:c=n+4\/c=n+2\/c=n+3\/c=n\/c=n+1):n<=c:=by lia
theorem Aaw {c:Nat}(h:c=n+1\/c=n):n<=c:=by lia
theorem yW (n:Nat):n+1≠n:=by lia
theorem mX {P:fh}{K:de}{elts:List ie}{k:Nat}(z TI TO i1 i2 a b:dk)(D:cL z TI TO i1 i2) :
  Oh P w K (.Tuple elts k pos) (Itz K a b) [z,TI,TO,i1,i2] z (StZ z TI TO i1 i2 a b) where
 mem:=by simp
 obj:=λi h st c hc=>by
  obtain⟨hz,hTI,⟨u,v,hTO⟩,⟨o1,e1,c1,d1⟩,⟨o2,e2,c2,d2⟩⟩:=st;simp only[gt,o6,or_false] at hc;rcases hc with rfl|rfl|rfl|rfl|rfl
  ·exact⟨_,hz,λv z=>by cases z⟩
  ·exact⟨_,hTI,λv z=>by cases z⟩
  ·exact⟨_,hTO,λv z=>by cases z⟩
  ·exact⟨_,e1,λv z=>by rw[d1] at z;cases z⟩
  ·exact⟨_,e2,λv z=>by rw[d2] at z;cases z⟩
 keep:=λi h h' st kk=>by
  obtain⟨hz,hTI,⟨u,v,hTO⟩,h1,h2⟩:=st;exact⟨kk _ (by simp) _ hz,kk _ (by simp) _ hTI,⟨u,v,kk _ (by simp) _ hTO⟩,h1.at λo e=>kk _ (by simp) o e,h2.at λo e=>kk _ (by simp) o e⟩
 item:=by
  intro X hP hw hK hc i pins s G H E I hf st hg;subst hP hw hK;obtain⟨xs,ys,x,y,ha,hb,hx,hy⟩:=hg;obtain⟨its,rv,p,hz⟩:=I.list ha;obtain⟨its2,rv2,p2,hz2⟩:=I.list hb;have W:=EL (prog:=X.prog) (w:=X.w) (A:=X.A) (I.ok.hd hc) z TI TO i1 i2 a b (Z3 D st p.isList p2.isList) its.toArray its2.toArray;obtain⟨u1,hu1,ru1⟩:=rv.get hx;obtain⟨u2,hu2,ru2⟩:=rv2.get hy;have l1:=(d9.mp hu1).1;have l2:=(d9.mp hu2).1;obtain⟨s1,s2,s3,s4,s5⟩:=id st;refine W.item i s _ _ (by simp;lia) ⟨s1,s2,s3,s4,s5,p.isList,p2.isList⟩ λT vals h' tk hv hT hTu mid kk=>?_;obtain⟨v1,v2,e1,e2,rfl⟩:=hv;have e1:v1=u1:=by have:=e1;simp only[vo] at this;rw[hu1] at this;exact(dr this).symm
  have e2:v2=u2:=by have:=e2;simp only[vo] at this;rw[hu2] at this;exact(dr this).symm
  subst e1 e2;have nT:=W.apart i T h' mid;refine⟨.ref T,rfl,W.go elts k pos i T { s with heap:=h',toks:=tk } _ _ mid λh'' st'' kk2=>?_⟩;have hTu2:h''.IsTuple T ([v1,v2]:Za3).toArray:=by
   obtain⟨o,e,r⟩:=hTu;exact⟨o,kk2 T o nT e,r⟩
  have I2:Inv X pins G (upd H T (.tup [x,y])) { s with heap:=h'',toks:=tk }:=I.turnT (t':=tk) (λb o hb e=>kk2 b o hb (kk b o hb e)) (λb hb=>hf b (by simp at hb ⊢;rcases hb with rfl|rfl|rfl|rfl<;>simp)) hT hTu2 (.cons ru1 (.cons ru2 .nil)) (show 2<=sizeLine by decide)
  refine⟨.ref T,_,I2,rfl,⟨T,x,y,I.hok.fresh hT,rfl,λxs' h=>by rw[I.list_inj h ha];exact hx,λys' h=>by rw[I.list_inj h hb];exact hy,rfl⟩,⟨st''.1,st''.2.1,st''.2.2.1,st''.2.2.2.1,st''.2.2.2.2.1⟩,λc hc'=>?_⟩;have hlt:c<s.heap.objs.size:=by
   obtain⟨q,⟨t1,t2,t3⟩⟩:c∈[z,TI,TO,i1,i2]/\(IsZip s.heap z TI TO .none/\tp s.heap TI (.ref i1) (.ref i2)/\True):=⟨hc',s1,s2,trivial⟩;obtain⟨u,v,s3⟩:=s3;obtain⟨o4,s4,_⟩:=s4;obtain⟨o5,s5,_⟩:=s5;simp only[gt,o6,or_false] at hc';rcases hc' with rfl|rfl|rfl|rfl|rfl
   ·exact eg s1
   ·exact eg s2
   ·exact eg s3
   ·exact eg s4
   ·exact eg s5
  rw[Ai (fm (ef hlt hT))];exact(hf c hc').1
 done:=by
  intro X hP hw hK hc i pins s G H E I hf st hg;subst hP hw hK;obtain⟨xs,ys,ha,hb,hi⟩:=hg;obtain⟨its,rv,p,hz⟩:=I.list ha;obtain⟨its2,rv2,p2,hz2⟩:=I.list hb;have W:=EL (prog:=X.prog) (w:=X.w) (A:=X.A) (I.ok.hd hc) z TI TO i1 i2 a b (Z3 D st p.isList p2.isList) its.toArray its2.toArray;have hl:=rv.length;have hl2:=rv2.length;have hi2:i=min its.toArray.size its2.toArray.size:=by rw[hi,hl,hl2];simp
  obtain⟨s1,s2,s3,s4,s5⟩:=id st;refine W.done s _ _ (by rw[<-hi2];exact⟨s1,s2,s3,s4,s5,p.isList,p2.isList⟩) λh' tk kk=>⟨rfl,?_⟩;exact I.turnW (t':=tk) kk λb hb=>hf b (by simp at hb ⊢;rcases hb with rfl|rfl|rfl|rfl<;>simp)
 self:=λ_ _ _ _ _ st h=>zl st.1 h
section
variable {X:Cx} {elts:List ie} {k:Nat} {tpos:Pos}
def zJ (K:de)(ta:TA):TI:=λG H R=>ta G H λvs H1=>∃a b,vs=[.ref a,.ref b]/\(∃xs,SqL K H1 a xs)/\(∃ys,SqL K H1 b ys)/\R (Itz K a b) H1
theorem vM {a b:ie}{ta:TA}(hg:Gl X "zip")(hm:X.mg "zip"=none)(ha:PA X [a,b] ta)(hs:autoParam (starEach [a,b] X.env=[(false,eval a X.env),(false,eval b X.env)]) QD)(hs2:autoParam (starEach [b] X.env=[(false,eval b X.env)]) QD) :
  PI X (.Tuple elts k tpos) (.Call (.Name "zip" p) [a,b] [] pos) (zJ X.K ta):=by
 intro pins s G H R I h;refine Call_ (Df I hg hm tZ (gn (thA ha I h λus s1 vs H1 I1 r1 q1=>?_) (by rw[hs,hs2]) (by rw[hs2];rfl)));obtain⟨a,b,e,⟨xs,hx⟩,⟨ys,hy⟩,q⟩:=q1;subst e;obtain⟨u,v,rfl,ru,rv⟩:=Uk r1;cases ru;cases rv;obtain⟨its,rv,p,hz⟩:=I1.list hx;obtain⟨its2,rv2,p2,hz2⟩:=I1.list hy;refine call_zip_2 p.isList p2.isList λh' g1 g2 g3 g4 g5 hsz kk=>?_;refine zl (s:={ s1 with heap:=h' }) g1 ?_;refine⟨s1.heap.objs.size+4,[s1.heap.objs.size+4,s1.heap.objs.size+2,s1.heap.objs.size+3,s1.heap.objs.size,s1.heap.objs.size+1],_,_,H1,rfl,I1.kept (t':=s1.toks) kk,
  mX _ _ _ _ _ a b (Rc _),⟨g1,g2,⟨_,_,g3⟩,g4,g5⟩,λc hc=>?_,q⟩
 have hle:s1.heap.objs.size<=c:=by
  simp only[gt,o6,or_false] at hc;exact yX hc
 exact I1.fpOk hle (I1.hok.fresh hle)
end
def Ite (K:de)(a:dk):It:=
 ⟨λi H=>∃xs x,SqL K H a xs/\xs[i]?=some x,
  λi H v H'=>∃t x,H t=none/\v=.ref t/\(∀xs,SqL K H a xs->xs[i]?=some x)/\H'=upd H t (.tup [.int i,x]),
  λi H=>∃xs,SqL K H a xs/\i=xs.length⟩
def StE (e it l:dk)(i:Nat)(h:i8):Prop:=(∃old,IsEnum h e it i old)/\h.IsListIter it l i
theorem hZ {P:fh}{K:de}{elts:List ie}{k:Nat}(e it a:dk)(D:e≠it) :
  Oh P w K (.Tuple elts k pos) (Ite K a) [e,it] e (StE e it a) where
 mem:=by simp
 obj:=λi h st c hc=>by
  obtain⟨⟨old,he⟩,⟨o1,e1,c1,d1⟩⟩:=st;simp only[gt,o6,or_false] at hc;rcases hc with rfl|rfl
  ·exact⟨_,he,λv z=>by cases z⟩
  ·exact⟨_,e1,λv z=>by rw[d1] at z;cases z⟩
 keep:=λi h h' st kk=>by
  obtain⟨⟨old,he⟩,h1⟩:=st;exact⟨⟨old,kk _ (by simp) _ he⟩,h1.at λo e=>kk _ (by simp) o e⟩
 item:=by
  intro X hP hw hK hc i pins s G H E I hf st hg;subst hP hw hK;obtain⟨xs,x,ha,hx⟩:=hg;obtain⟨its,rv,p,hz⟩:=I.list ha;obtain⟨⟨old,s1⟩,s2⟩:=id st;have n1:a≠e:=by obtain⟨oa,ea,ca,_⟩:=p.isList;exact Fz ea s1 (by rw[ca];exact show jl "list"≠jl "enumerate" by decide)
  have n2:a≠it:=by obtain⟨oa,ea,ca,_⟩:=p.isList;obtain⟨o1,e1,c1,_⟩:=s2;exact Fz ea e1 (by rw[ca,c1];decide)
  have W:=BW (prog:=X.prog) (w:=X.w) (A:=X.A) (I.ok.hd hc) e it a D n1 n2 its.toArray;obtain⟨u1,hu1,ru1⟩:=rv.get hx;have l1:=(d9.mp hu1).1;refine W.item i s _ _ (by simpa using l1) ⟨⟨old,s1⟩,s2,p.isList⟩ λT vals h' tk hv hT hTu mid kk=>?_;obtain⟨t,v1,e1,rfl⟩:=hv;have e1:v1=u1:=by have:=e1;simp only[vo] at this;rw[hu1] at this;exact(dr this).symm
  subst e1;have nT:=W.apart i T h' mid;refine⟨.ref T,rfl,W.go elts k pos i T { s with heap:=h',toks:=tk } _ _ mid λh'' st'' kk2=>?_⟩;have hTu2:h''.IsTuple T ([l5 (i:Int) t,v1]:Za3).toArray:=by
   obtain⟨o,e,r⟩:=hTu;exact⟨o,kk2 T o nT e,r⟩
  have I2:Inv X pins G (upd H T (.tup [.int i,x])) { s with heap:=h'',toks:=tk }:=I.turnT (t':=tk) (λb o hb e=>kk2 b o hb (kk b o hb e)) (λb hb=>hf b hb) hT hTu2 (.cons ⟨t,rfl⟩ (.cons ru1 .nil)) (show 2<=sizeLine by decide);refine⟨.ref T,_,I2,rfl,⟨T,x,I.hok.fresh hT,rfl,λxs' h=>by rw[I.list_inj h ha];exact hx,rfl⟩,⟨?_,st''.2.1⟩,λc hc'=>?_⟩
  ·exact st''.1
  have hlt:c<s.heap.objs.size:=by
   obtain⟨o5,s5,_⟩:=s2;simp only[gt,o6,or_false] at hc';rcases hc' with rfl|rfl
   ·exact eg s1
   ·exact eg s5
  rw[Ai (fm (ef hlt hT))];exact(hf c hc').1
 done:=by
  intro X hP hw hK hc i pins s G H E I hf st hg;subst hP hw hK;obtain⟨xs,ha,hi⟩:=hg;obtain⟨its,rv,p,hz⟩:=I.list ha;obtain⟨⟨old,s1⟩,s2⟩:=id st;have n1:a≠e:=by obtain⟨oa,ea,ca,_⟩:=p.isList;exact Fz ea s1 (by rw[ca];exact show jl "list"≠jl "enumerate" by decide)
  have n2:a≠it:=by obtain⟨oa,ea,ca,_⟩:=p.isList;obtain⟨o1,e1,c1,_⟩:=s2;exact Fz ea e1 (by rw[ca,c1];decide)
  have W:=BW (prog:=X.prog) (w:=X.w) (A:=X.A) (I.ok.hd hc) e it a D n1 n2 its.toArray;have hl:=rv.length;have hi2:i=its.toArray.size:=by rw[hi,hl];simp
  refine W.done s _ _ (by rw[<-hi2];exact⟨⟨old,s1⟩,s2,p.isList⟩) λh' tk kk=>⟨rfl,?_⟩;exact I.turnW (t':=tk) kk λb hb=>hf b hb
 self:=λ_ _ _ _ _ st h=>ET (JC st.1) h
section
variable {X:Cx} {elts:List ie} {k:Nat} {tpos:Pos}
def uU (K:de)(ta:TA):TI:=λG H R=>ta G H λvs H1=>∃a,vs=[.ref a]/\(∃xs,SqL K H1 a xs)/\R (Ite K a) H1
theorem Pm {a:ie}{ta:TA}(hg:Gl X "enumerate")(hm:X.mg "enumerate"=none)(ha:PA X [a] ta)(hs:autoParam (starEach [a] X.env=[(false,eval a X.env)]) QD) :
  PI X (.Tuple elts k tpos) (.Call (.Name "enumerate" p) [a] [] pos) (uU X.K ta):=by
 intro pins s G H R I h;refine Call_ (Df I hg hm X1 (gn (thA ha I h λus s1 vs H1 I1 r1 q1=>?_) hs rfl));obtain⟨a,e,⟨xs,hx⟩,q⟩:=q1;subst e;obtain⟨u,rfl,ru⟩:=En r1;cases ru;obtain⟨its,rv,p,hz⟩:=I1.list hx;refine call_enumerate_list p.isList λh' g1 g2 hsz kk=>?_;refine ET (s:={ s1 with heap:=h' }) g1 ?_;refine⟨s1.heap.objs.size+1,[s1.heap.objs.size+1,s1.heap.objs.size],_,_,H1,rfl,I1.kept (t':=s1.toks) kk,
  hZ _ _ a (yW _),⟨⟨_,g1⟩,g2⟩,λc hc=>?_,q⟩
 have hle:s1.heap.objs.size<=c:=by
  simp only[gt,o6,or_false] at hc;exact Aaw hc
 exact I1.fpOk hle (I1.hok.fresh hle)
end
structure Nw (QX:Za6) (QQ sc:l6) (x1 x2:Str) (N:Za6) (ix:Za4):Prop where
 kind:sc.kind=.function
 nocell:∀y∈sc.names,y.2≠.cell
 names:∀y∈sc.names,y.2=.local->sc.names.lookup y.1=some .local
 free:∀y∈sc.names,y.2=.free->QQ.names.lookup y.1=some .cell
 nd:N.Nodup
 hd:N[0]?=some x1
 hd2:N[1]?=some x2
 loc:sc.names.lookup x1=some .local
 loc2:sc.names.lookup x2=some .local
 len:N.length=ix.length+2
 at_:∀p∈N.tail.tail.zip ix,QX[p.2]?=some p.1/\sc.names.lookup p.1=some .free
def Xh (K:de)(J:It)(H1:Hp)(fr:St)(tc:TT)(te:TE)(Q:VK):Prop:=∀D,H1 D=none->∃W:Nat->Nat->Hp->Prop,(∃m,W 0 m (upd H1 D (.lst [])))/\∀i m H,W i m H ->
 (J.stop i H/\Q (.ref D) H)\/(J.go i H/\∀v H',J.yld i H v H'->∃a x y,v=.ref a/\SqT K H' a [x,y]/\tc (some x::some y::fr) H' λb H3=>
  if b=true then te (some x::some y::fr) H3 λy H4=>∃ys,H4 D=some (.lst ys)/\ys.length<sizeLine/\∃m',m'<m/\W (i+1) m' (upd H4 D (.lst (ys++[y]))) else ∃m',m'<m/\W (i+1) m' H3)
def Aad (K:de)(wi:TI)(ix:Za4)(tc:TT)(te:TE):TE:=λG H Q=>wi G H λJ H1=>Xh K J H1 (frV G ix) tc te Q
section
variable {X:Cx} {scope:l6} {N:Za6} {ix:Za4} {x1 x2:Str} {px px2 ppos:Pos} {kk:Nat} {elt iter:ie} {ifs:List ie} {tc:TT} {te:TE} {pos:Pos}
theorem vP {G:St}{tn:Nat->i8->Prop}(L:Nw X.N X.env.scope scope x1 x2 N ix)(I2:Inv X pins G H2 s2)
  (T:Oh X.prog X.w X.K tg J fp it tn)(st2:tn 0 s2.heap)(f2:∀b∈fp,J9 X pins H2 b){s3 s4:d4}{H3:Hp}(I3:Inv X pins G H3 s3)(I4:Inv X pins G H3 s4)(hle:s2.heap.objs.size<=s3.heap.objs.size)
  (hC:C=s3.heap.objs.size)(ho:s4.os=s3.os)(kp:∀b u,s3.heap.get? b=some u->s4.heap.get? b=some u){m:Za2}(hns:s4.heap.Ns C m):Inv (C8 X scope N C s3 H3 fp) [] (none::none::frV G ix) H3 s4:=by
 have hfree:∀y∈scope.names,y.2=.free->∃c,X.env.cells.lookup y.1=some c:=λy hy hf=>I2.ok.has y.1 (.inl (L.free y hy hf));have sub:∀y c,(Cj X.env scope.names []).lookup y=some c->X.env.cells.lookup y=some c:=λy c h=>F8 _ _ y c hfree (λ_ _ z=>by simp at z) h;have lt2:∀b∈fp,b<s2.heap.objs.size:=λb hb=>by obtain⟨o,e,_⟩:=T.obj _ _ st2 b hb;exact eg e
 have okY:(C8 X scope N C s3 H3 fp).Ok:=by
  refine⟨I2.ok.mod,L.kind,I2.ok.glob,I2.ok.blt,ku hC.symm,λy z c h1 h2=>I2.ok.inj y z c (sub y c h1) (sub z c h2),λy hy=>?_,λy c z _=>?_,I2.ok.hd,I2.ok.frames,.inl rfl,λb hb=>⟨?_,λy c h=>(f2 b hb).2.2.2.2.1 y c (sub y c h)⟩,
   I3.bs,fq I3.ok.bsz I3.sz,λb o e hb=>?_,λb hb z=>?_,I3.stack,I3.stkFree⟩
  ·have hk:(y,lh)∈scope.names:=by
    rcases hy with hy|hy
    ·rcases Fe hy with q|q
     ·exact absurd rfl (L.nocell _ q)
     ·exact q.1
    ·rcases Fe hy with q|q
     ·exact q
     ·exact absurd q.2 (by decide)
   exact iu.mp (Db _ _ y hk)
  ·cases(show false=true from z)
  ·have l:=lt2 b hb
   show b≠C;rw[hC];exact fm (ef l hle)
  ·rcases(f2 b hb).2.2.2.1 with q|q
   ·exact I2.ok.noex b o e q
   ·exact absurd (ef (eg e) (fq I2.ok.bsz q)) (ko _)
  ·rcases gt.mp (I2.stkSub b z) with q|q
   ·exact(f2 b hb).2.1 q
   ·exact(f2 b hb).2.2.1 q
 refine⟨okY,ho,I4.bare,Un.kept kp,⟨m,hns,λi y v h1 h2 h3=>?_⟩,λy c e=>I4.cell y c (sub y c e),?_,λy c e=>I4.freeC y c (sub y c e),λp hp=>absurd (show p∈([]:Za1) from hp) (by simp),I4.hok,?_⟩
 ·cases i with
  |zero=>cases(show some none=some (some v) from h2)
  |succ k=>
   cases k with
   |zero=>cases(show some none=some (some v) from h2)
   |succ k=>
   have h2:(frV G ix)[k]?=some (some v):=h2;have h1:N[k+1+1]?=some y:=h1;unfold frV at h2;rw[du] at h2
   cases hj:ix[k]? with
   |none=>rw[hj] at h2;cases h2
   |some j=>
    rw[hj] at h2;have h2:(G[j]?).getD none=some v:=dr h2;have h2':G[j]?=some (some v):=by
     cases e:G[j]? with
     |none=>rw[e] at h2;cases h2
     |some z=>rw[e] at h2;exact congrArg some h2
    have ht:N.tail.tail[k]?=some y:=by rw[qg,qg];exact h1
    have hz:(y,j)∈N.tail.tail.zip ix:=d5 (i:=k) (by rw[pj];exact⟨ht,hj⟩);obtain⟨q1,q2⟩:=L.at_ _ hz;have hm:=jf q2;have hcell:=L.free _ hm rfl;obtain⟨m',hn',hl'⟩:=I4.loc;obtain⟨u,r,lk⟩:=hl' j y v q1 h2' (.inr (.inl hcell));refine⟨u,r,.inr ⟨.inl (Je I2.ok.kind hcell q2),?_⟩⟩;rcases lk with lk|⟨_,c,e,z⟩
    ·rw[show X.env.kindOf y=some .cell from hcell] at lk
     cases lk.1
    ·obtain⟨c',e'⟩:=iu.mp (Db (env:=X.env) scope.names [] y hm)
     have e2:=sub y c' e';rw[e] at e2;cases e2;exact⟨c,e',z⟩
 ·show H3 C=none
  exact I3.hok.fresh (ku hC.symm)
 ·show(none::none::frV G ix).length=N.length
  rw[L.len];simp[frV]
theorem rW {tgt:ie}(htg:tgt=.Tuple [.Name x1 px,.Name x2 px2] kk ppos){G:St}{tn:Nat->i8->Prop}(hc:X.calm=true)(L:Nw X.N X.env.scope scope x1 x2 N ix)(I2:Inv X pins G H2 s2)
  (T:Oh X.prog X.w X.K tgt J fp it tn)(st2:tn 0 s2.heap)(f2:∀b∈fp,J9 X pins H2 b)
  (hif:∀C s H,PIf (C8 X scope N C s H fp) ifs tc)(he:∀C s H,PE (C8 X scope N C s H fp) elt te){Q:VK}(rd:Xh X.K J H2 (frV G ix) tc te Q){RR:d3->dk->wb->d4->Prop}{E:Za0}
  (fin:∀D C H' s' m,Inv X pins G H' s'->s2.heap.objs.size<=C->H' C=none->s'.heap.Ns C m->Q (.ref D) H'->RR (.ref D) C (.ok .next) s') :
  wpAny (model X.prog X.w) X.A (newList []) (λacc s3=>wpAny (model X.prog X.w) X.A (newFunctionEnv scope X.env.globals (Cj X.env scope.names []) [] X.env.qual none .none (some X.env)) (λcenv s4=>
   codeAny (model X.prog X.w) X.A (.compStart (.ListComp elt [⟨tgt,iter,ifs,0⟩] scope pos) 0 (.ref it) acc { cenv with scope:=relabel scope X.env }) (RR acc cenv.locals) s4) E s3) E s2:=by
 refine ki (sr L.nocell (by intro y hy;simp at hy) (λh1 hns hsb=>?_) L.kind);dsimp only at hns hsb ⊢;have I3:Inv X pins G (upd H2 s2.heap.objs.size (.lst [])) { s2 with heap:=s2.heap.push { cls:=.type "list",dict:=none,data:=.seq ([]:Za3).toArray } }:=I2.lnew (its:=[]) (t':=s2.toks) .nil (f7 _);generalize hH3:s2.heap.push { cls:=.type "list",dict:=none,data:=.seq ([]:Za3).toArray }=h3 at hns hsb I3 ⊢;have hsz:h3.objs.size=s2.heap.objs.size+1:=by rw[<-hH3,mi]
 have kp34:∀b u,h3.get? b=some u->h1.get? b=some u:=λb u e=>hsb.extBut b u (fm (eg e)) (dj _ e);have I4:Inv X pins G (upd H2 s2.heap.objs.size (.lst [])) { s2 with heap:=h1,toks:=s2.toks+([]:List (Str×d3)).length }:=I3.kept (t':=s2.toks+([]:List (Str×d3)).length) kp34;have kp24:∀b u,s2.heap.get? b=some u->h1.get? b=some u:=λb u e=>kp34 b u (by rw[<-hH3];exact dj _ e);have IY:=vP (C:=h3.objs.size) (s3:={ s2 with heap:=h3 }) L I2 T st2 f2 I3 I4 (by show s2.heap.objs.size<=h3.objs.size;lia) rfl rfl kp34 hns;have fD:H2 s2.heap.objs.size=none:=I2.hok.fresh (dh _);have lt2:∀b∈fp,b<s2.heap.objs.size:=λb hb=>by obtain⟨o,e,_⟩:=T.obj _ _ st2 b hb;exact eg e
 have st4:tn 0 h1:=T.keep _ _ _ st2 λb _ o e=>kp24 b o e;have stat:∀{pn:Za1} {H':Hp},pn=[]->(∀b∈fp,H' b=none)->∀b∈fp,J9 (C8 X scope N h3.objs.size { s2 with heap:=h3 } (upd H2 s2.heap.objs.size (.lst [])) fp) pn H' b:=λhp hn b hb=>by
  subst hp;exact⟨hn b hb,(IY.ok.exf b hb).1,IY.ok.exfs b hb,.inl hb,(IY.ok.exf b hb).2,λp hp=>absurd (show p∈([]:Za1) from hp) (by simp)⟩
 obtain⟨W,⟨m0,w0⟩,turn⟩:=rd _ fD;have loop:codeAny (model X.prog X.w) X.A (.compLoop (.ListComp elt [⟨tgt,iter,ifs,0⟩] scope pos) 0 (.ref it) (.ref s2.heap.objs.size) (compEnvC scope (Cj X.env scope.names []) h3.objs.size X.env)) (RR (.ref s2.heap.objs.size) h3.objs.size)
   { s2 with heap:=h1,toks:=s2.toks+([]:List (Str×d3)).length }:=by
  refine Vd (λn s'=>∃i H',Inv (C8 X scope N h3.objs.size { s2 with heap:=h3 } (upd H2 s2.heap.objs.size (.lst [])) fp) [] (none::none::frV G ix) H' s'/\tn i s'.heap/\(∀b∈fp,H' b=none)/\W i n H') ?_ m0
   ⟨0,_,IY,st4,λb hb=>by rw[Ai (fm (lt2 b hb))];exact(f2 b hb).1,w0⟩
  rintro n s5 ⟨i,H5,I5,st5,fr5,w5⟩;rcases turn i n H5 w5 with⟨stop,q⟩|⟨go,step⟩
  ·refine thn (T.done (C8 X scope N h3.objs.size { s2 with heap:=h3 } (upd H2 s2.heap.objs.size (.lst [])) fp) rfl rfl rfl hc i [] s5 _ H5 (λ_ _=>False) I5 (stat rfl fr5) st5 stop) λr s6 ⟨hr,I6⟩=>?_
   subst hr;obtain⟨m6,hn6,_⟩:=I6.loc;have u1:Un (frs X.stack) fp H2 (upd H2 s2.heap.objs.size (.lst [])) s2.heap h3:=Un.laid (λb u e=>by rw[<-hH3];exact dj _ e) (dh _) fD;have back:Inv X pins G H5 s6:=I2.call' (ch:=fp) (I6.os.trans rfl) (u1.trans I6.base) I6.hok I6.bare λb hb=>⟨(f2 b hb).2.2.2.1,(f2 b hb).2.1,(f2 b hb).2.2.2.2.1,(f2 b hb).2.2.2.2.2⟩;exact fin _ _ H5 s6 m6 back (by lia) I6.free hn6 q
  ·refine thn (T.item (C8 X scope N h3.objs.size { s2 with heap:=h3 } (upd H2 s2.heap.objs.size (.lst [])) fp) rfl rfl rfl hc i [] s5 _ H5 (λ_ _=>False) I5 (stat rfl fr5) st5 go) λr s6 ⟨u,hr,h6⟩=>?_
   subst hr;refine thn h6 λ_ s7 ⟨y,H7,I7,r7,y7,st7,fr7⟩=>?_;have I7':=I7.pinned (stat rfl fr7) (T.obj _ _ st7);have hg:PG (C8 X scope N h3.objs.size { s2 with heap:=h3 } (upd H2 s2.heap.objs.size (.lst [])) fp) tgt (kX X.K 2 (J8 (Dt 0) (J8 (Dt 1) oO))):=by
    rw[htg];exact Og hc (Cg (Er L.nd L.hd (.inl (nq L.loc)) (.inr (nq L.loc))) (Cg (Er L.nd L.hd2 (.inl (nq L.loc2)) (.inr (nq L.loc2))) Ky))
   obtain⟨ta,y1,y2,ey,hTu,hst⟩:=step y _ y7;refine thn (hg _ s7 _ H7 y u (λmt H'=>mt=some y1::some y2::frV G ix/\H'=H7) I7' r7 ⟨ta,[y1,y2],ey,hTu,rfl,y1,[y2],rfl,y2,[],rfl,rfl,rfl,rfl⟩) λ_ s8 ⟨σ8,H8,I8,e8,e8'⟩=>?_;subst e8 e8';refine thn (hif _ _ _ _ s8 _ _ _ I8 hst) λok s9 ⟨H9,I9,q9⟩=>?_;have again:∀{sz:d4} {Hz:Hp} {m':Nat},Inv (C8 X scope N h3.objs.size { s2 with heap:=h3 } (upd H2 s2.heap.objs.size (.lst [])) fp) ([]++Ma fp s7.heap) (some y1::some y2::frV G ix) Hz sz->m'<n->W (i+1) m' Hz ->
     ∃m,m<n/\∃i H',Inv (C8 X scope N h3.objs.size { s2 with heap:=h3 } (upd H2 s2.heap.objs.size (.lst [])) fp) [] (none::none::frV G ix) H' sz/\tn i sz.heap/\(∀b∈fp,H' b=none)/\W i m H':=λ{sz Hz m'} Iz hm wz=>by
    refine⟨m',hm,i+1,Hz,Iz.unpinned.weak (by simp) (λj v e=>?_),T.keep _ _ _ st7 λb hb o e=>(Iz.pin (b,o) (e6 _ (e6 _ (Du hb e)))).1,λb hb=>?_,wz⟩
    ·cases j with
     |zero=>cases e
     |succ j=>
      cases j with
      |zero=>cases e
      |succ j=>exact e
    ·obtain⟨o,e,d⟩:=T.obj _ _ st7 b hb
     exact(Iz.pin (b,o) (e6 _ (e6 _ (Du hb e)))).2.1
   cases ok with
   |false=>
    obtain⟨m',hm,wz⟩:=q9;exact again I9 hm wz
   |true=>
    refine thn (he _ _ _ _ s9 _ _ _ I9 q9) λxv s10 ⟨z,H10,I10,r10,ys,hD,hl,m',hm,wz⟩=>?_;refine thn (Bs _ s10 _ H10 (.ref s2.heap.objs.size) [z] (.ref s2.heap.objs.size) [xv] (λ_ Hz=>Hz=upd H10 s2.heap.objs.size (.lst (ys++[z]))) I10 rfl (.cons r10 .nil) ⟨_,ys,z,rfl,rfl,hD,hl,rfl⟩) λ_ s11 ⟨_,H11,I11,_,q11⟩=>?_;subst q11;exact again I11 hm wz
 exact wa loop (T.self X.A 0 _ _ _ st4 loop)
theorem gR {i:Nat}{y:Str}{py spos:Pos}(hc:X.calm=true)(L:Nw X.N X.env.scope scope x1 x2 N ix)(hN:X.N.Nodup)(hy:X.N[i]?=some y)(hl:X.env.scope.names.lookup y=some .local)
  (hi:PI X (.Tuple [.Name x1 px,.Name x2 px2] kk ppos) iter wi)(hif:∀C s H fp,PIf (C8 X scope N C s H fp) ifs tc)(he:∀C s H fp,PE (C8 X scope N C s H fp) elt te)
  (hsw:autoParam (swapsWith (.ListComp elt [⟨.Tuple [.Name x1 px,.Name x2 px2] kk ppos,iter,ifs,0⟩] scope pos) (some (.Name y py)) spos.line X.env=pure true) QD)
  (hs:autoParam (∀z,foldedSetIterable iter X.env z=pure z) QJ):PS X (.Assign [.Name y py] (.ListComp elt [⟨.Tuple [.Name x1 px,.Name x2 px2] kk ppos,iter,ifs,0⟩] scope pos) spos) (cS (Aad X.K wi ix tc te) (Dt i)):=by
 k_end;have hfree:∀y∈scope.names,y.2=.free->∃c,X.env.cells.lookup y.1=some c:=λy hy hf=>I.ok.has y.1 (.inl (L.free y hy hf));rw[wq _ _ _ _ hsw];refine wpAny_bind (qr (wpAny_bind ?_));show wpAny _ X.A (do let _ <-comprehension (.ListComp elt [⟨.Tuple [.Name x1 px,.Name x2 px2] kk ppos,iter,ifs,0⟩] scope pos) scope X.env _ (newList []) false (eval iter X.env) (some (assign (.Name y py) X.env))) _ _ s;refine wpAny_bind (thn (Q:=λ_ s'=>SP X pins D .next s') (qt (use:=some (assign (.Name y py) X.env)) rfl hs (Gj hfree) L.kind L.names (thn (hi pins s G H _ I h) λv s1 h1=>thn h1 λitv s2 h2=>?_)) λ_ s' hq=>dw (dw hq));obtain⟨it,fp,tn,J,H2,e,I2,T,st2,f2,rd⟩:=h2;subst e;refine rW (RR:=λacc C=>compPost (model X.prog X.w) X.A X.xe (some (assign (.Name y py) X.env)) _ acc C) rfl hc L I2 T st2 f2 (λC s H=>hif C s H fp) (λC s H=>he C s H fp) rd λDa C H' s' m I' hC hf hn q=>?_;have l2:=I2.lt;have nC:C≠X.env.locals:=pf (ef l2 hC);have nF:C∉X.fs:=I2.nofs hC;obtain⟨oC,es,ep,hget,hdat,hrest⟩:=id hn;have Ip:Inv X (pins++[(C,oC)]) G H' s':=I'.pins_of λp hp=>(gj.mp hp).elim (λz=>I'.pin p (e6 _ z)) λz=>by
  have e:p=(C,oC):=by simpa using z
  subst e;exact⟨hget,hf,nC,nF,λv z=>by rw[hdat] at z;cases z⟩
 have hg:PG X (.Name y py) (Dt i):=Er hN hy (.inl hl) (.inr hl);show wpAny _ X.A (assign (.Name y py) X.env (.ref Da)) _ _ s';refine thn (hg _ s' G H' (.ref Da) (.ref Da) D.nx Ip rfl q) λ_ s'' ⟨JF,H'',I'',q''⟩=>?_;obtain⟨g1,g2,_⟩:=I''.pin (C,oC) (e6 _ (e6 _ (by simp)));refine⟨m,⟨oC,es,ep,g1,hdat,hrest⟩,λh' hsb=>⟨JF,H'',?_,q''⟩⟩;refine I''.unpinned.turned (t':=s''.toks) (it:=C) (λb o hb e=>hsb.extBut b o hb e) g2 nC (.inr (fq I2.sz hC)) (λy c e=>?_) λp hp=>?_
 ·obtain⟨v,hv⟩:=I2.cell y c e
  exact fm (ef hv.lt hC)
 ·exact fm (ef (eg (I2.pin p hp).1) hC)
end
theorem vT {K:de}{tA:TA}{G:St}{R:It->Hp->Prop}(h:tA G H λvs H1=>∃a b,vs=[.ref a,.ref b]/\(∃xs,SqL K H1 a xs)/\(∃ys,SqL K H1 b ys)/\R (Itz K a b) H1):zJ K tA G H R:=h
theorem qR {K:de}{tA:TA}{G:St}{R:It->Hp->Prop}(h:tA G H λvs H1=>∃a,vs=[.ref a]/\(∃xs,SqL K H1 a xs)/\R (Ite K a) H1):uU K tA G H R:=h
theorem Aar {K:de}{G:St}{Q:VK}{tc:TT}(h:wi G H λJ H1=>Xh K J H1 (frV G ix) tc te Q):Aad K wi ix tc te G H Q:=h
theorem rT {K:de}{G:St}{R:St->Hp->Prop}{a:dk}{x:V}{i j:Nat}(hs:SqT K H a [x,y])(h:R ((G.set i (some x)).set j (some y)) H):kX K 2 (J8 (Dt i) (J8 (Dt j) oO)) (.ref a) G H R:=
 ⟨a,[x,y],rfl,hs,rfl,x,[y],rfl,y,[],rfl,rfl,h⟩
theorem pF {K:de}{fr:St}{tc:TT}{Q:VK}(n:Nat)(f1 f2:Nat->V)(acc:Nat->List V)(h0:acc 0=[])(hz:∀i,i<n->(acc i).length<sizeLine)
  (hgo:∀i H,i<n->Am H1 H->J.go i H)(hy:∀i H v H',i<n->Am H1 H->J.yld i H v H'->∃a,v=.ref a/\SqT K H' a [f1 i,f2 i]/\Am H H')(hst:∀H,Am H1 H->J.stop n H)
  (turn:∀i H (R:Hp->Prop) (A:VK),i<n->Am H1 H->(acc (i+1)=acc i->∀H',Am H H'->R H')->(∀y H',acc (i+1)=acc i++[y]->Am H H'->A y H') ->
   tc (some (f1 i)::some (f2 i)::fr) H λb H3=>if b=true then te (some (f1 i)::some (f2 i)::fr) H3 A else R H3)
  (fin:∀D H,H1 D=none->Am H1 H->H D=some (.lst (acc n))->Q (.ref D) H):Xh K J H1 fr tc te Q:=by
 intro D hD;refine⟨λi m H=>i<=n/\m=n-i/\Am H1 H/\H D=some (.lst (acc i)),⟨n,f7 _,rfl,Ag hD,by rw[Ac,h0]⟩,?_⟩;rintro i m H ⟨hi,rfl,sm,hl⟩
 by_cases h:i=n
 ·subst h
  exact .inl ⟨hst H sm,fin D H hD sm hl⟩
 ·have hlt:i<n:=oh hi h
  refine .inr ⟨hgo i H hlt sm,λv H' hyl=>?_⟩;obtain⟨a,rfl,ht,s2⟩:=hy i H v H' hlt sm hyl;refine⟨a,_,_,rfl,ht,turn i H' _ _ hlt (sm.trans s2) (λea H3 s3=>?_) (λy H4 ea s4=>?_)⟩
  ·exact⟨n-(i+1),by lia,by lia,rfl,(sm.trans s2).trans s3,by rw[ea];exact s3 _ _ (s2 _ _ hl)⟩
  ·refine⟨acc i,s4 _ _ (s2 _ _ hl),hz i hlt,n-(i+1),by lia,by lia,rfl,λb u e=>?_,by rw[Ac,ea]⟩
   rw[Ai (Aj e hD)];exact s4 _ _ (s2 _ _ (sm _ _ e))
theorem vF {K:de}{a b:dk}{fr:St}{tc:TT}{Q:VK}(ha:SqL K H1 a xs)(hb:SqL K H1 b ys)(acc:Nat->List V)(h0:acc 0=[])(hz:∀i,i<min xs.length ys.length->(acc i).length<sizeLine)
  (turn:∀(i:Nat) x y H (R:Hp->Prop) (A:VK),xs[i]?=some x->ys[i]?=some y->Am H1 H->(acc (i+1)=acc i->∀H',Am H H'->R H')->(∀y H',acc (i+1)=acc i++[y]->Am H H'->A y H') ->
   tc (some x::some y::fr) H λb H3=>if b=true then te (some x::some y::fr) H3 A else R H3)
  (fin:∀D H,H1 D=none->Am H1 H->H D=some (.lst (acc (min xs.length ys.length)))->Q (.ref D) H):Xh K (Itz K a b) H1 fr tc te Q:=by
 refine pF (min xs.length ys.length) (λi=>xs.getD i .non) (λi=>ys.getD i .non) acc h0 hz (λi H hi sm=>⟨xs,ys,xs[i]'(by lia),ys[i]'(by lia),sm.seq ha,sm.seq hb,by simp,by simp⟩) (λi H v H' hi sm h=>?_)
  (λH sm=>⟨xs,ys,sm.seq ha,sm.seq hb,rfl⟩) (λi H R A hi sm=>turn i _ _ H R A (by simp[show i<xs.length by lia]) (by simp[show i<ys.length by lia]) sm) fin
 obtain⟨t,x,y,hn,rfl,h1,h2,rfl⟩:=h;have e1:=h1 xs (sm.seq ha);have e2:=h2 ys (sm.seq hb);refine⟨t,rfl,?_,Ag hn⟩;simp only[gr,e1,e2,ue];exact SqT.of Ac
theorem Nf {K:de}{a:dk}{i1 i2:Nat}{tb:TS}{G:St}(Pv:Nat->St->Hp->Prop)(h0:Pv 0 G H)(hl:∀i G H,i<=xs.length->Pv i G H->SqL K H a xs)
  (step:∀i x G H t,xs[i]?=some x->Pv i G H->H t=none->tb { D with nx:=Pv (i+1),ct:=Pv (i+1),bk:=D.nx } ((G.set i1 (some (.int i))).set i2 (some x)) (upd H t (.tup [.int i,x])))
  (fin:∀G H,Pv xs.length G H->D.nx G H):vK (Ite K a) (kX K 2 (J8 (Dt i1) (J8 (Dt i2) oO))) tb D G H:=by
 refine⟨λi m G H=>i<=xs.length/\m=xs.length-i/\Pv i G H,⟨_,f7 _,rfl,h0⟩,?_⟩;rintro i m G H ⟨hi,rfl,hp⟩
 by_cases h:i=xs.length
 ·exact .inl ⟨⟨xs,hl i G H hi hp,h⟩,fin G H (h▸hp)⟩
 ·have hlt:i<xs.length:=oh hi h
  refine .inr ⟨⟨xs,xs[i],hl i G H hi hp,by simp⟩,Pv (i+1),λmt H' q=>⟨xs.length-(i+1),by lia,hlt,rfl,q⟩,λv H' hy=>?_⟩;obtain⟨t,x,hn,rfl,hx,rfl⟩:=hy;exact rT (SqT.of Ac) (step i x G H t (hx xs (hl i G H hi hp)) hp hn)
structure Mth (P:fh) (w:gp) (K:de) (mg:Za2) (base:i8) (C:dk) (m:Str) (k:Nat) (ps:Za6) (sp:Sp):Prop where
 ex:∃(f:dk) (fd:jk),Av P w K mg base CX0 k f fd ps sp/\E6 K fd ps []/\qG K C m f
 cl:Cls K C
structure Mkr (P:fh) (w:gp) (K:de) (mg:Za2) (base:i8) (name:Str) (C:dk) (k:Nat) (ps:Za6) (sp:Sp):Prop where
 ex:∃(f:dk) (fd:jk),Av P w K mg base CX0 k f fd ps sp/\E6 K fd ps []/\Mk K C f/\mg name=some (.ref C)
section
variable {X:Cx} {k:Nat} {C:dk} {ps:Za6} {sp:Sp} {name m:Str} {p pos apos:Pos} {e o:ie} {es:List ie} {ta:TE} {t:TA} {pl:Sem Bool}
theorem Rf (M:Mkr X.prog X.w X.K X.mg X.base name C k ps sp)(hr:Ca (k+1) X.A)(ha:PA X (e::es) t)(hg:autoParam (Gl X name) QD)(hdb:autoParam ((name==("__debug__":Str))=false) QF)
  (he:autoParam (starEach (e::es) X.env=(false,eval e X.env)::starEach es X.env) QD)(hpl:autoParam ((backTo pos (starEach es X.env)).any (·.1)=false) QD):PE X (.Call (.Name name p) (e::es) [] pos) (gN C sp [] E0 t):=by
 obtain⟨f,fd,F,b,M,hm⟩:=M.ex;exact fH M F hr hg hm b .nil fT ha hdb he hpl
theorem E2 (M:Mth X.prog X.w X.K X.mg X.base C m k ps sp)(hr:Ca k X.A)(ho:PE X o ta)(ha:PA X (e::es) t)
  (hst:autoParam (starEach (e::es) X.env=(false,eval e X.env)::starEach es X.env) QD)(hpl:autoParam ((backTo pos (starEach es X.env)).any (·.1)=false) QD)
  (ht:autoParam (eval (.Call (.Attribute o m apos) (e::es) [] pos) X.env=(do
   let ov <-eval o X.env
   standAt apos.atName
   let (f,first) <-holding [ov] (getMethod ov m pl)
   callWith pos f first (backTo pos (starEach (e::es) X.env)) (backToKw pos (keywordEach [] X.env)))) QD) :
  PE X (.Call (.Attribute o m apos) (e::es) [] pos) (Yv C m sp [] E0 ta t):=by
 obtain⟨f,fd,F,b,hm⟩:=M.ex;exact sK ho M.cl hm F hr b .nil fT ha hst hpl ht
theorem R5 (M:Mth X.prog X.w X.K X.mg X.base C m k ps sp)(hr:Ca k X.A)(ho:PE X o ta)
  (ht:autoParam (eval (.Call (.Attribute o m apos) [] [] pos) X.env=(do
   let ov <-eval o X.env
   standAt apos.atName
   let (f,first) <-holding [ov] (getMethod ov m pl)
   callWith pos f first (backTo pos (starEach [] X.env)) (backToKw pos (keywordEach [] X.env)))) QD) :
  PE X (.Call (.Attribute o m apos) [] [] pos) (Yv C m sp [] E0 ta Wi):=by
 obtain⟨f,fd,F,b,hm⟩:=M.ex;exact lG ho M.cl hm F hr b .nil fT ht
end
section
variable {G:St} {H:Hp} {D:Go} {Q:VK} {te ta tv:TE} {tA:TA} {K:de}
theorem Aas {f:Str}(h:te G H λx H1=>∃a C dx fs v,x=.ref a/\H1 a=some (.ins C dx fs)/\Cls K C/\Bh K C f/\fs.lookup f=some v/\Q v H1):wU K te f G H Q:=h
theorem oR {a:dk}{fs:List (Str×V)}{f:Str}{v:V}(h:H a=some (.ins C dx fs))(c:Cls K C)(n:Bh K C f)(l:fs.lookup f=some v)(q:Q v H) :
  ∃a' C' dx' fs' v',V.ref a=.ref a'/\H a'=some (.ins C' dx' fs')/\Cls K C'/\Bh K C' f/\fs'.lookup f=some v'/\Q v' H:=⟨a,C,dx,fs,v,rfl,h,c,n,l,q⟩
theorem xO {f:Str}(h:tv G H λy H1=>ta G H1 λx H2=>∃a C dx fs,x=.ref a/\H2 a=some (.ins C dx fs)/\Cls K C/\Bh K C f/\fs.length<1000/\D.nx G (upd H2 a (.ins C dx (Ft f y fs)))):vD K ta tv f D G H:=h
theorem Gq {a:dk}{fs:List (Str×V)}{f:Str}{R:Hp->Prop}(h:H a=some (.ins C dx fs))(c:Cls K C)(n:Bh K C f)(l:fs.length<1000)(q:R (upd H a (.ins C dx (Ft f y fs)))) :
  ∃a' C' dx' fs',V.ref a=.ref a'/\H a'=some (.ins C' dx' fs')/\Cls K C'/\Bh K C' f/\fs'.length<1000/\R (upd H a' (.ins C' dx' (Ft f y fs'))):=⟨a,C,dx,fs,rfl,h,c,n,l,q⟩
theorem xF {E:XK}(h:tA G H λvs H1=>∀x dx,H1 x=none->H1 dx=none->dx≠x->sp (.ref x::(vs++[])) (upd (upd H1 dx (.own x)) x (.ins C dx [])) (λv H2=>v=.non/\Q (.ref x) H2) E):gN C sp [] E tA G H Q:=h
theorem vJ {m:Str}{E:XK}(h:ta G H λx H1=>∃a dx fs,x=.ref a/\H1 a=some (.ins C dx fs)/\fs.lookup m=none/\tA G H1 λvs H2=>sp (x::(vs++[])) H2 Q E):Yv C m sp [] E ta tA G H Q:=h
end
section
variable {X:Cx}
def N1 (z:Str)(c:Nat):Nat:=z.cps.toList.count c
theorem Ur (c:Nat):∀l:Za4,GZ c l=(l.count c:Nat)
 |[]=>rfl
 |n::r=>by
  rw[GY,Ur c r,qb]
  by_cases h:n=c
  ·subst h;simp;lia
  ·simp[h]
def vB:V->List V->Hp->VK->Prop:=λx vs H Q=>∃z c,x=.str z/\vs=[.str (sgn c)]/\Q (.int (N1 z c:Nat)) H
theorem Qy:MtM X "str.count" vB:=by
 intro pins s G H x vs v us Q I rx rv h;obtain⟨z,c,rfl,rfl,q⟩:=h;obtain⟨t,rfl⟩:=rx;obtain⟨u,rfl,ru⟩:=rv.one;obtain⟨t',rfl⟩:=ru;have e:Txt.count z (sgn c)=(N1 z c:Nat):=(GX z c).trans (Ur c _);refine SC.count ?_;rw[e];exact⟨.int (N1 z c:Nat),H,I.tok _,⟨_,rfl⟩,q⟩
def Aam (K:de):List V->Hp->VK->Prop:=λxs H Q=>∃(p:dk) (ns:List Int),xs=[.ref p]/\SqL K H p (ns.map V.int)/\Q (.int ns.sum) H
theorem pP (hc:X.calm=true):E9 X (.builtin "sum") (Aam X.K):=by
 intro pins s G H xs us Q I r h;obtain⟨p,ns,rfl,hp,q⟩:=h;obtain⟨u,rfl,ru⟩:=En r;cases ru;obtain⟨its,r,pl,_⟩:=I.list hp;have hi:=Rg r;obtain⟨ys,e⟩:=hi.allInts.items;have hl:=pl.isList;have hs:(numsOf its).sum=ns.sum:=by rw[hi.numsOf]
 rw[e] at hl;refine sum_intListG (I.ok.hd hc) hl λh' tk t' hk=>?_;refine⟨.int ns.sum,H,I.kept hk,⟨t',?_⟩,q⟩;rw[preSum_eq,fc (by simp),<-hs];have e2:=HX ys;rw[<-e] at e2;rw[show its=its.toArray.toList from rfl,e2]
end
namespace IB
open PySem.NumText PySem.Calls
def bits (cs:Za4):Prop:=∀c∈cs,c=48\/c=49
def v2 (cs:Za4):Nat:=cs.foldl (λa c=>a*2+(c-48)) 0
theorem W4 {c:Nat}(ds:Array Nat)(b:Bool)(h:c=48\/c=49):step 2 (ds,b) c=some (ds.push (c-48),true):=by rcases h with rfl|rfl<;>rfl
theorem Q5:∀(cs:Za4) (ds:Array Nat),bits cs->cs.foldlM (step 2) (ds,true)=some (cs.foldl (λacc c=>acc.push (c-48)) ds,true)
 |[],ds,_=>rfl
 |c::cs,ds,h=>by
  rw[DK,W4 ds true (h c fi)];exact Q5 cs _ λd hd=>h d (fb _ hd)
theorem Y4 (h:bits cs)(hne:cs≠[]):digits? 2 cs=some (cs.foldl (λacc c=>acc.push (c-48)) #[]):=by
 cases cs with
 |nil=>exact absurd rfl hne
 |cons c cs=>
  unfold digits?;rw[DK,W4 #[] false (h c fi)];show((cs.foldlM (step 2) (#[].push (c-48),true)).bind _)=_;rw[Q5 cs _ λd hd=>h d (fb _ hd)];rfl
theorem Ry:∀(cs:Za4) (ds:Array Nat),(cs.foldl (λacc c=>acc.push (c-48)) ds).foldl (λacc d=>acc*2+d) 0=cs.foldl (λacc c=>acc*2+(c-48)) (ds.foldl (λacc d=>acc*2+d) 0)
 |[],ds=>rfl
 |c::cs,ds=>by
  rw[oj,Ry cs,oj,Array.foldl_push]
theorem Uh (h:bits cs):cs.dropWhile blank=cs:=by
 cases cs with
 |nil=>rfl
 |cons c cs=>
  rw[List.dropWhile_cons,if_neg];rcases h c fi with rfl|rfl<;>decide
theorem jN (h:bits cs):sign cs=(false,cs):=by
 cases cs with
 |nil=>rfl
 |cons c cs=>rcases h c fi with rfl|rfl<;>rfl
theorem Z7 (h:bits cs):based 2 cs=(2,false,cs):=by
 have hp:prefix? cs=none:=by
  match cs,h with
  |[],_=>rfl
  |[c],h=>rcases h c fi with rfl|rfl<;>rfl
  |c::d::r,h=>
   rcases h c fi with rfl|rfl
   ·rcases h d (fb _ fi) with rfl|rfl<;>rfl
   ·rfl
 unfold based;rw[hp];rfl
theorem jL (h:bits cs)(hne:cs≠[]):(int_private% "readNumeral") 0 2 cs=(int_private% "Numeral.value") (v2 cs:Nat):=by
 refine(readNumeral_eq 0 2 cs).trans ?_;have hr:bits cs.reverse:=λc hc=>h c (re.mp hc);rw[Uh h,jN h];dsimp only;rw[Z7 h];dsimp only;rw[Uh hr,mz,Y4 h hne];have e:(cs.foldl (λacc c=>acc.push (c-48)) #[]).foldl (λacc d=>acc*2+d) 0=v2 cs:=Ry cs #[];unfold judge;dsimp only;rw[e];rfl
theorem rS {E:Za0}{Q:Za0}{v:d3}{text:Za4}{n:Int}
    (hs : (text.takeWhile (· != 0)).length <= 640)(hr : (int_private% "readNumeral") 0 2 (text.takeWhile (· != 0)) = (int_private% "Numeral.value") n)
    (ha : ((text.takeWhile (· != 0)).length == text.length) = true)(h : Q (.int n s.toks) { s with toks := s.toks + 1 }) :
    wpAny M A ((int_private% "intFromText") v text 2) Q E s := by
  obtain ⟨hp, g, d, tk, os⟩ := s
  repeat (any_goals (first
    | assumption
    | (with_reducible refine xh (decide_eq_true hs) ?_)
    | (with_reducible refine xh (decide_eq_true ha) ?_)
    | wp_step))
  all_goals (try rw [hr])
  all_goals (try dsimp only)
  repeat (any_goals (first
    | assumption
    | (with_reducible refine xh (decide_eq_true hs) ?_)
    | (with_reducible refine xh (decide_eq_true ha) ?_)
    | wp_step))
theorem typeCall_int_2 (a b:d3):checkTypeCall "int" ⟨[a,b],[]⟩=pure ():=by kernel_rfl
theorem newCall_int_2 (a b:d3):checkBuiltinCall "int.__new__" ⟨[.type "int",a,b],[]⟩=pure ():=by kernel_rfl
structure Hid (p:Prop):Prop where
 out:p
theorem Wl {x:Str}(h:bits x.cps.toList):(if x.cps.all (· < 128) then x.cps.toList else Unicode.numberText x.cps.toList)=x.cps.toList:=by
 rw[if_pos];rw[Array.all_eq_true'];intro c hc;have:=h c (by simpa using hc);rcases this with rfl|rfl<;>decide
theorem Hm (h:bits cs):cs.takeWhile (· != 0)=cs:=takeWhile_all λc hc=>by rcases h c hc with rfl|rfl<;>decide
set_option maxHeartbeats 4000000 in
theorem gives_bits {x:Str}{u v:Tok}(hl:x.length<=640)(hb:bits x.cps.toList)(hne:x.cps.toList≠[]):Gives (qd.«int.__new__» ⟨[.type "int",.str x u,.int 2 v],[]⟩) (.int (v2 x.cps.toList:Nat)) :=
  .of_wp λM A E s Q h => by
    obtain ⟨hp, g, d, tk, os⟩ := s;have f1 := F.conv_sub_int;have f2 := F.madeHere_int;have f6 : typeOf (.str x u) = pure (.type "str") := rfl;have hs : ((x.cps.toList).takeWhile (· != 0)).length <= 640 := by rw [Hm hb]; simpa [xi] using hl
    have hr := jL hb hne;rw [<- Hm hb] at hr;rw [Hm hb] at hr;have hr : (int_private% "readNumeral") 0 2 ((x.cps.toList).takeWhile (· != 0)) = (int_private% "Numeral.value") (v2 x.cps.toList : Nat) := by rw [Hm hb]; exact hr
    have ha : (((x.cps.toList).takeWhile (· != 0)).length == (x.cps.toList).length) = true := by rw [Hm hb]; simp
    have ht := Wl hb;have hk := Hid.mk (DW hs (DW hr (DW ha ht)));clear hs hr hl ha ht hne
    repeat (any_goals (first
      | assumption
      | ((with_reducible show wpAny _ _ ((int_private% "intFromText") _ _ _) _ _ _); rw [hk.out.2.2.2]; refine rS hk.out.1 hk.out.2.1 hk.out.2.2.1 ?_)
      | wp_step))
    all_goals first | exact ⟨_, rfl, h⟩ | skip
end IB
section
variable {X:Cx}
def zY:List V->Hp->VK->Prop:=λxs H Q=>∃z,xs=[.str z,.int 2]/\z.length<=640/\IB.bits z.cps.toList/\z.cps.toList≠[]/\Q (.int (IB.v2 z.cps.toList:Nat)) H
theorem Tg:E9 X (.type "int") zY:=by
 intro pins s G H xs us Q I r h;obtain⟨z,rfl,hl,hb,hne,q⟩:=h;obtain⟨u,w',rfl,ru,rw'⟩:=Uk r;obtain⟨t,rfl⟩:=ru;obtain⟨t',rfl⟩:=rw';exact callType_new F.called_int F.newNe_int (IB.typeCall_int_2 _ _) (IB.newCall_int_2 _ _) (λobj=>F.args_object_init_3 obj _ _) F.entry_int_new (IB.gives_bits hl hb hne).meets (show(Made.int _).post _ s from⟨rfl,.int (IB.v2 z.cps.toList:Nat),H,I.tok _,⟨_,rfl⟩,q⟩)
end
theorem dM (n:Nat):ke none none (-1) n=(d7 n).map λk=>n-1-k:=by
 unfold ke;dsimp only;rw[if_neg (by decide),if_neg (by decide)];unfold sliceRange;dsimp only;rw[if_neg (by decide)];have e:(if((n:Int)-1 > -1) then((n:Int)-1 - -1 - -1-1)/(- -1) else 0).toNat=n:=by
  split
  ·simp
  ·lia
 rw[e];refine jg λk hk=>?_;have:=gz.mp hk;lia
theorem Ue (l:Za4):∀n,n<=l.length->((d7 n).map λk=>n-1-k).filterMap (l[·]?)=(l.take n).reverse
 |0,_=>by simp
 |n+1,h=>by
  have hl:n<l.length:=h;rw[ux,ft,gx,k5];have e:((λk=>n+1-1-k) ∘ Nat.succ)=λk=>n-1-k:=by
   funext k
   show n+1-1-(k+1)=n-1-k;lia
  rw[e,show n+1-1-0=n by lia,df hl];dsimp only;rw[Ue l n (by lia),il,df hl,Option.toList_some,nv];rfl
section
variable {X:Cx} {e:ie} {te:TE} {p1 p2 p3 pos:Pos} {j:Nat}
theorem J2 (z:Str):(Ta z).length=z.length:=by
 show z.cps.toList.reverse.toArray.size=z.cps.size;simp
theorem qP {x1}(he:PE X e te):PE X (.Subscript e (.Slice none none (some (.UnaryOp .USub (.Constant (.int 1) x1 p1) p2)) p3) pos) (zB te):=by
 k_in;refine Subscript_ (thE he I h λv s1 x H1 I1 r1 q1=>?_);obtain⟨z,rfl,hz,q⟩:=q1;obtain⟨t,rfl⟩:=r1;refine DO ?_;rw[yb];refine dw (dw ?_);rw[evalPart_some];have hm:PE X (.UnaryOp .USub (.Constant (.int 1) x1 p1) p2) (tUn (rU λi=>.int (-i)) (tC (.int 1))):=Fq Dx Ad;refine thn (hm pins s1 G H1 (λy H2=>y=.int (-1)/\H2=H1) I1 ⟨1,rfl,rfl,rfl⟩) λw s2 ⟨y,H2,I2,r2,e2,e3⟩=>?_;subst e2 e3;obtain⟨t2,rfl⟩:=r2;have I4:Inv X pins G H2 { s2 with heap:=s2.heap.push { cls:=.type "slice",data:=.fields #[.none,.none,.int (-1) t2] } }:=I2.kept (t':=s2.toks) λb ob q=>dj _ q;have hs:(s2.heap.push { cls:=.type "slice",data:=.fields #[.none,.none,.int (-1) t2] }).IsSlice s2.heap.objs.size none none (some (-1,t2)):=⟨_,fu _ rfl,rfl,rfl⟩;refine DP (ops:=[.ref s2.heap.objs.size,.str z t]) (EI _ _ _) y9.lookup ?_ (by with_unfolding_all rfl);refine BV hs rfl ?_;have em:sliceMade z t none none (some (-1,t2))=.str (Ta z):=by
  unfold sliceMade;rw[if_neg (by simp)];show Made.str ⟨((ke none none (-1) z.length).filterMap (z.cps[·]?)).toArray⟩=_;rw[dM];have:=Ue z.cps.toList z.cps.toList.length (dh _);have e1:z.cps.toList.length=z.length:=by simp[xi]
  rw[e1] at this;have e2:(λi:Nat=>z.cps[i]?)=λi:Nat=>z.cps.toList[i]?:=by funext i;simp
  rw[e2,this,fc (by simp[xi])];rfl
 rw[em];refine⟨?_,.str (Ta z),H2,I4.tok _,⟨_,rfl⟩,q⟩;show(Ta z).length<=_;rw[J2];exact hz
end
theorem Aa7 {G:St}{Q:VK}(h:te G H λx H1=>∃z,x=.str z/\z.length<=sizeLine/\Q (.str (Ta z)) H1):zB te G H Q:=h
theorem Hh (ns:List Int):(ns.map V.int).all Kd=true:=by simp[o9,Kd]
theorem xM {k:Nat}(hr:Ca k A):A.units+60<cLine:=by have:=hr.units;lia
def eqL (xs ys:List V):Bool:=decide (xs.length=ys.length)&&(d7 xs.length).all λj=>eqV (xs.getD j .non) (ys.getD j .non)
def rY (K:de)(n:Bool):R2:=λx y H Q=>∃a b xs ys,x=.ref a/\y=.ref b/\SqL K H a xs/\SqL K H b ys/\xs.all Kd=true/\ys.all Kd=true/\Q (.bl (n != eqL xs ys)) H
section
variable {X:Cx} {pins:Za1} {G:St} {H:Hp} {s:d4}
theorem Ty (f1:xs.all Kd=true)(f2:ys.all Kd=true)(r1:Au xs us)(r2:Au ys vs)(j:Nat)(h1:j<us.length)(h2:j<vs.length) :
  BK A s us[j] vs[j] (eqV (xs.getD j .non) (ys.getD j .non)):=by
 have l1:=r1.length;have l2:=r2.length;have e1:xs[j]?=some (xs[j]'(by lia)):=df _;have e2:ys[j]?=some (ys[j]'(by lia)):=df _;obtain⟨u,eu,ru⟩:=r1.get e1;obtain⟨v,ev,rv⟩:=r2.get e2;rw[df h1] at eu;rw[df h2] at ev;cases eu;cases ev;simp only[gr,e1,e2,ue];exact qE ru rv (o9.mp f1 _ (d5 e1)) (o9.mp f2 _ (d5 e2))
end
section
variable {X:Cx}
theorem lR (hu:X.A.units+60<cLine):OpR X (compareOp .Eq) (rY X.K false):=by
 intro pins s G H x y v u Q I rx ry h;obtain⟨a,b,xs,ys,rfl,rfl,h1,h2,f1,f2,q⟩:=h;cases rx;cases ry;obtain⟨is,r1,p1,_⟩:=I.list h1;obtain⟨js,r2,p2,_⟩:=I.list h2;have l1:=r1.length;have l2:=r2.length
 by_cases hl:xs.length=ys.length
 ·have:=IC (A:=X.A) (e:=λj=>eqV (xs.getD j .non) (ys.getD j .non)) p1.isList p2.isList (by simp;lia) (by lia) λj a1 a2=>Ty (s:=s) f1 f2 r1 r2 j (by simpa using a1) (by simpa using a2)
  refine this _ _ _ _ ⟨.bl (false != eqL xs ys),H,I,?_,q⟩;unfold eqL;rw[decide_eq_true hl];simp[A5,<-l1]
 ·have:=IA (A:=X.A) p1.isList p2.isList (by simp;lia) (by lia)
  refine this _ _ _ _ ⟨.bl (false != eqL xs ys),H,I,?_,q⟩;unfold eqL;rw[decide_eq_false hl];simp[A5]
theorem vI (hu:X.A.units+60<cLine):OpR X (compareOp .NotEq) (rY X.K true):=by
 intro pins s G H x y v u Q I rx ry h;obtain⟨a,b,xs,ys,rfl,rfl,h1,h2,f1,f2,q⟩:=h;cases rx;cases ry;obtain⟨is,r1,p1,_⟩:=I.list h1;obtain⟨js,r2,p2,_⟩:=I.list h2;have l1:=r1.length;have l2:=r2.length
 by_cases hl:xs.length=ys.length
 ·have:=GE (A:=X.A) (e:=λj=>eqV (xs.getD j .non) (ys.getD j .non)) p1.isList p2.isList (by simp;lia) (by lia) λj a1 a2=>Ty (s:=s) f1 f2 r1 r2 j (by simpa using a1) (by simpa using a2)
  refine this _ _ _ _ ⟨.bl (true != eqL xs ys),H,I,?_,q⟩;unfold eqL;rw[decide_eq_true hl];simp[A5,<-l1]
 ·have:=GC (A:=X.A) p1.isList p2.isList (by simp;lia) (by lia)
  refine this _ _ _ _ ⟨.bl (true != eqL xs ys),H,I,?_,q⟩;unfold eqL;rw[decide_eq_false hl];simp[A5]
end
theorem W2 (ns ms:List Int):eqL (ns.map V.int) (ms.map V.int)=decide (ns=ms):=by
 unfold eqL;rw[da,da]
 by_cases hl:ns.length=ms.length
 ·rw[decide_eq_true hl,Bool.true_and]
  by_cases h:ns=ms
  ·subst h
   rw[decide_eq_true rfl,o9];intro j hj;have hj:j<ns.length:=gz.mp hj;simp[gr,hj,eqV]
  ·rw[decide_eq_false h]
   refine Bool.eq_false_iff.mpr λhc=>h (yf hl λj h1 h2=>?_);have:=o9.mp hc j (gz.mpr h1);simp[gr,h1,h2,eqV] at this;exact this
 ·rw[decide_eq_false hl,EH,decide_eq_false]
  intro e;exact hl (by rw[e])
theorem uV {K:de}{Q:VK}{a b:dk}{ms:List Int}(h1:SqL K H a (ns.map V.int))(h2:SqL K H b (ms.map V.int))(q:Q (.bl (decide (ns=ms))) H):rY K false (.ref a) (.ref b) H Q:=by
 refine⟨a,b,_,_,rfl,rfl,h1,h2,Hh _,Hh _,?_⟩;rw[W2];cases hd:decide (ns=ms)<;>(rw[hd] at q;exact q)
theorem zF {K:de}{Q:VK}{a b:dk}{ms:List Int}(h1:SqL K H a (ns.map V.int))(h2:SqL K H b (ms.map V.int))(q:Q (.bl (!decide (ns=ms))) H):rY K true (.ref a) (.ref b) H Q:=by
 refine⟨a,b,_,_,rfl,rfl,h1,h2,Hh _,Hh _,?_⟩;rw[W2];cases hd:decide (ns=ms)<;>(rw[hd] at q;exact q)
theorem T3 (lo hi:Int):ja lo hi (-1)=((lo-hi).toNat:Int):=by
 unfold ja;rw[if_neg (by lia)]
 by_cases h:lo>hi
 ·rw[if_pos h]
  rw[show(-(-1):Int)=1 by decide,FV];lia
 ·rw[if_neg h]
  lia
theorem Zl {lo hi:Int}(h1:-(2 ^ 40)<=lo)(h2:lo<2 ^ 40)(h3:-(2 ^ 40)<=hi)(h4:hi<2 ^ 40):qw lo hi (-1)=true:=by
 unfold qw;rw[T3,if_neg (by lia)];simp only[i6,nz,DV,decide_eq_true_eq,beq_iff_eq];refine⟨⟨⟨⟨?_,?_⟩,?_⟩,?_⟩,.inr ?_⟩<;>lia
section
variable {X:Cx} {tg:ie}
def uX (ta:TA):TI:=λG H R=>ta G H λvs H1=>∃i j:Int,vs=[.int i,.int j,.int (-1)]/\(-(2 ^ 40)<=i/\i<2 ^ 40/\-(2 ^ 40)<=j/\j<2 ^ 40)/\R (Tf i (-1) (i-j).toNat) H1
theorem iS {a b c:ie}{ta:TA}(hg:Gl X "range")(hm:X.mg "range"=none)(ha:PA X [a,b,c] ta)(hs:autoParam (starEach [a,b,c] X.env=[(false,eval a X.env),(false,eval b X.env),(false,eval c X.env)]) QD)
  (hs2:autoParam (starEach [b,c] X.env=[(false,eval b X.env),(false,eval c X.env)]) QD):PI X tg (.Call (.Name "range" p) [a,b,c] [] pos) (uX ta):=by
 intro pins s G H R I h;refine Call_ (Df I hg hm boot_range (gn (thA ha I h λus s1 vs H1 I1 r1 q1=>?_) (by rw[hs,hs2]) (by rw[hs2];rfl)));obtain⟨i,j,e,⟨q1,q2,q3,q4⟩,q⟩:=q1;subst e
 cases r1 with
 |cons r rr=>
  cases rr with
  |cons r' rr=>
   cases rr with
   |cons r'' rr=>
    cases rr;obtain⟨t,rfl⟩:=r;obtain⟨t',rfl⟩:=r';obtain⟨t'',rfl⟩:=r'';refine IW (by lia) ?_ (.inl (uk (by lia)));refine yk (vj ..) (Zl (by lia) (by lia) (by lia) (by lia)) ?_;have I2:Inv X pins G H1 { s1 with heap:=s1.heap.push { cls:=.type "range",data:=.fields #[.int i t,.int j t',.int (-1) t''] },toks:=s1.toks }:=I1.kept λb o e=>dj _ e;refine⟨_,[_],_,_,H1,rfl,I2.kept (t':=s1.toks) λb o e=>dj _ e,Kg _ i (-1) (i-j).toNat,?_,λb hb=>?_,q⟩
    ·have e1:i+((0:Nat):Int)*(-1)=i:=by simp
     have e2:(((i-j).toNat:Nat):Int)-((0:Nat):Int)=ja i j (-1):=by rw[T3];simp
     show vb _ _ (i+((0:Nat):Int)*(-1)) ((((i-j).toNat:Nat):Int)-((0:Nat):Int)) (-1);rw[e1,e2];exact fu _ rfl
    ·have e:=ee.mp hb
     subst e;exact I2.fpOk (dh _) (I2.hok.fresh (dh _))
theorem wV {tA:TA}{G:St}{R:It->Hp->Prop}(h:tA G H λvs H1=>∃i j:Int,vs=[.int i,.int j,.int (-1)]/\(-(2 ^ 40)<=i/\i<2 ^ 40/\-(2 ^ 40)<=j/\j<2 ^ 40)/\R (Tf i (-1) (i-j).toNat) H1):uX tA G H R:=h
def wF:V->List V->Hp->VK->Prop:=λx vs H Q=>∃(l:dk) (ns:List Int) (k:Int) (j:Nat),x=.ref l/\vs=[.int k]/\H l=some (.lst (ns.map V.int))/\ns[j]?=some k/\(∀i:Nat,i<j->ns[i]?≠some k)/\Q (.int (j:Nat)) H
theorem Rh:MtM X "list.index" wF:=by
 intro pins s G H x vs v us Q I rx rv h;obtain⟨l,ns,k,j,rfl,rfl,hH,hj,hno,q⟩:=h;cases rx;obtain⟨u,rfl,t,rfl⟩:=En rv;obtain⟨z,its,n,r,hl,e⟩:=I.lstM hH;have fl:=Hh ns;have hjl:=(d9.mp hj).1;have hln:ns.length=its.length:=by rw[<-hl,da]
 have at':∀i (hi:i<its.length),eqU (.int k) its[i]=decide (ns[i]?=some k):=λi hi=>by
  have e1:(ns.map V.int)[i]?=some (.int (ns[i]'(by lia))):=by rw[du,df (by lia)];rfl
  obtain⟨u,eu,ru⟩:=r.get e1;rw[df hi] at eu;cases eu;rw[lJ ru rfl,df (by lia)];show(ns[i]==k)=decide (some ns[i]=some k)
  by_cases h:ns[i]=k
  ·rw[decide_eq_true (congrArg some h)]
   simpa using h
  ·rw[decide_eq_false λz=>h (dr z)]
   simpa using h
 have sl:=Kh;refine se F.slot_list_index ⟨_,e,rfl⟩ F.entry_list_index (F.args_list_index_2 _ _)
  (SeqAt.list_indexAt l its.toArray n none #[] (.int k t) (eqU (.int k)) j (by simp;lia) (by rw[da] at z;lia) ?_ ?_) ⟨e,λy hy=>Yb (x:=.int k) (v:=.int k t) ⟨t,rfl⟩ rfl r fl y (by simpa using hy),?_⟩
 ·show eqU (.int k) its[j]=true
  rw[at' j (by lia),decide_eq_true hj]
 ·intro i hi hlt
  show eqU (.int k) its[i]=false;rw[at' i (by simpa using hi),decide_eq_false (hno i hlt)]
 ·exact⟨.int j,H,I.tok _,⟨_,rfl⟩,q⟩
end
section
variable {prog:fh} {w:gp} {A:ir} {E:Za0} {s:d4}
theorem Lc {t sl:dk}{items:Array d3}{vl vu:d3}{lo hi:Option Int}{Q:Za0}(ht:IsTup s.heap t items)(hs:s.heap.IsSliceOf sl vl vu .none)(pl:xk vl lo)(pu:xk vu hi)
  (h1:HT.sIx items.size 0 lo=0)(h2:HT.sIx items.size items.size hi=items.size)(h:Q (.ref t) s):wpAny (model prog w) A (getItem (.ref t) (.ref sl)) Q E s:=by
 obtain⟨os,hos,hcs,hds⟩:=id hs;have hTs:s.TypeIs (.ref sl) "slice":=⟨os,hos,hcs⟩;unfold getItem
 try with_reducible refine wpAny_holding ?_
 first|refine wpAny_bind (dw ?_)|skip
 refine wpAny_bind (ES ht.typeIs (by decide) ?_);refine wpAny_bind (qz (name:=kr "__getitem__") ht.typeIs jq
  (p8 jq ht.typeIs entry_tuple_getitem ?_ (EK _ _)))
 show wpAny _ _ (wy (.ref t) >>= _) _ _ s;refine wpAny_bind (HW ht ?_);refine wpAny_bind (vz hTs ?_);rw[if_pos (by decide)];refine wpAny_bind (HT.sliceApplied_gen hs pl pu ?_);show wpAny _ _ (if(((HT.sIx items.size 0 lo:Nat):Int)==0&&(1:Int)==1&&(HT.sIx items.size items.size hi-HT.sIx items.size 0 lo)==items.size)=true then _ else _) _ _ s;rw[if_pos (by rw[h1,h2];simp)];refine wpAny_bind (wpAny_bind (vz ht.typeIs (dw ?_)));rw[if_pos (by decide)];refine wpAny_bind (ou ?_);exact wpAny_bind (dw (dw ⟨_,rfl,dw h⟩))
end
section
variable {X:Cx}
def Aa6 (K:de):V->Option Int->Option Int->Hp->VK->Prop:=λx lo hi H Q=>∃a xs,x=.ref a/\SqT K H a xs/\∀p H',Am H H'->SqT K H' p (G5 xs lo hi)->Q (.ref p) H'
theorem qW:SlR X (Aa6 X.K):=by
 intro pins s G H x v vl vu lo hi sl Q I rx hs pl pu h;obtain⟨a,xs,rfl,hx,q⟩:=h
 by_cases hw:HT.sIx xs.length 0 lo=0/\HT.sIx xs.length xs.length hi=xs.length
 ·cases rx
  obtain⟨its,r,ht,hz⟩:=I.tuple hx;have hlen:its.toArray.size=xs.length:=by rw[ej];exact r.length.symm
  refine⟨"tuple",_,jq.lookup,ht.typeIs,?_⟩;refine Lc ht hs pl pu (by rw[hlen];exact hw.1) (by rw[hlen];exact hw.2) ⟨.ref a,H,I,rfl,q a H (Am.refl _) ?_⟩;have:G5 xs lo hi=xs:=by
   unfold G5;rw[hw.1,hw.2];simp
  rw[this];exact hx
 ·exact wZ pins s G H _ v vl vu lo hi sl Q I rx hs pl pu ⟨a,xs,rfl,hx,hw,λp hp=>q p _ (Ag hp) (SqT.of Ac)⟩
theorem B1 {x:Str}{i:Int}(hg:Gl X x)(hm:∃t,X.mg x=some (.int i t))(hd:autoParam ((x==("__debug__":Str))=false) QF):PE X (.Name x pos) (tC (.int i)):=by
 obtain⟨t,h⟩:=hm;exact Wf hg h ⟨t,rfl⟩ hd
end
section
variable {G:St} {H:Hp} {D:Go} {Q:VK} {te:TE} {QB:Bool->Hp->Prop} {tA:TA}
theorem zP {K:de}{T:String}{r:V->List V->Hp->VK->Prop}(h:te G H λx H1=>tyV K T x H1/\r x [] H1 Q):Aau K T r te G H Q:=h
theorem yU {z:Str}{lo hi:Option Int}(h1:z.length<=sizeLine)(h:Q (.str (jJ z lo hi)) H):zS (.str z) lo hi H Q:=⟨z,rfl,h1,h⟩
end
theorem Aaq {A:Prop}(h:B):if(!true)=true then A else B:=by
 rw[if_neg (by decide)];exact h
theorem zT {A:Prop}(h:A):if(!false)=true then A else B:=by
 rw[if_pos (by decide)];exact h
def SameBut (x:dk)(H H':Hp):Prop:=∀b o,b≠x->H b=some o->H' b=some o
theorem Am.but {x:dk}(h:Am H H'):SameBut x H H':=λb o _ e=>h b o e
theorem SameBut.trans {x:dk}(a:SameBut x H H1)(b:SameBut x H1 H2):SameBut x H H2:=λc o n h=>b c o n (a c o n h)
def uR (H:Hp)(x:dk):Prop:=∀u,¬ Rd H x (.tup u)/\¬ Rd H x (.lst u)
theorem gY {x:dk}{fs:List (Str×V)}(h:H x=some (.ins C dx fs)):uR H x:=λu=>by
 constructor<;>(rintro(e|⟨o,e⟩)<;>(rw[h] at e;cases e))
theorem Ds {x:dk}{o:HO}:SameBut x H (upd H x o):=λb u n e=>by rw[Ai n];exact e
theorem vL {fr:St}{tc:TT}{Q:VK}(n:Nat)(item:Nat->V)(Pv:Nat->List V->Hp->Prop)(h0:∀H,Am H1 H->Pv 0 [] H)
  (stab:∀i ys H D xs o,H D=some (.lst xs)->Pv i ys H->Pv i ys (upd H D o))(hz:∀i ys H,i<n->Pv i ys H->ys.length<sizeLine)
  (hgo:∀i H,i<n->Am H1 H->J.go i H)(hy:∀i H x H',i<n->Am H1 H->J.yld i H x H'->x=item i/\H'=H)(hst:∀H,Am H1 H->J.stop n H)
  (turn:∀i ys H (A:VK) (R:Hp->Prop),i<n->Am H1 H->Pv i ys H->(∀y H',Am H H'->Pv (i+1) (ys++[y]) H'->A y H')->tc (some (item i)::fr) H λb H3=>if b=true then te (some (item i)::fr) H3 A else R H3)
  (fin:∀D ys H,H1 D=none->Am H1 H->Pv n ys H->H D=some (.lst ys)->Q (.ref D) H):Pe J H1 fr tc te Q:=by
 intro D hD;refine⟨λi m H=>i<=n/\m=n-i/\Am H1 H/\∃ys,H D=some (.lst ys)/\Pv i ys H,⟨n,f7 _,rfl,Ag hD,[],Ac,h0 _ (Ag hD)⟩,?_⟩;rintro i m H ⟨hi,rfl,sm,ys,hl,hp⟩
 by_cases h:i=n
 ·subst h
  exact .inl ⟨hst H sm,fin D ys H hD sm hp hl⟩
 ·have hlt:i<n:=oh hi h
  refine .inr ⟨hgo i H hlt sm,λx H' hyl=>?_⟩;obtain⟨rfl,rfl⟩:=hy i H x H' hlt sm hyl;refine turn i ys H' _ _ hlt sm hp (λy H4 s4 hp4=>?_);refine⟨ys,s4 _ _ hl,hz i ys _ hlt hp,n-(i+1),by lia,by lia,rfl,λb u e=>?_,ys++[y],Ac,stab _ _ _ _ _ _ (s4 _ _ hl) hp4⟩;rw[Ai (Aj e hD)];exact s4 _ _ (sm _ _ e)
theorem jD {lo st:Int}{fr:St}{tc:TT}{Q:VK}(Pv:Nat->List V->Hp->Prop)(h0:∀H,Am H1 H->Pv 0 [] H)
  (stab:∀i ys H D xs o,H D=some (.lst xs)->Pv i ys H->Pv i ys (upd H D o))(hz:∀i ys H,i<n->Pv i ys H->ys.length<sizeLine)
  (turn:∀(i:Nat) ys H (A:VK) (R:Hp->Prop),i<n->Am H1 H->Pv i ys H->(∀y H',Am H H'->Pv (i+1) (ys++[y]) H'->A y H')->tc (some (.int (lo+i*st))::fr) H λb H3=>if b=true then te (some (.int (lo+i*st))::fr) H3 A else R H3)
  (fin:∀D ys H,H1 D=none->Am H1 H->Pv n ys H->H D=some (.lst ys)->Q (.ref D) H):Pe (Tf lo st n) H1 fr tc te Q:=
 vL n (λi=>.int (lo+i*st)) Pv h0 stab hz (λi H hi _=>hi) (λi H x H' _ _ h=>⟨h.2,h.1⟩) (λH _=>dh n) turn fin
theorem rZ {sc:l6}{s0:d4}{H0:Hp}{x:Str}{N2:Za6}{px:Pos}{elt:ie}{ifs:List ie}{tc:TT} 
  (hc:X.calm=true)(L:∀QQ,Bf N QQ scope x N2 ix)(hi:PI (C8 X sc N C s0 H0 fp) (.Name x px) iter wi)
  (hif:∀C' s' H' fp',PIf (C8 (C8 X sc N C s0 H0 fp) scope N2 C' s' H' fp') ifs tc)(he:∀C' s' H' fp',PE (C8 (C8 X sc N C s0 H0 fp) scope N2 C' s' H' fp') elt te)
  (hs:autoParam (∀z,foldedSetIterable iter (C8 X sc N C s0 H0 fp).env z=pure z) QJ):PE (C8 X sc N C s0 H0 fp) (.ListComp elt [⟨.Name x px,iter,ifs,0⟩] scope pos) (tLc wi ix tc te):=
 Nr (X:=C8 X sc N C s0 H0 fp) hc (L _) hi hif he hs
theorem rM (K:de){l:ie}{tl:TE}(hl:PE X l tl)(h:autoParam (X.K=K) QD):PI X tg l (yG K tl):=by
 subst h;exact vR hl
theorem pQ (K:de){l:ie}{tl:TE}(hl:PE X l tl)(h:autoParam (X.K=K) QD):PI X tg l (jO K tl):=by
 subst h;exact Cn hl
theorem jC (K:de)(hc:X.calm=true)(h:autoParam (X.K=K) QD):E9 X (.builtin "sum") (Aam K):=by
 subst h;exact pP hc
theorem qC (K:de)(h:autoParam (X.K=K) QD):SlR X (Aa6 K):=by
 subst h;exact qW
theorem T1 {f:Str×mv->List (Str×dk)->Sem (ForInStep (List (Str×dk)))}(h2:∀y cs,y.2≠.cell->f y cs=pure (.yield cs)) :
  ∀(ns:List (Str×mv)) (cs:List (Str×dk)),(∀y∈ns,y.2≠.cell)->forIn ns cs f=(pure cs:Sem (List (Str×dk)))
 |[],cs,_=>by simp
 |y::r,cs,h=>by
  rw[sd,h2 y cs (h y fi)];exact T1 h2 r cs λz hz=>h z (fb _ hz)
theorem Yj {f:Str×mv->List (Str×dk)->Sem (ForInStep (List (Str×dk)))}{m:Sem dk}(h1:∀y cs,y.2=.cell->f y cs=m >>= λc=>pure (.yield ((y.1,c)::cs)))(h2:∀y cs,y.2≠.cell->f y cs=pure (.yield cs)){x:Str} :
  ∀(ns:List (Str×mv)) (cs:List (Str×dk)),ns.filter (λy=>y.2==.cell)=[(x,.cell)]->forIn ns cs f=m >>= λc=>pure ((x,c)::cs)
 |[],cs,h=>by cases h
 |y::r,cs,h=>by
  rw[sd]
  by_cases hy:y.2=.cell
  ·rw[qm (by rw[hy];rfl)] at h
   obtain⟨e1,e2⟩:=CG h;subst e1;rw[h1 _ cs hy];rw[bind_assoc];congr 1
   funext c
   rw[pure_bind];exact T1 h2 r _ λz hz hc=>by
    have:z∈r.filter (λy=>y.2==.cell):=mw.mpr ⟨hz,by rw[hc];rfl⟩;rw[e2] at this;cases this
  ·rw[um (by simpa using hy)] at h
   rw[h2 y cs hy];exact Yj h1 h2 r cs h
theorem Zh {E:Za0}{g:dk}{cl:List (Str×dk)}{x:Str}{Q:Env->d4->Prop}(one:scope.names.filter (λy=>y.2==.cell)=[(x,.cell)])
  (h:∀h':i8,h'.Ns s.heap.objs.size (λ_=>none)->h'.IsCell (s.heap.objs.size+1) none->(∀b u,s.heap.get? b=some u->h'.get? b=some u) ->
   Q (newEnv scope s.heap.objs.size g ((x,s.heap.objs.size+1)::cl) qual none .none (some env) builtinsNs) { s with heap:=h' }):wpAny M A (newFunctionEnv scope g cl [] qual none .none (some env)) Q E s:=by
 unfold newFunctionEnv;refine wpAny_bind (wpAny_alloc ?_);dsimp only;rw[Yj (m:=alloc { cls:=jl "cell",data:=yh none }) (λy cs hy=>?_) (λy cs hy=>?_) scope.names cl one]
 ·refine wpAny_bind (wpAny_bind (wpAny_alloc (dw ?_)))
  simp only[zk,pure_bind];refine dw ?_;have e:=h ((s.heap.push { cls:=jl "dict",data:=yg #[] }).push { cls:=jl "cell",data:=yh none }) ?_ ?_ ?_
  ·rw[mi]
   exact e
  ·exact⟨_,#[],0,dj _ (fu s.heap (o:={ cls:=jl "dict",data:=yg #[] }) rfl),rfl,(λi h=>by simp at h),λname=>rfl⟩
  ·have:=fu (s.heap.push { cls:=jl "dict",data:=yg #[] }) (o:={ cls:=jl "cell",data:=yh none }) rfl
   rw[mi] at this;exact⟨_,this,rfl⟩
  ·exact λb u e=>dj _ (dj _ e)
 ·obtain⟨n,k⟩:=y
  dsimp only at hy ⊢;subst hy;simp
 ·obtain⟨n,k⟩:=y
  have e:(k==qx)=false:=by simpa using hy
  simp only[e,jy,if_false]
theorem Nt {x:Str}(h:scope.names.lookup x=some .cell):(relabel scope env).names.lookup x=some .cell:=by
 unfold relabel;show(scope.names.map _).lookup x=some qx;generalize scope.names=ns at h
 induction ns with
 |nil=>simp at h
 |cons y r ih=>
  obtain⟨n,k⟩:=y;rw[kj] at h;rw[ft];split at h
  ·rename_i hn
   cases h;rw[<-eq_of_beq hn];simp
  ·rename_i hn
   dsimp only;split
   ·rw[kj,hn];exact ih h
   ·rw[kj,hn];exact ih h
def Eu (X:Cx)(scope:l6)(N:Za6)(x:Str)(C:dk)(s:d4)(H:Hp)(fp:List dk):Cx:=
 { X with N:=N,QN:=s,QY:=H,env:=compEnvC scope ((x,C+1)::Cj X.env scope.names []) C X.env,outer:=X.stack,ex:=fp,fn:=λy=>y==x,pn:=[],xe:=λ_ _=>False }
structure Mr (QX:Za6) (QQ sc:l6) (x:Str) (N:Za6) (ix:Za4):Prop where
 kind:sc.kind=.function
 one:sc.names.filter (λy=>y.2==.cell)=[(x,.cell)]
 names:∀y∈sc.names,y.2=.local->sc.names.lookup y.1=some .local
 free:∀y∈sc.names,y.2=.free->QQ.names.lookup y.1=some .cell
 nd:N.Nodup
 hd:N.head?=some x
 loc:sc.names.lookup x=some .cell
 len:N.length=ix.length+1
 nox:x∉N.tail
 nof:(x,lh)∉sc.names
 at_:∀p∈N.tail.zip ix,QX[p.2]?=some p.1/\sc.names.lookup p.1=some .free
section
variable {X:Cx} {scope:l6} {N:Za6} {ix:Za4} {x:Str} {px:Pos} {elt iter:ie} {ifs:List ie} {tc:TT} {te:TE} {pos:Pos}
theorem pI {l:List (Str×dk)}{x y:Str}{c:dk}(h:y≠x):((x,c)::l).lookup y=l.lookup y:=by
 rw[kj,beq_eq_false_iff_ne.mpr h]
theorem pB {l:List (Str×dk)}{x:Str}{c:dk}:((x,c)::l).lookup x=some c:=by
 rw[kj,beq_self_eq_true]
theorem wD {G:St}{tn:Nat->i8->Prop}(L:Mr X.N X.env.scope scope x N ix)(I2:Inv X pins G H2 s2)
  (T:Oh X.prog X.w X.K tg J fp it tn)(st2:tn 0 s2.heap)(f2:∀b∈fp,J9 X pins H2 b){s3 s4:d4}{H3:Hp}(I3:Inv X pins G H3 s3)(I4:Inv X pins G H3 s4)(hle:s2.heap.objs.size<=s3.heap.objs.size)
  (hC:C=s3.heap.objs.size)(ho:s4.os=s3.os)(kp:∀b u,s3.heap.get? b=some u->s4.heap.get? b=some u){m:Za2}(hns:s4.heap.Ns C m)(hce:s4.heap.IsCell (C+1) none):Inv (Eu X scope N x C s3 H3 fp) [] (none::frV G ix) H3 s4:=by
 have hfree:∀y∈scope.names,y.2=.free->∃c,X.env.cells.lookup y.1=some c:=λy hy hf=>I2.ok.has y.1 (.inl (L.free y hy hf));have sub0:∀y c,(Cj X.env scope.names []).lookup y=some c->X.env.cells.lookup y=some c:=λy c h=>F8 _ _ y c hfree (λ_ _ z=>by simp at z) h;have lt2:∀b∈fp,b<s2.heap.objs.size:=λb hb=>by obtain⟨o,e,_⟩:=T.obj _ _ st2 b hb;exact eg e
 have clt:∀y c,X.env.cells.lookup y=some c->c<s3.heap.objs.size:=λy c e=>by obtain⟨v,hv⟩:=I3.cell y c e;exact hv.lt
 have big:∀{d:dk},d=C+1->¬ d<s3.heap.objs.size:=λe=>by rw[e,hC];exact qi.mpr (qp _)
 have sub:∀y c,((x,C+1)::Cj X.env scope.names []).lookup y=some c->(y=x/\c=C+1)\/(y≠x/\X.env.cells.lookup y=some c):=λy c h=>by
  by_cases e:y=x
  ·subst e
   rw[pB] at h;exact .inl ⟨rfl,(dr h).symm⟩
  ·rw[pI e] at h
   exact .inr ⟨e,sub0 y c h⟩
 have okY:(Eu X scope N x C s3 H3 fp).Ok:=by
  refine⟨I2.ok.mod,L.kind,I2.ok.glob,I2.ok.blt,ku hC.symm,λy z c h1 h2=>?_,λy hy=>?_,λy c z h=>?_,I2.ok.hd,I2.ok.frames,.inl rfl,λb hb=>⟨?_,λy c h=>?_⟩,
   I3.bs,fq I3.ok.bsz I3.sz,λb o e hb=>?_,λb hb z=>?_,I3.stack,I3.stkFree⟩
  ·rcases sub y c h1 with⟨e1,e2⟩|⟨e1,e2⟩<;>rcases sub z c h2 with⟨e3,e4⟩|⟨e3,e4⟩
   ·rw[e1,e3]
   ·exact absurd (clt z c e4) (big e2)
   ·exact absurd (clt y c e2) (big e4)
   ·exact I2.ok.inj y z c e2 e4
  ·by_cases e:y=x
   ·exact⟨C+1,by subst e;exact pB⟩
   ·have hk:(y,lh)∈scope.names:=by
     rcases hy with hy|hy
     ·rcases Fe hy with q|q
      ·have:(y,qx)∈scope.names.filter (λy=>y.2==.cell):=mw.mpr ⟨q,rfl⟩
       rw[L.one] at this;exact absurd (congrArg Prod.fst (ee.mp this)) e
      ·exact q.1
     ·rcases Fe hy with q|q
      ·exact q
      ·exact absurd q.2 (by decide)
    obtain⟨c,hc⟩:=iu.mp (Db (env:=X.env) scope.names [] y hk);exact⟨c,by show((x,C+1)::_).lookup y=_;rw[pI e];exact hc⟩
  ·obtain rfl:y=x:=eq_of_beq z
   rcases sub y c h with⟨_,e2⟩|⟨e1,_⟩
   ·exact qi.mp (big e2)
   ·exact absurd rfl e1
  ·have l:=lt2 b hb
   show b≠C;rw[hC];exact fm (ef l hle)
  ·rcases sub y c h with⟨_,e2⟩|⟨_,e2⟩
   ·exact λz=>big e2 (z▸ef (lt2 b hb) hle)
   ·exact(f2 b hb).2.2.2.2.1 y c e2
  ·rcases(f2 b hb).2.2.2.1 with q|q
   ·exact I2.ok.noex b o e q
   ·exact absurd (ef (eg e) (fq I2.ok.bsz q)) (ko _)
  ·rcases gt.mp (I2.stkSub b z) with q|q
   ·exact(f2 b hb).2.1 q
   ·exact(f2 b hb).2.2.1 q
 refine⟨okY,ho,I4.bare,Un.kept kp,⟨m,hns,λi y v h1 h2 h3=>?_⟩,λy c e=>?_,?_,λy c e=>?_,λp hp=>absurd (show p∈([]:Za1) from hp) (by simp),I4.hok,?_⟩
 ·cases i with
  |zero=>cases(show some none=some (some v) from h2)
  |succ k=>
   have h2:(frV G ix)[k]?=some (some v):=h2;have h1:N[k+1]?=some y:=h1;unfold frV at h2;rw[du] at h2
   cases hj:ix[k]? with
   |none=>rw[hj] at h2;cases h2
   |some j=>
    rw[hj] at h2;have h2:(G[j]?).getD none=some v:=dr h2;have h2':G[j]?=some (some v):=by
     cases e:G[j]? with
     |none=>rw[e] at h2;cases h2
     |some z=>rw[e] at h2;exact congrArg some h2
    have ht:N.tail[k]?=some y:=by rw[qg];exact h1
    have hz:(y,j)∈N.tail.zip ix:=d5 (i:=k) (by rw[pj];exact⟨ht,hj⟩);have hyx:y≠x:=λe=>L.nox (by rw[<-e];exact d5 ht);obtain⟨q1,q2⟩:=L.at_ _ hz;have hm:=jf q2;have hcell:=L.free _ hm rfl;obtain⟨m',hn',hl'⟩:=I4.loc;obtain⟨u,r,lk⟩:=hl' j y v q1 h2' (.inr (.inl hcell));refine⟨u,r,.inr ⟨.inl (Je I2.ok.kind hcell q2),?_⟩⟩;rcases lk with lk|⟨_,c,e,z⟩
    ·rw[show X.env.kindOf y=some .cell from hcell] at lk
     cases lk.1
    ·obtain⟨c',e'⟩:=iu.mp (Db (env:=X.env) scope.names [] y hm)
     have e2:=sub0 y c' e';rw[e] at e2;cases e2;exact⟨c,by show((x,C+1)::_).lookup y=_;rw[pI hyx];exact e',z⟩
 ·rcases sub y c e with⟨_,rfl⟩|⟨_,e2⟩
  ·exact⟨none,hce⟩
  ·exact I4.cell y c e2
 ·show H3 C=none
  exact I3.hok.fresh (ku hC.symm)
 ·rcases sub y c e with⟨_,rfl⟩|⟨_,e2⟩
  ·exact I3.hok.fresh (by rw[hC];exact qp _)
  ·exact I4.freeC y c e2
 ·show(none::frV G ix).length=N.length
  rw[L.len];simp[frV]
theorem qT {tgt:ie}(htg:tgt=.Name x px){G:St}{tn:Nat->i8->Prop}(hc:X.calm=true)(L:Mr X.N X.env.scope scope x N ix)(I2:Inv X pins G H2 s2)
  (T:Oh X.prog X.w X.K tgt J fp it tn)(st2:tn 0 s2.heap)(f2:∀b∈fp,J9 X pins H2 b)
  (hif:∀C s H,PIf (Eu X scope N x C s H fp) ifs tc)(he:∀C s H,PE (Eu X scope N x C s H fp) elt te){Q:VK}(rd:Pe J H2 (frV G ix) tc te Q){RR:d3->dk->wb->d4->Prop}{E:Za0}
  (fin:∀D C H' s' m,Inv X pins G H' s'->s2.heap.objs.size<=C->H' C=none->s'.heap.Ns C m->Q (.ref D) H'->RR (.ref D) C (.ok .next) s') :
  wpAny (model X.prog X.w) X.A (newList []) (λacc s3=>wpAny (model X.prog X.w) X.A (newFunctionEnv scope X.env.globals (Cj X.env scope.names []) [] X.env.qual none .none (some X.env)) (λcenv s4=>
   codeAny (model X.prog X.w) X.A (.compStart (.ListComp elt [⟨tgt,iter,ifs,0⟩] scope pos) 0 (.ref it) acc { cenv with scope:=relabel scope X.env }) (RR acc cenv.locals) s4) E s3) E s2:=by
 refine ki (Zh L.one (λh1 hns hce hkp=>?_));dsimp only at hns hce hkp ⊢;have I3:Inv X pins G (upd H2 s2.heap.objs.size (.lst [])) { s2 with heap:=s2.heap.push { cls:=.type "list",dict:=none,data:=.seq ([]:Za3).toArray } }:=I2.lnew (its:=[]) (t':=s2.toks) .nil (f7 _);generalize hH3:s2.heap.push { cls:=.type "list",dict:=none,data:=.seq ([]:Za3).toArray }=h3 at hns hce hkp I3 ⊢;have hsz:h3.objs.size=s2.heap.objs.size+1:=by rw[<-hH3,mi]
 have kp34:∀b u,h3.get? b=some u->h1.get? b=some u:=hkp;have I4:Inv X pins G (upd H2 s2.heap.objs.size (.lst [])) { s2 with heap:=h1 }:=I3.kept (t':=s2.toks) kp34;have kp24:∀b u,s2.heap.get? b=some u->h1.get? b=some u:=λb u e=>kp34 b u (by rw[<-hH3];exact dj _ e);have IY:=wD (C:=h3.objs.size) (s3:={ s2 with heap:=h3 }) L I2 T st2 f2 I3 I4 (by show s2.heap.objs.size<=h3.objs.size;lia) rfl rfl kp34 hns hce;have fD:H2 s2.heap.objs.size=none:=I2.hok.fresh (dh _);have lt2:∀b∈fp,b<s2.heap.objs.size:=λb hb=>by obtain⟨o,e,_⟩:=T.obj _ _ st2 b hb;exact eg e
 have st4:tn 0 h1:=T.keep _ _ _ st2 λb _ o e=>kp24 b o e;have stat:∀{pn:Za1} {H':Hp},pn=[]->(∀b∈fp,H' b=none)->∀b∈fp,J9 (Eu X scope N x h3.objs.size { s2 with heap:=h3 } (upd H2 s2.heap.objs.size (.lst [])) fp) pn H' b:=λhp hn b hb=>by
  subst hp;exact⟨hn b hb,(IY.ok.exf b hb).1,IY.ok.exfs b hb,.inl hb,(IY.ok.exf b hb).2,λp hp=>absurd (show p∈([]:Za1) from hp) (by simp)⟩
 obtain⟨W,⟨m0,w0⟩,turn⟩:=rd _ fD;have loop:codeAny (model X.prog X.w) X.A (.compLoop (.ListComp elt [⟨tgt,iter,ifs,0⟩] scope pos) 0 (.ref it) (.ref s2.heap.objs.size) (compEnvC scope ((x,h3.objs.size+1)::Cj X.env scope.names []) h3.objs.size X.env)) (RR (.ref s2.heap.objs.size) h3.objs.size)
   { s2 with heap:=h1 }:=by
  refine Vd (λn s'=>∃i H',Inv (Eu X scope N x h3.objs.size { s2 with heap:=h3 } (upd H2 s2.heap.objs.size (.lst [])) fp) [] (none::frV G ix) H' s'/\tn i s'.heap/\(∀b∈fp,H' b=none)/\W i n H') ?_ m0
   ⟨0,_,IY,st4,λb hb=>by rw[Ai (fm (lt2 b hb))];exact(f2 b hb).1,w0⟩
  rintro n s5 ⟨i,H5,I5,st5,fr5,w5⟩;rcases turn i n H5 w5 with⟨stop,q⟩|⟨go,step⟩
  ·refine thn (T.done (Eu X scope N x h3.objs.size { s2 with heap:=h3 } (upd H2 s2.heap.objs.size (.lst [])) fp) rfl rfl rfl hc i [] s5 _ H5 (λ_ _=>False) I5 (stat rfl fr5) st5 stop) λr s6 ⟨hr,I6⟩=>?_
   subst hr;obtain⟨m6,hn6,_⟩:=I6.loc;have u1:Un (frs X.stack) fp H2 (upd H2 s2.heap.objs.size (.lst [])) s2.heap h3:=Un.laid (λb u e=>by rw[<-hH3];exact dj _ e) (dh _) fD;have back:Inv X pins G H5 s6:=I2.call' (ch:=fp) (I6.os.trans rfl) (u1.trans I6.base) I6.hok I6.bare λb hb=>⟨(f2 b hb).2.2.2.1,(f2 b hb).2.1,(f2 b hb).2.2.2.2.1,(f2 b hb).2.2.2.2.2⟩;exact fin _ _ H5 s6 m6 back (by lia) I6.free hn6 q
  ·refine thn (T.item (Eu X scope N x h3.objs.size { s2 with heap:=h3 } (upd H2 s2.heap.objs.size (.lst [])) fp) rfl rfl rfl hc i [] s5 _ H5 (λ_ _=>False) I5 (stat rfl fr5) st5 go) λr s6 ⟨u,hr,h6⟩=>?_
   subst hr;refine thn h6 λ_ s7 ⟨y,H7,I7,r7,y7,st7,fr7⟩=>?_;have I7':=I7.pinned (stat rfl fr7) (T.obj _ _ st7);have hg:PG (Eu X scope N x h3.objs.size { s2 with heap:=h3 } (upd H2 s2.heap.objs.size (.lst [])) fp) tgt (Dt 0):=by
    rw[htg];have hi:N[0]?=some x:=by have:=L.hd;rwa [uz] at this
    exact Er L.nd hi (.inr (Nt L.loc)) (.inl (beq_self_eq_true x))
   refine thn (hg _ s7 _ H7 y u (λmt H'=>mt=some y::frV G ix/\H'=H7) I7' r7 ⟨rfl,rfl⟩) λ_ s8 ⟨σ8,H8,I8,e8,e8'⟩=>?_;subst e8 e8';refine thn (hif _ _ _ _ s8 _ _ _ I8 (step y _ y7)) λok s9 ⟨H9,I9,q9⟩=>?_;have again:∀{sz:d4} {Hz:Hp} {m':Nat},Inv (Eu X scope N x h3.objs.size { s2 with heap:=h3 } (upd H2 s2.heap.objs.size (.lst [])) fp) ([]++Ma fp s7.heap) (some y::frV G ix) Hz sz->m'<n->W (i+1) m' Hz ->
     ∃m,m<n/\∃i H',Inv (Eu X scope N x h3.objs.size { s2 with heap:=h3 } (upd H2 s2.heap.objs.size (.lst [])) fp) [] (none::frV G ix) H' sz/\tn i sz.heap/\(∀b∈fp,H' b=none)/\W i m H':=λ{sz Hz m'} Iz hm wz=>by
    refine⟨m',hm,i+1,Hz,Iz.unpinned.weak (by simp) (λj v e=>?_),T.keep _ _ _ st7 λb hb o e=>(Iz.pin (b,o) (e6 _ (e6 _ (Du hb e)))).1,λb hb=>?_,wz⟩
    ·cases j with
     |zero=>cases e
     |succ j=>exact e
    ·obtain⟨o,e,d⟩:=T.obj _ _ st7 b hb
     exact(Iz.pin (b,o) (e6 _ (e6 _ (Du hb e)))).2.1
   cases ok with
   |false=>
    obtain⟨m',hm,wz⟩:=q9;exact again I9 hm wz
   |true=>
    refine thn (he _ _ _ _ s9 _ _ _ I9 q9) λxv s10 ⟨z,H10,I10,r10,ys,hD,hl,m',hm,wz⟩=>?_;refine thn (Bs _ s10 _ H10 (.ref s2.heap.objs.size) [z] (.ref s2.heap.objs.size) [xv] (λ_ Hz=>Hz=upd H10 s2.heap.objs.size (.lst (ys++[z]))) I10 rfl (.cons r10 .nil) ⟨_,ys,z,rfl,rfl,hD,hl,rfl⟩) λ_ s11 ⟨_,H11,I11,_,q11⟩=>?_;subst q11;exact again I11 hm wz
 exact wa loop (T.self X.A 0 _ _ _ st4 loop)
theorem iC {i:Nat}{y:Str}{py spos:Pos}(hc:X.calm=true)(L:Mr X.N X.env.scope scope x N ix)(hN:X.N.Nodup)(hy:X.N[i]?=some y)(hl:X.env.scope.names.lookup y=some .local)
  (hi:PI X (.Name x px) iter wi)(hif:∀C s H fp,PIf (Eu X scope N x C s H fp) ifs tc)(he:∀C s H fp,PE (Eu X scope N x C s H fp) elt te)
  (hsw:autoParam (swapsWith (.ListComp elt [⟨.Name x px,iter,ifs,0⟩] scope pos) (some (.Name y py)) spos.line X.env=pure true) QD)
  (hs:autoParam (∀z,foldedSetIterable iter X.env z=pure z) QJ):PS X (.Assign [.Name y py] (.ListComp elt [⟨.Name x px,iter,ifs,0⟩] scope pos) spos) (cS (tLc wi ix tc te) (Dt i)):=by
 k_end;have hfree:∀y∈scope.names,y.2=.free->∃c,X.env.cells.lookup y.1=some c:=λy hy hf=>I.ok.has y.1 (.inl (L.free y hy hf));rw[wq _ _ _ _ hsw];refine wpAny_bind (qr (wpAny_bind ?_));show wpAny _ X.A (do let _ <-comprehension (.ListComp elt [⟨.Name x px,iter,ifs,0⟩] scope pos) scope X.env _ (newList []) false (eval iter X.env) (some (assign (.Name y py) X.env))) _ _ s;refine wpAny_bind (thn (Q:=λ_ s'=>SP X pins D .next s') (qt (use:=some (assign (.Name y py) X.env)) rfl hs (Gj hfree) L.kind L.names (thn (hi pins s G H _ I h) λv s1 h1=>thn h1 λitv s2 h2=>?_)) λ_ s' hq=>dw (dw hq));obtain⟨it,fp,tn,J,H2,e,I2,T,st2,f2,rd⟩:=h2;subst e;refine qT (RR:=λacc C=>compPost (model X.prog X.w) X.A X.xe (some (assign (.Name y py) X.env)) _ acc C) rfl hc L I2 T st2 f2 (λC s H=>hif C s H fp) (λC s H=>he C s H fp) rd λDa C H' s' m I' hC hf hn q=>?_;have l2:=I2.lt;have nC:C≠X.env.locals:=pf (ef l2 hC);have nF:C∉X.fs:=I2.nofs hC;obtain⟨oC,es,ep,hget,hdat,hrest⟩:=id hn;have Ip:Inv X (pins++[(C,oC)]) G H' s':=I'.pins_of λp hp=>(gj.mp hp).elim (λz=>I'.pin p (e6 _ z)) λz=>by
  have e:p=(C,oC):=by simpa using z
  subst e;exact⟨hget,hf,nC,nF,λv z=>by rw[hdat] at z;cases z⟩
 have hg:PG X (.Name y py) (Dt i):=Er hN hy (.inl hl) (.inr hl);show wpAny _ X.A (assign (.Name y py) X.env (.ref Da)) _ _ s';refine thn (hg _ s' G H' (.ref Da) (.ref Da) D.nx Ip rfl q) λ_ s'' ⟨JF,H'',I'',q''⟩=>?_;obtain⟨g1,g2,_⟩:=I''.pin (C,oC) (e6 _ (e6 _ (by simp)));refine⟨m,⟨oC,es,ep,g1,hdat,hrest⟩,λh' hsb=>⟨JF,H'',?_,q''⟩⟩;refine I''.unpinned.turned (t':=s''.toks) (it:=C) (λb o hb e=>hsb.extBut b o hb e) g2 nC (.inr (fq I2.sz hC)) (λy c e=>?_) λp hp=>?_
 ·obtain⟨v,hv⟩:=I2.cell y c e
  exact fm (ef hv.lt hC)
 ·exact fm (ef (eg (I2.pin p hp).1) hC)
end
theorem nN {sc:l6}{z:Str}{s0:d4}{H0:Hp}{x:Str}{N2:Za6}{px:Pos}{elt:ie}{ifs:List ie}{tc:TT} 
  (hc:X.calm=true)(L:Bf N sc scope x N2 ix)(hi:PI (Eu X sc N z C s0 H0 fp) (.Name x px) iter wi)
  (hif:∀C' s' H' fp',PIf (C8 (Eu X sc N z C s0 H0 fp) scope N2 C' s' H' fp') ifs tc)(he:∀C' s' H' fp',PE (C8 (Eu X sc N z C s0 H0 fp) scope N2 C' s' H' fp') elt te)
  (hs:autoParam (∀v,foldedSetIterable iter (Eu X sc N z C s0 H0 fp).env v=pure v) QJ):PE (Eu X sc N z C s0 H0 fp) (.ListComp elt [⟨.Name x px,iter,ifs,0⟩] scope pos) (tLc wi ix tc te):=
 Nr (X:=Eu X sc N z C s0 H0 fp) hc ⟨L.kind,L.nocell,L.names,λy hy h=>Nt (L.free y hy h),L.nd,L.hd,L.loc,L.len,L.at_⟩ hi hif he hs
theorem zN:bootBuiltins "abs"=some (.builtin "abs"):=by decide +kernel
def Mm (ns:List Int)(m:Int):Prop:=m∈ns/\∀a∈ns,m<=a
def Ih (ns:List Int)(m:Int):Prop:=m∈ns/\∀a∈ns,a<=m
theorem Mm.uniq {a b:Int}(h:Mm ns a)(k:Mm ns b):a=b:=EE (h.2 _ k.1) (k.2 _ h.1)
theorem Ih.uniq {a b:Int}(h:Ih ns a)(k:Ih ns b):a=b:=EE (k.2 _ h.1) (h.2 _ k.1)
section
variable {X:Cx}
def Aab (K:de):List V->Hp->VK->Prop:=λxs H Q=>∃(p:dk) (ns:List Int),xs=[.ref p]/\SqL K H p (ns.map V.int)/\ns≠[]/\∀m,Mm ns m->Q (.int m) H
def Aa9 (K:de):List V->Hp->VK->Prop:=λxs H Q=>∃(p:dk) (ns:List Int),xs=[.ref p]/\SqL K H p (ns.map V.int)/\ns≠[]/\∀m,Ih ns m->Q (.int m) H
theorem Nj {G:St}{p:dk}(I:Inv X pins G H s)(hp:SqL X.K H p (ns.map V.int)):∃ys:Array (Int×Tok),s.heap.IsList p (intItems ys)/\ns=ys.toList.map (·.1):=by
 obtain⟨its,r,pl,_⟩:=I.list hp;have hi:=Rg r;obtain⟨ys,e⟩:=hi.allInts.items;have hl:=pl.isList;rw[e] at hl;exact⟨ys,hl,by rw[<-hi.numsOf,<-HX,<-e]⟩
theorem pU {ys:Array (Int×Tok)}{v:d3}(hz:0<ys.size)(hv:(intItems ys)[argBest (λi j=>decide (numAt ys i<numAt ys j)) (ys.size-1)]?=some v):∃m t,v=.int m t/\Mm (ys.toList.map (·.1)) m:=by
 obtain⟨t,rfl⟩:=DS hv;obtain⟨h1,h2⟩:=argBest_lt (numAt ys) (ys.size-1);refine⟨_,t,rfl,?_,λa ha=>?_⟩
 ·rw[DR]
  exact getD_mem (by rw[da,eh];lia)
 ·obtain⟨j,hj,rfl⟩:=mem_getD ha
  rw[da,eh] at hj;rw[<-DR];exact h2 j (by lia)
theorem fW {ys:Array (Int×Tok)}{v:d3}(hz:0<ys.size)(hv:(intItems ys)[argBest (λi j=>decide (numAt ys i>numAt ys j)) (ys.size-1)]?=some v):∃m t,v=.int m t/\Ih (ys.toList.map (·.1)) m:=by
 obtain⟨t,rfl⟩:=DS hv;obtain⟨h1,h2⟩:=argBest_gt (numAt ys) (ys.size-1);refine⟨_,t,rfl,?_,λa ha=>?_⟩
 ·rw[DR]
  exact getD_mem (by rw[da,eh];lia)
 ·obtain⟨j,hj,rfl⟩:=mem_getD ha
  rw[da,eh] at hj;rw[<-DR];exact h2 j (by lia)
theorem Q6 {ys:Array (Int×Tok)}(e:ns=ys.toList.map (·.1))(h:ns≠[]):0<ys.size:=by
 rcases lw ys.size with z|z
 ·exfalso
  apply h;rw[e,rn (l:=ys.toList) (by rw[eh];exact z)];rfl
 ·exact z
theorem T2 (hc:X.calm=true):E9 X (.builtin "min") (Aab X.K):=by
 intro pins s G H xs us Q I r h;obtain⟨p,ns,rfl,hp,hne,q⟩:=h;obtain⟨u,rfl,ru⟩:=En r;cases ru;obtain⟨ys,hl,e⟩:=Nj I hp;have hz:=Q6 e hne;refine min_intList (I.ok.hd hc) hl hz λv h' tk hv hk=>?_;obtain⟨m,t,rfl,hm⟩:=pU hz hv;exact⟨.int m,H,I.kept hk,⟨t,rfl⟩,q m (e▸hm)⟩
theorem F9 (hc:X.calm=true):E9 X (.builtin "max") (Aa9 X.K):=by
 intro pins s G H xs us Q I r h;obtain⟨p,ns,rfl,hp,hne,q⟩:=h;obtain⟨u,rfl,ru⟩:=En r;cases ru;obtain⟨ys,hl,e⟩:=Nj I hp;have hz:=Q6 e hne;refine max_intList (I.ok.hd hc) hl hz λv h' tk hv hk=>?_;obtain⟨m,t,rfl,hm⟩:=fW hz hv;exact⟨.int m,H,I.kept hk,⟨t,rfl⟩,q m (e▸hm)⟩
end
section
variable {prog:fh} {w:gp} {A:ir} {R:wb->d4->Prop} {I S:dk} {fp wr:List dk} {n:Nat} {P:Nat->d3->Prop} {St:Nat->i8->Prop} {d:d3}
abbrev nR (I S:dk)(d:d3):Args:=⟨[.ref I,.none,.ref S],[(kr "default",d)]⟩
end
section
variable {X:Cx} {x:Str} {p pos:Pos} {e:ie} {es:List ie} {kws:List CY} {t tk:TA} {id:String} {ks:Za6}
def nH (X:Cx)(f:d3)(ks:Za6)(r:List V->List V->Hp->VK->Prop):Prop:=
 ∀(pins:Za1) (s:d4) (G:St) (H:Hp) (xs zs:List V) (us ws:Za3) (Q:VK),Inv X pins G H s->Au xs us->Au zs ws->r xs zs H Q->wpAny (model X.prog X.w) X.A (call f us (ks.zip ws)) (EP X pins G Q) X.xe s
def Aaa (r:List V->List V->Hp->VK->Prop)(t tk:TA):TE:=λG H Q=>t G H λvs H1=>tk G H1 λzs H2=>r vs zs H2 Q
theorem jM {r:List V->List V->Hp->VK->Prop}(hc:nH X (.builtin id) ks r)(hg:Gl X x)(hm:X.mg x=none)(hv:bootBuiltins x=some (.builtin id))(ha:PA X (e::es) t)(hkw:PK X kws tk)(hks:autoParam ((backToKw pos (keywordEach kws X.env)).filterMap (·.1)=ks) QD)
  (hn:autoParam (x≠"__name__") QF)(hdb:autoParam ((x==("__debug__":Str))=false) QF)(he:autoParam (backTo pos (starEach (e::es) X.env)=(false,eval e X.env)::backTo pos (starEach es X.env)) QD)(hpl:autoParam ((backTo pos (starEach (e::es) X.env)).any (·.1)=false) QD)
  (hall:autoParam ((backToKw pos (keywordEach kws X.env)).all (·.1.isSome)=true) QD)(hnone:autoParam ((backToKw pos (keywordEach kws X.env)).any (·.1.isNone)=false) QD):PE X (.Call (.Name x p) (e::es) kws pos) (Aaa r t tk):=by
 k_in;refine wpAny_Call_Name_kw (Df I hg hm hv ?_ hn hdb);refine callWith_kw (thA ha I h λus s1 vs H1 I1 r1 q1=>?_) he hpl hall hnone;refine thn (hkw pos pins s1 G H1 _ I1 q1) λws s2 ⟨zs,H2,I2,r2,q2⟩=>?_;rw[hks];exact hc pins s2 G H2 vs zs us ws Q I2 r1 r2 q2
theorem Abf {r:List V->List V->Hp->VK->Prop}{G:St}{Q:VK}(h:t G H λvs H1=>tk G H1 λzs H2=>r vs zs H2 Q):Aaa r t tk G H Q:=h
end
section
variable {prog:fh} {w:gp} {A:ir} {R:wb->d4->Prop} {I S:dk} {fp wr:List dk} {n:Nat} {P:Nat->d3->Prop} {St:Nat->i8->Prop} {d:d3}
theorem K0:(toString "max"++toString ".loop":String)="max.loop":=by decide
theorem tN (W:Walks prog w A.in1 I fp wr n P St)(bt:Nat->Nat->Bool)(hc:CmpOf prog w A.in1 .Gt P bt)(nS:S∉fp):∀(k j:Nat) (s:d4) (b:d3) (c:Nat),n-(j+1)=k->j+1<=n->St (j+1) s.heap->P (argBest bt j) b ->
  s.heap.get? S=some { cls:=.type "list",dict:=none,data:=.seq #[b,b] c,slots:=#[] } ->
  (∀v h' tk,P (argBest bt (n-1)) v->(∀a o,a∉wr->a≠S->s.heap.get? a=some o->h'.get? a=some o)->R (.ok (.ret v)) { s with heap:=h',toks:=tk })->codeAny (model prog w) A (.builtin "max.loop" (nR I S d)) R s:=by
 have nw:S∉wr:=λh=>nS (W.sub _ h);intro k
 induction k with
 |zero=>
  intro j s b c hk hj st hb eS hR;have hn:j+1=n:=by lia
  refine l9 zd ?_;rw[ju n9 _];show wpAny _ A.in1 (seqItems? (.ref S) >>= _) _ _ s;refine wpAny_bind (rg eS rfl ?_);show wpAny _ A.in1 (tryCatch (pyNext (.ref I)) _ >>= _) _ _ s;refine wpAny_bind (pz (W.done s _ _ (hn▸st) λh' tk kp=>?_));have eS':=kp S _ nw eS;show wpAny _ A.in1 (updateSeq S (λ_=>#[]) >>= _) _ _ _;refine wpAny_bind ?_;refine z8 eS' rfl (wpAny_bind (xg (dw ?_)));exact hR b _ tk (by rw[<-hn];exact hb) λa o aw aS e=>(kq _ _ (rq aS)).trans (kp a o aw e)
 |succ k ih=>
  intro j s b c hk hj st hb eS hR;have hn:j+1<n:=by lia
  refine l9 zd ?_;rw[ju n9 _];show wpAny _ A.in1 (seqItems? (.ref S) >>= _) _ _ s;refine wpAny_bind (rg eS rfl ?_);show wpAny _ A.in1 (tryCatch (pyNext (.ref I)) _ >>= _) _ _ s;refine wpAny_bind (pz (W.item (j+1) s _ _ hn st λv h' tk hv st' kp=>?_));have eS':=kp S _ nw eS;show wpAny _ A.in1 (tryCatch (holding [v,v] (richCompare .Gt v b >>= _)) _ >>= _) _ _ _;refine wpAny_bind (pz (wpAny_holding (wpAny_bind (hc (j+1) (argBest bt j) v b _ _ _ hv hb ?_))));refine wpAny_bind (wpAny_holding (np ?_));refine wpAny_bind (xg (dw ?_))
  cases t:bt (j+1) (argBest bt j) with
  |true=>
   simp only[if_true];refine wpAny_bind ?_;refine z8 eS' rfl (wpAny_bind (xg ?_));rw[K0];refine dw ⟨n0 n9 _,ih (j+1) _ v _ (by lia) hn (W.frame _ _ _ st' λa af o e=>?_) (by simp only[argBest,t,if_true];exact hv) (vp _ eS' rfl) λv' h2 tk2 hv' kp2=>?_⟩
   ·exact(kq _ _ (λz:S=a=>nS (by rw[z];exact af))).trans e
   ·exact hR v' h2 tk2 hv' λa o aw aS e=>kp2 a o aw aS ((kq _ _ (rq aS)).trans (kp a o aw e))
  |false=>
   simp only[jy,if_false];refine wpAny_bind (xg ?_);rw[K0];refine dw ⟨n0 n9 _,ih (j+1) _ b c (by lia) hn st' (by simp only[argBest,t,jy,if_false];exact hb) eS' λv' h2 tk2 hv' kp2=>?_⟩;exact hR v' h2 tk2 hv' λa o aw aS e=>kp2 a o aw aS (kp a o aw e)
theorem cQ (W:Walks prog w A.in1 I fp wr n P St)(bt:Nat->Nat->Bool)(hc:CmpOf prog w A.in1 .Gt P bt)(nS:S∉fp){c:Nat}(st:St 0 s.heap)(eS:s.heap.get? S=some { cls:=.type "list",dict:=none,data:=.seq #[] c,slots:=#[] })
  (h0:n=0->∀h' tk,(∀a o,a∉wr->a≠S->s.heap.get? a=some o->h'.get? a=some o)->R (.ok (.ret d)) { s with heap:=h',toks:=tk })
  (hR:0<n->∀v h' tk,P (argBest bt (n-1)) v->(∀a o,a∉wr->a≠S->s.heap.get? a=some o->h'.get? a=some o)->R (.ok (.ret v)) { s with heap:=h',toks:=tk }):codeAny (model prog w) A (.builtin "max.loop" (nR I S d)) R s:=by
 have nw:S∉wr:=λh=>nS (W.sub _ h);refine l9 zd ?_;rw[ju n9 _];show wpAny _ A.in1 (seqItems? (.ref S) >>= _) _ _ s;refine wpAny_bind (rg eS rfl ?_);show wpAny _ A.in1 (tryCatch (pyNext (.ref I)) _ >>= _) _ _ s;rcases lw n with hn|hn
 ·refine wpAny_bind (pz (W.done s _ _ (hn▸st) λh' tk kp=>?_))
  exact wpAny_bind (ou (dw (h0 hn h' tk λa o aw _ e=>kp a o aw e)))
 ·refine wpAny_bind (pz (W.item 0 s _ _ hn st λv h' tk hv st' kp=>?_))
  have eS':=kp S _ nw eS;show wpAny _ A.in1 (updateSeq S (λ_=>#[v,v]) >>= _) _ _ _;refine wpAny_bind ?_;refine z8 eS' rfl ?_;rw[K0];refine dw ⟨n0 n9 _,tN W bt hc nS _ 0 _ v _ rfl hn (W.frame _ _ _ st' λa af o e=>?_) hv (vp _ eS' rfl) λv' h2 tk2 hv' kp2=>?_⟩
  ·exact(kq _ _ (λz:S=a=>nS (by rw[z];exact af))).trans e
  ·exact hR hn v' h2 tk2 hv' λa o aw aS e=>kp2 a o aw aS ((kq _ _ (rq aS)).trans (kp a o aw e))
end
section
variable {prog:fh} {w:gp} {A:ir} {E:Za0} {s:d4}
theorem hX (a v:d3):argsOk "max" ⟨[a],[(kr "default",v)]⟩:=by unfold argsOk;kernel_rfl
theorem iR (d:d3):vx "max" ["key","default"] 0 ⟨[],[(kr "default",d)]⟩=pure [none,some d]:=by kernel_rfl
theorem iK {l:dk}{ys:Array (Int×Tok)}{d:d3}{Q:Za0}(hh:A.handled=none)(hl:s.heap.IsList l (intItems ys))(h0:ys.size=0->∀h' tk,(∀b o,s.heap.get? b=some o->h'.get? b=some o)->Q d { s with heap:=h',toks:=tk })
  (h1:0<ys.size->∀v h' tk,(intItems ys)[argBest (λi j=>decide (numAt ys i>numAt ys j)) (ys.size-1)]?=some v->(∀b o,s.heap.get? b=some o->h'.get? b=some o)->Q v { s with heap:=h',toks:=tk }) :
  wpAny (model prog w) A (call (.builtin "max") [.ref l] [(kr "default",d)]) Q E s:=by
 refine kmb_tree F.kind_max F.plain_max F.entry_max (hX _ _) ?_;show wpAny _ A.in1 (vx "max" ["key","default"] 0 ⟨[],[(kr "default",d)]⟩ >>= _) _ _ s;refine wpAny_bind (sq (iR d) ?_);refine wpAny_bind (dw ?_);refine wpAny_bind (iter_intList hl λQW e st hfp hlI=>?_);subst e;have hsz:(intItems ys).size=ys.size:=by simp[intItems]
 refine wpAny_bind (ki ?_);rw[K0];refine dw ⟨n0 n9 _,?_⟩;refine cQ (Walks.list (A:=A.in1) hh _ l hlI (intItems ys)) _ (CmpOf.ints_gt (numAt ys) (λ_ _=>DS)) (λhm=>ko _ (hfp _ hm)) ⟨st.1.at λo e=>dj _ e,st.2.push _⟩ (fu _ rfl) (λhz h' tk kp=>?_) (λhz v h' tk hv kp=>?_)
 ·refine h0 (by rw[<-hsz];exact hz) h' tk (old_kept λb o hb e=>kp b o hb (fm (eg e)) (dj _ e))
 ·rw[hsz] at hz
  refine h1 hz v h' tk (by simpa [intItems] using hv) (old_kept λb o hb e=>kp b o hb (fm (eg e)) (dj _ e))
end
section
variable {X:Cx}
def uZ (K:de):List V->List V->Hp->VK->Prop:=λxs zs H Q=>∃(p:dk) (ns:List Int) (d:V),xs=[.ref p]/\zs=[d]/\SqL K H p (ns.map V.int)/\(ns=[]->Q d H)/\∀m,Ih ns m->Q (.int m) H
theorem iO (hc:X.calm=true):nH X (.builtin "max") ["default"] (uZ X.K):=by
 intro pins s G H xs zs us ws Q I r r2 h;obtain⟨p,ns,d,rfl,rfl,hp,q0,q1⟩:=h;obtain⟨u,rfl,ru⟩:=En r;obtain⟨u2,rfl,ru2⟩:=En r2;cases ru;obtain⟨ys,hl,e⟩:=Nj I hp;refine iK (I.ok.hd hc) hl (λhz h' tk hk=>?_) (λhz v h' tk hv hk=>?_)
 ·refine⟨d,H,I.kept hk,ru2,q0 ?_⟩
  rw[e,rn (l:=ys.toList) (by rw[eh];exact hz)];rfl
 ·obtain⟨m,t,rfl,hm⟩:=fW hz hv
  exact⟨.int m,H,I.kept hk,⟨t,rfl⟩,q1 m (e▸hm)⟩
end
end L2
end
section
namespace TW
def val:Za5->Nat
 |[]=>0
 |b::r=>b.toNat+2*val r
def plc:Nat->Za5->Za4
 |_,[]=>[]
 |k,b::r=>if b then k::plc (k+1) r else plc (k+1) r
theorem mF:∀l:Za5,val l<2 ^ l.length
 |[]=>by simp[val]
 |b::r=>by
  have:=mF r;simp only[val,fj,vf];have hb:b.toNat<=1:=z6 b;lia
theorem X4 (b:Bool):∀(l:Za5) (k:Nat),plc k (l++[b])=plc k l++(if b then[k+l.length] else[])
 |[],k=>by cases b<;>simp[plc]
 |a::r,k=>by
  cases a<;>simp[plc,X4 b r,i0,vh 1]
theorem Jo:∀(l:Za5) (k:Nat),plc (k+1) l=(plc k l).map (·+1)
 |[],k=>rfl
 |a::r,k=>by cases a<;>simp[plc,Jo r]
theorem P1:∀(l:Za5) (k:Nat),(plc k l).length=l.count true
 |[],k=>rfl
 |a::r,k=>by cases a<;>simp[plc,P1 r]
def pc (n:Nat):Nat:=if n=0 then 0 else n%2+pc (n/2)
termination_by n
decreasing_by lia
theorem Ph:pc 0=0:=by rw[pc];rfl
theorem F3 (n:Nat):pc n=n%2+pc (n/2):=by
 by_cases h:n=0
 ·subst h;simp[Ph]
 ·rw[pc,if_neg h]
theorem Oj:∀l:Za5,pc (val l)=l.count true
 |[]=>by simp[val,Ph]
 |b::r=>by
  rw[F3];have e1:val (b::r)%2=b.toNat:=by simp only[val];have:=z6 b;lia
  have e2:val (b::r)/2=val r:=by simp only[val];have:=z6 b;lia
  rw[e1,e2,Oj r];cases b<;>simp[qb,vh]
theorem Ab3 (n:Nat):n%16%2=n%2:=xj n (by decide)
theorem Ab7 (n:Nat):n%16/2%2=n/2%2:=(congrArg (·%2) (td n 2 8)).trans (xj _ (by decide))
theorem Abz (n:Nat):n%16/4%2=n/4%2:=(congrArg (·%2) (td n 4 4)).trans (xj _ (by decide))
theorem Abg (n:Nat):n%16/8%2=n/8%2:=(congrArg (·%2) (td n 8 2)).trans (Nat.mod_mod _ _)
theorem Abo (n:Nat):pc n=pc (n%16)+pc (n/16):=by
 have a:pc n=n%2+(n/2%2+(n/4%2+(n/8%2+pc (n/16)))):=by
  rw[F3 n,F3 (n/2),F3 (n/2/2),F3 (n/2/2/2)];simp only[vg]
 have b:pc (n%16)=n%16%2+(n%16/2%2+(n%16/4%2+(n%16/8%2+pc (n%16/16)))):=by
  rw[F3 (n%16),F3 (n%16/2),F3 (n%16/2/2),F3 (n%16/2/2/2)];simp only[vg]
 have c:pc (n%16/16)=0:=by
  rw[Nat.div_eq_of_lt (tj n (by decide)),Ph]
 rw[a,b,c,Ab3,Ab7,Abz,Abg,jr,i0,i0,i0]
def Ua:Za4:=[0,1,1,2,1,2,2,3,1,2,2,3,2,3,3,4]
theorem nE:∀r:Nat,r<16->Ua[r]?=some (pc r):=by
 have h:∀b0 b1 b2 b3:Bool,Ua[val [b0,b1,b2,b3]]?=some ([b0,b1,b2,b3].count true):=by decide
 intro r hr;have e:r=val [r.testBit 0,r.testBit 1,r.testBit 2,r.testBit 3]:=by
  have:∀r:Fin 16,r.val=val [r.val.testBit 0,r.val.testBit 1,r.val.testBit 2,r.val.testBit 3]:=by decide
  exact this ⟨r,hr⟩
 rw[e,h,Oj]
def nth (n k:Nat):Option Nat:=
 if n=0 then none else if n%2=1 then(if k=0 then some 0 else(nth (n/2) (k-1)).map (·+1)) else(nth (n/2) k).map (·+1)
termination_by n
decreasing_by all_goals lia
theorem R0 (k:Nat):nth 0 k=none:=by rw[nth];rfl
theorem Xf (b:Bool)(m k:Nat):nth (b.toNat+2*m) k=if b then(if k=0 then some 0 else(nth m (k-1)).map (·+1)) else(nth m k).map (·+1):=by
 cases b with
 |false=>
  by_cases h:m=0
  ·subst h;simp[R0]
  ·rw[nth,if_neg (by simp only[yj];lia),if_neg (by simp only[yj];lia)]
   simp only[yj,ip,jy,if_false];rw[show 2*m/2=m by lia]
 |true=>
  rw[nth,if_neg (by simp only[yy];lia),if_pos (by simp only[yy];lia)];have e:(true.toNat+2*m)/2=m:=by simp only[yy];lia
  rw[e];simp
theorem Uw:∀(l:Za5) (k:Nat),nth (val l) k=(plc 0 l)[k]?
 |[],k=>by simp[val,plc,R0]
 |b::r,k=>by
  simp only[val,Xf]
  cases b with
  |false=>simp[plc,Jo,Uw r]
  |true=>
   cases k with
   |zero=>simp[plc]
   |succ k=>simp[plc,Jo,Uw r]
def Vt (r:Nat):Za4:=(d7 4).filter λp=>decide (r/2 ^ p%2=1)
theorem rD:∀r:Nat,r<16->(Vt r).length=pc r:=by
 have h:∀b0 b1 b2 b3:Bool,(Vt (val [b0,b1,b2,b3])).length=([b0,b1,b2,b3].count true):=by decide
 intro r hr;have e:r=val [r.testBit 0,r.testBit 1,r.testBit 2,r.testBit 3]:=by
  have:∀r:Fin 16,r.val=val [r.val.testBit 0,r.val.testBit 1,r.val.testBit 2,r.val.testBit 3]:=by decide
  exact this ⟨r,hr⟩
 rw[e,h,Oj]
theorem eK:∀(w:Za5) (m k:Nat),nth (val w+2 ^ w.length*m) k=if k<w.count true then(plc 0 w)[k]? else(nth m (k-w.count true)).map (·+w.length)
 |[],m,k=>by simp[val]
 |b::r,m,k=>by
  have e:val (b::r)+2 ^ (b::r).length*m=b.toNat+2*(val r+2 ^ r.length*m):=by
   rw[val,fj,vf,Nat.mul_add,i0,xu (2 ^ r.length) 2,EZ]
  have ih:=eK r m;rw[e,Xf]
  cases b with
  |false=>
   rw[if_neg fk,ih,show(false::r).count true=r.count true by simp]
   by_cases h:k<r.count true
   ·rw[if_pos h,if_pos h]
    simp[plc,Jo]
   ·rw[if_neg h,if_neg h,yu]
    rfl
  |true=>
   rw[if_pos rfl,show(true::r).count true=r.count true+1 by simp]
   cases k with
   |zero=>rw[if_pos rfl,if_pos (AU _)];rfl
   |succ k=>
    rw[if_neg (Nat.succ_ne_zero k),tm,ih]
    by_cases h:k<r.count true
    ·rw[if_pos h,if_pos (Nat.succ_lt_succ h)]
     simp[plc,Jo]
    ·rw[if_neg h,if_neg (λz=>h (Nat.lt_of_succ_lt_succ z)),Nat.add_sub_add_right,yu]
     rfl
theorem zI (n k:Nat):nth n k=if k<pc (n%16) then(Vt (n%16))[k]? else(nth (n/16) (k-pc (n%16))).map (·+4):=by
 have h:∀b0 b1 b2 b3:Bool,Vt (val [b0,b1,b2,b3])=plc 0 [b0,b1,b2,b3]:=by decide
 have g:∀r:Fin 16,r.val=val [r.val.testBit 0,r.val.testBit 1,r.val.testBit 2,r.val.testBit 3]:=by decide
 obtain⟨w,hw,e,h4⟩:∃w:Za5,w.length=4/\n%16=val w/\Vt (val w)=plc 0 w:=⟨_,rfl,g ⟨n%16,tj _ (by decide)⟩,h _ _ _ _⟩;have:=eK w (n/16) k;rw[hw,<-e,show n%16+2 ^ 4*(n/16)=n from Nat.mod_add_div n 16] at this;rw[this,e,Oj,h4]
def Bd (l:Za5)(j:Nat):Za5:=(l.drop (32*j)).take 32
def B6 (n:Nat):Nat:=(n+31)/32
def wordsOf (l:Za5):Za4:=(d7 (B6 l.length)).map λj=>val (Bd l j)
def cnt (l:Za5)(k:Nat):Nat:=(l.take k).count true
theorem sE (l:Za5)(a b:Nat):cnt l (a+b)=cnt l a+((l.drop a).take b).count true:=by
 unfold cnt;rw[uf,ow]
theorem Pr (l:Za5){k:Nat}(h:l.length<=k):cnt l k=l.count true:=by
 unfold cnt;rw[fc h]
theorem mI (l:Za5)(j:Nat):cnt l (32*(j+1))=cnt l (32*j)+pc (val (Bd l j)):=by
 rw[Oj,show 32*(j+1)=32*j+32 by lia,sE];rfl
theorem Us (l:Za5)(a:Nat):∀k:Nat,((d7 k).map λi=>pc (val (Bd l (a+i)))).sum+cnt l (32*a)=cnt l (32*(a+k))
 |0=>by simp
 |k+1=>by
  rw[iw,ed,qa,BZ,w6];have:=Us l a k;have e:=mI l (a+k);rw[show a+(k+1)=a+k+1 by lia,e];lia
theorem Xd (n:Nat):n<=32*B6 n:=by unfold B6;lia
theorem Xb {n j:Nat}(h:j<B6 n):32*j<n:=by unfold B6 at h;lia
theorem jK (l:Za5)(b:Nat)(k:Nat)(hk:k=min 8 (B6 l.length-8*b)):((d7 k).map λi=>pc (val (Bd l (8*b+i)))).sum+cnt l (256*b)=cnt l (256*(b+1)):=by
 have h:=Us l (8*b) k;rw[show 32*(8*b)=256*b by lia] at h;rw[h]
 by_cases hh:8<=B6 l.length-8*b
 ·rw[show k=8 by lia,show 32*(8*b+8)=256*(b+1) by lia]
 ·have:=Xd l.length
  rw[Pr l (k:=32*(8*b+k)) (by lia),Pr l (k:=256*(b+1)) (by lia)]
theorem fQ:∀(l:Za5) (a:Nat),(l.reverse.foldl (λacc b=>acc*2+b.toNat) a)=a*2 ^ l.length+val l
 |[],a=>by simp[val]
 |b::r,a=>by
  rw[List.reverse_cons,CV,fQ r a];simp only[oj,ED,val,fj,vf];rw[we,EZ];lia
theorem eG:∀(w:Za5) (k:Nat),val w/2 ^ k%2=(w.getD k false).toNat
 |[],k=>by simp[val]
 |b::r,0=>by
  cases b<;>simp[val]<;>lia
 |b::r,k+1=>by
  have ih:=eG r k;have e:val (b::r)/2 ^ (k+1)=val r/2 ^ k:=by
   rw[vf,xu (2 ^ k) 2,<-vg];congr 1;cases b<;>simp[val]<;>lia
  rw[e,ih];simp
theorem Yg (l:Za5)(j:Nat){p:Nat}(hp:p<32):(Bd l j).getD p false=l.getD (32*j+p) false:=by
 unfold Bd;simp only[mh,jn,i7,hp,if_true]
theorem mS (f:Nat->Bool)(n:Nat):[n].filter f=if f n then[n] else[]:=by
 cases h:f n<;>simp[List.filter,h]
def occ (b:Bool)(l:Za5)(n:Nat):Za4:=(d7 n).filter λi=>l.getD i false==b
theorem Nn (b:Bool)(l:Za5)(n:Nat):occ b l (n+1)=occ b l n++if l.getD n false==b then[n] else[]:=by
 unfold occ;rw[iw,jj,mS]
theorem Pl (b:Bool)(l:Za5)(n:Nat):∀d:Nat,occ b l (n+d)=occ b l n++((d7 d).filter λp=>l.getD (n+p) false==b).map (n + ·)
 |0=>by simp
 |d+1=>by
  rw[show n+(d+1)=n+d+1 by lia,Nn,Pl b l n d,iw,jj,ed,dq,mS];congr 2;cases l.getD (n+d) false==b<;>rfl
theorem Vg {b:Bool}{l:Za5}{n m i:Nat}(h:n<=m)(hi:i<(occ b l n).length):(occ b l m)[i]?=(occ b l n)[i]?:=by
 obtain⟨d,rfl⟩:=EO h;rw[Pl,fv hi]
theorem vY {b:Bool}{l:Za5}{n m:Nat}(h:n<=m):(occ b l n).length<=(occ b l m).length:=by
 obtain⟨d,rfl⟩:=EO h;rw[Pl,di];lia
theorem Vc (l:Za5):∀n:Nat,(occ true l n).length=cnt l n/\(occ false l n).length+cnt l n=n
 |0=>by simp[occ,cnt]
 |n+1=>by
  obtain⟨h1,h2⟩:=Vc l n;have e:cnt l (n+1)=cnt l n+(l.getD n false).toNat:=by
   unfold cnt;rw[il,ow,mh]
   cases hx:l[n]? with
   |none=>simp
   |some b=>cases b<;>simp
  rw[Nn,Nn,e];cases l.getD n false<;>simp<;>lia
def La (b:Bool)(l:Za5)(j:Nat):Za4:=(d7 32).filter λp=>l.getD (32*j+p) false==b
theorem Ru (b:Bool)(l:Za5)(j:Nat):occ b l (32*(j+1))=occ b l (32*j)++(La b l j).map (32*j + ·):=by
 rw[show 32*(j+1)=32*j+32 by lia,Pl];rfl
theorem Nz (f:Nat->Bool):∀n:Nat,plc 0 ((d7 n).map f)=(d7 n).filter f
 |0=>rfl
 |n+1=>by
  rw[iw,ed,BZ,X4,Nz f n,jj,da,d6,mS,ip]
theorem pE (w:Za5)(k:Nat):(val w).testBit k=w.getD k false:=by
 rw[Nat.testBit_eq_decide_div_mod_eq,eG];cases w.getD k false<;>rfl
def Ni (b:Bool):Nat:=if b then 0 else 4294967295
theorem Kw (b:Bool)(l:Za5)(j:Nat):val (Bd l j) ^^^ Ni b=val ((d7 32).map λp=>l.getD (32*j+p) false==b):=by
 refine BP λi=>?_;rw[Nat.testBit_xor,pE,pE];have hf:(Ni b).testBit i=(!b&&decide (i<32)):=by
  cases b
  ·show(2 ^ 32-1).testBit i=_
   rw[zj];rfl
  ·show(0:Nat).testBit i=_
   rw[Nat.zero_testBit];rfl
 rw[hf]
 by_cases hi:i<32
 ·rw[Yg l j hi,mh (l:=BD _ _),du,gl hi]
  show _=(l.getD (32*j+i) false==b);rw[decide_eq_true hi];cases l.getD (32*j+i) false<;>cases b<;>rfl
 ·rw[decide_eq_false hi,mh,f8 (by unfold Bd;rw[dy];lia),mh,f8 (by rw[da,d6];lia)]
  simp
theorem Xg (b:Bool)(l:Za5)(j k:Nat):nth (val (Bd l j) ^^^ Ni b) k=(La b l j)[k]?:=by
 rw[Kw,Uw,Nz];rfl
theorem rE (b:Bool)(l:Za5)(j:Nat):pc (val (Bd l j) ^^^ Ni b)=(La b l j).length:=by
 rw[Kw,Oj,<-P1 _ 0,Nz];rfl
def dAt (ds:Za4)(k:Nat):Nat:=ds.getD k 0
def opn (ds:Za4):Nat->Nat
 |0=>0
 |k+1=>dAt ds k+1
def way (ds:Za4):Nat->List Int
 |0=>[-1]
 |k+1=>(way ds k).take (dAt ds k+1)++[(k:Int)]
def Dok (ds:Za4):Prop:=∀k,k<ds.length->dAt ds k<=opn ds k
def eld (ds:Za4)(k:Nat):Int:=(way ds k).getD (dAt ds k) 0
def A4 (ds:Za4):List Int:=(d7 ds.length).map (eld ds)
theorem Cd {ds:Za4}(h:Dok ds):∀k,k<=ds.length->(way ds k).length=opn ds k+1
 |0,_=>rfl
 |k+1,hk=>by
  show((way ds k).take (dAt ds k+1)++[(k:Int)]).length=dAt ds k+1+1;have:=Cd h k (by lia);have:=h k (by lia);rw[di,dy];simp only[fj,jh];lia
theorem Kb {ds:Za4}(h:Dok ds):∀k,k<=ds.length->(way ds k)[0]?=some (-1)
 |0,_=>rfl
 |k+1,hk=>by
  show((way ds k).take (dAt ds k+1)++[(k:Int)])[0]?=some (-1);have e:=Kb h k (by lia);have hl:=Cd h k (by lia);rw[fv (by rw[dy];lia),gq (by lia)];exact e
theorem Oe {ds:Za4}(h:Dok ds):∀(k j:Nat) (x:Int),k<=ds.length->(way ds k)[j+1]?=some x->∃v:Nat,x=(v:Int)/\v<k/\dAt ds v=j
 |0,j,x,_,e=>by cases e
 |k+1,j,x,hk,e=>by
  have e:((way ds k).take (dAt ds k+1)++[(k:Int)])[j+1]?=some x:=e;have hl:=Cd h k (by lia);have hd:=h k (by lia);have hl2:((way ds k).take (dAt ds k+1)).length=dAt ds k+1:=by rw[dy];lia
  by_cases hj:j+1<dAt ds k+1
  ·rw[fv (by lia),gq hj] at e
   obtain⟨v,hv,hlt,hdv⟩:=Oe h k j x (by lia) e;exact⟨v,hv,by lia,hdv⟩
  ·rw[d8 (by lia),hl2] at e
   have e0:j+1-(dAt ds k+1)=0:=by
    have:=(d9.mp e).1;simp only[fj,jh] at this;lia
   rw[e0] at e;have e:=dr e;exact⟨k,e.symm,by lia,by lia⟩
theorem dF {ds:Za4}(h:Dok ds):∀(k i j:Nat) (x y:Int),k<=ds.length->i<j->(way ds k)[i]?=some x->(way ds k)[j]?=some y->x<y
 |0,i,j,x,y,_,hij,e1,e2=>by
  have:=(d9.mp e2).1;simp only[way,fj,jh] at this;lia
 |k+1,i,j,x,y,hk,hij,e1,e2=>by
  have hl:=Cd h k (by lia);have hd:=h k (by lia);have hl2:((way ds k).take (dAt ds k+1)).length=dAt ds k+1:=by rw[dy];lia
  have e2':((way ds k).take (dAt ds k+1)++[(k:Int)])[j]?=some y:=e2;have e1':((way ds k).take (dAt ds k+1)++[(k:Int)])[i]?=some x:=e1
  by_cases hj:j<dAt ds k+1
  ·rw[fv (by lia),gq hj] at e2'
   rw[fv (by lia),gq (by lia)] at e1';exact dF h k i j x y (by lia) hij e1' e2'
  ·rw[d8 (by lia),hl2] at e2'
   have e0:j-(dAt ds k+1)=0:=by
    have:=(d9.mp e2').1;simp only[fj,jh] at this;lia
   rw[e0] at e2';have ey:=dr e2';rw[fv (by lia),gq (by lia)] at e1'
   cases i with
   |zero=>
    rw[Kb h k (by lia)] at e1';have:=dr e1';lia
   |succ i=>
    obtain⟨v,hv,hlt,_⟩:=Oe h k i x (by lia) e1';lia
theorem Hc {ds:Za4}(h:Dok ds){k:Nat}(hk:k<ds.length):(way ds k)[dAt ds k]?=some (eld ds k):=by
 have hl:=Cd h k (by lia);have hd:=h k hk;unfold eld gr;rw[df (by lia)];rfl
theorem Wm {ds:Za4}(h:Dok ds){k:Nat}(hk:k<ds.length)(e:eld ds k=-1):dAt ds k=0:=by
 have ha:=Hc h hk
 cases hd:dAt ds k with
 |zero=>rfl
 |succ j=>
  rw[hd] at ha;obtain⟨v,hv,_⟩:=Oe h k j _ (by lia) ha;lia
theorem Dp {ds:Za4}(h:Dok ds){k:Nat}(hk:k<ds.length)(e:eld ds k≠-1):∃v:Nat,eld ds k=(v:Int)/\v<k/\dAt ds k=dAt ds v+1:=by
 have ha:=Hc h hk
 cases hd:dAt ds k with
 |zero=>
  rw[hd,Kb h k (by lia)] at ha;exact absurd (dr ha).symm e
 |succ j=>
  rw[hd] at ha;obtain⟨v,hv,hlt,hdv⟩:=Oe h k j _ (by lia) ha;exact⟨v,hv,hlt,by lia⟩
theorem Sa {ds:Za4}(h:Dok ds){k:Nat}(hk:k<ds.length):-1<=eld ds k:=by
 by_cases e:eld ds k=-1
 ·lia
 ·obtain⟨v,hv,_⟩:=Dp h hk e
  lia
theorem Bv (ds:Za4):(A4 ds).length=ds.length:=by unfold A4;rw[da,d6]
theorem Pp {ds:Za4}{k:Nat}(hk:k<ds.length):(A4 ds)[k]?=some (eld ds k):=by
 unfold A4;rw[du,gl hk];rfl
end TW
end
section
namespace L2
open PySem PySem.Spec PyProof.Rows
variable {C CB CC CL Pt dx i1 i2 it l1 l2 z:dk} {params:l8} {A:ir} {op:vw} {X:Cx} {D:Go} {env:Env} {iter tg:ie} {fd:jk} {base h h':i8} {H H' H1 H2:Hp} {J:It} {pins:Za1} {fp:List dk} {kz ns:List Int} {l0:List fg} {cs ix:Za4} {N ps:Za6} {xs ys:List V} {us vs:Za3} {M:wo} {n t':Nat} {oT:Obj} {an od:Option dk} {lpos p pos pos2:Pos} {B:Prop} {scope:l6} {pl:Sem Bool} {s s2:d4} {sp:Sp} {qual:Str} {te:TE} {wi:TI} {y:V} {cdv ct doc oc pm:d3} {w:gp}
def Abw (B:i8)(l:List Env)(e:dk)(cls a0:d3)(od:Option dk)(h:i8):Prop:=Heap.FlyingW B l e cls a0 h/\∃o,h.get? e=some o/\o.dict=od
structure yP (outer:List Env) (H':Hp) (h h':i8) (e C:dk) (od:Option dk):Prop where
 new:h.get? e=none
 unt:H' e=none
 fly:∃a0 B,Abw B outer e (.ref C) a0 od h'/\∀b o,h'.get? b=some o->B.get? b=none->b=e\/b∈frs outer\/(h.get? b=none/\H' b=none)
def CXE (P:fh)(w:gp):CXT:=λouter H s E ex s'=>∃e C od H',ex=.ref e/\s'.os=s.os/\wj s'.gens/\Un (frs outer) [] H H' s.heap s'.heap/\HOk P w H' s'.heap/\(∀b∈frs outer,H' b=none)/\yP outer H' s.heap s'.heap e C od/\E (.ref C) od H'
theorem yJ {P:fh}:Jb (CXE P w) X E0:=λ_ _ _ _ _ _ _ h=>by
 obtain⟨_,_,_,_,_,_,_,_,_,_,_,z⟩:=h;exact z.elim
structure Abj (P:fh) (w:gp) (K:de) (mg:Za2) (base:i8) (name:Str) (C:dk) (k:Nat) (ps:Za6) (sp:Sp):Prop where
 ex:∃(f:dk) (fd:jk),Av P w K mg base (CXE P w) k f fd ps sp/\E6 K fd ps []/\Mk K C f/\mg name=some (.ref C)
theorem fF (K:de)(h:autoParam (X.K=K) QD):IxR X (vH K):=by
 subst h;exact Do
theorem Hj (K:de)(h:autoParam (X.K=K) QD):IxR X (rC K):=by
 subst h;exact Bn
open PySem.W Builtin.Getset_descriptor
theorem eA {G:St}(I:Inv X pins G H s):sysModules<s.heap.objs.size:=
 Nat.lt_trans (by decide) (show mainGlobals<s.heap.objs.size from(I.mod.glob.keeps I.bk).lt)
def uY:TE:=λ_ H Q=>∀p,H p=none->Q (.ref p) (upd H p (.dK []))
theorem pK {P:fh}(h:i8)(hb:sysModules<h.objs.size):Ck P w H (h.push { cls:=.type "dict",data:=.dict #[] }) h.objs.size (.dK []):=
 ⟨f7 _,beq_eq_false_iff_ne.mpr (rq (fm hb)),[],.nil,AI h⟩
theorem eO:PE X (.Dict [] [] pos) uY:=λpins s G H Q I h=>
 wpAny_Dict_empty ⟨.ref s.heap.objs.size,_,I.laid (a:=s.heap.objs.size) (o:=.dK []) (t':=s.toks) (λ_ _ q=>dj _ q) (dh _) (pK s.heap (eA I)),rfl,h _ (I.hok.fresh (dh _))⟩
theorem wN {G:St}{Q:VK}(h:∀p,H p=none->Q (.ref p) (upd H p (.dK []))):uY G H Q:=h
def uS (K:de)(te ts:TE):TE:=λG H Q=>te G H λx H1=>ts G H1 λy H2=>∃a xs st,x=.ref a/\y=.int st/\0<st/\SqL K H2 a xs /\
 ∀p ys,H2 p=none->(∀v∈ys,v∈xs)->ys.length<=xs.length->Q (.ref p) (upd H2 p (.lst ys))
theorem N4 {xs:List V}{us:Za3}(r:Au xs us):∀is:Za4,Au (is.filterMap λi=>xs[i]?) (is.filterMap λi=>us[i]?)
 |[]=>.nil
 |i::is=>by
  have ih:=N4 r is;have l:=r.length
  by_cases h:i<us.length
  ·obtain⟨u,eu,ru⟩:=r.get (df (show i<xs.length by lia))
   rw[k5,k5,df (show i<xs.length by lia),eu];exact .cons ru ih
  ·rw[k5,k5,f8 (show us.length<=i by lia),f8 (show xs.length<=i by lia)]
   exact ih
section
variable {X:Cx} {e st:ie} {te ts:TE} {pos p2:Pos}
theorem tI (he:PE X e te)(hst:PE X st ts):PE X (.Subscript e (.Slice none none (some st) p2) pos) (uS X.K te ts):=by
 k_in;refine Subscript_ (thE he I h λv s1 x H1 I1 r1 q1=>?_);refine DO ?_;rw[yb];refine dw ?_;refine dw ?_;rw[evalPart_some];refine thE hst I1 q1 λu s3 y H3 I3 r3 ⟨a,xs,k,ex,ey,hk,hs,q⟩=>?_;subst ex ey;obtain rfl:v=ji a:=r1;obtain⟨t,rfl⟩:=r3;have I4:Inv X pins G H3 { s3 with heap:=s3.heap.push { cls:=.type "slice",data:=.fields #[.none,.none,.int k t] } }:=I3.kept (t':=s3.toks) λb ob q=>dj _ q;obtain⟨its,r,pl,hz⟩:=I4.list hs;have e1:=r.length;show wpAny (model X.prog X.w) X.A (subscriptTail e (.Slice none none (some st) p2) (.ref a) (.ref s3.heap.objs.size)) (EP X pins G Q) X.xe { s3 with heap:=s3.heap.push { cls:=.type "slice",data:=.fields #[.none,.none,.int k t] } };refine DP (ops:=[.ref a,.ref s3.heap.objs.size]) pl.isList.typeIs list_getitem_lookup ?_ (by with_unfolding_all rfl);refine BI pl.isList (yx ..) .none .none (.int k t) (by intro z;have:=dr z;lia) ?_ (by rw[ej];lia);have hp:slicePick its.toArray none none (some k)=((sliceRange (sliceBounds none none (some k) its.length).1 (sliceBounds none none (some k) its.length).2.1 (sliceBounds none none (some k) its.length).2.2).filterMap λi=>its[i]?).toArray:=by
  unfold slicePick;simp
 rw[hp];generalize sliceRange (sliceBounds none none (some k) its.length).1 (sliceBounds none none (some k) its.length).2.1 (sliceBounds none none (some k) its.length).2.2=is at *;have hlen:(is.filterMap λi=>xs[i]?).length<=xs.length:=by
  have:=slicePick_size_le its.toArray none none (some k);rw[hp,ej,<-(N4 r is).length,ej] at this;lia
 exact⟨.ref _,_,I4.lnew (t':=s3.toks) (N4 r is) (by lia),rfl,q _ _ (I4.hok.fresh (dh _)) (λv hv=>by
  obtain⟨i,_,hi⟩:=w8.mp hv;exact d5 hi) hlen⟩
theorem vG {K:de}{G:St}{Q:VK}(h:te G H λx H1=>ts G H1 λy H2=>∃a xs st,x=.ref a/\y=.int st/\0<st/\SqL K H2 a xs /\
 ∀p ys,H2 p=none->(∀v∈ys,v∈xs)->ys.length<=xs.length->Q (.ref p) (upd H2 p (.lst ys))):uS K te ts G H Q:=h
end
theorem Vb:entryFor table "zip.__getattribute__"=some qd.«object.__getattribute__» :=
 entryFor_alias (id':="object.__getattribute__") (by kernel_rfl) (by first|rfl|decide +kernel) (by decide +kernel) (by kernel_rfl)
theorem Y5:typeLookup (.type "zip") "keys"=pure none:=by rw[GA,DC];kernel_rfl
theorem W7:typeLookup (.type "zip") "__getattr__"=pure none:=by rw[GA,DC];kernel_rfl
abbrev wK (vs:Array d3):Obj:={ cls:=.type "zip",dict:=none,data:=.fields vs,slots:=#[] }
theorem Zr (a:dk)(vs:Array d3)(u:Tok):Meets (qd.«object.__getattribute__» ⟨[.ref a,.str "keys" u],[]⟩) (λA R s=>s.heap.get? a=some (wK vs)/\raisesAttr (.ref a) "keys" A R s):=
 Meets.of_wp λprog w A R s hs=>by
  obtain⟨hp,g,d,tk,os⟩:=s;obtain⟨hx,hs⟩:=hs;have hT:(⟨hp,g,d,tk,os⟩:d4).TypeIs (.ref a) "zip":=⟨_,hx,rfl⟩;have f4:=Y5
  repeat (any_goals (first|assumption|with_reducible refine wpAny_loadPart_at hx ?_|wp_step))
  exact wpAny_raiseAttrError hs.1 hs.2 (by decide +kernel)
section
variable {prog:fh} {w:gp} {A:ir} {E:Za0} {s:d4}
theorem sG {a:dk}{vs:Array d3}{Q:Za7->d4->Prop}(hx:s.heap.get? a=some (wK vs))(hA:A.handled=none)(q:∀h' tk,(∀b o,s.heap.get? b=some o->h'.get? b=some o)->Q none { s with heap:=h',toks:=tk }) :
  wpAny (model prog w) A (getAttr? (.ref a) "keys") Q E s:=by
 obtain⟨hp,g,d,tk,os⟩:=s;have hT:∀tk',(⟨hp,g,d,tk',os⟩:d4).TypeIs (.ref a) "zip":=λ_=>⟨_,hx,rfl⟩;have f1:=sub_AttributeError;have f3:=rb.lookup;have f4:=rb.bind (.ref a);have f5:=W7;unfold getAttr? getAttrBy? getAttrBy
 repeat (any_goals (first|assumption|exact hT _|((with_reducible show wpAny _ _ (call (wm "zip.__getattribute__") _ _) _ _ _);refine se rb (hT _) Vb (PySem.F.args_zip_getattribute_2 _ _) (Zr a vs _) ⟨hx,hA,λh' tk' e hx'=>?_⟩)|wp_step))
 obtain⟨t',u',he⟩:=hx'.there;show wpAny _ _ (getattributeRaised _ _ _ _ _ _ _) _ _ _;unfold getattributeRaised
 repeat (any_goals (first|assumption|wp_step))
 exact q _ _ hx'.keeps
end
abbrev Mx (h:i8)(z TI TO T:dk)(c:Bool):Prop:=h.get? z=some (wK #[rawInt T,.bool c,.bool false,.ref TI,.ref TO])
section
variable {prog:fh} {w:gp} {A:ir} {E:Za0} {s:d4}
theorem mR {a:dk}{Q:Option Obj->d4->Prop}(h:Q (s.heap.get? a) s):wpAny (model prog w) A (loadIfAlive a) Q E s:=λΓ p hΓ=>by
 show Sem.wp _ _ (.loadIfAlive a _) _ _ _ _;rw[Sem.wp_loadIfAlive];exact h
theorem Ui {TI TO T:dk}{c:Bool}{Q:Bool->d4->Prop}(hz:Mx s.heap z TI TO T c)(hT:s.heap.get? T=some oT)(q:∀h',Mx h' z TI TO T true->vc z s.heap h'->Q false { s with heap:=h' }) :
  wpAny (model prog w) A (lp (.ref z)) Q E s:=by
 unfold lp;refine wpAny_bind (mn hz rfl (x:=rawInt T) rfl ?_);show wpAny _ _ (loadIfAlive (Int.toNat (T:Int)) >>= _) _ _ _;refine wpAny_bind (mR ?_);rw[ge,hT];show wpAny _ _ (field (.ref z) 1 >>= _) _ _ _;refine wpAny_bind (mn hz rfl (x:=.bool c) rfl ?_)
 cases c with
 |true=>
  exact dw (q s.heap hz (HG _ _))
 |false=>
  refine wpAny_bind (wpAny_setField_rec hz (by simp) λQR JH QS=>?_);exact dw (q QR JH QS)
theorem iY {TI TO T:dk}{k1 k2:Nat}{xs ys:Array d3}{x y:d3}{c:Bool}{Q:Za0}(D:y6 z TI TO i1 i2 l1 l2)
  (hz:Mx s.heap z TI TO T c)(hT:s.heap.get? T=some oT)(hTI:tp s.heap TI (.ref i1) (.ref i2))(h1:s.heap.IsListIter i1 l1 k1)(h2:s.heap.IsListIter i2 l2 k2)(hl1:s.heap.IsList l1 xs)(hl2:s.heap.IsList l2 ys)(hx:xs[k1]?=some x)(hy:ys[k2]?=some y)
  (hQ:∀h',Mx h' z TI TO T true->h'.IsListIter i1 l1 (k1+1)->h'.IsListIter i2 l2 (k2+1)->tp h' s.heap.objs.size x y->h'.objs.size=s.heap.objs.size+1->(∀b o,b≠z->b≠i1->b≠i2->s.heap.get? b=some o->h'.get? b=some o)->Q (.ref s.heap.objs.size) { s with heap:=h' }) :
  wpAny (model prog w) A (qd.«zip.__next__» ⟨[.ref z],[]⟩) (λfin s'=>∃v,fin=.done (.ret v)/\Q v s') E s:=by
 show wpAny _ _ (field (.ref z) 2 >>= _) _ _ _;refine wpAny_bind (mn hz rfl (x:=.bool false) rfl ?_);show wpAny _ _ (field (.ref z) 3 >>= _) _ _ _;refine wpAny_bind (mn hz rfl (x:=.ref TI) rfl ?_);refine wpAny_bind (rg hTI rfl ?_);show wpAny _ _ (lp (.ref z) >>= _) _ _ _;refine wpAny_bind (Ui hz hT λQR JH QS=>?_);rw[if_neg (by decide)];refine wpAny_bind ?_;rw[<-su];simp only[sd,zk];refine wpAny_bind (wpAny_bind (wpAny_holding ?_));show wpAny _ _ (qv (.ref i1) >>= _) _ _ _;refine wpAny_bind (CJ (h1.extBut QS.extBut D.i1z) (hl1.extBut QS.extBut D.l1z) hx λJP JQ QZ=>dw ?_);refine dw ?_;refine wpAny_bind (wpAny_bind (wpAny_holding ?_));show wpAny _ _ (qv (.ref i2) >>= _) _ _ _;refine wpAny_bind (CJ ((h2.extBut QS.extBut D.i2z).extBut QZ.extBut D.i12.symm) ((hl2.extBut QS.extBut D.l2z).extBut QZ.extBut D.l2i1) hy λJI JR JJ=>dw ?_);refine dw (dw ?_);have hsz:JI.objs.size=s.heap.objs.size:=by rw[JJ.1,QZ.1,QS.1]
 have kp:∀b o,b≠z->b≠i1->b≠i2->s.heap.get? b=some o->JI.get? b=some o:=λb o b1 b2 b3 e=>JJ.extBut _ _ b3 (QZ.extBut _ _ b2 (QS.extBut _ _ b1 e));have JS:Mx JI z TI TO T true:=JJ.extBut _ _ D.i2z.symm (QZ.extBut _ _ D.i1z.symm JH);show wpAny _ _ (newTuple [x,y] >>= _) _ _ _;refine wpAny_bind (AO (dw ⟨_,rfl,?_⟩));have hp:JI.objs.size=s.heap.objs.size:=hsz;rw[hp];refine hQ _ (dj _ JS) ((JQ.extBut JJ.extBut D.i12).at λo e=>dj _ e) (JR.at λo e=>dj _ e) ?_ (by rw[mi,hp]) λb o b1 b2 b3 e=>dj _ (kp b o b1 b2 b3 e);rw[<-hp];exact fu _ rfl
theorem iE {TI TO T:dk}{k1 k2:Nat}{xs ys:Array d3}{x y:d3}{c:Bool}{Q:Za7->d4->Prop}(D:y6 z TI TO i1 i2 l1 l2)
  (hz:Mx s.heap z TI TO T c)(hT:s.heap.get? T=some oT)(hTI:tp s.heap TI (.ref i1) (.ref i2))(h1:s.heap.IsListIter i1 l1 k1)(h2:s.heap.IsListIter i2 l2 k2)(hl1:s.heap.IsList l1 xs)(hl2:s.heap.IsList l2 ys)(hx:xs[k1]?=some x)(hy:ys[k2]?=some y)
  (hQ:∀h',Mx h' z TI TO T true->h'.IsListIter i1 l1 (k1+1)->h'.IsListIter i2 l2 (k2+1)->tp h' s.heap.objs.size x y->h'.objs.size=s.heap.objs.size+1->(∀b o,b≠z->b≠i1->b≠i2->s.heap.get? b=some o->h'.get? b=some o)->Q (some (.ref s.heap.objs.size)) { s with heap:=h' }) :
  wpAny (model prog w) A (pyNext (.ref z)) Q E s:=by
 have hTy:s.TypeIs (.ref z) "zip":=⟨_,hz,rfl⟩;unfold pyNext;exact wpAny_bind (x9 (qz (name:=kr "__next__") hTy qu
  (p8 qu hTy zo
   (iY D hz hT hTI h1 h2 hl1 hl2 hx hy λh' a1 a2 a3 a4 a5 a6=>dw (hQ h' a1 a2 a3 a4 a5 a6)) (zi _))))
theorem oU {TI TO T:dk}{k1:Nat}{xs:Array d3}{c:Bool}{Q:Za7->d4->Prop}(hh:A.handled=none)(D:y6 z TI TO i1 i2 l1 l2)
  (hz:Mx s.heap z TI TO T c)(hT:s.heap.get? T=some oT)(hTI:tp s.heap TI (.ref i1) (.ref i2))(h1:s.heap.IsListIter i1 l1 k1)(hl1:s.heap.IsList l1 xs)(hx:xs[k1]?=none)
  (hQ:∀h',(∀b o,b≠z->b≠i1->b≠i2->s.heap.get? b=some o->h'.get? b=some o)->Q none { s with heap:=h' }) :
  wpAny (model prog w) A (pyNext (.ref z)) Q E s:=by
 have hTy:s.TypeIs (.ref z) "zip":=⟨_,hz,rfl⟩;unfold pyNext;refine wpAny_bind (x9 (qz (name:=kr "__next__") hTy qu
  (p8 qu hTy zo ?_ (zi _))))
 show wpAny _ _ (field (.ref z) 2 >>= _) _ _ _;refine wpAny_bind (mn hz rfl (x:=.bool false) rfl ?_);show wpAny _ _ (field (.ref z) 3 >>= _) _ _ _;refine wpAny_bind (mn hz rfl (x:=.ref TI) rfl ?_);refine wpAny_bind (rg hTI rfl ?_);show wpAny _ _ (lp (.ref z) >>= _) _ _ _;refine wpAny_bind (Ui hz hT λQR JH QS=>?_);rw[if_neg (by decide)];refine wpAny_bind ?_;rw[<-su];simp only[sd,zk];refine wpAny_bind (wpAny_bind (wpAny_holding ?_));show wpAny _ _ (qv (.ref i1) >>= _) _ _ _;refine wpAny_bind (wpAny_nextOf_list_end hh (h1.extBut QS.extBut D.i1z) (hl1.extBut QS.extBut D.l1z) hx λJP e QZ he=>?_);obtain⟨oe,hoe,hce⟩:=he;show wpAny _ _ (isInstance (.ref e) (.type "StopIteration") >>= _) _ _ _;refine wpAny_bind (wpAny_isInstance (T:="StopIteration") (b:=true) ⟨oe,hoe,hce⟩ isSubtype_stop ?_);exact dw (hQ _ λb o b1 b2 b3 e=>QZ _ _ b2 (QS.extBut _ _ b1 e))
end
def Ji (vs:List (Key×d3)):Prop:=∀p∈vs,∃y:V,A5 y p.2
theorem P0:∀vs:List (Key×d3),Ji vs->∃kvs:List (Key×V),KV kvs vs
 |[],_=>⟨[],.nil⟩
 |p::r,h=>by
  obtain⟨kvs,hk⟩:=P0 r λq hq=>h q (fb _ hq);obtain⟨y,hy⟩:=h p fi;exact⟨(p.1,y)::kvs,.cons ⟨rfl,hy⟩ hk⟩
theorem R4:∀{kvs:List (Key×V)} {vs:List (Key×d3)},KV kvs vs->Ji vs
 |_,_,.nil=>λp hp=>by cases hp
 |_,_,.cons h t=>λp hp=>by
  rcases gt.mp hp with rfl|hp
  ·exact⟨_,h.2⟩
  ·exact R4 t p hp
theorem Iw {vs:List (Key×d3)}{k:Key}{u:d3}(h:Ji vs)(hu:∃y:V,A5 y u):Ji (stored vs k u):=by
 intro p hp;unfold stored at hp;split at hp
 ·obtain⟨q,hq,e⟩:=fz.mp hp
  split at e
  ·rw[<-e];exact hu
  ·rw[<-e];exact h q hq
 ·rcases gj.mp hp with hp|hp
  ·exact h p hp
  ·rw[ee.mp hp];exact hu
theorem Vo {vs more:List (Key×d3)}(h:Ji vs)(hm:Ji more):Ji (merged vs more):=by
 unfold merged
 induction more generalizing vs with
 |nil=>exact h
 |cons p r ih=>exact ih (Iw h (hm p fi)) λq hq=>hm q (fb _ hq)
section
variable {prog:fh} {w:gp} {A:ir} {E:Za0} {R:wb->d4->Prop}
theorem Ct:plainId "dict.update.loop"=true:=by decide +kernel
theorem Gn:entryFor table "dict.update.loop"=some qd.«dict.update.loop»:=entryFor_of_tree (by kernel_rfl)
theorem Rs {T:dk}{x y:d3}{Q:Za3->d4->Prop}(hT:tp s.heap T x y)(h:Q [x,y] s):wpAny (model prog w) A (yi (.ref T)) Q E s:=by
 have ty:s.TypeIs (.ref T) "tuple":=⟨_,hT,rfl⟩;unfold yi;refine wpAny_bind (vz ty ?_);rw[if_pos (by decide)];exact wpAny_bind (rg hT rfl (dw h))
structure DzA (d z TI TO i1 i2 l1 l2:dk):Prop where
 za:y6 z TI TO i1 i2 l1 l2
 dz:d≠z
 dI:d≠TI
 dO:d≠TO
 d1:d≠i1
 d2:d≠i2
 dl:d≠l1
 dm:d≠l2
theorem xI {d TI TO T:dk}{xs ys:Array d3}(D:DzA d z TI TO i1 i2 l1 l2)(hTz:T≠z)(hT1:T≠i1)(hT2:T≠i2)(hTd:T≠d)(hh:A.handled=none)(he:xs.size=ys.size)
  (hk:∀(i:Nat) x,xs[i]?=some x->∃n t,x=l5 n t)(hv:∀(i:Nat) y,ys[i]?=some y->∃v:V,A5 v y):∀(m i:Nat) (s:d4) (tk:Tok) (c:Bool) (vs:List (Key×d3)) (oT:Obj),xs.size-i=m->i<=xs.size->Mx s.heap z TI TO T c->s.heap.get? T=some oT->tp s.heap TI (.ref i1) (.ref i2) ->
   s.heap.IsListIter i1 l1 i->s.heap.IsListIter i2 l2 i->s.heap.IsList l1 xs->s.heap.IsList l2 ys->s.heap.DictOf (By prog w) d vs->Ji vs->vs.length+(xs.size-i)<=sizeLine ->
   (∀h' k vs',h'.DictOf (By prog w) d vs'->Ji vs'->vs'.length<=vs.length+(xs.size-i)->(∀b o,b≠z->b≠i1->b≠i2->b≠d->s.heap.get? b=some o->h'.get? b=some o)->R (.ok (.ret .none)) { s with heap:=h',toks:=k }) ->
   codeAny (model prog w) A (.builtin "dict.update.loop" ⟨[.ref d,.ref z,.int i tk,.none],[]⟩) R s:=by
 intro m
 induction m with
 |zero=>
  intro i s tk c vs oT hm hi hz hT hTI h1 h2 hl1 hl2 hd hkn hsz q;refine l9 Gn ?_;rw[ju Ct _];show wpAny _ A.in1 (pyNext (.ref z) >>= _) _ _ s;refine wpAny_bind (oU (by exact hh) D.za hz hT hTI h1 hl1 (AG (by lia)) λh' kp=>?_);show wpAny _ A.in1 (xo d [] >>= _) _ _ _;refine wpAny_bind (dw (dw ?_));obtain⟨o,es,ep,ho,r⟩:=hd;exact q h' s.toks vs ⟨o,es,ep,kp _ _ D.dz D.d1 D.d2 ho,r⟩ hkn (iq _ _) λb o b1 b2 b3 _ e=>kp b o b1 b2 b3 e
 |succ m ih=>
  intro i s tk c vs oT hm hi hz hT hTI h1 h2 hl1 hl2 hd hkn hsz q;obtain⟨x,hx⟩:∃x,xs[i]?=some x:=⟨_,k8 (show i<xs.size by lia)⟩;obtain⟨y,hy⟩:∃y,ys[i]?=some y:=⟨_,k8 (show i<ys.size by lia)⟩;obtain⟨n,t,rfl⟩:=hk i x hx;refine l9 Gn ?_;rw[ju Ct _];show wpAny _ A.in1 (pyNext (.ref z) >>= _) _ _ s;refine wpAny_bind (iE D.za hz hT hTI h1 h2 hl1 hl2 hx hy λh' hz' h1' h2' hp hsz' kp=>?_);have hd':h'.DictOf (By prog w) d vs:=by
   obtain⟨o,es,ep,ho,r⟩:=hd;exact⟨o,es,ep,kp _ _ D.dz D.d1 D.d2 ho,r⟩
  show wpAny _ A.in1 (holding _ _ >>= _) _ _ _;refine wpAny_bind (wpAny_holding (wpAny_bind (pz (Rs hp ?_))));show wpAny _ A.in1 (holding _ (dictSet d (.int n t) y)) _ _ _;refine wpAny_holding (DZ (knd:=By prog w) (k:=.inl n) (Jr prog w n t) hd' (λh2 dd' hs=>?_) (by lia));have k2:∀b o,b≠z->b≠i1->b≠i2->b≠d->s.heap.get? b=some o->h2.get? b=some o:=λb o b1 b2 b3 b4 e=>(hs.2 b b4).trans (kp b o b1 b2 b3 e);have st:∀b o,b≠d->h'.get? b=some o->h2.get? b=some o:=λb o b4 e=>(hs.2 b b4).trans e;have hln:=FF vs (vd n:Key) y;refine dw ⟨n0 Ct _,?_⟩;refine ih (i+1) _ _ true _ oT (by lia) (by lia) (st _ _ D.dz.symm hz') (k2 _ _ hTz hT1 hT2 hTd hT) (k2 _ _ D.za.TIz D.za.TIi1 D.za.TIi2 D.dI.symm hTI) (h1'.at λo e=>st _ o D.d1.symm e) (h2'.at λo e=>st _ o D.d2.symm e)
   (hl1.at λo e=>k2 _ o D.za.l1z D.za.l1i1 D.za.l1i2 D.dl.symm e) (hl2.at λo e=>k2 _ o D.za.l2z D.za.l2i1 D.za.l2i2 D.dm.symm e) dd' (Iw hkn (hv i y hy)) (by lia) λh3 k vs' hd3 hkn3 hl3 kp3=>?_
  exact q h3 k vs' hd3 hkn3 (by lia) λb o b1 b2 b3 b4 e=>kp3 b o b1 b2 b3 b4 (k2 b o b1 b2 b3 b4 e)
theorem iF {tk:Tok}{d TI TO:dk}{a b:d3}{xs ys:Array d3}{vs:List (Key×d3)}(D:DzA d z TI TO i1 i2 l1 l2)(hh:A.handled=none)(he:xs.size=ys.size)
  (hk:∀(i:Nat) x,xs[i]?=some x->∃n t,x=l5 n t)(hv:∀(i:Nat) y,ys[i]?=some y->∃v:V,A5 v y)(hz:IsZip s.heap z TI TO .none)(hTO:tp s.heap TO a b)(hTI:tp s.heap TI (.ref i1) (.ref i2))
  (h1:s.heap.IsListIter i1 l1 0)(h2:s.heap.IsListIter i2 l2 0)(hl1:s.heap.IsList l1 xs)(hl2:s.heap.IsList l2 ys)(hd:s.heap.DictOf (By prog w) d vs)(hkn:Ji vs)(hsz:vs.length+xs.size<=sizeLine)
  (q:∀h' k vs',h'.DictOf (By prog w) d vs'->Ji vs'->vs'.length<=vs.length+xs.size->(∀b o,b≠z->b≠TO->b≠i1->b≠i2->b≠d->s.heap.get? b=some o->h'.get? b=some o)->R (.ok (.ret .none)) { s with heap:=h',toks:=k }) :
  codeAny (model prog w) A (.builtin "dict.update.loop" ⟨[.ref d,.ref z,.int 0 tk,.none],[]⟩) R s:=by
 refine l9 Gn ?_;rw[ju Ct _];show wpAny _ A.in1 (pyNext (.ref z) >>= _) _ _ s;rcases lw xs.size with h0|h0
 ·refine wpAny_bind (wpAny_pyNext_zip_end (by exact hh) D.za hz hTI hTO h1 h2 hl1 hl2 (.inl (AG (by lia))) λh' kp=>?_)
  show wpAny _ A.in1 (xo d [] >>= _) _ _ _;refine wpAny_bind (dw (dw ?_));obtain⟨o,es,ep,ho,r⟩:=hd;exact q h' s.toks vs ⟨o,es,ep,kp _ _ D.dz D.dO D.d1 D.d2 ho,r⟩ hkn (iq _ _) λb o b1 b2 b3 b4 _ e=>kp b o b1 b2 b3 b4 e
 ·obtain⟨x,hx⟩:∃x,xs[0]?=some x:=⟨_,k8 h0⟩
  obtain⟨y,hy⟩:∃y,ys[0]?=some y:=⟨_,k8 (show 0<ys.size by lia)⟩;obtain⟨n,t,rfl⟩:=hk 0 x hx;refine wpAny_bind (wpAny_pyNext_zip_item D.za hz hTI hTO h1 h2 hl1 hl2 hx hy λh' hz' _ h1' h2' hp hsz' kp=>?_);have hd':h'.DictOf (By prog w) d vs:=by
   obtain⟨o,es,ep,ho,r⟩:=hd;exact⟨o,es,ep,kp _ _ D.dz D.dO D.d1 D.d2 ho,r⟩
  have lt:∀{c o},s.heap.get? c=some o->s.heap.objs.size≠c:=λe=>pf (eg e);have ltd:s.heap.objs.size≠d:=by
   obtain⟨o,es,ep,ho,r⟩:=hd;exact lt ho
  show wpAny _ A.in1 (holding _ _ >>= _) _ _ _;refine wpAny_bind (wpAny_holding (wpAny_bind (pz (Rs hp ?_))));show wpAny _ A.in1 (holding _ (dictSet d (.int n t) y)) _ _ _;refine wpAny_holding (DZ (knd:=By prog w) (k:=.inl n) (Jr prog w n t) hd' (λhb dd' hs=>?_) (by lia));have k2:∀b o,b≠z->b≠TO->b≠i1->b≠i2->b≠d->s.heap.get? b=some o->hb.get? b=some o:=λb o b1 b2 b3 b5 b4 e=>(hs.2 b b4).trans (kp b o b1 b2 b3 b5 e);have st:∀b o,b≠d->h'.get? b=some o->hb.get? b=some o:=λb o b4 e=>(hs.2 b b4).trans e;have hln:=FF vs (vd n:Key) y;refine dw ⟨n0 Ct _,?_⟩;refine xI D (T:=s.heap.objs.size) (lt hz) (by obtain⟨_,e,_⟩:=h1;exact lt e) (by obtain⟨_,e,_⟩:=h2;exact lt e) ltd hh he hk hv _ 1 _ _ false _ _ rfl h0 (st _ _ D.dz.symm hz') (st _ _ ltd hp) (k2 _ _ D.za.TIz D.za.TITO D.za.TIi1 D.za.TIi2 D.dI.symm hTI) (h1'.at λo e=>st _ o D.d1.symm e) (h2'.at λo e=>st _ o D.d2.symm e)
   (hl1.at λo e=>k2 _ o D.za.l1z D.za.l1TO D.za.l1i1 D.za.l1i2 D.dl.symm e) (hl2.at λo e=>k2 _ o D.za.l2z D.za.l2TO D.za.l2i1 D.za.l2i2 D.dm.symm e) dd' (Iw hkn (hv 0 y hy)) (by lia) λh3 k vs' hd3 hkn3 hl3 kp3=>?_
  exact q h3 k vs' hd3 hkn3 (by lia) λb o b1 b2 b3 b5 b4 e=>kp3 b o b1 b3 b5 b4 (k2 b o b1 b2 b3 b5 b4 e)
theorem Sy {TI TO:dk}{a b:d3}{xs ys:Array d3}{Q:Za0}(D:y6 z TI TO i1 i2 l1 l2)(hh:A.handled=none)(he:xs.size=ys.size)
  (hk:∀(i:Nat) x,xs[i]?=some x->∃n t,x=l5 n t)(hv:∀(i:Nat) y,ys[i]?=some y->∃v:V,A5 v y)(hz:IsZip s.heap z TI TO .none)(hTO:tp s.heap TO a b)(hTI:tp s.heap TI (.ref i1) (.ref i2))
  (h1:s.heap.IsListIter i1 l1 0)(h2:s.heap.IsListIter i2 l2 0)(hl1:s.heap.IsList l1 xs)(hl2:s.heap.IsList l2 ys)(hsz:xs.size<=sizeLine)
  (q:∀h' k vs',h'.DictOf (By prog w) s.heap.objs.size vs'->Ji vs'->vs'.length<=xs.size->(∀b o,b≠z->b≠TO->b≠i1->b≠i2->s.heap.get? b=some o->h'.get? b=some o)->Q (.ref s.heap.objs.size) { s with heap:=h',toks:=k }) :
  wpAny (model prog w) A (call (.type "dict") [.ref z]) Q E s:=by
 refine callType_codes (Q₁:=λobj QM=>obj=.ref s.heap.objs.size/\QM={ s with heap:=s.heap.push { cls:=.type "dict",data:=.dict #[] } }) PySem.F.kt_called_dict (PySem.F.kt_typeCall_dict_1 _) PySem.F.entry_dict_init (kt_code_dict_new _ ⟨rfl,rfl⟩) ?_;rintro obj QM ⟨rfl,rfl⟩;have hnew:(s.heap.push { cls:=.type "dict",data:=.dict #[] }).DictOf (By prog w) s.heap.objs.size []:=AI s.heap;have up:∀b o,s.heap.get? b=some o->(s.heap.push { cls:=.type "dict",data:=.dict #[] }).get? b=some o:=λb o e=>dj _ e;have lt:∀{c o},s.heap.get? c=some o->s.heap.objs.size≠c:=λe=>pf (eg e);refine⟨hnew.typeIs,PySem.F.args_dict_init_2 _ _,?_⟩;unfold qd.«dict.__init__»;refine wpAny_bind ?_;unfold HJ;refine wpAny_bind (wpAny_notOrdered_dict hnew.typeIs ?_);show wpAny _ _ (pure (s.heap.objs.size,[ji z])) _ _ _;refine dw ?_;show wpAny _ _ (x6 "dict.__init__" s.heap.objs.size (.ref z) [] .none) _ _ _;unfold x6;have hz':=up _ _ hz;refine wpAny_bind (vz (T:="zip") ⟨_,hz',rfl⟩ ?_);rw[if_pos (by decide)];refine wpAny_bind (sG hz' (by exact hh) λh' tk kp=>?_);rw[if_pos (by rfl)];refine wpAny_bind (ou (wpAny_bind (zl (kp _ _ hz') ?_)));have up2:∀b o,s.heap.get? b=some o->h'.get? b=some o:=λb o e=>kp _ _ (up b o e);have hd':h'.DictOf (By prog w) s.heap.objs.size []:=by
  obtain⟨o,es,ep,ho,r⟩:=hnew;exact⟨o,es,ep,kp _ _ ho,r⟩
 refine dw ⟨n0 Ct _,?_⟩;refine iF (a:=a) (b:=b) (vs:=[]) ⟨D,lt hz,lt hTI,lt hTO,?_,?_,?_,?_⟩ (by exact hh) he hk hv (up2 _ _ hz) (up2 _ _ hTO) (up2 _ _ hTI) (h1.at λo e=>up2 _ o e) (h2.at λo e=>up2 _ o e) (hl1.at λo e=>up2 _ o e) (hl2.at λo e=>up2 _ o e) hd' (λp hp=>by cases hp) (by simpa using hsz) λh3 k vs' hd3 hkn3 hl3 kp3=>?_
 ·obtain⟨_,e,_⟩:=h1;exact lt e
 ·obtain⟨_,e,_⟩:=h2;exact lt e
 ·obtain⟨_,e,_⟩:=hl1;exact lt e
 ·obtain⟨_,e,_⟩:=hl2;exact lt e
 ·exact⟨rfl,q h3 k vs' hd3 hkn3 (by simpa using hl3) λb o b1 b2 b3 b4 e=>kp3 b o b1 b2 b3 b4 (lt e).symm (up2 _ _ e)⟩
end
theorem Hv:∀{kvs:List (Key×V)} {vs:List (Key×d3)},KV kvs vs->kvs.length=vs.length
 |_,_,.nil=>rfl
 |_,_,.cons _ t=>congrArg (·+1) (Hv t)
section
variable {X:Cx}
def uA (K:de)(ta:TA):TE:=λG H Q=>ta G H λvs H1=>∃a b ns ys,vs=[.ref a,.ref b]/\SqL K H1 a (BD V.int ns)/\SqL K H1 b ys/\ns.length=ys.length/\∀p kvs,H1 p=none->kvs.length<=ns.length->Q (.ref p) (upd H1 p (.dK kvs))
theorem tL {a b:ie}{ta:TA}{q:Pos}(hcal:X.calm=true)(hg:Gl X "dict")(hm:X.mg "dict"=none)(hg2:Gl X "zip")(hm2:X.mg "zip"=none)(ha:PA X [a,b] ta)
  (hs:autoParam (starEach [a,b] X.env=[(false,eval a X.env),(false,eval b X.env)]) QD)(hs2:autoParam (starEach [b] X.env=[(false,eval b X.env)]) QD)
  (hs3:autoParam (starEach [wg (.Name "zip" q) [a,b] [] pos2] X.env=[(false,eval (.Call (.Name "zip" q) [a,b] [] pos2) X.env)]) QD) :
  PE X (.Call (.Name "dict" p) [.Call (.Name "zip" q) [a,b] [] pos2] [] pos) (uA X.K ta):=by
 k_in;refine wpAny_Call_Name_kw (Df I hg hm wR (gn ?_ hs3 rfl) (by decide) (by decide));rw[hs3];refine lj ?_;show wpAny _ _ (eval (wg (.Name "zip" q) [a,b] [] pos2) X.env) _ _ _;refine wpAny_Call_Name_kw (Df I hg2 hm2 tZ (gn (thA ha I h λus s1 vs H1 I1 r1 q1=>?_) (by rw[hs,hs2]) (by rw[hs2];rfl)) (by decide) (by decide));obtain⟨a,b,ns,ys,e,hx,hy,hl,q⟩:=q1;subst e;obtain⟨u,v,rfl,ru,rv⟩:=Uk r1;cases ru;cases rv;obtain⟨its,rv,p,hz⟩:=I1.list hx;obtain⟨its2,rv2,p2,hz2⟩:=I1.list hy;have l1:=rv.length;have l2:=rv2.length;rw[da] at l1;refine call_zip_2 p.isList p2.isList λh' g1 g2 g3 g4 g5 hsz kk=>?_;refine ot ?_;have A1:h'.IsList a its.toArray:=p.isList.at λo e=>kk _ o e;have A2:h'.IsList b its2.toArray:=p2.isList.at λo e=>kk _ o e;have D:=Z3 (Rc _) (⟨g1,g2,⟨_,_,g3⟩,g4,g5⟩:StZ _ _ _ _ _ a b 0 h') A1 A2;refine Sy (s:={ s1 with heap:=h' }) D (I1.ok.hd hcal) (by simp;lia) (λi x e=>?_) (λi y e=>?_) g1 g3 g2 g4 g5 A1 A2 (by simp;rw[da] at hz;lia) λh2 k vs' d2 kn lv kp=>?_
 ·have e':its[i]?=some x:=by simpa using e
  have li:=(d9.mp e').1;have hn:(BD V.int ns)[i]?=some (.int (ns[i]'(by lia))):=by rw[du,df (by lia)];rfl
  obtain⟨u,hu,t,rfl⟩:=rv.get hn;rw[e'] at hu;cases hu;exact⟨_,_,rfl⟩
 ·have e':its2[i]?=some y:=by simpa using e
  have li:=(d9.mp e').1;obtain⟨u,hu,rr⟩:=rv2.get (df (show i<ys.length by lia));rw[e'] at hu;cases hu;exact⟨_,rr⟩
 ·obtain⟨kvs,hk⟩:=P0 vs' kn
  have lk:=Hv hk;have hle:s1.heap.objs.size<=h'.objs.size:=by lia
  have lns:kvs.length<=ns.length:=by simp at lv;lia
  refine⟨.ref h'.objs.size,_,I1.laid (a:=h'.objs.size) (o:=.dK kvs) (t':=k) (λb o e=>?_) hle ⟨?_,?_,vs',hk,d2⟩,rfl,q _ kvs (I1.hok.fresh hle) lns⟩
  ·have lt:=eg e
   have ne:∀c,s1.heap.objs.size<=c->b≠c:=λc hc z=>ko _ (ef lt (z▸hc));exact kp b o (ne _ (iq _ _)) (ne _ (iq _ _)) (ne _ (dh _)) (ne _ (iq _ _)) (kk _ _ e)
  ·rw[da] at hz;lia
  ·exact beq_eq_false_iff_ne.mpr (rq (fm (ef (eA I1) hle)))
theorem xG {G:St}{Q:VK}{ta:TA}{K:de}(h:ta G H λvs H1=>∃a b ns ys,vs=[.ref a,.ref b]/\SqL K H1 a (BD V.int ns)/\SqL K H1 b ys/\ns.length=ys.length/\∀p kvs,H1 p=none->kvs.length<=ns.length->Q (.ref p) (upd H1 p (.dK kvs))):uA K ta G H Q:=h
def fP:V->List V->Hp->VK->Prop:=λx vs H Q=>∃a b kvs kvs2,x=.ref a/\vs=[.ref b]/\a≠b/\H a=some (.dK kvs)/\H b=some (.dK kvs2)/\kvs.length+kvs2.length<=sizeLine/\∀kvs',kvs'.length<=kvs.length+kvs2.length->Q .non (upd H a (.dK kvs'))
theorem iV:MtM X "dict.update" fP:=by
 intro pins s G H x vs v us Q I rx rv h;obtain⟨a,b,kvs,kvs2,rfl,rfl,hne,hA,hB,hz,q⟩:=h;cases rx;obtain⟨u,rfl,ru⟩:=En rv;cases ru;obtain⟨z1,m1,v1,k1,d1⟩:=(show Ck X.prog X.w H s.heap a (.dK kvs) from I.hok a _ hA);obtain⟨z2,m2,v2,k2,d2⟩:=(show Ck X.prog X.w H s.heap b (.dK kvs2) from I.hok b _ hB);have e1:=Hv k1;have e2:=Hv k2;refine call_meetsIn zb d1.typeIs PySem.F.entry_dict_update (PySem.F.args_dict_update_2 _ _) (meets_dict_update (By X.prog X.w) a b hne m2)
  ⟨v1,v2,d1,d2,by lia,λh' dd _ hs=>?_⟩
 have lm:=merged_length_le v1 v2;obtain⟨kvs',hk⟩:=P0 (merged v1 v2) (Vo (R4 k1) (R4 k2));have lk:=Hv hk;refine⟨.non,_,I.write (x:=a) (e:=a) (o:=.dK kvs') (t':=s.toks) (by rw[hA];trivial) (.inl rfl) (λb u hb e=>(hs.2 b hb).trans e) ?_ ⟨by lia,m1,_,hk,dd⟩,rfl,q kvs' (by lia)⟩;obtain⟨o,es,ep,ho,r⟩:=dd;exact⟨o,ho⟩
end
theorem Sh:∀{xs:List V} {us:Za3},xs.length=us.length->(∀(i:Nat) x u,xs[i]?=some x->us[i]?=some u->A5 x u)->Au xs us
 |[],[],_,_=>.nil
 |x::xs,u::us,hl,h=>.cons (h 0 x u rfl rfl) (Sh (wn hl) λi y v e1 e2=>h (i+1) y v e1 e2)
section
variable {X:Cx}
def tV (ta:TA):TE:=λG H Q=>ta G H λvs H1=>∃j:Nat,vs=[.int j]/\j<=100000/\∀p,H1 p=none->Q (.ref p) (upd H1 p (.lst ((d7 j).map λi:Nat=>V.int i)))
theorem iB {a:ie}{ta:TA}{q:Pos}(hcal:X.calm=true)(hg:Gl X "list")(hm:X.mg "list"=none)(hg2:Gl X "range")(hm2:X.mg "range"=none)(ha:PA X [a] ta)
  (hs:autoParam (starEach [a] X.env=[(false,eval a X.env)]) QD)
  (hs3:autoParam (starEach [wg (.Name "range" q) [a] [] pos2] X.env=[(false,eval (.Call (.Name "range" q) [a] [] pos2) X.env)]) QD) :
  PE X (.Call (.Name "list" p) [.Call (.Name "range" q) [a] [] pos2] [] pos) (tV ta):=by
 k_in;refine wpAny_Call_Name_kw (Df I hg hm Lq (gn ?_ hs3 rfl) (by decide) (by decide));rw[hs3];refine lj ?_;show wpAny _ _ (eval (wg (.Name "range" q) [a] [] pos2) X.env) _ _ _;refine wpAny_Call_Name_kw (Df I hg2 hm2 boot_range (gn (thA ha I h λus s1 vs H1 I1 r1 q1=>?_) hs rfl) (by decide) (by decide));obtain⟨j,e,hj,q⟩:=q1;subst e;obtain⟨u,rfl,t,rfl⟩:=En r1;refine y4 (ot ?_);have e2:ja 0 (j:Int) 1=j:=by rw[ya];split<;>lia
 refine call_list_range (I1.ok.hd hcal) (vj ..) (FG (by lia) (by lia) (by lia) (by lia)) e2 (by lia) λh' tk acc c kp ho it=>?_;have hv:Au ((d7 j).map λi:Nat=>V.int i) acc.toList:=Sh (by rw[da,d6,eh,it.1]) λi x u e1 e3=>by
  have hi:i<j:=by have:=(d9.mp e1).1;simpa using this
  rw[du,gl hi] at e1;cases e1;have e4:acc[i]?=some u:=by rw[<-en];exact e3
  obtain⟨t,e5⟩:=it.2 i u e4;exact⟨t,by rw[e5];simp⟩
 have up:∀b o,s1.heap.get? b=some o->h'.get? b=some o:=λb o e=>kp _ _ (dj _ e);have hle:s1.heap.objs.size<=(s1.heap.push { cls:=.type "range",data:=.fields #[.int 0 s1.toks,.int j t,.int 1 (s1.toks+1)] }).objs.size:=by rw[mi];lia
 refine⟨.ref _,_,I1.laid (t':=tk) (o:=.lst _) up hle ⟨?_,acc.toList,c,hv,ho⟩,rfl,q _ (I1.hok.fresh hle)⟩;rw[da,d6];exact ig (mj hj (by decide))
theorem wG {G:St}{Q:VK}{ta:TA}(h:ta G H λvs H1=>∃j:Nat,vs=[.int j]/\j<=100000/\∀p,H1 p=none->Q (.ref p) (upd H1 p (.lst ((d7 j).map λi:Nat=>V.int i)))):tV ta G H Q:=h
end
structure Y6 (K:de) (x qual:Str) (st:jc) (f:dk) (fd:jk):Prop where
 ex:∃(oc:d3) (od:Option dk) (T:dk) (kV doc pm:d3) (an:Option dk) (cdv ct:d3) (osl:Array (Za7)) (o:Obj) (v:d3) (n:Nat),
  fd=i9 x qual (Br st) (Bg st) (Af st) (.ref T) kV doc pm an cdv ct/\K.lookup f=some ⟨oc,od,.func fd,osl⟩/\km K cdv qual=true/\K.lookup T=some o/\o.data=.seq #[v] n
section
variable {P:fh} {w:gp} {K:de} {mg:Za2} {base:i8}
theorem Y6.okE {x:Str}{st:jc}{f:dk}{k:Nat}(F:Y6 K x qual st f fd)(S:Al N ps (Af st))(len:∀vs H Q E,sp vs H Q E->vs.length=ps.length)
  (hbody:∀(cdv:d3) (A:ir) (outer:List Env) (s:d4) (H:Hp) (vs:List V) (Q:VK) (E:XK),Ca k (A.deeper (envOfC qual (Af st) s.heap.objs.size f cdv))->sp vs H Q E ->
   ∃t,PSs (X2 (CXE P w) P w K mg base N qual (Af st) f cdv A outer s H E) (Bg st) t/\t { nx:=λ_ H'=>Q .non H',rt:=Q } (Lh N vs) H):Av P w K mg base (CXE P w) (k+1) f fd ps sp:=by
 obtain⟨oc,od,T,kV,doc,pm,an,cdv,ct,osl,o,v,n,rfl,lk,hcd,_⟩:=F.ex;exact oZ lk hcd S len λA outer s H vs Q E hr hsp=>hbody cdv A outer s H vs Q E hr hsp
theorem Y6.binds {x:Str}{st:jc}{f:dk}(F:Y6 K x qual st f fd)
  (h:∀(T:dk) (kV doc pm:d3) (an:Option dk) (cdv ct:d3) (us:Za3),us.length=ps.length->∃k,bindArgs (i9 x qual (Br st) (Bg st) (Af st) (.ref T) kV doc pm an cdv ct) ⟨us,[]⟩=seqItems? (.ref T) >>= k/\∀v,k (some #[v])=pure (ps.zip us)):E6 K fd ps []:=by
 obtain⟨oc,od,T,kV,doc,pm,an,cdv,ct,osl,o,v,n,rfl,lk,hcd,hT,hd⟩:=F.ex;intro s us KX hl;rw[fw] at hl ⊢;obtain⟨k,h1,h2⟩:=h T kV doc pm an cdv ct us hl;exact AK rfl (KX _ _ hT) hd h1 (h2 v)
theorem tK {x:Str}{st:jc}{f T:dk}{osl:Array (Za7)}{kV v:d3}{o:Obj}(l:K.lookup f=some ⟨oc,od,.func (i9 x qual (Br st) (Bg st) (Af st) (.ref T) kV doc pm an cdv ct),osl⟩)
  (c:km K cdv qual=true)(hT:K.lookup T=some o)(hd:o.data=.seq #[v] n):Y6 K x qual st f (i9 x qual (Br st) (Bg st) (Af st) (.ref T) kV doc pm an cdv ct):=⟨⟨oc,od,T,kV,doc,pm,an,cdv,ct,osl,o,v,n,rfl,l,c,hT,hd⟩⟩
end
section
variable {G:St} {H:Hp}
theorem yF {to ti:TE}{t:Yc}{v:V}{R:St->Hp->Prop}(h:to G H λo H1=>ti G H1 λi H2=>t o i v H2 λH3=>R G H3):Abe to ti t v G H R:=h
theorem rO {j:Nat}(h:j<n):ixN n (j:Int)=some j:=by
 unfold ixN;rw[if_pos (by lia),if_pos (by lia)];simp
theorem Lo {p:dk}{j:Nat}{i:Int}{v:V}{R:Hp->Prop}(h:H p=some (.lst xs))(hi:i=j)(hj:j<xs.length)(q:R (upd H p (.lst (xs.set j v)))):tU (.ref p) (.int i) v H R:=
 ⟨p,xs,i,j,rfl,rfl,h,by rw[hi];exact rO hj,q⟩
theorem mW {a b:dk}{kvs kvs2:List (Key×V)}{Q:VK}(hn:a≠b)(h1:H a=some (.dK kvs))(h2:H b=some (.dK kvs2))(hz:kvs.length+kvs2.length<=sizeLine)(q:∀kvs',kvs'.length<=kvs.length+kvs2.length->Q .non (upd H a (.dK kvs'))):fP (.ref a) [.ref b] H Q:=
 ⟨a,b,kvs,kvs2,rfl,rfl,hn,h1,h2,hz,q⟩
end
section
variable {κ:Type} [DecidableEq κ]
def Gk (kvs:List (κ×V))(k:κ):Option V:=(kvs.find? λkv=>decide (kv.1=k)).map (·.2)
def Oa (kvs:List (κ×V))(k:κ)(v:V):List (κ×V):=
 if(kvs.any λkv=>decide (kv.1=k))=true then kvs.map (λkv=>if kv.1=k then(kv.1,v) else kv) else kvs++[(k,v)]
theorem Eg {p:κ×V}{r:List (κ×V)}{k:κ}(e:p.1=k):Gk (p::r) k=some p.2:=by simp[Gk,vi,e]
theorem Ed {p:κ×V}{r:List (κ×V)}{k:κ}(e:¬ p.1=k):Gk (p::r) k=Gk r k:=by simp[Gk,vi,e]
theorem Pw (k:κ):∀kvs:List (κ×V),(kvs.any λkv=>decide (kv.1=k))=(Gk kvs k).isSome
 |[]=>rfl
 |p::r=>by
  rw[z5]
  by_cases e:p.1=k
  ·simp only[Eg e,decide_eq_true e,Bool.true_or,Option.isSome_some]
  ·rw[Ed e,decide_eq_false e,Bool.false_or];exact Pw k r
theorem Wv (k j:κ)(y:V):∀kvs:List (κ×V),Gk (kvs.map λkv=>if kv.1=k then(kv.1,y) else kv) j=(Gk kvs j).map λx=>if j=k then y else x
 |[]=>rfl
 |p::r=>by
  have ih:=Wv k j y r;rw[ft]
  by_cases h:p.1=k
  ·rw[if_pos h]
   by_cases e:p.1=j
   ·rw[Eg (p:=(p.1,y)) e,Eg e,rm,if_pos (e.symm.trans h)]
   ·rw[Ed (p:=(p.1,y)) e,Ed e,ih]
  ·rw[if_neg h]
   by_cases e:p.1=j
   ·rw[Eg (p:=p) e,Eg e,rm,if_neg (λz=>h (e.trans z))]
   ·rw[Ed (p:=p) e,Ed e,ih]
theorem Uq (k j:κ)(y:V):∀kvs:List (κ×V),Gk kvs k=none->Gk (kvs++[(k,y)]) j=if j=k then some y else Gk kvs j
 |[],_=>by
  by_cases e:k=j
  ·rw[if_pos e.symm];exact Eg (p:=(k,y)) e
  ·rw[if_neg (λz=>e z.symm)];exact Ed (p:=(k,y)) e
 |p::r,hn=>by
  rw[jz];have hk:¬ p.1=k:=λz=>by rw[Eg z] at hn;cases hn
  rw[Ed hk] at hn;have ih:=Uq k j y r hn
  by_cases e:p.1=j
  ·rw[Eg e,Eg e,if_neg (λz=>hk (e.trans z))]
  ·rw[Ed e,Ed e,ih]
theorem kZ (kvs:List (κ×V))(k j:κ)(y:V):Gk (Oa kvs k y) j=if j=k then some y else Gk kvs j:=by
 unfold Oa
 by_cases a:(kvs.any λkv=>decide (kv.1=k))=true
 ·rw[if_pos a,Wv]
  rw[Pw] at a
  by_cases e:j=k
  ·obtain⟨x,hx⟩:=iu.mp a
   rw[if_pos e,e,hx,rm,if_pos rfl]
  ·rw[if_neg e]
   cases Gk kvs j with
   |none=>rfl
   |some x=>rw[rm,if_neg e]
 ·rw[if_neg a]
  refine Uq k j y kvs ?_;rw[Pw] at a
  cases q:Gk kvs k with
  |none=>rfl
  |some x=>rw[q] at a;exact(a rfl).elim
theorem O4 (kvs:List (κ×V))(k:κ)(v:V):(Oa kvs k v).length<=kvs.length+1:=by
 unfold Oa;split
 ·rw[da];lia
 ·rw[di,fj,jh];lia
theorem M5.isSome_eq {o:Option V}{u:Za7}(r:M5 o u):o.isSome=u.isSome:=by
 cases o with
 |none=>cases u with
  |none=>rfl
  |some _=>exact(show False from r).elim
 |some _=>cases u with
  |none=>exact(show False from r).elim
  |some _=>rfl
theorem KV.val {kvs:List (κ×V)}{vs:List (κ×d3)}(r:KV kvs vs)(k:κ):M5 (Gk kvs k) (valueAt vs k):=by
 unfold KV at r
 induction r with
 |nil=>exact qe
 | @cons p q ps qs h t ih=>
  obtain⟨h1,h2⟩:=h
  by_cases e:p.1=k
  ·have e':q.1=k:=h1.symm.trans e
   have b:valueAt (q::qs) k=some q.2:=by simp[valueAt,vi,e']
   rw[Eg e,b];exact h2
  ·have e':¬ q.1=k:=λz=>e (h1.trans z)
   have b:valueAt (q::qs) k=valueAt qs k:=by simp[valueAt,vi,e']
   rw[Ed e,b];exact ih
theorem KV.any {kvs:List (κ×V)}{vs:List (κ×d3)}(r:KV kvs vs)(k:κ):(kvs.any λkv=>decide (kv.1=k))=vs.any λkv=>decide (kv.1=k):=by
 unfold KV at r
 induction r with
 |nil=>rfl
 |cons h t ih=>rw[z5,z5,ih,h.1]
theorem KV.repl {kvs:List (κ×V)}{vs:List (κ×d3)}(r:KV kvs vs)(k:κ){u:d3}(ry:A5 y u) :
  KV (kvs.map λkv=>if kv.1=k then(kv.1,y) else kv) (vs.map λkv=>if kv.1=k then(kv.1,u) else kv):=by
 unfold KV at r ⊢
 induction r with
 |nil=>exact .nil
 | @cons p q ps qs h t ih=>
  rw[ft,ft];refine .cons ?_ ih;obtain⟨h1,h2⟩:=h
  by_cases e:p.1=k
  ·rw[if_pos e,if_pos (h1.symm.trans e)];exact⟨h1,ry⟩
  ·rw[if_neg e,if_neg (λz=>e (h1.trans z))];exact⟨h1,h2⟩
theorem KV.put {kvs:List (κ×V)}{vs:List (κ×d3)}(r:KV kvs vs)(k:κ){u:d3}(ry:A5 y u):KV (Oa kvs k y) (stored vs k u):=by
 unfold Oa stored;rw[r.any k]
 by_cases e:(vs.any λkv=>decide (kv.1=k))=true
 ·rw[if_pos e,if_pos e];exact r.repl k ry
 ·rw[if_neg e,if_neg e];exact Paired.snoc r ⟨rfl,ry⟩
theorem KV.length {kvs:List (κ×V)}{vs:List (κ×d3)}(r:KV kvs vs):kvs.length=vs.length:=DT r
end
theorem lL {P:fh}{k:Key}{u:d3}(r:A5 (kV k) u):(By P w).is k u=true:=by
 cases k with
 |inl i=>obtain⟨t,e⟩:=(show ∃t,u=l5 i t from r);subst e;exact Jr P w i t
 |inr x=>obtain⟨t,e⟩:=(show ∃t,u=xp x t from r);subst e;exact Yi P w x t
section
variable {P:fh} {w:gp} {H:Hp} {h:i8} {a:dk}
theorem Aa5 {u:HO}(ok:HOk P w H h)(e:Rd H a u):Ck P w H h a u:=e.ok ok
theorem Aa4 {kvs:List (Key×V)}(ok:HOk P w H h)(e:Rd H a (.dK kvs)):kvs.length<=sizeLine/\(a==sysModules)=false/\∃vs,KV kvs vs/\h.DictOf (By P w) a vs:=
 show Ck P w H h a (.dK kvs) from Aa5 ok e
theorem mK {kvs:List (Key×V)}(ok:HOk P w H h)(e:H a=some (.dK kvs)):kvs.length<=sizeLine/\(a==sysModules)=false/\∃vs,KV kvs vs/\h.DictOf (By P w) a vs:=Aa4 ok (.inl e)
end
section
variable {X:Cx} {pins:Za1} {G:St} {H:Hp} {s:d4} {a:dk} {y v:V} {u r:d3} {o:Option V} {A:ir} {E:Za0}
theorem sI {ob:HO}(I:Inv X pins G H s)(mu:Mut (H a))(hs:vc a s.heap h')(he:∃q,h'.get? a=some q)(new:Ck X.prog X.w (upd H a ob) h' a ob) :
  Inv X pins G (upd H a ob) { s with heap:=h',toks:=t' }:=
 I.write (x:=a) (e:=a) mu (.inl rfl) (λb q hb z=>(hs.2 b hb).trans z) he new
theorem xE {P:fh}{kvs:List (Key×V)}{vs:List (Key×d3)}(z:kvs.length<=sizeLine)(hd:(a==sysModules)=false)(rel:KV kvs vs)(dd:h'.DictOf (By P w) a vs) :
  Ck P w H' h' a (.dK kvs):=⟨z,hd,vs,rel,dd⟩
end
end L2
end
section
namespace L2
open PySem PySem.Spec PyProof.Rows
variable {C CB CC CL Pt dx i1 i2 it l1 l2 z:dk} {params:l8} {A:ir} {op:vw} {X:Cx} {D:Go} {env:Env} {iter tg:ie} {fd:jk} {base h h':i8} {H H' H1 H2:Hp} {J:It} {pins:Za1} {fp:List dk} {kz ns:List Int} {l0:List fg} {cs ix:Za4} {N ps:Za6} {xs ys:List V} {us vs:Za3} {M:wo} {n t':Nat} {oT:Obj} {an od:Option dk} {lpos p pos pos2:Pos} {B:Prop} {scope:l6} {pl:Sem Bool} {s s2:d4} {sp:Sp} {qual:Str} {te:TE} {wi:TI} {y:V} {cdv ct doc oc pm:d3} {w:gp}
section
variable {X:Cx}
def zZ:R2:=λx y H Q=>∃d kvs k,x=.int k/\y=.ref d/\H d=some (.dK kvs)/\Q (.bl (Gk kvs (.inl k)).isSome) H
theorem nU:OpR X (compareOp .In) zZ:=by
 intro pins s G H x y v u Q I rx ry h;obtain⟨d,kvs,k,rfl,rfl,hd,q⟩:=h;cases ry;obtain⟨z,hs,vs,rel,dd⟩:=mK I.hok hd;refine wpAny_in_of (lL (k:=.inl k) rx) hs dd.mapOf ?_;refine⟨.bl _,H,I.tok _,?_,q⟩;rw[(rel.val (.inl k)).isSome_eq];rfl
theorem vA {Q:VK}{d:dk}{kvs:List (Key×V)}{k:Int}(hd:H d=some (.dK kvs))(q:Q (.bl (Gk kvs (.inl k)).isSome) H):zZ (.int k) (.ref d) H Q:=⟨d,kvs,k,rfl,rfl,hd,q⟩
def zM:R2:=λx y H Q=>∃d kvs k v,x=.ref d/\y=.int k/\H d=some (.dK kvs)/\Gk kvs (.inl k)=some v/\Q v H
theorem gO:IxR X zM:=by
 intro value Mi pins s G H x y v u Q I rx ry h hs;obtain⟨d,kvs,k,z,rfl,rfl,hd,hv,q⟩:=h;cases rx;obtain⟨_,_,vs,rel,dd⟩:=mK I.hok hd;obtain⟨w',hw,rw'⟩:=M5.some_of (v:=z) (o:=valueAt vs (.inl k)) (by rw[<-hv];exact rel.val (.inl k));exact DP dd.typeIs PySem.F.slot_dict_getitem.lookup (wpAny_getItem_of (lL (k:=.inl k) ry) dd.mapOf hw ⟨z,H,I.tok _,rw',q⟩) hs
theorem uP {Q:VK}{d:dk}{kvs:List (Key×V)}{k:Int}{v:V}(hd:H d=some (.dK kvs))(hv:Gk kvs (.inl k)=some v)(q:Q v H):zM (.ref d) (.int k) H Q:=⟨d,kvs,k,v,rfl,rfl,hd,hv,q⟩
def uO:Yc:=λo i v H Q=>∃d kvs k,o=.ref d/\i=.int k/\H d=some (.dK kvs)/\kvs.length<sizeLine/\Q (upd H d (.dK (Oa kvs (.inl k) v)))
theorem kB:sM X uO:=by
 intro pins s G H o i v ov iv u Q I ro ri rv h;obtain⟨d,kvs,k,rfl,rfl,hd,hl,q⟩:=h;cases ro;obtain⟨z,hm,vs,rel,dd⟩:=mK I.hok hd;have hz:vs.length<=sizeLine:=by rw[<-rel.length];exact z
 have hl:(Oa kvs (.inl k) v).length<=sizeLine:=by have:=O4 kvs (.inl k:Key) v;lia
 refine wpAny_setItem_pairs (hsz:=hz) (lL (k:=.inl k) ri) dd λh' dd' hs=>⟨_,?_,q⟩;have he:∃q,h'.get? d=some q:=let ⟨q,_,_,hq,_⟩:=dd';⟨q,hq⟩;exact sI I (by rw[hd];exact qe) hs he (xE hl hm (rel.put (.inl k) rv) dd')
theorem yN {d:dk}{kvs:List (Key×V)}{k:Int}{v:V}{R:Hp->Prop}(hd:H d=some (.dK kvs))(hl:kvs.length<sizeLine)(q:R (upd H d (.dK (Oa kvs (.inl k) v)))):uO (.ref d) (.int k) v H R:=⟨d,kvs,k,rfl,rfl,hd,hl,q⟩
end
structure kO (P:fh) (w:gp) (K:de) (mg:Za2) (base:i8) (name:Str) (C:dk) (k:Nat) (ps:Za6) (sp:Sp) (dvs:List V):Prop where
 ex:∃(f:dk) (fd:jk) (ds:Za3),Av P w K mg base (CXE P w) k f fd ps sp/\E6 K fd ps ds/\Au dvs ds/\Mk K C f/\mg name=some (.ref C)
section
variable {X:Cx} {k:Nat} {C:dk} {ps:Za6} {sp:Sp} {dvs:List V} {name m:Str} {p pos apos:Pos} {e o:ie} {es:List ie} {ta:TE} {t:TA} {E:XK}
theorem rQ (M:kO X.prog X.w X.K X.mg X.base name C k ps sp dvs)(hr:Ca (k+1) X.A)(hx:Jb (CXE X.prog X.w) X E)(ha:PA X (e::es) t)(hg:autoParam (Gl X name) QD)(hdb:autoParam ((name==("__debug__":Str))=false) QF)
  (he:autoParam (starEach (e::es) X.env=(false,eval e X.env)::starEach es X.env) QD)(hpl:autoParam ((backTo pos (starEach es X.env)).any (·.1)=false) QD):PE X (.Call (.Name name p) (e::es) [] pos) (gN C sp dvs E t):=by
 obtain⟨f,fd,ds,F,b,rd,M,hm⟩:=M.ex;exact fH M F hr hg hm b rd hx ha hdb he hpl
end
theorem Y6.bindsD {K:de}{x:Str}{st:jc}{T:dk}{kV v:d3}{o:Obj}{m:Nat}(hT:K.lookup T=some o)(hd:o.data=.seq #[v] n)(hm:ps.length=m+1)
  (h:∀(us:Za3),us.length=m->∃k,bindArgs (i9 x qual (Br st) (Bg st) (Af st) (.ref T) kV doc pm an cdv ct) ⟨us,[]⟩=seqItems? (.ref T) >>= k/\k (some #[v])=pure (ps.zip (us++[v]))):E6 K (i9 x qual (Br st) (Bg st) (Af st) (.ref T) kV doc pm an cdv ct) ps [v]:=by
 intro s us KX hl;obtain⟨k,h1,h2⟩:=h us (by rw[di,hm] at hl;exact wn hl);exact AK rfl (KX _ _ hT) hd h1 h2
end L2
end
section
namespace TW
section
variable {α:Type} (lt:α->α->Bool)
def mg:List α->List α->List α
 |[],ys=>ys
 |x::xs,[]=>x::xs
 |x::xs,y::ys=>if lt y x=true then y::mg (x::xs) ys else x::mg xs (y::ys)
termination_by xs ys=>xs.length+ys.length
theorem Dg (ys:List α):mg lt [] ys=ys:=by rw[mg]
theorem Bk (xs:List α):mg lt xs []=xs:=by cases xs<;>rw[mg]
theorem Fo (x y:α)(xs ys:List α):mg lt (x::xs) (y::ys)=if lt y x=true then y::mg lt (x::xs) ys else x::mg lt xs (y::ys):=by rw[mg]
theorem Pd {x y:α}{xs ys:List α}(h:lt y x=true):mg lt (x::xs) (y::ys)=y::mg lt (x::xs) ys:=by rw[Fo,if_pos h]
theorem Te {x y:α}{xs ys:List α}(h:lt y x=false):mg lt (x::xs) (y::ys)=x::mg lt xs (y::ys):=by rw[Fo,if_neg (by rw[h];decide)]
theorem D1 {ys:List α}:∀{as xs:List α},(∀a∈as,∀y∈ys,lt y a=false)->mg lt (as++xs) ys=as++mg lt xs ys
 |[],_,_=>rfl
 |a::as,xs,h=>by
  cases ys with
  |nil=>rw[Bk,Bk]
  |cons y ys=>
   rw[jz,Te lt (h a fi y fi),D1 λb hb=>h b (fb _ hb)];rfl
theorem C9 {xs:List α}:∀{bs ys:List α},(∀b∈bs,∀x∈xs,lt b x=true)->mg lt xs (bs++ys)=bs++mg lt xs ys
 |[],_,_=>rfl
 |b::bs,ys,h=>by
  cases xs with
  |nil=>rw[Dg,Dg]
  |cons x xs=>
   rw[jz,Pd lt (h b fi x fi),C9 λc hc=>h c (fb _ hc)];rfl
theorem K1 {as:List α}:∀(xs ys:List α),(∀a∈as,∀y∈ys,lt y a=true)->mg lt (xs++as) ys=mg lt xs ys++as
 |[],ys,h=>by
  have:=C9 lt (xs:=as) (bs:=ys) (ys:=[]) λb hb x hx=>h x hx b hb;rw[fw,Bk] at this;rw[jb,this,Dg]
 |x::xs,[],h=>by rw[Bk,Bk]
 |x::xs,y::ys,h=>by
  rw[jz,Fo,Fo];split
  ·have:=K1 (x::xs) ys λa ha z hz=>h a ha z (fb _ hz)
   rw[jz] at this;rw[this];rfl
  ·rw[K1 xs (y::ys) h]
   rfl
termination_by xs ys=>xs.length+ys.length
theorem K5 {bs:List α}:∀(xs ys:List α),(∀b∈bs,∀x∈xs,lt b x=false)->mg lt xs (ys++bs)=mg lt xs ys++bs
 |[],ys,h=>by rw[Dg,Dg]
 |x::xs,[],h=>by
  have:=D1 lt (ys:=bs) (as:=x::xs) (xs:=[]) λa ha y hy=>h y hy a ha;rw[fw,Dg] at this;rw[jb,this,Bk]
 |x::xs,y::ys,h=>by
  rw[jz,Fo,Fo];split
  ·rw[K5 (x::xs) ys h]
   rfl
  ·have:=K5 xs (y::ys) λb hb z hz=>h b hb z (fb _ hz)
   rw[jz] at this;rw[this];rfl
termination_by xs ys=>xs.length+ys.length
theorem Kz:∀(xs ys:List α),(mg lt xs ys).Perm (xs++ys)
 |[],ys=>by rw[Dg];exact xy _
 |x::xs,[]=>by rw[Bk,fw]
 |x::xs,y::ys=>by
  rw[Fo];split
  ·exact((Kz (x::xs) ys).cons y).trans List.perm_middle.symm
  ·exact(Kz xs (y::ys)).cons x
termination_by xs ys=>xs.length+ys.length
def Srt (l:List α):Prop:=l.Pairwise λa b=>lt b a=false
structure Swo:Prop where
 irr:∀a,lt a a=false
 tr:∀a b c,lt a b=true->lt b c=true->lt a c=true
 ng:∀a b c,lt a c=true->lt a b=true\/lt b c=true
variable {lt}
section
variable (o:Swo lt)
include o
theorem Swo.asy {a b:α}(h:lt a b=true):lt b a=false:=by
 cases e:lt b a with
 |false=>rfl
 |true=>have:=o.tr _ _ _ h e;rw[o.irr] at this;cases this
theorem Swo.le {a b c:α}(h1:lt b a=false)(h2:lt c b=false):lt c a=false:=by
 cases e:lt c a with
 |false=>rfl
 |true=>
  rcases o.ng c b a e with h|h
  ·rw[h2] at h;cases h
  ·rw[h1] at h;cases h
theorem Swo.ltle {a b c:α}(h1:lt a b=true)(h2:lt c b=false):lt a c=true:=by
 rcases o.ng a c b h1 with h|h
 ·exact h
 ·rw[h2] at h;cases h
theorem Swo.lelt {a b c:α}(h1:lt b a=false)(h2:lt b c=true):lt a c=true:=by
 rcases o.ng b a c h2 with h|h
 ·rw[h1] at h;cases h
 ·exact h
theorem Jl:∀a b c:List α,mg lt (mg lt a b) c=mg lt a (mg lt b c)
 |[],b,c=>by rw[Dg,Dg]
 |x::a,[],c=>by rw[Bk,Dg]
 |x::a,y::b,[]=>by rw[Bk,Bk]
 |x::a,y::b,z::c=>by
  cases h1:lt y x with
  |true=>
   cases h2:lt z y with
   |true=>
    have ih:=Jl (x::a) (y::b) c;rw[Pd lt h1] at ih ⊢;rw[Pd lt h2,Pd lt h2,Pd lt (o.tr _ _ _ h2 h1),ih]
   |false=>
    have ih:=Jl (x::a) b (z::c);rw[Pd lt h1,Te lt h2,Te lt h2,Pd lt h1,ih]
  |false=>
   cases h3:lt z x with
   |true=>
    have h2:lt z y=true:=by
     rcases o.ng z y x h3 with h|h
     ·exact h
     ·rw[h1] at h;cases h
    have ih:=Jl (x::a) (y::b) c;rw[Te lt h1] at ih ⊢;rw[Pd lt h3,Pd lt h2,Pd lt h3,ih]
   |false=>
    have ih:=Jl a (y::b) (z::c);rw[Te lt h1,Te lt h3,ih]
    cases h2:lt z y with
    |true=>rw[Pd lt h2,Te lt h3]
    |false=>rw[Te lt h2,Te lt h1]
termination_by a b c=>a.length+b.length+c.length
theorem Zt:∀{xs ys:List α},Srt lt xs->Srt lt ys->Srt lt (mg lt xs ys)
 |[],ys,_,h=>by rw[Dg];exact h
 |x::xs,[],h,_=>by rw[Bk];exact h
 |x::xs,y::ys,h1,h2=>by
  have a1:=qf.mp h1;have a2:=qf.mp h2;rw[Fo];split
  ·rename_i hl
   refine qf.mpr ⟨λz hz=>?_,Zt h1 a2.2⟩;rcases gj.mp ((Kz lt _ _).mem_iff.mp hz) with hz|hz
   ·rcases gt.mp hz with rfl|hz
    ·exact o.asy hl
    ·exact o.le (o.asy hl) (a1.1 z hz)
   ·exact a2.1 z hz
  ·rename_i hl
   have hl:lt y x=false:=by simpa using hl
   refine qf.mpr ⟨λz hz=>?_,Zt a1.2 h2⟩;rcases gj.mp ((Kz lt _ _).mem_iff.mp hz) with hz|hz
   ·exact a1.1 z hz
   ·rcases gt.mp hz with rfl|hz
    ·exact hl
    ·exact o.le hl (a2.1 z hz)
termination_by xs ys=>xs.length+ys.length
end
variable (lt)
def Aq (l:List α):List α:=l.foldl (λa x=>mg lt a [x]) []
theorem Ci (l:List α)(x:α):Aq lt (l++[x])=mg lt (Aq lt l) [x]:=by unfold Aq;rw[CV];rfl
theorem C0 (l:List α):(Aq lt l).Perm l:=by
 have key:∀(l a:List α),(l.foldl (λa x=>mg lt a [x]) a).Perm (a++l):=λl=>by
  induction l with
  |nil=>intro a;rw[fw];exact xy _
  |cons x l ih=>
   intro a;refine(ih _).trans ?_;refine((Kz lt a [x]).append_right l).trans ?_;rw[dq];exact xy _
 exact key l []
theorem Dc (l:List α):(Aq lt l).length=l.length:=(C0 lt l).length_eq
theorem Hr {P:List α->Prop}(h0:P [])(h1:∀l x,P l->P (l++[x]))(l:List α):P l:=by
 have key:∀n,∀l:List α,l.length=n->P l:=λn=>by
  induction n with
  |zero=>intro l h;rw[AE.mp h];exact h0
  |succ n ih=>
   intro l h;have hne:l≠[]:=λe=>by rw[e] at h;cases h
   rw[<-List.dropLast_concat_getLast hne];exact h1 _ _ (ih _ (by rw[BE];lia))
 exact key _ l rfl
variable {lt}
theorem Tp (o:Swo lt)(a:List α)(b:List α):Aq lt (a++b)=mg lt (Aq lt a) (Aq lt b):=by
 induction b using Hr with
 |h0=>rw[fw];exact(Bk lt _).symm
 |h1 l x ih=>rw[<-dq,Ci,Ci,ih,Jl o]
theorem K3 (o:Swo lt)(a:List α):Srt lt (Aq lt a):=by
 induction a using Hr with
 |h0=>exact rp
 |h1 l x ih=>rw[Ci];exact Zt o ih (qj _ _)
theorem Hg {a:List α}(h:Srt lt a):Aq lt a=a:=by
 induction a using Hr with
 |h0=>rfl
 |h1 l x ih=>
  have hp:=nh.mp h;rw[Ci,ih hp.1];have:=D1 lt (ys:=[x]) (as:=l) (xs:=[]) λa ha y hy=>by rw[ee.mp hy];exact hp.2.2 a ha x (ee.mpr rfl)
  rw[fw,Dg] at this;exact this
theorem Zk {β:Type}{lt':β->β->Bool}{f:α->β}(h:∀a b,lt' (f a) (f b)=lt a b):∀xs ys:List α,mg lt' (xs.map f) (ys.map f)=(mg lt xs ys).map f
 |[],ys=>by rw[Dg];exact Dg _ _
 |x::xs,[]=>by rw[Bk];exact Bk _ _
 |x::xs,y::ys=>by
  rw[ft,ft,Fo,Fo,h];split
  ·have:=Zk h (x::xs) ys
   rw[ft] at this;rw[this];rfl
  ·have:=Zk h xs (y::ys)
   rw[ft] at this;rw[this];rfl
termination_by xs ys=>xs.length+ys.length
theorem Hx {β:Type}{lt':β->β->Bool}{f:α->β}(h:∀a b,lt' (f a) (f b)=lt a b)(l:List α):Aq lt' (l.map f)=(Aq lt l).map f:=by
 induction l using Hr with
 |h0=>rfl
 |h1 l x ih=>
  rw[ed,ft,o7,Ci,Ci,ih];exact Zk h _ [x]
end
theorem Yr {α:Type}{R:α->α->Prop}{l:List α}(h:l.length<2):l.Pairwise R:=match l,h with
 |[],_=>rp
 |[x],_=>qj _ _
section
variable {α:Type} {lt:α->α->Bool}
theorem F6 {l:List α}{i:Nat}{x:α}(h:l[i]?=some x):l.drop i=x::l.drop (i+1):=by
 obtain⟨hl,e⟩:=d9.mp h;rw[pq hl,e]
theorem F4 {l:List α}{i:Nat}{x:α}(h:l[i]?=some x):l.take (i+1)=l.take i++[x]:=by rw[il,h];rfl
theorem vS {l:List α}(h:Srt lt l){i j:Nat}{x y:α}(hij:i<j)(hx:l[i]?=some x)(hy:l[j]?=some y):lt y x=false:=by
 obtain⟨h1,e1⟩:=d9.mp hx;obtain⟨h2,e2⟩:=d9.mp hy;have:=(ph.mp h) i j h1 h2 hij;rw[e1,e2] at this;exact this
theorem D5 (o:Swo lt){l:List α}(h:Srt lt l){i j:Nat}{x y:α}(hij:i<=j)(hx:l[i]?=some x)(hy:l[j]?=some y):lt y x=false:=by
 rcases CU hij with hl|hl
 ·exact vS h hl hx hy
 ·rw[hl,hy] at hx
  cases hx;exact o.irr _
theorem P5 {l:List α}{i:Nat}{x:α}(h:x∈l.drop i):∃j,i<=j/\l[j]?=some x:=by
 obtain⟨k,hk⟩:=ly h;rw[i7] at hk;exact⟨i+k,iq _ _,hk⟩
theorem Ib {l:List α}{i:Nat}{x:α}(h:x∈l.take i):∃j,j<i/\l[j]?=some x:=by
 obtain⟨k,hk⟩:=ly h;rw[jn] at hk;split at hk
 ·exact⟨k,by assumption,hk⟩
 ·cases hk
theorem Cz {l:List α}{i k:Nat}{x:α}(h:x∈(l.drop i).take k):∃j,j<k/\l[i+j]?=some x:=by
 obtain⟨j,hj,e⟩:=Ib h;rw[i7] at e;exact⟨j,hj,e⟩
theorem Ff (l:List α)(i k:Nat):l.drop i=(l.drop i).take k++l.drop (i+k):=by
 rw[<-ka,gu]
variable (o:Swo lt) {la lb out:List α} {ia ib:Nat}
def MI (lt:α->α->Bool)(la lb out:List α)(ia ib:Nat):Prop:=out++mg lt (la.drop ia) (lb.drop ib)=mg lt la lb
theorem MI.b {x y:α}(h:MI lt la lb out ia ib)(hx:la[ia]?=some x)(hy:lb[ib]?=some y)(hl:lt y x=true):MI lt la lb (out++[y]) ia (ib+1):=by
 unfold MI at h ⊢;rw[<-h,F6 hx,F6 hy,Pd lt hl,dq];rfl
theorem MI.a {x y:α}(h:MI lt la lb out ia ib)(hx:la[ia]?=some x)(hy:lb[ib]?=some y)(hl:lt y x=false):MI lt la lb (out++[x]) (ia+1) ib:=by
 unfold MI at h ⊢;rw[<-h,F6 hx,F6 hy,Te lt hl,dq];rfl
theorem MI.doneB (h:MI lt la lb out ia ib)(hb:lb.length<=ib):out++la.drop ia++lb.drop ib=mg lt la lb:=by
 unfold MI at h;rw[<-h,jo hb,Bk,fw]
theorem MI.doneA (h:MI lt la lb out ia ib)(hb:la.length<=ia):out++la.drop ia++lb.drop ib=mg lt la lb:=by
 unfold MI at h;rw[<-h,jo hb,Dg,fw]
theorem MI.lastA (h:MI lt la lb out ia ib){x:α}(hx:la[ia]?=some x)(he:la.length<=ia+1)(hl:∀y∈lb,lt y x=true):out++lb.drop ib++la.drop ia=mg lt la lb:=by
 unfold MI at h;have e:=C9 lt (xs:=la.drop ia) (bs:=lb.drop ib) (ys:=[]) λb hb z hz=>by
  rw[F6 hx,jo he] at hz;rw[ee.mp hz];exact hl b (ni hb)
 rw[fw,Bk] at e;rw[<-h,e,dq]
include o in
theorem MI.as (h:MI lt la lb out ia ib)(sb:Srt lt lb){k:Nat}{y:α}(hy:lb[ib]?=some y)(hk:∀i x,i<k->la[ia+i]?=some x->lt y x=false):MI lt la lb (out++(la.drop ia).take k) (ia+k) ib:=by
 unfold MI at h ⊢;rw[<-h]
 conv=>rhs;rw[Ff la ia k]
 rw[D1 lt λa ha z hz=>?_,dq];obtain⟨i,hi,e⟩:=Cz ha;obtain⟨j,hj,e2⟩:=P5 hz;exact o.le (hk i a hi e) (D5 o sb hj hy e2)
include o in
theorem MI.bs (h:MI lt la lb out ia ib)(sa:Srt lt la){k:Nat}{x:α}(hx:la[ia]?=some x)(hk:∀i y,i<k->lb[ib+i]?=some y->lt y x=true):MI lt la lb (out++(lb.drop ib).take k) ia (ib+k):=by
 unfold MI at h ⊢;rw[<-h]
 conv=>rhs;rw[Ff lb ib k]
 rw[C9 lt λb hb z hz=>?_,dq];obtain⟨i,hi,e⟩:=Cz hb;obtain⟨j,hj,e2⟩:=P5 hz;exact o.ltle (hk i b hi e) (D5 o sa hj hx e2)
variable {na nb:Nat}
def MH (lt:α->α->Bool)(la lb out:List α)(na nb:Nat):Prop:=mg lt (la.take na) (lb.take nb)++out.reverse=mg lt la lb
theorem Ek (l:List α){c n:Nat}(h:c<=n):l.take n=l.take c++(l.drop c).take (n-c):=by
 rw[show n=c+(n-c) by lia,uf];congr 2;lia
include o in
theorem MH.as (h:MH lt la lb out na nb)(sb:Srt lt lb){c:Nat}{y:α}(hc:c<=na)(hn:0<nb)(hy:lb[nb-1]?=some y)(hk:∀i x,c<=i->i<na->la[i]?=some x->lt y x=true):MH lt la lb (out++((la.drop c).take (na-c)).reverse) c nb:=by
 unfold MH at h ⊢;rw[<-h,Ek la hc,K1 lt _ _ λa ha z hz=>?_,nv,mz,dq];obtain⟨i,hi,e⟩:=Cz ha;obtain⟨j,hj,e2⟩:=Ib hz;exact o.lelt (D5 o sb (show j<=nb-1 by lia) e2 hy) (hk (c+i) a (by lia) (by lia) e)
include o in
theorem MH.bs (h:MH lt la lb out na nb)(sa:Srt lt la){c:Nat}{x:α}(hc:c<=nb)(hn:0<na)(hx:la[na-1]?=some x)(hk:∀i y,c<=i->i<nb->lb[i]?=some y->lt y x=false):MH lt la lb (out++((lb.drop c).take (nb-c)).reverse) na c:=by
 unfold MH at h ⊢;rw[<-h,Ek lb hc,K5 lt _ _ λb hb z hz=>?_,nv,mz,dq];obtain⟨i,hi,e⟩:=Cz hb;obtain⟨j,hj,e2⟩:=Ib hz;exact o.le (D5 o sa (show j<=na-1 by lia) e2 hx) (hk (c+i) b (by lia) (by lia) e)
theorem O0 {l:List α}{c n:Nat}{x:α}(hn:n=c+1)(h:l[c]?=some x):((l.drop c).take (n-c)).reverse=[x]:=by
 rw[hn,show c+1-c=1 by lia,F6 h];rfl
include o in
theorem MH.a {x y:α}(h:MH lt la lb out na nb)(sb:Srt lt lb)(hna:0<na)(hnb:0<nb)(hx:la[na-1]?=some x)(hy:lb[nb-1]?=some y)(hl:lt y x=true):MH lt la lb (out++[x]) (na-1) nb:=by
 have:=h.as o sb (c:=na-1) (by lia) hnb hy λi z h1 h2 e=>by
  have:i=na-1:=by lia
  rw[this,hx] at e;cases e;exact hl
 rw[O0 (by lia) hx] at this;exact this
include o in
theorem MH.b {x y:α}(h:MH lt la lb out na nb)(sa:Srt lt la)(hna:0<na)(hnb:0<nb)(hx:la[na-1]?=some x)(hy:lb[nb-1]?=some y)(hl:lt y x=false):MH lt la lb (out++[y]) na (nb-1):=by
 have:=h.bs o sa (c:=nb-1) (by lia) hna hx λi z h1 h2 e=>by
  have:i=nb-1:=by lia
  rw[this,hy] at e;cases e;exact hl
 rw[O0 (by lia) hy] at this;exact this
theorem MH.doneA (h:MH lt la lb out 0 nb):la.take 0++lb.take nb++out.reverse=mg lt la lb:=by
 unfold MH at h;rw[<-h,mf,Dg,jb]
theorem MH.doneB (h:MH lt la lb out na 0):la.take na++lb.take 0++out.reverse=mg lt la lb:=by
 unfold MH at h;rw[<-h,mf,Bk,fw]
theorem MH.firstB (h:MH lt la lb out na 1){y:α}(hy:lb[0]?=some y)(hl:∀x∈la,lt y x=true):lb.take 1++la.take na++out.reverse=mg lt la lb:=by
 unfold MH at h;have e:=C9 lt (xs:=la.take na) (bs:=lb.take 1) (ys:=[]) λb hb z hz=>by
  rw[F4 hy,mf,jb] at hb;rw[ee.mp hb];exact hl z (jv hz)
 rw[fw,Bk] at e;rw[<-h,e]
end
end TW
end
section
namespace L2
open PySem PySem.Spec PyProof.Rows
variable {C CB CC CL Pt dx i1 i2 it l1 l2 z:dk} {params:l8} {A:ir} {op:vw} {X:Cx} {D:Go} {env:Env} {iter tg:ie} {fd:jk} {base h h':i8} {H H' H1 H2:Hp} {J:It} {pins:Za1} {fp:List dk} {kz ns:List Int} {l0:List fg} {cs ix:Za4} {N ps:Za6} {xs ys:List V} {us vs:Za3} {M:wo} {n t':Nat} {oT:Obj} {an od:Option dk} {lpos p pos pos2:Pos} {B:Prop} {scope:l6} {pl:Sem Bool} {s s2:d4} {sp:Sp} {qual:Str} {te:TE} {wi:TI} {y:V} {cdv ct doc oc pm:d3} {w:gp}
def qZ:Bool->fg->Array fg->Nat->Nat->Nat->StateT i5 Sem (Option Nat):=sortPriv% PySem.Builtin.gallop
def tH (left:Bool)(key:fg)(arr:Array fg)(base i:Nat):StateT i5 Sem (Option Bool):=do
 let x <-elem' arr (base+i)
 if left=true then lt' x key else do
  let r <-lt' key x
  pure (r.map λx=>!x)
section
variable {prog:fh} {w:gp} {A:ir} {E:Za0} {s:d4}
def Zp (prog:fh)(w:gp)(A:ir)(E:Za0)(s:d4)(kd:rh)(P:fg->Prop)(blt:fg->fg->Bool):Prop:=
 ∀(x y:fg) (st:i5) (Q:Option Bool->i5->Prop),P x->P y->kindOf st=kd->Q (some (blt x y)) st->wpS (model prog w) A E s (lt' x y) Q st
theorem A9 {arr:Array fg}{i:Nat}{p:fg}{st:i5}{Q:fg->i5->Prop}(e:arr[i]?=some p)(h:Q p st):wpS (model prog w) A E s (elem' arr i) Q st:=by
 rw[elem'_eq,e];exact fe h
theorem Ax {α:Type}{c:Prop}[Decidable c]{x y:StateT i5 Sem α}{Q:α->i5->Prop}{st:i5}(h:c)(k:wpS (model prog w) A E s x Q st):wpS (model prog w) A E s (if c then x else y) Q st:=by rw[if_pos h];exact k
theorem Ay {α:Type}{c:Prop}[Decidable c]{x y:StateT i5 Sem α}{Q:α->i5->Prop}{st:i5}(h:¬ c)(k:wpS (model prog w) A E s y Q st):wpS (model prog w) A E s (if c then x else y) Q st:=by rw[if_neg h];exact k
variable {kd:rh} {P:fg->Prop} {blt:fg->fg->Bool} (L:Zp prog w A E s kd P blt)
include L
def Yy (blt:fg->fg->Bool)(left:Bool)(key x:fg):Bool:=if left=true then blt x key else !(blt key x)
theorem sF {left:Bool}{key x:fg}{arr:Array fg}{base i:Nat}{st:i5}{Q:Option Bool->i5->Prop}(hk:kindOf st=kd)(hP:P key)(hx:arr[base+i]?=some x)(hPx:P x)(h:Q (some (Yy blt left key x)) st) :
  wpS (model prog w) A E s (tH left key arr base i) Q st:=by
 unfold tH;refine ei (A9 hx ?_)
 cases left with
 |true=>exact L _ _ _ _ hPx hP hk h
 |false=>exact ei (L _ _ _ _ hP hPx hk (fe h))
theorem Fd {left:Bool}{key:fg}{arr:Array fg}{base hint:Nat}{bey:Nat->Bool}{st:i5}{Q:Option Nat->i5->Prop}(hk:kindOf st=kd)(hP:P key)(hh:hint<n)
    (hb : ∀ i, i < n->∃ x, arr[base + i]? = some x/\P x/\Yy blt left key x = bey i)(mono : ∀ i j, i <= j->j < n->bey j = true->bey i = true)
    (h : ∀ c, c <= n->(∀ i, i < c->bey i = true)->(∀ i, c <= i->i < n->bey i = false)->Q (some c) st) : wpS (model prog w) A E s (qZ left key arr base n hint) Q st := by
  have hB : ∀ (i : Nat) (R : Option Bool->i5->Prop), i < n->R (some (bey i)) st->wpS (model prog w) A E s (tH left key arr base i) R st := λi R hi r => by
    obtain ⟨x, e1, e2, e3⟩ := hb i hi;exact sF L hk hP e1 e2 (by rw [e3]; exact r)
  have monoF : ∀ i j, i <= j->j < n->bey i = false->bey j = false := λi j h1 h2 h3 => by
    cases e : bey j with
    | false => rfl
    | true => rw [mono i j h1 h2 e] at h3; cases h3
  refine ei (hB hint _ hh ?_);dsimp only
  -- the last part: halving
  have last : ∀ (lo hi : Nat) (F : Nat->Option (Option Nat) × Nat × Nat->StateT i5 Sem (ForInStep (Option (Option Nat) × Nat × Nat))),
      (∀ x lo hi, F x (none, lo, hi) = if lo >= hi then pure (qc (none, lo, hi)) else do
        let r <- tH left key arr base (lo + (hi - lo) / 2)
        match r with
        | some more => if more = true then pure (pe (none, lo + (hi - lo) / 2 + 1, hi)) else pure (pe (none, lo, lo + (hi - lo) / 2))
        | x => pure (qc (some none, lo, hi))) ->
      lo <= hi->hi <= n->(∀ i, i < lo->bey i = true)->(∀ i, hi <= i->i < n->bey i = false) ->
      wpS (model prog w) A E s (forIn [:n] (none, lo, hi) F) (λr st' => r.1 = none/\st' = st/\r.2.2 <= n/\(∀ i, i < r.2.2->bey i = true)/\(∀ i, r.2.2 <= i->i < n->bey i = false)) st := by
    intro lo hi F hF hle hin h1 h2;refine wpS_forRange (I := λx c st' => ∃ lo hi, c = (none, lo, hi)/\st' = st/\lo <= hi/\hi <= n/\hi - lo + x <= n/\(∀ i, i < lo->bey i = true)/\(∀ i, hi <= i->i < n->bey i = false)) ?_ ?_ ⟨lo, hi, rfl, rfl, hle, hin, by lia, h1, h2⟩
    · rintro x c st' _ hx ⟨lo, hi, rfl, rfl, hle, hin, hd, h1, h2⟩
      rw [hF]
      by_cases hge : lo >= hi
      · rw [if_pos hge]
        exact fe ⟨rfl, rfl, hin, λi hi' => h1 i (by dsimp only at hi'; lia), h2⟩
      · rw [if_neg hge]
        have ht : lo + (hi - lo) / 2 < hi := by lia
        generalize (hi - lo) / 2 = t at *;refine ei (hB _ _ (ef ht hin) ?_);dsimp only
        cases e : bey (lo + t) with
        | true =>
          rw [if_pos rfl];exact fe ⟨_, _, rfl, rfl, by lia, hin, by lia, λi hi' => mono i _ (by lia) (by lia) e, h2⟩
        | false =>
          rw [if_neg (by decide)];exact fe ⟨_, _, rfl, rfl, by lia, by lia, by lia, h1, λi hi1 hi2 => monoF _ i hi1 hi2 e⟩
    · rintro c st' ⟨lo, hi, rfl, rfl, hle, hin, hd, h1, h2⟩
      have : max 0 n = n := by lia
      rw [this] at hd;exact ⟨rfl, rfl, hin, λi hi' => h1 i (by dsimp only at hi'; lia), h2⟩
  cases e0 : bey hint with
  | true =>
    rw [if_pos rfl];refine ei (me (wpS_forRange (I := λx c st' => ∃ lo of, c = (none, lo, of)/\st' = st/\lo < of/\x + 1 <= of/\lo < n - hint/\bey (hint + lo) = true)
      (Q := λc st' => ∃ lo of, c = (none, lo, of)/\st' = st/\lo < of/\lo < n - hint/\bey (hint + lo) = true/\(n - hint <= of\/(of < n - hint/\bey (hint + of) = false))) ?_ ?_ ⟨0, 1, rfl, rfl, by lia, by lia, by lia, e0⟩) ?_)
    · rintro x c st' _ hx ⟨lo, of, rfl, rfl, h1, h2, h3, h4⟩
      dsimp only
      by_cases hge : of >= n - hint
      · rw [if_pos hge]
        exact fe ⟨lo, of, rfl, rfl, h1, h3, h4, .inl hge⟩
      · rw [if_neg hge]
        refine ei (hB _ _ (by lia) ?_);dsimp only
        cases e : bey (hint + of) with
        | true => exact fe ⟨of, 2 * of + 1, rfl, rfl, by lia, by lia, by lia, e⟩
        | false => exact fe ⟨lo, of, rfl, rfl, h1, h3, h4, .inr ⟨by lia, e⟩⟩
    · rintro c st' ⟨lo, of, rfl, rfl, h1, h2, h3, h4⟩
      exact ⟨lo, of, rfl, rfl, h1, h3, h4, .inl (by have : max 0 n = n := by lia
                                                    lia)⟩
    · rintro c st' ⟨lo, of, rfl, rfl, h1, h3, h4, h5⟩
      dsimp only;refine ei (me (last _ _ _ (λx lo hi => rfl) ?_ ?_ ?_ ?_) ?_)
      · exact ww (Nat.le_min.mpr ⟨h1, h3⟩) hint
      · exact fq (ww (uu _ _) hint) (ku (sk (ig hh)))
      · intro i hi
        exact mono i (hint + lo) (by lia) (by lia) h4
      · intro i hi1 hi2
        rcases h5 with h5 | ⟨h5, h6⟩
        · lia
        · exact monoF (hint + of) i (by lia) hi2 h6
      · rintro ⟨r, lo2, hi2⟩ st' ⟨e1, e2, e3, e4, e5⟩
        dsimp only at e1 e2 e3 e4 e5;subst e1 e2;exact fe (h hi2 e3 e4 e5)
  | false =>
    rw [if_neg (by decide)];refine ei (me (wpS_forRange (I := λx c st' => ∃ lo of, c = (none, lo, of)/\st' = st/\lo < of/\x + 1 <= of/\lo < hint + 1/\bey (hint - lo) = false)
      (Q := λc st' => ∃ lo of, c = (none, lo, of)/\st' = st/\lo < of/\lo < hint + 1/\bey (hint - lo) = false/\(hint + 1 <= of\/(of < hint + 1/\bey (hint - of) = true))) ?_ ?_ ⟨0, 1, rfl, rfl, by lia, by lia, by lia, e0⟩) ?_)
    · rintro x c st' _ hx ⟨lo, of, rfl, rfl, h1, h2, h3, h4⟩
      dsimp only
      by_cases hge : of >= hint + 1
      · rw [if_pos hge]
        exact fe ⟨lo, of, rfl, rfl, h1, h3, h4, .inl hge⟩
      · rw [if_neg hge]
        refine ei (hB _ _ (by lia) ?_);dsimp only
        cases e : bey (hint - of) with
        | true => exact fe ⟨lo, of, rfl, rfl, h1, h3, h4, .inr ⟨by lia, e⟩⟩
        | false => exact fe ⟨of, 2 * of + 1, rfl, rfl, by lia, by lia, by lia, e⟩
    · rintro c st' ⟨lo, of, rfl, rfl, h1, h2, h3, h4⟩
      exact ⟨lo, of, rfl, rfl, h1, h3, h4, .inl (by have : max 0 n = n := by lia
                                                    lia)⟩
    · rintro c st' ⟨lo, of, rfl, rfl, h1, h3, h4, h5⟩
      dsimp only;refine ei (me (last _ _ _ (λx lo hi => rfl) ?_ ?_ ?_ ?_) ?_)
      · rcases Nat.le_total of (hint + 1) with z | z
        · rw [iz z]
          exact fq (Nat.sub_le_sub_left h1 (hint + 1)) (ku (Nat.succ_sub_succ hint lo))
        · rw [uv z, jd]
          exact f7 _
      · lia
      · intro i hi
        rcases h5 with h5 | ⟨h5, h6⟩
        · lia
        · exact mono i (hint - of) (by lia) (by lia) h6
      · intro i hi1 hi2
        exact monoF (hint - lo) i (by lia) hi2 h4
      · rintro ⟨r, lo2, hi2⟩ st' ⟨e1, e2, e3, e4, e5⟩
        dsimp only at e1 e2 e3 e4 e5;subst e1 e2;exact fe (h hi2 e3 e4 e5)
end
open TW
structure Aa0 (S:Prop):Prop where
 h:S
theorem Gm {c S T:Prop}[Decidable c](h1:Aa0 S->c->T)(h2:Aa0 S->¬ c->T)(h:S):T:=(JB c).elim (h1 ⟨h⟩) (h2 ⟨h⟩)
def jT:Array fg->Array fg->StateT i5 Sem (Array fg):=sortPriv% PySem.Builtin.mergeLo
abbrev L9 (st:i5)(g:Nat):i5:=si (kindOf st) (arrOf st) (pendingOf st) g (failedOf st)
theorem Gy (out:Array fg)(x:fg):(out.push x).toList=out.toList++[x]:=CH ..
theorem jY (out a:Array fg)(i k:Nat):(out++a.extract i (i+k)).toList=out.toList++(a.toList.drop i).take k:=by
 rw[gv,oz,mq];congr 2;lia
theorem K2 (a:Array fg)(i:Nat):(a.extract i a.size).toList=a.toList.drop i:=by
 rw[oz,mq,fc (by rw[io,eh];exact dh _)]
theorem A6 {a:Array fg}{i:Nat}{x:fg}(h:a[i]?=some x):a.toList[i]?=some x:=by rw[en];exact h
theorem A7 {a:Array fg}{i:Nat}(h:i<a.size):∃x,a[i]?=some x:=⟨_,k8 h⟩
section
variable {prog:fh} {w:gp} {A:ir} {E:Za0} {s:d4}
theorem Mg {g:Nat}{st:i5}{Q:Unit->i5->Prop}(h:Q () (L9 st g)):wpS (model prog w) A E s ((sortPriv% PySem.Builtin.setMinGallop) g) Q st:=ug h
variable {kd:rh} {P:fg->Prop} {blt:fg->fg->Bool} (L:Zp prog w A E s kd P blt) (o:Swo blt)
include L o
theorem X3 {a b:Array fg}{st:i5}{Q:Array fg->i5->Prop}(hk:kindOf st=kd)(ha:0<a.size)(hb:0<b.size)(pa:∀x∈a.toList,P x)(pb:∀x∈b.toList,P x)(sa:Srt blt a.toList)(sb:Srt blt b.toList)
  (hf:∀x y,a[0]?=some x->b[0]?=some y->blt y x=true)(hl:∀x,a[a.size-1]?=some x->∀y∈b.toList,blt y x=true)
  (h:∀r g,r.toList=mg blt a.toList b.toList->Q r (L9 st g)):wpS (model prog w) A E s (jT a b) Q st:=by
 have la:a.toList.length=a.size:=eh;have lb:b.toList.length=b.size:=eh;have PA:∀{i x},a[i]?=some x->P x:=λe=>pa _ (d5 (A6 e));have PB:∀{i x},b[i]?=some x->P x:=λe=>pb _ (d5 (A6 e));obtain⟨b0,eb0⟩:=A7 hb;obtain⟨a0,ea0⟩:=A7 ha;have h0:MI blt a.toList b.toList [b0] 0 1:=(show MI blt a.toList b.toList [] 0 0 from rfl).b (A6 ea0) (A6 eb0) (hf _ _ ea0 eb0);have fin1:∀{out:Array fg} {ia ib:Nat},MI blt a.toList b.toList out.toList ia ib->b.size<=ib->(out++a.extract ia a.size++b.extract ib b.size).toList=mg blt a.toList b.toList:=λm e=>by
  rw[gv,gv,K2,K2];exact m.doneB (by rw[lb];exact e)
 have fin2:∀{out:Array fg} {ia ib:Nat},MI blt a.toList b.toList out.toList ia ib->a.size<=ia->(out++a.extract ia a.size++b.extract ib b.size).toList=mg blt a.toList b.toList:=λm e=>by
  rw[gv,gv,K2,K2];exact m.doneA (by rw[la];exact e)
 have fin3:∀{out:Array fg} {ia ib:Nat},MI blt a.toList b.toList out.toList ia ib->ia+1=a.size->(out++b.extract ib b.size++a.extract ia a.size).toList=mg blt a.toList b.toList:=λ{out ia ib} m e=>by
  obtain⟨x,ex⟩:=A7 (show ia<a.size by lia);rw[gv,gv,K2,K2];exact m.lastA (A6 ex) (by rw[la];lia) (hl x (by rw[<-e];exact ex))
 refine ei (xc (ou ⟨rfl,?_⟩));refine ei (A9 eb0 ?_)
 by_cases c1:(1==b.size)=true
 ·refine Ax c1 ?_
  exact fe (h _ (gallopOf st) (fin1 (out:=#[b0]) h0 (by rw[beq_iff_eq] at c1;lia)))
 refine Ay c1 ?_
 by_cases c2:(0+1==a.size)=true
 ·refine Ax c2 ?_
  exact fe (h _ (gallopOf st) (fin3 (out:=#[b0]) h0 (by rw[beq_iff_eq] at c2;lia)))
 refine Ay c2 ?_;rw[beq_iff_eq] at c1 c2;refine ei (tu ?_);refine ei (me (wpS_forRange
  (I:=λx c st'=>∃(out:Array fg) (ia ib g g':Nat),c=(none,out,ia,ib,g)/\st'=L9 st g'/\MI blt a.toList b.toList out.toList ia ib/\ia+1<a.size/\ib<b.size/\x<=ia+ib)
  (Q:=λc st'=>∃(r:Array fg) (g':Nat),c.1=some r/\st'=L9 st g'/\r.toList=mg blt a.toList b.toList) ?_ ?_ ⟨#[b0],0,1,_,gallopOf st,rfl,rfl,h0,by lia,by lia,f7 _⟩) ?_)
 ·rintro x c st' _ hx ⟨out,ia,ib,g,g',rfl,rfl,m,hia,hib,hpr⟩
  try dsimp only
  refine ei (me (wpS_forRange
   (I:=λy c st'=>∃(out:Array fg) (ia' ib' ac bc:Nat),c=(none,out,ia',ib',ac,bc)/\st'=L9 st g'/\MI blt a.toList b.toList out.toList ia' ib'/\ia'+1<a.size/\ib'<b.size/\y+(ia+ib)<=ia'+ib')
   (Q:=λc st'=>st'=L9 st g'/\((∃r:Array fg,∃cc,c=(some r,cc)/\r.toList=mg blt a.toList b.toList)\/∃(out:Array fg) (ia' ib' ac bc:Nat),c=(none,out,ia',ib',ac,bc)/\MI blt a.toList b.toList out.toList ia' ib'/\ia'+1<a.size/\ib'<b.size/\ia+ib+1<=ia'+ib')) ?_ ?_ ⟨out,ia,ib,0,0,rfl,rfl,m,hia,hib,by lia⟩) ?_)
  ·rintro y c st' _ hy ⟨out,ia,ib,ac,bc,rfl,rfl,m,hia,hib,hpr⟩
   try dsimp only
   obtain⟨xa,ea⟩:=A7 (show ia<a.size by lia);obtain⟨xb,eb⟩:=A7 hib;refine ei (A9 eb (ei (A9 ea (ei (L _ _ _ _ (PB eb) (PA ea) hk ?_)))))
   cases hlt:blt xb xa with
   |true=>
    refine Ax rfl ?_;refine ei (A9 eb ?_);have m':MI blt a.toList b.toList (out.push xb).toList ia (ib+1):=by rw[Gy];exact m.b (A6 ea) (A6 eb) hlt
    by_cases c3:(ib+1==b.size)=true
    ·refine Ax c3 ?_
     exact fe ⟨rfl,.inl ⟨_,_,rfl,fin1 m' (by rw[beq_iff_eq] at c3;lia)⟩⟩
    ·refine Ay c3 ?_
     rw[beq_iff_eq] at c3
     by_cases c4:bc+1>=g
     ·refine Ax c4 ?_
      exact fe ⟨rfl,.inr ⟨_,_,_,_,_,rfl,m',hia,by lia,by lia⟩⟩
     ·refine Ay c4 ?_
      exact fe ⟨_,_,_,_,_,rfl,rfl,m',hia,by lia,by lia⟩
   |false=>
    refine Ay (by decide) ?_;refine ei (A9 ea ?_);have m':MI blt a.toList b.toList (out.push xa).toList (ia+1) ib:=by rw[Gy];exact m.a (A6 ea) (A6 eb) hlt
    by_cases c3:(ia+1+1==a.size)=true
    ·refine Ax c3 ?_
     exact fe ⟨rfl,.inl ⟨_,_,rfl,fin3 m' (by rw[beq_iff_eq] at c3;lia)⟩⟩
    ·refine Ay c3 ?_
     rw[beq_iff_eq] at c3
     by_cases c4:ac+1>=g
     ·refine Ax c4 ?_
      exact fe ⟨rfl,.inr ⟨_,_,_,_,_,rfl,m',by lia,hib,by lia⟩⟩
     ·refine Ay c4 ?_
      exact fe ⟨_,_,_,_,_,rfl,rfl,m',by lia,hib,by lia⟩
  ·rintro c st' ⟨out,ia',ib',ac,bc,rfl,rfl,m,hia',hib',hpr'⟩
   exfalso;have:max 0 (a.size+b.size)=a.size+b.size:=by lia
   lia
  ·rintro c st' ⟨rfl,⟨r,cc,rfl,hr⟩|⟨out,ia1,ib1,ac,bc,rfl,m1,hia1,hib1,hpr1⟩⟩
   ·dsimp only
    exact fe ⟨r,g',rfl,rfl,hr⟩
   ·dsimp only
    refine ei (xc (ou ⟨rfl,?_⟩));refine ei (me (wpS_forRange
     (I:=λy c st'=>∃(out:Array fg) (ia' ib' mg' ac bc g2:Nat),c=(none,out,ia',ib',mg',ac,bc)/\st'=L9 st g2/\MI blt a.toList b.toList out.toList ia' ib'/\ia'+1<a.size/\ib'<b.size/\y+(ia1+ib1)<=ia'+ib')
     (Q:=λc st'=>∃g2,st'=L9 st g2/\((∃r:Array fg,∃cc,c=(some r,cc)/\r.toList=mg blt a.toList b.toList)\/∃(out:Array fg) (ia' ib' mg' ac bc:Nat),c=(none,out,ia',ib',mg',ac,bc)/\MI blt a.toList b.toList out.toList ia' ib'/\ia'+1<a.size/\ib'<b.size/\ia1+ib1<=ia'+ib')) ?_ ?_ ⟨out,ia1,ib1,_,ac,bc,g',rfl,rfl,m1,hia1,hib1,by lia⟩) ?_)
    ·rintro y c st' _ hy ⟨out,ia,ib,mg',ac,bc,g2,rfl,rfl,m,hia,hib,hpr⟩
     try dsimp only
     obtain⟨xb,eb⟩:=A7 hib;apply Gm (c:=mg'>1)
     case h1=>
      intro key cg;refine Ax cg ?_;generalize mg'-1=mg2
      revert mg2
      exact key.h
     case h2=>
      intro key cg;refine Ay cg ?_;generalize mg'=mg2
      revert mg2
      exact key.h
     case h=>
      intro mg2;refine ei (Mg (ei (A9 eb ?_)));have gb:∀i,i<a.size-ia->∃x,a[ia+i]?=some x/\P x/\Yy blt false xb x=(λi=>match a[ia+i]? with|some x=>!(blt xb x)|none=>false) i:=λi hi=>by
       obtain⟨x,ex⟩:=A7 (show ia+i<a.size by lia);exact⟨x,ex,PA ex,by dsimp only;rw[ex];rfl⟩
      have gm:∀i j,i<=j->j<a.size-ia->(λi=>match a[ia+i]? with|some x=>!(blt xb x)|none=>false) j=true->(λi=>match a[ia+i]? with|some x=>!(blt xb x)|none=>false) i=true:=λi j hij hj e=>by
       obtain⟨x,ex⟩:=A7 (show ia+i<a.size by lia);obtain⟨z,ez⟩:=A7 (show ia+j<a.size by lia)
       try dsimp only at e ⊢
       rw[ex];rw[ez] at e
       try dsimp only at e ⊢
       cases e1:blt xb x with
       |false=>rfl
       |true=>
        have:=o.ltle e1 (D5 o sa (show ia+i<=ia+j by lia) (A6 ex) (A6 ez));rw[this] at e;cases e
      refine ei (Fd L hk (PB eb) (show 0<a.size-ia by lia) gb gm (λc hc1 hc2 hc3=>?_));have hA1:∀i x,i<c->a.toList[ia+i]?=some x->blt xb x=false:=λi x hi ex=>by
       rw[en] at ex;have:=hc2 i hi
       try dsimp only at this
       rw[ex] at this
       simpa using this
      have hA2:∀i x,c<=i->a[ia+i]?=some x->blt xb x=true:=λi x hi ex=>by
       have hl:=(o0.mp ex).1;have:=hc3 i hi (by lia)
       try dsimp only at this
       rw[ex] at this
       simpa using this
      have m2:MI blt a.toList b.toList (out++a.extract ia (ia+c)).toList (ia+c) ib:=by rw[jY];exact m.as o sb (A6 eb) hA1
      try dsimp only
      apply Gm (c:=c>0)
      case h1=>
       intro key hc0;refine Ax hc0 ?_
       by_cases c5:(ia+c+1==a.size)=true
       ·refine Ax c5 ?_
        exact fe ⟨_,rfl,.inl ⟨_,_,rfl,fin3 m2 (by rw[beq_iff_eq] at c5;lia)⟩⟩
       refine Ay c5 ?_
       by_cases c6:(ia+c==a.size)=true
       ·refine Ax c6 ?_
        exact fe ⟨_,rfl,.inl ⟨_,_,rfl,fin2 m2 (by rw[beq_iff_eq] at c6;lia)⟩⟩
       refine Ay c6 ?_;rw[beq_iff_eq] at c5 c6;have hi2:ia+c+1<a.size:=by lia
       have hA3:∀x,a[ia+c]?=some x->blt xb x=true:=λx ex=>hA2 c x (dh _) ex;have hp2:y+(ia1+ib1)<=ia+c+ib:=by lia
       have m2:=m2
       revert hp2 hA3 hi2 m2
       generalize out++a.extract ia (ia+c)=out2;generalize ia+c=ia2
       revert ia2 out2
       exact key.h
      case h2=>
       intro key hc0;refine Ay hc0 ?_;have e0:c=0:=by lia
       have hi2:ia+1<a.size:=by lia
       have hA3:∀x,a[ia]?=some x->blt xb x=true:=λx ex=>hA2 0 x (by lia) ex;have hp2:y+(ia1+ib1)<=ia+ib:=by lia
       clear m2;have m2:=m
       revert hp2 hA3 hi2 m2
       generalize out=out2;generalize ia=ia2
       revert ia2 out2
       exact key.h
      case h=>
       intro out2 ia2 hi2 hA3 hp2 m2;obtain⟨xa,ea⟩:=A7 (show ia2<a.size by lia);refine ei (A9 eb ?_);have m3:MI blt a.toList b.toList (out2.push xb).toList ia2 (ib+1):=by rw[Gy];exact m2.b (A6 ea) (A6 eb) (hA3 xa ea)
       by_cases c7:(ib+1==b.size)=true
       ·refine Ax c7 ?_
        exact fe ⟨_,rfl,.inl ⟨_,_,rfl,fin1 m3 (by rw[beq_iff_eq] at c7;lia)⟩⟩
       refine Ay c7 ?_;rw[beq_iff_eq] at c7;refine ei (A9 ea ?_);have gb:∀i,i<b.size-(ib+1)->∃x,b[ib+1+i]?=some x/\P x/\Yy blt true xa x=(λi=>match b[ib+1+i]? with|some x=>blt x xa|none=>false) i:=λi hi=>by
        obtain⟨x,ex⟩:=A7 (show ib+1+i<b.size by lia);exact⟨x,ex,PB ex,by dsimp only;rw[ex];rfl⟩
       have gm:∀i j,i<=j->j<b.size-(ib+1)->(λi=>match b[ib+1+i]? with|some x=>blt x xa|none=>false) j=true->(λi=>match b[ib+1+i]? with|some x=>blt x xa|none=>false) i=true:=λi j hij hj e=>by
        obtain⟨x,ex⟩:=A7 (show ib+1+i<b.size by lia);obtain⟨z,ez⟩:=A7 (show ib+1+j<b.size by lia)
        try dsimp only at e ⊢
        rw[ex];rw[ez] at e
        try dsimp only at e ⊢
        exact o.lelt (D5 o sb (show ib+1+i<=ib+1+j by lia) (A6 ex) (A6 ez)) e
       refine ei (Fd L hk (PA ea) (show 0<b.size-(ib+1) by lia) gb gm (λd hd1 hd2 hd3=>?_));have hB1:∀i x,i<d->b.toList[ib+1+i]?=some x->blt x xa=true:=λi x hi ex=>by
        rw[en] at ex;have:=hd2 i hi
        try dsimp only at this
        rw[ex] at this;exact this
       have hB2:∀i x,d<=i->b[ib+1+i]?=some x->blt x xa=false:=λi x hi ex=>by
        have hl:=(o0.mp ex).1;have:=hd3 i hi (by lia)
        try dsimp only at this
        rw[ex] at this;exact this
       have m4:MI blt a.toList b.toList (out2.push xb++b.extract (ib+1) (ib+1+d)).toList ia2 (ib+1+d):=by rw[jY];exact m3.bs o sa (A6 ea) hB1
       try dsimp only
       apply Gm (c:=d>0)
       case h1=>
        intro key hd0;refine Ax hd0 ?_
        by_cases c8:(ib+1+d==b.size)=true
        ·refine Ax c8 ?_
         exact fe ⟨_,rfl,.inl ⟨_,_,rfl,fin1 m4 (by rw[beq_iff_eq] at c8;lia)⟩⟩
        refine Ay c8 ?_;rw[beq_iff_eq] at c8;have hi4:ib+1+d<b.size:=by lia
        have hB3:∀x,b[ib+1+d]?=some x->blt x xa=false:=λx ex=>hB2 d x (dh _) ex;have hp4:y+(ia1+ib1)+1<=ia2+(ib+1+d):=by lia
        have m4:=m4
        revert hp4 hB3 hi4 m4
        generalize out2.push xb++b.extract (ib+1) (ib+1+d)=out4;generalize ib+1+d=ib4
        revert ib4 out4
        exact key.h
       case h2=>
        intro key hd0;refine Ay hd0 ?_;have hi4:ib+1<b.size:=by lia
        have hB3:∀x,b[ib+1]?=some x->blt x xa=false:=λx ex=>hB2 0 x (by lia) ex;have hp4:y+(ia1+ib1)+1<=ia2+(ib+1):=by lia
        clear m4;have m4:=m3
        revert hp4 hB3 hi4 m4
        generalize out2.push xb=out4;generalize ib+1=ib4
        revert ib4 out4
        exact key.h
       case h=>
        intro out4 ib4 hi4 hB3 hp4 m4;obtain⟨xb4,eb4⟩:=A7 hi4;refine ei (A9 ea ?_);have m5:MI blt a.toList b.toList (out4.push xa).toList (ia2+1) ib4:=by rw[Gy];exact m4.a (A6 ea) (A6 eb4) (hB3 xb4 eb4)
        by_cases c9:(ia2+1+1==a.size)=true
        ·refine Ax c9 ?_
         exact fe ⟨_,rfl,.inl ⟨_,_,rfl,fin3 m5 (by rw[beq_iff_eq] at c9;lia)⟩⟩
        refine Ay c9 ?_;rw[beq_iff_eq] at c9
        by_cases c10:(decide (c<7)&&decide (d<7))=true
        ·refine Ax c10 ?_
         exact fe ⟨_,rfl,.inr ⟨_,_,_,_,_,_,rfl,m5,by lia,hi4,by lia⟩⟩
        ·refine Ay c10 ?_
         exact fe ⟨_,_,_,_,_,_,_,rfl,rfl,m5,by lia,hi4,by lia⟩
    ·rintro c st' ⟨out,ia',ib',mg',ac,bc,g2,rfl,rfl,m,hia',hib',hpr'⟩
     exfalso;have:max 0 (a.size+b.size)=a.size+b.size:=by lia
     lia
    ·rintro c st' ⟨g2,rfl,⟨r,cc,rfl,hr⟩|⟨out,ia2,ib2,mg2,ac,bc,rfl,m2,hia2,hib2,hpr2⟩⟩
     ·dsimp only
      exact fe ⟨r,g2,rfl,rfl,hr⟩
     ·dsimp only
      refine ei (Mg (fe ⟨_,_,_,_,_,rfl,rfl,m2,hia2,hib2,by lia⟩))
 ·rintro c st' ⟨out,ia,ib,g,g',rfl,rfl,m,hia,hib,hpr⟩
  exfalso;have:max 0 (a.size+b.size)=a.size+b.size:=by lia
  lia
 ·rintro⟨c,cc⟩ st' ⟨r,g',e,rfl,hr⟩
  try dsimp only at e
  subst e
  try dsimp only
  exact fe (h r g' hr)
end
def kU:Array fg->Array fg->StateT i5 Sem (Array fg):=sortPriv% PySem.Builtin.mergeHi
theorem K7 (a:Array fg)(n:Nat):(a.extract 0 n).toList=a.toList.take n:=by
 rw[oz,mq,o3,ss]
theorem lV (out a:Array fg)(c n:Nat):(out++(a.extract c n).reverse).toList=out.toList++((a.toList.drop c).take (n-c)).reverse:=by
 rw[gv,rl,oz,mq]
section
variable {prog:fh} {w:gp} {A:ir} {E:Za0} {s:d4}
variable {kd:rh} {P:fg->Prop} {blt:fg->fg->Bool} (L:Zp prog w A E s kd P blt) (o:Swo blt)
include L o
theorem X9 {a b:Array fg}{st:i5}{Q:Array fg->i5->Prop}(hk:kindOf st=kd)(ha:0<a.size)(hb:0<b.size)(pa:∀x∈a.toList,P x)(pb:∀x∈b.toList,P x)(sa:Srt blt a.toList)(sb:Srt blt b.toList)
  (hf:∀y,b[0]?=some y->∀x∈a.toList,blt y x=true)(hl:∀x,a[a.size-1]?=some x->∀y∈b.toList,blt y x=true)
  (h:∀r g,r.toList=mg blt a.toList b.toList->Q r (L9 st g)):wpS (model prog w) A E s (kU a b) Q st:=by
 have la:a.toList.length=a.size:=eh;have lb:b.toList.length=b.size:=eh;have PA:∀{i x},a[i]?=some x->P x:=λe=>pa _ (d5 (A6 e));have PB:∀{i x},b[i]?=some x->P x:=λe=>pb _ (d5 (A6 e));obtain⟨b0,eb0⟩:=A7 hb;obtain⟨al,eal⟩:=A7 (show a.size-1<a.size by lia);have h0:MH blt a.toList b.toList [al] (a.size-1) b.size:=by
  have e:=K1 blt (as:=[al]) (a.toList.take (a.size-1)) b.toList λx hx y hy=>by rw[ee.mp hx];exact hl al eal y hy
  rw[<-F4 (A6 eal),Nat.sub_add_cancel ha,<-la,lu] at e;unfold MH;rw[<-lb,lu,e,la];rfl
 have finA:∀{out:Array fg} {na nb:Nat},MH blt a.toList b.toList out.toList na nb->na=0->(a.extract 0 na++b.extract 0 nb++out.reverse).toList=mg blt a.toList b.toList:=λm e=>by
  subst e;rw[gv,gv,K7,K7,rl];exact m.doneA
 have finB:∀{out:Array fg} {na nb:Nat},MH blt a.toList b.toList out.toList na nb->nb=0->(a.extract 0 na++b.extract 0 nb++out.reverse).toList=mg blt a.toList b.toList:=λm e=>by
  subst e;rw[gv,gv,K7,K7,rl];exact m.doneB
 have finF:∀{out:Array fg} {na nb:Nat},MH blt a.toList b.toList out.toList na nb->nb=1->(b.extract 0 nb++a.extract 0 na++out.reverse).toList=mg blt a.toList b.toList:=λm e=>by
  subst e;rw[gv,gv,K7,K7,rl];exact m.firstB (A6 eb0) (hf b0 eb0)
 refine ei (xc (ou ⟨rfl,?_⟩));refine ei (A9 eal ?_)
 by_cases c1:(a.size-1==0)=true
 ·refine Ax c1 ?_
  exact fe (h _ (gallopOf st) (finA (out:=#[al]) h0 (by rw[beq_iff_eq] at c1;exact c1)))
 refine Ay c1 ?_
 by_cases c2:(b.size==1)=true
 ·refine Ax c2 ?_
  exact fe (h _ (gallopOf st) (finF (out:=#[al]) h0 (by rw[beq_iff_eq] at c2;exact c2)))
 refine Ay c2 ?_;rw[beq_iff_eq] at c1 c2;refine ei (tu ?_);refine ei (me (wpS_forRange
  (I:=λx c st'=>∃(out:Array fg) (na nb g g':Nat),c=(none,na,nb,out,g)/\st'=L9 st g'/\MH blt a.toList b.toList out.toList na nb/\0<na/\na<=a.size/\1<nb/\nb<=b.size/\x+(na+nb)<=a.size+b.size)
  (Q:=λc st'=>∃(r:Array fg) (g':Nat),c.1=some r/\st'=L9 st g'/\r.toList=mg blt a.toList b.toList) ?_ ?_ ⟨#[al],a.size-1,b.size,_,gallopOf st,rfl,rfl,h0,by lia,by lia,by lia,by lia,by lia⟩) ?_)
 ·rintro x c st' _ hx ⟨out,na,nb,g,g',rfl,rfl,m,hna,hna2,hnb,hnb2,hpr⟩
  try dsimp only
  refine ei (me (wpS_forRange
   (I:=λy c st'=>∃(out:Array fg) (na' nb' ac bc:Nat),c=(none,na',nb',out,ac,bc)/\st'=L9 st g'/\MH blt a.toList b.toList out.toList na' nb'/\0<na'/\na'<=a.size/\1<nb'/\nb'<=b.size/\y+(na'+nb')<=na+nb)
   (Q:=λc st'=>st'=L9 st g'/\((∃r:Array fg,∃cc,c=(some r,cc)/\r.toList=mg blt a.toList b.toList)\/∃(out:Array fg) (na' nb' ac bc:Nat),c=(none,na',nb',out,ac,bc)/\MH blt a.toList b.toList out.toList na' nb'/\0<na'/\na'<=a.size/\1<nb'/\nb'<=b.size/\na'+nb'+1<=na+nb)) ?_ ?_ ⟨out,na,nb,0,0,rfl,rfl,m,hna,hna2,hnb,hnb2,by lia⟩) ?_)
  ·rintro y c st' _ hy ⟨out,na,nb,ac,bc,rfl,rfl,m,hna,hna2,hnb,hnb2,hpr⟩
   try dsimp only
   obtain⟨xa,ea⟩:=A7 (show na-1<a.size by lia);obtain⟨xb,eb⟩:=A7 (show nb-1<b.size by lia);refine ei (A9 eb (ei (A9 ea (ei (L _ _ _ _ (PB eb) (PA ea) hk ?_)))))
   cases hlt:blt xb xa with
   |true=>
    refine Ax rfl ?_;refine ei (A9 ea ?_);have m':MH blt a.toList b.toList (out.push xa).toList (na-1) nb:=by rw[Gy];exact m.a o sb hna (by lia) (A6 ea) (A6 eb) hlt
    by_cases c3:(na-1==0)=true
    ·refine Ax c3 ?_
     exact fe ⟨rfl,.inl ⟨_,_,rfl,finA m' (by rw[beq_iff_eq] at c3;exact c3)⟩⟩
    ·refine Ay c3 ?_
     rw[beq_iff_eq] at c3
     by_cases c4:ac+1>=g
     ·refine Ax c4 ?_
      exact fe ⟨rfl,.inr ⟨_,_,_,_,_,rfl,m',by lia,by lia,hnb,hnb2,by lia⟩⟩
     ·refine Ay c4 ?_
      exact fe ⟨_,_,_,_,_,rfl,rfl,m',by lia,by lia,hnb,hnb2,by lia⟩
   |false=>
    refine Ay (by decide) ?_;refine ei (A9 eb ?_);have m':MH blt a.toList b.toList (out.push xb).toList na (nb-1):=by rw[Gy];exact m.b o sa hna (by lia) (A6 ea) (A6 eb) hlt
    by_cases c3:(nb-1==1)=true
    ·refine Ax c3 ?_
     exact fe ⟨rfl,.inl ⟨_,_,rfl,finF m' (by rw[beq_iff_eq] at c3;exact c3)⟩⟩
    ·refine Ay c3 ?_
     rw[beq_iff_eq] at c3
     by_cases c4:bc+1>=g
     ·refine Ax c4 ?_
      exact fe ⟨rfl,.inr ⟨_,_,_,_,_,rfl,m',hna,hna2,by lia,by lia,by lia⟩⟩
     ·refine Ay c4 ?_
      exact fe ⟨_,_,_,_,_,rfl,rfl,m',hna,hna2,by lia,by lia,by lia⟩
  ·rintro c st' ⟨out,na',nb',ac,bc,rfl,rfl,m,h1,h2,h3,h4,h5⟩
   exfalso;have:max 0 (a.size+b.size)=a.size+b.size:=by lia
   lia
  ·rintro c st' ⟨rfl,⟨r,cc,rfl,hr⟩|⟨out,na1,nb1,ac,bc,rfl,m1,q1,q2,q3,q4,q5⟩⟩
   ·try dsimp only
    exact fe ⟨r,g',rfl,rfl,hr⟩
   ·try dsimp only
    refine ei (xc (ou ⟨rfl,?_⟩));refine ei (me (wpS_forRange
     (I:=λy c st'=>∃(out:Array fg) (na' nb' mg' ac bc g2:Nat),c=(none,na',nb',out,mg',ac,bc)/\st'=L9 st g2/\MH blt a.toList b.toList out.toList na' nb'/\0<na'/\na'<=a.size/\1<nb'/\nb'<=b.size/\y+(na'+nb')<=na1+nb1)
     (Q:=λc st'=>∃g2,st'=L9 st g2/\((∃r:Array fg,∃cc,c=(some r,cc)/\r.toList=mg blt a.toList b.toList)\/∃(out:Array fg) (na' nb' mg' ac bc:Nat),c=(none,na',nb',out,mg',ac,bc)/\MH blt a.toList b.toList out.toList na' nb'/\0<na'/\na'<=a.size/\1<nb'/\nb'<=b.size/\na'+nb'<=na1+nb1)) ?_ ?_ ⟨out,na1,nb1,_,ac,bc,g',rfl,rfl,m1,q1,q2,q3,q4,by lia⟩) ?_)
    ·rintro y c st' _ hy ⟨out,na,nb,mg',ac,bc,g2,rfl,rfl,m,hna,hna2,hnb,hnb2,hpr⟩
     try dsimp only
     obtain⟨xb,eb⟩:=A7 (show nb-1<b.size by lia);apply Gm (c:=mg'>1)
     case h1=>
      intro way cg;refine Ax cg ?_;generalize mg'-1=mg2
      revert mg2
      exact way.h
     case h2=>
      intro way cg;refine Ay cg ?_;generalize mg'=mg2
      revert mg2
      exact way.h
     case h=>
      intro mg2;refine ei (Mg (ei (A9 eb ?_)));have gb:∀i,i<na->∃x,a[0+i]?=some x/\P x/\Yy blt false xb x=(λi=>match a[0+i]? with|some x=>!(blt xb x)|none=>false) i:=λi hi=>by
       obtain⟨x,ex⟩:=A7 (show 0+i<a.size by lia);exact⟨x,ex,PA ex,by dsimp only;rw[ex];rfl⟩
      have gm:∀i j,i<=j->j<na->(λi=>match a[0+i]? with|some x=>!(blt xb x)|none=>false) j=true->(λi=>match a[0+i]? with|some x=>!(blt xb x)|none=>false) i=true:=λi j hij hj e=>by
       obtain⟨x,ex⟩:=A7 (show 0+i<a.size by lia);obtain⟨z,ez⟩:=A7 (show 0+j<a.size by lia);dsimp only at e ⊢;rw[ex];rw[ez] at e
       try dsimp only at e ⊢
       cases e1:blt xb x with
       |false=>rfl
       |true=>
        have:=o.ltle e1 (D5 o sa (show 0+i<=0+j by lia) (A6 ex) (A6 ez));rw[this] at e;cases e
      refine ei (Fd L hk (PB eb) (show na-1<na by lia) gb gm (λc hc1 hc2 hc3=>?_));have hA1:∀i x,i<c->a[i]?=some x->blt xb x=false:=λi x hi ex=>by
       have:=hc2 i hi
       try dsimp only at this
       rw[ip,ex] at this
       simpa using this
      have hA2:∀i x,c<=i->i<na->a.toList[i]?=some x->blt xb x=true:=λi x hi1 hi2 ex=>by
       rw[en] at ex;have:=hc3 i hi1 hi2
       try dsimp only at this
       rw[ip,ex] at this
       simpa using this
      have m2:MH blt a.toList b.toList (out++(a.extract c na).reverse).toList c nb:=by rw[lV];exact m.as o sb hc1 (by lia) (A6 eb) hA2
      try dsimp only
      apply Gm (c:=na-c>0)
      case h1=>
       intro way hc0;refine Ax hc0 ?_
       by_cases c5:(c==0)=true
       ·refine Ax c5 ?_
        exact fe ⟨_,rfl,.inl ⟨_,_,rfl,finA m2 (by rw[beq_iff_eq] at c5;exact c5)⟩⟩
       refine Ay c5 ?_;rw[beq_iff_eq] at c5;have hi2:0<c:=by lia
       have hA3:∀x,a[c-1]?=some x->blt xb x=false:=λx ex=>hA1 (c-1) x (by lia) ex;have hp2:y+(c+nb)<=na1+nb1:=by lia
       have hq2:c<=a.size:=by lia
       have m2:=m2
       revert hi2 hA3 hp2 hq2 m2
       generalize out++(a.extract c na).reverse=out2;generalize na-c=kk;generalize c=na2
       revert out2 kk na2
       exact way.h
      case h2=>
       intro way hc0;refine Ay hc0 ?_;have e0:c=na:=by lia
       have hi2:0<na:=hna;have hA3:∀x,a[na-1]?=some x->blt xb x=false:=λx ex=>hA1 (na-1) x (by lia) ex;have hp2:y+(na+nb)<=na1+nb1:=by lia
       have hq2:na<=a.size:=hna2;clear m2;have m2:=m
       revert hi2 hA3 hp2 hq2 m2
       generalize out=out2;generalize na-c=kk;generalize na=na2
       revert out2 kk na2
       exact way.h
      case h=>
       intro out2 kk na2 hi2 hA3 hp2 hq2 m2;obtain⟨xa,ea⟩:=A7 (show na2-1<a.size by lia);refine ei (A9 eb ?_);have m3:MH blt a.toList b.toList (out2.push xb).toList na2 (nb-1):=by rw[Gy];exact m2.b o sa hi2 (by lia) (A6 ea) (A6 eb) (hA3 xa ea)
       by_cases c7:(nb-1==1)=true
       ·refine Ax c7 ?_
        exact fe ⟨_,rfl,.inl ⟨_,_,rfl,finF m3 (by rw[beq_iff_eq] at c7;exact c7)⟩⟩
       refine Ay c7 ?_;rw[beq_iff_eq] at c7;refine ei (A9 ea ?_);have gb:∀i,i<nb-1->∃x,b[0+i]?=some x/\P x/\Yy blt true xa x=(λi=>match b[0+i]? with|some x=>blt x xa|none=>false) i:=λi hi=>by
        obtain⟨x,ex⟩:=A7 (show 0+i<b.size by lia);exact⟨x,ex,PB ex,by dsimp only;rw[ex];rfl⟩
       have gm:∀i j,i<=j->j<nb-1->(λi=>match b[0+i]? with|some x=>blt x xa|none=>false) j=true->(λi=>match b[0+i]? with|some x=>blt x xa|none=>false) i=true:=λi j hij hj e=>by
        obtain⟨x,ex⟩:=A7 (show 0+i<b.size by lia);obtain⟨z,ez⟩:=A7 (show 0+j<b.size by lia);dsimp only at e ⊢;rw[ex];rw[ez] at e
        try dsimp only at e ⊢
        exact o.lelt (D5 o sb (show 0+i<=0+j by lia) (A6 ex) (A6 ez)) e
       refine ei (Fd L hk (PA ea) (show nb-1-1<nb-1 by lia) gb gm (λd hd1 hd2 hd3=>?_));have hB1:∀i x,i<d->b[i]?=some x->blt x xa=true:=λi x hi ex=>by
        have:=hd2 i hi
        try dsimp only at this
        rw[ip,ex] at this;exact this
       have hB2:∀i x,d<=i->i<nb-1->b.toList[i]?=some x->blt x xa=false:=λi x hi1 hi2 ex=>by
        rw[en] at ex;have:=hd3 i hi1 hi2
        try dsimp only at this
        rw[ip,ex] at this;exact this
       have m4:MH blt a.toList b.toList (out2.push xb++(b.extract d (nb-1)).reverse).toList na2 d:=by rw[lV];exact m3.bs o sa hd1 hi2 (A6 ea) hB2
       try dsimp only
       apply Gm (c:=nb-1-d>0)
       case h1=>
        intro way hd0;refine Ax hd0 ?_
        by_cases c8:(d==1)=true
        ·refine Ax c8 ?_
         exact fe ⟨_,rfl,.inl ⟨_,_,rfl,finF m4 (by rw[beq_iff_eq] at c8;exact c8)⟩⟩
        refine Ay c8 ?_
        by_cases c9:(d==0)=true
        ·refine Ax c9 ?_
         exact fe ⟨_,rfl,.inl ⟨_,_,rfl,finB m4 (by rw[beq_iff_eq] at c9;exact c9)⟩⟩
        refine Ay c9 ?_;rw[beq_iff_eq] at c8 c9;have hi4:1<d:=by lia
        have hB3:∀x,b[d-1]?=some x->blt x xa=true:=λx ex=>hB1 (d-1) x (by lia) ex;have hp4:y+(na2+d)+1<=na1+nb1:=by lia
        have hq4:d<=b.size:=by lia
        have m4:=m4
        revert hi4 hB3 hp4 hq4 m4
        generalize out2.push xb++(b.extract d (nb-1)).reverse=out4;generalize nb-1-d=kd4;generalize d=nb4
        revert out4 kd4 nb4
        exact way.h
       case h2=>
        intro way hd0;refine Ay hd0 ?_;have hi4:1<nb-1:=by lia
        have hB3:∀x,b[nb-1-1]?=some x->blt x xa=true:=λx ex=>hB1 (nb-1-1) x (by lia) ex;have hp4:y+(na2+(nb-1))+1<=na1+nb1:=by lia
        have hq4:nb-1<=b.size:=by lia
        clear m4;have m4:=m3
        revert hi4 hB3 hp4 hq4 m4
        generalize out2.push xb=out4;generalize nb-1-d=kd4;generalize nb-1=nb4
        revert out4 kd4 nb4
        exact way.h
       case h=>
        intro out4 kd4 nb4 hi4 hB3 hp4 hq4 m4;obtain⟨xb4,eb4⟩:=A7 (show nb4-1<b.size by lia);refine ei (A9 ea ?_);have m5:MH blt a.toList b.toList (out4.push xa).toList (na2-1) nb4:=by rw[Gy];exact m4.a o sb hi2 (by lia) (A6 ea) (A6 eb4) (hB3 xb4 eb4)
        by_cases c9:(na2-1==0)=true
        ·refine Ax c9 ?_
         exact fe ⟨_,rfl,.inl ⟨_,_,rfl,finA m5 (by rw[beq_iff_eq] at c9;exact c9)⟩⟩
        refine Ay c9 ?_;rw[beq_iff_eq] at c9
        by_cases c10:(decide (kk<7)&&decide (kd4<7))=true
        ·refine Ax c10 ?_
         exact fe ⟨_,rfl,.inr ⟨_,_,_,_,_,_,rfl,m5,by lia,by lia,hi4,hq4,by lia⟩⟩
        ·refine Ay c10 ?_
         exact fe ⟨_,_,_,_,_,_,_,rfl,rfl,m5,by lia,by lia,hi4,hq4,by lia⟩
    ·rintro c st' ⟨out,na',nb',mg',ac,bc,g2,rfl,rfl,m,h1,h2,h3,h4,h5⟩
     exfalso;have:max 0 (a.size+b.size)=a.size+b.size:=by lia
     lia
    ·rintro c st' ⟨g2,rfl,⟨r,cc,rfl,hr⟩|⟨out,na2,nb2,mg2,ac,bc,rfl,m2,r1,r2,r3,r4,r5⟩⟩
     ·try dsimp only
      exact fe ⟨r,g2,rfl,rfl,hr⟩
     ·try dsimp only
      refine ei (Mg (fe ⟨_,_,_,_,_,rfl,rfl,m2,r1,r2,r3,r4,by lia⟩))
 ·rintro c st' ⟨out,na,nb,g,g',rfl,rfl,m,h1,h2,h3,h4,h5⟩
  exfalso;have:max 0 (a.size+b.size)=a.size+b.size:=by lia
  lia
 ·rintro⟨c,cc⟩ st' ⟨r,g',e,rfl,hr⟩
  dsimp only at e;subst e
  try dsimp only
  exact fe (h r g' hr)
end
theorem Yw {xs:Array fg}{src d:Nat}(hs:src<xs.size)(hd:d<=src){x:fg}(hx:xs[src]?=some x) :
  (bubble xs src d).toList=xs.toList.take (src-d)++[x]++(xs.toList.drop (src-d)).take d++xs.toList.drop (src+1):=by
 have hl:xs.toList.length=xs.size:=eh;refine j2 λk=>?_;rw[en,getElem?_bubble hs d hd k];obtain⟨a,rfl⟩:=kl hd;rw[gi];have l1:(xs.toList.take a).length=a:=by rw[dy,hl];exact iz (by lia)
 have l2:((xs.toList.drop a).take d).length=d:=by rw[dy,io,hl];exact iz (by lia)
 have l3:(xs.toList.take a++[x]).length=a+1:=by rw[di,l1];rfl
 have l4:(xs.toList.take a++[x]++(xs.toList.drop a).take d).length=a+1+d:=by rw[di,l3,l2]
 by_cases h1:k=a
 ·subst h1
  rw[if_pos rfl,hx,dq,dq,d8 (ku l1),l1,jd];rfl
 ·rw[if_neg h1]
  by_cases h2:a<k/\k<=d+a
  ·obtain⟨i,rfl⟩:=kl (show a+1<=k from h2.1)
   rw[if_pos h2,fv (by rw[l4];lia),d8 (by rw[l3];exact iq _ _),l3,gi,jn,if_pos (by lia),i7,en,Nat.add_right_comm,tm]
  ·rw[if_neg h2]
   by_cases h3:k<a
   ·rw[dq,dq,fv (by rw[l1];exact h3),jn,if_pos h3,en]
   ·obtain⟨i,rfl⟩:=kl (show a+1+d<=k by lia)
    rw[d8 (by rw[l4];exact iq _ _),l4,gi,i7,en,show d+a+1+i=a+1+d+i by lia]
theorem Yn {xs:Array fg}{i j:Nat}(hij:i<=j)(hj:j<=xs.size) :
  (mirror xs i j ((j-i)/2)).toList=xs.toList.take i++((xs.toList.drop i).take (j-i)).reverse++xs.toList.drop j:=by
 have hl:xs.toList.length=xs.size:=eh;refine j2 λk=>?_;rw[en,getElem?_mirror_all (i:=i) hj k];obtain⟨m,rfl⟩:=kl hij;rw[gi];have l1:(xs.toList.take i).length=i:=by rw[dy,hl];exact iz (by lia)
 have l2:((xs.toList.drop i).take m).length=m:=by rw[dy,io,hl];exact iz (by lia)
 have l3:(xs.toList.take i++((xs.toList.drop i).take m).reverse).length=i+m:=by rw[di,pr,l1,l2]
 by_cases h2:k<i
 ·rw[if_neg (λz=>Nat.not_le.mpr h2 z.1),dq,fv (by rw[l1];exact h2),jn,if_pos h2,en]
 ·obtain⟨r,rfl⟩:=kl (qi.mp h2)
  by_cases h1:r<m
  ·obtain⟨q,rfl⟩:=kl (show r+1<=m from h1)
   rw[if_pos ⟨iq _ _,by lia⟩,fv (by rw[l3];lia),d8 (by rw[l1];exact iq _ _),l1,gi,
    List.getElem?_reverse (by rw[l2];exact h1),l2,jn,if_pos (by lia),i7,en]
   congr 1;lia
  ·obtain⟨q,rfl⟩:=kl (qi.mp h1)
   rw[if_neg (by lia),d8 (by rw[l3];lia),l3,i7,en,<-i0,gi]
theorem Za (sa:Nat):∀(l:List fg) (k:Nat) (xs:Array fg),sa+k+l.length<=xs.size ->
  ((l.zipIdx k).foldl (λa q=>a.setIfInBounds (sa+q.2) q.1) xs).toList=xs.toList.take (sa+k)++l++xs.toList.drop (sa+k+l.length)
 |[],k,xs,h=>by
  rw[List.zipIdx_nil,ED,fw,jh,jr,gu]
 |p::l,k,xs,h=>by
  have hl:xs.toList.length=xs.size:=eh;rw[fj] at h;rw[List.zipIdx_cons,oj,Za sa l (k+1) _ (by rw[Array.size_setIfInBounds];lia),zf,fj];have e1:(xs.toList.set (sa+k) p).take (sa+(k+1))=xs.toList.take (sa+k)++[p]:=by
   rw[show sa+(k+1)=sa+k+1 by lia,F4 (x:=p) (by rw[ud,if_pos rfl,if_pos (by lia)]),List.take_set_of_le (by lia)]
  have e2:(xs.toList.set (sa+k) p).drop (sa+(k+1)+l.length)=xs.toList.drop (sa+k+(l.length+1)):=by
   rw[List.drop_set_of_lt (by lia)];congr 1;lia
  rw[e1,e2,dq,dq,dq];rfl
section
variable {prog:fh} {w:gp} {A:ir} {E:Za0} {s:d4}
theorem qL {G:Type}{st st':G}{Q:PUnit->G->Prop}(h:Q ⟨⟩ st'):wpS M A E s (set st':StateT G Sem PUnit) Q st:=by
 unfold wpS;rw[StateT.run_set];exact dw ⟨rfl,h⟩
theorem Dv {l:List fg}{i j:Nat}(h:j<n):((l.drop i).take n)[j]?=l[i+j]?:=by rw[jn,if_pos h,i7]
theorem G0 {l:List fg}{i:Nat}(h:i+n<=l.length):((l.drop i).take n).length=n:=by rw[dy,io];lia
theorem W8 (a:Array fg)(i j:Nat):(a.extract i j).toList=(a.toList.drop i).take (j-i):=by rw[oz,mq]
variable {kd:rh} {P:fg->Prop} {blt:fg->fg->Bool} (L:Zp prog w A E s kd P blt) (o:Swo blt)
include L o
theorem Ym {st:i5}{i sa na nb p p':Nat}{Q:Bool->i5->Prop}(hk:kindOf st=kd)(hf:failedOf st=none)(h1:(pendingOf st)[i]?=some (sa,na,p))(h2:(pendingOf st)[i+1]?=some (sa+na,nb,p'))(hn:0<na)(hm:0<nb)
  (hsz:sa+na+nb<=(arrOf st).size)(hP:∀x∈(arrOf st).toList,P x)(sU:Srt blt (((arrOf st).toList.drop sa).take na))(sW:Srt blt (((arrOf st).toList.drop (sa+na)).take nb))
  (h:∀st':i5,kindOf st'=kd->failedOf st'=none->pendingOf st'=((pendingOf st).setIfInBounds i (sa,na+nb,p)).eraseIdxIfInBounds (i+1) ->
   (arrOf st').toList=(arrOf st).toList.take sa++mg blt (((arrOf st).toList.drop sa).take na) (((arrOf st).toList.drop (sa+na)).take nb)++(arrOf st).toList.drop (sa+na+nb)->Q true st') :
  wpS (model prog w) A E s (mergeAt' i) Q st:=by
 have hl:(arrOf st).toList.length=(arrOf st).size:=eh;have PA:∀{i x},(arrOf st)[i]?=some x->P x:=λe=>hP _ (d5 (A6 e));have lU:(((arrOf st).toList.drop sa).take na).length=na:=G0 (by lia);have lW:(((arrOf st).toList.drop (sa+na)).take nb).length=nb:=G0 (by lia);have whole:(arrOf st).toList.take sa++(((arrOf st).toList.drop sa).take na++((arrOf st).toList.drop (sa+na)).take nb)++(arrOf st).toList.drop (sa+na+nb)=(arrOf st).toList:=by
  rw[<-dq,dq,<-Ff,dq,<-Ff,gu]
 refine ei (tu ?_);rw[h1,h2];dsimp only;obtain⟨w0,e0⟩:=A7 (show sa+na<(arrOf st).size by lia);refine ei (qL ?_);refine ei (A9 e0 ?_);have gb:∀j,j<na->∃x,(arrOf st)[sa+j]?=some x/\P x/\Yy blt false w0 x=(λj=>match (arrOf st)[sa+j]? with|some x=>!(blt w0 x)|none=>false) j:=λj hj=>by
  obtain⟨x,ex⟩:=A7 (show sa+j<(arrOf st).size by lia);exact⟨x,ex,PA ex,by dsimp only;rw[ex];rfl⟩
 have gm:∀j j',j<=j'->j'<na->(λj=>match (arrOf st)[sa+j]? with|some x=>!(blt w0 x)|none=>false) j'=true->(λj=>match (arrOf st)[sa+j]? with|some x=>!(blt w0 x)|none=>false) j=true:=λj j' hij hj e=>by
  obtain⟨x,ex⟩:=A7 (show sa+j<(arrOf st).size by lia);obtain⟨z,ez⟩:=A7 (show sa+j'<(arrOf st).size by lia);dsimp only at e ⊢;rw[ex];rw[ez] at e
  try dsimp only at e ⊢
  cases e1:blt w0 x with
  |false=>rfl
  |true=>
   have:=o.ltle e1 (D5 o sU hij (by rw[Dv (by lia)];exact A6 ex) (by rw[Dv hj];exact A6 ez));rw[this] at e;cases e
 refine ei (Fd L hk (PA e0) hn gb gm (λc hc1 hc2 hc3=>?_));have hA1:∀j x,j<c->(arrOf st)[sa+j]?=some x->blt w0 x=false:=λj x hj ex=>by
  have:=hc2 j hj
  try dsimp only at this
  rw[ex] at this
  simpa using this
 have hA2:∀j x,c<=j->j<na->(arrOf st)[sa+j]?=some x->blt w0 x=true:=λj x hj1 hj2 ex=>by
  have:=hc3 j hj1 hj2
  try dsimp only at this
  rw[ex] at this
  simpa using this
 clear gb gm hc2 hc3
 -- the first c stay ahead of all
 have hw0:(((arrOf st).toList.drop (sa+na)).take nb)[0]?=some w0:=by rw[Dv hm];exact A6 e0
 have eU:mg blt (((arrOf st).toList.drop sa).take na) (((arrOf st).toList.drop (sa+na)).take nb)=((arrOf st).toList.drop sa).take c++mg blt (((arrOf st).toList.drop (sa+c)).take (na-c)) (((arrOf st).toList.drop (sa+na)).take nb):=by
  have e1:((arrOf st).toList.drop sa).take na=((arrOf st).toList.drop sa).take c++((arrOf st).toList.drop (sa+c)).take (na-c):=by
   rw[Ek _ hc1,ka]
  rw[e1,D1 blt λx hx y hy=>?_];obtain⟨j,hj,ex⟩:=Cz hx;obtain⟨j',ey⟩:=ly hy;rw[en] at ex;exact o.le (hA1 j x hj ex) (D5 o sW (f7 j') hw0 ey)
 try dsimp only
 by_cases c1:(na-c==0)=true
 ·rw[if_pos c1]
  rw[beq_iff_eq] at c1;refine fe (h _ hk hf rfl ?_);have:c=na:=by lia
  rw[eU,this,jd,mf,Dg,whole]
 rw[if_neg c1];rw[beq_iff_eq] at c1;have hnc:c+(na-c)=na:=sk hc1;have hn1:1<=na-c:=Nat.pos_of_ne_zero c1;have ia:sa+c+(na-c)-1=sa+na-1:=by rw[i0,hnc]
 have ia2:sa+c+(na-c-1)=sa+na-1:=(xx hn1 _).symm.trans ia;obtain⟨al,eal⟩:=A7 (show sa+na-1<(arrOf st).size by lia);refine ei (A9 (by rw[ia];exact eal) ?_);have gb:∀j,j<nb->∃x,(arrOf st)[sa+na+j]?=some x/\P x/\Yy blt true al x=(λj=>match (arrOf st)[sa+na+j]? with|some x=>blt x al|none=>false) j:=λj hj=>by
  obtain⟨x,ex⟩:=A7 (show sa+na+j<(arrOf st).size by lia);exact⟨x,ex,PA ex,by dsimp only;rw[ex];rfl⟩
 have gm:∀j j',j<=j'->j'<nb->(λj=>match (arrOf st)[sa+na+j]? with|some x=>blt x al|none=>false) j'=true->(λj=>match (arrOf st)[sa+na+j]? with|some x=>blt x al|none=>false) j=true:=λj j' hij hj e=>by
  obtain⟨x,ex⟩:=A7 (show sa+na+j<(arrOf st).size by lia);obtain⟨z,ez⟩:=A7 (show sa+na+j'<(arrOf st).size by lia);dsimp only at e ⊢;rw[ex];rw[ez] at e
  try dsimp only at e ⊢
  exact o.lelt (D5 o sW hij (by rw[Dv (by lia)];exact A6 ex) (by rw[Dv hj];exact A6 ez)) e
 refine ei (Fd L hk (PA eal) (show nb-1<nb by lia) gb gm (λd hd1 hd2 hd3=>?_));have hB1:∀j x,j<d->(arrOf st)[sa+na+j]?=some x->blt x al=true:=λj x hj ex=>by
  have:=hd2 j hj
  try dsimp only at this
  rw[ex] at this;exact this
 have hB2:∀j x,d<=j->j<nb->(arrOf st)[sa+na+j]?=some x->blt x al=false:=λj x hj1 hj2 ex=>by
  have:=hd3 j hj1 hj2
  try dsimp only at this
  rw[ex] at this;exact this
 clear gb gm hd2 hd3;have lX:(((arrOf st).toList.drop (sa+c)).take (na-c)).length=na-c:=G0 (by lia);have lY:(((arrOf st).toList.drop (sa+na)).take d).length=d:=G0 (by lia);have sX:Srt blt (((arrOf st).toList.drop (sa+c)).take (na-c)):=by
  have e1:((arrOf st).toList.drop sa).take na=((arrOf st).toList.drop sa).take c++((arrOf st).toList.drop (sa+c)).take (na-c):=by
   rw[Ek _ hc1,ka]
  rw[e1] at sU;exact(nh.mp sU).2.1
 have eW1:((arrOf st).toList.drop (sa+na)).take nb=((arrOf st).toList.drop (sa+na)).take d++((arrOf st).toList.drop (sa+na+d)).take (nb-d):=by
  rw[Ek _ hd1,ka]
 have sY:Srt blt (((arrOf st).toList.drop (sa+na)).take d):=by
  rw[eW1] at sW;exact(nh.mp sW).1
 have hal:(((arrOf st).toList.drop (sa+c)).take (na-c))[na-c-1]?=some al:=by
  rw[Dv (CS hn1 BO),ia2];exact A6 eal
 have eW:mg blt (((arrOf st).toList.drop (sa+c)).take (na-c)) (((arrOf st).toList.drop (sa+na)).take nb)=mg blt (((arrOf st).toList.drop (sa+c)).take (na-c)) (((arrOf st).toList.drop (sa+na)).take d)++((arrOf st).toList.drop (sa+na+d)).take (nb-d):=by
  rw[eW1,K5 blt _ _ λy hy x hx=>?_];obtain⟨j,hj,ey⟩:=Cz hy;obtain⟨j',ex⟩:=ly hx;have hj':=(d9.mp ex).1;rw[lX] at hj';rw[en,i0] at ey;exact o.le (D5 o sX (Nat.le_sub_one_of_lt hj') ex hal) (hB2 (d+j) y (by lia) (by lia) ey)
 try dsimp only
 by_cases c2:(d==0)=true
 ·rw[if_pos c2]
  rw[beq_iff_eq] at c2;refine fe (h _ hk hf rfl ?_);rw[eU,eW,c2,mf,Bk,jr,ss];have e1:((arrOf st).toList.drop sa).take na=((arrOf st).toList.drop sa).take c++((arrOf st).toList.drop (sa+c)).take (na-c):=by
   rw[Ek _ hc1,ka]
  rw[<-dq (((arrOf st).toList.drop sa).take c),<-e1];exact whole.symm
 rw[if_neg c2];rw[beq_iff_eq] at c2
 -- Rx stretches
 have xL:((arrOf st).extract (sa+c) (sa+na)).toList=((arrOf st).toList.drop (sa+c)).take (na-c):=by
  rw[W8,show sa+na-(sa+c)=na-c by lia]
 have yL:((arrOf st).extract (sa+na) (sa+na+d)).toList=((arrOf st).toList.drop (sa+na)).take d:=by
  rw[W8,show sa+na+d-(sa+na)=d by lia]
 have xS:((arrOf st).extract (sa+c) (sa+na)).size=na-c:=by rw[<-eh,xL,lX]
 have yS:((arrOf st).extract (sa+na) (sa+na+d)).size=d:=by rw[<-eh,yL,lY]
 have x0:∀{i x},((arrOf st).extract (sa+c) (sa+na))[i]?=some x->i<na-c/\(arrOf st)[sa+c+i]?=some x:=λ{i x} e=>by
  have hi:=(o0.mp e).1;rw[xS] at hi;have:=A6 e;rw[xL,Dv hi,en] at this;exact⟨hi,this⟩
 have y0:∀{i x},((arrOf st).extract (sa+na) (sa+na+d))[i]?=some x->i<d/\(arrOf st)[sa+na+i]?=some x:=λ{i x} e=>by
  have hi:=(o0.mp e).1;rw[yS] at hi;have:=A6 e;rw[yL,Dv hi,en] at this;exact⟨hi,this⟩
 have hlast:∀x,((arrOf st).extract (sa+c) (sa+na))[((arrOf st).extract (sa+c) (sa+na)).size-1]?=some x->∀y∈((arrOf st).extract (sa+na) (sa+na+d)).toList,blt y x=true:=λx ex y hy=>by
  obtain⟨_,e2⟩:=x0 ex;rw[xS,ia2,eal] at e2;cases e2;rw[yL] at hy;obtain⟨j,hj,ey⟩:=Cz hy;rw[en] at ey;exact hB1 j y hj ey
 have hfirst:∀y,((arrOf st).extract (sa+na) (sa+na+d))[0]?=some y->∀x∈((arrOf st).extract (sa+c) (sa+na)).toList,blt y x=true:=λy ey x hx=>by
  obtain⟨_,e2⟩:=y0 ey;rw[jr,e0] at e2;cases e2;rw[xL] at hx;obtain⟨j,hj,ex⟩:=Cz hx;rw[en,i0] at ex;exact hA2 (c+j) x (iq _ _) (by rw[vh];exact Nat.add_lt_of_lt_sub hj) ex
 have fin:∀(r:Array fg) (st1:i5),r.toList=mg blt ((arrOf st).extract (sa+c) (sa+na)).toList ((arrOf st).extract (sa+na) (sa+na+d)).toList->kindOf st1=kd->failedOf st1=none ->
   pendingOf st1=((pendingOf st).setIfInBounds i (sa,na+nb,p)).eraseIdxIfInBounds (i+1)->arrOf st1=arrOf st ->
   Q true (setArr st1 (r.toList.zipIdx.foldl (λa q=>a.setIfInBounds (sa+c+q.2) q.1) (arrOf st1))):=λr st1 hr q1 q2 q3 q4=>by
  refine h _ q1 q2 q3 ?_;show(r.toList.zipIdx.foldl (λa q=>a.setIfInBounds (sa+c+q.2) q.1) (arrOf st1)).toList=_;have lr:r.toList.length=na-c+d:=by rw[hr,(Kz blt _ _).length_eq,di,xL,yL,lX,lY]
  rw[q4,Za (sa+c) r.toList 0 (arrOf st) (by rw[lr,jr,<-i0,i0 sa,hnc];lia),jr,lr,hr,xL,yL,eU,eW];have e3:(arrOf st).toList.take (sa+c)=(arrOf st).toList.take sa++((arrOf st).toList.drop sa).take c:=by rw[uf]
  have e4:(arrOf st).toList.drop (sa+c+(na-c+d))=((arrOf st).toList.drop (sa+na+d)).take (nb-d)++(arrOf st).toList.drop (sa+na+nb):=by
   rw[<-i0,i0 sa,hnc,show sa+na+nb=sa+na+d+(nb-d) by rw[i0 (sa+na),sk hd1]];exact Ff _ _ _
  rw[e3,e4];simp only[dq]
 have pX:∀x∈((arrOf st).extract (sa+c) (sa+na)).toList,P x:=λx hx=>by rw[xL] at hx;exact hP x (ni (jv hx))
 have pY:∀x∈((arrOf st).extract (sa+na) (sa+na+d)).toList,P x:=λx hx=>by rw[yL] at hx;exact hP x (ni (jv hx))
 have done:∀(r:Array fg) (g:Nat),r.toList=mg blt ((arrOf st).extract (sa+c) (sa+na)).toList ((arrOf st).extract (sa+na) (sa+na+d)).toList ->
   Q (failedOf st).isNone (setArr (si (kindOf st) (arrOf st) (((pendingOf st).setIfInBounds i (sa,na+nb,p)).eraseIdxIfInBounds (i+1)) g (failedOf st)) (r.toList.zipIdx.foldl (λa q=>a.setIfInBounds (sa+c+q.2) q.1) (arrOf st))):=λr g hr=>by
  have:=fin r (si (kindOf st) (arrOf st) (((pendingOf st).setIfInBounds i (sa,na+nb,p)).eraseIdxIfInBounds (i+1)) g (failedOf st)) hr hk hf rfl rfl;rw[show(failedOf st).isNone=true by rw[hf];rfl];exact this
 by_cases c3:na-c<=d
 ·rw[if_pos c3]
  refine ei (X3 L o hk (by rw[xS];lia) (by rw[yS];lia) pX pY (by rw[xL];exact sX) (by rw[yL];exact sY) (λx y ex ey=>hfirst y ey x (d5 (A6 ex))) hlast λr g hr=>?_);exact ei (ug (ei (tu (fe (done r g hr)))))
 ·rw[if_neg c3]
  refine ei (X9 L o hk (by rw[xS];lia) (by rw[yS];lia) pX pY (by rw[xL];exact sX) (by rw[yL];exact sY) hfirst hlast λr g hr=>?_);exact ei (ug (ei (tu (fe (done r g hr)))))
end
theorem mL {blt:fg->fg->Bool}(o:Swo blt){l:List fg}{x y:fg}(h:Srt blt l)(hy:l[l.length-1]?=some y)(hx:blt x y=false):Srt blt (l++[x]):=by
 refine nh.mpr ⟨h,qj _ _,λa ha b hb=>?_⟩;rw[ee.mp hb];obtain⟨j,hj⟩:=ly ha;have hl:=(d9.mp hj).1;exact o.le (D5 o h (show j<=l.length-1 by lia) hj hy) hx
theorem Gc {xs:Array fg}{U V W:List fg}{i j:Nat}(e:xs.toList=U++V++W)(hi:i=U.length)(hj:j=U.length+V.length):(mirror xs i j ((j-i)/2)).toList=U++V.reverse++W:=by
 have hl:xs.size=U.length+V.length+W.length:=by rw[<-eh,e,di,di]
 rw[Yn (by lia) (by lia),e,hi,hj];have e1:(U++V++W).take U.length=U:=by rw[dq,ik (dh _),lu]
 have e2:(U++V++W).drop U.length=V++W:=by rw[dq,je (dh _),o8,jb]
 have e3:(U++V++W).drop (U.length+V.length)=W:=by rw[<-ka,e2,je (dh _),o8,jb]
 rw[e1,e2,e3,gi,ik (dh _),lu]
theorem dA {blt:fg->fg->Bool}(o:Swo blt){a b:List fg}(h:Srt blt (Aq blt a++b)):Aq blt (a++b)=Aq blt a++b:=by
 have hp:=nh.mp h;rw[Tp o,Hg hp.2.1];have:=D1 blt (ys:=b) (as:=Aq blt a) (xs:=[]) λx hx y hy=>hp.2.2 x hx y hy;rw[fw,Dg] at this;exact this
section
variable {prog:fh} {w:gp} {A:ir} {E:Za0} {s:d4}
variable {kd:rh} {P:fg->Prop} {blt:fg->fg->Bool} (L:Zp prog w A E s kd P blt) (o:Swo blt)
include L
theorem Ia {st:i5}{i j:Nat}{x y:fg}{Q:Option Bool->i5->Prop}(hk:kindOf st=kd)(hi:(arrOf st)[i]?=some x)(hj:(arrOf st)[j]?=some y)(px:P x)(py:P y)(h:Q (some (blt x y)) st) :
  wpS (model prog w) A E s (ltAt' i j) Q st:=by
 rw[ltAt'_eq];refine ei (tu ?_);exact ei (A9 hi (ei (A9 hj (L _ _ _ _ px py hk h))))
include o
theorem W1 {st:i5}{lo a nrem:Nat}{T C D:List fg}{F:Nat->Option (Option Nat)×Nat->StateT i5 Sem (ForInStep (Option (Option Nat)×Nat))}{Q:Option (Option Nat)×Nat->i5->Prop}
  (hF:∀x n,F x (none,n)=(do
   let r <-ltAt' (lo+n) (lo+n-1)
   match r with
   |some smaller=>if smaller=true then pure (qc (none,n)) else pure (pe (none,n+1))
   |x=>pure (qc (some none,n))))
  (hk:kindOf st=kd)(hP:∀x∈(arrOf st).toList,P x)(hT:T.length=lo)(hD:D.length=nrem)(ha:1<=a)(han:a<=nrem)(hC:C.length=a)(e:(arrOf st).toList=T++C++D.drop a)(sC:Srt blt C)
  (h:∀n,a<=n->n<=nrem->Srt blt (C++(D.drop a).take (n-a))->(n=nrem\/∃x y,(C++D.drop a)[n]?=some x/\(C++D.drop a)[n-1]?=some y/\blt x y=true)->Q (none,n) st) :
  wpS (model prog w) A E s (forIn [a:nrem] (none,a) F) Q st:=by
 have hl:(C++D.drop a).length=nrem:=by rw[di,io];lia
 have at_:∀j,(arrOf st)[lo+j]?=(C++D.drop a)[j]?:=λj=>by
  rw[<-en,e,dq,d8 (by lia),hT,gi]
 have ctk:∀n,a<=n->n<=nrem->C++(D.drop a).take (n-a)=(C++D.drop a).take n:=λn h1 h2=>by
  rw[DI,fc (l:=C) (by lia),hC]
 refine wpS_forRange (I:=λx c st'=>st'=st/\c=(none,x)/\Srt blt ((C++D.drop a).take x)) ?_ ?_ ⟨rfl,rfl,?_⟩
 ·rintro x c st' hx1 hx2 ⟨rfl,rfl,hs⟩
  rw[hF];obtain⟨u,eu⟩:∃u,(C++D.drop a)[x]?=some u:=⟨_,df (by lia)⟩;obtain⟨v,ev⟩:∃v,(C++D.drop a)[x-1]?=some v:=⟨_,df (by lia)⟩;have pu:(arrOf st')[lo+x]?=some u:=by rw[at_];exact eu
  have pv:(arrOf st')[lo+x-1]?=some v:=by rw[show lo+x-1=lo+(x-1) by lia,at_];exact ev
  refine ei (Ia L hk pu pv (hP _ (d5 (A6 pu))) (hP _ (d5 (A6 pv))) ?_);dsimp only
  cases hb:blt u v with
  |true=>
   rw[if_pos rfl];exact fe (h x hx1 (by lia) (by rw[ctk x hx1 (by lia)];exact hs) (.inr ⟨u,v,eu,ev,hb⟩))
  |false=>
   rw[if_neg (by decide)];refine fe ⟨rfl,rfl,?_⟩;rw[F4 eu];refine mL o hs ?_ hb;rw[dy,hl,iz (ig hx2),jn,if_pos (CS (by lia) BO)];exact ev
 ·rintro c st' ⟨rfl,rfl,hs⟩
  have:max a nrem=nrem:=by lia
  rw[this] at hs ⊢;exact h nrem han (dh _) (by rw[ctk nrem han (dh _)];exact hs) (.inl rfl)
 ·rw[<-ctk a (dh _) han,jd,mf,fw]
  exact sC
theorem S6 {st:i5}{lo nrem:Nat}{Q:Option Nat->i5->Prop}(hk:kindOf st=kd)(hP:∀x∈(arrOf st).toList,P x)(hn:lo+nrem=(arrOf st).size)(h1:1<=nrem)
  (h:∀m (xs:Array fg),1<=m->m<=nrem->xs.toList=(arrOf st).toList.take lo++Aq blt (((arrOf st).toList.drop lo).take m)++((arrOf st).toList.drop lo).drop m->Q (some m) (setArr st xs)) :
  wpS (model prog w) A E s (countRun' lo nrem) Q st:=by
 have hl:(arrOf st).toList.length=(arrOf st).size:=eh;generalize hT:(arrOf st).toList.take lo=T at *;generalize hD:(arrOf st).toList.drop lo=D at *;have e:(arrOf st).toList=T++D:=by rw[<-hT,<-hD,gu]
 have lT:T.length=lo:=by rw[<-hT,dy];lia
 have lD:D.length=nrem:=by rw[<-hD,io];lia
 obtain⟨d0,e0⟩:∃d0,D[0]?=some d0:=⟨_,df (by lia)⟩;have eD:D.take 1++D.drop 1=D:=gu 1 D;refine ei (W1 L o (T:=T) (C:=D.take 1) (D:=D) (λx n=>rfl) hk hP lT lD (dh 1) h1 (by rw[dy];lia) (by rw[dq,eD];exact e) (by rw[F4 e0];exact qj _ _) λn hn1 hn2 sn hor=>?_);have etk:D.take 1++(D.drop 1).take (n-1)=D.take n:=by rw[show n=1+(n-1) by lia,uf,gi]
 rw[etk] at sn;rw[eD] at hor;dsimp only;have PD:∀y∈D,P y:=λy hy=>hP y (by rw[e];exact e6 _ hy)
 by_cases c1:(n==nrem)=true
 ·rw[if_pos c1]
  refine fe (h n (arrOf st) hn1 hn2 ?_);rw[Hg sn,dq,gu];exact e
 rw[if_neg c1];rw[beq_iff_eq] at c1;obtain⟨x,y,ex,ey,hxy⟩:=hor.resolve_left c1;have lDn:(D.take n).length=n:=by rw[dy];lia
 apply Gm (c:=n>1)
 case h1=>
  intro way hgt;rw[if_pos hgt];have a0:(arrOf st)[lo]?=some d0:=by rw[<-en,e,d8 (by lia),lT,jd];exact e0
  have ay:(arrOf st)[lo+n-1]?=some y:=by rw[xx hn1,<-en,e,d8 (by rw[lT];exact iq _ _),lT,gi];exact ey
  refine ei (Ia L hk a0 ay (PD _ (d5 e0)) (PD _ (d5 ey)) ?_);dsimp only
  by_cases hrose:blt d0 y=true
  ·rw[if_pos hrose]
   refine fe (h n (arrOf st) hn1 hn2 ?_);rw[Hg sn,dq,gu];exact e
  rw[if_neg hrose];have hrose:blt d0 y=false:=by simpa using hrose
  have key:∀j z,j<n->D[j]?=some z->blt z y=false:=λj z hj ez=>by
   have h2:=D5 o sn (f7 j) (by rw[jn,if_pos (by lia)];exact e0) (by rw[jn,if_pos hj];exact ez)
   cases hc:blt z y with
   |false=>rfl
   |true=>
    rcases o.ng z d0 y hc with h3|h3
    ·rw[h2] at h3;cases h3
    ·rw[hrose] at h3;cases h3
  have hall:∀z∈D.take n,blt x z=true:=λz hz=>by
   obtain⟨j,hj,ez⟩:=Ib hz;exact o.ltle hxy (key j z hj ez)
  refine ei (w9 ?_);have m1:=Gc (xs:=arrOf st) (U:=T) (V:=D.take n) (W:=D.drop n) (i:=lo) (j:=lo+n) (by rw[dq,gu];exact e) lT.symm (by rw[lDn,lT])
  revert hall m1
  generalize mirror (arrOf st) lo (lo+n) ((lo+n-lo)/2)=xs1
  revert xs1
  exact way.h
 case h2=>
  intro way hgt;rw[if_neg hgt];have n1:n=1:=by lia
  have hall:∀z∈D.take n,blt x z=true:=λz hz=>by
   obtain⟨j,hj,ez⟩:=Ib hz;have:j=n-1:=by lia
   rw[this,ey] at ez;cases ez;exact hxy
  have m1:(arrOf st).toList=T++(D.take n).reverse++D.drop n:=by
   rw[n1,F4 e0,mf,jb,List.reverse_singleton,e,dq];show T++D=T++(d0::D.drop (0+1));rw[<-F6 e0,o3]
  exact way.h (arrOf st) hall m1
 case h=>
  intro xs1 hall m1;refine ei (xc (ou ⟨rfl,?_⟩));refine ei (me (wpS_forRange
   (I:=λu c st'=>∃(neq:Nat) (xs:Array fg) (hd tl:List fg),c=(none,u,neq)/\st'=setArr st xs/\xs.toList=T++(hd++tl)++D.drop u/\(hd++tl).length=u/\tl.length=neq+1/\Aq blt (D.take u)=tl++hd.reverse/\(∀a∈hd,∀b∈tl,blt b a=true)/\(∀a∈tl,∀b∈tl,blt a b=false))
   (Q:=λc st'=>∃(m neq:Nat) (xs:Array fg) (hd tl:List fg),c=(none,m,neq)/\n+1<=m/\m<=nrem/\st'=setArr st xs/\xs.toList=T++(hd++tl)++D.drop m/\(hd++tl).length=m/\tl.length=neq+1/\Aq blt (D.take m)=tl++hd.reverse) ?_ ?_ ⟨0,xs1,(D.take n).reverse,[x],rfl,rfl,?_,?_,rfl,?_,?_,?_⟩) ?_)
  ·rintro u c st' hu1 hu2 ⟨neq,xs,hd,tl,rfl,rfl,q1,q2,q3,q4,q5,q6⟩
   dsimp only;obtain⟨v,ev⟩:∃v,D[u]?=some v:=⟨_,df (by lia)⟩;obtain⟨t,et⟩:∃t,tl[tl.length-1]?=some t:=⟨_,df (by lia)⟩;have htl:=d5 et;have PT:∀z∈tl,P z:=λz hz=>PD z (jv ((C0 blt (D.take u)).mem_iff.mp (by rw[q4];exact jw _ hz)));have pv:(arrOf (setArr st xs))[lo+u]?=some v:=by
    show xs[lo+u]?=some v;rw[<-en,q1,d8 (by rw[di];lia),di,q2,lT,jd,i7,jr];exact ev
   have pt:(arrOf (setArr st xs))[lo+u-1]?=some t:=by
    show xs[lo+u-1]?=some t;have hu:1<=u:=by lia
    have q2':=q2;rw[di] at q2';rw[xx hu,<-en,q1,dq,d8 (by rw[lT];exact iq _ _),lT,gi,fv (by rw[q2];exact CS hu BO),d8 (by lia),show u-1-hd.length=tl.length-1 by lia];exact et
   refine ei (Ia L hk pv pt (PD _ (d5 ev)) (PT _ htl) ?_);dsimp only;have esn:Aq blt (D.take (u+1))=mg blt (tl++hd.reverse) [v]:=by rw[F4 ev,Ci,q4]
   have edr:=F6 ev
   cases hs:blt v t with
   |true=>
    rw[if_pos rfl];have v1:∀z∈tl,blt v z=true:=λz hz=>o.ltle hs (q6 z hz t htl);have v2:∀z∈hd,blt v z=true:=λz hz=>o.tr _ _ _ hs (q5 z hz t htl);have e5:Aq blt (D.take (u+1))=[v]++(hd++tl.reverse).reverse:=by
     rw[esn,nv,mz];have:=C9 blt (xs:=tl++hd.reverse) (bs:=[v]) (ys:=[]) λb hb z hz=>by
      rw[ee.mp hb];rcases gj.mp hz with hz|hz
      ·exact v1 z hz
      ·exact v2 z (re.mp hz)
     rw[fw,Bk] at this;exact this
    have fin:∀ys:Array fg,ys.toList=T++(hd++tl.reverse)++D.drop u->∃(neq':Nat) (xs':Array fg) (hd' tl':List fg),((none,u+1,0):Option (Option Nat)×Nat×Nat)=(none,u+1,neq')/\setArr st ys=setArr st xs'/\xs'.toList=T++(hd'++tl')++D.drop (u+1)/\(hd'++tl').length=u+1/\tl'.length=neq'+1/\Aq blt (D.take (u+1))=tl'++hd'.reverse/\(∀a∈hd',∀b∈tl',blt b a=true)/\(∀a∈tl',∀b∈tl',blt a b=false):=λys ey=>by
     refine⟨0,ys,hd++tl.reverse,[v],rfl,rfl,?_,?_,rfl,e5,?_,?_⟩
     ·rw[ey,edr]
      simp only[dq,jz,jb]
     ·rw[di,di,pr,<-di,q2]
      rfl
     ·intro a ha b hb
      rw[ee.mp hb];rcases gj.mp ha with ha|ha
      ·exact v2 a ha
      ·exact v1 a (re.mp ha)
     ·intro a ha b hb
      rw[ee.mp ha,ee.mp hb];exact o.irr v
    by_cases hq:neq>0
    ·rw[if_pos hq]
     refine ei (w9 (fe (fin _ ?_)));have hlen:hd.length+tl.length=u:=by rw[<-di];exact q2
     have:=Gc (xs:=xs) (U:=T++hd) (V:=tl) (W:=D.drop u) (i:=lo+u-(neq+1)) (j:=lo+u) (by rw[q1];simp only[dq]) (by rw[di,lT,<-hlen,q3,<-i0,tm]) (by rw[di,lT,<-hlen,<-i0]);show(mirror xs _ _ _).toList=_;rw[this];simp only[dq]
    ·rw[if_neg hq]
     refine fe (fin _ ?_);have:tl.reverse=tl:=by
      obtain⟨z,rfl⟩:=AH.mp (show tl.length=1 by lia);rfl
     rw[this];exact q1
   |false=>
    rw[if_neg (by decide)];refine ei (Ia L hk pt pv (PT _ htl) (PD _ (d5 ev)) ?_);dsimp only
    cases hg:blt t v with
    |true=>
     rw[if_pos rfl];exact fe ⟨u,neq,xs,hd,tl,rfl,hu1,by lia,rfl,q1,q2,q3,q4⟩
    |false=>
     rw[if_neg (by decide)];have v1:∀z∈tl,blt v z=false:=λz hz=>o.le (q6 t htl z hz) hs;have v3:∀z∈tl,blt z v=false:=λz hz=>o.le hg (q6 z hz t htl);have v2:∀z∈hd,blt v z=true:=λz hz=>o.lelt hg (q5 z hz t htl);refine fe ⟨neq+1,xs,hd,tl++[v],rfl,rfl,?_,?_,?_,?_,?_,?_⟩
     ·rw[q1,edr]
      simp only[dq,jz,jb]
     ·rw[<-dq,di,q2]
      rfl
     ·rw[di,q3]
      rfl
     ·rw[esn,D1 blt λa ha z hz=>by rw[ee.mp hz];exact v1 a ha]
      have:=C9 blt (xs:=hd.reverse) (bs:=[v]) (ys:=[]) λb hb z hz=>by
       rw[ee.mp hb];exact v2 z (re.mp hz)
      rw[fw,Bk] at this;rw[this,dq]
     ·intro a ha b hb
      rcases gj.mp hb with hb|hb
      ·exact q5 a ha b hb
      ·rw[ee.mp hb];exact v2 a ha
     ·intro a ha b hb
      rcases gj.mp ha with ha|ha
      ·rcases gj.mp hb with hb|hb
       ·exact q6 a ha b hb
       ·rw[ee.mp hb];exact v3 a ha
      ·rw[ee.mp ha]
       rcases gj.mp hb with hb|hb
       ·exact v1 b hb
       ·rw[ee.mp hb];exact o.irr v
  ·rintro c st' ⟨neq,xs,hd,tl,rfl,rfl,q1,q2,q3,q4,q5,q6⟩
   have hmx:max (n+1) nrem=nrem:=by lia
   rw[hmx] at q1 q2 q4 ⊢;exact⟨nrem,neq,xs,hd,tl,rfl,by lia,dh _,rfl,q1,q2,q3,q4⟩
  ·rw[m1,F6 ex]
   simp only[dq,jz,jb]
  ·rw[di,pr,lDn]
   rfl
  ·rw[F4 ex,Ci,Hg sn,mz]
   have:=C9 blt (xs:=D.take n) (bs:=[x]) (ys:=[]) λb hb z hz=>by
    rw[ee.mp hb];exact hall z hz
   rw[fw,Bk] at this;exact this
  ·intro a ha b hb
   rw[ee.mp hb];exact hall a (re.mp ha)
  ·intro a ha b hb
   rw[ee.mp ha,ee.mp hb];exact o.irr x
  ·rintro c st' ⟨m,neq,xs,hd,tl,rfl,hm1,hm2,rfl,q1,q2,q3,q4⟩
   dsimp only;have hlen:hd.length+tl.length=m:=by rw[<-di];exact q2
   have last:∀ys:Array fg,ys.toList=T++(tl++hd.reverse)++D.drop m->∀F:Nat->Option (Option Nat)×Nat->StateT i5 Sem (ForInStep (Option (Option Nat)×Nat)),
     (∀x n,F x (none,n)=(do
      let r <-ltAt' (lo+n) (lo+n-1)
      match r with
      |some smaller=>if smaller=true then pure (qc (none,n)) else pure (pe (none,n+1))
      |x=>pure (qc (some none,n)))) ->
     wpS (model prog w) A E s (forIn [m:nrem] (none,m) F) (λr st'=>∃m',r=(none,m')/\Q (some m') st') (setArr st ys):=λys ey F hF=>by
    have sC:Srt blt (tl++hd.reverse):=by rw[<-q4];exact K3 o _
    refine W1 L o (T:=T) (C:=tl++hd.reverse) (D:=D) hF hk ?_ lT lD (by lia) hm2 (by rw[di,pr];lia) ey sC λn' hn1' hn2' sn' _=>⟨n',rfl,h n' ys (by lia) hn2' ?_⟩
    ·intro z hz
     have hz:z∈ys.toList:=hz;rw[ey] at hz;rcases gj.mp hz with hz|hz
     ·rcases gj.mp hz with hz|hz
      ·exact hP z (by rw[e];exact jw _ hz)
      ·rw[<-q4] at hz
       exact PD z (jv ((C0 blt _).mem_iff.mp hz))
     ·exact PD z (ni hz)
    ·rw[<-q4] at sn'
     have e7:D.take n'=D.take m++(D.drop m).take (n'-m):=by rw[Ek D hn1']
     rw[e7,dA o sn',ey,q4];have e8:D.drop m=(D.drop m).take (n'-m)++D.drop n':=by
      have:=Ff D m (n'-m);rw[sk hn1'] at this;exact this
     conv=>lhs;rw[e8]
     simp only[dq]
   by_cases hq:neq>0
   ·rw[if_pos hq]
    have r1:=Gc (xs:=xs) (U:=T++hd) (V:=tl) (W:=D.drop m) (i:=lo+m-(neq+1)) (j:=lo+m) (by rw[q1];simp only[dq]) (by rw[di,lT,<-hlen,q3,<-i0,tm]) (by rw[di,lT,<-hlen,<-i0]);refine ei (w9 ?_);refine ei (w9 ?_);have r2:=Gc (xs:=mirror xs (lo+m-(neq+1)) (lo+m) ((lo+m-(lo+m-(neq+1)))/2)) (U:=T) (V:=hd++tl.reverse) (W:=D.drop m) (i:=lo) (j:=lo+m) (by rw[r1];simp only[dq]) lT.symm (by rw[di,pr];lia);rw[nv,mz] at r2;refine ei (me (last _ r2 _ (λx n=>rfl)) ?_);rintro c st' ⟨m',rfl,hQ⟩;exact fe hQ
   ·rw[if_neg hq]
    have hrv:tl.reverse=tl:=by
     obtain⟨z,rfl⟩:=AH.mp (show tl.length=1 by lia);rfl
    refine ei (w9 ?_);have r2:=Gc (xs:=xs) (U:=T) (V:=hd++tl) (W:=D.drop m) (i:=lo) (j:=lo+m) q1 lT.symm (by rw[q2];lia);rw[nv,hrv] at r2;refine ei (me (last _ r2 _ (λx n=>rfl)) ?_);rintro c st' ⟨m',rfl,hQ⟩;exact fe hQ
end
def Ho:Nat->List (List fg)->List (Nat×Nat×Nat)->Prop
 |_,[],[]=>True
 |s,g::gs,(s',n,_)::q=>s'=s/\n=g.length/\Ho (s+g.length) gs q
 |_,_,_=>False
theorem Of:∀{s:Nat} {A B:List (List fg)} {q:List (Nat×Nat×Nat)},Ho s (A++B) q->∃q1 q2,q=q1++q2/\q1.length=A.length/\Ho s A q1/\Ho (s+A.flatten.length) B q2
 |s,[],B,q,h=>⟨[],q,rfl,rfl,trivial,h⟩
 |s,g::A,B,(s',n,p)::q,h=>by
  obtain⟨h1,h2,h3⟩:=h;obtain⟨q1,q2,e,l,a,b⟩:=Of h3;refine⟨(s',n,p)::q1,q2,by rw[e];rfl,by rw[fj,l];rfl,⟨h1,h2,a⟩,?_⟩;rw[gd,di,<-i0];exact b
 |s,g::A,B,[],h=>h.elim
theorem Me:∀{s:Nat} {A B:List (List fg)} {q1 q2:List (Nat×Nat×Nat)},Ho s A q1->Ho (s+A.flatten.length) B q2->Ho s (A++B) (q1++q2)
 |s,[],B,[],q2,_,h=>h
 |s,g::A,B,(s',n,p)::q1,q2,⟨h1,h2,h3⟩,h=>⟨h1,h2,Me h3 (by rw[gd,di,<-i0] at h;exact h)⟩
 |s,[],B,_::_,q2,h,_=>h.elim
 |s,g::A,B,[],q2,h,_=>h.elim
theorem Tn {s:Nat}{A:List (List fg)}{q:List (Nat×Nat×Nat)}(h:Ho s A q):q.length=A.length:=by
 rw[show A=A++[] by rw[fw]] at h;obtain⟨q1,q2,e,l,_,b⟩:=Of h
 cases q2 with
 |nil=>rw[e,fw,l]
 |cons x r=>exact b.elim
theorem iQ {α:Type}{q1 q2:List α}{x y z:α}{i:Nat}(h:q1.length=i):((q1++x::y::q2).set i z).eraseIdx (i+1)=q1++z::q2:=by
 subst h;rw[List.set_append_right _ _ (dh _),jd,List.set_cons_zero,List.eraseIdx_append_of_length_le (qp _),show q1.length.succ-q1.length=1 by lia];rfl
theorem Mj {pw:Nat}:∀{s:Nat} {A:List (List fg)} {q:List (Nat×Nat×Nat)} (i:Nat),Ho s A q->Ho s A (q.modify i λx=>(x.1,x.2.1,pw))
 |_,[],[],i,_=>by cases i<;>trivial
 |_,g::A,(s',n,p)::q,0,⟨h1,h2,h3⟩=>⟨h1,h2,h3⟩
 |_,g::A,(s',n,p)::q,i+1,⟨h1,h2,h3⟩=>⟨h1,h2,Mj i h3⟩
 |_,[],_::_,_,h=>h.elim
 |_,_::_,[],_,h=>h.elim
theorem Mv (blt:fg->fg->Bool):∀A:List (List fg),((A.map (Aq blt)).flatten).length=A.flatten.length
 |[]=>rfl
 |g::A=>by rw[ft,gd,gd,di,di,Dc,Mv blt A]
theorem Yd (blt:fg->fg->Bool){x:fg}:∀{A:List (List fg)},x∈(A.map (Aq blt)).flatten->x∈A.flatten
 |[],h=>h
 |g::A,h=>by
  rw[ft,gd] at h;rw[gd];rcases gj.mp h with h|h
  ·exact jw _ ((C0 blt g).mem_iff.mp h)
  ·exact e6 _ (Yd blt h)
theorem Op {U V W:List fg}:(U++(V++W)).take U.length=U/\(U++(V++W)).drop U.length=V++W/\((U++(V++W)).drop U.length).take V.length=V/\(U++(V++W)).drop (U.length+V.length)=W:=by
 have e2:(U++(V++W)).drop U.length=V++W:=by rw[je (dh _),o8,jb]
 refine⟨by rw[ik (dh _),lu],e2,?_,?_⟩
 ·rw[e2,ik (dh _),lu]
 ·rw[<-ka,e2,je (dh _),o8,jb]
structure SI (kd:rh) (blt:fg->fg->Bool) (l0:List fg) (segs:List (List fg)) (lo:Nat) (st:i5):Prop where
 ne:∀g∈segs,g≠[]
 all:segs.flatten++l0.drop lo=l0
 len:segs.flatten.length=lo
 arr:(arrOf st).toList=(segs.map (Aq blt)).flatten++l0.drop lo
 pend:Ho 0 segs (pendingOf st).toList
 kind:kindOf st=kd
 fail:failedOf st=none
theorem SI.few {kd:rh}{blt:fg->fg->Bool}{segs:List (List fg)}{lo:Nat}{st:i5}(h:SI kd blt l0 segs lo st):segs.length<=lo:=by
 have key:∀A:List (List fg),(∀g∈A,g≠[])->A.length<=A.flatten.length:=λA=>by
  induction A with
  |nil=>intro _;exact dh _
  |cons g A ih=>
   intro hn;have h1:=ih λx hx=>hn x (fb _ hx);have h2:=sg.mpr (hn g fi);rw[gd,di,fj];lia
 have:=key segs h.ne;rw[h.len] at this;exact this
theorem SI.size {kd:rh}{blt:fg->fg->Bool}{segs:List (List fg)}{lo:Nat}{st:i5}(h:SI kd blt l0 segs lo st):(arrOf st).size=l0.length:=by
 rw[<-eh,h.arr,di,Mv];have:=congrArg k6 h.all;rw[di] at this;exact this
theorem SI.mem {kd:rh}{blt:fg->fg->Bool}{segs:List (List fg)}{lo:Nat}{st:i5}(h:SI kd blt l0 segs lo st){x:fg}(hx:x∈(arrOf st).toList):x∈l0:=by
 rw[h.arr] at hx;rw[<-h.all];rcases gj.mp hx with hx|hx
 ·exact jw _ (Yd blt hx)
 ·exact e6 _ hx
section
variable {prog:fh} {w:gp} {A:ir} {E:Za0} {s:d4}
variable {kd:rh} {P:fg->Prop} {blt:fg->fg->Bool} (L:Zp prog w A E s kd P blt) (o:Swo blt)
include L o
theorem Pa {st:i5}{lo ok:Nat}{T D:List fg}{Q:Bool->i5->Prop}(hk:kindOf st=kd)(hP:∀x∈D,P x)(hT:T.length=lo)(hok:1<=ok)(hn:ok<=n)(hD:n<=D.length)
  (e:(arrOf st).toList=T++Aq blt (D.take ok)++D.drop ok)(h:∀xs:Array fg,xs.toList=T++Aq blt (D.take n)++D.drop n->Q true (setArr st xs)) :
  wpS (model prog w) A E s (binarySort' lo n ok) Q st:=by
 have hmx:max ok 1=ok:=by lia
 refine ei (me (wpS_forRange (I:=λk c st'=>c=(none,())/\k<=n/\∃xs:Array fg,st'=setArr st xs/\xs.toList=T++Aq blt (D.take k)++D.drop k)
  (Q:=λc st'=>c=(none,())/\∃xs:Array fg,st'=setArr st xs/\xs.toList=T++Aq blt (D.take n)++D.drop n) ?_ ?_ ⟨rfl,by lia,arrOf st,rfl,by rw[hmx];exact e⟩) ?_)
 ·rintro k c st' hk1 hk2 ⟨rfl,_,xs,rfl,ex⟩
  dsimp only;obtain⟨v,ev⟩:∃v,D[k]?=some v:=⟨_,df (by lia)⟩;have lS:(Aq blt (D.take k)).length=k:=by rw[Dc,dy];lia
  have sS:=K3 o (D.take k);have pS:∀x∈Aq blt (D.take k),P x:=λx hx=>hP x (jv ((C0 blt _).mem_iff.mp hx));have esn:Aq blt (D.take (k+1))=mg blt (Aq blt (D.take k)) [v]:=by rw[F4 ev,Ci]
  generalize Aq blt (D.take k)=S at *;have pv:xs[lo+k]?=some v:=by
   rw[<-en,ex,d8 (by rw[di];lia),di,lS,hT,jd,i7,jr];exact ev
  have pm:∀m,m<k->xs[lo+m]?=S[m]?:=λm hm=>by
   rw[<-en,ex,dq,d8 (by lia),hT,gi,fv (by lia)]
  refine ei (me (wpS_forRange (I:=λx c st'=>∃l r,c=(none,l,r)/\st'=setArr st xs/\l<=r/\r<=k/\r-l+x<=k/\(∀i z,i<l->S[i]?=some z->blt v z=false)/\(∀i z,r<=i->S[i]?=some z->blt v z=true))
   (Q:=λc st'=>∃l r,c=(none,l,r)/\st'=setArr st xs/\l<=k/\(∀i z,i<l->S[i]?=some z->blt v z=false)/\(∀i z,l<=i->S[i]?=some z->blt v z=true)) ?_ ?_ ⟨0,k,rfl,rfl,by lia,by lia,by lia,?_,?_⟩) ?_)
  ·rintro x c st' _ hx ⟨l,r,rfl,rfl,q1,q2,q3,q4,q5⟩
   dsimp only
   by_cases hge:l>=r
   ·rw[if_pos hge]
    exact fe ⟨l,r,rfl,rfl,by lia,q4,λi z hi ez=>q5 i z (by lia) ez⟩
   ·rw[if_neg hge]
    have ht1:l<=(l+r)/2:=by lia
    have ht2:(l+r)/2<r:=by lia
    generalize (l+r)/2=t at *;obtain⟨z,ez⟩:∃z,S[t]?=some z:=⟨_,df (by lia)⟩;refine ei (Ia L hk pv (by show xs[_]?=_;rw[pm _ (by lia)];exact ez) (hP _ (d5 ev)) (pS _ (d5 ez)) ?_);dsimp only
    cases hb:blt v z with
    |true=>
     rw[if_pos rfl];exact fe ⟨_,_,rfl,rfl,by lia,by lia,by lia,q4,λi z' hi ez'=>o.ltle hb (D5 o sS hi ez ez')⟩
    |false=>
     rw[if_neg (by decide)];exact fe ⟨_,_,rfl,rfl,by lia,by lia,by lia,(λi z' hi ez'=>o.le (D5 o sS (show i<=t by lia) ez' ez) hb),q5⟩
  ·rintro c st' ⟨l,r,rfl,rfl,q1,q2,q3,q4,q5⟩
   have:max 0 k=k:=by lia
   rw[this] at q3;exact⟨l,r,rfl,rfl,by lia,q4,λi z hi ez=>q5 i z (by lia) ez⟩
  ·intro i z hi
   lia
  ·intro i z hi ez
   have:=(d9.mp ez).1;lia
  ·rintro c st' ⟨l,r,rfl,rfl,q1,q4,q5⟩
   dsimp only;refine ei (?_:wpS (model prog w) A E s (moveDown' (lo+k) (lo+l)) _ _);rw[moveDown'_eq];refine ug (fe ⟨rfl,by lia,bubble xs (lo+k) (lo+k-(lo+l)),rfl,?_⟩);have hsz:xs.size=lo+D.length:=by
    rw[<-eh,ex,di,di,lS,hT,io];lia
   rw[Yw (by lia) (by lia) pv,Nat.sub_sub_self (ww (by lia) lo),Nat.add_sub_add_left,ex];have hl:T.length+(S.take l).length=lo+l:=by rw[dy];lia
   have e1:T++S++D.drop k=(T++S.take l)++(S.drop l++D.drop k):=by
    conv=>lhs;rw[<-gu l S]
    simp only[dq]
   have hl2:(S.drop l).length=k-l:=by rw[io,lS]
   obtain⟨m1,m2,m3,m4⟩:=Op (U:=T++S.take l) (V:=S.drop l) (W:=D.drop k);rw[di,hl] at m1 m2 m3 m4;rw[hl2] at m3 m4;have e2:(T++S++D.drop k).drop (lo+k+1)=D.drop (k+1):=by
    rw[<-ka,e1,show lo+k=lo+l+(k-l) by lia,m4,ka]
   rw[e2,e1,m1,m3,esn];have hS:S=S.take l++S.drop l:=(gu l S).symm
   conv=>rhs;rw[hS]
   rw[D1 blt λa ha y hy=>?_]
   ·have:=C9 blt (xs:=S.drop l) (bs:=[v]) (ys:=[]) λb hb z hz=>by
     rw[ee.mp hb];obtain⟨j,hj,ez⟩:=P5 hz;exact q5 j z hj ez
    rw[fw,Bk] at this;rw[this];simp only[dq]
   ·rw[ee.mp hy]
    obtain⟨j,hj,ez⟩:=Ib ha;exact q4 j a hj ez
 ·rintro c st' ⟨rfl,hle,xs,rfl,ex⟩
  rw[hmx] at hle ex;have:max ok n=n:=by lia
  rw[this] at ex;exact⟨rfl,xs,rfl,ex⟩
 ·rintro c st' ⟨rfl,xs,rfl,ex⟩
  exact fe (h xs ex)
theorem O3 {segs:List (List fg)}{lo i:Nat}{st:i5}{Q:Bool->i5->Prop}(hP:∀x∈l0,P x)(S:SI kd blt l0 segs lo st)(hi:i+1<segs.length)
  (h:∀segs' st',segs'.length+1=segs.length->SI kd blt l0 segs' lo st'->Q true st'):wpS (model prog w) A E s (mergeAt' i) Q st:=by
 obtain⟨A1,g,g',B,rfl,hA⟩:∃A1 g g' B,segs=A1++g::g'::B/\A1.length=i:=by
  refine⟨segs.take i,segs[i],segs[i+1],segs.drop (i+2),?_,by rw[dy];lia⟩;rw[<-pq,<-pq,gu]
 obtain⟨q1,q2,eq,lq,p1,p2⟩:=Of S.pend;obtain⟨s1,n1,w1,q3,rfl⟩:∃s1 n1 w1 q3,q2=(s1,n1,w1)::q3:=by
  cases q2 with
  |nil=>exact p2.elim
  |cons t r=>exact⟨t.1,t.2.1,t.2.2,r,rfl⟩
 obtain⟨es1,en1,p3⟩:=p2;obtain⟨s2,n2,w2,q4,rfl⟩:∃s2 n2 w2 q4,q3=(s2,n2,w2)::q4:=by
  cases q3 with
  |nil=>exact p3.elim
  |cons t r=>exact⟨t.1,t.2.1,t.2.2,r,rfl⟩
 obtain⟨es2,en2,p4⟩:=p3;rw[ip] at es1 es2 p4;subst es1 en1 es2 en2;have hg:g≠[]:=S.ne g (by simp);have hg':g'≠[]:=S.ne g' (by simp);have earr:(arrOf st).toList=(A1.map (Aq blt)).flatten++(Aq blt g++(Aq blt g'++((B.map (Aq blt)).flatten++l0.drop lo))):=by
  rw[S.arr,ed,ft,ft,iy,gd,gd];simp only[dq]
 have lA:((A1.map (Aq blt)).flatten).length=A1.flatten.length:=Mv blt A1;have lg:(Aq blt g).length=g.length:=Dc blt g;have lg':(Aq blt g').length=g'.length:=Dc blt g';obtain⟨m1,m2,m3,m4⟩:=Op (U:=(A1.map (Aq blt)).flatten) (V:=Aq blt g) (W:=Aq blt g'++((B.map (Aq blt)).flatten++l0.drop lo));rw[<-earr,lA] at m1 m2 m3 m4;rw[lg] at m3 m4;obtain⟨_,_,m5,m6⟩:=Op (U:=(A1.map (Aq blt)).flatten++Aq blt g) (V:=Aq blt g') (W:=(B.map (Aq blt)).flatten++l0.drop lo);rw[dq,<-earr,di,lA,lg,lg'] at m5 m6;have hsz:A1.flatten.length+g.length+g'.length<=(arrOf st).size:=by
  rw[<-eh,earr];simp only[di,lA,lg,lg'];lia
 have i1:(pendingOf st)[i]?=some (A1.flatten.length,g.length,w1):=by
  rw[<-en,eq,d8 (by lia),lq,hA,jd];rfl
 have i2:(pendingOf st)[i+1]?=some (A1.flatten.length+g.length,g'.length,w2):=by
  rw[<-en,eq,d8 (by lia),lq,hA,show i+1-i=1 by lia];rfl
 refine Ym L o S.kind S.fail i1 i2 (sg.mpr hg) (sg.mpr hg') hsz (λx hx=>hP x (S.mem hx)) (by rw[m3];exact K3 o _) (by rw[m5];exact K3 o _) λst' k1 k2 k3 k4=>?_;refine h (A1++(g++g')::B) st' (by simp only[di,fj];lia) ⟨λx hx=>?_,?_,?_,?_,?_,k1,k2⟩
 ·rcases gj.mp hx with hx|hx
  ·exact S.ne x (jw _ hx)
  ·rcases gt.mp hx with rfl|hx
   ·exact λe=>hg (List.append_eq_nil_iff.mp e).1
   ·exact S.ne x (e6 _ (fb _ (fb _ hx)))
 ·have:=S.all
  simp only[iy,gd,dq] at this ⊢;exact this
 ·have:=S.len
  simp only[iy,gd,di] at this ⊢;lia
 ·rw[k4,m1,m3,m5,m6,<-Tp o,ed,ft,iy,gd]
  simp only[dq]
 ·rw[k3,Array.toList_eraseIdxIfInBounds,zf,eq,iQ (by lia)]
  refine Me p1 ⟨by rw[ip],by rw[di],?_⟩;rw[ip,di,<-i0];exact p4
theorem Ln {st:i5}{Q:Unit->i5->Prop}(hk:kindOf st=kd)(hf:failedOf st=none)(hp:pendingOf st=#[])(e:(arrOf st).toList=l0)(hP:∀x∈l0,P x)(h2:1<=l0.length)
  (h:∀st':i5,failedOf st'=none->(arrOf st').toList=Aq blt l0->Q () st'):wpS (model prog w) A E s sortRuns' Q st:=by
 have hsz:(arrOf st).size=l0.length:=by rw[<-eh,e]
 have S0:SI kd blt l0 [] 0 st:=⟨(λg hg=>by cases hg),by rw[o3];rfl,rfl,by rw[e,o3];rfl,by rw[hp];trivial,hk,hf⟩;refine ei (tu ?_);dsimp only;generalize (arrOf st).size=sz at *;subst hsz;generalize (sortPriv% PySem.Builtin.minRun) l0.length l0.length 0=mr;refine ei (me (wpS_forRange (I:=λx c st'=>∃lo segs,c=(none,lo)/\x<=lo/\lo<=l0.length/\SI kd blt l0 segs lo st')
  (Q:=λc st'=>∃segs,c=(none,l0.length)/\SI kd blt l0 segs l0.length st') ?_ ?_ ⟨0,[],rfl,dh _,f7 _,S0⟩) ?_)
 ·rintro x c st1 _ hx ⟨lo,segs,rfl,hxl,hlo,S⟩
  dsimp only
  by_cases hge:lo>=l0.length
  ·rw[if_pos hge]
   have:lo=l0.length:=by lia
   subst this;exact fe ⟨segs,rfl,S⟩
  rw[if_neg hge];have lF:((segs.map (Aq blt)).flatten).length=lo:=by rw[Mv,S.len]
  have dlo:(arrOf st1).toList.drop lo=l0.drop lo:=by rw[S.arr,je (by lia),jo (by lia),jb]
  have tlo:(arrOf st1).toList.take lo=(segs.map (Aq blt)).flatten:=by rw[S.arr,ik (by lia),fc (by lia)]
  have lD:(l0.drop lo).length=l0.length-lo:=io;have hD:∀x∈l0.drop lo,P x:=λx hx=>hP x (ni hx);refine ei (S6 L o S.kind (λx hx=>hP x (S.mem hx)) (by rw[S.size];lia) (by lia) λm xs hm1 hm2 ex=>?_);rw[dlo,tlo] at ex;dsimp only
  by_cases hlt:m<mr
  case' pos=>
   rw[if_pos hlt];refine ei (xc (ou ⟨rfl,?_⟩));refine ei (Pa L o (st:=setArr st1 xs) (lo:=lo) (n:=min (l0.length-lo) mr) (ok:=m) (T:=(segs.map (Aq blt)).flatten) (D:=l0.drop lo) S.kind hD lF hm1 (by lia) (by lia) ex λxs2 ex2=>?_);rw[if_neg (by decide)];have hn1:1<=min (l0.length-lo) mr:=by lia
   have hn2:min (l0.length-lo) mr<=l0.length-lo:=by lia
   clear ex;have ex:=ex2;clear ex2 hm1 hm2 hlt;have hm1:=hn1;have hm2:=hn2;clear hn1 hn2;generalize min (l0.length-lo) mr=n at *;show wpS _ _ _ _ _ _ (setArr st1 xs2);generalize xs2=xs3 at *
  case' neg=>
   rw[if_neg hlt];clear hlt;generalize m=n at *;generalize xs=xs3 at *
  all_goals
   have hl0':((l0.take lo++(Aq blt ((l0.drop lo).take n)++(l0.drop lo).drop n)).drop lo)=Aq blt ((l0.drop lo).take n)++(l0.drop lo).drop n:=by
    rw[je (by rw[dy];lia),jo (by rw[dy];lia),jb]
   have hsf:segs.flatten=l0.take lo:=by
    have:=congrArg (AD lo) S.all;rw[ik (by rw[S.len];exact dh _),fc (by rw[S.len];exact dh _)] at this;exact this
   have S':SI kd blt (l0.take lo++(Aq blt ((l0.drop lo).take n)++(l0.drop lo).drop n)) segs lo (setArr st1 xs3):=
    ⟨S.ne,by rw[hl0',hsf],S.len,by show xs3.toList=_;rw[ex,hl0',dq],S.pend,S.kind,S.fail⟩
   have hP':∀x∈l0.take lo++(Aq blt ((l0.drop lo).take n)++(l0.drop lo).drop n),P x:=λx hx=>by
    rcases gj.mp hx with hx|hx
    ·exact hP x (jv hx)
    ·rcases gj.mp hx with hx|hx
     ·exact hD x (jv ((C0 blt _).mem_iff.mp hx))
     ·exact hD x (ni hx)
   have fin:∀(segs':List (List fg)) (st3:i5) (q:Array (Nat×Nat×Nat)),SI kd blt (l0.take lo++(Aq blt ((l0.drop lo).take n)++(l0.drop lo).drop n)) segs' lo st3->Ho 0 segs' q.toList ->
     SI kd blt l0 (segs'++[(l0.drop lo).take n]) (lo+n) (setPending st3 (q.push (lo,n,0))):=λsegs' st3 q S3 hq=>by
    have hsf':segs'.flatten=l0.take lo:=by
     have:=congrArg (AD lo) S3.all;rw[ik (by rw[S3.len];exact dh _),fc (by rw[S3.len];exact dh _),ik (by rw[dy];lia),fc (l:=l0.take lo) (by rw[dy];lia)] at this;exact this
    have ln:((l0.drop lo).take n).length=n:=by rw[dy];lia
    refine⟨λg hg=>?_,?_,?_,?_,?_,S3.kind,S3.fail⟩
    ·rcases gj.mp hg with hg|hg
     ·exact S3.ne g hg
     ·rw[ee.mp hg]
      exact λz=>by rw[z] at ln;simp at ln;lia
    ·rw[iy,og,hsf',<-ka,dq,gu,gu]
    ·rw[iy,og,di,S3.len,ln]
    ·show(arrOf st3).toList=_
     rw[S3.arr,hl0',ed,ft,o7,iy,og,<-ka,dq]
    ·show Ho 0 _ (q.push (lo,n,0)).toList
     rw[CH];refine Me hq ⟨?_,ln.symm,trivial⟩;rw[ip,S3.len]
   refine ei (tu ?_);dsimp only
   cases hb:(pendingOf (setArr st1 xs3)).back? with
   |none=>
    dsimp only;exact ei (ug (fe ⟨lo+n,_,rfl,by lia,by lia,fin segs (setArr st1 xs3) (pendingOf st1) S' S.pend⟩))
   |some t=>
    obtain⟨s1,n1,w1⟩:=t;dsimp only;generalize (sortPriv% PySem.Builtin.power) l0.length (2*s1+n1) (2*s1+n1+n1+n) l0.length=pw;refine ei (me (wpS_forRange (I:=λx c st'=>c=(none,())/\∃segs',SI kd blt (l0.take lo++(Aq blt ((l0.drop lo).take n)++(l0.drop lo).drop n)) segs' lo st')
     (Q:=λc st'=>c=(none,())/\∃segs',SI kd blt (l0.take lo++(Aq blt ((l0.drop lo).take n)++(l0.drop lo).drop n)) segs' lo st') ?_ ?_ ⟨rfl,segs,S'⟩) ?_)
    ·rintro y c st4 _ hy ⟨rfl,segs',S4⟩
     refine ei (tu ?_)
     try dsimp only
     have hpl:(pendingOf st4).size=segs'.length:=by rw[<-eh];exact Tn S4.pend
     by_cases c1:(pendingOf st4).size>1
     ·rw[if_pos c1]
      obtain⟨t,et⟩:∃t,(pendingOf st4)[(pendingOf st4).size-2]?=some t:=⟨_,k8 (by lia)⟩;rw[et];obtain⟨a1,a2,older⟩:=t;dsimp only
      by_cases c2:older<=pw
      ·rw[if_pos c2]
       exact fe ⟨rfl,segs',S4⟩
      ·rw[if_neg c2]
       refine ei (O3 L o (i:=(pendingOf st4).size-2) hP' S4 (by lia) λsegs5 st5 _ S5=>?_);exact fe ⟨rfl,segs5,S5⟩
     ·rw[if_neg c1]
      exact fe ⟨rfl,segs',S4⟩
    ·rintro c st4 ⟨rfl,segs',S4⟩
     exact⟨rfl,segs',S4⟩
    ·rintro c st4 ⟨rfl,segs',S4⟩
     try dsimp only
     refine ei (ug (ei (ug (fe ⟨lo+n,_,rfl,by lia,by lia,fin segs' st4 ((pendingOf st4).modify ((pendingOf st4).size-1) λx=>(x.1,x.2.1,pw)) S4 ?_⟩))));rw[Array.toList_modify];exact Mj _ S4.pend
 ·rintro c st1 ⟨lo,segs,rfl,hxl,hlo,S⟩
  have:max 0 l0.length=l0.length:=by lia
  rw[this] at hxl;have:lo=l0.length:=by lia
  subst this;exact⟨segs,rfl,S⟩
 ·rintro c st1 ⟨segs,rfl,S⟩
  dsimp only;refine ei (me (wpS_forRange (I:=λx c st'=>c=(none,())/\∃segs,segs.length+x<=l0.length/\SI kd blt l0 segs l0.length st')
   (Q:=λc st'=>c=(none,())/\∃segs,segs.length<=1/\SI kd blt l0 segs l0.length st') ?_ ?_ ⟨rfl,segs,S.few,S⟩) ?_)
  ·rintro x c st1 _ hx ⟨rfl,segs,hl,S⟩
   refine ei (tu ?_)
   try dsimp only
   have hpl:(pendingOf st1).size=segs.length:=by rw[<-eh];exact Tn S.pend
   by_cases c1:(pendingOf st1).size<=1
   ·rw[if_pos c1]
    exact fe ⟨rfl,segs,by lia,S⟩
   rw[if_neg c1];have h9:∀c:Bool,(if c=true then(pendingOf st1).size-2-1 else(pendingOf st1).size-2)<=(pendingOf st1).size-2:=λc=>by
    cases c
    ·exact dh _
    ·exact CT _ _
   refine ei (O3 L o hP S (mj (DU (h9 _)) (by lia)) λsegs' st2 hl2 S2=>?_);exact fe ⟨rfl,segs',by lia,S2⟩
  ·rintro c st1 ⟨rfl,segs,hl,S⟩
   have:max 0 l0.length=l0.length:=by lia
   rw[this] at hl;exact⟨rfl,segs,by lia,S⟩
  ·rintro c st1 ⟨rfl,segs,hl,S⟩
   refine fe (h st1 S.fail ?_);have hlen:=S.len;have hall:=S.all;rw[o8,fw] at hall;obtain⟨g,rfl⟩:∃g,segs=[g]:=by
    cases segs with
    |nil=>rw[DL,jh] at hlen;lia
    |cons g r=>
     rw[fj] at hl;exact⟨g,by rw[AE.mp (show r.length=0 by lia)]⟩
   rw[og] at hall;rw[S.arr,o8,fw,ft,o7,og,hall]
end
def Rx (N H:Hp):Hp:=λb=>match N b with|some o=>some o|none=>H b
theorem Jn {N:Hp}{b:dk}{o:HO}(h:N b=some o):Rx N H b=some o:=by unfold Rx;rw[h]
theorem Fu {N:Hp}{b:dk}(h:N b=none):Rx N H b=H b:=by unfold Rx;rw[h]
def Vw (oc:Obj)(qual:Str):Prop:=∃vs t,oc.data=.fields vs/\vs[1]?=some (.str qual t)
def Kk (H:Hp)(P:dk)(pos:Pos)(qual:Str):Prop:=∃ps:Array d3,H P=some (.tbl ps)/\TriplesOk ps.toList/\(codeAmong pos ps.toList=none\/∃c' oc,codeAmong pos ps.toList=some (.ref c')/\H c'=some (.frz oc (.own 0))/\Vw oc qual)
section
variable {X:Cx} {pins:Za1} {G:St} {H:Hp} {s:d4}
theorem Inv.grown {P:dk}{ps more:Array d3}{N:Hp}(I:Inv X pins G H s)(hP:H P=some (.tbl ps))(k:∀b u,b≠P->s.heap.get? b=some u->h'.get? b=some u)(hT:h'.get? P=some (ve (ps++more)))
  (hp:∀b o,N b=some o->s.heap.objs.size<=b)(new:∀b o,N b=some o->Ck X.prog X.w (Rx N (upd H P (.tbl (ps++more)))) h' b o):Inv X pins G (Rx N (upd H P (.tbl (ps++more)))) { s with heap:=h',toks:=t' }:=by
 have hlt:P<s.heap.objs.size:=(I.hok P _ hP).lt;have hNP:N P=none:=by
  cases e:N P with
  |none=>rfl
  |some o=>exact absurd hlt (qi.mpr (hp P o e))
 have hn:∀b o,N b=some o->H b=none:=λb o e=>I.hok.fresh (hp b o e);have old:∀b u,s.heap.get? b=some u->N b=none:=λb u e=>by
  cases hN:N b with
  |none=>rfl
  |some o=>exact absurd (eg e) (qi.mpr (hp b o hN))
 have sm:∀b o,b≠P->H b=some o->Rx N (upd H P (.tbl (ps++more))) b=some o:=λb o hb e=>by
  have:N b=none:=by
   cases hN:N b with
   |none=>rfl
   |some u=>rw[hn b u hN] at e;cases e
  rw[Fu this,Ai hb];exact e
 have neP:∀b,H b=none->b≠P:=λb e z=>by rw[z,hP] at e;cases e
 refine I.un ⟨λb u q n _ _=>k b u (neP b n) q,λb u q n _ _=>⟨u.slots,k b u (neP b n) q⟩,λb u q n _=>by rw[Fu (old b u q),Ai (neP b n)];exact n,λb u q _=>?_,λb xs q=>sm _ _ (λz=>by rw[z,hP] at q;cases q) q,λb u xs q=>sm _ _ (λz=>by rw[z,hP] at q;cases q) q,λb qs q=>?_⟩ λb o e=>?_
 ·by_cases hb:b=P
  ·rw[hb];exact⟨_,hT⟩
  ·exact⟨u,k b u hb q⟩
 ·by_cases hb:b=P
  ·rw[hb,hP] at q
   cases q;exact⟨more,by rw[hb,Fu hNP,Ac]⟩
  ·exact⟨#[],by rw[sm b _ hb q];simp⟩
 ·cases hN:N b with
  |some u=>
   rw[Jn hN] at e;cases e;exact new b _ hN
  |none=>
   rw[Fu hN] at e
   by_cases hb:b=P
   ·rw[hb,Ac] at e
    cases e;rw[hb];exact hT
   ·rw[Ai hb] at e
    refine(I.hok b o e).stay (λc v hc q=>k c v (λz=>?_) q) (λc q=>sm _ _ (λz=>by rw[z,hP] at q;cases q) q) λc xs q=>sm _ _ (λz=>by rw[z,hP] at q;cases q) q;rcases hc with h|h
    ·exact hb (h▸z)
    ·rw[z,hP] at h;cases h
end
def Lm (P:dk)(H H':Hp):Prop:=∀b u,b≠P->H b=some u->H' b=some u
section
variable {X:Cx} {pins:Za1} {G:St} {H:Hp} {s:d4} {M:wo} {A:ir} {E:Za0} {Q:Za0} {c P:dk} {pos:Pos} {qual:Str} {params:l8} {body:ie} {scope:l6} {clos:List (Str×dk)}
theorem Yo (I:Inv X pins G H s)(T:Kk H P pos qual)(C:AW X.base c P)(hb:X.base.BuiltinsAt X.mg P)(hcode:X.env.code=.ref c)(hcl:closureFor scope X.env=pure clos)(hdef:defaultsOf params X.env=([],[]))(hq:X.env.qual++"<lambda>"=qual)
  (h:∀(f c':dk) (oc:Obj) (pm ctv:d3) (s':d4) (H':Hp),Inv X pins G H' s'->Kk H' P pos qual->Lm P H H'->H f=none->H' f=some (.frz (y3 "<lambda>" qual params body scope clos pm c' ctv) (.own 0))->H' c'=some (.frz oc (.own 0))->Vw oc qual->Q (.ref f) s') :
  wpAny M A (eval (.Lambda params body scope pos) X.env) Q E s:=by
 obtain⟨ps,hP,ht,hc⟩:=T;refine PySem.W.kla_eval hdef ?_;rw[hq];have hPs:s.heap.get? P=some (ve ps):=I.hok P _ hP;have hg:s.heap.Ns mainGlobals X.mg:=I.mod.glob.keeps I.bk;have hgP:mainGlobals≠P:=λe=>by
  obtain⟨o,es,ep,e1,d,_⟩:=I.mod.glob;have:=(I.bs _ _ e1).2;rw[e,hP] at this;cases this
 have hb':s.heap.BuiltinsAt X.mg P:=by
  obtain⟨bm,o,a1,a2,a3,a4,a5,a6⟩:=hb;exact⟨bm,o,a1,a2,a3,a4,I.bk _ _ a5,a6⟩
 rcases hc with hc|⟨c',oc,hc,hc',ho⟩
 ·refine PySem.W.kla_makeFunction hcl I.ok.glob hg hcode (C.keeps I.bk) hPs ht hc hgP hb' λc' ctv h' tk hx hge hlt hrec htb=>?_
  obtain⟨c₂,oc,vs,t,e2,hoc,hd,hv⟩:=hrec;cases e2
  let fo:=y3 "<lambda>" qual params body scope clos ((X.mg "__name__").getD .none) c' ctv
  let N:Hp:=λb=>if b=h'.objs.size then some (.frz fo (.own 0)) else if b=c' then some (.frz oc (.own 0)) else none
  have n1:N h'.objs.size=some (.frz fo (.own 0)):=if_pos rfl;have n2:N c'=some (.frz oc (.own 0)):=(if_neg (fm hlt)).trans (if_pos rfl);have n3:∀b o,N b=some o->(b=h'.objs.size/\o=.frz fo (.own 0))\/(b=c'/\o=.frz oc (.own 0)):=λb o e=>by
   by_cases h1:b=h'.objs.size
   ·rw[h1,n1] at e;cases e;exact .inl ⟨h1,rfl⟩
   ·by_cases h2:b=c'
    ·rw[h2,n2] at e;cases e;exact .inr ⟨h2,rfl⟩
    ·have:N b=none:=(if_neg h1).trans (if_neg h2)
     rw[this] at e;cases e
  have hp:∀b o,N b=some o->s.heap.objs.size<=b:=λb o e=>by
   rcases n3 b o e with⟨r,_⟩|⟨r,_⟩<;>rw[r]
   ·exact fq hge (ig hlt)
   ·exact hge
  have hNP:N P=none:=by
   cases e:N P with
   |none=>rfl
   |some o=>exact absurd (I.hok P _ hP).lt (qi.mpr (hp P o e))
  have gf:(h'.push fo).get? h'.objs.size=some fo:=fu _ rfl;have gc:(h'.push fo).get? c'=some oc:=dj _ hoc;have I':=Inv.grown (N:=N) (more:=#[EM pos.line,EM pos.col,.ref c']) (h':=h'.push fo) (t':=tk) I hP (λb u hb e=>dj _ (hx b u hb e)) (dj _ htb) hp λb o e=>by
   rcases n3 b o e with⟨r,r'⟩|⟨r,r'⟩<;>rw[r,r']
   ·exact⟨gf,_,gf⟩
   ·exact⟨gc,_,gc⟩
  refine h _ c' oc _ ctv _ _ I' ⟨_,by rw[Fu hNP,Ac],?_,.inr ⟨c',oc,?_,Jn n2,vs,t,hd,hv⟩⟩ (λb u hb e=>?_) (I.hok.fresh (hp _ _ n1)) (Jn n1) (Jn n2) ⟨vs,t,hd,hv⟩
  ·rw[gv];exact TriplesOk_snoc _ _ _ _ ht
  ·rw[gv];exact codeAmong_snoc _ ht hc
  ·have:N b=none:=by
    cases hN:N b with
    |none=>rfl
    |some o=>rw[I.hok.fresh (hp b o hN)] at e;cases e
   rw[Fu this,Ai hb];exact e
 ·refine PySem.W.kla_makeFunctionHit hcl I.ok.glob hg hcode (C.keeps I.bk) hPs ht hc hb' λctv h' tk hk hsz=>?_
  let fo:=y3 "<lambda>" qual params body scope clos ((X.mg "__name__").getD .none) c' ctv
  let N:Hp:=λb=>if b=h'.objs.size then some (.frz fo (.own 0)) else none
  have n1:N h'.objs.size=some (.frz fo (.own 0)):=if_pos rfl;have n3:∀b o,N b=some o->b=h'.objs.size/\o=.frz fo (.own 0):=λb o e=>by
   by_cases h1:b=h'.objs.size
   ·rw[h1,n1] at e;cases e;exact⟨h1,rfl⟩
   ·have:N b=none:=if_neg h1
    rw[this] at e;cases e
  have hp:∀b o,N b=some o->s.heap.objs.size<=b:=λb o e=>by rw[(n3 b o e).1];exact hsz
  have hn:∀b u,H b=some u->N b=none:=λb u e=>by
   cases hN:N b with
   |none=>rfl
   |some o=>rw[I.hok.fresh (hp b o hN)] at e;cases e
  have gf:(h'.push fo).get? h'.objs.size=some fo:=fu _ rfl;have I':=Inv.grown (N:=N) (more:=#[]) (h':=h'.push fo) (t':=tk) I hP (λb u _ e=>dj _ (hk b u e)) (by rw[sw];exact dj _ (hk _ _ hPs)) hp λb o e=>by
   rw[(n3 b o e).1,(n3 b o e).2];exact⟨gf,_,gf⟩
  rw[sw] at I';have old:∀b u,b≠P->H b=some u->Rx N (upd H P (.tbl ps)) b=some u:=λb u hb e=>by rw[Fu (hn b u e),Ai hb];exact e
  have hcP:c'≠P:=F2 hc' hP (by intro q;cases q);exact h _ c' oc _ ctv _ _ I' ⟨ps,by rw[Fu (hn P _ hP),Ac],ht,.inr ⟨c',oc,hc,old _ _ hcP hc',ho⟩⟩ old (I.hok.fresh (hp _ _ n1)) (Jn n1) (old _ _ hcP hc') ho
end
section
variable {prog:fh} {w:gp} {A:ir} {R:wb->d4->Prop} {s:d4}
theorem oQ {f c' c a:dk}{k d:Str}{cl:List (Str×dk)}{ctv u v:d3}{pk pd pp:Pos}{its:Array d3}{i:Int}{ti:Tok}
  (ho:s.heap.get? f=some (y3 "<lambda>" qual params (.Subscript (.Name d pd) (.Name k pk) pp) scope cl pm c' ctv))(hcd:s.heap.CodeRec (.ref c') qual)(hroom:A.depth<recursionLimit)(hlim:s.heap.NoLimit)
  (hbind:bindArgs (CO "<lambda>" qual params (.Subscript (.Name d pd) (.Name k pk) pp) scope cl pm (.ref c') ctv) ⟨[.int i ti],[]⟩=pure [(k,.int i ti)])
  (hk:scope.kind=.function)(hco:scope.isCoroutine=false)(hgen:scope.isGenerator=false)(lk:scope.names.lookup k=some .local)(ld:scope.names.lookup d=some .free)(hcell:∀x∈scope.names,x.2≠.cell)(hcl:cl.lookup d=some c)
  (hd:(d==("__classdict__":Str))=false)(nk:(k==("__debug__":Str))=false)(nd:(d==("__debug__":Str))=false)
  (hcv:s.heap.IsCell c (some (.ref a)))(hl:s.heap.IsList a its)(h0:0<=i)(hfit:i<2 ^ 63)(hv:its[i.toNat]?=some v)
  (h:∀(h':i8) (tk:Tok),(∀b o,s.heap.get? b=some o->h'.get? b=some o)->R (.ok (.ret v)) { s with heap:=h',toks:=tk }) :
  codeAny (model prog w) A (.call (.ref f) ⟨[.int i ti],[]⟩) R s:=by
 refine AC hroom ho rfl hco hgen rfl hcd ?_;rw[hbind];refine dw (sr hcell (λy hy=>by cases ee.mp hy;exact lk) (λQR hns hsb=>⟨hlim.fresh _ hsb,?_⟩) hk);have JG:∀b o,s.heap.get? b=some o->QR.get? b=some o:=λb o e=>hsb.extBut b o (fm (eg e)) (dj _ e);refine AB (Subscript_ (ym (DX hk ld hcl (hcv.keeps JG) (ym (xf hk lk hns (v:=.int i ti) (by simp) (item_listR (let ⟨o,e,r⟩:=hl;⟨o,JG _ _ e,r⟩) h0 hfit hv (h QR _ JG))) nk) hd) nd))
end
open PySem.W
def ltK (x y:fg):Bool:=decide (numOf x.1<numOf y.1)
def Rj (x y:Int×d3):Bool:=decide (x.1<y.1)
theorem gE:Swo ltK:=by
 refine⟨λa=>by simp[ltK],λa b c h1 h2=>?_,λa b c h1=>?_⟩
 ·simp only[ltK,decide_eq_true_eq] at h1 h2 ⊢;lia
 ·simp only[ltK,decide_eq_true_eq] at h1 ⊢;lia
section
variable {prog:fh} {w:gp} {A:ir} {E:Za0} {s:d4}
theorem Tk:Zp prog w A E s oneType' (λx=>∃n t,x.1=l5 n t) ltK:=by
 intro x y st Q hx hy hk h;obtain⟨x1,x2⟩:=x;obtain⟨y1,y2⟩:=y;obtain⟨a,t,e1⟩:=hx;obtain⟨b,u,e2⟩:=hy;dsimp only at e1 e2;subst e1 e2;rw[lt'_eq];refine ei (tu ?_);rw[hk];refine ei (xc (x9 ?_));exact kat_lt_int ⟨rfl,fe h⟩
theorem tJ {keys:Array d3}(hk:lf keys.toList kz):(Aq ltK (keys.zip vs.toArray).toList).map (·.2)=(Aq Rj (kz.zip vs)).map (·.2):=by
 have e2:(keys.toList.zip vs).map (λp:fg=>(numOf p.1,p.2))=kz.zip vs:=by
  rw[<-hk.nums,List.zip_map_left];exact jg λ⟨x,y⟩ _=>rfl
 rw[<-e2,Hx (lt:=ltK) (f:=λp:fg=>(numOf p.1,p.2)) (λ_ _=>rfl),gx,ksk_zip];rfl
theorem Yh {a kS:dk}{keys:Array d3}{e e1:Nat}{st:i5}{P:zz->d4->Prop}(gk:s.heap.get? kS=some (seqObj "list" keys e))(ga:s.heap.get? a=some (seqObj "list" #[] e1))(hka:kS≠a)
  (hk:lf keys.toList kz)(hlen:kz.length=vs.length)(hz:vs.length<=sizeLine)(hs:(arrOf st).toList=Aq ltK (keys.zip vs.toArray).toList)(hfl:failedOf st=none)
  (h:∀h' out c,(∀b o,b≠a->b≠kS->s.heap.get? b=some o->h'.get? b=some o)->h'.get? a=some (seqObj "list" out c)->out.toList=(Aq Rj (kz.zip vs)).map (·.2)->P (.done (.ret .none)) { s with heap:=h' }) :
  wpAny (model prog w) A (ksk_tail a false e1 (.ref kS) st) P E s:=by
 have hsz:keys.size=vs.length:=by
  have h1:=hk.length;rw[eh] at h1;lia
 have s1:=qy s.heap kS (jp λ_=>(#[]:Array d3));have na1:(s.heap.update kS (jp λ_=>(#[]:Array d3))).get? a=some (seqObj "list" #[] e1):=(s1.2 a hka.symm).trans ga;have s2:=qy (s.heap.update kS (jp λ_=>(#[]:Array d3))) a (jp λ_=>(arrOf st).map (·.2));obtain⟨c2,hc2⟩:∃c2,((s.heap.update kS (jp λ_=>(#[]:Array d3))).update a (jp λ_=>(arrOf st).map (·.2))).get? a=some (seqObj "list" ((arrOf st).map (·.2)) c2):=⟨_,wl na1 λ_=>(arrOf st).map (·.2)⟩;have eo:((arrOf st).map (·.2)).toList=(Aq Rj (kz.zip vs)).map (·.2):=by
  rw[DB,hs,tJ hk]
 have so:((arrOf st).map (·.2)).size<=sizeLine+1:=by
  rw[<-eh,eo,da,Dc,yv];lia
 unfold ksk_tail
 try dsimp only
 refine wpAny_bind (listUpdate_at gk rfl ?_ (by rw[hsz];exact hz) (f7 _));refine wpAny_bind (xg ?_);refine wpAny_bind (seqEpoch_at na1 rfl ?_);simp only[jy,if_false];refine wpAny_bind (listUpdate_at na1 rfl ?_ (f7 _) so);rw[hfl];simp only[bne_self_eq_false,jy,if_false];exact dw (h _ _ c2 (λb o h1 h2 q=>(s2.2 b h1).trans ((s1.2 b h2).trans q)) hc2 eo)
theorem qV {a kS:dk}{keys:Array d3}{e e1:Nat}{P:zz->d4->Prop}(gk:s.heap.get? kS=some (seqObj "list" keys e))(ga:s.heap.get? a=some (seqObj "list" #[] e1))(hka:kS≠a)
  (hk:lf keys.toList kz)(hlen:kz.length=vs.length)(hz:vs.length<=sizeLine)
  (h:∀h' out c,(∀b o,b≠a->b≠kS->s.heap.get? b=some o->h'.get? b=some o)->h'.get? a=some (seqObj "list" out c)->out.toList=(Aq Rj (kz.zip vs)).map (·.2)->P (.done (.ret .none)) { s with heap:=h' }) :
  wpAny (model prog w) A (ksk_end a false vs.toArray e1 (.ref kS) keys) P E s:=by
 have hsz:keys.size=vs.length:=by
  have h1:=hk.length;rw[eh] at h1;lia
 have hzs:(keys.zip vs.toArray).size=vs.length:=by rw[Array.size_zip,hsz,ej,AV]
 unfold ksk_end
 try dsimp only
 simp only[jy,if_false]
 by_cases h2:vs.toArray.size<2
 ·rw[if_pos h2,if_pos h2]
  refine wpAny_bind (dw ?_);rw[CP];refine wpAny_bind (dw ?_)
  try dsimp only
  refine Yh (st:=si general' (keys.zip vs.toArray) #[] 7 none) gk ga hka hk hlen hz ?_ rfl h;show(keys.zip vs.toArray).toList=_;refine(Hg ?_).symm;have hl:(keys.zip vs.toArray).toList.length<2:=by rw[eh,hzs];rw[ej] at h2;exact h2
  exact Yr hl
 ·rw[if_neg h2,if_neg h2]
  rw[ej] at h2;rw[ksk_kind hk (by rw[hsz];lia)];refine wpAny_bind (dw ?_);refine wpAny_bind (lz (Ln (P:=λx=>∃n t,x.1=l5 n t) Tk gE (l0:=(keys.zip vs.toArray).toList) (st:=si oneType' (keys.zip vs.toArray) #[] 7 none)
   (Q:=λ_ st'=>failedOf st'=none/\(arrOf st').toList=Aq ltK (keys.zip vs.toArray).toList) rfl rfl rfl rfl (λx hx=>?_) (by rw[eh,hzs];lia) λst' a1 a2=>⟨a1,a2⟩) ?_ λ_ _ e=>e)
  ·rw[ksk_zip] at hx
   obtain⟨x,y⟩:=x;exact hk.all _ (rz hx).1
  rintro⟨⟨⟩,st'⟩ s' ⟨rfl,hf,hs⟩
  try dsimp only
  exact Yh gk ga hka hk hlen hz hs hf h
end
section
variable {prog:fh} {w:gp} {A:ir} {E:Za0} {s:d4}
def K4 (a:dk)(h h':i8):Prop:=∀b o,b≠a->h.get? b=some o->h'.get? b=some o
theorem jV {a kS:dk}{f:d3}{e1:Nat}{QN:d4}{P:zz->d4->Prop}(gk:s.heap.get? kS=some (seqObj "list" #[] 0))(ga:s.heap.get? a=some (seqObj "list" #[] e1))(hka:kS≠a)(hn:QN.heap.get? kS=none)
    (keep : K4 a QN.heap s.heap)(hlen : kz.length = vs.length)(hz : vs.length <= sizeLine)
    (turn : ∀ (i : Nat) (v : d3) (k : Int), vs[i]? = some v->kz[i]? = some k->∀ (h : i8) (tk : Nat) (Q : d3->d4->Prop), K4 a QN.heap h ->
      (∀ t h' tk', (∀ b o, h.get? b = some o->h'.get? b = some o)->Q (.int k t) { s with heap := h', toks := tk' })->wpAny (model prog w) A (call f [v]) Q (λ_ _ => False) { s with heap := h, toks := tk })
    (h : ∀ h' tk out c, K4 a QN.heap h'->h'.get? a = some (seqObj "list" out c)->out.toList = (Aq Rj (kz.zip vs)).map (·.2)->P (.done (.ret .none)) { s with heap := h', toks := tk }) :
    wpAny (model prog w) A (ksk_rest a f false vs.toArray e1 (.ref kS)) P E s := by
  unfold ksk_rest;refine wpAny_bind (ou ?_)
  first
    | rw [List.forIn_toArray]
    | (rw [<- su]; simp only [kx])
    | rw [<- su]
  refine wpAny_bind (ksk_fold (λi s' => ∃ h' tk kA e, s' = { s with heap := h', toks := tk }/\K4 a QN.heap h'/\h'.get? kS = some (seqObj "list" kA e)/\h'.get? a = some (seqObj "list" #[] e1)/\lf kA.toList (kz.take i)) vs 0 s
    ⟨s.heap, s.toks, #[], 0, rfl, keep, gk, ga, by simpa using IntsAre.nil⟩ ?step ?done)
  case step =>
    rintro j x s' hx ⟨h', tk, kA, e, rfl, K', gk', ga', hk⟩;simp only [ip] at hk ⊢;have hj : j < vs.length := (d9.mp hx).1;obtain ⟨k, hkj⟩ : ∃ k, kz[j]? = some k := ⟨_, df (by lia)⟩;have hz2 : kA.size < vs.length := by
      have h1 := hk.length;rw [eh, dy] at h1;lia
    refine wpAny_bind (x9 (lz (turn j x k hx hkj h' tk (λv s'' => ∃ (t : Tok) (g : i8) (tk2 : Nat), v = .int k t/\s'' = { s with heap := g, toks := tk2 }/\∀ b o, h'.get? b = some o->g.get? b = some o) K' λt2 g tk2 kg => ⟨t2, g, tk2, rfl, rfl, kg⟩) (λv s'' he => ?_) λ_ _ hF => hF.elim));obtain ⟨t2, g, tk2, rfl, rfl, kg⟩ := he
    try dsimp only
    have s1 := qy g kS (jp (·.push (.int k t2)));obtain ⟨c2, hc2⟩ : ∃ c2, (g.update kS (jp (·.push (.int k t2)))).get? kS = some (seqObj "list" (kA.push (.int k t2)) c2) := ⟨_, wl (kg _ _ gk') (·.push (.int k t2))⟩;have ek : kz.take (j + 1) = kz.take j ++ [k] := by rw [il, hkj]; simp
    have ea : (kA.push (l5 k t2)).toList = kA.toList ++ [l5 k t2] := by simp
    refine wpAny_bind (listUpdate_at (kg _ _ gk') rfl ?_ (by lia) (fq (ku (Array.size_push ..)) (by lia)));exact dw ⟨rfl, _, _, kA.push (.int k t2), c2, rfl, λb o hb q => (s1.2 b (λz => by rw [z, hn] at q; cases q)).trans (kg _ _ (K' b o hb q)), hc2, (s1.2 a hka.symm).trans (kg _ _ ga'), by rw [ea, ek]; exact ksk_snoc hk⟩
  case done =>
    rintro s' ⟨h', tk, kA, e, rfl, K', gk', ga', hk⟩;have hk' : lf kA.toList kz := by
      have e3 : kz.take (0 + vs.length) = kz := fc (by lia);rw [e3] at hk;exact hk
    try dsimp only
    refine wpAny_bind (CN gk' rfl ?_);exact qV gk' ga' hka hk' hlen hz λh3 out c k3 g3 e3 => h h3 tk out c (λb o hb q => k3 b o hb (λz => by rw [z, hn] at q; cases q) (K' b o hb q)) g3 e3
theorem nB {a:dk}{f:d3}{P:zz->d4->Prop}(ho:s.heap.get? a=some (seqObj "list" vs.toArray n))(hlen:kz.length=vs.length)(hz:vs.length<=sizeLine)
  (turn:∀(i:Nat) (v:d3) (k:Int),vs[i]?=some v->kz[i]?=some k->∀(h:i8) (tk:Nat) (Q:Za0),K4 a s.heap h ->
   (∀t h' tk',(∀b o,h.get? b=some o->h'.get? b=some o)->Q (.int k t) { s with heap:=h',toks:=tk' })->wpAny (model prog w) A (call f [v]) Q (λ_ _=>False) { s with heap:=h,toks:=tk })
  (h:∀h' tk out c,K4 a s.heap h'->h'.get? a=some (seqObj "list" out c)->out.toList=(Aq Rj (kz.zip vs)).map (·.2)->P (.done (.ret .none)) { s with heap:=h',toks:=tk }) :
  wpAny (model prog w) A (ksk_tree a f false) P E s:=by
 have ha:a<s.heap.objs.size:=eg ho;have s1:=qy s.heap a (jp λ_=>(#[]:Array d3));obtain⟨e1,ho1⟩:∃e1,(s.heap.update a (jp λ_=>(#[]:Array d3))).get? a=some (seqObj "list" #[] e1):=⟨_,wl ho λ_=>#[]⟩;have hkS:((s.heap.update a (jp λ_=>(#[]:Array d3))).push (seqObj "tuple" vs.toArray 0)).objs.size=s.heap.objs.size+1:=by rw[AQ,uo]
 unfold ksk_tree;refine wpAny_bind (CN ho rfl ?_);refine wpAny_bind (listUpdate_at ho rfl ?_ (by simpa using hz) (f7 _));refine wpAny_bind (seqEpoch_at ho1 rfl ?_);refine wpAny_bind (AO ?_ (by show vs.length<=_;exact hz));refine wpAny_bind (x8 ?_ (f7 _));refine wpAny_holding ?_;exact jV (QN:=s) (s:={ s with heap:=((s.heap.update a (jp λ_=>(#[]:Array d3))).push (seqObj "tuple" vs.toArray 0)).push (seqObj "list" #[] 0) }) (kS:=((s.heap.update a (jp λ_=>(#[]:Array d3))).push (seqObj "tuple" vs.toArray 0)).objs.size)
  (fu _ rfl) (dj _ (dj _ ho1)) (by rw[hkS];exact pf (xw ha)) (by rw[hkS];exact BG (qp _))
  (λb o hb q=>dj _ (dj _ ((s1.2 b hb).trans q))) hlen hz turn h
end
section
variable {prog:fh} {w:gp} {A:ir} {s:d4}
theorem X7 {l:dk}(hl:s.heap.IsList l vs.toArray)(hz:vs.length<=sizeLine)(E':Za0)(Q':Za3->d4->Prop)
  (h:∀h' tk,(∀b o,s.heap.get? b=some o->h'.get? b=some o)->s.heap.objs.size<=h'.objs.size->Q' vs { s with heap:=h',toks:=tk }):wpAny (model prog w) A (collect (.ref l)) Q' E' s:=by
 refine collect_list hl (h _ s.toks (λb o q=>?_) (by rw[uo,AQ];exact qp _)) hz;have hlt:b<s.heap.objs.size:=eg q;rw[Heap.get?_update_ne _ _ _ _ (fm hlt),xn _ _ _ (fm hlt)];exact q
end
theorem Sl:∀{us:Za3} {ns:List Int},us.length=ns.length->(∀(i:Nat) u n,us[i]?=some u->ns[i]?=some n->∃t,u=.int n t)->lf us ns
 |[],[],_,_=>.nil
 |u::us,n::ns,hl,h=>by
  obtain⟨t,rfl⟩:=h 0 u n rfl rfl;exact .cons n t (Sl (wn hl) λi v m e1 e2=>h (i+1) v m e1 e2)
theorem Kt:∀{us:Za3} {ns:List Int},Au (ns.map V.int) us->lf us ns
 |[],[],_=>.nil
 |_::_,[],h=>by cases h
 |[],_::_,h=>by cases h
 |u::us,n::ns,h=>by
  cases h with
  |cons h1 h2=>obtain⟨t,rfl⟩:=h1;exact .cons n t (Kt h2)
def ltI (x y:Int×Int):Bool:=decide (x.1<y.1)
def Dn (kz ns:List Int):List Int:=(Aq ltI (kz.zip ns)).map (·.2)
theorem Km:∀l:Za3,(∀v∈l,∃n t,v=l5 n t)->lf l (l.map numOf)
 |[],_=>.nil
 |v::l,h=>by
  obtain⟨n,t,rfl⟩:=h _ (fi ..);exact .cons n t (Km l λu hu=>h u (fb _ hu))
theorem qF (h:lf vs ns):lf ((Aq Rj (kz.zip vs)).map (·.2)) (Dn kz ns):=by
 have e1:(Aq Rj (kz.zip vs)).map (λp:Int×d3=>(p.1,numOf p.2))=Aq ltI (kz.zip ns):=by
  rw[<-Hx (f:=λp:Int×d3=>(p.1,numOf p.2)) (lt:=Rj) (lt':=ltI) (λ_ _=>rfl)];congr 1;rw[<-h.nums,List.zip_map_right];exact jg λ⟨x,y⟩ _=>rfl
 have e2:Dn kz ns=((Aq Rj (kz.zip vs)).map (·.2)).map numOf:=by
  unfold Dn;rw[<-e1,gx,gx];rfl
 rw[e2];refine Km _ λv hv=>?_;obtain⟨p,hp,rfl⟩:=fz.mp hv;have:=(C0 (lt:=Rj) (kz.zip vs)).mem_iff.mp hp;obtain⟨x,y⟩:=p;exact h.all _ (rz this).2
section
variable {prog:fh} {w:gp} {A:ir} {E:Za0} {s:d4}
theorem gS {r:dk}{t u v:Tok}(hh:A.handled=none)(hr:FA s.heap r 0 n 1 t u v)(hn:n<=100000)(E':Za0)(Q':Za3->d4->Prop)
  (h:∀vs h' tk,lf vs ((d7 n).map λi:Nat=>(i:Int))->(∀b o,s.heap.get? b=some o->h'.get? b=some o)->s.heap.objs.size<=h'.objs.size->Q' vs { s with heap:=h',toks:=tk }):wpAny (model prog w) A (collect (.ref r)) Q' E' s:=by
 have e2:ja 0 (n:Int) 1=n:=by rw[ya];split<;>lia
 have key:∀R:wb->d4->Prop,(∀(h':i8) (tk:Nat) (acc':Array d3) (c':Nat),(∀b o,s.heap.get? b=some o->h'.get? b=some o)->h'.get? s.heap.objs.size=some { cls:=.type "list",dict:=none,data:=.seq acc' c',slots:=#[] } ->
   ItemsOf (λi v=>∃t,v=.int (0+(i:Int)*1) t) acc' n->R (.ok (.ret (.ref s.heap.objs.size))) { s with heap:=h',toks:=tk })->codeAny (model prog w) A (.builtin "proto.collect" ⟨[.ref r],[]⟩) R s:=λR hR=>by
  refine l9 F.entry_proto_collect ?_;rw[ju F.plain_proto_collect _];show wpAny _ A.in1 (newList [] >>= λl=>again (.builtin "list.__iadd__" ⟨[l,.ref r],[]⟩)) _ _ s;refine wpAny_bind (ki ?_);refine dw ⟨n0 EG _,l9 F.entry_list_iadd ?_⟩;rw[ju EG _];have JT:(s.heap.push { cls:=.type "list",data:=.seq ([]:Za3).toArray }).get? s.heap.objs.size=some { cls:=.type "list",data:=.seq ([]:Za3).toArray }:=fu _ rfl;show wpAny _ A.in1 (HI (.ref s.heap.objs.size) (.ref r) (.ref s.heap.objs.size)) _ _ _;exact wpAny_extend_range (R:=R) (s:={ s with heap:=s.heap.push { cls:=.type "list",data:=.seq ([]:Za3).toArray } }) hh (dj _ hr) (FG (by lia) (by lia) (by lia) (by lia)) e2 (by lia) _ _ _ JT λh' tk acc' c' hk hS' hacc=>
   hR h' tk acc' c' (λb o q=>hk b o (fm (eg q)) (dj _ q)) hS' hacc
 unfold collect;refine wpAny_bind (wpAny_runValue (key _ λh' tk acc' c' hk hS' hacc=>?_));show wpAny _ A (load s.heap.objs.size >>= _) _ _ _;refine wpAny_bind (wpAny_load hS' ?_);refine dw (h _ h' tk ?_ hk (ig (eg hS')));refine Sl (by rw[da,d6,eh,hacc.1]) λi x y e1 e3=>?_;have hi:i<n:=by have:=(d9.mp e3).1;simpa using this
 rw[du,gl hi] at e3;cases e3;have e4:acc'[i]?=some x:=by rw[<-en];exact e1
 obtain⟨t,e5⟩:=hacc.2 i x e4;exact⟨t,by rw[e5];simp⟩
theorem Xc {arg:d3}{q:dk}{Q:Za0}(hlen:kz.length=ns.length)(hz:ns.length<=sizeLine)
  (hcol:∀(E':Za0) (Q':Za3->d4->Prop),(∀vs h' tk,lf vs ns->(∀b o,s.heap.get? b=some o->h'.get? b=some o)->s.heap.objs.size<=h'.objs.size->Q' vs { s with heap:=h',toks:=tk })->wpAny (model prog w) A.in1 (collect arg) Q' E' s)
  (turn:∀(i:Nat) (n k:Int) (t:Tok),ns[i]?=some n->kz[i]?=some k->∀(h:i8) (tk:Nat) (Q:Za0),(∀b o,s.heap.get? b=some o->h.get? b=some o) ->
   (∀t h' tk',(∀b o,h.get? b=some o->h'.get? b=some o)->Q (.int k t) { s with heap:=h',toks:=tk' })->wpAny (model prog w) A.in1.in1 (call (.ref q) [.int n t]) Q (λ_ _=>False) { s with heap:=h,toks:=tk })
  (h:∀D h' tk out c,s.heap.objs.size<=D->(∀b o,s.heap.get? b=some o->h'.get? b=some o)->h'.get? D=some (seqObj "list" out c)->lf out.toList (Dn kz ns)->Q (.ref D) { s with heap:=h',toks:=tk }) :
  wpAny (model prog w) A (call (.builtin "sorted") [arg] [(kr "key",.ref q)]) Q E s:=by
 refine call_function_entry_kw kind_sorted IU IV (ksk_s1 _ _) ?_;unfold qd.«sorted»;refine wpAny_bind (m:=checkCount "sorted" 1 1 _) (dw ?_);refine wpAny_bind (hcol _ _ λvs h1 tk1 hI k1 z1=>?_);have hlv:vs.length=ns.length:=hI.length;refine wpAny_bind (x8 ?_ (by rw[hlv];exact hz));have hoL:(h1.push (seqObj "list" vs.toArray 0)).get? h1.objs.size=some (seqObj "list" vs.toArray 0):=fu _ rfl;have keep:∀b o,s.heap.get? b=some o->(h1.push (seqObj "list" vs.toArray 0)).get? b=some o:=λb o q=>dj _ (k1 b o q);have nD:∀b o,s.heap.get? b=some o->b≠h1.objs.size:=λb o q=>fm (ef (eg q) z1);show wpAny _ _ _ _ _ { s with heap:=h1.push (seqObj "list" vs.toArray 0),toks:=tk1 };refine wpAny_bind (wpAny_holding (wpAny_call_entry_kw slot_list_sort ⟨_,hoL,rfl⟩ entry_list_sort ?body (ksk_l1 _ _)))
 case body=>
  show wpAny (model prog w) A.in1.in1 (qd.«list.sort» ⟨[.ref h1.objs.size],[(kr "key",.ref q)]⟩) _ _ _;rw[ksk_t1];refine nB (kz:=kz) (s:={ s with heap:=h1.push (seqObj "list" vs.toArray 0),toks:=tk1 }) hoL (by rw[hlv];exact hlen) (by rw[hlv];exact hz) (λi v k e1 e2 h2 tk Q2 kb q2=>?_) λh2 tk out c kb g e=>?_
  ·obtain⟨n,t,rfl,e3⟩:=hI.at i v e1
   exact turn i n k t e3 e2 h2 tk Q2 (λb o q=>kb b o (nD b o q) (keep b o q)) q2
  ·exact⟨_,rfl,dw ⟨_,rfl,h _ h2 tk out c z1 (λb o q=>kb b o (nD b o q) (keep b o q)) g (by rw[e];exact qF hI)⟩⟩
end
abbrev Wd (k:Str)(pa:Pos):l8:={ posonlyargs:=[],args:=[{ arg:=k,annotation:=none,pos:=pa }],vararg:=none,kwonlyargs:=[],kw_defaults:=[],kwarg:=none,defaults:=[] }
abbrev Nm (k d:Str):l6:={ kind:=.function,names:=[(k,.local),(d,.free)],isGenerator:=false,isCoroutine:=false,more:=[] }
abbrev Vx (k d:Str)(pd pk pp:Pos):ie:=.Subscript (.Name d pd) (.Name k pk) pp
section
variable {X:Cx}
def uK (ta:TA):TE:=λG H Q=>ta G H λvs H1=>∃j:Nat,vs=[.int j]/\j<=100000/\∀p,H1 p=none->Q (.ref p) (upd H1 p (.rng 0 j))
theorem rN {a:ie}{ta:TA}{q:Pos}(hg2:Gl X "range")(hm2:X.mg "range"=none)(ha:PA X [a] ta)(hs:autoParam (starEach [a] X.env=[(false,eval a X.env)]) QD) :
  PE X (.Call (.Name "range" q) [a] [] pos2) (uK ta):=by
 k_in;refine wpAny_Call_Name_kw (Df I hg2 hm2 boot_range (gn (thA ha I h λus s1 vs H1 I1 r1 q1=>?_) hs rfl) (by decide) (by decide));obtain⟨j,e,hj,q⟩:=q1;subst e;obtain⟨u,rfl,t,rfl⟩:=En r1;refine y4 ?_;exact⟨.ref _,_,I1.laid (o:=.rng 0 j) (λb o e=>dj _ e) (dh _) ⟨_,_,_,fu _ rfl⟩,rfl,q _ (I1.hok.fresh (dh _))⟩
theorem yM {G:St}{Q:VK}{ta:TA}(h:ta G H λvs H1=>∃j:Nat,vs=[.int j]/\j<=100000/\∀p,H1 p=none->Q (.ref p) (upd H1 p (.rng 0 j))):uK ta G H Q:=h
def Bq (n:Nat):List Int:=(d7 n).map λj:Nat=>(j:Int)
def pD (P:dk)(lpos:Pos)(qual:Str)(i:Nat)(ta:TE):TE:=λG H Q=>ta G H λx H1=>∃r l ds,x=.ref r/\G[i]?=some (some (.ref l))/\H1 l=some (.lst (ds.map V.int))/\ds.length<=100000 /\
 (H1 r=some (.lst ((Bq ds.length).map V.int))\/H1 r=some (.rng 0 ds.length))/\Kk H1 P lpos qual /\
 ∀p H',Lm P H1 H'->Kk H' P lpos qual->H1 p=none->H' p=some (.lst ((Dn ds (Bq ds.length)).map V.int))->Q (.ref p) H'
theorem qN {P:dk}{i:Nat}{ta:TE}{G:St}{Q:VK}(h:ta G H λx H1=>∃r l ds,x=.ref r/\G[i]?=some (some (.ref l))/\H1 l=some (.lst (ds.map V.int))/\ds.length<=100000 /\
 (H1 r=some (.lst ((Bq ds.length).map V.int))\/H1 r=some (.rng 0 ds.length))/\Kk H1 P lpos qual /\
 ∀p H',Lm P H1 H'->Kk H' P lpos qual->H1 p=none->H' p=some (.lst ((Dn ds (Bq ds.length)).map V.int))->Q (.ref p) H'):pD P lpos qual i ta G H Q:=h
theorem X6 {a:ie}{ta:TE}{pa pd pk pp kpos:Pos}{d k:Str}{i:Nat}{c P cl:dk}(hcal:X.calm=true)(hr:Ca 1 X.A)(hg:Gl X "sorted")(hm:X.mg "sorted"=none)(ha:PE X a ta)
  (C:AW X.base c P)(hb:X.base.BuiltinsAt X.mg P)(hcode:X.env.code=.ref c)(hN:X.N[i]?=some d)(hkd:X.env.scope.names.lookup d=some .cell)(hce:X.env.cells.lookup d=some cl)
  (hcl:closureFor (Nm k d) X.env=pure [(d,cl)])(hq:X.env.qual++"<lambda>"=qual)
  (hbind:∀(pm cv ctv:d3) (n:Int) (t:Tok),bindArgs (CO "<lambda>" qual (Wd k pa) (Vx k d pd pk pp) (Nm k d) [(d,cl)] pm cv ctv) ⟨[.int n t],[]⟩=pure [(k,.int n t)])(hs:autoParam (starEach [a] X.env=[(false,eval a X.env)]) QD)
  (ek:autoParam ((d==k)=false) QF)(hd:autoParam ((d==("__classdict__":Str))=false) QF)(nk:autoParam ((k==("__debug__":Str))=false) QF)(nd:autoParam ((d==("__debug__":Str))=false) QF) :
  PE X (.Call (.Name "sorted" p) [a] [⟨some "key",.Lambda (Wd k pa) (Vx k d pd pk pp) (Nm k d) lpos,kpos⟩] pos) (pD P lpos qual i ta):=by
 k_in;refine wpAny_Call_Name_kw (Df I hg hm Sf (callWith_kw ?_ (by rw[hs];rfl) (by rw[hs];rfl) rfl rfl) (by decide) (by decide));rw[hs];refine lj ?_;show wpAny _ _ (eval a X.env) _ _ _;refine thE ha I h λv s1 x H1 I1 r1 ⟨r,l,ds,ex,JK,hl,hz,hrr,hT,q⟩=>?_;subst ex;obtain rfl:v=ji r:=r1;refine ot ?_;show wpAny _ _ (evalAll [(do let v <-eval (.Lambda (Wd k pa) (Vx k d pd pk pp) (Nm k d) lpos) X.env;standAt pos;pure v)]) _ _ _;unfold evalAll;refine wpAny_bind (wpAny_bind (Yo I1 hT C hb hcode hcl rfl hq λf c' oc pm ctv s2 H2 I2 hT2 sm hf0 hf hc' hoc=>?_));refine wpAny_bind (qr (dw ?_));unfold evalAll;refine wpAny_bind (wpAny_holding (dw (dw ?_)));show wpAny _ _ (call (.builtin "sorted") [.ref r] [(kr "key",.ref f)]) _ _ _;have hlP:l≠P:=λe=>by obtain⟨ps,e1,_⟩:=hT;rw[e,e1] at hl;cases hl
 have hl2:H2 l=some (.lst (ds.map V.int)):=sm _ _ hlP hl;obtain⟨_,its,nn,hv,hit⟩:=I2.hok l _ hl2;have hiI:lf its ds:=Kt hv;have hfo:s2.heap.get? f=some _:=(I2.hok f _ hf).1;have hco:s2.heap.get? c'=some oc:=(I2.hok c' _ hc').1;have hcell:s2.heap.IsCell cl (some (.ref l)):=by
  obtain⟨m,_,hlo⟩:=I2.loc;obtain⟨u,ru,lk⟩:=hlo i d (.ref l) hN JK (.inr (.inl hkd));obtain rfl:u=ji l:=ru;rcases lk with⟨hk,_⟩|⟨_,c2,hc2,hx⟩
  ·have:some qx=some mv.local:=hkd.symm.trans hk
   cases this
  ·rw[hce] at hc2
   cases hc2;exact hx
 have hlen:(Bq ds.length).length=ds.length:=by unfold Bq;rw[da,d6]
 refine Xc (ns:=Bq ds.length) (kz:=ds) hlen.symm (by rw[hlen];exact fq hz (by decide)) (λE' Q' hQ=>?_) (λj n kk t e1 e2 h3 tk Q3 kp q3=>?_) λD h' tk out cc hD kp hat hout=>?_
 ·rcases hrr with hr1|hr1
  ·have hrP:r≠P:=λe=>by obtain⟨ps,e1,_⟩:=hT;rw[e,e1] at hr1;cases hr1
   obtain⟨_,vs,nr,hv2,hit2⟩:=I2.hok r _ (sm _ _ hrP hr1);exact X7 (vs:=vs) ⟨_,hit2,rfl,_,rfl⟩ (by rw[<-hv2.length,da,hlen];exact fq hz (by decide)) E' Q' λh' tk kp z=>hQ vs h' tk (Kt hv2) kp z
  ·have hrP:r≠P:=λe=>by obtain⟨ps,e1,_⟩:=hT;rw[e,e1] at hr1;cases hr1
   obtain⟨t,u,v,hit2⟩:=I2.hok r _ (sm _ _ hrP hr1);exact gS (A:=X.A.in1) (n:=ds.length) (I.ok.hd hcal) hit2 hz E' Q' hQ
 ·have hj:j<ds.length:=(d9.mp e2).1
  obtain rfl:(j:Int)=n:=by
   unfold Bq at e1;rw[du,gl hj] at e1;cases e1;rfl
  obtain⟨vk,hvk⟩:∃vk,its[j]?=some vk:=⟨_,df (by rw[hiI.length];exact hj)⟩;obtain⟨k2,tk2,rfl,e3⟩:=hiI.at j vk hvk;rw[e2] at e3;cases e3;refine yl (oQ (u:=.none) (kp _ _ hfo) (let ⟨vs,t,e1,e2⟩:=hoc;⟨c',oc,vs,t,rfl,kp _ _ hco,e1,e2⟩) (show X.A.depth<recursionLimit from Ca.depth hr) ((I2.mod.nolimit.keeps I2.bk).keeps kp) (hbind _ _ _ _ _) rfl rfl rfl (by simp) ?_ (by simp) (by simp) hd nk nd (hcell.keeps kp) (its:=its.toArray) ⟨_,kp _ _ hit,rfl,_,rfl⟩ (by lia) (by lia) (by simpa using hvk) λh4 tk4 k4=>q3 tk2 h4 tk4 k4);show n6 d [(k,mv.local),(d,lh)]=some .free;simp[n6,ek]
 ·have I3:Inv X pins G (upd H2 D (.lst ((Dn ds (Bq ds.length)).map V.int))) { s2 with heap:=h',toks:=tk }:=I2.laid kp hD ⟨by
    have h1:=hout.length;rw[da];unfold Dn;rw[da,Dc,yv,hlen,AV];exact fq hz (by decide),out.toList,cc,Kv hout,hat⟩
  have hD2:H2 D=none:=I2.hok.fresh hD;have hD1:H1 D=none:=by
   cases e:H1 D with
   |none=>rfl
   |some u=>
    by_cases hDP:D=P
    ·obtain⟨ps,e1,_⟩:=hT2
     rw[hDP,e1] at hD2;cases hD2
    ·rw[sm D u hDP e] at hD2;cases hD2
  refine⟨.ref D,_,I3,rfl,q D _ (λb u hb e=>?_) ?_ hD1 Ac⟩
  ·rw[Ai (λz=>by rw[z,hD1] at e;cases e)]
   exact sm b u hb e
  ·obtain⟨ps,e1,e2,e3⟩:=hT2
   have nP:P≠D:=λz=>by rw[z,hD2] at e1;cases e1
   refine⟨ps,by rw[Ai nP];exact e1,e2,e3.imp id λ⟨c2,oc2,a1,a2,a3⟩=>⟨c2,oc2,a1,?_,a3⟩⟩;rw[Ai (λz=>by rw[z,hD2] at a2;cases a2)];exact a2
end
def Ir (o:Obj)(c P:dk):Prop:=∃vs file tf flags tg inF text tt,o.cls=.type "code"/\o.data=.fields vs/\vs[11]?=some (.ref P)/\vs.getD 11 .none=.ref P/\vs.getD 18 .none=.str file tf /\
  vs.getD 7 .none=.int flags tg/\vs.getD 9 .none=.bool inF/\vs.getD 10 .none=.int text tt/\c≠P
theorem Ir.at {o:Obj}{c P:dk}(x:Ir o c P)(e:h.get? c=some o):AW h c P:=by
 obtain⟨vs,file,tf,flags,tg,inF,text,tt,a1,a2,a3,a4,a5,a6,a7,a8,a9⟩:=x;exact⟨o,vs,file,tf,flags,tg,inF,text,tt,e,a1,a2,a3,a4,a5,a6,a7,a8,a9⟩
theorem Z9 {P:fh}{K:de}{mg mb:Za2}{CX:CXT}{k:Nat}{fa a:dk}{x:Str}{QM:d4}{tabs:List (dk×dk)}
  (hT:yp tabs QM.heap)(hTK:∀q∈tabs,K.lookup q.2=none)(hB:∃bm ob,mg "__builtins__"=some (.ref bm)/\bm≠builtinsNs/\QM.heap.get? bm=some ob/\ob.cls=.type "module"/\ob.dict=some builtinsNs/\ob.data=.plain)(KX:K.In QM.heap)(hns:QM.heap.Ns mainGlobals mg)(hb:QM.heap.Ns builtinsNs mb)(hbb:∀x:Str,x≠"__name__"->mb x=bootBuiltins x)(hlim:QM.heap.NoLimit)(hg:QM.gens=#[])
  (ha:QM.heap.get? a=some { cls:=.type "list",data:=.seq vs.toArray })(hi:lf vs ns)(hl:ns.length<=sizeLine)(hr:Ca k callerA)
  (F:∀base:i8,K.In base->base.Ns mainGlobals mg->(∀q∈tabs,base.BuiltinsAt mg q.2)->Av P w K mg base CX k fa fd [x] sp)(hbind:∀(s:d4) (u:d3),AL s fd ⟨[u],[]⟩ [(x,u)])
  (hsp:∀H:Hp,(∀q∈tabs,H q.2=some (.tbl #[]))->SqL K H a (ns.map V.int)->sp [.ref a] H (λv _=>v=.bl true) λ_ _ _=>False)
  (hCX:∀H e s',CX [] H QM (λ_ _ _=>False) e s'->False) :
  codeAny (model P w) callerA (.call (.ref fa) ⟨[.ref a],[]⟩) (λr s'=>r=.ok (.ret (.bool true))/\OldK QM.heap s'.heap/\s'.os=QM.os/\wj s'.gens) QM:=by
 have rv:=Kv hi;have tabAt:∀b,b∈tabs.map (·.2)->QM.heap.get? b=some (ve #[])/\K.lookup b=none/\isCodeTable QM.heap b:=λb hm=>by
  obtain⟨q,hq,rfl⟩:=fz.mp hm;exact⟨(hT q hq).2,hTK q hq,((hT q hq).1.tab (hT q hq).2).isCodeTable⟩
 have haT:a∉tabs.map (·.2):=λhm=>by
  have:=(tabAt a hm).1;rw[ha] at this;cases this
 let H:Hp:=λb=>if b∈tabs.map (·.2) then some (.tbl #[]) else if b=a/\K.lookup a=none then some (.frz { cls:=.type "list",data:=.seq vs.toArray } (.lst (ns.map V.int))) else none
 have H1:∀b,b∈tabs.map (·.2)->H b=some (.tbl #[]):=λb hm=>if_pos hm;have H2:∀b,b∉tabs.map (·.2)->¬(b=a/\K.lookup a=none)->H b=none:=λb h1 h2=>(if_neg h1).trans (if_neg h2);have H3:K.lookup a=none->H a=some (.frz { cls:=.type "list",data:=.seq vs.toArray } (.lst (ns.map V.int))):=λh=>(if_neg haT).trans (if_pos ⟨rfl,h⟩);have cases3:∀b,(b∈tabs.map (·.2))\/(b=a/\K.lookup a=none/\b∉tabs.map (·.2))\/(H b=none):=λb=>by
  by_cases h1:b∈tabs.map (·.2)
  ·exact .inl h1
  ·by_cases h2:b=a/\K.lookup a=none
   ·exact .inr (.inl ⟨h2.1,h2.2,h1⟩)
   ·exact .inr (.inr (H2 b h1 h2))
 have hok:HOk P w H QM.heap:=λb o e=>by
  rcases cases3 b with h|⟨rfl,h1,_⟩|h
  ·rw[H1 b h] at e
   cases e;exact(tabAt b h).1
  ·rw[H3 h1] at e
   cases e;exact⟨ha,by rw[da];exact hl,vs,_,rv,ha⟩
  ·rw[h] at e
   cases e
 have noD:∀{b:dk} {o:Obj} {es:Array DictEntry} {ep:Nat},QM.heap.get? b=some o->o.data=.dict es ep->H b=none:=λ{b o es ep} e d=>by
  rcases cases3 b with h|⟨rfl,_,_⟩|h
  ·rw[(tabAt b h).1] at e
   cases e;have d':BH #[]=yg es ep:=d;cases d'
  ·rw[ha] at e
   cases e;have d':Data.seq vs.toArray _=yg es ep:=d;cases d'
  ·exact h
 have nsK:∀{b:dk} {m:Za2},QM.heap.Ns b m->(Wo QM.heap H).Ns b m:=λ{b m} ⟨o,es,ep,e,d,r⟩=>⟨o,es,ep,Q4 e (noD e d),d,r⟩;have hKb:K.In (Wo QM.heap H):=λb o e=>Q4 (KX b o e) (by
  rcases cases3 b with h|⟨rfl,h1,_⟩|h
  ·rw[(tabAt b h).2.1] at e;cases e
  ·rw[h1] at e;cases e
  ·exact h)
 have hBa:∀q∈tabs,(Wo QM.heap H).BuiltinsAt mg q.2:=λq hq=>by
  obtain⟨bm,ob,b1,b2,b3,b4,b5,b6⟩:=hB;have n1:bm≠mainGlobals:=λz=>by
   obtain⟨o,es,ep,e,d,_⟩:=hns;rw[z,e] at b3;cases b3;rw[d] at b6;cases b6
  have nP:bm∉tabs.map (·.2):=λhm=>by
   have:=(tabAt bm hm).1;rw[b3] at this;cases this;cases b6
  have hn:H bm=none:=by
   rcases cases3 bm with h|⟨h,_,_⟩|h
   ·exact absurd h nP
   ·rw[h,ha] at b3
    cases b3;cases b6
   ·exact h
  exact⟨bm,ob,b1,b2,n1,λz=>nP (z▸sf hq),Q4 b3 hn,b4,b5,b6⟩
 have hM:Mod K mg (Wo QM.heap H):=⟨hKb,nsK hns,⟨mb,nsK hb,hbb⟩,let ⟨mc,h1,h2⟩:=hlim;⟨mc,nsK h1,h2⟩⟩;have e0:Sv P w K mg (Wo QM.heap H) callerA [] QM H:=⟨rfl,hM,λb o e=>sQ e,ku (iH _ _),trivial,λb hb=>absurd (show b∈([]:List dk) from hb) (by simp),hok,.of_eq hg⟩;have hS:SqL K H a (ns.map V.int):=by
  cases hk:K.lookup a with
  |none=>exact .inl (.inr ⟨_,H3 hk⟩)
  |some o=>
   have e:=KX a o hk;rw[ha] at e;cases e;exact .inr ⟨_,vs.toArray,_,hk,rfl,rfl,rfl,by rw[ej,hi.length];exact hl,by simpa using rv⟩
 refine tx ((F _ hKb (nsK hns) hBa).run callerA [] QM H ⟨[.ref a],[]⟩ [.ref a] [.ref a] _ _ hr e0 (hbind QM (.ref a)) (.cons rfl .nil) (hsp H (λq hq=>H1 _ (sf hq)) hS)) λr s' h=>?_
 cases r with
 |error e=>exact(hCX H e s' h).elim
 |ok fl=>
  cases fl with
  |next=>exact jm h
  |brk=>exact jm h
  |cont=>exact jm h
  |ret u=>
   obtain⟨v,H',os,bare,un,hok',r',q⟩:=h;have q':v=.bl true:=q;subst q';obtain rfl:u=y8 true:=r';have out:∀b o,QM.heap.get? b=some o->(b∈tabs.map (·.2)/\∃more,s'.heap.get? b=some (ve more))\/s'.heap.get? b=some o:=λb o e=>by
    rcases cases3 b with h|⟨rfl,h1,_⟩|h
    ·obtain⟨more,hm⟩:=un.tbls b _ (H1 b h)
     exact .inl ⟨h,_,hok' b _ hm⟩
    ·obtain⟨e2,_⟩:=hok' _ _ (un.frzs _ _ _ (H3 h1))
     rw[ha] at e;cases e;exact .inr e2
    ·exact .inr (un.keep b o e h (by intro z;exact absurd (show b∈([]:List dk) from z) (by simp)) (by simp))
   refine⟨rfl,⟨λb o e=>?_,λb o e=>?_⟩,os,bare⟩
   ·rcases out b o e with⟨h,more,hm⟩|h
    ·have e1:=(tabAt b h).1
     rw[e] at e1;cases e1;exact .inr (.inl ⟨(tabAt b h).2.2,rfl,#[],more,rfl,by rw[Array.empty_append];exact hm⟩)
    ·exact .inl h
   ·rcases out b o e with⟨_,more,hm⟩|h
    ·exact⟨_,hm⟩
    ·exact⟨o,h⟩
theorem gQ {l:xt}{k:Nat}{q:fh}{loose:Za6}{XP:(Za2)->i8->Prop}{YP:gp->i8->Prop}{d:HS}{K:zp->de}{CX:gp->CXT}{sp:gp->Sp}{x:Str}{tabs:List (dk×dk)}
  (hn:l.most=some n)(hn2:n<=sizeLine)(hdf:d.params.defaults=[])(hr:Ca k callerA)
  (hY:∀(w:gp) (h:i8),YP w h->(K w.params).In h)(hTb:∀(w:gp) (h:i8),YP w h->yp tabs h)(hTK:∀w:gp,∀p∈tabs,(K w.params).lookup p.2=none)
  (F:∀(w:gp) (mg:Za2) (fa:dk) (h:i8),(K w.params).In h->h.Ns mainGlobals mg->mg d.name=some (.ref fa) ->
   ∃fd:jk,(∀(s:d4) (u:d3),AL s fd ⟨[u],[]⟩ [(x,u)]) /\
    ∀base:i8,(K w.params).In base->base.Ns mainGlobals mg->(∀q∈tabs,base.BuiltinsAt mg q.2)->Av l.prog w (K w.params) mg base (CX w) k fa fd [x] (sp w))
  (hsp:∀(w:gp) (H:Hp) (a:dk) (ns:List Int),ns.length<=n->(∀p∈tabs,H p.2=some (.tbl #[]))->SqL (K w.params) H a (ns.map V.int)->sp w [.ref a] H (λv _=>v=.bl true) λ_ _ _=>False)
  (hCX:∀(w:gp) (H:Hp) (s:d4) (e:d3) (s':d4),CX w [] H s (λ_ _ _=>False) e s'->False) :
  DD q loose XP YP l.row.toRowW d [] (λf vs=>BL f vs):=by
 refine Att.attach_call hn hdf λw QN QM mg mb fa o pm cd doc a vs ns G Y ho hd hcd hmg hobj hints hlen hg=>?_;have KX:=hY w _ Y;obtain⟨fd,hb,hF⟩:=F w mg fa _ KX G.T.g hmg;exact Z9 (hTb w _ Y) (hTK w) G.T.bmain KX G.T.g G.T.b G.T.builtins G.T.nolimit hg hobj hints (fq hlen hn2) hr hF hb (λH hO hS=>hsp w H a ns hlen hO hS) λH e s'=>hCX w H QM e s'
structure Sr (K:de) (x qual:Str) (st:jc) (f:dk) (fd:jk) (c P:dk):Prop where
 ex:∃(oc:d3) (od:Option dk) (kV doc pm:d3) (an:Option dk) (ct:d3) (osl:Array (Za7)),
  fd=i9 x qual (Br st) (Bg st) (Af st) .none kV doc pm an (.ref c) ct/\K.lookup f=some ⟨oc,od,.func fd,osl⟩/\km K (.ref c) qual=true
 kp:jt K (.ref f)=true
 hd:∃oc,K.lookup c=some oc/\Ir oc c P
section
variable {P:fh} {w:gp} {K:de} {mg:Za2} {base:i8}
theorem Sr.ok {x:Str}{st:jc}{f c:dk}{k:Nat}(F:Sr K x qual st f fd c Pt)(S:Al N ps (Af st))(len:∀vs H Q E,sp vs H Q E->vs.length=ps.length)
  (hbody:∀(A:ir) (outer:List Env) (s:d4) (H:Hp) (vs:List V) (Q:VK) (E:XK),Ca k (A.deeper (envOfC qual (Af st) s.heap.objs.size f (.ref c)))->sp vs H Q E ->
   ∃t,PSs (X2 CX0 P w K mg base N qual (Af st) f (.ref c) A outer s H E).nox (Bg st) t/\t { nx:=λ_ H'=>Q .non H',rt:=Q } (Lh N vs) H):Av P w K mg base CX0 (k+1) f fd ps sp:=by
 obtain⟨oc,od,kV,doc,pm,an,ct,osl,rfl,lk,hcd⟩:=F.ex;refine oZ lk hcd S len λA outer s H vs Q E hr hsp=>?_;obtain⟨t,h,q⟩:=hbody A outer s H vs Q E hr hsp;exact⟨t,h.nox,q⟩
theorem Sr.code {x:Str}{st:jc}{f c:dk}(F:Sr K x qual st f fd c Pt)(hK:K.In base):AW base c Pt:=let ⟨oc,e,h⟩:=F.hd;h.at (hK _ _ e)
theorem Sr.binds {x:Str}{st:jc}{f c:dk}(F:Sr K x qual st f fd c Pt)
  (h:∀(kV doc pm:d3) (an:Option dk) (cdv ct:d3) (us:Za3),us.length=ps.length->bindArgs (i9 x qual (Br st) (Bg st) (Af st) .none kV doc pm an cdv ct) ⟨us,[]⟩=pure (ps.zip us)):E6 K fd ps []:=by
 obtain⟨oc,od,kV,doc,pm,an,ct,osl,rfl,lk,hcd⟩:=F.ex;exact .all (h kV doc pm an (.ref c) ct)
theorem Vh {x:Str}{st:jc}{f c:dk}{osl:Array (Za7)}{kV:d3}{oo:Obj}(l:K.lookup f=some ⟨oc,od,.func (i9 x qual (Br st) (Bg st) (Af st) .none kV doc pm an (.ref c) ct),osl⟩)
  (cc:km K (.ref c) qual=true)(k:jt K (.ref f)=true)(lc:K.lookup c=some oo)(hc:Ir oo c Pt):Sr K x qual st f (i9 x qual (Br st) (Bg st) (Af st) .none kV doc pm an (.ref c) ct) c Pt:=⟨⟨oc,od,kV,doc,pm,an,ct,osl,rfl,l,cc⟩,k,oo,lc,hc⟩
end
def InC (cl:List (Str×dk))(b:dk):Prop:=∃x,cl.lookup x=some b
open Classical in
noncomputable def Hn (H:Hp) (cl:List (Str×dk)):Hp:=λb=>if InC cl b then none else H b
open Classical in
noncomputable def He (H:Hp) (h:i8) (cl:List (Str×dk)):Hp:=λb=>if InC cl b then(h.get? b).map λo=>.frz o (.own 0) else H b
theorem Kf {cl:List (Str×dk)}{b:dk}(h:InC cl b):Hn H cl b=none:=if_pos h
theorem Fg {cl:List (Str×dk)}{b:dk}(h:¬ InC cl b):Hn H cl b=H b:=if_neg h
theorem Nk {cl:List (Str×dk)}{b:dk}{o:Obj}(hb:InC cl b)(e:h.get? b=some o):He H h cl b=some (.frz o (.own 0)):=by
 unfold He;rw[if_pos hb,e];rfl
theorem Cs {cl:List (Str×dk)}{b:dk}(hb:¬ InC cl b):He H h cl b=H b:=if_neg hb
theorem Ej {cl:List (Str×dk)}{b:dk}(h:H b=none):Hn H cl b=none:=by
 by_cases hb:InC cl b
 ·exact Kf hb
 ·rw[Fg hb];exact h
theorem Zs {cl:List (Str×dk)}{b:dk}{o:HO}(h:Hn H cl b=some o):¬ InC cl b/\H b=some o:=by
 by_cases hb:InC cl b
 ·rw[Kf hb] at h;cases h
 ·rw[Fg hb] at h;exact⟨hb,h⟩
theorem Zc {P:fh}{cl:List (Str×dk)}(hk:HOk P w H h)(hc:∀b,InC cl b->∃o u,H b=some (.frz o u)):HOk P w (Hn H cl) h:=λb o e=>by
 obtain⟨hb,e⟩:=Zs e;refine(hk b o e).stay (λ_ _ _ q=>q) (λc q=>?_) λc xs q=>?_
 ·rw[Fg λz=>?_]
  ·exact q
  ·obtain⟨o,u,e⟩:=hc c z
   rw[q] at e;cases e
 ·rw[Fg λz=>?_]
  ·exact q
  ·obtain⟨o,u,e⟩:=hc c z
   rw[q] at e;cases e
theorem Xo {P:fh}{w:gp}{H:Hp}{h:i8}{cl:List (Str×dk)}(hk:HOk P w H h)(hn:∀b,InC cl b->H b=none):HOk P w (He H h cl) h:=λb o e=>by
 by_cases hb:InC cl b
 ·unfold He at e
  rw[if_pos hb] at e
  cases g:h.get? b with
  |none=>rw[g] at e;cases e
  |some ob=>
   rw[g] at e;cases e;exact⟨g,_,g⟩
 ·rw[Cs hb] at e
  refine(hk b o e).stay (λ_ _ _ q=>q) (λc q=>?_) λc xs q=>?_
  ·rw[Cs λz=>by rw[hn c z] at q;cases q];exact q
  ·rw[Cs λz=>by rw[hn c z] at q;cases q];exact q
def Y1 (P:fh)(w:gp)(K:de)(mg:Za2)(base:i8)(k:Nat)(H:Hp)(f:dk)(dom:Int->Prop)(p:Int->Bool):Prop:=
 (∃oc od fd sl u,H f=some (.frz ⟨oc,od,.func fd,sl⟩ u))/\∀(A:ir) (outer:List Env) (s:d4) (H1:Hp) (i:Int) (t:Tok),Ca k A->Sv P w K mg base A outer s H1->Am H H1->dom i ->
  codeAny (model P w) A (.call (.ref f) ⟨[.int i t],[]⟩) (CR CX0 outer P w H1 s (λv H2=>v=.bl (p i)/\Am H1 H2) E0) s
theorem Y1.same {P:fh}{K:de}{mg:Za2}{k:Nat}{f:dk}{dom:Int->Prop}{p:Int->Bool}(a:Y1 P w K mg base k H f dom p)(s:Am H H'):Y1 P w K mg base k H' f dom p:=
 ⟨let ⟨oc,od,fd,sl,u,e⟩:=a.1;⟨oc,od,fd,sl,u,s _ _ e⟩,λA outer st H1 i t hr e0 sm hd=>a.2 A outer st H1 i t hr e0 (λb o e=>sm _ _ (s _ _ e)) hd⟩
section
variable {X:Cx} {x:Str} {i:Nat} {k:Nat} {a:ie} {ta:TE} {q pos:Pos}
def Aa1 (P:fh)(w:gp)(K:de)(mg:Za2)(base:i8)(k i:Nat)(ta:TE):TE:=λG H Q=>∃(f:dk) (dom:Int->Prop) (p:Int->Bool),G[i]?=some (some (.ref f))/\Y1 P w K mg base k H f dom p /\
 ta G H λv H1=>Wi G H1 λvs H2=>∃z:Int,v::vs=[.int z]/\Am H H2/\dom z/\∀H3,Am H2 H3->Q (.bl (p z)) H3
theorem Aba {P:fh}{K:de}{mg:Za2}{G:St}{Q:VK}(h:∃(f:dk) (dom:Int->Prop) (p:Int->Bool),G[i]?=some (some (.ref f))/\Y1 P w K mg base k H f dom p /\
 ta G H λv H1=>Wi G H1 λvs H2=>∃z:Int,v::vs=[.int z]/\Am H H2/\dom z/\∀H3,Am H2 H3->Q (.bl (p z)) H3):Aa1 P w K mg base k i ta G H Q:=h
theorem yC (hr:Ca k X.A)(hN:X.N[i]?=some x)(hv:X.env.scope.names.lookup x=some .local)(ha:PE X a ta)(hdb:autoParam ((x==("__debug__":Str))=false) QF)(hcd:autoParam ((x==("__classdict__":Str))=false) QF)
  (he:autoParam (starEach [a] X.env=[(false,eval a X.env)]) QD) :
  PE X (.Call (.Name x q) [a] [] pos) (Aa1 X.prog X.w X.K X.mg X.base k i ta):=by
 intro pins s G H Q I ⟨f,dom,p,JK,hA,h⟩;have hn:PE X (.Name x q) (tD i):=kC hN (.inl hv) hdb hcd;refine wpAny_Call_Name_kw (thn (hn pins s G H (λv H1=>v=.ref f/\H1=H) I ⟨_,JK,rfl,rfl⟩) λu s0 ⟨v0,H0,I0,r0,e0,e1⟩=>?_);subst e0 e1;obtain rfl:u=ji f:=r0;have fnAt:∀{s':d4} {H':Hp},Inv X pins G H' s'->Am H0 H'->PySem.W.FnAt f s'.heap:=λI' sm=>by
  obtain⟨oc,od,fd,sl,u,e⟩:=hA.1;exact⟨oc,od,fd,sl,(I'.hok _ _ (sm _ _ e)).1⟩
 have hp:PA X [a] (Ti ta Wi):=fB ha Ab he;refine PySem.W.callWith_F (fnAt I0 (λ_ _ e=>e)) (thn (hp pos pins s0 G H0 (λvs H1=>∃z:Int,vs=[.int z]/\Am H0 H1/\dom z/\∀H3,Am H1 H3->Q (.bl (p z)) H3) I0 ?_) λus s1 ⟨vs,H1,I1,r1,z,e1,sm,hz,q1⟩=>⟨fnAt I1 sm,?_⟩) he rfl
 ·exact h
 subst e1;obtain⟨u,rfl,t,rfl⟩:=En r1;refine yl (tx (hA.2 X.A X.stack s1 H1 z t hr I1.env0 sm hz) λr s' hq=>?_)
 cases r with
 |error e=>exact hq.elim
 |ok fl=>
  cases fl with
  |ret u=>
   obtain⟨v,H',os,bare,un,hok,r,e2,sm2⟩:=hq;subst e2;exact I1.after ⟨_,H',os,bare,un,hok,r,q1 _ sm2⟩
  |next=>exact jm hq
  |brk=>exact jm hq
  |cont=>exact jm hq
end
abbrev iG (qual:Str)(scope:l6)(cl:List (Str×dk))(C f:dk)(cd:d3):Env:=newEnv scope C mainGlobals cl (qual++kr ".<locals>.") (some f) cd none builtinsNs
def T6 (P:fh)(w:gp)(K:de)(mg:Za2)(base:i8)(N:Za6)(qual:Str)(scope:l6)(cl:List (Str×dk))(f:dk)(cd:d3)(A:ir)(outer:List Env)(s:d4)(H:Hp):Cx where
 prog:=P
 w:=w
 K:=K
 mg:=mg
 base:=base
 A:=A.deeper (iG qual scope cl s.heap.objs.size f cd)
 N:=N
 QN:=s
 QY:=H
 env:=iG qual scope cl s.heap.objs.size f cd
 outer:=outer
 stack:=iG qual scope cl s.heap.objs.size f cd::outer
 ex:=[]
 fn:=λ_=>false
 calm:=true
 pn:=[]
 xe:=λ_ _=>False
section
variable {P:fh} {w:gp} {K:de} {mg:Za2} {base:i8}
theorem qY {QX:Za6}{QQ:l6}{x:Str}{cl:List (Str×dk)}{f:dk}{cd:d3}{outer:List Env}{G:St}{QR:i8}{tk:Nat}{v0:V}{u0:d3}{k:Nat}
  (L:Bf QX QQ scope x N ix)(hr:Ca (k+1) A)(e0:Sv P w K mg base A outer s H1)
  (hinj:∀y z c,cl.lookup y=some c->cl.lookup z=some c->y=z)(hhas:∀y,(y,lh)∈scope.names->∃c,cl.lookup y=some c)
  (hcs:∀y c,cl.lookup y=some c->∃o v,H1 c=some (.frz o (.own 0))/\o.data=.cell v)
  (hval:∀y j v,(y,j)∈N.tail.zip ix->G[j]?=some (some v)->∃c o u,cl.lookup y=some c/\H1 c=some (.frz o (.own 0))/\o.data=.cell (some u)/\A5 v u)
  (hr0:A5 v0 u0)(hns:QR.Ns s.heap.objs.size λz=>n6 z [(x,u0)].reverse)(hk:∀b o,s.heap.get? b=some o->QR.get? b=some o) :
  Inv (T6 P w K mg base N qual scope cl f cd A outer s (Hn H1 cl)) [] (some v0::frV G ix) (Hn H1 cl) { s with heap:=QR,toks:=tk }:=by
 have noA:∀b:dk,b∉(T6 P w K mg base N qual scope cl f cd A outer s (Hn H1 cl)).ex:=λb z=>absurd (show b∈([]:List dk) from z) (by simp);have kf:∀y,scope.names.lookup y≠some .cell:=λy e=>L.nocell _ (jf e) rfl;refine⟨⟨e0.mod,L.kind,rfl,rfl,dh _,λy z c h1 h2=>hinj y z c h1 h2,λy hy=>?_,λy c z _=>?_,λ_=>(hr.deeper _).hd,AN e0.frames,.inr ⟨rfl,rfl⟩,λb z=>absurd z (noA b),λb o e=>⟨(e0.bs b o e).1,Ej (e0.bs b o e).2⟩,e0.bsz,λb _ _=>noA b,λb z=>absurd z (noA b),e0.funs,λb hb=>Ej (e0.frf b hb)⟩,
  rfl,e0.bare,Un.kept hk,⟨_,hns,λi y v h1 h2 h3=>?_⟩,λy c e=>?_,Ej (e0.hok.fresh (dh _)),λy c e=>Kf ⟨y,e⟩,λp hp=>absurd (show p∈([]:Za1) from hp) (by simp),?_,?_⟩
 ·have hy:scope.names.lookup y=some .cell\/scope.names.lookup y=some .free:=hy
  rcases hy with hy|hy
  ·exact absurd hy (kf y)
  ·exact hhas y (jf hy)
 ·cases(show false=true from z)
 ·cases i with
  |zero=>
   have h1:N[0]?=some y:=h1;have h2:some (some v0)=some (some v):=h2;cases h2;have hx:N[0]?=some x:=by have:=L.hd;rwa [uz] at this
   rw[h1] at hx;cases hx;exact⟨u0,hr0,.inl ⟨L.loc,by simp⟩⟩
  |succ j=>
   have h1:N[j+1]?=some y:=h1;have h2:(frV G ix)[j]?=some (some v):=h2;unfold frV at h2;rw[du] at h2
   cases hj:ix[j]? with
   |none=>rw[hj] at h2;cases h2
   |some m=>
    rw[hj] at h2;have h2:(G[m]?).getD none=some v:=dr h2;have h2':G[m]?=some (some v):=by
     cases e:G[m]? with
     |none=>rw[e] at h2;cases h2
     |some z=>rw[e] at h2;exact congrArg some h2
    have ht:N.tail[j]?=some y:=by rw[qg];exact h1
    have hz:(y,m)∈N.tail.zip ix:=d5 (i:=j) (by rw[pj];exact⟨ht,hj⟩);obtain⟨c,o,u,e1,e2,e3,r⟩:=hval y m v hz h2';exact⟨u,r,.inr ⟨.inr (L.at_ _ hz).2,c,e1,o,hk _ _ (e0.hok _ _ e2).1,e3⟩⟩
 ·obtain⟨o,v,e1,e2⟩:=hcs y c e
  exact⟨v,o,hk _ _ (e0.hok _ _ e1).1,e2⟩
 ·exact(Zc e0.hok λb ⟨y,e⟩=>let ⟨o,v,e1,_⟩:=hcs y b e;⟨o,_,e1⟩).kept hk
 ·show(some v0::frV G ix).length=N.length
  rw[L.len];simp[frV]
theorem nQ {QX:Za6}{QQ:l6}{x:Str}{cl:List (Str×dk)}{f c':dk}{G:St}{k:Nat}{body:ie}{ctv:d3}{oc:Obj}{dom:Int->Prop}{p:Int->Bool}
  (L:Bf QX QQ scope x N ix)(hco:scope.isCoroutine=false)(hgen:scope.isGenerator=false)
  (hinj:∀y z c,cl.lookup y=some c->cl.lookup z=some c->y=z)(hhas:∀y,(y,lh)∈scope.names->∃c,cl.lookup y=some c)
  (hcs:∀y c,cl.lookup y=some c->∃o v,H c=some (.frz o (.own 0))/\o.data=.cell v)
  (hval:∀y j v,(y,j)∈N.tail.zip ix->G[j]?=some (some v)->∃c o u,cl.lookup y=some c/\H c=some (.frz o (.own 0))/\o.data=.cell (some u)/\A5 v u)
  (hf:H f=some (.frz (y3 "<lambda>" qual params body scope cl pm c' ctv) (.own 0)))(hc':H c'=some (.frz oc (.own 0)))(hoc:Vw oc qual)
  (hbind:∀(n:Int) (t:Tok),bindArgs (CO "<lambda>" qual params body scope cl pm (.ref c') ctv) ⟨[.int n t],[]⟩=pure [(x,.int n t)])
  (hbody:∀(A:ir) (outer:List Env) (s:d4) (H1:Hp),Ca k (A.deeper (iG qual scope cl s.heap.objs.size f (.ref c')))->PE (T6 P w K mg base N qual scope cl f (.ref c') A outer s H1) body te)
  (hte:∀(i:Int) (H1:Hp),dom i->(∀b u,¬ InC cl b->H b=some u->H1 b=some u)->te (some (.int i)::frV G ix) H1 λv H2=>v=.bl (p i)/\Am H1 H2):Y1 P w K mg base (k+1) H f dom p:=by
 refine⟨⟨_,_,_,_,_,hf⟩,λA outer s H1 i t hr e0 sm hd=>?_⟩;have hfo:s.heap.get? f=some (y3 "<lambda>" qual params body scope cl pm c' ctv):=(e0.hok _ _ (sm _ _ hf)).1;have hco':s.heap.get? c'=some oc:=(e0.hok _ _ (sm _ _ hc')).1;have lim:s.heap.NoLimit:=e0.mod.nolimit.keeps λb o e=>(e0.bs b o e).1;refine AC hr.depth hfo rfl hco hgen rfl (let ⟨vs,t,e1,e2⟩:=hoc;⟨c',oc,vs,t,rfl,hco',e1,e2⟩) ?_;rw[hbind];refine dw (sr L.nocell (λy hy=>by cases ee.mp hy;exact L.loc) (λQR hns hsb=>⟨lim.fresh _ hsb,?_⟩) L.kind);have JG:∀b o,s.heap.get? b=some o->QR.get? b=some o:=λb o e=>hsb.extBut b o (fm (eg e)) (dj _ e);have inH:∀b,InC cl b->∃o v,H1 b=some (.frz o (.own 0))/\o.data=.cell v:=λb ⟨y,e⟩=>let ⟨o,v,e1,e2⟩:=hcs y b e;⟨o,v,sm _ _ e1,e2⟩;have I':=qY (qual:=qual) (f:=f) (cd:=.ref c') (tk:=s.toks+[(x,l5 i t)].length) (v0:=.int i) (u0:=.int i t) L hr e0 hinj hhas (λy c e=>let ⟨o,v,e1,e2⟩:=hcs y c e;⟨o,v,sm _ _ e1,e2⟩)
  (λy j v h1 h2=>let ⟨c,o,u,a1,a2,a3,a4⟩:=hval y j v h1 h2;⟨c,o,u,a1,sm _ _ a2,a3,a4⟩) ⟨t,rfl⟩ hns JG
 refine AB (lz (hbody A outer s (Hn H1 cl) (hr.deeper _) [] _ _ _ _ I' (hte i _ hd λb u hb e=>by rw[Fg hb];exact sm _ _ e)) (λv s' ⟨v',H2,I2,r,ev,sm2⟩=>?_) λe s' z=>z.elim);have nfr:∀b,InC cl b->b∉frs outer:=λb hb z=>by
  obtain⟨o,v,e1,_⟩:=inH b hb;rw[e0.frf b z] at e1;cases e1
 have cell':∀b o u,InC cl b->H1 b=some (.frz o u)->s'.heap.get? b=some o/\u=.own 0:=λb o u hb e=>by
  obtain⟨o2,v2,e1,_⟩:=inH b hb;rw[e] at e1;cases e1;exact⟨I2.base.keep b o (e0.hok _ _ e).1 (Kf hb) (nfr b hb) (by simp[T6]),rfl⟩
 have same':∀b u,H1 b=some u->(∀ps,u≠.tbl ps)\/True->He H2 s'.heap cl b=some u:=λb u e _=>by
  by_cases hb:InC cl b
  ·obtain⟨o,v,e1,_⟩:=inH b hb
   rw[e] at e1;cases e1;exact Nk hb (cell' b o _ hb e).1
  ·rw[Cs hb]
   exact sm2 _ _ (by rw[Fg hb];exact e)
 refine⟨v',He H2 s'.heap cl,I2.os,I2.bare,⟨λb o e n hf hx=>I2.base.keep b o e (Ej n) hf hx,λb o e n hf hx=>I2.base.slot b o e (Ej n) hf hx,λb o e n hx=>?_,λb o e hx=>I2.base.there b o e hx,λb xs e=>same' _ _ e (.inr trivial),λb o u e=>same' _ _ e (.inr trivial),λb ps e=>⟨#[],by rw[sw];exact same' _ _ e (.inr trivial)⟩⟩,Xo I2.hok λb ⟨y,e⟩=>I2.freeC y b e,r,ev,λb u e=>same' b u e (.inr trivial)⟩;have hb:¬ InC cl b:=λhb=>by
  obtain⟨o,v,e1,_⟩:=inH b hb;rw[n] at e1;cases e1
 rw[Cs hb];exact I2.base.free b o e (Ej n) hx
end
inductive Ps (P:fh)(w:gp)(K:de)(mg:Za2)(base:i8)(k:Nat)(vs:List V)(H:Hp)(Q:VK)(E:XK):Prop|mk(lo hi:Int)(f:dk)(p:Int->Bool)(_:vs=[.int lo,.int hi,.ref f])(_:lo<=hi)(_:Y1 P w K mg base k H f (λi=>lo<=i/\i<hi) p)(_:∀m H',lo<=m->m<=hi->(lo<m->p (m-1)=false)->(m<hi->p m=true)->Am H H'->Q (.int m) H')
def cJ (Pt:dk)(lpos:Pos)(qual:Str)(ix:Za4)(te ta tb:TE):TE:=λG H Q=>ta G H λv H1=>tb G H1 λu H2=>∃(lo hi:Int) (p:Int->Bool),v=.int lo/\u=.int hi/\lo<=hi/\Kk H2 Pt lpos qual /\
 (∀(i:Int) (H3:Hp),lo<=i->i<hi->Lm Pt H2 H3->te (some (.int i)::frV G ix) H3 λv H4=>v=.bl (p i)/\Am H3 H4) /\
 ∀(m:Int) (H':Hp),lo<=m->m<=hi->(lo<m->p (m-1)=false)->(m<hi->p m=true)->Lm Pt H2 H'->Kk H' Pt lpos qual->Q (.int m) H'
theorem tG {ta tb:TE}{G:St}{Q:VK}(h:ta G H λv H1=>tb G H1 λu H2=>∃(lo hi:Int) (p:Int->Bool),v=.int lo/\u=.int hi/\lo<=hi/\Kk H2 Pt lpos qual /\
 (∀(i:Int) (H3:Hp),lo<=i->i<hi->Lm Pt H2 H3->te (some (.int i)::frV G ix) H3 λv H4=>v=.bl (p i)/\Am H3 H4) /\
 ∀(m:Int) (H':Hp),lo<=m->m<=hi->(lo<m->p (m-1)=false)->(m<hi->p m=true)->Lm Pt H2 H'->Kk H' Pt lpos qual->Q (.int m) H'):cJ Pt lpos qual ix te ta tb G H Q:=h
section
variable {X:Cx}
theorem pG {g x:Str}{a b body:ie}{ta tb:TE}{q:Pos}{ff c:dk}{kf k:Nat} 
  (F:Av X.prog X.w X.K X.mg X.base CX0 kf ff fd ps (Ps X.prog X.w X.K X.mg X.base (k+1)))(hr:Ca kf X.A)(hg:Gl X g)(hm:X.mg g=some (.ref ff))(hkp:jt X.K (.ref ff)=true)(hb:E6 X.K fd ps [])
  (ha:PE X a ta)(hbb:PE X b tb)(hfn:X.fn=λ_=>true)
  (C:AW X.base c Pt)(hB:X.base.BuiltinsAt X.mg Pt)(hcode:X.env.code=.ref c)(hq:X.env.qual++"<lambda>"=qual)
  (L:Bf X.N X.env.scope scope x N ix)(hco:scope.isCoroutine=false)(hgen:scope.isGenerator=false)(hdef:defaultsOf params X.env=([],[]))
  (hbind:∀(cl:List (Str×dk)) (pm cv ctv:d3) (n:Int) (t:Tok),bindArgs (CO "<lambda>" qual params body scope cl pm cv ctv) ⟨[.int n t],[]⟩=pure [(x,.int n t)])
  (hbody:∀(cl:List (Str×dk)) (f c':dk) (A:ir) (outer:List Env) (s:d4) (H1:Hp),Ca k (A.deeper (iG qual scope cl s.heap.objs.size f (.ref c')))->PE (T6 X.prog X.w X.K X.mg X.base N qual scope cl f (.ref c') A outer s H1) body te)
  (hdb:autoParam ((g==("__debug__":Str))=false) QF)(he1:autoParam (starEach [a,b,.Lambda params body scope lpos] X.env=(false,eval a X.env)::starEach [b,.Lambda params body scope lpos] X.env) QD)(he2:autoParam (starEach [b,.Lambda params body scope lpos] X.env=(false,eval b X.env)::starEach [.Lambda params body scope lpos] X.env) QD)
  (he3:autoParam (starEach [.Lambda params body scope lpos] X.env=[(false,eval (.Lambda params body scope lpos) X.env)]) QD)(hpl:autoParam ((backTo pos (starEach [b,.Lambda params body scope lpos] X.env)).any (·.1)=false) QD) :
  PE X (.Call (.Name g q) [a,b,.Lambda params body scope lpos] [] pos) (cJ Pt lpos qual ix te ta tb):=by
 k_in;refine wpAny_Call_Name_kw (Pg I hg hm ?_ hdb);refine callWith_K (h₀:=X.base) I.ok.mod.kin hkp ?_ he1 hpl;rw[he1];show wpAny _ _ (spliced ((false,eval a X.env)::backTo pos (starEach [b,.Lambda params body scope lpos] X.env))) _ _ s;refine lj (thE ha I h λu1 s1 v1 H1 I1 r1 q1=>?_);rw[he2];show wpAny _ _ (spliced ((false,eval b X.env)::backTo pos (starEach [.Lambda params body scope lpos] X.env))) _ _ s1;refine lj (thE hbb I1 q1 λu2 s2 v2 H2 I2 r2 ⟨lo,hi,p,e1,e2,hle,hT,hbd,q2⟩=>?_);subst e1 e2;rw[he3];show wpAny _ _ (spliced [(false,eval (.Lambda params body scope lpos) X.env)]) _ _ s2;have hfree:∀y∈scope.names,y.2=.free->∃c,X.env.cells.lookup y.1=some c:=λy hy hf=>I.ok.has y.1 (.inl (L.free y hy hf));have sub:∀y c,(Cj X.env scope.names []).lookup y=some c->X.env.cells.lookup y=some c:=λy c h=>F8 _ _ y c hfree (λ_ _ z=>by simp at z) h;refine lj (Yo I2 hT C hB hcode (Gj hfree) hdef hq λf c' oc pm ctv s3 H3 I3 hT3 sm hf0 hf hc' hoc=>?_);refine ot ?_;generalize hcl:Cj X.env scope.names []=cl at hf sub;have inj:∀y z c,cl.lookup y=some c->cl.lookup z=some c->y=z:=λy z c h1 h2=>I.ok.inj y z c (sub y c h1) (sub z c h2);have n3:∀b,InC cl b->H3 b=none:=λb ⟨y,e⟩=>I3.freeC y b (sub y b e);have cellAt:∀y c,cl.lookup y=some c->∃o v,s3.heap.get? c=some o/\o.data=.cell v:=λy c e=>let ⟨v,o,e1,e2⟩:=I3.cell y c (sub y c e);⟨o,v,e1,e2⟩;have nLoc:∀b,InC cl b->b≠X.env.locals:=λb ⟨y,e⟩=>I3.cne y b (sub y b e);have hab:∀b,InC cl b->X.QN.heap.objs.size<=b:=λb ⟨y,e⟩=>I3.ok.cab y b (by rw[hfn]) (sub y b e);have nfr:∀b,InC cl b->b∉frs X.stack:=λb hb z=>by
  rcases gt.mp (I3.stkSub b z) with e|hz
  ·exact nLoc b hb e
  ·obtain⟨_,o,ho,_⟩:=I3.ok.funs.mem hz
   exact absurd (eg ho) (qi.mpr (hab b hb))
 have e0:Sv X.prog X.w X.K X.mg X.base X.A X.stack s3 (He H3 s3.heap cl):=by
  have z:=I3.env0;refine⟨z.frames,z.mod,λb o e=>⟨(z.bs b o e).1,?_⟩,z.bsz,z.funs,λb hb=>?_,Xo z.hok n3,z.bare⟩
  ·rw[Cs λhb=>?_]
   ·exact(z.bs b o e).2
   ·exact absurd (eg e) (qi.mpr (fq I3.ok.bsz (hab b hb)))
  ·rw[Cs λh=>nfr b h hb]
   exact z.frf b hb
 have out:∀b u,H3 b=some u->He H3 s3.heap cl b=some u:=λb u e=>by
  rw[Cs λhb=>by rw[n3 b hb] at e;cases e];exact e
 have asks:Y1 X.prog X.w X.K X.mg X.base (k+1) (He H3 s3.heap cl) f (λi=>lo<=i/\i<hi) p:=by
  refine nQ (G:=G) (te:=te) L hco hgen inj (λy hy=>?_) (λy c e=>?_) (λy j v hz hj=>?_) (out _ _ hf) (out _ _ hc') hoc (hbind _ _ _ _) (λA outer s H1 hr=>hbody _ _ _ A outer s H1 hr) λi H4 hi k4=>?_
  ·rw[<-hcl];exact iu.mp (Db _ _ y hy)
  ·obtain⟨o,v,e1,e2⟩:=cellAt y c e
   exact⟨o,v,Nk ⟨y,e⟩ e1,e2⟩
  ·obtain⟨b1,b2⟩:=L.at_ _ hz
   have hm:=jf b2;have hcell:=L.free _ hm rfl;obtain⟨m',hn',hl'⟩:=I3.loc;obtain⟨u,r,lk⟩:=hl' j y v b1 hj (.inr (.inl hcell));rcases lk with lk|⟨_,c2,e,o,z1,z2⟩
   ·rw[show X.env.kindOf y=some .cell from hcell] at lk
    cases lk.1
   ·obtain⟨c3,e'⟩:=iu.mp (Db (env:=X.env) scope.names [] y hm)
    rw[hcl] at e';have e2:=sub y c3 e';rw[e] at e2;cases e2;exact⟨c2,o,u,e',Nk ⟨y,e'⟩ z1,z2,r⟩
  ·refine hbd i H4 hi.1 hi.2 λb u hb e=>?_
   have e3:=sm b u hb e;exact k4 b u (λhc=>by rw[n3 b hc] at e3;cases e3) (out b u e3)
 refine⟨I3.kIn,?_⟩;show wpAny _ _ (call (.ref ff) [u1,u2,.ref f]) _ _ s3;have rv:Au [V.int lo,V.int hi,V.ref f] [u1,u2,.ref f]:=.cons r1 (.cons r2 (.cons rfl .nil));have hl:([u1,u2,ji f]++[]).length=ps.length:=by
  have:=F.len [.int lo,.int hi,.ref f] (He H3 s3.heap cl) (λ_ _=>True) E0 ⟨lo,hi,f,p,rfl,hle,asks,λ_ _ _ _ _ _ _=>trivial⟩;exact this
 refine yl (tx (F.run X.A X.stack s3 (He H3 s3.heap cl) ⟨[u1,u2,.ref f],[]⟩ ([u1,u2,.ref f]++[]) [.int lo,.int hi,.ref f] (λv H'=>∃m,v=.int m/\lo<=m/\m<=hi/\(lo<m->p (m-1)=false)/\(m<hi->p m=true)/\Am (He H3 s3.heap cl) H') E0 hr e0 (hb s3 _ I3.kIn hl) (by simpa using rv)
  ⟨lo,hi,f,p,rfl,hle,asks,λm H' a1 a2 a3 a4 a5=>⟨m,rfl,a1,a2,a3,a4,a5⟩⟩) λr s' hq=>?_)
 cases r with
 |error e=>exact hq.elim
 |ok fl=>
  cases fl with
  |next=>exact jm hq
  |brk=>exact jm hq
  |cont=>exact jm hq
  |ret u=>
   obtain⟨v,H4,os,bare,un,hok,rr,m,ev,a1,a2,a3,a4,sm4⟩:=hq;subst ev;have c4:∀b,InC cl b->∃o,s3.heap.get? b=some o/\H4 b=some (.frz o (.own 0)):=λb ⟨y,e⟩=>by
    obtain⟨o,v,e1,_⟩:=cellAt y b e;exact⟨o,e1,sm4 _ _ (Nk ⟨y,e⟩ e1)⟩
   have sm5:∀b u,H3 b=some u->Hn H4 cl b=some u:=λb u e=>by
    rw[Fg λhb=>by rw[n3 b hb] at e;cases e];exact sm4 _ _ (out _ _ e)
   have un2:Un (frs X.stack) [] H3 (Hn H4 cl) s3.heap s'.heap:=by
    refine⟨λb o e n hf hx=>?_,λb o e n hf hx=>?_,λb o e n hx=>?_,λb o e hx=>un.there b o e hx,λb xs e=>sm5 _ _ e,λb o u e=>sm5 _ _ e,λb ps e=>⟨#[],by rw[sw];exact sm5 _ _ e⟩⟩
    ·by_cases hb:InC cl b
     ·obtain⟨o2,z1,z2⟩:=c4 b hb
      rw[e] at z1;cases z1;exact(hok _ _ z2).1
     ·exact un.keep b o e (by rw[Cs hb];exact n) hf hx
    ·have hb:¬ InC cl b:=λhb=>nfr b hb hf
     exact un.slot b o e (by rw[Cs hb];exact n) hf hx
    ·by_cases hb:InC cl b
     ·exact Kf hb
     ·exact Ej (un.free b o e (by rw[Cs hb];exact n) hx)
   have hok2:HOk X.prog X.w (Hn H4 cl) s'.heap:=Zc hok λb hb=>let ⟨o,_,z⟩:=c4 b hb;⟨o,_,z⟩;refine I3.after ⟨_,Hn H4 cl,os,bare,un2,hok2,rr,q2 m _ a1 a2 a3 a4 (λb u hb e=>sm5 _ _ (sm b u hb e)) ?_⟩;obtain⟨pps,t1,t2,t3⟩:=hT3;exact⟨pps,sm5 _ _ t1,t2,t3.imp id λ⟨c2,oc2,z1,z2,z3⟩=>⟨c2,oc2,z1,sm5 _ _ z2,z3⟩⟩
theorem vZ {g x:Str}{a b body:ie}{ta tb:TE}{q:Pos}{c:dk}{kf k:Nat} 
  (F:Cal X.prog X.w X.K X.mg X.base g kf ps (Ps X.prog X.w X.K X.mg X.base (k+1)))(hr:Ca kf X.A)(ha:PE X a ta)(hbb:PE X b tb)(C:AW X.base c Pt)(hB:X.base.BuiltinsAt X.mg Pt)(hcode:X.env.code=.ref c)(hq:X.env.qual++"<lambda>"=qual)
  (L:Bf X.N X.env.scope scope x N ix)(hbody:∀(cl:List (Str×dk)) (f c':dk) (A:ir) (outer:List Env) (s:d4) (H1:Hp),Ca k (A.deeper (iG qual scope cl s.heap.objs.size f (.ref c')))->PE (T6 X.prog X.w X.K X.mg X.base N qual scope cl f (.ref c') A outer s H1) body te)
  (hfn:autoParam (X.fn=λ_=>true) QD)(hg:autoParam (Gl X g) QD)(hco:autoParam (scope.isCoroutine=false) QD)(hgen:autoParam (scope.isGenerator=false) QD)(hdef:autoParam (defaultsOf params X.env=([],[])) QD)
  (hbind:∀(cl:List (Str×dk)) (pm cv ctv:d3) (n:Int) (t:Tok),bindArgs (CO "<lambda>" qual params body scope cl pm cv ctv) ⟨[.int n t],[]⟩=pure [(x,.int n t)]:=by intros;rfl)
  (hdb:autoParam ((g==("__debug__":Str))=false) QF)(he1:autoParam (starEach [a,b,.Lambda params body scope lpos] X.env=(false,eval a X.env)::starEach [b,.Lambda params body scope lpos] X.env) QD)(he2:autoParam (starEach [b,.Lambda params body scope lpos] X.env=(false,eval b X.env)::starEach [.Lambda params body scope lpos] X.env) QD)
  (he3:autoParam (starEach [.Lambda params body scope lpos] X.env=[(false,eval (.Lambda params body scope lpos) X.env)]) QD)(hpl:autoParam ((backTo pos (starEach [b,.Lambda params body scope lpos] X.env)).any (·.1)=false) QD) :
  PE X (.Call (.Name g q) [a,b,.Lambda params body scope lpos] [] pos) (cJ Pt lpos qual ix te ta tb):=by
 obtain⟨f,fd,F,bb,hm,hk⟩:=F.ex;exact pG F hr hg hm hk bb ha hbb hfn C hB hcode hq L hco hgen hdef hbind hbody hdb he1 he2 he3 hpl
end
def ltV (x y:d3):Bool:=decide (numOf x<numOf y)
def ltJ (x y:Int):Bool:=decide (x<y)
section
variable {prog:fh} {w:gp} {A:ir} {E:Za0} {s:d4}
theorem Sk {a:dk}{R:Fin->d4->Prop}(ho:s.heap.get? a=some (seqObj "list" vs.toArray n))(hi:lf vs ns)(hz:vs.length<=sizeLine)
  (h:∀out:Array d3,out.toList=Aq ltV vs->R (.done (.ret .none)) { s with heap:=sortedHeap s.heap a vs out }) :
  wpAny (model prog w) A (qd.«list.sort» ⟨[.ref a],[]⟩) R E s:=by
 rw[list_sort_plain];have ha:a<s.heap.objs.size:=eg ho;refine wpAny_bind (CN ho rfl ?_);refine wpAny_bind (listUpdate_at ho rfl ?_ (by simpa using hz) (by simp));obtain⟨e1,ho1⟩:∃e1,(s.heap.update a (jp λ_=>#[])).get? a=some (seqObj "list" #[] e1):=⟨_,wl ho (λ_=>#[])⟩;refine wpAny_bind (seqEpoch_at ho1 rfl ?_);refine wpAny_bind (AO ?_);refine wpAny_bind (x8 ?_);refine wpAny_holding ?_;have ho6:(((s.heap.update a (jp λ_=>#[])).push (seqObj "tuple" vs.toArray 0)).push (seqObj "list" #[] 0)).get? a=some (seqObj "list" #[] e1):=by
  rw[xn _ _ _ (by rw[AQ,uo];exact fm (xw ha)),xn _ _ _ (by rw[uo];exact fm ha)];exact ho1
 show wpAny (model prog w) A _ R E { s with heap:=((s.heap.update a (jp λ_=>#[])).push (seqObj "tuple" vs.toArray 0)).push (seqObj "list" #[] 0) };dsimp only;have hsz:vs.toArray.size=vs.length:=by simp
 have ez:(vs.toArray.zip vs.toArray).toList=vs.map λv=>(v,v):=by
  rw[Array.toList_zip];generalize vs=l
  induction l with
  |nil=>rfl
  |cons x l ih=>exact congrArg _ ih
 have fin:∀st':i5,(arrOf st').toList=Aq ltK (vs.map λv=>(v,v))->R (.done (.ret .none)) { s with heap:=sortedHeap s.heap a vs ((arrOf st').map (·.2)) }:=λst' e=>by
  refine h _ ?_;rw[DB,e,Hx (lt:=ltV) (f:=λv=>((v,v):fg)) λ_ _=>rfl,gx];exact List.map_id _
 have szo:∀st':i5,(arrOf st').toList=Aq ltK (vs.map λv=>(v,v))->((arrOf st').map (·.2)).size<=sizeLine+1:=λst' e=>by
  rw[Array.size_map,<-eh,e,Dc,da];lia
 by_cases h2:vs.toArray.size<2
 ·rw[if_pos h2,if_pos h2]
  refine wpAny_bind (dw ?_);rw[CP];refine wpAny_bind (dw ?_);dsimp only;have e0:(arrOf (si general' (vs.toArray.zip vs.toArray) #[] 7 none)).toList=Aq ltK (vs.map λv=>(v,v)):=by
   show(vs.toArray.zip vs.toArray).toList=_;rw[ez];refine(Hg ?_).symm;have hl:(vs.map λv=>((v,v):fg)).length<2:=by rw[da];lia
   exact Yr hl
  refine wpAny_bind (seqEpoch_at ho6 rfl ?_);refine wpAny_bind (listUpdate_at ho6 rfl ?_ (hsz2:=szo _ e0));simp only[bne_self_eq_false,jy,if_false];exact dw (fin _ e0)
 ·rw[if_neg h2,if_neg h2]
  rw[ksk_kind (keys:=vs.toArray) (kz:=ns) (by simpa using hi) (by lia)];refine wpAny_bind (dw ?_);refine wpAny_bind (lz (Ln (P:=λx=>∃n t,x.1=l5 n t) Tk gE (l0:=vs.map λv=>(v,v)) (st:=si oneType' (vs.toArray.zip vs.toArray) #[] 7 none)
   (Q:=λ_ st'=>failedOf st'=none/\(arrOf st').toList=Aq ltK (vs.map λv=>(v,v))) rfl rfl rfl ez (λx hx=>?_) (by rw[da];lia) λst' a1 a2=>⟨a1,a2⟩) ?_ λ_ _ e=>e)
  ·obtain⟨v,hvm,rfl⟩:=fz.mp hx
   exact hi.all v hvm
  rintro⟨⟨⟩,st'⟩ s' ⟨rfl,hf,hs⟩;dsimp only;refine wpAny_bind (seqEpoch_at ho6 rfl ?_);refine wpAny_bind (listUpdate_at ho6 rfl ?_ (hsz2:=szo _ hs));rw[hf];simp only[bne_self_eq_false,jy,if_false];exact dw (fin st' hs)
end
theorem mT (h:lf vs ns):lf (Aq ltV vs) (Aq ltJ ns):=by
 have e:Aq ltJ ns=(Aq ltV vs).map numOf:=by
  rw[<-Hx (f:=numOf) (lt:=ltV) (lt':=ltJ) (λ_ _=>rfl),h.nums]
 rw[e];exact Km _ λv hv=>h.all _ ((C0 (lt:=ltV) vs).mem_iff.mp hv)
section
variable {X:Cx}
def xK (K:de):List V->Hp->VK->Prop:=λxs H Q=>∃(a:dk) (ns:List Int),xs=[.ref a]/\SqL K H a (ns.map V.int)/\∀p,H p=none->Q (.ref p) (upd H p (.lst ((Aq ltJ ns).map V.int)))
theorem M4:E9 X (.builtin "sorted") (xK X.K):=by
 intro pins s G H xs us Q I r h;obtain⟨p,ns,rfl,hp,q⟩:=h;obtain⟨u,rfl,ru⟩:=En r;cases ru;obtain⟨its,rv,pl,hz⟩:=I.list hp;have hI:lf its ns:=Kt rv;have hzL:its.length<=sizeLine:=by rw[hI.length];rw[da] at hz;exact hz
 refine Calls.call_function_entry kind_sorted IU IV (args_sorted1 _) ?_;unfold qd.«sorted»;refine wpAny_bind (m:=checkCount "sorted" 1 1 _) (dw ?_);refine wpAny_bind (X7 pl.isList hzL _ _ λh' tk hk hle=>?_);refine wpAny_bind (x8 ?_ hzL);have hoL:(h'.push (seqObj "list" its.toArray 0)).get? h'.objs.size=some (seqObj "list" its.toArray 0):=fu _ rfl;refine wpAny_bind (wpAny_holding (p8 slot_list_sort ⟨_,hoL,rfl⟩ entry_list_sort (Sk hoL hI hzL λout eo=>⟨_,rfl,?_⟩) (args_list_sort _)));refine dw ⟨_,rfl,?_⟩;obtain⟨e9,hat⟩:=sortedHeap_at (out:=out) hoL;have hfin:∀b ob,s.heap.get? b=some ob->(sortedHeap (h'.push (seqObj "list" its.toArray 0)) h'.objs.size its out).get? b=some ob:=λb ob e=>by
  have e':=hk b ob e;rw[sortedHeap_old (fm (eg e')) (by rw[AQ];exact xw (eg e'))];exact dj _ e'
 have hIo:lf out.toList (Aq ltJ ns):=by rw[eo];exact mT hI
 refine⟨.ref h'.objs.size,upd H h'.objs.size (.lst ((Aq ltJ ns).map V.int)),I.laid hfin hle ⟨?_,out.toList,e9,Kv hIo,?_⟩,rfl,q _ (I.hok.fresh hle)⟩
 ·rw[da,Dc];rw[da] at hz;exact hz
 ·exact hat
end
theorem O8:isSubtype (.type "range_iterator") (.type "reversed")=pure false:=by rw[isSubtype_type];kernel_rfl
def Nu (n:Nat):Obj:={ cls:=.type "range_iterator",data:=.fields #[rawInt ((n:Int)-1),rawInt (n:Int),rawInt (-1)] }
section
variable {prog:fh} {w:gp} {A:ir} {E:Za0} {s:d4}
theorem Le {r:dk}{t u v:Tok}{Q:Za0}(hr:FA s.heap r 0 n 1 t u v)(hn:n<=100000)
  (h:Q (.ref s.heap.objs.size) { s with heap:=s.heap.push (Nu n) }):wpAny (model prog w) A (call (.builtin "range.__reversed__") [.ref r]) Q E s:=by
 have hT:s.TypeIs (.ref r) "range":=⟨_,hr,rfl⟩;have e2:ja 0 (n:Int) 1=n:=by rw[ya];split<;>lia
 have hs:(i6 0&&i6 (n:Int)&&i6 1&&i6 (-1)&&i6 (0-1)&&i6 (n:Int))=true:=by
  simp only[i6,nz,decide_eq_true_eq];lia
 refine p8 wf hT F.entry_range_reversed ?_ (F.args_range_reversed_1 _);unfold qd.«range.__reversed__»;refine wpAny_bind (sq (a:=ji r) rfl ?_);refine wpAny_bind ?_;unfold FZ;refine wpAny_bind (mn hr rfl (x:=.int 0 t) rfl ?_);refine wpAny_bind (m:=asInt? (.int 0 t)) (dw ?_);refine wpAny_bind (mn hr rfl (x:=.int n u) rfl ?_);refine wpAny_bind (m:=asInt? (.int n u)) (dw ?_);refine wpAny_bind (mn hr rfl (x:=.int 1 v) rfl ?_);refine wpAny_bind ?_;show wpAny _ _ (pure (some (1:Int))) _ _ _;refine dw ?_;show wpAny _ _ (pure ((0:Int),((n:Int),(1:Int)))) _ _ _;refine dw ?_;dsimp only;rw[e2,hs];rw[if_neg (by decide)];refine wpAny_bind (ki ?_);refine dw ⟨_,rfl,?_⟩;have e3:(0:Int)+((n:Int)-1)*1=(n:Int)-1:=by lia
 rw[e3];exact h
theorem Lv {r:dk}{t u v:Tok}{Q₁:Za0}(hr:FA s.heap r 0 n 1 t u v)(hn:n<=100000)
    (h : Q₁ (.ref s.heap.objs.size) { s with heap := s.heap.push (Nu n) }) :
    codeAny (model prog w) A (.call (.builtin "reversed.__new__") ⟨[.type "reversed", .ref r], []⟩) (wants Q₁ E) s := by
  have hT : s.TypeIs (.ref r) "range" := ⟨_, hr, rfl⟩;refine codeAny_of_tree ?_;show wpAny _ A.in1 (do checkBuiltinCall "reversed.__new__" ⟨[.type "reversed", .ref r], []⟩; again (.builtin "reversed.__new__" ⟨[.type "reversed", .ref r], []⟩)) _ _ s;refine wpAny_bind (sq (F.newCall_reversed_1 _) (dw ⟨n0 DA _, l9 F.entry_reversed_new ?_⟩));rw [ju DA _];unfold qd.«reversed.__new__»;refine wpAny_bind (sq (newClass_reversed _) ?_)
  try dsimp only
  refine wpAny_bind (sq (a := ()) (by first | rfl | kernel_rfl) ?_);refine wpAny_bind (sq (a := ()) (by first | rfl | kernel_rfl) ?_)
  try dsimp only
  refine wpAny_bind (wpAny_specialOf hT wf.lookup ?_)
  try dsimp only
  refine wpAny_bind (sq (wf.bind _) ?_)
  try dsimp only
  first
  | rw [if_neg (show ¬ ((wm "range.__reversed__" == ra) = true) from fk)]
  | (show wpAny _ _ (if (wm "range.__reversed__" == ra) = true then _ else _) _ _ _; rw [if_neg (show ¬ ((wm "range.__reversed__" == ra) = true) from fk)])
  refine wpAny_bind (ou ?_);refine wpAny_bind (m := runValue (.call (.builtin "range.__reversed__") ⟨[.ref r], []⟩)) (show wpAny _ _ (call (.builtin "range.__reversed__") [.ref r]) _ _ _ from Le hr hn ?_)
  first
  | exact dw h
  | exact wpAny_bind (dw (dw h))
theorem Lg {r:dk}{t u v:Tok}{Q:Za0}(hr:FA s.heap r 0 n 1 t u v)(hn:n<=100000)
  (h:Q (.ref s.heap.objs.size) { s with heap:=s.heap.push (Nu n) }):wpAny (model prog w) A (call (.type "reversed") [.ref r]) Q E s:=by
 refine callType_other (U:="range_iterator") (Q₁:=λobj QM=>obj=.ref s.heap.objs.size/\QM={ s with heap:=s.heap.push (Nu n) }) (by decide +kernel) F.create_reversed ⟨_,_,F.mro_reversed⟩ F.made_reversed O8 (F.typeCall_reversed_1 _) (Lv hr hn ⟨rfl,rfl⟩) ?_;rintro obj QM ⟨rfl,rfl⟩;exact⟨⟨_,fu _ rfl,rfl⟩,h⟩
end
theorem S7:bootBuiltins "reversed"=some (.type "reversed"):=by decide +kernel
section
variable {X:Cx} {tg:ie}
def uM (ta:TA):TI:=λG H R=>ta G H λvs H1=>∃n:Nat,vs=[.int n]/\n<=100000/\R (Tf ((n:Int)-1) (-1) n) H1
theorem wI {tA:TA}{G:St}{R:It->Hp->Prop}(h:tA G H λvs H1=>∃n:Nat,vs=[.int n]/\n<=100000/\R (Tf ((n:Int)-1) (-1) n) H1):uM tA G H R:=h
theorem sL {a:ie}{ta:TA}{q:Pos}(hg:Gl X "reversed")(hm:X.mg "reversed"=none)(hg2:Gl X "range")(hm2:X.mg "range"=none)(ha:PA X [a] ta)(hs:autoParam (starEach [a] X.env=[(false,eval a X.env)]) QD)
  (hs3:autoParam (starEach [wg (.Name "range" q) [a] [] pos2] X.env=[(false,eval (.Call (.Name "range" q) [a] [] pos2) X.env)]) QD):PI X tg (.Call (.Name "reversed" p) [.Call (.Name "range" q) [a] [] pos2] [] pos) (uM ta):=by
 intro pins s G H R I h;refine Call_ (Df I hg hm S7 (gn ?_ hs3 rfl));rw[hs3];refine lj ?_;show wpAny _ _ (eval (wg (.Name "range" q) [a] [] pos2) X.env) _ _ _;refine wpAny_Call_Name_kw (Df I hg2 hm2 boot_range (gn (thA ha I h λus s1 vs H1 I1 r1 q1=>?_) hs rfl) (by decide) (by decide));obtain⟨n,e,hn,q⟩:=q1;subst e;obtain⟨u,rfl,t,rfl⟩:=En r1;refine y4 (ot ?_);refine Lg (vj ..) hn ?_;have I2:Inv X pins G H1 { s1 with heap:=s1.heap.push { cls:=.type "range",data:=.fields #[.int 0 s1.toks,.int n t,.int 1 (s1.toks+1)] },toks:=s1.toks+1+1 }:=I1.kept λb o e=>dj _ e;refine v9 (x:=(n:Int)-1) (left:=n) (step:=-1) (fu _ rfl) ?_;refine⟨_,[_],_,_,H1,rfl,I2.kept (t':=s1.toks+1+1) λb o e=>dj _ e,Kg _ ((n:Int)-1) (-1) n,?_,λb hb=>?_,q⟩
 ·have e1:(n:Int)-1+((0:Nat):Int)*(-1)=(n:Int)-1:=by simp
  have e2:((n:Nat):Int)-((0:Nat):Int)=(n:Int):=by simp
  show vb _ _ ((n:Int)-1+((0:Nat):Int)*(-1)) (((n:Nat):Int)-((0:Nat):Int)) (-1);rw[e1,e2];exact fu _ rfl
 ·have e:=ee.mp hb
  subst e;exact I2.fpOk (dh _) (I2.hok.fresh (dh _))
end
end L2
end
section
namespace HD
open PySem PySem.W PySem.Calls PyProof.Rows
def Gz (tb:String->Option qd)(p:fh)(w:gp)(m:Nat)(ann:Za7):Nat->rj->Thread->Option rj
 |0,_,_=>none
 |n+1,s,t=>match through t with
  |true=>some s
  |false=>match stepOk m ann t with
   |false=>none
   |true=>match stepT (denote tb) p w s t with
    |some (s',t')=>Gz tb p w m ann n s' t'
    |none=>none
theorem T7 {tb:String->Option qd}{p:fh}{w:gp}{m:Nat}{ann:Za7}:∀{n:Nat} {s s':rj} {t:Thread},Gz tb p w m ann n s t=some s'->topRun tb p w m ann n s.abs t=some s'.abs
 |0,_,_,_,h=>by cases h
 |n+1,s,s',t,h=>by
  unfold Gz at h;unfold topRun
  cases he:through t with
  |true=>rw[he] at h;cases h;rfl
  |false=>
   rw[he] at h
   cases hk:stepOk m ann t with
   |false=>rw[hk] at h;cases h
   |true=>
    rw[hk] at h
    cases hs:stepT (denote tb) p w s t with
    |none=>rw[hs] at h;cases h
    |some r=>obtain⟨QW,t₂⟩:=r;rw[hs] at h;rw[stepT_spec hs];exact T7 h
def nX:List Obj->Nat->BT->BT
 |[],_,t=>t
 |o::l,n,t=>nX l (n+1) (t.ins n o)
noncomputable def Rp (P:zp):BT:=nX (mo P).objs.toList 0 .nil
def bootSize:Nat:=11
noncomputable def bootT (w:gp) (os:OsState):rj:=⟨Rp w.params,bootSize,(mo w.params).life,#[],yn,zm,os⟩
def Zj {α:Type}(Yf:d4->α)(h0:i8)(p q:fh)(loose:Za6)(s:d4):=
 (staticsOk (importedModules p.main.body) h0 s.heap&&namesBound p s.heap&&gensDone s&&laidKept h0 s.heap,
  openSeen q loose (importedModules p.main.body) (λ_=>true) true s,Yf s)
def bothT {α:Type}(Yf:d4->α)(s0:rj)(h0:i8)(m:Nat)(p q:fh)(loose:Za6)(M:Nat)(w:gp):=
 (Gz treeTable p w m (some (.ref 6)) M s0 (topStub p)).map λs=>Zj Yf h0 p q loose s.abs
theorem pM (P:zp):absHeap (Rp P) bootSize (mo P).life=mo P:=by kernel_rfl
theorem jE (P:zp):((mo P).isNs mainGlobals&&(#[]:Array HQ).size==0,(mo P).objs.size,(mo P).nsMap mainGlobals "__annotations__")=(true,bootSize,some (.ref 6)):=by kernel_rfl
theorem sZ {p q:fh}{loose:Za6}{α:Type}{Yf:d4->α}{Ya:gp->α}{M N:Nat}(e:opening p=plainProg p.main.scope.names)(f:∀s,fenceModules? p s=some s)(hN:DH 600 N=true)(le:DH M N=true)
  (Rx:∀w:gp,(λos=>bothT Yf (bootT w os) (mo w.params) bootSize p q loose M w)=λ_=>some (true,openGood q loose,Ya w)) :
  LeftO p q loose (λ_=>true) Yf Ya N:=λw=>by
 obtain⟨⟨h,gs,d,k,os⟩,e1,e'⟩:=qo.mp (boot_open e hN f w);obtain⟨rfl,rfl,rfl,rfl⟩:h=mo w.params/\gs=AX []/\d=yn/\k=zm:=by simpa using e'
 have b:=congrFun (Rx w) os;unfold bothT at b;obtain⟨s,r,l⟩:=qo.mp b;have r2:=T7 r;have r3:=topRun_mono (N-M) _ _ _ _ r2;rw[show M+(N-M)=N by have:=BC le;lia] at r3;have eb:(bootT w os).abs=⟨mo w.params,AX [],yn,zm,os⟩:=by
  show Shared.mk (absHeap (Rp w.params) bootSize (mo w.params).life) (AX []) yn zm os=_;rw[pM]
 rw[eb] at r3;obtain⟨z1,z2,z3⟩:_/\_/\_:=by simpa only[DE] using jE w.params
 obtain⟨l1,l2,l3⟩:_/\_/\_:=by simpa only[Zj,DE] using l
 have t:topFrom treeTable p w N ⟨mo w.params,AX [],yn,zm,os⟩=some s.abs:=by
  unfold topFrom;dsimp only;rw[z1,z2,z3,r3];show(match staticsOk (importedModules p.main.body) (mo w.params) s.abs.heap&&namesBound p s.abs.heap&&gensDone s.abs&&laidKept (mo w.params) s.abs.heap with|true=>_|false=>_)=_;rw[l1]
 unfold openEnds;rw[e1];show(topFrom treeTable p w N _).map _=_;rw[t];exact congrArg some (BB l2 l3)
def recOf:jc->HS
 |.FunctionDef n a b _ _ _ sc _ _ pos=>⟨n,a,b,sc,pos⟩
 |_=>⟨"",default,[],default,default⟩
end HD
lay_quick HD.bothT
end
section
namespace L2
open PySem PySem.Spec PyProof.Rows
variable {C CB CC CL Pt dx i1 i2 it l1 l2 z:dk} {params:l8} {A:ir} {op:vw} {X:Cx} {D:Go} {env:Env} {iter tg:ie} {fd:jk} {base h h':i8} {H H' H1 H2:Hp} {J:It} {pins:Za1} {fp:List dk} {kz ns:List Int} {l0:List fg} {cs ix:Za4} {N ps:Za6} {xs ys:List V} {us vs:Za3} {M:wo} {n t':Nat} {oT:Obj} {an od:Option dk} {lpos p pos pos2:Pos} {B:Prop} {scope:l6} {pl:Sem Bool} {s s2:d4} {sp:Sp} {qual:Str} {te:TE} {wi:TI} {y:V} {cdv ct doc oc pm:d3} {w:gp}
theorem Ny:Aah X (rC X.K):=by
 intro pins s G H x y v u Q I rx ry h;obtain⟨p,xs,i,z,rfl,rfl,hq,he,q⟩:=h;cases rx;obtain⟨t,rfl⟩:=ry;obtain⟨its,r,pl,hz⟩:=I.list hq;obtain⟨j,h1,h2,h3,h4,h5⟩:=Vz he;obtain⟨w,ew,rw'⟩:=r.get h2;have hl:=r.length;have hn:=Kh;have fin:EP X pins G Q w s:=⟨z,H,I,rw',q⟩
 by_cases h0:0<=i
 ·have hj:i.toNat=j:=by
   rw[zt h0 h5] at h1;exact dr h1
  exact wpAny_getItem_list pl.isList h0 (by lia) (by rw[hj];simpa using ew) fin
 ·have hj:(i+(its.toArray.size:Int)).toNat=j:=by
   rw[yz (by lia) h4] at h1;rw[ej,<-hl];exact dr h1
  exact CK pl.isList (by lia) (by rw[ej]<;>lia) (by lia) (by rw[hj];simpa using ew) fin
section
variable {to ti te:TE} {tget:V->V->Hp->VK->Prop} {tip:TIp} {tset:Yc} {D:Go} {G:St} {H:Hp}
theorem wJ (h:to G H λo H1=>ti G H1 λi H2=>tget o i H2 λx H3=>te G H3 λy H4=>tip x y H4 λz H5=>tset o i z H5 λH6=>D.nx G H6):tQ to ti te tget tip tset D G H:=h
end
end L2
end
section
namespace TW
open PySem PySem.StrLaws PySem.Builtin.Str
def Gd:Nat->Za4->Prop
 |h,[]=>h=0
 |h,n::r=>0<h/\Gd (h+n-1) r
theorem Gd.at:∀{ns:Za4} {h:Nat},Gd h ns->∀i,i<ns.length->i<h+(ns.take i).sum
 |[],h,g,i,hi=>by cases hi
 |n::r,h,⟨h1,h2⟩,0,hi=>by simpa using h1
 |n::r,h,⟨h1,h2⟩,i+1,hi=>by
  have:=h2.at i (by simpa using hi);rw[ky,om];lia
theorem uJ:∀{ns:Za4} {h:Nat},ns.length=h+ns.sum->(∀i,i<ns.length->i<h+(ns.take i).sum)->Gd h ns
 |[],h,e,_=>by
  show h=0;simp at e;lia
 |n::r,h,e,g=>by
  have g0:=g 0 (by simp);rw[fj,om] at e;have g0:0<h:=by simpa using g0
  refine⟨g0,uJ (by lia) λi hi=>?_⟩;have:=g (i+1) (by simpa using hi);rw[ky,om] at this;lia
def pre (ns:Za4)(g:Nat):Nat:=(ns.take g).sum
theorem Nv {ns:Za4}{g:Nat}(h:g<ns.length):pre ns (g+1)=pre ns g+ns[g]:=by
 unfold pre;rw[il,df h,qa];simp
theorem nJ (ns:Za4){a b:Nat}(h:a<=b):pre ns a<=pre ns b:=by
 unfold pre;have e:ns.take a=(ns.take b).take a:=by rw[EC,iz h]
 rw[e];generalize ns.take b=l;have:=congrArg IS (gu a l);rw[qa] at this;lia
theorem mY (ns:Za4)(a:Nat):pre ns a<=ns.sum:=by
 have:=congrArg IS (gu a ns);rw[qa] at this;unfold pre;lia
theorem fS {ds:Za4}(h:Dok ds):∀k,k<=ds.length->opn ds k<=k
 |0,_=>dh _
 |k+1,hk=>by
  have:=h k (by lia);have:=fS h k (by lia);show dAt ds k+1<=k+1;lia
theorem Sb {ds:Za4}(h:Dok ds){k:Nat}(hk:k<ds.length):dAt ds k<=k:=fq (h k hk) (fS h k (by lia))
theorem dW {ds:Za4}(h:Dok ds):∀(k p v:Nat),k<=ds.length->(way ds k)[p+1]?=some (v:Int)->∀j,v<j->j<k->p<dAt ds j
 |0,p,v,_,e,j,_,hj=>by cases hj
 |k+1,p,v,hk,e,j,h1,h2=>by
  have e:((way ds k).take (dAt ds k+1)++[(k:Int)])[p+1]?=some (v:Int):=e;have hl:=Cd h k (by lia);have hd:=h k (by lia);have hl2:((way ds k).take (dAt ds k+1)).length=dAt ds k+1:=by rw[dy];lia
  by_cases hp:p+1<dAt ds k+1
  ·rw[fv (by lia),gq hp] at e
   by_cases hjk:j=k
   ·subst hjk;lia
   ·exact dW h k p v (by lia) e j h1 (by lia)
  ·rw[d8 (by lia),hl2] at e
   have e0:p+1-(dAt ds k+1)=0:=by
    have:=(d9.mp e).1;simp only[fj,jh] at this;lia
   rw[e0] at e;have e:=dr e;lia
theorem lQ {ds:Za4}(h:Dok ds){k:Nat}(hk:k<ds.length):eld ds k<k:=by
 by_cases e:eld ds k=-1
 ·lia
 ·obtain⟨v,e1,e2,_⟩:=Dp h hk e
  lia
theorem oJ {ds:Za4}(h:Dok ds){k d:Nat}(hk:k<ds.length)(hd:dAt ds k=d+1):∃v:Nat,eld ds k=(v:Int)/\v<k/\dAt ds v=d/\∀j,v<j->j<k->d<dAt ds j:=by
 have e:=Hc h hk;rw[hd] at e;obtain⟨v,e1,e2,e3⟩:=Oe h k d _ (by lia) e;refine⟨v,e1,e2,e3,dW h k d v (by lia) (by rw[e,e1])⟩
def Ba (ds:Za4)(k:Nat)(v:Int):Za4:=(d7 k).filter λj=>decide (eld ds j=v)
theorem eR (ds:Za4)(k:Nat)(v:Int):(Ba ds k v).length<=k:=by
 unfold Ba;exact fq (ml ..) (by rw[d6];exact dh _)
theorem Jx {ds:Za4}{k:Nat}{v:Int}(h:eld ds k=v):Ba ds (k+1) v=Ba ds k v++[k]:=by
 unfold Ba;rw[iw,jj,qm (by simpa using h)];rfl
theorem M0 {ds:Za4}{k:Nat}{v:Int}(h:eld ds k≠v):Ba ds (k+1) v=Ba ds k v:=by
 unfold Ba;rw[iw,jj,um (by simpa using h)];simp
theorem Hd {ds:Za4}{k j:Nat}{v:Int}:j∈Ba ds k v↔j<k/\eld ds j=v:=by
 unfold Ba;rw[mw,gz];simp
theorem iD {ds:Za4}(h:Dok ds){k v:Nat}(hk:k<=ds.length)(hv:k<=v+1):Ba ds k v=[]:=by
 apply ny.mpr;intro j hj;obtain⟨h1,h2⟩:=Hd.mp hj;have:=lQ h (k:=j) (by lia);lia
def lev (ds:Za4)(k d:Nat):Za4:=(d7 k).filter λj=>decide (dAt ds j=d)
theorem Mn {ds:Za4}{k d:Nat}(h:dAt ds k=d):lev ds (k+1) d=lev ds k d++[k]:=by
 unfold lev;rw[iw,jj,qm (by simpa using h)];rfl
theorem J7 {ds:Za4}{k d:Nat}(h:dAt ds k≠d):lev ds (k+1) d=lev ds k d:=by
 unfold lev;rw[iw,jj,um (by simpa using h)];simp
theorem Cc {ds:Za4}{k j d:Nat}:j∈lev ds k d↔j<k/\dAt ds j=d:=by
 unfold lev;rw[mw,gz];simp
theorem Wu {ds:Za4}{v d:Nat}:∀ k,v<=k->(∀ j,v<=j->j<k->dAt ds j≠d)->lev ds k d=lev ds v d
  | 0, hv, _ => by obtain rfl : v = 0 := by lia
                   rfl
  | k + 1, hv, hj => by
    by_cases e : v = k + 1
    · rw [e]
    · rw [J7 (hj k (by lia) (by lia))]
      exact Wu k (by lia) λj h1 h2 => hj j h1 (by lia)
theorem oA {ds:Za4}(h:Dok ds){k d:Nat}(hk:k<ds.length)(hd:dAt ds k=d+1):∃v:Nat,eld ds k=(v:Int)/\lev ds k d=lev ds v d++[v]/\v<k:=by
 obtain⟨v,e1,e2,e3,e4⟩:=oJ h hk hd;refine⟨v,e1,?_,e2⟩;rw[Wu (v:=v+1) k (by lia) (λj h1 h2=>by have:=e4 j (by lia) h2;lia),Mn e3]
theorem Rb {ds:Za4}(h:Dok ds):∀k,k<=ds.length->lev ds k 0=Ba ds k (-1)
 |0,_=>rfl
 |k+1,hk=>by
  have ih:=Rb h k (by lia)
  by_cases e:dAt ds k=0
  ·have e2:eld ds k=-1:=by
    have e1:=Hc h (k:=k) (by lia);rw[e,Kb h k (by lia)] at e1;exact(dr e1).symm
   rw[Mn e,Jx e2,ih]
  ·have e2:eld ds k≠-1:=λe1=>e (Wm h (by lia) e1)
   rw[J7 e,M0 e2,ih]
theorem Gv {ds:Za4}{k:Nat}:∀{l:Za4},(∀v∈l,eld ds k≠(v:Int))->(l.map λv:Nat=>Ba ds (k+1) v)=l.map λv:Nat=>Ba ds k v
 |[],_=>rfl
 |v::l,h=>by
  rw[ft,ft,M0 (h v (by simp)),Gv λw hw=>h w (by simp[hw])]
theorem Ml {ds:Za4}(h:Dok ds)(d:Nat):∀k,k<=ds.length->lev ds k (d+1)=((lev ds k d).map λv:Nat=>Ba ds k v).flatten
 |0,_=>rfl
 |k+1,hk=>by
  have ih:=Ml h d k (by lia)
  by_cases e1:dAt ds k=d+1
  ·obtain⟨v,v1,v2,v3⟩:=oA h (k:=k) (by lia) e1
   rw[Mn e1,ih,J7 (by lia),v2,ed,ed,iy,iy];rw[Gv (l:=lev ds v d) λw hw e=>by
    have:=Cc.mp hw;lia]
   show _++(Ba ds k v++[])++[k]=_++(Ba ds (k+1) v++[]);rw[Jx v1];simp
  ·by_cases e2:dAt ds k=d
   ·rw[J7 e1,Mn e2,ed,iy]
    rw[Gv (l:=lev ds k d) λw hw e=>by
     have hw:=Cc.mp hw;have e3:eld ds k≠-1:=by lia
     obtain⟨v,v1,v2,v3⟩:=Dp h (k:=k) (by lia) e3;obtain rfl:v=w:=by lia
     lia,<-ih]
    show _=_++(Ba ds (k+1) k++[]);rw[iD h hk (by lia)];simp
   ·rw[J7 e1,J7 e2]
    rw[Gv (l:=lev ds k d) λw hw e=>by
     have hw:=Cc.mp hw;have e3:eld ds k≠-1:=by lia
     obtain⟨v,v1,v2,v3⟩:=Dp h (k:=k) (by lia) e3;obtain rfl:v=w:=by lia
     lia,<-ih]
def lvo (ds:Za4)(k D:Nat):Za4:=((d7 D).map (lev ds k)).flatten
theorem Cf (ds:Za4)(k D:Nat):lvo ds k (D+1)=lvo ds k D++lev ds k D:=by
 unfold lvo;rw[iw,ed,iy];simp
theorem Yl {ds:Za4}(h:Dok ds){k:Nat}(hk:k<=ds.length):∀D,lvo ds k (D+1)=Ba ds k (-1)++((lvo ds k D).map λv:Nat=>Ba ds k v).flatten
 |0=>by
  rw[Cf];show[]++lev ds k 0=_++[].flatten;rw[Rb h k hk];simp
 |D+1=>by
  have ih:=Yl h hk D;have e:=Cf ds k D;rw[e,ed,iy,<-dq,<-ih,<-Ml h D k hk];exact Cf ds k (D+1)
theorem jZ {ds:Za4}(h:Dok ds){k D:Nat}(hk:k<=ds.length)(hD:k<=D):lev ds k D=[]:=by
 apply ny.mpr;intro j hj;obtain⟨h1,h2⟩:=Cc.mp hj;have:=Sb h (k:=j) (by lia);lia
theorem Xl {ds:Za4}(h:Dok ds){k:Nat}(hk:k<=ds.length):∀ D,k<=D->lvo ds k D=lvo ds k k
  | 0, hD => by obtain rfl : k = 0 := by lia
                rfl
  | D + 1, hD => by
    by_cases e : k = D + 1
    · rw [<- e]
    · rw [Cf, jZ h hk (by lia), fw]
      exact Xl h hk D (by lia)
theorem qM {ds:Za4}(h:Dok ds){k:Nat}(hk:k<=ds.length):lvo ds k k=Ba ds k (-1)++((lvo ds k k).map λv:Nat=>Ba ds k v).flatten:=by
 rw[<-Yl h hk k];exact(Xl h hk (k+1) (by lia)).symm
theorem nY {ds:Za4}{k:Nat}:∀D,D<=dAt ds k->lvo ds (k+1) D=lvo ds k D
 |0,_=>rfl
 |D+1,hD=>by rw[Cf,Cf,nY D (by lia),J7 (by lia)]
def ltZ (x y:Int×Int):Bool:=decide (x.1<y.1)
theorem Hk (ds:Za4)(k d:Nat):∀e,lvo ds k (d+e)=lvo ds k d++((d7 e).map λi=>lev ds k (d+i)).flatten
 |0=>by simp
 |e+1=>by
  rw[show d+(e+1)=d+e+1 by lia,Cf,Hk ds k d e,iw,ed,iy];simp
theorem mN {ds:Za4}{k D:Nat}(hD:dAt ds k<D):∃A B,lvo ds k D=A++B/\lvo ds (k+1) D=A++k::B/\(∀j∈A,dAt ds j<=dAt ds k)/\∀j∈B,dAt ds k<dAt ds j:=by
 obtain⟨e,rfl⟩:∃e,D=dAt ds k+1+e:=⟨D-(dAt ds k+1),by lia⟩;have e2:((d7 e).map λi=>lev ds (k+1) (dAt ds k+1+i))=(d7 e).map λi=>lev ds k (dAt ds k+1+i):=
  jg λi _=>J7 (by lia)
 refine⟨lvo ds k (dAt ds k+1),((d7 e).map λi=>lev ds k (dAt ds k+1+i)).flatten,Hk ..,?_,?_,?_⟩
 ·rw[Hk,Cf,nY _ (dh _),Mn rfl,e2,Cf,dq,dq,dq]
  rfl
 ·intro j hj
  unfold lvo at hj;obtain⟨l,hl,hjl⟩:=rf.mp hj;obtain⟨d,hd,rfl⟩:=fz.mp hl;have:=gz.mp hd;have:=Cc.mp hjl;lia
 ·intro j hj
  obtain⟨l,hl,hjl⟩:=rf.mp hj;obtain⟨i,hd,rfl⟩:=fz.mp hl;have:=Cc.mp hjl;lia
theorem Mu {ds:Za4}(h:Dok ds):∀k,k<=ds.length->Aq ltZ ((d7 k).map λj:Nat=>((dAt ds j:Int),(j:Int)))=(lvo ds k ds.length).map λj:Nat=>((dAt ds j:Int),(j:Int))
 |0,_=>by
  have:lvo ds 0 ds.length=[]:=by
   apply ny.mpr;intro j hj;unfold lvo at hj;obtain⟨l,hl,hjl⟩:=rf.mp hj;obtain⟨d,hd,rfl⟩:=fz.mp hl;have:=Cc.mp hjl;lia
  rw[this];rfl
 |k+1,hk=>by
  obtain⟨A,B,e1,e2,e3,e4⟩:=mN (ds:=ds) (k:=k) (D:=ds.length) (by have:=Sb h (k:=k) (by lia);lia);rw[iw,ed];show Aq ltZ (_++[((dAt ds k:Int),(k:Int))])=_;rw[Ci,Mu h k (by lia),e1,e2,ed,D1,ed,ft]
  ·congr 1
   have:=C9 (lt:=ltZ) (xs:=B.map λj:Nat=>((dAt ds j:Int),(j:Int))) (bs:=[((dAt ds k:Int),(k:Int))]) (ys:=[]) (λb hb x hx=>by
    rw[ee.mp hb];obtain⟨j,hj,rfl⟩:=fz.mp hx;have:=e4 j hj;exact decide_eq_true (by show(dAt ds k:Int)<dAt ds j;lia))
   rw[fw] at this;rw[this,Bk];rfl
  ·intro a ha y hy
   rw[ee.mp hy];obtain⟨j,hj,rfl⟩:=fz.mp ha;have:=e3 j hj;exact decide_eq_false (by show ¬(dAt ds k:Int)<dAt ds j;lia)
theorem Dj {ds:Za4}(h:Dok ds):(lvo ds ds.length ds.length).length=ds.length:=by
 have e:=congrArg k6 (Mu h ds.length (dh _));rw[Dc,da,d6,da] at e;exact e.symm
theorem Rt {ds:Za4}{j k D:Nat}(hj:j∈lvo ds k D):j<k:=by
 unfold lvo at hj;obtain⟨l,hl,hjl⟩:=rf.mp hj;obtain⟨d,hd,rfl⟩:=fz.mp hl;exact(Cc.mp hjl).1
theorem eJ (ds:Za4)(k:Nat):∀D,(lvo ds k D).Pairwise λa b=>dAt ds a<=dAt ds b
 |0=>rp
 |D+1=>by
  rw[Cf,nh];refine⟨eJ ds k D,?_,λa ha b hb=>?_⟩
  ·refine FS (R:=λa b=>True) (λha hb _=>?_) ?_
   ·rw[(Cc.mp ha).2,(Cc.mp hb).2]
    exact dh _
   ·exact List.pairwise_of_forall λ_ _=>trivial
  ·unfold lvo at ha
   obtain⟨l,hl,hjl⟩:=rf.mp ha;obtain⟨d,hd,rfl⟩:=fz.mp hl;have:=gz.mp hd;rw[(Cc.mp hjl).2,(Cc.mp hb).2];lia
def gsL (ds:Za4):Za4:=(Ba ds ds.length (-1)).length::(lvo ds ds.length ds.length).map λv:Nat=>(Ba ds ds.length v).length
def gsC (ds:Za4):Za4:=(Ba ds ds.length (-1)).length::(d7 ds.length).map λv:Nat=>(Ba ds ds.length v).length
def Ls (ds:Za4):List (Za4):=Ba ds ds.length (-1)::(lvo ds ds.length ds.length).map λv:Nat=>Ba ds ds.length v
theorem N8 (ds:Za4):gsL ds=(Ls ds).map k6:=by
 unfold gsL Ls;rw[ft,gx];rfl
theorem Vy {ds:Za4}(h:Dok ds):(Ls ds).flatten=lvo ds ds.length ds.length:=by
 unfold Ls;rw[gd];exact(qM h (dh _)).symm
theorem Mi:∀(L:List (Za4)) (g:Nat),g<L.length->(L.flatten.drop (pre (L.map k6) g)).take ((L.getD g []).length)=L.getD g []
 |[],g,hg=>by cases hg
 |a::L,0,_=>by
  show(((a::L).flatten).drop 0).take a.length=a;rw[o3,gd,List.take_left' rfl]
 |a::L,g+1,hg=>by
  have ih:=Mi L g (by simpa using hg);have e:pre ((a::L).map k6) (g+1)=a.length+pre (L.map k6) g:=by
   unfold pre;rw[ft,ky,om]
  rw[e,gd,List.drop_append,jo (by lia),jb,gi,BS];exact ih
theorem Fl {ds:Za4}(h:Dok ds):(gsL ds).length=ds.length+1/\(gsL ds).sum=ds.length:=by
 constructor
 ·unfold gsL
  rw[fj,da,Dj h]
 ·rw[N8,<-BQ,Vy h,Dj h]
theorem qD (ns:Za4)(s:Nat):∀m i,pre ns i<=s->s<pre ns (i+m)->∃g,i<=g/\g<i+m/\pre ns g<=s/\s<pre ns (g+1)
 |0,i,h1,h2=>by rw[jr] at h2;lia
 |m+1,i,h1,h2=>by
  by_cases h:s<pre ns (i+1)
  ·exact⟨i,dh _,by lia,h1,h⟩
  ·obtain⟨g,a1,a2,a3,a4⟩:=qD ns s m (i+1) (by lia) (by rw[show i+1+m=i+(m+1) by lia];exact h2)
   exact⟨g,by lia,by lia,a3,a4⟩
theorem oW {ds:Za4}{g:Nat}(hg:g<ds.length)(h:Dok ds):(Ls ds).getD (g+1) []=Ba ds ds.length ((lvo ds ds.length ds.length).getD g 0:Nat):=by
 unfold Ls;rw[BS];unfold gr;rw[du,df (by rw[Dj h];exact hg)];rfl
theorem lC {ds:Za4}(h:Dok ds):Gd 1 (gsL ds):=by
 obtain⟨hl,hs⟩:=Fl h;refine uJ (by lia) λi hi=>?_;show i<1+pre (gsL ds) i
 by_cases hc:i<=pre (gsL ds) i
 ·lia
 ·exfalso
  have hs2:pre (gsL ds) (i+(ds.length+1-i))=ds.length:=by
   rw[show i+(ds.length+1-i)=(gsL ds).length by lia];unfold pre;rw[fc (dh _),hs]
  obtain⟨g,g1,g2,g3,g4⟩:=qD (gsL ds) (pre (gsL ds) i) (ds.length+1-i) i (dh _) (by lia);generalize hsd:pre (gsL ds) i=s at *;have hg0:0<g:=by lia
  obtain⟨g',rfl⟩:∃g',g=g'+1:=⟨g-1,by lia⟩;have sl:=Mi (Ls ds) (g'+1) (by rw[<-da (f:=k6),<-N8];lia);rw[<-N8,Vy h,oW (by lia) h] at sl;have hgl:g'+1<(gsL ds).length:=by lia
  have hps:=Nv hgl;have hgv:(gsL ds)[g'+1]=(Ba ds ds.length ((lvo ds ds.length ds.length).getD g' 0:Nat)).length:=by
   have e:(gsL ds)[g'+1]?=some ((Ba ds ds.length ((lvo ds ds.length ds.length).getD g' 0:Nat)).length):=by
    unfold gsL gr;rw[ql,du,df (by rw[Dj h];lia)];rfl
   rw[df hgl] at e;exact dr e
  have hol:=Dj h
  -- the knot at s
  have hso:s<(lvo ds ds.length ds.length).length:=by lia
  have hmem:(lvo ds ds.length ds.length)[s]∈Ba ds ds.length ((lvo ds ds.length ds.length).getD g' 0:Nat):=by
   rw[<-sl];refine List.mem_iff_getElem?.mpr ⟨s-pre (gsL ds) (g'+1),?_⟩;rw[gq (by lia),i7,show pre (gsL ds) (g'+1)+(s-pre (gsL ds) (g'+1))=s by lia];exact df hso
  obtain⟨m1,m2⟩:=Hd.mp hmem;have hgo:g'<(lvo ds ds.length ds.length).length:=by lia
  have egd:(lvo ds ds.length ds.length).getD g' 0=(lvo ds ds.length ds.length)[g']:=by
   unfold gr;rw[df hgo];rfl
  rw[egd] at m2;obtain⟨v,v1,v2,v3⟩:=Dp h m1 (by lia);have ev:v=(lvo ds ds.length ds.length)[g']:=by lia
  rw[ev] at v3;have hsg:s<=g':=by lia
  by_cases e:s=g'
  ·subst e
   lia
  ·have:=ph.mp (eJ ds ds.length ds.length) s g' hso hgo (by lia)
   lia
theorem wQ {ds:Za4}{k:Nat}(hk:k<ds.length):(gsC ds)[k+1]?=some (Ba ds ds.length k).length:=by
 unfold gsC;rw[ql,du,gl hk];rfl
def lr (ds:Za4)(k:Nat):Nat->Za4
 |0=>[(Ba ds k (-1)).length]
 |d+1=>(lev ds k d).map λv:Nat=>(Ba ds k v).length
def mx (ds:Za4):Nat->Nat
 |0=>0
 |k+1=>max (mx ds k) (dAt ds k+1)
theorem xZ (ds:Za4):∀k,opn ds k<=mx ds k
 |0=>dh _
 |k+1=>Nat.le_max_right _ _
theorem Tz (ds:Za4):∀k j,j<k->dAt ds j<mx ds k
 |0,j,h=>by cases h
 |k+1,j,h=>by
  show dAt ds j<max (mx ds k) (dAt ds k+1)
  by_cases e:j=k
  ·subst e;lia
  ·have:=Tz ds k j (by lia);lia
theorem Zd {ds:Za4}(h:Dok ds):∀k,k<=ds.length->mx ds k<=k
 |0,_=>dh _
 |k+1,hk=>by
  have:=Zd h k (by lia);have:=Sb h (k:=k) (by lia);show max (mx ds k) (dAt ds k+1)<=k+1;lia
theorem oB {ds:Za4}{k d:Nat}(hd:mx ds k<=d):lev ds k d=[]:=by
 apply ny.mpr;intro j hj;obtain⟨h1,h2⟩:=Cc.mp hj;have:=Tz ds k j h1;lia
theorem Tc {α:Type}(f:Nat->α){N i:Nat}(y:α):((d7 N).map f).set i y=(d7 N).map λj=>if j=i then y else f j:=by
 refine yf (by simp) λj h3 h4=>?_;rw[List.getElem_set,ul,ul,CA]
 by_cases e:i=j
 ·rw[if_pos e,if_pos e.symm]
 ·rw[if_neg e,if_neg λe2=>e e2.symm]
theorem mJ {ds:Za4}(k:Nat):∀e,lvo ds k (mx ds k+e)=lvo ds k (mx ds k)
 |0=>rfl
 |e+1=>by
  rw[show mx ds k+(e+1)=mx ds k+e+1 by lia,Cf,oB (by lia),fw];exact mJ k e
end TW
end
section
namespace L2
open PySem PySem.Spec PyProof.Rows
variable {C CB CC CL Pt dx i1 i2 it l1 l2 z:dk} {params:l8} {A:ir} {op:vw} {X:Cx} {D:Go} {env:Env} {iter tg:ie} {fd:jk} {base h h':i8} {H H' H1 H2:Hp} {J:It} {pins:Za1} {fp:List dk} {kz ns:List Int} {l0:List fg} {cs ix:Za4} {N ps:Za6} {xs ys:List V} {us vs:Za3} {M:wo} {n t':Nat} {oT:Obj} {an od:Option dk} {lpos p pos pos2:Pos} {B:Prop} {scope:l6} {pl:Sem Bool} {s s2:d4} {sp:Sp} {qual:Str} {te:TE} {wi:TI} {y:V} {cdv ct doc oc pm:d3} {w:gp}
section
variable {X:Cx}
theorem Z0 (K:de)(h:autoParam (X.K=K) QD):E9 X (.builtin "len") (λxs H Q=>∃p ys,xs=[.ref p]/\(SqL K H p ys\/SqT K H p ys)/\Q (.int ys.length) H):=by
 subst h;exact Ao
end
open PySem.W
end L2
end
section
namespace HD
open PySem PySem.W PySem.Calls PyProof.Rows
def oneA (s0:rj)(h0:i8)(m:Nat)(p:fh)(M:Nat)(w:gp):=
 (Gz treeTable p w m (some (.ref 6)) M s0 (topStub p)).map λs=>staticsOk (importedModules p.main.body) h0 s.abs.heap&&namesBound p s.abs.heap&&gensDone s.abs&&laidKept h0 s.abs.heap
def oneB (s0:rj)(m:Nat)(p q:fh)(loose:Za6)(M:Nat)(w:gp):=
 (Gz treeTable p w m (some (.ref 6)) M s0 (topStub p)).map λs=>openSeen q loose (importedModules p.main.body) (λ_=>true) true s.abs
def kI {α:Type}(Yf:d4->α)(s0:rj)(m:Nat)(p:fh)(M:Nat)(w:gp):=
 (Gz treeTable p w m (some (.ref 6)) M s0 (topStub p)).map λs=>Yf s.abs
theorem zG {α:Type}{Yf:d4->α}{s0:rj}{h0:i8}{m:Nat}{p q:fh}{loose:Za6}{M:Nat}{w:gp}{a:α}
  (hA:oneA s0 h0 m p M w=some true)(hB:oneB s0 m p q loose M w=some (openGood q loose))(hC:kI Yf s0 m p M w=some a) :
  bothT Yf s0 h0 m p q loose M w=some (true,openGood q loose,a):=by
 unfold oneA at hA;unfold oneB at hB;unfold kI at hC;unfold bothT Zj;obtain⟨s,r,l⟩:=qo.mp hA;rw[r] at hB hC ⊢;have hB:=dr hB;have hC:=dr hC;exact congrArg some (BB l (BB hB hC))
theorem left_of3 {p q:fh}{loose:Za6}{α:Type}{Yf:d4->α}{Ya:gp->α}{M N:Nat}(e:opening p=plainProg p.main.scope.names)(f:∀s,fenceModules? p s=some s)(hN:DH 600 N=true)(le:DH M N=true)
  (hA:∀w:gp,(λos=>oneA (bootT w os) (mo w.params) bootSize p M w)=λ_=>some true)(hB:∀w:gp,(λos=>oneB (bootT w os) bootSize p q loose M w)=λ_=>some (openGood q loose))
  (hC:∀w:gp,(λos=>kI Yf (bootT w os) bootSize p M w)=λ_=>some (Ya w)):LeftO p q loose (λ_=>true) Yf Ya N:=
 sZ e f hN le λw=>funext λos=>zG (congrFun (hA w) os) (congrFun (hB w) os) (congrFun (hC w) os)
def Y2 (s:rj)(a:Nat):Option Obj:=match Nat.blt a s.n with
 |true=>(match s.tree.get a with
  |some o=>alive o
  |none=>none)
 |false=>none
theorem nG {s:rj}{a:Nat}{o:Obj}(h:Y2 s a=some o):s.abs.heap.get? a=some o:=by
 unfold Y2 at h
 cases hb:Nat.blt a s.n with
 |false=>rw[hb] at h;cases h
 |true=>
  rw[hb] at h
  cases hg:s.tree.get a with
  |none=>rw[hg] at h;cases h
  |some u=>
   rw[hg] at h;have hlt:a<s.n:=by
    have:=BC hb;lia
   exact(abs_get hlt hg).trans h
theorem Ri {s:rj}:∀{as:Za4} {L:List (Option Obj)},(∀x∈L,x.isSome=true)->as.map (Y2 s)=L->as.map s.abs.heap.get?=L
 |[],L,_,e=>e
 |a::as,[],_,e=>by cases e
 |a::as,x::L,h,e=>by
  obtain⟨e1,e2⟩:=CG e;obtain⟨o,ho⟩:=iu.mp (h x fi);subst ho;show s.abs.heap.get? a::as.map s.abs.heap.get?=_;rw[nG e1,Ri (λy hy=>h y (fb _ hy)) e2]
def oneP (as ts:List dk)(s0:rj)(m:Nat)(p:fh)(M:Nat)(w:gp):=
 (Gz treeTable p w m (some (.ref 6)) M s0 (topStub p)).map λs=>(as.map (Y2 s),ts.map (Y2 s))
theorem hC_km {K:zp->HR}{as:List dk}{e:∀P,as=(K P).map (·.1)}{ts:List dk}{p:fh}{M:Nat}
  (h:∀w:gp,(λos=>oneP as ts (bootT w os) bootSize p M w)=λ_=>some ((K w.params).map λq=>some q.2,ts.map λ_=>some (tabObj #[]))) :
  ∀w:gp,(λos=>kI (kmHook K as e ts).obs (bootT w os) bootSize p M w)=λ_=>some ((kmHook K as e ts).val w):=λw=>funext λos=>by
 have h:=congrFun (h w) os;unfold oneP at h;unfold kI;obtain⟨s,r,l⟩:=qo.mp h;obtain⟨l1,l2⟩:=Prod.mk.inj l;rw[r];show some (as.map s.abs.heap.get?,ts.map s.abs.heap.get?)=some ((K w.params).map λq=>some q.2,ts.map λ_=>some (tabObj #[]));rw[Ri (λx hx=>by obtain⟨q,_,rfl⟩:=fz.mp hx;rfl) l1,Ri (λx hx=>by obtain⟨q,_,rfl⟩:=fz.mp hx;rfl) l2]
end HD
lay_quick HD.oneP
theorem HD.oneP_eq:@HD.oneP=@PySem.W.Fast.tw13831889492591282369:=PySem.W.Fast.te13831889492591282369
lay_quick HD.oneA
lay_quick HD.oneB
theorem HD.oneA_eq:@HD.oneA=@PySem.W.Fast.tw6247638121477898359:=PySem.W.Fast.te6247638121477898359
theorem HD.oneB_eq:@HD.oneB=@PySem.W.Fast.tw4394042064226896843:=PySem.W.Fast.te4394042064226896843
end
section
namespace L2
open PySem PySem.Spec PyProof.Rows
variable {C CB CC CL Pt dx i1 i2 it l1 l2 z:dk} {params:l8} {A:ir} {op:vw} {X:Cx} {D:Go} {env:Env} {iter tg:ie} {fd:jk} {base h h':i8} {H H' H1 H2:Hp} {J:It} {pins:Za1} {fp:List dk} {kz ns:List Int} {l0:List fg} {cs ix:Za4} {N ps:Za6} {xs ys:List V} {us vs:Za3} {M:wo} {n t':Nat} {oT:Obj} {an od:Option dk} {lpos p pos pos2:Pos} {B:Prop} {scope:l6} {pl:Sem Bool} {s s2:d4} {sp:Sp} {qual:Str} {te:TE} {wi:TI} {y:V} {cdv ct doc oc pm:d3} {w:gp}
open PySem.W
def GD (K:HR)(x:Str)(st:jc):Prop:=∃(f:dk) (fd:jk),Fun K x x st f fd/\nsIn K mainGlobals x=some (some (.ref f))
def MD (K:HR)(C:dk)(x q:Str)(st:jc):Prop:=∃(f:dk) (fd:jk),Fun K x q st f fd/\findIn K (.ref C) x=some (some (.ref f))/\isFn K (.ref f)=true
structure CD (K:HR) (C:dk) (x:Str):Prop where
 a:nsIn K mainGlobals x=some (some (.ref C))
 ma:makesIn K C=true
 kc:keepIn K (.ref C)=true
def noB:Option (Za7)->Bool
 |some none=>true
 |_=>false
structure FD (K:HR) (C:dk) (fs:Za6):Prop where
 cl:Cls K C
 al:(fs.all λf=>noB (findIn K (.ref C) f))=true
section
variable {P:fh} {w:gp} {K:HR} {mg:Za2} {base h:i8} {x q:Str} {st:jc} {f C:dk} {oc:d3} {od an:Option dk} {osl:Array (Za7)} {kV doc pm cdv ct:d3} {fs ps:Za6} {k:Nat} {sp:Sp}
theorem gD (a:nsIn K mainGlobals x=some (some (.ref f)))(l:K.lookup f=some ⟨oc,od,.func (fnOf x x (Br st) (Bg st) (Af st) .none kV doc pm an cdv ct),osl⟩)(c:codeIn K cdv x=true)(k:keepIn K (.ref f)=true):GD K x st:=⟨f,_,kW l c k,a⟩
theorem mD (a:findIn K (.ref C) x=some (some (.ref f)))(i:isFn K (.ref f)=true)(l:K.lookup f=some ⟨oc,od,.func (fnOf x q (Br st) (Bg st) (Af st) .none kV doc pm an cdv ct),osl⟩)(c:codeIn K cdv q=true)(k:keepIn K (.ref f)=true):MD K C x q st:=⟨f,_,kW l c k,a,i⟩
theorem fD (pg:plainGet K C yo=true)(hd:hasDictIn K C=true)(po:plainOver K C=true)(sa:findIn K (.ref C) "__setattr__"=some (some (.builtin "object.__setattr__")))(al:(fs.all λf=>noB (findIn K (.ref C) f))=true):FD K C fs:=⟨⟨pg,hd,po,sa⟩,al⟩
theorem FD.no (D:FD K C fs)(i:Nat){g:Str}(h:autoParam (fs[i]?=some g) QD):Bh K C g:=by
 have:=o9.mp D.al g (d5 h);show findIn K (.ref C) g=some none
 cases e:findIn K (.ref C) g with
 |none=>rw[e] at this;cases this
 |some o=>
  cases o with
  |none=>rfl
  |some v=>rw[e] at this;cases this
def Cur:Nat->(Za3->Prop)->Prop
 |0,P=>P []
 |n+1,P=>∀a,Cur n λl=>P (a::l)
theorem Cur.all:∀{n:Nat} {P:Za3->Prop},Cur n P->∀us:Za3,us.length=n->P us
 |0,_,h,[],_=>h
 |n+1,_,h,a::l,e=>Cur.all (n:=n) (h a) l (wn e)
abbrev Nd (x q:Str)(st:jc)(ps:Za6):Prop:=∀(kV doc pm:d3) (an:Option dk) (cdv ct:d3),Cur ps.length λus=>bindArgs (fnOf x q (Br st) (Bg st) (Af st) .none kV doc pm an cdv ct) ⟨us,[]⟩=pure (ps.zip us)
theorem Fun.bd (F:Fun K x q st f fd)(hb:Nd x q st ps):E6 K fd ps []:=F.binds λa b c d e g=>(hb a b c d e g).all
theorem GD.cal (X:K.In h)(G:h.Ns mainGlobals mg)(g:GD K x st)(ok:∀{f fd},Fun K x x st f fd->Av P w K mg base CX0 k f fd ps sp)
  (hb:autoParam (Nd x x st ps) QL):Cal P w K mg base x k ps sp:=
 let ⟨f,fd,F,a⟩:=g
 ⟨⟨f,fd,ok F,F.bd hb,mg_of X G a,F.kp⟩⟩
theorem MD.mth (c:Cls K C)(g:MD K C x q st)(ok:∀{f fd},Fun K x q st f fd->Av P w K mg base CX0 k f fd ps sp)
  (hb:autoParam (Nd x q st ps) QL):Mth P w K mg base C x k ps sp:=
 let ⟨f,fd,F,a,i⟩:=g
 ⟨⟨f,fd,ok F,F.bd hb,⟨a,i,F.kp⟩⟩,c⟩
theorem MD.mkr {y:Str}(X:K.In h)(G:h.Ns mainGlobals mg)(c:CD K C y)(g:MD K C "__init__" q st)(ok:∀{f fd},Fun K "__init__" q st f fd->Av P w K mg base CX0 k f fd ps sp)
  (hb:autoParam (Nd "__init__" q st ps) QL):Mkr P w K mg base y C k ps sp:=
 let ⟨f,fd,F,a,i⟩:=g
 ⟨⟨f,fd,ok F,F.bd hb,⟨c.ma,a,i,c.kc⟩,mg_of X G c.a⟩⟩
end
end L2
end
section
namespace TW
theorem dZ {ds:Za4}{v:Nat}:∀{i j:Nat},v<j->j<=i->(v:Int)∈way ds i->(v:Int)∈way ds j
 |0,j,h1,h2,_=>by lia
 |i+1,j,h1,h2,h=>by
  by_cases e:j=i+1
  ·rw[e];exact h
  ·have h:(v:Int)∈(way ds i).take (dAt ds i+1)++[(i:Int)]:=h
   rcases gj.mp h with h|h
   ·exact dZ h1 (by lia) (jv h)
   ·have:=ee.mp h
    lia
theorem pH {ds:Za4}(h:Dok ds){i j:Nat}{v:Int}(hi:i<ds.length)(e:eld ds i=v)(h1:v<j)(h2:j<i):v<=eld ds j:=by
 by_cases hv:v=-1
 ·rw[hv];exact Sa h (by lia)
 obtain⟨w,hw,hwi,_⟩:=Dp h hi (by rw[e];exact hv);have hwv:v=(w:Int):=by rw[<-e,hw]
 subst hwv;have hm:(w:Int)∈way ds i:=by rw[<-e];exact d5 (Hc h hi)
 have hm2:(w:Int)∈(way ds j).take (dAt ds j+1)++[(j:Int)]:=dZ (i:=i) (j:=j+1) (by lia) (by lia) hm;rcases gj.mp hm2 with hm3|hm3
 ·obtain⟨a,ha⟩:=ly hm3
  have hlt:=(d9.mp ha).1;rw[dy] at hlt;rw[gq (by lia)] at ha;have hea:=Hc h (show j<ds.length by lia)
  by_cases hd:a=dAt ds j
  ·rw[hd,hea] at ha
   have:=dr ha;lia
  ·have:=dF h j a (dAt ds j) _ _ (by lia) (by lia) ha hea
   lia
 ·have:=ee.mp hm3
  lia
def Xq (ds:Za4)(k:Nat):Nat->Nat->Nat
 |0,j=>j
 |m+1,j=>if(k:Int)<=eld ds j then Xq ds k m (j+1) else j
def Bo (ds:Za4)(k:Nat):Nat:=Xq ds k (ds.length-(k+1)) (k+1)
theorem eV (ds:Za4)(k:Nat):∀m j,k<j->(∀i,k<i->i<j->(k:Int)<=eld ds i)->j<=Xq ds k m j/\Xq ds k m j<=j+m/\(∀i,k<i->i<Xq ds k m j->(k:Int)<=eld ds i)/\(Xq ds k m j<j+m->eld ds (Xq ds k m j)<k)
 |0,j,h1,h2=>⟨dh _,dh _,h2,λh=>absurd h (ko _)⟩
 |m+1,j,h1,h2=>by
  unfold Xq
  by_cases h:(k:Int)<=eld ds j
  ·rw[if_pos h]
   obtain⟨a,b,c,d⟩:=eV ds k m (j+1) (by lia) (λi h3 h4=>by
    by_cases e:i=j
    ·rw[e];exact h
    ·exact h2 i h3 (by lia))
   exact⟨by lia,by lia,c,λh5=>d (by lia)⟩
  ·rw[if_neg h]
   exact⟨dh _,by lia,h2,λ_=>by lia⟩
theorem Cm {ds:Za4}{k:Nat}(hk:k<ds.length):k<Bo ds k/\Bo ds k<=ds.length/\(∀i,k<i->i<Bo ds k->(k:Int)<=eld ds i)/\(Bo ds k<ds.length->eld ds (Bo ds k)<k):=by
 obtain⟨a,b,c,d⟩:=eV ds k (ds.length-(k+1)) (k+1) (by lia) (λi h1 h2=>by lia);unfold Bo;exact⟨by lia,by lia,c,λh=>d (by lia)⟩
theorem dY {ds:Za4}(h:Dok ds){k i:Nat}(hk:k<ds.length)(h1:Bo ds k<=i)(h2:i<ds.length):eld ds i<k\/(Bo ds k:Int)<=eld ds i:=by
 obtain⟨a,b,c,d⟩:=Cm (ds:=ds) hk
 by_cases e:i=Bo ds k
 ·left;rw[e];exact d (by lia)
 ·by_cases z:eld ds i<k
  ·exact .inl z
  ·right
   by_cases y:(Bo ds k:Int)<=eld ds i
   ·exact y
   ·have:=pH h h2 rfl (show eld ds i<(Bo ds k:Nat) by lia) (by lia)
    have:=d (by lia);lia
theorem Vf {ds:Za4}(h:Dok ds){k:Nat}(hk:k<ds.length):eld ds k<k:=by
 by_cases e:eld ds k=-1
 ·lia
 ·obtain⟨v,hv,hvk,_⟩:=Dp h hk e
  lia
def bS (ds:Za4):Nat->Int->Nat
 |0,_=>0
 |m+1,j=>bS ds m j+if eld ds (ds.length-(m+1))=j then Bo ds (ds.length-(m+1))-(ds.length-(m+1)) else 0
theorem Pn {ds:Za4}{M:Nat}(h:M<ds.length)(j:Int):bS ds (ds.length-M) j=bS ds (ds.length-(M+1)) j+if eld ds M=j then Bo ds M-M else 0:=by
 obtain⟨m,hm⟩:∃m,ds.length-M=m+1:=⟨ds.length-M-1,by lia⟩;rw[hm,show ds.length-(M+1)=m by lia];show bS ds m j+(if eld ds (ds.length-(m+1))=j then Bo ds (ds.length-(m+1))-(ds.length-(m+1)) else 0)=_;rw[show ds.length-(m+1)=M by lia]
theorem Pi {ds:Za4}{j:Int}:∀(d M:Nat),M+d<=ds.length->(∀i,M<=i->i<M+d->eld ds i≠j)->bS ds (ds.length-M) j=bS ds (ds.length-(M+d)) j
 |0,M,_,_=>rfl
 |d+1,M,h1,h2=>by
  rw[Pn (by lia),if_neg (h2 M (dh _) (by lia)),jr,Pi d (M+1) (by lia) (λi a b=>h2 i (by lia) (by lia)),show M+1+d=M+(d+1) by lia]
theorem rK {ds:Za4}(h:Dok ds){k:Nat}(hk:k<ds.length):∀(f M:Nat),Bo ds k-M<=f->k<M->M<=Bo ds k->(M=Bo ds k\/eld ds M=k)->bS ds (ds.length-M) k=Bo ds k-M:=by
 obtain⟨a,b,c,d⟩:=Cm (ds:=ds) hk;have done:bS ds (ds.length-Bo ds k) k=0:=by
  rw[Pi (ds.length-Bo ds k) (Bo ds k) (by lia) (λi h1 h2 e=>by
   rcases dY h hk h1 (by lia) with z|z<;>lia),show Bo ds k+(ds.length-Bo ds k)=ds.length by lia,jd]
  rfl
 intro f
 induction f with
 |zero=>
  intro M h1 h2 h3 _;obtain rfl:M=Bo ds k:=by lia
  rw[done,jd]
 |succ f ih=>
  intro M h1 h2 h3 h4
  by_cases e:M=Bo ds k
  ·rw[e,done,jd]
  ·have hM:eld ds M=k:=by rcases h4 with z|z;exact absurd z e;exact z
   have hMl:M<ds.length:=by lia
   obtain⟨a2,b2,c2,d2⟩:=Cm (ds:=ds) hMl;have hle:Bo ds M<=Bo ds k:=by
    by_cases z:Bo ds M<=Bo ds k
    ·exact z
    ·have:=c2 (Bo ds k) (by lia) (by lia)
     have:=d (by lia);lia
   rw[Pn hMl,if_pos hM,Pi (Bo ds M-(M+1)) (M+1) (by lia) (λi i1 i2 z=>by
    have:=c2 i (by lia) (by lia);lia),show M+1+(Bo ds M-(M+1))=Bo ds M by lia,ih (Bo ds M) (by lia) (by lia) hle ?_]
   ·lia
   ·by_cases z:Bo ds M=Bo ds k
    ·exact .inl z
    ·right
     have h5:=c (Bo ds M) (by lia) (by lia);have h6:=d2 (by lia)
     by_cases y:eld ds (Bo ds M)=k
     ·exact y
     ·have:=pH h (show Bo ds M<ds.length by lia) rfl h6 (by lia)
      lia
theorem nK {ds:Za4}(h:Dok ds){k:Nat}(hk:k<ds.length):bS ds (ds.length-(k+1)) k=Bo ds k-(k+1):=by
 obtain⟨a,b,c,d⟩:=Cm (ds:=ds) hk;refine rK h hk _ (k+1) (dh _) (by lia) (by lia) ?_
 by_cases e:k+1=Bo ds k
 ·exact .inl e
 ·right
  have h1:=c (k+1) (by lia) (by lia);have h2:=Vf h (show k+1<ds.length by lia);lia
theorem vN {ds:Za4}(h:Dok ds){k:Nat}(hk:k<ds.length):bS ds ds.length k=Bo ds k-(k+1):=by
 have e:=Pi (ds:=ds) (j:=k) (k+1) 0 (by lia) (λi _ i2=>by
  have:=Vf h (show i<ds.length by lia);lia)
 rw[ss,ip] at e;rw[e,nK h hk]
theorem Sj {ds:Za4}(h:Dok ds){k:Nat}(hk:k<ds.length):∀i,k<i->i<Bo ds k->dAt ds k<dAt ds i:=λi=>by
 obtain⟨a,b,c,d⟩:=Cm (ds:=ds) hk
 induction i using Nat.strongRecOn with
 |_ i ih=>
  intro h1 h2;have h3:=c i h1 h2;obtain⟨v,hv,hvi,hd⟩:=Dp h (show i<ds.length by lia) (by lia)
  by_cases e:v=k
  ·rw[hd,e];lia
  ·have:=ih v hvi (by lia) (by lia)
   lia
def Iu (ds:Za4)(k:Nat):Za4:=(d7 (Bo ds k-k)).map λi=>dAt ds (k+i)-dAt ds k
theorem Iv (ds:Za4)(k:Nat):(Iu ds k).length=Bo ds k-k:=by unfold Iu;rw[da,d6]
theorem N9 {ds:Za4}{k i:Nat}(h:i<Bo ds k-k):dAt (Iu ds k) i=dAt ds (k+i)-dAt ds k:=by
 unfold dAt Iu gr;rw[du,gl h];rfl
theorem Ux {ds:Za4}(h:Dok ds){k:Nat}(hk:k<ds.length):Dok (Iu ds k):=λi hi=>by
 obtain⟨a,b,c,d⟩:=Cm (ds:=ds) hk;rw[Iv] at hi;rw[N9 hi]
 cases i with
 |zero=>show _<=0;rw[jr,jd];exact dh _
 |succ i=>
  show _<=dAt (Iu ds k) i+1;rw[N9 (by lia)];have h1:dAt ds (k+(i+1))<=dAt ds (k+i)+1:=h (k+(i+1)) (by lia)
  by_cases e:i=0
  ·subst e
   rw[jr] at *;lia
  ·have:=Sj h hk (k+i) (by lia) (by lia)
   lia
theorem fV {ds:Za4}(h:Dok ds){k:Nat}(hk:k<ds.length):∀i,i<Bo ds k-k->way (Iu ds k) (i+1)=-1::((way ds (k+(i+1))).drop (dAt ds k+1)).map (λx=>x-(k:Int))
 |0,hi=>by
  obtain⟨a,b,c,d⟩:=Cm (ds:=ds) hk;show(way (Iu ds k) 0).take (dAt (Iu ds k) 0+1)++[((0:Nat):Int)]=_;have hl:=Cd h k (by lia);have hd:=h k hk;show([-1]:List Int).take (dAt (Iu ds k) 0+1)++[((0:Nat):Int)]=-1::(((way ds k).take (dAt ds k+1)++[(k:Int)]).drop (dAt ds k+1)).map (λx=>x-(k:Int));have e1:(((way ds k).take (dAt ds k+1)++[(k:Int)]).drop (dAt ds k+1))=[(k:Int)]:=by
   have:((way ds k).take (dAt ds k+1)).length=dAt ds k+1:=by rw[dy];lia
   rw[je (by lia),jo (by lia)];rfl
  rw[e1,fc (by simp)];simp
 |i+1,hi=>by
  obtain⟨a,b,c,d⟩:=Cm (ds:=ds) hk;have ih:=fV h hk i (by lia);have hl:=Cd h (k+(i+1)) (by lia);have hd:=h (k+(i+1)) (by lia);have hdp:=Sj h hk (k+(i+1)) (by lia) (by lia);show(way (Iu ds k) (i+1)).take (dAt (Iu ds k) (i+1)+1)++[((i+1:Nat):Int)]=-1::((((way ds (k+(i+1))).take (dAt ds (k+(i+1))+1)++[((k+(i+1):Nat):Int)])).drop (dAt ds k+1)).map (λx=>x-(k:Int));rw[ih,N9 hi,ky];have hl2:((way ds (k+(i+1))).take (dAt ds (k+(i+1))+1)).length=dAt ds (k+(i+1))+1:=by rw[dy];lia
  rw[je (by lia),ed,List.drop_take,jz,<-oq,show dAt ds (k+(i+1))+1-(dAt ds k+1)=dAt ds (k+(i+1))-dAt ds k by lia];congr 2;show[((i+1:Nat):Int)]=[((k+(i+1):Nat):Int)-(k:Int)];congr 1;lia
theorem fN {ds:Za4}(h:Dok ds){k i:Nat}(hk:k<ds.length)(h0:0<i)(hi:i<Bo ds k-k):eld (Iu ds k) i=eld ds (k+i)-k:=by
 obtain⟨a,b,c,d⟩:=Cm (ds:=ds) hk;obtain⟨j,rfl⟩:∃j,i=j+1:=⟨i-1,by lia⟩;have h1:=Hc (Ux h hk) (k:=j+1) (by rw[Iv];exact hi);have h2:=Hc h (show k+(j+1)<ds.length by lia);have hdp:=Sj h hk (k+(j+1)) (by lia) (by lia);rw[fV h hk j (by lia),N9 hi] at h1;obtain⟨m,hm⟩:∃m,dAt ds (k+(j+1))-dAt ds k=m+1:=⟨_,(ur (by lia)).symm⟩;rw[hm,ql,du,i7,show dAt ds k+1+m=dAt ds (k+(j+1)) by lia,h2] at h1;exact(dr h1).symm
theorem lI {ds:Za4}(h:Dok ds){k:Nat}(hk:k<ds.length):eld (Iu ds k) 0=-1:=by
 obtain⟨a,b,c,d⟩:=Cm (ds:=ds) hk;have h1:=Hc (Ux h hk) (k:=0) (by rw[Iv];lia);have h2:dAt (Iu ds k) 0=0:=by rw[N9 (by lia),jr,jd]
 rw[h2] at h1;exact(dr h1).symm
theorem Mw:∀{l m:Za4},l.Pairwise (· < ·)->m.Pairwise (· < ·)->(∀x,x∈l↔x∈m)->l=m
 |[],[],_,_,_=>rfl
 |[],b::m,_,_,h=>by have:=(h b).mpr (by simp);cases this
 |a::l,[],_,_,h=>by have:=(h a).mp (by simp);cases this
 |a::l,b::m,h1,h2,h=>by
  rw[qf] at h1 h2;have e:a=b:=by
   rcases gt.mp ((h a).mp (by simp)) with z|z
   ·exact z
   ·rcases gt.mp ((h b).mpr (by simp)) with y|y
    ·exact y.symm
    ·have:=h2.1 a z
     have:=h1.1 b y;lia
  subst e;congr 1;refine Mw h1.2 h2.2 λx=>⟨λhx=>?_,λhx=>?_⟩
  ·rcases gt.mp ((h x).mp (by simp[hx])) with z|z
   ·have:=h1.1 x hx;lia
   ·exact z
  ·rcases gt.mp ((h x).mpr (by simp[hx])) with z|z
   ·have:=h2.1 x hx;lia
   ·exact z
end TW
end
section
namespace L2
open PySem PySem.Spec PyProof.Rows
variable {C CB CC CL Pt dx i1 i2 it l1 l2 z:dk} {params:l8} {A:ir} {op:vw} {X:Cx} {D:Go} {env:Env} {iter tg:ie} {fd:jk} {base h h':i8} {H H' H1 H2:Hp} {J:It} {pins:Za1} {fp:List dk} {kz ns:List Int} {l0:List fg} {cs ix:Za4} {N ps:Za6} {xs ys:List V} {us vs:Za3} {M:wo} {n t':Nat} {oT:Obj} {an od:Option dk} {lpos p pos pos2:Pos} {B:Prop} {scope:l6} {pl:Sem Bool} {s s2:d4} {sp:Sp} {qual:Str} {te:TE} {wi:TI} {y:V} {cdv ct doc oc pm:d3} {w:gp}
section
variable {X:Cx} {e a b o value:ie} {es:List ie} {te ta tb tv:TE} {t:TA} {pos pos':Pos} {x f:Str}
theorem tpa (ha:PE X e te)(hr:PA X es t)(hs:autoParam (dQ e=true) QD):PA X (e::es) (Ti te t):=Abn ha hr hs
theorem tix {r:R2}(hr:IxR X r)(ha:PE X a ta)(hb:PE X b tb)(hs:eQ b:=by exact λ_ _=>rfl):PE X (.Subscript a b pos) (tOp r ta tb):=Aa2 hr ha hb hs
theorem tpc {r:R2}(ho:OpR X (compareOp op) r)(ha:PE X a ta)(hb:PE X b tb)(hm:behindInMarks op b=false:=by exact mP _):PE X (.Compare a [op] [b] pos) (tOp r ta tb):=tE ho ha hb hm
theorem ttc {r:R2}(ho:OpR X (compareOp op) r)(ha:PE X a ta)(hb:PE X b tb)(hm:behindInMarks op b=false:=by exact mP _):PT X (.Compare a [op] [b] pos) (oG (tOp r ta tb)):=Vn ho ha hb hm
theorem tfl (he:PE X e ta)(hb:autoParam (attributeBase e f X.env (eval e X.env)=eval e X.env) QD):PE X (.Attribute e f pos) (wU X.K ta f):=vW he hb
theorem tsf (ha:PE X o ta)(hv:PE X value tv)(hs:autoParam (swapsWith value (some (.Attribute o f pos')) pos.line X.env=pure false) QD):PS X (.Assign [.Attribute o f pos'] value pos) (vD X.K ta tv f):=wB ha hv hs
theorem tst (i:Nat)(hN:X.N.Nodup)(he:PE X e te)(hi:autoParam (X.N[i]?=some x) QD)(hx:Loc X.env.scope x:=by exact DF rfl)(hs:autoParam (swapsWith e (some (.Name x pos')) pos.line X.env=pure false) QD)(hf:autoParam (X.fn x=true\/X.env.scope.names.lookup x=some .local) QH) :
  PS X (.Assign [.Name x pos'] e pos) (cS te (Dt i)):=Jc hN hi hx he hs hf
theorem tgn (i:Nat)(hN:X.N.Nodup)(hi:autoParam (X.N[i]?=some x) QD)(hx:Loc X.env.scope x:=by exact DF rfl)(hf:autoParam (X.fn x=true\/X.env.scope.names.lookup x=some .local) QH):PG X (.Name x pos) (Dt i):=Er hN hi hx hf
theorem tau (i:Nat){op:AT}{ti:TIp}(hN:X.N.Nodup)(he:PE X e te)(ho:PIp X op ti)(hi:autoParam (X.N[i]?=some x) QD)(hx:Loc X.env.scope x:=by exact DF rfl)(hf:autoParam (X.fn x=true\/X.env.scope.names.lookup x=some .local) QH) :
  PS X (.AugAssign (.Name x pos') op e pos) (wS i te ti):=vV hN hi hx he ho hf
end
end L2
end
section
namespace TW
def dwn (ds:Za4)(g:Nat):Nat:=pre (gsL ds) (g+1)
def sgm (l:Za4)(a b:Nat):Za4:=(l.drop a).take (b-a)
def Cy (ds:Za4):Nat->Nat->Nat
 |0,g=>g
 |t+1,g=>Cy ds t (dwn ds g)
theorem pL {ds:Za4}(h:Dok ds)(g:Nat):dwn ds g<=ds.length:=by
 have:=mY (gsL ds) (g+1);rw[(Fl h).2] at this;exact this
theorem M6 (ds:Za4){a b:Nat}(h:a<=b):dwn ds a<=dwn ds b:=nJ _ (DU h)
theorem Uc (ds:Za4):∀(t:Nat) {a b:Nat},a<=b->Cy ds t a<=Cy ds t b
 |0,_,_,h=>h
 |t+1,_,_,h=>Uc ds t (M6 ds h)
theorem Pk {ds:Za4}(h:Dok ds):∀(t:Nat) {a:Nat},a<=ds.length->Cy ds t a<=ds.length
 |0,_,ha=>ha
 |t+1,_,_=>Pk h t (pL h _)
theorem Ol (ds:Za4):∀(t g:Nat),Cy ds (t+1) g=dwn ds (Cy ds t g)
 |0,_=>rfl
 |t+1,g=>Ol ds t (dwn ds g)
theorem Xw (ds:Za4):∀(s t g:Nat),Cy ds (s+t) g=Cy ds t (Cy ds s g)
 |0,t,g=>by rw[ip];rfl
 |s+1,t,g=>by rw[show s+1+t=(s+t)+1 by lia];exact Xw ds s t (dwn ds g)
theorem fY (l:Za4){a b:Nat}(hb:b<=l.length):(sgm l a b).length=b-a:=by
 unfold sgm;rw[dy,io];lia
theorem yD (l:Za4){a b i:Nat}(hi:a+i<b):(sgm l a b)[i]?=l[a+i]?:=by
 unfold sgm;rw[gq (by lia),i7]
theorem gH (l:Za4){a b c:Nat}(h1:a<=b)(h2:b<=c):sgm l a c=sgm l a b++sgm l b c:=by
 unfold sgm;rw[show c-a=(b-a)+(c-b) by lia,uf,ka,show a+(b-a)=b by lia]
theorem eY {l:Za4}{a v:Nat}(h:l[a]?=some v):sgm l a (a+1)=[v]:=by
 unfold sgm;rw[show a+1-a=1 by lia];have hl:=(d9.mp h);rw[pq hl.1,ky,mf,hl.2]
theorem fI (l:Za4)(a:Nat):sgm l a a=[]:=by
 unfold sgm;rw[jd,mf]
theorem mH {ds:Za4}(h:Dok ds){g:Nat}(hg:g<ds.length):sgm (lvo ds ds.length ds.length) (dwn ds g) (dwn ds (g+1))=Ba ds ds.length ((lvo ds ds.length ds.length).getD g 0:Nat):=by
 have hl:(Ls ds).length=ds.length+1:=by unfold Ls;rw[fj,da,Dj h]
 have e:=Mi (Ls ds) (g+1) (by lia);rw[Vy h,<-N8,oW hg h] at e;unfold sgm;have e2:dwn ds (g+1)-dwn ds g=(Ba ds ds.length ((lvo ds ds.length ds.length).getD g 0:Nat)).length:=by
  unfold dwn;rw[Nv (g:=g+1) (by rw[(Fl h).1];lia),gi,<-oW hg h];have:(gsL ds)[g+1]?=some ((Ls ds).getD (g+1) []).length:=by
   rw[N8,du];unfold gr;rw[df (by lia)];rfl
  rw[df (by rw[(Fl h).1];lia)] at this;exact dr this
 rw[e2];exact e
theorem Sc {ds:Za4}(h:Dok ds){a:Nat}:∀m,a+m<=ds.length->sgm (lvo ds ds.length ds.length) (dwn ds a) (dwn ds (a+m))=((sgm (lvo ds ds.length ds.length) a (a+m)).map λv:Nat=>Ba ds ds.length v).flatten
 |0,_=>by rw[jr,fI,fI];rfl
 |m+1,hm=>by
  have ih:=Sc h (a:=a) m (by lia);have hv:(lvo ds ds.length ds.length)[a+m]?=some ((lvo ds ds.length ds.length).getD (a+m) 0):=by
   unfold gr;rw[df (by rw[Dj h];lia)];rfl
  rw[show a+(m+1)=a+m+1 by lia,gH _ (M6 ds (iq a m)) (M6 ds (qp _)),ih,mH h (by lia),
   gH _ (iq a m) (qp _),ed,iy,eY hv,ft,o7,gd,DL,fw]
def und (ds:Za4)(k t:Nat):Za4:=((d7 (Bo ds k-k)).map λi=>k+i).filter λj=>decide (dAt ds j=dAt ds k+t)
theorem wT {ds:Za4}(h:Dok ds){k:Nat}(hk:k<ds.length){i:Nat}(h1:k<=i)(h2:i<Bo ds k):dAt ds k<=dAt ds i:=by
 by_cases e:k=i
 ·rw[e];exact dh _
 ·exact ig (Sj h hk i (by lia) h2)
theorem fA {ds:Za4}(h:Dok ds){k:Nat}(hk:k<ds.length)(t:Nat):und ds k t=(lev (Iu ds k) (Iu ds k).length t).map λi=>k+i:=by
 unfold und lev;rw[List.filter_map,Iv];congr 1;refine CW λi hi=>?_;have hi:=gz.mp hi;have he:=Cm hk;have:=wT h hk (i:=k+i) (by lia) (by lia);rw[N9 hi];show decide (dAt ds (k+i)=dAt ds k+t)=decide (dAt ds (k+i)-dAt ds k=t);exact decide_eq_decide.mpr ⟨λe=>by lia,λe=>by lia⟩
theorem Zo {ds:Za4}(h:Dok ds){k i:Nat}(hk:k<ds.length)(hi:i<Bo ds k-k):(Ba (Iu ds k) (Iu ds k).length (i:Int)).map (λi=>k+i)=Ba ds ds.length ((k+i:Nat):Int):=by
 have he:=Cm hk;refine Mw ?_ (n8 _ l7) λx=>?_
 ·refine xl.mpr ?_
  exact(n8 _ l7).imp λ{a b} hab=>by lia
 ·constructor
  ·intro hx
   obtain⟨j,hj,rfl⟩:=fz.mp hx;obtain⟨h1,h2⟩:=Hd.mp hj;rw[Iv] at h1;have h0:0<j:=by
    cases j with
    |zero=>rw[lI h hk] at h2;lia
    |succ j=>lia
   rw[fN h hk h0 h1] at h2;exact Hd.mpr ⟨by lia,by lia⟩
  ·intro hx
   obtain⟨h1,h2⟩:=Hd.mp hx;have h3:((k+i:Nat):Int)<x:=by have:=Vf h h1;lia
   have h4:x<Bo ds k:=by
    by_cases z:x<Bo ds k
    ·exact z
    ·rcases dY h hk (i:=x) (by lia) h1 with q|q<;>lia
   refine fz.mpr ⟨x-k,Hd.mpr ⟨by rw[Iv];lia,?_⟩,by lia⟩;rw[fN h hk (by lia) (by lia),show k+(x-k)=x by lia,h2];lia
theorem jU {ds:Za4}(h:Dok ds){k:Nat}(hk:k<ds.length):und ds k 0=[k]:=by
 have he:=Cm hk;refine Mw ?_ (by simp) λx=>?_
 ·refine n8 _ (xl.mpr ?_)
  exact l7.imp λ{a b} hab=>by lia
 ·unfold und
  rw[mw,ee]
  constructor
  ·rintro⟨hx,hd⟩
   obtain⟨i,hi,rfl⟩:=fz.mp hx;have hi:=gz.mp hi;have hd:=of_decide_eq_true hd
   by_cases z:i=0
   ·lia
   ·have:=Sj h hk (k+i) (by lia) (by lia)
    lia
  ·rintro rfl
   exact⟨fz.mpr ⟨0,gz.mpr (by lia),by lia⟩,decide_eq_true (by lia)⟩
theorem kJ {ds:Za4}(h:Dok ds){k:Nat}(hk:k<ds.length)(t:Nat):und ds k (t+1)=((und ds k t).map λv:Nat=>Ba ds ds.length v).flatten:=by
 rw[fA h hk,fA h hk,Ml (Ux h hk) t _ (dh _),DJ,gx,gx];congr 1;refine jg λi hi=>?_;have:=(Cc.mp hi).1;rw[Iv] at this;exact Zo h hk this
theorem eB {ds:Za4}(h:Dok ds){g k:Nat}(hg:g<ds.length)(e:(lvo ds ds.length ds.length)[g]?=some k):∀t,sgm (lvo ds ds.length ds.length) (Cy ds t g) (Cy ds t (g+1))=und ds k t
 |0=>by
  have hk:k<ds.length:=Rt (d5 e);rw[jU h hk];exact eY e
 |t+1=>by
  have hk:k<ds.length:=Rt (d5 e);have ih:=eB h hg e t;have hle:=Uc ds t (show g<=g+1 by lia);have hle2:=Pk h t (a:=g+1) (by lia);rw[kJ h hk,<-ih,Ol,Ol];have:=Sc h (a:=Cy ds t g) (Cy ds t (g+1)-Cy ds t g) (by lia);rw[show Cy ds t g+(Cy ds t (g+1)-Cy ds t g)=Cy ds t (g+1) by lia] at this;exact this
def lo (ds:Za4)(d:Nat):Nat:=(lvo ds ds.length d).length
theorem My (ds:Za4):lo ds 0=0:=rfl
theorem C6 (ds:Za4)(d:Nat):lo ds (d+1)=lo ds d+(lev ds ds.length d).length:=by
 unfold lo;rw[Cf,di]
theorem Wz {ds:Za4}(h:Dok ds):∀k,k<=ds.length->∀d,d<mx ds k->∃j,j<k/\dAt ds j=d
 |0,_,d,hd=>by cases hd
 |k+1,hk,d,hd=>by
  have hd:d<max (mx ds k) (dAt ds k+1):=hd
  by_cases e:d<mx ds k
  ·obtain⟨j,h1,h2⟩:=Wz h k (by lia) d e
   exact⟨j,by lia,h2⟩
  ·have h1:=h k (by lia)
   have h2:=xZ ds k;exact⟨k,by lia,by lia⟩
theorem Pu {ds:Za4}(h:Dok ds){d:Nat}(hd:d<mx ds ds.length):0<(lev ds ds.length d).length:=by
 obtain⟨j,h1,h2⟩:=Wz h ds.length (dh _) d hd;exact List.length_pos_of_mem (Cc.mpr ⟨h1,h2⟩)
theorem Os {ds:Za4}(h:Dok ds):lo ds (mx ds ds.length)=ds.length:=by
 have:=Zd h ds.length (dh _);have e:=mJ (ds:=ds) ds.length (ds.length-mx ds ds.length);rw[show mx ds ds.length+(ds.length-mx ds ds.length)=ds.length by lia] at e;unfold lo;rw[<-e,Dj h]
theorem Im (ds:Za4):∀(d e:Nat),lo ds d<=lo ds (d+e)
 |d,0=>dh _
 |d,e+1=>by
  have:=Im ds d e;rw[show d+(e+1)=(d+e)+1 by lia,C6];lia
def esD (ds:Za4):Za4:=(lvo ds ds.length ds.length).map (dAt ds)
theorem Wh {ds:Za4}(h:Dok ds):(esD ds).length=ds.length:=by unfold esD;rw[da,Dj h]
theorem oS {ds:Za4}(h:Dok ds){d i:Nat}(hd:d<mx ds ds.length)(hi:i<(lev ds ds.length d).length):(esD ds)[lo ds d+i]?=some d:=by
 have hm:=Zd h ds.length (dh _);have e:=Hk ds ds.length (d+1) (ds.length-(d+1));rw[show d+1+(ds.length-(d+1))=ds.length by lia,Cf] at e;unfold esD;rw[e,du,dq,d8 (by unfold lo;lia)];unfold lo;rw[gi,fv hi,df hi];exact congrArg some (Cc.mp (ye hi)).2
theorem gM {ds:Za4}(h:Dok ds){i:Nat}:∀D,i<lo ds D->∃d,d<D/\lo ds d<=i/\i<lo ds (d+1)
 |0,hi=>by rw[My] at hi;lia
 |D+1,hi=>by
  by_cases e:i<lo ds D
  ·obtain⟨d,h1,h2,h3⟩:=gM h D e
   exact⟨d,by lia,h2,h3⟩
  ·exact⟨D,by lia,by lia,hi⟩
theorem tF {ds:Za4}(h:Dok ds){i:Nat}(hi:i<ds.length):∃d,d<mx ds ds.length/\lo ds d<=i/\i<lo ds (d+1)/\(esD ds)[i]?=some d:=by
 obtain⟨d,h1,h2,h3⟩:=gM h (mx ds ds.length) (i:=i) (by rw[Os h];exact hi);refine⟨d,h1,h2,h3,?_⟩;rw[C6] at h3;have:=oS h h1 (i:=i-lo ds d) (by lia)
 rwa [show lo ds d+(i-lo ds d)=i by lia] at this
theorem lK {ds:Za4}(h:Dok ds)(d:Nat):(d7 ds.length).filter (λi=>decide ((esD ds).getD i 0=d))=if d<mx ds ds.length then(d7 (lo ds (d+1)-lo ds d)).map (lo ds d + ·) else[]:=by
 have key:∀i,i<ds.length->((esD ds).getD i 0=d↔d<mx ds ds.length/\lo ds d<=i/\i<lo ds (d+1)):=λi hi=>by
  obtain⟨e,h1,h2,h3,h4⟩:=tF h hi;unfold gr;rw[h4];show e=d↔_
  constructor
  ·rintro rfl;exact⟨h1,h2,h3⟩
  ·rintro⟨a1,a2,a3⟩
   rcases DG e d with z|z|z
   ·have:=Im ds (e+1) (d-(e+1))
    rw[show e+1+(d-(e+1))=d by lia] at this;lia
   ·exact z
   ·have:=Im ds (d+1) (e-(d+1))
    rw[show d+1+(e-(d+1))=e by lia] at this;lia
 split
 ·rename_i hd
  have htop:lo ds (d+1)<=ds.length:=by
   have:=Im ds (d+1) (mx ds ds.length-(d+1));rw[show d+1+(mx ds ds.length-(d+1))=mx ds ds.length by lia,Os h] at this;exact this
  refine Mw (n8 _ l7) (xl.mpr (l7.imp λ{a b} hab=>by lia)) λx=>?_;rw[mw,fz,gz]
  constructor
  ·rintro⟨hx,hd2⟩
   obtain⟨_,a2,a3⟩:=(key x hx).mp (of_decide_eq_true hd2);exact⟨x-lo ds d,gz.mpr (by lia),by lia⟩
  ·rintro⟨i,hi,rfl⟩
   have hi:=gz.mp hi;exact⟨by lia,decide_eq_true ((key _ (by lia)).mpr ⟨hd,by lia,by lia⟩)⟩
 ·rename_i hd
  refine va.mpr λi hi=>?_;have hi:=gz.mp hi;rw[decide_eq_true_eq];exact λz=>hd ((key i hi).mp z).1
def bgP (es:Za4)(i:Nat):Bool:=decide (i=0\/es.getD i 0≠es.getD (i-1) 0)
theorem Aan {ds:Za4}(h:Dok ds):∀D,D<=mx ds ds.length->(d7 (lo ds D)).filter (bgP (esD ds))=(d7 D).map (lo ds)
 |0,_=>rfl
 |D+1,hD=>by
  have ih:=Aan h D (by lia);have hp:=Pu h (d:=D) (by lia);have hat:∀d,d<mx ds ds.length->∀i,lo ds d<=i->i<lo ds (d+1)->(esD ds).getD i 0=d:=λd hd i h1 h2=>by
   rw[C6] at h2;have:=oS h hd (i:=i-lo ds d) (by lia);rw[show lo ds d+(i-lo ds d)=i by lia] at this;unfold gr;rw[this];rfl
  obtain⟨m,hm⟩:∃m,(lev ds ds.length D).length=m+1:=⟨_,(ur hp).symm⟩;rw[C6,hm,List.range_add,jj,ih,iw (n:=D),ed];congr 1;rw[ux (n:=m),ft,gx,qm,ft,o7,jr]
  ·congr 1
   refine va.mpr λx hx=>?_;obtain⟨i,hi,rfl⟩:=fz.mp hx;have hi:=gz.mp hi;show ¬ bgP (esD ds) (lo ds D+(i+1))=true;unfold bgP;rw[decide_eq_true_eq,hat D (by lia) _ (by lia) (by rw[C6];lia),hat D (by lia) (lo ds D+(i+1)-1) (by lia) (by rw[C6];lia)];lia
  ·show bgP (esD ds) (lo ds D+0)=true
   unfold bgP;rw[decide_eq_true_eq]
   cases D with
   |zero=>left;rw[My]
   |succ E=>
    right
    have hp2:=Pu h (d:=E) (by lia);have:=C6 ds E;rw[hat (E+1) (by lia) _ (by lia) (by rw[C6 ds (E+1)];lia),hat E (by lia) (lo ds (E+1)+0-1) (by lia) (by lia)];lia
theorem nM {ds:Za4}(h:Dok ds):(d7 ds.length).filter (bgP (esD ds))=(d7 (mx ds ds.length)).map (lo ds):=by
 have:=Aan h (mx ds ds.length) (dh _)
 rwa [Os h] at this
theorem rG (ds:Za4){d:Nat}(hd:d<ds.length):sgm (lvo ds ds.length ds.length) (lo ds d) (lo ds (d+1))=lev ds ds.length d:=by
 have e:=Hk ds ds.length (d+1) (ds.length-(d+1));rw[show d+1+(ds.length-(d+1))=ds.length by lia,Cf] at e;unfold sgm;rw[e,C6,gi,dq,show lo ds d=(lvo ds ds.length d).length from rfl,List.drop_left,List.take_left]
theorem Aa8 {ds:Za4}(h:Dok ds){d:Nat}(hd:d<=mx ds ds.length):lo ds d<=ds.length:=by
 have:=Im ds d (mx ds ds.length-d);rw[show d+(mx ds ds.length-d)=mx ds ds.length by lia,Os h] at this;exact this
theorem mQ {ds:Za4}(h:Dok ds):dwn ds 0=lo ds 1:=by
 rw[C6,My,ip];unfold dwn;rw[Nv (g:=0) (by rw[(Fl h).1];lia)];have e:lev ds ds.length 0=Ba ds ds.length (-1):=Rb h _ (dh _);rw[e];simp[pre,N8,Ls]
theorem nL {ds:Za4}(h:Dok ds):∀d,d<=mx ds ds.length->dwn ds (lo ds d)=lo ds (d+1)
 |0,_=>mQ h
 |d+1,hd=>by
  have ih:=nL h d (by lia);have hm:=Zd h ds.length (dh _);have h1:=Aa8 h hd;have e:=Sc h (a:=lo ds d) (lo ds (d+1)-lo ds d) (by have:=Im ds d 1;lia);have hmo:=Im ds d 1;rw[show lo ds d+(lo ds (d+1)-lo ds d)=lo ds (d+1) by lia,rG ds (by lia),<-Ml h d _ (dh _)] at e;have e2:=congrArg k6 e;rw[fY _ (by rw[Dj h];exact pL h _)] at e2;have:=M6 ds hmo;rw[C6 ds (d+1)];lia
theorem Vs {ds:Za4}(h:Dok ds):∀(t d:Nat),d+t<=mx ds ds.length->Cy ds t (lo ds d)=lo ds (d+t)
 |0,_,_=>rfl
 |t+1,d,hd=>by
  show Cy ds t (dwn ds (lo ds d))=_;rw[nL h d (by lia),Vs h t (d+1) (by lia),show d+1+t=d+(t+1) by lia]
theorem oV {ds:Za4}{k t:Nat}(hk:k<ds.length)(ht:mx ds ds.length<=dAt ds k+t):und ds k t=[]:=by
 unfold und;refine va.mpr λj hj=>?_;obtain⟨i,hi,rfl⟩:=fz.mp hj;have hi:=gz.mp hi;have he:=Cm hk;have:=Tz ds ds.length (k+i) (by lia);rw[decide_eq_true_eq];lia
end TW
end
namespace TK
open PySem L2 TW
variable {C CB CC CL Pt dx i1 i2 it l1 l2 z:dk} {params:l8} {A:ir} {op:vw} {X:Cx} {D:Go} {env:Env} {iter tg:ie} {fd:jk} {base h h':i8} {H H' H1 H2:Hp} {J:It} {pins:Za1} {fp:List dk} {kz ns:List Int} {l0:List fg} {cs ix:Za4} {N ps:Za6} {xs ys:List V} {us vs:Za3} {M:wo} {n t':Nat} {oT:Obj} {an od:Option dk} {lpos p pos pos2:Pos} {B:Prop} {scope:l6} {pl:Sem Bool} {s s2:d4} {sp:Sp} {qual:Str} {te:TE} {wi:TI} {y:V} {cdv ct doc oc pm:d3} {w:gp}
def top (i:Nat):jc:=gw.main.body.getD i (.Pass ⟨0,0,0,0⟩)
abbrev Lw:jc:=top 9
theorem Zg:Al ["thing"] ["thing"] (Af Lw):=by k_cls
abbrev Kj:jc:=top 10
theorem Vl:Al ["thing","low","high"] ["thing","low","high"] (Af Kj):=by k_cls
abbrev J6:jc:=top 11
theorem U5:Al ["bit"] ["bit"] (Af J6):=by k_cls
abbrev G3:jc:=top 12
theorem Se:Al ["place","greatest"] ["place","greatest"] (Af G3):=by k_cls
abbrev Ec:jc:=top 14
theorem Jw:Al ["number"] ["number"] (Af Ec):=by k_cls
abbrev Il:jc:=top 15
theorem Sw:Al ["k","many_knots"] ["k","many_knots"] (Af Il):=by k_cls
abbrev Nx:jc:=top 20
theorem Ie:Al ["word","ones"] ["word"] (Af Nx):=by k_cls
abbrev Fk:jc:=top 21
theorem Jk:Al ["four","nth","places"] ["four","nth"] (Af Fk):=by k_cls
theorem N3:Bf ["four","nth","places"] (Af Fk) { kind:=.function,names:=[(".0",.local),("place",.local),("four",.free)],isGenerator:=false,isCoroutine:=false,more:=[] } "place" ["place","four"] [0]:=by k_cls
abbrev Oo:jc:=top 22
theorem Fj:Al ["word","nth","low","ones"] ["word","nth"] (Af Oo):=by k_cls
abbrev R8:jc:=top 26
theorem hU:Al ["thing"] ["thing"] (Af R8):=by k_cls
abbrev Oi:jc:=top 27
theorem dP:Al ["signs"] ["signs"] (Af Oi):=by k_cls
abbrev Iq:jc:=top 28
theorem Xk:Al ["text"] ["text"] (Af Iq):=by k_cls
theorem S1:Bf ["text"] (Af Iq) { kind:=.function,names:=[(".0",.local),("low",.local),("word_of",.globalImplicit),("WORD_BITS",.globalImplicit),("text",.free)],isGenerator:=false,isCoroutine:=false,more:=[] } "low" ["low","text"] [0]:=by k_cls
abbrev Js:jc:=B4 (top 30) 0
theorem Wb:Al ["self","text"] ["self","text"] (Af Js):=by k_cls
abbrev Ko:jc:=B4 (top 30) 1
theorem Uy:Al ["self"] ["self"] (Af Ko):=by k_cls
abbrev Id:jc:=B4 (top 30) 3
theorem Su:Al ["self"] ["self"] (Af Id):=by k_cls
abbrev Ig:jc:=top 34
theorem Fm:Al ["low","high","holds","middle"] ["low","high","holds"] (Af Ig):=by k_cls
abbrev Gf:jc:=top 35
theorem Fy:Al ["numbers","sums","number"] ["numbers"] (Af Gf):=by k_cls
abbrev Cp:jc:=top 36
theorem G1:Al ["words","blocks"] ["words"] (Af Cp):=by k_cls
theorem K8:Bf ["words","blocks"] (Af Cp) { kind:=.function,names:=[(".0",.local),("low",.local),("BLOCK_WORDS",.globalImplicit),("words",.free)],isGenerator:=false,isCoroutine:=false,more:=[] } "low" ["low","words"] [0]:=by k_cls
theorem Ld:Bf ["words","blocks"] (Af Cp) { kind:=.function,names:=[(".0",.local),("block",.local),("sum",.globalImplicit)],isGenerator:=false,isCoroutine:=false,more:=[] } "block" ["block"] []:=by k_cls
theorem K9 (QQ:l6):Bf ["block"] QQ { kind:=.function,names:=[(".0",.local),("word",.local),("ones_in",.globalImplicit)],isGenerator:=false,isCoroutine:=false,more:=[] } "word" ["word"] []:=⟨rfl,by decide +kernel,by decide +kernel,(λy hy h=>absurd h ((by decide +kernel:∀y∈({ kind:=.function,names:=[(".0",.local),("word",.local),("ones_in",.globalImplicit)],isGenerator:=false,isCoroutine:=false,more:=[] }:l6).names,y.2≠lh) y hy)),by decide +kernel,rfl,rfl,rfl,by decide +kernel⟩
abbrev G7:jc:=B4 (top 37) 0
theorem P3:Al ["self","bits"] ["self","bits"] (Af G7):=by k_cls
abbrev Co:jc:=B4 (top 37) 7
theorem Ee:Al ["self","bit","block","ones"] ["self","bit","block"] (Af Co):=by k_cls
abbrev El:jc:=B4 (top 37) 8
theorem Lf:Al ["self","bit"] ["self","bit"] (Af El):=by k_cls
abbrev Bb:jc:=B4 (top 37) 9
theorem Jv:Al ["self","bit","nth"] ["self","bit","nth"] (Af Bb):=by k_cls
theorem Hs:Bf ["self","bit","nth"] (Af Bb) { kind:=.function,names:=[("block",.local),("bit",.free),("nth",.free),("self",.free)],isGenerator:=false,isCoroutine:=false,more:=[] } "block" ["block","bit","nth","self"] [1,2,0]:=by k_cls
abbrev D4:jc:=B4 (top 37) 10
theorem Bi:Al ["self","bit","number","nth","flip","inside"] ["self","bit","number","nth"] (Af D4):=by k_cls
abbrev E5:jc:=B4 (top 37) 3
theorem Ge:Al ["self","bit","nth","block"] ["self","bit","nth"] (Af E5):=by k_cls
abbrev Gr:jc:=top 38
theorem M9:Al ["things","signs"] ["things"] (Af Gr):=by k_cls
theorem Rn:Nw ["things","signs"] (Af Gr) { kind:=.function,names:=[(".0",.local),("ahead",.local),("own",.local)],isGenerator:=false,isCoroutine:=false,more:=[] } "ahead" "own" ["ahead","own"] []:=by k_cls
abbrev G6:jc:=top 40
theorem Ex:Al ["order","met","place","number"] ["order"] (Af G6):=by k_cls
abbrev Jq:jc:=top 41
theorem C2:Al ["order","rounds","met","least","places","place"] ["order"] (Af Jq):=by k_cls
abbrev Gh:jc:=top 42
theorem Eh:Al ["order","step","shortcuts","places","marked"] ["order","step"] (Af Gh):=by k_cls
abbrev Bt:jc:=B4 (top 43) 0
theorem Nh:Al ["self","order","step"] ["self","order","step"] (Af Bt):=by k_cls
abbrev On:jc:=top 47
theorem Ic:Al ["elders","path","k","elder"] ["elders"] (Af On):=by k_cls
abbrev J5:jc:=top 48
theorem Jf:Al ["elders","depths","elder"] ["elders"] (Af J5):=by k_cls
abbrev Dd:jc:=top 49
theorem Rw:Al ["depths"] ["depths"] (Af Dd):=by k_cls
abbrev Ei:jc:=top 50
theorem Eb:Al ["elders","many","elder"] ["elders"] (Af Ei):=by k_cls
abbrev Fn:jc:=top 51
theorem Ra:Al ["many"] ["many"] (Af Fn):=by k_cls
theorem Om:Bf ["many"] (Af Fn) { kind:=.function,names:=[(".0",.local),("one",.local)],isGenerator:=false,isCoroutine:=false,more:=[] } "one" ["one"] []:=by k_cls
abbrev Kr:jc:=top 52
theorem Io:Al ["depths","many","depth"] ["depths"] (Af Kr):=by k_cls
abbrev Gx:jc:=top 55
theorem Nb:Al ["elders","order","many"] ["elders","order"] (Af Gx):=by k_cls
theorem Si:Bf ["elders","order","many"] (Af Gx) { kind:=.function,names:=[(".0",.local),("k",.local),("many",.free)],isGenerator:=false,isCoroutine:=false,more:=[] } "k" ["k","many"] [2]:=by k_cls
abbrev Ka:jc:=top 56
theorem Ij:Al ["depths","many","depth"] ["depths"] (Af Ka):=by k_cls
abbrev F0:jc:=B4 (top 57) 19
theorem Oc:Al ["self","number"] ["self","number"] (Af F0):=by k_cls
abbrev D8:jc:=B4 (top 57) 20
theorem Bw:Al ["self","number","steps"] ["self","number","steps"] (Af D8):=by k_cls
abbrev Dh:jc:=B4 (top 57) 21
theorem B2:Al ["self","number","left"] ["self","number"] (Af Dh):=by k_cls
abbrev Di:jc:=B4 (top 57) 22
theorem C3:Al ["self","depths","rest","number"] ["self","depths"] (Af Di):=by k_cls
abbrev F1:jc:=B4 (top 57) 0
theorem Dz:Al ["self","elders","wood","depths","order"] ["self","elders"] (Af F1):=by k_cls
abbrev Fh:jc:=B4 (top 57) 11
theorem Gu:Al ["self","deep","high"] ["self","deep"] (Af Fh):=by k_cls
abbrev D9:jc:=B4 (top 57) 12
theorem Dr:Al ["self","k","deep","low","high"] ["self","k","deep"] (Af D9):=by k_cls
abbrev Es:jc:=B4 (top 57) 13
theorem L1:Al ["self"] ["self"] (Af Es):=by k_cls
abbrev E7:jc:=B4 (top 57) 14
theorem Lr:Al ["self"] ["self"] (Af E7):=by k_cls
abbrev Ha:jc:=top 59
theorem P2:Al ["_law_script","_law_k"] ["_law_script","_law_k"] (Af Ha):=by k_cls
abbrev Jt:jc:=top 60
theorem Mq:Al ["_law_cell","_law_k","_law_number"] ["_law_cell","_law_k"] (Af Jt):=by k_cls
abbrev Kl:jc:=top 61
theorem C4:Al ["_law_cell","_law_many","_law_elders","_law_way","_law_k","_law_at"] ["_law_cell","_law_many"] (Af Kl):=by k_cls
abbrev J1:jc:=top 62
theorem B5:Al ["_law_script","_law_many","_law_elders","_law_way","_law_k","_law_number","_law_size","_law_turn","_law_at"] ["_law_script","_law_many"] (Af J1):=by k_cls
abbrev E4:jc:=top 63
theorem B0:Al ["_law_elders","_law_times","_law_hung","_law_found","_law_turn","_law_size","_law_base"] ["_law_elders","_law_times","_law_hung"] (Af E4):=by k_cls
theorem M7:Bf ["_law_elders","_law_times","_law_hung","_law_found","_law_turn","_law_size","_law_base"] (Af E4) { kind:=.function,names:=[(".0",.local),("_law_elder",.local),("_law_base",.free),("_law_size",.free)],isGenerator:=false,isCoroutine:=false,more:=[] } "_law_elder" ["_law_elder","_law_base","_law_size"] [6,5]:=by k_cls
abbrev Lp:jc:=top 64
theorem Ep:Al ["_law_script","_law_most","_law_large","_law_number","_law_many","_law_elders"] ["_law_script","_law_most","_law_large"] (Af Lp):=by k_cls
abbrev Gw:jc:=top 65
theorem Ce:Al ["_law_elders","_law_elder","_law_inner","_law_tops","_law_deep_here","_law_k","_law_below"] ["_law_elders"] (Af Gw):=by k_cls
theorem Px:Bf ["_law_elders","_law_elder","_law_inner","_law_tops","_law_deep_here","_law_k","_law_below"] (Af Gw) { kind:=.function,names:=[(".0",.local),("_law_elder",.local)],isGenerator:=false,isCoroutine:=false,more:=[] } "_law_elder" ["_law_elder"] []:=by k_cls
abbrev Eo:jc:=top 66
theorem Uv:Al ["_law_deep_here"] ["_law_deep_here"] (Af Eo):=by k_cls
abbrev G8:jc:=top 67
theorem E1:Al ["_law_order_here","_law_found","_law_number","_law_k"] ["_law_order_here"] (Af G8):=by k_cls
abbrev P8:jc:=top 68
theorem gX:Al ["_law_found","_law_due"] ["_law_found","_law_due"] (Af P8):=by k_cls
abbrev Ja:jc:=top 69
theorem O1:Al ["_law_many","_law_number","_law_size"] ["_law_many","_law_number"] (Af Ja):=by k_cls
theorem Sx:Bf ["_law_many","_law_number","_law_size"] (Af Ja) { kind:=.function,names:=[(".0",.local),("_law_k",.local),("_law_many",.free),("_law_number",.free)],isGenerator:=false,isCoroutine:=false,more:=[] } "_law_k" ["_law_k","_law_many","_law_number"] [0,1]:=by k_cls
abbrev G4:jc:=top 70
theorem Sd:Al ["_law_numbers_here"] ["_law_numbers_here"] (Af G4):=by k_cls
abbrev L5:jc:=top 71
theorem Yt:Al ["_law_found","_law_due"] ["_law_found","_law_due"] (Af L5):=by k_cls
abbrev Dk:jc:=top 72
theorem A8:Al ["_law_wood_here","_law_plain_here","_law_order_here","_law_numbers_here","_law_own","_law_more","_law_inner","_law_tops","_law_deep_here","_law_below","_law_k","_law_steps","_law_under"] ["_law_wood_here","_law_plain_here","_law_order_here","_law_numbers_here","_law_own","_law_more"] (Af Dk):=by k_cls
theorem Kn:Bf ["_law_wood_here","_law_plain_here","_law_order_here","_law_numbers_here","_law_own","_law_more","_law_inner","_law_tops","_law_deep_here","_law_below","_law_k","_law_steps","_law_under"] (Af Dk) { kind:=.function,names:=[(".0",.local),("_law_j",.local),("_law_deep_here",.free),("_law_k",.free),("_law_numbers_here",.free),("_law_steps",.free)],isGenerator:=false,isCoroutine:=false,more:=[] } "_law_j" ["_law_j","_law_deep_here","_law_k","_law_numbers_here","_law_steps"] [8,10,3,11]:=by k_cls
abbrev Ju:jc:=top 73
theorem E8:Al ["_law_many","_law_step","_law_elders","_law_last","_law_k"] ["_law_many","_law_step"] (Af Ju):=by k_cls
abbrev Jd:jc:=top 74
theorem Dw:Al ["_law_cell","_law_elders","_law_deep_here","_law_handed","_law_wood_here","_law_lanes","_law_there"] ["_law_cell"] (Af Jd):=by k_cls
theorem Td:Bf ["_law_cell","_law_elders","_law_deep_here","_law_handed","_law_wood_here","_law_lanes","_law_there"] (Af Jd) { kind:=.function,names:=[(".0",.local),("_law_one",.local),("_law_lanes",.free)],isGenerator:=false,isCoroutine:=false,more:=[] } "_law_one" ["_law_one","_law_lanes"] [5]:=by k_cls
abbrev C7:jc:=top 75
theorem Aw:Al ["_law_wood_here","_law_elders","_law_number","_law_plain_here","_law_order_here","_law_numbers_here","_law_lanes","_law_deep_here","_law_sizes","_law_widest","_law_own","_law_there"] ["_law_wood_here","_law_elders","_law_number"] (Af C7):=by k_cls
theorem Mc:Mr ["_law_wood_here","_law_elders","_law_number","_law_plain_here","_law_order_here","_law_numbers_here","_law_lanes","_law_deep_here","_law_sizes","_law_widest","_law_own","_law_there"] (Af C7) { kind:=.function,names:=[(".0",.local),("_law_deep_here",.cell),("len",.globalImplicit),("_law_plain_here",.free)],isGenerator:=false,isCoroutine:=false,more:=[] } "_law_deep_here" ["_law_deep_here","_law_plain_here"] [3]:=⟨rfl,by decide +kernel,by decide +kernel,by decide +kernel,by decide +kernel,rfl,rfl,rfl,by decide +kernel,by decide +kernel,by decide +kernel⟩
theorem L8:Bf ["_law_wood_here","_law_elders","_law_number","_law_plain_here","_law_order_here","_law_numbers_here","_law_lanes","_law_deep_here","_law_sizes","_law_widest","_law_own","_law_there"] (Af C7) { kind:=.function,names:=[(".0",.local),("_law_own",.local),("_law_deep_here",.free),("_law_order_here",.free),("_law_plain_here",.free)],isGenerator:=false,isCoroutine:=false,more:=[] } "_law_own" ["_law_own","_law_deep_here","_law_order_here","_law_plain_here"] [7,4,3]:=by k_cls
theorem Md:Bf ["_law_deep_here","_law_plain_here"] { kind:=.function,names:=[(".0",.local),("_law_deep_here",.cell),("len",.globalImplicit),("_law_plain_here",.free)],isGenerator:=false,isCoroutine:=false,more:=[] } { kind:=.function,names:=[(".0",.local),("_law_one",.local),("_law_deep_here",.free)],isGenerator:=false,isCoroutine:=false,more:=[] } "_law_one" ["_law_one","_law_deep_here"] [0]:=by k_cls
abbrev Ul:jc:=top 76
theorem L3:Al ["_law_script","_law_elders","_law_number","_law_handed","_law_wood_here","_law_half","_law_beside"] ["_law_script"] (Af Ul):=by k_cls
abbrev Fb:Pos:=⟨191,55,191,110⟩
abbrev Jh:Pos:=⟨282,42,282,61⟩
abbrev Ll:Pos:=⟨540,56,540,93⟩
def Bj (l:Za5):Str:=⟨(l.map λb=>if b then 49 else 48).toArray⟩
def Aai:Option Nat->V
 |none=>.non
 |some p=>.int p
theorem pR (m:Nat):nj (m:Int) 15=((m%16:Nat):Int):=by
 unfold nj;rw[decide_eq_true (lx m),decide_eq_true (by decide:(0:Int)<=15)];show((m &&& 15:Nat):Int)=_;rw[show(15:Nat)=2 ^ 4-1 by decide,yq]
theorem sA (m:Nat):(m:Int)/2 ^ (4:Int).toNat=((m/16:Nat):Int):=by
 show(m:Int)/16=_;lia
theorem fM (r:Nat)(h:r<16):atI (Ua.map λn:Nat=>V.int (n:Int)) (r:Int)=some (.int (pc r)):=by
 refine A0 ?_;rw[du,nE r h];rfl
theorem Abm (m:Nat):nj (m:Int) 1=((m%2:Nat):Int):=by
 unfold nj;rw[decide_eq_true (lx m),decide_eq_true (by decide:(0:Int)<=1)];show((m &&& 1:Nat):Int)=_;rw[Nat.and_one_is_mod]
theorem Cw (l:Za5):(Bj l).length=l.length:=by
 show(l.map _).toArray.size=_;rw[ej,da]
theorem iM (b:Bool)(k:Nat):We (sgn (if b then 49 else 48)) k=Bj (dv k b):=by
 refine Iy ?_;show(dv k [if b then 49 else 48]).flatten.toArray.toList=((dv k b).map _).toArray.toList;rw[kx,kx,sy]
 induction k with
 |zero=>rfl
 |succ k ih=>
  rw[im,gd,ih,im];rfl
theorem Em (l:Za5):(Bj l).cps.toList=l.map λb=>if b then 49 else 48:=by
 show(l.map _).toArray.toList=_;rw[kx]
theorem Zz (l:Za5):IB.bits (Bj l).cps.toList:=λc hc=>by
 rw[Em] at hc;obtain⟨b,_,rfl⟩:=fz.mp hc;cases b
 ·exact .inl rfl
 ·exact .inr rfl
theorem U0 (a b:Za5):Bj a++Bj b=Bj (a++b):=by
 refine Iy ?_;show((Bj a).cps++(Bj b).cps).toList=_;rw[gv,Em,Em,Em,ed]
theorem Lj {α:Type}(l:List α)(a b:Nat):(l.drop (min a l.length)).take (min b l.length-min a l.length)=(l.drop a).take (b-a):=by
 by_cases h:a<=l.length
 ·rw[iz h]
  by_cases h2:b<=l.length
  ·rw[iz h2]
  ·rw[uv (by lia),fc (by rw[io];lia),fc (by rw[io];lia)]
 ·have e:min a l.length=l.length:=by lia
  rw[e,jo (dh _),jo (by lia)];simp
theorem iU (l:Za5)(a b:Nat):jJ (Bj l) (some (a:Int)) (some (b:Int))=Bj ((l.drop a).take (b-a)):=by
 refine Iy ?_;show(AD _ (HN _ _)).toArray.toList=_;rw[kx,HT.sIx_nat,HT.sIx_nat];have e:(Bj l).cps.size=l.length:=Cw l;rw[e,Em,Em,oq,EQ];have:=Lj (l.map λb=>if b=true then 49 else 48) a b;rw[da] at this;exact this
theorem kF (xs:List V)(a b:Nat):G5 xs (some (a:Int)) (some (b:Int))=(xs.drop a).take (b-a):=by
 unfold G5;rw[HT.sIx_nat,HT.sIx_nat];exact Lj xs a b
theorem Tu (l:Za5):N1 (Bj l) 49=l.count true/\N1 (Bj l) 48+N1 (Bj l) 49=l.length:=by
 unfold N1;rw[Em]
 induction l with
 |nil=>exact⟨rfl,rfl⟩
 |cons b r ih=>cases b<;>simp[qb]<;>lia
theorem wL (l:Za5):IB.v2 (Ta (Bj l)).cps.toList=val l:=by
 show IB.v2 (Bj l).cps.toList.reverse.toArray.toList=_;rw[kx,Em,<-List.map_reverse];unfold IB.v2;rw[List.foldl_map];have e:=fQ l 0;rw[Nat.zero_mul,ip] at e;rw[<-e];congr 1
 funext a b
 cases b<;>rfl
abbrev nV (ns:Za4):List V:=ns.map λn:Nat=>V.int n
theorem Wk (ns:Za4):nV ns=(ns.map λn:Nat=>(n:Int)).map V.int:=by rw[gx];rfl
theorem Gg (f:Nat->Nat)(i:Nat):nV ((d7 (i+1)).map f)=nV ((d7 i).map f)++[V.int (f i:Nat)]:=by
 unfold nV;rw[iw,ed,ed];rfl
theorem kM (ns:Za4):(ns.map λn:Nat=>(n:Int)).sum=(ns.sum:Nat):=by
 induction ns with
 |nil=>rfl
 |cons n r ih=>rw[ft,om,ih,om];lia
theorem Ro (n d:Nat)(hd:0<d):B9 0 (n:Int) (d:Int)=(n+d-1)/d:=by
 unfold B9;rw[show(n:Int)-0+(d:Int)-1=((n+d-1:Nat):Int) by lia,<-yt,ge]
theorem few (h:n<=1000):n<=sizeLine:=ig (F7 h)
theorem An (h:n<=100000):n<sizeLine:=mj h (by decide)
theorem Fc {α:Type}{l:List α}{i:Nat}{b:α}(h:l[i]?=some b):i<l.length:=(d9.mp h).1
def isI:V->Bool
 |.int _=>true
 |_=>false
theorem Vi {l:Za5}{j:Nat}(h:j<B6 l.length):atI (nV (wordsOf l)) (j:Int)=some (.int (val (Bd l j):Nat)):=by
 refine A0 ?_;unfold nV TW.wordsOf;rw[du,du,gl h];rfl
theorem Hw {H5 H6:Hp}{xb dxb:dk}(nb1:H5 xb=none)(nb2:H5 dxb=none)(s6:SameBut xb (upd (upd H5 dxb (.own xb)) xb (.ins C dxb [])) H6):Am H5 H6:=λb u e=>by
 have e1:b≠xb:=Aj e nb1;have e2:b≠dxb:=Aj e nb2;exact s6 _ _ e1 (by rw[Ai e1,Ai e2];exact e)
theorem Hy (r:Int)(n:Nat):∃k:Nat,r%((n:Int)+1)=(k:Int)/\k<=n:=by
 have h0:=EF r (show((n:Int)+1)≠0 by lia);have h1:=CZ r (show(0:Int)<(n:Int)+1 by lia);exact⟨(r%((n:Int)+1)).toNat,by lia,by lia⟩
theorem sH (h:n<2 ^ 32):n ||| 4294967295=4294967295:=by
 refine BP λi=>?_;rw[Nat.testBit_or,show(4294967295:Nat)=2 ^ 32-1 by decide,zj]
 by_cases hi:i<32
 ·rw[decide_eq_true hi,Bool.or_true]
 ·rw[decide_eq_false hi,Bool.or_false]
  exact Nat.testBit_lt_two_pow (ef h (BN (by decide) (by lia)))
theorem dB (m k:Nat):vm (m:Int) (k:Int)=((m ||| k:Nat):Int)-((m &&& k:Nat):Int):=by
 have hn:∀x:Int,md (md x)=x:=λx=>by unfold md;lia
 have ho:DN (m:Int) (k:Int)=((m ||| k:Nat):Int):=by
  unfold DN nj;rw[decide_eq_false (show ¬(0:Int)<=md (m:Int) by unfold md;lia),decide_eq_false (show ¬(0:Int)<=md (k:Int) by unfold md;lia)];show md (md _)=_;rw[hn,hn,hn,ge,ge]
 have ha:nj (m:Int) (k:Int)=((m &&& k:Nat):Int):=by
  unfold nj;rw[decide_eq_true (lx m),decide_eq_true (lx k)];rfl
 unfold vm;rw[ho,ha]
theorem Uo:∀w:Za5,val w+val (w.map λb=>!b)+1=2 ^ w.length
 |[]=>rfl
 |b::r=>by
  have:=Uo r;rw[ft,fj,vf];cases b<;>simp[val]<;>lia
theorem R7 (b:Bool)(l:Za5)(j:Nat):vm ((val (Bd l j):Nat):Int) ((Ni b:Nat):Int)=((val (Bd l j) ^^^ Ni b:Nat):Int):=by
 have hlt:val (Bd l j)<2 ^ 32:=ef (mF _) (BN (by decide) (by unfold Bd;rw[dy];lia));have h1:=Kw true l j;have h0:=Kw b l j;rw[dB,h0]
 cases b with
 |true=>
  rw[<-h0];show(((val (Bd l j) ||| 0:Nat):Int)-((val (Bd l j) &&& 0:Nat):Int))=((val (Bd l j) ^^^ 0:Nat):Int);rw[Nat.or_zero,Nat.and_zero,FQ];lia
 |false=>
  show(((val (Bd l j) ||| 4294967295:Nat):Int)-((val (Bd l j) &&& 4294967295:Nat):Int))=_;rw[sH hlt,show(4294967295:Nat)=2 ^ 32-1 by decide,yq,Nat.mod_eq_of_lt hlt];have hc:=Uo ((d7 32).map λp=>l.getD (32*j+p) false==true);rw[<-h1,gx,da,d6] at hc;have e:((d7 32).map ((λb=>!b) ∘ λp=>l.getD (32*j+p) false==true))=(d7 32).map λp=>l.getD (32*j+p) false==false:=jg λp _=>by
   show(!(l.getD (32*j+p) false==true))=_;cases l.getD (32*j+p) false<;>rfl
  rw[e] at hc;have e0:val (Bd l j) ^^^ Ni true=val (Bd l j):=FQ _;rw[e0] at hc;lia
theorem Bz (l:Za4):(nV l).length=l.length:=by unfold nV;rw[da]
theorem Ys {l:Za4}{i:Nat}(h:l[i]?=some n):(nV l)[i]?=some (.int (n:Nat)):=by
 unfold nV;rw[du,h];rfl
theorem Va (l m:Za4):nV l++nV m=nV (l++m):=by unfold nV;rw[ed]
theorem Az {a:dk}{o:HO}(s:Am H H1)(h:H a=none):Am H (upd H1 a o):=λb u e=>by
 rw[Ai (Aj e h)];exact s _ _ e
theorem Sq {K:de}:kitOne K (.type "list") (.type "list")=some true:=by rfl
theorem Pz {l:List Int}{i:Nat}{n:Int}(h:l[i]?=some n):(l.map V.int)[i]?=some (.int n):=by
 rw[du,h];rfl
theorem Jy {l:List Int}{i:Nat}{x:V}(h:(l.map V.int)[i]?=some x):∃n,l[i]?=some n/\x=.int n:=by
 rw[du] at h
 cases e:l[i]? with
 |none=>rw[e] at h;cases h
 |some n=>
  rw[e] at h;exact⟨n,rfl,(dr h).symm⟩
theorem Tr {l:List Int}{m:Nat}{x:Int}(h0:0<m)(h:l[m-1]?=some x):atI ((l.take m).map V.int) (-1)=some (.int x):=by
 have hm:=Fc h;have e:l.take m=l.take (m-1)++[x]:=by
  rw[show m=m-1+1 by lia,il,h];rfl
 rw[e,ed];exact Xi _ _
theorem M8 {l:List Int}{m:Nat}(h:m<=l.length):((l.take m).map V.int).length=m:=by rw[da,dy];lia
theorem gU {l:List Int}{m:Nat}(h:m<=l.length):((l.take m).map V.int).dropLast=(l.take (m-1)).map V.int:=by
 rw[<-List.map_dropLast,List.dropLast_eq_take,EC,dy];congr 2;lia
def qH (H:Hp)(p:dk):Nat:=match H p with|some (.lst xs)=>xs.length|_=>0
theorem Xv {p:dk}(h:H p=some (.lst xs)):qH H p=xs.length:=by unfold qH;rw[h]
theorem Xp {K:de}{Q:VK}{p:dk}{ls:List (Za5)}(hl:H1 p=some (.lst (ls.map λl=>.str (Bj l))))(hz:ls.flatten.length<=100000)(q:Q (.str (Bj ls.flatten)) H1):tO K (.str "") [.ref p] H1 Q:=by
 refine⟨"",p,ls.map Bj,rfl,rfl,SqL.of ?_,?_,?_⟩
 ·rw[hl,gx]
  rfl
 ·have e:((ls.map Bj).map (·.length)).sum=ls.flatten.length:=by
   rw[BQ,gx];congr 1;refine jg λl _=>?_;exact Cw l
  rw[e];show ls.flatten.length+_*0<=_;lia
 ·have e:BJ ("":Str) (ls.map Bj)=Bj ls.flatten:=by
   refine Iy ?_;rw[dC,gx];show((ls.map λl=>(l.map λb=>if b then 49 else 48).toArray.toList)).flatten=(ls.flatten.map _).toArray.toList;simp only[kx];rw[DJ]
  rw[e];exact q
theorem Vp {ds:Za4}(h:Dok ds):∀k,k<=ds.length->opn ds k<=k
 |0,_=>dh _
 |k+1,hk=>by
  show dAt ds k+1<=k+1;have:=h k (by lia);have:=Vp h k (by lia);lia
theorem Ht {ds:Za4}{d j:Nat}(h:j<ds.length):dAt (ds++[d]) j=dAt ds j:=by
 unfold dAt gr;rw[fv h]
theorem Ku (ds:Za4)(d:Nat):dAt (ds++[d]) ds.length=d:=by
 unfold dAt gr;rw[d8 (dh _),jd];rfl
theorem M3 {ds:Za4}{d:Nat}:∀k,k<=ds.length->opn (ds++[d]) k=opn ds k
 |0,_=>rfl
 |k+1,h=>by
  show dAt (ds++[d]) k+1=dAt ds k+1;rw[Ht (by lia)]
theorem Ms {ds:Za4}{d:Nat}:∀k,k<=ds.length->way (ds++[d]) k=way ds k
 |0,_=>rfl
 |k+1,h=>by
  show(way (ds++[d]) k).take (dAt (ds++[d]) k+1)++[(k:Int)]=_;rw[Ms k (by lia),Ht (by lia)];rfl
theorem Jz {ds:Za4}{d:Nat}(h:Dok ds)(hd:d<=opn ds ds.length):Dok (ds++[d]):=λk hk=>by
 rw[di] at hk;simp only[fj,jh] at hk
 by_cases e:k=ds.length
 ·subst e
  rw[Ku,M3 _ (dh _)];exact hd
 ·rw[Ht (by lia),M3 k (by lia)]
  exact h k (by lia)
theorem Fi (ds:Za4)(d:Nat):A4 (ds++[d])=A4 ds++[(way ds ds.length).getD d 0]:=by
 unfold A4;rw[di];show(d7 (ds.length+1)).map _=_;rw[iw,ed];congr 1
 ·refine jg λk hk=>?_
  have hk:=gz.mp hk;unfold eld;rw[Ms k (by lia),Ht hk]
 ·show[eld (ds++[d]) ds.length]=_
  unfold eld;rw[Ms _ (dh _),Ku]
theorem Hq (ds:Za4)(d:Nat):way (ds++[d]) (ds.length+1)=(way ds ds.length).take (d+1)++[(ds.length:Int)]:=by
 show(way (ds++[d]) ds.length).take (dAt (ds++[d]) ds.length+1)++_=_;rw[Ms _ (dh _),Ku]
theorem Jm {ds:Za4}(h:Dok ds){k:Nat}(hk:k<=ds.length):way ds k=-1::(way ds k).tail:=by
 have e:=Kb h k hk
 cases hw:way ds k with
 |nil=>rw[hw] at e;cases e
 |cons x r=>
  rw[hw] at e;obtain rfl:=dr e;rfl
theorem Vm (xs:List V)(m:Nat):G5 xs none (some (m:Int))=xs.take m:=by
 unfold G5;rw[HT.sIx_nat];show(xs.drop 0).take (min m xs.length-0)=xs.take m;rw[o3,ss]
 by_cases h:m<=xs.length
 ·rw[iz h]
 ·rw[uv (by lia),fc (dh _),fc (by lia)]
theorem Y3 {ds:Za4}{d:Nat}(h:Dok (ds++[d])):Dok ds/\d<=opn ds ds.length:=by
 refine⟨λk hk=>?_,?_⟩
 ·have:=h k (by rw[di];lia)
  rw[Ht hk,M3 k (by lia)] at this;exact this
 ·have:=h ds.length (by rw[di];simp)
  rw[Ku,M3 _ (dh _)] at this;exact this
def shI (n:Nat)(b e:Int):Int:=if e<0 then b else e+n
def Hl (ds:Za4)(D:Nat)(es:Za4):Za4:=ds++es.map (·+D)
theorem Y8 (ds:Za4)(D:Nat)(es:Za4):(Hl ds D es).length=ds.length+es.length:=by unfold Hl;rw[di,da]
theorem rV {ds:Za4}(h1:Dok ds){D:Nat}(hD:D<=opn ds ds.length)(es:Za4)(h2:Dok es):Dok (Hl ds D es)/\A4 (Hl ds D es)=A4 ds++(A4 es).map (shI ds.length ((way ds ds.length).getD D 0)) /\
  (es≠[]->way (Hl ds D es) (Hl ds D es).length=(way ds ds.length).take (D+1)++(way es es.length).tail.map (λx:Int=>x+(ds.length:Int))):=by
 have hw:=Cd h1 ds.length (dh _)
 induction es using Hr with
 |h0=>
  have e:Hl ds D []=ds:=by unfold Hl;simp
  rw[e];exact⟨h1,by show A4 ds=A4 ds++[];simp,λz=>absurd rfl z⟩
 |h1 es d ih=>
  obtain⟨h2a,hd⟩:=Y3 h2;obtain⟨k1,k2,k3⟩:=ih h2a;have ec:Hl ds D (es++[d])=Hl ds D es++[d+D]:=by unfold Hl;rw[ed,<-dq];rfl
  have hwe:=Cd h2a es.length (dh _);have hhe:=Jm h2a (k:=es.length) (dh _);have htl:(way es es.length).tail.length=opn es es.length:=by rw[yd];lia
  have hwc:=Cd k1 (Hl ds D es).length (dh _)
  by_cases he:es=[]
  ·subst he
   have e0:Hl ds D []=ds:=by unfold Hl;simp
   have d0:d=0:=HC.mp hd;subst d0;rw[ec,e0,ip];refine⟨Jz h1 hD,?_,λ_=>?_⟩
   ·rw[Fi]
    rfl
   ·rw[di]
    show way (ds++[D]) (ds.length+1)=_;rw[Hq];congr 1;show[(ds.length:Int)]=[(0:Int)+(ds.length:Int)];rw[FT]
  ·have k3:=k3 he
   have htk:((way ds ds.length).take (D+1)).length=D+1:=by rw[dy];lia
   have hopn:opn (Hl ds D es) (Hl ds D es).length=D+opn es es.length:=by
    rw[k3,di,da,htl,htk] at hwc;lia
   rw[ec];refine⟨Jz k1 (by rw[hopn];lia),?_,λ_=>?_⟩
   ·rw[Fi,Fi,k2,ed,<-dq]
    congr 1;show[_]=[_];congr 1;rw[k3]
    cases d with
    |zero=>
     have e1:(way es es.length).getD 0 0=-1:=by rw[hhe];rfl
     rw[e1,ip];unfold shI;rw[if_pos (by decide)];unfold gr;rw[fv (by lia),gq (by lia)]
    |succ d=>
     have hx:(way es es.length)[d+1]?=some ((way es es.length)[d+1]'(by lia)):=df _;generalize (way es es.length)[d+1]'(by lia)=x at hx;obtain⟨v,rfl,_⟩:=Oe h2a es.length d x (dh _) hx;have e1:(way es es.length).getD (d+1) 0=(v:Int):=by unfold gr;rw[hx];rfl
     rw[e1];unfold shI;rw[if_neg (by lia)];unfold gr;rw[d8 (by lia),htk,du,show d+1+D-(D+1)=d by lia];rw[hhe] at hx;rw[ql] at hx;rw[hx];rfl
   ·have e2:(Hl ds D es++[d+D]).length=(Hl ds D es).length+1:=by rw[di];rfl
    have e3:(es++[d]).length=es.length+1:=by rw[di];rfl
    rw[e2,Hq,e3,Hq,k3];have e4:((way es es.length).take (d+1)++[(es.length:Int)]).tail=(way es es.length).tail.take d++[(es.length:Int)]:=by
     rw[hhe];rfl
    rw[e4,ed,<-dq];have e5:((way ds ds.length).take (D+1)++(way es es.length).tail.map (λx:Int=>x+(ds.length:Int))).take (d+D+1)=(way ds ds.length).take (D+1)++((way es es.length).tail.take d).map (λx:Int=>x+(ds.length:Int)):=by
     rw[DI,htk,fc (by lia),show d+D+1-(D+1)=d by lia,oq]
    rw[e5];congr 1;show[((Hl ds D es).length:Int)]=[(es.length:Int)+(ds.length:Int)];rw[Y8];congr 1;lia
theorem G9 {l:Za4}{i:Nat}{x:V}(h:(nV l)[i]?=some x):∃n,l[i]?=some n/\x=.int (n:Nat):=by
 unfold nV at h;rw[du] at h
 cases e:l[i]? with
 |none=>rw[e] at h;cases h
 |some n=>
  rw[e] at h;exact⟨n,rfl,(dr h).symm⟩
def grB (ns:Za4):Za5:=(ns.map λn=>dv n true++[false]).flatten
theorem fG (ns:Za4):(grB ns).length=ns.sum+ns.length:=by
 induction ns with
 |nil=>rfl
 |cons n r ih=>
  show(dv n true++[false]++grB r).length=_;rw[di,ih];simp;lia
theorem Z2 {ns:Za4}{i:Nat}(h:ns[i]?=some n):n<=ns.sum:=by
 induction ns generalizing i with
 |nil=>cases h
 |cons m r ih=>
  cases i with
  |zero=>cases h;simp
  |succ i=>have:=ih (i:=i) h;simp;lia
inductive Yz(vs:List V)(H:Hp)(Q:VK)(E:XK):Prop|mk(l:dk)(ns:Za4)(_:vs=[.ref l])(_:H l=some (.lst (nV ns)))(_:ns.sum+ns.length<=20000)(_:∀H',Am H H'->Q (.str (Bj (grB ns))) H')
structure Hf (H H':Hp):Prop where
 keep:∀b u,(∀ps,u≠.tbl ps)->H b=some u->H' b=some u
 tb:∀b ps,H b=some (.tbl ps)->∃ps',H' b=some (.tbl ps')
theorem Hf.refl (H:Hp):Hf H H:=⟨λ_ _ _ e=>e,λ_ ps e=>⟨ps,e⟩⟩
theorem Hf.trans (a:Hf H H1)(b:Hf H1 H2):Hf H H2:=⟨λc u n e=>b.keep c u n (a.keep c u n e),λc ps e=>let ⟨ps',e'⟩:=a.tb c ps e;b.tb c ps' e'⟩
theorem Hf.tup (s:Hf H H'){a:dk}(h:H a=some (.tup xs)):H' a=some (.tup xs):=s.keep _ _ (by intro ps e;cases e) h
theorem qJ (s:Am H H'):Hf H H':=⟨λb u _ e=>s b u e,λb ps e=>⟨ps,s b _ e⟩⟩
structure Tb where
 P:dk
 pos:Pos
 qual:Str
def Tb.ok (t:Tb)(H:Hp):Prop:=Kk H t.P t.pos t.qual
theorem Tb.same {t:Tb}(s:Am H H')(h:t.ok H):t.ok H':=by
 obtain⟨ps,e1,e2,e3⟩:=h;exact⟨ps,s _ _ e1,e2,e3.imp id λ⟨c,oc,a1,a2,a3⟩=>⟨c,oc,a1,s _ _ a2,a3⟩⟩
theorem Tb.sameX {t:Tb}{P:dk}(s:Lm P H H')(hP:∃ps,H P=some (.tbl ps))(n:t.P≠P)(h:t.ok H):t.ok H':=by
 obtain⟨ps,e1,e2,e3⟩:=h;obtain⟨ps',hP⟩:=hP;exact⟨ps,s _ _ n e1,e2,e3.imp id λ⟨c,oc,a1,a2,a3⟩=>⟨c,oc,a1,s _ _ (λz=>by rw[z,hP] at a2;cases a2) a2,a3⟩⟩
theorem sN {P:dk}(s:Lm P H H')(hP:∃ps,H P=some (.tbl ps))(hP':∃ps,H' P=some (.tbl ps)):Hf H H':=by
 refine⟨λb u n e=>s b u (λz=>?_) e,λb ps e=>?_⟩
 ·obtain⟨ps,hP⟩:=hP
  rw[z,hP] at e;cases e;exact n ps rfl
 ·by_cases hb:b=P
  ·rw[hb];exact hP'
  ·exact⟨ps,s b _ hb e⟩
theorem Tb.tbl {t:Tb}(h:t.ok H):∃ps,H t.P=some (.tbl ps):=let ⟨ps,e,_⟩:=h;⟨ps,e⟩
def Tbs (ts:List Tb)(H:Hp):Prop:=(∀t∈ts,t.ok H)/\(ts.map (·.P)).Nodup
structure SmT (ts:List Tb) (H H':Hp):Prop where
 sm:Hf H H'
 ok:Tbs ts H'
theorem Tbs.same {ts:List Tb}(h:Tbs ts H)(s:Am H H'):Tbs ts H':=⟨λt ht=>Tb.same s (h.1 t ht),h.2⟩
theorem SmT.of {ts:List Tb}(h:Tbs ts H)(s:Am H H'):SmT ts H H':=⟨qJ s,h.same s⟩
theorem SmT.refl {ts:List Tb}(h:Tbs ts H):SmT ts H H:=⟨Hf.refl _,h⟩
theorem SmT.trans {ts:List Tb}(a:SmT ts H H1)(b:SmT ts H1 H2):SmT ts H H2:=⟨a.sm.trans b.sm,b.ok⟩
theorem SmT.then {ts:List Tb}(a:SmT ts H H1)(b:Am H1 H2):SmT ts H H2:=a.trans (.of a.ok b)
theorem SmT.k {ts:List Tb}(s:SmT ts H H'){b:dk}{u:HO}(h:H b=some u)(n:∀ps,u≠.tbl ps:=by intro ps e;cases e):H' b=some u:=s.sm.keep _ _ n h
theorem lM:∀{ts:List Tb} {t u:Tb},(ts.map (·.P)).Nodup->t∈ts->u∈ts->t.P=u.P->t=u
 |[],_,_,_,h,_,_=>nomatch h
 |x::r,t,u,hn,ht,hu,e=>by
  rw[ft,oi] at hn;rcases gt.mp ht with rfl|ht'<;>rcases gt.mp hu with rfl|hu'
  ·rfl
  ·exact absurd (sf (f:=(·.P)) hu') (by rw[<-e];exact hn.1)
  ·exact absurd (sf (f:=(·.P)) ht') (by rw[e];exact hn.1)
  ·exact lM hn.2 ht' hu' e
theorem qK {ts:List Tb}{t:Tb}(h:Tbs ts H)(ht:t∈ts)(s:Lm t.P H H')(ok:t.ok H'):SmT ts H H':=by
 have hP:=Tb.tbl (h.1 t ht);refine⟨sN s hP (Tb.tbl ok),λu hu=>?_,h.2⟩
 by_cases e:u.P=t.P
 ·have:u=t:=lM h.2 hu ht e
  rw[this];exact ok
 ·exact Tb.sameX s hP e (h.1 u hu)
abbrev iN (ds:Za4):List Int:=ds.map λn:Nat=>(n:Int)
def Cb (ds:Za4):List Int:=Dn (iN ds) (Bq ds.length)
theorem Kq (ds:Za4):nV ds=(iN ds).map V.int:=by unfold nV iN;rw[gx];rfl
theorem Cq (ds:Za4):(Cb ds).length=ds.length:=by
 unfold Cb Dn Bq;rw[da,Dc,yv,da,da,d6,AV]
theorem T8 (ds:Za4):(Cb ds).Perm (Bq ds.length):=by
 have h:=(C0 (lt:=ltI) ((iN ds).zip (Bq ds.length))).map (·.2);have e:((iN ds).zip (Bq ds.length)).map (·.2)=Bq ds.length:=by
  rw[List.map_snd_zip];unfold Bq;rw[da,da,d6];exact dh _
 rw[e] at h;exact h
theorem S9 (n:Nat):(Bq n).Nodup:=by
 unfold Bq;exact FR _ (λa b h e=>h (by lia)) List.nodup_range
theorem Y0 {x:Int}(h:x∈Bq n):0<=x/\x.toNat<n:=by
 unfold Bq at h;obtain⟨j,hj,rfl⟩:=fz.mp h;have:=gz.mp hj;exact⟨by lia,by lia⟩
theorem Mt {ds:Za4}{x:Int}(h:x∈Cb ds):0<=x/\x.toNat<ds.length:=Y0 ((T8 ds).mem_iff.mp h)
theorem Q7 (ds:Za4):(Cb ds).Nodup:=(T8 ds).nodup_iff.mpr (S9 _)
theorem eM {α β γ:Type}(f:γ->α)(g:γ->β):∀l:List γ,(l.map f).zip (l.map g)=l.map λx=>(f x,g x)
 |[]=>rfl
 |x::l=>by rw[ft,ft,ft,List.zip_cons_cons,eM f g l]
theorem W3 (ds:Za4):iN ds=(d7 ds.length).map λj:Nat=>(dAt ds j:Int):=by
 refine yf (by simp[iN]) λi h1 h2=>?_;have hi:i<ds.length:=by simpa [iN] using h1
 rw[ul,ul,CA];unfold dAt gr;rw[df hi];rfl
theorem Wy {ds:Za4}(h:Dok ds):Cb ds=(lvo ds ds.length ds.length).map λj:Nat=>(j:Int):=by
 unfold Cb Dn;have e:(iN ds).zip (Bq ds.length)=(d7 ds.length).map λj:Nat=>((dAt ds j:Int),(j:Int)):=by
  rw[W3];exact eM _ _ _
 rw[e,show(ltI:Int×Int->Int×Int->Bool)=ltZ from rfl,Mu h ds.length (dh _),gx];rfl
def yR (xs:List V)(k:Nat):Prop:=∃n:Nat,xs[k]?=some (.int n)/\n<xs.length/\∀j,j<k->xs[j]?≠some (.int n)
def fC (xs:List V):Prop:=∀j,j<xs.length->yR xs j
def Met (xs:List V)(k:Nat)(ms:Za5):Prop:=ms.length=xs.length/\∀(i:Nat) b,ms[i]?=some b->(b=true↔∃j,j<k/\xs[j]?=some (.int i))
theorem oI (xs:List V):Met xs 0 (dv xs.length false):=by
 refine⟨gy,λi b h=>?_⟩;rw[qk] at h;split at h
 ·cases h
  exact⟨λz=>by(cases z),λ⟨j,hj,_⟩=>absurd hj (zc _)⟩
 ·cases h
theorem pN {k:Nat}{ms:Za5}(h:Met xs k ms)(hk:xs[k]?=some (.int n)):Met xs (k+1) (ms.set n true):=by
 refine⟨by rw[my];exact h.1,λi b hb=>?_⟩;rw[ud] at hb
 by_cases e:n=i
 ·rw[if_pos e] at hb
  split at hb
  ·cases hb
   exact⟨λ_=>⟨k,uw _,by rw[hk,e]⟩,λ_=>rfl⟩
  ·cases hb
 ·rw[if_neg e] at hb
  rw[h.2 i b hb]
  constructor
  ·rintro⟨j,hj,hx⟩
   exact⟨j,by lia,hx⟩
  ·rintro⟨j,hj,hx⟩
   rcases CU (Nat.le_of_lt_succ hj) with h1|h1
   ·exact⟨j,h1,hx⟩
   ·rw[h1,hk] at hx
    have:=V.int.inj (dr hx);lia
theorem lZ (ms:Za5)(n:Nat)(b:Bool):(ms.map V.bl).set n (.bl b)=(ms.set n b).map V.bl:=by rw[uy]
theorem jX (n:Nat):(dv n [V.bl false]).flatten=(dv n false).map V.bl:=by
 induction n with
 |zero=>rfl
 |succ n ih=>rw[im,gd,ih,im];rfl
theorem uG {ms:Za5}{i:Nat}{b:Bool}(h:ms[i]?=some b):(ms.map V.bl)[i]?=some (.bl b):=by
 rw[du,h];rfl
def gB (ms:Za4)(g:Nat):Nat:=(ms.take g).sum+g
theorem Hi (m:Nat)(r:Za4):grB (m::r)=(dv m true++[false])++grB r:=rfl
theorem Th:∀ns:Za4,(grB ns).count true=ns.sum
 |[]=>rfl
 |n::r=>by
  rw[Hi,ow,ow,Th r,zr];simp
theorem Xj:∀{ms:Za4} {g m x:Nat},ms[g]?=some m->x<=m->(grB ms).take (gB ms g+x)=grB (ms.take g)++dv x true
 |[],g,m,x,h,_=>by cases h
 |n::r,0,m,x,h,hx=>by
  obtain rfl:n=m:=dr h;rw[Hi,show gB (n::r) 0+x=x from ip x,dq,ik (by rw[gy];exact hx),List.take_replicate,iz hx];rfl
 |n::r,g+1,m,x,h,hx=>by
  have ih:=Xj (ms:=r) (g:=g) h hx;have e:gB (n::r) (g+1)+x=(dv n true++[false]).length+(gB r g+x):=by
   unfold gB;rw[ky,om,di,gy];simp;lia
  rw[Hi,e,List.take_length_add_append,ih,ky,Hi];simp only[dq]
theorem Xx:∀{ms:Za4} {g m:Nat},ms[g]?=some m->(grB ms)[gB ms g+m]?=some false
 |[],g,m,h=>by cases h
 |n::r,0,m,h=>by
  obtain rfl:n=m:=dr h;rw[Hi,show gB (n::r) 0+n=n from ip n,dq,d8 (by rw[gy];exact dh _),gy,jd];rfl
 |n::r,g+1,m,h=>by
  have ih:=Xx (ms:=r) (g:=g) h;have e:gB (n::r) (g+1)+m=(dv n true++[false]).length+(gB r g+m):=by
   unfold gB;rw[ky,om,di,gy];simp;lia
  rw[Hi,e,d8 (iq _ _),gi];exact ih
theorem yE {ms:Za4}{g m x:Nat}(h:ms[g]?=some m)(hx:x<=m):((grB ms).take (gB ms g+x)).count true=(ms.take g).sum+x:=by
 rw[Xj h hx,ow,Th,zr]
theorem wO {ms:Za4}{g m x:Nat}(h:ms[g]?=some m)(hx:x<=m):(occ false (grB ms) (gB ms g+x)).length=g:=by
 have h1:=(Vc (grB ms) (gB ms g+x)).2;have h2:cnt (grB ms) (gB ms g+x)=(ms.take g).sum+x:=yE h hx;rw[h2] at h1;unfold gB at *;lia
theorem qI {ms:Za4}{g m:Nat}(h:ms[g]?=some m):(occ false (grB ms) (grB ms).length)[g]?=some (gB ms g+m)/\gB ms g+m<(grB ms).length/\(grB ms).getD (gB ms g+m) false=false:=by
 have hz:=Xx h;have hlt:=Fc hz;have hd:(grB ms).getD (gB ms g+m) false=false:=by unfold gr;rw[hz];rfl
 have ho:=wO h (dh m);refine⟨?_,hlt,hd⟩;have e:occ false (grB ms) (gB ms g+m+1)=occ false (grB ms) (gB ms g+m)++[gB ms g+m]:=by
  rw[Nn,hd];rfl
 rw[Vg (n:=gB ms g+m+1) (by lia) (by rw[e,di,ho];exact uw _),e,d8 (by rw[ho];exact dh _),ho,jd];rfl
theorem E3 {x:dk}{o o':HO}(hx:H1 x=none)(hd:H1 dx=none):Am H1 (upd (upd H1 dx o) x o'):=λb u e=>by rw[Ai (Aj e hx),Ai (Aj e hd)];exact e
theorem Tbs.keepN {ts:List Tb}{p:dk}{o o':HO}(h:Tbs ts H)(hp:H p=some o')(nt:∀ps,o'≠.tbl ps:=by intro ps e;cases e)(nf:∀a b,o'≠.frz a b:=by intro a b e;cases e):Tbs ts (upd H p o):=by
 refine⟨λt ht=>?_,h.2⟩;obtain⟨ps,e1,e2,e3⟩:=h.1 t ht;exact⟨ps,by rw[Ai (λz=>by rw[z,hp] at e1;exact nt _ (dr e1))];exact e1,e2,e3.imp id λ⟨c,oc,a1,a2,a3⟩=>⟨c,oc,a1,by rw[Ai (λz=>by rw[z,hp] at a2;exact nf _ _ (dr a2))];exact a2,a3⟩⟩
structure SmB (ts:List Tb) (x:dk) (H H':Hp):Prop where
 keep:∀b u,b≠x->(∀ps,u≠.tbl ps)->H b=some u->H' b=some u
 tb:∀b ps,H b=some (.tbl ps)->∃ps',H' b=some (.tbl ps')
 ok:Tbs ts H'
theorem SmB.k {ts:List Tb}{x:dk}(s:SmB ts x H H'){b:dk}{u:HO}(h:H b=some u)(ne:b≠x)(n:∀ps,u≠.tbl ps:=by intro ps e;cases e):H' b=some u:=s.keep _ _ ne n h
theorem SmB.refl {ts:List Tb}{x:dk}(h:Tbs ts H):SmB ts x H H:=⟨λ_ _ _ _ e=>e,λ_ ps e=>⟨ps,e⟩,h⟩
theorem SmB.trans {ts:List Tb}{x:dk}(a:SmB ts x H H1)(b:SmB ts x H1 H2):SmB ts x H H2:=⟨λc u n1 n2 e=>b.keep c u n1 n2 (a.keep c u n1 n2 e),λc ps e=>let ⟨ps',e'⟩:=a.tb c ps e;b.tb c ps' e',b.ok⟩
theorem SmB.sm {ts:List Tb}{x:dk}(a:SmB ts x H H1)(b:SmT ts H1 H2):SmB ts x H H2:=a.trans ⟨λc u _ n e=>b.sm.keep c u n e,b.sm.tb,b.ok⟩
theorem SmB.then {ts:List Tb}{x:dk}(a:SmB ts x H H1)(b:Am H1 H2):SmB ts x H H2:=a.sm (.of a.ok b)
theorem SmB.put {ts:List Tb}{x:dk}{o o':HO}(a:SmB ts x H H1)(hx:H1 x=some o)(nt:∀ps,o≠.tbl ps:=by intro ps e;cases e)(nf:∀a b,o≠.frz a b:=by intro a b e;cases e):SmB ts x H (upd H1 x o'):=by
 refine a.trans ⟨λb u n _ e=>by rw[Ai n];exact e,λb ps e=>⟨ps,?_⟩,a.ok.keepN hx nt nf⟩;rw[Ai (λz=>by rw[z,hx] at e;exact nt _ (dr e))];exact e
theorem Gp {K:de}{ts:List Tb}{x:dk}{H0:Hp}{fs:List (Str×V)}{f:Str}{R:Hp->Prop}(h:H x=some (.ins C dx fs))(c:Cls K C)(n:Bh K C f)(l:fs.length<1000)(b:SmB ts x H0 H)(q:∀H',H' x=some (.ins C dx (Ft f y fs))->SmB ts x H0 H'->SmB ts x H H'->R H') :
  ∃a' C' dx' fs',V.ref x=.ref a'/\H a'=some (.ins C' dx' fs')/\Cls K C'/\Bh K C' f/\fs'.length<1000/\R (upd H a' (.ins C' dx' (Ft f y fs'))):=
 ⟨x,C,dx,fs,rfl,h,c,n,l,q _ Ac (b.put h) ((SmB.refl b.ok).put h)⟩
theorem SmB.made {ts:List Tb}{x:dk}(hx:H x=none)(hdx:H dx=none)(s:SmB ts x (upd (upd H dx (.own x)) x (.ins C dx [])) H'):SmT ts H H':=by
 have kp:∀b u,H b=some u->b≠x/\upd (upd H dx (.own x)) x (.ins C dx []) b=some u:=λb u e=>by
  have e1:b≠x:=Aj e hx;have e2:b≠dx:=Aj e hdx;exact⟨e1,by rw[Ai e1,Ai e2];exact e⟩
 exact⟨⟨λb u n e=>s.keep b u (kp b u e).1 n (kp b u e).2,λb ps e=>s.tb b ps (kp b _ e).2⟩,s.ok⟩
theorem SmB.free {ts:List Tb}{x d:dk}{o:HO}(s:SmB ts x H H')(hx:H' x=some o)(e:H' d=none):H d=none:=by
 cases q:H d with
 |none=>rfl
 |some u=>
  by_cases hu:∃ps,u=.tbl ps
  ·obtain⟨ps,rfl⟩:=hu
   obtain⟨ps',e2⟩:=s.tb d ps q;rw[e2] at e;cases e
  ·by_cases hdx:d=x
   ·rw[hdx,hx] at e;cases e
   ·rw[s.keep d u hdx (λps z=>hu ⟨ps,z⟩) q] at e;cases e
theorem wE {K:de}{Q:VK}{p:dk}(hs:SqL K H p (ns.map V.int))(q:∀m:Int,(ns=[]->m=-1)->(ns≠[]->Ih ns m)->Q (.int m) H):uZ K [.ref p] [.int (-1)] H Q:=
 ⟨p,ns,_,rfl,rfl,hs,λh=>q (-1) (λ_=>rfl) (λn=>absurd h n),λm hm=>q m (λh=>by rw[h] at hm;cases hm.1) (λ_=>hm)⟩
theorem SmB.new {ts:List Tb}{x d:dk}(a:SmB ts x H H1)(b:SmB ts d H1 H2)(hd:H d=none):SmB ts x H H2:=
 ⟨λc u n1 n2 e=>b.keep c u (Aj e hd) n2 (a.keep c u n1 n2 e),λc ps e=>let ⟨ps',e'⟩:=a.tb c ps e;b.tb c ps' e',b.ok⟩
theorem SmB.kp {ts:List Tb}{x b:dk}{o:HO}(s:SmB ts x H H')(hx:H x=some o)(hb:b≠x)(no:∀xs,o≠.tup xs:=by intro xs e;cases e):∀c u,(∀ps,u≠.tbl ps)->(c=b\/∃xs,u=.tup xs)->H c=some u->H' c=some u:=λc u n h e=>by
 refine s.keep c u (λz=>?_) n e;rcases h with h|⟨xs,h⟩
 ·exact hb (h▸z)
 ·rw[z,hx,h] at e
  exact no _ (dr e)
theorem SmT.kp {ts:List Tb}{b:dk}(s:SmT ts H H'):∀c u,(∀ps,u≠.tbl ps)->(c=b\/∃xs,u=.tup xs)->H c=some u->H' c=some u:=λc u n _ e=>s.sm.keep c u n e
theorem iW (ds:Za4):fC ((Cb ds).map V.int):=λj hj=>by
 rw[da,Cq] at hj;have hj2:j<(Cb ds).length:=by rw[Cq];exact hj
 have hm:=Mt (ye hj2);have e:(Cb ds)[j]?=some (Cb ds)[j]:=df hj2;generalize (Cb ds)[j]=x at hm e;obtain⟨n,rfl⟩:∃n:Nat,x=(n:Int):=⟨x.toNat,by lia⟩;refine⟨n,Pz e,by rw[da,Cq];lia,λi hi he=>?_⟩;obtain⟨y,hy,hz⟩:=Jy he;rw[<-V.int.inj hz] at hy;have:=ph.mp (Q7 ds) i j (by lia) hj2 hi;rw[df (show i<(Cb ds).length by lia)] at hy;rw[df hj2] at e;exact this ((dr hy).trans (dr e).symm)
theorem tM {ds:Za4}(h:Dok ds):(Ba ds ds.length (-1)).length::(Cb ds).map (λv=>(Ba ds ds.length v).length)=gsL ds:=by
 unfold gsL;rw[Wy h,gx];rfl
theorem lO {ds:Za4}(h:Dok ds)(k:Nat):pre (gsL ds) k<=ds.length:=(Fl h).2▸mY (gsL ds) k
theorem rB {ds:Za4}(h:Dok ds){k:Nat}(hk:k<ds.length):k<pre (gsL ds) (k+1):=by
 have h1:k+1<1+((gsL ds).take (k+1)).sum:=(lC h).at (k+1) (by rw[(Fl h).1];lia);show k<((gsL ds).take (k+1)).sum;lia
theorem rP {ns:Za4}{g:Nat}(hg:g<ns.length):(occ false (grB ns) (grB ns).length)[g]?=some (pre ns (g+1)+g):=by
 have h:=(qI (df hg)).1;rw[h];congr 1;unfold gB;rw[Nv hg];unfold pre;lia
def Nl (ds:Za4):Za4:=(d7 (mx ds ds.length)).map λd=>(lev ds ds.length d).length
def IsW (ds:Za4)(w:V):Prop:=(ds.length=0/\w=.non)\/∃(j x:Nat),0<ds.length/\w=.int j/\(Nl ds)[j]?=some x/\(∀y∈Nl ds,y<=x)/\∀i,i<j->(Nl ds)[i]?≠some x
theorem lB (ds:Za4):(d7 ds.length).map (dAt ds)=ds:=by
 apply j2;intro i;rw[du]
 by_cases h:i<ds.length
 ·rw[gl h,df h]
  show some (dAt ds i)=_;unfold dAt gr;rw[df h];rfl
 ·rw[f8 (by rw[d6];lia),f8 (by lia)]
  rfl
theorem fL (ds:Za4)(d:Nat):ds.count d=(lev ds ds.length d).length:=by
 have e:=congrArg (List.count d) (lB ds);rw[<-e,BF,List.countP_map,yw];unfold lev;congr 1
theorem uN {ds:Za4}{x:Nat}:∀k,(∀j,j<k->dAt ds j<=x)->mx ds k<=x+1
 |0,_=>f7 _
 |k+1,h=>by
  have h1:=uN k λj hj=>h j (by lia);have h2:=h k (by lia);show max (mx ds k) (dAt ds k+1)<=x+1;lia
theorem lE {ds:Za4}{x:Nat}(hx:x∈ds)(h:∀y∈ds,y<=x):mx ds ds.length=x+1:=by
 obtain⟨j,hj,e⟩:=BR hx;have e1:dAt ds j=x:=by unfold dAt gr;rw[df hj];exact e
 have h1:=Tz ds ds.length j hj;have h2:=uN (ds:=ds) (x:=x) ds.length λi hi=>by
  refine h _ ?_;unfold dAt gr;rw[df hi];exact ye hi
 lia
theorem dL {ds:Za4}(h:Dok ds){m:Int}(h0:iN ds=[]->m=-1)(h1:iN ds≠[]->Ih (iN ds) m):m+1=(mx ds ds.length:Nat):=by
 cases ds with
 |nil=>rw[h0 rfl];rfl
 |cons d r=>
  obtain⟨a,b⟩:=h1 (by simp);obtain⟨n,hn,rfl⟩:=fz.mp a;rw[lE hn λy hy=>?_]
  ·rfl
  ·have:=b (y:Int) (fz.mpr ⟨y,hy,rfl⟩)
   lia
inductive fJ (K:de)(ts:List Tb)(vs:List V)(H:Hp)(Q:VK)(E:XK):Prop|mk(a:dk)(ns:List Int)(_:vs=[.ref a])(_:SqL K H a (ns.map V.int))(_:ns.length<=63)(_:Tbs ts H)(_:∀H',Q (.bl true) H')
abbrev tz:List Tb:=[⟨375,Fb,"Counts.block_with.<locals>.<lambda>"⟩,⟨486,Jh,"level_order.<locals>.<lambda>"⟩,⟨859,Ll,"_law_order.<locals>.<lambda>"⟩]
abbrev AllMk:Prop:=∀{l:xt} {w:gp} {K:de} {h:i8} {mg:Za2} {fa:dk} (X:K.In h) (G:h.Ns mainGlobals mg) (hfa:mg "law"=some (.ref fa))
  {ae:dk}
  {ab:dk}
  {ah:dk}
  {aa:dk}
  {f21:dk} {od21 an21:Option dk} {sl21:Array (Za7)} {oc21 kV21 dc21 pm21 ct21:d3}
  {oo21:Obj}
  {f28:dk} {od28 an28:Option dk} {sl28:Array (Za7)} {oc28 kV28 dc28 pm28 cd28 ct28:d3}
  {T28:dk} {oT28:Obj} {vT28:d3} {nT28:Nat}
  {f31:dk} {od31 an31:Option dk} {sl31:Array (Za7)} {oc31 kV31 dc31 pm31 ct31:d3}
  {oo31:Obj}
  {f53:dk} {od53 an53:Option dk} {sl53:Array (Za7)} {oc53 kV53 dc53 pm53 ct53:d3}
  {oo53:Obj}
  {ak:dk} {o_ONES_OF_FOUR:Obj} {i_ONES_OF_FOUR:Array d3} {n_ONES_OF_FOUR:Nat}
  {t_WORD_BITS:Tok}
  {t_MOST_BITS:Tok}
  {t_BLOCK_WORDS:Tok}
  {t_BLOCK_BITS:Tok}
  {t_FULL_WORD:Tok}
  {t_MOST_KNOTS:Tok}
  {t_MARK_STEP:Tok}
  (cd_Bits:CD K ae "Bits")
  (fd_Bits:FD K ae ["length","many_ones","kept_words"])
  (cd_Counts:CD K ab "Counts")
  (fd_Counts:FD K ab ["length","kept_words","kept_table"])
  (cd_Shortcuts:CD K ah "Shortcuts")
  (fd_Shortcuts:FD K ah ["onward","leaps"])
  (cd_Levelled:CD K aa "Levelled")
  (fd_Levelled:FD K aa ["knots","bits","counts","places","begins","level_count","widest_level","leaps"])
  (g0:GD K "is_whole" Lw)
  (g1:GD K "is_within" Kj)
  (g2:GD K "check_bit" J6)
  (g3:GD K "check_place" G3)
  (g4:GD K "check_from_nought" Ec)
  (g5:GD K "check_knot" Il)
  (g6:GD K "ones_in" Nx)
  (g7:GD K "nth_of_four" Fk)
  (g8:GD K "nth_one" Oo)
  (g9:GD K "is_row" R8)
  (g10:GD K "word_of" Oi)
  (g11:GD K "words_of" Iq)
  (g12:MD K ae "__init__" "Bits.__init__" Js)
  (g13:MD K ae "size" "Bits.size" Ko)
  (g14:MD K ae "words" "Bits.words" Id)
  (g15:GD K "first_that" Ig)
  (g16:GD K "running_sums" Gf)
  (g17:GD K "table_of_words" Cp)
  (g18:MD K ab "__init__" "Counts.__init__" G7)
  (g19:MD K ab "ahead_of_block" "Counts.ahead_of_block" Co)
  (g20:MD K ab "many_like" "Counts.many_like" El)
  (i21:uh K (.ref f21)=true)
  (a21:j1 K (.ref ab) "block_with"=some (some (.ref f21))) (l21:K.lookup f21=some ⟨oc21,od21,.func (i9 "block_with" "Counts.block_with" (Br Bb) (Bg Bb) (Af Bb) .none kV21 dc21 pm21 an21 (.ref 379) ct21),sl21⟩) (c21:km K (.ref 379) "Counts.block_with"=true) (k21:jt K (.ref f21)=true)
  (lc21:K.lookup 379=some oo21) (hc21:Ir oo21 379 375)
  (g22:MD K ab "place_from" "Counts.place_from" D4)
  (g23:MD K ab "place_of" "Counts.place_of" E5)
  (g24:GD K "begins_of" Gr)
  (g25:GD K "check_order" G6)
  (g26:GD K "rounds_of" Jq)
  (g27:GD K "shortcuts_of" Gh)
  (i28:uh K (.ref f28)=true)
  (a28:j1 K (.ref ah) "__init__"=some (some (.ref f28))) (l28:K.lookup f28=some ⟨oc28,od28,.func (i9 "__init__" "Shortcuts.__init__" (Br Bt) (Bg Bt) (Af Bt) (.ref T28) kV28 dc28 pm28 an28 cd28 ct28),sl28⟩) (c28:km K cd28 "Shortcuts.__init__"=true) (k28:jt K (.ref f28)=true)
  (lT28:K.lookup T28=some oT28) (dT28:oT28.data=.seq #[vT28] nT28)
  (eT28:A5 (.int 16) vT28)
  (g29:GD K "look_at" On)
  (g30:GD K "depths_of" J5)
  (a31:ic K mainGlobals "level_order"=some (some (.ref f31))) (l31:K.lookup f31=some ⟨oc31,od31,.func (i9 "level_order" "level_order" (Br Dd) (Bg Dd) (Af Dd) .none kV31 dc31 pm31 an31 (.ref 490) ct31),sl31⟩) (c31:km K (.ref 490) "level_order"=true) (k31:jt K (.ref f31)=true)
  (lc31:K.lookup 490=some oo31) (hc31:Ir oo31 490 486)
  (g32:GD K "children_counted" Ei)
  (g33:GD K "counted_row" Fn)
  (g34:GD K "thin_rest" Kr)
  (g35:GD K "level_row" Gx)
  (g36:GD K "widest_of" Ka)
  (g37:MD K aa "down" "Levelled.down" F0)
  (g38:MD K aa "far_down" "Levelled.far_down" D8)
  (g39:MD K aa "left_below" "Levelled.left_below" Dh)
  (g40:MD K aa "mark_leaps" "Levelled.mark_leaps" Di)
  (g41:MD K aa "__init__" "Levelled.__init__" F1)
  (g42:MD K aa "level" "Levelled.level" Fh)
  (g43:MD K aa "level_of" "Levelled.level_of" D9)
  (g44:MD K aa "levels" "Levelled.levels" Es)
  (g45:MD K aa "widest" "Levelled.widest" E7)
  (g46:GD K "_law_cell_at" Ha)
  (g47:GD K "_law_twice" Jt)
  (g48:GD K "_law_grown" Kl)
  (g49:GD K "_law_drawn" J1)
  (g50:GD K "_law_repeated" E4)
  (g51:GD K "_law_wood" Lp)
  (g52:GD K "_law_plain" Gw)
  (a53:ic K mainGlobals "_law_order"=some (some (.ref f53))) (l53:K.lookup f53=some ⟨oc53,od53,.func (i9 "_law_order" "_law_order" (Br Eo) (Bg Eo) (Af Eo) .none kV53 dc53 pm53 an53 (.ref 863) ct53),sl53⟩) (c53:km K (.ref 863) "_law_order"=true) (k53:jt K (.ref f53)=true)
  (lc53:K.lookup 863=some oo53) (hc53:Ir oo53 863 859)
  (g54:GD K "_law_numbers" G8)
  (g55:GD K "_law_is" P8)
  (g56:GD K "_law_some" Ja)
  (g57:GD K "_law_stretch" G4)
  (g58:GD K "_law_pair" L5)
  (g59:GD K "_law_level_right" Dk)
  (g60:GD K "_law_chain" Ju)
  (g61:GD K "_law_deep" Jd)
  (g62:GD K "_law_all_right" C7)
  (g63:GD K "law" Ul)
  (bX:ic K mainGlobals "ONES_OF_FOUR"=some (some (.ref ak))) (o1_ONES_OF_FOUR:K.lookup ak=some o_ONES_OF_FOUR) (o2_ONES_OF_FOUR:o_ONES_OF_FOUR.cls=.type "tuple") (o3_ONES_OF_FOUR:o_ONES_OF_FOUR.data=.seq i_ONES_OF_FOUR n_ONES_OF_FOUR) (o4_ONES_OF_FOUR:i_ONES_OF_FOUR.size<=sizeLine) (o5_ONES_OF_FOUR:Au (Ua.map λn:Nat=>V.int n) i_ONES_OF_FOUR.toList)
  (bU:ic K mainGlobals "WORD_BITS"=some (some (.int 32 t_WORD_BITS)))
  (ce:ic K mainGlobals "MOST_BITS"=some (some (.int 20000 t_MOST_BITS)))
  (bT:ic K mainGlobals "BLOCK_WORDS"=some (some (.int 8 t_BLOCK_WORDS)))
  (bZ:ic K mainGlobals "BLOCK_BITS"=some (some (.int 256 t_BLOCK_BITS)))
  (bY:ic K mainGlobals "FULL_WORD"=some (some (.int 4294967295 t_FULL_WORD)))
  (cf:ic K mainGlobals "MOST_KNOTS"=some (some (.int 4000 t_MOST_KNOTS)))
  (bO:ic K mainGlobals "MARK_STEP"=some (some (.int 16 t_MARK_STEP)))
  (z_range:ic K mainGlobals "range"=some none)
  (z_len:ic K mainGlobals "len"=some none)
  (z_int:ic K mainGlobals "int"=some none)
  (z_bool:ic K mainGlobals "bool"=some none)
  (z_str:ic K mainGlobals "str"=some none)
  (z_isinstance:ic K mainGlobals "isinstance"=some none)
  (z_list:ic K mainGlobals "list"=some none)
  (z_tuple:ic K mainGlobals "tuple"=some none)
  (z_dict:ic K mainGlobals "dict"=some none)
  (z_enumerate:ic K mainGlobals "enumerate"=some none)
  (z_zip:ic K mainGlobals "zip"=some none)
  (z_sum:ic K mainGlobals "sum"=some none)
  (z_abs:ic K mainGlobals "abs"=some none)
  (z_max:ic K mainGlobals "max"=some none)
  (z_min:ic K mainGlobals "min"=some none)
  (z_sorted:ic K mainGlobals "sorted"=some none)
  (z_reversed:ic K mainGlobals "reversed"=some none),
   ∃fd:jk,(∀(s:d4) (v:d3),AL s fd ⟨[v],[]⟩ [("_law_script",v)])/\∀base:i8,K.In base->base.Ns mainGlobals mg->(∀q∈([(379,375),(490,486),(863,859)]:List (dk×dk)),base.BuiltinsAt mg q.2)->Av l.prog w K mg base CX0 12 fa fd ["_law_script"] (fJ K tz)
theorem walk {l:xt}{q:fh}{loose:Za6}{XP:(Za2)->i8->Prop}{YP:gp->i8->Prop}{d:HS}{K:zp->de}(hn:l.most=some 63)(hdf:d.params.defaults=[])
  (hY:∀(w:gp) (h:i8),YP w h->(K w.params).In h)(hTb:∀(w:gp) (h:i8),YP w h->yp [(379,375),(490,486),(863,859)] h)(hTK:∀w:gp,∀p∈([(379,375),(490,486),(863,859)]:List (dk×dk)),(K w.params).lookup p.2=none)
  (F:∀(w:gp) (mg:Za2) (fa:dk) (h:i8),(K w.params).In h->h.Ns mainGlobals mg->mg d.name=some (.ref fa) ->
   ∃fd:jk,(∀(s:d4) (u:d3),AL s fd ⟨[u],[]⟩ [("_law_script",u)])/\∀base:i8,(K w.params).In base->base.Ns mainGlobals mg->(∀q∈([(379,375),(490,486),(863,859)]:List (dk×dk)),base.BuiltinsAt mg q.2)->Av l.prog w (K w.params) mg base CX0 12 fa fd ["_law_script"] (fJ (K w.params) tz)) :
  DD q loose XP YP l.row.toRowW d [] (λf vs=>BL f vs):=
 L2.gQ (n:=63) (k:=12) (x:="_law_script") (tabs:=[(379,375),(490,486),(863,859)]) (CX:=λ_=>CX0) (sp:=λw=>(fJ (K w.params) tz)) hn (by decide) hdf ⟨rfl,by decide,by decide⟩ hY hTb hTK F (λ_ _ a ns hl hO hS=>⟨a,ns,rfl,hS,hl,⟨jx.mpr ⟨⟨#[],hO (379,375) (by simp),trivial,.inl rfl⟩,jx.mpr ⟨⟨#[],hO (490,486) (by simp),trivial,.inl rfl⟩,jx.mpr ⟨⟨#[],hO (863,859) (by simp),trivial,.inl rfl⟩,λ_ h=>nomatch h⟩⟩⟩,by decide⟩,λ_=>rfl⟩) λ_ _ _ _ _ z=>z
end TK
end
section
noncomputable def PySem.W.Fast.tw11759198461848391846:EB:=gw
theorem PySem.W.Fast.te11759198461848391846:gw=PySem.W.Fast.tw11759198461848391846:=rfl
def HD.loose:List CQ:=[dn "_wall",dn "WoodError",dn "NoBits",dn "NoPlace",dn "NoWood",dn "NoKnot",dn "NoOrder",dn "is_whole",dn "is_within",dn "check_bit",dn "check_place",dn "check_stretch",dn "check_from_nought",dn "check_knot",dn "WORD_BITS",dn "FULL_WORD",dn "ONES_OF_FOUR",dn "ones_in",dn "nth_of_four",dn "nth_one",dn "MOST_BITS",dn "SIGNS_OF_FOUR",dn "is_row",dn "word_of",dn "words_of",dn "signs_of",dn "Bits",dn "BLOCK_WORDS",dn "BLOCK_BITS",dn "first_that",dn "running_sums",dn "table_of_words",dn "Counts",dn "begins_of",dn "check_order",dn "rounds_of",dn "shortcuts_of",dn "Shortcuts",dn "MOST_KNOTS",dn "MARK_STEP",dn "look_at",dn "depths_of",dn "level_order",dn "children_counted",dn "counted_row",dn "thin_rest",dn "Wood",dn "level_row",dn "widest_of",dn "Levelled",dn "_law_cell_at",dn "_law_twice",dn "_law_grown",dn "_law_drawn",dn "_law_repeated",dn "_law_wood",dn "_law_plain",dn "_law_order",dn "_law_numbers",dn "_law_is",dn "_law_some",dn "_law_stretch",dn "_law_pair",dn "_law_level_right",dn "_law_chain",dn "_law_deep",dn "_law_all_right"]
def HD.LD:PySem.DefRec:=HD.recOf (gw.main.body.getD 76 (.Pass ⟨0,0,0,0⟩))
def HD.VQ:EB:=PySem.W.view gw [76]
theorem HD.A_ok (w:EY):(λos=>HD.oneA (HD.bootT w os) (PySem.W.boot_heap w.params) HD.bootSize gw 100000 w)=(λ_=>some true):=by rw[HD.oneA_eq];kernel_rfl
theorem HD.B_ok (w:EY):(λos=>HD.oneB (HD.bootT w os) HD.bootSize gw HD.VQ HD.loose 100000 w)=(λ_=>some (PySem.W.openGood HD.VQ HD.loose)):=by rw[HD.oneB_eq];kernel_rfl
local macro_rules | `(tactic| o_head $H)=>`(tactic| (refine PySem.W.holds_open (q:=HD.VQ) (loose:=HD.loose) (d:=HD.LD) (kwd:=[]) (Xt:=λ_=>true) (XP:=λ_ _=>True) (Yf:=zy $H) (Ya:=zx $H) (YP:=GG $H) (N:=100000) (HD.left_of3 (p:=gw) (q:=HD.VQ) (loose:=HD.loose) (Yf:=zy $H) (Ya:=zx $H) (N:=100000) (M:=100000) (by kernel_rfl) (λ_=>by kernel_rfl) (by kernel_rfl) (by kernel_rfl) HD.A_ok HD.B_ok (HD.hC_km (λw=>by rw [HD.oneP_eq];kernel_rfl))) (GH $H) (GI $H) (λ_ _=>trivial) (λ_ _ _ _ _=>trivial) (by kernel_rfl) (by kernel_rfl) (by kernel_rfl) (λ_ _=>PySem.W.recFacts_nil rfl) rfl (by assumption) (by decide +kernel) ⟨rfl,rfl,rfl,rfl,rfl,by decide +kernel⟩ ?_ ?_))
open PySem PySem.W PyProof.Rows
set_option maxRecDepth 100000 in
set_option maxHeartbeats 0 in
theorem TK.HEAD (AM:TK.AllMk):nu.Holds:=by
 w_on;o_law;k_head
 ·w_witness2
 k_fill
 refine TK.walk (l:=nu) rfl (by kernel_rfl) (λw h Y=>AR Y) (λw h Y=>jx.mpr ⟨⟨vt (c:=379) (P:=375) (AR Y) (by kernel_rfl),wc Y 375 (by simp)⟩,jx.mpr ⟨⟨vt (c:=490) (P:=486) (AR Y) (by kernel_rfl),wc Y 486 (by simp)⟩,jx.mpr ⟨⟨vt (c:=863) (P:=859) (AR Y) (by kernel_rfl),wc Y 859 (by simp)⟩,λ_ h=>nomatch h⟩⟩⟩) (λw=>jx.mpr ⟨by kernel_rfl,jx.mpr ⟨by kernel_rfl,jx.mpr ⟨by kernel_rfl,λ_ h=>nomatch h⟩⟩⟩) ?F
 case F=>
  intro w mg fa h KX G hmg;refine' AM KX G hmg ?cd_Bits ?fd_Bits ?cd_Counts ?fd_Counts ?cd_Shortcuts ?fd_Shortcuts ?cd_Levelled ?fd_Levelled ?g0 ?g1 ?g2 ?g3 ?g4 ?g5 ?g6 ?g7 ?g8 ?g9 ?g10 ?g11 ?g12 ?g13 ?g14 ?g15 ?g16 ?g17 ?g18 ?g19 ?g20 ?i21 ?a21 ?l21 ?c21 ?k21 ?lc21 ?hc21 ?g22 ?g23 ?g24 ?g25 ?g26 ?g27 ?i28 ?a28 ?l28 ?c28 ?k28 ?lT28 ?dT28 ?eT28 ?g29 ?g30 ?a31 ?l31 ?c31 ?k31 ?lc31 ?hc31 ?g32 ?g33 ?g34 ?g35 ?g36 ?g37 ?g38 ?g39 ?g40 ?g41 ?g42 ?g43 ?g44 ?g45 ?g46 ?g47 ?g48 ?g49 ?g50 ?g51 ?g52 ?a53 ?l53 ?c53 ?k53 ?lc53 ?hc53 ?g54 ?g55 ?g56 ?g57 ?g58 ?g59 ?g60 ?g61 ?g62 ?g63 ?bX ?o1_ONES_OF_FOUR ?o2_ONES_OF_FOUR ?o3_ONES_OF_FOUR ?o4_ONES_OF_FOUR ?o5_ONES_OF_FOUR ?bU ?ce ?bT ?bZ ?bY ?cf ?bO ?z_range ?z_len ?z_int ?z_bool ?z_str ?z_isinstance ?z_list ?z_tuple ?z_dict ?z_enumerate ?z_zip ?z_sum ?z_abs ?z_max ?z_min ?z_sorted ?z_reversed
  (case cd_Bits|cd_Counts|cd_Shortcuts|cd_Levelled=>refine' ⟨?_,?_,?_⟩<;>try k_is)
  (case fd_Bits|fd_Counts|fd_Shortcuts|fd_Levelled=>refine' L2.fD ?_ ?_ ?_ ?_ ?_<;>try first|k_is|kernel_rfl)
  (case g0|g1|g2|g3|g4|g5|g6|g7|g8|g9|g10|g11|g15|g16|g17|g24|g25|g26|g27|g29|g30|g32|g33|g34|g35|g36|g46|g47|g48|g49|g50|g51|g52|g54|g55|g56|g57|g58|g59|g60|g61|g62|g63=>refine' L2.gD ?_ ?_ ?_ ?_<;>try k_is)
  (case g12|g13|g14|g18|g19|g20|g22|g23|g37|g38|g39|g40|g41|g42|g43|g44|g45=>refine' L2.mD ?_ ?_ ?_ ?_ ?_<;>try k_is)
  (case bU|ce|bT|bZ|bY|cf|bO|z_range|z_len|z_int|z_bool|z_str|z_isinstance|z_list|z_tuple|z_dict|z_enumerate|z_zip|z_sum|z_abs|z_max|z_min|z_sorted|z_reversed|a21|l21|c21|k21|i21|lc21=>k_is)
  (case hc21=>exact⟨_,_,_,_,_,_,_,_,rfl,rfl,rfl,rfl,rfl,rfl,rfl,rfl,by decide⟩)
  (case a28|l28|c28|k28|i28|lT28=>k_is)
  (case dT28=>rfl)
  (case eT28=>exact⟨_,rfl⟩)
  (case a31|l31|c31|k31|lc31=>k_is)
  (case hc31=>exact⟨_,_,_,_,_,_,_,_,rfl,rfl,rfl,rfl,rfl,rfl,rfl,rfl,by decide⟩)
  (case a53|l53|c53|k53|lc53=>k_is)
  (case hc53=>exact⟨_,_,_,_,_,_,_,_,rfl,rfl,rfl,rfl,rfl,rfl,rfl,rfl,by decide⟩)
  (case bX|o1_ONES_OF_FOUR=>k_is)
  (case o2_ONES_OF_FOUR=>rfl);(case o3_ONES_OF_FOUR=>rfl);(case o4_ONES_OF_FOUR=>decide);(case o5_ONES_OF_FOUR=>repeat (first|exact .nil|refine .cons ⟨_,rfl⟩ ?_))
end
section
set_option hygiene false in
local macro_rules | `(tactic| exists $x)=>`(tactic| (refine $x (λvs H Q E h=>?_) (λcdv A outer s H vs Q E hr h=>?_);focus(first|(cases h;subst_vars;rfl)|(obtain⟨_,h⟩:=h;cases h;subst_vars;rfl)|((repeat obtain ⟨_,h⟩:=h)<;>(subst_vars;rfl)))))
open L2 in
local macro_rules | `(tactic| walk_at "rd")=>`(tactic| repeat (first | (with_reducible first|refine Aal ?_|refine wY ?_|refine zA ?_|refine sV ?_|refine Aax ?_|refine r_retN ?_|refine xB ?_|refine yT ?_|refine xC ?_|refine Ab8 ?_|refine zQ ?_|refine zX ?_|refine Abu ?_|refine zD ?_|refine r_notN ?_|refine Abk ?_|refine Aca ?_|refine Abh ?_|refine r_c ?_|refine tY ?_|refine yQ ?_|refine Abp ?_|refine Aae ?_|refine zE ?_|refine xP ?_|refine xY ?_|refine Abr ?_|refine zK ?_|refine Aay ?_|refine Ab0 ?_|refine zP ?_|refine Abv ?_|refine mZ ?_|refine xR ?_|refine Aac ?_|refine yB ?_|refine wX ?_|refine wH ?_|refine rL ?_|refine wC ?_|refine r_istr ?_|refine Ab9 ?_|refine Aak ?_|refine zV ?_|refine sJ ?_|refine wA ?_|refine r_orV ?_|refine yA ?_|refine Aas ?_|refine xO ?_|refine xF ?_|refine vJ ?_|refine Aa7 ?_|refine Abf ?_|refine vT ?_|refine qR ?_|refine Aar ?_|refine r_ienumS ?_|refine wV ?_|refine r_lzip ?_|refine r_revL ?_|refine r_lrev ?_|refine wG ?_|refine r_lrng3 ?_|refine wJ ?_|refine tG ?_|refine Aba ?_|refine qN ?_|refine yM ?_|refine wI ?_|refine yF ?_|refine xG ?_|refine vG ?_|refine wN ?_|refine Tx (by decide) ?_|refine tP (by decide) ?_|refine jW (by decide) (by decide) ?_|refine oP (by decide) (by decide) ?_|refine yH (by decide) (by decide) ?_|refine Aaf rfl ?_|refine zL rfl ?_|refine Abs ?_|refine Abq ?_|refine Aaq ?_|refine zT ?_) | refine Aat rfl ?_ | refine yV rfl ?_ | dsimp only))
namespace TK
open PySem L2 TW
variable {C CB CC CL Pt dx i1 i2 it l1 l2 z:dk} {params:l8} {A:ir} {op:vw} {X:Cx} {D:Go} {env:Env} {iter tg:ie} {fd:jk} {base h h':i8} {H H' H1 H2:Hp} {J:It} {pins:Za1} {fp:List dk} {kz ns:List Int} {l0:List fg} {cs ix:Za4} {N ps:Za6} {xs ys:List V} {us vs:Za3} {M:wo} {n t':Nat} {oT:Obj} {an od:Option dk} {lpos p pos pos2:Pos} {B:Prop} {scope:l6} {pl:Sem Bool} {s s2:d4} {sp:Sp} {qual:Str} {te:TE} {wi:TI} {y:V} {cdv ct doc oc pm:d3} {w:gp}
local macro_rules | `(tactic| k_is)=>`(tactic| walk_at "rd")
local macro_rules | `(tactic| apply $t)=>`(tactic| (k_is;refine $t))
structure Qd (K:de) (C:dk):Prop where
 cl:Cls K C
 cm:Bh K C "length"
 cF:Bh K C "many_ones"
 bR:Bh K C "kept_words"
structure Qb (K:de) (C:dk):Prop where
 cl:Cls K C
 cm:Bh K C "length"
 bR:Bh K C "kept_words"
 cn:Bh K C "kept_table"
structure Qc (K:de) (C:dk):Prop where
 cl:Cls K C
 cA:Bh K C "onward"
 bQ:Bh K C "leaps"
structure Qa (K:de) (C:dk):Prop where
 cl:Cls K C
 ci:Bh K C "knots"
 cB:Bh K C "bits"
 cy:Bh K C "counts"
 cH:Bh K C "places"
 cp:Bh K C "begins"
 ck:Bh K C "level_count"
 cz:Bh K C "widest_level"
 bQ:Bh K C "leaps"
structure Txt (P:fh) (w:gp) (base:i8) (ts:List Tb) (K:de) (mg:Za2) (ak:dk):Prop where
 bX:mg "ONES_OF_FOUR"=some (.ref ak)
 cu:∀H,SqT K H ak (Ua.map λn:Nat=>V.int n)
 bU:∃t,mg "WORD_BITS"=some (.int 32 t)
 ce:∃t,mg "MOST_BITS"=some (.int 20000 t)
 bT:∃t,mg "BLOCK_WORDS"=some (.int 8 t)
 bZ:∃t,mg "BLOCK_BITS"=some (.int 256 t)
 bY:∃t,mg "FULL_WORD"=some (.int 4294967295 t)
 cf:∃t,mg "MOST_KNOTS"=some (.int 4000 t)
 bO:∃t,mg "MARK_STEP"=some (.int 16 t)
 bN:mg "range"=none
 bM:mg "len"=none
 cr:mg "int"=none
 cD:mg "bool"=none
 n_str:mg "str"=none
 bV:mg "isinstance"=none
 bW:mg "list"=none
 cq:mg "tuple"=none
 cE:mg "dict"=none
 cx:mg "enumerate"=none
 cC:mg "zip"=none
 n_sum:mg "sum"=none
 n_abs:mg "abs"=none
 bP:mg "max"=none
 cj:mg "min"=none
 cw:mg "sorted"=none
 cG:mg "reversed"=none
section
variable {P:fh} {w:gp} {K:de} {mg:Za2} {base:i8} {ak:dk} {ae ab ah aa:dk} {f:dk} {fd:jk} {ts:List Tb}
inductive Xu(vs:List V)(H:Hp)(Q:VK)(E:XK):Prop|mk(i:Int)(_:vs=[.int i])(_:Q (.bl true) H)
variable (T:Txt P w base ts K mg ak)
include T in
theorem Y7 (F:Fun K "is_whole" "is_whole" Lw f fd):Av P w K mg base CX0 1 f fd ["thing"] Xu:=by
 exists F.ok Zg
 obtain⟨i,rfl,q⟩:=h;refine⟨_,(Ae (Ap (Q9 (Ak Dm (by rfl) T.bV C5 (tpa (pv 0) (tpa (Ii (v:=.ty "int") rfl T.cr eT rfl) Ab))) (Wq (mM (Ak Dm (by rfl) T.bV C5 (tpa (pv 0) (tpa (Ii (v:=.ty "bool") rfl T.cD pW rfl) Ab)))))))),?_⟩;apply⟨_,_,_,_,rfl,.int _,Ov,?_⟩;apply⟨_,_,_,_,rfl,.int _,No,?_⟩;k_is;exact q
inductive Ud(vs:List V)(H:Hp)(Q:VK)(E:XK):Prop|mk(x lo hi:Int)(_:vs=[.int x,.int lo,.int hi])(_:lo<=x)(_:x<=hi)(_:Q (.bl true) H)
variable (ap:Cal P w K mg base "is_whole" 1 ["thing"] Xu)
include T ap in
theorem U6 (F:Fun K "is_within" "is_within" Kj f fd):Av P w K mg base CX0 2 f fd ["thing","low","high"] Ud:=by
 exists F.ok Vl
 obtain⟨x,lo,hi,rfl,h1,h2,q⟩:=h;refine⟨_,(Ae (Ap (Q9 (Ar ap hr.m (tpa (pv 0) Ab)) (Wq (mO tW tW (pv 1) (pv 0) (pv 2)))))),?_⟩;apply⟨x,rfl,?_⟩;apply Cl (λ_=>?_) (λh=>absurd h1 h);k_is;rw[decide_eq_true h2];exact q
inductive mB(vs:List V)(H:Hp)(Q:VK)(E:XK):Prop|mk(b:Bool)(_:vs=[.int (b.toNat:Nat)])(_:Q .non H)
variable (am:Cal P w K mg base "is_within" 2 ["thing","low","high"] Ud)
include T am in
theorem Vk (F:Fun K "check_bit" "check_bit" J6 f fd):Av P w K mg base CX0 3 f fd ["bit"] mB:=by
 exists F.ok U5
 obtain⟨b,rfl,q⟩:=h;refine⟨_,(Ae (Bp (C1 (B8 (Ar am hr.m (tpa (pv 0) (tpa Ad (tpa Ad Ab)))))) (Ae Ew)
  As)),?_⟩
 apply⟨_,0,1,rfl,by lia,by cases b<;>decide,?_⟩
 k_is;exact q
inductive Yk(vs:List V)(H:Hp)(Q:VK)(E:XK):Prop|mk(n g:Int)(_:vs=[.int n,.int g])(_:0<=n)(_:n<=g)(_:Q .non H)
include T am in
theorem Rl (F:Fun K "check_place" "check_place" G3 f fd):Av P w K mg base CX0 3 f fd ["place","greatest"] Yk:=by
 exists F.ok Se
 obtain⟨n,g,rfl,h0,h1,q⟩:=h;refine⟨_,(Ae (Bp (C1 (B8 (Ar am hr.m (tpa (pv 0) (tpa Ad (tpa (pv 1) Ab)))))) (Ae Ew)
  As)),?_⟩
 apply⟨n,0,g,rfl,h0,h1,?_⟩;k_is;exact q
inductive T5(vs:List V)(H:Hp)(Q:VK)(E:XK):Prop|mk(n:Int)(_:vs=[.int n])(_:0<=n)(_:Q .non H)
include T ap in
theorem Jj (F:Fun K "check_from_nought" "check_from_nought" Ec f fd):Av P w K mg base CX0 2 f fd ["number"] T5:=by
 exists F.ok Jw
 obtain⟨n,rfl,h0,q⟩:=h;refine⟨_,(Ae (Bp (PW.pt (Oy (C1 (B8 (Ar ap hr.m (tpa (pv 0) Ab)))) (L7 (ttc Kp (pv 0) Ad)))) (Ae Ew)
  As)),?_⟩
 apply⟨n,rfl,?_⟩;k_is;rw[decide_eq_false (show ¬ n<0 by lia)];k_is;exact q
inductive gG(vs:List V)(H:Hp)(Q:VK)(E:XK):Prop|mk(n g:Int)(_:vs=[.int n,.int g])(_:0<=n)(_:n<g)(_:Q .non H)
include T am in
theorem Sz (F:Fun K "check_knot" "check_knot" Il f fd):Av P w K mg base CX0 3 f fd ["k","many_knots"] gG:=by
 exists F.ok Sw
 obtain⟨n,g,rfl,h0,h1,q⟩:=h;refine⟨_,(Ae (Bp (C1 (B8 (Ar am hr.m (tpa (pv 0) (tpa Ad (tpa (Ah Dl (pv 1) Ad) Ab)))))) (Ae Ew)
  As)),?_⟩
 apply⟨n,0,g-1,rfl,h0,by lia,?_⟩;k_is;exact q
inductive jP(vs:List V)(H:Hp)(Q:VK)(E:XK):Prop|mk(n:Nat)(_:vs=[.int n])(_:Q (.int (pc n)) H)
include T in
theorem cT (F:Fun K "ones_in" "ones_in" Nx f fd):Av P w K mg base CX0 1 f fd ["word"] jP:=by
 exists F.ok Ie
 obtain⟨n,rfl,q⟩:=h;refine⟨_,(Aa (tst 1 Ie.nd Ad) (Aa (Fw gh (ttc Lk (pv 0) Ad) (Aa (tau 1 Ie.nd (tix Do (Wf (v:=.ref _) rfl T.bX rfl) (Ah Ws (pv 0) Ad)) Lz) (Ae (tau 0 Ie.nd Ad fU)))) (Ae (Ap (pv 1))))),?_⟩
 apply Fx (λG H'=>∃m o:Nat,G=[some (.int m),some (.int o)]/\pc n=o+pc m/\H'=H) (λG _=>match G with|some (.int m)::_=>m.toNat|_=>0) ⟨n,0,rfl,by simp,rfl⟩ ?_;rintro k G H' ⟨m,o,rfl,e,rfl⟩ hk;apply Cl (λhm=>?_) (λhm=>?_)
 ·refine Kc ?_
  apply Fa (T.cu _) (v:=.int (pc (m%16))) ?_ ?_
  ·rw[pR]
   exact fM _ (tj _ (by decide))
  ·apply⟨⟨m/16,o+pc (m%16),?_,?_,rfl⟩,?_⟩
   ·show[some (V.int ((m:Int)/2 ^ (4:Int).toNat)),some (V.int ((o:Int)+(pc (m%16):Int)))]=_
    rw[sA];rfl
   ·rw[e,Abo m]
    lia
   ·show((m:Int)/2 ^ (4:Int).toNat).toNat<k
    rw[sA,<-hk];show m/16<m;lia
 ·k_is
  have:m=0:=by lia
  subst this;rw[Ph] at e;show Q (.int (o:Int)) H';rw[show o=pc n by lia];exact q
inductive mV(vs:List V)(H:Hp)(Q:VK)(E:XK):Prop|mk(r k p:Nat)(_:vs=[.int r,.int k])(_:(Vt r)[k]?=some p)(_:∀H',Am H H'->Q (.int p) H')
include T in
theorem Qz (F:Fun K "nth_of_four" "nth_of_four" Fk f fd):Av P w K mg base CX0 1 f fd ["four","nth"] mV:=by
 exists F.ok Jk
 obtain⟨r,k,p,rfl,hp,q⟩:=h;refine⟨_,(Aa (Ke (i:=2) rfl N3 Jk.nd rfl rfl (D0 rfl T.bN (tpa Ad Ab)) (λ_ _ _ _=>Nq (ttc Fs (Ah Ws (Ah vC (pv 1) (pv 0)) Ad) Ad)) (λ_ _ _ _=>(pv 0))) (Ae (Ap (tix Bn (pv 2) (pv 1))))),?_⟩
 apply⟨4,rfl,by decide,by decide,?_⟩;refine Jp (λi=>((d7 i).filter λp=>decide (r/2 ^ p%2=1)).map λp:Nat=>V.int (p:Int)) rfl (λi hi=>?_) (λi H1 R A hi sm kR kA=>?_) (λD H1 hD sm hl=>?_)
 ·have h4:i<4:=hi
  rw[da];exact mj (fq (ml _ _) (ku d6)) (F7 (by lia))
 ·apply tP (by lia) ?_;k_is;have e1:(r:Int)/2 ^ (0+(i:Int)).toNat=((r/2 ^ i:Nat):Int):=by
   rw[show(0+(i:Int)).toNat=i by lia];exact(yt r (2 ^ i)).symm
  rw[e1,Abm];have e2:((d7 (i+1)).filter λp=>decide (r/2 ^ p%2=1))=((d7 i).filter λp=>decide (r/2 ^ p%2=1))++if r/2 ^ i%2=1 then[i] else[]:=by
   rw[iw,jj];congr 1
   by_cases h:r/2 ^ i%2=1
   ·rw[if_pos h]
    simp[h]
   ·rw[if_neg h]
    simp[h]
  refine Cl (λhb=>?_) (λhb=>?_)
  ·have hb:r/2 ^ i%2=1:=by
    have:=V.int.inj hb;lia
   apply kA _ _ ?_ (Am.refl _);rw[e2,if_pos hb,ed,show(0+(i:Int))=(i:Int) by lia];rfl
  ·have hb:¬ r/2 ^ i%2=1:=by
    intro z;exact hb (by rw[z];rfl)
   refine kR ?_ _ (Am.refl _);rw[e2,if_neg hb,fw]
 ·apply B7 (SqL.of hl) (v:=.int p) ?_ (q _ sm);refine A0 ?_;rw[du];show Option.map _ ((Vt r)[k]?)=_;rw[hp];rfl
inductive tS(vs:List V)(H:Hp)(Q:VK)(E:XK):Prop|mk(n k:Nat)(_:vs=[.int n,.int k])(_:∀H',Am H H'->Q (Aai (nth n k)) H')
include T in
theorem dE (F:Fun K "nth_one" "nth_one" Oo f fd)(aL:Cal P w K mg base "nth_of_four" 1 ["four","nth"] mV):Av P w K mg base CX0 2 f fd ["word","nth"] tS:=by
 exists F.ok Fj
 obtain⟨n,k,rfl,q⟩:=h;refine⟨_,(Aa (Bp (ttc Kp (pv 1) Ad) (Ae (Ap Jg))
  As) (Aa (tst 2 Fj.nd Ad) (Aa (Fw gh (ttc Lk (pv 0) Ad) (Aa (tst 3 Fj.nd (tix Do (Wf (v:=.ref _) rfl T.bX rfl) (Ah Ws (pv 0) Ad))) (Aa (Bp (ttc Kp (pv 1) (pv 3)) (Ae (Ap (Ah At (pv 2) (Ar aL hr.m (tpa (Ah Ws (pv 0) Ad) (tpa (pv 1) Ab))))))
  As) (Aa (tau 1 Fj.nd (pv 3) Vr) (Aa (tau 0 Fj.nd Ad fU) (Ae (tau 2 Fj.nd Ad Lz))))))) (Ae (Ap Jg))))),?_⟩
 apply Cl (λhb=>absurd hb (by lia)) (λ_=>?_);apply Fx (λG H'=>∃(m j low:Nat) (v:Option V),G=[some (.int m),some (.int j),some (.int low),v]/\nth n k=(nth m j).map (·+low)/\H'=H) (λG _=>match G with|some (.int m)::_=>m.toNat|_=>0) ⟨n,k,0,none,rfl,by simp,rfl⟩ ?_;rintro μ G H' ⟨m,j,low,v,rfl,e,rfl⟩ hk;apply Cl (λhm=>?_) (λhm=>?_)
 ·refine Kc ?_
  apply Fa (T.cu _) (v:=.int (pc (m%16))) ?_ ?_
  ·rw[pR]
   exact fM _ (tj _ (by decide))
  ·k_is
   have e16:=zI m j;refine Cl (λhj=>?_) (λhj=>?_)
   ·have hj:j<pc (m%16):=by lia
    k_is;rw[if_pos hj] at e16;rw[pR];obtain⟨p,hp⟩:∃p,(Vt (m%16))[j]?=some p:=by
     have:j<(Vt (m%16)).length:=by rw[rD _ (tj _ (by decide))];exact hj
     exact⟨_,df this⟩
    refine⟨m%16,j,p,rfl,hp,λH1 s1=>?_⟩;k_is;have:=q H1 s1;rw[e,e16,hp] at this;rw[show(low:Int)+(p:Int)=((p+low:Nat):Int) by lia];exact this
   ·have hj:¬ j<pc (m%16):=by lia
    k_is;rw[if_neg hj] at e16;refine⟨⟨m/16,j-pc (m%16),low+4,some (.int (pc (m%16))),?_,?_,rfl⟩,?_⟩
    ·show[some (V.int ((m:Int)/2 ^ (4:Int).toNat)),some (V.int ((j:Int)-(pc (m%16):Int))),some (V.int ((low:Int)+4)),some (V.int (pc (m%16)))]=_
     rw[sA,show(j:Int)-(pc (m%16):Int)=((j-pc (m%16):Nat):Int) by lia];rfl
    ·rw[e,e16,yu]
     congr 1
     funext x
     show x+4+low=x+(low+4);lia
    ·show((m:Int)/2 ^ (4:Int).toNat).toNat<μ
     rw[sA,<-hk];show m/16<m;lia
 ·k_is
  have:m=0:=by lia
  subst this;rw[R0] at e;have:=q H' (Am.refl _);rw[e] at this;exact this
def qQ (z:Str):Bool:=if z.length>20000 then false else decide (N1 z 48+N1 z 49=z.length)
inductive gL(vs:List V)(H:Hp)(Q:VK)(E:XK):Prop|mk(z:Str)(_:vs=[.str z])(_:z.length<=sizeLine)(_:Q (.bl (qQ z)) H)
include T in
theorem iP (F:Fun K "is_row" "is_row" R8 f fd):Av P w K mg base CX0 1 f fd ["thing"] gL:=by
 exists F.ok hU
 obtain⟨z,rfl,hz,q⟩:=h;refine⟨_,(Aa (Bp (PW.pt (Oy (C1 (B8 (Ak Dm (by rfl) T.bV C5 (tpa (pv 0) (tpa (Ii (v:=.ty "str") rfl T.n_str zH rfl) Ab))))) (L7 (ttc Lk (Ak F5 (by rfl) T.bM Bx (tpa (pv 0) Ab)) (B1 rfl T.ce))))) (Ae (Ap Gb))
  As) (Ae (Ap (tpc Fs (Ah At (Ef n4 uj ui Qy (pv 0) (tpa Ix Ab)) (Ef n4 uj ui Qy (pv 0) (tpa Ix Ab))) (Ak F5 (by rfl) T.bM Bx (tpa (pv 0) Ab)))))),?_⟩
 apply⟨_,_,_,_,rfl,.str _,Xr,?_⟩;apply⟨z,rfl,hz,?_⟩;k_is;unfold qQ at q;refine Cl (λhb=>?_) (λhb=>?_)
 ·k_is
  rw[if_pos (by lia)] at q;exact q
 ·k_is
  rw[if_neg (by lia)] at q;refine⟨rfl,?_⟩;apply⟨z,48,rfl,rfl,?_⟩;apply⟨rfl,?_⟩;apply⟨z,49,rfl,rfl,?_⟩;apply⟨z,rfl,hz,?_⟩;k_is;have e:decide (V.int ((N1 z 48:Int)+(N1 z 49:Int))=V.int (z.length:Int))=decide (N1 z 48+N1 z 49=z.length):=by
   refine decide_eq_decide.mpr ⟨λh=>?_,λh=>?_⟩
   ·have:=V.int.inj h
    lia
   ·rw[<-h]
    congr 1
  rw[e];exact q
inductive oM(vs:List V)(H:Hp)(Q:VK)(E:XK):Prop|mk(l:Za5)(_:vs=[.str (Bj l)])(_:0<l.length)(_:l.length<=32)(_:Q (.int (val l:Nat)) H)
include T in
theorem cW (F:Fun K "word_of" "word_of" Oi f fd):Av P w K mg base CX0 1 f fd ["signs"] oM:=by
 exists F.ok dP
 obtain⟨l,rfl,h0,h1,q⟩:=h;refine⟨_,(Ae (Ap (De Tg (by rfl) T.cr eT (tpa (qP (pv 0)) (tpa Ad Ab))))),?_⟩;apply⟨_,rfl,?_,?_⟩
 ·rw[Cw]
  exact ig (F7 (by lia))
 apply⟨_,rfl,?_,?_,?_,?_⟩
 ·rw[J2,Cw]
  lia
 ·intro c hc
  have:c∈(Bj l).cps.toList:=by
   have h:c∈(Bj l).cps.toList.reverse.toArray.toList:=hc
   simpa using h
  exact Zz l c this
 ·intro z
  have e:(Ta (Bj l)).cps.toList.length=0:=by rw[z];rfl
  have e2:(Ta (Bj l)).cps.toList.length=(Ta (Bj l)).length:=by simp[xi]
  rw[e2,J2,Cw] at e;lia
 ·rw[wL]
  exact q
inductive fR (K:de)(vs:List V)(H:Hp)(Q:VK)(E:XK):Prop|mk(l:Za5)(_:vs=[.str (Bj l)])(_:l.length<=20000)(_:∀p H',Am H H'->H p=none->H' p=some (.tup (nV (wordsOf l)))->Q (.ref p) H')
include T in
theorem Zb (F:Fun K "words_of" "words_of" Iq f fd)(aM:Cal P w K mg base "word_of" 1 ["signs"] oM):Av P w K mg base CX0 2 f fd ["text"] (fR K):=by
 exists F.ok Xk
 obtain⟨l,rfl,hl,q⟩:=h;have hz:(Bj l).length<=sizeLine:=by rw[Cw];exact ig (An (by lia))
 refine⟨_,(Ae (Ap (De Hb (by rfl) T.cq Pj (tpa (Nr rfl S1 (Tw rfl T.bN (tpa Ad (tpa (Ak F5 (by rfl) T.bM Bx (tpa (pv 0) Ab)) (tpa (B1 rfl T.bU) Ab)))) (λ_ _ _ _=>Ez) (λ_ _ _ _=>(Ar aM hr.m (tpa (Fv xV (pv 1) (Fp (pv 0)) (Fp (Ah At (pv 0) (B1 rfl T.bU)))) Ab)))) Ab)))),?_⟩;apply⟨_,rfl,hz,?_⟩;rw[Cw];apply⟨0,l.length,32,rfl,by lia,?_⟩;have hn:B9 0 (l.length:Int) 32=B6 l.length:=Ro l.length 32 (by decide);rw[hn];refine nA (λi=>nV ((d7 i).map λj=>val (Bd l j))) rfl (λi hi=>?_) (λi H1 R A hi sm kR kA=>?_) (λD H1 hD sm hl'=>?_)
 ·have:=Xb hi
  rw[da,da,d6];exact An (by lia)
 ·apply yU hz ?_;have hi':=Xb hi;rw[show(0+(i:Int)*32)=((32*i:Nat):Int) by lia,show(((32*i:Nat):Int)+32)=((32*i+32:Nat):Int) by lia,iU];apply⟨Bd l i,?_,?_,?_,?_⟩
  ·unfold Bd
   rw[show 32*i+32-32*i=32 by lia];rfl
  ·unfold Bd
   rw[dy,io];lia
  ·unfold Bd
   rw[dy];lia
  ·refine kA _ _ ?_ (Am.refl _)
   exact Gg _ _
 ·apply⟨D,_,rfl,.inl ⟨SqL.of hl',λp hp=>?_⟩⟩;exact q p _ (sm.trans (Ag hp)) (sm.free hp) Ac
def pZ (l:Za5)(t:dk):List (Str×V):=[("length",.int (l.length:Nat)),("many_ones",.int (l.count true:Nat)),("kept_words",.ref t)]
def G2 (K:de)(C:dk)(H:Hp)(a:dk)(l:Za5):Prop:=∃dx t,H a=some (.ins C dx (pZ l t))/\H t=some (.tup (nV (wordsOf l)))/\l.length<=20000
theorem cU {K:de}{x b:dk}{l:Za5}(s:SameBut x H H')(n:uR H x)(hne:b≠x)(h:G2 K C H b l):G2 K C H' b l:=by
 obtain⟨dx,t,h1,h2,h3⟩:=h;exact⟨dx,t,s _ _ hne h1,s _ _ (λe=>by subst e;exact(n _).1 (.inl h2)) h2,h3⟩
inductive Q8 (K:de)(C:dk)(vs:List V)(H:Hp)(Q:VK)(E:XK):Prop|mk(x dx:dk)(l:Za5)(_:vs=[.ref x,.str (Bj l)])(_:H x=some (.ins C dx []))(_:l.length<=20000)(_:∀H',SameBut x H H'->G2 K C H' x l->Q .non H')
theorem dD {l:Za5}(h:l.length<=20000):qQ (Bj l)=true:=by
 unfold qQ;rw[Cw,if_neg (by lia)];exact decide_eq_true (Tu l).2
variable (ai:Qd K ae)
include T ai in
theorem Qv (F:Fun K "__init__" "Bits.__init__" Js f fd)(aN:Cal P w K mg base "is_row" 1 ["thing"] gL)(aO:Cal P w K mg base "words_of" 2 ["text"] (fR K)) :
  Av P w K mg base CX0 3 f fd ["self","text"] (Q8 K ae):=by
 exists F.ok Wb
 obtain⟨x,dx,l,rfl,hx,hl,q⟩:=h;have hz:(Bj l).length<=sizeLine:=by rw[Cw];exact ig (An (by lia))
 refine⟨_,(Aa (Bp (C1 (B8 (Ar aN hr.m (tpa (pv 1) Ab)))) (Ae Ew)
  As) (Aa (tsf (pv 0) (Ak F5 (by rfl) T.bM Bx (tpa (pv 1) Ab))) (Aa (tsf (pv 0) (Ef n4 uj ui Qy (pv 1) (tpa Ix Ab))) (Ae (tsf (pv 0) (Ar aO hr.m (tpa (pv 1) Ab))))))),?_⟩
 apply⟨_,rfl,hz,?_⟩;rw[dD hl];apply⟨_,rfl,hz,?_⟩;rw[Cw];apply Gq hx ai.cl ai.cm (by decide) ?_;apply⟨rfl,?_⟩;apply⟨_,49,rfl,rfl,?_⟩;rw[(Tu l).1];apply Gq Ac ai.cl ai.cF (show 1<1000 by decide) ?_;rw[gI];apply⟨l,rfl,hl,λt H' sm hf ht=>?_⟩;apply Gq (sm _ _ Ac) ai.cl ai.bR (show 2<1000 by decide) ?_;apply q _ ((Ds.trans sm.but).trans Ds) ⟨dx,t,Ac,?_,hl⟩;have hne:t≠x:=λe=>by
  subst e;rw[Ac] at hf;cases hf
 rw[Ai hne];exact ht
inductive Qx (K:de)(C:dk)(vs:List V)(H:Hp)(Q:VK)(E:XK):Prop|mk(x:dk)(l:Za5)(_:vs=[.ref x])(_:G2 K C H x l)(_:Q (.int (l.length:Nat)) H)
include T ai in
theorem Qw (F:Fun K "size" "Bits.size" Ko f fd):Av P w K mg base CX0 1 f fd ["self"] (Qx K ae):=by
 exists F.ok Uy
 obtain⟨x,l,rfl,⟨dx,t,hx,ht,hl⟩,q⟩:=h;refine⟨_,(Ae (Ap (tfl (pv 0)))),?_⟩;k_is;exact oR hx ai.cl ai.cm rfl q
inductive Ot (K:de)(C:dk)(vs:List V)(H:Hp)(Q:VK)(E:XK):Prop|mk(x:dk)(l:Za5)(_:vs=[.ref x])(_:G2 K C H x l)(_:∀t,H t=some (.tup (nV (wordsOf l)))->Q (.ref t) H)
include T ai in
theorem Qu (F:Fun K "words" "Bits.words" Id f fd):Av P w K mg base CX0 1 f fd ["self"] (Ot K ae):=by
 exists F.ok Su
 obtain⟨x,l,rfl,⟨dx,t,hx,ht,hl⟩,q⟩:=h;refine⟨_,(Ae (Ap (tfl (pv 0)))),?_⟩;k_is;exact oR hx ai.cl ai.bR rfl (q t ht)
include T in
theorem Ss (F:Fun K "first_that" "first_that" Ig f fd):Av P w K mg base CX0 3 f fd ["low","high","holds"] (Ps P w K mg base 2):=by
 exists F.ok Fm
 obtain⟨lo,hi,g,p,rfl,hle,hA,q⟩:=h;refine⟨_,(Aa (Fw gh (ttc Kp (pv 0) (pv 1)) (Aa (tst 3 Fm.nd (Ah Dy (Ah At (pv 0) (pv 1)) Ad)) (Ae (Bp (B8 (yC (k:=2) hr.m (i:=2) rfl rfl (pv 3))) (Ae (tst 1 Fm.nd (pv 3))) (Ae (tst 0 Fm.nd (Ah At (pv 3) Ad))))))) (Ae (Ap (pv 0)))),?_⟩
 apply Fx (λG H'=>Am H H'/\∃(x y:Int) (v:Option V),G=[some (.int x),some (.int y),some (.ref g),v]/\lo<=x/\x<=y/\y<=hi/\(lo<x->p (x-1)=false)/\(y<hi->p y=true)) (λG _=>match G with | [some (.int x),some (.int y),_,_]=>(y-x).toNat|_=>0) ⟨Am.refl _,lo,hi,none,rfl,HF _,hle,HF _,λz=>absurd z (FB _),λz=>absurd z (FB _)⟩ ?_;rintro μ G H' ⟨sm,x,y,v,rfl,h1,h2,h3,h4,h5⟩ QV;apply Cl (λhw=>?_) (λhw=>?_)
 ·refine Kc ?_
  apply⟨g,_,p,rfl,hA.same sm,?_⟩;k_is;have ht1:x<=(x+y)/2:=by lia
  have ht2:(x+y)/2<y:=by lia
  refine⟨_,rfl,Am.refl _,⟨xz h1 ht1,Int.lt_of_lt_of_le ht2 h3⟩,λH2 s2=>?_⟩;k_is;have hμ':y-x=(μ:Int):=by
   have:(y-x).toNat=μ:=QV;lia
  cases hp:p ((x+y)/2) with
  |true=>
   apply⟨⟨sm.trans s2,x,(x+y)/2,_,rfl,h1,ht1,xz (FU ht2) h3,h4,λ_=>hp⟩,?_⟩;show((x+y)/2-x).toNat<μ;generalize (x+y)/2=t at *;lia
  |false=>
   apply⟨⟨sm.trans s2,(x+y)/2+1,y,_,rfl,xz h1 (xz ht1 (FU (Int.lt_succ _))),ht2,h3,λ_=>by rw[Int.add_sub_cancel];exact hp,h5⟩,?_⟩;show(y-((x+y)/2+1)).toNat<μ;generalize (x+y)/2=t at *;lia
 ·k_is
  obtain rfl:x=y:=by lia
  exact q x H' h1 h3 h4 h5 sm
inductive uL(vs:List V)(H:Hp)(Q:VK)(E:XK):Prop|mk(a:dk)(xs:Za4)(_:vs=[.ref a])(_:H a=some (.lst (nV xs)))(_:xs.length<=1000)(_:∀p H',Am H H'->H p=none->H' p=some (.lst (nV ((d7 (xs.length+1)).map λi=>(xs.take i).sum)))->Q (.ref p) H')
include T in
theorem O9 (F:Fun K "running_sums" "running_sums" Gf f fd):Av P w K mg base CX0 1 f fd ["numbers"] uL:=by
 exists F.ok Fy
 obtain⟨a,xs,rfl,ha,hn,q⟩:=h;refine⟨_,(Aa (tst 1 Fy.nd (Bc (tpa Ad Ab))) (Aa (Cr gh rfl (Cn (pv 0)) (tgn 2 Fy.nd) (Ae (Bm (Ef f9 ij ii Bs (pv 1) (tpa (Ah At (tix Bn (pv 1) (Fq Dx Ad)) (pv 2)) Ab))))) (Ae (Ap (pv 1))))),?_⟩
 apply⟨few (by simp),λp hp=>?_⟩;have t0:=Ag (o:=.lst [V.int 0]) hp;apply⟨a,rfl,⟨_,SqL.of (t0 _ _ ha)⟩,?_⟩;refine Ev (xs:=nV xs) (λi G H1=>(∃v:Option V,G=[some (.ref a),some (.ref p),v])/\H1 p=some (.lst (nV ((d7 (i+1)).map λi=>(xs.take i).sum)))/\Am H H1) ⟨⟨_,rfl⟩,Ac,t0⟩ (λi G H1 _ h=>SqL.of (h.2.2 _ _ ha)) ?_ ?_
 ·rintro i x G H1 hx ⟨⟨v,rfl⟩,hp1,s1⟩
  have hi:=Fc hx;rw[show(nV xs).length=xs.length by unfold nV;rw[da]] at hi;obtain rfl:x=.int (xs[i]:Nat):=by
   unfold nV at hx;rw[du,df hi] at hx;exact(dr hx).symm
  apply⟨.inl ⟨rfl,_,SqL.of hp1⟩,?_⟩;apply B7 (SqL.of hp1) (v:=.int ((xs.take i).sum:Nat)) ?_ ?_
  ·rw[Gg]
   exact Xi _ _
  apply Cv hp1 ?_ ?_
  ·unfold nV
   rw[da,da,d6];exact An (by lia)
  apply⟨⟨_,rfl⟩,?_,λb u e=>?_⟩
  ·rw[Ac,Gg _ (i+1),il,df hi,qa]
   show some (HO.lst (_++[V.int (((xs.take i).sum:Nat)+(xs[i]:Nat):Int)]))=some (HO.lst (_++[V.int (((xs.take i).sum+[xs[i]].sum:Nat):Int)]));rw[w6,qh]
  ·rw[Ai (Aj e hp)]
   exact s1 _ _ e
 ·rintro G H1 ⟨⟨v,rfl⟩,hp1,s1⟩
  rw[show(nV xs).length=xs.length by unfold nV;rw[da]] at hp1;k_is;exact q p H1 s1 hp hp1
def B3 (n:Nat):Nat:=(B6 n+7)/8
def Gs (l:Za5):Za4:=(d7 (B3 l.length+1)).map λb=>cnt l (256*b)
inductive eN (K:de)(vs:List V)(H:Hp)(Q:VK)(E:XK):Prop|mk(t:dk)(l:Za5)(_:vs=[.ref t])(_:H t=some (.tup (nV (wordsOf l))))(_:l.length<=20000)(_:∀p H',Am H H'->H p=none->H' p=some (.tup (nV (Gs l)))->Q (.ref p) H')
theorem W9 (l:Za5)(b:Nat):((wordsOf l).drop (8*b)).take 8=(d7 (min 8 (B6 l.length-8*b))).map λi=>val (Bd l (8*b+i)):=by
 unfold TW.wordsOf;refine j2 λi=>?_;rw[jn]
 by_cases h8:i<8
 ·rw[if_pos h8,i7,du,du]
  by_cases hm:8*b+i<B6 l.length
  ·rw[gl hm,gl (by lia)]
   rfl
  ·rw[f8 (by rw[d6];lia),f8 (by rw[d6];lia)]
   rfl
 ·rw[if_neg h8,f8 (by rw[da,d6];lia)]
def blk (l:Za5)(i:Nat):Za4:=(d7 (min 8 (B6 l.length-8*i))).map λj=>val (Bd l (8*i+j))
def Zx (l:Za5)(i:Nat):Nat:=((d7 (min 8 (B6 l.length-8*i))).map λm=>pc (val (Bd l (8*i+m)))).sum
theorem W5 (l:Za5):∀i,(((d7 i).map (Zx l)).sum)=cnt l (256*i)
 |0=>by
  show 0=cnt l 0;rfl
 |i+1=>by
  rw[iw,ed,qa,W5 l i];show cnt l (256*i)+[Zx l i].sum=_;rw[w6];have:=jK l i (min 8 (B6 l.length-8*i)) rfl;unfold Zx;lia
def iJ (K:de)(l:Za5)(i:Nat)(ys:List V)(H:Hp):Prop:=ys.length=i/\∀j y,ys[j]?=some y->∃a,y=.ref a/\SqT K H a (nV (blk l j))
theorem kD {K:de}{l:Za5}{i:Nat}{D:dk}{o:HO}(hD:H D=some (.lst xs))(h:iJ K l i ys H):iJ K l i ys (upd H D o):=⟨h.1,λj y e=>by
 obtain⟨a,rfl,ht⟩:=h.2 j y e;refine⟨a,rfl,?_⟩;rcases ht with(ht|⟨ob,ht⟩)|ht
 ·exact .inl (.inl (by rw[Ai (F2 ht hD (by intro z;cases z))];exact ht))
 ·exact .inl (.inr ⟨ob,by rw[Ai (F2 ht hD (by intro z;cases z))];exact ht⟩)
 ·exact .inr ht⟩
theorem iJ.same {K:de}{l:Za5}{i:Nat}(h:iJ K l i ys H)(s:Am H H'):iJ K l i ys H':=⟨h.1,λj y e=>by
 obtain⟨a,rfl,ht⟩:=h.2 j y e;exact⟨a,rfl,s.seqT ht⟩⟩
variable (az:Cal P w K mg base "ones_in" 1 ["word"] jP)
include T az in
theorem Mp (F:Fun K "table_of_words" "table_of_words" Cp f fd)(aP:Cal P w K mg base "running_sums" 1 ["numbers"] uL):Av P w K mg base CX0 2 f fd ["words"] (eN K):=by
 exists F.ok G1
 obtain⟨t,l,rfl,ht,hl,q⟩:=h;have hW:(wordsOf l).length=B6 l.length:=by unfold TW.wordsOf;rw[da,d6]
 have hM:B6 l.length<=626:=by unfold B6;lia
 have hB:B3 l.length<=80:=by unfold B3;lia
 refine⟨_,(Aa (Ke (i:=1) rfl K8 G1.nd rfl rfl (Tw rfl T.bN (tpa Ad (tpa (Ak Ao (by rfl) T.bM Bx (tpa (pv 0) Ab)) (tpa (B1 rfl T.bT) Ab)))) (λ_ _ _ _=>Ez) (λ_ _ _ _=>(Fv (qC K) (pv 1) (Fp (pv 0)) (Fp (Ah At (pv 0) (B1 rfl T.bT)))))) (Ae (Ap (De Hb (by rfl) T.cq Pj (tpa (Ar aP hr.m (tpa (Nr rfl Ld (Cn (pv 1)) (λ_ _ _ _=>Ez) (λ_ _ _ _=>(Ak (jC K rfl) (by rfl) T.n_sum Aag (tpa (rZ rfl K9 (rM K (pv 0)) (λ_ _ _ _=>Ez) (λ_ _ _ _=>(Ar az hr.m (tpa (pv 0) Ab)))) Ab)))) Ab)) Ab))))),?_⟩
 apply⟨t,_,rfl,.inr (SqT.of ht),?_⟩;k_is;rw[da,hW];refine⟨0,B6 l.length,8,rfl,by lia,?_⟩;have hn:B9 0 (B6 l.length:Int) 8=B3 l.length:=Ro (B6 l.length) 8 (by decide);rw[hn];refine jD (λi ys H1=>iJ K l i ys H1) (λH1 _=>⟨rfl,λj y e=>by cases e⟩) (λi ys H1 D xs o hD h=>kD hD h) (λi ys H1 hi h=>by rw[h.1];exact F7 (by lia)) (λi ys H1 A R hi s1 hP kA=>?_) (λD ys H1 hD s1 hP hDl=>?_)
 ·apply⟨t,_,rfl,SqT.of (s1 _ _ ht),λp2 H2 s2 hp2=>?_⟩;rw[show(0+(i:Int)*8)=((8*i:Nat):Int) by lia,show(((8*i:Nat):Int)+8)=((8*i+8:Nat):Int) by lia,kF,show 8*i+8-8*i=8 by lia] at hp2;have e8:((nV (wordsOf l)).drop (8*i)).take 8=nV (blk l i):=by
   unfold nV blk;rw[<-EQ,<-oq,W9]
  rw[e8] at hp2;refine kA _ _ s2 ⟨by rw[di,hP.1];rfl,λj y e=>?_⟩
  by_cases hj:j<ys.length
  ·rw[fv hj] at e
   exact(hP.same s2).2 j y e
  ·rw[d8 (by lia)] at e
   have e0:j-ys.length=0:=by
    have:=Fc e;simp only[fj,jh] at this;lia
   rw[e0] at e;obtain rfl:=dr e;have:j=i:=by have:=hP.1;lia
   subst this;exact⟨p2,rfl,hp2⟩
 ·apply⟨D,rfl,⟨_,SqL.of hDl⟩,?_⟩;refine K6 (SqL.of hDl) (λi=>nV ((d7 i).map (Zx l))) rfl (λi hi=>?_) (λi x H2 R A hx s2 kR kA=>?_) (λD2 H2 hD2 s2 hl2=>?_)
  ·unfold nV
   rw[da,da,d6];rw[hP.1] at hi;exact F7 (by lia)
  ·obtain⟨b,rfl,hb⟩:=(hP.same s2).2 i x hx
   apply⟨b,rfl,⟨_,hb⟩,?_⟩;refine xD hb (λj=>nV ((d7 j).map λm=>pc (val (Bd l (8*i+m))))) rfl (λj hj=>?_) (λj x H3 R3 A3 hx3 s3 kR3 kA3=>?_) (λD3 H3 hD3 s3 hl3=>?_)
   ·unfold blk nV at hj
    rw[da,da,d6] at hj;rw[da,da,d6];exact F7 (by lia)
   ·have hj:j<min 8 (B6 l.length-8*i):=by
     have:=(d9.mp hx3).1;unfold blk nV at this
     rwa [da,da,d6] at this
    have hxe:x=.int (val (Bd l (8*i+j)):Nat):=by
     unfold nV blk at hx3;rw[du,du,gl hj] at hx3;exact(dr hx3).symm
    subst hxe;apply⟨_,rfl,?_⟩;refine kA3 _ _ ?_ (Am.refl _);exact Gg _ _
   ·unfold blk at hl3
    rw[da,da,d6] at hl3;apply⟨D3,_,rfl,SqL.of (by rw[hl3,Wk]),?_⟩;rw[kM];refine kA _ _ ?_ s3;exact Gg _ _
  ·rw[hP.1] at hl2
   apply⟨D2,(d7 (B3 l.length)).map (Zx l),rfl,hl2,by rw[da,d6];lia,λp4 H4 s4 hp4 hl4=>?_⟩;apply⟨p4,_,rfl,.inl ⟨SqL.of hl4,λp5 hp5=>?_⟩⟩;have et:(d7 (((d7 (B3 l.length)).map (Zx l)).length+1)).map (λi=>(((d7 (B3 l.length)).map (Zx l)).take i).sum)=Gs l:=by
    rw[da,d6];unfold Gs;refine jg λi hi=>?_;have hi:=gz.mp hi;rw[<-oq,List.take_range,iz (by lia),W5]
   rw[et] at *;exact q p5 _ (((s1.trans s2).trans s4).trans (Ag hp5)) (((s1.trans s2).trans s4).free hp5) Ac
def oN (l:Za5)(t u:dk):List (Str×V):=[("length",.int (l.length:Nat)),("kept_words",.ref t),("kept_table",.ref u)]
def Be (K:de)(C:dk)(H:Hp)(a:dk)(l:Za5):Prop:=∃dx t u,H a=some (.ins C dx (oN l t u))/\H t=some (.tup (nV (wordsOf l)))/\H u=some (.tup (nV (Gs l)))/\l.length<=20000
inductive Ng (K:de)(CB C:dk)(vs:List V)(H:Hp)(Q:VK)(E:XK):Prop|mk(x dx b:dk)(l:Za5)(_:vs=[.ref x,.ref b])(_:H x=some (.ins C dx []))(_:G2 K CB H b l)(_:∀H',SameBut x H H'->Be K C H' x l->Q .non H')
variable (ag:Qb K ab)
include T ag in
theorem Qt (F:Fun K "__init__" "Counts.__init__" G7 f fd)(aQ:Mth P w K mg base ae "size" 1 ["self"] (Qx K ae))(aR:Mth P w K mg base ae "words" 1 ["self"] (Ot K ae))(aT:Cal P w K mg base "table_of_words" 2 ["words"] (eN K)) :
  Av P w K mg base CX0 3 f fd ["self","bits"] (Ng K ae ab):=by
 exists F.ok P3
 obtain⟨x,dx,b,l,rfl,hx,hb,q⟩:=h;have hb0:=hb;obtain⟨dxb,t,hbx,ht,hl⟩:=hb0;have hbne:b≠x:=F2 hbx hx (by intro z;cases z);refine⟨_,(Aa (tsf (pv 0) (R5 aQ hr.m (pv 1))) (Aa (tsf (pv 0) (R5 aR hr.m (pv 1))) (Ae (tsf (pv 0) (Ar aT hr.m (tpa (tfl (pv 0)) Ab)))))),?_⟩
 apply⟨b,dxb,_,rfl,hbx,rfl,?_⟩;apply⟨b,l,rfl,hb,?_⟩;apply Gq hx ag.cl ag.cm (by decide) ?_;apply⟨b,dxb,pZ l t,rfl,by rw[Ai hbne];exact hbx,rfl,?_⟩;apply⟨b,l,rfl,cU Ds (gY hx) hbne hb,λt2 ht2=>?_⟩;apply Gq Ac ag.cl ag.bR (show 1<1000 by decide) ?_;rw[gI];have ht3:(upd H x (.ins ab dx (Ft "kept_words" (.ref t2) (Ft "length" (.int (l.length:Nat)) [])))) t2=some (.tup (nV (wordsOf l))):=by
  have hne:t2≠x:=F2 ht2 Ac (by intro z;cases z);rw[Ai hne] at ht2 ⊢;exact ht2
 apply⟨x,ab,dx,_,.ref t2,rfl,Ac,ag.cl,ag.bR,rfl,?_⟩;apply⟨t2,l,rfl,ht3,hl,λu H' sm hf hu=>?_⟩;apply Gq (sm _ _ Ac) ag.cl ag.cn (show 2<1000 by decide) ?_;k_is;have hix:=sm _ _ (Ac (H:=H) (a:=x));have n1:t2≠x:=F2 (sm _ _ ht3) hix (by intro z;cases z);have n2:u≠x:=F2 hu hix (by intro z;cases z);exact q _ ((Ds.trans sm.but).trans Ds) ⟨dx,t2,u,Ac,by rw[Ai n1];exact sm _ _ ht3,by rw[Ai n2];exact hu,hl⟩
theorem kP {l:Za5}{b:Nat}(h:b<=B3 l.length):atI (nV (Gs l)) (b:Int)=some (.int (cnt l (256*b):Nat)):=by
 refine A0 ?_;unfold nV Gs;rw[du,du,gl (by lia)];rfl
inductive Mo (K:de)(C:dk)(vs:List V)(H:Hp)(Q:VK)(E:XK):Prop|mk(a:dk)(l:Za5)(b:Bool)(k:Nat)(_:vs=[.ref a,.int (b.toNat:Nat),.int k])(_:Be K C H a l)(_:k<=B3 l.length)(_:Q (.int ((occ b l (min (256*k) l.length)).length:Nat)) H)
include T ag in
theorem Qf (F:Fun K "ahead_of_block" "Counts.ahead_of_block" Co f fd):Av P w K mg base CX0 1 f fd ["self","bit","block"] (Mo K ab):=by
 exists F.ok Ee
 obtain⟨a,l,b,k,rfl,⟨dx,t,u,hx,ht,hu,hl⟩,hk,q⟩:=h;have ec:cnt l (256*k)=cnt l (min (256*k) l.length):=by
  by_cases h:256*k<=l.length
  ·rw[iz h]
  ·rw[uv (by lia),Pr l (by lia),Pr l (dh _)]
 refine⟨_,(Aa (tst 3 Ee.nd (tix Do (tfl (pv 0)) (pv 2))) (Ae (Ap (Gi (ttc Fs (pv 1) Ad) (pv 3) (Ah Dl (Ak (Od rfl) (by rfl) T.cj Xs (tpa (Ah L4 (pv 2) (B1 rfl T.bZ)) (tpa (tfl (pv 0)) Ab))) (pv 3)))))),?_⟩
 apply⟨a,ab,dx,_,_,rfl,hx,ag.cl,ag.cn,rfl,?_⟩;apply Fa (SqT.of hu) (kP hk) ?_;k_is;have ho:=Vc l (min (256*k) l.length)
 cases b with
 |true=>
  refine Cl (λ_=>?_) (λz=>absurd rfl z);k_is;rw[ho.1] at q;rw[ec];exact q
 |false=>
  refine Cl (λz=>absurd z (by decide)) (λ_=>?_);apply⟨a,ab,dx,_,_,rfl,hx,ag.cl,ag.cm,rfl,?_⟩;apply⟨_,_,rfl,?_⟩;k_is;have em:(if((l.length:Nat):Int)<(k:Int)*256 then((l.length:Nat):Int) else(k:Int)*256)=((min (256*k) l.length:Nat):Int):=by
   split<;>lia
  rw[em,ec,show((min (256*k) l.length:Nat):Int)-(cnt l (min (256*k) l.length):Nat)=((occ false l (min (256*k) l.length)).length:Nat) by lia];exact q
inductive Rm (K:de)(C:dk)(vs:List V)(H:Hp)(Q:VK)(E:XK):Prop|mk(a:dk)(l:Za5)(b:Bool)(_:vs=[.ref a,.int (b.toNat:Nat)])(_:Be K C H a l)(_:Q (.int ((occ b l l.length).length:Nat)) H)
theorem Uu (l:Za5):(nV (Gs l)).length=B3 l.length+1:=by
 unfold nV Gs;rw[da,da,d6]
theorem cK (l:Za5):min (256*B3 l.length) l.length=l.length:=by unfold B3 B6;lia
variable (aq:Mth P w K mg base ab "ahead_of_block" 1 ["self","bit","block"] (Mo K ab))
include T ag aq in
theorem Qm (F:Fun K "many_like" "Counts.many_like" El f fd):Av P w K mg base CX0 2 f fd ["self","bit"] (Rm K ab):=by
 exists F.ok Lf
 obtain⟨a,l,b,rfl,hC,q⟩:=h;obtain⟨dx,t,u,hx,ht,hu,hl⟩:=id hC;refine⟨_,(Ae (Ap (E2 aq hr.m (pv 0) (tpa (pv 1) (tpa (Ah Dl (Ak Ao (by rfl) T.bM Bx (tpa (tfl (pv 0)) Ab)) Ad) Ab))))),?_⟩;apply⟨a,dx,_,rfl,hx,rfl,?_⟩;apply⟨a,ab,dx,_,_,rfl,hx,ag.cl,ag.cn,rfl,?_⟩;apply⟨u,_,rfl,.inr (SqT.of hu),?_⟩;rw[Uu];apply⟨a,l,b,B3 l.length,?_,hC,dh _,?_⟩
 ·rw[show(((B3 l.length+1:Nat):Int)-1)=((B3 l.length:Nat):Int) by lia]
  rfl
 ·rw[cK]
  exact q
theorem Be.sameT {K:de}{b:dk}{l:Za5}(s:Hf H H')(h:Be K C H b l):Be K C H' b l:=by
 obtain⟨dx,t,u,h1,h2,h3,h4⟩:=h;exact⟨dx,t,u,s.keep _ _ (by intro ps e;cases e) h1,s.tup h2,s.tup h3,h4⟩
theorem Be.sm {K:de}{b:dk}{ts:List Tb}{l:Za5}(h:Be K C H b l)(s:SmT ts H H'):Be K C H' b l:=h.sameT s.sm
inductive Ki (K:de)(C:dk)(ts:List Tb)(vs:List V)(H:Hp)(Q:VK)(E:XK):Prop|mk(a:dk)(l:Za5)(b:Bool)(n:Nat)(_:vs=[.ref a,.int (b.toNat:Nat),.int n])(_:Be K C H a l)(_:n<(occ b l l.length).length)(_:Tbs ts H)(_:∀(k:Nat) (H':Hp),k<B3 l.length->(occ b l (256*k)).length<=n->SmT ts H H'->Q (.int k) H')
variable (hK:K.In base) (hB:base.BuiltinsAt mg Pt)
include T ag aq hK hB in
theorem Qi {f c:dk}(F:Sr K "block_with" "Counts.block_with" Bb f fd c Pt)(hts:(⟨Pt,Fb,"Counts.block_with.<locals>.<lambda>"⟩:Tb)∈ts)(aU:Cal P w K mg base "first_that" 3 ["low","high","holds"] (Ps P w K mg base 2)):Av P w K mg base CX0 4 f fd ["self","bit","nth"] (Ki K ab ts):=by
 refine F.ok Jv (λvs H Q E h=>?_) (λA outer s H vs Q E hr h=>?_)
 ·obtain⟨a,l,b,n,rfl,_⟩:=h
  rfl
 ·obtain⟨a,l,b,n,rfl,hC,hn,hT,q⟩:=h
  obtain⟨dx,t,u,hx,ht,hu,hl⟩:=id hC;have hpos:0<B3 l.length:=by
   have:0<l.length:=by
    rcases lw l.length with z|z
    ·rw[z] at hn
     exact absurd hn (zc _)
    ·exact z
   unfold B3 B6;lia
  refine⟨_,(Ae (Ap (vZ (qual:="Counts.block_with.<locals>.<lambda>") (k:=1) aU hr.m Ad (Ah Dl (Ak Ao (by rfl) T.bM Bx (tpa (tfl (pv 0)) Ab)) Ad) (F.code hK) hB rfl (by kernel_rfl) Hs (λ_ _ _ _ _ _ _ hr=>(tpc Lk (E2 aq hr.m (pv 3) (tpa (pv 1) (tpa (Ah At (pv 0) Ad) Ab))) (pv 2)))))),?_⟩;apply⟨a,ab,dx,_,_,rfl,hx,ag.cl,ag.cn,rfl,?_⟩;apply⟨u,_,rfl,.inr (SqT.of hu),?_⟩;rw[Uu];k_is;have hk:=hT.1 _ hts;refine⟨0,((B3 l.length-1:Nat):Int),λi=>decide (n<(occ b l (min (256*(i.toNat+1)) l.length)).length),rfl,?_,by lia,hk,λi H3 hi1 hi2 s3=>?_,λm H' hm1 hm2 hm3 hm4 s' t'=>?_⟩
  ·rw[show(((B3 l.length+1:Nat):Int)-2)=((B3 l.length-1:Nat):Int) by lia]
  ·obtain⟨pt,hpt⟩:=Tb.tbl hk
   have kp:∀{b:dk} {u:HO},(∀ps,u≠.tbl ps)->H b=some u->H3 b=some u:=λ{b u} nt e=>s3 b u (λz=>by rw[z,hpt] at e;cases e;exact nt pt rfl) e;have hx3:=kp (by intro ps e;cases e) hx;have hC3:Be K ab H3 a l:=⟨dx,t,u,hx3,kp (by intro ps e;cases e) ht,kp (by intro ps e;cases e) hu,hl⟩;apply⟨a,dx,_,rfl,hx3,rfl,?_⟩;k_is;obtain⟨k,rfl⟩:=qq hi1;refine⟨a,l,b,k+1,rfl,hC3,by lia,?_⟩;apply⟨?_,Am.refl _⟩;rw[ge];exact congrArg V.bl (decide_eq_decide.mpr (by lia))
  ·obtain⟨k,rfl⟩:=qq hm1
   have hk1:k<B3 l.length:=by lia
   have h256:256*k<=l.length:=by unfold B3 B6 at hk1;lia
   refine q k H' hk1 ?_ (qK hT hts s' t');rcases lw k with rfl|hk0
   ·exact f7 _
   ·have:=hm3 (by lia)
    dsimp only at this;rw[show(((k:Int)-1).toNat+1)=k by lia,iz h256] at this;have:=of_decide_eq_false this;lia
inductive O5 (K:de)(C:dk)(vs:List V)(H:Hp)(Q:VK)(E:XK):Prop|mk(a:dk)(l:Za5)(b:Bool)(j k t:Nat)(_:vs=[.ref a,.int (b.toNat:Nat),.int j,.int k])(_:Be K C H a l)(_:(occ b l (32*B6 l.length))[(occ b l (32*j)).length+k]?=some t)(_:∀H',Am H H'->Q (.int t) H')
theorem Na {b:Bool}{l:Za5}{W j k t:Nat}(h:(occ b l (32*W))[(occ b l (32*j)).length+k]?=some t):j<W:=by
 rcases Nat.lt_or_ge j W with z|z
 ·exact z
 ·exfalso
  have h1:=(d9.mp h).1;have h2:=vY (b:=b) (l:=l) (show 32*W<=32*j by lia);lia
theorem Z8 {b:Bool}{l:Za5}{W j k t p:Nat}(h:(occ b l (32*W))[(occ b l (32*j)).length+k]?=some t)(hp:(La b l j)[k]?=some p):t=32*j+p:=by
 have hj:=Na h;have hk:=(d9.mp hp).1;have hlen:(occ b l (32*(j+1))).length=(occ b l (32*j)).length+(La b l j).length:=by rw[Ru,di,da]
 rw[Vg (show 32*(j+1)<=32*W by lia) (by lia),Ru,d8 (iq _ _),gi,du,hp] at h;exact(dr h).symm
theorem Zi {b:Bool}{l:Za5}{W j k t:Nat}(h:(occ b l (32*W))[(occ b l (32*j)).length+k]?=some t)(hp:(La b l j)[k]?=none):(La b l j).length<=k/\(occ b l (32*W))[(occ b l (32*(j+1))).length+(k-(La b l j).length)]?=some t:=by
 have hk:=List.getElem?_eq_none_iff.mp hp;refine⟨hk,?_⟩;rw[Ru,di,da,show(occ b l (32*j)).length+(La b l j).length+(k-(La b l j).length)=(occ b l (32*j)).length+k by lia];exact h
include T az ag in
theorem Qj (F:Fun K "place_from" "Counts.place_from" D4 f fd)(aK:Cal P w K mg base "nth_one" 2 ["word","nth"] tS):Av P w K mg base CX0 3 f fd ["self","bit","number","nth"] (O5 K ab):=by
 exists F.ok Bi
 obtain⟨a,l,b,j,k,t,rfl,⟨dx,tw,u,hx,ht,hu,hl⟩,hp,q⟩:=h;refine⟨_,(Aa (tst 4 Bi.nd (Gi (ttc Fs (pv 1) Ad) Ad (B1 rfl T.bY))) (Aa (tst 5 Bi.nd (Ar aK hr.m (tpa (Ah Zn (tix Do (tfl (pv 0)) (pv 2)) (pv 4)) (tpa (pv 3) Ab)))) (Aa (Fw gh (cX (So (pv 5))) (Aa (tau 3 Bi.nd (Ar az hr.m (tpa (Ah Zn (tix Do (tfl (pv 0)) (pv 2)) (pv 4)) Ab)) Vr) (Aa (tau 2 Bi.nd Ad Lz) (Ae (tst 5 Bi.nd (Ar aK hr.m (tpa (Ah Zn (tix Do (tfl (pv 0)) (pv 2)) (pv 4)) (tpa (pv 3) Ab)))))))) (Ae (Ap (Ah At (Ah L4 (pv 2) (B1 rfl T.bU)) (pv 5))))))),?_⟩
 have hfl:∀{G:St} {H1:Hp} {Q':VK},Q' (.int (Ni b:Nat)) H1->(if decide (V.int (b.toNat:Nat)=V.int 1)=true then tC (.int 0) G H1 Q' else tC (.int 4294967295) G H1 Q'):=λ{G H1 Q'} h=>by
  cases b with
  |true=>exact Cl (λ_=>h) (λz=>absurd rfl z)
  |false=>exact Cl (λz=>absurd z (by decide)) (λ_=>h)
 have hj0:=Na hp;apply hfl ?_;apply⟨a,ab,dx,_,_,rfl,hx,ag.cl,ag.bR,rfl,?_⟩;apply Fa (SqT.of ht) (Vi hj0) ?_;k_is;rw[R7];refine⟨_,k,rfl,λH1 s1=>?_⟩;rw[Xg];apply Fx (λG H'=>Am H H'/\∃j k:Nat,G=[some (.ref a),some (.int (b.toNat:Nat)),some (.int j),some (.int k),some (.int (Ni b:Nat)),some (Aai ((La b l j)[k]?))]/\(occ b l (32*B6 l.length))[(occ b l (32*j)).length+k]?=some t) (λG _=>match G with | [_,_,some (.int j),_,_,_]=>B6 l.length-j.toNat|_=>0) ⟨s1,j,k,rfl,hp⟩ ?_;rintro μ G H2 ⟨s2,j,k,rfl,hp⟩ QV;have hj:=Na hp;have QV:B6 l.length-j=μ:=QV;k_is
 cases hw:(La b l j)[k]? with
 |some p=>
  have:=Z8 hp hw;subst this;refine Cl (λz=>absurd z (by intro y;cases y)) (λ_=>?_);k_is;have:=q H2 s2;show rI0 _ _ (V.int ((p:Nat):Int)) H2 Q;refine tY ?_;rw[show((j:Int)*32+((p:Nat):Int))=((32*j+p:Nat):Int) by lia];exact this
 |none=>
  obtain⟨hk,hp'⟩:=Zi hp hw;refine Cl (λ_=>?_) (λz=>absurd rfl z);refine Kc ?_;apply⟨a,ab,dx,_,_,rfl,s2 _ _ hx,ag.cl,ag.bR,rfl,?_⟩;apply Fa (SqT.of (s2 _ _ ht)) (Vi hj) ?_;k_is;rw[R7];refine⟨_,rfl,?_⟩;rw[rE];apply⟨a,ab,dx,_,_,rfl,s2 _ _ hx,ag.cl,ag.bR,rfl,?_⟩;k_is;rw[show((j:Int)+1)=((j+1:Nat):Int) by lia,show((k:Int)-((La b l j).length:Nat))=((k-(La b l j).length:Nat):Int) by lia];refine Fa (SqT.of (s2 _ _ ht)) (Vi (Na hp')) ?_;k_is;rw[R7];refine⟨_,k-(La b l j).length,rfl,λH3 s3=>?_⟩;rw[Xg];apply⟨⟨s2.trans s3,j+1,k-(La b l j).length,rfl,hp'⟩,?_⟩;show B6 l.length-(j+1)<μ;lia
inductive T9 (K:de)(C:dk)(ts:List Tb)(vs:List V)(H:Hp)(Q:VK)(E:XK):Prop|mk(a:dk)(l:Za5)(b:Bool)(n tt:Nat)(_:vs=[.ref a,.int (b.toNat:Nat),.int n])(_:Be K C H a l)(_:Tbs ts H)(_:(occ b l l.length)[n]?=some tt)(_:∀H',SmT ts H H'->Q (.int tt) H')
include T ag aq in
theorem Qn (F:Fun K "place_of" "Counts.place_of" E5 f fd)(aV:Cal P w K mg base "check_bit" 3 ["bit"] mB)(aW:Cal P w K mg base "check_place" 3 ["place","greatest"] Yk)(aX:Mth P w K mg base ab "many_like" 2 ["self","bit"] (Rm K ab))(aY:Mth P w K mg base ab "block_with" 4 ["self","bit","nth"] (Ki K ab ts))(aZ:Mth P w K mg base ab "place_from" 3 ["self","bit","number","nth"] (O5 K ab)):Av P w K mg base CX0 5 f fd ["self","bit","nth"] (T9 K ab ts):=by
 exists F.ok Ge
 obtain⟨a,l,b,n,tt,rfl,hC,hT,htt,q1⟩:=h;obtain⟨dx,t,u,hx,ht,hu,hl⟩:=id hC;refine⟨_,(Aa (Bm (Ar aV hr.m (tpa (pv 1) Ab))) (Aa (Bm (Ar aW hr.m (tpa (pv 2) (tpa (Ah Dl (E2 aX hr.m (pv 0) (tpa (pv 1) Ab)) Ad) Ab)))) (Aa (tst 3 Ge.nd (E2 aY hr.m (pv 0) (tpa (pv 1) (tpa (pv 2) Ab)))) (Ae (Ap (E2 aZ hr.m (pv 0) (tpa (pv 1) (tpa (Ah L4 (pv 3) (B1 rfl T.bT)) (tpa (Ah Dl (pv 2) (E2 aq hr.m (pv 0) (tpa (pv 1) (tpa (pv 3) Ab)))) Ab))))))))),?_⟩
 apply⟨b,rfl,?_⟩;apply⟨a,dx,_,rfl,hx,rfl,?_⟩;apply⟨a,l,b,rfl,hC,?_⟩;k_is;have hn:=Fc htt;refine⟨n,_,rfl,by lia,by lia,?_⟩;apply⟨a,dx,_,rfl,hx,rfl,?_⟩;apply⟨a,l,b,n,rfl,hC,hn,hT,λkb H1 hkb hle s1=>?_⟩;have h256:256*kb<=l.length:=by unfold B3 B6 at hkb;lia
 have hx1:=s1.k hx;have hC1:=hC.sm s1;apply⟨a,dx,_,rfl,hx1,rfl,?_⟩;apply⟨a,dx,_,rfl,hx1,rfl,?_⟩;apply⟨a,l,b,kb,rfl,hC1,by lia,?_⟩;rw[iz h256];apply⟨a,l,b,8*kb,n-(occ b l (256*kb)).length,tt,?_,hC1,?_,λH' s'=>?_⟩
 ·rw[show((kb:Int)*8)=((8*kb:Nat):Int) by lia,show((n:Int)-((occ b l (256*kb)).length:Nat))=((n-(occ b l (256*kb)).length:Nat):Int) by lia]
  rfl
 ·rw[show 32*(8*kb)=256*kb by lia,show(occ b l (256*kb)).length+(n-(occ b l (256*kb)).length)=n by lia,Vg (Xd l.length) hn]
  exact htt
 ·k_is
  exact q1 H' (s1.then s')
theorem G2.keep {K:de}{b:dk}{l:Za5}(h:G2 K C H b l)(k:∀c u,(∀ps,u≠.tbl ps)->(c=b\/∃xs,u=.tup xs)->H c=some u->H' c=some u):G2 K C H' b l:=by
 obtain⟨dx,t,h1,h2,h3⟩:=h;exact⟨dx,t,k _ _ (by intro ps e;cases e) (.inl rfl) h1,k _ _ (by intro ps e;cases e) (.inr ⟨_,rfl⟩) h2,h3⟩
theorem Be.keep {K:de}{b:dk}{l:Za5}(h:Be K C H b l)(k:∀c u,(∀ps,u≠.tbl ps)->(c=b\/∃xs,u=.tup xs)->H c=some u->H' c=some u):Be K C H' b l:=by
 obtain⟨dx,t,u,h1,h2,h3,h4⟩:=h;exact⟨dx,t,u,k _ _ (by intro ps e;cases e) (.inl rfl) h1,k _ _ (by intro ps e;cases e) (.inr ⟨_,rfl⟩) h2,k _ _ (by intro ps e;cases e) (.inr ⟨_,rfl⟩) h3,h4⟩
def ahV (es:Za4)(i:Nat):V:=if i=0 then .non else .int (es.getD (i-1) 0:Nat)
theorem Ye (l:Za5):(l.map λb=>[b]).flatten=l:=by
 induction l with
 |nil=>rfl
 |cons b r ih=>rw[ft,gd,ih];rfl
def bgB (es:Za4):Za5:=(d7 es.length).map λi=>!decide (V.int (es.getD i 0:Nat)=ahV es i)
inductive Sn (K:de)(CC:dk)(vs:List V)(H:Hp)(Q:VK)(E:XK):Prop|mk(l:dk)(es:Za4)(_:vs=[.ref l])(_:H l=some (.lst (nV es)))(_:es.length<=4000)(_:∀c H',Am H H'->H c=none->Be K CC H' c (bgB es)->Q (.ref c) H')
variable (aA:Mkr P w K mg base "Counts" ab 3 ["self","bits"] (Ng K ae ab)) (aB:Mkr P w K mg base "Bits" ae 3 ["self","text"] (Q8 K ae))
include T aA aB in
theorem Uz (F:Fun K "begins_of" "begins_of" Gr f fd):Av P w K mg base CX0 5 f fd ["things"] (Sn K ab):=by
 exists F.ok M9
 obtain⟨l,es,rfl,hl,hn,q⟩:=h;refine⟨_,(Aa (gR (i:=1) rfl Rn M9.nd rfl rfl (vM rfl T.cC (tpa (Ah Ik (Bc (tpa Jg Ab)) (pv 0)) (tpa (pv 0) Ab))) (λ_ _ _ _=>Ez) (λ_ _ _ _=>(Gi (ttc eZ (pv 1) (pv 0)) Ix Ix))) (Ae (Ap (Rf aA hr.m (tpa (Rf aB hr.m (tpa (Ef n4 z4 z0 eX Ix (tpa (pv 1) Ab)) Ab)) Ab))))),?_⟩
 apply⟨few (by simp),λp hp=>?_⟩;obtain⟨u1,hp1⟩:=Bu (o:=.lst [V.non]) hp;have hl1:=u1 _ _ hl;generalize upd H p _=H1 at *;apply⟨p,l,_,_,rfl,rfl,hp1,hl1,ig (An (by rw[Bz,rc];lia)),λp2 hp2=>?_⟩;obtain⟨u2,hp3⟩:=Bu (o:=.lst ([V.non]++nV es)) hp2;have hl2:=u2 _ _ hl1;have s2:=u1.trans u2;generalize upd H1 p2 _=H2 at *;apply⟨p2,l,rfl,⟨_,SqL.of hp3⟩,⟨_,SqL.of hl2⟩,?_⟩;refine vF (SqL.of hp3) (SqL.of hl2) (λi=>((bgB es).take i).map λb:Bool=>V.str (Bj [b])) rfl (λi hi=>?_) (λi x y H3 R A hx hy s3 _ hA=>?_) (λD H3 hD3 s3 h3=>?_)
 ·rw[da,dy]
  rw[Bz] at hi;exact An (by lia)
 ·obtain⟨n,hn2,rfl⟩:=G9 hy
  have hi:=Fc hn2;obtain rfl:x=ahV es i:=by
   cases i with
   |zero=>exact(dr hx).symm
   |succ j=>
    have hx:(nV es)[j]?=some x:=hx;obtain⟨m,hm,rfl⟩:=G9 hx;unfold ahV gr;rw[if_neg (by lia),show j+1-1=j by lia,hm];rfl
  have hsc:nI (V.int (n:Nat)) (ahV es i)=true:=by
   unfold ahV;split<;>rfl
  have hb:(bgB es)[i]?=some (!decide (V.int (n:Nat)=ahV es i)):=by
   unfold bgB gr;rw[du,gl hi];simp only[rm,hn2,ue]
  apply⟨hsc,?_⟩
  cases hb2:(!decide (V.int (n:Nat)=ahV es i)) with
  |true=>
   apply hA _ _ ?_ (Am.refl _);rw[il,hb,hb2,ed];rfl
  |false=>
   apply hA _ _ ?_ (Am.refl _);rw[il,hb,hb2,ed];rfl
 have hbl:(bgB es).length=es.length:=by unfold bgB;rw[da,d6]
 apply⟨rfl,?_⟩;apply Xp (ls:=(bgB es).map λb=>[b]) ?_ ?_ ?_
 ·rw[h3,fc (by rw[hbl,Bz,di,Bz,rc];lia),gx]
  rfl
 ·rw[Ye,hbl]
  lia
 rw[Ye];k_is;intro b db hb hdb hbd;refine⟨b,db,bgB es,rfl,Ac,by lia,λH5 s5 hB=>⟨rfl,?_⟩⟩;have s5:=Hw hb hdb s5;k_is;intro c dc hc hdc hcd;refine⟨c,dc,b,_,rfl,Ac,(hB.keep λc u _ _ e=>E3 hc hdc _ _ e),λH6 s6 hC=>⟨rfl,?_⟩⟩;have s6:=Hw hc hdc s6;have s25:=(s2.trans s3).trans s5;exact q c H6 (s25.trans s6) (s25.free hc) hC
inductive Yx(vs:List V)(H:Hp)(Q:VK)(E:XK):Prop|mk(a:dk)(xs:List V)(_:vs=[.ref a])(_:H a=some (.lst xs))(_:fC xs)(_:xs.length<=5000)(_:∀H',Am H H'->Q .non H')
include T am in
theorem Q0 (F:Fun K "check_order" "check_order" G6 f fd):Av P w K mg base CX0 3 f fd ["order"] Yx:=by
 exists F.ok Ex
 obtain⟨a,xs,rfl,ha,hG,hn,q⟩:=h;refine⟨_,(Aa (tst 1 Ex.nd (Ah L6 (Bc (tpa Gb Ab)) (Ak Ao (by rfl) T.bM Bx (tpa (pv 0) Ab)))) (Ae (Cr gh rfl (Pm rfl T.cx (tpa (pv 0) Ab)) (Og rfl (Cg (tgn 2 Ex.nd) (Cg (tgn 3 Ex.nd) Ky))) (Aa (Bp (PW.pt (Oy (C1 (B8 (Ar am hr.m (tpa (pv 3) (tpa Ad (tpa (Ah Dl (Ak Ao (by rfl) T.bM Bx (tpa (pv 0) Ab)) Ad) Ab)))))) (L7 (B8 (tix Bn (pv 1) (pv 3)))))) (Ae Ew)
  As) (Ae (Ob Gb (Re (pv 1) (pv 3) Ga))))))),?_⟩
 apply⟨few (by simp),λp hp=>?_⟩;have t0:=Ag (o:=.lst [V.bl false]) hp;apply⟨a,_,rfl,.inl (SqL.of (t0 _ _ ha)),?_⟩;apply⟨p,xs.length,_,rfl,rfl,Ac,by lia,by lia,ig (An (by simp;lia)),λm hm=>?_⟩;have hm0:=t0.free hm;have t1:=t0.trans (Ag (o:=.lst (dv ((xs.length:Nat):Int).toNat [V.bl false]).flatten) hm);have hM:(upd (upd H p (.lst [V.bl false])) m (.lst (dv ((xs.length:Nat):Int).toNat [V.bl false]).flatten)) m=some (.lst ((dv xs.length false).map V.bl)):=by
  rw[Ac,ge,jX]
 generalize (upd (upd H p (.lst [V.bl false])) m (.lst (dv ((xs.length:Nat):Int).toNat [V.bl false]).flatten))=H0 at *;apply⟨a,rfl,⟨_,SqL.of (t1 _ _ ha)⟩,?_⟩;refine Nf (xs:=xs) (λk G H1=>(∃(ms:Za5) (v2 v3:Option V),G=[some (.ref a),some (.ref m),v2,v3]/\Met xs k ms/\H1 m=some (.lst (ms.map V.bl)))/\Am H H1) ?_ (λk G H1 _ h=>SqL.of (h.2 _ _ ha)) ?_ ?_
 ·exact⟨⟨_,_,_,rfl,oI xs,hM⟩,t1⟩
 ·rintro k x G H1 t hx ⟨⟨ms,v2,v3,rfl,hms,hm1⟩,s1⟩ ht
  have hk:=Fc hx;have st:=Ag (o:=.tup [.int k,x]) ht;have hm2:=st _ _ hm1;have s2:=s1.trans st;generalize upd H1 t _=H2 at *;obtain⟨n,hxn,hnl,hno⟩:=hG k hk;rw[hx] at hxn;obtain rfl:=dr hxn;obtain⟨b,hb⟩:∃b,ms[n]?=some b:=⟨_,df (by rw[hms.1];exact hnl)⟩;obtain rfl:b=false:=by
   cases b with
   |false=>rfl
   |true=>
    obtain⟨j,hj,hxj⟩:=(hms.2 n true hb).mp rfl;exact absurd hxj (hno j hj)
  apply⟨a,_,rfl,.inl (SqL.of (s2 _ _ ha)),?_⟩;apply⟨n,0,_,rfl,by lia,by lia,?_⟩;apply B7 (SqL.of hm2) (A0 (uG hb)) ?_;apply Lo hm2 rfl (by rw[da,hms.1];exact hnl) ?_;rw[lZ];k_is;exact⟨⟨_,_,_,rfl,pN hms hx,Ac⟩,Az s2 hm0⟩
 ·rintro G H1 ⟨⟨ms,v2,v3,rfl,hms,hm1⟩,s1⟩
  exact q H1 s1
def isF:V->Bool
 |.bl false=>true
 |_=>false
def fAt (H:Hp)(m:dk):Nat:=match H m with|some (.lst xs)=>xs.countP isF|_=>0
theorem xN (ms:Za5):(ms.map V.bl).countP isF=ms.count false:=by
 induction ms with
 |nil=>rfl
 |cons b r ih=>cases b<;>simp[isF,List.countP_cons,qb,ih]
theorem kK {m:dk}{ms:Za5}(h:H m=some (.lst (ms.map V.bl))):fAt H m=ms.count false:=by
 unfold fAt;rw[h];exact xN ms
theorem gF:∀{ms:Za5} {y:Nat},ms[y]?=some false->(ms.set y true).count false+1=ms.count false
 |[],_,h=>by cases h
 |b::r,0,h=>by
  cases h;simp
 |b::r,y+1,h=>by
  have ih:=gF (ms:=r) (y:=y) h;rw[List.set_cons_succ,qb,qb];lia
def Dq (H:Hp)(n:Nat)(rs:List dk):Prop:=∀r∈rs,∃ns:List Int,ns.length<=n/\H r=some (.lst (ns.map V.int))
theorem Dq.same {rs:List dk}(s:Am H H')(h:Dq H n rs):Dq H' n rs:=λr hr=>let ⟨ns,hl,e⟩:=h r hr;⟨ns,hl,s _ _ e⟩
theorem Dq.upd {rs:List dk}{a:dk}{o:HO}(h:Dq H n rs)(hn:∀r∈rs,r≠a):Dq (upd H a o) n rs:=λr hr=>by
 obtain⟨ns,hl,e⟩:=h r hr;exact⟨ns,hl,by rw[Ai (hn r hr)];exact e⟩
inductive X0(vs:List V)(H:Hp)(Q:VK)(E:XK):Prop|mk(t:dk)(ns:Za4)(_:vs=[.ref t])(_:H t=some (.tup (nV ns)))(_:(∀x∈ns,x<ns.length))(_:ns.length<=5000)(_:∀p (rs:List dk) H',Am H H'->H p=none->H' p=some (.lst (rs.map V.ref))->rs.length<=ns.length->Dq H' ns.length rs->Q (.ref p) H')
include T in
theorem U2 (F:Fun K "rounds_of" "rounds_of" Jq f fd):Av P w K mg base CX0 1 f fd ["order"] X0:=by
 exists F.ok C2
 obtain⟨t,ns,rfl,ht,hb,hn,q⟩:=h;have hlV:(nV ns).length=ns.length:=by rw[da]
 refine⟨_,(Aa (tst 1 C2.nd (Bc Ab)) (Aa (tst 2 C2.nd (Ah L6 (Bc (tpa Gb Ab)) (Ak Ao (by rfl) T.bM Bx (tpa (pv 0) Ab)))) (Aa (Cr gh rfl (D0 rfl T.bN (tpa (Ak Ao (by rfl) T.bM Bx (tpa (pv 0) Ab)) Ab)) (tgn 3 C2.nd) (Aa (tst 4 C2.nd (Bc Ab)) (Aa (tst 5 C2.nd (pv 3)) (Aa (Fw gh (C1 (B8 (tix Bn (pv 2) (pv 5)))) (Aa (Ob Gb (Re (pv 2) (pv 5) Ga)) (Aa (Bm (Ef f9 ij ii Bs (pv 4) (tpa (pv 5) Ab))) (Ae (tst 5 C2.nd (tix Do (pv 0) (pv 5))))))) (Ae (Bp (ttc Lk (Ak Ao (by rfl) T.bM Bx (tpa (pv 4) Ab)) Ad) (Ae (Bm (Ef f9 ij ii Bs (pv 1) (tpa (pv 4) Ab))))
  As)))))) (Ae (Ap (pv 1)))))),?_⟩
 apply⟨f7 _,λp hp=>?_⟩;obtain⟨t0,e0⟩:=Bu (o:=.lst []) hp;generalize upd H p _=H0 at *;apply⟨few (by simp),λp1 hp1=>?_⟩;have t1:=Ag (o:=.lst [V.bl false]) hp1;have s1:=t0.trans t1;have e1:=t1 _ _ e0;have f1:=@Ac H0 p1 (.lst [V.bl false]);generalize upd H0 p1 _=H1 at *;apply⟨t,_,rfl,.inr (SqT.of (s1 _ _ ht)),?_⟩;apply⟨p1,_,_,rfl,rfl,f1,by lia,by rw[hlV];lia,ig (An (by simp;lia)),λm hm=>?_⟩;have t2:=Ag (o:=.lst (dv (((nV ns).length:Nat):Int).toNat [V.bl false]).flatten) hm;have s2:=s1.trans t2;have hm0:=s1.free hm;have e2:=t2 _ _ e1;have hpm:p≠m:=Aj e1 hm;have hM:(upd H1 m (.lst (dv (((nV ns).length:Nat):Int).toNat [V.bl false]).flatten)) m=some (.lst ((dv ns.length false).map V.bl)):=by
  rw[Ac,ge,hlV,jX]
 generalize (upd H1 m (.lst (dv (((nV ns).length:Nat):Int).toNat [V.bl false]).flatten))=H2 at *;apply⟨t,_,rfl,.inr (SqT.of (s2 _ _ ht)),?_⟩;apply⟨_,rfl,by lia,by rw[hlV];lia,?_⟩;rw[hlV,ge];refine Hu (λi G H3=>∃(rs:List dk) (ms:Za5) (v3 v4 v5:Option V),G=[some (.ref t),some (.ref p),some (.ref m),v3,v4,v5]/\H3 p=some (.lst (rs.map V.ref))/\rs.length<=i/\Dq H3 ns.length rs/\(∀r∈rs,r≠p/\r≠m)/\H3 m=some (.lst (ms.map V.bl))/\ms.length=ns.length/\Am H H3) ?_ ?_ ?_
 ·exact⟨[],_,_,_,_,rfl,e2,dh _,(λr hr=>by cases hr),(λr hr=>by cases hr),hM,gy,s2⟩
 ·rintro i G H3 hi ⟨rs,ms,v3,v4,v5,rfl,hp3,hrl,hrs,hne,hm3,hml,s3⟩
  apply⟨f7 _,λa ha=>?_⟩;have ta:=Ag (o:=.lst []) ha;have ha0:=s3.free ha;have hap:a≠p:=(Aj hp3 ha).symm;have ham:a≠m:=(Aj hm3 ha).symm;have har:∀r∈rs,r≠a:=λr hr=>by obtain⟨_,_,e⟩:=hrs r hr;exact Aj e ha
  have s4:=s3.trans ta;have hp4:=ta _ _ hp3;have hm4:=ta _ _ hm3;have hrs4:=hrs.same ta;have ha4:=@Ac H3 a (.lst []);generalize upd H3 a _=H4 at *;apply Fx (λG H5=>∃(ms:Za5) (qs:List Int) (y:Nat),G=[some (.ref t),some (.ref p),some (.ref m),some (.int (0+(i:Int))),some (.ref a),some (.int y)]/\y<ns.length/\H5 p=some (.lst (rs.map V.ref))/\Dq H5 ns.length rs/\H5 m=some (.lst (ms.map V.bl))/\ms.length=ns.length/\H5 a=some (.lst (qs.map V.int))/\qs.length+ms.count false<=ns.length/\Am H H5) (λ_ H5=>fAt H5 m)
   ⟨ms,[],i,by simp,hi,hp4,hrs4,hm4,hml,ha4,by have:=List.count_le_length (a:=false) (l:=ms);simp;lia,s4⟩ ?_
  rintro z G H5 ⟨ms,qs,y,rfl,hy,hp5,hrs5,hm5,hml5,ha5,hc5,s5⟩ hz;rw[kK hm5] at hz;obtain⟨b,hb5⟩:∃b,ms[y]?=some b:=⟨_,df (by lia)⟩;apply B7 (SqL.of hm5) (A0 (uG hb5)) ?_
  cases b with
  |false=>
   apply Kc ?_;apply Lo hm5 rfl (by rw[da];lia) ?_;rw[lZ];have hct:=gF hb5;have hm6:=@Ac H5 m (.lst ((ms.set y true).map V.bl));have s6:=Az (o:=.lst ((ms.set y true).map V.bl)) s5 hm0;have ha6:upd H5 m (.lst ((ms.set y true).map V.bl)) a=some (.lst (qs.map V.int)):=by rw[Ai ham];exact ha5
   have hp6:upd H5 m (.lst ((ms.set y true).map V.bl)) p=some (.lst (rs.map V.ref)):=by rw[Ai hpm];exact hp5
   have hrs6:Dq (upd H5 m (.lst ((ms.set y true).map V.bl))) ns.length rs:=hrs5.upd λr hr=>(hne r hr).2;generalize upd H5 m _=H6 at *;apply⟨.inl ⟨rfl,_,SqL.of ha6⟩,?_⟩;apply Cv ha6 (by rw[da];exact An (by lia)) ?_;k_is;have hx:ns[y]?=some ns[y]:=df hy;have hlt:=hb _ (d5 hx);generalize ns[y]=x at hx hlt;refine Fa (SqT.of ((Az s6 ha0) _ _ ht)) (v:=.int x) (A0 (by rw[du,hx];rfl)) ?_;apply⟨⟨ms.set y true,qs++[(y:Int)],x,rfl,hlt,by rw[Ai hap.symm];exact hp6,hrs6.upd har,by rw[Ai ham.symm];exact hm6,by rw[my];exact hml5,by rw[Ac,ed];rfl,by rw[di];simp;lia,Az s6 ha0⟩,?_⟩;rw[kK (ms:=ms.set y true) (by rw[Ai ham.symm];exact hm6)];lia
  |true=>
   apply⟨a,_,rfl,.inl (SqL.of ha5),?_⟩;apply Cl (λ_=>?_) (λ_=>?_)
   ·apply⟨.inl ⟨rfl,_,SqL.of hp5⟩,?_⟩;apply Cv hp5 (by rw[da];exact An (by lia)) ?_;apply⟨rs++[a],ms,_,_,_,rfl,by rw[Ac,ed];rfl,by rw[di];simp;lia,λr hr=>?_,λr hr=>?_,by rw[Ai hpm.symm];exact hm5,hml5,Az s5 hp⟩
    ·rcases gj.mp hr with hr|hr
     ·exact(hrs5.upd λr hr=>(hne r hr).1) r hr
     ·rw[ee.mp hr]
      exact⟨qs,by lia,by rw[Ai hap];exact ha5⟩
    ·rcases gj.mp hr with hr|hr
     ·exact hne r hr
     ·rw[ee.mp hr]
      exact⟨hap,ham⟩
   ·k_is
    exact⟨rs,ms,_,_,_,rfl,hp5,by lia,hrs5,hne,hm5,hml5,s5⟩
 ·rintro G H3 ⟨rs,ms,v3,v4,v5,rfl,hp3,hrl,hrs,hne,hm3,hml,s3⟩
  k_is;exact q p rs H3 s3 hp hp3 hrl hrs
theorem Zv (ys:List V):(G5 ys (some (-1)) none++G5 ys none (some (-1))).length=ys.length:=by
 rw[di];unfold G5;rw[dy,dy,io,io];show min (ys.length-(if(-1:Int)<0 then((-1:Int)+(ys.length:Int)).toNat else min (-1:Int).toNat ys.length)) (ys.length-(if(-1:Int)<0 then((-1:Int)+(ys.length:Int)).toNat else min (-1:Int).toNat ys.length))
  + min ((if(-1:Int)<0 then((-1:Int)+(ys.length:Int)).toNat else min (-1:Int).toNat ys.length)-0) (ys.length-0)=ys.length
 rw[if_pos (by decide)];lia
theorem Nj {qs:List Int}(h:∀v∈ys,v∈qs.map V.int):∃zs:List Int,ys=zs.map V.int:=by
 induction ys with
 |nil=>exact⟨[],rfl⟩
 |cons y r ih=>
  obtain⟨zs,e⟩:=ih λv hv=>h v (fb _ hv);obtain⟨z,_,hz⟩:=fz.mp (h y fi);exact⟨z::zs,by rw[e,<-hz];rfl⟩
inductive eP(vs:List V)(H:Hp)(Q:VK)(E:XK):Prop|mk(t:dk)(ns:Za4)(st:Int)(_:vs=[.ref t,.int st])(_:H t=some (.tup (nV ns)))(_:(∀x∈ns,x<ns.length))(_:ns.length<=3000)(_:0<st)(_:∀d (kvs:List (Key×V)) H',Am H H'->H d=none->H' d=some (.dK kvs)->Q (.ref d) H')
theorem jQ (h:n<=10000000):n<=sizeLine:=fq h (by decide)
include T in
theorem Pb (F:Fun K "shortcuts_of" "shortcuts_of" Gh f fd)(ba:Cal P w K mg base "rounds_of" 1 ["order"] X0):Av P w K mg base CX0 2 f fd ["order","step"] eP:=by
 exists F.ok Eh
 obtain⟨t,ns,st,rfl,ht,hb,hn,hst,q⟩:=h;refine⟨_,(Aa (tst 2 Eh.nd eO) (Aa (Cr gh rfl (Cn (Ar ba hr.m (tpa (pv 0) Ab))) (tgn 3 Eh.nd) (Ae (Bp (ttc Lk (Ak Ao (by rfl) T.bM Bx (tpa (pv 3) Ab)) (pv 1)) (Aa (tst 4 Eh.nd (tI (pv 3) (pv 1))) (Ae (Bm (Ef PySem.F.plainAttrs_dict zb PySem.F.type_dict_update iV (pv 2) (tpa (tL rfl rfl T.cE rfl T.cC (tpa (pv 4) (tpa (Ah Ik (Fv Kx (pv 4) (Fp (Fq Dx Ad)) Ks) (Fv Kx (pv 4) Ks (Fp (Fq Dx Ad)))) Ab))) Ab)))))
  As))) (Ae (Ap (pv 2))))),?_⟩
 k_is;intro d hd;obtain⟨t0,e0⟩:=Bu (o:=.dK []) hd;generalize upd H d _=H0 at *;apply⟨t,ns,rfl,t0 _ _ ht,hb,by lia,λp rs H1 s1 f1 e1 hl hrs=>?_⟩;have s01:=t0.trans s1;refine⟨p,rfl,⟨_,SqL.of e1⟩,?_⟩;refine Ev (xs:=rs.map V.ref) (λi G H2=>∃(kvs:List (Key×V)) (v3 v4:Option V),G=[some (.ref t),some (.int st),some (.ref d),v3,v4]/\H2 d=some (.dK kvs)/\kvs.length<=i*3000/\H2 p=some (.lst (rs.map V.ref))/\Dq H2 ns.length rs/\Am H H2) ?_ (λk G H2 _ h=>by obtain⟨_,_,_,_,_,_,h,_⟩:=h;exact SqL.of h) ?_ ?_
 ·exact⟨[],_,_,rfl,s1 _ _ e0,f7 _,e1,hrs,s01⟩
 ·rintro i x G H2 hx ⟨kvs,v3,v4,rfl,hd2,hk,hp2,hrs2,s2⟩
  have hi:=Fc hx;rw[da] at hi;rw[du] at hx;obtain⟨r,hr,rfl⟩:∃r,rs[i]?=some r/\V.ref r=x:=by
   cases e:rs[i]? with
   |none=>rw[e] at hx;cases hx
   |some r=>rw[e] at hx;exact⟨r,rfl,dr hx⟩
  obtain⟨qs,hql,hqr⟩:=hrs2 r (d5 hr);apply⟨r,_,rfl,.inl (SqL.of hqr),?_⟩;apply Cl (λ_=>?_) (λ_=>?_)
  ·apply⟨r,_,st,rfl,rfl,hst,SqL.of hqr,λa ys ha hys hyl=>?_⟩;obtain⟨zs,rfl⟩:=Nj hys;rw[da,da] at hyl;have t3:=Ag (o:=.lst (zs.map V.int)) ha;have s3:=s2.trans t3;have ha3:=@Ac H2 a (.lst (zs.map V.int));have hd3:=t3 _ _ hd2;have hp3:=t3 _ _ hp2;have hrs3:=hrs2.same t3;generalize upd H2 a _=H3 at *;apply⟨.inr (.inr (.inl ⟨rfl,.inl ⟨_,hd3⟩⟩)),?_⟩;apply⟨a,_,rfl,SqL.of ha3,λb1 hb1=>?_⟩;obtain⟨t4,hb4⟩:=Bu (o:=.lst (G5 (zs.map V.int) (some (-1)) none)) hb1;have ha4:=t4 _ _ ha3;have s4:=s3.trans t4;have hd4:=t4 _ _ hd3;have hp4:=t4 _ _ hp3;have hrs4:=hrs3.same t4;generalize upd H3 b1 _=H4 at *;apply⟨a,_,rfl,SqL.of ha4,λb2 hb2=>?_⟩;obtain⟨t5,hb5⟩:=Bu (o:=.lst (G5 (zs.map V.int) none (some (-1)))) hb2;have ha5:=t5 _ _ ha4;have hc5:=t5 _ _ hb4;have s5:=s4.trans t5;have hd5:=t5 _ _ hd4;have hp5:=t5 _ _ hp4;have hrs5:=hrs4.same t5;generalize upd H4 b2 _=H5 at *;have hlen:=Zv (zs.map V.int);rw[di,da] at hlen;apply⟨b1,b2,_,_,rfl,rfl,hc5,hb5,jQ (by lia),λc hc=>?_⟩;obtain⟨t6,hc6⟩:=Bu (o:=.lst (G5 (zs.map V.int) (some (-1)) none++G5 (zs.map V.int) none (some (-1)))) hc;have ha6:=t6 _ _ ha5;have s6:=s5.trans t6;have hd6:=t6 _ _ hd5;have hp6:=t6 _ _ hp5;have hrs6:=hrs5.same t6;generalize upd H5 c _=H6 at *;refine⟨a,c,zs,_,rfl,SqL.of ha6,SqL.of hc6,by rw[di];lia,λg kvs2 hg hkl=>?_⟩;obtain⟨t7,hg7⟩:=Bu (o:=.dK kvs2) hg;have s7:=s6.trans t7;have hd7:=t7 _ _ hd6;have hp7:=t7 _ _ hp6;have hrs7:=hrs6.same t7;have hdg:d≠g:=Aj hd6 hg;generalize upd H6 g _=H7 at *;have hk5:kvs.length<=3000*3000:=fq hk (Nat.mul_le_mul (by lia) (dh _));apply mW hdg hd7 hg7 (jQ (by lia)) λkvs' hk'=>?_;apply⟨kvs',_,_,rfl,Ac,by rw[we];lia,?_,hrs7.upd λr hr e=>?_,Az s7 hd⟩
   ·have hne:p≠d:=F2 hp7 hd7 (by intro z;cases z)
    rw[Ai hne];exact hp7
   ·obtain⟨_,_,er⟩:=hrs7 r hr
    rw[e,hd7] at er;cases er
  ·k_is
   exact⟨kvs,_,_,rfl,hd2,by rw[we];lia,hp2,hrs2,s2⟩
 ·rintro G H2 ⟨kvs,v3,v4,rfl,hd2,hk,hp2,hrs2,s2⟩
  k_is;exact q d kvs H2 s2 hd hd2
theorem cV (h:fC xs):∃ns:Za4,xs=nV ns/\∀x∈ns,x<ns.length:=by
 have key:∀ys:List V,(∀y∈ys,∃n:Nat,y=V.int n/\n<xs.length)->∃ns:Za4,ys=nV ns/\∀x∈ns,x<xs.length:=λys=>by
  induction ys with
  |nil=>exact λ_=>⟨[],rfl,λx hx=>by cases hx⟩
  |cons y r ih=>
   intro hy;obtain⟨ns,e,hb⟩:=ih λv hv=>hy v (fb _ hv);obtain⟨n,e1,hn⟩:=hy y fi;refine⟨n::ns,by rw[e,e1];rfl,λx hx=>?_⟩;rcases gt.mp hx with rfl|hx
   ·exact hn
   ·exact hb x hx
 obtain⟨ns,e,hb⟩:=key xs λy hy=>by
  obtain⟨j,hj⟩:=ly hy;obtain⟨n,h1,h2,_⟩:=h j (Fc hj);rw[hj] at h1;exact⟨n,dr h1,h2⟩
 refine⟨ns,e,λx hx=>?_⟩;have:=hb x hx;rw[e,da] at this;exact this
inductive Nc (C:dk)(vs:List V)(H:Hp)(Q:VK)(E:XK):Prop|mk(x dx a:dk)(xs:List V)(st:Int)(_:vs=[.ref x,.ref a,.int st])(_:H x=some (.ins C dx []))(_:H a=some (.lst xs))(_:fC xs)(_:xs.length<=3000)(_:0<st)(_:∀H',SameBut x H H'->Q .non H')
include T in
theorem Qe (F:Y6 K "__init__" "Shortcuts.__init__" Bt f fd)(Z:Qc K ah)(be:Cal P w K mg base "check_order" 3 ["order"] Yx)(bf:Cal P w K mg base "shortcuts_of" 2 ["order","step"] eP):Av P w K mg base (CXE P w) 4 f fd ["self","order","step"] (Nc ah):=by
 exists F.okE Nh
 obtain⟨x,dx,a,xs,st,rfl,hx,ha,hG,hn,hst,q⟩:=h;refine⟨_,(Aa (Bm (Ar be hr.m (tpa (pv 1) Ab))) (Aa (tsf (pv 0) (De Hb (by rfl) T.cq Pj (tpa (pv 1) Ab))) (Ae (tsf (pv 0) (Ar bf hr.m (tpa (tfl (pv 0)) (tpa (pv 2) Ab))))))),?_⟩
 apply⟨a,xs,rfl,ha,hG,by lia,λH1 s1=>?_⟩;obtain⟨ns,rfl,hb⟩:=cV hG;have hx1:=s1 _ _ hx;have ha1:=s1 _ _ ha;apply⟨a,_,rfl,.inl ⟨SqL.of ha1,λt ht=>?_⟩⟩;have t2:=Ag (o:=.tup (nV ns)) ht;have hx2:=t2 _ _ hx1;have ht2:=@Ac H1 t (.tup (nV ns));have s2:=s1.trans t2;generalize upd H1 t _=H2 at *;have htx:t≠x:=F2 ht2 hx2 (by intro z;cases z);apply Gq hx2 Z.cl Z.cA (by decide) ?_;have hx3:upd H2 x (.ins ah dx (Ft "onward" (.ref t) [])) x=some (.ins ah dx [("onward",.ref t)]):=Ac;have ht3:upd H2 x (.ins ah dx (Ft "onward" (.ref t) [])) t=some (.tup (nV ns)):=by rw[Ai htx];exact ht2
 have s3:=s2.but.trans (Ds (H:=H2) (x:=x) (o:=.ins ah dx (Ft "onward" (.ref t) [])));generalize upd H2 x _=H3 at *;apply⟨x,ah,dx,_,.ref t,rfl,hx3,Z.cl,Z.cA,rfl,?_⟩;apply⟨t,ns,st,rfl,ht3,hb,by rw[da] at hn;exact hn,hst,λd kvs H4 s4 f4 e4=>?_⟩;apply Gq (s4 _ _ hx3) Z.cl Z.bQ (show 1<1000 by decide) ?_;k_is;exact q _ ((s3.trans s4.but).trans Ds)
inductive oY(vs:List V)(H:Hp)(Q:VK)(E:XK):Prop|mk(a:dk)(ds:Za4)(_:vs=[.ref a])(_:H a=some (.lst ((A4 ds).map V.int)))(_:Dok ds)(_:ds.length<4000)(_:∀l H',Am H H'->H' l=some (.lst ((A4 ds).map V.int))->Q (.ref l) H')
include T ap in
theorem cI (F:Fun K "look_at" "look_at" On f fd):Av P w K mg base CX0 2 f fd ["elders"] oY:=by
 exists F.ok Ic
 obtain⟨a,ds,rfl,ha,hD,hn,q⟩:=h;refine⟨_,(Aa (Bp (C1 (B8 (Ak Dm (by rfl) T.bV C5 (tpa (pv 0) (tpa (Ii (v:=.ty "list") rfl T.bW Lq rfl) Ab))))) (Ae Ew)
  As) (Aa (tst 1 Ic.nd (Bc (tpa (Fq Dx Ad) Ab))) (Aa (Cr gh rfl (Pm rfl T.cx (tpa (pv 0) Ab)) (Og rfl (Cg (tgn 2 Ic.nd) (Cg (tgn 3 Ic.nd) Ky))) (Aa (Bp (PW.pt (Oy (ttc Fs (pv 2) (B1 rfl T.cf)) (Oy (C1 (B8 (Ar ap hr.m (tpa (pv 3) Ab)))) (L7 (ttc Kp (pv 3) (Fq Dx Ad)))))) (Ae Ew)
  As) (Aa (Fw gh (ttc Lk (tix Bn (pv 1) (Fq Dx Ad)) (pv 3)) (Ae (Bm (cM f9 PySem.F.slot_list_pop PySem.F.type_list_pop wW (pv 1))))) (Aa (Bp (ttc eZ (tix Bn (pv 1) (Fq Dx Ad)) (pv 3)) (Ae Ew)
  As) (Ae (Bm (Ef f9 ij ii Bs (pv 1) (tpa (pv 2) Ab)))))))) (Ae (Ap (De Et (by rfl) T.bW Lq (tpa (pv 0) Ab))))))),?_⟩
 apply⟨_,_,_,_,rfl,.lst ha,Sq,?_⟩;apply⟨few (by simp),λp hp=>?_⟩;k_is;have t0:=Ag (o:=.lst [V.int (-1)]) hp;refine⟨a,rfl,⟨_,SqL.of (t0 _ _ ha)⟩,?_⟩;refine Nf (xs:=(A4 ds).map V.int) (λk G H1=>(∃v2 v3:Option V,G=[some (.ref a),some (.ref p),v2,v3])/\H1 p=some (.lst ((way ds k).map V.int))/\Am H H1) ⟨⟨_,_,rfl⟩,Ac,t0⟩ (λk G H1 _ h=>SqL.of (h.2.2 _ _ ha)) ?_ ?_
 ·rintro k x G H1 t hx ⟨⟨v2,v3,rfl⟩,hp1,s1⟩ ht
  have hk:=Fc hx;rw[da,Bv] at hk;obtain⟨e,he,rfl⟩:=Jy hx;rw[Pp hk] at he;obtain rfl:=dr he;have st:=Ag (o:=.tup [.int k,.int (eld ds k)]) ht;have hp2:=st _ _ hp1;have s2:=s1.trans st;generalize upd H1 t _=H2 at *;apply Cl (λh=>?_) (λ_=>?_)
  ·have:=V.int.inj h
   lia
  apply⟨_,rfl,?_⟩;k_is;have hge:=Sa hD hk;refine Cl (λh=>by lia) (λ_=>?_);k_is;have hl:=Cd hD k (by lia);have hd:=hD k hk;refine Fx (λG H3=>G=[some (.ref a),some (.ref p),some (.int k),some (.int (eld ds k))]/\Am H H3/\∃m,dAt ds k+1<=m/\m<=(way ds k).length/\H3 p=some (.lst (((way ds k).take m).map V.int))) (λ_ H3=>qH H3 p)
   ⟨rfl,s2,(way ds k).length,by lia,dh _,by rw[fc (dh _)];exact hp2⟩ ?_
  rintro z G H3 ⟨rfl,s3,m,hm1,hm2,hp3⟩ hz;rw[Xv hp3,M8 hm2] at hz;k_is;have hx1:(way ds k)[m-1]?=some ((way ds k)[m-1]'(by lia)):=df _;generalize (way ds k)[m-1]'(by lia)=y at hx1;refine B7 (SqL.of hp3) (Tr (by lia) hx1) ?_;k_is;have hea:=Hc hD hk;refine Cl (λh=>?_) (λh=>?_)
  ·have hne:m-1≠dAt ds k:=λe=>by
    rw[e,hea] at hx1;have:=dr hx1;lia
   refine Kc ?_;apply⟨.inl ⟨rfl,_,SqL.of hp3⟩,?_⟩;refine⟨p,_,.int y,rfl,rfl,hp3,?_,?_⟩
   ·rw[M8 hm2,Pz (n:=y)]
    rw[gq (by lia)];exact hx1
   k_is;rw[gU hm2];refine⟨⟨rfl,Az s3 hp,m-1,by lia,by lia,Ac⟩,?_⟩;rw[Xv Ac,M8 (by lia)];lia
  ·have hme:m=dAt ds k+1:=by
    by_cases e:m-1=dAt ds k
    ·lia
    ·have:=dF hD k (dAt ds k) (m-1) _ _ (by lia) (by lia) hea hx1
     lia
   subst hme;have hy:y=eld ds k:=by
    rw[show dAt ds k+1-1=dAt ds k by lia,hea] at hx1;exact(dr hx1).symm
   apply B7 (SqL.of hp3) (Tr (by lia) hx1) ?_;apply vO (λh1=>absurd (congrArg V.int hy) h1) (λ_=>?_);apply⟨.inl ⟨rfl,_,SqL.of hp3⟩,?_⟩;apply Cv hp3 ?_ ?_
   ·rw[M8 hm2]
    exact An (by have:=Vp hD k (by lia);lia)
   apply⟨⟨_,_,rfl⟩,?_,Az s3 hp⟩;rw[Ac];show _=some (HO.lst (((way ds k).take (dAt ds k+1)++[(k:Int)]).map V.int));rw[ed];rfl
 ·rintro G H1 ⟨⟨v2,v3,rfl⟩,hp1,s1⟩
  apply⟨a,_,rfl,.inl (SqL.of (s1 _ _ ha)),λl hl=>?_⟩;exact q l _ (s1.trans (Ag hl)) Ac
inductive Xm(vs:List V)(H:Hp)(Q:VK)(E:XK):Prop|mk(a:dk)(ds:Za4)(_:vs=[.ref a])(_:H a=some (.lst ((A4 ds).map V.int)))(_:Dok ds)(_:ds.length<4000)(_:∀l H',Am H H'->H' l=some (.lst (nV ds))->Q (.ref l) H')
theorem Tl {ds:Za4}{k:Nat}(hk:k<ds.length):nV (ds.take k)++[V.int (dAt ds k:Nat)]=nV (ds.take (k+1)):=by
 rw[il,df hk,<-Va];unfold dAt gr;rw[df hk];rfl
include T in
theorem U8 (F:Fun K "depths_of" "depths_of" J5 f fd):Av P w K mg base CX0 1 f fd ["elders"] Xm:=by
 exists F.ok Jf
 obtain⟨a,ds,rfl,ha,hD,hn,q⟩:=h;refine⟨_,(Aa (tst 1 Jf.nd (Bc Ab)) (Aa (Cr gh rfl (Cn (pv 0)) (tgn 2 Jf.nd) (Ae (Bm (Ef f9 ij ii Bs (pv 1) (tpa (Gi (ttc Fs (pv 2) (Fq Dx Ad)) Ad (Ah At (tix Bn (pv 1) (pv 2)) Ad)) Ab))))) (Ae (Ap (pv 1))))),?_⟩
 apply⟨f7 _,λp hp=>?_⟩;k_is;have t0:=Ag (o:=.lst []) hp;refine⟨a,rfl,⟨_,SqL.of (t0 _ _ ha)⟩,?_⟩;refine Ev (xs:=(A4 ds).map V.int) (λk G H1=>(∃v2:Option V,G=[some (.ref a),some (.ref p),v2])/\H1 p=some (.lst (nV (ds.take k)))/\Am H H1) ⟨⟨_,rfl⟩,Ac,t0⟩ (λk G H1 _ h=>SqL.of (h.2.2 _ _ ha)) ?_ ?_
 ·rintro k x G H1 hx ⟨⟨v2,rfl⟩,hp1,s1⟩
  have hk:=Fc hx;rw[da,Bv] at hk;obtain⟨e,he,rfl⟩:=Jy hx;rw[Pp hk] at he;obtain rfl:=dr he;have hz:(nV (ds.take k)).length<sizeLine:=by
   rw[Bz,dy];exact An (by lia)
  apply⟨.inl ⟨rfl,_,SqL.of hp1⟩,?_⟩;apply Cl (λh=>?_) (λh=>?_)
  ·have hd:=Wm hD hk (V.int.inj h)
   apply Cv hp1 hz ?_;apply⟨⟨_,rfl⟩,?_,Az s1 hp⟩;rw[Ac,<-Tl hk,hd];rfl
  ·obtain⟨v,hv,hlt,hd⟩:=Dp hD hk (λe=>h (congrArg V.int e))
   k_is;rw[hv];refine B7 (SqL.of hp1) (v:=.int (dAt ds v:Nat)) ?_ ?_
   ·refine A0 (Ys ?_)
    rw[gq hlt,df (by lia)];unfold dAt gr;rw[df (by lia)];rfl
   apply Cv hp1 hz ?_;apply⟨⟨_,rfl⟩,?_,Az s1 hp⟩;rw[Ac,<-Tl hk,hd];rfl
 ·rintro G H1 ⟨⟨v2,rfl⟩,hp1,s1⟩
  rw[da,Bv,fc (dh _)] at hp1;k_is;exact q p H1 s1 hp1
inductive N7 (ts:List Tb)(vs:List V)(H:Hp)(Q:VK)(E:XK):Prop|mk(l:dk)(ds:Za4)(_:vs=[.ref l])(_:H l=some (.lst (nV ds)))(_:ds.length<=10000)(_:Tbs ts H)(_:∀p H',SmT ts H H'->H p=none->H' p=some (.lst ((Cb ds).map V.int))->Q (.ref p) H')
include T hK hB in
theorem Rk {f c:dk}(F:Sr K "level_order" "level_order" Dd f fd c Pt)(hts:(⟨Pt,Jh,"level_order.<locals>.<lambda>"⟩:Tb)∈ts):Av P w K mg base CX0 2 f fd ["depths"] (N7 ts):=by
 refine F.ok Rw (λvs H Q E h=>?_) (λA outer s H vs Q E hr h=>?_)
 ·obtain⟨l,ds,rfl,_⟩:=h
  rfl
 ·obtain⟨l,ds,rfl,hl,hn,ht,q⟩:=h
  refine⟨_,(Ae (Ap (X6 (qual:="level_order.<locals>.<lambda>") (i:=0) (cl:=s.heap.objs.size+1) rfl hr.m rfl T.cw (rN rfl T.bN (tpa (Ak Ao (by rfl) T.bM Bx (tpa (pv 0) Ab)) Ab)) (F.code hK) hB rfl rfl (by kernel_rfl) (by kernel_rfl) (by kernel_rfl) (by kernel_rfl) (λ_ _ _ _ _=>rfl)))),?_⟩;apply⟨l,_,rfl,.inl (SqL.of hl),?_⟩;k_is;have e1:(nV ds).length=ds.length:=by unfold nV;rw[da]
  rw[e1];refine⟨ds.length,rfl,by lia,λp hp=>?_⟩;have s1:=Ag (o:=.rng 0 (ds.length:Int)) hp;have el:(iN ds).length=ds.length:=da ..;have ht1:=ht.same s1;refine⟨p,l,iN ds,rfl,rfl,by rw[<-Kq];exact s1 _ _ hl,by rw[el];lia,.inr (by rw[el];exact Ac),ht1.1 _ hts,λp2 H' sx t2 hp2 hp3=>?_⟩;refine q p2 H' ((SmT.of ht s1).trans (qK ht1 hts sx t2)) (s1.free hp2) ?_;rw[hp3,el];rfl
theorem Ts (n:Nat):(dv n [V.int 0]).flatten=(dv n (0:Int)).map V.int:=by
 induction n with
 |zero=>rfl
 |succ n ih=>rw[im,gd,ih,im];rfl
def gsK (ds:Za4)(k:Nat):Za4:=(d7 (ds.length+1)).map λj:Nat=>(Ba ds k ((j:Int)-1)).length
theorem Mh (ds:Za4)(k:Nat):(gsK ds k).length=ds.length+1:=by unfold gsK;rw[da,d6]
theorem Vv {ds:Za4}{k j:Nat}(hj:j<ds.length+1):(gsK ds k)[j]?=some (Ba ds k ((j:Int)-1)).length:=by unfold gsK;rw[du,gl hj];rfl
theorem qB (ds:Za4):gsK ds 0=dv (ds.length+1) 0:=by
 refine j2 λj=>?_
 by_cases hj:j<ds.length+1
 ·rw[Vv hj,qk,if_pos hj];rfl
 ·rw[f8 (by rw[Mh];lia),f8 (by rw[gy];lia)]
theorem rH (ds:Za4):gsK ds ds.length=gsC ds:=by
 unfold gsK gsC;rw[ux,ft,gx];refine congr (congrArg List.cons rfl) (jg λj _=>?_);show(Ba ds ds.length (((j+1:Nat):Int)-1)).length=_;rw[show(((j+1:Nat):Int)-1)=(j:Int) by lia]
theorem oE {ds:Za4}{k e:Nat}(he:eld ds k=(e:Int)-1)(h1:e<ds.length+1):gsK ds (k+1)=(gsK ds k).set e ((Ba ds k ((e:Int)-1)).length+1):=by
 refine j2 λj=>?_
 by_cases hj:j<ds.length+1
 ·rw[Vv hj,ud]
  by_cases hje:e=j
  ·subst hje
   rw[if_pos rfl,if_pos (by rw[Mh];exact h1),Jx he,di];rfl
  ·rw[if_neg hje,Vv hj,M0 (by rw[he];lia)]
 ·rw[f8 (by rw[Mh];lia),f8 (by rw[my,Mh];lia)]
inductive P6(vs:List V)(H:Hp)(Q:VK)(E:XK):Prop|mk(l:dk)(ds:Za4)(_:vs=[.ref l])(_:H l=some (.lst ((A4 ds).map V.int)))(_:Dok ds)(_:ds.length<=4000)(_:∀p H',Am H H'->H p=none->H' p=some (.lst (nV (gsC ds)))->Q (.ref p) H')
include T in
theorem Lb (F:Fun K "children_counted" "children_counted" Ei f fd):Av P w K mg base CX0 1 f fd ["elders"] P6:=by
 exists F.ok Eb
 obtain⟨l,ds,rfl,hl,hD,hn,q⟩:=h;have hel:((A4 ds).map V.int).length=ds.length:=by unfold A4;rw[da,da,d6]
 refine⟨_,(Aa (tst 1 Eb.nd (Ah L6 (Bc (tpa Ad Ab)) (Ah At (Ak Ao (by rfl) T.bM Bx (tpa (pv 0) Ab)) Ad))) (Aa (Cr gh rfl (Cn (pv 0)) (tgn 2 Eb.nd) (Ae (U3 (pv 1) (Ah At (pv 2) Ad) Ny Ad Lz Ga))) (Ae (Ap (pv 1))))),?_⟩
 apply⟨few (by simp),λp hp=>?_⟩;have u0:=Ag (o:=.lst [V.int 0]) hp;apply⟨l,_,rfl,.inl (SqL.of (u0 _ _ hl)),?_⟩;k_is;rw[hel];refine⟨p,((ds.length+1:Nat):Int),_,rfl,rfl,Ac,by lia,by lia,ig (An (by simp;lia)),λm hm=>?_⟩;have u1:=u0.trans (Ag (o:=.lst (dv (((ds.length+1:Nat):Int)).toNat [V.int 0]).flatten) hm);have hm0:H m=none:=u0.free hm;have hM:(upd (upd H p (.lst [V.int 0])) m (.lst (dv (((ds.length+1:Nat):Int)).toNat [V.int 0]).flatten)) m=some (.lst (nV (gsK ds 0))):=by
  rw[Ac,ge,Ts,qB];unfold nV;rw[sy,sy];rfl
 generalize (upd (upd H p (.lst [V.int 0])) m (.lst (dv (((ds.length+1:Nat):Int)).toNat [V.int 0]).flatten))=H2 at *;apply⟨l,rfl,⟨_,SqL.of (u1 _ _ hl)⟩,?_⟩;refine Ev (xs:=(A4 ds).map V.int) (λk G H3=>(∃v2:Option V,G=[some (.ref l),some (.ref m),v2])/\H3 m=some (.lst (nV (gsK ds k)))/\Am H H3) ⟨⟨_,rfl⟩,hM,u1⟩ (λk G H3 _ h=>SqL.of (h.2.2 _ _ hl)) ?_ ?_
 ·rintro k x G H3 hx ⟨⟨v2,rfl⟩,hm3,s3⟩
  obtain⟨n,hn2,rfl⟩:=Jy hx;have hk:k<ds.length:=by have:=Fc hn2;unfold A4 at this;rwa [da,d6] at this
  obtain rfl:eld ds k=n:=by
   unfold A4 at hn2;rw[du,gl hk] at hn2;exact dr hn2
  have h1:=Sa hD hk;have h2:=lQ hD hk;obtain⟨e,he⟩:∃e:Nat,eld ds k=(e:Int)-1:=⟨(eld ds k+1).toNat,by lia⟩;have he1:e<ds.length+1:=by lia
  have hix:eld ds k+1=(e:Int):=by lia
  k_is;rw[hix];refine B7 (SqL.of hm3) (v:=.int ((Ba ds k ((e:Int)-1)).length:Nat)) (A0 (by unfold nV;rw[du,Vv he1];rfl)) ?_;apply Lo hm3 rfl (by rw[Bz,Mh];exact he1) ?_;refine⟨⟨_,rfl⟩,?_,Az s3 hm0⟩;rw[Ac,oE he he1];unfold nV;rw[uy];rfl
 ·rintro G H3 ⟨⟨v2,rfl⟩,hm3,s3⟩
  rw[hel,rH] at hm3;k_is;exact q m H3 s3 hm0 hm3
include T in
theorem Rv (F:Fun K "counted_row" "counted_row" Fn f fd):Av P w K mg base CX0 1 f fd ["many"] Yz:=by
 exists F.ok Ra
 obtain⟨l,ns,rfl,hl,hn,q⟩:=h;refine⟨_,(Ae (Ap (Ef n4 z4 z0 eX Ix (tpa (Nr rfl Om (Cn (pv 0)) (λ_ _ _ _=>Ez) (λ_ _ _ _=>(Ah Z4 (Ah sT Ix (pv 0)) Ix))) Ab)))),?_⟩;apply⟨rfl,?_⟩;apply⟨_,rfl,⟨_,SqL.of hl⟩,?_⟩;refine K6 (xs:=nV ns) (SqL.of hl) (λi=>(ns.take i).map λn=>V.str (Bj (dv n true++[false]))) rfl (λi hi=>?_) (λi x H1 R A hx s1 _ hA=>?_) (λD H1 hD s1 h1=>?_)
 ·rw[da,dy]
  exact An (by lia)
 ·obtain⟨n,hn1,rfl⟩:=G9 hx
  have hns:=Z2 hn1;apply⟨"1",(n:Int),rfl,rfl,by lia,by lia,?_,few (by decide),?_⟩
  ·exact ig (An (by rw[show("1":Str).length=1 by rfl];lia))
  have e0:We ("1":Str) ((n:Int)).toNat=Bj (dv n true):=by
   rw[ge];exact iM true _
  rw[e0];k_is;have e1:Bj (dv n true)++("0":Str)=Bj (dv n true++[false]):=U0 (dv n true) [false];refine⟨_,"0",rfl,rfl,?_,?_⟩
  ·rw[Cw,gy]
   exact ig (An (by rw[show("0":Str).length=1 by rfl];lia))
  rw[e1];refine hA _ _ ?_ (Am.refl _);rw[il,hn1,ed];rfl
 ·apply Xp (ls:=ns.map λn=>dv n true++[false]) ?_ ?_ (q _ s1)
  ·rw[h1,Bz,fc (dh _),gx]
   rfl
  ·show(grB ns).length<=_
   rw[fG];lia
theorem Mz:∀{ns:List Int} {x:Int},x∈ns->∃j:Nat,ns[j]?=some x/\∀i:Nat,i<j->ns[i]?≠some x
 |y::ns,x,h=>by
  by_cases e:y=x
  ·exact⟨0,by rw[e];rfl,λi hi=>absurd hi (zc _)⟩
  ·obtain⟨j,h1,h2⟩:=Mz (List.mem_of_ne_of_mem (λz=>e z.symm) h)
   refine⟨j+1,h1,λi hi=>?_⟩
   cases i with
   |zero=>exact λz=>e (dr z)
   |succ i=>exact h2 i (by lia)
inductive kY(vs:List V)(H:Hp)(Q:VK)(E:XK):Prop|mk(l:dk)(ds:Za4)(_:vs=[.ref l])(_:H l=some (.lst (nV ds)))(_:ds.length<=4000)(_:∀(r:Nat) H',r<16->Am H H'->Q (.int r) H')
include T in
theorem Ve (F:Fun K "thin_rest" "thin_rest" Kr f fd):Av P w K mg base CX0 1 f fd ["depths"] kY:=by
 exists F.ok Io
 obtain⟨l,ds,rfl,hl,hn,q⟩:=h;refine⟨_,(Aa (tst 1 Io.nd (Ah L6 (Bc (tpa Ad Ab)) (B1 rfl T.bO))) (Aa (Cr gh rfl (Cn (pv 0)) (tgn 2 Io.nd) (Ae (U3 (pv 1) (Ah Cu (pv 2) (B1 rfl T.bO)) Ny Ad Lz Ga))) (Ae (Ap (Ef f9 ub ua Rh (pv 1) (tpa (Ak (T2 rfl) (by rfl) T.cj Xs (tpa (pv 1) Ab)) Ab)))))),?_⟩
 apply⟨few (by simp),λp hp=>?_⟩;have u0:=Ag (o:=.lst [V.int 0]) hp;apply⟨p,16,_,rfl,rfl,Ac,by lia,by lia,ig (An (by decide)),λm hm=>?_⟩;have u1:=u0.trans (Ag (o:=.lst (dv (16:Int).toNat [V.int 0]).flatten) hm);have hm0:H m=none:=u0.free hm;have hM:(upd (upd H p (.lst [V.int 0])) m (.lst (dv (16:Int).toNat [V.int 0]).flatten)) m=some (.lst (nV (dv 16 0))):=by
  rw[Ac];rfl
 generalize (upd (upd H p (.lst [V.int 0])) m (.lst (dv (16:Int).toNat [V.int 0]).flatten))=H2 at *;apply⟨l,rfl,⟨_,SqL.of (u1 _ _ hl)⟩,?_⟩;refine Ev (xs:=nV ds) (λk G H3=>(∃v2:Option V,G=[some (.ref l),some (.ref m),v2])/\(∃cs:Za4,cs.length=16/\H3 m=some (.lst (nV cs)))/\Am H H3) ⟨⟨_,rfl⟩,⟨_,gy,hM⟩,u1⟩ (λk G H3 _ h=>SqL.of (h.2.2 _ _ hl)) ?_ ?_
 ·rintro k x G H3 hx ⟨⟨v2,rfl⟩,⟨cs,hc,hm3⟩,s3⟩
  obtain⟨n,hn2,rfl⟩:=G9 hx;k_is;rw[show((n:Int)%16)=((n%16:Nat):Int) by lia];have hlt:n%16<cs.length:=by lia
  refine B7 (SqL.of hm3) (v:=.int (cs[n%16]:Nat)) (A0 (by unfold nV;rw[du,df hlt];rfl)) ?_;apply Lo hm3 rfl (by rw[Bz];exact hlt) ?_;refine⟨⟨_,rfl⟩,⟨cs.set (n%16) (cs[n%16]+1),by rw[my];exact hc,?_⟩,Az s3 hm0⟩;rw[Ac];unfold nV;rw[uy];rfl
 ·rintro G H3 ⟨⟨v2,rfl⟩,⟨cs,hc,hm3⟩,s3⟩
  apply⟨.inl ⟨rfl,_,SqL.of hm3⟩,?_⟩;k_is;have hm4:=hm3;rw[Wk] at hm4;refine⟨m,_,rfl,SqL.of hm4,λz=>?_,λx hx=>?_⟩
  ·have:=congrArg k6 z
   rw[da,hc] at this;cases this
  ·k_is
   obtain⟨j,hj,hno⟩:=Mz hx.1;refine⟨m,_,x,j,rfl,rfl,hm4,hj,hno,?_⟩;have:=Fc hj;rw[da,hc] at this;exact q j H3 this s3
inductive R6(vs:List V)(H:Hp)(Q:VK)(E:XK):Prop|mk(l o:dk)(ds:Za4)(_:vs=[.ref l,.ref o])(_:H l=some (.lst ((A4 ds).map V.int)))(_:H o=some (.lst ((Cb ds).map V.int)))(_:Dok ds)(_:ds.length<4000)(_:∀H',Am H H'->Q (.str (Bj (grB (gsL ds)))) H')
include T in
theorem Vj (F:Fun K "level_row" "level_row" Gx f fd)(bg:Cal P w K mg base "children_counted" 1 ["elders"] P6)(bh:Cal P w K mg base "counted_row" 1 ["many"] Yz):Av P w K mg base CX0 2 f fd ["elders","order"] R6:=by
 exists F.ok Nb
 obtain⟨l,o,ds,rfl,hl,ho,hD,hn,q⟩:=h;have hgl:=Fl hD;refine⟨_,(Aa (Jc (i:=2) Nb.nd rfl (sj rfl) (Ar bg hr.m (tpa (pv 0) Ab))) (Ae (Ap (Ar bh hr.m (tpa (Ah Ik (Fv Kx (pv 2) Ks (Fp Ad)) (Nr rfl Si (Cn (pv 1)) (λ_ _ _ _=>Ez) (λ_ _ _ _=>(tix (Hj K) (pv 1) (Ah At (pv 0) Ad))))) Ab))))),?_⟩
 apply⟨l,ds,rfl,hl,hD,by lia,λm H1 s1 hm0 hm=>?_⟩;have ho1:=s1 _ _ ho;apply⟨m,_,rfl,SqL.of hm,λq1 h1=>?_⟩;have e1:G5 (nV (gsC ds)) none (some 1)=nV [(Ba ds ds.length (-1)).length]:=by
  rw[show(some 1:Option Int)=some ((1:Nat):Int) from rfl,Vm];rfl
 rw[e1];obtain⟨u1,hq1⟩:=Bu (o:=.lst (nV [(Ba ds ds.length (-1)).length])) h1;have ho2:=u1 _ _ ho1;have hm2:=u1 _ _ hm;have s2:=s1.trans u1;generalize upd H1 q1 _=H2 at *;apply⟨o,rfl,⟨_,SqL.of ho2⟩,?_⟩;refine K6 (SqL.of ho2) (λi=>nV (((Cb ds).take i).map λv=>(Ba ds ds.length v).length)) rfl (λi hi=>?_) (λi y H3 R A hy s3 _ hA=>?_) (λD H3 hD3 s3 h3=>?_)
 ·rw[da,Cq] at hi
  rw[Bz,da,dy,Cq];exact An (by lia)
 ·obtain⟨v,hv,rfl⟩:=Jy hy
  obtain⟨v0,v1⟩:=Mt (d5 hv);obtain⟨n,rfl⟩:∃n:Nat,v=(n:Int):=⟨v.toNat,by lia⟩;apply B7 (SqL.of (s3 _ _ hm2)) (v:=.int ((Ba ds ds.length n).length:Nat)) ?_ ?_
  ·rw[show((n:Int)+1)=((n+1:Nat):Int) by lia]
   exact A0 (Ys (wQ (by lia)))
  refine hA _ _ ?_ (Am.refl _);rw[il,hv,ed];unfold nV;rw[ed];rfl
 rw[da,fc (dh _)] at h3;have hq3:=s3 _ _ hq1;refine⟨q1,D,_,_,rfl,rfl,hq3,h3,ig (An (by rw[Bz,Bz,da,Cq];simp only[fj,jh];lia)),λq4 h4=>?_⟩;have e4:nV [(Ba ds ds.length (-1)).length]++nV ((Cb ds).map λv=>(Ba ds ds.length v).length)=nV (gsL ds):=by
  rw[<-tM hD];rfl
 rw[e4];apply⟨q4,gsL ds,rfl,Ac,by lia,λH5 s5=>?_⟩;exact q H5 (((s2.trans s3).trans (Ag h4)).trans s5)
theorem vX {ds:Za4}(h:Dok ds){x:Int}(hx:x∈iN ds):0<=x/\x<ds.length:=by
 obtain⟨n,hn,rfl⟩:=fz.mp hx;obtain⟨j,hj,rfl⟩:=BR hn;have:=Sb h hj;unfold dAt gr at this;rw[df hj] at this;have:ds[j]<=j:=this;lia
inductive W6(vs:List V)(H:Hp)(Q:VK)(E:XK):Prop|mk(l:dk)(ds:Za4)(_:vs=[.ref l])(_:H l=some (.lst (nV ds)))(_:Dok ds)(_:ds.length<=4000)(_:∀(v:V) H',IsW ds v->Am H H'->Q v H')
include T in
theorem Wn (F:Fun K "widest_of" "widest_of" Ka f fd):Av P w K mg base CX0 1 f fd ["depths"] W6:=by
 exists F.ok Ij
 obtain⟨l,ds,rfl,hl,hD,hn,q⟩:=h;refine⟨_,(Aa (Bp (ttc Fs (Ak Ao (by rfl) T.bM Bx (tpa (pv 0) Ab)) Ad) (Ae (Ap Jg))
  As) (Aa (tst 1 Ij.nd (Ah L6 (Bc (tpa Ad Ab)) (Ah At (Ak (F9 rfl) (by rfl) T.bP Np (tpa (pv 0) Ab)) Ad))) (Aa (Cr gh rfl (Cn (pv 0)) (tgn 2 Ij.nd) (Ae (U3 (pv 1) (pv 2) Ny Ad Lz Ga))) (Ae (Ap (Ef f9 ub ua Rh (pv 1) (tpa (Ak (F9 rfl) (by rfl) T.bP Np (tpa (pv 1) Ab)) Ab))))))),?_⟩
 apply⟨l,_,rfl,.inl (SqL.of hl),?_⟩;rw[Bz];apply Cl (λhz=>?_) (λh0=>?_)
 ·k_is
  have hz:(ds.length:Int)=0:=by injection hz
  exact q _ H (.inl ⟨by lia,rfl⟩) (Am.refl _)
 have hpos:0<ds.length:=by
  rcases lw ds.length with z|z
  ·exact absurd (by rw[z];rfl) h0
  ·exact z
 apply⟨few (by simp),λp hp=>?_⟩;obtain⟨u0,hp1⟩:=Bu (o:=.lst [V.int 0]) hp;have hl1:=u0 _ _ hl;generalize upd H p _=H1 at *;apply⟨l,iN ds,rfl,by rw[<-Kq];exact SqL.of hl1,λz=>?_,λx hx=>?_⟩
 ·have e:(iN ds).length=0:=by rw[z];rfl
  rw[da] at e;lia
 obtain⟨x0,x1⟩:=vX hD hx.1;obtain⟨xm,rfl⟩:∃xm:Nat,x=(xm:Int):=⟨x.toNat,by lia⟩;apply⟨p,((xm+1:Nat):Int),_,rfl,by rw[qh];rfl,hp1,by lia,by lia,ig (An (by simp;lia)),λm hm=>?_⟩;have u1:=u0.trans (Ag (o:=.lst (dv ((xm+1:Nat):Int).toNat [V.int 0]).flatten) hm);have hm0:H m=none:=u0.free hm;have hM:(upd H1 m (.lst (dv ((xm+1:Nat):Int).toNat [V.int 0]).flatten)) m=some (.lst (nV ((d7 (xm+1)).map λd=>(ds.take 0).count d))):=by
  rw[Ac,ge,Ts];unfold nV;rw[sy,gx,List.eq_replicate_of_mem (l:=(d7 (xm+1)).map _) (a:=V.int 0) (λb hb=>by obtain⟨d,_,rfl⟩:=fz.mp hb;rfl),da,d6]
 generalize (upd H1 m (.lst (dv ((xm+1:Nat):Int).toNat [V.int 0]).flatten))=H2 at *;apply⟨l,rfl,⟨_,SqL.of (u1 _ _ hl)⟩,?_⟩;refine Ev (xs:=nV ds) (λk G H3=>(∃v2:Option V,G=[some (.ref l),some (.ref m),v2])/\(H3 m=some (.lst (nV ((d7 (xm+1)).map λd=>(ds.take k).count d))))/\Am H H3) ⟨⟨_,rfl⟩,hM,u1⟩ (λk G H3 _ h=>SqL.of (h.2.2 _ _ hl)) ?_ ?_
 ·rintro k y G H3 hy ⟨⟨v2,rfl⟩,hm3,s3⟩
  obtain⟨n,hn2,rfl⟩:=G9 hy;have hle:=hx.2 (n:Int) (fz.mpr ⟨n,d5 hn2,rfl⟩);have hlt:n<xm+1:=by lia
  apply B7 (SqL.of hm3) (v:=.int ((ds.take k).count n:Nat)) (A0 (by unfold nV;rw[gx,du,gl hlt];rfl)) ?_;apply Lo hm3 rfl (by rw[Bz,da,d6];exact hlt) ?_;refine⟨⟨_,rfl⟩,?_,Az s3 hm0⟩;rw[Ac];congr 2;unfold nV;rw[show V.int (((ds.take k).count n:Nat)+1)=(λz:Nat=>V.int (z:Int)) ((ds.take k).count n+1) by rfl,<-uy,Tc];congr 1;refine jg λd _=>?_;have e1:ds.take (k+1)=ds.take k++[n]:=by rw[il,hn2];rfl
  rw[e1,ow]
  by_cases e:d=n
  ·rw[if_pos e,e,List.count_singleton_self]
  ·rw[if_neg e,List.count_singleton,if_neg (by simp;exact λz=>e z.symm),jr]
 ·rintro G H3 ⟨⟨v2,rfl⟩,hm3,s3⟩
  rw[Bz] at hm3;rw[lu] at hm3;have hxm:xm∈ds:=by
   obtain⟨z,hz,ez⟩:=fz.mp hx.1;have:(z:Int)=(xm:Int):=ez;rw[show xm=z by lia];exact hz
  have hmx:mx ds ds.length=xm+1:=lE hxm λy hy=>by
   have:=hx.2 (y:Int) (fz.mpr ⟨y,hy,rfl⟩);lia
  have ec:((d7 (xm+1)).map λd=>ds.count d)=Nl ds:=by
   unfold Nl;rw[hmx];exact jg λd _=>fL ds d
  rw[ec] at hm3;apply⟨.inl ⟨rfl,_,SqL.of hm3⟩,?_⟩;k_is;have hm4:=hm3;rw[Wk] at hm4;refine⟨m,_,rfl,SqL.of hm4,λz=>?_,λx hx=>?_⟩
  ·have:=congrArg k6 z
   rw[da,<-ec,da,d6] at this;cases this
  ·k_is
   obtain⟨j,hj,hno⟩:=Mz hx.1;refine⟨m,_,x,j,rfl,rfl,hm4,hj,hno,q _ H3 ?_ s3⟩;obtain⟨c0,hc1,rfl⟩:∃c0:Nat,(Nl ds)[j]?=some c0/\x=(c0:Int):=by
    rw[du] at hj
    cases e:(Nl ds)[j]? with
    |none=>rw[e] at hj;cases hj
    |some c0=>rw[e] at hj;exact⟨c0,rfl,(dr hj).symm⟩
   refine .inr ⟨j,c0,hpos,rfl,hc1,λy hy=>?_,λi hi e=>hno i hi ?_⟩
   ·have:=hx.2 (y:Int) (fz.mpr ⟨y,hy,rfl⟩)
    lia
   ·rw[du,e]
    rfl
def lFs (n:Nat)(b c:dk)(s g v w:V)(d:dk):List (Str×V):=[("knots",.int n),("bits",.ref b),("counts",.ref c),("places",s),("begins",g),("level_count",v),("widest_level",w),("leaps",.ref d)]
def sR (H:Hp)(ds:Za4)(kvs:List (Key×V)):Prop:=∀k v,Gk kvs (.inl k)=some v->∃(t:dk) (g:Nat) (l:Int),k=(g:Int)/\v=.ref t/\H t=some (.tup [.int (Cy ds 16 g:Nat),.int l])
theorem sR.keep {ds:Za4}{kvs:List (Key×V)}(h:sR H ds kvs)(k:∀b xs,H b=some (.tup xs)->H' b=some (.tup xs)):sR H' ds kvs:=λy v e=>by
 obtain⟨t,g,l,h1,h2,h3⟩:=h y v e;exact⟨t,g,l,h1,h2,k _ _ h3⟩
structure O2 (K:de) (CB CC CL:dk) (H:Hp) (x:dk) (ds:Za4) (dx b c:dk) (s:V) (g:dk) (w:V) (d:dk) (kvs:List (Key×V)):Prop where
 hx:H x=some (.ins CL dx (lFs ds.length b c s (.ref g) (.int (mx ds ds.length:Nat)) w d))
 hb:G2 K CB H b (grB (gsL ds))
 hc:Be K CC H c (grB (gsL ds))
 hg:Be K CC H g (bgB (esD ds))
 hw:IsW ds w
 hd:H d=some (.dK kvs)
 hl:sR H ds kvs
 ok:Dok ds
 few:ds.length<3000
def Ey (K:de)(CB CC CL:dk)(H:Hp)(x:dk)(ds:Za4):Prop:=∃dx b c s g w d kvs,O2 K CB CC CL H x ds dx b c s g w d kvs
theorem O2.sm {K:de}{x b c g d:dk}{ts:List Tb}{ds:Za4}{s w:V}{kvs:List (Key×V)}(h:O2 K CB CC CL H x ds dx b c s g w d kvs)(m:SmT ts H H'):O2 K CB CC CL H' x ds dx b c s g w d kvs:=
 ⟨m.k h.hx,h.hb.keep m.kp,h.hc.keep m.kp,h.hg.keep m.kp,h.hw,m.k h.hd,h.hl.keep λb xs e=>m.k e,h.ok,h.few⟩
theorem Ey.sm {K:de}{x:dk}{ts:List Tb}{ds:Za4}(h:Ey K CB CC CL H x ds)(m:SmT ts H H'):Ey K CB CC CL H' x ds:=by
 obtain⟨dx,b,c,s,g,w,d,kvs,h⟩:=h;exact⟨dx,b,c,s,g,w,d,kvs,h.sm m⟩
theorem Ey.same {K:de}{x:dk}{ts:List Tb}{ds:Za4}(h:Ey K CB CC CL H x ds)(hT:Tbs ts H)(m:Am H H'):Ey K CB CC CL H' x ds:=h.sm (SmT.of hT m)
inductive cP (K:de)(CB CC CL:dk)(ts:List Tb)(vs:List V)(H:Hp)(Q:VK)(E:XK):Prop|mk(x:dk)(ds:Za4)(k:Nat)(_:vs=[.ref x,.int k])(_:Ey K CB CC CL H x ds)(_:Tbs ts H)(_:k<=ds.length)(_:∀H',SmT ts H H'->Q (.int (pre (gsL ds) (k+1):Nat)) H')
variable (ad:Qa K aa) (au:Mth P w K mg base ab "place_of" 5 ["self","bit","nth"] (T9 K ab ts))
include T ad au in
theorem Qr (F:Fun K "down" "Levelled.down" F0 f fd):Av P w K mg base CX0 6 f fd ["self","number"] (cP K ae ab aa ts):=by
 exists F.ok Oc
 obtain⟨x,ds,k,rfl,⟨dx,b,c,s,g,w,d,kvs,h⟩,hT,hk,q⟩:=h;have hC:=h.hc;obtain⟨dc,t1,u1,hc1,_⟩:=id hC;refine⟨_,(Ae (Ap (Ah Dl (E2 au hr.m (tfl (pv 0)) (tpa Ad (tpa (pv 1) Ab))) (pv 1)))),?_⟩;apply⟨x,aa,dx,_,.ref c,rfl,h.hx,ad.cl,ad.cy,rfl,?_⟩;apply⟨c,dc,_,rfl,hc1,rfl,?_⟩;apply⟨c,_,false,k,_,rfl,hC,hT,rP (by rw[(Fl h.ok).1];lia),λH1 s1=>?_⟩;k_is;rw[show(((pre (gsL ds) (k+1)+k:Nat):Int)-(k:Int))=((pre (gsL ds) (k+1):Nat):Int) by lia];exact q H1 s1
def stM:St->Nat
 |[_,_,some (.int z)]=>z.toNat
 |_=>0
inductive uE (K:de)(CB CC CL:dk)(ts:List Tb)(vs:List V)(H:Hp)(Q:VK)(E:XK):Prop|mk(x:dk)(ds:Za4)(k st:Nat)(_:vs=[.ref x,.int k,.int st])(_:Ey K CB CC CL H x ds)(_:Tbs ts H)(_:k<=ds.length)(_:∀H',SmT ts H H'->Q (.int (Cy ds st k:Nat)) H')
variable (aC:Mth P w K mg base aa "down" 6 ["self","number"] (cP K ae ab aa ts))
include T ad aC in
theorem Qk (F:Fun K "far_down" "Levelled.far_down" D8 f fd):Av P w K mg base CX0 7 f fd ["self","number","steps"] (uE K ae ab aa ts):=by
 exists F.ok Bw
 obtain⟨x,ds,k,st,rfl,⟨dx,b,c,s,g,w,d,kvs,h⟩,hT,hk,q⟩:=h;refine⟨_,(Aa (Fw gh (ttc Lk (pv 2) Ad) (Ae (Bp (PW.pt (cN (ttc Zf (pv 2) (B1 rfl T.bO)) (U9 (Vn nU (pv 1) (tfl (pv 0)) rfl)))) (Aa (tst 1 Bw.nd (tix Do (tix gO (tfl (pv 0)) (pv 1)) Ad)) (Ae (tau 2 Bw.nd (B1 rfl T.bO) Vr))) (Aa (tst 1 Bw.nd (E2 aC hr.m (pv 0) (tpa (pv 1) Ab))) (Ae (tau 2 Bw.nd Ad Vr)))))) (Ae (Ap (pv 1)))),?_⟩
 apply Fx (λG H'=>∃(m z:Nat),G=[some (.ref x),some (.int m),some (.int z)]/\m<=ds.length/\Cy ds z m=Cy ds st k/\SmT ts H H') (λG _=>stM G) ⟨k,st,rfl,hk,rfl,SmT.refl hT⟩ ?_;rintro μ G H1 ⟨m,z,rfl,hm,hdw,s1⟩ QV;have QV:z=μ:=QV;have h1:=h.sm s1;apply Cl (λhz=>?_) (λ_=>?_)
 ·refine Kc ?_
  apply Cl (λhz2=>?_) (λ_=>?_)
  ·apply⟨x,aa,dx,_,.ref d,rfl,h1.hx,ad.cl,ad.bQ,rfl,?_⟩;refine vA h1.hd ?_
   cases hv:Gk kvs (.inl (m:Int)) with
   |some vv=>
    obtain⟨t,m2,l2,em,rfl,ht⟩:=h1.hl _ _ hv;obtain rfl:m=m2:=by lia
    rw[show(some (V.ref t):Option V).isSome=true from rfl];apply⟨x,aa,dx,_,.ref d,rfl,h1.hx,ad.cl,ad.bQ,rfl,?_⟩;apply uP h1.hd hv ?_;apply Fa (SqT.of ht) (v:=.int (Cy ds 16 m:Nat)) rfl ?_;k_is;rw[show((z:Int)-16)=((z-16:Nat):Int) by lia];refine⟨⟨_,z-16,rfl,Pk h.ok 16 hm,by rw[<-Xw,show 16+(z-16)=z by lia];exact hdw,s1⟩,?_⟩;show z-16<μ;lia
   |none=>
    rw[show(none:Option V).isSome=false from rfl];apply⟨x,dx,_,rfl,h1.hx,rfl,?_⟩;apply⟨x,ds,m,rfl,⟨dx,b,c,_,_,_,d,kvs,h1⟩,s1.ok,hm,λH2 s2=>?_⟩;k_is;rw[show((z:Int)-1)=((z-1:Nat):Int) by lia];refine⟨⟨_,z-1,rfl,lO h.ok _,?_,s1.trans s2⟩,?_⟩
    ·rw[<-hdw,show z=(z-1)+1 by lia]
     rfl
    show z-1<μ;lia
  ·apply⟨x,dx,_,rfl,h1.hx,rfl,?_⟩;apply⟨x,ds,m,rfl,⟨dx,b,c,_,_,_,d,kvs,h1⟩,s1.ok,hm,λH2 s2=>?_⟩;k_is;rw[show((z:Int)-1)=((z-1:Nat):Int) by lia];refine⟨⟨_,z-1,rfl,lO h.ok _,?_,s1.trans s2⟩,?_⟩
   ·rw[<-hdw,show z=(z-1)+1 by lia]
    rfl
   show z-1<μ;lia
 ·k_is
  obtain rfl:z=0:=by lia
  have hdw:m=Cy ds st k:=hdw;rw[hdw];exact q H1 s1
def lbM (n:Nat):St->Nat
 |[_,some (.int m),_]=>n-m.toNat
 |_=>0
inductive fO (K:de)(CB CC CL:dk)(ts:List Tb)(vs:List V)(H:Hp)(Q:VK)(E:XK):Prop|mk(x:dk)(ds:Za4)(k:Nat)(_:vs=[.ref x,.int k])(_:Ey K CB CC CL H x ds)(_:Tbs ts H)(_:k<=ds.length)(_:∀(r:Int) H',SmT ts H H'->Q (.int r) H')
include T ad aC in
theorem Qg (F:Fun K "left_below" "Levelled.left_below" Dh f fd):Av P w K mg base CX0 7 f fd ["self","number"] (fO K ae ab aa ts):=by
 exists F.ok B2
 obtain⟨x,ds,k,rfl,⟨dx,b,c,s,g,w,d,kvs,h⟩,hT,hk,q⟩:=h;refine⟨_,(Aa (tst 2 B2.nd Ad) (Aa (Fw gh (ttc Kp (pv 1) (tfl (pv 0))) (Aa (Bp (Vn nU (pv 1) (tfl (pv 0)) rfl) (Ae (Ap (Ah At (pv 2) (tix Do (tix gO (tfl (pv 0)) (pv 1)) Ad))))
  As) (Aa (tst 1 B2.nd (E2 aC hr.m (pv 0) (tpa (pv 1) Ab))) (Ae (tau 2 B2.nd (Ah Dl (tfl (pv 0)) (pv 1)) Lz))))) (Ae (Ap (pv 2))))),?_⟩
 apply Fx (λG H'=>∃(m:Nat) (z:Int),G=[some (.ref x),some (.int m),some (.int z)]/\m<=ds.length/\SmT ts H H') (λG _=>lbM ds.length G) ⟨k,0,rfl,hk,SmT.refl hT⟩ ?_;rintro μ G H1 ⟨m,z,rfl,hm,s1⟩ QV;have QV:ds.length-(m:Int).toNat=μ:=QV;have h1:=h.sm s1;apply⟨x,aa,dx,_,_,rfl,h1.hx,ad.cl,ad.ci,rfl,?_⟩;apply Cl (λhz=>?_) (λ_=>?_)
 ·refine Kc ?_
  apply⟨x,aa,dx,_,.ref d,rfl,h1.hx,ad.cl,ad.bQ,rfl,?_⟩;refine vA h1.hd ?_
  cases hv:Gk kvs (.inl (m:Int)) with
  |some vv=>
   obtain⟨t,m2,l2,em,rfl,ht⟩:=h1.hl _ _ hv;rw[show(some (V.ref t):Option V).isSome=true from rfl];apply⟨x,aa,dx,_,.ref d,rfl,h1.hx,ad.cl,ad.bQ,rfl,?_⟩;apply uP h1.hd hv ?_;apply Fa (SqT.of ht) (v:=.int l2) rfl ?_;k_is;exact q _ H1 s1
  |none=>
   rw[show(none:Option V).isSome=false from rfl];apply⟨x,dx,_,rfl,h1.hx,rfl,?_⟩;apply⟨x,ds,m,rfl,⟨dx,b,c,_,_,_,d,kvs,h1⟩,s1.ok,hm,λH2 s2=>?_⟩;apply⟨x,aa,dx,_,_,rfl,s2.k h1.hx,ad.cl,ad.ci,rfl,?_⟩;apply⟨⟨_,_,rfl,lO h.ok _,s1.trans s2⟩,?_⟩;have:=rB h.ok (k:=m) (by lia);show ds.length-((pre (gsL ds) (m+1):Nat):Int).toNat<μ;rw[ge] at QV ⊢;lia
 ·k_is
  exact q z H1 s1
inductive kT (K:de)(CB CC CL:dk)(ts:List Tb)(vs:List V)(H:Hp)(Q:VK)(E:XK):Prop|mk(x l dx b c g d:dk)(ds es:Za4)(s w:V)(_:vs=[.ref x,.ref l])(_:O2 K CB CC CL H x ds dx b c s g w d [])(_:H l=some (.lst (nV es)))(_:es.length=ds.length)(_:Tbs ts H)(_:∀kvs H',SmB ts d H H'->O2 K CB CC CL H' x ds dx b c s g w d kvs->Q .non H')
variable (av:Mth P w K mg base aa "far_down" 7 ["self","number","steps"] (uE K ae ab aa ts))
include T ad av in
theorem Qh (F:Fun K "mark_leaps" "Levelled.mark_leaps" Di f fd)(bi:Cal P w K mg base "thin_rest" 1 ["depths"] kY)(bj:Mth P w K mg base aa "left_below" 7 ["self","number"] (fO K ae ab aa ts)):Av P w K mg base CX0 8 f fd ["self","depths"] (kT K ae ab aa ts):=by
 exists F.ok C3
 obtain⟨x,l,dx,b,c,g,d,ds,es,s,w,rfl,h,hl,he,hT,q⟩:=h;have hn:=h.few;have nx:x≠d:=F2 h.hx h.hd (by intro z;cases z);have nl:l≠d:=F2 hl h.hd (by intro z;cases z);have nb:b≠d:=by
  obtain⟨_,_,hb1,_⟩:=h.hb;exact F2 hb1 h.hd (by intro z;cases z)
 have ng:g≠d:=by
  obtain⟨_,_,_,hc1,_⟩:=h.hg;exact F2 hc1 h.hd (by intro z;cases z)
 have nc:c≠d:=by
  obtain⟨_,_,_,hc1,_⟩:=h.hc;exact F2 hc1 h.hd (by intro z;cases z)
 refine⟨_,(Aa (tst 2 C3.nd (Ar bi hr.m (tpa (pv 1) Ab))) (Ae (Cr gh rfl (iS rfl T.bN (tpa (Ah Dl (tfl (pv 0)) Ad) (tpa (Fq Dx Ad) (tpa (Fq Dx Ad) Ab)))) (tgn 3 C3.nd) (Ae (Bp (ttc Fs (Ah Cu (tix Bn (pv 1) (pv 3)) (B1 rfl T.bO)) (pv 2)) (Ae (Ob (N0 (tpa (E2 av hr.m (pv 0) (tpa (pv 3) (tpa (B1 rfl T.bO) Ab))) (tpa (E2 bj hr.m (pv 0) (tpa (pv 3) Ab)) Ab))) (Re (tfl (pv 0)) (pv 3) kB)))
  As))))),?_⟩
 apply⟨l,es,rfl,hl,by lia,λr H1 hr1 s1=>?_⟩;have h1:=h.sm (SmT.of hT s1);apply⟨x,aa,dx,_,_,rfl,h1.hx,ad.cl,ad.ci,rfl,?_⟩;apply⟨(ds.length:Int)-1,-1,rfl,⟨by lia,by lia,by lia,by lia⟩,?_⟩;rw[show((ds.length:Int)-1 - -1).toNat=ds.length by lia];refine Tj (λi G H'=>(∃v3:Option V,G=[some (.ref x),some (.ref l),some (.int r),v3])/\SmB ts d H H'/\∃kvs,kvs.length<=i/\O2 K ae ab aa H' x ds dx b c s g w d kvs) ⟨⟨_,rfl⟩,(SmB.refl hT).then s1,[],dh _,h1⟩ ?_ ?_
 ·rintro i G H2 hi ⟨⟨v3,rfl⟩,s2,kvs,hkl,h2⟩
  obtain⟨k,hk⟩:∃k:Nat,(ds.length:Int)-1+(i:Int) * -1=(k:Int):=⟨ds.length-1-i,by lia⟩;rw[hk];have hkn:k<es.length:=by lia
  apply B7 (SqL.of (s2.k hl nl)) (v:=.int (es[k]:Nat)) (A0 (Ys (df hkn))) ?_;apply Cl (λ_=>?_) (λ_=>?_)
  ·apply⟨x,dx,_,rfl,h2.hx,rfl,?_⟩;apply⟨x,ds,k,16,rfl,⟨_,_,_,_,_,_,_,_,h2⟩,s2.ok,by lia,λH3 s3=>?_⟩;have h3:=h2.sm s3;apply⟨x,dx,_,rfl,h3.hx,rfl,?_⟩;apply⟨x,ds,k,rfl,⟨_,_,_,_,_,_,_,_,h3⟩,s3.ok,by lia,λlb H4 s4=>?_⟩;have h4:=h3.sm s4;have s24:=(s2.sm s3).sm s4;apply⟨few (by simp),λt ht=>?_⟩;obtain⟨ut,ht1⟩:=Bu (o:=.tup [V.int ((Cy ds 16 k:Nat):Int),V.int lb]) ht;have h5:=h4.sm (SmT.of s24.ok ut);have s25:=s24.then ut;generalize upd H4 t _=H5 at *;apply⟨x,aa,dx,_,.ref d,rfl,h5.hx,ad.cl,ad.bQ,rfl,?_⟩;apply yN h5.hd (An (by lia)) ?_;have s26:SmB ts d H (upd H5 d (.dK (Oa kvs (.inl (k:Int)) (.ref t)))):=s25.put h5.hd;have s56:SmB ts d H5 (upd H5 d (.dK (Oa kvs (.inl (k:Int)) (.ref t)))):=(SmB.refl s25.ok).put h5.hd;refine⟨⟨_,rfl⟩,s26,Oa kvs (.inl (k:Int)) (.ref t),fq (O4 kvs _ _) (by lia),?_⟩;refine⟨s56.k h5.hx nx,h5.hb.keep (s56.kp h5.hd nb),h5.hc.keep (s56.kp h5.hd nc),h5.hg.keep (s56.kp h5.hd ng),h5.hw,Ac,λy vv e=>?_,h.ok,h.few⟩;rw[kZ] at e;have kt:∀{a:dk} {xs:List V},H5 a=some (.tup xs)->upd H5 d (.dK (Oa kvs (.inl (k:Int)) (.ref t))) a=some (.tup xs):=λ{a xs} e=>s56.k e (F2 e h5.hd (by intro z;cases z));split at e
   ·obtain rfl:=dr e
    rename_i hy
    exact⟨t,k,lb,by first|exact z9 hy|exact(z9 hy).symm,rfl,kt ht1⟩
   ·obtain⟨t2,m2,l2,e1,e2,e3⟩:=h5.hl _ _ e
    exact⟨t2,m2,l2,e1,e2,kt e3⟩
  ·k_is
   exact⟨⟨_,rfl⟩,s2,kvs,by lia,h2⟩
 ·rintro G H2 ⟨⟨v3,rfl⟩,s2,kvs,_,h2⟩
  exact q kvs H2 s2 h2
inductive gC (K:de)(CB CC CL:dk)(ts:List Tb)(vs:List V)(H:Hp)(Q:VK)(E:XK):Prop|mk(x dx a:dk)(ds:Za4)(_:vs=[.ref x,.ref a])(_:H x=some (.ins CL dx []))(_:H a=some (.lst ((A4 ds).map V.int)))(_:Dok ds)(_:ds.length<3000)(_:Tbs ts H)(_:∀H',SmB ts x H H'->Ey K CB CC CL H' x ds->Q .non H')
theorem Zu {ds:Za4}(h:Dok ds):(Aq ltJ (iN ds)).map V.int=nV (esD ds):=by
 have e:iN ds=((d7 ds.length).map λj:Nat=>((dAt ds j:Int),(j:Int))).map (·.1):=by rw[W3,gx];rfl
 rw[e,Hx (lt:=ltZ) (lt':=ltJ) (f:=λx:Int×Int=>x.1) (λa b=>rfl),Mu h ds.length (dh _),gx,gx];unfold nV esD;rw[gx];rfl
include T aA aB ad in
theorem Qs (F:Fun K "__init__" "Levelled.__init__" F1 f fd)(bn:Cal P w K mg base "look_at" 2 ["elders"] oY)(bo:Cal P w K mg base "depths_of" 1 ["elders"] Xm)(bp:Cal P w K mg base "level_order" 2 ["depths"] (N7 ts))(bq:Cal P w K mg base "level_row" 2 ["elders","order"] R6)(br:kO P w K mg base "Shortcuts" ah 4 ["self","order","step"] (Nc ah) [.int 16])(bu:Cal P w K mg base "begins_of" 5 ["things"] (Sn K ab))(bv:Cal P w K mg base "widest_of" 1 ["depths"] W6)(bw:Mth P w K mg base aa "mark_leaps" 8 ["self","depths"] (kT K ae ab aa ts)):Av P w K mg base CX0 9 f fd ["self","elders"] (gC K ae ab aa ts):=by
 exists F.ok Dz
 obtain⟨x,dx,a,ds,rfl,hx,ha,hD,hn,hT,q⟩:=h;have hgl:=Fl hD;have hel:(A4 ds).length=ds.length:=Bv ds;have nlx:∀{H:Hp} {l:dk} {xs:List V} {fs:List (Str×V)},H x=some (.ins aa dx fs)->H l=some (.lst xs)->l≠x:=λh1 h2=>F2 h2 h1 (by intro z;cases z);refine⟨_,(Aa (tst 2 Dz.nd (Ar bn hr.m (tpa (pv 1) Ab))) (Aa (tst 3 Dz.nd (Ar bo hr.m (tpa (pv 2) Ab))) (Aa (tst 4 Dz.nd (Ar bp hr.m (tpa (pv 3) Ab))) (Aa (tsf (pv 0) (Ak Ao (by rfl) T.bM Bx (tpa (pv 2) Ab))) (Aa (tsf (pv 0) (Rf aB hr.m (tpa (Ar bq hr.m (tpa (pv 2) (tpa (pv 4) Ab))) Ab))) (Aa (tsf (pv 0) (Rf aA hr.m (tpa (tfl (pv 0)) Ab))) (Aa (tsf (pv 0) (rQ br hr.m yJ (tpa (pv 4) Ab))) (Aa (tsf (pv 0) (Ar bu hr.m (tpa (Ak M4 (by rfl) T.cw Sf (tpa (pv 3) Ab)) Ab))) (Aa (tsf (pv 0) (Ah At (jM (iO rfl) (by rfl) T.bP Np (tpa (pv 3) Ab) (sO (Fq Dx Ad) xT)) Ad)) (Aa (tsf (pv 0) (Ar bv hr.m (tpa (pv 3) Ab))) (Aa (tsf (pv 0) eO) (Ae (Bm (E2 bw hr.m (pv 0) (tpa (Ak M4 (by rfl) T.cw Sf (tpa (pv 3) Ab)) Ab))))))))))))))),?_⟩
 apply⟨a,ds,rfl,ha,hD,by lia,λl1 H1 s1 hl1=>?_⟩;apply⟨l1,ds,rfl,hl1,hD,by lia,λl2 H2 s2 hl2=>?_⟩;have hT2:=(hT.same s1).same s2;apply⟨l2,ds,rfl,hl2,by lia,hT2,λl3 H3 s3 _ hl3=>?_⟩;have b3:SmB ts x H H3:=(((SmB.refl hT).then s1).then s2).sm s3;have hx3:H3 x=some (.ins aa dx []):=s3.k (s2 _ _ (s1 _ _ hx));have i3:H3 l1=some (.lst ((A4 ds).map V.int)):=s3.k (s2 _ _ hl1);have r3:=hl3;have j3:H3 l2=some (.lst (nV ds)):=s3.k hl2;apply⟨l1,_,rfl,.inl (SqL.of i3),?_⟩;rw[da,hel];apply Gp hx3 ad.cl ad.ci (show 0<1000 by decide) b3 λH4 hx4 b4 k4=>?_;have i4:=k4.k i3 (nlx hx3 i3);have j4:=k4.k j3 (nlx hx3 j3);have r4:=k4.k r3 (nlx hx3 r3);apply⟨l1,l3,ds,rfl,i4,r4,hD,by lia,λH5 s5=>?_⟩;have hx5:=s5 _ _ hx4;have b5:=b4.then s5;have j5:=s5 _ _ j4;have r5:=s5 _ _ r4;k_is;intro b db hb hdb hbd;have nbx:b≠x:=(Aj hx5 hb).symm;refine⟨b,db,grB (gsL ds),rfl,Ac,by rw[fG];lia,λH6 s6 hB6=>⟨rfl,?_⟩⟩;have s6:=Hw hb hdb s6;have hx6:=s6 _ _ hx5;have b6:=b5.then s6;have j6:=s6 _ _ j5;have r6:=s6 _ _ r5;apply Gp hx6 ad.cl ad.cB (show 1<1000 by decide) b6 λH7 hx7 b7 k7=>?_;have j7:=k7.k j6 (nlx hx6 j6);have r7:=k7.k r6 (nlx hx6 r6);have hB7:=hB6.keep (k7.kp hx6 nbx);apply⟨x,aa,dx,_,.ref b,rfl,hx7,ad.cl,ad.cB,rfl,?_⟩;k_is;intro c dc hc hdc hcd;have ncx:c≠x:=(Aj hx7 hc).symm;refine⟨c,dc,b,_,rfl,Ac,(hB7.keep λc u _ _ e=>E3 hc hdc _ _ e),λH8 s8 hC8=>⟨rfl,?_⟩⟩;have s8:=Hw hc hdc s8;have hx8:=s8 _ _ hx7;have b8:=b7.then s8;have j8:=s8 _ _ j7;have r8:=s8 _ _ r7;have hB8:=hB7.keep (SmT.of b7.ok s8).kp;apply Gp hx8 ad.cl ad.cy (show 2<1000 by decide) b8 λH9 hx9 b9 k9=>?_;have j9:=k9.k j8 (nlx hx8 j8);have r9:=k9.k r8 (nlx hx8 r8);have hB9:=hB8.keep (k9.kp hx8 nbx);have hC9:=hC8.keep (k9.kp hx8 ncx);k_is;intro sx dsx hsx hdsx hsxd;refine⟨sx,dsx,l3,_,16,rfl,Ac,E3 hsx hdsx _ _ r9,iW ds,by rw[da,Cq];lia,by decide,λH10 s10=>⟨rfl,?_⟩⟩;have s10:=Hw hsx hdsx s10;have hx10:=s10 _ _ hx9;have b10:=b9.then s10;have j10:=s10 _ _ j9;have hB10:=hB9.keep (SmT.of b9.ok s10).kp;have hC10:=hC9.keep (SmT.of b9.ok s10).kp;apply Gp hx10 ad.cl ad.cH (show 3<1000 by decide) b10 λH11 hx11 b11 k11=>?_;have j11:=k11.k j10 (nlx hx10 j10);have hB11:=hB10.keep (k11.kp hx10 nbx);have hC11:=hC10.keep (k11.kp hx10 ncx);obtain⟨es,hes,he1,he2⟩:∃es,es=esD ds/\(Aq ltJ (iN ds)).map V.int=nV es/\es.length=ds.length:=⟨_,rfl,Zu hD,Wh hD⟩;apply⟨l2,iN ds,rfl,by rw[<-Kq];exact SqL.of j11,λq1 hq1=>?_⟩;rw[he1];obtain⟨s12,hq12⟩:=Bu (o:=.lst (nV es)) hq1;generalize upd H11 q1 _=H12 at *;have hx12:=s12 _ _ hx11;have b12:=b11.then s12;have j12:=s12 _ _ j11;have hB12:=hB11.keep (SmT.of b11.ok s12).kp;have hC12:=hC11.keep (SmT.of b11.ok s12).kp;apply⟨q1,es,rfl,hq12,by lia,λg H13 s13 hg13 hG13=>?_⟩;have ngx:g≠x:=(Aj hx12 hg13).symm;have hx13:=s13 _ _ hx12;have b13:=b12.then s13;have j13:=s13 _ _ j12;have hB13:=hB12.keep (SmT.of b12.ok s13).kp;have hC13:=hC12.keep (SmT.of b12.ok s13).kp;apply Gp hx13 ad.cl ad.cp (show 4<1000 by decide) b13 λH14 hx14 b14 k14=>?_;have j14:=k14.k j13 (nlx hx13 j13);have hB14:=hB13.keep (k14.kp hx13 nbx);have hC14:=hC13.keep (k14.kp hx13 ncx);have hG14:=hG13.keep (k14.kp hx13 ngx);apply wE (ns:=iN ds) (by rw[<-Kq];exact SqL.of j14) λmm hm0 hm1=>?_;k_is;rw[dL hD hm0 hm1];refine Gp hx14 ad.cl ad.ck (show 5<1000 by decide) b14 λH15 hx15 b15 k15=>?_;have j15:=k15.k j14 (nlx hx14 j14);have hB15:=hB14.keep (k15.kp hx14 nbx);have hC15:=hC14.keep (k15.kp hx14 ncx);have hG15:=hG14.keep (k15.kp hx14 ngx);apply⟨l2,ds,rfl,j15,hD,by lia,λwv H16 hW s16=>?_⟩;have hx16:=s16 _ _ hx15;have b16:=b15.then s16;have j16:=s16 _ _ j15;have hB16:=hB15.keep (SmT.of b15.ok s16).kp;have hC16:=hC15.keep (SmT.of b15.ok s16).kp;have hG16:=hG15.keep (SmT.of b15.ok s16).kp;apply Gp hx16 ad.cl ad.cz (show 6<1000 by decide) b16 λH17 hx17 b17 k17=>?_;have j17:=k17.k j16 (nlx hx16 j16);have hB17:=hB16.keep (k17.kp hx16 nbx);have hC17:=hC16.keep (k17.kp hx16 ncx);have hG17:=hG16.keep (k17.kp hx16 ngx);k_is;intro d hd;have dnH:H d=none:=b17.free hx17 hd;have ndx:d≠x:=(Aj hx17 hd).symm;obtain⟨s18,hd18⟩:=Bu (o:=.dK []) hd;generalize upd H17 d _=H18 at *;have hx18:=s18 _ _ hx17;have b18:=b17.then s18;have j18:=s18 _ _ j17;have hB18:=hB17.keep (SmT.of b17.ok s18).kp;have hC18:=hC17.keep (SmT.of b17.ok s18).kp;have hG18:=hG17.keep (SmT.of b17.ok s18).kp;apply Gp hx18 ad.cl ad.bQ (show 7<1000 by decide) b18 λH19 hx19 b19 k19=>?_;have j19:=k19.k j18 (nlx hx18 j18);have hB19:=hB18.keep (k19.kp hx18 nbx);have hC19:=hC18.keep (k19.kp hx18 ncx);have hG19:=hG18.keep (k19.kp hx18 ngx);have hd19:=k19.k hd18 ndx;apply⟨x,dx,_,rfl,hx19,rfl,?_⟩;apply⟨l2,iN ds,rfl,by rw[<-Kq];exact SqL.of j19,λq2 hq2=>?_⟩;rw[he1];obtain⟨s20,hq20⟩:=Bu (o:=.lst (nV es)) hq2;have hd20:=s20 _ _ hd19;generalize upd H19 q2 _=H20 at *;have hx20:=s20 _ _ hx19;have b20:=b19.then s20;have hB20:=hB19.keep (SmT.of b19.ok s20).kp;have hC20:=hC19.keep (SmT.of b19.ok s20).kp;have hG20:=hG19.keep (SmT.of b19.ok s20).kp;k_is;have hL:O2 K ae ab aa H20 x ds dx b c (.ref sx) g wv d []:=⟨hx20,hB20,hC20,hes▸hG20,hW,hd20,(λk v e=>by cases e),hD,hn⟩;refine⟨x,q2,dx,b,c,g,d,ds,es,_,_,rfl,hL,hq20,he2,b20.ok,λkvs H21 s21 h21=>?_⟩;exact q H21 (b20.new s21 dnH) ⟨_,_,_,_,_,_,_,_,h21⟩
def PrO (H:Hp)(v:V):Option (Nat×Nat)->Prop
 |none=>v=.non
 |some p=>∃t,v=.ref t/\H t=some (.tup [.int p.1,.int p.2])
def lvP (ds:Za4)(d:Nat):Option (Nat×Nat):=if d<mx ds ds.length then some (lo ds d,lo ds (d+1)) else none
theorem Rz {ds:Za4}(h:Dok ds){d:Nat}(hd:d<mx ds ds.length):(occ true (bgB (esD ds)) (bgB (esD ds)).length)[d]?=some (lo ds d):=by
 have hl:(bgB (esD ds)).length=ds.length:=by unfold bgB;rw[da,d6,Wh h]
 unfold occ;rw[hl,CW (q:=bgP (esD ds)) λi hi=>?_,nM h,du,gl hd]
 ·rfl
 ·have hi:=gz.mp hi
  unfold bgB gr;rw[du,gl (by rw[Wh h];exact hi)];show((!decide (V.int ((esD ds).getD i 0:Nat)=ahV (esD ds) i))==true)=bgP (esD ds) i;unfold ahV bgP;rw[beq_true]
  by_cases z:i=0
  ·rw[if_pos z,decide_eq_false (by intro e;cases e),decide_eq_true (.inl z)]
   rfl
  ·rw[if_neg z]
   by_cases e:(esD ds).getD i 0=(esD ds).getD (i-1) 0
   ·rw[e,decide_eq_true rfl,decide_eq_false (λq=>q.elim z λq=>q rfl)]
    rfl
   ·rw[decide_eq_false (λq=>e (by injection q;lia)),decide_eq_true (.inr e)]
    rfl
inductive Wr (K:de)(CB CC CL:dk)(ts:List Tb)(vs:List V)(H:Hp)(Q:VK)(E:XK):Prop|mk(x:dk)(ds:Za4)(d:Nat)(_:vs=[.ref x,.int d])(_:Ey K CB CC CL H x ds)(_:Tbs ts H)(_:∀v H',SmT ts H H'->PrO H' v (lvP ds d)->Q v H')
variable (aD:Cal P w K mg base "check_from_nought" 2 ["number"] T5)
include T ad au aD in
theorem Qq (F:Fun K "level" "Levelled.level" Fh f fd):Av P w K mg base CX0 6 f fd ["self","deep"] (Wr K ae ab aa ts):=by
 exists F.ok Gu
 obtain⟨x,ds,d,rfl,⟨dx,b,c,s,g,w,l,kvs,h⟩,hT,q⟩:=h;have hG:=h.hg;obtain⟨dg,t1,u1,hg1,_⟩:=id hG;refine⟨_,(Aa (Bm (Ar aD hr.m (tpa (pv 1) Ab))) (Aa (Bp (ttc Zf (pv 1) (tfl (pv 0))) (Ae (Ap Jg))
  As) (Aa (tst 2 Gu.nd (Gi (ttc Kp (Ah At (pv 1) Ad) (tfl (pv 0))) (E2 au hr.m (tfl (pv 0)) (tpa Ad (tpa (Ah At (pv 1) Ad) Ab))) (tfl (pv 0)))) (Ae (Ap (N0 (tpa (E2 au hr.m (tfl (pv 0)) (tpa Ad (tpa (pv 1) Ab))) (tpa (pv 2) Ab)))))))),?_⟩
 apply⟨d,rfl,by lia,?_⟩;apply⟨x,aa,dx,_,_,rfl,h.hx,ad.cl,ad.ck,rfl,?_⟩;apply Cl (λhd=>?_) (λhd=>?_)
 ·apply q _ H (SmT.refl hT) ?_;unfold lvP;rw[if_neg (by lia)];rfl
 have hd:d<mx ds ds.length:=by lia
 have e0:lvP ds d=some (lo ds d,lo ds (d+1)):=if_pos hd;apply⟨x,aa,dx,_,_,rfl,h.hx,ad.cl,ad.ck,rfl,?_⟩;k_is;have fin:∀H1,SmT ts H H1->∀(e:Int),e=(lo ds (d+1):Nat)->∀t,H1 t=none->Q (.ref t) (upd H1 t (.tup [.int (lo ds d:Nat),.int e])):=λH1 s1 e he t ht=>by
  refine q _ _ (s1.then (Ag ht)) ?_;rw[e0];exact⟨t,rfl,by rw[Ac,he]⟩
 refine Cl (λh1=>?_) (λh1=>?_)
 ·apply⟨x,aa,dx,_,.ref g,rfl,h.hx,ad.cl,ad.cp,rfl,?_⟩;apply⟨g,dg,_,rfl,hg1,rfl,?_⟩;apply⟨g,_,true,d+1,_,by rw[qh];rfl,hG,hT,Rz h.ok (by lia),λH1 s1=>?_⟩;have h1:=h.sm s1;apply⟨x,aa,dx,_,.ref g,rfl,h1.hx,ad.cl,ad.cp,rfl,?_⟩;apply⟨g,dg,_,rfl,s1.k hg1,rfl,?_⟩;apply⟨g,_,true,d,_,rfl,h1.hg,s1.ok,Rz h.ok hd,λH2 s2=>?_⟩;k_is;exact⟨few (by simp),λt ht=>fin H2 (s1.trans s2) _ rfl t ht⟩
 ·apply⟨x,aa,dx,_,_,rfl,h.hx,ad.cl,ad.ci,rfl,?_⟩;apply⟨x,aa,dx,_,.ref g,rfl,h.hx,ad.cl,ad.cp,rfl,?_⟩;apply⟨g,dg,_,rfl,hg1,rfl,?_⟩;apply⟨g,_,true,d,_,rfl,hG,hT,Rz h.ok hd,λH2 s2=>?_⟩;k_is;exact⟨few (by simp),λt ht=>fin H2 s2 _ (by rw[show d+1=mx ds ds.length by lia,Os h.ok]) t ht⟩
def lvO (ds:Za4)(k d:Nat):Option (Nat×Nat):=if d<mx ds ds.length/\Cy ds d k<Cy ds d (k+1) then some (Cy ds d k,Cy ds d (k+1)) else none
inductive Tv (K:de)(CB CC CL:dk)(ts:List Tb)(vs:List V)(H:Hp)(Q:VK)(E:XK):Prop|mk(x:dk)(ds:Za4)(k d:Nat)(_:vs=[.ref x,.int k,.int d])(_:Ey K CB CC CL H x ds)(_:Tbs ts H)(_:k<ds.length)(_:∀v H',SmT ts H H'->PrO H' v (lvO ds k d)->Q v H')
include T ad av aD in
theorem Ql (F:Fun K "level_of" "Levelled.level_of" D9 f fd)(bx:Cal P w K mg base "check_knot" 3 ["k","many_knots"] gG):Av P w K mg base CX0 8 f fd ["self","k","deep"] (Tv K ae ab aa ts):=by
 exists F.ok Dr
 obtain⟨x,ds,k,d,rfl,hL,hT,hk,q⟩:=h;obtain⟨dx,b,c,s,g,w,l,kvs,h⟩:=id hL;refine⟨_,(Aa (Bm (Ar bx hr.m (tpa (pv 1) (tpa (tfl (pv 0)) Ab)))) (Aa (Bm (Ar aD hr.m (tpa (pv 2) Ab))) (Aa (Bp (ttc Zf (pv 2) (tfl (pv 0))) (Ae (Ap Jg))
  As) (Aa (tst 3 Dr.nd (E2 av hr.m (pv 0) (tpa (pv 1) (tpa (pv 2) Ab)))) (Aa (tst 4 Dr.nd (E2 av hr.m (pv 0) (tpa (Ah At (pv 1) Ad) (tpa (pv 2) Ab)))) (Ae (Ap (Gi (ttc Kp (pv 3) (pv 4)) (N0 (tpa (pv 3) (tpa (pv 4) Ab))) Jg)))))))),?_⟩
 apply⟨x,aa,dx,_,_,rfl,h.hx,ad.cl,ad.ci,rfl,?_⟩;apply⟨k,_,rfl,by lia,by lia,?_⟩;apply⟨d,rfl,by lia,?_⟩;apply⟨x,aa,dx,_,_,rfl,h.hx,ad.cl,ad.ck,rfl,?_⟩;apply Cl (λhd=>?_) (λhd=>?_)
 ·apply q _ H (SmT.refl hT) ?_;unfold lvO;rw[if_neg (by lia)];rfl
 apply⟨x,dx,_,rfl,h.hx,rfl,?_⟩;apply⟨x,ds,k,d,rfl,hL,hT,by lia,λH1 s1=>?_⟩;apply⟨x,dx,_,rfl,s1.k h.hx,rfl,?_⟩;apply⟨x,ds,k+1,d,by rw[qh];rfl,hL.sm s1,s1.ok,by lia,λH2 s2=>?_⟩;apply Cl (λh1=>?_) (λh1=>?_)
 ·apply⟨few (by simp),λt ht=>?_⟩;refine q _ _ ((s1.trans s2).then (Ag ht)) ?_;unfold lvO;rw[if_pos ⟨by lia,by lia⟩];exact⟨t,rfl,Ac⟩
 ·apply q _ _ (s1.trans s2) ?_;unfold lvO;rw[if_neg (by lia)];rfl
inductive Q1 (K:de)(CB CC CL:dk)(vs:List V)(H:Hp)(Q:VK)(E:XK):Prop|mk(x:dk)(ds:Za4)(_:vs=[.ref x])(_:Ey K CB CC CL H x ds)(_:Q (.int (mx ds ds.length:Nat)) H)
include T ad in
theorem Qo (F:Fun K "levels" "Levelled.levels" Es f fd):Av P w K mg base CX0 1 f fd ["self"] (Q1 K ae ab aa):=by
 exists F.ok L1
 obtain⟨x,ds,rfl,⟨dx,b,c,s,g,w,l,kvs,h⟩,q⟩:=h;refine⟨_,(Ae (Ap (tfl (pv 0)))),?_⟩;k_is;exact⟨x,aa,dx,_,_,rfl,h.hx,ad.cl,ad.ck,rfl,q⟩
inductive oH (K:de)(CB CC CL:dk)(vs:List V)(H:Hp)(Q:VK)(E:XK):Prop|mk(x:dk)(ds:Za4)(_:vs=[.ref x])(_:Ey K CB CC CL H x ds)(_:∀v,IsW ds v->Q v H)
include T ad in
theorem Qp (F:Fun K "widest" "Levelled.widest" E7 f fd):Av P w K mg base CX0 1 f fd ["self"] (oH K ae ab aa):=by
 exists F.ok Lr
 obtain⟨x,ds,rfl,⟨dx,b,c,s,g,w,l,kvs,h⟩,q⟩:=h;refine⟨_,(Ae (Ap (tfl (pv 0)))),?_⟩;k_is;exact⟨x,aa,dx,_,_,rfl,h.hx,ad.cl,ad.cz,rfl,q w h.hw⟩
inductive mE (K:de)(vs:List V)(H:Hp)(Q:VK)(E:XK):Prop|mk(a:dk)(ns:List Int)(k:Nat)(_:vs=[.ref a,.int k])(_:SqL K H a (ns.map V.int))(_:∀c:Int,Q (.int c) H)
include T in
theorem Sm (F:Fun K "_law_cell_at" "_law_cell_at" Ha f fd):Av P w K mg base CX0 1 f fd ["_law_script","_law_k"] (mE K):=by
 exists F.ok P2
 obtain⟨a,ns,k,rfl,hS,q⟩:=h;refine⟨_,(Aa (Bp (ttc Kp (pv 1) (Ak Ao (by rfl) T.bM Bx (tpa (pv 0) Ab))) (Ae (Ap (tix Bn (pv 0) (pv 1))))
  As) (Ae (Ap Ad))),?_⟩
 apply⟨a,_,rfl,.inl hS,?_⟩;k_is;rw[da];refine Cl (λhb=>?_) (λhb=>?_)
 ·k_is
  have hk:k<ns.length:=by lia
  refine B7 hS (v:=.int ns[k]) ?_ (q _);refine A0 ?_;rw[du,df hk];rfl
 ·k_is
  exact q 0
inductive gA(vs:List V)(H:Hp)(Q:VK)(E:XK):Prop|mk(c:Int)(k:Nat)(_:vs=[.int c,.int k])(_:k<=1000)(_:∀r:Nat,r<300000000->Q (.int r) H)
include T in
theorem Wg (F:Fun K "_law_twice" "_law_twice" Jt f fd):Av P w K mg base CX0 1 f fd ["_law_cell","_law_k"] gA:=by
 exists F.ok Mq
 obtain⟨c,k,rfl,hk,q⟩:=h;refine⟨_,(Aa (tst 2 Mq.nd (Ah Cu (Ah L4 (Ah At (Ah At (Ah At (Ah Cu (pv 0) Ad) (Ah L4 (Ah L4 Ad (pv 1)) (pv 1))) (pv 1)) Ad) Ad) Ad)) (Ae (Ap (Ah Dy (Ah Cu (Ah L4 (Ah At (pv 2) (pv 1)) Ad) Ad) Ad)))),?_⟩
 apply oP (by lia) (by lia) ?_;k_is;generalize ((c%2147483647+7919*(k:Int)*k+k+1)*48271%2147483629+k)*69621=z;have h0:=EF z (show(2147483647:Int)≠0 by decide);have h1:=CZ z (show(0:Int)<2147483647 by decide);have e:z%2147483647/8=((z%2147483647/8).toNat:Int):=by lia
 rw[e];exact q _ (by lia)
inductive eH(vs:List V)(H:Hp)(Q:VK)(E:XK):Prop|mk(c:Int)(n:Nat)(_:vs=[.int c,.int n])(_:n<=60)(_:∀p (ds:Za4) H',Am H H'->H p=none->H' p=some (.lst ((A4 ds).map V.int))->Dok ds->ds.length=n->Q (.ref p) H')
theorem Wx {ds:Za4}(h:Dok ds){k:Nat}(hk:k<=ds.length):[V.int (-1)]++(way ds k).tail.map V.int=(way ds k).map V.int:=by
 rw[Jm h hk];rfl
theorem Xy {ds:Za4}(h:Dok ds){k d:Nat}(hk:k<=ds.length)(hd:d<=opn ds k):atI ((way ds k).map V.int) (d:Int)=some (.int ((way ds k).getD d 0)):=by
 refine A0 (Pz ?_);have hw:=Cd h k hk;unfold gr;rw[df (by lia)];rfl
include T in
theorem U7 (F:Fun K "_law_grown" "_law_grown" Kl f fd):Av P w K mg base CX0 1 f fd ["_law_cell","_law_many"] eH:=by
 exists F.ok C4
 obtain⟨c,n,rfl,hn,q⟩:=h;refine⟨_,(Aa (tst 2 C4.nd (Bc Ab)) (Aa (tst 3 C4.nd (Bc Ab)) (Aa (Cr gh rfl (D0 rfl T.bN (tpa (pv 1) Ab)) (tgn 4 C4.nd) (Aa (tst 5 C4.nd (Ah Cu (pv 0) (Ah At (Ak Ao (by rfl) T.bM Bx (tpa (pv 3) Ab)) Ad))) (Aa (tst 0 C4.nd (Ah Dy (pv 0) (Ah At (Ak Ao (by rfl) T.bM Bx (tpa (pv 3) Ab)) Ad))) (Aa (Bm (Ef f9 ij ii Bs (pv 2) (tpa (tix Bn (Ah Ik (Bc (tpa (Fq Dx Ad) Ab)) (pv 3)) (pv 5)) Ab))) (Ae (tst 3 C4.nd (Ah Ik (Fv Kx (pv 3) Ks (Fp (pv 5))) (Bc (tpa (pv 4) Ab))))))))) (Ae (Ap (pv 2)))))),?_⟩
 apply⟨f7 _,λp hp=>?_⟩;apply⟨f7 _,λp0 hp0=>?_⟩;have t0:=Ag (o:=.lst []) hp;have t1:=Ag (o:=.lst []) hp0;apply⟨_,rfl,by lia,by lia,?_⟩;rw[ge];refine Hu (λk G H1=>(∃(q:dk) (ds:Za4) (g:Int) (v w:Option V),G=[some (.int g),some (.int n),some (.ref p),some (.ref q),v,w]/\Dok ds/\ds.length=k/\H1 p=some (.lst ((A4 ds).map V.int))/\H1 q=some (.lst ((way ds k).tail.map V.int))/\p≠q)/\Am H H1) ?_ ?_ ?_
 ·exact⟨⟨p0,[],_,_,_,rfl,(λk hk=>by cases hk),rfl,t1 _ _ Ac,Ac,Aj Ac hp0⟩,t0.trans t1⟩
 ·rintro k G H1 hk ⟨⟨q1,ds,g,v,w',rfl,hD,hl,hp1,hq1,hne⟩,s1⟩
  have hw:=Cd hD k (by lia);have hok:=Vp hD k (by lia);have hwt:(way ds k).tail.length=opn ds k:=by rw[yd];lia
  apply⟨q1,_,rfl,.inl (SqL.of hq1),?_⟩;k_is;rw[da,hwt];refine Tx (by lia) ?_;k_is;obtain⟨d,hd,hd1⟩:=Hy g (opn ds k);rw[hd];refine⟨q1,_,rfl,.inl (SqL.of hq1),?_⟩;k_is;rw[da,hwt];refine jW (by lia) (by lia) ?_;apply⟨.inl ⟨rfl,_,SqL.of hp1⟩,?_⟩;apply⟨few (by simp),λq3 h3=>?_⟩;have u3:=Ag (o:=.lst [V.int (-1)]) h3;apply⟨q3,q1,_,_,rfl,rfl,Ac,u3 _ _ hq1,?_,λq4 h4=>?_⟩
  ·rw[da,hwt]
   exact few (by simp only[fj,jh];lia)
  rw[Wx hD (by lia)] at *;have u4:=u3.trans (Ag (o:=.lst ((way ds k).map V.int)) h4);have h44:(upd (upd H1 q3 (.lst [V.int (-1)])) q4 (.lst ((way ds k).map V.int))) q4=some (.lst ((way ds k).map V.int)):=Ac;generalize (upd (upd H1 q3 (.lst [V.int (-1)])) q4 (.lst ((way ds k).map V.int)))=H4 at *;apply B7 (SqL.of h44) (Xy hD (by lia) hd1) ?_;apply Cv (u4 _ _ hp1) ?_ ?_
  ·rw[da,Bv]
   exact An (by lia)
  have s5:=Az (o:=.lst ((A4 ds).map V.int++[V.int ((way ds k).getD d 0)])) (s1.trans u4) hp;have hq5:upd H4 p (.lst ((A4 ds).map V.int++[V.int ((way ds k).getD d 0)])) q1=some (.lst ((way ds k).tail.map V.int)):=by rw[Ai hne.symm];exact u4 _ _ hq1
  have hp5:=@Ac H4 p (.lst ((A4 ds).map V.int++[V.int ((way ds k).getD d 0)]));generalize upd H4 p _=H5 at *;apply⟨q1,_,rfl,SqL.of hq5,λq6 h6=>?_⟩;rw[Vm,<-oq] at *;have u6:=Ag (o:=.lst (((way ds k).tail.take d).map V.int)) h6;apply⟨few (by simp),λq7 h7=>?_⟩;have u7:=Ag (o:=.lst [V.int (0+(k:Int))]) h7;refine⟨q6,q7,_,_,rfl,rfl,u7 _ _ Ac,Ac,?_,λq8 h8=>?_⟩
  ·rw[da,dy]
   exact few (by simp only[fj,jh];lia)
  have u8:=Ag (o:=.lst (((way ds k).tail.take d).map V.int++[V.int (0+(k:Int))])) h8;k_is;have hp8:=u8 _ _ (u7 _ _ (u6 _ _ hp5));refine⟨⟨q8,ds++[d],_,_,_,rfl,Jz hD (by rw[hl];exact hd1),by rw[di,hl];rfl,?_,?_,Aj (u7 _ _ (u6 _ _ hp5)) h8⟩,((s5.trans u6).trans u7).trans u8⟩
  ·rw[hp8,Fi,ed,hl]
   rfl
  ·have e:=Hq ds d
   rw[hl] at e;rw[Ac,e,show(0+(k:Int))=(k:Int) by lia];have e2:((way ds k).take (d+1)++[(k:Int)]).tail=(way ds k).tail.take d++[(k:Int)]:=by
    rw[Jm hD (by lia)];rfl
   rw[e2,ed];rfl
 ·rintro G H1 ⟨⟨q1,ds,g,v,w',rfl,hD,hl,hp1,hq1,hne⟩,s1⟩
  k_is;exact q p ds H1 s1 hp hp1 hD hl
inductive fZ (K:de)(vs:List V)(H:Hp)(Q:VK)(E:XK):Prop|mk(a:dk)(ns:List Int)(n:Nat)(_:vs=[.ref a,.int n])(_:SqL K H a (ns.map V.int))(_:n<=60)(_:∀p (ds:Za4) H',Am H H'->H p=none->H' p=some (.lst ((A4 ds).map V.int))->Dok ds->ds.length=n->Q (.ref p) H')
variable (aj:Cal P w K mg base "_law_cell_at" 1 ["_law_script","_law_k"] (mE K)) (aE:Cal P w K mg base "_law_twice" 1 ["_law_cell","_law_k"] gA)
include T aj aE in
theorem Vq (F:Fun K "_law_drawn" "_law_drawn" J1 f fd):Av P w K mg base CX0 2 f fd ["_law_script","_law_many"] (fZ K):=by
 exists F.ok B5
 obtain⟨a,ns,n,rfl,hS,hn,q⟩:=h;refine⟨_,(Aa (tst 2 B5.nd (Bc Ab)) (Aa (tst 3 B5.nd (Bc Ab)) (Aa (Cr gh rfl (D0 rfl T.bN (tpa (pv 1) Ab)) (tgn 4 B5.nd) (Aa (tst 5 B5.nd (Ar aE hr.m (tpa (Ar aj hr.m (tpa (pv 0) (tpa (Ah At Ad (pv 4)) Ab))) (tpa (pv 4) Ab)))) (Aa (tst 6 B5.nd (Ak Ao (by rfl) T.bM Bx (tpa (pv 3) Ab))) (Aa (tst 7 B5.nd (Ah Cu (Ah Dy (pv 5) Ad) (Ah At (pv 6) Ad))) (Aa (tst 8 B5.nd (tix Bn (Bc (tpa (pv 7) (tpa (pv 6) (tpa (Ak (Tq rfl) (by rfl) T.bP Np (tpa Ad (tpa (Ah Dl (pv 6) (Ah Cu (Ah Dy (pv 5) Ad) Ad)) Ab))) (tpa (Ak (Od rfl) (by rfl) T.cj Xs (tpa (pv 7) (tpa Ad Ab))) Ab))))) (Ah Cu (pv 5) Ad))) (Aa (Bm (Ef f9 ij ii Bs (pv 2) (tpa (tix Bn (Ah Ik (Bc (tpa (Fq Dx Ad) Ab)) (pv 3)) (pv 8)) Ab))) (Ae (tst 3 B5.nd (Ah Ik (Fv Kx (pv 3) Ks (Fp (pv 8))) (Bc (tpa (pv 4) Ab))))))))))) (Ae (Ap (pv 2)))))),?_⟩
 apply⟨f7 _,λp hp=>?_⟩;apply⟨f7 _,λp0 hp0=>?_⟩;have t0:=Ag (o:=.lst []) hp;have t1:=Ag (o:=.lst []) hp0;apply⟨_,rfl,by lia,by lia,?_⟩;rw[ge];refine Hu (λk G H1=>(∃(q:dk) (ds:Za4) (v4 v5 v6 v7 v8:Option V),G=[some (.ref a),some (.int n),some (.ref p),some (.ref q),v4,v5,v6,v7,v8]/\Dok ds/\ds.length=k/\H1 p=some (.lst ((A4 ds).map V.int))/\H1 q=some (.lst ((way ds k).tail.map V.int))/\p≠q)/\Am H H1) ?_ ?_ ?_
 ·exact⟨⟨p0,[],_,_,_,_,_,rfl,(λk hk=>by cases hk),rfl,t1 _ _ Ac,Ac,Aj Ac hp0⟩,t0.trans t1⟩
 ·rintro k G H1 hk ⟨⟨q1,ds,v4,v5,v6,v7,v8,rfl,hD,hl,hp1,hq1,hne⟩,s1⟩
  have hw:=Cd hD k (by lia);have hok:=Vp hD k (by lia);have hwt:(way ds k).tail.length=opn ds k:=by rw[yd];lia
  apply⟨a,ns,3+k,by simp,s1.seq hS,λc=>?_⟩;apply⟨c,k,by simp,by lia,λr hr1=>?_⟩;apply⟨q1,_,rfl,.inl (SqL.of hq1),?_⟩;k_is;rw[da,hwt];refine Tx (by lia) ?_;k_is;obtain⟨d0,hd0,hd01⟩:=Hy ((r:Int)/4) (opn ds k);rw[hd0];apply⟨_,_,rfl,?_⟩;apply⟨_,_,rfl,?_⟩;apply⟨few (by simp),λq9 h9=>?_⟩;k_is;obtain⟨d,hat,hd1⟩:∃d:Nat,atI [V.int (d0:Int),V.int (opn ds k:Int),V.int (if(opn ds k:Int)-(r:Int)/4%3>0 then(opn ds k:Int)-(r:Int)/4%3 else 0),V.int (if(2:Int)<(d0:Int) then 2 else(d0:Int))] ((r:Int)%4)=some (.int d)/\d<=opn ds k:=by
   have h4:(r:Int)%4=((r%4:Nat):Int):=(yr r 4).symm;rw[h4];have hr4:r%4<4:=tj _ (by decide);generalize r%4=m at *
   match m,hr4 with
   |0,_=>exact⟨d0,A0 rfl,hd01⟩
   |1,_=>exact⟨opn ds k,A0 rfl,dh _⟩
   |2,_=>
    refine⟨((opn ds k:Int)-(r:Int)/4%3).toNat,(A0 rfl).trans ?_,by lia⟩;congr 2;split<;>lia
   |3,_=>
    refine⟨min 2 d0,(A0 rfl).trans ?_,by lia⟩;congr 2;split<;>lia
  have u9:=Ag (o:=.lst [V.int (d0:Int),V.int (opn ds k:Int),V.int (if(opn ds k:Int)-(r:Int)/4%3>0 then(opn ds k:Int)-(r:Int)/4%3 else 0),V.int (if(2:Int)<(d0:Int) then 2 else(d0:Int))]) h9;refine B7 (SqL.of Ac) hat ?_
  replace hp1:=u9 _ _ hp1
  replace hq1:=u9 _ _ hq1
  replace s1:=s1.trans u9
  generalize upd H1 q9 _=H1 at *;apply⟨.inl ⟨rfl,_,SqL.of hp1⟩,?_⟩;apply⟨few (by simp),λq3 h3=>?_⟩;have u3:=Ag (o:=.lst [V.int (-1)]) h3;apply⟨q3,q1,_,_,rfl,rfl,Ac,u3 _ _ hq1,?_,λq4 h4=>?_⟩
  ·rw[da,hwt]
   exact few (by simp only[fj,jh];lia)
  rw[Wx hD (by lia)] at *;have u4:=u3.trans (Ag (o:=.lst ((way ds k).map V.int)) h4);have h44:(upd (upd H1 q3 (.lst [V.int (-1)])) q4 (.lst ((way ds k).map V.int))) q4=some (.lst ((way ds k).map V.int)):=Ac;generalize (upd (upd H1 q3 (.lst [V.int (-1)])) q4 (.lst ((way ds k).map V.int)))=H4 at *;apply B7 (SqL.of h44) (Xy hD (by lia) hd1) ?_;apply Cv (u4 _ _ hp1) ?_ ?_
  ·rw[da,Bv]
   exact An (by lia)
  have s5:=Az (o:=.lst ((A4 ds).map V.int++[V.int ((way ds k).getD d 0)])) (s1.trans u4) hp;have hq5:upd H4 p (.lst ((A4 ds).map V.int++[V.int ((way ds k).getD d 0)])) q1=some (.lst ((way ds k).tail.map V.int)):=by rw[Ai hne.symm];exact u4 _ _ hq1
  have hp5:=@Ac H4 p (.lst ((A4 ds).map V.int++[V.int ((way ds k).getD d 0)]));generalize upd H4 p _=H5 at *;apply⟨q1,_,rfl,SqL.of hq5,λq6 h6=>?_⟩;rw[Vm,<-oq] at *;have u6:=Ag (o:=.lst (((way ds k).tail.take d).map V.int)) h6;apply⟨few (by simp),λq7 h7=>?_⟩;have u7:=Ag (o:=.lst [V.int (0+(k:Int))]) h7;refine⟨q6,q7,_,_,rfl,rfl,u7 _ _ Ac,Ac,?_,λq8 h8=>?_⟩
  ·rw[da,dy]
   exact few (by simp only[fj,jh];lia)
  have u8:=Ag (o:=.lst (((way ds k).tail.take d).map V.int++[V.int (0+(k:Int))])) h8;k_is;have hp8:=u8 _ _ (u7 _ _ (u6 _ _ hp5));refine⟨⟨q8,ds++[d],_,_,_,_,_,rfl,Jz hD (by rw[hl];exact hd1),by rw[di,hl];rfl,?_,?_,Aj (u7 _ _ (u6 _ _ hp5)) h8⟩,((s5.trans u6).trans u7).trans u8⟩
  ·rw[hp8,Fi,ed,hl]
   rfl
  ·have e:=Hq ds d
   rw[hl] at e;rw[Ac,e,show(0+(k:Int))=(k:Int) by lia];have e2:((way ds k).take (d+1)++[(k:Int)]).tail=(way ds k).tail.take d++[(k:Int)]:=by
    rw[Jm hD (by lia)];rfl
   rw[e2,ed];rfl
 ·rintro G H1 ⟨⟨q1,ds,v4,v5,v6,v7,v8,rfl,hD,hl,hp1,hq1,hne⟩,s1⟩
  k_is;exact q p ds H1 s1 hp hp1 hD hl
inductive uI(vs:List V)(H:Hp)(Q:VK)(E:XK):Prop|mk(a:dk)(ds:Za4)(m:Nat)(b:Bool)(_:vs=[.ref a,.int m,.bl b])(_:H a=some (.lst ((A4 ds).map V.int)))(_:Dok ds)(_:0<ds.length)(_:m*ds.length<=1000)(_:ds.length<=60)(_:∀p (es:Za4) H',Am H H'->H p=none->H' p=some (.lst ((A4 es).map V.int))->Dok es->es.length=(m+1)*ds.length->Q (.ref p) H')
theorem iL {ds:Za4}(h:Dok ds)(hp:0<ds.length):(way ds ds.length).getD (opn ds ds.length) 0=(ds.length:Int)-1:=by
 obtain⟨k,hk⟩:∃k,ds.length=k+1:=⟨ds.length-1,by lia⟩;rw[hk];show((way ds k).take (dAt ds k+1)++[(k:Int)]).getD (dAt ds k+1) 0=_;have hw:=Cd h k (by lia);have:=h k (by lia);unfold gr;rw[d8 (by rw[dy];lia),dy,iz (by lia),jd];show(k:Int)=((k+1:Nat):Int)-1;lia
include T in
theorem Pf (F:Fun K "_law_repeated" "_law_repeated" E4 f fd):Av P w K mg base CX0 1 f fd ["_law_elders","_law_times","_law_hung"] uI:=by
 exists F.ok B0
 obtain⟨a,ds,m,b,rfl,ha,hD,hpos,hm,hn,q⟩:=h;have hm1:m<=1000:=fq (Nat.le_mul_of_pos_right m hpos) hm;refine⟨_,(Aa (tst 3 B0.nd (De Et (by rfl) T.bW Lq (tpa (pv 0) Ab))) (Aa (Cr gh rfl (D0 rfl T.bN (tpa (pv 1) Ab)) (tgn 4 B0.nd) (Aa (Jc (i:=5) B0.nd rfl (sj rfl) (Ak Ao (by rfl) T.bM Bx (tpa (pv 3) Ab))) (Aa (Jc (i:=6) B0.nd rfl (sj rfl) (Fq Dx Ad)) (Aa (Wa (B8 (pv 2)) (Ae (Jc (i:=6) B0.nd rfl (sj rfl) (Ah Dl (pv 5) Ad)))
  As) (Ae (tst 3 B0.nd (Ah Ik (pv 3) (Nr rfl M7 (Cn (pv 0)) (λ_ _ _ _=>Ez) (λ_ _ _ _=>(Gi (ttc Kp (pv 0) Ad) (pv 1) (Ah At (pv 0) (pv 2)))))))))))) (Ae (Ap (pv 3))))),?_⟩
 apply⟨a,_,rfl,.inl (SqL.of ha),λp hp=>?_⟩;have t0:=Ag (o:=.lst ((A4 ds).map V.int)) hp;apply⟨_,rfl,by lia,by lia,?_⟩;rw[ge];refine Hu (λk G H1=>(∃(p1:dk) (es:Za4) (v4 v5 v6:Option V),G=[some (.ref a),some (.int m),some (.bl b),some (.ref p1),v4,v5,v6]/\Dok es/\es.length=(k+1)*ds.length/\H p1=none/\H1 p1=some (.lst ((A4 es).map V.int)))/\Am H H1) ?_ ?_ ?_
 ·exact⟨⟨p,ds,_,_,_,rfl,hD,by lia,hp,Ac⟩,t0⟩
 ·rintro k G H1 hk ⟨⟨p1,es,v4,v5,v6,rfl,hE,hl,hp0,hp1⟩,s1⟩
  have hlm:(k+1)*ds.length<=1000:=fq (Nat.mul_le_mul_right _ (by lia)) hm;have hlp:0<es.length:=by rw[hl];exact Nat.mul_pos (AU _) hpos
  apply⟨p1,_,rfl,.inl (SqL.of hp1),?_⟩;k_is;rw[da,Bv];refine dR (λG H'=>H'=H1/\∃D:Nat,D<=opn es es.length/\G=[some (.ref a),some (.int m),some (.bl b),some (.ref p1),some (.int (0+(k:Int))),some (.int (es.length:Int)),some (.int ((way es es.length).getD D 0))]) ?_ ?_
  ·k_is
   cases b with
   |true=>
    apply⟨rfl,opn es es.length,dh _,?_⟩;rw[iL hE hlp];rfl
   |false=>
    apply⟨rfl,0,f7 _,?_⟩;have e1:(way es es.length).getD 0 0=-1:=by rw[Jm hE (dh _)];rfl
    rw[e1];rfl
  ·rintro G H' ⟨rfl,D,hDo,rfl⟩
   k_is;generalize hbs:(way es es.length).getD D 0=bs;refine⟨a,rfl,⟨_,SqL.of (s1 _ _ ha)⟩,?_⟩;refine K6 (SqL.of (s1 _ _ ha)) (λi=>((A4 ds).take i |>.map (shI es.length bs)).map V.int) rfl (λi hi=>?_) (λi x H2 R A hx s2 kR kA=>?_) (λD2 H2 hD2 s2 hl2=>?_)
   ·rw[da,da,dy]
    exact An (by rw[Bv];lia)
   ·obtain⟨n,hn2,rfl⟩:=Jy hx
    have hacc:(((A4 ds).take (i+1)).map (shI es.length bs)).map V.int=(((A4 ds).take i).map (shI es.length bs)).map V.int++[.int (shI es.length bs n)]:=by
     rw[il,hn2,ed,ed];rfl
    apply Cl (λh=>?_) (λh=>?_)
    ·apply kA _ _ ?_ (Am.refl _);rw[hacc];unfold shI;rw[if_pos h]
    ·apply kA _ _ ?_ (Am.refl _);rw[hacc];unfold shI;rw[if_neg h]
   ·rw[fc (by rw[da];exact dh _)] at hl2
    obtain⟨c1,c2,_⟩:=rV hE hDo ds hD;rw[hbs] at c2;apply⟨p1,D2,_,_,rfl,rfl,s2 _ _ hp1,hl2,?_,λp3 hp3=>?_⟩
    ·simp only[da,Bv]
     exact ig (An (by lia))
    have u3:=Ag (o:=.lst ((A4 es).map V.int++((A4 ds).map (shI es.length bs)).map V.int)) hp3;apply⟨⟨p3,Hl es D ds,_,_,_,rfl,c1,?_,(s1.trans s2).free hp3,?_⟩,(s1.trans s2).trans u3⟩
    ·rw[Y8,hl,we (k+1) 1,HB]
    ·rw[Ac,c2,ed]
 ·rintro G H1 ⟨⟨p1,es,v4,v5,v6,rfl,hE,hl,hp0,hp1⟩,s1⟩
  k_is;exact q p1 es H1 s1 hp0 hp1 hE hl
inductive eI (K:de)(vs:List V)(H:Hp)(Q:VK)(E:XK):Prop|mk(a:dk)(ns:List Int)(L:Nat)(_:vs=[.ref a,.int 60,.int L])(_:SqL K H a (ns.map V.int))(_:L<=400)(_:∀p (ds:Za4) H',Am H H'->H p=none->H' p=some (.lst ((A4 ds).map V.int))->Dok ds->ds.length<=460->Q (.ref p) H')
include T aj in
theorem X8 (F:Fun K "_law_wood" "_law_wood" Lp f fd)(bz:Cal P w K mg base "_law_grown" 1 ["_law_cell","_law_many"] eH)(bA:Cal P w K mg base "_law_drawn" 2 ["_law_script","_law_many"] (fZ K))(bB:Cal P w K mg base "_law_repeated" 1 ["_law_elders","_law_times","_law_hung"] uI):Av P w K mg base CX0 3 f fd ["_law_script","_law_most","_law_large"] (eI K):=by
 exists F.ok Ep
 obtain⟨a,ns,L,rfl,hS,hL,q⟩:=h;refine⟨_,(Aa (tst 3 Ep.nd (Ar aj hr.m (tpa (pv 0) (tpa Ad Ab)))) (Aa (tst 4 Ep.nd (Ah Cu (Ah Dy (pv 3) Ad) (Ah At (pv 1) Ad))) (Aa (tst 5 Ep.nd (Ar bA hr.m (tpa (pv 0) (tpa (pv 4) Ab)))) (Aa (Wa (PW.pt (cN (ttc Fs (Ah Cu (pv 3) Ad) Ad) (U9 (ttc Zf (Ak oX (by rfl) T.n_abs zN (tpa (Ar aj hr.m (tpa (pv 0) (tpa Ad Ab))) Ab)) (Ah dH Ad Ad))))) (Ae (tst 5 Ep.nd (Ar bz hr.m (tpa (Ar aj hr.m (tpa (pv 0) (tpa Ad Ab))) (tpa (pv 4) Ab)))))
  As) (Aa (Wa (PW.pt (cN (ttc Fs (Ah Cu (Ah Dy (pv 3) Ad) Ad) Ad) (U9 (ttc Lk (pv 4) Ad)))) (Ae (tst 5 Ep.nd (Ar bB hr.m (tpa (pv 5) (tpa (Ah Dy (pv 2) (pv 4)) (tpa (tpc Fs (Ah Cu (Ar aj hr.m (tpa (pv 0) (tpa Ad Ab))) Ad) Ad) Ab))))))
  As) (Ae (Ap (pv 5)))))))),?_⟩
 apply⟨a,ns,0,rfl,hS,λc=>?_⟩;k_is;obtain⟨n,hn,hn1⟩:=Hy (c/8) 60;have hn':c/8%(60+1)=(n:Int):=hn;rw[hn'];refine⟨a,ns,n,rfl,hS,hn1,λp0 d0 H1 s1 hp0 h0 hD0 hl0=>?_⟩;apply dR (λG H'=>Am H H'/\∃(p:dk) (ds:Za4),G=[some (.ref a),some (.int 60),some (.int L),some (.int c),some (.int n),some (.ref p)]/\H p=none/\H' p=some (.lst ((A4 ds).map V.int))/\Dok ds/\ds.length=n) ?_ ?_
 ·k_is
  have keep:Am H H1/\∃(p:dk) (ds:Za4),[some (V.ref a),some (.int 60),some (.int L),some (.int c),some (.int n),some (.ref p0)]=[some (V.ref a),some (.int 60),some (.int L),some (.int c),some (.int n),some (.ref p)]/\H p=none/\H1 p=some (.lst ((A4 ds).map V.int))/\Dok ds/\ds.length=n:=⟨s1,p0,d0,rfl,hp0,h0,hD0,hl0⟩;refine Cl (λh2=>?_) (λh2=>?_)
  ·apply⟨a,ns,1,rfl,s1.seq hS,λc1=>?_⟩;apply⟨_,rfl,?_⟩;apply⟨10,18,rfl,rfl,⟨by decide,by decide,by decide⟩,?_⟩;apply Cl (λh3=>?_) (λh3=>?_)
   ·apply⟨a,ns,1,rfl,s1.seq hS,λc2=>?_⟩;apply⟨c2,n,rfl,hn1,λp1 d1 H3 s3 hp1 h1 hD1 hl1=>?_⟩;k_is;exact⟨s1.trans s3,p1,d1,rfl,s1.free hp1,h1,hD1,hl1⟩
   ·k_is
    exact keep
  ·k_is
   exact keep
 ·rintro G H2 ⟨s2,p,ds,rfl,hp,h2,hD,hl⟩
  apply dR (λG H'=>Am H H'/\∃(p:dk) (es:Za4),G=[some (.ref a),some (.int 60),some (.int L),some (.int c),some (.int n),some (.ref p)]/\H p=none/\H' p=some (.lst ((A4 es).map V.int))/\Dok es/\es.length<=460) ?_ ?_
  ·have keep:Am H H2/\∃(q:dk) (es:Za4),[some (V.ref a),some (.int 60),some (.int L),some (.int c),some (.int n),some (.ref p)]=[some (V.ref a),some (.int 60),some (.int L),some (.int c),some (.int n),some (.ref q)]/\H q=none/\H2 q=some (.lst ((A4 es).map V.int))/\Dok es/\es.length<=460:=⟨s2,p,ds,rfl,hp,h2,hD,by lia⟩
   apply Cl (λh4=>?_) (λh4=>?_)
   ·apply Cl (λh5=>?_) (λh5=>?_)
    ·apply jW (by lia) (by lia) ?_;apply⟨a,ns,2,rfl,s2.seq hS,λc3=>?_⟩;k_is;have e1:(L:Int)/(n:Int)=((L/n:Nat):Int):=(yt L n).symm;have hm:L/n*n<=L:=Nat.div_mul_le_self L n;rw[e1];refine⟨p,ds,L/n,_,rfl,h2,hD,by lia,by rw[hl];lia,by lia,λp4 es H4 s4 hp4 h44 hE hle=>?_⟩;apply⟨s2.trans s4,p4,es,rfl,s2.free hp4,h44,hE,?_⟩;rw[hle,hl,we,HB];lia
    ·k_is
     exact keep
   ·k_is
    exact keep
  ·rintro G H5 ⟨s5,p5,es,rfl,hp5,h5,hE,hle⟩
   k_is;exact q p5 es H5 s5 hp5 h5 hE hle
theorem Py {ds:Za4}{k:Nat}(hk:k<ds.length):nV (ds.take k)++[V.int (dAt ds k:Nat)]=nV (ds.take (k+1)):=by
 unfold nV dAt gr;rw[il,df hk,ed];rfl
theorem Up (n:Nat):(dv n [V.int 0]).flatten=(dv n (0:Int)).map V.int:=by
 induction n with
 |zero=>rfl
 |succ n ih=>rw[im,im,gd,ih];rfl
theorem pO {K:de}{a:dk}{fr:St}{Q:VK}(hl:SqL K H1 a xs)(hz:xs.length<=5000)
  (fin:∀D (rs:List dk) H,H1 D=none->Am H1 H->H D=some (.lst (rs.map V.ref))->rs.length=xs.length->(∀r∈rs,r≠D/\H1 r=none/\H r=some (.lst []))->rs.Nodup->Q (.ref D) H):Pe (Itl K a) H1 fr xW (xA Wi) Q:=by
 intro D hD;refine⟨λi m H=>i<=xs.length/\m=xs.length-i/\Am H1 H/\∃rs:List dk,H D=some (.lst (rs.map V.ref))/\rs.length=i/\(∀r∈rs,r≠D/\H1 r=none/\H r=some (.lst []))/\rs.Nodup,⟨xs.length,f7 _,rfl,Ag hD,[],Ac,rfl,(λr hr=>by cases hr),List.nodup_nil⟩,?_⟩;rintro i m H ⟨hi,rfl,sm,rs,hl2,hlen,hr,hnd⟩
 by_cases h:i=xs.length
 ·exact .inl ⟨⟨xs,sm.seq hl,by lia⟩,fin D rs H hD sm hl2 (by lia) hr hnd⟩
 ·have hlt:i<xs.length:=oh hi h
  refine .inr ⟨⟨xs,xs[i],sm.seq hl,by simp[hlt]⟩,λx H' hyl=>?_⟩;obtain rfl:H'=H:=hyl.1;refine⟨f7 _,λp hp=>⟨rs.map V.ref,?_,?_,xs.length-(i+1),by lia,by lia,rfl,λb u e=>?_,rs++[p],?_,by rw[di,hlen];rfl,λr hr2=>?_,?_⟩⟩
  ·rw[Ai (Aj hl2 hp)]
   exact hl2
  ·rw[da]
   exact An (by lia)
  ·rw[Ai (Aj e hD),Ai (Aj (sm _ _ e) hp)]
   exact sm _ _ e
  ·rw[Ac,ed]
   rfl
  ·have hpD:p≠D:=(Aj hl2 hp).symm
   rcases gj.mp hr2 with h1|h1
   ·obtain⟨a1,a2,a3⟩:=hr r h1
    exact⟨a1,a2,by rw[Ai a1,Ai (Aj a3 hp)];exact a3⟩
   ·obtain rfl:=ee.mp h1
    exact⟨hpD,sm.free hp,by rw[Ai hpD,Ac]⟩
  ·rw[List.nodup_append]
   refine⟨hnd,by simp,λx hx y hy=>?_⟩;rw[ee.mp hy];exact Aj (hr x hx).2.2 hp
structure Abt (ds:Za4) (H:Hp) (pi pt pd:dk) (rs:List dk):Prop where
 hi:H pi=some (.lst (rs.map V.ref))
 ln:rs.length=ds.length
 hr:∀(i:Nat) r,rs[i]?=some r->H r=some (.lst (nV (Ba ds ds.length i)))
 ht:H pt=some (.lst (nV (Ba ds ds.length (-1))))
 hd:H pd=some (.lst (nV ds))
def bL (ds:Za4)(m:Nat):List V:=nV ((d7 ds.length).map λi:Nat=>bS ds m (i:Int))
theorem Ly (ds:Za4)(m:Nat):(bL ds m).length=ds.length:=by unfold bL nV;rw[da,da,d6]
theorem Ox {ds:Za4}{m i:Nat}(h:i<ds.length):(bL ds m)[i]?=some (.int (bS ds m (i:Int):Nat)):=by
 unfold bL nV;rw[du,du,gl h];rfl
theorem vE {ds:Za4}(h:Dok ds){k j v:Nat}(hk:j+(k+1)=ds.length)(hv:eld ds j=(v:Int)):(bL ds k).set v (.int ((bS ds k (v:Int):Nat)+(bS ds k (j:Int):Nat)+1:Int))=bL ds (k+1):=by
 refine j2 λi=>?_;have hj:j<ds.length:=by lia
 have own:=nK h hj;have he:=(Cm (ds:=ds) hj).1
 by_cases hi:i<ds.length
 ·have st:=Pn hj (i:Int)
  rw[show ds.length-j=k+1 by lia,show ds.length-(j+1)=k by lia] at st;rw[show ds.length-(j+1)=k by lia] at own;rw[ud,Ox (m:=k+1) hi]
  by_cases e:v=i
  ·subst e
   rw[if_pos rfl,if_pos (by rw[Ly];exact hi),st,if_pos hv];congr 2;lia
  ·rw[if_neg e,Ox (m:=k) hi,st,if_neg (by rw[hv];lia)]
   rfl
 ·rw[f8 (by rw[my,Ly];lia),f8 (by rw[Ly];lia)]
theorem Abc {ds:Za4}{k j:Nat}(hk:j+(k+1)=ds.length)(hv:eld ds j<0):bL ds k=bL ds (k+1):=by
 refine j2 λi=>?_
 by_cases hi:i<ds.length
 ·have st:=Pn (show j<ds.length by lia) (i:Int)
  rw[show ds.length-j=k+1 by lia,show ds.length-(j+1)=k by lia] at st;rw[Ox hi,Ox hi,st,if_neg (by lia)];rfl
 ·rw[f8 (by rw[Ly];lia),f8 (by rw[Ly];lia)]
theorem rX (ds:Za4):bL ds 0=(dv ds.length (0:Int)).map V.int:=by
 refine j2 λi=>?_
 by_cases hi:i<ds.length
 ·rw[Ox hi,du,qk,if_pos hi]
  rfl
 ·rw[f8 (by rw[Ly];lia),f8 (by rw[da,gy];lia)]
inductive fX(vs:List V)(H:Hp)(Q:VK)(E:XK):Prop|mk(a:dk)(ds:Za4)(_:vs=[.ref a])(_:H a=some (.lst ((A4 ds).map V.int)))(_:Dok ds)(_:ds.length<=3000)(_:∀t pi pt pd pb rs H',Am H H'->H' t=some (.tup [.ref pi,.ref pt,.ref pd,.ref pb])->Abt ds H' pi pt pd rs->H' pb=some (.lst (bL ds ds.length))->Q (.ref t) H')
structure PlI (H:Hp) (D p1 p2:dk) (rs:List dk) (ds:Za4) (k:Nat) (H1:Hp):Prop where
 s:Am H H1
 hD:H1 D=some (.lst (rs.map V.ref))
 hr:∀(i:Nat) r,rs[i]?=some r->r≠D/\r≠p1/\r≠p2/\H r=none/\H1 r=some (.lst (nV (Ba ds k i)))
 ht:H1 p1=some (.lst (nV (Ba ds k (-1))))
 hd:H1 p2=some (.lst (nV (ds.take k)))
theorem PlI.same {D p1 p2:dk}{rs:List dk}{ds:Za4}{k:Nat}(h:PlI H D p1 p2 rs ds k H1)(s2:Am H1 H2):PlI H D p1 p2 rs ds k H2:=
 ⟨h.s.trans s2,s2 _ _ h.hD,λi r hr=>let ⟨a1,a2,a3,a4,a5⟩:=h.hr i r hr;⟨a1,a2,a3,a4,s2 _ _ a5⟩,s2 _ _ h.ht,s2 _ _ h.hd⟩
theorem vQ {α:Type}{l:List α}(h:l.Nodup){i j:Nat}{x:α}(e1:l[i]?=some x)(e2:l[j]?=some x):i=j:=by
 have hi:=Fc e1;have hj:=Fc e2;rw[df hi] at e1;rw[df hj] at e2;rw[List.Nodup,ph] at h
 by_cases a:i<j
 ·exact absurd (by rw[dr e1,dr e2]) (h i j hi hj a)
 ·by_cases b:j<i
  ·exact absurd (by rw[dr e1,dr e2]) (h j i hj hi b)
  ·lia
include T in
theorem U1 (F:Fun K "_law_plain" "_law_plain" Gw f fd):Av P w K mg base CX0 1 f fd ["_law_elders"] fX:=by
 exists F.ok Ce
 obtain⟨a,ds,rfl,ha,hD,hn,q⟩:=h;have hle:((A4 ds).map V.int).length=ds.length:=by rw[da,Bv]
 refine⟨_,(Aa (Ke (i:=2) rfl Px Ce.nd rfl rfl (Cn (pv 0)) (λ_ _ _ _=>Ez) (λ_ _ _ _=>(Bc Ab))) (Aa (tst 3 Ce.nd (Bc Ab)) (Aa (tst 4 Ce.nd (Bc Ab)) (Aa (Cr gh rfl (Pm rfl T.cx (tpa (pv 0) Ab)) (Og rfl (Cg (tgn 5 Ce.nd) (Cg (tgn 1 Ce.nd) Ky))) (Ae (Bp (ttc Kp (pv 1) Ad) (Aa (Bm (Ef f9 ij ii Bs (pv 3) (tpa (pv 5) Ab))) (Ae (Bm (Ef f9 ij ii Bs (pv 4) (tpa Ad Ab))))) (Aa (Bm (Ef f9 ij ii Bs (tix Bn (pv 2) (pv 1)) (tpa (pv 5) Ab))) (Ae (Bm (Ef f9 ij ii Bs (pv 4) (tpa (Ah At (tix Bn (pv 4) (pv 1)) Ad) Ab)))))))) (Aa (tst 6 Ce.nd (Ah L6 (Bc (tpa Ad Ab)) (Ak Ao (by rfl) T.bM Bx (tpa (pv 0) Ab)))) (Aa (Cr gh rfl (sL rfl T.cG rfl T.bN (tpa (Ak Ao (by rfl) T.bM Bx (tpa (pv 0) Ab)) Ab)) (tgn 5 Ce.nd) (Ae (Bp (ttc Zf (tix Bn (pv 0) (pv 5)) Ad) (Ae (Ob (Ah At (Ah At (tix Bn (pv 6) (tix Bn (pv 0) (pv 5))) (tix Bn (pv 6) (pv 5))) Ad) (Re (pv 6) (tix Bn (pv 0) (pv 5)) Ga)))
  As))) (Ae (Ap (N0 (tpa (pv 2) (tpa (pv 3) (tpa (pv 4) (tpa (pv 6) Ab))))))))))))),?_⟩
 apply⟨a,rfl,⟨_,SqL.of ha⟩,?_⟩;refine pO (SqL.of ha) (by lia) (λD rs H1 hDn s1 hD1 hrl hr1 hnd=>?_);rw[hle] at hrl;apply⟨f7 _,λp1 hp1=>?_⟩;have u1:=Ag (o:=.lst []) hp1;apply⟨f7 _,λp2 hp2=>?_⟩;have u2:=Ag (o:=.lst []) hp2;have n12:p1≠p2:=Aj Ac hp2;have nD1:D≠p1:=Aj hD1 hp1;have nD2:D≠p2:=Aj (u1 _ _ hD1) hp2;have h1n:H p1=none:=s1.free hp1;have h2n:H p2=none:=s1.free (u1.free hp2);have J0:PlI H D p1 p2 rs ds 0 (upd (upd H1 p1 (.lst [])) p2 (.lst [])):=⟨(s1.trans u1).trans u2,u2 _ _ (u1 _ _ hD1),λi r hr=>by
  obtain⟨a1,a2,a3⟩:=hr1 r (d5 hr);exact⟨a1,Aj a3 hp1,Aj (u1 _ _ a3) hp2,a2,u2 _ _ (u1 _ _ a3)⟩,u2 _ _ Ac,Ac⟩
 generalize (upd (upd H1 p1 (.lst [])) p2 (.lst []))=H2 at J0;apply⟨a,rfl,⟨_,SqL.of (J0.s _ _ ha)⟩,?_⟩;refine Nf (xs:=(A4 ds).map V.int) (λk G H3=>(∃v1 v5 v6:Option V,G=[some (.ref a),v1,some (.ref D),some (.ref p1),some (.ref p2),v5,v6])/\PlI H D p1 p2 rs ds k H3) ⟨⟨_,_,_,rfl⟩,J0⟩ (λk G H3 _ h=>SqL.of (h.2.s _ _ ha)) ?_ ?_
 ·rintro k x G H3 t hx ⟨⟨v1,v5,v6,rfl⟩,J3⟩ ht
  obtain⟨e,he,rfl⟩:=Jy hx;have hk:k<ds.length:=by have:=Fc he;rw[Bv] at this;exact this
  obtain rfl:eld ds k=e:=by rw[Pp hk] at he;exact dr he
  have J4:=J3.same (Ag (o:=.tup [.int k,.int (eld ds k)]) ht);generalize upd H3 t (.tup [.int k,.int (eld ds k)])=H4 at J4;have ht1:=J4.ht;have htl:=eR ds k (-1);have hdl:(nV (ds.take k)).length=k:=by unfold nV;rw[da,dy];lia
  apply Cl (λhneg=>?_) (λhpos=>?_)
  ·have hd0:dAt ds k=0:=Wm hD hk (by have:=Sa hD hk;lia)
   apply⟨.inl ⟨rfl,_,SqL.of ht1⟩,?_⟩;apply Cv ht1 (by rw[Bz];exact An (by lia)) ?_;have hem:eld ds k=-1:=by have:=Sa hD hk;lia
   rw[show nV (Ba ds k (-1))++[V.int (k:Int)]=nV (Ba ds (k+1) (-1)) by rw[Jx hem];exact Va _ [k]];k_is;have hp25:upd H4 p1 (.lst (nV (Ba ds (k+1) (-1)))) p2=some (.lst (nV (ds.take k))):=by rw[Ai n12.symm];exact J4.hd
   refine⟨.inl ⟨rfl,_,SqL.of hp25⟩,?_⟩;apply Cv hp25 (by rw[hdl];exact An (by lia)) ?_;apply⟨⟨_,_,_,rfl⟩,Az (Az J4.s h1n) h2n,?_,λi r hr=>?_,by rw[Ai n12,Ac],?_⟩
   ·rw[Ai nD2,Ai nD1];exact J4.hD
   ·obtain⟨a1,a2,a3,a4,a5⟩:=J4.hr i r hr
    exact⟨a1,a2,a3,a4,by rw[Ai a3,Ai a2,M0 (by lia)];exact a5⟩
   ·rw[Ac,<-Py hk,hd0];rfl
  ·obtain⟨v,hv,hvk,hdv⟩:=Dp hD hk (by lia)
   have hky:Ba ds (k+1) v=Ba ds k v++[k]:=Jx hv;have hkn:∀i:Int,i≠v->Ba ds (k+1) i=Ba ds k i:=λi hi=>M0 (by rw[hv];exact λe=>hi e.symm);rw[hv] at *;k_is;have hrv:rs[v]?=some (rs[v]'(by lia)):=df _;generalize rs[v]'(by lia)=r at hrv;obtain⟨a1,a2,a3,a4,a5⟩:=J4.hr v r hrv;have hvl:=eR ds k v;refine B7 (SqL.of J4.hD) (v:=.ref r) (A0 (by rw[du,hrv];rfl)) ?_;apply⟨.inl ⟨rfl,_,SqL.of a5⟩,?_⟩;apply Cv a5 (by rw[Bz];exact An (by lia)) ?_;rw[show nV (Ba ds k v)++[V.int (k:Int)]=nV (Ba ds (k+1) v) by rw[hky];exact Va _ [k]];k_is;have hp25:upd H4 r (.lst (nV (Ba ds (k+1) v))) p2=some (.lst (nV (ds.take k))):=by rw[Ai a3.symm];exact J4.hd
   refine⟨.inl ⟨rfl,_,SqL.of hp25⟩,?_⟩;k_is;have hat:atI (nV (ds.take k)) (v:Int)=some (.int (dAt ds v:Nat)):=by
    refine A0 ?_;unfold nV;rw[du,gq hvk];unfold dAt gr;rw[df (by lia)];rfl
   refine B7 (SqL.of hp25) hat ?_;apply Cv hp25 (by rw[hdl];exact An (by lia)) ?_;apply⟨⟨_,_,_,rfl⟩,Az (Az J4.s a4) h2n,?_,λi r' hr'=>?_,by rw[Ai n12,Ai a2.symm,hkn (-1) (by lia)];exact ht1,?_⟩
   ·rw[Ai nD2,Ai a1.symm];exact J4.hD
   ·obtain⟨b1,b2,b3,b4,b5⟩:=J4.hr i r' hr'
    by_cases hrr:i=v
    ·subst hrr
     rw[hrv] at hr';obtain rfl:=dr hr';exact⟨b1,b2,b3,b4,by rw[Ai b3,Ac]⟩
    ·refine⟨b1,b2,b3,b4,?_⟩
     rw[Ai b3,Ai (λe=>hrr (vQ hnd hr' (by rw[e];exact hrv))),hkn i (by lia)];exact b5
   ·rw[Ac,<-Py hk,hdv];rfl
 ·rintro G H3 ⟨⟨v1,v5,v6,rfl⟩,J3⟩
  rw[hle] at J3;have hd3:=J3.hd;rw[fc (dh _)] at hd3;have s3:=J3.s;have hD3:=J3.hD;apply⟨few (by simp),λp hp=>?_⟩;have u0:=Ag (o:=.lst [V.int 0]) hp;apply⟨a,_,rfl,.inl (SqL.of (u0 _ _ (s3 _ _ ha))),?_⟩;k_is;rw[hle];refine⟨p,ds.length,_,rfl,rfl,Ac,by lia,by lia,ig (An (by simp;lia)),λm hm=>?_⟩;have u1:=u0.trans (Ag (o:=.lst (dv ((ds.length:Nat):Int).toNat [V.int 0]).flatten) hm);have hm0:H3 m=none:=u0.free hm;have hM:(upd (upd H3 p (.lst [V.int 0])) m (.lst (dv ((ds.length:Nat):Int).toNat [V.int 0]).flatten)) m=some (.lst (bL ds 0)):=by rw[Ac,ge,Up,rX]
  generalize (upd (upd H3 p (.lst [V.int 0])) m (.lst (dv ((ds.length:Nat):Int).toNat [V.int 0]).flatten))=H4 at *;apply⟨a,_,rfl,.inl (SqL.of (u1 _ _ (s3 _ _ ha))),?_⟩;k_is;rw[hle];refine⟨ds.length,rfl,by lia,?_⟩;refine Tj (λk G H5=>(∃v1 v5:Option V,G=[some (.ref a),v1,some (.ref D),some (.ref p1),some (.ref p2),v5,some (.ref m)])/\Am H3 H5/\H5 m=some (.lst (bL ds k))) ⟨⟨_,_,rfl⟩,u1,hM⟩ ?_ ?_
  ·rintro k G H5 hk ⟨⟨v1,v5,rfl⟩,s5,hm5⟩
   have ek:(ds.length:Int)-1+(k:Int)*(-1)=((ds.length-1-k:Nat):Int):=by lia
   rw[ek];have hj:ds.length-1-k<ds.length:=by lia
   have hjk:ds.length-1-k+(k+1)=ds.length:=by lia
   generalize ds.length-1-k=j at hj hjk;have haj:SqL K H5 a ((A4 ds).map V.int):=SqL.of (s5 _ _ (s3 _ _ ha));have hej:atI ((A4 ds).map V.int) (j:Int)=some (.int (eld ds j)):=A0 (Pz (Pp hj));apply B7 haj hej ?_;apply Cl (λhge=>?_) (λhge=>?_)
   ·obtain⟨v,hv,hvk,_⟩:=Dp hD hj (by lia)
    have hbv:atI (bL ds k) (v:Int)=some (.int (bS ds k (v:Int):Nat)):=A0 (Ox (by lia));have hbj:atI (bL ds k) (j:Int)=some (.int (bS ds k (j:Int):Nat)):=A0 (Ox hj);apply B7 haj hej ?_;rw[hv];apply B7 (SqL.of hm5) hbv ?_;apply B7 (SqL.of hm5) hbj ?_;apply B7 haj hej ?_;apply Lo (j:=v) hm5 (by rw[hv]) (by rw[Ly];lia) ?_;apply⟨⟨_,_,rfl⟩,Az s5 hm0,?_⟩;rw[Ac,vE hD hjk hv]
   ·k_is
    exact⟨⟨_,_,rfl⟩,s5,by rw[<-Abc hjk (by lia)];exact hm5⟩
  ·rintro G H5 ⟨⟨v1,v5,rfl⟩,s5,hm5⟩
   apply⟨few (by simp),λt ht=>?_⟩;have ut:=Ag (o:=.tup [.ref D,.ref p1,.ref p2,.ref m]) ht;refine q t D p1 p2 m rs _ ((s3.trans s5).trans ut) Ac ⟨ut _ _ (s5 _ _ hD3),hrl,λi r e=>ut _ _ (s5 _ _ (J3.hr i r e).2.2.2.2),ut _ _ (s5 _ _ J3.ht),ut _ _ (s5 _ _ hd3)⟩ (ut _ _ ?_);exact hm5
include T hK hB in
theorem Vu {f c:dk}(F:Sr K "_law_order" "_law_order" Eo f fd c Pt)(hts:(⟨Pt,Ll,"_law_order.<locals>.<lambda>"⟩:Tb)∈ts):Av P w K mg base CX0 2 f fd ["_law_deep_here"] (N7 ts):=by
 refine F.ok Uv (λvs H Q E h=>?_) (λA outer s H vs Q E hr h=>?_)
 ·obtain⟨l,ds,rfl,_⟩:=h
  rfl
 ·obtain⟨l,ds,rfl,hl,hn,ht,q⟩:=h
  refine⟨_,(Ae (Ap (X6 (qual:="_law_order.<locals>.<lambda>") (i:=0) (cl:=s.heap.objs.size+1) rfl hr.m rfl T.cw (iB rfl rfl T.bW rfl T.bN (tpa (Ak Ao (by rfl) T.bM Bx (tpa (pv 0) Ab)) Ab)) (F.code hK) hB rfl rfl (by kernel_rfl) (by kernel_rfl) (by kernel_rfl) (by kernel_rfl) (λ_ _ _ _ _=>rfl)))),?_⟩;apply⟨l,_,rfl,.inl (SqL.of hl),?_⟩;k_is;have e1:(nV ds).length=ds.length:=by unfold nV;rw[da]
  rw[e1];refine⟨ds.length,rfl,by lia,λp hp=>?_⟩;have s1:=Ag (o:=.lst ((d7 ds.length).map λi:Nat=>V.int i)) hp;have el:(iN ds).length=ds.length:=da ..;have ht1:=ht.same s1;refine⟨p,l,iN ds,rfl,rfl,by rw[<-Kq];exact s1 _ _ hl,by rw[el];lia,.inl (by rw[el,Ac];unfold Bq;rw[gx];rfl),ht1.1 _ hts,λp2 H' sx t2 hp2 hp3=>?_⟩;refine q p2 H' ((SmT.of ht s1).trans (qK ht1 hts sx t2)) (s1.free hp2) ?_;rw[hp3,el];rfl
theorem kL (n:Nat):(dv n [V.int 0]).flatten=(dv n (0:Int)).map V.int:=Up n
theorem U4 {l:List Int}{j:Nat}{n:Int}:(l.map V.int).set j (.int n)=(l.set j n).map V.int:=by rw[uy]
def Ea:List Int->Nat->List Int->List Int
 |[],_,l=>l
 |k::ks,i,l=>Ea ks (i+1) (l.set k.toNat (i:Int))
def Li (o:List Int):List Int:=Ea o 0 (dv o.length 0)
theorem Lx:∀(o:List Int) (i:Nat) (l:List Int),(Ea o i l).length=l.length
 |[],_,_=>rfl
 |k::ks,i,l=>by rw[Ea,Lx ks,my]
theorem iA (o:List Int):(Li o).length=o.length:=by unfold Li;rw[Lx,gy]
theorem Ou:∀(o:List Int) (k:Int) (i:Nat) (l:List Int),Ea (o++[k]) i l=(Ea o i l).set k.toNat ((i+o.length:Nat):Int)
 |[],k,i,l=>by show l.set k.toNat (i:Int)=l.set k.toNat ((i+0:Nat):Int);rfl
 |x::o,k,i,l=>by
  show Ea (o++[k]) (i+1) (l.set x.toNat (i:Int))=_;rw[Ou o k (i+1),fj,show i+1+o.length=i+(o.length+1) by lia];rfl
theorem Ub:∀(o:List Int) (i:Nat) (l:List Int) (j:Nat) (k:Int),o.Nodup->(∀x∈o,0<=x/\x.toNat<l.length)->o[j]?=some k->(Ea o i l)[k.toNat]?=some ((i+j:Nat):Int)
 |[],_,_,_,_,_,_,h=>by cases h
 |x::o,i,l,j,k,nd,hb,h=>by
  have keep:∀(o:List Int) (i:Nat) (l:List Int) (p:Nat),(∀y∈o,y.toNat≠p)->(Ea o i l)[p]?=l[p]?:=λo=>by
   induction o with
   |nil=>intro i l p _;rfl
   |cons y o ih=>
    intro i l p hy;rw[Ea,ih (i+1) _ p λz hz=>hy z (fb _ hz),vy (hy y (fi ..))]
  have hx:=hb x (fi ..)
  cases j with
  |zero=>
   obtain rfl:x=k:=dr h;show(Ea o (i+1) (l.set x.toNat (i:Int)))[x.toNat]?=_;rw[keep o (i+1) _ x.toNat λy hy z=>?_,u5 hx.2]
   ·rfl
   ·have hy':=hb y (fb _ hy)
    have:y=x:=by lia
    rw[this] at hy;exact(oi.mp nd).1 hy
  |succ j=>
   have:=Ub o (i+1) (l.set x.toNat (i:Int)) j k (oi.mp nd).2 (λy hy=>by rw[my];exact hb y (fb _ hy)) h;show(Ea o (i+1) (l.set x.toNat (i:Int)))[k.toNat]?=_;rw[this,show i+1+j=i+(j+1) by lia]
inductive qA(vs:List V)(H:Hp)(Q:VK)(E:XK):Prop|mk(a:dk)(ds:Za4)(_:vs=[.ref a])(_:H a=some (.lst ((Cb ds).map V.int)))(_:ds.length<4000)(_:∀p H',Am H H'->H p=none->H' p=some (.lst ((Li (Cb ds)).map V.int))->Q (.ref p) H')
include T in
theorem P4 (F:Fun K "_law_numbers" "_law_numbers" G8 f fd):Av P w K mg base CX0 1 f fd ["_law_order_here"] qA:=by
 exists F.ok E1
 obtain⟨a,ds,rfl,ha,hn,q⟩:=h;have hol:((Cb ds).map V.int).length=ds.length:=by rw[da,Cq]
 refine⟨_,(Aa (tst 1 E1.nd (Ah L6 (Bc (tpa Ad Ab)) (Ak Ao (by rfl) T.bM Bx (tpa (pv 0) Ab)))) (Aa (Cr gh rfl (Pm rfl T.cx (tpa (pv 0) Ab)) (Og rfl (Cg (tgn 2 E1.nd) (Cg (tgn 3 E1.nd) Ky))) (Ae (Ob (pv 2) (Re (pv 1) (pv 3) Ga)))) (Ae (Ap (pv 1))))),?_⟩
 apply⟨few (by simp),λp hp=>?_⟩;have u0:=Ag (o:=.lst [V.int 0]) hp;apply⟨a,_,rfl,.inl (SqL.of (u0 _ _ ha)),?_⟩;k_is;rw[hol];refine⟨p,ds.length,_,rfl,rfl,Ac,by lia,by lia,ig (An (by simp;lia)),λm hm=>?_⟩;have u1:=u0.trans (Ag (o:=.lst (dv ((ds.length:Nat):Int).toNat [V.int 0]).flatten) hm);have hm0:=u0.free hm;have hM:(upd (upd H p (.lst [V.int 0])) m (.lst (dv ((ds.length:Nat):Int).toNat [V.int 0]).flatten)) m=some (.lst ((Ea ((Cb ds).take 0) 0 (dv (Cb ds).length 0)).map V.int)):=by
  rw[Ac,ge,kL,Cq];rfl
 generalize (upd (upd H p (.lst [V.int 0])) m (.lst (dv ((ds.length:Nat):Int).toNat [V.int 0]).flatten))=H2 at *;apply⟨a,rfl,⟨_,SqL.of (u1 _ _ ha)⟩,?_⟩;refine Nf (xs:=(Cb ds).map V.int) (λk G H3=>(∃v3 v4:Option V,G=[some (.ref a),some (.ref m),v3,v4])/\H3 m=some (.lst ((Ea ((Cb ds).take k) 0 (dv (Cb ds).length 0)).map V.int))/\Am H H3) ⟨⟨_,_,rfl⟩,hM,u1⟩ (λk G H3 _ h=>SqL.of (h.2.2 _ _ ha)) ?_ ?_
 ·rintro k x G H3 tt hx ⟨⟨v3,v4,rfl⟩,hm3,s3⟩ ht
  obtain⟨n,hn2,rfl⟩:=Jy hx;have hnm:=Mt (d5 hn2);have st:=Ag (o:=.tup [.int k,.int n]) ht;have hm4:=st _ _ hm3;have s4:=s3.trans st;generalize upd H3 tt _=H4 at *;apply Lo (j:=n.toNat) hm4 (by lia) (by rw[da,Lx,gy,Cq];exact hnm.2) ?_;rw[U4];have e1:(Cb ds).take (k+1)=(Cb ds).take k++[n]:=by rw[il,hn2];rfl
  have hk:=Fc hn2;have e2:(Ea ((Cb ds).take (k+1)) 0 (dv (Cb ds).length 0))=(Ea ((Cb ds).take k) 0 (dv (Cb ds).length 0)).set n.toNat (k:Int):=by
   rw[e1,Ou,dy,iz (by lia),ip]
  apply⟨⟨_,_,rfl⟩,?_,Az s4 hm0⟩;rw[Ac,e2]
 ·rintro G H3 ⟨⟨v3,v4,rfl⟩,hm3,s3⟩
  rw[fc (by rw[da];exact dh _)] at hm3;k_is;exact q m H3 s3 hm0 hm3
inductive Aa3(vs:List V)(H:Hp)(Q:VK)(E:XK):Prop|mk(v:V)(_:vs=[v,v])(_:(v=.non\/∃i:Int,v=.int i))(_:Q (.bl true) H)
include T in
theorem jI (F:Fun K "_law_is" "_law_is" P8 f fd):Av P w K mg base CX0 1 f fd ["_law_found","_law_due"] Aa3:=by
 exists F.ok gX
 obtain⟨v,rfl,hv,q⟩:=h;refine⟨_,(Aa (Bp (cX (So (pv 1))) (Ae (Ap (pV (So (pv 0)))))
  As) (Ae (Ap (Q9 (Ak Dm (by rfl) T.bV C5 (tpa (pv 0) (tpa (Ii (v:=.ty "int") rfl T.cr eT rfl) Ab))) (Q9 (mM (Ak Dm (by rfl) T.bV C5 (tpa (pv 0) (tpa (Ii (v:=.ty "bool") rfl T.cD pW rfl) Ab)))) (Wq (tpc Fs (pv 0) (pv 1)))))))),?_⟩
 rcases hv with rfl|⟨i,rfl⟩
 ·k_is
  exact q
 ·apply⟨_,_,_,_,rfl,.int _,Ov,?_⟩;apply⟨_,_,_,_,rfl,.int _,No,?_⟩;k_is;rw[decide_eq_true (show V.int i=V.int i from rfl)];exact q
inductive oF(vs:List V)(H:Hp)(Q:VK)(E:XK):Prop|mk(n r:Nat)(_:vs=[.int n,.int r])(_:0<n)(_:n<=1000)(_:∀p (ks:Za4) H',Am H H'->H p=none->H' p=some (.lst (nV ks))->(∀k∈ks,k<n)->ks.length<=8->Q (.ref p) H')
include T in
theorem Xn (F:Fun K "_law_some" "_law_some" Ja f fd):Av P w K mg base CX0 1 f fd ["_law_many","_law_number"] oF:=by
 exists F.ok O1
 obtain⟨n,r,rfl,h0,hn,q⟩:=h;refine⟨_,(Aa (tst 2 O1.nd (Ak (Od rfl) (by rfl) T.cj Xs (tpa (pv 0) (tpa (tix Bn (Bc (tpa Ad (tpa Ad Ab))) (De iX (by rfl) T.cr eT (tpa (tpc Lk (pv 0) Ad) Ab))) Ab)))) (Ae (Ap (Nr rfl Sx (D0 rfl T.bN (tpa (pv 2) Ab)) (λ_ _ _ _=>Ez) (λ_ _ _ _=>(Ah Cu (Ah At (pv 2) (pv 0)) (pv 1))))))),?_⟩
 apply⟨few (by simp),λp1 hp1=>?_⟩;have u1:=Ag (o:=.lst [V.int 8,V.int 2]) hp1;apply .inr ⟨_,rfl,?_⟩;obtain⟨z,hz,hz8⟩:∃z:Nat,atI [V.int 8,V.int 2] (if decide ((60:Int)<(n:Int))=true then 1 else 0)=some (.int z)/\z<=8:=by
  by_cases h:(60:Int)<(n:Int)
  ·rw[decide_eq_true h];exact⟨2,rfl,by decide⟩
  ·rw[decide_eq_false h];exact⟨8,rfl,by decide⟩
 refine B7 (SqL.of Ac) hz ?_;apply⟨_,_,rfl,?_⟩;obtain⟨m,hm,hm8⟩:∃m:Nat,(if(z:Int)<(n:Int) then(z:Int) else(n:Int))=(m:Int)/\m<=8:=by
  by_cases h:(z:Int)<(n:Int)
  ·rw[if_pos h];exact⟨z,rfl,hz8⟩
  ·rw[if_neg h];exact⟨n,rfl,by lia⟩
 rw[hm];generalize upd H p1 _=H1 at *;apply⟨_,rfl,by lia,by lia,?_⟩;rw[ge];refine Jp (λi=>nV ((d7 i).map λk=>(r+k)%n)) rfl (λi hi=>?_) (λi H2 R A hi s2 _ hA=>?_) (λD H2 hD s2 h2=>?_)
 ·unfold nV
  rw[da,da,d6];exact An (by lia)
 ·apply Tx (by lia) ?_;apply hA _ _ ?_ (Am.refl _);rw[Gg];congr 2;rw[show(r:Int)+(0+(i:Int))=((r+i:Nat):Int) by lia,<-yr]
 ·refine q D _ H2 (u1.trans s2) (u1.free hD) h2 (λk hk=>?_) (by rw[da,d6];exact hm8)
  obtain⟨i,_,rfl⟩:=fz.mp hk;exact tj _ h0
def P9 (a b:Nat):Za4:=(d7 (b-a)).map (a + ·)
def stO (a b:Nat):Option (Nat×Nat):=if a<b then some (a,b) else none
theorem Mf {a b x:Nat}:x∈P9 a b↔a<=x/\x<b:=by
 unfold P9
 constructor
 ·intro h
  obtain⟨i,hi,rfl⟩:=fz.mp h;have:=gz.mp hi;exact⟨by lia,by lia⟩
 ·intro h
  exact fz.mpr ⟨x-a,gz.mpr (by lia),by lia⟩
theorem jS (a b:Nat):(P9 a b).length=b-a:=by unfold P9;rw[da,d6]
theorem lN {l:Za4}:(n:Int)∈iN l↔n∈l:=by
 constructor
 ·intro h
  obtain⟨m,hm,e⟩:=fz.mp h;have:m=n:=by lia
  rw[<-this];exact hm
 ·intro h
  exact fz.mpr ⟨n,h,rfl⟩
inductive fK(vs:List V)(H:Hp)(Q:VK)(E:XK):Prop|mk(l:dk)(a b:Nat)(_:vs=[.ref l])(_:H l=some (.lst (nV (P9 a b))))(_:∀v H',Am H H'->PrO H' v (stO a b)->Q v H')
include T in
theorem Rr (F:Fun K "_law_stretch" "_law_stretch" G4 f fd):Av P w K mg base CX0 1 f fd ["_law_numbers_here"] fK:=by
 exists F.ok Sd
 obtain⟨l,a,b,rfl,hl,q⟩:=h;rw[Kq] at hl;refine⟨_,(Aa (Bp (ttc (lR (xM hr)) (pv 0) (Bc Ab)) (Ae (Ap Jg))
  As) (Ae (Ap (N0 (tpa (Ak (T2 rfl) (by rfl) T.cj Xs (tpa (pv 0) Ab)) (tpa (Ah At (Ak (F9 rfl) (by rfl) T.bP Np (tpa (pv 0) Ab)) Ad) Ab)))))),?_⟩
 apply⟨f7 _,λp hp=>?_⟩;have u:=Ag (o:=.lst []) hp;have hl1:=u _ _ hl;refine uV (ms:=[]) (SqL.of hl1) (SqL.of Ac) ?_;generalize upd H p _=H1 at *
 by_cases hab:a<b
 ·have hne:iN (P9 a b)≠[]:=λz=>by
   have:=congrArg k6 z;rw[da,jS] at this;have:b-a=0:=this;lia
  rw[decide_eq_false hne];apply⟨l,_,rfl,SqL.of hl1,hne,λx hx=>?_⟩;obtain rfl:x=(a:Int):=hx.uniq ⟨lN.mpr (Mf.mpr (by lia)),λy hy=>by
   obtain⟨n,hn,rfl⟩:=fz.mp hy;have:=Mf.mp hn;lia⟩
  apply⟨l,_,rfl,SqL.of hl1,hne,λy hy=>?_⟩;obtain rfl:y=((b-1:Nat):Int):=hy.uniq ⟨lN.mpr (Mf.mpr (by lia)),λz hz=>by
   obtain⟨n,hn,rfl⟩:=fz.mp hz;have:=Mf.mp hn;lia⟩
  apply⟨few (by simp),λt ht=>q _ _ (u.trans (Ag ht)) ?_⟩;unfold stO;rw[if_pos hab];exact⟨t,rfl,by rw[Ac,show((b-1:Nat):Int)+1=(b:Int) by lia]⟩
 ·have hz:P9 a b=[]:=by unfold P9;rw[show b-a=0 by lia];rfl
  rw[hz,show decide (iN []=([]:List Int))=true from rfl];apply q _ _ u ?_;unfold stO;rw[if_neg hab];rfl
theorem PrO.same {v:V}{o:Option (Nat×Nat)}(h:PrO H v o)(s:Am H H'):PrO H' v o:=by
 cases o with
 |none=>exact h
 |some p=>
  obtain⟨t,e,ht⟩:=h;exact⟨t,e,s _ _ ht⟩
inductive pA(vs:List V)(H:Hp)(Q:VK)(E:XK):Prop|mk(v u:V)(o:Option (Nat×Nat))(_:vs=[v,u])(_:PrO H v o)(_:PrO H u o)(_:Q (.bl true) H)
variable (ao:Cal P w K mg base "_law_is" 1 ["_law_found","_law_due"] Aa3)
include T ao in
theorem Ze (F:Fun K "_law_pair" "_law_pair" L5 f fd):Av P w K mg base CX0 2 f fd ["_law_found","_law_due"] pA:=by
 exists F.ok Yt
 obtain⟨v,u,o,rfl,hv,hu,q⟩:=h;refine⟨_,(Aa (Bp (cX (So (pv 1))) (Ae (Ap (pV (So (pv 0)))))
  As) (Aa (Bp (PW.pt (Oy (C1 (B8 (Ak Dm (by rfl) T.bV C5 (tpa (pv 0) (tpa (Ii (v:=.ty "tuple") rfl T.cq Pj rfl) Ab))))) (L7 (ttc eZ (Ak Ao (by rfl) T.bM Bx (tpa (pv 0) Ab)) Ad)))) (Ae (Ap Gb))
  As) (Ae (Ap (Q9 (Ar ao hr.m (tpa (tix Do (pv 0) Ad) (tpa (tix Do (pv 1) Ad) Ab))) (Wq (Ar ao hr.m (tpa (tix Do (pv 0) Ad) (tpa (tix Do (pv 1) Ad) Ab))))))))),?_⟩
 cases o with
 |none=>
  obtain rfl:v=.non:=hv;obtain rfl:u=.non:=hu;k_is;exact q
 |some p=>
  obtain⟨t,rfl,ht⟩:=hv;obtain⟨t2,rfl,ht2⟩:=hu;apply⟨_,_,_,_,rfl,.tup ht,Pc,?_⟩;apply⟨t,_,rfl,.inr (SqT.of ht),?_⟩;apply vO (λh=>absurd rfl h) (λ_=>?_);apply Fa (SqT.of ht) (v:=.int p.1) rfl ?_;apply Fa (SqT.of ht2) (v:=.int p.1) rfl ?_;apply⟨_,rfl,.inr ⟨_,rfl⟩,?_⟩;apply Fa (SqT.of ht) (v:=.int p.2) rfl ?_;apply Fa (SqT.of ht2) (v:=.int p.2) rfl ?_;k_is;exact⟨_,rfl,.inr ⟨_,rfl⟩,q⟩
structure kN (ds:Za4) (H:Hp) (t po pn:dk):Prop where
 pl:∃pi pt pd pb,H t=some (.tup [.ref pi,.ref pt,.ref pd,.ref pb])/\H pd=some (.lst (nV ds))/\H pb=some (.lst (bL ds ds.length))
 ho:H po=some (.lst ((Cb ds).map V.int))
 hn:H pn=some (.lst ((Li (Cb ds)).map V.int))
theorem kN.sm {ds:Za4}{ts:List Tb}{t po pn:dk}(h:kN ds H t po pn)(s:SmT ts H H'):kN ds H' t po pn:=by
 obtain⟨⟨pi,pt,pd,pb,h1,h2,h3⟩,h4,h5⟩:=h;exact⟨⟨pi,pt,pd,pb,s.k h1,s.k h2,s.k h3⟩,s.k h4,s.k h5⟩
theorem qU {K:de}{G:St}{R:St->Hp->Prop}{a:dk}{x z u:V}{i j k m:Nat}(hs:SqT K H a [x,y,z,u])(h:R ((((G.set i (some x)).set j (some y)).set k (some z)).set m (some u)) H):kX K 4 (J8 (Dt i) (J8 (Dt j) (J8 (Dt k) (J8 (Dt m) oO)))) (.ref a) G H R:=
 ⟨a,[x,y,z,u],rfl,hs,rfl,x,[y,z,u],rfl,y,[z,u],rfl,z,[u],rfl,u,[],rfl,rfl,h⟩
theorem rJ {ds:Za4}{g k:Nat}(h:(Cb ds)[g]?=some (k:Int)):(Li (Cb ds))[k]?=some (g:Int):=by
 have:=Ub (Cb ds) 0 (dv (Cb ds).length 0) g k (Q7 ds) (λx hx=>by rw[gy,Cq];exact Mt hx) h;rw[ge,ip] at this;exact this
theorem Zm {ds:Za4}(h:Dok ds){g k:Nat}(e:(lvo ds ds.length ds.length)[g]?=some k):(Cb ds)[g]?=some (k:Int):=by
 rw[Wy h,du,e];rfl
theorem vU {ds:Za4}(h:Dok ds){g k:Nat}(e:(lvo ds ds.length ds.length)[g]?=some k)(d:Nat):∃a b,(und ds k d).map (λj=>((Li (Cb ds)).getD j 0))=iN (P9 a b)/\lvO ds g d=stO a b:=by
 have hg:g<ds.length:=by have:=Fc e;rw[Dj h] at this;exact this
 have hk:k<ds.length:=Rt (d5 e)
 by_cases hd:d<mx ds ds.length
 ·refine⟨Cy ds d g,Cy ds d (g+1),?_,?_⟩
  ·rw[<-eB h hg e d]
   have hb:Cy ds d (g+1)<=(lvo ds ds.length ds.length).length:=by rw[Dj h];exact Pk h d (by lia)
   refine j2 λi=>?_;unfold iN P9;rw[du,gx,du]
   by_cases hi:Cy ds d g+i<Cy ds d (g+1)
   ·rw[yD _ hi,gl (by lia),df (show Cy ds d g+i<(lvo ds ds.length ds.length).length by lia)]
    have:=rJ (Zm h (df (show Cy ds d g+i<(lvo ds ds.length ds.length).length by lia)));show some ((Li (Cb ds)).getD _ 0)=some (((Cy ds d g+i:Nat)):Int);unfold gr;rw[this];rfl
   ·rw[f8 (by rw[fY _ hb];lia),f8 (by rw[d6];lia)]
    rfl
  ·unfold lvO stO
   by_cases hl:Cy ds d g<Cy ds d (g+1)
   ·rw[if_pos ⟨hd,hl⟩,if_pos hl]
   ·rw[if_neg (λz=>hl z.2),if_neg hl]
 ·refine⟨0,0,?_,?_⟩
  ·rw[oV hk (by lia)]
   rfl
  ·unfold lvO
   rw[if_neg (λz=>hd z.1)];rfl
def pJ (ds:Za4)(k d i:Nat):Za4:=((d7 i).map λi=>k+i).filter λj=>decide (dAt ds j=dAt ds k+d)
theorem Ug (ds:Za4)(k d i:Nat):pJ ds k d (i+1)=pJ ds k d i++if dAt ds (k+i)=dAt ds k+d then[k+i] else[]:=by
 unfold pJ;rw[iw,ed,jj];congr 1;show[k+i].filter _=_
 by_cases e:dAt ds (k+i)=dAt ds k+d
 ·rw[if_pos e]
  simp[e]
 ·rw[if_neg e]
  simp[e]
inductive uD (K:de)(CB CC CL:dk)(ts:List Tb)(vs:List V)(H:Hp)(Q:VK)(E:XK):Prop|mk(x t po pn:dk)(ds:Za4)(g:Nat)(m:Int)(_:vs=[.ref x,.ref t,.ref po,.ref pn,.int g,.int m])(_:Ey K CB CC CL H x ds)(_:Tbs ts H)(_:kN ds H t po pn)(_:g<ds.length)(_:∀H',SmT ts H H'->Q (.bl true) H')
variable (ar:Cal P w K mg base "_law_pair" 2 ["_law_found","_law_due"] pA) (aF:Mth P w K mg base aa "level_of" 8 ["self","k","deep"] (Tv K ae ab aa ts)) (aG:Cal P w K mg base "_law_stretch" 1 ["_law_numbers_here"] fK)
include T ad ar aF aG in
theorem Lu (F:Fun K "_law_level_right" "_law_level_right" Dk f fd):Av P w K mg base CX0 9 f fd ["_law_wood_here","_law_plain_here","_law_order_here","_law_numbers_here","_law_own","_law_more"] (uD K ae ab aa ts):=by
 exists F.ok A8
 obtain⟨x,t,po,pn,ds,g,m,rfl,hL,hT,⟨⟨pi,pt,pd,pb,ht,hd,hb⟩,ho,hn⟩,hg,q⟩:=h;obtain⟨dx,b,c,s,gg,w,l,kvs,h⟩:=id hL;have hD:=h.ok;have hfew:=h.few;obtain⟨k,ek⟩:∃k,(lvo ds ds.length ds.length)[g]?=some k:=⟨_,df (by rw[Dj hD];exact hg)⟩;have hk:k<ds.length:=Rt (d5 ek);have hend:=Cm (ds:=ds) hk;obtain⟨m7,hm7,_⟩:=Hy m 6;have hm7:m%7=(m7:Int):=hm7;refine⟨_,(Aa (Ob (pv 1) (Og rfl (Cg (tgn 6 A8.nd) (Cg (tgn 7 A8.nd) (Cg (Er (i:=8) A8.nd rfl (sj rfl)) (Cg (tgn 9 A8.nd) Ky)))))) (Aa (Jc (i:=10) A8.nd rfl (sj rfl) (tix Bn (pv 2) (pv 4))) (Aa (Cr gh rfl (Cn (Bc (tpa Ad (tpa Ad (tpa Ad (tpa (Ah Cu (pv 5) Ad) (tpa (Ah dH Ad Ad) Ab))))))) (Er (i:=11) A8.nd rfl (sj rfl)) (Aa (Ke (i:=12) rfl Kn A8.nd rfl rfl (gZ rfl T.bN (tpa (pv 10) (tpa (Ah At (Ah At (pv 10) (tix Bn (pv 9) (pv 10))) Ad) Ab))) (λ_ _ _ _=>Nq (ttc Fs (tix (Hj K) (pv 1) (pv 0)) (Ah At (tix (Hj K) (pv 1) (pv 2)) (pv 4)))) (λ_ _ _ _=>(tix (Hj K) (pv 3) (pv 0)))) (Ae (Bp (C1 (B8 (Ar ar hr.m (tpa (E2 aF hr.m (pv 0) (tpa (pv 4) (tpa (pv 11) Ab))) (tpa (Ar aG hr.m (tpa (pv 12) Ab)) Ab))))) (Ae (Ap Gb))
  As)))) (Ae (Ap Gb))))),?_⟩
 apply qU (SqT.of ht) ?_;apply B7 (SqL.of ho) (v:=.int k) (A0 (Pz (Zm hD ek))) ?_;k_is;rw[hm7];refine⟨10,20,rfl,rfl,⟨by decide,by decide,by decide⟩,?_⟩;apply⟨few (by simp),λp hp=>?_⟩;obtain⟨L,hL5,hLn⟩:∃L:Za4,[V.int 0,V.int 1,V.int 2,V.int (m7:Int),V.int (10 ^ (20:Int).toNat)]=nV L/\L.length=5:=⟨[0,1,2,m7,10 ^ 20],rfl,rfl⟩;rw[hL5];obtain⟨u,hp1⟩:=Bu (o:=.lst (nV L)) hp;have hu:=SmT.of hT u;generalize upd H p _=H1 at *;apply⟨p,rfl,⟨_,SqL.of hp1⟩,?_⟩;refine Ev (xs:=nV L) (λi G H2=>(∃v11 v12:Option V,G=[some (.ref x),some (.ref t),some (.ref po),some (.ref pn),some (.int g),some (.int m),some (.ref pi),some (.ref pt),some (.ref pd),some (.ref pb),some (.int k),v11,v12])/\SmT ts H1 H2) ⟨⟨_,_,rfl⟩,SmT.refl hu.ok⟩ (λi G H2 _ h=>SqL.of (h.2.k hp1)) ?_ ?_
 ·rintro i y G H2 hy ⟨⟨v11,v12,rfl⟩,s2⟩
  obtain⟨d,hd2,rfl⟩:=G9 hy;have s02:=hu.trans s2;have hb2:=s02.k hb;have hdd:=s02.k hd;have hn2:=s02.k hn;apply B7 (SqL.of hb2) (v:=.int (bS ds ds.length (k:Int):Nat)) (A0 (Ox hk)) ?_;rw[vN hD hk];apply⟨(k:Int),((Bo ds k:Nat):Int),by rw[show(k:Int)+((Bo ds k-(k+1):Nat):Int)+1=((Bo ds k:Nat):Int) by lia],⟨by lia,by lia,by lia,by lia⟩,?_⟩;rw[show(((Bo ds k:Nat):Int)-(k:Int)).toNat=Bo ds k-k by lia];refine Jp (λi=>((pJ ds k d i).map λj=>(Li (Cb ds)).getD j 0).map V.int) rfl (λi hi=>?_) (λi H3 R A hi s3 kR kA=>?_) (λD H3 hD3 s3 h3=>?_)
  ·rw[da,da]
   unfold pJ;exact An (fq (ml _ _) (by rw[da,d6];lia))
  ·have hki:k+i<ds.length:=by lia
   have hdj:∀{j:Nat},j<ds.length->atI (nV ds) (j:Int)=some (.int (dAt ds j:Nat)):=λ{j} hj=>A0 (Ys (by unfold dAt gr;rw[df hj];rfl));rw[show(k:Int)+(i:Int)=((k+i:Nat):Int) by lia] at *;apply B7 (SqL.of (s3 _ _ hdd)) (hdj hki) ?_;apply B7 (SqL.of (s3 _ _ hdd)) (hdj hk) ?_;apply Cl (λhe=>?_) (λhe=>?_)
   ·have he:dAt ds (k+i)=dAt ds k+d:=by injection he;lia
    obtain⟨z,hz⟩:∃z,(Li (Cb ds))[k+i]?=some z:=⟨_,df (by rw[iA,Cq];exact hki)⟩;apply B7 (SqL.of (s3 _ _ hn2)) (v:=.int z) (A0 (Pz hz)) ?_;refine kA _ _ ?_ (Am.refl _);rw[Ug,if_pos he,ed,ed];unfold gr;rw[ft,hz];rfl
   ·refine kR ?_ _ (Am.refl _)
    rw[Ug,if_neg (λz=>he (by rw[z];rfl)),fw]
  have h3:H3 D=some (.lst (((und ds k d).map λj=>(Li (Cb ds)).getD j 0).map V.int)):=h3;obtain⟨a,b,e1,e2⟩:=vU hD ek d;rw[e1,<-Kq] at h3;have m3:=s02.then s3;apply⟨x,dx,_,rfl,m3.k h.hx,rfl,?_⟩;apply⟨x,ds,g,d,rfl,hL.sm m3,m3.ok,hg,λv H4 s4 hv=>?_⟩;apply⟨D,a,b,rfl,s4.k h3,λu H5 s5 hu5=>?_⟩;rw[e2] at hv;apply⟨v,u,_,rfl,hv.same s5,hu5,?_⟩;k_is;exact⟨⟨_,_,rfl⟩,(((s2.then s3).trans s4).then s5)⟩
 ·rintro G H2 ⟨⟨v11,v12,rfl⟩,s2⟩
  k_is;exact q H2 (hu.trans s2)
inductive eL(vs:List V)(H:Hp)(Q:VK)(E:XK):Prop|mk(n m:Nat)(_:vs=[.int n,.int m])(_:n<=3000)(_:2<=m)(_:m<=1000)(_:∀p (ds:Za4) H',Am H H'->H p=none->H' p=some (.lst ((A4 ds).map V.int))->Dok ds->ds.length=n->(∀j,0<j->j<ds.length->0<dAt ds j)->Q (.ref p) H')
include T in
theorem Wp (F:Fun K "_law_chain" "_law_chain" Ju f fd):Av P w K mg base CX0 1 f fd ["_law_many","_law_step"] eL:=by
 exists F.ok E8
 obtain⟨n,m,rfl,hn,hm1,hm2,q⟩:=h;refine⟨_,(Aa (tst 2 E8.nd (Bc Ab)) (Aa (tst 3 E8.nd (Fq Dx Ad)) (Aa (Cr gh rfl (D0 rfl T.bN (tpa (pv 0) Ab)) (tgn 4 E8.nd) (Aa (Bm (Ef f9 ij ii Bs (pv 2) (tpa (pv 3) Ab))) (Ae (Bp (ttc eZ (Ah Cu (pv 4) (pv 1)) (Ah Dl (pv 1) Ad)) (Ae (tst 3 E8.nd (pv 4)))
  As)))) (Ae (Ap (pv 2)))))),?_⟩
 apply⟨f7 _,λp hp=>?_⟩;have t0:=Ag (o:=.lst []) hp;apply⟨_,rfl,by lia,by lia,?_⟩;rw[ge];refine Hu (λk G H1=>(∃(ds:Za4) (L:Nat) (v:Option V),G=[some (.int n),some (.int m),some (.ref p),some (.int ((way ds k).getD L 0)),v]/\Dok ds/\ds.length=k/\L<=opn ds k/\(0<k->0<L)/\(∀j,0<j->j<ds.length->0<dAt ds j)/\H1 p=some (.lst ((A4 ds).map V.int)))/\Am H H1) ?_ ?_ ?_
 ·exact⟨⟨[],0,_,rfl,(λk hk=>by cases hk),rfl,dh _,(λz=>absurd z (ko _)),(λj _ hj=>by cases hj),Ac⟩,t0⟩
 ·rintro k G H1 hk ⟨⟨ds,L,v,rfl,hD,hl,hL,hL0,hdp,hp1⟩,s1⟩
  have hw:=Cd hD k (by lia);have hnx:=Hq ds L;rw[hl] at hnx;have hdok:Dok (ds++[L]):=Jz hD (by rw[hl];exact hL);have htk:((way ds k).take (L+1)).length=L+1:=by rw[dy];lia
  have hop:opn (ds++[L]) (k+1)=L+1:=by
   show dAt (ds++[L]) k+1=L+1;rw[<-hl,Ku]
  have hel:(A4 (ds++[L])).map V.int=(A4 ds).map V.int++[V.int ((way ds k).getD L 0)]:=by rw[Fi,hl,ed];rfl
  have hlen:(ds++[L]).length=k+1:=by rw[di,hl];rfl
  have hdp2:∀j,0<j->j<(ds++[L]).length->0<dAt (ds++[L]) j:=λj h1 h2=>by
   by_cases e:j<ds.length
   ·rw[Ht e];exact hdp j h1 e
   ·have e:j=ds.length:=by lia
    rw[e,Ku];exact hL0 (by lia)
  have s2:=Az (o:=.lst ((A4 (ds++[L])).map V.int)) s1 hp;apply⟨.inl ⟨rfl,_,SqL.of hp1⟩,?_⟩;apply Cv hp1 ?_ ?_
  ·rw[da,Bv]
   exact An (by lia)
  rw[<-hel];apply Tx (by lia) ?_;apply vO (λ_=>?_) (λhne=>?_)
  ·apply⟨⟨ds++[L],L+1,some (.int (0+(k:Int))),?_,hdok,hlen,by lia,λ_=>AU _,hdp2,Ac⟩,s2⟩;have e:(way (ds++[L]) (k+1)).getD (L+1) 0=0+(k:Int):=by
    rw[hnx];unfold gr;rw[d8 (by lia),htk,jd,FT];rfl
   rw[e];rfl
  ·have hk0:0<k:=by
    rcases lw k with z|z
    ·subst z
     injection hne with hne
     rw[show(0+((0:Nat):Int))%(m:Int)=0 from Int.zero_emod _] at hne;lia
    ·exact z
   apply⟨⟨ds++[L],L,some (.int (0+(k:Int))),?_,hdok,hlen,by lia,λ_=>hL0 hk0,hdp2,Ac⟩,s2⟩;have e:(way (ds++[L]) (k+1)).getD L 0=(way ds k).getD L 0:=by
    rw[hnx];unfold gr;rw[fv (by lia),gq (by lia)]
   rw[e];rfl
 ·rintro G H1 ⟨⟨ds,L,v,rfl,hD,hl,hL,_,hdp,hp1⟩,s1⟩
  k_is;exact q p ds H1 s1 hp hp1 hD hl hdp
theorem qX {ds:Za4}(h:Dok ds)(h0:0<ds.length)(hd:∀j,0<j->j<ds.length->0<dAt ds j):lo ds 1=1:=by
 rw[C6,My,ip];have:lev ds ds.length 0=[0]:=by
  refine Mw (n8 _ l7) (by simp) λx=>?_;rw[Cc,ee]
  constructor
  ·rintro⟨h1,h2⟩
   rcases lw x with z|z
   ·exact z
   ·have:=hd x z h1
    lia
  ·rintro rfl
   exact⟨h0,HC.mp (Sb h h0)⟩
 rw[this];rfl
theorem yZ {ds:Za4}{d i:Nat}:nV ((ds.take (i+1)).filter λz=>decide (z=d))=match ds[i]? with|some n=>if n=d then nV ((ds.take i).filter λz=>decide (z=d))++[V.int (n:Nat)] else nV ((ds.take i).filter λz=>decide (z=d))|none=>nV ((ds.take i).filter λz=>decide (z=d)):=by
 rw[il]
 cases ds[i]? with
 |none=>simp
 |some n=>
  rw[jj]
  by_cases e:n=d
  ·simp[nV,e]
  ·simp[nV,e]
theorem Sg (ds:Za4)(d:Nat):(ds.filter λz=>decide (z=d)).length=(lev ds ds.length d).length:=by
 rw[<-fL,BF,yw];rfl
inductive kH (ts:List Tb)(vs:List V)(H:Hp)(Q:VK)(E:XK):Prop|mk(c:Int)(_:vs=[.int c])(_:Tbs ts H)(_:∀H',Q (.bl true) H')
theorem Ey.lst {K:de}{x l:dk}{us:List V}{o:HO}{ds:Za4}(h:Ey K CB CC CL H x ds)(hl:H l=some (.lst us)):Ey K CB CC CL (upd H l o) x ds:=by
 obtain⟨dx,b,c,s,g,w,d,kvs,h⟩:=h;have k:∀{y:dk} {u:HO},(∀xs,u≠.lst xs)->H y=some u->upd H l o y=some u:=λn e=>by
  rw[Ai (λz=>by rw[z,hl] at e;exact n _ (dr e).symm)];exact e
 obtain⟨db,tb,b1,b2,b3⟩:=h.hb;have kc:∀{c:dk} {l:Za5},Be K CC H c l->Be K CC (upd H _ o) c l:=λ{c l} ⟨dc,tc,uc,c1,c2,c3,c4⟩=>⟨dc,tc,uc,k (by intro xs e;cases e) c1,k (by intro xs e;cases e) c2,k (by intro xs e;cases e) c3,c4⟩;exact⟨dx,b,c,s,g,w,d,kvs,k (by intro xs e;cases e) h.hx,⟨db,tb,k (by intro xs e;cases e) b1,k (by intro xs e;cases e) b2,b3⟩,kc h.hc,kc h.hg,h.hw,k (by intro xs e;cases e) h.hd,h.hl.keep λb xs e=>k (by intro xs e;cases e) e,h.ok,h.few⟩
variable (aH:Cal P w K mg base "_law_plain" 1 ["_law_elders"] fX) (ax:Mkr P w K mg base "Levelled" aa 9 ["self","elders"] (gC K ae ab aa ts)) (aI:Mth P w K mg base aa "levels" 1 ["self"] (Q1 K ae ab aa))
include T ad ao ar aF aH ax aI in
theorem Yq (F:Fun K "_law_deep" "_law_deep" Jd f fd)(bC:Cal P w K mg base "_law_chain" 1 ["_law_many","_law_step"] eL):Av P w K mg base CX0 11 f fd ["_law_cell"] (kH ts):=by
 exists F.ok Dw
 obtain⟨c,rfl,hT,q⟩:=h;obtain⟨n1,hn1,hb1⟩:=Hy (c/16) 59;obtain⟨m1,hm1,hc1⟩:=Hy (c/960) 19;have hn1:c/16%60=(n1:Int):=hn1;have hm1:c/960%20=(m1:Int):=hm1;refine⟨_,(Aa (tst 1 Dw.nd (Ar bC hr.m (tpa (Ah At Ad (Ah Cu (Ah Dy (pv 0) Ad) Ad)) (tpa (Ah At Ad (Ah Cu (Ah Dy (pv 0) Ad) Ad)) Ab)))) (Aa (tst 2 Dw.nd (tix Do (Ar aH hr.m (tpa (pv 1) Ab)) Ad)) (Aa (tst 3 Dw.nd (De Et (by rfl) T.bW Lq (tpa (pv 1) Ab))) (Aa (tst 4 Dw.nd (Rf ax hr.m (tpa (pv 3) Ab))) (Aa (Bm (cM f9 zh zg X5 (pv 3))) (Aa (Jc (i:=5) Dw.nd rfl (sj rfl) (Ah At (Ak (F9 rfl) (by rfl) T.bP Np (tpa (pv 2) Ab)) Ad)) (Aa (tst 6 Dw.nd (Ak Ao (by rfl) T.bM Bx (tpa (Nr rfl Td (Cn (pv 2)) (λ_ _ _ _=>Nq (ttc Fs (pv 0) (Ah Dl (pv 1) Ad))) (λ_ _ _ _=>(pv 0))) Ab))) (Aa (Bp (C1 (B8 (Ar ao hr.m (tpa (R5 aI hr.m (pv 4)) (tpa (pv 5) Ab))))) (Ae (Ap Gb))
  As) (Ae (Ap (Ar ar hr.m (tpa (E2 aF hr.m (pv 4) (tpa Ad (tpa (Ah Dl (pv 5) Ad) Ab))) (tpa (N0 (tpa (Ah Dl (Ak Ao (by rfl) T.bM Bx (tpa (pv 1) Ab)) (pv 6)) (tpa (Ak Ao (by rfl) T.bM Bx (tpa (pv 1) Ab)) Ab))) Ab))))))))))))),?_⟩
 k_is;rw[hn1,hm1];refine⟨1020+n1,3+m1,?_,by lia,by lia,by lia,λp ds H1 s1 hp0 hp hD hl hdp=>?_⟩
 ·rw[qh,qh]
  rfl
 have h0:0<ds.length:=by lia
 have hel:(A4 ds).length=ds.length:=Bv ds;apply⟨p,ds,rfl,hp,hD,by lia,λt pi pt pd pb rs H2 s2 ht hPl hpb=>?_⟩;have hpd:=hPl.hd;apply Fa (SqT.of ht) (v:=.ref pd) rfl ?_;apply⟨p,_,rfl,.inl (SqL.of (s2 _ _ hp)),λp2 hp2=>?_⟩;obtain⟨t3,hp3⟩:=Bu (o:=.lst ((A4 ds).map V.int)) hp2;have s3:=(s1.trans s2).trans t3;have hpp:=t3 _ _ (s2 _ _ hp);have hpd:=t3 _ _ hpd;have npp:p≠p2:=Aj (s2 _ _ hp) hp2;have ndp:pd≠p2:=Aj hPl.hd hp2;generalize upd H2 p2 _=H3 at *;have hT3:=hT.same s3;k_is;intro x dx hx hdx hxd;refine⟨x,dx,p2,ds,rfl,Ac,E3 hx hdx _ _ hp3,hD,by lia,hT3.same (E3 hx hdx),λH4 s4 hC=>⟨rfl,?_⟩⟩;have s4:=SmB.made hx hdx s4;have hpp4:=s4.k hpp;have hp24:=s4.k hp3;have hpd4:=s4.k hpd;apply⟨.inl ⟨rfl,_,SqL.of hp24⟩,?_⟩;refine⟨p2,_,rfl,rfl,hp24,?_⟩;have hC5:=hC.lst (o:=.lst []) hp24;have hT5:Tbs ts (upd H4 p2 (.lst [])):=s4.ok.keepN hp24;have hpp5:upd H4 p2 (.lst []) p=some (.lst ((A4 ds).map V.int)):=by rw[Ai npp];exact hpp4
 have hpd5:upd H4 p2 (.lst []) pd=some (.lst (nV ds)):=by rw[Ai ndp];exact hpd4
 generalize upd H4 p2 _=H5 at *;apply⟨pd,iN ds,rfl,by rw[<-Kq];exact SqL.of hpd5,λz=>?_,λmm hmm=>?_⟩
 ·have:=congrArg k6 z
  rw[da] at this;have:ds.length=0:=this;lia
 have emx:=dL hD (m:=mm) (λz=>by rw[z] at hmm;cases hmm.1) (λ_=>hmm);k_is;rw[emx];refine⟨pd,rfl,⟨_,SqL.of hpd5⟩,?_⟩;have hmx0:0<mx ds ds.length:=mj (f7 _) (Tz ds ds.length 0 h0);have e1:((mx ds ds.length:Nat):Int)-1=((mx ds ds.length-1:Nat):Int):=by lia
 obtain⟨d,hd⟩:∃d,mx ds ds.length=d+1:=⟨_,(ur hmx0).symm⟩;have e1:((mx ds ds.length:Nat):Int)-1=(d:Int):=by lia
 refine K6 (SqL.of hpd5) (λi=>nV ((ds.take i).filter λz=>decide (z=d))) rfl (λi hi=>?_) (λi y H6 R A hy s6 kR kA=>?_) (λD6 H6 hD6 s6 h6=>?_)
 ·rw[Bz] at hi ⊢
  exact An (fq (ml _ _) (by rw[dy];lia))
 ·obtain⟨n,hn2,rfl⟩:=G9 hy
  k_is;rw[e1];have cv:=yZ (ds:=ds) (d:=d) (i:=i);rw[hn2] at cv;refine Cl (λhe=>?_) (λhe=>?_)
  ·have he:n=d:=by injection he;lia
   apply kA _ _ ?_ (Am.refl _);rw[cv,he];simp
  ·refine kR ?_ _ (Am.refl _)
   rw[cv];simp only;rw[if_neg (λz=>he (by rw[z]))]
 rw[Bz,lu] at h6;have hC6:=hC5.same hT5 s6;have hT6:=hT5.same s6;have hpp6:=s6 _ _ hpp5;apply⟨D6,_,rfl,.inl (SqL.of h6),?_⟩;rw[Bz,Sg];obtain⟨dz,_,_,_,_,_,_,_,hz⟩:=id hC6;apply⟨x,dz,_,rfl,hz.hx,rfl,?_⟩;apply⟨x,ds,rfl,hC6,?_⟩;apply⟨_,rfl,.inr ⟨_,rfl⟩,?_⟩;apply⟨x,dz,_,rfl,hz.hx,rfl,?_⟩;k_is;rw[e1];refine⟨x,ds,0,d,rfl,hC6,hT6,h0,λv H7 s7 hv=>?_⟩;have hpp7:=s7.k hpp6;apply⟨p,_,rfl,.inl (SqL.of hpp7),?_⟩;rw[da,hel];apply⟨p,_,rfl,.inl (SqL.of hpp7),?_⟩;rw[da,hel];have htop:=Os hD;rw[hd,C6] at htop;have elv:lvO ds 0 d=some (lo ds d,ds.length):=by
  have a1:=Vs hD d 0 (by lia);have a2:=Vs hD d 1 (by lia);rw[My,ip] at a1;rw[qX hD h0 hdp,vh 1 d,C6,htop] at a2;have hp:=Pu hD (d:=d) (by lia);unfold lvO;rw[ip,a1,a2,if_pos ⟨by lia,by lia⟩]
 rw[elv] at hv;apply⟨few (by simp),λu hu=>?_⟩;have t8:=Ag (o:=.tup [V.int ((ds.length:Int)-((lev ds ds.length d).length:Nat)),V.int (ds.length:Int)]) hu;apply⟨v,.ref u,_,rfl,hv.same t8,⟨u,rfl,?_⟩,q _⟩;rw[Ac,show(ds.length:Int)-((lev ds ds.length d).length:Nat)=((lo ds d:Nat):Int) by lia]
theorem IsW.uniq {ds:Za4}{v u:V}(h:IsW ds v)(k:IsW ds u):v=u:=by
 rcases h with⟨h0,rfl⟩|⟨j,x,hp,rfl,h1,h2,h3⟩<;>rcases k with⟨k0,rfl⟩|⟨i,y,kp,rfl,k1,k2,k3⟩
 ·rfl
 ·lia
 ·lia
 ·have e:x=y:=Nat.le_antisymm (k2 x (d5 h1)) (h2 y (d5 k1))
  subst e;rcases DG i j with z|z|z
  ·exact absurd k1 (h3 i z)
  ·rw[z]
  ·exact absurd h1 (k3 j z)
theorem IsW.kind {ds:Za4}{v:V}(h:IsW ds v):v=.non\/∃i:Int,v=.int i:=by
 rcases h with⟨_,rfl⟩|⟨j,x,_,rfl,_⟩
 ·exact .inl rfl
 ·exact .inr ⟨_,rfl⟩
theorem qS {ds:Za4}(h:Dok ds){m:Int}(hm:Ih (iN ds++[-1]) m):m+1=(mx ds ds.length:Nat):=by
 refine dL h (λz=>?_) (λz=>?_)
 ·rw[z] at hm
  exact ee.mp hm.1
 ·rcases gj.mp hm.1 with k|k
  ·exact⟨k,λy hy=>hm.2 y (jw _ hy)⟩
  ·obtain rfl:=ee.mp k
   obtain⟨y,hy⟩:=List.exists_mem_of_ne_nil _ z;obtain⟨n,_,rfl⟩:=fz.mp hy;have:=hm.2 _ (jw _ hy);lia
theorem wP {ds:Za4}(h:Dok ds)(d:Nat):∃a b,(d7 ds.length).filter (λi=>decide ((esD ds).getD i 0=d))=P9 a b/\lvP ds d=stO a b:=by
 rw[lK h d]
 by_cases hd:d<mx ds ds.length
 ·refine⟨lo ds d,lo ds (d+1),by rw[if_pos hd];rfl,?_⟩
  have:=Pu h hd;have e:=C6 ds d;unfold lvP stO;rw[if_pos hd,if_pos (by lia)]
 ·refine⟨0,0,by rw[if_neg hd];rfl,?_⟩
  unfold lvP;rw[if_neg hd];rfl
theorem Xz (es:Za4)(d i:Nat):(d7 (i+1)).filter (λi=>decide (es.getD i 0=d))=(d7 i).filter (λi=>decide (es.getD i 0=d))++if es.getD i 0=d then[i] else[]:=by
 rw[iw,jj];congr 1
 by_cases e:es.getD i 0=d
 ·rw[if_pos e,DM,if_pos (decide_eq_true e)]
  rfl
 ·rw[if_neg e,DM,if_neg (by rw[decide_eq_true_eq];exact e)]
  rfl
inductive nZ (K:de)(CB CC CL:dk)(ts:List Tb)(vs:List V)(H:Hp)(Q:VK)(E:XK):Prop|mk(x a:dk)(ds:Za4)(r:Nat)(_:vs=[.ref x,.ref a,.int r])(_:Ey K CB CC CL H x ds)(_:H a=some (.lst ((A4 ds).map V.int)))(_:ds.length<=1000)(_:Tbs ts H)(_:∀H',SmT ts H H'->Q (.bl true) H')
include T ad ao ar aG aH aI in
theorem N6 (F:Fun K "_law_all_right" "_law_all_right" C7 f fd)(bD:Cal P w K mg base "_law_order" 2 ["_law_deep_here"] (N7 ts))(bE:Cal P w K mg base "_law_numbers" 1 ["_law_order_here"] qA)(bF:Mth P w K mg base aa "widest" 1 ["self"] (oH K ae ab aa))(bG:Mth P w K mg base aa "level" 6 ["self","deep"] (Wr K ae ab aa ts))(bH:Cal P w K mg base "_law_some" 1 ["_law_many","_law_number"] oF)(bI:Cal P w K mg base "_law_level_right" 9 ["_law_wood_here","_law_plain_here","_law_order_here","_law_numbers_here","_law_own","_law_more"] (uD K ae ab aa ts)):Av P w K mg base CX0 10 f fd ["_law_wood_here","_law_elders","_law_number"] (nZ K ae ab aa ts):=by
 exists F.ok Aw
 obtain⟨x,a,ds,r,rfl,hL,ha,hn,hT,q⟩:=h;obtain⟨dx,bb,cc,sv,gg,wv,ll,kvs,h⟩:=id hL;have hD:=h.ok;have hel:(A4 ds).length=ds.length:=Bv ds;refine⟨_,(Aa (Jc (i:=3) Aw.nd rfl (sj rfl) (Ar aH hr.m (tpa (pv 1) Ab))) (Aa (Jc (i:=4) Aw.nd rfl (sj rfl) (Ar bD hr.m (tpa (tix Do (pv 3) Ad) Ab))) (Aa (tst 5 Aw.nd (Ar bE hr.m (tpa (pv 4) Ab))) (Aa (tst 6 Aw.nd (Ah At (Ak (F9 rfl) (by rfl) T.bP Np (tpa (Ah Ik (tix Do (pv 3) Ad) (Bc (tpa (Fq Dx Ad) Ab))) Ab)) Ad)) (Aa (iC (i:=8) rfl Mc Aw.nd rfl rfl (D0 rfl T.bN (tpa (pv 6) Ab)) (λ_ _ _ _=>Ez) (λ_ _ _ _=>(Ak (Z0 K) (by rfl) T.bM Bx (tpa (nN rfl Md (pQ K (tix (fF K) (pv 1) Ad)) (λ_ _ _ _=>Nq (ttc Fs (pv 0) (pv 1))) (λ_ _ _ _=>(pv 0))) Ab)))) (Aa (tst 9 Aw.nd Jg) (Aa (Wa (ttc (vI (xM hr)) (pv 8) (Bc Ab)) (Ae (tst 9 Aw.nd (Ef f9 ub ua Rh (pv 8) (tpa (Ak (F9 rfl) (by rfl) T.bP Np (tpa (pv 8) Ab)) Ab))))
  As) (Aa (Bp (PW.pt (Oy (C1 (B8 (Ar ao hr.m (tpa (R5 aI hr.m (pv 0)) (tpa (pv 6) Ab))))) (L7 (C1 (B8 (Ar ao hr.m (tpa (R5 bF hr.m (pv 0)) (tpa (pv 9) Ab)))))))) (Ae (Ap Gb))
  As) (Aa (Cr gh rfl (Cn (Bc (tpa Ad (tpa (Ak (Tq rfl) (by rfl) T.bP Np (tpa Ad (tpa (Ah Dl (pv 6) Ad) Ab))) (tpa (pv 6) (tpa (Ah Cu (pv 2) (Ah At (pv 6) Ad)) (tpa (Ah At (pv 6) (Ah dH Ad Ad)) Ab))))))) (Er (i:=7) Aw.nd rfl (sj rfl)) (Aa (Ke (i:=11) rfl L8 Aw.nd rfl rfl (D0 rfl T.bN (tpa (Ak Ao (by rfl) T.bM Bx (tpa (pv 4) Ab)) Ab)) (λ_ _ _ _=>Nq (ttc Fs (tix (Hj K) (tix (fF K) (pv 3) Ad) (tix (Hj K) (pv 2) (pv 0))) (pv 1))) (λ_ _ _ _=>(pv 0))) (Ae (Bp (C1 (B8 (Ar ar hr.m (tpa (E2 bG hr.m (pv 0) (tpa (pv 7) Ab)) (tpa (Ar aG hr.m (tpa (pv 11) Ab)) Ab))))) (Ae (Ap Gb))
  As)))) (Aa (Bp (ttc (lR (xM hr)) (pv 1) (Bc Ab)) (Ae (Ap Gb))
  As) (Aa (Cr gh rfl (Cn (Ar bH hr.m (tpa (Ak Ao (by rfl) T.bM Bx (tpa (pv 1) Ab)) (tpa (pv 2) Ab)))) (tgn 10 Aw.nd) (Ae (Bp (C1 (B8 (Ar bI hr.m (tpa (pv 0) (tpa (pv 3) (tpa (pv 4) (tpa (pv 5) (tpa (pv 10) (tpa (Ah Dy (pv 2) Ad) Ab))))))))) (Ae (Ap Gb))
  As))) (Ae (Ap Gb))))))))))))),?_⟩
 apply⟨a,ds,rfl,ha,hD,by lia,λt pi pt pd pb rs H1 s1 ht hPl hpb=>?_⟩;have hpd:=hPl.hd;have m1:=SmT.of hT s1;apply Fa (SqT.of ht) (v:=.ref pd) rfl ?_;apply⟨pd,ds,rfl,hpd,by lia,m1.ok,λpo H2 s2 hpo0 hpo=>?_⟩;have m2:=m1.trans s2;apply⟨po,ds,rfl,hpo,by lia,λpn H3 s3 hpn0 hpn=>?_⟩;have m3:=m2.then s3;have hP3:kN ds H3 t po pn:=⟨⟨pi,pt,pd,pb,s3 _ _ (s2.k ht),s3 _ _ (s2.k hpd),s3 _ _ (s2.k hpb)⟩,s3 _ _ hpo,hpn⟩;have ht3:=s3 _ _ (s2.k ht);have hpd3:=s3 _ _ (s2.k hpd);clear hpb hpo hpn hPl rs;apply Fa (SqT.of ht3) (v:=.ref pd) rfl ?_;apply⟨few (by simp),λp1 hp1=>?_⟩;obtain⟨u1,hq1⟩:=Bu (o:=.lst [V.int (-1)]) hp1;have hpd4:=u1 _ _ hpd3;generalize upd H3 p1 _=H4 at *;apply⟨pd,p1,_,_,rfl,rfl,hpd4,hq1,ig (An (by rw[Bz,rc];lia)),λp2 hp2=>?_⟩;have u2:=Ag (o:=.lst (nV ds++[V.int (-1)])) hp2;have hq2:upd H4 p2 (.lst (nV ds++[V.int (-1)])) p2=some (.lst ((iN ds++[-1]).map V.int)):=by rw[Ac,Kq,ed];rfl
 have s35:=u1.trans u2;generalize upd H4 p2 _=H5 at *;apply⟨p2,_,rfl,SqL.of hq2,(by simp),λmm hmm=>?_⟩;have emx:=qS hD hmm;have m5:=m3.then s35;have hP5:=hP3.sm (SmT.of m3.ok s35);have ht5:=s35 _ _ ht3;have hpd5:=s35 _ _ hpd3;have hM:=Zd hD ds.length (dh _);k_is;rw[emx];refine⟨((mx ds ds.length:Nat):Int),rfl,by lia,by lia,?_⟩;rw[ge];refine Jp (λi=>nV ((d7 i).map λd=>(lev ds ds.length d).length)) rfl (λi hi=>?_) (λi H6 R A hi s6 _ kA=>?_) (λD6 H6 hD6 s6 h6=>?_)
 ·rw[Bz,da,d6]
  exact An (by lia)
 ·rw[show(0+(i:Int))=(i:Int) by lia]
  apply Fa (SqT.of (s6 _ _ ht5)) (v:=.ref pd) rfl ?_;apply⟨pd,rfl,⟨_,SqL.of (s6 _ _ hpd5)⟩,?_⟩;refine K6 (SqL.of (s6 _ _ hpd5)) (λj=>nV ((ds.take j).filter λz=>decide (z=i))) rfl (λj hj=>?_) (λj y H7 R2 A2 hy s7 kR2 kA2=>?_) (λD7 H7 hD7 s7 h7=>?_)
  ·rw[Bz] at hj ⊢
   exact An (fq (ml _ _) (by rw[dy];lia))
  ·obtain⟨n,hn2,rfl⟩:=G9 hy
   have cv:=yZ (ds:=ds) (d:=i) (i:=j);rw[hn2] at cv;apply Cl (λhe=>?_) (λhe=>?_)
   ·have he:n=i:=by injection he;lia
    apply kA2 _ _ ?_ (Am.refl _);rw[cv,he];simp
   ·refine kR2 ?_ _ (Am.refl _)
    rw[cv];simp only;rw[if_neg (λz=>he (by rw[z]))]
  rw[Bz,lu] at h7;refine⟨D7,_,rfl,.inl (SqL.of h7),?_⟩;rw[Bz,Sg];refine kA _ _ ?_ s7;rw[Gg]
 have h6:H6 D6=some (.lst (nV (Nl ds))):=h6;have m6:=m5.then s6;have hP6:=hP5.sm (SmT.of m5.ok s6);k_is;have hc6:=h6;rw[Kq] at hc6;refine dR (λG H7=>(∃wd:V,IsW ds wd/\G=[some (.ref x),some (.ref a),some (.int r),some (.ref t),some (.ref po),some (.ref pn),some (.int (mx ds ds.length:Nat)),none,some (.ref D6),some wd,none,none])/\Am H6 H7) ?_ ?_
 ·apply⟨f7 _,λp hp=>?_⟩;have u:=Ag (o:=.lst []) hp;have hc7:=u _ _ hc6;refine zF (ms:=[]) (SqL.of hc7) (SqL.of Ac) ?_;generalize upd H6 p _=H7 at *
  by_cases h0:ds.length=0
  ·have e:Nl ds=[]:=by
    unfold Nl;rw[rn h0];rfl
   rw[e,show decide (iN []=([]:List Int))=true from rfl];k_is;exact⟨⟨_,.inl ⟨h0,rfl⟩,rfl⟩,u⟩
  ·have hmx0:0<mx ds ds.length:=mj (f7 _) (Tz ds ds.length 0 (by lia))
   have hne:iN (Nl ds)≠[]:=λz=>by
    have:=congrArg k6 z;unfold Nl at this;rw[da,da,d6] at this;have:mx ds ds.length=0:=this;lia
   rw[decide_eq_false hne];apply⟨.inl ⟨rfl,_,SqL.of hc7⟩,?_⟩;apply⟨D6,_,rfl,SqL.of hc7,hne,λxm hxm=>?_⟩;k_is;obtain⟨j,hj,hno⟩:=Mz hxm.1;refine⟨D6,_,xm,j,rfl,rfl,hc7,hj,hno,⟨⟨_,?_,rfl⟩,u⟩⟩;obtain⟨c0,hc1,rfl⟩:∃c0:Nat,(Nl ds)[j]?=some c0/\xm=(c0:Int):=by
    rw[du] at hj
    cases e:(Nl ds)[j]? with
    |none=>rw[e] at hj;cases hj
    |some c0=>rw[e] at hj;exact⟨c0,rfl,(dr hj).symm⟩
   refine .inr ⟨j,c0,by lia,rfl,hc1,λy hy=>?_,λi hi e=>hno i hi ?_⟩
   ·have:=hxm.2 (y:Int) (fz.mpr ⟨y,hy,rfl⟩)
    lia
   ·rw[du,e]
    rfl
 rintro G H7 ⟨⟨wd,hwd,rfl⟩,s7⟩;have m7:=m6.then s7;have hP7:=hP6.sm (SmT.of m6.ok s7);have hx7:=m7.k h.hx;apply⟨x,dx,_,rfl,hx7,rfl,?_⟩;apply⟨x,ds,rfl,hL.sm m7,?_⟩;apply⟨_,rfl,.inr ⟨_,rfl⟩,?_⟩;apply⟨x,dx,_,rfl,hx7,rfl,?_⟩;apply⟨x,ds,rfl,hL.sm m7,λv hv=>?_⟩;obtain rfl:=hv.uniq hwd;apply⟨v,rfl,hv.kind,?_⟩;apply⟨_,_,rfl,?_⟩;obtain⟨M1,hM1⟩:∃M1:Nat,(if(0:Int)<((mx ds ds.length:Nat):Int)-1 then((mx ds ds.length:Nat):Int)-1 else 0)=(M1:Int):=by
  by_cases z:(0:Int)<((mx ds ds.length:Nat):Int)-1
  ·rw[if_pos z];exact⟨mx ds ds.length-1,by lia⟩
  ·rw[if_neg z];exact⟨0,rfl⟩
 rw[hM1];apply Tx (by lia) ?_;obtain⟨M2,hM2⟩:∃M2:Nat,(r:Int)%(((mx ds ds.length:Nat):Int)+1)=(M2:Int):=⟨r%(mx ds ds.length+1),by rw[show((mx ds ds.length:Nat):Int)+1=((mx ds ds.length+1:Nat):Int) by lia,<-yr]⟩;rw[hM2];apply⟨10,20,rfl,rfl,⟨by decide,by decide,by decide⟩,?_⟩;apply⟨few (by simp),λp hp=>?_⟩;obtain⟨L,hL5,hLn⟩:∃L:Za4,[V.int 0,V.int (M1:Int),V.int ((mx ds ds.length:Nat):Int),V.int (M2:Int),V.int (((mx ds ds.length:Nat):Int)+10 ^ (20:Int).toNat)]=nV L/\L.length=5:=⟨[0,M1,mx ds ds.length,M2,mx ds ds.length+10 ^ 20],rfl,rfl⟩;rw[hL5];obtain⟨u,hp1⟩:=Bu (o:=.lst (nV L)) hp;have m8:=m7.then u;have hP8:=hP7.sm (SmT.of m7.ok u);generalize upd H7 p _=H8 at *;apply⟨p,rfl,⟨_,SqL.of hp1⟩,?_⟩;refine Ev (xs:=nV L) (λi G H9=>(∃v7 v11:Option V,G=[some (.ref x),some (.ref a),some (.int r),some (.ref t),some (.ref po),some (.ref pn),some (.int (mx ds ds.length:Nat)),v7,some (.ref D6),some v,none,v11])/\SmT ts H8 H9) ⟨⟨_,_,rfl⟩,SmT.refl m8.ok⟩ (λi G H9 _ h=>SqL.of (h.2.k hp1)) ?_ ?_
 ·rintro i y G H9 hy ⟨⟨v7,v11,rfl⟩,s9⟩
  obtain⟨d,hd2,rfl⟩:=G9 hy;have m9:=m8.trans s9;have hP9:=hP8.sm s9;obtain⟨⟨pi9,pt9,pd9,pb9,ht9,hd9,hb9⟩,ho9,hn9⟩:=hP9;apply⟨po,_,rfl,.inl (SqL.of ho9),?_⟩;rw[da,Cq];refine⟨_,rfl,by lia,by lia,?_⟩;rw[ge];refine Jp (λi=>nV ((d7 i).filter λi=>decide ((esD ds).getD i 0=d))) rfl (λi hi=>?_) (λi H10 R A hi s10 kR kA=>?_) (λD H10 hD10 s10 h10=>?_)
  ·rw[Bz]
   exact An (fq (ml _ _) (by rw[d6];lia))
  ·rw[show(0+(i:Int))=(i:Int) by lia]
   obtain⟨k,ek⟩:∃k,(lvo ds ds.length ds.length)[i]?=some k:=⟨_,df (by rw[Dj hD];exact hi)⟩;have hk:k<ds.length:=Rt (d5 ek);have ees:(esD ds).getD i 0=dAt ds k:=by unfold esD gr;rw[du,ek];rfl
   apply Fa (SqT.of (s10 _ _ ht9)) (v:=.ref pd9) rfl ?_;apply B7 (SqL.of (s10 _ _ ho9)) (v:=.int k) (A0 (Pz (Zm hD ek))) ?_;apply B7 (SqL.of (s10 _ _ hd9)) (v:=.int (dAt ds k:Nat)) (A0 (Ys (by unfold dAt gr;rw[df hk];rfl))) ?_;apply Cl (λhe=>?_) (λhe=>?_)
   ·have he:dAt ds k=d:=by injection he;lia
    apply kA _ _ ?_ (Am.refl _);rw[Xz,if_pos (by rw[ees];exact he),<-Va];rfl
   ·refine kR ?_ _ (Am.refl _)
    rw[Xz,if_neg (λz=>he (by rw[<-ees,z])),fw]
  obtain⟨a1,b1,e1,e2⟩:=wP hD d;rw[e1] at h10;have m10:=m9.then s10;apply⟨x,dx,_,rfl,m10.k h.hx,rfl,?_⟩;apply⟨x,ds,d,rfl,hL.sm m10,m10.ok,λv1 H11 s11 hv1=>?_⟩;apply⟨D,a1,b1,rfl,s11.k h10,λu1 H12 s12 hu1=>?_⟩;rw[e2] at hv1;apply⟨v1,u1,_,rfl,hv1.same s12,hu1,?_⟩;k_is;exact⟨⟨_,_,rfl⟩,(((s9.then s10).trans s11).then s12)⟩
 ·rintro G H9 ⟨⟨v7,v11,rfl⟩,s9⟩
  have m9:=m8.trans s9;have hP9:=hP8.sm s9;have ha9:=m9.k ha;apply⟨f7 _,λp9 hp9=>?_⟩;have u9:=Ag (o:=.lst []) hp9;refine uV (ms:=[]) (SqL.of (u9 _ _ ha9)) (SqL.of Ac) ?_;have m10:=m9.then u9;have hP10:=hP9.sm (SmT.of m9.ok u9);have ha10:=u9 _ _ ha9;generalize upd H9 p9 _=H10 at *
  by_cases h0:A4 ds=[]
  ·rw[decide_eq_true h0]
   k_is;exact q _ m10
  rw[decide_eq_false h0];have hpos:0<ds.length:=by rw[<-hel];exact sg.mpr h0
  apply⟨a,_,rfl,.inl (SqL.of ha10),?_⟩;rw[da,hel];apply⟨ds.length,r,rfl,hpos,hn,λps ks H11 s11 hps0 hps hks hkl=>?_⟩;have m11:=m10.then s11;have hP11:=hP10.sm (SmT.of m10.ok s11);apply⟨ps,rfl,⟨_,SqL.of hps⟩,?_⟩;refine Ev (xs:=nV ks) (λi G H12=>(∃v7 v10 v11:Option V,G=[some (.ref x),some (.ref a),some (.int r),some (.ref t),some (.ref po),some (.ref pn),some (.int (mx ds ds.length:Nat)),v7,some (.ref D6),some v,v10,v11])/\SmT ts H11 H12) ⟨⟨_,_,_,rfl⟩,SmT.refl m11.ok⟩ (λi G H12 _ h=>SqL.of (h.2.k hps)) ?_ ?_
  ·rintro i y G H12 hy ⟨⟨v7,v10,v11,rfl⟩,s12⟩
   obtain⟨g,hg2,rfl⟩:=G9 hy;have m12:=m11.trans s12;apply⟨x,t,po,pn,ds,g,_,rfl,hL.sm m12,m12.ok,hP11.sm s12,hks g (d5 hg2),λH13 s13=>?_⟩;k_is;exact⟨⟨_,_,_,rfl⟩,s12.trans s13⟩
  ·rintro G H12 ⟨⟨v7,v10,v11,rfl⟩,s12⟩
   k_is;exact q _ (m11.trans s12)
theorem rA {ds:Za4}(es:Za4):Dok (ds++es)->Dok ds/\(A4 (ds++es)).take ds.length=A4 ds:=by
 induction es using Hr with
 |h0=>
  intro h;rw[fw] at h ⊢;exact⟨h,fc (by rw[Bv];exact dh _)⟩
 |h1 es d ih=>
  intro h;rw[<-dq] at h ⊢;obtain⟨h1,h2⟩:=ih (Y3 h).1;refine⟨h1,?_⟩;rw[Fi,ik (by rw[Bv,di];lia),h2]
theorem nO {ds:Za4}(h:Dok ds)(m:Nat)(hm:m<=ds.length):Dok (ds.take m)/\(A4 ds).take m=A4 (ds.take m):=by
 have e:=(gu m ds).symm;rw[e] at h;obtain⟨h1,h2⟩:=rA _ h;rw[<-e,dy,iz hm] at h2;exact⟨h1,h2⟩
include T ad aj aE ax in
theorem xX (F:Fun K "law" "law" Ul f fd)(bJ:Cal P w K mg base "_law_deep" 11 ["_law_cell"] (kH ts))(bK:Cal P w K mg base "_law_wood" 3 ["_law_script","_law_most","_law_large"] (eI K))(aJ:Cal P w K mg base "_law_all_right" 10 ["_law_wood_here","_law_elders","_law_number"] (nZ K ae ab aa ts)):Av P w K mg base CX0 12 f fd ["_law_script"] (fJ K ts):=by
 exists F.ok L3
 obtain⟨a,ns,rfl,hS,hlen,hT,q⟩:=h;refine⟨_,(Aa (Bp (ttc Fs (Ah Cu (Ah Dy (Ar aj hr.m (tpa (pv 0) (tpa Ad Ab))) Ad) Ad) Ad) (Ae (Ap (Ar bJ hr.m (tpa (Ar aj hr.m (tpa (pv 0) (tpa Ad Ab))) Ab))))
  As) (Aa (tst 1 L3.nd (Ar bK hr.m (tpa (pv 0) (tpa Ad (tpa Ad Ab))))) (Aa (tst 2 L3.nd (Ar aE hr.m (tpa (Ar aj hr.m (tpa (pv 0) (tpa Ad Ab))) (tpa Ad Ab)))) (Aa (tst 3 L3.nd (De Et (by rfl) T.bW Lq (tpa (pv 1) Ab))) (Aa (tst 4 L3.nd (Rf ax hr.m (tpa (pv 3) Ab))) (Aa (Bm (cM f9 zh zg X5 (pv 3))) (Aa (tst 5 L3.nd (Fv Kx (pv 1) Ks (Fp (Ah Dy (Ah At (Ak Ao (by rfl) T.bM Bx (tpa (pv 1) Ab)) Ad) Ad)))) (Aa (tst 6 L3.nd (Rf ax hr.m (tpa (De Et (by rfl) T.bW Lq (tpa (pv 5) Ab)) Ab))) (Aa (Bp (PW.pt (Oy (C1 (B8 (Ar aJ hr.m (tpa (pv 6) (tpa (pv 5) (tpa (pv 2) Ab)))))) (L7 (C1 (B8 (Ar aJ hr.m (tpa (pv 4) (tpa (pv 1) (tpa (pv 2) Ab))))))))) (Ae (Ap Gb))
  As) (Ae (Ap (Ar aJ hr.m (tpa (pv 6) (tpa (pv 5) (tpa (pv 2) Ab))))))))))))))),?_⟩
 apply⟨a,ns,2,rfl,hS,λc0=>?_⟩;apply Cl (λ_=>?_) (λ_=>?_)
 ·apply⟨a,ns,2,rfl,hS,λc1=>?_⟩;k_is;exact⟨c1,rfl,hT,λH'=>q H'⟩
 apply⟨a,ns,120,rfl,hS,by lia,λp ds H1 s1 hp0 hp hD hl=>?_⟩;have hel:(A4 ds).length=ds.length:=Bv ds;apply⟨a,ns,2,rfl,s1.seq hS,λc2=>?_⟩;apply⟨c2,91,rfl,by lia,λr hr=>?_⟩;apply⟨p,_,rfl,.inl (SqL.of hp),λp2 hp2=>?_⟩;obtain⟨t2,hp3⟩:=Bu (o:=.lst ((A4 ds).map V.int)) hp2;have hpp:=t2 _ _ hp;have npp:p≠p2:=Aj hp hp2;have hT2:=(hT.same s1).same t2;generalize upd H1 p2 _=H2 at *;k_is;intro x dx hx hdx hxd;refine⟨x,dx,p2,ds,rfl,Ac,E3 hx hdx _ _ hp3,hD,by lia,hT2.same (E3 hx hdx),λH3 s3 hC=>⟨rfl,?_⟩⟩;have s3:=SmB.made hx hdx s3;have hpp3:=s3.k hpp;have hp23:=s3.k hp3;apply⟨.inl ⟨rfl,_,SqL.of hp23⟩,?_⟩;refine⟨p2,_,rfl,rfl,hp23,?_⟩;have hC4:=hC.lst (o:=.lst []) hp23;have hT4:Tbs ts (upd H3 p2 (.lst [])):=s3.ok.keepN hp23;have hpp4:upd H3 p2 (.lst []) p=some (.lst ((A4 ds).map V.int)):=by rw[Ai npp];exact hpp3
 generalize upd H3 p2 _=H4 at *;apply⟨p,_,rfl,.inl (SqL.of hpp4),?_⟩;rw[da,hel];k_is;have ehalf:((ds.length:Int)+1)/2=(((ds.length+1)/2:Nat):Int):=by lia
 have hm2:(ds.length+1)/2<=ds.length:=by lia
 generalize (ds.length+1)/2=m2 at ehalf hm2;obtain⟨hD2,hE2⟩:=nO hD m2 hm2;rw[ehalf];refine⟨p,_,rfl,SqL.of hpp4,λp4 hp4=>?_⟩;rw[Vm,<-oq,hE2];have hl2:(ds.take m2).length<=460:=by rw[dy];lia
 generalize ds.take m2=es at *;obtain⟨t5,hp5⟩:=Bu (o:=.lst ((A4 es).map V.int)) hp4;have hpp5:=t5 _ _ hpp4;have hC5:=hC4.same hT4 t5;have hT5:=hT4.same t5;generalize upd H4 p4 _=H5 at *;apply⟨p4,_,rfl,.inl (SqL.of hp5),λp6 hp6=>?_⟩;obtain⟨t6,hq6⟩:=Bu (o:=.lst ((A4 es).map V.int)) hp6;have hpp6:=t6 _ _ hpp5;have hp56:=t6 _ _ hp5;have hC6:=hC5.same hT5 t6;have hT6:=hT5.same t6;generalize upd H5 p6 _=H6 at *;k_is;intro x2 dx2 hx2 hdx2 hxd2;refine⟨x2,dx2,p6,es,rfl,Ac,E3 hx2 hdx2 _ _ hq6,hD2,by lia,hT6.same (E3 hx2 hdx2),λH7 s7 hB7=>⟨rfl,?_⟩⟩;have s7:=SmB.made hx2 hdx2 s7;have hC7:=hC6.sm s7;have hpp7:=s7.k hpp6;have hp57:=s7.k hp56;apply⟨x2,p4,es,r,rfl,hB7,hp57,by lia,s7.ok,λH8 s8=>?_⟩;apply⟨x,p,ds,r,rfl,hC7.sm s8,s8.k hpp7,by lia,s8.ok,λH9 s9=>?_⟩;have s79:=s8.trans s9;apply⟨x2,p4,es,r,rfl,hB7.sm s79,s79.k hp57,by lia,s79.ok,λH10 s10=>?_⟩;exact q H10
end
set_option maxHeartbeats 8000000 in
theorem all_mk:AllMk:=by
 intro l w K h mg fa X G hfa ae ab ah aa f21 od21 an21 sl21 oc21 kV21 dc21 pm21 ct21 oo21 f28 od28 an28 sl28 oc28 kV28 dc28 pm28 cd28 ct28 T28 oT28 vT28 nT28 f31 od31 an31 sl31 oc31 kV31 dc31 pm31 ct31 oo31 f53 od53 an53 sl53 oc53 kV53 dc53 pm53 ct53 oo53 ak o_ONES_OF_FOUR i_ONES_OF_FOUR n_ONES_OF_FOUR t_WORD_BITS t_MOST_BITS t_BLOCK_WORDS t_BLOCK_BITS t_FULL_WORD t_MOST_KNOTS t_MARK_STEP cd_Bits fd_Bits cd_Counts fd_Counts cd_Shortcuts fd_Shortcuts cd_Levelled fd_Levelled g0 g1 g2 g3 g4 g5 g6 g7 g8 g9 g10 g11 g12 g13 g14 g15 g16 g17 g18 g19 g20 i21 a21 l21 c21 k21 lc21 hc21 g22 g23 g24 g25 g26 g27 i28 a28 l28 c28 k28 lT28 dT28 eT28 g29 g30 a31 l31 c31 k31 lc31 hc31 g32 g33 g34 g35 g36 g37 g38 g39 g40 g41 g42 g43 g44 g45 g46 g47 g48 g49 g50 g51 g52 a53 l53 c53 k53 lc53 hc53 g54 g55 g56 g57 g58 g59 g60 g61 g62 g63 bX o1_ONES_OF_FOUR o2_ONES_OF_FOUR o3_ONES_OF_FOUR o4_ONES_OF_FOUR o5_ONES_OF_FOUR bU ce bT bZ bY cf bO z_range z_len z_int z_bool z_str z_isinstance z_list z_tuple z_dict z_enumerate z_zip z_sum z_abs z_max z_min z_sorted z_reversed;obtain⟨f63,d63,F63,a63⟩:=g63;obtain⟨_,_,kV63,dc63,pm63,an63,cd63,ct63,_,rfl,_,_⟩:=F63.ex;have e:=hfa.symm.trans (j0 X G a63);cases e;have cu:∀H,SqT K H ak (Ua.map λn:Nat=>V.int n):=λH=>.inr ⟨o_ONES_OF_FOUR,i_ONES_OF_FOUR,n_ONES_OF_FOUR,o1_ONES_OF_FOUR,o2_ONES_OF_FOUR,o3_ONES_OF_FOUR,o4_ONES_OF_FOUR,o5_ONES_OF_FOUR⟩;have T0:∀base:i8,Txt l.prog w base tz K mg ak:=λ_=>⟨j0 X G bX,cu,⟨_,j0 X G bU⟩,⟨_,j0 X G ce⟩,⟨_,j0 X G bT⟩,⟨_,j0 X G bZ⟩,⟨_,j0 X G bY⟩,⟨_,j0 X G cf⟩,⟨_,j0 X G bO⟩,kh X G z_range,kh X G z_len,kh X G z_int,kh X G z_bool,kh X G z_str,kh X G z_isinstance,kh X G z_list,kh X G z_tuple,kh X G z_dict,kh X G z_enumerate,kh X G z_zip,kh X G z_sum,kh X G z_abs,kh X G z_max,kh X G z_min,kh X G z_sorted,kh X G z_reversed⟩;have Qd:Qd K ae:=⟨fd_Bits.cl,fd_Bits.no 0,fd_Bits.no 1,fd_Bits.no 2⟩;have Qb:Qb K ab:=⟨fd_Counts.cl,fd_Counts.no 0,fd_Counts.no 1,fd_Counts.no 2⟩;have Qc:Qc K ah:=⟨fd_Shortcuts.cl,fd_Shortcuts.no 0,fd_Shortcuts.no 1⟩;have Qa:Qa K aa:=⟨fd_Levelled.cl,fd_Levelled.no 0,fd_Levelled.no 1,fd_Levelled.no 2,fd_Levelled.no 3,fd_Levelled.no 4,fd_Levelled.no 5,fd_Levelled.no 6,fd_Levelled.no 7⟩;have F21:=Vh (st:=Bb) l21 c21 k21 lc21 hc21;have b21:=F21.binds (ps:=["self","bit","nth"]) λ_ _ _ _ _ _=>us3 λ_ _ _=>rfl;have F28:=tK (st:=Bt) l28 c28 lT28 dT28;have b28:=F28.binds (ps:=["self","order","step"]) λ_ _ _ _ _ _ _ us hl=>match us,hl with | [_,_,_],_=>⟨_,rfl,λ_=>rfl⟩
 have F31:=Vh (st:=Dd) l31 c31 k31 lc31 hc31;have b31:=F31.binds (ps:=["depths"]) λ_ _ _ _ _ _=>us1 λ_=>rfl;have F53:=Vh (st:=Eo) l53 c53 k53 lc53 hc53;have b53:=F53.binds (ps:=["_law_deep_here"]) λ_ _ _ _ _ _=>us1 λ_=>rfl;refine⟨i9 "law" "law" (Br Ul) (Bg Ul) (Af Ul) .none kV63 dc63 pm63 an63 cd63 ct63,λs v=>.of_eq rfl,λbase hK _ hB=>?_⟩;have T:=T0 base;have V0:=GD.cal X G g0 λF=>Y7 T F;have V1:=GD.cal X G g1 λF=>U6 T V0 F;have V2:=GD.cal X G g2 λF=>Vk T V1 F;have V3:=GD.cal X G g3 λF=>Rl T V1 F;have V4:=GD.cal X G g4 λF=>Jj T V0 F;have V5:=GD.cal X G g5 λF=>Sz T V1 F;have V6:=GD.cal X G g6 λF=>cT T F;have V7:=GD.cal X G g7 λF=>Qz T F;have V8:=GD.cal X G g8 λF=>dE T F V7;have V9:=GD.cal X G g9 λF=>iP T F;have V10:=GD.cal X G g10 λF=>cW T F;have V11:=GD.cal X G g11 λF=>Zb T F V10;have V12:=MD.mkr X G cd_Bits g12 λF=>Qv T Qd F V9 V11;have V13:=MD.mth Qd.cl g13 λF=>Qw T Qd F;have V14:=MD.mth Qd.cl g14 λF=>Qu T Qd F;have V15:=GD.cal X G g15 λF=>Ss T F;have V16:=GD.cal X G g16 λF=>O9 T F;have V17:=GD.cal X G g17 λF=>Mp T V6 F V16;have V18:=MD.mkr X G cd_Counts g18 λF=>Qt T Qb F V13 V14 V17;have V19:=MD.mth Qb.cl g19 λF=>Qf T Qb F;have V20:=MD.mth Qb.cl g20 λF=>Qm T Qb V19 F;have V21:Mth l.prog w K mg base ab "block_with" 4 ["self","bit","nth"] (Ki K ab tz):=⟨⟨f21,_,Qi T Qb V19 hK (hB (379,375) (by simp)) F21 fi V15,b21,⟨a21,i21,k21⟩⟩,Qb.cl⟩;have V22:=MD.mth Qb.cl g22 λF=>Qj T V6 Qb F V8;have V23:=MD.mth Qb.cl g23 λF=>Qn T Qb V19 F V2 V3 V20 V21 V22;have V24:=GD.cal X G g24 λF=>Uz T V18 V12 F;have V25:=GD.cal X G g25 λF=>Q0 T V1 F;have V26:=GD.cal X G g26 λF=>U2 T F;have V27:=GD.cal X G g27 λF=>Pb T F V26;have V28:Abj l.prog w K mg base "Shortcuts" ah 4 ["self","order","step"] (Nc ah):=⟨⟨f28,_,Qe T F28 Qc V25 V27,b28,⟨cd_Shortcuts.ma,a28,i28,cd_Shortcuts.kc⟩,j0 X G cd_Shortcuts.a⟩⟩;have b28D:=Y6.bindsD (x:="__init__") (qual:="Shortcuts.__init__") (st:=Bt) (ps:=["self","order","step"]) (kV:=kV28) (doc:=dc28) (pm:=pm28) (cdv:=cd28) (ct:=ct28) (an:=an28) lT28 dT28 rfl (us2 λ_ _=>⟨_,rfl,rfl⟩);have V28D:kO l.prog w K mg base "Shortcuts" ah 4 ["self","order","step"] (Nc ah) [.int 16]:=⟨⟨f28,_,_,Qe T F28 Qc V25 V27,b28D,.cons eT28 .nil,⟨cd_Shortcuts.ma,a28,i28,cd_Shortcuts.kc⟩,j0 X G cd_Shortcuts.a⟩⟩;have V29:=GD.cal X G g29 λF=>cI T V0 F;have V30:=GD.cal X G g30 λF=>U8 T F;have V31:Cal l.prog w K mg base "level_order" 2 ["depths"] (N7 tz):=⟨⟨f31,_,Rk T hK (hB (490,486) (by simp)) F31 (fb _ fi),b31,j0 X G a31,k31⟩⟩;have V32:=GD.cal X G g32 λF=>Lb T F;have V33:=GD.cal X G g33 λF=>Rv T F;have V34:=GD.cal X G g34 λF=>Ve T F;have V35:=GD.cal X G g35 λF=>Vj T F V32 V33;have V36:=GD.cal X G g36 λF=>Wn T F;have V37:=MD.mth (sp:=(cP K ae ab aa tz)) Qa.cl g37 λF=>Qr T Qa V23 F;have V38:=MD.mth Qa.cl g38 λF=>Qk T Qa V37 F;have V39:=MD.mth Qa.cl g39 λF=>Qg T Qa V37 F;have V40:=MD.mth Qa.cl g40 λF=>Qh T Qa V38 F V34 V39;have V41:=MD.mkr X G cd_Levelled g41 λF=>Qs T V18 V12 Qa F V29 V30 V31 V35 V28D V24 V36 V40;have V42:=MD.mth (sp:=(Wr K ae ab aa tz)) Qa.cl g42 λF=>Qq T Qa V23 V4 F;have V43:=MD.mth Qa.cl g43 λF=>Ql T Qa V38 V4 F V5;have V44:=MD.mth (sp:=(Q1 K ae ab aa)) Qa.cl g44 λF=>Qo T Qa F;have V45:=MD.mth (sp:=(oH K ae ab aa)) Qa.cl g45 λF=>Qp T Qa F;have V46:=GD.cal X G g46 λF=>Sm T F;have V47:=GD.cal X G g47 λF=>Wg T F;have V48:=GD.cal X G g48 λF=>U7 T F;have V49:=GD.cal X G g49 λF=>Vq T V46 V47 F;have V50:=GD.cal X G g50 λF=>Pf T F;have V51:=GD.cal X G g51 λF=>X8 T V46 F V48 V49 V50;have V52:=GD.cal X G g52 λF=>U1 T F;have V53:Cal l.prog w K mg base "_law_order" 2 ["_law_deep_here"] (N7 tz):=⟨⟨f53,_,Vu T hK (hB (863,859) (by simp)) F53 (fb _ (fb _ fi)),b53,j0 X G a53,k53⟩⟩;have V54:=GD.cal X G g54 λF=>P4 T F;have V55:=GD.cal X G g55 λF=>jI T F;have V56:=GD.cal X G g56 λF=>Xn T F;have V57:=GD.cal X G g57 λF=>Rr T F;have V58:=GD.cal X G g58 λF=>Ze T V55 F;have V59:=GD.cal X G g59 λF=>Lu T Qa V58 V43 V57 F;have V60:=GD.cal X G g60 λF=>Wp T F;have V61:=GD.cal X G g61 λF=>Yq T Qa V55 V58 V43 V52 V41 V44 F V60;have V62:=GD.cal X G g62 λF=>N6 T Qa V55 V58 V57 V52 V44 F V53 V54 V45 V42 V56 V59;exact xX T Qa V46 V47 V41 F63 V61 V51 V62
end TK
theorem PySem.Challenge.cw_tightwood_k43_levels_holds : PySem.Challenge.rw_tightwood_k43_levels.Holds :=
 TK.HEAD @TK.all_mk
#print axioms PySem.Challenge.cw_tightwood_k43_levels_holds
