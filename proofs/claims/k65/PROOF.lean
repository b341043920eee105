import PyProof.Rows.All
import Wide.All
import OpenK.AllK
import Wide.FinOn
import Lean
import PyProof.EqAt
import PyProof.EqKinds
import PyProof.TupleCall
import KE.KDictOf
import KE.KItemsList
import KE.KLam
import KE.KNest
import KE.KNestM
import KE.KRevIter
import KE.KSortKey
import KE.KSortTup
import KE.KTryMore
import KE.LcSums
import OpenK.KCls
import PyProof.AttrMissHeap
import PyProof.AutoSeq1
import PyProof.Draws
import PyProof.EnumMake
import PyProof.EnumStmt
import PyProof.FactsAll.list
import PyProof.InstStoreFacts
import PyProof.IsiH_list
import PyProof.ListNew
import PyProof.ListRange
import PyProof.ObjNew
import PyProof.Rows.SortRunsK
import PyProof.Rows.SortShell
import PyProof.Rows.SortStr
import PyProof.SliceList
import PyProof.StrBlockL
import PyProof.StrLawsChain
import PyProof.StrLawsIn
import PyProof.WalksEnum
import PyProof.ZipIter
import PySem.Challenge.RW_tightwood_k65_names_beneath
set_option compiler.extract_closed false
set_option Elab.async false
set_option linter.all false
set_option maxRecDepth 100000
set_option maxHeartbeats 4000000
open Option renaming some->KH,none->KI
open Bool renaming true->KJ,false->KL
open List renaming getElem?_eq_getElem->d4,length_map->d7,getElem?_map->d9,length_append->eg,range->fb,getElem?_eq_some_iff->fc,replicate->fe,length_range->fg,length_take->fh,map_append->fi,getElem?_append_right->fk,append_assoc->fm,getElem?_append_left->fw,take_of_length_le->fz,mem_singleton->f7,mem_of_getElem?->f8,getElem?_range->gd,size_toArray->ge,getD_eq_getElem?_getD->gg,getElem?_take_of_lt->gj,length_cons->gm,mem_cons_self->gr,mem_cons_of_mem->gt,append_nil->gv,length_drop->gz,getElem?_eq_none->ii,mem_append->ik,mem_cons->ir,map_cons->iu,mem_append_right->iw,getElem?_drop->iz,take_add_one->i5,length_replicate->i6,replicate_succ->i8,length_singleton->jb,map_congr_left->jd,filter_cons->je,range_succ->jf,map_map->jg,getElem?_take->ji,drop_of_length_le->jk,flatten_cons->jn,mem_range->jo,take_append_drop->jp,take_append_of_le_length->jq,length_nil->jt,getD->ju,getElem?_of_mem->j6,length_filter_le->ke,mem_append_left->km,forall_mem_cons->ko,toList_toArray->lf,filterMap_cons->lg,mem_map->lq,filter_append->lu,not_mem_nil->lw,all_eq_true->lx,filter_eq_nil_iff->md,ext_getElem?->me,nil_append->mh,pairwise_cons->mo,drop_append_of_le_length->mw,length_reverse->my,range_succ_eq_map->mz,cons_append->m9,drop_eq_getElem_cons->nv,count_cons->ny,mem_of_mem_take->n5,count_append->n6,mem_map_of_mem->oh,take_take->oi,drop_drop->oj,lookup->ow,nodup_cons->o7,map_take->o9,take_length->p7,mem_reverse->p9,getElem?_zip_eq_some->qc,reverse_append->qd,map_drop->qh,foldl_cons->qj,pairwise_singleton->qr,getElem?_replicate->qt,drop_zero->qz,lookup_cons->rn,reverse_reverse->si,of_mem_zip->sj,length_zip->sk,pairwise_iff_getElem->ug,any_cons->ul,all_cons->um,length_eq_zero_iff->ux,drop_length->uy,mem_filter->vq,find?_cons->vt,getElem?_toArray->vz,take_zero->we,pairwise_append->wf,not_lt->wg,getLast?_concat->wj,take->wq,drop->wt,flatten_append->w4,take_add->xc,sum_cons->xf,sum_singleton->xl,mem_filterMap->xm,map_singleton->xn,reverse_cons->xz,map_nil->x0,map->x4,length_tail->yj,countP_cons->yk,length->yu,sum_append->yz,length_set->y3,forIn_cons->y4,drop_one->AB,length_eq_one_iff->AO,head?_eq_getElem?->AQ,getElem?_set_self->AR,getElem?_reverse->BG,mem_of_mem_drop->BU,length_dropLast->BV,getElem?_set_ne->BW,filter->BX,count_replicate->BY,zip_map_right->CZ,zip_cons_cons->DA,foldl->DB,nodup_append->DN,foldl_append->DO,take_append->EC,map_reverse->ED,foldlM_cons->EE,ext_getElem->EF,any_eq_true->EG,forIn_nil->FC,drop_take->FE,all_nil->GF
open PySem.W renaming Frag->d6,nsIn->iq,fnOf->jl,mg_of->jw,findIn->j8,keepIn->ki,mg_none_of->k5,codeIn->lz,boot_heap->nr,isFn->qo,SharedT->rp,kia_one->sy,plainGet->ui,tabObj->vn,plainGet_of->wb,codeHd_of_K->wc,km_tabs_of->wm,methodObj->w9,hasDictIn->xa,takerIn->ya,OpenLaw->yb,boot_drawn->yo,TabsAt->yq,kla_obj->zb,boot_toks->zp,cellsFrom_some->zq,methodCall_KW->z6,kla_codeExpr->AH,kla_callFunE->AI,km_in_of->BB,CodeHd->BI,plainOver->BK,kitx_list->BL,kitx_dict->BM,handedIn->CJ,makesIn->CW,kla_fn->DJ,WalkO->DV,Frag->FS,OpenLaw->KD
open Nat renaming le_refl->d8,lt_of_lt_of_le->fv,le_of_lt->f9,zero_le->gn,ne_of_lt->gw,min_eq_left->il,add_sub_cancel_left->io,le_trans->iy,le_add_right->jj,sub_self->jy,ne_of_gt->jz,exists_eq_add_of_le->j0,lt_of_le_of_ne->kr,lt_irrefl->l8,add_assoc->l9,lt_or_eq_of_le->mv,add_zero->m7,lt_succ_self->nh,add_sub_cancel->nl,zero_add->n8,not_lt->pi,sub_zero->qa,le_of_eq->qb,lt_of_le_of_lt->qp,eq_zero_or_pos->qq,min_self->re,div_div_eq_div_mul->rf,min_eq_right->rq,and_two_pow_sub_one_eq_mod->rz,lt_or_ge->tu,add_comm->tx,sub_add_cancel->uc,mod_mul_right_div_self->ud,mod_lt->ue,lt_succ_of_lt->uk,min_le_right->va,pow_succ->vo,lt_trans->vp,le_succ->wn,eq_of_testBit_eq->wo,mod_mod_of_dvd->xw,succ_pos->yd,mul_comm->ye,div_eq_of_lt->yt,le_zero->yx,not_lt_zero->zg,testBit_two_pow_sub_one->zm,succ->zx,sub_le->zy,le_of_ble_eq_true->BR,add_sub_add_right->BS,pow_le_pow_right->CK,add_mul->CL,lt_trichotomy->DX,le_succ_of_le->DY,ble->DZ,add_sub_assoc->EA,add_div_right->EB,min_le_left->FB,mul_assoc->GC,zero_div->GW,xor_zero->GX,one_pos->IH,div_one->II,sub_lt->IU,not_le->IV
open Option.some renaming inj->ee
open PySem renaming Addr->eh,Value->fj,wpAny_pure->fq,Shared->ft,Program->gl,World->ip,Stmt->i4,Around->i9,Expr->ja,Heap->jm,FuncData->jx,mem_of_lookup->j9,codeAny_builtin->ml,Arguments->nu,wpAny_mono->nw,builtinLookup_eq_fast->n4,wpAny_truthy_bool->n9,lookup_relabel_local->og,plainId_quiet->ol,Scope->oq,IsPair->o0,Spec->pf,wpAny_newObj_type->pq,wpAny_field->qf,NameKind->qg,wpAny_typeOf->qi,Builtin->qk,typeLookup_type->qu,wpAny_callSpecial?_slot->rh,wpAny_call_entry->sv,call_meets->sw,wpAny_updateSeq->ua,codeAny_mono->uh,wpAny_seqItems->uq,wpAny_rule->ur,wpAny_pyIter_enum->vd,wpAny_getItem_list_slice->vg,evalPart_none->vh,wpAny_pyIter_zip->wa,wpAny_execs_nil->ww,CmpOp->w6,wpAny_newFunctionEnv->xp,wpAny_loadName_local->xq,wpAny_ite_true->xr,ZipApart->xt,Result->xu,Model->xx,IsPart->xy,wpAny_dictSet_pairs->x9,wpAny_standAt->yf,wpAny_newList->yg,wpAny_attempt->yh,Value->yi,wpAny_call->ym,wpAny_Name->yn,wpAny_pyIter_list->y8,stored_length_le->zo,Params->zu,Paired->zw,wpAny_Slice->zz,Fin->z9,IsRangeIter->AC,Within->AG,BindsTo->AV,wpAny_tryCatch->AX,wpAny_newTuple->AY,typeIs_str->AZ,callType_codes->BE,wpAny_comprehension_free->CG,call->CI,wpAny_getItem_str_slice->CU,wpAny_pyNext_range_end->DC,wpAny_pyNext_list_item->DD,wpAny_pyIter_rangeiter->DE,wpAny_nextOf_list_item->DF,seqIndex_neg->DH,call_meetsIn->DK,Str->DM,wpAny_pyNext_zip_item->DS,wpAny_pyNext_list_end->DT,wpAny_notOrdered_dict->DU,wpAny_raiseAttrError->EJ,wpAny_pyNext_zip_end->EK,wpAny_pyIter_revIter->EL,sizeLine_eq->EM,seqIndex_of->EN,numAt_eq->EO,Operator->ER,wpAny_loadName_free->EV,wpAny_loadName_cell->EW,list_getitem_lookup->EX,Program->FA,wpAny_pyIter_range->FI,typeIs_int->FJ,sub_AttributeError->FK,call_zip_2->FL,rawInt->FO,PlainAttrs->FP,wpAny_sequenceKey->FV,wpAny_loadPart_at->FW,World->GB,Keyword->GG,IsZip->GH,kt_code_dict_new->GL,wpAny_specialOf->HE,sliceRange_one->IR,pick_run->IT,GenState->IX,DefRec->IZ,rangeSize_one->JF,nums_intItems->JG,intBits_le_64->JH,call_list_seq->JI,call_range_3->KA,call_range_1->KB
open PySem.Str renaming ofString->ej,ofString->ox,length->vm,empty->yp
open PySem.Heap renaming get?_push_of_some->en,lt_size->fu,get?_push_size->gp,get?_update_other->ky,size_update->mq,get?_update_self->nq,size_push->q8,SameBut->ve,get?_push_ne->x5,get?_none_of_le->BZ
open Array renaming length_toList->gh,getElem?_toList->gq,getElem?_eq_getElem->jr,getElem?_eq_none->l7,toList_append->su,forIn_toList->t8,append_empty->t9,size_push->vf,mk->BJ,getElem?_push->CF,append_assoc->CT,toList_map->DR,toList->FU
open PySem.F renaming plainAttrs_list->gi,type_list_append->ic,slot_list_append->ie,plainAttrs_str->kq,plain_extend_loop->mf,type_str_join->oy,slot_str_join->oz,type_list_pop->qw,slot_zip_next->qx,slot_list_pop->qy,slot_list_getattribute->rc,slot_zip_getattribute->rm,entry_extend_loop->tm,plainAttrs_dict->uj,type_str_count->uu,slot_str_count->uv,slot_dict_setdefault->yc,kt_typeCall_dict_1->yr,slot_str_getitem->zd,slot_dict_update->ze,args_dict_init_2->zf,type_list_index->zi,slot_list_index->zj,entry_dict_init->zk,args_zip_next_1->zl,kt_called_dict->zr,entry_zip_next->zt,slot_dict_get->AA
open Int renaming toNat_natCast->gu,natCast_nonneg->kt,emod_lt_of_pos->ku,eq_ofNat_of_zero_le->ly,emod_nonneg->mi,toNat_of_nonneg->td,fdiv_eq_ediv_of_nonneg->uf,natCast_ediv->vb,le_trans->vw,le_refl->y6,toNat->AS,le_of_lt->BH,natCast_mul->FF,natCast_add->FG,lt_irrefl->GI,add_assoc->GJ,ediv_one->GZ,not_lt->IW
open Bool renaming false_ne_true->gy,false_eq_true->j7,and_eq_true->nc,eq_iff_iff->vy,false_and->wk,and_eq_true_iff->wl,toNat_le->xj,true_and->AD,or_false->AE,eq_false_iff->DQ,toNat_false->EI,toNat_true->ES,or_eq_true->ET,and_true->FT
open PySem.PassesOwn renaming never->ig
open PyProof.Rows renaming callWith_type1->ij,Keyed->jv,slot_tuple_getitem->ka,wpS_pure->l6,SortSt->ph,StrsAre->qv,IntsAre->r6,SortKind->ut,AllBare->wv,get?_update_seq->wx,wpS_reverse->xo,tail_any->y9,wpS_get->AL,size_push'->BA,Constant_none->CQ,subscriptTail_builtinR->DG,listItems_at->DI,wpS_modify->FH,args_tuple_getitem->FM,count_cnt->ID,cnt_cons->IE,cnt->IF,callWith_builtin1->IG,wpS_lift->IQ,slicePart_none->IS,tupleItemsOf_->JE,plain_sorted->JY,entry_sorted->JZ
open PySem.Challenge renaming pw_tightwood_k65_names_beneath->im,rw_tightwood_k65_names_beneath->m5
open PySem.Obj renaming mapSeq->i7
open PySem.Value renaming ref->jc,type->kj,int->o6,str->ql,none->tj,bool->zc,float->BF,isStrOf->EY,builtin->EZ,isInt->FZ,bytes->GA
open PySem.Around renaming under_plainId->j5,under->AF,frames_deeper->AW
open False renaming elim->kl
open Option renaming map_eq_some_iff->kx,isSome_iff_exists->ln,getD_some->rj,map_some->sg,map_map->yw,toList_some->BQ,getD_none->CY,none->FQ
open PySem.Builtin.Range renaming rangeSize->lh,small->rb,rangeFitsLong->w8
open PySem.Builtin.Str renaming strSliceIndices->lp,occurrences->mr,tooLong->JD
open PySem.Calls renaming spliced_cons->lr,spliced_nil->nz,Name_function_global->zh,callWith_builtin->AK
open PySem.Builtin renaming bitAnd->l5,bitNot->m8,bitXor->vx,bitOr->EH
open PySem.Builtin.SmallTypes renaming ownedTupleIsFree->mj,nextOf->ra
open Classical renaming byContradiction->nj,choose_spec->zn
open PySem.Builtin.List renaming listExtendWith->om,listTooLong->sq,listSameRef->x6,listItems->yl,listUpdate->IL,listTouch->IM,listLengthHint->IN,listFitsIndex->IP
open PySem.NameKind renaming free->ou,cell->yy
open PySem.Builtin.Slice renaming slicePlaces->o8,sliceAdjust->sf,sliceApplied->xi,slicePartIndex->HB,sliceFields->HC
open PySem.Builtin.Tuple renaming tupleExact->pe,tupleItemsOf->xh
open PySem.Builtin.Dict renaming updateFrom->pj,pairItems->qe,addKeywords->sr,selfAndRest->x8
open True renaming intro->qm
open List.cons renaming inj->q0
open PySem.Heap.SameBut renaming update->rg,refl->IK
open Ne renaming symm->rk
open PySem.SeqAt renaming EqAt->rl
open Nat.succ renaming inj->sh
open PySem.Txt renaming join->ub
open ForInStep renaming yield->uo,done->vc
open PyProof renaming noPylong_small->uw
open PySem.Heap.IsSliceOf renaming new->uz
open Sum.inr renaming inj->vi
open Sum renaming inl->vj,inr->wy
open List.Pairwise renaming nil->vv,filter->GY
open PySem.Expr renaming Call->wu
open PySem.Heap.DictOf renaming new->xg
open PySem.SeqAt.EqAt renaming same->xk,str_int->z0,of_refs->z4,int_str->z5,str_str->JL,str_none->JM,str_bool->JN,none_str->JO,none_int->JP,none_bool->JQ,int_none->JR,int_int->JS,int_bool->JT,bool_str->JU,bool_none->JV,bool_int->JW,bool_bool->JX
open PyProof.Rows.SortSt renaming mk'->yv
open PySem.W.Hook renaming val->z7,obs->z8,says->HJ,of->HK,keeps->HL
open PySem.IsRange renaming new->AJ
open PySem.SeqAt.RcAt renaming lists->AN,tuples->JJ,lists_lengths->JK
open PySem.Code renaming isFrame->AT,frames->HA
open PySem.BindsTo renaming of_defaults->AU
open Prod renaming ext->BN
open Or renaming inr->BO,inl->BP
open PySem.Data renaming fields->CA,dict->JA,cell->JB
open PySem.WalksT renaming enumerateD->CH,enumerate->CV,zip2->FN
open List.Perm renaming refl->CM
open StateT renaming run_pure->DL
open Decidable renaming em->DP
open Prod.mk renaming injEq->DW
open PySem.Paired renaming length->EQ
open And renaming intro->EU
open Nat.le renaming dest->FR
open PySem.Walks renaming range->FX
open PySem.W.WShape renaming has->FY
open PySem.Meets renaming of_wp->GE
open PySem.CmpOp renaming NotIn->GK,In->JC
open PySem.W.Looks renaming here->GM
open PySem.StrLaws renaming found_one->GN
open PySem.EqMixed renaming ne_str_int->GO,ne_str_bool->GP,ne_int_str->GQ,ne_bool_str->GR,eq_str_int->GS,eq_str_bool->GT,eq_int_str->GU,eq_bool_str->GV
open PySem.W.WData renaming int->HF
open PySem.SeqAt.RcNeAt renaming lists_lengths->HG,lists->HH
open PySem.Within renaming cons->HI
open PySem.EqNone renaming ne_str_none->HM,ne_none_str->HN,ne_none_none->HP,ne_none_int->HQ,ne_none_bool->HR,ne_int_none->HS,ne_bool_none->HU,eq_str_none->HV,eq_none_str->HW,eq_none_none->HX,eq_none_int->HY,eq_none_bool->HZ,eq_int_none->IA,eq_bool_none->IC
open PyProof.Rows.IsTup renaming new->IJ
open PySem.IsL renaming update->KC
open PySem.DictEntry renaming refKey->KF
open PySem.AutoListH renaming list___mul___list_int_3->KG
open PySem.W (instObj lookIn emptyDict kitOne kia_one callWith_K CodeHd kla_obj kla_fn km_in_of mg_none_of)
abbrev Za0:=yi->PySem.Shared->Prop
abbrev Za1:=List (PySem.Addr×PySem.Obj)
abbrev Za2:=DM->Option yi
abbrev Za3:=List yi
abbrev Za4:=List Nat
abbrev Za5:=List Bool
abbrev Za6:=List DM
abbrev Za7:=Option yi
theorem QC(h:True:=by rfl):True:=h
def QD:Lean.Syntax:=QC._auto_1
theorem QE(h:True:=by decide):True:=h
def QF:Lean.Syntax:=QE._auto_1
theorem QG(h:True:=by first|exact .inl rfl|exact .inr rfl|assumption):True:=h
def QH:Lean.Syntax:=QG._auto_1
theorem QI(h:True:=by intro _;rfl):True:=h
def QJ:Lean.Syntax:=QI._auto_1
theorem QK(h:True:=by (repeat intro _);rfl):True:=h
def QL:Lean.Syntax:=QK._auto_1
def OG:Lean.MacroM Unit:=do match (<-Lean.getRef).getHeadInfo with|.original ..=>pure .unit|_=>Lean.Macro.throwUnsupported
open Lean Parser in
def WN(s:String)(a:Array Syntax):Array (TSyntax ``Tactic.tacticSeq):=(s.splitOn " ").toArray.map λx=>⟨mkNode ``Tactic.tacticSeq #[mkNode ``Tactic.tacticSeq1Indented #[mkNullNode #[mkNode ``Tactic.refine #[mkAtom "refine",mkNode ``Term.app #[mkIdent (.mkSimple x),mkNullNode (a.push (mkNode ``Term.syntheticHole #[mkAtom "?",mkNode ``Term.hole #[mkAtom "_"]]))]]]]]⟩
open Lean in
local macro_rules(kind:=Lean.Parser.Command.declaration)|s=>do
 match s.getHeadInfo with|.original ..=>pure .unit|_=>Macro.throwUnsupported
 let s:=s.setHeadInfo .none
 if s[0][4].isNone&&(s[1].isOfKind ``Parser.Command.definition||s[1].isOfKind ``Parser.Command.abbrev) then return s.setArg 0 (s[0].setArg 4 (mkNullNode #[mkNode ``Parser.Command.noncomputable #[mkAtom "noncomputable"]]))
 return s
section
namespace HD
open PySem PySem.W PySem.Calls PyProof.Rows
def Ie (tb:String->Option qk)(p:gl)(w:ip)(m:Nat)(ann:Za7):Nat->rp->Thread->Option rp
 |0,_,_=>none
 |n+1,s,t=>match through t with
  |true=>some s
  |false=>match stepOk m ann t with
   |false=>none
   |true=>match stepT (denote tb) p w s t with
    |some (s',t')=>Ie tb p w m ann n s' t'
    |none=>none
theorem Ze {tb:String->Option qk}{p:gl}{w:ip}{m:Nat}{ann:Za7}:∀{n:Nat} {s s':rp} {t:Thread},Ie tb p w m ann n s t=some s'->topRun tb p w m ann n s.abs t=some s'.abs
 |0,_,_,_,h=>by cases h
 |n+1,s,s',t,h=>by
  unfold Ie at h;unfold topRun
  cases he:through t with
  |true=>rw[he] at h;cases h;rfl
  |false=>
   rw[he] at h
   cases hk:stepOk m ann t with
   |false=>rw[hk] at h;cases h
   |true=>
    rw[hk] at h
    cases hs:stepT (denote tb) p w s t with
    |none=>rw[hs] at h;cases h
    |some r=>obtain⟨QY,t₂⟩:=r;rw[hs] at h;rw[stepT_spec hs];exact Ze h
def Aar:List Obj->Nat->BT->BT
 |[],_,t=>t
 |o::l,n,t=>Aar l (n+1) (t.ins n o)
noncomputable def Vt (P:zu):BT:=Aar (nr P).objs.toList 0 .nil
def bootSize:Nat:=11
noncomputable def bootT (w:ip) (os:OsState):rp:=⟨Vt w.params,bootSize,(nr w.params).life,#[],yo,zp,os⟩
def oH {α:Type}(Yf:ft->α)(h0:jm)(p q:gl)(loose:Za6)(s:ft):=
 (staticsOk (importedModules p.main.body) h0 s.heap&&namesBound p s.heap&&gensDone s&&laidKept h0 s.heap,
  openSeen q loose (importedModules p.main.body) (λ_=>true) true s,Yf s)
def bothT {α:Type}(Yf:ft->α)(s0:rp)(h0:jm)(m:Nat)(p q:gl)(loose:Za6)(M:Nat)(w:ip):=
 (Ie treeTable p w m (some (.ref 6)) M s0 (topStub p)).map λs=>oH Yf h0 p q loose s.abs
theorem wN (P:zu):absHeap (Vt P) bootSize (nr P).life=nr P:=by kernel_rfl
theorem tT (P:zu):((nr P).isNs mainGlobals&&(#[]:Array IX).size==0,(nr P).objs.size,(nr P).nsMap mainGlobals "__annotations__")=(true,bootSize,some (.ref 6)):=by kernel_rfl
theorem Abi {p q:gl}{loose:Za6}{α:Type}{Yf:ft->α}{Ya:ip->α}{M N:Nat}(e:opening p=plainProg p.main.scope.names)(f:∀s,fenceModules? p s=some s)(hN:DZ 600 N=true)(le:DZ M N=true)
  (Xy:∀w:ip,(λos=>bothT Yf (bootT w os) (nr w.params) bootSize p q loose M w)=λ_=>some (true,openGood q loose,Ya w)) :
  LeftO p q loose (λ_=>true) Yf Ya N:=λw=>by
 obtain⟨⟨h,gs,d,k,os⟩,e1,e'⟩:=kx.mp (boot_open e hN f w);obtain⟨rfl,rfl,rfl,rfl⟩:h=nr w.params/\gs=BJ []/\d=yo/\k=zp:=by simpa using e'
 have b:=congrFun (Xy w) os;unfold bothT at b;obtain⟨s,r,l⟩:=kx.mp b;have r2:=Ze r;have r3:=topRun_mono (N-M) _ _ _ _ r2;rw[show M+(N-M)=N by have:=BR le;lia] at r3;have eb:(bootT w os).abs=⟨nr w.params,BJ [],yo,zp,os⟩:=by
  show Shared.mk (absHeap (Vt w.params) bootSize (nr w.params).life) (BJ []) yo zp os=_;rw[wN]
 rw[eb] at r3;obtain⟨z1,z2,z3⟩:_/\_/\_:=by simpa only[DW] using tT w.params
 obtain⟨l1,l2,l3⟩:_/\_/\_:=by simpa only[oH,DW] using l
 have t:topFrom treeTable p w N ⟨nr w.params,BJ [],yo,zp,os⟩=some s.abs:=by
  unfold topFrom;dsimp only;rw[z1,z2,z3,r3];show(match staticsOk (importedModules p.main.body) (nr w.params) s.abs.heap&&namesBound p s.abs.heap&&gensDone s.abs&&laidKept (nr w.params) s.abs.heap with|true=>_|false=>_)=_;rw[l1]
 unfold openEnds;rw[e1];show(topFrom treeTable p w N _).map _=_;rw[t];exact congrArg some (BN l2 l3)
def recOf:i4->IZ
 |.FunctionDef n a b _ _ _ sc _ _ pos=>⟨n,a,b,sc,pos⟩
 |_=>⟨"",default,[],default,default⟩
end HD
lay_quick HD.bothT
end
section
namespace HD
open PySem PySem.W PySem.Calls PyProof.Rows
def oneA (s0:rp)(h0:jm)(m:Nat)(p:gl)(M:Nat)(w:ip):=
 (Ie treeTable p w m (some (.ref 6)) M s0 (topStub p)).map λs=>staticsOk (importedModules p.main.body) h0 s.abs.heap&&namesBound p s.abs.heap&&gensDone s.abs&&laidKept h0 s.abs.heap
def oneB (s0:rp)(m:Nat)(p q:gl)(loose:Za6)(M:Nat)(w:ip):=
 (Ie treeTable p w m (some (.ref 6)) M s0 (topStub p)).map λs=>openSeen q loose (importedModules p.main.body) (λ_=>true) true s.abs
def xI {α:Type}(Yf:ft->α)(s0:rp)(m:Nat)(p:gl)(M:Nat)(w:ip):=
 (Ie treeTable p w m (some (.ref 6)) M s0 (topStub p)).map λs=>Yf s.abs
theorem Ahf {α:Type}{Yf:ft->α}{s0:rp}{h0:jm}{m:Nat}{p q:gl}{loose:Za6}{M:Nat}{w:ip}{a:α}
  (hA:oneA s0 h0 m p M w=some true)(hB:oneB s0 m p q loose M w=some (openGood q loose))(hC:xI Yf s0 m p M w=some a) :
  bothT Yf s0 h0 m p q loose M w=some (true,openGood q loose,a):=by
 unfold oneA at hA;unfold oneB at hB;unfold xI at hC;unfold bothT oH;obtain⟨s,r,l⟩:=kx.mp hA;rw[r] at hB hC ⊢;have hB:=ee hB;have hC:=ee hC;exact congrArg some (BN l (BN hB hC))
theorem left_of3 {p q:gl}{loose:Za6}{α:Type}{Yf:ft->α}{Ya:ip->α}{M N:Nat}(e:opening p=plainProg p.main.scope.names)(f:∀s,fenceModules? p s=some s)(hN:DZ 600 N=true)(le:DZ M N=true)
  (hA:∀w:ip,(λos=>oneA (bootT w os) (nr w.params) bootSize p M w)=λ_=>some true)(hB:∀w:ip,(λos=>oneB (bootT w os) bootSize p q loose M w)=λ_=>some (openGood q loose))
  (hC:∀w:ip,(λos=>xI Yf (bootT w os) bootSize p M w)=λ_=>some (Ya w)):LeftO p q loose (λ_=>true) Yf Ya N:=
 Abi e f hN le λw=>funext λos=>Ahf (congrFun (hA w) os) (congrFun (hB w) os) (congrFun (hC w) os)
def gW (s:rp)(a:Nat):Option Obj:=match Nat.blt a s.n with
 |true=>(match s.tree.get a with
  |some o=>alive o
  |none=>none)
 |false=>none
theorem Aag {s:rp}{a:Nat}{o:Obj}(h:gW s a=some o):s.abs.heap.get? a=some o:=by
 unfold gW at h
 cases hb:Nat.blt a s.n with
 |false=>rw[hb] at h;cases h
 |true=>
  rw[hb] at h
  cases hg:s.tree.get a with
  |none=>rw[hg] at h;cases h
  |some u=>
   rw[hg] at h;have hlt:a<s.n:=by
    have:=BR hb;lia
   exact(abs_get hlt hg).trans h
theorem Uh {s:rp}:∀{as:Za4} {L:List (Option Obj)},(∀x∈L,x.isSome=true)->as.map (gW s)=L->as.map s.abs.heap.get?=L
 |[],L,_,e=>e
 |a::as,[],_,e=>by cases e
 |a::as,x::L,h,e=>by
  obtain⟨e1,e2⟩:=q0 e;obtain⟨o,ho⟩:=ln.mp (h x gr);subst ho;show s.abs.heap.get? a::as.map s.abs.heap.get?=_;rw[Aag e1,Uh (λy hy=>h y (gt _ hy)) e2]
def oneP (as ts:List eh)(s0:rp)(m:Nat)(p:gl)(M:Nat)(w:ip):=
 (Ie treeTable p w m (some (.ref 6)) M s0 (topStub p)).map λs=>(as.map (gW s),ts.map (gW s))
theorem hC_km {K:zu->FS}{as:List eh}{e:∀P,as=(K P).map (·.1)}{ts:List eh}{p:gl}{M:Nat}
  (h:∀w:ip,(λos=>oneP as ts (bootT w os) bootSize p M w)=λ_=>some ((K w.params).map λq=>some q.2,ts.map λ_=>some (tabObj #[]))) :
  ∀w:ip,(λos=>xI (kmHook K as e ts).obs (bootT w os) bootSize p M w)=λ_=>some ((kmHook K as e ts).val w):=λw=>funext λos=>by
 have h:=congrFun (h w) os;unfold oneP at h;unfold xI;obtain⟨s,r,l⟩:=kx.mp h;obtain⟨l1,l2⟩:=Prod.mk.inj l;rw[r];show some (as.map s.abs.heap.get?,ts.map s.abs.heap.get?)=some ((K w.params).map λq=>some q.2,ts.map λ_=>some (tabObj #[]));rw[Uh (λx hx=>by obtain⟨q,_,rfl⟩:=lq.mp hx;rfl) l1,Uh (λx hx=>by obtain⟨q,_,rfl⟩:=lq.mp hx;rfl) l2]
end HD
lay_quick HD.oneP
theorem HD.oneP_eq:@HD.oneP=@PySem.W.Fast.tw13831889492591282369:=PySem.W.Fast.te13831889492591282369
lay_quick HD.oneA
lay_quick HD.oneB
theorem HD.oneA_eq:@HD.oneA=@PySem.W.Fast.tw6247638121477898359:=PySem.W.Fast.te6247638121477898359
theorem HD.oneB_eq:@HD.oneB=@PySem.W.Fast.tw4394042064226896843:=PySem.W.Fast.te4394042064226896843
end
section
noncomputable def PySem.W.Fast.tw1589786009486756939:FA:=im
theorem PySem.W.Fast.te1589786009486756939:im=PySem.W.Fast.tw1589786009486756939:=rfl
noncomputable def HD.loose:List DM:=[ej "_wall",ej "WoodError",ej "NoBits",ej "NoPlace",ej "NoRow",ej "NoWood",ej "NoKnot",ej "NoOrder",ej "NoName",ej "NoFit",ej "is_whole",ej "is_within",ej "check_bit",ej "check_place",ej "check_stretch",ej "check_from_nought",ej "check_knot",ej "WORD_BITS",ej "FULL_WORD",ej "ONES_OF_FOUR",ej "ones_in",ej "nth_of_four",ej "nth_one",ej "MOST_BITS",ej "SIGNS_OF_FOUR",ej "is_row",ej "word_of",ej "words_of",ej "signs_of",ej "Bits",ej "BLOCK_WORDS",ej "BLOCK_BITS",ej "first_that",ej "running_sums",ej "table_of_words",ej "Counts",ej "begins_of",ej "check_order",ej "rounds_of",ej "shortcuts_of",ej "Shortcuts",ej "LETTERS",ej "MOST_LETTERS",ej "is_name",ej "check_name",ej "check_names",ej "stretches_of",ej "namesakes_above",ej "Named",ej "heights_of",ej "check_height",ej "Heights",ej "MOST_SIGNS_pairs",ej "STRETCH_BITS",ej "check_row",ej "Pairs",ej "MOST_KNOTS",ej "MOST_SIGNS_woods",ej "look_at",ej "row_of",ej "elders_of",ej "depths_of",ej "Wood",ej "Openings",ej "Opened",ej "_law_cell_at",ej "_law_whole",ej "_law_mixed",ej "_law_digits",ej "_law_wood",ej "_law_names",ej "_law_is_at",ej "_law_elder",ej "_law_list",ej "_law_one",ej "_law_good"]
def HD.LD:PySem.DefRec:=HD.recOf (im.main.body.getD 89 (.Pass ⟨0,0,0,0⟩))
def HD.VQ:FA:=PySem.W.view im [89]
theorem HD.A_ok (w:GB):(λos=>HD.oneA (HD.bootT w os) (PySem.W.boot_heap w.params) HD.bootSize im 100000 w)=(λ_=>some true):=by rw[HD.oneA_eq];kernel_rfl
theorem HD.B_ok (w:GB):(λos=>HD.oneB (HD.bootT w os) HD.bootSize im HD.VQ HD.loose 100000 w)=(λ_=>some (PySem.W.openGood HD.VQ HD.loose)):=by rw[HD.oneB_eq];kernel_rfl
end
local macro_rules|`(tactic|lia)=>`(tactic|first|lia (splits := 9)|omega)
local macro_rules|`(())=>do OG;`(by lia)
local macro_rules|`($x.$i:fieldIdx)=>do
 let n:=i.raw.isFieldIdx?.getD 0
 if n<5 then Lean.Macro.throwUnsupported
 `(($x).$(Lean.mkIdent (.mkSimple ("heap toArray toList size length".splitOn " ")[n-5]!)))
open Lean in
local macro_rules (kind:=«term{_}»)|s=>do OG;return mkNode ``Parser.Term.anonymousCtor #[mkAtom "⟨",s[1],mkAtom "⟩"]
section
set_option hygiene false in
local macro_rules | `(tactic| k_in)=>`(tactic| intro pins s G H Q I h)
set_option hygiene false in
local macro_rules | `(tactic| k_end)=>`(tactic| intro pins s G H D I h)
local macro_rules | `(tactic| k_cls)=>`(tactic| (constructor<;>first | rfl | decide +kernel))
namespace _L
theorem cpZ{G:Prop}(h:∀X:Prop,(G->X)->X):G:=h G id
open PySem PySem.Spec PyProof.Rows
variable {C CB CC CO CP Pt dx i1 i2 it l1 l2:eh} {params:nu} {A:i9} {op:w6} {X:Cx} {D:Jb} {env:Env} {tg:ja} {fd:jx} {base h h':jm} {H H' H0 H1 H2:Hp} {J:It} {pins:Za1} {as fp:List eh} {ns ws:List Int} {cs ix:Za4} {N QR kz nm ps:Za6} {xs ys:List V} {us vs:Za3} {M:xx} {d n t':Nat} {oT:Obj} {an od:Option eh} {lpos pos pos2:Pos} {sc scope QQ:oq} {pl:Sem Bool} {s:ft} {sp:Sp} {fr:St} {qual z:Str} {te:TE} {wi:TI} {y:V} {cdv ct doc oc pm:fj} {w:ip}
abbrev Key:=Sum Int Str
def Zx:Key->fj->Bool
 |.inl k,v=>FZ k v
 |.inr x,v=>EY x v
def Aiw (w:ip):Key->Int
 |.inl k=>hashInt k
 |.inr x=>hashStr w x
theorem Cq:∀{k:Key} {v:fj},Zx k v=KJ->(∃i t,k=vj i/\v=o6 i t)\/(∃x t,k=wy x/\v=ql x t)
 |.inl i,v,h=>by
  obtain⟨t,e⟩:=Value.isInt_shape (k:=i) (v:=v) h;exact .inl ⟨i,t,rfl,e⟩
 |.inr x,v,h=>by
  obtain⟨t,e⟩:=Value.isStrOf_shape (x:=x) (v:=v) h;exact .inr ⟨x,t,rfl,e⟩
theorem uC (i:Int)(t:Tok):Zx (.inl i) (.int i t)=KJ:=by simp[Zx,FZ]
theorem sT (x:Str)(t:Tok):Zx (.inr x) (.str x t)=KJ:=by simp[Zx,EY]
theorem Aeh (a b:Int):decide ((vj a:Key)=vj b)=(a==b):=by
 by_cases e:a=b
 .subst e;simp
 .have h:¬(vj a:Key)=vj b:=λq=>e (Sum.inl.inj q)
  rw[decide_eq_false h];exact(beq_eq_false_iff_ne.mpr e).symm
theorem Afo (a b:Str):decide ((wy a:Key)=wy b)=decide (a=b):=by
 by_cases e:a=b
 .subst e;simp
 .have h:¬(wy a:Key)=wy b:=λq=>e (vi q)
  rw[decide_eq_false h,decide_eq_false e]
theorem Aef (a:Int)(b:Str):decide ((vj a:Key)=wy b)=KL:=decide_eq_false (λq=>nomatch q)
theorem Aff (a:Str)(b:Int):decide ((wy a:Key)=vj b)=KL:=decide_eq_false (λq=>nomatch q)
def Be (prog:gl)(w:ip):PySem.KeyKind prog w Key where
 is:=Zx
 hash:=Aiw w
 inj:=λv a b ha hb=>by
  rcases Cq ha with⟨i,t,rfl,rfl⟩|⟨x,t,rfl,rfl⟩
  .rcases Cq hb with⟨j,u,rfl,e⟩|⟨y,u,rfl,e⟩
   .injection e with e1 _;rw[e1]
   .exact nomatch e
  .rcases Cq hb with⟨j,u,rfl,e⟩|⟨y,u,rfl,e⟩
   .exact nomatch e
   .injection e with e1 _;rw[e1]
 byValue:=λk v h=>by
  rcases Cq h with⟨i,t,rfl,rfl⟩|⟨x,t,rfl,rfl⟩<;>rfl
 pyHash:=λhv h=>by
  rcases Cq hv with⟨i,t,rfl,rfl⟩|⟨x,t,rfl,rfl⟩
  .exact wpAny_pyHash_int h
  .exact wpAny_pyHash_str h
 eqBool:=λhu hv h=>by
  rcases Cq hu with⟨i,t,rfl,rfl⟩|⟨x,t,rfl,rfl⟩
  .rcases Cq hv with⟨j,u,rfl,rfl⟩|⟨y,u,rfl,rfl⟩
   .rw[Aeh] at h;exact wpAny_eqBool_int h
   .rw[Aef] at h;exact z5 i t y u _ _ _ _ h
  .rcases Cq hv with⟨j,u,rfl,rfl⟩|⟨y,u,rfl,rfl⟩
   .rw[Aff] at h;exact z0 x t j u _ _ _ _ h
   .rw[Afo] at h;exact wpAny_eqBool_str h
 «strs»:=λk x t v h=>by
  rcases Cq h with⟨i,u,rfl,e⟩|⟨y,u,rfl,e⟩
  .exact nomatch e
  .injection e with e1 _
   subst e1;cases v<;>rfl
theorem Ld (prog:gl)(w:ip)(i:Int)(t:Tok):(Be prog w).is (.inl i) (.int i t)=KJ:=uC i t
theorem R9 (prog:gl)(w:ip)(x:Str)(t:Tok):(Be prog w).is (.inr x) (.str x t)=KJ:=sT x t
inductive V where
 |non|bl (b:Bool)|int (i:Int)|str (x:Str)|byt (b:Array UInt8)|flt (b:UInt64)|ref (a:eh)|ty (n:String)
 deriving DecidableEq
def A8:V->fj->Prop
 |.non,u=>u=tj
 |.bl b,u=>u=zc b
 |.int i,u=>∃t,u=o6 i t
 |.str x,u=>∃t,u=ql x t
 |.byt b,u=>∃t,u=GA b t
 |.flt b,u=>∃t,u=BF b t
 |.ref a,u=>u=jc a
 |.ty n,u=>u=kj n
abbrev Ax:List V->Za3->Prop:=zw A8
theorem Ax.length (r:Ax xs us):xs.9=us.9:=EQ r
theorem Ax.get:∀{xs:List V} {us:Za3} {i:Nat} {x:V},Ax xs us->xs[i]?=KH x->∃u,us[i]?=KH u/\A8 x u
 |_,_,_,_,.nil,e=>by simp at e
 |_,_,0,_,.cons r _,e=>by simp at e;subst e;exact{_,rfl,r}
 |_,_,i+1,x,.cons _ t,e=>by
  obtain⟨u,h1,h2⟩:=Ax.get (i:=i) (x:=x) t (by simpa using e);exact{u,by simpa using h1,h2}
theorem Ax.set {x:V}{u:fj}(r:A8 x u):∀{xs:List V} {us:Za3} (i:Nat),Ax xs us->Ax (xs.set i x) (us.set i u)
 |_,_,_,.nil=>.nil
 |_,_,0,.cons _ t=>.cons r t
 |_,_,i+1,.cons q t=>.cons q (Ax.set r i t)
theorem Ax.append:∀{xs ys:List V} {us ws:Za3},Ax xs us->Ax ys ws->Ax (xs++ys) (us++ws)
 |_,_,_,_,.nil,s=>s
 |_,_,_,_,.cons r t,s=>.cons r (Ax.append t s)
theorem Ax.take:∀{xs:List V} {us:Za3} (n:Nat),Ax xs us->Ax (xs.take n) (us.take n)
 |_,_,0,_=>.nil
 |_,_,_+1,.nil=>.nil
 |_,_,n+1,.cons r t=>.cons r (Ax.take n t)
theorem Ax.drop:∀{xs:List V} {us:Za3} (n:Nat),Ax xs us->Ax (xs.drop n) (us.drop n)
 |_,_,0,r=>r
 |_,_,_+1,.nil=>.nil
 |_,_,n+1,.cons _ t=>Ax.drop n t
def Oe:Option V->Za7->Prop
 |some v,KH u=>A8 v u
 |none,KI=>True
 |_,_=>False
def KV {κ:Type}:List (κ×V)->List (κ×fj)->Prop:=zw λ(p:κ×V) (q:κ×fj)=>p.1=q.1/\A8 p.2 q.2
def kV:Key->V
 |.inl i=>.int i
 |.inr x=>.str x
inductive HO where
  |lst (xs:List V)
  |tup (xs:List V)
  |dK (kvs:List (Key×V))|dT (kvs:List (List Key×V))
  |set (S:Int->Bool) (n:Nat)
  |ins (C dx:eh) (fs:List (Str×V))
  |own (x:eh)
  |xd (fs:List (Str×V))
  |met (f x:eh)
  |rng (lo hi:Int)
  |frz (o:Obj) (u:HO)
  |tbl (ps:Array fj)
  |ext (φ:jm->Prop)
abbrev Hp:=eh->Option HO
def upd (H:Hp)(a:eh)(o:HO):Hp:=λb=>if b=a then KH o else H b
theorem Af {H:Hp}{a:eh}{o:HO}:upd H a o a=KH o:=by unfold upd;rw[if_pos rfl]
theorem Al {a b:eh}{o:HO}(h:b≠a):upd H a o b=H b:=by unfold upd;rw[if_neg h]
theorem Tm {a:eh}{o u:HO}:upd (upd H a o) a u=upd H a u:=by
 funext b;unfold upd;split<;>rfl
theorem Ih {a b:eh}{o u:HO}(h:H a=KH o)(h':H b=KH u)(d:o≠u):a≠b:=by
 intro e;subst e;rw[h] at h';exact d (ee h')
theorem Aj {a b:eh}{o:HO}(h:H a=KH o)(h':H b=KI):a≠b:=by
 intro e;subst e;rw[h] at h';cases h'
section
variable (P:gl) (w:ip)
def Ct (H:Hp)(h:jm)(a:eh):HO->Prop
 |.lst xs=>xs.9<=sizeLine/\∃(its:Za3) (n:Nat),Ax xs its/\h.get? a=KH { cls:=.type "list",data:=.seq its.6 n }
 |.tup xs=>xs.9<=sizeLine/\∃its:Za3,Ax xs its/\IsTup h a its.6
 |.dK kvs=>kvs.9<=sizeLine/\(a==sysModules)=KL/\∃vs,KV kvs vs/\h.DictOf (Be P w) a vs
 |.dT kvs=>kvs.9<=sizeLine/\(a==sysModules)=KL/\∃xs:List (List Key×eh×fj),
   zw (λ(p:List Key×V) (q:List Key×eh×fj)=>p.1=q.1/\H q.2.1=KH (.tup (p.1.map kV))/\A8 p.2 q.2.2) kvs xs /\
   ∃o es ep,h.get? a=KH o/\o.ExactDict/\o.data=.dict es ep/\es.7=xs.map (entryOfKey (tupleKind (Be P w)))/\(xs.map (·.1)).Nodup
 |.set S n=>h.SetOf (intKind P w) a S n
 |.ins C dx fs=>H dx=KH (.own a)/\fs.9<=1000/\dx≠a/\h.get? a=KH (instObj C dx) /\
   ∃mA,h.Ns1 dx mA/\(∀f,Oe (fs.lookup f) (mA f))/\AG mA (fs.map (·.1))
 |.own _=>∃o,h.get? a=KH o
 |.xd fs=>∃mA,h.Ns1 a mA/\∀f,Oe (fs.lookup f) (mA f)
 |.rng lo hi=>∃t u v,h.get? a=KH { cls:=.type "range",data:=.fields #[.int lo t,.int hi u,.int 1 v] }
 |.frz o u=>h.get? a=KH o/\Ct H h a u
 |.tbl ps=>h.get? a=KH { cls:=.none,data:=.fields ps }
 |.met f x=>h.get? a=KH (w9 (.ref f) (.ref x))
 |.ext φ=>φ h/\(∃o,h.get? a=KH o)/\∀h1 h2:jm,φ h1->(∀o,h1.get? a=KH o->h2.get? a=KH o)->φ h2
def HOk (H:Hp)(h:jm):Prop:=∀a o,H a=KH o->Ct P w H h a o
end
section
variable {P:gl} {w:ip} {H H':Hp} {h h':jm} {a:eh} {o:HO}
theorem Ct.lt (x:Ct P w H h a o):a<h.objs.8:=by
 cases o with
 |lst xs=>obtain⟨_,_,_,_,e⟩:=x;exact fu e
 |tup xs=>obtain⟨_,_,_,p⟩:=x;exact p.lt
 |dK kvs=>obtain⟨_,_,_,_,o,_,_,e,_⟩:=x;exact fu e
 |dT kvs=>obtain⟨_,_,_,_,o,_,_,e,_⟩:=x;exact fu e
 |set S n=>obtain⟨o,_,_,_,e,_⟩:=x;exact fu e
 |ins C dx fs=>obtain⟨_,_,_,e,_⟩:=x;exact fu e
 |own y=>obtain⟨_,e⟩:=x;exact fu e
 |xd fs=>obtain⟨_,⟨_,_,_,e,_⟩,_⟩:=x;exact fu e
 |rng lo hi=>obtain⟨_,_,_,e⟩:=x;exact fu e
 |frz ob u=>obtain⟨e,_⟩:=x;exact fu e
 |tbl ps=>exact fu (show h.get? a=KH _ from x)
 |met f y=>exact fu (show h.get? a=KH _ from x)
 |ext φ=>obtain⟨_,⟨_,e⟩,_⟩:=x;exact fu e
theorem zw.mapP {α β:Type}{F G:α->β->Prop}:∀{XH:List α} {XI:List β},zw F XH XI->(∀a b,F a b->G a b)->zw G XH XI
 |_,_,.nil,_=>.nil
 |_,_,.cons r t,f=>.cons (f _ _ r) (zw.mapP t f)
theorem Ct.stay (x:Ct P w H h a o)(k:∀b u,(b=a\/H b=KH (.own a))->h.get? b=KH u->h'.get? b=KH u)
  (ho:∀b,H b=KH (.own a)->H' b=KH (.own a))(ht:∀b xs,H b=KH (.tup xs)->H' b=KH (.tup xs)):Ct P w H' h' a o:=by
 induction o with
 |lst xs=>obtain⟨z,its,n,r,e⟩:=x;exact{z,its,n,r,k _ _ (.inl rfl) e}
 |tup xs=>obtain⟨z,its,r,ob,e,c⟩:=x;exact{z,its,r,ob,k _ _ (.inl rfl) e,c}
 |dK kvs=>obtain⟨z,y,vs,r,ob,es,ep,e,c⟩:=x;exact{z,y,vs,r,ob,es,ep,k _ _ (.inl rfl) e,c}
 |dT kvs=>
  obtain⟨z,y,xs,r,ob,es,ep,e,c⟩:=x;exact{z,y,xs,zw.mapP r λp q z=>{z.1,ht _ _ z.2.1,z.2.2},ob,es,ep,k _ _ (.inl rfl) e,c}
 |set S n=>obtain⟨ob,es,ep,t,e,c⟩:=x;exact{ob,es,ep,t,k _ _ (.inl rfl) e,c}
 |ins C dx fs=>
  obtain⟨d,z,ne,e,mA,⟨od,es,ep,e2,c⟩,r⟩:=x;exact{ho _ d,z,ne,k _ _ (.inl rfl) e,mA,{od,es,ep,k _ _ (.inr d) e2,c},r}
 |own y=>obtain⟨ob,e⟩:=x;exact{ob,k _ _ (.inl rfl) e}
 |xd fs=>obtain⟨mA,⟨od,es,ep,e,c⟩,r⟩:=x;exact{mA,{od,es,ep,k _ _ (.inl rfl) e,c},r}
 |rng lo hi=>obtain⟨t,u,v,e⟩:=x;exact{t,u,v,k _ _ (.inl rfl) e}
 |frz ob u ih=>obtain⟨e,q⟩:=x;exact{k _ _ (.inl rfl) e,ih q}
 |tbl ps=>
  have e:h.get? a=KH { cls:=.none,data:=.fields ps }:=x;show h'.get? a=KH { cls:=.none,data:=.fields ps };exact k a _ (.inl rfl) e
 |met f y=>
  have e:h.get? a=KH (w9 (.ref f) (.ref y)):=x;show h'.get? a=KH (w9 (.ref f) (.ref y));exact k a _ (.inl rfl) e
 |ext φ=>obtain⟨p,⟨o,e⟩,st⟩:=x;exact{st _ _ p λo q=>k _ _ (.inl rfl) q,{o,k _ _ (.inl rfl) e},st}
theorem HOk.lt (x:HOk P w H h)(e:H a=KH o):a<h.objs.8:=(x a o e).lt
theorem HOk.fresh (x:HOk P w H h)(e:h.objs.8<=a):H a=KI:=by
 cases q:H a with
 |none=>rfl
 |some u=>exact absurd (fv (x.lt q) e) (l8 _)
theorem HOk.kept (x:HOk P w H h)(k:∀b u,h.get? b=KH u->h'.get? b=KH u):HOk P w H h':=λa o e=>
 (x a o e).stay (λb u _ q=>k b u q) (λ_ q=>q) λ_ _ q=>q
theorem HOk.laid (x:HOk P w H h)(k:∀b u,h.get? b=KH u->h'.get? b=KH u)(hp:h.objs.8<=a)(new:Ct P w (upd H a o) h' a o):HOk P w (upd H a o) h':=λb u e=>by
 have hn:=x.fresh hp
 by_cases hb:b=a
 .subst hb;rw[Af] at e;cases e;exact new
 .rw[Al hb] at e
  exact(x b u e).stay (λc v _ q=>k c v q) (λc q=>by rw[Al (Aj q hn)];exact q) λc xs q=>by rw[Al (Aj q hn)];exact q
end
def Rd (H:Hp)(a:eh)(u:HO):Prop:=H a=KH u\/∃o,H a=KH (.frz o u)
theorem Rd.ok {P:gl}{a:eh}{u:HO}(r:Rd H a u)(x:HOk P w H h):Ct P w H h a u:=by
 rcases r with r|⟨o,r⟩
 .exact x a u r
 .obtain⟨_,q⟩:=x a _ r
  exact q
def Mut:Option HO->Prop
 |some (.lst _)=>True
 |some (.dK _)=>True
 |some (.dT _)=>True
 |some (.set _ _)=>True
 |some (.ins _ _ _)=>True
 |some (.ext _)=>True
 |_=>False
section
variable {P:gl} {w:ip} {H:Hp} {h h':jm} {x e:eh} {o':HO}
theorem HOk.write (ok:HOk P w H h)(mu:Mut (H x))(he:e=x\/H e=KH (.own x))(k:∀b u,b≠e->h.get? b=KH u->h'.get? b=KH u)(heo:∃u,h'.get? e=KH u)
  (new:Ct P w (upd H x o') h' x o'):HOk P w (upd H x o') h':=λb u q=>by
 have nown:∀c y,H c=KH (.own y)->c≠x:=λc y r z=>by subst z;rw[r] at mu;exact mu
 have ntup:∀c xs,H c=KH (.tup xs)->c≠x:=λc xs r z=>by subst z;rw[r] at mu;exact mu
 by_cases hb:b=x
 .subst hb;rw[Af] at q;cases q;exact new
 .rw[Al hb] at q
  by_cases hbe:b=e
  .have q':H b=KH (.own x):=by
    rcases he with z|z
    .exact absurd (hbe.trans z) hb
    .rw[hbe];exact z
   rw[q] at q';cases q';obtain⟨v,hv⟩:=heo;exact{v,by rw[hbe];exact hv}
  .refine(ok b u q).stay (λc v hc r=>k c v ?_ r) (λc r=>by rw[Al (nown c b r)];exact r) λc xs r=>by rw[Al (ntup c xs r)];exact r
   rcases hc with rfl|hc
   .exact hbe
   .rintro rfl
    rcases he with z|z
    .exact nown c b hc z
    .rw[hc] at z;cases z;exact hb rfl
end
structure Un (fs ex:List eh) (H H':Hp) (h h':jm):Prop where
 keep:∀b o,h.get? b=KH o->H b=KI->b∉fs->b∉ex->h'.get? b=KH o
 slot:∀b o,h.get? b=KH o->H b=KI->b∈fs->b∉ex->∃sl,h'.get? b=KH { o with slots:=sl }
 free:∀b o,h.get? b=KH o->H b=KI->b∉ex->H' b=KI
 there:∀b o,h.get? b=KH o->b∉ex->∃o',h'.get? b=KH o'
 tups:∀b xs,H b=KH (.tup xs)->H' b=KH (.tup xs)
 frzs:∀b o u,H b=KH (.frz o u)->H' b=KH (.frz o u)
 tbls:∀b ps,H b=KH (.tbl ps)->∃more,H' b=KH (.tbl (ps++more))
section
variable {fs fs' ex ex':List eh} {H H1 H2:Hp} {h h1 h2 h':jm} {a x e:eh} {o:HO}
theorem Un.any (u:Un fs ex H H1 h h1){b:eh}{ob:Obj}(q:h.get? b=KH ob)(n:H b=KI)(hx:b∉ex):∃sl,h1.get? b=KH { ob with slots:=sl }:=by
 by_cases hb:b∈fs
 .exact u.slot b ob q n hb hx
 .exact{ob.slots,u.keep b ob q n hb hx}
theorem Un.trans (a:Un fs ex H H1 h h1)(b:Un fs ex H1 H2 h1 h2):Un fs ex H H2 h h2 where
 keep:=λc ob q n hc hx=>b.keep c ob (a.keep c ob q n hc hx) (a.free c ob q n hx) hc hx
 slot:=λc ob q n hc hx=>by
  obtain⟨sl,e1⟩:=a.slot c ob q n hc hx;obtain⟨sl',e2⟩:=b.slot c _ e1 (a.free c ob q n hx) hc hx;exact⟨sl',e2⟩
 free:=λc ob q n hx=>by
  obtain⟨o',e1⟩:=a.there c ob q hx;exact b.free c o' e1 (a.free c ob q n hx) hx
 there:=λc ob q hx=>by
  obtain⟨o',e1⟩:=a.there c ob q hx;exact b.there c o' e1 hx
 tups:=λc xs q=>b.tups c xs (a.tups c xs q)
 frzs:=λc ob xs q=>b.frzs c ob xs (a.frzs c ob xs q)
 tbls:=λc ps q=>by
  obtain⟨m1,e1⟩:=a.tbls c ps q;obtain⟨m2,e2⟩:=b.tbls c _ e1;exact{m1++m2,by rw[e2,CT]}
theorem Un.kept (k:∀b u,h.get? b=KH u->h'.get? b=KH u):Un fs ex H H h h':=
 {λb ob q _ _ _=>k b ob q,λb ob q _ _ _=>{ob.slots,k b ob q},λ_ _ _ n _=>n,λb ob q _=>{ob,k b ob q},λ_ _ q=>q,λ_ _ _ q=>q,λ_ ps q=>{#[],by rw[q];simp}}
theorem Un.refl:Un fs ex H H h h:=Un.kept λ_ _ q=>q
theorem Un.laid (k:∀b u,h.get? b=KH u->h'.get? b=KH u)(hp:h.objs.8<=a)(hn:H a=KI):Un fs ex H (upd H a o) h h' where
 keep:=λb u q _ _ _=>k b u q
 slot:=λb u q _ _ _=>{u.slots,k b u q}
 free:=λb u q n _=>by rw[Al (gw (fv (fu q) hp))];exact n
 there:=λb u q _=>{u,k b u q}
 tups:=λb xs q=>by rw[Al (Aj q hn)];exact q
 frzs:=λb u xs q=>by rw[Al (Aj q hn)];exact q
 tbls:=λb ps q=>{#[],by rw[Al (Aj q hn),q];simp}
theorem Un.write (mu:Mut (H x))(he:e=x\/H e=KH (.own x))(k:∀b u,b≠e->h.get? b=KH u->h'.get? b=KH u)(heo:∃u,h'.get? e=KH u):Un fs ex H (upd H x o) h h':=by
 have hx:∀b,H b=KI->b≠x:=λb n z=>by subst z;rw[n] at mu;exact mu
 have hb:∀b,H b=KI->b≠e:=λb n z=>by
  subst z;rcases he with r|r
  .exact hx b n r
  .rw[n] at r;cases r
 have hm:∀b u,H b=KH u->¬ Mut (KH u)->b≠x:=λb u q nm z=>by subst z;rw[q] at mu;exact nm mu
 refine⟨λb u q n _ _=>k b u (hb b n) q,λb u q n _ _=>{u.slots,k b u (hb b n) q},λb u q n _=>by rw[Al (hx b n)];exact n,λb u q _=>?_,
  λb xs q=>by rw[Al (hm b _ q λz=>z)];exact q,λb u xs q=>by rw[Al (hm b _ q λz=>z)];exact q,λb ps q=>{#[],by rw[Al (hm b _ q λz=>z),q];simp}⟩
 by_cases hbe:b=e
 .subst hbe;exact heo
 .exact{u,k b u hbe q}
end
def trk (h:jm)(H:Hp):List eh:=(fb h.objs.8).filter λa=>(H a).isSome
def fU (h:jm)(H:Hp):jm:=PySem.W.hideAll h (trk h H)
theorem sW (h:jm)(H:Hp):(fU h H).objs.size=h.objs.8:=PySem.W.hideAll_size _ _
theorem Vu {b:eh}{o:Obj}(e:h.get? b=KH o)(n:H b=KI):(fU h H).get? b=KH o:=
 PySem.W.hideAll_get _ e λhm=>by
  have q:(H b).isSome=KJ:=(vq.mp hm).2;rw[n] at q;simp at q
theorem Abm {b:eh}{o:Obj}(e:(fU h H).get? b=KH o):h.get? b=KH o/\H b=KI:=by
 have e':h.get? b=KH o:=PySem.W.of_hideAll (trk h H) e;refine{e',?_}
 cases q:H b with
 |none=>rfl
 |some x=>
  have hm:b∈trk h H:=vq.mpr {jo.mpr (fu e'),by simp[q]};have z:(fU h H).get? b=KI:=PySem.W.hideAll_none (trk h H) hm;rw[z] at e;cases e
structure Mod (K:d6) (mg:Za2) (base:jm):Prop where
 kin:K.In base
 glob:base.Ns mainGlobals mg
 blt:∃mb,base.Ns builtinsNs mb/\∀x:Str,x≠"__name__"->mb x=bootBuiltins x
 nolimit:base.NoLimit
structure Cx where
 prog:gl
 w:ip
 K:d6
 mg:Za2
 base:jm
 A:i9
 N:Za6
 QP:ft
 QZ:Hp
 env:Env
 outer:List Env
 stack:List Env
 ex:List eh
 fn:Str->Bool
 calm:Bool
 pn:Za1
 xe:Za0
def frs (l:List Env):List eh:=l.filterMap (·.frame)
abbrev Cx.fs (X:Cx):List eh:=frs X.outer
def Vis (sc:oq)(x:Str):Prop:=sc.names.lookup x=KH .local\/sc.names.lookup x=KH .cell\/sc.names.lookup x=KH .free
def Loc (sc:oq)(x:Str):Prop:=sc.names.lookup x=KH .local\/sc.names.lookup x=KH .cell
def Ajb (env:Env)(h:jm)(m:Za2)(x:Str)(u:fj):Prop:=
 (env.kindOf x=KH .local/\m x=KH u)\/((env.kindOf x=KH .cell\/env.kindOf x=KH .free)/\∃c,env.cells.lookup x=KH c/\h.IsCell c (KH u))
structure Cx.Ok (X:Cx):Prop where
 mod:Mod X.K X.mg X.base
 kind:X.env.scope.kind=.function
 glob:X.env.globals=mainGlobals
 blt:X.env.builtins=builtinsNs
 above:X.QP.heap.objs.8<=X.env.locals
 inj:∀x y c,X.env.cells.lookup x=KH c->X.env.cells.lookup y=KH c->x=y
 has:∀x,(X.env.kindOf x=KH .cell\/X.env.kindOf x=KH .free)->∃c,X.env.cells.lookup x=KH c
 cab:∀x c,X.fn x=KJ->X.env.cells.lookup x=KH c->X.QP.heap.objs.8<=c
 hd:X.calm=KJ->X.A.handled=KI
 frames:X.A.frames=KH X.stack
 stk:X.stack=X.outer\/(X.stack=X.env::X.outer/\X.env.frame=KH X.env.locals)
 exf:∀b∈X.ex,b≠X.env.locals/\∀x c,X.env.cells.lookup x=KH c->c≠b
 bs:∀b o,X.base.get? b=KH o->X.QP.heap.get? b=KH o/\X.QZ b=KI
 bsz:X.base.objs.8<=X.QP.heap.objs.8
 noex:∀b o,X.base.get? b=KH o->b∉X.ex
 exfs:∀b∈X.ex,b∉X.fs
 funs:X.QP.heap.FunFrames X.base X.outer
 frf:∀b∈X.fs,X.QZ b=KI
structure Inv (X:Cx) (pins:Za1) (G:List (Option V)) (H:Hp) (s:ft):Prop where
 ok:X.Ok
 os:s.os=X.QP.os
 bare:wv s.gens
 base:Un X.fs X.ex X.QZ H X.QP.5 s.5
 loc:∃m,s.heap.Ns X.env.locals m/\∀(i:Nat) (x:Str) (v:V),X.N[i]?=KH x->G[i]?=KH (KH v)->Vis X.env.scope x->∃u,A8 v u/\Ajb X.env s.5 m x u
 cell:∀x c,X.env.cells.lookup x=KH c->∃v,s.heap.IsCell c v
 free:H X.env.locals=KI
 freeC:∀x c,X.env.cells.lookup x=KH c->H c=KI
 pin:∀p∈X.pn++pins,s.heap.get? p.1=KH p.2/\H p.1=KI/\p.1≠X.env.locals/\p.1∉X.fs/\∀v,p.2.data≠.cell v
 hok:HOk X.prog X.w H s.5
 len:G.9=X.N.9
section
variable {X:Cx} {pins:Za1} {G:List (Option V)} {H H':Hp} {s:ft} {h':jm}
theorem Cx.Ok.nofr (ok:X.Ok){b:eh}{o:Obj}(e:X.base.get? b=KH o):b∉X.fs:=λhb=>by
 have:=(ok.funs.mem hb).1;rw[e] at this;cases this
theorem Inv.bs (I:Inv X pins G H s):∀b o,X.base.get? b=KH o->s.heap.get? b=KH o/\H b=KI:=λb o e=>
 {I.base.keep b o (I.ok.bs b o e).1 (I.ok.bs b o e).2 (I.ok.nofr e) (I.ok.noex b o e),I.base.free b o (I.ok.bs b o e).1 (I.ok.bs b o e).2 (I.ok.noex b o e)}
theorem Inv.bk (I:Inv X pins G H s):∀b o,X.base.get? b=KH o->s.heap.get? b=KH o:=λb o e=>(I.bs b o e).1
theorem Inv.mod (I:Inv X pins G H s):Mod X.K X.mg X.base:=I.ok.mod
theorem Inv.kIn (I:Inv X pins G H s):X.K.In s.5:=I.ok.mod.kin.keeps I.bk
theorem Inv.lt (I:Inv X pins G H s):X.env.locals<s.heap.objs.8:=let ⟨_,hn,_⟩:=I.loc;hn.lt
theorem Inv.sz (I:Inv X pins G H s):X.QP.heap.objs.8<=s.heap.objs.8:=iy I.ok.above (f9 I.lt)
theorem Inv.nofs (I:Inv X pins G H s){a:eh}(h:s.heap.objs.8<=a):a∉X.fs:=λhb=>by
 obtain⟨_,o,ho,_⟩:=I.ok.funs.mem hb;exact absurd (fv (fu ho) (iy I.sz h)) (l8 _)
theorem Inv.cne (I:Inv X pins G H s):∀x c,X.env.cells.lookup x=KH c->c≠X.env.locals:=λx c e z=>by
 obtain⟨v,o,ho,hd⟩:=I.cell x c e;obtain⟨m,⟨o',es,ep,ho',hd',_⟩,_⟩:=I.loc;rw[z,ho'] at ho;cases ho;rw[hd'] at hd;cases hd
theorem Inv.funs (I:Inv X pins G H s):s.heap.FunFrames X.base X.outer:=by
 have all:∀(l:List Env),(∀b∈frs l,b∈X.fs)->X.QP.heap.FunFrames X.base l->s.heap.FunFrames X.base l:=by
  intro l
  induction l with
  |nil=>intro _ _;trivial
  |cons env r ih=>
   intro hs hl;obtain⟨hk,⟨L,o,hf,hn,ho,hd⟩,hr⟩:=hl;have hL:L∈X.fs:=hs L (by unfold frs;rw[lg,hf];exact gr);obtain⟨sl,e⟩:=I.base.slot L o ho (I.ok.frf L hL) hL λz=>I.ok.exfs L z hL;exact{hk,{L,_,hf,hn,e,hd},ih (λb hb=>hs b (by unfold frs;rw[lg,hf];exact gt _ hb)) hr}
 exact all X.outer (λ_ hb=>hb) I.ok.funs
theorem Inv.stack (I:Inv X pins G H s):s.heap.FunFrames X.base X.stack:=by
 rcases I.ok.stk with e|⟨e,hf⟩
 .rw[e];exact I.funs
 .rw[e]
  obtain⟨m,hn,_⟩:=I.loc;refine .cons (by rw[I.ok.kind];decide) hf hn ?_ I.funs;exact BZ (iy I.ok.bsz I.ok.above)
theorem Inv.stkSub (I:Inv X pins G H s):∀b∈frs X.stack,b∈X.env.locals::X.fs:=λb hb=>by
 rcases I.ok.stk with e|⟨e,hf⟩
 .rw[e] at hb;exact gt _ hb
 .rw[e] at hb
  unfold frs at hb;rw[lg,hf] at hb;exact hb
theorem Inv.stkFree (I:Inv X pins G H s):∀b∈frs X.stack,H b=KI:=λb hb=>by
 rcases ir.mp (I.stkSub b hb) with e|hb
 .rw[e];exact I.free
 .obtain⟨_,o,ho,_⟩:=I.ok.funs.mem hb
  exact I.base.free b o ho (I.ok.frf b hb) λz=>I.ok.exfs b z hb
theorem Inv.step {g':Array IX}{d':Drawn}{ch:List eh}(I:Inv X pins G H s)
  (hch:∀b∈ch,(b∈X.ex\/X.QP.heap.objs.8<=b)/\b≠X.env.locals/\(∀x c,X.env.cells.lookup x=KH c->c≠b)/\∀p∈X.pn++pins,p.1≠b)
  (keep:∀b o,b≠X.env.locals->b∉X.fs->b∉ch->s.heap.get? b=KH o->H b=KI->h'.get? b=KH o)
  (slot:∀b o,b≠X.env.locals->b∈X.fs->b∉ch->s.heap.get? b=KH o->H b=KI->∃sl,h'.get? b=KH { o with slots:=sl })(free:∀b o,b∉ch->s.heap.get? b=KH o->H b=KI->H' b=KI)
  (there:∀b o,b∉ch->s.heap.get? b=KH o->∃o',h'.get? b=KH o')
  (tups:∀b xs,H b=KH (.tup xs)->H' b=KH (.tup xs))(frzs:∀b o u,H b=KH (.frz o u)->H' b=KH (.frz o u))(tbls:∀b ps,H b=KH (.tbl ps)->∃more,H' b=KH (.tbl (ps++more)))
  (ns:∀m,s.heap.Ns X.env.locals m->h'.Ns X.env.locals m)(hok:HOk X.prog X.w H' h')(hg:wv g') :
  Inv X pins G H' { s with heap:=h',gens:=g',drawn:=d',toks:=t' }:=by
 have neL:∀b o,X.QP.heap.get? b=KH o->b≠X.env.locals:=λb o e=>gw (fv (fu e) I.ok.above);have neC:∀b o,X.QP.heap.get? b=KH o->b∉X.ex->b∉ch:=λb o e hx hb=>by
  rcases(hch b hb).1 with z|z
  .exact hx z
  .exact absurd (fv (fu e) z) (l8 _)
 have cellK:∀x c,X.env.cells.lookup x=KH c->∀v,s.heap.IsCell c v->h'.IsCell c v:=λx c e v ⟨o,ho,hd⟩=>by
  have nch:c∉ch:=λz=>(hch c z).2.2.1 x c e rfl
  by_cases hc:c∈X.fs
  .obtain⟨sl,q⟩:=slot c o (I.cne x c e) hc nch ho (I.freeC x c e)
   exact{_,q,hd}
  .exact{o,keep c o (I.cne x c e) hc nch ho (I.freeC x c e),hd}
 refine{I.ok,I.os,hg,{λb o e n hb hx=>?_,λb o e n hb hx=>?_,λb o e n hx=>?_,λb o e hx=>?_,λb xs e=>tups b xs (I.base.tups b xs e),λb o xs e=>frzs b o xs (I.base.frzs b o xs e),λb ps e=>?_},?_,λx c e=>?_,?_,λx c e=>?_,λp hp=>?_,hok,I.len}
 .exact keep b o (neL b o e) hb (neC b o e hx) (I.base.keep b o e n hb hx) (I.base.free b o e n hx)
 .obtain⟨sl,e1⟩:=I.base.slot b o e n hb hx
  obtain⟨sl',e2⟩:=slot b _ (neL b o e) hb (neC b o e hx) e1 (I.base.free b o e n hx);exact⟨sl',e2⟩
 .obtain⟨o',e1⟩:=I.base.there b o e hx
  exact free b o' (neC b o e hx) e1 (I.base.free b o e n hx)
 .obtain⟨o',e1⟩:=I.base.there b o e hx
  exact there b o' (neC b o e hx) e1
 .obtain⟨m1,e1⟩:=I.base.tbls b ps e
  obtain⟨m2,e2⟩:=tbls b _ e1;exact{m1++m2,by rw[e2,CT]}
 .obtain⟨m,hn,hl⟩:=I.loc
  refine{m,ns m hn,λi x v e1 e2 e3=>?_};obtain⟨u,r,l⟩:=hl i x v e1 e2 e3;refine{u,r,?_};rcases l with l|⟨k,c,e,z⟩
  .exact .inl l
  .exact .inr {k,c,e,cellK x c e _ z}
 .obtain⟨v,z⟩:=I.cell x c e
  exact{v,cellK x c e v z}
 .obtain⟨m,⟨o,_,_,ho,_⟩,_⟩:=I.loc
  exact free _ o (λz=>(hch _ z).2.1 rfl) ho I.free
 .obtain⟨v,o,ho,hd⟩:=I.cell x c e
  exact free c o (λz=>(hch c z).2.2.1 x c e rfl) ho (I.freeC x c e)
 .obtain⟨e,n,ne,nf,d⟩:=I.pin p hp
  have nch:p.1∉ch:=λz=>(hch p.1 z).2.2.2 p hp rfl;exact{keep p.1 p.2 ne nf nch e n,free p.1 p.2 nch e n,ne,nf,d}
theorem Inv.un (I:Inv X pins G H s)(u:Un X.fs [] H H' s.5 h')(hok:HOk X.prog X.w H' h'):Inv X pins G H' { s with heap:=h',toks:=t' }:=by
 obtain⟨m,⟨o,es,ep,ho,r⟩,_⟩:=id I.loc;obtain⟨sl,hL⟩:=u.any ho I.free (by simp);exact I.step (g':=s.gens) (d':=s.drawn) (ch:=[]) (λ_ z=>nomatch z) (λb o _ hb _ e n=>u.keep b o e n hb (by simp)) (λb o _ hb _ e n=>u.slot b o e n hb (by simp)) (λb o _ e n=>u.free b o e n (by simp)) (λb o _ e=>u.there b o e (by simp)) u.tups u.frzs u.tbls (λm' hm=>by
  obtain⟨o',es',ep',ho',r'⟩:=hm;rw[ho] at ho';cases ho';exact{_,es',ep',hL,r'}) hok I.bare
theorem Inv.call {g':Array IX}{d':Drawn}{ch:List eh}(I:Inv X pins G H s)(u:Un (frs X.stack) ch H H' s.5 h')(hok:HOk X.prog X.w H' h')(hg:wv g')
  (hch:∀b∈ch,(b∈X.ex\/X.QP.heap.objs.8<=b)/\b≠X.env.locals/\(∀x c,X.env.cells.lookup x=KH c->c≠b)/\∀p∈X.pn++pins,p.1≠b) :
  Inv X pins G H' { s with heap:=h',gens:=g',drawn:=d',toks:=t' }:=by
 obtain⟨m,⟨o,es,ep,ho,r⟩,_⟩:=id I.loc;obtain⟨sl,hL⟩:=u.any ho I.free λz=>(hch _ z).2.1 rfl;exact I.step (ch:=ch) hch (λb o hL hb hc e n=>u.keep b o e n (λz=>(ir.mp (I.stkSub b z)).elim hL hb) hc) (λb o _ _ hc e n=>u.any e n hc) (λb o hc e n=>u.free b o e n hc) (λb o hc e=>u.there b o e hc) u.tups u.frzs u.tbls (λm' hm=>by
  obtain⟨o',es',ep',ho',r'⟩:=hm;rw[ho] at ho';cases ho';exact{_,es',ep',hL,r'}) hok hg
theorem Inv.turned (I:Inv X pins G H s)(k:∀b o,b≠it->s.heap.get? b=KH o->h'.get? b=KH o)(hn:H it=KI)(hL:it≠X.env.locals)
  (h1:it∈X.ex\/X.QP.heap.objs.8<=it)(h2:∀x c,X.env.cells.lookup x=KH c->c≠it)(h3:∀p∈X.pn++pins,p.1≠it):Inv X pins G H { s with heap:=h',toks:=t' }:=by
 have nit:∀b u,H b=KH u->b≠it:=λb u e z=>by rw[z,hn] at e;cases e
 refine I.step (g':=s.gens) (d':=s.drawn) (ch:=[it]) (λb hb=>?_) (λb o _ _ hc e _=>k b o (λz=>hc (by simp[z])) e) (λb o _ _ hc e _=>{o.slots,k b o (λz=>hc (by simp[z])) e}) (λ_ _ _ _ n=>n)
  (λb o hc e=>{o,k b o (λz=>hc (by simp[z])) e}) (λ_ _ e=>e) (λ_ _ _ e=>e) (λb ps e=>{#[],by rw[e];simp}) (λm hm=>?_) (λb u e=>?_) I.bare
 .have e:b=it:=by simpa using hb
  subst e;exact⟨h1,hL,h2,h3⟩
 .obtain⟨o,es,ep,ho,r⟩:=hm
  exact{o,es,ep,k _ o (rk hL) ho,r}
 .refine(I.hok b u e).stay (λc v hc q=>k c v ?_ q) (λ_ q=>q) λ_ _ q=>q
  rcases hc with z|z
  .rw[z];exact nit b u e
  .exact nit c _ z
theorem Inv.tok (I:Inv X pins G H s)(t:Nat):Inv X pins G H { s with toks:=t }:=I.un (h':=s.5) (t':=t) Un.refl I.hok
theorem Inv.kept (I:Inv X pins G H s)(k:∀b u,s.heap.get? b=KH u->h'.get? b=KH u):Inv X pins G H { s with heap:=h',toks:=t' }:=I.un (Un.kept k) (I.hok.kept k)
theorem Inv.laid {a:eh}{o:HO}(I:Inv X pins G H s)(k:∀b u,s.heap.get? b=KH u->h'.get? b=KH u)(hp:s.heap.objs.8<=a)(new:Ct X.prog X.w (upd H a o) h' a o) :
  Inv X pins G (upd H a o) { s with heap:=h',toks:=t' }:=I.un (Un.laid k hp (I.hok.fresh hp)) (I.hok.laid k hp new)
theorem Inv.write {x e:eh}{o:HO}(I:Inv X pins G H s)(mu:Mut (H x))(he:e=x\/H e=KH (.own x))(k:∀b u,b≠e->s.heap.get? b=KH u->h'.get? b=KH u)(heo:∃u,h'.get? e=KH u)
  (new:Ct X.prog X.w (upd H x o) h' x o):Inv X pins G (upd H x o) { s with heap:=h',toks:=t' }:=I.un (Un.write mu he k heo) (I.hok.write mu he k heo new)
theorem Inv.weak {QM:List (Option V)}(I:Inv X pins G H s)(hl:QM.9=G.9)(w:∀(i:Nat) v,QM[i]?=KH (KH v)->G[i]?=KH (KH v)):Inv X pins QM H s:=
 {I.ok,I.os,I.bare,I.base,let ⟨m,hn,hl'⟩:=I.loc;{m,hn,λi x v e1 e2 e3=>hl' i x v e1 (w i v e2) e3},I.cell,I.free,I.freeC,I.pin,I.hok,hl.trans I.len}
theorem Inv.pins_of {pins':Za1}(I:Inv X pins G H s)(h:∀p∈pins',s.heap.get? p.1=KH p.2/\H p.1=KI/\p.1≠X.env.locals/\p.1∉X.fs/\∀v,p.2.data≠.cell v):Inv X pins' G H s:=
 {I.ok,I.os,I.bare,I.base,I.loc,I.cell,I.free,I.freeC,λp hp=>(ik.mp hp).elim (λz=>I.pin p (km _ z)) (h p),I.hok,I.len}
theorem lL (hN:N.Nodup){i j:Nat}{x:Str}(a:N[i]?=KH x)(b:N[j]?=KH x):i=j:=by
 obtain⟨h1,e1⟩:=fc.mp a;obtain⟨h2,e2⟩:=fc.mp b;exact(List.getElem_inj hN).mp (e1.trans e2.symm)
theorem tJ {E:Za0}{i:Nat}{x:Str}{v:V}{u:fj}{Q:Unit->ft->Prop}(I:Inv X pins G H s)(hN:X.N.Nodup)(hi:X.N[i]?=KH x)(hx:Loc X.env.scope x)(r:A8 v u)
  (h:∀s',Inv X pins (G.set i (KH v)) H s'->(∃a,ve a s.5 s'.5/\(a=X.env.locals\/X.env.cells.lookup x=KH a))->Q .unit s')(hf:autoParam (X.fn x=KJ\/X.env.scope.names.lookup x=KH .local) QH):wpAny M A (storeName X.env x u) Q E s:=by
 obtain⟨m,hn,hl⟩:=id I.loc;have hcls:(X.env.scope.kind==.class||(X.env.scope.kind==.module&&X.env.locals != X.env.globals))=KL:=by rw[I.ok.kind];rfl
 have XJ:i<G.9:=by rw[I.len];exact(fc.mp hi).1
 have cne:=I.cne;have tracked:∀{a:eh} {h':jm},(∃o,s.heap.get? a=KH o/\H a=KI)->ve a s.5 h'->HOk X.prog X.w H h':=λ{a h'} ha hs b ob e=>by
  obtain⟨_,_,hfree⟩:=ha;refine(I.hok b ob e).stay (λc w' hc q=>(hs.2 c ?_).trans q) (λ_ q=>q) λ_ _ q=>q;rintro rfl;rcases hc with rfl|hc
  .rw[hfree] at e;cases e
  .rw[hfree] at hc;cases hc
 rcases hx with hk|hk
 .refine wpAny_storeName_local hk hn (λh' hn' hs=>?_) hcls
  obtain⟨oL,_,_,hoL,_⟩:=id hn;refine h _ {I.ok,I.os,I.bare,{λb o e n hb hx=>?_,λb o e n hb hx=>?_,I.base.free,λb o e hx=>?_,I.base.tups,I.base.frzs,I.base.tbls},{_,hn',λj y v' e1 e2 e3=>?_},λy c e=>?_,I.free,I.freeC,λp hp=>?_,tracked ⟨oL,hoL,I.free⟩ hs,by simpa using I.len} {_,hs,.inl rfl}
  .exact(hs.2 b (gw (fv (fu e) I.ok.above))).trans (I.base.keep b o e n hb hx)
  .obtain⟨sl,e1⟩:=I.base.slot b o e n hb hx
   exact{sl,(hs.2 b (gw (fv (fu e) I.ok.above))).trans e1}
  .obtain⟨o',e1⟩:=I.base.there b o e hx
   exact{o',(hs.2 b (gw (fv (fu e) I.ok.above))).trans e1}
  .by_cases hj:j=i
   .subst hj
    rw[hi] at e1;cases e1;rw[AR XJ] at e2;cases e2;exact{u,r,.inl {hk,by simp}}
   .rw[BW (rk hj)] at e2
    obtain⟨u',r',q⟩:=hl j y v' e1 e2 e3;refine{u',r',?_};rcases q with⟨k,e⟩|⟨k,c,e,z⟩
    .refine .inl {k,?_}
     have:y≠x:=λe=>hj (lL hN e1 (e▸hi));simp[this,e]
    .exact .inr {k,c,e,z.sameBut hs (cne y c e)}
  .obtain⟨w',z⟩:=I.cell y c e
   exact{w',z.sameBut hs (cne y c e)}
  .obtain⟨e,n,ne,nf,d⟩:=I.pin p hp
   exact{(hs.2 p.1 ne).trans e,n,ne,nf,d}
 .have hfn:X.fn x=KJ:=by
   rcases hf with z|z
   .exact z
   .rw[z] at hk;cases hk
  obtain⟨c,hc⟩:=I.ok.has x (.inl hk);obtain⟨w',z⟩:=I.cell x c hc;refine wpAny_storeName_cell I.ok.kind hk hc z (λh' hc' hs=>?_);obtain⟨oc,hoc,hocd⟩:=id z;refine h { s with heap:=h' } ⟨I.ok,I.os,I.bare,⟨λb o e n hb hx=>?_,λb o e n hb hx=>?_,I.base.free,λb o e hx=>?_,I.base.tups,I.base.frzs,I.base.tbls⟩,⟨m,hn.sameBut hs (rk (cne x c hc)),λj y v' e1 e2 e3=>?_⟩,λy c' e=>?_,I.free,I.freeC,λp hp=>?_,tracked ⟨oc,hoc,I.freeC x c hc⟩ hs,by simpa using I.len⟩ ⟨c,hs,.inr hc⟩
  .exact(hs.2 b (gw (fv (fu e) (I.ok.cab x c hfn hc)))).trans (I.base.keep b o e n hb hx)
  .obtain⟨sl,e1⟩:=I.base.slot b o e n hb hx
   exact{sl,(hs.2 b (gw (fv (fu e) (I.ok.cab x c hfn hc)))).trans e1}
  .obtain⟨o',e1⟩:=I.base.there b o e hx
   exact{o',(hs.2 b (gw (fv (fu e) (I.ok.cab x c hfn hc)))).trans e1}
  .by_cases hj:j=i
   .subst hj
    rw[hi] at e1;cases e1;rw[AR XJ] at e2;cases e2;exact{u,r,.inr {.inl hk,c,hc,hc'}}
   .rw[BW (rk hj)] at e2
    obtain⟨u',r',q⟩:=hl j y v' e1 e2 e3;refine{u',r',?_};rcases q with q|⟨k,c',e,z'⟩
    .exact .inl q
    .refine .inr {k,c',e,z'.sameBut hs ?_}
     rintro rfl;exact hj (lL hN e1 (I.ok.inj _ _ _ e hc▸hi))
  .by_cases hcc:c'=c
   .subst hcc;exact{_,hc'}
   .obtain⟨w2,z2⟩:=I.cell y c' e
    exact{w2,z2.sameBut hs hcc}
  .obtain⟨e,n,ne,nf,d⟩:=I.pin p hp
   refine{(hs.2 p.1 ?_).trans e,n,ne,nf,d};intro q;rw[q,hoc] at e;have q':oc=p.2:=ee e;exact d w' (by rw[<-q'];exact hocd)
theorem U4 {E:Za0}{i:Nat}{x:Str}{v:V}{u:fj}{Q:Unit->ft->Prop}(I:Inv X pins G H s)(hN:X.N.Nodup)(hi:X.N[i]?=KH x)(hx:Loc X.env.scope x)(r:A8 v u)
  (h:∀s',Inv X pins (G.set i (KH v)) H s'->Q .unit s')(hf:autoParam (X.fn x=KJ\/X.env.scope.names.lookup x=KH .local) QH):wpAny M A (storeName X.env x u) Q E s:=
 tJ I hN hi hx r (λs' I' _=>h s' I') hf
theorem Inv.call' {s':ft}{ch:List eh}(I:Inv X pins G H s)(ho:s'.os=s.os)(u:Un (frs X.stack) ch H H' s.5 s'.5)(hok:HOk X.prog X.w H' s'.5)(hg:wv s'.gens)
  (hch:∀b∈ch,(b∈X.ex\/X.QP.heap.objs.8<=b)/\b≠X.env.locals/\(∀x c,X.env.cells.lookup x=KH c->c≠b)/\∀p∈X.pn++pins,p.1≠b):Inv X pins G H' s':=by
 obtain⟨h',g',d',t',o'⟩:=s';have e:o'=s.os:=ho;subst e;exact I.call (g':=g') (t':=t') (d':=d') u hok hg hch
end
abbrev XK:=fj->Option eh->Hp->Prop
abbrev St:=List (Option V)
abbrev VK:=V->Hp->Prop
abbrev TE:=St->Hp->VK->Prop
abbrev TT:=St->Hp->(Bool->Hp->Prop)->Prop
abbrev TA:=St->Hp->(List V->Hp->Prop)->Prop
structure Jb where
 nx:St->Hp->Prop
 rt:VK
 bk:St->Hp->Prop:=λ_ _=>False
 ct:St->Hp->Prop:=λ_ _=>False
abbrev TS:=Jb->St->Hp->Prop
def EP (X:Cx)(pins:Za1)(G:St)(Q:VK)(u:fj)(s':ft):Prop:=∃v H',Inv X pins G H' s'/\A8 v u/\Q v H'
def TP (X:Cx)(pins:Za1)(G:St)(Q:Bool->Hp->Prop)(b:Bool)(s':ft):Prop:=∃H',Inv X pins G H' s'/\Q b H'
def AP (X:Cx)(pins:Za1)(G:St)(Q:List V->Hp->Prop)(us:Za3)(s':ft):Prop:=∃vs H',Inv X pins G H' s'/\Ax vs us/\Q vs H'
def SP (X:Cx)(pins:Za1)(D:Jb)(f:Flow)(s':ft):Prop:=
 match f with
 |.next=>∃QM H',Inv X pins QM H' s'/\D.nx QM H'
 |.brk=>∃QM H',Inv X pins QM H' s'/\D.bk QM H'
 |.cont=>∃QM H',Inv X pins QM H' s'/\D.ct QM H'
 |.ret u=>∃v QM H',Inv X pins QM H' s'/\A8 v u/\D.rt v H'
def PE (X:Cx)(e:ja)(t:TE):Prop:=
 ∀(pins:Za1) (s:ft) (G:St) (H:Hp) (Q:VK),Inv X pins G H s->t G H Q->wpAny (model X.prog X.w) X.A (eval e X.env) (EP X pins G Q) X.xe s
def PT (X:Cx)(e:ja)(t:TT):Prop:=
 ∀(pins:Za1) (s:ft) (G:St) (H:Hp) (Q:Bool->Hp->Prop),Inv X pins G H s->t G H Q->wpAny (model X.prog X.w) X.A (isTrue e X.env (eval e X.env)) (TP X pins G Q) X.xe s
def PW (X:Cx)(e:ja)(t:TT):Prop:=
 ∀(whole:Sem fj) (pins:Za1) (s:ft) (G:St) (H:Hp) (Q:Bool->Hp->Prop),Inv X pins G H s->t G H Q->wpAny (model X.prog X.w) X.A (isTrue e X.env whole) (TP X pins G Q) X.xe s
theorem PW.pt {e:ja}{t:TT}(h:PW X e t):PT X e t:=h _
def PA (X:Cx)(es:List ja)(t:TA):Prop:=
 ∀(pos:Pos) (pins:Za1) (s:ft) (G:St) (H:Hp) (Q:List V->Hp->Prop),Inv X pins G H s->t G H Q->wpAny (model X.prog X.w) X.A (spliced (backTo pos (starEach es X.env))) (AP X pins G Q) X.xe s
def PS (X:Cx)(st:i4)(t:TS):Prop:=
 ∀(pins:Za1) (s:ft) (G:St) (H:Hp) (D:Jb),Inv X pins G H s->t D G H->wpAny (model X.prog X.w) X.A (exec st X.env) (SP X pins D) X.xe s
def PSs (X:Cx)(st:List i4)(t:TS):Prop:=
 ∀(pins:Za1) (s:ft) (G:St) (H:Hp) (D:Jb),Inv X pins G H s->t D G H->wpAny (model X.prog X.w) X.A (execs st X.env) (SP X pins D) X.xe s
theorem thn {α:Type}{t:Sem α}{Q Q':α->ft->Prop}{E:Za0}(h:wpAny M A t Q E s)(hQ:∀a s,Q a s->Q' a s):wpAny M A t Q' E s:=nw h hQ λ_ _ x=>x
theorem thE {G:St}{e:ja}{t:TE}{Q:VK}{Q':Za0}(he:PE X e t)(I:Inv X pins G H s)(h:t G H Q)(k:∀u s1 x H1,Inv X pins G H1 s1->A8 x u->Q x H1->Q' u s1):wpAny (model X.prog X.w) X.A (eval e X.env) Q' X.xe s:=thn (he pins s G H Q I h) λu s1 ⟨x,H1,a,b,c⟩=>k u s1 x H1 a b c
theorem thA {G:St}{e:List ja}{t:TA}{Q:List V->Hp->Prop}{Q':Za3->ft->Prop}(he:PA X e t)(I:Inv X pins G H s)(h:t G H Q)(k:∀u s1 x H1,Inv X pins G H1 s1->Ax x u->Q x H1->Q' u s1):wpAny (model X.prog X.w) X.A (spliced (backTo pos (starEach e X.env))) Q' X.xe s:=thn (he pos pins s G H Q I h) λu s1 ⟨x,H1,a,b,c⟩=>k u s1 x H1 a b c
section
variable {X:Cx}
def Act (i:Nat):TE:=λG H Q=>∃v,G[i]?=KH (KH v)/\Q v H
def tC (v:V):TE:=λ_ H Q=>Q v H
theorem vF {i:Nat}{x:Str}(hN:X.N[i]?=KH x)(hv:Vis X.env.scope x)(hd:autoParam ((x==("__debug__":Str))=KL) QF)(hcd:autoParam ((x==("__classdict__":Str))=KL) QF):PE X (.Name x pos) (Act i):=by
 k_in;obtain⟨v,e,h⟩:=h;obtain⟨m,hn,hl⟩:=I.loc;obtain⟨u,r,l⟩:=hl i x v hN e hv;have fin:EP X pins G Q u s:=⟨v,H,I,r,h⟩;rcases l with⟨hk,hm⟩|⟨hk,c,hc,hcell⟩
 .exact yn (xq I.ok.kind hk hn hm fin) hd
 .rcases hk with hk|hk
  .exact yn (EW I.ok.kind hk hc hcell fin) hd
  .exact yn (EV I.ok.kind hk hc hcell fin hcd) hd
theorem Ae {i j pos}:PE X (.Constant (.int i) j pos) (tC (.int i)):=λ_ _ _ H _ I h=>wpAny_Constant_int {.int i,H,I.tok _,{_,rfl},h}
theorem Jo {b j pos}:PE X (.Constant (.bool b) j pos) (tC (.bl b)):=λ_ _ _ H _ I h=>Constant_bool {.bl b,H,I,rfl,h}
theorem Ek {j pos}:PE X (.Constant .none j pos) (tC .non):=λ_ _ _ H _ I h=>CQ {.non,H,I,rfl,h}
theorem Cw {x j pos}:PE X (.Constant (.str x) j pos) (tC (.str x)):=λ_ _ _ H _ I h=>Calls.Constant_str {.str x,H,I.tok _,{_,rfl},h}
def Gl (X:Cx)(x:Str):Prop:=X.env.kindOf x=KH .globalImplicit
theorem O3 {E:Za0}{G:St}{x:Str}{u:fj}{Q:Za0}(I:Inv X pins G H s)(hg:Gl X x)(hm:X.mg x=KH u)(h:Q u s)
  (hd:autoParam ((x==("__debug__":Str))=KL) QF):wpAny (model X.prog X.w) X.A (eval (.Name x pos) X.env) Q E s:=
 zh I.ok.kind hg (Calls.loadGlobal_global (by rw[I.ok.glob];exact I.mod.glob.keeps I.bk) hm h) hd
theorem Do {E:Za0}{G:St}{x:Str}{u:fj}{Q:Za0}(I:Inv X pins G H s)(hg:Gl X x)(hm:X.mg x=KI)(hv:bootBuiltins x=KH u)(h:Q u s)
  (hn:autoParam (x≠"__name__") QF)(hd:autoParam ((x==("__debug__":Str))=KL) QF):wpAny (model X.prog X.w) X.A (eval (.Name x pos) X.env) Q E s:=by
 obtain⟨mb,h1,h2⟩:=I.mod.blt;exact zh I.ok.kind hg (Calls.loadGlobal_builtin (by rw[I.ok.glob];exact I.mod.glob.keeps I.bk) hm (by rw[I.ok.blt];exact h1.keeps I.bk) ((h2 x hn).trans hv) h) hd
theorem Pr {x:Str}{v:V}{u:fj}(hg:Gl X x)(hm:X.mg x=KH u)(r:A8 v u)(hd:autoParam ((x==("__debug__":Str))=KL) QF):PE X (.Name x pos) (tC v):=
 λ_ _ _ H _ I h=>O3 I hg hm ⟨v,H,I,r,h⟩ hd
theorem Hd {x:Str}{v:V}{u:fj}(hg:Gl X x)(hm:X.mg x=KI)(hv:bootBuiltins x=KH u)(r:A8 v u)(hn:autoParam (x≠"__name__") QF)(hd:autoParam ((x==("__debug__":Str))=KL) QF):PE X (.Name x pos) (tC v):=
 λ_ _ _ H _ I h=>Do I hg hm hv ⟨v,H,I,r,h⟩ hn hd
variable {a b:ja} {ta tb:TE} {pos:Pos}
def PC (X:Cx)(op:w6)(a b:ja)(t:TE):Prop:=
 ∀(pins:Za1) (s:ft) (G:St) (H:Hp) (Q:VK),Inv X pins G H s->t G H Q ->
  wpAny (model X.prog X.w) X.A (eval a X.env) (λv QN=>wpAny (model X.prog X.w) X.A (eval b X.env) (λu QY=>wpAny (model X.prog X.w) X.A (compareOp op v u) (EP X pins G Q) X.xe QY) X.xe QN) X.xe s
theorem jK (b:ja)(h:op≠.In)(h2:op≠.NotIn):behindInMarks op b=KL:=by
 have e1:(op==JC)=KL:=by cases op<;>first|rfl|exact absurd rfl h
 have e2:(op==GK)=KL:=by cases op<;>first|rfl|exact absurd rfl h2
 cases b<;>simp[behindInMarks,e1,e2]
def Ag8 (ta:TE):TE:=λG H Q=>ta G H λx H1=>Q (.bl (decide (x=.non))) H1
def Adf (ta:TE):TE:=λG H Q=>ta G H λx H1=>Q (.bl (!decide (x=.non))) H1
theorem A8.none_iff {x:V}{v:fj}(r:A8 x v):(v==tj)=decide (x=.non):=by
 cases x with
 |non=>cases r;rfl
 |bl _=>cases r;rfl
 |int _=>obtain⟨t,rfl⟩:=r;rfl
 |str _=>obtain⟨t,rfl⟩:=r;rfl
 |byt _=>obtain⟨t,rfl⟩:=r;rfl
 |flt _=>obtain⟨t,rfl⟩:=r;rfl
 |ref _=>cases r;rfl
 |ty _=>cases r;rfl
theorem fR {j pos'}(ha:PE X a ta):PC X .Is a (.Constant .none j pos') (Ag8 ta):=by
 k_in;refine thE ha I h λv s1 x H1 I1 r1 q1=>?_;exact CQ (is_none_gen {.bl _,H1,I1,by rw[r1.none_iff];rfl,q1})
theorem eZ {j pos'}(ha:PE X a ta):PC X .IsNot a (.Constant .none j pos') (Adf ta):=by
 k_in;refine thE ha I h λv s1 x H1 I1 r1 q1=>?_;exact CQ (isnot_none_gen {.bl _,H1,I1,by rw[r1.none_iff];rfl,q1})
def tB (t:TE):TT:=λG H Q=>t G H λx H1=>∃c,x=.bl c/\Q c H1
theorem Aeu {t:TE}(h:PC X op a b t)(h1:behindInMarks op b=KL:=by first|exact jK _ (by decide) (by decide)|rfl):PE X (.Compare a [op] [b] pos) t:=λpins s G H Q I hw=>wpAny_Compare1 (h pins s G H Q I hw) h1
theorem P1 {t:TE}(h:PC X op a b t)(h1:behindInMarks op b=KL:=by first|exact jK _ (by decide) (by decide)|rfl):PT X (.Compare a [op] [b] pos) (tB t):=by
 intro pins s G H Q I hw;refine wpAny_isTrue_Compare1 (thn (h pins s G H _ I hw) λv s1 h1=>thn h1 λu s2 h2=>thn h2 λc s3 h_=>cpZ λX_ k_=>?_) h1;obtain⟨x,H1,I1,r1,q1⟩:=h_;refine k_ ?_;obtain⟨d,rfl,q⟩:=q1;cases r1;exact n9 ⟨H1,I1,q⟩
theorem Bv {e:ja}{t:TE}(h:PE X e t)(he:autoParam (∀whole,isTrue e X.env whole=(do let v <-whole;standAt e.pos;holding [v] (truthy v))) QJ):PT X e (tB t):=by
 intro pins s G H Q I hw;refine isTrue_plain (thE h I hw λv s1 x H1 I1 r1 q1=>?_) (he _);obtain⟨d,rfl,q⟩:=q1;cases r1;exact n9 ⟨H1,I1,q⟩
variable {tA tB':TT} {rest:List ja}
def Ago (t u:TT):TT:=λG H Q=>t G H λc H1=>if c=KJ then u G H1 Q else Q KL H1
def tOr (t u:TT):TT:=λG H Q=>t G H λc H1=>if c=KJ then Q KJ H1 else u G H1 Q
def Ag3 (t:TT):TT:=λG H Q=>t G H λc H1=>Q (!c) H1
theorem Tq (ha:PT X a tA):PW X (.BoolOp .And [a] pos) tA:=by
 intro wh pins s G H Q I h;refine isTrue_and (thn (ha pins s G H Q I h) λc s1 e=>?_)
 cases c with
 |true=>exact isTrue_and_nil e
 |false=>exact e
theorem Hy (ha:PT X a tA):PW X (.BoolOp .Or [a] pos) tA:=by
 intro wh pins s G H Q I h;refine isTrue_or (thn (ha pins s G H Q I h) λc s1 e=>?_)
 cases c with
 |false=>exact isTrue_or_nil e
 |true=>exact e
theorem Z7 (ha:PT X a tA)(hb:PW X (.BoolOp .And (b::rest) pos) tB'):PW X (.BoolOp .And (a::b::rest) pos) (Ago tA tB'):=by
 intro wh pins s G H Q I h;refine isTrue_and (thn (ha pins s G H _ I h) λc s1 ⟨H1,I1,q1⟩=>?_)
 cases c with
 |true=>exact hb wh pins s1 G H1 Q I1 q1
 |false=>exact⟨H1,I1,q1⟩
theorem Ii (ha:PT X a tA)(hb:PW X (.BoolOp .Or (b::rest) pos) tB'):PW X (.BoolOp .Or (a::b::rest) pos) (tOr tA tB'):=by
 intro wh pins s G H Q I h;refine isTrue_or (thn (ha pins s G H _ I h) λc s1 ⟨H1,I1,q1⟩=>?_)
 cases c with
 |true=>exact⟨H1,I1,q1⟩
 |false=>exact hb wh pins s1 G H1 Q I1 q1
theorem Cl (ha:PT X a tA):PT X (.UnaryOp .Not a pos) (Ag3 tA):=by
 k_in;exact isTrue_not (ha pins s G H (λc H1=>Q (!c) H1) I h)
def Ade (ta tb:TE):TE:=λG H Q=>ta G H λx H1=>∃c,x=.bl c/\if c=KJ then tb G H1 Q else Q (.bl KL) H1
def Adc (ta:TE):TE:=λG H Q=>ta G H λx H1=>∃c,x=.bl c/\Q (.bl (!c)) H1
theorem Xf {op}{t:TE}(h:PE X a t):PE X (.BoolOp op [a] pos) t:=λpins s G H Q I hw=>BoolOp_one (h pins s G H Q I hw)
theorem Uz (ha:PE X a ta)(hb:PE X (.BoolOp .And (b::rest) pos) tb):PE X (.BoolOp .And (a::b::rest) pos) (Ade ta tb):=by
 k_in;refine BoolOp_and (thE ha I h λv s1 x H1 I1 r1 q1=>?_);obtain⟨c,rfl,q1⟩:=q1;cases r1;refine n9 ?_
 cases c with
 |true=>exact hb pins s1 G H1 Q I1 q1
 |false=>exact{.bl KL,H1,I1,rfl,q1}
theorem yZ (ha:PE X a ta):PE X (.UnaryOp .Not a pos) (Adc ta):=by
 k_in;refine UnaryOp_ (thE ha I h λv s1 x H1 I1 r1 q1=>?_);obtain⟨c,rfl,q1⟩:=q1;cases r1;exact not_of (n9 {.bl (!c),H1,I1,rfl,q1})
def tIf (t:TT)(ta tb:TE):TE:=λG H Q=>t G H λc H1=>if c=KJ then ta G H1 Q else tb G H1 Q
theorem B8 {c:ja}(hc:PT X c tA)(ha:PE X a ta)(hb:PE X b tb):PE X (.IfExp c a b pos) (tIf tA ta tb):=by
 k_in;refine wpAny_IfExp (thn (hc pins s G H _ I h) λd s1 ⟨H1,I1,q1⟩=>?_)
 cases d with
 |true=>exact ha pins s1 G H1 Q I1 q1
 |false=>exact hb pins s1 G H1 Q I1 q1
end
def SqL (K:d6)(H:Hp)(a:eh)(xs:List V):Prop:=
 Rd H a (.lst xs) \/
  ∃(o:Obj) (its:Array fj) (n:Nat),K.lookup a=KH o/\o.cls=.type "list"/\o.dict=KI/\o.data=.seq its n/\its.8<=sizeLine/\Ax xs its.7
def SqT (K:d6)(H:Hp)(a:eh)(xs:List V):Prop:=
 Rd H a (.tup xs) \/
  ∃(o:Obj) (its:Array fj) (n:Nat),K.lookup a=KH o/\o.cls=.type "tuple"/\o.data=.seq its n/\its.8<=sizeLine/\Ax xs its.7
def Ai7:fj->Option V
 |.none=>KH .non
 |.bool b=>KH (.bl b)
 |.int i _=>KH (.int i)
 |.str x _=>KH (.str x)
 |.bytes b _=>KH (.byt b)
 |.float b _=>KH (.flt b)
 |.ref a=>KH (.ref a)
 |.type n=>KH (.ty n)
 |_=>KI
theorem A8.abs {x:V}{u:fj}(r:A8 x u):Ai7 u=KH x:=by
 cases x with
 |non=>cases r;rfl
 |bl _=>cases r;rfl
 |int _=>obtain⟨t,rfl⟩:=r;rfl
 |str _=>obtain⟨t,rfl⟩:=r;rfl
 |byt _=>obtain⟨t,rfl⟩:=r;rfl
 |flt _=>obtain⟨t,rfl⟩:=r;rfl
 |ref _=>cases r;rfl
 |ty _=>cases r;rfl
theorem A8.inj {x:V}{u:fj}(r:A8 x u)(q:A8 y u):x=y:=ee (r.abs.symm.trans q.abs)
theorem Ax.inj (h:Ax xs us):Ax ys us->xs=ys:=by
 induction h generalizing ys with
 |nil=>intro h2;cases h2;rfl
 |cons r t ih=>
  intro h2
  cases h2 with
  |cons r' t'=>rw[r.inj r',ih t']
section
variable {X:Cx} {pins:Za1} {G:St} {H:Hp} {s:ft} {a:eh} {xs ys:List V}
theorem SqL.of {K:d6}(h:H a=KH (.lst xs)):SqL K H a xs:=.inl (.inl h)
theorem SqT.of {K:d6}(h:H a=KH (.tup xs)):SqT K H a xs:=.inl (.inl h)
theorem Inv.list (I:Inv X pins G H s)(h:SqL X.K H a xs):∃its:Za3,Ax xs its/\PlainL s.5 a its.6/\xs.9<=sizeLine:=by
 rcases h with h|⟨o,its,n,hk,hc,hd,hs,hz,r⟩
 .obtain⟨z,its,n,r,e⟩:=h.ok I.hok
  exact{its,r,{_,n,e,rfl,rfl,rfl},z}
 .refine{its.7,r,{o,n,I.kIn a o hk,hc,hd,by simpa using hs},?_}
  have e:=r.9;simp only[gh] at e;lia
theorem Inv.tuple (I:Inv X pins G H s)(h:SqT X.K H a xs):∃its:Za3,Ax xs its/\IsTup s.5 a its.6/\xs.9<=sizeLine:=by
 rcases h with h|⟨o,its,n,hk,hc,hs,hz,r⟩
 .obtain⟨z,its,r,p⟩:=h.ok I.hok
  exact⟨its,r,p,z⟩
 .refine{its.7,r,{o,I.kIn a o hk,hc,n,by simpa using hs},?_}
  have e:=r.9;simp only[gh] at e;lia
theorem Inv.list_inj (I:Inv X pins G H s)(h:SqL X.K H a xs)(h':SqL X.K H a ys):xs=ys:=by
 obtain⟨its,r,⟨o,n,e,_,_,d⟩,_⟩:=I.list h;obtain⟨its',r',⟨o',n',e',_,_,d'⟩,_⟩:=I.list h';rw[e] at e';cases e';rw[d] at d'
 injection d' with d1 _
 have:its=its':=by simpa using congrArg FU d1
 subst this;exact r.inj r'
theorem Inv.tuple_inj (I:Inv X pins G H s)(h:SqT X.K H a xs)(h':SqT X.K H a ys):xs=ys:=by
 obtain⟨its,r,⟨o,e,_,n,d⟩,_⟩:=I.tuple h;obtain⟨its',r',⟨o',e',_,n',d'⟩,_⟩:=I.tuple h';rw[e] at e';cases e';rw[d] at d'
 injection d' with d1 _
 have:its=its':=by simpa using congrArg FU d1
 subst this;exact r.inj r'
end
abbrev Cx.wish (X:Cx)(E:Za0):Cx:={ X with xe:=E }
abbrev Cx.nox (X:Cx):Cx:=X.wish λ_ _=>False
theorem Cx.Ok.wish (ok:X.Ok)(E:Za0):(X.wish E).Ok:=
 ⟨ok.mod,ok.kind,ok.glob,ok.blt,ok.above,ok.inj,ok.has,ok.cab,ok.hd,ok.frames,ok.stk,ok.exf,ok.bs,ok.bsz,ok.noex,ok.exfs,ok.funs,ok.frf⟩
theorem Cx.Ok.unwish {E:Za0}(ok:(X.wish E).Ok):X.Ok:=
 ⟨ok.mod,ok.kind,ok.glob,ok.blt,ok.above,ok.inj,ok.has,ok.cab,ok.hd,ok.frames,ok.stk,ok.exf,ok.bs,ok.bsz,ok.noex,ok.exfs,ok.funs,ok.frf⟩
section
variable {X:Cx} {pins:Za1} {G:St} {H:Hp} {s:ft} {E:Za0}
theorem Inv.wish (I:Inv X pins G H s)(E:Za0):Inv (X.wish E) pins G H s:={I.ok.wish E,I.os,I.bare,I.base,I.loc,I.cell,I.free,I.freeC,I.pin,I.hok,I.len}
theorem Inv.unwish (I:Inv (X.wish E) pins G H s):Inv X pins G H s:=⟨I.ok.unwish,I.os,I.bare,I.base,I.loc,I.cell,I.free,I.freeC,I.pin,I.hok,I.len⟩
theorem SP.unwish {f:Flow}{s':ft}(h:SP (X.wish E) pins D f s'):SP X pins D f s':=by
 cases f with
 |next=>obtain⟨QM,H',I,q⟩:=h;exact⟨QM,H',I.unwish,q⟩
 |brk=>obtain⟨QM,H',I,q⟩:=h;exact⟨QM,H',I.unwish,q⟩
 |cont=>obtain⟨QM,H',I,q⟩:=h;exact⟨QM,H',I.unwish,q⟩
 |ret u=>obtain⟨v,QM,H',I,r,q⟩:=h;exact⟨v,QM,H',I.unwish,r,q⟩
theorem PSs.nox {st:List i4}{t:TS}(h:PSs X.nox st t):PSs X st t:=λpins s G H D I hw=>
 nw (h pins s G H D (I.wish _) hw) (λ_ _ q=>q.unwish) λ_ _ z=>kl z
end
section
variable {X:Cx} {st:i4} {rest:List i4} {t u:TS} {e:ja} {te:TE} {pos:Pos}
def Adj:TS:=λD G H=>D.nx G H
def Agj (t u:TS):TS:=λD G H=>t { D with nx:=u D } G H
theorem Aw:PSs X [] Adj:=λ_ _ G H _ I h=>ww ⟨G,H,I,h⟩
theorem Ab (h1:PS X st t)(h2:PSs X rest u):PSs X (st::rest) (Agj t u):=by
 k_end;refine wpAny_execs_cons (thn (h1 pins s G H { D with nx:=u D } I h) λf s1 q=>?_)
 cases f with
 |next=>
  obtain⟨QM,H',I',q⟩:=q;exact h2 pins s1 QM H' D I' q
 |ret v=>exact q
 |brk=>exact q
 |cont=>exact q
theorem Ad (h1:PS X st t):PSs X [st] t:=by
 k_end;refine wpAny_execs_cons (thn (h1 pins s G H D I h) λf s1 q=>?_)
 cases f with
 |next=>exact ww q
 |ret v=>exact q
 |brk=>exact q
 |cont=>exact q
theorem Inv.quiet {G:St}(I:Inv X pins G H s):interactive X.env=KL:=by simp[interactive,I.ok.kind]
def Ac4 (te:TE):TS:=λD G H=>te G H λ_ H1=>D.nx G H1
theorem As (he:PE X e te)(hs:autoParam (swapsWith e KI pos.line X.env=pure KL) QD):PS X (.Expr e pos) (Ac4 te):=by
 k_end;exact wpAny_Expr_any (thE he I h λv s1 x H1 I1 r1 q1=>⟨G,H1,I1,q1⟩) I.quiet hs
def Ahn (te:TE):TS:=λD G H=>te G H D.rt
theorem Am (he:PE X e te):PS X (.Return (KH e) pos) (Ahn te):=by
 k_end;exact wpAny_Return_some (thE he I h λv s1 x H1 I1 r1 q1=>⟨x,G,H1,I1,r1,q1⟩)
def Ah0 (c:TT)(t u:TS):TS:=λD G H=>c G H λb H1=>if b=KJ then t D G H1 else u D G H1
theorem Bp {c:ja}{a b:List i4}{tc:TT}(hc:PT X c tc)(ha:PSs X a t)(hb:PSs X b u):PS X (.If c a b pos) (Ah0 tc t u):=by
 k_end;refine wpAny_If (thn (hc pins s G H _ I h) λd s1 ⟨H1,I1,q1⟩=>?_)
 cases d with
 |true=>exact ha pins s1 G H1 D I1 q1
 |false=>exact hb pins s1 G H1 D I1 q1
def Adz:TS:=λ_ _ _=>False
theorem Ca:PS X st Adz:=λ_ _ _ _ _ _ h=>h.elim
end
abbrev TG:=V->St->Hp->(St->Hp->Prop)->Prop
abbrev TGs:=List V->St->Hp->(St->Hp->Prop)->Prop
def PG (X:Cx)(target:ja)(t:TG):Prop:=
 ∀(pins:Za1) (s:ft) (G:St) (H:Hp) (v:V) (u:fj) (Q:St->Hp->Prop),Inv X pins G H s->A8 v u->t v G H Q ->
  wpAny (model X.prog X.w) X.A (assign target X.env u) (λ_ s'=>∃QM H',Inv X pins QM H' s'/\Q QM H') X.xe s
def PGs (X:Cx)(ts:List ja)(t:TGs):Prop:=
 ∀(pins:Za1) (s:ft) (G:St) (H:Hp) (vs:List V) (us:Za3) (Q:St->Hp->Prop),Inv X pins G H s->Ax vs us->t vs G H Q ->
  wpAny (model X.prog X.w) X.A (assignInOrder ((assignEach ts X.env).map (·.2)) us) (λ_ s'=>∃QM H',Inv X pins QM H' s'/\Q QM H') X.xe s
abbrev Aba:=V->V->V->Hp->(Hp->Prop)->Prop
def Ag5 (X:Cx)(t:Aba):Prop:=
 ∀(pins:Za1) (s:ft) (G:St) (H:Hp) (o i v:V) (ov iv u:fj) (Q:Hp->Prop),Inv X pins G H s->A8 o ov->A8 i iv->A8 v u->t o i v H Q ->
  wpAny (model X.prog X.w) X.A (setItem ov iv u) (λ_ s'=>∃H',Inv X pins G H' s'/\Q H') X.xe s
abbrev TIp:=V->V->Hp->VK->Prop
def PIp (X:Cx)(op:ER)(t:TIp):Prop:=
 ∀(pins:Za1) (s:ft) (G:St) (H:Hp) (x y:V) (v u:fj) (Q:VK),Inv X pins G H s->A8 x v->A8 y u->t x y H Q ->
  wpAny (model X.prog X.w) X.A (inplaceOp op v u) (EP X pins G Q) X.xe s
section
variable {X:Cx} {pos:Pos}
def Dh (i:Nat):TG:=λv G H Q=>Q (G.set i (KH v)) H
theorem Oo {i:Nat}{x:Str}(hN:X.N.Nodup)(hi:X.N[i]?=KH x)(hx:Loc X.env.scope x)(hf:autoParam (X.fn x=KJ\/X.env.scope.names.lookup x=KH .local) QH):PG X (.Name x pos) (Dh i):=by
 intro pins s G H v u Q I r h;exact wpAny_assign_Name (U4 I hN hi hx r (λs' I'=>{_,H,I',h}) hf)
def kJ:TGs:=λvs G H Q=>vs=[]/\Q G H
def Ia (t:TG)(u:TGs):TGs:=λvs G H Q=>∃v r,vs=v::r/\t v G H λQM H'=>u r QM H' Q
theorem G7:PGs X [] kJ:=by
 intro pins s G H vs us Q I r h;obtain⟨e,h⟩:=h;subst e;cases r;exact assignInOrder_nil ⟨G,H,I,h⟩
theorem B4 {e:ja}{es:List ja}{t:TG}{u:TGs}(h1:PG X e t)(h2:PGs X es u)
  (hs:autoParam ((assignEach (e::es) X.env).map (·.2)=assign e X.env::(assignEach es X.env).map (·.2)) QD):PGs X (e::es) (Ia t u):=by
 intro pins s G H vs us Q I r h;obtain⟨v,vr,e1,h⟩:=h;subst e1
 cases r with
 |cons r rr=>
  rw[hs];refine assignInOrder_cons (thn (h1 pins s G H _ _ _ I r h) λ_ s1 h_=>cpZ λX_ k_=>?_);obtain⟨XA,H1,I1,q1⟩:=h_;refine k_ ?_;exact h2 pins s1 XA H1 _ _ Q I1 rr q1
def kC (K:d6)(n:Nat)(t:TGs):TG:=λv G H Q=>∃a xs,v=.ref a/\SqT K H a xs/\xs.9=n/\t xs G H Q
theorem Kh {es:List ja}{k:Nat}{t:TGs}(hc:X.calm=KJ)(h:PGs X es t)
  (hn:autoParam ((assignEach es X.env).9=n) QD)(hst:autoParam ((assignEach es X.env).findIdx? (·.1)=KI) QD):PG X (.Tuple es k pos) (kC X.K n t):=by
 intro pins s G H v u Q I r hw;obtain⟨a,xs,e1,hq,hl,hw⟩:=hw;subst e1;cases r;obtain⟨its,rv,ht,hz⟩:=I.tuple hq;refine assign_Tuple_tuple (I.ok.hd hc) ht (by simp[hn,<-hl,rv.9]) hst λh' hx=>?_;have I1:Inv X pins G H { s with heap:=h' }:=I.kept (t':=s.toks) λb o e=>hx b o (gw (fu e)) e;exact h pins _ G H xs _ Q I1 (by simpa using rv) hw
def Ahz (to ti:TE)(t:Aba):TG:=λv G H Q=>to G H λo H1=>ti G H1 λi H2=>t o i v H2 λH3=>Q G H3
theorem zU {o i:ja}{to ti:TE}{t:Aba}(ho:PE X o to)(hi:PE X i ti)(hs:Ag5 X t)
  (ha:autoParam (∀v,assign (.Subscript o i pos) X.env v=(do
   let ov <-holding [v] (eval o X.env)
   let iv <-holding [v,ov] (eval i X.env)
   standAt pos
   holding [v,ov,iv] (setItem ov iv v)
   release [v,ov,iv] [])) QJ):PG X (.Subscript o i pos) (Ahz to ti t):=by
 intro pins s G H v u Q I r h;rw[ha];refine wpAny_bind (wpAny_holding (thE ho I h λov s1 x H1 I1 r1 q1=>?_));refine wpAny_bind (wpAny_holding (thE hi I1 q1 λiv s2 y H2 I2 r2 q2=>?_));refine wpAny_bind (yf (wpAny_bind (wpAny_holding (thn (hs pins s2 G H2 x y v ov iv u _ I2 r1 r2 r q2) λ_ s3 ⟨H3,I3,q3⟩=>?_))));exact wpAny_release ⟨G,H3,I3,q3⟩
def oI (te:TE)(g:TG):TS:=λD G H=>te G H λx H1=>g x G H1 D.nx
theorem Aam {e:ja}{g:TG}(he:PE X e te)(hg:PG X tg g)(hs:autoParam (swapsWithSole [tg] e pos.line X.env=pure KL) QD)(hw:autoParam (swappedStores [tg] e X.env=pure KI) QD)
  (h1:autoParam ((assignEach [tg] X.env).map (·.2)=[assign tg X.env]) QD):PS X (.Assign [tg] e pos) (oI te g):=by
 k_end;refine wpAny_Assign_stores (thE he I h λv s1 x H1 I1 r1 q1=>?_) hs hw;rw[h1];exact thn (hg pins s1 G H1 x v _ I1 r1 q1) λ_ s2 q=>q
theorem eN {i:Nat}{x:Str}{e:ja}{pos':Pos}(hN:X.N.Nodup)(hi:X.N[i]?=KH x)(hx:Loc X.env.scope x)(he:PE X e te)(hs:autoParam (swapsWith e (KH (.Name x pos')) pos.line X.env=pure KL) QD)(hf:autoParam (X.fn x=KJ\/X.env.scope.names.lookup x=KH .local) QH) :
  PS X (.Assign [.Name x pos'] e pos) (oI te (Dh i)):=by
 k_end;refine wpAny_Assign_Name (thE he I h λv s1 y H1 I1 r1 q1=>?_) hs;exact U4 I1 hN hi hx r1 (λs2 I2=>{_,H1,I2,q1}) hf
def Aft (i:Nat)(te:TE)(ti:TIp):TS:=λD G H=>∃x,G[i]?=KH (KH x)/\te G H λy H1=>ti x y H1 λz H2=>D.nx (G.set i (KH z)) H2
theorem Ae3 {i:Nat}{x:Str}{e:ja}{op:ER}{ti:TIp}{pos':Pos}(hN:X.N.Nodup)(hi:X.N[i]?=KH x)(hx:Loc X.env.scope x)(he:PE X e te)(ho:PIp X op ti)(hf:autoParam (X.fn x=KJ\/X.env.scope.names.lookup x=KH .local) QH) :
  PS X (.AugAssign (.Name x pos') op e pos) (Aft i te ti):=by
 k_end;obtain⟨v,e1,h⟩:=h;obtain⟨m,hn,hl⟩:=I.loc;have vis:Vis X.env.scope x:=by rcases hx with k|k;exact .inl k;exact .inr (.inl k)
 obtain⟨u,r,l⟩:=hl i x v hi e1 vis;refine wpAny_AugAssign_Name ?_;have go:wpAny (model X.prog X.w) X.A (eval e X.env) (λw QY=>wpAny (model X.prog X.w) X.A (inplaceOp op u w) (λr XN=>wpAny (model X.prog X.w) X.A (storeName X.env x r) (λ_=>SP X pins D .next) X.xe XN) X.xe QY) X.xe s:=by
  refine thE he I h λw s1 y H1 I1 r1 q1=>?_;refine thn (ho pins s1 G H1 v y u w _ I1 r r1 q1) λz s2 h_=>cpZ λX_ k_=>?_;obtain⟨zv,H2,I2,r2,q2⟩:=h_;refine k_ ?_;exact U4 I2 hN hi hx r2 (λs3 I3=>{_,H2,I3,q2}) hf
 rcases l with⟨hk,hm⟩|⟨hk,c,hc,hcell⟩
 .exact xq I.ok.kind hk hn hm go
 .rcases hk with hk|hk
  .exact EW I.ok.kind hk hc hcell go
  .rcases hx with k|k
   .have:X.env.scope.names.lookup x=KH .free:=hk
    rw[k] at this;cases this
   .have:X.env.scope.names.lookup x=KH .free:=hk
    rw[k] at this;cases this
def ipI (f:Int->Int->Int):TIp:=λx y H Q=>∃i j,x=.int i/\y=.int j/\Q (.int (f i j)) H
theorem N7:PIp X .Add (ipI λi j=>i+j):=by
 intro pins s G H x y v u Q I r1 r2 h;obtain⟨i,j,e1,e2,q⟩:=h;subst e1;subst e2;obtain⟨t,rfl⟩:=r1;obtain⟨t',rfl⟩:=r2;exact iadd_int {.int _,H,I.tok _,{_,rfl},q}
theorem xW:PIp X .Sub (ipI λi j=>i-j):=by
 intro pins s G H x y v u Q I r1 r2 h;obtain⟨i,j,e1,e2,q⟩:=h;subst e1;subst e2;obtain⟨t,rfl⟩:=r1;obtain⟨t',rfl⟩:=r2;exact isub_int {.int _,H,I.tok _,{_,rfl},q}
end
section
variable {X:Cx} {pos:Pos}
def vI (c:TT)(tb:TS):TS:=λD G H=>∃W:Nat->St->Hp->Prop,(∃m,W m G H)/\∀m G H,W m G H ->
 c G H λb H1=>if b=KJ then ∃N:St->Hp->Prop,(∀QM H',N QM H'->∃m',m'<m/\W m' QM H')/\tb { D with nx:=N,ct:=N,bk:=D.nx } G H1 else D.nx G H1
theorem En {c:ja}{body:List i4}{tc:TT}{tb:TS}(hp:PassesOwn (model X.prog X.w) X.A X.env X.xe)(hc:PT X c tc)(hb:PSs X body tb):PS X (.While c body [] pos) (vI tc tb):=by
 k_end;obtain⟨W,⟨m0,w0⟩,turn⟩:=h;refine wpAny_While (codeAny_whileLoop (λn s'=>∃QM H',Inv X pins QM H' s'/\W n QM H') ?_ m0 ⟨G,H,I,w0⟩);rintro n s1 ⟨XA,H1,I1,w1⟩;refine wpAny_passesOwn hp (thn (hc pins s1 XA H1 _ I1 (turn n XA H1 w1)) λb s2 ⟨H2,I2,q2⟩=>?_)
 cases b with
 |true=>
  obtain⟨N,hN,q2⟩:=q2;rw[if_pos rfl];refine wpAny_passesOwn hp (thn (hb pins s2 XA H2 _ I2 q2) λf s3 q3=>?_)
  cases f with
  |next=>
   obtain⟨QV,H3,I3,n3⟩:=q3;obtain⟨m',hm,w3⟩:=hN QV H3 n3;exact⟨m',hm,QV,H3,I3,w3⟩
  |cont=>
   obtain⟨QV,H3,I3,n3⟩:=q3;obtain⟨m',hm,w3⟩:=hN QV H3 n3;exact⟨m',hm,QV,H3,I3,w3⟩
  |brk=>exact q3
  |ret v=>exact q3
 |false=>
  rw[if_neg gy];exact ww ⟨XA,H2,I2,q2⟩
end
structure It where
 go:Nat->Hp->Prop
 yld:Nat->Hp->V->Hp->Prop
 stop:Nat->Hp->Prop
def Vw (X:Cx)(pins:Za1)(H:Hp)(b:eh):Prop:=
 H b=KI/\b≠X.env.locals/\b∉X.fs/\(b∈X.ex\/X.QP.heap.objs.8<=b)/\(∀x c,X.env.cells.lookup x=KH c->c≠b)/\∀p∈X.pn++pins,p.1≠b
theorem Inv.fpOk {G:St}{b:eh}(I:Inv X pins G H s)(hb:s.heap.objs.8<=b)(hn:H' b=KI):Vw X pins H' b:=by
 refine{hn,jz (fv I.lt hb),I.nofs hb,.inr (iy I.sz hb),λx c e z=>?_,λp hp z=>?_}
 .obtain⟨v,q⟩:=I.cell x c e
  exact absurd (fv q.lt (by rw[z];exact hb)) (l8 _)
 .exact absurd (fv (fu (I.pin p hp).1) (by rw[z];exact hb)) (l8 _)
structure S9 (P:gl) (w:ip) (K:d6) (tg:ja) (J:It) (fp:List eh) (it:eh) (tn:Nat->jm->Prop):Prop where
 mem:it∈fp
 obj:∀i h,tn i h->∀b∈fp,∃o,h.get? b=KH o/\∀v,o.data≠.cell v
 keep:∀i h h',tn i h->(∀b∈fp,∀o,h.get? b=KH o->h'.get? b=KH o)->tn i h'
 item:∀(X:Cx),X.prog=P->X.w=w->X.K=K->X.calm=KJ->∀(i:Nat) (pins:Za1) (s:ft) (G:St) (H:Hp) (E:Za0),Inv X pins G H s->(∀b∈fp,Vw X pins H b)->tn i s.5->J.go i H ->
  wpAny (model P w) X.A (pyNext (.ref it)) (λr s1=>∃u,r=KH u /\
   wpAny (model P w) X.A (letOwnedTupleGo tg (.ref it) u) (λ_ s2=>∃x H',Inv X pins G H' s2/\A8 x u/\J.yld i H x H'/\tn (i+1) s2.5/\∀b∈fp,H' b=KI) E s1) E s
 done:∀(X:Cx),X.prog=P->X.w=w->X.K=K->X.calm=KJ->∀(i:Nat) (pins:Za1) (s:ft) (G:St) (H:Hp) (E:Za0),Inv X pins G H s->(∀b∈fp,Vw X pins H b)->tn i s.5->J.stop i H ->
  wpAny (model P w) X.A (pyNext (.ref it)) (λr s1=>r=KI/\Inv X pins G H s1) E s
 self:∀(A:i9) (i:Nat) (s:ft) (Q:Za0) (E:Za0),tn i s.5->Q (.ref it) s->wpAny (model P w) A (pyIter (.ref it)) Q E s
abbrev TI:=St->Hp->(It->Hp->Prop)->Prop
def PIE (X:Cx)(pins:Za1)(G:St)(tg:ja)(R:It->Hp->Prop)(itv:fj)(s2:ft):Prop:=
 ∃(it:eh) (fp:List eh) (tn:Nat->jm->Prop) (J:It) (H':Hp),itv=.ref it/\Inv X pins G H' s2/\S9 X.prog X.w X.K tg J fp it tn/\tn 0 s2.5/\(∀b∈fp,Vw X pins H' b)/\R J H'
def PI (X:Cx)(tg iter:ja)(wi:TI):Prop:=
 ∀(pins:Za1) (s:ft) (G:St) (H:Hp) (R:It->Hp->Prop),Inv X pins G H s->wi G H R ->
  wpAny (model X.prog X.w) X.A (eval iter X.env) (λv s1=>wpAny (model X.prog X.w) X.A (pyIter v) (PIE X pins G tg R) X.xe s1) X.xe s
theorem Yj {E:Za0}{u:fj}{o:Obj}{n:String}{vs:Array fj}{Q:Unit->ft->Prop}(ho:s.heap.get? it=KH o)(hc:o.cls=.type n)(hd:o.data=.fields vs)
    (hn : ["enumerate", "zip", "dict_itemiterator", "dict_reverseitemiterator", "odict_iterator", "itertools.zip_longest", "itertools.pairwise"].contains n = KL)(hQ : Q .unit s) : wpAny M A (letOwnedTupleGo tg (.ref it) u) Q E s := by
  unfold letOwnedTupleGo;cases tg <;> first
    | exact fq hQ
    | (cases u <;> first
        | exact fq hQ
        | (refine wpAny_bind (wpAny_load ho ?_)
           rw [hc, hd];show wpAny M A (if (["enumerate", "zip", "dict_itemiterator", "dict_reverseitemiterator", "odict_iterator", "itertools.zip_longest", "itertools.pairwise"].contains n && vs[0]? == KH (rawInt _)) = KJ then _ else _) Q E s;rw [if_neg (by intro h; rw [hn, wk] at h; cases h)];exact fq hQ))
def Itl (K:d6)(a:eh):It:=
 {λi H=>∃xs x,SqL K H a xs/\xs[i]?=KH x,λi H x H'=>H'=H/\∀xs,SqL K H a xs->xs[i]?=KH x,λi H=>∃xs,SqL K H a xs/\xs.9<=i}
def Itt (K:d6)(a:eh):It:=
 {λi H=>∃xs x,SqT K H a xs/\xs[i]?=KH x,λi H x H'=>H'=H/\∀xs,SqT K H a xs->xs[i]?=KH x,λi H=>∃xs,SqT K H a xs/\xs.9<=i}
def Itr (lo:Int)(n:Nat):It:={λi _=>i<n,λi H x H'=>H'=H/\x=.int (lo+i),λi _=>n<=i}
theorem uP {P:gl}{K:d6}(a it:eh):S9 P w K tg (Itl K a) [it] it (λi h=>h.IsListIter it a i) where
 mem:=by simp
 obj:=λi h st b hb=>by
  have e:b=it:=by simpa using hb
  subst e;obtain⟨o,e,c,d⟩:=st;exact{o,e,λv z=>by rw[d] at z;cases z}
 keep:=λi h h' st k=>st.at λo e=>k it (by simp) o e
 item:=by
  intro X hP hw hK hc i pins s G H E I hf st hg;subst hP hw hK;obtain⟨xs,x,hq,hx⟩:=hg;obtain⟨its,rv,p,hz⟩:=I.list hq;obtain⟨u,hu,ru⟩:=rv.get hx;obtain⟨f0,f1,f2,f3,f4,f5⟩:=hf it (by simp);refine DD st p.isList (x:=u) (by simpa using hu) λh' st' sb=>?_;have I1:Inv X pins G H { s with heap:=h' }:=I.turned (t':=s.toks) (λb o hb e=>(sb.2 b hb).trans e) f0 f1 f3 f4 f5;obtain⟨o,e,c,d⟩:=id st';exact⟨u,rfl,Yj (s:={ s with heap:=h' }) e c d (by decide) ⟨x,H,I1,ru,⟨rfl,λys hy=>by rw[I.list_inj hy hq];exact hx⟩,st',λb hb=>(hf b hb).1⟩⟩
 done:=by
  intro X hP hw hK hc i pins s G H E I hf st hg;subst hP hw hK;obtain⟨xs,hq,hx⟩:=hg;obtain⟨its,rv,p,hz⟩:=I.list hq;obtain⟨f0,f1,f2,f3,f4,f5⟩:=hf it (by simp);have hl:=rv.9;exact DT (I.ok.hd hc) st p.isList (by simp;lia) λh' eb=>{rfl,I.turned (t':=s.toks) (λb o hb e=>eb b o hb e) f0 f1 f3 f4 f5}
 self:=λ_ _ _ _ _ st h=>wpAny_pyIter_listiter st h
theorem mY {P:gl}{K:d6}(a it:eh):S9 P w K tg (Itt K a) [it] it (λi h=>h.IsTupleIter it a i) where
 mem:=by simp
 obj:=λi h st b hb=>by
  have e:b=it:=by simpa using hb
  subst e;obtain⟨o,e,c,d⟩:=st;exact{o,e,λv z=>by rw[d] at z;cases z}
 keep:=λi h h' st k=>st.at λo e=>k it (by simp) o e
 item:=by
  intro X hP hw hK hc i pins s G H E I hf st hg;subst hP hw hK;obtain⟨xs,x,hq,hx⟩:=hg;obtain⟨its,rv,p,hz⟩:=I.tuple hq;obtain⟨u,hu,ru⟩:=rv.get hx;obtain⟨f0,f1,f2,f3,f4,f5⟩:=hf it (by simp);refine wpAny_pyNext_tuple_item st (show s.heap.IsTuple a its.6 from p) (x:=u) (by simpa using hu) λh' st' sb=>?_;have I1:Inv X pins G H { s with heap:=h' }:=I.turned (t':=s.toks) (λb o hb e=>(sb.2 b hb).trans e) f0 f1 f3 f4 f5;obtain⟨o,e,c,d⟩:=id st';exact⟨u,rfl,Yj (s:={ s with heap:=h' }) e c d (by decide) ⟨x,H,I1,ru,⟨rfl,λys hy=>by rw[I.tuple_inj hy hq];exact hx⟩,st',λb hb=>(hf b hb).1⟩⟩
 done:=by
  intro X hP hw hK hc i pins s G H E I hf st hg;subst hP hw hK;obtain⟨xs,hq,hx⟩:=hg;obtain⟨its,rv,p,hz⟩:=I.tuple hq;obtain⟨f0,f1,f2,f3,f4,f5⟩:=hf it (by simp);have hl:=rv.9;exact wpAny_pyNext_tuple_end (I.ok.hd hc) st (show s.heap.IsTuple a its.6 from p) (by simp;lia) λh' eb=>{rfl,I.turned (t':=s.toks) (λb o hb e=>eb b o hb e) f0 f1 f3 f4 f5}
 self:=λ_ _ _ _ _ st h=>wpAny_pyIter_tupleiter st h
theorem oP {P:gl}{K:d6}(it:eh)(lo:Int)(n:Nat):S9 P w K tg (Itr lo n) [it] it (λi h=>AC h it (lo+(i:Nat)*1) ((n:Int)-(i:Nat)) 1) where
 mem:=by simp
 obj:=λi h st b hb=>by
  have e:b=it:=by simpa using hb
  subst e;exact⟨_,st,λv z=>by
   have z':CA _=JB v:=z;cases z'⟩
 keep:=λi h h' st k=>k it (by simp) _ st
 item:=by
  intro X hP hw hK hc i pins s G H E I hf st hg;subst hP hw hK;obtain⟨f0,f1,f2,f3,f4,f5⟩:=hf it (by simp);have W:=FX (prog:=X.prog) (w:=X.w) (I.ok.hd hc) it lo 1 n;refine W.item i s _ _ hg st λv h' tk hv st' kk=>?_;obtain⟨t,rfl⟩:=hv;have I1:Inv X pins G H { s with heap:=h',toks:=tk }:=I.turned (λb o hb e=>kk b o (by simpa using hb) e) f0 f1 f3 f4 f5;refine⟨_,rfl,Yj (s:={ s with heap:=h',toks:=tk }) (n:="range_iterator") st' rfl rfl (by decide) ⟨.int (lo+i),H,I1,⟨t,?_⟩,⟨rfl,rfl⟩,st',λb hb=>(hf b hb).1⟩⟩;rw[Int.mul_one]
 done:=by
  intro X hP hw hK hc i pins s G H E I hf st hg;subst hP hw hK;obtain⟨f0,f1,f2,f3,f4,f5⟩:=hf it (by simp);exact DC (I.ok.hd hc) st (by have:n<=i:=hg;lia) λh' eb=>{rfl,I.turned (t':=s.toks) (λb o hb e=>eb b o hb e) f0 f1 f3 f4 f5}
 self:=λ_ _ _ _ _ st h=>DE st h
section
variable {X:Cx} {tg:ja}
def Adm (K:d6)(tl:TE):TI:=λG H R=>tl G H λx H1=>∃a,x=.ref a/\(∃xs,SqL K H1 a xs)/\R (Itl K a) H1
def Ae9 (K:d6)(tl:TE):TI:=λG H R=>tl G H λx H1=>∃a,x=.ref a/\(∃xs,SqT K H1 a xs)/\R (Itt K a) H1
theorem Du {l:ja}{tl:TE}(hl:PE X l tl):PI X tg l (Adm X.K tl):=by
 intro pins s G H R I h;refine thE hl I h λv s1 x H1 I1 r1 q1=>?_;obtain⟨a,e,⟨xs,hq⟩,q⟩:=q1;subst e;cases r1;obtain⟨its,rv,p,hz⟩:=I1.list hq;refine y8 p.isList ?_;refine{s1.heap.objs.8,[s1.heap.objs.8],_,_,H1,rfl,I1.kept (t':=s1.toks) λb o e=>en _ e,uP a _,{_,gp _ rfl,rfl,rfl},λb hb=>?_,q};have e:b=s1.heap.objs.8:=by simpa using hb
 subst e;exact I1.fpOk (d8 _) (I1.hok.fresh (d8 _))
theorem mP {l:ja}{tl:TE}(hl:PE X l tl):PI X tg l (Ae9 X.K tl):=by
 intro pins s G H R I h;refine thE hl I h λv s1 x H1 I1 r1 q1=>?_;obtain⟨a,e,⟨xs,hq⟩,q⟩:=q1;subst e;cases r1;obtain⟨its,rv,p,hz⟩:=I1.tuple hq;refine wpAny_pyIter_tuple (show s1.heap.IsTuple a its.6 from p) ?_;refine{s1.heap.objs.8,[s1.heap.objs.8],_,_,H1,rfl,I1.kept (t':=s1.toks) λb o e=>en _ e,mY a _,{_,gp _ rfl,rfl,rfl},λb hb=>?_,q};have e:b=s1.heap.objs.8:=by simpa using hb
 subst e;exact I1.fpOk (d8 _) (I1.hok.fresh (d8 _))
theorem kU {G:St}{R:It->Hp->Prop}{E:Za0}{lo hi:Int}{t u v:Tok}{tk:Nat}(I:Inv X pins G H s)(h1:-(2 ^ 62)<=lo)(h2:lo<2 ^ 62)(h3:-(2 ^ 62)<=hi)(h4:hi<2 ^ 62)
  (q:R (Itr lo (hi-lo).toNat) H):wpAny (model X.prog X.w) X.A (pyIter (.ref s.heap.objs.8)) (PIE X pins G tg R) E { s with heap:=s.heap.push { cls:=.type "range",data:=.fields #[.int lo t,.int hi u,.int 1 v] },toks:=tk }:=by
 refine FI (AJ ..) (small_one h1 h2 h3 h4) ?_;have I1:Inv X pins G H { s with heap:=s.heap.push { cls:=.type "range",data:=.fields #[.int lo t,.int hi u,.int 1 v] },toks:=tk }:=I.kept λb o e=>en _ e;refine⟨(s.heap.push { cls:=.type "range",data:=.fields #[.int lo t,.int hi u,.int 1 v] }).objs.size,[(s.heap.push { cls:=.type "range",data:=.fields #[.int lo t,.int hi u,.int 1 v] }).objs.size],_,_,H,rfl,
  I1.kept (t':=tk) λb o e=>en _ e,oP _ lo (hi-lo).toNat,?_,λb hb=>?_,q⟩
 .have e1:lo+((0:Nat):Int)*1=lo:=by simp
  have e2:(((hi-lo).toNat:Nat):Int)-((0:Nat):Int)=lh lo hi 1:=by rw[JF];split<;>lia
  show AC _ _ (lo+((0:Nat):Int)*1) ((((hi-lo).toNat:Nat):Int)-((0:Nat):Int)) 1;rw[e1,e2];exact gp _ rfl
 .have e:b=(s.heap.push { cls:=.type "range",data:=.fields #[.int lo t,.int hi u,.int 1 v] }).objs.size:=by simpa using hb
  subst e;exact I1.fpOk (d8 _) (I1.hok.fresh (d8 _))
def Adr (ta:TA):TI:=λG H R=>ta G H λvs H1=>∃j:Int,vs=[.int j]/\-(2 ^ 62)<=j/\j<2 ^ 62/\R (Itr 0 j.toNat) H1
def Ac7 (ta:TA):TI:=λG H R=>ta G H λvs H1=>∃i j:Int,vs=[.int i,.int j]/\(-(2 ^ 62)<=i/\i<2 ^ 62/\-(2 ^ 62)<=j/\j<2 ^ 62)/\R (Itr i (j-i).toNat) H1
theorem Fo {a:ja}{ta:TA}{p:Pos}(hg:Gl X "range")(hm:X.mg "range"=KI)(ha:PA X [a] ta)(hs:autoParam (starEach [a] X.env=[(KL,eval a X.env)]) QD):PI X tg (.Call (.Name "range" p) [a] [] pos) (Adr ta):=by
 intro pins s G H R I h;refine Call_ (Do I hg hm boot_range (ij (thA ha I h λus s1 vs H1 I1 r1 q1=>?_) hs rfl));obtain⟨j,e,q1,q2,q⟩:=q1;subst e
 cases r1 with
 |cons r rr=>
  cases rr;obtain⟨t,rfl⟩:=r;exact KB (kU I1 () () q1 q2 (by simpa using q))
theorem Zp {a b:ja}{ta:TA}{p:Pos}(hg:Gl X "range")(hm:X.mg "range"=KI)(ha:PA X [a,b] ta)(hs:autoParam (starEach [a,b] X.env=[(KL,eval a X.env),(KL,eval b X.env)]) QD)(hs2:autoParam (starEach [b] X.env=[(KL,eval b X.env)]) QD) :
  PI X tg (.Call (.Name "range" p) [a,b] [] pos) (Ac7 ta):=by
 intro pins s G H R I h;refine Call_ (Do I hg hm boot_range (ij (thA ha I h λus s1 vs H1 I1 r1 q1=>?_) (by rw[hs,hs2]) (by rw[hs2];rfl)));obtain⟨i,j,e,⟨q1,q2,q3,q4⟩,q⟩:=q1;subst e
 cases r1 with
 |cons r rr=>
  cases rr with
  |cons r' rr=>
   cases rr;obtain⟨t,rfl⟩:=r;obtain⟨t',rfl⟩:=r';exact call_range_2 (kU I1 q1 q2 q3 q4 q)
def Ah8 (wi:TI)(g:TG)(tb:TS):TS:=λD G H=>wi G H λJ H1=>∃W:Nat->Nat->St->Hp->Prop,(∃m,W 0 m G H1)/\∀i m G H,W i m G H ->
 (J.stop i H/\D.nx G H)\/(J.go i H/\∃N:St->Hp->Prop,(∀QM H',N QM H'->∃m',m'<m/\W (i+1) m' QM H')/\∀x H',J.yld i H x H'->g x G H' λQS H2=>tb { D with nx:=N,ct:=N,bk:=D.nx } QS H2)
def Vn (fp:List eh)(h:jm):Za1:=fp.filterMap λb=>(h.get? b).map λo=>(b,o)
theorem Kf {b:eh}{o:Obj}(hb:b∈fp)(e:h.get? b=KH o):(b,o)∈Vn fp h:=xm.mpr {b,hb,by rw[e];rfl}
theorem uO {p:eh×Obj}(hp:p∈Vn fp h):p.1∈fp/\h.get? p.1=KH p.2:=by
 obtain⟨b,hb,e⟩:=xm.mp hp
 cases q:h.get? b with
 |none=>rw[q] at e;cases e
 |some o=>
  rw[q] at e;have e':(b,o)=p:=ee e;subst e';exact⟨hb,q⟩
theorem Inv.pinned {G:St}(I:Inv X pins G H s)(hf:∀b∈fp,Vw X pins H b)(ho:∀b∈fp,∃o,s.heap.get? b=KH o/\∀v,o.data≠.cell v):Inv X (pins++Vn fp s.5) G H s:=
 I.pins_of λp hp=>(ik.mp hp).elim (λz=>I.pin p (iw _ z)) λz=>by
  obtain⟨hb,e⟩:=uO z;obtain⟨f0,f1,f2,_⟩:=hf p.1 hb;obtain⟨o,e',d⟩:=ho p.1 hb;rw[e] at e';cases e';exact⟨e,f0,f1,f2,d⟩
theorem Inv.unpinned {pl:Za1}{G:St}(I:Inv X (pins++pl) G H s):Inv X pins G H s:=I.pins_of λp hp=>I.pin p (iw _ (km _ hp))
theorem C5 {iter:ja}{body:List i4}{g:TG}{tb:TS}(hp:PassesOwn (model X.prog X.w) X.A X.env X.xe)(hc:X.calm=KJ)(hi:PI X tg iter wi)(hg:PG X tg g)(hb:PSs X body tb)
  (hs:autoParam (∀x,foldedSetIterable iter X.env x=pure x) QJ):PS X (.For tg iter body [] pos) (Ah8 wi g tb):=by
 k_end;refine wpAny_For (thn (hi pins s G H _ I h) λv s1 h1=>thn h1 λitv s2 h2=>?_) hs;obtain⟨it,fp,tn,J,H2,e,I2,T,st2,f2,W,⟨m0,w0⟩,turn⟩:=h2;subst e
 -- what stays KJ of the iterator's objects through the loop
 have stat:∀{H':Hp},(∀b∈fp,H' b=KI)->∀b∈fp,Vw X pins H' b:=λhn b hb=>{hn b hb,(f2 b hb).2};refine codeAny_forLoop_any (λn s'=>∃i QM H',Inv X pins QM H' s'/\tn i s'.5/\(∀b∈fp,H' b=KI)/\W i n QM H') ?_ m0 {0,G,H2,I2,st2,λb hb=>(f2 b hb).1,w0};rintro n s3 ⟨i,QV,H3,I3,st3,fr3,w3⟩;rcases turn i n QV H3 w3 with⟨stop,qn⟩|⟨go,N,hN,step⟩
 .refine wpAny_passesOwn hp (thn (T.done X rfl rfl rfl hc i pins s3 QV H3 X.xe I3 (stat fr3) st3 stop) λr s4 ⟨hr,I4⟩=>?_)
  subst hr;exact ww ⟨QV,H3,I4,qn⟩
 .refine wpAny_passesOwn hp (thn (T.item X rfl rfl rfl hc i pins s3 QV H3 X.xe I3 (stat fr3) st3 go) λr s4 ⟨u,hr,h4⟩=>?_)
  subst hr;refine wpAny_passesOwn hp (thn h4 λ_ s5 h_=>cpZ λX_ k_=>?_);obtain⟨x,H5,I5,r5,y5,st5,fr5⟩:=h_;refine k_ ?_;have I5':=I5.pinned (stat fr5) (T.obj _ _ st5);refine wpAny_passesOwn hp (thn (hg _ s5 QV H5 x u _ I5' r5 (step x H5 y5)) λ_ s6 h_=>cpZ λX_ k_=>?_);obtain⟨σ6,H6,I6,q6⟩:=h_;refine k_ ?_;refine wpAny_passesOwn hp (thn (hb _ s6 σ6 H6 _ I6 q6) λf s7 q7=>?_);have again:∀{QW:St} {H7:Hp},Inv X (pins++Vn fp s5.5) QW H7 s7->N QW H7->∃m,m<n/\∃i QM H',Inv X pins QM H' s7/\tn i s7.5/\(∀b∈fp,H' b=KI)/\W i m QM H':=λ{QW H7} I7 n7=>by
   obtain⟨m',hm,w7⟩:=hN QW H7 n7;refine{m',hm,i+1,QW,H7,I7.unpinned,T.keep _ _ _ st5 λb hb o e=>(I7.pin (b,o) (iw _ (iw _ (Kf hb e)))).1,λb hb=>?_,w7};obtain⟨o,e,d⟩:=T.obj _ _ st5 b hb;exact(I7.pin (b,o) (iw _ (iw _ (Kf hb e)))).2.1
  cases f with
  |next=>obtain⟨QW,H7,I7,n7⟩:=q7;exact again I7 n7
  |cont=>obtain⟨QW,H7,I7,n7⟩:=q7;exact again I7 n7
  |brk=>obtain⟨QW,H7,I7,q7⟩:=q7;exact⟨QW,H7,I7.unpinned,q7⟩
  |ret v=>obtain⟨x7,QW,H7,I7,r7,q7⟩:=q7;exact⟨x7,QW,H7,I7.unpinned,r7,q7⟩
end
theorem Os {K:d6}{a:eh}{g:TG}{tb:TS}{G:St}(Pv:Nat->St->Hp->Prop)(h0:Pv 0 G H)(hl:∀i G H,i<=xs.9->Pv i G H->SqL K H a xs)
  (hs:∀i x G H,xs[i]?=KH x->Pv i G H->g x G H λQS H2=>tb { D with nx:=Pv (i+1),ct:=Pv (i+1),bk:=D.nx } QS H2)(hd:∀G H,Pv xs.9 G H->D.nx G H) :
  ∃W:Nat->Nat->St->Hp->Prop,(∃m,W 0 m G H)/\∀i m G H,W i m G H ->
   ((Itl K a).stop i H/\D.nx G H)\/((Itl K a).go i H/\∃N:St->Hp->Prop,(∀QM H',N QM H'->∃m',m'<m/\W (i+1) m' QM H')/\∀x H',(Itl K a).yld i H x H'->g x G H' λQS H2=>tb { D with nx:=N,ct:=N,bk:=D.nx } QS H2):=by
 refine{λi m G H=>m=xs.9-i/\i<=xs.9/\Pv i G H,{xs.9,by simp,gn _,h0},?_};rintro i m G H ⟨rfl,hi,p⟩;have q:=hl i G H hi p
 by_cases hlt:i<xs.9
 .refine .inr {{xs,xs[i],q,by simp[hlt]},Pv (i+1),λQM H' p'=>{xs.9-(i+1),(),rfl,hlt,p'},λx H' y=>?_}
  obtain⟨e,y⟩:=y;subst e;exact hs i x G _ (y xs q) p
 .have e:i=xs.9:=()
  subst e;exact .inl {{xs,q,d8 _},hd G H p}
theorem Ack {K:d6}{a:eh}{g:TG}{tb:TS}{G:St}(Pv:Nat->St->Hp->Prop)(h0:Pv 0 G H)(hl:∀i G H,i<=xs.9->Pv i G H->SqT K H a xs)
  (hs:∀i x G H,xs[i]?=KH x->Pv i G H->g x G H λQS H2=>tb { D with nx:=Pv (i+1),ct:=Pv (i+1),bk:=D.nx } QS H2)(hd:∀G H,Pv xs.9 G H->D.nx G H) :
  ∃W:Nat->Nat->St->Hp->Prop,(∃m,W 0 m G H)/\∀i m G H,W i m G H ->
   ((Itt K a).stop i H/\D.nx G H)\/((Itt K a).go i H/\∃N:St->Hp->Prop,(∀QM H',N QM H'->∃m',m'<m/\W (i+1) m' QM H')/\∀x H',(Itt K a).yld i H x H'->g x G H' λQS H2=>tb { D with nx:=N,ct:=N,bk:=D.nx } QS H2):=by
 refine{λi m G H=>m=xs.9-i/\i<=xs.9/\Pv i G H,{xs.9,by simp,gn _,h0},?_};rintro i m G H ⟨rfl,hi,p⟩;have q:=hl i G H hi p
 by_cases hlt:i<xs.9
 .refine .inr {{xs,xs[i],q,by simp[hlt]},Pv (i+1),λQM H' p'=>{xs.9-(i+1),(),rfl,hlt,p'},λx H' y=>?_}
  obtain⟨e,y⟩:=y;subst e;exact hs i x G _ (y xs q) p
 .have e:i=xs.9:=()
  subst e;exact .inl {{xs,q,d8 _},hd G H p}
theorem Mf {lo:Int}{g:TG}{tb:TS}{G:St}(Pv:Nat->St->Hp->Prop)(h0:Pv 0 G H)
  (hs:∀i G H,i<n->Pv i G H->g (.int (lo+i)) G H λQS H2=>tb { D with nx:=Pv (i+1),ct:=Pv (i+1),bk:=D.nx } QS H2)(hd:∀G H,Pv n G H->D.nx G H) :
  ∃W:Nat->Nat->St->Hp->Prop,(∃m,W 0 m G H)/\∀i m G H,W i m G H ->
   ((Itr lo n).stop i H/\D.nx G H)\/((Itr lo n).go i H/\∃N:St->Hp->Prop,(∀QM H',N QM H'->∃m',m'<m/\W (i+1) m' QM H')/\∀x H',(Itr lo n).yld i H x H'->g x G H' λQS H2=>tb { D with nx:=N,ct:=N,bk:=D.nx } QS H2):=by
 refine{λi m G H=>m=n-i/\i<=n/\Pv i G H,{n,by simp,gn _,h0},?_};rintro i m G H ⟨rfl,hi,p⟩
 by_cases hlt:i<n
 .refine .inr {hlt,Pv (i+1),λQM H' p'=>{n-(i+1),(),rfl,hlt,p'},λx H' y=>?_}
  obtain⟨e,y⟩:=y;subst e y;exact hs i G _ hlt p
 .have e:i=n:=()
  subst e;exact .inl {d8 _,hd G H p}
abbrev R2:=V->V->Hp->VK->Prop
def OpR (X:Cx)(f:fj->fj->Sem fj)(r:R2):Prop:=
 ∀(pins:Za1) (s:ft) (G:St) (H:Hp) (x y:V) (v u:fj) (Q:VK),Inv X pins G H s->A8 x v->A8 y u->r x y H Q ->
  wpAny (model X.prog X.w) X.A (f v u) (EP X pins G Q) X.xe s
def UnR (X:Cx)(f:fj->Sem fj)(r:V->Hp->VK->Prop):Prop:=
 ∀(pins:Za1) (s:ft) (G:St) (H:Hp) (x:V) (v:fj) (Q:VK),Inv X pins G H s->A8 x v->r x H Q ->
  wpAny (model X.prog X.w) X.A (f v) (EP X pins G Q) X.xe s
def Em (X:Cx)(f:fj)(r:List V->Hp->VK->Prop):Prop:=
 ∀(pins:Za1) (s:ft) (G:St) (H:Hp) (xs:List V) (us:Za3) (Q:VK),Inv X pins G H s->Ax xs us->r xs H Q ->
  wpAny (model X.prog X.w) X.A (call f us) (EP X pins G Q) X.xe s
def tOp (r:R2)(ta tb:TE):TE:=λG H Q=>ta G H λx H1=>tb G H1 λy H2=>r x y H2 Q
def tUn (r:V->Hp->VK->Prop)(ta:TE):TE:=λG H Q=>ta G H λx H1=>r x H1 Q
def rI (C:Int->Int->Prop)(g:Int->Int->V):R2:=λx y H Q=>∃i j,x=.int i/\y=.int j/\C i j/\Q (g i j) H
def rI0 (g:Int->Int->V):R2:=λx y H Q=>∃i j,x=.int i/\y=.int j/\Q (g i j) H
def rU (g:Int->V):V->Hp->VK->Prop:=λx H Q=>∃i,x=.int i/\Q (g i) H
section
variable {X:Cx} {a b c:ja} {ta tb tc:TE} {pos:Pos}
theorem Afv (ha:PE X a ta)(hb:PE X b tb){G:St}{R:V->V->Hp->Prop}(I:Inv X pins G H s)
  (h:ta G H λx H1=>tb G H1 λy H2=>R x y H2){Q:Za0}{f:fj->fj->Sem fj}
  (hf:∀v u s2 x y H2,Inv X pins G H2 s2->A8 x v->A8 y u->R x y H2->wpAny (model X.prog X.w) X.A (f v u) Q X.xe s2) :
  wpAny (model X.prog X.w) X.A (eval a X.env) (λv QN=>wpAny (model X.prog X.w) X.A (eval b X.env) (λu QY=>wpAny (model X.prog X.w) X.A (f v u) Q X.xe QY) X.xe QN) X.xe s:=by
 refine thE ha I h λv s1 x H1 I1 r1 q1=>?_;refine thE hb I1 q1 λu s2 y H2 I2 r2 q2=>?_;exact hf v u s2 x y H2 I2 r1 r2 q2
theorem Ak {op:ER}{r:R2}(ho:OpR X (binaryOp op) r)(ha:PE X a ta)(hb:PE X b tb):PE X (.BinOp a op b pos) (tOp r ta tb):=by
 k_in;exact wpAny_BinOp (Afv ha hb I h λv u s2 x y H2 I2 rx ry q=>ho pins s2 G H2 x y v u Q I2 rx ry q)
theorem Fz {op:UnaryOp}{r:V->Hp->VK->Prop}(ho:UnR X (unaryOp op) r)(ha:PE X a ta):PE X (.UnaryOp op a pos) (tUn r ta):=by
 k_in;exact UnaryOp_ (thE ha I h λv s1 x H1 I1 r1 q1=>ho pins s1 G H1 x v Q I1 r1 q1)
theorem opI {f:fj->fj->Sem fj}{C:Int->Int->Prop}{g:Int->Int->Int}
  (rule:∀(i j:Int) (t u:Tok) (s:ft) (Q:Za0) (E:Za0),C i j->Q (.int (g i j) s.toks) { s with toks:=s.toks+1 }->wpAny (model X.prog X.w) X.A (f (.int i t) (.int j u)) Q E s) :
  OpR X f (rI C λi j=>.int (g i j)):=by
 intro pins s G H x y v u Q I rx ry h;obtain⟨i,j,rfl,rfl,hc,q⟩:=h;obtain⟨t,rfl⟩:=rx;obtain⟨t',rfl⟩:=ry;exact rule i j t t' s _ _ hc {.int (g i j),H,I.tok _,{_,rfl},q}
theorem Aa4 {f:fj->fj->Sem fj}{g:Int->Int->Int}
  (rule:∀(i j:Int) (t u:Tok) (s:ft) (Q:Za0) (E:Za0),Q (.int (g i j) s.toks) { s with toks:=s.toks+1 }->wpAny (model X.prog X.w) X.A (f (.int i t) (.int j u)) Q E s) :
  OpR X f (rI0 λi j=>.int (g i j)):=by
 intro pins s G H x y v u Q I rx ry h;obtain⟨i,j,rfl,rfl,q⟩:=h;obtain⟨t,rfl⟩:=rx;obtain⟨t',rfl⟩:=ry;exact rule i j t t' s _ _ {.int (g i j),H,I.tok _,{_,rfl},q}
theorem Aaw {f:fj->fj->Sem fj}{g:Int->Int->Bool}
  (rule:∀(i j:Int) (t u:Tok) (s:ft) (Q:Za0) (E:Za0),Q (.bool (g i j)) s->wpAny (model X.prog X.w) X.A (f (.int i t) (.int j u)) Q E s) :
  OpR X f (rI0 λi j=>.bl (g i j)):=by
 intro pins s G H x y v u Q I rx ry h;obtain⟨i,j,rfl,rfl,q⟩:=h;obtain⟨t,rfl⟩:=rx;obtain⟨t',rfl⟩:=ry;exact rule i j t t' s _ _ {.bl (g i j),H,I,rfl,q}
def Agq (i j:Int):Prop:=0<j/\j<1073741824
def Ai4 (i j:Int):Prop:=0<=j/\j<=1000000/\i.natAbs<2 ^ 64
def wX (i j:Int):Prop:=(-(2 ^ 64)<i/\i<2 ^ 64)\/(-(2 ^ 64)<j/\j<2 ^ 64)
theorem wX.ok {i j:Int}(h:wX i j):IntMulOk i j:=by
 rcases h with⟨h1,h2⟩|⟨h1,h2⟩
 .exact .of_left (JH h1 h2)
 .exact .of_right (JH h1 h2)
theorem W7 (k:Nat):(0:Int)<=2 ^ k:=by
 rw[two_pow_cast];exact kt _
theorem Bd:OpR X (binaryOp .Add) (rI0 λi j=>.int (i+j)):=Aa4 λ_ _ _ _ _ _ _ q=>add_int q
theorem B6:OpR X (binaryOp .Sub) (rI0 λi j=>.int (i-j)):=Aa4 λ_ _ _ _ _ _ _ q=>sub_int q
theorem Eb:OpR X (binaryOp .Mult) (rI wX λi j=>.int (i*j)):=opI λ_ _ _ _ _ _ _ hc q=>mul_int q hc.ok
theorem Cr:OpR X (binaryOp .FloorDiv) (rI Agq λi j=>.int (i/j)):=opI λi j _ _ _ _ _ hc q=>by
 have h1:(0:Int)<j:=hc.1;have h2:j<1073741824:=hc.2;exact floordiv_int () (by rw[uf i ()];exact q) (.inl (uw ()))
theorem Cm:OpR X (binaryOp .Mod) (rI (λ_ j=>0<j) λi j=>.int (i%j)):=opI λi j _ _ _ _ _ hc q=>by
 have h1:(0:Int)<j:=hc;exact mod_int' () (by rw[Int.fmod_eq_emod_of_nonneg i ()];exact q)
theorem Ad7:OpR X (binaryOp .LShift) (rI Ai4 λi j=>.int (i*2 ^ j.toNat)):=opI λ_ _ _ _ _ _ _ hc q=>lshift_int_small hc.1 hc.2.1 hc.2.2 q
theorem oK:OpR X (binaryOp .RShift) (rI (λ_ j=>0<=j) λi j=>.int (i/2 ^ j.toNat)):=opI λi j _ _ _ _ _ hc q=>
 rshift_int hc (by rw[uf i (W7 _)];exact q)
theorem Nn:OpR X (binaryOp .BitAnd) (rI0 λi j=>.int (l5 i j)):=Aa4 λ_ _ _ _ _ _ _ q=>and_int q
theorem mK:OpR X (binaryOp .BitXor) (rI0 λi j=>.int (vx i j)):=Aa4 λ_ _ _ _ _ _ _ q=>xor_int q
theorem rW:OpR X (inplaceOp .RShift) (rI (λ_ j=>0<=j) λi j=>.int (i/2 ^ j.toNat)):=opI λi j _ _ _ _ _ hc q=>
 irshift_int hc (by rw[uf i (W7 _)];exact q)
theorem unI {f:fj->Sem fj}{g:Int->Int}
  (rule:∀(i:Int) (t:Tok) (s:ft) (Q:Za0) (E:Za0),Q (.int (g i) s.toks) { s with toks:=s.toks+1 }->wpAny (model X.prog X.w) X.A (f (.int i t)) Q E s) :
  UnR X f (rU λi=>.int (g i)):=by
 intro pins s G H x v Q I rx h;obtain⟨i,rfl,q⟩:=h;obtain⟨t,rfl⟩:=rx;exact rule i t s _ _ {.int (g i),H,I.tok _,{_,rfl},q}
theorem C8:UnR X (unaryOp .USub) (rU λi=>.int (-i)):=unI λ_ _ _ _ _ q=>neg_int q
end
def yT:V->V->Bool
 |.non,.non=>KJ|.non,.int _=>KJ|.int _,.non=>KJ|.non,.bl _=>KJ|.bl _,.non=>KJ|.non,.str _=>KJ|.str _,.non=>KJ
 |.int _,.int _=>KJ|.bl _,.bl _=>KJ|.str _,.str _=>KJ|.byt _,.byt _=>KJ
 |.int _,.str _=>KJ|.str _,.int _=>KJ|.bl _,.str _=>KJ|.str _,.bl _=>KJ
 |_,_=>KL
def rEq:R2:=λx y H Q=>yT x y=KJ/\Q (.bl (decide (x=y))) H
def rNe:R2:=λx y H Q=>yT x y=KJ/\Q (.bl (!decide (x=y))) H
theorem rS {i j:Int}:decide (V.int i=V.int j)=(i==j):=by
 rw[vy];simp
theorem zP {i j:Bool}:decide (V.bl i=V.bl j)=(i==j):=by
 rw[vy];simp
theorem pO {i j:Str}:decide (V.str i=V.str j)=(i==j):=by
 rw[vy];simp
theorem qO {i j:Array UInt8}:decide (V.byt i=V.byt j)=(i.7==j.7):=by
 rw[vy];cases i;cases j;simp
section
variable {X:Cx} {a b c:ja} {ta tb tc:TE} {pos:Pos}
theorem Bw {G:St}{Q:VK}{k k':Bool}(I:Inv X pins G H s)(q:Q (.bl k) H)(e:k=k'):EP X pins G Q (.bool k') s:=by
 subst e;exact{.bl k,H,I,rfl,q}
theorem Dt:OpR X (compareOp .Eq) rEq:=by
 intro pins s G H x y v u Q I rx ry h;obtain⟨hs,q⟩:=h
 cases x with
 |non=>
  cases rx
  cases y with
  |non=>cases ry;exact HX (Bw I q (by simp))
  |bl j=>cases ry;exact HZ (Bw I q (by simp))
  |int j=>obtain⟨t',rfl⟩:=ry;exact HY (Bw I q (by simp))
  |str j=>obtain⟨t',rfl⟩:=ry;exact HW (Bw I q (by simp))
  |_=>exact absurd (show KL=KJ from hs) gy
 |bl i=>
  cases rx
  cases y with
  |non=>cases ry;exact IC (Bw I q (by simp))
  |bl j=>cases ry;exact eq_bool (Bw I q zP)
  |str j=>obtain⟨t',rfl⟩:=ry;exact GV (Bw I q (by simp))
  |_=>exact absurd (show KL=KJ from hs) gy
 |int i=>
  obtain⟨t,rfl⟩:=rx
  cases y with
  |non=>cases ry;exact IA (Bw I q (by simp))
  |int j=>obtain⟨t',rfl⟩:=ry;exact eq_int (Bw I q rS)
  |str j=>obtain⟨t',rfl⟩:=ry;exact GU (Bw I q (by simp))
  |_=>exact absurd (show KL=KJ from hs) gy
 |str i=>
  obtain⟨t,rfl⟩:=rx
  cases y with
  |non=>cases ry;exact HV (Bw I q (by simp))
  |bl j=>cases ry;exact GT (Bw I q (by simp))
  |int j=>obtain⟨t',rfl⟩:=ry;exact GS (Bw I q (by simp))
  |str j=>obtain⟨t',rfl⟩:=ry;exact eq_str (Bw I q pO)
  |_=>exact absurd (show KL=KJ from hs) gy
 |byt i=>
  obtain⟨t,rfl⟩:=rx
  cases y with
  |byt j=>obtain⟨t',rfl⟩:=ry;exact PySem.W.eq_bytes (Bw I q qO)
  |_=>exact absurd (show KL=KJ from hs) gy
 |_=>cases y<;>exact absurd (show KL=KJ from hs) gy
theorem Uv:OpR X (compareOp .NotEq) rNe:=by
 intro pins s G H x y v u Q I rx ry h;obtain⟨hs,q⟩:=h
 cases x with
 |non=>
  cases rx
  cases y with
  |non=>cases ry;exact HP (Bw I q (by simp))
  |bl j=>cases ry;exact HR (Bw I q (by simp))
  |int j=>obtain⟨t',rfl⟩:=ry;exact HQ (Bw I q (by simp))
  |str j=>obtain⟨t',rfl⟩:=ry;exact HN (Bw I q (by simp))
  |_=>exact absurd (show KL=KJ from hs) gy
 |bl i=>
  cases rx
  cases y with
  |non=>cases ry;exact HU (Bw I q (by simp))
  |bl j=>cases ry;exact ne_bool (Bw I q (congrArg not zP))
  |str j=>obtain⟨t',rfl⟩:=ry;exact GR (Bw I q (by simp))
  |_=>exact absurd (show KL=KJ from hs) gy
 |int i=>
  obtain⟨t,rfl⟩:=rx
  cases y with
  |non=>cases ry;exact HS (Bw I q (by simp))
  |int j=>obtain⟨t',rfl⟩:=ry;exact ne_int (Bw I q (congrArg not rS))
  |str j=>obtain⟨t',rfl⟩:=ry;exact GQ (Bw I q (by simp))
  |_=>exact absurd (show KL=KJ from hs) gy
 |str i=>
  obtain⟨t,rfl⟩:=rx
  cases y with
  |non=>cases ry;exact HM (Bw I q (by simp))
  |bl j=>cases ry;exact GP (Bw I q (by simp))
  |int j=>obtain⟨t',rfl⟩:=ry;exact GO (Bw I q (by simp))
  |str j=>obtain⟨t',rfl⟩:=ry;exact ne_str (Bw I q (congrArg not pO))
  |_=>exact absurd (show KL=KJ from hs) gy
 |byt i=>
  obtain⟨t,rfl⟩:=rx
  cases y with
  |byt j=>obtain⟨t',rfl⟩:=ry;exact PySem.W.ne_bytes (Bw I q (congrArg not qO))
  |_=>exact absurd (show KL=KJ from hs) gy
 |_=>cases y<;>exact absurd (show KL=KJ from hs) gy
theorem O9:OpR X (compareOp .Lt) (rI0 λi j=>.bl (decide (i<j))):=Aaw λ_ _ _ _ _ _ _ q=>lt_int q
theorem qP:OpR X (compareOp .LtE) (rI0 λi j=>.bl (decide (i<=j))):=Aaw λ_ _ _ _ _ _ _ q=>le_int q
theorem F5:OpR X (compareOp .Gt) (rI0 λi j=>.bl (decide (j<i))):=Aaw λ_ _ _ _ _ _ _ q=>gt_int q
theorem oZ:OpR X (compareOp .GtE) (rI0 λi j=>.bl (decide (j<=i))):=Aaw λ_ _ _ _ _ _ _ q=>ge_int q
theorem uF:OpR X (compareOp .In) (λx y H Q=>∃i j,x=.str i/\y=.str j/\Q (.bl (!(mr j i 0 j.9 1).isEmpty)) H):=by
 intro pins s G H x y v u Q I rx ry h;obtain⟨i,j,rfl,rfl,q⟩:=h;obtain⟨t,rfl⟩:=rx;obtain⟨t',rfl⟩:=ry;exact in_str (Bw I q rfl)
theorem wG (b:ja)(h:autoParam (op≠.In) QF)(h2:autoParam (op≠.NotIn) QF):behindInMarks op b=KL:=by
 have e1:(op==JC)=KL:=by cases op<;>first|rfl|exact absurd rfl h
 have e2:(op==GK)=KL:=by cases op<;>first|rfl|exact absurd rfl h2
 cases b<;>simp[behindInMarks,e1,e2]
theorem qX {r:R2}(ho:OpR X (compareOp op) r)(ha:PE X a ta)(hb:PE X b tb)(hm:behindInMarks op b=KL):PE X (.Compare a [op] [b] pos) (tOp r ta tb):=by
 k_in;exact wpAny_Compare1 (Afv ha hb I h λv u s2 x y H2 I2 rx ry q=>ho pins s2 G H2 x y v u Q I2 rx ry q) hm
def wY (t:TE):TT:=λG H Q=>t G H λx H'=>∃k,x=.bl k/\Q k H'
theorem Td {r:R2}(ho:OpR X (compareOp op) r)(ha:PE X a ta)(hb:PE X b tb)(hm:behindInMarks op b=KL):PT X (.Compare a [op] [b] pos) (wY (tOp r ta tb)):=by
 k_in;refine wpAny_isTrue_Compare1 (thE ha I h λv s1 x H1 I1 r1 q1=>thE hb I1 q1 λu s2 y H2 I2 r2 q2=>
  thn (ho pins s2 G H2 x y v u _ I2 r1 r2 q2) λc s3 ⟨z,H3,I3,r3,k,e,q3⟩=>?_) hm
 subst e;cases r3;exact n9 ⟨H3,I3,q3⟩
def zS (r r':R2)(ta tb tc:TE):TE:=λG H Q=>ta G H λx H1=>tb G H1 λy H2=>r x y H2 λz H3=>∃k,z=.bl k /\
 (if k=KJ then tc G H3 λw' H4=>r' y w' H4 Q else Q (.bl KL) H3)
theorem lF {op':w6}{r r':R2}(ho:OpR X (compareOp op) r)(ho':OpR X (compareOp op') r')(ha:PE X a ta)(hb:PE X b tb)(hc:PE X c tc)
  (hm:lastMarks [op,op'] [b,c]=KL:=by with_unfolding_all rfl):PE X (.Compare a [op,op'] [b,c] pos) (zS r r' ta tb tc):=by
 k_in;refine Compare_chain (thE ha I h λv s1 x H1 I1 r1 q1=>chain_link (thE hb I1 q1 λu s2 y H2 I2 r2 q2=>
  thn (ho pins s2 G H2 x y v u _ I2 r1 r2 q2) λd s3 ⟨z,H3,I3,r3,k,e,q3⟩=>?_)) hm
 subst e;cases r3;refine n9 ?_
 cases k with
 |false=>exact ite_ff {.bl KL,H3,I3,rfl,q3}
 |true=>exact ite_tt (chain_last (thn (hc pins s3 G H3 _ I3 q3) λw' s4 ⟨z',H4,I4,r4,q4⟩=>ho' pins s4 G H4 y z' u w' Q I4 r2 r4 q4))
theorem Ls:(sizeLine:Nat)<2 ^ 63:=by rw[EM];decide
theorem Kb:OpR X (binaryOp .Add) (λx y H Q=>∃i j,x=.str i/\y=.str j/\i.9+j.9<=sizeLine/\Q (.str (i++j)) H):=by
 intro pins s G H x y v u Q I rx ry h;obtain⟨i,j,rfl,rfl,hz,q⟩:=h;obtain⟨t,rfl⟩:=rx;obtain⟨t',rfl⟩:=ry;exact add_str (λt' tk=>{.str (i++j),H,I.tok _,{_,rfl},q}) hz
theorem Fl {x:V}(r:Ax [x] us):∃u,us=[u]/\A8 x u:=by
 cases r with
 |cons r1 r2=>cases r2;exact{_,rfl,r1}
theorem Ng {x:V}(r:Ax [x,y] us):∃u w',us=[u,w']/\A8 x u/\A8 y w':=by
 cases r with
 |cons r1 r2=>
  cases r2 with
  |cons r3 r4=>cases r4;exact{_,_,rfl,r1,r3}
theorem yE:Em X (.builtin "abs") (λxs H Q=>∃i,xs=[.int i]/\Q (.int (if i<0 then -i else i)) H):=by
 intro pins s G H xs us Q I r h;obtain⟨i,rfl,q⟩:=h;obtain⟨u,rfl,t,rfl⟩:=Fl r;exact call_abs_int λu tk=>{.int (if i<0 then -i else i),H,I.tok _,{_,rfl},q}
theorem uG (hc:X.calm=KJ):Em X (.builtin "max") (λxs H Q=>∃i j,xs=[.int i,.int j]/\Q (.int (if j>i then j else i)) H):=by
 intro pins s G H xs us Q I r h;obtain⟨i,j,rfl,q⟩:=h;obtain⟨u,w',rfl,⟨t,rfl⟩,⟨t',rfl⟩⟩:=Ng r;refine max_two_ints (I.ok.hd hc) λh' tk k=>{_,H,I.kept k,?_,q}
 by_cases hj:j>i
 .rw[if_pos hj,if_pos hj];exact{_,rfl}
 .rw[if_neg hj,if_neg hj];exact{_,rfl}
theorem Rq (hc:X.calm=KJ):Em X (.builtin "min") (λxs H Q=>∃i j,xs=[.int i,.int j]/\Q (.int (if j<i then j else i)) H):=by
 intro pins s G H xs us Q I r h;obtain⟨i,j,rfl,q⟩:=h;obtain⟨u,w',rfl,⟨t,rfl⟩,⟨t',rfl⟩⟩:=Ng r;refine min_two_ints (I.ok.hd hc) λh' tk k=>{_,H,I.kept k,?_,q}
 by_cases hj:j<i
 .rw[if_pos hj,if_pos hj];exact{_,rfl}
 .rw[if_neg hj,if_neg hj];exact{_,rfl}
theorem sJ:Em X (.type "int") (λxs H Q=>(∃i,xs=[.int i]/\Q (.int i) H)\/∃k,xs=[.bl k]/\Q (.int (if k then 1 else 0)) H):=by
 intro pins s G H xs us Q I r h;rcases h with⟨i,rfl,q⟩|⟨k,rfl,q⟩
 .obtain⟨u,rfl,t,rfl⟩:=Fl r
  exact call_int_int {.int i,H,I,{_,rfl},q}
 .obtain⟨u,rfl,r1⟩:=Fl r
  cases r1;exact call_int_bool {.int (if k then 1 else 0),H,I.tok _,{_,rfl},q}
end
structure mG (h:jm) (x dx C:eh) (mA:Za2):Prop where
 obj:h.get? x=KH (instObj C dx)
 ns:h.Ns1 dx mA
 ne:dx≠x
theorem uJ {mA:Za2}(n:h.Ns1 dx mA):∃od,h.get? dx=KH od/\∀name,lookIn name od=KH (mA name):=by
 obtain⟨o,es,ep,ho,hd,hk,_,hm⟩:=n;refine{o,ho,λname=>?_};have e:=hm name;unfold nsFind findBy at e;rw[<-Array.find?_toList] at e;unfold lookIn;rw[hd];dsimp only;split
 .rename_i y q
  rw[q] at e;exact congrArg KH e
 .rename_i q
  rw[q] at e;have a:es.toList.any (·.refKey)=KL:=by
   rw[List.any_eq_false];intro y hy;obtain⟨z,t,hkey⟩:=hk y (Array.mem_toList_iff.mp hy);simp[KF,hkey]
  have a':¬ es.toList.any (·.refKey)=KJ:=by rw[a];exact gy
  rw[if_neg a'];exact congrArg KH e
theorem mG.look {x:eh}{mA:Za2}(I:mG h x dx C mA):∃od,PySem.W.InstAt h x (instObj C dx) C (KH od)/\∀name,lookIn name od=KH (mA name):=
 let ⟨od,ho,hl⟩:=uJ I.ns
 {od,⟨I.obj,rfl,rfl,ho⟩,hl}
section
variable {prog:gl} {w:ip} {A:i9} {E:Za0} {s:ft} {K:d6} {x dx C f:eh} {mA:Za2} {name:Str} {v:fj}
theorem Acf {expr:Bool}{Q:Za0}(X:K.In s.5)(I:mG s.5 x dx C mA)(hg:ui K C name=KJ)(hh:xa K C=KJ)
  (ha:j8 K (.ref C) name=KH KI)(hv:mA name=KH v)(hv':CJ v=KJ)(h:Q v { s with toks:=s.toks+1 }) :
  wpAny (model prog w) A (getAttr (.ref x) name expr) Q E s:=by
 obtain⟨od,J,hl⟩:=I.look;exact PySem.W.get_value X J (wb hg).1 (PySem.W.findObj_own hh ha rfl (by rw[hl,hv])) hv' h
theorem yS {Q:fj×Za3->ft->Prop}(X:K.In s.5)(I:mG s.5 x dx C mA)(hg:ui K C name=KJ)
  (hf:j8 K (.ref C) name=KH (KH (.ref f)))(ht:qo K (.ref f)=KJ)(hv:mA name=KI)(h:Q (.ref f,[.ref x]) s) :
  wpAny (model prog w) A (getMethod (.ref x) name pl) Q E s:=by
 obtain⟨od,J,hl⟩:=I.look;exact PySem.W.method_fn X J (wb hg).1 (wb hg).2 hf (beq_iff_eq.mp ht) (by show(lookIn name od).map (·.isSome)=KH KL;rw[hl,hv];rfl) h
theorem Aa5 {ns:Za6}{Q:Unit->ft->Prop}(X:K.In s.5)(I:mG s.5 x dx C mA)
  (hs:j8 K (.ref C) "__setattr__"=KH (KH (.builtin "object.__setattr__")))(hp:BK K C=KJ)(ht:ya K C name=KH KI)(hh:xa K C=KJ)
  (hw:AG mA ns)(hsz:ns.9<=sizeLine)
  (h:∀h',mG h' x dx C (λy=>if y=name then KH v else mA y)->ve dx s.5 h'->Q .unit { s with heap:=h',toks:=s.toks+2 }) :
  wpAny (model prog w) A (setAttr (.ref x) name v) Q E s:=by
 obtain⟨od,J,hl⟩:=I.look;refine PySem.W.set_plain X J hs (PySem.W.osa_open (s:={ s with toks:=s.toks+1 }) (r:=KI) X J hp ht λb=>?_);obtain⟨cd,hc,hd'⟩:=PySem.W.any_some hh;have hx:s.heap.get? x=KH {.ref C,KH dx,.plain,#[]}:=I.obj;refine wpAny_bind (fq (wpAny_bind (wpAny_bind (wpAny_loadPart hx (wpAny_bind (GM (s:={ s with toks:=s.toks+1 }) (PySem.W.looks_clsIn X hc) ?_))))));rw[hd'];refine fq (a:=KH dx) (wpAny_bind (fq (wpAny_bind ?_)));refine wpAny_nsSet1 (s:={ s with toks:=s.toks+1 }) I.ns λh' hn2 hs2=>?_;obtain⟨oD,esD,epD,hoD,hdD,hcD⟩:=hn2.count (HI name v hw);refine wpAny_bind (wpAny_lookBehind hoD (by rw[hdD];exact pastItsLine_dict (iy hcD (by rw[gm];lia))) ?_);exact fq (h _ {(hs2.2 _ (rk I.ne)).trans I.obj,hn2,I.ne} hs2)
theorem zT {R:xu->ft->Prop}{kw:List (Str×fj)}(X:K.In s.5)(hm:CW K C=KJ)
  (hi:j8 K (.ref C) "__init__"=KH (KH (.ref f)))(hf:PySem.W.typeIn K (.ref f)=KH (.type "function"))
  (h:codeAny (model prog w) (A.under (.builtin "type.__call__" {.ref C::vs,kw})) (.call (.ref f) {.ref (s.heap.objs.8+1)::vs,kw}) (PySem.W.InitBack (s.heap.objs.8+1) R)
   { s with heap:=(s.heap.push emptyDict).push (instObj C s.heap.objs.8) }) :
  codeAny (model prog w) A (.call (.ref C) ⟨vs,kw⟩) R s:=by
 obtain⟨hh,g,d,t,os⟩:=s;exact PySem.W.make_core (PySem.W.makes_of X hm) (PySem.W.looks_findIn X hi) (λself=>PySem.W.bind_fn X self hf) (.inl rfl) h
end
def Ga (f : Str)(v : V) : List (Str × V)->List (Str × V)
  | [] => [(f, v)]
  | (g, x) :: r => if g = f then (g, v) :: r else (g, x) :: Ga f v r
theorem Sc (f g:Str)(v:V):∀ fs:List (Str×V),(Ga f v fs).lookup g=if g=f then KH v else fs.lookup g
  | [] => by
    show ow g [(f, v)] = _
    by_cases h : g = f
    · have hb : (g == f) = KJ := beq_iff_eq.mpr h
      simp only [ow, hb, if_pos h]
    · have hb : (g == f) = KL := beq_eq_false_iff_ne.mpr h
      simp only [ow, hb, if_neg h]
  | (k, x) :: r => by
    have ih := Sc f g v r;rw [show Ga f v ((k, x) :: r) = (if k = f then (k, v) :: r else (k, x) :: Ga f v r) from rfl]
    by_cases hk : k = f
    · rw [if_pos hk]
      by_cases h : g = k
      · have hb : (g == k) = KJ := beq_iff_eq.mpr h
        simp only [ow, hb, if_pos (h.trans hk)]
      · have hb : (g == k) = KL := beq_eq_false_iff_ne.mpr h
        simp only [ow, hb, if_neg (λe : g = f => h (e.trans hk.symm))]
    · rw [if_neg hk]
      by_cases h : g = k
      · have hb : (g == k) = KJ := beq_iff_eq.mpr h
        simp only [ow, hb, if_neg (λe : g = f => hk (h.symm.trans e))]
      · have hb : (g == k) = KL := beq_eq_false_iff_ne.mpr h
        simp only [ow, hb];exact ih
theorem Rf (f:Str)(v:V):∀ fs:List (Str×V),f∈(Ga f v fs).map (·.1)/\∀ g,g∈fs.map (·.1)->g∈(Ga f v fs).map (·.1)
  | [] => {by simp [Ga], λg h => by simp at h}
  | (k, x) :: r => by
    obtain ⟨i1, i2⟩ := Rf f v r;rw [show Ga f v ((k, x) :: r) = (if k = f then (k, v) :: r else (k, x) :: Ga f v r) from rfl]
    by_cases hk : k = f
    · rw [if_pos hk]
      subst hk;exact {by simp, λg h => by simpa using h}
    · rw [if_neg hk]
      refine {?_, λg h => ?_}
      · rw [iu]
        exact gt _ i1
      · rw [iu] at h ⊢
        rcases ir.mp h with e | e
        · exact ir.mpr (.inl e)
        · exact gt _ (i2 g e)
theorem Sl (f:Str)(v:V):∀ fs:List (Str×V),(Ga f v fs).9<=fs.9+1
  | [] => by simp [Ga]
  | (k, x) :: r => by
    have ih := Sl f v r;rw [show Ga f v ((k, x) :: r) = (if k = f then (k, v) :: r else (k, x) :: Ga f v r) from rfl]
    by_cases hk : k = f
    · rw [if_pos hk, gm, gm]; lia
    · rw [if_neg hk, gm, gm]; lia
theorem Oe.some_of {v:V}{o:Za7}(r:Oe (KH v) o):∃u,o=KH u/\A8 v u:=by
 cases o with
 |none=>exact(show False from r).elim
 |some u=>exact⟨u,rfl,r⟩
theorem Oe.none_of {o:Za7}(r:Oe KI o):o=KI:=by
 cases o with
 |none=>rfl
 |some u=>exact(show False from r).elim
theorem uS {v:V}{u:fj}(r:A8 v u):CJ u=KJ:=by
 cases v with
 |non=>cases(show u=tj from r);rfl
 |bl b=>cases(show u=zc b from r);rfl
 |int i=>obtain⟨t,e⟩:=(show ∃t,u=o6 i t from r);cases e;rfl
 |str x=>obtain⟨t,e⟩:=(show ∃t,u=ql x t from r);cases e;rfl
 |byt b=>obtain⟨t,e⟩:=(show ∃t,u=GA b t from r);cases e;rfl
 |flt b=>obtain⟨t,e⟩:=(show ∃t,u=BF b t from r);cases e;rfl
 |ref a=>cases(show u=jc a from r);rfl
 |ty n=>cases(show u=kj n from r);rfl
section
variable {P:gl} {w:ip} {H H':Hp} {h h':jm} {a C dx:eh} {fs fs':List (Str×V)}
theorem Th (hok:HOk P w H h)(e:H a=KH (.ins C dx fs)):∃mA,mG h a dx C mA/\(∀f,Oe (fs.lookup f) (mA f))/\AG mA (fs.map (·.1))/\fs.9<=1000/\H dx=KH (.own a):=by
 obtain⟨d,z,ne,ob,mA,n,r,q⟩:=(show Ct P w H h a (.ins C dx fs) from hok a _ e);exact{mA,⟨ob,n,ne⟩,r,q,z,d}
end
structure Cls (K:d6) (C:eh):Prop where
 pg:ui K C yp=KJ
 hd:xa K C=KJ
 po:BK K C=KJ
 sa:j8 K (.ref C) "__setattr__"=KH (KH (.builtin "object.__setattr__"))
theorem Cls.get {K:d6}(c:Cls K C)(f:Str):ui K C f=KJ:=c.pg
def Bf (K:d6)(C:eh)(f:Str):Prop:=j8 K (.ref C) f=KH KI
theorem Bf.taker {K:d6}{f:Str}(n:Bf K C f):ya K C f=KH KI:=by
 unfold ya;rw[show j8 K (.ref C) f=KH KI from n];rfl
structure Abo (K:d6) (C:eh) (m:Str) (f:eh):Prop where
 at_:j8 K (.ref C) m=KH (KH (.ref f))
 fn:qo K (.ref f)=KJ
 kp:ki K (.ref f)=KJ
section
variable {X:Cx} {pins:Za1} {G:St} {H:Hp} {s:ft} {a C dx:eh} {fs:List (Str×V)} {f:Str} {v:V} {A:i9} {E:Za0}
theorem nS {b:Bool}{Q:Za0}(I:Inv X pins G H s)(e:H a=KH (.ins C dx fs))(c:Cls X.K C)(n:Bf X.K C f)(l:fs.lookup f=KH v)
  (h:∀u s',Inv X pins G H s'->A8 v u->Q u s'):wpAny (model X.prog X.w) A (getAttr (.ref a) f b) Q E s:=by
 obtain⟨mA,O,r,_,_,_⟩:=Th I.hok e;obtain⟨u,hu,ru⟩:=Oe.some_of (v:=v) (o:=mA f) (by rw[<-l];exact r f);exact Acf I.kIn O (c.get f) c.hd n hu (uS ru) (h u _ (I.tok _) ru)
theorem Vr {m:Str}{g:eh}{Q:fj×Za3->ft->Prop}(I:Inv X pins G H s)(e:H a=KH (.ins C dx fs))(c:Cls X.K C)(k:Abo X.K C m g)(l:fs.lookup m=KI)
  (h:Q (.ref g,[.ref a]) s):wpAny (model X.prog X.w) A (getMethod (.ref a) m pl) Q E s:=by
 obtain⟨mA,O,r,_,_,_⟩:=Th I.hok e;have hn:mA m=KI:=Oe.none_of (by rw[<-l];exact r m);exact yS I.kIn O (c.get m) k.at_ k.fn hn h
theorem mM {u:fj}{Q:Unit->ft->Prop}(I:Inv X pins G H s)(e:H a=KH (.ins C dx fs))(c:Cls X.K C)(n:Bf X.K C f)(hl:fs.9<1000)(ry:A8 y u)
  (h:∀s',Inv X pins G (upd H a (.ins C dx (Ga f y fs))) s'->Q .unit s'):wpAny (model X.prog X.w) A (setAttr (.ref a) f u) Q E s:=by
 obtain⟨mA,O,r,wi,_,ho⟩:=Th I.hok e;have hz:(fs.map (·.1)).9<=sizeLine:=by rw[d7,EM];lia
 refine Aa5 I.kIn O c.sa c.po n.taker c.hd wi hz λh' O' sb=>h _ ?_;have hd:∃o,h'.get? dx=KH o:=let ⟨o,_,_,e',_⟩:=O'.ns;⟨o,e'⟩;refine I.write (x:=a) (e:=dx) (by rw[e];exact qm) (.inr ho) (λb q hb z=>(sb.2 b hb).trans z) hd ?_;refine{by rw[Al O.ne];exact ho,?_,O.ne,O'.obj,_,O'.ns,λg=>?_,λg hg=>?_}
 .have:=Sl f y fs;lia
 .show Oe ((Ga f y fs).lookup g) (if g=f then KH u else mA g)
  rw[Sc]
  by_cases q:g=f
  .rw[if_pos q,if_pos q];exact ry
  .rw[if_neg q,if_neg q];exact r g
 .by_cases q:g=f
  .rw[q];exact(Rf f y fs).1
  .refine(Rf f y fs).2 g (wi g λz=>hg ?_)
   show(if g=f then KH u else mA g)=KI;rw[if_neg q];exact z
theorem Inv.made (I:Inv X pins G H s):Inv X pins G (upd (upd H s.heap.objs.8 (.own (s.heap.objs.8+1))) (s.heap.objs.8+1) (.ins C s.heap.objs.8 []))
  { s with heap:=(s.heap.push emptyDict).push (instObj C s.heap.objs.8) }:=by
 have e1:(s.heap.push emptyDict).get? s.heap.objs.8=KH emptyDict:=gp s.5 rfl;have e2:((s.heap.push emptyDict).push (instObj C s.heap.objs.8)).get? (s.heap.objs.8+1)=KH (instObj C s.heap.objs.8):=by
  have:=gp (s.heap.push emptyDict) (o:=instObj C s.heap.objs.8) rfl
  rwa [q8] at this
 have e3:(s.heap.push emptyDict).Ns s.heap.objs.8 (λ_=>KI):={emptyDict,#[],_,e1,rfl,(λe he=>absurd he (by simp)),λ_=>rfl};have I1:=I.laid (a:=s.heap.objs.8) (o:=.own (s.heap.objs.8+1)) (h':=s.heap.push emptyDict) (t':=s.toks) (λb u q=>en _ q) (d8 _) {_,e1};refine I1.laid (a:=s.heap.objs.8+1) (o:=.ins C s.heap.objs.8 []) (t':=s.toks) (λb u q=>en _ q) (qb (q8 _ _)) ?_;have ne:s.heap.objs.8≠s.heap.objs.8+1:=gw (nh _);refine{by rw[Al ne,Af],gn _,ne,e2,λ_=>KI,(Heap.Ns1.of_empty e3).at λo q=>en _ q,λ_=>qm,λy hy=>absurd rfl hy}
theorem Acm {prog:gl}{e:ja}{f:Str}{Q:Za0}(hb:attributeBase e f env (eval e env)=eval e env)
  (h:wpAny (model prog w) A (eval e env) (λo QN=>wpAny (model prog w) A (getAttr o f KJ) Q E QN) E s):wpAny (model prog w) A (eval (.Attribute e f pos) env) Q E s:=
 Attribute_any_ h (by rw[arm_eval_Attribute,hb])
end
def Abh (K:d6)(ta:TE)(f:Str):TE:=λG H Q=>ta G H λx H1=>∃a C dx fs v,x=.ref a/\H1 a=KH (.ins C dx fs)/\Cls K C/\Bf K C f/\fs.lookup f=KH v/\Q v H1
def Aee (K:d6)(ta tv:TE)(f:Str):TS:=λD G H=>tv G H λy H1=>ta G H1 λx H2=>∃a C dx fs,x=.ref a/\H2 a=KH (.ins C dx fs)/\Cls K C/\Bf K C f/\fs.9<1000 /\
 D.nx G (upd H2 a (.ins C dx (Ga f y fs)))
section
variable {X:Cx} {o e value:ja} {f:Str} {pos pos' tpos:Pos} {ta tv:TE}
theorem zR (he:PE X e ta)(hb:attributeBase e f X.env (eval e X.env)=eval e X.env):PE X (.Attribute e f pos) (Abh X.K ta f):=by
 k_in;refine Acm hb (thE he I h λu s1 x H1 I1 rx h_=>cpZ λX_ k_=>?_);obtain⟨a,C,dx,fs,v,ex,ea,c,n,l,q⟩:=h_;refine k_ ?_;subst ex;obtain rfl:u=jc a:=rx;exact nS I1 ea c n l λu' s2 I2 ru=>⟨v,H1,I2,ru,q⟩
theorem Afw (ha:PE X o ta)(hv:PE X value tv)(hs:swapsWith value (KH (.Attribute o f pos')) pos.line X.env=pure KL):PS X (.Assign [.Attribute o f pos'] value pos) (Aee X.K ta tv f):=by
 k_end;refine plainObj_wpAny_Assign_Attribute (thE hv I h λu s1 y H1 I1 ry q=>thE ha I1 q λov s2 x H2 I2 rx h_=>cpZ λX_ k_=>?_) hs;obtain⟨a,C,dx,fs,ex,ea,c,n,l,q2⟩:=h_;refine k_ ?_;subst ex;obtain rfl:ov=jc a:=rx;exact mM I2 ea c n l ry λs3 I3=>{G,_,I3,q2}
end
section
variable {X:Cx} {pins:Za1} {G:St} {H:Hp} {s:ft} {A:i9} {E:Za0} {Q:Za0} {c:fj} {b:Bool}
inductive Of (K:d6) (H:Hp):V->fj->Prop where
 |non:Of K H .non (.type "NoneType")
 |bl (x:Bool):Of K H (.bl x) (.type "bool")
 |int (i:Int):Of K H (.int i) (.type "int")
 |str (x:Str):Of K H (.str x) (.type "str")
 |flt (x:UInt64):Of K H (.flt x) (.type "float")
 |lst {a:eh} {xs:List V} (e:H a=KH (.lst xs)):Of K H (.ref a) (.type "list")
 |frz {a:eh} {o:Obj} {xs:List V} (e:H a=KH (.frz o (.lst xs))):Of K H (.ref a) (.type "list")
 |tup {a:eh} {xs:List V} (e:H a=KH (.tup xs)):Of K H (.ref a) (.type "tuple")
 |dK {a:eh} {kvs:List (Key×V)} (e:H a=KH (.dK kvs)):Of K H (.ref a) (.type "dict")
 |dT {a:eh} {kvs:List (List Key×V)} (e:H a=KH (.dT kvs)):Of K H (.ref a) (.type "dict")
 |ins {a C dx:eh} {fs:List (Str×V)} (e:H a=KH (.ins C dx fs)) (cl:Cls K C) (ha:j8 K (.ref C) "__class__"=KH (KH (.builtin "object.__class__")))
   (hn:PySem.W.specialIn K (.builtin "object.__class__") "__get__"=KH (KH (.builtin "getset_descriptor.__get__"))) (htk:PySem.W.takesIn K (.builtin "object.__class__")=KH KJ)
   (hm:PySem.W.mroIn K C (.type "object")=KH KJ):Of K H (.ref a) (.ref C)
theorem uE {x:V}{u t:fj}(I:Inv X pins G H s)(rx:A8 x u)(ty:Of X.K H x t)(e:kitOne X.K t c=KH b)(h:∀tk,Q (.bool b) { s with toks:=tk }) :
  wpAny (model X.prog X.w) A (call (.builtin "isinstance") [u,c]) Q E s:=by
 cases ty with
 |non=>cases(show u=tj from rx);exact sy PySem.W.kitx_none I.kIn qm e (λz=>nomatch z) h
 |bl y=>cases(show u=zc y from rx);exact sy PySem.W.kitx_bool I.kIn qm e (λz=>nomatch z) h
 |int i=>obtain⟨t,q⟩:=(show ∃t,u=o6 i t from rx);cases q;exact sy PySem.W.kitx_int I.kIn qm e (λz=>nomatch z) h
 |str y=>obtain⟨t,q⟩:=(show ∃t,u=ql y t from rx);cases q;exact sy PySem.W.kitx_str I.kIn qm e (λz=>nomatch z) h
 |flt y=>obtain⟨t,q⟩:=(show ∃t,u=BF y t from rx);cases q;exact sy PySem.W.kitx_float I.kIn qm e (λz=>nomatch z) h
 | @lst a xs ea=>
  cases(show u=jc a from rx);obtain⟨_,_,n,_,h1⟩:=(show Ct X.prog X.w H s.5 a (.lst xs) from I.hok a _ ea);exact sy BL I.kIn {_,h1,rfl} e (λz=>nomatch z) h
 | @frz a ob xs ea=>
  cases(show u=jc a from rx);obtain⟨_,_,_,n,_,h1⟩:=(show Ct X.prog X.w H s.5 a (.frz ob (.lst xs)) from I.hok a _ ea);exact sy BL I.kIn {_,h1,rfl} e (λz=>nomatch z) h
 | @tup a xs ea=>
  cases(show u=jc a from rx);obtain⟨_,_,_,p⟩:=(show Ct X.prog X.w H s.5 a (.tup xs) from I.hok a _ ea);obtain⟨o,h1,h2,_⟩:=p;exact sy PySem.W.kitx_tuple I.kIn ⟨o,h1,h2⟩ e (λz=>nomatch z) h
 | @dK a kvs ea=>
  cases(show u=jc a from rx);obtain⟨_,_,vs,_,p⟩:=(show Ct X.prog X.w H s.5 a (.dK kvs) from I.hok a _ ea);obtain⟨o,es,ep,h1,h2,_⟩:=p;exact sy BM I.kIn ⟨o,h1,h2.1⟩ e (λz=>nomatch z) h
 | @dT a kvs ea=>
  cases(show u=jc a from rx);obtain⟨_,_,xs,_,o,es,ep,h1,h2,_⟩:=(show Ct X.prog X.w H s.5 a (.dT kvs) from I.hok a _ ea);exact sy BM I.kIn ⟨o,h1,h2.1⟩ e (λz=>nomatch z) h
 | @ins a C dx fs ea cl ha hn htk hm=>
  cases(show u=jc a from rx);obtain⟨mA,O,_⟩:=Th I.hok ea;obtain⟨od,J,_⟩:=O.look;exact sy (PySem.W.kitx_own (cl.get _) cl.hd ha hn htk hm) I.kIn J e (λz=>nomatch z) h
end
structure Co (k:Nat) (A:i9):Prop where
 hd:A.handled=KI
 dp:A.depth+3*k+5<recursionLimit
 un:A.units+16*k+200<cLine
theorem Co.mono {j k:Nat}(r:Co k A)(h:j<=k):Co j A:={r.hd,by have:=r.dp;lia,by have:=r.un;lia}
theorem Co.m {j k:Nat}(r:Co k A)(h:autoParam (j<=k) QF):Co j A:=r.mono h
theorem Co.deeper {k:Nat}(r:Co (k+1) A)(env:Env):Co k (A.deeper env):=
 {r.hd,by have:=r.dp;show A.depth+1+3*k+5<_;lia,by have:=r.un;show A.units+3+16*k+200<_;lia}
theorem oN {kw:List (Str×fj)}:(A.under (.builtin "type.__call__" {.ref C::us,kw})).depth=A.depth+1:=by
 first|rfl|simp[AF,Code.weight,Code.isCreation,Code.isGuard,Code.isCaller,HA,AT,guardIds]
theorem mX {kw:List (Str×fj)}:(A.under (.builtin "type.__call__" {.ref C::us,kw})).units=A.units+1:=by
 first|rfl|simp[AF,Code.cUnits,HA,AT]
theorem Co.make {k:Nat}(r:Co (k+1) A)(C:eh)(us:Za3)(kw:List (Str×fj)):Co k (A.under (.builtin "type.__call__" {.ref C::us,kw})):=
 {r.hd,by have:=r.dp;rw[oN];lia,by have:=r.un;rw[mX];lia}
theorem Co.depth {k:Nat}(r:Co k A):A.depth<recursionLimit:=by have:=r.dp;lia
theorem Co.units {k:Nat}(r:Co k A):A.units+64<cLine:=by have:=r.un;lia
def nA:TA:=λ_ H Q=>Q [] H
def kZ (ta:TE)(tr:TA):TA:=λG H Q=>ta G H λx H1=>tr G H1 λxs H2=>Q (x::xs) H2
section
variable {X:Cx} {e:ja} {es:List ja} {te:TE} {t:TA} {pos:Pos}
theorem Aa:PA X [] nA:=λ_ _ _ _ H Q I h=>nz {[],H,I,.nil,h}
theorem qI (ha:PE X e te)(hr:PA X es t)(hs:autoParam (starEach (e::es) X.env=(KL,eval e X.env)::starEach es X.env) QD):PA X (e::es) (kZ te t):=by
 intro pos pins s G H Q I h;rw[hs];show wpAny _ _ (spliced ((KL,eval e X.env)::backTo pos (starEach es X.env))) _ _ s;refine lr (thE ha I h λu s1 x H1 I1 r1 q1=>?_);exact thA hr I1 q1 λus s2 xs H2 I2 r2 q2=>⟨x::xs,H2,I2,.cons r1 r2,q2⟩
def Aig (t:TA):TE:=λG H Q=>t G H λxs H1=>xs.9<=sizeLine/\∀p,H1 p=KI->Q (.ref p) (upd H1 p (.tup xs))
def Ahu (t:TA):TE:=λG H Q=>t G H λxs H1=>xs.9<=sizeLine/\∀p,H1 p=KI->Q (.ref p) (upd H1 p (.lst xs))
theorem N5 {x1}(h:PA X es t):PE X (.Tuple es x1 pos) (Aig t):=by
 intro pins s G H Q I hq;refine wpAny_Tuple_spliced (thA h I hq λus s1 xs H1 I1 r ⟨z,q⟩=>{by rw[<-r.9];exact z,?_});have hf:H1 s1.heap.objs.8=KI:=I1.hok.fresh (d8 _);refine{.ref s1.heap.objs.8,upd H1 s1.heap.objs.8 (.tup xs),I1.laid (t':=s1.toks) (λb u e=>en _ e) (d8 _) ?_,rfl,q _ hf};exact{z,us,r,{_,gp _ rfl,rfl,_,rfl}}
theorem Bo (h:PA X es t):PE X (.List es pos) (Ahu t):=by
 intro pins s G H Q I hq;refine wpAny_List_spliced (thA h I hq λus s1 xs H1 I1 r ⟨z,q⟩=>{by rw[<-r.9];exact z,?_});have hf:H1 s1.heap.objs.8=KI:=I1.hok.fresh (d8 _);refine{.ref s1.heap.objs.8,upd H1 s1.heap.objs.8 (.lst xs),I1.laid (t':=s1.toks) (λb u e=>en _ e) (d8 _) ?_,rfl,q _ hf};exact{z,us,0,r,gp _ rfl}
end
abbrev Sp:=List V->Hp->VK->XK->Prop
abbrev CXT:=List Env->Hp->ft->XK->Za0
structure Xk (P:gl) (w:ip) (K:d6) (mg:Za2) (base:jm) (A:i9) (outer:List Env) (s:ft) (H:Hp):Prop where
 frames:A.frames=KH outer
 mod:Mod K mg base
 bs:∀b o,base.get? b=KH o->s.heap.get? b=KH o/\H b=KI
 bsz:base.objs.8<=s.heap.objs.8
 funs:s.heap.FunFrames base outer
 frf:∀b∈frs outer,H b=KI
 hok:HOk P w H s.5
 bare:wv s.gens
def CE (outer:List Env)(P:gl)(w:ip)(H:Hp)(s:ft)(Q:VK)(u:fj)(s':ft):Prop:=
 ∃v H',s'.os=s.os/\wv s'.gens/\Un (frs outer) [] H H' s.5 s'.5/\HOk P w H' s'.5/\A8 v u/\Q v H'
def CR (CX:CXT)(outer:List Env)(P:gl)(w:ip)(H:Hp)(s:ft)(Q:VK)(E:XK)(r:xu)(s':ft):Prop:=
 match r with
 |.ok (.ret u)=>CE outer P w H s Q u s'
 |.ok _=>False
 |.error e=>CX outer H s E e s'
structure Ar (P:gl) (w:ip) (K:d6) (mg:Za2) (base:jm) (CX:CXT) (k:Nat) (f:eh) (fd:jx) (ps:Za6) (sp:Sp):Prop where
 len:∀vs H Q E,sp vs H Q E->vs.9=ps.9
 run:∀(A:i9) (outer:List Env) (s:ft) (H:Hp) (args:Args) (us:Za3) (vs:List V) (Q:VK) (E:XK),Co k A->Xk P w K mg base A outer s H->AV s fd args (ps.zip us)->Ax vs us->sp vs H Q E ->
  codeAny (model P w) A (.call (.ref f) args) (CR CX outer P w H s Q E) s
theorem Xk.make {P:gl}{K:d6}{mg:Za2}{outer:List Env}(e:Xk P w K mg base A outer s H)(C:eh)(us:Za3)(kw:List (Str×fj)) :
  Xk P w K mg base (A.under (.builtin "type.__call__" {.ref C::us,kw})) outer s H:=⟨by first|exact e.frames|(simpa [AF,Code.envs,AT,pushEnvs] using e.frames),e.mod,e.bs,e.bsz,e.funs,e.frf,e.hok,e.bare⟩
section
variable {X:Cx} {pins:Za1} {G:St} {H:Hp} {s s':ft}
theorem Inv.env0 (I:Inv X pins G H s):Xk X.prog X.w X.K X.mg X.base X.A X.stack s H:=
 {I.ok.frames,I.ok.mod,I.bs,iy I.ok.bsz I.sz,I.stack,I.stkFree,I.hok,I.bare}
theorem Inv.after {Q:VK}{u:fj}(I:Inv X pins G H s)(h:CE X.stack X.prog X.w H s Q u s'):EP X pins G Q u s':=by
 obtain⟨v,H',os,bare,un,hok,r,q⟩:=h;obtain⟨hh,g,d,t,os'⟩:=s';obtain rfl:os'=s.os:=os;exact{v,H',I.call (h':=hh) (g':=g) (d':=d) (t':=t) (ch:=[]) un hok bare (λb z=>absurd z (by simp)),r,q}
end
def qT (sp:Sp)(dvs:List V)(E:XK)(t:TA):TE:=λG H Q=>t G H λvs H1=>sp (vs++dvs) H1 Q E
def iW (C:eh)(m:Str)(sp:Sp)(dvs:List V)(E:XK)(ta:TE)(t:TA):TE:=λG H Q=>ta G H λx H1=>∃a dx fs,x=.ref a/\H1 a=KH (.ins C dx fs)/\fs.lookup m=KI /\
 t G H1 λvs H2=>sp (x::(vs++dvs)) H2 Q E
def rZ (C:eh)(sp:Sp)(dvs:List V)(E:XK)(t:TA):TE:=λG H Q=>t G H λvs H1=>∀x dx,H1 x=KI->H1 dx=KI->dx≠x ->
 sp (.ref x::(vs++dvs)) (upd (upd H1 dx (.own x)) x (.ins C dx [])) (λv H2=>v=.non/\Q (.ref x) H2) E
def Fp (K:d6)(fd:jx)(ps:Za6)(ds:Za3):Prop:=
 ∀(s:ft) (us:Za3),K.In s.5->(us++ds).9=ps.9->AV s fd {us,[]} (ps.zip (us++ds))
theorem Fp.all {K:d6}(h:∀us:Za3,us.9=ps.9->bindArgs fd {us,[]}=pure (ps.zip us)):Fp K fd ps []:=λs us _ hl=>by
 rw[gv] at hl ⊢;exact .of_eq (h us hl)
def J5 (CX:CXT)(X:Cx)(E:XK):Prop:=∀(pins:Za1) (G:St) (H:Hp) (s:ft) (e:fj) (s':ft),Inv X pins G H s->CX X.stack H s E e s'->X.xe e s'
section
variable {X:Cx} {CX:CXT} {k:Nat} {f C:eh} {fd:jx} {ps:Za6} {sp:Sp} {dvs:List V} {ds:Za3} {E:XK} {x m:Str} {p pos apos:Pos} {e o:ja} {es:List ja} {ta:TE} {t:TA}
theorem eQ {G:St}{Q:VK}{vs:List V}(F:Ar X.prog X.w X.K X.mg X.base CX k f fd ps sp)(hr:Co k X.A)(hb:Fp X.K fd ps ds)(hd:Ax dvs ds)(hx:J5 CX X E)
  (I:Inv X pins G H s)(r:Ax vs us)(h:sp (vs++dvs) H Q E):wpAny (model X.prog X.w) X.A (call (.ref f) us) (EP X pins G Q) X.xe s:=by
 have r2:Ax (vs++dvs) (us++ds):=r.append hd;have hl:(us++ds).9=ps.9:=by rw[<-r2.9];exact F.len _ _ _ _ h
 refine ym (uh (F.run X.A X.stack s H {us,[]} (us++ds) (vs++dvs) Q E hr I.env0 (hb s us I.kIn hl) r2 h) λr s' hq=>?_)
 cases r with
 |error e=>exact hx pins G H s e s' I hq
 |ok fl=>
  cases fl with
  |ret u=>exact I.after hq
  |next=>exact kl hq
  |brk=>exact kl hq
  |cont=>exact kl hq
theorem Abp (F:Ar X.prog X.w X.K X.mg X.base CX k f fd ps sp)(hr:Co k X.A)(hg:Gl X x)(hm:X.mg x=KH (.ref f))(hk:ki X.K (.ref f)=KJ)(hb:Fp X.K fd ps ds)(hd:Ax dvs ds)(hx:J5 CX X E)
  (ha:PA X (e::es) t)(hdb:autoParam ((x==("__debug__":Str))=KL) QF)(he:autoParam (starEach (e::es) X.env=(KL,eval e X.env)::starEach es X.env) QD)(hpl:autoParam ((backTo pos (starEach es X.env)).any (·.1)=KL) QD) :
  PE X (.Call (.Name x p) (e::es) [] pos) (qT sp dvs E t):=by
 k_in;refine wpAny_Call_Name_kw (O3 I hg hm ?_ hdb);refine callWith_K (h₀:=X.base) I.ok.mod.kin hk (thA ha I h λus s1 vs H1 I1 r q=>{I1.kIn,?_}) he hpl;exact eQ F hr hb hd hx I1 r q
theorem Ab6 (he:PE X o ta)(c:Cls X.K C)(hm:Abo X.K C m f)(F:Ar X.prog X.w X.K X.mg X.base CX k f fd ps sp)(hr:Co k X.A)(hb:Fp X.K fd ps ds)(hd:Ax dvs ds)(hx:J5 CX X E)(ha:PA X (e::es) t)
  (hst:autoParam (starEach (e::es) X.env=(KL,eval e X.env)::starEach es X.env) QD)(hpl:autoParam ((backTo pos (starEach es X.env)).any (·.1)=KL) QD)
  (ht:autoParam (eval (.Call (.Attribute o m apos) (e::es) [] pos) X.env=(do
   let ov <-eval o X.env
   standAt apos.atName
   let (f,first) <-holding [ov] (getMethod ov m pl)
   callWith pos f first (backTo pos (starEach (e::es) X.env)) (backToKw pos (keywordEach [] X.env)))) QD) :
  PE X (.Call (.Attribute o m apos) (e::es) [] pos) (iW C m sp dvs E ta t):=by
 k_in;refine z6 (pl:=pl) (thE he I h λu s1 x H1 I1 rx h_=>cpZ λX_ k_=>?_) ht;obtain⟨a,dx,fs,ex,ea,l,q⟩:=h_;refine k_ ?_;subst ex;obtain rfl:u=jc a:=rx;refine Vr I1 ea c hm l ?_;refine callWith_K (first:=[.ref a]) (h₀:=X.base) I.ok.mod.kin hm.kp (thA ha I1 q λus s2 vs H2 I2 r q2=>{I2.kIn,?_}) hst hpl;exact eQ (us:=.ref a::us) (vs:=.ref a::vs) F hr hb hd hx I2 (.cons rfl r) q2
theorem xZ (he:PE X o ta)(c:Cls X.K C)(hm:Abo X.K C m f)(F:Ar X.prog X.w X.K X.mg X.base CX k f fd ps sp)(hr:Co k X.A)(hb:Fp X.K fd ps ds)(hd:Ax dvs ds)(hx:J5 CX X E)
  (ht:autoParam (eval (.Call (.Attribute o m apos) [] [] pos) X.env=(do
   let ov <-eval o X.env
   standAt apos.atName
   let (f,first) <-holding [ov] (getMethod ov m pl)
   callWith pos f first (backTo pos (starEach [] X.env)) (backToKw pos (keywordEach [] X.env)))) QD) :
  PE X (.Call (.Attribute o m apos) [] [] pos) (iW C m sp dvs E ta nA):=by
 k_in;refine z6 (pl:=pl) (thE he I h λu s1 x H1 I1 rx h_=>cpZ λX_ k_=>?_) ht;obtain⟨a,dx,fs,ex,ea,l,q⟩:=h_;refine k_ ?_;subst ex;obtain rfl:u=jc a:=rx;refine Vr I1 ea c hm l ?_;exact PySem.W.callWith_K0 (first:=[.ref a]) I1.kIn hm.kp (eQ (us:=[.ref a]) (vs:=[.ref a]) F hr hb hd hx I1 (.cons rfl .nil) q)
structure Mk (K:d6) (C f:eh):Prop where
 makes:CW K C=KJ
 init:j8 K (.ref C) "__init__"=KH (KH (.ref f))
 fn:qo K (.ref f)=KJ
 kp:ki K (.ref C)=KJ
theorem xX {G:St}{Q:VK}{vs:List V}(M:Mk X.K C f)(F:Ar X.prog X.w X.K X.mg X.base CX k f fd ps sp)(hr:Co (k+1) X.A)(hb:Fp X.K fd ps ds)(hd:Ax dvs ds)
  (hx:J5 CX X E)(I:Inv X pins G H s)(r:Ax vs us)
  (h:∀x dx,H x=KI->H dx=KI->dx≠x->sp (.ref x::(vs++dvs)) (upd (upd H dx (.own x)) x (.ins C dx [])) (λv H2=>v=.non/\Q (.ref x) H2) E) :
  wpAny (model X.prog X.w) X.A (call (.ref C) us) (EP X pins G Q) X.xe s:=by
 have hq:=h (s.heap.objs.8+1) s.heap.objs.8 (I.hok.fresh (wn _)) (I.hok.fresh (d8 _)) (gw (nh _));have I2:=Inv.made (C:=C) I;have r2:Ax (V.ref (s.heap.objs.8+1)::(vs++dvs)) (jc (s.heap.objs.8+1)::(us++ds)):=.cons rfl (r.append hd);have hl:(jc (s.heap.objs.8+1)::us++ds).9=ps.9:=by
  have e:=r2.9;rw[F.len _ _ _ _ hq] at e;exact e.symm
 refine ym (zT (f:=f) I.kIn M.makes M.init (beq_iff_eq.mp M.fn) (uh (F.run _ X.stack _ _ {jc (s.heap.objs.8+1)::us,[]} (jc (s.heap.objs.8+1)::(us++ds)) _ _ E (hr.make C us [])
  (I2.env0.make C us []) (hb _ (jc (s.heap.objs.8+1)::us) I2.kIn hl) r2 hq) λr s' hq'=>?_))
 cases r with
 |error e=>exact hx pins G _ _ e s' I2 hq'
 |ok fl=>
  cases fl with
  |ret u=>
   obtain⟨v,H',I3,rv,ev,q3⟩:=I2.after hq';subst ev;exact{rv,{V.ref (s.heap.objs.8+1),H',I3,rfl,q3}}
  |next=>exact kl hq'
  |brk=>exact kl hq'
  |cont=>exact kl hq'
theorem pF (M:Mk X.K C f)(F:Ar X.prog X.w X.K X.mg X.base CX k f fd ps sp)(hr:Co (k+1) X.A)(hg:Gl X x)(hm:X.mg x=KH (.ref C))(hb:Fp X.K fd ps ds)(hd:Ax dvs ds)(hx:J5 CX X E)
  (ha:PA X (e::es) t)(hdb:autoParam ((x==("__debug__":Str))=KL) QF)(he:autoParam (starEach (e::es) X.env=(KL,eval e X.env)::starEach es X.env) QD)(hpl:autoParam ((backTo pos (starEach es X.env)).any (·.1)=KL) QD) :
  PE X (.Call (.Name x p) (e::es) [] pos) (rZ C sp dvs E t):=by
 k_in;refine wpAny_Call_Name_kw (O3 I hg hm ?_ hdb);refine callWith_K (h₀:=X.base) I.ok.mod.kin M.kp (thA ha I h λus s1 vs H1 I1 r q=>{I1.kIn,?_}) he hpl;exact xX M F hr hb hd hx I1 r q
end
structure Ah (N P:Za6) (sc:oq):Prop where
 kind:sc.kind=.function
 co:sc.isCoroutine=KL
 gen:sc.isGenerator=KL
 nd:N.Nodup
 pre:N.take P.9=P
 par:∀x∈P,sc.names.lookup x=KH .local\/sc.names.lookup x=KH .cell
 nofree:∀y∈sc.names,y.2≠.free
theorem Y7 {kindOf:Str->Option qg}{x:Str}:∀ {binds:List (Str×fj)} {m:Za2},(∀ v,(x,v)∉binds)->bindL kindOf binds m x=m x
  | [], _, _ => rfl
  | (n, v) :: r, m, h => by
    unfold bindL;rw [Y7 λw hw => h w (gt _ hw)];split
    · have : x ≠ n := by rintro rfl; exact h v gr
      simp [this]
    · rfl
theorem Za {kindOf:Str->Option qg}{x:Str}:∀ {binds:List (Str×fj)} {m:Za2},(∀ v,(x,v)∉binds)->bindC kindOf binds m x=m x
  | [], _, _ => rfl
  | (n, v) :: r, m, h => by
    unfold bindC;rw [Za λw hw => h w (gt _ hw)];split
    · rfl
    · have : x ≠ n := by rintro rfl; exact h v gr
      simp [this]
theorem Zn {kindOf:Str->Option qg}{x:Str}{v:fj}:∀{P:Za6} {vs:Za3} {i:Nat} {m:Za2},P.Nodup->P[i]?=KH x->vs[i]?=KH v->kindOf x=KH .local ->
  bindL kindOf (P.zip vs) m x=KH v
 |[],_,_,_,_,h,_,_=>by simp at h
 |_::_,[],_,_,_,_,h,_=>by simp at h
 |p::P,w::vs,0,m,nd,h1,h2,hk=>by
  simp at h1 h2;subst h1;subst h2;show bindL kindOf ((p,w)::P.zip vs) m p=_;unfold bindL;rw[Y7 λv hv=>(o7.mp nd).1 (sj hv).1,if_pos hk];simp
 |p::P,w::vs,i+1,m,nd,h1,h2,hk=>by
  show bindL kindOf ((p,w)::P.zip vs) m x=_;unfold bindL;exact Zn (i:=i) (o7.mp nd).2 (by simpa using h1) (by simpa using h2) hk
theorem Y2 {kindOf:Str->Option qg}{x:Str}{v:fj}:∀{P:Za6} {vs:Za3} {i:Nat} {m:Za2},P.Nodup->P[i]?=KH x->vs[i]?=KH v->kindOf x≠KH .local ->
  bindC kindOf (P.zip vs) m x=KH v
 |[],_,_,_,_,h,_,_=>by simp at h
 |_::_,[],_,_,_,_,h,_=>by simp at h
 |p::P,w::vs,0,m,nd,h1,h2,hk=>by
  simp at h1 h2;subst h1;subst h2;show bindC kindOf ((p,w)::P.zip vs) m p=_;unfold bindC;rw[Za λv hv=>(o7.mp nd).1 (sj hv).1,if_neg hk];simp
 |p::P,w::vs,i+1,m,nd,h1,h2,hk=>by
  show bindC kindOf ((p,w)::P.zip vs) m x=_;unfold bindC;exact Y2 (i:=i) (o7.mp nd).2 (by simpa using h1) (by simpa using h2) hk
def Nh (N:Za6)(vs:List V):St:=vs.map KH++fe (N.9-vs.9) KI
def iC (CX:CXT)(P:gl)(w:ip)(K:d6)(mg:Za2)(base:jm)(N:Za6)(qual:Str)(scope:oq)(f:eh)(cd:fj)(A:i9)(outer:List Env)(s:ft)(H:Hp)(E:XK):Cx where
 prog:=P
 w:=w
 K:=K
 mg:=mg
 base:=base
 A:=A.deeper (envOfC qual scope s.heap.objs.8 f cd)
 N:=N
 QP:=s
 QZ:=H
 env:=envOfC qual scope s.heap.objs.8 f cd
 outer:=outer
 stack:=envOfC qual scope s.heap.objs.8 f cd::outer
 ex:=[]
 calm:=KJ
 fn:=λ_=>KJ
 pn:=[]
 xe:=λe s'=>wpAny (model P w) (A.deeper (envOfC qual scope s.heap.objs.8 f cd)) (leaving (envOfC qual scope s.heap.objs.8 f cd) e) (λ_ s''=>CX outer H s E e s'') (λe' s''=>CX outer H s E e' s'') s'
theorem jA {x:Str}(h:sc.names.lookup x=KH .cell):∃c,(cellsFrom n sc.names []).lookup x=KH c:=by
 have q:=zq sc.names n [] (.inl h);exact ln.mp q
theorem sR {CX:CXT}{P:gl}{K:d6}{mg:Za2}{f:eh}{cd:fj}{outer:List Env}{s1:ft}{E:XK}{vs:List V}
  (S:Ah N ps scope)(hd:A.handled=KI)(e0:Xk P w K mg base A outer s H)(hl:vs.9=ps.9)(r:Ax vs us)
  (x:InCallC s s.heap.objs.8 (bindL (envOfC qual scope s.heap.objs.8 f cd).kindOf (ps.zip us) λ_=>KI) (cellsFrom (s.heap.objs.8+1) scope.names []) (bindC (envOfC qual scope s.heap.objs.8 f cd).kindOf (ps.zip us) λ_=>KI) s1) :
  Inv (iC CX P w K mg base N qual scope f cd A outer s H E) [] (Nh N vs) H s1:=by
 have hpl:ps.9<=N.9:=by have:=congrArg yu S.pre;rw[fh] at this;lia
 obtain⟨h1,tk,rfl,hk⟩:=x.done;have noA:∀b:eh,b∉(iC CX P w K mg base N qual scope f cd A outer s H E).ex:=λb z=>absurd (show b∈([]:List eh) from z) (by simp);refine⟨{e0.mod,S.kind,rfl,rfl,d8 _,λy z c h1 h2=>?_,λy hy=>?_,λy c _ h=>?_,λ_=>hd,AW e0.frames,.inr ⟨rfl,rfl⟩,λb z=>absurd z (noA b),e0.bs,e0.bsz,λb _ _=>noA b,λb z=>absurd z (noA b),e0.funs,e0.frf},
  rfl,e0.bare,Un.kept hk,{_,x.toInCall.ns,λi y v h1 h2 h3=>?_},λy c h=>{_,x.cell y c h},e0.hok.fresh (d8 _),λy c h=>?_,λp hp=>absurd (show p∈([]:Za1) from hp) (by simp),e0.hok.kept hk,?_⟩
 .exact name_of_addr x.apart (j9 h1) (j9 h2)
 .have hy:scope.names.lookup y=KH .cell\/scope.names.lookup y=KH .free:=hy
  rcases hy with hy|hy
  .exact jA hy
  .exact absurd rfl (S.nofree _ (j9 hy))
 .exact f9 (x.above y c (j9 h))
 .have hi:i<vs.9:=by
   unfold Nh at h2
   by_cases hi:i<vs.9
   .exact hi
   .rw[fk (by simpa using hi)] at h2
    rw[qt] at h2;split at h2<;>cases h2
  have ha:vs[i]?=KH v:=by
   unfold Nh at h2;rw[fw (by simpa using hi),d9] at h2
   cases e:vs[i]? with
   |none=>rw[e] at h2;cases h2
   |some a=>rw[e] at h2;cases h2;rfl
  obtain⟨u,hu,rv⟩:=r.get ha;have hp:ps[i]?=KH y:=by
   rw[<-S.pre,gj ()];exact h1
  have ndP:ps.Nodup:=by rw[<-S.pre];exact S.nd.sublist (List.take_sublist _ _)
  refine{u,rv,?_};rcases S.par y (f8 hp) with k|k
  .exact .inl {k,Zn ndP hp hu k}
  .obtain⟨c,e⟩:=jA (n:=s.heap.objs.8+1) k
   refine .inr {.inl k,c,e,?_};have q:=x.cell y c e;rw[Y2 ndP hp hu (by show scope.names.lookup y≠_;rw[k];decide)] at q;exact q
 .exact e0.hok.fresh (f9 (x.above y c (j9 h)))
 .unfold Nh
  show _=N.9;rw[eg,d7,i6];lia
theorem vC {CX:CXT}{P:gl}{K:d6}{mg:Za2}{k:Nat}{f:eh}{name:Str}{body:List i4}{dV kV:fj} 
  {osl:Array (Za7)}(lk:K.lookup f=KH {oc,od,.func (jl name qual params body scope dV kV doc pm an cdv ct),osl})(hcd:lz K cdv qual=KJ)(S:Ah N ps scope)
  (len:∀vs H Q E,sp vs H Q E->vs.9=ps.9)
  (hbody:∀(A:i9) (outer:List Env) (s:ft) (H:Hp) (vs:List V) (Q:VK) (E:XK),Co k (A.deeper (envOfC qual scope s.heap.objs.8 f cdv))->sp vs H Q E ->
   ∃t,PSs (iC CX P w K mg base N qual scope f cdv A outer s H E) body t/\t { nx:=λ_ H'=>Q .non H',rt:=Q } (Nh N vs) H) :
  Ar P w K mg base CX (k+1) f (jl name qual params body scope dV kV doc pm an cdv ct) ps sp:=by
 refine{len,λA outer s H args us vs Q E hr e0 hb r hsp=>?_};have hl:=len _ _ _ _ hsp;have KX:K.In s.5:=e0.mod.kin.keeps λb o e=>(e0.bs b o e).1;have lim:s.heap.NoLimit:=e0.mod.nolimit.keeps λb o e=>(e0.bs b o e).1;have hkind:∀y∈ps.zip us,scope.names.lookup y.1=KH .local\/(scope.names.lookup y.1=KH .cell/\((cellsFrom (s.heap.objs.8+1) scope.names []).lookup y.1).isSome=KJ):=λ⟨n,v⟩ hy=>by
  rcases S.par n (sj hy).1 with q|q
  .exact .inl q
  .exact .inr {q,zq _ _ _ (.inl q)}
 refine codeAny_call_function hr.depth (KX _ _ lk) rfl S.co S.gen rfl (PySem.W.codeRec_of KX hcd) (hb _ _ _ _ ?_);refine wpAny_newFunctionEnv_cells S.kind hkind λenv he s1 x=>?_;subst he;refine{lim.keeps x.toInCall.keep,codeAny_func ?_};obtain⟨t,ht,hq⟩:=hbody A outer s H vs Q E (hr.deeper _) hsp;have I:Inv (iC CX P w K mg base N qual scope f cdv A outer s H E) [] (Nh N vs) H s1:=sR S hr.hd e0 hl r x;refine nw (ht [] s1 (Nh N vs) H _ I hq) (λfl s' hs=>?_) λe s' hs=>hs;have fin:∀{QM:St} {H':Hp} {v:V} {u:fj},Inv (iC CX P w K mg base N qual scope f cdv A outer s H E) [] QM H' s'->A8 v u->Q v H'->CE outer P w H s Q u s':=
  λ{QM H' v u} J rv q=>⟨v,H',J.os,J.bare,J.base,J.hok,rv,q⟩
 cases fl with
 |ret u=>
  obtain⟨v,QM,H',J,rv,q⟩:=hs;exact fin J rv q
 |next=>
  obtain⟨QM,H',J,q⟩:=hs;exact fin (v:=V.non) (u:=tj) J rfl q
 |brk=>
  obtain⟨_,_,_,q⟩:=hs;exact kl q
 |cont=>
  obtain⟨_,_,_,q⟩:=hs;exact kl q
section
variable {X:Cx} {x:Str} {p pos:Pos} {e:ja} {es:List ja} {t:TA} {id T:String} {r:List V->Hp->VK->Prop}
def tCB (r:List V->Hp->VK->Prop)(t:TA):TE:=λG H Q=>t G H λvs H1=>r vs H1 Q
theorem Ao (hc:Em X (.builtin id) r)(hg:Gl X x)(hm:X.mg x=KI)(hv:bootBuiltins x=KH (.builtin id))(ha:PA X (e::es) t)(hn:autoParam (x≠"__name__") QF)(hdb:autoParam ((x==("__debug__":Str))=KL) QF)
  (he:autoParam (starEach (e::es) X.env=(KL,eval e X.env)::starEach es X.env) QD)(hpl:autoParam ((backTo pos (starEach es X.env)).any (·.1)=KL) QD):PE X (.Call (.Name x p) (e::es) [] pos) (tCB r t):=by
 k_in;refine wpAny_Call_Name_kw (Do I hg hm hv ?_ hn hdb);exact IG (thA ha I h λus s1 vs H1 I1 r1 q1=>hc pins s1 G H1 vs us Q I1 r1 q1) he hpl
theorem Dj (hc:Em X (.type T) r)(hg:Gl X x)(hm:X.mg x=KI)(hv:bootBuiltins x=KH (.type T))(ha:PA X (e::es) t)(hn:autoParam (x≠"__name__") QF)(hdb:autoParam ((x==("__debug__":Str))=KL) QF)
  (he:autoParam (starEach (e::es) X.env=(KL,eval e X.env)::starEach es X.env) QD)(hpl:autoParam ((backTo pos (starEach es X.env)).any (·.1)=KL) QD):PE X (.Call (.Name x p) (e::es) [] pos) (tCB r t):=by
 k_in;refine wpAny_Call_Name_kw (Do I hg hm hv ?_ hn hdb);exact ij (thA ha I h λus s1 vs H1 I1 r1 q1=>hc pins s1 G H1 vs us Q I1 r1 q1) he hpl
end
end _L
variable {C CB CC CO CP Pt dx i1 i2 it l1 l2:eh} {params:nu} {A:i9} {op:w6} {X:_L.Cx} {D:_L.Jb} {env:PySem.Env} {tg:ja} {fd:jx} {base h h':jm} {H H' H0 H1 H2:_L.Hp} {J:_L.It} {pins:Za1} {as fp:List eh} {ns ws:List Int} {cs ix:Za4} {N QR kz nm ps:Za6} {xs ys:List _L.V} {us vs:Za3} {M:xx} {d n t':Nat} {oT:PySem.Obj} {an od:Option eh} {lpos pos pos2:PySem.Pos} {sc scope QQ:oq} {pl:PySem.Sem Bool} {s:ft} {sp:_L.Sp} {fr:_L.St} {qual z:PySem.Str} {te:_L.TE} {wi:_L.TI} {y:_L.V} {cdv ct doc oc pm:fj} {w:ip}
namespace _T
open PySem PyProof.Rows
section
open PySem.SeqAt
open PySem.AutoSeq1 (wpAny_loadPart')
open PySem.MeetsSeq PySem.MeetsSeq2 PySem.MeetsSeq3
end
section
variable {prog:gl} {w:ip} {A:i9} {E:Za0} {s:ft}
def sIx (n d:Nat):Option Int->Nat
 |none=>d
 |some v=>if v<0 then(v+(n:Int)).toNat else min v.toNat n
theorem sIx_nat (n d k:Nat):sIx n d (KH (k:Int))=min k n:=by
 show(if(k:Int)<0 then((k:Int)+(n:Int)).toNat else min (k:Int).toNat n)=min k n;rw[if_neg (),gu]
theorem sIx_le (n d:Nat)(hd:d<=n)(o:Option Int):sIx n d o<=n:=by
 cases o with
 |none=>exact hd
 |some v=>
  show(if v<0 then(v+(n:Int)).toNat else min v.toNat n)<=n
  by_cases hv:v<0
  .rw[if_pos hv];lia
  .rw[if_neg hv];exact va _ _
theorem qH (v:Int)(n d:Nat):(if v<0 then max (v+(n:Int)) 0 else min v (n:Int))=((sIx n d (KH v):Nat):Int):=by
 show(if v<0 then max (v+(n:Int)) 0 else min v (n:Int))=(((if v<0 then(v+(n:Int)).toNat else min v.toNat n):Nat):Int)
 by_cases hv:v<0
 .simp only[if_pos hv];lia
 .simp only[if_neg hv]
  obtain⟨m,rfl⟩:=ly (IW.mp hv);rw[gu];lia
theorem mR (lo hi:Option Int)(n:Nat):sf lo hi 1 (n:Int)=(((sIx n 0 lo:Nat):Int),((sIx n n hi:Nat):Int)):=by
 have h1:¬((1:Int)<0):=()
 unfold sf;simp only[h1,if_false];refine BN ?_ ?_
 .cases lo with
  |none=>rfl
  |some v=>exact qH v n 0
 .cases hi with
  |none=>rfl
  |some v=>exact qH v n n
theorem lZ (i j:Nat):o8 (i:Int) (j:Int) 1=j-i:=by
 unfold o8;have h1:(1:Int)>0:=()
 simp only[h1,if_true,GZ];split<;>lia
theorem U5 {v:fj}{o:Option Int}{Q:Option Int->ft->Prop}(p:xy v o)(h:Q o s):wpAny (model prog w) A (HB v) Q E s:=by
 cases p with
 |none=>exact IS h
 |int i t=>exact slicePart_int h
theorem sliceApplied_gen {sl:eh}{vl vu:fj}{lo hi:Option Int}{n:Nat}{Q:Int×Int×Nat->ft->Prop}(hs:s.heap.IsSliceOf sl vl vu .none)(pl:xy vl lo)(pu:xy vu hi)
  (h:Q (((sIx n 0 lo:Nat):Int),1,sIx n n hi-sIx n 0 lo) s):wpAny (model prog w) A (xi (.ref sl) (pure (n:Int))) Q E s:=by
 obtain⟨os,hos,hcs,hds⟩:=id hs;unfold xi HC;refine wpAny_bind (wpAny_bind (qf hos hds (x:=vl) rfl (wpAny_bind (qf hos hds (x:=vu) rfl (wpAny_bind (qf hos hds (x:=.none) rfl (fq ?_)))))));refine wpAny_bind (IS ?_);show wpAny _ _ (if((1:Int)==0)=KJ then _ else _) _ _ s;rw[if_neg (by decide)];refine wpAny_bind (U5 pl (wpAny_bind (U5 pu (wpAny_bind (fq ?_)))));show wpAny _ _ (match sf lo hi 1 (n:Int) with|(lo,hi)=>pure (lo,(1:Int),o8 lo hi 1)) _ _ s;rw[mR lo hi n];show wpAny _ _ (pure (((sIx n 0 lo:Nat):Int),(1:Int),o8 ((sIx n 0 lo:Nat):Int) ((sIx n n hi:Nat):Int) 1)) _ _ s;rw[lZ];exact fq h
theorem xQ (xs:Array fj)(i k:Nat):((fb k).filterMap λ(m:Nat)=>xs[((i:Int)+(m:Int)*1).toNat]?).6=((xs.toList.drop i).take k).6:=by
 have e:(λ(m:Nat)=>xs[((i:Int)+(m:Int)*1).toNat]?)=λm=>xs[i+m]?:=by
  funext m
  have:((i:Int)+(m:Int)*1).toNat=i+m:=()
  rw[this]
 rw[e];have:=IT xs i k;rw[List.filterMap_map] at this;have e2:((λx=>xs[x]?) ∘ λx=>i+x)=λm=>xs[i+m]?:=rfl;rw[e2] at this;rw[this]
theorem getItem_tuple_cut {t sl:eh}{items:Array fj}{vl vu:fj}{lo hi:Option Int}{Q:Za0}(ht:IsTup s.5 t items)(hs:s.heap.IsSliceOf sl vl vu .none)(pl:xy vl lo)(pu:xy vu hi)
  (hw:¬(sIx items.8 0 lo=0/\sIx items.8 items.8 hi=items.8))
  (h:Q (.ref s.heap.objs.8) { s with heap:=s.heap.push { cls:=.type "tuple",data:=.seq ((items.toList.drop (sIx items.8 0 lo)).take (sIx items.8 items.8 hi-sIx items.8 0 lo)).6 } })
  (hsz:items.8<=sizeLine):wpAny (model prog w) A (getItem (.ref t) (.ref sl)) Q E s:=by
 have htake:sizeOk (.seq ((items.toList.drop (sIx items.8 0 lo)).take (sIx items.8 items.8 hi-sIx items.8 0 lo)).6):=by
  show((items.toList.drop (sIx items.8 0 lo)).take (sIx items.8 items.8 hi-sIx items.8 0 lo)).toArray.size<=sizeLine;rw[ge,fh,gz,gh];exact iy (va _ _) (iy (zy _ _) hsz)
 have hj:sIx items.8 items.8 hi<=items.8:=sIx_le _ _ (d8 _) hi;obtain⟨os,hos,hcs,hds⟩:=id hs;have hTs:s.TypeIs (.ref sl) "slice":=⟨os,hos,hcs⟩;unfold getItem
 try with_reducible refine wpAny_holding ?_
 first|refine wpAny_bind (fq ?_)|skip
 refine wpAny_bind (FV ht.typeIs (by decide) ?_);refine wpAny_bind (rh (name:=ox "__getitem__") ht.typeIs ka
  (sv ka ht.typeIs entry_tuple_getitem ?_ (FM _ _)))
 show wpAny _ _ (xh (.ref t) >>= _) _ _ s;refine wpAny_bind (JE ht ?_);refine wpAny_bind (qi hTs ?_);rw[if_pos (by decide)];refine wpAny_bind (sliceApplied_gen hs pl pu ?_);have hno:¬((((sIx items.8 0 lo:Nat):Int)==0&&(1:Int)==1&&(sIx items.8 items.8 hi-sIx items.8 0 lo)==items.8)=KJ):=by
  intro q;rw[nc,nc] at q;have q1:((sIx items.8 0 lo:Nat):Int)=0:=eq_of_beq q.1.1;have q2:sIx items.8 items.8 hi-sIx items.8 0 lo=items.8:=eq_of_beq q.2;exact hw {(),()}
 show wpAny _ _ (if(((sIx items.8 0 lo:Nat):Int)==0&&(1:Int)==1&&(sIx items.8 items.8 hi-sIx items.8 0 lo)==items.8)=KJ then _ else _) _ _ s;rw[if_neg hno,xQ]
 first
  |exact wpAny_bind (m:=pe _) (pq (fq {_,rfl,fq h}) htake)
  |exact wpAny_bind (m:=pe _) (pq (wpAny_bind (fq (fq {_,rfl,fq h}))) htake)
  |exact wpAny_bind (wpAny_bind (m:=pe _) (pq (fq (fq {_,rfl,fq h})) htake))
  |exact wpAny_bind (wpAny_bind (m:=pe _) (pq (fq {_,rfl,fq h}) htake))
end
end _T
namespace _L
open PySem PySem.Spec PyProof.Rows
abbrev TO:=St->Hp->(Option Int->Hp->Prop)->Prop
def PO (X:Cx)(e:Option ja)(t:TO):Prop:=
 ∀(pins:Za1) (s:ft) (G:St) (H:Hp) (Q:Option Int->Hp->Prop),Inv X pins G H s->t G H Q ->
  wpAny (model X.prog X.w) X.A (evalPart e X.env) (λu s'=>∃o H',Inv X pins G H' s'/\xy u o/\Q o H') X.xe s
def pE:TO:=λ_ H Q=>Q KI H
def Ac0 (t:TE):TO:=λG H Q=>t G H λx H1=>∃i,x=.int i/\Q (KH i) H1
theorem Ut:∀{us:Za3},Ax (ns.map V.int) us->r6 us ns:=by
 induction ns with
 |nil=>intro us r;rw[x0] at r;cases r;exact .nil
 |cons n ns ih=>
  intro us r;rw[iu] at r
  cases r with
  |cons r1 r2=>
   obtain⟨t,e⟩:=r1;subst e;exact .cons n t (ih r2)
section
variable {X:Cx} {e:ja} {te:TE} {lo hi:Option ja} {tl th:TO} {pos p2:Pos}
theorem Hb:PO X KI pE:=by
 k_in;rw[vh];exact fq {KI,H,I,.none,h}
theorem B3 (h:PE X e te):PO X (KH e) (Ac0 te):=by
 intro pins s G H Q I hw;rw[evalPart_some];refine thE h I hw λu s1 x H1 I1 r1 q1=>?_;obtain⟨i,rfl,q⟩:=q1;obtain⟨t,rfl⟩:=r1;exact{KH i,H1,I1,.int i t,q}
def SlR (X:Cx)(r:V->Option Int->Option Int->Hp->VK->Prop):Prop:=
 ∀(pins:Za1) (s:ft) (G:St) (H:Hp) (x:V) (v vl vu:fj) (lo hi:Option Int) (sl:eh) (Q:VK),Inv X pins G H s->A8 x v->s.heap.IsSliceOf sl vl vu .none->xy vl lo->xy vu hi->r x lo hi H Q ->
  ∃T id,typeLookup (.type T) "__getitem__"=pure (KH (.builtin id))/\s.TypeIs v T/\wpAny (model X.prog X.w) X.A (getItem v (.ref sl)) (EP X pins G Q) X.xe s
def tSl (r:V->Option Int->Option Int->Hp->VK->Prop)(te:TE)(tl th:TO):TE:=λG H Q=>te G H λx H1=>tl G H1 λl H2=>th G H2 λu H3=>r x l u H3 Q
theorem Cf {r:V->Option Int->Option Int->Hp->VK->Prop}(hr:SlR X r)(he:PE X e te)(hl:PO X lo tl)(hu:PO X hi th):PE X (.Subscript e (.Slice lo hi KI p2) pos) (tSl r te tl th):=by
 k_in;refine Subscript_ (thE he I h λv s1 x H1 I1 r1 q1=>?_);refine zz (thn (hl pins s1 G H1 _ I1 q1) λvl s2 ⟨l,H2,I2,pl,q2⟩=>thn (hu pins s2 G H2 _ I2 q2) λvu s3 h_=>cpZ λX_ k_=>?_);obtain⟨u,H3,I3,pu,q3⟩:=h_;refine k_ ?_;rw[vh];refine fq ?_;have I4:Inv X pins G H3 { s3 with heap:=s3.heap.push { cls:=.type "slice",data:=.fields #[vl,vu,.none] } }:=I3.kept (t':=s3.toks) λb ob q=>en _ q;obtain⟨T,id,hT,ht,hg⟩:=hr pins { s3 with heap:=s3.heap.push { cls:=.type "slice",data:=.fields #[vl,vu,.none] } } G H3 x v vl vu l u s3.heap.objs.8 Q I4 r1 (uz ..) pl pu q3;show wpAny (model X.prog X.w) X.A (subscriptTail e (.Slice lo hi KI p2) v (.ref s3.heap.objs.8)) (EP X pins G Q) X.xe { s3 with heap:=s3.heap.push { cls:=.type "slice",data:=.fields #[vl,vu,.none] } };exact y9 (ops:=[.ref s3.heap.objs.8,v]) ht hT hg (by with_unfolding_all rfl)
def Ha (xs:List V)(lo hi:Option Int):List V:=(xs.drop (_T.sIx xs.9 0 lo)).take (_T.sIx xs.9 xs.9 hi-_T.sIx xs.9 0 lo)
theorem R5 (xs:List V)(lo hi:Option Int):(Ha xs lo hi).9<=xs.9:=by
 unfold Ha;rw[fh,gz];exact iy (va _ _) (zy _ _)
def Aiy (K:d6):V->Option Int->Option Int->Hp->VK->Prop:=λx lo hi H Q=>∃a xs,x=.ref a/\SqT K H a xs /\
 ¬(_T.sIx xs.9 0 lo=0/\_T.sIx xs.9 xs.9 hi=xs.9)/\∀p,H p=KI->Q (.ref p) (upd H p (.tup (Ha xs lo hi)))
theorem Aeo:SlR X (Aiy X.K):=by
 intro pins s G H x v vl vu lo hi sl Q I rx hs pl pu h;obtain⟨a,xs,rfl,hx,hw,q⟩:=h;cases rx;obtain⟨its,r,ht,hz⟩:=I.tuple hx;have hlen:its.toArray.8=xs.9:=by rw[ge];exact r.length.symm
 refine{"tuple",_,ka.lookup,ht.typeIs,?_};refine _T.getItem_tuple_cut ht hs pl pu (by rw[hlen];exact hw) ?_ (by rw[hlen];exact hz);rw[hlen];refine{.ref s.heap.objs.8,_,I.laid (t':=s.toks) (o:=.tup (Ha xs lo hi)) (λb ob q=>en _ q) (d8 _) ?_,rfl,q _ (I.hok.fresh (d8 _))};exact{iy (R5 xs lo hi) hz,_,(r.drop (_T.sIx xs.9 0 lo)).take (_T.sIx xs.9 xs.9 hi-_T.sIx xs.9 0 lo),IJ _ _}
end
def ixN (n:Nat)(i:Int):Option Nat:=if 0<=i then(if i<n then KH i.toNat else KI) else if -(n:Int)<=i then KH (i+n).toNat else KI
def atI {α:Type}(xs:List α)(i:Int):Option α:=(ixN xs.9 i).bind λj=>xs[j]?
theorem rB {i:Int}{j:Nat}(h:ixN n i=KH j):seqIndex? i n=KH j/\j<n/\-(n:Int)<=i/\i<n:=by
 unfold ixN at h
 by_cases h0:0<=i
 .rw[if_pos h0] at h
  by_cases h1:i<n
  .rw[if_pos h1] at h
   have e:i.toNat=j:=ee h;exact{by rw[EN h0 h1,e],(),(),h1}
  .rw[if_neg h1] at h;cases h
 .rw[if_neg h0] at h
  by_cases h1:-(n:Int)<=i
  .rw[if_pos h1] at h
   have e:(i+n).toNat=j:=ee h;exact{by rw[DH () h1,e],(),h1,()}
  .rw[if_neg h1] at h;cases h
theorem dX {α:Type}{xs:List α}{i:Int}{v:α}(h:atI xs i=KH v):∃j,seqIndex? i xs.9=KH j/\xs[j]?=KH v/\j<xs.9/\-(xs.9:Int)<=i/\i<xs.9:=by
 unfold atI at h
 cases e:ixN xs.9 i with
 |none=>rw[e] at h;cases h
 |some j=>
  rw[e] at h;obtain⟨h1,h2,h3,h4⟩:=rB e;exact⟨j,h1,h,h2,h3,h4⟩
theorem A9 {α:Type}{xs:List α}{j:Nat}{v:α}(h:xs[j]?=KH v):atI xs (j:Int)=KH v:=by
 have hj:j<xs.9:=(fc.mp h).1;have e:ixN xs.9 (j:Int)=KH j:=by
  unfold ixN;rw[if_pos (),if_pos ()];simp
 unfold atI;rw[e];exact h
theorem iT {α:Type}(xs:List α)(v:α):atI (xs++[v]) (-1)=KH v:=by
 have hl:(xs++[v]).9=xs.9+1:=by simp
 have e:ixN (xs++[v]).9 (-1)=KH xs.9:=by
  unfold ixN;rw[hl,if_neg (by decide),if_pos ()];congr 1;lia
 unfold atI;rw[e];show(xs++[v])[xs.9]?=KH v;simp
def rV (b:ja):Prop:=∀o i,subscripted b KL o i=operate [o,i] (getItem o i)
def IxR (X:Cx)(r:R2):Prop:=
 ∀(value slice:ja) (pins:Za1) (s:ft) (G:St) (H:Hp) (x y:V) (v u:fj) (Q:VK),Inv X pins G H s->A8 x v->A8 y u->r x y H Q ->
  subscripted slice KL v u=operate [v,u] (getItem v u)->wpAny (model X.prog X.w) X.A (subscriptTail value slice v u) (EP X pins G Q) X.xe s
def MtR (X:Cx)(id:String)(r:V->List V->Hp->VK->Prop):Prop:=
 ∀(pins:Za1) (s:ft) (G:St) (H:Hp) (x:V) (xs:List V) (v:fj) (us:Za3) (Q:VK),Inv X pins G H s->A8 x v->Ax xs us->r x xs H Q ->
  wpAny (model X.prog X.w) X.A (call (.builtin id) (v::us)) (EP X pins G Q) X.xe s
section
variable {X:Cx} {a b:ja} {ta tb:TE} {pos:Pos}
theorem Ahg {r:R2}(hr:IxR X r)(ha:PE X a ta)(hb:PE X b tb)(hs:rV b):PE X (.Subscript a b pos) (tOp r ta tb):=by
 k_in;exact Subscript_ (Afv ha hb I h λv u s2 x y H2 I2 rx ry q=>hr a b pins s2 G H2 x y v u Q I2 rx ry q (hs _ _))
def Af6 (K:d6):R2:=λx y H Q=>∃p xs i v,x=.ref p/\y=.int i/\SqL K H p xs/\atI xs i=KH v/\Q v H
def Aea (K:d6):R2:=λx y H Q=>∃p xs i v,x=.ref p/\y=.int i/\SqT K H p xs/\atI xs i=KH v/\Q v H
def Aja:R2:=λx y H Q=>∃z i c,x=.str z/\y=.int i/\z.9<=sizeLine/\atI z.cps.7 i=KH c/\Q (.str {#[c]}) H
theorem Bk:IxR X (Af6 X.K):=by
 intro value slice pins s G H x y v u Q I rx ry h hs;obtain⟨p,xs,i,z,rfl,rfl,hq,he,q⟩:=h;cases rx;obtain⟨t,rfl⟩:=ry;obtain⟨its,r,pl,hz⟩:=I.list hq;obtain⟨j,h1,h2,h3,h4,h5⟩:=dX he;obtain⟨w,ew,rw'⟩:=r.get h2;have hl:=r.9;have hn:=Ls;have fin:EP X pins G Q w s:=⟨z,H,I,rw',q⟩
 by_cases h0:0<=i
 .have hj:i.toNat=j:=by
   rw[EN h0 h5] at h1;exact ee h1
  exact item_listR pl.isList h0 () (by rw[hj];simpa using ew) fin hs
 .have hj:(i+(its.toArray.8:Int)).toNat=j:=by
   rw[DH () h4] at h1;rw[ge,<-hl];exact ee h1
  exact DG (x:=w) pl.isList.typeIs slot_list_getitem.lookup
   (wpAny_getItem_list_neg (Q:=λr s'=>r=w/\EP X pins G Q r s') pl.isList () (by rw[ge]<;>lia) () (by rw[hj];simpa using ew) ⟨rfl,fin⟩) hs
theorem Bs:IxR X (Aea X.K):=by
 intro value slice pins s G H x y v u Q I rx ry h hs;obtain⟨p,xs,i,z,rfl,rfl,hq,he,q⟩:=h;cases rx;obtain⟨t,rfl⟩:=ry;obtain⟨its,r,pl,hz⟩:=I.tuple hq;obtain⟨j,h1,h2,h3,h4,h5⟩:=dX he;obtain⟨w,ew,rw'⟩:=r.get h2;have hl:=r.9;have hn:=Ls;have fin:EP X pins G Q w s:=⟨z,H,I,rw',q⟩;exact DG (x:=w) pl.typeIs slot_tuple_getitem.lookup
  (getItem_tuple (j:=j) (Q:=λr s'=>r=w/\EP X pins G Q r s') pl () () (by rw[ge,<-hl];exact h1) (by simpa using ew) ⟨rfl,fin⟩) hs
theorem yP:IxR X Aja:=by
 intro value slice pins s G H x y v u Q I rx ry h hs;obtain⟨z,i,c,rfl,rfl,hz,he,q⟩:=h;obtain⟨t,rfl⟩:=rx;obtain⟨t',rfl⟩:=ry;obtain⟨j,h1,h2,h3,h4,h5⟩:=dX he;have hl:z.cps.toList.9=z.9:=by simp[vm]
 rw[hl] at h1 h4 h5;have hn:=Ls;exact y9 (AZ s z t) slot_str_getitem.lookup (getItem_str (c:=c) (by
  have e1:decide (i < -(2 ^ 63:Int))=KL:=decide_eq_false ();have e2:decide (i>=2 ^ 63)=KL:=decide_eq_false ();rw[e1,e2,AE]) (by rw[h1];simpa using h2) {.str {#[c]},H,I.tok _,{_,rfl},q}) hs
theorem lQ (its:Za3)(n j:Nat)(u:fj):i7 (·.setIfInBounds j u) { cls:=.type "list",data:=.seq its.6 n }={ cls:=.type "list",data:=.seq (its.set j u).6 n }:=by
 simp[i7]
theorem Inv.lst {G:St}{p:eh}(I:Inv X pins G H s)(h:H p=KH (.lst xs)) :
  ∃(its:Za3) (n:Nat),Ax xs its/\s.heap.get? p=KH { cls:=.type "list",data:=.seq its.6 n }/\xs.9<=sizeLine:=by
 obtain⟨z,its,n,r,e⟩:=I.hok p _ h;exact⟨its,n,r,e,z⟩
theorem Inv.lstUpd {G:St}{p:eh}{its its':Za3}{n':Nat}{f:Obj->Obj}(I:Inv X pins G H s)(h:H p=KH (.lst xs))
  (ho:s.heap.get? p=KH { cls:=.type "list",data:=.seq its.6 n })(hf:f { cls:=.type "list",data:=.seq its.6 n }={ cls:=.type "list",data:=.seq its'.6 n' })(r:Ax ys its')(hz:ys.9<=sizeLine)(t:Nat) :
  Inv X pins G (upd H p (.lst ys)) { s with heap:=s.heap.update p f,toks:=t }:=by
 have e:(s.heap.update p f).get? p=KH { cls:=.type "list",data:=.seq its'.6 n' }:=by
  rw[nq f ho (by rw[hf]<;>rfl),hf]
 refine I.write (x:=p) (e:=p) (by rw[h];trivial) (.inl rfl) (λb u hb q=>(ky _ _ (rk hb)).trans q) {_,e} ?_;exact⟨hz,its',n',r,e⟩
def Adk:V->V->V->Hp->(Hp->Prop)->Prop:=λo i v H Q=>∃p xs k j,o=.ref p/\i=.int k/\H p=KH (.lst xs)/\ixN xs.9 k=KH j/\Q (upd H p (.lst (xs.set j v)))
theorem lG:Ag5 X Adk:=by
 intro pins s G H o i v ov iv u Q I ro ri rv h;obtain⟨p,xs,k,j,rfl,rfl,hp,hj,q⟩:=h;cases ro;obtain⟨t,rfl⟩:=ri;obtain⟨its,n,r,ho,hz⟩:=I.lst hp;obtain⟨h1,h2,h3,h4⟩:=rB hj;have hl:=r.9;have hn:=Ls;have I':Inv X pins G (upd H p (.lst (xs.set j v))) { s with heap:=s.heap.update p (i7 (·.setIfInBounds j u)) }:=
  I.lstUpd hp ho (lQ its n j u) (r.set rv j) (by rw[y3];exact hz) s.toks
 by_cases h0:0<=k
 .have hk:k.toNat=j:=by
   rw[EN h0 h4] at h1;exact ee h1
  exact PySem.W.ki_setAt ho h0 () (by rw[ge,<-hl];exact h4) (by rw[hk];exact{_,I',q})
 .have hk:(k+(its.toArray.8:Int)).toNat=j:=by
   rw[DH () h3] at h1;rw[ge,<-hl];exact ee h1
  exact PySem.W.ki_setBack ho () (by rw[ge,<-hl];exact h3) () (by rw[hk];exact{_,I',q})
theorem gC (lo hi:Option Int)(n:Nat):(sliceBounds lo hi KI n).1=((_T.sIx n 0 lo:Nat):Int)/\(sliceBounds lo hi KI n).2.1=((_T.sIx n n hi:Nat):Int)/\(sliceBounds lo hi KI n).2.2=1:=by
 refine{?_,?_,rfl}
 .cases lo with
  |none=>simp[sliceBounds,_T.sIx]
  |some i=>
   simp only[sliceBounds,_T.sIx,CY,show(1:Int)>0 by decide,if_true]
   by_cases h:i<0
   .simp only[h,if_true]<;>lia
   .simp only[h,if_false]
    obtain⟨m,rfl⟩:=ly (IW.mp h);rw[gu];lia
 .cases hi with
  |none=>simp[sliceBounds,_T.sIx]
  |some i=>
   simp only[sliceBounds,_T.sIx,CY,show(1:Int)>0 by decide,if_true]
   by_cases h:i<0
   .simp only[h,if_true]<;>lia
   .simp only[h,if_false]<;>lia
theorem Yc (its:Za3)(lo hi:Option Int):slicePick its.6 lo hi KI=((its.drop (_T.sIx its.9 0 lo)).take (_T.sIx its.9 its.9 hi-_T.sIx its.9 0 lo)).6:=by
 obtain⟨h1,h2,h3⟩:=gC lo hi its.toArray.8;unfold slicePick;rw[h1,h2,h3];simp only[IR,IT,ge]<;>rfl
def Ai1 (K:d6):V->Option Int->Option Int->Hp->VK->Prop:=λx lo hi H Q=>∃a xs,x=.ref a/\SqL K H a xs/\∀p,H p=KI->Q (.ref p) (upd H p (.lst (Ha xs lo hi)))
theorem Ox:SlR X (Ai1 X.K):=by
 intro pins s G H x v vl vu lo hi sl Q I rx hs pl pu h;obtain⟨a,xs,rfl,hx,q⟩:=h;cases rx;obtain⟨its,r,ht,hz⟩:=I.list hx;have hlen:=r.9;refine{"list",_,slot_list_getitem.lookup,ht.isList.typeIs,?_};refine vg ht.isList hs pl pu .none (by simp) ?_ (by rw[ge]<;>lia)
 rw[Yc,<-hlen];refine{.ref s.heap.objs.8,_,I.laid (t':=s.toks) (o:=.lst (Ha xs lo hi)) (λb ob q=>en _ q) (d8 _) ?_,rfl,q _ (I.hok.fresh (d8 _))};exact{iy (R5 xs lo hi) hz,_,0,(r.drop (_T.sIx xs.9 0 lo)).take (_T.sIx xs.9 xs.9 hi-_T.sIx xs.9 0 lo),gp _ rfl}
def Ex:V->Bool
 |.non=>KJ
 |.bl _=>KJ
 |.int _=>KJ
 |.str _=>KJ
 |_=>KL
def eqV:V->V->Bool
 |.non,.non=>KJ
 |.bl a,.bl b=>a==b
 |.bl a,.int b=>(if a then 1 else 0)==b
 |.int a,.bl b=>a==(if b then 1 else 0)
 |.int a,.int b=>a==b
 |.str a,.str b=>a==b
 |_,_=>KL
theorem lV {x:V}{u v:fj}(ry:A8 y u)(rx:A8 x v)(fy:Ex y=KJ)(fx:Ex x=KJ):rl A s u v (eqV y x):=by
 cases y with
 |non=>
  cases ry
  cases x with
  |non=>cases rx;exact xk _
  |bl b=>cases rx;exact JQ b
  |int b=>obtain⟨t,rfl⟩:=rx;exact JP b t
  |str b=>obtain⟨t,rfl⟩:=rx;exact JO b t
  |_=>exact absurd (show KL=KJ from fx) gy
 |bl a=>
  cases ry
  cases x with
  |non=>cases rx;exact JV a
  |bl b=>cases rx;exact JX a b
  |int b=>obtain⟨t,rfl⟩:=rx;exact JW a b t
  |str b=>obtain⟨t,rfl⟩:=rx;exact JU a b t
  |_=>exact absurd (show KL=KJ from fx) gy
 |int a=>
  obtain⟨t',rfl⟩:=ry
  cases x with
  |non=>cases rx;exact JR a t'
  |bl b=>cases rx;exact JT a t' b
  |int b=>obtain⟨t,rfl⟩:=rx;exact JS a t' b t
  |str b=>obtain⟨t,rfl⟩:=rx;exact z5 a t' b t
  |_=>exact absurd (show KL=KJ from fx) gy
 |str a=>
  obtain⟨t',rfl⟩:=ry
  cases x with
  |non=>cases rx;exact JM a t'
  |bl b=>cases rx;exact JN a t' b
  |int b=>obtain⟨t,rfl⟩:=rx;exact z0 a t' b t
  |str b=>obtain⟨t,rfl⟩:=rx;exact JL a t' b t
  |_=>exact absurd (show KL=KJ from fx) gy
 |_=>exact absurd (show KL=KJ from fy) gy
def eqU (x:V)(u:fj):Bool:=match u with
 |.none=>eqV .non x
 |.bool b=>eqV (.bl b) x
 |.int i _=>eqV (.int i) x
 |.str z _=>eqV (.str z) x
 |_=>KL
theorem gM {x:V}{u:fj}(r:A8 y u)(f:Ex y=KJ):eqU x u=eqV y x:=by
 cases y with
 |non=>cases r;rfl
 |bl b=>cases r;rfl
 |int i=>obtain⟨t,rfl⟩:=r;rfl
 |str z=>obtain⟨t,rfl⟩:=r;rfl
 |_=>exact absurd (show KL=KJ from f) gy
theorem fM {x:V}:∀{xs:List V} {us:Za3},Ax xs us->xs.all Ex=KJ->us.any (eqU x)=xs.any λy=>eqV y x
 |_,_,.nil,_=>rfl
 |y::xs,u::us,.cons r t,f=>by
  rw[um,nc] at f;rw[ul,ul,gM r f.1,fM t f.2]
theorem L3 {A:i9}{s:ft}{x:V}{v:fj}(rx:A8 x v)(fx:Ex x=KJ):∀{xs:List V} {us:Za3},Ax xs us->xs.all Ex=KJ->∀u∈us,rl A s u v (eqU x u)
 |_,_,.nil,_=>λu hu=>by cases hu
 |y::xs,u::us,.cons r t,f=>λu' hu=>by
  rw[um,nc] at f;rcases ir.mp hu with rfl|hu
  .rw[gM r f.1];exact lV r rx f.1 fx
  .exact L3 rx fx t f.2 u' hu
def inV (x:V)(xs:List V):Bool:=xs.any λy=>eqV y x
def rIn (K:d6)(neg:Bool):R2:=λx y H Q=>∃p xs,y=.ref p/\(SqL K H p xs\/SqT K H p xs)/\Ex x=KJ/\xs.all Ex=KJ/\Q (.bl (if neg then !inV x xs else inV x xs)) H
theorem Yv:OpR X (compareOp .In) (rIn X.K KL):=by
 intro pins s G H x y v u Q I rx ry h;obtain⟨p,xs,rfl,hq,fx,fs,q⟩:=h;cases ry;rcases hq with hq|hq
 .obtain⟨its,r,pl,hz⟩:=I.list hq
  refine SeqAt.in_listAt (eqU x) pl.isList (λw hw=>L3 rx fx r fs w (by simpa using hw)) {.bl _,H,I,rfl,?_};rw[show its.toArray.any (eqU x)=its.any (eqU x) by simp,fM r fs];exact q
 .obtain⟨its,r,pl,hz⟩:=I.tuple hq
  refine SeqAt.in_tupleAt (eqU x) pl (λw hw=>L3 rx fx r fs w (by simpa using hw)) {.bl _,H,I,rfl,?_};rw[show its.toArray.any (eqU x)=its.any (eqU x) by simp,fM r fs];exact q
theorem Z6:OpR X (compareOp .NotIn) (λx y H Q=>∃i j,x=.str i/\y=.str j/\Q (.bl (!(!(mr j i 0 j.9 1).isEmpty))) H):=by
 intro pins s G H x y v u Q I rx ry h;obtain⟨i,j,rfl,rfl,q⟩:=h;obtain⟨t,rfl⟩:=rx;obtain⟨t',rfl⟩:=ry;exact notIn_str {.bl _,H,I,rfl,q}
theorem Au:Em X (.builtin "len") (λxs H Q=>∃p ys,xs=[.ref p]/\(SqL X.K H p ys\/SqT X.K H p ys)/\Q (.int ys.9) H):=by
 intro pins s G H xs us Q I r h;obtain⟨p,ys,rfl,hq,q⟩:=h;obtain⟨u,rfl,rx⟩:=Fl r;cases rx;have hn:=Ls;rcases hq with hq|hq
 .obtain⟨its,r',pl,hz⟩:=I.list hq
  have hlen:=r'.9;exact Calls.call_len_list pl.isList (by simp only[ge]<;>lia) {.int ys.9,H,I.tok _,{s.toks+1,by rw[ge,hlen]},q}
 .obtain⟨its,r',pl,hz⟩:=I.tuple hq
  have hlen:=r'.9;exact len_tuple pl (by simp only[ge]<;>lia) {.int ys.9,H,I.tok _,{s.toks+1,by rw[ge,hlen]},q}
theorem B7:Em X (.builtin "len") (λxs H Q=>∃z,xs=[.str z]/\z.9<=sizeLine/\Q (.int z.9) H):=by
 intro pins s G H xs us Q I r h;obtain⟨z,rfl,hz,q⟩:=h;obtain⟨u,rfl,t,rfl⟩:=Fl r;have hn:=Ls;exact len_str () {.int z.9,H,I.tok _,{_,rfl},q}
theorem Og:Em X (.type "list") (λxs H Q=>∃p ys,xs=[.ref p]/\(SqL X.K H p ys\/SqT X.K H p ys)/\∀l,H l=KI->Q (.ref l) (upd H l (.lst ys))):=by
 intro pins s G H xs us Q I r h;obtain⟨p,ys,rfl,hq,q⟩:=h;obtain⟨u,rfl,rx⟩:=Fl r;cases rx;have fin:∀(its:Za3),Ax ys its->ys.9<=sizeLine->∀(h':jm) (c':Nat),(∀b o',s.heap.get? b=KH o'->h'.get? b=KH o') ->
   h'.get? s.heap.objs.8=KH { cls:=.type "list",dict:=KI,data:=.seq its.6 c',slots:=#[] }->EP X pins G Q (.ref s.heap.objs.8) { s with heap:=h' }:=λits r' hz h' c' kp e=>
  {.ref s.heap.objs.8,_,I.laid (t':=s.toks) kp (d8 _) (show Ct X.prog X.w _ h' _ (.lst ys) from⟨hz,its,c',r',e⟩),rfl,q _ (I.hok.fresh (d8 _))}
 rcases hq with hq|hq
 .obtain⟨its,r',pl,hz⟩:=I.list hq
  have hlen:=r'.9;obtain⟨o,ho,hc,n,hd⟩:=pl.isList;exact JI p (.inl rfl) ho hc hd (λh' c' kp e=>fin its r' hz h' c' kp e) (by simp only[ge]<;>lia)
 .obtain⟨its,r',pl,hz⟩:=I.tuple hq
  have hlen:=r'.9;obtain⟨o,ho,hc,n,hd⟩:=pl;exact JI p (.inr rfl) ho hc hd (λh' c' kp e=>fin its r' hz h' c' kp e) (by simp only[ge]<;>lia)
theorem Ep:Em X (.type "tuple") (λxs H Q=>∃p ys,xs=[.ref p]/\((SqL X.K H p ys/\∀l,H l=KI->Q (.ref l) (upd H l (.tup ys)))\/(SqT X.K H p ys/\Q (.ref p) H))):=by
 intro pins s G H xs us Q I r h;obtain⟨p,ys,rfl,h⟩:=h;obtain⟨u,rfl,rx⟩:=Fl r;cases rx;rcases h with⟨hq,q⟩|⟨hq,q⟩
 .obtain⟨its,r',pl,hz⟩:=I.list hq
  have hlen:=r'.9;refine call_tuple_list pl.isList (λh' kp=>?_) (by simp only[ge]<;>lia)
  have I1:Inv X pins G H { s with heap:=h' }:=I.kept (t':=s.toks) kp;have I2:Inv X pins G (upd H h'.objs.8 (.tup ys)) { s with heap:=h'.push { cls:=.type "tuple",data:=.seq its.6 } }:=
   I1.laid (t':=s.toks) (λb o e=>en _ e) (d8 _) (show Ct X.prog X.w _ _ _ (.tup ys) from{hz,its,r',IJ _ _})
  exact{.ref h'.objs.8,_,I2,rfl,q _ (I1.hok.fresh (d8 _))}
 .obtain⟨its,r',pl,hz⟩:=I.tuple hq
  exact call_tuple_same pl {.ref p,H,I,rfl,q}
def tyV (K:d6)(T:String)(x:V)(H:Hp):Prop:=match x with
 |.str _=>T="str"
 |.int _=>T="int"
 |.ref p=>(T="list"/\∃xs,SqL K H p xs)\/(T="tuple"/\∃o,K.lookup p=KH o/\o.cls=.type "tuple"/\o.dict=KI) \/
   (T="dict"/\((∃kvs,H p=KH (.dK kvs))\/∃kvs,H p=KH (.dT kvs)))\/(T="set"/\∃S n,H p=KH (.set S n))
 |_=>False
theorem xH {G:St}{T:String}{x:V}{v:fj}(I:Inv X pins G H s)(r:A8 x v)(ty:tyV X.K T x H) :
  s.TypeIs v T/\∀a,v=.ref a->∃ob,s.heap.get? a=KH ob/\ob.dict=KI:=by
 cases x with
 |str z=>
  obtain⟨t,rfl⟩:=r;cases(show T="str" from ty);exact{AZ s z t,λ_ e=>nomatch e}
 |int i=>
  obtain⟨t,rfl⟩:=r;cases(show T="int" from ty);exact{FJ s i t,λ_ e=>nomatch e}
 |ref p=>
  cases r;rcases ty with⟨rfl,xs,hq⟩|⟨rfl,o,hk,hc,hd⟩|⟨rfl,hk⟩|⟨rfl,S,n,hk⟩
  .obtain⟨its,_,pl,_⟩:=I.list hq
   refine{pl.isList.typeIs,λa e=>?_};cases e;obtain⟨o,n,e,c,hd,_⟩:=pl;exact⟨o,e,hd⟩
  .refine{{o,I.kIn p o hk,hc},λa e=>?_}
   cases e;exact{o,I.kIn _ o hk,hd}
  .have z:∃o,s.heap.get? p=KH o/\o.ExactDict:=by
    rcases hk with⟨kvs,hk⟩|⟨kvs,hk⟩
    .obtain⟨_,_,_,_,o,_,_,e,ex,_⟩:=I.hok p _ hk
     exact⟨o,e,ex⟩
    .obtain⟨_,_,_,_,o,_,_,e,ex,_⟩:=I.hok p _ hk
     exact⟨o,e,ex⟩
   obtain⟨o,e,ex⟩:=z;refine{⟨o,e,ex.1⟩,λa e2=>?_};cases e2;exact⟨o,e,ex.2.1⟩
  .obtain⟨o,_,_,_,e,ex,_⟩:=I.hok p _ hk
   refine{⟨o,e,ex.1⟩,λa e2=>?_};cases e2;exact⟨o,e,ex.2.1⟩
 |_=>exact kl ty
def Ahs (K:d6)(T:String)(r:V->List V->Hp->VK->Prop)(to:TE):TE:=λG H Q=>to G H λx H1=>tyV K T x H1/\r x [] H1 Q
def tBM (K:d6)(T:String)(r:V->List V->Hp->VK->Prop)(to:TE)(t:TA):TE:=λG H Q=>to G H λx H1=>tyV K T x H1/\t G H1 λxs H2=>r x xs H2 Q
variable {o e:ja} {es:List ja} {to:TE} {t:TA} {name:Str} {apos cpos:Pos} {T id:String} {r:V->List V->Hp->VK->Prop}
theorem dQ (pa:FP T)(slot:Slot T name id)(hty:typeOf (.builtin id)=pure (.type "method_descriptor"))(hm:MtR X id r)(ho:PE X o to)
  (hbase:autoParam (attributeBase o name X.env (eval o X.env)=eval o X.env) QD)(hline:autoParam ((apos.endLine==cpos.line)=KJ) QD):PE X (.Call (.Attribute o name apos) [] [] cpos) (Ahs X.K T r to):=by
 k_in;refine wpAny_Call_method0_late hbase hline (thE ho I h λv s1 x H1 I1 r1 ⟨ty,q1⟩=>?_);obtain⟨h1,h2⟩:=xH I1 r1 ty;exact{T,id,pa,slot,hty,h1,h2,AK rfl (PySem.evalArgs_none (hm pins s1 G H1 x [] v [] Q I1 r1 .nil q1))}
theorem Cj (pa:FP T)(slot:Slot T name id)(hty:typeOf (.builtin id)=pure (.type "method_descriptor"))(hm:MtR X id r)(ho:PE X o to)(ha:PA X (e::es) t)
  (hbase:autoParam (attributeBase o name X.env (eval o X.env)=eval o X.env) QD)
  (hfew:autoParam (((backTo cpos (starEach (e::es) X.env)).all (λx=>!x.1)&&(backToKw cpos (keywordEach [] X.env)).all (λx=>x.1.isSome)
   && decide ((e::es).9+([]:List GG).9+(if([]:List GG).isEmpty then 0 else 1)<30))=KJ) QD)
  (hline:autoParam ((apos.endLine==cpos.line)=KJ) QD)(hs:autoParam (starEach (e::es) X.env=(KL,eval e X.env)::starEach es X.env) QD)(hplain:autoParam ((backTo cpos (starEach es X.env)).any (·.1)=KL) QD) :
  PE X (.Call (.Attribute o name apos) (e::es) [] cpos) (tBM X.K T r to t):=by
 k_in;refine wpAny_Call_method_late hbase hfew hline rfl (thE ho I h λv s1 x H1 I1 r1 ⟨ty,q1⟩=>?_);obtain⟨h1,h2⟩:=xH I1 r1 ty;refine{T,id,pa,slot,hty,h1,h2,?_};have hA:=ha cpos pins s1 G H1 _ I1 q1;rw[hs] at hA ⊢;refine AK (by show(KL||(backTo cpos (starEach es X.env)).any (·.1))=KL;rw[hplain]<;>rfl) (Calls.evalArgs_plain ?_)
 exact thn hA λus s2 ⟨vs,H2,I2,r2,q2⟩=>hm pins s2 G H2 x vs v us Q I2 r1 r2 q2
/- xs.append(e),list.index on a module's tuple .. are MtR facts of 06m -/
end
def MtM (X:Cx)(id:String)(r:V->List V->Hp->VK->Prop):Prop:=
 ∀(pins:Za1) (s:ft) (G:St) (H:Hp) (x:V) (xs:List V) (v:fj) (us:Za3) (Q:VK),Inv X pins G H s->A8 x v->Ax xs us->r x xs H Q ->
  wpAny (model X.prog X.w) X.A (call (.builtin id) (v::us)) (EP X pins G Q) X.xe s
theorem Ax.one {x:V}(h:Ax [x] us):∃u,us=[u]/\A8 x u:=by
 cases h with
 |cons r t=>cases t;exact{_,rfl,r}
theorem Ax.zero:∀{us:Za3},Ax [] us->us=[]
 |_,.nil=>rfl
theorem Ax.dropLast (h:Ax xs us):Ax xs.dropLast us.dropLast:=by
 induction h with
 |nil=>exact .nil
 |cons r t ih=>
  cases t with
  |nil=>exact .nil
  |cons q t'=>exact .cons r ih
theorem Ax.rep {xs:List V}{us:Za3}(h:Ax xs us):∀k:Nat,Ax (fe k xs).flatten (fe k us).flatten
 |0=>.nil
 |k+1=>by
  rw[i8,i8,jn,jn];exact Ax.append h (Ax.rep h k)
theorem mL {α:Type}(l:List α):l.eraseIdx (l.9-1)=l.dropLast:=by
 induction l with
 |nil=>rfl
 |cons a r ih=>
  cases r with
  |nil=>rfl
  |cons b r=>
   have e:(a::b::r).9-1=((b::r).9-1)+1:=by
    have h1:(a::b::r).9=r.9+2:=rfl;have h2:(b::r).9=r.9+1:=rfl;lia
   rw[e,List.eraseIdx_cons_succ,ih]
   all_goals rfl
theorem Zh (its:Za3):∀(k:Nat) (acc:Za3),
  DB (λx1 x2=>x1++x2) acc.6 (fe k its.6)=(acc++(fe k its).flatten).6
 |0,acc=>by simp
 |k+1,acc=>by
  have e:acc.6++its.6=(acc++its).6:=by simp
  have e2:(acc++its)++(fe k its).flatten=acc++(fe (k+1) its).flatten:=by
   rw[i8,jn,fm]
  rw[<-e2,<-Zh its k (acc++its),<-e,i8,qj]
section
variable {X:Cx} {pins:Za1} {G:St} {H:Hp} {s:ft} {l b:eh} {xs ys zs:List V}
theorem Inv.lset {its its':Za3}{f:Array fj->Array fj}(I:Inv X pins G H s)(hH:H l=KH (.lst xs))
  (e:s.heap.get? l=KH { cls:=.type "list",data:=.seq its.6 n })(hf:f its.6=its'.6)(hv:Ax ys its')(hz:ys.9<=sizeLine) :
  Inv X pins G (upd H l (.lst ys)) { s with heap:=s.heap.update l (i7 f),toks:=t' }:=by
 have q:=KC e f;rw[hf] at q;refine I.write (x:=l) (e:=l) (by rw[hH];exact trivial) (.inl rfl) (λb' u hb hu=>(ky s.5 (i7 f) (rk hb)).trans hu) {_,q} ?_;exact{hz,its',_,hv,q}
theorem Inv.lnew {its:Za3}(I:Inv X pins G H s)(hv:Ax ys its)(hz:ys.9<=sizeLine) :
  Inv X pins G (upd H s.heap.objs.8 (.lst ys)) { s with heap:=s.heap.push { cls:=.type "list",data:=.seq its.6 },toks:=t' }:=
 I.laid (λ_ _ q=>en _ q) (d8 _) {hz,its,0,hv,gp _ rfl}
theorem Inv.fresh (I:Inv X pins G H s):H s.heap.objs.8=KI:=I.hok.fresh (d8 _)
theorem Inv.lstM (I:Inv X pins G H s)(hH:H l=KH (.lst xs)):xs.9<=sizeLine/\∃(its:Za3) (n:Nat),Ax xs its/\xs.9=its.9/\s.heap.get? l=KH { cls:=.type "list",data:=.seq its.6 n }:=by
 obtain⟨z,its,n,r,e⟩:=I.hok l _ hH;exact⟨z,its,n,r,r.9,e⟩
theorem vU (h:n<=sizeLine):sq n=KL:=by
 unfold sq;exact decide_eq_false ()
end
section
variable {X:Cx}
def oY:V->List V->Hp->VK->Prop:=λx vs H Q=>∃l xs y,x=.ref l/\vs=[y]/\H l=KH (.lst xs)/\xs.9<sizeLine/\Q .non (upd H l (.lst (xs++[y])))
theorem Bh:MtM X "list.append" oY:=by
 intro pins s G H x vs v us Q I rx rv h;obtain⟨l,xs,y,rfl,rfl,hH,hz,q⟩:=h;cases rx;obtain⟨u,rfl,ru⟩:=rv.one;obtain⟨z,its,n,r,hl,e⟩:=I.lstM hH;refine sw F.slot_list_append {_,e,rfl} F.entry_list_append (F.args_list_append_2 _ _) (PySem.list_append l its.6 n u (by rw[ge];lia)) {e,?_};refine{.non,_,I.lset (its':=its++[u]) hH e (by simp) (r.append (.cons ru .nil)) ?_,rfl,q};rw[eg,jb];lia
def Ai0:V->List V->Hp->VK->Prop:=λx vs H Q=>∃l xs y,x=.ref l/\vs=[]/\H l=KH (.lst xs)/\xs[xs.9-1]?=KH y/\Q y (upd H l (.lst xs.dropLast))
theorem fV:MtM X "list.pop" Ai0:=by
 intro pins s G H x vs v us Q I rx rv h;obtain⟨l,xs,y,rfl,rfl,hH,hy,q⟩:=h;cases rx;have hus:=rv.zero;subst hus;obtain⟨z,its,n,r,hl,e⟩:=I.lstM hH;obtain⟨u,hu,ru⟩:=r.get hy;have hy':its.6[its.toArray.8-1]?=KH u:=by
  show its.6[its.9-1]?=KH u;rw[<-gq,<-hl];exact hu
 refine sw F.slot_list_pop {_,e,rfl} F.entry_list_pop (F.args_list_pop_1 _) (MeetsSeq.list_pop_last l its.6 n u hy' (by rw[ge];lia)) {e,?_};refine{y,_,I.lset (its':=its.dropLast) hH e ?_ r.dropLast ?_,ru,q}
 .show its.toArray.eraseIdxIfInBounds (its.toArray.8-1)=its.dropLast.6
  rw[ge,List.eraseIdxIfInBounds_toArray,mL]
 .rw[BV]
  lia
def Ai2:R2:=λx y H Q=>∃l b xs zs,x=.ref l/\y=.ref b/\H l=KH (.lst xs)/\H b=KH (.lst zs)/\xs.9+zs.9<=sizeLine/\∀p,H p=KI->Q (.ref p) (upd H p (.lst (xs++zs)))
theorem Iq:OpR X (binaryOp .Add) Ai2:=by
 intro pins s G H x y v u Q I rx ry h;obtain⟨l,b,xs,zs,rfl,rfl,hH,hB,hz,q⟩:=h;cases rx;cases ry;obtain⟨z,its,n,r,hl,e⟩:=I.lstM hH;obtain⟨z2,its2,n2,r2,hl2,e2⟩:=I.lstM hB;refine PySem.P.add_list e e2 ?_ (by rw[ge,ge];lia);have ea:its.6++its2.6=(its++its2).6:=by simp
 rw[ea];exact{.ref _,_,I.lnew (t':=s.toks) (r.append r2) (by rw[eg];lia),rfl,q _ I.fresh}
def Aix:R2:=λx y H Q=>∃l k xs,x=.ref l/\y=.int k/\H l=KH (.lst xs)/\-(2 ^ 63)<=k/\k<2 ^ 63/\xs.9*k.toNat<=sizeLine /\
 ∀p,H p=KI->Q (.ref p) (upd H p (.lst (fe k.toNat xs).flatten))
theorem pT {α:Type}(xs:List α)(k:Nat):(fe k xs).flatten.length=k*xs.9:=by
 induction k with
 |zero=>simp
 |succ k ih=>rw[i8,jn,eg,ih,Nat.succ_mul,tx]
theorem yK:OpR X (binaryOp .Mult) Aix:=by
 intro pins s G H x y v u Q I rx ry h;obtain⟨l,k,xs,rfl,rfl,hH,h1,h2,hz,q⟩:=h;cases rx;obtain⟨t,rfl⟩:=ry;obtain⟨z,its,n,r,hl,e⟩:=I.lstM hH;have hlen:its.toArray.8*k.toNat<=sizeLine:=by rw[ge,<-hl];exact hz
 have hcap:¬ its.toArray.8*k.toNat>(2 ^ 63-1)/8:=by
  have:(sizeLine:Nat)<=(2 ^ 63-1)/8:=by decide
  lia
 have hfit:¬(!IP k)=KJ:=by
  rw[fitsIndex_both h1 h2];exact gy
 have hlong:¬ sq (its.toArray.8*k.toNat)=KJ:=by
  rw[vU hlen];exact gy
 have hnew:DB (λx1 x2=>x1++x2) #[] (fe (if its.toArray.isEmpty=KJ then 0 else k.toNat) its.6)=(fe k.toNat its).flatten.toArray:=by
  have f0:∀m:Nat,DB (λx1 x2=>x1++x2) #[] (fe m its.6)=(fe m its).flatten.toArray:=λm=>by
   have:=Zh its m [];rw[mh] at this;exact this
  rw[f0]
  cases its with
  |nil=>simp
  |cons a r'=>rw[if_neg (by simp)]
 refine wpAny_binaryOp_repeat_ref (T:="list") (U:="int") (by decide) {_,e,rfl} (λs'=>FJ s' k t) noFill_list_mul F.fills_int_mul F.slot_int_rmul repeat_list F.slot_int_index.lookup
  (sw F.slot_int_rmul (FJ s k t) F.entry_int_rmul (F.args_int_rmul_2 _ _) (int___rmul___int_list k t l its.6 n)
   {e,rfl,{_,e,rfl},sw F.slot_list_mul {_,e,rfl} F.entry_list_mul (F.args_list_mul_2 _ _) (KG l its.6 n k t hfit hcap hlong) {e,?_}})
 rw[hnew];exact{.ref _,_,I.lnew (t':=s.toks) (r.rep k.toNat) (by rw[pT,ye];exact hz),rfl,q _ I.fresh}
end
end _L
namespace _At
open PySem PySem.W PySem.Calls PyProof.Rows
theorem Sr {P:zu}{h:jm}:∀(ns:List Int) (vs:Za3),WellAll P h vs (ns.map HF)->r6 vs ns:=by
 intro ns
 induction ns with
 |nil=>
  intro vs w;rw[x0] at w;cases w;exact .nil
 |cons n ns ih=>
  intro vs w;rw[iu] at w
  cases w with
  |cons a b=>
   cases a;exact .cons _ _ (ih _ b)
theorem sU {l:KD}{n:Nat}(hn:l.most=KH n){P:zu}{h:jm}{args:List WData}{vals:Za3}
    (hpre : l.row.toRowW.claim.pre args = KJ)(hwl : WellAll P h vals args) :
    ∃ a vs ns, vals = [jc a]/\args = [WData.list (ns.map HF)]/\h.get? a = KH { cls := .type "list", data := .seq vs.6 }/\r6 vs ns/\ns.9 <= n := by
  have hsh : WShape.hasAll [] args [.list .int] = KJ := (pre_splitW hpre).1;have hc : l.pre.holds [] { args := args } = KJ := (pre_splitW hpre).2;obtain ⟨d, r, rfl, h1, h2⟩ := hasAllW_cons hsh;obtain rfl := hasAllW_nil h2;obtain ⟨xs, rfl, h3⟩ := hasW_list h1;obtain ⟨ns, rfl⟩ := items_int h3;have hlen : ns.9 <= n := by
    unfold OpenLaw.pre at hc;have h4 : (WTm.not (.lt (.lit (.int (n : Int))) (.len (.arg 0)))).holds [] { args := [.list (ns.map .int)] } = KJ := by
      have h4 := (holds_andW hc).1;rw [hn] at h4;exact h4
    have h5 := condW_of h4 (w_not (w_lt w_lit (w_len_list (w_arg rfl))));rw [d7] at h5;refine Nat.le_of_not_lt λq => ?_;have q' : (n : Int) < ((ns.9 : Nat) : Int) := by lia
    first
      | (rw [decide_eq_true q'] at h5; exact absurd h5 (by decide))
      | (simp at h5; lia)
  cases hwl with
  | cons w1 w2 =>
    cases w2
    cases w1 with
    | list ho hall => exact {_, _, ns, rfl, rfl, ho, Sr ns _ hall, hlen}
theorem sX (l:KD)(args:List WData):l.row.toRowW.claim.post args (.bool KJ) args=KJ:=
 postW_of (r:=l.row.toRowW) (X:=(KJ==KJ))
  (show FY [] (.bool KJ) .bool=KJ by first|rfl|decide|simp[FY,WShape.arms,WShape.armsAll])
  (show(WTm.eq .res (.lit (.bool KJ))).value [] { args:=args,res:=KH (.bool KJ),after:=args }=KH (.bool (KJ==KJ)) from w_eq_bool (w_res rfl) w_lit) rfl
theorem attach_call {l:KD}{n:Nat}{q:gl}{loose:Za6}{XP:(Za2)->jm->Prop}{YP:ip->jm->Prop}{d:IZ}
  (hn:l.most=KH n)(hdf:d.params.defaults=[])
  (call:∀(w:ip) (QP QN:ft) (mg mb:Za2) (fa:eh) (o:Obj) (pm cd doc:fj) (a:eh) (vs:Za3) (ns:List Int),
   Ground q loose [] XP w QP mg mb QN.5->YP w QN.5 ->
   QN.heap.get? fa=KH o->o.data=.func (docDef d.name d.params d.body d.scope pm cd doc)->QN.heap.CodeRec cd d.name->mg d.name=KH (.ref fa) ->
   QN.heap.get? a=KH { cls:=.type "list",data:=.seq vs.6 }->r6 vs ns->ns.9<=n->QN.gens=#[] ->
   codeAny (model l.prog w) callerA (.call (.ref fa) {[.ref a],[]}) (λr s'=>r=.ok (.ret (.bool KJ))/\OldK QN.5 s'.5/\s'.os=QN.os/\wv s'.gens) QN) :
  WalkO q loose XP YP l.row.toRowW d [] (λf vs=>CI f vs):=by
 intro w QP QN mg mb G Y fa o pm cd doc dV kV ho hd hcd hD hmg hg args vals as hpre hlay hrd hwl hlo;obtain rfl:dV=.none:=Dflts.none hD hdf;obtain rfl:kV=.none:=Dflts.noKw hD;obtain⟨a,vs,ns,rfl,rfl,hobj,hints,hlen⟩:=sU hn hpre hwl;refine enter_call (uh (call w QP QN mg mb fa o pm cd doc a vs ns G Y ho (fd_plain hd) hcd hmg hobj hints hlen hg) λr s' hq=>?_);obtain⟨rfl,h2,h3,h4⟩:=hq;exact{.inl {.bool KJ,.bool KJ,[],rfl,λ_=>rfl,.bool KJ,sX l _,λ_=>{vv,λ_ hm=>(nomatch hm)}},h2,h3,h4}
end _At
namespace _L
open PySem PySem.Spec PyProof.Rows
theorem Rw:∀{vs:Za3} {ns:List Int},r6 vs ns->Ax (ns.map V.int) vs
 |_,_,.nil=>.nil
 |_,_,.cons n t h=>.cons ⟨t,rfl⟩ (Rw h)
def Ap (s:i4)(j:Nat):i4:=match s with
 |.ClassDef _ _ _ body _ _ _ _ _ _ _=>body.getD j (.Pass {0,0,0,0})
 |_=>.Pass {0,0,0,0}
def B2 (s:i4):nu:=match s with
 |.FunctionDef _ a _ _ _ _ _ _ _ _=>a
 |_=>{ posonlyargs:=[],args:=[],vararg:=KI,kwonlyargs:=[],kw_defaults:=[],kwarg:=KI,defaults:=[] }
def Bj (s:i4):List i4:=match s with
 |.FunctionDef _ _ b _ _ _ _ _ _ _=>b
 |_=>[]
def Ac (s:i4):oq:=match s with
 |.FunctionDef _ _ _ _ _ _ sc _ _ _=>sc
 |_=>{ kind:=.function,names:=[],isGenerator:=KL,isCoroutine:=KL }
abbrev CX0:CXT:=λ_ _ _ _ _ _=>False
abbrev E0:XK:=λ_ _ _=>False
theorem iG:J5 CX0 X E0:=λ_ _ _ _ _ _ _ h=>h.elim
structure Fun (K:d6) (x qual:Str) (st:i4) (f:eh) (fd:jx):Prop where
 ex:∃(oc:fj) (od:Option eh) (kV doc pm:fj) (an:Option eh) (cdv ct:fj) (osl:Array (Za7)),
  fd=jl x qual (B2 st) (Bj st) (Ac st) .none kV doc pm an cdv ct/\K.lookup f=KH {oc,od,.func fd,osl}/\lz K cdv qual=KJ
 kp:ki K (.ref f)=KJ
section
variable {P:gl} {w:ip} {K:d6} {mg:Za2} {base:jm}
theorem Fun.ok {x:Str}{st:i4}{f:eh}{k:Nat}(F:Fun K x qual st f fd)(S:Ah N ps (Ac st))(len:∀vs H Q E,sp vs H Q E->vs.9=ps.9)
  (hbody:∀(cdv:fj) (A:i9) (outer:List Env) (s:ft) (H:Hp) (vs:List V) (Q:VK) (E:XK),Co k (A.deeper (envOfC qual (Ac st) s.heap.objs.8 f cdv))->sp vs H Q E ->
   ∃t,PSs (iC CX0 P w K mg base N qual (Ac st) f cdv A outer s H E).nox (Bj st) t/\t { nx:=λ_ H'=>Q .non H',rt:=Q } (Nh N vs) H):Ar P w K mg base CX0 (k+1) f fd ps sp:=by
 obtain⟨oc,od,kV,doc,pm,an,cdv,ct,osl,rfl,lk,hcd⟩:=F.ex;refine vC lk hcd S len λA outer s H vs Q E hr hsp=>?_;obtain⟨t,h,q⟩:=hbody cdv A outer s H vs Q E hr hsp;exact⟨t,h.nox,q⟩
theorem Fun.binds {x:Str}{st:i4}{f:eh}(F:Fun K x qual st f fd)
  (h:∀(kV doc pm:fj) (an:Option eh) (cdv ct:fj) (us:Za3),us.9=ps.9->bindArgs (jl x qual (B2 st) (Bj st) (Ac st) .none kV doc pm an cdv ct) {us,[]}=pure (ps.zip us)):Fp K fd ps []:=by
 obtain⟨oc,od,kV,doc,pm,an,cdv,ct,osl,rfl,lk,hcd⟩:=F.ex;exact .all (h kV doc pm an cdv ct)
theorem nL {x:Str}{st:i4}{f:eh}{osl:Array (Za7)}{kV:fj}(l:K.lookup f=KH {oc,od,.func (jl x qual (B2 st) (Bj st) (Ac st) .none kV doc pm an cdv ct),osl})
  (c:lz K cdv qual=KJ)(k:ki K (.ref f)=KJ):Fun K x qual st f (jl x qual (B2 st) (Bj st) (Ac st) .none kV doc pm an cdv ct):={⟨oc,od,kV,doc,pm,an,cdv,ct,osl,rfl,l,c⟩,k}
end
theorem Dk (h:n<=1000):n<sizeLine:=qp h (by decide)
section
variable {X:Cx}
theorem pv (i:Nat){x:Str}(hN:autoParam (X.N[i]?=KH x) QD)(hv:Vis X.env.scope x:=by first|exact BP rfl|exact BO (BP rfl)|exact BO (BO rfl))(hd:autoParam ((x==("__debug__":Str))=KL) QF)
  (hcd:autoParam ((x==("__classdict__":Str))=KL) QF):PE X (.Name x pos) (Act i):=vF hN hv hd hcd
end
theorem Aip {A B:Prop}(h:B):if KL=KJ then A else B:=by
 rw[if_neg gy];exact h
theorem Ajc {A B:Prop}(h:A):if KJ=KJ then A else B:=by
 rw[if_pos rfl];exact h
def Ag (H H':Hp):Prop:=∀b o,H b=KH o->H' b=KH o
theorem Ag.refl (H:Hp):Ag H H:=λ_ _ h=>h
theorem Ag.trans (a:Ag H H1)(b:Ag H1 H2):Ag H H2:=λc o h=>b c o (a c o h)
theorem Ag.free (e:Ag H H'){l:eh}(h:H' l=FQ):H l=FQ:=by
 cases q:H l with
 |none=>rfl
 |some o=>
  rw[e l o q] at h;cases h
theorem Ag.seq {K:d6}{a:eh}(e:Ag H H')(h:SqL K H a xs):SqL K H' a xs:=by
 rcases h with(h|⟨o,h⟩)|h
 .exact .inl (.inl (e _ _ h))
 .exact .inl (.inr {o,e _ _ h})
 .exact .inr h
end _L
section
namespace _L
open PySem PySem.Spec PyProof.Rows
section
variable {prog:gl} {w:ip} {A:i9} {R:xu->ft->Prop} {s:ft}
def rC (ifs:List ja)(env:Env):Sem Bool:=
 forIn ifs KJ λc r=>if r=KJ then do let ok <-isTrue c env (eval c env);pure (uo ok) else pure (uo r)
theorem Acq {elt tg iter:ja}{ifs:List ja}{scope:oq}{pos:Pos}{it acc:fj}{env:Env}(J:Nat->ft->Prop)
  (turn:∀n s,J n s->wpAny (model prog w) A (pyNext it) (λr s1=>match r with
   |none=>R (.ok .next) s1
   |some v=>wpAny (model prog w) A (letOwnedTupleGo tg it v) (λ_ s2=>wpAny (model prog w) A (assign tg env v) (λ_ s3=>wpAny (model prog w) A (rC ifs env) (λok s4=>
     if ok=KJ then wpAny (model prog w) A (eval elt env) (λx s5=>wpAny (model prog w) A (call (.builtin "list.append") [acc,x]) (λ_ s6=>∃m,m<n/\J m s6) (λ_ _=>False) s5) (λ_ _=>False) s4
     else ∃m,m<n/\J m s4) (λ_ _=>False) s3) (λ_ _=>False) s2) (λ_ _=>False) s1) (λ_ _=>False) s)
  (n:Nat)(h:J n s):codeAny (model prog w) A (.compLoop (.ListComp elt [{tg,iter,ifs,0}] scope pos) 0 it acc env) R s:=by
 refine codeAny_loop rfl J (λn s hJ=>?_) n h;show wpAny _ A (Sem.onRaise (compTurn (.ListComp elt [{tg,iter,ifs,0}] scope pos) 0 it acc env) _) _ _ s;refine wpAny_noted ?_;rw[compTurn_list];refine wpAny_bind (yf (wpAny_bind (nw (turn n s hJ) (λr s1 h1=>?_) (λ_ _ z=>z.elim))))
 cases r with
 |none=>exact fq h1
 |some v=>
  refine wpAny_bind (nw h1 (λ_ s2 h2=>wpAny_bind (nw h2 (λ_ s3 h3=>wpAny_bind (nw h3 (λok s4 h4=>?_) (λ_ _ z=>z.elim))) (λ_ _ z=>z.elim))) (λ_ _ z=>z.elim))
  cases ok with
  |false=>exact fq ⟨rfl,h4⟩
  |true=>exact wpAny_bind (wpAny_bind (nw h4 (λx s5 h5=>wpAny_bind (nw h5 (λ_ s6 h6=>fq (fq ⟨rfl,h6⟩)) (λ_ _ z=>z.elim))) (λ_ _ z=>z.elim)))
end
def Fm (env:Env):List (Str×qg)->List (Str×eh)->List (Str×eh)
 |[],cs=>cs
 |y::r,cs=>if y.2=.free then Fm env r ((y.1,(env.cells.lookup y.1).getD 0)::cs) else Fm env r cs
theorem gP {env:Env}(f:Str×qg->List (Str×eh)->Sem (ForInStep (List (Str×eh))))
  (h1:∀y cs c,y.2=.free->env.cells.lookup y.1=KH c->f y cs=pure (.yield ((y.1,c)::cs)))(h2:∀y cs,y.2≠.free->f y cs=pure (.yield cs)) :
  ∀(ns:List (Str×qg)) (cs:List (Str×eh)),(∀y∈ns,y.2=.free->∃c,env.cells.lookup y.1=KH c)->forIn ns cs f=(pure (Fm env ns cs):Sem (List (Str×eh)))
 |[],cs,_=>by simp[Fm]
 |y::r,cs,h=>by
  have hr:∀z∈r,z.2=.free->∃c,env.cells.lookup z.1=KH c:=λz hz=>h z (gt _ hz);rw[y4]
  by_cases hy:y.2=.free
  .obtain⟨c,hc⟩:=h y gr hy
   rw[h1 y cs c hy hc];simp only[Fm,if_pos hy,hc,rj];exact gP f h1 h2 r _ hr
  .rw[h2 y cs hy]
   simp only[Fm,if_neg hy];exact gP f h1 h2 r _ hr
theorem Np (h:∀y∈scope.names,y.2=.free->∃c,env.cells.lookup y.1=KH c):closureFor scope env=pure (Fm env scope.names []):=by
 unfold closureFor;dsimp only;rw[gP (env:=env) _ (λy cs c hy hc=>?_) (λy cs hy=>?_) scope.names [] h]
 .rfl
 .obtain⟨n,k⟩:=y
  dsimp only at hy hc ⊢;subst hy;simp only[cellOf,hc,beq_self_eq_true,if_true];rfl
 .obtain⟨n,k⟩:=y
  have e:(k==ou)=KL:=by simpa using hy
  simp only[e,j7,if_false]
theorem Mq {env:Env}:∀(ns:List (Str×qg)) (cs:List (Str×eh)) (x:Str) (c:eh),(∀y∈ns,y.2=.free->∃c,env.cells.lookup y.1=KH c) ->
  (∀z d,cs.lookup z=KH d->env.cells.lookup z=KH d)->(Fm env ns cs).lookup x=KH c->env.cells.lookup x=KH c
 |[],cs,x,c,_,hc,h=>hc x c h
 |y::r,cs,x,c,hy,hc,h=>by
  have hr:∀z∈r,z.2=.free->∃c,env.cells.lookup z.1=KH c:=λz hz=>hy z (gt _ hz);unfold Fm at h;split at h
  .rename_i hk
   obtain⟨d,hd⟩:=hy y gr hk;rw[hd] at h;refine Mq r _ x c hr (λz e hz=>?_) h;rw[rn] at hz;split at hz
   .rename_i hzy
    cases hz;rw[eq_of_beq hzy];exact hd
   .exact hc z e hz
  .exact Mq r _ x c hr hc h
theorem Nm {env:Env}:∀(ns:List (Str×qg)) (cs:List (Str×eh)) (x:Str),(cs.lookup x).isSome=KJ->((Fm env ns cs).lookup x).isSome=KJ
 |[],_,_,h=>h
 |y::r,cs,x,h=>by
  unfold Fm;split
  .refine Nm r _ x ?_
   rw[rn];split
   .rfl
   .exact h
  .exact Nm r _ x h
theorem He {env:Env}:∀(ns:List (Str×qg)) (cs:List (Str×eh)) (x:Str),(x,ou)∈ns->((Fm env ns cs).lookup x).isSome=KJ
 |[],_,_,h=>by simp at h
 |y::r,cs,x,h=>by
  rcases ir.mp h with e|e
  .subst e
   unfold Fm;rw[if_pos rfl];exact Nm r _ x (by simp)
  .unfold Fm
   split
   .exact He r _ x e
   .exact He r _ x e
theorem Uj {x:Str}{k:qg}(h:(relabel scope env).names.lookup x=KH k):(x,k)∈scope.names\/((x,ou)∈scope.names/\k=yy):=by
 have m:=j9 h;obtain⟨⟨n,k'⟩,hm,e⟩:=lq.mp m;dsimp only at e;split at e
 .rename_i hk
  cases e;simp only[nc,beq_iff_eq] at hk;rw[hk.1.1] at hm;exact .inr ⟨hm,rfl⟩
 .cases e
  exact .inl hm
theorem fC (hk:env.scope.kind=.function){x:Str}(hx:env.kindOf x=KH .cell)(h:scope.names.lookup x=KH .free):(relabel scope env).names.lookup x=KH .cell:=by
 unfold relabel;show(scope.names.map _).lookup x=KH yy;generalize scope.names=ns at h
 induction ns with
 |nil=>simp at h
 |cons y r ih=>
  obtain⟨n,k⟩:=y;rw[rn] at h;rw[iu];split at h
  .rename_i hn
   cases h;rw[<-eq_of_beq hn];simp[hk,hx]
  .rename_i hn
   dsimp only;split
   .rw[rn,hn];exact ih h
   .rw[rn,hn];exact ih h
def Dy (X:Cx)(scope:oq)(N:Za6)(C:eh)(s:ft)(H:Hp)(fp:List eh):Cx:=
 { X with N:=N,QP:=s,QZ:=H,env:=compEnvC scope (Fm X.env scope.names []) C X.env,outer:=X.stack,ex:=fp,fn:=λ_=>KL,pn:=[],xe:=λ_ _=>False }
structure A6 (QR:Za6) (QQ sc:oq) (x:Str) (N:Za6) (ix:Za4):Prop where
 kind:sc.kind=.function
 nocell:∀y∈sc.names,y.2≠.cell
 names:∀y∈sc.names,y.2=.local->sc.names.lookup y.1=KH .local
 free:∀y∈sc.names,y.2=.free->QQ.names.lookup y.1=KH .cell
 nd:N.Nodup
 hd:N.head?=KH x
 loc:sc.names.lookup x=KH .local
 len:N.9=ix.9+1
 at_:∀p∈N.tail.zip ix,QR[p.2]?=KH p.1/\sc.names.lookup p.1=KH .free
def frV (G:St)(ix:Za4):St:=ix.map λj=>(G[j]?).getD KI
def PIf (X:Cx)(ifs:List ja)(t:TT):Prop:=
 ∀(pins:Za1) (s:ft) (G:St) (H:Hp) (Q:Bool->Hp->Prop),Inv X pins G H s->t G H Q->wpAny (model X.prog X.w) X.A (rC ifs X.env) (TP X pins G Q) X.xe s
def Ahr:TT:=λ_ H Q=>Q KJ H
theorem Cc:PIf X [] Ahr:=λpins s G H Q I h=>wpAny_tests_nil ⟨H,I,h⟩
theorem Mp {c:ja}{t:TT}(h:PT X c t):PIf X [c] t:=λpins s G H Q I hw=>wpAny_tests_one (h pins s G H Q I hw)
def Lb (J:It)(H1:Hp)(fr:St)(tc:TT)(te:TE)(Q:VK):Prop:=∀D,H1 D=KI->∃W:Nat->Nat->Hp->Prop,(∃m,W 0 m (upd H1 D (.lst [])))/\∀i m H,W i m H ->
 (J.stop i H/\Q (.ref D) H)\/(J.go i H/\∀x H',J.yld i H x H'->tc (KH x::fr) H' λb H3=>
  if b=KJ then te (KH x::fr) H3 λy H4=>∃ys,H4 D=KH (.lst ys)/\ys.9<sizeLine/\∃m',m'<m/\W (i+1) m' (upd H4 D (.lst (ys++[y]))) else ∃m',m'<m/\W (i+1) m' H3)
def rdG (A:V->Hp->List V->Prop)(J:It)(H1:Hp)(fr:St)(tc:TT)(te:TE)(Q:VK):Prop:=∀D,H1 D=KI->∃W:Nat->Nat->Hp->Prop,(∃m,W 0 m (upd H1 D (.lst [])))/\∀i m H,W i m H ->
 (J.stop i H/\Q (.ref D) H)\/(J.go i H/\∀v H',J.yld i H v H'->∃vs,A v H' vs/\tc (vs.map KH++fr) H' λb H3=>
  if b=KJ then te (vs.map KH++fr) H3 λy H4=>∃ys,H4 D=KH (.lst ys)/\ys.9<sizeLine/\∃m',m'<m/\W (i+1) m' (upd H4 D (.lst (ys++[y]))) else ∃m',m'<m/\W (i+1) m' H3)
def Tk (n:Nat)(A:V->Hp->List V->Prop)(g:TG):Prop:=∀y H vs (fr:St),A y H vs->vs.9=n/\g y (fe n KI++fr) H λG H1=>G=vs.map KH++fr/\H1=H
structure LcG (QR:Za6) (QQ sc:oq) (n:Nat) (N:Za6) (ix:Za4):Prop where
 kind:sc.kind=.function
 nocell:∀y∈sc.names,y.2≠.cell
 names:∀y∈sc.names,y.2=.local->sc.names.lookup y.1=KH .local
 free:∀y∈sc.names,y.2=.free->QQ.names.lookup y.1=KH .cell
 nd:N.Nodup
 len:N.9=ix.9+n
 at_:∀p∈(N.drop n).zip ix,QR[p.2]?=KH p.1/\sc.names.lookup p.1=KH .free
def tLc (wi:TI)(ix:Za4)(tc:TT)(te:TE):TE:=λG H Q=>wi G H λJ H1=>Lb J H1 (frV G ix) tc te Q
section
variable {X:Cx} {scope:oq} {N:Za6} {ix:Za4} {x:Str} {px:Pos} {elt iter:ja} {ifs:List ja} {tc:TT} {te:TE} {pos:Pos}
theorem Ah7 {G:St}{s2:ft}{tn:Nat->jm->Prop}(L:LcG X.N X.env.scope scope n N ix)(I2:Inv X pins G H2 s2)
  (T:S9 X.prog X.w X.K tg J fp it tn)(st2:tn 0 s2.5)(f2:∀b∈fp,Vw X pins H2 b){s3 s4:ft}{H3:Hp}(I3:Inv X pins G H3 s3)(I4:Inv X pins G H3 s4)(hle:s2.heap.objs.8<=s3.heap.objs.8)
  (hC:C=s3.heap.objs.8)(ho:s4.os=s3.os)(kp:∀b u,s3.heap.get? b=KH u->s4.heap.get? b=KH u){m:Za2}(hns:s4.heap.Ns C m):Inv (Dy X scope N C s3 H3 fp) [] (fe n KI++frV G ix) H3 s4:=by
 have hfree:∀y∈scope.names,y.2=.free->∃c,X.env.cells.lookup y.1=KH c:=λy hy hf=>I2.ok.has y.1 (.inl (L.free y hy hf));have sub:∀y c,(Fm X.env scope.names []).lookup y=KH c->X.env.cells.lookup y=KH c:=λy c h=>Mq _ _ y c hfree (λ_ _ z=>by simp at z) h;have lt2:∀b∈fp,b<s2.heap.objs.8:=λb hb=>by obtain⟨o,e,_⟩:=T.obj _ _ st2 b hb;exact fu e
 have okY:(Dy X scope N C s3 H3 fp).Ok:=by
  refine⟨I2.ok.mod,L.kind,I2.ok.glob,I2.ok.blt,qb hC.symm,λy z c h1 h2=>I2.ok.inj y z c (sub y c h1) (sub z c h2),λy hy=>?_,λy c z _=>?_,I2.ok.hd,I2.ok.frames,.inl rfl,λb hb=>{?_,λy c h=>(f2 b hb).2.2.2.2.1 y c (sub y c h)},
   I3.bs,iy I3.ok.bsz I3.sz,λb o e hb=>?_,λb hb z=>?_,I3.stack,I3.stkFree⟩
  .have hk:(y,ou)∈scope.names:=by
    rcases hy with hy|hy
    .rcases Uj hy with q|q
     .exact absurd rfl (L.nocell _ q)
     .exact q.1
    .rcases Uj hy with q|q
     .exact q
     .exact absurd q.2 (by decide)
   exact ln.mp (He _ _ y hk)
  .cases(show KL=KJ from z)
  .have l:=lt2 b hb
   show b≠C;rw[hC];exact gw (fv l hle)
  .rcases(f2 b hb).2.2.2.1 with q|q
   .exact I2.ok.noex b o e q
   .exact absurd (fv (fu e) (iy I2.ok.bsz q)) (l8 _)
  .rcases ir.mp (I2.stkSub b z) with q|q
   .exact(f2 b hb).2.1 q
   .exact(f2 b hb).2.2.1 q
 refine{okY,ho,I4.bare,Un.kept kp,{m,hns,λi y v h1 h2 h3=>?_},λy c e=>I4.cell y c (sub y c e),?_,λy c e=>I4.freeC y c (sub y c e),λp hp=>absurd (show p∈([]:Za1) from hp) (by simp),I4.hok,?_}
 .rcases tu i n with l|l
  .rw[fw (by rw[i6];exact l),qt,if_pos l] at h2
   cases h2
  .obtain⟨k,rfl⟩:=j0 l
   rw[fk (by rw[i6];lia),i6,io] at h2;unfold frV at h2;rw[d9] at h2
   cases hj:ix[k]? with
   |none=>rw[hj] at h2;cases h2
   |some j=>
    rw[hj] at h2;have h2:(G[j]?).getD KI=KH v:=ee h2;have h2':G[j]?=KH (KH v):=by
     cases e:G[j]? with
     |none=>rw[e] at h2;cases h2
     |some z=>rw[e] at h2;exact congrArg KH h2
    have ht:(N.drop n)[k]?=KH y:=by rw[iz];exact h1
    have hz:(y,j)∈(N.drop n).zip ix:=f8 (i:=k) (by rw[qc];exact⟨ht,hj⟩);obtain⟨q1,q2⟩:=L.at_ _ hz;have hm:=j9 q2;have hcell:=L.free _ hm rfl;obtain⟨m',hn',hl'⟩:=I4.loc;obtain⟨u,r,lk⟩:=hl' j y v q1 h2' (.inr (.inl hcell));refine{u,r,.inr {.inl (fC I2.ok.kind hcell q2),?_}};rcases lk with lk|⟨_,c,e,z⟩
    .rw[show X.env.kindOf y=KH .cell from hcell] at lk
     cases lk.1
    .obtain⟨c',e'⟩:=ln.mp (He (env:=X.env) scope.names [] y hm)
     have e2:=sub y c' e';rw[e] at e2;cases e2;exact⟨c,e',z⟩
 .show H3 C=KI
  exact I3.hok.fresh (qb hC.symm)
 .show(fe n KI++frV G ix).9=N.9
  rw[L.len,eg,i6];simp[frV,tx]
theorem yR {A:V->Hp->List V->Prop}{g:TG}{tgt:ja}(hA:Tk n A g){G:St}{s2:ft}{tn:Nat->jm->Prop}(hc:X.calm=KJ)(L:LcG X.N X.env.scope scope n N ix)(I2:Inv X pins G H2 s2)
  (T:S9 X.prog X.w X.K tgt J fp it tn)(st2:tn 0 s2.5)(f2:∀b∈fp,Vw X pins H2 b)
  (hif:∀C s H,PIf (Dy X scope N C s H fp) ifs tc)(he:∀C s H,PE (Dy X scope N C s H fp) elt te){Q:VK}(hg:∀C s H,PG (Dy X scope N C s H fp) tgt g)(rd:rdG A J H2 (frV G ix) tc te Q){RR:fj->eh->xu->ft->Prop}{E:Za0}
  (fin:∀D C H' s' m,Inv X pins G H' s'->s2.heap.objs.8<=C->H' C=KI->s'.heap.Ns C m->Q (.ref D) H'->RR (.ref D) C (.ok .next) s') :
  wpAny (model X.prog X.w) X.A (newList []) (λacc s3=>wpAny (model X.prog X.w) X.A (newFunctionEnv scope X.env.globals (Fm X.env scope.names []) [] X.env.qual KI .none (KH X.env)) (λcenv s4=>
   codeAny (model X.prog X.w) X.A (.compStart (.ListComp elt [{tgt,iter,ifs,0}] scope pos) 0 (.ref it) acc { cenv with scope:=relabel scope X.env }) (RR acc cenv.locals) s4) E s3) E s2:=by
 refine pq (xp L.nocell (by intro y hy;simp at hy) (λh1 hns hsb=>?_) L.kind);dsimp only at hns hsb ⊢;have I3:Inv X pins G (upd H2 s2.heap.objs.8 (.lst [])) { s2 with heap:=s2.heap.push { cls:=.type "list",dict:=KI,data:=.seq ([]:Za3).6 } }:=I2.lnew (its:=[]) (t':=s2.toks) .nil (gn _);generalize hH3:s2.heap.push { cls:=.type "list",dict:=KI,data:=.seq ([]:Za3).6 }=h3 at hns hsb I3 ⊢;have hsz:h3.objs.8=s2.heap.objs.8+1:=by rw[<-hH3,q8]
 have kp34:∀b u,h3.get? b=KH u->h1.get? b=KH u:=λb u e=>hsb.extBut b u (gw (fu e)) (en _ e);have I4:Inv X pins G (upd H2 s2.heap.objs.8 (.lst [])) { s2 with heap:=h1,toks:=s2.toks+([]:List (Str×fj)).9 }:=I3.kept (t':=s2.toks+([]:List (Str×fj)).9) kp34;have kp24:∀b u,s2.heap.get? b=KH u->h1.get? b=KH u:=λb u e=>kp34 b u (by rw[<-hH3];exact en _ e);have IY:=Ah7 (C:=h3.objs.8) (s3:={ s2 with heap:=h3 }) L I2 T st2 f2 I3 I4 (by show s2.heap.objs.8<=h3.objs.8;lia) rfl rfl kp34 hns;have fD:H2 s2.heap.objs.8=KI:=I2.hok.fresh (d8 _);have lt2:∀b∈fp,b<s2.heap.objs.8:=λb hb=>by obtain⟨o,e,_⟩:=T.obj _ _ st2 b hb;exact fu e
 have st4:tn 0 h1:=T.keep _ _ _ st2 λb _ o e=>kp24 b o e;have stat:∀{pn:Za1} {H':Hp},pn=[]->(∀b∈fp,H' b=KI)->∀b∈fp,Vw (Dy X scope N h3.objs.8 { s2 with heap:=h3 } (upd H2 s2.heap.objs.8 (.lst [])) fp) pn H' b:=λhp hn b hb=>by
  subst hp;exact{hn b hb,(IY.ok.exf b hb).1,IY.ok.exfs b hb,.inl hb,(IY.ok.exf b hb).2,λp hp=>absurd (show p∈([]:Za1) from hp) (by simp)}
 obtain⟨W,⟨m0,w0⟩,turn⟩:=rd _ fD;have loop:codeAny (model X.prog X.w) X.A (.compLoop (.ListComp elt [{tgt,iter,ifs,0}] scope pos) 0 (.ref it) (.ref s2.heap.objs.8) (compEnvC scope (Fm X.env scope.names []) h3.objs.8 X.env)) (RR (.ref s2.heap.objs.8) h3.objs.8)
   { s2 with heap:=h1,toks:=s2.toks+([]:List (Str×fj)).9 }:=by
  refine Acq (λμ s'=>∃i H',Inv (Dy X scope N h3.objs.8 { s2 with heap:=h3 } (upd H2 s2.heap.objs.8 (.lst [])) fp) [] (fe n KI++frV G ix) H' s'/\tn i s'.5/\(∀b∈fp,H' b=KI)/\W i μ H') ?_ m0
   {0,_,IY,st4,λb hb=>by rw[Al (gw (lt2 b hb))];exact(f2 b hb).1,w0}
  rintro μ s5 ⟨i,H5,I5,st5,fr5,w5⟩;rcases turn i μ H5 w5 with⟨stop,q⟩|⟨go,step⟩
  .refine thn (T.done (Dy X scope N h3.objs.8 { s2 with heap:=h3 } (upd H2 s2.heap.objs.8 (.lst [])) fp) rfl rfl rfl hc i [] s5 _ H5 (λ_ _=>False) I5 (stat rfl fr5) st5 stop) λr s6 ⟨hr,I6⟩=>?_
   subst hr;obtain⟨m6,hn6,_⟩:=I6.loc;have u1:Un (frs X.stack) fp H2 (upd H2 s2.heap.objs.8 (.lst [])) s2.5 h3:=Un.laid (λb u e=>by rw[<-hH3];exact en _ e) (d8 _) fD;have back:Inv X pins G H5 s6:=I2.call' (ch:=fp) (I6.os.trans rfl) (u1.trans I6.base) I6.hok I6.bare λb hb=>{(f2 b hb).2.2.2.1,(f2 b hb).2.1,(f2 b hb).2.2.2.2.1,(f2 b hb).2.2.2.2.2};exact fin _ _ H5 s6 m6 back () I6.free hn6 q
  .refine thn (T.item (Dy X scope N h3.objs.8 { s2 with heap:=h3 } (upd H2 s2.heap.objs.8 (.lst [])) fp) rfl rfl rfl hc i [] s5 _ H5 (λ_ _=>False) I5 (stat rfl fr5) st5 go) λr s6 ⟨u,hr,h6⟩=>?_
   subst hr;refine thn h6 λ_ s7 h_=>cpZ λX_ k_=>?_;obtain⟨y,H7,I7,r7,y7,st7,fr7⟩:=h_;refine k_ ?_;have I7':=I7.pinned (stat rfl fr7) (T.obj _ _ st7);obtain⟨vs,hvs,hst⟩:=step y _ y7;obtain⟨hvl,hgv⟩:=hA _ _ _ (frV G ix) hvs;refine thn (hg _ _ _ _ s7 _ H7 y u _ I7' r7 hgv) λ_ s8 h_=>cpZ λX_ k_=>?_;obtain⟨σ8,H8,I8,e8,e8'⟩:=h_;refine k_ ?_;subst e8 e8';refine thn (hif _ _ _ _ s8 _ _ _ I8 hst) λok s9 ⟨H9,I9,q9⟩=>?_;have again:∀{sz:ft} {Hz:Hp} {m':Nat},Inv (Dy X scope N h3.objs.8 { s2 with heap:=h3 } (upd H2 s2.heap.objs.8 (.lst [])) fp) ([]++Vn fp s7.5) (vs.map KH++frV G ix) Hz sz->m'<μ->W (i+1) m' Hz ->
     ∃m,m<μ/\∃i H',Inv (Dy X scope N h3.objs.8 { s2 with heap:=h3 } (upd H2 s2.heap.objs.8 (.lst [])) fp) [] (fe n KI++frV G ix) H' sz/\tn i sz.5/\(∀b∈fp,H' b=KI)/\W i m H':=λ{sz Hz m'} Iz hm wz=>by
    refine{m',hm,i+1,Hz,Iz.unpinned.weak (by simp[hvl]) (λj v e=>?_),T.keep _ _ _ st7 λb hb o e=>(Iz.pin (b,o) (iw _ (iw _ (Kf hb e)))).1,λb hb=>?_,wz}
    .rcases tu j n with l|l
     .rw[fw (by rw[i6];exact l),qt,if_pos l] at e
      cases e
     .rw[fk (by rw[i6];exact l),i6] at e
      rw[fk (by rw[d7,hvl];exact l),d7,hvl];exact e
    .obtain⟨o,e,d⟩:=T.obj _ _ st7 b hb
     exact(Iz.pin (b,o) (iw _ (iw _ (Kf hb e)))).2.1
   cases ok with
   |false=>
    obtain⟨m',hm,wz⟩:=q9;exact again I9 hm wz
   |true=>
    refine thn (he _ _ _ _ s9 _ _ _ I9 q9) λxv s10 h_=>cpZ λX_ k_=>?_;obtain⟨z,H10,I10,r10,ys,hD,hl,m',hm,wz⟩:=h_;refine k_ ?_;refine thn (Bh _ s10 _ H10 (.ref s2.heap.objs.8) [z] (.ref s2.heap.objs.8) [xv] (λ_ Hz=>Hz=upd H10 s2.heap.objs.8 (.lst (ys++[z]))) I10 rfl (.cons r10 .nil) {_,ys,z,rfl,rfl,hD,hl,rfl}) λ_ s11 h_=>cpZ λX_ k_=>?_;obtain⟨_,H11,I11,_,q11⟩:=h_;refine k_ ?_;subst q11;exact again I11 hm wz
 exact codeAny_compStart_list loop (T.self X.A 0 _ _ _ st4 loop)
theorem wR {A:V->Hp->List V->Prop}{g:TG}{tgt:ja}{rd:It->Hp->St->VK->Prop}(hA:Tk n A g)(hgt:∀C s H fp,PG (Dy X scope N C s H fp) tgt g)(hrd:∀{J H1 fr Q},rd J H1 fr Q->rdG A J H1 fr tc te Q)(hc:X.calm=KJ)(L:LcG X.N X.env.scope scope n N ix)(hi:PI X tgt iter wi)(hif:∀C s H fp,PIf (Dy X scope N C s H fp) ifs tc)(he:∀C s H fp,PE (Dy X scope N C s H fp) elt te)
  (hs:autoParam (∀z,foldedSetIterable iter X.env z=pure z) QJ):PE X (.ListComp elt [{tgt,iter,ifs,0}] scope pos) (λG H Q=>wi G H λJ H1=>rd J H1 (frV G ix) Q):=by
 k_in;have hfree:∀y∈scope.names,y.2=.free->∃c,X.env.cells.lookup y.1=KH c:=λy hy hf=>I.ok.has y.1 (.inl (L.free y hy hf));rw[eval_ListComp];refine CG (use:=KI) rfl hs (Np hfree) L.kind L.names (thn (hi pins s G H _ I h) λv s1 h1=>thn h1 λitv s2 h2=>?_);obtain⟨it,fp,tn,J,H2,e,I2,T,st2,f2,rd⟩:=h2;subst e;refine yR (RR:=λacc C=>compPost (model X.prog X.w) X.A X.xe KI _ acc C) hA hc L I2 T st2 f2 (λC s H=>hif C s H fp) (λC s H=>he C s H fp) (λC s H=>hgt C s H fp) (hrd rd) λD C H' s' m I' hC hf hn q=>?_;refine{m,hn,λh' hsb=>{.ref D,H',?_,rfl,q}};have l2:=I2.lt;refine I'.turned (t':=s'.toks) (it:=C) (λb o hb e=>hsb.extBut b o hb e) hf (jz (fv l2 hC)) (.inr (iy I2.sz hC)) (λy c e=>?_) λp hp=>?_
 .obtain⟨v,hv⟩:=I2.cell y c e
  exact gw (fv hv.lt hC)
 .exact gw (fv (fu (I2.pin p hp).1) hC)
theorem Zf {A:V->Hp->List V->Prop}{g:TG}{tgt:ja}{rd:It->Hp->St->VK->Prop}{i:Nat}{y:Str}{py spos:Pos}(hA:Tk n A g)(hgt:∀C s H fp,PG (Dy X scope N C s H fp) tgt g)(hrd:∀{J H1 fr Q},rd J H1 fr Q->rdG A J H1 fr tc te Q)(hc:X.calm=KJ)(L:LcG X.N X.env.scope scope n N ix)(hN:X.N.Nodup)(hy:X.N[i]?=KH y)(hl:X.env.scope.names.lookup y=KH .local)
  (hi:PI X tgt iter wi)(hif:∀C s H fp,PIf (Dy X scope N C s H fp) ifs tc)(he:∀C s H fp,PE (Dy X scope N C s H fp) elt te)
  (hsw:autoParam (swapsWith (.ListComp elt [{tgt,iter,ifs,0}] scope pos) (KH (.Name y py)) spos.line X.env=pure KJ) QD)
  (hs:autoParam (∀z,foldedSetIterable iter X.env z=pure z) QJ):PS X (.Assign [.Name y py] (.ListComp elt [{tgt,iter,ifs,0}] scope pos) spos) (oI (λG H Q=>wi G H λJ H1=>rd J H1 (frV G ix) Q) (Dh i)):=by
 k_end;have hfree:∀y∈scope.names,y.2=.free->∃c,X.env.cells.lookup y.1=KH c:=λy hy hf=>I.ok.has y.1 (.inl (L.free y hy hf));rw[exec_Assign_Name_used _ _ _ _ hsw];refine wpAny_bind (yf (wpAny_bind ?_));show wpAny _ X.A (do let _ <-comprehension (.ListComp elt [{tgt,iter,ifs,0}] scope pos) scope X.env _ (newList []) KL (eval iter X.env) (KH (assign (.Name y py) X.env))) _ _ s;refine wpAny_bind (thn (Q:=λ_ s'=>SP X pins D .next s') (CG (use:=KH (assign (.Name y py) X.env)) rfl hs (Np hfree) L.kind L.names (thn (hi pins s G H _ I h) λv s1 h1=>thn h1 λitv s2 h2=>?_)) λ_ s' hq=>fq (fq hq));obtain⟨it,fp,tn,J,H2,e,I2,T,st2,f2,rd⟩:=h2;subst e;refine yR (RR:=λacc C=>compPost (model X.prog X.w) X.A X.xe (KH (assign (.Name y py) X.env)) _ acc C) hA hc L I2 T st2 f2 (λC s H=>hif C s H fp) (λC s H=>he C s H fp) (λC s H=>hgt C s H fp) (hrd rd) λDa C H' s' m I' hC hf hn q=>?_;have l2:=I2.lt;have nC:C≠X.env.locals:=jz (fv l2 hC);have nF:C∉X.fs:=I2.nofs hC;obtain⟨oC,es,ep,hget,hdat,hrest⟩:=id hn;have Ip:Inv X (pins++[(C,oC)]) G H' s':=I'.pins_of λp hp=>(ik.mp hp).elim (λz=>I'.pin p (iw _ z)) λz=>by
  have e:p=(C,oC):=by simpa using z
  subst e;exact{hget,hf,nC,nF,λv z=>by rw[hdat] at z;cases z}
 have hg:PG X (.Name y py) (Dh i):=Oo hN hy (.inl hl) (.inr hl);show wpAny _ X.A (assign (.Name y py) X.env (.ref Da)) _ _ s';refine thn (hg _ s' G H' (.ref Da) (.ref Da) D.nx Ip rfl q) λ_ s'' h_=>cpZ λX_ k_=>?_;obtain⟨XO,H'',I'',q''⟩:=h_;refine k_ ?_;obtain⟨g1,g2,_⟩:=I''.pin (C,oC) (iw _ (iw _ (by simp)));refine{m,⟨oC,es,ep,g1,hdat,hrest⟩,λh' hsb=>{XO,H'',?_,q''}};refine I''.unpinned.turned (t':=s''.toks) (it:=C) (λb o hb e=>hsb.extBut b o hb e) g2 nC (.inr (iy I2.sz hC)) (λy c e=>?_) λp hp=>?_
 .obtain⟨v,hv⟩:=I2.cell y c e
  exact gw (fv hv.lt hC)
 .exact gw (fv (fu (I2.pin p hp).1) hC)
theorem A6.g {x:Str}(L:A6 QR QQ sc x N ix):LcG QR QQ sc 1 N ix:={L.kind,L.nocell,L.names,L.free,L.nd,L.len,by rw[AB];exact L.at_}
theorem uZ:Tk 1 (λv _ vs=>vs=[v]) (Dh 0):=λ_ _ _ _ h=>by subst h;exact⟨rfl,rfl,rfl⟩
theorem A6.pg (L:A6 X.N X.env.scope scope x N ix)(C:eh)(s:ft)(H:Hp)(fp:List eh):PG (Dy X scope N C s H fp) (.Name x px) (Dh 0):=Oo L.nd (by have:=L.hd;rwa [AQ] at this) (.inl (og L.loc)) (.inr (og L.loc))
theorem Lb.g {Q:VK}(h:Lb J H1 fr tc te Q):rdG (λv _ vs=>vs=[v]) J H1 fr tc te Q:=λD hD=>by
 obtain⟨W,a,b⟩:=h D hD;exact{W,a,λi m H w=>(b i m H w).imp id λ⟨p,q⟩=>{p,λv H' y=>{[v],rfl,q v H' y}}}
theorem L5 (hc:X.calm=KJ)(L:A6 X.N X.env.scope scope x N ix)(hi:PI X (.Name x px) iter wi)(hif:∀C s H fp,PIf (Dy X scope N C s H fp) ifs tc)(he:∀C s H fp,PE (Dy X scope N C s H fp) elt te)
  (hs:autoParam (∀z,foldedSetIterable iter X.env z=pure z) QJ):PE X (.ListComp elt [{.Name x px,iter,ifs,0}] scope pos) (tLc wi ix tc te):=wR (rd:=λJ H1 fr Q=>Lb J H1 fr tc te Q) uZ L.pg Lb.g hc L.g hi hif he hs
theorem Fq {i:Nat}{y:Str}{py spos:Pos}(hc:X.calm=KJ)(L:A6 X.N X.env.scope scope x N ix)(hN:X.N.Nodup)(hy:X.N[i]?=KH y)(hl:X.env.scope.names.lookup y=KH .local)
  (hi:PI X (.Name x px) iter wi)(hif:∀C s H fp,PIf (Dy X scope N C s H fp) ifs tc)(he:∀C s H fp,PE (Dy X scope N C s H fp) elt te)
  (hsw:autoParam (swapsWith (.ListComp elt [{.Name x px,iter,ifs,0}] scope pos) (KH (.Name y py)) spos.line X.env=pure KJ) QD)
  (hs:autoParam (∀z,foldedSetIterable iter X.env z=pure z) QJ):PS X (.Assign [.Name y py] (.ListComp elt [{.Name x px,iter,ifs,0}] scope pos) spos) (oI (tLc wi ix tc te) (Dh i)):=Zf (rd:=λJ H1 fr Q=>Lb J H1 fr tc te Q) uZ L.pg Lb.g hc L.g hN hy hl hi hif he hsw hs
end
theorem An {D:eh}{o:HO}(h:H D=KI):Ag H (upd H D o):=λb u e=>by rw[Al (Aj e h)];exact e
theorem A4 {D:eh}{o:HO}(h:H D=KI):Ag H (upd H D o)/\upd H D o D=KH o:={An h,Af}
theorem On {tc:TT}{Q:VK}(n:Nat)(item:Nat->V)(acc:Nat->List V)(h0:acc 0=[])(hz:∀i,i<n->(acc i).9<sizeLine)
  (hgo:∀i H,i<n->Ag H1 H->J.go i H)(hy:∀i H x H',i<n->Ag H1 H->J.yld i H x H'->x=item i/\H'=H)(hst:∀H,Ag H1 H->J.stop n H)
  (turn:∀i H (R:Hp->Prop) (A:VK),i<n->Ag H1 H->(acc (i+1)=acc i->∀H',Ag H H'->R H')->(∀y H',acc (i+1)=acc i++[y]->Ag H H'->A y H') ->
   tc (KH (item i)::fr) H λb H3=>if b=KJ then te (KH (item i)::fr) H3 A else R H3)
  (fin:∀D H,H1 D=KI->Ag H1 H->H D=KH (.lst (acc n))->Q (.ref D) H):Lb J H1 fr tc te Q:=by
 intro D hD;refine{λi m H=>i<=n/\m=n-i/\Ag H1 H/\H D=KH (.lst (acc i)),{n,gn _,rfl,An hD,by rw[Af,h0]},?_};rintro i m H ⟨hi,rfl,sm,hl⟩
 by_cases h:i=n
 .subst h
  exact .inl {hst H sm,fin D H hD sm hl}
 .have hlt:i<n:=kr hi h
  refine .inr {hgo i H hlt sm,λx H' hyl=>?_};obtain⟨rfl,rfl⟩:=hy i H x H' hlt sm hyl;refine turn i H' _ _ hlt sm (λea H3 s3=>?_) (λy H4 ea s4=>?_)
  .exact{n-(i+1),(),(),rfl,sm.trans s3,by rw[ea];exact s3 _ _ hl}
  .refine{acc i,s4 _ _ hl,hz i hlt,n-(i+1),(),(),rfl,λb u e=>?_,by rw[Af,ea]}
   rw[Al (Aj e hD)];exact s4 _ _ (sm _ _ e)
theorem Jm {lo:Int}{tc:TT}{Q:VK}(acc:Nat->List V)(h0:acc 0=[])(hz:∀i,i<n->(acc i).9<sizeLine)
  (turn:∀(i:Nat) H (R:Hp->Prop) (A:VK),i<n->Ag H1 H->(acc (i+1)=acc i->∀H',Ag H H'->R H')->(∀y H',acc (i+1)=acc i++[y]->Ag H H'->A y H') ->
   tc (KH (.int (lo+i))::fr) H λb H3=>if b=KJ then te (KH (.int (lo+i))::fr) H3 A else R H3)
  (fin:∀D H,H1 D=KI->Ag H1 H->H D=KH (.lst (acc n))->Q (.ref D) H):Lb (Itr lo n) H1 fr tc te Q:=
 On n (λi=>.int (lo+i)) acc h0 hz (λi H hi _=>hi) (λi H x H' _ _ h=>⟨h.2,h.1⟩) (λH _=>d8 n) turn fin
theorem Ou {K:d6}{a:eh}{tc:TT}{Q:VK}(hl:SqL K H1 a xs)(acc:Nat->List V)(h0:acc 0=[])(hz:∀i,i<xs.9->(acc i).9<sizeLine)
  (turn:∀(i:Nat) x H (R:Hp->Prop) (A:VK),xs[i]?=KH x->Ag H1 H->(acc (i+1)=acc i->∀H',Ag H H'->R H')->(∀y H',acc (i+1)=acc i++[y]->Ag H H'->A y H') ->
   tc (KH x::fr) H λb H3=>if b=KJ then te (KH x::fr) H3 A else R H3)
  (fin:∀D H,H1 D=KI->Ag H1 H->H D=KH (.lst (acc xs.9))->Q (.ref D) H):Lb (Itl K a) H1 fr tc te Q:=by
 refine On xs.9 (λi=>xs.getD i .non) acc h0 hz (λi H hi sm=>{xs,xs[i],sm.seq hl,by simp[hi]}) (λi H x H' hi sm h=>{?_,h.1}) (λH sm=>{xs,sm.seq hl,d8 _}) (λi H R A hi sm=>turn i _ H R A (by simp[hi]) sm) fin;have:=h.2 xs (sm.seq hl);simp[ju,this]
theorem Ag.seqT {K:d6}{a:eh}(e:Ag H H')(h:SqT K H a xs):SqT K H' a xs:=by
 rcases h with(h|⟨o,h⟩)|h
 .exact .inl (.inl (e _ _ h))
 .exact .inl (.inr {o,e _ _ h})
 .exact .inr h
theorem vT {K:d6}{a:eh}{tc:TT}{Q:VK}(hl:SqT K H1 a xs)(acc:Nat->List V)(h0:acc 0=[])(hz:∀i,i<xs.9->(acc i).9<sizeLine)
  (turn:∀(i:Nat) x H (R:Hp->Prop) (A:VK),xs[i]?=KH x->Ag H1 H->(acc (i+1)=acc i->∀H',Ag H H'->R H')->(∀y H',acc (i+1)=acc i++[y]->Ag H H'->A y H') ->
   tc (KH x::fr) H λb H3=>if b=KJ then te (KH x::fr) H3 A else R H3)
  (fin:∀D H,H1 D=KI->Ag H1 H->H D=KH (.lst (acc xs.9))->Q (.ref D) H):Lb (Itt K a) H1 fr tc te Q:=by
 refine On xs.9 (λi=>xs.getD i .non) acc h0 hz (λi H hi sm=>{xs,xs[i],sm.seqT hl,by simp[hi]}) (λi H x H' hi sm h=>{?_,h.1}) (λH sm=>{xs,sm.seqT hl,d8 _}) (λi H R A hi sm=>turn i _ H R A (by simp[hi]) sm) fin;have:=h.2 xs (sm.seqT hl);simp[ju,this]
theorem pC:bootBuiltins "int"=KH (.type "int"):=by decide +kernel
theorem wK:bootBuiltins "str"=KH (.type "str"):=by decide +kernel
theorem Aaj:bootBuiltins "bool"=KH (.type "bool"):=by decide +kernel
theorem Pw:bootBuiltins "list"=KH (.type "list"):=by decide +kernel
theorem O4:bootBuiltins "tuple"=KH (.type "tuple"):=by decide +kernel
theorem zE:bootBuiltins "dict"=KH (.type "dict"):=by decide +kernel
theorem Ch:bootBuiltins "len"=KH (.builtin "len"):=by decide +kernel
theorem Ci:bootBuiltins "isinstance"=KH (.builtin "isinstance"):=by decide +kernel
theorem Ahw:bootBuiltins "sum"=KH (.builtin "sum"):=by decide +kernel
theorem Uc:bootBuiltins "min"=KH (.builtin "min"):=by decide +kernel
theorem Ac5:bootBuiltins "max"=KH (.builtin "max"):=by decide +kernel
theorem T5:bootBuiltins "sorted"=KH (.builtin "sorted"):=by decide +kernel
structure Cal (P:gl) (w:ip) (K:d6) (mg:Za2) (base:jm) (name:Str) (k:Nat) (ps:Za6) (sp:Sp):Prop where
 ex:∃(f:eh) (fd:jx),Ar P w K mg base CX0 k f fd ps sp/\Fp K fd ps []/\mg name=KH (.ref f)/\ki K (.ref f)=KJ
section
variable {X:Cx} {k:Nat} {ps:Za6} {sp:Sp} {name m:Str} {p pos apos:Pos} {e o:ja} {es:List ja} {ta:TE} {t:TA}
theorem At (C:Cal X.prog X.w X.K X.mg X.base name k ps sp)(hr:Co k X.A)(ha:PA X (e::es) t)(hg:autoParam (Gl X name) QD)(hdb:autoParam ((name==("__debug__":Str))=KL) QF)
  (he:autoParam (starEach (e::es) X.env=(KL,eval e X.env)::starEach es X.env) QD)(hpl:autoParam ((backTo pos (starEach es X.env)).any (·.1)=KL) QD):PE X (.Call (.Name name p) (e::es) [] pos) (qT sp [] E0 t):=by
 obtain⟨f,fd,F,b,hm,hk⟩:=C.ex;exact Abp F hr hg hm hk b .nil iG ha hdb he hpl
end
section
variable {X:Cx}
def Ai3 (K:d6):List V->Hp->VK->Prop:=λxs H Q=>∃x n t b,xs=[x,.ty n]/\Of K H x t/\kitOne K t (.type n)=KH b/\Q (.bl b) H
theorem Cu:Em X (.builtin "isinstance") (Ai3 X.K):=by
 intro pins s G H xs us Q I r h;obtain⟨x,n,t,b,rfl,ty,e,q⟩:=h;obtain⟨u,w',rfl,ru,rw'⟩:=Ng r;cases(show w'=kj n from rw');exact uE I ru ty e λtk=>{.bl b,H,I.tok tk,rfl,q}
theorem Pg {K:d6}:kitOne K (.type "int") (.type "bool")=KH KL:=by rfl
theorem Si {K:d6}:kitOne K (.type "int") (.type "int")=KH KJ:=by rfl
theorem Sg {K:d6}:kitOne K (.type "str") (.type "str")=KH KJ:=by rfl
end
theorem G6 {x y:Str}(h:x.cps.7=y.cps.7):x=y:=by
 obtain⟨a⟩:=x;obtain⟨b⟩:=y;have:a=b:=Array.toList_inj.mp h;rw[this]
def sgn (c:Nat):Str:={#[c]}
def Xx (x:Str)(k:Nat):Str:={(fe k x.cps.7).flatten.toArray}
theorem jI (x:Str)(k:Nat):(Xx x k).9=k*x.9:=by
 show(fe k x.cps.7).flatten.toArray.size=k*x.cps.8;rw[ge,pT];simp
theorem Y4 (a:Array Nat):∀(k:Nat) (acc:Array Nat),((fe k a).foldl (·++·) acc).7=acc.7++(fe k a.7).flatten
 |0,acc=>by simp
 |k+1,acc=>by
  rw[i8,qj,Y4 a k,i8];simp[fm]
section
variable {X:Cx}
def Ahq:R2:=λx y H Q=>∃z k,x=.str z/\y=.int k/\-(2 ^ 40)<k/\k<2 ^ 40/\z.9*k.toNat<=sizeLine/\z.9<=sizeLine/\Q (.str (Xx z k.toNat)) H
theorem oX:OpR X (binaryOp .Mult) Ahq:=by
 intro pins s G H x y v u Q I rx ry h;obtain⟨z,k,rfl,rfl,k1,k2,hz,hz2,q⟩:=h;obtain⟨t,rfl⟩:=rx;obtain⟨t',rfl⟩:=ry;have hs:=Ls;have hs':=EM;refine PySem.P.mul_str ?_ ?_ ?_ ?_
 .rw[decide_eq_false (),decide_eq_false ()];rfl
 .intro h1 _ hgt
  have hk:k<=2 ^ 40:=()
  have:(z.9:Int)<=(2 ^ 63-1)/k:=by
   rw[Int.le_ediv_iff_mul_le ()];have e:(z.9:Int)*k=((z.9*k.toNat:Nat):Int):=by
    rw[FF,td ()]
   rw[e];lia
  lia
 .intro _ _
  unfold JD
  simpa using hz
 .split
  .rename_i h1
   have e:Xx z k.toNat=yp:=by
    rw[show k.toNat=0 by lia];rfl
   rw[e] at q;exact{by decide,.str yp,H,I.tok _,{_,rfl},q}
  .rename_i h1
   split
   .rename_i h2
    have e:Xx z k.toNat=z:=by
     refine G6 ?_;show(fe k.toNat z.cps.7).flatten.toArray.toList=_;rcases Bool.or_eq_true_iff.mp h2 with h2|h2
     .have:k=1:=by simpa using h2
      subst this;simp
     .have:z.9=0:=by simpa using h2
      have e0:z.cps.7=[]:=by
       have:z.cps.8=0:=this
       simpa using this
      rw[e0];simp
    rw[e] at q;exact{.str z,H,I,{_,rfl},q}
   .have e:({(fe k.toNat z.cps).foldl (·++·) #[]}:Str)=Xx z k.toNat:=by
     refine G6 ?_;show((fe k.toNat z.cps).foldl (·++·) #[]).7=_;rw[Y4];simp[Xx]
    refine{?_,.str (Xx z k.toNat),H,I.tok _,{s.toks,by rw[e]},q};rw[e,jI,ye];exact hz
theorem N6 {ys:Za6}:∀{us:Za3},Ax (ys.map V.str) us->qv us ys:=by
 induction ys with
 |nil=>intro us r;rw[x0] at r;cases r;exact .nil
 |cons y ys ih=>
  intro us r;rw[iu] at r
  cases r with
  |cons r1 r2=>
   obtain⟨t,e⟩:=r1;subst e;exact .cons y t (ih r2)
def vE (K:d6):V->List V->Hp->VK->Prop:=λx vs H Q=>∃sep p ys,x=.str sep/\vs=[.ref p]/\SqL K H p (ys.map V.str)/\(ys.map (·.length)).sum+ys.9*sep.9<=16777216/\Q (.str (ub sep ys)) H
theorem Od:MtM X "str.join" (vE X.K):=by
 intro pins s G H x vs v us Q I rx rv h;obtain⟨sep,p,ys,rfl,rfl,hp,hz,q⟩:=h;obtain⟨t,rfl⟩:=rx;obtain⟨u,rfl,ru⟩:=rv.one;cases ru;obtain⟨its,r,pl,_⟩:=I.list hp;exact join_list pl.isList (by simpa using N6 r) hz λt' k=>{.str (ub sep ys),H,I.tok k,⟨t',rfl⟩,q}
theorem Y9:∀(ys:Za6) (a:Array Nat),(ys.foldl (λacc p=>acc++("":Str).cps++p.cps) a).7=a.7++(ys.map λy=>y.cps.7).flatten
 |[],a=>by simp
 |y::r,a=>by
  rw[qj,Y9 r];have e:("":Str).cps=#[]:=rfl;rw[e];simp[fm]
theorem No (ys:Za6):(ub ("":Str) ys).cps.toList=(ys.map λy=>y.cps.7).flatten:=by
 show((ys.drop 1).foldl (λacc p=>acc++("":Str).cps++p.cps) (ys.headD yp).cps).7=_;rw[Y9]
 cases ys with
 |nil=>rfl
 |cons y r=>simp
end
def nB:ja->Bool
 |.Starred ..=>KL
 |_=>KJ
theorem jL {e:ja}{es:List ja}(h:nB e=KJ):starEach (e::es) env=(KL,eval e env)::starEach es env:=by
 cases e<;>first|rfl|cases h
section
variable {X:Cx} {e:ja} {es:List ja} {te:TE} {t:TA}
theorem Aio (ha:PE X e te)(hr:PA X es t)(hs:nB e=KJ):PA X (e::es) (kZ te t):=qI ha hr (jL hs)
end
theorem Ad9 (e:us.9=n+1):∃a t,us=a::t/\t.9=n:=by
 cases us with
 |nil=>cases e
 |cons a t=>exact{a,t,rfl,sh e}
theorem us1 {P:Za3->Prop}(h:∀a,P [a])(us:Za3)(e:us.9=1):P us:=by
 obtain⟨a,t,rfl,e1⟩:=Ad9 e;obtain rfl:=ux.mp e1;exact h a
theorem us2 {P:Za3->Prop}(h:∀a b,P [a,b])(us:Za3)(e:us.9=2):P us:=by
 obtain⟨a,t,rfl,e1⟩:=Ad9 e;exact us1 (P:=λt=>P (a::t)) (h a) t e1
theorem us3 {P:Za3->Prop}(h:∀a b c,P [a,b,c])(us:Za3)(e:us.9=3):P us:=by
 obtain⟨a,t,rfl,e1⟩:=Ad9 e;exact us2 (P:=λt=>P (a::t)) (h a) t e1
section
variable {G:St} {H:Hp} {D:Jb} {Q:VK} {t u:TS} {te ta tb:TE} {QB:Bool->Hp->Prop}
theorem Ag4 (h:t { D with nx:=u D } G H):Agj t u D G H:=h
theorem Afa (h:D.nx G H):Adj D G H:=h
theorem Ah6 {g:TG}(h:te G H λx H1=>g x G H1 D.nx):oI te g D G H:=h
theorem Abc {i:Nat}{v:V}{R:St->Hp->Prop}(h:R (G.set i (KH v)) H):Dh i v G H R:=h
theorem Agu (h:te G H D.rt):Ahn te D G H:=h
theorem Af9 (h:te G H λ_ H1=>D.nx G H1):Ac4 te D G H:=h
theorem Agr {c:TT}(h:c G H λb H1=>if b=KJ then t D G H1 else u D G H1):Ah0 c t u D G H:=h
theorem Agm {i:Nat}{ti:TIp}{x:V}(e:G[i]?=KH (KH x))(h:te G H λy H1=>ti x y H1 λz H2=>D.nx (G.set i (KH z)) H2):Aft i te ti D G H:=⟨x,e,h⟩
theorem Ag0 {i:Nat}{v:V}(e:G[i]?=KH (KH v))(h:Q v H):Act i G H Q:=⟨v,e,h⟩
theorem r_c {v:V}(h:Q v H):tC v G H Q:=h
theorem Ain {r:R2}(h:ta G H λx H1=>tb G H1 λy H2=>r x y H2 Q):tOp r ta tb G H Q:=h
theorem Aiu {r:V->Hp->VK->Prop}(h:ta G H λx H1=>r x H1 Q):tUn r ta G H Q:=h
theorem Ajd {g:Int->V}{i:Int}(h:Q (g i) H):rU g (.int i) H Q:=⟨i,rfl,h⟩
theorem Ado {g:Int->Int->V}{i j:Int}(h:Q (g i j) H):rI0 g (.int i) (.int j) H Q:=⟨i,j,rfl,rfl,h⟩
theorem Aiq {C:Int->Int->Prop}{g:Int->Int->V}{i j:Int}(c:C i j)(h:Q (g i j) H):rI C g (.int i) (.int j) H Q:=⟨i,j,rfl,rfl,c,h⟩
theorem Ahk {f:Int->Int->Int}{i j:Int}(h:Q (.int (f i j)) H):ipI f (.int i) (.int j) H Q:=⟨i,j,rfl,rfl,h⟩
theorem Agz {x:V}(e:yT x y=KJ)(h:Q (.bl (decide (x=y))) H):rEq x y H Q:=⟨e,h⟩
theorem Ahp {x:V}(e:yT x y=KJ)(h:Q (.bl (!decide (x=y))) H):rNe x y H Q:=⟨e,h⟩
theorem Ad3 (h:te G H λx H'=>∃k,x=.bl k/\QB k H'):wY te G H QB:=h
theorem Ait (h:te G H λx H'=>∃k,x=.bl k/\QB k H'):tB te G H QB:=h
theorem Ail {k:Bool}{P:Bool->Prop}(h:P k):∃k',V.bl k=.bl k'/\P k':=⟨k,rfl,h⟩
theorem Agv {c:TT}(h:c G H λb H1=>QB (!b) H1):Ag3 c G H QB:=h
theorem Ahy {c d:TT}(h:c G H λb H1=>if b=KJ then d G H1 QB else QB KL H1):Ago c d G H QB:=h
theorem Ai8 {c d:TT}(h:c G H λb H1=>if b=KJ then QB KJ H1 else d G H1 QB):tOr c d G H QB:=h
theorem Ael (h:ta G H λx H1=>∃c,x=.bl c/\if c=KJ then tb G H1 Q else Q (.bl KL) H1):Ade ta tb G H Q:=h
theorem Af7 (h:ta G H λx H1=>∃c,x=.bl c/\Q (.bl (!c)) H1):Adc ta G H Q:=h
theorem Agb {c:TT}(h:c G H λb H1=>if b=KJ then ta G H1 Q else tb G H1 Q):tIf c ta tb G H Q:=h
theorem Ag9 (h:ta G H λx H1=>Q (.bl (decide (x=.non))) H1):Ag8 ta G H Q:=h
theorem Aes (h:ta G H λx H1=>Q (.bl (!decide (x=.non))) H1):Adf ta G H Q:=h
theorem Acg {r r':R2}{tc:TE}(h:ta G H λx H1=>tb G H1 λy H2=>r x y H2 λz H3=>∃k,z=.bl k/\(if k=KJ then tc G H3 λw' H4=>r' y w' H4 Q else Q (.bl KL) H3)):zS r r' ta tb tc G H Q:=h
theorem Agx (h:QB KJ H):Ahr G H QB:=h
variable {tA tR:TA} {QA:List V->Hp->Prop}
theorem Ahi (h:QA [] H):nA G H QA:=h
theorem Afi (h:te G H λx H1=>tR G H1 λxs H2=>QA (x::xs) H2):kZ te tR G H QA:=h
theorem Ae4 {E:XK}(h:tA G H λvs H1=>sp (vs++[]) H1 Q E):qT sp [] E tA G H Q:=h
theorem Aiz {r:List V->Hp->VK->Prop}(h:tA G H λvs H1=>r vs H1 Q):tCB r tA G H Q:=h
theorem Ahj (h:tA G H λxs H1=>xs.9<=sizeLine/\∀p,H1 p=KI->Q (.ref p) (upd H1 p (.lst xs))):Ahu tA G H Q:=h
theorem Ag1 (h:tA G H λxs H1=>xs.9<=sizeLine/\∀p,H1 p=KI->Q (.ref p) (upd H1 p (.tup xs))):Aig tA G H Q:=h
theorem Ais {K:d6}{T:String}{r:V->List V->Hp->VK->Prop}(h:te G H λx H1=>tyV K T x H1/\tA G H1 λxs H2=>r x xs H2 Q):tBM K T r te tA G H Q:=h
theorem Ai9 {r:V->Option Int->Option Int->Hp->VK->Prop}{tl th:TO}(h:te G H λx H1=>tl G H1 λl H2=>th G H2 λu H3=>r x l u H3 Q):tSl r te tl th G H Q:=h
theorem zH {QO:Option Int->Hp->Prop}(h:QO KI H):pE G H QO:=h
theorem Ad6 {QO:Option Int->Hp->Prop}(h:te G H λx H1=>∃i,x=.int i/\QO (KH i) H1):Ac0 te G H QO:=h
theorem Aia {P:Int->Prop}{i:Int}(h:P i):∃j,V.int i=.int j/\P j:=⟨i,rfl,h⟩
def uN (J:It)(g:TG)(tb:TS)(D:Jb)(G:St)(H1:Hp):Prop:=∃W:Nat->Nat->St->Hp->Prop,(∃m,W 0 m G H1)/\∀i m G H,W i m G H ->
 (J.stop i H/\D.nx G H)\/(J.go i H/\∃N:St->Hp->Prop,(∀QM H',N QM H'->∃m',m'<m/\W (i+1) m' QM H')/\∀x H',J.yld i H x H'->g x G H' λQS H2=>tb { D with nx:=N,ct:=N,bk:=D.nx } QS H2)
theorem Ahv {g:TG}(h:wi G H λJ H1=>uN J g t D G H1):Ah8 wi g t D G H:=h
theorem Ad8 {R:It->Hp->Prop}(h:tA G H λvs H1=>∃j:Int,vs=[.int j]/\-(2 ^ 62)<=j/\j<2 ^ 62/\R (Itr 0 j.toNat) H1):Adr tA G H R:=h
theorem Aev {R:It->Hp->Prop}(h:tA G H λvs H1=>∃i j:Int,vs=[.int i,.int j]/\(-(2 ^ 62)<=i/\i<2 ^ 62/\-(2 ^ 62)<=j/\j<2 ^ 62)/\R (Itr i (j-i).toNat) H1):Ac7 tA G H R:=h
theorem Ab5 {K:d6}{R:It->Hp->Prop}(h:te G H λx H1=>∃a,x=.ref a/\(∃xs,SqL K H1 a xs)/\R (Itl K a) H1):Adm K te G H R:=h
theorem Afp {K:d6}{R:It->Hp->Prop}(h:te G H λx H1=>∃a,x=.ref a/\(∃xs,SqT K H1 a xs)/\R (Itt K a) H1):Ae9 K te G H R:=h
theorem Aik {tc:TT}(h:wi G H λJ H1=>Lb J H1 (frV G ix) tc te Q):tLc wi ix tc te G H Q:=h
theorem Cg {K:d6}{p:eh}{i:Int}{v:V}(hs:SqL K H p xs)(e:atI xs i=KH v)(h:Q v H):Af6 K (.ref p) (.int i) H Q:=⟨p,xs,i,v,rfl,rfl,hs,e,h⟩
theorem Cb {K:d6}{p:eh}{i:Int}{v:V}(hs:SqT K H p xs)(e:atI xs i=KH v)(h:Q v H):Aea K (.ref p) (.int i) H Q:=⟨p,xs,i,v,rfl,rfl,hs,e,h⟩
theorem B0 {l:eh}(hl:H l=KH (.lst xs))(hz:xs.9<sizeLine)(h:Q .non (upd H l (.lst (xs++[y])))):oY (.ref l) [y] H Q:=⟨l,xs,y,rfl,rfl,hl,hz,h⟩
end
theorem Gp {c:TT}{tb:TS}{G:St}(Pv:St->Hp->Prop)(μ:St->Hp->Nat)(h0:Pv G H)
  (hs:∀m G H,Pv G H->μ G H=m->c G H λb H1=>if b=KJ then ∃N:St->Hp->Prop,(∀QM H',N QM H'->∃m',m'<m/\(Pv QM H'/\μ QM H'=m'))/\tb { D with nx:=N,ct:=N,bk:=D.nx } G H1 else D.nx G H1):vI c tb D G H:=
 {λm G H=>Pv G H/\μ G H=m,{_,h0,rfl},λm G H h=>hs m G H h.1 h.2}
theorem Li {tb:TS}{rt:VK}{bk:St->Hp->Prop}{G:St}{Pv:St->Hp->Prop}{μ:St->Hp->Nat}{m:Nat}
  (h:tb { nx:=λQM H'=>Pv QM H'/\μ QM H'<m,rt:=rt,bk:=bk,ct:=λQM H'=>Pv QM H'/\μ QM H'<m } G H1) :
  ∃N:St->Hp->Prop,(∀QM H',N QM H'->∃m',m'<m/\(Pv QM H'/\μ QM H'=m'))/\tb { nx:=N,rt:=rt,bk:=bk,ct:=N } G H1:={_,λQM H' z=>{_,z.2,z.1,rfl},h}
section
variable {H:Hp} {Q:VK} {g:Int->Int->V} {i j:Int}
theorem Zz (c:0<j)(h:Q (g i j) H):rI (λ_ j=>0<j) g (.int i) (.int j) H Q:=⟨i,j,rfl,rfl,c,h⟩
theorem rF (c:0<=j)(h:Q (g i j) H):rI (λ_ j=>0<=j) g (.int i) (.int j) H Q:=⟨i,j,rfl,rfl,c,h⟩
theorem Agp (c1:0<j)(c2:j<1073741824)(h:Q (g i j) H):rI Agq g (.int i) (.int j) H Q:={i,j,rfl,rfl,⟨c1,c2⟩,h}
theorem Vc (c1:-(2 ^ 64)<j)(c2:j<2 ^ 64)(h:Q (g i j) H):rI wX g (.int i) (.int j) H Q:={i,j,rfl,rfl,.inr ⟨c1,c2⟩,h}
theorem zO (c1:-(2 ^ 64)<i)(c2:i<2 ^ 64)(h:Q (g i j) H):rI wX g (.int i) (.int j) H Q:={i,j,rfl,rfl,.inl ⟨c1,c2⟩,h}
end
theorem Bn {c A B:Prop}[Decidable c](h1:c->A)(h2:¬ c->B):if decide c=KJ then A else B:=by
 by_cases h:c
 .rw[decide_eq_true h,if_pos rfl]
  exact h1 h
 .rw[decide_eq_false h,if_neg gy]
  exact h2 h
theorem iM {c A B:Prop}[Decidable c](h1:¬ c->A)(h2:c->B):if(!decide c)=KJ then A else B:=by
 by_cases h:c
 .rw[decide_eq_true h,if_neg (by decide)]
  exact h2 h
 .rw[decide_eq_false h,if_pos (by decide)]
  exact h1 h
def Aic (c:TT)(t u:TS):TS:=λD G H=>∃J:St->Hp->Prop,(∀G H,J G H->D.nx G H)/\c G H λb H1=>if b=KJ then t { D with nx:=J } G H1 else u { D with nx:=J } G H1
theorem zQ {c:ja}{a b:List i4}{tc:TT}{t u:TS}(hc:PT X c tc)(ha:PSs X a t)(hb:PSs X b u):PS X (.If c a b pos) (Aic tc t u):=by
 k_end;obtain⟨J,hJ,h⟩:=h;refine thn (Bp hc ha hb pins s G H { D with nx:=J } I h) λf s' q=>?_
 cases f with
 |next=>
  obtain⟨QM,H',I',q'⟩:=q;exact{QM,H',I',hJ _ _ q'}
 |brk=>exact q
 |cont=>exact q
 |ret u=>exact q
theorem Ac1 {c:TT}{t u:TS}{G:St}(J:St->Hp->Prop)(h:c G H λb H1=>if b=KJ then t { D with nx:=J } G H1 else u { D with nx:=J } G H1)(hJ:∀G H,J G H->D.nx G H):Aic c t u D G H:=⟨J,hJ,h⟩
theorem Acp {α:Type}{xs:List α}{i:Int}{v:α}(h0:0<=i)(h:xs[i.toNat]?=KH v):atI xs i=KH v:=by
 have:=A9 (xs:=xs) (j:=i.toNat) h
 rwa [td h0] at this
def wT (lo st:Int)(n:Nat):It:={λi _=>i<n,λi H x H'=>H'=H/\x=.int (lo+i*st),λi _=>n<=i}
def Cp (lo hi st:Int):Nat:=((hi-lo+st-1)/st).toNat
theorem kG {P:gl}{K:d6}(it:eh)(lo dt:Int)(n:Nat):S9 P w K tg (wT lo dt n) [it] it (λi h=>AC h it (lo+(i:Nat)*dt) ((n:Int)-(i:Nat)) dt) where
 mem:=by simp
 obj:=λi h st b hb=>by
  have e:b=it:=by simpa using hb
  subst e;exact⟨_,st,λv z=>by
   have z':CA _=JB v:=z;cases z'⟩
 keep:=λi h h' st k=>k it (by simp) _ st
 item:=by
  intro X hP hw hK hc i pins s G H E I hf st hg;subst hP hw hK;obtain⟨f0,f1,f2,f3,f4,f5⟩:=hf it (by simp);have W:=FX (prog:=X.prog) (w:=X.w) (I.ok.hd hc) it lo dt n;refine W.item i s _ _ hg st λv h' tk hv st' kk=>?_;obtain⟨t,rfl⟩:=hv;have I1:Inv X pins G H { s with heap:=h',toks:=tk }:=I.turned (λb o hb e=>kk b o (by simpa using hb) e) f0 f1 f3 f4 f5;exact⟨_,rfl,Yj (s:={ s with heap:=h',toks:=tk }) (n:="range_iterator") st' rfl rfl (by decide) ⟨.int _,H,I1,⟨t,rfl⟩,⟨rfl,rfl⟩,st',λb hb=>(hf b hb).1⟩⟩
 done:=by
  intro X hP hw hK hc i pins s G H E I hf st hg;subst hP hw hK;obtain⟨f0,f1,f2,f3,f4,f5⟩:=hf it (by simp);exact DC (I.ok.hd hc) st (by have:n<=i:=hg;lia) λh' eb=>{rfl,I.turned (t':=s.toks) (λb o hb e=>eb b o hb e) f0 f1 f3 f4 f5}
 self:=λ_ _ _ _ _ st h=>DE st h
theorem Vk {lo hi st:Int}(h:0<st):lh lo hi st=(Cp lo hi st:Int):=by
 unfold lh Cp;rw[if_pos h]
 by_cases hl:lo<hi
 .rw[if_pos hl]
  have e:(hi-lo+st-1)/st=(hi-lo-1)/st+1:=by
   rw[show hi-lo+st-1=(hi-lo-1)+st*1 by lia,Int.add_mul_ediv_left _ _ ()]
  rw[e];have:0<=(hi-lo-1)/st:=Int.ediv_nonneg () ();exact(td (Int.add_nonneg this (by decide))).symm
 .rw[if_neg hl]
  have:(hi-lo+st-1)/st<=0:=by
   have:=Int.ediv_le_ediv h (show hi-lo+st-1<=st-1 by lia);rw[Int.ediv_eq_zero_of_lt (show 0<=st-1 by lia) ()] at this;exact this
  lia
theorem gY {lo hi st:Int}(h:0<st)(h1:-(2 ^ 61)<=lo)(h2:lo<2 ^ 61)(h3:-(2 ^ 61)<=hi)(h4:hi<2 ^ 61)(h5:st<2 ^ 61):rb lo hi st=KJ:=by
 unfold rb;rw[Vk h];have hb:(Cp lo hi st:Int)*st<=hi-lo+st-1\/(Cp lo hi st:Int)=0:=by
  unfold Cp
  by_cases hz:0<=(hi-lo+st-1)/st
  .left
   rw[td hz];exact Int.ediv_mul_le _ ()
  .right
   lia
 have hn:(Cp lo hi st:Int)<=(Cp lo hi st:Int)*st:=by
  have:=Int.mul_le_mul_of_nonneg_left (show(1:Int)<=st by lia) (kt (Cp lo hi st));lia
 have hmul:lo+(Cp lo hi st:Int)*st<2 ^ 63/\-(2 ^ 63)<=lo+(Cp lo hi st:Int)*st:=by
  have h0:0<=(Cp lo hi st:Int)*st:=Int.mul_nonneg (kt _) ();rcases hb with hb|hb
  .lia
  .rw[hb] at h0 ⊢
   lia
 have h0:0<=(Cp lo hi st:Int):=kt _;have hs:(Cp lo hi st:Int)<2 ^ 63:=by
  rcases hb with hb|hb
  .lia
  .lia
 rw[if_pos h];simp only[w8,nc,ET,decide_eq_true_eq,beq_iff_eq];refine{{{{?_,?_},?_},?_},.inr ?_}<;>lia
section
variable {X:Cx} {tg:ja}
def Adi (ta:TA):TI:=λG H R=>ta G H λvs H1=>∃i j k:Int,vs=[.int i,.int j,.int k]/\(-(2 ^ 40)<=i/\i<2 ^ 40/\-(2 ^ 40)<=j/\j<2 ^ 40/\0<k/\k<2 ^ 29)/\R (wT i k (Cp i j k)) H1
theorem P5 {a b c:ja}{ta:TA}{p:Pos}(hg:Gl X "range")(hm:X.mg "range"=KI)(ha:PA X [a,b,c] ta)(hs:autoParam (starEach [a,b,c] X.env=[(KL,eval a X.env),(KL,eval b X.env),(KL,eval c X.env)]) QD)
  (hs2:autoParam (starEach [b,c] X.env=[(KL,eval b X.env),(KL,eval c X.env)]) QD):PI X tg (.Call (.Name "range" p) [a,b,c] [] pos) (Adi ta):=by
 intro pins s G H R I h;refine Call_ (Do I hg hm boot_range (ij (thA ha I h λus s1 vs H1 I1 r1 q1=>?_) (by rw[hs,hs2]) (by rw[hs2];rfl)));obtain⟨i,j,k,e,⟨q1,q2,q3,q4,q5,q6⟩,q⟩:=q1;subst e
 cases r1 with
 |cons r rr=>
  cases rr with
  |cons r' rr=>
   cases rr with
   |cons r'' rr=>
    cases rr;obtain⟨t,rfl⟩:=r;obtain⟨t',rfl⟩:=r';obtain⟨t'',rfl⟩:=r'';refine KA () ?_ (.inl (uw ()));refine FI (AJ ..) (gY q5 () () () () ()) ?_;have I2:Inv X pins G H1 { s1 with heap:=s1.heap.push { cls:=.type "range",data:=.fields #[.int i t,.int j t',.int k t''] },toks:=s1.toks }:=I1.kept λb o e=>en _ e;refine{_,[_],_,_,H1,rfl,I2.kept (t':=s1.toks) λb o e=>en _ e,kG _ i k (Cp i j k),?_,λb hb=>?_,q}
    .have e1:i+((0:Nat):Int)*k=i:=by simp
     have e2:((Cp i j k:Nat):Int)-((0:Nat):Int)=lh i j k:=by rw[Vk q5];simp
     show AC _ _ (i+((0:Nat):Int)*k) (((Cp i j k:Nat):Int)-((0:Nat):Int)) k;rw[e1,e2];exact gp _ rfl
    .have e:=f7.mp hb
     subst e;exact I2.fpOk (d8 _) (I2.hok.fresh (d8 _))
end
theorem kH {lo st:Int}{tc:TT}{Q:VK}(acc:Nat->List V)(h0:acc 0=[])(hz:∀i,i<n->(acc i).9<sizeLine)
  (turn:∀(i:Nat) H (R:Hp->Prop) (A:VK),i<n->Ag H1 H->(acc (i+1)=acc i->∀H',Ag H H'->R H')->(∀y H',acc (i+1)=acc i++[y]->Ag H H'->A y H') ->
   tc (KH (.int (lo+i*st))::fr) H λb H3=>if b=KJ then te (KH (.int (lo+i*st))::fr) H3 A else R H3)
  (fin:∀D H,H1 D=KI->Ag H1 H->H D=KH (.lst (acc n))->Q (.ref D) H):Lb (wT lo st n) H1 fr tc te Q:=
 On n (λi=>.int (lo+i*st)) acc h0 hz (λi H hi _=>hi) (λi H x H' _ _ h=>⟨h.2,h.1⟩) (λH _=>d8 n) turn fin
def Its (z:Str):It:={λi _=>i<z.cps.8,λi H x H'=>H'=H/\∃c,z.cps[i]?=KH c/\x=.str (sgn c),λi _=>z.cps.8<=i}
section
variable {X:Cx} {tg:ja}
def Ahd (tl:TE):TI:=λG H R=>tl G H λx H1=>∃z,x=.str z/\R (Its z) H1
theorem wI {P:gl}{K:d6}{ty:String}{t:Tok}(hty:ty="str_ascii_iterator"\/ty="str_iterator")
  (W:∀A':i9,A'.handled=KI->Walks P w A' it [it] [it] z.cps.8 (SignAt z) (λi h=>h.IsStrIter it ty z t i))
  (hself:∀(A:i9) (i:Nat) (s:ft) (Q:Za0) (E:Za0),s.heap.IsStrIter it ty z t i->Q (.ref it) s->wpAny (model P w) A (pyIter (.ref it)) Q E s):S9 P w K tg (Its z) [it] it (λi h=>h.IsStrIter it ty z t i) where
 mem:=by simp
 obj:=λi h st b hb=>by
  have e:b=it:=by simpa using hb
  subst e;obtain⟨o,e,c,d⟩:=st;exact{o,e,λv z=>by rw[d] at z;cases z}
 keep:=λi h h' st k=>let ⟨o,ho,r⟩:=st;{o,k it (by simp) o ho,r}
 item:=by
  intro X hP hw hK hc i pins s G H E I hf st hg;subst hP hw hK;obtain⟨f0,f1,f2,f3,f4,f5⟩:=hf it (by simp);refine(W X.A (I.ok.hd hc)).item i s _ _ hg st λv h' tk hv st' kk=>?_;obtain⟨c,u,hc',rfl⟩:=hv;have I1:Inv X pins G H { s with heap:=h',toks:=tk }:=I.turned (λb o hb e=>kk b o (by simpa using hb) e) f0 f1 f3 f4 f5;obtain⟨o,e,cc,d⟩:=id st';exact⟨_,rfl,Yj (s:={ s with heap:=h',toks:=tk }) e cc d (by rcases hty with rfl|rfl<;>decide) ⟨.str (sgn c),H,I1,⟨u,rfl⟩,⟨rfl,c,hc',rfl⟩,st',λb hb=>(hf b hb).1⟩⟩
 done:=by
  intro X hP hw hK hc i pins s G H E I hf st hg;subst hP hw hK;obtain⟨f0,f1,f2,f3,f4,f5⟩:=hf it (by simp);rcases hty with rfl|rfl
  .exact wpAny_pyNext_ascii_end (I.ok.hd hc) st (l7 hg) λh' eb=>{rfl,I.turned (t':=s.toks) (λb o hb e=>eb b o hb e) f0 f1 f3 f4 f5}
  .exact wpAny_pyNext_wide_end (I.ok.hd hc) st (l7 hg) λh' eb=>{rfl,I.turned (t':=s.toks) (λb o hb e=>eb b o hb e) f0 f1 f3 f4 f5}
 self:=λA i s Q E st h=>hself A i s Q E st h
theorem lX {l:ja}{tl:TE}(hl:PE X l tl):PI X tg l (Ahd tl):=by
 intro pins s G H R I h;refine thE hl I h λv s1 x H1 I1 r1 q1=>?_;obtain⟨z,e,q⟩:=q1;subst e;obtain⟨t,rfl⟩:=r1;have fin:∀(o:Obj) (ty:String),(ty="str_ascii_iterator"\/ty="str_iterator")->(∀A':i9,A'.handled=KI->Walks X.prog X.w A' s1.heap.objs.8 [s1.heap.objs.8] [s1.heap.objs.8] z.cps.8 (SignAt z) (λi h=>h.IsStrIter s1.heap.objs.8 ty z t i)) ->
   (∀(A:i9) (i:Nat) (s:ft) (Q:Za0) (E:Za0),s.heap.IsStrIter s1.heap.objs.8 ty z t i->Q (.ref s1.heap.objs.8) s->wpAny (model X.prog X.w) A (pyIter (.ref s1.heap.objs.8)) Q E s) ->
   (s1.heap.push o).IsStrIter s1.heap.objs.8 ty z t 0->PIE X pins G tg R (.ref s1.heap.objs.8) { s1 with heap:=s1.heap.push o }:=λo ty hty W hs h0=>by
  refine{s1.heap.objs.8,[s1.heap.objs.8],_,_,H1,rfl,I1.kept (t':=s1.toks) λb o e=>en _ e,wI hty W hs,h0,λb hb=>?_,q};have e:b=s1.heap.objs.8:=by simpa using hb
  subst e;exact I1.fpOk (d8 _) (I1.hok.fresh (d8 _))
 cases ha:z.cps.all (· < 128)
 .exact wpAny_pyIter_wide ha (fin _ _ (.inr rfl) (λA' hA=>Walks.strWide hA _ z t) (λA i s Q E st h=>wpAny_pyIter_striter_wide st h) {_,gp _ rfl,rfl,rfl})
 .exact wpAny_pyIter_ascii ha (fin _ _ (.inl rfl) (λA' hA=>Walks.strAscii hA _ z t) (λA i s Q E st h=>wpAny_pyIter_striter_ascii st h) {_,gp _ rfl,rfl,rfl})
end
theorem Aeg {tl:TE}{G:St}{R:It->Hp->Prop}(h:tl G H λx H1=>∃z,x=.str z/\R (Its z) H1):Ahd tl G H R:=h
theorem Aga {tA:TA}{G:St}{R:It->Hp->Prop}(h:tA G H λvs H1=>∃i j k:Int,vs=[.int i,.int j,.int k]/\(-(2 ^ 40)<=i/\i<2 ^ 40/\-(2 ^ 40)<=j/\j<2 ^ 40/\0<k/\k<2 ^ 29)/\R (wT i k (Cp i j k)) H1):Adi tA G H R:=h
theorem Ae5 {tc:TT}{Q:VK}(acc:Nat->List V)(h0:acc 0=[])(hz:∀i,i<z.cps.8->(acc i).9<sizeLine)
  (turn:∀(i:Nat) c H (R:Hp->Prop) (A:VK),z.cps[i]?=KH c->Ag H1 H->(acc (i+1)=acc i->∀H',Ag H H'->R H')->(∀y H',acc (i+1)=acc i++[y]->Ag H H'->A y H') ->
   tc (KH (.str (sgn c))::fr) H λb H3=>if b=KJ then te (KH (.str (sgn c))::fr) H3 A else R H3)
  (fin:∀D H,H1 D=KI->Ag H1 H->H D=KH (.lst (acc z.cps.8))->Q (.ref D) H):Lb (Its z) H1 fr tc te Q:=by
 refine On z.cps.8 (λi=>.str (sgn (z.cps.getD i 0))) acc h0 hz (λi H hi _=>hi) (λi H x H' hi _ h=>{?_,h.1}) (λH _=>d8 _) (λi H R A hi sm=>turn i _ H R A (by simp[hi]) sm) fin;obtain⟨_,c,hc,rfl⟩:=h;simp[Array.getD,hi] at hc ⊢;rw[hc]
def Kv (z:Str)(lo hi:Option Int):Str:={((z.cps.toList.drop (_T.sIx z.cps.8 0 lo)).take (_T.sIx z.cps.8 z.cps.8 hi-_T.sIx z.cps.8 0 lo)).6}
def Ahb:V->Option Int->Option Int->Hp->VK->Prop:=λx lo hi H Q=>∃z,x=.str z/\z.9<=sizeLine/\Q (.str (Kv z lo hi)) H
theorem Agg (lo hi:Option Int)(n:Nat):lp lo hi 1 n=(fb (_T.sIx n n hi-_T.sIx n 0 lo)).map (_T.sIx n 0 lo + ·):=by
 have e:lp lo hi 1 n=sliceRange ((_T.sIx n 0 lo:Nat):Int) ((_T.sIx n n hi:Nat):Int) 1:=by
  unfold lp;dsimp only;congr 1
  .cases lo with
   |none=>simp[_T.sIx]
   |some i=>
    simp only[_T.sIx,show(1:Int)>0 by decide,if_true]
    by_cases h:i<0
    .simp only[h,if_true]
     lia
    .simp only[h,if_false]
     lia
  .cases hi with
   |none=>simp[_T.sIx]
   |some i=>
    simp only[_T.sIx,show(1:Int)>0 by decide,if_true]
    by_cases h:i<0
    .simp only[h,if_true]
     lia
    .simp only[h,if_false]
     lia
 rw[e,IR]
theorem xK (z:Str)(t:Tok)(l u:Option (Int×Tok)):(sliceMade z t l u KI=.val (.str z t)/\Kv z (l.map (·.1)) (u.map (·.1))=z)\/sliceMade z t l u KI=.str (Kv z (l.map (·.1)) (u.map (·.1))):=by
 have hp:slicePicked z l u KI=(fb (_T.sIx z.9 z.9 (u.map (·.1))-_T.sIx z.9 0 (l.map (·.1)))).map (_T.sIx z.9 0 (l.map (·.1)) + ·):=Agg _ _ _;have hc:(slicePicked z l u KI).filterMap (z.cps[·]?)=(Kv z (l.map (·.1)) (u.map (·.1))).cps.toList:=by
  rw[hp,IT];rfl
 unfold sliceMade;split
 .rename_i hw
  left
  refine{rfl,G6 ?_};have hlen:(slicePicked z l u KI).9=z.9:=by simpa using hw
  rw[hp,d7,fg] at hlen;have h1:=_T.sIx_le z.9 0 (gn _) (l.map (·.1));have h2:=_T.sIx_le z.9 z.9 (d8 _) (u.map (·.1));have e1:_T.sIx z.9 0 (l.map (·.1))=0\/z.9=0:=()
  show((z.cps.toList.drop (_T.sIx z.cps.8 0 (l.map (·.1)))).take _).toArray.toList=_;rw[show z.cps.8=z.9 from rfl] at *;rcases e1 with e1|e1
  .rw[e1,qa] at hlen
   rw[e1,hlen,qa,qz,lf];exact fz (by simp[vm])
  .have:z.cps.7=[]:=by
    have:z.cps.8=0:=e1
    simpa using this
   rw[this];simp
 .right
  rw[hc]
section
variable {X:Cx}
theorem K0:SlR X Ahb:=by
 intro pins s G H x v vl vu lo hi sl Q I rx hs pl pu h;obtain⟨z,rfl,hz,q⟩:=h;obtain⟨t,rfl⟩:=rx;refine{"str",_,zd.lookup,AZ _ _ _,?_};obtain⟨l,el,el'⟩:∃l:Option (Int×Tok),vl=partValue l/\lo=l.map (·.1):=by
  cases pl with
  |none=>exact⟨KI,rfl,rfl⟩
  |int i t=>exact{KH (i,t),rfl,rfl}
 obtain⟨u,eu,eu'⟩:∃u:Option (Int×Tok),vu=partValue u/\hi=u.map (·.1):=by
  cases pu with
  |none=>exact⟨KI,rfl,rfl⟩
  |int i t=>exact{KH (i,t),rfl,rfl}
 subst el el' eu eu';refine CU (l:=l) (u:=u) (st:=KI) hs rfl ?_;rcases xK z t l u with⟨e,e2⟩|e
 .rw[e]
  rw[e2] at q;exact{.str z,H,I,⟨t,rfl⟩,q}
 .rw[e]
  refine{?_,.str _,H,I.tok _,{_,rfl},q};refine iy ?_ hz;show(wq _ (wt _ z.cps.7)).toArray.size<=z.cps.8;rw[ge,fh,gz];simp;lia
def Xu (z:Str):Str:=⟨z.cps.toList.reverse.6⟩
def Aij (te:TE):TE:=λG H Q=>te G H λx H1=>∃z,x=.str z/\z.9<=sizeLine/\Q (.str (Xu z)) H1
end
theorem yQ:bootBuiltins "zip"=KH (.type "zip"):=by decide +kernel
theorem R6:bootBuiltins "enumerate"=KH (.type "enumerate"):=by decide +kernel
theorem Inv.turnT {G:List (Option V)}{wr:List eh}{T:eh}(I:Inv X pins G H s)
  (k:∀b o,b∉wr->s.heap.get? b=KH o->h'.get? b=KH o)(hf:∀b∈wr,Vw X pins H b)(hT:s.heap.objs.8<=T)(hI:h'.IsTuple T us.6)(rv:Ax xs us)(hz:xs.9<=sizeLine) :
  Inv X pins G (upd H T (.tup xs)) { s with heap:=h',toks:=t' }:=by
 have hn:H T=KI:=I.hok.fresh hT;have nT:∀b u,H b=KH u->b≠T:=λb u e=>Aj e hn;have nW:∀b u,H b=KH u->b∉wr:=λb u e z=>by rw[(hf b z).1] at e;cases e
 refine I.step (g':=s.gens) (d':=s.drawn) (ch:=wr) (λb hb=>?_) (λb o _ _ hc e _=>k b o hc e) (λb o _ _ hc e _=>{o.slots,k b o hc e}) (λb o hc e n=>?_)
  (λb o hc e=>{o,k b o hc e}) (λb xs e=>by rw[Al (nT _ _ e)];exact e) (λb o u e=>by rw[Al (nT _ _ e)];exact e) (λb ps e=>{#[],by rw[Al (nT _ _ e),e];simp}) (λm hm=>?_) (λb u e=>?_) I.bare
 .obtain⟨_,f1,_,f3,f4,f5⟩:=hf b hb
  exact⟨f3,f1,f4,f5⟩
 .rw[Al (gw (fv (fu e) hT))]
  exact n
 .obtain⟨o,es,ep,ho,r⟩:=hm
  exact{o,es,ep,k _ o (λz=>(hf _ z).2.1 rfl) ho,r}
 .by_cases hb:b=T
  .subst hb
   rw[Af] at e;cases e;exact⟨hz,us,rv,hI⟩
  .rw[Al hb] at e
   refine(I.hok b u e).stay (λc v hc q=>k c v ?_ q) (λc q=>by rw[Al (nT _ _ q)];exact q) λc ys q=>by rw[Al (nT _ _ q)];exact q
   rcases hc with z|z
   .rw[z];exact nW b u e
   .exact nW c _ z
theorem Inv.turnW {G:List (Option V)}{wr:List eh}(I:Inv X pins G H s)
  (k:∀b o,b∉wr->s.heap.get? b=KH o->h'.get? b=KH o)(hf:∀b∈wr,Vw X pins H b):Inv X pins G H { s with heap:=h',toks:=t' }:=by
 have nW:∀b u,H b=KH u->b∉wr:=λb u e z=>by rw[(hf b z).1] at e;cases e
 refine I.step (g':=s.gens) (d':=s.drawn) (ch:=wr) (λb hb=>?_) (λb o _ _ hc e _=>k b o hc e) (λb o _ _ hc e _=>{o.slots,k b o hc e}) (λb o hc e n=>n)
  (λb o hc e=>{o,k b o hc e}) (λ_ _ e=>e) (λ_ _ _ e=>e) (λb ps e=>{#[],by rw[e];simp}) (λm hm=>?_) (λb u e=>?_) I.bare
 .obtain⟨_,f1,_,f3,f4,f5⟩:=hf b hb
  exact⟨f3,f1,f4,f5⟩
 .obtain⟨o,es,ep,ho,r⟩:=hm
  exact{o,es,ep,k _ o (λz=>(hf _ z).2.1 rfl) ho,r}
 .refine(I.hok b u e).stay (λc v hc q=>k c v ?_ q) (λ_ q=>q) λ_ _ q=>q
  rcases hc with z|z
  .rw[z];exact nW b u e
  .exact nW c _ z
theorem Gy {a b:eh}{o u:Obj}(h1:h.get? a=KH o)(h2:h.get? b=KH u)(d:o.cls≠u.cls):a≠b:=λe=>by
 subst e;rw[h1] at h2;cases h2;exact d rfl
def Itz (K:d6)(a b:eh):It:=
 ⟨λi H=>∃xs ys x y,SqL K H a xs/\SqL K H b ys/\xs[i]?=KH x/\ys[i]?=KH y,
  λi H v H'=>∃t x y,H t=KI/\v=.ref t/\(∀xs,SqL K H a xs->xs[i]?=KH x)/\(∀ys,SqL K H b ys->ys[i]?=KH y)/\H'=upd H t (.tup [x,y]),
  λi H=>∃xs ys,SqL K H a xs/\SqL K H b ys/\i=min xs.9 ys.9⟩
def StZ (z TI TO i1 i2 l1 l2:eh)(i:Nat)(h:jm):Prop:=GH h z TI TO .none/\o0 h TI (.ref i1) (.ref i2)/\(∃a b,o0 h TO a b)/\h.IsListIter i1 l1 i/\h.IsListIter i2 l2 i
structure mZ (z TI TO i1 i2:eh):Prop where
 TIz:TI≠z
 TOz:TO≠z
 i1z:i1≠z
 i2z:i2≠z
 TITO:TI≠TO
 TIi1:TI≠i1
 TIi2:TI≠i2
 TOi1:TO≠i1
 TOi2:TO≠i2
 i12:i1≠i2
theorem eA {z TI TO a b:eh}{i:Nat}{xs ys:Array fj}(D:mZ z TI TO i1 i2)(st:StZ z TI TO i1 i2 a b i h)(ha:h.IsList a xs)(hb:h.IsList b ys):xt z TI TO i1 i2 a b:=by
 obtain⟨hz,hTI,⟨u,v,hTO⟩,⟨o1,e1,c1,_⟩,⟨o2,e2,c2,_⟩⟩:=st;obtain⟨oa,ea,ca,_⟩:=ha;obtain⟨ob,eb,cb,_⟩:=hb;refine{D.TIz,D.TOz,D.i1z,D.i2z,D.TITO,D.TIi1,D.TIi2,D.TOi1,D.TOi2,D.i12,Gy ea hz ?_,Gy ea hTO ?_,Gy ea e1 ?_,Gy ea e2 ?_,Gy eb hz ?_,Gy eb hTO ?_,Gy eb e1 ?_,Gy eb e2 ?_}
 .rw[ca];exact show kj "list"≠kj "zip" by decide
 .rw[ca];exact show kj "list"≠kj "tuple" by decide
 .rw[ca,c1];decide
 .rw[ca,c2];decide
 .rw[cb];exact show kj "list"≠kj "zip" by decide
 .rw[cb];exact show kj "list"≠kj "tuple" by decide
 .rw[cb,c1];decide
 .rw[cb,c2];decide
theorem Nq (n:Nat):mZ (n+4) (n+2) (n+3) n (n+1):=by
 constructor<;>(intro h;have h:(_:Nat)=_:=h;lia)
theorem Agn {c:Nat}(h:c=n+4\/c=n+2\/c=n+3\/c=n\/c=n+1):n<=c:=()
theorem Ac3 {c:Nat}(h:c=n+1\/c=n):n<=c:=()
theorem Ac8 (n:Nat):n+1≠n:=()
theorem uY {P:gl}{K:d6}{elts:List ja}{k:Nat}(z TI TO i1 i2 a b:eh)(D:mZ z TI TO i1 i2) :
  S9 P w K (.Tuple elts k pos) (Itz K a b) [z,TI,TO,i1,i2] z (StZ z TI TO i1 i2 a b) where
 mem:=by simp
 obj:=λi h st c hc=>by
  obtain⟨hz,hTI,⟨u,v,hTO⟩,⟨o1,e1,c1,d1⟩,⟨o2,e2,c2,d2⟩⟩:=st;simp only[ir,lw,or_false] at hc;rcases hc with rfl|rfl|rfl|rfl|rfl
  .exact{_,hz,λv z=>by cases z}
  .exact{_,hTI,λv z=>by cases z}
  .exact{_,hTO,λv z=>by cases z}
  .exact{_,e1,λv z=>by rw[d1] at z;cases z}
  .exact{_,e2,λv z=>by rw[d2] at z;cases z}
 keep:=λi h h' st kk=>by
  obtain⟨hz,hTI,⟨u,v,hTO⟩,h1,h2⟩:=st;exact{kk _ (by simp) _ hz,kk _ (by simp) _ hTI,{u,v,kk _ (by simp) _ hTO},h1.at λo e=>kk _ (by simp) o e,h2.at λo e=>kk _ (by simp) o e}
 item:=by
  intro X hP hw hK hc i pins s G H E I hf st hg;subst hP hw hK;obtain⟨xs,ys,x,y,ha,hb,hx,hy⟩:=hg;obtain⟨its,rv,p,hz⟩:=I.list ha;obtain⟨its2,rv2,p2,hz2⟩:=I.list hb;have W:=FN (prog:=X.prog) (w:=X.w) (A:=X.A) (I.ok.hd hc) z TI TO i1 i2 a b (eA D st p.isList p2.isList) its.6 its2.6;obtain⟨u1,hu1,ru1⟩:=rv.get hx;obtain⟨u2,hu2,ru2⟩:=rv2.get hy;have l1:=(fc.mp hu1).1;have l2:=(fc.mp hu2).1;obtain⟨s1,s2,s3,s4,s5⟩:=id st;refine W.item i s _ _ (by simp;lia) ⟨s1,s2,s3,s4,s5,p.isList,p2.isList⟩ λT vals h' tk hv hT hTu mid kk=>?_;obtain⟨v1,v2,e1,e2,rfl⟩:=hv;have e1:v1=u1:=by have:=e1;simp only[vz] at this;rw[hu1] at this;exact(ee this).symm
  have e2:v2=u2:=by have:=e2;simp only[vz] at this;rw[hu2] at this;exact(ee this).symm
  subst e1 e2;have nT:=W.apart i T h' mid;refine⟨.ref T,rfl,W.go elts k pos i T { s with heap:=h',toks:=tk } _ _ mid λh'' st'' kk2=>?_⟩;have hTu2:h''.IsTuple T ([v1,v2]:Za3).6:=by
   obtain⟨o,e,r⟩:=hTu;exact{o,kk2 T o nT e,r}
  have I2:Inv X pins G (upd H T (.tup [x,y])) { s with heap:=h'',toks:=tk }:=I.turnT (t':=tk) (λb o hb e=>kk2 b o hb (kk b o hb e)) (λb hb=>hf b (by simp at hb ⊢;rcases hb with rfl|rfl|rfl|rfl<;>simp)) hT hTu2 (.cons ru1 (.cons ru2 .nil)) (show 2<=sizeLine by decide)
  refine{.ref T,_,I2,rfl,{T,x,y,I.hok.fresh hT,rfl,λxs' h=>by rw[I.list_inj h ha];exact hx,λys' h=>by rw[I.list_inj h hb];exact hy,rfl},⟨st''.1,st''.2.1,st''.2.2.1,st''.2.2.2.1,st''.2.2.2.2.1⟩,λc hc'=>?_};have hlt:c<s.heap.objs.8:=by
   obtain⟨q,⟨t1,t2,t3⟩⟩:c∈[z,TI,TO,i1,i2]/\(GH s.5 z TI TO .none/\o0 s.5 TI (.ref i1) (.ref i2)/\True):=⟨hc',s1,s2,trivial⟩;obtain⟨u,v,s3⟩:=s3;obtain⟨o4,s4,_⟩:=s4;obtain⟨o5,s5,_⟩:=s5;simp only[ir,lw,or_false] at hc';rcases hc' with rfl|rfl|rfl|rfl|rfl
   .exact fu s1
   .exact fu s2
   .exact fu s3
   .exact fu s4
   .exact fu s5
  rw[Al (gw (fv hlt hT))];exact(hf c hc').1
 done:=by
  intro X hP hw hK hc i pins s G H E I hf st hg;subst hP hw hK;obtain⟨xs,ys,ha,hb,hi⟩:=hg;obtain⟨its,rv,p,hz⟩:=I.list ha;obtain⟨its2,rv2,p2,hz2⟩:=I.list hb;have W:=FN (prog:=X.prog) (w:=X.w) (A:=X.A) (I.ok.hd hc) z TI TO i1 i2 a b (eA D st p.isList p2.isList) its.6 its2.6;have hl:=rv.9;have hl2:=rv2.9;have hi2:i=min its.toArray.8 its2.toArray.8:=by rw[hi,hl,hl2];simp
  obtain⟨s1,s2,s3,s4,s5⟩:=id st;refine W.done s _ _ (by rw[<-hi2];exact⟨s1,s2,s3,s4,s5,p.isList,p2.isList⟩) λh' tk kk=>{rfl,?_};exact I.turnW (t':=tk) kk λb hb=>hf b (by simp at hb ⊢;rcases hb with rfl|rfl|rfl|rfl<;>simp)
 self:=λ_ _ _ _ _ st h=>wa st.1 h
section
variable {X:Cx} {elts:List ja} {k:Nat} {tpos:Pos}
def Ah5 (K:d6)(ta:TA):TI:=λG H R=>ta G H λvs H1=>∃a b,vs=[.ref a,.ref b]/\(∃xs,SqL K H1 a xs)/\(∃ys,SqL K H1 b ys)/\R (Itz K a b) H1
theorem eG {a b:ja}{ta:TA}{p:Pos}(hg:Gl X "zip")(hm:X.mg "zip"=KI)(ha:PA X [a,b] ta)(hs:autoParam (starEach [a,b] X.env=[(KL,eval a X.env),(KL,eval b X.env)]) QD)(hs2:autoParam (starEach [b] X.env=[(KL,eval b X.env)]) QD) :
  PI X (.Tuple elts k tpos) (.Call (.Name "zip" p) [a,b] [] pos) (Ah5 X.K ta):=by
 intro pins s G H R I h;refine Call_ (Do I hg hm yQ (ij (thA ha I h λus s1 vs H1 I1 r1 q1=>?_) (by rw[hs,hs2]) (by rw[hs2];rfl)));obtain⟨a,b,e,⟨xs,hx⟩,⟨ys,hy⟩,q⟩:=q1;subst e;obtain⟨u,v,rfl,ru,rv⟩:=Ng r1;cases ru;cases rv;obtain⟨its,rv,p,hz⟩:=I1.list hx;obtain⟨its2,rv2,p2,hz2⟩:=I1.list hy;refine FL p.isList p2.isList λh' g1 g2 g3 g4 g5 hsz kk=>?_;refine wa (s:={ s1 with heap:=h' }) g1 ?_;refine⟨s1.heap.objs.8+4,[s1.heap.objs.8+4,s1.heap.objs.8+2,s1.heap.objs.8+3,s1.heap.objs.8,s1.heap.objs.8+1],_,_,H1,rfl,I1.kept (t':=s1.toks) kk,
  uY _ _ _ _ _ a b (Nq _),{g1,g2,{_,_,g3},g4,g5},λc hc=>?_,q⟩
 have hle:s1.heap.objs.8<=c:=by
  simp only[ir,lw,or_false] at hc;exact Agn hc
 exact I1.fpOk hle (I1.hok.fresh hle)
end
def Ite (K:d6)(a:eh):It:=
 ⟨λi H=>∃xs x,SqL K H a xs/\xs[i]?=KH x,
  λi H v H'=>∃t x,H t=KI/\v=.ref t/\(∀xs,SqL K H a xs->xs[i]?=KH x)/\H'=upd H t (.tup [.int i,x]),
  λi H=>∃xs,SqL K H a xs/\i=xs.9⟩
def StE (e it l:eh)(i:Nat)(h:jm):Prop:=(∃old,IsEnum h e it i old)/\h.IsListIter it l i
theorem uQ {P:gl}{K:d6}{elts:List ja}{k:Nat}(e it a:eh)(D:e≠it) :
  S9 P w K (.Tuple elts k pos) (Ite K a) [e,it] e (StE e it a) where
 mem:=by simp
 obj:=λi h st c hc=>by
  obtain⟨⟨old,he⟩,⟨o1,e1,c1,d1⟩⟩:=st;simp only[ir,lw,or_false] at hc;rcases hc with rfl|rfl
  .exact{_,he,λv z=>by cases z}
  .exact{_,e1,λv z=>by rw[d1] at z;cases z}
 keep:=λi h h' st kk=>by
  obtain⟨⟨old,he⟩,h1⟩:=st;exact{{old,kk _ (by simp) _ he},h1.at λo e=>kk _ (by simp) o e}
 item:=by
  intro X hP hw hK hc i pins s G H E I hf st hg;subst hP hw hK;obtain⟨xs,x,ha,hx⟩:=hg;obtain⟨its,rv,p,hz⟩:=I.list ha;obtain⟨⟨old,s1⟩,s2⟩:=id st;have n1:a≠e:=by obtain⟨oa,ea,ca,_⟩:=p.isList;exact Gy ea s1 (by rw[ca];exact show kj "list"≠kj "enumerate" by decide)
  have n2:a≠it:=by obtain⟨oa,ea,ca,_⟩:=p.isList;obtain⟨o1,e1,c1,_⟩:=s2;exact Gy ea e1 (by rw[ca,c1];decide)
  have W:=CV (prog:=X.prog) (w:=X.w) (A:=X.A) (I.ok.hd hc) e it a D n1 n2 its.6;obtain⟨u1,hu1,ru1⟩:=rv.get hx;have l1:=(fc.mp hu1).1;refine W.item i s _ _ (by simpa using l1) {⟨old,s1⟩,s2,p.isList} λT vals h' tk hv hT hTu mid kk=>?_;obtain⟨t,v1,e1,rfl⟩:=hv;have e1:v1=u1:=by have:=e1;simp only[vz] at this;rw[hu1] at this;exact(ee this).symm
  subst e1;have nT:=W.apart i T h' mid;refine⟨.ref T,rfl,W.go elts k pos i T { s with heap:=h',toks:=tk } _ _ mid λh'' st'' kk2=>?_⟩;have hTu2:h''.IsTuple T ([o6 (i:Int) t,v1]:Za3).6:=by
   obtain⟨o,e,r⟩:=hTu;exact{o,kk2 T o nT e,r}
  have I2:Inv X pins G (upd H T (.tup [.int i,x])) { s with heap:=h'',toks:=tk }:=I.turnT (t':=tk) (λb o hb e=>kk2 b o hb (kk b o hb e)) (λb hb=>hf b hb) hT hTu2 (.cons ⟨t,rfl⟩ (.cons ru1 .nil)) (show 2<=sizeLine by decide);refine{.ref T,_,I2,rfl,{T,x,I.hok.fresh hT,rfl,λxs' h=>by rw[I.list_inj h ha];exact hx,rfl},{?_,st''.2.1},λc hc'=>?_}
  .exact st''.1
  have hlt:c<s.heap.objs.8:=by
   obtain⟨o5,s5,_⟩:=s2;simp only[ir,lw,or_false] at hc';rcases hc' with rfl|rfl
   .exact fu s1
   .exact fu s5
  rw[Al (gw (fv hlt hT))];exact(hf c hc').1
 done:=by
  intro X hP hw hK hc i pins s G H E I hf st hg;subst hP hw hK;obtain⟨xs,ha,hi⟩:=hg;obtain⟨its,rv,p,hz⟩:=I.list ha;obtain⟨⟨old,s1⟩,s2⟩:=id st;have n1:a≠e:=by obtain⟨oa,ea,ca,_⟩:=p.isList;exact Gy ea s1 (by rw[ca];exact show kj "list"≠kj "enumerate" by decide)
  have n2:a≠it:=by obtain⟨oa,ea,ca,_⟩:=p.isList;obtain⟨o1,e1,c1,_⟩:=s2;exact Gy ea e1 (by rw[ca,c1];decide)
  have W:=CV (prog:=X.prog) (w:=X.w) (A:=X.A) (I.ok.hd hc) e it a D n1 n2 its.6;have hl:=rv.9;have hi2:i=its.toArray.8:=by rw[hi,hl];simp
  refine W.done s _ _ (by rw[<-hi2];exact{⟨old,s1⟩,s2,p.isList}) λh' tk kk=>{rfl,?_};exact I.turnW (t':=tk) kk λb hb=>hf b hb
 self:=λ_ _ _ _ _ st h=>vd (zn st.1) h
section
variable {X:Cx} {elts:List ja} {k:Nat} {tpos:Pos}
def Adl (K:d6)(ta:TA):TI:=λG H R=>ta G H λvs H1=>∃a,vs=[.ref a]/\(∃xs,SqL K H1 a xs)/\R (Ite K a) H1
theorem Mm {a:ja}{ta:TA}{p:Pos}(hg:Gl X "enumerate")(hm:X.mg "enumerate"=KI)(ha:PA X [a] ta)(hs:autoParam (starEach [a] X.env=[(KL,eval a X.env)]) QD) :
  PI X (.Tuple elts k tpos) (.Call (.Name "enumerate" p) [a] [] pos) (Adl X.K ta):=by
 intro pins s G H R I h;refine Call_ (Do I hg hm R6 (ij (thA ha I h λus s1 vs H1 I1 r1 q1=>?_) hs rfl));obtain⟨a,e,⟨xs,hx⟩,q⟩:=q1;subst e;obtain⟨u,rfl,ru⟩:=Fl r1;cases ru;obtain⟨its,rv,p,hz⟩:=I1.list hx;refine call_enumerate_list p.isList λh' g1 g2 hsz kk=>?_;refine vd (s:={ s1 with heap:=h' }) g1 ?_;refine⟨s1.heap.objs.8+1,[s1.heap.objs.8+1,s1.heap.objs.8],_,_,H1,rfl,I1.kept (t':=s1.toks) kk,
  uQ _ _ a (Ac8 _),{{_,g1},g2},λc hc=>?_,q⟩
 have hle:s1.heap.objs.8<=c:=by
  simp only[ir,lw,or_false] at hc;exact Ac3 hc
 exact I1.fpOk hle (I1.hok.fresh hle)
end
structure Di (QR:Za6) (QQ sc:oq) (x1 x2:Str) (N:Za6) (ix:Za4):Prop where
 kind:sc.kind=.function
 nocell:∀y∈sc.names,y.2≠.cell
 names:∀y∈sc.names,y.2=.local->sc.names.lookup y.1=KH .local
 free:∀y∈sc.names,y.2=.free->QQ.names.lookup y.1=KH .cell
 nd:N.Nodup
 hd:N[0]?=KH x1
 hd2:N[1]?=KH x2
 loc:sc.names.lookup x1=KH .local
 loc2:sc.names.lookup x2=KH .local
 len:N.9=ix.9+2
 at_:∀p∈N.tail.tail.zip ix,QR[p.2]?=KH p.1/\sc.names.lookup p.1=KH .free
def Hj (K:d6)(J:It)(H1:Hp)(fr:St)(tc:TT)(te:TE)(Q:VK):Prop:=∀D,H1 D=KI->∃W:Nat->Nat->Hp->Prop,(∃m,W 0 m (upd H1 D (.lst [])))/\∀i m H,W i m H ->
 (J.stop i H/\Q (.ref D) H)\/(J.go i H/\∀v H',J.yld i H v H'->∃a x y,v=.ref a/\SqT K H' a [x,y]/\tc (KH x::KH y::fr) H' λb H3=>
  if b=KJ then te (KH x::KH y::fr) H3 λy H4=>∃ys,H4 D=KH (.lst ys)/\ys.9<sizeLine/\∃m',m'<m/\W (i+1) m' (upd H4 D (.lst (ys++[y]))) else ∃m',m'<m/\W (i+1) m' H3)
def Ae7 (K:d6)(wi:TI)(ix:Za4)(tc:TT)(te:TE):TE:=λG H Q=>wi G H λJ H1=>Hj K J H1 (frV G ix) tc te Q
section
variable {X:Cx} {scope:oq} {N:Za6} {ix:Za4} {x1 x2:Str} {px px2 ppos:Pos} {kk:Nat} {elt iter:ja} {ifs:List ja} {tc:TT} {te:TE} {pos:Pos}
theorem Di.g (L:Di QR QQ sc x1 x2 N ix):LcG QR QQ sc 2 N ix:={L.kind,L.nocell,L.names,L.free,L.nd,L.len,by rw[show N.drop 2=N.tail.tail by rw[<-AB,<-AB,oj]];exact L.at_}
def Two (K:d6)(v:V)(H:Hp)(vs:List V):Prop:=∃a x y,v=.ref a/\SqT K H a [x,y]/\vs=[x,y]
theorem xR {K:d6}:Tk 2 (Two K) (kC K 2 (Ia (Dh 0) (Ia (Dh 1) kJ))):=λ_ _ _ _ ⟨a,x,y,e,h,r⟩=>by subst r;exact{rfl,a,[x,y],e,h,rfl,x,[y],rfl,y,[],rfl,rfl,rfl,rfl}
theorem Di.pg (L:Di X.N X.env.scope scope x1 x2 N ix)(hc:X.calm=KJ)(C:eh)(s:ft)(H:Hp)(fp:List eh):PG (Dy X scope N C s H fp) (.Tuple [.Name x1 px,.Name x2 px2] kk ppos) (kC X.K 2 (Ia (Dh 0) (Ia (Dh 1) kJ))):=
 Kh hc (B4 (Oo L.nd L.hd (.inl (og L.loc)) (.inr (og L.loc))) (B4 (Oo L.nd L.hd2 (.inl (og L.loc2)) (.inr (og L.loc2))) G7))
theorem Hj.g {K:d6}{Q:VK}(h:Hj K J H1 fr tc te Q):rdG (Two K) J H1 fr tc te Q:=λD hD=>by
 obtain⟨W,a,b⟩:=h D hD;exact{W,a,λi m H w=>(b i m H w).imp id λ⟨p,q⟩=>{p,λv H' y=>let ⟨a,x,y,e,h,r⟩:=q v H' y;{[x,y],⟨a,x,y,e,h,rfl⟩,r}}}
theorem oO (hc:X.calm=KJ)(L:Di X.N X.env.scope scope x1 x2 N ix)(hi:PI X (.Tuple [.Name x1 px,.Name x2 px2] kk ppos) iter wi)(hif:∀C s H fp,PIf (Dy X scope N C s H fp) ifs tc)(he:∀C s H fp,PE (Dy X scope N C s H fp) elt te)
  (hs:autoParam (∀z,foldedSetIterable iter X.env z=pure z) QJ):PE X (.ListComp elt [{.Tuple [.Name x1 px,.Name x2 px2] kk ppos,iter,ifs,0}] scope pos) (Ae7 X.K wi ix tc te):=wR (rd:=λJ H1 fr Q=>Hj X.K J H1 fr tc te Q) xR (L.pg hc) Hj.g hc L.g hi hif he hs
theorem P3 {i:Nat}{y:Str}{py spos:Pos}(hc:X.calm=KJ)(L:Di X.N X.env.scope scope x1 x2 N ix)(hN:X.N.Nodup)(hy:X.N[i]?=KH y)(hl:X.env.scope.names.lookup y=KH .local)
  (hi:PI X (.Tuple [.Name x1 px,.Name x2 px2] kk ppos) iter wi)(hif:∀C s H fp,PIf (Dy X scope N C s H fp) ifs tc)(he:∀C s H fp,PE (Dy X scope N C s H fp) elt te)
  (hsw:autoParam (swapsWith (.ListComp elt [{.Tuple [.Name x1 px,.Name x2 px2] kk ppos,iter,ifs,0}] scope pos) (KH (.Name y py)) spos.line X.env=pure KJ) QD)
  (hs:autoParam (∀z,foldedSetIterable iter X.env z=pure z) QJ):PS X (.Assign [.Name y py] (.ListComp elt [{.Tuple [.Name x1 px,.Name x2 px2] kk ppos,iter,ifs,0}] scope pos) spos) (oI (Ae7 X.K wi ix tc te) (Dh i)):=Zf (rd:=λJ H1 fr Q=>Hj X.K J H1 fr tc te Q) xR (L.pg hc) Hj.g hc L.g hN hy hl hi hif he hsw hs
end
theorem Aez {K:d6}{tA:TA}{G:St}{R:It->Hp->Prop}(h:tA G H λvs H1=>∃a b,vs=[.ref a,.ref b]/\(∃xs,SqL K H1 a xs)/\(∃ys,SqL K H1 b ys)/\R (Itz K a b) H1):Ah5 K tA G H R:=h
theorem Abe {K:d6}{tA:TA}{G:St}{R:It->Hp->Prop}(h:tA G H λvs H1=>∃a,vs=[.ref a]/\(∃xs,SqL K H1 a xs)/\R (Ite K a) H1):Adl K tA G H R:=h
theorem Ahc {K:d6}{G:St}{Q:VK}{tc:TT}(h:wi G H λJ H1=>Hj K J H1 (frV G ix) tc te Q):Ae7 K wi ix tc te G H Q:=h
theorem Tj {K:d6}{G:St}{R:St->Hp->Prop}{a:eh}{x:V}{i j:Nat}(hs:SqT K H a [x,y])(h:R ((G.set i (KH x)).set j (KH y)) H):kC K 2 (Ia (Dh i) (Ia (Dh j) kJ)) (.ref a) G H R:=
 {a,[x,y],rfl,hs,rfl,x,[y],rfl,y,[],rfl,rfl,h}
theorem xT {K:d6}{tc:TT}{Q:VK}(n:Nat)(f1 f2:Nat->V)(acc:Nat->List V)(h0:acc 0=[])(hz:∀i,i<n->(acc i).9<sizeLine)
  (hgo:∀i H,i<n->Ag H1 H->J.go i H)(hy:∀i H v H',i<n->Ag H1 H->J.yld i H v H'->∃a,v=.ref a/\SqT K H' a [f1 i,f2 i]/\Ag H H')(hst:∀H,Ag H1 H->J.stop n H)
  (turn:∀i H (R:Hp->Prop) (A:VK),i<n->Ag H1 H->(acc (i+1)=acc i->∀H',Ag H H'->R H')->(∀y H',acc (i+1)=acc i++[y]->Ag H H'->A y H') ->
   tc (KH (f1 i)::KH (f2 i)::fr) H λb H3=>if b=KJ then te (KH (f1 i)::KH (f2 i)::fr) H3 A else R H3)
  (fin:∀D H,H1 D=KI->Ag H1 H->H D=KH (.lst (acc n))->Q (.ref D) H):Hj K J H1 fr tc te Q:=by
 intro D hD;refine{λi m H=>i<=n/\m=n-i/\Ag H1 H/\H D=KH (.lst (acc i)),{n,gn _,rfl,An hD,by rw[Af,h0]},?_};rintro i m H ⟨hi,rfl,sm,hl⟩
 by_cases h:i=n
 .subst h
  exact .inl {hst H sm,fin D H hD sm hl}
 .have hlt:i<n:=kr hi h
  refine .inr {hgo i H hlt sm,λv H' hyl=>?_};obtain⟨a,rfl,ht,s2⟩:=hy i H v H' hlt sm hyl;refine{a,_,_,rfl,ht,turn i H' _ _ hlt (sm.trans s2) (λea H3 s3=>?_) (λy H4 ea s4=>?_)}
  .exact{n-(i+1),(),(),rfl,(sm.trans s2).trans s3,by rw[ea];exact s3 _ _ (s2 _ _ hl)}
  .refine{acc i,s4 _ _ (s2 _ _ hl),hz i hlt,n-(i+1),(),(),rfl,λb u e=>?_,by rw[Af,ea]}
   rw[Al (Aj e hD)];exact s4 _ _ (s2 _ _ (sm _ _ e))
theorem Aep {K:d6}{a b:eh}{tc:TT}{Q:VK}(ha:SqL K H1 a xs)(hb:SqL K H1 b ys)(acc:Nat->List V)(h0:acc 0=[])(hz:∀i,i<min xs.9 ys.9->(acc i).9<sizeLine)
  (turn:∀(i:Nat) x y H (R:Hp->Prop) (A:VK),xs[i]?=KH x->ys[i]?=KH y->Ag H1 H->(acc (i+1)=acc i->∀H',Ag H H'->R H')->(∀y H',acc (i+1)=acc i++[y]->Ag H H'->A y H') ->
   tc (KH x::KH y::fr) H λb H3=>if b=KJ then te (KH x::KH y::fr) H3 A else R H3)
  (fin:∀D H,H1 D=KI->Ag H1 H->H D=KH (.lst (acc (min xs.9 ys.9)))->Q (.ref D) H):Hj K (Itz K a b) H1 fr tc te Q:=by
 refine xT (min xs.9 ys.9) (λi=>xs.getD i .non) (λi=>ys.getD i .non) acc h0 hz (λi H hi sm=>{xs,ys,xs[i]'(),ys[i]'(),sm.seq ha,sm.seq hb,by simp,by simp}) (λi H v H' hi sm h=>?_)
  (λH sm=>{xs,ys,sm.seq ha,sm.seq hb,rfl}) (λi H R A hi sm=>turn i _ _ H R A (by simp[show i<xs.9 by lia]) (by simp[show i<ys.9 by lia]) sm) fin
 obtain⟨t,x,y,hn,rfl,h1,h2,rfl⟩:=h;have e1:=h1 xs (sm.seq ha);have e2:=h2 ys (sm.seq hb);refine{t,rfl,?_,An hn};simp only[ju,e1,e2,rj];exact SqT.of Af
theorem K5 {K:d6}{a:eh}{i1 i2:Nat}{tb:TS}{G:St}(Pv:Nat->St->Hp->Prop)(h0:Pv 0 G H)(hl:∀i G H,i<=xs.9->Pv i G H->SqL K H a xs)
  (step:∀i x G H t,xs[i]?=KH x->Pv i G H->H t=KI->tb { D with nx:=Pv (i+1),ct:=Pv (i+1),bk:=D.nx } ((G.set i1 (KH (.int i))).set i2 (KH x)) (upd H t (.tup [.int i,x])))
  (fin:∀G H,Pv xs.9 G H->D.nx G H):uN (Ite K a) (kC K 2 (Ia (Dh i1) (Ia (Dh i2) kJ))) tb D G H:=by
 refine{λi m G H=>i<=xs.9/\m=xs.9-i/\Pv i G H,{_,gn _,rfl,h0},?_};rintro i m G H ⟨hi,rfl,hp⟩
 by_cases h:i=xs.9
 .exact .inl {{xs,hl i G H hi hp,h},fin G H (h▸hp)}
 .have hlt:i<xs.9:=kr hi h
  refine .inr {{xs,xs[i],hl i G H hi hp,by simp},Pv (i+1),λQM H' q=>{xs.9-(i+1),(),hlt,rfl,q},λv H' hy=>?_};obtain⟨t,x,hn,rfl,hx,rfl⟩:=hy;exact Tj (SqT.of Af) (step i x G H t (hx xs (hl i G H hi hp)) hp hn)
def Aco (z:Str):It:=
 {λi _=>i<z.cps.8,λi H v H'=>∃t c,H t=KI/\v=.ref t/\z.cps[i]?=KH c/\H'=upd H t (.tup [.int i,.str (sgn c)]),λi _=>i=z.cps.8}
theorem nR {P:gl}{K:d6}{elts:List ja}{k:Nat}{e:eh}{ty:String}{t:Tok}(hne:e≠it)
  (D:∀A':i9,A'.handled=KI->Draws P w A' it [it] z.cps.8 (λi v=>∃c u,z.cps[i]?=KH c/\v=.str {#[c]} u) (λi h=>h.IsStrIter it ty z t i)) :
  S9 P w K (.Tuple elts k pos) (Aco z) [e,it] e (λi h=>(∃old,IsEnum h e it i old)/\h.IsStrIter it ty z t i) where
 mem:=by simp
 obj:=λi h st c hc=>by
  obtain⟨⟨old,he⟩,⟨o1,e1,c1,d1⟩⟩:=st;simp only[ir,lw,or_false] at hc;rcases hc with rfl|rfl
  .exact{_,he,λv z=>by cases z}
  .exact{_,e1,λv z=>by rw[d1] at z;cases z}
 keep:=λi h h' st kk=>by
  obtain⟨⟨old,he⟩,⟨o,ho,r⟩⟩:=st;exact{{old,kk _ (by simp) _ he},{o,kk _ (by simp) o ho,r}}
 item:=by
  intro X hP hw hK hc i pins s G H E I hf st hg;subst hP hw hK;have W:=CH (D X.A.in1 (I.ok.hd hc)) e hne (by simpa using hne) (by simp);refine W.item i s _ _ hg st λT vals h' tk hv hT hTu mid kk=>?_;obtain⟨t1,x,⟨c,u,hc',rfl⟩,rfl⟩:=hv;have nT:=W.apart i T h' mid;refine⟨.ref T,rfl,W.go elts k pos i T { s with heap:=h',toks:=tk } _ _ mid λh'' st'' kk2=>?_⟩;have hTu2:h''.IsTuple T ([o6 (i:Int) t1,ql {#[c]} u]:Za3).6:=by
   obtain⟨o,e,r⟩:=hTu;exact{o,kk2 T o nT e,r}
  have I2:Inv X pins G (upd H T (.tup [.int i,.str (sgn c)])) { s with heap:=h'',toks:=tk }:=I.turnT (t':=tk) (λb o hb e=>kk2 b o hb (kk b o hb e)) (λb hb=>hf b hb) hT hTu2 (.cons ⟨t1,rfl⟩ (.cons ⟨u,rfl⟩ .nil)) (show 2<=sizeLine by decide);refine{.ref T,_,I2,rfl,{T,c,I.hok.fresh hT,rfl,hc',rfl},st'',λb hb=>?_};have hlt:b<s.heap.objs.8:=by
   obtain⟨⟨old,s1⟩,⟨o5,s5,_⟩⟩:=id st;simp only[ir,lw,or_false] at hb;rcases hb with rfl|rfl
   .exact fu s1
   .exact fu s5
  rw[Al (gw (fv hlt hT))];exact(hf b hb).1
 done:=by
  intro X hP hw hK hc i pins s G H E I hf st hg;subst hP hw hK;have W:=CH (D X.A.in1 (I.ok.hd hc)) e hne (by simpa using hne) (by simp);have hi:i=z.cps.8:=hg;refine W.done s _ _ (by rw[<-hi];exact st) λh' tk kk=>{rfl,?_};exact I.turnW (t':=tk) kk λb hb=>hf b hb
 self:=λ_ _ _ _ _ st h=>vd (zn st.1) h
section
variable {X:Cx} {elts:List ja} {k:Nat} {tpos:Pos}
def yL (ta:TA):TI:=λG H R=>ta G H λvs H1=>∃z,vs=[.str z]/\R (Aco z) H1
theorem Aao {a:ja}{ta:TA}{p:Pos}(hg:Gl X "enumerate")(hm:X.mg "enumerate"=KI)(ha:PA X [a] ta)(hs:autoParam (starEach [a] X.env=[(KL,eval a X.env)]) QD) :
  PI X (.Tuple elts k tpos) (.Call (.Name "enumerate" p) [a] [] pos) (yL ta):=by
 intro pins s G H R I h;refine Call_ (Do I hg hm R6 (ij (thA ha I h λus s1 vs H1 I1 r1 q1=>?_) hs rfl));obtain⟨z,e,q⟩:=q1;subst e;obtain⟨u,rfl,⟨t,rfl⟩⟩:=Fl r1;refine call_enumerate_str λh' g1 g2 hsz kk=>?_;refine vd (s:={ s1 with heap:=h' }) g1 ?_;have fin:∀ty:String,h'.IsStrIter s1.heap.objs.8 ty z t 0->(∀A':i9,A'.handled=KI->Draws X.prog X.w A' s1.heap.objs.8 [s1.heap.objs.8] z.cps.8 (λi v=>∃c u,z.cps[i]?=KH c/\v=.str {#[c]} u) (λi h=>h.IsStrIter s1.heap.objs.8 ty z t i)) ->
   PIE X pins G (.Tuple elts k tpos) R (.ref (s1.heap.objs.8+1)) { s1 with heap:=h' }:=λty g2 D=>by
  refine{s1.heap.objs.8+1,[s1.heap.objs.8+1,s1.heap.objs.8],_,_,H1,rfl,I1.kept (t':=s1.toks) kk,nR (Ac8 _) D,{{_,g1},g2},λc hc=>?_,q};have hle:s1.heap.objs.8<=c:=by
   simp only[ir,lw,or_false] at hc;exact Ac3 hc
  exact I1.fpOk hle (I1.hok.fresh hle)
 by_cases ha:z.cps.all (· < 128)=KJ
 .have e:strIterType z="str_ascii_iterator":=by unfold strIterType;rw[if_pos ha]
  exact fin _ (e▸g2) λA' hA=>Draws.strAscii hA _ z t
 .have e:strIterType z="str_iterator":=by unfold strIterType;rw[if_neg ha]
  exact fin _ (e▸g2) λA' hA=>Draws.strWide hA _ z t
end
theorem vH {tA:TA}{G:St}{R:It->Hp->Prop}(h:tA G H λvs H1=>∃z,vs=[.str z]/\R (Aco z) H1):yL tA G H R:=h
theorem tO {K:d6}{i1 i2:Nat}{tb:TS}{G:St}(Pv:Nat->St->Hp->Prop)(h0:Pv 0 G H)
  (step:∀i c G H t,z.cps[i]?=KH c->Pv i G H->H t=KI->tb { D with nx:=Pv (i+1),ct:=Pv (i+1),bk:=D.nx } ((G.set i1 (KH (.int i))).set i2 (KH (.str (sgn c)))) (upd H t (.tup [.int i,.str (sgn c)])))
  (fin:∀G H,Pv z.cps.8 G H->D.nx G H):uN (Aco z) (kC K 2 (Ia (Dh i1) (Ia (Dh i2) kJ))) tb D G H:=by
 refine{λi m G H=>i<=z.cps.8/\m=z.cps.8-i/\Pv i G H,{_,gn _,rfl,h0},?_};rintro i m G H ⟨hi,rfl,hp⟩
 by_cases h:i=z.cps.8
 .exact .inl {h,fin G H (h▸hp)}
 .have hlt:i<z.cps.8:=kr hi h
  refine .inr {hlt,Pv (i+1),λQM H' q=>{z.cps.8-(i+1),(),hlt,rfl,q},λv H' hy=>?_};obtain⟨t,c,hn,rfl,hx,rfl⟩:=hy;exact Tj (SqT.of Af) (step i c G H t hx hp hn)
structure Mth (P:gl) (w:ip) (K:d6) (mg:Za2) (base:jm) (C:eh) (m:Str) (k:Nat) (ps:Za6) (sp:Sp):Prop where
 ex:∃(f:eh) (fd:jx),Ar P w K mg base CX0 k f fd ps sp/\Fp K fd ps []/\Abo K C m f
 cl:Cls K C
structure Mkr (P:gl) (w:ip) (K:d6) (mg:Za2) (base:jm) (name:Str) (C:eh) (k:Nat) (ps:Za6) (sp:Sp):Prop where
 ex:∃(f:eh) (fd:jx),Ar P w K mg base CX0 k f fd ps sp/\Fp K fd ps []/\Mk K C f/\mg name=KH (.ref C)
section
variable {X:Cx} {k:Nat} {C:eh} {ps:Za6} {sp:Sp} {name m:Str} {p pos apos:Pos} {e o:ja} {es:List ja} {ta:TE} {t:TA} {pl:Sem Bool}
theorem W8 (M:Mkr X.prog X.w X.K X.mg X.base name C k ps sp)(hr:Co (k+1) X.A)(ha:PA X (e::es) t)(hg:autoParam (Gl X name) QD)(hdb:autoParam ((name==("__debug__":Str))=KL) QF)
  (he:autoParam (starEach (e::es) X.env=(KL,eval e X.env)::starEach es X.env) QD)(hpl:autoParam ((backTo pos (starEach es X.env)).any (·.1)=KL) QD):PE X (.Call (.Name name p) (e::es) [] pos) (rZ C sp [] E0 t):=by
 obtain⟨f,fd,F,b,M,hm⟩:=M.ex;exact pF M F hr hg hm b .nil iG ha hdb he hpl
theorem Aq (M:Mth X.prog X.w X.K X.mg X.base C m k ps sp)(hr:Co k X.A)(ho:PE X o ta)(ha:PA X (e::es) t)
  (hst:autoParam (starEach (e::es) X.env=(KL,eval e X.env)::starEach es X.env) QD)(hpl:autoParam ((backTo pos (starEach es X.env)).any (·.1)=KL) QD)
  (ht:autoParam (eval (.Call (.Attribute o m apos) (e::es) [] pos) X.env=(do
   let ov <-eval o X.env
   standAt apos.atName
   let (f,first) <-holding [ov] (getMethod ov m pl)
   callWith pos f first (backTo pos (starEach (e::es) X.env)) (backToKw pos (keywordEach [] X.env)))) QD) :
  PE X (.Call (.Attribute o m apos) (e::es) [] pos) (iW C m sp [] E0 ta t):=by
 obtain⟨f,fd,F,b,hm⟩:=M.ex;exact Ab6 ho M.cl hm F hr b .nil iG ha hst hpl ht
theorem Kg (M:Mth X.prog X.w X.K X.mg X.base C m k ps sp)(hr:Co k X.A)(ho:PE X o ta)
  (ht:autoParam (eval (.Call (.Attribute o m apos) [] [] pos) X.env=(do
   let ov <-eval o X.env
   standAt apos.atName
   let (f,first) <-holding [ov] (getMethod ov m pl)
   callWith pos f first (backTo pos (starEach [] X.env)) (backToKw pos (keywordEach [] X.env)))) QD) :
  PE X (.Call (.Attribute o m apos) [] [] pos) (iW C m sp [] E0 ta nA):=by
 obtain⟨f,fd,F,b,hm⟩:=M.ex;exact xZ ho M.cl hm F hr b .nil iG ht
end
section
variable {G:St} {H:Hp} {D:Jb} {Q:VK} {te ta tv:TE} {tA:TA} {K:d6}
theorem Agy {f:Str}(h:te G H λx H1=>∃a C dx fs v,x=.ref a/\H1 a=KH (.ins C dx fs)/\Cls K C/\Bf K C f/\fs.lookup f=KH v/\Q v H1):Abh K te f G H Q:=h
theorem xN {a:eh}{fs:List (Str×V)}{f:Str}{v:V}(h:H a=KH (.ins C dx fs))(c:Cls K C)(n:Bf K C f)(l:fs.lookup f=KH v)(q:Q v H) :
  ∃a' C' dx' fs' v',V.ref a=.ref a'/\H a'=KH (.ins C' dx' fs')/\Cls K C'/\Bf K C' f/\fs'.lookup f=KH v'/\Q v' H:=⟨a,C,dx,fs,v,rfl,h,c,n,l,q⟩
theorem Aej {f:Str}(h:tv G H λy H1=>ta G H1 λx H2=>∃a C dx fs,x=.ref a/\H2 a=KH (.ins C dx fs)/\Cls K C/\Bf K C f/\fs.9<1000/\D.nx G (upd H2 a (.ins C dx (Ga f y fs)))):Aee K ta tv f D G H:=h
theorem Dv {a:eh}{fs:List (Str×V)}{f:Str}{R:Hp->Prop}(h:H a=KH (.ins C dx fs))(c:Cls K C)(n:Bf K C f)(l:fs.9<1000)(q:R (upd H a (.ins C dx (Ga f y fs)))) :
  ∃a' C' dx' fs',V.ref a=.ref a'/\H a'=KH (.ins C' dx' fs')/\Cls K C'/\Bf K C' f/\fs'.9<1000/\R (upd H a' (.ins C' dx' (Ga f y fs'))):=⟨a,C,dx,fs,rfl,h,c,n,l,q⟩
theorem Aei {E:XK}(h:tA G H λvs H1=>∀x dx,H1 x=KI->H1 dx=KI->dx≠x->sp (.ref x::(vs++[])) (upd (upd H1 dx (.own x)) x (.ins C dx [])) (λv H2=>v=.non/\Q (.ref x) H2) E):rZ C sp [] E tA G H Q:=h
theorem Ad2 {m:Str}{E:XK}(h:ta G H λx H1=>∃a dx fs,x=.ref a/\H1 a=KH (.ins C dx fs)/\fs.lookup m=KI/\tA G H1 λvs H2=>sp (x::(vs++[])) H2 Q E):iW C m sp [] E ta tA G H Q:=h
end
section
variable {X:Cx}
def P9 (z:Str)(c:Nat):Nat:=z.cps.toList.count c
theorem Ym (c:Nat):∀l:Za4,IF c l=(l.count c:Nat)
 |[]=>rfl
 |n::r=>by
  rw[IE,Ym c r,ny]
  by_cases h:n=c
  .subst h;simp;lia
  .simp[h]
def Afr:V->List V->Hp->VK->Prop:=λx vs H Q=>∃z c,x=.str z/\vs=[.str (sgn c)]/\Q (.int (P9 z c:Nat)) H
theorem Us:MtM X "str.count" Afr:=by
 intro pins s G H x vs v us Q I rx rv h;obtain⟨z,c,rfl,rfl,q⟩:=h;obtain⟨t,rfl⟩:=rx;obtain⟨u,rfl,ru⟩:=rv.one;obtain⟨t',rfl⟩:=ru;have e:Txt.count z (sgn c)=(P9 z c:Nat):=(ID z c).trans (Ym c _);refine SC.count ?_;rw[e];exact{.int (P9 z c:Nat),H,I.tok _,{_,rfl},q}
def Agi (K:d6):List V->Hp->VK->Prop:=λxs H Q=>∃(p:eh) (ns:List Int),xs=[.ref p]/\SqL K H p (ns.map V.int)/\Q (.int ns.sum) H
theorem yF (hc:X.calm=KJ):Em X (.builtin "sum") (Agi X.K):=by
 intro pins s G H xs us Q I r h;obtain⟨p,ns,rfl,hp,q⟩:=h;obtain⟨u,rfl,ru⟩:=Fl r;cases ru;obtain⟨its,r,pl,_⟩:=I.list hp;have hi:=Ut r;obtain⟨ys,e⟩:=hi.allInts.items;have hl:=pl.isList;have hs:(numsOf its).sum=ns.sum:=by rw[hi.numsOf]
 rw[e] at hl;refine sum_intListG (I.ok.hd hc) hl λh' tk t' hk=>?_;refine{.int ns.sum,H,I.kept hk,{t',?_},q};rw[preSum_eq,fz (by simp),<-hs];have e2:=JG ys;rw[<-e] at e2;rw[show its=its.toArray.7 from rfl,e2]
end
namespace IB
open PySem.NumText PySem.Calls
def bits (cs:Za4):Prop:=∀c∈cs,c=48\/c=49
def v2 (cs:Za4):Nat:=cs.foldl (λa c=>a*2+(c-48)) 0
theorem jX {c:Nat}(ds:Array Nat)(b:Bool)(h:c=48\/c=49):step 2 (ds,b) c=KH (ds.push (c-48),KJ):=by rcases h with rfl|rfl<;>rfl
theorem Xi:∀(cs:Za4) (ds:Array Nat),bits cs->cs.foldlM (step 2) (ds,KJ)=KH (cs.foldl (λacc c=>acc.push (c-48)) ds,KJ)
 |[],ds,_=>rfl
 |c::cs,ds,h=>by
  rw[EE,jX ds KJ (h c gr)];exact Xi cs _ λd hd=>h d (gt _ hd)
theorem kN (h:bits cs)(hne:cs≠[]):digits? 2 cs=KH (cs.foldl (λacc c=>acc.push (c-48)) #[]):=by
 cases cs with
 |nil=>exact absurd rfl hne
 |cons c cs=>
  unfold digits?;rw[EE,jX #[] KL (h c gr)];show((cs.foldlM (step 2) (#[].push (c-48),KJ)).bind _)=_;rw[Xi cs _ λd hd=>h d (gt _ hd)];rfl
theorem Uy:∀(cs:Za4) (ds:Array Nat),(cs.foldl (λacc c=>acc.push (c-48)) ds).foldl (λacc d=>acc*2+d) 0=cs.foldl (λacc c=>acc*2+(c-48)) (ds.foldl (λacc d=>acc*2+d) 0)
 |[],ds=>rfl
 |c::cs,ds=>by
  rw[qj,Uy cs,qj,Array.foldl_push]
theorem Yk (h:bits cs):cs.dropWhile blank=cs:=by
 cases cs with
 |nil=>rfl
 |cons c cs=>
  rw[List.dropWhile_cons,if_neg];rcases h c gr with rfl|rfl<;>decide
theorem uI (h:bits cs):sign cs=(KL,cs):=by
 cases cs with
 |nil=>rfl
 |cons c cs=>rcases h c gr with rfl|rfl<;>rfl
theorem nN (h:bits cs):based 2 cs=(2,KL,cs):=by
 have hp:prefix? cs=KI:=by
  match cs,h with
  |[],_=>rfl
  |[c],h=>rcases h c gr with rfl|rfl<;>rfl
  |c::d::r,h=>
   rcases h c gr with rfl|rfl
   .rcases h d (gt _ gr) with rfl|rfl<;>rfl
   .rfl
 unfold based;rw[hp];rfl
theorem sK (h:bits cs)(hne:cs≠[]):(int_private% "readNumeral") 0 2 cs=(int_private% "Numeral.value") (v2 cs:Nat):=by
 refine(readNumeral_eq 0 2 cs).trans ?_;have hr:bits cs.reverse:=λc hc=>h c (p9.mp hc);rw[Yk h,uI h];dsimp only;rw[nN h];dsimp only;rw[Yk hr,si,kN h hne];have e:(cs.foldl (λacc c=>acc.push (c-48)) #[]).foldl (λacc d=>acc*2+d) 0=v2 cs:=Uy cs #[];unfold judge;dsimp only;rw[e];rfl
theorem Abn {E:Za0}{Q:Za0}{v:fj}{text:Za4}{n:Int}
    (hs : (text.takeWhile (· != 0)).9 <= 640)(hr : (int_private% "readNumeral") 0 2 (text.takeWhile (· != 0)) = (int_private% "Numeral.value") n)
    (ha : ((text.takeWhile (· != 0)).9 == text.9) = KJ)(h : Q (.int n s.toks) { s with toks := s.toks + 1 }) :
    wpAny M A ((int_private% "intFromText") v text 2) Q E s := by
  obtain ⟨hp, g, d, tk, os⟩ := s
  repeat (any_goals (first
    | assumption
    | (with_reducible refine xr (decide_eq_true hs) ?_)
    | (with_reducible refine xr (decide_eq_true ha) ?_)
    | wp_step))
  all_goals (try rw [hr])
  all_goals (try dsimp only)
  repeat (any_goals (first
    | assumption
    | (with_reducible refine xr (decide_eq_true hs) ?_)
    | (with_reducible refine xr (decide_eq_true ha) ?_)
    | wp_step))
theorem typeCall_int_2 (a b:fj):checkTypeCall "int" {[a,b],[]}=pure .unit:=by kernel_rfl
theorem newCall_int_2 (a b:fj):checkBuiltinCall "int.__new__" {[.type "int",a,b],[]}=pure .unit:=by kernel_rfl
structure Hid (p:Prop):Prop where
 out:p
theorem Z0 {x:Str}(h:bits x.cps.7):(if x.cps.all (· < 128) then x.cps.7 else Unicode.numberText x.cps.7)=x.cps.7:=by
 rw[if_pos];rw[Array.all_eq_true'];intro c hc;have:=h c (by simpa using hc);rcases this with rfl|rfl<;>decide
theorem Ju (h:bits cs):cs.takeWhile (· != 0)=cs:=takeWhile_all λc hc=>by rcases h c hc with rfl|rfl<;>decide
set_option maxHeartbeats 4000000 in
theorem gives_bits {x:Str}{u v:Tok}(hl:x.9<=640)(hb:bits x.cps.7)(hne:x.cps.7≠[]):Gives (qk.«int.__new__» {[.type "int",.str x u,.int 2 v],[]}) (.int (v2 x.cps.7:Nat)) :=
  .of_wp λM A E s Q h => by
    obtain ⟨hp, g, d, tk, os⟩ := s;have f1 := F.conv_sub_int;have f2 := F.madeHere_int;have f6 : typeOf (.str x u) = pure (.type "str") := rfl;have hs : ((x.cps.7).takeWhile (· != 0)).9 <= 640 := by rw [Ju hb]; simpa [vm] using hl
    have hr := sK hb hne;rw [<- Ju hb] at hr;rw [Ju hb] at hr;have hr : (int_private% "readNumeral") 0 2 ((x.cps.7).takeWhile (· != 0)) = (int_private% "Numeral.value") (v2 x.cps.7 : Nat) := by rw [Ju hb]; exact hr
    have ha : (((x.cps.7).takeWhile (· != 0)).9 == (x.cps.7).9) = KJ := by rw [Ju hb]; simp
    have ht := Z0 hb;have hk := Hid.mk (EU hs (EU hr (EU ha ht)));clear hs hr hl ha ht hne
    repeat (any_goals (first
      | assumption
      | ((with_reducible show wpAny _ _ ((int_private% "intFromText") _ _ _) _ _ _); rw [hk.out.2.2.2]; refine Abn hk.out.1 hk.out.2.1 hk.out.2.2.1 ?_)
      | wp_step))
    all_goals first | exact {_, rfl, h} | skip
end IB
section
variable {X:Cx}
def Agt:List V->Hp->VK->Prop:=λxs H Q=>∃z,xs=[.str z,.int 2]/\z.9<=640/\IB.bits z.cps.7/\z.cps.7≠[]/\Q (.int (IB.v2 z.cps.7:Nat)) H
theorem X6:Em X (.type "int") Agt:=by
 intro pins s G H xs us Q I r h;obtain⟨z,rfl,hl,hb,hne,q⟩:=h;obtain⟨u,w',rfl,ru,rw'⟩:=Ng r;obtain⟨t,rfl⟩:=ru;obtain⟨t',rfl⟩:=rw';exact callType_new F.called_int F.newNe_int (IB.typeCall_int_2 _ _) (IB.newCall_int_2 _ _) (λobj=>F.args_object_init_3 obj _ _) F.entry_int_new (IB.gives_bits hl hb hne).meets (show(Made.int _).post _ s from{rfl,.int (IB.v2 z.cps.7:Nat),H,I.tok _,{_,rfl},q})
end
theorem mI (n:Nat):lp KI KI (-1) n=(fb n).map λk=>n-1-k:=by
 unfold lp;dsimp only;rw[if_neg (by decide),if_neg (by decide)];unfold sliceRange;dsimp only;rw[if_neg (by decide)];have e:(if((n:Int)-1 > -1) then((n:Int)-1 - -1 - -1-1)/(- -1) else 0).toNat=n:=by
  split
  .simp
  .lia
 rw[e];refine jd λk hk=>?_;have:=jo.mp hk;lia
theorem Yn (l:Za4):∀n,n<=l.9->((fb n).map λk=>n-1-k).filterMap (l[·]?)=(l.take n).reverse
 |0,_=>by simp
 |n+1,h=>by
  have hl:n<l.9:=h;rw[mz,iu,jg,lg];have e:((λk=>n+1-1-k) ∘ zx)=λk=>n-1-k:=by
   funext k
   show n+1-1-(k+1)=n-1-k;lia
  rw[e,show n+1-1-0=n by lia,d4 hl];dsimp only;rw[Yn l n (),i5,d4 hl,BQ,qd];rfl
section
variable {X:Cx} {e:ja} {te:TE} {p1 p2 p3 pos:Pos} {j:Nat}
theorem Kz (z:Str):(Xu z).9=z.9:=by
 show z.cps.toList.reverse.toArray.8=z.cps.8;simp
theorem Aa7 {x1}(he:PE X e te):PE X (.Subscript e (.Slice KI KI (KH (.UnaryOp .USub (.Constant (.int 1) x1 p1) p2)) p3) pos) (Aij te):=by
 k_in;refine Subscript_ (thE he I h λv s1 x H1 I1 r1 q1=>?_);obtain⟨z,rfl,hz,q⟩:=q1;obtain⟨t,rfl⟩:=r1;refine zz ?_;rw[vh];refine fq (fq ?_);rw[evalPart_some];have hm:PE X (.UnaryOp .USub (.Constant (.int 1) x1 p1) p2) (tUn (rU λi=>.int (-i)) (tC (.int 1))):=Fz C8 Ae;refine thn (hm pins s1 G H1 (λy H2=>y=.int (-1)/\H2=H1) I1 {1,rfl,rfl,rfl}) λw s2 h_=>cpZ λX_ k_=>?_;obtain⟨y,H2,I2,r2,e2,e3⟩:=h_;refine k_ ?_;subst e2 e3;obtain⟨t2,rfl⟩:=r2;have I4:Inv X pins G H2 { s2 with heap:=s2.heap.push { cls:=.type "slice",data:=.fields #[.none,.none,.int (-1) t2] } }:=I2.kept (t':=s2.toks) λb ob q=>en _ q;have hs:(s2.heap.push { cls:=.type "slice",data:=.fields #[.none,.none,.int (-1) t2] }).IsSlice s2.heap.objs.8 KI KI (KH (-1,t2)):={_,gp _ rfl,rfl,rfl};refine y9 (ops:=[.ref s2.heap.objs.8,.str z t]) (AZ _ _ _) zd.lookup ?_ (by with_unfolding_all rfl);refine CU hs rfl ?_;have em:sliceMade z t KI KI (KH (-1,t2))=.str (Xu z):=by
  unfold sliceMade;rw[if_neg (by simp)];show Made.str {((lp KI KI (-1) z.9).filterMap (z.cps[·]?)).6}=_;rw[mI];have:=Yn z.cps.7 z.cps.toList.9 (d8 _);have e1:z.cps.toList.9=z.9:=by simp[vm]
  rw[e1] at this;have e2:(λi:Nat=>z.cps[i]?)=λi:Nat=>z.cps.7[i]?:=by funext i;simp
  rw[e2,this,fz (by simp[vm])];rfl
 rw[em];refine{?_,.str (Xu z),H2,I4.tok _,{_,rfl},q};show(Xu z).9<=_;rw[Kz];exact hz
end
theorem Aid {G:St}{Q:VK}(h:te G H λx H1=>∃z,x=.str z/\z.9<=sizeLine/\Q (.str (Xu z)) H1):Aij te G H Q:=h
inductive Dq (K:d6) (H:Hp):Nat->V->V->Prop where
 |flat {n:Nat} {x:V} (h:Ex x=KJ):Dq K H n x x
 |tup {n:Nat} {a b:eh} {xs ys:List V} (h1:SqT K H a xs) (h2:SqT K H b ys) (hl:xs.9=ys.9) (h:∀(j:Nat) (x y:V),xs[j]?=KH x->ys[j]?=KH y->Dq K H n x y):Dq K H (n+1) (.ref a) (.ref b)
 |lst {n:Nat} {a b:eh} {xs ys:List V} (h1:SqL K H a xs) (h2:SqL K H b ys) (hl:xs.9=ys.9) (h:∀(j:Nat) (x y:V),xs[j]?=KH x->ys[j]?=KH y->Dq K H n x y):Dq K H (n+1) (.ref a) (.ref b)
theorem Dq.flats {K:d6}(h:xs.all Ex=KJ):∀(j:Nat) (x y:V),xs[j]?=KH x->xs[j]?=KH y->Dq K H n x y:=λj x y h1 h2=>by
 rw[h1] at h2;cases h2;exact .flat (lx.mp h x (f8 h1))
theorem Dq.tups {K:d6}{a b:eh}(h1:SqT K H a xs)(h2:SqT K H b xs)(h:xs.all Ex=KJ):Dq K H (n+1) (.ref a) (.ref b):=.tup h1 h2 rfl (Dq.flats h)
theorem Fj (ns:List Int):(ns.map V.int).all Ex=KJ:=by simp[lx,Ex]
theorem eqV_self{x:V}(h:Ex x=true):eqV x x=true:=by cases x<;>first|rfl|(simp [eqV];done)|cases h
theorem all_true{n:Nat}{e:Nat->Bool}(h:∀j,e j=true):(List.range n).all e=true:=by simp [h]
section
variable {X:Cx} {pins:Za1} {G:St} {H:Hp} {s:ft}
theorem Dq.itemsI (I:Inv X pins G H s)(ih:∀{x y:V} {A:i9} {u v:fj},A.units+n<cLine->Dq X.K H n x y->A8 x u->A8 y v->rl A s u v KJ)(hu:A.units+n<cLine)(h:∀(j:Nat) (x y:V),xs[j]?=KH x->ys[j]?=KH y->Dq X.K H n x y)(r1:Ax xs us)(r2:Ax ys vs)(j:Nat)(h1:j<us.9)(h2:j<vs.9) :
  rl A s us[j] vs[j] KJ:=by
 have l1:=r1.9;have l2:=r2.9;obtain⟨x,ex⟩:∃x,xs[j]?=KH x:={_,d4 ()};obtain⟨y,ey⟩:∃y,ys[j]?=KH y:={_,d4 ()};obtain⟨u,eu,ru⟩:=r1.get ex;obtain⟨v,ev,rv⟩:=r2.get ey;rw[d4 h1] at eu;rw[d4 h2] at ev;cases eu;cases ev;exact ih hu (h j x y ex ey) ru rv
theorem Dq.flatAt {x:V}{u v:fj}(h:Ex x=KJ)(ru:A8 x u)(rv:A8 x v):rl A s u v KJ:=by
 have:=lV (A:=A) (s:=s) ru rv h h;rw[eqV_self h] at this;exact this
theorem Dq.eqAt (I:Inv X pins G H s)(n:Nat):∀{x y:V} {A:i9} {u v:fj},A.units+n<cLine->Dq X.K H n x y->A8 x u->A8 y v->rl A s u v KJ:=by
 induction n with
 |zero=>
  intro x y A u v hu d ru rv
  cases d with
  |flat h=>exact Dq.flatAt h ru rv
 |succ n ih=>
  intro x y A u v hu d ru rv
  cases d with
  |flat h=>exact Dq.flatAt h ru rv
  | @tup _ a b xs ys h1 h2 hl h=>
   cases ru;cases rv
   by_cases hab:a=b
   .subst hab;exact xk _
   refine z4 hab ?_;obtain⟨is,r1,p1,_⟩:=I.tuple h1;obtain⟨js,r2,p2,_⟩:=I.tuple h2;have l1:=r1.9;have l2:=r2.9;have hm:A.units+1+n<cLine:=()
   have:=JJ (A:=A) (e:=λ_=>KJ) p1 p2 () λj a1 a2=>Dq.itemsI I ih hm h r1 r2 j (by simpa using a1) (by simpa using a2);rw[all_true λ_=>rfl] at this
   simpa [<-l1,<-l2,hl] using this
  | @lst _ a b xs ys h1 h2 hl h=>
   cases ru;cases rv
   by_cases hab:a=b
   .subst hab;exact xk _
   refine z4 hab ?_;obtain⟨is,r1,p1,_⟩:=I.list h1;obtain⟨js,r2,p2,_⟩:=I.list h2;have l1:=r1.9;have l2:=r2.9;have hm:A.units+1+n<cLine:=()
   have:=AN (A:=A) (e:=λ_=>KJ) p1.isList p2.isList (by simp;lia) () λj a1 a2=>Dq.itemsI I ih hm h r1 r2 j (by simpa using a1) (by simpa using a2);rw[all_true λ_=>rfl] at this;exact this
theorem Dq.items (I:Inv X pins G H s){n:Nat}{A:i9}{xs ys:List V}{us vs:Za3}(hu:A.units+n<cLine)(h:∀(j:Nat) (x y:V),xs[j]?=KH x->ys[j]?=KH y->Dq X.K H n x y)(r1:Ax xs us)(r2:Ax ys vs)(j:Nat)(h1:j<us.9)(h2:j<vs.9) :
  rl A s us[j] vs[j] KJ:=Dq.itemsI I (Dq.eqAt I n) hu h r1 r2 j h1 h2
end
theorem Agk {k:Nat}(hr:Co k A):A.units+60<cLine:=by have:=hr.units;lia
def eqL (xs ys:List V):Bool:=decide (xs.9=ys.9)&&(fb xs.9).all λj=>eqV (xs.getD j .non) (ys.getD j .non)
def Ab9 (K:d6)(n:Bool):R2:=λx y H Q=>∃a b xs ys,x=.ref a/\y=.ref b/\SqL K H a xs/\SqL K H b ys/\xs.all Ex=KJ/\ys.all Ex=KJ/\Q (.bl (n != eqL xs ys)) H
section
variable {X:Cx} {pins:Za1} {G:St} {H:Hp} {s:ft}
theorem Yt (f1:xs.all Ex=KJ)(f2:ys.all Ex=KJ)(r1:Ax xs us)(r2:Ax ys vs)(j:Nat)(h1:j<us.9)(h2:j<vs.9) :
  rl A s us[j] vs[j] (eqV (xs.getD j .non) (ys.getD j .non)):=by
 have l1:=r1.9;have l2:=r2.9;have e1:xs[j]?=KH (xs[j]'()):=d4 _;have e2:ys[j]?=KH (ys[j]'()):=d4 _;obtain⟨u,eu,ru⟩:=r1.get e1;obtain⟨v,ev,rv⟩:=r2.get e2;rw[d4 h1] at eu;rw[d4 h2] at ev;cases eu;cases ev;simp only[ju,e1,e2,rj];exact lV ru rv (lx.mp f1 _ (f8 e1)) (lx.mp f2 _ (f8 e2))
end
section
variable {X:Cx}
theorem Ae8 (hu:X.A.units+60<cLine):OpR X (compareOp .Eq) (Ab9 X.K KL):=by
 intro pins s G H x y v u Q I rx ry h;obtain⟨a,b,xs,ys,rfl,rfl,h1,h2,f1,f2,q⟩:=h;cases rx;cases ry;obtain⟨is,r1,p1,_⟩:=I.list h1;obtain⟨js,r2,p2,_⟩:=I.list h2;have l1:=r1.9;have l2:=r2.9
 by_cases hl:xs.9=ys.9
 .have:=AN (A:=X.A) (e:=λj=>eqV (xs.getD j .non) (ys.getD j .non)) p1.isList p2.isList (by simp;lia) () λj a1 a2=>Yt (s:=s) f1 f2 r1 r2 j (by simpa using a1) (by simpa using a2)
  refine this _ _ _ _ {.bl (KL != eqL xs ys),H,I,?_,q};unfold eqL;rw[decide_eq_true hl];simp[A8,<-l1]
 .have:=JK (A:=X.A) p1.isList p2.isList (by simp;lia) ()
  refine this _ _ _ _ {.bl (KL != eqL xs ys),H,I,?_,q};unfold eqL;rw[decide_eq_false hl];simp[A8]
theorem Afm (hu:X.A.units+60<cLine):OpR X (compareOp .NotEq) (Ab9 X.K KJ):=by
 intro pins s G H x y v u Q I rx ry h;obtain⟨a,b,xs,ys,rfl,rfl,h1,h2,f1,f2,q⟩:=h;cases rx;cases ry;obtain⟨is,r1,p1,_⟩:=I.list h1;obtain⟨js,r2,p2,_⟩:=I.list h2;have l1:=r1.9;have l2:=r2.9
 by_cases hl:xs.9=ys.9
 .have:=HH (A:=X.A) (e:=λj=>eqV (xs.getD j .non) (ys.getD j .non)) p1.isList p2.isList (by simp;lia) () λj a1 a2=>Yt (s:=s) f1 f2 r1 r2 j (by simpa using a1) (by simpa using a2)
  refine this _ _ _ _ {.bl (KJ != eqL xs ys),H,I,?_,q};unfold eqL;rw[decide_eq_true hl];simp[A8,<-l1]
 .have:=HG (A:=X.A) p1.isList p2.isList (by simp;lia) ()
  refine this _ _ _ _ {.bl (KJ != eqL xs ys),H,I,?_,q};unfold eqL;rw[decide_eq_false hl];simp[A8]
end
theorem jT (ns ms:List Int):eqL (ns.map V.int) (ms.map V.int)=decide (ns=ms):=by
 unfold eqL;rw[d7,d7]
 by_cases hl:ns.9=ms.9
 .rw[decide_eq_true hl,AD]
  by_cases h:ns=ms
  .subst h
   rw[decide_eq_true rfl,lx];intro j hj;have hj:j<ns.9:=jo.mp hj;simp[ju,hj,eqV]
  .rw[decide_eq_false h]
   refine DQ.mpr λhc=>h (EF hl λj h1 h2=>?_);have:=lx.mp hc j (jo.mpr h1);simp[ju,h1,h2,eqV] at this;exact this
 .rw[decide_eq_false hl,wk,decide_eq_false]
  intro e;exact hl (by rw[e])
theorem Ahm {K:d6}{Q:VK}{a b:eh}{ms:List Int}(h1:SqL K H a (ns.map V.int))(h2:SqL K H b (ms.map V.int))(q:Q (.bl (decide (ns=ms))) H):Ab9 K KL (.ref a) (.ref b) H Q:=by
 refine{a,b,_,_,rfl,rfl,h1,h2,Fj _,Fj _,?_};rw[jT];cases hd:decide (ns=ms)<;>(rw[hd] at q;exact q)
theorem Aib {K:d6}{Q:VK}{a b:eh}{ms:List Int}(h1:SqL K H a (ns.map V.int))(h2:SqL K H b (ms.map V.int))(q:Q (.bl (!decide (ns=ms))) H):Ab9 K KJ (.ref a) (.ref b) H Q:=by
 refine{a,b,_,_,rfl,rfl,h1,h2,Fj _,Fj _,?_};rw[jT];cases hd:decide (ns=ms)<;>(rw[hd] at q;exact q)
section
variable {X:Cx} {tg:ja}
def Ae0:V->List V->Hp->VK->Prop:=λx vs H Q=>∃(l:eh) (ns:List Int) (k:Int) (j:Nat),x=.ref l/\vs=[.int k]/\H l=KH (.lst (ns.map V.int))/\ns[j]?=KH k/\(∀i:Nat,i<j->ns[i]?≠KH k)/\Q (.int (j:Nat)) H
theorem kL:MtM X "list.index" Ae0:=by
 intro pins s G H x vs v us Q I rx rv h;obtain⟨l,ns,k,j,rfl,rfl,hH,hj,hno,q⟩:=h;cases rx;obtain⟨u,rfl,t,rfl⟩:=Fl rv;obtain⟨z,its,n,r,hl,e⟩:=I.lstM hH;have fl:=Fj ns;have hjl:=(fc.mp hj).1;have hln:ns.9=its.9:=by rw[<-hl,d7]
 have at':∀i (hi:i<its.9),eqU (.int k) its[i]=decide (ns[i]?=KH k):=λi hi=>by
  have e1:(ns.map V.int)[i]?=KH (.int (ns[i]'())):=by rw[d9,d4 ()];rfl
  obtain⟨u,eu,ru⟩:=r.get e1;rw[d4 hi] at eu;cases eu;rw[gM ru rfl,d4 ()];show(ns[i]==k)=decide (KH ns[i]=KH k)
  by_cases h:ns[i]=k
  .rw[decide_eq_true (congrArg KH h)]
   simpa using h
  .rw[decide_eq_false λz=>h (ee z)]
   simpa using h
 have sl:=Ls;refine sw F.slot_list_index {_,e,rfl} F.entry_list_index (F.args_list_index_2 _ _)
  (SeqAt.list_indexAt l its.6 n KI #[] (.int k t) (eqU (.int k)) j (by simp;lia) (by rw[d7] at z;lia) ?_ ?_) {e,λy hy=>L3 (x:=.int k) (v:=.int k t) ⟨t,rfl⟩ rfl r fl y (by simpa using hy),?_}
 .show eqU (.int k) its[j]=KJ
  rw[at' j (),decide_eq_true hj]
 .intro i hi hlt
  show eqU (.int k) its[i]=KL;rw[at' i (by simpa using hi),decide_eq_false (hno i hlt)]
 .exact{.int j,H,I.tok _,{_,rfl},q}
end
section
variable {prog:gl} {w:ip} {A:i9} {E:Za0} {s:ft}
theorem Na {t sl:eh}{items:Array fj}{vl vu:fj}{lo hi:Option Int}{Q:Za0}(ht:IsTup s.5 t items)(hs:s.heap.IsSliceOf sl vl vu .none)(pl:xy vl lo)(pu:xy vu hi)
  (h1:_T.sIx items.8 0 lo=0)(h2:_T.sIx items.8 items.8 hi=items.8)(h:Q (.ref t) s):wpAny (model prog w) A (getItem (.ref t) (.ref sl)) Q E s:=by
 obtain⟨os,hos,hcs,hds⟩:=id hs;have hTs:s.TypeIs (.ref sl) "slice":=⟨os,hos,hcs⟩;unfold getItem
 try with_reducible refine wpAny_holding ?_
 first|refine wpAny_bind (fq ?_)|skip
 refine wpAny_bind (FV ht.typeIs (by decide) ?_);refine wpAny_bind (rh (name:=ox "__getitem__") ht.typeIs ka
  (sv ka ht.typeIs entry_tuple_getitem ?_ (FM _ _)))
 show wpAny _ _ (xh (.ref t) >>= _) _ _ s;refine wpAny_bind (JE ht ?_);refine wpAny_bind (qi hTs ?_);rw[if_pos (by decide)];refine wpAny_bind (_T.sliceApplied_gen hs pl pu ?_);show wpAny _ _ (if(((_T.sIx items.8 0 lo:Nat):Int)==0&&(1:Int)==1&&(_T.sIx items.8 items.8 hi-_T.sIx items.8 0 lo)==items.8)=KJ then _ else _) _ _ s;rw[if_pos (by rw[h1,h2];simp)];refine wpAny_bind (wpAny_bind (qi ht.typeIs (fq ?_)));rw[if_pos (by decide)];refine wpAny_bind (ur ?_);exact wpAny_bind (fq (fq {_,rfl,fq h}))
end
section
variable {X:Cx}
def Ag2 (K:d6):V->Option Int->Option Int->Hp->VK->Prop:=λx lo hi H Q=>∃a xs,x=.ref a/\SqT K H a xs/\∀p H',Ag H H'->SqT K H' p (Ha xs lo hi)->Q (.ref p) H'
theorem fY:SlR X (Ag2 X.K):=by
 intro pins s G H x v vl vu lo hi sl Q I rx hs pl pu h;obtain⟨a,xs,rfl,hx,q⟩:=h
 by_cases hw:_T.sIx xs.9 0 lo=0/\_T.sIx xs.9 xs.9 hi=xs.9
 .cases rx
  obtain⟨its,r,ht,hz⟩:=I.tuple hx;have hlen:its.toArray.8=xs.9:=by rw[ge];exact r.length.symm
  refine{"tuple",_,ka.lookup,ht.typeIs,?_};refine Na ht hs pl pu (by rw[hlen];exact hw.1) (by rw[hlen];exact hw.2) {.ref a,H,I,rfl,q a H (Ag.refl _) ?_};have:Ha xs lo hi=xs:=by
   unfold Ha;rw[hw.1,hw.2];simp
  rw[this];exact hx
 .exact Aeo pins s G H _ v vl vu lo hi sl Q I rx hs pl pu {a,xs,rfl,hx,hw,λp hp=>q p _ (An hp) (SqT.of Af)}
theorem A5 {x:Str}{i:Int}(hg:Gl X x)(hm:∃t,X.mg x=KH (.int i t))(hd:autoParam ((x==("__debug__":Str))=KL) QF):PE X (.Name x pos) (tC (.int i)):=by
 obtain⟨t,h⟩:=hm;exact Pr hg h ⟨t,rfl⟩ hd
end
section
variable {G:St} {H:Hp} {D:Jb} {Q:VK} {te:TE} {QB:Bool->Hp->Prop} {tA:TA}
theorem Ahl {K:d6}{T:String}{r:V->List V->Hp->VK->Prop}(h:te G H λx H1=>tyV K T x H1/\r x [] H1 Q):Ahs K T r te G H Q:=h
theorem Ug {lo hi:Option Int}(h1:z.9<=sizeLine)(h:Q (.str (Kv z lo hi)) H):Ahb (.str z) lo hi H Q:=⟨z,rfl,h1,h⟩
end
theorem Ah2 {A B:Prop}(h:B):if(!KJ)=KJ then A else B:=by
 rw[if_neg (by decide)];exact h
theorem Aii {A B:Prop}(h:A):if(!KL)=KJ then A else B:=by
 rw[if_pos (by decide)];exact h
def SameBut (x:eh)(H H':Hp):Prop:=∀b o,b≠x->H b=KH o->H' b=KH o
theorem Ag.but {x:eh}(h:Ag H H'):SameBut x H H':=λb o _ e=>h b o e
theorem SameBut.trans {x:eh}(a:SameBut x H H1)(b:SameBut x H1 H2):SameBut x H H2:=λc o n h=>b c o n (a c o n h)
def xV (H:Hp)(x:eh):Prop:=∀u,¬ Rd H x (.tup u)/\¬ Rd H x (.lst u)
theorem Fn {x:eh}{fs:List (Str×V)}(h:H x=KH (.ins C dx fs)):xV H x:=λu=>by
 constructor<;>(rintro(e|⟨o,e⟩)<;>(rw[h] at e;cases e))
theorem Bb {x:eh}{o:HO}:SameBut x H (upd H x o):=λb u n e=>by rw[Al n];exact e
theorem vD {tc:TT}{Q:VK}(n:Nat)(item:Nat->V)(Pv:Nat->List V->Hp->Prop)(h0:∀H,Ag H1 H->Pv 0 [] H)
  (stab:∀i ys H D xs o,H D=KH (.lst xs)->Pv i ys H->Pv i ys (upd H D o))(hz:∀i ys H,i<n->Pv i ys H->ys.9<sizeLine)
  (hgo:∀i H,i<n->Ag H1 H->J.go i H)(hy:∀i H x H',i<n->Ag H1 H->J.yld i H x H'->x=item i/\H'=H)(hst:∀H,Ag H1 H->J.stop n H)
  (turn:∀i ys H (A:VK) (R:Hp->Prop),i<n->Ag H1 H->Pv i ys H->(∀y H',Ag H H'->Pv (i+1) (ys++[y]) H'->A y H')->tc (KH (item i)::fr) H λb H3=>if b=KJ then te (KH (item i)::fr) H3 A else R H3)
  (fin:∀D ys H,H1 D=KI->Ag H1 H->Pv n ys H->H D=KH (.lst ys)->Q (.ref D) H):Lb J H1 fr tc te Q:=by
 intro D hD;refine{λi m H=>i<=n/\m=n-i/\Ag H1 H/\∃ys,H D=KH (.lst ys)/\Pv i ys H,{n,gn _,rfl,An hD,[],Af,h0 _ (An hD)},?_};rintro i m H ⟨hi,rfl,sm,ys,hl,hp⟩
 by_cases h:i=n
 .subst h
  exact .inl {hst H sm,fin D ys H hD sm hp hl}
 .have hlt:i<n:=kr hi h
  refine .inr {hgo i H hlt sm,λx H' hyl=>?_};obtain⟨rfl,rfl⟩:=hy i H x H' hlt sm hyl;refine turn i ys H' _ _ hlt sm hp (λy H4 s4 hp4=>?_);refine{ys,s4 _ _ hl,hz i ys _ hlt hp,n-(i+1),(),(),rfl,λb u e=>?_,ys++[y],Af,stab _ _ _ _ _ _ (s4 _ _ hl) hp4};rw[Al (Aj e hD)];exact s4 _ _ (sm _ _ e)
theorem uR {lo st:Int}{tc:TT}{Q:VK}(Pv:Nat->List V->Hp->Prop)(h0:∀H,Ag H1 H->Pv 0 [] H)
  (stab:∀i ys H D xs o,H D=KH (.lst xs)->Pv i ys H->Pv i ys (upd H D o))(hz:∀i ys H,i<n->Pv i ys H->ys.9<sizeLine)
  (turn:∀(i:Nat) ys H (A:VK) (R:Hp->Prop),i<n->Ag H1 H->Pv i ys H->(∀y H',Ag H H'->Pv (i+1) (ys++[y]) H'->A y H')->tc (KH (.int (lo+i*st))::fr) H λb H3=>if b=KJ then te (KH (.int (lo+i*st))::fr) H3 A else R H3)
  (fin:∀D ys H,H1 D=KI->Ag H1 H->Pv n ys H->H D=KH (.lst ys)->Q (.ref D) H):Lb (wT lo st n) H1 fr tc te Q:=
 vD n (λi=>.int (lo+i*st)) Pv h0 stab hz (λi H hi _=>hi) (λi H x H' _ _ h=>⟨h.2,h.1⟩) (λH _=>d8 n) turn fin
theorem Aa1 {s0:ft}{x:Str}{N2:Za6}{px:Pos}{elt iter:ja}{ifs:List ja}{tc:TT} 
  (hc:X.calm=KJ)(L:∀QQ,A6 N QQ scope x N2 ix)(hi:PI (Dy X sc N C s0 H0 fp) (.Name x px) iter wi)
  (hif:∀C' s' H' fp',PIf (Dy (Dy X sc N C s0 H0 fp) scope N2 C' s' H' fp') ifs tc)(he:∀C' s' H' fp',PE (Dy (Dy X sc N C s0 H0 fp) scope N2 C' s' H' fp') elt te)
  (hs:autoParam (∀z,foldedSetIterable iter (Dy X sc N C s0 H0 fp).env z=pure z) QJ):PE (Dy X sc N C s0 H0 fp) (.ListComp elt [{.Name x px,iter,ifs,0}] scope pos) (tLc wi ix tc te):=
 L5 (X:=Dy X sc N C s0 H0 fp) hc (L _) hi hif he hs
theorem Ab8 (K:d6){l:ja}{tl:TE}(hl:PE X l tl)(h:autoParam (X.K=K) QD):PI X tg l (Ae9 K tl):=by
 subst h;exact mP hl
theorem sI (K:d6)(hc:X.calm=KJ)(h:autoParam (X.K=K) QD):Em X (.builtin "sum") (Agi K):=by
 subst h;exact yF hc
theorem vA (K:d6)(h:autoParam (X.K=K) QD):SlR X (Ag2 K):=by
 subst h;exact fY
theorem Aih:bootBuiltins "abs"=KH (.builtin "abs"):=by decide +kernel
def Mj (ns:List Int)(m:Int):Prop:=m∈ns/\∀a∈ns,m<=a
def nU (ns:List Int)(m:Int):Prop:=m∈ns/\∀a∈ns,a<=m
section
variable {X:Cx}
def Acx (K:d6):List V->Hp->VK->Prop:=λxs H Q=>∃(p:eh) (ns:List Int),xs=[.ref p]/\SqL K H p (ns.map V.int)/\ns≠[]/\∀m,Mj ns m->Q (.int m) H
def Adx (K:d6):List V->Hp->VK->Prop:=λxs H Q=>∃(p:eh) (ns:List Int),xs=[.ref p]/\SqL K H p (ns.map V.int)/\ns≠[]/\∀m,nU ns m->Q (.int m) H
theorem Ta {G:St}{p:eh}(I:Inv X pins G H s)(hp:SqL X.K H p (ns.map V.int)):∃ys:Array (Int×Tok),s.heap.IsList p (intItems ys)/\ns=ys.toList.map (·.1):=by
 obtain⟨its,r,pl,_⟩:=I.list hp;have hi:=Ut r;obtain⟨ys,e⟩:=hi.allInts.items;have hl:=pl.isList;rw[e] at hl;exact{ys,hl,by rw[<-hi.numsOf,<-JG,<-e]}
theorem zM {ys:Array (Int×Tok)}{v:fj}(hz:0<ys.8)(hv:(intItems ys)[argBest (λi j=>decide (numAt ys i<numAt ys j)) (ys.8-1)]?=KH v):∃m t,v=.int m t/\Mj (ys.toList.map (·.1)) m:=by
 obtain⟨t,rfl⟩:=intItems_at hv;obtain⟨h1,h2⟩:=argBest_lt (numAt ys) (ys.8-1);refine{_,t,rfl,?_,λa ha=>?_}
 .rw[EO]
  exact getD_mem (by rw[d7,gh];lia)
 .obtain⟨j,hj,rfl⟩:=mem_getD ha
  rw[d7,gh] at hj;rw[<-EO];exact h2 j ()
theorem Aa0 {ys:Array (Int×Tok)}{v:fj}(hz:0<ys.8)(hv:(intItems ys)[argBest (λi j=>decide (numAt ys i>numAt ys j)) (ys.8-1)]?=KH v):∃m t,v=.int m t/\nU (ys.toList.map (·.1)) m:=by
 obtain⟨t,rfl⟩:=intItems_at hv;obtain⟨h1,h2⟩:=argBest_gt (numAt ys) (ys.8-1);refine{_,t,rfl,?_,λa ha=>?_}
 .rw[EO]
  exact getD_mem (by rw[d7,gh];lia)
 .obtain⟨j,hj,rfl⟩:=mem_getD ha
  rw[d7,gh] at hj;rw[<-EO];exact h2 j ()
theorem U1 {ys:Array (Int×Tok)}(e:ns=ys.toList.map (·.1))(h:ns≠[]):0<ys.8:=by
 rcases qq ys.8 with z|z
 .exfalso
  apply h;rw[e,List.eq_nil_of_length_eq_zero (l:=ys.7) (by rw[gh];exact z)];rfl
 .exact z
theorem Py (hc:X.calm=KJ):Em X (.builtin "min") (Acx X.K):=by
 intro pins s G H xs us Q I r h;obtain⟨p,ns,rfl,hp,hne,q⟩:=h;obtain⟨u,rfl,ru⟩:=Fl r;cases ru;obtain⟨ys,hl,e⟩:=Ta I hp;have hz:=U1 e hne;refine min_intList (I.ok.hd hc) hl hz λv h' tk hv hk=>?_;obtain⟨m,t,rfl,hm⟩:=zM hz hv;exact{.int m,H,I.kept hk,⟨t,rfl⟩,q m (e▸hm)}
theorem sH (hc:X.calm=KJ):Em X (.builtin "max") (Adx X.K):=by
 intro pins s G H xs us Q I r h;obtain⟨p,ns,rfl,hp,hne,q⟩:=h;obtain⟨u,rfl,ru⟩:=Fl r;cases ru;obtain⟨ys,hl,e⟩:=Ta I hp;have hz:=U1 e hne;refine max_intList (I.ok.hd hc) hl hz λv h' tk hv hk=>?_;obtain⟨m,t,rfl,hm⟩:=Aa0 hz hv;exact{.int m,H,I.kept hk,⟨t,rfl⟩,q m (e▸hm)}
end
theorem qN {g:TG}{tb:TS}{G:St}(Pv:Nat->St->Hp->Prop)(h0:Pv 0 G H)
  (hs:∀(i c:Nat) G H,z.cps[i]?=KH c->Pv i G H->g (.str (sgn c)) G H λQS H2=>tb { D with nx:=Pv (i+1),ct:=Pv (i+1),bk:=D.nx } QS H2)(hd:∀G H,Pv z.cps.8 G H->D.nx G H):uN (Its z) g tb D G H:=by
 refine{λi m G H=>i<=z.cps.8/\m=z.cps.8-i/\Pv i G H,{_,gn _,rfl,h0},?_};rintro i m G H ⟨hi,rfl,hP⟩
 by_cases h:i=z.cps.8
 .subst h
  exact .inl {d8 _,hd G H hP}
 .have hlt:i<z.cps.8:=kr hi h
  refine .inr {hlt,Pv (i+1),λQM H' hN=>{z.cps.8-(i+1),(),hlt,rfl,hN},λx H' hy=>?_};obtain⟨rfl,c,hc,rfl⟩:=hy;exact hs i c G _ hc hP
end _L
end
section
namespace _W
def val:Za5->Nat
 |[]=>0
 |b::r=>b.toNat+2*val r
def plc:Nat->Za5->Za4
 |_,[]=>[]
 |k,b::r=>if b then k::plc (k+1) r else plc (k+1) r
theorem Aaa:∀l:Za5,val l<2 ^ l.9
 |[]=>by simp[val]
 |b::r=>by
  have:=Aaa r;simp only[val,gm,vo];have hb:b.toNat<=1:=xj b;lia
theorem jB (b:Bool):∀(l:Za5) (k:Nat),plc k (l++[b])=plc k l++(if b then[k+l.9] else[])
 |[],k=>by cases b<;>simp[plc]
 |a::r,k=>by
  cases a<;>simp[plc,jB b r,l9,tx 1]
theorem Lq:∀(l:Za5) (k:Nat),plc (k+1) l=(plc k l).map (·+1)
 |[],k=>rfl
 |a::r,k=>by cases a<;>simp[plc,Lq r]
theorem Uq:∀(l:Za5) (k:Nat),(plc k l).9=l.count KJ
 |[],k=>rfl
 |a::r,k=>by cases a<;>simp[plc,Uq r]
def pcF:Nat->Nat->Nat
 |0,_=>0
 |f+1,n=>n%2+pcF f (n/2)
def pc (n:Nat):Nat:=pcF n n
theorem pH (f:Nat):pcF f 0=0:=by
 induction f with
 |zero=>rfl
 |succ f ih=>show 0%2+pcF f (0/2)=0;rw[GW,ih]
theorem Afs (f:Nat):∀g n,n<=f->n<=g->pcF f n=pcF g n:=by
 induction f with
 |zero=>intro g n h _;rw[yx.mp h,pH,pH]
 |succ f ih=>
  intro g n h1 h2
  cases g with
  |zero=>rw[yx.mp h2,pH,pH]
  |succ g=>exact congrArg (n%2 + ·) (ih g (n/2) () ())
theorem eC:pc 0=0:=rfl
theorem G8 (n:Nat):pc n=n%2+pc (n/2):=by
 cases n with
 |zero=>rfl
 |succ p=>exact congrArg ((p+1)%2 + ·) (Afs p _ _ () (d8 _))
theorem Nx:∀l:Za5,pc (val l)=l.count KJ
 |[]=>by simp[val,eC]
 |b::r=>by
  rw[G8];have e1:val (b::r)%2=b.toNat:=by simp only[val];have:=xj b;lia
  have e2:val (b::r)/2=val r:=by simp only[val];have:=xj b;lia
  rw[e1,e2,Nx r];cases b<;>simp[ny,tx]
theorem Ahx (n:Nat):n%16%2=n%2:=xw n (by decide)
theorem Ag6 (n:Nat):n%16/2%2=n/2%2:=(congrArg (·%2) (ud n 2 8)).trans (xw _ (by decide))
theorem Ah9 (n:Nat):n%16/4%2=n/4%2:=(congrArg (·%2) (ud n 4 4)).trans (xw _ (by decide))
theorem Aht (n:Nat):n%16/8%2=n/8%2:=(congrArg (·%2) (ud n 8 2)).trans (Nat.mod_mod _ _)
theorem Ai5 (n:Nat):pc n=pc (n%16)+pc (n/16):=by
 have a:pc n=n%2+(n/2%2+(n/4%2+(n/8%2+pc (n/16)))):=by
  rw[G8 n,G8 (n/2),G8 (n/2/2),G8 (n/2/2/2)];simp only[rf]
 have b:pc (n%16)=n%16%2+(n%16/2%2+(n%16/4%2+(n%16/8%2+pc (n%16/16)))):=by
  rw[G8 (n%16),G8 (n%16/2),G8 (n%16/2/2),G8 (n%16/2/2/2)];simp only[rf]
 have c:pc (n%16/16)=0:=by
  rw[yt (ue n (by decide)),eC]
 rw[a,b,c,Ahx,Ag6,Ah9,Aht,m7,l9,l9,l9]
def Y0:Za4:=[0,1,1,2,1,2,2,3,1,2,2,3,2,3,3,4]
theorem yI:∀r:Nat,r<16->Y0[r]?=KH (pc r):=by
 have h:∀b0 b1 b2 b3:Bool,Y0[val [b0,b1,b2,b3]]?=KH ([b0,b1,b2,b3].count KJ):=by decide
 intro r hr;have e:r=val [r.testBit 0,r.testBit 1,r.testBit 2,r.testBit 3]:=by
  have:∀r:Fin 16,r.val=val [r.val.testBit 0,r.val.testBit 1,r.val.testBit 2,r.val.testBit 3]:=by decide
  exact this ⟨r,hr⟩
 rw[e,h,Nx]
def Xw:Nat->Nat->Nat->Option Nat
 |0,_,_=>KI
 |f+1,n,k=>if n%2=1 then(if k=0 then KH 0 else(Xw f (n/2) (k-1)).map (·+1)) else(Xw f (n/2) k).map (·+1)
def nth (n k:Nat):Option Nat:=Xw n n k
theorem gK (f n k:Nat):Xw (f+1) n k=if n%2=1 then(if k=0 then KH 0 else(Xw f (n/2) (k-1)).map (·+1)) else(Xw f (n/2) k).map (·+1):=rfl
theorem eO (f:Nat):∀k,Xw f 0 k=KI:=by
 induction f with
 |zero=>exact λ_=>rfl
 |succ f ih=>intro k;rw[gK,if_neg (by decide),GW,ih];rfl
theorem pN (f:Nat):∀g n k,n<=f->n<=g->Xw f n k=Xw g n k:=by
 induction f with
 |zero=>intro g n k h _;rw[yx.mp h,eO,eO]
 |succ f ih=>
  intro g n k h1 h2
  cases g with
  |zero=>rw[yx.mp h2,eO,eO]
  |succ g=>rw[gK,gK,ih g (n/2) _ () (),ih g (n/2) _ () ()]
theorem iE (k:Nat):nth 0 k=KI:=rfl
theorem lH (b:Bool)(m k:Nat):nth (b.toNat+2*m) k=if b then(if k=0 then KH 0 else(nth m (k-1)).map (·+1)) else(nth m k).map (·+1):=by
 have hb:=xj b;have key:∀p,b.toNat+2*m=p+1->Xw (p+1) (b.toNat+2*m) k=if b then(if k=0 then KH 0 else(nth m (k-1)).map (·+1)) else(nth m k).map (·+1):=λp hp=>by
  rw[gK,show(b.toNat+2*m)/2=m by lia,pN p m m _ () (d8 _),pN p m m _ () (d8 _)]
  cases b with
  |false=>rw[if_neg (by simp only[EI];lia)];rfl
  |true=>rw[if_pos (by simp only[ES];lia)];rfl
 cases e:b.toNat+2*m with
 |succ p=>rw[<-key p e,e];rfl
 |zero=>
  cases b with
  |true=>simp only[ES] at e;lia
  |false=>rw[show m=0 by simp only[EI] at e;lia];rfl
theorem fH:∀(l:Za5) (k:Nat),nth (val l) k=(plc 0 l)[k]?
 |[],k=>by simp[val,plc,iE]
 |b::r,k=>by
  simp only[val,lH]
  cases b with
  |false=>simp[plc,Lq,fH r]
  |true=>
   cases k with
   |zero=>simp[plc]
   |succ k=>simp[plc,Lq,fH r]
def Z2 (r:Nat):Za4:=(fb 4).filter λp=>decide (r/2 ^ p%2=1)
theorem Aav:∀r:Nat,r<16->(Z2 r).9=pc r:=by
 have h:∀b0 b1 b2 b3:Bool,(Z2 (val [b0,b1,b2,b3])).9=([b0,b1,b2,b3].count KJ):=by decide
 intro r hr;have e:r=val [r.testBit 0,r.testBit 1,r.testBit 2,r.testBit 3]:=by
  have:∀r:Fin 16,r.val=val [r.val.testBit 0,r.val.testBit 1,r.val.testBit 2,r.val.testBit 3]:=by decide
  exact this ⟨r,hr⟩
 rw[e,h,Nx]
theorem pJ:∀(w:Za5) (m k:Nat),nth (val w+2 ^ w.9*m) k=if k<w.count KJ then(plc 0 w)[k]? else(nth m (k-w.count KJ)).map (·+w.9)
 |[],m,k=>by simp[val]
 |b::r,m,k=>by
  have e:val (b::r)+2 ^ (b::r).9*m=b.toNat+2*(val r+2 ^ r.9*m):=by
   rw[val,gm,vo,Nat.mul_add,l9,ye (2 ^ r.9) 2,GC]
  have ih:=pJ r m;rw[e,lH]
  cases b with
  |false=>
   rw[if_neg gy,ih,show(KL::r).count KJ=r.count KJ by simp]
   by_cases h:k<r.count KJ
   .rw[if_pos h,if_pos h]
    simp[plc,Lq]
   .rw[if_neg h,if_neg h,yw]
    rfl
  |true=>
   rw[if_pos rfl,show(KJ::r).count KJ=r.count KJ+1 by simp]
   cases k with
   |zero=>rw[if_pos rfl,if_pos (yd _)];rfl
   |succ k=>
    rw[if_neg (Nat.succ_ne_zero k),nl,ih]
    by_cases h:k<r.count KJ
    .rw[if_pos h,if_pos (Nat.succ_lt_succ h)]
     simp[plc,Lq]
    .rw[if_neg h,if_neg (λz=>h (Nat.lt_of_succ_lt_succ z)),BS,yw]
     rfl
theorem Aho (n k:Nat):nth n k=if k<pc (n%16) then(Z2 (n%16))[k]? else(nth (n/16) (k-pc (n%16))).map (·+4):=by
 have h:∀b0 b1 b2 b3:Bool,Z2 (val [b0,b1,b2,b3])=plc 0 [b0,b1,b2,b3]:=by decide
 have g:∀r:Fin 16,r.val=val [r.val.testBit 0,r.val.testBit 1,r.val.testBit 2,r.val.testBit 3]:=by decide
 obtain⟨w,hw,e,h4⟩:∃w:Za5,w.9=4/\n%16=val w/\Z2 (val w)=plc 0 w:={_,rfl,g {n%16,ue _ (by decide)},h _ _ _ _};have:=pJ w (n/16) k;rw[hw,<-e,show n%16+2 ^ 4*(n/16)=n from Nat.mod_add_div n 16] at this;rw[this,e,Nx,h4]
def Az (l:Za5)(j:Nat):Za5:=(l.drop (32*j)).take 32
def By (n:Nat):Nat:=(n+31)/32
def wordsOf (l:Za5):Za4:=(fb (By l.9)).map λj=>val (Az l j)
def cnt (l:Za5)(k:Nat):Nat:=(l.take k).count KJ
theorem qF (l:Za5)(a b:Nat):cnt l (a+b)=cnt l a+((l.drop a).take b).count KJ:=by
 unfold cnt;rw[xc,n6]
theorem Te (l:Za5){k:Nat}(h:l.9<=k):cnt l k=l.count KJ:=by
 unfold cnt;rw[fz h]
theorem iB (l:Za5)(j:Nat):cnt l (32*(j+1))=cnt l (32*j)+pc (val (Az l j)):=by
 rw[Nx,show 32*(j+1)=32*j+32 by lia,qF];rfl
theorem Ys (l:Za5)(a:Nat):∀k:Nat,((fb k).map λi=>pc (val (Az l (a+i)))).sum+cnt l (32*a)=cnt l (32*(a+k))
 |0=>by simp
 |k+1=>by
  rw[jf,fi,yz,xn,xl];have:=Ys l a k;have e:=iB l (a+k);rw[show a+(k+1)=a+k+1 by lia,e];lia
theorem jV (n:Nat):n<=32*By n:=by unfold By;lia
theorem gU {n j:Nat}(h:j<By n):32*j<n:=by unfold By at h;lia
theorem tZ (l:Za5)(b:Nat)(k:Nat)(hk:k=min 8 (By l.9-8*b)):((fb k).map λi=>pc (val (Az l (8*b+i)))).sum+cnt l (256*b)=cnt l (256*(b+1)):=by
 have h:=Ys l (8*b) k;rw[show 32*(8*b)=256*b by lia] at h;rw[h]
 by_cases hh:8<=By l.9-8*b
 .rw[hk.trans (il hh),show 32*(8*b+8)=256*(b+1) by lia]
 .have ek:=hk.trans (rq (f9 (IV.mp hh)))
  have h2:=iy (jV l.9) (Nat.mul_le_mul_left 32 (Nat.sub_le_iff_le_add'.mp (qb ek.symm)));rw[<-ek] at hh;rw[Te l h2,Te l (k:=256*(b+1)) (by clear hk ek h;lia)]
theorem oV:∀(l:Za5) (a:Nat),(l.reverse.foldl (λacc b=>acc*2+b.toNat) a)=a*2 ^ l.9+val l
 |[],a=>by simp[val]
 |b::r,a=>by
  rw[xz,DO,oV r a];simp only[qj,List.foldl_nil,val,gm,vo];rw[CL,GC];lia
theorem Tr:∀(w:Za5) (k:Nat),val w/2 ^ k%2=(w.getD k KL).toNat
 |[],k=>by simp[val]
 |b::r,0=>by
  cases b<;>simp[val]<;>lia
 |b::r,k+1=>by
  have ih:=Tr r k;have e:val (b::r)/2 ^ (k+1)=val r/2 ^ k:=by
   rw[vo,ye (2 ^ k) 2,<-rf];congr 1;cases b<;>simp[val]<;>lia
  rw[e,ih];simp
theorem Ll (l:Za5)(j:Nat){p:Nat}(hp:p<32):(Az l j).getD p KL=l.getD (32*j+p) KL:=by
 unfold Az;simp only[gg,ji,iz,hp,if_true]
def Ot (n:Nat):Za5:=(fb 32).map λp=>decide (n/2 ^ p%2=1)
theorem tE (b:Bool):decide (b.toNat=1)=b:=by cases b<;>rfl
theorem tK (l:Za5)(j:Nat):Ot (val (Az l j))=(fb 32).map λp=>l.getD (32*j+p) KL:=by
 unfold Ot;refine jd λp hp=>?_;rw[Tr,tE,Ll l j (jo.mp hp)]
theorem Rv {α:Type}(d:Nat)(f:Nat->α):∀m:Nat,((fb m).map λj=>(fb d).map λp=>f (d*j+p)).flatten=(fb (d*m)).map f
 |0=>by simp
 |m+1=>by
  rw[jf,fi,w4,Rv d f m,Nat.mul_succ,List.range_add,fi];simp[Function.comp_def]
def nG (r:Nat):Za5:=(fb 4).map λk=>decide (r/2 ^ k%2=1)
theorem yA (n j:Nat):nG (n/2 ^ (4*j)%16)=(fb 4).map λk=>decide (n/2 ^ (4*j+k)%2=1):=by
 unfold nG;refine jd λk hk=>?_;have hk:=jo.mp hk;rw[Nat.pow_add,<-rf];generalize n/2 ^ (4*j)=m;congr 1;have:k=0\/k=1\/k=2\/k=3:=()
 rcases this with rfl|rfl|rfl|rfl
 .rw[Nat.pow_zero,II,II,Ahx]
 .exact congrArg (·=1) (Ag6 m)
 .exact congrArg (·=1) (Ah9 m)
 .exact congrArg (·=1) (Aht m)
theorem Vg (n:Nat):((fb 8).map λj=>nG (n/2 ^ (4*j)%16)).flatten=Ot n:=by
 have e:((fb 8).map λj=>nG (n/2 ^ (4*j)%16))=(fb 8).map λj=>(fb 4).map λk=>decide (n/2 ^ (4*j+k)%2=1):=jd λj _=>yA n j;rw[e];exact Rv 4 (λp=>decide (n/2 ^ p%2=1)) 8
theorem Xd (l:Za5)(a m:Nat):((fb m).map λi=>Ot (val (Az l (a+i)))).flatten=(fb (32*m)).map λp=>l.getD (32*a+p) KL:=by
 have e:((fb m).map λi=>Ot (val (Az l (a+i))))=(fb m).map λj=>(fb 32).map λp=>l.getD (32*a+(32*j+p)) KL:=jd λj _=>by
  rw[tK];refine jd λp _=>?_;congr 1;lia
 rw[e];exact Rv 32 (λp=>l.getD (32*a+p) KL) m
theorem xM (l:Za5)(a m low c:Nat)(h0:32*a<=low)(h1:low+c<=l.9)(h2:low+c<=32*(a+m)) :
  (((fb (32*m)).map λp=>l.getD (32*a+p) KL).drop (low-32*a)).take c=(l.drop low).take c:=by
 refine me λi=>?_;rw[ji,ji]
 by_cases hi:i<c
 .rw[if_pos hi,if_pos hi,iz,iz,d9,gd ()]
  rw[d4 (show low+i<l.9 by lia)];simp only[sg,gg];rw[show 32*a+(low-32*a+i)=low+i by lia,d4 (show low+i<l.9 by lia)];rfl
 .rw[if_neg hi,if_neg hi]
theorem Zk (l:Za5)(a k:Nat):((wordsOf l).drop a).take k=(fb (min k (By l.9-a))).map λi=>val (Az l (a+i)):=by
 refine me λi=>?_;unfold wordsOf;rw[ji,d9]
 by_cases hi:i<k
 .rw[if_pos hi,iz,d9]
  by_cases h2:a+i<By l.9
  .rw[gd h2,gd (Nat.lt_min.mpr {hi,Nat.lt_sub_iff_add_lt.mpr (by rw[tx];exact h2)})]
   rfl
  .have h3:=pi.mp h2
   rw[ii (by rw[fg];exact h3),ii (by rw[fg];exact iy (va _ _) (Nat.sub_le_iff_le_add.mpr (by rw[tx];exact h3)))];rfl
 .rw[if_neg hi,ii (by rw[fg];exact iy (FB _ _) (pi.mp hi))]
  rfl
theorem yC (f:Nat->Bool)(n:Nat):[n].filter f=if f n then[n] else[]:=by
 cases h:f n<;>simp[BX,h]
def occ (b:Bool)(l:Za5)(n:Nat):Za4:=(fb n).filter λi=>l.getD i KL==b
theorem Ji (b:Bool)(l:Za5)(n:Nat):occ b l (n+1)=occ b l n++if l.getD n KL==b then[n] else[]:=by
 unfold occ;rw[jf,lu,yC]
theorem Ti (b:Bool)(l:Za5)(n:Nat):∀d:Nat,occ b l (n+d)=occ b l n++((fb d).filter λp=>l.getD (n+p) KL==b).map (n + ·)
 |0=>by simp
 |d+1=>by
  rw[show n+(d+1)=n+d+1 by lia,Ji,Ti b l n d,jf,lu,fi,fm,yC];congr 2;cases l.getD (n+d) KL==b<;>rfl
theorem Z5 {b:Bool}{l:Za5}{n m i:Nat}(h:n<=m)(hi:i<(occ b l n).9):(occ b l m)[i]?=(occ b l n)[i]?:=by
 obtain⟨d,rfl⟩:=FR h;rw[Ti,fw hi]
theorem Ae6 {b:Bool}{l:Za5}{n m:Nat}(h:n<=m):(occ b l n).9<=(occ b l m).9:=by
 obtain⟨d,rfl⟩:=FR h;rw[Ti,eg];lia
theorem Mc (l:Za5):∀n:Nat,(occ KJ l n).9=cnt l n/\(occ KL l n).9+cnt l n=n
 |0=>by simp[occ,cnt]
 |n+1=>by
  obtain⟨h1,h2⟩:=Mc l n;have e:cnt l (n+1)=cnt l n+(l.getD n KL).toNat:=by
   unfold cnt;rw[i5,n6,gg]
   cases hx:l[n]? with
   |none=>simp
   |some b=>cases b<;>simp
  rw[Ji,Ji,e];cases l.getD n KL<;>simp<;>lia
def Mx (b:Bool)(l:Za5)(j:Nat):Za4:=(fb 32).filter λp=>l.getD (32*j+p) KL==b
theorem Uw (b:Bool)(l:Za5)(j:Nat):occ b l (32*(j+1))=occ b l (32*j)++(Mx b l j).map (32*j + ·):=by
 rw[show 32*(j+1)=32*j+32 by lia,Ti];rfl
theorem P6 (f:Nat->Bool):∀n:Nat,plc 0 ((fb n).map f)=(fb n).filter f
 |0=>rfl
 |n+1=>by
  rw[jf,fi,xn,jB,P6 f n,lu,d7,fg,yC,n8]
theorem fZ (w:Za5)(k:Nat):(val w).testBit k=w.getD k KL:=by
 rw[Nat.testBit_eq_decide_div_mod_eq,Tr];cases w.getD k KL<;>rfl
def Oa (b:Bool):Nat:=if b then 0 else 4294967295
theorem Ma (b:Bool)(l:Za5)(j:Nat):val (Az l j) ^^^ Oa b=val ((fb 32).map λp=>l.getD (32*j+p) KL==b):=by
 refine wo λi=>?_;rw[Nat.testBit_xor,fZ,fZ];have hf:(Oa b).testBit i=(!b&&decide (i<32)):=by
  cases b
  .show(2 ^ 32-1).testBit i=_
   rw[zm];rfl
  .show(0:Nat).testBit i=_
   rw[Nat.zero_testBit];rfl
 rw[hf]
 by_cases hi:i<32
 .rw[Ll l j hi,gg (l:=x4 _ _),d9,gd hi]
  show _=(l.getD (32*j+i) KL==b);rw[decide_eq_true hi];cases l.getD (32*j+i) KL<;>cases b<;>rfl
 .rw[decide_eq_false hi,gg,ii (by unfold Az;rw[fh];lia),gg,ii (by rw[d7,fg];lia)]
  simp
theorem kD (b:Bool)(l:Za5)(j k:Nat):nth (val (Az l j) ^^^ Oa b) k=(Mx b l j)[k]?:=by
 rw[Ma,fH,P6];rfl
theorem Abl (b:Bool)(l:Za5)(j:Nat):pc (val (Az l j) ^^^ Oa b)=(Mx b l j).9:=by
 rw[Ma,Nx,<-Uq _ 0,P6];rfl
theorem yV (w:Za5)(k:Nat):val w%2 ^ k=val (w.take k):=by
 refine wo λi=>?_;rw[Nat.testBit_mod_two_pow,fZ,fZ,gg,gg,ji]
 by_cases hi:i<k<;>simp[hi]
theorem Afl {b:Bool}{l:Za5}{n i t:Nat}(h:(occ b l n)[i]?=KH t):t<n/\(l.getD t KL==b)=KJ:=by
 have:=f8 h;unfold occ at this;rw[vq] at this;exact{jo.mp this.1,this.2}
def dAt (ds:Za4)(k:Nat):Nat:=ds.getD k 0
def opn (ds:Za4):Nat->Nat
 |0=>0
 |k+1=>dAt ds k+1
def way (ds:Za4):Nat->List Int
 |0=>[-1]
 |k+1=>(way ds k).take (dAt ds k+1)++[(k:Int)]
def Dok (ds:Za4):Prop:=∀k,k<ds.9->dAt ds k<=opn ds k
def eld (ds:Za4)(k:Nat):Int:=(way ds k).getD (dAt ds k) 0
def Ev (ds:Za4):List Int:=(fb ds.9).map (eld ds)
theorem Cd {ds:Za4}(h:Dok ds):∀k,k<=ds.9->(way ds k).9=opn ds k+1
 |0,_=>rfl
 |k+1,hk=>by
  show((way ds k).take (dAt ds k+1)++[(k:Int)]).9=dAt ds k+1+1;have:=Cd h k ();have:=h k ();rw[eg,fh];simp only[gm,jt];lia
theorem Lu {ds:Za4}(h:Dok ds):∀k,k<=ds.9->(way ds k)[0]?=KH (-1)
 |0,_=>rfl
 |k+1,hk=>by
  show((way ds k).take (dAt ds k+1)++[(k:Int)])[0]?=KH (-1);have e:=Lu h k ();have hl:=Cd h k ();rw[fw (by rw[fh];lia),gj ()];exact e
theorem F9 {ds:Za4}(h:Dok ds):∀(k j:Nat) (x:Int),k<=ds.9->(way ds k)[j+1]?=KH x->∃v:Nat,x=(v:Int)/\v<k/\dAt ds v=j
 |0,j,x,_,e=>by cases e
 |k+1,j,x,hk,e=>by
  have e:((way ds k).take (dAt ds k+1)++[(k:Int)])[j+1]?=KH x:=e;have hl:=Cd h k ();have hd:=h k ();have hl2:((way ds k).take (dAt ds k+1)).9=dAt ds k+1:=by rw[fh];lia
  by_cases hj:j+1<dAt ds k+1
  .rw[fw (),gj hj] at e
   obtain⟨v,hv,hlt,hdv⟩:=F9 h k j x () e;exact{v,hv,(),hdv}
  .rw[fk (),hl2] at e
   have e0:j+1-(dAt ds k+1)=0:=by
    have:=(fc.mp e).1;simp only[gm,jt] at this;lia
   rw[e0] at e;have e:=ee e;exact{k,e.symm,(),()}
theorem Lj {ds:Za4}(h:Dok ds):∀(k i j:Nat) (x y:Int),k<=ds.9->i<j->(way ds k)[i]?=KH x->(way ds k)[j]?=KH y->x<y
 |0,i,j,x,y,_,hij,e1,e2=>by
  have:=(fc.mp e2).1;simp only[way,gm,jt] at this;lia
 |k+1,i,j,x,y,hk,hij,e1,e2=>by
  have hl:=Cd h k ();have hd:=h k ();have hl2:((way ds k).take (dAt ds k+1)).9=dAt ds k+1:=by rw[fh];lia
  have e2':((way ds k).take (dAt ds k+1)++[(k:Int)])[j]?=KH y:=e2;have e1':((way ds k).take (dAt ds k+1)++[(k:Int)])[i]?=KH x:=e1
  by_cases hj:j<dAt ds k+1
  .rw[fw (),gj hj] at e2'
   rw[fw (),gj ()] at e1';exact Lj h k i j x y () hij e1' e2'
  .rw[fk (),hl2] at e2'
   have e0:j-(dAt ds k+1)=0:=by
    have:=(fc.mp e2').1;simp only[gm,jt] at this;lia
   rw[e0] at e2';have ey:=ee e2';rw[fw (),gj ()] at e1'
   cases i with
   |zero=>
    rw[Lu h k ()] at e1';have:=ee e1';lia
   |succ i=>
    obtain⟨v,hv,hlt,_⟩:=F9 h k i x () e1';lia
theorem Ho {ds:Za4}(h:Dok ds){k:Nat}(hk:k<ds.9):(way ds k)[dAt ds k]?=KH (eld ds k):=by
 have hl:=Cd h k ();have hd:=h k hk;unfold eld ju;rw[d4 ()];rfl
theorem Acb {ds:Za4}(h:Dok ds){k:Nat}(hk:k<ds.9)(e:eld ds k=-1):dAt ds k=0:=by
 have ha:=Ho h hk
 cases hd:dAt ds k with
 |zero=>rfl
 |succ j=>
  rw[hd] at ha;obtain⟨v,hv,_⟩:=F9 h k j _ () ha;lia
theorem Lp {ds:Za4}(h:Dok ds){k:Nat}(hk:k<ds.9)(e:eld ds k≠-1):∃v:Nat,eld ds k=(v:Int)/\v<k/\dAt ds k=dAt ds v+1:=by
 have ha:=Ho h hk
 cases hd:dAt ds k with
 |zero=>
  rw[hd,Lu h k ()] at ha;exact absurd (ee ha).symm e
 |succ j=>
  rw[hd] at ha;obtain⟨v,hv,hlt,hdv⟩:=F9 h k j _ () ha;exact{v,hv,hlt,()}
theorem Aad {ds:Za4}(h:Dok ds){k:Nat}(hk:k<ds.9):-1<=eld ds k:=by
 by_cases e:eld ds k=-1
 .lia
 .obtain⟨v,hv,_⟩:=Lp h hk e
  lia
theorem Gs (ds:Za4):(Ev ds).9=ds.9:=by unfold Ev;rw[d7,fg]
theorem Ms {ds:Za4}{k:Nat}(hk:k<ds.9):(Ev ds)[k]?=KH (eld ds k):=by
 unfold Ev;rw[d9,gd hk];rfl
def Bg (ds:Za4)(k:Nat):Za5:=fe (opn ds k-dAt ds k) KL++[KJ]
def S3 (ds:Za4)(k:Nat):Za5:=((fb k).map (Bg ds)).flatten
def B1 (ds:Za4):Za5:=S3 ds ds.9++fe (opn ds ds.9) KL
theorem Mr (ds:Za4)(k:Nat):S3 ds (k+1)=S3 ds k++Bg ds k:=by
 unfold S3;rw[jf,fi,w4];simp
theorem lM {ds:Za4}(h:Dok ds):∀k,k<=ds.9->(S3 ds k).9+opn ds k=2*k
 |0,_=>rfl
 |k+1,hk=>by
  have:=lM h k ();have:=h k ();rw[Mr,eg];show(S3 ds k).9+(fe (opn ds k-dAt ds k) KL++[KJ]).9+(dAt ds k+1)=2*(k+1);rw[eg,i6];simp only[gm,jt];lia
theorem Ea {ds:Za4}(h:Dok ds):(B1 ds).9=2*ds.9:=by
 unfold B1;rw[eg,i6];exact lM h _ (d8 _)
def Vs:Nat->Za5->Prop
 |h,[]=>h=0
 |h,KL::s=>0<h/\Vs (h-1) s
 |h,KJ::s=>Vs (h+1) s
theorem U9:∀(m h:Nat) (s:Za5),Vs h s->Vs (h+m) (fe m KL++s)
 |0,h,s,v=>v
 |m+1,h,s,v=>by
  rw[i8];refine{(),?_};show Vs (h+(m+1)-1) (fe m KL++s);rw[show h+(m+1)-1=h+m by lia];exact U9 m h s v
theorem rJ {ds:Za4}(h:Dok ds):∀(m k:Nat),k+m=ds.9->Vs (opn ds k) (((fb m).map λi=>Bg ds (k+i)).flatten++fe (opn ds ds.9) KL)
 |0,k,e=>by
  have e:k=ds.9:=()
  subst e;have:=U9 (opn ds ds.9) 0 [] rfl;rw[n8,gv] at this;exact this
 |m+1,k,e=>by
  have ih:=rJ h m (k+1) ();have hd:=h k ();rw[mz,iu,jg,jn];have e1:((λi=>Bg ds (k+i)) ∘ zx)=λi=>Bg ds (k+1+i):=by
   funext i
   show Bg ds (k+(i+1))=Bg ds (k+1+i);rw[show k+(i+1)=k+1+i by lia]
  rw[e1];show Vs (opn ds k) ((fe (opn ds k-dAt ds (k+0)) KL++[KJ]++_)++_);rw[m7,fm,fm];have:=U9 (opn ds k-dAt ds k) (dAt ds k) (KJ::(((fb m).map λi=>Bg ds (k+1+i)).flatten++fe (opn ds ds.9) KL)) ih;rw[show dAt ds k+(opn ds k-dAt ds k)=opn ds k by lia] at this;exact this
theorem nY {ds:Za4}(h:Dok ds):Vs 0 (B1 ds):=by
 have:=rJ h ds.9 0 ();unfold B1 S3;have e:(λi=>Bg ds (0+i))=Bg ds:=by funext i;rw[n8]
 rw[e] at this;exact this
theorem Xg:∀(m n:Nat) (s t:Za5),fe m KL++KJ::s=fe n KL++KJ::t->m=n/\s=t
 |0,0,s,t,e=>{rfl,by simpa using e}
 |0,n+1,s,t,e=>by rw[i8] at e;cases e
 |m+1,0,s,t,e=>by rw[i8] at e;cases e
 |m+1,n+1,s,t,e=>by
  rw[i8,i8] at e;obtain⟨a,b⟩:=Xg m n s t (q0 e).2;exact{(),b}
theorem gR {ds es:Za4}(h1:Dok ds)(h2:Dok es)(hl:ds.9=es.9):∀(m k:Nat),k+m=ds.9->opn ds k=opn es k ->
  ((fb m).map λi=>Bg ds (k+i)).flatten++fe (opn ds ds.9) KL=((fb m).map λi=>Bg es (k+i)).flatten++fe (opn es es.9) KL->∀i,k<=i->i<ds.9->dAt ds i=dAt es i
 |0,k,e,_,_=>λi a b=>()
 |m+1,k,e,ho,hr=>λi a b=>by
  have f:∀xs:Za4,((fb (m+1)).map λi=>Bg xs (k+i)).flatten=fe (opn xs k-dAt xs k) KL++KJ::((fb m).map λi=>Bg xs (k+1+i)).flatten:=λxs=>by
   rw[mz,iu,jg,jn];have e1:((λi=>Bg xs (k+i)) ∘ zx)=λi=>Bg xs (k+1+i):=by
    funext i
    show Bg xs (k+(i+1))=Bg xs (k+1+i);rw[show k+(i+1)=k+1+i by lia]
   rw[e1];show(fe (opn xs k-dAt xs (k+0)) KL++[KJ])++_=_;rw[m7,fm];rfl
  rw[f,f,fm,fm,m9,m9] at hr;obtain⟨e1,e2⟩:=Xg _ _ _ _ hr;have d1:=h1 k ();have d2:=h2 k ();have hk:dAt ds k=dAt es k:=()
  by_cases hi:i=k
  .rw[hi];exact hk
  .exact gR h1 h2 hl m (k+1) () (by show dAt ds k+1=dAt es k+1;lia) e2 i () b
theorem Aak {ds es:Za4}(h1:Dok ds)(h2:Dok es)(e:B1 ds=B1 es):ds=es:=by
 have hl:ds.9=es.9:=by
  have a:=Ea h1;have b:=Ea h2;rw[e] at a;lia
 have z:∀xs:Za4,B1 xs=((fb xs.9).map λi=>Bg xs (0+i)).flatten++fe (opn xs xs.9) KL:=λxs=>by
  unfold B1 S3;have e:(λi=>Bg xs (0+i))=Bg xs:=by funext i;rw[n8]
  rw[e]
 have key:=gR h1 h2 hl ds.9 0 () rfl (by rw[<-z,e,z,hl]);refine EF hl λk a b=>?_;have:=key k () a;unfold dAt at this
 simpa [ju,a,b] using this
theorem qM {B:Za4}(hB:Dok B){k:Nat}(h:k<=B.9):way B k=-1::(way B k).tail:=by
 have e:=Lu hB k h
 cases hw:way B k with
 |nil=>rw[hw] at e;cases e
 |cons x r=>
  rw[hw] at e;obtain rfl:=ee e;rfl
end _W
end
section
namespace _L
open PySem PySem.Spec PyProof.Rows
def Air (B:jm)(l:List Env)(e:eh)(cls a0:fj)(od:Option eh)(h:jm):Prop:=Heap.FlyingW B l e cls a0 h/\∃o,h.get? e=KH o/\o.dict=od
structure Ags (outer:List Env) (H':Hp) (h h':jm) (e C:eh) (od:Option eh):Prop where
 new:h.get? e=KI
 unt:H' e=KI
 fly:∃a0 B,Air B outer e (.ref C) a0 od h'/\∀b o,h'.get? b=KH o->B.get? b=KI->b=e\/b∈frs outer\/(h.get? b=KI/\H' b=KI)
def CXE (P:gl)(w:ip):CXT:=λouter H s E ex s'=>∃e C od H',ex=.ref e/\s'.os=s.os/\wv s'.gens/\Un (frs outer) [] H H' s.5 s'.5/\HOk P w H' s'.5/\(∀b∈frs outer,H' b=KI)/\Ags outer H' s.5 s'.5 e C od/\E (.ref C) od H'
theorem Afh {P:gl}:J5 (CXE P w) X E0:=λ_ _ _ _ _ _ _ h=>by
 obtain⟨_,_,_,_,_,_,_,_,_,_,_,z⟩:=h;exact z.elim
structure Aiv (P:gl) (w:ip) (K:d6) (mg:Za2) (base:jm) (name:Str) (C:eh) (k:Nat) (ps:Za6) (sp:Sp):Prop where
 ex:∃(f:eh) (fd:jx),Ar P w K mg base (CXE P w) k f fd ps sp/\Fp K fd ps []/\Mk K C f/\mg name=KH (.ref C)
theorem Tl (K:d6)(h:autoParam (X.K=K) QD):IxR X (Aea K):=by
 subst h;exact Bs
theorem Jy (K:d6)(h:autoParam (X.K=K) QD):IxR X (Af6 K):=by
 subst h;exact Bk
open PySem.W Builtin.Getset_descriptor
theorem gL {G:St}(I:Inv X pins G H s):sysModules<s.heap.objs.8:=
 vp (by decide) (show mainGlobals<s.heap.objs.8 from(I.mod.glob.keeps I.bk).lt)
def Adv:TE:=λ_ H Q=>∀p,H p=KI->Q (.ref p) (upd H p (.dK []))
theorem uX {P:gl}(h:jm)(hb:sysModules<h.objs.8):Ct P w H (h.push { cls:=.type "dict",data:=.dict #[] }) h.objs.8 (.dK []):=
 {gn _,beq_eq_false_iff_ne.mpr (rk (gw hb)),[],.nil,xg h}
theorem pB:PE X (.Dict [] [] pos) Adv:=λpins s G H Q I h=>
 wpAny_Dict_empty {.ref s.heap.objs.8,_,I.laid (a:=s.heap.objs.8) (o:=.dK []) (t':=s.toks) (λ_ _ q=>en _ q) (d8 _) (uX s.5 (gL I)),rfl,h _ (I.hok.fresh (d8 _))}
theorem Aed {G:St}{Q:VK}(h:∀p,H p=KI->Q (.ref p) (upd H p (.dK []))):Adv G H Q:=h
section
variable {X:Cx}
def Abd:V->List V->Hp->VK->Prop:=λx vs H Q=>∃(l:eh) (xs:List V) (y:V),x=.ref l/\vs=[y]/\H l=KH (.lst xs)/\xs.all Ex=KJ/\Ex y=KJ/\Q (.int (xs.countP (λz=>eqV z y):Nat)) H
theorem Vq {y:V}:∀{xs:List V} {us:Za3},Ax xs us->xs.all Ex=KJ->us.countP (eqU y)=xs.countP λz=>eqV z y
 |_,_,.nil,_=>rfl
 |x::xs,u::us,.cons r t,f=>by
  rw[um,nc] at f;rw[yk,yk,Vq t f.2,gM r f.1]
theorem sM:MtM X "list.count" Abd:=by
 intro pins s G H x vs v us Q I rx rv h;obtain⟨l,xs,y,rfl,rfl,hH,hf,hy,q⟩:=h;cases rx;obtain⟨u,rfl,ru⟩:=Fl rv;obtain⟨z,its,n,r,hl,e⟩:=I.lstM hH;refine sw F.slot_list_count {_,e,rfl} F.entry_list_count (F.args_list_count_2 _ _) (SeqAt.list_countAt l its.6 n KI #[] u (eqU y)) {e,λw hw=>L3 ru hy r hf w (by simpa using hw),?_};rw[show its.toArray.7=its from rfl,Vq r hf];exact{.int _,H,I.tok _,{_,rfl},q}
end
def Adp (K:d6)(te ts:TE):TE:=λG H Q=>te G H λx H1=>ts G H1 λy H2=>∃a xs st,x=.ref a/\y=.int st/\0<st/\SqL K H2 a xs /\
 ∀p ys,H2 p=KI->(∀v∈ys,v∈xs)->ys.9<=xs.9->Q (.ref p) (upd H2 p (.lst ys))
theorem Re {xs:List V}{us:Za3}(r:Ax xs us):∀is:Za4,Ax (is.filterMap λi=>xs[i]?) (is.filterMap λi=>us[i]?)
 |[]=>.nil
 |i::is=>by
  have ih:=Re r is;have l:=r.9
  by_cases h:i<us.9
  .obtain⟨u,eu,ru⟩:=r.get (d4 (show i<xs.9 by lia))
   rw[lg,lg,d4 (show i<xs.9 by lia),eu];exact .cons ru ih
  .rw[lg,lg,ii (show us.9<=i by lia),ii (show xs.9<=i by lia)]
   exact ih
section
variable {X:Cx} {e st:ja} {te ts:TE} {pos p2:Pos}
theorem Abj (he:PE X e te)(hst:PE X st ts):PE X (.Subscript e (.Slice KI KI (KH st) p2) pos) (Adp X.K te ts):=by
 k_in;refine Subscript_ (thE he I h λv s1 x H1 I1 r1 q1=>?_);refine zz ?_;rw[vh];refine fq ?_;refine fq ?_;rw[evalPart_some];refine thE hst I1 q1 λu s3 y H3 I3 r3 h_=>cpZ λX_ k_=>?_;obtain⟨a,xs,k,ex,ey,hk,hs,q⟩:=h_;refine k_ ?_;subst ex ey;obtain rfl:v=jc a:=r1;obtain⟨t,rfl⟩:=r3;have I4:Inv X pins G H3 { s3 with heap:=s3.heap.push { cls:=.type "slice",data:=.fields #[.none,.none,.int k t] } }:=I3.kept (t':=s3.toks) λb ob q=>en _ q;obtain⟨its,r,pl,hz⟩:=I4.list hs;have e1:=r.9;show wpAny (model X.prog X.w) X.A (subscriptTail e (.Slice KI KI (KH st) p2) (.ref a) (.ref s3.heap.objs.8)) (EP X pins G Q) X.xe { s3 with heap:=s3.heap.push { cls:=.type "slice",data:=.fields #[.none,.none,.int k t] } };refine y9 (ops:=[.ref a,.ref s3.heap.objs.8]) pl.isList.typeIs EX ?_ (by with_unfolding_all rfl);refine vg pl.isList (uz ..) .none .none (.int k t) (by intro z;have:=ee z;lia) ?_ (by rw[ge];lia);have hp:slicePick its.6 KI KI (KH k)=((sliceRange (sliceBounds KI KI (KH k) its.9).1 (sliceBounds KI KI (KH k) its.9).2.1 (sliceBounds KI KI (KH k) its.9).2.2).filterMap λi=>its[i]?).6:=by
  unfold slicePick;simp
 rw[hp];generalize sliceRange (sliceBounds KI KI (KH k) its.9).1 (sliceBounds KI KI (KH k) its.9).2.1 (sliceBounds KI KI (KH k) its.9).2.2=is at *;have hlen:(is.filterMap λi=>xs[i]?).9<=xs.9:=by
  have:=slicePick_size_le its.6 KI KI (KH k);rw[hp,ge,<-(Re r is).9,ge] at this;lia
 exact⟨.ref _,_,I4.lnew (t':=s3.toks) (Re r is) (),rfl,q _ _ (I4.hok.fresh (d8 _)) (λv hv=>by
  obtain⟨i,_,hi⟩:=xm.mp hv;exact f8 hi) hlen⟩
theorem Ad0 {K:d6}{G:St}{Q:VK}(h:te G H λx H1=>ts G H1 λy H2=>∃a xs st,x=.ref a/\y=.int st/\0<st/\SqL K H2 a xs /\
 ∀p ys,H2 p=KI->(∀v∈ys,v∈xs)->ys.9<=xs.9->Q (.ref p) (upd H2 p (.lst ys))):Adp K te ts G H Q:=h
end
theorem eM:entryFor table "zip.__getattribute__"=KH qk.«object.__getattribute__» :=
 entryFor_alias (id':="object.__getattribute__") (by kernel_rfl) (by first|rfl|decide +kernel) (by decide +kernel) (by kernel_rfl)
theorem iY:typeLookup (.type "zip") "keys"=pure KI:=by rw[qu,n4];kernel_rfl
theorem kP:typeLookup (.type "zip") "__getattr__"=pure KI:=by rw[qu,n4];kernel_rfl
abbrev Aeb (vs:Array fj):Obj:={ cls:=.type "zip",dict:=KI,data:=.fields vs,slots:=#[] }
theorem nO (a:eh)(vs:Array fj)(u:Tok):Meets (qk.«object.__getattribute__» {[.ref a,.str "keys" u],[]}) (λA R s=>s.heap.get? a=KH (Aeb vs)/\raisesAttr (.ref a) "keys" A R s):=
 GE λprog w A R s hs=>by
  obtain⟨hp,g,d,tk,os⟩:=s;obtain⟨hx,hs⟩:=hs;have hT:(⟨hp,g,d,tk,os⟩:ft).TypeIs (.ref a) "zip":={_,hx,rfl};have f4:=iY
  repeat (any_goals (first|assumption|with_reducible refine FW hx ?_|wp_step))
  exact EJ hs.1 hs.2 (by decide +kernel)
section
variable {prog:gl} {w:ip} {A:i9} {E:Za0} {s:ft}
theorem Acj {a:eh}{vs:Array fj}{Q:Za7->ft->Prop}(hx:s.heap.get? a=KH (Aeb vs))(hA:A.handled=KI)(q:∀h' tk,(∀b o,s.heap.get? b=KH o->h'.get? b=KH o)->Q KI { s with heap:=h',toks:=tk }) :
  wpAny (model prog w) A (getAttr? (.ref a) "keys") Q E s:=by
 obtain⟨hp,g,d,tk,os⟩:=s;have hT:∀tk',(⟨hp,g,d,tk',os⟩:ft).TypeIs (.ref a) "zip":=λ_=>{_,hx,rfl};have f1:=FK;have f3:=rm.lookup;have f4:=rm.bind (.ref a);have f5:=kP;unfold getAttr? getAttrBy? getAttrBy
 repeat (any_goals (first|assumption|exact hT _|((with_reducible show wpAny _ _ (call (EZ "zip.__getattribute__") _ _) _ _ _);refine sw rm (hT _) eM (PySem.F.args_zip_getattribute_2 _ _) (nO a vs _) ⟨hx,hA,λh' tk' e hx'=>?_⟩)|wp_step))
 obtain⟨t',u',he⟩:=hx'.there;show wpAny _ _ (getattributeRaised _ _ _ _ _ _ _) _ _ _;unfold getattributeRaised
 repeat (any_goals (first|assumption|wp_step))
 exact q _ _ hx'.keeps
end
abbrev Nj (h:jm)(z TI TO T:eh)(c:Bool):Prop:=h.get? z=KH (Aeb #[rawInt T,.bool c,.bool KL,.ref TI,.ref TO])
section
variable {prog:gl} {w:ip} {A:i9} {E:Za0} {s:ft}
theorem yM {a:eh}{Q:Option Obj->ft->Prop}(h:Q (s.heap.get? a) s):wpAny (model prog w) A (loadIfAlive a) Q E s:=λΓ p hΓ=>by
 show Sem.wp _ _ (.loadIfAlive a _) _ _ _ _;rw[Sem.wp_loadIfAlive];exact h
theorem Zo {z TI TO T:eh}{c:Bool}{Q:Bool->ft->Prop}(hz:Nj s.5 z TI TO T c)(hT:s.heap.get? T=KH oT)(q:∀h',Nj h' z TI TO T KJ->ve z s.5 h'->Q KL { s with heap:=h' }) :
  wpAny (model prog w) A (mj (.ref z)) Q E s:=by
 unfold mj;refine wpAny_bind (qf hz rfl (x:=rawInt T) rfl ?_);show wpAny _ _ (loadIfAlive (AS (T:Int)) >>= _) _ _ _;refine wpAny_bind (yM ?_);rw[gu,hT];show wpAny _ _ (field (.ref z) 1 >>= _) _ _ _;refine wpAny_bind (qf hz rfl (x:=.bool c) rfl ?_)
 cases c with
 |true=>
  exact fq (q s.5 hz (IK _ _))
 |false=>
  refine wpAny_bind (wpAny_setField_rec hz (by simp) λQT XC QU=>?_);exact fq (q QT XC QU)
theorem sP {z TI TO T:eh}{k1 k2:Nat}{xs ys:Array fj}{x y:fj}{c:Bool}{Q:Za0}(D:xt z TI TO i1 i2 l1 l2)
  (hz:Nj s.5 z TI TO T c)(hT:s.heap.get? T=KH oT)(hTI:o0 s.5 TI (.ref i1) (.ref i2))(h1:s.heap.IsListIter i1 l1 k1)(h2:s.heap.IsListIter i2 l2 k2)(hl1:s.heap.IsList l1 xs)(hl2:s.heap.IsList l2 ys)(hx:xs[k1]?=KH x)(hy:ys[k2]?=KH y)
  (hQ:∀h',Nj h' z TI TO T KJ->h'.IsListIter i1 l1 (k1+1)->h'.IsListIter i2 l2 (k2+1)->o0 h' s.heap.objs.8 x y->h'.objs.8=s.heap.objs.8+1->(∀b o,b≠z->b≠i1->b≠i2->s.heap.get? b=KH o->h'.get? b=KH o)->Q (.ref s.heap.objs.8) { s with heap:=h' }) :
  wpAny (model prog w) A (qk.«zip.__next__» {[.ref z],[]}) (λfin s'=>∃v,fin=.done (.ret v)/\Q v s') E s:=by
 show wpAny _ _ (field (.ref z) 2 >>= _) _ _ _;refine wpAny_bind (qf hz rfl (x:=.bool KL) rfl ?_);show wpAny _ _ (field (.ref z) 3 >>= _) _ _ _;refine wpAny_bind (qf hz rfl (x:=.ref TI) rfl ?_);refine wpAny_bind (uq hTI rfl ?_);show wpAny _ _ (mj (.ref z) >>= _) _ _ _;refine wpAny_bind (Zo hz hT λQT XC QU=>?_);rw[if_neg (by decide)];refine wpAny_bind ?_;rw[<-t8];simp only[y4,FC];refine wpAny_bind (wpAny_bind (wpAny_holding ?_));show wpAny _ _ (ra (.ref i1) >>= _) _ _ _;refine wpAny_bind (DF (h1.extBut QU.extBut D.i1z) (hl1.extBut QU.extBut D.l1z) hx λXQ XR QX=>fq ?_);refine fq ?_;refine wpAny_bind (wpAny_bind (wpAny_holding ?_));show wpAny _ _ (ra (.ref i2) >>= _) _ _ _;refine wpAny_bind (DF ((h2.extBut QU.extBut D.i2z).extBut QX.extBut D.i12.symm) ((hl2.extBut QU.extBut D.l2z).extBut QX.extBut D.l2i1) hy λXD XS XE=>fq ?_);refine fq (fq ?_);have hsz:XD.objs.8=s.heap.objs.8:=by rw[XE.1,QX.1,QU.1]
 have kp:∀b o,b≠z->b≠i1->b≠i2->s.heap.get? b=KH o->XD.get? b=KH o:=λb o b1 b2 b3 e=>XE.extBut _ _ b3 (QX.extBut _ _ b2 (QU.extBut _ _ b1 e));have XT:Nj XD z TI TO T KJ:=XE.extBut _ _ D.i2z.symm (QX.extBut _ _ D.i1z.symm XC);show wpAny _ _ (newTuple [x,y] >>= _) _ _ _;refine wpAny_bind (AY (fq {_,rfl,?_}));have hp:XD.objs.8=s.heap.objs.8:=hsz;rw[hp];refine hQ _ (en _ XT) ((XR.extBut XE.extBut D.i12).at λo e=>en _ e) (XS.at λo e=>en _ e) ?_ (by rw[q8,hp]) λb o b1 b2 b3 e=>en _ (kp b o b1 b2 b3 e);rw[<-hp];exact gp _ rfl
theorem Y1 {z TI TO T:eh}{k1 k2:Nat}{xs ys:Array fj}{x y:fj}{c:Bool}{Q:Za7->ft->Prop}(D:xt z TI TO i1 i2 l1 l2)
  (hz:Nj s.5 z TI TO T c)(hT:s.heap.get? T=KH oT)(hTI:o0 s.5 TI (.ref i1) (.ref i2))(h1:s.heap.IsListIter i1 l1 k1)(h2:s.heap.IsListIter i2 l2 k2)(hl1:s.heap.IsList l1 xs)(hl2:s.heap.IsList l2 ys)(hx:xs[k1]?=KH x)(hy:ys[k2]?=KH y)
  (hQ:∀h',Nj h' z TI TO T KJ->h'.IsListIter i1 l1 (k1+1)->h'.IsListIter i2 l2 (k2+1)->o0 h' s.heap.objs.8 x y->h'.objs.8=s.heap.objs.8+1->(∀b o,b≠z->b≠i1->b≠i2->s.heap.get? b=KH o->h'.get? b=KH o)->Q (KH (.ref s.heap.objs.8)) { s with heap:=h' }) :
  wpAny (model prog w) A (pyNext (.ref z)) Q E s:=by
 have hTy:s.TypeIs (.ref z) "zip":={_,hz,rfl};unfold pyNext;exact wpAny_bind (yh (rh (name:=ox "__next__") hTy qx
  (sv qx hTy zt
   (sP D hz hT hTI h1 h2 hl1 hl2 hx hy λh' a1 a2 a3 a4 a5 a6=>fq (hQ h' a1 a2 a3 a4 a5 a6)) (zl _))))
theorem gS {z TI TO T:eh}{k1:Nat}{xs:Array fj}{c:Bool}{Q:Za7->ft->Prop}(hh:A.handled=KI)(D:xt z TI TO i1 i2 l1 l2)
  (hz:Nj s.5 z TI TO T c)(hT:s.heap.get? T=KH oT)(hTI:o0 s.5 TI (.ref i1) (.ref i2))(h1:s.heap.IsListIter i1 l1 k1)(hl1:s.heap.IsList l1 xs)(hx:xs[k1]?=KI)
  (hQ:∀h',(∀b o,b≠z->b≠i1->b≠i2->s.heap.get? b=KH o->h'.get? b=KH o)->Q KI { s with heap:=h' }) :
  wpAny (model prog w) A (pyNext (.ref z)) Q E s:=by
 have hTy:s.TypeIs (.ref z) "zip":={_,hz,rfl};unfold pyNext;refine wpAny_bind (yh (rh (name:=ox "__next__") hTy qx
  (sv qx hTy zt ?_ (zl _))))
 show wpAny _ _ (field (.ref z) 2 >>= _) _ _ _;refine wpAny_bind (qf hz rfl (x:=.bool KL) rfl ?_);show wpAny _ _ (field (.ref z) 3 >>= _) _ _ _;refine wpAny_bind (qf hz rfl (x:=.ref TI) rfl ?_);refine wpAny_bind (uq hTI rfl ?_);show wpAny _ _ (mj (.ref z) >>= _) _ _ _;refine wpAny_bind (Zo hz hT λQT XC QU=>?_);rw[if_neg (by decide)];refine wpAny_bind ?_;rw[<-t8];simp only[y4,FC];refine wpAny_bind (wpAny_bind (wpAny_holding ?_));show wpAny _ _ (ra (.ref i1) >>= _) _ _ _;refine wpAny_bind (wpAny_nextOf_list_end hh (h1.extBut QU.extBut D.i1z) (hl1.extBut QU.extBut D.l1z) hx λXQ e QX he=>?_);obtain⟨oe,hoe,hce⟩:=he;show wpAny _ _ (isInstance (.ref e) (.type "StopIteration") >>= _) _ _ _;refine wpAny_bind (wpAny_isInstance (T:="StopIteration") (b:=KJ) ⟨oe,hoe,hce⟩ isSubtype_stop ?_);exact fq (hQ _ λb o b1 b2 b3 e=>QX _ _ b2 (QU.extBut _ _ b1 e))
end
def Kq (vs:List (Key×fj)):Prop:=∀p∈vs,∃y:V,A8 y p.2
theorem Ur:∀vs:List (Key×fj),Kq vs->∃kvs:List (Key×V),KV kvs vs
 |[],_=>{[],.nil}
 |p::r,h=>by
  obtain⟨kvs,hk⟩:=Ur r λq hq=>h q (gt _ hq);obtain⟨y,hy⟩:=h p gr;exact{(p.1,y)::kvs,.cons ⟨rfl,hy⟩ hk}
theorem Vx:∀{kvs:List (Key×V)} {vs:List (Key×fj)},KV kvs vs->Kq vs
 |_,_,.nil=>λp hp=>by cases hp
 |_,_,.cons h t=>λp hp=>by
  rcases ir.mp hp with rfl|hp
  .exact{_,h.2}
  .exact Vx t p hp
theorem J3 {vs:List (Key×fj)}{k:Key}{u:fj}(h:Kq vs)(hu:∃y:V,A8 y u):Kq (stored vs k u):=by
 intro p hp;unfold stored at hp;split at hp
 .obtain⟨q,hq,e⟩:=lq.mp hp
  split at e
  .rw[<-e];exact hu
  .rw[<-e];exact h q hq
 .rcases ik.mp hp with hp|hp
  .exact h p hp
  .rw[f7.mp hp];exact hu
theorem eI {vs more:List (Key×fj)}(h:Kq vs)(hm:Kq more):Kq (merged vs more):=by
 unfold merged
 induction more generalizing vs with
 |nil=>exact h
 |cons p r ih=>exact ih (J3 h (hm p gr)) λq hq=>hm q (gt _ hq)
section
variable {prog:gl} {w:ip} {A:i9} {E:Za0} {R:xu->ft->Prop}
theorem Bm:plainId "dict.update.loop"=KJ:=by decide +kernel
theorem D6:entryFor table "dict.update.loop"=KH qk.«dict.update.loop»:=entryFor_of_tree (by kernel_rfl)
theorem U8 {T:eh}{x y:fj}{Q:Za3->ft->Prop}(hT:o0 s.5 T x y)(h:Q [x,y] s):wpAny (model prog w) A (qe (.ref T)) Q E s:=by
 have ty:s.TypeIs (.ref T) "tuple":={_,hT,rfl};unfold qe;refine wpAny_bind (qi ty ?_);rw[if_pos (by decide)];exact wpAny_bind (uq hT rfl (fq h))
structure DzA (d z TI TO i1 i2 l1 l2:eh):Prop where
 za:xt z TI TO i1 i2 l1 l2
 dz:d≠z
 dI:d≠TI
 dO:d≠TO
 d1:d≠i1
 d2:d≠i2
 dl:d≠l1
 dm:d≠l2
theorem Aet {d z TI TO T:eh}{xs ys:Array fj}(D:DzA d z TI TO i1 i2 l1 l2)(hTz:T≠z)(hT1:T≠i1)(hT2:T≠i2)(hTd:T≠d)(hh:A.handled=KI)(he:xs.8=ys.8)
  (hk:∀(i:Nat) x,xs[i]?=KH x->∃n t,x=o6 n t)(hv:∀(i:Nat) y,ys[i]?=KH y->∃v:V,A8 v y):∀(m i:Nat) (s:ft) (tk:Tok) (c:Bool) (vs:List (Key×fj)) (oT:Obj),xs.8-i=m->i<=xs.8->Nj s.5 z TI TO T c->s.heap.get? T=KH oT->o0 s.5 TI (.ref i1) (.ref i2) ->
   s.heap.IsListIter i1 l1 i->s.heap.IsListIter i2 l2 i->s.heap.IsList l1 xs->s.heap.IsList l2 ys->s.heap.DictOf (Be prog w) d vs->Kq vs->vs.9+(xs.8-i)<=sizeLine ->
   (∀h' k vs',h'.DictOf (Be prog w) d vs'->Kq vs'->vs'.9<=vs.9+(xs.8-i)->(∀b o,b≠z->b≠i1->b≠i2->b≠d->s.heap.get? b=KH o->h'.get? b=KH o)->R (.ok (.ret .none)) { s with heap:=h',toks:=k }) ->
   codeAny (model prog w) A (.builtin "dict.update.loop" {[.ref d,.ref z,.int i tk,.none],[]}) R s:=by
 intro m
 induction m with
 |zero=>
  intro i s tk c vs oT hm hi hz hT hTI h1 h2 hl1 hl2 hd hkn hsz q;refine ml D6 ?_;rw[j5 Bm _];show wpAny _ A.in1 (pyNext (.ref z) >>= _) _ _ s;refine wpAny_bind (gS (by exact hh) D.za hz hT hTI h1 hl1 (l7 ()) λh' kp=>?_);show wpAny _ A.in1 (sr d [] >>= _) _ _ _;refine wpAny_bind (fq (fq ?_));obtain⟨o,es,ep,ho,r⟩:=hd;exact q h' s.toks vs {o,es,ep,kp _ _ D.dz D.d1 D.d2 ho,r} hkn (jj _ _) λb o b1 b2 b3 _ e=>kp b o b1 b2 b3 e
 |succ m ih=>
  intro i s tk c vs oT hm _ hz hT hTI h1 h2 hl1 hl2 hd hkn hsz q;have hi:i<xs.8:=Nat.lt_of_sub_eq_succ hm;have em:xs.8-(i+1)=m:=by rw[Nat.sub_add_eq,hm];rfl
  rw[hm] at hsz q;obtain⟨x,hx⟩:∃x,xs[i]?=KH x:={_,jr hi};obtain⟨y,hy⟩:∃y,ys[i]?=KH y:={_,jr (he▸hi)};obtain⟨n,t,rfl⟩:=hk i x hx;refine ml D6 ?_;rw[j5 Bm _];show wpAny _ A.in1 (pyNext (.ref z) >>= _) _ _ s;refine wpAny_bind (Y1 D.za hz hT hTI h1 h2 hl1 hl2 hx hy λh' hz' h1' h2' hp hsz' kp=>?_);have hd':h'.DictOf (Be prog w) d vs:=by
   obtain⟨o,es,ep,ho,r⟩:=hd;exact{o,es,ep,kp _ _ D.dz D.d1 D.d2 ho,r}
  show wpAny _ A.in1 (holding _ _ >>= _) _ _ _;refine wpAny_bind (wpAny_holding (wpAny_bind (AX (U8 hp ?_))));show wpAny _ A.in1 (holding _ (dictSet d (.int n t) y)) _ _ _;refine wpAny_holding (x9 (knd:=Be prog w) (k:=.inl n) (Ld prog w n t) hd' (λh2 dd' hs=>?_) ());have k2:∀b o,b≠z->b≠i1->b≠i2->b≠d->s.heap.get? b=KH o->h2.get? b=KH o:=λb o b1 b2 b3 b4 e=>(hs.2 b b4).trans (kp b o b1 b2 b3 e);have st:∀b o,b≠d->h'.get? b=KH o->h2.get? b=KH o:=λb o b4 e=>(hs.2 b b4).trans e;have hln:=zo vs (vj n:Key) y;refine fq {ol Bm _,?_};refine ih (i+1) _ _ KJ _ oT em hi (st _ _ D.dz.symm hz') (k2 _ _ hTz hT1 hT2 hTd hT) (k2 _ _ D.za.TIz D.za.TIi1 D.za.TIi2 D.dI.symm hTI) (h1'.at λo e=>st _ o D.d1.symm e) (h2'.at λo e=>st _ o D.d2.symm e)
   (hl1.at λo e=>k2 _ o D.za.l1z D.za.l1i1 D.za.l1i2 D.dl.symm e) (hl2.at λo e=>k2 _ o D.za.l2z D.za.l2i1 D.za.l2i2 D.dm.symm e) dd' (J3 hkn (hv i y hy)) (by rw[em];lia) λh3 k vs' hd3 hkn3 hl3 kp3=>?_
  exact q h3 k vs' hd3 hkn3 (by rw[em] at hl3;lia) λb o b1 b2 b3 b4 e=>kp3 b o b1 b2 b3 b4 (k2 b o b1 b2 b3 b4 e)
theorem sQ {tk:Tok}{d z TI TO:eh}{a b:fj}{xs ys:Array fj}{vs:List (Key×fj)}(D:DzA d z TI TO i1 i2 l1 l2)(hh:A.handled=KI)(he:xs.8=ys.8)
  (hk:∀(i:Nat) x,xs[i]?=KH x->∃n t,x=o6 n t)(hv:∀(i:Nat) y,ys[i]?=KH y->∃v:V,A8 v y)(hz:GH s.5 z TI TO .none)(hTO:o0 s.5 TO a b)(hTI:o0 s.5 TI (.ref i1) (.ref i2))
  (h1:s.heap.IsListIter i1 l1 0)(h2:s.heap.IsListIter i2 l2 0)(hl1:s.heap.IsList l1 xs)(hl2:s.heap.IsList l2 ys)(hd:s.heap.DictOf (Be prog w) d vs)(hkn:Kq vs)(hsz:vs.9+xs.8<=sizeLine)
  (q:∀h' k vs',h'.DictOf (Be prog w) d vs'->Kq vs'->vs'.9<=vs.9+xs.8->(∀b o,b≠z->b≠TO->b≠i1->b≠i2->b≠d->s.heap.get? b=KH o->h'.get? b=KH o)->R (.ok (.ret .none)) { s with heap:=h',toks:=k }) :
  codeAny (model prog w) A (.builtin "dict.update.loop" {[.ref d,.ref z,.int 0 tk,.none],[]}) R s:=by
 refine ml D6 ?_;rw[j5 Bm _];show wpAny _ A.in1 (pyNext (.ref z) >>= _) _ _ s;rcases qq xs.8 with h0|h0
 .refine wpAny_bind (EK (by exact hh) D.za hz hTI hTO h1 h2 hl1 hl2 (.inl (l7 ())) λh' kp=>?_)
  show wpAny _ A.in1 (sr d [] >>= _) _ _ _;refine wpAny_bind (fq (fq ?_));obtain⟨o,es,ep,ho,r⟩:=hd;exact q h' s.toks vs {o,es,ep,kp _ _ D.dz D.dO D.d1 D.d2 ho,r} hkn (jj _ _) λb o b1 b2 b3 b4 _ e=>kp b o b1 b2 b3 b4 e
 .obtain⟨x,hx⟩:∃x,xs[0]?=KH x:={_,jr h0}
  obtain⟨y,hy⟩:∃y,ys[0]?=KH y:={_,jr (show 0<ys.8 by lia)};obtain⟨n,t,rfl⟩:=hk 0 x hx;refine wpAny_bind (DS D.za hz hTI hTO h1 h2 hl1 hl2 hx hy λh' hz' _ h1' h2' hp hsz' kp=>?_);have hd':h'.DictOf (Be prog w) d vs:=by
   obtain⟨o,es,ep,ho,r⟩:=hd;exact{o,es,ep,kp _ _ D.dz D.dO D.d1 D.d2 ho,r}
  have lt:∀{c o},s.heap.get? c=KH o->s.heap.objs.8≠c:=λe=>jz (fu e);have ltd:s.heap.objs.8≠d:=by
   obtain⟨o,es,ep,ho,r⟩:=hd;exact lt ho
  show wpAny _ A.in1 (holding _ _ >>= _) _ _ _;refine wpAny_bind (wpAny_holding (wpAny_bind (AX (U8 hp ?_))));show wpAny _ A.in1 (holding _ (dictSet d (.int n t) y)) _ _ _;refine wpAny_holding (x9 (knd:=Be prog w) (k:=.inl n) (Ld prog w n t) hd' (λhb dd' hs=>?_) ());have k2:∀b o,b≠z->b≠TO->b≠i1->b≠i2->b≠d->s.heap.get? b=KH o->hb.get? b=KH o:=λb o b1 b2 b3 b5 b4 e=>(hs.2 b b4).trans (kp b o b1 b2 b3 b5 e);have st:∀b o,b≠d->h'.get? b=KH o->hb.get? b=KH o:=λb o b4 e=>(hs.2 b b4).trans e;have hln:=zo vs (vj n:Key) y;refine fq {ol Bm _,?_};refine Aet D (T:=s.heap.objs.8) (lt hz) (by obtain⟨_,e,_⟩:=h1;exact lt e) (by obtain⟨_,e,_⟩:=h2;exact lt e) ltd hh he hk hv _ 1 _ _ KL _ _ rfl h0 (st _ _ D.dz.symm hz') (st _ _ ltd hp) (k2 _ _ D.za.TIz D.za.TITO D.za.TIi1 D.za.TIi2 D.dI.symm hTI) (h1'.at λo e=>st _ o D.d1.symm e) (h2'.at λo e=>st _ o D.d2.symm e)
   (hl1.at λo e=>k2 _ o D.za.l1z D.za.l1TO D.za.l1i1 D.za.l1i2 D.dl.symm e) (hl2.at λo e=>k2 _ o D.za.l2z D.za.l2TO D.za.l2i1 D.za.l2i2 D.dm.symm e) dd' (J3 hkn (hv 0 y hy)) (by have e1:=uc h0;generalize xs.8-1=m at e1 ⊢;lia) λh3 k vs' hd3 hkn3 hl3 kp3=>?_
  exact q h3 k vs' hd3 hkn3 (by have e1:=uc h0;generalize xs.8-1=m at e1 hl3;lia) λb o b1 b2 b3 b5 b4 e=>kp3 b o b1 b3 b5 b4 (k2 b o b1 b2 b3 b5 b4 e)
theorem Yd {z TI TO:eh}{a b:fj}{xs ys:Array fj}{Q:Za0}(D:xt z TI TO i1 i2 l1 l2)(hh:A.handled=KI)(he:xs.8=ys.8)
  (hk:∀(i:Nat) x,xs[i]?=KH x->∃n t,x=o6 n t)(hv:∀(i:Nat) y,ys[i]?=KH y->∃v:V,A8 v y)(hz:GH s.5 z TI TO .none)(hTO:o0 s.5 TO a b)(hTI:o0 s.5 TI (.ref i1) (.ref i2))
  (h1:s.heap.IsListIter i1 l1 0)(h2:s.heap.IsListIter i2 l2 0)(hl1:s.heap.IsList l1 xs)(hl2:s.heap.IsList l2 ys)(hsz:xs.8<=sizeLine)
  (q:∀h' k vs',h'.DictOf (Be prog w) s.heap.objs.8 vs'->Kq vs'->vs'.9<=xs.8->(∀b o,b≠z->b≠TO->b≠i1->b≠i2->s.heap.get? b=KH o->h'.get? b=KH o)->Q (.ref s.heap.objs.8) { s with heap:=h',toks:=k }) :
  wpAny (model prog w) A (call (.type "dict") [.ref z]) Q E s:=by
 refine BE (Q₁:=λobj QN=>obj=.ref s.heap.objs.8/\QN={ s with heap:=s.heap.push { cls:=.type "dict",data:=.dict #[] } }) zr (yr _) zk (GL _ ⟨rfl,rfl⟩) ?_;rintro obj QN ⟨rfl,rfl⟩;have hnew:(s.heap.push { cls:=.type "dict",data:=.dict #[] }).DictOf (Be prog w) s.heap.objs.8 []:=xg s.5;have up:∀b o,s.heap.get? b=KH o->(s.heap.push { cls:=.type "dict",data:=.dict #[] }).get? b=KH o:=λb o e=>en _ e;have lt:∀{c o},s.heap.get? c=KH o->s.heap.objs.8≠c:=λe=>jz (fu e);refine{hnew.typeIs,zf _ _,?_};unfold qk.«dict.__init__»;refine wpAny_bind ?_;unfold x8;refine wpAny_bind (DU hnew.typeIs ?_);show wpAny _ _ (pure (s.heap.objs.8,[jc z])) _ _ _;refine fq ?_;show wpAny _ _ (pj "dict.__init__" s.heap.objs.8 (.ref z) [] .none) _ _ _;unfold pj;have hz':=up _ _ hz;refine wpAny_bind (qi (T:="zip") {_,hz',rfl} ?_);rw[if_pos (by decide)];refine wpAny_bind (Acj hz' (by exact hh) λh' tk kp=>?_);rw[if_pos (by rfl)];refine wpAny_bind (ur (wpAny_bind (wa (kp _ _ hz') ?_)));have up2:∀b o,s.heap.get? b=KH o->h'.get? b=KH o:=λb o e=>kp _ _ (up b o e);have hd':h'.DictOf (Be prog w) s.heap.objs.8 []:=by
  obtain⟨o,es,ep,ho,r⟩:=hnew;exact{o,es,ep,kp _ _ ho,r}
 refine fq {ol Bm _,?_};refine sQ (a:=a) (b:=b) (vs:=[]) {D,lt hz,lt hTI,lt hTO,?_,?_,?_,?_} (by exact hh) he hk hv (up2 _ _ hz) (up2 _ _ hTO) (up2 _ _ hTI) (h1.at λo e=>up2 _ o e) (h2.at λo e=>up2 _ o e) (hl1.at λo e=>up2 _ o e) (hl2.at λo e=>up2 _ o e) hd' (λp hp=>by cases hp) (by simpa using hsz) λh3 k vs' hd3 hkn3 hl3 kp3=>?_
 .obtain⟨_,e,_⟩:=h1;exact lt e
 .obtain⟨_,e,_⟩:=h2;exact lt e
 .obtain⟨_,e,_⟩:=hl1;exact lt e
 .obtain⟨_,e,_⟩:=hl2;exact lt e
 .exact{rfl,q h3 k vs' hd3 hkn3 (by simpa using hl3) λb o b1 b2 b3 b4 e=>kp3 b o b1 b2 b3 b4 (lt e).symm (up2 _ _ e)}
end
theorem Jf:∀{kvs:List (Key×V)} {vs:List (Key×fj)},KV kvs vs->kvs.9=vs.9
 |_,_,.nil=>rfl
 |_,_,.cons _ t=>congrArg (·+1) (Jf t)
section
variable {X:Cx}
def Ads (K:d6)(ta:TA):TE:=λG H Q=>ta G H λvs H1=>∃a b ns ys,vs=[.ref a,.ref b]/\SqL K H1 a (x4 V.int ns)/\SqL K H1 b ys/\ns.9=ys.9/\∀p kvs,H1 p=KI->kvs.9<=ns.9->Q (.ref p) (upd H1 p (.dK kvs))
theorem Acr {a b:ja}{ta:TA}{p q:Pos}(hcal:X.calm=KJ)(hg:Gl X "dict")(hm:X.mg "dict"=KI)(hg2:Gl X "zip")(hm2:X.mg "zip"=KI)(ha:PA X [a,b] ta)
  (hs:autoParam (starEach [a,b] X.env=[(KL,eval a X.env),(KL,eval b X.env)]) QD)(hs2:autoParam (starEach [b] X.env=[(KL,eval b X.env)]) QD)
  (hs3:autoParam (starEach [wu (.Name "zip" q) [a,b] [] pos2] X.env=[(KL,eval (.Call (.Name "zip" q) [a,b] [] pos2) X.env)]) QD) :
  PE X (.Call (.Name "dict" p) [.Call (.Name "zip" q) [a,b] [] pos2] [] pos) (Ads X.K ta):=by
 k_in;refine wpAny_Call_Name_kw (Do I hg hm zE (ij ?_ hs3 rfl) (by decide) (by decide));rw[hs3];refine lr ?_;show wpAny _ _ (eval (wu (.Name "zip" q) [a,b] [] pos2) X.env) _ _ _;refine wpAny_Call_Name_kw (Do I hg2 hm2 yQ (ij (thA ha I h λus s1 vs H1 I1 r1 q1=>?_) (by rw[hs,hs2]) (by rw[hs2];rfl)) (by decide) (by decide));obtain⟨a,b,ns,ys,e,hx,hy,hl,q⟩:=q1;subst e;obtain⟨u,v,rfl,ru,rv⟩:=Ng r1;cases ru;cases rv;obtain⟨its,rv,p,hz⟩:=I1.list hx;obtain⟨its2,rv2,p2,hz2⟩:=I1.list hy;have l1:=rv.9;have l2:=rv2.9;rw[d7] at l1;refine FL p.isList p2.isList λh' g1 g2 g3 g4 g5 hsz kk=>?_;refine nz ?_;have A1:h'.IsList a its.6:=p.isList.at λo e=>kk _ o e;have A2:h'.IsList b its2.6:=p2.isList.at λo e=>kk _ o e;have D:=eA (Nq _) ({g1,g2,{_,_,g3},g4,g5}:StZ _ _ _ _ _ a b 0 h') A1 A2;refine Yd (s:={ s1 with heap:=h' }) D (I1.ok.hd hcal) (by simp;lia) (λi x e=>?_) (λi y e=>?_) g1 g3 g2 g4 g5 A1 A2 (by simp;rw[d7] at hz;lia) λh2 k vs' d2 kn lv kp=>?_
 .have e':its[i]?=KH x:=by simpa using e
  have li:=(fc.mp e').1;have hn:(x4 V.int ns)[i]?=KH (.int (ns[i]'())):=by rw[d9,d4 ()];rfl
  obtain⟨u,hu,t,rfl⟩:=rv.get hn;rw[e'] at hu;cases hu;exact{_,_,rfl}
 .have e':its2[i]?=KH y:=by simpa using e
  have li:=(fc.mp e').1;obtain⟨u,hu,rr⟩:=rv2.get (d4 (show i<ys.9 by lia));rw[e'] at hu;cases hu;exact{_,rr}
 .obtain⟨kvs,hk⟩:=Ur vs' kn
  have lk:=Jf hk;have hle:s1.heap.objs.8<=h'.objs.8:=()
  have lns:kvs.9<=ns.9:=by simp at lv;lia
  refine{.ref h'.objs.8,_,I1.laid (a:=h'.objs.8) (o:=.dK kvs) (t':=k) (λb o e=>?_) hle {?_,?_,vs',hk,d2},rfl,q _ kvs (I1.hok.fresh hle) lns}
  .have lt:=fu e
   have ne:∀c,s1.heap.objs.8<=c->b≠c:=λc hc z=>l8 _ (fv lt (z▸hc));exact kp b o (ne _ (jj _ _)) (ne _ (jj _ _)) (ne _ (d8 _)) (ne _ (jj _ _)) (kk _ _ e)
  .rw[d7] at hz;lia
  .exact beq_eq_false_iff_ne.mpr (rk (gw (fv (gL I1) hle)))
theorem Aer {G:St}{Q:VK}{ta:TA}{K:d6}(h:ta G H λvs H1=>∃a b ns ys,vs=[.ref a,.ref b]/\SqL K H1 a (x4 V.int ns)/\SqL K H1 b ys/\ns.9=ys.9/\∀p kvs,H1 p=KI->kvs.9<=ns.9->Q (.ref p) (upd H1 p (.dK kvs))):Ads K ta G H Q:=h
def rA:V->List V->Hp->VK->Prop:=λx vs H Q=>∃a b kvs kvs2,x=.ref a/\vs=[.ref b]/\a≠b/\H a=KH (.dK kvs)/\H b=KH (.dK kvs2)/\kvs.9+kvs2.9<=sizeLine/\∀kvs',kvs'.9<=kvs.9+kvs2.9->Q .non (upd H a (.dK kvs'))
theorem sZ:MtM X "dict.update" rA:=by
 intro pins s G H x vs v us Q I rx rv h;obtain⟨a,b,kvs,kvs2,rfl,rfl,hne,hA,hB,hz,q⟩:=h;cases rx;obtain⟨u,rfl,ru⟩:=Fl rv;cases ru;obtain⟨z1,m1,v1,k1,d1⟩:=(show Ct X.prog X.w H s.5 a (.dK kvs) from I.hok a _ hA);obtain⟨z2,m2,v2,k2,d2⟩:=(show Ct X.prog X.w H s.5 b (.dK kvs2) from I.hok b _ hB);have e1:=Jf k1;have e2:=Jf k2;refine DK ze d1.typeIs PySem.F.entry_dict_update (PySem.F.args_dict_update_2 _ _) (meets_dict_update (Be X.prog X.w) a b hne m2)
  {v1,v2,d1,d2,(),λh' dd _ hs=>?_}
 have lm:=merged_length_le v1 v2;obtain⟨kvs',hk⟩:=Ur (merged v1 v2) (eI (Vx k1) (Vx k2));have lk:=Jf hk;refine{.non,_,I.write (x:=a) (e:=a) (o:=.dK kvs') (t':=s.toks) (by rw[hA];trivial) (.inl rfl) (λb u hb e=>(hs.2 b hb).trans e) ?_ {(),m1,_,hk,dd},rfl,q kvs' ()};obtain⟨o,es,ep,ho,r⟩:=dd;exact⟨o,ho⟩
end
theorem Ul:∀{us:Za3},xs.9=us.9->(∀(i:Nat) x u,xs[i]?=KH x->us[i]?=KH u->A8 x u)->Ax xs us:=by
 induction xs with
 |nil=>intro us hl _;obtain rfl:=ux.mp hl.symm;exact .nil
 |cons x xs ih=>
  intro us hl h
  cases us with
  |nil=>cases hl
  |cons u us=>exact .cons (h 0 x u rfl rfl) (ih (sh hl) λi y v e1 e2=>h (i+1) y v e1 e2)
structure iF (K:d6) (x qual:Str) (st:i4) (f:eh) (fd:jx):Prop where
 ex:∃(oc:fj) (od:Option eh) (T:eh) (kV doc pm:fj) (an:Option eh) (cdv ct:fj) (osl:Array (Za7)) (o:Obj) (v:fj) (n:Nat),
  fd=jl x qual (B2 st) (Bj st) (Ac st) (.ref T) kV doc pm an cdv ct/\K.lookup f=KH {oc,od,.func fd,osl}/\lz K cdv qual=KJ/\K.lookup T=KH o/\o.data=.seq #[v] n
section
variable {P:gl} {w:ip} {K:d6} {mg:Za2} {base:jm}
theorem iF.okE {x:Str}{st:i4}{f:eh}{k:Nat}(F:iF K x qual st f fd)(S:Ah N ps (Ac st))(len:∀vs H Q E,sp vs H Q E->vs.9=ps.9)
  (hbody:∀(cdv:fj) (A:i9) (outer:List Env) (s:ft) (H:Hp) (vs:List V) (Q:VK) (E:XK),Co k (A.deeper (envOfC qual (Ac st) s.heap.objs.8 f cdv))->sp vs H Q E ->
   ∃t,PSs (iC (CXE P w) P w K mg base N qual (Ac st) f cdv A outer s H E) (Bj st) t/\t { nx:=λ_ H'=>Q .non H',rt:=Q } (Nh N vs) H):Ar P w K mg base (CXE P w) (k+1) f fd ps sp:=by
 obtain⟨oc,od,T,kV,doc,pm,an,cdv,ct,osl,o,v,n,rfl,lk,hcd,_⟩:=F.ex;exact vC lk hcd S len λA outer s H vs Q E hr hsp=>hbody cdv A outer s H vs Q E hr hsp
theorem iF.binds {x:Str}{st:i4}{f:eh}(F:iF K x qual st f fd)
  (h:∀(T:eh) (kV doc pm:fj) (an:Option eh) (cdv ct:fj) (us:Za3),us.9=ps.9->∃k,bindArgs (jl x qual (B2 st) (Bj st) (Ac st) (.ref T) kV doc pm an cdv ct) {us,[]}=seqItems? (.ref T) >>= k/\∀v,k (KH #[v])=pure (ps.zip us)):Fp K fd ps []:=by
 obtain⟨oc,od,T,kV,doc,pm,an,cdv,ct,osl,o,v,n,rfl,lk,hcd,hT,hd⟩:=F.ex;intro s us KX hl;rw[gv] at hl ⊢;obtain⟨k,h1,h2⟩:=h T kV doc pm an cdv ct us hl;exact AU rfl (KX _ _ hT) hd h1 (h2 v)
theorem Acu {x:Str}{st:i4}{f T:eh}{osl:Array (Za7)}{kV v:fj}{o:Obj}(l:K.lookup f=KH {oc,od,.func (jl x qual (B2 st) (Bj st) (Ac st) (.ref T) kV doc pm an cdv ct),osl})
  (c:lz K cdv qual=KJ)(hT:K.lookup T=KH o)(hd:o.data=.seq #[v] n):iF K x qual st f (jl x qual (B2 st) (Bj st) (Ac st) (.ref T) kV doc pm an cdv ct):={⟨oc,od,T,kV,doc,pm,an,cdv,ct,osl,o,v,n,rfl,l,c,hT,hd⟩}
end
section
variable {G:St} {H:Hp}
theorem Aey {to ti:TE}{t:Aba}{v:V}{R:St->Hp->Prop}(h:to G H λo H1=>ti G H1 λi H2=>t o i v H2 λH3=>R G H3):Ahz to ti t v G H R:=h
theorem Aau {j:Nat}(h:j<n):ixN n (j:Int)=KH j:=by
 unfold ixN;rw[if_pos (),if_pos ()];simp
theorem xP {p:eh}{j:Nat}{i:Int}{v:V}{R:Hp->Prop}(h:H p=KH (.lst xs))(hi:i=j)(hj:j<xs.9)(q:R (upd H p (.lst (xs.set j v)))):Adk (.ref p) (.int i) v H R:=
 {p,xs,i,j,rfl,rfl,h,by rw[hi];exact Aau hj,q}
theorem zF {a b:eh}{kvs kvs2:List (Key×V)}{Q:VK}(hn:a≠b)(h1:H a=KH (.dK kvs))(h2:H b=KH (.dK kvs2))(hz:kvs.9+kvs2.9<=sizeLine)(q:∀kvs',kvs'.9<=kvs.9+kvs2.9->Q .non (upd H a (.dK kvs'))):rA (.ref a) [.ref b] H Q:=
 ⟨a,b,kvs,kvs2,rfl,rfl,hn,h1,h2,hz,q⟩
end
section
variable {κ:Type} [DecidableEq κ]
def Cn (kvs:List (κ×V))(k:κ):Option V:=(kvs.find? λkv=>decide (kv.1=k)).map (·.2)
def Lf (kvs:List (κ×V))(k:κ)(v:V):List (κ×V):=
 if(kvs.any λkv=>decide (kv.1=k))=KJ then kvs.map (λkv=>if kv.1=k then(kv.1,v) else kv) else kvs++[(k,v)]
theorem Ew {p:κ×V}{r:List (κ×V)}{k:κ}(e:p.1=k):Cn (p::r) k=KH p.2:=by simp[Cn,vt,e]
theorem Er {p:κ×V}{r:List (κ×V)}{k:κ}(e:¬ p.1=k):Cn (p::r) k=Cn r k:=by simp[Cn,vt,e]
theorem Vi (k:κ):∀kvs:List (κ×V),(kvs.any λkv=>decide (kv.1=k))=(Cn kvs k).isSome
 |[]=>rfl
 |p::r=>by
  rw[ul]
  by_cases e:p.1=k
  .simp only[Ew e,decide_eq_true e,Bool.true_or,Option.isSome_some]
  .rw[Er e,decide_eq_false e,Bool.false_or];exact Vi k r
theorem jG (k j:κ)(y:V):∀kvs:List (κ×V),Cn (kvs.map λkv=>if kv.1=k then(kv.1,y) else kv) j=(Cn kvs j).map λx=>if j=k then y else x
 |[]=>rfl
 |p::r=>by
  have ih:=jG k j y r;rw[iu]
  by_cases h:p.1=k
  .rw[if_pos h]
   by_cases e:p.1=j
   .rw[Ew (p:=(p.1,y)) e,Ew e,sg,if_pos (e.symm.trans h)]
   .rw[Er (p:=(p.1,y)) e,Er e,ih]
  .rw[if_neg h]
   by_cases e:p.1=j
   .rw[Ew (p:=p) e,Ew e,sg,if_neg (λz=>h (e.trans z))]
   .rw[Er (p:=p) e,Er e,ih]
theorem Zc (k j:κ)(y:V):∀kvs:List (κ×V),Cn kvs k=KI->Cn (kvs++[(k,y)]) j=if j=k then KH y else Cn kvs j
 |[],_=>by
  by_cases e:k=j
  .rw[if_pos e.symm];exact Ew (p:=(k,y)) e
  .rw[if_neg (λz=>e z.symm)];exact Er (p:=(k,y)) e
 |p::r,hn=>by
  rw[m9];have hk:¬ p.1=k:=λz=>by rw[Ew z] at hn;cases hn
  rw[Er hk] at hn;have ih:=Zc k j y r hn
  by_cases e:p.1=j
  .rw[Ew e,Ew e,if_neg (λz=>hk (e.trans z))]
  .rw[Er e,Er e,ih]
theorem Jv (kvs:List (κ×V))(k j:κ)(y:V):Cn (Lf kvs k y) j=if j=k then KH y else Cn kvs j:=by
 unfold Lf
 by_cases a:(kvs.any λkv=>decide (kv.1=k))=KJ
 .rw[if_pos a,jG]
  rw[Vi] at a
  by_cases e:j=k
  .obtain⟨x,hx⟩:=ln.mp a
   rw[if_pos e,e,hx,sg,if_pos rfl]
  .rw[if_neg e]
   cases Cn kvs j with
   |none=>rfl
   |some x=>rw[sg,if_neg e]
 .rw[if_neg a]
  refine Zc k j y kvs ?_;rw[Vi] at a
  cases q:Cn kvs k with
  |none=>rfl
  |some x=>rw[q] at a;exact(a rfl).elim
theorem Lg (kvs:List (κ×V))(k:κ)(v:V):(Lf kvs k v).9<=kvs.9+1:=by
 unfold Lf;split
 .rw[d7];lia
 .rw[eg,gm,jt];lia
theorem Oe.getD {o:Option V}{u:Za7}{d:V}{d':fj}(r:Oe o u)(rd:A8 d d'):A8 (o.getD d) (u.getD d'):=by
 cases o with
 |none=>cases u with
  |none=>exact rd
  |some _=>exact(show False from r).elim
 |some _=>cases u with
  |none=>exact(show False from r).elim
  |some _=>exact r
theorem KV.val {kvs:List (κ×V)}{vs:List (κ×fj)}(r:KV kvs vs)(k:κ):Oe (Cn kvs k) (valueAt vs k):=by
 unfold KV at r
 induction r with
 |nil=>exact qm
 | @cons p q ps qs h t ih=>
  obtain⟨h1,h2⟩:=h
  by_cases e:p.1=k
  .have e':q.1=k:=h1.symm.trans e
   have b:valueAt (q::qs) k=KH q.2:=by simp[valueAt,vt,e']
   rw[Ew e,b];exact h2
  .have e':¬ q.1=k:=λz=>e (h1.trans z)
   have b:valueAt (q::qs) k=valueAt qs k:=by simp[valueAt,vt,e']
   rw[Er e,b];exact ih
theorem KV.any {kvs:List (κ×V)}{vs:List (κ×fj)}(r:KV kvs vs)(k:κ):(kvs.any λkv=>decide (kv.1=k))=vs.any λkv=>decide (kv.1=k):=by
 unfold KV at r
 induction r with
 |nil=>rfl
 |cons h t ih=>rw[ul,ul,ih,h.1]
theorem KV.repl {kvs:List (κ×V)}{vs:List (κ×fj)}(r:KV kvs vs)(k:κ){u:fj}(ry:A8 y u) :
  KV (kvs.map λkv=>if kv.1=k then(kv.1,y) else kv) (vs.map λkv=>if kv.1=k then(kv.1,u) else kv):=by
 unfold KV at r ⊢
 induction r with
 |nil=>exact .nil
 | @cons p q ps qs h t ih=>
  rw[iu,iu];refine .cons ?_ ih;obtain⟨h1,h2⟩:=h
  by_cases e:p.1=k
  .rw[if_pos e,if_pos (h1.symm.trans e)];exact⟨h1,ry⟩
  .rw[if_neg e,if_neg (λz=>e (h1.trans z))];exact⟨h1,h2⟩
theorem KV.put {kvs:List (κ×V)}{vs:List (κ×fj)}(r:KV kvs vs)(k:κ){u:fj}(ry:A8 y u):KV (Lf kvs k y) (stored vs k u):=by
 unfold Lf stored;rw[r.any k]
 by_cases e:(vs.any λkv=>decide (kv.1=k))=KJ
 .rw[if_pos e,if_pos e];exact r.repl k ry
 .rw[if_neg e,if_neg e];exact Paired.snoc r ⟨rfl,ry⟩
theorem KV.length {kvs:List (κ×V)}{vs:List (κ×fj)}(r:KV kvs vs):kvs.9=vs.9:=EQ r
end
theorem wO {P:gl}{k:Key}{u:fj}(r:A8 (kV k) u):(Be P w).is k u=KJ:=by
 cases k with
 |inl i=>obtain⟨t,e⟩:=(show ∃t,u=o6 i t from r);subst e;exact Ld P w i t
 |inr x=>obtain⟨t,e⟩:=(show ∃t,u=ql x t from r);subst e;exact R9 P w x t
section
variable {P:gl} {w:ip} {H:Hp} {h:jm} {a:eh}
theorem Aha {u:HO}(ok:HOk P w H h)(e:Rd H a u):Ct P w H h a u:=e.ok ok
theorem Agd {kvs:List (Key×V)}(ok:HOk P w H h)(e:Rd H a (.dK kvs)):kvs.9<=sizeLine/\(a==sysModules)=KL/\∃vs,KV kvs vs/\h.DictOf (Be P w) a vs:=
 show Ct P w H h a (.dK kvs) from Aha ok e
theorem Zi {kvs:List (Key×V)}(ok:HOk P w H h)(e:H a=KH (.dK kvs)):kvs.9<=sizeLine/\(a==sysModules)=KL/\∃vs,KV kvs vs/\h.DictOf (Be P w) a vs:=Agd ok (.inl e)
end
section
variable {X:Cx} {pins:Za1} {G:St} {H:Hp} {s:ft} {a:eh} {y v:V} {u r:fj} {o:Option V} {A:i9} {E:Za0}
theorem Aa3 {ob:HO}(I:Inv X pins G H s)(mu:Mut (H a))(hs:ve a s.5 h')(he:∃q,h'.get? a=KH q)(new:Ct X.prog X.w (upd H a ob) h' a ob) :
  Inv X pins G (upd H a ob) { s with heap:=h',toks:=t' }:=
 I.write (x:=a) (e:=a) mu (.inl rfl) (λb q hb z=>(hs.2 b hb).trans z) he new
theorem Afn {P:gl}{kvs:List (Key×V)}{vs:List (Key×fj)}(z:kvs.9<=sizeLine)(hd:(a==sysModules)=KL)(rel:KV kvs vs)(dd:h'.DictOf (Be P w) a vs) :
  Ct P w H' h' a (.dK kvs):=⟨z,hd,vs,rel,dd⟩
end
end _L
end
section
namespace _W
structure Ord (ns:Za4):Prop where
 lt:∀x∈ns,x<ns.9
 nd:ns.Nodup
end _W
end
section
namespace _L
open PySem PySem.Spec PyProof.Rows
structure vP (P:gl) (w:ip) (K:d6) (mg:Za2) (base:jm) (name:Str) (C:eh) (k:Nat) (ps:Za6) (sp:Sp) (dvs:List V):Prop where
 ex:∃(f:eh) (fd:jx) (ds:Za3),Ar P w K mg base (CXE P w) k f fd ps sp/\Fp K fd ps ds/\Ax dvs ds/\Mk K C f/\mg name=KH (.ref C)
section
variable {X:Cx} {k:Nat} {C:eh} {ps:Za6} {sp:Sp} {dvs:List V} {name m:Str} {p pos apos:Pos} {e o:ja} {es:List ja} {ta:TE} {t:TA} {E:XK}
theorem Abb (M:vP X.prog X.w X.K X.mg X.base name C k ps sp dvs)(hr:Co (k+1) X.A)(hx:J5 (CXE X.prog X.w) X E)(ha:PA X (e::es) t)(hg:autoParam (Gl X name) QD)(hdb:autoParam ((name==("__debug__":Str))=KL) QF)
  (he:autoParam (starEach (e::es) X.env=(KL,eval e X.env)::starEach es X.env) QD)(hpl:autoParam ((backTo pos (starEach es X.env)).any (·.1)=KL) QD):PE X (.Call (.Name name p) (e::es) [] pos) (rZ C sp dvs E t):=by
 obtain⟨f,fd,ds,F,b,rd,M,hm⟩:=M.ex;exact pF M F hr hg hm b rd hx ha hdb he hpl
end
theorem iF.bindsD {K:d6}{x:Str}{st:i4}{T:eh}{kV v:fj}{o:Obj}{m:Nat}(hT:K.lookup T=KH o)(hd:o.data=.seq #[v] n)(hm:ps.9=m+1)
  (h:∀(us:Za3),us.9=m->∃k,bindArgs (jl x qual (B2 st) (Bj st) (Ac st) (.ref T) kV doc pm an cdv ct) {us,[]}=seqItems? (.ref T) >>= k/\k (KH #[v])=pure (ps.zip (us++[v]))):Fp K (jl x qual (B2 st) (Bj st) (Ac st) (.ref T) kV doc pm an cdv ct) ps [v]:=by
 intro s us KX hl;obtain⟨k,h1,h2⟩:=h us (by rw[eg,hm] at hl;exact sh hl);exact AU rfl (KX _ _ hT) hd h1 h2
end _L
end
section
namespace _W
section
variable {α:Type} (lt:α->α->Bool)
def mg (xs ys:List α):List α:=xs.merge ys λx y=>!lt y x
theorem Kd (ys:List α):mg lt [] ys=ys:=List.nil_merge _
theorem Ez (xs:List α):mg lt xs []=xs:=List.merge_right _
theorem fF (x y:α)(xs ys:List α):mg lt (x::xs) (y::ys)=if lt y x=KJ then y::mg lt (x::xs) ys else x::mg lt xs (y::ys):=by
 refine(List.cons_merge_cons ..).trans ?_;cases lt y x<;>rfl
theorem zB {P:List α->List α->Prop}(h1:∀ys,P [] ys)(h2:∀x xs,P (x::xs) [])(h3:∀x xs y ys,P (x::xs) ys->P xs (y::ys)->P (x::xs) (y::ys))(xs:List α):∀ys,P xs ys:=by
 induction xs with
 |nil=>exact h1
 |cons x xs ih=>
  intro ys
  induction ys with
  |nil=>exact h2 x xs
  |cons y ys jh=>exact h3 x xs y ys jh (ih _)
theorem Ss {x y:α}{xs ys:List α}(h:lt y x=KJ):mg lt (x::xs) (y::ys)=y::mg lt (x::xs) ys:=by rw[fF,if_pos h]
theorem X7 {x y:α}{xs ys:List α}(h:lt y x=KL):mg lt (x::xs) (y::ys)=x::mg lt xs (y::ys):=by rw[fF,if_neg (by rw[h];decide)]
theorem Jw {ys:List α}:∀{as xs:List α},(∀a∈as,∀y∈ys,lt y a=KL)->mg lt (as++xs) ys=as++mg lt xs ys
 |[],_,_=>rfl
 |a::as,xs,h=>by
  cases ys with
  |nil=>rw[Ez,Ez]
  |cons y ys=>
   rw[m9,X7 lt (h a gr y gr),Jw λb hb=>h b (gt _ hb)];rfl
theorem Jp {xs:List α}:∀{bs ys:List α},(∀b∈bs,∀x∈xs,lt b x=KJ)->mg lt xs (bs++ys)=bs++mg lt xs ys
 |[],_,_=>rfl
 |b::bs,ys,h=>by
  cases xs with
  |nil=>rw[Kd,Kd]
  |cons x xs=>
   rw[m9,Ss lt (h b gr x gr),Jp λc hc=>h c (gt _ hc)];rfl
theorem eF (xs ys:List α):(mg lt xs ys).Perm (xs++ys):=List.merge_perm_append _
def Srt (l:List α):Prop:=l.Pairwise λa b=>lt b a=KL
structure Swo:Prop where
 irr:∀a,lt a a=KL
 tr:∀a b c,lt a b=KJ->lt b c=KJ->lt a c=KJ
 ng:∀a b c,lt a c=KJ->lt a b=KJ\/lt b c=KJ
variable {lt}
section
variable (o:Swo lt)
include o
theorem Swo.asy {a b:α}(h:lt a b=KJ):lt b a=KL:=by
 cases e:lt b a with
 |false=>rfl
 |true=>have:=o.tr _ _ _ h e;rw[o.irr] at this;cases this
theorem Swo.le {a b c:α}(h1:lt b a=KL)(h2:lt c b=KL):lt c a=KL:=by
 cases e:lt c a with
 |false=>rfl
 |true=>
  rcases o.ng c b a e with h|h
  .rw[h2] at h;cases h
  .rw[h1] at h;cases h
theorem Swo.ltle {a b c:α}(h1:lt a b=KJ)(h2:lt c b=KL):lt a c=KJ:=by
 rcases o.ng a c b h1 with h|h
 .exact h
 .rw[h2] at h;cases h
theorem Swo.lelt {a b c:α}(h1:lt b a=KL)(h2:lt b c=KJ):lt a c=KJ:=by
 rcases o.ng b a c h2 with h|h
 .rw[h1] at h;cases h
 .exact h
theorem zG (a b:List α):∀c,mg lt (mg lt a b) c=mg lt a (mg lt b c):=by
 induction a,b using zB with
 |h1 b=>intro c;rw[Kd,Kd]
 |h2 x a=>intro c;rw[Ez,Kd]
 |h3 x a y b ih jh=>
  intro c
  induction c with
  |nil=>rw[Ez,Ez]
  |cons z c kh=>
   cases h1:lt y x with
   |true=>
    cases h2:lt z y with
    |true=>
     rw[Ss lt h1] at kh ⊢;rw[Ss lt h2,Ss lt h2,Ss lt (o.tr _ _ _ h2 h1),kh]
    |false=>rw[Ss lt h1,X7 lt h2,X7 lt h2,Ss lt h1,ih]
   |false=>
    cases h3:lt z x with
    |true=>
     have h2:lt z y=KJ:=by
      rcases o.ng z y x h3 with h|h
      .exact h
      .rw[h1] at h;cases h
     rw[X7 lt h1] at kh ⊢;rw[Ss lt h3,Ss lt h2,Ss lt h3,kh]
    |false=>
     rw[X7 lt h1,X7 lt h3,jh]
     cases h2:lt z y with
     |true=>rw[Ss lt h2,X7 lt h3]
     |false=>rw[X7 lt h2,X7 lt h1]
theorem Aek {xs ys:List α}:Srt lt xs->Srt lt ys->Srt lt (mg lt xs ys):=by
 induction xs,ys using zB with
 |h1 ys=>intro _ h;rw[Kd];exact h
 |h2 x xs=>intro h _;rw[Ez];exact h
 |h3 x xs y ys ih jh=>
  intro h1 h2;have a1:=mo.mp h1;have a2:=mo.mp h2
  cases hl:lt y x with
  |true=>
   rw[Ss lt hl];refine mo.mpr {λz hz=>?_,ih h1 a2.2};rcases ik.mp ((eF lt _ _).mem_iff.mp hz) with hz|hz
   .rcases ir.mp hz with rfl|hz
    .exact o.asy hl
    .exact o.le (o.asy hl) (a1.1 z hz)
   .exact a2.1 z hz
  |false=>
   rw[X7 lt hl];refine mo.mpr {λz hz=>?_,jh a1.2 h2};rcases ik.mp ((eF lt _ _).mem_iff.mp hz) with hz|hz
   .exact a1.1 z hz
   .rcases ir.mp hz with rfl|hz
    .exact hl
    .exact o.le hl (a2.1 z hz)
end
variable (lt)
def Ay (l:List α):List α:=l.foldl (λa x=>mg lt a [x]) []
theorem Cy (l:List α)(x:α):Ay lt (l++[x])=mg lt (Ay lt l) [x]:=by unfold Ay;rw[DO];rfl
theorem E7 (l:List α):(Ay lt l).Perm l:=by
 have key:∀(l a:List α),(l.foldl (λa x=>mg lt a [x]) a).Perm (a++l):=λl=>by
  induction l with
  |nil=>intro a;rw[gv];exact CM _
  |cons x l ih=>
   intro a;refine(ih _).trans ?_;refine((eF lt a [x]).append_right l).trans ?_;rw[fm];exact CM _
 exact key l []
theorem Hg (l:List α):(Ay lt l).9=l.9:=(E7 lt l).length_eq
theorem Jl {P:List α->Prop}(h0:P [])(h1:∀l x,P l->P (l++[x]))(l:List α):P l:=by
 have key:∀n,∀l:List α,l.9=n->P l:=λn=>by
  induction n with
  |zero=>intro l h;rw[ux.mp h];exact h0
  |succ n ih=>
   intro l h;have hne:l≠[]:=λe=>by rw[e] at h;cases h
   rw[<-List.dropLast_concat_getLast hne];exact h1 _ _ (ih _ (by rw[BV];lia))
 exact key _ l rfl
variable {lt}
theorem tS (o:Swo lt)(a:List α)(b:List α):Ay lt (a++b)=mg lt (Ay lt a) (Ay lt b):=by
 induction b using Jl with
 |h0=>rw[gv];exact(Ez lt _).symm
 |h1 l x ih=>rw[<-fm,Cy,Cy,ih,zG o]
theorem Me (o:Swo lt)(a:List α):Srt lt (Ay lt a):=by
 induction a using Jl with
 |h0=>exact vv
 |h1 l x ih=>rw[Cy];exact Aek o ih (qr _ _)
theorem Jj {a:List α}(h:Srt lt a):Ay lt a=a:=by
 induction a using Jl with
 |h0=>rfl
 |h1 l x ih=>
  have hp:=wf.mp h;rw[Cy,ih hp.1];have:=Jw lt (ys:=[x]) (as:=l) (xs:=[]) λa ha y hy=>by rw[f7.mp hy];exact hp.2.2 a ha x (f7.mpr rfl)
  rw[gv,Kd] at this;exact this
theorem Ae1 {β:Type}{lt':β->β->Bool}{f:α->β}(h:∀a b,lt' (f a) (f b)=lt a b)(xs ys:List α):mg lt' (xs.map f) (ys.map f)=(mg lt xs ys).map f:=
 (List.map_merge λa _ b _=>by rw[h]).symm
theorem Hf {β:Type}{lt':β->β->Bool}{f:α->β}(h:∀a b,lt' (f a) (f b)=lt a b)(l:List α):Ay lt' (l.map f)=(Ay lt l).map f:=by
 induction l using Jl with
 |h0=>rfl
 |h1 l x ih=>
  rw[fi,iu,x0,Cy,Cy,ih];exact Ae1 h _ [x]
end
theorem kY {α:Type}{R:α->α->Prop}{l:List α}(h:l.9<2):l.Pairwise R:=match l,h with
 |[],_=>vv
 |[x],_=>qr _ _
section
variable {α:Type} {lt:α->α->Bool}
theorem Mg {l:List α}{i:Nat}{x:α}(h:l[i]?=KH x):l.drop i=x::l.drop (i+1):=by
 obtain⟨hl,e⟩:=fc.mp h;rw[nv hl,e]
theorem Mo {l:List α}{i:Nat}{x:α}(h:l[i]?=KH x):l.take (i+1)=l.take i++[x]:=by rw[i5,h];rfl
theorem zX {l:List α}(h:Srt lt l){i j:Nat}{x y:α}(hij:i<j)(hx:l[i]?=KH x)(hy:l[j]?=KH y):lt y x=KL:=by
 obtain⟨h1,e1⟩:=fc.mp hx;obtain⟨h2,e2⟩:=fc.mp hy;have:=(ug.mp h) i j h1 h2 hij;rw[e1,e2] at this;exact this
theorem eK (o:Swo lt){l:List α}(h:Srt lt l){i j:Nat}{x y:α}(hij:i<=j)(hx:l[i]?=KH x)(hy:l[j]?=KH y):lt y x=KL:=by
 rcases mv hij with hl|hl
 .exact zX h hl hx hy
 .rw[hl,hy] at hx
  cases hx;exact o.irr _
theorem zI {l:List α}{i:Nat}{x:α}(h:x∈l.drop i):∃j,i<=j/\l[j]?=KH x:=by
 obtain⟨k,hk⟩:=j6 h;rw[iz] at hk;exact{i+k,jj _ _,hk}
theorem Tv {l:List α}{i:Nat}{x:α}(h:x∈l.take i):∃j,j<i/\l[j]?=KH x:=by
 obtain⟨k,hk⟩:=j6 h;rw[ji] at hk;split at hk
 .exact{k,by assumption,hk}
 .cases hk
theorem mS (l:List α)(i k:Nat):l.drop i=(l.drop i).take k++l.drop (i+k):=by
 rw[<-oj,jp]
variable (o:Swo lt) {la lb out:List α} {ia ib:Nat}
variable {na nb:Nat}
theorem mW (l:List α){c n:Nat}(h:c<=n):l.take n=l.take c++(l.drop c).take (n-c):=by
 rw[show n=c+(n-c) by lia,xc];congr 2;lia
include o in
end
end _W
end
section
namespace _L
open PySem PySem.Spec PyProof.Rows
theorem cps {G:Prop}(h:∀X:Prop,(G->X)->X):G:=h G id
section
variable {prog:gl} {w:ip} {A:i9} {E:Za0} {s:ft}
def mF (prog:gl)(w:ip)(A:i9)(E:Za0)(s:ft)(kd:ut)(P:jv->Prop)(blt:jv->jv->Bool):Prop:=
 ∀(x y:jv) (st:ph) (Q:Option Bool->ph->Prop),P x->P y->kindOf st=kd->Q (KH (blt x y)) st->wpS (model prog w) A E s (lt' x y) Q st
theorem jS {arr:Array jv}{i:Nat}{p:jv}{st:ph}{Q:jv->ph->Prop}(e:arr[i]?=KH p)(h:Q p st):wpS (model prog w) A E s (elem' arr i) Q st:=by
 rw[elem'_eq,e];exact l6 h
variable {kd:ut} {P:jv->Prop} {blt:jv->jv->Bool} (L:mF prog w A E s kd P blt)
include L
end
open _W
structure Ahh (S:Prop):Prop where
 h:S
theorem wL {c S T:Prop}[Decidable c](h1:Ahh S->c->T)(h2:Ahh S->¬ c->T)(h:S):T:=(DP c).elim (h1 ⟨h⟩) (h2 ⟨h⟩)
theorem Ac2 {a:Array jv}{i:Nat}{x:jv}(h:a[i]?=KH x):a.7[i]?=KH x:=by rw[gq];exact h
theorem lA {xs:Array jv}{src:Nat}(hs:src<xs.8)(hd:d<=src){x:jv}(hx:xs[src]?=KH x) :
  (bubble xs src d).7=xs.toList.take (src-d)++[x]++(xs.toList.drop (src-d)).take d++xs.toList.drop (src+1):=by
 have hl:xs.toList.9=xs.8:=gh;refine me λk=>?_;rw[gq,getElem?_bubble hs d hd k];obtain⟨a,rfl⟩:=j0 hd;rw[io];have l1:(xs.toList.take a).9=a:=by rw[fh,hl];exact il ()
 have l2:((xs.toList.drop a).take d).9=d:=by rw[fh,gz,hl];exact il ()
 have l3:(xs.toList.take a++[x]).9=a+1:=by rw[eg,l1];rfl
 have l4:(xs.toList.take a++[x]++(xs.toList.drop a).take d).9=a+1+d:=by rw[eg,l3,l2]
 by_cases h1:k=a
 .subst h1
  rw[if_pos rfl,hx,fm,fm,fk (qb l1),l1,jy];rfl
 .rw[if_neg h1]
  by_cases h2:a<k/\k<=d+a
  .obtain⟨i,rfl⟩:=j0 (show a+1<=k from h2.1)
   rw[if_pos h2,fw (by rw[l4];lia),fk (by rw[l3];exact jj _ _),l3,io,ji,if_pos (),iz,gq,Nat.add_right_comm,nl]
  .rw[if_neg h2]
   by_cases h3:k<a
   .rw[fm,fm,fw (by rw[l1];exact h3),ji,if_pos h3,gq]
   .obtain⟨i,rfl⟩:=j0 (show a+1+d<=k by lia)
    rw[fk (by rw[l4];exact jj _ _),l4,io,iz,gq,show d+a+1+i=a+1+d+i by lia]
theorem iV {xs:Array jv}{i j:Nat}(hij:i<=j)(hj:j<=xs.8) :
  (mirror xs i j ((j-i)/2)).7=xs.toList.take i++((xs.toList.drop i).take (j-i)).reverse++xs.toList.drop j:=by
 have hl:xs.toList.9=xs.8:=gh;refine me λk=>?_;rw[gq,getElem?_mirror_all (i:=i) hj k];obtain⟨m,rfl⟩:=j0 hij;rw[io];have l1:(xs.toList.take i).9=i:=by rw[fh,hl];exact il ()
 have l2:((xs.toList.drop i).take m).9=m:=by rw[fh,gz,hl];exact il ()
 have l3:(xs.toList.take i++((xs.toList.drop i).take m).reverse).9=i+m:=by rw[eg,my,l1,l2]
 by_cases h2:k<i
 .rw[if_neg (λz=>IV.mpr h2 z.1),fm,fw (by rw[l1];exact h2),ji,if_pos h2,gq]
 .obtain⟨r,rfl⟩:=j0 (pi.mp h2)
  by_cases h1:r<m
  .obtain⟨q,rfl⟩:=j0 (show r+1<=m from h1)
   rw[if_pos {jj _ _,()},fw (by rw[l3];lia),fk (by rw[l1];exact jj _ _),l1,io,
    BG (by rw[l2];exact h1),l2,ji,if_pos (),iz,gq]
   congr 1;lia
  .obtain⟨q,rfl⟩:=j0 (pi.mp h1)
   rw[if_neg (),fk (by rw[l3];lia),l3,iz,gq,<-l9,io]
theorem wW {blt:jv->jv->Bool}(o:Swo blt){l:List jv}{x y:jv}(h:Srt blt l)(hy:l[l.9-1]?=KH y)(hx:blt x y=KL):Srt blt (l++[x]):=by
 refine wf.mpr {h,qr _ _,λa ha b hb=>?_};rw[f7.mp hb];obtain⟨j,hj⟩:=j6 ha;have hl:=(fc.mp hj).1;exact o.le (eK o h (show j<=l.9-1 by lia) hj hy) hx
theorem Hx {xs:Array jv}{U V W:List jv}{i j:Nat}(e:xs.7=U++V++W)(hi:i=U.9)(hj:j=U.9+V.9):(mirror xs i j ((j-i)/2)).7=U++V.reverse++W:=by
 have hl:xs.8=U.9+V.9+W.9:=by rw[<-gh,e,eg,eg]
 rw[iV () (),e,hi,hj];have e1:(U++V++W).take U.9=U:=by rw[fm,jq (d8 _),p7]
 have e2:(U++V++W).drop U.9=V++W:=by rw[fm,mw (d8 _),uy,mh]
 have e3:(U++V++W).drop (U.9+V.9)=W:=by rw[<-oj,e2,mw (d8 _),uy,mh]
 rw[e1,e2,e3,io,jq (d8 _),p7]
theorem nJ {blt:jv->jv->Bool}(o:Swo blt){a b:List jv}(h:Srt blt (Ay blt a++b)):Ay blt (a++b)=Ay blt a++b:=by
 have hp:=wf.mp h;rw[tS o,Jj hp.2.1];have:=Jw blt (ys:=b) (as:=Ay blt a) (xs:=[]) λx hx y hy=>hp.2.2 x hx y hy;rw[gv,Kd] at this;exact this
section
variable {prog:gl} {w:ip} {A:i9} {E:Za0} {s:ft}
variable {kd:ut} {P:jv->Prop} {blt:jv->jv->Bool} (L:mF prog w A E s kd P blt) (o:Swo blt)
include L
theorem Js {st:ph}{i j:Nat}{x y:jv}{Q:Option Bool->ph->Prop}(hk:kindOf st=kd)(hi:(arrOf st)[i]?=KH x)(hj:(arrOf st)[j]?=KH y)(px:P x)(py:P y)(h:Q (KH (blt x y)) st) :
  wpS (model prog w) A E s (ltAt' i j) Q st:=by
 rw[ltAt'_eq];refine wpS_bind (AL ?_);exact wpS_bind (jS hi (wpS_bind (jS hj (L _ _ _ _ px py hk h))))
include o
theorem kB {st:ph}{lo a nrem:Nat}{T C D:List jv}{F:Nat->Option (Option Nat)×Nat->StateT ph Sem (ForInStep (Option (Option Nat)×Nat))}{Q:Option (Option Nat)×Nat->ph->Prop}
  (hF:∀x n,F x (KI,n)=(do
   let r <-ltAt' (lo+n) (lo+n-1)
   match r with
   |some smaller=>if smaller=KJ then pure (vc (KI,n)) else pure (uo (KI,n+1))
   |x=>pure (vc (KH KI,n))))
  (hk:kindOf st=kd)(hP:∀x∈(arrOf st).7,P x)(hT:T.9=lo)(hD:D.9=nrem)(ha:1<=a)(han:a<=nrem)(hC:C.9=a)(e:(arrOf st).7=T++C++D.drop a)(sC:Srt blt C)
  (h:∀n,a<=n->n<=nrem->Srt blt (C++(D.drop a).take (n-a))->(n=nrem\/∃x y,(C++D.drop a)[n]?=KH x/\(C++D.drop a)[n-1]?=KH y/\blt x y=KJ)->Q (KI,n) st) :
  wpS (model prog w) A E s (forIn [a:nrem] (KI,a) F) Q st:=by
 have hl:(C++D.drop a).9=nrem:=by rw[eg,gz];lia
 have at_:∀j,(arrOf st)[lo+j]?=(C++D.drop a)[j]?:=λj=>by
  rw[<-gq,e,fm,fk (),hT,io]
 have ctk:∀n,a<=n->n<=nrem->C++(D.drop a).take (n-a)=(C++D.drop a).take n:=λn h1 h2=>by
  rw[EC,fz (l:=C) (),hC]
 refine wpS_forRange (I:=λx c st'=>st'=st/\c=(KI,x)/\Srt blt ((C++D.drop a).take x)) ?_ ?_ {rfl,rfl,?_}
 .rintro x c st' hx1 hx2 ⟨rfl,rfl,hs⟩
  rw[hF];obtain⟨u,eu⟩:∃u,(C++D.drop a)[x]?=KH u:={_,d4 ()};obtain⟨v,ev⟩:∃v,(C++D.drop a)[x-1]?=KH v:={_,d4 ()};have pu:(arrOf st')[lo+x]?=KH u:=by rw[at_];exact eu
  have pv:(arrOf st')[lo+x-1]?=KH v:=by rw[show lo+x-1=lo+(x-1) by lia,at_];exact ev
  refine wpS_bind (Js L hk pu pv (hP _ (f8 (Ac2 pu))) (hP _ (f8 (Ac2 pv))) ?_);dsimp only
  cases hb:blt u v with
  |true=>
   rw[if_pos rfl];exact l6 (h x hx1 () (by rw[ctk x hx1 ()];exact hs) (.inr ⟨u,v,eu,ev,hb⟩))
  |false=>
   rw[if_neg (by decide)];refine l6 {rfl,rfl,?_};rw[Mo eu];refine wW o hs ?_ hb;rw[fh,hl,il (f9 hx2),ji,if_pos (IU () IH)];exact ev
 .rintro c st' ⟨rfl,rfl,hs⟩
  have:max a nrem=nrem:=()
  rw[this] at hs ⊢;exact h nrem han (d8 _) (by rw[ctk nrem han (d8 _)];exact hs) (.inl rfl)
 .rw[<-ctk a (d8 _) han,jy,we,gv]
  exact sC
theorem Yh {st:ph}{lo nrem:Nat}{Q:Option Nat->ph->Prop}(hk:kindOf st=kd)(hP:∀x∈(arrOf st).7,P x)(hn:lo+nrem=(arrOf st).8)(h1:1<=nrem)
  (h:∀m (xs:Array jv),1<=m->m<=nrem->xs.7=(arrOf st).toList.take lo++Ay blt (((arrOf st).toList.drop lo).take m)++((arrOf st).toList.drop lo).drop m->Q (KH m) (setArr st xs)) :
  wpS (model prog w) A E s (countRun' lo nrem) Q st:=by
 have hl:(arrOf st).toList.length=(arrOf st).8:=gh;generalize hT:(arrOf st).toList.take lo=T at *;generalize hD:(arrOf st).toList.drop lo=D at *;have e:(arrOf st).7=T++D:=by rw[<-hT,<-hD,jp]
 have lT:T.9=lo:=by rw[<-hT,fh];lia
 have lD:D.9=nrem:=by rw[<-hD,gz];lia
 obtain⟨d0,e0⟩:∃d0,D[0]?=KH d0:={_,d4 ()};have eD:D.take 1++D.drop 1=D:=jp 1 D;refine wpS_bind (kB L o (T:=T) (C:=D.take 1) (D:=D) (λx n=>rfl) hk hP lT lD (d8 1) h1 (by rw[fh];lia) (by rw[fm,eD];exact e) (by rw[Mo e0];exact qr _ _) λn hn1 hn2 sn hor=>?_);have etk:D.take 1++(D.drop 1).take (n-1)=D.take n:=by rw[show n=1+(n-1) by lia,xc,io]
 rw[etk] at sn;rw[eD] at hor;dsimp only;have PD:∀y∈D,P y:=λy hy=>hP y (by rw[e];exact iw _ hy)
 by_cases c1:(n==nrem)=KJ
 .rw[if_pos c1]
  refine l6 (h n (arrOf st) hn1 hn2 ?_);rw[Jj sn,fm,jp];exact e
 rw[if_neg c1];rw[beq_iff_eq] at c1;obtain⟨x,y,ex,ey,hxy⟩:=hor.resolve_left c1;have lDn:(D.take n).9=n:=by rw[fh];lia
 apply wL (c:=n>1)
 case h1=>
  intro way hgt;rw[if_pos hgt];have a0:(arrOf st)[lo]?=KH d0:=by rw[<-gq,e,fk (),lT,jy];exact e0
  have ay:(arrOf st)[lo+n-1]?=KH y:=by rw[EA hn1,<-gq,e,fk (by rw[lT];exact jj _ _),lT,io];exact ey
  refine wpS_bind (Js L hk a0 ay (PD _ (f8 e0)) (PD _ (f8 ey)) ?_);dsimp only
  by_cases hrose:blt d0 y=KJ
  .rw[if_pos hrose]
   refine l6 (h n (arrOf st) hn1 hn2 ?_);rw[Jj sn,fm,jp];exact e
  rw[if_neg hrose];have hrose:blt d0 y=KL:=by simpa using hrose
  have key:∀j z,j<n->D[j]?=KH z->blt z y=KL:=λj z hj ez=>by
   have h2:=eK o sn (gn j) (by rw[ji,if_pos ()];exact e0) (by rw[ji,if_pos hj];exact ez)
   cases hc:blt z y with
   |false=>rfl
   |true=>
    rcases o.ng z d0 y hc with h3|h3
    .rw[h2] at h3;cases h3
    .rw[hrose] at h3;cases h3
  have hall:∀z∈D.take n,blt x z=KJ:=λz hz=>by
   obtain⟨j,hj,ez⟩:=Tv hz;exact o.ltle hxy (key j z hj ez)
  refine wpS_bind (xo ?_);have m1:=Hx (xs:=arrOf st) (U:=T) (V:=D.take n) (W:=D.drop n) (i:=lo) (j:=lo+n) (by rw[fm,jp];exact e) lT.symm (by rw[lDn,lT])
  revert hall m1
  generalize mirror (arrOf st) lo (lo+n) ((lo+n-lo)/2)=xs1
  revert xs1
  exact way.h
 case h2=>
  intro way hgt;rw[if_neg hgt];have n1:n=1:=()
  have hall:∀z∈D.take n,blt x z=KJ:=λz hz=>by
   obtain⟨j,hj,ez⟩:=Tv hz;have:j=n-1:=()
   rw[this,ey] at ez;cases ez;exact hxy
  have m1:(arrOf st).7=T++(D.take n).reverse++D.drop n:=by
   rw[n1,Mo e0,we,mh,List.reverse_singleton,e,fm];show T++D=T++(d0::D.drop (0+1));rw[<-Mg e0,qz]
  exact way.h (arrOf st) hall m1
 case h=>
  intro xs1 hall m1;refine wpS_bind (IQ (ur {rfl,?_}));refine wpS_bind (wpS_mono (wpS_forRange
   (I:=λu c st'=>∃(neq:Nat) (xs:Array jv) (hd tl:List jv),c=(KI,u,neq)/\st'=setArr st xs/\xs.7=T++(hd++tl)++D.drop u/\(hd++tl).9=u/\tl.9=neq+1/\Ay blt (D.take u)=tl++hd.reverse/\(∀a∈hd,∀b∈tl,blt b a=KJ)/\(∀a∈tl,∀b∈tl,blt a b=KL))
   (Q:=λc st'=>∃(m neq:Nat) (xs:Array jv) (hd tl:List jv),c=(KI,m,neq)/\n+1<=m/\m<=nrem/\st'=setArr st xs/\xs.7=T++(hd++tl)++D.drop m/\(hd++tl).9=m/\tl.9=neq+1/\Ay blt (D.take m)=tl++hd.reverse) ?_ ?_ {0,xs1,(D.take n).reverse,[x],rfl,rfl,?_,?_,rfl,?_,?_,?_}) ?_)
  .intro u c st' hu1 hu2 h0
   refine cps λX0 k0=>?_;obtain⟨neq,xs,hd,tl,rfl,rfl,q1,q2,q3,q4,q5,q6⟩:=h0<;>refine k0 ?_
   dsimp only;obtain⟨v,ev⟩:∃v,D[u]?=KH v:={_,d4 ()};obtain⟨t,et⟩:∃t,tl[tl.9-1]?=KH t:={_,d4 ()};have htl:=f8 et;have PT:∀z∈tl,P z:=λz hz=>PD z (n5 ((E7 blt (D.take u)).mem_iff.mp (by rw[q4];exact km _ hz)));have pv:(arrOf (setArr st xs))[lo+u]?=KH v:=by
    show xs[lo+u]?=KH v;rw[<-gq,q1,fk (by rw[eg];lia),eg,q2,lT,jy,iz,m7];exact ev
   have pt:(arrOf (setArr st xs))[lo+u-1]?=KH t:=by
    show xs[lo+u-1]?=KH t;have hu:1<=u:=()
    have q2':=q2;rw[eg] at q2';rw[EA hu,<-gq,q1,fm,fk (by rw[lT];exact jj _ _),lT,io,fw (by rw[q2];exact IU hu IH),fk (),show u-1-hd.9=tl.9-1 by lia];exact et
   refine wpS_bind (Js L hk pv pt (PD _ (f8 ev)) (PT _ htl) ?_);dsimp only;have esn:Ay blt (D.take (u+1))=mg blt (tl++hd.reverse) [v]:=by rw[Mo ev,Cy,q4]
   have edr:=Mg ev
   cases hs:blt v t with
   |true=>
    rw[if_pos rfl];have v1:∀z∈tl,blt v z=KJ:=λz hz=>o.ltle hs (q6 z hz t htl);have v2:∀z∈hd,blt v z=KJ:=λz hz=>o.tr _ _ _ hs (q5 z hz t htl);have e5:Ay blt (D.take (u+1))=[v]++(hd++tl.reverse).reverse:=by
     rw[esn,qd,si];have:=Jp blt (xs:=tl++hd.reverse) (bs:=[v]) (ys:=[]) λb hb z hz=>by
      rw[f7.mp hb];rcases ik.mp hz with hz|hz
      .exact v1 z hz
      .exact v2 z (p9.mp hz)
     rw[gv,Ez] at this;exact this
    have fin:∀ys:Array jv,ys.7=T++(hd++tl.reverse)++D.drop u->∃(neq':Nat) (xs':Array jv) (hd' tl':List jv),((KI,u+1,0):Option (Option Nat)×Nat×Nat)=(KI,u+1,neq')/\setArr st ys=setArr st xs'/\xs'.7=T++(hd'++tl')++D.drop (u+1)/\(hd'++tl').9=u+1/\tl'.9=neq'+1/\Ay blt (D.take (u+1))=tl'++hd'.reverse/\(∀a∈hd',∀b∈tl',blt b a=KJ)/\(∀a∈tl',∀b∈tl',blt a b=KL):=λys ey=>by
     refine{0,ys,hd++tl.reverse,[v],rfl,rfl,?_,?_,rfl,e5,?_,?_}
     .rw[ey,edr]
      simp only[fm,m9,mh]
     .rw[eg,eg,my,<-eg,q2]
      rfl
     .intro a ha b hb
      rw[f7.mp hb];rcases ik.mp ha with ha|ha
      .exact v2 a ha
      .exact v1 a (p9.mp ha)
     .intro a ha b hb
      rw[f7.mp ha,f7.mp hb];exact o.irr v
    by_cases hq:neq>0
    .rw[if_pos hq]
     refine wpS_bind (xo (l6 (fin _ ?_)));have hlen:hd.9+tl.9=u:=by rw[<-eg];exact q2
     have:=Hx (xs:=xs) (U:=T++hd) (V:=tl) (W:=D.drop u) (i:=lo+u-(neq+1)) (j:=lo+u) (by rw[q1];simp only[fm]) (by rw[eg,lT,<-hlen,q3,<-l9,nl]) (by rw[eg,lT,<-hlen,<-l9]);show(mirror xs _ _ _).7=_;rw[this];simp only[fm]
    .rw[if_neg hq]
     refine l6 (fin _ ?_);have:tl.reverse=tl:=by
      obtain⟨z,rfl⟩:=AO.mp (show tl.9=1 by lia);rfl
     rw[this];exact q1
   |false=>
    rw[if_neg (by decide)];refine wpS_bind (Js L hk pt pv (PT _ htl) (PD _ (f8 ev)) ?_);dsimp only
    cases hg:blt t v with
    |true=>
     rw[if_pos rfl];exact l6 {u,neq,xs,hd,tl,rfl,hu1,(),rfl,q1,q2,q3,q4}
    |false=>
     rw[if_neg (by decide)];have v1:∀z∈tl,blt v z=KL:=λz hz=>o.le (q6 t htl z hz) hs;have v3:∀z∈tl,blt z v=KL:=λz hz=>o.le hg (q6 z hz t htl);have v2:∀z∈hd,blt v z=KJ:=λz hz=>o.lelt hg (q5 z hz t htl);refine l6 {neq+1,xs,hd,tl++[v],rfl,rfl,?_,?_,?_,?_,?_,?_}
     .rw[q1,edr]
      simp only[fm,m9,mh]
     .rw[<-fm,eg,q2]
      rfl
     .rw[eg,q3]
      rfl
     .rw[esn,Jw blt λa ha z hz=>by rw[f7.mp hz];exact v1 a ha]
      have:=Jp blt (xs:=hd.reverse) (bs:=[v]) (ys:=[]) λb hb z hz=>by
       rw[f7.mp hb];exact v2 z (p9.mp hz)
      rw[gv,Ez] at this;rw[this,fm]
     .intro a ha b hb
      rcases ik.mp hb with hb|hb
      .exact q5 a ha b hb
      .rw[f7.mp hb];exact v2 a ha
     .intro a ha b hb
      rcases ik.mp ha with ha|ha
      .rcases ik.mp hb with hb|hb
       .exact q6 a ha b hb
       .rw[f7.mp hb];exact v3 a ha
      .rw[f7.mp ha]
       rcases ik.mp hb with hb|hb
       .exact v1 b hb
       .rw[f7.mp hb];exact o.irr v
  .intro c st' h0
   refine cps λX0 k0=>?_;obtain⟨neq,xs,hd,tl,rfl,rfl,q1,q2,q3,q4,q5,q6⟩:=h0<;>refine k0 ?_
   have hmx:max (n+1) nrem=nrem:=()
   rw[hmx] at q1 q2 q4 ⊢;exact{nrem,neq,xs,hd,tl,rfl,(),d8 _,rfl,q1,q2,q3,q4}
  .rw[m1,Mg ex]
   simp only[fm,m9,mh]
  .rw[eg,my,lDn]
   rfl
  .rw[Mo ex,Cy,Jj sn,si]
   have:=Jp blt (xs:=D.take n) (bs:=[x]) (ys:=[]) λb hb z hz=>by
    rw[f7.mp hb];exact hall z hz
   rw[gv,Ez] at this;exact this
  .intro a ha b hb
   rw[f7.mp hb];exact hall a (p9.mp ha)
  .intro a ha b hb
   rw[f7.mp ha,f7.mp hb];exact o.irr x
  .intro c st' h0
   refine cps λX0 k0=>?_;obtain⟨m,neq,xs,hd,tl,rfl,hm1,hm2,rfl,q1,q2,q3,q4⟩:=h0<;>refine k0 ?_
   dsimp only;have hlen:hd.9+tl.9=m:=by rw[<-eg];exact q2
   have last:∀ys:Array jv,ys.7=T++(tl++hd.reverse)++D.drop m->∀F:Nat->Option (Option Nat)×Nat->StateT ph Sem (ForInStep (Option (Option Nat)×Nat)),
     (∀x n,F x (KI,n)=(do
      let r <-ltAt' (lo+n) (lo+n-1)
      match r with
      |some smaller=>if smaller=KJ then pure (vc (KI,n)) else pure (uo (KI,n+1))
      |x=>pure (vc (KH KI,n)))) ->
     wpS (model prog w) A E s (forIn [m:nrem] (KI,m) F) (λr st'=>∃m',r=(KI,m')/\Q (KH m') st') (setArr st ys):=λys ey F hF=>by
    have sC:Srt blt (tl++hd.reverse):=by rw[<-q4];exact Me o _
    refine kB L o (T:=T) (C:=tl++hd.reverse) (D:=D) hF hk ?_ lT lD () hm2 (by rw[eg,my];lia) ey sC λn' hn1' hn2' sn' _=>{n',rfl,h n' ys () hn2' ?_}
    .intro z hz
     have hz:z∈ys.7:=hz;rw[ey] at hz;rcases ik.mp hz with hz|hz
     .rcases ik.mp hz with hz|hz
      .exact hP z (by rw[e];exact km _ hz)
      .rw[<-q4] at hz
       exact PD z (n5 ((E7 blt _).mem_iff.mp hz))
     .exact PD z (BU hz)
    .rw[<-q4] at sn'
     have e7:D.take n'=D.take m++(D.drop m).take (n'-m):=by rw[mW D hn1']
     rw[e7,nJ o sn',ey,q4];have e8:D.drop m=(D.drop m).take (n'-m)++D.drop n':=by
      have:=mS D m (n'-m);rw[Nat.add_sub_cancel' hn1'] at this;exact this
     conv=>lhs;rw[e8]
     simp only[fm]
   by_cases hq:neq>0
   .rw[if_pos hq]
    have r1:=Hx (xs:=xs) (U:=T++hd) (V:=tl) (W:=D.drop m) (i:=lo+m-(neq+1)) (j:=lo+m) (by rw[q1];simp only[fm]) (by rw[eg,lT,<-hlen,q3,<-l9,nl]) (by rw[eg,lT,<-hlen,<-l9]);refine wpS_bind (xo ?_);refine wpS_bind (xo ?_);have r2:=Hx (xs:=mirror xs (lo+m-(neq+1)) (lo+m) ((lo+m-(lo+m-(neq+1)))/2)) (U:=T) (V:=hd++tl.reverse) (W:=D.drop m) (i:=lo) (j:=lo+m) (by rw[r1];simp only[fm]) lT.symm (by rw[eg,my];lia);rw[qd,si] at r2;refine wpS_bind (wpS_mono (last _ r2 _ (λx n=>rfl)) ?_);rintro c st' ⟨m',rfl,hQ⟩;exact l6 hQ
   .rw[if_neg hq]
    have hrv:tl.reverse=tl:=by
     obtain⟨z,rfl⟩:=AO.mp (show tl.9=1 by lia);rfl
    refine wpS_bind (xo ?_);have r2:=Hx (xs:=xs) (U:=T) (V:=hd++tl) (W:=D.drop m) (i:=lo) (j:=lo+m) q1 lT.symm (by rw[q2];lia);rw[qd,hrv] at r2;refine wpS_bind (wpS_mono (last _ r2 _ (λx n=>rfl)) ?_);rintro c st' ⟨m',rfl,hQ⟩;exact l6 hQ
end
theorem tG {U V W:List jv}:(U++(V++W)).take U.9=U/\(U++(V++W)).drop U.9=V++W/\((U++(V++W)).drop U.9).take V.9=V/\(U++(V++W)).drop (U.9+V.9)=W:=by
 have e2:(U++(V++W)).drop U.9=V++W:=by rw[mw (d8 _),uy,mh]
 refine{by rw[jq (d8 _),p7],e2,?_,?_}
 .rw[e2,jq (d8 _),p7]
 .rw[<-oj,e2,mw (d8 _),uy,mh]
section
variable {prog:gl} {w:ip} {A:i9} {E:Za0} {s:ft}
variable {kd:ut} {P:jv->Prop} {blt:jv->jv->Bool} (L:mF prog w A E s kd P blt) (o:Swo blt)
include L o
theorem S1 {st:ph}{lo ok:Nat}{T D:List jv}{Q:Bool->ph->Prop}(hk:kindOf st=kd)(hP:∀x∈D,P x)(hT:T.9=lo)(hok:1<=ok)(hn:ok<=n)(hD:n<=D.9)
  (e:(arrOf st).7=T++Ay blt (D.take ok)++D.drop ok)(h:∀xs:Array jv,xs.7=T++Ay blt (D.take n)++D.drop n->Q KJ (setArr st xs)) :
  wpS (model prog w) A E s (binarySort' lo n ok) Q st:=by
 have hmx:max ok 1=ok:=()
 refine wpS_bind (wpS_mono (wpS_forRange (I:=λk c st'=>c=(KI,.unit)/\k<=n/\∃xs:Array jv,st'=setArr st xs/\xs.7=T++Ay blt (D.take k)++D.drop k)
  (Q:=λc st'=>c=(KI,.unit)/\∃xs:Array jv,st'=setArr st xs/\xs.7=T++Ay blt (D.take n)++D.drop n) ?_ ?_ {rfl,(),arrOf st,rfl,by rw[hmx];exact e}) ?_)
 .intro k c st' hk1 hk2 h0;refine cpZ λX0 k0=>?_;obtain⟨rfl,_,xs,rfl,ex⟩:=h0<;>refine k0 ?_
  dsimp only;obtain⟨v,ev⟩:∃v,D[k]?=KH v:={_,d4 ()};have lS:(Ay blt (D.take k)).9=k:=by rw[Hg,fh];lia
  have sS:=Me o (D.take k);have pS:∀x∈Ay blt (D.take k),P x:=λx hx=>hP x (n5 ((E7 blt _).mem_iff.mp hx));have esn:Ay blt (D.take (k+1))=mg blt (Ay blt (D.take k)) [v]:=by rw[Mo ev,Cy]
  generalize Ay blt (D.take k)=S at *;have pv:xs[lo+k]?=KH v:=by
   rw[<-gq,ex,fk (by rw[eg];lia),eg,lS,hT,jy,iz,m7];exact ev
  have pm:∀m,m<k->xs[lo+m]?=S[m]?:=λm hm=>by
   rw[<-gq,ex,fm,fk (),hT,io,fw ()]
  refine wpS_bind (wpS_mono (wpS_forRange (I:=λx c st'=>∃l r,c=(KI,l,r)/\st'=setArr st xs/\l<=r/\r<=k/\r-l+x<=k/\(∀i z,i<l->S[i]?=KH z->blt v z=KL)/\(∀i z,r<=i->S[i]?=KH z->blt v z=KJ))
   (Q:=λc st'=>∃l r,c=(KI,l,r)/\st'=setArr st xs/\l<=k/\(∀i z,i<l->S[i]?=KH z->blt v z=KL)/\(∀i z,l<=i->S[i]?=KH z->blt v z=KJ)) ?_ ?_ {0,k,rfl,rfl,(),(),(),?_,?_}) ?_)
  .intro x c st' _ hx h0;refine cpZ λX0 k0=>?_;obtain⟨l,r,rfl,rfl,q1,q2,q3,q4,q5⟩:=h0<;>refine k0 ?_
   dsimp only
   by_cases hge:l>=r
   .rw[if_pos hge]
    exact l6 {l,r,rfl,rfl,(),q4,λi z hi ez=>q5 i z () ez}
   .rw[if_neg hge]
    have ht1:l<=(l+r)/2:=()
    have ht2:(l+r)/2<r:=()
    generalize (l+r)/2=t at *;obtain⟨z,ez⟩:∃z,S[t]?=KH z:={_,d4 ()};refine wpS_bind (Js L hk pv (by show xs[_]?=_;rw[pm _ ()];exact ez) (hP _ (f8 ev)) (pS _ (f8 ez)) ?_);dsimp only
    cases hb:blt v z with
    |true=>
     rw[if_pos rfl];exact l6 {_,_,rfl,rfl,(),(),(),q4,λi z' hi ez'=>o.ltle hb (eK o sS hi ez ez')}
    |false=>
     rw[if_neg (by decide)];exact l6 {_,_,rfl,rfl,(),(),(),(λi z' hi ez'=>o.le (eK o sS (show i<=t by lia) ez' ez) hb),q5}
  .intro c st' h0;refine cpZ λX0 k0=>?_;obtain⟨l,r,rfl,rfl,q1,q2,q3,q4,q5⟩:=h0<;>refine k0 ?_
   have:max 0 k=k:=()
   rw[this] at q3;exact{l,r,rfl,rfl,(),q4,λi z hi ez=>q5 i z () ez}
  .intro i z hi
   lia
  .intro i z hi ez
   have:=(fc.mp ez).1;lia
  .intro c st' h0;refine cpZ λX0 k0=>?_;obtain⟨l,r,rfl,rfl,q1,q4,q5⟩:=h0<;>refine k0 ?_
   dsimp only;refine wpS_bind (?_:wpS (model prog w) A E s (moveDown' (lo+k) (lo+l)) _ _);rw[moveDown'_eq];refine FH (l6 {rfl,(),bubble xs (lo+k) (lo+k-(lo+l)),rfl,?_});have hsz:xs.8=lo+D.9:=by
    rw[<-gh,ex,eg,eg,lS,hT,gz];lia
   rw[lA () () pv,Nat.sub_sub_self (Nat.add_le_add_left () lo),Nat.add_sub_add_left,ex];have hl:T.9+(S.take l).9=lo+l:=by rw[fh];lia
   have e1:T++S++D.drop k=(T++S.take l)++(S.drop l++D.drop k):=by
    conv=>lhs;rw[<-jp l S]
    simp only[fm]
   have hl2:(S.drop l).9=k-l:=by rw[gz,lS]
   obtain⟨m1,m2,m3,m4⟩:=tG (U:=T++S.take l) (V:=S.drop l) (W:=D.drop k);rw[eg,hl] at m1 m2 m3 m4;rw[hl2] at m3 m4;have e2:(T++S++D.drop k).drop (lo+k+1)=D.drop (k+1):=by
    rw[<-oj,e1,show lo+k=lo+l+(k-l) by lia,m4,oj]
   rw[e2,e1,m1,m3,esn];have hS:S=S.take l++S.drop l:=(jp l S).symm
   conv=>rhs;rw[hS]
   rw[Jw blt λa ha y hy=>?_]
   .have:=Jp blt (xs:=S.drop l) (bs:=[v]) (ys:=[]) λb hb z hz=>by
     rw[f7.mp hb];obtain⟨j,hj,ez⟩:=zI hz;exact q5 j z hj ez
    rw[gv,Ez] at this;rw[this];simp only[fm]
   .rw[f7.mp hy]
    obtain⟨j,hj,ez⟩:=Tv ha;exact q4 j a hj ez
 .intro c st' h0;refine cpZ λX0 k0=>?_;obtain⟨rfl,hle,xs,rfl,ex⟩:=h0<;>refine k0 ?_
  rw[hmx] at hle ex;have:max ok n=n:=()
  rw[this] at ex;exact⟨rfl,xs,rfl,ex⟩
 .rintro c st' ⟨rfl,xs,rfl,ex⟩
  exact l6 (h xs ex)
end
def Xy (N H:Hp):Hp:=λb=>match N b with|some o=>KH o|none=>H b
theorem Lh {N:Hp}{b:eh}{o:HO}(h:N b=KH o):Xy N H b=KH o:=by unfold Xy;rw[h]
theorem Gu {N:Hp}{b:eh}(h:N b=KI):Xy N H b=H b:=by unfold Xy;rw[h]
def fX (oc:Obj)(qual:Str):Prop:=∃vs t,oc.data=.fields vs/\vs[1]?=KH (.str qual t)
def Pf (H:Hp)(P:eh)(pos:Pos)(qual:Str):Prop:=∃ps:Array fj,H P=KH (.tbl ps)/\TriplesOk ps.7/\(codeAmong pos ps.7=KI\/∃c' oc,codeAmong pos ps.7=KH (.ref c')/\H c'=KH (.frz oc (.own 0))/\fX oc qual)
section
variable {X:Cx} {pins:Za1} {G:St} {H:Hp} {s:ft}
theorem Inv.grown {P:eh}{ps more:Array fj}{N:Hp}(I:Inv X pins G H s)(hP:H P=KH (.tbl ps))(k:∀b u,b≠P->s.heap.get? b=KH u->h'.get? b=KH u)(hT:h'.get? P=KH (vn (ps++more)))
  (hp:∀b o,N b=KH o->s.heap.objs.8<=b)(new:∀b o,N b=KH o->Ct X.prog X.w (Xy N (upd H P (.tbl (ps++more)))) h' b o):Inv X pins G (Xy N (upd H P (.tbl (ps++more)))) { s with heap:=h',toks:=t' }:=by
 have hlt:P<s.heap.objs.8:=(I.hok P _ hP).lt;have hNP:N P=KI:=by
  cases e:N P with
  |none=>rfl
  |some o=>exact absurd hlt (pi.mpr (hp P o e))
 have hn:∀b o,N b=KH o->H b=KI:=λb o e=>I.hok.fresh (hp b o e);have old:∀b u,s.heap.get? b=KH u->N b=KI:=λb u e=>by
  cases hN:N b with
  |none=>rfl
  |some o=>exact absurd (fu e) (pi.mpr (hp b o hN))
 have sm:∀b o,b≠P->H b=KH o->Xy N (upd H P (.tbl (ps++more))) b=KH o:=λb o hb e=>by
  have:N b=KI:=by
   cases hN:N b with
   |none=>rfl
   |some u=>rw[hn b u hN] at e;cases e
  rw[Gu this,Al hb];exact e
 have neP:∀b,H b=KI->b≠P:=λb e z=>by rw[z,hP] at e;cases e
 refine I.un {λb u q n _ _=>k b u (neP b n) q,λb u q n _ _=>{u.slots,k b u (neP b n) q},λb u q n _=>by rw[Gu (old b u q),Al (neP b n)];exact n,λb u q _=>?_,λb xs q=>sm _ _ (λz=>by rw[z,hP] at q;cases q) q,λb u xs q=>sm _ _ (λz=>by rw[z,hP] at q;cases q) q,λb qs q=>?_} λb o e=>?_
 .by_cases hb:b=P
  .rw[hb];exact{_,hT}
  .exact{u,k b u hb q}
 .by_cases hb:b=P
  .rw[hb,hP] at q
   cases q;exact{more,by rw[hb,Gu hNP,Af]}
  .exact{#[],by rw[sm b _ hb q];simp}
 .cases hN:N b with
  |some u=>
   rw[Lh hN] at e;cases e;exact new b _ hN
  |none=>
   rw[Gu hN] at e
   by_cases hb:b=P
   .rw[hb,Af] at e
    cases e;rw[hb];exact hT
   .rw[Al hb] at e
    refine(I.hok b o e).stay (λc v hc q=>k c v (λz=>?_) q) (λc q=>sm _ _ (λz=>by rw[z,hP] at q;cases q) q) λc xs q=>sm _ _ (λz=>by rw[z,hP] at q;cases q) q;rcases hc with h|h
    .exact hb (h▸z)
    .rw[z,hP] at h;cases h
end
def Om (P:eh)(H H':Hp):Prop:=∀b u,b≠P->H b=KH u->H' b=KH u
section
variable {X:Cx} {pins:Za1} {G:St} {H:Hp} {s:ft} {M:xx} {A:i9} {E:Za0} {Q:Za0} {c P:eh} {pos:Pos} {qual:Str} {params:nu} {body:ja} {scope:oq} {clos:List (Str×eh)}
theorem jO (I:Inv X pins G H s)(T:Pf H P pos qual)(C:BI X.base c P)(hb:X.base.BuiltinsAt X.mg P)(hcode:X.env.code=.ref c)(hcl:closureFor scope X.env=pure clos)(hdef:defaultsOf params X.env=([],[]))(hq:X.env.qual++"<lambda>"=qual)
  (h:∀(f c':eh) (oc:Obj) (pm ctv:fj) (s':ft) (H':Hp),Inv X pins G H' s'->Pf H' P pos qual->Om P H H'->H f=KI->H' f=KH (.frz (zb "<lambda>" qual params body scope clos pm c' ctv) (.own 0))->H' c'=KH (.frz oc (.own 0))->fX oc qual->Q (.ref f) s') :
  wpAny M A (eval (.Lambda params body scope pos) X.env) Q E s:=by
 obtain⟨ps,hP,ht,hc⟩:=T;refine PySem.W.kla_eval hdef ?_;rw[hq];have hPs:s.heap.get? P=KH (vn ps):=I.hok P _ hP;have hg:s.heap.Ns mainGlobals X.mg:=I.mod.glob.keeps I.bk;have hgP:mainGlobals≠P:=λe=>by
  obtain⟨o,es,ep,e1,d,_⟩:=I.mod.glob;have:=(I.bs _ _ e1).2;rw[e,hP] at this;cases this
 have hb':s.heap.BuiltinsAt X.mg P:=by
  obtain⟨bm,o,a1,a2,a3,a4,a5,a6⟩:=hb;exact{bm,o,a1,a2,a3,a4,I.bk _ _ a5,a6}
 rcases hc with hc|⟨c',oc,hc,hc',ho⟩
 .refine PySem.W.kla_makeFunction hcl I.ok.glob hg hcode (C.keeps I.bk) hPs ht hc hgP hb' λc' ctv h' tk hx hge hlt hrec htb=>?_
  obtain⟨c₂,oc,vs,t,e2,hoc,hd,hv⟩:=hrec;cases e2
  let fo:=zb "<lambda>" qual params body scope clos ((X.mg "__name__").getD .none) c' ctv
  let N:Hp:=λb=>if b=h'.objs.8 then KH (.frz fo (.own 0)) else if b=c' then KH (.frz oc (.own 0)) else KI
  have n1:N h'.objs.8=KH (.frz fo (.own 0)):=if_pos rfl;have n2:N c'=KH (.frz oc (.own 0)):=(if_neg (gw hlt)).trans (if_pos rfl);have n3:∀b o,N b=KH o->(b=h'.objs.8/\o=.frz fo (.own 0))\/(b=c'/\o=.frz oc (.own 0)):=λb o e=>by
   by_cases h1:b=h'.objs.8
   .rw[h1,n1] at e;cases e;exact .inl ⟨h1,rfl⟩
   .by_cases h2:b=c'
    .rw[h2,n2] at e;cases e;exact .inr ⟨h2,rfl⟩
    .have:N b=KI:=(if_neg h1).trans (if_neg h2)
     rw[this] at e;cases e
  have hp:∀b o,N b=KH o->s.heap.objs.8<=b:=λb o e=>by
   rcases n3 b o e with⟨r,_⟩|⟨r,_⟩<;>rw[r]
   .exact iy hge (f9 hlt)
   .exact hge
  have hNP:N P=KI:=by
   cases e:N P with
   |none=>rfl
   |some o=>exact absurd (I.hok P _ hP).lt (pi.mpr (hp P o e))
  have gf:(h'.push fo).get? h'.objs.8=KH fo:=gp _ rfl;have gc:(h'.push fo).get? c'=KH oc:=en _ hoc;have I':=Inv.grown (N:=N) (more:=#[FO pos.line,FO pos.col,.ref c']) (h':=h'.push fo) (t':=tk) I hP (λb u hb e=>en _ (hx b u hb e)) (en _ htb) hp λb o e=>by
   rcases n3 b o e with⟨r,r'⟩|⟨r,r'⟩<;>rw[r,r']
   .exact{gf,_,gf}
   .exact{gc,_,gc}
  refine h _ c' oc _ ctv _ _ I' {_,by rw[Gu hNP,Af],?_,.inr {c',oc,?_,Lh n2,vs,t,hd,hv}} (λb u hb e=>?_) (I.hok.fresh (hp _ _ n1)) (Lh n1) (Lh n2) ⟨vs,t,hd,hv⟩
  .rw[su];exact TriplesOk_snoc _ _ _ _ ht
  .rw[su];exact codeAmong_snoc _ ht hc
  .have:N b=KI:=by
    cases hN:N b with
    |none=>rfl
    |some o=>rw[I.hok.fresh (hp b o hN)] at e;cases e
   rw[Gu this,Al hb];exact e
 .refine PySem.W.kla_makeFunctionHit hcl I.ok.glob hg hcode (C.keeps I.bk) hPs ht hc hb' λctv h' tk hk hsz=>?_
  let fo:=zb "<lambda>" qual params body scope clos ((X.mg "__name__").getD .none) c' ctv
  let N:Hp:=λb=>if b=h'.objs.8 then KH (.frz fo (.own 0)) else KI
  have n1:N h'.objs.8=KH (.frz fo (.own 0)):=if_pos rfl;have n3:∀b o,N b=KH o->b=h'.objs.8/\o=.frz fo (.own 0):=λb o e=>by
   by_cases h1:b=h'.objs.8
   .rw[h1,n1] at e;cases e;exact⟨h1,rfl⟩
   .have:N b=KI:=if_neg h1
    rw[this] at e;cases e
  have hp:∀b o,N b=KH o->s.heap.objs.8<=b:=λb o e=>by rw[(n3 b o e).1];exact hsz
  have hn:∀b u,H b=KH u->N b=KI:=λb u e=>by
   cases hN:N b with
   |none=>rfl
   |some o=>rw[I.hok.fresh (hp b o hN)] at e;cases e
  have gf:(h'.push fo).get? h'.objs.8=KH fo:=gp _ rfl;have I':=Inv.grown (N:=N) (more:=#[]) (h':=h'.push fo) (t':=tk) I hP (λb u _ e=>en _ (hk b u e)) (by rw[t9];exact en _ (hk _ _ hPs)) hp λb o e=>by
   rw[(n3 b o e).1,(n3 b o e).2];exact{gf,_,gf}
  rw[t9] at I';have old:∀b u,b≠P->H b=KH u->Xy N (upd H P (.tbl ps)) b=KH u:=λb u hb e=>by rw[Gu (hn b u e),Al hb];exact e
  have hcP:c'≠P:=Ih hc' hP (by intro q;cases q);exact h _ c' oc _ ctv _ _ I' {ps,by rw[Gu (hn P _ hP),Af],ht,.inr {c',oc,hc,old _ _ hcP hc',ho}} old (I.hok.fresh (hp _ _ n1)) (Lh n1) (old _ _ hcP hc') ho
end
section
variable {prog:gl} {w:ip} {A:i9} {R:xu->ft->Prop} {s:ft}
theorem xF {f c' c a:eh}{k d:Str}{cl:List (Str×eh)}{ctv u v:fj}{pk pd pp:Pos}{its:Array fj}{i:Int}{ti:Tok}
  (ho:s.heap.get? f=KH (zb "<lambda>" qual params (.Subscript (.Name d pd) (.Name k pk) pp) scope cl pm c' ctv))(hcd:s.heap.CodeRec (.ref c') qual)(hroom:A.depth<recursionLimit)(hlim:s.heap.NoLimit)
  (hbind:bindArgs (DJ "<lambda>" qual params (.Subscript (.Name d pd) (.Name k pk) pp) scope cl pm (.ref c') ctv) {[.int i ti],[]}=pure [(k,.int i ti)])
  (hk:scope.kind=.function)(hco:scope.isCoroutine=KL)(hgen:scope.isGenerator=KL)(lk:scope.names.lookup k=KH .local)(ld:scope.names.lookup d=KH .free)(hcell:∀x∈scope.names,x.2≠.cell)(hcl:cl.lookup d=KH c)
  (hd:(d==("__classdict__":Str))=KL)(nk:(k==("__debug__":Str))=KL)(nd:(d==("__debug__":Str))=KL)
  (hcv:s.heap.IsCell c (KH (.ref a)))(hl:s.heap.IsList a its)(h0:0<=i)(hfit:i<2 ^ 63)(hv:its[i.toNat]?=KH v)
  (h:∀(h':jm) (tk:Tok),(∀b o,s.heap.get? b=KH o->h'.get? b=KH o)->R (.ok (.ret v)) { s with heap:=h',toks:=tk }) :
  codeAny (model prog w) A (.call (.ref f) {[.int i ti],[]}) R s:=by
 refine AI hroom ho rfl hco hgen rfl hcd ?_;rw[hbind];refine fq (xp hcell (λy hy=>by cases f7.mp hy;exact lk) (λQT hns hsb=>{hlim.fresh _ hsb,?_}) hk);have XB:∀b o,s.heap.get? b=KH o->QT.get? b=KH o:=λb o e=>hsb.extBut b o (gw (fu e)) (en _ e);refine AH (Subscript_ (yn (EV hk ld hcl (hcv.keeps XB) (yn (xq hk lk hns (v:=.int i ti) (by simp) (item_listR (let ⟨o,e,r⟩:=hl;{o,XB _ _ e,r}) h0 hfit hv (h QT _ XB))) nk) hd) nd))
end
open PySem.W
section
variable {prog:gl} {w:ip} {A:i9} {E:Za0} {s:ft}
def Md (a:eh)(h h':jm):Prop:=∀b o,b≠a->h.get? b=KH o->h'.get? b=KH o
end
section
variable {prog:gl} {w:ip} {A:i9} {s:ft}
theorem Aap {l:eh}(hl:s.heap.IsList l vs.6)(hz:vs.9<=sizeLine)(E':Za0)(Q':Za3->ft->Prop)
  (h:∀h' tk,(∀b o,s.heap.get? b=KH o->h'.get? b=KH o)->s.heap.objs.8<=h'.objs.8->Q' vs { s with heap:=h',toks:=tk }):wpAny (model prog w) A (collect (.ref l)) Q' E' s:=by
 refine collect_list hl (h _ s.toks (λb o q=>?_) (by rw[mq,BA];exact wn _)) hz;have hlt:b<s.heap.objs.8:=fu q;rw[Heap.get?_update_ne _ _ _ _ (gw hlt),x5 _ _ _ (gw hlt)];exact q
end
theorem Vm:∀{us:Za3} {ns:List Int},us.9=ns.9->(∀(i:Nat) u n,us[i]?=KH u->ns[i]?=KH n->∃t,u=.int n t)->r6 us ns
 |[],[],_,_=>.nil
 |u::us,n::ns,hl,h=>by
  obtain⟨t,rfl⟩:=h 0 u n rfl rfl;exact .cons n t (Vm (sh hl) λi v m e1 e2=>h (i+1) v m e1 e2)
theorem R7:∀l:Za3,(∀v∈l,∃n t,v=o6 n t)->r6 l (l.map numOf)
 |[],_=>.nil
 |v::l,h=>by
  obtain⟨n,t,rfl⟩:=h _ (gr ..);exact .cons n t (R7 l λu hu=>h u (gt _ hu))
section
variable {prog:gl} {w:ip} {A:i9} {E:Za0} {s:ft}
theorem tW {r:eh}{t u v:Tok}(hh:A.handled=KI)(hr:IsRange s.5 r 0 n 1 t u v)(hn:n<=100000)(E':Za0)(Q':Za3->ft->Prop)
  (h:∀vs h' tk,r6 vs ((fb n).map λi:Nat=>(i:Int))->(∀b o,s.heap.get? b=KH o->h'.get? b=KH o)->s.heap.objs.8<=h'.objs.8->Q' vs { s with heap:=h',toks:=tk }):wpAny (model prog w) A (collect (.ref r)) Q' E' s:=by
 have e2:lh 0 (n:Int) 1=n:=by rw[JF];split<;>lia
 have key:∀R:xu->ft->Prop,(∀(h':jm) (tk:Nat) (acc':Array fj) (c':Nat),(∀b o,s.heap.get? b=KH o->h'.get? b=KH o)->h'.get? s.heap.objs.8=KH { cls:=.type "list",dict:=KI,data:=.seq acc' c',slots:=#[] } ->
   ItemsOf (λi v=>∃t,v=.int (0+(i:Int)*1) t) acc' n->R (.ok (.ret (.ref s.heap.objs.8))) { s with heap:=h',toks:=tk })->codeAny (model prog w) A (.builtin "proto.collect" ⟨[.ref r],[]⟩) R s:=λR hR=>by
  refine ml F.entry_proto_collect ?_;rw[j5 F.plain_proto_collect _];show wpAny _ A.in1 (newList [] >>= λl=>again (.builtin "list.__iadd__" {[l,.ref r],[]})) _ _ s;refine wpAny_bind (pq ?_);refine fq {ol F.plain_list_iadd _,ml F.entry_list_iadd ?_};rw[j5 F.plain_list_iadd _];have XU:(s.heap.push { cls:=.type "list",data:=.seq ([]:Za3).6 }).get? s.heap.objs.8=KH { cls:=.type "list",data:=.seq ([]:Za3).6 }:=gp _ rfl;show wpAny _ A.in1 (om (.ref s.heap.objs.8) (.ref r) (.ref s.heap.objs.8)) _ _ _;exact wpAny_extend_range (R:=R) (s:={ s with heap:=s.heap.push { cls:=.type "list",data:=.seq ([]:Za3).6 } }) hh (en _ hr) (small_one () () () ()) e2 () _ _ _ XU λh' tk acc' c' hk hS' hacc=>
   hR h' tk acc' c' (λb o q=>hk b o (gw (fu q)) (en _ q)) hS' hacc
 unfold collect;refine wpAny_bind (wpAny_runValue (key _ λh' tk acc' c' hk hS' hacc=>?_));show wpAny _ A (load s.heap.objs.8 >>= _) _ _ _;refine wpAny_bind (wpAny_load hS' ?_);refine fq (h _ h' tk ?_ hk (f9 (fu hS')));refine Vm (by rw[d7,fg,gh,hacc.1]) λi x y e1 e3=>?_;have hi:i<n:=by have:=(fc.mp e3).1;simpa using this
 rw[d9,gd hi] at e3;cases e3;have e4:acc'[i]?=KH x:=by rw[<-gq];exact e1
 obtain⟨t,e5⟩:=hacc.2 i x e4;exact{t,by rw[e5];simp}
end
abbrev gO (k:Str)(pa:Pos):nu:={ posonlyargs:=[],args:=[{ arg:=k,annotation:=KI,pos:=pa }],vararg:=KI,kwonlyargs:=[],kw_defaults:=[],kwarg:=KI,defaults:=[] }
abbrev O7 (k d:Str):oq:={.function,[(k,.local),(d,.free)],KL,KL,[]}
abbrev fT (k d:Str)(pd pk pp:Pos):ja:=.Subscript (.Name d pd) (.Name k pk) pp
section
variable {X:Cx}
def Ah4 (ta:TA):TE:=λG H Q=>ta G H λvs H1=>∃j:Nat,vs=[.int j]/\j<=100000/\∀p,H1 p=KI->Q (.ref p) (upd H1 p (.rng 0 j))
theorem Abz {a:ja}{ta:TA}{q:Pos}(hg2:Gl X "range")(hm2:X.mg "range"=KI)(ha:PA X [a] ta)(hs:autoParam (starEach [a] X.env=[(KL,eval a X.env)]) QD) :
  PE X (.Call (.Name "range" q) [a] [] pos2) (Ah4 ta):=by
 k_in;refine wpAny_Call_Name_kw (Do I hg2 hm2 boot_range (ij (thA ha I h λus s1 vs H1 I1 r1 q1=>?_) hs rfl) (by decide) (by decide));obtain⟨j,e,hj,q⟩:=q1;subst e;obtain⟨u,rfl,t,rfl⟩:=Fl r1;refine KB ?_;exact{.ref _,_,I1.laid (o:=.rng 0 j) (λb o e=>en _ e) (d8 _) {_,_,_,gp _ rfl},rfl,q _ (I1.hok.fresh (d8 _))}
def Ig (n:Nat):List Int:=(fb n).map λj:Nat=>(j:Int)
end
def J8 (o:Obj)(c P:eh):Prop:=∃vs file tf flags tg inF text tt,o.cls=.type "code"/\o.data=.fields vs/\vs[11]?=KH (.ref P)/\vs.getD 11 .none=.ref P/\vs.getD 18 .none=.str file tf /\
  vs.getD 7 .none=.int flags tg/\vs.getD 9 .none=.bool inF/\vs.getD 10 .none=.int text tt/\c≠P
theorem J8.at {o:Obj}{c P:eh}(x:J8 o c P)(e:h.get? c=KH o):BI h c P:=by
 obtain⟨vs,file,tf,flags,tg,inF,text,tt,a1,a2,a3,a4,a5,a6,a7,a8,a9⟩:=x;exact⟨o,vs,file,tf,flags,tg,inF,text,tt,e,a1,a2,a3,a4,a5,a6,a7,a8,a9⟩
theorem lP {P:gl}{K:d6}{mg mb:Za2}{CX:CXT}{k:Nat}{fa a:eh}{x:Str}{QN:ft}{tabs:List (eh×eh)}
  (hT:yq tabs QN.5)(hTK:∀q∈tabs,K.lookup q.2=KI)(hB:∃bm ob,mg "__builtins__"=KH (.ref bm)/\bm≠builtinsNs/\QN.heap.get? bm=KH ob/\ob.cls=.type "module"/\ob.dict=KH builtinsNs/\ob.data=.plain)(KX:K.In QN.5)(hns:QN.heap.Ns mainGlobals mg)(hb:QN.heap.Ns builtinsNs mb)(hbb:∀x:Str,x≠"__name__"->mb x=bootBuiltins x)(hlim:QN.heap.NoLimit)(hg:QN.gens=#[])
  (ha:QN.heap.get? a=KH { cls:=.type "list",data:=.seq vs.6 })(hi:r6 vs ns)(hl:ns.9<=sizeLine)(hr:Co k callerA)
  (F:∀base:jm,K.In base->base.Ns mainGlobals mg->(∀q∈tabs,base.BuiltinsAt mg q.2)->Ar P w K mg base CX k fa fd [x] sp)(hbind:∀(s:ft) (u:fj),AV s fd {[u],[]} [(x,u)])
  (hsp:∀H:Hp,(∀q∈tabs,H q.2=KH (.tbl #[]))->SqL K H a (ns.map V.int)->sp [.ref a] H (λv _=>v=.bl KJ) λ_ _ _=>False)
  (hCX:∀H e s',CX [] H QN (λ_ _ _=>False) e s'->False) :
  codeAny (model P w) callerA (.call (.ref fa) {[.ref a],[]}) (λr s'=>r=.ok (.ret (.bool KJ))/\OldK QN.5 s'.5/\s'.os=QN.os/\wv s'.gens) QN:=by
 have rv:=Rw hi;have tabAt:∀b,b∈tabs.map (·.2)->QN.heap.get? b=KH (vn #[])/\K.lookup b=KI/\isCodeTable QN.5 b:=λb hm=>by
  obtain⟨q,hq,rfl⟩:=lq.mp hm;exact{(hT q hq).2,hTK q hq,((hT q hq).1.tab (hT q hq).2).isCodeTable}
 have haT:a∉tabs.map (·.2):=λhm=>by
  have:=(tabAt a hm).1;rw[ha] at this;cases this
 let H:Hp:=λb=>if b∈tabs.map (·.2) then KH (.tbl #[]) else if b=a/\K.lookup a=KI then KH (.frz { cls:=.type "list",data:=.seq vs.6 } (.lst (ns.map V.int))) else KI
 have H1:∀b,b∈tabs.map (·.2)->H b=KH (.tbl #[]):=λb hm=>if_pos hm;have H2:∀b,b∉tabs.map (·.2)->¬(b=a/\K.lookup a=KI)->H b=KI:=λb h1 h2=>(if_neg h1).trans (if_neg h2);have H3:K.lookup a=KI->H a=KH (.frz { cls:=.type "list",data:=.seq vs.6 } (.lst (ns.map V.int))):=λh=>(if_neg haT).trans (if_pos ⟨rfl,h⟩);have cases3:∀b,(b∈tabs.map (·.2))\/(b=a/\K.lookup a=KI/\b∉tabs.map (·.2))\/(H b=KI):=λb=>by
  by_cases h1:b∈tabs.map (·.2)
  .exact .inl h1
  .by_cases h2:b=a/\K.lookup a=KI
   .exact .inr (.inl ⟨h2.1,h2.2,h1⟩)
   .exact .inr (.inr (H2 b h1 h2))
 have hok:HOk P w H QN.5:=λb o e=>by
  rcases cases3 b with h|⟨rfl,h1,_⟩|h
  .rw[H1 b h] at e
   cases e;exact(tabAt b h).1
  .rw[H3 h1] at e
   cases e;exact{ha,by rw[d7];exact hl,vs,_,rv,ha}
  .rw[h] at e
   cases e
 have noD:∀{b:eh} {o:Obj} {es:Array DictEntry} {ep:Nat},QN.heap.get? b=KH o->o.data=.dict es ep->H b=KI:=λ{b o es ep} e d=>by
  rcases cases3 b with h|⟨rfl,_,_⟩|h
  .rw[(tabAt b h).1] at e
   cases e;have d':CA #[]=JA es ep:=d;cases d'
  .rw[ha] at e
   cases e;have d':Data.seq vs.6 _=JA es ep:=d;cases d'
  .exact h
 have nsK:∀{b:eh} {m:Za2},QN.heap.Ns b m->(fU QN.5 H).Ns b m:=λ{b m} ⟨o,es,ep,e,d,r⟩=>{o,es,ep,Vu e (noD e d),d,r};have hKb:K.In (fU QN.5 H):=λb o e=>Vu (KX b o e) (by
  rcases cases3 b with h|⟨rfl,h1,_⟩|h
  .rw[(tabAt b h).2.1] at e;cases e
  .rw[h1] at e;cases e
  .exact h)
 have hBa:∀q∈tabs,(fU QN.5 H).BuiltinsAt mg q.2:=λq hq=>by
  obtain⟨bm,ob,b1,b2,b3,b4,b5,b6⟩:=hB;have n1:bm≠mainGlobals:=λz=>by
   obtain⟨o,es,ep,e,d,_⟩:=hns;rw[z,e] at b3;cases b3;rw[d] at b6;cases b6
  have nP:bm∉tabs.map (·.2):=λhm=>by
   have:=(tabAt bm hm).1;rw[b3] at this;cases this;cases b6
  have hn:H bm=KI:=by
   rcases cases3 bm with h|⟨h,_,_⟩|h
   .exact absurd h nP
   .rw[h,ha] at b3
    cases b3;cases b6
   .exact h
  exact{bm,ob,b1,b2,n1,λz=>nP (z▸oh hq),Vu b3 hn,b4,b5,b6}
 have hM:Mod K mg (fU QN.5 H):={hKb,nsK hns,{mb,nsK hb,hbb},let ⟨mc,h1,h2⟩:=hlim;{mc,nsK h1,h2}};have e0:Xk P w K mg (fU QN.5 H) callerA [] QN H:={rfl,hM,λb o e=>Abm e,qb (sW _ _),trivial,λb hb=>absurd (show b∈([]:List eh) from hb) (by simp),hok,.of_eq hg};have hS:SqL K H a (ns.map V.int):=by
  cases hk:K.lookup a with
  |none=>exact .inl (.inr {_,H3 hk})
  |some o=>
   have e:=KX a o hk;rw[ha] at e;cases e;exact .inr {_,vs.6,_,hk,rfl,rfl,rfl,by rw[ge,hi.9];exact hl,by simpa using rv}
 refine uh ((F _ hKb (nsK hns) hBa).run callerA [] QN H {[.ref a],[]} [.ref a] [.ref a] _ _ hr e0 (hbind QN (.ref a)) (.cons rfl .nil) (hsp H (λq hq=>H1 _ (oh hq)) hS)) λr s' h=>?_
 cases r with
 |error e=>exact(hCX H e s' h).elim
 |ok fl=>
  cases fl with
  |next=>exact kl h
  |brk=>exact kl h
  |cont=>exact kl h
  |ret u=>
   obtain⟨v,H',os,bare,un,hok',r',q⟩:=h;have q':v=.bl KJ:=q;subst q';obtain rfl:u=zc KJ:=r';have out:∀b o,QN.heap.get? b=KH o->(b∈tabs.map (·.2)/\∃more,s'.heap.get? b=KH (vn more))\/s'.heap.get? b=KH o:=λb o e=>by
    rcases cases3 b with h|⟨rfl,h1,_⟩|h
    .obtain⟨more,hm⟩:=un.tbls b _ (H1 b h)
     exact .inl {h,_,hok' b _ hm}
    .obtain⟨e2,_⟩:=hok' _ _ (un.frzs _ _ _ (H3 h1))
     rw[ha] at e;cases e;exact .inr e2
    .exact .inr (un.keep b o e h (by intro z;exact absurd (show b∈([]:List eh) from z) (by simp)) (by simp))
   refine{rfl,{λb o e=>?_,λb o e=>?_},os,bare}
   .rcases out b o e with⟨h,more,hm⟩|h
    .have e1:=(tabAt b h).1
     rw[e] at e1;cases e1;exact .inr (.inl {(tabAt b h).2.2,rfl,#[],more,rfl,by rw[Array.empty_append];exact hm})
    .exact .inl h
   .rcases out b o e with⟨_,more,hm⟩|h
    .exact{_,hm}
    .exact⟨o,h⟩
theorem tM {l:yb}{k:Nat}{q:gl}{loose:Za6}{XP:(Za2)->jm->Prop}{YP:ip->jm->Prop}{d:IZ}{K:zu->d6}{CX:ip->CXT}{sp:ip->Sp}{x:Str}{tabs:List (eh×eh)}
  (hn:l.most=KH n)(hn2:n<=sizeLine)(hdf:d.params.defaults=[])(hr:Co k callerA)
  (hY:∀(w:ip) (h:jm),YP w h->(K w.params).In h)(hTb:∀(w:ip) (h:jm),YP w h->yq tabs h)(hTK:∀w:ip,∀p∈tabs,(K w.params).lookup p.2=KI)
  (F:∀(w:ip) (mg:Za2) (fa:eh) (h:jm),(K w.params).In h->h.Ns mainGlobals mg->mg d.name=KH (.ref fa) ->
   ∃fd:jx,(∀(s:ft) (u:fj),AV s fd {[u],[]} [(x,u)]) /\
    ∀base:jm,(K w.params).In base->base.Ns mainGlobals mg->(∀q∈tabs,base.BuiltinsAt mg q.2)->Ar l.prog w (K w.params) mg base (CX w) k fa fd [x] (sp w))
  (hsp:∀(w:ip) (H:Hp) (a:eh) (ns:List Int),ns.9<=n->(∀p∈tabs,H p.2=KH (.tbl #[]))->SqL (K w.params) H a (ns.map V.int)->sp w [.ref a] H (λv _=>v=.bl KJ) λ_ _ _=>False)
  (hCX:∀(w:ip) (H:Hp) (s:ft) (e:fj) (s':ft),CX w [] H s (λ_ _ _=>False) e s'->False) :
  DV q loose XP YP l.row.toRowW d [] (λf vs=>CI f vs):=by
 refine _At.attach_call hn hdf λw QP QN mg mb fa o pm cd doc a vs ns G Y ho hd hcd hmg hobj hints hlen hg=>?_;have KX:=hY w _ Y;obtain⟨fd,hb,hF⟩:=F w mg fa _ KX G.T.g hmg;exact lP (hTb w _ Y) (hTK w) G.T.bmain KX G.T.g G.T.b G.T.builtins G.T.nolimit hg hobj hints (iy hlen hn2) hr hF hb (λH hO hS=>hsp w H a ns hlen hO hS) λH e s'=>hCX w H QN e s'
structure Xm (K:d6) (x qual:Str) (st:i4) (f:eh) (fd:jx) (c P:eh):Prop where
 ex:∃(oc:fj) (od:Option eh) (kV doc pm:fj) (an:Option eh) (ct:fj) (osl:Array (Za7)),
  fd=jl x qual (B2 st) (Bj st) (Ac st) .none kV doc pm an (.ref c) ct/\K.lookup f=KH {oc,od,.func fd,osl}/\lz K (.ref c) qual=KJ
 kp:ki K (.ref f)=KJ
 hd:∃oc,K.lookup c=KH oc/\J8 oc c P
section
variable {P:gl} {w:ip} {K:d6} {mg:Za2} {base:jm}
theorem Xm.ok {x:Str}{st:i4}{f c:eh}{k:Nat}(F:Xm K x qual st f fd c Pt)(S:Ah N ps (Ac st))(len:∀vs H Q E,sp vs H Q E->vs.9=ps.9)
  (hbody:∀(A:i9) (outer:List Env) (s:ft) (H:Hp) (vs:List V) (Q:VK) (E:XK),Co k (A.deeper (envOfC qual (Ac st) s.heap.objs.8 f (.ref c)))->sp vs H Q E ->
   ∃t,PSs (iC CX0 P w K mg base N qual (Ac st) f (.ref c) A outer s H E).nox (Bj st) t/\t { nx:=λ_ H'=>Q .non H',rt:=Q } (Nh N vs) H):Ar P w K mg base CX0 (k+1) f fd ps sp:=by
 obtain⟨oc,od,kV,doc,pm,an,ct,osl,rfl,lk,hcd⟩:=F.ex;refine vC lk hcd S len λA outer s H vs Q E hr hsp=>?_;obtain⟨t,h,q⟩:=hbody A outer s H vs Q E hr hsp;exact⟨t,h.nox,q⟩
theorem Xm.code {x:Str}{st:i4}{f c:eh}(F:Xm K x qual st f fd c Pt)(hK:K.In base):BI base c Pt:=let ⟨oc,e,h⟩:=F.hd;h.at (hK _ _ e)
theorem Xm.binds {x:Str}{st:i4}{f c:eh}(F:Xm K x qual st f fd c Pt)
  (h:∀(kV doc pm:fj) (an:Option eh) (cdv ct:fj) (us:Za3),us.9=ps.9->bindArgs (jl x qual (B2 st) (Bj st) (Ac st) .none kV doc pm an cdv ct) {us,[]}=pure (ps.zip us)):Fp K fd ps []:=by
 obtain⟨oc,od,kV,doc,pm,an,ct,osl,rfl,lk,hcd⟩:=F.ex;exact .all (h kV doc pm an (.ref c) ct)
theorem gB {x:Str}{st:i4}{f c:eh}{osl:Array (Za7)}{kV:fj}{oo:Obj}(l:K.lookup f=KH {oc,od,.func (jl x qual (B2 st) (Bj st) (Ac st) .none kV doc pm an (.ref c) ct),osl})
  (cc:lz K (.ref c) qual=KJ)(k:ki K (.ref f)=KJ)(lc:K.lookup c=KH oo)(hc:J8 oo c Pt):Xm K x qual st f (jl x qual (B2 st) (Bj st) (Ac st) .none kV doc pm an (.ref c) ct) c Pt:={⟨oc,od,kV,doc,pm,an,ct,osl,rfl,l,cc⟩,k,oo,lc,hc}
end
def InC (cl:List (Str×eh))(b:eh):Prop:=∃x,cl.lookup x=KH b
open Classical in
noncomputable def Jq (H:Hp) (cl:List (Str×eh)):Hp:=λb=>if InC cl b then KI else H b
open Classical in
noncomputable def Jd (H:Hp) (h:jm) (cl:List (Str×eh)):Hp:=λb=>if InC cl b then(h.get? b).map λo=>.frz o (.own 0) else H b
theorem Ly {cl:List (Str×eh)}{b:eh}(h:InC cl b):Jq H cl b=KI:=if_pos h
theorem Gj {cl:List (Str×eh)}{b:eh}(h:¬ InC cl b):Jq H cl b=H b:=if_neg h
theorem Pq {cl:List (Str×eh)}{b:eh}{o:Obj}(hb:InC cl b)(e:h.get? b=KH o):Jd H h cl b=KH (.frz o (.own 0)):=by
 unfold Jd;rw[if_pos hb,e];rfl
theorem C4 {cl:List (Str×eh)}{b:eh}(hb:¬ InC cl b):Jd H h cl b=H b:=if_neg hb
theorem Fd {cl:List (Str×eh)}{b:eh}(h:H b=KI):Jq H cl b=KI:=by
 by_cases hb:InC cl b
 .exact Ly hb
 .rw[Gj hb];exact h
theorem mN {cl:List (Str×eh)}{b:eh}{o:HO}(h:Jq H cl b=KH o):¬ InC cl b/\H b=KH o:=by
 by_cases hb:InC cl b
 .rw[Ly hb] at h;cases h
 .rw[Gj hb] at h;exact⟨hb,h⟩
theorem hX {P:gl}{cl:List (Str×eh)}(hk:HOk P w H h)(hc:∀b,InC cl b->∃o u,H b=KH (.frz o u)):HOk P w (Jq H cl) h:=λb o e=>by
 obtain⟨hb,e⟩:=mN e;refine(hk b o e).stay (λ_ _ _ q=>q) (λc q=>?_) λc xs q=>?_
 .rw[Gj λz=>?_]
  .exact q
  .obtain⟨o,u,e⟩:=hc c z
   rw[q] at e;cases e
 .rw[Gj λz=>?_]
  .exact q
  .obtain⟨o,u,e⟩:=hc c z
   rw[q] at e;cases e
theorem iA {P:gl}{w:ip}{H:Hp}{h:jm}{cl:List (Str×eh)}(hk:HOk P w H h)(hn:∀b,InC cl b->H b=KI):HOk P w (Jd H h cl) h:=λb o e=>by
 by_cases hb:InC cl b
 .unfold Jd at e
  rw[if_pos hb] at e
  cases g:h.get? b with
  |none=>rw[g] at e;cases e
  |some ob=>
   rw[g] at e;cases e;exact{g,_,g}
 .rw[C4 hb] at e
  refine(hk b o e).stay (λ_ _ _ q=>q) (λc q=>?_) λc xs q=>?_
  .rw[C4 λz=>by rw[hn c z] at q;cases q];exact q
  .rw[C4 λz=>by rw[hn c z] at q;cases q];exact q
def iR (P:gl)(w:ip)(K:d6)(mg:Za2)(base:jm)(k:Nat)(H:Hp)(f:eh)(dom:Int->Prop)(p:Int->Bool):Prop:=
 (∃oc od fd sl u,H f=KH (.frz {oc,od,.func fd,sl} u))/\∀(A:i9) (outer:List Env) (s:ft) (H1:Hp) (i:Int) (t:Tok),Co k A->Xk P w K mg base A outer s H1->Ag H H1->dom i ->
  codeAny (model P w) A (.call (.ref f) {[.int i t],[]}) (CR CX0 outer P w H1 s (λv H2=>v=.bl (p i)/\Ag H1 H2) E0) s
theorem iR.same {P:gl}{K:d6}{mg:Za2}{k:Nat}{f:eh}{dom:Int->Prop}{p:Int->Bool}(a:iR P w K mg base k H f dom p)(s:Ag H H'):iR P w K mg base k H' f dom p:=
 {let ⟨oc,od,fd,sl,u,e⟩:=a.1;{oc,od,fd,sl,u,s _ _ e},λA outer st H1 i t hr e0 sm hd=>a.2 A outer st H1 i t hr e0 (λb o e=>sm _ _ (s _ _ e)) hd}
section
variable {X:Cx} {x:Str} {i:Nat} {k:Nat} {a:ja} {ta:TE} {q pos:Pos}
def Ag7 (P:gl)(w:ip)(K:d6)(mg:Za2)(base:jm)(k i:Nat)(ta:TE):TE:=λG H Q=>∃(f:eh) (dom:Int->Prop) (p:Int->Bool),G[i]?=KH (KH (.ref f))/\iR P w K mg base k H f dom p /\
 ta G H λv H1=>nA G H1 λvs H2=>∃z:Int,v::vs=[.int z]/\Ag H H2/\dom z/\∀H3,Ag H2 H3->Q (.bl (p z)) H3
theorem Aif {P:gl}{K:d6}{mg:Za2}{G:St}{Q:VK}(h:∃(f:eh) (dom:Int->Prop) (p:Int->Bool),G[i]?=KH (KH (.ref f))/\iR P w K mg base k H f dom p /\
 ta G H λv H1=>nA G H1 λvs H2=>∃z:Int,v::vs=[.int z]/\Ag H H2/\dom z/\∀H3,Ag H2 H3->Q (.bl (p z)) H3):Ag7 P w K mg base k i ta G H Q:=h
theorem Ad4 (hr:Co k X.A)(hN:X.N[i]?=KH x)(hv:X.env.scope.names.lookup x=KH .local)(ha:PE X a ta)(hdb:autoParam ((x==("__debug__":Str))=KL) QF)(hcd:autoParam ((x==("__classdict__":Str))=KL) QF)
  (he:autoParam (starEach [a] X.env=[(KL,eval a X.env)]) QD) :
  PE X (.Call (.Name x q) [a] [] pos) (Ag7 X.prog X.w X.K X.mg X.base k i ta):=by
 intro pins s G H Q I ⟨f,dom,p,XG,hA,h⟩;have hn:PE X (.Name x q) (Act i):=vF hN (.inl hv) hdb hcd;refine wpAny_Call_Name_kw (thn (hn pins s G H (λv H1=>v=.ref f/\H1=H) I {_,XG,rfl,rfl}) λu s0 h_=>cpZ λX_ k_=>?_);obtain⟨v0,H0,I0,r0,e0,e1⟩:=h_;refine k_ ?_;subst e0 e1;obtain rfl:u=jc f:=r0;have fnAt:∀{s':ft} {H':Hp},Inv X pins G H' s'->Ag H0 H'->PySem.W.FnAt f s'.5:=λI' sm=>by
  obtain⟨oc,od,fd,sl,u,e⟩:=hA.1;exact{oc,od,fd,sl,(I'.hok _ _ (sm _ _ e)).1}
 have hp:PA X [a] (kZ ta nA):=qI ha Aa he;refine PySem.W.callWith_F (fnAt I0 (λ_ _ e=>e)) (thn (hp pos pins s0 G H0 (λvs H1=>∃z:Int,vs=[.int z]/\Ag H0 H1/\dom z/\∀H3,Ag H1 H3->Q (.bl (p z)) H3) I0 ?_) λus s1 ⟨vs,H1,I1,r1,z,e1,sm,hz,q1⟩=>{fnAt I1 sm,?_}) he rfl
 .exact h
 subst e1;obtain⟨u,rfl,t,rfl⟩:=Fl r1;refine ym (uh (hA.2 X.A X.stack s1 H1 z t hr I1.env0 sm hz) λr s' hq=>?_)
 cases r with
 |error e=>exact hq.elim
 |ok fl=>
  cases fl with
  |ret u=>
   obtain⟨v,H',os,bare,un,hok,r,e2,sm2⟩:=hq;subst e2;exact I1.after {_,H',os,bare,un,hok,r,q1 _ sm2}
  |next=>exact kl hq
  |brk=>exact kl hq
  |cont=>exact kl hq
end
abbrev tD (qual:Str)(scope:oq)(cl:List (Str×eh))(C f:eh)(cd:fj):Env:=newEnv scope C mainGlobals cl (qual++ox ".<locals>.") (KH f) cd KI builtinsNs
def Yx (P:gl)(w:ip)(K:d6)(mg:Za2)(base:jm)(N:Za6)(qual:Str)(scope:oq)(cl:List (Str×eh))(f:eh)(cd:fj)(A:i9)(outer:List Env)(s:ft)(H:Hp):Cx where
 prog:=P
 w:=w
 K:=K
 mg:=mg
 base:=base
 A:=A.deeper (tD qual scope cl s.heap.objs.8 f cd)
 N:=N
 QP:=s
 QZ:=H
 env:=tD qual scope cl s.heap.objs.8 f cd
 outer:=outer
 stack:=tD qual scope cl s.heap.objs.8 f cd::outer
 ex:=[]
 fn:=λ_=>KL
 calm:=KJ
 pn:=[]
 xe:=λ_ _=>False
section
variable {P:gl} {w:ip} {K:d6} {mg:Za2} {base:jm}
theorem Abx {x:Str}{cl:List (Str×eh)}{f:eh}{cd:fj}{outer:List Env}{G:St}{QT:jm}{tk:Nat}{v0:V}{u0:fj}{k:Nat}
  (L:A6 QR QQ scope x N ix)(hr:Co (k+1) A)(e0:Xk P w K mg base A outer s H1)
  (hinj:∀y z c,cl.lookup y=KH c->cl.lookup z=KH c->y=z)(hhas:∀y,(y,ou)∈scope.names->∃c,cl.lookup y=KH c)
  (hcs:∀y c,cl.lookup y=KH c->∃o v,H1 c=KH (.frz o (.own 0))/\o.data=.cell v)
  (hval:∀y j v,(y,j)∈N.tail.zip ix->G[j]?=KH (KH v)->∃c o u,cl.lookup y=KH c/\H1 c=KH (.frz o (.own 0))/\o.data=.cell (KH u)/\A8 v u)
  (hr0:A8 v0 u0)(hns:QT.Ns s.heap.objs.8 λz=>ow z [(x,u0)].reverse)(hk:∀b o,s.heap.get? b=KH o->QT.get? b=KH o) :
  Inv (Yx P w K mg base N qual scope cl f cd A outer s (Jq H1 cl)) [] (KH v0::frV G ix) (Jq H1 cl) { s with heap:=QT,toks:=tk }:=by
 have noA:∀b:eh,b∉(Yx P w K mg base N qual scope cl f cd A outer s (Jq H1 cl)).ex:=λb z=>absurd (show b∈([]:List eh) from z) (by simp);have kf:∀y,scope.names.lookup y≠KH .cell:=λy e=>L.nocell _ (j9 e) rfl;refine⟨{e0.mod,L.kind,rfl,rfl,d8 _,λy z c h1 h2=>hinj y z c h1 h2,λy hy=>?_,λy c z _=>?_,λ_=>(hr.deeper _).hd,AW e0.frames,.inr ⟨rfl,rfl⟩,λb z=>absurd z (noA b),λb o e=>{(e0.bs b o e).1,Fd (e0.bs b o e).2},e0.bsz,λb _ _=>noA b,λb z=>absurd z (noA b),e0.funs,λb hb=>Fd (e0.frf b hb)},
  rfl,e0.bare,Un.kept hk,{_,hns,λi y v h1 h2 h3=>?_},λy c e=>?_,Fd (e0.hok.fresh (d8 _)),λy c e=>Ly ⟨y,e⟩,λp hp=>absurd (show p∈([]:Za1) from hp) (by simp),?_,?_⟩
 .have hy:scope.names.lookup y=KH .cell\/scope.names.lookup y=KH .free:=hy
  rcases hy with hy|hy
  .exact absurd hy (kf y)
  .exact hhas y (j9 hy)
 .cases(show KL=KJ from z)
 .cases i with
  |zero=>
   have h1:N[0]?=KH y:=h1;have h2:KH (KH v0)=KH (KH v):=h2;cases h2;have hx:N[0]?=KH x:=by have:=L.hd;rwa [AQ] at this
   rw[h1] at hx;cases hx;exact{u0,hr0,.inl {L.loc,by simp}}
  |succ j=>
   have h1:N[j+1]?=KH y:=h1;have h2:(frV G ix)[j]?=KH (KH v):=h2;unfold frV at h2;rw[d9] at h2
   cases hj:ix[j]? with
   |none=>rw[hj] at h2;cases h2
   |some m=>
    rw[hj] at h2;have h2:(G[m]?).getD KI=KH v:=ee h2;have h2':G[m]?=KH (KH v):=by
     cases e:G[m]? with
     |none=>rw[e] at h2;cases h2
     |some z=>rw[e] at h2;exact congrArg KH h2
    have ht:N.tail[j]?=KH y:=by rw[List.getElem?_tail];exact h1
    have hz:(y,m)∈N.tail.zip ix:=f8 (i:=j) (by rw[qc];exact⟨ht,hj⟩);obtain⟨c,o,u,e1,e2,e3,r⟩:=hval y m v hz h2';exact{u,r,.inr {.inr (L.at_ _ hz).2,c,e1,o,hk _ _ (e0.hok _ _ e2).1,e3}}
 .obtain⟨o,v,e1,e2⟩:=hcs y c e
  exact{v,o,hk _ _ (e0.hok _ _ e1).1,e2}
 .exact(hX e0.hok λb ⟨y,e⟩=>let ⟨o,v,e1,_⟩:=hcs y b e;{o,_,e1}).kept hk
 .show(KH v0::frV G ix).9=N.9
  rw[L.len];simp[frV]
theorem zC {x:Str}{cl:List (Str×eh)}{f c':eh}{G:St}{k:Nat}{body:ja}{ctv:fj}{oc:Obj}{dom:Int->Prop}{p:Int->Bool}
  (L:A6 QR QQ scope x N ix)(hco:scope.isCoroutine=KL)(hgen:scope.isGenerator=KL)
  (hinj:∀y z c,cl.lookup y=KH c->cl.lookup z=KH c->y=z)(hhas:∀y,(y,ou)∈scope.names->∃c,cl.lookup y=KH c)
  (hcs:∀y c,cl.lookup y=KH c->∃o v,H c=KH (.frz o (.own 0))/\o.data=.cell v)
  (hval:∀y j v,(y,j)∈N.tail.zip ix->G[j]?=KH (KH v)->∃c o u,cl.lookup y=KH c/\H c=KH (.frz o (.own 0))/\o.data=.cell (KH u)/\A8 v u)
  (hf:H f=KH (.frz (zb "<lambda>" qual params body scope cl pm c' ctv) (.own 0)))(hc':H c'=KH (.frz oc (.own 0)))(hoc:fX oc qual)
  (hbind:∀(n:Int) (t:Tok),bindArgs (DJ "<lambda>" qual params body scope cl pm (.ref c') ctv) {[.int n t],[]}=pure [(x,.int n t)])
  (hbody:∀(A:i9) (outer:List Env) (s:ft) (H1:Hp),Co k (A.deeper (tD qual scope cl s.heap.objs.8 f (.ref c')))->PE (Yx P w K mg base N qual scope cl f (.ref c') A outer s H1) body te)
  (hte:∀(i:Int) (H1:Hp),dom i->(∀b u,¬ InC cl b->H b=KH u->H1 b=KH u)->te (KH (.int i)::frV G ix) H1 λv H2=>v=.bl (p i)/\Ag H1 H2):iR P w K mg base (k+1) H f dom p:=by
 refine{{_,_,_,_,_,hf},λA outer s H1 i t hr e0 sm hd=>?_};have hfo:s.heap.get? f=KH (zb "<lambda>" qual params body scope cl pm c' ctv):=(e0.hok _ _ (sm _ _ hf)).1;have hco':s.heap.get? c'=KH oc:=(e0.hok _ _ (sm _ _ hc')).1;have lim:s.heap.NoLimit:=e0.mod.nolimit.keeps λb o e=>(e0.bs b o e).1;refine AI hr.depth hfo rfl hco hgen rfl (let ⟨vs,t,e1,e2⟩:=hoc;⟨c',oc,vs,t,rfl,hco',e1,e2⟩) ?_;rw[hbind];refine fq (xp L.nocell (λy hy=>by cases f7.mp hy;exact L.loc) (λQT hns hsb=>{lim.fresh _ hsb,?_}) L.kind);have XB:∀b o,s.heap.get? b=KH o->QT.get? b=KH o:=λb o e=>hsb.extBut b o (gw (fu e)) (en _ e);have inH:∀b,InC cl b->∃o v,H1 b=KH (.frz o (.own 0))/\o.data=.cell v:=λb ⟨y,e⟩=>let ⟨o,v,e1,e2⟩:=hcs y b e;{o,v,sm _ _ e1,e2};have I':=Abx (qual:=qual) (f:=f) (cd:=.ref c') (tk:=s.toks+[(x,o6 i t)].9) (v0:=.int i) (u0:=.int i t) L hr e0 hinj hhas (λy c e=>let ⟨o,v,e1,e2⟩:=hcs y c e;{o,v,sm _ _ e1,e2})
  (λy j v h1 h2=>let ⟨c,o,u,a1,a2,a3,a4⟩:=hval y j v h1 h2;{c,o,u,a1,sm _ _ a2,a3,a4}) ⟨t,rfl⟩ hns XB
 refine AH (nw (hbody A outer s (Jq H1 cl) (hr.deeper _) [] _ _ _ _ I' (hte i _ hd λb u hb e=>by rw[Gj hb];exact sm _ _ e)) (λv s' ⟨v',H2,I2,r,ev,sm2⟩=>?_) λe s' z=>z.elim);have nfr:∀b,InC cl b->b∉frs outer:=λb hb z=>by
  obtain⟨o,v,e1,_⟩:=inH b hb;rw[e0.frf b z] at e1;cases e1
 have cell':∀b o u,InC cl b->H1 b=KH (.frz o u)->s'.heap.get? b=KH o/\u=.own 0:=λb o u hb e=>by
  obtain⟨o2,v2,e1,_⟩:=inH b hb;rw[e] at e1;cases e1;exact{I2.base.keep b o (e0.hok _ _ e).1 (Ly hb) (nfr b hb) (by simp[Yx]),rfl}
 have same':∀b u,H1 b=KH u->(∀ps,u≠.tbl ps)\/True->Jd H2 s'.5 cl b=KH u:=λb u e _=>by
  by_cases hb:InC cl b
  .obtain⟨o,v,e1,_⟩:=inH b hb
   rw[e] at e1;cases e1;exact Pq hb (cell' b o _ hb e).1
  .rw[C4 hb]
   exact sm2 _ _ (by rw[Gj hb];exact e)
 refine{v',Jd H2 s'.5 cl,I2.os,I2.bare,{λb o e n hf hx=>I2.base.keep b o e (Fd n) hf hx,λb o e n hf hx=>I2.base.slot b o e (Fd n) hf hx,λb o e n hx=>?_,λb o e hx=>I2.base.there b o e hx,λb xs e=>same' _ _ e (.inr trivial),λb o u e=>same' _ _ e (.inr trivial),λb ps e=>{#[],by rw[t9];exact same' _ _ e (.inr trivial)}},iA I2.hok λb ⟨y,e⟩=>I2.freeC y b e,r,ev,λb u e=>same' b u e (.inr trivial)};have hb:¬ InC cl b:=λhb=>by
  obtain⟨o,v,e1,_⟩:=inH b hb;rw[n] at e1;cases e1
 rw[C4 hb];exact I2.base.free b o e (Fd n) hx
end
inductive To (P:gl)(w:ip)(K:d6)(mg:Za2)(base:jm)(k:Nat)(vs:List V)(H:Hp)(Q:VK)(E:XK):Prop|mk(lo hi:Int)(f:eh)(p:Int->Bool)(_:vs=[.int lo,.int hi,.ref f])(_:lo<=hi)(_:iR P w K mg base k H f (λi=>lo<=i/\i<hi) p)(_:∀m H',lo<=m->m<=hi->(lo<m->p (m-1)=KL)->(m<hi->p m=KJ)->Ag H H'->Q (.int m) H')
def nE (Pt:eh)(lpos:Pos)(qual:Str)(ix:Za4)(te ta tb:TE):TE:=λG H Q=>ta G H λv H1=>tb G H1 λu H2=>∃(lo hi:Int) (p:Int->Bool),v=.int lo/\u=.int hi/\lo<=hi/\Pf H2 Pt lpos qual /\
 (∀(i:Int) (H3:Hp),lo<=i->i<hi->Om Pt H2 H3->te (KH (.int i)::frV G ix) H3 λv H4=>v=.bl (p i)/\Ag H3 H4) /\
 ∀(m:Int) (H':Hp),lo<=m->m<=hi->(lo<m->p (m-1)=KL)->(m<hi->p m=KJ)->Om Pt H2 H'->Pf H' Pt lpos qual->Q (.int m) H'
theorem Aca {ta tb:TE}{G:St}{Q:VK}(h:ta G H λv H1=>tb G H1 λu H2=>∃(lo hi:Int) (p:Int->Bool),v=.int lo/\u=.int hi/\lo<=hi/\Pf H2 Pt lpos qual /\
 (∀(i:Int) (H3:Hp),lo<=i->i<hi->Om Pt H2 H3->te (KH (.int i)::frV G ix) H3 λv H4=>v=.bl (p i)/\Ag H3 H4) /\
 ∀(m:Int) (H':Hp),lo<=m->m<=hi->(lo<m->p (m-1)=KL)->(m<hi->p m=KJ)->Om Pt H2 H'->Pf H' Pt lpos qual->Q (.int m) H'):nE Pt lpos qual ix te ta tb G H Q:=h
section
variable {X:Cx}
theorem uW {g x:Str}{a b body:ja}{ta tb:TE}{q:Pos}{ff c:eh}{kf k:Nat} 
  (F:Ar X.prog X.w X.K X.mg X.base CX0 kf ff fd ps (To X.prog X.w X.K X.mg X.base (k+1)))(hr:Co kf X.A)(hg:Gl X g)(hm:X.mg g=KH (.ref ff))(hkp:ki X.K (.ref ff)=KJ)(hb:Fp X.K fd ps [])
  (ha:PE X a ta)(hbb:PE X b tb)(hfn:X.fn=λ_=>KJ)
  (C:BI X.base c Pt)(hB:X.base.BuiltinsAt X.mg Pt)(hcode:X.env.code=.ref c)(hq:X.env.qual++"<lambda>"=qual)
  (L:A6 X.N X.env.scope scope x N ix)(hco:scope.isCoroutine=KL)(hgen:scope.isGenerator=KL)(hdef:defaultsOf params X.env=([],[]))
  (hbind:∀(cl:List (Str×eh)) (pm cv ctv:fj) (n:Int) (t:Tok),bindArgs (DJ "<lambda>" qual params body scope cl pm cv ctv) {[.int n t],[]}=pure [(x,.int n t)])
  (hbody:∀(cl:List (Str×eh)) (f c':eh) (A:i9) (outer:List Env) (s:ft) (H1:Hp),Co k (A.deeper (tD qual scope cl s.heap.objs.8 f (.ref c')))->PE (Yx X.prog X.w X.K X.mg X.base N qual scope cl f (.ref c') A outer s H1) body te)
  (hdb:autoParam ((g==("__debug__":Str))=KL) QF)(he1:autoParam (starEach [a,b,.Lambda params body scope lpos] X.env=(KL,eval a X.env)::starEach [b,.Lambda params body scope lpos] X.env) QD)(he2:autoParam (starEach [b,.Lambda params body scope lpos] X.env=(KL,eval b X.env)::starEach [.Lambda params body scope lpos] X.env) QD)
  (he3:autoParam (starEach [.Lambda params body scope lpos] X.env=[(KL,eval (.Lambda params body scope lpos) X.env)]) QD)(hpl:autoParam ((backTo pos (starEach [b,.Lambda params body scope lpos] X.env)).any (·.1)=KL) QD) :
  PE X (.Call (.Name g q) [a,b,.Lambda params body scope lpos] [] pos) (nE Pt lpos qual ix te ta tb):=by
 k_in;refine wpAny_Call_Name_kw (O3 I hg hm ?_ hdb);refine callWith_K (h₀:=X.base) I.ok.mod.kin hkp ?_ he1 hpl;rw[he1];show wpAny _ _ (spliced ((KL,eval a X.env)::backTo pos (starEach [b,.Lambda params body scope lpos] X.env))) _ _ s;refine lr (thE ha I h λu1 s1 v1 H1 I1 r1 q1=>?_);rw[he2];show wpAny _ _ (spliced ((KL,eval b X.env)::backTo pos (starEach [.Lambda params body scope lpos] X.env))) _ _ s1;refine lr (thE hbb I1 q1 λu2 s2 v2 H2 I2 r2 h_=>cpZ λX_ k_=>?_);obtain⟨lo,hi,p,e1,e2,hle,hT,hbd,q2⟩:=h_;refine k_ ?_;subst e1 e2;rw[he3];show wpAny _ _ (spliced [(KL,eval (.Lambda params body scope lpos) X.env)]) _ _ s2;have hfree:∀y∈scope.names,y.2=.free->∃c,X.env.cells.lookup y.1=KH c:=λy hy hf=>I.ok.has y.1 (.inl (L.free y hy hf));have sub:∀y c,(Fm X.env scope.names []).lookup y=KH c->X.env.cells.lookup y=KH c:=λy c h=>Mq _ _ y c hfree (λ_ _ z=>by simp at z) h;refine lr (jO I2 hT C hB hcode (Np hfree) hdef hq λf c' oc pm ctv s3 H3 I3 hT3 sm hf0 hf hc' hoc=>?_);refine nz ?_;generalize hcl:Fm X.env scope.names []=cl at hf sub;have inj:∀y z c,cl.lookup y=KH c->cl.lookup z=KH c->y=z:=λy z c h1 h2=>I.ok.inj y z c (sub y c h1) (sub z c h2);have n3:∀b,InC cl b->H3 b=KI:=λb ⟨y,e⟩=>I3.freeC y b (sub y b e);have cellAt:∀y c,cl.lookup y=KH c->∃o v,s3.heap.get? c=KH o/\o.data=.cell v:=λy c e=>let ⟨v,o,e1,e2⟩:=I3.cell y c (sub y c e);⟨o,v,e1,e2⟩;have nLoc:∀b,InC cl b->b≠X.env.locals:=λb ⟨y,e⟩=>I3.cne y b (sub y b e);have hab:∀b,InC cl b->X.QP.heap.objs.8<=b:=λb ⟨y,e⟩=>I3.ok.cab y b (by rw[hfn]) (sub y b e);have nfr:∀b,InC cl b->b∉frs X.stack:=λb hb z=>by
  rcases ir.mp (I3.stkSub b z) with e|hz
  .exact nLoc b hb e
  .obtain⟨_,o,ho,_⟩:=I3.ok.funs.mem hz
   exact absurd (fu ho) (pi.mpr (hab b hb))
 have e0:Xk X.prog X.w X.K X.mg X.base X.A X.stack s3 (Jd H3 s3.5 cl):=by
  have z:=I3.env0;refine{z.frames,z.mod,λb o e=>{(z.bs b o e).1,?_},z.bsz,z.funs,λb hb=>?_,iA z.hok n3,z.bare}
  .rw[C4 λhb=>?_]
   .exact(z.bs b o e).2
   .exact absurd (fu e) (pi.mpr (iy I3.ok.bsz (hab b hb)))
  .rw[C4 λh=>nfr b h hb]
   exact z.frf b hb
 have out:∀b u,H3 b=KH u->Jd H3 s3.5 cl b=KH u:=λb u e=>by
  rw[C4 λhb=>by rw[n3 b hb] at e;cases e];exact e
 have asks:iR X.prog X.w X.K X.mg X.base (k+1) (Jd H3 s3.5 cl) f (λi=>lo<=i/\i<hi) p:=by
  refine zC (G:=G) (te:=te) L hco hgen inj (λy hy=>?_) (λy c e=>?_) (λy j v hz hj=>?_) (out _ _ hf) (out _ _ hc') hoc (hbind _ _ _ _) (λA outer s H1 hr=>hbody _ _ _ A outer s H1 hr) λi H4 hi k4=>?_
  .rw[<-hcl];exact ln.mp (He _ _ y hy)
  .obtain⟨o,v,e1,e2⟩:=cellAt y c e
   exact{o,v,Pq ⟨y,e⟩ e1,e2}
  .obtain⟨b1,b2⟩:=L.at_ _ hz
   have hm:=j9 b2;have hcell:=L.free _ hm rfl;obtain⟨m',hn',hl'⟩:=I3.loc;obtain⟨u,r,lk⟩:=hl' j y v b1 hj (.inr (.inl hcell));rcases lk with lk|⟨_,c2,e,o,z1,z2⟩
   .rw[show X.env.kindOf y=KH .cell from hcell] at lk
    cases lk.1
   .obtain⟨c3,e'⟩:=ln.mp (He (env:=X.env) scope.names [] y hm)
    rw[hcl] at e';have e2:=sub y c3 e';rw[e] at e2;cases e2;exact{c2,o,u,e',Pq ⟨y,e'⟩ z1,z2,r}
  .refine hbd i H4 hi.1 hi.2 λb u hb e=>?_
   have e3:=sm b u hb e;exact k4 b u (λhc=>by rw[n3 b hc] at e3;cases e3) (out b u e3)
 refine{I3.kIn,?_};show wpAny _ _ (call (.ref ff) [u1,u2,.ref f]) _ _ s3;have rv:Ax [V.int lo,V.int hi,V.ref f] [u1,u2,.ref f]:=.cons r1 (.cons r2 (.cons rfl .nil));have hl:([u1,u2,jc f]++[]).9=ps.9:=by
  have:=F.len [.int lo,.int hi,.ref f] (Jd H3 s3.5 cl) (λ_ _=>True) E0 {lo,hi,f,p,rfl,hle,asks,λ_ _ _ _ _ _ _=>trivial};exact this
 refine ym (uh (F.run X.A X.stack s3 (Jd H3 s3.5 cl) {[u1,u2,.ref f],[]} ([u1,u2,.ref f]++[]) [.int lo,.int hi,.ref f] (λv H'=>∃m,v=.int m/\lo<=m/\m<=hi/\(lo<m->p (m-1)=KL)/\(m<hi->p m=KJ)/\Ag (Jd H3 s3.5 cl) H') E0 hr e0 (hb s3 _ I3.kIn hl) (by simpa using rv)
  {lo,hi,f,p,rfl,hle,asks,λm H' a1 a2 a3 a4 a5=>⟨m,rfl,a1,a2,a3,a4,a5⟩}) λr s' hq=>?_)
 cases r with
 |error e=>exact hq.elim
 |ok fl=>
  cases fl with
  |next=>exact kl hq
  |brk=>exact kl hq
  |cont=>exact kl hq
  |ret u=>
   obtain⟨v,H4,os,bare,un,hok,rr,m,ev,a1,a2,a3,a4,sm4⟩:=hq;subst ev;have c4:∀b,InC cl b->∃o,s3.heap.get? b=KH o/\H4 b=KH (.frz o (.own 0)):=λb ⟨y,e⟩=>by
    obtain⟨o,v,e1,_⟩:=cellAt y b e;exact{o,e1,sm4 _ _ (Pq ⟨y,e⟩ e1)}
   have sm5:∀b u,H3 b=KH u->Jq H4 cl b=KH u:=λb u e=>by
    rw[Gj λhb=>by rw[n3 b hb] at e;cases e];exact sm4 _ _ (out _ _ e)
   have un2:Un (frs X.stack) [] H3 (Jq H4 cl) s3.5 s'.5:=by
    refine{λb o e n hf hx=>?_,λb o e n hf hx=>?_,λb o e n hx=>?_,λb o e hx=>un.there b o e hx,λb xs e=>sm5 _ _ e,λb o u e=>sm5 _ _ e,λb ps e=>{#[],by rw[t9];exact sm5 _ _ e}}
    .by_cases hb:InC cl b
     .obtain⟨o2,z1,z2⟩:=c4 b hb
      rw[e] at z1;cases z1;exact(hok _ _ z2).1
     .exact un.keep b o e (by rw[C4 hb];exact n) hf hx
    .have hb:¬ InC cl b:=λhb=>nfr b hb hf
     exact un.slot b o e (by rw[C4 hb];exact n) hf hx
    .by_cases hb:InC cl b
     .exact Ly hb
     .exact Fd (un.free b o e (by rw[C4 hb];exact n) hx)
   have hok2:HOk X.prog X.w (Jq H4 cl) s'.5:=hX hok λb hb=>let ⟨o,_,z⟩:=c4 b hb;{o,_,z};refine I3.after {_,Jq H4 cl,os,bare,un2,hok2,rr,q2 m _ a1 a2 a3 a4 (λb u hb e=>sm5 _ _ (sm b u hb e)) ?_};obtain⟨pps,t1,t2,t3⟩:=hT3;exact{pps,sm5 _ _ t1,t2,t3.imp id λ⟨c2,oc2,z1,z2,z3⟩=>{c2,oc2,z1,sm5 _ _ z2,z3}}
theorem xG {g x:Str}{a b body:ja}{ta tb:TE}{q:Pos}{c:eh}{kf k:Nat} 
  (F:Cal X.prog X.w X.K X.mg X.base g kf ps (To X.prog X.w X.K X.mg X.base (k+1)))(hr:Co kf X.A)(ha:PE X a ta)(hbb:PE X b tb)(C:BI X.base c Pt)(hB:X.base.BuiltinsAt X.mg Pt)(hcode:X.env.code=.ref c)(hq:X.env.qual++"<lambda>"=qual)
  (L:A6 X.N X.env.scope scope x N ix)(hbody:∀(cl:List (Str×eh)) (f c':eh) (A:i9) (outer:List Env) (s:ft) (H1:Hp),Co k (A.deeper (tD qual scope cl s.heap.objs.8 f (.ref c')))->PE (Yx X.prog X.w X.K X.mg X.base N qual scope cl f (.ref c') A outer s H1) body te)
  (hfn:autoParam (X.fn=λ_=>KJ) QD)(hg:autoParam (Gl X g) QD)(hco:autoParam (scope.isCoroutine=KL) QD)(hgen:autoParam (scope.isGenerator=KL) QD)(hdef:autoParam (defaultsOf params X.env=([],[])) QD)
  (hbind:∀(cl:List (Str×eh)) (pm cv ctv:fj) (n:Int) (t:Tok),bindArgs (DJ "<lambda>" qual params body scope cl pm cv ctv) {[.int n t],[]}=pure [(x,.int n t)]:=by intros;rfl)
  (hdb:autoParam ((g==("__debug__":Str))=KL) QF)(he1:autoParam (starEach [a,b,.Lambda params body scope lpos] X.env=(KL,eval a X.env)::starEach [b,.Lambda params body scope lpos] X.env) QD)(he2:autoParam (starEach [b,.Lambda params body scope lpos] X.env=(KL,eval b X.env)::starEach [.Lambda params body scope lpos] X.env) QD)
  (he3:autoParam (starEach [.Lambda params body scope lpos] X.env=[(KL,eval (.Lambda params body scope lpos) X.env)]) QD)(hpl:autoParam ((backTo pos (starEach [b,.Lambda params body scope lpos] X.env)).any (·.1)=KL) QD) :
  PE X (.Call (.Name g q) [a,b,.Lambda params body scope lpos] [] pos) (nE Pt lpos qual ix te ta tb):=by
 obtain⟨f,fd,F,bb,hm,hk⟩:=F.ex;exact uW F hr hg hm hk bb ha hbb hfn C hB hcode hq L hco hgen hdef hbind hbody hdb he1 he2 he3 hpl
end
theorem fG:typeLookup (.type "list") "keys"=pure KI:=by rw[qu,n4];kernel_rfl
theorem gI:typeLookup (.type "list") "__getattr__"=pure KI:=by rw[qu,n4];kernel_rfl
theorem gT (a:eh)(vs:Array fj)(n:Nat)(u:Tok):Meets (qk.«object.__getattribute__» {[.ref a,.str "keys" u],[]}) (λA R s=>s.heap.get? a=KH (seqObj "list" vs n)/\raisesAttr (.ref a) "keys" A R s):=
 GE λprog w A R s hs=>by
  obtain⟨hp,g,d,tk,os⟩:=s;obtain⟨hx,hs⟩:=hs;have hT:(⟨hp,g,d,tk,os⟩:ft).TypeIs (.ref a) "list":={_,hx,rfl};have f4:=fG
  repeat (any_goals (first|assumption|with_reducible refine FW hx ?_|wp_step))
  exact EJ hs.1 hs.2 (by decide +kernel)
section
variable {prog:gl} {w:ip} {A:i9} {E:Za0} {s:ft}
theorem xO {a:eh}{vs:Array fj}{Q:Za7->ft->Prop}(hx:s.heap.get? a=KH (seqObj "list" vs n))(hA:A.handled=KI)(q:∀h' tk,(∀b o,s.heap.get? b=KH o->h'.get? b=KH o)->Q KI { s with heap:=h',toks:=tk }) :
  wpAny (model prog w) A (getAttr? (.ref a) "keys") Q E s:=by
 obtain⟨hp,g,d,tk,os⟩:=s;have hT:∀tk',(⟨hp,g,d,tk',os⟩:ft).TypeIs (.ref a) "list":=λ_=>{_,hx,rfl};have f1:=FK;have f3:=rc.lookup;have f4:=rc.bind (.ref a);have f5:=gI;unfold getAttr? getAttrBy? getAttrBy
 repeat (any_goals (first|assumption|exact hT _|((with_reducible show wpAny _ _ (call (EZ "list.__getattribute__") _ _) _ _ _);refine sw rc (hT _) PySem.F.entry_list_ga (PySem.F.args_list_getattribute_2 _ _) (gT a vs n _) ⟨hx,hA,λh' tk' e hx'=>?_⟩)|wp_step))
 obtain⟨t',u',he⟩:=hx'.there;show wpAny _ _ (getattributeRaised _ _ _ _ _ _ _) _ _ _;unfold getattributeRaised
 repeat (any_goals (first|assumption|wp_step))
 exact q _ _ hx'.keeps
end
def iK (h:jm)(T:eh)(x y:fj):Prop:=∃o n,h.get? T=KH o/\o.cls=.type "tuple"/\o.data=.seq #[x,y] n
theorem iK.keep {T:eh}{x y:fj}(p:iK h T x y)(k:∀o,h.get? T=KH o->h'.get? T=KH o):iK h' T x y:=let ⟨o,n,e,r⟩:=p;{o,n,k o e,r}
section
variable {prog:gl} {w:ip} {A:i9} {E:Za0} {R:xu->ft->Prop}
theorem jE {T:eh}{x y:fj}{Q:Za3->ft->Prop}(hT:iK s.5 T x y)(h:Q [x,y] s):wpAny (model prog w) A (qe (.ref T)) Q E s:=by
 obtain⟨o,n,e,c,d⟩:=hT;have ty:s.TypeIs (.ref T) "tuple":={_,e,c};unfold qe;refine wpAny_bind (qi ty ?_);rw[if_pos (by decide)];exact wpAny_bind (uq e d (fq h))
end
theorem Zb:∀{as:List eh} {us:Za3},Ax (as.map V.ref) us->us=as.map jc
 |[],_,h=>by cases h;rfl
 |a::as,_,h=>by
  cases h with
  |cons h1 h2=>rw[show _=jc a from h1,Zb h2];rfl
theorem pA:∀{ys:List V} (f:Nat->fj),(∀(i:Nat) y,ys[i]?=KH y->A8 y (f i))->Ax ys ((fb ys.9).map f)
 |[],_,_=>.nil
 |y::ys,f,h=>by
  rw[gm,mz,iu,jg];exact .cons (h 0 y rfl) (pA (λi=>f (i+1)) λi z e=>h (i+1) z e)
theorem Xo:bootBuiltins "reversed"=KH (.type "reversed"):=by decide +kernel
end _L
end
section
namespace _W
open PySem PySem.StrLaws PySem.Builtin.Str
theorem gJ {ds:Za4}(h:Dok ds):∀(k p v:Nat),k<=ds.9->(way ds k)[p+1]?=KH (v:Int)->∀j,v<j->j<k->p<dAt ds j
 |0,p,v,_,e,j,_,hj=>by cases hj
 |k+1,p,v,hk,e,j,h1,h2=>by
  have e:((way ds k).take (dAt ds k+1)++[(k:Int)])[p+1]?=KH (v:Int):=e;have hl:=Cd h k ();have hd:=h k ();have hl2:((way ds k).take (dAt ds k+1)).9=dAt ds k+1:=by rw[fh];lia
  by_cases hp:p+1<dAt ds k+1
  .rw[fw (),gj hp] at e
   by_cases hjk:j=k
   .subst hjk;lia
   .exact gJ h k p v () e j h1 ()
  .rw[fk (),hl2] at e
   have e0:p+1-(dAt ds k+1)=0:=by
    have:=(fc.mp e).1;simp only[gm,jt] at this;lia
   rw[e0] at e;have e:=ee e;lia
theorem xY {ds:Za4}(h:Dok ds){k:Nat}(hk:k<ds.9):eld ds k<k:=by
 by_cases e:eld ds k=-1
 .lia
 .obtain⟨v,e1,e2,_⟩:=Lp h hk e
  lia
theorem rX {ds:Za4}(h:Dok ds){k:Nat}:∀i,k<i->i<=ds.9->(∀j,k<j->j<i->dAt ds k<dAt ds j)->(way ds i)[dAt ds k+1]?=KH (k:Int)
 |0,hk,_,_=>by cases hk
 |i+1,hk,hi,hg=>by
  show((way ds i).take (dAt ds i+1)++[(i:Int)])[dAt ds k+1]?=KH (k:Int);have hl:=Cd h i ();have hd:=h i ();have hl2:((way ds i).take (dAt ds i+1)).9=dAt ds i+1:=by rw[fh];lia
  by_cases e:i=k
  .subst e
   rw[fk (),hl2,jy];rfl
  .have:=hg i () ()
   rw[fw (),gj ()];exact rX h i () () λj h1 h2=>hg j h1 ()
end _W
end
section
namespace _L
open PySem PySem.Spec PyProof.Rows
theorem Ab4 {K:d6}{tc:TT}{Q:VK}(n:Nat)(f1 f2:Nat->V)(Pv:eh->Nat->List V->Hp->Prop)(h0:∀D H,H1 D=KI->Ag H1 H->Pv D 0 [] H)
  (stab:∀D i ys H xs o,H D=KH (.lst xs)->Pv D i ys H->Pv D i ys (upd H D o))(hz:∀D i ys H,i<n->Pv D i ys H->ys.9<sizeLine)(psame:∀D i ys H H',Ag H H'->Pv D i ys H->Pv D i ys H')
  (hgo:∀i H,i<n->Ag H1 H->J.go i H)(hy:∀i H v H',i<n->Ag H1 H->J.yld i H v H'->∃a,v=.ref a/\SqT K H' a [f1 i,f2 i]/\Ag H H')(hst:∀H,Ag H1 H->J.stop n H)
  (turn:∀D i ys H (A:VK) (R:Hp->Prop),i<n->Ag H1 H->H1 D=KI->H D=KH (.lst ys)->Pv D i ys H->(∀y H',Ag H H'->Pv D (i+1) (ys++[y]) H'->A y H') ->
   tc (KH (f1 i)::KH (f2 i)::fr) H λb H3=>if b=KJ then te (KH (f1 i)::KH (f2 i)::fr) H3 A else R H3)
  (fin:∀D ys H,H1 D=KI->Ag H1 H->Pv D n ys H->H D=KH (.lst ys)->Q (.ref D) H):Hj K J H1 fr tc te Q:=by
 intro D hD;refine{λi m H=>i<=n/\m=n-i/\Ag H1 H/\∃ys,H D=KH (.lst ys)/\Pv D i ys H,{n,gn _,rfl,An hD,[],Af,h0 D _ hD (An hD)},?_};rintro i m H ⟨hi,rfl,sm,ys,hl,hp⟩
 by_cases h:i=n
 .subst h
  exact .inl {hst H sm,fin D ys H hD sm hp hl}
 .have hlt:i<n:=kr hi h
  refine .inr {hgo i H hlt sm,λv H' hyl=>?_};obtain⟨a,rfl,ht,s2⟩:=hy i H v H' hlt sm hyl;refine{a,_,_,rfl,ht,turn D i ys H' _ _ hlt (sm.trans s2) hD (s2 _ _ hl) (psame _ _ _ _ _ s2 hp) (λy H4 s4 hp4=>?_)};refine{ys,s4 _ _ (s2 _ _ hl),hz D i ys _ hlt hp,n-(i+1),(),(),rfl,λb u e=>?_,ys++[y],Af,stab _ _ _ _ _ _ (s4 _ _ (s2 _ _ hl)) hp4};rw[Al (Aj e hD)];exact s4 _ _ (s2 _ _ (sm _ _ e))
theorem eY {K:d6}{a b:eh}{tc:TT}{Q:VK}(ha:SqL K H1 a xs)(hb:SqL K H1 b ys)(Pv:eh->Nat->List V->Hp->Prop)(h0:∀D H,H1 D=KI->Ag H1 H->Pv D 0 [] H)
  (stab:∀D i zs H us o,H D=KH (.lst us)->Pv D i zs H->Pv D i zs (upd H D o))(hz:∀D i zs H,i<min xs.9 ys.9->Pv D i zs H->zs.9<sizeLine)(psame:∀D i zs H H',Ag H H'->Pv D i zs H->Pv D i zs H')
  (turn:∀D (i:Nat) zs x y H (A:VK) (R:Hp->Prop),xs[i]?=KH x->ys[i]?=KH y->Ag H1 H->H1 D=KI->H D=KH (.lst zs)->Pv D i zs H->(∀y H',Ag H H'->Pv D (i+1) (zs++[y]) H'->A y H') ->
   tc (KH x::KH y::fr) H λb H3=>if b=KJ then te (KH x::KH y::fr) H3 A else R H3)
  (fin:∀D zs H,H1 D=KI->Ag H1 H->Pv D (min xs.9 ys.9) zs H->H D=KH (.lst zs)->Q (.ref D) H):Hj K (Itz K a b) H1 fr tc te Q:=by
 refine Ab4 (min xs.9 ys.9) (λi=>xs.getD i .non) (λi=>ys.getD i .non) Pv h0 stab hz psame (λi H hi sm=>{xs,ys,xs[i]'(),ys[i]'(),sm.seq ha,sm.seq hb,by simp,by simp}) (λi H v H' hi sm h=>?_)
  (λH sm=>{xs,ys,sm.seq ha,sm.seq hb,rfl}) (λD i zs H A R hi sm=>turn D i zs _ _ H A R (by simp[show i<xs.9 by lia]) (by simp[show i<ys.9 by lia]) sm) fin
 obtain⟨t,x,y,hn,rfl,h1,h2,rfl⟩:=h;have e1:=h1 xs (sm.seq ha);have e2:=h2 ys (sm.seq hb);refine{t,rfl,?_,An hn};simp only[ju,e1,e2,rj];exact SqT.of Af
section
variable {X:Cx}
def vY (ta:TA):TE:=λG H Q=>ta G H λvs H1=>∃j k:Nat,vs=[.int 0,.int j,.int k]/\j<=100000/\0<k/\k<=100000/\∀p,H1 p=KI->Q (.ref p) (upd H1 p (.lst ((fb ((j+k-1)/k)).map λt:Nat=>V.int (t*k:Nat))))
theorem oS {a b c:ja}{ta:TA}{p q:Pos}(hcal:X.calm=KJ)(hg:Gl X "list")(hm:X.mg "list"=KI)(hg2:Gl X "range")(hm2:X.mg "range"=KI)(ha:PA X [a,b,c] ta)
  (hs:autoParam (starEach [a,b,c] X.env=[(KL,eval a X.env),(KL,eval b X.env),(KL,eval c X.env)]) QD)(hs2:autoParam (starEach [b,c] X.env=[(KL,eval b X.env),(KL,eval c X.env)]) QD)
  (hs3:autoParam (starEach [wu (.Name "range" q) [a,b,c] [] pos2] X.env=[(KL,eval (.Call (.Name "range" q) [a,b,c] [] pos2) X.env)]) QD) :
  PE X (.Call (.Name "list" p) [.Call (.Name "range" q) [a,b,c] [] pos2] [] pos) (vY ta):=by
 k_in;refine wpAny_Call_Name_kw (Do I hg hm Pw (ij ?_ hs3 rfl) (by decide) (by decide));rw[hs3];refine lr ?_;show wpAny _ _ (eval (wu (.Name "range" q) [a,b,c] [] pos2) X.env) _ _ _;refine wpAny_Call_Name_kw (Do I hg2 hm2 boot_range (ij (thA ha I h λus s1 vs H1 I1 r1 q1=>?_) (by rw[hs,hs2]) (by rw[hs2];rfl)) (by decide) (by decide));obtain⟨j,k,e,hj,hk,hk2,q⟩:=q1;subst e
 cases r1 with
 |cons r rr=>
  cases rr with
  |cons r' rr=>
   cases rr with
   |cons r'' rr=>
    cases rr;obtain⟨t,rfl⟩:=r;obtain⟨t',rfl⟩:=r';obtain⟨t'',rfl⟩:=r'';refine KA () (nz ?_) (.inl (uw ()));have e2:lh (0:Int) (j:Int) (k:Int)=(((j+k-1)/k:Nat):Int):=by
     unfold lh;rw[if_pos ()]
     by_cases hj0:j=0
     .subst hj0
      rw[if_neg (),yt ()];rfl
     .rw[if_pos (),show((j:Int)-0-1)=((j-1:Nat):Int) by lia,<-vb,show j+k-1=j-1+k by lia,EB _ hk]
      rfl
    have hn:(j+k-1)/k<=j:=by
     by_cases hj0:j=0
     .subst hj0
      rw[yt ()];exact d8 _
     .rw[show j+k-1=j-1+k by lia,EB _ hk]
      have:=Nat.div_le_self (j-1) k;lia
    generalize (j+k-1)/k=m at *;have hsm:rb (0:Int) (j:Int) (k:Int)=KJ:=by
     unfold rb;rw[e2,if_pos ()];simp only[w8,nc,ET,decide_eq_true_eq,beq_iff_eq];refine{{{{?_,?_},?_},?_},.inr ?_}<;>lia
    refine call_list_range (I1.ok.hd hcal) (AJ ..) hsm e2 () λh' tk acc c kp ho it=>?_;have hv:Ax ((fb (m)).map λt:Nat=>V.int (t*k:Nat)) acc.7:=Ul (by rw[d7,fg,gh,it.1]) λi x u e1 e3=>by
     have hi:i<m:=by have:=(fc.mp e1).1;simpa using this
     rw[d9,gd hi] at e1;cases e1;have e4:acc[i]?=KH u:=by rw[<-gq];exact e3
     obtain⟨t,e5⟩:=it.2 i u e4;exact{t,by rw[e5,show(0:Int)+(i:Int)*(k:Int)=((i*k:Nat):Int) by rw[Int.zero_add,FF]]}
    have up:∀b o,s1.heap.get? b=KH o->h'.get? b=KH o:=λb o e=>kp _ _ (en _ e);have hle:s1.heap.objs.8<=(s1.heap.push { cls:=.type "range",data:=.fields #[.int 0 t,.int j t',.int k t''] }).objs.size:=by rw[q8];lia
    refine{.ref _,_,I1.laid (t':=tk) (o:=.lst _) up hle {?_,acc.7,c,hv,ho},rfl,q _ (I1.hok.fresh hle)};rw[d7,fg];exact f9 (qp (show m<=100000 by lia) (by decide))
theorem Ab0 {G:St}{Q:VK}{ta:TA}(h:ta G H λvs H1=>∃j k:Nat,vs=[.int 0,.int j,.int k]/\j<=100000/\0<k/\k<=100000/\∀p,H1 p=KI->Q (.ref p) (upd H1 p (.lst ((fb ((j+k-1)/k)).map λt:Nat=>V.int (t*k:Nat))))):vY ta G H Q:=h
end
section
variable {X:Cx}
theorem Up (K:d6)(hc:X.calm=KJ)(h:autoParam (X.K=K) QD):Em X (.builtin "min") (Acx K):=by
 subst h;exact Py hc
theorem oF (K:d6)(hc:X.calm=KJ)(h:autoParam (X.K=K) QD):Em X (.builtin "max") (Adx K):=by
 subst h;exact sH hc
theorem Afz (K:d6){T name id:String}{r:V->List V->Hp->VK->Prop}{o e:ja}{es:List ja}{to:TE}{t:TA}{apos cpos:Pos}(pa:FP T)(slot:Slot T name id)(hty:typeOf (.builtin id)=pure (.type "method_descriptor"))(hm:MtR X id r)(ho:PE X o to)(ha:PA X (e::es) t)(h:autoParam (X.K=K) QD)
  (hbase:autoParam (attributeBase o name X.env (eval o X.env)=eval o X.env) QD)
  (hfew:autoParam (((backTo cpos (starEach (e::es) X.env)).all (λx=>!x.1)&&(backToKw cpos (keywordEach [] X.env)).all (λx=>x.1.isSome)
   && decide ((e::es).9+([]:List GG).9+(if([]:List GG).isEmpty then 0 else 1)<30))=KJ) QD)
  (hline:autoParam ((apos.endLine==cpos.line)=KJ) QD)(hs:autoParam (starEach (e::es) X.env=(KL,eval e X.env)::starEach es X.env) QD)(hplain:autoParam ((backTo cpos (starEach es X.env)).any (·.1)=KL) QD) :
  PE X (.Call (.Attribute o name apos) (e::es) [] cpos) (tBM K T r to t):=by
 subst h;exact Cj pa slot hty hm ho ha hbase hfew hline hs hplain
end
theorem Uu {K:d6}{a:eh}{tc:TT}{Q:VK}(hl:SqL K H1 a xs)(Pv:Nat->List V->Hp->Prop)(h0:∀H,Ag H1 H->Pv 0 [] H)
  (stab:∀i ys H D zs o,H D=KH (.lst zs)->Pv i ys H->Pv i ys (upd H D o))(hz:∀i ys H,i<xs.9->Pv i ys H->ys.9<sizeLine)
  (turn:∀(i:Nat) ys x H (A:VK) (R:Hp->Prop),xs[i]?=KH x->Ag H1 H->Pv i ys H->(∀y H',Ag H H'->Pv (i+1) (ys++[y]) H'->A y H')->tc (KH x::fr) H λb H3=>if b=KJ then te (KH x::fr) H3 A else R H3)
  (fin:∀D ys H,H1 D=KI->Ag H1 H->Pv xs.9 ys H->H D=KH (.lst ys)->Q (.ref D) H):Lb (Itl K a) H1 fr tc te Q:=by
 refine vD xs.9 (λi=>xs.getD i .non) Pv h0 stab hz (λi H hi sm=>{xs,xs[i],sm.seq hl,by simp[hi]}) (λi H x H' hi sm h=>{?_,h.1}) (λH sm=>{xs,sm.seq hl,d8 _}) (λi ys H A R hi sm=>turn i ys _ H A R (by simp[hi]) sm) fin;have:=h.2 xs (sm.seq hl);simp[ju,this]
open PySem.W
structure Abq (P:gl) (w:ip) (K:d6) (mg:Za2) (base:jm) (x m:Str) (k:Nat) (ps:Za6) (sp:Sp):Prop where
 ex:∃(W f:eh) (fd:jx),Ar P w K mg base CX0 k f fd ps sp/\Fp K fd ps []/\mg x=KH (.ref W)/\specialIn K (.ref W) "__getattribute__"=KH (KH (.builtin "type.__getattribute__")) /\
  readsIn K W (.type "type")=KJ/\findCls K (.ref W) (.type "type") m=KH (.val (.ref f))/\keepIn K (.ref f)=KJ
section
variable {X:Cx} {x m:Str} {k:Nat} {ps:Za6} {sp:Sp} {np apos pos:Pos} {e:ja} {es:List ja} {t:TA} {pl:Sem Bool}
theorem Ada (M:Abq X.prog X.w X.K X.mg X.base x m k ps sp)(hr:Co k X.A)(hg:Gl X x)(ha:PA X (e::es) t)(hdb:autoParam ((x==("__debug__":Str))=KL) QF)
  (hst:autoParam (starEach (e::es) X.env=(KL,eval e X.env)::starEach es X.env) QD)(hpl:autoParam ((backTo pos (starEach es X.env)).any (·.1)=KL) QD)
  (ht:autoParam (eval (.Call (.Attribute (.Name x np) m apos) (e::es) [] pos) X.env=(do
   let ov <-eval (.Name x np) X.env
   standAt apos.atName
   let (f,first) <-holding [ov] (getMethod ov m pl)
   callWith pos f first (backTo pos (starEach (e::es) X.env)) (backToKw pos (keywordEach [] X.env)))) QD) :
  PE X (.Call (.Attribute (.Name x np) m apos) (e::es) [] pos) (qT sp [] E0 t):=by
 obtain⟨W,f,fd,F,hb,hm,ga,rd,ini,kp⟩:=M.ex;k_in;refine methodCall_KW (O3 I hg hm ?_ hdb) ht;refine method_cls I.kIn ga (cls_value I.kIn rd ini rfl ?_);refine callWith_K (h₀:=X.base) I.ok.mod.kin kp (thn (ha pos pins _ G H _ (I.tok (s.toks+1)) h) λus s1 ⟨vs,H1,I1,r,q⟩=>{I1.kIn,?_}) hst hpl;exact eQ F hr hb .nil iG I1 r q
end
theorem jY {K:d6}{tc:TT}{Q:VK}(n:Nat)(f1 f2:Nat->V)(Pv:eh->Nat->List V->Hp->Prop)(h0:∀D H,H1 D=KI->Ag H1 H->Pv D 0 [] H)
  (stab:∀D i ys H xs o,H D=KH (.lst xs)->Pv D i ys H->Pv D i ys (upd H D o))(hz:∀D i ys H,i<n->Pv D i ys H->ys.9<sizeLine)(psame:∀D i ys H H',Ag H H'->Pv D i ys H->Pv D i ys H')
  (hgo:∀i H,i<n->Ag H1 H->J.go i H)(hy:∀i H v H',i<n->Ag H1 H->J.yld i H v H'->∃a,v=.ref a/\SqT K H' a [f1 i,f2 i]/\Ag H H')(hst:∀H,Ag H1 H->J.stop n H)
  (turn:∀D i ys H (A:VK) (R:Hp->Prop),i<n->Ag H1 H->H1 D=KI->H D=KH (.lst ys)->Pv D i ys H->(∀H',Ag H H'->Pv D (i+1) ys H'->R H')->(∀y H',Ag H H'->Pv D (i+1) (ys++[y]) H'->A y H') ->
   tc (KH (f1 i)::KH (f2 i)::fr) H λb H3=>if b=KJ then te (KH (f1 i)::KH (f2 i)::fr) H3 A else R H3)
  (fin:∀D ys H,H1 D=KI->Ag H1 H->Pv D n ys H->H D=KH (.lst ys)->Q (.ref D) H):Hj K J H1 fr tc te Q:=by
 intro D hD;refine{λi m H=>i<=n/\m=n-i/\Ag H1 H/\∃ys,H D=KH (.lst ys)/\Pv D i ys H,{n,gn _,rfl,An hD,[],Af,h0 D _ hD (An hD)},?_};rintro i m H ⟨hi,rfl,sm,ys,hl,hp⟩
 by_cases h:i=n
 .subst h
  exact .inl {hst H sm,fin D ys H hD sm hp hl}
 .have hlt:i<n:=kr hi h
  refine .inr {hgo i H hlt sm,λv H' hyl=>?_};obtain⟨a,rfl,ht,s2⟩:=hy i H v H' hlt sm hyl;refine{a,_,_,rfl,ht,turn D i ys H' _ _ hlt (sm.trans s2) hD (s2 _ _ hl) (psame _ _ _ _ _ s2 hp) (λH3 s3 hp3=>?_) (λy H4 s4 hp4=>?_)}
  .exact{n-(i+1),(),(),rfl,(sm.trans s2).trans s3,ys,s3 _ _ (s2 _ _ hl),hp3}
  refine{ys,s4 _ _ (s2 _ _ hl),hz D i ys _ hlt hp,n-(i+1),(),(),rfl,λb u e=>?_,ys++[y],Af,stab _ _ _ _ _ _ (s4 _ _ (s2 _ _ hl)) hp4};rw[Al (Aj e hD)];exact s4 _ _ (s2 _ _ (sm _ _ e))
theorem vX {K:d6}{a:eh}{tc:TT}{Q:VK}(ha:SqL K H1 a xs)(Pv:eh->Nat->List V->Hp->Prop)(h0:∀D H,H1 D=KI->Ag H1 H->Pv D 0 [] H)
  (stab:∀D i zs H us o,H D=KH (.lst us)->Pv D i zs H->Pv D i zs (upd H D o))(hz:∀D i zs H,i<xs.9->Pv D i zs H->zs.9<sizeLine)(psame:∀D i zs H H',Ag H H'->Pv D i zs H->Pv D i zs H')
  (turn:∀D (i:Nat) zs x H (A:VK) (R:Hp->Prop),xs[i]?=KH x->Ag H1 H->H1 D=KI->H D=KH (.lst zs)->Pv D i zs H->(∀H',Ag H H'->Pv D (i+1) zs H'->R H')->(∀y H',Ag H H'->Pv D (i+1) (zs++[y]) H'->A y H') ->
   tc (KH (.int i)::KH x::fr) H λb H3=>if b=KJ then te (KH (.int i)::KH x::fr) H3 A else R H3)
  (fin:∀D zs H,H1 D=KI->Ag H1 H->Pv D xs.9 zs H->H D=KH (.lst zs)->Q (.ref D) H):Hj K (Ite K a) H1 fr tc te Q:=by
 refine jY xs.9 (λi=>.int i) (λi=>xs.getD i .non) Pv h0 stab hz psame (λi H hi sm=>{xs,xs[i]'(),sm.seq ha,by simp}) (λi H v H' hi sm h=>?_)
  (λH sm=>{xs,sm.seq ha,rfl}) (λD i zs H A R hi sm=>turn D i zs _ H A R (by simp[hi]) sm) fin
 obtain⟨t,x,hn,rfl,h1,rfl⟩:=h;have e1:=h1 xs (sm.seq ha);refine{t,rfl,?_,An hn};simp only[ju,e1,rj];exact SqT.of Af
theorem oJ:typeLookup (.type "zip") "__len__"=pure KI:=by rw[qu,n4];kernel_rfl
theorem jM:typeLookup (.type "zip") "__length_hint__"=pure KI:=by rw[qu,n4];kernel_rfl
def Px (h:jm)(lo:Nat)(xs ys acc:Array fj):Prop:=(∀(j:Nat) v,acc[j]?=KH v->∃T x y,v=jc T/\lo<=T/\xs[j]?=KH x/\ys[j]?=KH y/\o0 h T x y)/\∀(j k:Nat) v,acc[j]?=KH v->acc[k]?=KH v->j=k
theorem Px.keep {lo:Nat}{xs ys acc:Array fj}(p:Px h lo xs ys acc)(k:∀b o,lo<=b->h.get? b=KH o->h'.get? b=KH o):Px h' lo xs ys acc:=⟨λj v e=>by
 obtain⟨T,x,y,e1,e2,e3,e4,e5⟩:=p.1 j v e;exact{T,x,y,e1,e2,e3,e4,k _ _ e2 e5},p.2⟩
theorem Px.push {lo T:Nat}{x y:fj}{xs ys acc:Array fj}(p:Px h lo xs ys acc)(hn:∀j:Nat,acc[j]?≠KH (.ref T))(hT:lo<=T)(hx:xs[acc.8]?=KH x)(hy:ys[acc.8]?=KH y)(hp:o0 h T x y):Px h lo xs ys (acc.push (.ref T)):=by
 refine{λj v e=>?_,λj k v e1 e2=>?_}
 .rw[CF] at e
  by_cases hj:j=acc.8
  .rw[if_pos hj] at e
   cases e;rw[hj];exact⟨T,x,y,rfl,hT,hx,hy,hp⟩
  .rw[if_neg hj] at e
   exact p.1 j v e
 .rw[CF] at e1 e2
  by_cases hj:j=acc.8
  .by_cases hk:k=acc.8
   .rw[hj,hk]
   .rw[if_pos hj] at e1
    rw[if_neg hk] at e2;cases e1;exact absurd e2 (hn k)
  .by_cases hk:k=acc.8
   .rw[if_neg hj] at e1
    rw[if_pos hk] at e2;cases e2;exact absurd e1 (hn j)
   .rw[if_neg hj] at e1
    rw[if_neg hk] at e2;exact p.2 j k v e1 e2
theorem Px.below {lo:Nat}{xs ys acc:Array fj}(p:Px h lo xs ys acc)(j:Nat):acc[j]?≠KH (.ref h.objs.8):=λe=>by
 obtain⟨T,x,y,e1,_,_,_,e5⟩:=p.1 j _ e;cases e1;exact l8 _ (fu e5)
section
variable {prog:gl} {w:ip} {A:i9} {E:Za0} {R:xu->ft->Prop}
abbrev vR (acc:Array fj)(c:Nat):Obj:={ cls:=.type "list",dict:=KI,data:=.seq acc c,slots:=#[] }
theorem Aen {S z TI TO T lo:eh}{xs ys:Array fj}(D:DzA S z TI TO i1 i2 l1 l2)(hTz:T≠z)(hT1:T≠i1)(hT2:T≠i2)(hTS:T≠S)(hlo:z<lo/\i1<lo/\i2<lo/\S<lo)(hh:A.handled=KI)(he:xs.8=ys.8)(hsz:xs.8<=sizeLine) :
  ∀(m i:Nat) (s:ft) (c:Bool) (acc:Array fj) (n:Nat) (oT:Obj),xs.8-i=m->i<=xs.8->Nj s.5 z TI TO T c->s.heap.get? T=KH oT->o0 s.5 TI (.ref i1) (.ref i2) ->
   s.heap.IsListIter i1 l1 i->s.heap.IsListIter i2 l2 i->s.heap.IsList l1 xs->s.heap.IsList l2 ys->s.heap.get? S=KH (vR acc n)->acc.8=i->Px s.5 lo xs ys acc->lo<=s.heap.objs.8 ->
   (∀h' acc' n',h'.get? S=KH (vR acc' n')->acc'.8=xs.8->Px h' lo xs ys acc'->(∀b o,b≠z->b≠i1->b≠i2->b≠S->s.heap.get? b=KH o->h'.get? b=KH o)->R (.ok (.ret .none)) { s with heap:=h' }) ->
   codeAny (model prog w) A (.builtin "list.extend.loop" {[.ref S,.ref z,.none],[]}) R s:=by
 have far:∀b,lo<=b->b≠z/\b≠i1/\b≠i2/\b≠S:=λb hb=>{jz (fv hlo.1 hb),jz (fv hlo.2.1 hb),jz (fv hlo.2.2.1 hb),jz (fv hlo.2.2.2 hb)};intro m
 induction m with
 |zero=>
  intro i s c acc n oT hm hi hz hT hTI h1 h2 hl1 hl2 hS hac hp hls q;refine ml tm ?_;rw[j5 mf _];show wpAny _ A.in1 (pyNext (.ref z) >>= _) _ _ s;refine wpAny_bind (gS (by exact hh) D.za hz hT hTI h1 hl1 (l7 ()) λh' kp=>?_);refine fq ?_;exact q h' acc n (kp _ _ D.dz D.d1 D.d2 hS) () (hp.keep λb o hb e=>kp b o (far b hb).1 (far b hb).2.1 (far b hb).2.2.1 e) λb o b1 b2 b3 _ e=>kp b o b1 b2 b3 e
 |succ m ih=>
  intro i s c acc n oT hm hi hz hT hTI h1 h2 hl1 hl2 hS hac hp hls q;obtain⟨x,hx⟩:∃x,xs[i]?=KH x:={_,jr (show i<xs.8 by lia)};obtain⟨y,hy⟩:∃y,ys[i]?=KH y:={_,jr (show i<ys.8 by lia)};refine ml tm ?_;rw[j5 mf _];show wpAny _ A.in1 (pyNext (.ref z) >>= _) _ _ s;refine wpAny_bind (Y1 D.za hz hT hTI h1 h2 hl1 hl2 hx hy λh' hz' h1' h2' hpr hsz' kp=>?_);have hS':=kp _ _ D.dz D.d1 D.d2 hS;show wpAny _ A.in1 (updateSeq S (·.push (.ref s.heap.objs.8)) >>= _) _ _ _;refine wpAny_bind ?_;have oth:∀b o,b≠S->h'.get? b=KH o->(h'.update S (i7 (·.push (.ref s.heap.objs.8)))).get? b=KH o:=λb o hb e=>(ky _ _ (rk hb)).trans e;have k2:∀b o,b≠z->b≠i1->b≠i2->b≠S->s.heap.get? b=KH o->(h'.update S (i7 (·.push (.ref s.heap.objs.8)))).get? b=KH o:=λb o b1 b2 b3 b4 e=>oth b o b4 (kp b o b1 b2 b3 e);refine ua hS' rfl (fq {ol mf _,?_}) (by rw[hac];lia) (by show(acc.push _).8<=sizeLine+1;rw[vf,hac];lia);refine ih (i+1) _ KJ (acc.push (.ref s.heap.objs.8)) _ oT () () (oth _ _ D.dz.symm hz') (k2 _ _ hTz hT1 hT2 hTS hT) (k2 _ _ D.za.TIz D.za.TIi1 D.za.TIi2 D.dI.symm hTI) (h1'.at λo e=>oth _ o D.d1.symm e) (h2'.at λo e=>oth _ o D.d2.symm e)
   (hl1.at λo e=>k2 _ o D.za.l1z D.za.l1i1 D.za.l1i2 D.dl.symm e) (hl2.at λo e=>k2 _ o D.za.l2z D.za.l2i1 D.za.l2i2 D.dm.symm e) (nq _ hS' rfl) (by rw[vf,hac]) ?_ (by rw[mq,hsz'];exact DY hls) λh3 acc' n' hS3 hac3 hp3 kp3=>?_
  .have far1:=far _ hls
   refine((hp.keep λb o hb e=>kp b o (far b hb).1 (far b hb).2.1 (far b hb).2.2.1 e).push hp.below hls (by rw[hac];exact hx) (by rw[hac];exact hy) hpr).keep λb o hb e=>oth b o (far b hb).2.2.2 e
  .exact q h3 acc' n' hS3 hac3 hp3 λb o b1 b2 b3 b4 e=>kp3 b o b1 b2 b3 b4 (k2 b o b1 b2 b3 b4 e)
theorem uD {S z TI TO lo:eh}{a b:fj}{xs ys:Array fj}(D:DzA S z TI TO i1 i2 l1 l2)(hlo:z<lo/\i1<lo/\i2<lo/\S<lo/\TO<lo)(hh:A.handled=KI)(he:xs.8=ys.8)(hsz:xs.8<=sizeLine)
  (hz:GH s.5 z TI TO .none)(hTO:o0 s.5 TO a b)(hTI:o0 s.5 TI (.ref i1) (.ref i2))(h1:s.heap.IsListIter i1 l1 0)(h2:s.heap.IsListIter i2 l2 0)(hl1:s.heap.IsList l1 xs)(hl2:s.heap.IsList l2 ys)(hS:s.heap.get? S=KH (vR #[] n))(hls:lo<=s.heap.objs.8)
  (q:∀h' acc' n',h'.get? S=KH (vR acc' n')->acc'.8=xs.8->Px h' lo xs ys acc'->(∀b o,b≠z->b≠TO->b≠i1->b≠i2->b≠S->s.heap.get? b=KH o->h'.get? b=KH o)->R (.ok (.ret .none)) { s with heap:=h' }) :
  codeAny (model prog w) A (.builtin "list.extend.loop" {[.ref S,.ref z,.none],[]}) R s:=by
 have far:∀b,lo<=b->b≠z/\b≠i1/\b≠i2/\b≠S/\b≠TO:=λb hb=>{jz (fv hlo.1 hb),jz (fv hlo.2.1 hb),jz (fv hlo.2.2.1 hb),jz (fv hlo.2.2.2.1 hb),jz (fv hlo.2.2.2.2 hb)};refine ml tm ?_;rw[j5 mf _];show wpAny _ A.in1 (pyNext (.ref z) >>= _) _ _ s;rcases qq xs.8 with h0|h0
 .refine wpAny_bind (EK (by exact hh) D.za hz hTI hTO h1 h2 hl1 hl2 (.inl (l7 ())) λh' kp=>?_)
  refine fq ?_;exact q h' #[] n (kp _ _ D.dz D.dO D.d1 D.d2 hS) (by rw[h0];rfl) {λj v e=>by simp at e,λj k v e=>by simp at e} λb o b1 b2 b3 b4 _ e=>kp b o b1 b2 b3 b4 e
 .obtain⟨x,hx⟩:∃x,xs[0]?=KH x:={_,jr h0}
  obtain⟨y,hy⟩:∃y,ys[0]?=KH y:={_,jr (show 0<ys.8 by lia)};refine wpAny_bind (DS D.za hz hTI hTO h1 h2 hl1 hl2 hx hy λh' hz' _ h1' h2' hpr hsz' kp=>?_);have hS':=kp _ _ D.dz D.dO D.d1 D.d2 hS;have lt:∀{c o},s.heap.get? c=KH o->s.heap.objs.8≠c:=λe=>jz (fu e);show wpAny _ A.in1 (updateSeq S (·.push (.ref s.heap.objs.8)) >>= _) _ _ _;refine wpAny_bind ?_;have oth:∀b o,b≠S->h'.get? b=KH o->(h'.update S (i7 (·.push (.ref s.heap.objs.8)))).get? b=KH o:=λb o hb e=>(ky _ _ (rk hb)).trans e;have k2:∀b o,b≠z->b≠TO->b≠i1->b≠i2->b≠S->s.heap.get? b=KH o->(h'.update S (i7 (·.push (.ref s.heap.objs.8)))).get? b=KH o:=λb o b1 b2 b3 b5 b4 e=>oth b o b4 (kp b o b1 b2 b3 b5 e);refine ua hS' rfl (fq {ol mf _,?_}) (by show(#[]:Array fj).8<=_;exact gn _) (by show((#[]:Array fj).push _).8<=sizeLine+1;rw[vf];exact Nat.succ_le_succ (gn _));refine Aen (T:=s.heap.objs.8) D (lt hz) (by obtain⟨_,e,_⟩:=h1;exact lt e) (by obtain⟨_,e,_⟩:=h2;exact lt e) (lt hS) ⟨hlo.1,hlo.2.1,hlo.2.2.1,hlo.2.2.2.1⟩ hh he hsz _ 1 _ KL ((#[]:Array fj).push (.ref s.heap.objs.8)) _ _ rfl h0 (oth _ _ D.dz.symm hz') (oth _ _ (lt hS) hpr) (k2 _ _ D.za.TIz D.za.TITO D.za.TIi1 D.za.TIi2 D.dI.symm hTI) (h1'.at λo e=>oth _ o D.d1.symm e) (h2'.at λo e=>oth _ o D.d2.symm e)
   (hl1.at λo e=>k2 _ o D.za.l1z D.za.l1TO D.za.l1i1 D.za.l1i2 D.dl.symm e) (hl2.at λo e=>k2 _ o D.za.l2z D.za.l2TO D.za.l2i1 D.za.l2i2 D.dm.symm e) (nq _ hS' rfl) rfl ?_ (by rw[mq,hsz'];exact DY hls) λh3 acc' n' hS3 hac3 hp3 kp3=>?_
  .refine(Px.push (acc:=#[]) {λj v e=>by simp at e,λj k v e=>by simp at e} (λj e=>by simp at e) hls hx hy hpr).keep λb o hb e=>oth b o (far b hb).2.2.2.1 e
  .exact q h3 acc' n' hS3 hac3 hp3 λb o b1 b2 b3 b5 b4 e=>kp3 b o b1 b3 b5 b4 (k2 b o b1 b2 b3 b5 b4 e)
theorem X1 {z TI TO:eh}{a b:fj}{xs ys:Array fj}{Q:Za0}(D:xt z TI TO i1 i2 l1 l2)(hh:A.handled=KI)(he:xs.8=ys.8)(hsz:xs.8<=sizeLine)
  (hz:GH s.5 z TI TO .none)(hTO:o0 s.5 TO a b)(hTI:o0 s.5 TI (.ref i1) (.ref i2))(h1:s.heap.IsListIter i1 l1 0)(h2:s.heap.IsListIter i2 l2 0)(hl1:s.heap.IsList l1 xs)(hl2:s.heap.IsList l2 ys)
  (q:∀h' acc' n',h'.get? s.heap.objs.8=KH (vR acc' n')->acc'.8=xs.8->Px h' (s.heap.objs.8+1) xs ys acc'->(∀b o,b≠z->b≠TO->b≠i1->b≠i2->s.heap.get? b=KH o->h'.get? b=KH o)->Q (.ref s.heap.objs.8) { s with heap:=h' }) :
  wpAny (model prog w) A (call (.type "list") [.ref z]) Q E s:=by
 refine BE (Q₁:=λobj QN=>obj=.ref s.heap.objs.8/\QN={ s with heap:=s.heap.push { cls:=.type "list",data:=.seq #[] } }) PySem.F.called_list (PySem.F.typeCall_list_1 _) PySem.F.entry_list_init (code_list_new _ ⟨rfl,rfl⟩) ?_;rintro obj QN ⟨rfl,rfl⟩;have hS:(s.heap.push { cls:=.type "list",data:=.seq #[] }).get? s.heap.objs.8=KH { cls:=.type "list",data:=.seq #[] }:=gp _ rfl;have up:∀b o,s.heap.get? b=KH o->(s.heap.push { cls:=.type "list",data:=.seq #[] }).get? b=KH o:=λb o e=>en _ e;have lt:∀{c o},s.heap.get? c=KH o->s.heap.objs.8≠c:=λe=>jz (fu e);refine{{_,hS,rfl},PySem.F.args_list_init_2 _ _,?_};show wpAny _ _ (do let old <-yl (.ref s.heap.objs.8);IL (.ref s.heap.objs.8) (λ_=>#[]);letGo old.toList.reverse;om (.ref s.heap.objs.8) (.ref z) .none) _ _ _;refine wpAny_bind ?_;unfold yl;refine wpAny_bind (uq hS rfl (fq ?_));show wpAny _ _ (updateSeq s.heap.objs.8 (λ_=>#[]) >>= λ_=>letGo (#[]:Array fj).toList.reverse >>= λ_=>om (.ref s.heap.objs.8) (.ref z) .none) _ _ _;refine wpAny_bind (ua hS rfl ?_);have XL:=nq (i7 (λ_=>(#[]:Array fj))) hS rfl;have oth:∀b o,s.heap.get? b=KH o->((s.heap.push { cls:=.type "list",data:=.seq #[] }).update s.heap.objs.8 (i7 (λ_=>(#[]:Array fj)))).get? b=KH o:=
  λb o e=>(ky _ _ (lt e)).trans (up b o e)
 refine wpAny_bind (wpAny_letGo ?_);unfold om;have hzT:=oth _ _ hz;refine wpAny_bind (qi (T:="zip") {_,hzT,rfl} ?_);have g1:x6 (.ref s.heap.objs.8) (.ref z)=KL:=by simp[x6,lt hz]
 have g2:(kj "zip"==kj "list")=KL:=by decide
 have g3:(kj "zip"==kj "tuple")=KL:=by decide
 simp only[g1,g2,g3,AE,j7,if_false];refine wpAny_bind (wa hzT ?_);refine wpAny_bind (wpAny_holding ?_);unfold IN;refine wpAny_bind (HE (T:="zip") {_,hzT,rfl} oJ ?_);show wpAny _ _ (specialOf (jc z) (ox "__length_hint__") >>= _) _ _ _;refine wpAny_bind (HE (T:="zip") {_,hzT,rfl} jM ?_);refine fq ?_;show wpAny _ _ (rule "list.extend.makes-room" >>= λ_=>IM (.ref s.heap.objs.8) >>= λ_=>
  again (.builtin "list.extend.loop" {[.ref s.heap.objs.8,.ref z,.none],[]})) _ _ _
 refine wpAny_bind (ur ?_);refine wpAny_bind ?_;show wpAny _ _ (updateSeq s.heap.objs.8 (·.push .none) >>= λ_=>updateSeq s.heap.objs.8 (·.pop)) _ _ _;refine wpAny_bind (ua XL rfl ?_);have XM:=nq (i7 (·.push tj)) XL rfl;refine ua (hz:=by seq_fits) XM rfl ?_;have XV:=nq (i7 (·.pop)) XM rfl;have up2:∀b o,s.heap.get? b=KH o->((((s.heap.push { cls:=.type "list",data:=.seq #[] }).update s.heap.objs.8 (i7 (λ_=>(#[]:Array fj)))).update s.heap.objs.8 (i7 (·.push tj))).update s.heap.objs.8 (i7 (·.pop))).get? b=KH o:=
  λb o e=>(ky _ _ (lt e)).trans ((ky _ _ (lt e)).trans (oth b o e))
 have ltS:∀{c o},s.heap.get? c=KH o->c<s.heap.objs.8+1:=λe=>uk (fu e);refine fq {ol mf _,?_};refine uD (a:=a) (b:=b) (lo:=s.heap.objs.8+1) (xs:=xs) (ys:=ys) {D,lt hz,lt hTI,lt hTO,?_,?_,?_,?_} {ltS hz,?_,?_,nh _,ltS hTO} (by exact hh) he hsz (up2 _ _ hz) (up2 _ _ hTO) (up2 _ _ hTI) (h1.at λo e=>up2 _ o e) (h2.at λo e=>up2 _ o e) (hl1.at λo e=>up2 _ o e) (hl2.at λo e=>up2 _ o e) XV ?_ λh3 acc' n' hS3 hac3 hp3 kp3=>?_
 .obtain⟨_,e,_⟩:=h1;exact lt e
 .obtain⟨_,e,_⟩:=h2;exact lt e
 .obtain⟨_,e,_⟩:=hl1;exact lt e
 .obtain⟨_,e,_⟩:=hl2;exact lt e
 .obtain⟨_,e,_⟩:=h1;exact ltS e
 .obtain⟨_,e,_⟩:=h2;exact ltS e
 .rw[mq,mq,mq,q8]
  exact d8 _
 .exact{rfl,q h3 acc' n' hS3 hac3 hp3 λb o b1 b2 b3 b4 e=>kp3 b o b1 b2 b3 b4 (lt e).symm (up2 _ _ e)}
end
def Sk (N H:Hp):Hp:=λb=>match N b with|some o=>KH o|none=>H b
theorem Ru {N:Hp}{b:eh}{o:HO}(h:N b=KH o):Sk N H b=KH o:=by unfold Sk;rw[h]
theorem Ri {N:Hp}{b:eh}(h:N b=KI):Sk N H b=H b:=by unfold Sk;rw[h]
theorem Vp {N H:Hp}(h:∀b o,N b=KH o->H b=KI):Ag H (Sk N H):=λb o e=>by
 cases hN:N b with
 |none=>rw[Ri hN];exact e
 |some u=>rw[h b u hN] at e;cases e
theorem Inv.laidN {G:St}{N:Hp}(I:Inv X pins G H s)(k:∀b u,s.heap.get? b=KH u->h'.get? b=KH u)(hp:∀b o,N b=KH o->s.heap.objs.8<=b)
  (new:∀b o,N b=KH o->Ct X.prog X.w (Sk N H) h' b o):Inv X pins G (Sk N H) { s with heap:=h',toks:=t' }:=by
 have hn:∀b o,N b=KH o->H b=KI:=λb o e=>I.hok.fresh (hp b o e);have sm:=Vp hn;have old:∀b u,s.heap.get? b=KH u->N b=KI:=λb u e=>by
  cases hN:N b with
  |none=>rfl
  |some o=>exact absurd (fu e) (pi.mpr (hp b o hN))
 refine I.un {λb u q _ _ _=>k b u q,λb u q _ _ _=>{u.slots,k b u q},λb u q n _=>by rw[Ri (old b u q)];exact n,λb u q _=>{u,k b u q},λb xs q=>sm _ _ q,λb u xs q=>sm _ _ q,λb ps q=>{#[],by rw[sm _ _ q];simp}} λb o e=>?_
 cases hN:N b with
 |some u=>
  rw[Ru hN] at e;cases e;exact new b _ hN
 |none=>
  rw[Ri hN] at e;exact(I.hok b o e).stay (λc v _ q=>k c v q) (λc q=>sm _ _ q) λc xs q=>sm _ _ q
def Aim:fj->eh
 |.ref a=>a
 |_=>0
def Afc (H1 H':Hp)(as:List eh)(xs ys:List V):Prop:=as.9=xs.9/\∀(i:Nat) t x y,as[i]?=KH t->xs[i]?=KH x->ys[i]?=KH y->H1 t=KI/\H' t=KH (.tup [x,y])
def kX:List eh->List V->List V->Hp
 |t::as,x::xs,y::ys=>λb=>if b=t then KH (.tup [x,y]) else kX as xs ys b
 |_,_,_=>λ_=>KI
theorem pL:∀{as:List eh} {xs ys:List V},(∀(j k:Nat) t,as[j]?=KH t->as[k]?=KH t->j=k)->∀(i:Nat) t x y,as[i]?=KH t->xs[i]?=KH x->ys[i]?=KH y->kX as xs ys t=KH (.tup [x,y])
 |[],_,_,_,_,_,_,_,e,_,_=>by cases e
 |_::_,[],_,_,_,_,_,_,_,e,_=>by cases e
 |_::_,_::_,[],_,_,_,_,_,_,_,e=>by cases e
 |t::as,x::xs,y::ys,inj,i,t',x',y',e1,e2,e3=>by
  show(if t'=t then KH (HO.tup [x,y]) else kX as xs ys t')=_
  cases i with
  |zero=>
   cases e1;cases e2;cases e3;rw[if_pos rfl]
  |succ i=>
   have hne:t'≠t:=λh=>by
    have:=inj (i+1) 0 t' e1 (by rw[h];rfl);cases this
   rw[if_neg hne];exact pL (λj k u h1 h2=>by have:=inj (j+1) (k+1) u h1 h2;lia) i t' x' y' e1 e2 e3
theorem eH:∀{as:List eh} {xs ys:List V} {b:eh} {o:HO},kX as xs ys b=KH o->∃(i:Nat) (x y:V),as[i]?=KH b/\xs[i]?=KH x/\ys[i]?=KH y/\o=.tup [x,y]
 |[],_,_,_,_,e=>by cases e
 |_::_,[],_,_,_,e=>by cases e
 |_::_,_::_,[],_,_,e=>by cases e
 |t::as,x::xs,y::ys,b,o,e=>by
  have e:(if b=t then KH (HO.tup [x,y]) else kX as xs ys b)=KH o:=e
  by_cases h:b=t
  .rw[if_pos h] at e
   cases e;exact{0,x,y,by rw[h];rfl,rfl,rfl,rfl}
  .rw[if_neg h] at e
   obtain⟨i,x',y',a1,a2,a3,a4⟩:=eH e;exact{i+1,x',y',a1,a2,a3,a4}
section
variable {X:Cx}
def Ac9 (K:d6)(ta:TA):TE:=λG H Q=>ta G H λvs H1=>∃a b xs ys,vs=[.ref a,.ref b]/\SqL K H1 a xs/\SqL K H1 b ys/\xs.9=ys.9/\∀p as H',Ag H1 H'->H1 p=KI->H' p=KH (.lst (as.map V.ref))->Afc H1 H' as xs ys->Q (.ref p) H'
theorem Aaz {a b:ja}{ta:TA}{p q:Pos}(hcal:X.calm=KJ)(hg:Gl X "list")(hm:X.mg "list"=KI)(hg2:Gl X "zip")(hm2:X.mg "zip"=KI)(ha:PA X [a,b] ta)
  (hs:autoParam (starEach [a,b] X.env=[(KL,eval a X.env),(KL,eval b X.env)]) QD)(hs2:autoParam (starEach [b] X.env=[(KL,eval b X.env)]) QD)
  (hs3:autoParam (starEach [wu (.Name "zip" q) [a,b] [] pos2] X.env=[(KL,eval (.Call (.Name "zip" q) [a,b] [] pos2) X.env)]) QD) :
  PE X (.Call (.Name "list" p) [.Call (.Name "zip" q) [a,b] [] pos2] [] pos) (Ac9 X.K ta):=by
 k_in;refine wpAny_Call_Name_kw (Do I hg hm Pw (ij ?_ hs3 rfl) (by decide) (by decide));rw[hs3];refine lr ?_;show wpAny _ _ (eval (wu (.Name "zip" q) [a,b] [] pos2) X.env) _ _ _;refine wpAny_Call_Name_kw (Do I hg2 hm2 yQ (ij (thA ha I h λus s1 vs H1 I1 r1 q1=>?_) (by rw[hs,hs2]) (by rw[hs2];rfl)) (by decide) (by decide));obtain⟨a,b,xs,ys,e,hx,hy,hl,q⟩:=q1;subst e;obtain⟨u,v,rfl,ru,rv⟩:=Ng r1;cases ru;cases rv;obtain⟨its,rv,p,hz⟩:=I1.list hx;obtain⟨its2,rv2,p2,hz2⟩:=I1.list hy;have l1:=rv.9;have l2:=rv2.9;refine FL p.isList p2.isList λh' g1 g2 g3 g4 g5 hsz kk=>?_;refine nz ?_;have A1:h'.IsList a its.6:=p.isList.at λo e=>kk _ o e;have A2:h'.IsList b its2.6:=p2.isList.at λo e=>kk _ o e;have D:=eA (Nq _) ({g1,g2,{_,_,g3},g4,g5}:StZ _ _ _ _ _ a b 0 h') A1 A2;refine X1 (s:={ s1 with heap:=h' }) D (I1.ok.hd hcal) (by simp;lia) (by simp;lia) g1 g3 g2 g4 g5 A1 A2 λh2 acc n hS hac hp kp=>?_;have hle:s1.heap.objs.8<=h'.objs.8:=()
 have hac:acc.8=xs.9:=by rw[hac];simp;lia
 have kp1:∀b o,s1.heap.get? b=KH o->h2.get? b=KH o:=λb o e=>by
  have lt:=fu e;have ne:∀c,s1.heap.objs.8<=c->b≠c:=λc hc z=>l8 _ (fv lt (z▸hc));exact kp b o (ne _ (jj _ _)) (ne _ (jj _ _)) (ne _ (d8 _)) (ne _ (jj _ _)) (kk _ _ e)
 obtain⟨as,has⟩:∃as,as=acc.toList.map Aim:={_,rfl};have hasl:as.9=xs.9:=by rw[has,d7,gh,hac]
 have hat:∀(i:Nat) t,as[i]?=KH t->∃x y,acc[i]?=KH (jc t)/\h'.objs.8+1<=t/\its[i]?=KH x/\its2[i]?=KH y/\o0 h2 t x y:=λi t e=>by
  rw[has,d9] at e
  cases hv:acc.7[i]? with
  |none=>rw[hv] at e;cases e
  |some v=>
   rw[hv] at e;have hv2:acc[i]?=KH v:=by rw[<-gq];exact hv
   obtain⟨T,x,y,e1,e2,e3,e4,e5⟩:=hp.1 i v hv2;subst e1;obtain rfl:T=t:=ee e;exact{x,y,hv2,e2,by simpa using e3,by simpa using e4,e5}
 have inj:∀(j k:Nat) t,as[j]?=KH t->as[k]?=KH t->j=k:=λj k t h1 h2=>by
  obtain⟨_,_,a1,_⟩:=hat j t h1;obtain⟨_,_,a2,_⟩:=hat k t h2;exact hp.2 j k _ a1 a2
 let N:Hp:=λb=>if b=h'.objs.8 then KH (.lst (as.map V.ref)) else kX as xs ys b
 have hN0:N h'.objs.8=KH (.lst (as.map V.ref)):=if_pos rfl;have hNt:∀(i:Nat) t x y,as[i]?=KH t->xs[i]?=KH x->ys[i]?=KH y->N t=KH (.tup [x,y]):=λi t x y e1 e2 e3=>by
  obtain⟨_,_,_,hlt,_⟩:=hat i t e1;show(if t=h'.objs.8 then _ else _)=_;rw[if_neg (jz hlt)];exact pL inj i t x y e1 e2 e3
 have hNp:∀b o,N b=KH o->s1.heap.objs.8<=b:=λb o e=>by
  have e:(if b=h'.objs.8 then KH (HO.lst (as.map V.ref)) else kX as xs ys b)=KH o:=e
  by_cases hb:b=h'.objs.8
  .rw[hb];exact hle
  .rw[if_neg hb] at e
   obtain⟨i,x,y,e1,_⟩:=eH e;obtain⟨_,_,_,hlt,_⟩:=hat i b e1;exact iy hle (Nat.le_of_succ_le hlt)
 have hNn:∀b o,N b=KH o->H1 b=KI:=λb o e=>I1.hok.fresh (hNp b o e);have I2:Inv X pins G (Sk N H1) { s1 with heap:=h2 }:=by
  refine I1.laidN (t':=s1.toks) kp1 hNp λb o e=>?_;have e:(if b=h'.objs.8 then KH (HO.lst (as.map V.ref)) else kX as xs ys b)=KH o:=e
  by_cases hb:b=h'.objs.8
  .rw[if_pos hb] at e
   cases e;subst hb;refine{by rw[d7];lia,acc.7,n,?_,hS};refine Ul (by rw[d7,hasl,<-hac];exact(gh (xs:=acc)).symm) λi v u e1 e2=>?_;rw[d9] at e1
   cases ht:as[i]? with
   |none=>rw[ht] at e1;cases e1
   |some t=>
    rw[ht] at e1;cases e1;obtain⟨_,_,a1,_⟩:=hat i t ht;rw[<-gq,e2] at a1;exact ee a1
  .rw[if_neg hb] at e
   obtain⟨i,x,y,e1,e2,e3,rfl⟩:=eH e;obtain⟨u,v,_,_,e4,e5,e6⟩:=hat i b e1;obtain⟨u',hu,ru⟩:=rv.get e2;obtain⟨v',hv,rv'⟩:=rv2.get e3;rw[e4] at hu;rw[e5] at hv;cases hu;cases hv;exact{f9 (qp (show 2<=2 from d8 2) (by decide)),[u,v],.cons ru (.cons rv' .nil),_,e6,rfl,_,rfl}
 refine{.ref h'.objs.8,_,I2,rfl,q _ as _ (Vp hNn) (hNn _ _ hN0) (Ru hN0) {hasl,λi t x y e1 e2 e3=>{hNn _ _ (hNt i t x y e1 e2 e3),Ru (hNt i t x y e1 e2 e3)}}}
theorem Afj {G:St}{Q:VK}{ta:TA}{K:d6}(h:ta G H λvs H1=>∃a b xs ys,vs=[.ref a,.ref b]/\SqL K H1 a xs/\SqL K H1 b ys/\xs.9=ys.9/\∀p as H',Ag H1 H'->H1 p=KI->H' p=KH (.lst (as.map V.ref))->Afc H1 H' as xs ys->Q (.ref p) H'):Ac9 K ta G H Q:=h
end
def Acv (K:d6)(a:eh)(n:Nat):It:=
 {λi H=>∃xs x,SqL K H a xs/\i<n/\xs[n-1-i]?=KH x,λi H x H'=>H'=H/\∀xs,SqL K H a xs->xs[n-1-i]?=KH x,λi _=>i=n}
theorem oB {P:gl}{K:d6}(a it:eh)(n:Nat):S9 P w K tg (Acv K a n) [it] it (λi h=>h.IsRevIter it a ((n:Int)-1-(i:Int))) where
 mem:=by simp
 obj:=λi h st b hb=>by
  have e:b=it:=by simpa using hb
  subst e;obtain⟨o,e,c,d⟩:=st;exact{o,e,λv z=>by rw[d] at z;cases z}
 keep:=λi h h' st k=>st.at λo e=>k it (by simp) o e
 item:=by
  intro X hP hw hK hc i pins s G H E I hf st hg;subst hP hw hK;obtain⟨xs,x,hq,hi,hx⟩:=hg;obtain⟨its,rv,p,hz⟩:=I.list hq;obtain⟨u,hu,ru⟩:=rv.get hx;obtain⟨f0,f1,f2,f3,f4,f5⟩:=hf it (by simp);have e:(n:Int)-1-(i:Int)=((n-1-i:Nat):Int):=()
  have st1:=st;rw[e] at st1;refine wpAny_pyNext_rev_item st1 p.isList (x:=u) (by simpa using hu) λh' st' sb=>?_;have e2:((n-1-i:Nat):Int)-1=(n:Int)-1-((i+1:Nat):Int):=()
  rw[e2] at st';have I1:Inv X pins G H { s with heap:=h' }:=I.turned (t':=s.toks) (λb o hb e=>(sb.2 b hb).trans e) f0 f1 f3 f4 f5;obtain⟨o,e,c,d⟩:=id st';exact⟨u,rfl,Yj (s:={ s with heap:=h' }) e c d (by decide) ⟨x,H,I1,ru,⟨rfl,λys hy=>by rw[I.list_inj hy hq];exact hx⟩,st',λb hb=>(hf b hb).1⟩⟩
 done:=by
  intro X hP hw hK hc i pins s G H E I hf st hg;subst hP hw hK;have hg:i=n:=hg;subst hg;obtain⟨f0,f1,f2,f3,f4,f5⟩:=hf it (by simp);have e:(i:Int)-1-(i:Int)=-1:=()
  rw[e] at st;exact wpAny_pyNext_rev_end (I.ok.hd hc) st λh' eb=>{rfl,I.turned (t':=s.toks) (λb o hb e=>eb b o hb e) f0 f1 f3 f4 f5}
 self:=λ_ _ _ _ _ st h=>EL st h
section
variable {X:Cx} {tg:ja}
def Adq (K:d6)(tl:TE):TI:=λG H R=>tl G H λx H1=>∃a xs,x=.ref a/\SqL K H1 a xs/\R (Acv K a xs.9) H1
theorem Af2 {K:d6}{tl:TE}{G:St}{R:It->Hp->Prop}(h:tl G H λx H1=>∃a xs,x=.ref a/\SqL K H1 a xs/\R (Acv K a xs.9) H1):Adq K tl G H R:=h
theorem Abv {l:ja}{tl:TE}{p:Pos}(hg:Gl X "reversed")(hm:X.mg "reversed"=KI)(hl:PE X l tl)(hs3:autoParam (starEach [l] X.env=[(KL,eval l X.env)]) QD):PI X tg (.Call (.Name "reversed" p) [l] [] pos) (Adq X.K tl):=by
 intro pins s G H R I h;refine Call_ (Do I hg hm Xo (ij ?_ hs3 rfl));rw[hs3];refine lr ?_;refine thE hl I h λv s1 x H1 I1 r1 q1=>?_;obtain⟨a,xs,e,hq,q⟩:=q1;subst e;cases r1;obtain⟨its,rv,p,hz⟩:=I1.list hq;refine nz ?_;refine call_reversed_list p.isList ?_;have hn:((its.toArray.8:Nat):Int)-1=((xs.9:Nat):Int)-1-((0:Nat):Int):=by have:=rv.9;simp;lia
 refine EL (i:=((xs.9:Nat):Int)-1-((0:Nat):Int)) (l:=a) {_,gp _ rfl,rfl,by rw[<-hn];rfl} ?_;refine{s1.heap.objs.8,[s1.heap.objs.8],_,_,H1,rfl,I1.kept (t':=s1.toks) λb o e=>en _ e,oB a _ xs.9,{_,gp _ rfl,rfl,by rw[<-hn];rfl},λb hb=>?_,q};have e:b=s1.heap.objs.8:=by simpa using hb
 subst e;exact I1.fpOk (d8 _) (I1.hok.fresh (d8 _))
end
theorem tH {K:d6}{a:eh}{i1 i2:Nat}{tb:TS}{G:St}(hx:as.9=xs.9)(hy:as.9=ys.9)(Pv:Nat->St->Hp->Prop)(h0:Pv 0 G H)
  (hl:∀i G H,i<=as.9->Pv i G H->SqL K H a (as.map V.ref))(ht:∀(i:Nat) t x y G H,as[i]?=KH t->xs[i]?=KH x->ys[i]?=KH y->Pv i G H->H t=KH (.tup [x,y]))
  (step:∀(i:Nat) x y G H,xs[i]?=KH x->ys[i]?=KH y->Pv i G H->tb { D with nx:=Pv (i+1),ct:=Pv (i+1),bk:=D.nx } ((G.set i1 (KH x)).set i2 (KH y)) H)
  (fin:∀G H,Pv as.9 G H->D.nx G H):uN (Itl K a) (kC K 2 (Ia (Dh i1) (Ia (Dh i2) kJ))) tb D G H:=by
 refine{λi m G H=>i<=as.9/\m=as.9-i/\Pv i G H,{_,gn _,rfl,h0},?_};rintro i m G H ⟨hi,rfl,hp⟩
 by_cases h:i=as.9
 .exact .inl {{_,hl i G H hi hp,by rw[d7];lia},fin G H (h▸hp)}
 .have hlt:i<as.9:=kr hi h
  refine .inr {{_,.ref as[i],hl i G H hi hp,by rw[d9,d4 hlt];rfl},Pv (i+1),λQM H' q=>{as.9-(i+1),(),hlt,rfl,q},λv H' hyl=>?_};obtain⟨rfl,hv⟩:=hyl;have hv:=hv _ (hl i G H' hi hp);rw[d9,d4 hlt] at hv;obtain rfl:=ee hv;exact Tj (SqT.of (ht i _ _ _ G H' (d4 hlt) (d4 ()) (d4 ()) hp)) (step i _ _ G H' (d4 ()) (d4 ()) hp)
theorem lW {K:d6}{a:eh}{i1 i2:Nat}{tb:TS}{G:St}(hx:as.9=xs.9)(hy:as.9=ys.9)(Pv:Nat->St->Hp->Prop)(h0:Pv 0 G H)
  (hl:∀i G H,i<=as.9->Pv i G H->SqL K H a (as.map V.ref))(ht:∀(i j:Nat) t x y G H,as[j]?=KH t->xs[j]?=KH x->ys[j]?=KH y->Pv i G H->H t=KH (.tup [x,y]))
  (step:∀(i:Nat) x y G H,i<as.9->xs[as.9-1-i]?=KH x->ys[as.9-1-i]?=KH y->Pv i G H->tb { D with nx:=Pv (i+1),ct:=Pv (i+1),bk:=D.nx } ((G.set i1 (KH x)).set i2 (KH y)) H)
  (fin:∀G H,Pv as.9 G H->D.nx G H):uN (Acv K a as.9) (kC K 2 (Ia (Dh i1) (Ia (Dh i2) kJ))) tb D G H:=by
 refine{λi m G H=>i<=as.9/\m=as.9-i/\Pv i G H,{_,gn _,rfl,h0},?_};rintro i m G H ⟨hi,rfl,hp⟩
 by_cases h:i=as.9
 .exact .inl {h,fin G H (h▸hp)}
 .have hlt:i<as.9:=kr hi h
  have hj:as.9-1-i<as.9:=()
  refine .inr {{_,.ref as[as.9-1-i],hl i G H hi hp,hlt,by rw[d9,d4 hj];rfl},Pv (i+1),λQM H' q=>{as.9-(i+1),(),hlt,rfl,q},λv H' hyl=>?_};obtain⟨rfl,hv⟩:=hyl;have hv:=hv _ (hl i G H' hi hp);rw[d9,d4 hj] at hv;obtain rfl:=ee hv;exact Tj (SqT.of (ht i _ _ _ _ G H' (d4 hj) (d4 ()) (d4 ()) hp)) (step i _ _ G H' hlt (d4 ()) (d4 ()) hp)
theorem tY {K:d6}{a:eh}{tc:TT}{Q:VK}(hx:as.9=xs.9)(hy:as.9=ys.9)(ha:SqL K H1 a (as.map V.ref))(ht:∀(i:Nat) t x y,as[i]?=KH t->xs[i]?=KH x->ys[i]?=KH y->H1 t=KH (.tup [x,y]))
  (Pv:eh->Nat->List V->Hp->Prop)(h0:∀D H,H1 D=KI->Ag H1 H->Pv D 0 [] H)
  (stab:∀D i zs H us o,H D=KH (.lst us)->Pv D i zs H->Pv D i zs (upd H D o))(hz:∀D i zs H,i<as.9->Pv D i zs H->zs.9<sizeLine)(psame:∀D i zs H H',Ag H H'->Pv D i zs H->Pv D i zs H')
  (turn:∀D (i:Nat) zs x y H (A:VK) (R:Hp->Prop),xs[i]?=KH x->ys[i]?=KH y->Ag H1 H->H1 D=KI->H D=KH (.lst zs)->Pv D i zs H->(∀H',Ag H H'->Pv D (i+1) zs H'->R H')->(∀y H',Ag H H'->Pv D (i+1) (zs++[y]) H'->A y H') ->
   tc (KH x::KH y::fr) H λb H3=>if b=KJ then te (KH x::KH y::fr) H3 A else R H3)
  (fin:∀D zs H,H1 D=KI->Ag H1 H->Pv D as.9 zs H->H D=KH (.lst zs)->Q (.ref D) H):Hj K (Itl K a) H1 fr tc te Q:=by
 refine jY as.9 (λi=>xs.getD i .non) (λi=>ys.getD i .non) Pv h0 stab hz psame (λi H hi sm=>{_,.ref as[i],sm.seq ha,by rw[d9,d4 hi];rfl}) (λi H v H' hi sm h=>?_)
  (λH sm=>{_,sm.seq ha,by rw[d7];exact d8 _}) (λD i zs H A R hi sm=>turn D i zs _ _ H A R (by simp[show i<xs.9 by lia]) (by simp[show i<ys.9 by lia]) sm) fin
 obtain⟨rfl,hv⟩:=h;have hv:=hv _ (sm.seq ha);rw[d9,d4 hi] at hv;obtain rfl:=ee hv;refine{_,rfl,SqT.of (sm _ _ (ht i _ _ _ (d4 hi) ?_ ?_)),Ag.refl _}
 .simp[show i<xs.9 by lia]
 .simp[show i<ys.9 by lia]
theorem oR (n:Nat):sliceRange (sliceBounds KI KI (KH (-1)) n).1 (sliceBounds KI KI (KH (-1)) n).2.1 (sliceBounds KI KI (KH (-1)) n).2.2=(fb n).map λk=>n-1-k:=by
 have e:sliceBounds KI KI (KH (-1)) n=((n:Int)-1,-1,-1):=by simp[sliceBounds]
 rw[e];unfold sliceRange;dsimp only;rw[if_neg (by decide)];have e2:(if(n:Int)-1 > -1 then((n:Int)-1 - -1 - -1-1) / - -1 else 0).toNat=n:=by
  split
  .rw[show(- -1:Int)=1 by decide,GZ]
   lia
  .lia
 rw[e2];refine jd λk hk=>?_;have:=jo.mp hk;lia
theorem Xe {α:Type}(l:List α):∀n,n<=l.9->((fb n).map λk=>n-1-k).filterMap (l[·]?)=(l.take n).reverse
 |0,_=>by simp
 |n+1,h=>by
  have hl:n<l.9:=h;rw[mz,iu,jg,lg];have e:((λk=>n+1-1-k) ∘ zx)=λk=>n-1-k:=by
   funext k
   show n+1-1-(k+1)=n-1-k;lia
  rw[e,show n+1-1-0=n by lia,d4 hl];dsimp only;rw[Xe l n (),i5,d4 hl,BQ,qd];rfl
theorem zY:∀{xs:List V} {us:Za3},Ax xs us->Ax xs.reverse us.reverse:=λ{xs us} h=>by
 have key:∀(xs:List V) (us:Za3) (ys:List V) (vs:Za3),Ax xs us->Ax ys vs->Ax (xs.reverse++ys) (us.reverse++vs):=λxs=>by
  induction xs with
  |nil=>intro us ys vs h1 h2;cases h1;exact h2
  |cons x xs ih=>
   intro us ys vs h1 h2
   cases h1 with
   |cons r t=>
    rw[xz,xz,fm,fm];exact ih _ _ _ t (.cons r h2)
 have:=key xs us [] [] h .nil
 rwa [gv,gv] at this
def Acy (K:d6)(te:TE):TE:=λG H Q=>te G H λx H1=>∃a xs,x=.ref a/\SqL K H1 a xs/\∀p,H1 p=KI->Q (.ref p) (upd H1 p (.lst xs.reverse))
section
variable {X:Cx} {e:ja} {te:TE} {pos p1 p2 p3:Pos}
theorem Aa8 {x1}(he:PE X e te):PE X (.Subscript e (.Slice KI KI (KH (.UnaryOp .USub (.Constant (.int 1) x1 p1) p2)) p3) pos) (Acy X.K te):=by
 k_in;refine Subscript_ (thE he I h λv s1 x H1 I1 r1 q1=>?_);obtain⟨a,xs,rfl,hq,q⟩:=q1;obtain rfl:v=jc a:=r1;refine zz ?_;rw[vh];refine fq (fq ?_);rw[evalPart_some];have hm:PE X (.UnaryOp .USub (.Constant (.int 1) x1 p1) p2) (tUn (rU λi=>.int (-i)) (tC (.int 1))):=Fz C8 Ae;refine thn (hm pins s1 G H1 (λy H2=>y=.int (-1)/\H2=H1) I1 {1,rfl,rfl,rfl}) λw s2 h_=>cpZ λX_ k_=>?_;obtain⟨y,H2,I2,r2,e2,e3⟩:=h_;refine k_ ?_;subst e2 e3;obtain⟨t,rfl⟩:=r2;have I4:Inv X pins G H2 { s2 with heap:=s2.heap.push { cls:=.type "slice",data:=.fields #[.none,.none,.int (-1) t] } }:=I2.kept (t':=s2.toks) λb ob q=>en _ q;obtain⟨its,r,pl,hz⟩:=I4.list hq;have e1:=r.9;show wpAny (model X.prog X.w) X.A (subscriptTail e (.Slice KI KI (KH (.UnaryOp .USub (.Constant (.int 1) x1 p1) p2)) p3) (.ref a) (.ref s2.heap.objs.8)) (EP X pins G Q) X.xe { s2 with heap:=s2.heap.push { cls:=.type "slice",data:=.fields #[.none,.none,.int (-1) t] } };refine y9 (ops:=[.ref a,.ref s2.heap.objs.8]) pl.isList.typeIs EX ?_ (by with_unfolding_all rfl);refine vg pl.isList (uz ..) .none .none (.int (-1) t) (by intro z;have:=ee z;lia) ?_ (by rw[ge];lia);have hp:slicePick its.6 KI KI (KH (-1))=its.reverse.6:=by
  have:=Xe its its.9 (d8 _);rw[fz (d8 _)] at this;rw[<-this,<-oR its.9];unfold slicePick;simp
 rw[hp];exact{.ref _,_,I4.lnew (t':=s2.toks) (zY r) (by rw[my];exact hz),rfl,q _ (I4.hok.fresh (d8 _))}
theorem Aeq {K:d6}{G:St}{Q:VK}(h:te G H λx H1=>∃a xs,x=.ref a/\SqL K H1 a xs/\∀p,H1 p=KI->Q (.ref p) (upd H1 p (.lst xs.reverse))):Acy K te G H Q:=h
end
theorem pI (K:d6){e:ja}{f:Str}{ta:TE}(he:PE X e ta)(h:autoParam (X.K=K) QD)(hb:autoParam (attributeBase e f X.env (eval e X.env)=eval e X.env) QD):PE X (.Attribute e f pos) (Abh K ta f):=by
 subst h;exact zR he hb
def GD (K:FS)(x:Str)(st:i4):Prop:=∃(f:eh) (fd:jx),Fun K x x st f fd/\nsIn K mainGlobals x=KH (KH (.ref f))
def MD (K:FS)(C:eh)(x q:Str)(st:i4):Prop:=∃(f:eh) (fd:jx),Fun K x q st f fd/\findIn K (.ref C) x=KH (KH (.ref f))/\isFn K (.ref f)=KJ
def BD (K:FS)(C:eh)(x q:Str)(st:i4):Prop:=∃(f:eh) (fd:jx),Fun K x q st f fd/\findCls K (.ref C) (.type "type") x=KH (.val (.ref f))
structure CD (K:FS) (C:eh) (x:Str):Prop where
 a:nsIn K mainGlobals x=KH (KH (.ref C))
 ma:makesIn K C=KJ
 kc:keepIn K (.ref C)=KJ
structure BC (K:FS) (C:eh) (x:Str):Prop where
 a:nsIn K mainGlobals x=KH (KH (.ref C))
 bg:specialIn K (.ref C) "__getattribute__"=KH (KH (.builtin "type.__getattribute__"))
 br:readsIn K C (.type "type")=KJ
def noB:Option (Za7)->Bool
 |some KI=>KJ
 |_=>KL
structure FD (K:FS) (C:eh) (fs:Za6):Prop where
 cl:Cls K C
 al:(fs.all λf=>noB (findIn K (.ref C) f))=KJ
section
variable {P:gl} {w:ip} {K:FS} {mg:Za2} {base h:jm} {x q:Str} {st:i4} {f C:eh} {oc:fj} {od an:Option eh} {osl:Array (Za7)} {kV doc pm cdv ct:fj} {fs ps:Za6} {k:Nat} {sp:Sp}
theorem gD (a:nsIn K mainGlobals x=KH (KH (.ref f)))(l:K.lookup f=KH {oc,od,.func (fnOf x x (B2 st) (Bj st) (Ac st) .none kV doc pm an cdv ct),osl})(c:codeIn K cdv x=KJ)(k:keepIn K (.ref f)=KJ):GD K x st:={f,_,nL l c k,a}
theorem mD (a:findIn K (.ref C) x=KH (KH (.ref f)))(i:isFn K (.ref f)=KJ)(l:K.lookup f=KH {oc,od,.func (fnOf x q (B2 st) (Bj st) (Ac st) .none kV doc pm an cdv ct),osl})(c:codeIn K cdv q=KJ)(k:keepIn K (.ref f)=KJ):MD K C x q st:={f,_,nL l c k,a,i}
theorem bD (a:findCls K (.ref C) (.type "type") x=KH (.val (.ref f)))(l:K.lookup f=KH {oc,od,.func (fnOf x q (B2 st) (Bj st) (Ac st) .none kV doc pm an cdv ct),osl})(c:codeIn K cdv q=KJ)(k:keepIn K (.ref f)=KJ):BD K C x q st:={f,_,nL l c k,a}
theorem fD (pg:plainGet K C yp=KJ)(hd:hasDictIn K C=KJ)(po:plainOver K C=KJ)(sa:findIn K (.ref C) "__setattr__"=KH (KH (.builtin "object.__setattr__")))(al:(fs.all λf=>noB (findIn K (.ref C) f))=KJ):FD K C fs:={⟨pg,hd,po,sa⟩,al}
theorem FD.no (D:FD K C fs)(i:Nat){g:Str}(h:autoParam (fs[i]?=KH g) QD):Bf K C g:=by
 have:=lx.mp D.al g (f8 h);show findIn K (.ref C) g=KH KI
 cases e:findIn K (.ref C) g with
 |none=>rw[e] at this;cases this
 |some o=>
  cases o with
  |none=>rfl
  |some v=>rw[e] at this;cases this
def Cur:Nat->(Za3->Prop)->Prop
 |0,P=>P []
 |n+1,P=>∀a,Cur n λl=>P (a::l)
theorem Cur.all:∀{n:Nat} {P:Za3->Prop},Cur n P->∀us:Za3,us.9=n->P us
 |0,_,h,[],_=>h
 |n+1,_,h,a::l,e=>Cur.all (n:=n) (h a) l (sh e)
abbrev L6 (x q:Str)(st:i4)(ps:Za6):Prop:=∀(kV doc pm:fj) (an:Option eh) (cdv ct:fj),Cur ps.9 λus=>bindArgs (fnOf x q (B2 st) (Bj st) (Ac st) .none kV doc pm an cdv ct) {us,[]}=pure (ps.zip us)
theorem Fun.bd (F:Fun K x q st f fd)(hb:L6 x q st ps):Fp K fd ps []:=F.binds λa b c d e g=>(hb a b c d e g).all
theorem GD.cal (X:K.In h)(G:h.Ns mainGlobals mg)(g:GD K x st)(ok:∀{f fd},Fun K x x st f fd->Ar P w K mg base CX0 k f fd ps sp)
  (hb:autoParam (L6 x x st ps) QL):Cal P w K mg base x k ps sp:=
 let ⟨f,fd,F,a⟩:=g
 {{f,fd,ok F,F.bd hb,mg_of X G a,F.kp}}
theorem MD.mth (c:Cls K C)(g:MD K C x q st)(ok:∀{f fd},Fun K x q st f fd->Ar P w K mg base CX0 k f fd ps sp)
  (hb:autoParam (L6 x q st ps) QL):Mth P w K mg base C x k ps sp:=
 let ⟨f,fd,F,a,i⟩:=g
 {{f,fd,ok F,F.bd hb,⟨a,i,F.kp⟩},c}
theorem MD.mkr {y:Str}(X:K.In h)(G:h.Ns mainGlobals mg)(c:CD K C y)(g:MD K C "__init__" q st)(ok:∀{f fd},Fun K "__init__" q st f fd->Ar P w K mg base CX0 k f fd ps sp)
  (hb:autoParam (L6 "__init__" q st ps) QL):Mkr P w K mg base y C k ps sp:=
 let ⟨f,fd,F,a,i⟩:=g
 {{f,fd,ok F,F.bd hb,⟨c.ma,a,i,c.kc⟩,mg_of X G c.a}}
theorem BD.calC {y:Str}(X:K.In h)(G:h.Ns mainGlobals mg)(c:BC K C y)(g:BD K C x q st)(ok:∀{f fd},Fun K x q st f fd->Ar P w K mg base CX0 k f fd ps sp)
  (hb:autoParam (L6 x q st ps) QL):Abq P w K mg base y x k ps sp:=
 let ⟨f,fd,F,a⟩:=g
 {{C,f,fd,ok F,F.bd hb,mg_of X G c.a,c.bg,c.br,a,F.kp}}
end
end _L
end
section
namespace _W
theorem qS {ds:Za4}{v:Nat}:∀{i j:Nat},v<j->j<=i->(v:Int)∈way ds i->(v:Int)∈way ds j
 |0,j,h1,h2,_=>()
 |i+1,j,h1,h2,h=>by
  by_cases e:j=i+1
  .rw[e];exact h
  .have h:(v:Int)∈(way ds i).take (dAt ds i+1)++[(i:Int)]:=h
   rcases ik.mp h with h|h
   .exact qS h1 () (n5 h)
   .have:=f7.mp h
    lia
theorem Afd {ds:Za4}(h:Dok ds){i j:Nat}{v:Int}(hi:i<ds.9)(e:eld ds i=v)(h1:v<j)(h2:j<i):v<=eld ds j:=by
 by_cases hv:v=-1
 .rw[hv];exact Aad h ()
 obtain⟨w,hw,hwi,_⟩:=Lp h hi (by rw[e];exact hv);have hwv:v=(w:Int):=by rw[<-e,hw]
 subst hwv;have hm:(w:Int)∈way ds i:=by rw[<-e];exact f8 (Ho h hi)
 have hm2:(w:Int)∈(way ds j).take (dAt ds j+1)++[(j:Int)]:=qS (i:=i) (j:=j+1) () () hm;rcases ik.mp hm2 with hm3|hm3
 .obtain⟨a,ha⟩:=j6 hm3
  have hlt:=(fc.mp ha).1;rw[fh] at hlt;rw[gj ()] at ha;have hea:=Ho h (show j<ds.9 by lia)
  by_cases hd:a=dAt ds j
  .rw[hd,hea] at ha
   have:=ee ha;lia
  .have:=Lj h j a (dAt ds j) _ _ () () ha hea
   lia
 .have:=f7.mp hm3
  lia
def kE (ds:Za4)(k:Nat):Nat->Nat->Nat
 |0,j=>j
 |m+1,j=>if(k:Int)<=eld ds j then kE ds k m (j+1) else j
def Bu (ds:Za4)(k:Nat):Nat:=kE ds k (ds.9-(k+1)) (k+1)
theorem pD (ds:Za4)(k:Nat):∀m j,k<j->(∀i,k<i->i<j->(k:Int)<=eld ds i)->j<=kE ds k m j/\kE ds k m j<=j+m/\(∀i,k<i->i<kE ds k m j->(k:Int)<=eld ds i)/\(kE ds k m j<j+m->eld ds (kE ds k m j)<k)
 |0,j,h1,h2=>{d8 _,d8 _,h2,λh=>absurd h (l8 _)}
 |m+1,j,h1,h2=>by
  unfold kE
  by_cases h:(k:Int)<=eld ds j
  .rw[if_pos h]
   obtain⟨a,b,c,d⟩:=pD ds k m (j+1) () (λi h3 h4=>by
    by_cases e:i=j
    .rw[e];exact h
    .exact h2 i h3 ())
   exact{(),(),c,λh5=>d ()}
  .rw[if_neg h]
   exact{d8 _,(),h2,λ_=>()}
theorem Dr {ds:Za4}{k:Nat}(hk:k<ds.9):k<Bu ds k/\Bu ds k<=ds.9/\(∀i,k<i->i<Bu ds k->(k:Int)<=eld ds i)/\(Bu ds k<ds.9->eld ds (Bu ds k)<k):=by
 obtain⟨a,b,c,d⟩:=pD ds k (ds.9-(k+1)) (k+1) () (λi h1 h2=>());unfold Bu;exact{(),(),c,λh=>d ()}
theorem Aa9 {ds:Za4}(h:Dok ds){k i:Nat}(hk:k<ds.9)(h1:Bu ds k<=i)(h2:i<ds.9):eld ds i<k\/(Bu ds k:Int)<=eld ds i:=by
 obtain⟨a,b,c,d⟩:=Dr (ds:=ds) hk
 by_cases e:i=Bu ds k
 .left;rw[e];exact d ()
 .by_cases z:eld ds i<k
  .exact .inl z
  .right
   by_cases y:(Bu ds k:Int)<=eld ds i
   .exact y
   .have:=Afd h h2 rfl (show eld ds i<(Bu ds k:Nat) by lia) ()
    have:=d ();lia
theorem sG {p q:Nat->Bool}:∀{l:Za4},(∀i∈l,p i=KJ->q i=KJ)->(l.filter p).9<=(l.filter q).9
 |[],_=>d8 _
 |x::r,h=>by
  have ih:=sG (l:=r) λi hi=>h i (by simp[hi]);have hx:=h x (by simp);rw[je,je];cases hp:p x<;>cases hq:q x
  .exact ih
  .simp only[j7,if_false,if_true,gm];lia
  .rw[hp] at hx;rw[hx rfl] at hq;cases hq
  .simp only[if_true,gm];lia
theorem Vy {ds:Za4}(h:Dok ds){k:Nat}(hk:k<ds.9):∀i,k<i->i<Bu ds k->dAt ds k<dAt ds i:=λi=>by
 obtain⟨a,b,c,d⟩:=Dr (ds:=ds) hk
 induction i using Nat.strongRecOn with
 |_ i ih=>
  intro h1 h2;have h3:=c i h1 h2;obtain⟨v,hv,hvi,hd⟩:=Lp h (show i<ds.9 by lia) ()
  by_cases e:v=k
  .rw[hd,e];lia
  .have:=ih v hvi () ()
   lia
def Pc (ds:Za4)(k:Nat):Za4:=(fb (Bu ds k-k)).map λi=>dAt ds (k+i)-dAt ds k
theorem Mh (ds:Za4)(k:Nat):(Pc ds k).9=Bu ds k-k:=by unfold Pc;rw[d7,fg]
theorem eT {ds:Za4}{k i:Nat}(h:i<Bu ds k-k):dAt (Pc ds k) i=dAt ds (k+i)-dAt ds k:=by
 unfold dAt Pc ju;rw[d9,gd h];rfl
theorem Abu {ds:Za4}(h:Dok ds){k:Nat}(hk:k<ds.9):Dok (Pc ds k):=λi hi=>by
 obtain⟨a,b,c,d⟩:=Dr (ds:=ds) hk;rw[Mh] at hi;rw[eT hi]
 cases i with
 |zero=>show _<=0;rw[m7,jy];exact d8 _
 |succ i=>
  show _<=dAt (Pc ds k) i+1;rw[eT ()];have h1:dAt ds (k+(i+1))<=dAt ds (k+i)+1:=h (k+(i+1)) ()
  by_cases e:i=0
  .subst e
   rw[m7] at *;lia
  .have:=Vy h hk (k+i) () ()
   lia
end _W
end
section
namespace _L
open PySem PySem.Spec PyProof.Rows
end _L
end
section
namespace _W
def rwH:Nat->Za4->Za5
 |h,[]=>fe h KL
 |h,d::ds=>fe (h-d) KL++KJ::rwH (d+1) ds
def dk:Nat->Za4->Prop
 |_,[]=>True
 |h,d::ds=>d<=h/\dk (d+1) ds
def Rc:Nat->Za4->Nat
 |h,[]=>h
 |_,d::ds=>Rc (d+1) ds
def fE (B:Za4)(off:Nat):Prop:=∀d C,B=d::C->d<=off
theorem wM {ds:Za4}{k:Nat}(h:k<ds.9):ds.drop k=dAt ds k::ds.drop (k+1):=by
 rw[nv h];unfold dAt ju;rw[d4 h];rfl
theorem jU {ds:Za4}:∀(m k:Nat),k+m=ds.9->((fb m).map λi=>Bg ds (k+i)).flatten++fe (opn ds ds.9) KL=rwH (opn ds k) (ds.drop k)
 |0,k,e=>by
  obtain rfl:k=ds.9:=()
  rw[jk (d8 _)];rfl
 |m+1,k,e=>by
  have ih:=jU (ds:=ds) m (k+1) ();rw[mz,iu,jg,jn,wM ()];have e1:((λi=>Bg ds (k+i)) ∘ zx)=λi=>Bg ds (k+1+i):=by
   funext i
   show Bg ds (k+(i+1))=Bg ds (k+1+i);rw[show k+(i+1)=k+1+i by lia]
  rw[e1,fm,ih];show(fe (opn ds k-dAt ds (k+0)) KL++[KJ])++_=fe (opn ds k-dAt ds k) KL++KJ::rwH (dAt ds k+1) _;rw[m7,fm];rfl
theorem oG (ds:Za4):B1 ds=rwH 0 ds:=by
 have:=jU (ds:=ds) ds.9 0 ();unfold B1 S3;have e:(λi=>Bg ds (0+i))=Bg ds:=by funext i;rw[n8]
 rw[e] at this;exact this
theorem Zi:∀(B:Za4) (h:Nat),(∀k,k<B.9->dAt B k<=if k=0 then h else dAt B (k-1)+1)->dk h B
 |[],_,_=>trivial
 |d::B,h,hh=>⟨hh 0 (by simp),Zi B (d+1) λk hk=>by
  have:=hh (k+1) (by simp;exact hk);rw[if_neg ()] at this
  cases k with
  |zero=>exact this
  |succ k=>exact this⟩
theorem Adg:∀(B:Za4) (h:Nat),dk h B->∀k,k<B.9->dAt B k<=if k=0 then h else dAt B (k-1)+1
 |d::B,h,hh,0,_=>hh.1
 |d::B,h,hh,k+1,hk=>by
  have:=Adg B (d+1) hh.2 k (by simp at hk;exact hk);rw[if_neg ()]
  cases k with
  |zero=>exact this
  |succ k=>exact this
theorem Z1 {ds:Za4}:Dok ds↔dk 0 ds:=by
 constructor
 .intro h
  refine Zi ds 0 λk hk=>?_;have:=h k hk
  cases k with
  |zero=>exact this
  |succ k=>rw[if_neg ()];exact this
 .intro h k hk
  have:=Adg ds 0 h k hk
  cases k with
  |zero=>exact this
  |succ k=>rw[if_neg ()] at this;exact this
theorem Ub:∀(A B:Za4) (h:Nat),dk h (A++B)↔dk h A/\dk (Rc h A) B
 |[],B,h=>{λe=>⟨trivial,e⟩,λe=>e.2}
 |d::A,B,h=>by
  have ih:=Ub A B (d+1);exact{λe=>{{e.1,(ih.mp e.2).1},(ih.mp e.2).2},λe=>{e.1.1,ih.mpr ⟨e.1.2,e.2⟩}}
theorem Agl {B:Za4}{h h' off:Nat}(hB:dk h B)(hd:fE B off)(ho:off<=h'):dk h' B:=by
 cases B with
 |nil=>trivial
 |cons d B=>exact{iy (hd d B rfl) ho,hB.2}
theorem zN:∀(A:Za4),Rc 0 A=opn A A.9:=by
 have key:∀(A:Za4) (h:Nat),Rc h A=if A.9=0 then h else dAt A (A.9-1)+1:=by
  intro A
  induction A with
  |nil=>intro h;rfl
  |cons d A ih=>
   intro h;show Rc (d+1) A=_;rw[ih (d+1)]
   cases A with
   |nil=>rfl
   |cons c A=>rfl
 intro A;rw[key A 0]
 cases h:A.9 with
 |zero=>rfl
 |succ n=>rw[if_neg ()];rfl
theorem Af0 {off:Nat}{E B:Za4}(hE:dk 0 E)(hB:fE B off):fE (E.map (·+off)++B) off:=by
 intro d C e
 cases E with
 |nil=>exact hB d C e
 |cons c E=>
  have:=hE.1;have e:c+off=d:=(q0 e).1;lia
theorem Aew {A E B:Za4}{off:Nat}(h:dk 0 (A++(E.map (·+off)++B)))(ho:off<=Rc 0 A)(hB:fE B off):dk 0 (A++B):=by
 obtain⟨h1,h2⟩:=(Ub A _ 0).mp h;exact(Ub _ _ _).mpr {h1,Agl ((Ub _ _ _).mp h2).2 hB ho}
theorem rM (a b:Nat):fe (a+b) KL=fe a KL++fe b KL:=by rw[List.replicate_append_replicate]
theorem eX {h off:Nat}{B:Za4}(ho:off<=h)(hB:fE B off):rwH h B=fe (h-off) KL++rwH off B:=by
 cases B with
 |nil=>
  show fe h KL=fe (h-off) KL++fe off KL;rw[<-rM,uc ho]
 |cons d B=>
  have:=hB d B rfl;show fe (h-d) KL++_=fe (h-off) KL++(fe (off-d) KL++_);rw[<-fm,<-rM,show h-off+(off-d)=h-d by lia]
theorem vV {off:Nat}{B:Za4}(hB:fE B off):∀(E:Za4) (h:Nat),dk h E->rwH (h+off) (E.map (·+off)++B)=rwH h E++rwH off B
 |[],h,_=>by
  show rwH (h+off) B=fe h KL++_;rw[eX () hB,nl]
 |d::E,h,hh=>by
  have ih:=vV hB E (d+1) hh.2;show fe (h+off-(d+off)) KL++KJ::rwH (d+off+1) (E.map (·+off)++B)=(fe (h-d) KL++KJ::rwH (d+1) E)++_;rw[show d+off+1=d+1+off by lia,ih,BS,fm];rfl
theorem zZ:∀(A:Za4) (h:Nat),dk h A->∃P:Za5,P.9+Rc h A=h+2*A.9/\P.count KJ=A.9/\∀B,rwH h (A++B)=P++rwH (Rc h A) B
 |[],h,_=>{[],by show 0+h=h+2*0;lia,rfl,λB=>rfl}
 |d::A,h,hh=>by
  obtain⟨P,p1,p2,p3⟩:=zZ A (d+1) hh.2;refine{fe (h-d) KL++KJ::P,?_,?_,λB=>?_}
  .have:=hh.1
   rw[eg,i6,gm,gm];show h-d+(P.9+1)+Rc (d+1) A=_;lia
  .rw[n6,ny,p2,BY]
   simp
  .show fe (h-d) KL++KJ::rwH (d+1) (A++B)=_
   rw[p3,fm];rfl
theorem qE {A E B:Za4}{off:Nat}(hA:dk 0 A)(hE:dk 0 E)(ho:off<=Rc 0 A)(hB:fE B off):∃P S:Za5,P.9+off=2*A.9/\P.count KJ=A.9/\B1 (A++(E.map (·+off)++B))=P++(B1 E++S)/\B1 (A++B)=P++S:=by
 obtain⟨P,p1,p2,p3⟩:=zZ A 0 hA;refine{P++fe (Rc 0 A-off) KL,rwH off B,?_,?_,?_,?_}
 .rw[eg,i6]
  lia
 .rw[n6,p2,BY]
  simp
 .rw[oG,oG,p3,eX ho (Af0 hE hB),fm]
  have:=vV hB E 0 hE;rw[n8] at this;rw[this]
 .rw[oG,p3,eX ho hB,fm]
theorem wA {ds:Za4}(h:Dok ds){k:Nat}(hk:k<ds.9):∀d,k+1+d<=Bu ds k->(way ds (k+1+d))[dAt ds k+1]?=KH (k:Int)
 |0,_=>by
  have hl:=Cd h k ();have hd:=h k hk;show((way ds k).take (dAt ds k+1)++[(k:Int)])[dAt ds k+1]?=_;rw[fk (by rw[fh];lia),fh,il (),jy];rfl
 |d+1,hd=>by
  have ih:=wA h hk d ();obtain⟨a,b,c,_⟩:=Dr (ds:=ds) hk;have hl:=Cd h (k+1+d) ();have h2:=h (k+1+d) ();have h3:=Vy h hk (k+1+d) () ();show((way ds (k+1+d)).take (dAt ds (k+1+d)+1)++[((k+1+d:Nat):Int)])[dAt ds k+1]?=_;rw[fw (by rw[fh];lia),gj ()];exact ih
theorem Abs {ds:Za4}(h:Dok ds){k:Nat}(hk:k<ds.9)(he:Bu ds k<ds.9):dAt ds (Bu ds k)<=dAt ds k:=by
 obtain⟨a,b,c,d⟩:=Dr (ds:=ds) hk;have h1:=d he;have h2:=wA h hk (Bu ds k-(k+1)) ();rw[show k+1+(Bu ds k-(k+1))=Bu ds k by lia] at h2;have h3:=Ho h he
 by_cases hlt:dAt ds (Bu ds k)<=dAt ds k
 .exact hlt
 .exfalso
  by_cases e:dAt ds (Bu ds k)=dAt ds k+1
  .rw[e,h2] at h3
   have:=ee h3;lia
  .have:=Lj h _ _ _ _ _ b (show dAt ds k+1<dAt ds (Bu ds k) by lia) h2 h3
   lia
def Ed (ds:Za4)(k:Nat):Za4:=(fb (Bu ds k-(k+1))).map λi=>dAt ds (k+1+i)-(dAt ds k+1)
theorem Ij (ds:Za4)(k:Nat):(Ed ds k).9=Bu ds k-(k+1):=by unfold Ed;rw[d7,fg]
theorem mQ {ds:Za4}{k i:Nat}(h:i<Bu ds k-(k+1)):dAt (Ed ds k) i=dAt ds (k+1+i)-(dAt ds k+1):=by
 unfold dAt Ed ju;rw[d9,gd h];rfl
theorem Oc {ds:Za4}(h:Dok ds){k:Nat}(hk:k<ds.9):Dok (Ed ds k):=λi hi=>by
 obtain⟨a,b,c,d⟩:=Dr (ds:=ds) hk;rw[Ij] at hi;rw[mQ hi];have h1:=h (k+1+i) ()
 cases i with
 |zero=>
  have h1:dAt ds (k+1+0)<=dAt ds k+1:=h1;show _<=0;lia
 |succ i=>
  show _<=dAt (Ed ds k) i+1;rw[mQ ()];have h1:dAt ds (k+1+(i+1))<=dAt ds (k+1+i)+1:=h1;have:=Vy h hk (k+1+i) () ();lia
theorem mT {ds:Za4}{a b:Nat}(h1:a<=b)(h2:b<=ds.9):ds=ds.take a++((ds.drop a).take (b-a)++ds.drop b):=by
 have e1:=(jp a ds).symm;have e2:=(jp (b-a) (ds.drop a)).symm;rw[oj,show a+(b-a)=b by lia] at e2;rw[e2] at e1;exact e1
theorem Aci {ds es:Za4}{a b off:Nat}(h1:a<=b)(h2:b<=ds.9)(hl:es.9=b-a)(he:∀i,i<b-a->dAt ds (a+i)=dAt es i+off):(ds.drop a).take (b-a)=es.map (·+off):=by
 refine me λi=>?_
 by_cases hi:i<b-a
 .have e:=he i hi
  unfold dAt ju at e;rw[d4 (show a+i<ds.9 by lia),d4 (show i<es.9 by lia)] at e;rw[gj hi,iz,d9,d4 (show a+i<ds.9 by lia),d4 (show i<es.9 by lia)];exact congrArg KH e
 .rw[ii (by rw[fh];lia),ii (by rw[d7];lia)]
theorem uH {ds:Za4}(h:Dok ds){k:Nat}(hk:k<ds.9):ds=ds.take k++((Pc ds k).map (·+dAt ds k)++ds.drop (Bu ds k)):=by
 obtain⟨a,b,c,d⟩:=Dr (ds:=ds) hk;have:=mT (ds:=ds) (a:=k) (b:=Bu ds k) () b;rw[Aci (es:=Pc ds k) (off:=dAt ds k) () b (Mh _ _) λi hi=>?_] at this
 .exact this
 .rw[eT hi]
  cases i with
  |zero=>show _=dAt ds (k+0)-dAt ds k+dAt ds k;rw[m7];lia
  |succ i=>
   have:=Vy h hk (k+(i+1)) () ();lia
theorem Acd {ds:Za4}{a off:Nat}(h:a<ds.9->dAt ds a<=off):fE (ds.drop a) off:=by
 intro d C e
 by_cases ha:a<ds.9
 .rw[wM ha] at e
  rw[<-(q0 e).1];exact h ha
 .rw[jk ()] at e
  cases e
theorem yW {ds:Za4}{a:Nat}(ha:a<=ds.9):Rc 0 (ds.take a)=opn ds a:=by
 rw[zN,fh,il ha]
 cases a with
 |zero=>rfl
 |succ a=>
  show dAt (ds.take (a+1)) a+1=dAt ds a+1;unfold dAt ju;rw[gj ()]
def Afk (ds:Za4)(k:Nat):Za4:=ds.take k++ds.drop (Bu ds k)
theorem Acc {ds:Za4}(h:Dok ds){k:Nat}(hk:k<ds.9):Dok (Afk ds k)/\∃P S:Za5,P.9+dAt ds k=2*k/\P.count KJ=k/\B1 ds=P++(B1 (Pc ds k)++S)/\B1 (Afk ds k)=P++S:=by
 obtain⟨a,b,c,d⟩:=Dr (ds:=ds) hk;have hs:=uH h hk;have hd:=Z1.mp h;have ho:dAt ds k<=Rc 0 (ds.take k):=by rw[yW ()];exact h k hk
 have hB:fE (ds.drop (Bu ds k)) (dAt ds k):=Acd λhe=>Abs h hk he;rw[hs] at hd;obtain⟨P,S,p1,p2,p3,p4⟩:=qE ((Ub _ _ _).mp hd).1 (Z1.mp (Abu h hk)) ho hB;rw[fh,il ()] at p1 p2;rw[<-hs] at p3;exact{Z1.mpr (Aew hd ho hB),P,S,p1,p2,p3,p4}
def hg (l:Za5)(i:Nat):Int:=2*((l.take i).count KJ:Int)-i
theorem Ml (b:Bool)(l:Za5)(i:Nat):hg (b::l) (i+1)=(if b then 1 else -1)+hg l i:=by
 unfold hg;rw[List.take_succ_cons,ny];cases b<;>simp<;>lia
theorem dU {P X:Za5}(i:Nat):hg (P++X) (P.9+i)=hg P P.9+hg X i:=by
 unfold hg;rw[EC,fz (show P.9<=P.9+i by lia),p7,n6,io];lia
theorem rR {P X:Za5}{i:Nat}(h:i<=P.9):hg (P++X) i=hg P i:=by
 unfold hg;rw[jq h]
theorem vN:∀(l:Za5) (h:Nat),Vs h l->(∀i,i<=l.9->0<=(h:Int)+hg l i)/\(h:Int)+hg l l.9=0
 |[],h,hv=>by
  have hv:h=0:=hv;subst hv;refine{λi hi=>?_,rfl};obtain rfl:i=0:=by simpa using hi
  exact y6 _
 |true::l,h,hv=>by
  obtain⟨h1,h2⟩:=vN l (h+1) hv;refine{λi hi=>?_,?_}
  .cases i with
   |zero=>show(0:Int)<=h+(2*0-0);lia
   |succ i=>
    have:=h1 i (by simp at hi;lia);rw[Ml];simp only[if_true];lia
  .rw[gm,Ml]
   simp only[if_true];lia
 |false::l,h,hv=>by
  obtain⟨h0,hv⟩:=hv;obtain⟨g,rfl⟩:∃g,h=g+1:={h-1,()};obtain⟨h1,h2⟩:=vN l g hv;refine{λi hi=>?_,?_}
  .cases i with
   |zero=>show(0:Int)<=_+(2*0-0);lia
   |succ i=>
    have:=h1 i (by simp at hi;lia);rw[Ml];simp only[j7,if_false];lia
  .rw[gm,Ml]
   simp only[j7,if_false];lia
theorem Tx {ds:Za4}(h:Dok ds):(∀i,i<=2*ds.9->0<=hg (B1 ds) i)/\hg (B1 ds) (2*ds.9)=0:=by
 have:=vN _ _ (nY h);rw[Ea h] at this;exact{λi hi=>by have:=this.1 i hi;lia,by have:=this.2;lia}
theorem Ad5 {P:Za5}{a off:Nat}(h1:P.9+off=2*a)(h2:P.count KJ=a):hg P P.9=off:=by
 unfold hg;rw[p7,h2];lia
theorem Aat {ds:Za4}(h:Dok ds){k:Nat}(hk:k<ds.9):B1 (Pc ds k)=KJ::(B1 (Ed ds k)++[KL]):=by
 obtain⟨a,b,c,d⟩:=Dr (ds:=ds) hk;have hu:=Oc h hk;have e:Pc ds k=[0]++((Ed ds k).map (·+1)++[]):=by
  rw[gv];refine me λi=>?_
  by_cases hi:i<Bu ds k-k
  .have e1:=eT hi
   unfold dAt ju at e1;rw[d4 (show i<(Pc ds k).9 by rw[Mh];exact hi)] at e1;rw[d4 (show i<(Pc ds k).9 by rw[Mh];exact hi)];have e1:(Pc ds k)[i]'(by rw[Mh];exact hi)=dAt ds (k+i)-dAt ds k:=e1;rw[e1]
   cases i with
   |zero=>rw[m7,jy];rfl
   |succ i=>
    have e2:=mQ (ds:=ds) (k:=k) (i:=i) ();unfold dAt ju at e2;rw[d4 (show i<(Ed ds k).9 by rw[Ij];lia)] at e2;have e2:(Ed ds k)[i]'(by rw[Ij];lia)=dAt ds (k+1+i)-(dAt ds k+1):=e2;show _=((Ed ds k).map (·+1))[i]?;rw[d9,d4 (show i<(Ed ds k).9 by rw[Ij];lia),e2];have:=Vy h hk (k+1+i) () ();show KH _=KH (dAt ds (k+1+i)-(dAt ds k+1)+1);rw[show k+(i+1)=k+1+i by lia];congr 1;lia
  .rw[ii (by rw[Mh];lia),ii (by rw[eg,d7,Ij];simp only[gm,jt];lia)]
 obtain⟨P,S,p1,p2,p3,p4⟩:=qE (A:=[0]) (B:=[]) (off:=1) (show dk 0 [0] from{d8 _,trivial}) (Z1.mp hu) (d8 _) (λd C e=>by cases e);rw[e,p3];have p5:P++S=[KJ,KL]:=p4.symm;have p1:P.9=1:=by simp only[gm,jt] at p1;lia
 match P,p1 with
 |[x],_=>
  have e1:x=KJ:=(q0 p5).1;have e2:S=[KL]:=(q0 p5).2;rw[e1,e2];rfl
theorem kI {ds:Za4}(h:Dok ds){k:Nat}(hk:k<ds.9):∃P S:Za5,P.9+dAt ds k=2*k/\P.count KJ=k/\B1 ds=P++(KJ::(B1 (Ed ds k)++KL::S))/\B1 (Afk ds k)=P++S:=by
 obtain⟨_,P,S,p1,p2,p3,p4⟩:=Acc h hk;refine{P,S,p1,p2,?_,p4};rw[p3,Aat h hk];show P++(KJ::((B1 (Ed ds k)++[KL])++S))=_;rw[fm];rfl
theorem Mn {ds:Za4}(h:Dok ds){k:Nat}(hk:k<ds.9):dAt ds k<=2*k/\(B1 ds)[2*k-dAt ds k]?=KH KJ/\((B1 ds).take (2*k-dAt ds k)).count KJ=k:=by
 obtain⟨P,S,p1,p2,p3,_⟩:=kI h hk;have e:2*k-dAt ds k=P.9:=()
 refine{(),?_,?_}
 .rw[p3,e,fk (d8 _),jy]
  rfl
 .rw[p3,e,List.take_left,p2]
theorem Tp {ds:Za4}(h:Dok ds){k:Nat}(hk:k<ds.9):∃A B:Za5,A.9=2*k-dAt ds k+1/\B1 ds=A++(B1 (Ed ds k)++B)/\dAt ds k<=2*k/\hg (B1 ds) (2*k-dAt ds k)=dAt ds k/\(∀j,j<=2*(Ed ds k).9->hg (B1 ds) (A.9+j)=dAt ds k+1+hg (B1 (Ed ds k)) j)/\hg (B1 ds) (A.9+2*(Ed ds k).9+1)=dAt ds k:=by
 obtain⟨P,S,p1,p2,p3,_⟩:=kI h hk;have hu:=Oc h hk;have hl:=Ea hu;have hP:=Ad5 p1 p2;have hA:hg (P++[KJ]) (P++[KJ]).9=dAt ds k+1:=by
  rw[eg,dU,hP];show(dAt ds k:Int)+hg [KJ] 1=_;rw[Ml];simp[hg]
 have e:B1 ds=(P++[KJ])++(B1 (Ed ds k)++KL::S):=by rw[p3,fm];rfl
 refine{P++[KJ],KL::S,by rw[eg];show P.9+1=_;lia,e,(),?_,λj hj=>?_,?_}
 .rw[p3,show 2*k-dAt ds k=P.9 by lia,rR (d8 _),hP]
 .rw[e,dU,hA,rR ()]
 .rw[e,l9,dU,hA,<-hl,dU]
  have e1:=(Tx hu).2;rw[<-hl] at e1;rw[e1,Ml];simp[hg];lia
end _W
end
section
namespace _L
open PySem PySem.Spec PyProof.Rows
theorem Ahe:bootBuiltins "all"=KH (.builtin "all"):=by decide +kernel
theorem lN:∀{bs:Za5} {us:Za3},Ax (bs.map V.bl) us->LSm.BoolsAre us bs
 |[],_,.nil=>.nil
 |b::bs,_,.cons hu hr=>by
  cases hu;exact .cons b (lN hr)
section
variable {X:Cx}
def Ai6 (K:d6):List V->Hp->VK->Prop:=λxs H Q=>∃(p:eh) (bs:Za5),xs=[.ref p]/\SqL K H p (bs.map V.bl)/\Q (.bl (bs.all id)) H
theorem xB (hc:X.calm=KJ):Em X (.builtin "all") (Ai6 X.K):=by
 intro pins s G H xs us Q I r h;obtain⟨p,bs,rfl,hp,q⟩:=h;obtain⟨u,rfl,ru⟩:=Fl r;cases ru;obtain⟨its,rv,pl,_⟩:=I.list hp;have hb:=lN rv;have hl:=pl.isList;have hlt:p<s.heap.objs.8:=by obtain⟨_,e,_⟩:=hl;exact fu e
 refine call_all_walk (y8 hl {s.heap.objs.8,[s.heap.objs.8,p],[s.heap.objs.8],its.toArray.8,_,_,λi=>(bs[i]?).getD KJ,rfl,Walks.list (A:=X.A.in1) (I.ok.hd hc) _ p (gw hlt) its.6,{{_,gp _ rfl,rfl,rfl},hl.push _},λi v s1 Q1 E1 hv hQ=>?_,λh1 tk hk=>?_})
 .obtain⟨b,e,rfl⟩:=hb.get i v (by simpa using hv)
  dsimp only at hQ;rw[e] at hQ;exact n9 hQ
 .rw[show((fb its.toArray.8).all λi=>(bs[i]?).getD KJ)=bs.all id by rw[ge,hb.9];exact LSm.range_all bs]
  exact{.bl (bs.all id),H,I.kept (LSm.kept_iter hk),rfl,q}
end
section
variable {X:Cx} {e a b o value:ja} {es:List ja} {te ta tb tv:TE} {t:TA} {pos pos':Pos} {x f:Str}
theorem tpa (ha:PE X e te)(hr:PA X es t)(hs:autoParam (nB e=KJ) QD):PA X (e::es) (kZ te t):=Aio ha hr hs
theorem tix {r:R2}(hr:IxR X r)(ha:PE X a ta)(hb:PE X b tb)(hs:rV b:=by exact λ_ _=>rfl):PE X (.Subscript a b pos) (tOp r ta tb):=Ahg hr ha hb hs
theorem tpc {r:R2}(ho:OpR X (compareOp op) r)(ha:PE X a ta)(hb:PE X b tb)(hm:behindInMarks op b=KL:=by exact wG _):PE X (.Compare a [op] [b] pos) (tOp r ta tb):=qX ho ha hb hm
theorem ttc {r:R2}(ho:OpR X (compareOp op) r)(ha:PE X a ta)(hb:PE X b tb)(hm:behindInMarks op b=KL:=by exact wG _):PT X (.Compare a [op] [b] pos) (wY (tOp r ta tb)):=Td ho ha hb hm
theorem tfl (he:PE X e ta)(hb:autoParam (attributeBase e f X.env (eval e X.env)=eval e X.env) QD):PE X (.Attribute e f pos) (Abh X.K ta f):=zR he hb
theorem tsf (ha:PE X o ta)(hv:PE X value tv)(hs:autoParam (swapsWith value (KH (.Attribute o f pos')) pos.line X.env=pure KL) QD):PS X (.Assign [.Attribute o f pos'] value pos) (Aee X.K ta tv f):=Afw ha hv hs
theorem tst (i:Nat)(hN:X.N.Nodup)(he:PE X e te)(hi:autoParam (X.N[i]?=KH x) QD)(hx:Loc X.env.scope x:=by exact BP rfl)(hs:autoParam (swapsWith e (KH (.Name x pos')) pos.line X.env=pure KL) QD)(hf:autoParam (X.fn x=KJ\/X.env.scope.names.lookup x=KH .local) QH) :
  PS X (.Assign [.Name x pos'] e pos) (oI te (Dh i)):=eN hN hi hx he hs hf
theorem tgn (i:Nat)(hN:X.N.Nodup)(hi:autoParam (X.N[i]?=KH x) QD)(hx:Loc X.env.scope x:=by exact BP rfl)(hf:autoParam (X.fn x=KJ\/X.env.scope.names.lookup x=KH .local) QH):PG X (.Name x pos) (Dh i):=Oo hN hi hx hf
theorem tau (i:Nat){op:ER}{ti:TIp}(hN:X.N.Nodup)(he:PE X e te)(ho:PIp X op ti)(hi:autoParam (X.N[i]?=KH x) QD)(hx:Loc X.env.scope x:=by exact BP rfl)(hf:autoParam (X.fn x=KJ\/X.env.scope.names.lookup x=KH .local) QH) :
  PS X (.AugAssign (.Name x pos') op e pos) (Aft i te ti):=Ae3 hN hi hx he ho hf
end
open _W
section
variable {prog:gl} {w:ip} {A:i9} {E:Za0} {s:ft}
variable {kd:ut} {P:jv->Prop} {blt:jv->jv->Bool} (L:mF prog w A E s kd P blt) (o:Swo blt)
include L o
theorem Nf {l0:List jv}{st:ph}{Q:Unit->ph->Prop}(hk:kindOf st=kd)(hf:failedOf st=KI)(hp:pendingOf st=#[])(e:(arrOf st).7=l0)(hP:∀x∈l0,P x)(h2:2<=l0.9)(h64:l0.9<64)
  (h:∀st':ph,failedOf st'=KI->(arrOf st').7=Ay blt l0->Q .unit st'):wpS (model prog w) A E s sortRuns' Q st:=by
 have hsz:(arrOf st).8=l0.9:=by rw[<-gh,e]
 rw[sortRuns'_eq];refine wpS_bind (AL ?_);dsimp only;have hmr:minRun' l0.9 l0.9 0=l0.9:=by
  obtain⟨f,hf⟩:∃f,l0.9=f+1:={l0.9-1,()};have:minRun' (f+1) l0.9 0=l0.9:=by rw[minRun'_succ,if_pos h64];rfl
  rwa [<-hf] at this
 simp only[hsz,hmr];have ed:∀l:List jv,[]++Ay blt (l.take l.9)++l.drop l.9=Ay blt l:=λl=>by rw[fz (d8 _),jk (d8 _),gv,mh]
 refine wpS_bind (wpS_mono (wpS_forRange
  (I:=λx c st'=>(x=0/\c=(KI,0)/\st'=st)\/(1<=x/\c=(KI,l0.9)/\∃xs:Array jv,st'=setPending (setArr st xs) #[(0,l0.9,0)]/\xs.7=Ay blt l0))
  (Q:=λc st'=>c=(KI,l0.9)/\∃xs:Array jv,st'=setPending (setArr st xs) #[(0,l0.9,0)]/\xs.7=Ay blt l0) ?step ?fin (.inl ⟨rfl,rfl,rfl⟩)) ?post)
 case fin=>
  rintro c st' (⟨hx,_,_⟩|⟨_,hc,hD⟩)
  .lia
  .exact⟨hc,hD⟩
 case step=>
  rintro x c st' _ hx (⟨rfl,rfl,rfl⟩|⟨hx1,rfl,hD⟩)
  .dsimp only
   rw[if_neg ()];simp only[qa,re,n8];refine wpS_bind (Yh L o hk (λx hx=>hP x (by rw[<-e];exact hx)) (by rw[hsz];lia) () λm xs hm1 hm2 ex=>?_);rw[e,qz,we] at ex;dsimp only
   by_cases hlt:m<l0.9
   .rw[if_pos hlt]
    refine wpS_bind (IQ (ur {rfl,?_}));refine wpS_bind (S1 L o (st:=setArr st' xs) (lo:=0) (n:=l0.9) (ok:=m) (T:=[]) (D:=l0) hk hP rfl hm1 hm2 (d8 _) ex λxs2 ex2=>?_);rw[ed] at ex2;simp only[Bool.not_true,j7,if_false];refine wpS_bind (AL ?_);have hb:(pendingOf (setArr (setArr st' xs) xs2)).back?=KI:=by show(pendingOf st').back?=KI;rw[hp];rfl
    rw[hb];dsimp only;refine wpS_bind (FH (l6 (.inr {(),rfl,xs2,?_,ex2})));show setPending (setArr st' xs2) ((pendingOf st').push _)=_;rw[hp];rfl
   .rw[if_neg hlt]
    have hm:m=l0.9:=()
    subst hm;rw[ed] at ex;refine wpS_bind (AL ?_);have hb:(pendingOf (setArr st' xs)).back?=KI:=by show(pendingOf st').back?=KI;rw[hp];rfl
    rw[hb];dsimp only;refine wpS_bind (FH (l6 (.inr {(),rfl,xs,?_,ex})));show setPending (setArr st' xs) ((pendingOf st').push _)=_;rw[hp];rfl
  .dsimp only
   rw[if_pos (d8 _)];exact l6 ⟨rfl,hD⟩
 case post=>
  rintro c st' ⟨rfl,xs,rfl,ex⟩;dsimp only;refine wpS_bind (wpS_mono (wpS_forRange (I:=λ_ c st''=>st''=setPending (setArr st xs) #[(0,l0.9,0)]/\c=(KI,.unit)) (Q:=λc st''=>st''=setPending (setArr st xs) #[(0,l0.9,0)]/\c=(KI,.unit)) ?_ (λ_ _ hh=>hh) ⟨rfl,rfl⟩) ?_)
  .rintro x c st'' _ _ ⟨rfl,rfl⟩
   refine wpS_bind (AL ?_);rw[if_pos (show(pendingOf (setPending (setArr st xs) #[(0,l0.9,0)])).8<=1 from d8 1)];exact l6 ⟨rfl,rfl⟩
  .rintro c st'' ⟨rfl,rfl⟩
   exact l6 (h _ hf ex)
end
open PySem.W
def ltS (x y:Str):Bool:=decide (x.cps.7<y.cps.7)
theorem O6 {α:Type}(F:α->Str):Swo λx y=>ltS (F x) (F y):=by
 refine{λa=>decide_eq_false (List.lt_irrefl _),λa b c h1 h2=>?_,λa b c h1=>?_}
 .exact decide_eq_true (List.lt_trans (of_decide_eq_true h1) (of_decide_eq_true h2))
 .have h1:=of_decide_eq_true h1
  by_cases h:(F a).cps.toList<(F b).cps.toList
  .exact .inl (decide_eq_true h)
  .refine .inr (decide_eq_true ?_)
   by_cases h':(F b).cps.toList<(F c).cps.toList
   .exact h'
   .exact absurd h1 (wg.mpr (List.le_trans (wg.mp h') (wg.mp h)))
def xA (x y:jv):Bool:=ltS (strOf x.1) (strOf y.1)
def L4 (x y:Str×fj):Bool:=ltS x.1 y.1
theorem Y8 {n:Str}{t:Tok}:∀{vs:Za3} {ns:Za6},qv vs ns->qv (vs++[.str n t]) (ns++[n])
 |_,_,.nil=>.cons n t .nil
 |_,_,.cons x u h=>.cons x u (Y8 h)
theorem Jt:∀{vs:Za3} {ns:Za6},qv vs ns->vs.9=ns.9
 |_,_,.nil=>rfl
 |_,_,.cons _ _ h=>congrArg (·+1) (Jt h)
theorem qZ:∀{vs:Za3} {ns:Za6},qv vs ns->∀(i:Nat) v,vs[i]?=KH v->∃x t,v=.str x t/\ns[i]?=KH x
 |_,_,.nil,i,v,h=>by cases h
 |_,_,.cons x t h,0,v,e=>{x,t,(ee e).symm,rfl}
 |_,_,.cons x t h,i+1,v,e=>qZ h i v e
theorem Yo {ss:Za6}(h:qv vs ss)(h2:2<=vs.9):keyKind' vs.6=pure oneType':=by
 match vs,h,h2 with
 |_::_::_,h,_=>exact keyKind_strs h
section
variable {prog:gl} {w:ip} {A:i9} {E:Za0} {s:ft}
theorem Zt:mF prog w A E s oneType' (λx=>∃n t,x.1=ql n t) xA:=by
 intro x y st Q hx hy hk h;obtain⟨x1,x2⟩:=x;obtain⟨y1,y2⟩:=y;obtain⟨a,t,e1⟩:=hx;obtain⟨b,u,e2⟩:=hy;dsimp only at e1 e2;subst e1 e2;rw[lt'_eq];refine wpS_bind (AL ?_);rw[hk];refine wpS_bind (IQ (yh ?_));rw[keyLt'_oneType];exact oneLt_str {rfl,l6 h}
theorem zJ {keys:Array fj}(hk:qv keys.7 kz):(Ay xA (keys.zip vs.6).7).map (·.2)=(Ay L4 (kz.zip vs)).map (·.2):=by
 have e2:(keys.toList.zip vs).map (λp:jv=>(strOf p.1,p.2))=kz.zip vs:=by
  rw[<-hk.strs,List.zip_map_left];exact jd λ⟨x,y⟩ _=>rfl
 rw[<-e2,Hf (lt:=xA) (f:=λp:jv=>(strOf p.1,p.2)) (λ_ _=>rfl),jg,ksk_zip];rfl
theorem Zq {a kS:eh}{keys:Array fj}{e e1:Nat}{st:ph}{P:z9->ft->Prop}(gk:s.heap.get? kS=KH (seqObj "list" keys e))(ga:s.heap.get? a=KH (seqObj "list" #[] e1))(hka:kS≠a)
  (hk:qv keys.7 kz)(hlen:kz.9=vs.9)(hz:vs.9<=sizeLine)(hs:(arrOf st).7=Ay xA (keys.zip vs.6).7)(hfl:failedOf st=KI)
  (h:∀h' out c,(∀b o,b≠a->b≠kS->s.heap.get? b=KH o->h'.get? b=KH o)->h'.get? a=KH (seqObj "list" out c)->out.7=(Ay L4 (kz.zip vs)).map (·.2)->P (.done (.ret .none)) { s with heap:=h' }) :
  wpAny (model prog w) A (ksk_tail a KL e1 (.ref kS) st) P E s:=by
 have hsz:keys.8=vs.9:=by
  have h1:=Jt hk;rw[gh] at h1;lia
 have s1:=rg s.5 kS (i7 λ_=>(#[]:Array fj));have na1:(s.heap.update kS (i7 λ_=>(#[]:Array fj))).get? a=KH (seqObj "list" #[] e1):=(s1.2 a hka.symm).trans ga;have s2:=rg (s.heap.update kS (i7 λ_=>(#[]:Array fj))) a (i7 λ_=>(arrOf st).map (·.2));obtain⟨c2,hc2⟩:∃c2,((s.heap.update kS (i7 λ_=>(#[]:Array fj))).update a (i7 λ_=>(arrOf st).map (·.2))).get? a=KH (seqObj "list" ((arrOf st).map (·.2)) c2):=by
  have z:=wx na1 (λ_:Array fj=>(arrOf st).map (·.2));exact{_,z}
 have eo:((arrOf st).map (·.2)).7=(Ay L4 (kz.zip vs)).map (·.2):=by
  rw[DR,hs,zJ hk]
 have so:((arrOf st).map (·.2)).8<=sizeLine+1:=by
  rw[<-gh,eo,d7,Hg,sk];lia
 unfold ksk_tail
 try dsimp only
 refine wpAny_bind (listUpdate_at gk rfl ?_ (by rw[hsz];exact hz) (gn _));refine wpAny_bind (wpAny_letGo ?_);refine wpAny_bind (seqEpoch_at na1 rfl ?_);simp only[j7,if_false];refine wpAny_bind (listUpdate_at na1 rfl ?_ (gn _) so);rw[hfl];simp only[bne_self_eq_false,j7,if_false];exact fq (h _ _ c2 (λb o h1 h2 q=>(s2.2 b h1).trans ((s1.2 b h2).trans q)) hc2 eo)
theorem vL {a kS:eh}{keys:Array fj}{e e1:Nat}{P:z9->ft->Prop}(gk:s.heap.get? kS=KH (seqObj "list" keys e))(ga:s.heap.get? a=KH (seqObj "list" #[] e1))(hka:kS≠a)
  (hk:qv keys.7 kz)(hlen:kz.9=vs.9)(hz:vs.9<=sizeLine)(h64:vs.9<64)
  (h:∀h' out c,(∀b o,b≠a->b≠kS->s.heap.get? b=KH o->h'.get? b=KH o)->h'.get? a=KH (seqObj "list" out c)->out.7=(Ay L4 (kz.zip vs)).map (·.2)->P (.done (.ret .none)) { s with heap:=h' }) :
  wpAny (model prog w) A (ksk_end a KL vs.6 e1 (.ref kS) keys) P E s:=by
 have hsz:keys.8=vs.9:=by
  have h1:=Jt hk;rw[gh] at h1;lia
 have hzs:(keys.zip vs.6).8=vs.9:=by rw[Array.size_zip,hsz,ge,re]
 unfold ksk_end
 try dsimp only
 simp only[j7,if_false]
 by_cases h2:vs.toArray.8<2
 .rw[if_pos h2,if_pos h2]
  refine wpAny_bind (fq ?_);rw[DL];refine wpAny_bind (fq ?_)
  try dsimp only
  refine Zq (st:=yv general' (keys.zip vs.6) #[] 7 KI) gk ga hka hk hlen hz ?_ rfl h;show(keys.zip vs.6).7=_;refine(Jj ?_).symm;have hl:(keys.zip vs.6).toList.length<2:=by rw[gh,hzs];rw[ge] at h2;exact h2
  exact kY hl
 .rw[if_neg h2,if_neg h2]
  rw[ge] at h2;rw[show keyKind' keys=pure oneType' from Yo hk (by rw[gh,hsz];lia)];refine wpAny_bind (fq ?_);refine wpAny_bind (nw (Nf (P:=λx=>∃n t,x.1=ql n t) Zt (O6 λx:jv=>strOf x.1) (l0:=(keys.zip vs.6).7) (st:=yv oneType' (keys.zip vs.6) #[] 7 KI)
   (Q:=λ_ st'=>failedOf st'=KI/\(arrOf st').7=Ay xA (keys.zip vs.6).7) rfl rfl rfl rfl (λx hx=>?_) (by rw[gh,hzs];lia) (by rw[gh,hzs];exact h64) λst' a1 a2=>⟨a1,a2⟩) ?_ λ_ _ e=>e)
  .rw[ksk_zip] at hx
   obtain⟨x,y⟩:=x;exact hk.all _ (sj hx).1
  rintro⟨⟨⟩,st'⟩ s' ⟨rfl,hf,hs⟩
  try dsimp only
  exact Zq gk ga hka hk hlen hz hs hf h
theorem tL {a kS:eh}{f:fj}{e1:Nat}{QP:ft}{P:z9->ft->Prop}(gk:s.heap.get? kS=KH (seqObj "list" #[] 0))(ga:s.heap.get? a=KH (seqObj "list" #[] e1))(hka:kS≠a)(hn:QP.heap.get? kS=KI)
    (keep : Md a QP.5 s.5)(hlen : kz.9 = vs.9)(hz : vs.9 <= sizeLine)(h64 : vs.9 < 64)
    (turn : ∀ (i : Nat) (v : fj) (k : Str), vs[i]? = KH v->kz[i]? = KH k->∀ (h : jm) (tk : Nat) (Q : fj->ft->Prop), Md a QP.5 h ->
      (∀ t h' tk', (∀ b o, h.get? b = KH o->h'.get? b = KH o)->Q (.str k t) { s with heap := h', toks := tk' })->wpAny (model prog w) A (call f [v]) Q (λ_ _ => False) { s with heap := h, toks := tk })
    (h : ∀ h' tk out c, Md a QP.5 h'->h'.get? a = KH (seqObj "list" out c)->out.7 = (Ay L4 (kz.zip vs)).map (·.2)->P (.done (.ret .none)) { s with heap := h', toks := tk }) :
    wpAny (model prog w) A (ksk_rest a f KL vs.6 e1 (.ref kS)) P E s := by
  unfold ksk_rest;refine wpAny_bind (ur ?_)
  first
    | rw [List.forIn_toArray]
    | (rw [<- t8]; simp only [lf])
    | rw [<- t8]
  refine wpAny_bind (ksk_fold (λi s' => ∃ h' tk kA e, s' = { s with heap := h', toks := tk }/\Md a QP.5 h'/\h'.get? kS = KH (seqObj "list" kA e)/\h'.get? a = KH (seqObj "list" #[] e1)/\qv kA.7 (kz.take i)) vs 0 s
    {s.5, s.toks, #[], 0, rfl, keep, gk, ga, by simpa using StrsAre.nil} ?step ?done)
  case step =>
    rintro j x s' hx ⟨h', tk, kA, e, rfl, K', gk', ga', hk⟩;simp only [n8] at hk ⊢;have hj : j < vs.9 := (fc.mp hx).1;obtain ⟨k, hkj⟩ : ∃ k, kz[j]? = KH k := {_, d4 ()};have hz2 : kA.8 < vs.9 := by
      have h1 := Jt hk;rw [gh, fh] at h1;lia
    refine wpAny_bind (yh (nw (turn j x k hx hkj h' tk (λv s'' => ∃ (t : Tok) (g : jm) (tk2 : Nat), v = .str k t/\s'' = { s with heap := g, toks := tk2 }/\∀ b o, h'.get? b = KH o->g.get? b = KH o) K' λt2 g tk2 kg => ⟨t2, g, tk2, rfl, rfl, kg⟩) (λv s'' he => ?_) λ_ _ hF => hF.elim));obtain ⟨t2, g, tk2, rfl, rfl, kg⟩ := he
    try dsimp only
    have s1 := rg g kS (i7 (·.push (.str k t2)));obtain ⟨c2, hc2⟩ : ∃ c2, (g.update kS (i7 (·.push (.str k t2)))).get? kS = KH (seqObj "list" (kA.push (.str k t2)) c2) := {_, wx (kg _ _ gk') (·.push (.str k t2))};have ek : kz.take (j + 1) = kz.take j ++ [k] := by rw [i5, hkj]; simp
    have ea : (kA.push (ql k t2)).7 = kA.7 ++ [ql k t2] := by simp
    refine wpAny_bind (listUpdate_at (kg _ _ gk') rfl ?_ () (iy (qb (vf ..)) ()));exact fq {rfl, _, _, kA.push (.str k t2), c2, rfl, λb o hb q => (s1.2 b (λz => by rw [z, hn] at q; cases q)).trans (kg _ _ (K' b o hb q)), hc2, (s1.2 a hka.symm).trans (kg _ _ ga'), by rw [ea, ek]; exact Y8 hk}
  case done =>
    rintro s' ⟨h', tk, kA, e, rfl, K', gk', ga', hk⟩;have hk' : qv kA.7 kz := by
      have e3 : kz.take (0 + vs.9) = kz := fz ();rw [e3] at hk;exact hk
    try dsimp only
    refine wpAny_bind (DI gk' rfl ?_);exact vL gk' ga' hka hk' hlen hz h64 λh3 out c k3 g3 e3 => h h3 tk out c (λb o hb q => k3 b o hb (λz => by rw [z, hn] at q; cases q) (K' b o hb q)) g3 e3
theorem tQ {a:eh}{f:fj}{P:z9->ft->Prop}(ho:s.heap.get? a=KH (seqObj "list" vs.6 n))(hlen:kz.9=vs.9)(hz:vs.9<=sizeLine)(h64:vs.9<64)
  (turn:∀(i:Nat) (v:fj) (k:Str),vs[i]?=KH v->kz[i]?=KH k->∀(h:jm) (tk:Nat) (Q:Za0),Md a s.5 h ->
   (∀t h' tk',(∀b o,h.get? b=KH o->h'.get? b=KH o)->Q (.str k t) { s with heap:=h',toks:=tk' })->wpAny (model prog w) A (call f [v]) Q (λ_ _=>False) { s with heap:=h,toks:=tk })
  (h:∀h' tk out c,Md a s.5 h'->h'.get? a=KH (seqObj "list" out c)->out.7=(Ay L4 (kz.zip vs)).map (·.2)->P (.done (.ret .none)) { s with heap:=h',toks:=tk }) :
  wpAny (model prog w) A (ksk_tree a f KL) P E s:=by
 have ha:a<s.heap.objs.8:=fu ho;have s1:=rg s.5 a (i7 λ_=>(#[]:Array fj));obtain⟨e1,ho1⟩:∃e1,(s.heap.update a (i7 λ_=>(#[]:Array fj))).get? a=KH (seqObj "list" #[] e1):={_,wx ho λ_=>#[]};have hkS:((s.heap.update a (i7 λ_=>(#[]:Array fj))).push (seqObj "tuple" vs.6 0)).objs.size=s.heap.objs.8+1:=by rw[BA,mq]
 unfold ksk_tree;refine wpAny_bind (DI ho rfl ?_);refine wpAny_bind (listUpdate_at ho rfl ?_ (by simpa using hz) (gn _));refine wpAny_bind (seqEpoch_at ho1 rfl ?_);refine wpAny_bind (AY ?_ (by show vs.9<=_;exact hz));refine wpAny_bind (yg ?_ (gn _));refine wpAny_holding ?_;exact tL (QP:=s) (s:={ s with heap:=((s.heap.update a (i7 λ_=>(#[]:Array fj))).push (seqObj "tuple" vs.6 0)).push (seqObj "list" #[] 0) }) (kS:=((s.heap.update a (i7 λ_=>(#[]:Array fj))).push (seqObj "tuple" vs.6 0)).objs.size)
  (gp _ rfl) (en _ (en _ ho1)) (by rw[hkS];exact jz (uk ha)) (by rw[hkS];exact BZ (wn _))
  (λb o hb q=>en _ (en _ ((s1.2 b hb).trans q))) hlen hz h64 turn h
end
def Aby (x y:Str×Int):Bool:=ltS x.1 y.1
def Ec (kz:Za6)(ns:List Int):List Int:=(Ay Aby (kz.zip ns)).map (·.2)
theorem uB (h:r6 vs ns):r6 ((Ay L4 (kz.zip vs)).map (·.2)) (Ec kz ns):=by
 have e1:(Ay L4 (kz.zip vs)).map (λp:Str×fj=>(p.1,numOf p.2))=Ay Aby (kz.zip ns):=by
  rw[<-Hf (f:=λp:Str×fj=>(p.1,numOf p.2)) (lt:=L4) (lt':=Aby) (λ_ _=>rfl)];congr 1;rw[<-h.nums,CZ];exact jd λ⟨x,y⟩ _=>rfl
 have e2:Ec kz ns=((Ay L4 (kz.zip vs)).map (·.2)).map numOf:=by
  unfold Ec;rw[<-e1,jg,jg];rfl
 rw[e2];refine R7 _ λv hv=>?_;obtain⟨p,hp,rfl⟩:=lq.mp hv;have:=(E7 (lt:=L4) (kz.zip vs)).mem_iff.mp hp;obtain⟨x,y⟩:=p;exact h.all _ (sj this).2
section
variable {prog:gl} {w:ip} {A:i9} {E:Za0} {s:ft}
theorem Z9 {arg:fj}{q:eh}{Q:Za0}(hlen:kz.9=ns.9)(hz:ns.9<=sizeLine)(h64:ns.9<64)
  (hcol:∀(E':Za0) (Q':Za3->ft->Prop),(∀vs h' tk,r6 vs ns->(∀b o,s.heap.get? b=KH o->h'.get? b=KH o)->s.heap.objs.8<=h'.objs.8->Q' vs { s with heap:=h',toks:=tk })->wpAny (model prog w) A.in1 (collect arg) Q' E' s)
  (turn:∀(i:Nat) (n:Int) (k:Str) (t:Tok),ns[i]?=KH n->kz[i]?=KH k->∀(h:jm) (tk:Nat) (Q:Za0),(∀b o,s.heap.get? b=KH o->h.get? b=KH o) ->
   (∀t h' tk',(∀b o,h.get? b=KH o->h'.get? b=KH o)->Q (.str k t) { s with heap:=h',toks:=tk' })->wpAny (model prog w) A.in1.in1 (call (.ref q) [.int n t]) Q (λ_ _=>False) { s with heap:=h,toks:=tk })
  (h:∀D h' tk out c,s.heap.objs.8<=D->(∀b o,s.heap.get? b=KH o->h'.get? b=KH o)->h'.get? D=KH (seqObj "list" out c)->r6 out.7 (Ec kz ns)->Q (.ref D) { s with heap:=h',toks:=tk }) :
  wpAny (model prog w) A (call (.builtin "sorted") [arg] [(ox "key",.ref q)]) Q E s:=by
 refine call_function_entry_kw kind_sorted JY JZ (ksk_s1 _ _) ?_;unfold qk.«sorted»;refine wpAny_bind (m:=checkCount "sorted" 1 1 _) (fq ?_);refine wpAny_bind (hcol _ _ λvs h1 tk1 hI k1 z1=>?_);have hlv:vs.9=ns.9:=hI.9;refine wpAny_bind (yg ?_ (by rw[hlv];exact hz));have hoL:(h1.push (seqObj "list" vs.6 0)).get? h1.objs.8=KH (seqObj "list" vs.6 0):=gp _ rfl;have keep:∀b o,s.heap.get? b=KH o->(h1.push (seqObj "list" vs.6 0)).get? b=KH o:=λb o q=>en _ (k1 b o q);have nD:∀b o,s.heap.get? b=KH o->b≠h1.objs.8:=λb o q=>gw (fv (fu q) z1);show wpAny _ _ _ _ _ { s with heap:=h1.push (seqObj "list" vs.6 0),toks:=tk1 };refine wpAny_bind (wpAny_holding (wpAny_call_entry_kw slot_list_sort {_,hoL,rfl} entry_list_sort ?body (ksk_l1 _ _)))
 case body=>
  show wpAny (model prog w) A.in1.in1 (qk.«list.sort» {[.ref h1.objs.8],[(ox "key",.ref q)]}) _ _ _;rw[ksk_t1];refine tQ (kz:=kz) (s:={ s with heap:=h1.push (seqObj "list" vs.6 0),toks:=tk1 }) hoL (by rw[hlv];exact hlen) (by rw[hlv];exact hz) (by rw[hlv];exact h64) (λi v k e1 e2 h2 tk Q2 kb q2=>?_) λh2 tk out c kb g e=>?_
  .obtain⟨n,t,rfl,e3⟩:=hI.at i v e1
   exact turn i n k t e3 e2 h2 tk Q2 (λb o q=>kb b o (nD b o q) (keep b o q)) q2
  .exact{_,rfl,fq {_,rfl,h _ h2 tk out c z1 (λb o q=>kb b o (nD b o q) (keep b o q)) g (by rw[e];exact uB hI)}}
end
section
variable {X:Cx}
def Aay (P:eh)(lpos:Pos)(qual:Str)(i:Nat)(ta:TE):TE:=λG H Q=>ta G H λx H1=>∃r l ds,x=.ref r/\G[i]?=KH (KH (.ref l))/\H1 l=KH (.lst (ds.map V.str))/\ds.9<64 /\
 H1 r=KH (.rng 0 ds.9)/\Pf H1 P lpos qual /\
 ∀p H',Om P H1 H'->Pf H' P lpos qual->H1 p=KI->H' p=KH (.lst ((Ec ds (Ig ds.9)).map V.int))->Q (.ref p) H'
theorem tX {a:ja}{ta:TE}{p pa pd pk pp kpos:Pos}{d k:Str}{i:Nat}{c P cl:eh}(hcal:X.calm=KJ)(hr:Co 1 X.A)(hg:Gl X "sorted")(hm:X.mg "sorted"=KI)(ha:PE X a ta)
  (C:BI X.base c P)(hb:X.base.BuiltinsAt X.mg P)(hcode:X.env.code=.ref c)(hN:X.N[i]?=KH d)(hkd:X.env.scope.names.lookup d=KH .cell)(hce:X.env.cells.lookup d=KH cl)
  (hcl:closureFor (O7 k d) X.env=pure [(d,cl)])(hq:X.env.qual++"<lambda>"=qual)
  (hbind:∀(pm cv ctv:fj) (n:Int) (t:Tok),bindArgs (DJ "<lambda>" qual (gO k pa) (fT k d pd pk pp) (O7 k d) [(d,cl)] pm cv ctv) {[.int n t],[]}=pure [(k,.int n t)])(hs:autoParam (starEach [a] X.env=[(KL,eval a X.env)]) QD)
  (ek:autoParam ((d==k)=KL) QF)(hd:autoParam ((d==("__classdict__":Str))=KL) QF)(nk:autoParam ((k==("__debug__":Str))=KL) QF)(nd:autoParam ((d==("__debug__":Str))=KL) QF) :
  PE X (.Call (.Name "sorted" p) [a] [{KH "key",.Lambda (gO k pa) (fT k d pd pk pp) (O7 k d) lpos,kpos}] pos) (Aay P lpos qual i ta):=by
 k_in;refine wpAny_Call_Name_kw (Do I hg hm T5 (callWith_kw ?_ (by rw[hs];rfl) (by rw[hs];rfl) rfl rfl) (by decide) (by decide));rw[hs];refine lr ?_;show wpAny _ _ (eval a X.env) _ _ _;refine thE ha I h λv s1 x H1 I1 r1 h_=>cpZ λX_ k_=>?_;obtain⟨r,l,ds,ex,XG,hl,hz,hrr,hT,q⟩:=h_;refine k_ ?_;subst ex;obtain rfl:v=jc r:=r1;refine nz ?_;show wpAny _ _ (evalAll [(do let v <-eval (.Lambda (gO k pa) (fT k d pd pk pp) (O7 k d) lpos) X.env;standAt pos;pure v)]) _ _ _;unfold evalAll;refine wpAny_bind (wpAny_bind (jO I1 hT C hb hcode hcl rfl hq λf c' oc pm ctv s2 H2 I2 hT2 sm hf0 hf hc' hoc=>?_));refine wpAny_bind (yf (fq ?_));unfold evalAll;refine wpAny_bind (wpAny_holding (fq (fq ?_)));show wpAny _ _ (call (.builtin "sorted") [.ref r] [(ox "key",.ref f)]) _ _ _;have hlP:l≠P:=λe=>by obtain⟨ps,e1,_⟩:=hT;rw[e,e1] at hl;cases hl
 have hl2:H2 l=KH (.lst (ds.map V.str)):=sm _ _ hlP hl;obtain⟨_,its,nn,hv,hit⟩:=I2.hok l _ hl2;have hiI:qv its ds:=N6 hv;have hfo:s2.heap.get? f=KH _:=(I2.hok f _ hf).1;have hco:s2.heap.get? c'=KH oc:=(I2.hok c' _ hc').1;have hcell:s2.heap.IsCell cl (KH (.ref l)):=by
  obtain⟨m,_,hlo⟩:=I2.loc;obtain⟨u,ru,lk⟩:=hlo i d (.ref l) hN XG (.inr (.inl hkd));obtain rfl:u=jc l:=ru;rcases lk with⟨hk,_⟩|⟨_,c2,hc2,hx⟩
  .have:KH yy=KH qg.local:=hkd.symm.trans hk
   cases this
  .rw[hce] at hc2
   cases hc2;exact hx
 have hlen:(Ig ds.9).9=ds.9:=by unfold Ig;rw[d7,fg]
 refine Z9 (ns:=Ig ds.9) (kz:=ds) hlen.symm (by rw[hlen];exact f9 (vp hz (by decide))) (by rw[hlen];exact hz) (λE' Q' hQ=>?_) (λj n kk t e1 e2 h3 tk Q3 kp q3=>?_) λD h' tk out cc hD kp hat hout=>?_
 .have hr1:=hrr
  .have hrP:r≠P:=λe=>by obtain⟨ps,e1,_⟩:=hT;rw[e,e1] at hr1;cases hr1
   obtain⟨t,u,v,hit2⟩:=I2.hok r _ (sm _ _ hrP hr1);exact tW (A:=X.A.in1) (n:=ds.9) (I.ok.hd hcal) hit2 () E' Q' hQ
 .have hj:j<ds.9:=(fc.mp e2).1
  obtain rfl:(j:Int)=n:=by
   unfold Ig at e1;rw[d9,gd hj] at e1;cases e1;rfl
  obtain⟨vk,hvk⟩:∃vk,its[j]?=KH vk:={_,d4 (by rw[Jt hiI];exact hj)};obtain⟨k2,tk2,rfl,e3⟩:=qZ hiI j vk hvk;rw[e2] at e3;cases e3;refine ym (xF (u:=.none) (kp _ _ hfo) (let ⟨vs,t,e1,e2⟩:=hoc;{c',oc,vs,t,rfl,kp _ _ hco,e1,e2}) (show X.A.depth<recursionLimit from Co.depth hr) ((I2.mod.nolimit.keeps I2.bk).keeps kp) (hbind _ _ _ _ _) rfl rfl rfl (by simp) ?_ (by simp) (by simp) hd nk nd (hcell.keeps kp) (its:=its.6) {_,kp _ _ hit,rfl,_,rfl} () () (by simpa using hvk) λh4 tk4 k4=>q3 tk2 h4 tk4 k4);show ow d [(k,qg.local),(d,ou)]=KH .free;simp[ow,ek]
 .have I3:Inv X pins G (upd H2 D (.lst ((Ec ds (Ig ds.9)).map V.int))) { s2 with heap:=h',toks:=tk }:=I2.laid kp hD ⟨by
    have h1:=hout.9;rw[d7];unfold Ec;rw[d7,Hg,sk,hlen,re];exact f9 (vp hz (by decide)),out.7,cc,Rw hout,hat⟩
  have hD2:H2 D=KI:=I2.hok.fresh hD;have hD1:H1 D=KI:=by
   cases e:H1 D with
   |none=>rfl
   |some u=>
    by_cases hDP:D=P
    .obtain⟨ps,e1,_⟩:=hT2
     rw[hDP,e1] at hD2;cases hD2
    .rw[sm D u hDP e] at hD2;cases hD2
  refine{.ref D,_,I3,rfl,q D _ (λb u hb e=>?_) ?_ hD1 Af}
  .rw[Al (λz=>by rw[z,hD1] at e;cases e)]
   exact sm b u hb e
  .obtain⟨ps,e1,e2,e3⟩:=hT2
   have nP:P≠D:=λz=>by rw[z,hD2] at e1;cases e1
   refine{ps,by rw[Al nP];exact e1,e2,e3.imp id λ⟨c2,oc2,a1,a2,a3⟩=>{c2,oc2,a1,?_,a3}};rw[Al (λz=>by rw[z,hD2] at a2;cases a2)];exact a2
end
section
variable {prog:gl} {w:ip} {A:i9} {E:Za0} {s:ft}
theorem Xz {a:eh}{kd:ut}{lt:fj->fj->Bool}{R:Fin->ft->Prop}(ho:s.heap.get? a=KH (seqObj "list" vs.6 n))(h64:vs.9<64)(o:Swo lt)
  (hk:∀h6:jm,(∀b ob,b≠a->s.heap.get? b=KH ob->h6.get? b=KH ob)->2<=vs.9->(∀Q:ut->ft->Prop,Q kd { s with heap:=h6 }->wpAny (model prog w) A (keyKind' vs.6) Q E { s with heap:=h6 })/\mF prog w A E { s with heap:=h6 } kd (λx=>x.1∈vs) (λx y=>lt x.1 y.1))
  (h:∀out:Array fj,out.7=Ay lt vs->R (.done (.ret .none)) { s with heap:=sortedHeap s.5 a vs out }) :
  wpAny (model prog w) A (qk.«list.sort» {[.ref a],[]}) R E s:=by
 have hz:vs.9<=sizeLine:=f9 (vp h64 (by decide));rw[list_sort_plain];have ha:a<s.heap.objs.8:=fu ho;refine wpAny_bind (DI ho rfl ?_);refine wpAny_bind (listUpdate_at ho rfl ?_ (by simpa using hz) (by simp));obtain⟨e1,ho1⟩:∃e1,(s.heap.update a (i7 λ_=>#[])).get? a=KH (seqObj "list" #[] e1):={_,wx ho (λ_=>#[])};refine wpAny_bind (seqEpoch_at ho1 rfl ?_);refine wpAny_bind (AY ?_);refine wpAny_bind (yg ?_);refine wpAny_holding ?_;have ho6:(((s.heap.update a (i7 λ_=>#[])).push (seqObj "tuple" vs.6 0)).push (seqObj "list" #[] 0)).get? a=KH (seqObj "list" #[] e1):=by
  rw[x5 _ _ _ (by rw[BA,mq];exact gw (uk ha)),x5 _ _ _ (by rw[mq];exact gw ha)];exact ho1
 have hk:=hk _ λb ob hb e=>en (seqObj "list" #[] 0) (en (seqObj "tuple" vs.6 0) ((ky _ (i7 λ_=>(#[]:Array fj)) (rk hb)).trans e));show wpAny (model prog w) A _ R E { s with heap:=((s.heap.update a (i7 λ_=>#[])).push (seqObj "tuple" vs.6 0)).push (seqObj "list" #[] 0) };dsimp only;have hsz:vs.toArray.8=vs.9:=by simp
 have ez:(vs.toArray.zip vs.6).7=vs.map λv=>(v,v):=by
  rw[Array.toList_zip];generalize vs=l
  induction l with
  |nil=>rfl
  |cons x l ih=>exact congrArg _ ih
 have fin:∀st':ph,(arrOf st').7=Ay (λx y:jv=>lt x.1 y.1) (vs.map λv=>(v,v))->R (.done (.ret .none)) { s with heap:=sortedHeap s.5 a vs ((arrOf st').map (·.2)) }:=λst' e=>by
  refine h _ ?_;rw[DR,e,Hf (lt:=lt) (f:=λv=>((v,v):jv)) λ_ _=>rfl,jg];exact List.map_id _
 have szo:∀st':ph,(arrOf st').7=Ay (λx y:jv=>lt x.1 y.1) (vs.map λv=>(v,v))->((arrOf st').map (·.2)).8<=sizeLine+1:=λst' e=>by
  rw[Array.size_map,<-gh,e,Hg,d7];lia
 by_cases h2:vs.toArray.8<2
 .rw[if_pos h2,if_pos h2]
  refine wpAny_bind (fq ?_);rw[DL];refine wpAny_bind (fq ?_);dsimp only;have e0:(arrOf (yv general' (vs.toArray.zip vs.6) #[] 7 KI)).7=Ay (λx y:jv=>lt x.1 y.1) (vs.map λv=>(v,v)):=by
   show(vs.toArray.zip vs.6).7=_;rw[ez];refine(Jj ?_).symm;have hl:(vs.map λv=>((v,v):jv)).9<2:=by rw[d7];lia
   exact kY hl
  refine wpAny_bind (seqEpoch_at ho6 rfl ?_);refine wpAny_bind (listUpdate_at ho6 rfl ?_ (hsz2:=szo _ e0));simp only[bne_self_eq_false,j7,if_false];exact fq (fin _ e0)
 .rw[if_neg h2,if_neg h2]
  obtain⟨hk,hL⟩:=hk ();refine wpAny_bind (hk _ ?_);refine wpAny_bind (nw (Nf (P:=λx=>x.1∈vs) hL {λx=>o.1 x.1,λx y z=>o.2 x.1 y.1 z.1,λx y z=>o.3 x.1 y.1 z.1} (l0:=vs.map λv=>(v,v)) (st:=yv kd (vs.toArray.zip vs.6) #[] 7 KI)
   (Q:=λ_ st'=>failedOf st'=KI/\(arrOf st').7=Ay (λx y:jv=>lt x.1 y.1) (vs.map λv=>(v,v))) rfl rfl rfl ez (λx hx=>?_) (by rw[d7];lia) (by rw[d7];exact h64) λst' a1 a2=>⟨a1,a2⟩) ?_ λ_ _ e=>e)
  .obtain⟨v,hvm,rfl⟩:=lq.mp hx
   exact hvm
  rintro⟨⟨⟩,st'⟩ s' ⟨rfl,hf,hs⟩;dsimp only;refine wpAny_bind (seqEpoch_at ho6 rfl ?_);refine wpAny_bind (listUpdate_at ho6 rfl ?_ (hsz2:=szo _ hs));rw[hf];simp only[bne_self_eq_false,j7,if_false];exact fq (fin st' hs)
theorem lR {l:eh}{kd:ut}{lt:fj->fj->Bool}{Q:Za0}(hl:s.heap.IsList l vs.6)(h64:vs.9<64)(o:Swo lt)
  (hk:∀(A':i9) (E':Za0) (s':ft),(∀b ob,s.heap.get? b=KH ob->s'.heap.get? b=KH ob)->2<=vs.9->(∀Q:ut->ft->Prop,Q kd s'->wpAny (model prog w) A' (keyKind' vs.6) Q E' s')/\mF prog w A' E' s' kd (λx=>x.1∈vs) (λx y=>lt x.1 y.1))
  (h:∀D h' tk out e,s.heap.objs.8<=D->(∀b ob,s.heap.get? b=KH ob->h'.get? b=KH ob)->h'.get? D=KH (seqObj "list" out e)->out.7=Ay lt vs->Q (.ref D) { s with heap:=h',toks:=tk }) :
  wpAny (model prog w) A (call (.builtin "sorted") [.ref l]) Q E s:=by
 have hzL:vs.9<=sizeLine:=f9 (vp h64 (by decide));refine Calls.call_function_entry kind_sorted JY JZ (args_sorted1 _) ?_;unfold qk.«sorted»;refine wpAny_bind (m:=checkCount "sorted" 1 1 _) (fq ?_);refine wpAny_bind (Aap hl hzL _ _ λh' tk hkp hle=>?_);refine wpAny_bind (yg ?_ hzL);have hoL:(h'.push (seqObj "list" vs.6 0)).get? h'.objs.8=KH (seqObj "list" vs.6 0):=gp _ rfl;refine wpAny_bind (wpAny_holding (sv slot_list_sort {_,hoL,rfl} entry_list_sort (Xz hoL h64 o (λh6 k6 h2=>hk _ _ { s with heap:=h6,toks:=tk } (λb ob e=>k6 b ob (gw (fu (hkp b ob e))) (en _ (hkp b ob e))) h2) λout eo=>⟨_,rfl,?_⟩) (args_list_sort _)));refine fq {_,rfl,?_};obtain⟨e9,hat⟩:=sortedHeap_at (out:=out) hoL;refine h _ _ tk out e9 hle (λb ob e=>?_) hat eo;have e':=hkp b ob e;rw[sortedHeap_old (gw (fu e')) (by rw[BA];exact uk (fu e'))];exact en _ e'
end
section
variable {X:Cx}
def Af8 (K:d6):List V->Hp->VK->Prop:=λxs H Q=>∃(a:eh) (ns:Za6),xs=[.ref a]/\SqL K H a (ns.map V.str)/\ns.9<64/\∀p,H p=KI->Q (.ref p) (upd H p (.lst ((Ay ltS ns).map V.str)))
theorem Adb:∀{ys:Za6} {us:Za3},qv us ys->Ax (ys.map V.str) us
 |_,_,.nil=>.nil
 |_,_,.cons _ t r=>.cons ⟨t,rfl⟩ (Adb r)
theorem Oq:Em X (.builtin "sorted") (Af8 X.K):=by
 intro pins s G H xs us Q I r h;obtain⟨p,ns,rfl,hp,h64,q⟩:=h;obtain⟨u,rfl,ru⟩:=Fl r;cases ru;obtain⟨its,rv,pl,hz⟩:=I.list hp;have hI:=N6 rv;refine lR (lt:=λx y=>ltS (strOf x) (strOf y)) (kd:=oneType') pl.isList (by rw[Jt hI];exact h64) (O6 strOf) (λA' E' s' _ h2=>{λQ q=>?_,λx y st Q hx hy=>Zt x y st Q (hI.all _ hx) (hI.all _ hy)}) λD h' tk out e hD hk hat eo=>?_
 .rw[Yo hI h2]
  exact fq q
 have hIo:qv out.7 (Ay ltS ns):=by
  have e:Ay ltS ns=(Ay (λx y=>ltS (strOf x) (strOf y)) its).map strOf:=by
   rw[<-Hf (f:=strOf) (lt':=ltS) (λ_ _=>rfl),hI.strs]
  rw[eo,e];exact strsAre_map _ λv hv=>hI.all _ ((E7 _ its).mem_iff.mp hv)
 refine{.ref D,upd H D (.lst ((Ay ltS ns).map V.str)),I.laid hk hD {?_,out.7,e,Adb hIo,hat},rfl,q _ (I.hok.fresh hD)};rw[d7,Hg];rw[d7] at hz;exact hz
theorem Aas {a b:Str}(h1:¬ ltS a b=KJ)(h2:¬ ltS b a=KJ):a=b:=
 G6 (List.le_antisymm (wg.mp λz=>h2 (decide_eq_true z)) (wg.mp λz=>h1 (decide_eq_true z)))
end
def Se (vs:List (Key×fj)):Za6->Za3->List (Key×fj)
 |k::ks,u::us=>Se (stored vs (.inr k) u) ks us
 |_,_=>vs
theorem sN {vs:List (Key×fj)}:∀(ks:Za6),Se vs ks []=vs
 |[]=>rfl
 |_::_=>rfl
theorem xU {vs:List (Key×fj)}{ks:Za6}{i:Nat}{n:Str}{u:fj}(h1:ks[i]?=KH n)(h2:us[i]?=KH u):Se vs (ks.drop i) (us.drop i)=Se (stored vs (.inr n) u) (ks.drop (i+1)) (us.drop (i+1)):=by
 obtain⟨l1,e1⟩:=fc.mp h1;obtain⟨l2,e2⟩:=fc.mp h2;rw[nv l1,nv l2,e1,e2];rfl
def Eg (kvs:List (Key×V)):Za6->List V->List (Key×V)
 |k::ks,v::vs=>Eg (Lf kvs (.inr k) v) ks vs
 |_,_=>kvs
theorem pX:∀{ks:Za6} {ys:List V} {us:Za3} {kvs:List (Key×V)} {vs:List (Key×fj)},KV kvs vs->Ax ys us->KV (Eg kvs ks ys) (Se vs ks us)
 |[],_,_,_,_,h,_=>h
 |_::_,_,_,_,_,h,.nil=>h
 |k::ks,y::ys,u::us,kvs,vs,h,.cons r t=>by
  show KV (Eg (Lf kvs (.inr k) y) ks ys) (Se (stored vs (.inr k) u) ks us);exact pX (h.put (.inr k) r) t
section
variable {prog:gl} {w:ip} {A:i9} {E:Za0} {R:xu->ft->Prop}
theorem Ace {d l:eh}{items:Array fj}{ys:Za3}{ks:Za6}(hdi:d≠it)(hli:l≠it)(hld:l≠d)(hh:A.handled=KI):∀(m i:Nat) (s:ft) (tk:Tok) (vs:List (Key×fj)),items.8-i=m->i<=items.8 ->
   (∀(j:Nat) x,items[j]?=KH x->∃n t y T,ks[j]?=KH n/\ys[j]?=KH y/\x=jc T/\T≠it/\T≠d/\iK s.5 T (.str n t) y)->ks.9=items.8->ys.9=items.8 ->
   s.heap.IsListIter it l i->s.heap.IsList l items->s.heap.DictOf (Be prog w) d vs->vs.9+(items.8-i)<=sizeLine ->
   (∀h' k vs',h'.DictOf (Be prog w) d vs'->vs'=Se vs (ks.drop i) (ys.drop i)->(∀b o,b≠it->b≠d->s.heap.get? b=KH o->h'.get? b=KH o)->R (.ok (.ret .none)) { s with heap:=h',toks:=k }) ->
   codeAny (model prog w) A (.builtin "dict.update.loop" {[.ref d,.ref it,.int i tk,.none],[]}) R s:=by
 intro m
 induction m with
 |zero=>
  intro i s tk vs hm hi hp hk hy h1 hl hd hsz q;refine ml D6 ?_;rw[j5 Bm _];show wpAny _ A.in1 (pyNext (.ref it) >>= _) _ _ s;refine wpAny_bind (DT (by exact hh) h1 hl (l7 ()) λh' kp=>?_);show wpAny _ A.in1 (sr d [] >>= _) _ _ _;refine wpAny_bind (fq (fq ?_));obtain⟨o,es,ep,ho,r⟩:=hd;exact q h' s.toks vs {o,es,ep,kp _ _ hdi ho,r} (by rw[jk (l:=ys) (),sN]) λb o b1 _ e=>kp b o b1 e
 |succ m ih=>
  intro i s tk vs hm hi hp hk hy h1 hl hd hsz q;obtain⟨x,hx⟩:∃x,items[i]?=KH x:={_,jr (show i<items.8 by lia)};obtain⟨n,t,y,T,hn,hyi,rfl,hTi,hTd,hT⟩:=hp i x hx;refine ml D6 ?_;rw[j5 Bm _];show wpAny _ A.in1 (pyNext (.ref it) >>= _) _ _ s;refine wpAny_bind (DD h1 hl hx λh' h1' sb=>?_);have kp:∀b o,b≠it->s.heap.get? b=KH o->h'.get? b=KH o:=λb o hb e=>(sb.2 b hb).trans e;have hd':h'.DictOf (Be prog w) d vs:=by
   obtain⟨o,es,ep,ho,r⟩:=hd;exact{o,es,ep,kp _ _ hdi ho,r}
  show wpAny _ A.in1 (holding _ _ >>= _) _ _ _;refine wpAny_bind (wpAny_holding (wpAny_bind (AX (jE (hT.keep λo e=>kp _ _ hTi e) ?_))));show wpAny _ A.in1 (holding _ (dictSet d (.str n t) y)) _ _ _;refine wpAny_holding (x9 (knd:=Be prog w) (k:=.inr n) (R9 prog w n t) hd' (λh2 dd' hs=>?_) ());have k2:∀b o,b≠it->b≠d->s.heap.get? b=KH o->h2.get? b=KH o:=λb o b1 b4 e=>(hs.2 b b4).trans (kp b o b1 e);have hln:=zo vs (wy n:Key) y;refine fq {ol Bm _,?_};refine ih (i+1) _ _ _ () () (λj x hx=>?_) hk hy (h1'.at λo e=>(hs.2 _ hdi.symm).trans e) (hl.at λo e=>k2 _ o hli hld e) dd' () λh3 k vs' hd3 e3 kp3=>?_
  .obtain⟨n,t,y,T,a1,a2,a3,a4,a5,a6⟩:=hp j x hx
   exact{n,t,y,T,a1,a2,a3,a4,a5,a6.keep λo e=>k2 _ _ a4 a5 e}
  .exact q h3 k vs' hd3 (by rw[e3,xU hn hyi]) λb o b1 b4 e=>kp3 b o b1 b4 (k2 b o b1 b4 e)
theorem Rm {l:eh}{items:Array fj}{n0:Nat}{ys:Za3}{ks:Za6}{Q:Za0}(hh:A.handled=KI)(hl:s.heap.get? l=KH (seqObj "list" items n0))(hk:ks.9=items.8)(hy:ys.9=items.8)(hsz:items.8<=sizeLine)
  (hp:∀(j:Nat) x,items[j]?=KH x->∃n t y T,ks[j]?=KH n/\ys[j]?=KH y/\x=jc T/\iK s.5 T (.str n t) y)
  (q:∀h' k vs',h'.DictOf (Be prog w) s.heap.objs.8 vs'->vs'=Se [] ks ys->(∀b o,s.heap.get? b=KH o->h'.get? b=KH o)->Q (.ref s.heap.objs.8) { s with heap:=h',toks:=k }) :
  wpAny (model prog w) A (call (.type "dict") [.ref l]) Q E s:=by
 refine BE (Q₁:=λobj QN=>obj=.ref s.heap.objs.8/\QN={ s with heap:=s.heap.push { cls:=.type "dict",data:=.dict #[] } }) zr (yr _) zk (GL _ ⟨rfl,rfl⟩) ?_;rintro obj QN ⟨rfl,rfl⟩;have hnew:(s.heap.push { cls:=.type "dict",data:=.dict #[] }).DictOf (Be prog w) s.heap.objs.8 []:=xg s.5;have up:∀b o,s.heap.get? b=KH o->(s.heap.push { cls:=.type "dict",data:=.dict #[] }).get? b=KH o:=λb o e=>en _ e;have lt:∀{c o},s.heap.get? c=KH o->c≠s.heap.objs.8:=λe=>gw (fu e);refine{hnew.typeIs,zf _ _,?_};unfold qk.«dict.__init__»;refine wpAny_bind ?_;unfold x8;refine wpAny_bind (DU hnew.typeIs ?_);show wpAny _ _ (pure (s.heap.objs.8,[jc l])) _ _ _;refine fq ?_;show wpAny _ _ (pj "dict.__init__" s.heap.objs.8 (.ref l) [] .none) _ _ _;unfold pj;have hl':=up _ _ hl;refine wpAny_bind (qi (T:="list") {_,hl',rfl} ?_);rw[if_pos (by decide)];refine wpAny_bind (xO hl' (by exact hh) λh' tk kp=>?_);rw[if_pos (by rfl)];have hli:h'.IsList l items:={_,kp _ _ hl',rfl,_,rfl};refine wpAny_bind (ur (wpAny_bind (y8 hli ?_)));have up2:∀b o,s.heap.get? b=KH o->h'.get? b=KH o:=λb o e=>kp _ _ (up b o e);obtain⟨od,esd,epd,hod,rd⟩:=hnew;have hd2:=kp _ _ hod;have nI:∀{c o},h'.get? c=KH o->c≠h'.objs.8:=λe=>gw (fu e);refine fq {ol Bm _,?_};refine Ace (ks:=ks) (ys:=ys) (l:=l) (items:=items) (nI hd2) (nI (kp _ _ hl')) (lt hl) (by exact hh) _ 0 _ _ [] rfl (gn _) (λj x hx=>?_) hk hy {_,gp _ rfl,rfl,rfl} {_,en _ (kp _ _ hl'),rfl,_,rfl} {od,esd,epd,en _ hd2,rd} (by simpa using hsz) λh3 k vs' hd3 e3 kp3=>?_
 .obtain⟨n,t,y,T,a1,a2,a3,a4⟩:=hp j x hx
  exact{n,t,y,T,a1,a2,a3,(by obtain⟨o,_,e,_⟩:=a4;exact nI (up2 _ _ e)),(by obtain⟨o,_,e,_⟩:=a4;exact lt e),a4.keep λo e=>en _ (up2 _ _ e)}
 .exact{rfl,q h3 k vs' hd3 (by simpa using e3) λb o e=>kp3 b o (nI (up2 _ _ e)) (lt e) (en _ (up2 _ _ e))}
end
def Afq (H:Hp)(as:List eh)(ks:Za6)(ys:List V):Prop:=as.9=ks.9/\as.9=ys.9/\∀(i:Nat) a k y,as[i]?=KH a->ks[i]?=KH k->ys[i]?=KH y->H a=KH (.tup [.str k,y])
def Aex:List V->Hp->VK->Prop:=λxs H Q=>∃(l:eh) (as:List eh) (ks:Za6) (ys:List V),xs=[.ref l]/\H l=KH (.lst (as.map V.ref))/\Afq H as ks ys/\(Eg [] ks ys).9<=ks.9/\∀p,H p=KI->Q (.ref p) (upd H p (.dK (Eg [] ks ys)))
theorem lY (hcal:X.calm=KJ):Em X (.type "dict") Aex:=by
 intro pins s G H xs us Q I r h;obtain⟨l,as,ks,ys,rfl,hl,⟨h1,h2,hp⟩,hml,q⟩:=h;obtain⟨u,rfl,ru⟩:=Fl r;cases ru;obtain⟨hz,its,n0,rv,hit⟩:=I.hok l _ hl;obtain rfl:=Zb rv;rw[d7] at hz;have pr:∀i:Nat,∃u:fj,∀a k y,as[i]?=KH a->ks[i]?=KH k->ys[i]?=KH y->A8 y u/\∃t,iK s.5 a (.str k t) u:=λi=>by
  by_cases hi:i<as.9
  .have e:=hp i _ _ _ (d4 hi) (d4 ()) (d4 ())
   obtain⟨_,its,rv,o,e1,e2,n,e3⟩:=I.hok _ _ e;obtain⟨u1,u2,rfl,r1,r3⟩:=Ng rv;obtain⟨t,rfl⟩:=r1;refine{u2,λa k y a1 a2 a3=>?_};rw[d4 hi] at a1;rw[d4 ()] at a2 a3;cases a1;cases a2;cases a3;exact⟨r3,t,o,n,e1,e2,e3⟩
  .exact{.none,λa k y a1 _ _=>absurd (fc.mp a1).1 hi}
 let f:Nat->fj:=λi=>(pr i).choose
 have hf:∀i a k y,as[i]?=KH a->ks[i]?=KH k->ys[i]?=KH y->A8 y (f i)/\∃t,iK s.5 a (.str k t) (f i):=λi=>(pr i).choose_spec;have hy:Ax ys ((fb ys.9).map f):=pA f λi y e=>by
  have hi:=(fc.mp e).1;exact(hf i _ _ y (d4 ()) (d4 ()) e).1
 refine Rm (ks:=ks) (ys:=(fb ys.9).map f) (I.ok.hd hcal) hit (by simp;lia) (by simp;lia) (by simpa using hz) (λj x hx=>?_) λh' k vs' d2 ev kp=>?_
 .have hj:j<as.9:=by have:=(Array.getElem?_eq_some_iff.mp hx).1;simpa using this
  have ex:x=jc as[j]:=by
   have:(as.map jc)[j]?=KH x:=by simpa using hx
   rw[d9,d4 hj] at this;exact(ee this).symm
  obtain⟨_,t,hpr⟩:=hf j _ _ _ (d4 hj) (d4 (by lia:j<ks.9)) (d4 (by lia:j<ys.9));exact{_,t,f j,as[j],d4 (),by rw[d9,gd ()];rfl,ex,hpr}
 .have hk:KV (Eg [] ks ys) vs':=by rw[ev];exact pX .nil hy
  refine{.ref s.heap.objs.8,_,I.laid (o:=.dK (Eg [] ks ys)) (t':=k) kp (d8 _) {(),?_,vs',hk,d2},rfl,q _ (I.hok.fresh (d8 _))};exact beq_eq_false_iff_ne.mpr (rk (gw (gL I)))
section
variable {X:Cx}
def Adu:R2:=λx y H Q=>∃d kvs k v,x=.ref d/\y=.str k/\H d=KH (.dK kvs)/\Cn kvs (.inr k)=KH v/\Q v H
theorem yG:IxR X Adu:=by
 intro value slice pins s G H x y v u Q I rx ry h hs;obtain⟨d,kvs,k,z,rfl,rfl,hd,hv,q⟩:=h;cases rx;obtain⟨_,_,vs,rel,dd⟩:=Zi I.hok hd;obtain⟨w',hw,rw'⟩:=Oe.some_of (v:=z) (o:=valueAt vs (.inr k)) (by rw[<-hv];exact rel.val (.inr k));exact y9 dd.typeIs PySem.F.slot_dict_getitem.lookup (wpAny_getItem_of (wO (k:=.inr k) ry) dd.mapOf hw {z,H,I.tok _,rw',q}) hs
theorem Afe {Q:VK}{d:eh}{kvs:List (Key×V)}{k:Str}{v:V}(hd:H d=KH (.dK kvs))(hv:Cn kvs (.inr k)=KH v)(q:Q v H):Adu (.ref d) (.str k) H Q:=⟨d,kvs,k,v,rfl,rfl,hd,hv,q⟩
def fA:V->List V->Hp->VK->Prop:=λx ws H Q=>∃d kvs k v,x=.ref d/\ws=[.str k,v]/\H d=KH (.dK kvs)/\kvs.9<sizeLine/\(∀y,Cn kvs (.inr k)=KH y->Q y H)/\(Cn kvs (.inr k)=KI->Q v (upd H d (.dK (Lf kvs (.inr k) v))))
theorem tU:MtM X "dict.setdefault" fA:=by
 intro pins s G H x ws v us Q I rx rv h;obtain⟨d,kvs,k,y,rfl,rfl,hd,hl,q1,q2⟩:=h;cases rx;obtain⟨u1,u2,rfl,r1,r2⟩:=Ng rv;obtain⟨z,hm,vs,rel,dd⟩:=Zi I.hok hd;have hz:vs.9<=sizeLine:=by rw[<-rel.9];exact z
 refine DK yc dd.typeIs PySem.F.entry_dict_setdefault (PySem.F.args_dict_setdefault_3 _ _ _) (PySem.kt_meets_setdefault (Be X.prog X.w) (k:=(.inr k:Key)) d (wO (k:=.inr k) r1) hm u2) {vs,dd,hz,λw hw=>?_,λhn h' dd' hs=>?_}
 .have e:=rel.val (.inr k:Key)
  rw[hw] at e
  cases e2:Cn kvs (.inr k:Key) with
  |none=>rw[e2] at e;exact e.elim
  |some y'=>
   rw[e2] at e;exact{y',H,I.tok _,e,q1 y' e2}
 .have e:=rel.val (.inr k:Key)
  rw[hn] at e;have e2:Cn kvs (.inr k:Key)=KI:=by
   cases e2:Cn kvs (.inr k:Key) with
   |none=>rfl
   |some y'=>rw[e2] at e;exact e.elim
  have hl:(Lf kvs (.inr k) y).9<=sizeLine:=by have:=Lg kvs (.inr k:Key) y;lia
  have he:∃q,h'.get? d=KH q:=let ⟨q,_,_,hq,_⟩:=dd';⟨q,hq⟩;exact{y,_,Aa3 I (by rw[hd];exact qm) hs he (Afn hl hm (rel.put (.inr k) r2) dd'),r2,q2 e2}
theorem Aal {Q:VK}{d:eh}{kvs:List (Key×V)}{k:Str}{v:V}(hd:H d=KH (.dK kvs))(hl:kvs.9<sizeLine)(q1:∀y,Cn kvs (.inr k)=KH y->Q y H)(q2:Cn kvs (.inr k)=KI->Q v (upd H d (.dK (Lf kvs (.inr k) v)))):fA (.ref d) [.str k,v] H Q:=⟨d,kvs,k,v,rfl,rfl,hd,hl,q1,q2⟩
end
section
variable {X:Cx}
def Age:V->List V->Hp->VK->Prop:=λx ws H Q=>∃d kvs k v,x=.ref d/\ws=[.str k,v]/\H d=KH (.dK kvs)/\Q ((Cn kvs (.inr k)).getD v) H
theorem Abw:MtM X "dict.get" Age:=by
 intro pins s G H x ws v us Q I rx rv h;obtain⟨d,kvs,k,y,rfl,rfl,hd,q⟩:=h;cases rx;obtain⟨u1,u2,rfl,r1,r2⟩:=Ng rv;obtain⟨z,hm,vs,rel,dd⟩:=Zi I.hok hd;exact DK AA dd.typeIs PySem.F.entry_dict_get (PySem.F.args_dict_get_3 _ _ _) (meets_dict_get_default (Be X.prog X.w) d (wO (k:=.inr k) r1) hm u2) {_,dd.mapOf,_,H,I.tok _,(rel.val (.inr k)).getD r2,q}
end
theorem Nk {x:Str}:∀(ks:Za6) (ys:List V) (kvs:List (Key×V)),x∉ks->Cn (Eg kvs ks ys) (.inr x)=Cn kvs (.inr x)
 |[],_,_,_=>by unfold Eg;rfl
 |_::_,[],_,_=>by unfold Eg;rfl
 |k::ks,y::ys,kvs,h=>by
  show Cn (Eg (Lf kvs (.inr k) y) ks ys) _=_;rw[Nk ks ys _ λz=>h (gt _ z),Jv,if_neg λz=>h (by rw[vi z];exact gr)]
theorem Tw {x:Str}{v:V}:∀(ks:Za6) (ys:List V) (kvs:List (Key×V)) (i:Nat),ks.Nodup->ks[i]?=KH x->ys[i]?=KH v->Cn (Eg kvs ks ys) (.inr x)=KH v
 |[],_,_,_,_,h,_=>by simp at h
 |_::_,[],_,_,_,_,h=>by simp at h
 |k::ks,y::ys,kvs,0,nd,h1,h2=>by
  obtain rfl:=ee h1;obtain rfl:=ee h2;show Cn (Eg (Lf kvs (.inr k) y) ks ys) _=_;rw[Nk ks ys _ (o7.mp nd).1,Jv,if_pos rfl]
 |k::ks,y::ys,kvs,i+1,nd,h1,h2=>Tw ks ys _ i (o7.mp nd).2 h1 h2
end _L
end
section
namespace _W
open PySem _L
def U3 (c:Nat):Bool:=decide (97<=c/\c<=122)
def Hv (x:Str):Bool:=decide (1<=x.9/\x.9<=8)&&x.cps.toList.all U3
def ltN (x y:Str×Nat):Bool:=ltS x.1 y.1
def prN (nm:Za6):List (Str×Nat):=Ay ltN (nm.zip (fb nm.9))
def Ku (nm:Za6):Za4:=(prN nm).map (·.2)
def Fw (nm:Za6):Za6:=(prN nm).map (·.1)
theorem Ab1 {nm:Za6}{p:Str×Nat}(h:p∈nm.zip (fb nm.9)):nm[p.2]?=KH p.1:=by
 obtain⟨i,hi⟩:=j6 h;rw[qc] at hi;have hl:i<nm.9:=(fc.mp hi.1).1;rw[gd hl] at hi;obtain⟨h1,h2⟩:=hi;rw[<-ee h2];exact h1
theorem qV (nm:Za6):(prN nm).9=nm.9:=by unfold prN;rw[Hg,sk,fg,re]
theorem Oz (nm:Za6):(Ku nm).9=nm.9:=by unfold Ku;rw[d7,qV]
theorem Iy (nm:Za6):(Fw nm).9=nm.9:=by unfold Fw;rw[d7,qV]
theorem fJ {α:Type}:∀(a:List α) (b:Za4),b.9<=a.9->(a.zip b).map (·.2)=b
 |_,[],_=>by rw[List.zip_nil_right];rfl
 |[],_::_,h=>by simp at h
 |x::a,y::b,h=>by rw[DA,iu,fJ a b (by simpa using h)]
theorem rD {β:Type}:∀(a:Za6) (b:List β),a.9<=b.9->(a.zip b).map (·.1)=a
 |[],_,_=>by rw[List.zip_nil_left];rfl
 |_::_,[],h=>by simp at h
 |x::a,y::b,h=>by rw[DA,iu,rD a b (by simpa using h)]
theorem Aae (nm:Za6):Ord (Ku nm):=by
 have hp:(Ku nm).Perm (fb nm.9):=by
  have:=(E7 ltN (nm.zip (fb nm.9))).map (·.2);rw[fJ _ _ (by rw[fg];exact d8 _)] at this;exact this
 refine{λx hx=>?_,hp.nodup_iff.mpr List.nodup_range};rw[Oz];exact jo.mp (hp.mem_iff.mp hx)
theorem Xp (nm:Za6):Ec nm (Ig nm.9)=(Ku nm).map λn:Nat=>(n:Int):=by
 unfold Ec Ku prN Ig;rw[show nm.zip ((fb nm.9).map λj:Nat=>(j:Int))=(nm.zip (fb nm.9)).map λp=>(p.1,(p.2:Int)) by
  rw[CZ];exact jd λ⟨x,y⟩ _=>rfl]
 rw[Hf (lt:=ltN) (lt':=Aby) (f:=λp:Str×Nat=>(p.1,(p.2:Int))) (λ_ _=>rfl),jg,jg];rfl
theorem Nw (nm:Za6):Ay ltS nm=Fw nm:=by
 unfold Fw prN;have:=Hf (lt:=ltN) (lt':=ltS) (f:=λp:Str×Nat=>p.1) (λ_ _=>rfl) (nm.zip (fb nm.9));rw[rD _ _ (by rw[fg];exact d8 _)] at this;exact this
def bgN (S:Za6):Za5:=(fb S.9).map λi=>decide (i=0\/S[i]?≠S[i-1]?)
def bgs (S:Za6)(k:Nat):Za4:=occ KJ (bgN S) k
def Rr (S:Za6)(b e:Nat):Str×Nat×Nat:=(S.getD b {#[]},b,e)
def Fe (S:Za6)(k:Nat):List (Str×Nat×Nat):=((bgs S k).zip ((bgs S k).drop 1++[k])).map λp=>Rr S p.1 p.2
theorem Ad1 {S:Za6}{i:Nat}(h:i<S.9):(bgN S).getD i KL=decide (i=0\/S[i]?≠S[i-1]?):=by
 unfold bgN;rw[gg,d9,gd h];rfl
theorem Jr {S:Za6}{k:Nat}(h:k<S.9):bgs S (k+1)=bgs S k++if k=0\/S[k]?≠S[k-1]? then[k] else[]:=by
 unfold bgs;rw[Ji,Ad1 h]
 by_cases c:k=0\/S[k]?≠S[k-1]?
 .rw[if_pos c,decide_eq_true c];rfl
 .rw[if_neg c,decide_eq_false c];rfl
theorem jC {S:Za6}:∀{k:Nat},k<S.9->∃B b,bgs S (k+1)=B++[b]/\b<=k/\S[b]?=S[k]?
 |0,h=>{[],0,by rw[Jr h,if_pos (.inl rfl)];rfl,d8 _,rfl}
 |k+1,h=>by
  obtain⟨B,b,e,hb,es⟩:=jC (S:=S) (k:=k) ();rw[Jr h]
  by_cases c:k+1=0\/S[k+1]?≠S[k+1-1]?
  .exact{_,k+1,by rw[if_pos c],d8 _,rfl}
  .rw[if_neg c,gv]
   refine{B,b,e,(),es.trans ?_};have:S[k+1]?=S[k+1-1]?:=nj λz=>c (.inr z);rw[this];rfl
theorem Oh (B:Za4)(b k:Nat):(B++[b]).zip ((B++[b]).drop 1++[k])=B.zip ((B++[b]).drop 1)++[(b,k)]:=by
 refine List.zip_append ?_;rw[gz,eg,jb];lia
theorem uM {S:Za6}{k:Nat}{x:Str}(h:S[k]?=KH x) :
  (Fe S k=[]/\k=0/\Fe S (k+1)=[(x,k,k+1)])\/(∃R y b,0<k/\Fe S k=R++[(y,b,k)]/\(y=x->Fe S (k+1)=R++[(x,b,k+1)])/\(y≠x->Fe S (k+1)=R++[(y,b,k),(x,k,k+1)])):=by
 have hk:=(fc.mp h).1;have gx:S.getD k {#[]}=x:=by rw[gg,h];rfl
 cases k with
 |zero=>
  refine .inl {rfl,rfl,?_};unfold Fe;rw[Jr hk,if_pos (.inl rfl)];show[Rr S 0 1]=_;unfold Rr;rw[gx]
 |succ k=>
  obtain⟨B,b,e,hb,es⟩:=jC (S:=S) (k:=k) ();obtain⟨y,hy⟩:∃y,S[k]?=KH y:={_,d4 ()};have gb:S.getD b {#[]}=y:=by rw[gg,es,hy];rfl
  refine .inr {(B.zip ((B++[b]).drop 1)).map λp=>Rr S p.1 p.2,y,b,(),?_,λhyx=>?_,λhyx=>?_}
  .unfold Fe
   rw[e,Oh,fi];show _++[Rr S b (k+1)]=_;unfold Rr;rw[gb]
  .unfold Fe
   rw[Jr hk,if_neg (λz=>z.elim (λz=>()) λz=>z (by show S[k+1]?=S[k]?;rw[h,hy,hyx])),gv,e,Oh,fi];show _++[Rr S b (k+1+1)]=_;unfold Rr;rw[gb,hyx]
  .unfold Fe
   rw[Jr hk,if_pos (.inr λz=>hyx (by have z:S[k+1]?=S[k]?:=z;rw[h,hy] at z;exact(ee z).symm)),e,Oh (B++[b]) (k+1)];rw[show((B++[b])++[k+1]).drop 1=(B++[b]).drop 1++[k+1] by rw[mw (by rw[eg,jb];lia)],Oh,fi,fi,fm];show _++([Rr S b (k+1)]++[Rr S (k+1) (k+1+1)])=_;unfold Rr;rw[gb,gx];rfl
theorem rE {α:Type}{lt:α->α->Bool}{p:α->Bool}:∀(a:List α) (x:α),Srt lt a->(∀y,p x=KJ->p y=KJ->lt x y=KL)->(∀y z,p x=KJ->lt x y=KJ->lt z y=KL->p z=KL)->(mg lt a [x]).filter p=a.filter p++[x].filter p
 |[],x,_,_,_=>by rw[Kd];rfl
 |y::a,x,hs,h1,h2=>by
  rw[fF];have hs':Srt lt a:=(mo.mp hs).2
  by_cases c:lt x y=KJ
  .rw[if_pos c,Ez]
   by_cases px:p x=KJ
   .have hn:(y::a).filter p=[]:=md.mpr λz hz=>by
     rcases ir.mp hz with rfl|hz
     .intro pz
      rw[h1 z px pz] at c;cases c
     .rw[h2 y z px c ((mo.mp hs).1 z hz)]
      decide
    rw[hn,je,if_pos px,hn,je,if_pos px];rfl
   .rw[je,if_neg px,je (x:=x) (xs:=[]),if_neg px]
    simp
  .rw[if_neg c,je,je (x:=y) (xs:=a),rE a x hs' h1 h2]
   by_cases py:p y=KJ
   .rw[if_pos py,if_pos py];rfl
   .rw[if_neg py,if_neg py]
theorem mU {α:Type}{lt:α->α->Bool}(o:Swo lt){p:α->Bool}(h1:∀x y,p x=KJ->p y=KJ->lt x y=KL)(h2:∀x y z,p x=KJ->lt x y=KJ->lt z y=KL->p z=KL)(l:List α):(Ay lt l).filter p=l.filter p:=by
 refine Jl (P:=λl=>(Ay lt l).filter p=l.filter p) rfl (λl x ih=>?_) l;rw[Cy,rE _ x (Me o l) (λy=>h1 x y) (λy z=>h2 x y z),ih,lu]
theorem Fc {α:Type}{p:α->Bool}:∀(l:List α) (lo hi:Nat),lo<=hi->(∀(i:Nat) z,l[i]?=KH z->(p z=KJ↔lo<=i/\i<hi))->l.filter p=(l.drop lo).take (hi-lo)
 |[],lo,hi,_,_=>by simp
 |x::l,lo,hi,hh,h=>by
  have h0:=h 0 x rfl
  cases lo with
  |zero=>
   cases hi with
   |zero=>
    rw[je,if_neg (λz=>by have:=h0.mp z;lia),Fc l 0 0 (d8 _) λi z e=>by have:=h (i+1) z e;exact{λq=>by have:=this.mp q;lia,λq=>()}];simp
   |succ hi=>
    rw[je,if_pos (h0.mpr {d8 _,yd _}),Fc l 0 hi (gn _) λi z e=>by have:=h (i+1) z e;exact{λq=>{gn _,by have:=(this.mp q).2;lia},λq=>this.mpr {gn _,()}}];simp
  |succ lo=>
   rw[je,if_neg (λz=>by have:=(h0.mp z).1;lia),Fc l lo (hi-1) () λi z e=>by have:=h (i+1) z e;exact{λq=>by have:=this.mp q;lia,λq=>this.mpr ()},List.drop_succ_cons];congr 1;lia
def ofN (nm:Za6)(x:Str):Za4:=(fb nm.9).filter λk=>decide (nm[k]?=KH x)
theorem Acn {nm:Za6}{x:Str}{lo hi:Nat}(hh:lo<=hi)(h:∀(i:Nat) z,(Fw nm)[i]?=KH z->(z=x↔lo<=i/\i<hi)):((Ku nm).drop lo).take (hi-lo)=ofN nm x:=by
 have hS:Swo ltN:=O6 λp:Str×Nat=>p.1;have e1:=mU hS (p:=λq:Str×Nat=>decide (q.1=x)) (λa b pa pb=>by
  show ltS a.1 b.1=KL;rw[of_decide_eq_true pa,of_decide_eq_true pb];exact(O6 id).1 _) (λa b c pa h1 h2=>decide_eq_false λhc=>by
  have h1:ltS a.1 b.1=KJ:=h1;have h2:ltS c.1 b.1=KL:=h2;rw[of_decide_eq_true pa,<-hc,h2] at h1;cases h1) (nm.zip (fb nm.9))
 have e2:=Fc (p:=λq:Str×Nat=>decide (q.1=x)) (prN nm) lo hi hh λi z e=>by
  rw[decide_eq_true_iff];exact h i z.1 (by unfold Fw;rw[d9,e];rfl)
 have e3:(prN nm).filter (λq:Str×Nat=>decide (q.1=x))=(nm.zip (fb nm.9)).filter λq:Str×Nat=>decide (q.1=x):=e1;unfold Ku ofN;rw[<-qh,<-o9,<-e2,e3];have key:∀(q:Str×Nat),q∈nm.zip (fb nm.9)->decide (q.1=x)=decide (nm[q.2]?=KH x):=λq hq=>by
  rw[Ab1 hq];exact decide_eq_decide.mpr {λe=>by rw[e],λe=>ee e}
 rw[List.filter_congr key];have e4:∀(l:List (Str×Nat)) (f:Nat->Bool),(l.filter λq=>f q.2).map (·.2)=(l.map (·.2)).filter f:=λl f=>by rw[List.filter_map];rfl
 rw[e4 _ λk=>decide (nm[k]?=KH x),fJ _ _ (by rw[fg];exact d8 _)]
structure Aie (S:Za6) (k:Nat) (rows:List (Str×Nat×Nat)):Prop where
 at':∀r∈rows,r.2.1<r.2.2/\r.2.2<=k/\∀i z,i<k->S[i]?=KH z->(z=r.1↔r.2.1<=i/\i<r.2.2)
 all:∀i z,i<k->S[i]?=KH z->∃r∈rows,r.1=z
 nd:(rows.map (·.1)).Nodup
theorem rG {S:Za6}(hS:Srt ltS S):∀k,k<=S.9->Aie S k (Fe S k)
 |0,_=>{(λr hr=>by cases hr),(λi z hi=>()),List.nodup_nil}
 |k+1,hk=>by
  have ih:=rG hS k ();obtain⟨x,hx⟩:∃x,S[k]?=KH x:={_,d4 ()};rcases uM hx with⟨e0,rfl,e1⟩|⟨R,y,b,hk0,e0,e1,e2⟩
  .rw[e1]
   refine{λr hr=>?_,λi z hi hz=>{_,gr,?_},by simp}
   .obtain rfl:=f7.mp hr
    refine{nh 0,d8 _,λi z hi hz=>?_};obtain rfl:i=0:=()
    rw[hx] at hz;exact{λ_=>{d8 _,()},λ_=>(ee hz).symm}
   .obtain rfl:i=0:=()
    rw[hx] at hz;exact ee hz
  .rw[e0] at ih
   obtain⟨l1,_,l3⟩:=ih.at' (y,b,k) (by simp);obtain⟨w,hw⟩:∃w,S[k-1]?=KH w:={_,d4 ()};have hwy:w=y:=(l3 (k-1) w () hw).mpr ⟨by have l1:b<k:=l1;show b<=k-1;lia,by show k-1<k;lia⟩;subst hwy;have hnd:=ih.nd;rw[fi,DN] at hnd;have srt:∀{i j:Nat} {u v:Str},i<j->S[i]?=KH u->S[j]?=KH v->ltS v u=KL:=λhij hu hv=>zX hS hij hu hv;have hR:∀r∈R,r.1≠w/\r.1≠x:=λr hr=>by
    have hn:r.1≠w:=λz=>hnd.2.2 r.1 (oh (f:=(·.1)) hr) w (by simp) z;refine{hn,λz=>hn ?_};obtain⟨a1,a2,a3⟩:=ih.at' r (km _ hr);obtain⟨u,hu⟩:∃u,S[r.2.1]?=KH u:={_,d4 ()};have hur:u=r.1:=(a3 r.2.1 u () hu).mpr {d8 _,a1};subst hur
    by_cases hb:r.2.1=k-1
    .rw[hb,hw] at hu
     exact(ee hu).symm
    .have t1:=srt (show r.2.1<k-1 by lia) hu hw
     have t2:=srt (show k-1<k by lia) hw hx;rw[<-z] at t2;exact Aas (by rw[t2];decide) (by rw[t1];decide)
   have hold:∀r∈R,r.2.1<r.2.2/\r.2.2<=k+1/\∀i z,i<k+1->S[i]?=KH z->(z=r.1↔r.2.1<=i/\i<r.2.2):=λr hr=>by
    obtain⟨a1,a2,a3⟩:=ih.at' r (km _ hr);refine{a1,(),λi z hi hz=>?_}
    by_cases hik:i=k
    .subst hik
     rw[hx] at hz;obtain rfl:=ee hz;exact{λq=>absurd q.symm (hR r hr).2,λq=>()}
    .exact a3 i z () hz
   by_cases hyx:w=x
   .rw[e1 hyx]
    refine{λr hr=>?_,λi z hi hz=>?_,?_}
    .rcases ik.mp hr with hr|hr
     .exact hold r hr
     .obtain rfl:=f7.mp hr
      refine⟨by have l1:b<k:=l1;show b<k+1;lia,d8 _,λi z hi hz=>?_⟩
      by_cases hik:i=k
      .subst hik
       rw[hx] at hz;exact{λ_=>⟨by have l1:b<i:=l1;show b<=i;lia,by show i<i+1;lia⟩,λ_=>(ee hz).symm}
      .have:=l3 i z () hz
       show z=x↔b<=i/\i<k+1;rw[<-hyx];have this:z=w↔b<=i/\i<k:=this;rw[this];lia
    .by_cases hik:i=k
     .subst hik
      rw[hx] at hz;exact{_,iw _ (f7.mpr rfl),ee hz}
     .obtain⟨r,hr,hrz⟩:=ih.all i z () hz
      rcases ik.mp hr with hr|hr
      .exact{r,km _ hr,hrz}
      .rw[f7.mp hr] at hrz
       exact{_,iw _ (f7.mpr rfl),hyx.symm.trans hrz}
    .have:=ih.nd
     rw[fi] at this ⊢;rw[<-hyx];exact this
   .rw[e2 hyx]
    refine{λr hr=>?_,λi z hi hz=>?_,?_}
    .rcases ik.mp hr with hr|hr
     .exact hold r hr
     .rcases ir.mp hr with rfl|hr
      .refine{l1,wn _,λi z hi hz=>?_}
       by_cases hik:i=k
       .subst hik
        rw[hx] at hz;obtain rfl:=ee hz;exact{λq=>absurd q.symm hyx,λq=>by have:=q.2;exact absurd this (l8 _)}
       .exact l3 i z () hz
      .obtain rfl:=f7.mp hr
       refine{nh _,d8 _,λi z hi hz=>?_}
       by_cases hik:i=k
       .subst hik
        rw[hx] at hz;exact{λ_=>{d8 _,nh _},λ_=>(ee hz).symm}
       .refine{λq=>?_,λq=>by have q1:k<=i:=q.1;lia}
        obtain⟨r,hr,hrz⟩:=ih.all i z () hz;have q:z=x:=q;rcases ik.mp hr with hr|hr
        .exact absurd (hrz.trans q) (hR r hr).2
        .rw[f7.mp hr] at hrz
         exact absurd (show w=x from Eq.trans hrz q) hyx
    .by_cases hik:i=k
     .subst hik
      rw[hx] at hz;exact{(x,i,i+1),by simp,ee hz}
     .obtain⟨r,hr,hrz⟩:=ih.all i z () hz
      rcases ik.mp hr with hr|hr
      .exact{r,km _ hr,hrz}
      .rw[f7.mp hr] at hrz
       exact{(w,b,k),by simp,hrz}
    .rw[fi,DN]
     refine{hnd.1,by simp[hyx],λu hu v hv=>?_};obtain⟨r,hr,rfl⟩:=lq.mp hu;have hv:v=w\/v=x:=by simpa using hv
     rcases hv with rfl|rfl
     .exact(hR r hr).1
     .exact(hR r hr).2
theorem xS (nm:Za6):Srt ltS (Fw nm):=by
 rw[<-Nw];exact Me (O6 id) nm
def anc (ds:Za4)(k:Nat):List Int:=(way ds k).tail.take (dAt ds k)
theorem N8 {ds:Za4}(h:Dok ds){a m:Nat}:∀b,a<b->b<=ds.9->(∀i,a<i->i<b->m<=dAt ds i)->(way ds b).take (m+1)=(way ds (a+1)).take (m+1)
 |0,h1,_,_=>()
 |b+1,h1,h2,hi=>by
  by_cases e:a=b
  .rw[e]
  .have hm:=hi b () ()
   have hl:=Cd h b ();have hd:=h b ();show((way ds b).take (dAt ds b+1)++[(b:Int)]).take (m+1)=_;rw[jq (by rw[fh];lia),oi,il ()];exact N8 h b () () λi h3 h4=>hi i h3 ()
theorem Zm {l l':List Int}{m:Nat}(h:l.take (m+1)=l'.take (m+1)):l.tail.take m=l'.tail.take m:=by
 have e:∀l:List Int,l.tail.take m=(l.take (m+1)).tail:=λl=>by cases l<;>simp
 rw[e,e,h]
theorem xL {ds:Za4}(h:Dok ds){c s v:Nat}(hc:c<=ds.9)(e:(way ds c)[s+1]?=KH (v:Int)):dAt ds v=s/\v<c/\anc ds v=(way ds c).tail.take s:=by
 obtain⟨v',hv',hlt,hd⟩:=F9 h c s _ hc e;obtain rfl:v=v':=()
 have hk:=N8 h (a:=v) (m:=s) c hlt hc λi h1 h2=>f9 (gJ h c s v hc e i h1 h2);have hl:=Cd h v ();have hdv:=h v ();refine{hd,hlt,?_};unfold anc;rw[hd];refine Zm ?_;rw[hk];show _=((way ds v).take (dAt ds v+1)++[(v:Int)]).take (s+1);rw[jq (by rw[fh];lia),oi,il ()]
theorem Abk {ds:Za4}(h:Dok ds){a:Nat}(ha:a<ds.9):(way ds (a+1)).tail=anc ds a++[(a:Int)]:=by
 show((way ds a).take (dAt ds a+1)++[(a:Int)]).tail=_;rw[qM h (show a<=ds.9 by lia)];rfl
theorem Aah {ds:Za4}(h:Dok ds){a b m:Nat}{f:Int->Bool}(hab:a<b)(hb:b<ds.9)(hm:∀i,a<i->i<=b->m<=dAt ds i)(hf:∀i:Nat,a<i->i<b->f (i:Int)=KL)
  (hno:∀s v:Nat,(way ds b)[s+1]?=KH (v:Int)->m<=s->s<dAt ds b->a<v):(anc ds b).filter f=((way ds (a+1)).tail.take m).filter f:=by
 have hk:=Zm (N8 h (a:=a) (m:=m) b hab () λi h1 h2=>hm i h1 ());have hmb:=hm b hab (d8 _);have hl:=Cd h b ();have hdb:=h b hb;have hp:=qM h (show b<=ds.9 by lia);rw[<-hk];unfold anc;have es:(way ds b).tail.take (dAt ds b)=(way ds b).tail.take m++((way ds b).tail.drop m).take (dAt ds b-m):=by
  rw[<-jp m ((way ds b).tail.take (dAt ds b)),oi,il hmb,FE]
 have e0:(((way ds b).tail.drop m).take (dAt ds b-m)).filter f=[]:=md.mpr λx hx=>?_
 .rw[es,lu,e0,gv]
 obtain⟨i,hi⟩:=j6 hx;have hil:=(fc.mp hi).1;rw[fh] at hil;rw[gj (),iz] at hi;have hw:(way ds b)[m+i+1]?=KH x:=by rw[hp];exact hi
 obtain⟨v,rfl,hvb,hdv⟩:=F9 h b (m+i) x () hw;have hav:=hno (m+i) v hw () ();rw[hf v hav hvb];decide
theorem jH {ds:Za4}(h:Dok ds){i:Nat}:∀n,i+n<ds.9->dAt ds (i+n)<=dAt ds i+n
 |0,_=>d8 _
 |n+1,hn=>by
  have h1:=jH h (i:=i) n ();have h2:=h (i+n+1) ();have h3:opn ds (i+n+1)=dAt ds (i+n)+1:=rfl;rw[show i+(n+1)=i+n+1 by lia];lia
theorem Pl {ds:Za4}(h:Dok ds){i j:Nat}(hij:i<j)(hj:j<ds.9):2*i-dAt ds i<2*j-dAt ds j:=by
 obtain⟨n,rfl⟩:=j0 (f9 hij);have h1:=jH h (i:=i) n hj;have h2:=(Mn h (show i<ds.9 by lia)).1;have h3:=(Mn h hj).1;lia
theorem Ab3 {ds:Za4}(h:Dok ds){b c s:Nat}(hb:b<ds.9)(e:(way ds b)[s+1]?=KH (c:Int))(hs:s<dAt ds b):b<Bu ds c:=by
 obtain⟨c',hc',hcb,hd⟩:=F9 h b s _ () e;obtain rfl:c=c':=()
 obtain⟨h1,h2,_,h4⟩:=Dr (ds:=ds) (show c<ds.9 by lia);refine nj λhn=>?_;have h4:=h4 ();have gap:=gJ h b s c () e;have hdi:s<dAt ds (Bu ds c):=by
  by_cases z:Bu ds c=b
  .rw[z];exact hs
  .exact gap _ h1 ()
 have hw:=rX h (k:=c) (Bu ds c) h1 h2 λj j1 j2=>by rw[hd];exact gap j j1 ()
 have he:=Ho h (show Bu ds c<ds.9 by lia);rw[hd] at hw
 by_cases z:s+1=dAt ds (Bu ds c)
 .rw[z,he] at hw
  have:=ee hw;lia
 .have:=Lj h (Bu ds c) (s+1) (dAt ds (Bu ds c)) _ _ h2 () hw he
  lia
theorem Acw {ds:Za4}(h:Dok ds){b c s p:Nat}(hb:b<ds.9)(e:(way ds b)[s+1]?=KH (c:Int))(hs:s<dAt ds b)(h1:2*c-dAt ds c<p)(h2:p<=2*b-dAt ds b):((s+1:Nat):Int)<=hg (B1 ds) p:=by
 obtain⟨c',hc',hcb,hd⟩:=F9 h b s _ () e;obtain rfl:c=c':=()
 have hc:c<ds.9:=()
 have hend:=Ab3 h hb e hs;obtain⟨A,B,a1,a2,a3,a4,a5,a6⟩:=Tp h hc;have hu:=Ij ds c;have hp:p=A.9+(p-A.9):=()
 have h5:=a5 (p-A.9) ();have h6:=(Tx (Oc h hc)).1 (p-A.9) ();rw[hp,h5];lia
structure Afx (ds:Za4) (a b m:Nat):Prop where
 up:∀i,a<i->i<=b->m<=dAt ds i
 no:∀s v:Nat,(way ds b)[s+1]?=KH (v:Int)->m<=s->s<dAt ds b->a<v
theorem Abr {ds:Za4}(h:Dok ds){a b m p0:Nat}(hab:a<b)(hb:b<ds.9)(hl:∀p,2*a-dAt ds a+1<=p->p<=2*b-dAt ds b->(m:Int)<=hg (B1 ds) p)(h1:2*a-dAt ds a+1<=p0)(h2:p0<=2*b-dAt ds b)(h3:hg (B1 ds) p0=(m:Int)):Afx ds a b m:=by
 refine{λi i1 i2=>?_,λs v e hs hsb=>?_}
 .have:=Pl h i1 (show i<ds.9 by lia)
  have h4:=hl (2*i-dAt ds i) () (by
   rcases mv i2 with z|z
   .exact f9 (Pl h z hb)
   .rw[z];exact d8 _)
  obtain⟨_,_,_,_,_,g,_⟩:=Tp h (show i<ds.9 by lia);lia
 .refine nj λhn=>?_
  have hva:2*v-dAt ds v<=2*a-dAt ds a:=by
   rcases mv (show v<=a by lia) with z|z
   .exact f9 (Pl h z ())
   .rw[z];exact d8 _
  have:=Acw h hb e hsb (p:=p0) () h2;lia
theorem dZ {ds:Za4}(h:Dok ds){a b m:Nat}(hab:a<b)(hb:b<ds.9)(hN:Afx ds a b (m+1)):∃c:Nat,(way ds b)[m+1]?=KH (c:Int)/\(way ds (a+1))[m+1]?=KH (c:Int)/\c<=a/\dAt ds c=m/\m<dAt ds b:=by
 have hmb:=hN.up b hab (d8 _);have hdb:=h b hb;have hl:=Cd h b ();obtain⟨x,hx⟩:∃x,(way ds b)[m+1]?=KH x:={_,d4 ()};obtain⟨c,rfl,hcb,hd⟩:=F9 h b m x () hx;have hk:=N8 h (a:=a) (m:=m+1) b hab () λi i1 i2=>hN.up i i1 ();have hx2:(way ds (a+1))[m+1]?=KH (c:Int):=by
  have e1:((way ds b).take (m+1+1))[m+1]?=KH (c:Int):=by rw[gj ()];exact hx
  rw[hk,gj ()] at e1;exact e1
 obtain⟨c2,hc2,hlt,_⟩:=F9 h (a+1) m _ () hx2;exact{c,hx,hx2,(),hd,()}
def C2 (nm:Za6)(x:Str)(lo hi:Nat):Prop:=lo<=hi/\hi<=nm.9/\(lo=hi->lo=0)/\∀(i:Nat) z,(Fw nm)[i]?=KH z->(z=x↔lo<=i/\i<hi)
theorem Aab (nm:Za6)(x:Str){es:List eh}(hl:es.9=(Fe (Fw nm) nm.9).9) :
  (Cn (Eg [] ((Fe (Fw nm) nm.9).map (·.1)) (es.map V.ref)) (.inr x)=KI/\C2 nm x 0 0) \/
  ∃(i:Nat) (e:eh) (r:Str×Nat×Nat),es[i]?=KH e/\(Fe (Fw nm) nm.9)[i]?=KH r/\Cn (Eg [] ((Fe (Fw nm) nm.9).map (·.1)) (es.map V.ref)) (.inr x)=KH (.ref e)/\C2 nm x r.2.1 r.2.2:=by
 have ok:=rG (xS nm) nm.9 (by rw[Iy];exact d8 _);have hlt:∀{i:Nat} {z:Str},(Fw nm)[i]?=KH z->i<nm.9:=λh=>by
  obtain⟨l,_⟩:=fc.mp h;rw[Iy] at l;exact l
 by_cases hx:x∈(Fe (Fw nm) nm.9).map (·.1)
 .right
  obtain⟨i,hi⟩:=List.mem_iff_getElem?.mp hx;rw[d9] at hi;obtain⟨r,hr,rfl⟩:=kx.mp hi;obtain⟨li,_⟩:=fc.mp hr;obtain⟨e,he⟩:∃e,es[i]?=KH e:={_,d4 ()};obtain⟨a1,a2,a3⟩:=ok.at' r (f8 hr);exact{i,e,r,he,hr,Tw _ _ _ i ok.nd (by rw[d9,hr];rfl) (by rw[d9,he];rfl),f9 a1,a2,λe=>absurd e (gw a1),λj z h=>a3 j z (hlt h) h}
 .left
  refine{by rw[Nk _ _ _ hx];rfl,d8 _,gn _,λ_=>rfl,λi z h=>{λe=>absurd ?_ hx,λe=>()}};obtain⟨r,hr,hz⟩:=ok.all i z (hlt h) h;rw[<-e,<-hz];exact oh (f:=(·.1)) hr
theorem C2.has {nm:Za6}{x:Str}{lo hi i:Nat}(h:C2 nm x lo hi)(h1:lo<=i)(h2:i<hi):(Fw nm)[i]?=KH x:=by
 obtain⟨a1,a2,_,a4⟩:=h;obtain⟨z,e⟩:∃z,(Fw nm)[i]?=KH z:={_,d4 (by rw[Iy];lia)};rw[e,(a4 i _ e).mpr ⟨h1,h2⟩]
theorem C2.uniq {nm:Za6}{x:Str}{lo hi lo' hi':Nat}(h:C2 nm x lo hi)(h':C2 nm x lo' hi'):lo=lo'/\hi=hi':=by
 have key:∀{lo hi lo' hi':Nat},C2 nm x lo hi->C2 nm x lo' hi'->lo<hi->lo'<=lo/\hi<=hi':=λ{lo hi lo' hi'} h h' l=>by
  have e1:=(h'.2.2.2 lo x (h.has (d8 _) l)).mp rfl;have e2:=(h'.2.2.2 (hi-1) x (h.has () ())).mp rfl;lia
 obtain⟨a1,_,a3,_⟩:=id h;obtain⟨b1,_,b3,_⟩:=id h';rcases tu lo hi with l|l
 .have k1:=key h h' l
  have k2:=key h' h ();lia
 .rcases tu lo' hi' with m|m
  .have k2:=key h' h m
   lia
  .have:=a3 ()
   have:=b3 ();lia
theorem C2.cut {nm:Za6}{x:Str}{lo hi:Nat}(h:C2 nm x lo hi):((Ku nm).drop lo).take (hi-lo)=ofN nm x:=Acn h.1 h.2.2.2
theorem C2.len {nm:Za6}{x:Str}{lo hi:Nat}(h:C2 nm x lo hi):hi=lo+(ofN nm x).9:=by
 rw[<-h.cut,fh,gz,Oz];obtain⟨a1,a2,_⟩:=h;lia
theorem C2.at' {nm:Za6}{x:Str}{lo hi i:Nat}(h:C2 nm x lo hi)(hi':i<(ofN nm x).9):(Ku nm)[lo+i]?=(ofN nm x)[i]?:=by
 have:=h.len;rw[<-h.cut,ji,if_pos (),iz]
theorem Ph (nm:Za6)(x:Str):(ofN nm x).Pairwise (· < ·):=GY _ List.pairwise_lt_range
def Ck (l:Za4)(k:Nat):Nat:=(l.filter λv=>decide (v<k)).9
theorem Acs {l:Za4}{k i:Nat}(h:l.Pairwise (· < ·))(hi:i<=l.9)(h1:∀v,0<i->l[i-1]?=KH v->v<k)(h2:∀v,l[i]?=KH v->k<=v):i=Ck l k:=by
 have inc:∀{a b u v:Nat},a<b->l[a]?=KH u->l[b]?=KH v->u<v:=λ{a b u v} hab ha hb=>by
  obtain⟨la,rfl⟩:=fc.mp ha;obtain⟨lb,rfl⟩:=fc.mp hb;exact ug.mp h a b la lb hab
 have e:=Fc (p:=λv=>decide (v<k)) l 0 i (gn _) λj z hz=>by
  rw[decide_eq_true_iff];obtain⟨lj,_⟩:=fc.mp hz;refine{λhk=>{gn _,nj λhn=>?_},λhj=>?_}
  .obtain⟨w,e2⟩:∃w,l[i]?=KH w:={_,d4 ()}
   have:=h2 _ e2;rcases mv (show i<=j by lia) with y|y
   .have:=inc y e2 hz
    lia
   .subst y
    rw[hz] at e2;have:=ee e2;lia
  .obtain⟨w,e2⟩:∃w,l[i-1]?=KH w:={_,d4 ()}
   have:=h1 _ () e2;rcases mv (show j<=i-1 by lia) with y|y
   .have:=inc y hz e2
    lia
   .subst y
    rw[hz] at e2;have:=ee e2;lia
 unfold Ck;rw[e,fh,qz];lia
theorem Hc {b:Nat}:∀{l:Za4},l.Pairwise (· < ·)->∀{i z:Nat},l[i]?=KH z->(i<Ck l b↔z<b)
 |[],_,i,z,h=>by cases h
 |x::l,hp,i,z,h=>by
  have hx:=(mo.mp hp).1;have hl:=(mo.mp hp).2
  by_cases c:x<b
  .have e:Ck (x::l) b=Ck l b+1:=by unfold Ck;rw[je,if_pos (decide_eq_true c)];rfl
   rw[e]
   cases i with
   |zero=>
    obtain rfl:=ee h;exact{λ_=>c,λ_=>yd _}
   |succ i=>
    have:=Hc hl (b:=b) (show l[i]?=KH z from h);lia
  .have e:Ck (x::l) b=0:=by
    unfold Ck;rw[md.mpr λv hv=>?_]
    .rfl
    .rw[decide_eq_true_iff]
     rcases ir.mp hv with rfl|hv
     .exact c
     .have:=hx v hv
      lia
   rw[e];have hz:x<=z:=by
    rcases ir.mp (f8 h) with rfl|hv
    .exact d8 _
    .exact f9 (hx z hv)
   lia
theorem Op (l:Za4)(k:Nat):Ck l k<=l.9:=ke _ _
theorem Ja {l:Za4}{a b:Nat}(h:a<=b):Ck l a<=Ck l b:=sG λi _ e=>decide_eq_true (fv (of_decide_eq_true e) h)
def jQ (l:Za4)(a b:Nat):Za4:=l.filter λv=>decide (a<=v/\v<b)
theorem gZ {l:Za4}(h:l.Pairwise (· < ·)){a b:Nat}(hab:a<=b):(l.drop (Ck l a)).take (Ck l b-Ck l a)=jQ l a b:=by
 refine(Fc l _ _ (Ja hab) λi z hz=>?_).symm;rw[decide_eq_true_iff];have h1:=Hc h (b:=a) hz;have h2:=Hc h (b:=b) hz;lia
theorem Aai {l:Za4}(h:l.Pairwise (· < ·)){a b:Nat}(hab:a<=b):(jQ l a b).9=Ck l b-Ck l a:=by
 have:=Op l b;rw[<-gZ h hab,fh,gz];lia
theorem wZ {l:Za4}(h:l.Pairwise (· < ·))(k:Nat):(l.filter λv=>decide (k<=v))=l.drop (Ck l k):=by
 have:=Fc (p:=λv=>decide (k<=v)) l (Ck l k) l.9 (Op l k) λi z hz=>by
  have h1:=Hc h (b:=k) hz;obtain⟨h2,_⟩:=fc.mp hz;rw[decide_eq_true_iff];lia
 rw[this,fz (by rw[gz];exact d8 _)]
theorem C2.bet {nm:Za6}{x:Str}{lo hi a b:Nat}(h:C2 nm x lo hi)(hab:a<=b):((Ku nm).drop (lo+Ck (ofN nm x) a)).take (lo+Ck (ofN nm x) b-(lo+Ck (ofN nm x) a))=jQ (ofN nm x) a b:=by
 rw[<-gZ (Ph nm x) hab];have hl:=h.len;have h1:=Ja (l:=ofN nm x) hab;have h2:=Op (ofN nm x) b;have hc:=h.cut;generalize Ck (ofN nm x) a=c at *;generalize Ck (ofN nm x) b=d at *;rw[<-hc,FE,oj,oi,show min (d-c) (hi-lo-c)=lo+d-(lo+c) by lia]
theorem Ab7 {ds:Za4}(h:Dok ds){k i:Nat}(hk:k<ds.9)(h1:k<i)(h2:i<ds.9):((k:Int)<=eld ds i/\eld ds i<Bu ds k)↔i<Bu ds k:=by
 obtain⟨_,_,h3,_⟩:=Dr hk;have h4:=xY h h2
 by_cases c:i<Bu ds k
 .have:=h3 i h1 c
  lia
 .have:=Aa9 h hk () h2
  lia
end _W
end
namespace _K
open PySem _L _W
def top (i:Nat):i4:=im.main.body.getD i (.Pass {0,0,0,0})
abbrev Nv:i4:=top 12
theorem kM:Ah ["thing"] ["thing"] (Ac Nv):=by k_cls
abbrev Le:i4:=top 13
theorem gA:Ah ["thing","low","high"] ["thing","low","high"] (Ac Le):=by k_cls
abbrev K2:i4:=top 14
theorem fP:Ah ["bit"] ["bit"] (Ac K2):=by k_cls
abbrev Ix:i4:=top 15
theorem Vb:Ah ["place","greatest"] ["place","greatest"] (Ac Ix):=by k_cls
abbrev G3:i4:=top 16
theorem Rx:Ah ["low","high","greatest"] ["low","high","greatest"] (Ac G3):=by k_cls
abbrev J7:i4:=top 18
theorem X4:Ah ["k","many_knots"] ["k","many_knots"] (Ac J7):=by k_cls
abbrev Rs:i4:=top 23
theorem J4:Ah ["word","ones"] ["word"] (Ac Rs):=by k_cls
abbrev Gm:i4:=top 24
theorem Lo:Ah ["four","nth","places"] ["four","nth"] (Ac Gm):=by k_cls
theorem P0:A6 ["four","nth","places"] (Ac Gm) {.function,[(".0",.local),("place",.local),("four",.free)],KL,KL,[]} "place" ["place","four"] [0]:=by k_cls
abbrev Rp:i4:=top 25
theorem Gi:Ah ["word","nth","low","ones"] ["word","nth"] (Ac Rp):=by k_cls
abbrev Ue:i4:=top 29
theorem tV:Ah ["thing"] ["thing"] (Ac Ue):=by k_cls
abbrev Rh:i4:=top 30
theorem oA:Ah ["signs"] ["signs"] (Ac Rh):=by k_cls
abbrev Ke:i4:=top 31
theorem lO:Ah ["text"] ["text"] (Ac Ke):=by k_cls
theorem X2:A6 ["text"] (Ac Ke) {.function,[(".0",.local),("low",.local),("word_of",.globalImplicit),("WORD_BITS",.globalImplicit),("text",.free)],KL,KL,[]} "low" ["low","text"] [0]:=by k_cls
abbrev Kl:i4:=top 32
theorem jP:Ah ["word"] ["word"] (Ac Kl):=by k_cls
theorem Yi:A6 ["word"] (Ac Kl) {.function,[(".0",.local),("low",.local),("SIGNS_OF_FOUR",.globalImplicit),("word",.free)],KL,KL,[]} "low" ["low","word"] [0]:=by k_cls
abbrev Lx:i4:=Ap (top 33) 0
theorem Z4:Ah ["self","text"] ["self","text"] (Ac Lx):=by k_cls
abbrev La:i4:=Ap (top 33) 1
theorem eU:Ah ["self"] ["self"] (Ac La):=by k_cls
abbrev J0:i4:=Ap (top 33) 3
theorem Xr:Ah ["self"] ["self"] (Ac J0):=by k_cls
abbrev F2:i4:=Ap (top 33) 5
theorem Dg:Ah ["self","low","high","first","beyond","signs","begin"] ["self","low","high"] (Ac F2):=by k_cls
theorem Pe:A6 ["self","low","high","first","beyond","signs","begin"] (Ac F2) {.function,[(".0",.local),("word",.local),("signs_of",.globalImplicit)],KL,KL,[]} "word" ["word"] []:=by k_cls
abbrev N3:i4:=Ap (top 33) 4
theorem jW:Ah ["self","place"] ["self","place"] (Ac N3):=by k_cls
abbrev Km:i4:=top 37
theorem Gn:Ah ["low","high","holds","middle"] ["low","high","holds"] (Ac Km):=by k_cls
abbrev Ib:i4:=top 38
theorem G2:Ah ["numbers","sums","number"] ["numbers"] (Ac Ib):=by k_cls
abbrev C0:i4:=top 39
theorem Ik:Ah ["words","blocks"] ["words"] (Ac C0):=by k_cls
theorem M0:A6 ["words","blocks"] (Ac C0) {.function,[(".0",.local),("low",.local),("BLOCK_WORDS",.globalImplicit),("words",.free)],KL,KL,[]} "low" ["low","words"] [0]:=by k_cls
theorem Nb:A6 ["words","blocks"] (Ac C0) {.function,[(".0",.local),("block",.local),("sum",.globalImplicit)],KL,KL,[]} "block" ["block"] []:=by k_cls
theorem M8 (QQ:oq):A6 ["block"] QQ {.function,[(".0",.local),("word",.local),("ones_in",.globalImplicit)],KL,KL,[]} "word" ["word"] []:={rfl,by decide +kernel,by decide +kernel,(λy hy h=>absurd h ((by decide +kernel:∀y∈({.function,[(".0",.local),("word",.local),("ones_in",.globalImplicit)],KL,KL,[]}:oq).names,y.2≠ou) y hy)),by decide +kernel,rfl,rfl,rfl,by decide +kernel}
abbrev Ir:i4:=Ap (top 40) 0
theorem Tz:Ah ["self","bits"] ["self","bits"] (Ac Ir):=by k_cls
abbrev Ei:i4:=Ap (top 40) 6
theorem Ba:Ah ["self","place","number","block","ones","word","rest"] ["self","place"] (Ac Ei):=by k_cls
abbrev Hk:i4:=Ap (top 40) 2
theorem Kr:Ah ["self","bit","place","ones"] ["self","bit","place"] (Ac Hk):=by k_cls
abbrev C1:i4:=Ap (top 40) 7
theorem Et:Ah ["self","bit","block","ones"] ["self","bit","block"] (Ac C1):=by k_cls
abbrev Fh:i4:=Ap (top 40) 8
theorem M1:Ah ["self","bit"] ["self","bit"] (Ac Fh):=by k_cls
abbrev Bi:i4:=Ap (top 40) 9
theorem Kw:Ah ["self","bit","nth"] ["self","bit","nth"] (Ac Bi):=by k_cls
theorem Jc:A6 ["self","bit","nth"] (Ac Bi) {.function,[("block",.local),("bit",.free),("nth",.free),("self",.free)],KL,KL,[]} "block" ["block","bit","nth","self"] [1,2,0]:=by k_cls
abbrev El:i4:=Ap (top 40) 10
theorem Bz:Ah ["self","bit","number","nth","flip","inside"] ["self","bit","number","nth"] (Ac El):=by k_cls
abbrev F3:i4:=Ap (top 40) 3
theorem Ht:Ah ["self","bit","nth","block"] ["self","bit","nth"] (Ac F3):=by k_cls
abbrev Il:i4:=top 41
theorem Pu:Ah ["things","signs"] ["things"] (Ac Il):=by k_cls
theorem Ui:Di ["things","signs"] (Ac Il) {.function,[(".0",.local),("ahead",.local),("own",.local)],KL,KL,[]} "ahead" "own" ["ahead","own"] []:=by k_cls
abbrev Iv:i4:=top 43
theorem Fx:Ah ["order","met","place","number"] ["order"] (Ac Iv):=by k_cls
abbrev L0:i4:=top 44
theorem C6:Ah ["order","rounds","met","least","places","place"] ["order"] (Ac L0):=by k_cls
abbrev Hw:i4:=top 45
theorem Ey:Ah ["order","step","shortcuts","places","marked"] ["order","step"] (Ac Hw):=by k_cls
abbrev B5:i4:=Ap (top 46) 0
theorem Po:Ah ["self","order","step"] ["self","order","step"] (Ac B5):=by k_cls
abbrev Ft:i4:=Ap (top 46) 1
theorem Nz:Ah ["self","place"] ["self","place"] (Ac Ft):=by k_cls
abbrev J9:i4:=top 57
theorem Eu:Ah ["text","begin","height","heights","sign"] ["text","begin"] (Ac J9):=by k_cls
abbrev Ln:i4:=top 63
theorem Fy:Ah ["text","height","place","sign"] ["text"] (Ac Ln):=by k_cls
abbrev Hq:i4:=Ap (top 59) 0
theorem Su:Ah ["self","length","table","often_least"] ["self","length","table","often_least"] (Ac Hq):=by k_cls
abbrev Eh:i4:=Ap (top 64) 4
theorem Lk:Ah ["self","place"] ["self","place"] (Ac Eh):=by k_cls
abbrev Gh:i4:=Ap (top 59) 9
theorem Pa:Ah ["self","place"] ["self","place"] (Ac Gh):=by k_cls
abbrev G0:i4:=Ap (top 64) 2
theorem R0:Ah ["self","low","high"] ["self","low","high"] (Ac G0):=by k_cls
abbrev Hn:i4:=Ap (top 59) 7
theorem S6:Ah ["self"] ["self"] (Ac Hn):=by k_cls
abbrev Hm:i4:=Ap (top 59) 8
theorem S0:Ah ["self"] ["self"] (Ac Hm):=by k_cls
abbrev C7:i4:=Ap (top 64) 0
theorem Es:Ah ["self","text","lows","begins","heights","table"] ["self","text"] (Ac C7):=by k_cls
theorem Sw:A6 ["self","text","lows","begins","heights","table"] (Ac C7) {.function,[(".0",.local),("low",.local),("self",.free)],KL,KL,[]} "low" ["low","self"] [0]:=by k_cls
theorem Sx:Di ["self","text","lows","begins","heights","table"] (Ac C7) {.function,[(".0",.local),("low",.local),("begin",.local),("heights_of",.globalImplicit),("STRETCH_BITS",.globalImplicit),("text",.free)],KL,KL,[]} "low" "begin" ["low","begin","text"] [1]:=by k_cls
theorem Sq:Di ["self","text","lows","begins","heights","table"] (Ac C7) {.function,[(".0",.local),("begin",.local),("some",.local),("min",.globalImplicit),("max",.globalImplicit)],KL,KL,[]} "begin" "some" ["begin","some"] []:=by k_cls
theorem S5:A6 ["self","text","lows","begins","heights","table"] (Ac C7) {.function,[(".0",.local),("some",.local),("min",.globalImplicit)],KL,KL,[]} "some" ["some"] []:=by k_cls
abbrev Fa:i4:=Ap (top 64) 8
theorem M6:Ah ["self","place"] ["self","place"] (Ac Fa):=by k_cls
abbrev Gg:i4:=Ap (top 64) 9
theorem Oy:Ah ["self","number"] ["self","number"] (Ac Gg):=by k_cls
abbrev E2:i4:=Ap (top 59) 18
theorem Jx:Ah ["self","low","high","cuts"] ["self","low","high"] (Ac E2):=by k_cls
theorem N0:A6 ["self","low","high","cuts"] (Ac E2) {.function,[(".0",.local),("number",.local),("self",.free)],KL,KL,[]} "number" ["number","self"] [0]:=by k_cls
abbrev Fb:i4:=Ap (top 59) 19
theorem G4:Ah ["self","low","height","row"] ["self","low","height"] (Ac Fb):=by k_cls
abbrev Cv:i4:=Ap (top 59) 21
theorem Ic:Ah ["self","low","high"] ["self","low","high"] (Ac Cv):=by k_cls
abbrev Dm:i4:=Ap (top 59) 22
theorem F7:Ah ["self","low","high","height","heights"] ["self","low","high","height"] (Ac Dm):=by k_cls
abbrev Dl:i4:=Ap (top 59) 23
theorem Fu:Ah ["self","low","high","height","heights"] ["self","low","high","height"] (Ac Dl):=by k_cls
abbrev Hi:i4:=top 58
theorem S4:Ah ["height"] ["height"] (Ac Hi):=by k_cls
abbrev F8:i4:=Ap (top 59) 13
theorem C9:Ah ["self","place","height","low","high","found"] ["self","place","height"] (Ac F8):=by k_cls
abbrev Fr:i4:=Ap (top 59) 14
theorem Db:Ah ["self","place","height","low","high","found"] ["self","place","height"] (Ac Fr):=by k_cls
abbrev E4:i4:=Ap (top 64) 3
theorem M4:Ah ["self","place"] ["self","place"] (Ac E4):=by k_cls
abbrev F4:i4:=Ap (top 59) 10
theorem Ny:Ah ["self","place"] ["self","place"] (Ac F4):=by k_cls
abbrev Dw:i4:=Ap (top 59) 20
theorem Gb:Ah ["self","low","high","number"] ["self","low","high"] (Ac Dw):=by k_cls
abbrev Df:i4:=Ap (top 59) 25
theorem Jk:Ah ["self","low","high"] ["self","low","high"] (Ac Df):=by k_cls
abbrev Ef:i4:=Ap (top 59) 15
theorem F1:Ah ["self","low","high","own","least"] ["self","low","high"] (Ac Ef):=by k_cls
theorem My:Di ["self","low","high","own","least"] (Ac Ef) {.function,[(".0",.local),("begin",.local),("end",.local),("self",.free)],KL,KL,[]} "begin" "end" ["begin","end","self"] [0]:=by k_cls
abbrev G1:i4:=Ap (top 64) 6
theorem Pz:Ah ["self","number"] ["self","number"] (Ac G1):=by k_cls
abbrev Rt:i4:=top 68
theorem Kn:Ah ["elders","path","k","elder"] ["elders"] (Ac Rt):=by k_cls
abbrev Lc:i4:=top 71
theorem Ki:Ah ["elders","depths","elder"] ["elders"] (Ac Lc):=by k_cls
abbrev U0:i4:=top 69
theorem Jg:Ah ["elders","signs","still_opened","depth"] ["elders"] (Ac U0):=by k_cls
abbrev K7:i4:=top 70
theorem G9:Ah ["text","elders","path","sign"] ["text"] (Ac K7):=by k_cls
abbrev Gx:i4:=Ap (top 74) 0
theorem Rz:Ah ["self","pairs"] ["self","pairs"] (Ac Gx):=by k_cls
abbrev Iu:i4:=Ap (top 76) 0
theorem U2:Ah ["self","elders"] ["self","elders"] (Ac Iu):=by k_cls
abbrev Dn:i4:=Ap (top 74) 1
theorem Jz:Ah ["self"] ["self"] (Ac Dn):=by k_cls
abbrev Hs:i4:=Ap (top 74) 3
theorem S7:Ah ["self"] ["self"] (Ac Hs):=by k_cls
abbrev Fs:i4:=Ap (top 74) 2
theorem Nu:Ah ["self"] ["self"] (Ac Fs):=by k_cls
abbrev E6:i4:=Ap (top 74) 4
theorem M7:Ah ["self","k"] ["self","k"] (Ac E6):=by k_cls
abbrev E8:i4:=Ap (top 74) 5
theorem M9:Ah ["self","k"] ["self","k"] (Ac E8):=by k_cls
abbrev Ff:i4:=Ap (top 74) 6
theorem Nc:Ah ["self","place"] ["self","place"] (Ac Ff):=by k_cls
abbrev E5:i4:=Ap (top 74) 14
theorem Mz:Ah ["self","k"] ["self","k"] (Ac E5):=by k_cls
abbrev E9:i4:=Ap (top 74) 17
theorem Cz:Ah ["self","one","other","low","high","least"] ["self","one","other"] (Ac E9):=by k_cls
abbrev Mw:i4:=top 50
theorem oU:Ah ["thing"] ["thing"] (Ac Mw):=by k_cls
theorem eB:A6 ["thing"] (Ac Mw) {.function,[(".0",.local),("sign",.local),("LETTERS",.globalImplicit)],KL,KL,[]} "sign" ["sign"] []:=by k_cls
abbrev Iw:i4:=top 52
theorem Hu:Ah ["names","place","name"] ["names"] (Ac Iw):=by k_cls
abbrev Dz:i4:=top 53
theorem Ks:Ah ["names","begins"] ["names"] (Ac Dz):=by k_cls
theorem O0:A6 ["names","begins"] (Ac Dz) {.function,[(".0",.local),("place",.local),("names",.free)],KL,KL,[]} "place" ["place","names"] [0]:=by k_cls
theorem O8:Di ["names","begins"] (Ac Dz) {.function,[(".0",.local),("begin",.local),("end",.local),("names",.free)],KL,KL,[]} "begin" "end" ["begin","end","names"] [0]:=by k_cls
abbrev F6:i4:=top 54
theorem Bt:Ah ["elders","names","told","path","upward","k","elder","alike"] ["elders","names"] (Ac F6):=by k_cls
abbrev Dc:i4:=Ap (top 55) 0
theorem Yb:Ah ["self","wood","names"] ["self","wood","names"] (Ac Dc):=by k_cls
theorem So:A6 ["self","wood","names"] (Ac Dc) {.function,[(".0",.local),("one",.local)],KL,KL,[]} "one" ["one"] []:=by k_cls
abbrev Ee:i4:=Ap (top 55) 10
theorem Pj:Ah ["self","low","high"] ["self","low","high"] (Ac Ee):=by k_cls
theorem M2:A6 ["self","low","high"] (Ac Ee) {.function,[(".0",.local),("place",.local),("self",.free)],KL,KL,[]} "place" ["place","self"] [0]:=by k_cls
abbrev Ko:i4:=top 51
theorem X5:Ah ["name"] ["name"] (Ac Ko):=by k_cls
abbrev E3:i4:=Ap (top 55) 9
theorem M5:Ah ["self","k","name"] ["self","k","name"] (Ac E3):=by k_cls
abbrev Gw:i4:=Ap (top 55) 11
theorem P2:Ah ["self","name"] ["self","name"] (Ac Gw):=by k_cls
abbrev Br:i4:=Ap (top 55) 13
theorem G5:Ah ["self","k","name","span"] ["self","k","name"] (Ac Br):=by k_cls
theorem J2:A6 ["self","k","name","span"] (Ac Br) {.function,[("place",.local),("k",.free),("self",.free)],KL,KL,[]} "place" ["place","k","self"] [1,0]:=by k_cls
abbrev D4:i4:=Ap (top 55) 12
theorem Ge:Ah ["self","k","name","behind"] ["self","k","name"] (Ac D4):=by k_cls
abbrev Hl:i4:=Ap (top 55) 4
theorem Kt:Ah ["self","name","span"] ["self","name"] (Ac Hl):=by k_cls
abbrev Dx:i4:=Ap (top 55) 5
theorem Gd:Ah ["self","k","name","span"] ["self","k","name"] (Ac Dx):=by k_cls
abbrev Ej:i4:=Ap (top 55) 6
theorem Gr:Ah ["self","k","name","span"] ["self","k","name"] (Ac Ej):=by k_cls
abbrev Gz:i4:=Ap (top 55) 7
theorem Jh:Ah ["self","k","name","place"] ["self","k","name"] (Ac Gz):=by k_cls
abbrev Gk:i4:=Ap (top 55) 8
theorem Cs:Ah ["self","k","name","place","knot","meeting"] ["self","k","name"] (Ac Gk):=by k_cls
abbrev Io:i4:=top 78
theorem T9:Ah ["_law_script","_law_k"] ["_law_script","_law_k"] (Ac Io):=by k_cls
abbrev Ky:i4:=top 79
theorem gG:Ah ["_law_found"] ["_law_found"] (Ac Ky):=by k_cls
abbrev Lw:i4:=top 80
theorem N9:Ah ["_law_cell","_law_k","_law_once"] ["_law_cell","_law_k"] (Ac Lw):=by k_cls
abbrev Kk:i4:=top 81
theorem Eo:Ah ["_law_script","_law_at","_law_many","_law_left","_law_found","_law_k"] ["_law_script","_law_at","_law_many"] (Ac Kk):=by k_cls
abbrev Nl:i4:=top 82
theorem Fi:Ah ["_law_digits_here","_law_elders","_law_path","_law_k"] ["_law_digits_here"] (Ac Nl):=by k_cls
abbrev Fk:i4:=top 83
theorem De:Ah ["_law_digits_here","_law_seed","_law_letters","_law_words","_law_k","_law_base","_law_at"] ["_law_digits_here","_law_seed"] (Ac Fk):=by k_cls
theorem Uo:A6 ["_law_digits_here","_law_seed","_law_letters","_law_words","_law_k","_law_base","_law_at"] (Ac Fk) {.function,[(".0",.local),("_law_digit",.local),("_law_seed",.free),("_law_words",.free)],KL,KL,[]} "_law_digit" ["_law_digit","_law_seed","_law_words"] [1,3]:=by k_cls
theorem T1:A6 ["_law_digits_here","_law_seed","_law_letters","_law_words","_law_k","_law_base","_law_at"] (Ac Fk) {.function,[(".0",.local),("_law_k",.local),("_law_letters",.free),("_law_seed",.free)],KL,KL,[]} "_law_k" ["_law_k","_law_letters","_law_seed"] [2,1]:=by k_cls
theorem Uk:Di ["_law_digits_here","_law_seed","_law_letters","_law_words","_law_k","_law_base","_law_at"] (Ac Fk) {.function,[(".0",.local),("_law_k",.local),("_law_word",.local)],KL,KL,[]} "_law_k" "_law_word" ["_law_k","_law_word"] []:=by k_cls
abbrev K4:i4:=top 84
theorem Ob:Ah ["_law_elders","_law_k","_law_other"] ["_law_elders","_law_k","_law_other"] (Ac K4):=by k_cls
abbrev L7:i4:=top 85
theorem Kj:Ah ["_law_elders","_law_names_here","_law_k","_law_name","_law_here"] ["_law_elders","_law_names_here","_law_k","_law_name"] (Ac L7):=by k_cls
abbrev Kc:i4:=top 86
theorem R4:Ah ["_law_found","_law_due","_law_kinds"] ["_law_found","_law_due"] (Ac Kc):=by k_cls
theorem Xq:A6 ["_law_found","_law_due","_law_kinds"] (Ac Kc) {.function,[(".0",.local),("_law_one_here",.local),("_law_whole",.globalImplicit)],KL,KL,[]} "_law_one_here" ["_law_one_here"] []:=by k_cls
abbrev Ry:i4:=top 87
theorem nK:Ah ["_law_found","_law_due"] ["_law_found","_law_due"] (Ac Ry):=by k_cls
abbrev Gf:i4:=top 88
theorem Go:Ah ["_law_told","_law_elders","_law_names_here","_law_k","_law_name","_law_due","_law_under","_law_behind","_law_many"] ["_law_told","_law_elders","_law_names_here","_law_k","_law_name"] (Ac Gf):=by k_cls
theorem X3:A6 ["_law_told","_law_elders","_law_names_here","_law_k","_law_name","_law_due","_law_under","_law_behind","_law_many"] (Ac Gf) {.function,[(".0",.local),("_law_other",.local),("_law_name",.free),("_law_names_here",.free)],KL,KL,[]} "_law_other" ["_law_other","_law_name","_law_names_here"] [4,2]:=by k_cls
theorem Xl:A6 ["_law_told","_law_elders","_law_names_here","_law_k","_law_name","_law_due","_law_under","_law_behind","_law_many"] (Ac Gf) {.function,[(".0",.local),("_law_other",.local),("_law_is_at",.globalImplicit),("_law_elders",.free),("_law_k",.free)],KL,KL,[]} "_law_other" ["_law_other","_law_elders","_law_k"] [1,3]:=by k_cls
theorem X9:A6 ["_law_told","_law_elders","_law_names_here","_law_k","_law_name","_law_due","_law_under","_law_behind","_law_many"] (Ac Gf) {.function,[(".0",.local),("_law_other",.local),("_law_k",.free)],KL,KL,[]} "_law_other" ["_law_other","_law_k"] [3]:=by k_cls
abbrev Y6:i4:=top 89
theorem Hh:Ah ["_law_script","_law_many","_law_elders","_law_names_here","_law_told","_law_others","_law_k","_law_cell","_law_number","_law_name"] ["_law_script"] (Ac Y6):=by k_cls
abbrev Gc:Pos:={202,55,202,110}
abbrev Lm:Pos:={307,62,307,80}
abbrev Gv:Pos:={368,44,368,87}
def Av (l:Za5):Str:={(l.map λb=>if b then 49 else 48).6}
def Ah3:Option Nat->V
 |none=>.non
 |some p=>.int p
theorem sB (m:Nat):l5 (m:Int) 15=((m%16:Nat):Int):=by
 unfold l5;rw[decide_eq_true (kt m),decide_eq_true (by decide:(0:Int)<=15)];show((m &&& 15:Nat):Int)=_;rw[show(15:Nat)=2 ^ 4-1 by decide,rz]
theorem Ab2 (m:Nat):(m:Int)/2 ^ (4:Int).toNat=((m/16:Nat):Int):=by
 show(m:Int)/16=_;lia
theorem qU (r:Nat)(h:r<16):atI (Y0.map λn:Nat=>V.int (n:Int)) (r:Int)=KH (.int (pc r)):=by
 refine A9 ?_;rw[d9,yI r h];rfl
theorem Agw (m:Nat):l5 (m:Int) 1=((m%2:Nat):Int):=by
 unfold l5;rw[decide_eq_true (kt m),decide_eq_true (by decide:(0:Int)<=1)];show((m &&& 1:Nat):Int)=_;rw[Nat.and_one_is_mod]
theorem A7 (l:Za5):(Av l).9=l.9:=by
 show(l.map _).toArray.size=_;rw[ge,d7]
theorem Zv (b:Bool)(k:Nat):Xx (sgn (if b then 49 else 48)) k=Av (fe k b):=by
 refine G6 ?_;show(fe k [if b then 49 else 48]).flatten.toArray.toList=((fe k b).map _).toArray.toList;rw[lf,lf,List.map_replicate]
 induction k with
 |zero=>rfl
 |succ k ih=>
  rw[i8,jn,ih,i8];rfl
theorem C3 (l:Za5):(Av l).cps.toList=l.map λb=>if b then 49 else 48:=by
 show(l.map _).toArray.toList=_;rw[lf]
theorem mO (l:Za5):IB.bits (Av l).cps.toList:=λc hc=>by
 rw[C3] at hc;obtain⟨b,_,rfl⟩:=lq.mp hc;cases b
 .exact .inl rfl
 .exact .inr rfl
theorem eV (a b:Za5):Av a++Av b=Av (a++b):=by
 refine G6 ?_;show((Av a).cps++(Av b).cps).7=_;rw[su,C3,C3,C3,fi]
theorem Ni {α:Type}(l:List α)(a b:Nat):(l.drop (min a l.9)).take (min b l.9-min a l.9)=(l.drop a).take (b-a):=by
 by_cases h:a<=l.9
 .rw[il h]
  by_cases h2:b<=l.9
  .rw[il h2]
  .rw[rq (),fz (by rw[gz];lia),fz (by rw[gz];lia)]
 .have e:min a l.9=l.9:=()
  rw[e,jk (d8 _),jk ()];simp
theorem Rb (l:Za5)(a b:Nat):Kv (Av l) (KH (a:Int)) (KH (b:Int))=Av ((l.drop a).take (b-a)):=by
 refine G6 ?_;show(wq _ (wt _ _)).toArray.toList=_;rw[lf,_T.sIx_nat,_T.sIx_nat];have e:(Av l).cps.size=l.9:=A7 l;rw[e,C3,C3,o9,qh];have:=Ni (l.map λb=>if b=KJ then 49 else 48) a b;rw[d7] at this;exact this
theorem T4 (xs:List V)(a b:Nat):Ha xs (KH (a:Int)) (KH (b:Int))=(xs.drop a).take (b-a):=by
 unfold Ha;rw[_T.sIx_nat,_T.sIx_nat];exact Ni xs a b
theorem Zy (l:Za5):P9 (Av l) 49=l.count KJ/\P9 (Av l) 48+P9 (Av l) 49=l.9:=by
 unfold P9;rw[C3]
 induction l with
 |nil=>exact⟨rfl,rfl⟩
 |cons b r ih=>cases b<;>simp[ny]<;>lia
theorem Afg (l:Za5):IB.v2 (Xu (Av l)).cps.toList=val l:=by
 show IB.v2 (Av l).cps.toList.reverse.toArray.toList=_;rw[lf,C3,<-ED];unfold IB.v2;rw[List.foldl_map];have e:=oV l 0;rw[Nat.zero_mul,n8] at e;rw[<-e];congr 1
 funext a b
 cases b<;>rfl
abbrev nV (ns:Za4):List V:=ns.map λn:Nat=>V.int n
theorem eP (ns:Za4):nV ns=(ns.map λn:Nat=>(n:Int)).map V.int:=by rw[jg];rfl
theorem L1 (f:Nat->Nat)(i:Nat):nV ((fb (i+1)).map f)=nV ((fb i).map f)++[V.int (f i:Nat)]:=by
 unfold nV;rw[jf,fi,fi];rfl
theorem vK (ns:Za4):(ns.map λn:Nat=>(n:Int)).sum=(ns.sum:Nat):=by
 induction ns with
 |nil=>rfl
 |cons n r ih=>rw[iu,xf,ih,xf];lia
theorem Va (n d:Nat)(hd:0<d):Cp 0 (n:Int) (d:Int)=(n+d-1)/d:=by
 unfold Cp;rw[show(n:Int)-0+(d:Int)-1=((n+d-1:Nat):Int) by lia,<-vb,gu]
theorem few (h:n<=1000):n<=sizeLine:=f9 (Dk h)
theorem Ai (h:n<=100000):n<sizeLine:=qp h (by decide)
theorem gF {l:Za5}{i c:Nat}(h:(Av l).cps[i]?=KH c):∃b,l[i]?=KH b/\c=if b then 49 else 48:=by
 have e:(Av l).cps.toList[i]?=KH c:=by rw[gq];exact h
 rw[C3,d9] at e
 cases hb:l[i]? with
 |none=>rw[hb] at e;cases e
 |some b=>
  rw[hb] at e;exact{b,rfl,(ee e).symm}
theorem Bq {α:Type}{l:List α}{i:Nat}{b:α}(h:l[i]?=KH b):i<l.9:=(fc.mp h).1
def isI:V->Bool
 |.int _=>KJ
 |_=>KL
theorem Ps {l:Za5}{j:Nat}(h:j<By l.9):atI (nV (wordsOf l)) (j:Int)=KH (.int (val (Az l j):Nat)):=by
 refine A9 ?_;unfold nV _W.wordsOf;rw[d9,d9,gd h];rfl
theorem zA (ns:List Int)(lo hi:Option Int):∃ms:List Int,Ha (ns.map V.int) lo hi=ms.map V.int/\ms.9<=ns.9:=by
 refine{(ns.drop (_T.sIx (ns.map V.int).9 0 lo)).take (_T.sIx (ns.map V.int).9 (ns.map V.int).9 hi-_T.sIx (ns.map V.int).9 0 lo),?_,?_}
 .unfold Ha
  rw[o9,qh]
 .rw[fh,gz]
  lia
theorem Je {H5 H6:Hp}{xb dxb:eh}(nb1:H5 xb=KI)(nb2:H5 dxb=KI)(s6:SameBut xb (upd (upd H5 dxb (.own xb)) xb (.ins C dxb [])) H6):Ag H5 H6:=λb u e=>by
 have e1:b≠xb:=Aj e nb1;have e2:b≠dxb:=Aj e nb2;exact s6 _ _ e1 (by rw[Al e1,Al e2];exact e)
def qA:List V:=[.str "0000",.str "1000",.str "0100",.str "1100",.str "0010",.str "1010",.str "0110",.str "1110",.str "0001",.str "1001",.str "0101",.str "1101",.str "0011",.str "1011",.str "0111",.str "1111"]
theorem Aac (m k:Nat){j:Int}(h:j=(k:Int)):l5 (m:Int) (1*2 ^ j.toNat-1)=((m%2 ^ k:Nat):Int):=by
 subst h;rw[gu,Int.one_mul];have e:((2:Int) ^ k-1)=((2 ^ k-1:Nat):Int):=by
  have:1<=2 ^ k:=Nat.one_le_two_pow;rw[Int.natCast_sub this,Int.natCast_pow];rfl
 rw[e];unfold l5;rw[decide_eq_true (kt m),decide_eq_true (kt (2 ^ k-1))];show((m &&& (2 ^ k-1):Nat):Int)=_;rw[rz]
theorem Acl (h:n<2 ^ 32):n ||| 4294967295=4294967295:=by
 refine wo λi=>?_;rw[Nat.testBit_or,show(4294967295:Nat)=2 ^ 32-1 by decide,zm]
 by_cases hi:i<32
 .rw[decide_eq_true hi,Bool.or_true]
 .rw[decide_eq_false hi,AE]
  exact Nat.testBit_lt_two_pow (fv h (CK (by decide) ()))
theorem mB (m k:Nat):vx (m:Int) (k:Int)=((m ||| k:Nat):Int)-((m &&& k:Nat):Int):=by
 have hn:∀x:Int,m8 (m8 x)=x:=λx=>by unfold m8;lia
 have ho:EH (m:Int) (k:Int)=((m ||| k:Nat):Int):=by
  unfold EH l5;rw[decide_eq_false (show ¬(0:Int)<=m8 (m:Int) by unfold m8;lia),decide_eq_false (show ¬(0:Int)<=m8 (k:Int) by unfold m8;lia)];show m8 (m8 _)=_;rw[hn,hn,hn,gu,gu]
 have ha:l5 (m:Int) (k:Int)=((m &&& k:Nat):Int):=by
  unfold l5;rw[decide_eq_true (kt m),decide_eq_true (kt k)];rfl
 unfold vx;rw[ho,ha]
theorem Zr:∀w:Za5,val w+val (w.map λb=>!b)+1=2 ^ w.9
 |[]=>rfl
 |b::r=>by
  have:=Zr r;rw[iu,gm,vo];cases b<;>simp[val]<;>lia
theorem Tt (b:Bool)(l:Za5)(j:Nat):vx ((val (Az l j):Nat):Int) ((Oa b:Nat):Int)=((val (Az l j) ^^^ Oa b:Nat):Int):=by
 have hlt:val (Az l j)<2 ^ 32:=fv (Aaa _) (CK (by decide) (by unfold Az;rw[fh];lia));have h1:=Ma KJ l j;have h0:=Ma b l j;rw[mB,h0]
 cases b with
 |true=>
  rw[<-h0];show(((val (Az l j) ||| 0:Nat):Int)-((val (Az l j) &&& 0:Nat):Int))=((val (Az l j) ^^^ 0:Nat):Int);rw[Nat.or_zero,Nat.and_zero,GX];lia
 |false=>
  show(((val (Az l j) ||| 4294967295:Nat):Int)-((val (Az l j) &&& 4294967295:Nat):Int))=_;rw[Acl hlt,show(4294967295:Nat)=2 ^ 32-1 by decide,rz,Nat.mod_eq_of_lt hlt];have hc:=Zr ((fb 32).map λp=>l.getD (32*j+p) KL==KJ);rw[<-h1,jg,d7,fg] at hc;have e:((fb 32).map ((λb=>!b) ∘ λp=>l.getD (32*j+p) KL==KJ))=(fb 32).map λp=>l.getD (32*j+p) KL==KL:=jd λp _=>by
   show(!(l.getD (32*j+p) KL==KJ))=_;cases l.getD (32*j+p) KL<;>rfl
  rw[e] at hc;have e0:val (Az l j) ^^^ Oa KJ=val (Az l j):=GX _;rw[e0] at hc;lia
theorem Bx (l:Za4):(nV l).9=l.9:=by unfold nV;rw[d7]
theorem pY {l:Za4}{i:Nat}(h:l[i]?=KH n):(nV l)[i]?=KH (.int (n:Nat)):=by
 unfold nV;rw[d9,h];rfl
theorem wP (l m:Za4):nV l++nV m=nV (l++m):=by unfold nV;rw[fi]
theorem Bc {a:eh}{o:HO}(s:Ag H H1)(h:H a=KI):Ag H (upd H1 a o):=λb u e=>by
 rw[Al (Aj e h)];exact s _ _ e
theorem Nd {K:d6}:kitOne K (.type "list") (.type "list")=KH KJ:=by rfl
theorem Sd {l:List Int}{i:Nat}{n:Int}(h:l[i]?=KH n):(l.map V.int)[i]?=KH (.int n):=by
 rw[d9,h];rfl
theorem P7 {l:List Int}{i:Nat}{x:V}(h:(l.map V.int)[i]?=KH x):∃n,l[i]?=KH n/\x=.int n:=by
 rw[d9] at h
 cases e:l[i]? with
 |none=>rw[e] at h;cases h
 |some n=>
  rw[e] at h;exact{n,rfl,(ee h).symm}
theorem Mt {l:List Int}{m:Nat}{x:Int}(h0:0<m)(h:l[m-1]?=KH x):atI ((l.take m).map V.int) (-1)=KH (.int x):=by
 have hm:=Bq h;have e:l.take m=l.take (m-1)++[x]:=by
  rw[show m=m-1+1 by lia,i5,h];rfl
 rw[e,fi];exact iT _ _
theorem Jn {l:List Int}{m:Nat}(h:m<=l.9):((l.take m).map V.int).9=m:=by rw[d7,fh];lia
theorem P4 {l:List Int}{m:Nat}(h:m<=l.9):((l.take m).map V.int).dropLast=(l.take (m-1)).map V.int:=by
 rw[<-List.map_dropLast,List.dropLast_eq_take,oi,fh];congr 2;lia
def qD (H:Hp)(p:eh):Nat:=match H p with|some (.lst xs)=>xs.9|_=>0
theorem Pn {p:eh}(h:H p=KH (.lst xs)):qD H p=xs.9:=by unfold qD;rw[h]
theorem iS {K:d6}{Q:VK}{p:eh}{ls:List (Za5)}(hl:H1 p=KH (.lst (ls.map λl=>.str (Av l))))(hz:ls.flatten.9<=100000)(q:Q (.str (Av ls.flatten)) H1):vE K (.str "") [.ref p] H1 Q:=by
 refine{"",p,ls.map Av,rfl,rfl,SqL.of ?_,?_,?_}
 .rw[hl,jg]
  rfl
 .have e:((ls.map Av).map (·.length)).sum=ls.flatten.9:=by
   rw[List.length_flatten,jg];congr 1;refine jd λl _=>?_;exact A7 l
  rw[e];show ls.flatten.9+_*0<=_;lia
 .have e:ub ("":Str) (ls.map Av)=Av ls.flatten:=by
   refine G6 ?_;rw[No,jg];show((ls.map λl=>(l.map λb=>if b then 49 else 48).toArray.toList)).flatten=(ls.flatten.map _).toArray.toList;simp only[lf];rw[List.map_flatten]
  rw[e];exact q
theorem N4 {ds:Za4}(h:Dok ds):∀k,k<=ds.9->opn ds k<=k
 |0,_=>d8 _
 |k+1,hk=>by
  show dAt ds k+1<=k+1;have:=h k ();have:=N4 h k ();lia
theorem K3 {ds:Za4}{j:Nat}(h:j<ds.9):dAt (ds++[d]) j=dAt ds j:=by
 unfold dAt ju;rw[fw h]
theorem Pd (ds:Za4)(d:Nat):dAt (ds++[d]) ds.9=d:=by
 unfold dAt ju;rw[fk (d8 _),jy];rfl
theorem Pk {ds:Za4}{d:Nat}:∀k,k<=ds.9->opn (ds++[d]) k=opn ds k
 |0,_=>rfl
 |k+1,h=>by
  show dAt (ds++[d]) k+1=dAt ds k+1;rw[K3 ()]
theorem O1 {ds:Za4}{d:Nat}:∀k,k<=ds.9->way (ds++[d]) k=way ds k
 |0,_=>rfl
 |k+1,h=>by
  show(way (ds++[d]) k).take (dAt (ds++[d]) k+1)++[(k:Int)]=_;rw[O1 k (),K3 ()];rfl
theorem hZ {ds:Za4}(h:Dok ds)(hd:d<=opn ds ds.9):Dok (ds++[d]):=λk hk=>by
 rw[eg] at hk;simp only[gm,jt] at hk
 by_cases e:k=ds.9
 .subst e
  rw[Pd,Pk _ (d8 _)];exact hd
 .rw[K3 (),Pk k ()]
  exact h k ()
theorem Zd (ds:Za4)(d:Nat):Ev (ds++[d])=Ev ds++[(way ds ds.9).getD d 0]:=by
 unfold Ev;rw[eg];show(fb (ds.9+1)).map _=_;rw[jf,fi];congr 1
 .refine jd λk hk=>?_
  have hk:=jo.mp hk;unfold eld;rw[O1 k (),K3 hk]
 .show[eld (ds++[d]) ds.9]=_
  unfold eld;rw[O1 _ (d8 _),Pd]
theorem iZ (ds:Za4)(d:Nat):way (ds++[d]) (ds.9+1)=(way ds ds.9).take (d+1)++[(ds.9:Int)]:=by
 show(way (ds++[d]) ds.9).take (dAt (ds++[d]) ds.9+1)++_=_;rw[O1 _ (d8 _),Pd]
theorem F0 {ds:Za4}(h:Dok ds){k:Nat}(hk:k<=ds.9):way ds k=-1::(way ds k).tail:=by
 have e:=Lu h k hk
 cases hw:way ds k with
 |nil=>rw[hw] at e;cases e
 |cons x r=>
  rw[hw] at e;obtain rfl:=ee e;rfl
def isS:V->Bool
 |.str _=>KJ
 |_=>KL
def Agh (K:d6)(H:Hp)(x:V):Prop:=∃t,Of K H x t/\kitOne K t (.type "str")=KH (isS x)
section
variable {K:d6} {H H':Hp}
theorem lB (z:Str):Agh K H (.str z):={_,.str z,by rfl}
end
def hgt (l:Za5)(i:Nat):Int:=2*((l.take i).count KJ:Int)-i
theorem Kx {l:Za5}{i:Nat}{b:Bool}(h:l[i]?=KH b):hgt l (i+1)=hgt l i+if b then 1 else -1:=by
 unfold hgt;rw[i5,h,n6];cases b<;>simp<;>lia
theorem Zj {ds:Za4}{d:Nat}:∀k,k<=ds.9->S3 (ds++[d]) k=S3 ds k
 |0,_=>rfl
 |k+1,h=>by
  rw[Mr,Mr,Zj k ()];unfold Bg;rw[Pk k (),K3 ()]
theorem Mg {row:Za5}{i:Nat}{b:Bool}(h:row[i]?=KH b):row.drop i=b::row.drop (i+1):=by
 have hi:=Bq h;rw[nv hi];rw[d4 hi] at h;rw[ee h]
theorem Ua {row:Za5}(hv:Vs 0 row):∀i,i<=row.9->∃h:Nat,hgt row i=(h:Int)/\Vs h (row.drop i)/\True
 |0,_=>{0,rfl,hv,trivial}
 |i+1,hi=>by
  obtain⟨h,h1,h2,_⟩:=Ua hv i ();obtain⟨b,hb⟩:∃b,row[i]?=KH b:={row[i],d4 ()};have hs:=Kx hb;rw[Mg hb] at h2
  cases b with
  |false=>
   obtain⟨g,rfl⟩:∃g,h=g+1:={h-1,by have:=h2.1;lia};have hs:hgt row (i+1)=hgt row i + -1:=hs;exact{g,(),h2.2,trivial}
  |true=>
   have hs:hgt row (i+1)=hgt row i+1:=hs;exact{h+1,(),h2,trivial}
structure Gq (H H':Hp):Prop where
 keep:∀b u,(∀ps,u≠.tbl ps)->H b=KH u->H' b=KH u
 tb:∀b ps,H b=KH (.tbl ps)->∃ps',H' b=KH (.tbl ps')
theorem Gq.refl (H:Hp):Gq H H:={λ_ _ _ e=>e,λ_ ps e=>⟨ps,e⟩}
theorem Gq.trans (a:Gq H H1)(b:Gq H1 H2):Gq H H2:={λc u n e=>b.keep c u n (a.keep c u n e),λc ps e=>let ⟨ps',e'⟩:=a.tb c ps e;b.tb c ps' e'}
theorem Gq.tup (s:Gq H H'){a:eh}(h:H a=KH (.tup xs)):H' a=KH (.tup xs):=s.keep _ _ (by intro ps e;cases e) h
theorem Gq.seq {K:d6}{a:eh}(s:Gq H H')(h:SqL K H a xs):SqL K H' a xs:=by
 rcases h with(h|⟨o,h⟩)|h
 .exact .inl (.inl (s.keep _ _ (by intro ps e;cases e) h))
 .exact .inl (.inr {o,s.keep _ _ (by intro ps e;cases e) h})
 .exact .inr h
theorem yU (s:Ag H H'):Gq H H':={λb u _ e=>s b u e,λb ps e=>{ps,s b _ e}}
theorem Gq.free (s:Gq H H'){l:eh}(e:H' l=KI):H l=KI:=by
 cases q:H l with
 |none=>rfl
 |some o=>
  by_cases ho:∃ps,o=.tbl ps
  .obtain⟨ps,rfl⟩:=ho
   obtain⟨ps',e2⟩:=s.tb l ps q;rw[e2] at e;cases e
  .rw[s.keep l o (λps z=>ho ⟨ps,z⟩) q] at e;cases e
structure Tb where
 P:eh
 pos:Pos
 qual:Str
def Tb.ok (t:Tb)(H:Hp):Prop:=Pf H t.P t.pos t.qual
theorem Tb.same {t:Tb}(s:Ag H H')(h:t.ok H):t.ok H':=by
 obtain⟨ps,e1,e2,e3⟩:=h;exact{ps,s _ _ e1,e2,e3.imp id λ⟨c,oc,a1,a2,a3⟩=>{c,oc,a1,s _ _ a2,a3}}
theorem Tb.sameX {t:Tb}{P:eh}(s:Om P H H')(hP:∃ps,H P=KH (.tbl ps))(n:t.P≠P)(h:t.ok H):t.ok H':=by
 obtain⟨ps,e1,e2,e3⟩:=h;obtain⟨ps',hP⟩:=hP;exact{ps,s _ _ n e1,e2,e3.imp id λ⟨c,oc,a1,a2,a3⟩=>{c,oc,a1,s _ _ (λz=>by rw[z,hP] at a2;cases a2) a2,a3}}
theorem Aax {P:eh}(s:Om P H H')(hP:∃ps,H P=KH (.tbl ps))(hP':∃ps,H' P=KH (.tbl ps)):Gq H H':=by
 refine{λb u n e=>s b u (λz=>?_) e,λb ps e=>?_}
 .obtain⟨ps,hP⟩:=hP
  rw[z,hP] at e;cases e;exact n ps rfl
 .by_cases hb:b=P
  .rw[hb];exact hP'
  .exact{ps,s b _ hb e}
theorem Tb.tbl {t:Tb}(h:t.ok H):∃ps,H t.P=KH (.tbl ps):=let ⟨ps,e,_⟩:=h;⟨ps,e⟩
def Tbs (ts:List Tb)(H:Hp):Prop:=(∀t∈ts,t.ok H)/\(ts.map (·.P)).Nodup
structure SmT (ts:List Tb) (H H':Hp):Prop where
 sm:Gq H H'
 ok:Tbs ts H'
theorem Tbs.same {ts:List Tb}(h:Tbs ts H)(s:Ag H H'):Tbs ts H':={λt ht=>Tb.same s (h.1 t ht),h.2}
theorem SmT.of {ts:List Tb}(h:Tbs ts H)(s:Ag H H'):SmT ts H H':={yU s,h.same s}
theorem SmT.refl {ts:List Tb}(h:Tbs ts H):SmT ts H H:={Gq.refl _,h}
theorem SmT.trans {ts:List Tb}(a:SmT ts H H1)(b:SmT ts H1 H2):SmT ts H H2:={a.sm.trans b.sm,b.ok}
theorem SmT.then {ts:List Tb}(a:SmT ts H H1)(b:Ag H1 H2):SmT ts H H2:=a.trans (.of a.ok b)
theorem SmT.k {ts:List Tb}(s:SmT ts H H'){b:eh}{u:HO}(h:H b=KH u)(n:∀ps,u≠.tbl ps:=by intro ps e;cases e):H' b=KH u:=s.sm.keep _ _ n h
theorem wV:∀{ts:List Tb} {t u:Tb},(ts.map (·.P)).Nodup->t∈ts->u∈ts->t.P=u.P->t=u
 |[],_,_,_,h,_,_=>nomatch h
 |x::r,t,u,hn,ht,hu,e=>by
  rw[iu,o7] at hn;rcases ir.mp ht with rfl|ht'<;>rcases ir.mp hu with rfl|hu'
  .rfl
  .exact absurd (oh (f:=(·.P)) hu') (by rw[<-e];exact hn.1)
  .exact absurd (oh (f:=(·.P)) ht') (by rw[e];exact hn.1)
  .exact wV hn.2 ht' hu' e
theorem wC {ts:List Tb}{t:Tb}(h:Tbs ts H)(ht:t∈ts)(s:Om t.P H H')(ok:t.ok H'):SmT ts H H':=by
 have hP:=Tb.tbl (h.1 t ht);refine{Aax s hP (Tb.tbl ok),λu hu=>?_,h.2}
 by_cases e:u.P=t.P
 .have:u=t:=wV h.2 hu ht e
  rw[this];exact ok
 .exact Tb.sameX s hP e (h.1 u hu)
def Agc (xs:List V)(k:Nat):Prop:=∃n:Nat,xs[k]?=KH (.int n)/\n<xs.9/\∀j,j<k->xs[j]?≠KH (.int n)
def Adw (xs:List V):Prop:=∀j,j<xs.9->Agc xs j
def Met (xs:List V)(k:Nat)(ms:Za5):Prop:=ms.9=xs.9/\∀(i:Nat) b,ms[i]?=KH b->(b=KJ↔∃j,j<k/\xs[j]?=KH (.int i))
theorem Aaq (xs:List V):Met xs 0 (fe xs.9 KL):=by
 refine{i6,λi b h=>?_};rw[qt] at h;split at h
 .cases h
  exact{λz=>by(cases z),λ⟨j,hj,_⟩=>absurd hj (zg _)}
 .cases h
theorem vB {k:Nat}{ms:Za5}(h:Met xs k ms)(hk:xs[k]?=KH (.int n)):Met xs (k+1) (ms.set n KJ):=by
 refine{by rw[y3];exact h.1,λi b hb=>?_};rw[List.getElem?_set] at hb
 by_cases e:n=i
 .rw[if_pos e] at hb
  split at hb
  .cases hb
   exact{λ_=>{k,nh _,by rw[hk,e]},λ_=>rfl}
  .cases hb
 .rw[if_neg e] at hb
  rw[h.2 i b hb]
  constructor
  .rintro⟨j,hj,hx⟩
   exact{j,(),hx}
  .rintro⟨j,hj,hx⟩
   rcases mv (Nat.le_of_lt_succ hj) with h1|h1
   .exact⟨j,h1,hx⟩
   .rw[h1,hk] at hx
    have:=V.int.inj (ee hx);lia
theorem Aan (ms:Za5)(n:Nat)(b:Bool):(ms.map V.bl).set n (.bl b)=(ms.set n b).map V.bl:=by rw[List.map_set]
theorem yJ (n:Nat):(fe n [V.bl KL]).flatten=(fe n KL).map V.bl:=by
 induction n with
 |zero=>rfl
 |succ n ih=>rw[i8,jn,ih,i8];rfl
theorem Ac6 {ms:Za5}{i:Nat}{b:Bool}(h:ms[i]?=KH b):(ms.map V.bl)[i]?=KH (.bl b):=by
 rw[d9,h];rfl
theorem Mv (l:Za4)(n:Nat):nV l++[V.int n]=nV (l++[n]):=by
 show _=x4 _ _;rw[fi];rfl
theorem Tf {v:V}(h:xs[xs.9-1]?=KH v):atI xs (-1)=KH v:=by
 have hl:=Bq h;unfold atI ixN;rw[if_neg (by decide),if_pos ()];show xs[((-1:Int)+(xs.9:Int)).toNat]?=_;rw[show((-1:Int)+(xs.9:Int)).toNat=xs.9-1 by lia];exact h
theorem Tbs.keepN {ts:List Tb}{p:eh}{o o':HO}(h:Tbs ts H)(hp:H p=KH o')(nt:∀ps,o'≠.tbl ps:=by intro ps e;cases e)(nf:∀a b,o'≠.frz a b:=by intro a b e;cases e):Tbs ts (upd H p o):=by
 refine{λt ht=>?_,h.2};obtain⟨ps,e1,e2,e3⟩:=h.1 t ht;exact{ps,by rw[Al (λz=>by rw[z,hp] at e1;exact nt _ (ee e1))];exact e1,e2,e3.imp id λ⟨c,oc,a1,a2,a3⟩=>{c,oc,a1,by rw[Al (λz=>by rw[z,hp] at a2;exact nf _ _ (ee a2))];exact a2,a3}}
structure SmB (ts:List Tb) (x:eh) (H H':Hp):Prop where
 keep:∀b u,b≠x->(∀ps,u≠.tbl ps)->H b=KH u->H' b=KH u
 tb:∀b ps,H b=KH (.tbl ps)->∃ps',H' b=KH (.tbl ps')
 ok:Tbs ts H'
theorem SmB.k {ts:List Tb}{x:eh}(s:SmB ts x H H'){b:eh}{u:HO}(h:H b=KH u)(ne:b≠x)(n:∀ps,u≠.tbl ps:=by intro ps e;cases e):H' b=KH u:=s.keep _ _ ne n h
theorem SmB.refl {ts:List Tb}{x:eh}(h:Tbs ts H):SmB ts x H H:={λ_ _ _ _ e=>e,λ_ ps e=>⟨ps,e⟩,h}
theorem SmB.trans {ts:List Tb}{x:eh}(a:SmB ts x H H1)(b:SmB ts x H1 H2):SmB ts x H H2:={λc u n1 n2 e=>b.keep c u n1 n2 (a.keep c u n1 n2 e),λc ps e=>let ⟨ps',e'⟩:=a.tb c ps e;b.tb c ps' e',b.ok}
theorem SmB.sm {ts:List Tb}{x:eh}(a:SmB ts x H H1)(b:SmT ts H1 H2):SmB ts x H H2:=a.trans {λc u _ n e=>b.sm.keep c u n e,b.sm.tb,b.ok}
theorem SmB.then {ts:List Tb}{x:eh}(a:SmB ts x H H1)(b:Ag H1 H2):SmB ts x H H2:=a.sm (.of a.ok b)
theorem SmB.put {ts:List Tb}{x:eh}{o o':HO}(a:SmB ts x H H1)(hx:H1 x=KH o)(nt:∀ps,o≠.tbl ps:=by intro ps e;cases e)(nf:∀a b,o≠.frz a b:=by intro a b e;cases e):SmB ts x H (upd H1 x o'):=by
 refine a.trans {λb u n _ e=>by rw[Al n];exact e,λb ps e=>{ps,?_},a.ok.keepN hx nt nf};rw[Al (λz=>by rw[z,hx] at e;exact nt _ (ee e))];exact e
theorem Mi {K:d6}{ts:List Tb}{x:eh}{fs:List (Str×V)}{f:Str}{R:Hp->Prop}(h:H x=KH (.ins C dx fs))(c:Cls K C)(n:Bf K C f)(l:fs.9<1000)(b:SmB ts x H0 H)(q:∀H',H' x=KH (.ins C dx (Ga f y fs))->SmB ts x H0 H'->SmB ts x H H'->R H') :
  ∃a' C' dx' fs',V.ref x=.ref a'/\H a'=KH (.ins C' dx' fs')/\Cls K C'/\Bf K C' f/\fs'.9<1000/\R (upd H a' (.ins C' dx' (Ga f y fs'))):=
 {x,C,dx,fs,rfl,h,c,n,l,q _ Af (b.put h) ((SmB.refl b.ok).put h)}
theorem SmB.made {ts:List Tb}{x:eh}(hx:H x=KI)(hdx:H dx=KI)(s:SmB ts x (upd (upd H dx (.own x)) x (.ins C dx [])) H'):SmT ts H H':=by
 have kp:∀b u,H b=KH u->b≠x/\upd (upd H dx (.own x)) x (.ins C dx []) b=KH u:=λb u e=>by
  have e1:b≠x:=Aj e hx;have e2:b≠dx:=Aj e hdx;exact{e1,by rw[Al e1,Al e2];exact e}
 exact{{λb u n e=>s.keep b u (kp b u e).1 n (kp b u e).2,λb ps e=>s.tb b ps (kp b _ e).2},s.ok}
def Kp (H H':Hp):Prop:=∀b u,(∀ps,u≠HO.tbl ps)->H b=KH u->H' b=KH u
theorem Ag.kp (s:Ag H H'):Kp H H':=λb u _ e=>s b u e
theorem SmT.kp {ts:List Tb}(s:SmT ts H H'):Kp H H':=λb u n e=>s.sm.keep b u n e
theorem Kp.k (s:Kp H H'){b:eh}{u:HO}(h:H b=KH u)(n:∀ps,u≠.tbl ps:=by intro ps e;cases e):H' b=KH u:=s b u n h
def Ro (e:eh)(H:Hp):Hp:=λb=>if b=e then KI else H b
theorem dW {e b:eh}(h:b≠e):Ro e H b=H b:=if_neg h
theorem pV {e b:eh}{u:HO}(h:Ro e H b=KH u):b≠e/\H b=KH u:=by
 unfold Ro at h;split at h
 .cases h
 .rename_i hb
  exact⟨hb,h⟩
theorem Lz {x:eh}{o o':HO}(hx:H1 x=KI)(hd:H1 dx=KI):Ag H1 (upd (upd H1 dx o) x o'):=λb u e=>by rw[Al (Aj e hx),Al (Aj e hd)];exact e
inductive sE (K:d6)(ts:List Tb)(vs:List V)(H:Hp)(Q:VK)(E:XK):Prop|mk(a:eh)(ns:List Int)(_:vs=[.ref a])(_:SqL K H a (ns.map V.int))(_:ns.9<=63)(_:Tbs ts H)(_:∀H',Q (.bl KJ) H')
abbrev tz:List Tb:=[{425,Gc,"Counts.block_with.<locals>.<lambda>"},{560,Lm,"Named.__init__.<locals>.<lambda>"},{647,Gv,"Named.first_from.<locals>.<lambda>"}]
abbrev AllMk:Prop:=∀{l:yb} {w:ip} {K:d6} {h:jm} {mg:Za2} {fa:eh} (X:K.In h) (G:h.Ns mainGlobals mg) (hfa:mg "law"=KH (.ref fa))
  {ac ab ag ae aa ad bn bo:eh}
  {f26:eh} {ai1 ai2:Option eh} {ai3:Array (Za7)} {ai4 ai5 ai6 ai7 ai8:fj}
  {ah1:Obj}
  {f33:eh} {ai9 ah2:Option eh} {aj0:Array (Za7)} {aj1 ah3 ah4 ah5 ag1 ah6:fj}
  {T33:eh} {ah7:Obj} {ah8:fj} {aj2:Nat}
  {f78:eh} {aj3 aj4:Option eh} {aj5:Array (Za7)} {aj6 aj7 aj8 aj9 ak0:fj}
  {ah9:Obj}
  {f83:eh} {ak1 ak2:Option eh} {ak3:Array (Za7)} {ak4 ak5 ak6 ak7 ak8:fj}
  {ai0:Obj}
  {ao:eh} {aa3:Obj} {aa4:Array fj} {ac1:Nat}
  {ap:eh} {aa1:Obj} {aa2:Array fj} {ab9:Nat}
  {ae0 ae1 ad5 ad6 ae2 ac2 ad1 ad7 ac3 ad2 ae6:Tok}
  (ae3:CD K ac "Bits")
  (ac8:FD K ac ["length","many_ones","kept_words"])
  (ad3:CD K ab "Counts")
  (ab8:FD K ab ["length","kept_words","kept_table"])
  (aa0:CD K ag "Shortcuts")
  (aa5:FD K ag ["onward","leaps"])
  (ac6:CD K ae "Named")
  (ab1:FD K ae ["kept_wood","places","begins","kept_stretches","spans","namesakes"])
  (ad8:CD K aa "Pairs")
  (ab7:FD K aa ["bits","counts","length","kept_table","often_least"])
  (ad4:CD K ad "Opened")
  (ac7:FD K ad ["pairs"])
  (ac9:BC K bn "Heights")
  (ac4:BC K bo "Openings")
  (g0:GD K "is_whole" Nv)
  (g1:GD K "is_within" Le)
  (g2:GD K "check_bit" K2)
  (g3:GD K "check_place" Ix)
  (g4:GD K "check_stretch" G3)
  (g5:GD K "check_knot" J7)
  (g6:GD K "ones_in" Rs)
  (g7:GD K "nth_of_four" Gm)
  (g8:GD K "nth_one" Rp)
  (g9:GD K "is_row" Ue)
  (g10:GD K "word_of" Rh)
  (g11:GD K "words_of" Ke)
  (g12:GD K "signs_of" Kl)
  (g13:MD K ac "__init__" "Bits.__init__" Lx)
  (g14:MD K ac "size" "Bits.size" La)
  (g15:MD K ac "words" "Bits.words" J0)
  (g16:MD K ac "stretch" "Bits.stretch" F2)
  (g17:MD K ac "bit" "Bits.bit" N3)
  (g18:GD K "first_that" Km)
  (g19:GD K "running_sums" Ib)
  (g20:GD K "table_of_words" C0)
  (g21:MD K ab "__init__" "Counts.__init__" Ir)
  (g22:MD K ab "ones_ahead" "Counts.ones_ahead" Ei)
  (g23:MD K ab "ahead" "Counts.ahead" Hk)
  (g24:MD K ab "ahead_of_block" "Counts.ahead_of_block" C1)
  (g25:MD K ab "many_like" "Counts.many_like" Fh)
  (i26:qo K (.ref f26)=KJ)
  (a26:j8 K (.ref ab) "block_with"=KH (KH (.ref f26))) (l26:K.lookup f26=KH {ai4,ai1,.func (jl "block_with" "Counts.block_with" (B2 Bi) (Bj Bi) (Ac Bi) .none ai5 ai6 ai7 ai2 (.ref 429) ai8),ai3}) (c26:lz K (.ref 429) "Counts.block_with"=KJ) (k26:ki K (.ref f26)=KJ)
  (ag2:K.lookup 429=KH ah1) (ag3:J8 ah1 429 425)
  (g27:MD K ab "place_from" "Counts.place_from" El)
  (g28:MD K ab "place_of" "Counts.place_of" F3)
  (g29:GD K "begins_of" Il)
  (g30:GD K "check_order" Iv)
  (g31:GD K "rounds_of" L0)
  (g32:GD K "shortcuts_of" Hw)
  (i33:qo K (.ref f33)=KJ)
  (a33:j8 K (.ref ag) "__init__"=KH (KH (.ref f33))) (l33:K.lookup f33=KH {aj1,ai9,.func (jl "__init__" "Shortcuts.__init__" (B2 B5) (Bj B5) (Ac B5) (.ref T33) ah3 ah4 ah5 ah2 ag1 ah6),aj0}) (c33:lz K ag1 "Shortcuts.__init__"=KJ) (k33:ki K (.ref f33)=KJ)
  (af9:K.lookup T33=KH ah7) (ag0:ah7.data=.seq #[ah8] aj2)
  (ag4:A8 (.int 16) ah8)
  (g34:MD K ag "there" "Shortcuts.there" Ft)
  (g35:GD K "heights_of" J9)
  (g36:GD K "check_row" Ln)
  (g37:BD K bn "__init__" "Heights.__init__" Hq)
  (g38:MD K aa "opens_ahead" "Pairs.opens_ahead" Eh)
  (g39:MD K aa "height" "Heights.height" Gh)
  (g40:MD K aa "stretch" "Pairs.stretch" G0)
  (g41:MD K aa "size" "Heights.size" Hn)
  (g42:MD K aa "text" "Heights.text" Hm)
  (g43:MD K aa "__init__" "Pairs.__init__" C7)
  (g44:MD K aa "stretch_at" "Pairs.stretch_at" Fa)
  (g45:MD K aa "begin_of" "Pairs.begin_of" Gg)
  (g46:MD K aa "parts" "Heights.parts" E2)
  (g47:MD K aa "may_meet" "Heights.may_meet" Fb)
  (g48:MD K aa "heights_within" "Heights.heights_within" Cv)
  (g49:MD K aa "next_within" "Heights.next_within" Dm)
  (g50:MD K aa "last_within" "Heights.last_within" Dl)
  (g51:GD K "check_height" Hi)
  (g52:MD K aa "next_at" "Heights.next_at" F8)
  (g53:MD K aa "last_at" "Heights.last_at" Fr)
  (g54:MD K aa "is_opening" "Pairs.is_opening" E4)
  (g55:MD K aa "partner" "Heights.partner" F4)
  (g56:MD K aa "is_stretch" "Heights.is_stretch" Dw)
  (g57:MD K aa "least_within" "Heights.least_within" Df)
  (g58:MD K aa "lowest" "Heights.lowest" Ef)
  (g59:MD K aa "opening" "Pairs.opening" G1)
  (g60:GD K "look_at" Rt)
  (g61:GD K "depths_of" Lc)
  (g62:GD K "row_of" U0)
  (g63:GD K "elders_of" K7)
  (g64:BD K bo "__init__" "Openings.__init__" Gx)
  (g65:MD K ad "__init__" "Opened.__init__" Iu)
  (g66:MD K ad "many_knots" "Openings.many_knots" Dn)
  (g67:MD K ad "row" "Openings.row" Hs)
  (g68:MD K ad "elders" "Openings.elders" Fs)
  (g69:MD K ad "opening" "Openings.opening" E6)
  (g70:MD K ad "closing" "Openings.closing" E8)
  (g71:MD K ad "knot_at" "Openings.knot_at" Ff)
  (g72:MD K ad "beneath" "Openings.beneath" E5)
  (g73:MD K ad "nearest" "Openings.nearest" E9)
  (g74:GD K "is_name" Mw)
  (g75:GD K "check_names" Iw)
  (g76:GD K "stretches_of" Dz)
  (g77:GD K "namesakes_above" F6)
  (i78:qo K (.ref f78)=KJ)
  (a78:j8 K (.ref ae) "__init__"=KH (KH (.ref f78))) (l78:K.lookup f78=KH {aj6,aj3,.func (jl "__init__" "Named.__init__" (B2 Dc) (Bj Dc) (Ac Dc) .none aj7 aj8 aj9 aj4 (.ref 562) ak0),aj5}) (c78:lz K (.ref 562) "Named.__init__"=KJ) (k78:ki K (.ref f78)=KJ)
  (ag5:K.lookup 562=KH ah9) (ag6:J8 ah9 562 560)
  (g79:MD K ae "knots_at" "Named.knots_at" Ee)
  (g80:GD K "check_name" Ko)
  (g81:MD K ae "check_both" "Named.check_both" E3)
  (g82:MD K ae "span_of" "Named.span_of" Gw)
  (i83:qo K (.ref f83)=KJ)
  (a83:j8 K (.ref ae) "first_from"=KH (KH (.ref f83))) (l83:K.lookup f83=KH {ak4,ak1,.func (jl "first_from" "Named.first_from" (B2 Br) (Bj Br) (Ac Br) .none ak5 ak6 ak7 ak2 (.ref 651) ak8),ak3}) (c83:lz K (.ref 651) "Named.first_from"=KJ) (k83:ki K (.ref f83)=KJ)
  (ag7:K.lookup 651=KH ai0) (ag8:J8 ai0 651 647)
  (g84:MD K ae "span_beneath" "Named.span_beneath" D4)
  (g85:MD K ae "all_of" "Named.all_of" Hl)
  (g86:MD K ae "many_beneath" "Named.many_beneath" Dx)
  (g87:MD K ae "all_beneath" "Named.all_beneath" Ej)
  (g88:MD K ae "next_of" "Named.next_of" Gz)
  (g89:MD K ae "elder_of" "Named.elder_of" Gk)
  (g90:GD K "_law_cell_at" Io)
  (g91:GD K "_law_whole" Ky)
  (g92:GD K "_law_mixed" Lw)
  (g93:GD K "_law_digits" Kk)
  (g94:GD K "_law_wood" Nl)
  (g95:GD K "_law_names" Fk)
  (g96:GD K "_law_is_at" K4)
  (g97:GD K "_law_elder" L7)
  (g98:GD K "_law_list" Kc)
  (g99:GD K "_law_one" Ry)
  (ag9:GD K "_law_good" Gf)
  (ah0:GD K "law" Y6)
  (cU:iq K mainGlobals "ONES_OF_FOUR"=KH (KH (.ref ao))) (ab2:K.lookup ao=KH aa3) (ab3:aa3.cls=.type "tuple") (ab4:aa3.data=.seq aa4 ac1) (ab5:aa4.8<=sizeLine) (ab6:Ax (Y0.map λn:Nat=>V.int n) aa4.7)
  (df:iq K mainGlobals "SIGNS_OF_FOUR"=KH (KH (.ref ap))) (aa6:K.lookup ap=KH aa1) (aa7:aa1.cls=.type "tuple") (aa8:aa1.data=.seq aa2 ab9) (aa9:aa2.8<=sizeLine) (ab0:Ax (qA) aa2.7)
  (cL:iq K mainGlobals "WORD_BITS"=KH (KH (.int 32 ae0)))
  (c6:iq K mainGlobals "MOST_BITS"=KH (KH (.int 20000 ae1)))
  (cP:iq K mainGlobals "BLOCK_WORDS"=KH (KH (.int 8 ad5)))
  (cX:iq K mainGlobals "BLOCK_BITS"=KH (KH (.int 256 ad6)))
  (da:iq K mainGlobals "FULL_WORD"=KH (KH (.int 4294967295 ae2)))
  (cY:iq K mainGlobals "MOST_SIGNS_pairs"=KH (KH (.int 8192 ac2)))
  (cR:iq K mainGlobals "STRETCH_BITS"=KH (KH (.int 256 ad1)))
  (c8:iq K mainGlobals "MOST_KNOTS"=KH (KH (.int 4000 ad7)))
  (de:iq K mainGlobals "MOST_SIGNS_woods"=KH (KH (.int 8000 ac3)))
  (cZ:iq K mainGlobals "MOST_LETTERS"=KH (KH (.int 8 ad2)))
  (dg:iq K mainGlobals "LETTERS"=KH (KH (.str "abcdefghijklmnopqrstuvwxyz" ae6)))
  (ae4:iq K mainGlobals "range"=KH KI)
  (af0:iq K mainGlobals "len"=KH KI)
  (af1:iq K mainGlobals "int"=KH KI)
  (ae7:iq K mainGlobals "bool"=KH KI)
  (af2:iq K mainGlobals "str"=KH KI)
  (ac0:iq K mainGlobals "isinstance"=KH KI)
  (ae8:iq K mainGlobals "list"=KH KI)
  (ae5:iq K mainGlobals "tuple"=KH KI)
  (ae9:iq K mainGlobals "dict"=KH KI)
  (ac5:iq K mainGlobals "enumerate"=KH KI)
  (af3:iq K mainGlobals "zip"=KH KI)
  (af4:iq K mainGlobals "sum"=KH KI)
  (af5:iq K mainGlobals "abs"=KH KI)
  (af6:iq K mainGlobals "max"=KH KI)
  (af7:iq K mainGlobals "min"=KH KI)
  (ad9:iq K mainGlobals "sorted"=KH KI)
  (af8:iq K mainGlobals "all"=KH KI)
  (ad0:iq K mainGlobals "reversed"=KH KI),
   ∃fd:jx,(∀(s:ft) (v:fj),AV s fd {[v],[]} [("_law_script",v)])/\∀base:jm,K.In base->base.Ns mainGlobals mg->(∀q∈([(429,425),(562,560),(651,647)]:List (eh×eh)),base.BuiltinsAt mg q.2)->Ar l.prog w K mg base CX0 16 fa fd ["_law_script"] (sE K tz)
theorem walk {l:yb}{q:gl}{loose:Za6}{XP:(Za2)->jm->Prop}{YP:ip->jm->Prop}{d:IZ}{K:zu->d6}(hn:l.most=KH 63)(hdf:d.params.defaults=[])
  (hY:∀(w:ip) (h:jm),YP w h->(K w.params).In h)(hTb:∀(w:ip) (h:jm),YP w h->yq [(429,425),(562,560),(651,647)] h)(hTK:∀w:ip,∀p∈([(429,425),(562,560),(651,647)]:List (eh×eh)),(K w.params).lookup p.2=KI)
  (F:∀(w:ip) (mg:Za2) (fa:eh) (h:jm),(K w.params).In h->h.Ns mainGlobals mg->mg d.name=KH (.ref fa) ->
   ∃fd:jx,(∀(s:ft) (u:fj),AV s fd {[u],[]} [("_law_script",u)])/\∀base:jm,(K w.params).In base->base.Ns mainGlobals mg->(∀q∈([(429,425),(562,560),(651,647)]:List (eh×eh)),base.BuiltinsAt mg q.2)->Ar l.prog w (K w.params) mg base CX0 16 fa fd ["_law_script"] (sE (K w.params) tz)) :
  DV q loose XP YP l.row.toRowW d [] (λf vs=>CI f vs):=
 _L.tM (n:=63) (k:=16) (x:="_law_script") (tabs:=[(429,425),(562,560),(651,647)]) (CX:=λ_=>CX0) (sp:=λw=>(sE (K w.params) tz)) hn (by decide) hdf {rfl,by decide,by decide} hY hTb hTK F (λ_ _ a ns hl hO hS=>{a,ns,rfl,hS,hl,{ko.mpr {{#[],hO (429,425) (by simp),trivial,.inl rfl},ko.mpr {{#[],hO (562,560) (by simp),trivial,.inl rfl},ko.mpr {{#[],hO (651,647) (by simp),trivial,.inl rfl},λ_ h=>nomatch h}}},by decide},λ_=>rfl}) λ_ _ _ _ _ z=>z
end _K
end
section
set_option hygiene false in
local macro_rules | `(tactic| o_head $H)=>`(tactic| (refine PySem.W.holds_open (q:=HD.VQ) (loose:=HD.loose) (d:=HD.LD) (kwd:=[]) (Xt:=λ_=>true) (XP:=λ_ _=>True) (Yf:=z8 $H) (Ya:=z7 $H) (YP:=HJ $H) (N:=100000) (HD.left_of3 (p:=im) (q:=HD.VQ) (loose:=HD.loose) (Yf:=z8 $H) (Ya:=z7 $H) (N:=100000) (M:=100000) (by kernel_rfl) (λ_=>by kernel_rfl) (by kernel_rfl) (by kernel_rfl) HD.A_ok HD.B_ok (HD.hC_km (λw=>by rw [HD.oneP_eq];kernel_rfl))) (HK $H) (HL $H) (λ_ _=>trivial) (λ_ _ _ _ _=>trivial) (by kernel_rfl) (by kernel_rfl) (by kernel_rfl) (λ_ _=>PySem.W.recFacts_nil rfl) rfl (by assumption) (by decide +kernel) ⟨rfl,rfl,rfl,rfl,rfl,by decide +kernel⟩ ?_ ?_))
open PySem PySem.W PyProof.Rows
set_option maxRecDepth 100000 in
set_option maxHeartbeats 0 in
theorem _K.HEAD (AM:_K.AllMk):m5.Holds:=by
 w_on;o_law;k_head
 ·w_witness2
 k_fill
 refine _K.walk (l:=m5) rfl (by kernel_rfl) (λw h Y=>BB Y) (λw h Y=>ko.mpr ⟨⟨wc (c:=429) (P:=425) (BB Y) (by kernel_rfl),wm Y 425 (by simp)⟩,ko.mpr ⟨⟨wc (c:=562) (P:=560) (BB Y) (by kernel_rfl),wm Y 560 (by simp)⟩,ko.mpr ⟨⟨wc (c:=651) (P:=647) (BB Y) (by kernel_rfl),wm Y 647 (by simp)⟩,λ_ h=>nomatch h⟩⟩⟩) (λw=>ko.mpr ⟨by kernel_rfl,ko.mpr ⟨by kernel_rfl,ko.mpr ⟨by kernel_rfl,λ_ h=>nomatch h⟩⟩⟩) ?F
 case F=>
  intro w mg fa h KX G hmg;refine' AM KX G hmg ?ae3 ?ac8 ?ad3 ?ab8 ?aa0 ?aa5 ?ac6 ?ab1 ?ad8 ?ab7 ?ad4 ?ac7 ?ac9 ?ac4 ?g0 ?g1 ?g2 ?g3 ?g4 ?g5 ?g6 ?g7 ?g8 ?g9 ?g10 ?g11 ?g12 ?g13 ?g14 ?g15 ?g16 ?g17 ?g18 ?g19 ?g20 ?g21 ?g22 ?g23 ?g24 ?g25 ?i26 ?a26 ?l26 ?c26 ?k26 ?ag2 ?ag3 ?g27 ?g28 ?g29 ?g30 ?g31 ?g32 ?i33 ?a33 ?l33 ?c33 ?k33 ?af9 ?ag0 ?ag4 ?g34 ?g35 ?g36 ?g37 ?g38 ?g39 ?g40 ?g41 ?g42 ?g43 ?g44 ?g45 ?g46 ?g47 ?g48 ?g49 ?g50 ?g51 ?g52 ?g53 ?g54 ?g55 ?g56 ?g57 ?g58 ?g59 ?g60 ?g61 ?g62 ?g63 ?g64 ?g65 ?g66 ?g67 ?g68 ?g69 ?g70 ?g71 ?g72 ?g73 ?g74 ?g75 ?g76 ?g77 ?i78 ?a78 ?l78 ?c78 ?k78 ?ag5 ?ag6 ?g79 ?g80 ?g81 ?g82 ?i83 ?a83 ?l83 ?c83 ?k83 ?ag7 ?ag8 ?g84 ?g85 ?g86 ?g87 ?g88 ?g89 ?g90 ?g91 ?g92 ?g93 ?g94 ?g95 ?g96 ?g97 ?g98 ?g99 ?ag9 ?ah0 ?cU ?ab2 ?ab3 ?ab4 ?ab5 ?ab6 ?df ?aa6 ?aa7 ?aa8 ?aa9 ?ab0 ?cL ?c6 ?cP ?cX ?da ?cY ?cR ?c8 ?de ?cZ ?dg ?ae4 ?af0 ?af1 ?ae7 ?af2 ?ac0 ?ae8 ?ae5 ?ae9 ?ac5 ?af3 ?af4 ?af5 ?af6 ?af7 ?ad9 ?af8 ?ad0
  (case ae3|ad3|aa0|ac6|ad8|ad4|ac9|ac4=>refine' ⟨?_,?_,?_⟩<;>try k_is)
  (case ac8|ab8|aa5|ab1|ab7|ac7=>refine' _L.fD ?_ ?_ ?_ ?_ ?_<;>try first|k_is|kernel_rfl)
  (case g0|g1|g2|g3|g4|g5|g6|g7|g8|g9|g10|g11|g12|g18|g19|g20|g29|g30|g31|g32|g35|g36|g51|g60|g61|g62|g63|g74|g75|g76|g77|g80|g90|g91|g92|g93|g94|g95|g96|g97|g98|g99|ag9|ah0=>as_aux_lemma=>(refine' _L.gD ?_ ?_ ?_ ?_<;>try k_is))
  (case g13|g14|g15|g16|g17|g21|g22|g23|g24|g25|g27|g28|g34|g38|g39|g40|g41|g42|g43|g44|g45|g46|g47|g48|g49|g50|g52|g53|g54|g55|g56|g57|g58|g59|g65|g66|g67|g68|g69|g70|g71|g72|g73|g79|g81|g82|g84|g85|g86|g87|g88|g89=>as_aux_lemma=>(refine' _L.mD ?_ ?_ ?_ ?_ ?_<;>try k_is))
  (case g37|g64=>as_aux_lemma=>(refine' _L.bD ?_ ?_ ?_ ?_<;>try k_is))
  (case cL|c6|cP|cX|da|cY|cR|c8|de|cZ|dg|ae4|af0|af1|ae7|af2|ac0|ae8|ae5|ae9|ac5|af3|af4|af5|af6|af7|ad9|af8|ad0|a26|l26|c26|k26|i26|ag2=>k_is)
  (case ag3=>exact⟨_,_,_,_,_,_,_,_,rfl,rfl,rfl,rfl,rfl,rfl,rfl,rfl,by decide⟩)
  (case a33|l33|c33|k33|i33|af9=>k_is)
  (case ag0=>rfl)
  (case ag4=>exact⟨_,rfl⟩)
  (case a78|l78|c78|k78|i78|ag5=>k_is)
  (case ag6=>exact⟨_,_,_,_,_,_,_,_,rfl,rfl,rfl,rfl,rfl,rfl,rfl,rfl,by decide⟩)
  (case a83|l83|c83|k83|i83|ag7=>k_is)
  (case ag8=>exact⟨_,_,_,_,_,_,_,_,rfl,rfl,rfl,rfl,rfl,rfl,rfl,rfl,by decide⟩)
  (case cU|ab2=>k_is)
  (case ab3=>rfl);(case ab4=>rfl);(case ab5=>decide);(case ab6=>repeat (first|exact .nil|refine .cons ⟨_,rfl⟩ ?_))
  (case df|aa6=>k_is)
  (case aa7=>rfl);(case aa8=>rfl);(case aa9=>decide);(case ab0=>repeat (first|exact .nil|refine .cons ⟨_,rfl⟩ ?_))
end
section
set_option hygiene false in
local macro_rules | `(tactic| exists $x)=>`(tactic| (refine $x (λvs H Q E h=>?_) (λcdv A outer s H vs Q E hr h=>?_);focus(first|(cases h;subst_vars;rfl)|(obtain⟨_,h⟩:=h;cases h;subst_vars;rfl))))
set_option hygiene false in
local macro_rules|`(tactic|walk_at "rd")=>do
 let d:=(<-`((by decide))).raw
 let r:=(<-`(rfl)).raw
 let ts:=WN "Ag4 Afa Ah6 Abc Agu r_retN Af9 Agr Ad3 Ait Agv Ahy Ai8 Ag9 Aes Ain Aiu Ajd r_c Ado Ahk Ail Aia Ahi Afi Ae4 Aiz Ahj Ag1 Ais Ahl Ai9 zH Ad6 Ahv Ad8 Aev Aga Ab5 Afp Aeg Aik Agx Agb Acg Ael r_orV Af7 Agy Aej Aei Ad2 Aid r_cBK Aez Abe Ahc vH r_rngD Afj Af2 Aeq r_lrng Ab0 r_augS r_sortKS r_rngE Aey Aer Ad0 Aca Aif Aed Ajc Aip Ah2 Aii" #[]++WN "Zz rF" #[d]++WN "Agp Vc zO" #[d,d]++WN "Agz Ahp" #[r]
 `(tactic|repeat (first|(with_reducible first $[|$ts]*) | refine Ag0 rfl ?_ | refine Agm rfl ?_ | dsimp only))
namespace _K
open PySem _L _W
variable {C CB CC CO CP Pt dx i1 i2 it l1 l2:eh} {params:nu} {A:i9} {op:w6} {X:Cx} {D:Jb} {env:Env} {tg:ja} {fd:jx} {base h h':jm} {H H' H0 H1 H2:Hp} {J:It} {pins:Za1} {as fp:List eh} {ns ws:List Int} {cs ix:Za4} {N QR kz nm ps:Za6} {xs ys:List V} {us vs:Za3} {M:xx} {d n t':Nat} {oT:Obj} {an od:Option eh} {lpos pos pos2:Pos} {sc scope QQ:oq} {pl:Sem Bool} {s:ft} {sp:Sp} {fr:St} {qual z:Str} {te:TE} {wi:TI} {y:V} {cdv ct doc oc pm:fj} {w:ip}
local macro_rules | `(tactic| k_is)=>`(tactic| walk_at "rd")
local macro_rules | `(tactic| apply $t)=>`(tactic| (k_is;refine $t))
structure Qf (K:d6) (C:eh):Prop where
 cl:Cls K C
 cM:Bf K C "length"
 dJ:Bf K C "many_ones"
 cO:Bf K C "kept_words"
structure Qd (K:d6) (C:eh):Prop where
 cl:Cls K C
 cM:Bf K C "length"
 cO:Bf K C "kept_words"
 cQ:Bf K C "kept_table"
structure Qe (K:d6) (C:eh):Prop where
 cl:Cls K C
 dB:Bf K C "onward"
 dP:Bf K C "leaps"
structure Qc (K:d6) (C:eh):Prop where
 cl:Cls K C
 dr:Bf K C "kept_wood"
 dh:Bf K C "places"
 dM:Bf K C "begins"
 dG:Bf K C "kept_stretches"
 dE:Bf K C "spans"
 dD:Bf K C "namesakes"
structure Qa (K:d6) (C:eh):Prop where
 cl:Cls K C
 dq:Bf K C "bits"
 du:Bf K C "counts"
 cM:Bf K C "length"
 cQ:Bf K C "kept_table"
 dN:Bf K C "often_least"
structure Qb (K:d6) (C:eh):Prop where
 cl:Cls K C
 cS:Bf K C "pairs"
structure Txt (P:gl) (w:ip) (base:jm) (ts:List Tb) (K:d6) (mg:Za2) (ao:eh) (ap:eh):Prop where
 cU:mg "ONES_OF_FOUR"=KH (.ref ao)
 dn:∀H,SqT K H ao (Y0.map λn:Nat=>V.int n)
 df:mg "SIGNS_OF_FOUR"=KH (.ref ap)
 dy:∀H,SqT K H ap (qA)
 cL:∃t,mg "WORD_BITS"=KH (.int 32 t)
 c6:∃t,mg "MOST_BITS"=KH (.int 20000 t)
 cP:∃t,mg "BLOCK_WORDS"=KH (.int 8 t)
 cX:∃t,mg "BLOCK_BITS"=KH (.int 256 t)
 da:∃t,mg "FULL_WORD"=KH (.int 4294967295 t)
 cY:∃t,mg "MOST_SIGNS_pairs"=KH (.int 8192 t)
 cR:∃t,mg "STRETCH_BITS"=KH (.int 256 t)
 c8:∃t,mg "MOST_KNOTS"=KH (.int 4000 t)
 de:∃t,mg "MOST_SIGNS_woods"=KH (.int 8000 t)
 cZ:∃t,mg "MOST_LETTERS"=KH (.int 8 t)
 dg:∃t,mg "LETTERS"=KH (.str "abcdefghijklmnopqrstuvwxyz" t)
 cN:mg "range"=KI
 cK:mg "len"=KI
 dj:mg "int"=KI
 dF:mg "bool"=KI
 dv:mg "str"=KI
 cT:mg "isinstance"=KI
 c7:mg "list"=KI
 di:mg "tuple"=KI
 dH:mg "dict"=KI
 cV:mg "enumerate"=KI
 c9:mg "zip"=KI
 n_sum:mg "sum"=KI
 n_abs:mg "abs"=KI
 dC:mg "max"=KI
 cW:mg "min"=KI
 dA:mg "sorted"=KI
 n_all:mg "all"=KI
 dL:mg "reversed"=KI
section
variable {P:gl} {w:ip} {K:d6} {mg:Za2} {base:jm} {ao ap:eh} {ac ab ag ae aa ad:eh} {f:eh} {fd:jx} {ts:List Tb}
seal PE PA PT PW PS PSs PI PG
inductive Oj(vs:List V)(H:Hp)(Q:VK)(E:XK):Prop|mk(i:Int)(_:vs=[.int i])(_:Q (.bl KJ) H)
abbrev Txt.ZC(_:Txt P w base ts K mg ao ap):=@Cal P w K mg base
abbrev Txt.ZM(_:Txt P w base ts K mg ao ap):=@Mth P w K mg base
variable (T:Txt P w base ts K mg ao ap)
include T in
theorem lC (F:Fun K "is_whole" "is_whole" Nv f fd):Ar P w K mg base CX0 1 f fd ["thing"] Oj:=by
 exists F.ok kM
 obtain⟨i,rfl,q⟩:=h;refine{_,(Ad (Am (Uz (Ao Cu (by rfl) T.cT Ci (tpa (pv 0) (tpa (Hd (v:=.ty "int") rfl T.dj pC rfl) Aa))) (Xf (yZ (Ao Cu (by rfl) T.cT Ci (tpa (pv 0) (tpa (Hd (v:=.ty "bool") rfl T.dF Aaj rfl) Aa)))))))),?_};apply{_,_,_,_,rfl,.int _,Si,?_};apply{_,_,_,_,rfl,.int _,Pg,?_};k_is;exact q
inductive Y5(vs:List V)(H:Hp)(Q:VK)(E:XK):Prop|mk(x lo hi:Int)(_:vs=[.int x,.int lo,.int hi])(_:lo<=x)(_:x<=hi)(_:Q (.bl KJ) H)
variable (aD:T.ZC "is_whole" 1 ["thing"] Oj)
include T aD in
theorem gQ (F:Fun K "is_within" "is_within" Le f fd):Ar P w K mg base CX0 2 f fd ["thing","low","high"] Y5:=by
 exists F.ok gA
 obtain⟨x,lo,hi,rfl,h1,h2,q⟩:=h;refine{_,(Ad (Am (Uz (At aD hr.m (tpa (pv 0) Aa)) (Xf (lF qP qP (pv 1) (pv 0) (pv 2)))))),?_};apply{x,rfl,?_};apply Bn (λ_=>?_) (λh=>absurd h1 h);k_is;rw[decide_eq_true h2];exact q
inductive yO(vs:List V)(H:Hp)(Q:VK)(E:XK):Prop|mk(b:Bool)(_:vs=[.int (b.toNat:Nat)])(_:Q .non H)
variable (aw:T.ZC "is_within" 2 ["thing","low","high"] Y5)
include T aw in
theorem fN (F:Fun K "check_bit" "check_bit" K2 f fd):Ar P w K mg base CX0 3 f fd ["bit"] yO:=by
 exists F.ok fP
 obtain⟨b,rfl,q⟩:=h;refine⟨_,(Ad (Bp (Cl (Bv (At aw hr.m (tpa (pv 0) (tpa Ae (tpa Ae Aa)))))) (Ad Ca)
  Aw)),?_⟩
 apply{_,0,1,rfl,(),by cases b<;>decide,?_}
 k_is;exact q
inductive lK(vs:List V)(H:Hp)(Q:VK)(E:XK):Prop|mk(n g:Int)(_:vs=[.int n,.int g])(_:0<=n)(_:n<=g)(_:Q .non H)
include T aw in
theorem Ux (F:Fun K "check_place" "check_place" Ix f fd):Ar P w K mg base CX0 3 f fd ["place","greatest"] lK:=by
 exists F.ok Vb
 obtain⟨n,g,rfl,h0,h1,q⟩:=h;refine⟨_,(Ad (Bp (Cl (Bv (At aw hr.m (tpa (pv 0) (tpa Ae (tpa (pv 1) Aa)))))) (Ad Ca)
  Aw)),?_⟩
 apply{n,0,g,rfl,h0,h1,?_};k_is;exact q
inductive wJ(vs:List V)(H:Hp)(Q:VK)(E:XK):Prop|mk(i j g:Int)(_:vs=[.int i,.int j,.int g])(_:0<=i)(_:i<=j)(_:j<=g)(_:Q .non H)
variable (am:T.ZC "check_place" 3 ["place","greatest"] lK)
include T am in
theorem Rn (F:Fun K "check_stretch" "check_stretch" G3 f fd):Ar P w K mg base CX0 4 f fd ["low","high","greatest"] wJ:=by
 exists F.ok Rx
 obtain⟨i,j,g,rfl,h0,h1,h2,q⟩:=h;refine⟨_,(Ab (As (At am hr.m (tpa (pv 0) (tpa (pv 2) Aa)))) (Ab (As (At am hr.m (tpa (pv 1) (tpa (pv 2) Aa)))) (Ad (Bp (ttc F5 (pv 0) (pv 1)) (Ad Ca)
  Aw)))),?_⟩
 apply{i,g,rfl,h0,(),?_};apply{j,g,rfl,(),h2,?_};apply Bn (λh=>absurd h ()) (λ_=>?_);k_is;exact q
inductive sF(vs:List V)(H:Hp)(Q:VK)(E:XK):Prop|mk(n g:Int)(_:vs=[.int n,.int g])(_:0<=n)(_:n<g)(_:Q .non H)
include T aw in
theorem Xn (F:Fun K "check_knot" "check_knot" J7 f fd):Ar P w K mg base CX0 3 f fd ["k","many_knots"] sF:=by
 exists F.ok X4
 obtain⟨n,g,rfl,h0,h1,q⟩:=h;refine⟨_,(Ad (Bp (Cl (Bv (At aw hr.m (tpa (pv 0) (tpa Ae (tpa (Ak B6 (pv 1) Ae) Aa)))))) (Ad Ca)
  Aw)),?_⟩
 apply{n,0,g-1,rfl,h0,(),?_};k_is;exact q
inductive wB(vs:List V)(H:Hp)(Q:VK)(E:XK):Prop|mk(n:Nat)(_:vs=[.int n])(_:Q (.int (pc n)) H)
include T in
theorem nZ (F:Fun K "ones_in" "ones_in" Rs f fd):Ar P w K mg base CX0 1 f fd ["word"] wB:=by
 exists F.ok J4
 obtain⟨n,rfl,q⟩:=h;refine{_,(Ab (tst 1 J4.nd Ae) (Ab (En ig (ttc F5 (pv 0) Ae) (Ab (tau 1 J4.nd (tix Bs (Pr (v:=.ref _) rfl T.cU rfl) (Ak Nn (pv 0) Ae)) N7) (Ad (tau 0 J4.nd Ae rW)))) (Ad (Am (pv 1))))),?_}
 apply Gp (λG H'=>∃m o:Nat,G=[KH (.int m),KH (.int o)]/\pc n=o+pc m/\H'=H) (λG _=>match G with|some (.int m)::_=>m.toNat|_=>0) ⟨n,0,rfl,by simp,rfl⟩ ?_;rintro k G H' ⟨m,o,rfl,e,rfl⟩ hk;apply Bn (λhm=>?_) (λhm=>?_)
 .refine Li ?_
  apply Cb (T.dn _) (v:=.int (pc (m%16))) ?_ ?_
  .rw[sB]
   exact qU _ (ue _ (by decide))
  .apply{{m/16,o+pc (m%16),?_,?_,rfl},?_}
   .show[KH (V.int ((m:Int)/2 ^ (4:Int).toNat)),KH (V.int ((o:Int)+(pc (m%16):Int)))]=_
    rw[Ab2];rfl
   .rw[e,Ai5 m]
    lia
   .show((m:Int)/2 ^ (4:Int).toNat).toNat<k
    rw[Ab2,<-hk];show m/16<m;lia
 .k_is
  have:m=0:=()
  subst this;rw[eC] at e;show Q (.int (o:Int)) H';rw[show o=pc n by lia];exact q
inductive Aaf(vs:List V)(H:Hp)(Q:VK)(E:XK):Prop|mk(r k p:Nat)(_:vs=[.int r,.int k])(_:(Z2 r)[k]?=KH p)(_:∀H',Ag H H'->Q (.int p) H')
include T in
theorem Ve (F:Fun K "nth_of_four" "nth_of_four" Gm f fd):Ar P w K mg base CX0 1 f fd ["four","nth"] Aaf:=by
 exists F.ok Lo
 obtain⟨r,k,p,rfl,hp,q⟩:=h;refine{_,(Ab (Fq (i:=2) rfl P0 Lo.nd rfl rfl (Fo rfl T.cN (tpa Ae Aa)) (λ_ _ _ _=>Mp (ttc Dt (Ak Nn (Ak oK (pv 1) (pv 0)) Ae) Ae)) (λ_ _ _ _=>(pv 0))) (Ad (Am (tix Bk (pv 2) (pv 1))))),?_}
 apply{4,rfl,by decide,by decide,?_};refine Jm (λi=>((fb i).filter λp=>decide (r/2 ^ p%2=1)).map λp:Nat=>V.int (p:Int)) rfl (λi hi=>?_) (λi H1 R A hi sm kR kA=>?_) (λD H1 hD sm hl=>?_)
 .have h4:i<4:=hi
  rw[d7];exact qp (iy (ke _ _) (qb fg)) (Dk ())
 .apply rF () ?_;k_is;have e1:(r:Int)/2 ^ (0+(i:Int)).toNat=((r/2 ^ i:Nat):Int):=by
   rw[show(0+(i:Int)).toNat=i by lia];exact(vb r (2 ^ i)).symm
  rw[e1,Agw];have e2:((fb (i+1)).filter λp=>decide (r/2 ^ p%2=1))=((fb i).filter λp=>decide (r/2 ^ p%2=1))++if r/2 ^ i%2=1 then[i] else[]:=by
   rw[jf,lu];congr 1
   by_cases h:r/2 ^ i%2=1
   .rw[if_pos h]
    simp[h]
   .rw[if_neg h]
    simp[h]
  refine Bn (λhb=>?_) (λhb=>?_)
  .have hb:r/2 ^ i%2=1:=by
    have:=V.int.inj hb;lia
   apply kA _ _ ?_ (Ag.refl _);rw[e2,if_pos hb,fi,show(0+(i:Int))=(i:Int) by lia];rfl
  .have hb:¬ r/2 ^ i%2=1:=by
    intro z;exact hb (by rw[z];rfl)
   refine kR ?_ _ (Ag.refl _);rw[e2,if_neg hb,gv]
 .apply Cg (SqL.of hl) (v:=.int p) ?_ (q _ sm);refine A9 ?_;rw[d9];show Option.map _ ((Z2 r)[k]?)=_;rw[hp];rfl
inductive Ady(vs:List V)(H:Hp)(Q:VK)(E:XK):Prop|mk(n k:Nat)(_:vs=[.int n,.int k])(_:∀H',Ag H H'->Q (Ah3 (nth n k)) H')
include T in
theorem nX (F:Fun K "nth_one" "nth_one" Rp f fd)(bw:T.ZC "nth_of_four" 1 ["four","nth"] Aaf):Ar P w K mg base CX0 2 f fd ["word","nth"] Ady:=by
 exists F.ok Gi
 obtain⟨n,k,rfl,q⟩:=h;refine⟨_,(Ab (Bp (ttc O9 (pv 1) Ae) (Ad (Am Ek))
  Aw) (Ab (tst 2 Gi.nd Ae) (Ab (En ig (ttc F5 (pv 0) Ae) (Ab (tst 3 Gi.nd (tix Bs (Pr (v:=.ref _) rfl T.cU rfl) (Ak Nn (pv 0) Ae))) (Ab (Bp (ttc O9 (pv 1) (pv 3)) (Ad (Am (Ak Bd (pv 2) (At bw hr.m (tpa (Ak Nn (pv 0) Ae) (tpa (pv 1) Aa))))))
  Aw) (Ab (tau 1 Gi.nd (pv 3) xW) (Ab (tau 0 Gi.nd Ae rW) (Ad (tau 2 Gi.nd Ae N7))))))) (Ad (Am Ek))))),?_⟩
 apply Bn (λhb=>absurd hb ()) (λ_=>?_);apply Gp (λG H'=>∃(m j low:Nat) (v:Option V),G=[KH (.int m),KH (.int j),KH (.int low),v]/\nth n k=(nth m j).map (·+low)/\H'=H) (λG _=>match G with|some (.int m)::_=>m.toNat|_=>0) ⟨n,k,0,KI,rfl,by simp,rfl⟩ ?_;rintro μ G H' ⟨m,j,low,v,rfl,e,rfl⟩ hk;apply Bn (λhm=>?_) (λhm=>?_)
 .refine Li ?_
  apply Cb (T.dn _) (v:=.int (pc (m%16))) ?_ ?_
  .rw[sB]
   exact qU _ (ue _ (by decide))
  .k_is
   have e16:=Aho m j;refine Bn (λhj=>?_) (λhj=>?_)
   .have hj:j<pc (m%16):=()
    k_is;rw[if_pos hj] at e16;rw[sB];obtain⟨p,hp⟩:∃p,(Z2 (m%16))[j]?=KH p:=by
     have:j<(Z2 (m%16)).9:=by rw[Aav _ (ue _ (by decide))];exact hj
     exact{_,d4 this}
    refine{m%16,j,p,rfl,hp,λH1 s1=>?_};k_is;have:=q H1 s1;rw[e,e16,hp] at this;rw[show(low:Int)+(p:Int)=((p+low:Nat):Int) by lia];exact this
   .have hj:¬ j<pc (m%16):=()
    k_is;rw[if_neg hj] at e16;refine{{m/16,j-pc (m%16),low+4,KH (.int (pc (m%16))),?_,?_,rfl},?_}
    .show[KH (V.int ((m:Int)/2 ^ (4:Int).toNat)),KH (V.int ((j:Int)-(pc (m%16):Int))),KH (V.int ((low:Int)+4)),KH (V.int (pc (m%16)))]=_
     rw[Ab2,show(j:Int)-(pc (m%16):Int)=((j-pc (m%16):Nat):Int) by lia];rfl
    .rw[e,e16,yw]
     congr 1
     funext x
     show x+4+low=x+(low+4);lia
    .show((m:Int)/2 ^ (4:Int).toNat).toNat<μ
     rw[Ab2,<-hk];show m/16<m;lia
 .k_is
  have:m=0:=()
  subst this;rw[iE] at e;have:=q H' (Ag.refl _);rw[e] at this;exact this
def Ach (z:Str):Bool:=if z.9>20000 then KL else decide (P9 z 48+P9 z 49=z.9)
inductive sA(vs:List V)(H:Hp)(Q:VK)(E:XK):Prop|mk(z:Str)(_:vs=[.str z])(_:z.9<=sizeLine)(_:Q (.bl (Ach z)) H)
include T in
theorem tI (F:Fun K "is_row" "is_row" Ue f fd):Ar P w K mg base CX0 1 f fd ["thing"] sA:=by
 exists F.ok tV
 obtain⟨z,rfl,hz,q⟩:=h;refine⟨_,(Ab (Bp (PW.pt (Ii (Cl (Bv (Ao Cu (by rfl) T.cT Ci (tpa (pv 0) (tpa (Hd (v:=.ty "str") rfl T.dv wK rfl) Aa))))) (Hy (ttc F5 (Ao B7 (by rfl) T.cK Ch (tpa (pv 0) Aa)) (A5 rfl T.c6))))) (Ad (Am Jo))
  Aw) (Ad (Am (tpc Dt (Ak Bd (Cj kq uv uu Us (pv 0) (tpa Cw Aa)) (Cj kq uv uu Us (pv 0) (tpa Cw Aa))) (Ao B7 (by rfl) T.cK Ch (tpa (pv 0) Aa)))))),?_⟩
 apply{_,_,_,_,rfl,.str _,Sg,?_};apply{z,rfl,hz,?_};k_is;unfold Ach at q;refine Bn (λhb=>?_) (λhb=>?_)
 .k_is
  rw[if_pos ()] at q;exact q
 .k_is
  rw[if_neg ()] at q;refine{rfl,?_};apply{z,48,rfl,rfl,?_};apply{rfl,?_};apply{z,49,rfl,rfl,?_};apply{z,rfl,hz,?_};k_is;have e:decide (V.int ((P9 z 48:Int)+(P9 z 49:Int))=V.int (z.9:Int))=decide (P9 z 48+P9 z 49=z.9):=by
   refine decide_eq_decide.mpr {λh=>?_,λh=>?_}
   .have:=V.int.inj h
    lia
   .rw[<-h]
    congr 1
  rw[e];exact q
inductive zD(vs:List V)(H:Hp)(Q:VK)(E:XK):Prop|mk(l:Za5)(_:vs=[.str (Av l)])(_:0<l.9)(_:l.9<=32)(_:Q (.int (val l:Nat)) H)
include T in
theorem mV (F:Fun K "word_of" "word_of" Rh f fd):Ar P w K mg base CX0 1 f fd ["signs"] zD:=by
 exists F.ok oA
 obtain⟨l,rfl,h0,h1,q⟩:=h;refine{_,(Ad (Am (Dj X6 (by rfl) T.dj pC (tpa (Aa7 (pv 0)) (tpa Ae Aa))))),?_};apply{_,rfl,?_,?_}
 .rw[A7]
  exact f9 (Dk ())
 apply{_,rfl,?_,?_,?_,?_}
 .rw[Kz,A7]
  lia
 .intro c hc
  have:c∈(Av l).cps.toList:=by
   have h:c∈(Av l).cps.toList.reverse.toArray.toList:=hc
   simpa using h
  exact mO l c this
 .intro z
  have e:(Xu (Av l)).cps.toList.length=0:=by rw[z];rfl
  have e2:(Xu (Av l)).cps.toList.length=(Xu (Av l)).9:=by simp[vm]
  rw[e2,Kz,A7] at e;lia
 .rw[Afg]
  exact q
inductive rL (K:d6)(vs:List V)(H:Hp)(Q:VK)(E:XK):Prop|mk(l:Za5)(_:vs=[.str (Av l)])(_:l.9<=20000)(_:∀p H',Ag H H'->H p=KI->H' p=KH (.tup (nV (wordsOf l)))->Q (.ref p) H')
include T in
theorem lI (F:Fun K "words_of" "words_of" Ke f fd)(bx:T.ZC "word_of" 1 ["signs"] zD):Ar P w K mg base CX0 2 f fd ["text"] (rL K):=by
 exists F.ok lO
 obtain⟨l,rfl,hl,q⟩:=h;have hz:(Av l).9<=sizeLine:=by rw[A7];exact f9 (Ai ())
 refine{_,(Ad (Am (Dj Ep (by rfl) T.di O4 (tpa (L5 rfl X2 (P5 rfl T.cN (tpa Ae (tpa (Ao B7 (by rfl) T.cK Ch (tpa (pv 0) Aa)) (tpa (A5 rfl T.cL) Aa)))) (λ_ _ _ _=>Cc) (λ_ _ _ _=>(At bx hr.m (tpa (Cf K0 (pv 1) (B3 (pv 0)) (B3 (Ak Bd (pv 0) (A5 rfl T.cL)))) Aa)))) Aa)))),?_};apply{_,rfl,hz,?_};rw[A7];apply{0,l.9,32,rfl,(),?_};have hn:Cp 0 (l.9:Int) 32=By l.9:=Va l.9 32 (by decide);rw[hn];refine kH (λi=>nV ((fb i).map λj=>val (Az l j))) rfl (λi hi=>?_) (λi H1 R A hi sm kR kA=>?_) (λD H1 hD sm hl'=>?_)
 .have:=gU hi
  rw[d7,d7,fg];exact Ai ()
 .apply Ug hz ?_;have hi':=gU hi;rw[show(0+(i:Int)*32)=((32*i:Nat):Int) by lia,show(((32*i:Nat):Int)+32)=((32*i+32:Nat):Int) by lia,Rb];apply{Az l i,?_,?_,?_,?_}
  .unfold Az
   rw[show 32*i+32-32*i=32 by lia];rfl
  .unfold Az
   rw[fh,gz];lia
  .unfold Az
   rw[fh];lia
  .refine kA _ _ ?_ (Ag.refl _)
   exact L1 _ _
 .apply{D,_,rfl,.inl {SqL.of hl',λp hp=>?_}};exact q p _ (sm.trans (An hp)) (sm.free hp) Af
theorem xE:∀r:Nat,r<16->qA[r]?=KH (.str (Av (nG r))):=by
 intro r hr;have:r=0\/r=1\/r=2\/r=3\/r=4\/r=5\/r=6\/r=7\/r=8\/r=9\/r=10\/r=11\/r=12\/r=13\/r=14\/r=15:=()
 rcases this with rfl|rfl|rfl|rfl|rfl|rfl|rfl|rfl|rfl|rfl|rfl|rfl|rfl|rfl|rfl|rfl<;>rfl
theorem yX (ls:List (Za5)):ub ("":Str) (ls.map Av)=Av ls.flatten:=by
 refine G6 ?_;rw[No,C3]
 induction ls with
 |nil=>rfl
 |cons a r ih=>
  rw[iu,iu,jn,ih,jn,fi,C3]
theorem uU (ls:List (Za5)):((ls.map Av).map (·.length)).sum=ls.flatten.9:=by
 induction ls with
 |nil=>rfl
 |cons a r ih=>rw[iu,iu,xf,ih,jn,eg,A7]
theorem gV {K:d6}{Q:VK}{p:eh}{ls:List (Za5)}(hl:H1 p=KH (.lst (ls.map λl=>V.str (Av l))))(hz:ls.flatten.9<=100000)(q:Q (.str (Av ls.flatten)) H1):vE K (.str "") [.ref p] H1 Q:=by
 refine{"",p,ls.map Av,rfl,rfl,SqL.of ?_,?_,?_}
 .rw[hl,jg]
  rfl
 .rw[uU]
  show ls.flatten.9+_*0<=_;lia
 .rw[yX]
  exact q
theorem pK (n k:Nat){j:Int}(h:j=(k:Int)):(n:Int)/2 ^ j.toNat=((n/2 ^ k:Nat):Int):=by
 subst h;rw[gu];exact(vb n (2 ^ k)).symm
inductive Yr (K:d6)(vs:List V)(H:Hp)(Q:VK)(E:XK):Prop|mk(n:Nat)(_:vs=[.int n])(_:∀H',Ag H H'->Q (.str (Av (Ot n))) H')
include T in
theorem iI (F:Fun K "signs_of" "signs_of" Kl f fd):Ar P w K mg base CX0 1 f fd ["word"] (Yr K):=by
 exists F.ok jP
 obtain⟨n,rfl,q⟩:=h;refine{_,(Ad (Am (Cj kq oz oy Od Cw (tpa (L5 rfl Yi (P5 rfl T.cN (tpa Ae (tpa (A5 rfl T.cL) (tpa Ae Aa)))) (λ_ _ _ _=>Cc) (λ_ _ _ _=>(tix (Tl K) (Pr (v:=.ref _) rfl T.df rfl) (Ak Nn (Ak oK (pv 1) (pv 0)) Ae)))) Aa)))),?_};apply{rfl,?_};apply{0,32,4,rfl,(),?_};refine kH (λi=>((fb i).map λj=>nG (n/2 ^ (4*j)%16)).map λl=>V.str (Av l)) rfl (λi hi=>?_) (λi H1 R A hi sm kR kA=>?_) (λD H1 hD sm hl=>?_)
 .have hi:i<8:=hi
  rw[d7,d7,fg];exact Dk ()
 .have hi:i<8:=hi
  apply rF () ?_;k_is;rw[pK n (4*i) (),sB];refine Cb (T.dy _) (A9 (xE _ (ue _ (by decide)))) ?_;refine kA _ _ ?_ (Ag.refl _);rw[jf,fi,fi];rfl
 .k_is
  have hl:H1 D=KH (.lst (((fb 8).map λj=>nG (n/2 ^ (4*j)%16)).map λl=>V.str (Av l))):=hl;refine gV hl ?_ ?_
  .rw[Vg]
   unfold Ot;rw[d7,fg];decide
  .rw[Vg]
   exact q _ sm
def zL (l:Za5)(t:eh):List (Str×V):=[("length",.int (l.9:Nat)),("many_ones",.int (l.count KJ:Nat)),("kept_words",.ref t)]
def Dp (K:d6)(C:eh)(H:Hp)(a:eh)(l:Za5):Prop:=∃dx t,H a=KH (.ins C dx (zL l t))/\H t=KH (.tup (nV (wordsOf l)))/\l.9<=20000
theorem Hr {K:d6}{x b:eh}{l:Za5}(s:SameBut x H H')(n:xV H x)(hne:b≠x)(h:Dp K C H b l):Dp K C H' b l:=by
 obtain⟨dx,t,h1,h2,h3⟩:=h;exact{dx,t,s _ _ hne h1,s _ _ (λe=>by subst e;exact(n _).1 (.inl h2)) h2,h3}
theorem Dp.same {K:d6}{b:eh}{l:Za5}(s:Ag H H')(h:Dp K C H b l):Dp K C H' b l:=by
 obtain⟨dx,t,h1,h2,h3⟩:=h;exact{dx,t,s _ _ h1,s _ _ h2,h3}
inductive Vz (K:d6)(C:eh)(vs:List V)(H:Hp)(Q:VK)(E:XK):Prop|mk(x dx:eh)(l:Za5)(_:vs=[.ref x,.str (Av l)])(_:H x=KH (.ins C dx []))(_:l.9<=20000)(_:∀H',SameBut x H H'->Dp K C H' x l->Q .non H')
theorem nM {l:Za5}(h:l.9<=20000):Ach (Av l)=KJ:=by
 unfold Ach;rw[A7,if_neg ()];exact decide_eq_true (Zy l).2
variable (ak:Qf K ac)
include T ak in
theorem W4 (F:Fun K "__init__" "Bits.__init__" Lx f fd)(bz:T.ZC "is_row" 1 ["thing"] sA)(bA:T.ZC "words_of" 2 ["text"] (rL K)) :
  Ar P w K mg base CX0 3 f fd ["self","text"] (Vz K ac):=by
 exists F.ok Z4
 obtain⟨x,dx,l,rfl,hx,hl,q⟩:=h;have hz:(Av l).9<=sizeLine:=by rw[A7];exact f9 (Ai ())
 refine⟨_,(Ab (Bp (Cl (Bv (At bz hr.m (tpa (pv 1) Aa)))) (Ad Ca)
  Aw) (Ab (tsf (pv 0) (Ao B7 (by rfl) T.cK Ch (tpa (pv 1) Aa))) (Ab (tsf (pv 0) (Cj kq uv uu Us (pv 1) (tpa Cw Aa))) (Ad (tsf (pv 0) (At bA hr.m (tpa (pv 1) Aa))))))),?_⟩
 apply{_,rfl,hz,?_};rw[nM hl];apply{_,rfl,hz,?_};rw[A7];apply Dv hx ak.cl ak.cM (by decide) ?_;apply{rfl,?_};apply{_,49,rfl,rfl,?_};rw[(Zy l).1];apply Dv Af ak.cl ak.dJ (show 1<1000 by decide) ?_;rw[Tm];apply{l,rfl,hl,λt H' sm hf ht=>?_};apply Dv (sm _ _ Af) ak.cl ak.cO (show 2<1000 by decide) ?_;apply q _ ((Bb.trans sm.but).trans Bb) {dx,t,Af,?_,hl};have hne:t≠x:=λe=>by
  subst e;rw[Af] at hf;cases hf
 rw[Al hne];exact ht
inductive Tu (K:d6)(C:eh)(vs:List V)(H:Hp)(Q:VK)(E:XK):Prop|mk(x:eh)(l:Za5)(_:vs=[.ref x])(_:Dp K C H x l)(_:Q (.int (l.9:Nat)) H)
include T ak in
theorem W5 (F:Fun K "size" "Bits.size" La f fd):Ar P w K mg base CX0 1 f fd ["self"] (Tu K ac):=by
 exists F.ok eU
 obtain⟨x,l,rfl,⟨dx,t,hx,ht,hl⟩,q⟩:=h;refine{_,(Ad (Am (tfl (pv 0)))),?_};k_is;exact xN hx ak.cl ak.cM rfl q
inductive Sf (K:d6)(C:eh)(vs:List V)(H:Hp)(Q:VK)(E:XK):Prop|mk(x:eh)(l:Za5)(_:vs=[.ref x])(_:Dp K C H x l)(_:∀t,H t=KH (.tup (nV (wordsOf l)))->Q (.ref t) H)
include T ak in
theorem W1 (F:Fun K "words" "Bits.words" J0 f fd):Ar P w K mg base CX0 1 f fd ["self"] (Sf K ac):=by
 exists F.ok Xr
 obtain⟨x,l,rfl,⟨dx,t,hx,ht,hl⟩,q⟩:=h;refine{_,(Ad (Am (tfl (pv 0)))),?_};k_is;exact xN hx ak.cl ak.cO rfl (q t ht)
inductive Y3 (K:d6)(C:eh)(vs:List V)(H:Hp)(Q:VK)(E:XK):Prop|mk(a:eh)(l:Za5)(low high:Nat)(_:vs=[.ref a,.int low,.int high])(_:Dp K C H a l)(_:low<=high)(_:high<=l.9)(_:∀H',Ag H H'->Q (.str (Av ((l.drop low).take (high-low)))) H')
variable (aM:T.ZC "check_stretch" 4 ["low","high","greatest"] wJ)
include T ak aM in
theorem Wr (F:Fun K "stretch" "Bits.stretch" F2 f fd)(bB:T.ZC "signs_of" 1 ["word"] (Yr K)) :
  Ar P w K mg base CX0 5 f fd ["self","low","high"] (Y3 K ac):=by
 exists F.ok Dg
 obtain⟨a,l,low,high,rfl,⟨dx,t,hx,ht,hl⟩,h1,h2,q1⟩:=h;refine{_,(Ab (As (At aM hr.m (tpa (pv 1) (tpa (pv 2) (tpa (tfl (pv 0)) Aa))))) (Ab (tst 3 Dg.nd (Ak Cr (pv 1) (A5 rfl T.cL))) (Ab (tst 4 Dg.nd (Ak Cr (Ak B6 (Ak Bd (pv 2) (A5 rfl T.cL)) Ae) (A5 rfl T.cL))) (Ab (tst 5 Dg.nd (Cj kq oz oy Od Cw (tpa (L5 rfl Pe (mP (Cf fY (tfl (pv 0)) (B3 (pv 3)) (B3 (pv 4)))) (λ_ _ _ _=>Cc) (λ_ _ _ _=>(At bB hr.m (tpa (pv 0) Aa)))) Aa))) (Ab (tst 6 Dg.nd (Ak Eb (pv 3) (A5 rfl T.cL))) (Ad (Am (Cf K0 (pv 5) (B3 (Ak B6 (pv 1) (pv 6))) (B3 (Ak B6 (pv 2) (pv 6))))))))))),?_}
 apply{a,ac,dx,_,_,rfl,hx,ak.cl,ak.cM,rfl,?_};apply{low,high,_,rfl,(),(),(),?_};apply{rfl,?_};apply{a,ac,dx,_,_,rfl,hx,ak.cl,ak.cO,rfl,?_};apply{t,_,rfl,SqT.of ht,λp2 H2 s2 hp2=>?_};rw[show((low:Int)/32)=((low/32:Nat):Int) by lia,show((high:Int)+32-1)/32=(((high+31)/32:Nat):Int) by lia,T4] at hp2;have hW:(wordsOf l).9=By l.9:=by unfold _W.wordsOf;rw[d7,fg]
 have e8:((nV (wordsOf l)).drop (low/32)).take ((high+31)/32-low/32)=nV ((fb ((high+31)/32-low/32)).map λj=>val (Az l (low/32+j))):=by
  unfold nV;have:min ((high+31)/32-low/32) (By l.9-low/32)=(high+31)/32-low/32:=by unfold By;lia
  rw[<-qh,<-o9,Zk,this]
 rw[e8] at hp2;refine{p2,rfl,{_,hp2},?_};generalize hm:(high+31)/32-low/32=m at hp2;refine vT hp2 (λj=>((fb j).map λi=>Ot (val (Az l (low/32+i)))).map λl=>V.str (Av l)) rfl (λj hj=>?_) (λj z H3 R A hz s3 kR kA=>?_) (λD H3 hD s3 hl3=>?_)
 .rw[d7,d7,fg] at hj
  rw[d7,d7,fg];exact Dk ()
 .have hj:j<m:=by
   have:=(fc.mp hz).1
   rwa [d7,d7,fg] at this
  have hze:z=.int (val (Az l (low/32+j)):Nat):=by
   unfold nV at hz;rw[d9,d9,gd hj] at hz;exact(ee hz).symm
  subst hze;apply{_,rfl,λH4 s4=>?_};refine kA _ _ ?_ s4;rw[jf,fi,fi];rfl
 .rw[d7,d7,fg] at hl3
  have hfl:((fb m).map λi=>Ot (val (Az l (low/32+i)))).flatten.length<=100000:=by
   rw[Xd,d7,fg];lia
  apply gV hl3 hfl ?_;apply Ug ?_ ?_
  .rw[A7]
   exact f9 (Ai hfl)
  rw[Xd,show((low:Int)-(low:Int)/32*32)=((low-32*(low/32):Nat):Int) by lia,show((high:Int)-(low:Int)/32*32)=((high-32*(low/32):Nat):Int) by lia,Rb,
   show high-32*(low/32)-(low-32*(low/32))=high-low by lia,xM l (low/32) m low (high-low) () () ()]
  exact q1 _ (s2.trans s3)
inductive Adn (K:d6)(C:eh)(vs:List V)(H:Hp)(Q:VK)(E:XK):Prop|mk(a:eh)(l:Za5)(n:Nat)(_:vs=[.ref a,.int n])(_:Dp K C H a l)(_:n<l.9)(_:Q (.int ((l.getD n KL).toNat:Nat)) H)
theorem Aec (l:Za5)(i:Nat):l5 (((val (Az l (i/32))/2 ^ (i%32):Nat):Int)) 1=((l.getD i KL).toNat:Nat):=by
 rw[Agw,Tr,Ll l _ (ue _ (by decide)),show 32*(i/32)+i%32=i by lia]
include T am ak in
theorem W6 (F:Fun K "bit" "Bits.bit" N3 f fd) :
  Ar P w K mg base CX0 4 f fd ["self","place"] (Adn K ac):=by
 exists F.ok jW
 obtain⟨a,l,n,rfl,⟨dx,t,hx,ht,hl⟩,hn,q1⟩:=h;refine{_,(Ab (As (At am hr.m (tpa (pv 1) (tpa (Ak B6 (tfl (pv 0)) Ae) Aa)))) (Ad (Am (Ak Nn (Ak oK (tix Bs (tfl (pv 0)) (Ak Cr (pv 1) (A5 rfl T.cL))) (Ak Cm (pv 1) (A5 rfl T.cL))) Ae)))),?_}
 apply{a,ac,dx,_,_,rfl,hx,ak.cl,ak.cM,rfl,?_};apply{n,_,rfl,(),(),?_};apply{a,ac,dx,_,_,rfl,hx,ak.cl,ak.cO,rfl,?_};k_is;rw[show((n:Int)/32)=((n/32:Nat):Int) by lia];refine Cb (SqT.of ht) (Ps (by unfold By;lia)) ?_;apply rF () ?_;k_is;rw[pK _ (n%32) (),Aec];exact q1
include T in
theorem Ye (F:Fun K "first_that" "first_that" Km f fd):Ar P w K mg base CX0 3 f fd ["low","high","holds"] (To P w K mg base 2):=by
 exists F.ok Gn
 obtain⟨lo,hi,g,p,rfl,hle,hA,q⟩:=h;refine{_,(Ab (En ig (ttc O9 (pv 0) (pv 1)) (Ab (tst 3 Gn.nd (Ak Cr (Ak Bd (pv 0) (pv 1)) Ae)) (Ad (Bp (Bv (Ad4 (k:=2) hr.m (i:=2) rfl rfl (pv 3))) (Ad (tst 1 Gn.nd (pv 3))) (Ad (tst 0 Gn.nd (Ak Bd (pv 3) Ae))))))) (Ad (Am (pv 0)))),?_}
 apply Gp (λG H'=>Ag H H'/\∃(x y:Int) (v:Option V),G=[KH (.int x),KH (.int y),KH (.ref g),v]/\lo<=x/\x<=y/\y<=hi/\(lo<x->p (x-1)=KL)/\(y<hi->p y=KJ)) (λG _=>match G with | [KH (.int x),KH (.int y),_,_]=>(y-x).toNat|_=>0) ⟨Ag.refl _,lo,hi,KI,rfl,y6 _,hle,y6 _,λz=>absurd z (GI _),λz=>absurd z (GI _)⟩ ?_;rintro μ G H' ⟨sm,x,y,v,rfl,h1,h2,h3,h4,h5⟩ XF;apply Bn (λhw=>?_) (λhw=>?_)
 .refine Li ?_
  apply{g,_,p,rfl,hA.same sm,?_};k_is;have ht1:x<=(x+y)/2:=()
  have ht2:(x+y)/2<y:=()
  refine{_,rfl,Ag.refl _,{vw h1 ht1,Int.lt_of_lt_of_le ht2 h3},λH2 s2=>?_};k_is;have hμ':y-x=(μ:Int):=by
   have:(y-x).toNat=μ:=XF;lia
  cases hp:p ((x+y)/2) with
  |true=>
   apply{{sm.trans s2,x,(x+y)/2,_,rfl,h1,ht1,vw (BH ht2) h3,h4,λ_=>hp},?_};show((x+y)/2-x).toNat<μ;generalize (x+y)/2=t at *;lia
  |false=>
   apply{{sm.trans s2,(x+y)/2+1,y,_,rfl,vw h1 (vw ht1 (BH (Int.lt_succ _))),ht2,h3,λ_=>by rw[Int.add_sub_cancel];exact hp,h5},?_};show(y-((x+y)/2+1)).toNat<μ;generalize (x+y)/2=t at *;lia
 .k_is
  obtain rfl:x=y:=()
  exact q x H' h1 h3 h4 h5 sm
inductive Acz(vs:List V)(H:Hp)(Q:VK)(E:XK):Prop|mk(a:eh)(xs:Za4)(_:vs=[.ref a])(_:H a=KH (.lst (nV xs)))(_:xs.9<=1000)(_:∀p H',Ag H H'->H p=KI->H' p=KH (.lst (nV ((fb (xs.9+1)).map λi=>(xs.take i).sum)))->Q (.ref p) H')
include T in
theorem Sz (F:Fun K "running_sums" "running_sums" Ib f fd):Ar P w K mg base CX0 1 f fd ["numbers"] Acz:=by
 exists F.ok G2
 obtain⟨a,xs,rfl,ha,hn,q⟩:=h;refine{_,(Ab (tst 1 G2.nd (Bo (tpa Ae Aa))) (Ab (C5 ig rfl (Du (pv 0)) (tgn 2 G2.nd) (Ad (As (Cj gi ie ic Bh (pv 1) (tpa (Ak Bd (tix Bk (pv 1) (Fz C8 Ae)) (pv 2)) Aa))))) (Ad (Am (pv 1))))),?_}
 apply{few (by simp),λp hp=>?_};have t0:=An (o:=.lst [V.int 0]) hp;apply{a,rfl,{_,SqL.of (t0 _ _ ha)},?_};refine Os (xs:=nV xs) (λi G H1=>(∃v:Option V,G=[KH (.ref a),KH (.ref p),v])/\H1 p=KH (.lst (nV ((fb (i+1)).map λi=>(xs.take i).sum)))/\Ag H H1) {{_,rfl},Af,t0} (λi G H1 _ h=>SqL.of (h.2.2 _ _ ha)) ?_ ?_
 .rintro i x G H1 hx ⟨⟨v,rfl⟩,hp1,s1⟩
  have hi:=Bq hx;rw[show(nV xs).9=xs.9 by unfold nV;rw[d7]] at hi;obtain rfl:x=.int (xs[i]:Nat):=by
   unfold nV at hx;rw[d9,d4 hi] at hx;exact(ee hx).symm
  apply{.inl {rfl,_,SqL.of hp1},?_};apply Cg (SqL.of hp1) (v:=.int ((xs.take i).sum:Nat)) ?_ ?_
  .rw[L1]
   exact iT _ _
  apply B0 hp1 ?_ ?_
  .unfold nV
   rw[d7,d7,fg];exact Ai ()
  apply{{_,rfl},?_,λb u e=>?_}
  .rw[Af,L1 _ (i+1),i5,d4 hi,yz]
   show KH (HO.lst (_++[V.int (((xs.take i).sum:Nat)+(xs[i]:Nat):Int)]))=KH (HO.lst (_++[V.int (((xs.take i).sum+[xs[i]].sum:Nat):Int)]));rw[xl,FG]
  .rw[Al (Aj e hp)]
   exact s1 _ _ e
 .rintro G H1 ⟨⟨v,rfl⟩,hp1,s1⟩
  rw[show(nV xs).9=xs.9 by unfold nV;rw[d7]] at hp1;k_is;exact q p H1 s1 hp hp1
def Ce (n:Nat):Nat:=(By n+7)/8
def Im (l:Za5):Za4:=(fb (Ce l.9+1)).map λb=>cnt l (256*b)
inductive qC (K:d6)(vs:List V)(H:Hp)(Q:VK)(E:XK):Prop|mk(t:eh)(l:Za5)(_:vs=[.ref t])(_:H t=KH (.tup (nV (wordsOf l))))(_:l.9<=20000)(_:∀p H',Ag H H'->H p=KI->H' p=KH (.tup (nV (Im l)))->Q (.ref p) H')
theorem iL (l:Za5)(b:Nat):((wordsOf l).drop (8*b)).take 8=(fb (min 8 (By l.9-8*b))).map λi=>val (Az l (8*b+i)):=by
 unfold _W.wordsOf;refine me λi=>?_;rw[ji]
 by_cases h8:i<8
 .rw[if_pos h8,iz,d9,d9]
  by_cases hm:8*b+i<By l.9
  .rw[gd hm,gd ()]
   rfl
  .rw[ii (by rw[fg];lia),ii (by rw[fg];lia)]
   rfl
 .rw[if_neg h8,ii (by rw[d7,fg];lia)]
def blk (l:Za5)(i:Nat):Za4:=(fb (min 8 (By l.9-8*i))).map λj=>val (Az l (8*i+j))
def mH (l:Za5)(i:Nat):Nat:=((fb (min 8 (By l.9-8*i))).map λm=>pc (val (Az l (8*i+m)))).sum
theorem kF (l:Za5):∀i,(((fb i).map (mH l)).sum)=cnt l (256*i)
 |0=>by
  show 0=cnt l 0;rfl
 |i+1=>by
  rw[jf,fi,yz,kF l i];show cnt l (256*i)+[mH l i].sum=_;rw[xl];have:=tZ l i (min 8 (By l.9-8*i)) rfl;unfold mH;lia
def sL (K:d6)(l:Za5)(i:Nat)(ys:List V)(H:Hp):Prop:=ys.9=i/\∀j y,ys[j]?=KH y->∃a,y=.ref a/\SqT K H a (nV (blk l j))
theorem yN {K:d6}{l:Za5}{i:Nat}{D:eh}{o:HO}(hD:H D=KH (.lst xs))(h:sL K l i ys H):sL K l i ys (upd H D o):=⟨h.1,λj y e=>by
 obtain⟨a,rfl,ht⟩:=h.2 j y e;refine{a,rfl,?_};rcases ht with(ht|⟨ob,ht⟩)|ht
 .exact .inl (.inl (by rw[Al (Ih ht hD (by intro z;cases z))];exact ht))
 .exact .inl (.inr {ob,by rw[Al (Ih ht hD (by intro z;cases z))];exact ht})
 .exact .inr ht⟩
theorem sL.same {K:d6}{l:Za5}{i:Nat}(h:sL K l i ys H)(s:Ag H H'):sL K l i ys H':=⟨h.1,λj y e=>by
 obtain⟨a,rfl,ht⟩:=h.2 j y e;exact{a,rfl,s.seqT ht}⟩
variable (aA:T.ZC "ones_in" 1 ["word"] wB)
include T aA in
theorem Ol (F:Fun K "table_of_words" "table_of_words" C0 f fd)(bC:T.ZC "running_sums" 1 ["numbers"] Acz):Ar P w K mg base CX0 2 f fd ["words"] (qC K):=by
 exists F.ok Ik
 obtain⟨t,l,rfl,ht,hl,q⟩:=h;have hW:(wordsOf l).9=By l.9:=by unfold _W.wordsOf;rw[d7,fg]
 have hM:By l.9<=626:=by unfold By;lia
 have hB:Ce l.9<=80:=by unfold Ce;lia
 refine{_,(Ab (Fq (i:=1) rfl M0 Ik.nd rfl rfl (P5 rfl T.cN (tpa Ae (tpa (Ao Au (by rfl) T.cK Ch (tpa (pv 0) Aa)) (tpa (A5 rfl T.cP) Aa)))) (λ_ _ _ _=>Cc) (λ_ _ _ _=>(Cf (vA K) (pv 1) (B3 (pv 0)) (B3 (Ak Bd (pv 0) (A5 rfl T.cP)))))) (Ad (Am (Dj Ep (by rfl) T.di O4 (tpa (At bC hr.m (tpa (L5 rfl Nb (Du (pv 1)) (λ_ _ _ _=>Cc) (λ_ _ _ _=>(Ao (sI K rfl) (by rfl) T.n_sum Ahw (tpa (Aa1 rfl M8 (Ab8 K (pv 0)) (λ_ _ _ _=>Cc) (λ_ _ _ _=>(At aA hr.m (tpa (pv 0) Aa)))) Aa)))) Aa)) Aa))))),?_}
 apply{t,_,rfl,.inr (SqT.of ht),?_};k_is;rw[d7,hW];refine{0,By l.9,8,rfl,(),?_};have hn:Cp 0 (By l.9:Int) 8=Ce l.9:=Va (By l.9) 8 (by decide);rw[hn];refine uR (λi ys H1=>sL K l i ys H1) (λH1 _=>{rfl,λj y e=>by cases e}) (λi ys H1 D xs o hD h=>yN hD h) (λi ys H1 hi h=>by rw[h.1];exact Dk ()) (λi ys H1 A R hi s1 hP kA=>?_) (λD ys H1 hD s1 hP hDl=>?_)
 .apply{t,_,rfl,SqT.of (s1 _ _ ht),λp2 H2 s2 hp2=>?_};rw[show(0+(i:Int)*8)=((8*i:Nat):Int) by lia,show(((8*i:Nat):Int)+8)=((8*i+8:Nat):Int) by lia,T4,show 8*i+8-8*i=8 by lia] at hp2;have e8:((nV (wordsOf l)).drop (8*i)).take 8=nV (blk l i):=by
   unfold nV blk;rw[<-qh,<-o9,iL]
  rw[e8] at hp2;refine kA _ _ s2 {by rw[eg,hP.1];rfl,λj y e=>?_}
  by_cases hj:j<ys.9
  .rw[fw hj] at e
   exact(hP.same s2).2 j y e
  .rw[fk ()] at e
   have e0:j-ys.9=0:=by
    have:=Bq e;simp only[gm,jt] at this;lia
   rw[e0] at e;obtain rfl:=ee e;have:j=i:=by have:=hP.1;lia
   subst this;exact⟨p2,rfl,hp2⟩
 .apply{D,rfl,{_,SqL.of hDl},?_};refine Ou (SqL.of hDl) (λi=>nV ((fb i).map (mH l))) rfl (λi hi=>?_) (λi x H2 R A hx s2 kR kA=>?_) (λD2 H2 hD2 s2 hl2=>?_)
  .unfold nV
   rw[d7,d7,fg];rw[hP.1] at hi;exact Dk ()
  .obtain⟨b,rfl,hb⟩:=(hP.same s2).2 i x hx
   apply{b,rfl,{_,hb},?_};refine vT hb (λj=>nV ((fb j).map λm=>pc (val (Az l (8*i+m))))) rfl (λj hj=>?_) (λj x H3 R3 A3 hx3 s3 kR3 kA3=>?_) (λD3 H3 hD3 s3 hl3=>?_)
   .unfold blk nV at hj
    rw[d7,d7,fg] at hj;rw[d7,d7,fg];exact Dk ()
   .have hj:j<min 8 (By l.9-8*i):=by
     have:=(fc.mp hx3).1;unfold blk nV at this
     rwa [d7,d7,fg] at this
    have hxe:x=.int (val (Az l (8*i+j)):Nat):=by
     unfold nV blk at hx3;rw[d9,d9,gd hj] at hx3;exact(ee hx3).symm
    subst hxe;apply{_,rfl,?_};refine kA3 _ _ ?_ (Ag.refl _);exact L1 _ _
   .unfold blk at hl3
    rw[d7,d7,fg] at hl3;apply{D3,_,rfl,SqL.of (by rw[hl3,eP]),?_};rw[vK];refine kA _ _ ?_ s3;exact L1 _ _
  .rw[hP.1] at hl2
   apply{D2,(fb (Ce l.9)).map (mH l),rfl,hl2,by rw[d7,fg];lia,λp4 H4 s4 hp4 hl4=>?_};apply{p4,_,rfl,.inl {SqL.of hl4,λp5 hp5=>?_}};have et:(fb (((fb (Ce l.9)).map (mH l)).9+1)).map (λi=>(((fb (Ce l.9)).map (mH l)).take i).sum)=Im l:=by
    rw[d7,fg];unfold Im;refine jd λi hi=>?_;have hi:=jo.mp hi;rw[<-o9,List.take_range,il (),kF]
   rw[et] at *;exact q p5 _ (((s1.trans s2).trans s4).trans (An hp5)) (((s1.trans s2).trans s4).free hp5) Af
def vM (l:Za5)(t u:eh):List (Str×V):=[("length",.int (l.9:Nat)),("kept_words",.ref t),("kept_table",.ref u)]
def A0 (K:d6)(C:eh)(H:Hp)(a:eh)(l:Za5):Prop:=∃dx t u,H a=KH (.ins C dx (vM l t u))/\H t=KH (.tup (nV (wordsOf l)))/\H u=KH (.tup (nV (Im l)))/\l.9<=20000
theorem A0.same {K:d6}{b:eh}{l:Za5}(s:Ag H H')(h:A0 K C H b l):A0 K C H' b l:=by
 obtain⟨dx,t,u,h1,h2,h3,h4⟩:=h;exact{dx,t,u,s _ _ h1,s _ _ h2,s _ _ h3,h4}
inductive O2 (K:d6)(CB C:eh)(vs:List V)(H:Hp)(Q:VK)(E:XK):Prop|mk(x dx b:eh)(l:Za5)(_:vs=[.ref x,.ref b])(_:H x=KH (.ins C dx []))(_:Dp K CB H b l)(_:∀H',SameBut x H H'->A0 K C H' x l->Q .non H')
variable (ai:Qd K ab)
include T ai in
theorem Wz (F:Fun K "__init__" "Counts.__init__" Ir f fd)(bE:T.ZM ac "size" 1 ["self"] (Tu K ac))(bF:T.ZM ac "words" 1 ["self"] (Sf K ac))(bG:T.ZC "table_of_words" 2 ["words"] (qC K)) :
  Ar P w K mg base CX0 3 f fd ["self","bits"] (O2 K ac ab):=by
 exists F.ok Tz
 obtain⟨x,dx,b,l,rfl,hx,hb,q⟩:=h;have hb0:=hb;obtain⟨dxb,t,hbx,ht,hl⟩:=hb0;have hbne:b≠x:=Ih hbx hx (by intro z;cases z);refine{_,(Ab (tsf (pv 0) (Kg bE hr.m (pv 1))) (Ab (tsf (pv 0) (Kg bF hr.m (pv 1))) (Ad (tsf (pv 0) (At bG hr.m (tpa (tfl (pv 0)) Aa)))))),?_}
 apply{b,dxb,_,rfl,hbx,rfl,?_};apply{b,l,rfl,hb,?_};apply Dv hx ai.cl ai.cM (by decide) ?_;apply{b,dxb,zL l t,rfl,by rw[Al hbne];exact hbx,rfl,?_};apply{b,l,rfl,Hr Bb (Fn hx) hbne hb,λt2 ht2=>?_};apply Dv Af ai.cl ai.cO (show 1<1000 by decide) ?_;rw[Tm];have ht3:(upd H x (.ins ab dx (Ga "kept_words" (.ref t2) (Ga "length" (.int (l.9:Nat)) [])))) t2=KH (.tup (nV (wordsOf l))):=by
  have hne:t2≠x:=Ih ht2 Af (by intro z;cases z);rw[Al hne] at ht2 ⊢;exact ht2
 apply{x,ab,dx,_,.ref t2,rfl,Af,ai.cl,ai.cO,rfl,?_};apply{t2,l,rfl,ht3,hl,λu H' sm hf hu=>?_};apply Dv (sm _ _ Af) ai.cl ai.cQ (show 2<1000 by decide) ?_;k_is;have hix:=sm _ _ (Af (H:=H) (a:=x));have n1:t2≠x:=Ih (sm _ _ ht3) hix (by intro z;cases z);have n2:u≠x:=Ih hu hix (by intro z;cases z);exact q _ ((Bb.trans sm.but).trans Bb) {dx,t2,u,Af,by rw[Al n1];exact sm _ _ ht3,by rw[Al n2];exact hu,hl}
theorem iJ {l:Za5}{b:Nat}(h:b<=Ce l.9):atI (nV (Im l)) (b:Int)=KH (.int (cnt l (256*b):Nat)):=by
 refine A9 ?_;unfold nV Im;rw[d9,d9,gd ()];rfl
inductive Sj (K:d6)(C:eh)(vs:List V)(H:Hp)(Q:VK)(E:XK):Prop|mk(a:eh)(l:Za5)(n:Nat)(_:vs=[.ref a,.int n])(_:A0 K C H a l)(_:n<=l.9)(_:∀H',Ag H H'->Q (.int (cnt l n:Nat)) H')
include T aA ai in
theorem Qr (F:Fun K "ones_ahead" "Counts.ones_ahead" Ei f fd):Ar P w K mg base CX0 2 f fd ["self","place"] (Sj K ab):=by
 exists F.ok Ba
 obtain⟨a,l,n,rfl,⟨dx,t,u,hx,ht,hu,hl⟩,hn,q⟩:=h;refine⟨_,(Ab (tst 2 Ba.nd (Ak Cr (pv 1) (A5 rfl T.cL))) (Ab (tst 3 Ba.nd (Ak Cr (pv 2) (A5 rfl T.cP))) (Ab (tst 4 Ba.nd (tix Bs (tfl (pv 0)) (pv 3))) (Ab (C5 ig rfl (mP (Cf fY (tfl (pv 0)) (B3 (Ak Eb (pv 3) (A5 rfl T.cP))) (B3 (pv 2)))) (tgn 5 Ba.nd) (Ad (tau 4 Ba.nd (At aA hr.m (tpa (pv 5) Aa)) N7))) (Ab (tst 6 Ba.nd (Ak Cm (pv 1) (A5 rfl T.cL))) (Ab (Bp (ttc F5 (pv 6) Ae) (Ad (tau 4 Ba.nd (At aA hr.m (tpa (Ak Nn (tix Bs (tfl (pv 0)) (pv 2)) (Ak B6 (Ak Ad7 Ae (pv 6)) Ae)) Aa)) N7))
  Aw) (Ad (Am (pv 4))))))))),?_⟩
 apply{a,ab,dx,_,_,rfl,hx,ai.cl,ai.cQ,rfl,?_};k_is;rw[show((n:Int)/32/8)=((n/256:Nat):Int) by lia,show((n:Int)/32)=((n/32:Nat):Int) by lia];refine Cb (SqT.of hu) (iJ (by unfold Ce By;lia)) ?_;apply{a,ab,dx,_,_,rfl,hx,ai.cl,ai.cO,rfl,?_};apply{t,_,rfl,SqT.of ht,λp2 H2 s2 hp2=>?_};rw[show((n/256:Nat):Int)*8=((8*(n/256):Nat):Int) by lia,T4] at hp2;have e8:((nV (wordsOf l)).drop (8*(n/256))).take (n/32-8*(n/256))=nV ((fb (n/32-8*(n/256))).map λj=>val (Az l (8*(n/256)+j))):=by
  unfold nV;have:min (n/32-8*(n/256)) (By l.9-8*(n/256))=n/32-8*(n/256):=il (Nat.sub_le_sub_right (by unfold By;lia) _);rw[<-qh,<-o9,Zk,this]
 rw[e8] at hp2;refine{p2,rfl,{_,hp2},?_};generalize hm:n/32-8*(n/256)=m at hp2;refine Ack (xs:=nV ((fb m).map λj=>val (Az l (8*(n/256)+j)))) (λi G H'=>H'=H2/\∃v5 v6:Option V,G=[KH (.ref a),KH (.int n),KH (.int ((n/32:Nat):Int)),KH (.int ((n/256:Nat):Int)),KH (.int (cnt l (32*(8*(n/256)+i)):Nat)),v5,v6]) ?_ (λi G H' _ h=>by rw[h.1];exact hp2) ?_ ?_
 .refine{rfl,KI,KI,?_}
  rw[show 32*(8*(n/256)+0)=256*(n/256) by lia];rfl
 .rintro i x G H' hx' ⟨rfl,v5,v6,rfl⟩
  have hi:i<m:=by
   have:=(fc.mp hx').1
   rwa [d7,d7,fg] at this
  have hze:x=.int (val (Az l (8*(n/256)+i)):Nat):=by
   unfold nV at hx';rw[d9,d9,gd hi] at hx';exact(ee hx').symm
  subst hze;apply{_,rfl,?_};apply{rfl,KH (.int (val (Az l (8*(n/256)+i)):Nat)),v6,?_};have:=iB l (8*(n/256)+i);rw[show 8*(n/256)+(i+1)=8*(n/256)+i+1 by lia,this];rfl
 .rintro G H' ⟨rfl,v5,v6,rfl⟩
  rw[show(nV ((fb m).map λj=>val (Az l (8*(n/256)+j)))).9=m by unfold nV;rw[d7,d7,fg],show 8*(n/256)+m=n/32 by lia];k_is;have ec:cnt l n=cnt l (32*(n/32))+((l.drop (32*(n/32))).take (n%32)).count KJ:=by
   rw[<-qF];congr 1;lia
  refine Bn (λhr'=>?_) (λhr'=>?_)
  .have hr0:0<n%32:=()
   apply{a,ab,dx,_,_,rfl,s2 _ _ hx,ai.cl,ai.cO,rfl,?_};apply Cb (SqT.of (s2 _ _ ht)) (Ps (by unfold By;lia)) ?_;apply Aiq {(),(),by decide} ?_;k_is;rw[Aac _ (n%32) ()];refine{_,rfl,?_};k_is;rw[yV,Nx];have e2:(Az l (n/32)).take (n%32)=(l.drop (32*(n/32))).take (n%32):=by
    unfold Az;rw[oi,il ()]
   rw[e2];have:=q _ s2;rw[ec] at this;exact this
  .have hr0:n%32=0:=()
   k_is;have:=q _ s2;rw[ec,hr0,we] at this;exact this
inductive rT (K:d6)(C:eh)(vs:List V)(H:Hp)(Q:VK)(E:XK):Prop|mk(a:eh)(l:Za5)(b:Bool)(n:Nat)(_:vs=[.ref a,.int (b.toNat:Nat),.int n])(_:A0 K C H a l)(_:n<=l.9)(_:∀H',Ag H H'->Q (.int ((occ b l n).9:Nat)) H')
variable (aN:T.ZC "check_bit" 3 ["bit"] yO)
include T am ai aN in
theorem Ws (F:Fun K "ahead" "Counts.ahead" Hk f fd)(bH:T.ZM ab "ones_ahead" 2 ["self","place"] (Sj K ab)):Ar P w K mg base CX0 4 f fd ["self","bit","place"] (rT K ab):=by
 exists F.ok Kr
 obtain⟨a,l,b,n,rfl,hC,hn,q1⟩:=h;obtain⟨dx,t,u,hx,ht,hu,hl⟩:=id hC;refine{_,(Ab (As (At aN hr.m (tpa (pv 1) Aa))) (Ab (As (At am hr.m (tpa (pv 2) (tpa (tfl (pv 0)) Aa)))) (Ab (tst 3 Kr.nd (Aq bH hr.m (pv 0) (tpa (pv 2) Aa))) (Ad (Am (B8 (ttc Dt (pv 1) Ae) (pv 3) (Ak B6 (pv 2) (pv 3)))))))),?_}
 apply{b,rfl,?_};apply{a,ab,dx,_,_,rfl,hx,ai.cl,ai.cM,rfl,?_};apply{n,_,rfl,(),(),?_};apply{a,dx,_,rfl,hx,rfl,?_};apply{a,l,n,rfl,hC,hn,λH' s'=>?_};k_is;have ho:=Mc l n
 cases b with
 |true=>
  refine Bn (λ_=>?_) (λz=>absurd rfl z);k_is;have:=q1 H' s';rw[ho.1] at this;exact this
 |false=>
  refine Bn (λz=>absurd z (by decide)) (λ_=>?_);k_is;have:=q1 H' s';rw[show((n:Int)-(cnt l n:Nat))=((occ KL l n).9:Nat) by lia];exact this
inductive Pm (K:d6)(C:eh)(vs:List V)(H:Hp)(Q:VK)(E:XK):Prop|mk(a:eh)(l:Za5)(b:Bool)(k:Nat)(_:vs=[.ref a,.int (b.toNat:Nat),.int k])(_:A0 K C H a l)(_:k<=Ce l.9)(_:Q (.int ((occ b l (min (256*k) l.9)).9:Nat)) H)
include T ai in
theorem Qi (F:Fun K "ahead_of_block" "Counts.ahead_of_block" C1 f fd):Ar P w K mg base CX0 1 f fd ["self","bit","block"] (Pm K ab):=by
 exists F.ok Et
 obtain⟨a,l,b,k,rfl,⟨dx,t,u,hx,ht,hu,hl⟩,hk,q⟩:=h;have ec:cnt l (256*k)=cnt l (min (256*k) l.9):=by
  by_cases h:256*k<=l.9
  .rw[il h]
  .rw[rq (),Te l (),Te l (d8 _)]
 refine{_,(Ab (tst 3 Et.nd (tix Bs (tfl (pv 0)) (pv 2))) (Ad (Am (B8 (ttc Dt (pv 1) Ae) (pv 3) (Ak B6 (Ao (Rq rfl) (by rfl) T.cW Uc (tpa (Ak Eb (pv 2) (A5 rfl T.cX)) (tpa (tfl (pv 0)) Aa))) (pv 3)))))),?_}
 apply{a,ab,dx,_,_,rfl,hx,ai.cl,ai.cQ,rfl,?_};apply Cb (SqT.of hu) (iJ hk) ?_;k_is;have ho:=Mc l (min (256*k) l.9)
 cases b with
 |true=>
  refine Bn (λ_=>?_) (λz=>absurd rfl z);k_is;rw[ho.1] at q;rw[ec];exact q
 |false=>
  refine Bn (λz=>absurd z (by decide)) (λ_=>?_);apply{a,ab,dx,_,_,rfl,hx,ai.cl,ai.cM,rfl,?_};apply{_,_,rfl,?_};k_is;have em:(if((l.9:Nat):Int)<(k:Int)*256 then((l.9:Nat):Int) else(k:Int)*256)=((min (256*k) l.9:Nat):Int):=by
   split<;>lia
  rw[em,ec,show((min (256*k) l.9:Nat):Int)-(cnt l (min (256*k) l.9):Nat)=((occ KL l (min (256*k) l.9)).9:Nat) by lia];exact q
inductive Um (K:d6)(C:eh)(vs:List V)(H:Hp)(Q:VK)(E:XK):Prop|mk(a:eh)(l:Za5)(b:Bool)(_:vs=[.ref a,.int (b.toNat:Nat)])(_:A0 K C H a l)(_:Q (.int ((occ b l l.9).9:Nat)) H)
theorem Yq (l:Za5):(nV (Im l)).9=Ce l.9+1:=by
 unfold nV Im;rw[d7,d7,fg]
theorem lU (l:Za5):min (256*Ce l.9) l.9=l.9:=by unfold Ce By;lia
variable (aE:T.ZM ab "ahead_of_block" 1 ["self","bit","block"] (Pm K ab))
include T ai aE in
theorem Qv (F:Fun K "many_like" "Counts.many_like" Fh f fd):Ar P w K mg base CX0 2 f fd ["self","bit"] (Um K ab):=by
 exists F.ok M1
 obtain⟨a,l,b,rfl,hC,q⟩:=h;obtain⟨dx,t,u,hx,ht,hu,hl⟩:=id hC;refine{_,(Ad (Am (Aq aE hr.m (pv 0) (tpa (pv 1) (tpa (Ak B6 (Ao Au (by rfl) T.cK Ch (tpa (tfl (pv 0)) Aa)) Ae) Aa))))),?_};apply{a,dx,_,rfl,hx,rfl,?_};apply{a,ab,dx,_,_,rfl,hx,ai.cl,ai.cQ,rfl,?_};apply{u,_,rfl,.inr (SqT.of hu),?_};rw[Yq];apply{a,l,b,Ce l.9,?_,hC,d8 _,?_}
 .rw[show(((Ce l.9+1:Nat):Int)-1)=((Ce l.9:Nat):Int) by lia]
  rfl
 .rw[lU]
  exact q
theorem A0.sameT {K:d6}{b:eh}{l:Za5}(s:Gq H H')(h:A0 K C H b l):A0 K C H' b l:=by
 obtain⟨dx,t,u,h1,h2,h3,h4⟩:=h;exact{dx,t,u,s.keep _ _ (by intro ps e;cases e) h1,s.tup h2,s.tup h3,h4}
theorem A0.sm {K:d6}{b:eh}{ts:List Tb}{l:Za5}(h:A0 K C H b l)(s:SmT ts H H'):A0 K C H' b l:=h.sameT s.sm
inductive K8 (K:d6)(C:eh)(ts:List Tb)(vs:List V)(H:Hp)(Q:VK)(E:XK):Prop|mk(a:eh)(l:Za5)(b:Bool)(n:Nat)(_:vs=[.ref a,.int (b.toNat:Nat),.int n])(_:A0 K C H a l)(_:n<(occ b l l.9).9)(_:Tbs ts H)(_:∀(k:Nat) (H':Hp),k<Ce l.9->(occ b l (256*k)).9<=n->SmT ts H H'->Q (.int k) H')
variable (hK:K.In base) (hB:base.BuiltinsAt mg Pt) (aO:T.ZC "first_that" 3 ["low","high","holds"] (To P w K mg base 2))
include T ai aE hK hB aO in
theorem Qq {f c:eh}(F:Xm K "block_with" "Counts.block_with" Bi f fd c Pt)(hts:({Pt,Gc,"Counts.block_with.<locals>.<lambda>"}:Tb)∈ts):Ar P w K mg base CX0 4 f fd ["self","bit","nth"] (K8 K ab ts):=by
 refine F.ok Kw (λvs H Q E h=>?_) (λA outer s H vs Q E hr h=>?_)
 .obtain⟨a,l,b,n,rfl,_⟩:=h
  rfl
 .obtain⟨a,l,b,n,rfl,hC,hn,hT,q⟩:=h
  obtain⟨dx,t,u,hx,ht,hu,hl⟩:=id hC;have hpos:0<Ce l.9:=by
   have:0<l.9:=by
    rcases qq l.9 with z|z
    .rw[z] at hn
     exact absurd hn (zg _)
    .exact z
   unfold Ce By;lia
  refine{_,(Ad (Am (xG (qual:="Counts.block_with.<locals>.<lambda>") (k:=1) aO hr.m Ae (Ak B6 (Ao Au (by rfl) T.cK Ch (tpa (tfl (pv 0)) Aa)) Ae) (F.code hK) hB rfl (by kernel_rfl) Jc (λ_ _ _ _ _ _ _ hr=>(tpc F5 (Aq aE hr.m (pv 3) (tpa (pv 1) (tpa (Ak Bd (pv 0) Ae) Aa))) (pv 2)))))),?_};apply{a,ab,dx,_,_,rfl,hx,ai.cl,ai.cQ,rfl,?_};apply{u,_,rfl,.inr (SqT.of hu),?_};rw[Yq];k_is;have hk:=hT.1 _ hts;refine{0,((Ce l.9-1:Nat):Int),λi=>decide (n<(occ b l (min (256*(i.toNat+1)) l.9)).9),rfl,?_,(),hk,λi H3 hi1 hi2 s3=>?_,λm H' hm1 hm2 hm3 hm4 s' t'=>?_}
  .rw[show(((Ce l.9+1:Nat):Int)-2)=((Ce l.9-1:Nat):Int) by lia]
  .obtain⟨pt,hpt⟩:=Tb.tbl hk
   have kp:∀{b:eh} {u:HO},(∀ps,u≠.tbl ps)->H b=KH u->H3 b=KH u:=λ{b u} nt e=>s3 b u (λz=>by rw[z,hpt] at e;cases e;exact nt pt rfl) e;have hx3:=kp (by intro ps e;cases e) hx;have hC3:A0 K ab H3 a l:={dx,t,u,hx3,kp (by intro ps e;cases e) ht,kp (by intro ps e;cases e) hu,hl};apply{a,dx,_,rfl,hx3,rfl,?_};k_is;obtain⟨k,rfl⟩:=ly hi1;refine{a,l,b,k+1,rfl,hC3,(),?_};apply{?_,Ag.refl _};rw[gu];exact congrArg V.bl (decide_eq_decide.mpr ())
  .obtain⟨k,rfl⟩:=ly hm1
   have hk1:k<Ce l.9:=()
   have h256:256*k<=l.9:=by unfold Ce By at hk1;lia
   refine q k H' hk1 ?_ (wC hT hts s' t');rcases qq k with rfl|hk0
   .exact gn _
   .have:=hm3 ()
    dsimp only at this;rw[show(((k:Int)-1).toNat+1)=k by lia,il h256] at this;have:=of_decide_eq_false this;lia
inductive Sb (K:d6)(C:eh)(vs:List V)(H:Hp)(Q:VK)(E:XK):Prop|mk(a:eh)(l:Za5)(b:Bool)(j k t:Nat)(_:vs=[.ref a,.int (b.toNat:Nat),.int j,.int k])(_:A0 K C H a l)(_:(occ b l (32*By l.9))[(occ b l (32*j)).9+k]?=KH t)(_:∀H',Ag H H'->Q (.int t) H')
theorem Pp {b:Bool}{l:Za5}{W j k t:Nat}(h:(occ b l (32*W))[(occ b l (32*j)).9+k]?=KH t):j<W:=by
 rcases tu j W with z|z
 .exact z
 .exfalso
  have h1:=(fc.mp h).1;have h2:=Ae6 (b:=b) (l:=l) (show 32*W<=32*j by lia);lia
theorem nH {b:Bool}{l:Za5}{W j k t p:Nat}(h:(occ b l (32*W))[(occ b l (32*j)).9+k]?=KH t)(hp:(Mx b l j)[k]?=KH p):t=32*j+p:=by
 have hj:=Pp h;have hk:=(fc.mp hp).1;have hlen:(occ b l (32*(j+1))).9=(occ b l (32*j)).9+(Mx b l j).9:=by rw[Uw,eg,d7]
 rw[Z5 (show 32*(j+1)<=32*W by lia) (),Uw,fk (jj _ _),io,d9,hp] at h;exact(ee h).symm
theorem mC {b:Bool}{l:Za5}{W j k t:Nat}(h:(occ b l (32*W))[(occ b l (32*j)).9+k]?=KH t)(hp:(Mx b l j)[k]?=KI):(Mx b l j).9<=k/\(occ b l (32*W))[(occ b l (32*(j+1))).9+(k-(Mx b l j).9)]?=KH t:=by
 have hk:=List.getElem?_eq_none_iff.mp hp;refine{hk,?_};rw[Uw,eg,d7,show(occ b l (32*j)).9+(Mx b l j).9+(k-(Mx b l j).9)=(occ b l (32*j)).9+k by lia];exact h
include T aA ai in
theorem Qs (F:Fun K "place_from" "Counts.place_from" El f fd)(bp:T.ZC "nth_one" 2 ["word","nth"] Ady):Ar P w K mg base CX0 3 f fd ["self","bit","number","nth"] (Sb K ab):=by
 exists F.ok Bz
 obtain⟨a,l,b,j,k,t,rfl,⟨dx,tw,u,hx,ht,hu,hl⟩,hp,q⟩:=h;refine{_,(Ab (tst 4 Bz.nd (B8 (ttc Dt (pv 1) Ae) Ae (A5 rfl T.da))) (Ab (tst 5 Bz.nd (At bp hr.m (tpa (Ak mK (tix Bs (tfl (pv 0)) (pv 2)) (pv 4)) (tpa (pv 3) Aa)))) (Ab (En ig (P1 (fR (pv 5))) (Ab (tau 3 Bz.nd (At aA hr.m (tpa (Ak mK (tix Bs (tfl (pv 0)) (pv 2)) (pv 4)) Aa)) xW) (Ab (tau 2 Bz.nd Ae N7) (Ad (tst 5 Bz.nd (At bp hr.m (tpa (Ak mK (tix Bs (tfl (pv 0)) (pv 2)) (pv 4)) (tpa (pv 3) Aa)))))))) (Ad (Am (Ak Bd (Ak Eb (pv 2) (A5 rfl T.cL)) (pv 5))))))),?_}
 have hfl:∀{G:St} {H1:Hp} {Q':VK},Q' (.int (Oa b:Nat)) H1->(if decide (V.int (b.toNat:Nat)=V.int 1)=KJ then tC (.int 0) G H1 Q' else tC (.int 4294967295) G H1 Q'):=λ{G H1 Q'} h=>by
  cases b with
  |true=>exact Bn (λ_=>h) (λz=>absurd rfl z)
  |false=>exact Bn (λz=>absurd z (by decide)) (λ_=>h)
 have hj0:=Pp hp;apply hfl ?_;apply{a,ab,dx,_,_,rfl,hx,ai.cl,ai.cO,rfl,?_};apply Cb (SqT.of ht) (Ps hj0) ?_;k_is;rw[Tt];refine{_,k,rfl,λH1 s1=>?_};rw[kD];apply Gp (λG H'=>Ag H H'/\∃j k:Nat,G=[KH (.ref a),KH (.int (b.toNat:Nat)),KH (.int j),KH (.int k),KH (.int (Oa b:Nat)),KH (Ah3 ((Mx b l j)[k]?))]/\(occ b l (32*By l.9))[(occ b l (32*j)).9+k]?=KH t) (λG _=>match G with | [_,_,KH (.int j),_,_,_]=>By l.9-j.toNat|_=>0) ⟨s1,j,k,rfl,hp⟩ ?_;rintro μ G H2 ⟨s2,j,k,rfl,hp⟩ XF;have hj:=Pp hp;have XF:By l.9-j=μ:=XF;k_is
 cases hw:(Mx b l j)[k]? with
 |some p=>
  have:=nH hp hw;subst this;refine Bn (λz=>absurd z (by intro y;cases y)) (λ_=>?_);k_is;have:=q H2 s2;show rI0 _ _ (V.int ((p:Nat):Int)) H2 Q;refine Ado ?_;rw[show((j:Int)*32+((p:Nat):Int))=((32*j+p:Nat):Int) by lia];exact this
 |none=>
  obtain⟨hk,hp'⟩:=mC hp hw;refine Bn (λ_=>?_) (λz=>absurd rfl z);refine Li ?_;apply{a,ab,dx,_,_,rfl,s2 _ _ hx,ai.cl,ai.cO,rfl,?_};apply Cb (SqT.of (s2 _ _ ht)) (Ps hj) ?_;k_is;rw[Tt];refine{_,rfl,?_};rw[Abl];apply{a,ab,dx,_,_,rfl,s2 _ _ hx,ai.cl,ai.cO,rfl,?_};k_is;rw[show((j:Int)+1)=((j+1:Nat):Int) by lia,show((k:Int)-((Mx b l j).9:Nat))=((k-(Mx b l j).9:Nat):Int) by lia];refine Cb (SqT.of (s2 _ _ ht)) (Ps (Pp hp')) ?_;k_is;rw[Tt];refine{_,k-(Mx b l j).9,rfl,λH3 s3=>?_};rw[kD];apply{{s2.trans s3,j+1,k-(Mx b l j).9,rfl,hp'},?_};show By l.9-(j+1)<μ;lia
inductive Zl (K:d6)(C:eh)(ts:List Tb)(vs:List V)(H:Hp)(Q:VK)(E:XK):Prop|mk(a:eh)(l:Za5)(b:Bool)(n tt:Nat)(_:vs=[.ref a,.int (b.toNat:Nat),.int n])(_:A0 K C H a l)(_:Tbs ts H)(_:(occ b l l.9)[n]?=KH tt)(_:∀H',SmT ts H H'->Q (.int tt) H')
include T am ai aN aE in
theorem Q9 (F:Fun K "place_of" "Counts.place_of" F3 f fd)(bI:T.ZM ab "many_like" 2 ["self","bit"] (Um K ab))(bJ:T.ZM ab "block_with" 4 ["self","bit","nth"] (K8 K ab ts))(bK:T.ZM ab "place_from" 3 ["self","bit","number","nth"] (Sb K ab)):Ar P w K mg base CX0 5 f fd ["self","bit","nth"] (Zl K ab ts):=by
 exists F.ok Ht
 obtain⟨a,l,b,n,tt,rfl,hC,hT,htt,q1⟩:=h;obtain⟨dx,t,u,hx,ht,hu,hl⟩:=id hC;refine{_,(Ab (As (At aN hr.m (tpa (pv 1) Aa))) (Ab (As (At am hr.m (tpa (pv 2) (tpa (Ak B6 (Aq bI hr.m (pv 0) (tpa (pv 1) Aa)) Ae) Aa)))) (Ab (tst 3 Ht.nd (Aq bJ hr.m (pv 0) (tpa (pv 1) (tpa (pv 2) Aa)))) (Ad (Am (Aq bK hr.m (pv 0) (tpa (pv 1) (tpa (Ak Eb (pv 3) (A5 rfl T.cP)) (tpa (Ak B6 (pv 2) (Aq aE hr.m (pv 0) (tpa (pv 1) (tpa (pv 3) Aa)))) Aa))))))))),?_}
 apply{b,rfl,?_};apply{a,dx,_,rfl,hx,rfl,?_};apply{a,l,b,rfl,hC,?_};k_is;have hn:=Bq htt;refine{n,_,rfl,(),(),?_};apply{a,dx,_,rfl,hx,rfl,?_};apply{a,l,b,n,rfl,hC,hn,hT,λkb H1 hkb hle s1=>?_};have h256:256*kb<=l.9:=by unfold Ce By at hkb;lia
 have hx1:=s1.k hx;have hC1:=hC.sm s1;apply{a,dx,_,rfl,hx1,rfl,?_};apply{a,dx,_,rfl,hx1,rfl,?_};apply{a,l,b,kb,rfl,hC1,(),?_};rw[il h256];apply{a,l,b,8*kb,n-(occ b l (256*kb)).9,tt,?_,hC1,?_,λH' s'=>?_}
 .rw[show((kb:Int)*8)=((8*kb:Nat):Int) by lia,show((n:Int)-((occ b l (256*kb)).9:Nat))=((n-(occ b l (256*kb)).9:Nat):Int) by lia]
  rfl
 .rw[show 32*(8*kb)=256*kb by lia,show(occ b l (256*kb)).9+(n-(occ b l (256*kb)).9)=n by lia,Z5 (jV l.9) hn]
  exact htt
 .k_is
  exact q1 H' (s1.then s')
theorem Dp.kp {K:d6}{b:eh}{l:Za5}(h:Dp K C H b l)(k:Kp H H'):Dp K C H' b l:=by
 obtain⟨dx,t,h1,h2,h3⟩:=h;exact{dx,t,k.k h1,k.k h2,h3}
theorem A0.kp {K:d6}{b:eh}{l:Za5}(h:A0 K C H b l)(k:Kp H H'):A0 K C H' b l:=by
 obtain⟨dx,t,u,h1,h2,h3,h4⟩:=h;exact{dx,t,u,k.k h1,k.k h2,k.k h3,h4}
def ahS (es:Za6)(i:Nat):V:=if i=0 then .non else .str (es.getD (i-1) {#[]})
abbrev sV (es:Za6):List V:=es.map V.str
theorem fB {l:Za6}{i:Nat}{x:V}(h:(sV l)[i]?=KH x):∃n,l[i]?=KH n/\x=.str n:=by
 unfold sV at h;rw[d9] at h
 cases e:l[i]? with
 |none=>rw[e] at h;cases h
 |some n=>rw[e] at h;exact{n,rfl,(ee h).symm}
theorem Fg (l:Za6):(sV l).9=l.9:=d7 ..
theorem jN (l:Za5):(l.map λb=>[b]).flatten=l:=by
 induction l with
 |nil=>rfl
 |cons b r ih=>rw[iu,jn,ih];rfl
inductive T3 (K:d6)(CC:eh)(vs:List V)(H:Hp)(Q:VK)(E:XK):Prop|mk(l:eh)(es:Za6)(_:vs=[.ref l])(_:H l=KH (.lst (sV es)))(_:es.9<=4000)(_:∀c H',Ag H H'->H c=KI->A0 K CC H' c (bgN es)->Q (.ref c) H')
variable (aP:Mkr P w K mg base "Counts" ab 3 ["self","bits"] (O2 K ac ab)) (aQ:Mkr P w K mg base "Bits" ac 3 ["self","text"] (Vz K ac))
include T aP aQ in
theorem fI (F:Fun K "begins_of" "begins_of" Il f fd):Ar P w K mg base CX0 5 f fd ["things"] (T3 K ab):=by
 exists F.ok Pu
 obtain⟨l,es,rfl,hl,hn,q⟩:=h;refine{_,(Ab (P3 (i:=1) rfl Ui Pu.nd rfl rfl (eG rfl T.c9 (tpa (Ak Iq (Bo (tpa Ek Aa)) (pv 0)) (tpa (pv 0) Aa))) (λ_ _ _ _=>Cc) (λ_ _ _ _=>(B8 (ttc Uv (pv 1) (pv 0)) Cw Cw))) (Ad (Am (W8 aP hr.m (tpa (W8 aQ hr.m (tpa (Cj kq oz oy Od Cw (tpa (pv 1) Aa)) Aa)) Aa))))),?_}
 apply{few (by simp),λp hp=>?_};obtain⟨u1,hp1⟩:=A4 (o:=.lst [V.non]) hp;have hl1:=u1 _ _ hl;generalize upd H p _=H1 at *;apply{p,l,_,_,rfl,rfl,hp1,hl1,f9 (Ai (by rw[Fg,jb];lia)),λp2 hp2=>?_};obtain⟨u2,hp3⟩:=A4 (o:=.lst ([V.non]++sV es)) hp2;have hl2:=u2 _ _ hl1;have s2:=u1.trans u2;generalize upd H1 p2 _=H2 at *;apply{p2,l,rfl,{_,SqL.of hp3},{_,SqL.of hl2},?_};refine Aep (SqL.of hp3) (SqL.of hl2) (λi=>((bgN es).take i).map λb:Bool=>V.str (Av [b])) rfl (λi hi=>?_) (λi x y H3 R A hx hy s3 _ hA=>?_) (λD H3 hD3 s3 h3=>?_)
 .rw[d7,fh]
  rw[Fg] at hi;exact Ai (iy (FB _ _) ())
 .obtain⟨n,hn2,rfl⟩:=fB hy
  have hi:=Bq hn2;obtain rfl:x=ahS es i:=by
   cases i with
   |zero=>exact(ee hx).symm
   |succ j=>
    have hx:(sV es)[j]?=KH x:=hx;obtain⟨m,hm,rfl⟩:=fB hx;unfold ahS ju;rw[if_neg (),show j+1-1=j by lia,hm];rfl
  have hsc:yT (V.str n) (ahS es i)=KJ:=by
   unfold ahS;split<;>rfl
  have hb:(bgN es)[i]?=KH (!decide (V.str n=ahS es i)):=by
   unfold bgN;rw[d9,gd hi];show KH (decide (i=0\/es[i]?≠es[i-1]?))=KH _;congr 1;unfold ahS
   by_cases h0:i=0
   .rw[if_pos h0,decide_eq_true (BP h0:i=0\/es[i]?≠es[i-1]?),decide_eq_false (show ¬ V.str n=V.non by intro z;cases z)]
    rfl
   .rw[if_neg h0,gg,hn2]
    obtain⟨y,hy2⟩:∃y,es[i-1]?=KH y:={_,d4 ()};rw[hy2];show _=!decide (V.str n=V.str y)
    by_cases e:n=y
    .rw[decide_eq_false (by rintro(z|z);exact h0 z;exact z (by rw[e])),decide_eq_true (by rw[e])]
     rfl
    .rw[decide_eq_true (.inr λz=>e (ee z)),decide_eq_false λz=>e (V.str.inj z)]
     rfl
  apply{hsc,?_}
  cases hb2:(!decide (V.str n=ahS es i)) with
  |true=>
   apply hA _ _ ?_ (Ag.refl _);rw[i5,hb,hb2,fi];rfl
  |false=>
   apply hA _ _ ?_ (Ag.refl _);rw[i5,hb,hb2,fi];rfl
 have hbl:(bgN es).9=es.9:=by unfold bgN;rw[d7,fg]
 apply{rfl,?_};apply iS (ls:=(bgN es).map λb=>[b]) ?_ ?_ ?_
 .rw[h3,fz (by rw[hbl,Fg,eg,Fg,jb];lia),jg]
  rfl
 .rw[jN,hbl]
  lia
 rw[jN];k_is;intro b db hb hdb hbd;refine{b,db,bgN es,rfl,Af,(),λH5 s5 hB=>{rfl,?_}};have s5:=Je hb hdb s5;k_is;intro c dc hc hdc hcd;refine{c,dc,b,_,rfl,Af,(hB.kp λc u _ e=>Lz hc hdc _ _ e),λH6 s6 hC=>{rfl,?_}};have s6:=Je hc hdc s6;have s25:=(s2.trans s3).trans s5;exact q c H6 (s25.trans s6) (s25.free hc) hC
inductive iQ(vs:List V)(H:Hp)(Q:VK)(E:XK):Prop|mk(a:eh)(xs:List V)(_:vs=[.ref a])(_:H a=KH (.lst xs))(_:Adw xs)(_:xs.9<=5000)(_:∀H',Ag H H'->Q .non H')
include T aw in
theorem Xc (F:Fun K "check_order" "check_order" Iv f fd):Ar P w K mg base CX0 3 f fd ["order"] iQ:=by
 exists F.ok Fx
 obtain⟨a,xs,rfl,ha,hG,hn,q⟩:=h;refine⟨_,(Ab (tst 1 Fx.nd (Ak yK (Bo (tpa Jo Aa)) (Ao Au (by rfl) T.cK Ch (tpa (pv 0) Aa)))) (Ad (C5 ig rfl (Mm rfl T.cV (tpa (pv 0) Aa)) (Kh rfl (B4 (tgn 2 Fx.nd) (B4 (tgn 3 Fx.nd) G7))) (Ab (Bp (PW.pt (Ii (Cl (Bv (At aw hr.m (tpa (pv 3) (tpa Ae (tpa (Ak B6 (Ao Au (by rfl) T.cK Ch (tpa (pv 0) Aa)) Ae) Aa)))))) (Hy (Bv (tix Bk (pv 1) (pv 3)))))) (Ad Ca)
  Aw) (Ad (Aam Jo (zU (pv 1) (pv 3) lG))))))),?_⟩
 apply{few (by simp),λp hp=>?_};have t0:=An (o:=.lst [V.bl KL]) hp;apply{a,_,rfl,.inl (SqL.of (t0 _ _ ha)),?_};apply{p,xs.9,_,rfl,rfl,Af,(),(),f9 (Ai (by simp;lia)),λm hm=>?_};have hm0:=t0.free hm;have t1:=t0.trans (An (o:=.lst (fe ((xs.9:Nat):Int).toNat [V.bl KL]).flatten) hm);have hM:(upd (upd H p (.lst [V.bl KL])) m (.lst (fe ((xs.9:Nat):Int).toNat [V.bl KL]).flatten)) m=KH (.lst ((fe xs.9 KL).map V.bl)):=by
  rw[Af,gu,yJ]
 generalize (upd (upd H p (.lst [V.bl KL])) m (.lst (fe ((xs.9:Nat):Int).toNat [V.bl KL]).flatten))=H0 at *;apply{a,rfl,{_,SqL.of (t1 _ _ ha)},?_};refine K5 (xs:=xs) (λk G H1=>(∃(ms:Za5) (v2 v3:Option V),G=[KH (.ref a),KH (.ref m),v2,v3]/\Met xs k ms/\H1 m=KH (.lst (ms.map V.bl)))/\Ag H H1) ?_ (λk G H1 _ h=>SqL.of (h.2 _ _ ha)) ?_ ?_
 .exact{{_,_,_,rfl,Aaq xs,hM},t1}
 .rintro k x G H1 t hx ⟨⟨ms,v2,v3,rfl,hms,hm1⟩,s1⟩ ht
  have hk:=Bq hx;have st:=An (o:=.tup [.int k,x]) ht;have hm2:=st _ _ hm1;have s2:=s1.trans st;generalize upd H1 t _=H2 at *;obtain⟨n,hxn,hnl,hno⟩:=hG k hk;rw[hx] at hxn;obtain rfl:=ee hxn;obtain⟨b,hb⟩:∃b,ms[n]?=KH b:={_,d4 (by rw[hms.1];exact hnl)};obtain rfl:b=KL:=by
   cases b with
   |false=>rfl
   |true=>
    obtain⟨j,hj,hxj⟩:=(hms.2 n KJ hb).mp rfl;exact absurd hxj (hno j hj)
  apply{a,_,rfl,.inl (SqL.of (s2 _ _ ha)),?_};apply{n,0,_,rfl,(),(),?_};apply Cg (SqL.of hm2) (A9 (Ac6 hb)) ?_;apply xP hm2 rfl (by rw[d7,hms.1];exact hnl) ?_;rw[Aan];k_is;exact{{_,_,_,rfl,vB hms hx,Af},Bc s2 hm0}
 .rintro G H1 ⟨⟨ms,v2,v3,rfl,hms,hm1⟩,s1⟩
  exact q H1 s1
def isF:V->Bool
 |.bl KL=>KJ
 |_=>KL
def fAt (H:Hp)(m:eh):Nat:=match H m with|some (.lst xs)=>xs.countP isF|_=>0
theorem Afy (ms:Za5):(ms.map V.bl).countP isF=ms.count KL:=by
 induction ms with
 |nil=>rfl
 |cons b r ih=>cases b<;>simp[isF,yk,ny,ih]
theorem xD {m:eh}{ms:Za5}(h:H m=KH (.lst (ms.map V.bl))):fAt H m=ms.count KL:=by
 unfold fAt;rw[h];exact Afy ms
theorem rQ:∀{ms:Za5} {y:Nat},ms[y]?=KH KL->(ms.set y KJ).count KL+1=ms.count KL
 |[],_,h=>by cases h
 |b::r,0,h=>by
  cases h;simp
 |b::r,y+1,h=>by
  have ih:=rQ (ms:=r) (y:=y) h;rw[List.set_cons_succ,ny,ny];lia
def D0 (H:Hp)(n:Nat)(rs:List eh):Prop:=∀r∈rs,∃ns:List Int,ns.9<=n/\H r=KH (.lst (ns.map V.int))
theorem D0.same {rs:List eh}(s:Ag H H')(h:D0 H n rs):D0 H' n rs:=λr hr=>let ⟨ns,hl,e⟩:=h r hr;{ns,hl,s _ _ e}
theorem D0.upd {rs:List eh}{a:eh}{o:HO}(h:D0 H n rs)(hn:∀r∈rs,r≠a):D0 (upd H a o) n rs:=λr hr=>by
 obtain⟨ns,hl,e⟩:=h r hr;exact{ns,hl,by rw[Al (hn r hr)];exact e}
inductive jF(vs:List V)(H:Hp)(Q:VK)(E:XK):Prop|mk(t:eh)(ns:Za4)(_:vs=[.ref t])(_:H t=KH (.tup (nV ns)))(_:(∀x∈ns,x<ns.9))(_:ns.9<=5000)(_:∀p (rs:List eh) H',Ag H H'->H p=KI->H' p=KH (.lst (rs.map V.ref))->rs.9<=ns.9->D0 H' ns.9 rs->Q (.ref p) H')
include T in
theorem eJ (F:Fun K "rounds_of" "rounds_of" L0 f fd):Ar P w K mg base CX0 1 f fd ["order"] jF:=by
 exists F.ok C6
 obtain⟨t,ns,rfl,ht,hb,hn,q⟩:=h;have hlV:(nV ns).9=ns.9:=by rw[d7]
 refine⟨_,(Ab (tst 1 C6.nd (Bo Aa)) (Ab (tst 2 C6.nd (Ak yK (Bo (tpa Jo Aa)) (Ao Au (by rfl) T.cK Ch (tpa (pv 0) Aa)))) (Ab (C5 ig rfl (Fo rfl T.cN (tpa (Ao Au (by rfl) T.cK Ch (tpa (pv 0) Aa)) Aa)) (tgn 3 C6.nd) (Ab (tst 4 C6.nd (Bo Aa)) (Ab (tst 5 C6.nd (pv 3)) (Ab (En ig (Cl (Bv (tix Bk (pv 2) (pv 5)))) (Ab (Aam Jo (zU (pv 2) (pv 5) lG)) (Ab (As (Cj gi ie ic Bh (pv 4) (tpa (pv 5) Aa))) (Ad (tst 5 C6.nd (tix Bs (pv 0) (pv 5))))))) (Ad (Bp (ttc F5 (Ao Au (by rfl) T.cK Ch (tpa (pv 4) Aa)) Ae) (Ad (As (Cj gi ie ic Bh (pv 1) (tpa (pv 4) Aa))))
  Aw)))))) (Ad (Am (pv 1)))))),?_⟩
 apply{gn _,λp hp=>?_};obtain⟨t0,e0⟩:=A4 (o:=.lst []) hp;generalize upd H p _=H0 at *;apply{few (by simp),λp1 hp1=>?_};have t1:=An (o:=.lst [V.bl KL]) hp1;have s1:=t0.trans t1;have e1:=t1 _ _ e0;have f1:=@Af H0 p1 (.lst [V.bl KL]);generalize upd H0 p1 _=H1 at *;apply{t,_,rfl,.inr (SqT.of (s1 _ _ ht)),?_};apply{p1,_,_,rfl,rfl,f1,(),by rw[hlV];lia,f9 (Ai (by simp;lia)),λm hm=>?_};have t2:=An (o:=.lst (fe (((nV ns).9:Nat):Int).toNat [V.bl KL]).flatten) hm;have s2:=s1.trans t2;have hm0:=s1.free hm;have e2:=t2 _ _ e1;have hpm:p≠m:=Aj e1 hm;have hM:(upd H1 m (.lst (fe (((nV ns).9:Nat):Int).toNat [V.bl KL]).flatten)) m=KH (.lst ((fe ns.9 KL).map V.bl)):=by
  rw[Af,gu,hlV,yJ]
 generalize (upd H1 m (.lst (fe (((nV ns).9:Nat):Int).toNat [V.bl KL]).flatten))=H2 at *;apply{t,_,rfl,.inr (SqT.of (s2 _ _ ht)),?_};apply{_,rfl,(),by rw[hlV];lia,?_};rw[hlV,gu];refine Mf (λi G H3=>∃(rs:List eh) (ms:Za5) (v3 v4 v5:Option V),G=[KH (.ref t),KH (.ref p),KH (.ref m),v3,v4,v5]/\H3 p=KH (.lst (rs.map V.ref))/\rs.9<=i/\D0 H3 ns.9 rs/\(∀r∈rs,r≠p/\r≠m)/\H3 m=KH (.lst (ms.map V.bl))/\ms.9=ns.9/\Ag H H3) ?_ ?_ ?_
 .exact{[],_,_,_,_,rfl,e2,d8 _,(λr hr=>by cases hr),(λr hr=>by cases hr),hM,i6,s2}
 .rintro i G H3 hi ⟨rs,ms,v3,v4,v5,rfl,hp3,hrl,hrs,hne,hm3,hml,s3⟩
  apply{gn _,λa ha=>?_};have ta:=An (o:=.lst []) ha;have ha0:=s3.free ha;have hap:a≠p:=(Aj hp3 ha).symm;have ham:a≠m:=(Aj hm3 ha).symm;have har:∀r∈rs,r≠a:=λr hr=>by obtain⟨_,_,e⟩:=hrs r hr;exact Aj e ha
  have s4:=s3.trans ta;have hp4:=ta _ _ hp3;have hm4:=ta _ _ hm3;have hrs4:=hrs.same ta;have ha4:=@Af H3 a (.lst []);generalize upd H3 a _=H4 at *;apply Gp (λG H5=>∃(ms:Za5) (qs:List Int) (y:Nat),G=[KH (.ref t),KH (.ref p),KH (.ref m),KH (.int (0+(i:Int))),KH (.ref a),KH (.int y)]/\y<ns.9/\H5 p=KH (.lst (rs.map V.ref))/\D0 H5 ns.9 rs/\H5 m=KH (.lst (ms.map V.bl))/\ms.9=ns.9/\H5 a=KH (.lst (qs.map V.int))/\qs.9+ms.count KL<=ns.9/\Ag H H5) (λ_ H5=>fAt H5 m)
   {ms,[],i,by simp,hi,hp4,hrs4,hm4,hml,ha4,by have:=List.count_le_length (a:=KL) (l:=ms);simp;lia,s4} ?_
  rintro z G H5 ⟨ms,qs,y,rfl,hy,hp5,hrs5,hm5,hml5,ha5,hc5,s5⟩ hz;rw[xD hm5] at hz;obtain⟨b,hb5⟩:∃b,ms[y]?=KH b:={_,d4 ()};apply Cg (SqL.of hm5) (A9 (Ac6 hb5)) ?_
  cases b with
  |false=>
   apply Li ?_;apply xP hm5 rfl (by rw[d7];lia) ?_;rw[Aan];have hct:=rQ hb5;have hm6:=@Af H5 m (.lst ((ms.set y KJ).map V.bl));have s6:=Bc (o:=.lst ((ms.set y KJ).map V.bl)) s5 hm0;have ha6:upd H5 m (.lst ((ms.set y KJ).map V.bl)) a=KH (.lst (qs.map V.int)):=by rw[Al ham];exact ha5
   have hp6:upd H5 m (.lst ((ms.set y KJ).map V.bl)) p=KH (.lst (rs.map V.ref)):=by rw[Al hpm];exact hp5
   have hrs6:D0 (upd H5 m (.lst ((ms.set y KJ).map V.bl))) ns.9 rs:=hrs5.upd λr hr=>(hne r hr).2;generalize upd H5 m _=H6 at *;apply{.inl {rfl,_,SqL.of ha6},?_};apply B0 ha6 (by rw[d7];exact Ai ()) ?_;k_is;have hx:ns[y]?=KH ns[y]:=d4 hy;have hlt:=hb _ (f8 hx);generalize ns[y]=x at hx hlt;refine Cb (SqT.of ((Bc s6 ha0) _ _ ht)) (v:=.int x) (A9 (by rw[d9,hx];rfl)) ?_;apply{{ms.set y KJ,qs++[(y:Int)],x,rfl,hlt,by rw[Al hap.symm];exact hp6,hrs6.upd har,by rw[Al ham.symm];exact hm6,by rw[y3];exact hml5,by rw[Af,fi];rfl,by rw[eg];simp;lia,Bc s6 ha0},?_};rw[xD (ms:=ms.set y KJ) (by rw[Al ham.symm];exact hm6)];lia
  |true=>
   apply{a,_,rfl,.inl (SqL.of ha5),?_};apply Bn (λ_=>?_) (λ_=>?_)
   .apply{.inl {rfl,_,SqL.of hp5},?_};apply B0 hp5 (by rw[d7];exact Ai ()) ?_;apply{rs++[a],ms,_,_,_,rfl,by rw[Af,fi];rfl,by rw[eg];simp;lia,λr hr=>?_,λr hr=>?_,by rw[Al hpm.symm];exact hm5,hml5,Bc s5 hp}
    .rcases ik.mp hr with hr|hr
     .exact(hrs5.upd λr hr=>(hne r hr).1) r hr
     .rw[f7.mp hr]
      exact{qs,(),by rw[Al hap];exact ha5}
    .rcases ik.mp hr with hr|hr
     .exact hne r hr
     .rw[f7.mp hr]
      exact⟨hap,ham⟩
   .k_is
    exact{rs,ms,_,_,_,rfl,hp5,(),hrs5,hne,hm5,hml5,s5}
 .rintro G H3 ⟨rs,ms,v3,v4,v5,rfl,hp3,hrl,hrs,hne,hm3,hml,s3⟩
  k_is;exact q p rs H3 s3 hp hp3 hrl hrs
theorem oE (ys:List V):(Ha ys (KH (-1)) KI++Ha ys KI (KH (-1))).9=ys.9:=by
 rw[eg];unfold Ha;rw[fh,fh,gz,gz];show min (ys.9-(if(-1:Int)<0 then((-1:Int)+(ys.9:Int)).toNat else min (-1:Int).toNat ys.9)) (ys.9-(if(-1:Int)<0 then((-1:Int)+(ys.9:Int)).toNat else min (-1:Int).toNat ys.9))
  + min ((if(-1:Int)<0 then((-1:Int)+(ys.9:Int)).toNat else min (-1:Int).toNat ys.9)-0) (ys.9-0)=ys.9
 rw[if_pos (by decide),show((-1:Int)+(ys.9:Int)).toNat=ys.9-1 by lia,re,qa,qa,il (zy _ _)];exact uc (zy _ _)
theorem Ta {qs:List Int}(h:∀v∈ys,v∈qs.map V.int):∃zs:List Int,ys=zs.map V.int:=by
 induction ys with
 |nil=>exact{[],rfl}
 |cons y r ih=>
  obtain⟨zs,e⟩:=ih λv hv=>h v (gt _ hv);obtain⟨z,_,hz⟩:=lq.mp (h y gr);exact⟨z::zs,by rw[e,<-hz];rfl⟩
inductive rH(vs:List V)(H:Hp)(Q:VK)(E:XK):Prop|mk(t:eh)(ns:Za4)(st:Int)(_:vs=[.ref t,.int st])(_:H t=KH (.tup (nV ns)))(_:(∀x∈ns,x<ns.9))(_:ns.9<=3000)(_:0<st)(_:∀d (kvs:List (Key×V)) H',Ag H H'->H d=KI->H' d=KH (.dK kvs)->Q (.ref d) H')
theorem vZ (h:n<=10000000):n<=sizeLine:=iy h (by decide)
include T in
theorem Sy (F:Fun K "shortcuts_of" "shortcuts_of" Hw f fd)(bL:T.ZC "rounds_of" 1 ["order"] jF):Ar P w K mg base CX0 2 f fd ["order","step"] rH:=by
 exists F.ok Ey
 obtain⟨t,ns,st,rfl,ht,hb,hn,hst,q⟩:=h;refine⟨_,(Ab (tst 2 Ey.nd pB) (Ab (C5 ig rfl (Du (At bL hr.m (tpa (pv 0) Aa))) (tgn 3 Ey.nd) (Ad (Bp (ttc F5 (Ao Au (by rfl) T.cK Ch (tpa (pv 3) Aa)) (pv 1)) (Ab (tst 4 Ey.nd (Abj (pv 3) (pv 1))) (Ad (As (Cj uj ze PySem.F.type_dict_update sZ (pv 2) (tpa (Acr rfl rfl T.dH rfl T.c9 (tpa (pv 4) (tpa (Ak Iq (Cf Ox (pv 4) (B3 (Fz C8 Ae)) Hb) (Cf Ox (pv 4) Hb (B3 (Fz C8 Ae)))) Aa))) Aa)))))
  Aw))) (Ad (Am (pv 2))))),?_⟩
 k_is;intro d hd;obtain⟨t0,e0⟩:=A4 (o:=.dK []) hd;generalize upd H d _=H0 at *;apply{t,ns,rfl,t0 _ _ ht,hb,(),λp rs H1 s1 f1 e1 hl hrs=>?_};have s01:=t0.trans s1;refine{p,rfl,{_,SqL.of e1},?_};refine Os (xs:=rs.map V.ref) (λi G H2=>∃(kvs:List (Key×V)) (v3 v4:Option V),G=[KH (.ref t),KH (.int st),KH (.ref d),v3,v4]/\H2 d=KH (.dK kvs)/\kvs.9<=i*3000/\H2 p=KH (.lst (rs.map V.ref))/\D0 H2 ns.9 rs/\Ag H H2) ?_ (λk G H2 _ h=>by obtain⟨_,_,_,_,_,_,h,_⟩:=h;exact SqL.of h) ?_ ?_
 .exact{[],_,_,rfl,s1 _ _ e0,gn _,e1,hrs,s01}
 .rintro i x G H2 hx ⟨kvs,v3,v4,rfl,hd2,hk,hp2,hrs2,s2⟩
  have hi:=Bq hx;rw[d7] at hi;rw[d9] at hx;obtain⟨r,hr,rfl⟩:∃r,rs[i]?=KH r/\V.ref r=x:=by
   cases e:rs[i]? with
   |none=>rw[e] at hx;cases hx
   |some r=>rw[e] at hx;exact{r,rfl,ee hx}
  obtain⟨qs,hql,hqr⟩:=hrs2 r (f8 hr);apply{r,_,rfl,.inl (SqL.of hqr),?_};apply Bn (λ_=>?_) (λ_=>?_)
  .apply{r,_,st,rfl,rfl,hst,SqL.of hqr,λa ys ha hys hyl=>?_};obtain⟨zs,rfl⟩:=Ta hys;rw[d7,d7] at hyl;have t3:=An (o:=.lst (zs.map V.int)) ha;have s3:=s2.trans t3;have ha3:=@Af H2 a (.lst (zs.map V.int));have hd3:=t3 _ _ hd2;have hp3:=t3 _ _ hp2;have hrs3:=hrs2.same t3;generalize upd H2 a _=H3 at *;apply{.inr (.inr (.inl {rfl,.inl {_,hd3}})),?_};apply{a,_,rfl,SqL.of ha3,λb1 hb1=>?_};obtain⟨t4,hb4⟩:=A4 (o:=.lst (Ha (zs.map V.int) (KH (-1)) KI)) hb1;have ha4:=t4 _ _ ha3;have s4:=s3.trans t4;have hd4:=t4 _ _ hd3;have hp4:=t4 _ _ hp3;have hrs4:=hrs3.same t4;generalize upd H3 b1 _=H4 at *;apply{a,_,rfl,SqL.of ha4,λb2 hb2=>?_};obtain⟨t5,hb5⟩:=A4 (o:=.lst (Ha (zs.map V.int) KI (KH (-1)))) hb2;have ha5:=t5 _ _ ha4;have hc5:=t5 _ _ hb4;have s5:=s4.trans t5;have hd5:=t5 _ _ hd4;have hp5:=t5 _ _ hp4;have hrs5:=hrs4.same t5;generalize upd H4 b2 _=H5 at *;have hlen:=oE (zs.map V.int);rw[eg,d7] at hlen;apply{b1,b2,_,_,rfl,rfl,hc5,hb5,vZ (),λc hc=>?_};obtain⟨t6,hc6⟩:=A4 (o:=.lst (Ha (zs.map V.int) (KH (-1)) KI++Ha (zs.map V.int) KI (KH (-1)))) hc;have ha6:=t6 _ _ ha5;have s6:=s5.trans t6;have hd6:=t6 _ _ hd5;have hp6:=t6 _ _ hp5;have hrs6:=hrs5.same t6;generalize upd H5 c _=H6 at *;refine{a,c,zs,_,rfl,SqL.of ha6,SqL.of hc6,by rw[eg];lia,λg kvs2 hg hkl=>?_};obtain⟨t7,hg7⟩:=A4 (o:=.dK kvs2) hg;have s7:=s6.trans t7;have hd7:=t7 _ _ hd6;have hp7:=t7 _ _ hp6;have hrs7:=hrs6.same t7;have hdg:d≠g:=Aj hd6 hg;generalize upd H6 g _=H7 at *;have hk5:kvs.9<=3000*3000:=iy hk (Nat.mul_le_mul () (d8 _));apply zF hdg hd7 hg7 (vZ ()) λkvs' hk'=>?_;apply{kvs',_,_,rfl,Af,by rw[CL];lia,?_,hrs7.upd λr hr e=>?_,Bc s7 hd}
   .have hne:p≠d:=Ih hp7 hd7 (by intro z;cases z)
    rw[Al hne];exact hp7
   .obtain⟨_,_,er⟩:=hrs7 r hr
    rw[e,hd7] at er;cases er
  .k_is
   exact{kvs,_,_,rfl,hd2,by rw[CL];lia,hp2,hrs2,s2}
 .rintro G H2 ⟨kvs,v3,v4,rfl,hd2,hk,hp2,hrs2,s2⟩
  k_is;exact q d kvs H2 s2 hd hd2
theorem tP {ns:Za4}(o:Ord ns):Adw (nV ns):=λj hj=>by
 rw[d7] at hj;refine{ns[j],pY (d4 hj),by rw[d7];exact o.lt _ (List.getElem_mem hj),λi hi e=>?_};rw[pY (d4 (show i<ns.9 by lia))] at e;have:=V.int.inj (ee e);exact(ug.mp o.nd) i j () hj hi ()
def Ow (C:eh)(H:Hp)(x:eh)(ns:Za4)(st:Nat):Prop:=∃dx t d,H x=KH (.ins C dx [("onward",.ref t),("leaps",.ref d)])/\H t=KH (.tup (nV ns))
theorem Ow.kp {x:eh}{ns:Za4}{st:Nat}(h:Ow C H x ns st)(s:Kp H H'):Ow C H' x ns st:=by
 obtain⟨dx,t,d,h1,h2⟩:=h;exact{dx,t,d,s.k h1,s.k h2}
inductive Mu (C:eh)(vs:List V)(H:Hp)(Q:VK)(E:XK):Prop|mk(x dx a:eh)(ns:Za4)(st:Nat)(_:vs=[.ref x,.ref a,.int st])(_:H x=KH (.ins C dx []))(_:H a=KH (.lst (nV ns)))(_:Ord ns)(_:ns.9<=3000)(_:0<st)(_:∀H',SameBut x H H'->Ow C H' x ns st->Q .non H')
variable (aq:Qe K ag)
include T aq in
theorem Qg (F:iF K "__init__" "Shortcuts.__init__" B5 f fd)(bM:T.ZC "check_order" 3 ["order"] iQ)(bN:T.ZC "shortcuts_of" 2 ["order","step"] rH):Ar P w K mg base (CXE P w) 4 f fd ["self","order","step"] (Mu ag):=by
 exists F.okE Po
 obtain⟨x,dx,a,ns,st,rfl,hx,ha,hO,hn,hst,q⟩:=h;refine{_,(Ab (As (At bM hr.m (tpa (pv 1) Aa))) (Ab (tsf (pv 0) (Dj Ep (by rfl) T.di O4 (tpa (pv 1) Aa))) (Ad (tsf (pv 0) (At bN hr.m (tpa (tfl (pv 0)) (tpa (pv 2) Aa))))))),?_}
 apply{a,nV ns,rfl,ha,tP hO,by rw[d7];lia,λH1 s1=>?_};have hb:=hO.lt;have hx1:=s1 _ _ hx;have ha1:=s1 _ _ ha;apply{a,_,rfl,.inl {SqL.of ha1,λt ht=>?_}};have t2:=An (o:=.tup (nV ns)) ht;have hx2:=t2 _ _ hx1;have ht2:=@Af H1 t (.tup (nV ns));have s2:=s1.trans t2;generalize upd H1 t _=H2 at *;have htx:t≠x:=Ih ht2 hx2 (by intro z;cases z);apply Dv hx2 aq.cl aq.dB (by decide) ?_;have hx3:upd H2 x (.ins ag dx (Ga "onward" (.ref t) [])) x=KH (.ins ag dx [("onward",.ref t)]):=Af;have ht3:upd H2 x (.ins ag dx (Ga "onward" (.ref t) [])) t=KH (.tup (nV ns)):=by rw[Al htx];exact ht2
 have s3:=s2.but.trans (Bb (H:=H2) (x:=x) (o:=.ins ag dx (Ga "onward" (.ref t) [])));generalize upd H2 x _=H3 at *;apply{x,ag,dx,_,.ref t,rfl,hx3,aq.cl,aq.dB,rfl,?_};apply{t,ns,st,rfl,ht3,hb,hn,(),λd kvs H4 s4 f4 e4=>?_};apply Dv (s4 _ _ hx3) aq.cl aq.dP (show 1<1000 by decide) ?_;k_is;exact q _ ((s3.trans s4.but).trans Bb) {dx,t,d,Af,by rw[Al htx];exact s4 _ _ ht3}
inductive rN (C:eh)(vs:List V)(H:Hp)(Q:VK)(E:XK):Prop|mk(x:eh)(ns:Za4)(st k v:Nat)(_:vs=[.ref x,.int k])(_:Ow C H x ns st)(_:ns[k]?=KH v)(_:Q (.int v) H)
include T aq in
theorem We (F:Fun K "there" "Shortcuts.there" Ft f fd):Ar P w K mg base CX0 1 f fd ["self","place"] (rN ag):=by
 exists F.ok Nz
 obtain⟨x,ns,st,k,v,rfl,⟨dx,t,d,hx,ht⟩,hv,q⟩:=h;refine{_,(Ad (Am (tix Bs (tfl (pv 0)) (pv 1)))),?_};apply{x,ag,dx,_,.ref t,rfl,hx,aq.cl,aq.dB,rfl,?_};k_is;exact Cb (SqT.of ht) (A9 (pY hv)) q
def hts (l:Za5)(i:Nat):List Int:=(fb i).map λj=>hgt l (j+1)
theorem yY (l:Za5)(i:Nat):hts l (i+1)=hts l i++[hgt l (i+1)]:=by
 unfold hts;rw[jf,fi];rfl
def htB (l:Za5)(b:Int)(i:Nat):List Int:=(hts l i).map (b + ·)
inductive Vh(vs:List V)(H:Hp)(Q:VK)(E:XK):Prop|mk(l:Za5)(bg:Int)(_:vs=[.str (Av l),.int bg])(_:l.9<=1000)(_:∀p H',Ag H H'->H p=KI->H' p=KH (.lst ((htB l bg l.9).map V.int))->Q (.ref p) H')
include T in
theorem Xs (F:Fun K "heights_of" "heights_of" J9 f fd):Ar P w K mg base CX0 1 f fd ["text","begin"] Vh:=by
 exists F.ok Eu
 obtain⟨l,bg,rfl,hl,q⟩:=h;refine{_,(Ab (tst 2 Eu.nd (pv 1)) (Ab (tst 3 Eu.nd (Bo Aa)) (Ab (C5 ig rfl (lX (pv 0)) (tgn 4 Eu.nd) (Ab (tau 2 Eu.nd (B8 (ttc Dt (pv 4) Cw) Ae (Fz C8 Ae)) N7) (Ad (As (Cj gi ie ic Bh (pv 3) (tpa (pv 2) Aa)))))) (Ad (Am (pv 3)))))),?_}
 apply{gn _,λp hp=>?_};apply{_,rfl,?_};refine qN (λi G H1=>∃v:Option V,G=[KH (.str (Av l)),KH (.int bg),KH (.int (bg+hgt l i)),KH (.ref p),v]/\H1 p=KH (.lst ((htB l bg i).map V.int))/\Ag H H1) {_,by rw[show bg+hgt l 0=bg by unfold hgt;simp];rfl,Af,An hp} ?_ ?_
 .rintro i c G H1 hc ⟨v,rfl,hp1,sm⟩
  obtain⟨b,hb,rfl⟩:=gF hc;have hi:=Bq hb;have hh:=Kx hb;have hz1:((htB l bg i).map V.int).9<sizeLine:=by
   rw[d7];unfold htB hts;rw[d7,d7,fg];exact Dk ()
  have fin:∀d:Int,hgt l (i+1)=hgt l i+d->∃v:Option V,[KH (V.str (Av l)),KH (V.int bg),KH (V.int (bg+hgt l i+d)),KH (V.ref p),KH (V.str (sgn (if b then 49 else 48)))]=[KH (V.str (Av l)),KH (V.int bg),KH (V.int (bg+hgt l (i+1))),KH (V.ref p),v] /\
    (upd H1 p (.lst ((htB l bg i).map V.int++[V.int (bg+hgt l i+d)]))) p=KH (.lst ((htB l bg (i+1)).map V.int))/\Ag H (upd H1 p (.lst ((htB l bg i).map V.int++[V.int (bg+hgt l i+d)]))):=λd hd=>by
   refine{_,by rw[hd,GJ],?_,λb' u e=>?_}
   .unfold htB
    rw[Af,yY,hd,fi,fi,GJ];rfl
   .rw[Al (Aj e hp)]
    exact sm _ _ e
  apply Bn (λh1=>?_) (λh1=>?_)
  .have hd:hgt l (i+1)=hgt l i+1:=by cases b with|true=>exact hh|false=>exact absurd h1 (by decide)
   apply{.inl {rfl,_,SqL.of hp1},?_};k_is;exact B0 hp1 hz1 (fin 1 hd)
  .have hd:hgt l (i+1)=hgt l i + -1:=by cases b with|false=>exact hh|true=>exact absurd rfl h1
   apply{.inl {rfl,_,SqL.of hp1},?_};k_is;exact B0 hp1 hz1 (fin (-1) hd)
 .rintro G H1 ⟨v,rfl,hp1,sm⟩
  rw[show(Av l).cps.size=l.9 from A7 l] at *;k_is;exact q p H1 sm hp hp1
inductive qW(vs:List V)(H:Hp)(Q:VK)(E:XK):Prop|mk(l:Za5)(_:vs=[.str (Av l)])(_:Vs 0 l)(_:l.9<=8000)(_:∀H',Ag H H'->Q .non H')
include T in
theorem dS (F:Fun K "check_row" "check_row" Ln f fd):Ar P w K mg base CX0 1 f fd ["text"] qW:=by
 exists F.ok Fy
 obtain⟨l,rfl,hv,hn,q⟩:=h;refine⟨_,(Ab (Bp (Cl (Bv (Ao Cu (by rfl) T.cT Ci (tpa (pv 0) (tpa (Hd (v:=.ty "str") rfl T.dv wK rfl) Aa))))) (Ad Ca)
  Aw) (Ab (tst 1 Fy.nd Ae) (Ab (C5 ig rfl (Aao rfl T.cV (tpa (pv 0) Aa)) (Kh rfl (B4 (tgn 2 Fy.nd) (B4 (tgn 3 Fy.nd) G7))) (Ab (tau 1 Fy.nd (B8 (ttc Dt (pv 3) Cw) Ae (Fz C8 Ae)) N7) (Ad (Bp (PW.pt (Ii (Td Z6 (pv 3) Cw rfl) (Ii (ttc O9 (pv 1) Ae) (Hy (ttc Dt (pv 2) (A5 rfl T.cY)))))) (Ad Ca)
  Aw)))) (Ad (Bp (ttc F5 (pv 1) Ae) (Ad Ca)
  Aw))))),?_⟩
 apply{_,_,_,_,rfl,.str _,Sg,?_};apply{_,rfl,?_};refine tO (λi G H1=>(∃v2 v3:Option V,G=[KH (.str (Av l)),KH (.int (hgt l i)),v2,v3])/\Ag H H1) {{_,_,rfl},Ag.refl _} ?_ ?_
 .rintro i c G H1 t hc ⟨⟨v2,v3,rfl⟩,s1⟩ ht
  obtain⟨b,hb,rfl⟩:=gF hc;have hi:=Bq hb;have hs:=Kx hb;obtain⟨h,hh,_⟩:=Ua hv (i+1) ();have s2:=s1.trans (An (o:=.tup [.int i,.str (sgn (if b then 49 else 48))]) ht);generalize upd H1 t _=H2 at *;k_is
  cases b with
  |true=>
   refine Bn (λ_=>?_) (λh=>absurd rfl h);apply{_,_,rfl,rfl,?_};k_is;have hs:hgt l (i+1)=hgt l i+1:=hs;rw[<-hs,hh];rw[show(!(!(mr ("01":Str) (sgn (if KJ=KJ then 49 else 48)) 0 ("01":Str).9 1).isEmpty))=KL by decide +kernel];apply Bn (λh=>()) (λ_=>?_);apply Bn (λh=>?_) (λ_=>?_)
   .have:=V.int.inj h
    lia
   k_is;exact{{_,_,rfl},s2}
  |false=>
   refine Bn (λh=>absurd h (by decide)) (λ_=>?_);apply{_,_,rfl,rfl,?_};k_is;have hs:hgt l (i+1)=hgt l i + -1:=hs;rw[<-hs,hh];rw[show(!(!(mr ("01":Str) (sgn (if KL=KJ then 49 else 48)) 0 ("01":Str).9 1).isEmpty))=KL by decide +kernel];apply Bn (λh=>()) (λ_=>?_);apply Bn (λh=>?_) (λ_=>?_)
   .have:=V.int.inj h
    lia
   k_is;exact{{_,_,rfl},s2}
 .rintro G H1 ⟨⟨v2,v3,rfl⟩,s1⟩
  rw[show(Av l).cps.size=l.9 from A7 l];obtain⟨h,hh,hv2,_⟩:=Ua hv l.9 (d8 _);rw[jk (d8 _)] at hv2;have hv2:h=0:=hv2;apply Bn (λh=>()) (λ_=>?_);k_is;exact q H1 s1
def Ov (b:V):List (Str×V):=[("bits",b)]
def J6 (b c:V):List (Str×V):=[("bits",b),("counts",c)]
def uT (b c n t o:V):List (Str×V):=[("bits",b),("counts",c),("length",n),("kept_table",t),("often_least",o)]
inductive qG (K:d6)(CP:eh)(vs:List V)(H:Hp)(Q:VK)(E:XK):Prop|mk(x dx:eh)(b c n t o:V)(_:vs=[.ref x,n,t,o])(_:H x=KH (.ins CP dx (J6 b c)))(_:Q .non (upd H x (.ins CP dx (uT b c n t o))))
variable (af:Qa K aa)
include T af in
theorem Wt (F:Fun K "__init__" "Heights.__init__" Hq f fd):Ar P w K mg base CX0 1 f fd ["self","length","table","often_least"] (qG K aa):=by
 exists F.ok Su
 obtain⟨x,dx,b,c,n,t,o,rfl,hx,q⟩:=h;refine{_,(Ab (tsf (pv 0) (pv 1)) (Ab (tsf (pv 0) (pv 2)) (Ad (tsf (pv 0) (pv 3))))),?_}
 apply Dv hx af.cl af.cM (show 2<1000 by decide) ?_;apply Dv Af af.cl af.cQ (show 3<1000 by decide) ?_;rw[Tm];apply Dv Af af.cl af.dN (show 4<1000 by decide) ?_;rw[Tm];exact q
inductive pU (K:d6)(CC CP:eh)(vs:List V)(H:Hp)(Q:VK)(E:XK):Prop|mk(x dx c:eh)(fs:List (Str×V))(l:Za5)(n:Nat)(_:vs=[.ref x,.int n])(_:H x=KH (.ins CP dx fs))(_:fs.lookup ("counts":Str)=KH (.ref c))(_:A0 K CC H c l)(_:n<=l.9)(_:∀H',Ag H H'->Q (.int ((occ KJ l n).9:Nat)) H')
include T af in
theorem Qu (F:Fun K "opens_ahead" "Pairs.opens_ahead" Eh f fd)(bO:T.ZM ab "ahead" 4 ["self","bit","place"] (rT K ab)):Ar P w K mg base CX0 5 f fd ["self","place"] (pU K ab aa):=by
 exists F.ok Lk
 obtain⟨x,dx,c,fs,l,n,rfl,hx,hc,hC,hn,q⟩:=h;refine{_,(Ad (Am (Aq bO hr.m (tfl (pv 0)) (tpa Ae (tpa (pv 1) Aa))))),?_};apply{x,aa,dx,fs,.ref c,rfl,hx,af.cl,af.du,hc,?_};obtain⟨dc,t,u,hc1,_⟩:=id hC;apply{c,dc,_,rfl,hc1,rfl,?_};k_is;exact⟨c,l,KJ,n,rfl,hC,hn,q⟩
inductive kK (K:d6)(CC CP:eh)(vs:List V)(H:Hp)(Q:VK)(E:XK):Prop|mk(x dx c:eh)(fs:List (Str×V))(l:Za5)(n:Nat)(_:vs=[.ref x,.int n])(_:H x=KH (.ins CP dx fs))(_:fs.lookup ("counts":Str)=KH (.ref c))(_:fs.lookup ("opens_ahead":Str)=KI)(_:A0 K CC H c l)(_:n<=l.9)(_:∀H',Ag H H'->Q (.int (2*((occ KJ l n).9:Int)-n)) H')
variable (aR:T.ZM aa "opens_ahead" 5 ["self","place"] (pU K ab aa))
include T af aR in
theorem Wf (F:Fun K "height" "Heights.height" Gh f fd):Ar P w K mg base CX0 6 f fd ["self","place"] (kK K ab aa):=by
 exists F.ok Pa
 obtain⟨x,dx,c,fs,l,n,rfl,hx,hc,ho,hC,hn,q⟩:=h;refine{_,(Ad (Am (Ak B6 (Ak Eb Ae (Aq aR hr.m (pv 0) (tpa (pv 1) Aa))) (pv 1)))),?_};apply{x,dx,fs,rfl,hx,ho,?_};apply{x,dx,c,fs,l,n,rfl,hx,hc,hC,hn,λH' s=>?_};k_is;exact q H' s
inductive Vj (K:d6)(CB CP:eh)(vs:List V)(H:Hp)(Q:VK)(E:XK):Prop|mk(x dx b:eh)(fs:List (Str×V))(l:Za5)(i j:Nat)(_:vs=[.ref x,.int i,.int j])(_:H x=KH (.ins CP dx fs))(_:fs.lookup ("bits":Str)=KH (.ref b))(_:Dp K CB H b l)(_:i<=j)(_:j<=l.9)(_:∀H',Ag H H'->Q (.str (Av ((l.drop i).take (j-i)))) H')
include T af in
theorem Wp (F:Fun K "stretch" "Pairs.stretch" G0 f fd)(bP:T.ZM ac "stretch" 5 ["self","low","high"] (Y3 K ac)):Ar P w K mg base CX0 6 f fd ["self","low","high"] (Vj K ac aa):=by
 exists F.ok R0
 obtain⟨x,dx,b,fs,l,i,j,rfl,hx,hb,hB,hij,hj,q⟩:=h;refine{_,(Ad (Am (Aq bP hr.m (tfl (pv 0)) (tpa (pv 1) (tpa (pv 2) Aa))))),?_};apply{x,aa,dx,fs,.ref b,rfl,hx,af.cl,af.dq,hb,?_};obtain⟨db,t,hb1,_⟩:=id hB;apply{b,db,_,rfl,hb1,rfl,?_};k_is;exact⟨b,l,i,j,rfl,hB,hij,hj,q⟩
def bgH (l:Za5)(t:Nat):Int:=2*((occ KJ l (t*256)).9:Int)-(t*256:Nat)
def sgH (l:Za5)(t:Nat):Za5:=(l.drop (t*256)).take 256
theorem Abg (l:Za5)(t:Nat):(sgH l t).9<=1000:=by unfold sgH;rw[fh];lia
def U7 (l:Za5)(t:Nat):List Int:=htB (sgH l t) (bgH l t) (sgH l t).9
def vG (l:Za5)(H:Hp)(r:eh)(j:Nat):Prop:=∃mn mx:Int,H r=KH (.tup [.int (bgH l j),.int mn,.int mx])/\Mj (U7 l j) mn/\nU (U7 l j) mx
def Sa (l:Za5)(H:Hp)(t:eh):Prop:=∃rs:List eh,H t=KH (.tup (rs.map V.ref))/\rs.9=(l.9+256-1)/256/\∀(j:Nat) r,rs[j]?=KH r->vG l H r j
theorem Sa.keep {l:Za5}{t:eh}(k:∀b xs,H b=KH (.tup xs)->H' b=KH (.tup xs))(h:Sa l H t):Sa l H' t:=by
 obtain⟨rs,h1,h2,h3⟩:=h;refine{rs,k _ _ h1,h2,λj r e=>?_};obtain⟨mn,mx,e1,e2,e3⟩:=h3 j r e;exact{mn,mx,k _ _ e1,e2,e3}
theorem Sa.same {l:Za5}{t:eh}(s:Ag H H')(h:Sa l H t):Sa l H' t:=h.keep λb xs e=>s _ _ e
def Bl (K:d6)(CB CC CP:eh)(H:Hp)(x:eh)(l:Za5):Prop:=∃(dx b c t:eh) (o:V),H x=KH (.ins CP dx (uT (.ref b) (.ref c) (.int (l.9:Nat)) (.ref t) o))/\Dp K CB H b l/\A0 K CC H c l/\Sa l H t/\Vs 0 l/\l.9<=8192
theorem Bl.same {K:d6}{x:eh}{l:Za5}(h:Bl K CB CC CP H x l)(s:Ag H H'):Bl K CB CC CP H' x l:=by
 obtain⟨dx,b,c,t,o,h1,h2,h3,h4,h5⟩:=h;exact{dx,b,c,t,o,s _ _ h1,h2.same s,h3.same s,h4.same s,h5}
inductive eR (K:d6)(CB CC CP:eh)(vs:List V)(H:Hp)(Q:VK)(E:XK):Prop|mk(x:eh)(l:Za5)(_:vs=[.ref x])(_:Bl K CB CC CP H x l)(_:Q (.int (l.9:Nat)) H)
include T af in
theorem Wu (F:Fun K "size" "Heights.size" Hn f fd):Ar P w K mg base CX0 1 f fd ["self"] (eR K ac ab aa):=by
 exists F.ok S6
 obtain⟨x,l,rfl,⟨dx,b,c,t,o,hx,_⟩,q⟩:=h;refine{_,(Ad (Am (tfl (pv 0)))),?_};k_is;exact{x,aa,dx,_,_,rfl,hx,af.cl,af.cM,rfl,q}
inductive Z3 (K:d6)(CB CC CP:eh)(vs:List V)(H:Hp)(Q:VK)(E:XK):Prop|mk(x:eh)(l:Za5)(_:vs=[.ref x])(_:Bl K CB CC CP H x l)(_:∀H',Ag H H'->Q (.str (Av l)) H')
variable (aS:T.ZM aa "stretch" 6 ["self","low","high"] (Vj K ac aa))
include T af aS in
theorem Wv (F:Fun K "text" "Heights.text" Hm f fd):Ar P w K mg base CX0 7 f fd ["self"] (Z3 K ac ab aa):=by
 exists F.ok S0
 obtain⟨x,l,rfl,⟨dx,b,c,t,o,hx,hB,hC,_⟩,q⟩:=h;refine{_,(Ad (Am (Aq aS hr.m (pv 0) (tpa Ae (tpa (tfl (pv 0)) Aa))))),?_};apply{x,dx,_,rfl,hx,rfl,?_};apply{x,aa,dx,_,_,rfl,hx,af.cl,af.cM,rfl,?_};apply{x,dx,b,_,l,0,l.9,rfl,hx,rfl,hB,gn _,d8 _,λH' s=>?_}
 simpa using q H' s
theorem Yy {x:eh}(hx:H1 x=KI)(hd:H1 dx=KI)(s:SameBut x (upd (upd H1 dx (.own x)) x (.ins C dx [])) H2):Ag H1 H2:=λb u e=>s b u (Aj e hx) (by rw[Al (Aj e hx),Al (Aj e hd)];exact e)
theorem Ka {K:d6}{x b:eh}{l:Za5}(s:SameBut x H H')(n:xV H x)(hne:b≠x)(h:A0 K C H b l):A0 K C H' b l:=by
 obtain⟨dx,t,u,h1,h2,h3,h4⟩:=h;exact{dx,t,u,s _ _ hne h1,s _ _ (λe=>by subst e;exact(n _).1 (.inl h2)) h2,s _ _ (λe=>by subst e;exact(n _).1 (.inl h3)) h3,h4}
inductive qJ (K:d6)(CB CC CP:eh)(vs:List V)(H:Hp)(Q:VK)(E:XK):Prop|mk(x dx:eh)(l:Za5)(_:vs=[.ref x,.str (Av l)])(_:H x=KH (.ins CP dx []))(_:Vs 0 l)(_:l.9<=8000)(_:∀H',SameBut x H H'->Bl K CB CC CP H' x l->Q .non H')
variable (aT:T.ZC "check_row" 1 ["text"] qW) (ar:T.ZM aa "height" 6 ["self","place"] (kK K ab aa)) (aU:T.ZC "heights_of" 1 ["text","begin"] Vh)
include T aP aQ af aT ar aU in
theorem W3 (F:Fun K "__init__" "Pairs.__init__" C7 f fd)(Wy:Abq P w K mg base "Heights" "__init__" 1 ["self","length","table","often_least"] (qG K aa)):Ar P w K mg base CX0 7 f fd ["self","text"] (qJ K ac ab aa):=by
 exists F.ok Es
 obtain⟨x,dx,l,rfl,hx,hV,hl8,q⟩:=h;refine{_,(Ab (As (At aT hr.m (tpa (pv 1) Aa))) (Ab (tsf (pv 0) (W8 aQ hr.m (tpa (pv 1) Aa))) (Ab (tsf (pv 0) (W8 aP hr.m (tpa (tfl (pv 0)) Aa))) (Ab (tst 2 Es.nd (oS rfl rfl T.c7 rfl T.cN (tpa Ae (tpa (Ao B7 (by rfl) T.cK Ch (tpa (pv 1) Aa)) (tpa (A5 rfl T.cR) Aa))))) (Ab (Fq (i:=3) rfl Sw Es.nd rfl rfl (Du (pv 2)) (λ_ _ _ _=>Cc) (λ_ _ _ _=>(Aq ar hr.m (pv 1) (tpa (pv 0) Aa)))) (Ab (P3 (i:=4) rfl Sx Es.nd rfl rfl (eG rfl T.c9 (tpa (pv 2) (tpa (pv 3) Aa))) (λ_ _ _ _=>Cc) (λ_ _ _ _=>(At aU hr.m (tpa (Cf K0 (pv 2) (B3 (pv 0)) (B3 (Ak Bd (pv 0) (A5 rfl T.cR)))) (tpa (pv 1) Aa))))) (Ab (P3 (i:=5) rfl Sq Es.nd rfl rfl (eG rfl T.c9 (tpa (pv 3) (tpa (pv 4) Aa))) (λ_ _ _ _=>Cc) (λ_ _ _ _=>(N5 (tpa (pv 0) (tpa (Ao (Up K rfl) (by rfl) T.cW Uc (tpa (pv 1) Aa)) (tpa (Ao (oF K rfl) (by rfl) T.dC Ac5 (tpa (pv 1) Aa)) Aa)))))) (Ad (As (Ada Wy hr.m rfl (tpa (pv 0) (tpa (Ao B7 (by rfl) T.cK Ch (tpa (pv 1) Aa)) (tpa (Dj Ep (by rfl) T.di O4 (tpa (pv 5) Aa)) (tpa (L5 rfl S5 (Du (pv 4)) (λ_ _ _ _=>Cc) (λ_ _ _ _=>(Afz K gi PySem.F.slot_list_count PySem.F.type_list_count sM (pv 0) (tpa (Ao (Up K rfl) (by rfl) T.cW Uc (tpa (pv 0) Aa)) Aa)))) Aa)))))))))))))),?_}
 apply{l,rfl,hV,hl8,λH1 s1=>?_};have hl:l.9<=8192:=()
 have hx1:=s1 _ _ hx;k_is;intro b db hb hdb hbd;refine{b,db,l,rfl,Af,(),λH2 s2 hB2=>{rfl,?_}};have s2:=Yy hb hdb s2;have hx2:=s2 _ _ hx1;have nbx:b≠x:=(Aj hx1 hb).symm;apply Dv hx2 af.cl af.dq (show 0<1000 by decide) ?_;rw[show Ga ("bits":Str) (V.ref b) []=(Ov (.ref b)) from rfl];have hB3:Dp K ac (upd H2 x (.ins aa dx (Ov (.ref b)))) b l:=Hr Bb (Fn hx2) nbx hB2;have hx3:=@Af H2 x (.ins aa dx (Ov (.ref b)));have b3:SameBut x H2 (upd H2 x (.ins aa dx (Ov (.ref b)))):=Bb;generalize upd H2 x _=H3 at *;apply{x,aa,dx,_,.ref b,rfl,hx3,af.cl,af.dq,rfl,?_};k_is;intro c dc hc hdc hcd;refine{c,dc,b,l,rfl,Af,hB3.same (Lz hc hdc),λH4 s4 hC4=>{rfl,?_}};have s4:=Yy hc hdc s4;have hx4:=s4 _ _ hx3;have ncx:c≠x:=(Aj hx3 hc).symm;have hB4:=hB3.same s4;apply Dv hx4 af.cl af.du (show 1<1000 by decide) ?_;rw[show Ga ("counts":Str) (V.ref c) (Ov (.ref b))=J6 (.ref b) (.ref c) from rfl];have hB5:Dp K ac (upd H4 x (.ins aa dx (J6 (.ref b) (.ref c)))) b l:=Hr Bb (Fn hx4) nbx hB4;have hC5:A0 K ab (upd H4 x (.ins aa dx (J6 (.ref b) (.ref c)))) c l:=Ka Bb (Fn hx4) ncx hC4;have hx5:=@Af H4 x (.ins aa dx (J6 (.ref b) (.ref c)));have b5:SameBut x H4 (upd H4 x (.ins aa dx (J6 (.ref b) (.ref c)))):=Bb;have but5:SameBut x H (upd H4 x (.ins aa dx (J6 (.ref b) (.ref c)))):=(((s1.trans s2).but.trans b3).trans s4.but).trans b5;generalize upd H4 x _=H5 at *;apply{_,rfl,f9 (Ai (by rw[A7];lia)),?_};rw[A7];apply{l.9,256,rfl,(),by decide,by decide,λlo hlo=>?_};obtain⟨u6,hlo6⟩:=A4 (o:=.lst ((fb ((l.9+256-1)/256)).map λt:Nat=>V.int (t*256:Nat))) hlo;have hx6:=u6 _ _ hx5;have hB6:=hB5.same u6;have hC6:=hC5.same u6;have but6:=but5.trans u6.but;generalize upd H5 lo _=H6 at *;obtain⟨m,hm⟩:∃m,(l.9+256-1)/256=m:={_,rfl};rw[hm] at hlo6;have hll:((fb m).map λt:Nat=>V.int (t*256:Nat)).9=m:=by rw[d7,fg]
 apply{lo,rfl,{_,SqL.of hlo6},?_};refine Ou (xs:=(fb m).map λt:Nat=>V.int (t*256:Nat)) (SqL.of hlo6) (λi=>(fb i).map λt:Nat=>V.int (bgH l t)) rfl (λi hi=>?_) (λi y H7 R A hy s7 _ hA=>?_) (λD7 H7 hD7 s7 h7=>?_)
 .rw[d7,fg]
  exact Ai ()
 .have hi:i<m:=by have:=Bq hy;rw[hll] at this;exact this
  rw[d9,gd hi] at hy;obtain rfl:y=V.int (i*256:Nat):=(ee hy).symm;apply{x,dx,_,rfl,s7 _ _ hx6,rfl,?_};apply{x,dx,c,_,l,i*256,rfl,s7 _ _ hx6,rfl,rfl,hC6.same s7,(),λH8 s8=>?_};refine hA _ _ ?_ s8;rw[jf,fi];rfl
 rw[hll] at h7;have hx7:=s7 _ _ hx6;have hB7:=hB6.same s7;have hC7:=hC6.same s7;have but7:=but6.trans s7.but;have hlo7:=s7 _ _ hlo6;have hbl:((fb m).map λt:Nat=>V.int (bgH l t)).9=m:=by rw[d7,fg]
 apply{lo,D7,rfl,{_,SqL.of hlo7},{_,SqL.of h7},?_};refine eY (SqL.of hlo7) (SqL.of h7) (λD i zs H'=>∃rs:List eh,zs=rs.map V.ref/\rs.9=i/\∀(j:Nat) r,rs[j]?=KH r->r≠D/\H' r=KH (.lst ((U7 l j).map V.int))) (λD H' _ _=>{[],rfl,rfl,λj r e=>by cases e}) ?_ ?_ ?_ ?_ ?_
 .rintro D i zs H' us o hD ⟨rs,e1,e2,e3⟩
  exact{rs,e1,e2,λj r e=>{(e3 j r e).1,by rw[Al (e3 j r e).1];exact(e3 j r e).2}}
 .rintro D i zs H' hi ⟨rs,rfl,e2,e3⟩
  rw[d7,e2];rw[hll,hbl] at hi;exact Ai ()
 .rintro D i zs H' H'' s ⟨rs,e1,e2,e3⟩
  exact{rs,e1,e2,λj r e=>{(e3 j r e).1,s _ _ (e3 j r e).2}}
 .intro D i zs y y2 H8 A R hy hy2 s8 hD0 hD8 hPv hA
  obtain⟨rs,rfl,e2,e3⟩:=hPv;have hi:i<m:=by have:=Bq hy;rw[hll] at this;exact this
  rw[d9,gd hi] at hy hy2;obtain rfl:y=V.int (i*256:Nat):=(ee hy).symm;obtain rfl:y2=V.int (bgH l i):=(ee hy2).symm;apply{_,rfl,f9 (Ai (by rw[A7];lia)),?_};k_is;have ec:Kv (Av l) (KH ((i*256:Nat):Int)) (KH (((i*256:Nat):Int)+256))=Av (sgH l i):=by
   have:=Rb l (i*256) (i*256+256);rw[io] at this;exact this
  rw[ec];refine{sgH l i,bgH l i,rfl,Abg l i,λp H9 s9 hp h9=>?_};refine hA _ _ s9 {rs++[p],by rw[fi];rfl,by rw[eg,e2];rfl,λj r e=>?_}
  by_cases hj:j<rs.9
  .rw[fw hj] at e
   exact{(e3 j r e).1,s9 _ _ (e3 j r e).2}
  .have hj2:=Bq e
   rw[eg] at hj2;have hj3:j=rs.9:=by simp at hj2;lia
   subst hj3;rw[fk (d8 _),jy] at e;obtain rfl:p=r:=ee e;rw[e2];exact{(Aj hD8 hp).symm,h9}
 .intro D8 zs H8 hD8 s8 hPv h8
  obtain⟨rs,rfl,e2,e3⟩:=hPv;rw[hll,hbl,re] at e2;have hx8:=s8 _ _ hx7;have hB8:=hB7.same s8;have hC8:=hC7.same s8;have but8:=but7.trans s8.but;have h78:=s8 _ _ h7;have hrl:(rs.map V.ref).9=m:=by rw[d7,e2]
  have hne:∀i,i<m->U7 l i≠[]:=λi hi e=>by
   have e:=congrArg yu e;unfold U7 htB hts sgH at e;simp at e;lia
  apply{D7,D8,rfl,{_,SqL.of h78},{_,SqL.of h8},?_};refine eY (SqL.of h78) (SqL.of h8) (λD i zs H'=>∃ts:List eh,zs=ts.map V.ref/\ts.9=i/\∀(j:Nat) r,ts[j]?=KH r->vG l H' r j) (λD H' _ _=>{[],rfl,rfl,λj r e=>by cases e}) ?_ ?_ ?_ ?_ ?_
  .rintro D i zs H' us o hD ⟨ts,e1,e2,e3⟩
   refine{ts,e1,e2,λj r e=>?_};obtain⟨mn,mx,h1,h2⟩:=e3 j r e;exact{mn,mx,by rw[Al (λz=>by rw[z,hD] at h1;cases h1)];exact h1,h2}
  .rintro D i zs H' hi ⟨ts,rfl,e2,e3⟩
   rw[hbl,hrl] at hi;rw[d7,e2];exact Ai ()
  .rintro D i zs H' H'' s ⟨ts,e1,e2,e3⟩
   refine{ts,e1,e2,λj r e=>?_};obtain⟨mn,mx,h1,h2⟩:=e3 j r e;exact{mn,mx,s _ _ h1,h2}
  .intro D i zs y y2 H9 A R hy hy2 s9 hD0 hD9 hPv hA
   obtain⟨ts,rfl,ts2,ts3⟩:=hPv;have hi:i<m:=by have:=Bq hy;rw[hbl] at this;exact this
   rw[d9,gd hi] at hy;obtain rfl:y=V.int (bgH l i):=(ee hy).symm;have er:rs[i]?=KH (rs[i]'()):=d4 _;generalize rs[i]'()=r at er;rw[d9,er] at hy2;obtain rfl:y2=V.ref r:=(ee hy2).symm;have hr9:=s9 _ _ (e3 i r er).2;apply{r,U7 l i,rfl,SqL.of hr9,hne i hi,λmn hmn=>?_};apply{r,U7 l i,rfl,SqL.of hr9,hne i hi,λmx hmx=>?_};apply{few (by simp),λtp htp=>?_};refine hA _ _ (An htp) {ts++[tp],by rw[fi];rfl,by rw[eg,ts2];rfl,λj q e=>?_}
   by_cases hj:j<ts.9
   .rw[fw hj] at e
    obtain⟨mn',mx',h1,h2⟩:=ts3 j q e;exact{mn',mx',An htp _ _ h1,h2}
   .have hj2:=Bq e
    rw[eg] at hj2;have hj3:j=ts.9:=by simp at hj2;lia
    subst hj3;rw[fk (d8 _),jy] at e;obtain rfl:tp=q:=ee e;rw[ts2];exact⟨mn,mx,Af,hmn,hmx⟩
  .intro D9 zs H9 hD9 s9 hPv h9
   rw[hbl,hrl,re] at hPv;obtain⟨ts,rfl,ts2,ts3⟩:=hPv;have hx9:=s9 _ _ hx8;have hB9:=hB8.same s9;have hC9:=hC8.same s9;have but9:=but8.trans s9.but;have h89:=s9 _ _ h8;apply{_,rfl,f9 (Ai (by rw[A7];lia)),?_};rw[A7];apply{D9,_,rfl,.inl {SqL.of h9,λtq htq=>?_}};have s10:=An (o:=.tup (ts.map V.ref)) htq;have hx10:=s10 _ _ hx9;have hB10:=hB9.same s10;have hC10:=hC9.same s10;have but10:=but9.trans s10.but;have h810:=s10 _ _ h89;have e310:∀(j:Nat) r,rs[j]?=KH r->upd H9 tq (.tup (ts.map V.ref)) r=KH (.lst ((U7 l j).map V.int)):=λj r e=>s10 _ _ (s9 _ _ (e3 j r e).2);have hTab10:Sa l (upd H9 tq (.tup (ts.map V.ref))) tq:=⟨ts,Af,by rw[ts2,hm],λj r e=>by
    obtain⟨mn,mx,h1,h2⟩:=ts3 j r e;exact{mn,mx,s10 _ _ h1,h2}⟩
   generalize upd H9 tq _=H10 at *;apply{D8,rfl,{_,SqL.of h810},?_};refine Uu (SqL.of h810) (λi ys H'=>ys.9=i) (λ_ _=>rfl) (λi ys H' D zs o _ h=>h) (λi ys H' hi h=>?_) ?_ ?_
   .rw[hrl] at hi
    rw[h];exact Ai ()
   .intro i ys y H11 A R hy s11 hPv hA
    have hi:i<m:=by have:=Bq hy;rw[hrl] at this;exact this
    have er:rs[i]?=KH (rs[i]'()):=d4 _;generalize rs[i]'()=r at er;rw[d9,er] at hy;obtain rfl:y=V.ref r:=(ee hy).symm;have hr:=s11 _ _ (e310 i r er);apply{.inl {rfl,_,SqL.of hr},?_};apply{r,U7 l i,rfl,SqL.of hr,hne i hi,λmn _=>?_};apply{r,_,_,rfl,rfl,hr,Fj _,rfl,?_};exact hA _ _ (Ag.refl _) (by rw[eg,hPv];rfl)
   .intro D12 ys H12 hD12 s12 hPv h12
    have hx12:=s12 _ _ hx10;apply{x,dx,.ref b,.ref c,.int (l.9:Nat),.ref tq,.ref D12,rfl,hx12,?_};exact q _ ((but10.trans s12.but).trans Bb) {dx,b,c,tq,_,Af,Hr Bb (Fn hx12) nbx (hB10.same s12),Ka Bb (Fn hx12) ncx (hC10.same s12),(hTab10.same s12).keep (λb2 xs e=>by rw[Al (λz=>by rw[z,hx12] at e;cases e)];exact e),hV,hl}
theorem Oi (l:Za5)(i:Nat):2*((occ KJ l i).9:Int)-(i:Int)=hgt l i:=by
 unfold hgt;rw[(Mc l i).1];rfl
theorem Abf (l:Za5)(a m j:Nat)(hj:j<=m):hgt l a+hgt ((l.drop a).take m) j=hgt l (a+j):=by
 unfold hgt;rw[xc,n6,oi,il hj];lia
def hw (l:Za5)(lo hi:Nat):List Int:=(fb (hi-lo)).map λj=>hgt l (lo+j+1)
theorem Vl (l:Za5)(lo hi:Nat):(hw l lo hi).9=hi-lo:=by unfold hw;rw[d7,fg]
theorem wF {l:Za5}{lo hi j:Nat}(h:j<hi-lo):(hw l lo hi)[j]?=KH (hgt l (lo+j+1)):=by unfold hw;rw[d9,gd h];rfl
theorem Ah1 {l:Za5}{lo hi:Nat}{x:Int}(h:x∈hw l lo hi):∃i,lo<i/\i<=hi/\hgt l i=x:=by
 unfold hw at h;obtain⟨j,hj,e⟩:=lq.mp h;have:=jo.mp hj;exact{lo+j+1,(),(),e}
theorem T6 {l:Za5}{lo hi i:Nat}(h1:lo<i)(h2:i<=hi):hgt l i∈hw l lo hi:=by
 unfold hw;exact lq.mpr {i-lo-1,jo.mpr (),by rw[show lo+(i-lo-1)+1=i by lia]}
theorem vW {l:Za5}{lo hi:Nat}(h1:lo<=hi)(h2:hi<=l.9):htB ((l.drop lo).take (hi-lo)) (hgt l lo) ((l.drop lo).take (hi-lo)).9=hw l lo hi:=by
 have e:((l.drop lo).take (hi-lo)).9=hi-lo:=by rw[fh,gz];lia
 rw[e];unfold htB hts hw;rw[jg];refine jd λj hj=>?_;have:=jo.mp hj;show hgt l lo+hgt ((l.drop lo).take (hi-lo)) (j+1)=_;rw[Abf l lo (hi-lo) (j+1) ()];rfl
theorem Afb (l:Za5)(t:Nat):bgH l t=hgt l (t*256):=Oi l (t*256)
def Yg (l:Za5)(t:Nat):Nat:=min ((t+1)*256) l.9
theorem rO {l:Za5}{t:Nat}(h:t*256<=l.9):U7 l t=hw l (t*256) (Yg l t):=by
 have e:sgH l t=(l.drop (t*256)).take (Yg l t-t*256):=by
  unfold sgH Yg
  by_cases h2:(t+1)*256<=l.9
  .rw[il h2,show(t+1)*256-t*256=256 by lia]
  .rw[rq (),fz (by rw[gz];lia),fz (by rw[gz];exact d8 _)]
 unfold U7;rw[e,Afb];exact vW (by unfold Yg;lia) (by unfold Yg;lia)
inductive R8(vs:List V)(H:Hp)(Q:VK)(E:XK):Prop|mk(x:V)(p:Nat)(_:vs=[x,.int p])(_:Q (.int ((p/256:Nat):Int)) H)
include T af in
theorem Q8 (F:Fun K "stretch_at" "Pairs.stretch_at" Fa f fd):Ar P w K mg base CX0 1 f fd ["self","place"] R8:=by
 exists F.ok M6
 obtain⟨x,p,rfl,q⟩:=h;refine{_,(Ad (Am (Ak Cr (pv 1) (A5 rfl T.cR)))),?_};k_is;rw[show((p:Int)/256)=((p/256:Nat):Int) by lia];exact q
inductive R1 (K:d6)(CB CC CP:eh)(vs:List V)(H:Hp)(Q:VK)(E:XK):Prop|mk(x:eh)(l:Za5)(n:Nat)(_:vs=[.ref x,.int n])(_:Bl K CB CC CP H x l)(_:Q (.int ((min (n*256) l.9:Nat):Int)) H)
include T af in
theorem Wj (F:Fun K "begin_of" "Pairs.begin_of" Gg f fd):Ar P w K mg base CX0 1 f fd ["self","number"] (R1 K ac ab aa):=by
 exists F.ok Oy
 obtain⟨x,l,n,rfl,⟨dx,b,c,t,o,hx,_⟩,q⟩:=h;refine{_,(Ad (Am (Ao (Rq rfl) (by rfl) T.cW Uc (tpa (Ak Eb (pv 1) (A5 rfl T.cR)) (tpa (tfl (pv 0)) Aa))))),?_};apply{x,aa,dx,_,_,rfl,hx,af.cl,af.cM,rfl,?_};apply{_,_,rfl,?_};have e:(if(l.9:Int)<(n:Int)*256 then(l.9:Int) else(n:Int)*256)=((min (n*256) l.9:Nat):Int):=by
  split<;>lia
 rw[e];exact q
def pM (lo hi:Nat):Nat:=if lo<hi then(hi-1)/256-lo/256+1 else 0
def loN (lo i:Nat):Nat:=if i=0 then lo else(lo/256+i)*256
def hiN (lo hi i:Nat):Nat:=if i=(hi-1)/256-lo/256 then hi else(lo/256+i+1)*256
def pLo (lo hi:Nat):Za4:=(fb (pM lo hi)).map (loN lo)
def pHi (lo hi:Nat):Za4:=(fb (pM lo hi)).map (hiN lo hi)
theorem L9 (lo hi:Nat):(pLo lo hi).9=pM lo hi:=by unfold pLo;rw[d7,fg]
theorem Tn (lo hi:Nat):(pHi lo hi).9=pM lo hi:=by unfold pHi;rw[d7,fg]
theorem Tc {lo hi i:Nat}(h:i<pM lo hi):lo<=loN lo i/\loN lo i<hiN lo hi i/\hiN lo hi i<=hi/\loN lo i/256=lo/256+i/\hiN lo hi i<=(lo/256+i+1)*256/\lo<hi:=by
 unfold pM at h;split at h
 .unfold loN hiN
  split<;>split<;>lia
 .lia
theorem Nr {lo hi:Nat}(h:lo<hi):loN lo 0=lo/\0<pM lo hi:={rfl,by unfold pM;rw[if_pos h];lia}
theorem P8 {lo hi i:Nat}(h:i+1<pM lo hi):hiN lo hi i=loN lo (i+1):=by
 unfold pM at h;split at h
 .unfold loN hiN
  rw[if_neg (),if_neg (),l9]
 .lia
theorem Rl {lo hi i:Nat}(h:i+1=pM lo hi):hiN lo hi i=hi:=by
 unfold pM at h;split at h
 .unfold hiN
  rw[if_pos ()]
 .lia
inductive rY (K:d6)(CB CC CP:eh)(vs:List V)(H:Hp)(Q:VK)(E:XK):Prop|mk(x:eh)(l:Za5)(lo:Nat)(hi:Int)(_:vs=[.ref x,.int lo,.int hi])(_:Bl K CB CC CP H x l)(_:hi<=(l.9:Int))(_:∀p as H',Ag H H'->H p=KI->H' p=KH (.lst (as.map V.ref))->Afc H H' as (nV (pLo lo hi.toNat)) (nV (pHi lo hi.toNat))->Q (.ref p) H')
variable (au:T.ZM aa "stretch_at" 1 ["self","place"] R8) (aL:T.ZM aa "begin_of" 1 ["self","number"] (R1 K ac ab aa))
include T af au aL in
theorem Wk (F:Fun K "parts" "Heights.parts" E2 f fd):Ar P w K mg base CX0 2 f fd ["self","low","high"] (rY K ac ab aa):=by
 exists F.ok Jx
 obtain⟨x,l,lo,hi,rfl,hP,hl,q⟩:=h;obtain⟨dx,b,c,t,o,hx,_,_,_,_,hl8⟩:=id hP;refine⟨_,(Ab (Bp (ttc oZ (pv 1) (pv 2)) (Ad (Am (Bo Aa)))
  Aw) (Ab (Fq (i:=3) rfl N0 Jx.nd rfl rfl (Zp rfl T.cN (tpa (Ak Bd (Aq au hr.m (pv 0) (tpa (pv 1) Aa)) Ae) (tpa (Ak Bd (Aq au hr.m (pv 0) (tpa (Ak B6 (pv 2) Ae) Aa)) Ae) Aa))) (λ_ _ _ _=>Cc) (λ_ _ _ _=>(Aq aL hr.m (pv 1) (tpa (pv 0) Aa)))) (Ad (Am (Aaz rfl rfl T.c7 rfl T.c9 (tpa (Ak Iq (Bo (tpa (pv 1) Aa)) (pv 3)) (tpa (Ak Iq (pv 3) (Bo (tpa (pv 2) Aa))) Aa))))))),?_⟩
 apply Bn (λh0=>?_) (λh0=>?_)
 .apply{gn _,λp hp=>?_};have e:pM lo hi.toNat=0:=by unfold pM;rw[if_neg ()]
  refine q p [] _ (An hp) hp Af {?_,λi t x y e=>by cases e};unfold pLo;rw[e];rfl
 .obtain⟨hn,rfl⟩:∃hn:Nat,hi=(hn:Int):={hi.toNat,()}
  rw[gu] at q;have hlt:lo<hn:=()
  obtain⟨k1,hk1⟩:∃k1,lo/256=k1:={_,rfl};obtain⟨k2,hk2⟩:∃k2,(hn-1)/256=k2:={_,rfl};have hk12:k1<=k2:=()
  have hk33:k2<=31:=()
  apply{x,dx,_,rfl,hx,rfl,?_};apply{.ref x,lo,rfl,?_};rw[hk1];apply{x,dx,_,rfl,hx,rfl,?_};apply{.ref x,hn-1,by rw[show((hn-1:Nat):Int)=(hn:Int)-1 by lia];rfl,?_};rw[hk2];apply{_,_,rfl,{(),(),(),()},?_};rw[show((k2:Int)+1-((k1:Int)+1)).toNat=k2-k1 by lia];refine Jm (λi=>nV ((fb i).map λj=>(k1+1+j)*256)) rfl (λi hi=>?_) (λi H1 R A hi s1 _ hA=>?_) (λD1 H1 hD1 s1 h1=>?_)
  .rw[Bx,d7,fg]
   exact Ai ()
  .apply{x,dx,_,rfl,s1 _ _ hx,rfl,?_};apply{x,l,k1+1+i,by rw[show((k1+1+i:Nat):Int)=(k1:Int)+1+(i:Int) by lia];rfl,hP.same s1,?_};refine hA _ _ ?_ (Ag.refl _);rw[il (),jf,fi];unfold nV;rw[fi];rfl
  apply{few (by simp),λa1 ha1=>?_};obtain⟨t1,e1⟩:=A4 (o:=.lst [V.int (lo:Int)]) ha1;have h12:=t1 _ _ h1;have s2:=s1.trans t1;generalize upd H1 a1 _=H2 at *;obtain⟨cs,hcs⟩:∃cs,cs=(fb (k2-k1)).map λj=>(k1+1+j)*256:={_,rfl};have hcl:cs.9=k2-k1:=by rw[hcs,d7,fg]
  rw[<-hcs] at h12;apply{a1,D1,_,_,rfl,rfl,e1,h12,f9 (Ai (by rw[Bx,hcl,jb];lia)),λa2 ha2=>?_};have t2:=An (o:=.lst ([V.int (lo:Int)]++nV cs)) ha2;have e2:upd H2 a2 (.lst ([V.int (lo:Int)]++nV cs)) a2=KH (.lst (nV (lo::cs))):=Af;have h13:=t2 _ _ h12;have s3:=s2.trans t2;generalize upd H2 a2 _=H3 at *;apply{few (by simp),λa3 ha3=>?_};obtain⟨t3,e3⟩:=A4 (o:=.lst [V.int (hn:Int)]) ha3;have h14:=t3 _ _ h13;have e23:=t3 _ _ e2;have s4:=s3.trans t3;generalize upd H3 a3 _=H4 at *;apply{D1,a3,_,_,rfl,rfl,h14,e3,f9 (Ai (by rw[Bx,hcl,jb];lia)),λa4 ha4=>?_};have t4:=An (o:=.lst (nV cs++[V.int (hn:Int)])) ha4;have e4:upd H4 a4 (.lst (nV cs++[V.int (hn:Int)])) a4=KH (.lst (nV (cs++[hn]))):=by rw[Af,<-wP];rfl
  have e24:=t4 _ _ e23;have s5:=s4.trans t4;generalize upd H4 a4 _=H5 at *;have hpm:pM lo hn=k2-k1+1:=by unfold pM;rw[if_pos hlt,hk1,hk2]
  have eLo:lo::cs=pLo lo hn:=by
   refine me λi=>?_;unfold pLo;rw[hpm]
   by_cases hi:i<k2-k1+1
   .rw[d9,gd hi]
    cases i with
    |zero=>rfl
    |succ i=>
     rw[List.getElem?_cons_succ,hcs,d9,gd ()];show KH ((k1+1+i)*256)=KH ((lo/256+(i+1))*256);rw[hk1,show k1+1+i=k1+(i+1) by lia]
   .rw[ii (by rw[gm,hcl];lia),ii (by rw[d7,fg];lia)]
  have eHi:cs++[hn]=pHi lo hn:=by
   refine me λi=>?_;unfold pHi;rw[hpm]
   by_cases hi:i<k2-k1+1
   .rw[d9,gd hi]
    show _=KH (hiN lo hn i);unfold hiN;rw[hk1,hk2]
    by_cases h2:i=k2-k1
    .rw[if_pos h2,fk (),h2,hcl,jy]
     rfl
    .rw[if_neg h2,fw (),hcs,d9,gd ()]
     show KH ((k1+1+i)*256)=_;rw[show k1+1+i=k1+i+1 by lia]
   .rw[ii (by rw[eg,hcl,jb];lia),ii (by rw[d7,fg];lia)]
  rw[eLo] at e24;rw[eHi] at e4;apply{a2,a4,_,_,rfl,SqL.of e24,SqL.of e4,by rw[Bx,Bx,L9,Tn],λp as H6 s6 hp0 hp hN=>?_};refine q p as H6 (s5.trans s6) (s5.free hp0) hp {hN.1,λi t' x' y' g1 g2 g3=>?_};obtain⟨n1,n2⟩:=hN.2 i t' x' y' g1 g2 g3;exact{s5.free n1,n2}
inductive Rg (K:d6)(CB CC CP:eh)(vs:List V)(H:Hp)(Q:VK)(E:XK):Prop|mk(x:eh)(l:Za5)(lo:Nat)(h:Int)(_:vs=[.ref x,.int lo,.int h])(_:Bl K CB CC CP H x l)(_:lo<l.9)(_:∀b:Bool,(b=KL->∀i,lo/256*256<i->i<=Yg l (lo/256)->hgt l i≠h)->Q (.bl b) H)
include T af au in
theorem Qw (F:Fun K "may_meet" "Heights.may_meet" Fb f fd):Ar P w K mg base CX0 2 f fd ["self","low","height"] (Rg K ac ab aa):=by
 exists F.ok G4
 obtain⟨x,l,lo,h,rfl,hP,hl,q⟩:=h;obtain⟨dx,b,c,t,o,hx,_,_,⟨rs,ht,hrl,hrs⟩,_,hl8⟩:=id hP;refine{_,(Ab (tst 3 G4.nd (tix Bs (tfl (pv 0)) (Aq au hr.m (pv 0) (tpa (pv 1) Aa)))) (Ad (Am (lF qP qP (tix Bs (pv 3) Ae) (pv 2) (tix Bs (pv 3) Ae))))),?_}
 apply{x,aa,dx,_,_,rfl,hx,af.cl,af.cQ,rfl,?_};apply{x,dx,_,rfl,hx,rfl,?_};apply{.ref x,lo,rfl,?_};have hj:lo/256<rs.9:=()
 obtain⟨mn,mx,hr1,hmn,hmx⟩:=hrs _ _ (d4 hj);rw[rO ()] at hmn hmx;apply Cb (SqT.of ht) (A9 (by rw[d9,d4 hj];rfl)) ?_;apply Cb (SqT.of hr1) (v:=.int mn) rfl ?_;k_is
 by_cases h1:mn<=h
 .rw[decide_eq_true h1]
  apply Cb (SqT.of hr1) (v:=.int mx) rfl ?_;apply q _ λhb i hi1 hi2 he=>?_;have:=hmx.2 _ (T6 (l:=l) hi1 hi2);rw[he] at this;rw[decide_eq_true this] at hb;cases hb
 .rw[decide_eq_false h1]
  apply q KL λ_ i hi1 hi2 he=>?_;have:=hmn.2 _ (T6 (l:=l) hi1 hi2);lia
inductive Zw (K:d6)(CB CC CP:eh)(vs:List V)(H:Hp)(Q:VK)(E:XK):Prop|mk(x:eh)(l:Za5)(lo hi:Nat)(_:vs=[.ref x,.int lo,.int hi])(_:Bl K CB CC CP H x l)(_:lo<=hi)(_:hi<=l.9)(_:hi-lo<=1000)(_:∀p H',Ag H H'->H p=KI->H' p=KH (.lst ((hw l lo hi).map V.int))->Q (.ref p) H')
include T af aS ar aU in
theorem Qh (F:Fun K "heights_within" "Heights.heights_within" Cv f fd):Ar P w K mg base CX0 7 f fd ["self","low","high"] (Zw K ac ab aa):=by
 exists F.ok Ic
 obtain⟨x,l,lo,hi,rfl,hP,h1,h2,h3,q⟩:=h;obtain⟨dx,b,c,t,o,hx,hB,hC,_⟩:=id hP;refine{_,(Ad (Am (At aU hr.m (tpa (Aq aS hr.m (pv 0) (tpa (pv 1) (tpa (pv 2) Aa))) (tpa (Aq ar hr.m (pv 0) (tpa (pv 1) Aa)) Aa))))),?_};apply{x,dx,_,rfl,hx,rfl,?_};apply{x,dx,b,_,l,lo,hi,rfl,hx,rfl,hB,h1,h2,λH1 s1=>?_};apply{x,dx,_,rfl,s1 _ _ hx,rfl,?_};apply{x,dx,c,_,l,lo,rfl,s1 _ _ hx,rfl,rfl,hC.same s1,(),λH2 s2=>?_};rw[Oi];apply{(l.drop lo).take (hi-lo),hgt l lo,rfl,by rw[fh];lia,λp H3 s3 hp0 hp=>?_};rw[vW h1 h2] at hp;have s12:=s1.trans s2;exact q p H3 (s12.trans s3) (s12.free hp0) hp
def Sn (l:Za5)(lo hi:Nat)(h:Int):Option Nat->Prop
 |some j=>lo<j/\j<=hi/\hgt l j=h/\∀i,lo<i->i<j->hgt l i≠h
 |none=>∀i,lo<i->i<=hi->hgt l i≠h
def Agf (l:Za5)(lo hi:Nat)(h:Int):Option Nat->Prop
 |some j=>lo<j/\j<=hi/\hgt l j=h/\∀i,j<i->i<=hi->hgt l i≠h
 |none=>∀i,lo<i->i<=hi->hgt l i≠h
def Vv:Option Nat->V
 |some j=>.int (j:Nat)
 |none=>.non
theorem Xj:∀{ns:List Int} {x:Int},x∈ns->∃j:Nat,ns[j]?=KH x/\∀i:Nat,i<j->ns[i]?≠KH x
 |y::ns,x,h=>by
  by_cases e:y=x
  .exact{0,by rw[e];rfl,λi hi=>absurd hi (zg _)}
  .obtain⟨j,h1,h2⟩:=Xj (List.mem_of_ne_of_mem (λz=>e z.symm) h)
   refine{j+1,h1,λi hi=>?_}
   cases i with
   |zero=>exact λz=>e (ee z)
   |succ i=>exact h2 i ()
theorem rP {w:List Int}{e:Int}:inV (.int e) (w.map V.int)=decide (e∈w):=by
 unfold inV;rw[List.any_map]
 by_cases h:e∈w
 .rw[decide_eq_true h,EG]
  exact{e,h,by simp[eqV]}
 .rw[decide_eq_false h]
  refine DQ.mpr λhc=>?_;obtain⟨x,hx,hxe⟩:=EG.mp hc;have:x=e:=by simpa [eqV] using hxe
  exact h (this▸hx)
inductive qL (K:d6)(CB CC CP:eh)(vs:List V)(H:Hp)(Q:VK)(E:XK):Prop|mk(x:eh)(l:Za5)(lo hi:Nat)(h:Int)(_:vs=[.ref x,.int lo,.int hi,.int h])(_:Bl K CB CC CP H x l)(_:lo<=hi)(_:hi<=l.9)(_:hi-lo<=1000)(_:∀r H',Sn l lo hi h r->Ag H H'->Q (Vv r) H')
variable (aF:T.ZM aa "heights_within" 7 ["self","low","high"] (Zw K ac ab aa))
include T af aF in
theorem Ql (F:Fun K "next_within" "Heights.next_within" Dm f fd):Ar P w K mg base CX0 8 f fd ["self","low","high","height"] (qL K ac ab aa):=by
 exists F.ok F7
 obtain⟨x,l,lo,hi,h,rfl,hP,h1,h2,h3,q⟩:=h;obtain⟨dx,b,c,t,o,hx,_⟩:=id hP;refine{_,(Ab (tst 4 F7.nd (Aq aF hr.m (pv 0) (tpa (pv 1) (tpa (pv 2) Aa)))) (Ad (Am (B8 (Td Yv (pv 3) (pv 4) rfl) (Ak Bd (Ak Bd (pv 1) Ae) (Cj gi zj zi kL (pv 4) (tpa (pv 3) Aa))) Ek)))),?_}
 apply{x,dx,_,rfl,hx,rfl,?_};apply{x,l,lo,hi,rfl,hP,h1,h2,h3,λp H1 s1 hp0 hp=>?_};apply{p,_,rfl,.inl (SqL.of hp),rfl,Fj _,?_};rw[rP]
 by_cases hm:h∈hw l lo hi
 .rw[decide_eq_true hm,show(if KL=KJ then !KJ else KJ)=KJ by decide]
  obtain⟨j,hj,hno⟩:=Xj hm;have hjl:=Bq hj;rw[Vl] at hjl;apply{.inl {rfl,_,SqL.of hp},?_};apply{p,_,h,j,rfl,rfl,hp,hj,hno,?_};k_is;rw[wF hjl] at hj;have:=q (KH (lo+j+1)) H1 {(),(),ee hj,λi hi1 hi2 he=>?_} s1
  .rw[show Vv (KH (lo+j+1))=V.int ((lo:Int)+1+(j:Int)) by show V.int _=_;congr 1;lia] at this
   exact this
  .refine hno (i-lo-1) () ?_
   rw[wF (),show lo+(i-lo-1)+1=i by lia,he]
 .rw[decide_eq_false hm,show(if KL=KJ then !KL else KL)=KL by decide]
  k_is;exact q KI H1 (λi hi1 hi2 he=>hm (he▸T6 hi1 hi2)) s1
inductive pP (K:d6)(CB CC CP:eh)(vs:List V)(H:Hp)(Q:VK)(E:XK):Prop|mk(x:eh)(l:Za5)(lo hi:Nat)(h:Int)(_:vs=[.ref x,.int lo,.int hi,.int h])(_:Bl K CB CC CP H x l)(_:lo<=hi)(_:hi<=l.9)(_:hi-lo<=1000)(_:∀r H',Agf l lo hi h r->Ag H H'->Q (Vv r) H')
include T af aF in
theorem Qk (F:Fun K "last_within" "Heights.last_within" Dl f fd):Ar P w K mg base CX0 8 f fd ["self","low","high","height"] (pP K ac ab aa):=by
 exists F.ok Fu
 obtain⟨x,l,lo,hi,h,rfl,hP,h1,h2,h3,q⟩:=h;obtain⟨dx,b,c,t,o,hx,_⟩:=id hP;refine{_,(Ab (tst 4 Fu.nd (Aa8 (Aq aF hr.m (pv 0) (tpa (pv 1) (tpa (pv 2) Aa))))) (Ad (Am (B8 (Td Yv (pv 3) (pv 4) rfl) (Ak B6 (pv 2) (Cj gi zj zi kL (pv 4) (tpa (pv 3) Aa))) Ek)))),?_}
 apply{x,dx,_,rfl,hx,rfl,?_};apply{x,l,lo,hi,rfl,hP,h1,h2,h3,λp H1 s1 hp0 hp=>?_};apply{p,_,rfl,SqL.of hp,λp2 hp2=>?_};have t2:=s1.trans (An (o:=.lst ((hw l lo hi).map V.int).reverse) hp2);have e2:upd H1 p2 (.lst ((hw l lo hi).map V.int).reverse) p2=KH (.lst ((hw l lo hi).reverse.map V.int)):=by rw[Af,ED]
 generalize upd H1 p2 _=H2 at *;apply{p2,_,rfl,.inl (SqL.of e2),rfl,Fj _,?_};rw[rP]
 by_cases hm:h∈(hw l lo hi).reverse
 .rw[decide_eq_true hm,show(if KL=KJ then !KJ else KJ)=KJ by decide]
  obtain⟨j,hj,hno⟩:=Xj hm;have hjl:=Bq hj;rw[my,Vl] at hjl;have rev:∀k,k<hi-lo->(hw l lo hi).reverse[k]?=KH (hgt l (hi-k)):=λk hk=>by
   rw[BG (by rw[Vl];exact hk),Vl,wF (),show lo+(hi-lo-1-k)+1=hi-k by lia]
  apply{.inl {rfl,_,SqL.of e2},?_};apply{p2,_,h,j,rfl,rfl,e2,hj,hno,?_};k_is;rw[rev j hjl] at hj;have:=q (KH (hi-j)) H2 {(),(),ee hj,λi hi1 hi2 he=>?_} t2
  .rw[show Vv (KH (hi-j))=V.int ((hi:Int)-(j:Int)) by show V.int _=_;congr 1;lia] at this
   exact this
  .refine hno (hi-i) () ?_
   rw[rev _ (),show hi-(hi-i)=i by lia,he]
 .rw[decide_eq_false hm,show(if KL=KJ then !KL else KL)=KL by decide]
  k_is;exact q KI H2 (λi hi1 hi2 he=>hm (p9.mpr (he▸T6 hi1 hi2))) t2
inductive vJ(vs:List V)(H:Hp)(Q:VK)(E:XK):Prop|mk(i:Int)(_:vs=[.int i])(_:Q .non H)
include T aD in
theorem Sv (F:Fun K "check_height" "check_height" Hi f fd):Ar P w K mg base CX0 3 f fd ["height"] vJ:=by
 exists F.ok S4
 obtain⟨i,rfl,q⟩:=h;refine⟨_,(Ad (Bp (Cl (Bv (At aD hr.m (tpa (pv 0) Aa)))) (Ad Ca)
  Aw)),?_⟩
 apply{i,rfl,?_};k_is;exact q
inductive iH (K:d6)(CB CC CP:eh)(vs:List V)(H:Hp)(Q:VK)(E:XK):Prop|mk(x:eh)(l:Za5)(p:Nat)(h:Int)(_:vs=[.ref x,.int p,.int h])(_:Bl K CB CC CP H x l)(_:p<=l.9)(_:∀r H',Sn l p l.9 h r->Ag H H'->Q (Vv r) H')
def cov (lo hi i:Nat):Nat:=if i<pM lo hi then loN lo i else hi
theorem yH {lo hi i:Nat}(h:i<pM lo hi):cov lo hi i=loN lo i/\cov lo hi (i+1)=hiN lo hi i:=by
 refine{if_pos h,?_};unfold cov
 by_cases h2:i+1<pM lo hi
 .rw[if_pos h2,P8 h2]
 .rw[if_neg h2,Rl ()]
variable (aV:T.ZC "check_height" 3 ["height"] vJ) (aG:T.ZM aa "parts" 2 ["self","low","high"] (rY K ac ab aa)) (aW:T.ZM aa "may_meet" 2 ["self","low","height"] (Rg K ac ab aa))
include T am af aV aG aW in
theorem Wb (F:Fun K "next_at" "Heights.next_at" F8 f fd)(bQ:T.ZM aa "next_within" 8 ["self","low","high","height"] (qL K ac ab aa)):Ar P w K mg base CX0 9 f fd ["self","place","height"] (iH K ac ab aa):=by
 exists F.ok C9
 obtain⟨x,l,p,h,rfl,hP,hp,q⟩:=h;obtain⟨dx,b,c,t,o,hx,_,_,_,_,hl8⟩:=id hP;refine⟨_,(Ab (As (At am hr.m (tpa (pv 1) (tpa (tfl (pv 0)) Aa)))) (Ab (As (At aV hr.m (tpa (pv 2) Aa))) (Ab (C5 ig rfl (Du (Aq aG hr.m (pv 0) (tpa (pv 1) (tpa (tfl (pv 0)) Aa)))) (Kh rfl (B4 (tgn 3 C9.nd) (B4 (tgn 4 C9.nd) G7))) (Ab (tst 5 C9.nd (B8 (Bv (Aq aW hr.m (pv 0) (tpa (pv 3) (tpa (pv 2) Aa)))) (Aq bQ hr.m (pv 0) (tpa (pv 3) (tpa (pv 4) (tpa (pv 2) Aa)))) Ek)) (Ad (Bp (P1 (eZ (pv 5))) (Ad (Am (pv 5)))
  Aw)))) (Ad (Am Ek))))),?_⟩
 apply{x,aa,dx,_,_,rfl,hx,af.cl,af.cM,rfl,?_};apply{p,_,rfl,(),(),?_};apply{h,rfl,?_};apply{x,dx,_,rfl,hx,rfl,?_};apply{x,aa,dx,_,_,rfl,hx,af.cl,af.cM,rfl,?_};apply{x,l,p,(l.9:Int),rfl,hP,y6 _,λpa as H1 s1 hpa0 hpa hN=>?_};rw[gu] at hN;have hP1:=hP.same s1;have hal:as.9=pM p l.9:=by rw[hN.1,Bx,L9]
 refine{pa,rfl,{_,SqL.of hpa},?_};refine tH (as:=as) (xs:=nV (pLo p l.9)) (ys:=nV (pHi p l.9)) hN.1 (by rw[hal,Bx,Tn]) (λi G H2=>(∃v3 v4 v5:Option V,G=[KH (.ref x),KH (.int (p:Nat)),KH (.int h),v3,v4,v5])/\Ag H1 H2/\∀k,p<k->k<=cov p l.9 i->hgt l k≠h) ?_ (λi G H2 _ h=>SqL.of (h.2.1 _ _ hpa)) (λi t x y G H2 e1 e2 e3 h=>h.2.1 _ _ (hN.2 i t x y e1 e2 e3).2) ?_ ?_
 .refine{{_,_,_,rfl},Ag.refl _,λk hk1 hk2=>?_}
  unfold cov at hk2;split at hk2
  .exact absurd hk2 (by show ¬ k<=p;lia)
  .rename_i hz
   have:¬ p<l.9:=λh=>hz (Nr h).2;lia
 .rintro i y y2 G H2 hy hy2 ⟨⟨v3,v4,v5,rfl⟩,s2,hno⟩
  have hi:i<pM p l.9:=by have:=Bq hy;rwa [Bx,L9] at this
  obtain⟨ok1,ok2,ok3,ok4,ok5,ok6⟩:=Tc hi;obtain⟨cv1,cv2⟩:=yH hi;unfold nV pLo at hy;unfold nV pHi at hy2;rw[d9,d9,gd hi] at hy hy2;obtain rfl:V.int ((loN p i:Nat):Int)=y:=ee hy;obtain rfl:V.int ((hiN p l.9 i:Nat):Int)=y2:=ee hy2;have hP2:=hP1.same s2;have hx2:=s2 _ _ (s1 _ _ hx);have go:(∀k,loN p i<k->k<=hiN p l.9 i->hgt l k≠h)->∀k,p<k->k<=cov p l.9 (i+1)->hgt l k≠h:=λhh k k1 k2=>by
   by_cases k3:k<=loN p i
   .exact hno k k1 (by rw[cv1];exact k3)
   .exact hh k () (by rw[<-cv2];exact k2)
  apply{x,dx,_,rfl,hx2,rfl,?_};apply{x,l,loN p i,h,rfl,hP2,(),λbb hbb=>?_}
  cases bb with
  |true=>
   apply{x,dx,_,rfl,hx2,rfl,?_};apply{x,l,loN p i,hiN p l.9 i,h,rfl,hP2,(),ok3,(),λr H3 hr3 s3=>?_}
   cases r with
   |some j=>
    k_is;obtain⟨j1,j2,j3,j4⟩:=hr3;refine q (KH j) H3 {(),(),j3,λi' i1 i2 he=>?_} ((s1.trans s2).trans s3)
    by_cases k3:i'<=loN p i
    .exact hno i' i1 (by rw[cv1];exact k3) he
    .exact j4 i' () i2 he
   |none=>
    k_is;rw[show(!decide (Vv KI=V.non))=KL from rfl];k_is;exact{{_,_,_,rfl},s2.trans s3,go hr3}
  |false=>
   k_is;rw[show(!decide (V.non=V.non))=KL from rfl];apply{{_,_,_,rfl},s2,go λk k1 k2=>hbb rfl k () ?_};unfold Yg;lia
 .rintro G H2 ⟨⟨v3,v4,v5,rfl⟩,s2,hno⟩
  rw[hal] at hno;apply q KI H2 (λi i1 i2=>hno i i1 ?_) (s1.trans s2);unfold cov;rw[if_neg (l8 _)];exact i2
def Mb (l:Za5)(p:Nat)(h:Int):Option Nat->Prop
 |some j=>j<p/\hgt l j=h/\∀i,j<i->i<p->hgt l i≠h
 |none=>∀i,i<p->hgt l i≠h
inductive kQ (K:d6)(CB CC CP:eh)(vs:List V)(H:Hp)(Q:VK)(E:XK):Prop|mk(x:eh)(l:Za5)(p:Nat)(h:Int)(_:vs=[.ref x,.int p,.int h])(_:Bl K CB CC CP H x l)(_:p<=l.9)(_:∀r H',Mb l p h r->Ag H H'->Q (Vv r) H')
def uK (hi i:Nat):Nat:=if i=0 then hi else loN 0 (pM 0 hi-i)
theorem sO {hi i:Nat}(h:i<pM 0 hi):uK hi i=hiN 0 hi (pM 0 hi-1-i)/\uK hi (i+1)=loN 0 (pM 0 hi-1-i):=by
 unfold uK;refine{?_,?_}
 .by_cases h0:i=0
  .rw[if_pos h0,Rl ()]
  .rw[if_neg h0,P8 (),show pM 0 hi-1-i+1=pM 0 hi-i by lia]
 .rw[if_neg (),show pM 0 hi-(i+1)=pM 0 hi-1-i by lia]
theorem Ud (l:Za5):hgt l 0=0:=by unfold hgt;simp
include T am af aV aG aW in
theorem Wa (F:Fun K "last_at" "Heights.last_at" Fr f fd)(bR:T.ZM aa "last_within" 8 ["self","low","high","height"] (pP K ac ab aa)):Ar P w K mg base CX0 9 f fd ["self","place","height"] (kQ K ac ab aa):=by
 exists F.ok Db
 obtain⟨x,l,p,h,rfl,hP,hp,q⟩:=h;obtain⟨dx,b,c,t,o,hx,_,_,_,_,hl8⟩:=id hP;refine⟨_,(Ab (As (At am hr.m (tpa (pv 1) (tpa (tfl (pv 0)) Aa)))) (Ab (As (At aV hr.m (tpa (pv 2) Aa))) (Ab (C5 ig rfl (Abv rfl T.dL (Aq aG hr.m (pv 0) (tpa Ae (tpa (Ak B6 (pv 1) Ae) Aa)))) (Kh rfl (B4 (tgn 3 Db.nd) (B4 (tgn 4 Db.nd) G7))) (Ab (tst 5 Db.nd (B8 (Bv (Aq aW hr.m (pv 0) (tpa (pv 3) (tpa (pv 2) Aa)))) (Aq bR hr.m (pv 0) (tpa (pv 3) (tpa (pv 4) (tpa (pv 2) Aa)))) Ek)) (Ad (Bp (P1 (eZ (pv 5))) (Ad (Am (pv 5)))
  Aw)))) (Ad (Am (B8 (PW.pt (Z7 (ttc F5 (pv 1) Ae) (Tq (ttc Dt (pv 2) Ae)))) Ae Ek)))))),?_⟩
 apply{x,aa,dx,_,_,rfl,hx,af.cl,af.cM,rfl,?_};apply{p,_,rfl,(),(),?_};apply{h,rfl,?_};apply{x,dx,_,rfl,hx,rfl,?_};apply{x,l,0,(p:Int)-1,rfl,hP,(),λpa as H1 s1 hpa0 hpa hN=>?_};rw[show((p:Int)-1).toNat=p-1 by lia] at hN;have hP1:=hP.same s1;have hal:as.9=pM 0 (p-1):=by rw[hN.1,Bx,L9]
 refine{pa,_,rfl,SqL.of hpa,?_};rw[d7];refine lW (as:=as) (xs:=nV (pLo 0 (p-1))) (ys:=nV (pHi 0 (p-1))) hN.1 (by rw[hal,Bx,Tn]) (λi G H2=>(∃v3 v4 v5:Option V,G=[KH (.ref x),KH (.int (p:Nat)),KH (.int h),v3,v4,v5])/\Ag H1 H2/\∀k,uK (p-1) i<k->k<p->hgt l k≠h) ?_ (λi G H2 _ h=>SqL.of (h.2.1 _ _ hpa)) (λi j t x y G H2 e1 e2 e3 h=>h.2.1 _ _ (hN.2 j t x y e1 e2 e3).2) ?_ ?_
 .refine{{_,_,_,rfl},Ag.refl _,λk hk1 hk2=>?_}
  have hk1:p-1<k:=hk1;lia
 .rintro i y y2 G H2 hlt hy hy2 ⟨⟨v3,v4,v5,rfl⟩,s2,hno⟩
  rw[hal] at hlt hy hy2;obtain⟨j,hj⟩:∃j,pM 0 (p-1)-1-i=j:={_,rfl};have hi:j<pM 0 (p-1):=()
  obtain⟨cv1,cv2⟩:=sO hlt;rw[hj] at hy hy2 cv1 cv2;obtain⟨ok1,ok2,ok3,ok4,ok5,ok6⟩:=Tc hi;unfold nV pLo at hy;unfold nV pHi at hy2;rw[d9,d9,gd hi] at hy hy2;obtain rfl:V.int ((loN 0 j:Nat):Int)=y:=ee hy;obtain rfl:V.int ((hiN 0 (p-1) j:Nat):Int)=y2:=ee hy2;have hP2:=hP1.same s2;have hx2:=s2 _ _ (s1 _ _ hx);have go:(∀k,loN 0 j<k->k<=hiN 0 (p-1) j->hgt l k≠h)->∀k,uK (p-1) (i+1)<k->k<p->hgt l k≠h:=λhh k k1 k2=>by
   rw[cv2] at k1
   by_cases k3:k<=hiN 0 (p-1) j
   .exact hh k k1 k3
   .exact hno k (by rw[cv1];lia) k2
  apply{x,dx,_,rfl,hx2,rfl,?_};apply{x,l,loN 0 j,h,rfl,hP2,(),λbb hbb=>?_}
  cases bb with
  |true=>
   apply{x,dx,_,rfl,hx2,rfl,?_};apply{x,l,loN 0 j,hiN 0 (p-1) j,h,rfl,hP2,(),(),(),λr H3 hr3 s3=>?_}
   cases r with
   |some m=>
    k_is;obtain⟨j1,j2,j3,j4⟩:=hr3;refine q (KH m) H3 {(),j3,λi' i1 i2 he=>?_} ((s1.trans s2).trans s3)
    by_cases k3:i'<=hiN 0 (p-1) j
    .exact j4 i' i1 k3 he
    .exact hno i' (by rw[cv1];lia) i2 he
   |none=>
    k_is;rw[show(!decide (Vv KI=V.non))=KL from rfl];k_is;exact{{_,_,_,rfl},s2.trans s3,go hr3}
  |false=>
   k_is;rw[show(!decide (V.non=V.non))=KL from rfl];apply{{_,_,_,rfl},s2,go λk k1 k2=>hbb rfl k () ?_};unfold Yg;lia
 .rintro G H2 ⟨⟨v3,v4,v5,rfl⟩,s2,hno⟩
  rw[hal] at hno;have hno:∀k,0<k->k<p->hgt l k≠h:=λk k1 k2=>by
   refine hno k ?_ k2;unfold uK;split
   .rename_i hz
    by_cases hp1:0<p-1
    .exact absurd hz (by have:=(Nr hp1).2;lia)
    .lia
   .rw[jy]
    exact k1
  apply Bn (λh1=>?_) (λh1=>?_)
  .apply Bn (λh2=>?_) (λh2=>?_)
   .k_is
    have h2:=V.int.inj h2;exact q (KH 0) H2 {(),by rw[Ud,h2],hno} (s1.trans s2)
   .apply q KI H2 (λi hi he=>?_) (s1.trans s2)
    by_cases i0:i=0
    .rw[i0,Ud] at he
     exact h2 (by rw[he])
    .exact hno i () hi he
  .k_is
   exact q KI H2 (λi hi=>absurd hi ()) (s1.trans s2)
inductive Uf (K:d6)(CB CC CP:eh)(vs:List V)(H:Hp)(Q:VK)(E:XK):Prop|mk(x:eh)(l:Za5)(p:Nat)(_:vs=[.ref x,.int p])(_:Bl K CB CC CP H x l)(_:p<l.9)(_:Q (.bl (l.getD p KL)) H)
include T af in
theorem Q7 (F:Fun K "is_opening" "Pairs.is_opening" E4 f fd)(bS:T.ZM ac "bit" 4 ["self","place"] (Adn K ac)):Ar P w K mg base CX0 5 f fd ["self","place"] (Uf K ac ab aa):=by
 exists F.ok M4
 obtain⟨x,l,p,rfl,⟨dx,b,c,t,o,hx,hB,_⟩,hp,q⟩:=h;refine{_,(Ad (Am (tpc Dt (Aq bS hr.m (tfl (pv 0)) (tpa (pv 1) Aa)) Ae))),?_};apply{x,aa,dx,_,.ref b,rfl,hx,af.cl,af.dq,rfl,?_};obtain⟨db,tb,hb1,_⟩:=id hB;apply{b,db,_,rfl,hb1,rfl,?_};apply{b,l,p,rfl,hB,hp,?_};k_is
 cases hg:l.getD p KL with
 |true=>
  rw[hg] at q;exact q
 |false=>
  rw[hg] at q;exact q
theorem yB {l:Za5}(hV:Vs 0 l){i:Nat}(hi:i<=l.9):0<=hgt l i:=by
 obtain⟨h,e,_⟩:=Ua hV i hi;lia
theorem Abt {l:Za5}(hV:Vs 0 l):hgt l l.9=0:=by
 obtain⟨h,e,v,_⟩:=Ua hV l.9 (d8 _);rw[jk (d8 _)] at v;have v:h=0:=v;lia
theorem Pb {l:Za5}{i:Nat}(hi:i<l.9):hgt l (i+1)=hgt l i+if l.getD i KL then 1 else -1:=by
 have h:=Kx (l:=l) (d4 hi);rw[h];unfold ju;rw[d4 hi];rfl
theorem Af1 {l:Za5}(hV:Vs 0 l){p:Nat}(hp:p<l.9)(ho:l.getD p KL=KJ):¬ Sn l p l.9 (hgt l p) KI:=λhn=>by
 have up:∀d,p+1+d<=l.9->hgt l p<hgt l (p+1+d):=λd=>by
  induction d with
  |zero=>
   intro _;have:=Pb hp;rw[ho] at this;have this:hgt l (p+1)=hgt l p+1:=this;show hgt l p<hgt l (p+1);lia
  |succ d ih=>
   intro hd;have h1:=ih ();have h2:=Pb (l:=l) (i:=p+1+d) ();have h3:=hn (p+1+(d+1)) () hd;have e:p+1+(d+1)=p+1+d+1:=()
   rw[e] at h3 ⊢;split at h2<;>lia
 have h1:=up (l.9-(p+1)) ();rw[show p+1+(l.9-(p+1))=l.9 by lia,Abt hV] at h1;have:=yB hV (i:=p) ();lia
theorem Aem {l:Za5}(hV:Vs 0 l){p:Nat}(hp:p<l.9)(ho:l.getD p KL=KL):¬ Mb l (p+1) (hgt l (p+1)) KI:=λhn=>by
 have hs:=Pb hp;rw[ho] at hs;have hs:hgt l (p+1)=hgt l p + -1:=hs;have up:∀i,i<=p->hgt l i<hgt l (p+1):=λi=>by
  induction i with
  |zero=>
   intro _;have h1:=yB hV (i:=p+1) ();have h2:=hn 0 ();rw[Ud] at h2 ⊢;lia
  |succ i ih=>
   intro hi;have h1:=ih ();have h2:=Pb (l:=l) (i:=i) ();have h3:=hn (i+1) ();split at h2<;>lia
 have:=up p (d8 _);lia
inductive Yw (K:d6)(CB CC CP:eh)(vs:List V)(H:Hp)(Q:VK)(E:XK):Prop|mk(x:eh)(l:Za5)(p:Nat)(_:vs=[.ref x,.int p])(_:Bl K CB CC CP H x l)(_:p<l.9)(_:∀(j:Nat) H',(l.getD p KL=KJ->Sn l p l.9 (hgt l p) (KH (j+1)))->(l.getD p KL=KL->Mb l (p+1) (hgt l (p+1)) (KH j))->Ag H H'->Q (.int (j:Nat)) H')
variable (aX:T.ZM aa "is_opening" 5 ["self","place"] (Uf K ac ab aa)) (aY:T.ZM aa "next_at" 9 ["self","place","height"] (iH K ac ab aa)) (aZ:T.ZM aa "last_at" 9 ["self","place","height"] (kQ K ac ab aa))
include T af ar aX aY aZ in
theorem Wc (F:Fun K "partner" "Heights.partner" F4 f fd):Ar P w K mg base CX0 10 f fd ["self","place"] (Yw K ac ab aa):=by
 exists F.ok Ny
 obtain⟨x,l,p,rfl,hP,hp,q⟩:=h;obtain⟨dx,b,c,t,o,hx,_,hC,_,hV,hl8⟩:=id hP;refine⟨_,(Ab (Bp (Bv (Aq aX hr.m (pv 0) (tpa (pv 1) Aa))) (Ad (Am (Ak B6 (Aq aY hr.m (pv 0) (tpa (pv 1) (tpa (Aq ar hr.m (pv 0) (tpa (pv 1) Aa)) Aa))) Ae)))
  Aw) (Ad (Am (Aq aZ hr.m (pv 0) (tpa (Ak Bd (pv 1) Ae) (tpa (Aq ar hr.m (pv 0) (tpa (Ak Bd (pv 1) Ae) Aa)) Aa)))))),?_⟩
 apply{x,dx,_,rfl,hx,rfl,?_};apply{x,l,p,rfl,hP,hp,?_}
 cases hg:l.getD p KL with
 |true=>
  apply{x,dx,_,rfl,hx,rfl,?_};apply{x,dx,_,rfl,hx,rfl,?_};apply{x,dx,c,_,l,p,rfl,hx,rfl,rfl,hC,(),λH1 s1=>?_};rw[Oi];apply{x,l,p,hgt l p,rfl,hP.same s1,(),λr H2 hr2 s2=>?_}
  cases r with
  |none=>exact absurd hr2 (Af1 hV hp hg)
  |some j=>
   obtain⟨j',rfl⟩:∃j',j=j'+1:={j-1,by have:=hr2.1;lia};rw[show Vv (KH (j'+1))=V.int ((j':Int)+1) by show V.int _=_;congr 1];k_is;rw[show((j':Int)+1-1)=(j':Int) by lia];exact q j' H2 (λ_=>hr2) (λe=>by rw[hg] at e;cases e) (s1.trans s2)
 |false=>
  apply{x,dx,_,rfl,hx,rfl,?_};apply{x,dx,_,rfl,hx,rfl,?_};apply{x,dx,c,_,l,p+1,by rw[show((p+1:Nat):Int)=(p:Int)+1 by lia];rfl,hx,rfl,rfl,hC,(),λH1 s1=>?_};rw[Oi];apply{x,l,p+1,hgt l (p+1),by rw[show((p+1:Nat):Int)=(p:Int)+1 by lia];rfl,hP.same s1,(),λr H2 hr2 s2=>?_}
  cases r with
  |none=>exact absurd hr2 (Aem hV hp hg)
  |some j=>exact q j H2 (λe=>by rw[hg] at e;cases e) (λ_=>hr2) (s1.trans s2)
inductive pR (K:d6)(CB CC CP:eh)(vs:List V)(H:Hp)(Q:VK)(E:XK):Prop|mk(x:eh)(l:Za5)(lo hi:Nat)(_:vs=[.ref x,.int lo,.int hi])(_:Bl K CB CC CP H x l)(_:lo<l.9)(_:∀b:Bool,(b=KJ->lo=lo/256*256/\hi=Yg l (lo/256))->Q (.bl b) H)
include T af au aL in
theorem Qn (F:Fun K "is_stretch" "Heights.is_stretch" Dw f fd):Ar P w K mg base CX0 2 f fd ["self","low","high"] (pR K ac ab aa):=by
 exists F.ok Gb
 obtain⟨x,l,lo,hi,rfl,hP,hl,q⟩:=h;obtain⟨dx,b,c,t,o,hx,_⟩:=id hP;refine{_,(Ab (tst 3 Gb.nd (Aq au hr.m (pv 0) (tpa (pv 1) Aa))) (Ad (Am (Uz (tpc Dt (pv 1) (Aq aL hr.m (pv 0) (tpa (pv 3) Aa))) (Xf (tpc Dt (pv 2) (Aq aL hr.m (pv 0) (tpa (Ak Bd (pv 3) Ae) Aa)))))))),?_}
 apply{x,dx,_,rfl,hx,rfl,?_};apply{.ref x,lo,rfl,?_};apply{x,dx,_,rfl,hx,rfl,?_};apply{x,l,lo/256,rfl,hP,?_};apply Bn (λh1=>?_) (λ_=>q KL λe=>by cases e);have h1:lo=lo/256*256:=by
  have:=V.int.inj h1;lia
 apply{x,dx,_,rfl,hx,rfl,?_};apply{x,l,lo/256+1,by rw[show((lo/256+1:Nat):Int)=((lo/256:Nat):Int)+1 by lia];rfl,hP,?_};apply q _ λhb=>{h1,?_};have:=V.int.inj (of_decide_eq_true hb);unfold Yg;lia
inductive jZ (K:d6)(CB CC CP:eh)(vs:List V)(H:Hp)(Q:VK)(E:XK):Prop|mk(x:eh)(l:Za5)(lo hi:Nat)(_:vs=[.ref x,.int lo,.int hi])(_:Bl K CB CC CP H x l)(_:lo<hi)(_:hi<=l.9)(_:hi-lo<=1000)(_:∀m H',Mj (hw l lo hi) m->Ag H H'->Q (.int m) H')
include T af au aF in
theorem Qj (F:Fun K "least_within" "Heights.least_within" Df f fd)(bT:T.ZM aa "is_stretch" 2 ["self","low","high"] (pR K ac ab aa)):Ar P w K mg base CX0 8 f fd ["self","low","high"] (jZ K ac ab aa):=by
 exists F.ok Jk
 obtain⟨x,l,lo,hi,rfl,hP,h1,h2,h3,q⟩:=h;obtain⟨dx,b,c,t,o,hx,_,_,⟨rs,ht,hrl,hrs⟩,_,hl8⟩:=id hP;refine⟨_,(Ab (Bp (Bv (Aq bT hr.m (pv 0) (tpa (pv 1) (tpa (pv 2) Aa)))) (Ad (Am (tix Bs (tix Bs (tfl (pv 0)) (Aq au hr.m (pv 0) (tpa (pv 1) Aa))) Ae)))
  Aw) (Ad (Am (Ao (Py rfl) (by rfl) T.cW Uc (tpa (Aq aF hr.m (pv 0) (tpa (pv 1) (tpa (pv 2) Aa))) Aa))))),?_⟩
 apply{x,dx,_,rfl,hx,rfl,?_};apply{x,l,lo,hi,rfl,hP,(),λbb hbb=>?_}
 cases bb with
 |true=>
  obtain⟨g1,g2⟩:=hbb rfl;apply{x,aa,dx,_,_,rfl,hx,af.cl,af.cQ,rfl,?_};apply{x,dx,_,rfl,hx,rfl,?_};apply{.ref x,lo,rfl,?_};have hj:lo/256<rs.9:=()
  obtain⟨mn,mx,hr1,hmn,hmx⟩:=hrs _ _ (d4 hj);rw[rO (),<-g1,<-g2] at hmn;apply Cb (SqT.of ht) (A9 (by rw[d9,d4 hj];rfl)) ?_;apply Cb (SqT.of hr1) (v:=.int mn) rfl ?_;exact q mn H hmn (Ag.refl _)
 |false=>
  apply{x,dx,_,rfl,hx,rfl,?_};apply{x,l,lo,hi,rfl,hP,(),h2,h3,λp H1 s1 hp0 hp=>?_};apply{p,_,rfl,SqL.of hp,λe=>?_,λm hm=>?_}
  .have:=congrArg yu e
   rw[Vl,jt] at this;lia
  .exact q m H1 hm s1
def Adh (l:Za5)(lo hi:Nat)(m:Int):Prop:=(∃i,lo<=i/\i<=hi/\hgt l i=m)/\∀i,lo<=i->i<=hi->m<=hgt l i
inductive jR (K:d6)(CB CC CP:eh)(vs:List V)(H:Hp)(Q:VK)(E:XK):Prop|mk(x:eh)(l:Za5)(lo hi:Nat)(_:vs=[.ref x,.int lo,.int hi])(_:Bl K CB CC CP H x l)(_:lo<=hi)(_:hi<=l.9)(_:∀m v tp H',Adh l lo hi m->(m=hgt l lo->v=.int (lo:Nat))->(m≠hgt l lo->∃j,v=.int (j:Nat)/\Sn l lo l.9 m (KH j))->Ag H H'->H' tp=KH (.tup [.int m,v])->Q (.ref tp) H')
def Adt (l:Za5)(lo hi i:Nat)(ms:List Int):Prop:=ms.9=i/\∀(j:Nat) m,ms[j]?=KH m->Mj (hw l (loN lo j) (hiN lo hi j)) m
theorem uA {l:Za5}{lo hi:Nat}{ms:List Int}(h:Adt l lo hi (pM lo hi) ms){m:Int}(hlh:lo<=hi)(hm:Mj (hgt l lo::ms) m):Adh l lo hi m:=by
 have cover:∀d i,i<pM lo hi->i+d=pM lo hi->∀k,loN lo i<k->k<=hi->∃j,i<=j/\j<pM lo hi/\loN lo j<k/\k<=hiN lo hi j:=λd=>by
  induction d with
  |zero=>intro i h1 h2;lia
  |succ d ih=>
   intro i h1 h2 k k1 k2
   by_cases k3:k<=hiN lo hi i
   .exact{i,d8 _,h1,k1,k3}
   .by_cases h3:i+1<pM lo hi
    .obtain⟨j,a1,a2,a3,a4⟩:=ih (i+1) h3 () k (by rw[<-P8 h3];lia) k2
     exact{j,(),a2,a3,a4}
    .rw[Rl (show i+1=pM lo hi by lia)] at k3
     lia
 refine{?_,λi i1 i2=>?_}
 .rcases ir.mp hm.1 with e|e
  .exact{lo,d8 _,hlh,e.symm}
  .obtain⟨j,hj⟩:=j6 e
   have hjl:=Bq hj;rw[h.1] at hjl;obtain⟨ok1,ok2,ok3,_⟩:=Tc hjl;obtain⟨i,a1,a2,a3⟩:=Ah1 (h.2 j m hj).1;exact{i,(),(),a3}
 .by_cases e:i=lo
  .rw[e]
   exact hm.2 _ gr
  .have hlt:lo<hi:=()
   obtain⟨j,_,j2,j3,j4⟩:=cover (pM lo hi) 0 (Nr hlt).2 (n8 _) i (by show lo<i;lia) i2;have hj:ms[j]?=KH (ms[j]'(by rw[h.1];exact j2)):=d4 _;have h1:=(h.2 j _ hj).2 _ (T6 (l:=l) j3 j4);have h2:=hm.2 _ (gt _ (f8 hj));exact vw h2 h1
include T aM af ar aG aY in
theorem Wg (F:Fun K "lowest" "Heights.lowest" Ef f fd)(bU:T.ZM aa "least_within" 8 ["self","low","high"] (jZ K ac ab aa)):Ar P w K mg base CX0 10 f fd ["self","low","high"] (jR K ac ab aa):=by
 exists F.ok F1
 obtain⟨x,l,lo,hi,rfl,hP,h1,h2,q⟩:=h;obtain⟨dx,b,c,t,o,hx,_,hC,_,hV,hl8⟩:=id hP;refine{_,(Ab (As (At aM hr.m (tpa (pv 1) (tpa (pv 2) (tpa (tfl (pv 0)) Aa))))) (Ab (tst 3 F1.nd (Aq ar hr.m (pv 0) (tpa (pv 1) Aa))) (Ab (tst 4 F1.nd (Ao (Py rfl) (by rfl) T.cW Uc (tpa (Ak Iq (Bo (tpa (pv 3) Aa)) (oO rfl My (Du (Aq aG hr.m (pv 0) (tpa (pv 1) (tpa (pv 2) Aa)))) (λ_ _ _ _=>Cc) (λ_ _ _ _=>(Aq bU hr.m (pv 2) (tpa (pv 0) (tpa (pv 1) Aa)))))) Aa))) (Ad (Am (N5 (tpa (pv 4) (tpa (B8 (ttc Dt (pv 4) (pv 3)) (pv 1) (Aq aY hr.m (pv 0) (tpa (pv 1) (tpa (pv 4) Aa)))) Aa)))))))),?_}
 apply{x,aa,dx,_,_,rfl,hx,af.cl,af.cM,rfl,?_};apply{lo,hi,_,rfl,(),(),(),?_}
 .apply{x,dx,_,rfl,hx,rfl,?_};apply{x,dx,c,_,l,lo,rfl,hx,rfl,rfl,hC,(),λH1 s1=>?_};rw[Oi];have hP1:=hP.same s1;have hx1:=s1 _ _ hx;apply{few (by simp),λa1 ha1=>?_};obtain⟨t2,e1⟩:=A4 (o:=.lst [V.int (hgt l lo)]) ha1;have s2:=s1.trans t2;generalize upd H1 a1 _=H2 at *;have hx2:=s2 _ _ hx;have hP2:=hP.same s2;apply{x,dx,_,rfl,hx2,rfl,?_};apply{x,l,lo,(hi:Int),rfl,hP2,(),λpa as H3 s3 hpa0 hpa hN=>?_};rw[gu] at hN;have hal:as.9=pM lo hi:=by rw[hN.1,Bx,L9]
  have hP3:=hP2.same s3;have hx3:=s3 _ _ hx2;have s13:=s2.trans s3;apply{pa,rfl,{_,SqL.of hpa},?_};refine tY (as:=as) (xs:=nV (pLo lo hi)) (ys:=nV (pHi lo hi)) hN.1 (by rw[hal,Bx,Tn]) (SqL.of hpa) (λi t x y g1 g2 g3=>(hN.2 i t x y g1 g2 g3).2) (λD i zs H'=>∃ms:List Int,zs=ms.map V.int/\Adt l lo hi i ms) (λD H' _ _=>{[],rfl,rfl,λj m e=>by cases e}) (λD i zs H' us o _ h=>h) (λD i zs H' hi h=>?_) (λD i zs H' H'' _ h=>h) ?_ ?_
  .obtain⟨ms,rfl,hms,_⟩:=h
   rw[d7,hms];rw[hal] at hi;unfold pM at hi;split at hi
   .exact Ai ()
   .lia
  .intro D i zs y y2 H4 A R hy hy2 s4 _ _ hPv _ hA
   obtain⟨ms,rfl,hms,hms2⟩:=hPv;have hii:i<pM lo hi:=by have:=Bq hy;rwa [Bx,L9] at this
   obtain⟨ok1,ok2,ok3,ok4,ok5,ok6⟩:=Tc hii;unfold nV pLo at hy;unfold nV pHi at hy2;rw[d9,d9,gd hii] at hy hy2;obtain rfl:V.int ((loN lo i:Nat):Int)=y:=ee hy;obtain rfl:V.int ((hiN lo hi i:Nat):Int)=y2:=ee hy2;apply{x,dx,_,rfl,s4 _ _ hx3,rfl,?_};apply{x,l,loN lo i,hiN lo hi i,rfl,hP3.same s4,ok2,(),(),λm H5 hm s5=>?_};refine hA _ _ s5 {ms++[m],by rw[fi];rfl,by rw[eg,hms];rfl,λj m' e=>?_}
   by_cases hj:j<ms.9
   .rw[fw hj] at e
    exact hms2 j m' e
   .have hj2:=Bq e
    rw[eg] at hj2;have hj3:j=ms.9:=by simp at hj2;lia
    subst hj3;rw[fk (d8 _),jy] at e;obtain rfl:m=m':=ee e;rw[hms];exact hm
  .intro D zs H4 hD s4 hPv hD4
   obtain⟨ms,rfl,hms⟩:=hPv;rw[hal] at hms;have s14:=s13.trans s4;have e14:=s4 _ _ (s3 _ _ e1);have hml:ms.9<=100:=by
    rw[hms.1];unfold pM;split<;>lia
   apply{a1,D,_,_,rfl,rfl,e14,hD4,f9 (Ai (by rw[d7,jb];lia)),λa2 ha2=>?_};have t5:=An (o:=.lst ([V.int (hgt l lo)]++ms.map V.int)) ha2;have e5:upd H4 a2 (.lst ([V.int (hgt l lo)]++ms.map V.int)) a2=KH (.lst ((hgt l lo::ms).map V.int)):=Af;have s15:=s14.trans t5;generalize upd H4 a2 _=H5 at *;apply{a2,_,rfl,SqL.of e5,(λe=>nomatch e),λm hm=>?_};have hlow:=uA hms h1 hm;apply Bn (λh3=>?_) (λh3=>?_)
   .have h3:=V.int.inj h3
    apply{few (by simp),λtp htp=>?_};exact q m _ tp _ hlow (λ_=>rfl) (λh=>absurd h3 h) (s15.trans (An htp)) Af
   .have h3:m≠hgt l lo:=λe=>h3 (congrArg V.int e)
    apply{x,dx,_,rfl,s15 _ _ hx,rfl,?_};apply{x,l,lo,m,rfl,hP.same s15,(),λr H6 hr6 s6=>?_}
    cases r with
    |none=>
     obtain⟨⟨i,i1,i2,i3⟩,_⟩:=hlow;exact absurd i3 (hr6 i (by
      by_cases e:i=lo
      .exact absurd (by rw[<-i3,e]) h3
      .lia) ())
    |some j=>
     apply{few (by simp),λtp htp=>?_};exact q m _ tp _ hlow (λh=>absurd h h3) (λ_=>⟨j,rfl,hr6⟩) ((s15.trans s6).trans (An htp)) Af
inductive N1 (K:d6)(CB CC CP:eh)(ts:List Tb)(vs:List V)(H:Hp)(Q:VK)(E:XK):Prop|mk(x:eh)(l:Za5)(n t:Nat)(_:vs=[.ref x,.int n])(_:Bl K CB CC CP H x l)(_:Tbs ts H)(_:(occ KJ l l.9)[n]?=KH t)(_:∀H',SmT ts H H'->Q (.int t) H')
include T af in
theorem Wo (F:Fun K "opening" "Pairs.opening" G1 f fd)(bV:T.ZM ab "place_of" 5 ["self","bit","nth"] (Zl K ab ts)):Ar P w K mg base CX0 6 f fd ["self","number"] (N1 K ac ab aa ts):=by
 exists F.ok Pz
 obtain⟨x,l,n,t,rfl,⟨dx,b,c,tt,o,hx,hB,hC,_⟩,hT,ht,q⟩:=h;refine{_,(Ad (Am (Aq bV hr.m (tfl (pv 0)) (tpa Ae (tpa (pv 1) Aa))))),?_};apply{x,aa,dx,_,.ref c,rfl,hx,af.cl,af.du,rfl,?_};obtain⟨dc,t1,u1,hc1,_⟩:=id hC;apply{c,dc,_,rfl,hc1,rfl,?_};k_is;exact⟨c,l,KJ,n,t,rfl,hC,hT,ht,q⟩
inductive vS(vs:List V)(H:Hp)(Q:VK)(E:XK):Prop|mk(a:eh)(ds:Za4)(_:vs=[.ref a])(_:H a=KH (.lst ((Ev ds).map V.int)))(_:Dok ds)(_:ds.9<4000)(_:∀l H',Ag H H'->H' l=KH (.lst ((Ev ds).map V.int))->Q (.ref l) H')
include T aD in
theorem oQ (F:Fun K "look_at" "look_at" Rt f fd):Ar P w K mg base CX0 2 f fd ["elders"] vS:=by
 exists F.ok Kn
 obtain⟨a,ds,rfl,ha,hD,hn,q⟩:=h;refine⟨_,(Ab (Bp (Cl (Bv (Ao Cu (by rfl) T.cT Ci (tpa (pv 0) (tpa (Hd (v:=.ty "list") rfl T.c7 Pw rfl) Aa))))) (Ad Ca)
  Aw) (Ab (tst 1 Kn.nd (Bo (tpa (Fz C8 Ae) Aa))) (Ab (C5 ig rfl (Mm rfl T.cV (tpa (pv 0) Aa)) (Kh rfl (B4 (tgn 2 Kn.nd) (B4 (tgn 3 Kn.nd) G7))) (Ab (Bp (PW.pt (Ii (ttc Dt (pv 2) (A5 rfl T.c8)) (Ii (Cl (Bv (At aD hr.m (tpa (pv 3) Aa)))) (Hy (ttc O9 (pv 3) (Fz C8 Ae)))))) (Ad Ca)
  Aw) (Ab (En ig (ttc F5 (tix Bk (pv 1) (Fz C8 Ae)) (pv 3)) (Ad (As (dQ gi qy qw fV (pv 1))))) (Ab (Bp (ttc Uv (tix Bk (pv 1) (Fz C8 Ae)) (pv 3)) (Ad Ca)
  Aw) (Ad (As (Cj gi ie ic Bh (pv 1) (tpa (pv 2) Aa)))))))) (Ad (Am (Dj Og (by rfl) T.c7 Pw (tpa (pv 0) Aa))))))),?_⟩
 apply{_,_,_,_,rfl,.lst ha,Nd,?_};apply{few (by simp),λp hp=>?_};k_is;have t0:=An (o:=.lst [V.int (-1)]) hp;refine{a,rfl,{_,SqL.of (t0 _ _ ha)},?_};refine K5 (xs:=(Ev ds).map V.int) (λk G H1=>(∃v2 v3:Option V,G=[KH (.ref a),KH (.ref p),v2,v3])/\H1 p=KH (.lst ((way ds k).map V.int))/\Ag H H1) {{_,_,rfl},Af,t0} (λk G H1 _ h=>SqL.of (h.2.2 _ _ ha)) ?_ ?_
 .rintro k x G H1 t hx ⟨⟨v2,v3,rfl⟩,hp1,s1⟩ ht
  have hk:=Bq hx;rw[d7,Gs] at hk;obtain⟨e,he,rfl⟩:=P7 hx;rw[Ms hk] at he;obtain rfl:=ee he;have st:=An (o:=.tup [.int k,.int (eld ds k)]) ht;have hp2:=st _ _ hp1;have s2:=s1.trans st;generalize upd H1 t _=H2 at *;apply Bn (λh=>?_) (λ_=>?_)
  .have:=V.int.inj h
   lia
  apply{_,rfl,?_};k_is;have hge:=Aad hD hk;refine Bn (λh=>()) (λ_=>?_);k_is;have hl:=Cd hD k ();have hd:=hD k hk;refine Gp (λG H3=>G=[KH (.ref a),KH (.ref p),KH (.int k),KH (.int (eld ds k))]/\Ag H H3/\∃m,dAt ds k+1<=m/\m<=(way ds k).9/\H3 p=KH (.lst (((way ds k).take m).map V.int))) (λ_ H3=>qD H3 p)
   {rfl,s2,(way ds k).9,(),d8 _,by rw[fz (d8 _)];exact hp2} ?_
  rintro z G H3 ⟨rfl,s3,m,hm1,hm2,hp3⟩ hz;rw[Pn hp3,Jn hm2] at hz;k_is;have hx1:(way ds k)[m-1]?=KH ((way ds k)[m-1]'()):=d4 _;generalize (way ds k)[m-1]'()=y at hx1;refine Cg (SqL.of hp3) (Mt () hx1) ?_;k_is;have hea:=Ho hD hk;refine Bn (λh=>?_) (λh=>?_)
  .have hne:m-1≠dAt ds k:=λe=>by
    rw[e,hea] at hx1;have:=ee hx1;lia
   refine Li ?_;apply{.inl {rfl,_,SqL.of hp3},?_};refine{p,_,.int y,rfl,rfl,hp3,?_,?_}
   .rw[Jn hm2,Sd (n:=y)]
    rw[gj ()];exact hx1
   k_is;rw[P4 hm2];refine{{rfl,Bc s3 hp,m-1,(),(),Af},?_};rw[Pn Af,Jn ()];lia
  .have hme:m=dAt ds k+1:=by
    by_cases e:m-1=dAt ds k
    .lia
    .have:=Lj hD k (dAt ds k) (m-1) _ _ () () hea hx1
     lia
   subst hme;have hy:y=eld ds k:=by
    rw[show dAt ds k+1-1=dAt ds k by lia,hea] at hx1;exact(ee hx1).symm
   apply Cg (SqL.of hp3) (Mt () hx1) ?_;apply iM (λh1=>absurd (congrArg V.int hy) h1) (λ_=>?_);apply{.inl {rfl,_,SqL.of hp3},?_};apply B0 hp3 ?_ ?_
   .rw[Jn hm2]
    exact Ai (by have:=N4 hD k ();lia)
   apply{{_,_,rfl},?_,Bc s3 hp};rw[Af];show _=KH (HO.lst (((way ds k).take (dAt ds k+1)++[(k:Int)]).map V.int));rw[fi];rfl
 .rintro G H1 ⟨⟨v2,v3,rfl⟩,hp1,s1⟩
  apply{a,_,rfl,.inl (SqL.of (s1 _ _ ha)),λl hl=>?_};exact q l _ (s1.trans (An hl)) Af
inductive iP(vs:List V)(H:Hp)(Q:VK)(E:XK):Prop|mk(a:eh)(ds:Za4)(_:vs=[.ref a])(_:H a=KH (.lst ((Ev ds).map V.int)))(_:Dok ds)(_:ds.9<4000)(_:∀l H',Ag H H'->H' l=KH (.lst (nV ds))->Q (.ref l) H')
theorem Zg {ds:Za4}{k:Nat}(hk:k<ds.9):nV (ds.take k)++[V.int (dAt ds k:Nat)]=nV (ds.take (k+1)):=by
 rw[i5,d4 hk,<-wP];unfold dAt ju;rw[d4 hk];rfl
include T in
theorem gH (F:Fun K "depths_of" "depths_of" Lc f fd):Ar P w K mg base CX0 1 f fd ["elders"] iP:=by
 exists F.ok Ki
 obtain⟨a,ds,rfl,ha,hD,hn,q⟩:=h;refine{_,(Ab (tst 1 Ki.nd (Bo Aa)) (Ab (C5 ig rfl (Du (pv 0)) (tgn 2 Ki.nd) (Ad (As (Cj gi ie ic Bh (pv 1) (tpa (B8 (ttc Dt (pv 2) (Fz C8 Ae)) Ae (Ak Bd (tix Bk (pv 1) (pv 2)) Ae)) Aa))))) (Ad (Am (pv 1))))),?_}
 apply{gn _,λp hp=>?_};k_is;have t0:=An (o:=.lst []) hp;refine{a,rfl,{_,SqL.of (t0 _ _ ha)},?_};refine Os (xs:=(Ev ds).map V.int) (λk G H1=>(∃v2:Option V,G=[KH (.ref a),KH (.ref p),v2])/\H1 p=KH (.lst (nV (ds.take k)))/\Ag H H1) {{_,rfl},Af,t0} (λk G H1 _ h=>SqL.of (h.2.2 _ _ ha)) ?_ ?_
 .rintro k x G H1 hx ⟨⟨v2,rfl⟩,hp1,s1⟩
  have hk:=Bq hx;rw[d7,Gs] at hk;obtain⟨e,he,rfl⟩:=P7 hx;rw[Ms hk] at he;obtain rfl:=ee he;have hz:(nV (ds.take k)).9<sizeLine:=by
   rw[Bx,fh];exact Ai ()
  apply{.inl {rfl,_,SqL.of hp1},?_};apply Bn (λh=>?_) (λh=>?_)
  .have hd:=Acb hD hk (V.int.inj h)
   apply B0 hp1 hz ?_;apply{{_,rfl},?_,Bc s1 hp};rw[Af,<-Zg hk,hd];rfl
  .obtain⟨v,hv,hlt,hd⟩:=Lp hD hk (λe=>h (congrArg V.int e))
   k_is;rw[hv];refine Cg (SqL.of hp1) (v:=.int (dAt ds v:Nat)) ?_ ?_
   .refine A9 (pY ?_)
    rw[gj hlt,d4 ()];unfold dAt ju;rw[d4 ()];rfl
   apply B0 hp1 hz ?_;apply{{_,rfl},?_,Bc s1 hp};rw[Af,<-Zg hk,hd];rfl
 .rintro G H1 ⟨⟨v2,rfl⟩,hp1,s1⟩
  rw[d7,Gs,fz (d8 _)] at hp1;k_is;exact q p H1 s1 hp1
inductive sD(vs:List V)(H:Hp)(Q:VK)(E:XK):Prop|mk(a:eh)(ds:Za4)(_:vs=[.ref a])(_:H a=KH (.lst ((Ev ds).map V.int)))(_:Dok ds)(_:ds.9<4000)(_:∀H',Ag H H'->Q (.str (Av (B1 ds))) H')
theorem Xa {l:Za4}{i:Nat}{x:V}(h:(nV l)[i]?=KH x):∃n,l[i]?=KH n/\x=.int (n:Nat):=by
 unfold nV at h;rw[d9] at h
 cases e:l[i]? with
 |none=>rw[e] at h;cases h
 |some n=>
  rw[e] at h;exact{n,rfl,(ee h).symm}
theorem Af4 {ds:Za4}{k:Nat}(h:ds[k]?=KH n):n=dAt ds k:=by
 unfold dAt ju;rw[h];rfl
include T in
theorem sY (F:Fun K "row_of" "row_of" U0 f fd)(bW:T.ZC "depths_of" 1 ["elders"] iP)(bX:T.ZC "look_at" 2 ["elders"] vS):Ar P w K mg base CX0 3 f fd ["elders"] sD:=by
 exists F.ok Jg
 obtain⟨a,ds,rfl,ha,hD,hn,q⟩:=h;refine{_,(Ab (tst 1 Jg.nd (Bo Aa)) (Ab (tst 2 Jg.nd Ae) (Ab (C5 ig rfl (Du (At bW hr.m (tpa (At bX hr.m (tpa (pv 0) Aa)) Aa))) (tgn 3 Jg.nd) (Ab (As (Cj gi ie ic Bh (pv 1) (tpa (Ak Kb (Ak oX Cw (Ak B6 (pv 2) (pv 3))) Cw) Aa))) (Ad (tst 2 Jg.nd (Ak Bd (pv 3) Ae))))) (Ab (As (Cj gi ie ic Bh (pv 1) (tpa (Ak oX Cw (pv 2)) Aa))) (Ad (Am (Cj kq oz oy Od Cw (tpa (pv 1) Aa)))))))),?_}
 apply{gn _,λp hp=>?_};k_is;have t0:=An (o:=.lst []) hp;refine{a,ds,rfl,t0 _ _ ha,hD,hn,λl1 H1 s1 hl1=>?_};apply{l1,ds,rfl,hl1,hD,hn,λl2 H2 s2 hl2=>?_};apply{l2,rfl,{_,SqL.of hl2},?_};have s12:=s1.trans s2;have hp2:=s12 _ _ (Af (H:=H) (a:=p) (o:=.lst []));have npl:l2≠p\/ds=[]:=by
  by_cases e:l2=p
  .subst e
   rw[hp2] at hl2;have:=HO.lst.inj (ee hl2)
   cases ds with
   |nil=>exact .inr rfl
   |cons d r=>cases this
  .exact .inl e
 refine Os (xs:=nV ds) (λk G H3=>(∃v3:Option V,G=[KH (.ref a),KH (.ref p),KH (.int (opn ds k:Nat)),v3])/\H3 p=KH (.lst ((fb k).map λi=>V.str (Av (Bg ds i))))/\Ag H H3/\H3 l2=KH (.lst (nV ds))) {{_,rfl},hp2,t0.trans s12,hl2} (λk G H3 _ h=>SqL.of h.2.2.2) ?_ ?_
 .rintro k x G H3 hx ⟨⟨v3,rfl⟩,hp3,s3,hl3⟩
  have hk:=Bq hx;rw[Bx] at hk;have nlp:l2≠p:=by
   rcases npl with h|h
   .exact h
   .rw[h] at hk;cases hk
  obtain⟨d,hd,rfl⟩:=Xa hx;obtain rfl:=Af4 hd;have hop:=N4 hD k ();have hdk:=hD k hk;apply{.inl {rfl,_,SqL.of hp3},?_};apply{"0",(opn ds k:Int)-(dAt ds k:Int),rfl,rfl,(),(),?_,few (by decide),?_}
  .exact f9 (Ai (by rw[show("0":Str).9=1 by rfl];lia))
  have e0:Xx ("0":Str) ((opn ds k:Int)-(dAt ds k:Int)).toNat=Av (fe (opn ds k-dAt ds k) KL):=by
   rw[show((opn ds k:Int)-(dAt ds k:Int)).toNat=opn ds k-dAt ds k by lia];exact Zv KL _
  rw[e0];k_is;have e1:Av (fe (opn ds k-dAt ds k) KL)++("1":Str)=Av (Bg ds k):=eV (fe (opn ds k-dAt ds k) KL) [KJ];refine{_,"1",rfl,rfl,?_,?_}
  .rw[A7,i6]
   exact f9 (Ai (by rw[show("1":Str).9=1 by rfl];lia))
  rw[e1];apply B0 hp3 (by rw[d7,fg];exact Ai ()) ?_;apply{{_,rfl},?_,Bc s3 hp,?_}
  .rw[Af,jf,fi]
   rfl
  .rw[Al nlp]
   exact hl3
 .rintro G H3 ⟨⟨v3,rfl⟩,hp3,s3,hl3⟩
  rw[Bx] at *;have hop:=N4 hD ds.9 (d8 _);apply{.inl {rfl,_,SqL.of hp3},?_};apply{"0",(opn ds ds.9:Int),rfl,rfl,(),(),?_,few (by decide),?_}
  .exact f9 (Ai (by rw[show("0":Str).9=1 by rfl];lia))
  have e0:Xx ("0":Str) ((opn ds ds.9:Int)).toNat=Av (fe (opn ds ds.9) KL):=by
   rw[gu];exact Zv KL _
  rw[e0];apply B0 hp3 (by rw[d7,fg];exact Ai ()) ?_;apply{rfl,?_};k_is;have ef:((fb ds.9).map (Bg ds)++[fe (opn ds ds.9) KL]).flatten=B1 ds:=by
   rw[w4,List.flatten_singleton];rfl
  refine iS (ls:=(fb ds.9).map (Bg ds)++[fe (opn ds ds.9) KL]) ?_ ?_ ?_
  .rw[Af,fi,jg]
   rfl
  .rw[ef,Ea hD]
   lia
  .rw[ef]
   exact q _ (Bc s3 hp)
inductive Xh(vs:List V)(H:Hp)(Q:VK)(E:XK):Prop|mk(l:Za5)(_:vs=[.str (Av l)])(_:Vs 0 l)(_:l.9<=8000)(_:∀p (ds:Za4) H',Ag H H'->H p=KI->H' p=KH (.lst ((Ev ds).map V.int))->Dok ds->B1 ds=l->Q (.ref p) H')
include T aT in
theorem fK (F:Fun K "elders_of" "elders_of" K7 f fd):Ar P w K mg base CX0 2 f fd ["text"] Xh:=by
 exists F.ok G9
 obtain⟨l,rfl,hv,hn,q⟩:=h;refine⟨_,(Ab (As (At aT hr.m (tpa (pv 0) Aa))) (Ab (Bp (ttc F5 (Ao B7 (by rfl) T.cK Ch (tpa (pv 0) Aa)) (A5 rfl T.de)) (Ad Ca)
  Aw) (Ab (tst 1 G9.nd (Bo Aa)) (Ab (tst 2 G9.nd (Bo (tpa (Fz C8 Ae) Aa))) (Ab (C5 ig rfl (lX (pv 0)) (tgn 3 G9.nd) (Ad (Bp (ttc Dt (pv 3) Cw) (Ab (As (Cj gi ie ic Bh (pv 1) (tpa (tix Bk (pv 2) (Fz C8 Ae)) Aa))) (Ad (As (Cj gi ie ic Bh (pv 2) (tpa (Ak B6 (Ao Au (by rfl) T.cK Ch (tpa (pv 1) Aa)) Ae) Aa))))) (Ad (As (dQ gi qy qw fV (pv 2))))))) (Ad (Am (pv 1)))))))),?_⟩
 apply{l,rfl,hv,hn,λH1 s1=>?_};apply{_,rfl,by rw[A7];exact f9 (Ai ()),?_};k_is;rw[A7];refine Bn (λh=>()) (λ_=>?_);apply{gn _,λp hp1=>?_};have hp:H p=KI:=s1.free hp1;have t1:=An (o:=.lst []) hp1;apply{few (by simp),λy hy=>?_};have t2:=An (o:=.lst [V.int (-1)]) hy;have hyH:H y=KI:=(s1.trans t1).free hy;apply{_,rfl,?_};refine qN (λi G H2=>(∃(ds:Za4) (h:Nat) (v:Option V),G=[KH (.str (Av l)),KH (.ref p),KH (.ref y),v]/\Dok ds/\ds.9<=i/\hgt l i=(h:Int)/\h<=opn ds ds.9/\l.take i=S3 ds ds.9++fe (opn ds ds.9-h) KL /\
   H2 p=KH (.lst ((Ev ds).map V.int))/\H2 y=KH (.lst (((way ds ds.9).take (h+1)).map V.int)))/\Ag H H2) {{[],0,_,rfl,(λk hk=>by cases hk),d8 _,rfl,d8 _,rfl,t2 _ _ Af,Af},(s1.trans t1).trans t2} ?_ ?_
 .have hpy:p≠y:=Aj Af hy
  rintro i c G H2 hc ⟨⟨ds,h,v,rfl,hD,hdl,hh,hop,htk,hp2,hy2⟩,s2⟩;obtain⟨b,hb,rfl⟩:=gF hc;have hi:=Bq hb;have hs:=Kx hb;have hw:=Cd hD ds.9 (d8 _);obtain⟨h',hh',hvs,_⟩:=Ua hv i ();have e:h'=h:=()
  subst e;have tk1:l.take (i+1)=l.take i++[b]:=by rw[i5,hb];rfl
  have hx:(way ds ds.9)[h'+1-1]?=KH ((way ds ds.9).getD h' 0):=by
   rw[nl];unfold ju;rw[d4 ()];rfl
  k_is
  cases b with
  |true=>
   refine Bn (λ_=>?_) (λh=>absurd rfl h);have hs:hgt l (i+1)=hgt l i+1:=hs;apply{.inl {rfl,_,SqL.of hp2},?_};apply Cg (SqL.of hy2) (Mt () hx) ?_;apply B0 hp2 ?_ ?_
   .rw[d7,Gs]
    exact Ai ()
   k_is;have hy3:upd H2 p (.lst ((Ev ds).map V.int++[V.int ((way ds ds.9).getD h' 0)])) y=KH (.lst (((way ds ds.9).take (h'+1)).map V.int)):=by rw[Al hpy.symm];exact hy2
   have hp3:=@Af H2 p (.lst ((Ev ds).map V.int++[V.int ((way ds ds.9).getD h' 0)]));have s3:=Bc (o:=.lst ((Ev ds).map V.int++[V.int ((way ds ds.9).getD h' 0)])) s2 hp;generalize upd H2 p _=H3 at *;refine{.inl {rfl,_,SqL.of hy3},?_};apply{p,_,rfl,.inl (SqL.of hp3),?_};k_is;rw[eg,d7,Gs];refine B0 hy3 ?_ ?_
   .rw[Jn ()]
    exact Ai (by have:=N4 hD ds.9 (d8 _);lia)
   k_is;have hD2:=hZ (d:=h') hD hop;have hl2:(ds++[h']).9=ds.9+1:=by rw[eg];rfl
   have ho2:opn (ds++[h']) (ds.9+1)=h'+1:=by
    show dAt (ds++[h']) ds.9+1=_;rw[Pd]
   refine{{ds++[h'],h'+1,_,rfl,hD2,(),(),by rw[hl2,ho2];exact d8 _,?_,?_,?_},Bc s3 hyH}
   .rw[tk1,htk,hl2,ho2,jy,List.replicate_zero,gv,Mr,Zj _ (d8 _),fm]
    unfold Bg;rw[Pk _ (d8 _),Pd]
   .rw[Al hpy,hp3,Zd,fi]
    rfl
   .have hwl:=Cd hD2 (ds.9+1) ()
    have ew:(way (ds++[h']) (ds.9+1)).take (h'+1+1)=(way ds ds.9).take (h'+1)++[(ds.9:Int)]:=by
     rw[fz (),iZ]
    have ei:(((ds.9+[V.int ((way ds ds.9).getD h' 0)].9:Nat):Int)-1)=(ds.9:Int):=by
     simp only[gm,jt];lia
    rw[Af,hl2,ew,fi,ei];rfl
  |false=>
   refine Bn (λh=>absurd h (by decide)) (λ_=>?_);have hs:hgt l (i+1)=hgt l i + -1:=hs;rw[Mg hb] at hvs;have hpos:=hvs.1;apply{.inl {rfl,_,SqL.of hy2},?_};refine{y,_,.int ((way ds ds.9).getD h' 0),rfl,rfl,hy2,?_,?_}
   .rw[Jn (),Sd]
    rw[gj ()];exact hx
   k_is;rw[P4 ()];refine{{ds,h'-1,_,rfl,hD,(),(),(),?_,?_,?_},Bc s2 hyH}
   .rw[tk1,htk,fm,show opn ds ds.9-(h'-1)=opn ds ds.9-h'+1 by lia,List.replicate_succ']
   .rw[Al hpy]
    exact hp2
   .rw[Af,show h'-1+1=h'+1-1 by lia]
 .rintro G H2 ⟨⟨ds,h,v,rfl,hD,hdl,hh,hop,htk,hp2,hy2⟩,s2⟩
  rw[show(Av l).cps.size=l.9 from A7 l] at *;obtain⟨h',hh',hvs,_⟩:=Ua hv l.9 (d8 _);rw[jk (d8 _)] at hvs;have hvs:h'=0:=hvs;have e:h=0:=()
  subst e;rw[fz (d8 _),qa] at htk;k_is;exact q p ds H2 s2 hp hp2 hD htk.symm
def oFs (p:V):List (Str×V):=[("pairs",p)]
inductive qQ (K:d6)(CO:eh)(vs:List V)(H:Hp)(Q:VK)(E:XK):Prop|mk(x dx:eh)(p:V)(_:vs=[.ref x,p])(_:H x=KH (.ins CO dx []))(_:Q .non (upd H x (.ins CO dx (oFs p))))
variable (aj:Qb K ad)
include T aj in
theorem Wn (F:Fun K "__init__" "Openings.__init__" Gx f fd):Ar P w K mg base CX0 1 f fd ["self","pairs"] (qQ K ad):=by
 exists F.ok Rz
 obtain⟨x,dx,p,rfl,hx,q⟩:=h;refine{_,(Ad (tsf (pv 0) (pv 1))),?_};k_is;exact Dv hx aj.cl aj.cS (show 0<1000 by decide) q
theorem iO {K:d6}{x p:eh}{l:Za5}{fs:List (Str×V)}(s:SameBut x H H')(hx:H x=KH (.ins C dx fs))(hf:fs.9<3)(h:Bl K CB CC CP H p l):Bl K CB CC CP H' p l:=by
 obtain⟨d,b,c,t,o,h1,h2,h3,h4,h5⟩:=h;have ne:∀{y C' d':eh} {gs:List (Str×V)},H y=KH (.ins C' d' gs)->3<=gs.9->y≠x:=λhy hg e=>by
  rw[e,hx] at hy;cases hy;lia
 refine{d,b,c,t,o,s _ _ (ne h1 (show 3<=5 by decide)) h1,Hr s (Fn hx) ?_ h2,Ka s (Fn hx) ?_ h3,h4.keep (λy xs e=>s _ _ (λz=>by rw[z,hx] at e;cases e) e),h5}
 .obtain⟨d2,t2,k,_⟩:=h2
  exact ne k (d8 3)
 .obtain⟨d2,t2,u2,k,_⟩:=h3
  exact ne k (d8 3)
def B9 (K:d6)(CB CC CP CO:eh)(H:Hp)(x:eh)(ds:Za4):Prop:=∃(dx p:eh),H x=KH (.ins CO dx (oFs (.ref p)))/\Bl K CB CC CP H p (B1 ds)/\Dok ds/\ds.9<=4000
theorem Bl.kp {K:d6}{x:eh}{l:Za5}(h:Bl K CB CC CP H x l)(s:Kp H H'):Bl K CB CC CP H' x l:=by
 obtain⟨d,b,c,t,o,h1,h2,h3,h4,h5⟩:=h;exact{d,b,c,t,o,s.k h1,h2.kp s,h3.kp s,h4.keep λb xs e=>s.k e,h5}
theorem B9.kp {K:d6}{x:eh}{ds:Za4}(h:B9 K CB CC CP CO H x ds)(s:Kp H H'):B9 K CB CC CP CO H' x ds:=by
 obtain⟨dx,p,h1,h2,h3⟩:=h;exact{dx,p,s.k h1,h2.kp s,h3}
inductive lJ (K:d6)(CB CC CP CO:eh)(vs:List V)(H:Hp)(Q:VK)(E:XK):Prop|mk(x dx a:eh)(ds:Za4)(_:vs=[.ref x,.ref a])(_:H x=KH (.ins CO dx []))(_:H a=KH (.lst ((Ev ds).map V.int)))(_:Dok ds)(_:ds.9<4000)(_:∀H',SameBut x H H'->B9 K CB CC CP CO H' x ds->Q .non H')
include T aj in
theorem W0 (F:Fun K "__init__" "Opened.__init__" Iu f fd)(bY:T.ZC "row_of" 3 ["elders"] sD)(bZ:Mkr P w K mg base "Pairs" aa 7 ["self","text"] (qJ K ac ab aa))(Wq:Abq P w K mg base "Openings" "__init__" 1 ["self","pairs"] (qQ K ad)):Ar P w K mg base CX0 9 f fd ["self","elders"] (lJ K ac ab aa ad):=by
 exists F.ok U2
 obtain⟨x,dx,a,ds,rfl,hx,ha,hD,hn,q⟩:=h;refine{_,(Ad (As (Ada Wq hr.m rfl (tpa (pv 0) (tpa (W8 bZ hr.m (tpa (At bY hr.m (tpa (pv 1) Aa)) Aa)) Aa))))),?_};apply{a,ds,rfl,ha,hD,hn,λH1 s1=>?_};have hrl:=Ea hD;have hx1:=s1 _ _ hx;k_is;intro p dp hp hdp hpd;refine{p,dp,B1 ds,rfl,Af,nY hD,(),λH5 s5 hP5=>{rfl,?_}};have s5:=Je hp hdp s5;have hx5:=s5 _ _ hx1;apply{x,dx,_,rfl,hx5,?_};exact q _ ((s1.trans s5).but.trans Bb) {dx,p,Af,iO Bb hx5 (show 0<3 by decide) hP5,hD,f9 hn}
inductive iN (K:d6)(CB CC CP CO:eh)(vs:List V)(H:Hp)(Q:VK)(E:XK):Prop|mk(x:eh)(ds:Za4)(_:vs=[.ref x])(_:B9 K CB CC CP CO H x ds)(_:Q (.int (ds.9:Nat)) H)
include T aj in
theorem Qm (F:Fun K "many_knots" "Openings.many_knots" Dn f fd)(ce:T.ZM aa "size" 1 ["self"] (eR K ac ab aa)):Ar P w K mg base CX0 2 f fd ["self"] (iN K ac ab aa ad):=by
 exists F.ok Jz
 obtain⟨x,ds,rfl,⟨dx,p,hx,hP,hD,hn⟩,q⟩:=h;refine{_,(Ad (Am (Ak Cr (Kg ce hr.m (tfl (pv 0))) Ae))),?_};apply{x,ad,dx,_,_,rfl,hx,aj.cl,aj.cS,rfl,?_};obtain⟨dp,b,c,t,o,hp,_⟩:=id hP;apply{p,dp,_,rfl,hp,rfl,?_};apply{p,B1 ds,rfl,hP,?_};k_is;rw[Ea hD,show(((2*ds.9:Nat):Int)/2)=(ds.9:Int) by lia];exact q
inductive zV (K:d6)(CB CC CP CO:eh)(vs:List V)(H:Hp)(Q:VK)(E:XK):Prop|mk(x:eh)(ds:Za4)(_:vs=[.ref x])(_:B9 K CB CC CP CO H x ds)(_:∀H',Ag H H'->Q (.str (Av (B1 ds))) H')
include T aj in
theorem Wx (F:Fun K "row" "Openings.row" Hs f fd)(cf:T.ZM aa "text" 7 ["self"] (Z3 K ac ab aa)):Ar P w K mg base CX0 8 f fd ["self"] (zV K ac ab aa ad):=by
 exists F.ok S7
 obtain⟨x,ds,rfl,⟨dx,p,hx,hP,hD,hn⟩,q⟩:=h;obtain⟨dp,b,c,t,o,hp,_⟩:=id hP;refine{_,(Ad (Am (Kg cf hr.m (tfl (pv 0))))),?_};apply{x,ad,dx,_,_,rfl,hx,aj.cl,aj.cS,rfl,?_};apply{p,dp,_,rfl,hp,rfl,?_};k_is;exact{p,_,rfl,hP,q}
inductive Yl (K:d6)(CB CC CP CO:eh)(vs:List V)(H:Hp)(Q:VK)(E:XK):Prop|mk(x:eh)(ds:Za4)(_:vs=[.ref x])(_:B9 K CB CC CP CO H x ds)(_:∀p H',Ag H H'->H p=KI->H' p=KH (.lst ((Ev ds).map V.int))->Q (.ref p) H')
include T aj in
theorem Wd (F:Fun K "elders" "Openings.elders" Fs f fd)(cg:T.ZC "elders_of" 2 ["text"] Xh)(ci:T.ZM ad "row" 8 ["self"] (zV K ac ab aa ad)):Ar P w K mg base CX0 9 f fd ["self"] (Yl K ac ab aa ad):=by
 exists F.ok Nu
 obtain⟨x,ds,rfl,hO,q⟩:=h;obtain⟨dx,p,hx,hP,hD,hn⟩:=id hO;have hrl:=Ea hD;refine{_,(Ad (Am (At cg hr.m (tpa (Kg ci hr.m (pv 0)) Aa)))),?_};apply{x,dx,_,rfl,hx,rfl,?_};apply{x,ds,rfl,hO,λH1 s1=>?_};apply{B1 ds,rfl,nY hD,(),λp ds' H2 s2 h0 h1 hD' e=>?_};obtain rfl:=Aak hD' hD e;exact q p H2 (s1.trans s2) (s1.free h0) h1
theorem uV {l:Za5}{o k:Nat}(h1:l[o]?=KH KJ)(h2:(l.take o).count KJ=k):(occ KJ l l.9)[k]?=KH o:=by
 have hl:=Bq h1;have h3:(occ KJ l o).9=k:=by rw[(Mc l o).1];exact h2
 rw[Z5 (n:=o+1) () (by rw[Ji,gg,h1,eg,h3];show k<k+1;lia),Ji,gg,h1,fk (),h3,jy];rfl
inductive rK (K:d6)(CB CC CP CO:eh)(ts:List Tb)(vs:List V)(H:Hp)(Q:VK)(E:XK):Prop|mk(x:eh)(ds:Za4)(k:Nat)(_:vs=[.ref x,.int k])(_:B9 K CB CC CP CO H x ds)(_:Tbs ts H)(_:k<ds.9)(_:∀H',SmT ts H H'->Q (.int ((2*k-dAt ds k:Nat):Int)) H')
variable (ba:T.ZC "check_knot" 3 ["k","many_knots"] sF) (aH:T.ZM ad "many_knots" 2 ["self"] (iN K ac ab aa ad))
include T aj ba aH in
theorem Q6 (F:Fun K "opening" "Openings.opening" E6 f fd)(cj:T.ZM aa "opening" 6 ["self","number"] (N1 K ac ab aa ts)) :
  Ar P w K mg base CX0 7 f fd ["self","k"] (rK K ac ab aa ad ts):=by
 exists F.ok M7
 obtain⟨x,ds,k,rfl,hO,hT,hk,q⟩:=h;obtain⟨dx,p,hx,hP,hD,hn⟩:=id hO;obtain⟨dp,b,c,t,o,hp,_⟩:=id hP;refine{_,(Ab (As (At ba hr.m (tpa (pv 1) (tpa (Kg aH hr.m (pv 0)) Aa)))) (Ad (Am (Aq cj hr.m (tfl (pv 0)) (tpa (pv 1) Aa))))),?_}
 apply{x,dx,_,rfl,hx,rfl,?_};apply{x,ds,rfl,hO,?_};apply{k,_,rfl,(),(),?_};apply{x,ad,dx,_,_,rfl,hx,aj.cl,aj.cS,rfl,?_};apply{p,dp,_,rfl,hp,rfl,?_};k_is;obtain⟨_,h1,h2⟩:=Mn hD hk;exact{p,_,k,2*k-dAt ds k,rfl,hP,hT,uV h1 h2,q}
theorem mE {l:Za5}{lo hi j:Nat}{h:Int}{r:Option Nat}(h1:Sn l lo hi h (KH j))(h2:Sn l lo hi h r):r=KH j:=by
 obtain⟨a1,a2,a3,a4⟩:=h1
 cases r with
 |none=>exact absurd a3 (h2 j a1 a2)
 |some i=>
  obtain⟨b1,b2,b3,b4⟩:=h2;rcases DX i j with h|h|h
  .exact absurd b3 (a4 i b1 h)
  .rw[h]
  .exact absurd a3 (b4 j a1 h)
theorem wH {ds:Za4}(h:Dok ds){k:Nat}(hk:k<ds.9):Sn (B1 ds) (2*k-dAt ds k) (B1 ds).9 (hgt (B1 ds) (2*k-dAt ds k)) (KH (2*k-dAt ds k+2*(Ed ds k).9+1+1)):=by
 obtain⟨A,B,h1,h2,h3,h4,h5,h6⟩:=Tp h hk;have hu:=Tx (Oc h hk);have hl:=congrArg yu h2;have hlu:=Ea (Oc h hk);rw[eg,eg,hlu] at hl;have hg0:hgt (B1 ds) (2*k-dAt ds k)=dAt ds k:=h4;have hin:∀i,2*k-dAt ds k<i->i<2*k-dAt ds k+2*(Ed ds k).9+1+1->hgt (B1 ds) i≠dAt ds k:=λi i1 i2 he=>by
  have e5:=h5 (i-A.9) ();rw[show A.9+(i-A.9)=i by lia] at e5;have e6:=hu.1 (i-A.9) ();have he:hg (B1 ds) i=dAt ds k:=he;lia
 rw[hg0];have e6:hgt (B1 ds) (2*k-dAt ds k+2*(Ed ds k).9+1+1)=dAt ds k:=by
  have:=h6;rw[h1,show 2*k-dAt ds k+1+2*(Ed ds k).9+1=2*k-dAt ds k+2*(Ed ds k).9+1+1 by lia] at this;exact this
 refine{(),?_,e6,hin};have hB:0<B.9:=by
  cases B with
  |cons b B=>exact yd _
  |nil=>
   exfalso;rw[gv] at h2;have e7:=(Tx h).2;rw[show 2*ds.9=A.9+2*(Ed ds k).9 by rw[<-Ea h,hl];rfl,h5 _ (d8 _),hu.2] at e7;lia
 lia
inductive iU (K:d6)(CB CC CP CO:eh)(ts:List Tb)(vs:List V)(H:Hp)(Q:VK)(E:XK):Prop|mk(x:eh)(ds:Za4)(k:Nat)(_:vs=[.ref x,.int k])(_:B9 K CB CC CP CO H x ds)(_:Tbs ts H)(_:k<ds.9)(_:∀H',SmT ts H H'->Q (.int ((2*k-dAt ds k+2*(Ed ds k).9+1:Nat):Int)) H')
variable (bc:T.ZM aa "partner" 10 ["self","place"] (Yw K ac ab aa)) (av:T.ZM ad "opening" 7 ["self","k"] (rK K ac ab aa ad ts))
include T aj bc av in
theorem Q0 (F:Fun K "closing" "Openings.closing" E8 f fd) :
  Ar P w K mg base CX0 11 f fd ["self","k"] (iU K ac ab aa ad ts):=by
 exists F.ok M9
 obtain⟨x,ds,k,rfl,hO,hT,hk,q⟩:=h;obtain⟨dx,p,hx,hP,hD,hn⟩:=id hO;obtain⟨dp,b,c,t,o,hp,_⟩:=id hP;refine{_,(Ad (Am (Aq bc hr.m (tfl (pv 0)) (tpa (Aq av hr.m (pv 0) (tpa (pv 1) Aa)) Aa)))),?_};apply{x,ad,dx,_,_,rfl,hx,aj.cl,aj.cS,rfl,?_};apply{p,dp,_,rfl,hp,rfl,?_};apply{x,dx,_,rfl,hx,rfl,?_};apply{x,ds,k,rfl,hO,hT,hk,λH1 s1=>?_};k_is;obtain⟨_,h1,_⟩:=Mn hD hk;have hlt:=Bq h1;have hP1:=hP.kp s1.kp;refine{p,_,2*k-dAt ds k,rfl,hP1,hlt,λj H2 hj _ s2=>?_};have hu:=mE (wH hD hk) (hj (by rw[gg,h1];rfl));obtain rfl:j=2*k-dAt ds k+2*(Ed ds k).9+1:=sh (ee hu);exact q H2 (s1.then s2)
inductive Zu (K:d6)(CB CC CP CO:eh)(vs:List V)(H:Hp)(Q:VK)(E:XK):Prop|mk(x:eh)(ds:Za4)(k:Nat)(_:vs=[.ref x,.int ((2*k-dAt ds k:Nat):Int)])(_:B9 K CB CC CP CO H x ds)(_:k<ds.9)(_:∀H',Ag H H'->Q (.int (k:Nat)) H')
include T aR aX aj bc in
theorem Q4 (F:Fun K "knot_at" "Openings.knot_at" Ff f fd) :
  Ar P w K mg base CX0 11 f fd ["self","place"] (Zu K ac ab aa ad):=by
 exists F.ok Nc
 obtain⟨x,ds,k,rfl,hO,hk,q⟩:=h;obtain⟨dx,p,hx,hP,hD,hn⟩:=id hO;obtain⟨dp,b,c,t,o,hp,hB,hC,_⟩:=id hP;obtain⟨_,h1,h2⟩:=Mn hD hk;have hlt:=Bq h1;refine{_,(Ad (Am (Aq aR hr.m (tfl (pv 0)) (tpa (B8 (Bv (Aq aX hr.m (tfl (pv 0)) (tpa (pv 1) Aa))) (pv 1) (Aq bc hr.m (tfl (pv 0)) (tpa (pv 1) Aa))) Aa)))),?_};apply{x,ad,dx,_,_,rfl,hx,aj.cl,aj.cS,rfl,?_};apply{p,dp,_,rfl,hp,rfl,?_};apply{x,ad,dx,_,_,rfl,hx,aj.cl,aj.cS,rfl,?_};apply{p,dp,_,rfl,hp,rfl,?_};apply{p,_,2*k-dAt ds k,rfl,hP,hlt,?_};rw[show(B1 ds).getD (2*k-dAt ds k) KL=KJ by rw[gg,h1];rfl];apply{p,dp,c,_,_,2*k-dAt ds k,rfl,hp,rfl,hC,(),λH1 s1=>?_};rw[(Mc (B1 ds) (2*k-dAt ds k)).1,show cnt (B1 ds) (2*k-dAt ds k)=k from h2];exact q H1 s1
inductive W9 (K:d6)(CB CC CP CO:eh)(ts:List Tb)(vs:List V)(H:Hp)(Q:VK)(E:XK):Prop|mk(x:eh)(ds:Za4)(k:Nat)(_:vs=[.ref x,.int k])(_:B9 K CB CC CP CO H x ds)(_:Tbs ts H)(_:k<ds.9)(_:∀H',SmT ts H H'->Q (.int ((Ed ds k).9:Nat)) H')
include T aj av in
theorem Qz (F:Fun K "beneath" "Openings.beneath" E5 f fd)(ck:T.ZM ad "closing" 11 ["self","k"] (iU K ac ab aa ad ts)) :
  Ar P w K mg base CX0 12 f fd ["self","k"] (W9 K ac ab aa ad ts):=by
 exists F.ok Mz
 obtain⟨x,ds,k,rfl,hO,hT,hk,q⟩:=h;obtain⟨dx,p,hx,_⟩:=id hO;refine{_,(Ad (Am (Ak Cr (Ak B6 (Aq ck hr.m (pv 0) (tpa (pv 1) Aa)) (Aq av hr.m (pv 0) (tpa (pv 1) Aa))) Ae))),?_};apply{x,dx,_,rfl,hx,rfl,?_};apply{x,ds,k,rfl,hO,hT,hk,λH1 s1=>?_};apply{x,dx,_,rfl,s1.k hx,rfl,?_};apply{x,ds,k,rfl,hO.kp s1.kp,s1.ok,hk,λH2 s2=>?_};k_is;rw[show(((2*k-dAt ds k+2*(Ed ds k).9+1:Nat):Int)-((2*k-dAt ds k:Nat):Int))/2=((Ed ds k).9:Int) by lia];exact q H2 (s1.trans s2)
theorem jD {l:Za5}{p j:Nat}{h:Int}{r:Option Nat}(h1:Mb l p h (KH j))(h2:Mb l p h r):r=KH j:=by
 obtain⟨a1,a2,a3⟩:=h1
 cases r with
 |none=>exact absurd a2 (h2 j a1)
 |some i=>
  obtain⟨b1,b2,b3⟩:=h2;rcases DX i j with h|h|h
  .exact absurd a2 (b3 j h a1)
  .rw[h]
  .exact absurd b2 (a3 i h b1)
inductive qY (K:d6)(CB CC CP CO:eh)(ts:List Tb)(vs:List V)(H:Hp)(Q:VK)(E:XK):Prop|mk(x:eh)(ds:Za4)(a b:Nat)(_:vs=[.ref x,.int b,.int a])(_:B9 K CB CC CP CO H x ds)(_:Tbs ts H)(_:a<b)(_:b<ds.9)(_:∀(m:Nat) r H',Afx ds a b m->(m=0->r=.non)->(∀c:Nat,0<m->(way ds b)[m]?=KH (c:Int)->r=.int c)->SmT ts H H'->Q r H')
include T aZ aj av in
theorem Q5 (F:Fun K "nearest" "Openings.nearest" E9 f fd)(cm:T.ZM aa "lowest" 10 ["self","low","high"] (jR K ac ab aa))(cn:T.ZM ad "knot_at" 11 ["self","place"] (Zu K ac ab aa ad)):Ar P w K mg base CX0 12 f fd ["self","one","other"] (qY K ac ab aa ad ts):=by
 exists F.ok Cz
 obtain⟨x,ds,a,b,rfl,hO,hT,hab,hb,q⟩:=h;obtain⟨dx,p,hx,hP,hD,hn⟩:=id hO;obtain⟨dp,bb,c,t,o,hp,_⟩:=id hP;have hmo:=Pl hD hab hb;refine⟨_,(Ab (tst 3 Cz.nd (Ao (Rq rfl) (by rfl) T.cW Uc (tpa (Aq av hr.m (pv 0) (tpa (pv 1) Aa)) (tpa (Aq av hr.m (pv 0) (tpa (pv 2) Aa)) Aa)))) (Ab (tst 4 Cz.nd (Ao (uG rfl) (by rfl) T.dC Ac5 (tpa (Aq av hr.m (pv 0) (tpa (pv 1) Aa)) (tpa (Aq av hr.m (pv 0) (tpa (pv 2) Aa)) Aa)))) (Ab (Bp (ttc Dt (pv 3) (pv 4)) (Ad (Am (pv 1)))
  Aw) (Ab (tst 5 Cz.nd (Aq cm hr.m (tfl (pv 0)) (tpa (Ak Bd (pv 3) Ae) (tpa (pv 4) Aa)))) (Ad (Am (B8 (ttc F5 (tix Bs (pv 5) Ae) Ae) (Aq cn hr.m (pv 0) (tpa (Aq aZ hr.m (tfl (pv 0)) (tpa (tix Bs (pv 5) Ae) (tpa (Ak B6 (tix Bs (pv 5) Ae) Ae) Aa))) Aa)) Ek))))))),?_⟩
 apply{x,dx,_,rfl,hx,rfl,?_};apply{x,ds,b,rfl,hO,hT,hb,λH1 s1=>?_};apply{x,dx,_,rfl,s1.k hx,rfl,?_};apply{x,ds,a,rfl,hO.kp s1.kp,s1.ok,(),λH2 s2=>?_};have s12:=s1.trans s2;apply{_,_,rfl,?_};rw[if_pos ()];apply{x,dx,_,rfl,s12.k hx,rfl,?_};apply{x,ds,b,rfl,hO.kp s12.kp,s12.ok,hb,λH3 s3=>?_};have s13:=s12.trans s3;apply{x,dx,_,rfl,s13.k hx,rfl,?_};apply{x,ds,a,rfl,hO.kp s13.kp,s13.ok,(),λH4 s4=>?_};have s14:=s13.trans s4;apply{_,_,rfl,?_};rw[if_neg ()];apply Bn (λh=>absurd (V.int.inj h) ()) (λ_=>?_);apply{x,ad,dx,_,_,rfl,s14.k hx,aj.cl,aj.cS,rfl,?_};apply{p,dp,_,rfl,s14.k hp,rfl,?_};k_is;have hol:=Bq (Mn hD hb).2.1;refine{p,_,2*a-dAt ds a+1,2*b-dAt ds b,rfl,hP.kp s14.kp,(),(),λmm v tp H5 hlow hv1 hv2 s5 htp=>?_};have s15:=s14.then s5;obtain⟨⟨p0,p1,p2,p3⟩,hall⟩:=hlow;have hmm:0<=mm:=by
  have:=(Tx hD).1 p0 (by rw[<-Ea hD];lia);have p3:hg (B1 ds) p0=mm:=p3;lia
 obtain⟨m,rfl⟩:∃m:Nat,mm=(m:Int):={mm.toNat,()};have hN:=Abr hD hab hb hall p1 p2 p3;apply Cb (SqT.of htp) (v:=.int (m:Int)) rfl ?_;apply Bn (λh0=>?_) (λh0=>?_)
 .obtain⟨m,rfl⟩:∃m',m=m'+1:={m-1,()}
  obtain⟨c,c1,c2,c3,c4,c5⟩:=dZ hD hab hb hN;have hcl:c<ds.9:=()
  have hca:2*c-dAt ds c<=2*a-dAt ds a:=by
   rcases mv c3 with z|z
   .exact f9 (Pl hD z ())
   .rw[z];exact d8 _
  obtain⟨j,rfl,hj1,hj2⟩:∃j:Nat,v=.int j/\2*a-dAt ds a+1<=j/\j<=2*b-dAt ds b:=by
   by_cases e:((m+1:Nat):Int)=hgt (B1 ds) (2*a-dAt ds a+1)
   .exact{_,hv1 e,d8 _,()}
   .obtain⟨j,e1,e2,e3,e4,e5⟩:=hv2 e
    refine{j,e1,(),nj λz=>?_};refine e5 p0 ?_ () p3;rcases mv p1 with y|y
    .exact y
    .exact absurd (by rw[y];exact p3.symm) e
  have hlast:Mb (B1 ds) j (m:Int) (KH (2*c-dAt ds c)):=by
   obtain⟨_,_,_,_,_,g,_⟩:=Tp hD hcl;refine{(),by rw[<-c4];exact g,λi i1 i2=>?_};have:=Acw hD hb c1 c5 (p:=i) i1 ();have e:hgt (B1 ds) i=hg (B1 ds) i:=rfl;rw[e];lia
  apply{x,dx,_,rfl,s15.k hx,rfl,?_};apply{x,ad,dx,_,_,rfl,s15.k hx,aj.cl,aj.cS,rfl,?_};apply{p,dp,_,rfl,s15.k hp,rfl,?_};apply Cb (SqT.of htp) (v:=.int (j:Int)) rfl ?_;apply Cb (SqT.of htp) (v:=.int ((m+1:Nat):Int)) rfl ?_;apply{p,_,j,(m:Int),by rw[show(((m+1:Nat):Int)-1)=(m:Int) by lia];rfl,hP.kp s15.kp,(),λr H6 hr6 s6=>?_};rw[jD hlast hr6];have s16:=s15.then s6;apply{x,ds,c,rfl,hO.kp s16.kp,hcl,λH7 s7=>?_};exact q (m+1) _ H7 hN (λz=>()) (λc' _ e=>by rw[c1] at e;have:=ee e;rw[this]) (s16.then s7)
 .k_is
  exact q m _ H5 hN (λ_=>rfl) (λc h=>absurd h ()) s15
theorem wE {x:Str}(hg:Gl X x)(hm:∃t,X.mg x=KH (.str z t))(hd:autoParam ((x==("__debug__":Str))=KL) QF):PE X (.Name x pos) (tC (.str z)):=by
 obtain⟨t,h⟩:=hm;exact Pr hg h ⟨t,rfl⟩ hd
def nmV:V->Bool
 |.str z=>Hv z
 |_=>KL
theorem uL (c:Nat):(!(mr ("abcdefghijklmnopqrstuvwxyz":Str) (sgn c) 0 ("abcdefghijklmnopqrstuvwxyz":Str).9 1).isEmpty)=U3 c:=by
 rw[show(!(mr ("abcdefghijklmnopqrstuvwxyz":Str) (sgn c) 0 ("abcdefghijklmnopqrstuvwxyz":Str).9 1).isEmpty)=decide (c∈("abcdefghijklmnopqrstuvwxyz":Str).cps.toList) from GN "abcdefghijklmnopqrstuvwxyz" c];unfold U3;refine decide_eq_decide.mpr ?_;rw[show("abcdefghijklmnopqrstuvwxyz":Str).cps.toList=(fb 26).map (97 + ·) by decide +kernel,lq];exact{λ⟨i,hi,e⟩=>by have:=jo.mp hi;lia,λh=>{c-97,jo.mpr (),()}}
inductive gX (K:d6)(vs:List V)(H:Hp)(Q:VK)(E:XK):Prop|mk(x:V)(_:vs=[x])(_:Agh K H x)(_:(∀z,x=.str z->z.9<=100))(_:∀H',Ag H H'->Q (.bl (nmV x)) H')
include T in
theorem oM (F:Fun K "is_name" "is_name" Mw f fd):Ar P w K mg base CX0 1 f fd ["thing"] (gX K):=by
 exists F.ok oU
 obtain⟨x,rfl,hA,hz,q⟩:=h;refine⟨_,(Ab (Bp (PW.pt (Ii (Cl (Bv (Ao Cu (by rfl) T.cT Ci (tpa (pv 0) (tpa (Hd (v:=.ty "str") rfl T.dv wK rfl) Aa))))) (Ii (ttc Dt (Ao B7 (by rfl) T.cK Ch (tpa (pv 0) Aa)) Ae) (Hy (ttc F5 (Ao B7 (by rfl) T.cK Ch (tpa (pv 0) Aa)) (A5 rfl T.cZ)))))) (Ad (Am Jo))
  Aw) (Ad (Am (Ao (xB rfl) (by rfl) T.n_all Ahe (tpa (L5 rfl eB (lX (pv 0)) (λ_ _ _ _=>Cc) (λ_ _ _ _=>(qX uF (pv 0) (wE rfl T.dg) rfl))) Aa))))),?_⟩
 obtain⟨t,ht,hk⟩:=hA;apply{_,_,_,_,rfl,ht,hk,?_};k_is
 cases hb:isS x with
 |false=>
  have e:nmV x=KL:=by cases x<;>first|rfl|cases hb
  k_is;have:=q H (Ag.refl _);rw[e] at this;exact this
 |true=>
  obtain⟨z,rfl⟩:∃z,x=.str z:=by
   cases x with
   |str z=>exact⟨z,rfl⟩
   |_=>cases hb
  have hz:=hz z rfl;apply{z,rfl,f9 (Ai ()),?_};apply Bn (λh=>?_) (λh0=>?_)
  .have e:nmV (.str z)=KL:=by
    have:=V.int.inj h;show(decide _&&_)=KL;rw[decide_eq_false (),wk]
   k_is;have:=q H (Ag.refl _);rw[e] at this;exact this
  have h0:z.9≠0:=λe=>h0 (by rw[e];rfl);apply{z,rfl,f9 (Ai ()),?_};apply Bn (λh=>?_) (λh8=>?_)
  .have e:nmV (.str z)=KL:=by
    show(decide _&&_)=KL;rw[decide_eq_false (),wk]
   k_is;have:=q H (Ag.refl _);rw[e] at this;exact this
  apply{z,rfl,?_};refine Ae5 (λi=>((z.cps.toList.take i).map U3).map V.bl) rfl (λi hi=>?_) (λi c H1 R A hc s1 kR kA=>?_) (λD H1 hD s1 hD1=>?_)
  .rw[d7,d7,fh]
   have:z.cps.toList.9=z.9:=gh;exact Ai ()
  .apply{_,_,rfl,rfl,?_};rw[uL];refine kA _ _ ?_ (Ag.refl _);rw[i5,show z.cps.7[i]?=KH c by rw[gq];exact hc,fi,fi];rfl
  .have el:z.cps.toList.take z.cps.8=z.cps.7:=fz (by rw[gh];exact d8 _)
   rw[el] at hD1;apply{D,_,rfl,SqL.of hD1,?_};have:=q H1 s1;have e:nmV (.str z)=(z.cps.toList.map U3).all id:=by
    show(decide _&&_)=_;rw[decide_eq_true (),AD,List.all_map];rfl
   rw[e] at this;exact this
inductive T8 (K:d6)(vs:List V)(H:Hp)(Q:VK)(E:XK):Prop|mk(a:eh)(nm:Za6)(_:vs=[.ref a])(_:H a=KH (.lst (sV nm)))(_:(∀x∈nm,Hv x=KJ))(_:nm.9<=4000)(_:∀H',Ag H H'->Q .non H')
theorem L8 {x:Str}(h:Hv x=KJ):1<=x.9/\x.9<=8:=of_decide_eq_true (wl.mp h).1
variable (be:T.ZC "is_name" 1 ["thing"] (gX K))
include T be in
theorem Vf (F:Fun K "check_names" "check_names" Iw f fd):Ar P w K mg base CX0 2 f fd ["names"] (T8 K):=by
 exists F.ok Hu
 obtain⟨a,nm,rfl,ha,hN,hn,q⟩:=h;refine⟨_,(Ad (C5 ig rfl (Mm rfl T.cV (tpa (pv 0) Aa)) (Kh rfl (B4 (tgn 1 Hu.nd) (B4 (tgn 2 Hu.nd) G7))) (Ad (Bp (Cl (Bv (At be hr.m (tpa (pv 2) Aa)))) (Ad Ca)
  Aw)))),?_⟩
 apply{a,rfl,{_,SqL.of ha},?_};refine K5 (xs:=sV nm) (λk G H1=>(∃v2 v3:Option V,G=[KH (.ref a),v2,v3])/\Ag H H1) {{_,_,rfl},Ag.refl _} (λk G H1 _ h=>SqL.of (h.2 _ _ ha)) ?_ ?_
 .rintro k x G H1 t hx ⟨⟨v2,v3,rfl⟩,s1⟩ ht
  obtain⟨z,hz,rfl⟩:=fB hx;have hm:=hN z (f8 hz);have s2:=s1.trans (An (o:=.tup [.int k,.str z]) ht);generalize upd H1 t _=H2 at *;apply{_,rfl,lB _,λy e=>?_,λH3 s3=>?_}
  .obtain rfl:=V.str.inj e
   have:=L8 hm;lia
  rw[show nmV (.str z)=KJ from hm];k_is;exact{{_,_,rfl},s2.trans s3}
 .rintro G H1 ⟨⟨v2,v3,rfl⟩,s1⟩
  k_is;exact q H1 s1
def T2 (H:Hp)(as:List eh)(rows:List (Str×Nat×Nat)):Prop:=as.9=rows.9/\∀(i:Nat) a r,as[i]?=KH a->rows[i]?=KH r->H a=KH (.tup [.str r.1,.int r.2.1,.int r.2.2])
theorem T2.kp {rows:List (Str×Nat×Nat)}(h:T2 H as rows)(s:Kp H H'):T2 H' as rows:={h.1,λi a r e1 e2=>s.k (h.2 i a r e1 e2)}
theorem T2.snoc {rows:List (Str×Nat×Nat)}{a:eh}{r:Str×Nat×Nat}(h:T2 H as rows)(ha:H a=KH (.tup [.str r.1,.int r.2.1,.int r.2.2])):T2 H (as++[a]) (rows++[r]):=by
 refine{by rw[eg,eg,h.1];rfl,λi b q e1 e2=>?_}
 by_cases hi:i<as.9
 .rw[fw hi] at e1
  rw[fw (by rw[<-h.1];exact hi)] at e2;exact h.2 i b q e1 e2
 .rw[fk ()] at e1
  rw[fk (by rw[<-h.1];lia),<-h.1] at e2;have e0:i-as.9=0:=by have:=Bq e1;simp at this;lia
  rw[e0] at e1 e2;cases e1;cases e2;exact ha
theorem tF (xs:List V):Ha xs (KH 1) KI=xs.drop 1:=by
 unfold Ha;rw[show((1:Int))=((1:Nat):Int) from rfl,_T.sIx_nat];show(xs.drop (min 1 xs.9)).take (xs.9-min 1 xs.9)=_;rw[fz (by rw[gz];lia)]
 by_cases h:1<=xs.9
 .rw[il h]
 .rw[jk (),jk ()]
theorem fS (S:Za6)(k:Nat):(bgs S k).9<=k:=by
 unfold bgs occ;have:=ke (λi=>(bgN S).getD i KL==KJ) (fb k);rw[fg] at this;exact this
inductive Sh(vs:List V)(H:Hp)(Q:VK)(E:XK):Prop|mk(a:eh)(S:Za6)(_:vs=[.ref a])(_:H a=KH (.lst (sV S)))(_:S.9<=4000)(_:∀l as H',Ag H H'->H l=KI->H' l=KH (.lst (as.map V.ref))->T2 H' as (Fe S S.9)->Q (.ref l) H')
include T in
theorem S8 (F:Fun K "stretches_of" "stretches_of" Dz f fd):Ar P w K mg base CX0 1 f fd ["names"] Sh:=by
 exists F.ok Ks
 obtain⟨a,S,rfl,ha,hn,q⟩:=h;refine{_,(Ab (Fq (i:=1) rfl O0 Ks.nd rfl rfl (Fo rfl T.cN (tpa (Ao Au (by rfl) T.cK Ch (tpa (pv 0) Aa)) Aa)) (λ_ _ _ _=>Mp (PW.pt (Ii (ttc Dt (pv 0) Ae) (Hy (ttc Uv (tix (Jy K) (pv 1) (pv 0)) (tix (Jy K) (pv 1) (Ak B6 (pv 0) Ae))))))) (λ_ _ _ _=>(pv 0))) (Ad (Am (oO rfl O8 (eG rfl T.c9 (tpa (pv 1) (tpa (Ak Iq (Cf Ox (pv 1) (B3 Ae) Hb) (Bo (tpa (Ao Au (by rfl) T.cK Ch (tpa (pv 0) Aa)) Aa))) Aa))) (λ_ _ _ _=>Cc) (λ_ _ _ _=>(N5 (tpa (tix (Jy K) (pv 2) (pv 0)) (tpa (pv 0) (tpa (pv 1) Aa))))))))),?_}
 apply{a,_,rfl,.inl (SqL.of ha),?_};rw[Fg];apply{_,rfl,(),(),?_};rw[gu];refine Jm (λi=>nV (bgs S i)) rfl (λi hi=>?_) (λi H1 R A hi s1 kR kA=>?_) (λD H1 hD s1 hD1=>?_)
 .rw[Bx]
  exact Ai (by have:=fS S i;lia)
 .have hb:=Jr hi
  obtain⟨x,hx⟩:∃x,S[i]?=KH x:={_,d4 hi};rw[show(0+(i:Int))=(i:Int) by lia];have a1:=s1 _ _ ha
  by_cases h0:i=0
  .rw[if_pos (.inl h0)] at hb
   apply Bn (λ_=>?_) (λz=>absurd (by rw[h0];rfl) z);apply kA _ _ ?_ (Ag.refl _);rw[hb,Mv]
  .obtain⟨y,hy⟩:∃y,S[i-1]?=KH y:={_,d4 ()}
   apply Bn (λz=>absurd (V.int.inj z) ()) (λ_=>?_);apply Cg (SqL.of a1) (v:=.str x) (A9 (by rw[d9,hx];rfl)) ?_;k_is;rw[show((i:Int)-1)=((i-1:Nat):Int) by lia];refine Cg (SqL.of a1) (v:=.str y) (A9 (by rw[d9,hy];rfl)) ?_;refine{rfl,?_};apply iM (λh=>?_) (λh=>?_)
   .rw[if_pos (.inr λz=>h (by rw[hx,hy] at z;rw[ee z]))] at hb
    apply kA _ _ ?_ (Ag.refl _);rw[hb,Mv]
   .have e:x=y:=V.str.inj h
    rw[if_neg (by rintro(z|z);exact h0 z;exact z (by rw[hx,hy,e])),gv] at hb;k_is;exact kR (by rw[hb]) _ (Ag.refl _)
 have h1:=s1 _ _ ha;apply{D,_,rfl,SqL.of hD1,λp hp=>?_};rw[tF] at *;obtain⟨u2,hp2⟩:=A4 (o:=.lst ((nV (bgs S S.9)).drop 1)) hp;have h2:=u2 _ _ h1;have hD2:=u2 _ _ hD1;have s2:=s1.trans u2;generalize upd H1 p _=H2 at *;apply{a,_,rfl,.inl (SqL.of h2),?_};rw[Fg];apply{few (by simp),λp3 hp3=>?_};obtain⟨u3,hp33⟩:=A4 (o:=.lst [V.int (S.9:Nat)]) hp3;have h3:=u3 _ _ h2;have hD3:=u3 _ _ hD2;have hp4:=u3 _ _ hp2;have s3:=s2.trans u3;generalize upd H2 p3 _=H3 at *;have hbl:=fS S S.9;have hdl:((nV (bgs S S.9)).drop 1).9=(bgs S S.9).9-1:=by rw[gz,Bx]
 refine{p,p3,_,_,rfl,rfl,hp4,hp33,f9 (Ai (by rw[hdl,jb];lia)),λp5 hp5=>?_};obtain⟨u5,hp55⟩:=A4 (o:=.lst ((nV (bgs S S.9)).drop 1++[V.int (S.9:Nat)])) hp5;have h5:=u5 _ _ h3;have hD5:=u5 _ _ hD3;have s5:=s3.trans u5;generalize upd H3 p5 _=H5 at *;apply{D,p5,rfl,{_,SqL.of hD5},{_,SqL.of hp55},?_};have eE:(nV (bgs S S.9)).drop 1++[V.int (S.9:Nat)]=nV ((bgs S S.9).drop 1++[S.9]):=by
  unfold nV;rw[fi,qh];rfl
 rw[eE] at hp55;have eL:((bgs S S.9).drop 1++[S.9]).9=(bgs S S.9).9-1+1:=by rw[eg,gz,jb]
 refine eY (SqL.of hD5) (SqL.of hp55) (λD i zs H=>∃as:List eh,zs=as.map V.ref/\T2 H as ((Fe S S.9).take i)) (λD H _ _=>{[],rfl,rfl,λi a r e=>by cases e}) (λD i zs H us o hu ⟨as,e,hR⟩=>{as,e,hR.1,λi a r e1 e2=>?_})
  (λD i zs H hi ⟨as,e,hR⟩=>?_) (λD i zs H H' s ⟨as,e,hR⟩=>{as,e,hR.kp (Ag.kp s)}) (λD i zs x y H6 A R hx hy s6 _ _ hP hA=>?_) (λD2 zs H6 hD2 s6 hP h6=>?_)
 .rw[Al (Ih (hR.2 i a r e1 e2) hu (by intro z;cases z))]
  exact hR.2 i a r e1 e2
 .rw[e,d7,hR.1,fh]
  rw[Bx,Bx] at hi;exact Ai ()
 .obtain⟨as,rfl,hR⟩:=hP
  obtain⟨b,hb,rfl⟩:=Xa hx;obtain⟨e,he,rfl⟩:=Xa hy;obtain⟨hlt,_⟩:=Afl hb;apply Cg (SqL.of (s6 _ _ h5)) (v:=.str (S.getD b {#[]})) (A9 (by rw[d9,gg,d4 hlt];rfl)) ?_;apply{few (by simp),λt ht=>?_};refine hA _ _ (An ht) {as++[t],by rw[fi];rfl,?_};have er:(Fe S S.9).take (i+1)=(Fe S S.9).take i++[Rr S b e]:=by
   rw[i5];congr 1;unfold Fe;rw[d9,(qc (z:=(b,e))).mpr ⟨hb,he⟩];rfl
  rw[er];exact(hR.kp (Ag.kp (An ht))).snoc (r:=Rr S b e) Af
 .obtain⟨as,rfl,hR⟩:=hP
  rw[fz (by unfold Fe;rw[d7,sk,Bx,Bx];exact d8 _)] at hR;exact q D2 as H6 (s5.trans s6) (s5.free hD2) h6 hR
structure Kee (S:Prop):Prop where
 q:S
theorem U6 {c S T:Prop}[Decidable c](h1:Kee S->c->T)(h2:Kee S->¬ c->T)(h:S):T:=(DP c).elim (h1 ⟨h⟩) (h2 ⟨h⟩)
abbrev M3 (nm:Za6)(v:Int):Str:=nm.getD v.toNat {#[]}
def alk (nm:Za6)(x:Str)(ws:List Int):List Int:=ws.filter λv=>decide (M3 nm v=x)
theorem Fv (nm:Za6)(x:Str)(ws:List Int)(v:Int):alk nm x (ws++[v])=alk nm x ws++if M3 nm v=x then[v] else[]:=by
 unfold alk;rw[lu]
 by_cases h:M3 nm v=x
 .rw[if_pos h,je,if_pos (decide_eq_true h)];rfl
 .rw[if_neg h,je,if_neg (by rw[decide_eq_false h];decide)];rfl
structure Ups (nm:Za6) (H0 H:Hp) (u p t:eh) (ws:List Int) (kvs:List (Key×V)):Prop where
 hu:H u=KH (.dK kvs)
 has:∀v∈ws,Cn kvs (.inr (M3 nm v))≠KI
 at':∀x y,Cn kvs (.inr x)=KH y->∃l,y=.ref l/\H0 l=KI/\l≠u/\l≠p/\l≠t/\H l=KH (.lst ((alk nm x ws).map V.int))
 inj:∀x x' y,Cn kvs (.inr x)=KH y->Cn kvs (.inr x')=KH y->x=x'
theorem Ups.same {u p t:eh}{kvs:List (Key×V)}(h:Ups nm H0 H u p t ws kvs)(s:Ag H H'):Ups nm H0 H' u p t ws kvs:=
 {s _ _ h.hu,h.has,λx y e=>let ⟨l,a,b,c,d,e,f⟩:=h.at' x y e;{l,a,b,c,d,e,s _ _ f},h.inj}
theorem Ups.put {u p t c:eh}{o:HO}{kvs:List (Key×V)}(h:Ups nm H0 H u p t ws kvs)(hc:c=p\/c=t)(hn:c≠u):Ups nm H0 (upd H c o) u p t ws kvs:=
 ⟨by rw[Al hn.symm];exact h.hu,h.has,λx y e=>let ⟨l,a,b,c1,d,e,f⟩:=h.at' x y e;⟨l,a,b,c1,d,e,by rw[Al (by rcases hc with rfl|rfl<;>assumption)];exact f⟩,h.inj⟩
theorem Ups.empty {u p t:eh}{kvs:List (Key×V)}{x:Str}(h:Ups nm H0 H u p t ws kvs)(e:Cn kvs (.inr x)=KI):alk nm x ws=[]:=by
 unfold alk;rw[md];intro v hv z;exact h.has v hv (by rw[of_decide_eq_true z];exact e)
theorem Ups.list {u p t l:eh}{ws':List Int}{kvs:List (Key×V)}{x:Str}(h:Ups nm H0 H u p t ws kvs)(e:Cn kvs (.inr x)=KH (.ref l))(hw:∀v∈ws',v∈ws\/M3 nm v=x)(ho:∀y,y≠x->alk nm y ws'=alk nm y ws) :
  Ups nm H0 (upd H l (.lst ((alk nm x ws').map V.int))) u p t ws' kvs:=by
 obtain⟨l',e',b,c,d,e2,f⟩:=h.at' x _ e;cases e';refine{by rw[Al c.symm];exact h.hu,λv hv z=>?_,λy v hy=>?_,h.inj}
 .rcases hw v hv with hv|hv
  .exact h.has v hv z
  .rw[hv,e] at z;cases z
 .obtain⟨m,rfl,b',c',d',e3,f'⟩:=h.at' y v hy
  refine{m,rfl,b',c',d',e3,?_}
  by_cases hxy:y=x
  .subst hxy
   rw[e] at hy;cases hy;exact Af
  .rw[Al (λz=>hxy (h.inj y x _ hy (by rw[e,z]))),ho y hxy]
   exact f'
theorem Ups.new {u p t l:eh}{kvs:List (Key×V)}{x:Str}(h:Ups nm H0 H u p t ws kvs)(e:Cn kvs (.inr x)=KI)(hl:H l=KH (.lst []))(h0:H0 l=KI)(hlp:l≠p)(hlt:l≠t)(hf:∀y v,Cn kvs (.inr y)=KH v->v≠.ref l) :
  Ups nm H0 (upd H u (.dK (Lf kvs (.inr x) (.ref l)))) u p t ws (Lf kvs (.inr x) (.ref l)):=by
 have hlu:l≠u:=λz=>by rw[z,h.hu] at hl;cases hl
 refine{Af,λv hv=>?_,λy v hy=>?_,λy y' v hy hy'=>?_}
 .rw[Jv]
  split
  .exact λz=>by cases z
  .exact h.has v hv
 .rw[Jv] at hy
  split at hy
  .rename_i hyx
   cases hy;obtain rfl:=vi hyx;exact{l,rfl,h0,hlu,hlp,hlt,by rw[Al hlu,h.empty e];exact hl}
  .obtain⟨m,rfl,b',c',d',e3,f'⟩:=h.at' y v hy
   exact{m,rfl,b',c',d',e3,by rw[Al c'];exact f'}
 .rw[Jv] at hy hy'
  split at hy<;>split at hy'
  .rename_i a b
   exact(vi a).trans (vi b).symm
  .cases hy
   exact(hf _ _ hy' rfl).elim
  .cases hy'
   exact(hf _ _ hy rfl).elim
  .exact h.inj y y' v hy hy'
theorem Ups.setd {u p t l0:eh}{kvs:List (Key×V)}{x:Str}{Q:VK}(h:Ups nm H0 H u p t ws kvs)(hk:kvs.9<sizeLine)(hl:H l0=KH (.lst []))(h0:H0 l0=KI)(hlp:l0≠p)(hlt:l0≠t)(hf:∀y v,Cn kvs (.inr y)=KH v->v≠.ref l0)
  (q:∀l kvs' H',kvs'.9<=kvs.9+1->Ups nm H0 H' u p t ws kvs'->Cn kvs' (.inr x)=KH (.ref l)->(∀b,b≠u->H' b=H b)->Q (.ref l) H'):fA (.ref u) [.str x,.ref l0] H Q:=by
 refine Aal h.hu hk (λy hy=>?_) (λhn=>?_)
 .obtain⟨l,rfl,_⟩:=h.at' x y hy
  exact q l kvs H (wn _) h hy λ_ _=>rfl
 .exact q l0 _ _ (Lg _ _ _) (h.new hn hl h0 hlp hlt hf) (by rw[Jv,if_pos rfl]) λb hb=>Al hb
def Ds (ws:List Int):V:=match ws.getLast? with|none=>.non|some v=>.int v
theorem zK (h:ws≠[]):(ws.map V.int)[(ws.map V.int).9-1]?=KH (Ds ws):=by
 unfold Ds;rw[d7,d9,<-List.getLast?_eq_getElem?,List.getLast?_eq_getLast h];rfl
def Pi (nm:Za6)(ds:Za4)(k:Nat):V:=Ds (alk nm (M3 nm k) ((way ds k).tail.take (dAt ds k)))
inductive Sm(vs:List V)(H:Hp)(Q:VK)(E:XK):Prop|mk(a b:eh)(nm:Za6)(ds:Za4)(_:vs=[.ref a,.ref b])(_:H a=KH (.lst ((Ev ds).map V.int)))(_:H b=KH (.lst (sV nm)))(_:Dok ds)(_:nm.9=ds.9)(_:ds.9<=4000)(_:∀t H',Ag H H'->H t=KI->H' t=KH (.tup ((fb ds.9).map (Pi nm ds)))->Q (.ref t) H')
include T in
theorem Nt (F:Fun K "namesakes_above" "namesakes_above" F6 f fd):Ar P w K mg base CX0 1 f fd ["elders","names"] Sm:=by
 exists F.ok Bt
 obtain⟨a,b,nm,ds,rfl,ha,hb,hD,hnl,hn,q⟩:=h;refine{_,(Ab (tst 2 Bt.nd (Bo Aa)) (Ab (tst 3 Bt.nd (Bo Aa)) (Ab (tst 4 Bt.nd pB) (Ab (C5 ig rfl (Mm rfl T.cV (tpa (pv 0) Aa)) (Kh rfl (B4 (tgn 5 Bt.nd) (B4 (tgn 6 Bt.nd) G7))) (Ab (En ig (PW.pt (Z7 (ttc F5 (Ao Au (by rfl) T.cK Ch (tpa (pv 3) Aa)) Ae) (Tq (ttc Uv (tix Bk (pv 3) (Fz C8 Ae)) (pv 6))))) (Ad (As (dQ gi qy qw fV (tix yG (pv 4) (tix Bk (pv 1) (dQ gi qy qw fV (pv 3)))))))) (Ab (As (Cj gi ie ic Bh (pv 3) (tpa (pv 5) Aa))) (Ab (tst 7 Bt.nd (Cj uj yc PySem.F.type_dict_setdefault tU (pv 4) (tpa (tix Bk (pv 1) (pv 5)) (tpa (Bo Aa) Aa)))) (Ab (As (Cj gi ie ic Bh (pv 2) (tpa (B8 (ttc F5 (Ao Au (by rfl) T.cK Ch (tpa (pv 7) Aa)) Ae) (tix Bk (pv 7) (Fz C8 Ae)) Ek) Aa))) (Ad (As (Cj gi ie ic Bh (pv 7) (tpa (pv 5) Aa))))))))) (Ad (Am (Dj Ep (by rfl) T.di O4 (tpa (pv 2) Aa)))))))),?_}
 apply{gn _,λt ht=>?_};obtain⟨u1,ht1⟩:=A4 (o:=.lst []) ht;generalize upd H t _=H1 at *;apply{gn _,λp hp=>?_};have hp0:=u1.free hp;have npt:p≠t:=(Aj ht1 hp).symm;obtain⟨u2,hp1⟩:=A4 (o:=.lst []) hp;have ht2:=u2 _ _ ht1;have s2:=u1.trans u2;generalize upd H1 p _=H2 at *;k_is;intro u hu;have hu0:=s2.free hu;obtain⟨u3,hu1⟩:=A4 (o:=.dK []) hu;have nup:u≠p:=(Aj hp1 hu).symm;have nut:u≠t:=(Aj ht2 hu).symm;have ht3:=u3 _ _ ht2;have hp3:=u3 _ _ hp1;have s3:=s2.trans u3;generalize upd H2 u _=H3 at *;apply{a,rfl,{_,SqL.of (s3 _ _ ha)},?_};refine K5 (xs:=(Ev ds).map V.int) (λk G H4=>(∃v5 v6 v7:Option V,G=[KH (.ref a),KH (.ref b),KH (.ref t),KH (.ref p),KH (.ref u),v5,v6,v7])/\Ag H H4/\H4 p=KH (.lst ((way ds k).tail.map V.int))/\H4 t=KH (.lst ((fb k).map (Pi nm ds)))/\∃kvs,kvs.9<=k/\Ups nm H H4 u p t (way ds k).tail kvs)
  {{_,_,_,rfl},s3,hp3,ht3,[],d8 _,hu1,(λv hv=>by cases hv),(λx y e=>by cases e),λx x' y e=>by cases e} (λk G H4 _ h=>SqL.of (h.2.1 _ _ ha)) ?_ ?_
 .rintro k x G H4 r hx ⟨⟨v5,v6,v7,rfl⟩,s4,hp4,ht4,kvs,hkl,hU⟩ hr4
  have hk:=Bq hx;rw[d7,Gs] at hk;obtain⟨e,he,rfl⟩:=P7 hx;rw[Ms hk] at he;obtain rfl:=ee he;have st:=An (o:=.tup [.int k,.int (eld ds k)]) hr4;have hp5:=st _ _ hp4;have ht5:=st _ _ ht4;have hU5:=hU.same st;have s5:=s4.trans st;generalize upd H4 r _=H5 at *;have hl:=Cd hD k ();have hd:=hD k hk;have hop:=N4 hD k ();have hW:=F0 hD (k:=k) ();have hwt:(way ds k).tail.length=opn ds k:=by rw[yj];lia
  have hget:∀j,(way ds k)[j+1]?=(way ds k).tail[j]?:=λj=>by rw[hW];rfl
  apply Gp (λG H6=>G=[KH (.ref a),KH (.ref b),KH (.ref t),KH (.ref p),KH (.ref u),KH (.int k),KH (.int (eld ds k)),v7]/\Ag H H6/\H6 t=KH (.lst ((fb k).map (Pi nm ds)))/\∃m,dAt ds k<=m/\m<=opn ds k/\H6 p=KH (.lst (((way ds k).tail.take m).map V.int))/\∃kvs,kvs.9<=k/\Ups nm H H6 u p t ((way ds k).tail.take m) kvs) (λ_ H6=>qD H6 p)
   {rfl,s5,ht5,opn ds k,(),d8 _,by rw[fz ()];exact hp5,kvs,hkl,by rw[fz ()];exact hU5} ?_
  rintro z G H6 ⟨rfl,s6,ht6,m,hm1,hm2,hp6,kvs6,hkl6,hU6⟩ hz;have hml:((way ds k).tail.take m).9=m:=by rw[fh];lia
  rw[Pn hp6,d7,hml] at hz;apply{p,_,rfl,.inl (SqL.of hp6),?_};rw[d7,hml];k_is
  by_cases hme:m=dAt ds k
  .subst hme
   refine' U6 (c:=0<dAt ds k) (S:=?S) ?a ?b ?r
   case a=>
    intro kp hm;refine Bn (λ_=>?_) (λh=>absurd () h);apply Cg (SqL.of hp6) (v:=.int (eld ds k)) ?_ ?_
    .refine Tf (Sd (n:=eld ds k) ?_)
     rw[d7,hml,gj (),<-hget,show dAt ds k-1+1=dAt ds k by lia];exact Ho hD hk
    apply iM (λh=>absurd rfl h) (λ_=>?_);exact kp.q
   case b=>
    intro kp hm;refine Bn (λh=>absurd h ()) (λ_=>?_);exact kp.q
   k_is;have hwn:(way ds (k+1)).tail=(way ds k).tail.take (dAt ds k)++[(k:Int)]:=by
    show((way ds k).take (dAt ds k+1)++[(k:Int)]).tail=_;rw[hW];rfl
   refine{.inl {rfl,_,SqL.of hp6},?_};apply B0 hp6 (by rw[d7,hml];exact Ai ()) ?_;rw[<-xn (f:=V.int) (a:=(k:Int)),<-fi,<-hwn];have s7:Ag H (upd H6 p (.lst ((way ds (k+1)).tail.map V.int))):=Bc s6 hp0;have hp7:=@Af H6 p (.lst ((way ds (k+1)).tail.map V.int));have ht7:upd H6 p (.lst ((way ds (k+1)).tail.map V.int)) t=_:=(Al npt.symm).trans ht6;have hU7:=hU6.put (o:=.lst ((way ds (k+1)).tail.map V.int)) (.inl rfl) nup.symm;generalize upd H6 p _=H7 at *;apply{.inr (.inr (.inl {rfl,.inl {_,hU7.hu}})),?_};k_is;obtain⟨x,hx⟩:∃x,nm[k]?=KH x:={_,d4 ()};have hnx:M3 nm (k:Int)=x:=by
    show nm.getD (AS (k:Int)) _=x;rw[gu,gg,hx];rfl
   refine Cg (SqL.of (s7 _ _ hb)) (v:=.str x) (A9 (by rw[d9,hx];rfl)) ?_;apply{gn _,λl0 hl0=>?_};obtain⟨u8,hl8⟩:=A4 (o:=.lst []) hl0;have hp8:=u8 _ _ hp7;have ht8:=u8 _ _ ht7;have s8:=s7.trans u8;have hU8:=hU7.same u8;have hfr:∀y v,Cn kvs6 (.inr y)=KH v->v≠.ref l0:=λy v e z=>by
    obtain⟨l,rfl,_,_,_,_,f⟩:=hU7.at' y v e;rw[V.ref.inj z,hl0] at f;cases f
   have n1:l0≠p:=(Aj hp7 hl0).symm;have n2:l0≠t:=(Aj ht7 hl0).symm;have h00:=s7.free hl0;generalize upd H7 l0 _=H8 at *;apply hU8.setd (Ai ()) hl8 h00 n1 n2 hfr λl kvs9 H9 hk9 hU9 hv9 k9=>?_;have hp9:=(k9 p nup.symm).trans hp8;have ht9:=(k9 t nut.symm).trans ht8;have s9:Ag H H9:=λb o e=>(k9 b (Aj e hu0)).trans (s8 b o e);obtain⟨l',e',hl0',hlu,hlp,hlt,hl9⟩:=hU9.at' x _ hv9;cases e';apply{.inl {rfl,_,SqL.of ht9},?_};apply{l,_,rfl,.inl (SqL.of hl9),?_};rw[d7];k_is;have htl:((fb k).map (Pi nm ds)).9<sizeLine:=by rw[d7,fg];exact Ai ()
   refine' U6 (c:=alk nm x ((way ds k).tail.take (dAt ds k))=[]) (S:=?S2) ?b2 ?a2 ?r2
   case a2=>
    intro kp hm;refine Bn (λ_=>?_) (λh=>absurd (by have:=List.length_pos_iff.mpr hm;lia) h);apply Cg (SqL.of hl9) (v:=Ds (alk nm x ((way ds k).tail.take (dAt ds k)))) (Tf (zK hm)) ?_;exact kp.q
   case b2=>
    intro kp hm;refine Bn (λh=>absurd h (by rw[hm];decide)) (λ_=>?_);have z:=kp.q;rw[show Ds (alk nm x ((way ds k).tail.take (dAt ds k)))=V.non by rw[hm];rfl] at z;exact z
   apply B0 ht9 htl ?_;have hp10:upd H9 t (.lst ((fb k).map (Pi nm ds)++[Ds (alk nm x ((way ds k).tail.take (dAt ds k)))])) p=_:=(Al npt).trans hp9;have ht10:upd H9 t (.lst ((fb k).map (Pi nm ds)++[Ds (alk nm x ((way ds k).tail.take (dAt ds k)))])) t=KH (.lst ((fb (k+1)).map (Pi nm ds))):=by
    rw[Af,jf,fi];show _=KH (HO.lst (_++[Ds (alk nm (M3 nm k) _)]));rw[hnx]
   have hl10:upd H9 t (.lst ((fb k).map (Pi nm ds)++[Ds (alk nm x ((way ds k).tail.take (dAt ds k)))])) l=_:=(Al hlt).trans hl9;have hU10:=hU9.put (o:=.lst ((fb k).map (Pi nm ds)++[Ds (alk nm x ((way ds k).tail.take (dAt ds k)))])) (.inr rfl) nut.symm;have s10:Ag H (upd H9 t (.lst ((fb k).map (Pi nm ds)++[Ds (alk nm x ((way ds k).tail.take (dAt ds k)))]))):=Bc s9 ht;generalize upd H9 t _=H10 at *;apply{.inl {rfl,_,SqL.of hl10},?_};apply B0 hl10 (by rw[d7];exact Ai (by have:=ke (λv=>decide (M3 nm v=x)) ((way ds k).tail.take (dAt ds k));unfold alk;lia)) ?_;k_is;have ea:(alk nm x ((way ds k).tail.take (dAt ds k))).map V.int++[V.int (k:Int)]=(alk nm x (way ds (k+1)).tail).map V.int:=by
    rw[hwn,Fv,if_pos hnx,fi];rfl
   rw[ea];refine{{_,_,_,rfl},Bc s10 hl0',(Al hlp.symm).trans hp10,(Al hlt.symm).trans ht10,kvs9,(),?_};refine hU10.list hv9 (λv hv=>?_) (λy hy=>?_)
   .rw[hwn] at hv
    rcases ik.mp hv with hv|hv
    .exact .inl hv
    .rw[f7.mp hv];exact .inr hnx
   .rw[hwn,Fv,if_neg (λz=>hy (z.symm.trans hnx)),gv]
  .have hm0:0<m:=()
   refine Bn (λ_=>?_) (λh=>absurd () h);k_is;obtain⟨y,hy⟩:∃y,(way ds k).tail[m-1]?=KH y:={_,d4 ()};have hyt:((way ds k).tail.take m)[m-1]?=KH y:=by rw[gj ()];exact hy
   have hye:((((way ds k).tail.take m).map V.int))[(((way ds k).tail.take m).map V.int).9-1]?=KH (.int y):=by
    rw[d7,hml];exact Sd hyt
   refine Cg (SqL.of hp6) (v:=.int y) (Tf hye) ?_;obtain⟨v,rfl,hvk,_⟩:=F9 hD k (m-1) y () (by rw[hget];exact hy);have hne:(v:Int)≠eld ds k:=λz=>by
    have:=Lj hD k (dAt ds k) (m-1+1) _ _ () () (Ho hD hk) (by rw[hget];exact hy);lia
   apply iM (λ_=>?_) (λh=>absurd (V.int.inj h) hne);refine Li ?_;apply{.inl {rfl,_,SqL.of hp6},?_};refine{p,_,.int v,rfl,rfl,hp6,hye,?_};k_is;rw[P4 ()];have hwm:(way ds k).tail.take m=(way ds k).tail.take (m-1)++[(v:Int)]:=by
    rw[show m=m-1+1 by lia,i5,show m-1+1-1=m-1 by lia,hy];rfl
   have hp7:=@Af H6 p (.lst (((way ds k).tail.take (m-1)).map V.int));have ht7:upd H6 p (.lst (((way ds k).tail.take (m-1)).map V.int)) t=_:=(Al npt.symm).trans ht6;have s7:Ag H (upd H6 p (.lst (((way ds k).tail.take (m-1)).map V.int))):=Bc s6 hp0;have hU7:=hU6.put (o:=.lst (((way ds k).tail.take (m-1)).map V.int)) (.inl rfl) nup.symm;generalize upd H6 p _=H7 at *;obtain⟨x,hx⟩:∃x,nm[v]?=KH x:={_,d4 ()};have hnx:M3 nm (v:Int)=x:=by
    show nm.getD (AS (v:Int)) _=x;rw[gu,gg,hx];rfl
   refine Cg (SqL.of (s7 _ _ hb)) (v:=.str x) (A9 (by rw[d9,hx];rfl)) ?_;have hvm:(v:Int)∈(way ds k).tail.take m:=by rw[hwm];simp
   obtain⟨w',hw'⟩:=Option.ne_none_iff_exists'.mp (hnx▸hU7.has _ hvm);obtain⟨l,rfl,hl0',hlu,hlp,hlt,hl7⟩:=hU7.at' x _ hw';refine Afe hU7.hu hw' ?_;have ea:(alk nm x ((way ds k).tail.take m))=alk nm x ((way ds k).tail.take (m-1))++[(v:Int)]:=by rw[hwm,Fv,if_pos hnx]
   rw[ea] at hl7;refine{.inl {rfl,_,SqL.of hl7},?_};refine{l,_,.int v,rfl,rfl,hl7,by rw[fi,eg,fk (by simp)];simp,?_};rw[fi,show([(v:Int)].map V.int)=[V.int v] from rfl,List.dropLast_concat];refine{{rfl,Bc s7 hl0',(Al hlt.symm).trans ht7,m-1,(),(),(Al hlp.symm).trans hp7,kvs6,hkl6,?_},?_}
   .refine hU7.list hw' (λv' hv'=>.inl ?_) (λy hy=>?_)
    .rw[hwm];exact km _ hv'
    .rw[hwm,Fv,if_neg (λz=>hy (z.symm.trans hnx)),gv]
   .rw[Pn ((Al hlp.symm).trans hp7),d7,fh]
    lia
 .rintro G H4 ⟨⟨v5,v6,v7,rfl⟩,s4,hp4,ht4,kvs,hkl,hU⟩
  rw[d7,Gs] at ht4;apply{t,_,rfl,.inl {SqL.of ht4,λr hr4=>?_}};exact q r _ (s4.trans (An hr4)) (s4.free hr4) Af
theorem SmB.hk {ts:List Tb}{x:eh}(s:SmB ts x H H'):Kp (Ro x H) H':=λb u n e=>s.keep b u (pV e).1 n (pV e).2
theorem Rj {x b:eh}{u:HO}{fs:List (Str×V)}(hx:H x=KH (.ins C dx fs))(h:H b=KH u)(n:∀C d gs,u=.ins C d gs->gs≠fs):Ro x H b=KH u:=by
 rw[dW (λz=>by rw[z,hx] at h;exact n _ _ _ (ee h).symm rfl)];exact h
theorem B9.hid {K:d6}{x:eh}{w:eh}{ds:Za4}(hx:H x=KH (.ins C dx []))(h:B9 K CB CC CP CO H w ds):B9 K CB CC CP CO (Ro x H) w ds:=by
 have ni:∀{b C d:eh} {g:Str×V} {gs:List (Str×V)},H b=KH (.ins C d (g::gs))->Ro x H b=KH (.ins C d (g::gs)):=λe=>Rj hx e λ_ _ _ z e2=>by cases z;cases e2
 have nt:∀{b:eh} {xs:List V},H b=KH (.tup xs)->Ro x H b=KH (.tup xs):=λe=>Rj hx e λ_ _ _ z=>by cases z
 obtain⟨dw,p,h1,⟨d,b,c,t,o,a1,⟨d2,t2,b1,b2,b3⟩,⟨d3,t3,u3,c1,c2,c3,c4⟩,a4,a5⟩,h3⟩:=h;exact{dw,p,ni h1,{d,b,c,t,o,ni a1,{d2,t2,ni b1,nt b2,b3},{d3,t3,u3,ni c1,nt c2,nt c3,c4},a4.keep λb xs e=>nt e,a5},h3}
theorem A0.hid {K:d6}{x c:eh}{fs:List (Str×V)}{l:Za5}(hx:H x=KH (.ins C dx fs))(n:c≠x)(h:A0 K CC H c l):A0 K CC (Ro x H) c l:=by
 have nt:∀{b:eh} {xs:List V},H b=KH (.tup xs)->Ro x H b=KH (.tup xs):=λe=>Rj hx e λ_ _ _ z=>by cases z
 obtain⟨d3,t3,u3,c1,c2,c3,c4⟩:=h;exact{d3,t3,u3,(dW n).trans c1,nt c2,nt c3,c4}
theorem Ow.hid {CS x s:eh}{fs:List (Str×V)}{ns:Za4}{st:Nat}(hx:H x=KH (.ins C dx fs))(n:s≠x)(h:Ow CS H s ns st):Ow CS (Ro x H) s ns st:=by
 obtain⟨d,t,e,h1,h2⟩:=h;exact{d,t,e,(dW n).trans h1,Rj hx h2 λ_ _ _ z=>by cases z}
theorem T2.hid {x:eh}{fs:List (Str×V)}{rows:List (Str×Nat×Nat)}(hx:H x=KH (.ins C dx fs))(h:T2 H as rows):T2 (Ro x H) as rows:={h.1,λi a r e1 e2=>Rj hx (h.2 i a r e1 e2) λ_ _ _ z=>by cases z}
def Z8 (H:Hp)(cs es:List eh)(rows:List (Str×Nat×Nat)):Prop:=cs.9=rows.9/\es.9=rows.9/\∀(i:Nat) c e r,cs[i]?=KH c->es[i]?=KH e->rows[i]?=KH r->H c=KH (.tup [.str r.1,.ref e])/\H e=KH (.tup [.int r.2.1,.int r.2.2])
theorem Z8.kp {cs es:List eh}{rows:List (Str×Nat×Nat)}(h:Z8 H cs es rows)(k:Kp H H'):Z8 H' cs es rows:={h.1,h.2.1,λi c e r e1 e2 e3=>{k.k (h.2.2 i c e r e1 e2 e3).1,k.k (h.2.2 i c e r e1 e2 e3).2}}
theorem Vd {α:Type}{l:List α}{x y:α}{i:Nat}(h:(l++[x])[i]?=KH y):(i<l.9/\l[i]?=KH y)\/(i=l.9/\x=y):=by
 by_cases hi:i<l.9
 .rw[fw hi] at h
  exact .inl ⟨hi,h⟩
 .rw[fk ()] at h
  have:=Bq h;have e0:i-l.9=0:=by simp at this;lia
  rw[e0] at h;exact .inr {(),ee h}
theorem Z8.snoc {cs es:List eh}{rows:List (Str×Nat×Nat)}{c e:eh}{r:Str×Nat×Nat}(h:Z8 H cs es rows)(h1:H c=KH (.tup [.str r.1,.ref e]))(h2:H e=KH (.tup [.int r.2.1,.int r.2.2])):Z8 H (cs++[c]) (es++[e]) (rows++[r]):=by
 refine{by rw[eg,eg,h.1];rfl,by rw[eg,eg,h.2.1];rfl,λi c' e' r' e1 e2 e3=>?_};have l1:=h.1;have l2:=h.2.1;rcases Vd e1 with⟨i1,e1⟩|⟨i1,rfl⟩
 .rcases Vd e2 with⟨i2,e2⟩|⟨i2,rfl⟩
  .rcases Vd e3 with⟨i3,e3⟩|⟨i3,rfl⟩
   .exact h.2.2 i c' e' r' e1 e2 e3
   .exact absurd i3 ()
  .exact absurd i2 ()
 .rcases Vd e2 with⟨i2,e2⟩|⟨i2,rfl⟩
  .exact absurd i2 ()
  .rcases Vd e3 with⟨i3,e3⟩|⟨i3,rfl⟩
   .exact absurd i3 ()
   .exact⟨h1,h2⟩
theorem Yz:∀(ks:Za6) (ys:List V) (kvs:List (Key×V)),(Eg kvs ks ys).9<=kvs.9+ks.9
 |[],_,_=>d8 _
 |_::_,[],_=>jj _ _
 |k::ks,y::ys,kvs=>by
  have:=Yz ks ys (Lf kvs (.inr k) y);have:=Lg kvs (.inr k:Key) y;show(Eg (Lf kvs (.inr k) y) ks ys).9<=_;rw[gm];lia
theorem wU (S:Za6)(k:Nat):(Fe S k).9<=k:=by
 unfold Fe;rw[d7,sk];have:=fS S k;lia
def nFs (w s b l sp ns:V):List (Str×V):=[("kept_wood",w),("places",s),("begins",b),("kept_stretches",l),("spans",sp),("namesakes",ns)]
def kW (H:Hp)(es:List eh)(rows:List (Str×Nat×Nat)):Prop:=es.9=rows.9/\∀(i:Nat) e r,es[i]?=KH e->rows[i]?=KH r->H e=KH (.tup [.int r.2.1,.int r.2.2])
theorem kW.kp {es:List eh}{rows:List (Str×Nat×Nat)}(h:kW H es rows)(k:Kp H H'):kW H' es rows:={h.1,λi e r e1 e2=>k.k (h.2 i e r e1 e2)}
theorem kW.hid {x:eh}{fs:List (Str×V)}{es:List eh}{rows:List (Str×Nat×Nat)}(hx:H x=KH (.ins C dx fs))(h:kW H es rows):kW (Ro x H) es rows:={h.1,λi e r e1 e2=>Rj hx (h.2 i e r e1 e2) λ_ _ _ z=>by cases z}
theorem Z8.se {cs es:List eh}{rows:List (Str×Nat×Nat)}(h:Z8 H cs es rows):kW H es rows:=⟨h.2.1,λi e r e1 e2=>by
 have hi:i<cs.9:=by rw[h.1];exact Bq e2
 exact(h.2.2 i _ e r (d4 hi) e1 e2).2⟩
abbrev qK (nm:Za6):List (Str×Nat×Nat):=Fe (Fw nm) nm.9
structure Ts (K:d6) (CB CC CP CO CS CN:eh) (H:Hp) (x:eh) (nm:Za6) (ds:Za4) (dx w s sp nk:eh) (bb ll:V) (es:List eh):Prop where
 hx:H x=KH (.ins CN dx (nFs (.ref w) (.ref s) bb ll (.ref sp) (.ref nk)))
 hw:B9 K CB CC CP CO H w ds
 hs:Ow CS H s (Ku nm) 16
 hp:H sp=KH (.dK (Eg [] ((qK nm).map (·.1)) (es.map V.ref)))
 he:kW H es (qK nm)
 hk:H nk=KH (.tup ((fb ds.9).map (Pi nm ds)))
def Dd (K:d6)(CB CC CP CO CS CN:eh)(H:Hp)(x:eh)(nm:Za6)(ds:Za4):Prop:=nm.9=ds.9/\nm.9<64/\∃dx w s sp nk bb ll es,Ts K CB CC CP CO CS CN H x nm ds dx w s sp nk bb ll es
theorem Ts.kp {K:d6}{CS CN:eh}{x:eh}{ds:Za4}{w s sp nk:eh}{bb ll:V}{es:List eh}(h:Ts K CB CC CP CO CS CN H x nm ds dx w s sp nk bb ll es)(k:Kp H H'):Ts K CB CC CP CO CS CN H' x nm ds dx w s sp nk bb ll es:=
 {k.k h.hx,h.hw.kp k,h.hs.kp k,k.k h.hp,h.he.kp k,k.k h.hk}
theorem Dd.kp {K:d6}{CS CN:eh}{x:eh}{ds:Za4}(h:Dd K CB CC CP CO CS CN H x nm ds)(k:Kp H H'):Dd K CB CC CP CO CS CN H' x nm ds:=
 let ⟨h1,h2,dx,w,s,sp,nk,bb,ll,es,h3⟩:=h;{h1,h2,dx,w,s,sp,nk,bb,ll,es,h3.kp k}
inductive fW (K:d6)(CB CC CP CO CS CN:eh)(ts:List Tb)(vs:List V)(H:Hp)(Q:VK)(E:XK):Prop|mk(x dx w a:eh)(nm:Za6)(ds:Za4)(_:vs=[.ref x,.ref w,.ref a])(_:H x=KH (.ins CN dx []))(_:B9 K CB CC CP CO H w ds)(_:H a=KH (.lst (sV nm)))(_:(∀z∈nm,Hv z=KJ))(_:nm.9=ds.9)(_:nm.9<64)(_:Tbs ts H)(_:∀H',SmB ts x H H'->Dd K CB CC CP CO CS CN H' x nm ds->Q .non H')
variable (ah:Qc K ae) (ZO:Qb K ad)
include T hK hB aH ah ZO in
theorem W2 {f c:eh}(F:Xm K "__init__" "Named.__init__" Dc f fd c Pt)(hts:({Pt,Lm,"Named.__init__.<locals>.<lambda>"}:Tb)∈ts)(cp:T.ZC "check_names" 2 ["names"] (T8 K))(cq:vP P w K mg base "Shortcuts" ag 4 ["self","order","step"] (Mu ag) [.int 16])(cr:T.ZC "begins_of" 5 ["things"] (T3 K ab))(cu:T.ZC "stretches_of" 1 ["names"] Sh)(cw:T.ZC "namesakes_above" 1 ["elders","names"] Sm)(cx:T.ZM ad "elders" 9 ["self"] (Yl K ac ab aa ad)) :
  Ar P w K mg base CX0 10 f fd ["self","wood","names"] (fW K ac ab aa ad ag ae ts):=by
 refine F.ok Yb (λvs H Q E h=>?_) (λA outer s H vs Q E hr h=>?_)
 .obtain⟨x,dx,wd,a,nm,ds,rfl,_⟩:=h
  rfl
 .obtain⟨x,dx,wd,a,nm,ds,rfl,hx,hW,ha,hN,hnl,h64,hT,q⟩:=h
  have hW0:=hW.hid hx;have nax:a≠x:=Ih ha hx (by intro z;cases z);have b0:SmB ts x H H:=SmB.refl hT;refine⟨_,(Ab (As (At cp hr.m (tpa (pv 2) Aa))) (Ab (Bp (ttc Uv (Ao Au (by rfl) T.cK Ch (tpa (pv 2) Aa)) (Kg aH hr.m (pv 1))) (Ad Ca)
   Aw) (Ab (tsf (pv 0) (pv 1)) (Ab (tsf (pv 0) (Abb cq hr.m Afh (tpa (tX (qual:="Named.__init__.<locals>.<lambda>") (i:=2) (cl:=s.heap.objs.8+1) rfl hr.m rfl T.dA (Abz rfl T.cN (tpa (Ao Au (by rfl) T.cK Ch (tpa (pv 2) Aa)) Aa)) (F.code hK) hB rfl rfl (by kernel_rfl) (by kernel_rfl) (by kernel_rfl) (by kernel_rfl) (λ_ _ _ _ _=>rfl)) Aa))) (Ab (tsf (pv 0) (At cr hr.m (tpa (Ao Oq (by rfl) T.dA T5 (tpa (pv 2) Aa)) Aa))) (Ab (tsf (pv 0) (At cu hr.m (tpa (Ao Oq (by rfl) T.dA T5 (tpa (pv 2) Aa)) Aa))) (Ab (tsf (pv 0) (Dj (lY rfl) (by rfl) T.dH zE (tpa (L5 rfl So (Du (tfl (pv 0))) (λ_ _ _ _=>Cc) (λ_ _ _ _=>(N5 (tpa (tix (Tl K) (pv 0) Ae) (tpa (N5 (tpa (tix (Tl K) (pv 0) Ae) (tpa (tix (Tl K) (pv 0) Ae) Aa))) Aa))))) Aa))) (Ad (tsf (pv 0) (At cw hr.m (tpa (Kg cx hr.m (pv 1)) (tpa (pv 2) Aa)))))))))))),?_⟩
  apply{a,nm,rfl,ha,hN,(),λH1 s1=>?_};have b1:=b0.then s1;have hx1:=s1 _ _ hx;have ha1:=s1 _ _ ha;apply{a,_,rfl,.inl (SqL.of ha1),?_};rw[Fg];have hW1:=hW.kp (Ag.kp s1);obtain⟨dw,pw,hw1,_⟩:=id hW1;apply{wd,dw,_,rfl,hw1,rfl,?_};apply{wd,ds,rfl,hW1,?_};apply iM (λh=>absurd (by rw[hnl]) h) (λ_=>?_);apply Mi hx1 ah.cl ah.dr (show 0<1000 by decide) b1 λH2 hx2 b2 _=>?_;have ha2:=b2.k ha nax;apply{a,_,rfl,.inl (SqL.of ha2),?_};rw[Fg];apply{nm.9,rfl,(),λr hr2=>?_};obtain⟨u3,hr3⟩:=A4 (o:=.rng 0 (nm.9:Int)) hr2;have b3:=b2.then u3;have hx3:=u3 _ _ hx2;have ha3:=u3 _ _ ha2;generalize upd H2 r _=H3 at *;refine{r,a,nm,rfl,rfl,ha3,h64,hr3,b3.ok.1 _ hts,λo H4 sx t4 ho3 ho4=>?_};rw[Xp,<-eP] at ho4;have k4:=wC b3.ok hts sx t4;have b4:=b3.sm k4;have hx4:=k4.k hx3;have ha4:=k4.k ha3;k_is;intro sx dsx hsx hdsx hsxd;have nsx:sx≠x:=(Aj hx4 hsx).symm;refine{sx,dsx,o,Ku nm,16,rfl,Af,Lz hsx hdsx _ _ ho4,Aae nm,by rw[Oz];lia,by decide,λH5 s5 hS5=>{rfl,?_}};have s5:=Je hsx hdsx s5;have b5:=b4.then s5;have hx5:=s5 _ _ hx4;have hS5:=hS5.hid hx5 nsx;apply Mi hx5 ah.cl ah.dh (show 1<1000 by decide) b5 λH6 hx6 b6 k6=>?_;have ha6:=b6.k ha nax;apply{a,nm,rfl,SqL.of ha6,h64,λq1 hq1=>?_};rw[Nw];obtain⟨u7,hq7⟩:=A4 (o:=.lst (sV (Fw nm))) hq1;have b7:=b6.then u7;have hx7:=u7 _ _ hx6;have k7:=k6.then u7;generalize upd H6 q1 _=H7 at *;apply{q1,Fw nm,rfl,hq7,by rw[Iy];lia,λb H8 s8 hb8 hC8=>?_};have b8:=b7.then s8;have hx8:=s8 _ _ hx7;have k8:=k7.then s8;have hC8:=hC8.hid hx8 (Aj hx7 hb8).symm;apply Mi hx8 ah.cl ah.dM (show 2<1000 by decide) b8 λH9 hx9 b9 k9=>?_;have ha9:=b9.k ha nax;apply{a,nm,rfl,SqL.of ha9,h64,λq2 hq2=>?_};rw[Nw];obtain⟨u10,hq10⟩:=A4 (o:=.lst (sV (Fw nm))) hq2;have b10:=b9.then u10;have hx10:=u10 _ _ hx9;have k10:=k9.then u10;generalize upd H9 q2 _=H10 at *;apply{q2,Fw nm,rfl,hq10,by rw[Iy];lia,λl as H11 s11 hl10 hl11 hR11=>?_};rw[Iy] at hR11;have b11:=b10.then s11;have hx11:=s11 _ _ hx10;have k11:=k10.then s11;have nlx:l≠x:=(Aj hx10 hl10).symm;have hR11:=hR11.hid hx11;apply Mi hx11 ah.cl ah.dG (show 3<1000 by decide) b11 λH12 hx12 b12 k12=>?_;have hl12:=k12.k hl11 nlx;have hR12:=hR11.kp k12.hk;apply{x,ae,dx,_,_,rfl,hx12,ah.cl,ah.dG,rfl,?_};apply{l,rfl,{_,SqL.of hl12},?_};refine Uu (SqL.of hl12) (λi ys H=>∃cs es:List eh,ys=cs.map V.ref/\Z8 H cs es ((Fe (Fw nm) nm.9).take i)) (λH _=>{[],[],rfl,rfl,rfl,λi c e r e1=>by cases e1}) (λi ys H D zs o hz ⟨cs,es,e,hP⟩=>{cs,es,e,hP.1,hP.2.1,λi c e r e1 e2 e3=>?_})
   (λi ys H hi ⟨cs,es,e,hP⟩=>?_) (λi ys y H13 A R hy s13 ⟨cs,es,e,hP⟩ hA=>?_) (λD ys H13 hD s13 ⟨cs,es,e,hP⟩ hD13=>?_)
  .obtain⟨a1,a2⟩:=hP.2.2 i c e r e1 e2 e3
   exact{by rw[Al (Ih a1 hz (by intro z;cases z))];exact a1,by rw[Al (Ih a2 hz (by intro z;cases z))];exact a2}
  .have:=wU (Fw nm) nm.9
   rw[e,d7,hP.1,fh];exact Ai ()
  .subst e
   rw[d9] at hy;obtain⟨c,hc,rfl⟩:=kx.mp hy;obtain⟨rw3,hrw⟩:∃r,(Fe (Fw nm) nm.9)[i]?=KH r:={_,d4 (by rw[<-hR12.1];exact Bq hc)};have hc13:=s13 _ _ (hR12.2 i c rw3 hc hrw);apply Cb (SqT.of hc13) (v:=.str rw3.1) rfl ?_;apply Cb (SqT.of hc13) (v:=.int rw3.2.1) rfl ?_;apply Cb (SqT.of hc13) (v:=.int rw3.2.2) rfl ?_;apply{few (by simp),λe he=>?_};obtain⟨u1,he1⟩:=A4 (o:=.tup [.int rw3.2.1,.int rw3.2.2]) he;generalize upd H13 e _=H14 at *;apply{few (by simp),λc2 hc2=>?_};have u2:=An (o:=.tup [.str rw3.1,.ref e]) hc2;refine hA _ _ (u1.trans u2) {cs++[c2],es++[e],by rw[fi];rfl,?_};rw[i5,hrw];exact(hP.kp (Ag.kp (u1.trans u2))).snoc Af (u2 _ _ he1)
  subst e;have hrl:(Fe (Fw nm) nm.9).9=as.9:=hR12.1.symm;rw[fz (by rw[d7,hrl];exact d8 _)] at hP;have b13:=b12.then s13;have hx13:=s13 _ _ hx12;have k13:=k12.then s13;apply{D,cs,(Fe (Fw nm) nm.9).map (·.1),es.map V.ref,rfl,hD13,{by rw[d7,hP.1],by rw[d7,hP.1,hP.2.1],λi c k y e1 e2 e3=>?_},?_,λsp hsp=>?_}
  .rw[d9] at e2 e3
   obtain⟨r,hr,rfl⟩:=kx.mp e2;obtain⟨e,he,rfl⟩:=kx.mp e3;exact(hP.2.2 i c e r e1 he hr).1
  .have:=Yz ((Fe (Fw nm) nm.9).map (·.1)) (es.map V.ref) []
   simpa using this
  have u14:=An (o:=.dK (Eg [] ((Fe (Fw nm) nm.9).map (·.1)) (es.map V.ref))) hsp;have b14:=b13.then u14;have hx14:=u14 _ _ hx13;have k14:=k13.then u14;have hsp14:=@Af H13 sp (.dK (Eg [] ((Fe (Fw nm) nm.9).map (·.1)) (es.map V.ref)));have nspx:sp≠x:=(Aj hx13 hsp).symm;have hE14:=(hP.se.kp (Ag.kp u14)).hid hx14;generalize upd H13 sp _=H14 at *;apply Mi hx14 ah.cl ah.dE (show 4<1000 by decide) b14 λH15 hx15 b15 k15=>?_;have hW15:=hW0.kp b15.hk;have ha15:=b15.k ha nax;obtain⟨dw',pw',hw15,_⟩:=id hW15;apply{wd,dw',_,rfl,hw15,rfl,?_};apply{wd,ds,rfl,hW15,λe H16 s16 _ he16=>?_};have hD:=hW15.choose_spec.choose_spec.2.2.1;apply{e,a,nm,ds,rfl,he16,s16 _ _ ha15,hD,hnl,(),λnk H17 s17 _ hnk17=>?_};have s17:=s16.trans s17;have b17:=b15.then s17;have hx17:=s17 _ _ hx15;apply Mi hx17 ah.cl ah.dD (show 5<1000 by decide) b17 λH18 hx18 b18 k18=>?_;have K15:=(k15.then s17).trans k18;have K12:=k14.trans K15;have K9:=k11.trans K12;have K6:=k8.trans K9;have nnk:nk≠x:=Ih hnk17 hx17 (by intro z;cases z);exact q H18 b18 {hnl,h64,dx,wd,sx,sp,nk,_,_,es,hx18,hW0.kp b18.hk,hS5.kp K6.hk,K15.k hsp14 nspx,hE14.kp K15.hk,k18.k hnk17 nnk}
inductive Rk (K:d6)(CB CC CP CO CS CN:eh)(vs:List V)(H:Hp)(Q:VK)(E:XK):Prop|mk(x:eh)(nm:Za6)(ds:Za4)(lo hi:Nat)(_:vs=[.ref x,.int lo,.int hi])(_:Dd K CB CC CP CO CS CN H x nm ds)(_:lo<=hi)(_:hi<=nm.9)(_:∀p H',Ag H H'->H p=KI->H' p=KH (.lst (nV (((Ku nm).drop lo).take (hi-lo))))->Q (.ref p) H')
variable (ax:T.ZM ag "there" 1 ["self","place"] (rN ag))
include T ah ax in
theorem Wi (F:Fun K "knots_at" "Named.knots_at" Ee f fd):Ar P w K mg base CX0 2 f fd ["self","low","high"] (Rk K ac ab aa ad ag ae):=by
 exists F.ok Pj
 obtain⟨x,nm,ds,lo,hi,rfl,⟨hnl,h64,dx,wd,sx,sp,nk,bb,ll,es,hN⟩,h1,h2,q⟩:=h;refine{_,(Ad (Am (L5 rfl M2 (Zp rfl T.cN (tpa (pv 1) (tpa (pv 2) Aa))) (λ_ _ _ _=>Cc) (λ_ _ _ _=>(Aq ax hr.m (pI K (pv 1)) (tpa (pv 0) Aa)))))),?_};apply{_,_,rfl,{(),(),(),()},?_};rw[show((hi:Int)-(lo:Int)).toNat=hi-lo by lia];refine Jm (λi=>nV (((Ku nm).drop lo).take i)) rfl (λi hi=>?_) (λi H1 R A hi s1 kR kA=>?_) (λD H1 hD s1 hD1=>?_)
 .rw[Bx,fh]
  exact Ai ()
 .have hol:=Oz nm
  obtain⟨v,hv⟩:∃v,(Ku nm)[lo+i]?=KH v:={_,d4 ()};have hN1:=hN.kp (Ag.kp s1);obtain⟨d5,t5,e5,hs5,_⟩:=id hN1.hs;apply{x,ae,dx,_,_,rfl,hN1.hx,ah.cl,ah.dh,rfl,?_};apply{sx,d5,_,rfl,hs5,rfl,?_};apply{sx,Ku nm,16,lo+i,v,by rw[FG];rfl,hN1.hs,hv,?_};refine kA _ _ ?_ (Ag.refl _);rw[i5,iz,hv];exact(Mv _ _).symm
 exact q D H1 s1 hD hD1
inductive Yu (K:d6)(vs:List V)(H:Hp)(Q:VK)(E:XK):Prop|mk(z:Str)(_:vs=[.str z])(_:Hv z=KJ)(_:∀H',Ag H H'->Q .non H')
include T be in
theorem X8 (F:Fun K "check_name" "check_name" Ko f fd):Ar P w K mg base CX0 2 f fd ["name"] (Yu K):=by
 exists F.ok X5
 obtain⟨z,rfl,hm,q⟩:=h;refine⟨_,(Ad (Bp (Cl (Bv (At be hr.m (tpa (pv 0) Aa)))) (Ad Ca)
  Aw)),?_⟩
 apply{_,rfl,lB _,λy e=>?_,λH3 s3=>?_}
 .obtain rfl:=V.str.inj e
  have:=L8 hm;lia
 rw[show nmV (.str z)=KJ from hm];k_is;exact q H3 s3
inductive nQ (K:d6)(CB CC CP CO CS CN:eh)(vs:List V)(H:Hp)(Q:VK)(E:XK):Prop|mk(x:eh)(nm:Za6)(ds:Za4)(k:Nat)(z:Str)(_:vs=[.ref x,.int k,.str z])(_:Dd K CB CC CP CO CS CN H x nm ds)(_:k<nm.9)(_:Hv z=KJ)(_:∀H',Ag H H'->Q .non H')
variable (bf:T.ZC "check_name" 2 ["name"] (Yu K))
include T ba aH ah bf in
theorem Qx (F:Fun K "check_both" "Named.check_both" E3 f fd) :
  Ar P w K mg base CX0 4 f fd ["self","k","name"] (nQ K ac ab aa ad ag ae):=by
 exists F.ok M5
 obtain⟨x,nm,ds,k,z,rfl,⟨hnl,h64,dx,wd,sx,sp,nk,bb,ll,es,hN⟩,hk,hz,q⟩:=h;obtain⟨dw,pw,hw,_⟩:=id hN.hw;refine{_,(Ab (As (At ba hr.m (tpa (pv 1) (tpa (Kg aH hr.m (tfl (pv 0))) Aa)))) (Ad (As (At bf hr.m (tpa (pv 2) Aa))))),?_}
 apply{x,ae,dx,_,_,rfl,hN.hx,ah.cl,ah.dr,rfl,?_};apply{wd,dw,_,rfl,hw,rfl,?_};apply{wd,ds,rfl,hN.hw,?_};apply{k,_,rfl,(),(),?_};apply{z,rfl,hz,λH1 s1=>?_};k_is;exact q H1 s1
inductive T7 (K:d6)(CB CC CP CO CS CN:eh)(vs:List V)(H:Hp)(Q:VK)(E:XK):Prop|mk(x:eh)(nm:Za6)(ds:Za4)(z:Str)(_:vs=[.ref x,.str z])(_:Dd K CB CC CP CO CS CN H x nm ds)(_:∀(t:eh) (lo hi:Nat) H',C2 nm z lo hi->Ag H H'->H' t=KH (.tup [.int lo,.int hi])->Q (.ref t) H')
include T ah in
theorem Wm (F:Fun K "span_of" "Named.span_of" Gw f fd) :
  Ar P w K mg base CX0 1 f fd ["self","name"] (T7 K ac ab aa ad ag ae):=by
 exists F.ok P2
 obtain⟨x,nm,ds,z,rfl,⟨hnl,h64,dx,wd,sx,sp,nk,bb,ll,es,hN⟩,q⟩:=h;refine{_,(Ad (Am (Cj uj AA PySem.F.type_dict_get Abw (tfl (pv 0)) (tpa (pv 1) (tpa (N5 (tpa Ae (tpa Ae Aa))) Aa))))),?_};apply{x,ae,dx,_,_,rfl,hN.hx,ah.cl,ah.dE,rfl,?_};apply{.inr (.inr (.inl {rfl,.inl {_,hN.hp}})),?_};apply{few (by simp),λt ht=>?_};obtain⟨s1,ht1⟩:=A4 (o:=.tup [.int 0,.int 0]) ht;generalize upd H t _=H1 at *;apply{sp,_,z,_,rfl,rfl,s1 _ _ hN.hp,?_};rcases Aab nm z hN.he.1 with⟨e,hs⟩|⟨i,e,r,he,hr1,ev,hs⟩
 .rw[show Cn (Eg [] ((qK nm).map (·.1)) (es.map V.ref)) (.inr z)=KI from e]
  k_is;exact q t 0 0 H1 hs s1 ht1
 .rw[show Cn (Eg [] ((qK nm).map (·.1)) (es.map V.ref)) (.inr z)=KH (.ref e) from ev]
  k_is;exact q e _ _ H1 hs s1 (s1 _ _ (hN.he.2 i e r he hr1))
inductive Lv (K:d6)(CB CC CP CO CS CN:eh)(ts:List Tb)(vs:List V)(H:Hp)(Q:VK)(E:XK):Prop|mk(x:eh)(nm:Za6)(ds:Za4)(k:Nat)(z:Str)(_:vs=[.ref x,.int k,.str z])(_:Dd K CB CC CP CO CS CN H x nm ds)(_:Tbs ts H)(_:∀(lo hi:Nat) H',C2 nm z lo hi->SmT ts H H'->Q (.int ((lo+Ck (ofN nm z) k:Nat):Int)) H')
variable (az:T.ZM ae "span_of" 1 ["self","name"] (T7 K ac ab aa ad ag ae))
include T hK hB aO ah ax az in
theorem Qy {f c:eh}(F:Xm K "first_from" "Named.first_from" Br f fd c Pt)(hts:({Pt,Gv,"Named.first_from.<locals>.<lambda>"}:Tb)∈ts) :
  Ar P w K mg base CX0 4 f fd ["self","k","name"] (Lv K ac ab aa ad ag ae ts):=by
 refine F.ok G5 (λvs H Q E h=>?_) (λA outer s H vs Q E hr h=>?_)
 .obtain⟨x,nm,ds,k,z,rfl,_⟩:=h
  rfl
 .obtain⟨x,nm,ds,k,z,rfl,hNm,hT,q⟩:=h
  obtain⟨hnl,h64,dx,wd,sx,sp,nk,bb,ll,es,hN⟩:=id hNm;refine{_,(Ab (tst 3 G5.nd (Aq az hr.m (pv 0) (tpa (pv 2) Aa))) (Ad (Am (xG (qual:="Named.first_from.<locals>.<lambda>") (k:=1) aO hr.m (tix Bs (pv 3) Ae) (tix Bs (pv 3) Ae) (F.code hK) hB rfl (by kernel_rfl) J2 (λ_ _ _ _ _ _ _ hr=>(tpc oZ (Aq ax hr.m (pI K (pv 2)) (tpa (pv 0) Aa)) (pv 1))))))),?_}
  apply{x,dx,_,rfl,hN.hx,rfl,?_};apply{x,nm,ds,z,rfl,hNm,λt lo hi H1 hS s1 ht=>?_};have hT1:=hT.same s1;have hN1:=hN.kp (SmT.of hT s1).kp;have hlen:=hS.len;apply Cb (SqT.of ht) (v:=.int (lo:Int)) rfl ?_;apply Cb (SqT.of ht) (v:=.int (hi:Int)) rfl ?_;k_is;have hk:=hT1.1 _ hts;refine{lo,hi,λi=>decide (k<=(ofN nm z).getD (i.toNat-lo) 0),rfl,rfl,(),hk,λi H3 hi1 hi2 s3=>?_,λm H' hm1 hm2 hm3 hm4 s' t'=>?_}
  .obtain⟨pt,hpt⟩:=Tb.tbl hk
   have kp:Kp H1 H3:=λb u nt e=>s3 b u (λz=>by rw[z,hpt] at e;cases e;exact nt pt rfl) e;have hN3:=hN1.kp kp;obtain⟨ds',t',d',hsx,_⟩:=id hN3.hs;obtain⟨j,rfl⟩:=ly (show 0<=i by lia);obtain⟨v,hv⟩:∃v,(ofN nm z)[j-lo]?=KH v:={_,d4 ()};have hv2:(Ku nm)[j]?=KH v:=by
    have:=hS.at' (i:=j-lo) ();rw[hv,show lo+(j-lo)=j by lia] at this;exact this
   apply{x,ae,dx,_,_,rfl,hN3.hx,ah.cl,ah.dh,rfl,?_};apply{sx,ds',_,rfl,hsx,rfl,?_};apply{sx,_,_,j,v,rfl,hN3.hs,hv2,?_};apply{?_,Ag.refl _};rw[gu,gg,hv];exact congrArg V.bl (decide_eq_decide.mpr (by show _↔k<=v;lia))
  .obtain⟨j,rfl⟩:=ly (show 0<=m by lia)
   have e:j-lo=Ck (ofN nm z) k:=by
    refine Acs (Ph nm z) () (λv h0 hv=>?_) (λv hv=>?_)
    .have:=hm3 ()
     dsimp only at this;rw[show((j:Int)-1).toNat-lo=j-lo-1 by lia,gg,hv] at this;have:=of_decide_eq_false this;exact Nat.lt_of_not_le this
    .obtain⟨l,_⟩:=fc.mp hv
     have:=hm4 ();dsimp only at this;rw[gu,gg,hv] at this;exact of_decide_eq_true this
   rw[show(j:Int)=((lo+Ck (ofN nm z) k:Nat):Int) by lia];exact q lo hi H' hS ((SmT.of hT s1).trans (wC hT1 hts s' t'))
inductive pZ (K:d6)(CB CC CP CO CS CN:eh)(ts:List Tb)(vs:List V)(H:Hp)(Q:VK)(E:XK):Prop|mk(x:eh)(nm:Za6)(ds:Za4)(k:Nat)(z:Str)(_:vs=[.ref x,.int k,.str z])(_:Dd K CB CC CP CO CS CN H x nm ds)(_:Tbs ts H)(_:k<nm.9)(_:Hv z=KJ)(_:∀(lo hi:Nat) (t:eh) H',C2 nm z lo hi->SmT ts H H'->H' t=KH (.tup [.int ((lo+Ck (ofN nm z) k:Nat):Int),.int ((lo+Ck (ofN nm z) (k+(Ed ds k).9+1):Nat):Int)])->Q (.ref t) H')
variable (aI:T.ZM ae "check_both" 4 ["self","k","name"] (nQ K ac ab aa ad ag ae)) (aB:T.ZM ae "first_from" 4 ["self","k","name"] (Lv K ac ab aa ad ag ae ts))
include T ah aI aB in
theorem Qp (F:Fun K "span_beneath" "Named.span_beneath" D4 f fd)(cy:T.ZM ad "beneath" 12 ["self","k"] (W9 K ac ab aa ad ts)) :
  Ar P w K mg base CX0 13 f fd ["self","k","name"] (pZ K ac ab aa ad ag ae ts):=by
 exists F.ok Ge
 obtain⟨x,nm,ds,k,z,rfl,hNm,hT,hk,hz,q⟩:=h;obtain⟨hnl,h64,dx,wd,sx,sp,nk,bb,ll,es,hN⟩:=id hNm;obtain⟨dw,pw,hw,_⟩:=id hN.hw;refine{_,(Ab (As (Aq aI hr.m (pv 0) (tpa (pv 1) (tpa (pv 2) Aa)))) (Ab (tst 3 Ge.nd (Ak Bd (Ak Bd (pv 1) (Aq cy hr.m (tfl (pv 0)) (tpa (pv 1) Aa))) Ae)) (Ad (Am (N5 (tpa (Aq aB hr.m (pv 0) (tpa (pv 1) (tpa (pv 2) Aa))) (tpa (Aq aB hr.m (pv 0) (tpa (pv 3) (tpa (pv 2) Aa))) Aa))))))),?_}
 apply{x,dx,_,rfl,hN.hx,rfl,?_};apply{x,nm,ds,k,z,rfl,hNm,hk,hz,λH1 s1=>?_};have r1:=SmT.of hT s1;apply{x,ae,dx,_,_,rfl,r1.k hN.hx,ah.cl,ah.dr,rfl,?_};apply{wd,dw,_,rfl,r1.k hw,rfl,?_};apply{wd,ds,k,rfl,hN.hw.kp r1.kp,r1.ok,(),λH2 s2=>?_};have r2:=r1.trans s2;k_is;rw[show((k:Int)+((Ed ds k).9:Int)+1)=((k+(Ed ds k).9+1:Nat):Int) by lia];refine{x,dx,_,rfl,r2.k hN.hx,rfl,?_};apply{x,nm,ds,k,z,rfl,hNm.kp r2.kp,r2.ok,λlo hi H3 hS s3=>?_};have r3:=r2.trans s3;apply{x,dx,_,rfl,r3.k hN.hx,rfl,?_};apply{x,nm,ds,k+(Ed ds k).9+1,z,rfl,hNm.kp r3.kp,r3.ok,λlo' hi' H4 hS' s4=>?_};obtain⟨rfl,rfl⟩:=hS'.uniq hS;have r4:=r3.trans s4;apply{few (by simp),λt ht=>?_};exact q _ _ t _ hS (r4.then (An ht)) (Af)
inductive pQ (K:d6)(CB CC CP CO CS CN:eh)(vs:List V)(H:Hp)(Q:VK)(E:XK):Prop|mk(x:eh)(nm:Za6)(ds:Za4)(z:Str)(_:vs=[.ref x,.str z])(_:Dd K CB CC CP CO CS CN H x nm ds)(_:Hv z=KJ)(_:∀p H',Ag H H'->H p=KI->H' p=KH (.lst (nV (ofN nm z)))->Q (.ref p) H')
variable (bh:T.ZM ae "knots_at" 2 ["self","low","high"] (Rk K ac ab aa ad ag ae))
include T ah bf az bh in
theorem Ww (F:Fun K "all_of" "Named.all_of" Hl f fd) :
  Ar P w K mg base CX0 3 f fd ["self","name"] (pQ K ac ab aa ad ag ae):=by
 exists F.ok Kt
 obtain⟨x,nm,ds,z,rfl,hNm,hz,q⟩:=h;obtain⟨hnl,h64,dx,wd,sx,sp,nk,bb,ll,es,hN⟩:=id hNm;refine{_,(Ab (As (At bf hr.m (tpa (pv 1) Aa))) (Ab (tst 2 Kt.nd (Aq az hr.m (pv 0) (tpa (pv 1) Aa))) (Ad (Am (Aq bh hr.m (pv 0) (tpa (tix Bs (pv 2) Ae) (tpa (tix Bs (pv 2) Ae) Aa))))))),?_}
 apply{z,rfl,hz,λH1 s1=>?_};apply{x,dx,_,rfl,s1 _ _ hN.hx,rfl,?_};apply{x,nm,ds,z,rfl,hNm.kp (λb u _ e=>s1 b u e),λt lo hi H2 hS s2 ht=>?_};have s12:=s1.trans s2;apply{x,dx,_,rfl,s12 _ _ hN.hx,rfl,?_};apply Cb (SqT.of ht) (v:=.int (lo:Int)) rfl ?_;apply Cb (SqT.of ht) (v:=.int (hi:Int)) rfl ?_;k_is;exact{x,nm,ds,lo,hi,rfl,hNm.kp (λb u _ e=>s12 b u e),hS.1,hS.2.1,λp H3 s3 hp3 h3=>q p H3 (s12.trans s3) (s12.free hp3) (by rw[<-hS.cut];exact h3)}
inductive qR (K:d6)(CB CC CP CO CS CN:eh)(ts:List Tb)(vs:List V)(H:Hp)(Q:VK)(E:XK):Prop|mk(x:eh)(nm:Za6)(ds:Za4)(k:Nat)(z:Str)(_:vs=[.ref x,.int k,.str z])(_:Dd K CB CC CP CO CS CN H x nm ds)(_:Tbs ts H)(_:k<nm.9)(_:Hv z=KJ)(_:∀H',SmT ts H H'->Q (.int ((jQ (ofN nm z) k (Bu ds k)).9:Nat)) H')
variable (bi:T.ZM ae "span_beneath" 13 ["self","k","name"] (pZ K ac ab aa ad ag ae ts))
include T ah bi in
theorem Qo (F:Fun K "many_beneath" "Named.many_beneath" Dx f fd) :
  Ar P w K mg base CX0 14 f fd ["self","k","name"] (qR K ac ab aa ad ag ae ts):=by
 exists F.ok Gd
 obtain⟨x,nm,ds,k,z,rfl,hNm,hT,hk,hz,q⟩:=h;obtain⟨hnl,h64,dx,wd,sx,sp,nk,bb,ll,es,hN⟩:=id hNm;refine{_,(Ab (tst 3 Gd.nd (Aq bi hr.m (pv 0) (tpa (pv 1) (tpa (pv 2) Aa)))) (Ad (Am (Ak B6 (tix Bs (pv 3) Ae) (tix Bs (pv 3) Ae))))),?_}
 apply{x,dx,_,rfl,hN.hx,rfl,?_};apply{x,nm,ds,k,z,rfl,hNm,hT,hk,hz,λlo hi t H1 hS s1 ht=>?_};have hek:=(Dr (ds:=ds) (k:=k) ()).1;rw[Ij,show k+(Bu ds k-(k+1))+1=Bu ds k by lia] at ht;apply Cb (SqT.of ht) (v:=.int ((lo+Ck (ofN nm z) (Bu ds k):Nat):Int)) rfl ?_;apply Cb (SqT.of ht) (v:=.int ((lo+Ck (ofN nm z) k:Nat):Int)) rfl ?_;k_is;have hm:=Ja (l:=ofN nm z) (f9 hek);rw[show((lo+Ck (ofN nm z) (Bu ds k):Nat):Int)-((lo+Ck (ofN nm z) k:Nat):Int)=((jQ (ofN nm z) k (Bu ds k)).9:Nat) by rw[Aai (Ph nm z) (f9 hek)];lia];exact q H1 s1
inductive yD (K:d6)(CB CC CP CO CS CN:eh)(ts:List Tb)(vs:List V)(H:Hp)(Q:VK)(E:XK):Prop|mk(x:eh)(nm:Za6)(ds:Za4)(k:Nat)(z:Str)(_:vs=[.ref x,.int k,.str z])(_:Dd K CB CC CP CO CS CN H x nm ds)(_:Tbs ts H)(_:k<nm.9)(_:Hv z=KJ)(_:∀p H',SmT ts H H'->H p=KI->H' p=KH (.lst (nV (jQ (ofN nm z) k (Bu ds k))))->Q (.ref p) H')
include T ah bh bi in
theorem Qt (F:Fun K "all_beneath" "Named.all_beneath" Ej f fd) :
  Ar P w K mg base CX0 14 f fd ["self","k","name"] (yD K ac ab aa ad ag ae ts):=by
 exists F.ok Gr
 obtain⟨x,nm,ds,k,z,rfl,hNm,hT,hk,hz,q⟩:=h;obtain⟨hnl,h64,dx,wd,sx,sp,nk,bb,ll,es,hN⟩:=id hNm;refine{_,(Ab (tst 3 Gr.nd (Aq bi hr.m (pv 0) (tpa (pv 1) (tpa (pv 2) Aa)))) (Ad (Am (Aq bh hr.m (pv 0) (tpa (tix Bs (pv 3) Ae) (tpa (tix Bs (pv 3) Ae) Aa)))))),?_}
 apply{x,dx,_,rfl,hN.hx,rfl,?_};apply{x,nm,ds,k,z,rfl,hNm,hT,hk,hz,λlo hi t H1 hS s1 ht=>?_};have hek:=(Dr (ds:=ds) (k:=k) ()).1;rw[Ij,show k+(Bu ds k-(k+1))+1=Bu ds k by lia] at ht;apply{x,dx,_,rfl,s1.k hN.hx,rfl,?_};apply Cb (SqT.of ht) (v:=.int ((lo+Ck (ofN nm z) k:Nat):Int)) rfl ?_;apply Cb (SqT.of ht) (v:=.int ((lo+Ck (ofN nm z) (Bu ds k):Nat):Int)) rfl ?_;k_is;have hm:=Ja (l:=ofN nm z) (f9 hek);have hc:=Op (ofN nm z) (Bu ds k);have hl:=hS.len;have h2:=hS.2.1;exact{x,nm,ds,_,_,rfl,hNm.kp s1.kp,(),(),λp H2 s2 hp h2=>q p H2 (s1.then s2) (s1.sm.free hp) (by rw[<-hS.bet (f9 hek)];exact h2)}
inductive lE (K:d6)(CB CC CP CO CS CN:eh)(ts:List Tb)(vs:List V)(H:Hp)(Q:VK)(E:XK):Prop|mk(x:eh)(nm:Za6)(ds:Za4)(k:Nat)(z:Str)(_:vs=[.ref x,.int k,.str z])(_:Dd K CB CC CP CO CS CN H x nm ds)(_:Tbs ts H)(_:k<nm.9)(_:Hv z=KJ)(_:∀H',SmT ts H H'->Q (Vv (ofN nm z)[Ck (ofN nm z) k]?) H')
include T ah ax az aI aB in
theorem Wl (F:Fun K "next_of" "Named.next_of" Gz f fd) :
  Ar P w K mg base CX0 5 f fd ["self","k","name"] (lE K ac ab aa ad ag ae ts):=by
 exists F.ok Jh
 obtain⟨x,nm,ds,k,z,rfl,hNm,hT,hk,hz,q⟩:=h;obtain⟨hnl,h64,dx,wd,sx,sp,nk,bb,ll,es,hN⟩:=id hNm;refine{_,(Ab (As (Aq aI hr.m (pv 0) (tpa (pv 1) (tpa (pv 2) Aa)))) (Ab (tst 3 Jh.nd (Aq aB hr.m (pv 0) (tpa (pv 1) (tpa (pv 2) Aa)))) (Ad (Am (B8 (ttc O9 (pv 3) (tix Bs (Aq az hr.m (pv 0) (tpa (pv 2) Aa)) Ae)) (Aq ax hr.m (tfl (pv 0)) (tpa (pv 3) Aa)) Ek))))),?_}
 apply{x,dx,_,rfl,hN.hx,rfl,?_};apply{x,nm,ds,k,z,rfl,hNm,hk,hz,λH1 s1=>?_};have r1:=SmT.of hT s1;apply{x,dx,_,rfl,r1.k hN.hx,rfl,?_};apply{x,nm,ds,k,z,rfl,hNm.kp r1.kp,r1.ok,λlo hi H2 hS s2=>?_};have r2:=r1.trans s2;have hlen:=hS.len;apply{x,dx,_,rfl,r2.k hN.hx,rfl,?_};apply{x,nm,ds,z,rfl,hNm.kp r2.kp,λt lo' hi' H3 hS' s3 ht=>?_};obtain⟨rfl,rfl⟩:=hS'.uniq hS;have r3:=r2.then s3;apply Cb (SqT.of ht) (v:=.int (hi':Int)) rfl ?_;apply Bn (λl=>?_) (λl=>?_)
 .have l:Ck (ofN nm z) k<(ofN nm z).9:=()
  obtain⟨v,hv⟩:∃v,(ofN nm z)[Ck (ofN nm z) k]?=KH v:={_,d4 l};obtain⟨ds',t',d',hsx,_⟩:=id hN.hs;apply{x,ae,dx,_,_,rfl,r3.k hN.hx,ah.cl,ah.dh,rfl,?_};apply{sx,ds',_,rfl,r3.k hsx,rfl,?_};apply{sx,_,_,lo'+Ck (ofN nm z) k,v,rfl,hN.hs.kp r3.kp,by rw[hS.at' l,hv],?_};have:=q H3 r3;rw[hv] at this;exact this
 .k_is
  have:=q H3 r3;rw[ii ()] at this;exact this
theorem zW (nm:Za6)(x:Str)(ws:List Int):alk nm x ws=[]\/∃(i:Nat) (v:Int),ws[i]?=KH v/\M3 nm v=x/\Ds (alk nm x ws)=.int v/\∀m,i<m->alk nm x (ws.take m)=alk nm x ws:=by
 refine Jl (P:=λws=>alk nm x ws=[]\/∃(i:Nat) (v:Int),ws[i]?=KH v/\M3 nm v=x/\Ds (alk nm x ws)=.int v/\∀m,i<m->alk nm x (ws.take m)=alk nm x ws) (.inl rfl) (λws v ih=>?_) ws;rw[Fv]
 by_cases c:M3 nm v=x
 .rw[if_pos c]
  refine .inr {ws.9,v,by simp,c,?_,λm hm=>?_}
  .unfold Ds
   rw[wj]
  .rw[fz (by simp;lia),Fv,if_pos c]
 .rw[if_neg c,gv]
  refine ih.imp id λ⟨i,u,h1,h2,h3,h4⟩=>{i,u,?_,h2,h3,λm hm=>?_}
  .rw[fw (Bq h1)]
   exact h1
  .by_cases hl:m<=ws.9
   .rw[jq hl]
    exact h4 m hm
   .rw[fz (by simp;lia),Fv,if_neg c,gv]
inductive Yp (K:d6)(CB CC CP CO CS CN:eh)(ts:List Tb)(vs:List V)(H:Hp)(Q:VK)(E:XK):Prop|mk(x:eh)(nm:Za6)(ds:Za4)(k:Nat)(z:Str)(_:vs=[.ref x,.int k,.str z])(_:Dd K CB CC CP CO CS CN H x nm ds)(_:Tbs ts H)(_:k<nm.9)(_:Hv z=KJ)(_:∀H',SmT ts H H'->Q (Ds (alk nm z (anc ds k))) H')
theorem Tg {x:Str}{v:Nat}:v∈ofN nm x↔nm[v]?=KH x:=by
 unfold ofN;rw[vq,jo,decide_eq_true_iff];exact{λh=>h.2,λh=>{Bq h,h}}
theorem Lr {x:Str}{v:Nat}(h:v<nm.9):M3 nm (v:Int)=x↔nm[v]?=KH x:=by
 show nm.getD (AS (v:Int)) _=x↔_;rw[gu,gg,d4 h];exact{λe=>congrArg KH e,λe=>ee e}
theorem Af3 {ds:Za4}(h:Dok ds){k:Nat}(hk:k<ds.9){x:Int}(hx:x∈anc ds k):∃v:Nat,x=v/\v<k:=by
 obtain⟨i,hi⟩:=j6 hx;unfold anc at hi;have hil:=Bq hi;rw[fh] at hil;rw[gj ()] at hi;obtain⟨v,e,l,_⟩:=F9 h k i x () (by rw[F0 h (k:=k) ()];exact hi);exact⟨v,e,l⟩
include T ah ax az aI aB in
theorem Wh (F:Fun K "elder_of" "Named.elder_of" Gk f fd)(cz:T.ZM ad "nearest" 12 ["self","one","other"] (qY K ac ab aa ad ts)) :
  Ar P w K mg base CX0 13 f fd ["self","k","name"] (Yp K ac ab aa ad ag ae ts):=by
 exists F.ok Cs
 obtain⟨x,nm,ds,k,z,rfl,hNm,hT,hk,hz,q⟩:=h;obtain⟨hnl,h64,dx,wd,sx,sp,nk,bb,ll,es,hN⟩:=id hNm;obtain⟨dw,pw,hw,_,hD,_⟩:=id hN.hw;obtain⟨ds',t',d',hsx,_⟩:=id hN.hs;have hkd:k<ds.9:=()
 refine⟨_,(Ab (As (Aq aI hr.m (pv 0) (tpa (pv 1) (tpa (pv 2) Aa)))) (Ab (tst 3 Cs.nd (Ak B6 (Aq aB hr.m (pv 0) (tpa (pv 1) (tpa (pv 2) Aa))) Ae)) (Ab (Bp (ttc O9 (pv 3) (tix Bs (Aq az hr.m (pv 0) (tpa (pv 2) Aa)) Ae)) (Ad (Am Ek))
  Aw) (Ab (tst 4 Cs.nd (Aq ax hr.m (tfl (pv 0)) (tpa (pv 3) Aa))) (Ab (tst 5 Cs.nd (Aq cz hr.m (tfl (pv 0)) (tpa (pv 1) (tpa (pv 4) Aa)))) (Ab (En ig (PW.pt (Z7 (P1 (eZ (pv 4))) (Tq (PW.pt (Ii (P1 (fR (pv 5))) (Hy (ttc F5 (pv 4) (pv 5)))))))) (Ad (tst 4 Cs.nd (tix Bs (tfl (pv 0)) (pv 4))))) (Ad (Am (pv 4))))))))),?_⟩
 apply{x,dx,_,rfl,hN.hx,rfl,?_};apply{x,nm,ds,k,z,rfl,hNm,hk,hz,λH1 s1=>?_};have r1:=SmT.of hT s1;apply{x,dx,_,rfl,r1.k hN.hx,rfl,?_};apply{x,nm,ds,k,z,rfl,hNm.kp r1.kp,r1.ok,λlo hi H2 hS s2=>?_};have r2:=r1.trans s2;have hlen:=hS.len;have hinc:=Ph nm z;have hcl:=Op (ofN nm z) k;apply{x,dx,_,rfl,r2.k hN.hx,rfl,?_};apply{x,nm,ds,z,rfl,hNm.kp r2.kp,λt lo' hi' H3 hS' s3 ht=>?_};obtain⟨rfl,rfl⟩:=hS'.uniq hS;have r3:=r2.then s3;apply Cb (SqT.of ht) (v:=.int (lo':Int)) rfl ?_;apply Bn (λh0=>?_) (λh0=>?_)
 .have hc0:Ck (ofN nm z) k=0:=()
  have e:alk nm z (anc ds k)=[]:=by
   refine md.mpr λy hy c=>?_;obtain⟨v,rfl,hv⟩:=Af3 hD hkd hy;obtain⟨i,hi⟩:=j6 (Tg.mpr ((Lr ()).mp (of_decide_eq_true c)));have:=(Hc hinc (b:=k) hi).mpr hv;lia
  k_is;have:=q H3 r3;rw[e] at this;exact this
 obtain⟨c,hc⟩:∃c,Ck (ofN nm z) k=c+1:={Ck (ofN nm z) k-1,()};obtain⟨a,ha⟩:∃a,(ofN nm z)[c]?=KH a:={_,d4 ()};have hak:a<k:=(Hc hinc (b:=k) ha).mp ();have hna:=Tg.mp (f8 ha);have hbt:∀i:Nat,a<i->i<k->M3 nm (i:Int)≠z:=λi i1 i2 e=>by
  obtain⟨j,hj⟩:=j6 (Tg.mpr ((Lr ()).mp e));have h1:=(Hc hinc (b:=k) hj).mpr i2;have h2:=(Hc hinc (b:=i) ha).mpr i1;have h3:=mt (Hc hinc (b:=i) hj).mp ();have h4:j=c:=by
   have:=Ja (l:=ofN nm z) (f9 i2);lia
  subst h4;lia
 apply{x,ae,dx,_,_,rfl,r3.k hN.hx,ah.cl,ah.dh,rfl,?_};apply{sx,ds',_,rfl,r3.k hsx,rfl,?_};apply{sx,_,_,lo'+c,a,by rw[hc,show((lo'+(c+1):Nat):Int)-1=((lo'+c:Nat):Int) by lia];rfl,hN.hs.kp r3.kp,by rw[hS.at' (),ha],?_};apply{x,ae,dx,_,_,rfl,r3.k hN.hx,ah.cl,ah.dr,rfl,?_};apply{wd,dw,_,rfl,r3.k hw,rfl,?_};apply{wd,ds,a,k,rfl,hN.hw.kp r3.kp,r3.ok,hak,hkd,λm r H4 hNr hr0 hr1 s4=>?_};have r4:=r3.trans s4;have hmk:=Aah hD (f:=λv=>decide (M3 nm v=z)) hak hkd hNr.up (λi i1 i2=>decide_eq_false (hbt i i1 i2)) hNr.no;have hmk:alk nm z (anc ds k)=alk nm z ((way ds (a+1)).tail.take m):=hmk;have hwl:=Cd hD (a+1) ();have hL:(way ds (a+1)).tail.length=dAt ds a+1:=by rw[yj];have:opn ds (a+1)=dAt ds a+1:=rfl;lia
 have hget:∀j,(way ds (a+1))[j+1]?=(way ds (a+1)).tail[j]?:=λj=>by rw[F0 hD (k:=a+1) ()];rfl
 have hm1:m<=dAt ds a+1:=by
  have:=hNr.up (a+1) () ();have:=hD (a+1) ();have:opn ds (a+1)=dAt ds a+1:=rfl;lia
 have e0:V.int (a:Int)=Ds (alk nm z ((way ds (a+1)).tail.take (dAt ds a+1))):=by
  rw[fz (),Abk hD (),Fv,if_pos ((Lr ()).mpr hna)];unfold Ds;rw[wj]
 apply{λt G H5=>H5=H4/\m<=t/\t<=dAt ds a+1/\G=[KH (.ref x),KH (.int k),KH (.str z),KH (.int ((lo'+Ck (ofN nm z) k:Nat)-1:Int)),KH (Ds (alk nm z ((way ds (a+1)).tail.take t))),KH r],{dAt ds a+1,rfl,hm1,d8 _,by rw[<-e0];rfl},?_};rintro t G H5 ⟨rfl,t1,t2,rfl⟩;have htt:(way ds (a+1)).tail.take m=((way ds (a+1)).tail.take t).take m:=by rw[oi,il t1]
 have q5:=q H5 r4;rw[hmk,htt] at q5;k_is;rcases zW nm z ((way ds (a+1)).tail.take t) with e|⟨i,v,h1,h2,h3,h4⟩
 .rw[e,show Ds []=V.non from rfl]
  have e2:alk nm z (((way ds (a+1)).tail.take t).take m)=[]:=md.mpr λy hy=>md.mp e y (n5 hy);rw[e2] at q5;k_is;exact q5
 have hit:=Bq h1;rw[fh] at hit;rw[gj (),<-hget] at h1;obtain⟨u,rfl,hu1,_⟩:=F9 hD (a+1) i v () h1;obtain⟨hu2,_,hu3⟩:=xL hD (c:=a+1) () h1;rw[h3];k_is
 by_cases hmi:m<=i
 .refine' U6 (c:=m=0) (S:=?S) ?a ?b ?r
  case a=>
   intro kp h0;rw[decide_eq_true (hr0 h0)];k_is;exact kp.q
  case b=>
   intro kp h0;obtain⟨m',rfl⟩:∃m',m=m'+1:={m-1,()};obtain⟨c',c1,c2,c3,c4,c5⟩:=dZ hD hak hkd hNr;have hlt:=Lj hD (a+1) (m'+1) (i+1) _ _ () () c2 h1;have er:=hr1 c' () c1;rw[show decide (r=V.non)=KL by rw[er];rfl];apply{_,_,rfl,er,?_};refine{_,rfl,?_};refine Bn (λ_=>?_) (λh=>absurd hlt h);exact kp.q
  refine{λQM H'=>∃m',m'<t/\H'=H5/\m<=m'/\m'<=dAt ds a+1/\QM=[KH (.ref x),KH (.int k),KH (.str z),KH (.int ((lo'+Ck (ofN nm z) k:Nat)-1:Int)),KH (Ds (alk nm z ((way ds (a+1)).tail.take m'))),KH r],λ_ _ h=>h,?_};apply{x,ae,dx,_,_,rfl,r4.k hN.hx,ah.cl,ah.dD,rfl,?_};k_is;have hnk:Pi nm ds u=Ds (alk nm z ((way ds (a+1)).tail.take i)):=by
   unfold Pi;rw[h2,<-hu3];rfl
  refine Cb (SqT.of (r4.k hN.hk)) (v:=Pi nm ds u) (A9 (by rw[d9,gd ()];rfl)) ?_;k_is;exact{i,(),rfl,hmi,(),by rw[hnk];rfl}
 .obtain⟨m',rfl⟩:∃m',m=m'+1:={m-1,()}
  obtain⟨c',c1,c2,c3,c4,c5⟩:=dZ hD hak hkd hNr;have hle:(u:Int)<=c':=by
   by_cases z':i=m'
   .subst z'
    rw[c2] at h1;have:=ee h1;lia
   .exact BH (Lj hD (a+1) (i+1) (m'+1) _ _ () () h1 c2)
  rw[hr1 c' () c1];rw[show decide (V.int (c':Int)=V.non)=KL from rfl];apply Bn (λh=>absurd h ()) (λ_=>?_);rw[h4 (m'+1) (),h3] at q5;k_is;exact q5
inductive vO (K:d6)(vs:List V)(H:Hp)(Q:VK)(E:XK):Prop|mk(a:eh)(ns:List Int)(k:Nat)(_:vs=[.ref a,.int k])(_:SqL K H a (ns.map V.int))(_:∀c:Int,Q (.int c) H)
include T in
theorem Xb (F:Fun K "_law_cell_at" "_law_cell_at" Io f fd):Ar P w K mg base CX0 1 f fd ["_law_script","_law_k"] (vO K):=by
 exists F.ok T9
 obtain⟨a,ns,k,rfl,hS,q⟩:=h;refine⟨_,(Ab (Bp (ttc O9 (pv 1) (Ao Au (by rfl) T.cK Ch (tpa (pv 0) Aa))) (Ad (Am (tix Bk (pv 0) (pv 1))))
  Aw) (Ad (Am Ae))),?_⟩
 apply{a,_,rfl,.inl hS,?_};k_is;rw[d7];refine Bn (λhb=>?_) (λhb=>?_)
 .k_is
  have hk:k<ns.9:=()
  refine Cg hS (v:=.int ns[k]) ?_ (q _);refine A9 ?_;rw[d9,d4 hk];rfl
 .k_is
  exact q 0
include T in
theorem gE (F:Fun K "_law_whole" "_law_whole" Ky f fd):Ar P w K mg base CX0 1 f fd ["_law_found"] Oj:=by
 exists F.ok gG
 obtain⟨i,rfl,q⟩:=h;refine{_,(Ad (Am (Uz (Ao Cu (by rfl) T.cT Ci (tpa (pv 0) (tpa (Hd (v:=.ty "int") rfl T.dj pC rfl) Aa))) (Xf (yZ (Ao Cu (by rfl) T.cT Ci (tpa (pv 0) (tpa (Hd (v:=.ty "bool") rfl T.dF Aaj rfl) Aa)))))))),?_};apply{_,_,_,_,rfl,.int _,Si,?_};apply{_,_,_,_,rfl,.int _,Pg,?_};k_is;exact q
inductive oW(vs:List V)(H:Hp)(Q:VK)(E:XK):Prop|mk(c k:Int)(_:vs=[.int c,.int k])(_:0<=k)(_:k<=1000)(_:∀r:Int,0<=r->r<2147483587->Q (.int r) H)
include T in
theorem fO (F:Fun K "_law_mixed" "_law_mixed" Lw f fd):Ar P w K mg base CX0 1 f fd ["_law_cell","_law_k"] oW:=by
 exists F.ok N9
 obtain⟨c,k,rfl,h0,h1,q⟩:=h;refine{_,(Ab (tst 2 N9.nd (Ak Cm (Ak Eb (Ak Bd (Ak Cm (pv 0) Ae) Ae) (Ak Bd Ae (Ak Eb (Ak Eb Ae (pv 1)) (pv 1)))) Ae)) (Ad (Am (Ak Cm (Ak Eb (Ak Bd (pv 2) (Ak Eb Ae (pv 1))) (Ak Bd Ae (Ak Eb Ae (pv 1)))) Ae)))),?_}
 apply Vc () () ?_;k_is;have b1:=mi c (show(2147483647:Int)≠0 by decide);have b2:=ku c (show(0:Int)<2147483647 by decide);refine zO () () ?_;apply Vc () () ?_;k_is;exact q _ (mi _ (by decide)) (ku _ (by decide))
inductive iD (K:d6)(vs:List V)(H:Hp)(Q:VK)(E:XK):Prop|mk(a:eh)(ns:List Int)(k:Nat)(m:Int)(_:vs=[.ref a,.int k,.int m])(_:SqL K H a (ns.map V.int))(_:0<=m)(_:m<=100)(_:∀p (ds:List Int) H',Ag H H'->H p=KI->H' p=KH (.lst (ds.map V.int))->ds.9=m.toNat->Q (.ref p) H')
variable (aC:T.ZC "_law_cell_at" 1 ["_law_script","_law_k"] (vO K)) (aJ:T.ZC "_law_mixed" 1 ["_law_cell","_law_k"] oW)
include T aC aJ in
theorem Xv (F:Fun K "_law_digits" "_law_digits" Kk f fd) :
  Ar P w K mg base CX0 2 f fd ["_law_script","_law_at","_law_many"] (iD K):=by
 exists F.ok Eo
 obtain⟨a,ns,k,m,rfl,hS,h0,h1,q⟩:=h;refine{_,(Ab (tst 3 Eo.nd (Ak Eb (Ao yE (by rfl) T.n_abs Aih (tpa (At aC hr.m (tpa (pv 0) (tpa (Ak Bd (pv 1) Ae) Aa))) Aa)) (Ak B6 Ae (Ak Cm (At aC hr.m (tpa (pv 0) (tpa (pv 1) Aa))) Ae)))) (Ab (tst 4 Eo.nd (Bo Aa)) (Ab (C5 ig rfl (Fo rfl T.cN (tpa (pv 2) Aa)) (tgn 5 Eo.nd) (Ad (Bp (ttc F5 (pv 3) Ae) (Ab (As (Cj gi ie ic Bh (pv 4) (tpa (Ak Cm (pv 3) Ae) Aa))) (Ad (tst 3 Eo.nd (Ak Cr (pv 3) Ae)))) (Ad (As (Cj gi ie ic Bh (pv 4) (tpa (Ak Cm (At aJ hr.m (tpa (At aC hr.m (tpa (pv 0) (tpa (Ak Bd (Ak Bd (pv 1) Ae) (Ak Cm (pv 5) Ae)) Aa))) (tpa (pv 5) Aa))) Ae) Aa))))))) (Ad (Am (pv 4)))))),?_}
 apply{a,ns,k+1,rfl,hS,λc1=>?_};apply{_,rfl,?_};apply{a,ns,k,rfl,hS,λc2=>?_};apply Vc () () ?_;apply{gn _,λp hp=>?_};apply{m,rfl,(),(),?_};have s0:Ag H (upd H p (.lst [])):=An hp;have push:∀{H1:Hp} {o:HO},Ag H H1->Ag H (upd H1 p o):=λs1 b u e=>by rw[Al (Aj e hp)];exact s1 _ _ e
 have z1:∀{l:List Int} {i:Nat},l.9=i->i<m.toNat->(l.map V.int).9<sizeLine:=λe hi=>by
  rw[d7,e];exact Dk ()
 refine Mf (λi G H1=>∃(ds:List Int) (x:Int) (v5:Option V),G=[KH (.ref a),KH (.int k),KH (.int m),KH (.int x),KH (.ref p),v5]/\ds.9=i/\H1 p=KH (.lst (ds.map V.int))/\Ag H H1) {[],_,_,rfl,rfl,Af,s0} ?_ ?_
 .rintro i G H1 hi ⟨ds,x,v5,rfl,hd,hH,sm⟩
  apply Bn (λhb=>?_) (λhb=>?_)
  .apply{.inl {rfl,_,SqL.of hH},?_};apply B0 hH (z1 hd hi) ?_;k_is;exact{ds++[x%64],_,_,rfl,by rw[eg,hd];rfl,by rw[Af,fi];rfl,push sm}
  .apply{.inl {rfl,_,SqL.of hH},?_};apply{a,ns,k+1+i%9,?_,sm.seq hS,λc3=>?_}
   .rw[show(k:Int)+1+(0+(i:Int))%9=((k+1+i%9:Nat):Int) by lia]
    rfl
   apply{c3,_,rfl,(),(),λr _ _=>?_};apply B0 hH (z1 hd hi) ?_;k_is;exact{ds++[r%64],_,_,rfl,by rw[eg,hd];rfl,by rw[Af,fi];rfl,push sm}
 .rintro G H1 ⟨ds,x,v5,rfl,hd,hH,sm⟩
  k_is;exact q p ds H1 sm hp hH hd
inductive wQ(vs:List V)(H:Hp)(Q:VK)(E:XK):Prop|mk(a:eh)(gs:List Int)(_:vs=[.ref a])(_:H a=KH (.lst (gs.map V.int)))(_:gs.9<=1000)(_:∀p (ds:Za4) H',Ag H H'->H p=KI->H' p=KH (.lst ((Ev ds).map V.int))->Dok ds->ds.9=gs.9->Q (.ref p) H')
theorem Ae2 (xs:List V)(m:Nat):Ha xs KI (KH (m:Int))=xs.take m:=by
 unfold Ha;rw[_T.sIx_nat];show(xs.drop 0).take (min m xs.9-0)=xs.take m;rw[qz,qa]
 by_cases h:m<=xs.9
 .rw[il h]
 .rw[rq (),fz (d8 _),fz ()]
include T in
theorem kO (F:Fun K "_law_wood" "_law_wood" Nl f fd):Ar P w K mg base CX0 1 f fd ["_law_digits_here"] wQ:=by
 exists F.ok Fi
 obtain⟨a,gs,rfl,ha,hn,q⟩:=h;refine{_,(Ab (tst 1 Fi.nd (Bo Aa)) (Ab (tst 2 Fi.nd (Bo Aa)) (Ab (C5 ig rfl (Fo rfl T.cN (tpa (Ao Au (by rfl) T.cK Ch (tpa (pv 0) Aa)) Aa)) (tgn 3 Fi.nd) (Ab (tst 2 Fi.nd (Cf Ox (pv 2) Hb (B3 (Ak B6 (Ao Au (by rfl) T.cK Ch (tpa (pv 2) Aa)) (Ak Cm (tix Bk (pv 0) (pv 3)) (Ak Bd (Ao Au (by rfl) T.cK Ch (tpa (pv 2) Aa)) Ae)))))) (Ab (As (Cj gi ie ic Bh (pv 1) (tpa (tix Bk (Ak Iq (Bo (tpa (Fz C8 Ae) Aa)) (pv 2)) (Fz C8 Ae)) Aa))) (Ad (tst 2 Fi.nd (Ak Iq (pv 2) (Bo (tpa (pv 3) Aa)))))))) (Ad (Am (pv 1)))))),?_}
 apply{gn _,λp hp=>?_};apply{gn _,λp0 hp0=>?_};have t0:=An (o:=.lst []) hp;have t1:=An (o:=.lst []) hp0;apply{a,_,rfl,.inl (SqL.of (t1 _ _ (t0 _ _ ha))),?_};k_is;rw[d7];refine{_,rfl,(),(),?_};rw[gu];refine Mf (λk G H1=>(∃(q:eh) (ds:Za4) (v:Option V),G=[KH (.ref a),KH (.ref p),KH (.ref q),v]/\Dok ds/\ds.9=k/\H1 p=KH (.lst ((Ev ds).map V.int))/\H1 q=KH (.lst ((way ds k).tail.map V.int))/\p≠q)/\Ag H H1)
  {{p0,[],_,rfl,(λk hk=>by cases hk),rfl,t1 _ _ Af,Af,Aj Af hp0},t0.trans t1} ?_ ?_
 .rintro k G H1 hk ⟨⟨q1,ds,v,rfl,hD,hl,hp1,hq1,hne⟩,s1⟩
  have hw:=Cd hD k ();have hh:=F0 hD (k:=k) ();have hok:=N4 hD k ();have hwt:(way ds k).tail.length=opn ds k:=by rw[yj];lia
  apply{q1,_,rfl,.inl (SqL.of hq1),?_};k_is;rw[d7,hwt];obtain⟨g,hg⟩:∃g,gs[k]?=KH g:={gs[k],d4 hk};refine Cg (SqL.of (s1 _ _ ha)) (v:=.int g) ?_ ?_
  .rw[show(0+(k:Int))=(k:Int) by lia]
   exact A9 (Sd hg)
  apply{q1,_,rfl,.inl (SqL.of hq1),?_};k_is;rw[d7,hwt];refine Zz () ?_;k_is;obtain⟨d,hd,hd1⟩:∃d:Nat,(opn ds k:Int)-g%((opn ds k:Int)+1)=(d:Int)/\d<=opn ds k:=by
   have e0:=mi g (show(opn ds k:Int)+1≠0 by lia);have e1:=ku g (show 0<(opn ds k:Int)+1 by lia);exact{((opn ds k:Int)-g%((opn ds k:Int)+1)).toNat,(),()}
  rw[hd];refine{q1,_,rfl,SqL.of hq1,λq2 h2=>?_};rw[Ae2] at *;rw[<-o9] at *;have u2:=An (o:=.lst (((way ds k).tail.take d).map V.int)) h2;apply{.inl {rfl,_,SqL.of (u2 _ _ hp1)},?_};apply{few (by simp),λq3 h3=>?_};have u3:=An (o:=.lst [V.int (-1)]) h3;apply{q3,q2,_,_,rfl,rfl,Af,u3 _ _ Af,?_,λq4 h4=>?_}
  .rw[d7,fh]
   exact few (by simp only[gm,jt];lia)
  have ew:[V.int (-1)]++((way ds k).tail.take d).map V.int=((way ds k).take (d+1)).map V.int:=by
   rw[hh];rfl
  rw[ew] at *;have u4:=An (o:=.lst (((way ds k).take (d+1)).map V.int)) h4;have hx:(way ds k)[d+1-1]?=KH ((way ds k).getD d 0):=by
   rw[nl];unfold ju;rw[d4 ()];rfl
  apply Cg (SqL.of Af) (Mt () hx) ?_;k_is;have u24:=(u2.trans u3).trans u4;refine B0 (u24 _ _ hp1) ?_ ?_
  .rw[d7,Gs]
   exact Ai ()
  have hpq2:q2≠p:=(Aj hp1 h2).symm;have hq2':upd (upd (upd (upd H1 q2 (.lst (((way ds k).tail.take d).map V.int))) q3 (.lst [V.int (-1)])) q4 (.lst (((way ds k).take (d+1)).map V.int))) p (.lst ((Ev ds).map V.int++[V.int ((way ds k).getD d 0)])) q2=KH (.lst (((way ds k).tail.take d).map V.int)):=by
   rw[Al hpq2];exact u4 _ _ (u3 _ _ Af)
  have s5:=Bc (o:=.lst ((Ev ds).map V.int++[V.int ((way ds k).getD d 0)])) (s1.trans u24) hp;have hp5:upd (upd (upd (upd H1 q2 (.lst (((way ds k).tail.take d).map V.int))) q3 (.lst [V.int (-1)])) q4 (.lst (((way ds k).take (d+1)).map V.int))) p (.lst ((Ev ds).map V.int++[V.int ((way ds k).getD d 0)])) p=KH (.lst ((Ev ds).map V.int++[V.int ((way ds k).getD d 0)])):=Af;generalize upd (upd (upd (upd H1 q2 (.lst (((way ds k).tail.take d).map V.int))) q3 (.lst [V.int (-1)])) q4 (.lst (((way ds k).take (d+1)).map V.int))) p (.lst ((Ev ds).map V.int++[V.int ((way ds k).getD d 0)]))=H5 at *;apply{few (by simp),λq6 h6=>?_};have u6:=An (o:=.lst [V.int (0+(k:Int))]) h6;refine{q2,q6,_,_,rfl,rfl,u6 _ _ hq2',Af,?_,λq7 h7=>?_}
  .rw[d7,fh]
   exact few (by simp only[gm,jt];lia)
  have u7:=An (o:=.lst (((way ds k).tail.take d).map V.int++[V.int (0+(k:Int))])) h7;k_is;have hp7:=u7 _ _ (u6 _ _ hp5);refine{{q7,ds++[d],_,rfl,hZ hD (by rw[hl];exact hd1),by rw[eg,hl];rfl,?_,?_,Aj (u6 _ _ hp5) h7},(s5.trans u6).trans u7}
  .rw[hp7,Zd,fi,hl]
   rfl
  .have e:=iZ ds d
   rw[hl] at e;rw[Af,e,show(0+(k:Int))=(k:Int) by lia];have e2:((way ds k).take (d+1)++[(k:Int)]).tail=(way ds k).tail.take d++[(k:Int)]:=by
    rw[hh];rfl
   rw[e2,fi];rfl
 .rintro G H1 ⟨⟨q1,ds,v,rfl,hD,hl,hp1,hq1,hne⟩,s1⟩
  k_is;exact q p ds H1 s1 hp hp1 hD hl
theorem gN (l:Za6)(x:Str):sV l++[V.str x]=sV (l++[x]):=by
 unfold sV;rw[fi];rfl
def O5 (z:Str):Bool:=z.cps.toList.all U3
theorem fL (h1:1<=z.9)(h2:z.9<=8)(h3:O5 z=KJ):Hv z=KJ:=by
 unfold Hv;rw[decide_eq_true ⟨h1,h2⟩,AD];exact h3
theorem Ty (h:Hv z=KJ):O5 z=KJ:=(wl.mp h).2
theorem Vo {a b:Str}(h1:O5 a=KJ)(h2:O5 b=KJ):O5 (a++b)=KJ:=by
 show((a.cps++b.cps).toList.all U3)=KJ;rw[su,List.all_append];exact wl.mpr ⟨h1,h2⟩
theorem eW (a b:Str):(a++b).9=a.9+b.9:=Array.size_append
theorem Aa2 (z:Str)(lo hi:Option Int):∃i k,(Kv z lo hi).cps.toList=(z.cps.toList.drop i).take k:={_,_,lf ..}
theorem K1 (h:O5 z=KJ)(lo hi:Option Int):O5 (Kv z lo hi)=KJ:=by
 obtain⟨i,k,e⟩:=Aa2 z lo hi;unfold O5;rw[e,lx];exact λc hc=>lx.mp h c (BU (n5 hc))
theorem J1 (z:Str)(m:Nat):(Kv z KI (KH (m:Int))).9=min m z.9:=by
 show(wq _ (wt _ _)).toArray.size=_;rw[ge,_T.sIx_nat];show(wq (min m z.cps.8-0) (wt 0 z.cps.7)).9=_;rw[qz,qa,fh,gh];show min (min m z.9) z.9=_;lia
theorem fQ (z:Str)(m:Nat):(Kv z (KH (m:Int)) KI).9=z.9-m:=by
 show(wq _ (wt _ _)).toArray.size=_;rw[ge,_T.sIx_nat];show(wq (z.cps.8-min m z.cps.8) (wt (min m z.cps.8) z.cps.7)).9=_;rw[fh,gz,gh];show min (z.9-min m z.9) (z.9-min m z.9)=_;lia
def pG:Str:="abcdefghijklmnopqrstuvwxyz"
theorem Ra (i:Int):atI pG.cps.7 (i%26)=KH (97+(i%26).toNat)/\O5 (sgn (97+(i%26).toNat))=KJ:=by
 have h0:=mi i (show(26:Int)≠0 by decide);have h1:=ku i (show(0:Int)<26 by decide);have hl:pG.cps.7=(fb 26).map (97 + ·):=by decide +kernel
 refine{Acp h0 ?_,?_}
 .rw[hl,d9,gd ()]
  rfl
 .show([97+(i%26).toNat].all U3)=KJ
  rw[um,GF,FT];exact decide_eq_true ()
theorem wS (cs:Za4)(h:∀c∈cs,U3 c=KJ):O5 (ub ("":Str) (cs.map sgn))=KJ/\(ub ("":Str) (cs.map sgn)).9=cs.9:=by
 have e:(ub ("":Str) (cs.map sgn)).cps.toList=cs:=by
  rw[No,jg]
  induction cs with
  |nil=>rfl
  |cons c r ih=>
   rw[iu,jn,ih λc hc=>h c (gt _ hc)];rfl
 refine{by unfold O5;rw[e,lx];exact h,?_};show Array.size _=_;rw[<-gh,e]
inductive qB(vs:List V)(H:Hp)(Q:VK)(E:XK):Prop|mk(a:eh)(gs:List Int)(sd:Int)(_:vs=[.ref a,.int sd])(_:H a=KH (.lst (gs.map V.int)))(_:gs.9<=1000)(_:∀p (nm:Za6) H',Ag H H'->H p=KI->H' p=KH (.lst (sV nm))->nm.9=gs.9->(∀z∈nm,Hv z=KJ)->Q (.ref p) H')
include T in
theorem dR (F:Fun K "_law_names" "_law_names" Fk f fd):Ar P w K mg base CX0 1 f fd ["_law_digits_here","_law_seed"] qB:=by
 exists F.ok De
 obtain⟨a,gs,sd,rfl,ha,hn,q⟩:=h;refine⟨_,(Ab (eN (i:=2) De.nd rfl (BO rfl) Cw) (Ab (eN (i:=3) De.nd rfl (BO rfl) (Bo Aa)) (Ab (tst 5 De.nd (Cj kq oz oy Od Cw (tpa (L5 rfl T1 (Fo rfl T.cN (tpa (Ak Cm (pv 1) Ae) Aa)) (λ_ _ _ _=>Cc) (λ_ _ _ _=>(tix yP (pv 1) (Ak Cm (Ak Bd (Ak Cr (pv 2) Ae) (Ak Eb (Ak Eb Ae (pv 0)) (pv 0))) Ae)))) Aa))) (Ab (tst 6 De.nd (Ak Cm (Ak Cr (pv 1) Ae) (Ak Bd (Ao B7 (by rfl) T.cK Ch (tpa (pv 5) Aa)) Ae))) (Ab (C5 ig rfl (Fo rfl T.cN (tpa Ae Aa)) (tgn 4 De.nd) (Ad (As (Cj gi ie ic Bh (pv 3) (tpa (Ak Kb (Ak Kb (Cf K0 (pv 5) Hb (B3 (pv 6))) (tix yP (pv 2) (Ak Cm (Ak Bd (Ak Cr (pv 1) Ae) (Ak Eb Ae (pv 4))) Ae))) (Cf K0 (pv 5) (B3 (pv 6)) Hb)) Aa))))) (Ab (zQ (ttc Dt (Ak Cm (pv 1) Ae) Ae) (Ad (eN (i:=3) De.nd rfl (BO rfl) (oO rfl Uk (Mm rfl T.cV (tpa (pv 3) Aa)) (λ_ _ _ _=>Cc) (λ_ _ _ _=>(Cf K0 (pv 1) Hb (B3 (Ak Bd Ae (Ak Cm (pv 0) Ae))))))))
  Aw) (Ad (Am (L5 rfl Uo (Du (pv 0)) (λ_ _ _ _=>Cc) (λ_ _ _ _=>(tix (Jy K) (pv 2) (Ak Cm (pv 0) (tix (Jy K) (Bo (tpa Ae (tpa Ae (tpa Ae (tpa Ae Aa))))) (Ak Cm (Ak Cr (pv 1) Ae) Ae)))))))))))))),?_⟩
 apply{gn _,λp hp=>?_};obtain⟨u1,hp1⟩:=A4 (o:=.lst []) hp;generalize upd H p _=H1 at *;apply{rfl,?_};k_is;have e0:=mi sd (show(8:Int)≠0 by decide);have e1:=ku sd (show(0:Int)<8 by decide);obtain⟨m,hm⟩:∃m:Nat,sd%8=(m:Int):={(sd%8).toNat,()};rw[hm];refine{_,rfl,(),(),?_};rw[gu];refine Jm (λi=>((fb i).map λk:Nat=>97+((sd/7+5*(k:Int)*(k:Int))%26).toNat).map λc=>V.str (sgn c)) rfl (λi hi=>?_) (λi H2 R A hi s2 kR kA=>?_) (λD H2 hD s2 hD2=>?_)
 .rw[d7,d7,fg]
  exact Ai ()
 .rw[show(0+(i:Int))=(i:Int) by lia]
  apply Vc () () ?_;k_is;obtain⟨hl1,hl2⟩:=Ra (sd/7+5*(i:Int)*(i:Int));refine{_,_,_,rfl,rfl,by decide,hl1,?_};refine kA _ _ ?_ (Ag.refl _);rw[jf,fi,fi];rfl
 have hcs:∀c∈(fb m).map λk:Nat=>97+((sd/7+5*(k:Int)*(k:Int))%26).toNat,U3 c=KJ:=λc hc=>by
  obtain⟨k,_,rfl⟩:=lq.mp hc;have:=(Ra (sd/7+5*(k:Int)*(k:Int))).2;have h3:([97+((sd/7+5*(k:Int)*(k:Int))%26).toNat].all U3)=KJ:=this;rw[um,GF,FT] at h3;exact h3
 have hcl:((fb m).map λk:Nat=>97+((sd/7+5*(k:Int)*(k:Int))%26).toNat).9=m:=by rw[d7,fg]
 generalize ((fb m).map λk:Nat=>97+((sd/7+5*(k:Int)*(k:Int))%26).toNat)=cs at *;obtain⟨j1,j2⟩:=wS cs hcs;have hp2:=s2 _ _ hp1;have s12:=u1.trans s2;apply{_,D,cs.map sgn,rfl,rfl,by rw[jg];exact SqL.of hD2,?_,?_}
 .rw[jg]
  have:∀l:Za4,(l.map λc=>(sgn c).9).sum=l.9:=λl=>by
   induction l with
   |nil=>rfl
   |cons c r ih=>rw[iu,xf,ih,gm];show 1+_=_;lia
  have h1:=this cs;have h2:(x4 ((λx:Str=>x.9) ∘ sgn) cs).sum=cs.9:=h1;rw[h2,show("":Str).9=0 from rfl];lia
 rw[hcl] at j2;generalize ub ("":Str) (cs.map sgn)=bs at *;apply{bs,rfl,f9 (Ai ()),?_};rw[j2];apply Zz () ?_;k_is;have f0:=mi (sd/8) (show(m:Int)+1≠0 by lia);have f1:=ku (sd/8) (show 0<(m:Int)+1 by lia);obtain⟨at',hat⟩:∃n:Nat,sd/8%((m:Int)+1)=(n:Int):={(sd/8%((m:Int)+1)).toNat,()};rw[hat];refine{_,rfl,by decide,by decide,?_};rw[show((9:Int)).toNat=9 from rfl];refine Mf (λk G H3=>(∃v4:Option V,G=[KH (.ref a),KH (.int sd),KH (.str "abcdefghijklmnopqrstuvwxyz"),KH (.ref p),v4,KH (.str bs),KH (.int at')])/\Ag H H3/\∃ws:Za6,ws.9=k/\(∀z∈ws,Hv z=KJ)/\H3 p=KH (.lst (sV ws)))
  {{_,rfl},s12,[],rfl,(λz hz=>by cases hz),hp2} ?_ ?_
 .rintro k G H3 hk ⟨⟨v4,rfl⟩,s3,ws,hwl,hwn,hp3⟩
  obtain⟨l1,l2⟩:=Ra (sd/64+3*(k:Int));rw[show(0+(k:Int))=(k:Int) by lia];apply{.inl {rfl,_,SqL.of hp3},?_};apply Ug (f9 (Ai ())) ?_;apply{_,_,_,rfl,rfl,by decide,l1,?_};have c1:=J1 bs at';have c2:=fQ bs at';have w1:=K1 j1 KI (KH (at':Int));have w2:=K1 j1 (KH (at':Int)) KI;generalize Kv bs KI (KH (at':Int))=x1 at *;have hg:({#[97+((sd/64+3*(k:Int))%26).toNat]}:Str).9=1:=rfl;have l2:O5 ({#[97+((sd/64+3*(k:Int))%26).toNat]}:Str)=KJ:=l2;generalize ({#[97+((sd/64+3*(k:Int))%26).toNat]}:Str)=x2 at *;refine{_,_,rfl,rfl,f9 (Ai ()),?_};apply Ug (f9 (Ai ())) ?_;generalize Kv bs (KH (at':Int)) KI=x3 at *;have hs12:=eW x1 x2;have hs3:=eW (x1++x2) x3;refine{_,_,rfl,rfl,f9 (Ai ()),?_};apply B0 hp3 (by rw[Fg];exact Ai ()) ?_;apply{{_,rfl},Bc s3 hp,ws++[x1++x2++x3],by rw[eg,hwl];rfl,λz hz=>?_,by rw[Af,gN]};rcases ik.mp hz with hz|hz
  .exact hwn z hz
  .rw[f7.mp hz]
   exact fL () () (Vo (Vo w1 l2) w2)
 rintro G H3 ⟨⟨v4,rfl⟩,s3,ws,hwl,hwn,hp3⟩;apply Ac1 (λG H4=>∃(p2:eh) (ws:Za6),G=[KH (.ref a),KH (.int sd),KH (.str "abcdefghijklmnopqrstuvwxyz"),KH (.ref p2),v4,KH (.str bs),KH (.int at')]/\Ag H H4/\ws.9=9/\(∀z∈ws,Hv z=KJ)/\H4 p2=KH (.lst (sV ws))) ?_ ?_
 .apply Bn (λ_=>?_) (λ_=>?_)
  .apply{p,rfl,{_,SqL.of hp3},?_};refine vX (SqL.of hp3) (λD i zs H=>∃us:Za6,zs=sV us/\us.9=i/\∀z∈us,Hv z=KJ) (λD H _ _=>{[],rfl,rfl,λz hz=>by cases hz}) (λD i zs H us o _ h=>h) (λD i zs H hi ⟨us,e,el,_⟩=>?_) (λD i zs H H' _ h=>h) (λD i zs x H4 A R hx s4 _ _ ⟨us,e,el,hu⟩ _ hA=>?_) (λD zs H4 hD s4 ⟨us,e,el,hu⟩ h4=>?_)
   .rw[Fg] at hi
    rw[e,Fg];exact Ai ()
   .obtain⟨z,hz,rfl⟩:=fB hx
    have hzn:=hwn z (f8 hz);have hzl:=L8 hzn;apply Ug (f9 (Ai ())) ?_;obtain⟨mm,hmm⟩:∃mm:Nat,1+(i:Int)%8=(mm:Int):={(1+(i:Int)%8).toNat,()};rw[hmm];have c1:=J1 z mm;refine hA _ _ (Ag.refl _) {us++[Kv z KI (KH (mm:Int))],by rw[e,gN],by rw[eg,el];rfl,λy hy=>?_};rcases ik.mp hy with hy|hy
    .exact hu y hy
    .rw[f7.mp hy]
     exact fL () () (K1 (Ty hzn) _ _)
   .k_is
    rw[Fg] at el;exact{D,us,rfl,s3.trans s4,(),hu,by rw[h4,e]}
  .k_is
   exact⟨p,ws,rfl,s3,hwl,hwn,hp3⟩
 rintro G H4 ⟨p2,ws,rfl,s4,hwl,hwn,hp4⟩;apply{a,rfl,{_,SqL.of (s4 _ _ ha)},?_};refine Uu (SqL.of (s4 _ _ ha)) (λi zs H=>∃us:Za6,zs=sV us/\us.9=i/\∀z∈us,Hv z=KJ) (λH _=>{[],rfl,rfl,λz hz=>by cases hz}) (λi zs H D us o _ h=>h) (λi zs H hi ⟨us,e,el,_⟩=>?_) (λi zs x H5 A R hx s5 ⟨us,e,el,hu⟩ hA=>?_) (λD zs H5 hD s5 ⟨us,e,el,hu⟩ h5=>?_)
 .rw[d7] at hi
  rw[e,Fg];exact Ai ()
 .obtain⟨g,hg,rfl⟩:=P7 hx
  have hp5:=s5 _ _ hp4;apply{few (by simp),λl hl=>?_};obtain⟨u6,hl6⟩:=A4 (o:=.lst [V.int 9,V.int 3,V.int 2,V.int 1]) hl;have hp6:=u6 _ _ hp5;generalize upd H5 l _=H6 at *;have g0:=mi (sd/3) (show(4:Int)≠0 by decide);have g1:=ku (sd/3) (show(0:Int)<4 by decide);obtain⟨j,hj⟩:∃j:Nat,sd/3%4=(j:Int):={(sd/3%4).toNat,()};obtain⟨n,hn1,hn2,hn3⟩:∃n:Int,[V.int 9,V.int 3,V.int 2,V.int 1][j]?=KH (.int n)/\1<=n/\n<=9:=by
   have:j=0\/j=1\/j=2\/j=3:=()
   rcases this with rfl|rfl|rfl|rfl
   .exact{9,rfl,by decide,by decide}
   .exact{3,rfl,by decide,by decide}
   .exact{2,rfl,by decide,by decide}
   .exact{1,rfl,by decide,by decide}
  k_is;rw[hj];refine Cg (SqL.of hl6) (v:=.int n) (A9 hn1) ?_;refine Zz () ?_;have k0:=mi g (show n≠0 by lia);have k1:=ku g (show 0<n by lia);obtain⟨i',hi'⟩:∃i':Nat,g%n=(i':Int):={(g%n).toNat,()};rw[hi'];obtain⟨z,hz⟩:∃z,ws[i']?=KH z:={_,d4 ()};refine Cg (SqL.of hp6) (v:=.str z) (A9 (by rw[d9,hz];rfl)) ?_;refine hA _ _ u6 {us++[z],by rw[e,gN],by rw[eg,el];rfl,λy hy=>?_};rcases ik.mp hy with hy|hy
  .exact hu y hy
  .rw[f7.mp hy]
   exact hwn z (f8 hz)
 .rw[d7] at el
  exact q D us H5 (s4.trans s5) (s4.free hD) (by rw[h5,e]) el hu
inductive xJ(vs:List V)(H:Hp)(Q:VK)(E:XK):Prop|mk(a:eh)(ds:Za4)(k o:Nat)(_:vs=[.ref a,.int k,.int o])(_:H a=KH (.lst ((Ev ds).map V.int)))(_:Dok ds)(_:k<ds.9)(_:o<ds.9)(_:Q (.bl (decide (k<=o/\o<Bu ds k))) H)
include T in
theorem eS (F:Fun K "_law_is_at" "_law_is_at" K4 f fd):Ar P w K mg base CX0 1 f fd ["_law_elders","_law_k","_law_other"] xJ:=by
 exists F.ok Ob
 obtain⟨a,ds,k,o,rfl,ha,hD,hk,ho,q⟩:=h;have hek:=(Dr hk).1;refine{_,(Ab (En ig (ttc F5 (pv 2) (pv 1)) (Ad (tst 2 Ob.nd (tix Bk (pv 0) (pv 2))))) (Ad (Am (tpc Dt (pv 2) (pv 1))))),?_}
 apply Gp (λG H1=>H1=H/\∃y:Int,G=[KH (.ref a),KH (.int k),KH (.int y)]/\y<ds.9/\(((k:Int)<=y/\y<Bu ds k)↔(k<=o/\o<Bu ds k))) (λG _=>match G with | [_,_,KH (.int y)]=>y.toNat|_=>0) ⟨rfl,_,rfl,(),()⟩ ?_;rintro n G H1 ⟨rfl,y,rfl,hy,hiff⟩ hn;apply Bn (λh=>?_) (λh=>?_)
 .obtain⟨i,rfl⟩:=ly (show 0<=y by lia)
  have hst:=Ab7 hD hk (i:=i) () ();have hlt:=xY hD (k:=i) ();refine Li ?_;apply Cg (SqL.of ha) (v:=.int (eld ds i)) (A9 (Sd (Ms ()))) ?_;apply{{rfl,_,rfl,(),by rw[hst];lia},?_};have hn:i=n:=hn;show(eld ds i).toNat<n;lia
 .k_is
  rw[show decide (k<=o/\o<Bu ds k)=decide (V.int y=V.int (k:Int)) from decide_eq_decide.mpr {λz=>congrArg V.int (),λz=>by have:=V.int.inj z;lia}] at q;exact q
theorem Af5 {ds:Za4}(h:Dok ds){k t v:Nat}(hk:k<=ds.9)(e:(way ds k)[t+1]?=KH (v:Int)):(way ds k)[t]?=KH (eld ds v):=by
 obtain⟨h1,h2,h3⟩:=xL h hk e;have he:=Ho h (show v<ds.9 by lia);rw[h1] at he;rw[<-he]
 cases t with
 |zero=>rw[F0 h (k:=k) hk,F0 h (k:=v) ()];rfl
 |succ t=>
  have e1:(anc ds v)[t]?=((way ds k).tail.take (t+1))[t]?:=by rw[h3]
  unfold anc at e1;rw[h1,gj (),gj ()] at e1;rw[F0 h (k:=k) hk,F0 h (k:=v) ()];exact e1.symm
inductive kT(vs:List V)(H:Hp)(Q:VK)(E:XK):Prop|mk(a b:eh)(ds:Za4)(nm:Za6)(k:Nat)(z:Str)(_:vs=[.ref a,.ref b,.int k,.str z])(_:H a=KH (.lst ((Ev ds).map V.int)))(_:H b=KH (.lst (sV nm)))(_:Dok ds)(_:nm.9=ds.9)(_:k<ds.9)(_:∀H',Ag H H'->Q (Ds (alk nm z (anc ds k))) H')
include T in
theorem dY (F:Fun K "_law_elder" "_law_elder" L7 f fd):Ar P w K mg base CX0 1 f fd ["_law_elders","_law_names_here","_law_k","_law_name"] kT:=by
 exists F.ok Kj
 obtain⟨a,b,ds,nm,k,z,rfl,ha,hb,hD,hnl,hk,q⟩:=h;refine{_,(Ab (tst 4 Kj.nd (tix Bk (pv 0) (pv 2))) (Ab (En ig (PW.pt (Z7 (ttc oZ (pv 4) Ae) (Tq (ttc Uv (tix Bk (pv 1) (pv 4)) (pv 3))))) (Ad (tst 4 Kj.nd (tix Bk (pv 0) (pv 4))))) (Ad (Am (tix Bk (Bo (tpa (pv 4) (tpa Ek Aa))) (Dj sJ (by rfl) T.dj pC (tpa (tpc O9 (pv 4) Ae) Aa))))))),?_}
 apply Cg (SqL.of ha) (v:=.int (eld ds k)) (A9 (Sd (Ms hk))) ?_;k_is;have hW:=F0 hD (k:=k) ();have hwl:=Cd hD k ();have hdk:=hD k hk;refine{λj G H1=>H1=H/\∃y:Int,G=[KH (.ref a),KH (.ref b),KH (.int k),KH (.str z),KH (.int y)]/\(way ds k)[j]?=KH y/\alk nm z (anc ds k)=alk nm z ((way ds k).tail.take j),{dAt ds k,rfl,_,rfl,Ho hD hk,rfl},?_};rintro j G H1 ⟨rfl,y,rfl,hy,hal⟩;k_is
 cases j with
 |zero=>
  rw[hW] at hy;obtain rfl:=ee hy;refine Bn (λh=>absurd h (by decide)) (λ_=>?_);apply{few (by simp),λp hp=>?_};obtain⟨u1,hp1⟩:=A4 (o:=.lst [V.int (-1),V.non]) hp;generalize upd H1 p _=H2 at *;apply .inr {_,rfl,?_};refine Cg (SqL.of hp1) (v:=V.non) rfl ?_;have:=q H2 u1;rw[hal] at this;exact this
 |succ t=>
  obtain⟨v,rfl,hv,_⟩:=F9 hD k t y () hy;have hyt:(way ds k).tail[t]?=KH (v:Int):=by rw[hW] at hy;exact hy
  obtain⟨x,hx⟩:∃x,nm[v]?=KH x:={_,d4 ()};refine Bn (λ_=>?_) (λh=>absurd () h);apply Cg (SqL.of hb) (v:=.str x) (A9 (by rw[d9,hx];rfl)) ?_;k_is;rw[i5,hyt] at hal;have hal:alk nm z (anc ds k)=alk nm z ((way ds k).tail.take t++[(v:Int)]):=hal;rw[Fv] at hal;refine iM (λh=>?_) (λh=>?_)
  .rw[if_neg (λe=>h (by rw[ee (hx.symm.trans ((Lr ()).mp e))])),gv] at hal
   refine{λQM H'=>∃m',m'<t+1/\H'=H1/\∃y:Int,QM=[KH (.ref a),KH (.ref b),KH (.int k),KH (.str z),KH (.int y)]/\(way ds k)[m']?=KH y/\alk nm z (anc ds k)=alk nm z ((way ds k).tail.take m'),λ_ _ h=>h,?_};apply Cg (SqL.of ha) (v:=.int (eld ds v)) (A9 (Sd (Ms ()))) ?_;k_is;exact{t,nh _,rfl,_,rfl,Af5 hD () hy,hal}
  .have hxz:x=z:=V.str.inj h
   subst hxz;rw[if_pos ((Lr ()).mpr hx)] at hal;apply{few (by simp),λp hp=>?_};obtain⟨u1,hp1⟩:=A4 (o:=.lst [V.int (v:Int),V.non]) hp;generalize upd H1 p _=H2 at *;apply .inr {_,rfl,?_};rw[decide_eq_false (show ¬(v:Int)<0 by lia)];refine Cg (SqL.of hp1) (v:=V.int (v:Int)) rfl ?_;have:=q H2 u1;rw[hal] at this;unfold Ds at this;rw[wj] at this;exact this
theorem SmT.butL {ts:List Tb}{p:eh}(s:SmT ts H H1)(hp:H p=KI)(hl:H1 p=KH (.lst xs))(b:SameBut p H1 H2):SmT ts H H2:=by
 have ne:∀{c:eh} {u:HO},H1 c=KH u->(∀ys,u≠.lst ys)->c≠p:=λe n z=>by rw[z,hl] at e;exact n _ (ee e).symm
 refine{{λc u n e=>b _ _ (Aj e hp) (s.sm.keep c u n e),λc ps e=>?_},λt ht=>?_,s.ok.2}
 .obtain⟨ps',e'⟩:=s.sm.tb c ps e
  exact{ps',b _ _ (Aj e hp) e'}
 .obtain⟨ps,e1,e2,e3⟩:=s.ok.1 t ht
  exact{ps,b _ _ (ne e1 (by intro ys z;cases z)) e1,e2,e3.imp id λ⟨c,oc,a1,a2,a3⟩=>{c,oc,a1,b _ _ (ne a2 (by intro ys z;cases z)) a2,a3}}
inductive pW(vs:List V)(H:Hp)(Q:VK)(E:XK):Prop|mk(a b:eh)(l:Za4)(_:vs=[.ref a,.ref b])(_:a≠b)(_:H a=KH (.lst (nV l)))(_:H b=KH (.lst (nV l)))(_:l.9<=1000)(_:∀H',SameBut a H H'->Q (.bl KJ) H')
variable (aK:T.ZC "_law_whole" 1 ["_law_found"] Oj)
include T aK in
theorem jJ (F:Fun K "_law_list" "_law_list" Kc f fd):Ar P w K mg base CX0 2 f fd ["_law_found","_law_due"] pW:=by
 exists F.ok R4
 obtain⟨a,b,l,rfl,hab,ha,hb,hn,q⟩:=h;refine⟨_,(Ab (Bp (PW.pt (Ii (Cl (Bv (Ao Cu (by rfl) T.cT Ci (tpa (pv 0) (tpa (Hd (v:=.ty "list") rfl T.c7 Pw rfl) Aa))))) (Hy (ttc (Afm (Agk hr)) (pv 0) (pv 1))))) (Ad (Am Jo))
  Aw) (Ab (Fq (i:=2) rfl Xq R4.nd rfl rfl (Du (pv 0)) (λ_ _ _ _=>Mp (Cl (Bv (At aK hr.m (tpa (pv 0) Aa))))) (λ_ _ _ _=>(pv 0))) (Ab (As (Cj gi ie ic Bh (pv 0) (tpa Ek Aa))) (Ad (Am (tpc (Ae8 (Agk hr)) (pv 2) (Bo Aa))))))),?_⟩
 apply{_,_,_,_,rfl,.lst ha,Nd,?_};k_is;rw[eP] at ha hb;refine Aib (SqL.of ha) (SqL.of hb) ?_;apply iM (λh=>absurd rfl h) (λ_=>?_);apply{a,rfl,{_,SqL.of ha},?_};refine Ou (SqL.of ha) (λ_=>[]) rfl (λi hi=>Ai (by simp)) (λi y H5 R A hy s5 kR kA=>?_) (λD5 H5 hD5 s5 h5=>?_)
 .obtain⟨n,hn,rfl⟩:=P7 hy
  apply{n,rfl,?_};k_is;exact kR rfl _ (Ag.refl _)
 have ha5:=s5 _ _ ha;have nDa:D5≠a:=(Aj ha hD5).symm;apply{.inl {rfl,_,SqL.of ha5},?_};apply B0 ha5 (by rw[d7,d7];exact Ai ()) ?_;have b6:SameBut a H (upd H5 a (.lst ((l.map λn:Nat=>(n:Int)).map V.int++[V.non]))):=λc u n e=>by rw[Al n];exact s5 _ _ e
 have h6:upd H5 a (.lst ((l.map λn:Nat=>(n:Int)).map V.int++[V.non])) D5=KH (.lst []):=(Al nDa).trans h5;generalize upd H5 a _=H6 at *;apply{gn _,λe he=>?_};obtain⟨u7,he7⟩:=A4 (o:=.lst []) he;generalize upd H6 e _=H7 at *;refine Ahm (ns:=[]) (ms:=[]) (SqL.of (u7 _ _ h6)) (SqL.of he7) ?_;exact q H7 λc u n e=>u7 _ _ (b6 c u n e)
inductive xC(vs:List V)(H:Hp)(Q:VK)(E:XK):Prop|mk(o:V)(_:vs=[o,o])(_:(o=.non\/∃n:Int,o=.int n))(_:Q (.bl KJ) H)
include T aK in
theorem mJ (F:Fun K "_law_one" "_law_one" Ry f fd):Ar P w K mg base CX0 2 f fd ["_law_found","_law_due"] xC:=by
 exists F.ok nK
 obtain⟨o,rfl,ho,q⟩:=h;refine⟨_,(Ab (Bp (P1 (fR (pv 1))) (Ad (Am (Aeu (fR (pv 0)))))
  Aw) (Ad (Am (Uz (At aK hr.m (tpa (pv 0) Aa)) (Xf (tpc Dt (pv 0) (pv 1))))))),?_⟩
 k_is;rcases ho with rfl|⟨n,rfl⟩
 .k_is
  exact q
 .apply{n,rfl,?_};k_is;rw[show decide (V.int n=V.int n)=KJ from decide_eq_true rfl];exact q
theorem wD {p:Nat->Bool}(i:Nat):(fb (i+1)).filter p=(fb i).filter p++if p i=KJ then[i] else[]:=by
 rw[jf,lu]
 by_cases h:p i=KJ
 .rw[if_pos h,je,if_pos h];rfl
 .rw[if_neg h,je,if_neg h];rfl
theorem Zs {p:Nat->Bool}{l:Za4}{i v:Nat}(h:l[i]?=KH v):(l.take (i+1)).filter p=(l.take i).filter p++if p v=KJ then[v] else[]:=by
 rw[i5,h,lu]
 by_cases c:p v=KJ
 .rw[if_pos c];show _++BX p [v]=_;rw[je,if_pos c];rfl
 .rw[if_neg c];show _++BX p [v]=_;rw[je,if_neg c];rfl
theorem Aa6 (nm:Za6)(x:Str):(ofN nm x).9<=nm.9:=by
 have:=ke (λk=>decide (nm[k]?=KH x)) (fb nm.9);rw[fg] at this;exact this
inductive vQ (K:d6)(CB CC CP CO CS CN:eh)(ts:List Tb)(vs:List V)(H:Hp)(Q:VK)(E:XK):Prop|mk(x a b:eh)(nm:Za6)(ds:Za4)(k:Nat)(z:Str)(_:vs=[.ref x,.ref a,.ref b,.int k,.str z])(_:Dd K CB CC CP CO CS CN H x nm ds)(_:Tbs ts H)(_:H a=KH (.lst ((Ev ds).map V.int)))(_:H b=KH (.lst (sV nm)))(_:Dok ds)(_:k<nm.9)(_:Hv z=KJ)(_:∀H',SmT ts H H'->Q (.bl KJ) H')
include T ah aK in
theorem iX (F:Fun K "_law_good" "_law_good" Gf f fd)(cA:T.ZC "_law_is_at" 1 ["_law_elders","_law_k","_law_other"] xJ)(bq:T.ZM ae "all_of" 3 ["self","name"] (pQ K ac ab aa ad ag ae))(bj:T.ZC "_law_list" 2 ["_law_found","_law_due"] pW)(bt:T.ZM ae "all_beneath" 14 ["self","k","name"] (yD K ac ab aa ad ag ae ts))(cB:T.ZM ae "many_beneath" 14 ["self","k","name"] (qR K ac ab aa ad ag ae ts))(cC:T.ZM ae "next_of" 5 ["self","k","name"] (lE K ac ab aa ad ag ae ts))(bu:T.ZC "_law_one" 2 ["_law_found","_law_due"] xC)(cD:T.ZM ae "elder_of" 13 ["self","k","name"] (Yp K ac ab aa ad ag ae ts))(cE:T.ZC "_law_elder" 1 ["_law_elders","_law_names_here","_law_k","_law_name"] kT) :
  Ar P w K mg base CX0 15 f fd ["_law_told","_law_elders","_law_names_here","_law_k","_law_name"] (vQ K ac ab aa ad ag ae ts):=by
 exists F.ok Go
 obtain⟨x,a,b,nm,ds,k,z,rfl,hI,hT,ha,hb,hD,hk,hz,q⟩:=h;obtain⟨hnl,h64,dx,wd,sx,sp,nk,bb,ll,es,hN⟩:=id hI;have hx:=hN.hx;clear hN;refine⟨_,(Ab (Fq (i:=5) rfl X3 Go.nd rfl rfl (Fo rfl T.cN (tpa (Ao Au (by rfl) T.cK Ch (tpa (pv 2) Aa)) Aa)) (λ_ _ _ _=>Mp (ttc Dt (tix (Jy K) (pv 2) (pv 0)) (pv 1))) (λ_ _ _ _=>(pv 0))) (Ab (Fq (i:=6) rfl Xl Go.nd rfl rfl (Du (pv 5)) (λ_ _ _ _=>Mp (Bv (At cA hr.m (tpa (pv 1) (tpa (pv 2) (tpa (pv 0) Aa)))))) (λ_ _ _ _=>(pv 0))) (Ab (Fq (i:=7) rfl X9 Go.nd rfl rfl (Du (pv 5)) (λ_ _ _ _=>Mp (ttc oZ (pv 0) (pv 1))) (λ_ _ _ _=>(pv 0))) (Ab (Bp (PW.pt (Ii (Cl (Bv (At bj hr.m (tpa (Aq bq hr.m (pv 0) (tpa (pv 4) Aa)) (tpa (pv 5) Aa))))) (Hy (Cl (Bv (At bj hr.m (tpa (Aq bq hr.m (pv 0) (tpa (pv 4) Aa)) (tpa (pv 5) Aa)))))))) (Ad (Am Jo))
  Aw) (Ab (Bp (PW.pt (Ii (Cl (Bv (At bj hr.m (tpa (Aq bt hr.m (pv 0) (tpa (pv 3) (tpa (pv 4) Aa))) (tpa (pv 6) Aa))))) (Hy (Cl (Bv (At bj hr.m (tpa (Aq bt hr.m (pv 0) (tpa (pv 3) (tpa (pv 4) Aa))) (tpa (pv 6) Aa)))))))) (Ad (Am Jo))
  Aw) (Ab (tst 8 Go.nd (Aq cB hr.m (pv 0) (tpa (pv 3) (tpa (pv 4) Aa)))) (Ab (Bp (PW.pt (Ii (Cl (Bv (At aK hr.m (tpa (pv 8) Aa)))) (Hy (ttc Uv (pv 8) (Ao Au (by rfl) T.cK Ch (tpa (pv 6) Aa)))))) (Ad (Am Jo))
  Aw) (Ab (Bp (Cl (Bv (At bu hr.m (tpa (Aq cC hr.m (pv 0) (tpa (pv 3) (tpa (pv 4) Aa))) (tpa (tix Bk (Ak Iq (pv 7) (Bo (tpa Ek Aa))) Ae) Aa))))) (Ad (Am Jo))
  Aw) (Ad (Am (At bu hr.m (tpa (Aq cD hr.m (pv 0) (tpa (pv 3) (tpa (pv 4) Aa))) (tpa (At cE hr.m (tpa (pv 1) (tpa (pv 2) (tpa (pv 3) (tpa (pv 4) Aa))))) Aa))))))))))))),?_⟩
 apply{b,_,rfl,.inl (SqL.of hb),?_};rw[Fg];apply{_,rfl,(),(),?_};rw[gu];refine Jm (λi=>nV ((fb i).filter λk=>decide (nm[k]?=KH z))) rfl (λi hi=>?_) (λi H1 R A hi s1 kR kA=>?_) (λD H1 hD1 s1 h1=>?_)
 .rw[Bx]
  have:=ke (λk=>decide (nm[k]?=KH z)) (fb i);rw[fg] at this;exact Ai ()
 .have hf:=wD (p:=λk=>decide (nm[k]?=KH z)) i
  obtain⟨y,hy⟩:∃y,nm[i]?=KH y:={_,d4 hi};rw[show(0+(i:Int))=(i:Int) by lia];apply Cg (SqL.of (s1 _ _ hb)) (v:=.str y) (A9 (by rw[d9,hy];rfl)) ?_;apply Bn (λh=>?_) (λh=>?_)
  .rw[if_pos (decide_eq_true (by rw[hy,V.str.inj h]))] at hf
   apply kA _ _ ?_ (Ag.refl _);rw[hf,Mv]
  .rw[if_neg (λc=>h (by rw[ee (hy.symm.trans (of_decide_eq_true c))])),gv] at hf
   k_is;exact kR (by rw[hf]) _ (Ag.refl _)
 have h1:H1 D=KH (.lst (nV (ofN nm z))):=h1;have hol:=Aa6 nm z;apply{D,rfl,{_,SqL.of h1},?_};refine Ou (SqL.of h1) (λi=>nV (((ofN nm z).take i).filter λv=>decide (k<=v/\v<Bu ds k))) rfl (λi hi=>?_) (λi y H2 R A hy s2 kR kA=>?_) (λD2 H2 hD2 s2 h2=>?_)
 .rw[Bx]
  have:=ke (λv=>decide (k<=v/\v<Bu ds k)) ((ofN nm z).take i);rw[fh] at this;exact Ai ()
 .obtain⟨v,hv,rfl⟩:=Xa hy
  have hvl:=Bq (Tg.mp (f8 hv));have hf:=Zs (p:=λv=>decide (k<=v/\v<Bu ds k)) hv;apply{a,ds,k,v,rfl,s2 _ _ (s1 _ _ ha),hD,(),(),?_};refine{_,rfl,?_};refine Bn (λh=>?_) (λh=>?_)
  .rw[if_pos (decide_eq_true h)] at hf
   apply kA _ _ ?_ (Ag.refl _);rw[hf,Mv]
  .rw[if_neg (λc=>h (of_decide_eq_true c)),gv] at hf
   k_is;exact kR (by rw[hf]) _ (Ag.refl _)
 rw[Bx,fz (d8 _)] at h2;have h2:H2 D2=KH (.lst (nV (jQ (ofN nm z) k (Bu ds k)))):=h2;have hD12:=s2 _ _ h1;apply{D,rfl,{_,SqL.of hD12},?_};refine Ou (SqL.of hD12) (λi=>nV (((ofN nm z).take i).filter λv=>decide (k<=v))) rfl (λi hi=>?_) (λi y H3 R A hy s3 kR kA=>?_) (λD3 H3 hD3 s3 h3=>?_)
 .rw[Bx]
  have:=ke (λv=>decide (k<=v)) ((ofN nm z).take i);rw[fh] at this;exact Ai ()
 .obtain⟨v,hv,rfl⟩:=Xa hy
  have hf:=Zs (p:=λv=>decide (k<=v)) hv;apply Bn (λh=>?_) (λh=>?_)
  .rw[if_pos (decide_eq_true ())] at hf
   apply kA _ _ ?_ (Ag.refl _);rw[hf,Mv]
  .rw[if_neg (λc=>h (by have:=of_decide_eq_true c;lia)),gv] at hf
   k_is;exact kR (by rw[hf]) _ (Ag.refl _)
 rw[Bx,fz (d8 _),wZ (Ph nm z)] at h3;have hD13:=s3 _ _ hD12;have hD23:=s3 _ _ h2;have r3:=SmT.of hT (s1.trans (s2.trans s3));have n1:H D=KI:=hD1;have n2:H D2=KI:=s1.free hD2;have n3:H D3=KI:=(s1.trans s2).free hD3;apply{x,dx,_,rfl,r3.k hx,rfl,?_};apply{x,nm,ds,z,rfl,hI.kp r3.kp,hz,λp4 H4 s4 hp4 h4=>?_};apply{p4,D,_,rfl,(Aj hD13 hp4).symm,h4,s4 _ _ hD13,(),λH5 b5=>?_};have r5:=(r3.then s4).butL ((r3.sm.free hp4)) h4 b5;have hD5:H5 D=_:=b5 _ _ (Aj hD13 hp4) (s4 _ _ hD13);have hE5:H5 D2=_:=b5 _ _ (Aj hD23 hp4) (s4 _ _ hD23);have hG5:H5 D3=_:=b5 _ _ (Aj h3 hp4) (s4 _ _ h3);apply{x,dx,_,rfl,r5.k hx,rfl,?_};apply{x,nm,ds,z,rfl,hI.kp r5.kp,hz,λp6 H6 s6 hp6 h6=>?_};apply{p6,D,_,rfl,(Aj hD5 hp6).symm,h6,s6 _ _ hD5,(),λH7 b7=>?_};have r7:=(r5.then s6).butL (r5.sm.free hp6) h6 b7;have hE7:H7 D2=_:=b7 _ _ (Aj hE5 hp6) (s6 _ _ hE5);have hG7:H7 D3=_:=b7 _ _ (Aj hG5 hp6) (s6 _ _ hG5);have hbl:(jQ (ofN nm z) k (Bu ds k)).9<=(ofN nm z).9:=ke _ _;apply{x,dx,_,rfl,r7.k hx,rfl,?_};apply{x,nm,ds,k,z,rfl,hI.kp r7.kp,r7.ok,hk,hz,λp8 H8 s8 hp8 h8=>?_};apply{p8,D2,_,rfl,(Aj hE7 hp8).symm,h8,s8.k hE7,(),λH9 b9=>?_};have r9:=(r7.trans s8).butL (r7.sm.free hp8) h8 b9;have hE9:H9 D2=_:=b9 _ _ (Aj hE7 hp8) (s8.k hE7);have hG9:H9 D3=_:=b9 _ _ (Aj hG7 hp8) (s8.k hG7);apply{x,dx,_,rfl,r9.k hx,rfl,?_};apply{x,nm,ds,k,z,rfl,hI.kp r9.kp,r9.ok,hk,hz,λp10 H10 s10 hp10 h10=>?_};apply{p10,D2,_,rfl,(Aj hE9 hp10).symm,h10,s10.k hE9,(),λH11 b11=>?_};have r11:=(r9.trans s10).butL (r9.sm.free hp10) h10 b11;have hE11:H11 D2=_:=b11 _ _ (Aj hE9 hp10) (s10.k hE9);have hG11:H11 D3=_:=b11 _ _ (Aj hG9 hp10) (s10.k hG9);apply{x,dx,_,rfl,r11.k hx,rfl,?_};apply{x,nm,ds,k,z,rfl,hI.kp r11.kp,r11.ok,hk,hz,λH12 s12=>?_};have r12:=r11.trans s12;have hE12:=s12.k hE11;have hG12:=s12.k hG11;apply{_,rfl,?_};apply{D2,_,rfl,.inl (SqL.of hE12),?_};rw[Bx];apply iM (λh=>absurd rfl h) (λ_=>?_);apply{x,dx,_,rfl,r12.k hx,rfl,?_};apply{x,nm,ds,k,z,rfl,hI.kp r12.kp,r12.ok,hk,hz,λH13 s13=>?_};have r13:=r12.trans s13;have hG13:=s13.k hG12;apply{few (by simp),λp14 hp14=>?_};obtain⟨u14,h14⟩:=A4 (o:=.lst [V.non]) hp14;have hG14:=u14 _ _ hG13;have r14:=r13.then u14;generalize upd H13 p14 _=H14 at *;have hdl:((ofN nm z).drop (Ck (ofN nm z) k)).9<=(ofN nm z).9:=by rw[gz];lia
 refine{D3,p14,_,_,rfl,rfl,hG14,h14,f9 (Ai (by rw[Bx,jb];lia)),λp15 hp15=>?_};obtain⟨u15,h15⟩:=A4 (o:=.lst (nV ((ofN nm z).drop (Ck (ofN nm z) k))++[V.non])) hp15;have r15:=r14.then u15;generalize upd H14 p15 _=H15 at *;apply Cg (SqL.of h15) (v:=Vv (ofN nm z)[Ck (ofN nm z) k]?) (A9 (j:=0) ?_) ?_
 .rcases tu (Ck (ofN nm z) k) (ofN nm z).9 with l|l
  .rw[fw (by rw[Bx,gz];lia),d9,iz,m7,d4 l]
   rfl
  .rw[jk l,ii l]
   rfl
 apply{_,rfl,?_,?_}
 .cases(ofN nm z)[Ck (ofN nm z) k]? with
  |none=>exact .inl rfl
  |some v=>exact .inr {_,rfl}
 apply{x,dx,_,rfl,r15.k hx,rfl,?_};apply{x,nm,ds,k,z,rfl,hI.kp r15.kp,r15.ok,hk,hz,λH16 s16=>?_};have r16:=r15.trans s16;apply{a,b,ds,nm,k,z,rfl,r16.k ha,r16.k hb,hD,hnl,(),λH17 s17=>?_};apply{_,rfl,?_,?_}
 .unfold Ds
  split
  .exact .inl rfl
  .exact .inr {_,rfl}
 exact q H17 (r16.then s17)
theorem tN (h0:1<=z.9)(h:O5 z=KJ):Hv (Kv z KI (KH 8))=KJ:=by
 have c:=J1 z 8;exact fL (by rw[show(8:Int)=((8:Nat):Int) from rfl,c];lia) (by rw[show(8:Int)=((8:Nat):Int) from rfl,c];lia) (K1 h _ _)
include T ah ZO aC aJ in
theorem Afu (F:Fun K "law" "law" Y6 f fd)(cF:T.ZC "_law_wood" 1 ["_law_digits_here"] wQ)(bv:T.ZC "_law_digits" 2 ["_law_script","_law_at","_law_many"] (iD K))(cG:T.ZC "_law_names" 1 ["_law_digits_here","_law_seed"] qB)(cH:Mkr P w K mg base "Named" ae 10 ["self","wood","names"] (fW K ac ab aa ad ag ae ts))(cI:Mkr P w K mg base "Opened" ad 9 ["self","elders"] (lJ K ac ab aa ad))(cJ:T.ZC "_law_good" 15 ["_law_told","_law_elders","_law_names_here","_law_k","_law_name"] (vQ K ac ab aa ad ag ae ts)):Ar P w K mg base CX0 16 f fd ["_law_script"] (sE K ts):=by
 exists F.ok Hh
 obtain⟨a,ns,rfl,hS,hlen,hT,q⟩:=h;refine⟨_,(Ab (tst 1 Hh.nd (Ak Bd Ae (Ak Cm (At aJ hr.m (tpa (At aC hr.m (tpa (pv 0) (tpa Ae Aa))) (tpa Ae Aa))) Ae))) (Ab (tst 2 Hh.nd (At cF hr.m (tpa (At bv hr.m (tpa (pv 0) (tpa Ae (tpa (pv 1) Aa)))) Aa))) (Ab (tst 3 Hh.nd (At cG hr.m (tpa (At bv hr.m (tpa (pv 0) (tpa Ae (tpa (pv 1) Aa)))) (tpa (At aJ hr.m (tpa (At aC hr.m (tpa (pv 0) (tpa Ae Aa))) (tpa Ae Aa))) Aa)))) (Ab (tst 4 Hh.nd (W8 cH hr.m (tpa (W8 cI hr.m (tpa (pv 2) Aa)) (tpa (Dj Og (by rfl) T.c7 Pw (tpa (pv 3) Aa)) Aa)))) (Ab (tst 5 Hh.nd (Bo (tpa Cw (tpa Cw (tpa (Ak Kb (tix Bk (pv 3) Ae) Cw) (tpa (Cf K0 (tix Bk (pv 3) (Fz C8 Ae)) Hb (B3 Ae)) Aa)))))) (Ab (C5 ig rfl (Mm rfl T.cV (tpa (Ak Iq (Cf Ox (pv 0) (B3 Ae) (B3 Ae)) (Bo (tpa (Ao Au (by rfl) T.cK Ch (tpa (pv 0) Aa)) Aa))) Aa)) (Kh rfl (B4 (tgn 6 Hh.nd) (B4 (tgn 7 Hh.nd) G7))) (Ab (tst 8 Hh.nd (At aJ hr.m (tpa (pv 7) (tpa (pv 6) Aa)))) (Ab (tst 9 Hh.nd (tix Bk (pv 3) (Ak Cm (Ak Cr (pv 8) Ae) (pv 1)))) (Ab (zQ (ttc Dt (Ak Cm (pv 8) Ae) Ae) (Ad (tst 9 Hh.nd (Cf K0 (tix Bk (pv 5) (Ak Cm (Ak Cr (pv 8) Ae) Ae)) Hb (B3 Ae))))
  Aw) (Ad (Bp (Cl (Bv (At cJ hr.m (tpa (pv 4) (tpa (pv 2) (tpa (pv 3) (tpa (Ak Cm (Ak Cr (pv 8) Ae) (pv 1)) (tpa (pv 9) Aa)))))))) (Ad (Am Jo))
  Aw)))))) (Ad (Am Jo)))))))),?_⟩
 apply{a,ns,0,rfl,hS,λc0=>?_};apply{c0,1,rfl,by decide,by decide,λr0 h0 h1=>?_};k_is;obtain⟨m,hm,hm0,hm1⟩:∃m:Nat,1+r0%60=(m:Int)/\1<=m/\m<=60:={(1+r0%60).toNat,(),(),()};rw[hm];apply{a,ns,2,m,rfl,hS,(),(),λp1 gs1 H1 s1 _ hp1 hg1=>?_};rw[gu] at hg1;apply{p1,gs1,rfl,hp1,(),λe ds H2 s2 _ he2 hD hdl=>?_};have s12:=s1.trans s2;apply{a,ns,13,m,rfl,s12.seq hS,(),(),λp3 gs3 H3 s3 _ hp3 hg3=>?_};rw[gu] at hg3;have s13:=s12.trans s3;apply{a,ns,1,rfl,s13.seq hS,λc1=>?_};apply{c1,2,rfl,by decide,by decide,λsd _ _=>?_};apply{p3,gs3,sd,rfl,hp3,(),λg nm H4 s4 _ hg4 hnl hnm=>?_};have s14:=s13.trans s4;have he4:=s4 _ _ (s3 _ _ he2);k_is;intro w1 dw hw1 hdw1 hwd;refine{w1,dw,e,ds,rfl,Af,Lz hw1 hdw1 _ _ he4,hD,(),λH5 s5 hO5=>{rfl,?_}};have s5:=Je hw1 hdw1 s5;have s15:=s14.trans s5;have hg5:=s5 _ _ hg4;have he5:=s5 _ _ he4;apply{g,_,rfl,.inl (SqL.of hg5),λhd hhd=>?_};obtain⟨u6,hd6⟩:=A4 (o:=.lst (sV nm)) hhd;have hg6:=u6 _ _ hg5;have he6:=u6 _ _ he5;have hO6:=hO5.kp (Ag.kp u6);have s16:=s15.trans u6;generalize upd H5 hd _=H6 at *;have hT6:=hT.same s16;k_is;intro x dx hx6 hdx hxd;have hs0:Ag H6 (upd (upd H6 dx (.own x)) x (.ins ae dx [])):=λb u e=>Lz hx6 hdx b u e;refine{x,dx,w1,hd,nm,ds,rfl,Af,hO6.kp (Ag.kp hs0),hs0 _ _ hd6,hnm,(),(),hT6.same hs0,λH7 b7 hI7=>{rfl,?_}};have k7:SmT ts H6 H7:=SmB.made hx6 hdx b7;have hg7:=k7.k hg6;have he7:=k7.k he6;have r7:=(SmT.of hT s16).trans k7;obtain⟨y0,hy0⟩:∃y,nm[0]?=KH y:={_,d4 ()};obtain⟨y1,hy1⟩:∃y,nm[nm.9-1]?=KH y:={_,d4 ()};have hn0:=hnm _ (f8 hy0);have hn1:=hnm _ (f8 hy1);have hl0:=L8 hn0;have hl1:=L8 hn1;apply Cg (SqL.of hg7) (v:=.str y0) (A9 (j:=0) (by rw[d9,hy0];rfl)) ?_;apply{_,_,rfl,rfl,f9 (Ai (by rw[show("q":Str).9=1 from rfl];lia)),?_};apply Cg (SqL.of hg7) (v:=.str y1) (Tf (by rw[Fg,d9,hy1];rfl)) ?_;apply Ug (f9 (Ai ())) ?_;apply{few (by simp),λot hot=>?_};obtain⟨os,hos,hol,hon⟩:∃os:Za6,sV os=[V.str "zz",V.str "a",V.str (y0++"q"),V.str (Kv y1 KI (KH 1))]/\os.9=4/\∀z∈os,1<=z.9/\z.9<=9/\O5 z=KJ:=by
  refine{["zz","a",y0++"q",Kv y1 KI (KH 1)],rfl,rfl,λz hz=>?_};have c0:=eW y0 "q";have c1:=J1 y1 1;rw[show("q":Str).9=1 from rfl] at c0;have c1:(Kv y1 KI (KH 1)).9=min 1 y1.9:=c1;simp only[ir,lw,or_false] at hz;rcases hz with rfl|rfl|rfl|rfl
  .exact{by decide +kernel,by decide +kernel,by decide +kernel}
  .exact{by decide +kernel,by decide +kernel,by decide +kernel}
  .exact{(),(),Vo (Ty hn0) (by decide +kernel)}
  .exact{(),(),K1 (Ty hn1) _ _}
 rw[<-hos] at *;obtain⟨u8,ho8⟩:=A4 (o:=.lst (sV os)) hot;have r8:=r7.then u8;have k8:=k7.then u8;have hg8:=u8 _ _ hg7;have he8:=u8 _ _ he7;have hI8:=hI7.kp (Ag.kp u8);generalize upd H7 ot _=H8 at *;have hS8:=r8.sm.seq hS;clear u8 k8 hI7 k7 b7 r7 hot hos;apply{a,_,rfl,hS8,λc1 hc1=>?_};obtain⟨ms,hms,hml⟩:=zA ns (KH 24) (KH 54);rw[hms];obtain⟨u9,hc9⟩:=A4 (o:=.lst (ms.map V.int)) hc1;have r9:=SmT.of r8.ok u9;generalize upd H8 c1 _=H9 at *;apply{a,_,rfl,.inl (r9.sm.seq hS8),?_};apply{few (by simp),λc2 hc2=>?_};obtain⟨u10,hc20⟩:=A4 (o:=.lst [V.int ((ns.map V.int).9:Nat)]) hc2;have hc10:=u10 _ _ hc9;have r10:=r9.then u10;generalize upd H9 c2 _=H10 at *;refine{c1,c2,_,_,rfl,rfl,hc10,hc20,f9 (Ai (by rw[d7,jb];lia)),λc3 hc3=>?_};rw[show ms.map V.int++[V.int ((ns.map V.int).9:Nat)]=(ms++[((ns.map V.int).9:Int)]).map V.int by rw[fi];rfl];obtain⟨u11,hc11⟩:=A4 (o:=.lst ((ms++[((ns.map V.int).9:Int)]).map V.int)) hc3;have r11:=r10.then u11;generalize upd H10 c3 _=H11 at *;obtain⟨zs,hzs,hzl⟩:∃zs:List Int,ms++[((ns.map V.int).9:Int)]=zs/\zs.9<=64:={_,rfl,by rw[eg,jb];lia};rw[hzs] at hc11;clear u9 u10 u11 r9 r10 hc9 hc10 hc20;apply{c3,rfl,{_,SqL.of hc11},?_};refine K5 (xs:=zs.map V.int) (λk G H12=>(∃v6 v7 v8 v9:Option V,G=[KH (.ref a),KH (.int m),KH (.ref e),KH (.ref g),KH (.ref x),KH (.ref ot),v6,v7,v8,v9])/\SmT ts H11 H12) {{_,_,_,_,rfl},SmT.refl r11.ok} (λk G H12 _ h=>SqL.of (h.2.k hc11)) ?_ ?_
 .rintro k y G H12 t hy ⟨⟨v6,v7,v8,v9,rfl⟩,s12⟩ ht
  have hkl:=Bq hy;rw[d7] at hkl;obtain⟨cl,hcl,rfl⟩:=P7 hy;have s13:=s12.then (An (o:=.tup [.int k,.int cl]) ht);generalize upd H12 t _=H13 at *;have r13:=r11.trans s13;apply{cl,k,rfl,(),(),λr h0 h1=>?_};apply Zz () ?_;k_is;obtain⟨i,hi,hil⟩:∃i:Nat,r/64%(m:Int)=(i:Int)/\i<m:=by
   have h2:=mi (r/64) (show(m:Int)≠0 by lia);have h3:=ku (r/64) (show(0:Int)<m by lia);exact{(r/64%(m:Int)).toNat,(),()}
  rw[hi];obtain⟨z,hz⟩:∃z,nm[i]?=KH z:={_,d4 ()};refine Cg (SqL.of (r13.k hg8)) (v:=.str z) (A9 (by rw[d9,hz];rfl)) ?_;apply Ac1 (λG H14=>H14=H13/\∃z:Str,Hv z=KJ/\G=[KH (.ref a),KH (.int m),KH (.ref e),KH (.ref g),KH (.ref x),KH (.ref ot),KH (.int k),KH (.int cl),KH (.int r),KH (.str z)]) ?_ ?_
  .apply Bn (λ_=>?_) (λ_=>?_)
   .k_is
    obtain⟨j,hj,hjl⟩:∃j:Nat,r/64%4=(j:Int)/\j<4:={(r/64%4).toNat,(),()};rw[hj];obtain⟨y,hy⟩:∃y,os[j]?=KH y:={_,d4 ()};obtain⟨o1,o2,o3⟩:=hon y (f8 hy);refine Cg (SqL.of (r13.k ho8)) (v:=.str y) (A9 (by rw[d9,hy];rfl)) ?_;apply Ug (f9 (Ai ())) ?_;k_is;exact{rfl,_,tN o1 o3,rfl}
   .k_is
    exact{rfl,z,hnm z (f8 hz),rfl}
  rintro G H14 ⟨rfl,z,hzn,rfl⟩;apply Zz () ?_;k_is;obtain⟨i,hi,hil⟩:∃i:Nat,r/8%(m:Int)=(i:Int)/\i<m:=by
   have h2:=mi (r/8) (show(m:Int)≠0 by lia);have h3:=ku (r/8) (show(0:Int)<m by lia);exact{(r/8%(m:Int)).toNat,(),()}
  rw[hi];refine{x,e,g,nm,ds,i,z,rfl,hI8.kp r13.kp,r13.ok,r13.k he8,r13.k hg8,hD,(),hzn,λH15 s15=>?_};k_is;exact{{_,_,_,_,rfl},s13.trans s15}
 .rintro G H12 ⟨⟨v6,v7,v8,v9,rfl⟩,s12⟩
  k_is;exact q H12
end
set_option maxHeartbeats 8000000 in
theorem all_mk:AllMk:=by
 intro l w K h mg fa X G hfa ac ab ag ae aa ad bn bo f26 ai1 ai2 ai3 ai4 ai5 ai6 ai7 ai8 ah1 f33 ai9 ah2 aj0 aj1 ah3 ah4 ah5 ag1 ah6 T33 ah7 ah8 aj2 f78 aj3 aj4 aj5 aj6 aj7 aj8 aj9 ak0 ah9 f83 ak1 ak2 ak3 ak4 ak5 ak6 ak7 ak8 ai0 ao aa3 aa4 ac1 ap aa1 aa2 ab9 ae0 ae1 ad5 ad6 ae2 ac2 ad1 ad7 ac3 ad2 ae6 ae3 ac8 ad3 ab8 aa0 aa5 ac6 ab1 ad8 ab7 ad4 ac7 ac9 ac4 g0 g1 g2 g3 g4 g5 g6 g7 g8 g9 g10 g11 g12 g13 g14 g15 g16 g17 g18 g19 g20 g21 g22 g23 g24 g25 i26 a26 l26 c26 k26 ag2 ag3 g27 g28 g29 g30 g31 g32 i33 a33 l33 c33 k33 af9 ag0 ag4 g34 g35 g36 g37 g38 g39 g40 g41 g42 g43 g44 g45 g46 g47 g48 g49 g50 g51 g52 g53 g54 g55 g56 g57 g58 g59 g60 g61 g62 g63 g64 g65 g66 g67 g68 g69 g70 g71 g72 g73 g74 g75 g76 g77 i78 a78 l78 c78 k78 ag5 ag6 g79 g80 g81 g82 i83 a83 l83 c83 k83 ag7 ag8 g84 g85 g86 g87 g88 g89 g90 g91 g92 g93 g94 g95 g96 g97 g98 g99 ag9 ah0 cU ab2 ab3 ab4 ab5 ab6 df aa6 aa7 aa8 aa9 ab0 cL c6 cP cX da cY cR c8 de cZ dg ae4 af0 af1 ae7 af2 ac0 ae8 ae5 ae9 ac5 af3 af4 af5 af6 af7 ad9 af8 ad0;obtain⟨f101,d101,al3,aw7⟩:=ah0;obtain⟨_,_,al4,al5,al6,al7,al8,al9,_,rfl,_,_⟩:=al3.ex;have e:=hfa.symm.trans (jw X G aw7);cases e;have dn:∀H,SqT K H ao (Y0.map λn:Nat=>V.int n):=λH=>.inr ⟨aa3,aa4,ac1,ab2,ab3,ab4,ab5,ab6⟩;have dy:∀H,SqT K H ap (qA):=λH=>.inr ⟨aa1,aa2,ab9,aa6,aa7,aa8,aa9,ab0⟩;have T0:∀base:jm,Txt l.prog w base tz K mg ao ap:=λ_=>{jw X G cU,dn,jw X G df,dy,{_,jw X G cL},{_,jw X G c6},{_,jw X G cP},{_,jw X G cX},{_,jw X G da},{_,jw X G cY},{_,jw X G cR},{_,jw X G c8},{_,jw X G de},{_,jw X G cZ},{_,jw X G dg},k5 X G ae4,k5 X G af0,k5 X G af1,k5 X G ae7,k5 X G af2,k5 X G ac0,k5 X G ae8,k5 X G ae5,k5 X G ae9,k5 X G ac5,k5 X G af3,k5 X G af4,k5 X G af5,k5 X G af6,k5 X G af7,k5 X G ad9,k5 X G af8,k5 X G ad0};have Qf:Qf K ac:={ac8.cl,ac8.no 0,ac8.no 1,ac8.no 2};have Qd:Qd K ab:={ab8.cl,ab8.no 0,ab8.no 1,ab8.no 2};have Qe:Qe K ag:={aa5.cl,aa5.no 0,aa5.no 1};have Qc:Qc K ae:={ab1.cl,ab1.no 0,ab1.no 1,ab1.no 2,ab1.no 3,ab1.no 4,ab1.no 5};have Qa:Qa K aa:={ab7.cl,ab7.no 0,ab7.no 1,ab7.no 2,ab7.no 3,ab7.no 4};have Qb:Qb K ad:={ac7.cl,ac7.no 0};have F26:=gB (st:=Bi) l26 c26 k26 ag2 ag3;have b26:=F26.binds (ps:=["self","bit","nth"]) λ_ _ _ _ _ _=>us3 λ_ _ _=>rfl;have F33:=Acu (st:=B5) l33 c33 af9 ag0;have b33:=F33.binds (ps:=["self","order","step"]) λ_ _ _ _ _ _ _ us hl=>match us,hl with | [_,_,_],_=>⟨_,rfl,λ_=>rfl⟩
 have F78:=gB (st:=Dc) l78 c78 k78 ag5 ag6;have b78:=F78.binds (ps:=["self","wood","names"]) λ_ _ _ _ _ _=>us3 λ_ _ _=>rfl;have F83:=gB (st:=Br) l83 c83 k83 ag7 ag8;have b83:=F83.binds (ps:=["self","k","name"]) λ_ _ _ _ _ _=>us3 λ_ _ _=>rfl;refine{jl "law" "law" (B2 Y6) (Bj Y6) (Ac Y6) .none al4 al5 al6 al7 al8 al9,λs v=>.of_eq rfl,λbase hK _ hB=>?_};have T:=T0 base;have V0:=GD.cal X G g0 λF=>lC T F;have V1:=GD.cal X G g1 λF=>gQ T V0 F;have V2:=GD.cal X G g2 λF=>fN T V1 F;have V3:=GD.cal X G g3 λF=>Ux T V1 F;have V4:=GD.cal X G g4 λF=>Rn T V3 F;have V5:=GD.cal X G g5 λF=>Xn T V1 F;have V6:=GD.cal X G g6 λF=>nZ T F;have V7:=GD.cal X G g7 λF=>Ve T F;have V8:=GD.cal X G g8 λF=>nX T F V7;have V9:=GD.cal X G g9 λF=>tI T F;have V10:=GD.cal X G g10 λF=>mV T F;have V11:=GD.cal X G g11 λF=>lI T F V10;have V12:=GD.cal X G g12 λF=>iI T F;have V13:=MD.mkr X G ae3 g13 λF=>W4 T Qf F V9 V11;have V14:=MD.mth Qf.cl g14 λF=>W5 T Qf F;have V15:=MD.mth Qf.cl g15 λF=>W1 T Qf F;have V16:=MD.mth Qf.cl g16 λF=>Wr T Qf V4 F V12;have V17:=MD.mth Qf.cl g17 λF=>W6 T V3 Qf F;have V18:=GD.cal X G g18 λF=>Ye T F;have V19:=GD.cal X G g19 λF=>Sz T F;have V20:=GD.cal X G g20 λF=>Ol T V6 F V19;have V21:=MD.mkr X G ad3 g21 λF=>Wz T Qd F V14 V15 V20;have V22:=MD.mth Qd.cl g22 λF=>Qr T V6 Qd F;have V23:=MD.mth Qd.cl g23 λF=>Ws T V3 Qd V2 F V22;have V24:=MD.mth Qd.cl g24 λF=>Qi T Qd F;have V25:=MD.mth Qd.cl g25 λF=>Qv T Qd V24 F;have V26:Mth l.prog w K mg base ab "block_with" 4 ["self","bit","nth"] (K8 K ab tz):={{f26,_,Qq T Qd V24 hK (hB (429,425) (by simp)) V18 F26 gr,b26,⟨a26,i26,k26⟩},Qd.cl};have V27:=MD.mth Qd.cl g27 λF=>Qs T V6 Qd F V8;have V28:=MD.mth Qd.cl g28 λF=>Q9 T V3 Qd V2 V24 F V25 V26 V27;have V29:=GD.cal X G g29 λF=>fI T V21 V13 F;have V30:=GD.cal X G g30 λF=>Xc T V1 F;have V31:=GD.cal X G g31 λF=>eJ T F;have V32:=GD.cal X G g32 λF=>Sy T F V31;have V33:Aiv l.prog w K mg base "Shortcuts" ag 4 ["self","order","step"] (Mu ag):={{f33,_,Qg T Qe F33 V30 V32,b33,⟨aa0.ma,a33,i33,aa0.kc⟩,jw X G aa0.a}};have ax0:=iF.bindsD (x:="__init__") (qual:="Shortcuts.__init__") (st:=B5) (ps:=["self","order","step"]) (kV:=ah3) (doc:=ah4) (pm:=ah5) (cdv:=ag1) (ct:=ah6) (an:=ah2) af9 ag0 rfl (us2 λ_ _=>{_,rfl,rfl});have ax1:vP l.prog w K mg base "Shortcuts" ag 4 ["self","order","step"] (Mu ag) [.int 16]:={{f33,_,_,Qg T Qe F33 V30 V32,ax0,.cons ag4 .nil,⟨aa0.ma,a33,i33,aa0.kc⟩,jw X G aa0.a}};have V34:=MD.mth Qe.cl g34 λF=>We T Qe F;have V35:=GD.cal X G g35 λF=>Xs T F;have V36:=GD.cal X G g36 λF=>dS T F;have V37:=BD.calC X G ac9 g37 λF=>Wt T Qa F;have V38:=MD.mth Qa.cl g38 λF=>Qu T Qa F V23;have V39:=MD.mth Qa.cl g39 λF=>Wf T Qa V38 F;have V40:=MD.mth Qa.cl g40 λF=>Wp T Qa F V16;have V41:=MD.mth (sp:=(eR K ac ab aa)) Qa.cl g41 λF=>Wu T Qa F;have V42:=MD.mth (sp:=(Z3 K ac ab aa)) Qa.cl g42 λF=>Wv T Qa V40 F;have V43:=MD.mkr X G ad8 g43 λF=>W3 T V21 V13 Qa V36 V39 V35 F V37;have V44:=MD.mth Qa.cl g44 λF=>Q8 T Qa F;have V45:=MD.mth (sp:=(R1 K ac ab aa)) Qa.cl g45 λF=>Wj T Qa F;have V46:=MD.mth Qa.cl g46 λF=>Wk T Qa V44 V45 F;have V47:=MD.mth (sp:=(Rg K ac ab aa)) Qa.cl g47 λF=>Qw T Qa V44 F;have V48:=MD.mth Qa.cl g48 λF=>Qh T Qa V40 V39 V35 F;have V49:=MD.mth Qa.cl g49 λF=>Ql T Qa V48 F;have V50:=MD.mth Qa.cl g50 λF=>Qk T Qa V48 F;have V51:=GD.cal X G g51 λF=>Sv T V0 F;have V52:=MD.mth Qa.cl g52 λF=>Wb T V3 Qa V51 V46 V47 F V49;have V53:=MD.mth Qa.cl g53 λF=>Wa T V3 Qa V51 V46 V47 F V50;have V54:=MD.mth (sp:=(Uf K ac ab aa)) Qa.cl g54 λF=>Q7 T Qa F V17;have V55:=MD.mth Qa.cl g55 λF=>Wc T Qa V39 V54 V52 V53 F;have V56:=MD.mth Qa.cl g56 λF=>Qn T Qa V44 V45 F;have V57:=MD.mth Qa.cl g57 λF=>Qj T Qa V44 V48 F V56;have V58:=MD.mth Qa.cl g58 λF=>Wg T V4 Qa V39 V46 V52 F V57;have V59:=MD.mth (sp:=(N1 K ac ab aa tz)) Qa.cl g59 λF=>Wo T Qa F V28;have V60:=GD.cal X G g60 λF=>oQ T V0 F;have V61:=GD.cal X G g61 λF=>gH T F;have V62:=GD.cal X G g62 λF=>sY T F V61 V60;have V63:=GD.cal X G g63 λF=>fK T V36 F;have V64:=BD.calC X G ac4 g64 λF=>Wn T Qb F;have V65:=MD.mkr X G ad4 g65 λF=>W0 T Qb F V62 V43 V64;have V66:=MD.mth Qb.cl g66 λF=>Qm T Qb F V41;have V67:=MD.mth Qb.cl g67 λF=>Wx T Qb F V42;have V68:=MD.mth Qb.cl g68 λF=>Wd T Qb F V63 V67;have V69:=MD.mth Qb.cl g69 λF=>Q6 T Qb V5 V66 F V59;have V70:=MD.mth Qb.cl g70 λF=>Q0 T Qb V55 V69 F;have V71:=MD.mth Qb.cl g71 λF=>Q4 T V38 V54 Qb V55 F;have V72:=MD.mth Qb.cl g72 λF=>Qz T Qb V69 F V70;have V73:=MD.mth Qb.cl g73 λF=>Q5 T V53 Qb V69 F V58 V71;have V74:=GD.cal X G g74 λF=>oM T F;have V75:=GD.cal X G g75 λF=>Vf T V74 F;have V76:=GD.cal X G g76 λF=>S8 T F;have V77:=GD.cal X G g77 λF=>Nt T F;have V78:Mkr l.prog w K mg base "Named" ae 10 ["self","wood","names"] (fW K ac ab aa ad ag ae tz):={{f78,_,W2 T hK (hB (562,560) (by simp)) V66 Qc Qb F78 (gt _ gr) V75 ax1 V29 V76 V77 V68,b78,⟨ac6.ma,a78,i78,ac6.kc⟩,jw X G ac6.a}};have V79:=MD.mth (sp:=(Rk K ac ab aa ad ag ae)) Qc.cl g79 λF=>Wi T Qc V34 F;have V80:=GD.cal X G g80 λF=>X8 T V74 F;have V81:=MD.mth (sp:=(nQ K ac ab aa ad ag ae)) Qc.cl g81 λF=>Qx T V5 V66 Qc V80 F;have V82:=MD.mth (sp:=(T7 K ac ab aa ad ag ae)) Qc.cl g82 λF=>Wm T Qc F;have V83:Mth l.prog w K mg base ae "first_from" 4 ["self","k","name"] (Lv K ac ab aa ad ag ae tz):={{f83,_,Qy T hK (hB (651,647) (by simp)) V18 Qc V34 V82 F83 (gt _ (gt _ gr)),b83,⟨a83,i83,k83⟩},Qc.cl};have V84:=MD.mth Qc.cl g84 λF=>Qp T Qc V81 V83 F V72;have V85:=MD.mth Qc.cl g85 λF=>Ww T Qc V80 V82 V79 F;have V86:=MD.mth Qc.cl g86 λF=>Qo T Qc V84 F;have V87:=MD.mth Qc.cl g87 λF=>Qt T Qc V79 V84 F;have V88:=MD.mth Qc.cl g88 λF=>Wl T Qc V34 V82 V81 V83 F;have V89:=MD.mth Qc.cl g89 λF=>Wh T Qc V34 V82 V81 V83 F V73;have V90:=GD.cal X G g90 λF=>Xb T F;have V91:=GD.cal X G g91 λF=>gE T F;have V92:=GD.cal X G g92 λF=>fO T F;have V93:=GD.cal X G g93 λF=>Xv T V90 V92 F;have V94:=GD.cal X G g94 λF=>kO T F;have V95:=GD.cal X G g95 λF=>dR T F;have V96:=GD.cal X G g96 λF=>eS T F;have V97:=GD.cal X G g97 λF=>dY T F;have V98:=GD.cal X G g98 λF=>jJ T V91 F;have V99:=GD.cal X G g99 λF=>mJ T V91 F;have ax9:=GD.cal X G ag9 λF=>iX T Qc V91 F V96 V85 V98 V87 V86 V88 V99 V89 V97;exact Afu T Qc Qb V90 V92 al3 V94 V93 V95 V78 V65 ax9
end _K
end
theorem PySem.Challenge.cw_tightwood_k65_names_beneath_holds : PySem.Challenge.rw_tightwood_k65_names_beneath.Holds :=
 _K.HEAD @_K.all_mk
